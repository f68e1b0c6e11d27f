import PyProof.Rows.All
import Wide.All
import OpenK.AllK
import Wide.FinOn
import Lean
import PyProof.EqAt
import PyProof.EqKinds
import PyProof.TupleCall
import PyProof.NsDelKeeps
import PyProof.ListRange
import PyProof.ExcArgsOwn
import PySem.Challenge.RW_edgetally_k22_whole_paper_adds_up
set_option Elab.async false
set_option linter.all false
set_option genSizeOf false
set_option compiler.extract_closed false
set_option bootstrap.genMatcherCode false
set_option maxHeartbeats 8000000
set_option maxRecDepth 100000
noncomputable section
open And renaming intro→UV
open Array renaming length_toList→NS,getElem?_eq_some_iff→On,getD→PX,getElem?_eq_none→P8,getElem?_toList→Qh,forIn_toList→QU,getElem_toList→Re,getElem?_eq_getElem→RU,getElem?_extract→UN,getElem?_push→Vo,append_assoc→Vz,size_extract→VA,toList_push→VW
open Bool renaming true→M2,false→M4,false_ne_true→Ni,false_eq_true→Np,and_eq_true→NO,not_true→OI,not_false→PF,and_self→Rf,false_and→RO,true_and→Sd,eq_iff_iff→SJ,and_eq_true_iff→Vp
open Classical renaming byContradiction→Ry
open Except renaming ok→Pa
open False renaming elim→PD
open ForInStep renaming yield→Sf
open Function renaming comp→RQ
open Int renaming toNat_natCast→OJ,natCast_add→Qi,zero_add→Q7,emod_nonneg→Rz,emod_lt_of_pos→RX,fdiv_eq_ediv_of_nonneg→RY,natAbs_natCast→Th,le_refl→VE
open List renaming length_map→MZ,mem_cons_of_mem→M5,getElem?_eq_getElem→M6,getElem?_map→M9,getD_eq_getElem?_getD→Na,mem_cons_self→Nb,range→Nd,getElem?_eq_some_iff→Nj,map_map→Nk,map_cons→Nl,length_cons→Nm,mem_cons→Nq,size_toArray→Nv,mem_map→Nw,replicate→Nx,length_append→Ny,mem_range→Nz,mem_of_getElem?→NB,length_range→ND,sum_cons→NJ,map_append→NR,map_congr_left→NT,mem_singleton→NU,append_nil→NV,replicate_succ→NX,mem_append_right→N1,length_set→N7,getElem?_set→N9,getElem_mem→Oa,nodup_cons→Ob,length_singleton→Og,flatMap_cons→Om,getElem?_range→Oq,drop_eq_getElem_cons→Ot,append_assoc→Oy,mem_append→OE,nil_append→OF,map→OG,not_mem_nil→OH,cons_append→OM,length_replicate→ON,length_take→OQ,take_of_length_le→OR,filterMap_cons→OU,sum→OY,map_nil→OZ,mem_replicate→O3,map_flatMap→O5,mem_flatMap→O6,getElem?_append_right→O7,mem_or_eq_of_mem_set→O9,set_cons_succ→Pc,set_cons_zero→Pd,zip_cons_cons→Pe,length_nil→Pq,getD_cons_succ→Pt,getD_cons_zero→Pw,take_length→Pz,pairwise_iff_getElem→PM,find?_cons→PQ,flatten_cons→PU,mem_append_left→PV,replicate_zero→P4,getElem?_replicate→P5,drop_eq_nil_of_le→P9,map_replicate→Qa,forIn_cons→Qf,range_succ→Qg,take_append_drop→Qm,forIn_nil→Qq,all_eq_true→Qv,drop_length→Qw,exists_cons_of_length_eq_add_one→Qx,ext_getElem→Qy,getElem_map→Qz,getElem?_append_left→QB,flatMap_append→QG,length_zip→QW,getElem_range→QZ,pairwise_cons→Q0,flatMap_eq_nil_iff→Q2,take_add_one→Q5,getElem?_eq_none→Rc,any_cons→Ri,map_drop→Rj,length→Rt,lookup→Ru,map_set→RG,zipWith→RH,mem_filterMap→RT,getElem?_eq_none_iff→R4,pairwise_map→R8,reverse_cons→R9,all_cons→Sg,flatMap_map→Sw,length_eq_zero_iff→Sx,lookup_cons→Sy,pairwise_singleton→Sz,range_succ_eq_map→SD,mem_filter→SL,getElem?_toArray→SQ,getElem?_append→SV,getElem_of_mem→S6,map_take→Ta,map_inj_right→Tg,nodup_append→Tz,zip_nil_left→TC,filter_cons→TN,length_drop→TR,nodup_range→TU,map_id→TY,filter_map→T7,of_mem_zip→T8,sum_append→T9,getElem?_take_of_lt→UI,getElem?_cons_succ→UP,filter_eq_nil_iff→U1,flatMap→U2,getElem?_set_self→U3,getElem?_set_ne→Vs,getElem_reverse→Vt,mem_of_mem_take→Vu,filter_flatMap→VF,filter_sublist→VG,length_reverse→VH,length_zipWith→VI,filterMap_map→VY,foldl→VZ,getElem?_drop→V0,any_eq_false→Wk,ext_getElem?→Wl,filter_congr→Wm
open List.Pairwise renaming nil→SK
open List.Perm renaming of_eq→Ti
open List.cons renaming injEq→P6
open Max renaming max→Vy
open Min renaming min→Qk
open Nat renaming le_refl→Nh,le_trans→NG,lt_of_lt_of_le→NH,lt_irrefl→Oc,ne_of_lt→Od,zero_le→OC,lt_of_le_of_lt→Pi,zero_add→Pl,not_lt_zero→Pr,sub_self→Px,mul_comm→PY,ne_of_gt→Qc,lt_trichotomy→Qo,mul_left_comm→Q8,le_add_right→Rk,mul_assoc→Rv,mul_le_mul_right→Rw,lt_trans→RM,le_succ→Sh,lt_succ_of_lt→Si,le_of_lt→SM,pow_le_pow_right→SW,lt_or_ge→TK,lt_succ_self→TZ,div_le_self→Uf,add_le_add→Uz,mod_lt→UA,add_sub_cancel_left→U4,le_mul_of_pos_right→U5,add_comm→U7,div_div_eq_div_mul→U8,add_mul→VJ,add_le_add_left→V2
open Option renaming some→on,none→MY,map_some→Ol,bind_some→OD,map_none→QI,map_eq_some_iff→SA,isSome_iff_exists→Uu,getD_none→V3,getD_some→V4
open Option.some renaming inj→NN,injEq→UJ
open Or renaming inl→Po,inr→QR
open Prod renaming ext→Qr,ext_iff→RI
open Pure renaming pure→Pn
open PyProof renaming noPylong_of_log2→Ug
open PyProof.Rows renaming callWith_type1→OK,seqObj→Qu,slot_tuple_getitem→QS,envOfC→Rl,AllBare→R6,listUpdate_at→SO,subscriptTail_builtinR→S3,IntsAre→UZ,subscriptTail→VT
open PyProof.Rows.IsTup renaming new→Wj
open PySem renaming wpAny_bind→My,wpAny_pure→M0,Addr→M3,Value→M7,Shared→Ng,wpAny→Nn,starEach→No,sizeLine→Nr,FuncData→NK,model→NL,Obj→NM,Program→NQ,Str→NY,World→N0,wpAny_call_entry→N2,foldedSetIterable→N5,wpAny_newObj_type→N6,wpAny_mono→Oe,SetTable→Of,Around→Oj,wpAny_truthy_bool→Oo,eval→Op,compareOp→Ou,wpAny_field→Ov,Heap→Ox,mem_of_lookup→Oz,Stmt→OA,wpAny_holding→OB,wpAny_setField_rec→OL,Comprehension→OT,cellsFrom→OW,wpAny_setState_of→O0,wpAny_seqItems→O4,treeTable→O8,keywordEach→Pf,mainGlobals→Pg,sizeLine_eq→Ph,wpAny_standAt→Pp,backTo→Ps,wpAny_isInstance→PL,binaryOp→PR,wpAny_specialOf→P0,wpAny_comprehension_free→P7,IsPair→Qb,wpAny_typeNameOfWhole_itemiter→Qd,backToKw→Qp,NameKind→QH,sliceBounds→QL,wpAny_of_eq→QN,wpAny_rule→QO,DictEntry→QV,bootBuiltins→QX,standAt→QY,wpAny_typeNameOf_itemiter→Q1,attributeBase→Q4,codeAny→Q6,firstArgMember→Rm,holding→Ro,pyNext→Rp,rawInt→Rq,wpAny_setField→Rr,swapsWith→RE,wpAny_askSetting→RF,behindInMarks→RJ,wpAny_attempt→RK,Pos→RN,assign→R0,letOwnedTupleGo→R1,wpAny_passesOwn→R3,cLine→R5,codeAny_mono→Sc,IsItemIter→Sj,Paired→Sk,Fin→Sn,isSubtype_type→Ss,wpAny_Call_Name_kw→Sv,IsZip→SC,wpAny_dictEntries→SG,wpAny_pyIter_list→SH,wpAny_pyIter_slot→SI,wpAny_forIn_list→SS,OsState→SX,assignEach→SY,intKind→SZ,wpAny_isOneOf_itemiter→S4,wpAny_pyIter_rangeiter→S5,builtinLookup_eq_fast→Td,isSubtype_tuple_tuple→Te,Within→Tj,pyIter→Tp,wpAny_fieldsOf→Tq,wpAny_letGo→Ts,wpAny_updateSeq_pair→Tt,BindsTo→Tu,Keyword→Tx,getMethod→TD,wpAny_setEntries_of→TM,wpAny_onRaise→TV,isInstance→T0,sysModules→T1,wpAny_pyIter_tuple→T3,wpAny_tupleItemsOf→T4,Env→Ud,boot_len→Uh,atKey→Ui,call→Uj,callerA→Uk,ofAClassStatement→Ul,searchCouldBeSeen→Uo,wpAny_assign_Name→Uq,IsPart→Uy,Params→UB,noFill_tuple_add→UD,pickOrder→UE,Draws→UF,IsRangeIter→UH,again→UM,codeAny_builtin→UR,typeLookup_type→US,wpAny_dictEpoch→UT,wpAny_execs_nil→UU,builtinsNs→Vc,call_meets→Vd,compPost→Vf,entryFor_alias→Vg,intItems→Vh,isSubtype_stop→Vi,newFunctionEnv→Vk,setField→Vl,wpAny_newTuple→Vn,call→VQ,evalPart_none→VR,seq_tuple_add→VS,wpAny_getItem_list_slice→VU,wpAny_handled→VV,list_append→V8,bindC→Wa,bindL→Wb,eqIsQuiet→Wc,field→Wd,lastMarks→We,slicePick→Wf,getItem→Wq,newExc→Wt,seqIndex_neg→Wu,wpAny_Call_method_late→Wv,wpAny_pyNext_range_end→Ww,wpAny_typeOf→Wx
open PySem.Around renaming under→Tf,under_plainId→UW
open PySem.Builtin.Dict renaming showsAll→TW
open PySem.Builtin.Dict_items renaming ownsTuple→QP,ownedTupleFields→RV,ownedTupleIsFree→RW,pairFromOwner→Se
open PySem.Builtin.Int renaming intBits→Ur
open PySem.Builtin.List renaming listTooLong→Rx,listExtendWith→S7,listSameRef→Tv
open PySem.Builtin.Range renaming rangeFitsLong→Os,rangeSize→Tw
open PySem.Builtin.Slice renaming slicePlaces→Qe,sliceAdjust→Rg,sliceApplied→S8
open PySem.Builtin.SmallTypes renaming nextOf→O1,ownedTupleIsFree→Pb,ownedTupleHandOut→RP,refuseKeywords→R7
open PySem.Builtin.Tuple renaming tupleExact→Qn,tupleHashOf→Rh,tupleItemsOf→S9
open PySem.Calls renaming callWith_builtin→SB,Name_function_global→Uc,call_function_entry→Us,evalArgs_plain→U6,spliced_cons→VB,spliced_nil→VX
open PySem.Challenge renaming rw_edgetally_k22_whole_paper_adds_up→NW
open PySem.Code renaming isFrame→UX
open PySem.Draws renaming list→VC
open PySem.F renaming slot_dict_itemiterator_next→OX,slot_tuple_iterator_next→QA,slot_list_append→QC,type_list_append→QD,plainAttrs_list→QT,args_tuple_add_2→RZ,entry_tuple_add→Sa,slot_tuple_add→Sm,slot_zip_next→SU,args_dict_itemiterator_next_1→T5,entry_dict_itemiterator_next→Ue,slot_dict_itemiterator_iter→Ut,plainAttrs_dict→Uv,args_tuple_iterator_next_1→Ux,entry_tuple_iterator_next→UG,slot_dict_get→UK,slot_dict_items_iter→VD,args_list_append_2→Wg
open PySem.Heap renaming get?_push_of_some→M1,get?_push_size→Nu,lt_size→NI,SameBut→NP,size_push→OP,get?_update_ne→P3,get?_update_self→Ql,ExtBut→TX,get?_update_other→UY,get?_none_of_le→Vq,get?_push_ne→Wh
open PySem.Heap.IsSliceOf renaming new→T6
open PySem.Heap.SameBut renaming update→OO
open PySem.IntMulOk renaming of_bits→Vr
open PySem.IsTupleKey renaming typeIs→UO
open PySem.Manifest renaming find?→V1
open PySem.NameKind renaming free→PN,cell→Ua
open PySem.Obj renaming mapSeq→OV,data_mapFields→Pj,putSet→SN,isFreed_of_fields→SR,cls_mapFields→TL
open PySem.P renaming add_list→VL
open PySem.SeqAt renaming shaped→Tk
open PySem.SetTable renaming fits→Ub,fresh→V9
open PySem.Str renaming ofString→OS,empty→QE
open PySem.Value renaming ref→NC,none→Oh,type→PZ,int→Qt,bool→Tc,isInt_shape→Tl,isInt→Vb,str→Wp
open PySem.W renaming Frag→NA,fnOf→Q3,findIn→Ra,codeIn→RA,segRun→RB,emptyDict→RC,piecesOf→Sb,keepIn→Su,kia_one→SE,kia_tup→SF,instObj→TF,kitx_list→TH,methodCall_KW→UL,callWith_K→U9,of_hideAll→Va,cellsFrom_some→Ve,kitx_tuple→Vj,topFrame→Vm,kitx_bool→Vv,kitx_none→Vw,plainOver→Vx,handedIn→VM,kitx_int→VN,kitx_own→VO,kitx_str→VP,makesIn→V5,takesIn→V6,topStub→V7,kitAny→Wn,topRun→Wo,hideAll→Wr,hideAll_none→Ws
open PySem.W.OpenLaw renaming row→PH
open PySem.W.OpenRow renaming toRowW→Pk
open PySem.W.RowW renaming prog→UC
open PySem.W.WData renaming int→Uw
open PySem.pickOrder renaming go→Um
open True renaming intro→Qs
abbrev M8:=@if_neg
abbrev Nf:=@if_pos
abbrev NE:=@absurd
abbrev NF:=@decide_eq_true
abbrev NZ:=@decide_eq_true_eq
abbrev N3:=@if_false
abbrev N4:=@if_true
abbrev N8:=@decide_eq_false
abbrev Oi:=@congrArg
abbrev Py:=@beq_self_eq_true
abbrev PP:=@of_decide_eq_true
abbrev Qj:=@bne_self_eq_false
abbrev QJ:=@beq_iff_eq
abbrev QK:=@decide_false
abbrev Q9:=@decide_true
abbrev Rb:=@or_false
abbrev UQ:=@beq_eq_false_iff_ne
open PySem.W (Frag instObj methodObj hideAll hideAll_get hideAll_none lookIn plainGet hasDictIn findIn plainGet_of isFn takerIn emptyDict keepIn specialIn kitOne kia_one kitx_list kitx_tuple cellsFrom_some mg_of kia_tup)
abbrev LI:=List (List Int)
abbrev LP:=List (List (Int×Int))
--CHANGE:your row's module here,as the last of these rows
namespace L2
open PySem PySem.Spec PyProof.Rows
inductive V where
 |non|bl (b:Bool)|int (i:Int)|str (x:NY)|ref (a:M3)|ty (n:String)
 deriving DecidableEq
def aF:V->M7->Prop
 | .non,u=>u=Oh
 | .bl b,u=>u=Tc b
 | .int i,u=>∃t,u=Qt i t
 | .str x,u=>∃t,u=Wp x t
 | .ref a,u=>u=NC a
 | .ty n,u=>u=PZ n
abbrev ar:List V->List M7->Prop:=Sk aF
theorem ar.length{xs:List V}{us:List M7}(r:ar xs us):xs.length=us.length:=Paired.length r
theorem ar.get:∀{xs:List V} {us:List M7} {i:Nat} {x:V},ar xs us->xs[i]?=on x->∃u,us[i]?=on u/\aF x u
 |_,_,_,_,.nil,e=>by simp at e
 |_,_,0,_,.cons r _,e=>by simp at e;subst e;exact⟨_,rfl,r⟩
 |_,_,i+1,x,.cons _ t,e=>by
  obtain⟨u,a,b⟩:=ar.get (i:=i) (x:=x) t (by simpa using e);exact⟨u,by simpa using a,b⟩
theorem ar.set(r:aF x u):∀{xs:List V} {us:List M7} (i:Nat),ar xs us->ar (xs.set i x) (us.set i u)
 |_,_,_,.nil=> .nil
 |_,_,0,.cons _ t=> .cons r t
 |_,_,i+1,.cons q t=> .cons q (ar.set r i t)
theorem ar.append:∀{xs ys:List V} {us a:List M7},ar xs us->ar ys a->ar (xs++ys) (us++a)
 |_,_,_,_,.nil,s=>s
 |_,_,_,_,.cons r t,s=> .cons r (ar.append t s)
theorem ar.take:∀{xs:List V} {us:List M7} (n:Nat),ar xs us->ar (xs.take n) (us.take n)
 |_,_,0,_=> .nil
 |_,_,_+1,.nil=> .nil
 |_,_,n+1,.cons r t=> .cons r (ar.take n t)
theorem ar.drop:∀{xs:List V} {us:List M7} (n:Nat),ar xs us->ar (xs.drop n) (us.drop n)
 |_,_,0,r=>r
 |_,_,_+1,.nil=> .nil
 |_,_,n+1,.cons _ t=>ar.drop n t
def gx:Option V->Option M7->Prop
 |some v,on u=>aF v u
 |none,MY=>True
 |_,_=>False
inductive HO where
 |lst (xs:List V)
 |tup (xs:List V)
 |ins (C dx:M3) (fs:List (NY×V))
 |own (x:M3)
 |xd (fs:List (NY×V))
 |met (f x:M3)
 |rng (lo hi:Int)
 |frz (o:NM) (u:HO)
 |tbl (ps:Array M7)
 |ext (φ:Ox->Prop)
abbrev Hp:=M3->Option HO
noncomputable def upd(H:Hp)(a:M3)(o:HO):Hp:=λb=>if b=a then on o else H b
theorem ah:upd H a o a=on o:=by unfold upd;rw[Nf rfl]
theorem upd_ne(h:b≠a):upd H a o b=H b:=by unfold upd;rw[M8 h]
theorem Mw{H:Hp}{a b:M3}{o u:HO}(h:H a=on o)(h':H b=on u)(d:o≠u):a≠b:=by
 intro e;subst e;rw[h]at h';exact d (NN h')
theorem aw{H:Hp}{a b:M3}{o:HO}(h:H a=on o)(h':H b=MY):a≠b:=by
 intro e;subst e;rw[h]at h';cases h'
section
variable(P:NQ)(w:N0)
def br(P:NQ)(w:N0)(H:Hp)(h:Ox)(a:M3):HO->Prop
 | .lst xs=>xs.length<=Nr/\∃(its:List M7) (n:Nat),ar xs its/\h.get? a=on {cls:= .type "list",data:= .seq its.toArray n}
 | .tup xs=>xs.length<=Nr/\∃its:List M7,ar xs its/\IsTup h a its.toArray
 | .ins C dx fs=>H dx=on (.own a)/\fs.length<=1000/\dx≠a/\h.get? a=on (TF C dx)/\
   ∃b,h.Ns1 dx b/\(∀f,gx (fs.lookup f) (b f))/\Tj b (fs.map (·.1))
 | .own _=>∃o,h.get? a=on o
 | .xd fs=>∃b,h.Ns1 a b/\∀f,gx (fs.lookup f) (b f)
 | .rng lo hi=>∃t u v,h.get? a=on {cls:= .type "range",data:= .fields #[.int lo t,.int hi u,.int 1 v]}
 | .frz o u=>h.get? a=on o/\br P w H h a u
 | .tbl ps=>h.get? a=on {cls:= .none,data:= .fields ps}
 | .met f x=>h.get? a=on (methodObj (.ref f) (.ref x))
 | .ext φ=>φ h/\(∃o,h.get? a=on o)/\∀c d:Ox,φ c->(∀o,c.get? a=on o->d.get? a=on o)->φ d
def HOk(H:Hp)(h:Ox):Prop:=∀a o,H a=on o->br P w H h a o
end
section
variable{P:NQ}{w:N0}{H H':Hp}{h h':Ox}{a:M3}{o:HO}
theorem br.lt(x:br P w H h a o):a<h.objs.size:=by
 cases o with
 |lst xs=>obtain⟨_,_,_,_,e⟩:=x;exact NI e
 |tup xs=>obtain⟨_,_,_,p⟩:=x;exact p.lt
 |ins C dx fs=>obtain⟨_,_,_,e,_⟩:=x;exact NI e
 |own y=>obtain⟨_,e⟩:=x;exact NI e
 |xd fs=>obtain⟨_,⟨_,_,_,e,_⟩,_⟩:=x;exact NI e
 |rng lo hi=>obtain⟨_,_,_,e⟩:=x;exact NI e
 |frz ob u=>obtain⟨e,_⟩:=x;exact NI e
 |tbl ps=>exact NI (show h.get? a=on _ from x)
 |met f y=>exact NI (show h.get? a=on _ from x)
 |ext φ=>obtain⟨_,⟨_,e⟩,_⟩:=x;exact NI e
theorem br.stay(x:br P w H h a o)(k:∀b u,(b=a\/H b=on (.own a))->h.get? b=on u->h'.get? b=on u)
  (l:∀b,H b=on (.own a)->H' b=on (.own a)) (A:∀b xs,H b=on (.tup xs)->H' b=on (.tup xs)):br P w H' h' a o:=by
 induction o with
 |lst xs=>obtain⟨z,its,n,r,e⟩:=x;exact⟨z,its,n,r,k _ _ (.inl rfl) e⟩
 |tup xs=>obtain⟨z,its,r,g,e,c⟩:=x;exact⟨z,its,r,g,k _ _ (.inl rfl) e,c⟩
 |ins C dx fs=>
  obtain⟨d,z,ne,e,i,⟨j,es,ep,m,c⟩,r⟩:=x;exact⟨l _ d,z,ne,k _ _ (.inl rfl) e,i,⟨j,es,ep,k _ _ (.inr d) m,c⟩,r⟩
 |own y=>obtain⟨g,e⟩:=x;exact⟨g,k _ _ (.inl rfl) e⟩
 |xd fs=>obtain⟨i,⟨j,es,ep,e,c⟩,r⟩:=x;exact⟨i,⟨j,es,ep,k _ _ (.inl rfl) e,c⟩,r⟩
 |rng lo hi=>obtain⟨t,u,v,e⟩:=x;exact⟨t,u,v,k _ _ (.inl rfl) e⟩
 |frz g u ih=>obtain⟨e,q⟩:=x;exact⟨k _ _ (.inl rfl) e,ih q⟩
 |tbl ps=>
  have e:h.get? a=on {cls:= .none,data:= .fields ps}:=x;show h'.get? a=on {cls:= .none,data:= .fields ps};exact k a _ (.inl rfl) e
 |met f y=>
  have e:h.get? a=on (methodObj (.ref f) (.ref y)):=x;show h'.get? a=on (methodObj (.ref f) (.ref y));exact k a _ (.inl rfl) e
 |ext φ=>obtain⟨p,⟨o,e⟩,st⟩:=x;exact⟨st _ _ p λo q=>k _ _ (.inl rfl) q,⟨o,k _ _ (.inl rfl) e⟩,st⟩
theorem HOk.lt(x:HOk P w H h)(e:H a=on o):a<h.objs.size:=(x a o e).lt
theorem HOk.fresh(x:HOk P w H h)(e:h.objs.size<=a):H a=MY:=by
 cases q:H a with
 |none=>rfl
 |some u=>exact NE (NH (x.lt q) e) (Oc _)
theorem HOk.kept(x:HOk P w H h)(k:∀b u,h.get? b=on u->h'.get? b=on u):HOk P w H h':=λa o e=>
 (x a o e).stay (λb u _ q=>k b u q) (λ_ q=>q) λ_ _ q=>q
theorem HOk.laid(x:HOk P w H h)(k:∀b u,h.get? b=on u->h'.get? b=on u)(f:h.objs.size<=a)(new:br P w (upd H a o) h' a o):HOk P w (upd H a o) h':=λb u e=>by
 have hn:=x.fresh f;by_cases d:b=a
 ·subst d;rw[ah]at e;cases e;exact new
 ·rw[upd_ne d]at e
  exact(x b u e).stay (λc v _ q=>k c v q) (λc q=>by rw[upd_ne (aw q hn)];exact q) λc xs q=>by rw[upd_ne (aw q hn)];exact q
def Rd(H:Hp)(a:M3)(u:HO):Prop:=H a=on u\/∃o,H a=on (.frz o u)
theorem Rd.ok{P:NQ}{w:N0}{H:Hp}{h:Ox}{a:M3}(r:Rd H a u)(x:HOk P w H h):br P w H h a u:=by
 rcases r with r|⟨o,r⟩
 ·exact x a u r
 ·obtain⟨_,q⟩:=x a _ r
  exact q
def Mut:Option HO->Prop
 |some (.lst _)=>True
 |some (.ins _ _ _)=>True
 |some (.ext _)=>True
 |_=>False
variable{x e:M3}{o':HO}
theorem HOk.write(ok:HOk P w H h)(mu:Mut (H x))(l:e=x\/H e=on (.own x))(k:∀b u,b≠e->h.get? b=on u->h'.get? b=on u)(j:∃u,h'.get? e=on u)
  (new:br P w (upd H x o') h' x o'):HOk P w (upd H x o') h':=λb u q=>by
 have f:∀c y,H c=on (.own y)->c≠x:=λc y r z=>by subst z;rw[r]at mu;exact mu
 have g:∀c xs,H c=on (.tup xs)->c≠x:=λc xs r z=>by subst z;rw[r]at mu;exact mu
 by_cases i:b=x
 ·subst i;rw[ah]at q;cases q;exact new
 ·rw[upd_ne i]at q
  by_cases d:b=e
  ·have m:H b=on (.own x):=by
    rcases l with z|z
    ·exact NE (d.trans z) i
    ·rw[d];exact z
   rw[q]at m;cases m;obtain⟨v,n⟩:=j;exact⟨v,by rw[d];exact n⟩
  ·refine(ok b u q).stay (λc v hc r=>k c v ?_ r) (λc r=>by rw[upd_ne (f c b r)];exact r) λc xs r=>by rw[upd_ne (g c xs r)];exact r
   rcases hc with rfl|hc
   ·exact d
   ·rintro rfl
    rcases l with z|z
    ·exact f c b hc z
    ·rw[hc]at z;cases z;exact i rfl
structure Un (fs ex:List M3) (H H':Hp) (h h':Ox):Prop where
 keep:∀b o,h.get? b=on o->H b=MY->b∉fs->b∉ex->h'.get? b=on o
 slot:∀b o,h.get? b=on o->H b=MY->b∈fs->b∉ex->∃sl,h'.get? b=on {o with slots:=sl}
 free:∀b o,h.get? b=on o->H b=MY->b∉ex->H' b=MY
 there:∀b o,h.get? b=on o->b∉ex->∃o',h'.get? b=on o'
 tups:∀b xs,H b=on (.tup xs)->H' b=on (.tup xs)
 frzs:∀b o u,H b=on (.frz o u)->H' b=on (.frz o u)
 tbls:∀b ps,H b=on (.tbl ps)->∃more,H' b=on (.tbl (ps++more))
variable{fs fs' ex ex':List M3}{H1 H2:Hp}{h1 h2:Ox}
theorem Un.any(u:Un fs ex H H1 h h1)(q:h.get? b=on ob)(n:H b=MY)(c:b∉ex):∃sl,h1.get? b=on {ob with slots:=sl}:=by
 by_cases d:b∈fs
 ·exact u.slot b ob q n d c
 ·exact⟨ob.slots,u.keep b ob q n d c⟩
theorem Un.trans(a:Un fs ex H H1 h h1)(b:Un fs ex H1 H2 h1 h2):Un fs ex H H2 h h2 where
 keep:=λc d q n i f=>b.keep c d (a.keep c d q n i f) (a.free c d q n f) i f
 slot:=λc d q n i f=>by
  obtain⟨sl,g⟩:=a.slot c d q n i f;obtain⟨j,k⟩:=b.slot c _ g (a.free c d q n f) i f;exact⟨j,k⟩
 free:=λc d q n f=>by
  obtain⟨o',g⟩:=a.there c d q f;exact b.free c o' g (a.free c d q n f) f
 there:=λc d q f=>by
  obtain⟨o',g⟩:=a.there c d q f;exact b.there c o' g f
 tups:=λc xs q=>b.tups c xs (a.tups c xs q)
 frzs:=λc d xs q=>b.frzs c d xs (a.frzs c d xs q)
 tbls:=λc ps q=>by
  obtain⟨m1,g⟩:=a.tbls c ps q;obtain⟨m2,k⟩:=b.tbls c _ g;exact⟨m1++m2,by rw[k,Vz]⟩
theorem Un.kept(k:∀b u,h.get? b=on u->h'.get? b=on u):Un fs ex H H h h':=
 ⟨λb c q _ _ _=>k b c q,λb c q _ _ _=>⟨c.slots,k b c q⟩,λ_ _ _ n _=>n,λb c q _=>⟨c,k b c q⟩,λ_ _ q=>q,λ_ _ _ q=>q,λ_ ps q=>⟨#[],by rw[q];simp⟩⟩
theorem Un.refl:Un fs ex H H h h:=Un.kept λ_ _ q=>q
theorem Un.laid(k:∀b u,h.get? b=on u->h'.get? b=on u)(c:h.objs.size<=a)(hn:H a=MY):Un fs ex H (upd H a o) h h' where
 keep:=λb u q _ _ _=>k b u q
 slot:=λb u q _ _ _=>⟨u.slots,k b u q⟩
 free:=λb u q n _=>by rw[upd_ne (Od (NH (NI q) c))];exact n
 there:=λb u q _=>⟨u,k b u q⟩
 tups:=λb xs q=>by rw[upd_ne (aw q hn)];exact q
 frzs:=λb u xs q=>by rw[upd_ne (aw q hn)];exact q
 tbls:=λb ps q=>⟨#[],by rw[upd_ne (aw q hn),q];simp⟩
theorem Un.write(mu:Mut (H x))(i:e=x\/H e=on (.own x))(k:∀b u,b≠e->h.get? b=on u->h'.get? b=on u)(d:∃u,h'.get? e=on u):Un fs ex H (upd H x o) h h':=by
 have f:∀b,H b=MY->b≠x:=λb n z=>by subst z;rw[n]at mu;exact mu
 have g:∀b,H b=MY->b≠e:=λb n z=>by
  subst z;rcases i with r|r
  ·exact f b n r
  ·rw[n]at r;cases r
 have hm:∀b u,H b=on u->¬Mut (on u)->b≠x:=λb u q j z=>by subst z;rw[q]at mu;exact j mu
 refine⟨λb u q n _ _=>k b u (g b n) q,λb u q n _ _=>⟨u.slots,k b u (g b n) q⟩,λb u q n _=>by rw[upd_ne (f b n)];exact n,λb u q _=>?_,
  λb xs q=>by rw[upd_ne (hm b _ q λz=>z)];exact q,λb u xs q=>by rw[upd_ne (hm b _ q λz=>z)];exact q,λb ps q=>⟨#[],by rw[upd_ne (hm b _ q λz=>z),q];simp⟩⟩
 by_cases c:b=e
 ·subst c;exact d
 ·exact⟨u,k b u c q⟩
theorem Un.mono(u:Un fs ex H H1 h h1)(hs:∀b∈fs,b∈fs')(f:∀b∈ex,b∈ex'):Un fs' ex' H H1 h h1:=
 ⟨λb d q n g c=>u.keep b d q n (λz=>g (hs b z)) λz=>c (f b z),λ_ _ q n _ c=>u.any q n λz=>c (f _ z),λb d q n c=>u.free b d q n λz=>c (f b z),λb d q c=>u.there b d q λz=>c (f b z),u.tups,u.frzs,u.tbls⟩
noncomputable def trk(h:Ox)(H:Hp):List M3:=(Nd h.objs.size).filter λa=>(H a).isSome
noncomputable def jT(h:Ox)(H:Hp):Ox:=Wr h (trk h H)
theorem yQ(h:Ox)(H:Hp):(jT h H).objs.size=h.objs.size:=PySem.W.hideAll_size _ _
theorem BI{h:Ox}{H:Hp}{o:NM}(e:h.get? b=on o)(n:H b=MY):(jT h H).get? b=on o:=
 hideAll_get _ e λhm=>by
  have q:(H b).isSome=M2:=(SL.mp hm).2;rw[n]at q;simp at q
theorem HV{h:Ox}{H:Hp}{o:NM}(e:(jT h H).get? b=on o):h.get? b=on o/\H b=MY:=by
 have c:h.get? b=on o:=Va (trk h H) e;refine⟨c,?_⟩;cases q:H b with
 |none=>rfl
 |some x=>
  have hm:b∈trk h H:=SL.mpr ⟨Nz.mpr (NI c),by simp[q]⟩;have z:(jT h H).get? b=MY:=Ws (trk h H) hm;rw[z]at e;cases e
structure Mod (K:NA) (mg:NY->Option M7) (base:Ox):Prop where
 kin:K.In base
 glob:base.Ns Pg mg
 blt:∃mb,base.Ns Vc mb/\∀x:NY,x≠"__name__"->mb x=QX x
 nolimit:base.NoLimit
structure Cx where
 prog:NQ
 w:N0
 K:NA
 mg:NY->Option M7
 base:Ox
 A:Oj
 N:List NY
 s₀:Ng
 H₀:Hp
 env:Ud
 outer:List Ud
 stack:List Ud
 ex:List M3
 fn:NY->Bool
 calm:Bool
 pn:List (M3×NM)
 xe:M7->Ng->Prop
noncomputable def frs(l:List Ud):List M3:=l.filterMap (·.frame)
end
noncomputable abbrev Cx.fs(X:Cx):List M3:=frs X.outer
def Vis(a:Scope)(x:NY):Prop:=a.names.lookup x=on .local\/a.names.lookup x=on .cell\/a.names.lookup x=on .free
def Loc(a:Scope)(x:NY):Prop:=a.names.lookup x=on .local\/a.names.lookup x=on .cell
def Look(env:Ud)(h:Ox)(m:NY->Option M7)(x:NY)(u:M7):Prop:=
 (env.kindOf x=on .local/\m x=on u)\/((env.kindOf x=on .cell\/env.kindOf x=on .free)/\∃c,env.cells.lookup x=on c/\h.IsCell c (on u))
structure Cx.Ok (X:Cx):Prop where
 mod:Mod X.K X.mg X.base
 kind:X.env.scope.kind= .function
 glob:X.env.globals=Pg
 blt:X.env.builtins=Vc
 above:X.s₀.heap.objs.size<=X.env.locals
 inj:∀x y c,X.env.cells.lookup x=on c->X.env.cells.lookup y=on c->x=y
 has:∀x,(X.env.kindOf x=on .cell\/X.env.kindOf x=on .free)->∃c,X.env.cells.lookup x=on c
 cab:∀x c,X.fn x=M2->X.env.cells.lookup x=on c->X.s₀.heap.objs.size<=c
 hd:X.calm=M2->X.A.handled=MY
 frames:X.A.frames=on X.stack
 stk:X.stack=X.outer\/(X.stack=X.env::X.outer/\X.env.frame=on X.env.locals)
 exf:∀b∈X.ex,b≠X.env.locals/\∀x c,X.env.cells.lookup x=on c->c≠b
 bs:∀b o,X.base.get? b=on o->X.s₀.heap.get? b=on o/\X.H₀ b=MY
 bsz:X.base.objs.size<=X.s₀.heap.objs.size
 noex:∀b o,X.base.get? b=on o->b∉X.ex
 exfs:∀b∈X.ex,b∉X.fs
 funs:X.s₀.heap.FunFrames X.base X.outer
 frf:∀b∈X.fs,X.H₀ b=MY
structure Inv (X:Cx) (pins:List (M3×NM)) (σ:List (Option V)) (H:Hp) (s:Ng):Prop where
 ok:X.Ok
 os:s.os=X.s₀.os
 bare:R6 s.gens
 base:Un X.fs X.ex X.H₀ H X.s₀.heap s.heap
 loc:∃m,s.heap.Ns X.env.locals m/\∀(i:Nat) (x:NY) (v:V),X.N[i]?=on x->σ[i]?=on (on v)->Vis X.env.scope x->∃u,aF v u/\Look X.env s.heap m x u
 cell:∀x c,X.env.cells.lookup x=on c->∃v,s.heap.IsCell c v
 free:H X.env.locals=MY
 freeC:∀x c,X.env.cells.lookup x=on c->H c=MY
 pin:∀p∈X.pn++pins,s.heap.get? p.1=on p.2/\H p.1=MY/\p.1≠X.env.locals/\p.1∉X.fs/\∀v,p.2.data≠ .cell v
 hok:HOk X.prog X.w H s.heap
 len:σ.length=X.N.length
section
variable{X:Cx}{pins:List (M3×NM)}{σ:List (Option V)}{H H':Hp}{s:Ng}{h':Ox}
theorem Cx.Ok.nofr(ok:X.Ok)(e:X.base.get? b=on o):b∉X.fs:=λa=>by
 have:=(ok.funs.mem a).1;rw[e]at this;cases this
theorem Inv.bs(I:Inv X pins σ H s):∀b o,X.base.get? b=on o->s.heap.get? b=on o/\H b=MY:=λb o e=>
 ⟨I.base.keep b o (I.ok.bs b o e).1 (I.ok.bs b o e).2 (I.ok.nofr e) (I.ok.noex b o e),I.base.free b o (I.ok.bs b o e).1 (I.ok.bs b o e).2 (I.ok.noex b o e)⟩
theorem Inv.bk(I:Inv X pins σ H s):∀b o,X.base.get? b=on o->s.heap.get? b=on o:=λb o e=>(I.bs b o e).1
theorem Inv.mod(I:Inv X pins σ H s):Mod X.K X.mg X.base:=I.ok.mod
theorem Inv.kIn(I:Inv X pins σ H s):X.K.In s.heap:=I.ok.mod.kin.keeps I.bk
theorem Inv.lt(I:Inv X pins σ H s):X.env.locals<s.heap.objs.size:=let ⟨_,hn,_⟩:=I.loc;hn.lt
theorem Inv.sz(I:Inv X pins σ H s):X.s₀.heap.objs.size<=s.heap.objs.size:=NG I.ok.above (SM I.lt)
theorem Inv.nofs(I:Inv X pins σ H s){a:M3}(h:s.heap.objs.size<=a):a∉X.fs:=λb=>by
 obtain⟨_,o,c,_⟩:=I.ok.funs.mem b;exact NE (NH (NI c) (NG I.sz h)) (Oc _)
theorem Inv.cne(I:Inv X pins σ H s):∀x c,X.env.cells.lookup x=on c->c≠X.env.locals:=λx c e z=>by
 obtain⟨v,o,d,hd⟩:=I.cell x c e;obtain⟨m,⟨f,es,ep,a,b,_⟩,_⟩:=I.loc;rw[z,a]at d;cases d;rw[b]at hd;cases hd
theorem Inv.funs(I:Inv X pins σ H s):s.heap.FunFrames X.base X.outer:=by
 have all:∀(l:List Ud),(∀b∈frs l,b∈X.fs)->X.s₀.heap.FunFrames X.base l->s.heap.FunFrames X.base l:=by
  intro l
  induction l with
  |nil=>intro _ _;trivial
  |cons env r ih=>
   intro hs f;obtain⟨g,⟨L,o,a,hn,h,hd⟩,i⟩:=f;have c:L∈X.fs:=hs L (by unfold frs;rw[OU,a];exact Nb);obtain⟨sl,e⟩:=I.base.slot L o h (I.ok.frf L c) c λz=>I.ok.exfs L z c;exact⟨g,⟨L,_,a,hn,e,hd⟩,ih (λb d=>hs b (by unfold frs;rw[OU,a];exact M5 _ d)) i⟩
 exact all X.outer (λ_ d=>d) I.ok.funs
theorem Inv.stack(I:Inv X pins σ H s):s.heap.FunFrames X.base X.stack:=by
 rcases I.ok.stk with e|⟨e,a⟩
 ·rw[e];exact I.funs
 ·rw[e]
  obtain⟨m,hn,_⟩:=I.loc;refine .cons (by rw[I.ok.kind];decide) a hn ?_ I.funs;exact Vq (NG I.ok.bsz I.ok.above)
theorem Inv.stkSub(I:Inv X pins σ H s):∀b∈frs X.stack,b∈X.env.locals::X.fs:=λb a=>by
 rcases I.ok.stk with e|⟨e,c⟩
 ·rw[e]at a;exact M5 _ a
 ·rw[e]at a
  unfold frs at a;rw[OU,c]at a;exact a
theorem Inv.stkFree(I:Inv X pins σ H s):∀b∈frs X.stack,H b=MY:=λb hb=>by
 rcases Nq.mp (I.stkSub b hb)with e|hb
 ·rw[e];exact I.free
 ·obtain⟨_,o,a,_⟩:=I.ok.funs.mem hb
  exact I.base.free b o a (I.ok.frf b hb) λz=>I.ok.exfs b z hb
theorem Inv.step{ch:List M3}(I:Inv X pins σ H s)
  (f:∀b∈ch,(b∈X.ex\/X.s₀.heap.objs.size<=b)/\b≠X.env.locals/\(∀x c,X.env.cells.lookup x=on c->c≠b)/\∀p∈X.pn++pins,p.1≠b)
  (keep:∀b o,b≠X.env.locals->b∉X.fs->b∉ch->s.heap.get? b=on o->H b=MY->h'.get? b=on o)
  (slot:∀b o,b≠X.env.locals->b∈X.fs->b∉ch->s.heap.get? b=on o->H b=MY->∃sl,h'.get? b=on {o with slots:=sl}) (free:∀b o,b∉ch->s.heap.get? b=on o->H b=MY->H' b=MY)
  (there:∀b o,b∉ch->s.heap.get? b=on o->∃B,h'.get? b=on B)
  (tups:∀b xs,H b=on (.tup xs)->H' b=on (.tup xs)) (frzs:∀b o u,H b=on (.frz o u)->H' b=on (.frz o u)) (tbls:∀b ps,H b=on (.tbl ps)->∃more,H' b=on (.tbl (ps++more)))
  (ns:∀m,s.heap.Ns X.env.locals m->h'.Ns X.env.locals m) (hok:HOk X.prog X.w H' h') (O:R6 g'):
  Inv X pins σ H' {s with heap:=h',gens:=g',drawn:=d',toks:=t'}:=by
 have C:∀b o,X.s₀.heap.get? b=on o->b≠X.env.locals:=λb o e=>Od (NH (NI e) I.ok.above);have j:∀b o,X.s₀.heap.get? b=on o->b∉X.ex->b∉ch:=λb o e a y=>by
  rcases(f b y).1 with z|z
  ·exact a z
  ·exact NE (NH (NI e) z) (Oc _)
 have g:∀x c,X.env.cells.lookup x=on c->∀v,s.heap.IsCell c v->h'.IsCell c v:=λx c e v ⟨o,A,hd⟩=>by
  have h:c∉ch:=λz=>(f c z).2.2.1 x c e rfl;by_cases L:c∈X.fs
  ·obtain⟨sl,q⟩:=slot c o (I.cne x c e) L h A (I.freeC x c e)
   exact⟨_,q,hd⟩
  ·exact⟨o,keep c o (I.cne x c e) L h A (I.freeC x c e),hd⟩
 refine⟨I.ok,I.os,O,⟨λb o e n y a=>?_,λb o e n y a=>?_,λb o e n a=>?_,λb o e a=>?_,λb xs e=>tups b xs (I.base.tups b xs e),λb o xs e=>frzs b o xs (I.base.frzs b o xs e),λb ps e=>?_⟩,?_,λx c e=>?_,?_,λx c e=>?_,λp N=>?_,hok,I.len⟩
 ·exact keep b o (C b o e) y (j b o e a) (I.base.keep b o e n y a) (I.base.free b o e n a)
 ·obtain⟨sl,t⟩:=I.base.slot b o e n y a
  obtain⟨J,F⟩:=slot b _ (C b o e) y (j b o e a) t (I.base.free b o e n a);exact⟨J,F⟩
 ·obtain⟨B,t⟩:=I.base.there b o e a
  exact free b B (j b o e a) t (I.base.free b o e n a)
 ·obtain⟨B,t⟩:=I.base.there b o e a
  exact there b B (j b o e a) t
 ·obtain⟨m1,t⟩:=I.base.tbls b ps e
  obtain⟨m2,F⟩:=tbls b _ t;exact⟨m1++m2,by rw[F,Vz]⟩
 ·obtain⟨m,hn,P⟩:=I.loc
  refine⟨m,ns m hn,λi x v t F Q=>?_⟩;obtain⟨u,r,l⟩:=P i x v t F Q;refine⟨u,r,?_⟩;rcases l with l|⟨k,c,e,z⟩
  ·exact .inl l
  ·exact .inr ⟨k,c,e,g x c e _ z⟩
 ·obtain⟨v,z⟩:=I.cell x c e
  exact⟨v,g x c e v z⟩
 ·obtain⟨m,⟨o,_,_,A,_⟩,_⟩:=I.loc
  exact free _ o (λz=>(f _ z).2.1 rfl) A I.free
 ·obtain⟨v,o,A,hd⟩:=I.cell x c e
  exact free c o (λz=>(f c z).2.2.1 x c e rfl) A (I.freeC x c e)
 ·obtain⟨e,n,ne,nf,d⟩:=I.pin p N
  have h:p.1∉ch:=λz=>(f p.1 z).2.2.2 p N rfl;exact⟨keep p.1 p.2 ne nf h e n,free p.1 p.2 h e n,ne,nf,d⟩
theorem Inv.un(I:Inv X pins σ H s)(u:Un X.fs [] H H' s.heap h')(hok:HOk X.prog X.w H' h'):Inv X pins σ H' {s with heap:=h',toks:=t'}:=by
 obtain⟨m,⟨o,es,ep,g,r⟩,_⟩:=id I.loc;obtain⟨sl,h⟩:=u.any g I.free (by simp);exact I.step (g':=s.gens) (d':=s.drawn) (ch:=[]) (λ_ z=>nomatch z) (λb o _ c _ e n=>u.keep b o e n c (by simp)) (λb o _ c _ e n=>u.slot b o e n c (by simp)) (λb o _ e n=>u.free b o e n (by simp)) (λb o _ e=>u.there b o e (by simp)) u.tups u.frzs u.tbls (λj hm=>by
  obtain⟨k,d,f,a,i⟩:=hm;rw[g]at a;cases a;exact⟨_,d,f,h,i⟩) hok I.bare
theorem Inv.call{ch:List M3}(I:Inv X pins σ H s)(u:Un (frs X.stack) ch H H' s.heap h')(hok:HOk X.prog X.w H' h')(k:R6 g')
  (d:∀b∈ch,(b∈X.ex\/X.s₀.heap.objs.size<=b)/\b≠X.env.locals/\(∀x c,X.env.cells.lookup x=on c->c≠b)/\∀p∈X.pn++pins,p.1≠b):
  Inv X pins σ H' {s with heap:=h',gens:=g',drawn:=d',toks:=t'}:=by
 obtain⟨m,⟨o,es,ep,j,r⟩,_⟩:=id I.loc;obtain⟨sl,g⟩:=u.any j I.free λz=>(d _ z).2.1 rfl;exact I.step (ch:=ch) d (λb o g l a e n=>u.keep b o e n (λz=>(Nq.mp (I.stkSub b z)).elim g l) a) (λb o _ _ a e n=>u.any e n a) (λb o a e n=>u.free b o e n a) (λb o a e=>u.there b o e a) u.tups u.frzs u.tbls (λt hm=>by
  obtain⟨v,h,i,f,q⟩:=hm;rw[j]at f;cases f;exact⟨_,h,i,g,q⟩) hok k
theorem Inv.turned(I:Inv X pins σ H s)(k:∀b o,b≠it->s.heap.get? b=on o->h'.get? b=on o)(hn:H it=MY)(f:it≠X.env.locals)
  (g:it∈X.ex\/X.s₀.heap.objs.size<=it) (h:∀x c,X.env.cells.lookup x=on c->c≠it) (i:∀p∈X.pn++pins,p.1≠it):Inv X pins σ H {s with heap:=h',toks:=t'}:=by
 have d:∀b u,H b=on u->b≠it:=λb u e z=>by rw[z,hn]at e;cases e
 refine I.step (g':=s.gens) (d':=s.drawn) (ch:=[it]) (λb j=>?_) (λb o _ _ a e _=>k b o (λz=>a (by simp[z])) e) (λb o _ _ a e _=>⟨o.slots,k b o (λz=>a (by simp[z])) e⟩) (λ_ _ _ _ n=>n)
  (λb o a e=>⟨o,k b o (λz=>a (by simp[z])) e⟩) (λ_ _ e=>e) (λ_ _ _ e=>e) (λb ps e=>⟨#[],by rw[e];simp⟩) (λm hm=>?_) (λb u e=>?_) I.bare
 ·have e:b=it:=by simpa using j
  subst e;exact⟨g,f,h,i⟩
 ·obtain⟨o,es,ep,l,r⟩:=hm
  exact⟨o,es,ep,k _ o (Ne.symm f) l,r⟩
 ·refine(I.hok b u e).stay (λc v a q=>k c v ?_ q) (λ_ q=>q) λ_ _ q=>q
  rcases a with z|z
  ·rw[z];exact d b u e
  ·exact d c _ z
theorem Inv.tok(I:Inv X pins σ H s)(t:Nat):Inv X pins σ H {s with toks:=t}:=I.un (h':=s.heap) (t':=t) Un.refl I.hok
theorem Inv.kept(I:Inv X pins σ H s)(k:∀b u,s.heap.get? b=on u->h'.get? b=on u):Inv X pins σ H {s with heap:=h',toks:=t'}:=I.un (Un.kept k) (I.hok.kept k)
theorem Inv.laid{a:M3}{o:HO}{t':Nat}(I:Inv X pins σ H s)(k:∀b u,s.heap.get? b=on u->h'.get? b=on u)(c:s.heap.objs.size<=a)(new:br X.prog X.w (upd H a o) h' a o):
  Inv X pins σ (upd H a o) {s with heap:=h',toks:=t'}:=I.un (Un.laid k c (I.hok.fresh c)) (I.hok.laid k c new)
theorem Inv.write(I:Inv X pins σ H s)(mu:Mut (H x))(c:e=x\/H e=on (.own x))(k:∀b u,b≠e->s.heap.get? b=on u->h'.get? b=on u)(a:∃u,h'.get? e=on u)
  (new:br X.prog X.w (upd H x o) h' x o):Inv X pins σ (upd H x o) {s with heap:=h',toks:=t'}:=I.un (Un.write mu c k a) (I.hok.write mu c k a new)
theorem Inv.pins_of(I:Inv X pins σ H s)(h:∀p∈pins',s.heap.get? p.1=on p.2/\H p.1=MY/\p.1≠X.env.locals/\p.1∉X.fs/\∀v,p.2.data≠ .cell v):Inv X pins' σ H s:=
 ⟨I.ok,I.os,I.bare,I.base,I.loc,I.cell,I.free,I.freeC,λp a=>(OE.mp a).elim (λz=>I.pin p (PV _ z)) (h p),I.hok,I.len⟩
theorem tu{N:List NY}(c:N.Nodup){i j:Nat}{x:NY}(a:N[i]?=on x)(b:N[j]?=on x):i=j:=by
 obtain⟨f,d⟩:=Nj.mp a;obtain⟨g,e⟩:=Nj.mp b;exact(List.getElem_inj c).mp (d.trans e.symm)
theorem kt{M:Model}{E:M7->Ng->Prop}(I:Inv X pins σ H s)(hN:X.N.Nodup)(O:X.N[i]?=on x)(l:Loc X.env.scope x)(r:aF v u)
  (h:∀s',Inv X pins (σ.set i (on v)) H s'->(∃a,NP a s.heap s'.heap/\(a=X.env.locals\/X.env.cells.lookup x=on a))->Q () s') (hf:X.fn x=M2\/X.env.scope.names.lookup x=on .local:=by first|exact .inl rfl|exact .inr rfl|assumption):Nn M A (storeName X.env x u) Q E s:=by
 obtain⟨m,hn,hl⟩:=id I.loc;have P:(X.env.scope.kind== .class||(X.env.scope.kind== .module&&X.env.locals !=X.env.globals))=M4:=by rw[I.ok.kind];rfl
 have C:i<σ.length:=by rw[I.len];exact(Nj.mp O).1
 have cne:=I.cne;have f:∀{a:M3} {h':Ox},(∃o,s.heap.get? a=on o/\H a=MY)->NP a s.heap h'->HOk X.prog X.w H h':=λ{a h'} ha hs b ob e=>by
  obtain⟨_,_,t⟩:=ha;refine(I.hok b ob e).stay (λc Y hc q=>(hs.2 c ?_).trans q) (λ_ q=>q) λ_ _ q=>q;rintro rfl;rcases hc with rfl|hc
  ·rw[t]at e;cases e
  ·rw[t]at hc;cases hc
 rcases l with hk|hk
 ·refine wpAny_storeName_local hk hn (λh' hn' hs=>?_) P
  obtain⟨oL,_,_,hoL,_⟩:=id hn;refine h _ ⟨I.ok,I.os,I.bare,⟨λb o e n F l=>?_,λb o e n F l=>?_,I.base.free,λb o e l=>?_,I.base.tups,I.base.frzs,I.base.tbls⟩,⟨_,hn',λj y v' g B e3=>?_⟩,λy c e=>?_,I.free,I.freeC,λp hp=>?_,f ⟨oL,hoL,I.free⟩ hs,by simpa using I.len⟩ ⟨_,hs,.inl rfl⟩
  ·exact(hs.2 b (Od (NH (NI e) I.ok.above))).trans (I.base.keep b o e n F l)
  ·obtain⟨sl,g⟩:=I.base.slot b o e n F l
   exact⟨sl,(hs.2 b (Od (NH (NI e) I.ok.above))).trans g⟩
  ·obtain⟨o',g⟩:=I.base.there b o e l
   exact⟨o',(hs.2 b (Od (NH (NI e) I.ok.above))).trans g⟩
  ·by_cases J:j=i
   ·subst J
    rw[O]at g;cases g;rw[U3 C]at B;cases B;exact⟨u,r,.inl ⟨hk,by simp⟩⟩
   ·rw[Vs (Ne.symm J)]at B
    obtain⟨u',r',q⟩:=hl j y v' g B e3;refine⟨u',r',?_⟩;rcases q with⟨k,e⟩|⟨k,c,e,z⟩
    ·refine .inl ⟨k,?_⟩
     have:y≠x:=λe=>J (tu hN g (e▸O));simp[this,e]
    ·exact .inr ⟨k,c,e,z.sameBut hs (cne y c e)⟩
  ·obtain⟨Y,z⟩:=I.cell y c e
   exact⟨Y,z.sameBut hs (cne y c e)⟩
  ·obtain⟨e,n,ne,nf,d⟩:=I.pin p hp
   exact⟨(hs.2 p.1 ne).trans e,n,ne,nf,d⟩
 ·have L:X.fn x=M2:=by
   rcases hf with z|z
   ·exact z
   ·rw[z]at hk;cases hk
  obtain⟨c,hc⟩:=I.ok.has x (.inl hk);obtain⟨Y,z⟩:=I.cell x c hc;refine wpAny_storeName_cell I.ok.kind hk hc z (λh' R hs=>?_);obtain⟨oc,T,U⟩:=id z;refine h {s with heap:=h'} ⟨I.ok,I.os,I.bare,⟨λb o e n F l=>?_,λb o e n F l=>?_,I.base.free,λb o e l=>?_,I.base.tups,I.base.frzs,I.base.tbls⟩,⟨m,hn.sameBut hs (Ne.symm (cne x c hc)),λj y v' g B e3=>?_⟩,λy Z e=>?_,I.free,I.freeC,λp hp=>?_,f ⟨oc,T,I.freeC x c hc⟩ hs,by simpa using I.len⟩ ⟨c,hs,.inr hc⟩
  ·exact(hs.2 b (Od (NH (NI e) (I.ok.cab x c L hc)))).trans (I.base.keep b o e n F l)
  ·obtain⟨sl,g⟩:=I.base.slot b o e n F l
   exact⟨sl,(hs.2 b (Od (NH (NI e) (I.ok.cab x c L hc)))).trans g⟩
  ·obtain⟨o',g⟩:=I.base.there b o e l
   exact⟨o',(hs.2 b (Od (NH (NI e) (I.ok.cab x c L hc)))).trans g⟩
  ·by_cases J:j=i
   ·subst J
    rw[O]at g;cases g;rw[U3 C]at B;cases B;exact⟨u,r,.inr ⟨.inl hk,c,hc,R⟩⟩
   ·rw[Vs (Ne.symm J)]at B
    obtain⟨u',r',q⟩:=hl j y v' g B e3;refine⟨u',r',?_⟩;rcases q with q|⟨k,Z,e,z'⟩
    ·exact .inl q
    ·refine .inr ⟨k,Z,e,z'.sameBut hs ?_⟩
     rintro rfl;exact J (tu hN g (I.ok.inj _ _ _ e hc▸O))
  ·by_cases W:Z=c
   ·subst W;exact⟨_,R⟩
   ·obtain⟨w2,z2⟩:=I.cell y Z e
    exact⟨w2,z2.sameBut hs W⟩
  ·obtain⟨e,n,ne,nf,d⟩:=I.pin p hp
   refine⟨(hs.2 p.1 ?_).trans e,n,ne,nf,d⟩;intro q;rw[q,T]at e;have q':oc=p.2:=NN e;exact d Y (by rw[←q'];exact U)
theorem mT{M:Model}{E:M7->Ng->Prop}(I:Inv X pins σ H s)(a:X.N.Nodup)(b:X.N[i]?=on x)(c:Loc X.env.scope x)(r:aF v u)
  (h:∀s',Inv X pins (σ.set i (on v)) H s'->Q () s') (d:X.fn x=M2\/X.env.scope.names.lookup x=on .local:=by first|exact .inl rfl|exact .inr rfl|assumption):Nn M A (storeName X.env x u) Q E s:=
 kt I a b c r (λs' e _=>h s' e) d
theorem Inv.call'{s':Ng}{ch:List M3}(I:Inv X pins σ H s)(d:s'.os=s.os)(u:Un (frs X.stack) ch H H' s.heap s'.heap)(hok:HOk X.prog X.w H' s'.heap)(f:R6 s'.gens)
  (a:∀b∈ch,(b∈X.ex\/X.s₀.heap.objs.size<=b)/\b≠X.env.locals/\(∀x c,X.env.cells.lookup x=on c->c≠b)/\∀p∈X.pn++pins,p.1≠b):Inv X pins σ H' s':=by
 obtain⟨h',g',d',t',g⟩:=s';have e:g=s.os:=d;subst e;exact I.call (g':=g') (t':=t') (d':=d') u hok f a
abbrev XK:=M7->Option M3->Hp->Prop
abbrev St:=List (Option V)
abbrev VK:=V->Hp->Prop
abbrev TE:=St->Hp->VK->Prop
abbrev TT:=St->Hp->(Bool->Hp->Prop)->Prop
abbrev TA:=St->Hp->(List V->Hp->Prop)->Prop
structure Ends where
 nx:St->Hp->Prop
 rt:VK
 bk:St->Hp->Prop:=λ_ _=>False
 ct:St->Hp->Prop:=λ_ _=>False
abbrev TS:=Ends->St->Hp->Prop
def EP(X:Cx)(pins:List (M3×NM))(σ:St)(Q:VK)(u:M7)(s':Ng):Prop:=∃v H',Inv X pins σ H' s'/\aF v u/\Q v H'
def TP(X:Cx)(pins:List (M3×NM))(σ:St)(Q:Bool->Hp->Prop)(b:Bool)(s':Ng):Prop:=∃H',Inv X pins σ H' s'/\Q b H'
def AP(X:Cx)(pins:List (M3×NM))(σ:St)(Q:List V->Hp->Prop)(us:List M7)(s':Ng):Prop:=∃vs H',Inv X pins σ H' s'/\ar vs us/\Q vs H'
def SP(X:Cx)(pins:List (M3×NM))(D:Ends)(f:Flow)(s':Ng):Prop:=
 match f with
 | .next=>∃a H',Inv X pins a H' s'/\D.nx a H'
 | .brk=>∃a H',Inv X pins a H' s'/\D.bk a H'
 | .cont=>∃a H',Inv X pins a H' s'/\D.ct a H'
 | .ret u=>∃v a H',Inv X pins a H' s'/\aF v u/\D.rt v H'
def PE(X:Cx)(e:Expr)(t:TE):Prop:=
 ∀(pins:List (M3×NM)) (s:Ng) (σ:St) (H:Hp) (Q:VK),Inv X pins σ H s->t σ H Q->Nn (NL X.prog X.w) X.A (Op e X.env) (EP X pins σ Q) X.xe s
def PT(X:Cx)(e:Expr)(t:TT):Prop:=
 ∀(pins:List (M3×NM)) (s:Ng) (σ:St) (H:Hp) (Q:Bool->Hp->Prop),Inv X pins σ H s->t σ H Q->Nn (NL X.prog X.w) X.A (isTrue e X.env (Op e X.env)) (TP X pins σ Q) X.xe s
def PW(X:Cx)(e:Expr)(t:TT):Prop:=
 ∀(a:Sem M7) (pins:List (M3×NM)) (s:Ng) (σ:St) (H:Hp) (Q:Bool->Hp->Prop),Inv X pins σ H s->t σ H Q->Nn (NL X.prog X.w) X.A (isTrue e X.env a) (TP X pins σ Q) X.xe s
theorem PW.pt{X:Cx}(h:PW X e t):PT X e t:=h _
def PA(X:Cx)(es:List Expr)(t:TA):Prop:=
 ∀(pos:RN) (pins:List (M3×NM)) (s:Ng) (σ:St) (H:Hp) (Q:List V->Hp->Prop),Inv X pins σ H s->t σ H Q->Nn (NL X.prog X.w) X.A (spliced (Ps pos (No es X.env))) (AP X pins σ Q) X.xe s
def PS(X:Cx)(st:OA)(t:TS):Prop:=
 ∀(pins:List (M3×NM)) (s:Ng) (σ:St) (H:Hp) (D:Ends),Inv X pins σ H s->t D σ H->Nn (NL X.prog X.w) X.A (exec st X.env) (SP X pins D) X.xe s
def PSs(X:Cx)(st:List OA)(t:TS):Prop:=
 ∀(pins:List (M3×NM)) (s:Ng) (σ:St) (H:Hp) (D:Ends),Inv X pins σ H s->t D σ H->Nn (NL X.prog X.w) X.A (execs st X.env) (SP X pins D) X.xe s
theorem thn{α:Type}{t:Sem α}{Q b:α->Ng->Prop}{M:Model}{A:Oj}{E:M7->Ng->Prop}{s:Ng}(h:Nn M A t Q E s)(c:∀a s,Q a s->b a s):Nn M A t b E s:=Oe h c λ_ _ x=>x
def mP(i:Nat):TE:=λσ H Q=>∃v,σ[i]?=on (on v)/\Q v H
def tC(v:V):TE:=λ_ H Q=>Q v H
theorem JQ(g:X.N[i]?=on x)(j:Vis X.env.scope x)(hd:(x==("__debug__":NY))=M4:=by decide)(d:(x==("__classdict__":NY))=M4:=by decide):PE X (.Name x pos) (mP i):=by
 intro pins s σ H Q I h;obtain⟨v,e,h⟩:=h;obtain⟨m,hn,k⟩:=I.loc;obtain⟨u,r,l⟩:=k i x v g e j;have b:EP X pins σ Q u s:=⟨v,H,I,r,h⟩;rcases l with⟨hk,hm⟩|⟨hk,c,f,a⟩
 ·exact wpAny_Name (wpAny_loadName_local I.ok.kind hk hn hm b) hd
 ·rcases hk with hk|hk
  ·exact wpAny_Name (wpAny_loadName_cell I.ok.kind hk f a b) hd
  ·exact wpAny_Name (wpAny_loadName_free I.ok.kind hk f a b d) hd
theorem bz{i j pos}:PE X (.Constant (.int i) j pos) (tC (.int i)):=λ_ _ _ H _ I h=>wpAny_Constant_int ⟨.int i,H,I.tok _,⟨_,rfl⟩,h⟩
theorem Mn{b j pos}:PE X (.Constant (.bool b) j pos) (tC (.bl b)):=λ_ _ _ H _ I h=>Constant_bool ⟨.bl b,H,I,rfl,h⟩
theorem JU{j pos}:PE X (.Constant .none j pos) (tC .non):=λ_ _ _ H _ I h=>Constant_none ⟨.non,H,I,rfl,h⟩
def Gl(X:Cx)(x:NY):Prop:=X.env.kindOf x=on .globalImplicit
theorem pO{E:M7->Ng->Prop}{pins:List (M3×NM)}{s:Ng}{σ:St}{H:Hp}(I:Inv X pins σ H s)(a:Gl X x)(hm:X.mg x=on u)(h:Q u s)
  (hd:(x==("__debug__":NY))=M4:=by decide):Nn (NL X.prog X.w) X.A (Op (.Name x pos) X.env) Q E s:=
 Uc I.ok.kind a (Calls.loadGlobal_global (by rw[I.ok.glob];exact I.mod.glob.keeps I.bk) hm h) hd
theorem eX{E:M7->Ng->Prop}{pins:List (M3×NM)}{s:Ng}{σ:St}{H:Hp}(I:Inv X pins σ H s)(a:Gl X x)(hm:X.mg x=MY)(b:QX x=on u)(h:Q u s)
  (hn:x≠"__name__":=by decide) (hd:(x==("__debug__":NY))=M4:=by decide):Nn (NL X.prog X.w) X.A (Op (.Name x pos) X.env) Q E s:=by
 obtain⟨e,c,d⟩:=I.mod.blt;exact Uc I.ok.kind a (Calls.loadGlobal_builtin (by rw[I.ok.glob];exact I.mod.glob.keeps I.bk) hm (by rw[I.ok.blt];exact c.keeps I.bk) ((d x hn).trans b) h) hd
theorem HL(a:Gl X x)(hm:X.mg x=on u)(r:aF v u)(hd:(x==("__debug__":NY))=M4:=by decide):PE X (.Name x pos) (tC v):=
 λ_ _ _ H _ I h=>pO I a hm ⟨v,H,I,r,h⟩ hd
theorem cw(a:Gl X x)(hm:X.mg x=MY)(b:QX x=on u)(r:aF v u)(hn:x≠"__name__":=by decide)(hd:(x==("__debug__":NY))=M4:=by decide):PE X (.Name x pos) (tC v):=
 λ_ _ _ H _ I h=>eX I a hm b ⟨v,H,I,r,h⟩ hn hd
variable{a b:Expr}{ta tb:TE}{pos:RN}
variable{tA tB':TT}{rest:List Expr}
def tOr(t u:TT):TT:=λσ H Q=>t σ H λc d=>if c=M2 then Q M2 d else u σ d Q
def tNot(t:TT):TT:=λσ H Q=>t σ H λc d=>Q (!c) d
theorem JJ(ha:PT X a tA):PW X (.BoolOp .Or [a] pos) tA:=by
 intro d pins s σ H Q I h;refine isTrue_or (thn (ha pins s σ H Q I h) λc f e=>?_);cases c with
 |false=>exact isTrue_or_nil e
 |true=>exact e
theorem Mi(ha:PT X a tA)(f:PW X (.BoolOp .Or (b::rest) pos) tB'):PW X (.BoolOp .Or (a::b::rest) pos) (tOr tA tB'):=by
 intro g pins s σ H Q I h;refine isTrue_or (thn (ha pins s σ H _ I h) λc i ⟨d,e,q1⟩=>?_);cases c with
 |true=>exact⟨d,e,q1⟩
 |false=>exact f g pins i σ d Q e q1
theorem JL(ha:PT X a tA):PT X (.UnaryOp .Not a pos) (tNot tA):=by
 intro pins s σ H Q I h;exact isTrue_not (ha pins s σ H (λc d=>Q (!c) d) I h)
def Mb(ta tb:TE):TE:=λσ H Q=>ta σ H λx d=>∃c,x= .bl c/\if c=M2 then tb σ d Q else Q (.bl M4) d
theorem JT{op}(h:PE X a t):PE X (.BoolOp op [a] pos) t:=λpins s σ H Q I c=>BoolOp_one (h pins s σ H Q I c)
theorem JW(ha:PE X a ta)(f:PE X (.BoolOp .And (b::rest) pos) tb):PE X (.BoolOp .And (a::b::rest) pos) (Mb ta tb):=by
 intro pins s σ H Q I h;refine BoolOp_and (thn (ha pins s σ H _ I h) λv g ⟨x,d,e,r1,q1⟩=>?_);obtain⟨c,rfl,q1⟩:=q1;cases r1;refine Oo ?_;cases c with
 |true=>exact f pins g σ d Q e q1
 |false=>exact⟨.bl M4,d,e,rfl,q1⟩
def tIf(t:TT)(ta tb:TE):TE:=λσ H Q=>t σ H λc d=>if c=M2 then ta σ d Q else tb σ d Q
theorem z5(i:PT X c tA)(ha:PE X a ta)(j:PE X b tb):PE X (.IfExp c a b pos) (tIf tA ta tb):=by
 intro pins s σ H Q I h;refine wpAny_IfExp (thn (i pins s σ H _ I h) λd e ⟨f,g,q1⟩=>?_);cases d with
 |true=>exact ha pins e σ f Q g q1
 |false=>exact j pins e σ f Q g q1
def SqL(K:NA)(H:Hp)(a:M3)(xs:List V):Prop:=
 Rd H a (.lst xs)\/
  ∃(o:NM) (its:Array M7) (n:Nat),K.lookup a=on o/\o.cls= .type "list"/\o.dict=MY/\o.data= .seq its n/\its.size<=Nr/\ar xs its.toList
def SqT(K:NA)(H:Hp)(a:M3)(xs:List V):Prop:=
 Rd H a (.tup xs)\/
  ∃(o:NM) (its:Array M7) (n:Nat),K.lookup a=on o/\o.cls= .type "tuple"/\o.data= .seq its n/\its.size<=Nr/\ar xs its.toList
noncomputable def absV:M7->Option V
 | .none=>on .non
 | .bool b=>on (.bl b)
 | .int i _=>on (.int i)
 | .str x _=>on (.str x)
 | .ref a=>on (.ref a)
 | .type n=>on (.ty n)
 |_=>MY
theorem aF.abs(r:aF x u):absV u=on x:=by
 cases x with
 |non=>cases r;rfl
 |bl _=>cases r;rfl
 |int _=>obtain⟨t,rfl⟩:=r;rfl
 |str _=>obtain⟨t,rfl⟩:=r;rfl
 |ref _=>cases r;rfl
 |ty _=>cases r;rfl
theorem aF.inj(r:aF x u)(q:aF y u):x=y:=NN (r.abs.symm.trans q.abs)
theorem ar.inj:∀{xs ys:List V} {us:List M7},ar xs us->ar ys us->xs=ys
 |_,_,_,.nil,.nil=>rfl
 |_,_,_,.cons r t,.cons r' t'=>by rw[r.inj r',ar.inj t t']
end
section
variable{X:Cx}{pins:List (M3×NM)}{σ:St}{H:Hp}{s:Ng}{a:M3}{xs ys:List V}
theorem SqL.of{K:NA}(h:H a=on (.lst xs)):SqL K H a xs:= .inl (.inl h)
theorem Inv.list(I:Inv X pins σ H s)(h:SqL X.K H a xs):∃its:List M7,ar xs its/\PlainL s.heap a its.toArray/\xs.length<=Nr:=by
 rcases h with h|⟨o,its,n,b,c,hd,hs,d,r⟩
 ·obtain⟨z,its,n,r,e⟩:=h.ok I.hok
  exact⟨its,r,⟨_,n,e,rfl,rfl,rfl⟩,z⟩
 ·refine⟨its.toList,r,⟨o,n,I.kIn a o b,c,hd,by simpa using hs⟩,?_⟩
  have e:=r.length;simp only[NS]at e;omega
theorem Inv.tuple(I:Inv X pins σ H s)(h:SqT X.K H a xs):∃its:List M7,ar xs its/\IsTup s.heap a its.toArray/\xs.length<=Nr:=by
 rcases h with h|⟨o,its,n,b,c,hs,d,r⟩
 ·obtain⟨z,its,r,p⟩:=h.ok I.hok
  exact⟨its,r,p,z⟩
 ·refine⟨its.toList,r,⟨o,I.kIn a o b,c,n,by simpa using hs⟩,?_⟩
  have e:=r.length;simp only[NS]at e;omega
theorem Inv.list_inj(I:Inv X pins σ H s)(h:SqL X.K H a xs)(h':SqL X.K H a ys):xs=ys:=by
 obtain⟨its,r,⟨o,n,e,_,_,d⟩,_⟩:=I.list h;obtain⟨its',c,⟨f,g,b,_,_,d'⟩,_⟩:=I.list h';rw[e]at b;cases b;rw[d]at d'
 injection d' with d1 _
 have:its=its':=by simpa using Oi Array.toList d1
 subst this;exact r.inj c
theorem Inv.tuple_inj(I:Inv X pins σ H s)(h:SqT X.K H a xs)(h':SqT X.K H a ys):xs=ys:=by
 obtain⟨its,r,⟨o,e,_,n,d⟩,_⟩:=I.tuple h;obtain⟨its',c,⟨f,b,_,g,d'⟩,_⟩:=I.tuple h';rw[e]at b;cases b;rw[d]at d'
 injection d' with d1 _
 have:its=its':=by simpa using Oi Array.toList d1
 subst this;exact r.inj c
noncomputable abbrev Cx.wish(X:Cx)(E:M7->Ng->Prop):Cx:={X with xe:=E}
noncomputable abbrev Cx.nox(X:Cx):Cx:=X.wish λ_ _=>False
theorem Cx.Ok.wish{X:Cx}(ok:X.Ok)(E:M7->Ng->Prop):(X.wish E).Ok:=
 ⟨ok.mod,ok.kind,ok.glob,ok.blt,ok.above,ok.inj,ok.has,ok.cab,ok.hd,ok.frames,ok.stk,ok.exf,ok.bs,ok.bsz,ok.noex,ok.exfs,ok.funs,ok.frf⟩
theorem Cx.Ok.unwish{X:Cx}{E:M7->Ng->Prop}(ok:(X.wish E).Ok):X.Ok:=
 ⟨ok.mod,ok.kind,ok.glob,ok.blt,ok.above,ok.inj,ok.has,ok.cab,ok.hd,ok.frames,ok.stk,ok.exf,ok.bs,ok.bsz,ok.noex,ok.exfs,ok.funs,ok.frf⟩
variable{E:M7->Ng->Prop}
theorem Inv.wish(I:Inv X pins σ H s)(E:M7->Ng->Prop):Inv (X.wish E) pins σ H s:=⟨I.ok.wish E,I.os,I.bare,I.base,I.loc,I.cell,I.free,I.freeC,I.pin,I.hok,I.len⟩
theorem Inv.unwish(I:Inv (X.wish E) pins σ H s):Inv X pins σ H s:=⟨I.ok.unwish,I.os,I.bare,I.base,I.loc,I.cell,I.free,I.freeC,I.pin,I.hok,I.len⟩
theorem SP.unwish{D:Ends}(h:SP (X.wish E) pins D f s'):SP X pins D f s':=by
 cases f with
 |next=>obtain⟨b,c,I,q⟩:=h;exact⟨b,c,I.unwish,q⟩
 |brk=>obtain⟨b,c,I,q⟩:=h;exact⟨b,c,I.unwish,q⟩
 |cont=>obtain⟨b,c,I,q⟩:=h;exact⟨b,c,I.unwish,q⟩
 |ret u=>obtain⟨v,b,c,I,r,q⟩:=h;exact⟨v,b,c,I.unwish,r,q⟩
theorem PSs.nox{st:List OA}(h:PSs X.nox st t):PSs X st t:=λpins s σ H D I b=>
 Oe (h pins s σ H D (I.wish _) b) (λ_ _ q=>q.unwish) λ_ _ z=>PD z
variable{st:OA}{rest:List OA}{t u:TS}{e:Expr}{te:TE}{pos:RN}
noncomputable def L9:TS:=λD σ H=>D.nx σ H
def tSeq(t u:TS):TS:=λD σ H=>t {D with nx:=u D} σ H
theorem pI:PSs X [] L9:=λ_ _ σ H _ I h=>UU ⟨σ,H,I,h⟩
theorem cA(c:PS X st t)(d:PSs X rest u):PSs X (st::rest) (tSeq t u):=by
 intro pins s σ H D I h;refine wpAny_execs_cons (thn (c pins s σ H {D with nx:=u D} I h) λf g q=>?_);cases f with
 |next=>
  obtain⟨b,i,j,q⟩:=q;exact d pins g b i D j q
 |ret v=>exact q
 |brk=>exact q
 |cont=>exact q
theorem lM(b:PS X st t):PSs X [st] t:=by
 intro pins s σ H D I h;refine wpAny_execs_cons (thn (b pins s σ H D I h) λf c q=>?_);cases f with
 |next=>exact UU q
 |ret v=>exact q
 |brk=>exact q
 |cont=>exact q
theorem Inv.quiet{pins:List (M3×NM)}{σ:St}{H:Hp}{s:Ng}(I:Inv X pins σ H s):interactive X.env=M4:=by simp[interactive,I.ok.kind]
def v3(te:TE):TS:=λD σ H=>te σ H λ_ b=>D.nx σ b
theorem eQ(b:PE X e te)(hs:RE e MY pos.line X.env=Pn M4:=by rfl):PS X (.Expr e pos) (v3 te):=by
 intro pins s σ H D I h;exact wpAny_Expr_any (thn (b pins s σ H _ I h) λv f ⟨x,c,d,r1,q1⟩=>⟨σ,c,d,q1⟩) I.quiet hs
def zE(te:TE):TS:=λD σ H=>te σ H D.rt
theorem ay(b:PE X e te):PS X (.Return (on e) pos) (zE te):=by
 intro pins s σ H D I h;exact wpAny_Return_some (thn (b pins s σ H _ I h) λv f ⟨x,c,d,r1,q1⟩=>⟨x,σ,c,d,r1,q1⟩)
def tIfS(c:TT)(t u:TS):TS:=λD σ H=>c σ H λb d=>if b=M2 then t D σ d else u D σ d
theorem EX{a b:List OA}(j:PT X c tc)(ha:PSs X a t)(k:PSs X b u):PS X (.If c a b pos) (tIfS tc t u):=by
 intro pins s σ H D I h;refine wpAny_If (thn (j pins s σ H _ I h) λd f ⟨g,i,q1⟩=>?_);cases d with
 |true=>exact ha pins f σ g D i q1
 |false=>exact k pins f σ g D i q1
abbrev TG:=V->St->Hp->(St->Hp->Prop)->Prop
abbrev TGs:=List V->St->Hp->(St->Hp->Prop)->Prop
def PG(X:Cx)(b:Expr)(t:TG):Prop:=
 ∀(pins:List (M3×NM)) (s:Ng) (σ:St) (H:Hp) (v:V) (u:M7) (Q:St->Hp->Prop),Inv X pins σ H s->aF v u->t v σ H Q->
  Nn (NL X.prog X.w) X.A (R0 b X.env u) (λ_ s'=>∃c d,Inv X pins c d s'/\Q c d) X.xe s
def PGs(X:Cx)(d:List Expr)(t:TGs):Prop:=
 ∀(pins:List (M3×NM)) (s:Ng) (σ:St) (H:Hp) (vs:List V) (us:List M7) (Q:St->Hp->Prop),Inv X pins σ H s->ar vs us->t vs σ H Q->
  Nn (NL X.prog X.w) X.A (assignInOrder ((SY d X.env).map (·.2)) us) (λ_ s'=>∃b c,Inv X pins b c s'/\Q b c) X.xe s
abbrev DY:=V->V->V->Hp->(Hp->Prop)->Prop
def DZ(X:Cx)(t:DY):Prop:=
 ∀(pins:List (M3×NM)) (s:Ng) (σ:St) (H:Hp) (o i v:V) (b c u:M7) (Q:Hp->Prop),Inv X pins σ H s->aF o b->aF i c->aF v u->t o i v H Q->
  Nn (NL X.prog X.w) X.A (setItem b c u) (λ_ s'=>∃d,Inv X pins σ d s'/\Q d) X.xe s
abbrev TIp:=V->V->Hp->VK->Prop
def PIp(X:Cx)(op:Operator)(t:TIp):Prop:=
 ∀(pins:List (M3×NM)) (s:Ng) (σ:St) (H:Hp) (x y:V) (v u:M7) (Q:VK),Inv X pins σ H s->aF x v->aF y u->t x y H Q->
  Nn (NL X.prog X.w) X.A (inplaceOp op v u) (EP X pins σ Q) X.xe s
def dH(i:Nat):TG:=λv σ H Q=>Q (σ.set i (on v)) H
theorem u6(b:X.N.Nodup)(c:X.N[i]?=on x)(d:Loc X.env.scope x)(f:X.fn x=M2\/X.env.scope.names.lookup x=on .local:=by first|exact .inl rfl|exact .inr rfl|assumption):PG X (.Name x pos) (dH i):=by
 intro pins s σ H v u Q I r h;exact Uq (mT I b c d r (λs' g=>⟨_,H,g,h⟩) f)
noncomputable def gNil:TGs:=λvs σ H Q=>vs=[]/\Q σ H
def wS(t:TG)(u:TGs):TGs:=λvs σ H Q=>∃v r,vs=v::r/\t v σ H λb c=>u r b c Q
theorem bp:PGs X [] gNil:=by
 intro pins s σ H vs us Q I r h;obtain⟨e,h⟩:=h;subst e;cases r;exact assignInOrder_nil ⟨σ,H,I,h⟩
theorem az{e:Expr}{t:TG}{u:TGs}(c:PG X e t)(d:PGs X es u)
  (hs:(SY (e::es) X.env).map (·.2)=R0 e X.env::(SY es X.env).map (·.2):=by rfl):PGs X (e::es) (wS t u):=by
 intro pins s σ H vs us Q I r h;obtain⟨v,l,f,h⟩:=h;subst f;cases r with
 |cons r g=>
  rw[hs];refine assignInOrder_cons (thn (c pins s σ H _ _ _ I r h) λ_ i ⟨b,j,k,q1⟩=>?_);exact d pins i b j _ _ Q k g q1
def BL(K:NA)(n:Nat)(t:TGs):TG:=λv σ H Q=>∃a xs,v= .ref a/\SqT K H a xs/\xs.length=n/\t xs σ H Q
theorem bF{t:TGs}(g:X.calm=M2)(h:PGs X es t)
  (hn:(SY es X.env).length=n:=by rfl) (c:(SY es X.env).findIdx? (·.1)=MY:=by rfl):PG X (.Tuple es k pos) (BL X.K n t):=by
 intro pins s σ H v u Q I r d;obtain⟨a,xs,i,j,l,d⟩:=d;subst i;cases r;obtain⟨its,f,m,w⟩:=I.tuple j;refine assign_Tuple_tuple (I.ok.hd g) m (by simp[hn,←l,f.length]) c λh' p=>?_;have q:Inv X pins σ H {s with heap:=h'}:=I.kept (t':=s.toks) λb o e=>p b o (Od (NI e)) e;exact h pins _ σ H xs _ Q q (by simpa using f) d
def BM(to b:TE)(t:DY):TG:=λv σ H Q=>to σ H λo c=>b σ c λi d=>t o i v d λf=>Q σ f
theorem hX{t:DY}(d:PE X o to)(f:PE X i ti)(hs:DZ X t)
  (ha:∀v,R0 (.Subscript o i pos) X.env v=(do
   let b ←Ro [v] (Op o X.env)
   let c ←Ro [v,b] (Op i X.env)
   QY pos
   Ro [v,b,c] (setItem b c v)
   release [v,b,c] []):=by intro _;rfl):PG X (.Subscript o i pos) (BM to ti t):=by
 intro pins s σ H v u Q I r h;rw[ha];refine My (OB (thn (d pins s σ H _ I h) λb g ⟨x,j,k,r1,q1⟩=>?_));refine My (OB (thn (f pins g σ j _ k q1) λc l ⟨y,m,n,p,q2⟩=>?_));refine My (Pp (My (OB (thn (hs pins l σ m x y v b c u _ n r1 p r q2) λ_ A ⟨q,w,q3⟩=>?_))));exact wpAny_release ⟨σ,q,w,q3⟩
def gi(te:TE)(g:TG):TS:=λD σ H=>te σ H λx b=>g x σ b D.nx
theorem eW{tg e:Expr}{te:TE}(b:PE X e te)(c:PG X tg g)(hs:swapsWithSole [tg] e pos.line X.env=Pn M4:=by rfl)(d:swappedStores [tg] e X.env=Pn MY:=by rfl)
  (f:(SY [tg] X.env).map (·.2)=[R0 tg X.env]:=by rfl):PS X (.Assign [tg] e pos) (gi te g):=by
 intro pins s σ H D I h;refine wpAny_Assign_stores (thn (b pins s σ H _ I h) λv i ⟨x,j,k,r1,q1⟩=>?_) hs d;rw[f];exact thn (c pins i σ j x v _ k r1 q1) λ_ l q=>q
theorem oz{e:Expr}{te:TE}(b:X.N.Nodup)(c:X.N[i]?=on x)(d:Loc X.env.scope x)(f:PE X e te)(hs:RE e (on (.Name x pos')) pos.line X.env=Pn M4:=by rfl)(g:X.fn x=M2\/X.env.scope.names.lookup x=on .local:=by first|exact .inl rfl|exact .inr rfl|assumption):
  PS X (.Assign [.Name x pos'] e pos) (gi te (dH i)):=by
 intro pins s σ H D I h;refine wpAny_Assign_Name (thn (f pins s σ H _ I h) λv m ⟨y,j,k,r1,q1⟩=>?_) hs;exact mT k b c d r1 (λn l=>⟨_,j,l,q1⟩) g
def Jm(i:Nat)(te:TE)(b:TIp):TS:=λD σ H=>∃x,σ[i]?=on (on x)/\te σ H λy c=>b x y c λz d=>D.nx (σ.set i (on z)) d
theorem kN{e:Expr}{te:TE}(o:X.N.Nodup)(n:X.N[i]?=on x)(g:Loc X.env.scope x)(p:PE X e te)(q:PIp X op ti)(B:X.fn x=M2\/X.env.scope.names.lookup x=on .local:=by first|exact .inl rfl|exact .inr rfl|assumption):
  PS X (.AugAssign (.Name x pos') op e pos) (Jm i te ti):=by
 intro pins s σ H D I h;obtain⟨v,C,h⟩:=h;obtain⟨m,hn,F⟩:=I.loc;have j:Vis X.env.scope x:=by rcases g with k|k;exact .inl k;exact .inr (.inl k)
 obtain⟨u,r,l⟩:=F i x v n C j;refine wpAny_AugAssign_Name ?_;have go:Nn (NL X.prog X.w) X.A (Op e X.env) (λw d=>Nn (NL X.prog X.w) X.A (inplaceOp op u w) (λr f=>Nn (NL X.prog X.w) X.A (storeName X.env x r) (λ_=>SP X pins D .next) X.xe f) X.xe d) X.xe s:=by
  refine thn (p pins s σ H _ I h) λw J ⟨y,L,O,r1,q1⟩=>?_;refine thn (q pins J σ L v y u w _ O r r1 q1) λz W ⟨Y,P,Q,R,q2⟩=>?_;exact mT Q o n g R (λZ T=>⟨_,P,T,q2⟩) B
 rcases l with⟨hk,hm⟩|⟨hk,c,U,b⟩
 ·exact wpAny_loadName_local I.ok.kind hk hn hm go
 ·rcases hk with hk|hk
  ·exact wpAny_loadName_cell I.ok.kind hk U b go
  ·rcases g with k|k
   ·have:X.env.scope.names.lookup x=on .free:=hk
    rw[k]at this;cases this
   ·have:X.env.scope.names.lookup x=on .free:=hk
    rw[k]at this;cases this
def ipI(f:Int->Int->Int):TIp:=λx y H Q=>∃i j,x= .int i/\y= .int j/\Q (.int (f i j)) H
theorem yM:PIp X .Add (ipI λi j=>i+j):=by
 intro pins s σ H x y v u Q I r1 b h;obtain⟨i,j,c,d,q⟩:=h;subst c;subst d;obtain⟨t,rfl⟩:=r1;obtain⟨t',rfl⟩:=b;exact iadd_int ⟨.int _,H,I.tok _,⟨_,rfl⟩,q⟩
structure It where
 go:Nat->Hp->Prop
 yld:Nat->Hp->V->Hp->Prop
 stop:Nat->Hp->Prop
def d6(X:Cx)(pins:List (M3×NM))(H:Hp)(b:M3):Prop:=
 H b=MY/\b≠X.env.locals/\b∉X.fs/\(b∈X.ex\/X.s₀.heap.objs.size<=b)/\(∀x c,X.env.cells.lookup x=on c->c≠b)/\∀p∈X.pn++pins,p.1≠b
theorem Inv.fpOk{X:Cx}{pins:List (M3×NM)}{σ:St}{H f:Hp}{s:Ng}{b:M3}(I:Inv X pins σ H s)(d:s.heap.objs.size<=b)(hn:f b=MY):d6 X pins f b:=by
 refine⟨hn,Qc (NH I.lt d),I.nofs d,.inr (NG I.sz d),λx c e z=>?_,λp g z=>?_⟩
 ·obtain⟨v,q⟩:=I.cell x c e
  exact NE (NH q.lt (by rw[z];exact d)) (Oc _)
 ·exact NE (NH (NI (I.pin p g).1) (by rw[z];exact d)) (Oc _)
structure Turn (P:NQ) (w:N0) (K:NA) (tg:Expr) (J:It) (fp:List M3) (it:M3) (tn:Nat->Ox->Prop):Prop where
 mem:it∈fp
 obj:∀i h,tn i h->∀b∈fp,∃o,h.get? b=on o/\∀v,o.data≠ .cell v
 keep:∀i h h',tn i h->(∀b∈fp,∀o,h.get? b=on o->h'.get? b=on o)->tn i h'
 item:∀(X:Cx),X.prog=P->X.w=w->X.K=K->X.calm=M2->∀(i:Nat) (pins:List (M3×NM)) (s:Ng) (σ:St) (H:Hp) (E:M7->Ng->Prop),Inv X pins σ H s->(∀b∈fp,d6 X pins H b)->tn i s.heap->J.go i H->
  Nn (NL P w) X.A (Rp (.ref it)) (λr s1=>∃u,r=on u/\
   Nn (NL P w) X.A (R1 tg (.ref it) u) (λ_ s2=>∃x H',Inv X pins σ H' s2/\aF x u/\J.yld i H x H'/\tn (i+1) s2.heap/\∀b∈fp,H' b=MY) E s1) E s
 done:∀(X:Cx),X.prog=P->X.w=w->X.K=K->X.calm=M2->∀(i:Nat) (pins:List (M3×NM)) (s:Ng) (σ:St) (H:Hp) (E:M7->Ng->Prop),Inv X pins σ H s->(∀b∈fp,d6 X pins H b)->tn i s.heap->J.stop i H->
  Nn (NL P w) X.A (Rp (.ref it)) (λr s1=>r=MY/\Inv X pins σ H s1) E s
 self:∀(A:Oj) (i:Nat) (s:Ng) (Q:M7->Ng->Prop) (E:M7->Ng->Prop),tn i s.heap->Q (.ref it) s->Nn (NL P w) A (Tp (.ref it)) Q E s
abbrev TI:=St->Hp->(It->Hp->Prop)->Prop
def PIE(X:Cx)(pins:List (M3×NM))(σ:St)(tg:Expr)(R:It->Hp->Prop)(c:M7)(f:Ng):Prop:=
 ∃(it:M3) (g:List M3) (h:Nat->Ox->Prop) (J:It) (d:Hp),c= .ref it/\Inv X pins σ d f/\Turn X.prog X.w X.K tg J g it h/\h 0 f.heap/\(∀b∈g,d6 X pins d b)/\R J d
def PI(X:Cx)(tg b:Expr)(c:TI):Prop:=
 ∀(pins:List (M3×NM)) (s:Ng) (σ:St) (H:Hp) (R:It->Hp->Prop),Inv X pins σ H s->c σ H R->
  Nn (NL X.prog X.w) X.A (Op b X.env) (λv d=>Nn (NL X.prog X.w) X.A (Tp v) (PIE X pins σ tg R) X.xe d) X.xe s
theorem rP{M:Model}{E:M7->Ng->Prop}{s:Ng}{u:M7}{o:NM}(c:s.heap.get? it=on o)(d:o.cls= .type n)(hd:o.data= .fields vs)
  (hn:["enumerate","zip","dict_itemiterator","dict_reverseitemiterator","odict_iterator","itertools.zip_longest","itertools.pairwise"].contains n=M4) (b:Q () s):Nn M A (R1 tg (.ref it) u) Q E s:=by
 unfold R1;cases tg<;>first
  |exact M0 b
  |(cases u<;>first
   |exact M0 b
   |(refine My (wpAny_load c ?_)
     rw[d,hd];show Nn M A (if(["enumerate","zip","dict_itemiterator","dict_reverseitemiterator","odict_iterator","itertools.zip_longest","itertools.pairwise"].contains n&&vs[0]?==on (Rq _))=M2 then _ else _) Q E s;rw[M8 (by intro h;rw[hn,RO]at h;cases h)];exact M0 b))
noncomputable def Itl(K:NA)(a:M3):It:=
 ⟨λi H=>∃xs x,SqL K H a xs/\xs[i]?=on x,λi H x b=>b=H/\∀xs,SqL K H a xs->xs[i]?=on x,λi H=>∃xs,SqL K H a xs/\xs.length<=i⟩
noncomputable def Itt(K:NA)(a:M3):It:=
 ⟨λi H=>∃xs x,SqT K H a xs/\xs[i]?=on x,λi H x b=>b=H/\∀xs,SqT K H a xs->xs[i]?=on x,λi H=>∃xs,SqT K H a xs/\xs.length<=i⟩
noncomputable def Itr(lo:Int)(n:Nat):It:=⟨λi _=>i<n,λi H x b=>b=H/\x= .int (lo+i),λi _=>n<=i⟩
theorem qo{K:NA}(a it:M3):Turn P w K tg (Itl K a) [it] it (λi h=>h.IsListIter it a i) where
 mem:=by simp
 obj:=λi h st b f=>by
  have e:b=it:=by simpa using f
  subst e;obtain⟨o,e,c,d⟩:=st;exact⟨o,e,λv z=>by rw[d]at z;cases z⟩
 keep:=λi h h' st k=>st.at λo e=>k it (by simp) o e
 item:=by
  intro X m n q L i pins s σ H E I j st r;subst m n q;obtain⟨xs,x,l,y⟩:=r;obtain⟨its,A,p,N⟩:=I.list l;obtain⟨u,O,Q⟩:=A.get y;obtain⟨B,f1,f2,C,F,J⟩:=j it (by simp);refine wpAny_pyNext_list_item st p.isList (x:=u) (by simpa using O) λh' g R=>?_;have T:Inv X pins σ H {s with heap:=h'}:=I.turned (t':=s.toks) (λb o f e=>(R.2 b f).trans e) B f1 C F J;obtain⟨o,e,c,d⟩:=id g;exact⟨u,rfl,rP (s:={s with heap:=h'}) e c d (by decide) ⟨x,H,T,Q,⟨rfl,λys U=>by rw[I.list_inj U l];exact y⟩,g,λb f=>(j b f).1⟩⟩
 done:=by
  intro X m n q L i pins s σ H E I j st r;subst m n q;obtain⟨xs,l,y⟩:=r;obtain⟨its,A,p,N⟩:=I.list l;obtain⟨B,f1,f2,C,F,J⟩:=j it (by simp);have Y:=A.length;exact wpAny_pyNext_list_end (I.ok.hd L) st p.isList (by simp;omega) λh' W=>⟨rfl,I.turned (t':=s.toks) (λb o f e=>W b o f e) B f1 C F J⟩
 self:=λ_ _ _ _ _ st h=>wpAny_pyIter_listiter st h
theorem vV{K:NA}(a it:M3):Turn P w K tg (Itt K a) [it] it (λi h=>h.IsTupleIter it a i) where
 mem:=by simp
 obj:=λi h st b f=>by
  have e:b=it:=by simpa using f
  subst e;obtain⟨o,e,c,d⟩:=st;exact⟨o,e,λv z=>by rw[d]at z;cases z⟩
 keep:=λi h h' st k=>st.at λo e=>k it (by simp) o e
 item:=by
  intro X m n q L i pins s σ H E I j st r;subst m n q;obtain⟨xs,x,l,y⟩:=r;obtain⟨its,A,p,N⟩:=I.tuple l;obtain⟨u,O,Q⟩:=A.get y;obtain⟨B,f1,f2,C,F,J⟩:=j it (by simp);refine wpAny_pyNext_tuple_item st (show s.heap.IsTuple a its.toArray from p) (x:=u) (by simpa using O) λh' g R=>?_;have T:Inv X pins σ H {s with heap:=h'}:=I.turned (t':=s.toks) (λb o f e=>(R.2 b f).trans e) B f1 C F J;obtain⟨o,e,c,d⟩:=id g;exact⟨u,rfl,rP (s:={s with heap:=h'}) e c d (by decide) ⟨x,H,T,Q,⟨rfl,λys U=>by rw[I.tuple_inj U l];exact y⟩,g,λb f=>(j b f).1⟩⟩
 done:=by
  intro X m n q L i pins s σ H E I j st r;subst m n q;obtain⟨xs,l,y⟩:=r;obtain⟨its,A,p,N⟩:=I.tuple l;obtain⟨B,f1,f2,C,F,J⟩:=j it (by simp);have Y:=A.length;exact wpAny_pyNext_tuple_end (I.ok.hd L) st (show s.heap.IsTuple a its.toArray from p) (by simp;omega) λh' W=>⟨rfl,I.turned (t':=s.toks) (λb o f e=>W b o f e) B f1 C F J⟩
 self:=λ_ _ _ _ _ st h=>wpAny_pyIter_tupleiter st h
theorem vW{K:NA}(it:M3)(lo:Int)(n:Nat):Turn P w K tg (Itr lo n) [it] it (λi h=>UH h it (lo+(i:Nat)*1) ((n:Int)-(i:Nat)) 1) where
 mem:=by simp
 obj:=λi h st b c=>by
  have e:b=it:=by simpa using c
  subst e;exact⟨_,st,λv z=>by
   have C:Data.fields _=Data.cell v:=z;cases C⟩
 keep:=λi h h' st k=>k it (by simp) _ st
 item:=by
  intro X g j l m i pins s σ H E I f st p;subst g j l;obtain⟨q,f1,f2,r,y,A⟩:=f it (by simp);have W:=Walks.range (prog:=X.prog) (w:=X.w) (I.ok.hd m) it lo 1 n;refine W.item i s _ _ p st λv h' B F d J=>?_;obtain⟨t,rfl⟩:=F;have L:Inv X pins σ H {s with heap:=h',toks:=B}:=I.turned (λb o c e=>J b o (by simpa using c) e) q f1 r y A;refine⟨_,rfl,rP (s:={s with heap:=h',toks:=B}) (n:="range_iterator") d rfl rfl (by decide) ⟨.int (lo+i),H,L,⟨t,?_⟩,⟨rfl,rfl⟩,d,λb c=>(f b c).1⟩⟩;rw[Int.mul_one]
 done:=by
  intro X g j l m i pins s σ H E I f st p;subst g j l;obtain⟨q,f1,f2,r,y,A⟩:=f it (by simp);exact Ww (I.ok.hd m) st (by have:n<=i:=p;omega) λh' N=>⟨rfl,I.turned (t':=s.toks) (λb o c e=>N b o c e) q f1 r y A⟩
 self:=λ_ _ _ _ _ st h=>S5 st h
variable{tg:Expr}
def MP(K:NA)(c:TE):TI:=λσ H R=>c σ H λx b=>∃a,x= .ref a/\(∃xs,SqL K b a xs)/\R (Itl K a) b
theorem HH(f:PE X l tl):PI X tg l (MP X.K tl):=by
 intro pins s σ H R I h;refine thn (f pins s σ H _ I h) λv c ⟨x,g,d,r1,q1⟩=>?_;obtain⟨a,e,⟨xs,i⟩,q⟩:=q1;subst e;cases r1;obtain⟨its,k,p,m⟩:=d.list i;refine SH p.isList ?_;refine⟨c.heap.objs.size,[c.heap.objs.size],_,_,g,rfl,d.kept (t':=c.toks) λb o e=>M1 _ e,qo a _,⟨_,Nu _ rfl,rfl,rfl⟩,λb j=>?_,q⟩;have e:b=c.heap.objs.size:=by simpa using j
 subst e;exact d.fpOk (Nh _) (d.hok.fresh (Nh _))
theorem sU{pins:List (M3×NM)}{σ:St}{H:Hp}{s:Ng}{E:M7->Ng->Prop}{lo c:Int}{t u v:Tok}(I:Inv X pins σ H s)(f:-(2^62)<=lo)(g:lo<2^62)(h:-(2^62)<=c)(i:c<2^62)
  (q:R (Itr lo (c-lo).toNat) H):Nn (NL X.prog X.w) X.A (Tp (.ref s.heap.objs.size)) (PIE X pins σ tg R) E {s with heap:=s.heap.push {cls:= .type "range",data:= .fields #[.int lo t,.int c u,.int 1 v]},toks:=tk}:=by
 refine wpAny_pyIter_range (IsRange.new ..) (small_one f g h i) ?_;have d:Inv X pins σ H {s with heap:=s.heap.push {cls:= .type "range",data:= .fields #[.int lo t,.int c u,.int 1 v]},toks:=tk}:=I.kept λb o e=>M1 _ e;refine⟨(s.heap.push {cls:= .type "range",data:= .fields #[.int lo t,.int c u,.int 1 v]}).objs.size,[(s.heap.push {cls:= .type "range",data:= .fields #[.int lo t,.int c u,.int 1 v]}).objs.size],_,_,H,rfl,
  d.kept (t':=tk) λb o e=>M1 _ e,vW _ lo (c-lo).toNat,?_,λb j=>?_,q⟩
 ·have k:lo+((0:Nat):Int)*1=lo:=by simp
  have l:(((c-lo).toNat:Nat):Int)-((0:Nat):Int)=Tw lo c 1:=by rw[rangeSize_one];split<;>omega
  show UH _ _ (lo+((0:Nat):Int)*1) ((((c-lo).toNat:Nat):Int)-((0:Nat):Int)) 1;rw[k,l];exact Nu _ rfl
 ·have e:b=(s.heap.push {cls:= .type "range",data:= .fields #[.int lo t,.int c u,.int 1 v]}).objs.size:=by simpa using j
  subst e;exact d.fpOk (Nh _) (d.hok.fresh (Nh _))
def MN(b:TA):TI:=λσ H R=>b σ H λvs c=>∃j:Int,vs=[.int j]/\-(2^62)<=j/\j<2^62/\R (Itr 0 j.toNat) c
def MM(b:TA):TI:=λσ H R=>b σ H λvs c=>∃i j:Int,vs=[.int i,.int j]/\(-(2^62)<=i/\i<2^62/\-(2^62)<=j/\j<2^62)/\R (Itr i (j-i).toNat) c
theorem yf{a:Expr}{p pos:RN}(b:Gl X "range")(hm:X.mg "range"=MY)(ha:PA X [a] ta)(hs:No [a] X.env=[(M4,Op a X.env)]:=by rfl):PI X tg (.Call (.Name "range" p) [a] [] pos) (MN ta):=by
 intro pins s σ H R I h;refine Call_ (eX I b hm boot_range (OK (thn (ha pos pins s σ H _ I h) λus f ⟨vs,g,c,r1,q1⟩=>?_) hs rfl));obtain⟨j,e,q1,q2,q⟩:=q1;subst e;cases r1 with
 |cons r d=>
  cases d;obtain⟨t,rfl⟩:=r;exact call_range_1 (sU c (by omega) (by omega) q1 q2 (by simpa using q))
theorem ye{a b:Expr}{p pos:RN}(f:Gl X "range")(hm:X.mg "range"=MY)(ha:PA X [a,b] ta)(hs:No [a,b] X.env=[(M4,Op a X.env),(M4,Op b X.env)]:=by rfl)(c:No [b] X.env=[(M4,Op b X.env)]:=by rfl):
  PI X tg (.Call (.Name "range" p) [a,b] [] pos) (MM ta):=by
 intro pins s σ H R I h;refine Call_ (eX I f hm boot_range (OK (thn (ha pos pins s σ H _ I h) λus l ⟨vs,m,g,r1,q1⟩=>?_) (by rw[hs,c]) (by rw[c];rfl)));obtain⟨i,j,e,⟨q1,q2,q3,q4⟩,q⟩:=q1;subst e;cases r1 with
 |cons r d=>
  cases d with
  |cons k d=>
   cases d;obtain⟨t,rfl⟩:=r;obtain⟨t',rfl⟩:=k;exact call_range_2 (sU g q1 q2 q3 q4 q)
def Jk(h:TI)(g:TG)(j:TS):TS:=λD σ H=>h σ H λJ k=>∃W:Nat->Nat->St->Hp->Prop,(∃m,W 0 m σ k)/\∀i m σ H,W i m σ H->
 (J.stop i H/\D.nx σ H)\/(J.go i H/\∃N:St->Hp->Prop,(∀b c,N b c->∃f,f<m/\W (i+1) f b c)/\∀x c,J.yld i H x c->g x σ c λd l=>j {D with nx:=N,ct:=N,bk:=D.nx} d l)
noncomputable def kO(c:List M3)(h:Ox):List (M3×NM):=c.filterMap λb=>(h.get? b).map λo=>(b,o)
theorem gF{h:Ox}(c:b∈fp)(e:h.get? b=on o):(b,o)∈kO fp h:=RT.mpr ⟨b,c,by rw[e];rfl⟩
theorem ym{h:Ox}{p:M3×NM}(c:p∈kO fp h):p.1∈fp/\h.get? p.1=on p.2:=by
 obtain⟨b,d,e⟩:=RT.mp c;cases q:h.get? b with
 |none=>rw[q]at e;cases e
 |some o=>
  rw[q]at e;have f:(b,o)=p:=NN e;subst f;exact⟨d,q⟩
theorem Inv.pinned{pins:List (M3×NM)}{σ:St}{H:Hp}{s:Ng}(I:Inv X pins σ H s)(g:∀b∈fp,d6 X pins H b)(h:∀b∈fp,∃o,s.heap.get? b=on o/\∀v,o.data≠ .cell v):Inv X (pins++kO fp s.heap) σ H s:=
 I.pins_of λp i=>(OE.mp i).elim (λz=>I.pin p (N1 _ z)) λz=>by
  obtain⟨c,e⟩:=ym z;obtain⟨j,f1,f2,_⟩:=g p.1 c;obtain⟨o,f,d⟩:=h p.1 c;rw[e]at f;cases f;exact⟨e,j,f1,f2,d⟩
theorem Inv.unpinned{pins pl:List (M3×NM)}{σ:St}{H:Hp}{s:Ng}(I:Inv X (pins++pl) σ H s):Inv X pins σ H s:=I.pins_of λp b=>I.pin p (N1 _ (PV _ b))
theorem bh{pos:RN}(L:PassesOwn (NL X.prog X.w) X.A X.env X.xe)(hc:X.calm=M2)(hi:PI X tg iter wi)(hg:PG X tg g)(j:PSs X body tb)
  (hs:∀x,N5 iter X.env x=Pn x:=by intro _;rfl):PS X (.For tg iter body [] pos) (Jk wi g tb):=by
 intro pins s σ H D I h;refine wpAny_For (thn (hi pins s σ H _ I h) λv s1 h1=>thn h1 λitv s2 h2=>?_) hs;obtain⟨it,O,tn,J,H2,e,I2,T,Z,f2,W,⟨m0,w0⟩,P⟩:=h2;subst e
 --what stays M2 of the iterator's objects through the loop
 have k:∀{B:Hp},(∀b∈O,B b=MY)->∀b∈O,d6 X pins B b:=λhn b j=>⟨hn b j,(f2 b j).2⟩;refine codeAny_forLoop_any (λn s'=>∃i l B,Inv X pins l B s'/\tn i s'.heap/\(∀b∈O,B b=MY)/\W i n l B) ?_ m0 ⟨0,σ,H2,I2,Z,λb j=>(f2 b j).1,w0⟩;rintro n s3 ⟨i,p,Y,I3,Q,R,w3⟩;rcases P i n p Y w3 with⟨stop,qn⟩|⟨go,N,hN,step⟩
 ·refine R3 L (thn (T.done X rfl rfl rfl hc i pins s3 p Y X.xe I3 (k R) Q stop) λr s4 ⟨hr,I4⟩=>?_)
  subst hr;exact UU ⟨p,Y,I4,qn⟩
 ·refine R3 L (thn (T.item X rfl rfl rfl hc i pins s3 p Y X.xe I3 (k R) Q go) λr s4 ⟨u,hr,h4⟩=>?_)
  subst hr;refine R3 L (thn h4 λ_ s5 ⟨x,H5,I5,r5,y5,F,fr5⟩=>?_);have I5':=I5.pinned (k fr5) (T.obj _ _ F);refine R3 L (thn (hg _ s5 p H5 x u _ I5' r5 (step x H5 y5)) λ_ s6 ⟨σ6,H6,I6,q6⟩=>?_);refine R3 L (thn (j _ s6 σ6 H6 _ I6 q6) λf s7 C=>?_);have UM:∀{c:St} {q:Hp},Inv X (pins++kO O s5.heap) c q s7->N c q->∃m,m<n/\∃i l B,Inv X pins l B s7/\tn i s7.heap/\(∀b∈O,B b=MY)/\W i m l B:=λ{c q} y U=>by
   obtain⟨m',hm,w7⟩:=hN c q U;refine⟨m',hm,i+1,c,q,y.unpinned,T.keep _ _ _ F λb j o e=>(y.pin (b,o) (N1 _ (N1 _ (gF j e)))).1,λb j=>?_,w7⟩;obtain⟨o,e,d⟩:=T.obj _ _ F b j;exact(y.pin (b,o) (N1 _ (N1 _ (gF j e)))).2.1
  cases f with
  |next=>obtain⟨c,q,y,U⟩:=C;exact UM y U
  |cont=>obtain⟨c,q,y,U⟩:=C;exact UM y U
  |brk=>obtain⟨c,q,y,C⟩:=C;exact⟨c,q,y.unpinned,C⟩
  |ret v=>obtain⟨x7,c,q,y,r7,C⟩:=C;exact⟨x7,c,q,y.unpinned,r7,C⟩
abbrev R2:=V->V->Hp->VK->Prop
def OpR(X:Cx)(f:M7->M7->Sem M7)(r:R2):Prop:=
 ∀(pins:List (M3×NM)) (s:Ng) (σ:St) (H:Hp) (x y:V) (v u:M7) (Q:VK),Inv X pins σ H s->aF x v->aF y u->r x y H Q->
  Nn (NL X.prog X.w) X.A (f v u) (EP X pins σ Q) X.xe s
def UnR(X:Cx)(f:M7->Sem M7)(r:V->Hp->VK->Prop):Prop:=
 ∀(pins:List (M3×NM)) (s:Ng) (σ:St) (H:Hp) (x:V) (v:M7) (Q:VK),Inv X pins σ H s->aF x v->r x H Q->
  Nn (NL X.prog X.w) X.A (f v) (EP X pins σ Q) X.xe s
def cK(X:Cx)(f:M7)(r:List V->Hp->VK->Prop):Prop:=
 ∀(pins:List (M3×NM)) (s:Ng) (σ:St) (H:Hp) (xs:List V) (us:List M7) (Q:VK),Inv X pins σ H s->ar xs us->r xs H Q->
  Nn (NL X.prog X.w) X.A (Uj f us) (EP X pins σ Q) X.xe s
def TruR(X:Cx)(r:V->Hp->(Bool->Hp->Prop)->Prop):Prop:=
 ∀(pins:List (M3×NM)) (s:Ng) (σ:St) (H:Hp) (x:V) (v:M7) (Q:Bool->Hp->Prop),Inv X pins σ H s->aF x v->r x H Q->
  Nn (NL X.prog X.w) X.A (truthy v) (TP X pins σ Q) X.xe s
def tOp(r:R2)(b c:TE):TE:=λσ H Q=>b σ H λx d=>c σ d λy f=>r x y f Q
def tUn(r:V->Hp->VK->Prop)(b:TE):TE:=λσ H Q=>b σ H λx c=>r x c Q
def rI(C:Int->Int->Prop)(g:Int->Int->V):R2:=λx y H Q=>∃i j,x= .int i/\y= .int j/\C i j/\Q (g i j) H
def rI0(g:Int->Int->V):R2:=λx y H Q=>∃i j,x= .int i/\y= .int j/\Q (g i j) H
def rU(g:Int->V):V->Hp->VK->Prop:=λx H Q=>∃i,x= .int i/\Q (g i) H
end
section
variable{X:Cx}{a b c:Expr}{ta tb tc:TE}{pos:RN}
theorem BX(ha:PE X a ta)(m:PE X b tb){d:List (M3×NM)}{s:Ng}{e:St}{H:Hp}{R:V->V->Hp->Prop}(I:Inv X d e H s)
  (h:ta e H λx l=>tb e l λy g=>R x y g) {Q:M7->Ng->Prop} {f:M7->M7->Sem M7}
  (n:∀v u k x y g,Inv X d e g k->aF x v->aF y u->R x y g->Nn (NL X.prog X.w) X.A (f v u) Q X.xe k):
  Nn (NL X.prog X.w) X.A (Op a X.env) (λv i=>Nn (NL X.prog X.w) X.A (Op b X.env) (λu j=>Nn (NL X.prog X.w) X.A (f v u) Q X.xe j) X.xe i) X.xe s:=by
 refine thn (ha d s e H _ I h) λv o ⟨x,l,p,r1,q1⟩=>?_;refine thn (m d o e l _ p q1) λu k ⟨y,g,q,r,q2⟩=>?_;exact n v u k x y g q r1 r q2
theorem dj(e:OpR X (PR op) r)(ha:PE X a ta)(f:PE X b tb):PE X (.BinOp a op b pos) (tOp r ta tb):=by
 intro d s g H Q I h;exact wpAny_BinOp (BX ha f I h λv u i x y j k l m q=>e d i g j x y v u Q k l m q)
theorem Ml(f:UnR X (unaryOp op) r)(ha:PE X a ta):PE X (.UnaryOp op a pos) (tUn r ta):=by
 intro d s e H Q I h;exact UnaryOp_ (thn (ha d s e H _ I h) λv g ⟨x,i,j,r1,q1⟩=>f d g e i x v Q j r1 q1)
theorem opI{f:M7->M7->Sem M7}{C:Int->Int->Prop}{g:Int->Int->Int}
  (d:∀(i j:Int) (t u:Tok) (s:Ng) (Q:M7->Ng->Prop) (E:M7->Ng->Prop),C i j->Q (.int (g i j) s.toks) {s with toks:=s.toks+1}->Nn (NL X.prog X.w) X.A (f (.int i t) (.int j u)) Q E s):
  OpR X f (rI C λi j=> .int (g i j)):=by
 intro e s n H x y v u Q I k l h;obtain⟨i,j,rfl,rfl,m,q⟩:=h;obtain⟨t,rfl⟩:=k;obtain⟨t',rfl⟩:=l;exact d i j t t' s _ _ m ⟨.int (g i j),H,I.tok _,⟨_,rfl⟩,q⟩
theorem J4{f:M7->M7->Sem M7}{g:Int->Int->Int}
  (d:∀(i j:Int) (t u:Tok) (s:Ng) (Q:M7->Ng->Prop) (E:M7->Ng->Prop),Q (.int (g i j) s.toks) {s with toks:=s.toks+1}->Nn (NL X.prog X.w) X.A (f (.int i t) (.int j u)) Q E s):
  OpR X f (rI0 λi j=> .int (g i j)):=by
 intro e s m H x y v u Q I k l h;obtain⟨i,j,rfl,rfl,q⟩:=h;obtain⟨t,rfl⟩:=k;obtain⟨t',rfl⟩:=l;exact d i j t t' s _ _ ⟨.int (g i j),H,I.tok _,⟨_,rfl⟩,q⟩
theorem wr{f:M7->M7->Sem M7}{g:Int->Int->Bool}
  (d:∀(i j:Int) (t u:Tok) (s:Ng) (Q:M7->Ng->Prop) (E:M7->Ng->Prop),Q (.bool (g i j)) s->Nn (NL X.prog X.w) X.A (f (.int i t) (.int j u)) Q E s):
  OpR X f (rI0 λi j=> .bl (g i j)):=by
 intro e s m H x y v u Q I k l h;obtain⟨i,j,rfl,rfl,q⟩:=h;obtain⟨t,rfl⟩:=k;obtain⟨t',rfl⟩:=l;exact d i j t t' s _ _ ⟨.bl (g i j),H,I,rfl,q⟩
def CDiv(i j:Int):Prop:=0<j/\j<1073741824
def CPow(i j:Int):Prop:=0<=j/\j<=1000000/\i.natAbs<2^64
def EC(i j:Int):Prop:=(-(2^64)<i/\i<2^64)\/(-(2^64)<j/\j<2^64)
theorem EC.ok(h:EC i j):IntMulOk i j:=by
 rcases h with⟨d,e⟩|⟨d,e⟩
 ·exact .of_left (intBits_le_64 d e)
 ·exact .of_right (intBits_le_64 d e)
theorem oB:OpR X (PR .Add) (rI0 λi j=> .int (i+j)):=J4 λ_ _ _ _ _ _ _ q=>add_int q
theorem fX:OpR X (PR .Sub) (rI0 λi j=> .int (i-j)):=J4 λ_ _ _ _ _ _ _ q=>sub_int q
theorem J1:OpR X (PR .Mult) (rI EC λi j=> .int (i*j)):=opI λ_ _ _ _ _ _ _ d q=>mul_int q d.ok
theorem u9:OpR X (PR .FloorDiv) (rI CDiv λi j=> .int (i/j)):=opI λi j _ _ _ _ _ d q=>by
 have e:(0:Int)<j:=d.1;have f:j<1073741824:=d.2;exact floordiv_int (by omega) (by rw[RY i (by omega)];exact q) (.inl (PyProof.noPylong_small (by omega)))
theorem kQ:OpR X (PR .Mod) (rI (λ_ j=>0<j) λi j=> .int (i % j)):=opI λi j _ _ _ _ _ d q=>by
 have e:(0:Int)<j:=d;exact mod_int' (by omega) (by rw[Int.fmod_eq_emod_of_nonneg i (by omega)];exact q)
theorem JZ:OpR X (PR .Pow) (rI CPow λi j=> .int (i^j.toNat)):=opI λ_ _ _ _ _ _ _ d q=>pow_int_small d.1 d.2.1 d.2.2 q
theorem unI{f:M7->Sem M7}{g:Int->Int}
  (d:∀(i:Int) (t:Tok) (s:Ng) (Q:M7->Ng->Prop) (E:M7->Ng->Prop),Q (.int (g i) s.toks) {s with toks:=s.toks+1}->Nn (NL X.prog X.w) X.A (f (.int i t)) Q E s):
  UnR X f (rU λi=> .int (g i)):=by
 intro e s k H x v Q I j h;obtain⟨i,rfl,q⟩:=h;obtain⟨t,rfl⟩:=j;exact d i t s _ _ ⟨.int (g i),H,I.tok _,⟨_,rfl⟩,q⟩
theorem Jd:UnR X (unaryOp .USub) (rU λi=> .int (-i)):=unI λ_ _ _ _ _ q=>neg_int q
noncomputable def zM:V->V->Bool
 | .non,.non=>M2| .non,.int _=>M2| .int _,.non=>M2| .non,.bl _=>M2| .bl _,.non=>M2| .non,.str _=>M2| .str _,.non=>M2
 | .int _,.int _=>M2| .bl _,.bl _=>M2| .str _,.str _=>M2
 | .int _,.str _=>M2| .str _,.int _=>M2| .bl _,.str _=>M2| .str _,.bl _=>M2
 |_,_=>M4
noncomputable def rEq:R2:=λx y H Q=>zM x y=M2/\Q (.bl (decide (x=y))) H
noncomputable def rNe:R2:=λx y H Q=>zM x y=M2/\Q (.bl (!decide (x=y))) H
theorem vK:decide (V.int i=V.int j)=(i==j):=by
 rw[SJ];simp
theorem dec_bl{i j:Bool}:decide (V.bl i=V.bl j)=(i==j):=by
 rw[SJ];simp
theorem vJ:decide (V.str i=V.str j)=(i==j):=by
 rw[SJ];simp
theorem fin_bl{k d:Bool}(I:Inv X pins σ H s)(q:Q (.bl k) H)(e:k=d):EP X pins σ Q (.bool d) s:=by
 subst e;exact⟨.bl k,H,I,rfl,q⟩
theorem Mr:OpR X (Ou .Eq) rEq:=by
 intro f s g H x y v u Q I e d h;obtain⟨hs,q⟩:=h;cases x with
 |non=>
  cases e;cases y with
  |non=>cases d;exact PySem.EqNone.eq_none_none (fin_bl I q (by simp))
  |bl j=>cases d;exact PySem.EqNone.eq_none_bool (fin_bl I q (by simp))
  |int j=>obtain⟨t',rfl⟩:=d;exact PySem.EqNone.eq_none_int (fin_bl I q (by simp))
  |str j=>obtain⟨t',rfl⟩:=d;exact PySem.EqNone.eq_none_str (fin_bl I q (by simp))
  |_=>exact NE (show M4=M2 from hs) Ni
 |bl i=>
  cases e;cases y with
  |non=>cases d;exact PySem.EqNone.eq_bool_none (fin_bl I q (by simp))
  |bl j=>cases d;exact eq_bool (fin_bl I q dec_bl)
  |str j=>obtain⟨t',rfl⟩:=d;exact PySem.EqMixed.eq_bool_str (fin_bl I q (by simp))
  |_=>exact NE (show M4=M2 from hs) Ni
 |int i=>
  obtain⟨t,rfl⟩:=e;cases y with
  |non=>cases d;exact PySem.EqNone.eq_int_none (fin_bl I q (by simp))
  |int j=>obtain⟨t',rfl⟩:=d;exact eq_int (fin_bl I q vK)
  |str j=>obtain⟨t',rfl⟩:=d;exact PySem.EqMixed.eq_int_str (fin_bl I q (by simp))
  |_=>exact NE (show M4=M2 from hs) Ni
 |str i=>
  obtain⟨t,rfl⟩:=e;cases y with
  |non=>cases d;exact PySem.EqNone.eq_str_none (fin_bl I q (by simp))
  |bl j=>cases d;exact PySem.EqMixed.eq_str_bool (fin_bl I q (by simp))
  |int j=>obtain⟨t',rfl⟩:=d;exact PySem.EqMixed.eq_str_int (fin_bl I q (by simp))
  |str j=>obtain⟨t',rfl⟩:=d;exact eq_str (fin_bl I q vJ)
  |_=>exact NE (show M4=M2 from hs) Ni
 |_=>cases y<;>exact NE (show M4=M2 from hs) Ni
theorem Mp:OpR X (Ou .NotEq) rNe:=by
 intro f s g H x y v u Q I e d h;obtain⟨hs,q⟩:=h;cases x with
 |non=>
  cases e;cases y with
  |non=>cases d;exact PySem.EqNone.ne_none_none (fin_bl I q (by simp))
  |bl j=>cases d;exact PySem.EqNone.ne_none_bool (fin_bl I q (by simp))
  |int j=>obtain⟨t',rfl⟩:=d;exact PySem.EqNone.ne_none_int (fin_bl I q (by simp))
  |str j=>obtain⟨t',rfl⟩:=d;exact PySem.EqNone.ne_none_str (fin_bl I q (by simp))
  |_=>exact NE (show M4=M2 from hs) Ni
 |bl i=>
  cases e;cases y with
  |non=>cases d;exact PySem.EqNone.ne_bool_none (fin_bl I q (by simp))
  |bl j=>cases d;exact ne_bool (fin_bl I q (Oi not dec_bl))
  |str j=>obtain⟨t',rfl⟩:=d;exact PySem.EqMixed.ne_bool_str (fin_bl I q (by simp))
  |_=>exact NE (show M4=M2 from hs) Ni
 |int i=>
  obtain⟨t,rfl⟩:=e;cases y with
  |non=>cases d;exact PySem.EqNone.ne_int_none (fin_bl I q (by simp))
  |int j=>obtain⟨t',rfl⟩:=d;exact ne_int (fin_bl I q (Oi not vK))
  |str j=>obtain⟨t',rfl⟩:=d;exact PySem.EqMixed.ne_int_str (fin_bl I q (by simp))
  |_=>exact NE (show M4=M2 from hs) Ni
 |str i=>
  obtain⟨t,rfl⟩:=e;cases y with
  |non=>cases d;exact PySem.EqNone.ne_str_none (fin_bl I q (by simp))
  |bl j=>cases d;exact PySem.EqMixed.ne_str_bool (fin_bl I q (by simp))
  |int j=>obtain⟨t',rfl⟩:=d;exact PySem.EqMixed.ne_str_int (fin_bl I q (by simp))
  |str j=>obtain⟨t',rfl⟩:=d;exact ne_str (fin_bl I q (Oi not vJ))
  |_=>exact NE (show M4=M2 from hs) Ni
 |_=>cases y<;>exact NE (show M4=M2 from hs) Ni
theorem rG:OpR X (Ou .Lt) (rI0 λi j=> .bl (decide (i<j))):=wr λ_ _ _ _ _ _ _ q=>lt_int q
theorem jN:OpR X (Ou .LtE) (rI0 λi j=> .bl (decide (i<=j))):=wr λ_ _ _ _ _ _ _ q=>le_int q
theorem wq:OpR X (Ou .Gt) (rI0 λi j=> .bl (decide (j<i))):=wr λ_ _ _ _ _ _ _ q=>gt_int q
theorem Mq:OpR X (Ou .GtE) (rI0 λi j=> .bl (decide (j<=i))):=wr λ_ _ _ _ _ _ _ q=>ge_int q
theorem s0:OpR X (Ou .Is) (λx y H Q=>y= .non/\Q (.bl (decide (x= .non))) H):=by
 intro d s g H x y v u Q I e f h;obtain⟨rfl,q⟩:=h;cases f;refine is_none_gen (fin_bl I q ?_);cases x<;>first
  |(cases e;rfl)
  |(obtain⟨t,rfl⟩:=e;rfl)
theorem OpR.or(h:OpR X f r)(h':OpR X f r'):OpR X f (λx y H Q=>r x y H Q\/r' x y H Q):=by
 intro d s e H x y v u Q I g i q;rcases q with q|q
 ·exact h d s e H x y v u Q I g i q
 ·exact h' d s e H x y v u Q I g i q
theorem tq(b:Expr)(h:op≠ .In:=by decide)(d:op≠ .NotIn:=by decide):RJ op b=M4:=by
 have e:(op==CmpOp.In)=M4:=by cases op<;>first|rfl|exact NE rfl h
 have f:(op==CmpOp.NotIn)=M4:=by cases op<;>first|rfl|exact NE rfl d
 cases b<;>simp[RJ,e,f]
theorem HM(e:OpR X (Ou op) r)(ha:PE X a ta)(f:PE X b tb)(hm:RJ op b=M4):PE X (.Compare a [op] [b] pos) (tOp r ta tb):=by
 intro d s g H Q I h;exact wpAny_Compare1 (BX ha f I h λv u i x y j k l m q=>e d i g j x y v u Q k l m q) hm
def vY(t:TE):TT:=λd H Q=>t d H λx e=>∃k,x= .bl k/\Q k e
theorem uX(g:OpR X (Ou op) r)(ha:PE X a ta)(i:PE X b tb)(hm:RJ op b=M4):PT X (.Compare a [op] [b] pos) (vY (tOp r ta tb)):=by
 intro d s f H Q I h;refine wpAny_isTrue_Compare1 (thn (ha d s f H _ I h) λv j ⟨x,l,m,r1,q1⟩=>thn (i d j f l _ m q1) λu n ⟨y,o,p,q,q2⟩=>
  thn (g d n f o x y v u _ p r1 q q2) λc B ⟨z,t,w,A,k,e,q3⟩=>?_) hm
 subst e;cases A;exact Oo ⟨t,w,q3⟩
def xD(r f:R2)(ta tb tc:TE):TE:=λd H Q=>ta d H λx g=>tb d g λy h=>r x y h λz e=>∃k,z= .bl k/\
 (if k=M2 then tc d e λi j=>f y i j Q else Q (.bl M4) e)
theorem zR(n:OpR X (Ou op) r)(i:OpR X (Ou op') r')(ha:PE X a ta)(o:PE X b tb)(p:PE X c tc)
  (hm:We [op,op'] [b,c]=M4:=by with_unfolding_all rfl):PT X (.Compare a [op,op'] [b,c] pos) (vY (xD r r' ta tb tc)):=by
 intro f s g H Q I h;refine isTrue_chain (thn (ha f s g H _ I h) λv q ⟨x,t,w,r1,q1⟩=>test_link (thn (o f q g t _ w q1) λu A ⟨y,B,C,j,q2⟩=>
  thn (n f A g B x y v u _ C r1 j q2) λd F ⟨z,l,m,J,k,e,q3⟩=>?_)) hm
 subst e;cases J;refine Oo ?_;cases k with
 |false=>
  obtain⟨k',L,N⟩:=q3;cases L;exact ite_ff ⟨l,m,N⟩
 |true=>
  refine ite_tt (test_last (thn (p f F g l _ m q3) λO P ⟨R,T,U,W,q4⟩=>thn (i f P g T y R u O _ U j W q4) λd' s5 ⟨z2,Y,Z,r5,k2,e2,q5⟩=>?_));subst e2;cases r5;exact Oo ⟨Y,Z,q5⟩
def DX(K:NA)(x:V)(H:Hp)(k:Bool):Prop:=
 match x with
 | .non=>k=M4
 | .bl b=>k=b
 | .int i=>k=(i !=0)
 | .str y=>y.length<=Nr/\k=((y.length:Int) !=0)
 | .ref p=>(∃xs,SqL K H p xs/\k=!xs.isEmpty)\/∃xs,SqT K H p xs/\k=!xs.isEmpty
 |_=>False
theorem oQ(r:ar xs its):(!its.toArray.isEmpty)=!xs.isEmpty:=by
 cases r<;>simp
theorem jl:(Nr:Nat)<2^63:=by rw[Ph];decide
theorem Jf:TruR X (λx H Q=>∃k,DX X.K x H k/\Q k H):=by
 intro l s n H x v Q I f h;obtain⟨k,e,q⟩:=h;have o:=jl;have hs:Nr=16777216:=Ph;cases x with
 |non=>
  cases f;have d:k=M4:=e;subst d;exact truthy_none ⟨H,I,q⟩
 |bl b=>
  cases f;have d:k=b:=e;subst d;exact Oo ⟨H,I,q⟩
 |int i=>
  obtain⟨t,rfl⟩:=f;have d:k=(i !=0):=e;subst d;exact PySem.P.truthy_int ⟨H,I,q⟩
 |str y=>
  obtain⟨t,rfl⟩:=f;obtain⟨u,d⟩:y.length<=Nr/\k=((y.length:Int) !=0):=e;subst d;exact PySem.P.truthy_str (by omega) ⟨H,I.tok _,q⟩
 |ref p=>
  cases f;have d:(∃xs,SqL X.K H p xs/\k=!xs.isEmpty)\/∃xs,SqT X.K H p xs/\k=!xs.isEmpty:=e;rcases d with⟨xs,j,d⟩|⟨xs,j,d⟩
  ·subst d
   obtain⟨its,r,pl,m⟩:=I.list j;have g:=r.length;exact wpAny_truthy_list pl.isList (by simp only[Nv];omega) ⟨H,I.tok _,by rw[oQ r];exact q⟩
  ·subst d
   obtain⟨its,r,pl,m⟩:=I.tuple j;have g:=r.length;exact truthy_tuple pl (by simp only[Nv];omega) ⟨H,I.tok _,by rw[oQ r];exact q⟩
 |_=>exact(show False from e).elim
theorem zQ(ha:PE X a ta)(i:∀d,isTrue a X.env d=(do let v ←d;QY a.pos;Ro [v] (truthy v))):
  PT X a (λf H Q=>ta f H λx g=>∃k,DX X.K x g k/\Q k g):=by
 intro e s f H Q I h;exact isTrue_plain (thn (ha e s f H _ I h) λv j ⟨x,l,m,r1,q1⟩=>Jf e j f l x v Q m r1 q1) (i _)
theorem im(r:ar [x] us):∃u,us=[u]/\aF x u:=by
 cases r with
 |cons r1 d=>cases d;exact⟨_,rfl,r1⟩
theorem rn(r:ar [x,y] us):∃u d,us=[u,d]/\aF x u/\aF y d:=by
 cases r with
 |cons r1 e=>
  cases e with
  |cons f g=>cases g;exact⟨_,_,rfl,r1,f⟩
theorem BT:cK X (.builtin "abs") (λxs H Q=>∃i,xs=[.int i]/\Q (.int (if i<0 then -i else i)) H):=by
 intro d s e H xs us Q I r h;obtain⟨i,rfl,q⟩:=h;obtain⟨u,rfl,t,rfl⟩:=im r;exact call_abs_int λu f=>⟨.int (if i<0 then -i else i),H,I.tok _,⟨_,rfl⟩,q⟩
theorem qU(f:X.calm=M2):cK X (.builtin "max") (λxs H Q=>∃i j,xs=[.int i,.int j]/\Q (.int (if j>i then j else i)) H):=by
 intro e s g H xs us Q I r h;obtain⟨i,j,rfl,q⟩:=h;obtain⟨u,l,rfl,⟨t,rfl⟩,⟨t',rfl⟩⟩:=rn r;refine max_two_ints (I.ok.hd f) λh' m k=>⟨_,H,I.kept k,?_,q⟩;by_cases d:j>i
 ·rw[Nf d,Nf d];exact⟨_,rfl⟩
 ·rw[M8 d,M8 d];exact⟨_,rfl⟩
theorem iK(f:X.calm=M2):cK X (.builtin "min") (λxs H Q=>∃i j,xs=[.int i,.int j]/\Q (.int (if j<i then j else i)) H):=by
 intro e s g H xs us Q I r h;obtain⟨i,j,rfl,q⟩:=h;obtain⟨u,l,rfl,⟨t,rfl⟩,⟨t',rfl⟩⟩:=rn r;refine min_two_ints (I.ok.hd f) λh' m k=>⟨_,H,I.kept k,?_,q⟩;by_cases d:j<i
 ·rw[Nf d,Nf d];exact⟨_,rfl⟩
 ·rw[M8 d,M8 d];exact⟨_,rfl⟩
structure ObjM (h:Ox) (x dx C:M3) (mA:NY->Option M7):Prop where
 obj:h.get? x=on (TF C dx)
 ns:h.Ns1 dx mA
 ne:dx≠x
theorem yx{h:Ox}(n:h.Ns1 dx mA):∃f,h.get? dx=on f/\∀name,lookIn name f=on (mA name):=by
 obtain⟨o,es,ep,g,hd,i,_,hm⟩:=n;refine⟨o,g,λname=>?_⟩;have e:=hm name;unfold nsFind findBy at e;rw[←Array.find?_toList]at e;unfold lookIn;rw[hd]
 dsimp only
 split
 ·rename_i y q
  rw[q]at e;exact Oi on e
 ·rename_i q
  rw[q]at e;have a:es.toList.any (·.refKey)=M4:=by
   rw[Wk];intro y j;obtain⟨z,t,d⟩:=i y (Array.mem_toList_iff.mp j);simp[DictEntry.refKey,d]
  have k:¬es.toList.any (·.refKey)=M2:=by rw[a];exact Ni
  rw[M8 k];exact Oi on e
theorem ObjM.look(I:ObjM h x dx C mA):∃d,PySem.W.InstAt h x (TF C dx) C (on d)/\∀name,lookIn name d=on (mA name):=
 let ⟨d,ho,hl⟩:=yx I.ns
 ⟨d,⟨I.obj,rfl,rfl,ho⟩,hl⟩
variable{prog:NQ}{w:N0}{A:Oj}{E:M7->Ng->Prop}{s:Ng}{K:NA}{x dx C f:M3}{mA:NY->Option M7}{name:NY}{v:M7}
theorem IL{d:Bool}(X:K.In s.heap)(I:ObjM s.heap x dx C mA)(g:plainGet K C name=M2)(i:hasDictIn K C=M2)
  (ha:Ra K (.ref C) name=on MY) (j:mA name=on v) (e:VM v=M2) (h:Q v {s with toks:=s.toks+1}):
  Nn (NL prog w) A (getAttr (.ref x) name d) Q E s:=by
 obtain⟨l,J,k⟩:=I.look;exact PySem.W.get_value X J (plainGet_of g).1 (PySem.W.findObj_own i ha rfl (by rw[k,j])) e h
theorem BK(X:K.In s.heap)(I:ObjM s.heap x dx C mA)(d:plainGet K C name=M2)
  (e:Ra K (.ref C) name=on (on (.ref f))) (g:isFn K (.ref f)=M2) (i:mA name=MY) (h:Q (.ref f,[.ref x]) s):
  Nn (NL prog w) A (TD (.ref x) name pl) Q E s:=by
 obtain⟨j,J,k⟩:=I.look;exact PySem.W.method_fn X J (plainGet_of d).1 (plainGet_of d).2 e (beq_iff_eq.mp g) (by show(lookIn name j).map (·.isSome)=on M4;rw[k,i];rfl) h
theorem GT{ns:List NY}(X:K.In s.heap)(I:ObjM s.heap x dx C mA)
  (hs:Ra K (.ref C) "__setattr__"=on (on (.builtin "object.__setattr__"))) (l:Vx K C=M2) (m:takerIn K C name=on MY) (n:hasDictIn K C=M2)
  (o:Tj mA ns) (p:ns.length<=Nr)
  (h:∀h',ObjM h' x dx C (λy=>if y=name then on v else mA y)->NP dx s.heap h'->Q () {s with heap:=h',toks:=s.toks+2}):
  Nn (NL prog w) A (setAttr (.ref x) name v) Q E s:=by
 obtain⟨F,J,H⟩:=I.look;refine PySem.W.set_plain X J hs (PySem.W.osa_open (s:={s with toks:=s.toks+1}) (r:=MY) X J l m λb=>?_);obtain⟨cd,q,g⟩:=PySem.W.any_some n;have t:s.heap.get? x=on ⟨.ref C,on dx,.plain,#[]⟩:=I.obj;refine My (M0 (My (My (wpAny_loadPart t (My (PySem.W.Looks.here (s:={s with toks:=s.toks+1}) (PySem.W.looks_clsIn X q) ?_))))));rw[g];refine M0 (a:=on dx) (My (M0 (My ?_)));refine wpAny_nsSet1 (s:={s with toks:=s.toks+1}) I.ns λh' d e=>?_;obtain⟨L,u,B,i,j,k⟩:=d.count (Tj.cons name v o);refine My (wpAny_lookBehind i (by rw[j];exact pastItsLine_dict (NG k (by rw[Nm];omega))) ?_);exact M0 (h _ ⟨(e.2 _ (Ne.symm I.ne)).trans I.obj,d,I.ne⟩ e)
theorem AI(X:K.In s.heap)(hm:V5 K C=M2)
  (e:Ra K (.ref C) "__init__"=on (on (.ref f))) (i:PySem.W.typeIn K (.ref f)=on (.type "function"))
  (h:Q6 (NL prog w) (A.under (.builtin "type.__call__" ⟨.ref C::vs,kw⟩)) (.call (.ref f) ⟨.ref (s.heap.objs.size+1)::vs,kw⟩) (PySem.W.InitBack (s.heap.objs.size+1) R)
   {s with heap:=(s.heap.push RC).push (TF C s.heap.objs.size)}):
  Q6 (NL prog w) A (.call (.ref C) ⟨vs,kw⟩) R s:=by
 obtain⟨j,g,d,t,os⟩:=s;exact PySem.W.make_core (PySem.W.makes_of X hm) (PySem.W.looks_findIn X e) (λself=>PySem.W.bind_fn X self i) (.inl rfl) h
noncomputable def da(f:NY)(v:V):List (NY×V)->List (NY×V)
 |[]=>[(f,v)]
 |(g,x)::r=>if g=f then(g,v)::r else(g,x)::da f v r
theorem mF(f g:NY)(v:V):∀fs:List (NY×V),(da f v fs).lookup g=if g=f then on v else fs.lookup g
 |[]=>by
  show Ru g [(f,v)]=_;by_cases h:g=f
  ·have d:(g==f)=M2:=beq_iff_eq.mpr h
   simp only[Ru,d,Nf h]
  ·have d:(g==f)=M4:=beq_eq_false_iff_ne.mpr h
   simp only[Ru,d,M8 h]
 |(k,x)::r=>by
  have ih:=mF f g v r;rw[show da f v ((k,x)::r)=(if k=f then(k,v)::r else(k,x)::da f v r)from rfl];by_cases i:k=f
  ·rw[Nf i]
   by_cases h:g=k
   ·have d:(g==k)=M2:=beq_iff_eq.mpr h
    simp only[Ru,d,Nf (h.trans i)]
   ·have d:(g==k)=M4:=beq_eq_false_iff_ne.mpr h
    simp only[Ru,d,M8 (λe:g=f=>h (e.trans i.symm))]
  ·rw[M8 i]
   by_cases h:g=k
   ·have d:(g==k)=M2:=beq_iff_eq.mpr h
    simp only[Ru,d,M8 (λe:g=f=>i (h.symm.trans e))]
   ·have d:(g==k)=M4:=beq_eq_false_iff_ne.mpr h
    simp only[Ru,d];exact ih
theorem k4(f:NY)(v:V):∀fs:List (NY×V),f∈(da f v fs).map (·.1)/\∀g,g∈fs.map (·.1)->g∈(da f v fs).map (·.1)
 |[]=>⟨by simp[da],λg h=>by simp at h⟩
 |(k,x)::r=>by
  obtain⟨i,j⟩:=k4 f v r;rw[show da f v ((k,x)::r)=(if k=f then(k,v)::r else(k,x)::da f v r)from rfl];by_cases d:k=f
  ·rw[Nf d]
   subst d;exact⟨by simp,λg h=>by simpa using h⟩
  ·rw[M8 d]
   refine⟨?_,λg h=>?_⟩
   ·rw[Nl]
    exact M5 _ i
   ·rw[Nl]at h⊢
    rcases Nq.mp h with e|e
    ·exact Nq.mpr (.inl e)
    ·exact M5 _ (j g e)
theorem mG(f:NY)(v:V):∀fs:List (NY×V),(da f v fs).length<=fs.length+1
 |[]=>by simp[da]
 |(k,x)::r=>by
  have ih:=mG f v r;rw[show da f v ((k,x)::r)=(if k=f then(k,v)::r else(k,x)::da f v r)from rfl];by_cases d:k=f
  ·rw[Nf d,Nm,Nm];omega
  ·rw[M8 d,Nm,Nm];omega
theorem gx.some_of{v:V}(r:gx (on v) o):∃u,o=on u/\aF v u:=by
 cases o with
 |none=>exact(show False from r).elim
 |some u=>exact⟨u,rfl,r⟩
theorem gx.none_of(r:gx MY o):o=MY:=by
 cases o with
 |none=>rfl
 |some u=>exact(show False from r).elim
theorem yR{v:V}(r:aF v u):VM u=M2:=by
 cases v with
 |non=>cases(show u=Oh from r);rfl
 |bl b=>cases(show u=Tc b from r);rfl
 |int i=>obtain⟨t,e⟩:=(show ∃t,u=Qt i t from r);cases e;rfl
 |str x=>obtain⟨t,e⟩:=(show ∃t,u=Wp x t from r);cases e;rfl
 |ref a=>cases(show u=NC a from r);rfl
 |ty n=>cases(show u=PZ n from r);rfl
end
section
variable{P:NQ}{w:N0}{H H':Hp}{h h':Ox}{a C dx:M3}{fs fs':List (NY×V)}
theorem jq(hok:HOk P w H h)(e:H a=on (.ins C dx fs)):∃b,ObjM h a dx C b/\(∀f,gx (fs.lookup f) (b f))/\Tj b (fs.map (·.1))/\fs.length<=1000/\H dx=on (.own a):=by
 obtain⟨d,z,ne,c,b,n,r,q⟩:=(show br P w H h a (.ins C dx fs)from hok a _ e);exact⟨b,⟨c,n,ne⟩,r,q,z,d⟩
structure Cls (K:NA) (C:M3):Prop where
 pg:plainGet K C QE=M2
 hd:hasDictIn K C=M2
 po:Vx K C=M2
 sa:Ra K (.ref C) "__setattr__"=on (on (.builtin "object.__setattr__"))
theorem Cls.get{K:NA}{C:M3}(c:Cls K C)(f:NY):plainGet K C f=M2:=c.pg
def dA(K:NA)(C:M3)(f:NY):Prop:=Ra K (.ref C) f=on MY
theorem dA.taker{K:NA}{C:M3}(n:dA K C f):takerIn K C f=on MY:=by
 unfold takerIn;rw[show Ra K (.ref C) f=on MY from n];rfl
structure Meth (K:NA) (C:M3) (m:NY) (f:M3):Prop where
 at_:Ra K (.ref C) m=on (on (.ref f))
 fn:isFn K (.ref f)=M2
 kp:Su K (.ref f)=M2
variable{X:Cx}{pins:List (M3×NM)}{σ:St}{s:Ng}{f:NY}{v:V}{A:Oj}{E:M7->Ng->Prop}
theorem wR{b:Bool}(I:Inv X pins σ H s)(e:H a=on (.ins C dx fs))(c:Cls X.K C)(n:dA X.K C f)(l:fs.lookup f=on v)
  (h:∀u s',Inv X pins σ H s'->aF v u->Q u s'):Nn (NL X.prog X.w) A (getAttr (.ref a) f b) Q E s:=by
 obtain⟨g,O,r,_,_,_⟩:=jq I.hok e;obtain⟨u,i,d⟩:=gx.some_of (v:=v) (o:=g f) (by rw[←l];exact r f);exact IL I.kIn O (c.get f) c.hd n i (yR d) (h u _ (I.tok _) d)
theorem oX(I:Inv X pins σ H s)(e:H a=on (.ins C dx fs))(c:Cls X.K C)(k:Meth X.K C m g)(l:fs.lookup m=MY)
  (h:Q (.ref g,[.ref a]) s):Nn (NL X.prog X.w) A (TD (.ref a) m pl) Q E s:=by
 obtain⟨b,O,r,_,_,_⟩:=jq I.hok e;have hn:b m=MY:=gx.none_of (by rw[←l];exact r m);exact BK I.kIn O (c.get m) k.at_ k.fn hn h
theorem v9(I:Inv X pins σ H s)(e:H a=on (.ins C dx fs))(c:Cls X.K C)(n:dA X.K C f)(F:fs.length<1000)(l:aF y u)
  (h:∀s',Inv X pins σ (upd H a (.ins C dx (da f y fs))) s'->Q () s'):Nn (NL X.prog X.w) A (setAttr (.ref a) f u) Q E s:=by
 obtain⟨i,O,r,j,_,k⟩:=jq I.hok e;have m:(fs.map (·.1)).length<=Nr:=by rw[MZ,Ph];omega
 refine GT I.kIn O c.sa c.po n.taker c.hd j m λh' d p=>h _ ?_;have hd:∃o,h'.get? dx=on o:=let ⟨o,_,_,e',_⟩:=d.ns;⟨o,e'⟩
 refine I.write (x:=a) (e:=dx) (by rw[e];exact Qs) (.inr k) (λb q t z=>(p.2 b t).trans z) hd ?_;refine⟨by rw[upd_ne O.ne];exact k,?_,O.ne,d.obj,_,d.ns,λg=>?_,λg B=>?_⟩
 ·have:=mG f y fs;omega
 ·show gx ((da f y fs).lookup g) (if g=f then on u else i g)
  rw[mF];by_cases q:g=f
  ·rw[Nf q,Nf q];exact l
  ·rw[M8 q,M8 q];exact r g
 ·by_cases q:g=f
  ·rw[q];exact(k4 f y fs).1
  ·refine(k4 f y fs).2 g (j g λz=>B ?_)
   show(if g=f then on u else i g)=MY;rw[M8 q];exact z
theorem Inv.made(I:Inv X pins σ H s):Inv X pins σ (upd (upd H s.heap.objs.size (.own (s.heap.objs.size+1))) (s.heap.objs.size+1) (.ins C s.heap.objs.size []))
  {s with heap:=(s.heap.push RC).push (TF C s.heap.objs.size)}:=by
 have c:(s.heap.push RC).get? s.heap.objs.size=on RC:=Nu s.heap rfl;have d:((s.heap.push RC).push (TF C s.heap.objs.size)).get? (s.heap.objs.size+1)=on (TF C s.heap.objs.size):=by
  have:=Nu (s.heap.push RC) (o:=TF C s.heap.objs.size) rfl;rwa[OP]at this
 have g:(s.heap.push RC).Ns s.heap.objs.size (λ_=>MY):=⟨RC,#[],_,c,rfl,(λe i=>NE i (by simp)),λ_=>rfl⟩;have j:=I.laid (a:=s.heap.objs.size) (o:= .own (s.heap.objs.size+1)) (h':=s.heap.push RC) (t':=s.toks) (λb u q=>M1 _ q) (Nh _) ⟨_,c⟩;refine j.laid (a:=s.heap.objs.size+1) (o:= .ins C s.heap.objs.size []) (t':=s.toks) (λb u q=>M1 _ q) (Nat.le_of_eq (OP _ _)) ?_;have ne:s.heap.objs.size≠s.heap.objs.size+1:=Od (TZ _);refine⟨by rw[upd_ne ne,ah],OC _,ne,d,λ_=>MY,(Heap.Ns1.of_empty g).at λo q=>M1 _ q,λ_=>Qs,λy k=>NE rfl k⟩
theorem IZ{w:N0}{f:NY}{s:Ng}(c:Q4 e f env (Op e env)=Op e env)
  (h:Nn (NL prog w) A (Op e env) (λo b=>Nn (NL prog w) A (getAttr o f M2) Q E b) E s):Nn (NL prog w) A (Op (.Attribute e f pos) env) Q E s:=
 Attribute_any_ h (by rw[arm_eval_Attribute,c])
def tFld(K:NA)(c:TE)(f:NY):TE:=λσ H Q=>c σ H λx b=>∃a C dx fs v,x= .ref a/\b a=on (.ins C dx fs)/\Cls K C/\dA K C f/\fs.lookup f=on v/\Q v b
def Jz(K:NA)(c d:TE)(f:NY):TS:=λD σ H=>d σ H λy e=>c σ e λx b=>∃a C dx fs,x= .ref a/\b a=on (.ins C dx fs)/\Cls K C/\dA K C f/\fs.length<1000/\
 D.nx σ (upd b a (.ins C dx (da f y fs)))
variable{o e value:Expr}{pos pos' tpos:RN}{ta tv:TE}
theorem JV(b:PE X e ta)(d:Q4 e f X.env (Op e X.env)=Op e X.env):PE X (.Attribute e f pos) (tFld X.K ta f):=by
 intro pins s σ H Q I h;refine IZ d (thn (b pins s σ H _ I h) λu r ⟨x,g,i,j,a,C,dx,fs,v,ex,k,c,n,l,q⟩=>?_);subst ex;obtain rfl:u=NC a:=j;exact wR i k c n l λt y m p=>⟨v,g,m,p,q⟩
theorem oA(ha:PE X o ta)(b:PE X value tv)(hs:RE value (on (.Attribute o f pos')) pos.line X.env=Pn M4):PS X (.Assign [.Attribute o f pos'] value pos) (Jz X.K ta tv f):=by
 intro pins s σ H D I h;refine plainObj_wpAny_Assign_Attribute (thn (b pins s σ H _ I h) λu d ⟨y,g,i,j,q⟩=>thn (ha pins d σ g _ i q) λk B ⟨x,F,m,p,a,C,dx,fs,ex,r,c,n,l,q2⟩=>?_) hs;subst ex;obtain rfl:k=NC a:=p;exact v9 m r c n l j λJ t=>⟨σ,_,t,q2⟩
variable{Q:M7->Ng->Prop}{c:M7}{b:Bool}
inductive TyOf (K:NA) (H:Hp):V->M7->Prop where
 |non:TyOf K H .non (.type "NoneType")
 |bl (x:Bool):TyOf K H (.bl x) (.type "bool")
 |int (i:Int):TyOf K H (.int i) (.type "int")
 |str (x:NY):TyOf K H (.str x) (.type "str")
 |lst {a:M3} {xs:List V} (e:H a=on (.lst xs)):TyOf K H (.ref a) (.type "list")
 |frz {a:M3} {o:NM} {xs:List V} (e:H a=on (.frz o (.lst xs))):TyOf K H (.ref a) (.type "list")
 |tup {a:M3} {xs:List V} (e:H a=on (.tup xs)):TyOf K H (.ref a) (.type "tuple")
 |ins {a C dx:M3} {fs:List (NY×V)} (e:H a=on (.ins C dx fs)) (cl:Cls K C) (ha:Ra K (.ref C) "__class__"=on (on (.builtin "object.__class__")))
  (hn:specialIn K (.builtin "object.__class__") "__get__"=on (on (.builtin "getset_descriptor.__get__"))) (htk:V6 K (.builtin "object.__class__")=on M2)
  (hm:PySem.W.mroIn K C (.type "object")=on M2):TyOf K H (.ref a) (.ref C)
theorem yK(I:Inv X pins σ H s)(d:aF x u)(ty:TyOf X.K H x t)(e:kitOne X.K t c=on b)(h:∀j,Q (.bool b) {s with toks:=j}):
  Nn (NL X.prog X.w) A (Uj (.builtin "isinstance") [u,c]) Q E s:=by
 cases ty with
 |non=>cases(show u=Oh from d);exact SE Vw I.kIn Qs e (λz=>nomatch z) h
 |bl y=>cases(show u=Tc y from d);exact SE Vv I.kIn Qs e (λz=>nomatch z) h
 |int i=>obtain⟨t,q⟩:=(show ∃t,u=Qt i t from d);cases q;exact SE VN I.kIn Qs e (λz=>nomatch z) h
 |str y=>obtain⟨t,q⟩:=(show ∃t,u=Wp y t from d);cases q;exact SE VP I.kIn Qs e (λz=>nomatch z) h
 |@lst a xs ea=>
  cases(show u=NC a from d);obtain⟨_,_,n,_,g⟩:=(show br X.prog X.w H s.heap a (.lst xs)from I.hok a _ ea);exact SE TH I.kIn ⟨_,g,rfl⟩ e (λz=>nomatch z) h
 |@frz a ob xs ea=>
  cases(show u=NC a from d);obtain⟨_,_,_,n,_,g⟩:=(show br X.prog X.w H s.heap a (.frz ob (.lst xs))from I.hok a _ ea);exact SE TH I.kIn ⟨_,g,rfl⟩ e (λz=>nomatch z) h
 |@tup a xs ea=>
  cases(show u=NC a from d);obtain⟨_,_,_,p⟩:=(show br X.prog X.w H s.heap a (.tup xs)from I.hok a _ ea);obtain⟨o,g,k,_⟩:=p;exact SE Vj I.kIn ⟨o,g,k⟩ e (λz=>nomatch z) h
 |@ins a C dx fs ea cl ha hn htk hm=>
  cases(show u=NC a from d);obtain⟨l,O,_⟩:=jq I.hok ea;obtain⟨m,J,_⟩:=O.look;exact SE (VO (cl.get _) cl.hd ha hn htk hm) I.kIn J e (λz=>nomatch z) h
structure Room (k:Nat) (A:Oj):Prop where
 hd:A.handled=MY
 dp:A.depth+3*k+5<recursionLimit
 un:A.units+16*k+200<R5
 gd:A.guards=on []
theorem Room.mono{A:Oj}(r:Room k A)(h:j<=k):Room j A:=⟨r.hd,by have:=r.dp;omega,by have:=r.un;omega,r.gd⟩
theorem Room.deeper{A:Oj}(r:Room (k+1) A)(env:Ud):Room k (A.deeper env):=
 ⟨r.hd,by have:=r.dp;show A.depth+1+3*k+5<_;omega,by have:=r.un;show A.units+3+16*k+200<_;omega,r.gd⟩
theorem wD{A:Oj}{C:M3}:(A.under (.builtin "type.__call__" ⟨.ref C::us,kw⟩)).depth=A.depth+1:=by
 first|rfl|simp[Tf,Code.weight,Code.isCreation,Code.isGuard,Code.isCaller,Code.frames,UX,guardIds]
theorem wC{A:Oj}{C:M3}:(A.under (.builtin "type.__call__" ⟨.ref C::us,kw⟩)).units=A.units+1:=by
 first|rfl|simp[Tf,Code.cUnits,Code.frames,UX]
theorem Room.make{A:Oj}(r:Room (k+1) A)(C:M3)(us:List M7)(d:List (NY×M7)):Room k (A.under (.builtin "type.__call__" ⟨.ref C::us,d⟩)):=
 ⟨r.hd,by have:=r.dp;rw[wD];omega,by have:=r.un;rw[wC];omega,by first|exact r.gd|simp[Tf,Code.guards,Code.isGuard,guardIds,pushGuards,r.gd]⟩
theorem Room.depth{A:Oj}(r:Room k A):A.depth<recursionLimit:=by have:=r.dp;omega
theorem Room.units{A:Oj}(r:Room k A):A.units+64<R5:=by have:=r.un;omega
noncomputable def zF:TA:=λ_ H Q=>Q [] H
def EL(ta:TE)(tr:TA):TA:=λσ H Q=>ta σ H λx d=>tr σ d λxs g=>Q (x::xs) g
variable{es:List Expr}{te:TE}{t:TA}
theorem hZ:PA X [] zF:=λ_ _ _ _ H Q I h=>VX ⟨[],H,I,.nil,h⟩
theorem dU(ha:PE X e te)(d:PA X es t)(hs:No (e::es) X.env=(M4,Op e X.env)::No es X.env:=by rfl):PA X (e::es) (EL te t):=by
 intro pos pins s σ H Q I h;rw[hs];show Nn _ _ (spliced ((M4,Op e X.env)::Ps pos (No es X.env))) _ _ s;refine VB (thn (ha pins s σ H _ I h) λu g ⟨x,i,j,r1,q1⟩=>?_);exact thn (d pos pins g σ i _ j q1) λus n ⟨xs,k,l,m,q2⟩=>⟨x::xs,k,l,.cons r1 m,q2⟩
def tTup(t:TA):TE:=λσ H Q=>t σ H λxs d=>xs.length<=Nr/\∀p,d p=MY->Q (.ref p) (upd d p (.tup xs))
def Ji(t:TA):TE:=λσ H Q=>t σ H λxs d=>xs.length<=Nr/\∀p,d p=MY->Q (.ref p) (upd d p (.lst xs))
theorem JR{x1}(h:PA X es t):PE X (.Tuple es x1 pos) (tTup t):=by
 intro pins s σ H Q I j;refine wpAny_Tuple_spliced (thn (h pos pins s σ H _ I j) λus d ⟨xs,g,i,r,z,q⟩=>⟨by rw[←r.length];exact z,?_⟩);have k:g d.heap.objs.size=MY:=i.hok.fresh (Nh _);refine⟨.ref d.heap.objs.size,upd g d.heap.objs.size (.tup xs),i.laid (t':=d.toks) (λb u e=>M1 _ e) (Nh _) ?_,rfl,q _ k⟩;exact⟨z,us,r,⟨_,Nu _ rfl,rfl,_,rfl⟩⟩
theorem fW(h:PA X es t):PE X (.List es pos) (Ji t):=by
 intro pins s σ H Q I j;refine wpAny_List_spliced (thn (h pos pins s σ H _ I j) λus d ⟨xs,g,i,r,z,q⟩=>⟨by rw[←r.length];exact z,?_⟩);have k:g d.heap.objs.size=MY:=i.hok.fresh (Nh _);refine⟨.ref d.heap.objs.size,upd g d.heap.objs.size (.lst xs),i.laid (t':=d.toks) (λb u e=>M1 _ e) (Nh _) ?_,rfl,q _ k⟩;exact⟨z,us,0,r,Nu _ rfl⟩
abbrev Sp:=List V->Hp->VK->XK->Prop
abbrev CXT:=List Ud->Hp->Ng->XK->M7->Ng->Prop
structure Env0 (P:NQ) (w:N0) (K:NA) (mg:NY->Option M7) (base:Ox) (A:Oj) (outer:List Ud) (s:Ng) (H:Hp):Prop where
 frames:A.frames=on outer
 mod:Mod K mg base
 bs:∀b o,base.get? b=on o->s.heap.get? b=on o/\H b=MY
 bsz:base.objs.size<=s.heap.objs.size
 funs:s.heap.FunFrames base outer
 frf:∀b∈frs outer,H b=MY
 hok:HOk P w H s.heap
 bare:R6 s.gens
def CE(outer:List Ud)(P:NQ)(w:N0)(H:Hp)(s:Ng)(Q:VK)(u:M7)(s':Ng):Prop:=
 ∃v H',s'.os=s.os/\R6 s'.gens/\Un (frs outer) [] H H' s.heap s'.heap/\HOk P w H' s'.heap/\aF v u/\Q v H'
def CR(CX:CXT)(outer:List Ud)(P:NQ)(w:N0)(H:Hp)(s:Ng)(Q:VK)(E:XK)(r:Result)(s':Ng):Prop:=
 match r with
 | .ok (.ret u)=>CE outer P w H s Q u s'
 | .ok _=>False
 | .error e=>CX outer H s E e s'
structure FnOk (P:NQ) (w:N0) (K:NA) (mg:NY->Option M7) (base:Ox) (CX:CXT) (k:Nat) (f:M3) (fd:NK) (ps:List NY) (sp:Sp):Prop where
 len:∀vs H Q E,sp vs H Q E->vs.length=ps.length
 run:∀(A:Oj) (outer:List Ud) (s:Ng) (H:Hp) (args:Args) (us:List M7) (vs:List V) (Q:VK) (E:XK),Room k A->Env0 P w K mg base A outer s H->Tu s fd args (ps.zip us)->ar vs us->sp vs H Q E->
  Q6 (NL P w) A (.call (.ref f) args) (CR CX outer P w H s Q E) s
theorem FnOk.mono{P:NQ}{w:N0}{K:NA}{f:M3}(F:FnOk P w K mg base CX j f fd ps sp)(h:j<=k):
  FnOk P w K mg base CX k f fd ps sp:=⟨F.len,λA outer s H args us vs Q E d=>F.run A outer s H args us vs Q E (d.mono h)⟩
theorem Env0.make{P:NQ}{w:N0}{K:NA}{A:Oj}{s:Ng}{H:Hp}(e:Env0 P w K mg base A outer s H)(C:M3)(us:List M7)(d:List (NY×M7)):
  Env0 P w K mg base (A.under (.builtin "type.__call__" ⟨.ref C::us,d⟩)) outer s H:=⟨by first|exact e.frames|(simpa[Tf,Code.envs,UX,pushEnvs]using e.frames),e.mod,e.bs,e.bsz,e.funs,e.frf,e.hok,e.bare⟩
variable{s':Ng}
theorem Inv.env0(I:Inv X pins σ H s):Env0 X.prog X.w X.K X.mg X.base X.A X.stack s H:=
 ⟨I.ok.frames,I.ok.mod,I.bs,NG I.ok.bsz I.sz,I.stack,I.stkFree,I.hok,I.bare⟩
theorem Inv.after{Q:VK}(I:Inv X pins σ H s)(h:CE X.stack X.prog X.w H s Q u s'):EP X pins σ Q u s':=by
 obtain⟨v,H',os,bare,un,hok,r,q⟩:=h;obtain⟨j,g,d,t,i⟩:=s';obtain rfl:i=s.os:=os;exact⟨v,H',I.call (h':=j) (g':=g) (d':=d) (t':=t) (ch:=[]) un hok bare (λb z=>NE z (by simp)),r,q⟩
def Ma(sp:Sp)(d:List V)(E:St->XK)(t:TA):TE:=λσ H Q=>t σ H λvs g=>sp (vs++d) g Q (E σ)
def vZ(C:M3)(m:NY)(sp:Sp)(d:List V)(E:St->XK)(ta:TE)(t:TA):TE:=λσ H Q=>ta σ H λx g=>∃a dx fs,x= .ref a/\g a=on (.ins C dx fs)/\fs.lookup m=MY/\
 t σ g λvs i=>sp (x::(vs++d)) i Q (E σ)
def aC(K:NA)(d:NK)(ps:List NY)(ds:List M7):Prop:=
 ∀(s:Ng) (us:List M7),K.In s.heap->(us++ds).length=ps.length->Tu s d ⟨us,[]⟩ (ps.zip (us++ds))
theorem aC.all{K:NA}{ps:List NY}(h:∀us:List M7,us.length=ps.length->bindArgs fd ⟨us,[]⟩=Pn (ps.zip us)):aC K fd ps []:=λs us _ d=>by
 rw[NV]at d⊢;exact .of_eq (h us d)
def cT(CX:CXT)(X:Cx)(E:St->XK):Prop:=∀(pins:List (M3×NM)) (σ:St) (H:Hp) (s:Ng) (e:M7) (s':Ng),Inv X pins σ H s->CX X.stack H s (E σ) e s'->X.xe e s'
end
section
variable{X:Cx}{CX:CXT}{k:Nat}{f C:M3}{fd:NK}{ps:List NY}{sp:Sp}{dvs:List V}{ds:List M7}{E:St->XK}{x m:NY}{p pos apos:RN}{e o:Expr}{es:List Expr}{ta:TE}{t:TA}
theorem sR(F:FnOk X.prog X.w X.K X.mg X.base CX k f fd ps sp)(c:Room k X.A)(d:aC X.K fd ps ds)(hd:ar dvs ds)(g:cT CX X E)
  (I:Inv X pins σ H s) (r:ar vs us) (h:sp (vs++dvs) H Q (E σ)):Nn (NL X.prog X.w) X.A (Uj (.ref f) us) (EP X pins σ Q) X.xe s:=by
 have b:ar (vs++dvs) (us++ds):=r.append hd;have i:(us++ds).length=ps.length:=by rw[←b.length];exact F.len _ _ _ _ h
 refine wpAny_call (Sc (F.run X.A X.stack s H ⟨us,[]⟩ (us++ds) (vs++dvs) Q (E σ) c I.env0 (d s us I.kIn i) b h) λr s' a=>?_);cases r with
 |error e=>exact g pins σ H s e s' I a
 |ok fl=>
  cases fl with
  |ret u=>exact I.after a
  |next=>exact PD a
  |brk=>exact PD a
  |cont=>exact PD a
theorem lO(F:FnOk X.prog X.w X.K X.mg X.base CX k f fd ps sp)(g:Room k X.A)(i:Gl X x)(hm:X.mg x=on (.ref f))(j:Su X.K (.ref f)=M2)(l:aC X.K fd ps ds)(hd:ar dvs ds)(n:cT CX X E)
  (ha:PA X (e::es) t) (b:(x==("__debug__":NY))=M4:=by decide) (u:No (e::es) X.env=(M4,Op e X.env)::No es X.env:=by rfl) (c:(Ps pos (No es X.env)).any (·.1)=M4:=by rfl):
  PE X (.Call (.Name x p) (e::es) [] pos) (Ma sp dvs E t):=by
 intro a s v H Q I h;refine Sv (pO I i hm ?_ b);refine U9 (h₀:=X.base) I.ok.mod.kin j (thn (ha pos a s v H _ I h) λus y ⟨vs,B,d,r,q⟩=>⟨d.kIn,?_⟩) u c;exact sR F g l hd n d r q
theorem HK(v:PE X o ta)(c:Cls X.K C)(hm:Meth X.K C m f)(F:FnOk X.prog X.w X.K X.mg X.base CX k f fd ps sp)(y:Room k X.A)(B:aC X.K fd ps ds)(hd:ar dvs ds)(J:cT CX X E)(ha:PA X (e::es) t)
  (d:No (e::es) X.env=(M4,Op e X.env)::No es X.env:=by rfl) (g:(Ps pos (No es X.env)).any (·.1)=M4:=by rfl)
  (L:Op (.Call (.Attribute o m apos) (e::es) [] pos) X.env=(do
   let ov ←Op o X.env
   QY apos.atName
   let (f,first) ←Ro [ov] (TD ov m pl)
   callWith pos f first (Ps pos (No (e::es) X.env)) (Qp pos (Pf [] X.env))):=by rfl):
  PE X (.Call (.Attribute o m apos) (e::es) [] pos) (vZ C m sp dvs E ta t):=by
 intro b s i H Q I h;refine UL (pl:=pl) (thn (v b s i H _ I h) λu N ⟨x,O,j,P,a,T,fs,ex,R,l,q⟩=>?_) L;subst ex;obtain rfl:u=NC a:=P;refine oX j R c hm l ?_;refine U9 (first:=[.ref a]) (h₀:=X.base) I.ok.mod.kin hm.kp (thn (ha pos b N i O _ j q) λus U ⟨vs,W,n,r,q2⟩=>⟨n.kIn,?_⟩) d g
 exact sR (us:= .ref a::us) (vs:= .ref a::vs) F y B hd J n (.cons rfl r) q2
theorem zZ(g:PE X o ta)(c:Cls X.K C)(hm:Meth X.K C m f)(F:FnOk X.prog X.w X.K X.mg X.base CX k f fd ps sp)(i:Room k X.A)(j:aC X.K fd ps ds)(hd:ar dvs ds)(n:cT CX X E)
  (r:Op (.Call (.Attribute o m apos) [] [] pos) X.env=(do
   let ov ←Op o X.env
   QY apos.atName
   let (f,first) ←Ro [ov] (TD ov m pl)
   callWith pos f first (Ps pos (No [] X.env)) (Qp pos (Pf [] X.env))):=by rfl):
  PE X (.Call (.Attribute o m apos) [] [] pos) (vZ C m sp dvs E ta zF):=by
 intro b s v H Q I h;refine UL (pl:=pl) (thn (g b s v H _ I h) λu J ⟨x,L,d,y,a,N,fs,ex,B,l,q⟩=>?_) r;subst ex;obtain rfl:u=NC a:=y;refine oX d B c hm l ?_;exact PySem.W.callWith_K0 (first:=[.ref a]) d.kIn hm.kp (sR (us:=[.ref a]) (vs:=[.ref a]) F i j hd n d (.cons rfl .nil) q)
structure Mk (K:NA) (C f:M3):Prop where
 makes:V5 K C=M2
 init:Ra K (.ref C) "__init__"=on (on (.ref f))
 fn:isFn K (.ref f)=M2
 kp:Su K (.ref C)=M2
def PK(X:Cx)(b:List Tx)(t:TA):Prop:=
 ∀(pos:RN) (a:List (M3×NM)) (s:Ng) (c:St) (H:Hp) (Q:List V->Hp->Prop),Inv X a c H s->t c H Q->Nn (NL X.prog X.w) X.A (evalAll ((Qp pos (Pf b X.env)).map (·.2))) (AP X a c Q) X.xe s
variable{ks:List NY}{kpos:RN}{kws:List Tx}{te:TE}{tk:TA}{nm:Option NY}
theorem JN:PK X [] zF:=λ_ _ _ _ H Q I h=>wpAny_evalAll_nil ⟨[],H,I,.nil,h⟩
theorem HG(ha:PE X e te)(c:PK X kws t):PK X (⟨nm,e,kpos⟩::kws) (EL te t):=by
 intro pos a s b H Q I h;show Nn _ _ (evalAll ((do let v ←Op e X.env;QY pos;Pn v)::(Qp pos (Pf kws X.env)).map (·.2))) _ _ s
 refine wpAny_evalAll_cons (My (thn (ha a s b H _ I h) λu d ⟨x,g,i,r1,q1⟩=>My (Pp (M0 ?_))));exact thn (c pos a d b g _ i q1) λus q ⟨xs,j,l,n,q2⟩=>⟨x::xs,j,l,.cons r1 n,q2⟩
structure KBinds (K:NA) (fd:NK) (ps ks:List NY) (g:List M7->List M7->List M7) (gV:List V->List V->List V):Prop where
 to:∀(s:Ng) (us ws:List M7),K.In s.heap->(g us ws).length=ps.length->Tu s fd ⟨us,ks.zip ws⟩ (ps.zip (g us ws))
 rel:∀{vs:List V} {us:List M7} {zs:List V} {ws:List M7},ar vs us->ar zs ws->ar (gV vs zs) (g us ws)
variable{g:List M7->List M7->List M7}{gV:List V->List V->List V}
structure FnScope (N P:List NY) (sc:Scope):Prop where
 kind:sc.kind= .function
 co:sc.isCoroutine=M4
 gen:sc.isGenerator=M4
 nd:N.Nodup
 pre:N.take P.length=P
 par:∀x∈P,sc.names.lookup x=on .local\/sc.names.lookup x=on .cell
 nofree:∀y∈sc.names,y.2≠ .free
theorem qW{b:NY->Option QH}{x:NY}:∀{a:List (NY×M7)} {m:NY->Option M7},(∀v,(x,v)∉a)->Wb b a m x=m x
 |[],_,_=>rfl
 |(n,v)::r,m,h=>by
  unfold Wb;rw[qW λw c=>h w (M5 _ c)];split
  ·have:x≠n:=by rintro rfl;exact h v Nb
   simp[this]
  ·rfl
theorem qY{b:NY->Option QH}{x:NY}:∀{a:List (NY×M7)} {m:NY->Option M7},(∀v,(x,v)∉a)->Wa b a m x=m x
 |[],_,_=>rfl
 |(n,v)::r,m,h=>by
  unfold Wa;rw[qY λw c=>h w (M5 _ c)];split
  ·rfl
  ·have:x≠n:=by rintro rfl;exact h v Nb
   simp[this]
theorem qX{a:NY->Option QH}{x:NY}{v:M7}:∀{P:List NY} {vs:List M7} {i:Nat} {m:NY->Option M7},P.Nodup->P[i]?=on x->vs[i]?=on v->a x=on .local->
  Wb a (P.zip vs) m x=on v
 |[],_,_,_,_,h,_,_=>by simp at h
 |_::_,[],_,_,_,_,h,_=>by simp at h
 |p::P,w::vs,0,m,nd,h1,h2,hk=>by
  simp at h1 h2;subst h1;subst h2;show Wb a ((p,w)::P.zip vs) m p=_;unfold Wb;rw[qW λv b=>(Ob.mp nd).1 (T8 b).1,Nf hk];simp
 |p::P,w::vs,i+1,m,nd,h1,h2,hk=>by
  show Wb a ((p,w)::P.zip vs) m x=_;unfold Wb;exact qX (i:=i) (Ob.mp nd).2 (by simpa using h1) (by simpa using h2) hk
theorem qZ{a:NY->Option QH}{x:NY}{v:M7}:∀{P:List NY} {vs:List M7} {i:Nat} {m:NY->Option M7},P.Nodup->P[i]?=on x->vs[i]?=on v->a x≠on .local->
  Wa a (P.zip vs) m x=on v
 |[],_,_,_,_,h,_,_=>by simp at h
 |_::_,[],_,_,_,_,h,_=>by simp at h
 |p::P,w::vs,0,m,nd,h1,h2,hk=>by
  simp at h1 h2;subst h1;subst h2;show Wa a ((p,w)::P.zip vs) m p=_;unfold Wa;rw[qY λv b=>(Ob.mp nd).1 (T8 b).1,M8 hk];simp
 |p::P,w::vs,i+1,m,nd,h1,h2,hk=>by
  show Wa a ((p,w)::P.zip vs) m x=_;unfold Wa;exact qZ (i:=i) (Ob.mp nd).2 (by simpa using h1) (by simpa using h2) hk
noncomputable def eC(N:List NY)(vs:List V):St:=vs.map on++Nx (N.length-vs.length) MY
noncomputable def eM(CX:CXT)(P:NQ)(w:N0)(K:NA)(mg:NY->Option M7)(base:Ox)(N:List NY)(a:NY)(scope:Scope)(f:M3)(cd:M7)(A:Oj)(outer:List Ud)(s:Ng)(H:Hp)(E:XK):Cx where
 prog:=P
 w:=w
 K:=K
 mg:=mg
 base:=base
 A:=A.deeper (Rl a scope s.heap.objs.size f cd)
 N:=N
 s₀:=s
 H₀:=H
 env:=Rl a scope s.heap.objs.size f cd
 outer:=outer
 stack:=Rl a scope s.heap.objs.size f cd::outer
 ex:=[]
 calm:=M2
 fn:=λ_=>M2
 pn:=[]
 xe:=λe s'=>Nn (NL P w) (A.deeper (Rl a scope s.heap.objs.size f cd)) (leaving (Rl a scope s.heap.objs.size f cd) e) (λ_ b=>CX outer H s E e b) (λc b=>CX outer H s E c b) s'
theorem ur{a:Scope}{x:NY}(h:a.names.lookup x=on .cell):∃c,(OW n a.names []).lookup x=on c:=by
 have q:=Ve a.names n [] (.inl h);exact Uu.mp q
theorem yN{CX:CXT}{K:NA}{N ps:List NY}{scope:Scope}{f:M3}{A:Oj}{s L:Ng}{E:XK}{vs:List V}
  (S:FnScope N ps scope) (hd:A.handled=MY) (j:Env0 P w K mg base A outer s H) (U:vs.length=ps.length) (r:ar vs us)
  (x:InCallC s s.heap.objs.size (Wb (Rl qual scope s.heap.objs.size f cd).kindOf (ps.zip us) λ_=>MY) (OW (s.heap.objs.size+1) scope.names []) (Wa (Rl qual scope s.heap.objs.size f cd).kindOf (ps.zip us) λ_=>MY) L):
  Inv (eM CX P w K mg base N qual scope f cd A outer s H E) [] (eC N vs) H L:=by
 have R:ps.length<=N.length:=by have:=Oi Rt S.pre;rw[OQ]at this;omega
 obtain⟨I,tk,rfl,O⟩:=x.done;have l:∀b:M3,b∉(eM CX P w K mg base N qual scope f cd A outer s H E).ex:=λb z=>NE (show b∈([]:List M3)from z) (by simp);refine⟨⟨j.mod,S.kind,rfl,rfl,Nh _,λy z c I d=>?_,λy hy=>?_,λy c _ h=>?_,λ_=>hd,Around.frames_deeper j.frames,.inr ⟨rfl,rfl⟩,λb z=>NE z (l b),j.bs,j.bsz,λb _ _=>l b,λb z=>NE z (l b),j.funs,j.frf⟩,
  rfl,j.bare,Un.kept O,⟨_,x.toInCall.ns,λi y v I d W=>?_⟩,λy c h=>⟨_,x.cell y c h⟩,j.hok.fresh (Nh _),λy c h=>?_,λp B=>NE (show p∈([]:List (M3×NM))from B) (by simp),j.hok.kept O,?_⟩
 ·exact name_of_addr x.apart (Oz I) (Oz d)
 ·have hy:scope.names.lookup y=on .cell\/scope.names.lookup y=on .free:=hy
  rcases hy with hy|hy
  ·exact ur hy
  ·exact NE rfl (S.nofree _ (Oz hy))
 ·exact SM (x.above y c (Oz h))
 ·have J:i<vs.length:=by
   unfold eC at d;by_cases J:i<vs.length
   ·exact J
   ·rw[O7 (by simpa using J)]at d
    rw[P5]at d;split at d<;>cases d
  have ha:vs[i]?=on v:=by
   unfold eC at d;rw[QB (by simpa using J),M9]at d;cases e:vs[i]? with
   |none=>rw[e]at d;cases d
   |some a=>rw[e]at d;cases d;rfl
  obtain⟨u,Q,T⟩:=r.get ha;have B:ps[i]?=on y:=by
   rw[←S.pre,UI (by omega)];exact I
  have F:ps.Nodup:=by rw[←S.pre];exact S.nd.sublist (List.take_sublist _ _)
  refine⟨u,T,?_⟩;rcases S.par y (NB B)with k|k
  ·exact .inl ⟨k,qX F B Q k⟩
  ·obtain⟨c,e⟩:=ur (n:=s.heap.objs.size+1) k
   refine .inr ⟨.inl k,c,e,?_⟩;have q:=x.cell y c e;rw[qZ F B Q (by show scope.names.lookup y≠_;rw[k];decide)]at q;exact q
 ·exact j.hok.fresh (SM (x.above y c (Oz h)))
 ·unfold eC
  show _=N.length;rw[Ny,MZ,ON];omega
theorem FQ{CX:CXT}{K:NA}{k:Nat}{f:M3}
  {N ps:List NY} {sp:Sp} (U:K.lookup f=on ⟨oc,od,.func (Q3 name qual params body scope dV kV doc pm an cdv ct),osl⟩) (B:RA K cdv qual=M2) (S:FnScope N ps scope)
  (len:∀vs H Q E,sp vs H Q E->vs.length=ps.length)
  (d:∀(A:Oj) (outer:List Ud) (s:Ng) (H:Hp) (vs:List V) (Q:VK) (E:XK),Room k (A.deeper (Rl qual scope s.heap.objs.size f cdv))->sp vs H Q E->
   ∃t,PSs (eM CX P w K mg base N qual scope f cdv A outer s H E) body t/\t {nx:=λ_ c=>Q .non c,rt:=Q} (eC N vs) H):
  FnOk P w K mg base CX (k+1) f (Q3 name qual params body scope dV kV doc pm an cdv ct) ps sp:=by
 refine⟨len,λA outer s H args us vs Q E F i Y r j=>?_⟩;have Z:=len _ _ _ _ j;have R:K.In s.heap:=i.mod.kin.keeps λb o e=>(i.bs b o e).1;have L:s.heap.NoLimit:=i.mod.nolimit.keeps λb o e=>(i.bs b o e).1;have h:∀y∈ps.zip us,scope.names.lookup y.1=on .local\/(scope.names.lookup y.1=on .cell/\((OW (s.heap.objs.size+1) scope.names []).lookup y.1).isSome=M2):=λ⟨n,v⟩ hy=>by
  rcases S.par n (T8 hy).1 with q|q
  ·exact .inl q
  ·exact .inr ⟨q,Ve _ _ _ (.inl q)⟩
 refine codeAny_call_function F.depth (R _ _ U) rfl S.co S.gen rfl (PySem.W.codeRec_of R B) (Y _ _ _ _ ?_);refine wpAny_newFunctionEnv_cells S.kind h λenv he T x=>?_;subst he;refine⟨L.keeps x.toInCall.keep,codeAny_func ?_⟩;obtain⟨t,ht,hq⟩:=d A outer s H vs Q E (F.deeper _) j;have I:Inv (eM CX P w K mg base N qual scope f cdv A outer s H E) [] (eC N vs) H T:=yN S F.hd i Z r x;refine Oe (ht [] T (eC N vs) H _ I hq) (λfl s' hs=>?_) λe s' hs=>hs;have l:∀{a:St} {c:Hp} {v:V} {u:M7},Inv (eM CX P w K mg base N qual scope f cdv A outer s H E) [] a c s'->aF v u->Q v c->CE outer P w H s Q u s':=
  λ{a c v u} J O q=>⟨v,c,J.os,J.bare,J.base,J.hok,O,q⟩
 cases fl with
 |ret u=>
  obtain⟨v,a,c,J,O,q⟩:=hs;exact l J O q
 |next=>
  obtain⟨a,c,J,q⟩:=hs;exact l (v:=V.non) (u:=Oh) J rfl q
 |brk=>
  obtain⟨_,_,_,q⟩:=hs;exact PD q
 |cont=>
  obtain⟨_,_,_,q⟩:=hs;exact PD q
variable{id T:String}{r:List V->Hp->VK->Prop}
def tCB(r:List V->Hp->VK->Prop)(t:TA):TE:=λa H Q=>t a H λvs b=>r vs b Q
theorem jJ(i:cK X (.builtin id) r)(j:Gl X x)(hm:X.mg x=MY)(l:QX x=on (.builtin id))(ha:PA X (e::es) t)(hn:x≠"__name__":=by decide)(b:(x==("__debug__":NY))=M4:=by decide)
  (n:No (e::es) X.env=(M4,Op e X.env)::No es X.env:=by rfl) (c:(Ps pos (No es X.env)).any (·.1)=M4:=by rfl):PE X (.Call (.Name x p) (e::es) [] pos) (tCB r t):=by
 intro a s d H Q I h;refine Sv (eX I j hm l ?_ hn b);exact PyProof.Rows.callWith_builtin1 (thn (ha pos a s d H _ I h) λus q ⟨vs,u,v,r1,q1⟩=>i a q d u vs us Q v r1 q1) n c
theorem yg(i:cK X (.type T) r)(j:Gl X x)(hm:X.mg x=MY)(l:QX x=on (.type T))(ha:PA X (e::es) t)(hn:x≠"__name__":=by decide)(b:(x==("__debug__":NY))=M4:=by decide)
  (n:No (e::es) X.env=(M4,Op e X.env)::No es X.env:=by rfl) (c:(Ps pos (No es X.env)).any (·.1)=M4:=by rfl):PE X (.Call (.Name x p) (e::es) [] pos) (tCB r t):=by
 intro a s d H Q I h;refine Sv (eX I j hm l ?_ hn b);exact OK (thn (ha pos a s d H _ I h) λus q ⟨vs,u,v,r1,q1⟩=>i a q d u vs us Q v r1 q1) n c
end
end L2
namespace HT
open PySem PyProof.Rows
section
open PySem.SeqAt
open PySem.AutoSeq1 (wpAny_loadPart')
open PySem.MeetsSeq PySem.MeetsSeq2 PySem.MeetsSeq3
end
section
variable{prog:NQ}{w:N0}{A:Oj}{E:M7->Ng->Prop}{s:Ng}
theorem cat_tup{vs a:List M7}(u:IsTup s.heap t vs.toArray)(v:IsTup s.heap b a.toArray)(m:vs≠[])
  (y:a=[]->Q (.ref t) s) (B:a≠[]->Q (.ref s.heap.objs.size) {s with heap:=s.heap.push {cls:= .type "tuple",data:= .seq (vs++a).toArray}})
  (k:vs.length+a.length<=Nr):Nn (NL prog w) A (PR .Add (.ref t) (.ref b)) Q E s:=by
 obtain⟨⟨cls,o,data,sl⟩,i,p,n,hd⟩:=id u;obtain⟨⟨q,d,l,f⟩,c,g,r,h⟩:=id v;simp only at p hd g h;subst p hd g h;have e:vs.toArray++a.toArray=(vs++a).toArray:=by simp
 by_cases j:a=[]
 ·exact concat_meets ⟨_,i,rfl⟩ ⟨_,c,rfl⟩ UD VS Sm Sa (RZ _ _)
   (tuple_addW1 t b vs.toArray a.toArray n r o d sl f (by simpa using m) (by simp[j])) ⟨i,c,y j⟩
 ·refine concat_meets ⟨_,i,rfl⟩ ⟨_,c,rfl⟩ UD VS Sm Sa (RZ _ _)
   (tuple_addW2 t b vs.toArray a.toArray n r o d sl f (by simpa using m) (by simpa using j) (by rw[Nv,Nv];exact k)) ⟨i,c,?_⟩
  rw[e];exact B j
noncomputable def sIx(n d:Nat):Option Int->Nat
 |none=>d
 |some v=>if v<0 then(v+(n:Int)).toNat else Qk v.toNat n
theorem sIx_none(n d:Nat):sIx n d MY=d:=rfl
theorem sIx_nat(n d k:Nat):sIx n d (on (k:Int))=Qk k n:=by
 show(if(k:Int)<0 then((k:Int)+(n:Int)).toNat else Qk (k:Int).toNat n)=Qk k n;rw[M8 (by omega),OJ]
theorem Jy(n d:Nat)(hd:d<=n)(o:Option Int):sIx n d o<=n:=by
 cases o with
 |none=>exact hd
 |some v=>
  show(if v<0 then(v+(n:Int)).toNat else Qk v.toNat n)<=n;by_cases a:v<0
  ·rw[Nf a];omega
  ·rw[M8 a];exact Nat.min_le_right _ _
theorem vM(v:Int)(n d:Nat):(if v<0 then Vy (v+(n:Int)) 0 else Qk v (n:Int))=((sIx n d (on v):Nat):Int):=by
 show(if v<0 then Vy (v+(n:Int)) 0 else Qk v (n:Int))=(((if v<0 then(v+(n:Int)).toNat else Qk v.toNat n):Nat):Int);by_cases a:v<0
 ·simp only[Nf a];omega
 ·simp only[M8 a];omega
theorem xf(lo a:Option Int)(n:Nat):Rg lo a 1 (n:Int)=(((sIx n 0 lo:Nat):Int),((sIx n n a:Nat):Int)):=by
 have b:¬((1:Int)<0):=by omega
 unfold Rg;simp only[b,N3];refine Qr ?_ ?_
 ·cases lo with
  |none=>rfl
  |some v=>exact vM v n 0
 ·cases a with
  |none=>rfl
  |some v=>exact vM v n n
theorem wn(i j:Nat):Qe (i:Int) (j:Int) 1=j-i:=by
 unfold Qe;have a:(1:Int)>0:=by omega
 simp only[a,N4,Int.ediv_one];split<;>omega
theorem nX(p:Uy v o)(h:Q o s):Nn (NL prog w) A (Builtin.Slice.slicePartIndex v) Q E s:=by
 cases p with
 |none=>exact slicePart_none h
 |int i t=>exact slicePart_int h
theorem mV{sl:M3}{d e:M7}{lo a:Option Int}{n:Nat}{Q:Int×Int×Nat->Ng->Prop}(hs:s.heap.IsSliceOf sl d e .none)(pl:Uy d lo)(f:Uy e a)
  (h:Q (((sIx n 0 lo:Nat):Int),1,sIx n n a-sIx n 0 lo) s):Nn (NL prog w) A (S8 (.ref sl) (Pn (n:Int))) Q E s:=by
 obtain⟨os,b,g,c⟩:=id hs;unfold S8 Builtin.Slice.sliceFields;refine My (My (Ov b c (x:=d) rfl (My (Ov b c (x:=e) rfl (My (Ov b c (x:= .none) rfl (M0 ?_)))))));refine My (slicePart_none ?_);show Nn _ _ (if((1:Int)==0)=M2 then _ else _) _ _ s;rw[M8 (by decide)];refine My (nX pl (My (nX f (My (M0 ?_)))));show Nn _ _ (match Rg lo a 1 (n:Int)with|(lo,a)=>Pn (lo,(1:Int),Qe lo a 1)) _ _ s
 rw[xf lo a n];show Nn _ _ (Pn (((sIx n 0 lo:Nat):Int),(1:Int),Qe ((sIx n 0 lo:Nat):Int) ((sIx n n a:Nat):Int) 1)) _ _ s;rw[wn];exact M0 h
theorem zW(xs:Array M7)(i k:Nat):((Nd k).filterMap λ(m:Nat)=>xs[((i:Int)+(m:Int)*1).toNat]?).toArray=((xs.toList.drop i).take k).toArray:=by
 have e:(λ(m:Nat)=>xs[((i:Int)+(m:Int)*1).toNat]?)=λm=>xs[i+m]?:=by
  funext m;have:((i:Int)+(m:Int)*1).toNat=i+m:=by omega
  rw[this]
 rw[e];have:=pick_run xs i k;rw[VY]at this;have a:((λx=>xs[x]?)∘λx=>i+x)=λm=>xs[i+m]?:=rfl;rw[a]at this;rw[this]
theorem getItem_tuple_cut{a:Array M7}{lo c:Option Int}(d:IsTup s.heap t a)(hs:s.heap.IsSliceOf sl vl vu .none)(pl:Uy vl lo)(j:Uy vu c)
  (k:¬(sIx a.size 0 lo=0/\sIx a.size a.size c=a.size))
  (h:Q (.ref s.heap.objs.size) {s with heap:=s.heap.push {cls:= .type "tuple",data:= .seq ((a.toList.drop (sIx a.size 0 lo)).take (sIx a.size a.size c-sIx a.size 0 lo)).toArray}})
  (l:a.size<=Nr):Nn (NL prog w) A (Wq (.ref t) (.ref sl)) Q E s:=by
 have b:sizeOk (.seq ((a.toList.drop (sIx a.size 0 lo)).take (sIx a.size a.size c-sIx a.size 0 lo)).toArray):=by
  show((a.toList.drop (sIx a.size 0 lo)).take (sIx a.size a.size c-sIx a.size 0 lo)).toArray.size<=Nr;rw[Nv,OQ,TR,NS];omega
 have o:sIx a.size a.size c<=a.size:=Jy _ _ (Nh _) c;obtain⟨os,e,f,n⟩:=id hs;have g:s.TypeIs (.ref sl) "slice":=⟨os,e,f⟩;unfold Wq
 try with_reducible refine OB ?_
 first|refine My (M0 ?_)|skip
 refine My (wpAny_sequenceKey d.typeIs (by decide) ?_);refine My (wpAny_callSpecial?_slot (name:=OS "__getitem__") d.typeIs QS
  (N2 QS d.typeIs entry_tuple_getitem ?_ (args_tuple_getitem _ _)))
 show Nn _ _ (S9 (.ref t)>>=_) _ _ s;refine My (tupleItemsOf_ d ?_);refine My (Wx g ?_);rw[Nf (by decide)];refine My (mV hs pl j ?_);have i:¬((((sIx a.size 0 lo:Nat):Int)==0&&(1:Int)==1&&(sIx a.size a.size c-sIx a.size 0 lo)==a.size)=M2):=by
  intro q;rw[NO,NO]at q;have q1:((sIx a.size 0 lo:Nat):Int)=0:=eq_of_beq q.1.1;have q2:sIx a.size a.size c-sIx a.size 0 lo=a.size:=eq_of_beq q.2;exact k ⟨by omega,by omega⟩
 show Nn _ _ (if(((sIx a.size 0 lo:Nat):Int)==0&&(1:Int)==1&&(sIx a.size a.size c-sIx a.size 0 lo)==a.size)=M2 then _ else _) _ _ s;rw[M8 i,zW]
 first
  |exact My (m:=Qn _) (N6 (M0 ⟨_,rfl,M0 h⟩) b)
  |exact My (m:=Qn _) (N6 (My (M0 (M0 ⟨_,rfl,M0 h⟩))) b)
  |exact My (My (m:=Qn _) (N6 (M0 (M0 ⟨_,rfl,M0 h⟩)) b))
  |exact My (My (m:=Qn _) (N6 (M0 ⟨_,rfl,M0 h⟩) b))
end
end HT
namespace L2
open PySem PySem.Spec PyProof.Rows
abbrev TO:=St->Hp->(Option Int->Hp->Prop)->Prop
def PO(X:Cx)(e:Option Expr)(t:TO):Prop:=
 ∀(a:List (M3×NM)) (s:Ng) (b:St) (H:Hp) (Q:Option Int->Hp->Prop),Inv X a b H s->t b H Q->
  Nn (NL X.prog X.w) X.A (evalPart e X.env) (λu s'=>∃o c,Inv X a b c s'/\Uy u o/\Q o c) X.xe s
noncomputable def GM:TO:=λ_ H Q=>Q MY H
def L8(t:TE):TO:=λa H Q=>t a H λx b=>∃i,x= .int i/\Q (on i) b
theorem oU{ns:List Int}:∀{us:List M7},ar (ns.map V.int) us->UZ us ns:=by
 induction ns with
 |nil=>intro us r;rw[OZ]at r;cases r;exact .nil
 |cons n ns ih=>
  intro us r;rw[Nl]at r;cases r with
  |cons r1 a=>
   obtain⟨t,e⟩:=r1;subst e;exact .cons n t (ih a)
section
variable{X:Cx}{e:Expr}{te:TE}{lo hi:Option Expr}{tl th:TO}{pos p2:RN}
theorem u4:PO X MY GM:=by
 intro a s b H Q I h;rw[VR];exact M0 ⟨MY,H,I,.none,h⟩
theorem u3(h:PE X e te):PO X (on e) (L8 te):=by
 intro a s b H Q I c;rw[evalPart_some];refine thn (h a s b H _ I c) λu g ⟨x,d,f,r1,q1⟩=>?_;obtain⟨i,rfl,q⟩:=q1;obtain⟨t,rfl⟩:=r1;exact⟨on i,d,f,.int i t,q⟩
def SlR(X:Cx)(r:V->Option Int->Option Int->Hp->VK->Prop):Prop:=
 ∀(a:List (M3×NM)) (s:Ng) (b:St) (H:Hp) (x:V) (v c d:M7) (lo hi:Option Int) (sl:M3) (Q:VK),Inv X a b H s->aF x v->s.heap.IsSliceOf sl c d .none->Uy c lo->Uy d hi->r x lo hi H Q->
  ∃T f,typeLookup (.type T) "__getitem__"=Pn (on (.builtin f))/\s.TypeIs v T/\Nn (NL X.prog X.w) X.A (Wq v (.ref sl)) (EP X a b Q) X.xe s
def tSl(r:V->Option Int->Option Int->Hp->VK->Prop)(te:TE)(tl th:TO):TE:=λa H Q=>te a H λx b=>tl a b λl c=>th a c λu d=>r x l u d Q
theorem m6(j:SlR X r)(k:PE X e te)(m:PO X lo tl)(n:PO X hi th):PE X (.Subscript e (.Slice lo hi MY p2) pos) (tSl r te tl th):=by
 intro a s d H Q I h;refine Subscript_ (thn (k a s d H _ I h) λv o ⟨x,p,t,r1,q1⟩=>?_);refine wpAny_Slice (thn (m a o d p _ t q1) λf y ⟨l,B,C,pl,q2⟩=>thn (n a y d B _ C q2) λg c ⟨u,i,F,J,q3⟩=>?_);rw[VR];refine M0 ?_;have L:Inv X a d i {c with heap:=c.heap.push {cls:= .type "slice",data:= .fields #[f,g,.none]}}:=F.kept (t':=c.toks) λb R q=>M1 _ q;obtain⟨T,U,N,O,P⟩:=j a {c with heap:=c.heap.push {cls:= .type "slice",data:= .fields #[f,g,.none]}} d i x v f g l u c.heap.objs.size Q L r1 (T6 ..) pl J q3;show Nn (NL X.prog X.w) X.A (VT e (.Slice lo hi MY p2) v (.ref c.heap.objs.size)) (EP X a d Q) X.xe {c with heap:=c.heap.push {cls:= .type "slice",data:= .fields #[f,g,.none]}};exact tail_any (ops:=[.ref c.heap.objs.size,v]) O N P (by with_unfolding_all rfl)
noncomputable def iY(xs:List V)(lo hi:Option Int):List V:=(xs.drop (HT.sIx xs.length 0 lo)).take (HT.sIx xs.length xs.length hi-HT.sIx xs.length 0 lo)
theorem mI(xs:List V)(lo hi:Option Int):(iY xs lo hi).length<=xs.length:=by
 unfold iY;rw[OQ,TR];omega
def rSlT(K:NA):V->Option Int->Option Int->Hp->VK->Prop:=λx lo hi H Q=>∃a xs,x= .ref a/\SqT K H a xs/\
 ¬(HT.sIx xs.length 0 lo=0/\HT.sIx xs.length xs.length hi=xs.length)/\∀p,H p=MY->Q (.ref p) (upd H p (.tup (iY xs lo hi)))
theorem Jt:SlR X (rSlT X.K):=by
 intro d s m H x v n p lo hi sl Q I i hs pl j h;obtain⟨a,xs,rfl,k,l,q⟩:=h;cases i;obtain⟨its,r,f,g⟩:=I.tuple k;have c:its.toArray.size=xs.length:=by rw[Nv];exact r.length.symm
 refine⟨"tuple",_,QS.lookup,f.typeIs,?_⟩;refine HT.getItem_tuple_cut f hs pl j (by rw[c];exact l) ?_ (by rw[c];exact g);rw[c];refine⟨.ref s.heap.objs.size,_,I.laid (t':=s.toks) (o:= .tup (iY xs lo hi)) (λb t q=>M1 _ q) (Nh _) ?_,rfl,q _ (I.hok.fresh (Nh _))⟩;exact⟨NG (mI xs lo hi) g,_,(r.drop (HT.sIx xs.length 0 lo)).take (HT.sIx xs.length xs.length hi-HT.sIx xs.length 0 lo),Wj _ _⟩
def wg(K:NA):R2:=λx y H Q=>∃a b xs ys,x= .ref a/\y= .ref b/\SqT K H a xs/\SqT K H b ys/\xs≠[]/\xs.length+ys.length<=Nr/\
 (ys=[]->Q (.ref a) H)/\(ys≠[]->∀p,H p=MY->Q (.ref p) (upd H p (.tup (xs++ys))))
theorem ar.nil_iff(r:ar xs us):us=[]↔xs=[]:=by
 cases r with
 |nil=>simp
 |cons _ _=>simp
theorem HQ:OpR X (PR .Add) (wg X.K):=by
 intro d s n H x y v u Q I i j h;obtain⟨a,b,xs,ys,rfl,rfl,ha,k,l,f,q1,q2⟩:=h;cases i;cases j;obtain⟨its,r1,m,_⟩:=I.tuple ha;obtain⟨g,c,p2,_⟩:=I.tuple k;refine HT.cat_tup m p2 (λz=>l (r1.nil_iff.mp z)) (λz=>⟨.ref a,H,I,rfl,q1 (c.nil_iff.mp z)⟩) (λz=>?_) (by rw[←r1.length,←c.length];exact f);refine⟨.ref s.heap.objs.size,_,I.laid (t':=s.toks) (o:= .tup (xs++ys)) (λb p q=>M1 _ q) (Nh _) ?_,rfl,q2 (λw=>z (c.nil_iff.mpr w)) _ (I.hok.fresh (Nh _))⟩;exact⟨by rw[Ny];exact f,_,r1.append c,Wj _ _⟩
noncomputable def ixN(n:Nat)(i:Int):Option Nat:=if 0<=i then(if i<n then on i.toNat else MY)else if -(n:Int)<=i then on (i+n).toNat else MY
def atI{α:Type}(xs:List α)(i:Int):Option α:=(ixN xs.length i).bind λj=>xs[j]?
theorem vi(h:ixN n i=on j):seqIndex? i n=on j/\j<n/\-(n:Int)<=i/\i<n:=by
 unfold ixN at h;by_cases b:0<=i
 ·rw[Nf b]at h
  by_cases a:i<n
  ·rw[Nf a]at h
   have e:i.toNat=j:=NN h;exact⟨by rw[seqIndex_of b a,e],by omega,by omega,a⟩
  ·rw[M8 a]at h;cases h
 ·rw[M8 b]at h
  by_cases a:-(n:Int)<=i
  ·rw[Nf a]at h
   have e:(i+n).toNat=j:=NN h;exact⟨by rw[Wu (by omega) a,e],by omega,a,by omega⟩
  ·rw[M8 a]at h;cases h
theorem vP{α:Type}{xs:List α}{i:Int}{v:α}(h:atI xs i=on v):∃j,seqIndex? i xs.length=on j/\xs[j]?=on v/\j<xs.length/\-(xs.length:Int)<=i/\i<xs.length:=by
 unfold atI at h;cases e:ixN xs.length i with
 |none=>rw[e]at h;cases h
 |some j=>
  rw[e]at h;obtain⟨a,b,c,d⟩:=vi e;exact⟨j,a,h,b,c,d⟩
theorem I0{α:Type}{xs:List α}{j:Nat}{v:α}(h:xs[j]?=on v):atI xs (j:Int)=on v:=by
 have a:j<xs.length:=(Nj.mp h).1;have e:ixN xs.length (j:Int)=on j:=by
  unfold ixN;rw[Nf (by omega),Nf (by omega)];simp
 unfold atI;rw[e];exact h
def qi(b:Expr):Prop:=∀o i,subscripted b M4 o i=operate [o,i] (Wq o i)
def IxR(X:Cx)(r:R2):Prop:=
 ∀(c a:Expr) (b:List (M3×NM)) (s:Ng) (d:St) (H:Hp) (x y:V) (v u:M7) (Q:VK),Inv X b d H s->aF x v->aF y u->r x y H Q->
  subscripted a M4 v u=operate [v,u] (Wq v u)->Nn (NL X.prog X.w) X.A (VT c a v u) (EP X b d Q) X.xe s
def MtR(X:Cx)(c:String)(r:V->List V->Hp->VK->Prop):Prop:=
 ∀(a:List (M3×NM)) (s:Ng) (b:St) (H:Hp) (x:V) (xs:List V) (v:M7) (us:List M7) (Q:VK),Inv X a b H s->aF x v->ar xs us->r x xs H Q->
  Nn (NL X.prog X.w) X.A (Uj (.builtin c) (v::us)) (EP X a b Q) X.xe s
variable{a b:Expr}{ta tb:TE}
theorem IxR.or(h:IxR X r)(h':IxR X r'):IxR X (λx y H Q=>r x y H Q\/r' x y H Q):=by
 intro c d f s g H x y v u Q I i j q hs;rcases q with q|q
 ·exact h c d f s g H x y v u Q I i j q hs
 ·exact h' c d f s g H x y v u Q I i j q hs
theorem fN(d:IxR X r)(ha:PE X a ta)(f:PE X b tb)(hs:qi b):PE X (.Subscript a b pos) (tOp r ta tb):=by
 intro c s g H Q I h;exact Subscript_ (BX ha f I h λv u i x y j k l m q=>d a b c i g j x y v u Q k l m q (hs _ _))
def wf(K:NA):R2:=λx y H Q=>∃p xs i v,x= .ref p/\y= .int i/\SqL K H p xs/\atI xs i=on v/\Q v H
def zP(K:NA):R2:=λx y H Q=>∃p xs i v,x= .ref p/\y= .int i/\SqT K H p xs/\atI xs i=on v/\Q v H
theorem dD:IxR X (wf X.K):=by
 intro g k c s n H x y v u Q I B C h hs;obtain⟨p,xs,i,z,rfl,rfl,F,J,q⟩:=h;cases B;obtain⟨t,rfl⟩:=C;obtain⟨its,r,pl,R⟩:=I.list F;obtain⟨j,f,L,T,N,O⟩:=vP J;obtain⟨w,o,l⟩:=r.get L;have P:=r.length;have hn:=jl;have d:EP X c n Q w s:=⟨z,H,I,l,q⟩;by_cases A:0<=i
 ·have m:i.toNat=j:=by
   rw[seqIndex_of A O]at f;exact NN f
  exact item_listR pl.isList A (by omega) (by rw[m];simpa using o) d hs
 ·have m:(i+(its.toArray.size:Int)).toNat=j:=by
   rw[Wu (by omega) N]at f;rw[Nv,←P];exact NN f
  exact S3 (x:=w) pl.isList.typeIs slot_list_getitem.lookup
   (wpAny_getItem_list_neg (Q:=λr s'=>r=w/\EP X c n Q r s') pl.isList (by omega) (by rw[Nv]<;>omega) (by omega) (by rw[m];simpa using o) ⟨rfl,d⟩) hs
theorem Ko:IxR X (zP X.K):=by
 intro d f c s l H x y v u Q I m n h hs;obtain⟨p,xs,i,z,rfl,rfl,o,A,q⟩:=h;cases m;obtain⟨t,rfl⟩:=n;obtain⟨its,r,pl,L⟩:=I.tuple o;obtain⟨j,B,C,N,O,P⟩:=vP A;obtain⟨w,F,g⟩:=r.get C;have J:=r.length;have hn:=jl;have k:EP X c l Q w s:=⟨z,H,I,g,q⟩;exact S3 (x:=w) pl.typeIs slot_tuple_getitem.lookup
  (getItem_tuple (j:=j) (Q:=λr s'=>r=w/\EP X c l Q r s') pl (by omega) (by omega) (by rw[Nv,←J];exact B) (by simpa using F) ⟨rfl,k⟩) hs
theorem wA(its:List M7)(n j:Nat)(u:M7):OV (·.setIfInBounds j u) {cls:= .type "list",data:= .seq its.toArray n}={cls:= .type "list",data:= .seq (its.set j u).toArray n}:=by
 simp[OV]
theorem Inv.lst{s:Ng}{xs:List V}(I:Inv X pins σ H s)(h:H p=on (.lst xs)):
  ∃(its:List M7) (n:Nat),ar xs its/\s.heap.get? p=on {cls:= .type "list",data:= .seq its.toArray n}/\xs.length<=Nr:=by
 obtain⟨z,its,n,r,e⟩:=I.hok p _ h;exact⟨its,n,r,e,z⟩
theorem Inv.lstUpd{s:Ng}{xs ys:List V}{its its':List M7}(I:Inv X pins σ H s)(h:H p=on (.lst xs))
  (d:s.heap.get? p=on {cls:= .type "list",data:= .seq its.toArray n}) (c:f {cls:= .type "list",data:= .seq its.toArray n}={cls:= .type "list",data:= .seq its'.toArray n'}) (r:ar ys its') (g:ys.length<=Nr) (t:Nat):
  Inv X pins σ (upd H p (.lst ys)) {s with heap:=s.heap.update p f,toks:=t}:=by
 have e:(s.heap.update p f).get? p=on {cls:= .type "list",data:= .seq its'.toArray n'}:=by
  rw[Ql f d (by rw[c]<;>rfl),c]
 refine I.write (x:=p) (e:=p) (by rw[h];trivial) (.inl rfl) (λb u i q=>(UY _ _ (Ne.symm i)).trans q) ⟨_,e⟩ ?_;exact⟨g,its',n',r,e⟩
def EU:V->V->V->Hp->(Hp->Prop)->Prop:=λo i v H Q=>∃p xs k j,o= .ref p/\i= .int k/\H p=on (.lst xs)/\ixN xs.length k=on j/\Q (upd H p (.lst (xs.set j v)))
theorem ft:DZ X EU:=by
 intro c s C H o i v P R u Q I F J L h;obtain⟨p,xs,k,j,rfl,rfl,m,N,q⟩:=h;cases F;obtain⟨t,rfl⟩:=J;obtain⟨its,n,r,f,O⟩:=I.lst m;obtain⟨d,T,w,y⟩:=vi N;have g:=r.length;have hn:=jl;have A:Inv X c C (upd H p (.lst (xs.set j v))) {s with heap:=s.heap.update p (OV (·.setIfInBounds j u))}:=
  I.lstUpd m f (wA its n j u) (r.set L j) (by rw[N7];exact O) s.toks
 by_cases B:0<=k
 ·have l:k.toNat=j:=by
   rw[seqIndex_of B y]at d;exact NN d
  exact PySem.W.ki_setAt f B (by omega) (by rw[Nv,←g];exact y) (by rw[l];exact⟨_,A,q⟩)
 ·have l:(k+(its.toArray.size:Int)).toNat=j:=by
   rw[Wu (by omega) w]at d;rw[Nv,←g];exact NN d
  exact PySem.W.ki_setBack f (by omega) (by rw[Nv,←g];exact w) (by omega) (by rw[l];exact⟨_,A,q⟩)
theorem sE(lo hi:Option Int)(n:Nat):(QL lo hi MY n).1=((HT.sIx n 0 lo:Nat):Int)/\(QL lo hi MY n).2.1=((HT.sIx n n hi:Nat):Int)/\(QL lo hi MY n).2.2=1:=by
 refine⟨?_,?_,rfl⟩
 ·cases lo with
  |none=>simp[QL,HT.sIx]
  |some i=>
   simp only[QL,HT.sIx,V3,show(1:Int)>0 by decide,N4];by_cases h:i<0
   ·simp only[h,N4]<;>omega
   ·simp only[h,N3]<;>omega
 ·cases hi with
  |none=>simp[QL,HT.sIx]
  |some i=>
   simp only[QL,HT.sIx,V3,show(1:Int)>0 by decide,N4];by_cases h:i<0
   ·simp only[h,N4]<;>omega
   ·simp only[h,N3]<;>omega
theorem q9(its:List M7)(lo hi:Option Int):Wf its.toArray lo hi MY=((its.drop (HT.sIx its.length 0 lo)).take (HT.sIx its.length its.length hi-HT.sIx its.length 0 lo)).toArray:=by
 obtain⟨c,d,f⟩:=sE lo hi its.toArray.size;unfold Wf;rw[c,d,f];simp only[sliceRange_one,pick_run,Nv]<;>rfl
def rSlL(K:NA):V->Option Int->Option Int->Hp->VK->Prop:=λx lo hi H Q=>∃a xs,x= .ref a/\SqL K H a xs/\∀p,H p=MY->Q (.ref p) (upd H p (.lst (iY xs lo hi)))
theorem uO:SlR X (rSlL X.K):=by
 intro d s l H x v m n lo hi sl Q I g hs pl i h;obtain⟨a,xs,rfl,j,q⟩:=h;cases g;obtain⟨its,r,f,k⟩:=I.list j;have c:=r.length;refine⟨"list",_,slot_list_getitem.lookup,f.isList.typeIs,?_⟩;refine VU f.isList hs pl i .none (by simp) ?_ (by rw[Nv]<;>omega)
 rw[q9,←c];refine⟨.ref s.heap.objs.size,_,I.laid (t':=s.toks) (o:= .lst (iY xs lo hi)) (λb p q=>M1 _ q) (Nh _) ?_,rfl,q _ (I.hok.fresh (Nh _))⟩;exact⟨NG (mI xs lo hi) k,_,0,(r.drop (HT.sIx xs.length 0 lo)).take (HT.sIx xs.length xs.length hi-HT.sIx xs.length 0 lo),Nu _ rfl⟩
noncomputable def fR:V->Bool
 | .non=>M2
 | .bl _=>M2
 | .int _=>M2
 | .str _=>M2
 |_=>M4
noncomputable def eqV:V->V->Bool
 | .non,.non=>M2
 | .bl a,.bl b=>a==b
 | .bl a,.int b=>(if a then 1 else 0)==b
 | .int a,.bl b=>a==(if b then 1 else 0)
 | .int a,.int b=>a==b
 | .str a,.str b=>a==b
 |_,_=>M4
theorem KF(d:aF y u)(c:aF x v)(g:fR y=M2)(f:fR x=M2):SeqAt.EqAt A s u v (eqV y x):=by
 cases y with
 |non=>
  cases d;cases x with
  |non=>cases c;exact SeqAt.EqAt.same _
  |bl b=>cases c;exact SeqAt.EqAt.none_bool b
  |int b=>obtain⟨t,rfl⟩:=c;exact SeqAt.EqAt.none_int b t
  |str b=>obtain⟨t,rfl⟩:=c;exact SeqAt.EqAt.none_str b t
  |_=>exact NE (show M4=M2 from f) Ni
 |bl a=>
  cases d;cases x with
  |non=>cases c;exact SeqAt.EqAt.bool_none a
  |bl b=>cases c;exact SeqAt.EqAt.bool_bool a b
  |int b=>obtain⟨t,rfl⟩:=c;exact SeqAt.EqAt.bool_int a b t
  |str b=>obtain⟨t,rfl⟩:=c;exact SeqAt.EqAt.bool_str a b t
  |_=>exact NE (show M4=M2 from f) Ni
 |int a=>
  obtain⟨t',rfl⟩:=d;cases x with
  |non=>cases c;exact SeqAt.EqAt.int_none a t'
  |bl b=>cases c;exact SeqAt.EqAt.int_bool a t' b
  |int b=>obtain⟨t,rfl⟩:=c;exact SeqAt.EqAt.int_int a t' b t
  |str b=>obtain⟨t,rfl⟩:=c;exact SeqAt.EqAt.int_str a t' b t
  |_=>exact NE (show M4=M2 from f) Ni
 |str a=>
  obtain⟨t',rfl⟩:=d;cases x with
  |non=>cases c;exact SeqAt.EqAt.str_none a t'
  |bl b=>cases c;exact SeqAt.EqAt.str_bool a t' b
  |int b=>obtain⟨t,rfl⟩:=c;exact SeqAt.EqAt.str_int a t' b t
  |str b=>obtain⟨t,rfl⟩:=c;exact SeqAt.EqAt.str_str a t' b t
  |_=>exact NE (show M4=M2 from f) Ni
 |_=>exact NE (show M4=M2 from g) Ni
def eqU(x:V)(u:M7):Bool:=match u with
 | .none=>eqV .non x
 | .bool b=>eqV (.bl b) x
 | .int i _=>eqV (.int i) x
 | .str z _=>eqV (.str z) x
 |_=>M4
theorem yX(r:aF y u)(f:fR y=M2):eqU x u=eqV y x:=by
 cases y with
 |non=>cases r;rfl
 |bl b=>cases r;rfl
 |int i=>obtain⟨t,rfl⟩:=r;rfl
 |str z=>obtain⟨t,rfl⟩:=r;rfl
 |_=>exact NE (show M4=M2 from f) Ni
theorem jw:∀{xs:List V} {us:List M7},ar xs us->xs.all fR=M2->us.any (eqU x)=xs.any λy=>eqV y x
 |_,_,.nil,_=>rfl
 |y::xs,u::us,.cons r t,f=>by
  rw[Sg,NO]at f;rw[Ri,Ri,yX r f.1,jw t f.2]
theorem ic(c:aF x v)(d:fR x=M2):∀{xs:List V} {us:List M7},ar xs us->xs.all fR=M2->∀u∈us,SeqAt.EqAt A s u v (eqU x u)
 |_,_,.nil,_=>λu hu=>by cases hu
 |y::xs,u::us,.cons r t,f=>λg hu=>by
  rw[Sg,NO]at f;rcases Nq.mp hu with rfl|hu
  ·rw[yX r f.1];exact KF r c f.1 d
  ·exact ic c d t f.2 g hu
def inV(x:V)(xs:List V):Bool:=xs.any λy=>eqV y x
def rIn(K:NA)(neg:Bool):R2:=λx y H Q=>∃p xs,y= .ref p/\(SqL K H p xs\/SqT K H p xs)/\fR x=M2/\xs.all fR=M2/\Q (.bl (if neg then !inV x xs else inV x xs)) H
theorem yi:OpR X (Ou .In) (rIn X.K M4):=by
 intro d s k H x y v u Q I f i h;obtain⟨p,xs,rfl,hq,g,fs,q⟩:=h;cases i;rcases hq with hq|hq
 ·obtain⟨its,r,pl,j⟩:=I.list hq
  refine SeqAt.in_listAt (eqU x) pl.isList (λw c=>ic f g r fs w (by simpa using c)) ⟨.bl _,H,I,rfl,?_⟩;rw[show its.toArray.any (eqU x)=its.any (eqU x) by simp,jw r fs];exact q
 ·obtain⟨its,r,pl,j⟩:=I.tuple hq
  refine SeqAt.in_tupleAt (eqU x) pl (λw c=>ic f g r fs w (by simpa using c)) ⟨.bl _,H,I,rfl,?_⟩;rw[show its.toArray.any (eqU x)=its.any (eqU x) by simp,jw r fs];exact q
theorem kP:OpR X (Ou .NotIn) (rIn X.K M2):=by
 intro d s k H x y v u Q I f i h;obtain⟨p,xs,rfl,hq,g,fs,q⟩:=h;cases i;rcases hq with hq|hq
 ·obtain⟨its,r,pl,j⟩:=I.list hq
  refine SeqAt.notIn_listAt (eqU x) pl.isList (λw c=>ic f g r fs w (by simpa using c)) ⟨.bl _,H,I,rfl,?_⟩;rw[show its.toArray.any (eqU x)=its.any (eqU x) by simp,jw r fs];exact q
 ·obtain⟨its,r,pl,j⟩:=I.tuple hq
  refine SeqAt.notIn_tupleAt (eqU x) pl (λw c=>ic f g r fs w (by simpa using c)) ⟨.bl _,H,I,rfl,?_⟩;rw[show its.toArray.any (eqU x)=its.any (eqU x) by simp,jw r fs];exact q
theorem li:cK X (.builtin "len") (λxs H Q=>∃p ys,xs=[.ref p]/\(SqL X.K H p ys\/SqT X.K H p ys)/\Q (.int ys.length) H):=by
 intro f s j H xs us Q I r h;obtain⟨p,ys,rfl,hq,q⟩:=h;obtain⟨u,rfl,g⟩:=im r;cases g;have hn:=jl;rcases hq with hq|hq
 ·obtain⟨its,d,pl,i⟩:=I.list hq
  have c:=d.length;exact Calls.call_len_list pl.isList (by simp only[Nv]<;>omega) ⟨.int ys.length,H,I.tok _,⟨s.toks+1,by rw[Nv,c]⟩,q⟩
 ·obtain⟨its,d,pl,i⟩:=I.tuple hq
  have c:=d.length;exact len_tuple pl (by simp only[Nv]<;>omega) ⟨.int ys.length,H,I.tok _,⟨s.toks+1,by rw[Nv,c]⟩,q⟩
theorem fc:cK X (.type "list") (λxs H Q=>∃p ys,xs=[.ref p]/\(SqL X.K H p ys\/SqT X.K H p ys)/\∀l,H l=MY->Q (.ref l) (upd H l (.lst ys))):=by
 intro f s v H xs us Q I r h;obtain⟨p,ys,rfl,hq,q⟩:=h;obtain⟨u,rfl,y⟩:=im r;cases y
 have g:∀(its:List M7),ar ys its->ys.length<=Nr->∀(h':Ox) (c:Nat),(∀b t,s.heap.get? b=on t->h'.get? b=on t)->
   h'.get? s.heap.objs.size=on {cls:= .type "list",dict:=MY,data:= .seq its.toArray c,slots:=#[]}->EP X f v Q (.ref s.heap.objs.size) {s with heap:=h'}:=λits d i h' c kp e=>
  ⟨.ref s.heap.objs.size,_,I.laid (t':=s.toks) kp (Nh _) (show br X.prog X.w _ h' _ (.lst ys)from⟨i,its,c,d,e⟩),rfl,q _ (I.hok.fresh (Nh _))⟩
 rcases hq with hq|hq
 ·obtain⟨its,d,pl,i⟩:=I.list hq
  have j:=d.length;obtain⟨o,k,m,n,hd⟩:=pl.isList;exact call_list_seq p (.inl rfl) k m hd (λh' c kp e=>g its d i h' c kp e) (by simp only[Nv]<;>omega)
 ·obtain⟨its,d,pl,i⟩:=I.tuple hq
  have j:=d.length;obtain⟨o,k,m,n,hd⟩:=pl;exact call_list_seq p (.inr rfl) k m hd (λh' c kp e=>g its d i h' c kp e) (by simp only[Nv]<;>omega)
theorem cj:cK X (.type "tuple") (λxs H Q=>∃p ys,xs=[.ref p]/\((SqL X.K H p ys/\∀l,H l=MY->Q (.ref l) (upd H l (.tup ys)))\/(SqT X.K H p ys/\Q (.ref p) H))):=by
 intro c s g H xs us Q I r h;obtain⟨p,ys,rfl,h⟩:=h;obtain⟨u,rfl,m⟩:=im r;cases m;rcases h with⟨d,q⟩|⟨d,q⟩
 ·obtain⟨its,f,pl,i⟩:=I.list d
  have j:=f.length;refine call_tuple_list pl.isList (λh' kp=>?_) (by simp only[Nv]<;>omega)
  have k:Inv X c g H {s with heap:=h'}:=I.kept (t':=s.toks) kp;have n:Inv X c g (upd H h'.objs.size (.tup ys)) {s with heap:=h'.push {cls:= .type "tuple",data:= .seq its.toArray}}:=
   k.laid (t':=s.toks) (λb o e=>M1 _ e) (Nh _) (show br X.prog X.w _ _ _ (.tup ys)from⟨i,its,f,Wj _ _⟩)
  exact⟨.ref h'.objs.size,_,n,rfl,q _ (k.hok.fresh (Nh _))⟩
 ·obtain⟨its,f,pl,i⟩:=I.tuple d
  exact call_tuple_same pl ⟨.ref p,H,I,rfl,q⟩
def tyV(K:NA)(T:String)(x:V)(H:Hp):Prop:=match x with
 | .str _=>T="str"
 | .int _=>T="int"
 | .ref p=>(T="list"/\∃xs,SqL K H p xs)\/(T="tuple"/\∃o,K.lookup p=on o/\o.cls= .type "tuple"/\o.dict=MY)
 |_=>False
theorem Je{s:Ng}(I:Inv X pins σ H s)(r:aF x v)(ty:tyV X.K T x H):
  s.TypeIs v T/\∀a,v= .ref a->∃d,s.heap.get? a=on d/\d.dict=MY:=by
 cases x with
 |str z=>
  obtain⟨t,rfl⟩:=r;cases(show T="str"from ty);exact⟨typeIs_str s z t,λ_ e=>nomatch e⟩
 |int i=>
  obtain⟨t,rfl⟩:=r;cases(show T="int"from ty);exact⟨typeIs_int s i t,λ_ e=>nomatch e⟩
 |ref p=>
  cases r;rcases ty with⟨rfl,xs,g⟩|⟨rfl,o,f,h,hd⟩
  ·obtain⟨its,_,pl,_⟩:=I.list g
   refine⟨pl.isList.typeIs,λa e=>?_⟩;cases e;obtain⟨o,n,e,c,hd,_⟩:=pl;exact⟨o,e,hd⟩
  ·refine⟨⟨o,I.kIn p o f,h⟩,λa e=>?_⟩
   cases e;exact⟨o,I.kIn _ o f,hd⟩
 |_=>exact PD ty
def tBM(K:NA)(T:String)(r:V->List V->Hp->VK->Prop)(to:TE)(t:TA):TE:=λc H Q=>to c H λx d=>tyV K T x d/\t c d λxs f=>r x xs f Q
variable{o:Expr}{es:List Expr}{to:TE}{t:TA}{name:NY}{apos cpos:RN}{T id:String}{r:V->List V->Hp->VK->Prop}
theorem rF(n:PlainAttrs T)(slot:Slot T name id)(j:typeOf (.builtin id)=Pn (.type "method_descriptor"))(hm:MtR X id r)(p:PE X o to)(ha:PA X (e::es) t)
  (f:Q4 o name X.env (Op o X.env)=Op o X.env:=by rfl)
  (i:((Ps cpos (No (e::es) X.env)).all (λx=>!x.1)&&(Qp cpos (Pf [] X.env)).all (λx=>x.1.isSome)
   &&decide ((e::es).length+([]:List Tx).length+(if([]:List Tx).isEmpty then 0 else 1)<30))=M2:=by rfl)
  (g:(apos.endLine==cpos.line)=M2:=by rfl) (hs:No (e::es) X.env=(M4,Op e X.env)::No es X.env:=by rfl) (d:(Ps cpos (No es X.env)).any (·.1)=M4:=by rfl):
  PE X (.Call (.Attribute o name apos) (e::es) [] cpos) (tBM X.K T r to t):=by
 intro c s k H Q I h;refine Wv f i g rfl (thn (p c s k H _ I h) λv q ⟨x,u,l,r1,ty,q1⟩=>?_);obtain⟨w,y⟩:=Je l r1 ty;refine⟨T,id,n,slot,j,w,y,?_⟩;have m:=ha cpos c q k u _ l q1;rw[hs]at m⊢;refine SB (by show(M4||(Ps cpos (No es X.env)).any (·.1))=M4;rw[d]<;>rfl) (U6 ?_)
 exact thn m λus A ⟨vs,B,C,F,q2⟩=>hm c A k B x vs v us Q C r1 F q2
def MtM(X:Cx)(id:String)(r:V->List V->Hp->VK->Prop):Prop:=
 ∀(c:List (M3×NM)) (s:Ng) (d:St) (H:Hp) (x:V) (xs:List V) (v:M7) (us:List M7) (Q:VK),Inv X c d H s->aF x v->ar xs us->r x xs H Q->
  Nn (NL X.prog X.w) X.A (Uj (.builtin id) (v::us)) (EP X c d Q) X.xe s
theorem ar.one:∀{x:V} {us:List M7},ar [x] us->∃u,us=[u]/\aF x u
 |_,_,.cons r .nil=>⟨_,rfl,r⟩
theorem ar.reverse{xs:List V}{us:List M7}(h:ar xs us):ar xs.reverse us.reverse:=by
 induction h with
 |nil=>exact .nil
 |cons r t ih=>rw[R9,R9];exact ar.append ih (.cons r .nil)
theorem ar.rep(h:ar xs us):∀k:Nat,ar (Nx k xs).flatten (Nx k us).flatten
 |0=> .nil
 |k+1=>by
  rw[NX,NX,PU,PU];exact ar.append h (ar.rep h k)
theorem qL(its:List M7):∀(k:Nat) (acc:List M7),
  VZ (λc d=>c++d) acc.toArray (Nx k its.toArray)=(acc++(Nx k its).flatten).toArray
 |0,acc=>by simp
 |k+1,acc=>by
  have e:acc.toArray++its.toArray=(acc++its).toArray:=by simp
  have f:(acc++its)++(Nx k its).flatten=acc++(Nx (k+1) its).flatten:=by
   rw[NX,PU,Oy]
  rw[←f,←qL its k (acc++its),←e,NX,List.foldl_cons]
end
section
variable{X:Cx}{pins:List (M3×NM)}{σ:St}{H:Hp}{s:Ng}{l b:M3}{xs ys zs:List V}
theorem Inv.lset{its its':List M7}(I:Inv X pins σ H s)(a:H l=on (.lst xs))
  (e:s.heap.get? l=on {cls:= .type "list",data:= .seq its.toArray n}) (c:f its.toArray=its'.toArray) (d:ar ys its') (g:ys.length<=Nr):
  Inv X pins σ (upd H l (.lst ys)) {s with heap:=s.heap.update l (OV f),toks:=t'}:=by
 have q:=PySem.IsL.update e f;rw[c]at q;refine I.write (x:=l) (e:=l) (by rw[a];exact trivial) (.inl rfl) (λj u h i=>(UY s.heap (OV f) (Ne.symm h)).trans i) ⟨_,q⟩ ?_;exact⟨g,its',_,d,q⟩
theorem Inv.lnew{its:List M7}(I:Inv X pins σ H s)(a:ar ys its)(c:ys.length<=Nr):
  Inv X pins σ (upd H s.heap.objs.size (.lst ys)) {s with heap:=s.heap.push {cls:= .type "list",data:= .seq its.toArray},toks:=t'}:=
 I.laid (λ_ _ q=>M1 _ q) (Nh _) ⟨c,its,0,a,Nu _ rfl⟩
theorem Inv.fresh(I:Inv X pins σ H s):H s.heap.objs.size=MY:=I.hok.fresh (Nh _)
theorem Inv.lstM(I:Inv X pins σ H s)(a:H l=on (.lst xs)):xs.length<=Nr/\∃(its:List M7) (n:Nat),ar xs its/\xs.length=its.length/\s.heap.get? l=on {cls:= .type "list",data:= .seq its.toArray n}:=by
 obtain⟨z,its,n,r,e⟩:=I.hok l _ a;exact⟨z,its,n,r,r.length,e⟩
theorem AC(h:n<=Nr):Rx n=M4:=by
 unfold Rx;exact N8 (by omega)
def uV:V->List V->Hp->VK->Prop:=λx vs H Q=>∃l xs y,x= .ref l/\vs=[y]/\H l=on (.lst xs)/\xs.length<Nr/\Q .non (upd H l (.lst (xs++[y])))
theorem iE:MtM X "list.append" uV:=by
 intro pins s σ H x vs v us Q I c d h;obtain⟨l,xs,y,rfl,rfl,a,g,q⟩:=h;cases c;obtain⟨u,rfl,f⟩:=d.one;obtain⟨z,its,n,r,i,e⟩:=I.lstM a;refine Vd F.slot_list_append ⟨_,e,rfl⟩ F.entry_list_append (Wg _ _) (V8 l its.toArray n u (by rw[Nv];omega)) ⟨e,?_⟩;refine⟨.non,_,I.lset (its':=its++[u]) a e (by simp) (r.append (.cons f .nil)) ?_,rfl,q⟩;rw[Ny,Og];omega
noncomputable def rCat:R2:=λx y H Q=>∃l b xs zs,x= .ref l/\y= .ref b/\H l=on (.lst xs)/\H b=on (.lst zs)/\xs.length+zs.length<=Nr/\∀p,H p=MY->Q (.ref p) (upd H p (.lst (xs++zs)))
theorem J3:OpR X (PR .Add) rCat:=by
 intro pins s σ H x y v u Q I c d h;obtain⟨l,b,xs,zs,rfl,rfl,f,hB,m,q⟩:=h;cases c;cases d;obtain⟨z,its,n,r,o,e⟩:=I.lstM f;obtain⟨p,a,t,g,i,j⟩:=I.lstM hB;refine VL e j ?_ (by rw[Nv,Nv];omega);have k:its.toArray++a.toArray=(its++a).toArray:=by simp
 rw[k];exact⟨.ref _,_,I.lnew (t':=s.toks) (r.append g) (by rw[Ny];omega),rfl,q _ I.fresh⟩
noncomputable def rRep:R2:=λx y H Q=>∃l k xs,x= .ref l/\y= .int k/\H l=on (.lst xs)/\-(2^63)<=k/\k<2^63/\xs.length*k.toNat<=Nr/\
 ∀p,H p=MY->Q (.ref p) (upd H p (.lst (Nx k.toNat xs).flatten))
theorem IC{α:Type}(xs:List α)(k:Nat):(Nx k xs).flatten.length=k*xs.length:=by
 induction k with
 |zero=>simp
 |succ k ih=>rw[NX,PU,Ny,ih,Nat.succ_mul,U7]
theorem JY:OpR X (PR .Mult) rRep:=by
 intro pins s σ H x y v u Q I w A h;obtain⟨l,k,xs,rfl,rfl,B,C,J,p,q⟩:=h;cases w;obtain⟨t,rfl⟩:=A;obtain⟨z,its,n,r,L,e⟩:=I.lstM B;have d:its.toArray.size*k.toNat<=Nr:=by rw[Nv,←L];exact p
 have f:¬its.toArray.size*k.toNat>(2^63-1)/8:=by
  have:(Nr:Nat)<=(2^63-1)/8:=by decide
  omega
 have g:¬(!Builtin.List.listFitsIndex k)=M2:=by
  rw[fitsIndex_both C J];exact Ni
 have c:¬Rx (its.toArray.size*k.toNat)=M2:=by
  rw[AC d];exact Ni
 have i:VZ (λj o=>j++o) #[] (Nx (if its.toArray.isEmpty=M2 then 0 else k.toNat) its.toArray)=(Nx k.toNat its).flatten.toArray:=by
  have N:∀m:Nat,VZ (λj o=>j++o) #[] (Nx m its.toArray)=(Nx m its).flatten.toArray:=λm=>by
   have:=qL its m [];rw[OF]at this;exact this
  rw[N];cases its with
  |nil=>simp
  |cons a O=>rw[M8 (by simp)]
 refine wpAny_binaryOp_repeat_ref (T:="list") (U:="int") (by decide) ⟨_,e,rfl⟩ (λs'=>typeIs_int s' k t) noFill_list_mul F.fills_int_mul F.slot_int_rmul repeat_list F.slot_int_index.lookup
  (Vd F.slot_int_rmul (typeIs_int s k t) F.entry_int_rmul (F.args_int_rmul_2 _ _) (int___rmul___int_list k t l its.toArray n)
   ⟨e,rfl,⟨_,e,rfl⟩,Vd F.slot_list_mul ⟨_,e,rfl⟩ F.entry_list_mul (F.args_list_mul_2 _ _) (AutoListH.list___mul___list_int_3 l its.toArray n k t g f c) ⟨e,?_⟩⟩)
 rw[i];exact⟨.ref _,_,I.lnew (t':=s.toks) (r.rep k.toNat) (by rw[IC,PY];exact p),rfl,q _ I.fresh⟩
variable{prog:NQ}{w:N0}{A:Oj}{E:M7->Ng->Prop}
end
end L2
namespace Att
open PySem PySem.W PySem.Calls PyProof.Rows
theorem oS:∀(ns:List Int) (vs:List M7),WellAll P h vs (ns.map WData.int)->UZ vs ns:=by
 intro ns
 induction ns with
 |nil=>
  intro vs w;rw[OZ]at w;cases w;exact .nil
 |cons n ns ih=>
  intro vs w;rw[Nl]at w;cases w with
  |cons a b=>
   cases a;exact .cons _ _ (ih _ b)
theorem xO{l:OpenLaw}(hn:l.most=on n){h:Ox}
  (b:l.row.toRowW.claim.pre args=M2) (g:WellAll P h vals args):
  ∃a vs ns,vals=[NC a]/\args=[WData.list (ns.map WData.int)]/\h.get? a=on {cls:= .type "list",data:= .seq vs.toArray}/\UZ vs ns/\ns.length<=n:=by
 have hsh:WShape.hasAll [] args [.list .int]=M2:=(pre_splitW b).1;have i:l.pre.holds [] {args:=args}=M2:=(pre_splitW b).2;obtain⟨d,r,rfl,j,k⟩:=hasAllW_cons hsh;obtain rfl:=hasAllW_nil k;obtain⟨xs,rfl,m⟩:=hasW_list j;obtain⟨ns,rfl⟩:=items_int m;have c:ns.length<=n:=by
  unfold OpenLaw.pre at i;have e:(WTm.not (.lt (.lit (.int (n:Int))) (.len (.arg 0)))).holds [] {args:=[.list (ns.map .int)]}=M2:=by
   have e:=(holds_andW i).1;rw[hn]at e;exact e
  have f:=condW_of e (w_not (w_lt w_lit (w_len_list (w_arg rfl))));rw[MZ]at f;refine Nat.le_of_not_lt λq=>?_;have o:(n:Int)<((ns.length:Nat):Int):=by omega
  first
   |(rw[NF o]at f;exact NE f (by decide))
   |(simp at f;omega)
 cases g with
 |cons p t=>
  cases t;cases p with
  |list ho hall=>exact⟨_,_,ns,rfl,rfl,ho,oS ns _ hall,c⟩
theorem yb(l:OpenLaw)(args:List WData):l.row.toRowW.claim.post args (.bool M2) args=M2:=
 postW_of (r:=l.row.toRowW) (X:=(M2==M2))
  (show WShape.has [] (.bool M2) .bool=M2 by first|rfl|decide|simp[WShape.has,WShape.arms,WShape.armsAll])
  (show(WTm.eq .res (.lit (.bool M2))).value [] {args:=args,res:=on (.bool M2),after:=args}=on (.bool (M2==M2))from w_eq_bool (w_res rfl) w_lit) rfl
theorem attach_call{l:OpenLaw}{d:DefRec}
  (hn:l.most=on n) (k:d.params.defaults=[])
  (Uj:∀(w:N0) (s₀ b:Ng) (mg m:NY->Option M7) (g:M3) (o:NM) (p cd c:M7) (a:M3) (vs:List M7) (ns:List Int),
   Ground q loose [] XP w s₀ mg m b.heap->YP w b.heap->
   b.heap.get? g=on o->o.data= .func (docDef d.name d.params d.body d.scope p cd c)->b.heap.CodeRec cd d.name->mg d.name=on (.ref g)->
   b.heap.get? a=on {cls:= .type "list",data:= .seq vs.toArray}->UZ vs ns->ns.length<=n->b.gens=#[]->
   Q6 (NL l.prog w) Uk (.call (.ref g) ⟨[.ref a],[]⟩) (λr s'=>r= .ok (.ret (.bool M2))/\OldK b.heap s'.heap/\s'.os=b.os/\R6 s'.gens) b):
  WalkO q loose XP YP l.row.toRowW d [] (λf vs=>VQ f vs):=by
 intro w s₀ b mg m G Y g o p cd c B C F hd t y u H args vals as h A I v J;obtain rfl:B= .none:=Dflts.none y k;obtain rfl:C= .none:=Dflts.noKw y;obtain⟨a,vs,ns,rfl,rfl,i,e,j⟩:=xO hn h v;refine enter_call (Sc (Uj w s₀ b mg m g o p cd c a vs ns G Y F (fd_plain hd) t u i e j H) λr s' L=>?_);obtain⟨rfl,N,O,P⟩:=L;exact⟨.inl ⟨.bool M2,.bool M2,[],rfl,λ_=>rfl,.bool M2,yb l _,λ_=>⟨SK,λ_ hm=>(nomatch hm)⟩⟩,N,O,P⟩
section
variable{prog:NQ}{w:N0}{A:Oj}{E:M7->Ng->Prop}{s:Ng}{K:NA}
end
end Att
namespace L2
open PySem PySem.Spec PyProof.Rows
theorem qm:∀{vs:List M7} {ns:List Int},UZ vs ns->ar (ns.map V.int) vs
 |_,_,.nil=> .nil
 |_,_,.cons n t h=> .cons ⟨t,rfl⟩ (qm h)
def EA(H:Hp):Prop:=∀b,H b=MY\/∃o xs,H b=on (.frz o (.lst xs))
theorem AW{K:NA}{c:Ng}{vs:List M7}{ns:List Int}
  (R:K.In c.heap) (p:c.heap.Ns Pg mg) (g:c.heap.Ns Vc mb) (I:∀x:NY,x≠"__name__"->mb x=QX x) (t:c.heap.NoLimit) (hg:c.gens=#[])
  (ha:c.heap.get? a=on {cls:= .type "list",data:= .seq vs.toArray}) (T:UZ vs ns) (U:ns.length<=Nr) (hr:Room k Uk)
  (F:∀base:Ox,K.In base->base.Ns Pg mg->FnOk P w K mg base CX k fa fd [x] sp) (l:∀(s:Ng) (u:M7),Tu s fd ⟨[u],[]⟩ [(x,u)])
  (J:∀H:Hp,EA H->SqL K H a (ns.map V.int)->sp [.ref a] H (λv _=>v= .bl M2) λ_ _ _=>False)
  (L:∀H e s',CX [] H c (λ_ _ _=>False) e s'->False):
  Q6 (NL P w) Uk (.call (.ref fa) ⟨[.ref a],[]⟩) (λr s'=>r= .ok (.ret (.bool M2))/\OldK c.heap s'.heap/\s'.os=c.os/\R6 s'.gens) c:=by
 have W:=qm T;have y:=T.length
 --from an abstract heap in which nothing but the script may be tracked
 have j:∀H:Hp,EA H->SqL K H a (ns.map V.int)->HOk P w H c.heap->(∀b,H b≠MY->b=a)->(H a≠MY->K.lookup a=MY)->
   Q6 (NL P w) Uk (.call (.ref fa) ⟨[.ref a],[]⟩) (λr s'=>r= .ok (.ret (.bool M2))/\OldK c.heap s'.heap/\s'.os=c.os/\R6 s'.gens) c:=by
  intro H X hS hok Y hK;have f:∀{b:M3} {o:NM},c.heap.get? b=on o->H b=MY->(jT c.heap H).get? b=on o:=λe n=>BI e n;have N:∀{b:M3} {o:NM} {es:Array QV} {ep:Nat},c.heap.get? b=on o->o.data= .dict es ep->H b=MY:=λ{b o es ep} e d=>by
   cases q:H b with
   |none=>rfl
   |some u=>
    have O:b=a:=Y b (by rw[q];simp);subst O;rw[ha]at e;cases e;have d':Data.seq vs.toArray _=Data.dict es ep:=d;cases d'
  have i:∀{b:M3} {m:NY->Option M7},c.heap.Ns b m->(jT c.heap H).Ns b m:=λ{b m} ⟨o,es,ep,e,d,r⟩=>⟨o,es,ep,f e (N e d),d,r⟩;have A:K.In (jT c.heap H):=λb o e=>f (R b o e) (by
   cases q:H b with
   |none=>rfl
   |some u=>
    have O:b=a:=Y b (by rw[q];simp);subst O;rw[hK (by rw[q];simp)]at e;cases e)
  have hM:Mod K mg (jT c.heap H):=⟨A,i p,⟨mb,i g,I⟩,let ⟨mc,h1,h2⟩:=t;⟨mc,i h1,h2⟩⟩
  have e0:Env0 P w K mg (jT c.heap H) Uk [] c H:=⟨rfl,hM,λb o e=>HV e,Nat.le_of_eq (yQ _ _),trivial,λb g=>NE (show b∈([]:List M3)from g) (by simp),hok,.of_eq hg⟩;refine Sc ((F _ A (i p)).run Uk [] c H ⟨[.ref a],[]⟩ [.ref a] [.ref a] _ _ hr e0 (l c (.ref a)) (.cons rfl .nil) (J H X hS)) λr s' h=>?_;cases r with
  |error e=>exact(L H e s' h).elim
  |ok fl=>
   cases fl with
   |next=>exact PD h
   |brk=>exact PD h
   |cont=>exact PD h
   |ret u=>
    obtain⟨v,H',os,bare,un,B,r',q⟩:=h;have q':v= .bl M2:=q;subst q';obtain rfl:u=Tc M2:=r';refine⟨rfl,OldK.of_keep λb o e=>?_,os,bare⟩;cases q:H b with
    |none=>exact un.keep b o e q (by intro z;exact NE (show b∈([]:List M3)from z) (by simp)) (by simp)
    |some u=>
     rcases X b with z|⟨ob,xs,z⟩
     ·rw[q]at z;cases z
     ·have z2:=un.frzs b ob _ z
      obtain⟨Z,_⟩:=hok b _ z;obtain⟨e2,_⟩:=B b _ z2;rw[e]at Z;cases Z;exact e2
 cases Q:K.lookup a with
 |some o=>
  --the script is one of the module's own objects
  have e:=R a o Q;rw[ha]at e;cases e;refine j (λ_=>MY) (λ_=> .inl rfl) (.inr ⟨_,vs.toArray,_,Q,rfl,rfl,rfl,by rw[Nv,y];exact U,by simpa using W⟩) (λb u z=>by have C:(MY:Option HO)=on u:=z;cases C) (λb z=>NE rfl z) λz=>NE rfl z
 |none=>
  refine j (λb=>if b=a then on (.frz {cls:= .type "list",data:= .seq vs.toArray} (.lst (ns.map V.int)))else MY) (λb=>?_) (.inl (.inr ⟨{cls:= .type "list",data:= .seq vs.toArray},Nf rfl⟩)) (λb u z=>?_) (λb z=>?_) λ_=>Q
  ·by_cases g:b=a
   ·exact .inr ⟨_,_,Nf g⟩
   ·exact .inl (M8 g)
  ·by_cases g:b=a
   ·have C:=(Nf g).symm.trans z
    cases C;subst g;exact⟨ha,by rw[MZ];exact U,vs,_,W,ha⟩
   ·have C:=(M8 g).symm.trans z
    cases C
  ·by_cases g:b=a
   ·exact g
   ·exact NE (M8 g) z
theorem walk_of{l:PySem.W.OpenLaw}{n k:Nat}{q:NQ}{loose:List NY}{XP:(NY->Option M7)->Ox->Prop}{YP:N0->Ox->Prop}{d:DefRec}{K:UB->NA}{CX:N0->CXT}{sp:N0->Sp}{x:NY}
  (hn:l.most=on n) (r:n<=Nr) (t:d.params.defaults=[]) (J:Room k Uk)
  (L:∀(w:N0) (h:Ox),YP w h->(K w.params).In h)
  (F:∀(w:N0) (mg:NY->Option M7) (p:M3) (h:Ox),(K w.params).In h->h.Ns Pg mg->mg d.name=on (.ref p)->
   ∃B:NK,(∀(s:Ng) (u:M7),Tu s B ⟨[u],[]⟩ [(x,u)])/\
    ∀base:Ox,(K w.params).In base->base.Ns Pg mg->FnOk l.prog w (K w.params) mg base (CX w) k p B [x] (sp w))
  (y:∀(w:N0) (H:Hp) (a:M3) (ns:List Int),ns.length<=n->EA H->SqL (K w.params) H a (ns.map V.int)->sp w [.ref a] H (λv _=>v= .bl M2) λ_ _ _=>False)
  (A:∀(w:N0) (H:Hp) (s:Ng) (e:M7) (s':Ng),CX w [] H s (λ_ _ _=>False) e s'->False):
  PySem.W.WalkO q loose XP YP l.row.toRowW d [] (λf vs=>VQ f vs):=by
 refine Att.attach_call hn t λw s₀ j mg X p o Z cd N a vs ns G Y ho hd O C m i c P=>?_;have I:=L w _ Y;obtain⟨B,Q,hF⟩:=F w mg p _ I G.T.g C;exact AW I G.T.g G.T.b G.T.builtins G.T.nolimit P m i (NG c r) J hF Q (λH R U=>y w H a ns c R U) λH e s'=>A w H j e s'
noncomputable def aA(s:OA)(j:Nat):OA:=match s with
 | .ClassDef _ _ _ body _ _ _ _ _ _ _=>body.getD j (.Pass ⟨0,0,0,0⟩)
 |_=> .Pass ⟨0,0,0,0⟩
noncomputable def gO(s:OA):Arguments:=match s with
 | .FunctionDef _ a _ _ _ _ _ _ _ _=>a
 |_=>{posonlyargs:=[],args:=[],vararg:=MY,kwonlyargs:=[],kw_defaults:=[],kwarg:=MY,defaults:=[]}
noncomputable def cc(s:OA):List OA:=match s with
 | .FunctionDef _ _ b _ _ _ _ _ _ _=>b
 |_=>[]
noncomputable def ae(s:OA):Scope:=match s with
 | .FunctionDef _ _ _ _ _ _ sc _ _ _=>sc
 |_=>{kind:= .function,names:=[],isGenerator:=M4,isCoroutine:=M4}
abbrev E0:St->XK:=λ_ _ _ _=>False
structure Fun (K:NA) (x qual:NY) (st:OA) (f:M3) (fd:NK):Prop where
 ex:∃(oc:M7) (od:Option M3) (kV doc pm:M7) (an:Option M3) (cdv ct:M7) (osl:Array (Option M7)),
  fd=Q3 x qual (gO st) (cc st) (ae st) .none kV doc pm an cdv ct/\K.lookup f=on ⟨oc,od,.func fd,osl⟩/\RA K cdv qual=M2
 kp:Su K (.ref f)=M2
section
variable{P:NQ}{w:N0}{K:NA}{mg:NY->Option M7}{base:Ox}
theorem rO{A:Oj}(a:Room k A):A.units+1<R5:=Pi (V2 (by decide:1<=64) _) a.units
theorem qv(h:n<=1000):n<Nr:=Pi h (by decide)
variable{X:Cx}
theorem pv(i:Nat)(b:X.N[i]?=on x:=by rfl)(c:Vis X.env.scope x:=by first|exact Po rfl|exact QR (Po rfl)|exact QR (QR rfl))(hd:(x==("__debug__":NY))=M4:=by decide)
  (a:(x==("__classdict__":NY))=M4:=by decide):PE X (.Name x pos) (mP i):=JQ b c hd a
theorem iteT{A B:Prop}(h:A):if M2=M2 then A else B:=by
 rw[Nf rfl];exact h
theorem ite2{c A B:Prop} [Decidable c](a:c->A)(b:¬c->B):if c then A else B:=by
 by_cases h:c
 ·rw[Nf h]
  exact a h
 ·rw[M8 h]
  exact b h
def bv(H a:Hp):Prop:=∀b o,H b=on o->a b=on o
theorem bv.refl(H:Hp):bv H H:=λ_ _ h=>h
theorem bv.trans(a:bv H H1)(b:bv H1 H2):bv H H2:=λc o h=>b c o (a c o h)
theorem bv.free(e:bv H H')(h:H' l=Option.none):H l=Option.none:=by
 cases q:H l with
 |none=>rfl
 |some o=>
  rw[e l o q]at h;cases h
theorem cQ:∀(names:List (NY×QH)) (n:Nat) (acc:List (NY×M3)),OW n names acc=OW n names []++acc
 |[],_,_=>rfl
 |(x,k)::r,n,acc=>by
  unfold OW;split
  ·rw[cQ r (n+1) ((x,n)::acc),cQ r (n+1) [(x,n)],Oy]
   rfl
  ·exact cQ r n acc
theorem gq:∀{names:List (NY×QH)} {n:Nat} {x:NY} {c:M3},(x,c)∈OW n names []->(x,Ua)∈names
 |[],_,_,_,h=>by cases h
 |(y,k)::r,n,x,c,h=>by
  unfold OW at h;split at h
  ·rename_i a
   rw[cQ]at h;rcases OE.mp h with h|h
   ·exact M5 _ (gq h)
   ·obtain⟨rfl,_⟩:x=y/\c=n:=by simpa using h
    obtain rfl:k= .cell:=by simpa using a
    exact Nb
  ·exact M5 _ (gq h)
noncomputable def cM(cells:List (NY×M3)):List (NY×QH)->List (NY×M3)->List (NY×M3)
 |[],acc=>acc
 |(x,k)::r,acc=>if k== .free then cM cells r ((x,(cells.lookup x).getD 0)::acc)else cM cells r acc
theorem mem_cloF{cells:List (NY×M3)}:∀{names:List (NY×QH)} {acc:List (NY×M3)} {x:NY} {c:M3},(x,c)∈cM cells names acc->(x,c)∈acc\/((x,PN)∈names/\c=(cells.lookup x).getD 0)
 |[],_,_,_,h=> .inl h
 |(y,k)::r,acc,x,c,h=>by
  unfold cM at h;split at h
  ·rename_i a
   obtain rfl:k= .free:=by simpa using a
   rcases mem_cloF h with h|⟨h,e⟩
   ·rcases Nq.mp h with h|h
    ·cases h
     exact .inr ⟨Nb,rfl⟩
    ·exact .inl h
   ·exact .inr ⟨M5 _ h,e⟩
  ·rcases mem_cloF h with h|⟨h,e⟩
   ·exact .inl h
   ·exact .inr ⟨M5 _ h,e⟩
theorem nE:∀{names:List (NY×QH)} {acc:List (NY×M3)} {p:NY×M3},p∈acc->p∈cM cells names acc
 |[],_,_,h=>h
 |(y,k)::r,acc,p,h=>by
  unfold cM;split
  ·exact nE (M5 _ h)
  ·exact nE h
theorem nC{cells:List (NY×M3)}:∀{names:List (NY×QH)} {acc:List (NY×M3)} {x:NY},(x,PN)∈names->(x,(cells.lookup x).getD 0)∈cM cells names acc
 |[],_,_,h=>by cases h
 |(y,k)::r,acc,x,h=>by
  unfold cM;rcases Nq.mp h with h|h
  ·cases h
   rw[Nf (by decide)];exact nE Nb
  ·split
   ·exact nC h
   ·exact nC h
theorem j9{α:Type}:∀{l:List (NY×α)} {x:NY} {c:α},(x,c)∈l->∃d,l.lookup x=on d
 |[],_,_,h=>by cases h
 |(y,d)::r,x,c,h=>by
  rw[Sy];cases a:x==y with
  |true=>exact⟨d,rfl⟩
  |false=>
   rcases Nq.mp h with h|h
   ·cases h
    simp at a
   ·exact j9 h
theorem cB{α:Type}:∀{l:List (NY×α)} {x:NY} {c:α},(l.map (·.1)).Nodup->(x,c)∈l->l.lookup x=on c
 |[],_,_,_,h=>by cases h
 |(y,d)::r,x,c,nd,h=>by
  rw[Nl]at nd;obtain⟨a,b⟩:=Ob.mp nd;rw[Sy];rcases Nq.mp h with h|h
  ·cases h
   simp
  ·have:x≠y:=λe=>a (e▸List.mem_map_of_mem (f:=(·.1)) h)
   rw[beq_eq_false_iff_ne.mpr this];exact cB b h
theorem qb{env:Ud}(f:NY×QH->List (NY×M3)->Sem (ForInStep (List (NY×M3))))
  (g:∀name kind cs,f (name,kind) cs=if kind== .free then(do let a ←cellOf env name;Pn (.yield ((name,a)::cs)))else Pn (.yield cs)):
  ∀(names:List (NY×QH)) (acc:List (NY×M3)),(∀y∈names,y.2= .free->∃c,env.cells.lookup y.1=on c)->forIn names acc f=Pn (cM env.cells names acc)
 |[],_,_=>by rw[Qq];rfl
 |(x,k)::r,acc,h=>by
  rw[Qf,g];unfold cM;have i:∀y∈r,y.2= .free->∃c,env.cells.lookup y.1=on c:=λy j=>h y (M5 _ j);by_cases b:(k==PN)=M2
  ·rw[Nf b,Nf b]
   obtain⟨c,l⟩:=h (x,k) Nb (by simpa using b);have d:env.cells.lookup x=on c:=l;have e:cellOf env x=Pn c:=by unfold cellOf;rw[d]
   rw[e,d];simp only[pure_bind];exact qb f g r _ i
  ·rw[M8 b,M8 b]
   simp only[pure_bind];exact qb f g r _ i
theorem wZ{scope:Scope}{env:Ud}(h:∀y∈scope.names,y.2= .free->∃c,env.cells.lookup y.1=on c):closureFor scope env=Pn (cM env.cells scope.names []):=by
 simp only[closureFor];rw[qb (env:=env) _ (λname kind cs=>by cases a:kind==PN<;>simp[a]) scope.names [] h]
 rfl
theorem BP{M:Model}{E:M7->Ng->Prop}{s:Ng}{scope:Scope}
  (f:∀h':Ox,h'.Ns s.heap.objs.size (λ_=>MY)->(∀b o,s.heap.get? b=on o->h'.get? b=on o)->
   (∀n c,(n,c)∈OW (s.heap.objs.size+1) scope.names []->h'.IsCell c MY/\s.heap.objs.size+1<=c)->
   ((OW (s.heap.objs.size+1) scope.names []).Pairwise λx y=>x.2≠y.2)->
   Q (newEnv scope s.heap.objs.size globals (OW (s.heap.objs.size+1) scope.names cl) qual MY .none (on env) Vc) {s with heap:=h'}):
  Nn M A (Vk scope globals cl [] qual MY .none (on env)) Q E s:=by
 simp only[Vk,Option.isSome_some,N4];refine My (wpAny_alloc ?_);refine My (wpAny_layCells _ (λname kind cells=>by cases a:kind==Ua<;>simp[a]) _ _ _ _ ?_)
 have ok:=cellsFrom_ok scope.names (s.heap.push {cls:= .type "dict",data:= .dict #[]}) (s.heap.objs.size+1) [] ⟨λ_ _ hm=>(nomatch hm),SK⟩ (by rw[OP];exact Nh _);rw[OP]at ok;rw[show({s with heap:=s.heap.push {cls:= .type "dict",data:= .dict #[]}}:Ng).heap.objs.size=s.heap.objs.size+1 from OP ..];have d:=f (pushCells (s.heap.push {cls:= .type "dict",data:= .dict #[]}) scope.names) ((Heap.Ns.new s.heap (.type "dict")).keeps (pushCells_keeps _ _)) (λb o e=>pushCells_keeps _ _ b o (M1 _ e)) ok.empty ok.apart;exact My (M0 (M0 d))
noncomputable abbrev aB(X:Cx)(a:List NY)(scope:Scope)(cl:List (NY×M3))(C:M3)(b:List M3)(s:Ng)(H:Hp):Cx:=
 {X with N:=a,s₀:=s,H₀:=H,env:=compEnvC scope cl C X.env,outer:=X.stack,stack:=X.stack,ex:=b,fn:=λx=>scope.names.lookup x !=on .free,pn:=[],xe:=λ_ _=>False}
theorem mem_relabel{scope:Scope}{y:NY×QH}(h:y∈(relabel scope env).names):y∈scope.names\/(y.2= .cell/\(y.1,PN)∈scope.names):=by
 obtain⟨⟨n,k⟩,hm,e⟩:=Nw.mp h
 dsimp only at e
 split at e
 ·rename_i a
  cases e;simp only[NO,QJ]at a;obtain⟨⟨a,_⟩,_⟩:=a;subst a;exact .inr ⟨rfl,hm⟩
 ·cases e
  exact .inl hm
theorem BF{X:Cx}{R:St}{s:Ng}{Nc vars:List NY}{caps:List Nat}{scope:Scope}{h':Ox}(I:Inv X pins R H s)
  (hk:scope.kind= .function) (g:(scope.names.map (·.1)).Nodup) (f:∀y∈scope.names,y.2= .free->X.env.kindOf y.1=on .cell\/X.env.kindOf y.1=on .free)
  (T:Nc=vars++caps.map (λj=>X.N.getD j QE)) (U:∀j∈caps,j<X.N.length/\scope.names.lookup (X.N.getD j QE)=on .free)
  (F:∀b∈fp,d6 X pins H b) (W:∀b∈fp,∃o,s.heap.get? b=on o) (ns:h'.Ns s.heap.objs.size λ_=>MY) (keep:∀b o,s.heap.get? b=on o->h'.get? b=on o)
  (O:∀n c,(n,c)∈OW (s.heap.objs.size+1) scope.names []->h'.IsCell c MY/\s.heap.objs.size+1<=c) (ca:(OW (s.heap.objs.size+1) scope.names []).Pairwise λx y=>x.2≠y.2):
  Inv (aB X Nc scope (OW (s.heap.objs.size+1) scope.names (cM X.env.cells scope.names [])) s.heap.objs.size fp s H) [] (Nx vars.length MY++caps.map (λj=>R.getD j MY)) H {s with heap:=h'}:=by
 --the cells
 have old:∀{x:NY} {c:M3},(x,c)∈cM X.env.cells scope.names []->X.env.cells.lookup x=on c/\(x,PN)∈scope.names:=λ{x c} h=>by
  rcases mem_cloF h with h|⟨hm,e⟩
  ·cases h
  ·obtain⟨d,hd⟩:=I.ok.has x (f _ hm rfl)
   rw[hd]at e;exact⟨by rw[hd,e];rfl,hm⟩
 have a:∀{x:NY} {c:M3},(OW (s.heap.objs.size+1) scope.names (cM X.env.cells scope.names [])).lookup x=on c->
   (x,c)∈OW (s.heap.objs.size+1) scope.names []\/(X.env.cells.lookup x=on c/\(x,PN)∈scope.names):=λ{x c} h=>by
  have h:=Oz h;rw[cQ]at h;rcases OE.mp h with h|h
  ·exact .inl h
  ·exact .inr (old h)
 have freeC:∀{x:NY},(x,PN)∈scope.names->∃c,X.env.cells.lookup x=on c/\(OW (s.heap.objs.size+1) scope.names (cM X.env.cells scope.names [])).lookup x=on c:=λ{x} hm=>by
  obtain⟨d,hd⟩:=I.ok.has x (f _ hm rfl);have e:=nC (cells:=X.env.cells) (acc:=[]) hm;obtain⟨c,Q⟩:=j9 (l:=OW (s.heap.objs.size+1) scope.names (cM X.env.cells scope.names [])) (x:=x) (c:=(X.env.cells.lookup x).getD 0) (by rw[cQ];exact N1 _ e);rcases a Q with z|⟨z,_⟩
  ·have B:=cB g (gq z)
   rw[cB g hm]at B;cases B
  ·exact⟨c,z,Q⟩
 have k:∀{x:NY} {c:M3},X.env.cells.lookup x=on c->c<s.heap.objs.size:=λ{x c} h=>let ⟨v,q⟩:=I.cell x c h;q.lt
 have nofr:H s.heap.objs.size=MY:=I.hok.fresh (Nh _);have Y:∀b∈frs X.stack,b∈X.env.locals::X.fs:=I.stkSub;refine⟨⟨I.ok.mod,hk,I.ok.glob,I.ok.blt,Nh _,λx y c h1 h2=>?_,λx hx=>?_,λx c hf h=>?_,I.ok.hd,I.ok.frames,.inl rfl,λb J=>⟨?_,λx c h e=>?_⟩,I.bs,NG I.ok.bsz I.sz,λb o e J=>?_,λb J hf=>?_,I.stack,I.stkFree⟩,
  rfl,I.bare,Un.kept keep,⟨_,ns,λi x v e1 A e3=>?_⟩,λx c h=>?_,nofr,λx c h=>?_,λp hp=>NE hp (by simp),I.hok.kept keep,?_⟩
 ·rcases a h1 with B|⟨B,_⟩<;>rcases a h2 with Z|⟨Z,_⟩
  ·exact name_of_addr ca B Z
  ·exact NE (NH (k Z) (NG (Sh _) (O _ _ B).2)) (Oc _)
  ·exact NE (NH (k B) (NG (Sh _) (O _ _ Z).2)) (Oc _)
  ·exact I.ok.inj _ _ _ B Z
 ·--has
  have hx:(relabel scope X.env).names.lookup x=on .cell\/(relabel scope X.env).names.lookup x=on .free:=hx;have hm:(x,Ua)∈scope.names\/(x,PN)∈scope.names:=by
   rcases hx with hx|hx
   ·rcases mem_relabel (Oz hx)with z|⟨_,z⟩
    ·exact .inl z
    ·exact .inr z
   ·rcases mem_relabel (Oz hx)with z|⟨_,z⟩
    ·exact .inr z
    ·exact .inr z
  rcases hm with hm|hm
  ·have q:=Ve scope.names (s.heap.objs.size+1) (cM X.env.cells scope.names []) (x:=x) (.inl (cB g hm))
   exact Uu.mp q
  ·obtain⟨c,_,Q⟩:=freeC hm
   exact⟨c,Q⟩
 ·--cab
  rcases a h with z|⟨_,z⟩
  ·exact NG (Sh _) (O _ _ z).2
  ·have z':(scope.names.lookup x !=on .free)=M2:=hf
   rw[cB g z]at z';exact NE z' (by decide)
 ·obtain⟨o,e⟩:=W b J
  exact Od (NI e)
 ·rcases a h with z|⟨z,_⟩
  ·obtain⟨o,e'⟩:=W b J
   subst e;exact NE (NH (NI e') (NG (Sh _) (O _ _ z).2)) (Oc _)
  ·exact(F b J).2.2.2.2.1 x c z e
 ·obtain⟨_,_,_,h4,_⟩:=F b J
  rcases h4 with z|z
  ·exact I.ok.noex b o e z
  ·exact NE (NH (NI (I.ok.bs b o e).1) z) (Oc _)
 ·obtain⟨_,h2,h3,_⟩:=F b J
  rcases Nq.mp (Y b hf)with z|z
  ·exact h2 z
  ·exact h3 z
 ·--the names' values
  have hi:¬i<vars.length:=λhi=>by
   rw[QB (by simpa using hi),P5]at A;split at A<;>cases A
  have L:(vars++caps.map (λj=>X.N.getD j QE))[i]?=on x:=by rw[←T];exact e1
  rw[O7 (by omega)]at L;rw[O7 (by simpa using hi)]at A;rw[ON]at A;cases q:caps[i-vars.length]? with
  |none=>rw[M9,q]at A;cases A
  |some j=>
   rw[M9,q]at L A;have C:X.N.getD j QE=x:=NN L;have e2':R.getD j MY=on v:=NN A;obtain⟨hj,t⟩:=U j (NB q);rw[C]at t;obtain⟨c,Q,hc'⟩:=freeC (Oz t);have hNj:X.N[j]?=on x:=by
    rw[←C,Na,M6 hj];rfl
   have hσj:R[j]?=on (on v):=by
    have hl:j<R.length:=by rw[I.len];exact hj
    rw[Na,M6 hl]at e2';rw[M6 hl];exact Oi on e2'
   have hkx:=f _ (Oz t) rfl;obtain⟨m,hn,hl⟩:=I.loc;obtain⟨u,r,l⟩:=hl j x v hNj hσj (hkx.elim (λz=> .inr (.inl z)) λz=> .inr (.inr z));refine⟨u,r,.inr ⟨?_,c,hc',?_⟩⟩
   ·rcases e3 with z|z|z
    ·exfalso
     rcases mem_relabel (Oz z)with y|⟨y,_⟩
     ·rw[cB g y]at t;cases t
     ·cases y
    ·exact .inl z
    ·exact .inr z
   ·rcases l with⟨l,_⟩|⟨_,c',e,z⟩
    ·exfalso
     rcases hkx with y|y
     ·have y':X.env.kindOf x=on .cell:=y
      rw[l]at y';cases y'
     ·have y':X.env.kindOf x=on .free:=y
      rw[l]at y';cases y'
    ·rw[Q]at e
     cases e;exact z.keeps keep
 ·rcases a h with z|⟨z,_⟩
  ·exact⟨MY,(O _ _ z).1⟩
  ·obtain⟨v,q⟩:=I.cell x c z
   exact⟨v,q.keeps keep⟩
 ·rcases a h with z|⟨z,_⟩
  ·exact I.hok.fresh (NG (Sh _) (O _ _ z).2)
  ·exact I.freeC x c z
 ·show _=Nc.length
  rw[T,Ny,Ny,ON,MZ,MZ]
abbrev TB:=St->Hp->(St->Hp->Prop)->Prop
inductive CKd where
 |L (e:Expr)|S (e:Expr)|D (k v:Expr)
instance:Coe Expr CKd:=⟨.L⟩
noncomputable def mkC(c:CKd)(gens:List OT)(scope:Scope)(pos:RN):Expr:=match c with
 | .L e=> .ListComp e gens scope pos
 | .S e=> .SetComp e gens scope pos
 | .D k v=> .DictComp k v gens scope pos
noncomputable def emC(c:CKd)(acc:M7)(env:Ud):Sem Unit:=match c with
 | .L e=>do let _ ←Uj (.builtin "list.append") [acc,←Op e env]
 | .S e=>do let v ←Op e env;QY e.pos;let _ ←Uj (.builtin "set.add") [acc,v]
 | .D k v=>do
   let kv ←Op k env
   let vv ←Ro [kv] (Op v env)
   match acc with
   | .ref d=>do
    QY {k.pos with endLine:=v.pos.endLine,endCol:=v.pos.endCol}
    Ro [kv,vv] (dictSet d kv vv)
   |_=>unsupported "internal:dictcomp"
noncomputable def gb(c:CKd)(gens:List OT)(scope:Scope)(pos:RN)(d:Nat)(acc:M7)(env:Ud)(k:Sem Sn):Sem Sn:=
 match gens[d+1]? with
 |some g'=>do
  let x ←Op g'.iter env
  QY g'.iter.pos
  let x ←if g'.is_async !=0 then foldedIterable g'.iter x else N5 g'.iter env x
  let _ ←runOwn (.compStart (mkC c gens scope pos) (d+1) (←Ro [x] (if g'.is_async !=0 then asyncIter x else Tp x)) acc env) env
  k
 |none=>do
  emC c acc env
  k
theorem uq{a b:Expr}(e:gens[d]?=on ⟨a,b,ifs,0⟩):
  compTurn (mkC c gens scope pos) d it acc env=(do
   QY b.pos
   match ←Rp it with
   |none=>Pn (.done .next)
   |some v=>
    R1 a it v
    R0 a env v
    let mut ok:=M2
    for y in ifs do
     if ok then ok ←isTrue y env (Op y env)
    if ok then gb c gens scope pos d acc env (UM (.compLoop (mkC c gens scope pos) d it acc env))
    else UM (.compLoop (mkC c gens scope pos) d it acc env)):=by
 cases c<;>(
  unfold compTurn gb mkC emC
  dsimp only
  rw[e]
  dsimp only
  cases gens[d+1]?<;>rfl)
variable{prog:NQ}{A:Oj}{R:Result->Ng->Prop}{s:Ng}
theorem AN(C:gens[d]?=on ⟨target,iter,ifs,0⟩)(I:Nat->Ng->Prop)
  (p:∀n s,I n s->Nn (NL prog w) A (Rp it) (λr a=>match r with
   |none=>R (.ok .next) a
   |some v=>Nn (NL prog w) A (R1 target it v) (λ_ b=>Nn (NL prog w) A (R0 target env v) (λ_ j=>
    Nn (NL prog w) A (forIn ifs M2 λy r=>if r=M2 then do let ok ←isTrue y env (Op y env);Pn (Sf ok)else Pn (Sf r)) (λok g=>
     if ok=M2 then ∀(k:Sem Sn) (u:Sn->Ng->Prop) (B:M7->Ng->Prop),(∀i m,m<n->I m i->Nn (NL prog w) A k u B i)->Nn (NL prog w) A (gb c gens scope pos d acc env k) u B g
     else ∃m,m<n/\I m g) (λ_ _=>False) j) (λ_ _=>False) b) (λ_ _=>False) a) (λ_ _=>False) s)
  (n:Nat) (h:I n s):
  Q6 (NL prog w) A (.compLoop (mkC c gens scope pos) d it acc env) R s:=by
 refine codeAny_loop rfl I (λn s hI=>?_) n h
 suffices z:Nn (NL prog w) A ((compTurn (mkC c gens scope pos) d it acc env).onRaise (λx=>do noteFrame x env;theTreesLotGoes x)) (λt s'=>match t with
   |Fin.done f=>R (Pa f) s'
   |Fin.again c'=>c'=Code.compLoop (mkC c gens scope pos) d it acc env/\∃m,m<n/\I m s') (λe s'=>R (Except.error e) s') s by cases c<;>exact z
 refine wpAny_noted ?_;rw[uq C];refine My (Pp (My (Oe (p n s hI) (λr a h₁=>?_) λ_ _ h'=>h'.elim)));cases r with
 |none=>exact M0 h₁
 |some v=>
  refine My (Oe h₁ (λ_ b o=>?_) λ_ _ h'=>h'.elim);refine My (Oe o (λ_ j q=>My (Oe q (λok g l=>?_) λ_ _ h'=>h'.elim)) λ_ _ h'=>h'.elim);cases ok with
  |false=>exact M0 ⟨rfl,l⟩
  |true=>exact l _ _ _ λi m hm hI=>M0 ⟨rfl,m,hm,hI⟩
theorem xH(j:gens[d]?=on ⟨target,iter,ifs,0⟩)
  (i:Q6 (NL prog w) A (.compLoop (mkC c gens scope pos) d it acc env) R s)
  (h:Nn (NL prog w) A (Tp it) (λa s'=>Q6 (NL prog w) A (.compLoop (mkC c gens scope pos) d a acc env) R s') (λ_ _=>False) s):
  Q6 (NL prog w) A (.compStart (mkC c gens scope pos) d it acc env) R s:=by
 refine codeAny_of_tree ?_
 suffices z:Nn (NL prog w) A ((compStart (mkC c gens scope pos) d it acc env).onRaise (λx=>do noteFrame x env;QY theWindowsPlace)) (λg s'=>match g with
   |Fin.done f=>R (Pa f) s'
   |Fin.again c'=>c'.quiet=M2/\Q6 (NL prog w) A c' R s') (λe s'=>R (Except.error e) s') s by cases c<;>exact z
 refine wpAny_notedAt ?_;unfold compStart;have b:(clausesOf (mkC c gens scope pos))[d]?=on ⟨target,iter,ifs,0⟩:=by cases c<;>exact j
 generalize (clausesOf (mkC c gens scope pos))[d]?=og at b⊢;subst b;show Nn _ _ (ask>>=_) _ _ s;refine My (RF (wpAny_ite ?_));split
 ·first
   |exact My (M0 (M0 (UV rfl i)))
   |exact M0 (UV rfl i)
 ·first
   |exact My (QO (My (Pp (My (Oe h (λa s' h'=>M0 (UV rfl h')) λ_ _ x=>x.elim)))))
   |(refine My (QO ?_);show Nn _ _ (QY iter.pos>>=_) _ _ s;exact My (Pp (My (Oe h (λa s' h'=>M0 (UV rfl h')) λ_ _ x=>x.elim))))
def dh(X:Cx)(b:List Expr)(t:TT):Prop:=
 ∀(a:List (M3×NM)) (s:Ng) (d:St) (H:Hp) (Q:Bool->Hp->Prop),Inv X a d H s->t d H Q->
  Nn (NL X.prog X.w) X.A (forIn b M2 λc r=>if r=M2 then do let ok ←isTrue c X.env (Op c X.env);Pn (Sf ok)else Pn (Sf r)) (TP X a d Q) X.xe s
noncomputable def Jj:TT:=λ_ H Q=>Q M2 H
theorem sX{X:Cx}:dh X [] Jj:=λ_ _ _ H _ I h=>M0 ⟨H,I,h⟩
theorem zU{X:Cx}(d:PT X c t):dh X [c] t:=λa s e H Q I h=>by
 simp only[Qf,Qq,N4];exact My (My (Oe (d a s e H Q I h) (λb s' f=>M0 (M0 f)) λ_ _ x=>x))
def PB(X:Cx)(c:CKd)(gens:List OT)(scope:Scope)(pos:RN)(d:Nat)(D:M3)(t:TB):Prop:=
 ∀(a:List (M3×NM)) (s:Ng) (e:St) (H:Hp) (Q:St->Hp->Prop),Inv X a e H s->t e H Q->
  ∀(k:Sem Sn) (f:Sn->Ng->Prop) (g:M7->Ng->Prop),(∀s' b h,Inv X a b h s'->Q b h->Nn (NL X.prog X.w) X.A k f g s')->Nn (NL X.prog X.w) X.A (gb c gens scope pos d (.ref D) X.env k) f g s
def cJ(J:It)(g:TG)(tt:TT)(j:TB):TB:=λc H Q=>∃W:Nat->Nat->St->Hp->Prop,(∃m,W 0 m c H)/\∀i m c H,W i m c H->
 (J.stop i H/\Q c H)\/(J.go i H/\∃N:St->Hp->Prop,(∀d e,N d e->∃f,f<m/\W (i+1) f d e)/\∀x e,J.yld i H x e->g x c e λa k=>tt a k λb h=>if b=M2 then j a h N else N a h)
def w9(D:M3)(c:TE):TB:=λa H Q=>c a H λv b=>∃xs,b D=on (.lst xs)/\xs.length<Nr/\Q a (upd b D (.lst (xs++[v])))
def w8(b:TI)(c:It->TB):TB:=λa H Q=>b a H λJ d=>c J a d Q
variable{c:CKd}{elt target iter:Expr}{ifs:List Expr}{gens:List OT}{scope:Scope}{pos:RN}{d:Nat}{D:M3}
theorem qQ(hg:gens[d]?=on ⟨target,iter,ifs,0⟩)(hc:X.calm=M2)(F:X.xe=λ_ _=>False)(hgt:PG X target g)(hts:dh X ifs tt)(j:PB X c gens scope pos d D tb)
  {s:Ng}
  (I:Inv X pins σ H s) (T:Turn X.prog X.w X.K target J fp it tn) (st:tn 0 s.heap) (hf:∀b∈fp,d6 X pins H b) (h:cJ J g tt tb σ H Q):
  Q6 (NL X.prog X.w) X.A (.compStart (mkC c gens scope pos) d (.ref it) (.ref D) X.env) (λr s'=>r= .ok .next/\∃a f,Inv X pins a f s'/\Q a f) s:=by
 obtain⟨W,⟨m0,w0⟩,L⟩:=h;have l:∀{f:Hp},(∀b∈fp,f b=MY)->∀b∈fp,d6 X pins f b:=λhn b j=>⟨hn b j,(hf b j).2⟩;have t:Q6 (NL X.prog X.w) X.A (.compLoop (mkC c gens scope pos) d (.ref it) (.ref D) X.env) (λr s'=>r= .ok .next/\∃a f,Inv X pins a f s'/\Q a f) s:=by
  refine AN hg (λn s'=>∃i a f,Inv X pins a f s'/\tn i s'.heap/\(∀b∈fp,f b=MY)/\W i n a f) ?_ m0 ⟨0,σ,H,I,st,λb j=>(hf b j).1,w0⟩;rintro n s3 ⟨i,p,Z,I3,O,U,w3⟩;rcases L i n p Z w3 with⟨stop,qn⟩|⟨go,N,hN,step⟩
  ·refine thn (T.done X rfl rfl rfl hc i pins s3 p Z _ I3 (l U) O stop) λr s4 ⟨hr,I4⟩=>?_
   subst hr;exact⟨rfl,p,Z,I4,qn⟩
  ·refine thn (T.item X rfl rfl rfl hc i pins s3 p Z _ I3 (l U) O go) λr s4 ⟨u,hr,h4⟩=>?_
   subst hr;refine thn h4 λ_ s5 ⟨x,H5,I5,r5,y5,v,fr5⟩=>?_;have I5':=I5.pinned (l fr5) (T.obj _ _ v);have UM:∀{q:St} {y:Hp} {B:Ng},Inv X (pins++kO fp s5.heap) q y B->N q y->∃m,m<n/\∃i a f,Inv X pins a f B/\tn i B.heap/\(∀b∈fp,f b=MY)/\W i m a f:=λ{q y B} C n7=>by
    obtain⟨m',hm,w7⟩:=hN q y n7;refine⟨m',hm,i+1,q,y,C.unpinned,T.keep _ _ _ v λb j o e=>(C.pin (b,o) (N1 _ (N1 _ (gF j e)))).1,λb j=>?_,w7⟩;obtain⟨o,e,d⟩:=T.obj _ _ v b j;exact(C.pin (b,o) (N1 _ (N1 _ (gF j e)))).2.1
   have h6:=hgt _ s5 p H5 x u _ I5' r5 (step x H5 y5);rw[F]at h6;refine thn h6 λ_ s6 ⟨Y,H6,I6,q6⟩=>?_;have h7:=hts _ s6 Y H6 _ I6 q6;rw[F]at h7;refine thn h7 λb B ⟨y,C,q7⟩=>?_;cases b with
   |true=>
    rw[Nf rfl]at q7⊢;intro k Q' E' hk;refine j _ B Y y N C q7 k Q' E' λs8 σ8 H8 I8 n8=>?_;obtain⟨m,hm,z⟩:=UM I8 n8;exact hk s8 m hm z
   |false=>
    rw[M8 Ni]at q7⊢;exact UM C q7
 exact xH hg t (T.self X.A 0 s _ _ st t)
theorem aJ(m:gens[d+1]?=MY)(o:PE X elt te)(b:X.xe=λ_ _=>False):PB X elt gens scope pos d D (w9 D te):=by
 intro a s g H Q I h k y B p;unfold gb;rw[m];show Nn _ _ ((do let _ ←Uj (.builtin "list.append") [.ref D,←Op elt X.env])>>=λ_=>k) _ _ _
 have i:=o a s g H _ I h;rw[b]at i;refine My (My (Oe i (λu C ⟨v,J,j,r,xs,l,L,q⟩=>?_) λ_ _ f=>f.elim));obtain⟨z,its,n,t,N,e⟩:=j.lstM l;refine My (Vd F.slot_list_append ⟨_,e,rfl⟩ F.entry_list_append (Wg _ _) (V8 D its.toArray n u (by rw[Nv];omega)) ⟨e,?_⟩);refine M0 (p _ g _ (j.lset (its':=its++[u]) l e (by simp) (t.append (.cons r .nil)) ?_) q);rw[Ny,Og];omega
theorem pJ(o:gens[d+1]?=on ⟨target',iter',ifs',0⟩)(p:X.calm=M2)(a:X.xe=λ_ _=>False)(t:PI X target' iter' wi)
  (j:PG X target' g) (l:dh X ifs' tt) (u:PB X c gens scope pos (d+1) D tb) (hs:∀x,N5 iter' X.env x=Pn x:=by intro _;rfl):PB X c gens scope pos d D (w8 wi λJ=>cJ J g tt tb):=by
 intro b s y H Q I h k Y Z B;unfold gb;rw[o];have i:=t b s y H _ I h;rw[a]at i;refine My (Oe i (λv s1 i=>My (Pp ?_)) λ_ _ f=>f.elim);show Nn _ _ (N5 iter' X.env v>>=_) _ _ _;refine My (QN (hs v) ?_);show Nn _ _ (Ro [v] (Tp v)>>=_) _ _ _;refine My (OB (Oe i (λC s2 F=>?_) λ_ _ f=>f.elim));obtain⟨it,fp,tn,J,H2,e,L,T,m,f2,q⟩:=F;subst e;refine My (wpAny_runOwn (Sc (qQ o p a j l u L T m f2 q) λr s' ⟨N,z⟩=>?_));subst N;obtain⟨n,O,U,W⟩:=z;exact B s' n O U W
noncomputable def jv(vars:List NY)(caps:List Nat)(a:St):St:=Nx vars.length MY++caps.map (λj=>a.getD j MY)
def Mks(X:Cx)(mk:Sem M7)(g:M3->HO):Prop:=∀(a:List (M3×NM)) (s:Ng) (f:St) (H:Hp) (E:M7->Ng->Prop) (Q:M7->Ng->Prop),Inv X a f H s->
 (∀e:Ng,Inv X a f (upd H s.heap.objs.size (g s.heap.objs.size)) e->(∀b o,s.heap.get? b=on o->e.heap.get? b=on o)->Q (.ref s.heap.objs.size) e)->Nn (NL X.prog X.w) X.A mk Q E s
theorem tz{X:Cx}:Mks X (newList []) λ_=> .lst []:=λa s f H E Q I h=>N6 (h _ (I.lnew (t':=s.toks) .nil (OC _)) λb o e=>M1 _ e)
def nU(vars:List NY)(caps:List Nat)(e:TI)(f:M3->It->TB):TE:=λa H Q=>e a H λJ b=>∀D,b D=MY->f D J (jv vars caps a) (upd b D (.lst [])) λ_ g=>Q (.ref D) g
structure CmpScope (X:Cx) (scope:Scope) (Nc vars:List NY) (caps:List Nat):Prop where
 kind:scope.kind= .function
 nd:(scope.names.map (·.1)).Nodup
 free:∀y∈scope.names,y.2= .free->X.env.kindOf y.1=on .cell\/X.env.kindOf y.1=on .free
 names:Nc=vars++caps.map (λj=>X.N.getD j QE)
 cap:∀j∈caps,j<X.N.length/\scope.names.lookup (X.N.getD j QE)=on .free
variable{rest:List OT}{Nc vars:List NY}{caps:List Nat}{g:TG}{tt:TT}{tb:M3->TB}{wi:TI}
def LN(X:Cx)(a:List (M3×NM))(H:Hp)(C:M3):Prop:=H C=MY/\C≠X.env.locals/\X.s₀.heap.objs.size<=C/\(∀x c,X.env.cells.lookup x=on c->c≠C)/\∀p∈X.pn++a,p.1≠C
theorem f9{c:CKd}{mk:Sem M7}{B:M3->HO}(O:Mks X mk B){f:List (M3×NM)}{F:St}{H:Hp}{s:Ng}{it:M3}{h:List M3}{Q:Nat->Ox->Prop}{J:It}{E:M7->Ng->Prop}{QQ:M3->Hp->Prop}{RR:M7->M3->Result->Ng->Prop}
  (hc:X.calm=M2) (S:CmpScope X scope Nc vars caps)
  (L:∀(cl:List (NY×M3)) (C:M3) (h:List M3) (s:Ng) (H:Hp),PG (aB X Nc scope cl C h s H) target g/\dh (aB X Nc scope cl C h s H) ifs tt/\∀D,PB (aB X Nc scope cl C h s H) c (⟨target,iter,ifs,0⟩::rest) scope pos 0 D (tb D))
  (I:Inv X f F H s) (T:Turn X.prog X.w X.K target J h it Q) (st:Q 0 s.heap) (U:∀b∈h,d6 X f H b)
  (q:∀D,H D=MY->cJ J g tt (tb D) (jv vars caps F) (upd H D (B D)) λ_ k=>QQ D k)
  (W:∀(D C:M3) (s':Ng) (k:Hp) (m:NY->Option M7),Inv X f F k s'->s'.heap.Ns C m->LN X f k C->QQ D k->RR (.ref D) C (.ok .next) s'):
  Nn (NL X.prog X.w) X.A mk (λacc t=>Nn (NL X.prog X.w) X.A (Vk scope X.env.globals (cM X.env.cells scope.names []) [] X.env.qual MY .none (on X.env)) (λj u=>
   Q6 (NL X.prog X.w) X.A (.compStart (mkC c (⟨target,iter,ifs,0⟩::rest) scope pos) 0 (.ref it) acc {j with scope:=relabel scope X.env}) (RR acc j.locals) u) E t) E s:=by
 refine O f s F H _ _ I λi l y=>?_;have hD:H s.heap.objs.size=MY:=I.fresh;have q3:=q s.heap.objs.size hD;have Y:∀b∈h,∃o,i.heap.get? b=on o:=λb L=>let ⟨o,e,_⟩:=T.obj _ _ st b L;⟨o,y b o e⟩
 have Z:∀b∈h,d6 X f (upd H s.heap.objs.size (B s.heap.objs.size)) b:=λb a=>⟨by
  rw[upd_ne]
  ·exact(U b a).1
  ·obtain⟨o,e,_⟩:=T.obj _ _ st b a
   exact Od (NI e),(U b a).2⟩
 generalize hH3:upd H s.heap.objs.size (B s.heap.objs.size)=H3 at l q3 Z;generalize s.heap.objs.size=D at hD hH3 q3⊢;refine BP λh' ns keep ce ca=>?_;have N:=BF l S.kind S.nd S.free S.names S.cap Z Y ns keep ce ca;obtain⟨b1,b2,b3⟩:=L (OW (i.heap.objs.size+1) scope.names (cM X.env.cells scope.names [])) i.heap.objs.size h i H3;have st4:Q 0 h':=T.keep _ _ _ st λb L o e=>keep b o (y b o e);have f4:∀b∈h,d6 (aB X Nc scope (OW (i.heap.objs.size+1) scope.names (cM X.env.cells scope.names [])) i.heap.objs.size h i H3) [] H3 b:=λb a=>
  ⟨(Z b a).1,(N.ok.exf b a).1,N.ok.exfs b a,.inl a,(N.ok.exf b a).2,λp hp=>NE hp (by simp)⟩
 refine Sc (qQ (X:=aB X Nc scope (OW (i.heap.objs.size+1) scope.names (cM X.env.cells scope.names [])) i.heap.objs.size h i H3) (gens:=⟨target,iter,ifs,0⟩::rest) (d:=0) rfl hc rfl b1 b2 (b3 D) N T st4 f4 q3) λr s' ⟨hr,σ',k,n,q'⟩=>?_;subst hr;obtain⟨m,hm,_⟩:=n.loc;have C1:X.env.locals<i.heap.objs.size:=l.lt;refine W D _ s' k m (l.call' (ch:=h) n.os n.base n.hok n.bare λb a=>?_) hm ⟨n.free,Qc C1,l.sz,λx c e z=>?_,λp hp z=>?_⟩ q'
 ·obtain⟨_,h2,h3,h4,h5,h6⟩:=U b a
  exact⟨h4,h2,h5,h6⟩
 ·obtain⟨v,e'⟩:=l.cell x c e
  exact NE (z▸e'.lt) (Oc _)
 ·have:=NI (l.pin p hp).1
  rw[z]at this;exact NE this (Oc _)
theorem Inv.letgo{s:Ng}(I:Inv X pins σ H s)(o:LN X pins H C)(hs:NP C s.heap h'):Inv X pins σ H {s with heap:=h'}:=
 I.turned (t':=s.toks) (λb f a e=>(hs.2 b a).trans e) o.1 (Ne.symm (Ne.symm o.2.1)) (.inr o.2.2.1) o.2.2.2.1 o.2.2.2.2
theorem CmpScope.clo(S:CmpScope X scope Nc vars caps)(ok:X.Ok):closureFor scope X.env=Pn (cM X.env.cells scope.names []):=wZ λy a b=>ok.has y.1 (S.free y a b)
theorem CmpScope.loc(S:CmpScope X scope Nc vars caps):∀x∈scope.names,x.2= .local->scope.names.lookup x.1=on .local:=λx a b=>cB S.nd (by rw[←b];exact a)
theorem lN(j:X.calm=M2)(S:CmpScope X scope Nc vars caps)(k:PI X target iter wi)
  (l:∀(cl:List (NY×M3)) (C:M3) (b:List M3) (s:Ng) (H:Hp),PG (aB X Nc scope cl C b s H) target g/\dh (aB X Nc scope cl C b s H) ifs tt/\∀D,PB (aB X Nc scope cl C b s H) elt (⟨target,iter,ifs,0⟩::rest) scope pos 0 D (tb D))
  (hs:∀x,N5 iter X.env x=Pn x:=by intro _;rfl):PE X (.ListComp elt (⟨target,iter,ifs,0⟩::rest) scope pos) (nU vars caps wi λD J=>cJ J g tt (tb D)):=by
 intro a s n H Q I h;rw[eval_ListComp];refine P7 (use:=MY) rfl hs (S.clo I.ok) S.kind S.loc (Oe (k a s n H _ I h) (λv N o=>Oe o (λp O r=>?_) λ_ _ x=>x) λ_ _ x=>x);obtain⟨it,b,U,J,W,e,t,T,f,f2,q⟩:=r;subst e;refine f9 (c:= .L elt) tz (RR:=λacc C=>Vf (NL X.prog X.w) X.A X.xe MY _ acc C) j S l t T f f2 q λD C s' u m y ns B F=>?_;exact⟨m,ns,λh' i=>⟨.ref D,u,y.letgo B i,rfl,F⟩⟩
theorem uY{b f:RN}(y:X.N.Nodup)(l:X.N[i]?=on x)(B:Loc X.env.scope x)(F:X.calm=M2)(S:CmpScope X scope Nc vars caps)(O:PI X target iter wi)
  (U:∀(cl:List (NY×M3)) (C:M3) (k:List M3) (s:Ng) (H:Hp),PG (aB X Nc scope cl C k s H) target g/\dh (aB X Nc scope cl C k s H) ifs tt/\∀D,PB (aB X Nc scope cl C k s H) elt (⟨target,iter,ifs,0⟩::rest) scope pos 0 D (tb D))
  (n:RE (.ListComp elt (⟨target,iter,ifs,0⟩::rest) scope pos) (on (.Name x b)) f.line X.env=Pn M2:=by rfl)
  (hs:∀x,N5 iter X.env x=Pn x:=by intro _;rfl) (W:X.fn x=M2\/X.env.scope.names.lookup x=on .local:=by first|exact .inl rfl|exact .inr rfl|assumption):
  PS X (.Assign [.Name x b] (.ListComp elt (⟨target,iter,ifs,0⟩::rest) scope pos) f) (gi (nU vars caps wi λD J=>cJ J g tt (tb D)) (dH i)):=by
 intro j s Y H D I h;rw[exec_Assign_Name_used _ _ _ _ n];refine My (Pp (My ?_));show Nn _ X.A (do let _ ←comprehension (.ListComp elt (⟨target,iter,ifs,0⟩::rest) scope pos) scope X.env _ (newList []) M4 (Op iter X.env) (on (R0 (.Name x b) X.env))) _ _ s
 refine My (Oe (P7 (use:=on (R0 (.Name x b) X.env)) (Q:=λ_ s'=>SP X j D .next s') rfl hs (S.clo I.ok) S.kind S.loc
  (Oe (O j s Y H _ I h) (λv s1 Z=>Oe Z (λitv s2 h2=>?_) λ_ _ e=>e) λ_ _ e=>e)) (λ_ s' hq=>M0 (M0 hq)) λ_ _ e=>e)
 obtain⟨it,k,tn,J,H2,e,o,T,p,f2,q⟩:=h2;subst e;refine f9 (c:= .L elt) tz (RR:=λacc C=>Vf (NL X.prog X.w) X.A X.xe (on (R0 (.Name x b) X.env)) _ acc C) F S U o T p f2 q λA C s' H' m I' ns r q'=>?_;show Nn _ X.A (R0 (.Name x b) X.env (.ref A)) _ _ s';refine Uq (kt I' y l B (v:= .ref A) rfl (λs2 o ⟨a,sb,ha⟩=>?_) W);have t:C≠a:=by
  rcases ha with rfl|ha
  ·exact r.2.1
  ·exact λz=>r.2.2.2.1 x a ha z.symm
 exact⟨m,ns.sameBut sb t,λh' u=>⟨_,H',o.letgo r u,q'⟩⟩
end
end L2
namespace L2
open PySem PySem.Spec
open Sem (wp)
open Builtin Builtin.ObjectAttr
structure XShape (h:Ox) (C:M3) (bm:List M7):Prop where
 at_:∃(nm q:NY) (N:M3) (bs:List M7) (hdct:Bool) (sn:List NY) (sub:List M7) (ab:Bool) (col:Option Bool) (dd:Option M3) (k0 k1 k2 k3 k5:Option M7),
  h.get? C=on (excClassObj nm q C N bs bm hdct sn sub ab col dd k0 k1 k2 k3 k5 "ValueError.__new__")
 val:bm.contains (.type "ValueError")=M2
 bas:bm.contains (.type "BaseException")=M2
 att:bm.contains (.type "AttributeError")=M4
 nam:bm.contains (.type "NameError")=M4
section
variable{prog:NQ}{w:N0}{A:Oj}{E:M7->Ng->Prop}{h:Ox}{g:Array GenState}{d:Drawn}{t:Nat}{os:SX}{C:M3}{bm rest:List M7}
noncomputable def vG:List M7->Bool
 |[.type a,.type b,.type c,.type d]=>a=="ValueError"&&b=="Exception"&&c=="BaseException"&&d=="object"
 | .ref _::r=>vG r
 |_=>M4
variable{s:Ng}{e:M3}{K:NA}{cd:ClassData}{name:NY}{v:M7}
end
end L2
namespace L2
open PySem PySem.Spec PyProof.Rows
theorem br.there{h:Ox}(x:br P w H h a o):∃b,h.get? a=on b:=by
 cases o with
 |lst xs=>obtain⟨_,_,_,_,e⟩:=x;exact⟨_,e⟩
 |tup xs=>obtain⟨_,_,_,_,e,_⟩:=x;exact⟨_,e⟩
 |ins C dx fs=>obtain⟨_,_,_,e,_⟩:=x;exact⟨_,e⟩
 |own y=>exact x
 |xd fs=>obtain⟨_,⟨_,_,_,e,_⟩,_⟩:=x;exact⟨_,e⟩
 |rng lo hi=>obtain⟨_,_,_,e⟩:=x;exact⟨_,e⟩
 |frz b u=>obtain⟨e,_⟩:=x;exact⟨_,e⟩
 |tbl ps=>exact⟨_,(show h.get? a=on _ from x)⟩
 |met f y=>exact⟨_,(show h.get? a=on _ from x)⟩
 |ext φ=>obtain⟨_,e,_⟩:=x;exact e
structure Flown (P:NQ) (w:N0) (outer:List Ud) (H:Hp) (s:Ng) (E:XK) (x C:M3) (H':Hp) (s':Ng):Prop where
 os:s'.os=s.os
 bare:R6 s'.gens
 un:Un (frs outer) [] H H' s.heap s'.heap
 hok:HOk P w H' s'.heap
 tr:∃(oe:NM) (vs:Array M7) (T:M3) (oT:NM) (ts:Array M7) (a0:M7),s'.heap.get? x=on oe/\(oe.cls= .ref C/\vs[0]?=on a0)/\oe.data= .fields vs/\vs[1]?=on (.ref T)/\T≠x/\s'.heap.get? T=on oT/\oT.data= .fields ts/\ts[3]?=on .none/\H' T=MY/\s.heap.get? T=MY
 xn:H' x=MY
 xs:s.heap.get? x=MY
 wish:E (.ref C) MY H'
def CXE(P:NQ)(w:N0):CXT:=λouter H s E e s'=>∃x C a,e= .ref x/\Flown P w outer H s E x C a s'
theorem yF{X:Cx}{s s':Ng}{E:XK}(I:Inv X pins σ H s)(g:X.stack=X.env::X.outer)(i:X.env.frame=on X.env.locals)(R:X.ex=[])
  (os:s'.os=X.s₀.os) (bare:R6 s'.gens) (d:Un (frs X.stack) [] X.H₀ H' X.s₀.heap s'.heap) (hok:HOk X.prog X.w H' s'.heap) (y:∀b∈frs X.stack,H' b=MY)
  (c:∀b∈ext,X.s₀.heap.get? b=MY/\H' b=MY) (O:x∈ext) (wish:E (.ref C) MY H')
  (L:Heap.LeftW (Wr s'.heap (ext++frs X.stack)) (X.env::X.outer) x (.ref C) a0 s'.heap h'):Flown X.prog X.w X.outer X.H₀ X.s₀ E x C H' {s' with heap:=h'}:=by
 obtain⟨U,L2,W,Y⟩:=L;have j:∀b∈frs X.outer,b∈frs X.stack:=λb hb=>by
  rw[g];unfold frs;rw[OU,i];exact M5 _ hb
 have h:∀b∈frs X.stack,b=X.env.locals\/b∈frs X.outer:=λb hb=>by
  rw[g]at hb;unfold frs at hb;rw[OU,i]at hb;exact Nq.mp hb
 have A:∀b o,X.s₀.heap.get? b=on o->b≠X.env.locals:=λb o e=>Od (NH (NI e) I.ok.above);have stay:∀b o,s'.heap.get? b=on o->b∉ext->b∉frs X.stack->h'.get? b=on o:=λb o e B Z=>
  U b o (hideAll_get _ e λhm=>(OE.mp hm).elim B Z)
 have k:∀b o,X.s₀.heap.get? b=on o->b∉ext:=λb o e hb=>by rw[(c b hb).1]at e;cases e
 have f:∀b∈frs X.stack,∃o,h'.get? b=on o/\∀vs,o.data≠ .fields vs:=λb hb=>(L2.mem (by rw[←g];exact hb)).2;obtain⟨oe,vs,T,oT,P,he,hc,hd,B,l,F,Q,m,h3⟩:=W;have p:H' T=MY/\X.s₀.heap.get? T=MY:=by
  by_cases hm:T∈ext++frs X.stack
  ·rcases OE.mp hm with hm|hm
   ·exact⟨(c T hm).2,(c T hm).1⟩
   ·obtain⟨o,e,nf⟩:=f T hm
    rw[Q]at e;cases e;exact NE m (nf P)
  ·have hs:s'.heap.get? T=MY:=by
    cases q:s'.heap.get? T with
    |none=>rfl
    |some o=>rw[hideAll_get _ q hm]at l;cases l
   constructor
   ·cases q:H' T with
    |none=>rfl
    |some o=>obtain⟨ob,e⟩:=(hok T o q).there;rw[hs]at e;cases e
   ·cases q:X.s₀.heap.get? T with
    |none=>rfl
    |some o=>obtain⟨ob,e⟩:=d.there T o q (by simp);rw[hs]at e;cases e
 refine⟨os,bare,⟨λb o e n hb _=>?_,λb o e n hb _=>?_,λb o e n hb=>d.free b o e n hb,λb o e _=>?_,d.tups,d.frzs,d.tbls⟩,λa o e=>?_,⟨oe,vs,T,oT,P,a0,he,hc,hd,B,F,Q,m,h3,p.1,p.2⟩,(c x O).2,(c x O).1,wish⟩
 ·have nf:b∉frs X.stack:=λz=>(h b z).elim (A b o e) hb
  exact stay b o (d.keep b o e n nf (by simp)) (k b o e) nf
 ·obtain⟨sl,r⟩:=d.slot b o e n (j b hb) (by simp)
  obtain⟨_,J,v,nf⟩:=I.ok.funs.mem hb;rw[e]at v;cases v;obtain⟨N,e3⟩:=Y b _ r nf;exact⟨N,e3⟩
 ·obtain⟨J,r⟩:=d.there b o e (by simp)
  by_cases hb:b∈frs X.stack
  ·obtain⟨o2,v,_⟩:=f b hb
   exact⟨o2,v⟩
  ·exact⟨J,stay b J r (k b o e) hb⟩
 ·refine(hok a o e).stay (λb u hb r=>?_) (λ_ q=>q) λ_ _ q=>q
  have t:H' b≠MY:=by
   rcases hb with rfl|hb
   ·rw[e];simp
   ·rw[hb];simp
  exact stay b u r (λz=>t (c b z).2) λz=>t (y b z)
theorem yU{h base:Ox}(d:h.FunFrames base l)(c:∀b∈frs l,b∈as):h.FunFrames (Wr h as) l:=
 PySem.W.funFrames_hide d λenv e a ha=>c a (by unfold frs;exact RT.mpr ⟨env,e,ha⟩)
theorem HN{X:Cx}{E F:XK}(a:X.stack=X.env::X.outer)(d:X.env.frame=on X.env.locals)(f:X.ex=[])(R:∀cls J H,F cls J H->E cls J H)
  (I:Inv X pins σ H s) (h:CXE X.prog X.w X.stack H s F e s'):
  Nn (NL X.prog X.w) X.A (leaving X.env e) (λ_ j=>CXE X.prog X.w X.outer X.H₀ X.s₀ E e j) E1 s':=by
 obtain⟨x,C,N,rfl,os,bare,un,hok,⟨U,vs,T,W,Y,a0,Z,hc,hd,h1,k,hT,m,h3,n,p⟩,xn,xs,wish⟩:=h;have nofs:∀b∈X.fs,b∈frs X.stack:=λb hb=>by
  rw[a];unfold frs;rw[OU,d];exact M5 _ hb
 have O:Un (frs X.stack) [] X.H₀ H X.s₀.heap s.heap:=by
  have b:=I.base;rw[f]at b;exact b.mono nofs λ_ z=>z
 have U0:=O.trans un;have g:∀b,s.heap.get? b=MY->X.s₀.heap.get? b=MY:=λb e=>by
  cases q:X.s₀.heap.get? b with
  |none=>rfl
  |some o=>obtain⟨o',P⟩:=O.there b o q (by simp);rw[e]at P;cases P
 have c:=I.stack;have i:s'.heap.FunFrames X.base X.stack:=by
  have all:∀(l:List Ud),(∀b∈frs l,b∈frs X.stack)->s.heap.FunFrames X.base l->s'.heap.FunFrames X.base l:=by
   intro l
   induction l with
   |nil=>intro _ _;trivial
   |cons env r ih=>
    intro hs hl;obtain⟨hk,⟨L,o,t,hn,u,v⟩,hr⟩:=hl;have Q:L∈frs X.stack:=hs L (by unfold frs;rw[OU,t];exact Nb);obtain⟨sl,e⟩:=un.slot L o u (I.stkFree L Q) Q (by simp);exact⟨hk,⟨L,_,t,hn,e,v⟩,ih (λb hb=>hs b (by unfold frs;rw[OU,t];exact M5 _ hb)) hr⟩
  exact all X.stack (λ_ hb=>hb) c
 have y:∀b∈frs X.stack,N b=MY:=λb hb=>by
  obtain⟨_,o,u,_⟩:=c.mem hb;exact un.free b o u (I.stkFree b hb) (by simp)
 have B:∀b∈frs X.stack,b∈[x,T]++frs X.stack:=λb hb=>N1 _ hb;have hF:s'.heap.FunFrames (Wr s'.heap ([x,T]++frs X.stack)) (X.env::X.outer):=by
  have z:=yU i B;rw[a]at z⊢;exact z
 refine wpAny_leaving_nextW (base:=Wr s'.heap ([x,T]++frs X.stack)) (by rw[←a];exact I.ok.frames) hF d ⟨U,vs,T,W,Y,Z,hc,hd,h1,Ws _ (by simp),k,hT,m,h3⟩ (λb o q=>Va _ q) (Ws _ (by simp)) λh' L=>?_;refine⟨x,C,N,rfl,yF I a d f (os.trans I.os) bare U0 hok y (λb hb=>?_) (by simp) (R _ _ _ wish) L⟩;rcases Nq.mp hb with rfl|hb
 ·exact⟨g _ xs,xn⟩
 ·obtain rfl:b=T:=by simpa using hb
  exact⟨g _ p,n⟩
section
variable{X:Cx}{pins:List (M3×NM)}{σ:St}{H H':Hp}{s s':Ng}{E:XK}{x C:M3}
structure XC (K:NA) (C:M3):Prop where
 sh:∃bm,∀h:Ox,K.In h->XShape h C bm
 sa:Ra K (.ref C) "__setattr__"=on (on (.builtin "object.__setattr__"))
 cd:∃cd,PySem.W.clsIn K C=on cd/\cd.hasDict=M2/\vG cd.mro=M2
structure XMk (K:NA) (C f:M3):Prop where
 xc:XC K C
 init:Ra K (.ref C) "__init__"=on (on (.ref f))
 fn:isFn K (.ref f)=M2
 kp:Su K (.ref C)=M2
end
section
variable{X:Cx}{CX:CXT}{k:Nat}{f C:M3}{fd:NK}{ps:List NY}{sp:Sp}{dvs:List V}{ds:List M7}{E:St->XK}{x m:NY}{p pos apos:RN}{e o:Expr}{es:List Expr}{ta:TE}{t:TA}
structure ClsFn (K:NA) (D:M3) (m:NY) (f:M3):Prop where
 ga:specialIn K (.ref D) "__getattribute__"=on (on (.builtin "type.__getattribute__"))
 rd:PySem.W.readsIn K D (.type "type")=M2
 fnd:PySem.W.findCls K (.ref D) (.type "type") m=on (.val (.ref f))
 kp:Su K (.ref f)=M2
end
section
variable{P:NQ}{w:N0}{K:NA}{mg:NY->Option M7}{base:Ox}{N:List NY}{qual:NY}{scope:Scope}{f:M3}{cd:M7}{A:Oj}{outer:List Ud}{s:Ng}{H:Hp}{E:XK}
theorem gE:cT (CXE P w) (eM (CXE P w) P w K mg base N qual scope f cd A outer s H E) (λ_=>E):=λa b c d e s' I h=>HN (X:=eM (CXE P w) P w K mg base N qual scope f cd A outer s H E) rfl rfl rfl (λ_ _ _ z=>z) I h
theorem wo:cT (CXE P w) X E0:=λ_ _ _ _ _ _ _ h=>by
 obtain⟨_,_,_,_,F⟩:=h;exact F.wish.elim
theorem cq:PassesOwn (NL P w) (A.deeper (Rl qual scope s.heap.objs.size f cd)) (Rl qual scope s.heap.objs.size f cd) (eM (CXE P w) P w K mg base N qual scope f cd A outer s H E).xe:=PassesOwn.leaving
structure FunD (K:NA) (x qual:NY) (st:OA) (f:M3) (fd:NK):Prop where
 ex:∃(oc:M7) (od:Option M3) (dV kV doc pm:M7) (an:Option M3) (cdv ct:M7) (osl:Array (Option M7)),
  fd=Q3 x qual (gO st) (cc st) (ae st) dV kV doc pm an cdv ct/\K.lookup f=on ⟨oc,od,.func fd,osl⟩/\RA K cdv qual=M2
 kp:Su K (.ref f)=M2
theorem IM{K:NA}{x qual:NY}{st:OA}{f:M3}(l:K.lookup f=on ⟨oc,od,.func (Q3 x qual (gO st) (cc st) (ae st) dV kV doc pm an cdv ct),osl⟩)
  (c:RA K cdv qual=M2) (k:Su K (.ref f)=M2):FunD K x qual st f (Q3 x qual (gO st) (cc st) (ae st) dV kV doc pm an cdv ct):=⟨⟨oc,od,dV,kV,doc,pm,an,cdv,ct,osl,rfl,l,c⟩,k⟩
theorem FunD.okE{x qual:NY}{st:OA}{f:M3}{N ps:List NY}(F:FunD K x qual st f fd)(S:FnScope N ps (ae st))(len:∀vs H Q E,sp vs H Q E->vs.length=ps.length)
  (b:∀(a:M7) (A:Oj) (outer:List Ud) (s:Ng) (H:Hp) (vs:List V) (Q:VK) (E:XK),Room k (A.deeper (Rl qual (ae st) s.heap.objs.size f a))->sp vs H Q E->
   ∃t,PSs (eM (CXE P w) P w K mg base N qual (ae st) f a A outer s H E) (cc st) t/\t {nx:=λ_ e=>Q .non e,rt:=Q} (eC N vs) H):FnOk P w K mg base (CXE P w) (k+1) f fd ps sp:=by
 obtain⟨l,m,n,o,g,p,q,a,ct,h,rfl,i,c⟩:=F.ex;exact FQ i c S len λA outer s H vs Q E j d=>b a A outer s H vs Q E j d
theorem FunD.ok{x qual:NY}{st:OA}{f:M3}{N ps:List NY}(F:FunD K x qual st f fd)(S:FnScope N ps (ae st))(len:∀vs H Q E,sp vs H Q E->vs.length=ps.length)
  (b:∀(a:M7) (A:Oj) (outer:List Ud) (s:Ng) (H:Hp) (vs:List V) (Q:VK) (E:XK),Room k (A.deeper (Rl qual (ae st) s.heap.objs.size f a))->sp vs H Q E->
   ∃t,PSs (eM (CXE P w) P w K mg base N qual (ae st) f a A outer s H E).nox (cc st) t/\t {nx:=λ_ e=>Q .non e,rt:=Q} (eC N vs) H):FnOk P w K mg base (CXE P w) (k+1) f fd ps sp:=by
 obtain⟨m,n,o,p,g,r,u,a,ct,i,rfl,j,c⟩:=F.ex;refine FQ j c S len λA outer s H vs Q E l d=>?_;obtain⟨t,h,q⟩:=b a A outer s H vs Q E l d;exact⟨t,h.nox,q⟩
abbrev TJ:=St->Hp->Nat->(Nat->Hp->Prop)->Prop
variable{X:Cx}{es:List Expr}{t:TJ}{pos:RN}
theorem qT(i:X.calm=M2):cK X (.builtin "sum") (λxs H Q=>∃(a:M3) (ns:List Int),xs=[.ref a]/\SqL X.K H a (ns.map V.int)/\Q (.int ns.sum) H):=by
 intro b s o H xs us Q I r h;obtain⟨a,ns,rfl,j,q⟩:=h;cases r with
 |cons r1 k=>
  cases r1;cases k;obtain⟨its,l,p,u⟩:=I.list j;have c:=oU l;obtain⟨xs,ex⟩:=c.allInts.items;have d:=p.isList;rw[ex]at d;refine sum_intListG (I.ok.hd i) d λh' v t' m=>?_;have e:preSum (numAt xs) xs.size=ns.sum:=by
   have g:=c.numsOf;have n:its=(Vh xs).toList:=by rw[←ex]
   rw[n,nums_intItems]at g;rw[preSum_eq,OR (by simp),g]
  rw[e];exact⟨.int ns.sum,H,I.kept m,⟨_,rfl⟩,q⟩
def rY(i j:Int):Prop:=0<j/\j.natAbs.log2<9000
theorem z9:OpR X (PR .FloorDiv) (rI rY λi j=> .int (i/j)):=opI λi j _ _ _ _ _ a q=>by
 have b:(0:Int)<j:=a.1;refine floordiv_int (by omega) ?_ (.inl (Ug a.2));rw[RY _ (by omega)];exact q
def ipC(C:Int->Int->Prop)(f:Int->Int->Int):TIp:=λx y H Q=>∃i j,x= .int i/\y= .int j/\C i j/\Q (.int (f i j)) H
theorem IJ:PIp X .FloorDiv (ipC rY λi j=>i/j):=by
 intro a s d H x y v u Q I r1 b h;obtain⟨i,j,rfl,rfl,c,q⟩:=h;obtain⟨t,rfl⟩:=r1;obtain⟨t',rfl⟩:=b;have e:(0:Int)<j:=c.1;refine ifloordiv_int (by omega) ?_ (.inl (Ug c.2));rw[RY _ (by omega)];exact⟨.int _,H,I.tok _,⟨_,rfl⟩,q⟩
theorem xq:∀{cs:List String} {us:List M7},ar (cs.map V.ty) us->us=cs.map PZ
 |[],_,r=>by cases r;rfl
 |c::cs,_,r=>by
  cases r with
  |cons r1 a=>
   cases r1;rw[xq a];rfl
theorem w4{K:NA}{xs:List V}{H:Hp}(Pv:Nat->St->Hp->Prop)(u:Pv 0 c H)(k:∀i c H,i<=xs.length->Pv i c H->SqL K H a xs)
  (h:∀i x c H,xs[i]?=on x->Pv i c H->g x c H λd v=>tt d v λb r=>if b=M2 then tb d r (Pv (i+1))else Pv (i+1) d r) (l:∀c H,Pv xs.length c H->Q c H):cJ (Itl K a) g tt tb c H Q:=by
 refine⟨λi m c H=>i<=xs.length/\m+i=xs.length/\Pv i c H,⟨xs.length,OC _,by omega,u⟩,λi m c H ⟨n,hm,j⟩=>?_⟩;by_cases o:i<xs.length
 ·refine .inr ⟨⟨xs,xs[i],k i c H n j,M6 o⟩,Pv (i+1),λy p q=>⟨m-1,by omega,by omega,by omega,q⟩,λx p ⟨e,B⟩=>?_⟩
  subst e;exact h i x c p (B xs (k i c p n j)) j
 ·obtain rfl:i=xs.length:=by omega
  exact .inl ⟨⟨xs,k _ c H n j,Nh _⟩,l c H j⟩
theorem CmpScope.plain{X:Cx}{scope:Scope}(k:scope.kind= .function)(nd:(scope.names.map (·.1)).Nodup)(f:∀y∈scope.names,y.2≠ .free):CmpScope X scope vars vars []:=
 ⟨k,nd,λy a e=>NE e (f y a),by simp,λj b=>NE b (by simp)⟩
def rX(i j:Int):Prop:=i.natAbs<2^1000/\j.natAbs<2^1000
theorem iM{k:Int}(h:k.natAbs<2^1000):Ur k<=2^20:=by
 unfold Ur;split
 ·exact OC _
 ·rename_i a
  have b:k.natAbs≠0:=by
   intro z;have:k=0:=Int.natAbs_eq_zero.mp z;subst this;simp at a
  have:=(Nat.log2_lt b).mpr h;have e:(2:Nat)^20=1048576:=by decide
  omega
theorem lQ{X:Cx}:OpR X (PR .Mult) (rI rX λi j=> .int (i*j)):=opI λ_ _ _ _ _ _ _ a q=>mul_int q (Vr (iM a.1) (iM a.2))
theorem bv.upd{H:Hp}(h:H a=MY):bv H (upd H a o):=λb u e=>by rw[upd_ne (aw e h)];exact e
abbrev KyD:=Int×List Int
noncomputable def hI(k:List Int):Int:=reduceHash (Rh (k.map hashInt))
def hB:Bool->KyD->Int
 |true,k=>reduceHash (Rh [hashInt k.1,hI k.2])
 |false,k=>hI k.2
def xg(a:M3)(b:Bool)(ep:Nat)(xs:List (KyD×M3×V))(h:Ox):Prop:=
 ∃o es,∃ys:List (KyD×M3×M7),h.get? a=on o/\o.ExactDict/\o.data= .dict es ep/\es.toList=ys.map (λy=>⟨hB b y.1,.ref y.2.1,y.2.2⟩)/\(ys.map (·.1)).Nodup/\(a==T1)=M4/\ys.length<=Nr/\
  Sk (λ(x:KyD×M3×V) (y:KyD×M3×M7)=>x.1=y.1/\x.2.1=y.2.1/\aF x.2.2 y.2.2) xs ys
noncomputable def bN(a:M3)(b:Bool)(ep:Nat)(xs:List (KyD×M3×V)):HO:= .ext (xg a b ep xs)
theorem p9{P:NQ}{w:N0}{b:Bool}{H:Hp}(S:xg a b ep xs h):br P w H h a (bN a b ep xs):=by
 refine⟨S,?_,λc d z k=>?_⟩
 ·obtain⟨o,_,_,e,_⟩:=S
  exact⟨o,e⟩
 ·obtain⟨o,es,ys,e,r⟩:=z
  exact⟨o,es,ys,k _ e,r⟩
end
end L2
namespace L2.Pu
open PySem PySem.Spec PyProof.Rows
theorem ex6{α d e:Sort _}{P Q R:α->d->e->Prop}{C:Prop}(h:∃a b c,P a b c/\Q a b c/\R a b c)(k:∀a b c,P a b c->Q a b c->R a b c->C):C:=by
 obtain⟨a,b,c,x,y,z⟩:=h;exact k a b c x y z
theorem ex5{α c:Sort _}{P Q R:α->c->Prop}{C:Prop}(h:∃a b,P a b/\Q a b/\R a b)(k:∀a b,P a b->Q a b->R a b->C):C:=by
 obtain⟨a,b,x,y,z⟩:=h;exact k a b x y z
inductive D where
 |non|bl (b:Bool)|int (i:Int)|str (x:NY)|ty (n:String)|txt
 |lst (xs:List D)|tup (xs:List D)|scr (xs:List Int)|obj (C:M3) (ns:List NY) (xs:List D)|bag|adr (a:M3)|dct (b:Bool) (ks:List KyD) (vs:List D)
structure Bg where
 cells:List Int
 i:Int
 j:Int
structure Fx where
 A:M3->Prop
 bg:Option (M3×M3)
def KL(K:NA)(a:M3)(xs:List V):Prop:=
 ∃(o:NM) (its:Array M7) (n:Nat),K.lookup a=on o/\o.cls= .type "list"/\o.dict=MY/\o.data= .seq its n/\its.size<=Nr/\ar xs its.toList
def KT(K:NA)(a:M3)(xs:List V):Prop:=
 ∃(o:NM) (its:Array M7) (n:Nat),K.lookup a=on o/\o.cls= .type "tuple"/\o.data= .seq its n/\its.size<=Nr/\ar xs its.toList
def TQ(K:NA)(F:Fx)(H:Hp)(c:M3)(xs:List V):Prop:=(¬F.A c/\Rd H c (.tup xs))\/KT K c xs
def dZ(K:NA)(F:Fx)(H:Hp):Bool->KyD->M3->Prop
 |true,k,c=>∃e,TQ K F H c [.int k.1,.ref e]/\TQ K F H e (k.2.map V.int)
 |false,k,c=>k.1=0/\TQ K F H c (k.2.map V.int)
mutual
noncomputable def Den(K:NA)(F:Fx)(H:Hp):D->V->Prop
 | .non,v=>v= .non
 | .bl b,v=>v= .bl b
 | .int i,v=>v= .int i
 | .str x,v=>v= .str x
 | .ty n,v=>v= .ty n
 | .txt,v=>∃z,v= .str z
 | .lst ds,v=>∃a xs,v= .ref a/\(¬F.A a/\Rd H a (.lst xs))/\DenL K F H ds xs
 | .scr ns,v=>∃a,v= .ref a/\((¬F.A a/\Rd H a (.lst (ns.map V.int)))\/KL K a (ns.map V.int))
 | .tup ds,v=>∃a xs,v= .ref a/\((¬F.A a/\Rd H a (.tup xs))\/KT K a xs)/\DenL K F H ds xs
 | .obj C ns ds,v=>∃a c xs,v= .ref a/\¬F.A a/\H a=on (.ins C c (ns.zip xs))/\ns.length=xs.length/\DenL K F H ds xs
 | .bag,v=>∃b l,F.bg=on (b,l)/\v= .ref b
 | .adr a,v=>v= .ref a
 | .dct b ks vs,v=>∃a ep xs,v= .ref a/\(¬F.A a/\H a=on (bN a b ep xs))/\ks=xs.map (·.1)/\(∀x∈xs,dZ K F H b x.1 x.2.1)/\DenL K F H vs (xs.map (·.2.2))
noncomputable def DenL(K:NA)(F:Fx)(H:Hp):List D->List V->Prop
 |[],xs=>xs=[]
 |d::ds,xs=>∃x r,xs=x::r/\Den K F H d x/\DenL K F H ds r
end
structure Tr (F:Fx) (H:Hp) (F2:Fx) (H2:Hp):Prop where
 av:∀a,¬F.A a->H a≠MY->¬F2.A a
 kp:∀a o,¬F.A a->H a=on o->H2 a=on o
 bg:F2.bg=F.bg
theorem Tr.refl(F:Fx)(H:Hp):Tr F H F H:=⟨λ_ h _=>h,λ_ _ _ h=>h,rfl⟩
theorem Tr.trans(a:Tr F H F1 H1)(b:Tr F1 H1 F2 H2):Tr F H F2 H2:=
 ⟨λx c d=>b.av x (a.av x c d) (by
   cases q:H x with
   |none=>exact NE q d
   |some o=>rw[a.kp x o c q];simp),
  λx o c d=>b.kp x o (a.av x c (by rw[d];simp)) (a.kp x o c d),b.bg.trans a.bg⟩
theorem Rd.tr{F b:Fx}(t:Tr F H b H2)(h:¬F.A a)(r:Rd H a u):¬b.A a/\Rd H2 a u:=by
 rcases r with r|⟨o,r⟩
 ·exact⟨t.av a h (by rw[r];simp),.inl (t.kp a _ h r)⟩
 ·exact⟨t.av a h (by rw[r];simp),.inr ⟨o,t.kp a _ h r⟩⟩
theorem TQ.tr{K:NA}(t:Tr F H F2 H2)(h:TQ K F H c xs):TQ K F2 H2 c xs:=h.imp (λh=>Rd.tr t h.1 h.2) id
theorem dZ.tr{K:NA}{b:Bool}(t:Tr F H F2 H2)(h:dZ K F H b k c):dZ K F2 H2 b k c:=by
 cases b with
 |true=>
  obtain⟨e,a,d⟩:=h;exact⟨e,a.tr t,d.tr t⟩
 |false=>exact⟨h.1,h.2.tr t⟩
mutual
theorem Den.tr{K:NA}(t:Tr F H F2 H2):∀(d:D) (v:V),Den K F H d v->Den K F2 H2 d v
 | .non,v,h=>h
 | .bl b,v,h=>h
 | .int i,v,h=>h
 | .str x,v,h=>h
 | .ty n,v,h=>h
 | .txt,v,h=>h
 | .lst ds,v,h=>by
  unfold Den at h⊢;obtain⟨a,xs,e,c,f⟩:=h;exact⟨a,xs,e,Rd.tr t c.1 c.2,DenL.tr t ds xs f⟩
 | .scr ns,v,h=>by
  unfold Den at h⊢;obtain⟨a,e,c⟩:=h;exact⟨a,e,c.imp (λ⟨p,q⟩=>Rd.tr t p q) id⟩
 | .tup ds,v,h=>by
  unfold Den at h⊢;obtain⟨a,xs,e,c,f⟩:=h;exact⟨a,xs,e,c.imp (λ⟨p,q⟩=>Rd.tr t p q) id,DenL.tr t ds xs f⟩
 | .obj C ns ds,v,h=>by
  unfold Den at h⊢;obtain⟨a,k,xs,e,c,f,g,j⟩:=h;exact⟨a,k,xs,e,t.av a c (by rw[f];simp),t.kp a _ c f,g,DenL.tr t ds xs j⟩
 | .bag,v,h=>by
  unfold Den at h⊢;rw[t.bg];exact h
 | .adr a,v,h=>by
  unfold Den at h⊢;exact h
 | .dct b ks vs,v,h=>by
  unfold Den at h⊢;obtain⟨a,ep,xs,e,c,f,g,j⟩:=h;exact⟨a,ep,xs,e,⟨t.av a c.1 (by rw[c.2];simp),t.kp a _ c.1 c.2⟩,f,λx l=>(g x l).tr t,DenL.tr t vs _ j⟩
theorem DenL.tr{K:NA}(t:Tr F H F2 H2):∀(ds:List D) (xs:List V),DenL K F H ds xs->DenL K F2 H2 ds xs
 |[],xs,h=>h
 |d::ds,xs,h=>by
  unfold DenL at h⊢;obtain⟨x,r,e,a,b⟩:=h;exact⟨x,r,e,Den.tr t d x a,DenL.tr t ds r b⟩
end
section
variable{K:NA}{F:Fx}{H:Hp}
theorem DenL.nil:DenL K F H [] []:=rfl
theorem DenL.cons(h:Den K F H d x)(t:DenL K F H ds xs):DenL K F H (d::ds) (x::xs):=⟨x,xs,rfl,h,t⟩
theorem DenL.length:∀{ds:List D} {xs:List V},DenL K F H ds xs->ds.length=xs.length
 |[],xs,h=>by have e:xs=[]:=h;subst e;rfl
 |d::ds,xs,h=>by
  obtain⟨x,r,e,_,a⟩:=h;subst e;rw[Nm,Nm,DenL.length a]
theorem DenL.get:∀{ds:List D} {xs:List V} {i:Nat} {d:D},DenL K F H ds xs->ds[i]?=on d->∃x,xs[i]?=on x/\Den K F H d x
 |[],_,_,_,_,e=>by simp at e
 |c::ds,xs,0,d,h,e=>by
  obtain⟨x,r,q,a,b⟩:=h;subst q;simp at e;subst e;exact⟨x,rfl,a⟩
 |c::ds,xs,i+1,d,h,e=>by
  obtain⟨x,r,q,a,b⟩:=h;subst q;obtain⟨y,f,g⟩:=DenL.get (i:=i) (d:=d) b (by simpa using e);exact⟨y,by simpa using f,g⟩
theorem DenL.getV:∀{ds:List D} {xs:List V} {i:Nat} {x:V},DenL K F H ds xs->xs[i]?=on x->∃d,ds[i]?=on d/\Den K F H d x
 |[],xs,_,_,h,e=>by have q:xs=[]:=h;subst q;simp at e
 |c::ds,xs,0,d,h,e=>by
  obtain⟨x,r,q,a,b⟩:=h;subst q;simp at e;subst e;exact⟨c,rfl,a⟩
 |c::ds,xs,i+1,d,h,e=>by
  obtain⟨x,r,q,a,b⟩:=h;subst q;obtain⟨y,f,g⟩:=DenL.getV (i:=i) (x:=d) b (by simpa using e);exact⟨y,by simpa using f,g⟩
theorem DenL.append:∀{ds es:List D} {xs ys:List V},DenL K F H ds xs->DenL K F H es ys->DenL K F H (ds++es) (xs++ys)
 |[],_,xs,_,h,h'=>by have q:xs=[]:=h;subst q;exact h'
 |c::ds,es,xs,ys,h,h'=>by
  obtain⟨x,r,q,a,b⟩:=h;subst q;exact⟨x,r++ys,rfl,a,DenL.append b h'⟩
theorem DenL.take:∀{ds:List D} {xs:List V} (n:Nat),DenL K F H ds xs->DenL K F H (ds.take n) (xs.take n)
 |[],xs,n,h=>by have q:xs=[]:=h;subst q;simp;rfl
 |c::ds,xs,0,h=>by simp;rfl
 |c::ds,xs,n+1,h=>by
  obtain⟨x,r,q,a,b⟩:=h;subst q;exact⟨x,r.take n,rfl,a,DenL.take n b⟩
theorem DenL.drop:∀{ds:List D} {xs:List V} (n:Nat),DenL K F H ds xs->DenL K F H (ds.drop n) (xs.drop n)
 |[],xs,n,h=>by have q:xs=[]:=h;subst q;simp;rfl
 |c::ds,xs,0,h=>h
 |c::ds,xs,n+1,h=>by
  obtain⟨x,r,q,b,a⟩:=h;subst q;exact DenL.drop n a
theorem DenL.set:∀{ds:List D} {xs:List V} (i:Nat) {d:D} {x:V},DenL K F H ds xs->Den K F H d x->DenL K F H (ds.set i d) (xs.set i x)
 |[],xs,i,_,_,h,_=>by have q:xs=[]:=h;subst q;simp;rfl
 |c::ds,xs,0,d,x,h,hd=>by
  obtain⟨y,r,q,b,a⟩:=h;subst q;exact⟨x,r,rfl,hd,a⟩
 |c::ds,xs,i+1,d,x,h,hd=>by
  obtain⟨y,r,q,b,a⟩:=h;subst q;exact⟨y,r.set i x,rfl,b,DenL.set i a hd⟩
theorem Den.sqL(h:Den K F H (.lst ds) v):∃a xs,v= .ref a/\SqL K H a xs/\DenL K F H ds xs:=by
 unfold Den at h;obtain⟨a,xs,e,b,c⟩:=h;exact⟨a,xs,e,.inl b.2,c⟩
theorem Den.rdL(h:Den K F H (.lst ds) v):∃a xs,v= .ref a/\Rd H a (.lst xs)/\DenL K F H ds xs:=by
 unfold Den at h;obtain⟨a,xs,e,b,c⟩:=h;exact⟨a,xs,e,b.2,c⟩
theorem Den.scr{ns:List Int}(h:Den K F H (.scr ns) v):∃a,v= .ref a/\SqL K H a (ns.map V.int):=by
 unfold Den at h;obtain⟨a,e,b⟩:=h;exact⟨a,e,b.imp (λp=>p.2) id⟩
theorem Den.sqT(h:Den K F H (.tup ds) v):∃a xs,v= .ref a/\SqT K H a xs/\DenL K F H ds xs:=by
 unfold Den at h;obtain⟨a,xs,e,b,c⟩:=h;exact⟨a,xs,e,b.imp (λp=>p.2) id,c⟩
theorem Den.int(h:Den K F H (.int i) v):v= .int i:=h
theorem Den.bl{i:Bool}(h:Den K F H (.bl i) v):v= .bl i:=h
theorem Den.str(h:Den K F H (.str i) v):v= .str i:=h
theorem Den.non(h:Den K F H .non v):v= .non:=h
theorem Den.ty(h:Den K F H (.ty n) v):v= .ty n:=h
theorem DenL.ints:∀(ns:List Int) {xs:List V},DenL K F H (ns.map D.int) xs->xs=ns.map V.int
 |[],xs,h=>h
 |n::ns,xs,h=>by
  obtain⟨x,r,e,a,b⟩:=h;rw[e,DenL.ints ns b];have q:x= .int n:=a;rw[q];rfl
theorem DenL.ofInts:∀(ns:List Int),DenL K F H (ns.map D.int) (ns.map V.int)
 |[]=>rfl
 |n::ns=>⟨.int n,ns.map V.int,rfl,rfl,DenL.ofInts ns⟩
structure Fr (F:Fx) (H:Hp) (β:Bg):Prop where
 occ:∀a,F.A a->H a≠MY
 bgA:∀b l,F.bg=on (b,l)->F.A b/\F.A l/\b≠l
 bag:∀b l,F.bg=on (b,l)->H b=on (.lst [.ref l,.int β.i,.int β.j])/\H l=on (.lst (β.cells.map V.int))
structure To (F:Fx) (H H':Hp) (β':Bg):Prop where
 kp:∀a o,H a=on o->(∀b l,F.bg=on (b,l)->a≠b/\a≠l)->H' a=on o
 fr:Fr F H' β'
theorem To.refl{F:Fx}{H:Hp}(fr:Fr F H β):To F H H β:=⟨λ_ _ h _=>h,fr⟩
theorem To.trans{F:Fx}{H c d:Hp}(a:To F H c β1)(b:To F c d β2):To F H d β2:=⟨λx o h n=>b.kp x o (a.kp x o h n) n,b.fr⟩
theorem Fr.same{F:Fx}{H c:Hp}(fr:Fr F H β)(s:bv H c):To F H c β:=
 ⟨λa o h _=>s a o h,⟨λa h q=>(by
  cases e:H a with
  |none=>exact fr.occ a h e
  |some o=>exact NE ((s a o e).symm.trans q) (by simp)),fr.bgA,λb l e=>⟨s _ _ (fr.bag b l e).1,s _ _ (fr.bag b l e).2⟩⟩⟩
theorem Fr.upd{F:Fx}{H:Hp}(fr:Fr F H β)(o:HO)(h:H p=MY):To F H (upd H p o) β:=fr.same (bv.upd h)
theorem Fr.fresh{F:Fx}{H:Hp}(fr:Fr F H β)(h:H p=MY):¬F.A p:=λq=>fr.occ p q h
theorem To.tr{F:Fx}{H c:Hp}(fr:Fr F H β)(t:To F H c β'):Tr F H F c:=
 ⟨λ_ h _=>h,λa o h e=>t.kp a o e λb l q=>⟨λz=>h (z▸(fr.bgA b l q).1),λz=>h (z▸(fr.bgA b l q).2.1)⟩,rfl⟩
abbrev Dn:=List (Option D)
structure VOk (K:NA) (F:Fx) (H:Hp) (δ:Dn) (σ:St):Prop where
 len:δ.length=σ.length
 tell:∀(i:Nat) (d:D),δ[i]?=on (on d)->∃v,σ[i]?=on (on v)/\Den K F H d v
theorem VOk.tr{K:NA}{F a:Fx}{H b:Hp}(t:Tr F H a b)(h:VOk K F H δ σ):VOk K a b δ σ:=⟨h.len,λi d e=>let ⟨v,h1,h2⟩:=h.tell i d e;⟨v,h1,Den.tr t d v h2⟩⟩
theorem VOk.set{K:NA}{F:Fx}{H:Hp}{δ:Dn}{a:St}(h:VOk K F H δ a)(hd:Den K F H d v):VOk K F H (δ.set i (on d)) (a.set i (on v)):=by
 refine⟨by rw[N7,N7,h.len],λj c e=>?_⟩;rw[N9]at e;rw[N9];by_cases q:i=j
 ·subst q
  rw[Nf rfl]at e⊢;split at e
  ·rename_i b
   cases e;rw[Nf (by rw[←h.len];exact b)];exact⟨v,rfl,hd⟩
  ·cases e
 ·rw[M8 q]at e⊢
  exact h.tell j c e
def Sub(δ δ1:Dn):Prop:=∀(i:Nat) (d:D),δ[i]?=on (on d)->δ1[i]?=on (on d)
theorem VOk.sub{K:NA}{F:Fx}{H:Hp}{δ δ1:Dn}(h:VOk K F H δ1 σ)(s:Sub δ δ1)(l:δ.length=δ1.length):VOk K F H δ σ:=⟨l.trans h.len,λi d e=>h.tell i d (s i d e)⟩
abbrev M(α:Type):=Bg->Option (Except M3 α×Bg)
noncomputable def M.ret{α:Type}(a:α):M α:=λβ=>on (.ok a,β)
noncomputable def M.bind{α b:Type}(m:M α)(k:α->M b):M b:=λβ=>match m β with
 |none=>MY
 |some (.error C,β1)=>on (.error C,β1)
 |some (.ok a,β1)=>k a β1
noncomputable def M.ofO{α:Type}(o:Option α):M α:=λβ=>match o with
 |some a=>on (.ok a,β)
 |none=>MY
noncomputable def M.fail{α:Type}:M α:=λ_=>MY
theorem M.bind_some{α b:Type}(a:α)(k:α->M b):M.bind (M.ofO (on a)) k=k a:=rfl
theorem M.bind_ok{α b:Type}{m:M α}{k:α->M b}{β β1:Bg}{a:α}(h:m β=on (.ok a,β1)):M.bind m k β=k a β1:=by unfold M.bind;rw[h]
theorem M.bind_err{α a:Type}{m:M α}{k:α->M a}{β β1:Bg}{C:M3}(h:m β=on (.error C,β1)):M.bind m k β=on (.error C,β1):=by unfold M.bind;rw[h]
def run{α c:Type}(R:Hp->α->c->Prop)(F:Fx)(E:St->XK)(e:St)(m:M α)(H:Hp)(Q:c->Hp->Prop)(β:Bg):Prop:=
 ∃r a,m β=on (r,a)/\match r with
  | .ok d=>∀v b,To F H b a->R b d v->Q v b
  | .error C=>∀b,To F H b a->E e (.ref C) MY b
theorem run.mono{α c:Type}{R:Hp->α->c->Prop}{F:Fx}{E:St->XK}{g:St}{m:M α}{H:Hp}{Q i:c->Hp->Prop}{β:Bg}(h:run R F E g m H Q β)(f:∀v a,Q v a->i v a):run R F E g m H i β:=by
 obtain⟨r,b,e,h⟩:=h;refine⟨r,b,e,?_⟩;cases r with
 |ok d=>exact λv a t q=>f v a (h v a t q)
 |error C=>exact h
theorem run.bind{α l i j:Type}{R:Hp->α->l->Prop}{R2:Hp->i->j->Prop}{F:Fx}{E:St->XK}{b:St}{m:M α}{k:α->M i}{H:Hp}{Q:j->Hp->Prop}{β:Bg}(h:run R2 F E b (M.bind m k) H Q β):
  run R F E b m H (λv a=>∃d β1,To F H a β1/\R a d v/\run R2 F E b (k d) a Q β1) β:=by
 obtain⟨r,c,e,h⟩:=h;cases q:m β with
 |none=>unfold M.bind at e;rw[q]at e;cases e
 |some z=>
  obtain⟨r1,β1⟩:=z;refine⟨r1,β1,q,?_⟩;cases r1 with
  |error C=>
   rw[M.bind_err q]at e;cases e;exact h
  |ok d=>
   rw[M.bind_ok q]at e;intro v a t hd;refine⟨d,β1,t,hd,r,c,e,?_⟩;cases r with
   |ok d2=>exact λn f g o=>h n f (t.trans g) o
   |error C=>exact λf g=>h f (t.trans g)
theorem run.ret{α b:Type}{R:Hp->α->b->Prop}{F:Fx}{E:St->XK}{c:St}{a:α}{v:b}{H:Hp}{Q:b->Hp->Prop}{β:Bg}(fr:Fr F H β)(h:run R F E c (M.ret a) H Q β)(r:R H a v):Q v H:=by
 obtain⟨_,_,e,h⟩:=h;cases e;exact h v H (To.refl fr) r
theorem run.ofO{α c:Type}{R:Hp->α->c->Prop}{F:Fx}{E:St->XK}{d:St}{o:Option α}{H:Hp}{Q:c->Hp->Prop}{β:Bg}(h:run R F E d (M.ofO o) H Q β):∃a,o=on a/\∀v b,To F H b β->R b a v->Q v b:=by
 obtain⟨_,_,e,h⟩:=h;cases o with
 |none=>cases e
 |some a=>cases e;exact⟨a,rfl,h⟩
abbrev FD:=Dn->M D
abbrev FL:=Dn->M (List D)
def tV(K:NA)(f:FD)(E:St->XK):TE:=λa H Q=>∃F δ β,Fr F H β/\VOk K F H δ a/\run (Den K F) F E a (f δ) H Q β
def tVA(K:NA)(f:FL)(E:St->XK):TA:=λa H Q=>∃F δ β,Fr F H β/\VOk K F H δ a/\run (DenL K F) F E a (f δ) H Q β
def tVT(K:NA)(f:Dn->M Bool)(E:St->XK):TT:=λc H Q=>∃F δ β,Fr F H β/\VOk K F H δ c/\run (λ_ (a b:Bool)=>b=a) F E c (f δ) H Q β
theorem _root_.L2.PE.imp(h:PE X e t)(f:∀a H Q,t' a H Q->t a H Q):PE X e t':=λb s a H Q I q=>h b s a H Q I (f a H Q q)
theorem _root_.L2.PT.imp(h:PT X e t)(f:∀a H Q,t' a H Q->t a H Q):PT X e t':=λb s a H Q I q=>h b s a H Q I (f a H Q q)
theorem _root_.L2.PW.imp(h:PW X e t)(f:∀a H Q,t' a H Q->t a H Q):PW X e t':=λc b s a H Q I q=>h c b s a H Q I (f a H Q q)
theorem _root_.L2.PA.imp(h:PA X e t)(f:∀a H Q,t' a H Q->t a H Q):PA X e t':=λpos b s a H Q I q=>h pos b s a H Q I (f a H Q q)
def ad(i:Nat):FD:=λδ=>M.ofO (δ.getD i MY)
def fC(d:D):FD:=λ_=>M.ret d
def f1(op:D->Option D)(f:FD):FD:=λδ=>M.bind (f δ) λa=>M.ofO (op a)
def f2(op:D->D->Option D)(f g:FD):FD:=λδ=>M.bind (f δ) λa=>M.bind (g δ) λb=>M.ofO (op a b)
noncomputable def ao:FL:=λ_=>M.ret []
def aa(f:FD)(g:FL):FL:=λδ=>M.bind (f δ) λa=>M.bind (g δ) λas=>M.ret (a::as)
def ax(op:List D->Option D)(g:FL):FD:=λδ=>M.bind (g δ) λas=>M.ofO (op as)
def bJ(m:List D->M D)(g:FL):FD:=λδ=>M.bind (g δ) λas=>m as
variable{X:Cx}{E:St->XK}{e a b:Expr}{es:List Expr}{pos:RN}
theorem LW(i:Nat)(h:PE X (.Name x pos) (mP i)):PE X (.Name x pos) (tV X.K (ad i) E):=h.imp λl H Q c=>by
 obtain⟨F,δ,β,fr,f,r⟩:=c;obtain⟨d,e,r⟩:=run.ofO r;have g:δ[i]?=on (on d):=by
  rw[Na]at e;cases q:δ[i]? with
  |none=>rw[q]at e;cases e
  |some z=>rw[q]at e;simp at e;rw[e]
 obtain⟨v,j,k⟩:=f.tell i d g;exact⟨v,j,r v H (To.refl fr) k⟩
theorem v_c(h:PE X e (tC v))(hd:∀F H,Den X.K F H d v):PE X e (tV X.K (fC d) E):=h.imp λf H Q c=>by obtain⟨F,δ,β,fr,g,r⟩:=c;exact run.ret fr r (hd F H)
theorem ag{i j pos}:PE X (.Constant (.int i) j pos) (tV X.K (fC (.int i)) E):=v_c bz λ_ _=>rfl
theorem jB{i j pos}:PE X (.Constant (.bool i) j pos) (tV X.K (fC (.bl i)) E):=v_c Mn λ_ _=>rfl
theorem vT{j pos}:PE X (.Constant .none j pos) (tV X.K (fC .non) E):=v_c JU λ_ _=>rfl
theorem gT:PA X [] (tVA X.K ao E):=hZ.imp λd H Q c=>by obtain⟨F,δ,β,fr,f,r⟩:=c;exact run.ret fr r DenL.nil
theorem dB(ha:PE X e (tV X.K f E))(k:PA X es (tVA X.K g E))(hs:No (e::es) X.env=(M4,Op e X.env)::No es X.env:=by rfl):PA X (e::es) (tVA X.K (aa f g) E):=
 (dU ha k hs).imp λm H Q c=>ex6 c λF δ β fr i r=>⟨F,δ,β,fr,i,(run.bind (R:=Den X.K F) r).mono λv n ⟨d,β1,t,hd,r1⟩=>
  ⟨F,δ,β1,t.fr,i.tr (t.tr fr),(run.bind (R:=DenL X.K F) r1).mono λvs o c=>ex5 c λds β2 j h l=>run.ret j.fr l (DenL.cons (Den.tr (j.tr t.fr) _ _ hd) h)⟩⟩
def aV(K:NA)(r:R2)(op:D->D->Option D):Prop:=∀(F:Fx) (H:Hp) (β:Bg) (Q:VK) (d1 d2 d:D) (f g:V),Fr F H β->Den K F H d1 f->Den K F H d2 g->op d1 d2=on d->
 (∀v c,To F H c β->Den K F c d v->Q v c)->r f g H Q
def FW(K:NA)(r:V->Hp->VK->Prop)(op:D->Option D):Prop:=∀(F:Fx) (H:Hp) (β:Bg) (Q:VK) (d1 d:D) (f:V),Fr F H β->Den K F H d1 f->op d1=on d->
 (∀v c,To F H c β->Den K F c d v->Q v c)->r f H Q
def dy(K:NA)(r:List V->Hp->VK->Prop)(op:List D->Option D):Prop:=∀(F:Fx) (H:Hp) (β:Bg) (Q:VK) (ds:List D) (d:D) (vs:List V),Fr F H β->DenL K F H ds vs->op ds=on d->
 (∀v c,To F H c β->Den K F c d v->Q v c)->r vs H Q
theorem nS{K:NA}(l:aV K r op){H:Hp}(h:tV K (f2 op f g) E σ H Q):tOp r (tV K f E) (tV K g E) σ H Q:=by
 obtain⟨F,δ,β,fr,j,h⟩:=h;refine⟨F,δ,β,fr,j,(run.bind (R:=Den K F) h).mono λv u c=>ex5 c λd β1 t hd r1=>⟨F,δ,β1,t.fr,j.tr (t.tr fr),(run.bind (R:=Den K F) r1).mono λn o c=>ex5 c λd2 β2 m i p=>?_⟩⟩;obtain⟨d3,q,k⟩:=run.ofO p;exact l F o β2 Q d d2 d3 v n m.fr (Den.tr (m.tr t.fr) _ _ hd) i q k
theorem aW(c:OpR X (PR op) r)(l:aV X.K r o)(ha:PE X a (tV X.K f E))(d:PE X b (tV X.K g E)):PE X (.BinOp a op b pos) (tV X.K (f2 o f g) E):=
 (dj c ha d).imp λ_ _ _=>nS l
theorem lE(c:OpR X (Ou op) r)(l:aV X.K r o)(ha:PE X a (tV X.K f E))(d:PE X b (tV X.K g E))(hm:RJ op b=M4:=by first|exact tq _|rfl):PE X (.Compare a [op] [b] pos) (tV X.K (f2 o f g) E):=
 (HM c ha d hm).imp λ_ _ _=>nS l
theorem v_un(g:UnR X (unaryOp op) r)(l:FW X.K r o)(ha:PE X a (tV X.K f E)):PE X (.UnaryOp op a pos) (tV X.K (f1 o f) E):=
 (Ml g ha).imp λm H Q c=>ex6 c λF δ β fr i h=>⟨F,δ,β,fr,i,(run.bind (R:=Den X.K F) h).mono λv j c=>ex5 c λd β1 t hd r1=>let ⟨d3,e3,k⟩:=run.ofO r1;l F j β1 Q d d3 v t.fr hd e3 k⟩
theorem bj(c:IxR X r)(l:aV X.K r o)(ha:PE X a (tV X.K f E))(d:PE X b (tV X.K g E))(hs:qi b:=by exact λ_ _=>rfl):PE X (.Subscript a b pos) (tV X.K (f2 o f g) E):=
 (fN c ha d hs).imp λ_ _ _=>nS l
theorem xE{K:NA}(l:dy K r op){H:Hp}(h:tV K (ax op g) E σ H Q):tCB r (tVA K g E) σ H Q:=by
 obtain⟨F,δ,β,fr,c,h⟩:=h;refine⟨F,δ,β,fr,c,(run.bind (R:=DenL K F) h).mono λv f i=>ex5 i λd β1 t hd r1=>?_⟩;obtain⟨d3,j,k⟩:=run.ofO r1;exact l F f β1 Q d d3 v t.fr hd j k
theorem bK{f:String}(h:cK X (.builtin f) r)(l:dy X.K r op)(i:Gl X x)(hm:X.mg x=MY)(j:QX x=on (.builtin f))(ha:PA X (e::es) (tVA X.K g E))(hn:x≠"__name__":=by decide)(c:(x==("__debug__":NY))=M4:=by decide)
  (k:No (e::es) X.env=(M4,Op e X.env)::No es X.env:=by rfl) (d:(Ps pos (No es X.env)).any (·.1)=M4:=by rfl):PE X (.Call (.Name x p) (e::es) [] pos) (tV X.K (ax op g) E):=
 (jJ h i hm j ha hn c k d).imp λ_ _ _=>xE l
theorem cy(f:cK X (.type T) r)(l:dy X.K r op)(h:Gl X x)(hm:X.mg x=MY)(i:QX x=on (.type T))(ha:PA X (e::es) (tVA X.K g E))(hn:x≠"__name__":=by decide)(c:(x==("__debug__":NY))=M4:=by decide)
  (j:No (e::es) X.env=(M4,Op e X.env)::No es X.env:=by rfl) (d:(Ps pos (No es X.env)).any (·.1)=M4:=by rfl):PE X (.Call (.Name x p) (e::es) [] pos) (tV X.K (ax op g) E):=
 (yg f h hm i ha hn c j d).imp λ_ _ _=>xE l
noncomputable def bY(ds:List D):Option D:=if ds.length<=Nr then on (.tup ds)else MY
noncomputable def bT(ds:List D):Option D:=if ds.length<=Nr then on (.lst ds)else MY
theorem Den.newT{K:NA}{F:Fx}{H:Hp}(fr:Fr F H β)(h:H p=MY)(hd:DenL K F H ds xs):Den K F (upd H p (.tup xs)) (.tup ds) (.ref p):=
 ⟨p,xs,rfl,.inl ⟨fr.fresh h,.inl ah⟩,DenL.tr ((fr.upd _ h).tr fr) _ _ hd⟩
theorem Den.newL{K:NA}{F:Fx}{H:Hp}(fr:Fr F H β)(h:H p=MY)(hd:DenL K F H ds xs):Den K F (upd H p (.lst xs)) (.lst ds) (.ref p):=
 ⟨p,xs,rfl,⟨fr.fresh h,.inl ah⟩,DenL.tr ((fr.upd _ h).tr fr) _ _ hd⟩
theorem cm{x1}(h:PA X es (tVA X.K g E)):PE X (.Tuple es x1 pos) (tV X.K (ax bY g) E):=
 (JR h).imp λj H Q d=>ex6 d λF δ β fr i r=>⟨F,δ,β,fr,i,(run.bind (R:=DenL X.K F) r).mono λvs l d=>by
  obtain⟨ds,β1,t,hd,r1⟩:=d;obtain⟨d3,c,k⟩:=run.ofO r1;unfold bY at c;split at c
  ·cases c
   exact⟨by rw[←hd.length];assumption,λp f=>k _ _ (t.fr.upd _ f) (Den.newT t.fr f hd)⟩
  ·cases c⟩
theorem cY(h:PA X es (tVA X.K g E)):PE X (.List es pos) (tV X.K (ax bT g) E):=
 (fW h).imp λj H Q d=>ex6 d λF δ β fr i r=>⟨F,δ,β,fr,i,(run.bind (R:=DenL X.K F) r).mono λvs l d=>by
  obtain⟨ds,β1,t,hd,r1⟩:=d;obtain⟨d3,c,k⟩:=run.ofO r1;unfold bT at c;split at c
  ·cases c
   exact⟨by rw[←hd.length];assumption,λp f=>k _ _ (t.fr.upd _ f) (Den.newL t.fr f hd)⟩
  ·cases c⟩
def spF(K:NA)(n:Nat)(m:List D->M D):Sp:=λvs H Q E=>vs.length=n/\∃F ds β,Fr F H β/\DenL K F H ds vs/\run (Den K F) F (λ_=>E) [] (m ds) H Q β
variable{p:RN}{x:NY}{k n:Nat}{f:M3}{fd:NK}{ps:List NY}
theorem run.toE{α c:Type}{R:Hp->α->c->Prop}{F:Fx}{E:St->XK}{d:St}{m:M α}{H:Hp}{Q:c->Hp->Prop}{β:Bg}(h:run R F E d m H Q β):run R F (λ_=>E d) [] m H Q β:=h
theorem xp(G:FnOk X.prog X.w X.K X.mg X.base (CXE X.prog X.w) k f fd ps (spF X.K n m))(q:Room k X.A)(u:Gl X x)(hm:X.mg x=on (.ref f))(v:Su X.K (.ref f)=M2)(y:aC X.K fd ps [])(B:cT (CXE X.prog X.w) X E)
  (ha:PA X (e::es) (tVA X.K g E)) (hn:∀δ β r h,g δ β=on (.ok r,h)->r.length=n) (c:(x==("__debug__":NY))=M4:=by decide) (I:No (e::es) X.env=(M4,Op e X.env)::No es X.env:=by rfl) (d:(Ps pos (No es X.env)).any (·.1)=M4:=by rfl):
  PE X (.Call (.Name x p) (e::es) [] pos) (tV X.K (bJ m g) E):=
 (lO G q u hm v y .nil B ha c I d).imp λT H Q J=>ex6 J λF δ β fr L r=>⟨F,δ,β,fr,L,by
  obtain⟨r0,i,l,o⟩:=run.bind (R:=DenL X.K F) r;refine⟨r0,i,l,?_⟩;cases r0 with
  |error C=>exact o
  |ok ds=>
   intro vs N t hd;obtain⟨d',β1,O,j,r1⟩:=o vs N t hd;have P:=hn _ _ _ _ l;refine⟨by rw[NV,←hd.length,P],F,d',β1,O.fr,by rw[NV];exact j,run.toE r1⟩⟩
theorem DW{r:List D}(h:ao δ β=on (.ok r,β')):r.length=0:=by cases h;rfl
theorem bq{f:FD}{n:Nat}(d:∀δ β r c,g δ β=on (.ok r,c)->r.length=n):∀δ β r c,aa f g δ β=on (.ok r,c)->r.length=n+1:=by
 intro δ β r c h;unfold aa M.bind at h;split at h
 ·cases h
 ·cases h
 ·dsimp only at h
  split at h
  ·cases h
  ·cases h
  ·rename_i as _ i
   cases h;rw[Nm,d _ _ _ _ i]
noncomputable def opI(g:Int->Int->Option D):D->D->Option D
 | .int i,.int j=>g i j
 |_,_=>MY
theorem h9{a b d:D}(h:opI g a b=on d):∃i j,a= .int i/\b= .int j/\g i j=on d:=by
 cases a<;>cases b<;>first|(exact⟨_,_,rfl,rfl,h⟩)|(cases h)
theorem yC{g:Int->Int->Int}:aV K (rI0 λi j=> .int (g i j)) (opI λi j=>on (.int (g i j))):=λF H β Q d1 d2 d l m fr c h e k=>by
 obtain⟨i,j,rfl,rfl,e⟩:=h9 e;cases e;exact⟨i,j,c,h,k _ H (To.refl fr) rfl⟩
theorem jP{g:Int->Int->Bool}:aV K (rI0 λi j=> .bl (g i j)) (opI λi j=>on (.bl (g i j))):=λF H β Q d1 d2 d l m fr c h e k=>by
 obtain⟨i,j,rfl,rfl,e⟩:=h9 e;cases e;exact⟨i,j,c,h,k _ H (To.refl fr) rfl⟩
theorem qG{C:Int->Int->Prop}{c:Int->Int->Bool}{g:Int->Int->Int}(l:∀i j,c i j=M2->C i j):aV K (rI C λi j=> .int (g i j)) (opI λi j=>if c i j=M2 then on (.int (g i j))else MY):=λF H β Q d1 d2 d q r fr m o e k=>by
 obtain⟨i,j,rfl,rfl,h⟩:=h9 e;split at h
 ·cases h
  exact⟨i,j,m,o,l _ _ (by assumption),k _ H (To.refl fr) rfl⟩
 ·cases h
noncomputable def fS(i:Int):Bool:=decide (i.natAbs<2^1000)
def zJ:D->D->Option D:=opI λi j=>on (.int (i-j))
def wV:D->D->Option D:=opI λi j=>if(decide (0<j)&&decide (j.natAbs.log2<9000))=M2 then on (.int (i/j))else MY
def modD:D->D->Option D:=opI λi j=>if decide (0<j)=M2 then on (.int (i % j))else MY
def ltD:D->D->Option D:=opI λi j=>on (.bl (decide (i<j)))
def leD:D->D->Option D:=opI λi j=>on (.bl (decide (i<=j)))
def gtD:D->D->Option D:=opI λi j=>on (.bl (decide (j<i)))
def geD:D->D->Option D:=opI λi j=>on (.bl (decide (j<=i)))
theorem iG:aV K (rI0 λi j=> .int (i-j)) zJ:=yC
theorem wH:aV K (rI0 λi j=> .bl (decide (i<j))) ltD:=jP
theorem np:aV K (rI0 λi j=> .bl (decide (i<=j))) leD:=jP
theorem BA:aV K (rI0 λi j=> .bl (decide (j<i))) gtD:=jP
theorem Kn:aV K (rI rY λi j=> .int (i/j)) wV:=qG λi j h=>by
 simp only[NO,NZ]at h;exact h
noncomputable def wj:R2:=λx y H Q=>∃l b xs c,x= .ref l/\y= .ref b/\Rd H l (.lst xs)/\Rd H b (.lst c)/\xs.length+c.length<=Nr/\∀p,H p=MY->Q (.ref p) (upd H p (.lst (xs++c)))
theorem HR:OpR X (PR .Add) wj:=by
 intro d s t H x y v u Q I i j h;obtain⟨l,b,xs,w,rfl,rfl,m,hB,A,q⟩:=h;cases i;cases j;obtain⟨z,its,n,r,e⟩:=m.ok I.hok;obtain⟨B,c,C,g,o⟩:=hB.ok I.hok;have J:=r.length;have L:=g.length;refine VL e o ?_ (by simp only[Nv];omega);rw[show its.toArray++c.toArray=(its++c).toArray by simp];exact⟨.ref _,_,I.lnew (t':=s.toks) (r.append g) (by rw[Ny];omega),rfl,q _ I.fresh⟩
def wk(K:NA):R2:=λx y H Q=>∃a b ys,x= .ref a/\y= .ref b/\SqT K H a []/\SqT K H b ys/\Q (.ref b) H
theorem HS:OpR X (PR .Add) (wk X.K):=by
 intro l s O H x y v u Q I t w h;obtain⟨a,b,ys,rfl,rfl,ha,A,q⟩:=h;cases t;cases w;obtain⟨its,r1,B,_⟩:=I.tuple ha;obtain⟨m,P,C,_⟩:=I.tuple A;cases r1;obtain⟨⟨c1,d1,J,i⟩,o,r,n,hd⟩:=B;obtain⟨⟨c2,d2,L,j⟩,c,d,N,g⟩:=C;simp only at r hd d g;subst r hd d g;exact PySem.concat_meets ⟨_,o,rfl⟩ ⟨_,c,rfl⟩ UD VS Sm Sa (RZ _ _) (tuple_addW0 a b _ _ n N d1 d2 i j (by simp)) ⟨o,c,⟨.ref b,H,I,rfl,q⟩⟩
noncomputable def j4:D->D->Option D
 | .int i,.int j=>on (.int (i+j))
 | .tup [],.tup b=>on (.tup b)
 | .lst a,.lst b=>if a.length+b.length<=Nr then on (.lst (a++b))else MY
 | .tup (c::a),.tup b=>if(c::a).length+b.length<=Nr then on (.tup (c::a++b))else MY
 |_,_=>MY
theorem bO:aV K (λx y H Q=>(rI0 λi j=> .int (i+j)) x y H Q\/wj x y H Q\/wg K x y H Q\/wk K x y H Q) j4:=λF H β Q d1 d2 d v w fr h l e k=>by
 unfold j4 at e;split at e
 ·cases e
  exact .inl ⟨_,_,h,l,k _ H (To.refl fr) rfl⟩
 ·cases e
  obtain⟨a,xs,rfl,r1,c⟩:=Den.sqT h;obtain⟨b,ys,rfl,m,g⟩:=Den.sqT l;have q:xs=[]:=c;subst q;exact .inr (.inr (.inr ⟨a,b,ys,rfl,rfl,r1,m,k _ H (To.refl fr) l⟩))
 ·split at e
  ·cases e
   obtain⟨a,xs,rfl,r1,c⟩:=Den.rdL h;obtain⟨b,ys,rfl,m,g⟩:=Den.rdL l;exact .inr (.inl ⟨a,b,xs,ys,rfl,rfl,r1,m,by rw[←c.length,←g.length];assumption,λp o=>k _ _ (fr.upd _ o) (Den.newL fr o (c.append g))⟩)
  ·cases e
 ·split at e
  ·cases e
   obtain⟨a,xs,rfl,r1,c⟩:=Den.sqT h;obtain⟨b,ys,rfl,m,g⟩:=Den.sqT l;have r:=c.length;have t:=g.length;refine .inr (.inr (.inl ⟨a,b,xs,ys,rfl,rfl,r1,m,(λz=>by subst z;cases r),by rw[←r,←t];assumption,λz=>?_,λ_ p o=>k _ _ (fr.upd _ o) (Den.newT fr o (c.append g))⟩));subst z;have u:=Sx.mp t;subst u;rw[NV]at k;exact k _ H (To.refl fr) h
  ·cases e
 ·cases e
theorem aT:OpR X (PR .Add) (λx y H Q=>(rI0 λi j=> .int (i+j)) x y H Q\/wj x y H Q\/wg X.K x y H Q\/wk X.K x y H Q):=oB.or (HR.or (HQ.or HS))
def AG:D->D->Option D:=opI λi j=>if(fS i&&fS j)=M2 then on (.int (i*j))else MY
theorem rK:aV K (rI rX λi j=> .int (i*j)) AG:=qG λi j h=>by
 simp only[NO,fS,NZ]at h;exact h
noncomputable def eqS:D->D->Option Bool
 | .non,.non=>on M2
 | .int i,.int j=>on (decide (i=j))
 | .bl i,.bl j=>on (decide (i=j))
 | .str i,.str j=>on (decide (i=j))
 | .int _,.str _=>on M4
 | .str _,.int _=>on M4
 | .bl _,.str _=>on M4
 | .str _,.bl _=>on M4
 | .non,.int _=>on M4
 | .int _,.non=>on M4
 | .non,.str _=>on M4
 | .str _,.non=>on M4
 |_,_=>MY
theorem yY{F:Fx}{H:Hp}{a b:D}{c:Bool}(h:eqS a b=on c)(d:Den K F H a v)(g:Den K F H b w):zM v w=M2/\decide (v=w)=c:=by
 unfold eqS at h;split at h<;>first
  |(cases h;cases d.int;cases g.int;exact⟨rfl,by simp⟩)
  |(cases h;cases d.bl;cases g.bl;exact⟨rfl,by simp⟩)
  |(cases h;cases d.str;cases g.str;exact⟨rfl,by simp⟩)
  |(cases h;cases d.non;cases g.non;exact⟨rfl,by simp⟩)
  |(cases h;cases d.int;cases g.str;exact⟨rfl,rfl⟩)
  |(cases h;cases d.str;cases g.int;exact⟨rfl,rfl⟩)
  |(cases h;cases d.bl;cases g.str;exact⟨rfl,rfl⟩)
  |(cases h;cases d.str;cases g.bl;exact⟨rfl,rfl⟩)
  |(cases h;cases d.non;cases g.int;exact⟨rfl,rfl⟩)
  |(cases h;cases d.int;cases g.non;exact⟨rfl,rfl⟩)
  |(cases h;cases d.non;cases g.str;exact⟨rfl,rfl⟩)
  |(cases h;cases d.str;cases g.non;exact⟨rfl,rfl⟩)
  |cases h
noncomputable def isN:D->Bool
 | .non=>M2
 |_=>M4
theorem Kq{F:Fx}{H:Hp}(h:Den K F H d v):decide (v= .non)=isN d:=by
 cases d with
 |non=>cases h.non;rfl
 |bl b=>cases h.bl;rfl
 |int b=>cases h.int;rfl
 |str b=>cases h.str;rfl
 |ty b=>cases h.ty;rfl
 |txt=>unfold Den at h;obtain⟨z,rfl⟩:=h;rfl
 |lst ds=>obtain⟨a,xs,rfl,_⟩:=Den.sqL h;rfl
 |tup ds=>obtain⟨a,xs,rfl,_⟩:=Den.sqT h;rfl
 |scr ds=>obtain⟨a,rfl,_⟩:=Den.scr h;rfl
 |obj C ns ds=>
  unfold Den at h;obtain⟨a,_,_,rfl,_⟩:=h;rfl
 |bag=>
  unfold Den at h;obtain⟨a,_,_,rfl⟩:=h;rfl
 |adr a=>
  unfold Den at h;obtain rfl:=h;rfl
 |dct b ks vs=>
  unfold Den at h;obtain⟨a,_,xs,rfl,_⟩:=h;rfl
noncomputable def gu:D->D->Option D
 |a,.non=>on (.bl (isN a))
 |_,_=>MY
noncomputable def lS:D->D->Option D
 |a,.non=>on (.bl (!isN a))
 |_,_=>MY
theorem wI:aV K (λx y H Q=>y= .non/\Q (.bl (decide (x= .non))) H) gu:=λF H β Q d1 d2 d h i fr c g e k=>by
 unfold gu at e;split at e
 ·cases e
  exact⟨g,by rw[Kq c];exact k _ H (To.refl fr) rfl⟩
 ·cases e
noncomputable def dn:D->Bool
 | .int _=>M2| .bl _=>M2| .str _=>M2| .non=>M2|_=>M4
noncomputable def eqF:D->D->Bool
 | .non,.non=>M2
 | .bl a,.bl b=>a==b
 | .bl a,.int b=>(if a then 1 else 0)==b
 | .int a,.bl b=>a==(if b then 1 else 0)
 | .int a,.int b=>a==b
 | .str a,.str b=>a==b
 |_,_=>M4
noncomputable def dF:D->Option (List D)
 | .lst a=>on a
 | .tup a=>on a
 |_=>MY
def inB(x:D)(ys:List D):Bool:=ys.any λy=>eqF y x
def inD(neg:Bool)(x y:D):Option D:=(dF y).bind λys=>if(dn x&&ys.all dn)=M2 then on (.bl (if neg then !inB x ys else inB x ys))else MY
theorem pV{F:Fx}{H:Hp}(f:dn d=M2)(h:Den K F H d v):fR v=M2:=by
 cases d<;>first|(cases h.int;rfl)|(cases h.bl;rfl)|(cases h.str;rfl)|(cases h.non;rfl)|cases f
theorem KE{F:Fx}{H:Hp}{a b:D}(g:dn a=M2)(h:dn b=M2)(c:Den K F H a v)(d:Den K F H b w):eqV v w=eqF a b:=by
 cases a<;>first
  |(exfalso;exact Ni g)
  |(cases b<;>first
   |(exfalso;exact Ni h)
   |(cases c.int;cases d.int;rfl)|(cases c.int;cases d.bl;rfl)|(cases c.int;cases d.str;rfl)|(cases c.int;cases d.non;rfl)
   |(cases c.bl;cases d.int;rfl)|(cases c.bl;cases d.bl;rfl)|(cases c.bl;cases d.str;rfl)|(cases c.bl;cases d.non;rfl)
   |(cases c.str;cases d.int;rfl)|(cases c.str;cases d.bl;rfl)|(cases c.str;cases d.str;rfl)|(cases c.str;cases d.non;rfl)
   |(cases c.non;cases d.int;rfl)|(cases c.non;cases d.bl;rfl)|(cases c.non;cases d.str;rfl)|(cases c.non;cases d.non;rfl))
theorem tY{F:Fx}{H:Hp}{x:D}(c:dn x=M2)(g:Den K F H x v):∀{ds:List D} {vs:List V},ds.all dn=M2->DenL K F H ds vs->vs.all fR=M2/\inV v vs=inB x ds
 |[],vs,_,h=>by have q:vs=[]:=h;subst q;exact⟨rfl,rfl⟩
 |d::ds,vs,f,h=>by
  obtain⟨y,r,q,i,l⟩:=h;subst q;rw[Sg,NO]at f;obtain⟨m,j⟩:=tY c g f.2 l;refine⟨by rw[Sg,pV f.1 i,m];rfl,?_⟩;unfold inV inB at j⊢;rw[Ri,Ri,j,KE f.1 c i g]
theorem AZ{neg:Bool}:aV K (rIn K neg) (inD neg):=λF H β Q d1 d2 d m o fr g l e k=>by
 unfold inD at e;cases q:dF d2 with
 |none=>rw[q]at e;cases e
 |some ys=>
  rw[q]at e;simp only[OD]at e;split at e
  ·rename_i c
   rw[NO]at c;cases e;cases d2<;>first|(cases q;obtain⟨a,xs,rfl,r1,h⟩:=Den.sqL l;obtain⟨i,j⟩:=tY c.1 g c.2 h;exact⟨a,xs,rfl,.inl r1,pV c.1 g,i,by rw[j];exact k _ H (To.refl fr) rfl⟩)|(cases q;obtain⟨a,xs,rfl,r1,h⟩:=Den.sqT l;obtain⟨i,j⟩:=tY c.1 g c.2 h;exact⟨a,xs,rfl,.inr r1,pV c.1 g,i,by rw[j];exact k _ H (To.refl fr) rfl⟩)|cases q
  ·cases e
def ixD:D->D->Option D
 | .lst xs,.int i=>atI xs i
 | .tup xs,.int i=>atI xs i
 |_,_=>MY
theorem zh{F:Fx}{H:Hp}(h:DenL K F H ds vs)(e:atI ds i=on d):∃v,atI vs i=on v/\Den K F H d v:=by
 unfold atI at e⊢;rw[←h.length];cases q:ixN ds.length i with
 |none=>rw[q]at e;cases e
 |some j=>
  rw[q]at e;exact h.get e
theorem bu:aV K (λx y H Q=>wf K x y H Q\/zP K x y H Q) ixD:=λF H β Q d1 d2 d j l fr h i e k=>by
 unfold ixD at e;split at e
 ·obtain⟨a,xs,rfl,r1,c⟩:=Den.sqL h
  obtain⟨v,g,hd⟩:=zh c e;exact .inl ⟨a,xs,_,v,rfl,i,r1,g,k _ H (To.refl fr) hd⟩
 ·obtain⟨a,xs,rfl,r1,c⟩:=Den.sqT h
  obtain⟨v,g,hd⟩:=zh c e;exact .inr ⟨a,xs,_,v,rfl,i,r1,g,k _ H (To.refl fr) hd⟩
 ·cases e
theorem aN:IxR X (λx y H Q=>wf X.K x y H Q\/zP X.K x y H Q):=dD.or Ko
noncomputable def cL:List D->Option D
 |[.lst xs]=>on (.int xs.length)
 |[.tup xs]=>on (.int xs.length)
 |_=>MY
theorem DenL.one{F:Fx}{H:Hp}(h:DenL K F H [d] vs):∃v,vs=[v]/\Den K F H d v:=by
 obtain⟨x,r,e,c,g⟩:=h;have q:r=[]:=g;subst q;exact⟨x,e,c⟩
theorem DenL.two{F:Fx}{H:Hp}(h:DenL K F H [d,c] vs):∃v w,vs=[v,w]/\Den K F H d v/\Den K F H c w:=by
 obtain⟨x,r,e,g,i⟩:=h;obtain⟨y,rfl,j⟩:=DenL.one i;exact⟨x,y,e,g,j⟩
theorem MD:dy K (λxs H Q=>∃p ys,xs=[.ref p]/\(SqL K H p ys\/SqT K H p ys)/\Q (.int ys.length) H) cL:=λF H β Q ds d vs fr h e k=>by
 unfold cL at e;split at e
 ·cases e
  obtain⟨v,rfl,g⟩:=DenL.one h;obtain⟨a,xs,rfl,r,c⟩:=Den.sqL g;exact⟨a,xs,rfl,.inl r,by rw[←c.length];exact k _ H (To.refl fr) rfl⟩
 ·cases e
  obtain⟨v,rfl,g⟩:=DenL.one h;obtain⟨a,xs,rfl,r,c⟩:=Den.sqT g;exact⟨a,xs,rfl,.inr r,by rw[←c.length];exact k _ H (To.refl fr) rfl⟩
 ·cases e
noncomputable def qe:List D->Option D
 |[.int i]=>on (.int (if i<0 then -i else i))
 |_=>MY
noncomputable def tB:List D->Option D
 |[.int i,.int j]=>on (.int (if j<i then j else i))
 |_=>MY
noncomputable def wz:List D->Option D
 |[.int i,.int j]=>on (.int (if j>i then j else i))
 |_=>MY
theorem rL:dy K (λxs H Q=>∃i j,xs=[.int i,.int j]/\Q (.int (if j<i then j else i)) H) tB:=λF H β Q ds d vs fr h e k=>by
 unfold tB at e;split at e
 ·cases e
  obtain⟨v,w,rfl,g,g'⟩:=DenL.two h;cases g.int;cases g'.int;exact⟨_,_,rfl,k _ H (To.refl fr) rfl⟩
 ·cases e
theorem FG:dy K (λxs H Q=>∃i j,xs=[.int i,.int j]/\Q (.int (if j>i then j else i)) H) wz:=λF H β Q ds d vs fr h e k=>by
 unfold wz at e;split at e
 ·cases e
  obtain⟨v,w,rfl,g,g'⟩:=DenL.two h;cases g.int;cases g'.int;exact⟨_,_,rfl,k _ H (To.refl fr) rfl⟩
 ·cases e
noncomputable def dO:List D->Option (List Int)
 |[]=>on []
 | .int i::r=>(dO r).map (i::·)
 |_=>MY
theorem intsOf_eq:∀{ds:List D} {ns:List Int},dO ds=on ns->ds=ns.map D.int
 |[],ns,h=>by cases h;rfl
 |d::ds,ns,h=>by
  cases d with
  |int i=>
   unfold dO at h;cases q:dO ds with
   |none=>rw[q]at h;cases h
   |some c=>rw[q]at h;cases h;rw[intsOf_eq q];rfl
  |_=>cases h
def zH:List D->Option D
 |[.lst xs]=>(dO xs).map λns=> .int ns.sum
 |_=>MY
theorem MA:dy K (λxs H Q=>∃(a:M3) (ns:List Int),xs=[.ref a]/\SqL K H a (ns.map V.int)/\Q (.int ns.sum) H) zH:=λF H β Q ds d vs fr h e k=>by
 unfold zH at e;split at e
 ·rename_i xs
  cases q:dO xs with
  |none=>rw[q]at e;cases e
  |some ns=>
   rw[q]at e;cases e;obtain⟨v,rfl,g⟩:=DenL.one h;obtain⟨a,ys,rfl,r,c⟩:=Den.sqL g;rw[intsOf_eq q]at c;have i:=DenL.ints ns c;subst i;exact⟨a,ns,rfl,r,k _ H (To.refl fr) rfl⟩
 ·cases e
noncomputable def rJ:List D->Option D
 |[.lst xs]=>on (.lst xs)
 |[.tup xs]=>on (.lst xs)
 |_=>MY
theorem oM:dy K (λxs H Q=>∃p ys,xs=[.ref p]/\(SqL K H p ys\/SqT K H p ys)/\∀l,H l=MY->Q (.ref l) (upd H l (.lst ys))) rJ:=λF H β Q ds d vs fr h e k=>by
 unfold rJ at e;split at e
 ·cases e
  obtain⟨v,rfl,g⟩:=DenL.one h;obtain⟨a,xs,rfl,r,i⟩:=Den.sqL g;exact⟨a,xs,rfl,.inl r,λl c=>k _ _ (fr.upd _ c) (Den.newL fr c i)⟩
 ·cases e
  obtain⟨v,rfl,g⟩:=DenL.one h;obtain⟨a,xs,rfl,r,i⟩:=Den.sqT g;exact⟨a,xs,rfl,.inr r,λl c=>k _ _ (fr.upd _ c) (Den.newL fr c i)⟩
 ·cases e
noncomputable def sk:List D->Option D
 |[.lst xs]=>on (.tup xs)
 |[.tup xs]=>on (.tup xs)
 |_=>MY
theorem fG:dy K (λxs H Q=>∃p ys,xs=[.ref p]/\((SqL K H p ys/\∀l,H l=MY->Q (.ref l) (upd H l (.tup ys)))\/(SqT K H p ys/\Q (.ref p) H))) sk:=λF H β Q ds d vs fr h e k=>by
 unfold sk at e;split at e
 ·cases e
  obtain⟨v,rfl,g⟩:=DenL.one h;obtain⟨a,xs,rfl,r,c⟩:=Den.sqL g;exact⟨a,xs,rfl,.inl ⟨r,λl i=>k _ _ (fr.upd _ i) (Den.newT fr i c)⟩⟩
 ·cases e
  obtain⟨v,rfl,g⟩:=DenL.one h;obtain⟨a,xs,rfl,r,c⟩:=Den.sqT g;exact⟨a,xs,rfl,.inr ⟨r,k _ H (To.refl fr) g⟩⟩
 ·cases e
noncomputable def asB:D->Option Bool
 | .bl b=>on b
 |_=>MY
theorem ik{b:Bool}(h:asB d=on b):d= .bl b:=by cases d<;>first|(cases h;rfl)|cases h
noncomputable def jD:D->Option Bool
 | .non=>on M4
 | .bl b=>on b
 | .int i=>on (i !=0)
 | .lst xs=>on (!xs.isEmpty)
 | .tup xs=>on (!xs.isEmpty)
 |_=>MY
def fB(f:FD):Dn->M Bool:=λδ=>M.bind (f δ) λd=>M.ofO (asB d)
def gv(f:FD):Dn->M Bool:=λδ=>M.bind (f δ) λd=>M.ofO (jD d)
def me(f g:Dn->M Bool):Dn->M Bool:=λδ=>M.bind (f δ) λc=>if c=M2 then g δ else M.ret M4
def e9(f g:Dn->M Bool):Dn->M Bool:=λδ=>M.bind (f δ) λc=>if c=M2 then M.ret M2 else g δ
def gH(f:Dn->M Bool):Dn->M Bool:=λδ=>M.bind (f δ) λc=>M.ret (!c)
def jV(f g:FD):FD:=λδ=>M.bind (f δ) λd=>M.bind (M.ofO (asB d)) λc=>if c=M2 then g δ else M.ret (.bl M4)
def fOr(f g:FD):FD:=λδ=>M.bind (f δ) λd=>M.bind (M.ofO (asB d)) λc=>if c=M2 then M.ret (.bl M2)else g δ
def pW(f:FD):FD:=λδ=>M.bind (f δ) λd=>M.bind (M.ofO (asB d)) λc=>M.ret (.bl (!c))
def fIf(t:Dn->M Bool)(f g:FD):FD:=λδ=>M.bind (t δ) λc=>if c=M2 then f δ else g δ
def ef(o d:D->D->Option D)(f g h:FD):FD:=λδ=>M.bind (f δ) λa=>M.bind (g δ) λb=>M.bind (M.ofO (o a b)) λz=>M.bind (M.ofO (asB z)) λc=>if c=M2 then M.bind (h δ) (λw=>M.ofO (d b w))else M.ret (.bl M4)
variable{c:Expr}{rest:List Expr}
theorem M.ofO_bind{α d:Type}{o:Option α}{k:α->M d}{β:Bg}{z:Except M3 d×Bg}(h:M.bind (M.ofO o) k β=on z):∃a,o=on a/\k a β=on z:=by
 cases o with
 |none=>cases h
 |some a=>exact⟨a,rfl,h⟩
theorem run.ofO_bind{α g i:Type}{R:Hp->g->i->Prop}{F:Fx}{j:St}{o:Option α}{k:α->M g}{H:Hp}{Q:i->Hp->Prop}{β:Bg}(h:run R F E j (M.bind (M.ofO o) k) H Q β):∃a,o=on a/\run R F E j (k a) H Q β:=by
 obtain⟨r,d,e,h⟩:=h;obtain⟨a,q,e⟩:=M.ofO_bind e;exact⟨a,q,r,d,e,h⟩
theorem run.bOk{F:Fx}{H:Hp}(fr:Fr F H β)(hd:Den K F H d v)(h:run (λ_ (a b:Bool)=>b=a) F E σ (M.ofO (asB d)) H Q β):∃k,v= .bl k/\Q k H:=by
 obtain⟨b,e,k⟩:=run.ofO h;rw[ik e]at hd;exact⟨b,hd,k b H (To.refl fr) rfl⟩
theorem mQ{f:FD}{H:Hp}(h:tVT K (fB f) E σ H Q):tV K f E σ H λx g=>∃k,x= .bl k/\Q k g:=by
 obtain⟨F,δ,β,fr,i,h⟩:=h;exact⟨F,δ,β,fr,i,(run.bind (R:=Den K F) h).mono λv l j=>ex5 j λd β1 t hd r1=>run.bOk t.fr hd r1⟩
theorem bi{f g:FD}(d:OpR X (Ou op) r)(l:aV X.K r o)(ha:PE X a (tV X.K f E))(i:PE X b (tV X.K g E))(hm:RJ op b=M4:=by first|exact tq _|rfl):PT X (.Compare a [op] [b] pos) (tVT X.K (fB (f2 o f g)) E):=
 (uX d ha i hm).imp λj H Q h=>nS l (mQ h)
theorem xC{f g h:FD}(l:aV K r o)(Y:aV K r' o'){H:Hp}(B:tV K (ef o o' f g h) E σ H Q):xD r r' (tV K f E) (tV K g E) (tV K h E) σ H Q:=by
 obtain⟨F,δ,β,fr,I,B⟩:=B;refine⟨F,δ,β,fr,I,(run.bind (R:=Den K F) B).mono λv H1 j=>ex5 j λd β1 t hd r1=>⟨F,δ,β1,t.fr,I.tr (t.tr fr),(run.bind (R:=Den K F) r1).mono λP Z j=>ex5 j λd2 β2 m u r2=>?_⟩⟩;obtain⟨z,T,r3⟩:=run.ofO_bind r2;obtain⟨c,ec,A⟩:=run.ofO_bind r3;rw[ik ec]at T;refine l F Z β2 _ d d2 _ v P m.fr (Den.tr (m.tr t.fr) _ _ hd) u T λvz U i hz=>⟨c,hz,?_⟩;cases c with
 |true=>
  rw[Nf rfl]at A;refine⟨F,δ,β2,i.fr,I.tr ((t.tr fr).trans ((m.tr t.fr).trans (i.tr m.fr))),?_⟩;have r5:run (Den K F) F E σ (M.bind (h δ) λw=>M.ofO (o' d2 w)) U Q β2:=by
   obtain⟨J,y,e,q⟩:=A;refine⟨J,y,e,?_⟩;cases J with
   |ok d=>exact λv L tt=>q v L (i.trans tt)
   |error C=>exact λL tt=>q L (i.trans tt)
  refine(run.bind (R:=Den K F) r5).mono λw H4 j=>ex5 j λdw N W O r6=>?_;obtain⟨d3,e3,k⟩:=run.ofO r6;exact Y F H4 N Q d2 dw d3 P w W.fr (Den.tr ((i.tr m.fr).trans (W.tr i.fr)) _ _ u) O e3 k
 |false=>
  rw[M8 Ni]at A;obtain⟨J,y,e,q⟩:=A;cases e;exact q _ U i rfl
theorem uI{f g h:FD}(i:OpR X (Ou op) r)(d:OpR X (Ou op') r')(l:aV X.K r o)(j:aV X.K r' o')(ha:PE X a (tV X.K f E))(m:PE X b (tV X.K g E))(t:PE X c (tV X.K h E))(hm:We [op,op'] [b,c]=M4:=by with_unfolding_all rfl):
  PT X (.Compare a [op,op'] [b,c] pos) (tVT X.K (fB (ef o o' f g h)) E):=(zR i d ha m t hm).imp λu H Q q=>xC l j (mQ q)
theorem GH{F:Fx}{H:Hp}{k:Bool}(h:jD d=on k)(hd:Den K F H d v):DX K v H k:=by
 cases d with
 |non=>cases h;cases hd.non;rfl
 |bl b=>cases h;cases hd.bl;rfl
 |int i=>cases h;cases hd.int;rfl
 |lst xs=>
  cases h;obtain⟨a,ys,rfl,r,g⟩:=Den.sqL hd;refine .inl ⟨ys,r,?_⟩;have:=g.length;cases xs<;>cases ys<;>first|rfl|(simp at this)
 |tup xs=>
  cases h;obtain⟨a,ys,rfl,r,g⟩:=Den.sqT hd;refine .inr ⟨ys,r,?_⟩;have:=g.length;cases xs<;>cases ys<;>first|rfl|(simp at this)
 |_=>cases h
theorem jE{f:FD}(ha:PE X a (tV X.K f E))(j:∀g,isTrue a X.env g=(do let v ←g;QY a.pos;Ro [v] (truthy v)):=by intro _;rfl):PT X a (tVT X.K (gv f) E):=
 (zQ ha j).imp λo H Q i=>ex6 i λF δ β fr l h=>⟨F,δ,β,fr,l,(run.bind (R:=Den X.K F) h).mono λv m i=>by
  obtain⟨d,β1,t,hd,r1⟩:=i;obtain⟨k,e,q⟩:=run.ofO r1;exact⟨k,GH e hd,q k m (To.refl t.fr) rfl⟩⟩
theorem lF{f:Dn->M Bool}(ha:PT X a (tVT X.K f E)):PT X (.UnaryOp .Not a pos) (tVT X.K (gH f) E):=
 (JL ha).imp λj H Q g=>ex6 g λF δ β fr i h=>⟨F,δ,β,fr,i,(run.bind (R:=λ_ (a b:Bool)=>b=a) h).mono λv l g=>by
  obtain⟨d,β1,t,hd,r1⟩:=g;subst hd;exact run.ret t.fr r1 rfl⟩
theorem Jg{f g:Dn->M Bool}{H:Hp}(h:tVT K (e9 f g) E σ H Q):tOr (tVT K f E) (tVT K g E) σ H Q:=by
 obtain⟨F,δ,β,fr,i,h⟩:=h;refine⟨F,δ,β,fr,i,(run.bind (R:=λ_ (a b:Bool)=>b=a) h).mono λv l j=>ex5 j λd β1 t hd r1=>?_⟩;subst hd;cases v with
 |false=>rw[M8 Ni]at r1⊢;exact⟨F,δ,β1,t.fr,i.tr (t.tr fr),r1⟩
 |true=>rw[Nf rfl]at r1⊢;exact run.ret t.fr r1 rfl
theorem lC{f:Dn->M Bool}(ha:PT X a (tVT X.K f E)):PW X (.BoolOp .Or [a] pos) (tVT X.K f E):=JJ ha
theorem pp{f g:Dn->M Bool}(ha:PT X a (tVT X.K f E))(d:PW X (.BoolOp .Or (b::rest) pos) (tVT X.K g E)):PW X (.BoolOp .Or (a::b::rest) pos) (tVT X.K (e9 f g) E):=(Mi ha d).imp λ_ _ _=>Jg
theorem i6{e:Expr}{f:Dn->M Bool}(h:PW X e (tVT X.K f E)):PT X e (tVT X.K f E):=PW.pt h
theorem LY{op}{f:FD}(h:PE X a (tV X.K f E)):PE X (.BoolOp op [a] pos) (tV X.K f E):=JT h
theorem run.asB{F:Fx}{k:Bool->M D}{H:Hp}(hd:Den K F H d v)(h:run (Den K F) F E σ (M.bind (M.ofO (asB d)) k) H Q β):∃c,v= .bl c/\run (Den K F) F E σ (k c) H Q β:=by
 obtain⟨c,e,h⟩:=run.ofO_bind h;rw[ik e]at hd;exact⟨c,hd,h⟩
theorem L5{f g:FD}(ha:PE X a (tV X.K f E))(m:PE X (.BoolOp .And (b::rest) pos) (tV X.K g E)):PE X (.BoolOp .And (a::b::rest) pos) (tV X.K (jV f g) E):=
 (JW ha m).imp λo H Q j=>ex6 j λF δ β fr l h=>⟨F,δ,β,fr,l,(run.bind (R:=Den X.K F) h).mono λv q j=>by
  obtain⟨d,β1,t,hd,r1⟩:=j;obtain⟨c,e,i⟩:=run.asB hd r1;refine⟨c,e,?_⟩;cases c with
  |true=>rw[Nf rfl]at i⊢;exact⟨F,δ,β1,t.fr,l.tr (t.tr fr),i⟩
  |false=>rw[M8 Ni]at i⊢;exact run.ret t.fr i rfl⟩
theorem v_if{f g:FD}(l:PT X c (tVT X.K t E))(ha:PE X a (tV X.K f E))(m:PE X b (tV X.K g E)):PE X (.IfExp c a b pos) (tV X.K (fIf t f g) E):=
 (z5 l ha m).imp λo H Q i=>ex6 i λF δ β fr j h=>⟨F,δ,β,fr,j,(run.bind (R:=λ_ (a b:Bool)=>b=a) h).mono λv q i=>by
  obtain⟨d,β1,t,hd,r1⟩:=i;subst hd;cases v with
  |true=>rw[Nf rfl]at r1⊢;exact⟨F,δ,β1,t.fr,j.tr (t.tr fr),r1⟩
  |false=>rw[M8 Ni]at r1⊢;exact⟨F,δ,β1,t.fr,j.tr (t.tr fr),r1⟩⟩
noncomputable def tyD:D->Option String
 | .non=>on "NoneType"| .bl _=>on "bool"| .int _=>on "int"| .str _=>on "str"| .lst _=>on "list"| .tup _=>on "tuple"|_=>MY
noncomputable def iT:String->String->Option Bool
 |"int","str"=>on M4|"int","bool"=>on M4|"int","list"=>on M4|"int","tuple"=>on M4|"int","int"=>on M2
 |"bool","str"=>on M4|"bool","bool"=>on M2|"bool","list"=>on M4|"bool","tuple"=>on M4
 |"str","str"=>on M2|"str","bool"=>on M4|"str","list"=>on M4|"str","tuple"=>on M4
 |"NoneType","str"=>on M4|"NoneType","bool"=>on M4|"NoneType","list"=>on M4|"NoneType","tuple"=>on M4
 |"list","list"=>on M2|"list","tuple"=>on M4|"list","str"=>on M4|"list","bool"=>on M4
 |"tuple","list"=>on M4|"tuple","tuple"=>on M2|"tuple","str"=>on M4|"tuple","bool"=>on M4
 |_,_=>MY
noncomputable def iS:String->String->String->Option Bool
 |"int","list","tuple"=>on M4|"bool","list","tuple"=>on M4|"str","list","tuple"=>on M4|"NoneType","list","tuple"=>on M4|"list","list","tuple"=>on M2|"tuple","list","tuple"=>on M2
 |"int","int","str"=>on M2|"bool","int","str"=>on M2|"str","int","str"=>on M2|"NoneType","int","str"=>on M4|"list","int","str"=>on M4|"tuple","int","str"=>on M4
 |_,_,_=>MY
theorem IF{a b:String}{c:Bool}(h:iT a b=on c):kitOne K (.type a) (.type b)=on c:=by
 unfold iT at h;split at h<;>first|(cases h;kernel_rfl)|cases h
theorem IE{a b d:String}{c:Bool}(h:iS a b d=on c):Wn K (.type a) ([b,d].map PZ)=on c:=by
 unfold iS at h;split at h<;>first|(cases h;kernel_rfl)|cases h
def TyG(K:NA)(H:Hp)(x:V)(t:M7):Prop:=TyOf K H x t\/(∃a ys,x= .ref a/\SqL K H a ys/\t= .type "list")\/(∃a ys,x= .ref a/\SqT K H a ys/\t= .type "tuple")
def EW(K:NA):List V->Hp->VK->Prop:=λxs H Q=>∃x c t b,xs=[x,.ty c]/\TyG K H x t/\kitOne K t (.type c)=on b/\Q (.bl b) H
theorem zb:cK X (.builtin "isinstance") (EW X.K):=by
 intro j s u H xs us Q I r h;obtain⟨x,c,t,b,rfl,ty,e,q⟩:=h;cases r with
 |cons r1 d=>
  cases d with
  |cons d m=>
   cases m;cases d;rcases ty with ty|⟨a,ys,rfl,sq,rfl⟩|⟨a,ys,rfl,sq,rfl⟩
   ·exact yK I r1 ty e λl=>⟨.bl b,H,I.tok _,rfl,q⟩
   ·cases r1
    obtain⟨its,_,pl,_⟩:=I.list sq;obtain⟨o,g,i,_⟩:=pl.isList;exact SE TH I.kIn ⟨o,g,i⟩ e (λz=>nomatch z) λl=>⟨.bl b,H,I.tok _,rfl,q⟩
   ·cases r1
    obtain⟨its,_,pl,_⟩:=I.tuple sq;obtain⟨o,g,i,_⟩:=pl;exact SE Vj I.kIn ⟨o,g,i⟩ e (λz=>nomatch z) λl=>⟨.bl b,H,I.tok _,rfl,q⟩
theorem xu{F:Fx}{H:Hp}(h:tyD d=on t)(hd:Den K F H d v):TyG K H v (.type t):=by
 cases d with
 |non=>cases h;cases hd.non;exact .inl .non
 |bl b=>cases h;cases hd.bl;exact .inl (.bl b)
 |int b=>cases h;cases hd.int;exact .inl (.int b)
 |str b=>cases h;cases hd.str;exact .inl (.str b)
 |lst ds=>cases h;obtain⟨a,xs,rfl,sq,_⟩:=Den.sqL hd;exact .inr (.inl ⟨a,xs,rfl,sq,rfl⟩)
 |tup ds=>cases h;obtain⟨a,xs,rfl,sq,_⟩:=Den.sqT hd;exact .inr (.inr ⟨a,xs,rfl,sq,rfl⟩)
 |_=>cases h
def cg:List D->Option D
 |[x,.ty c]=>(tyD x).bind λt=>(iT t c).map D.bl
 |_=>MY
theorem ME:dy K (EW K) cg:=λF H β Q ds d vs fr h e k=>by
 unfold cg at e;split at e
 ·rename_i x c
  cases q:tyD x with
  |none=>rw[q]at e;cases e
  |some t=>
   rw[q]at e;simp only[OD]at e;cases q2:iT t c with
   |none=>rw[q2]at e;cases e
   |some b=>
    rw[q2]at e;cases e;obtain⟨v,w,rfl,g,i⟩:=DenL.two h;cases i.ty;exact⟨v,c,_,b,rfl,xu q g,IF q2,k _ H (To.refl fr) rfl⟩
 ·cases e
def x8(K:NA):List V->Hp->VK->Prop:=λxs H Q=>∃(x:V) (tp:M3) (cs:List String) (t:M7) (b:Bool),xs=[x,.ref tp]/\SqT K H tp (cs.map V.ty)/\TyG K H x t/\Wn K t (cs.map PZ)=on b/\Q (.bl b) H
theorem o8:cK X (.builtin "isinstance") (x8 X.K):=by
 intro m s P H xs us Q I r h;obtain⟨x,tp,cs,t,b,rfl,A,ty,e,q⟩:=h;cases r with
 |cons r1 B=>
  cases B with
  |cons B R=>
   cases R;cases B;obtain⟨its,T,⟨⟨oc,U,W,Y⟩,g,u,n,j⟩,_⟩:=I.tuple A;rw[xq T]at j
   dsimp only at u j
   subst u j;have d:∀N,EP X m P Q (.bool b) {s with toks:=N}:=λN=>⟨.bl b,H,I.tok _,rfl,q⟩;rcases ty with ty|⟨a,ys,rfl,sq,rfl⟩|⟨a,ys,rfl,sq,rfl⟩
   ·cases ty with
    |non=>cases r1;exact SF Vw I.kIn Qs g e (λz=>nomatch z) d
    |bl y=>cases r1;exact SF Vv I.kIn Qs g e (λz=>nomatch z) d
    |int i=>obtain⟨t,rfl⟩:=r1;exact SF VN I.kIn Qs g e (λz=>nomatch z) d
    |str y=>obtain⟨t,rfl⟩:=r1;exact SF VP I.kIn Qs g e (λz=>nomatch z) d
    |@lst a xs ea=>
     cases r1;obtain⟨_,_,n,_,v⟩:=(show br X.prog X.w H s.heap a (.lst xs)from I.hok a _ ea);exact SF TH I.kIn ⟨_,v,rfl⟩ g e (λz=>nomatch z) d
    |@frz a ob xs ea=>
     cases r1;obtain⟨_,_,_,n,_,v⟩:=(show br X.prog X.w H s.heap a (.frz ob (.lst xs))from I.hok a _ ea);exact SF TH I.kIn ⟨_,v,rfl⟩ g e (λz=>nomatch z) d
    |@tup a xs ea=>
     cases r1;obtain⟨_,_,_,p⟩:=(show br X.prog X.w H s.heap a (.tup xs)from I.hok a _ ea);obtain⟨o,v,Z,_⟩:=p;exact SF Vj I.kIn ⟨o,v,Z⟩ g e (λz=>nomatch z) d
    |@ins a C dx fs ea cl ha hn htk hm=>
     cases r1;obtain⟨mA,O,_⟩:=jq I.hok ea;obtain⟨U,J,_⟩:=O.look;exact SF (VO (cl.get _) cl.hd ha hn htk hm) I.kIn J g e (λz=>nomatch z) d
   ·cases r1
    obtain⟨its,_,pl,_⟩:=I.list sq;obtain⟨o,l,L,_⟩:=pl.isList;exact SF TH I.kIn ⟨o,l,L⟩ g e (λz=>nomatch z) d
   ·cases r1
    obtain⟨its,_,pl,_⟩:=I.tuple sq;obtain⟨o,l,L,_⟩:=pl;exact SF Vj I.kIn ⟨o,l,L⟩ g e (λz=>nomatch z) d
def eF:List D->Option D
 |[x,.tup [.ty a,.ty b]]=>(tyD x).bind λt=>(iS t a b).map D.bl
 |_=>MY
theorem yG:dy K (x8 K) eF:=λF H β Q ds d vs fr h e k=>by
 unfold eF at e;split at e
 ·rename_i x a b
  cases q:tyD x with
  |none=>rw[q]at e;cases e
  |some t=>
   rw[q]at e;simp only[OD]at e;cases q2:iS t a b with
   |none=>rw[q2]at e;cases e
   |some c=>
    rw[q2]at e;cases e;obtain⟨v,w,rfl,g,i⟩:=DenL.two h;obtain⟨p,xs,rfl,sq,j⟩:=Den.sqT i;obtain⟨y,z,rfl,l,m⟩:=DenL.two j;cases l.ty;cases m.ty;exact⟨v,p,[a,b],_,c,rfl,sq,xu q g,IE q2,k _ H (To.refl fr) rfl⟩
 ·cases e
def ItD(K:NA)(J:It)(F:Fx)(H:Hp)(ds:List D):Prop:=∀(h:Fx) (g:Hp) (β2:Bg),Tr F H h g->Fr h g β2->∀i,(∀d,ds[i]?=on d->J.go i g/\∀x j,J.yld i g x j->bv g j/\Den K h j d x)/\(i=ds.length->J.stop i g)
theorem ItD.tr{K:NA}{F d:Fx}{H g:Hp}(t:Tr F H d g)(h:ItD K J F H ds):ItD K J d g ds:=λi j β3 l fr=>h i j β3 (t.trans l) fr
def iV(K:NA)(f:FL)(E:St->XK):TI:=λd H R=>∃F δ β,Fr F H β/\VOk K F H δ d/\run (λg (ds:List D) (J:It)=>ItD K J F g ds) F E d (f δ) H R β
theorem _root_.L2.PI.imp{X:Cx}{tg e:Expr}(h:PI X tg e t)(f:∀d H Q,t' d H Q->t d H Q):PI X tg e t':=λg s d H Q I q=>h g s d H Q I (f d H Q q)
variable{tg:Expr}
def iSeq(K:NA)(g:TE):TI:=λh H R=>g h H λx d=>(∃a,x= .ref a/\(∃xs,SqL K d a xs)/\R (Itl K a) d)\/(∃a,x= .ref a/\(∃xs,SqT K d a xs)/\R (Itt K a) d)
theorem JP(t:PE X l tl):PI X tg l (iSeq X.K tl):=by
 intro g s u H R I h;refine thn (t g s u H _ I h) λv d ⟨x,m,i,r1,q1⟩=>?_;have j:∀b∈[d.heap.objs.size],d6 X g m b:=λb w=>by
  obtain rfl:b=d.heap.objs.size:=by simpa using w
  exact i.fpOk (Nh _) (i.hok.fresh (Nh _))
 rcases q1 with⟨a,e,⟨xs,r⟩,q⟩|⟨a,e,⟨xs,r⟩,q⟩
 ·subst e
  cases r1;obtain⟨its,y,p,A⟩:=i.list r;exact SH p.isList ⟨d.heap.objs.size,[d.heap.objs.size],_,_,m,rfl,i.kept (t':=d.toks) λb o e=>M1 _ e,qo a _,⟨_,Nu _ rfl,rfl,rfl⟩,j,q⟩
 ·subst e
  cases r1;obtain⟨its,y,p,A⟩:=i.tuple r;exact T3 (show d.heap.IsTuple a its.toArray from p) ⟨d.heap.objs.size,[d.heap.objs.size],_,_,m,rfl,i.kept (t':=d.toks) λb o e=>M1 _ e,vV a _,⟨_,Nu _ rfl,rfl,rfl⟩,j,q⟩
theorem BD{F:Fx}{H:Hp}{a:M3}(h:Den K F H (.lst ds) (.ref a)):ItD K (Itl K a) F H ds:=λu v β2 t fr i=>by
 have o:=Den.tr t _ _ h;obtain⟨w,xs,e,sq,g⟩:=Den.sqL o;cases e;refine⟨λd hd=>?_,λq=>⟨xs,sq,by rw[←g.length,q];exact Nh _⟩⟩;obtain⟨x,r,_⟩:=g.get hd;refine⟨⟨xs,x,sq,r⟩,λy A j=>?_⟩;obtain⟨rfl,j⟩:=j;obtain⟨d',m,l⟩:=g.getV (j xs sq);rw[hd]at m;cases m;exact⟨bv.refl _,l⟩
theorem II{F:Fx}{H:Hp}{a:M3}(h:Den K F H (.tup ds) (.ref a)):ItD K (Itt K a) F H ds:=λu v β2 t fr i=>by
 have o:=Den.tr t _ _ h;obtain⟨w,xs,e,sq,g⟩:=Den.sqT o;cases e;refine⟨λd hd=>?_,λq=>⟨xs,sq,by rw[←g.length,q];exact Nh _⟩⟩;obtain⟨x,r,_⟩:=g.get hd;refine⟨⟨xs,x,sq,r⟩,λy A j=>?_⟩;obtain⟨rfl,j⟩:=j;obtain⟨d',m,l⟩:=g.getV (j xs sq);rw[hd]at m;cases m;exact⟨bv.refl _,l⟩
def bV(f:FD):FL:=λδ=>M.bind (f δ) λd=>M.ofO (dF d)
theorem aY{f:FD}(j:PE X l (tV X.K f E)):PI X tg l (iV X.K (bV f) E):=
 (JP j).imp λq H R g=>ex6 g λF δ β fr m h=>⟨F,δ,β,fr,m,(run.bind (R:=Den X.K F) h).mono λv i g=>by
  obtain⟨d,β1,t,hd,r1⟩:=g;obtain⟨ds,e,k⟩:=run.ofO r1;cases d<;>first
   |(cases e;obtain⟨a,xs,rfl,sq,o⟩:=Den.sqL hd;exact .inl ⟨a,rfl,⟨xs,sq⟩,k _ i (To.refl t.fr) (BD hd)⟩)
   |(cases e;obtain⟨a,xs,rfl,sq,o⟩:=Den.sqT hd;exact .inr ⟨a,rfl,⟨xs,sq⟩,k _ i (To.refl t.fr) (II hd)⟩)
   |cases e⟩
noncomputable def aU(lo:Int)(n:Nat):List D:=(Nd n).map λ(i:Nat)=> .int (lo+(i:Int))
theorem qI{F:Fx}{H:Hp}{lo:Int}{n:Nat}:ItD K (Itr lo n) F H (aU lo n):=λl m β2 t fr i=>by
 refine⟨λd hd=>?_,λg=>?_⟩
 ·unfold aU at hd
  have g:i<n:=by
   have:=(Nj.mp hd).1;simpa using this
  rw[M9,Oq g]at hd;cases hd;exact⟨g,λx o ⟨h,j⟩=>by subst h j;exact⟨bv.refl _,rfl⟩⟩
 ·show n<=i
  rw[g];simp[aU]
def fA:List D->Option (List D)
 |[.int j]=>if(decide (-(2^62)<=j)&&decide (j<2^62))=M2 then on (aU 0 j.toNat)else MY
 |_=>MY
def mZ:List D->Option (List D)
 |[.int i,.int j]=>if(decide (-(2^62)<=i)&&decide (i<2^62)&&decide (-(2^62)<=j)&&decide (j<2^62))=M2 then on (aU i (j-i).toNat)else MY
 |_=>MY
def bG(op:List D->Option (List D))(g:FL):FL:=λδ=>M.bind (g δ) λas=>M.ofO (op as)
theorem ci{a:Expr}{p pos:RN}(j:Gl X "range")(hm:X.mg "range"=MY)(ha:PA X [a] (tVA X.K g E))(hs:No [a] X.env=[(M4,Op a X.env)]:=by rfl):PI X tg (.Call (.Name "range" p) [a] [] pos) (iV X.K (bG fA g) E):=
 (yf j hm ha hs).imp λr H R d=>ex6 d λF δ β fr m h=>⟨F,δ,β,fr,m,(run.bind (R:=DenL X.K F) h).mono λvs o d=>by
  obtain⟨ds,β1,t,hd,r1⟩:=d;obtain⟨l,e,k⟩:=run.ofO r1;unfold fA at e;split at e
  ·split at e
   ·rename_i i
    cases e;simp only[NO,NZ]at i;obtain⟨v,rfl,q⟩:=DenL.one hd;cases q.int;exact⟨_,rfl,i.1,i.2,k _ o (To.refl t.fr) qI⟩
   ·cases e
  ·cases e⟩
theorem jS{a b:Expr}{p pos:RN}(m:Gl X "range")(hm:X.mg "range"=MY)(ha:PA X [a,b] (tVA X.K g E))(hs:No [a,b] X.env=[(M4,Op a X.env),(M4,Op b X.env)]:=by rfl)(i:No [b] X.env=[(M4,Op b X.env)]:=by rfl):PI X tg (.Call (.Name "range" p) [a,b] [] pos) (iV X.K (bG mZ g) E):=
 (ye m hm ha hs i).imp λy H R j=>ex6 j λF δ β fr o h=>⟨F,δ,β,fr,o,(run.bind (R:=DenL X.K F) h).mono λvs q j=>by
  obtain⟨ds,β1,t,hd,r1⟩:=j;obtain⟨l,e,k⟩:=run.ofO r1;unfold mZ at e;split at e
  ·split at e
   ·rename_i d
    cases e;simp only[NO,NZ]at d;obtain⟨v,w,rfl,r,u⟩:=DenL.two hd;cases r.int;cases u.int;exact⟨_,_,rfl,⟨d.1.1.1,d.1.1.2,d.1.2,d.2⟩,k _ q (To.refl t.fr) qI⟩
   ·cases e
  ·cases e⟩
abbrev TgF:=D->Dn->Option Dn
abbrev il:=List D->Dn->Option Dn
def cf(K:NA)(g:TG)(tg:TgF):Prop:=∀(F:Fx) (H:Hp) (δ δ1:Dn) (i:St) (d:D) (v:V) (Q:St->Hp->Prop),VOk K F H δ i->Den K F H d v->tg d δ=on δ1->(∀h,VOk K F H δ1 h->Q h H)->g v i H Q
def pi(K:NA)(g:TGs)(tg:il):Prop:=∀(F:Fx) (H:Hp) (δ δ1:Dn) (h:St) (ds:List D) (vs:List V) (Q:St->Hp->Prop),VOk K F H δ h->DenL K F H ds vs->tg ds δ=on δ1->(∀d,VOk K F H δ1 d->Q d H)->g vs h H Q
noncomputable def tgC(i:Nat):TgF:=λd δ=>if(δ.getD i (on .non)).isNone then on (δ.set i (on d))else MY
noncomputable def gh:il:=λds δ=>match ds with
 |[]=>on δ
 |_=>MY
noncomputable def c9(t:TgF)(u:il):il:=λds δ=>match ds with
 |[]=>MY
 |d::r=>(t d δ).bind λδ1=>u r δ1
noncomputable def tgT(t:il):TgF:=λd δ=>match d with
 | .tup ds=>t ds δ
 |_=>MY
theorem sw{δ δ1:Dn}(h:tgC i d δ=on δ1):δ[i]?=on MY/\δ1=δ.set i (on d):=by
 unfold tgC at h;split at h
 ·rename_i q
  cases h;refine⟨?_,rfl⟩;rw[Na]at q;cases e:δ[i]? with
  |none=>rw[e]at q;cases q
  |some z=>
   rw[e]at q;cases z with
   |none=>rfl
   |some w=>cases q
 ·cases h
theorem ak:cf K (dH i) (tgC i):=λF H δ δ1 h d v Q g hd e k=>by
 obtain⟨_,rfl⟩:=sw e;exact k _ (g.set hd)
theorem bZ:pi K gNil gh:=λF H δ δ1 g ds vs Q d hd e k=>by
 cases ds with
 |nil=>cases e;exact⟨hd,k _ d⟩
 |cons _ _=>cases e
theorem aM(m:cf K t tf)(o:pi K u uf):pi K (wS t u) (c9 tf uf):=λF H δ δ1 v ds vs Q w hd e k=>by
 cases ds with
 |nil=>cases e
 |cons d r=>
  obtain⟨x,l,rfl,y,A⟩:=hd;have h:(tf d δ).bind (λδ1=>uf r δ1)=on δ1:=e;cases q:tf d δ with
  |none=>rw[q]at h;cases h
  |some g=>
   rw[q]at h;exact⟨x,l,rfl,m F H δ g v d x _ w y q λi j=>o F H g δ1 i r l Q j A h k⟩
theorem cS{n:Nat}(h:pi K t tf)(hn:∀ds δ δ1,tf ds δ=on δ1->ds.length=n):cf K (BL K n t) (tgT tf):=λF H δ δ1 i d v Q j hd e k=>by
 cases d<;>first
  |(obtain⟨a,xs,rfl,sq,g⟩:=Den.sqT hd;exact⟨a,xs,rfl,sq,by rw[←g.length];exact hn _ _ _ e,h F H δ δ1 i _ xs Q j g e k⟩)
  |cases e
theorem bE:∀ds δ δ1,gh ds δ=on δ1->ds.length=0:=λds δ δ1 h=>by
 cases ds with
 |nil=>rfl
 |cons _ _=>cases h
theorem aK{n:Nat}(h:∀ds δ δ1,u ds δ=on δ1->ds.length=n):∀ds δ δ1,c9 t u ds δ=on δ1->ds.length=n+1:=λds δ δ1 e=>by
 cases ds with
 |nil=>cases e
 |cons d r=>
  have g:(t d δ).bind (λδ1=>u r δ1)=on δ1:=e;cases q:t d δ with
  |none=>rw[q]at g;cases g
  |some i=>rw[q]at g;rw[Nm,h _ _ _ g]
def de(tg:TgF):Prop:=∀d δ δ1,tg d δ=on δ1->Sub δ δ1/\δ.length=δ1.length
def rV(tg:il):Prop:=∀d δ δ1,tg d δ=on δ1->Sub δ δ1/\δ.length=δ1.length
theorem au:de (tgC i):=λd δ δ1 e=>by
 obtain⟨q,rfl⟩:=sw e;refine⟨λj c g=>?_,by rw[N7]⟩;rw[N9];by_cases z:i=j
 ·subst z;rw[q]at g;cases g
 ·rw[M8 z];exact g
theorem bX:rV gh:=λds δ δ1 e=>by
 cases ds with
 |nil=>cases e;exact⟨λ_ _ h=>h,rfl⟩
 |cons _ _=>cases e
theorem aL(j:de t)(l:rV u):rV (c9 t u):=λds δ δ1 e=>by
 cases ds with
 |nil=>cases e
 |cons d r=>
  have g:(t d δ).bind (λδ1=>u r δ1)=on δ1:=e;cases q:t d δ with
  |none=>rw[q]at g;cases g
  |some m=>
   rw[q]at g;obtain⟨a1,a2⟩:=j _ _ _ q;obtain⟨b1,b2⟩:=l _ _ _ g;exact⟨λi c h=>b1 i c (a1 i c h),a2.trans b2⟩
theorem cR(h:rV t):de (tgT t):=λd δ δ1 e=>by
 cases d<;>first|exact h _ _ _ e|cases e
structure ToD (F:Fx) (D:M3) (H H':Hp) (β':Bg):Prop where
 kp:∀a o,H a=on o->a≠D->(∀b l,F.bg=on (b,l)->a≠b/\a≠l)->H' a=on o
 fr:Fr F H' β'
theorem ToD.trans{F:Fx}{D:M3}{H d g:Hp}(a:ToD F D H d β1)(b:ToD F D d g β2):ToD F D H g β2:=⟨λx o h n m=>b.kp x o (a.kp x o h n m) n m,b.fr⟩
theorem To.toD{F:Fx}{H d:Hp}(t:To F H d β')(D:M3):ToD F D H d β':=⟨λa o h _ m=>t.kp a o h m,t.fr⟩
theorem ToD.tr{F:Fx}{D:M3}{H d:Hp}(fr:Fr F H β)(g:F.A D)(t:ToD F D H d β'):Tr F H F d:=
 ⟨λ_ h _=>h,λa o h e=>t.kp a o e (λz=>h (z▸g)) λb l q=>⟨λz=>h (z▸(fr.bgA b l q).1),λz=>h (z▸(fr.bgA b l q).2.1)⟩,rfl⟩
structure AR where
 R:Fx->Hp->M3->List Pu.D->Prop
 Z:List Pu.D->Prop
 tr:∀{F F2:Fx} {H H':Hp} {D:M3} {as:List Pu.D},R F H D as->(∀o,H D=on o->H' D=on o)->Tr F H F2 H'->R F2 H' D as
 zp:∀{as os:List Pu.D},Z (as++os)->Z as
noncomputable def RL(K:NA):AR where
 R:=λF H D as=>∃acc,H D=on (.lst acc)/\DenL K F H as acc
 Z:=λl=>l.length<=Nr
 tr:=λh k t=>by
  obtain⟨acc,d,g⟩:=h;exact⟨acc,k _ d,DenL.tr t _ _ g⟩
 zp:=λh=>by rw[Ny]at h;omega
def dP(K:NA)(R:AR)(D:M3)(j:TB)(f:Dn->M (List Pu.D)):Prop:=∀(F:Fx) (H:Hp) (δ:Dn) (β d:Bg) (i:St) (as os:List Pu.D) (Q:St->Hp->Prop),Fr F H β->F.A D->(∀b l,F.bg=on (b,l)->D≠b/\D≠l)->VOk K F H δ i->R.R F H D as->
 f δ β=on (.ok os,d)->R.Z (as++os)->(∀g h,ToD F D H h d->VOk K F h δ g->R.R F h D (as++os)->Q g h)->j i H Q
abbrev iO(K:NA):=dP K (RL K)
def cEm(f:Dn->M Pu.D):Dn->M (List Pu.D):=λδ=>M.bind (f δ) λd=>M.ret [d]
theorem M.bind_inv{α g:Type}{m:M α}{k:α->M g}{β d:Bg}{r:g}(h:M.bind m k β=on (.ok r,d)):∃a β1,m β=on (.ok a,β1)/\k a β1=on (.ok r,d):=by
 unfold M.bind at h;split at h
 ·cases h
 ·cases h
 ·rename_i a β1 e
  exact⟨a,β1,e,h⟩
theorem E0.run{α i:Type}{R:Hp->α->i->Prop}{F:Fx}{j:St}{m:M α}{H:Hp}{Q:i->Hp->Prop}{β d:Bg}{a:α}(e:m β=on (.ok a,d))(h:∀v g,To F H g d->R g a v->Q v g):run R F E0 j m H Q β:=⟨.ok a,d,e,h⟩
theorem aP{D:M3}{f:Dn->M Pu.D}:iO K D (w9 D (tV K f E0)) (cEm f):=λF H δ β g w as os Q fr y i m A e B k=>by
 obtain⟨acc,C,hd⟩:=A;obtain⟨d,β1,I,J⟩:=M.bind_inv e;cases J;refine⟨F,δ,β,fr,m,E0.run I λv r t L=>?_⟩;have j:=t.kp D _ C i;have N:=DenL.tr (t.tr fr) _ _ hd;refine⟨acc,j,by rw[←hd.length];have:=(show(as++[d]).length<=Nr from B);simp at this;omega,?_⟩;have u:ToD F D r (upd r D (.lst (acc++[v]))) g:=by
  refine⟨λa o h n _=>by rw[upd_ne n];exact h,λa h q=>?_,fr.bgA,λb l q=>?_⟩
  ·by_cases z:a=D
   ·subst z;rw[ah]at q;cases q
   ·rw[upd_ne z]at q;exact t.fr.occ a h q
  ·rw[upd_ne (i b l q).1.symm,upd_ne (i b l q).2.symm]
   exact t.fr.bag b l q
 have tt:=u.tr t.fr y;exact k w _ ((t.toD D).trans u) (m.tr ((t.tr fr).trans tt)) ⟨_,ah,DenL.append (DenL.tr tt _ _ N) ⟨v,[],rfl,Den.tr tt _ _ L,rfl⟩⟩
def cLp(tg:TgF)(tt:Dn->M Bool)(b:Dn->M (List Pu.D)):List Pu.D->Dn->M (List Pu.D)
 |[],_=>M.ret []
 |d::ds,δ=>match tg d δ with
  |none=>M.fail
  |some δ1=>M.bind (tt δ1) λc=>M.bind (if c=M2 then b δ1 else M.ret []) λo=>M.bind (cLp tg tt b ds δ) λos=>M.ret (o++os)
theorem lU{R:AR}{D:M3}{tg:TgF}{b:Dn->M (List Pu.D)}(hg:cf K g tg)(sg:de tg)(hb:dP K R D tb b){F:Fx}{H:Hp}{as os ds:List Pu.D}(fr:Fr F H β)(hA:F.A D)(hn:∀b l,F.bg=on (b,l)->D≠b/\D≠l)(vk:VOk K F H δ σ)(hR:R.R F H D as)
  (it:ItD K J F H ds) (e:cLp tg tt b ds δ β=on (.ok os,β')) (hz:R.Z (as++os)) (k:∀j t,ToD F D H t β'->VOk K F t δ j->R.R F t D (as++os)->Q j t):cJ J g (tVT K tt E0) tb σ H Q:=by
 refine⟨λi m j t=>m+i=ds.length/\∃β1 r v,ToD F D H t β1/\VOk K F t δ j/\R.R F t D r/\cLp tg tt b (ds.drop i) δ β1=on (.ok v,β')/\r++v=as++os,
  ⟨ds.length,by omega,β,as,os,⟨λ_ _ h _ _=>h,fr⟩,vk,hR,e,rfl⟩,?_⟩
 rintro i m j t ⟨hm,β1,r,v,B,C,I,u,ea⟩;have tr1:=B.tr fr hA;obtain⟨iy,is⟩:=it F t β1 tr1 B.fr i;cases T:ds[i]? with
 |none=>
  have U:ds.length<=i:=R4.mp T;rw[P9 U]at u;cases u;refine .inl ⟨is (by omega),k j t B C ?_⟩;rw[←ea,NV];exact I
 |some d=>
  have U:i<ds.length:=(Nj.mp T).1;obtain⟨go,yl⟩:=iy d T;have ed:ds.drop i=d::ds.drop (i+1):=by
   rw[Ot U];congr 1;exact NN ((M6 U).symm.trans T)
  rw[ed]at u;unfold cLp at u;cases q:tg d δ with
  |none=>rw[q]at u;cases u
  |some δ1=>
   rw[q]at u;obtain⟨c,β2,e2,e3⟩:=M.bind_inv u;obtain⟨o,β3,W,e5⟩:=M.bind_inv e3;obtain⟨os2,β4,e6,e7⟩:=M.bind_inv e5;cases e7;obtain⟨s1,s2⟩:=sg _ _ _ q;refine .inr ⟨go,λL Y=>ToD F D H Y β3/\VOk K F Y δ L/\R.R F Y D (r++o),?_,λx H2 hy=>?_⟩
   ·rintro L Y ⟨t9,vk9,hR9⟩
    exact⟨m-1,by omega,by omega,β3,r++o,os2,t9,vk9,hR9,e6,by rw[Oy];exact ea⟩
   ·obtain⟨sm,dx⟩:=yl x H2 hy
    have t2:To F t H2 β1:=B.fr.same sm;have N:=t2.tr B.fr;refine hg F H2 δ δ1 j d x _ (C.tr N) dx q λσ2 w=>⟨F,δ1,β1,t2.fr,w,E0.run e2 λc' H3 t3 ec=>?_⟩;subst ec;have y:=t3.tr t2.fr;have O:=R.tr I (λo z=>t3.kp D o (sm _ _ z) hn) (N.trans y);have P:ToD F D H H3 β2:=B.trans ((t2.trans t3).toD D);have hle:R.Z (r++o):=by
     rw[←ea,←Oy]at hz;exact R.zp hz
    cases c' with
    |true=>
     rw[Nf rfl]at W⊢;refine hb F H3 δ1 β2 β3 σ2 r o _ t3.fr hA hn (w.tr y) O W hle λσ4 H4 t4 vk4 hR4=>?_;exact⟨P.trans t4,vk4.sub s1 s2,hR4⟩
    |false=>
     rw[M8 Ni]at W⊢;cases W;exact⟨P,(w.tr y).sub s1 s2,by rw[NV];exact O⟩
def cNx(it:Dn->M (List Pu.D))(tg:TgF)(tt:Dn->M Bool)(b:Dn->M (List Pu.D)):Dn->M (List Pu.D):=λδ=>M.bind (it δ) λds=>cLp tg tt b ds δ
theorem ng{D:M3}{tg:TgF}{b:Dn->M (List Pu.D)}(j:cf K g tg)(l:de tg)(m:dP K R D tb b):dP K R D (w8 (iV K it E0) λJ=>cJ J g (tVT K tt E0) tb) (cNx it tg tt b):=λF H δ β q C as os Q fr r hn h u e v k=>by
 obtain⟨ds,β1,w,y⟩:=M.bind_inv e;refine⟨F,δ,β,fr,h,E0.run w λJ i t A=>?_⟩;exact lU j l m t.fr r hn (h.tr (t.tr fr)) (R.tr u (λo z=>t.kp D o z hn) (t.tr fr)) A y v λd i B=>k d i ((t.toD D).trans B)
theorem ID{D:M3}{tg:TgF}{b:Dn->M (List Pu.D)}(d:cf K g tg)(h:de tg)(i:iO K D tb b):iO K D (w8 (iV K it E0) λJ=>cJ J g (tVT K tt E0) tb) (cNx it tg tt b):=ng d h i
noncomputable def cSt(nv:Nat)(caps:List Nat)(δ:Dn):Dn:=Nx nv MY++caps.map λj=>δ.getD j MY
def cb(nv:Nat)(caps:List Nat)(it:Dn->M (List Pu.D))(tg:TgF)(tt:Dn->M Bool)(b:Dn->M (List Pu.D)):Dn->M Pu.D:=λδ β=>match it δ β with
 |none=>MY
 |some (.error C,β1)=>on (.error C,β1)
 |some (.ok ds,β1)=>match cLp tg tt b ds (cSt nv caps δ) β1 with
  |some (.ok os,β2)=>if os.length<=Nr then on (.ok (.lst os),β2)else MY
  |_=>MY
theorem o9{F:Fx}{H:Hp}{vars:List NY}(h:VOk K F H δ σ):VOk K F H (cSt vars.length caps δ) (jv vars caps σ):=by
 refine⟨by simp[cSt,jv],λi d e=>?_⟩;unfold cSt at e;unfold jv;rw[SV]at e⊢;rw[ON]at e⊢;by_cases g:i<vars.length
 ·rw[Nf g,P5,Nf g]at e
  cases e
 ·rw[M8 g,M9]at e⊢
  cases q:caps[i-vars.length]? with
  |none=>rw[q]at e;cases e
  |some j=>
   rw[q]at e;simp only[Ol,UJ]at e⊢;rw[Na]at e;cases z:δ[j]? with
   |none=>rw[z]at e;cases e
   |some w=>
    rw[z]at e;have l:w=on d:=e;subst l;obtain⟨v,m,o⟩:=h.tell j d z;exact⟨v,by rw[Na,m];rfl,o⟩
theorem sy{vars:List NY}{caps:List Nat}{it:Dn->M (List Pu.D)}{g:TG}{tg:TgF}{tt:Dn->M Bool}{P:M3->TB}{b:Dn->M (List Pu.D)}(Z:cf K g tg)(sg:de tg)(hb:∀D,iO K D (P D) b){T:St}{H:Hp}{Q:VK}(h:tV K (cb vars.length caps it tg tt b) E T H Q):
  nU vars caps (iV K it E) (λD J=>cJ J g (tVT K tt E0) (P D)) T H Q:=by
 obtain⟨F,δ,β,fr,U,r,v,e,h⟩:=h;unfold cb at e;refine⟨F,δ,β,fr,U,?_⟩;split at e
 ·cases e
 ·rename_i C β1 q
  cases e;exact⟨.error C,_,q,h⟩
 ·rename_i ds β1 q
  split at e
  ·rename_i os β2 q2
   split at e
   ·rename_i hz
    cases e;refine⟨.ok ds,β1,q,λJ u t hJ D i=>?_⟩;have d:¬F.A D:=t.fr.fresh i;have nb:∀b l,F.bg=on (b,l)->D≠b/\D≠l:=λb l z=>⟨λw=>d (w▸(fr.bgA b l z).1),λw=>d (w▸(fr.bgA b l z).2.1)⟩;have W:=t.fr.upd (.lst []) i;have B:Fr ⟨λa=>F.A a\/a=D,F.bg⟩ (upd u D (.lst [])) β1:=by
     refine⟨λa ha z=>?_,λb l z=>let ⟨x,y,w⟩:=fr.bgA b l z;⟨.inl x,.inl y,w⟩,W.fr.bag⟩
     rcases ha with ha|ha
     ·exact W.fr.occ a ha z
     ·subst ha;rw[ah]at z;cases z
    have j:Tr F u ⟨λa=>F.A a\/a=D,F.bg⟩ (upd u D (.lst [])):=⟨λa ha hs z=>by
     rcases z with z|z
     ·exact ha z
     ·subst z;exact hs i,λa o ha z=>by rw[upd_ne (aw z i)];exact z,rfl⟩
    refine lU (R:=RL K) (D:=D) (as:=[]) (os:=os) Z sg (hb D) B (.inr rfl) nb (o9 (U.tr ((t.tr fr).trans j))) ⟨[],ah,rfl⟩ (hJ.tr j) q2 (show os.length<=Nr from hz) λσ1 Y I vk3 L=>?_;obtain⟨m,N,O⟩:=L;have tf:To F u Y v:=by
     refine⟨λa o z n=>I.kp a o (by rw[upd_ne (aw z i)];exact z) (aw z i) n,λa ha z=>I.fr.occ a (Po ha) z,fr.bgA,I.fr.bag⟩
    refine h _ Y (t.trans tf) ⟨D,m,rfl,⟨d,.inl N⟩,DenL.tr (F:=⟨λa=>F.A a\/a=D,F.bg⟩) ⟨λa ha _ z=>ha (Po z),λa o _ z=>z,rfl⟩ _ _ O⟩
   ·cases e
  ·cases e
inductive Sl where
 |sh (d:D)|own (ds:List D)|grd (rows:List (List D))|odc (b:Bool) (ks:List KyD) (vs:List D)
abbrev Ds:=List (Option Sl)
inductive Out where
 |nx (δ:Ds)|rt (d:D)|bk (δ:Ds)|ct (δ:Ds)|ex (C:M3) (δ:Ds)|rg (rows:List (List D))
abbrev G:=Ds->Bg->Option (Out×Bg)
abbrev Ow:=M3->Option Nat
noncomputable def FxB(B:Ow)(bg:Option (M3×M3)):Fx:=⟨λa=>B a≠MY,bg⟩
noncomputable def FxA(B:Ow)(bg:Option (M3×M3)):Fx:=⟨λa=>B a=on 0\/B a=on 1,bg⟩
def RowL(K:NA)(F:Fx)(H:Hp)(P:M3->Prop):List (List D)->List M3->Prop
 |[],[]=>True
 |ds::rows,r::rs=>P r/\(∃xs,H r=on (.lst xs)/\DenL K F H ds xs)/\RowL K F H P rows rs
 |_,_=>False
theorem RowL.tr{K:NA}{F i:Fx}{H d:Hp}(t:Tr F H i d):∀{rows:List (List D)} {rs:List M3},RowL K F H P rows rs->(∀r xs,r∈rs->P r->H r=on (.lst xs)->P2 r/\d r=on (.lst xs))->RowL K i d P2 rows rs
 |[],[],_,_=>trivial
 |ds::rows,r::rs,h,f=>by
  obtain⟨j,⟨xs,l,m⟩,o⟩:=h;obtain⟨p,q⟩:=f r xs Nb j l;exact⟨p,⟨xs,q,DenL.tr t _ _ m⟩,RowL.tr t o λu g v=>f u g (M5 _ v)⟩
 |[],_::_,h,_=>h.elim
 |_::_,[],h,_=>h.elim
theorem RowL.all{K:NA}{F:Fx}{H:Hp}:∀{rows:List (List D)} {rs:List M3},RowL K F H P rows rs->∀r∈rs,P r/\∃xs,H r=on (.lst xs)
 |[],[],_,r,hr=>by cases hr
 |ds::rows,r0::rs,h,r,hr=>by
  obtain⟨d,⟨xs,g,j⟩,i⟩:=h;rcases Nq.mp hr with rfl|hr
  ·exact⟨d,xs,g⟩
  ·exact RowL.all i r hr
 |[],_::_,h,_,_=>h.elim
 |_::_,[],h,_,_=>h.elim
theorem RowL.den{K:NA}{F d:Fx}{H:Hp}(t:Tr F H d H):∀{rows:List (List D)} {rs:List M3},RowL K F H P rows rs->(∀r,r∈rs->P r->¬d.A r)->DenL K d H (rows.map D.lst) (rs.map V.ref)
 |[],[],_,_=>rfl
 |ds::rows,r::rs,h,f=>by
  obtain⟨g,⟨xs,i,j⟩,l⟩:=h;exact DenL.cons ⟨r,xs,rfl,⟨f r Nb g,.inl i⟩,DenL.tr t _ _ j⟩ (RowL.den t l λm o=>f m (M5 _ o))
 |[],_::_,h,_=>h.elim
 |_::_,[],h,_=>h.elim
theorem RowL.len{K:NA}{F:Fx}{H:Hp}:∀{rows:List (List D)} {rs:List M3},RowL K F H P rows rs->rows.length=rs.length
 |[],[],_=>rfl
 |ds::rows,r::rs,h=>by simp[RowL.len h.2.2]
 |[],_::_,h=>h.elim
 |_::_,[],h=>h.elim
def gc(K:NA)(F:Fx)(H0 H:Hp)(rows:List (List D))(v:V):Prop:=∃a rs,v= .ref a/\H0 a=MY/\H a=on (.lst (rs.map V.ref))/\(a::rs).Nodup/\RowL K F H (λr=>H0 r=MY) rows rs
def ODc(K:NA)(F:Fx)(H:Hp)(a:M3)(b:Bool)(ks:List KyD)(vs:List D):Prop:=∃ep xs,H a=on (bN a b ep xs)/\ks=xs.map (·.1)/\(∀x∈xs,dZ K F H b x.1 x.2.1)/\DenL K F H vs (xs.map (·.2.2))
theorem ODc.tr{K:NA}{F g:Fx}{H d:Hp}{a:M3}{b:Bool}(t:Tr F H g d)(h:ODc K F H a b ks vs)(k:∀o,H a=on o->d a=on o):ODc K g d a b ks vs:=by
 obtain⟨ep,xs,i,j,l,m⟩:=h;exact⟨ep,xs,k _ i,j,λx q=>(l x q).tr t,DenL.tr t _ _ m⟩
theorem ODc.ne{K:NA}{F:Fx}{H:Hp}{a:M3}{b:Bool}(h:ODc K F H a b ks vs):H a≠MY:=by
 obtain⟨ep,xs,d,_⟩:=h;rw[d];simp
def OwO(H:Hp)(a:M3):Prop:=(∃xs,H a=on (.lst xs))\/∃d,H a=on (.ext d)
theorem OwO.imp{H d:Hp}{a:M3}(h:OwO H a)(k:∀o,H a=on o->d a=on o):OwO d a:=Or.imp (λ⟨xs,z⟩=>⟨xs,k _ z⟩) (λ⟨g,z⟩=>⟨g,k _ z⟩) h
def EB(K:NA)(B:Ow)(bg:Option (M3×M3))(H:Hp)(i:Nat):Sl->V->Prop
 | .sh d,v=>Den K (FxB B bg) H d v
 | .own ds,v=>∃a xs,v= .ref a/\B a=on (i+2)/\H a=on (.lst xs)/\DenL K (FxB B bg) H ds xs
 | .grd rows,v=>∃a rs,v= .ref a/\B a=on (i+2)/\H a=on (.lst (rs.map V.ref))/\(a::rs).Nodup/\RowL K (FxB B bg) H (λr=>B r=on (i+2)) rows rs
 | .odc b ks vs,v=>∃a,v= .ref a/\B a=on (i+2)/\ODc K (FxB B bg) H a b ks vs
structure SOk (K:NA) (H₀:Hp) (B:Ow) (bg:Option (M3×M3)) (H:Hp) (δ:Ds) (β:Bg) (σ:St):Prop where
 fr:Fr (FxB B bg) H β
 bgt:∀b l,bg=on (b,l)->B b=on 1/\B l=on 1
 len:δ.length=σ.length
 cov:∀a,H₀ a≠MY->H a≠MY
 new:∀a k,B a=on (k+2)->H₀ a=MY
 lst:∀a k,B a=on (k+2)->OwO H a
 tell:∀(i:Nat) (s:Sl),δ[i]?=on (on s)->∃v,σ[i]?=on (on v)/\EB K B bg H i s v
structure Stp (B:Ow) (H:Hp) (B':Ow) (H':Hp):Prop where
 kp:∀a o,H a=on o->(B a=MY\/B a=on 0)->H' a=on o
 tg:∀a,B a=on 0\/B a=on 1->B' a=B a
 nn:∀a o,H a=on o->B a=MY->B' a=MY
 al:∀a,H a≠MY->H' a≠MY
theorem Stp.refl(B:Ow)(H:Hp):Stp B H B H:=⟨λ_ _ h _=>h,λ_ _=>rfl,λ_ _ _ h=>h,λ_ h=>h⟩
theorem Stp.trans{H d g:Hp}(a:Stp B H B1 d)(b:Stp B1 d B2 g):Stp B H B2 g:=by
 refine⟨λx o h n=>b.kp x o (a.kp x o h n) ?_,λx h=>?_,λx o h n=>b.nn x o (a.kp x o h (.inl n)) (a.nn x o h n),λx h=>b.al x (a.al x h)⟩
 ·rcases n with n|n
  ·exact .inl (a.nn x o h n)
  ·exact .inr ((a.tg x (.inl n)).trans n)
 ·have e:=a.tg x h
  rw[←e]at h;exact(b.tg x h).trans e
def gL(K:NA)(H₀:Hp)(bg:Option (M3×M3))(E:St->XK)(Dn:Ends)(B:Ow)(H:Hp)(o:Out)(j:Bg):Prop:=match o with
 | .nx δ'=>∀h i g,Stp B H i g->SOk K H₀ i bg g δ' j h->Dn.nx h g
 | .bk δ'=>∀h i g,Stp B H i g->SOk K H₀ i bg g δ' j h->Dn.bk h g
 | .ct δ'=>∀h i g,Stp B H i g->SOk K H₀ i bg g δ' j h->Dn.ct h g
 | .rt d=>∀v i g,Stp B H i g->Fr (FxB i bg) g j->Den K (FxB i bg) g d v->Dn.rt v g
 | .rg rows=>∀v i g,Stp B H i g->Fr (FxB i bg) g j->gc K (FxB i bg) H₀ g rows v->Dn.rt v g
 | .ex C δ'=>∀h i g,Stp B H i g->SOk K H₀ i bg g δ' j h->E h (.ref C) MY g
theorem gL.pre{K:NA}{E:St->XK}{Dn:Ends}{H l:Hp}(s:Stp B H B1 l)(h:gL K H₀ bg E Dn B H o β'):gL K H₀ bg E Dn B1 l o β':=by
 cases o with
 |nx δ=>exact λg i j t=>h g i j (s.trans t)
 |bk δ=>exact λg i j t=>h g i j (s.trans t)
 |ct δ=>exact λg i j t=>h g i j (s.trans t)
 |rt d=>exact λv i j t=>h v i j (s.trans t)
 |rg d=>exact λv i j t=>h v i j (s.trans t)
 |ex C δ=>exact λg i j t=>h g i j (s.trans t)
def tG(K:NA)(H₀:Hp)(g:G)(E:St->XK):TS:=λDn h H=>∃B bg δ β o d,SOk K H₀ B bg H δ β h/\g δ β=on (o,d)/\gL K H₀ bg E Dn B H o d
theorem _root_.L2.PS.imp{X:Cx}{e:OA}(h:PS X e t)(f:∀D d H,t' D d H->t D d H):PS X e t':=λg s d H D I q=>h g s d H D I (f D d H q)
theorem _root_.L2.PSs.imp{X:Cx}{e:List OA}(h:PSs X e t)(f:∀D d H,t' D d H->t D d H):PSs X e t':=λg s d H D I q=>h g s d H D I (f D d H q)
noncomputable def vw(δ:Ds):Dn:=δ.map λs=>match s with
 |some (.sh d)=>on d
 |_=>MY
noncomputable def vwA(δ:Ds):Dn:=δ.map λs=>match s with
 |some (.sh d)=>on d
 |some (.own ds)=>on (.lst ds)
 |some (.grd rows)=>on (.lst (rows.map D.lst))
 |some (.odc b ks vs)=>on (.dct b ks vs)
 |none=>MY
variable{H₀:Hp}{B:Ow}{bg:Option (M3×M3)}{H':Hp}{δ:Ds}{β β':Bg}{σ:St}
theorem LV{i:Nat}{d:D}(e:(vw δ)[i]?=on (on d)):δ[i]?=on (on (.sh d)):=by
 unfold vw at e;rw[M9]at e;cases q:δ[i]? with
 |none=>rw[q]at e;cases e
 |some z=>
  rw[q]at e;cases z with
  |none=>cases e
  |some s=>
   cases s with
   |sh c=>cases e;rfl
   |own ds=>cases e
   |grd rows=>cases e
   |odc b ks vs=>cases e
theorem SOk.view(h:SOk K H₀ B bg H δ β σ):VOk K (FxB B bg) H (vw δ) σ:=⟨by unfold vw;rw[MZ,h.len],λi d e=>h.tell i _ (LV e)⟩
theorem trA:Tr (FxB B bg) H (FxA B bg) H:=⟨λa h _ z=>by
 have h':¬(B a≠MY):=h;rcases z with z|z
 ·exact h' (by rw[z];simp)
 ·exact h' (by rw[z];simp),λ_ _ _ h=>h,rfl⟩
theorem SOk.frA(h:SOk K H₀ B bg H δ β σ):Fr (FxA B bg) H β:=⟨λa ha=>h.fr.occ a (by
 show B a≠MY;rcases ha with z|z<;>rw[z]<;>simp),λb l e=>⟨.inr (h.bgt b l e).1,.inr (h.bgt b l e).2,(h.fr.bgA b l e).2.2⟩,h.fr.bag⟩
theorem SOk.viewA(h:SOk K H₀ B bg H δ β σ):VOk K (FxA B bg) H (vwA δ) σ:=by
 refine⟨by unfold vwA;rw[MZ,h.len],λi d e=>?_⟩;unfold vwA at e;rw[M9]at e;cases q:δ[i]? with
 |none=>rw[q]at e;cases e
 |some z=>
  rw[q]at e;cases z with
  |none=>cases e
  |some s=>
   obtain⟨v,m,o⟩:=h.tell i s q;cases s with
   |sh c=>cases e;exact⟨v,m,Den.tr trA _ _ o⟩
   |own ds=>
    cases e;obtain⟨a,xs,g,j,l,t⟩:=o;refine⟨v,m,a,xs,g,⟨λz=>?_,.inl l⟩,DenL.tr trA _ _ t⟩;have z':B a=on 0\/B a=on 1:=z;rw[j]at z';rcases z' with z'|z'<;>cases z'
   |grd rows=>
    cases e;obtain⟨a,rs,g,j,l,t,u⟩:=o;have w:∀c,B c=on (i+2)->¬(FxA B bg).A c:=λc y z=>by
     have z':B c=on 0\/B c=on 1:=z;rw[y]at z';rcases z' with z'|z'<;>cases z'
    exact⟨v,m,a,_,g,⟨w a j,.inl l⟩,RowL.den trA u λr _ C=>w r C⟩
   |odc b ks vs=>
    cases e;obtain⟨a,g,j,ep,xs,l,t,u,I⟩:=o;refine⟨v,m,?_⟩;unfold Den;refine⟨a,ep,xs,g,⟨λz=>?_,l⟩,t,λx J=>(u x J).tr trA,DenL.tr trA _ _ I⟩;have z':B a=on 0\/B a=on 1:=z;rw[j]at z';rcases z' with z'|z'<;>cases z'
theorem SOk.to{F:Fx}(h:SOk K H₀ B bg H δ β σ)(hF:F.bg=bg)(t:To F H H' β'):SOk K H₀ B bg H' δ β' σ/\Stp B H B H':=by
 have J:∀a,B a≠on 1->∀b l,F.bg=on (b,l)->a≠b/\a≠l:=λa ha b l e=>by
  rw[hF]at e;exact⟨λz=>ha (z▸(h.bgt b l e).1),λz=>ha (z▸(h.bgt b l e).2)⟩
 have kp:∀a o,H a=on o->B a≠on 1->H' a=on o:=λa o e n=>t.kp a o e (J a n);have fr:Fr (FxB B bg) H' β':=⟨λa ha z=>(by
  by_cases L:B a=on 1
  ·by_cases g:∃b l,bg=on (b,l)/\(a=b\/a=l)
   ·obtain⟨b,l,e,q⟩:=g
    obtain⟨y,A⟩:=t.fr.bag b l (hF.trans e);rcases q with rfl|rfl
    ·rw[y]at z;cases z
    ·rw[A]at z;cases z
   ·cases q:H a with
    |none=>exact h.fr.occ a ha q
    |some o=>
     rw[t.kp a o q λb l e=>⟨λw=>g ⟨b,l,hF.symm.trans e,.inl w⟩,λw=>g ⟨b,l,hF.symm.trans e,.inr w⟩⟩]at z;cases z
  ·cases q:H a with
   |none=>exact h.fr.occ a ha q
   |some o=>rw[kp a o q L]at z;cases z),h.fr.bgA,λb l e=>t.fr.bag b l (hF.trans e)⟩
 have tr:Tr (FxB B bg) H (FxB B bg) H':=⟨λ_ n _=>n,λa o n e=>kp a o e (λz=>n (by show B a≠MY;rw[z];simp)),rfl⟩;have al:∀a,H a≠MY->H' a≠MY:=λa ha z=>by
  by_cases g:∃b l,bg=on (b,l)/\(a=b\/a=l)
  ·obtain⟨b,l,e,q⟩:=g
   obtain⟨y,A⟩:=t.fr.bag b l (hF.trans e);rcases q with rfl|rfl
   ·rw[y]at z;cases z
   ·rw[A]at z;cases z
  ·cases q:H a with
   |none=>exact ha q
   |some o=>
    rw[t.kp a o q λb l e=>⟨λw=>g ⟨b,l,hF.symm.trans e,.inl w⟩,λw=>g ⟨b,l,hF.symm.trans e,.inr w⟩⟩]at z;cases z
 refine⟨⟨fr,h.bgt,h.len,λa ha=>al a (h.cov a ha),h.new,λc k I=>(h.lst c k I).imp λo z=>kp c o z (by rw[I];intro z;cases z),λi s e=>?_⟩,λa o e n=>kp a o e (by rcases n with n|n<;>rw[n]<;>simp),λ_ _=>rfl,λ_ _ _ n=>n,al⟩
 obtain⟨v,N,u⟩:=h.tell i s e;refine⟨v,N,?_⟩;cases s with
 |sh c=>exact Den.tr tr _ _ u
 |own ds=>
  obtain⟨a,xs,j,d,m,C⟩:=u;exact⟨a,xs,j,d,kp a _ m (by rw[d];intro z;cases z),DenL.tr tr _ _ C⟩
 |grd rows=>
  obtain⟨a,rs,j,d,m,C,O⟩:=u;exact⟨a,rs,j,d,kp a _ m (by rw[d];intro z;cases z),C,RowL.tr tr O λr xs _ p q=>⟨p,kp r _ q (by rw[p];intro z;cases z)⟩⟩
 |odc b ks vs=>
  obtain⟨a,j,d,m⟩:=u;exact⟨a,j,d,m.tr tr λo z=>kp a o z (by rw[d];intro z;cases z)⟩
theorem SOk.set(h:SOk K H₀ B bg H δ β σ)(hd:Den K (FxB B bg) H d v):SOk K H₀ B bg H (δ.set i (on (.sh d))) β (σ.set i (on v)):=by
 refine⟨h.fr,h.bgt,by rw[N7,N7,h.len],h.cov,h.new,h.lst,λj c e=>?_⟩;rw[N9]at e;rw[N9];by_cases q:i=j
 ·subst q
  rw[Nf rfl]at e⊢;split at e
  ·rename_i g
   cases e;rw[Nf (by rw[←h.len];exact g)];exact⟨v,rfl,hd⟩
  ·cases e
 ·rw[M8 q]at e⊢
  exact h.tell j c e
noncomputable def gNil:G:=λδ β=>on (.nx δ,β)
noncomputable def aI(g h:G):G:=λδ β=>match g δ β with
 |some (.nx δ1,β1)=>h δ1 β1
 |r=>r
def eL(i:Nat)(f:FD):G:=λδ β=>match f (vw δ) β with
 |some (.ok d,β1)=>on (.nx (δ.set i (on (.sh d))),β1)
 |some (.error C,β1)=>on (.ex C δ,β1)
 |none=>MY
def l5(i:Nat)(f:FD):G:=λδ β=>match f (vwA δ) β with
 |some (.ok d,β1)=>if dn d=M2 then on (.nx (δ.set i (on (.sh d))),β1)else MY
 |some (.error C,β1)=>on (.ex C δ,β1)
 |none=>MY
noncomputable def e8(f:FD):G:=λδ β=>match f (vwA δ) β with
 |some (.ok _,β1)=>on (.nx δ,β1)
 |some (.error C,β1)=>on (.ex C δ,β1)
 |none=>MY
noncomputable def cE(f:FD):G:=λδ β=>match f (vwA δ) β with
 |some (.ok d,β1)=>on (.rt d,β1)
 |some (.error C,β1)=>on (.ex C δ,β1)
 |none=>MY
noncomputable def gIf(t:Dn->M Bool)(g h:G):G:=λδ β=>match t (vwA δ) β with
 |some (.ok M2,β1)=>g δ β1
 |some (.ok M4,β1)=>h δ β1
 |some (.error C,β1)=>on (.ex C δ,β1)
 |none=>MY
variable{st:OA}{sts:List OA}
theorem bo:PSs X [] (tG X.K X.H₀ gNil E):=pI.imp λD σ H d=>by
 obtain⟨B,bg,δ,β,o,β',ok,e,h⟩:=d;cases e;exact h σ B H (Stp.refl B H) ok
theorem af(i:PS X st (tG X.K X.H₀ g E))(j:PSs X sts (tG X.K X.H₀ h E)):PSs X (st::sts) (tG X.K X.H₀ (aI g h) E):=(cA i j).imp λD σ H l=>by
 obtain⟨B,bg,δ,β,o,β',ok,e,q⟩:=l;unfold aI at e;split at e
 ·rename_i δ1 β1 m
  refine⟨B,bg,δ,β,.nx δ1,β1,ok,m,λt u H' s d=>⟨u,bg,δ1,β1,o,β',d,e,gL.pre s ?_⟩⟩;exact q
 ·rename_i r v
  refine⟨B,bg,δ,β,o,β',ok,e,?_⟩;cases o with
  |nx δ1=>exact NE e (v δ1 β')
  |_=>exact q
theorem ai(d:PS X st (tG X.K X.H₀ g E)):PSs X [st] (tG X.K X.H₀ g E):=lM d
theorem aG{x:NY}{f:FD}(h:PS X (.Assign [.Name x pos'] e pos) (gi (tV X.K f E) (dH i))):PS X (.Assign [.Name x pos'] e pos) (tG X.K X.H₀ (eL i f) E):=h.imp λD σ H m=>by
 obtain⟨B,bg,δ,β,o,β',ok,e,q⟩:=m;refine⟨FxB B bg,vw δ,β,ok.fr,ok.view,?_⟩;unfold eL at e;split at e
 ·rename_i d β1 j
  cases e;refine⟨.ok d,_,j,λv H' t hd=>?_⟩;obtain⟨g,l⟩:=ok.to rfl t;exact q _ B H' l (g.set hd)
 ·rename_i C β1 j
  cases e;refine⟨.error C,_,j,λH' t=>?_⟩;obtain⟨g,l⟩:=ok.to rfl t;exact q _ B H' l g
 ·cases e
theorem oj{f:FD}(h:PS X (.Expr e pos) (v3 (tV X.K f E))):PS X (.Expr e pos) (tG X.K X.H₀ (e8 f) E):=h.imp λD σ H l=>by
 obtain⟨B,bg,δ,β,o,β',ok,e,q⟩:=l;refine⟨FxA B bg,vwA δ,β,ok.frA,ok.viewA,?_⟩;unfold e8 at e;split at e
 ·rename_i d β1 i
  cases e;refine⟨.ok d,_,i,λv H' t hd=>?_⟩;obtain⟨g,j⟩:=ok.to rfl t;exact q _ B H' j g
 ·rename_i C β1 i
  cases e;refine⟨.error C,_,i,λH' t=>?_⟩;obtain⟨g,j⟩:=ok.to rfl t;exact q _ B H' j g
 ·cases e
noncomputable def fF(B:Ow):Ow:=λa=>if B a=on 0\/B a=on 1 then B a else MY
theorem Kh{B:Ow}{bg:Option (M3×M3)}{H:Hp}:Tr (FxA B bg) H (FxB (fF B) bg) H:=⟨λa h _ z=>by
 have d:fF B a≠MY:=z;unfold fF at d;split at d
 ·rename_i q;exact h q
 ·exact d rfl,λ_ _ _ h=>h,rfl⟩
theorem AT{B:Ow}{H:Hp}:Stp B H (fF B) H:=⟨λ_ _ h _=>h,λa h=>by unfold fF;rw[Nf h],λa o h n=>by unfold fF;rw[n];simp,λ_ h=>h⟩
theorem aD{f:FD}(h:PS X (.Return (on e) pos) (zE (tV X.K f E))):PS X (.Return (on e) pos) (tG X.K X.H₀ (cE f) E):=h.imp λD σ H r=>by
 obtain⟨B,bg,δ,β,o,β',ok,e,q⟩:=r;refine⟨FxA B bg,vwA δ,β,ok.frA,ok.viewA,?_⟩;unfold cE at e;split at e
 ·rename_i d β1 j
  cases e;refine⟨.ok d,_,j,λv H' t hd=>?_⟩;obtain⟨g,m⟩:=ok.to rfl t;refine q _ (fF B) H' (m.trans AT) ⟨λa ha=>g.fr.occ a ?_,λb l e=>?_,g.fr.bag⟩ (Den.tr Kh _ _ hd)
  ·have i:fF B a≠MY:=ha
   show B a≠MY;unfold fF at i;split at i
   ·exact i
   ·exact NE rfl i
  ·refine⟨?_,?_,(g.fr.bgA b l e).2.2⟩
   ·show fF B b≠MY
    unfold fF;rw[Nf (.inr (ok.bgt b l e).1),(ok.bgt b l e).1];simp
   ·show fF B l≠MY
    unfold fF;rw[Nf (.inr (ok.bgt b l e).2),(ok.bgt b l e).2];simp
 ·rename_i C β1 j
  cases e;refine⟨.error C,_,j,λH' t=>?_⟩;obtain⟨g,m⟩:=ok.to rfl t;exact q _ B H' m g
 ·cases e
theorem bR{c:Expr}{a b:List OA}(l:PT X c (tVT X.K t E))(ha:PSs X a (tG X.K X.H₀ g E))(m:PSs X b (tG X.K X.H₀ h E)):PS X (.If c a b pos) (tG X.K X.H₀ (gIf t g h) E):=(EX l ha m).imp λD σ H r=>by
 obtain⟨B,bg,δ,β,o,β',ok,e,q⟩:=r;refine⟨FxA B bg,vwA δ,β,ok.frA,ok.viewA,?_⟩;unfold gIf at e;split at e
 ·rename_i β1 i
  refine⟨.ok M2,_,i,λv H' t hd=>?_⟩;subst hd;obtain⟨d,j⟩:=ok.to rfl t;rw[Nf rfl];exact⟨B,bg,δ,β1,o,β',d,e,gL.pre j q⟩
 ·rename_i β1 i
  refine⟨.ok M4,_,i,λv H' t hd=>?_⟩;subst hd;obtain⟨d,j⟩:=ok.to rfl t;rw[M8 Ni];exact⟨B,bg,δ,β1,o,β',d,e,gL.pre j q⟩
 ·rename_i C β1 i
  cases e;refine⟨.error C,_,i,λH' t=>?_⟩;obtain⟨d,j⟩:=ok.to rfl t;exact q _ B H' j d
 ·cases e
abbrev TgS:=D->Ds->Option Ds
abbrev lw:=List D->Ds->Option Ds
def pf(K:NA)(g:TG)(tg:TgS):Prop:=∀(H₀:Hp) (B:Ow) (bg:Option (M3×M3)) (H:Hp) (δ δ1:Ds) (β:Bg) (σ:St) (d:D) (v:V) (Q:St->Hp->Prop),SOk K H₀ B bg H δ β σ->Den K (FxB B bg) H d v->tg d δ=on δ1->(∀h,SOk K H₀ B bg H δ1 β h->Q h H)->g v σ H Q
def pe(K:NA)(g:TGs)(tg:lw):Prop:=∀(H₀:Hp) (B:Ow) (bg:Option (M3×M3)) (H:Hp) (δ δ1:Ds) (β:Bg) (σ:St) (ds:List D) (vs:List V) (Q:St->Hp->Prop),SOk K H₀ B bg H δ β σ->DenL K (FxB B bg) H ds vs->tg ds δ=on δ1->(∀d,SOk K H₀ B bg H δ1 β d->Q d H)->g vs σ H Q
noncomputable def sgN(i:Nat):TgS:=λd δ=>on (δ.set i (on (.sh d)))
noncomputable def kz:lw:=λds δ=>match ds with
 |[]=>on δ
 |_=>MY
noncomputable def kx(t:TgS)(u:lw):lw:=λds δ=>match ds with
 |[]=>MY
 |d::r=>(t d δ).bind λδ1=>u r δ1
noncomputable def sgT(t:lw):TgS:=λd δ=>match d with
 | .tup ds=>t ds δ
 |_=>MY
theorem aO:pf K (dH i) (sgN i):=λH₀ B bg H δ δ1 β σ d v Q ok hd e k=>by
 cases e;exact k _ (ok.set hd)
theorem jk:pe K L2.gNil kz:=λH₀ B bg H δ δ1 β σ ds vs Q ok hd e k=>by
 cases ds with
 |nil=>cases e;exact⟨hd,k _ ok⟩
 |cons _ _=>cases e
theorem cW(m:pf K t tf)(o:pe K u uf):pe K (wS t u) (kx tf uf):=λH₀ B bg H δ δ1 β σ ds vs Q ok hd e k=>by
 cases ds with
 |nil=>cases e
 |cons d r=>
  obtain⟨x,l,rfl,v,w⟩:=hd;have h:(tf d δ).bind (λδ1=>uf r δ1)=on δ1:=e;cases q:tf d δ with
  |none=>rw[q]at h;cases h
  |some g=>
   rw[q]at h;exact⟨x,l,rfl,m H₀ B bg H δ g β σ d x _ ok v q λi j=>o H₀ B bg H g δ1 β i r l Q j w h k⟩
theorem gU:∀ds δ δ1,kz ds δ=on δ1->ds.length=0:=λds δ δ1 h=>by
 cases ds with
 |nil=>rfl
 |cons _ _=>cases h
theorem cU{n:Nat}(h:∀ds δ δ1,u ds δ=on δ1->ds.length=n):∀ds δ δ1,kx t u ds δ=on δ1->ds.length=n+1:=λds δ δ1 e=>by
 cases ds with
 |nil=>cases e
 |cons d r=>
  have g:(t d δ).bind (λδ1=>u r δ1)=on δ1:=e;cases q:t d δ with
  |none=>rw[q]at g;cases g
  |some i=>rw[q]at g;rw[Nm,h _ _ _ g]
theorem kZ{n:Nat}(h:pe K t tf)(hn:∀ds δ δ1,tf ds δ=on δ1->ds.length=n):pf K (BL K n t) (sgT tf):=λH₀ B bg H δ δ1 β σ d v Q ok hd e k=>by
 cases d<;>first
  |(obtain⟨a,xs,rfl,sq,g⟩:=Den.sqT hd;exact⟨a,xs,rfl,sq,by rw[←g.length];exact hn _ _ _ e,h H₀ B bg H δ δ1 β σ _ xs Q ok g e k⟩)
  |cases e
def iW(f:FD)(tg:TgS):G:=λδ β=>match f (vw δ) β with
 |some (.ok d,β1)=>(tg d δ).map λδ1=>(.nx δ1,β1)
 |some (.error C,β1)=>on (.ex C δ,β1)
 |none=>MY
theorem EQ{f:FD}{tg:TgS}(l:pf X.K g tg)(h:PS X (.Assign [tgt] e pos) (gi (tV X.K f E) g)):PS X (.Assign [tgt] e pos) (tG X.K X.H₀ (iW f tg) E):=h.imp λD σ H w=>by
 obtain⟨B,bg,δ,β,o,β',ok,e,q⟩:=w;refine⟨FxB B bg,vw δ,β,ok.fr,ok.view,?_⟩;unfold iW at e;split at e
 ·rename_i d β1 j
  cases q1:tg d δ with
  |none=>rw[q1]at e;cases e
  |some δ1=>
   rw[q1]at e;cases e;refine⟨.ok d,_,j,λv H' t hd=>?_⟩;obtain⟨i,m⟩:=ok.to rfl t;exact l X.H₀ B bg H' δ δ1 _ σ d v _ i hd q1 λr u=>q r B H' m u
 ·rename_i C β1 j
  cases e;refine⟨.error C,_,j,λH' t=>?_⟩;obtain⟨i,m⟩:=ok.to rfl t;exact q _ B H' m i
 ·cases e
def pU(i j:Nat)(f:FL):G:=λδ β=>match f (vw δ) β with
 |some (.ok [c,d],β1)=>on (.nx ((δ.set i (on (.sh c))).set j (on (.sh d))),β1)
 |some (.error C,β1)=>on (.ex C δ,β1)
 |_=>MY
def iU(i:Nat)(op:D->D->Option D)(f:FD):G:=λδ β=>match(vw δ).getD i MY with
 |none=>MY
 |some c=>match f (vw δ) β with
  |some (.ok d,β1)=>(op c d).map λz=>(.nx (δ.set i (on (.sh z))),β1)
  |some (.error C,β1)=>on (.ex C δ,β1)
  |none=>MY
theorem oo{f:FD}(l:aV X.K ti op)(h:PS X st (Jm i (tV X.K f E) ti)):PS X st (tG X.K X.H₀ (iU i op f) E):=h.imp λD σ H I=>by
 obtain⟨B,bg,δ,β,o,β',ok,e,q⟩:=I;unfold iU at e;split at e
 ·cases e
 ·rename_i c j
  have m:(vw δ)[i]?=on (on c):=by
   rw[Na]at j;cases z:(vw δ)[i]? with
   |none=>rw[z]at j;cases j
   |some w=>rw[z]at j;simp at j;rw[j]
  obtain⟨v,J,L⟩:=ok.view.tell i c m;refine⟨v,J,FxB B bg,vw δ,β,ok.fr,ok.view,?_⟩;split at e
  ·rename_i d β1 r
   cases q1:op c d with
   |none=>rw[q1]at e;cases e
   |some z=>
    rw[q1]at e;cases e;refine⟨.ok d,_,r,λw H' t hd=>?_⟩;obtain⟨g,y⟩:=ok.to rfl t;refine l (FxB B bg) H' β' _ c d z v w t.fr (Den.tr (t.tr ok.fr) _ _ L) hd q1 λu N O P=>?_;obtain⟨A,Q⟩:=g.to rfl O;exact q _ B N (y.trans Q) (A.set P)
  ·rename_i C β1 r
   cases e;refine⟨.error C,_,r,λH' t=>?_⟩;obtain⟨g,y⟩:=ok.to rfl t;exact q _ B H' y g
  ·cases e
theorem Stp.tr{B d:Ow}{H H':Hp}{bg:Option (M3×M3)}(s:Stp B H d H'):Tr (FxB B bg) H (FxB d bg) H':=
 ⟨λa h hs z=>by
  have hn:B a=MY:=by
   cases q:B a with
   |none=>rfl
   |some t=>exact NE (show B a≠MY by rw[q];simp) h
  cases q:H a with
  |none=>exact hs q
  |some o=>exact z (s.nn a o q hn),λa o h e=>s.kp a o e (.inl (by
  cases q:B a with
  |none=>rfl
  |some t=>exact NE (show B a≠MY by rw[q];simp) h)),rfl⟩
noncomputable def gLp(tg:TgS)(g:G):List D->G
 |[],δ,β=>on (.nx δ,β)
 |d::ds,δ,β=>match tg d δ with
  |none=>MY
  |some δ1=>match g δ1 β with
   |some (.nx δ2,β2)=>gLp tg g ds δ2 β2
   |some (.ct δ2,β2)=>gLp tg g ds δ2 β2
   |some (.bk δ2,β2)=>on (.nx δ2,β2)
   |r=>r
def t7(it:FL)(tg:TgS)(g:G):G:=λδ β=>match it (vw δ) β with
 |some (.ok ds,β1)=>gLp tg g ds δ β1
 |some (.error C,β1)=>on (.ex C δ,β1)
 |none=>MY
theorem bD{tg:TgS}(l:pf X.K tgg tg)(h:PS X (.For tgt iter body [] pos) (Jk (iV X.K it E) tgg (tG X.K X.H₀ g E))):PS X (.For tgt iter body [] pos) (tG X.K X.H₀ (t7 it tg g) E):=h.imp λD σ H h_=>by
 obtain⟨B,bg,δ,β,o,β',ok,e,q⟩:=h_;refine⟨FxB B bg,vw δ,β,ok.fr,ok.view,?_⟩;unfold t7 at e;split at e
 ·rename_i ds β1 e1
  refine⟨.ok ds,_,e1,λJ H1 t hJ=>?_⟩;obtain⟨ok1,s1⟩:=ok.to rfl t;refine⟨λi m A R=>m+i=ds.length/\∃y I β2,Stp B H1 y R/\SOk X.K X.H₀ y bg R I β2 A/\gLp tg g (ds.drop i) I β2=on (o,β'),⟨ds.length,by omega,B,δ,β1,Stp.refl B H1,ok1,e⟩,?_⟩;rintro i m A R ⟨hm,y,I,β2,T,u,r⟩;obtain⟨iy,is⟩:=hJ (FxB y bg) R β2 T.tr u.fr i;cases hi:ds[i]? with
  |none=>
   have hl:ds.length<=i:=R4.mp hi;rw[P9 hl]at r;cases r;exact .inl ⟨is (by omega),q A y R (s1.trans T) u⟩
  |some d=>
   have hl:i<ds.length:=(Nj.mp hi).1;obtain⟨go,yl⟩:=iy d hi;have ed:ds.drop i=d::ds.drop (i+1):=by
    rw[Ot hl];congr 1;exact NN ((M6 hl).symm.trans hi)
   rw[ed]at r;unfold gLp at r;split at r
   ·cases r
   ·rename_i v e3
    refine .inr ⟨go,λU H9=>∃B9 L N,Stp B H1 B9 H9/\SOk X.K X.H₀ B9 bg H9 L N U/\gLp tg g (ds.drop (i+1)) L N=on (o,β'),λU H9 ⟨B9,L,N,z1,z2,z3⟩=>⟨m-1,by omega,by omega,B9,L,N,z1,z2,z3⟩,λx H3 hy=>?_⟩;obtain⟨sm,dx⟩:=yl x H3 hy;obtain⟨ok3,s3⟩:=u.to rfl (u.fr.same sm);refine l X.H₀ y bg H3 I v β2 A d x _ ok3 dx e3 λσ4 O=>?_;have P:=T.trans s3;split at r
    ·rename_i j β5 W
     exact⟨y,bg,v,β2,.nx j,β5,O,W,λQ Y H6 Z w=>⟨Y,j,β5,P.trans Z,w,r⟩⟩
    ·rename_i j β5 W
     exact⟨y,bg,v,β2,.ct j,β5,O,W,λQ Y H6 Z w=>⟨Y,j,β5,P.trans Z,w,r⟩⟩
    ·rename_i j β5 W
     cases r;exact⟨y,bg,v,β2,.bk j,_,O,W,λQ Y H6 Z w=>q Q Y H6 (s1.trans (P.trans Z)) w⟩
    ·rename_i x h1 h2 h3
     refine⟨y,bg,v,β2,o,β',O,r,?_⟩;have q2:=gL.pre (s1.trans P) q;cases o with
     |nx j=>exact NE r (h1 _ _)
     |ct j=>exact NE r (h2 _ _)
     |bk j=>exact NE r (h3 _ _)
     |rt d=>exact q2
     |rg d=>exact q2
     |ex C j=>exact q2
 ·rename_i C β1 e1
  cases e;refine⟨.error C,_,e1,λH' t=>?_⟩;obtain⟨u,T⟩:=ok.to rfl t;exact q _ B H' T u
 ·cases e
theorem SOk.newAt{H₀:Hp}{B:Ow}{bg:Option (M3×M3)}{H:Hp}{δ:Ds}{β:Bg}{σ:St}{p:M3}(ok:SOk K H₀ B bg H δ β σ)(m:H p=MY)(Y:OwO (upd H p u) p)(hd:∀{R:Ow},R p=on (i+2)->Tr (FxB B bg) H (FxB R bg) (upd H p u)->EB K R bg (upd H p u) i sl (.ref p)):
  SOk K H₀ (λa=>if a=p then on (i+2)else B a) bg (upd H p u) (δ.set i (on sl)) β (σ.set i (on (.ref p)))/\Stp B H (λa=>if a=p then on (i+2)else B a) (upd H p u):=by
 have hB:B p=MY:=by
  cases q:B p with
  |none=>rfl
  |some t=>exact NE m (ok.fr.occ p (by show B p≠MY;rw[q];simp))
 have I:Stp B H (λa=>if a=p then on (i+2)else B a) (upd H p u):=by
  refine⟨λa o h _=>by rw[upd_ne (aw h m)];exact h,λa h=>?_,λa o h n=>?_,?_⟩
  ·have:a≠p:=λz=>by subst z;rw[hB]at h;rcases h with h|h<;>cases h
   simp only[M8 this]
  ·simp only[M8 (aw h m)];exact n
  ·exact λa ha=>by
    by_cases z:a=p
    ·subst z;rw[ah];simp
    ·rw[upd_ne z];exact ha
 have tr:Tr (FxB B bg) H (FxB (λa=>if a=p then on (i+2)else B a) bg) (upd H p u):=I.tr;have T:∀b l,bg=on (b,l)->b≠p/\l≠p:=λb l e=>by
  obtain⟨b1,b2⟩:=ok.bgt b l e;exact⟨λz=>(by subst z;rw[hB]at b1;cases b1),λz=>(by subst z;rw[hB]at b2;cases b2)⟩
 refine⟨⟨⟨λa ha z=>?_,λb l e=>?_,λb l e=>?_⟩,λb l e=>?_,by rw[N7,N7,ok.len],λa ha=>I.al a (ok.cov a ha),λc k U=>(by
  have g:(if c=p then on (i+2)else B c)=on (k+2):=U;by_cases z:c=p
  ·cases w:H₀ c with
   |none=>rfl
   |some o=>exact NE (z▸m) (ok.cov c (by rw[w];simp))
  ·rw[M8 z]at g;exact ok.new c k g),λc k U=>(by
  have g:(if c=p then on (i+2)else B c)=on (k+2):=U;by_cases z:c=p
  ·subst z;exact Y
  ·rw[M8 z]at g;exact(ok.lst c k g).imp λo y=>by rw[upd_ne z];exact y),λj s e=>?_⟩,I⟩
 ·by_cases q:a=p
  ·subst q;rw[ah]at z;cases z
  ·rw[upd_ne q]at z
   have J:(if a=p then on (i+2)else B a)≠MY:=ha;rw[M8 q]at J;exact ok.fr.occ a J z
 ·obtain⟨L,N⟩:=T b l e
  obtain⟨b1,b2⟩:=ok.bgt b l e;refine⟨?_,?_,(ok.fr.bgA b l e).2.2⟩
  ·show(if b=p then on (i+2)else B b)≠MY
   rw[M8 L,b1];simp
  ·show(if l=p then on (i+2)else B l)≠MY
   rw[M8 N,b2];simp
 ·obtain⟨L,N⟩:=T b l e
  rw[upd_ne L,upd_ne N];exact ok.fr.bag b l e
 ·obtain⟨L,N⟩:=T b l e
  simp only[M8 L,M8 N];exact ok.bgt b l e
 ·rw[N9]at e
  rw[N9];by_cases q:i=j
  ·subst q
   rw[Nf rfl]at e⊢;split at e
   ·rename_i Z
    cases e;rw[Nf (by rw[←ok.len];exact Z)];exact⟨_,rfl,hd (Nf rfl) tr⟩
   ·cases e
  ·rw[M8 q]at e⊢
   obtain⟨v,h1,Q⟩:=ok.tell j s e;refine⟨v,h1,?_⟩;cases s with
   |sh d=>exact Den.tr tr _ _ Q
   |own cs=>
    obtain⟨a,ys,O,P,A,W⟩:=Q;have C:=aw A m;exact⟨a,ys,O,by simp only[M8 C];exact P,by rw[upd_ne C];exact A,DenL.tr tr _ _ W⟩
   |grd rows=>
    obtain⟨a,rs,O,P,A,W,e5⟩:=Q;have C:=aw A m;exact⟨a,rs,O,by simp only[M8 C];exact P,by rw[upd_ne C];exact A,W,RowL.tr tr e5 λr zs _ p q=>⟨by simp only[M8 (aw q m)];exact p,by rw[upd_ne (aw q m)];exact q⟩⟩
   |odc b ks vs=>
    obtain⟨a,O,P,A⟩:=Q;have C:a≠p:=λz=>A.ne (z▸m);exact⟨a,O,by simp only[M8 C];exact P,A.tr tr λo z=>by rw[upd_ne C];exact z⟩
theorem SOk.writeAt{H₀:Hp}{B:Ow}{bg:Option (M3×M3)}{H:Hp}{δ:Ds}{β:Bg}{σ:St}{a:M3}(ok:SOk K H₀ B bg H δ β σ)(hs:σ[i]?=on (on (.ref a)))(hB:B a=on (i+2))(N:OwO (upd H a u) a)(hd:Tr (FxB B bg) H (FxB B bg) (upd H a u)->EB K B bg (upd H a u) i sl (.ref a)):
  SOk K H₀ B bg (upd H a u) (δ.set i (on sl)) β σ/\Stp B H B (upd H a u):=by
 have m:Stp B H B (upd H a u):=by
  refine⟨λc o h n=>?_,λ_ _=>rfl,λ_ _ _ n=>n,λc w=>?_⟩
  ·rw[upd_ne]
   ·exact h
   ·intro z;subst z;rw[hB]at n;rcases n with n|n<;>cases n
  ·by_cases z:c=a
   ·subst z;rw[ah];simp
   ·rw[upd_ne z];exact w
 have tr:Tr (FxB B bg) H (FxB B bg) (upd H a u):=m.tr;refine⟨⟨⟨λc w z=>?_,ok.fr.bgA,λb l e=>?_⟩,ok.bgt,by rw[N7,ok.len],λa ha=>m.al a (ok.cov a ha),ok.new,λc k w=>(by
  by_cases z:c=a
  ·subst z;exact N
  ·exact(ok.lst c k w).imp λo y=>by rw[upd_ne z];exact y),λj s e=>?_⟩,m⟩
 ·by_cases q:c=a
  ·subst q;rw[ah]at z;cases z
  ·rw[upd_ne q]at z;exact ok.fr.occ c w z
 ·obtain⟨b1,b2⟩:=ok.bgt b l e
  rw[upd_ne (λz=>by subst z;rw[hB]at b1;cases b1),upd_ne (λz=>by subst z;rw[hB]at b2;cases b2)];exact ok.fr.bag b l e
 ·rw[N9]at e
  by_cases q:i=j
  ·subst q
   rw[Nf rfl]at e;split at e
   ·cases e
    exact⟨_,hs,hd tr⟩
   ·cases e
  ·rw[M8 q]at e
   obtain⟨v,O,I⟩:=ok.tell j s e;refine⟨v,O,?_⟩;cases s with
   |sh d=>exact Den.tr tr _ _ I
   |own cs=>
    obtain⟨c,L,A,g,C,J⟩:=I;have t:c≠a:=λz=>by subst z;rw[hB]at g;cases g;exact q rfl
    exact⟨c,L,A,g,by rw[upd_ne t];exact C,DenL.tr tr _ _ J⟩
   |grd rows=>
    obtain⟨c,rs,A,g,C,J,P⟩:=I;have t:∀c,B c=on (j+2)->c≠a:=λc g z=>by subst z;rw[hB]at g;cases g;exact q rfl
    exact⟨c,rs,A,g,by rw[upd_ne (t c g)];exact C,J,RowL.tr tr P λr L _ p q=>⟨p,by rw[upd_ne (t r p)];exact q⟩⟩
   |odc b ks vs=>
    obtain⟨c,A,g,C⟩:=I;have t:c≠a:=λz=>by subst z;rw[hB]at g;cases g;exact q rfl
    exact⟨c,A,g,C.tr tr λo z=>by rw[upd_ne t];exact z⟩
theorem SOk.newOwn{H₀:Hp}{B:Ow}{bg:Option (M3×M3)}{H:Hp}{δ:Ds}{β:Bg}{σ:St}{p:M3}(ok:SOk K H₀ B bg H δ β σ)(d:H p=MY)(hd:DenL K (FxB B bg) H ds xs):
  SOk K H₀ (λa=>if a=p then on (i+2)else B a) bg (upd H p (.lst xs)) (δ.set i (on (.own ds))) β (σ.set i (on (.ref p)))/\Stp B H (λa=>if a=p then on (i+2)else B a) (upd H p (.lst xs)):=ok.newAt d (.inl ⟨xs,ah⟩) λe t=>⟨p,xs,rfl,e,ah,DenL.tr t _ _ hd⟩
theorem SOk.writeOwn{H₀:Hp}{B:Ow}{bg:Option (M3×M3)}{H:Hp}{δ:Ds}{β:Bg}{σ:St}{a:M3}(ok:SOk K H₀ B bg H δ β σ)(hs:σ[i]?=on (on (.ref a)))(hB:B a=on (i+2))(ha:H a=on (.lst ys))(hd:DenL K (FxB B bg) H ds xs):
  SOk K H₀ B bg (upd H a (.lst xs)) (δ.set i (on (.own ds))) β σ/\Stp B H B (upd H a (.lst xs)):=ok.writeAt hs hB (.inl ⟨xs,ah⟩) λt=>⟨a,xs,rfl,hB,ah,DenL.tr t _ _ hd⟩
def tZ(i:Nat)(f:FL):G:=λδ β=>match f (vw δ) β with
 |some (.ok ds,β1)=>if ds.length<=Nr then on (.nx (δ.set i (on (.own ds))),β1)else MY
 |some (.error C,β1)=>on (.ex C δ,β1)
 |none=>MY
theorem rA{f:FL}(h:PS X st (gi (Ji (tVA X.K f E)) (dH i))):PS X st (tG X.K X.H₀ (tZ i f) E):=h.imp λD σ H m=>by
 obtain⟨B,bg,δ,β,o,β',ok,e,q⟩:=m;refine⟨FxB B bg,vw δ,β,ok.fr,ok.view,?_⟩;unfold tZ at e;split at e
 ·rename_i ds β1 g
  split at e
  ·rename_i r
   cases e;refine⟨.ok ds,_,g,λvs H' t hd=>⟨by rw[←hd.length];exact r,λp u=>?_⟩⟩;obtain⟨d,j⟩:=ok.to rfl t;obtain⟨l,v⟩:=d.newOwn (i:=i) u hd;exact q _ _ _ (j.trans v) l
  ·cases e
 ·rename_i C β1 g
  cases e;refine⟨.error C,_,g,λH' t=>?_⟩;obtain⟨d,j⟩:=ok.to rfl t;exact q _ B H' j d
 ·cases e
def t8(i:Nat)(f:FL):G:=λδ β=>match δ.getD i MY with
 |some (.own cs)=>match f (vw δ) β with
  |some (.ok [d],β1)=>if cs.length<Nr then on (.nx (δ.set i (on (.own (cs++[d])))),β1)else MY
  |some (.error C,β1)=>on (.ex C δ,β1)
  |_=>MY
 |_=>MY
theorem getD_some{α:Type}{δ:List (Option α)}{i:Nat}{s:α}(h:δ.getD i MY=on s):δ[i]?=on (on s):=by
 rw[Na]at h;cases z:δ[i]? with
 |none=>rw[z]at h;cases h
 |some w=>rw[z]at h;simp at h;rw[h]
theorem rB{f:FL}(h:PS X st (v3 (tBM X.K "list" uV (mP i) (tVA X.K f E)))):PS X st (tG X.K X.H₀ (t8 i f) E):=h.imp λD σ H L=>by
 obtain⟨B,bg,δ,β,o,β',ok,e,q⟩:=L;unfold t8 at e;split at e
 ·rename_i cs J
  obtain⟨v,u,a,ys,rfl,N,O,U⟩:=ok.tell i _ (getD_some J);refine⟨_,u,.inl ⟨rfl,ys,SqL.of O⟩,FxB B bg,vw δ,β,ok.fr,ok.view,?_⟩;split at e
  ·rename_i d β1 w
   split at e
   ·rename_i P
    cases e;refine⟨.ok [d],_,w,λvs H' t hd=>?_⟩;obtain⟨g,y⟩:=ok.to rfl t;obtain⟨v,rfl,Q⟩:=DenL.one hd;obtain⟨W,j,Y,l,A,R,m,r⟩:=g.tell i _ (getD_some J);rw[u]at j;cases j;cases A;refine⟨a,l,v,rfl,rfl,m,by rw[←r.length];exact P,?_⟩;obtain⟨I,T⟩:=g.writeOwn (ds:=cs++[d]) (xs:=l++[v]) u N m (DenL.append r (DenL.cons Q DenL.nil));exact q _ _ _ (y.trans T) I
   ·cases e
  ·rename_i C β1 w
   cases e;refine⟨.error C,_,w,λH' t=>?_⟩;obtain⟨g,y⟩:=ok.to rfl t;exact q _ B H' y g
  ·cases e
 ·cases e
noncomputable def fz(i:Nat)(δ:Ds):Ds:=match δ.getD i MY with
 |some (.own ds)=>δ.set i (on (.sh (.lst ds)))
 |some (.grd rows)=>δ.set i (on (.sh (.lst (rows.map D.lst))))
 |some (.odc b ks vs)=>δ.set i (on (.sh (.dct b ks vs)))
 |_=>δ
theorem SOk.freeze{H₀:Hp}{B:Ow}{bg:Option (M3×M3)}{H:Hp}{δ:Ds}{β:Bg}{σ:St}(i:Nat)(ok:SOk K H₀ B bg H δ β σ):∃B',SOk K H₀ B' bg H (fz i δ) β σ/\Stp B H B' H:=by
 unfold fz;split
 ·rename_i ds O
  obtain⟨v,P,a,ys,Q,u,R,Y⟩:=ok.tell i _ (getD_some O);have t:Stp B H (λc=>if c=a then MY else B c) H:=by
   refine⟨λ_ _ h _=>h,λc hc=>?_,λc o h n=>?_,λ_ h=>h⟩
   ·have:c≠a:=λz=>by subst z;rw[u]at hc;rcases hc with hc|hc<;>cases hc
    simp only[M8 this]
   ·by_cases z:c=a
    ·simp only[Nf z]
    ·simp only[M8 z];exact n
  have tr:Tr (FxB B bg) H (FxB (λc=>if c=a then MY else B c) bg) H:=t.tr;have J:∀b l,bg=on (b,l)->b≠a/\l≠a:=λb l e=>by
   obtain⟨b1,b2⟩:=ok.bgt b l e;exact⟨λz=>(by subst z;rw[u]at b1;cases b1),λz=>(by subst z;rw[u]at b2;cases b2)⟩
  refine⟨λc=>if c=a then MY else B c,⟨⟨λc hc=>ok.fr.occ c ?_,λb l e=>?_,ok.fr.bag⟩,λb l e=>?_,by rw[N7,ok.len],ok.cov,λc k hc=>(by
   have g:(if c=a then MY else B c)=on (k+2):=hc;split at g
   ·cases g
   ·exact ok.new c k g),λc k hc=>(by
   have g:(if c=a then MY else B c)=on (k+2):=hc;split at g
   ·cases g
   ·exact ok.lst c k g),λj s e=>?_⟩,t⟩
  ·have g:(if c=a then MY else B c)≠MY:=hc
   split at g
   ·exact NE rfl g
   ·exact g
  ·obtain⟨y,C⟩:=J b l e
   obtain⟨b1,b2⟩:=ok.bgt b l e;refine⟨?_,?_,(ok.fr.bgA b l e).2.2⟩
   ·show(if b=a then MY else B b)≠MY
    rw[M8 y,b1];simp
   ·show(if l=a then MY else B l)≠MY
    rw[M8 C,b2];simp
  ·obtain⟨y,C⟩:=J b l e
   simp only[M8 y,M8 C];exact ok.bgt b l e
  ·rw[N9]at e
   by_cases q:i=j
   ·subst q
    rw[Nf rfl]at e;split at e
    ·cases e
     refine⟨_,P,a,ys,Q,⟨λz=>?_,.inl R⟩,DenL.tr tr _ _ Y⟩;have L:(if a=a then MY else B a)≠MY:=z;rw[Nf rfl]at L;exact L rfl
    ·cases e
   ·rw[M8 q]at e
    obtain⟨T,U,w⟩:=ok.tell j s e;refine⟨T,U,?_⟩;cases s with
    |sh d=>exact Den.tr tr _ _ w
    |own cs=>
     obtain⟨c,N,d1,d2,d3,I⟩:=w;have m:c≠a:=λz=>by subst z;rw[u]at d2;cases d2;exact q rfl
     exact⟨c,N,d1,by simp only[M8 m];exact d2,d3,DenL.tr tr _ _ I⟩
    |grd rows=>
     obtain⟨c,rs,d1,d2,d3,I,W⟩:=w;have m:∀c,B c=on (j+2)->c≠a:=λc d2 z=>by subst z;rw[u]at d2;cases d2;exact q rfl
     exact⟨c,rs,d1,by simp only[M8 (m c d2)];exact d2,d3,I,RowL.tr tr W λr N _ p q=>⟨by simp only[M8 (m r p)];exact p,q⟩⟩
    |odc b ks vs=>
     obtain⟨c,d1,d2,d3⟩:=w;have m:c≠a:=λz=>by subst z;rw[u]at d2;cases d2;exact q rfl
     exact⟨c,d1,by simp only[M8 m];exact d2,d3.tr tr λ_ z=>z⟩
 ·rename_i rows O
  classical
  obtain⟨v,P,a,rs,Q,u,R,nd,rl⟩:=ok.tell i _ (getD_some O);have own:∀c,c=a\/c∈rs->B c=on (i+2):=λc hc=>by
   rcases hc with rfl|hc
   ·exact u
   ·exact(rl.all c hc).1
  have t:Stp B H (λc=>if c=a\/c∈rs then MY else B c) H:=by
   refine⟨λ_ _ h _=>h,λc hc=>?_,λc o h n=>?_,λ_ h=>h⟩
   ·have:¬(c=a\/c∈rs):=λz=>by rw[own c z]at hc;rcases hc with hc|hc<;>cases hc
    simp only[M8 this]
   ·by_cases z:c=a\/c∈rs
    ·simp only[Nf z]
    ·simp only[M8 z];exact n
  have tr:Tr (FxB B bg) H (FxB (λc=>if c=a\/c∈rs then MY else B c) bg) H:=t.tr;have J:∀b l,bg=on (b,l)->¬(b=a\/b∈rs)/\¬(l=a\/l∈rs):=λb l e=>by
   obtain⟨b1,b2⟩:=ok.bgt b l e;exact⟨λz=>(by rw[own b z]at b1;cases b1),λz=>(by rw[own l z]at b2;cases b2)⟩
  have free:∀c,c=a\/c∈rs->¬(FxB (λc=>if c=a\/c∈rs then MY else B c) bg).A c:=λc hc z=>by
   have L:(if c=a\/c∈rs then MY else B c)≠MY:=z;rw[Nf hc]at L;exact L rfl
  refine⟨λc=>if c=a\/c∈rs then MY else B c,⟨⟨λc hc=>ok.fr.occ c ?_,λb l e=>?_,ok.fr.bag⟩,λb l e=>?_,by rw[N7,ok.len],ok.cov,λc k hc=>(by
   have g:(if c=a\/c∈rs then MY else B c)=on (k+2):=hc;split at g
   ·cases g
   ·exact ok.new c k g),λc k hc=>(by
   have g:(if c=a\/c∈rs then MY else B c)=on (k+2):=hc;split at g
   ·cases g
   ·exact ok.lst c k g),λj s e=>?_⟩,t⟩
  ·have g:(if c=a\/c∈rs then MY else B c)≠MY:=hc
   split at g
   ·exact NE rfl g
   ·exact g
  ·obtain⟨y,C⟩:=J b l e
   obtain⟨b1,b2⟩:=ok.bgt b l e;refine⟨?_,?_,(ok.fr.bgA b l e).2.2⟩
   ·show(if b=a\/b∈rs then MY else B b)≠MY
    rw[M8 y,b1];simp
   ·show(if l=a\/l∈rs then MY else B l)≠MY
    rw[M8 C,b2];simp
  ·obtain⟨y,C⟩:=J b l e
   simp only[M8 y,M8 C];exact ok.bgt b l e
  ·rw[N9]at e
   by_cases q:i=j
   ·subst q
    rw[Nf rfl]at e;split at e
    ·cases e
     exact⟨_,P,a,_,Q,⟨free a (.inl rfl),.inl R⟩,RowL.den tr rl λr hr _=>free r (.inr hr)⟩
    ·cases e
   ·rw[M8 q]at e
    obtain⟨T,U,w⟩:=ok.tell j s e;refine⟨T,U,?_⟩;have m:∀c,B c=on (j+2)->¬(c=a\/c∈rs):=λc d2 z=>by rw[own c z]at d2;cases d2;exact q rfl
    cases s with
    |sh d=>exact Den.tr tr _ _ w
    |own cs=>
     obtain⟨c,N,d1,d2,d3,I⟩:=w;exact⟨c,N,d1,by simp only[M8 (m c d2)];exact d2,d3,DenL.tr tr _ _ I⟩
    |grd rows2=>
     obtain⟨c,qs,d1,d2,d3,I,W⟩:=w;exact⟨c,qs,d1,by simp only[M8 (m c d2)];exact d2,d3,I,RowL.tr tr W λr N _ p q=>⟨by simp only[M8 (m r p)];exact p,q⟩⟩
    |odc b ks vs=>
     obtain⟨c,d1,d2,d3⟩:=w;exact⟨c,d1,by simp only[M8 (m c d2)];exact d2,d3.tr tr λ_ z=>z⟩
 ·rename_i b0 Z vs0 O
  obtain⟨v,P,a,Q,u,ep,ys,R,Y,e5,e6⟩:=ok.tell i _ (getD_some O);have t:Stp B H (λc=>if c=a then MY else B c) H:=by
   refine⟨λ_ _ h _=>h,λc hc=>?_,λc o h n=>?_,λ_ h=>h⟩
   ·have:c≠a:=λz=>by subst z;rw[u]at hc;rcases hc with hc|hc<;>cases hc
    simp only[M8 this]
   ·by_cases z:c=a
    ·simp only[Nf z]
    ·simp only[M8 z];exact n
  have tr:Tr (FxB B bg) H (FxB (λc=>if c=a then MY else B c) bg) H:=t.tr;have J:∀b l,bg=on (b,l)->b≠a/\l≠a:=λb l e=>by
   obtain⟨b1,b2⟩:=ok.bgt b l e;exact⟨λz=>(by subst z;rw[u]at b1;cases b1),λz=>(by subst z;rw[u]at b2;cases b2)⟩
  refine⟨λc=>if c=a then MY else B c,⟨⟨λc hc=>ok.fr.occ c ?_,λb l e=>?_,ok.fr.bag⟩,λb l e=>?_,by rw[N7,ok.len],ok.cov,λc k hc=>(by
   have g:(if c=a then MY else B c)=on (k+2):=hc;split at g
   ·cases g
   ·exact ok.new c k g),λc k hc=>(by
   have g:(if c=a then MY else B c)=on (k+2):=hc;split at g
   ·cases g
   ·exact ok.lst c k g),λj s e=>?_⟩,t⟩
  ·have g:(if c=a then MY else B c)≠MY:=hc
   split at g
   ·exact NE rfl g
   ·exact g
  ·obtain⟨y,C⟩:=J b l e
   obtain⟨b1,b2⟩:=ok.bgt b l e;refine⟨?_,?_,(ok.fr.bgA b l e).2.2⟩
   ·show(if b=a then MY else B b)≠MY
    rw[M8 y,b1];simp
   ·show(if l=a then MY else B l)≠MY
    rw[M8 C,b2];simp
  ·obtain⟨y,C⟩:=J b l e
   simp only[M8 y,M8 C];exact ok.bgt b l e
  ·rw[N9]at e
   by_cases q:i=j
   ·subst q
    rw[Nf rfl]at e;split at e
    ·cases e
     refine⟨_,P,?_⟩;show Den _ _ _ (.dct b0 Z vs0) _;unfold Den;refine⟨a,ep,ys,Q,⟨λz=>?_,R⟩,Y,λx hx=>(e5 x hx).tr tr,DenL.tr tr _ _ e6⟩;have L:(if a=a then MY else B a)≠MY:=z;rw[Nf rfl]at L;exact L rfl
    ·cases e
   ·rw[M8 q]at e
    obtain⟨T,U,w⟩:=ok.tell j s e;refine⟨T,U,?_⟩;cases s with
    |sh d=>exact Den.tr tr _ _ w
    |own cs=>
     obtain⟨c,N,d1,d2,d3,I⟩:=w;have m:c≠a:=λz=>by subst z;rw[u]at d2;cases d2;exact q rfl
     exact⟨c,N,d1,by simp only[M8 m];exact d2,d3,DenL.tr tr _ _ I⟩
    |grd rows=>
     obtain⟨c,rs,d1,d2,d3,I,W⟩:=w;have m:∀c,B c=on (j+2)->c≠a:=λc d2 z=>by subst z;rw[u]at d2;cases d2;exact q rfl
     exact⟨c,rs,d1,by simp only[M8 (m c d2)];exact d2,d3,I,RowL.tr tr W λr N _ p q=>⟨by simp only[M8 (m r p)];exact p,q⟩⟩
    |odc b ks vs=>
     obtain⟨c,d1,d2,d3⟩:=w;have m:c≠a:=λz=>by subst z;rw[u]at d2;cases d2;exact q rfl
     exact⟨c,d1,by simp only[M8 m];exact d2,d3.tr tr λ_ z=>z⟩
 ·exact⟨B,ok,Stp.refl B H⟩
noncomputable def fzG(i:Nat)(g:G):G:=λδ β=>g (fz i δ) β
theorem s_fz(i:Nat)(h:PSs X sts (tG X.K X.H₀ g E)):PSs X sts (tG X.K X.H₀ (fzG i g) E):=h.imp λD σ H j=>by
 obtain⟨B,bg,δ,β,o,β',ok,e,q⟩:=j;obtain⟨l,d,s⟩:=ok.freeze i;exact⟨l,bg,fz i δ,β,o,β',d,e,gL.pre s q⟩
noncomputable def stD(n:Nat)(ds:List D):Ds:=ds.map (λd=>on (Sl.sh d))++Nx (n-ds.length) MY
def cr(n:Nat)(g:G):List D->M D:=λds β=>match g (stD n ds) β with
 |some (.rt d,β')=>on (.ok d,β')
 |some (.nx _,β')=>on (.ok .non,β')
 |some (.ex C _,β')=>on (.error C,β')
 |_=>MY
theorem sC{F:Fx}{H:Hp}{β:Bg}{N:List NY}(fr:Fr F H β)(hd:DenL K F H ds vs):∃B,SOk K H B F.bg H (stD N.length ds) β (eC N vs)/\(∀a,F.A a->B a=on 0\/B a=on 1)/\(∀a,B a=on 1->∃b l,F.bg=on (b,l)/\(a=b\/a=l))/\(∀a,B a≠MY->F.A a):=by
 classical
 refine⟨λa=>if F.A a then(if ∃b l,F.bg=on (b,l)/\(a=b\/a=l)then on 1 else on 0)else MY,⟨⟨λa ha=>fr.occ a ?_,λb l e=>?_,fr.bag⟩,λb l e=>?_,?_,λ_ h=>h,λc k o=>(by
  have g:(if F.A c then(if ∃b l,F.bg=on (b,l)/\(c=b\/c=l)then on 1 else on 0)else MY)=on (k+2):=o;split at g
  ·split at g<;>cases g
  ·cases g),λc k o=>(by
  have g:(if F.A c then(if ∃b l,F.bg=on (b,l)/\(c=b\/c=l)then on 1 else on 0)else MY)=on (k+2):=o;split at g
  ·split at g<;>cases g
  ·cases g),λi s e=>?_⟩,λa ha=>?_,λa ha=>?_,λa ha=>?_⟩
 ·have j:(if F.A a then(if ∃b l,F.bg=on (b,l)/\(a=b\/a=l)then on 1 else on 0)else MY)≠(MY:Option Nat):=ha
  split at j
  ·assumption
  ·exact NE rfl j
 ·obtain⟨a1,a2,a3⟩:=fr.bgA b l e
  refine⟨?_,?_,a3⟩
  ·show(if F.A b then(if ∃m l,F.bg=on (m,l)/\(b=m\/b=l)then on 1 else on 0)else MY)≠(MY:Option Nat)
   rw[Nf a1];split<;>simp
  ·show(if F.A l then(if ∃m t,F.bg=on (m,t)/\(l=m\/l=t)then on 1 else on 0)else MY)≠(MY:Option Nat)
   rw[Nf a2];split<;>simp
 ·obtain⟨a1,a2,a3⟩:=fr.bgA b l e
  exact⟨by rw[Nf a1,Nf ⟨b,l,e,.inl rfl⟩],by rw[Nf a2,Nf ⟨b,l,e,.inr rfl⟩]⟩
 ·unfold stD eC
  rw[Ny,Ny,MZ,MZ,ON,ON,hd.length]
 ·unfold stD at e
  unfold eC;rw[SV,MZ]at e;rw[SV,MZ,←hd.length];by_cases q:i<ds.length
  ·rw[Nf q,M9]at e
   rw[Nf q,M9];cases z:ds[i]? with
   |none=>rw[z]at e;cases e
   |some d=>
    rw[z]at e;cases e;obtain⟨v,w,y⟩:=hd.get z;refine⟨v,by rw[w];rfl,?_⟩;have r:Tr F H (FxB (λa=>if F.A a then(if ∃b l,F.bg=on (b,l)/\(a=b\/a=l)then on 1 else on 0)else MY) F.bg) H:=by
     refine⟨λa ha _ C=>?_,λ_ _ _ h=>h,rfl⟩;have u:(if F.A a then(if ∃b l,F.bg=on (b,l)/\(a=b\/a=l)then on 1 else on 0)else MY)≠(MY:Option Nat):=C;rw[M8 ha]at u;exact u rfl
    exact Den.tr r _ _ y
  ·rw[M8 q,P5]at e
   split at e<;>cases e
 ·simp only[Nf ha]
  split
  ·exact .inr rfl
  ·exact .inl rfl
 ·simp only at ha
  split at ha
  ·split at ha
   ·assumption
   ·cases ha
  ·cases ha
 ·simp only at ha
  split at ha
  ·assumption
  ·exact NE rfl ha
variable{P:NQ}{w:N0}{mg:NY->Option M7}{base:Ox}
theorem IN{x i:NY}{st:OA}{f:M3}{fd:NK}{N ps:List NY}{k:Nat}(F:FunD K x i st f fd)(S:FnScope N ps (ae st))
  (I:∀(j:M7) (A:Oj) (outer:List Ud) (s:Ng) (H:Hp) (E:XK),Room k (A.deeper (Rl i (ae st) s.heap.objs.size f j))->
   PSs (eM (CXE P w) P w K mg base N i (ae st) f j A outer s H E) (cc st) (tG K H g (λ_=>E))):FnOk P w K mg base (CXE P w) (k+1) f fd ps (spF K ps.length (cr N.length g)):=by
 refine F.okE S (λvs H Q E h=>h.1) λj A outer s H vs Q E Z h=>?_;obtain⟨hl,u,ds,β,fr,hd,r,β',e,h⟩:=h;refine⟨_,I j A outer s H E Z,?_⟩;obtain⟨B,ok,U,h1,hn⟩:=sC (N:=N) fr hd;have J:∀{y:Ow} {H':Hp},Stp B H y H'->Fr (FxB y u.bg) H' β'->To u H H' β'/\Tr (FxB y u.bg) H' u H':=λ{y H'} s m=>by
  have hs:∀a,u.A a->y a≠MY:=λa ha=>by
   rw[s.tg a (U a ha)];rcases U a ha with z|z<;>rw[z]<;>simp
  refine⟨⟨λa o ha n=>s.kp a o ha ?_,λa ha=>m.occ a (hs a ha),λb l e=>fr.bgA b l e,m.bag⟩,λa ha _ z=>ha (hs a z),λ_ _ _ h=>h,rfl⟩;cases q:B a with
  |none=>exact .inl rfl
  |some t=>
   have:=U a (hn a (by rw[q];simp));rcases this with z|z
   ·rw[q]at z;exact .inr z
   ·obtain⟨b,l,e,w⟩:=h1 a z
    obtain⟨n1,n2⟩:=n b l e;rcases w with w|w
    ·exact NE w n1
    ·exact NE w n2
 unfold cr at e;split at e
 ·rename_i d β1 R
  cases e;refine⟨B,u.bg,stD N.length ds,β,.rt d,β',ok,R,λv y H' s m hv=>?_⟩;obtain⟨T,W⟩:=J s m;exact h v H' T (Den.tr W _ _ hv)
 ·rename_i L β1 R
  cases e;refine⟨B,u.bg,stD N.length ds,β,.nx L,β',ok,R,λY y H' s O=>?_⟩;obtain⟨T,W⟩:=J s O.fr;exact h _ H' T rfl
 ·rename_i C L β1 R
  cases e;refine⟨B,u.bg,stD N.length ds,β,.ex C L,β',ok,R,λY y H' s O=>?_⟩;obtain⟨T,W⟩:=J s O.fr;exact h H' T
 ·cases e
variable{prog:NQ}{A:Oj}
theorem MT(y:A.handled=MY)(it t:M3)(ne:t≠it)(d:Array M7):UF prog w A it [it,t] d.size (λi v=>d[i]?=on v) (λi h=>h.IsTupleIter it t i/\h.IsTuple t d) where
 live:=λ_ _ st=>let ⟨o,e,_⟩:=st.1;⟨o,e⟩
 frame:=λ_ _ _ st k=>⟨st.1.at λo e=>k it (by simp) o e,by
  obtain⟨o,e,r⟩:=st.2;exact⟨o,k t (by simp) o e,r⟩⟩
 item:=λi s Q E I st J=>by
  obtain⟨o,j,co,g⟩:=id st.1;obtain⟨C,l,_,nt,q⟩:=st.2;have u:d[i]?=on d[i]:=by simp[I]
  unfold O1;refine My (wpAny_callSpecial?_slot (name:=OS "__next__") st.1.typeIs QA (N2 QA st.1.typeIs UG ?_ (Ux _)));show Nn _ _ (Wd (.ref it) 0>>=_) _ _ _;refine My (Ov j g (x:= .ref t) rfl ?_);show Nn _ _ (if(NC t==Oh)=M2 then _ else _) _ _ _;rw[M8 (show ¬((NC t==Oh)=M2)from Ni)];show Nn _ _ (Wd (.ref it) 1>>=_) _ _ _;refine My (Ov j g (x:= .int i 0) rfl ?_);show Nn _ _ (seqItems? (.ref t)>>=_) _ _ _;refine My (O4 l q ?_);simp only[OJ,u];refine My (Rr j g (by simp) (M0 ⟨d[i],rfl,M0 (J _ _ s.toks u ⟨?_,?_⟩ (OO ..))⟩))
  ·exact⟨_,Ql _ j (SR (Pj g _)),(TL ..).trans co,by rw[Pj g];simp[Rq]⟩
  ·exact⟨C,(OO ..).extBut _ _ ne l,by assumption,nt,q⟩
 done:=λs Q E st L=>by
  obtain⟨o,j,co,g⟩:=id st.1;obtain⟨C,l,_,nt,q⟩:=st.2;have u:d[d.size]?=MY:=by simp
  unfold O1;refine My (wpAny_callSpecial?_slot (name:=OS "__next__") st.1.typeIs QA (N2 QA st.1.typeIs UG ?_ (Ux _)));show Nn _ _ (Wd (.ref it) 0>>=_) _ _ _;refine My (Ov j g (x:= .ref t) rfl ?_);show Nn _ _ (if(NC t==Oh)=M2 then _ else _) _ _ _;rw[M8 (show ¬((NC t==Oh)=M2)from Ni)];show Nn _ _ (Wd (.ref it) 1>>=_) _ _ _;refine My (Ov j g (x:= .int d.size 0) rfl ?_);show Nn _ _ (seqItems? (.ref t)>>=_) _ _ _;refine My (O4 l q ?_);simp only[OJ,u];refine My (QO (My (Rr j g (by simp) ?_)));show Nn _ _ (Wt (.type "StopIteration") []>>=_) _ _ _;refine My ?_;simp only[Wt,newTuple];refine My (N6 ?_ (by size_fits));refine My (m:=Rm _ _) (QN (a:=Oh) (by first|rfl|(simp only[Rm];rfl)) ?_);refine N6 ?_ (by size_fits)
  simp only[raiseNew];refine My (VV ?_)
  first|rw[show A.in1.handled=MY from y]|rw[y];skip
  refine My (M0 (wpAny_throw ?_));exact L _ _ (((OO ..).extBut.push _).push _) ⟨_,Nu _ rfl,rfl⟩
structure Ap (z TI TO i1 i2:M3) (f1 f2:List M3):Prop where
 a1:TI≠z
 a2:TO≠z
 a3:i1≠z
 a4:i2≠z
 a5:TI≠TO
 a6:TI≠i1
 a7:TI≠i2
 a8:TO≠i1
 a9:TO≠i2
 b1:i1≠i2
 c1:z∉f1
 c2:TO∉f1
 c3:i2∉f1
 d1:z∉f2
 d2:TO∉f2
 d3:i1∉f2
 m1:i1∈f1
 m2:i2∈f2
end
section
variable{prog:NQ}{w:N0}{A:Oj}{E:M7->Ng->Prop}{s:Ng}
theorem bQ{it:M3}{f:List M3}{h h':Ox}(a:NP it h h')(n:it∉f):∀b∈f,∀o,h.get? b=on o->h'.get? b=on o:=λb c o e=>a.extBut b o (λq=>n (q▸c)) e
theorem xj{z TI TO r t:M3}{f1 f2:List M3}{u B k:Nat}{P1 P2:Nat->M7->Prop}{W X:Nat->Ox->Prop}{a b:M7}{Q:M7->Ng->Prop}(L:UF prog w A r f1 u P1 W)(N:UF prog w A t f2 B P2 X)(d:Ap z TI TO r t f1 f2)
  (P:SC s.heap z TI TO .none) (eI:Qb s.heap TI (.ref r) (.ref t)) (eO:Qb s.heap TO a b) (s1:W k s.heap) (s2:X k s.heap) (k1:k<u) (k2:k<B)
  (hQ:∀h' tk x y,P1 k x->P2 k y->SC h' z TI TO (Rq s.heap.objs.size)->Qb h' TO x y->W (k+1) h'->X (k+1) h'->Qb h' s.heap.objs.size x y->h'.objs.size=s.heap.objs.size+1->(∀c o,c≠z->c≠TO->c≠r->c≠t->s.heap.get? c=on o->h'.get? c=on o)->Q (.ref s.heap.objs.size) {s with heap:=h',toks:=tk}):
  Nn (NL prog w) A (Builtin.«zip.__next__» ⟨[.ref z],[]⟩) (λZ s'=>∃v,Z= .done (.ret v)/\Q v s') E s:=by
 obtain⟨hp,gg,dd,tk0,os⟩:=s;show Nn _ _ (Wd (.ref z) 2>>=_) _ _ _;refine My (Ov P rfl (x:= .bool M4) rfl ?_);show Nn _ _ (Wd (.ref z) 3>>=_) _ _ _;refine My (Ov P rfl (x:= .ref TI) rfl ?_);refine My (O4 eI rfl ?_);show Nn _ _ (Pb (.ref z)>>=_) _ _ _;refine My ?_;unfold Pb;refine My (Ov P rfl (x:= .none) rfl (M0 ?_));simp only[N4];refine My (QO ?_);refine My (Ov P rfl (x:= .ref TO) rfl ?_);refine My (OL P (by simp) λg1 C g=>?_)
 replace C:SC g1 z TI TO .ellipsis:=C
 replace g:NP z hp g1:=g
 refine My ?_;simp only[List.zipIdx_cons,List.zipIdx_nil,Qf,Qq];refine My (My (TV ?_));show Nn _ _ (O1 (.ref r)>>=_) _ _ _;refine My (L.item k _ _ _ k1 (L.frame _ _ _ s1 (bQ g d.c1)) λx g2 tk2 px st2 h=>M0 ?_)
 replace h:NP r g1 g2:=h
 have R:Qb g2 TO a b:=h.extBut _ _ d.a8 (g.extBut _ _ d.a2 eO);refine My (O4 R rfl ?_);refine My (Tt R λg3 F i=>?_)
 replace F:Qb g3 TO x b:=F
 replace i:NP TO g2 g3:=i
 refine My (Ts (M0 ?_));refine My (My (TV ?_));show Nn _ _ (O1 (.ref t)>>=_) _ _ _;refine My (N.item k _ _ _ k2 (N.frame _ _ _ (N.frame _ _ _ (N.frame _ _ _ s2 (bQ g d.d1)) (bQ h d.d3)) (bQ i d.d2)) λy g4 tk4 py st4 j=>M0 ?_)
 replace j:NP t g3 g4:=j
 have T:Qb g4 TO x b:=j.extBut _ _ d.a9 F;refine My (O4 T rfl ?_);refine My (Tt T λf m l=>?_)
 replace m:Qb f TO x y:=m
 replace l:NP TO g4 f:=l
 refine My (Ts (M0 (M0 ?_)));refine My (O4 m rfl ?_);refine My (Vn ?_);have zs:f.objs.size=hp.objs.size:=by rw[l.1,j.1,i.1,h.1,g.1]
 have U:SC f z TI TO .ellipsis:=l.extBut _ _ d.a2.symm (j.extBut _ _ d.a4.symm (i.extBut _ _ d.a2.symm (h.extBut _ _ d.a3.symm C)));have kp5:∀c o,c≠z->c≠TO->c≠r->c≠t->hp.get? c=on o->f.get? c=on o:=λc o u B n3 n4 e=>l.extBut _ _ B (j.extBut _ _ n4 (i.extBut _ _ B (h.extBut _ _ n3 (g.extBut _ _ u e))));have st1:W (k+1) f:=L.frame _ _ _ (L.frame _ _ _ (L.frame _ _ _ st2 (bQ i d.c2)) (bQ j d.c3)) (bQ l d.c2);have st5:X (k+1) f:=N.frame _ _ _ st4 (bQ l d.d2);have zl:z<f.objs.size:=NI U;show Nn _ _ (RP (.ref z) (.ref f.objs.size)>>=_) _ _ _;refine My ?_;unfold RP;have ez6:SC (f.push {cls:= .type "tuple",data:= .seq #[x,y]}) z TI TO .ellipsis:=M1 _ U;refine My (OL ez6 (by simp) λg7 H I=>?_)
 replace H:SC g7 z TI TO (Rq f.objs.size):=H
 refine OL H (by simp) λO p J=>?_
 replace p:SC O z TI TO (Rq f.objs.size):=p
 have Y:∀c o,c≠z->f.get? c=on o->O.get? c=on o:=λc o n e=>J.extBut _ _ n (I.extBut _ _ n (M1 _ e));have eT:Qb O f.objs.size x y:=J.extBut _ _ (Qc zl) (I.extBut _ _ (Qc zl) (Nu _ rfl));have z8:O.objs.size=f.objs.size+1:=by rw[J.1,I.1,OP]
 rw[zs]at p eT z8;refine M0 ⟨_,rfl,?_⟩;show Q (.ref f.objs.size) ⟨O,gg,dd,_,os⟩;rw[zs];exact hQ O _ x y px py p (Y _ _ d.a2 m) (L.frame _ _ _ st1 λb hb o e=>Y b o (λq=>d.c1 (q▸hb)) e) (N.frame _ _ _ st5 λb hb o e=>Y b o (λq=>d.d1 (q▸hb)) e) eT z8 λc o u B n3 n4 e=>Y c o u (kp5 c o u B n3 n4 e)
theorem zr{z TI TO n r:M3}{f1 f2:List M3}(H:UF prog w A n f1 m P1 S1)(I:UF prog w A r f2 T P2 S2)(i:Ap z TI TO n r f1 f2)
  (u:SC s.heap z TI TO .none) (Y:Qb s.heap TI (.ref n) (.ref r)) (Z:Qb s.heap TO a b) (U:S1 k s.heap) (s2:S2 k s.heap) (N:k=m\/(k<m/\k=T))
  (W:∀h' e tk,(∀c o,c≠z->c≠TO->c≠n->c≠r->s.heap.get? c=on o->h'.get? c=on o)->(∃o,h'.get? e=on o/\o.cls= .type "StopIteration")->E (.ref e) {s with heap:=h',toks:=tk}):
  Nn (NL prog w) A (Builtin.«zip.__next__» ⟨[.ref z],[]⟩) Q E s:=by
 obtain⟨hp,gg,dd,tk0,os⟩:=s;show Nn _ _ (Wd (.ref z) 2>>=_) _ _ _;refine My (Ov u rfl (x:= .bool M4) rfl ?_);show Nn _ _ (Wd (.ref z) 3>>=_) _ _ _;refine My (Ov u rfl (x:= .ref TI) rfl ?_);refine My (O4 Y rfl ?_);show Nn _ _ (Pb (.ref z)>>=_) _ _ _;refine My ?_;unfold Pb;refine My (Ov u rfl (x:= .none) rfl (M0 ?_));simp only[N4];refine My (QO ?_);refine My (Ov u rfl (x:= .ref TO) rfl ?_);refine My (OL u (by simp) λJ j f=>?_)
 replace j:SC J z TI TO .ellipsis:=j
 replace f:NP z hp J:=f
 refine My ?_;simp only[List.zipIdx_cons,List.zipIdx_nil,Qf,Qq];refine My (My (TV ?_));show Nn _ _ (O1 (.ref n)>>=_) _ _ _;rcases N with rfl|⟨N,rfl⟩
 ·refine My (H.done _ _ _ (H.frame _ _ _ U (bQ f i.c1)) λt e d O=>?_)
  replace d:TX n J t:=d
  obtain⟨P,h,v⟩:=O;have y:SC t z TI TO .ellipsis:=d _ _ i.a3.symm j;have p:e≠z:=λq=>by subst q;rw[y]at h;cases h;simp at v
  exact OL y (by simp) λL _ g=>W L e _ (λc o m _ R _ q=>g.extBut _ _ m (d _ _ R (f.extBut _ _ m q))) ⟨P,g.extBut _ _ p h,v⟩
 ·refine My (H.item k _ _ _ N (H.frame _ _ _ U (bQ f i.c1)) λx t tk2 px st2 d=>M0 ?_)
  replace d:NP n J t:=d
  have B:Qb t TO a b:=d.extBut _ _ i.a8 (f.extBut _ _ i.a2 Z);refine My (O4 B rfl ?_);refine My (Tt B λL eO3 g=>?_)
  replace g:NP TO t L:=g
  refine My (Ts (M0 ?_));refine My (My (TV ?_));show Nn _ _ (O1 (.ref r)>>=_) _ _ _;refine My (I.done _ _ _ (I.frame _ _ _ (I.frame _ _ _ (I.frame _ _ _ s2 (bQ f i.d1)) (bQ d i.d3)) (bQ g i.d2)) λX e l O=>?_)
  replace l:TX r L X:=l
  obtain⟨P,h,v⟩:=O;have C:SC X z TI TO .ellipsis:=l _ _ i.a4.symm (g.extBut _ _ i.a2.symm (d.extBut _ _ i.a3.symm j));have p:e≠z:=λq=>by subst q;rw[C]at h;cases h;simp at v
  exact OL C (by simp) λg5 _ F=>W g5 e _ (λc o m T R n4 q=>F.extBut _ _ m (l _ _ n4 (g.extBut _ _ T (d.extBut _ _ R (f.extBut _ _ m q))))) ⟨P,F.extBut _ _ p h,v⟩
theorem xi{z TI TO e f:M3}{f1 f2:List M3}(i:∀d:Oj,d.handled=A.handled->UF prog w d e f1 n1 P1 S1)(j:∀d:Oj,d.handled=A.handled->UF prog w d f f2 n2 P2 S2)(l:Ap z TI TO e f f1 f2)
  (h:SC s.heap z TI TO .none) (m:Qb s.heap TI (.ref e) (.ref f)) (n:Qb s.heap TO a b) (p:S1 k s.heap) (q:S2 k s.heap) (r:k<n1) (t:k<n2)
  (u:∀h' g x y,P1 k x->P2 k y->SC h' z TI TO (Rq s.heap.objs.size)->Qb h' TO x y->S1 (k+1) h'->S2 (k+1) h'->Qb h' s.heap.objs.size x y->h'.objs.size=s.heap.objs.size+1->(∀c o,c≠z->c≠TO->c≠e->c≠f->s.heap.get? c=on o->h'.get? c=on o)->Q (on (.ref s.heap.objs.size)) {s with heap:=h',toks:=g}):
  Nn (NL prog w) A (Rp (.ref z)) Q E s:=by
 have ty:s.TypeIs (.ref z) "zip":=⟨_,h,rfl⟩;unfold Rp;exact My (RK (wpAny_callSpecial?_slot (name:=OS "__next__") ty SU (N2 SU ty F.entry_zip_next (xj (i _ rfl) (j _ rfl) l h m n p q r t λh' g x y a1 a2 a3 a4 a5 a6 a7 a8 a9=>M0 (u h' g x y a1 a2 a3 a4 a5 a6 a7 a8 a9)) (F.args_zip_next_1 _))))
theorem zq{z TI TO f g:M3}{f1 f2:List M3}(j:∀d:Oj,d.handled=A.handled->UF prog w d f f1 n1 P1 S1)(l:∀d:Oj,d.handled=A.handled->UF prog w d g f2 n2 P2 S2)(m:Ap z TI TO f g f1 f2)
  (h:SC s.heap z TI TO .none) (n:Qb s.heap TI (.ref f) (.ref g)) (p:Qb s.heap TO a b) (q:S1 k s.heap) (r:S2 k s.heap) (t:k=n1\/(k<n1/\k=n2))
  (u:∀h' i,(∀c o,c≠z->c≠TO->c≠f->c≠g->s.heap.get? c=on o->h'.get? c=on o)->Q MY {s with heap:=h',toks:=i}):Nn (NL prog w) A (Rp (.ref z)) Q E s:=by
 have ty:s.TypeIs (.ref z) "zip":=⟨_,h,rfl⟩;unfold Rp;refine My (RK (wpAny_callSpecial?_slot (name:=OS "__next__") ty SU (N2 SU ty F.entry_zip_next (zr (j _ rfl) (l _ rfl) m h n p q r t λh' e i v y=>?_) (F.args_zip_next_1 _))));obtain⟨o,B,C⟩:=y;refine My (PL (T:="StopIteration") (b:=M2) ⟨o,B,C⟩ Vi ?_);exact M0 (u _ _ v)
def Src(b:Bool)(h:Ox)(a:M3)(its:Array M7):Prop:=if b=M2 then h.IsList a its else h.IsTuple a its
noncomputable def FJ(b:Bool):String:=if b=M2 then "list_iterator"else "tuple_iterator"
noncomputable abbrev oP(b:Bool)(a:M3):NM:={cls:= .type (FJ b),data:= .fields #[.ref a,.int 0 0]}
def ff(b:Bool)(h:Ox)(it a:M3)(k:Nat):Prop:=if b=M2 then h.IsListIter it a k else h.IsTupleIter it a k
theorem Src.keep{b:Bool}{h h':Ox}(x:Src b h a its)(k:∀o,h.get? a=on o->h'.get? a=on o):Src b h' a its:=by
 unfold Src at x⊢;split at x
 ·rename_i q;rw[Nf q];exact x.at λo e=>k o e
 ·rename_i q;rw[M8 q]
  obtain⟨o,e,r⟩:=x;exact⟨o,k o e,r⟩
theorem oy{b:Bool}(x:Src b s.heap a its)(h:Q (.ref s.heap.objs.size) {s with heap:=s.heap.push (oP b a)}):Nn (NL prog w) A (Tp (.ref a)) Q E s:=by
 cases b with
 |true=>exact SH (show s.heap.IsList a its from x) h
 |false=>exact T3 (show s.heap.IsTuple a its from x) h
theorem rS(b:Bool)(c:A.handled=MY)(it a:M3)(ne:a≠it)(its:Array M7):UF prog w A it [it,a] its.size (λi v=>its[i]?=on v) (λi h=>ff b h it a i/\Src b h a its):=by
 cases b with
 |true=>exact VC c it a ne its
 |false=>exact MT c it a ne its
abbrev zH1(b1:Bool)(h:Ox)(a:M3):Ox:=h.push (oP b1 a)
abbrev zH2(b1 b2:Bool)(h:Ox)(a b:M3):Ox:=(zH1 b1 h a).push (oP b2 b)
abbrev zH3(b1 b2:Bool)(h:Ox)(a b:M3):Ox:=(zH2 b1 b2 h a b).push {cls:= .type "tuple",data:= .seq #[.ref h.objs.size,.ref (zH1 b1 h a).objs.size]}
abbrev zH4(b1 b2:Bool)(h:Ox)(a b:M3):Ox:=(zH3 b1 b2 h a b).push {cls:= .type "tuple",data:= .seq #[.none,.none]}
abbrev zH5(b1 b2:Bool)(h:Ox)(a b:M3):Ox:=(zH4 b1 b2 h a b).push {cls:= .type "zip",data:= .fields #[.none,.bool M4,.bool M4,.ref (zH2 b1 b2 h a b).objs.size,.ref (zH3 b1 b2 h a b).objs.size]}
theorem wy(b1 b2:Bool)(a b:M3)(xs ys:Array M7):
  Meets (Builtin.«zip.__new__» ⟨[.type "zip",.ref a,.ref b],[]⟩) (λ_ R s=>Src b1 s.heap a xs/\Src b2 s.heap b ys/\R (.ok (.ret (.ref (zH4 b1 b2 s.heap a b).objs.size))) {s with heap:=zH5 b1 b2 s.heap a b}):=
 .of_wp λprog w A R s h=>by
  obtain⟨c,g,d,f,os⟩:=s;obtain⟨j,k,q⟩:=h;have i:=sub_zip;have l:Src b1 (Shared.heap ⟨c,g,d,f,os⟩) a xs:=j;have m:Src b2 (Shared.heap ⟨c.push (oP b1 a),g,d,f,os⟩) b ys:=k.keep λo e=>M1 _ e
  wp_walk using oy l,oy m
  exact⟨_,rfl,q⟩
theorem y8{b1 b2:Bool}(q:Src b1 s.heap l1 xs)(r:Src b2 s.heap l2 ys)
  (h:∀h',SC h' (s.heap.objs.size+4) (s.heap.objs.size+2) (s.heap.objs.size+3) .none->Qb h' (s.heap.objs.size+2) (.ref s.heap.objs.size) (.ref (s.heap.objs.size+1))->Qb h' (s.heap.objs.size+3) .none .none->ff b1 h' s.heap.objs.size l1 0->ff b2 h' (s.heap.objs.size+1) l2 0->h'.objs.size=s.heap.objs.size+5->(∀c o,s.heap.get? c=on o->h'.get? c=on o)->Q (.ref (s.heap.objs.size+4)) {s with heap:=h'}):
  Nn (NL prog w) A (Uj (.type "zip") [.ref l1,.ref l2]) Q E s:=by
 refine callType_new F.called_zip (by decide) (F.typeCall_zip_2 _ _) (F.newCall_zip_2 _ _) (λobj=>F.args_object_init_3 obj _ _) F.entry_zip_new (wy b1 b2 l1 l2 xs ys) ⟨q,r,?_⟩;have f:(zH1 b1 s.heap l1).objs.size=s.heap.objs.size+1:=OP ..;have g:(zH2 b1 b2 s.heap l1 l2).objs.size=s.heap.objs.size+2:=by rw[OP,f]
 have i:(zH3 b1 b2 s.heap l1 l2).objs.size=s.heap.objs.size+3:=by rw[OP,g]
 have j:(zH4 b1 b2 s.heap l1 l2).objs.size=s.heap.objs.size+4:=by rw[OP,i]
 have t:(zH5 b1 b2 s.heap l1 l2).objs.size=s.heap.objs.size+5:=by rw[OP,j]
 have k:(zH5 b1 b2 s.heap l1 l2).get? (zH4 b1 b2 s.heap l1 l2).objs.size=on _:=Nu _ rfl;have l:(zH5 b1 b2 s.heap l1 l2).get? (zH3 b1 b2 s.heap l1 l2).objs.size=on _:=M1 _ (Nu _ rfl);have m:(zH5 b1 b2 s.heap l1 l2).get? (zH2 b1 b2 s.heap l1 l2).objs.size=on _:=M1 _ (M1 _ (Nu _ rfl));have n:(zH5 b1 b2 s.heap l1 l2).get? (zH1 b1 s.heap l1).objs.size=on _:=M1 _ (M1 _ (M1 _ (Nu _ rfl)));have u:(zH5 b1 b2 s.heap l1 l2).get? s.heap.objs.size=on _:=M1 _ (M1 _ (M1 _ (M1 _ (Nu _ rfl))));show _/\_;rw[g,i,j]at k;rw[f,g]at m;rw[i]at l;rw[f]at n;rw[j];have d:∀(b:Bool) (h':Ox) (p a:M3),h'.get? p=on (oP b a)->ff b h' p a 0:=λb h' p a e=>by
  cases b with
  |true=>exact⟨_,e,rfl,rfl⟩
  |false=>exact⟨_,e,rfl,rfl⟩
 exact⟨⟨_,k,rfl⟩,h _ k m l (d _ _ _ _ u) (d _ _ _ _ n) t λc o x=>M1 _ (M1 _ (M1 _ (M1 _ (M1 _ x))))⟩
def SqS(b:Bool)(K:NA)(H:Hp)(a:M3)(xs:List V):Prop:=if b=M2 then SqL K H a xs else SqT K H a xs
noncomputable def Itz(b1 b2:Bool)(K:NA)(a b:M3):It:=
 ⟨λi H=>∃xs ys x y,SqS b1 K H a xs/\SqS b2 K H b ys/\xs[i]?=on x/\ys[i]?=on y,
  λi H v c=>∃p x y,H p=MY/\v= .ref p/\c=upd H p (.tup [x,y])/\∀xs ys,SqS b1 K H a xs->SqS b2 K H b ys->xs[i]?=on x/\ys[i]?=on y,
  λi H=>∃xs ys,SqS b1 K H a xs/\SqS b2 K H b ys/\(xs.length=i\/(i<xs.length/\ys.length=i))⟩
variable{X:Cx}{pins:List (M3×NM)}{σ:St}{H:Hp}
theorem Inv.src{b:Bool}(I:Inv X pins σ H s)(h:SqS b X.K H a xs):∃its:List M7,ar xs its/\Src b s.heap a its.toArray:=by
 cases b with
 |true=>
  obtain⟨its,r,p,_⟩:=I.list (show SqL X.K H a xs from h);exact⟨its,r,p.isList⟩
 |false=>
  obtain⟨its,r,p,_⟩:=I.tuple (show SqT X.K H a xs from h);exact⟨its,r,p⟩
theorem Inv.src_inj{b:Bool}(I:Inv X pins σ H s)(h:SqS b X.K H a xs)(h':SqS b X.K H a ys):xs=ys:=by
 cases b with
 |true=>exact I.list_inj (show SqL X.K H a xs from h) h'
 |false=>exact I.tuple_inj (show SqT X.K H a xs from h) h'
theorem ff.get{b:Bool}{h:Ox}(x:ff b h it a k):∃o,h.get? it=on o/\o.cls= .type (FJ b)/\∃fs,o.data= .fields fs:=by
 cases b with
 |true=>obtain⟨o,e,c,d⟩:=(show h.IsListIter it a k from x);exact⟨o,e,c,_,d⟩
 |false=>obtain⟨o,e,c,d⟩:=(show h.IsTupleIter it a k from x);exact⟨o,e,c,_,d⟩
theorem ff.keep{b:Bool}{h h':Ox}(x:ff b h it a k)(q:∀o,h.get? it=on o->h'.get? it=on o):ff b h' it a k:=by
 cases b with
 |true=>exact(show h.IsListIter it a k from x).at λo e=>q o e
 |false=>exact(show h.IsTupleIter it a k from x).at λo e=>q o e
theorem Inv.turnNew{h':Ox}{t':Nat}{ch:List M3}{p:M3}{o:HO}(I:Inv X pins σ H s)(a:∀b∈ch,d6 X pins H b)(k:∀b u,b∉ch->s.heap.get? b=on u->h'.get? b=on u)(d:s.heap.objs.size<=p)(new:br X.prog X.w (upd H p o) h' p o):Inv X pins σ (upd H p o) {s with heap:=h',toks:=t'}:=by
 have hn:H p=MY:=I.hok.fresh d;have nt:∀b u,H b=on u->b∉ch:=λb u e z=>by rw[(a b z).1]at e;cases e
 refine I.call' (s':={s with heap:=h',toks:=t'}) (ch:=ch) rfl ⟨λb u e _ _ hc=>k b u hc e,λb u e _ _ hc=>⟨u.slots,k b u hc e⟩,λb u e z hc=>?_,λb u e hc=>⟨u,k b u hc e⟩,λb ys e=>?_,λb u ys e=>?_,λb ys e=>⟨#[],?_⟩⟩ (λb u e=>?_) I.bare λb f=>?_
 ·rw[upd_ne (Od (NH (NI e) d))];exact z
 ·rw[upd_ne (aw e hn)];exact e
 ·rw[upd_ne (aw e hn)];exact e
 ·rw[upd_ne (aw e hn),e];simp
 ·by_cases z:b=p
  ·subst z;rw[ah]at e;cases e;exact new
  ·rw[upd_ne z]at e
   refine(I.hok b u e).stay (λc v hc q=>k c v ?_ q) (λc q=>by rw[upd_ne (aw q hn)];exact q) λc xs q=>by rw[upd_ne (aw q hn)];exact q
   rcases hc with rfl|hc
   ·exact nt _ _ e
   ·exact nt _ _ hc
 ·obtain⟨j,f1,f2,g,h,i⟩:=a b f
  exact⟨g,f1,h,i⟩
theorem Inv.turnL{h':Ox}{ch:List M3}(I:Inv X pins σ H s)(a:∀b∈ch,d6 X pins H b)(k:∀b u,b∉ch->s.heap.get? b=on u->h'.get? b=on u):Inv X pins σ H {s with heap:=h',toks:=t'}:=by
 have nt:∀b u,H b=on u->b∉ch:=λb u e z=>by rw[(a b z).1]at e;cases e
 refine I.call' (s':={s with heap:=h',toks:=t'}) (ch:=ch) rfl ⟨λb u e _ _ hc=>k b u hc e,λb u e _ _ hc=>⟨u.slots,k b u hc e⟩,λb u e z hc=>z,λb u e hc=>⟨u,k b u hc e⟩,λb ys e=>e,λb u ys e=>e,λb ys e=>⟨#[],by rw[e];simp⟩⟩ (λb u e=>?_) I.bare λb d=>?_
 ·refine(I.hok b u e).stay (λc v hc q=>k c v ?_ q) (λc q=>q) λc xs q=>q
  rcases hc with rfl|hc
  ·exact nt _ _ e
  ·exact nt _ _ hc
 ·obtain⟨i,f1,f2,f,g,h⟩:=a b d
  exact⟨f,f1,g,h⟩
theorem Inv.src_ne{b:Bool}(I:Inv X pins σ H s)(h:SqS b X.K H a xs)(f:d6 X pins H c):a≠c:=by
 obtain⟨i,f1,f2,f3,j,k⟩:=f;have d:∀o,X.K.lookup a=on o->a≠c:=λo e z=>by
  have g:=I.ok.mod.kin a o e;subst z;rcases f3 with f3|f3
  ·exact I.ok.noex a o g f3
  ·exact NE (NH (NI (I.ok.bs a o g).1) f3) (Oc _)
 have rd:∀u,Rd H a u->a≠c:=λu r z=>by
  subst z;rcases r with r|⟨_,r⟩<;>rw[i]at r<;>cases r
 cases b with
 |true=>
  rcases(show SqL X.K H a xs from h)with h|⟨o,_,_,e,_⟩
  ·exact rd _ h
  ·exact d o e
 |false=>
  rcases(show SqT X.K H a xs from h)with h|⟨o,_,_,e,_⟩
  ·exact rd _ h
  ·exact d o e
theorem zA{w:N0}{K:NA}{x1}(b1 b2:Bool)(C F z TI TO f g:M3)(nd:[z,TI,TO,f,g].Nodup):
  Turn P w K (.Tuple elts x1 pos) (Itz b1 b2 K C F) [z,TI,TO,f,g] z (λi h=>SC h z TI TO .none/\Qb h TI (.ref f) (.ref g)/\(∃a b,Qb h TO a b)/\ff b1 h f C i/\ff b2 h g F i) where
 mem:=by simp
 obj:=λi h st b j=>by
  obtain⟨p,r,⟨a,b',J⟩,L,N⟩:=st;simp only[Nq,OH,Rb]at j;rcases j with rfl|rfl|rfl|rfl|rfl
  ·exact⟨_,p,λv q=>by cases q⟩
  ·exact⟨_,r,λv q=>by cases q⟩
  ·exact⟨_,J,λv q=>by cases q⟩
  ·obtain⟨o,e,_,fs,d⟩:=L.get
   exact⟨o,e,λv q=>by rw[d]at q;cases q⟩
  ·obtain⟨o,e,_,fs,d⟩:=N.get
   exact⟨o,e,λv q=>by rw[d]at q;cases q⟩
 keep:=λi h h' st k=>by
  obtain⟨p,r,⟨a,b',J⟩,L,N⟩:=st;exact⟨k z (by simp) _ p,k TI (by simp) _ r,⟨a,b',k TO (by simp) _ J⟩,L.keep λo e=>k f (by simp) o e,N.keep λo e=>k g (by simp) o e⟩
 item:=by
  intro X hP hw hK n i pins s σ H E I O st hg;subst hP hw hK;obtain⟨xs,ys,x,y,q1,q2,hx,hy⟩:=hg;obtain⟨p,r,⟨a,b',J⟩,L,N⟩:=st;obtain⟨l,r1,p1⟩:=Inv.src I q1;obtain⟨m,r2,p2⟩:=Inv.src I q2;have hd:=I.ok.hd n;simp only[Ob,Nq,OH,Rb,not_or]at nd;obtain⟨⟨Y,z2,U,W⟩,⟨t1,t2,t3⟩,⟨Z,o2⟩,R,_⟩:=nd;have t:∀c∈[z,TI,TO,f,g],C≠c:=λc n=>Inv.src_ne I q1 (O c n);have B:∀c∈[z,TI,TO,f,g],F≠c:=λc n=>Inv.src_ne I q2 (O c n);have ap:Ap z TI TO f g [f,C] [g,F]:=⟨Ne.symm Y,Ne.symm z2,Ne.symm U,Ne.symm W,t1,t2,t3,Z,o2,R,by simp[U,(t z (by simp)).symm],by simp[Z,(t TO (by simp)).symm],by simp[Ne.symm R,(t g (by simp)).symm],by simp[W,(B z (by simp)).symm],by simp[o2,(B TO (by simp)).symm],by simp[R,(B f (by simp)).symm],by simp,by simp⟩;have k1:i<l.toArray.size:=by
   rw[Nv,←r1.length];exact(Nj.mp hx).1
  have k2:i<m.toArray.size:=by
   rw[Nv,←r2.length];exact(Nj.mp hy).1
  refine xi (λA' h'=>rS b1 (h'.trans hd) f C (t f (by simp)) l.toArray) (λA' h'=>rS b2 (h'.trans hd) g F (B g (by simp)) m.toArray) ap p r J ⟨L,p1⟩ ⟨N,p2⟩ k1 k2 λh' tk u v pu pv fz fO f1 f2 fT sz kp=>?_;refine⟨_,rfl,wpAny_letOwnedTupleGo_zip (s:={s with heap:=h',toks:=tk}) fz λT ez'' Q=>?_⟩
  replace Q:NP z h' T:=Q
  have zT:s.heap.objs.size≠z:=Qc (NI p);obtain⟨u',hu,ru⟩:=r1.get hx;obtain⟨v',hv,rv⟩:=r2.get hy;have eu:u=u':=by
   have:l[i]?=on u:=by simpa using pu
   rw[this]at hu;exact NN hu
  have ev:v=v':=by
   have:m[i]?=on v:=by simpa using pv
   rw[this]at hv;exact NN hv
  subst eu ev;have kk:∀b o,b∉[z,TI,TO,f,g]->s.heap.get? b=on o->T.get? b=on o:=λb o j e=>by
   simp only[Nq,OH,Rb,not_or]at j;exact Q.extBut b o j.1 (kp b o j.1 j.2.2.1 j.2.2.2.1 j.2.2.2.2 e)
  have I2:Inv X pins σ (upd H s.heap.objs.size (.tup [x,y])) {s with heap:=T,toks:=tk}:=by
   refine Inv.turnNew I O kk (Nh _) ⟨by show 2<=Nr;decide,[u,v],.cons ru (.cons rv .nil),_,Q.extBut _ _ zT fT,rfl,_,rfl⟩
  refine⟨.ref s.heap.objs.size,_,I2,rfl,⟨s.heap.objs.size,x,y,I.hok.fresh (Nh _),rfl,rfl,λas bs h1 h2=>⟨by rw[Inv.src_inj I h1 q1];exact hx,by rw[Inv.src_inj I h2 q2];exact hy⟩⟩,⟨ez'',?_,⟨u,v,?_⟩,?_,?_⟩,λb j=>?_⟩
  ·exact Q.extBut _ _ (Ne.symm Y) (kp TI _ (Ne.symm Y) t1 t2 t3 r)
  ·exact Q.extBut _ _ (Ne.symm z2) fO
  ·exact f1.1.keep λo e=>Q.extBut _ _ (Ne.symm U) e
  ·exact f2.1.keep λo e=>Q.extBut _ _ (Ne.symm W) e
  ·rw[upd_ne]
   ·exact(O b j).1
   ·intro q
    have ol:∃o,s.heap.get? b=on o:=by
     simp only[Nq,OH,Rb]at j;rcases j with rfl|rfl|rfl|rfl|rfl
     ·exact⟨_,p⟩
     ·exact⟨_,r⟩
     ·exact⟨_,J⟩
     ·obtain⟨o,e,_⟩:=L.get;exact⟨o,e⟩
     ·obtain⟨o,e,_⟩:=N.get;exact⟨o,e⟩
    obtain⟨o,e⟩:=ol;exact NE (NI e) (by rw[q];exact Oc _)
 done:=by
  intro X hP hw hK n i pins s σ H E I O st hg;subst hP hw hK;obtain⟨xs,ys,q1,q2,hl⟩:=hg;obtain⟨p,r,⟨a,b',J⟩,L,N⟩:=st;obtain⟨l,r1,p1⟩:=Inv.src I q1;obtain⟨m,r2,p2⟩:=Inv.src I q2;have hd:=I.ok.hd n;simp only[Ob,Nq,OH,Rb,not_or]at nd;obtain⟨⟨Y,z2,U,W⟩,⟨t1,t2,t3⟩,⟨Z,o2⟩,R,_⟩:=nd;have t:∀c∈[z,TI,TO,f,g],C≠c:=λc n=>Inv.src_ne I q1 (O c n);have B:∀c∈[z,TI,TO,f,g],F≠c:=λc n=>Inv.src_ne I q2 (O c n);have ap:Ap z TI TO f g [f,C] [g,F]:=⟨Ne.symm Y,Ne.symm z2,Ne.symm U,Ne.symm W,t1,t2,t3,Z,o2,R,by simp[U,(t z (by simp)).symm],by simp[Z,(t TO (by simp)).symm],by simp[Ne.symm R,(t g (by simp)).symm],by simp[W,(B z (by simp)).symm],by simp[o2,(B TO (by simp)).symm],by simp[R,(B f (by simp)).symm],by simp,by simp⟩;have g1:l.toArray.size=xs.length:=by rw[Nv,←r1.length]
  have g2:m.toArray.size=ys.length:=by rw[Nv,←r2.length]
  refine zq (λA' h'=>rS b1 (h'.trans hd) f C (t f (by simp)) l.toArray) (λA' h'=>rS b2 (h'.trans hd) g F (B g (by simp)) m.toArray) ap p r J ⟨L,p1⟩ ⟨N,p2⟩ ?_ λh' tk kp=>⟨rfl,Inv.turnL I O λb o j e=>?_⟩
  ·rw[g1,g2]
   rcases hl with hl|⟨h1,h2⟩
   ·exact .inl hl.symm
   ·exact .inr ⟨h1,h2.symm⟩
  ·simp only[Nq,OH,Rb,not_or]at j
   exact kp b o j.1 j.2.2.1 j.2.2.2.1 j.2.2.2.2 e
 self:=λ_ _ _ _ _ st h=>wpAny_pyIter_zip st.1 h
end
section
variable{X:Cx}{E:St->XK}{K:NA}
def iZp(K:NA)(d:TA):TI:=λe H R=>d e H λvs a=>∃b1 b2 b c xs ys,vs=[.ref b,.ref c]/\SqS b1 K a b xs/\SqS b2 K a c ys/\R (Itz b1 b2 K b c) a
theorem JO{x1}(y:Gl X "zip")(hm:X.mg "zip"=MY)(ha:PA X [a,b] ta)(hs:No [a,b] X.env=[(M4,Op a X.env),(M4,Op b X.env)]:=by rfl)(g:No [b] X.env=[(M4,Op b X.env)]:=by rfl):
  PI X (.Tuple elts x1 tpos) (.Call (.Name "zip" p) [a,b] [] pos) (iZp X.K ta):=by
 intro f s n H R I h;refine Call_ (eX I y hm PyProof.Rows.Boot.«zip» (OK (thn (ha pos f s n H _ I h) λus d ⟨vs,o,i,r1,q1⟩=>?_) (by rw[hs,g]) (by rw[g];rfl)));obtain⟨b1,b2,t,u,xs,ys,e,q1,q2,q⟩:=q1;subst e;cases r1 with
 |cons r k=>
  cases k with
  |cons A k=>
   cases k;cases r;cases A;obtain⟨B,P,C⟩:=Inv.src i q1;obtain⟨F,Q,J⟩:=Inv.src i q2;refine y8 C J λh' v L N l m sz kp=>?_;refine wpAny_pyIter_zip (s:={d with heap:=h'}) v ?_;have O:Inv X f n o {d with heap:=h'}:=i.kept (t':=d.toks) kp;refine⟨_,[d.heap.objs.size+4,d.heap.objs.size+2,d.heap.objs.size+3,d.heap.objs.size,d.heap.objs.size+1],_,Itz b1 b2 X.K t u,o,rfl,O,zA b1 b2 t u (d.heap.objs.size+4) (d.heap.objs.size+2) (d.heap.objs.size+3) d.heap.objs.size (d.heap.objs.size+1) (by simp),⟨v,L,⟨_,_,N⟩,l,m⟩,λc w=>?_,q⟩;have j:d.heap.objs.size<=c:=by
    simp only[Nq,OH,Rb]at w;rcases w with rfl|rfl|rfl|rfl|rfl
    ·exact Rk _ _
    ·exact Rk _ _
    ·exact Rk _ _
    ·exact Nh _
    ·exact Rk _ _
   exact i.fpOk j (i.hok.fresh j)
noncomputable def c5:List D->List D->List D
 |x::xs,y::ys=> .tup [x,y]::c5 xs ys
 |_,_=>[]
theorem rZ:∀(xs ys:List D),(c5 xs ys).length=Qk xs.length ys.length
 |[],ys=>by simp[c5]
 |x::xs,[]=>by simp[c5]
 |x::xs,y::ys=>by
  show(c5 xs ys).length+1=_;rw[rZ xs ys,Nm,Nm];omega
theorem sd:∀{xs ys:List D} {i:Nat} {d:D},(c5 xs ys)[i]?=on d->∃x y,xs[i]?=on x/\ys[i]?=on y/\d= .tup [x,y]
 |[],ys,i,d,h=>by simp[c5]at h
 |x::xs,[],i,d,h=>by simp[c5]at h
 |x::xs,y::ys,0,d,h=>by
  simp[c5]at h;exact⟨x,y,rfl,rfl,h.symm⟩
 |x::xs,y::ys,i+1,d,h=>by
  have h':(c5 xs ys)[i]?=on d:=by simpa[c5]using h
  obtain⟨a,b,c,e,f⟩:=sd h';exact⟨a,b,by simpa using c,by simpa using e,f⟩
def se:List D->Option (List D)
 |[a,b]=>(dF a).bind λxs=>(dF b).map λys=>c5 xs ys
 |_=>MY
theorem Den.sqS(h:Den K F H d v)(e:dF d=on ds):∃b a,v= .ref a/\∀f c,Tr F H f c->∃xs,SqS b K c a xs/\DenL K f c ds xs:=by
 cases d<;>first
  |(cases e;obtain⟨a,xs,rfl,_⟩:=Den.sqL h;refine⟨M2,a,rfl,λf c t=>?_⟩;obtain⟨j,ys,g,sq,i⟩:=Den.sqL (Den.tr t _ _ h);cases g;exact⟨ys,sq,i⟩)
  |(cases e;obtain⟨a,xs,rfl,_⟩:=Den.sqT h;refine⟨M4,a,rfl,λf c t=>?_⟩;obtain⟨j,ys,g,sq,i⟩:=Den.sqT (Den.tr t _ _ h);cases g;exact⟨ys,sq,i⟩)
  |cases e
theorem IH{b1 b2:Bool}(n:∀b a,Tr F H b a->∃xs,SqS b1 K a l1 xs/\DenL K b a ds xs)(o:∀b a,Tr F H b a->∃xs,SqS b2 K a l2 xs/\DenL K b a es xs):ItD K (Itz b1 b2 K l1 l2) F H (c5 ds es):=λb a β2 t fr i=>by
 obtain⟨xs,c,d1⟩:=n b a t;obtain⟨ys,e,d2⟩:=o b a t;refine⟨λd hd=>?_,λq=>?_⟩
 ·obtain⟨x,y,f,g,rfl⟩:=sd hd
  obtain⟨u,h,du⟩:=d1.get f;obtain⟨v,j,r⟩:=d2.get g;refine⟨⟨xs,ys,u,v,c,e,h,j⟩,λz B w=>?_⟩;obtain⟨p,C,I,k,rfl,rfl,A⟩:=w;obtain⟨l,m⟩:=A xs ys c e;rw[h]at l;rw[j]at m;cases l;cases m;exact⟨bv.upd k,Den.newT fr k (DenL.cons du (DenL.cons r DenL.nil))⟩
 ·rw[rZ]at q
  have f:=d1.length;have g:=d2.length;refine⟨xs,ys,c,e,?_⟩;rw[←f,←g];omega
def ia(g:FL):FL:=bG se g
theorem oV{x1}(o:Gl X "zip")(hm:X.mg "zip"=MY)(ha:PA X [a,b] (tVA X.K g E))(hs:No [a,b] X.env=[(M4,Op a X.env),(M4,Op b X.env)]:=by rfl)(i:No [b] X.env=[(M4,Op b X.env)]:=by rfl):
  PI X (.Tuple elts x1 tpos) (.Call (.Name "zip" p) [a,b] [] pos) (iV X.K (ia g) E):=
 (JO o hm ha hs i).imp λI H R j=>ex6 j λF δ β fr q h=>⟨F,δ,β,fr,q,(run.bind (R:=DenL X.K F) h).mono λvs f j=>by
  obtain⟨ds,β1,t,hd,r1⟩:=j;obtain⟨l,e,k⟩:=run.ofO r1;unfold se at e;split at e
  ·rename_i c d
   obtain⟨v,J,rfl,r,u⟩:=DenL.two hd;cases q1:dF c with
   |none=>rw[q1]at e;cases e
   |some xs=>
    cases q2:dF d with
    |none=>rw[q1,q2]at e;cases e
    |some ys=>
     rw[q1,q2]at e;cases e;obtain⟨b1,w,rfl,m⟩:=Den.sqS r q1;obtain⟨b2,y,rfl,n⟩:=Den.sqS u q2;obtain⟨us,A,_⟩:=m F f (Tr.refl F f);obtain⟨B,C,_⟩:=n F f (Tr.refl F f);exact⟨b1,b2,w,y,us,B,rfl,A,C,k _ f (To.refl t.fr) (IH m n)⟩
  ·cases e⟩
def lW:Dn->M Unit:=λ_=>M.ret ()
def lX(f:FD)(g:Dn->M Unit):Dn->M Unit:=λδ=>M.bind (f δ) λd=>match d with
 | .int i=>if i.natAbs.log2<1920 then g δ else M.fail
 |_=>M.fail
variable{es:List Expr}
def ma(f:Dn->M Unit):FD:=λδ=>M.bind (f δ) λ_=>M.ret .txt
noncomputable def jr(C:M3)(f:FL):G:=λδ β=>match f (vwA δ) β with
 |some (.ok _,β1)=>on (.ex C δ,β1)
 |some (.error C',β1)=>on (.ex C' δ,β1)
 |none=>MY
end
section
variable{P:NQ}{w:N0}{K:NA}{mg:NY->Option M7}{base:Ox}{N:List NY}{qual:NY}{scope:Scope}{f:M3}{cd:M7}{A:Oj}{outer:List Ud}{s:Ng}{H:Hp}{E:XK}
end
section
variable{X:Cx}{E:St->XK}{K:NA}
abbrev Gh:=M3->G
noncomputable def hNo:Gh:=λ_ _ _=>MY
noncomputable def pR(K:NA)(a:M3)(g:G)(r:Gh):Gh:=λC δ β=>match PySem.W.exmOne K (.ref C) (.ref a)with
 |some M2=>g δ β
 |some M4=>r C δ β
 |none=>MY
noncomputable def pT(g:G)(h:Gh):G:=λδ β=>match g δ β with
 |some (.ex C δ1,β1)=>h C δ1 β1
 |r=>r
variable{elt target iter:Expr}{ifs:List Expr}{rest:List OT}{scope:Scope}{pos:RN}{Nc vars:List NY}{caps:List Nat}{g:TG}{tb:M3->TB}
theorem aQ:dh X [] (tVT X.K (λ_=>M.ret M2) E0):=λa s b H Q I c=>by obtain⟨F,δ,β,fr,d,r⟩:=c;exact sX a s b H Q I (run.ret fr r rfl)
theorem rR(a:PT X c (tVT X.K t E0)):dh X [c] (tVT X.K t E0):=zU a
theorem aZ(c:X.calm=M2)(S:CmpScope X scope Nc vars caps)(d:PI X target iter (iV X.K it E))
  (e:∀(cl:List (NY×M3)) (C:M3) (a:List M3) (s:Ng) (H:Hp),PG (aB X Nc scope cl C a s H) target g/\dh (aB X Nc scope cl C a s H) ifs (tVT X.K tt E0)/\∀D,PB (aB X Nc scope cl C a s H) elt (⟨target,iter,ifs,0⟩::rest) scope pos 0 D (tb D))
  (f:cf X.K g tg) (i:de tg) (j:∀D,iO X.K D (tb D) b) (hs:∀x,N5 iter X.env x=Pn x:=by intro _;rfl):PE X (.ListComp elt (⟨target,iter,ifs,0⟩::rest) scope pos) (tV X.K (cb vars.length caps it tg tt b) E):=
 (lN c S d e hs).imp λk H Q h=>sy f i j h
theorem xU{a c:RN}(j:X.N.Nodup)(d:X.N[i]?=on x)(k:Loc X.env.scope x)(l:X.calm=M2)(S:CmpScope X scope Nc vars caps)(m:PI X target iter (iV X.K it E))
  (n:∀(cl:List (NY×M3)) (C:M3) (f:List M3) (s:Ng) (H:Hp),PG (aB X Nc scope cl C f s H) target g/\dh (aB X Nc scope cl C f s H) ifs (tVT X.K tt E0)/\∀D,PB (aB X Nc scope cl C f s H) elt (⟨target,iter,ifs,0⟩::rest) scope pos 0 D (tb D))
  (o:cf X.K g tg) (p:de tg) (q:∀D,iO X.K D (tb D) b)
  (e:RE (.ListComp elt (⟨target,iter,ifs,0⟩::rest) scope pos) (on (.Name x a)) c.line X.env=Pn M2:=by rfl)
  (hs:∀x,N5 iter X.env x=Pn x:=by intro _;rfl) (r:X.fn x=M2\/X.env.scope.names.lookup x=on .local:=by first|exact .inl rfl|exact .inr rfl|assumption):
  PS X (.Assign [.Name x a] (.ListComp elt (⟨target,iter,ifs,0⟩::rest) scope pos) c) (tG X.K X.H₀ (eL i (cb vars.length caps it tg tt b)) E):=
 aG ((uY j d k l S m n e hs r).imp λD t H h=>sy o p q h)
noncomputable def m8:D->Option D
 | .int i=>on (.int (-i))
 |_=>MY
theorem MC:FW K (rU λi=> .int (-i)) m8:=λF H β Q d1 d b fr a e k=>by
 cases d1<;>first|(cases e;exact⟨_,a,k _ H (To.refl fr) rfl⟩)|cases e
noncomputable def zi:D->Option Int
 | .int i=>on i
 |_=>MY
noncomputable def lf(xs:List D)(lo a:Option Int):List D:=(xs.drop (HT.sIx xs.length 0 lo)).take (HT.sIx xs.length xs.length a-HT.sIx xs.length 0 lo)
def slD:D->Option Int->Option Int->Option D
 | .lst xs,lo,hi=>on (.lst (lf xs lo hi))
 | .scr ns,lo,hi=>on (.lst (lf (ns.map D.int) lo hi))
 |_,_,_=>MY
def l8(f:Option (FD)):Dn->M (Option Int):=λδ=>match f with
 |none=>M.ret MY
 |some g=>M.bind (g δ) λd=>M.bind (M.ofO (zi d)) λi=>M.ret (on i)
def fSl(f:FD)(lo a:Option (FD)):FD:=λδ=>M.bind (f δ) λd=>M.bind (l8 lo δ) λl=>M.bind (l8 a δ) λh=>M.ofO (slD d l h)
def qh(X:Cx)(e:Option Expr)(f:Option (FD))(E:St->XK):Prop:=PO X e (λc H Q=>∃F δ β,Fr F H β/\VOk X.K F H δ c/\run (λ_ (a b:Option Int)=>b=a) F E c (l8 f δ) H Q β)
theorem kS:qh X MY MY E:=λa s b H Q I c=>by obtain⟨F,δ,β,fr,d,r⟩:=c;exact u4 a s b H Q I (run.ret fr r rfl)
theorem kR(h:PE X e (tV X.K f E)):qh X (on e) (on f) E:=λa s c H Q I b=>ex6 b λF δ β fr j r=>u3 h a s c H Q I ⟨F,δ,β,fr,j,(run.bind (R:=Den X.K F) r).mono λv l b=>by
  obtain⟨d,β1,t,hd,r1⟩:=b;obtain⟨i,e,k⟩:=run.ofO_bind r1;cases d<;>first|(cases e;exact⟨_,hd,run.ret t.fr k rfl⟩)|cases e⟩
theorem DenL.cut(h:DenL K F H ds vs)(lo a:Option Int):DenL K F H (lf ds lo a) (iY vs lo a):=by
 unfold lf iY;rw[h.length];exact(h.drop _).take _
theorem uE{lo y:Option Expr}{fl A:Option (FD)}(B:PE X e (tV X.K f E))(C:qh X lo fl E)(I:qh X y A E):PE X (.Subscript e (.Slice lo y MY p2) pos) (tV X.K (fSl f fl A) E):=
 (m6 uO B C I).imp λO H Q o=>ex6 o λF δ β fr q r=>⟨F,δ,β,fr,q,(run.bind (R:=Den X.K F) r).mono λv P ⟨d,β1,t,hd,r1⟩=>
  ⟨F,δ,β1,t.fr,q.tr (t.tr fr),(run.bind (R:=λ_ (a b:Option Int)=>b=a) r1).mono λl T ⟨U,β2,n,u,J⟩=>
   ⟨F,δ,β2,n.fr,q.tr ((t.tr fr).trans (n.tr t.fr)),(run.bind (R:=λ_ (a b:Option Int)=>b=a) J).mono λh W o=>by
    obtain⟨h',β3,i,w,L⟩:=o;subst u w;obtain⟨c,e,k⟩:=run.ofO L;have j:=Den.tr ((n.tr t.fr).trans (i.tr n.fr)) _ _ hd;cases d<;>first
     |(cases e;obtain⟨a,xs,rfl,sq,N⟩:=Den.sqL j;exact⟨a,xs,rfl,sq,λp m=>k _ _ (i.fr.upd _ m) (Den.newL i.fr m (N.cut l h))⟩)
     |(cases e;obtain⟨a,rfl,sq⟩:=Den.scr j;exact⟨a,_,rfl,sq,λp m=>k _ _ (i.fr.upd _ m) (Den.newL i.fr m ((DenL.ofInts _).cut l h))⟩)
     |cases e⟩⟩⟩
def Bg.ok(β:Bg):Prop:=β.cells≠[]/\β.cells.length<=64/\(∀c∈β.cells,0<=c)/\0<=β.j
end
noncomputable def Bg.pos(β:Bg):Nat:=(β.i % (β.cells.length:Int)).toNat
def Bg.cell(β:Bg):Int:=β.cells.getD β.pos 0
noncomputable def Bg.nxt(β:Bg):Int:=(β.j+β.cell % 2147483629+77)*48271 % 2147483629
noncomputable def iC(β:Bg)(lot:Int):Int:=if 10^18<=β.cell then β.cell % lot else β.nxt/64 % lot
noncomputable def jI(β:Bg)(lot:Int):Bg:=if 10^18<=β.cell then⟨β.cells.set β.pos (β.cell/lot),β.i,β.j⟩else⟨β.cells,β.i+1,β.nxt⟩
open Classical in
def gG:List D->M D:=λds β=>match ds with
 |[.bag,.int lot]=>if β.ok/\0<lot/\lot<1073741824 then on (Pa (D.int (iC β lot)),jI β lot)else MY
 |_=>MY
theorem AK{β:Bg}(h:β.ok)(a:0<lot)(b:lot<1073741824):gG [.bag,.int lot] β=on (.ok (.int (iC β lot)),jI β lot):=by
 unfold gG;exact Nf ⟨h,a,b⟩
theorem yw{β:Bg}(h:gG ds β=on (r,β')):∃lot,ds=[.bag,.int lot]/\β.ok/\0<lot/\lot<1073741824/\r= .ok (.int (iC β lot))/\β'=jI β lot:=by
 unfold gG at h;split at h
 ·split at h
  ·rename_i lot q
   cases h;exact⟨lot,rfl,q.1,q.2.1,q.2.2,rfl,rfl⟩
  ·cases h
 ·cases h
theorem Bg.ok.at{β:Bg}(h:β.ok):β.pos<β.cells.length/\β.cells[β.pos]?=on β.cell/\0<=β.cell/\β.i % (β.cells.length:Int)=(β.pos:Int):=by
 obtain⟨c1,c2,c3,b⟩:=id h;have c:0<β.cells.length:=List.length_pos_iff.mpr c1;have a1:0<=β.i % (β.cells.length:Int):=Rz _ (by omega);have a2:β.i % (β.cells.length:Int)<β.cells.length:=RX _ (by omega);have a:β.pos<β.cells.length:=by unfold Bg.pos;omega
 have e:β.cell=β.cells[β.pos]:=by
  unfold Bg.cell;rw[Na,M6 a];rfl
 refine⟨a,by rw[e];exact M6 a,by rw[e];exact c3 _ (Oa a),?_⟩;unfold Bg.pos;omega
theorem uW{β:Bg}(h:β.ok)(b:0<lot):0<=iC β lot/\iC β lot<lot/\(jI β lot).ok:=by
 obtain⟨f,_,d,_⟩:=h.at;obtain⟨c1,c2,c3,e⟩:=id h;unfold iC jI;split
 ·refine⟨Rz _ (by omega),RX _ b,?_,by rw[N7];exact c2,λc a=>?_,e⟩
  ·intro z
   have:=Oi Rt z;rw[N7]at this;exact c1 (Sx.mp this)
  ·rcases O9 a with a|rfl
   ·exact c3 c a
   ·exact Int.ediv_nonneg d (by omega)
 ·exact⟨Rz _ (by omega),RX _ b,c1,c2,c3,Rz _ (by decide)⟩
end L2.Pu
namespace L2
open PySem PySem.Spec PyProof.Rows
end L2
namespace L2.Pu
open PySem PySem.Spec PyProof.Rows
section
variable{X:Cx}{E:St->XK}{K:NA}
def mx(K:NA)(mg:NY->Option M7)(x:NY)(d:D):Prop:=∃u v,mg x=on u/\aF v u/\∀F H,Den K F H d v
theorem kj(c:mx X.K X.mg x d)(a:Gl X x:=by rfl)(hd:(x==("__debug__":NY))=M4:=by decide):PE X (.Name x pos) (tV X.K (fC d) E):=by
 obtain⟨u,v,b,e,f⟩:=c;exact v_c (HL a b e hd) f
mutual
noncomputable def toP:D->Option PyData
 | .non=>on .none
 | .bl b=>on (.bool b)
 | .int i=>on (.int i)
 | .str x=>on (.str x)
 | .lst xs=>(toPs xs).map PyData.list
 | .tup xs=>(toPs xs).map PyData.tuple
 |_=>MY
noncomputable def toPs:List D->Option (List PyData)
 |[]=>on []
 |x::xs=>match toP x,toPs xs with
  |some p,on ps=>on (p::ps)
  |_,_=>MY
end
mutual
theorem jg{s:Ng}(I:Inv X pins σ H s):∀(d:D) (v:V) (u:M7) (p:PyData),Den X.K F H d v->toP d=on p->aF v u->∃as,Reads s.heap u p as
 | .non,v,u,p,h,e,r=>by cases e;cases h.non;cases r;exact⟨_,.none⟩
 | .bl b,v,u,p,h,e,r=>by cases e;cases h.bl;cases r;exact⟨_,.bool b⟩
 | .int i,v,u,p,h,e,r=>by cases e;cases h.int;obtain⟨t,rfl⟩:=r;exact⟨_,.int i t⟩
 | .str x,v,u,p,h,e,r=>by cases e;cases h.str;obtain⟨t,rfl⟩:=r;exact⟨_,.str x t⟩
 | .lst xs,v,u,p,h,e,r=>by
  unfold toP at e;cases q:toPs xs with
  |none=>rw[q]at e;cases e
  |some ps=>
   rw[q]at e;cases e;obtain⟨a,ys,rfl,sq,c⟩:=Den.sqL h;cases r;obtain⟨its,f,pl,_⟩:=I.list sq;obtain⟨as,g⟩:=reads_L I xs ys its ps c q f;obtain⟨o,j,k,n,hd⟩:=pl.isList;exact⟨_,.list j k hd (by simpa using g)⟩
 | .tup xs,v,u,p,h,e,r=>by
  unfold toP at e;cases q:toPs xs with
  |none=>rw[q]at e;cases e
  |some ps=>
   rw[q]at e;cases e;obtain⟨a,ys,rfl,sq,c⟩:=Den.sqT h;cases r;obtain⟨its,f,pl,_⟩:=I.tuple sq;obtain⟨as,g⟩:=reads_L I xs ys its ps c q f;obtain⟨o,j,k,n,hd⟩:=pl;exact⟨_,.tuple j k hd (by simpa using g)⟩
 | .ty _,_,_,_,_,e,_=>by cases e
 | .txt,_,_,_,_,e,_=>by cases e
 | .scr _,_,_,_,_,e,_=>by cases e
 | .obj _ _ _,_,_,_,_,e,_=>by cases e
 | .bag,_,_,_,_,e,_=>by cases e
 | .adr _,_,_,_,_,e,_=>by cases e
 | .dct _ _ _,_,_,_,_,e,_=>by cases e
theorem reads_L{s:Ng}(I:Inv X pins σ H s):∀(ds:List D) (vs:List V) (us:List M7) (ps:List PyData),DenL X.K F H ds vs->toPs ds=on ps->ar vs us->∃as,ReadsAll s.heap us ps as
 |[],vs,us,ps,h,e,r=>by
  have q:vs=[]:=h;subst q;cases e;cases r;exact⟨_,.nil⟩
 |d::ds,vs,us,ps,h,e,r=>by
  obtain⟨x,a,rfl,b,c⟩:=h;unfold toPs at e;split at e
  ·rename_i p pr f g
   cases e;cases r with
   |cons r1 i=>
    obtain⟨as,j⟩:=jg I d x _ p b f r1;obtain⟨bs,k⟩:=reads_L I ds a _ pr c g i;exact⟨_,.cons j k⟩
  ·cases e
end
def nB(a b:D):Option Bool:=match toP a,toP b with
 |some p,on q=>if(Tk p&&Tk q)=M2 then on (PyData.eqv p q)else MY
 |_,_=>MY
def iX(a b:D):Option D:=match eqS a b with
 |some c=>on (.bl c)
 |none=>(nB a b).map D.bl
def dL(a b:D):Option D:=match eqS a b with
 |some c=>on (.bl (!c))
 |none=>(nB a b).map λc=>D.bl (!c)
def pE(X:Cx)(g:Bool->Bool):R2:=λx y H Q=>∃(F:Fx) (a b:D) (c:Bool),Den X.K F H a x/\Den X.K F H b y/\nB a b=on c/\Q (.bl (g c)) H
theorem qS{c:Bool}(h:nB a b=on c):∃p q,toP a=on p/\toP b=on q/\Tk p=M2/\Tk q=M2/\c=PyData.eqv p q:=by
 unfold nB at h;split at h
 ·rename_i p q d e
  split at h
  ·rename_i hs
   rw[NO]at hs;cases h;exact⟨p,q,d,e,hs.1,hs.2,rfl⟩
  ·cases h
 ·cases h
theorem J2(f:Room k X.A):OpR X (Ou .Eq) (pE X id):=by
 intro d s t H x y v u Q I g i h;obtain⟨F,a,b,c,d1,d2,e,q⟩:=h;obtain⟨p,j,l,m,n,o,rfl⟩:=qS e;obtain⟨as,r1⟩:=jg I a x v p d1 l g;obtain⟨bs,r⟩:=jg I b y u j d2 m i;exact eq_dataH r1 r n o f.units ⟨.bl _,H,I,rfl,q⟩
theorem J0(f:Room k X.A):OpR X (Ou .NotEq) (pE X not):=by
 intro d s t H x y v u Q I g i h;obtain⟨F,a,b,c,d1,d2,e,q⟩:=h;obtain⟨p,j,l,m,n,o,rfl⟩:=qS e;obtain⟨as,r1⟩:=jg I a x v p d1 l g;obtain⟨bs,r⟩:=jg I b y u j d2 m i;exact ne_dataH r1 r n o f.units ⟨.bl _,H,I,rfl,q⟩
theorem d9(a:Room k X.A):OpR X (Ou .Eq) (λx y H Q=>rEq x y H Q\/pE X id x y H Q):=Mr.or (J2 a)
theorem d8(a:Room k X.A):OpR X (Ou .NotEq) (λx y H Q=>rNe x y H Q\/pE X not x y H Q):=Mp.or (J0 a)
theorem fQ:aV X.K (λx y H Q=>rEq x y H Q\/pE X id x y H Q) iX:=λF H β Q d1 d2 d h i fr a b e k=>by
 unfold iX at e;split at e
 ·rename_i c q
  cases e;obtain⟨f,g⟩:=yY q a b;exact .inl ⟨f,by rw[g];exact k _ H (To.refl fr) rfl⟩
 ·cases q:nB d1 d2 with
  |none=>rw[q]at e;cases e
  |some c=>rw[q]at e;cases e;exact .inr ⟨F,d1,d2,c,a,b,q,k _ H (To.refl fr) rfl⟩
theorem fP:aV X.K (λx y H Q=>rNe x y H Q\/pE X not x y H Q) dL:=λF H β Q d1 d2 d h i fr a b e k=>by
 unfold dL at e;split at e
 ·rename_i c q
  cases e;obtain⟨f,g⟩:=yY q a b;exact .inl ⟨f,by rw[g];exact k _ H (To.refl fr) rfl⟩
 ·cases q:nB d1 d2 with
  |none=>rw[q]at e;cases e
  |some c=>rw[q]at e;cases e;exact .inr ⟨F,d1,d2,c,a,b,q,k _ H (To.refl fr) rfl⟩
theorem jX(i j:Int):iX (.int i) (.int j)=on (.bl (decide (i=j))):=rfl
theorem jW(i j:Int):dL (.int i) (.int j)=on (.bl (!decide (i=j))):=rfl
theorem mq(i j:Bool):iX (.bl i) (.bl j)=on (.bl (decide (i=j))):=rfl
theorem ml(i j:Bool):dL (.bl i) (.bl j)=on (.bl (!decide (i=j))):=rfl
theorem mo(i j:NY):iX (.str i) (.str j)=on (.bl (decide (i=j))):=rfl
theorem mj(i j:NY):dL (.str i) (.str j)=on (.bl (!decide (i=j))):=rfl
theorem FH{C:Int->Int->Prop}{c:Int->Int->Bool}{g:Int->Int->Int}(b:∀i j,c i j=M2->C i j):aV K (ipC C g) (opI λi j=>if c i j=M2 then on (.int (g i j))else MY):=λF H β Q d1 d2 d l m fr f h e k=>by
 obtain⟨i,j,rfl,rfl,a⟩:=h9 e;split at a
 ·cases a
  exact⟨i,j,f,h,b _ _ (by assumption),k _ H (To.refl fr) rfl⟩
 ·cases a
def LH:D->D->Option D:=opI λi j=>on (.int (i+j))
theorem vh:aV K (ipI λi j=>i+j) LH:=λF H β Q d1 d2 d f g fr a b e k=>by
 obtain⟨i,j,rfl,rfl,c⟩:=h9 e;cases c;exact⟨i,j,a,b,k _ H (To.refl fr) rfl⟩
theorem vj:PIp X .Mult (ipC rX λi j=>i*j):=by
 intro a s e H x y v u Q I b d h;obtain⟨i,j,rfl,rfl,c,q⟩:=h;obtain⟨t,rfl⟩:=b;obtain⟨t',rfl⟩:=d;exact imul_int ⟨.int _,H,I.tok _,⟨_,rfl⟩,q⟩ (Vr (iM c.1) (iM c.2))
theorem vg:aV K (ipC rX λi j=>i*j) AG:=FH λi j h=>by
 simp only[NO,fS,NZ]at h;exact h
theorem AY:aV K (ipC rY λi j=>i/j) wV:=FH λi j h=>by
 simp only[NO,NZ]at h;exact h
abbrev fK:=zH
theorem za(b:X.calm=M2):cK X (.builtin "sum") (λxs H Q=>∃(a:M3) (ns:List Int),xs=[.ref a]/\SqL X.K H a (ns.map V.int)/\Q (.int ns.sum) H):=qT b
theorem Kl:dy K (λxs H Q=>∃(a:M3) (ns:List Int),xs=[.ref a]/\SqL K H a (ns.map V.int)/\Q (.int ns.sum) H) fK:=MA
def FX(H:Hp)(b l:M3):Prop:=∃(cells:List Int) (i j:Int),H b=on (.lst [.ref l,.int i,.int j])/\H l=on (.lst (cells.map V.int))/\cells≠[]/\cells.length<=64/\(∀c∈cells,0<=c)/\0<=j
theorem IG(h:k<n):ixN n (k:Int)=on k:=by
 unfold ixN;rw[Nf (by omega),Nf (by omega)];simp
theorem MU(ns:List Int):∃a:List Int,iY (ns.map V.int) MY (on 63)=a.map V.int/\a.length<=63:=by
 refine⟨(ns.drop (HT.sIx ns.length 0 MY)).take (HT.sIx ns.length ns.length (on 63)-HT.sIx ns.length 0 MY),?_,?_⟩
 ·unfold iY
  rw[MZ,Ta,Rj]
 ·rw[OQ]
  have:HT.sIx ns.length ns.length (on 63)<=63:=by
   unfold HT.sIx;simp;omega
  omega
def Mc(K:NA):Sp:=λvs H Q _=>∃(a:M3) (ns:List Int),vs=[.ref a]/\SqL K H a (ns.map V.int)/\∀(b l:M3) (c:Hp),H b=MY->H l=MY->FX c b l->bv H c->Q (.ref b) c
def EM(K:NA):Sp:=λvs H Q _=>∃(a:M3) (ns:List Int),vs=[.ref a]/\SqL K H a (ns.map V.int)/\ns.length<=63/\∀b,Q (.bl M2) b
theorem IY(sm:bv H₀ H)(A:H₀ b=MY)(C:H₀ l=MY)(B:FX H b l):∃β,β.ok/\SOk K H₀ (λc=>if c=b\/c=l then on 1 else MY) (on (b,l)) H (MY::on (.sh .bag)::Nx n MY) β (on (.ref a)::on (.ref b)::Nx n MY):=by
 obtain⟨cells,i,j,g,h,p,v,w,y⟩:=B;have m:b≠l:=Mw g h (by
  intro z;cases cells with
  |nil=>exact p rfl
  |cons c r=>simp at z)
 refine⟨⟨cells,i,j⟩,⟨p,v,w,y⟩,⟨⟨λc f=>?_,λt u e=>?_,λt u e=>?_⟩,λt u e=>?_,by simp,λc f=>?_,λc k f=>(by
  have d:(if c=b\/c=l then on 1 else MY)=on (k+2):=f;split at d<;>cases d),λc k f=>(by
  have d:(if c=b\/c=l then on 1 else MY)=on (k+2):=f;split at d<;>cases d),λk s e=>?_⟩⟩
 ·have d:(if c=b\/c=l then on 1 else MY)≠(MY:Option Nat):=f
  split at d
  ·rename_i q
   rcases q with rfl|rfl
   ·rw[g];simp
   ·rw[h];simp
  ·exact NE rfl d
 ·cases e
  refine⟨?_,?_,m⟩
  ·show(if b=b\/b=l then on 1 else MY)≠(MY:Option Nat)
   rw[Nf (.inl rfl)];simp
  ·show(if l=b\/l=l then on 1 else MY)≠(MY:Option Nat)
   rw[Nf (.inr rfl)];simp
 ·cases e
  exact⟨g,h⟩
 ·cases e
  exact⟨Nf (.inl rfl),Nf (.inr rfl)⟩
 ·cases q:H₀ c with
  |none=>exact NE q f
  |some o=>rw[sm c o q];simp
 ·match k with
  |0=>simp at e
  |1=>
   simp at e;subst e;exact⟨.ref b,rfl,b,l,rfl,rfl⟩
  |k+2=>
   simp only[UP,P5]at e;split at e<;>cases e
variable{P:NQ}{w:N0}{mg:NY->Option M7}{base:Ox}
theorem bc{st:OA}{N ps:List NY}(n m:Nat)(g:G)(F:FunD K x qual st f fd)(S:FnScope N ps (ae st))(hn:ps.length=n)(hm:N.length=m)
  (a:∀(b:M7) (A:Oj) (outer:List Ud) (s:Ng) (H:Hp) (E:XK),Room k (A.deeper (Rl qual (ae st) s.heap.objs.size f b))->
   PSs (eM (CXE P w) P w K mg base N qual (ae st) f b A outer s H E) (cc st) (tG K H g (λ_=>E))):FnOk P w K mg base (CXE P w) (k+1) f fd ps (spF K n (cr m g)):=by
 subst hn hm;exact IN F S a
end
end L2.Pu
namespace L2
open PySem PySem.Spec PyProof.Rows
theorem CmpScope.ofB{X:Cx}{scope:Scope}{caps:List Nat}(k:scope.kind= .function)(nd:(scope.names.map (·.1)).Nodup)
  (fr:(scope.names.all λy=>y.2 != .free||(X.env.scope.names.lookup y.1==on .cell||X.env.scope.names.lookup y.1==on .free))=M2) (a:Nc=vars++caps.map (λj=>X.N.getD j QE))
  (b:(caps.all λj=>decide (j<X.N.length)&&scope.names.lookup (X.N.getD j QE)==on .free)=M2):CmpScope X scope Nc vars caps:=by
 refine⟨k,nd,λy c e=>?_,a,λj d=>?_⟩
 ·have:=Qv.mp fr y c
  rw[e]at this;simp only[Qj,Bool.false_or,Bool.or_eq_true,QJ]at this;exact this
 ·have:=Qv.mp b j d
  simp only[NO,NZ,QJ]at this;exact this
end L2
namespace L2.Pu
theorem mr(i j:Int):j4 (.int i) (.int j)=on (.int (i+j)):=rfl
theorem ju(i j:Int):LH (.int i) (.int j)=on (.int (i+j)):=rfl
theorem mh(i j:Int):zJ (.int i) (.int j)=on (.int (i-j)):=rfl
theorem mn(i j:Int):modD (.int i) (.int j)=if decide (0<j)=M2 then on (.int (i % j))else MY:=rfl
theorem pX(i j:Int):ltD (.int i) (.int j)=on (.bl (decide (i<j))):=rfl
theorem pY(i j:Int):leD (.int i) (.int j)=on (.bl (decide (i<=j))):=rfl
theorem pZ(i j:Int):gtD (.int i) (.int j)=on (.bl (decide (j<i))):=rfl
theorem p7(i j:Int):geD (.int i) (.int j)=on (.bl (decide (j<=i))):=rfl
end L2.Pu
namespace L2.Pu
open PySem PySem.Spec
def okD:Nat->D->Prop
 |_,.int _=>True
 |_,.bl _=>True
 |_,.str _=>True
 |_,.non=>True
 |n+1,.lst xs=>xs.length<=Nr/\∀x∈xs,okD n x
 |n+1,.tup xs=>xs.length<=Nr/\∀x∈xs,okD n x
 |_,_=>False
def iI(rec:List D->M D):G:=
  aI (gIf (gv (ax eF (aa (ad 1) (aa (ax bY (aa (fC (.ty "list")) (aa (fC (.ty "tuple")) (ao)))) (ao))))) (aI (gIf (e9 (fB (f2 (dL) (ax cg (aa (ad 1) (aa (fC (.ty "list")) (ao)))) (ax cg (aa (ad 0) (aa (fC (.ty "list")) (ao)))))) (fB (f2 (dL) (ax cg (aa (ad 1) (aa (fC (.ty "tuple")) (ao)))) (ax cg (aa (ad 0) (aa (fC (.ty "tuple")) (ao))))))) (cE (fC (.bl M4))) (gNil))
  (aI (gIf (fB (f2 (dL) (ax cL (aa (ad 0) (ao))) (ax cL (aa (ad 1) (ao))))) (cE (fC (.bl M4))) (gNil))
  (cE (f2 (inD M2) (fC (.bl M4)) (cb 2 [] (ia (aa (ad 0) (aa (ad 1) (ao)))) (tgT (c9 (tgC 0) (c9 (tgC 1) gh))) (λ_=>M.ret M2) (cEm (bJ rec (aa (ad 0) (aa (ad 1) (ao)))))))))) (gNil))
  (aI (gIf (fB (f2 (gu) (ad 1) (fC .non))) (cE (f2 (gu) (ad 0) (fC .non))) (gNil))
  (aI (gIf (e9 (fB (f2 (dL) (ax cg (aa (ad 1) (aa (fC (.ty "str")) (ao)))) (ax cg (aa (ad 0) (aa (fC (.ty "str")) (ao)))))) (fB (f2 (dL) (ax cg (aa (ad 1) (aa (fC (.ty "bool")) (ao)))) (ax cg (aa (ad 0) (aa (fC (.ty "bool")) (ao))))))) (cE (fC (.bl M4))) (gNil))
  (cE (jV (ax eF (aa (ad 0) (aa (ax bY (aa (fC (.ty "int")) (aa (fC (.ty "str")) (ao)))) (ao)))) (f2 (iX) (ad 0) (ad 1))))))
def eE:Nat->List D->M D
 |0=>λ_=>M.fail
 |n+1=>cr 2 (iI (eE n))
theorem fm:(0:Nat)+1+1<=Nr:=by decide
theorem eP:(2:Nat)<=Nr:=by decide
theorem nF:∀xs:List D,(∀x∈xs,rec [x,x] β=on (.ok (.bl M2),β))->
  cLp (tgT (c9 (tgC 0) (c9 (tgC 1) gh))) (λ_=>M.ret M2) (cEm (bJ rec (aa (ad 0) (aa (ad 1) (ao))))) (c5 xs xs) [MY,MY] β=on (.ok (Nx xs.length (.bl M2)),β)
 |[],_=>rfl
 |x::xs,h=>by
  have ih:=nF xs λy a=>h y (M5 _ a);have b:=h x Nb;unfold c5 cLp;simp only[tgT,c9,gh,tgC,cEm,Option.isNone_none,Option.isNone_some,OD,Pd,Pc,Pw,Pt,N4,bJ,aa,ao,ad,M.bind,M.ret,M.ofO,b,ih,reduceIte];rfl
theorem ux(n:Nat):(Nx n (D.bl M2)).all dn=M2:=by
 induction n with
 |zero=>rfl
 |succ n ih=>rw[NX,Sg,ih];rfl
theorem vn(n:Nat):inB (.bl M4) (Nx n (D.bl M2))=M4:=by
 unfold inB
 induction n with
 |zero=>rfl
 |succ n ih=>rw[NX,Ri,ih];rfl
theorem pC:∀(n:Nat) (d:D) (β:Bg),okD n d->eE (n+1) [d,d] β=on (.ok (.bl M2),β)
 |n,.int i,β,_=>by
  unfold eE cr iI;simp only[aI,eL,l5,e8,cE,gIf,Pu.gNil,iW,pU,iU,pT,jr,pR,hNo,ad,fC,f1,f2,ao,aa,ax,bJ,fB,gv,me,e9,gH,jV,fOr,pW,fIf,ef,bV,bG,ia,ma,lX,lW,M.bind,M.ret,M.ofO,M.fail,vw,vwA,stD,Nl,OZ,Pd,Pc,Pw,Pt,Nm,Pq,P4,NX,NV,OM,OF,Px,Nat.reduceSub,Nat.reduceAdd,Nat.reduceLT,Nat.reduceLeDiff,Int.reduceLT,Int.reduceLE,mr,ju,mh,mn,pX,pY,pZ,p7,jX,jW,mq,ml,mo,mj,Py,asB,jD,gu,lS,isN,m8,bY,bT,sgT,kx,kz,sgN,Ol,OD,QI,cL,qe,cg,eF,tyD,iT,iS,N4,N3,reduceIte,OI,PF,Q9,QK,Np,eP,fm]
 |n,.bl i,β,_=>by
  unfold eE cr iI;simp only[aI,eL,l5,e8,cE,gIf,Pu.gNil,iW,pU,iU,pT,jr,pR,hNo,ad,fC,f1,f2,ao,aa,ax,bJ,fB,gv,me,e9,gH,jV,fOr,pW,fIf,ef,bV,bG,ia,ma,lX,lW,M.bind,M.ret,M.ofO,M.fail,vw,vwA,stD,Nl,OZ,Pd,Pc,Pw,Pt,Nm,Pq,P4,NX,NV,OM,OF,Px,Nat.reduceSub,Nat.reduceAdd,Nat.reduceLT,Nat.reduceLeDiff,Int.reduceLT,Int.reduceLE,mr,ju,mh,mn,pX,pY,pZ,p7,jX,jW,mq,ml,mo,mj,Py,asB,jD,gu,lS,isN,m8,bY,bT,sgT,kx,kz,sgN,Ol,OD,QI,cL,qe,cg,eF,tyD,iT,iS,N4,N3,reduceIte,OI,PF,Q9,QK,Np,eP,fm]
 |n,.str i,β,_=>by
  unfold eE cr iI;simp only[aI,eL,l5,e8,cE,gIf,Pu.gNil,iW,pU,iU,pT,jr,pR,hNo,ad,fC,f1,f2,ao,aa,ax,bJ,fB,gv,me,e9,gH,jV,fOr,pW,fIf,ef,bV,bG,ia,ma,lX,lW,M.bind,M.ret,M.ofO,M.fail,vw,vwA,stD,Nl,OZ,Pd,Pc,Pw,Pt,Nm,Pq,P4,NX,NV,OM,OF,Px,Nat.reduceSub,Nat.reduceAdd,Nat.reduceLT,Nat.reduceLeDiff,Int.reduceLT,Int.reduceLE,mr,ju,mh,mn,pX,pY,pZ,p7,jX,jW,mq,ml,mo,mj,Py,asB,jD,gu,lS,isN,m8,bY,bT,sgT,kx,kz,sgN,Ol,OD,QI,cL,qe,cg,eF,tyD,iT,iS,N4,N3,reduceIte,OI,PF,Q9,QK,Np,eP,fm]
 |n,.non,β,_=>by
  unfold eE cr iI;simp only[aI,eL,l5,e8,cE,gIf,Pu.gNil,iW,pU,iU,pT,jr,pR,hNo,ad,fC,f1,f2,ao,aa,ax,bJ,fB,gv,me,e9,gH,jV,fOr,pW,fIf,ef,bV,bG,ia,ma,lX,lW,M.bind,M.ret,M.ofO,M.fail,vw,vwA,stD,Nl,OZ,Pd,Pc,Pw,Pt,Nm,Pq,P4,NX,NV,OM,OF,Px,Nat.reduceSub,Nat.reduceAdd,Nat.reduceLT,Nat.reduceLeDiff,Int.reduceLT,Int.reduceLE,mr,ju,mh,mn,pX,pY,pZ,p7,jX,jW,mq,ml,mo,mj,Py,asB,jD,gu,lS,isN,m8,bY,bT,sgT,kx,kz,sgN,Ol,OD,QI,cL,qe,cg,eF,tyD,iT,iS,N4,N3,reduceIte,OI,PF,Q9,QK,Np,eP,fm]
 |n+1,.lst xs,β,h=>by
  have h':xs.length<=Nr/\∀x∈xs,okD n x:=h;have c:=nF (rec:=eE (n+1)) (β:=β) xs λx a=>pC n x β (h'.2 x a);have b:(Nx xs.length (D.bl M2)).length<=Nr:=by rw[ON];exact h'.1
  unfold eE cr iI;simp only[aI,eL,l5,e8,cE,gIf,Pu.gNil,iW,pU,iU,pT,jr,pR,hNo,ad,fC,f1,f2,ao,aa,ax,bJ,fB,gv,me,e9,gH,jV,fOr,pW,fIf,ef,bV,bG,ia,ma,lX,lW,M.bind,M.ret,M.ofO,M.fail,vw,vwA,stD,Nl,OZ,Pd,Pc,Pw,Pt,Nm,Pq,P4,NX,NV,OM,OF,Px,Nat.reduceSub,Nat.reduceAdd,Nat.reduceLT,Nat.reduceLeDiff,Int.reduceLT,Int.reduceLE,mr,ju,mh,mn,pX,pY,pZ,p7,jX,jW,mq,ml,mo,mj,Py,asB,jD,gu,lS,isN,m8,bY,bT,sgT,kx,kz,sgN,Ol,OD,QI,cL,qe,cg,eF,tyD,iT,iS,N4,N3,reduceIte,OI,PF,Q9,QK,Np,eP,fm,cb,se,dF,cSt,c,b,inD,ux,vn,dn,Rf]
 |n+1,.tup xs,β,h=>by
  have h':xs.length<=Nr/\∀x∈xs,okD n x:=h;have c:=nF (rec:=eE (n+1)) (β:=β) xs λx a=>pC n x β (h'.2 x a);have b:(Nx xs.length (D.bl M2)).length<=Nr:=by rw[ON];exact h'.1
  unfold eE cr iI;simp only[aI,eL,l5,e8,cE,gIf,Pu.gNil,iW,pU,iU,pT,jr,pR,hNo,ad,fC,f1,f2,ao,aa,ax,bJ,fB,gv,me,e9,gH,jV,fOr,pW,fIf,ef,bV,bG,ia,ma,lX,lW,M.bind,M.ret,M.ofO,M.fail,vw,vwA,stD,Nl,OZ,Pd,Pc,Pw,Pt,Nm,Pq,P4,NX,NV,OM,OF,Px,Nat.reduceSub,Nat.reduceAdd,Nat.reduceLT,Nat.reduceLeDiff,Int.reduceLT,Int.reduceLE,mr,ju,mh,mn,pX,pY,pZ,p7,jX,jW,mq,ml,mo,mj,Py,asB,jD,gu,lS,isN,m8,bY,bT,sgT,kx,kz,sgN,Ol,OD,QI,cL,qe,cg,eF,tyD,iT,iS,N4,N3,reduceIte,OI,PF,Q9,QK,Np,eP,fm,cb,se,dF,cSt,c,b,inD,ux,vn,dn,Rf]
 |0,.lst _,_,h=>h.elim
 |0,.tup _,_,h=>h.elim
 |_,.ty _,_,h=>by cases ‹Nat›<;>exact h.elim
 |_,.txt,_,h=>by cases ‹Nat›<;>exact h.elim
 |_,.scr _,_,h=>by cases ‹Nat›<;>exact h.elim
 |0,.obj _ _ _,_,h=>h.elim
 |_+1,.obj _ _ _,_,h=>h.elim
 |_,.bag,_,h=>by cases ‹Nat›<;>exact h.elim
 |0,.adr _,_,h=>h.elim
 |_+1,.adr _,_,h=>h.elim
 |0,.dct _ _ _,_,h=>h.elim
 |_+1,.dct _ _ _,_,h=>h.elim
theorem qa{ds os:List D}(a:it δ β=on (.ok ds,β1))(c:cLp tg tt b ds (cSt nv caps δ) β1=on (.ok os,β2))(d:os.length<=Nr):cb nv caps it tg tt b δ β=on (.ok (.lst os),β2):=by
 unfold cb;simp only[a,c,d,N4]
end L2.Pu
namespace L2.Pu
open PySem PySem.Spec PyProof.Rows
section
variable{X:Cx}{E:St->XK}{K:NA}{a b:Expr}{es:List Expr}{pos:RN}
theorem To.none(t:To F H H1 β1)(h:H1 p=MY):H p=MY:=by
 cases q:H p with
 |none=>rfl
 |some o=>
  have:H1 p=on o:=t.kp p o q λb l e=>by
   obtain⟨c,d⟩:=t.fr.bag b l e;exact⟨λw=>(by subst w;rw[c]at h;cases h),λw=>(by subst w;rw[d]at h;cases h)⟩
  rw[this]at h;cases h
noncomputable def Fx.but(F:Fx)(a:M3):Fx:=⟨λc=>F.A c\/c=a,F.bg⟩
theorem Fx.tr_but{F:Fx}(fr:Fr F H β1)(d:H p=MY)(hs:∀c o,H c=on o->H1 c=on o):Tr F H (F.but p) H1:=⟨λc e f z=>by
 rcases z with z|z
 ·exact e z
 ·subst z;exact f d,λc o _ h=>hs c o h,rfl⟩
theorem Fx.tr_of{F:Fx}:Tr (F.but p) H F H:=⟨λc h _ z=>h (Po z),λ_ _ _ h=>h,rfl⟩
def lz(K:NA)(F:Fx)(H0 H:Hp)(ds:List D)(v:V):Prop:=∃a xs,v= .ref a/\H0 a=MY/\H a=on (.lst xs)/\DenL K (F.but a) H ds xs
def tVO(K:NA)(f:FL)(E:St->XK):TE:=λc H Q=>∃F δ β,Fr F H β/\VOk K F H δ c/\run (lz K F H) F E c (f δ) H Q β
def tVG(K:NA)(f:Dn->M (List (List D)))(E:St->XK):TE:=λc H Q=>∃F δ β,Fr F H β/\VOk K F H δ c/\run (gc K F H) F E c (f δ) H Q β
noncomputable def szL(ds:List D):Option (List D):=if ds.length<=Nr then on ds else MY
theorem lz.new(t:To F H H1 β1)(d:H1 p=MY)(hd:DenL K F H1 ds xs):lz K F H (upd H1 p (.lst xs)) ds (.ref p):=
 ⟨p,xs,rfl,t.none d,ah,DenL.tr (Fx.tr_but t.fr d λc o h=>by rw[upd_ne (aw h d)];exact h) _ _ hd⟩
theorem DenL.rep(h:DenL K F H ds xs):∀n:Nat,DenL K F H (Nx n ds).flatten (Nx n xs).flatten
 |0=>rfl
 |n+1=>by
  rw[NX,PU,NX,PU];exact DenL.append h (DenL.rep h n)
noncomputable def sT(ds:List D)(d:D):Option (List D):=match d with
 | .int k=>if(decide (-(2^63)<=k)&&decide (k<2^63)&&decide (ds.length<=Nr)&&decide (ds.length*k.toNat<=Nr))=M2 then on (Nx k.toNat ds).flatten else MY
 |_=>MY
def AB(g:FL)(f:FD):FL:=λδ=>M.bind (g δ) λds=>M.bind (M.ofO (szL ds)) λds=>M.bind (f δ) λd=>M.ofO (sT ds d)
theorem Mt(ha:PA X es (tVA X.K g E))(O:PE X b (tV X.K f E)):PE X (.BinOp (.List es pos') .Mult b pos) (tVO X.K (AB g f) E):=
 (dj JY (fW ha) O).imp λT H Q j=>ex6 j λF δ β fr B r=>⟨F,δ,β,fr,B,(run.bind (R:=DenL X.K F) r).mono λvs U j=>by
  obtain⟨ds,β1,t,hd,r1⟩:=j;obtain⟨W,n,Y⟩:=run.ofO_bind r1;unfold szL at n;split at n
  ·rename_i Z
   cases n;refine⟨by rw[←hd.length];exact Z,λp I=>?_⟩;have m:=t.fr.upd (.lst vs) I;have J:=t.fr.fresh I;refine⟨F,δ,β1,m.fr,(B.tr (t.tr fr)).tr (m.tr t.fr),?_⟩;obtain⟨L,β2,e,h⟩:=Y;have u:run (lz X.K F H) F E T (M.bind (f δ) λd=>M.ofO (sT ds d)) (upd U p (.lst vs)) Q β1:=by
    refine⟨L,β2,e,?_⟩;cases L with
    |ok d=>exact λv y c=>h v y (m.trans c)
    |error C=>exact λy c=>h y (m.trans c)
   refine(run.bind (R:=Den X.K F) u).mono λw H2 j=>ex5 j λd β3 c hw r3=>?_;obtain⟨os,i,k⟩:=run.ofO r3;unfold sT at i;split at i
   ·split at i
    ·rename_i kk o
     cases i;simp only[NO,NZ]at o;cases hw;have A:H2 p=on (.lst vs):=c.kp p _ ah λb l q=>⟨λz=>J (z▸(fr.bgA b l q).1),λz=>J (z▸(fr.bgA b l q).2.1)⟩;have tt:=m.trans c;exact⟨p,_,vs,rfl,rfl,A,o.1.1.1,o.1.1.2,by rw[←hd.length];exact o.2,λq N=>k _ _ (c.fr.upd _ N) (lz.new (t.trans tt) N ((DenL.tr (tt.tr t.fr) _ _ hd).rep _))⟩
    ·cases i
   ·cases i
  ·cases n⟩
def f8(nv:Nat)(caps:List Nat)(it:Dn->M (List Pu.D))(tg:TgF)(tt:Dn->M Bool)(b:Dn->M (List Pu.D)):Dn->M (List Pu.D):=λδ β=>match it δ β with
 |none=>MY
 |some (.error C,β1)=>on (.error C,β1)
 |some (.ok ds,β1)=>match cLp tg tt b ds (cSt nv caps δ) β1 with
  |some (.ok os,β2)=>if os.length<=Nr then on (.ok os,β2)else MY
  |_=>MY
theorem xB{vars:List NY}{caps:List Nat}{it:Dn->M (List Pu.D)}{g:TG}{tg:TgF}{tt:Dn->M Bool}{I:M3->TB}{b:Dn->M (List Pu.D)}(U:cf K g tg)(W:de tg)(Y:∀D,iO K D (I D) b){L:St}{H:Hp}{Q:VK}(h:tVO K (f8 vars.length caps it tg tt b) E L H Q):
  nU vars caps (iV K it E) (λD J=>cJ J g (tVT K tt E0) (I D)) L H Q:=by
 obtain⟨F,δ,β,fr,N,r,k,e,h⟩:=h;unfold f8 at e;refine⟨F,δ,β,fr,N,?_⟩;split at e
 ·cases e
 ·rename_i C β1 q
  cases e;exact⟨.error C,_,q,h⟩
 ·rename_i ds β1 q
  split at e
  ·rename_i os β2 q2
   split at e
   ·rename_i Z
    cases e;refine⟨.ok ds,β1,q,λJ j t hJ D c=>?_⟩;have d:¬F.A D:=t.fr.fresh c;have nb:∀b l,F.bg=on (b,l)->D≠b/\D≠l:=λb l z=>⟨λw=>d (w▸(fr.bgA b l z).1),λw=>d (w▸(fr.bgA b l z).2.1)⟩;have O:=t.fr.upd (.lst []) c;have m:Fr ⟨λa=>F.A a\/a=D,F.bg⟩ (upd j D (.lst [])) β1:=by
     refine⟨λa ha z=>?_,λb l z=>let ⟨x,y,w⟩:=fr.bgA b l z;⟨.inl x,.inl y,w⟩,O.fr.bag⟩
     rcases ha with ha|ha
     ·exact O.fr.occ a ha z
     ·subst ha;rw[ah]at z;cases z
    have f:Tr F j ⟨λa=>F.A a\/a=D,F.bg⟩ (upd j D (.lst [])):=⟨λa ha hs z=>by
     rcases z with z|z
     ·exact ha z
     ·subst z;exact hs c,λa o ha z=>by rw[upd_ne (aw z c)];exact z,rfl⟩
    refine lU (R:=RL K) (D:=D) (as:=[]) (os:=os) U W (Y D) m (.inr rfl) nb (o9 (N.tr ((t.tr fr).trans f))) ⟨[],ah,rfl⟩ (hJ.tr f) q2 (show os.length<=Nr from Z) λσ1 T p vk3 u=>?_;obtain⟨i,v,B⟩:=u;have tf:To F j T k:=by
     refine⟨λa o z n=>p.kp a o (by rw[upd_ne (aw z c)];exact z) (aw z c) n,λa ha z=>p.fr.occ a (Po ha) z,fr.bgA,p.fr.bag⟩
    exact h _ T (t.trans tf) ⟨D,i,rfl,t.none c,v,B⟩
   ·cases e
  ·cases e
def nG(tg:TgF)(tt:Dn->M Bool)(b:Dn->M (List (List Pu.D))):List Pu.D->Dn->M (List (List Pu.D))
 |[],_=>M.ret []
 |d::ds,δ=>match tg d δ with
  |none=>M.fail
  |some δ1=>M.bind (tt δ1) λc=>M.bind (if c=M2 then b δ1 else M.ret []) λo=>M.bind (nG tg tt b ds δ) λos=>M.ret (o++os)
def RwA(K:NA)(F:Fx)(D:M3)(H0 H:Hp)(as:List (List Pu.D))(acc:List V):Prop:=(∀c,H0 c≠MY->H c≠MY)/\∃rs,acc=rs.map V.ref/\(D::rs).Nodup/\RowL K F H (λr=>H0 r=MY) as rs
theorem RwA.mono{F:Fx}{D:M3}(g:F.A D)(i:∀b l,F.bg=on (b,l)->H0 b≠MY/\H0 l≠MY)(fr:Fr F H β)(t:ToD F D H H1 β1)(h:RwA K F D H0 H as acc):RwA K F D H0 H1 as acc:=by
 obtain⟨cv,rs,e,nd,j⟩:=h;refine⟨λc k z=>?_,rs,e,nd,RowL.tr (t.tr fr g) j λr xs m p q=>⟨p,t.kp r _ q (λz=>?_) λb l w=>⟨λz=>?_,λz=>?_⟩⟩⟩
 ·cases q:H c with
  |none=>exact cv c k q
  |some o=>
   by_cases hd:c=D
   ·subst hd;exact t.fr.occ _ g z
   ·by_cases d:∃b l,F.bg=on (b,l)/\(c=b\/c=l)
    ·obtain⟨b,l,w,f⟩:=d
     rcases f with rfl|rfl
     ·exact t.fr.occ _ (fr.bgA _ _ w).1 z
     ·exact t.fr.occ _ (fr.bgA _ _ w).2.1 z
    ·rw[t.kp c o q hd λb l w=>⟨λy=>d ⟨b,l,w,.inl y⟩,λy=>d ⟨b,l,w,.inr y⟩⟩]at z
     cases z
 ·subst z;exact(Ob.mp nd).1 m
 ·subst z;exact(i _ _ w).1 p
 ·subst z;exact(i _ _ w).2 p
def ph(K:NA)(D:M3)(i:TB)(f:Dn->M (List (List Pu.D))):Prop:=∀(F:Fx) (H0 H:Hp) (δ:Dn) (β d:Bg) (h:St) (acc:List V) (as os:List (List Pu.D)) (Q:St->Hp->Prop),Fr F H β->F.A D->(∀b l,F.bg=on (b,l)->D≠b/\D≠l)->(∀b l,F.bg=on (b,l)->H0 b≠MY/\H0 l≠MY)->VOk K F H δ h->H D=on (.lst acc)->RwA K F D H0 H as acc->
 f δ β=on (.ok os,d)->as.length+os.length<=Nr->(∀e g c,ToD F D H g d->VOk K F g δ e->g D=on (.lst c)->RwA K F D H0 g (as++os) c->Q e g)->i h H Q
def uu(f:Dn->M (List Pu.D)):Dn->M (List (List Pu.D)):=λδ=>M.bind (f δ) λd=>M.ret [d]
theorem RowL.snoc{P:M3->Prop}(p:P r)(c:H r=on (.lst xs))(d:DenL K F H ds xs):∀{rows:List (List Pu.D)} {rs:List M3},RowL K F H P rows rs->RowL K F H P (rows++[ds]) (rs++[r])
 |[],[],_=>⟨p,⟨xs,c,d⟩,trivial⟩
 |_::_,_::_,h=>⟨h.1,h.2.1,RowL.snoc p c d h.2.2⟩
 |[],_::_,h=>h.elim
 |_::_,[],h=>h.elim
theorem vd{D:M3}:ph K D (w9 D (tVO K f E0)) (uu f):=λF H0 H δ β j σ acc as os Q fr m p T U W hd e hz k=>by
 obtain⟨d,β1,e1,e2⟩:=M.bind_inv e;cases e2;refine⟨F,δ,β,fr,U,E0.run e1 λv Y t hv=>?_⟩;have u:=t.kp D _ W p;have A:=hd.mono m T fr (t.toD D);obtain⟨r,xs,rfl,g,n1,n2⟩:=hv;obtain⟨cv,rs,B,nd,Z⟩:=A;obtain⟨C,c,I,J,L⟩:=hd;have i:acc.length=as.length:=by rw[B,MZ,Z.len]
 have N:c=rs:=by
  have:c.map V.ref=rs.map V.ref:=I.symm.trans B;exact Tg (λa b q=>by cases q;rfl)|>.mp this
 subst N;have nD:r≠D:=λz=>by subst z;rw[W]at g;cases g
 have nr:r∉c:=λz=>by
  obtain⟨_,ys,q⟩:=L.all r z;rw[q]at g;cases g
 have O:H0 r=MY:=by
  cases q:H0 r with
  |none=>rfl
  |some o=>exact NE g (C r (by rw[q];simp))
 refine⟨acc,u,by rw[i];simp at hz;omega,?_⟩;have R:ToD F D Y (upd Y D (.lst (acc++[.ref r]))) j:=by
  refine⟨λa o h n _=>by rw[upd_ne n];exact h,λa h q=>?_,fr.bgA,λb l q=>?_⟩
  ·by_cases z:a=D
   ·subst z;rw[ah]at q;cases q
   ·rw[upd_ne z]at q;exact t.fr.occ a h q
  ·rw[upd_ne (p b l q).1.symm,upd_ne (p b l q).2.symm]
   exact t.fr.bag b l q
 have tt:=R.tr t.fr m;refine k σ _ _ ((t.toD D).trans R) (U.tr ((t.tr fr).trans tt)) ah (RwA.mono m T t.fr R ⟨cv,c++[r],by rw[B,NR];rfl,?_,RowL.snoc O n1 (DenL.tr Fx.tr_of _ _ n2) Z⟩);rw[←OM,Tz];refine⟨J,by simp,λx hx y hy=>?_⟩;obtain rfl:y=r:=by simpa using hy
 rcases Nq.mp hx with rfl|hx
 ·exact nD.symm
 ·exact λz=>nr (z▸hx)
end
section
variable{X:Cx}{E:St->XK}{K:NA}
theorem Iy{D:M3}(hg:cf K g tg)(sg:de tg)(hb:ph K D tb b){F:Fx}{as os:List (List Pu.D)}(fr:Fr F H β)(Z:F.A D)(hn:∀b l,F.bg=on (b,l)->D≠b/\D≠l)(h0:∀b l,F.bg=on (b,l)->H0 b≠MY/\H0 l≠MY)(vk:VOk K F H δ σ)(hD:H D=on (.lst acc))(hd:RwA K F D H0 H as acc)
  (it:ItD K J F H ds) (e:nG tg tt b ds δ β=on (.ok os,β')) (hz:as.length+os.length<=Nr) (k:∀f n a,ToD F D H n β'->VOk K F n δ f->n D=on (.lst a)->RwA K F D H0 n (as++os) a->Q f n):cJ J g (tVT K tt E0) tb σ H Q:=by
 refine⟨λi m f n=>m+i=ds.length/\∃β1 a j t,ToD F D H n β1/\VOk K F n δ f/\n D=on (.lst a)/\RwA K F D H0 n j a/\nG tg tt b (ds.drop i) δ β1=on (.ok t,β')/\j++t=as++os,
  ⟨ds.length,by omega,β,acc,as,os,⟨λ_ _ h _ _=>h,fr⟩,vk,hD,hd,e,rfl⟩,?_⟩
 rintro i m f n ⟨hm,β1,a,j,t,u,B,C,I,r,ea⟩;have tr1:=u.tr fr Z;obtain⟨iy,is⟩:=it F n β1 tr1 u.fr i;cases hi:ds[i]? with
 |none=>
  have hl:ds.length<=i:=R4.mp hi;rw[P9 hl]at r;cases r;refine .inl ⟨is (by omega),k f n a u B C ?_⟩;rw[←ea,NV];exact I
 |some d=>
  have hl:i<ds.length:=(Nj.mp hi).1;obtain⟨go,yl⟩:=iy d hi;have ed:ds.drop i=d::ds.drop (i+1):=by
   rw[Ot hl];congr 1;exact NN ((M6 hl).symm.trans hi)
  rw[ed]at r;unfold nG at r;cases q:tg d δ with
  |none=>rw[q]at r;cases r
  |some δ1=>
   rw[q]at r;obtain⟨c,β2,e2,e3⟩:=M.bind_inv r;obtain⟨o,β3,e4,e5⟩:=M.bind_inv e3;obtain⟨L,β4,e6,e7⟩:=M.bind_inv e5;cases e7;obtain⟨s1,s2⟩:=sg _ _ _ q;refine .inr ⟨go,λN O=>∃p,ToD F D H O β3/\VOk K F O δ N/\O D=on (.lst p)/\RwA K F D H0 O (j++o) p,?_,λx H2 hy=>?_⟩
   ·rintro N O ⟨p,t9,vk9,hD9,hd9⟩
    exact⟨m-1,by omega,by omega,β3,p,j++o,L,t9,vk9,hD9,hd9,e6,by rw[Oy];exact ea⟩
   ·obtain⟨sm,dx⟩:=yl x H2 hy
    have y:To F n H2 β1:=u.fr.same sm;have tr2:=y.tr u.fr;refine hg F H2 δ δ1 f d x _ (B.tr tr2) dx q λσ2 v=>⟨F,δ1,β1,y.fr,v,E0.run e2 λc' H3 R ec=>?_⟩;subst ec;have hD2:=sm _ _ C;have T:=R.kp D _ hD2 hn;have U:=R.tr y.fr;have d3:=(I.mono Z h0 u.fr (y.toD D)).mono Z h0 y.fr (R.toD D);have W:ToD F D H H3 β2:=u.trans ((y.trans R).toD D);have hle:j.length+(o++L).length<=Nr:=by
     have:=Oi Rt ea;simp only[Ny]at this⊢;omega
    cases c' with
    |true=>
     rw[Nf rfl]at e4⊢;refine hb F H0 H3 δ1 β2 β3 σ2 a j o _ R.fr Z hn h0 (v.tr U) T d3 e4 (by rw[Ny]at hle;omega) λσ4 H4 Y t4 vk4 hD4 hd4=>?_;exact⟨Y,W.trans t4,vk4.sub s1 s2,hD4,hd4⟩
    |false=>
     rw[M8 Ni]at e4⊢;cases e4;exact⟨a,W,(v.tr U).sub s1 s2,T,by rw[NV];exact d3⟩
def ie(nv:Nat)(caps:List Nat)(it:Dn->M (List Pu.D))(tg:TgF)(tt:Dn->M Bool)(b:Dn->M (List (List Pu.D))):Dn->M (List (List Pu.D)):=λδ β=>match it δ β with
 |none=>MY
 |some (.error C,β1)=>on (.error C,β1)
 |some (.ok ds,β1)=>match nG tg tt b ds (cSt nv caps δ) β1 with
  |some (.ok os,β2)=>if os.length<=Nr then on (.ok os,β2)else MY
  |_=>MY
theorem qq{vars:List NY}{caps:List Nat}{it:Dn->M (List Pu.D)}{g:TG}{tg:TgF}{tt:Dn->M Bool}{I:M3->TB}{b:Dn->M (List (List Pu.D))}(U:cf K g tg)(W:de tg)(Y:∀D,ph K D (I D) b){L:St}{H:Hp}{Q:VK}(h:tVG K (ie vars.length caps it tg tt b) E L H Q):
  nU vars caps (iV K it E) (λD J=>cJ J g (tVT K tt E0) (I D)) L H Q:=by
 obtain⟨F,δ,β,fr,N,r,k,e,h⟩:=h;unfold ie at e;refine⟨F,δ,β,fr,N,?_⟩;split at e
 ·cases e
 ·rename_i C β1 q
  cases e;exact⟨.error C,_,q,h⟩
 ·rename_i ds β1 q
  split at e
  ·rename_i os β2 q2
   split at e
   ·rename_i Z
    cases e;refine⟨.ok ds,β1,q,λJ f t hJ D d=>?_⟩;have i:¬F.A D:=t.fr.fresh d;have nb:∀b l,F.bg=on (b,l)->D≠b/\D≠l:=λb l z=>⟨λw=>i (w▸(fr.bgA b l z).1),λw=>i (w▸(fr.bgA b l z).2.1)⟩;have O:=t.fr.upd (.lst []) d;have m:Fr ⟨λa=>F.A a\/a=D,F.bg⟩ (upd f D (.lst [])) β1:=by
     refine⟨λa ha z=>?_,λb l z=>let ⟨x,y,w⟩:=fr.bgA b l z;⟨.inl x,.inl y,w⟩,O.fr.bag⟩
     rcases ha with ha|ha
     ·exact O.fr.occ a ha z
     ·subst ha;rw[ah]at z;cases z
    have j:Tr F f ⟨λa=>F.A a\/a=D,F.bg⟩ (upd f D (.lst [])):=⟨λa ha hs z=>by
     rcases z with z|z
     ·exact ha z
     ·subst z;exact hs d,λa o ha z=>by rw[upd_ne (aw z d)];exact z,rfl⟩
    have cv:∀c,H c≠MY->upd f D (.lst []) c≠MY:=λc hc z=>by
     by_cases w:c=D
     ·subst w;rw[ah]at z;cases z
     ·rw[upd_ne w]at z;exact hc (t.none z)
    refine Iy (D:=D) (H0:=H) (as:=[]) (os:=os) U W (Y D) m (.inr rfl) nb (λb l z=>⟨fr.occ _ (fr.bgA b l z).1,fr.occ _ (fr.bgA b l z).2.1⟩) (o9 (N.tr ((t.tr fr).trans j))) ah ⟨cv,[],rfl,by simp,trivial⟩ (hJ.tr j) q2 (by simpa using Z) λσ1 R T u vk3 v B=>?_;have tf:To F f R k:=by
     refine⟨λa o z n=>u.kp a o (by rw[upd_ne (aw z d)];exact z) (aw z d) n,λa ha z=>u.fr.occ a (Po ha) z,fr.bgA,u.fr.bag⟩
    obtain⟨_,rs,ea,nd,rl⟩:=B;subst ea;exact h _ R (t.trans tf) ⟨D,rs,rfl,t.none d,v,nd,RowL.tr (F:=⟨λa=>F.A a\/a=D,F.bg⟩) ⟨λa ha _ z=>ha (Po z),λa o _ z=>z,rfl⟩ rl λr xs _ p q=>⟨p,q⟩⟩
   ·cases e
  ·cases e
section
variable{elt target iter:Expr}{ifs:List Expr}{rest:List OT}{scope:Scope}{pos:RN}{Nc vars:List NY}{caps:List Nat}{g:TG}{tb:M3->TB}
theorem J6(c:X.calm=M2)(S:CmpScope X scope Nc vars caps)(d:PI X target iter (iV X.K it E))
  (e:∀(cl:List (NY×M3)) (C:M3) (a:List M3) (s:Ng) (H:Hp),PG (aB X Nc scope cl C a s H) target g/\dh (aB X Nc scope cl C a s H) ifs (tVT X.K tt E0)/\∀D,PB (aB X Nc scope cl C a s H) elt (⟨target,iter,ifs,0⟩::rest) scope pos 0 D (tb D))
  (f:cf X.K g tg) (i:de tg) (j:∀D,iO X.K D (tb D) b) (hs:∀x,N5 iter X.env x=Pn x:=by intro _;rfl):PE X (.ListComp elt (⟨target,iter,ifs,0⟩::rest) scope pos) (tVO X.K (f8 vars.length caps it tg tt b) E):=
 (lN c S d e hs).imp λk H Q h=>xB f i j h
theorem Kw(c:X.calm=M2)(S:CmpScope X scope Nc vars caps)(d:PI X target iter (iV X.K it E))
  (e:∀(cl:List (NY×M3)) (C:M3) (a:List M3) (s:Ng) (H:Hp),PG (aB X Nc scope cl C a s H) target g/\dh (aB X Nc scope cl C a s H) ifs (tVT X.K tt E0)/\∀D,PB (aB X Nc scope cl C a s H) elt (⟨target,iter,ifs,0⟩::rest) scope pos 0 D (tb D))
  (f:cf X.K g tg) (i:de tg) (j:∀D,ph X.K D (tb D) b) (hs:∀x,N5 iter X.env x=Pn x:=by intro _;rfl):PE X (.ListComp elt (⟨target,iter,ifs,0⟩::rest) scope pos) (tVG X.K (ie vars.length caps it tg tt b) E):=
 (lN c S d e hs).imp λk H Q h=>qq f i j h
end
mutual
noncomputable def noL:D->Bool
 | .int _=>M2
 | .bl _=>M2
 | .str _=>M2
 | .non=>M2
 | .tup ds=>noLs ds
 |_=>M4
noncomputable def noLs:List D->Bool
 |[]=>M2
 |d::ds=>noL d&&noLs ds
end
mutual
theorem va{F b:Fx}(hF:∀c,b.A c->F.A c\/OwO H c):∀(d:D) (v:V),noL d=M2->Den K F H d v->Den K b H d v
 | .int i,v,_,h=>h
 | .bl i,v,_,h=>h
 | .str i,v,_,h=>h
 | .non,v,_,h=>h
 | .tup ds,v,n,h=>by
  obtain⟨a,xs,e,h1,f⟩:=h;refine⟨a,xs,e,?_,noLs_den hF ds xs (by simpa[noL]using n) f⟩;rcases h1 with⟨h1,r⟩|h1
  ·refine .inl ⟨λz=>?_,r⟩
   rcases hF a z with z|⟨ys,z⟩|⟨ys,z⟩
   ·exact h1 z
   ·rcases r with r|⟨o,r⟩<;>rw[z]at r<;>cases r
   ·rcases r with r|⟨o,r⟩<;>rw[z]at r<;>cases r
  ·exact .inr h1
 | .lst _,_,n,_=>by simp[noL]at n
 | .scr _,_,n,_=>by simp[noL]at n
 | .ty _,_,n,_=>by simp[noL]at n
 | .txt,_,n,_=>by simp[noL]at n
 | .obj _ _ _,_,n,_=>by simp[noL]at n
 | .bag,_,n,_=>by simp[noL]at n
 | .adr _,_,n,_=>by simp[noL]at n
 | .dct _ _ _,_,n,_=>by simp[noL]at n
theorem noLs_den{F a:Fx}(hF:∀c,a.A c->F.A c\/OwO H c):∀(ds:List D) (xs:List V),noLs ds=M2->DenL K F H ds xs->DenL K a H ds xs
 |[],xs,_,h=>h
 |d::ds,xs,n,h=>by
  have b:noL d=M2/\noLs ds=M2:=by simpa[noLs]using n
  obtain⟨x,f,e,g,i⟩:=h;exact⟨x,f,e,va hF d x b.1 g,noLs_den hF ds f b.2 i⟩
end
theorem RowL.noL{F b:Fx}{P d:M3->Prop}(hF:∀c,b.A c->F.A c\/OwO H c):∀{rows:List (List D)} {rs:List M3},(∀ds∈rows,noLs ds=M2)->RowL K F H P rows rs->(∀r∈rs,d r)->RowL K b H d rows rs
 |[],[],_,_,_=>trivial
 |ds::rows,r::rs,n,h,p=>by
  obtain⟨i,⟨xs,e,f⟩,g⟩:=h;exact⟨p r Nb,⟨xs,e,noLs_den hF _ _ (n ds Nb) f⟩,RowL.noL hF (λx a=>n x (M5 _ a)) g λx a=>p x (M5 _ a)⟩
 |[],_::_,_,h,_=>h.elim
 |_::_,[],_,h,_=>h.elim
theorem SOk.newGrd{δ:Ds}{W:St}(ok:SOk K H₀ B bg H δ β W)(t:To (FxB B bg) H H' β')(hn:∀ds∈rows,noLs ds=M2)(hv:gc K (FxB B bg) H H' rows v):
  ∃X,SOk K H₀ X bg H' (δ.set i (on (.grd rows))) β' (W.set i (on v))/\Stp B H X H':=by
 classical
 obtain⟨a,rs,rfl,n0,O,nd,J⟩:=hv;have m:∀c,c=a\/c∈rs->H c=MY:=λc hc=>by
  rcases hc with rfl|hc
  ·exact n0
  ·exact(J.all c hc).1
 have hB:∀c,c=a\/c∈rs->B c=MY:=λc hc=>Ry λz=>ok.fr.occ c z (m c hc);have Y:∀b l,bg=on (b,l)->¬(b=a\/b∈rs)/\¬(l=a\/l∈rs):=λb l e=>by
  obtain⟨b1,b2⟩:=ok.bgt b l e;exact⟨λz=>(by rw[hB b z]at b1;cases b1),λz=>(by rw[hB l z]at b2;cases b2)⟩
 obtain⟨A,Z⟩:=ok.to rfl t;have L:Stp B H (λc=>if c=a\/c∈rs then on (i+2)else B c) H':=by
  refine⟨Z.kp,λc hc=>?_,λc o h n=>?_,Z.al⟩
  ·have:¬(c=a\/c∈rs):=λz=>by rw[hB c z]at hc;rcases hc with hc|hc<;>cases hc
   simp only[M8 this]
  ·have:¬(c=a\/c∈rs):=λz=>by rw[m c z]at h;cases h
   simp only[M8 this];exact n
 have tr:Tr (FxB B bg) H (FxB (λc=>if c=a\/c∈rs then on (i+2)else B c) bg) H':=L.tr;refine⟨λc=>if c=a\/c∈rs then on (i+2)else B c,⟨⟨λc hc z=>?_,λb l e=>?_,A.fr.bag⟩,λb l e=>?_,by rw[N7,N7,ok.len],A.cov,λc k hc=>(by
  have f:(if c=a\/c∈rs then on (i+2)else B c)=on (k+2):=hc;by_cases z:c=a\/c∈rs
  ·cases w:H₀ c with
   |none=>rfl
   |some o=>exact NE (m c z) (ok.cov c (by rw[w];simp))
  ·rw[M8 z]at f;exact ok.new c k f),λc k hc=>(by
  have f:(if c=a\/c∈rs then on (i+2)else B c)=on (k+2):=hc;by_cases z:c=a\/c∈rs
  ·rcases z with rfl|z
   ·exact .inl ⟨_,O⟩
   ·exact .inl (J.all c z).2
  ·rw[M8 z]at f;exact A.lst c k f),λj s e=>?_⟩,L⟩
 ·by_cases q:c=a\/c∈rs
  ·rcases q with rfl|q
   ·rw[O]at z;cases z
   ·obtain⟨_,xs,w⟩:=J.all c q
    rw[w]at z;cases z
  ·have f:(if c=a\/c∈rs then on (i+2)else B c)≠MY:=hc
   rw[M8 q]at f;exact A.fr.occ c f z
 ·obtain⟨Q,R⟩:=Y b l e
  obtain⟨b1,b2⟩:=ok.bgt b l e;refine⟨?_,?_,(ok.fr.bgA b l e).2.2⟩
  ·show(if b=a\/b∈rs then on (i+2)else B b)≠MY
   rw[M8 Q,b1];simp
  ·show(if l=a\/l∈rs then on (i+2)else B l)≠MY
   rw[M8 R,b2];simp
 ·obtain⟨Q,R⟩:=Y b l e
  simp only[M8 Q,M8 R];exact ok.bgt b l e
 ·rw[N9]at e
  rw[N9];by_cases q:i=j
  ·subst q
   rw[Nf rfl]at e⊢;split at e
   ·rename_i hl
    cases e;rw[Nf (by rw[←ok.len];exact hl)];refine⟨_,rfl,a,rs,rfl,Nf (.inl rfl),O,nd,RowL.noL (F:=FxB B bg) (λc hc=>?_) hn J λr hr=>Nf (.inr hr)⟩;have f:(if c=a\/c∈rs then on (i+2)else B c)≠MY:=hc;by_cases w:c=a\/c∈rs
    ·rcases w with rfl|w
     ·exact .inr (.inl ⟨_,O⟩)
     ·exact .inr (.inl (J.all c w).2)
    ·rw[M8 w]at f
     exact .inl f
   ·cases e
  ·rw[M8 q]at e⊢
   obtain⟨w,T,C⟩:=ok.tell j s e;refine⟨w,T,?_⟩;cases s with
   |sh d=>exact Den.tr tr _ _ C
   |own cs=>
    obtain⟨c,ys,N,g,u,U⟩:=C;have I:¬(c=a\/c∈rs):=λz=>by rw[m c z]at u;cases u
    exact⟨c,ys,N,by simp only[M8 I];exact g,t.kp c _ u (λb l z=>⟨λy=>(by subst y;rw[(ok.bgt _ _ z).1]at g;cases g),λy=>(by subst y;rw[(ok.bgt _ _ z).2]at g;cases g)⟩),DenL.tr tr _ _ U⟩
   |grd rows2=>
    obtain⟨c,qs,N,g,u,U,e5⟩:=C;have I:∀c,H c≠MY->¬(c=a\/c∈rs):=λc hc z=>hc (m c z);have kk:∀c o,H c=on o->B c=on (j+2)->H' c=on o:=λc o T C=>t.kp c o T (λb l z=>⟨λy=>(by subst y;rw[(ok.bgt _ _ z).1]at C;cases C),λy=>(by subst y;rw[(ok.bgt _ _ z).2]at C;cases C)⟩);exact⟨c,qs,N,by simp only[M8 (I c (by rw[u];simp))];exact g,kk c _ u g,U,RowL.tr tr e5 λr xs _ p y=>⟨by simp only[M8 (I r (by rw[y];simp))];exact p,kk r _ y p⟩⟩
   |odc b ks vs=>
    obtain⟨c,N,g,u⟩:=C;have I:¬(c=a\/c∈rs):=λz=>u.ne (m c z);exact⟨c,N,by simp only[M8 I];exact g,u.tr tr λo u=>t.kp c _ u (λb l z=>⟨λy=>(by subst y;rw[(ok.bgt _ _ z).1]at g;cases g),λy=>(by subst y;rw[(ok.bgt _ _ z).2]at g;cases g)⟩)⟩
end
section
variable{X:Cx}{E:St->XK}{K:NA}{st:OA}{H₀:Hp}{B:Ow}{bg:Option (M3×M3)}{H H':Hp}{δ:Ds}{β β':Bg}{σ:St}
def t0(i:Nat)(f:Dn->M (List (List D))):G:=λδ β=>match f (vw δ) β with
 |some (.ok rows,β1)=>if(rows.all noLs)=M2 then on (.nx (δ.set i (on (.grd rows))),β1)else MY
 |some (.error C,β1)=>on (.ex C δ,β1)
 |none=>MY
theorem EO(h:PS X st (gi (tVG X.K f E) (dH i))):PS X st (tG X.K X.H₀ (t0 i f) E):=h.imp λD σ H g=>by
 obtain⟨B,bg,δ,β,o,β',ok,e,q⟩:=g;refine⟨FxB B bg,vw δ,β,ok.fr,ok.view,?_⟩;unfold t0 at e;split at e
 ·rename_i rows β1 b
  split at e
  ·rename_i hn
   cases e;refine⟨.ok rows,_,b,λv H' t hd=>?_⟩;obtain⟨j,a,c⟩:=ok.newGrd (i:=i) t (λds d=>Qv.mp hn ds d) hd;exact q _ _ _ c a
  ·cases e
 ·rename_i C β1 b
  cases e;refine⟨.error C,_,b,λH' t=>?_⟩;obtain⟨a,c⟩:=ok.to rfl t;exact q _ B H' c a
 ·cases e
theorem RowL.put{H:Hp}{P:M3->Prop}(t:Tr F H F (upd H r (.lst xs)))(hd:DenL K F (upd H r (.lst xs)) ds xs):∀{rows:List (List D)} {rs:List M3} (j:Nat),RowL K F H P rows rs->rs.Nodup->rs[j]?=on r->RowL K F (upd H r (.lst xs)) P (rows.set j ds) rs
 |d0::rows,r0::rs,0,h,nd,e=>by
  obtain rfl:r0=r:=by simpa using e
  have ne:∀a∈rs,a≠r0:=λa b z=>(Ob.mp nd).1 (z▸b);exact⟨h.1,⟨xs,ah,hd⟩,RowL.tr t h.2.2 λa ys b p q=>⟨p,by rw[upd_ne (ne a b)];exact q⟩⟩
 |d0::rows,r0::rs,j+1,h,nd,e=>by
  have c:rs[j]?=on r:=by simpa using e
  obtain⟨d,⟨ys,f,g⟩,i⟩:=h;have ne:r0≠r:=λz=>(Ob.mp nd).1 (z▸NB c);exact⟨d,⟨ys,by rw[upd_ne ne];exact f,DenL.tr t _ _ g⟩,RowL.put t hd j i (Ob.mp nd).2 c⟩
 |[],[],_,_,_,e=>by simp at e
 |[],_::_,_,h,_,_=>h.elim
 |_::_,[],_,h,_,_=>h.elim
theorem RowL.at{H:Hp}{P:M3->Prop}:∀{rows:List (List D)} {rs:List M3} {j:Nat} {ds:List D},RowL K F H P rows rs->rows[j]?=on ds->∃r xs,rs[j]?=on r/\P r/\H r=on (.lst xs)/\DenL K F H ds xs
 |d0::rows,r0::rs,0,ds,h,e=>by
  obtain rfl:d0=ds:=by simpa using e
  obtain⟨a,⟨ys,b,c⟩,g⟩:=h;exact⟨r0,ys,rfl,a,b,c⟩
 |d0::rows,r0::rs,j+1,ds,h,e=>by
  obtain⟨r,xs,d,f⟩:=RowL.at h.2.2 (j:=j) (ds:=ds) (by simpa using e);exact⟨r,xs,by simpa using d,f⟩
 |[],[],_,_,_,e=>by simp at e
 |[],_::_,_,_,h,_=>h.elim
 |_::_,[],_,_,h,_=>h.elim
theorem SOk.writeRow{rs:List M3}{rows:List (List D)}(ok:SOk K H₀ B bg H δ β σ)(hs:σ[i]?=on (on (.ref a)))(hB:B a=on (i+2))(ha:H a=on (.lst (rs.map V.ref)))(nd:(a::rs).Nodup)(N:RowL K (FxB B bg) H (λr=>B r=on (i+2)) rows rs)(O:rs[j]?=on r)(W:H r=on (.lst ys))(hd:DenL K (FxB B bg) H ds xs):
  SOk K H₀ B bg (upd H r (.lst xs)) (δ.set i (on (.grd (rows.set j ds)))) β σ/\Stp B H B (upd H r (.lst xs)):=by
 have t:r∈rs:=NB O;have g:B r=on (i+2):=(N.all r t).1;have m:Stp B H B (upd H r (.lst xs)):=by
  refine⟨λc o h n=>?_,λ_ _=>rfl,λ_ _ _ n=>n,λc u=>?_⟩
  ·rw[upd_ne]
   ·exact h
   ·intro z;subst z;rw[g]at n;rcases n with n|n<;>cases n
  ·by_cases z:c=r
   ·subst z;rw[ah];simp
   ·rw[upd_ne z];exact u
 have tr:Tr (FxB B bg) H (FxB B bg) (upd H r (.lst xs)):=m.tr;refine⟨⟨⟨λc u z=>?_,ok.fr.bgA,λb l e=>?_⟩,ok.bgt,by rw[N7,ok.len],λa ha=>m.al a (ok.cov a ha),ok.new,λc k u=>(by
  by_cases z:c=r
  ·subst z;exact .inl ⟨xs,ah⟩
  ·exact(ok.lst c k u).imp λo y=>by rw[upd_ne z];exact y),λk s e=>?_⟩,m⟩
 ·by_cases q:c=r
  ·subst q;rw[ah]at z;cases z
  ·rw[upd_ne q]at z;exact ok.fr.occ c u z
 ·obtain⟨b1,b2⟩:=ok.bgt b l e
  rw[upd_ne (λz=>by subst z;rw[g]at b1;cases b1),upd_ne (λz=>by subst z;rw[g]at b2;cases b2)];exact ok.fr.bag b l e
 ·rw[N9]at e
  by_cases q:i=k
  ·subst q
   rw[Nf rfl]at e;split at e
   ·cases e
    have J:a≠r:=λz=>(Ob.mp nd).1 (z▸t);exact⟨_,hs,a,rs,rfl,hB,by rw[upd_ne J];exact ha,nd,RowL.put tr (DenL.tr tr _ _ hd) j N (Ob.mp nd).2 O⟩
   ·cases e
  ·rw[M8 q]at e
   obtain⟨v,R,F⟩:=ok.tell k s e;refine⟨v,R,?_⟩;have I:∀c,B c=on (k+2)->c≠r:=λc f z=>by subst z;rw[g]at f;cases f;exact q rfl
   cases s with
   |sh d=>exact Den.tr tr _ _ F
   |own cs=>
    obtain⟨c,Q,A,f,C,L⟩:=F;exact⟨c,Q,A,f,by rw[upd_ne (I c f)];exact C,DenL.tr tr _ _ L⟩
   |grd rows2=>
    obtain⟨c,T,A,f,C,L,U⟩:=F;exact⟨c,T,A,f,by rw[upd_ne (I c f)];exact C,L,RowL.tr tr U λr Q _ p q=>⟨p,by rw[upd_ne (I r p)];exact q⟩⟩
   |odc b ks vs=>
    obtain⟨c,A,f,C⟩:=F;exact⟨c,A,f,C.tr tr λo z=>by rw[upd_ne (I c f)];exact z⟩
def k8(f:Dn->M (List (List D))):G:=λδ β=>match f (vw δ) β with
 |some (.ok rows,β1)=>on (.rg rows,β1)
 |some (.error C,β1)=>on (.ex C δ,β1)
 |none=>MY
theorem GZ(h:PS X (.Return (on e) pos) (zE (tVG X.K f E))):PS X (.Return (on e) pos) (tG X.K X.H₀ (k8 f) E):=h.imp λD σ H j=>by
 obtain⟨B,bg,δ,β,o,β',ok,e,q⟩:=j;refine⟨FxB B bg,vw δ,β,ok.fr,ok.view,?_⟩;unfold k8 at e;split at e
 ·rename_i rows β1 d
  cases e;refine⟨.ok rows,_,d,λv H' t hd=>?_⟩;obtain⟨b,g⟩:=ok.to rfl t;have i:∀c,H c=MY->X.H₀ c=MY:=λc k=>by
   cases w:X.H₀ c with
   |none=>rfl
   |some o=>exact NE k (ok.cov c (by rw[w];simp))
  obtain⟨a,rs,rfl,l,m,nd,n⟩:=hd;exact q _ B H' g b.fr ⟨a,rs,rfl,i a l,m,nd,RowL.tr (Tr.refl _ _) n λr xs _ p y=>⟨i r p,y⟩⟩
 ·rename_i C β1 d
  cases e;refine⟨.error C,_,d,λH' t=>?_⟩;obtain⟨b,g⟩:=ok.to rfl t;exact q _ B H' g b
 ·cases e
def spG(K:NA)(n:Nat)(m:List D->M (List (List D))):Sp:=λvs H Q E=>vs.length=n/\∃F ds β,Fr F H β/\DenL K F H ds vs/\run (gc K F H) F (λ_=>E) [] (m ds) H Q β
def mt(n:Nat)(g:G):List D->M (List (List D)):=λds β=>match g (stD n ds) β with
 |some (.rg rows,β')=>on (.ok rows,β')
 |some (.ex C _,β')=>on (.error C,β')
 |_=>MY
variable{P:NQ}{w:N0}{mg:NY->Option M7}{base:Ox}
theorem IQ{st:OA}{N ps:List NY}(n m:Nat)(g:G)(F:FunD K x qual st f fd)(S:FnScope N ps (ae st))(L:ps.length=n)(O:N.length=m)
  (j:∀(c:M7) (A:Oj) (outer:List Ud) (s:Ng) (H:Hp) (E:XK),Room k (A.deeper (Rl qual (ae st) s.heap.objs.size f c))->
   PSs (eM (CXE P w) P w K mg base N qual (ae st) f c A outer s H E) (cc st) (tG K H g (λ_=>E))):FnOk P w K mg base (CXE P w) (k+1) f fd ps (spG K n (mt m g)):=by
 subst L O;refine F.okE S (λvs H Q E h=>h.1) λc A outer s H vs Q E hr h=>?_;obtain⟨hl,u,ds,β,fr,hd,r,β',e,h⟩:=h;refine⟨_,j c A outer s H E hr,?_⟩;obtain⟨B,ok,R,h1,hn⟩:=sC (N:=N) fr hd;have J:∀{I:Ow} {H':Hp},Stp B H I H'->Fr (FxB I u.bg) H' β'->To u H H' β'/\Tr (FxB I u.bg) H' u H':=λ{I H'} s i=>by
  have hs:∀a,u.A a->I a≠MY:=λa ha=>by
   rw[s.tg a (R a ha)];rcases R a ha with z|z<;>rw[z]<;>simp
  refine⟨⟨λa o ha n=>s.kp a o ha ?_,λa ha=>i.occ a (hs a ha),λb l e=>fr.bgA b l e,i.bag⟩,λa ha _ z=>ha (hs a z),λ_ _ _ h=>h,rfl⟩;cases q:B a with
  |none=>exact .inl rfl
  |some t=>
   have:=R a (hn a (by rw[q];simp));rcases this with z|z
   ·rw[q]at z;exact .inr z
   ·obtain⟨b,l,e,w⟩:=h1 a z
    obtain⟨T,n2⟩:=n b l e;rcases w with w|w
    ·exact NE w T
    ·exact NE w n2
 unfold mt at e;split at e
 ·rename_i d β1 U
  cases e;refine⟨B,u.bg,stD N.length ds,β,.rg d,β',ok,U,λv I H' s i hv=>?_⟩;obtain⟨W,t2⟩:=J s i;obtain⟨a,rs,ev,n0,T,nd,rl⟩:=hv;exact h v H' W ⟨a,rs,ev,n0,T,nd,RowL.tr t2 rl λr xs _ p y=>⟨p,y⟩⟩
 ·rename_i C Y β1 U
  cases e;refine⟨B,u.bg,stD N.length ds,β,.ex C Y,β',ok,U,λσ' I H' s Z=>?_⟩;obtain⟨W,t2⟩:=J s Z.fr;exact h H' W
 ·cases e
variable{e:Expr}{es:List Expr}{pos p:RN}{x:NY}{k n:Nat}{f:M3}{fd:NK}{ps:List NY}
def ue(m:List D->M (List (List D)))(g:FL):Dn->M (List (List D)):=λδ=>M.bind (g δ) λas=>m as
theorem gc.pre{K:NA}{H b H':Hp}(t:To F H b β1)(h:gc K F b H' rows v):gc K F H H' rows v:=by
 obtain⟨a,rs,c,d,g,nd,i⟩:=h;exact⟨a,rs,c,t.none d,g,nd,RowL.tr (Tr.refl _ _) i λr xs _ p y=>⟨t.none p,y⟩⟩
theorem Kx(G:FnOk X.prog X.w X.K X.mg X.base (CXE X.prog X.w) k f fd ps (spG X.K n m))(q:Room k X.A)(u:Gl X x)(hm:X.mg x=on (.ref f))(y:Su X.K (.ref f)=M2)(I:aC X.K fd ps [])(J:cT (CXE X.prog X.w) X E)
  (ha:PA X (e::es) (tVA X.K g E)) (hn:∀δ β r β',g δ β=on (.ok r,β')->r.length=n) (a:(x==("__debug__":NY))=M4:=by decide) (L:No (e::es) X.env=(M4,Op e X.env)::No es X.env:=by rfl) (b:(Ps pos (No es X.env)).any (·.1)=M4:=by rfl):
  PE X (.Call (.Name x p) (e::es) [] pos) (tVG X.K (ue m g) E):=
 (lO G q u hm y I .nil J ha a L b).imp λσ H Q N=>ex6 N λF δ β fr O r=>⟨F,δ,β,fr,O,by
  obtain⟨r0,c,h,i⟩:=run.bind (R:=DenL X.K F) r;refine⟨r0,c,h,?_⟩;cases r0 with
  |error C=>exact i
  |ok ds=>
   intro vs T t hd;obtain⟨d',β1,j,d,r1⟩:=i vs T t hd;have U:=hn _ _ _ _ h;refine⟨by rw[NV,←hd.length,U],F,d',β1,j.fr,by rw[NV];exact d,?_⟩;obtain⟨l,β2,W,o⟩:=r1;refine⟨l,β2,W,?_⟩;cases l with
   |ok rows=>exact λv H' Y Z=>o v H' Y (gc.pre j Z)
   |error C=>exact o⟩
variable{elt target iter:Expr}{ifs:List Expr}{rest:List OT}{scope:Scope}{Nc vars:List NY}{caps:List Nat}{g:TG}{tb:M3->TB}
theorem Jw{x:NY}{a c:RN}(m:X.N.Nodup)(d:X.N[i]?=on x)(o:Loc X.env.scope x)(q:X.calm=M2)(S:CmpScope X scope Nc vars caps)(r:PI X target iter (iV X.K it E))
  (t:∀(cl:List (NY×M3)) (C:M3) (l:List M3) (s:Ng) (H:Hp),PG (aB X Nc scope cl C l s H) target g/\dh (aB X Nc scope cl C l s H) ifs (tVT X.K tt E0)/\∀D,PB (aB X Nc scope cl C l s H) elt (⟨target,iter,ifs,0⟩::rest) scope pos 0 D (tb D))
  (u:cf X.K g tg) (v:de tg) (y:∀D,ph X.K D (tb D) b)
  (j:RE (.ListComp elt (⟨target,iter,ifs,0⟩::rest) scope pos) (on (.Name x a)) c.line X.env=Pn M2:=by rfl)
  (hs:∀x,N5 iter X.env x=Pn x:=by intro _;rfl) (A:X.fn x=M2\/X.env.scope.names.lookup x=on .local:=by first|exact .inl rfl|exact .inr rfl|assumption):
  PS X (.Assign [.Name x a] (.ListComp elt (⟨target,iter,ifs,0⟩::rest) scope pos) c) (tG X.K X.H₀ (t0 i (ie vars.length caps it tg tt b)) E):=
 EO ((uY m d o q S r t j hs A).imp λD σ H h=>qq u v y h)
end
end L2.Pu
namespace L2
open PySem PySem.Spec PyProof.Rows
section
variable{X:Cx}
theorem BW{bs:List Bool}{its:List M7}(r:ar (bs.map V.bl) its){i:Nat}{v:M7}(h:its.toArray[i]?=on v):v= .bool (bs.getD i M4):=by
 have h':its[i]?=on v:=by simpa using h
 have a:=r.length;rw[MZ]at a;have b:i<bs.length:=by rw[a];exact(Nj.mp h').1
 obtain⟨u,c,d⟩:=r.get (i:=i) (x:=V.bl bs[i]) (by rw[M9,M6 b];rfl);rw[h']at c;cases c;rw[Na,M6 b];exact d
theorem x5{α:Type}(f:Bool->Bool)(bs:List Bool):(Nd bs.length).map (λi=>bs.getD i M4)=bs:=by
 apply Wl;intro i;rw[M9];by_cases h:i<bs.length
 ·rw[Oq h,M6 h]
  simp[Na,M6 h]
 ·rw[Rc (by simpa using h),Rc (by omega)];rfl
theorem x6(bs:List Bool):((Nd bs.length).any λi=>bs.getD i M4)=bs.any id:=by
 conv=>rhs;rw[←x5 (α:=Bool) id bs]
 rw[List.any_map];rfl
theorem lj(l:X.calm=M2):cK X (.builtin "any") (λxs H Q=>∃(a:M3) (bs:List Bool),xs=[.ref a]/\SqL X.K H a (bs.map V.bl)/\Q (.bl (bs.any id)) H):=by
 intro j s B H xs us Q I r h;obtain⟨a,bs,rfl,m,q⟩:=h;cases r with
 |cons r1 n=>
  cases r1;cases n;obtain⟨its,k,p,C⟩:=I.list m;have f:=p.isList;have c:its.toArray.size=bs.length:=by rw[Nv,←k.length,MZ]
  have d:∀b o,s.heap.get? b=on o->b≠s.heap.objs.size:=λb o e z=>by
   rw[z,Vq (Nh _)]at e;cases e
  have g:a≠s.heap.objs.size:=by
   obtain⟨o,e,_⟩:=f;exact d a o e
  have W:=Walks.list (prog:=X.prog) (w:=X.w) (A:=X.A.in1) (show X.A.in1.handled=MY from I.ok.hd l) s.heap.objs.size a g its.toArray;refine call_any_walk (SH f ⟨s.heap.objs.size,[s.heap.objs.size,a],[s.heap.objs.size],its.toArray.size,_,_,λi=>bs.getD i M4,rfl,W,⟨⟨_,Nu s.heap rfl,rfl,rfl⟩,f.push _⟩,λi v s' F J t u=>?_,λh' L y=>?_⟩)
  ·rw[BW k t]
   exact Oo u
  ·rw[c,x6]
   exact⟨.bl (bs.any id),H,I.kept λb o e=>y b o (λz=>d b o e (by simpa using z)) (M1 _ e),rfl,q⟩
end
end L2
namespace L2.Pu
open PySem PySem.Spec PyProof.Rows
noncomputable def dE:List D->Option (List Bool)
 |[]=>on []
 | .bl b::r=>(dE r).map (b::·)
 |_=>MY
theorem mJ{K:NA}:∀{ds:List D} {xs:List V} {bs:List Bool},dE ds=on bs->DenL K F H ds xs->xs=bs.map V.bl
 |[],xs,bs,e,h=>by
  cases e;cases h;rfl
 |d::ds,xs,bs,e,h=>by
  obtain⟨x,f,rfl,a,c⟩:=h;cases d<;>first
   |(rename_i b
     cases q:dE ds with
     |none=>simp[dE,q]at e
     |some r=>
     simp[dE,q]at e;subst e;cases a.bl;rw[mJ q c];rfl)
   |simp[dE]at e
def xa:List D->Option D
 |[.lst ds]=>(dE ds).map λbs=> .bl (bs.any id)
 |_=>MY
variable{K:NA}
theorem wK:dy K (λxs H Q=>∃(a:M3) (bs:List Bool),xs=[.ref a]/\SqL K H a (bs.map V.bl)/\Q (.bl (bs.any id)) H) xa:=λF H β Q ds d vs fr h e k=>by
 unfold xa at e;split at e
 ·obtain⟨v,rfl,g⟩:=DenL.one h
  obtain⟨a,xs,rfl,r,b⟩:=Den.sqL g;obtain⟨bs,q,e⟩:=SA.mp e;subst e;rw[mJ q b]at r;exact⟨a,bs,rfl,r,k _ H (To.refl fr) rfl⟩
 ·cases e
end L2.Pu
namespace L2
open PySem PySem.Spec PyProof.Rows
section
variable{X:Cx}{a b c d:Expr}{ta tb tc td:TE}{pos:RN}
def L7(i e:R2)(tc td:TE)(y:V):TE:=λf H Q=>tc f H λw j=>i y w j λk g=>∃h,k= .bl h/\(if h=M2 then td f g λl m=>e w l m Q else Q (.bl M4) g)
def uJ(r h e:R2)(ta tb tc td:TE):TE:=λf H Q=>ta f H λx i=>tb f i λy j=>r x y j λz g=>∃k,z= .bl k/\(if k=M2 then L7 h e tc td y f g Q else Q (.bl M4) g)
theorem x9(J:OpR X (Ou op) r)(l:OpR X (Ou op') r')(i:OpR X (Ou op'') r'')(ha:PE X a ta)(L:PE X b tb)(N:PE X c tc)(hd:PE X d td)
  (hm:We [op,op',op''] [b,c,d]=M4:=by with_unfolding_all rfl):PT X (.Compare a [op,op',op''] [b,c,d] pos) (vY (uJ r r' r'' ta tb tc td)):=by
 intro f s g H Q I h;refine isTrue_chain (thn (ha f s g H _ I h) λv O ⟨x,R,T,r1,q1⟩=>test_link (thn (L f O g R _ T q1) λu U ⟨y,W,Y,o,q2⟩=>
  thn (J f U g W x y v u _ Y r1 o q2) λZ s3 ⟨z,p,q,r3,k,e,q3⟩=>?_)) hm
 subst e;cases r3;refine Oo ?_;cases k with
 |false=>
  obtain⟨m,j,n⟩:=q3;cases j;exact ite_ff ⟨p,q,n⟩
 |true=>
  refine ite_tt (test_link (thn (N f s3 g p _ q q3) λt s4 ⟨A,H4,I4,B,q4⟩=>thn (l f s4 g H4 y A u t _ I4 o B q4) λZ s5 ⟨z',C,F,r5,m,j,q5⟩=>?_));subst j;cases r5;refine Oo ?_;cases m with
  |false=>
   obtain⟨m,j,n⟩:=q5;cases j;exact ite_ff ⟨C,F,n⟩
  |true=>
   refine ite_tt (test_last (thn (hd f s5 g C _ F q5) λw' s6 ⟨z2,H6,I6,r6,q6⟩=>thn (i f s6 g H6 A z2 t w' _ I6 B r6 q6) λd' s7 ⟨z3,H7,I7,r7,k3,e3,q7⟩=>?_));subst e3;cases r7;exact Oo ⟨H7,I7,q7⟩
end
end L2
namespace L2.Pu
open PySem PySem.Spec PyProof.Rows
section
variable{X:Cx}{E:St->XK}{a b c d:Expr}{pos:RN}{K:NA}
def FS(f e:D->D->Option D)(h i:FD)(y:D):FD:=λδ=>M.bind (h δ) λw=>M.bind (M.ofO (f y w)) λz=>M.bind (M.ofO (asB z)) λc=>if c=M2 then M.bind (i δ) (λg=>M.ofO (e w g))else M.ret (.bl M4)
def md(o j e:D->D->Option D)(f g h i:FD):FD:=λδ=>M.bind (f δ) λa=>M.bind (g δ) λb=>M.bind (M.ofO (o a b)) λz=>M.bind (M.ofO (asB z)) λc=>if c=M2 then FS j e h i b δ else M.ret (.bl M4)
theorem run.later{α i:Type}{R:Hp->α->i->Prop}{F:Fx}{j:St}{m:M α}{H k:Hp}{Q:i->Hp->Prop}{β:Bg}(t:To F H k β)(h:run R F E j m H Q β):run R F E j m k Q β:=by
 obtain⟨l,f,e,q⟩:=h;refine⟨l,f,e,?_⟩;cases l with
 |ok d=>exact λv g tt=>q v g (t.trans tt)
 |error C=>exact λg tt=>q g (t.trans tt)
theorem v5(l:aV K r o)(l':aV K r' o')(O:aV K r'' o'')(T:tV K (md o o' o'' f g h i) E σ H Q):uJ r r' r'' (tV K f E) (tV K g E) (tV K h E) (tV K i E) σ H Q:=by
 obtain⟨F,δ,β,fr,U,T⟩:=T;refine⟨F,δ,β,fr,U,(run.bind (R:=Den K F) T).mono λv H1 n=>ex5 n λd β1 t hd r1=>⟨F,δ,β1,t.fr,U.tr (t.tr fr),(run.bind (R:=Den K F) r1).mono λv2 H2 n=>ex5 n λd2 β2 p u r2=>?_⟩⟩;obtain⟨z,ez,r3⟩:=run.ofO_bind r2;obtain⟨c,ec,L⟩:=run.ofO_bind r3;rw[ik ec]at ez;have W:=U.tr ((t.tr fr).trans (p.tr t.fr));refine l F H2 β2 _ d d2 _ v v2 p.fr (Den.tr (p.tr t.fr) _ _ hd) u ez λvz H3 j hz=>⟨c,hz,?_⟩;cases c with
 |true=>
  rw[Nf rfl]at L;have Y:=Den.tr (j.tr p.fr) _ _ u;have y:=W.tr (j.tr p.fr);have r5:=run.later j L;refine⟨F,δ,β2,j.fr,y,(run.bind (R:=Den K F) r5).mono λw H4 n=>ex5 n λdw A B C r6=>?_⟩;obtain⟨z',I,r7⟩:=run.ofO_bind r6;obtain⟨c',Z,N⟩:=run.ofO_bind r7;rw[ik Z]at I;refine l' F H4 A _ d2 dw _ v2 w B.fr (Den.tr (B.tr j.fr) _ _ Y) C I λvz' H5 m hz'=>⟨c',hz',?_⟩;cases c' with
  |true=>
   rw[Nf rfl]at N;refine⟨F,δ,A,m.fr,y.tr ((B.tr j.fr).trans (m.tr B.fr)),(run.bind (R:=Den K F) (run.later m N)).mono λw' H6 ⟨dw',β6,t6,J,r9⟩=>?_⟩;obtain⟨d3,e3,k⟩:=run.ofO r9;exact O F H6 β6 Q dw dw' d3 w w' t6.fr (Den.tr ((m.tr B.fr).trans (t6.tr m.fr)) _ _ C) J e3 k
  |false=>
   rw[M8 Ni]at N;obtain⟨rr,β',e,q⟩:=N;cases e;exact q _ H5 m rfl
 |false=>
  rw[M8 Ni]at L;obtain⟨rr,β',e,q⟩:=L;cases e;exact q _ H3 j rfl
theorem zD(m:OpR X (Ou op) r)(j:OpR X (Ou op') r')(e:OpR X (Ou op'') r'')(l:aV X.K r o)(n:aV X.K r' o')(k:aV X.K r'' o'')(ha:PE X a (tV X.K f E))(p:PE X b (tV X.K g E))(t:PE X c (tV X.K h E))(hd:PE X d (tV X.K i E))(hm:We [op,op',op''] [b,c,d]=M4:=by with_unfolding_all rfl):
  PT X (.Compare a [op,op',op''] [b,c,d] pos) (tVT X.K (fB (md o o' o'' f g h i)) E):=(x9 m j e ha p t hd hm).imp λu H Q q=>v5 l n k (mQ q)
variable{st:OA}{H₀:Hp}{B:Ow}{bg:Option (M3×M3)}{H H':Hp}{δ:Ds}{β β':Bg}{σ:St}
theorem SOk.AtoB(ok:SOk K H₀ B bg H δ β σ):∀c,(FxB B bg).A c->(FxA B bg).A c\/OwO H c:=λc f=>by
 have e:B c≠MY:=f;cases q:B c with
 |none=>exact NE q e
 |some k=>
  match k,q with
  |0,q=>exact .inl (.inl q)
  |1,q=>exact .inl (.inr q)
  |k+2,q=>exact .inr (ok.lst c k q)
theorem SOk.noB{d:D}(ok:SOk K H₀ B bg H δ β σ)(hn:noL d=M2)(h:Den K (FxA B bg) H d v):Den K (FxB B bg) H d v:=va ok.AtoB d v hn h
def oY(i:Nat)(e f g:FD):G:=λδ β=>match g (vwA δ) β with
 |some (.ok d,β1)=>match e (vwA δ) β1 with
  |some (.ok (.int ka),β2)=>match f (vwA δ) β2 with
   |some (.ok (.int kb),β3)=>match δ.getD i MY with
    |some (.grd rows)=>match ixN rows.length ka with
     |some ja=>match rows[ja]? with
      |some ds=>match ixN ds.length kb with
       |some jb=>if noL d=M2 then on (.nx (δ.set i (on (.grd (rows.set ja (ds.set jb d))))),β3)else MY
       |none=>MY
      |none=>MY
     |none=>MY
    |_=>MY
   |_=>MY
  |_=>MY
 |_=>MY
theorem sQ(h:PS X st (gi (tV X.K fv E) (BM (tOp (wf X.K) (mP i) (tV X.K fa E)) (tV X.K fb E) EU))):PS X st (tG X.K X.H₀ (oY i fa fb fv) E):=h.imp λD σ H h_=>by
 obtain⟨B,bg,δ,β,o,β',ok,e,q⟩:=h_;refine⟨FxA B bg,vwA δ,β,ok.frA,ok.viewA,?_⟩;unfold oY at e;split at e
 ·rename_i d β1 e1
  refine⟨.ok d,_,e1,λv H1 t1 hd=>?_⟩;obtain⟨f,s1⟩:=ok.to rfl t1;split at e
  ·rename_i ka β2 e2
   split at e
   ·rename_i kb β3 e3
    split at e
    ·rename_i rows Q
     split at e
     ·rename_i ja ea
      split at e
      ·rename_i ds er
       split at e
       ·rename_i jb eb
        split at e
        ·rename_i R
         cases e;have hd:=f.noB R hd;obtain⟨w,N,a,rs,rfl,hB,ha,nd,rl⟩:=f.tell i _ (getD_some Q);refine⟨_,N,FxA B bg,vwA δ,β1,f.frA,f.viewA,.ok (.int ka),β2,e2,λy H2 t2 hy=>?_⟩;cases hy;obtain⟨j,s2⟩:=f.to (F:=FxA B bg) rfl t2;obtain⟨w2,h2,a2,g,ew,k,m,nd2,n⟩:=j.tell i _ (getD_some Q);rw[N]at h2;cases h2;cases ew;obtain⟨r,xs,T,hp,hx,dl⟩:=n.at er;refine⟨a,g.map V.ref,ka,.ref r,rfl,rfl,SqL.of m,?_,?_⟩
         ·unfold atI
          rw[MZ,←n.len,ea];show(g.map V.ref)[ja]?=_;rw[M9,T];rfl
         ·refine⟨FxA B bg,vwA δ,β2,j.frA,j.viewA,.ok (.int kb),_,e3,λz H3 t3 hz=>?_⟩
          cases hz;obtain⟨p,s3⟩:=j.to (F:=FxA B bg) rfl t3;obtain⟨w3,h3,a3,t,U,W,u,Y,A⟩:=p.tell i _ (getD_some Q);rw[N]at h3;cases h3;cases U;have Z:g=t:=by
           have O:H3 a=on (.lst (g.map V.ref)):=t3.kp a _ m (λb l y=>⟨λw=>(by subst w;rw[(ok.bgt _ _ y).1]at k;cases k),λw=>(by subst w;rw[(ok.bgt _ _ y).2]at k;cases k)⟩);rw[u]at O;have k2:t.map V.ref=g.map V.ref:=by injection O with O;injection O
           exact(Tg (λa b q=>by cases q;rfl)|>.mp k2).symm
          subst Z;obtain⟨r',C,I,hp',J,L⟩:=A.at er;rw[T]at I;cases I;have hv3:Den X.K (FxB B bg) H3 d v:=Den.tr (s3.tr) _ _ (Den.tr (s2.tr) _ _ hd);refine⟨r,C,kb,jb,rfl,rfl,J,by rw[←L.length];exact eb,?_⟩;obtain⟨ok4,s4⟩:=p.writeRow (ds:=ds.set jb d) (xs:=C.set jb v) N W u Y A T J (DenL.set jb L hv3);exact q _ _ _ (s1.trans (s2.trans (s3.trans s4))) ok4
        ·cases e
       ·cases e
      ·cases e
     ·cases e
    ·cases e
   ·cases e
  ·cases e
 ·cases e
variable{e:Expr}{es:List Expr}
def o2(op:D->D->Option (List D))(f g:FD):FL:=λδ=>M.bind (f δ) λa=>M.bind (g δ) λb=>M.ofO (op a b)
noncomputable def Ite(K:NA)(l:M3):It:=
 ⟨λi H=>∃xs x,SqL K H l xs/\xs[i]?=on x,
  λi H v H'=>∃p x,H p=MY/\v= .ref p/\H'=upd H p (.tup [.int (i:Int),x])/\∀xs,SqL K H l xs->xs[i]?=on x,
  λi H=>∃xs,SqL K H l xs/\xs.length=i⟩
theorem xv{P:NQ}{w:N0}{K:NA}{x1}{pos:RN}(l e it:M3)(t:e≠it):
  Turn P w K (.Tuple elts x1 pos) (Ite K l) [e,it] e (λi h=>(∃f,IsEnum h e it (i:Int) f)/\h.IsListIter it l i) where
 mem:=by simp
 obj:=λi h st b j=>by
  obtain⟨⟨f,m⟩,p⟩:=st;simp only[Nq,OH,Rb]at j;rcases j with rfl|rfl
  ·exact⟨_,m,λv q=>by cases q⟩
  ·obtain⟨o,q,_,d⟩:=p
   exact⟨o,q,λv z=>by rw[d]at z;cases z⟩
 keep:=λi h h' st k=>by
  obtain⟨⟨f,m⟩,p⟩:=st;exact⟨⟨f,k e (by simp) _ m⟩,p.at λo q=>k it (by simp) o q⟩
 item:=by
  intro X L N O Q i r s σ H E I y st R;subst L N O;obtain⟨xs,x,q1,T⟩:=R;obtain⟨⟨f,m⟩,p⟩:=st;obtain⟨g,r1,U⟩:=Inv.src (b:=M2) I q1;have hd:=I.ok.hd Q;have ne:l≠e:=Inv.src_ne (b:=M2) I q1 (y e (by simp));have W:l≠it:=Inv.src_ne (b:=M2) I q1 (y it (by simp));have k1:i<g.toArray.size:=by
   rw[Nv,←r1.length];exact(Nj.mp T).1
  refine wpAny_pyNext_enum_itemD (VC (show(X.A.in1).handled=MY from hd) it l W g.toArray) m ⟨p,U⟩ k1 t (by simp[t,ne.symm]) λu h' Y pu fo f1 fT sz kp=>?_;refine⟨_,rfl,wpAny_letOwnedTupleGo_enum (s:={s with heap:=h',toks:=Y+1}) fo λC F J=>?_⟩
  replace J:NP e h' C:=J
  have zT:s.heap.objs.size≠e:=Qc (NI m);obtain⟨u',Z,ru⟩:=r1.get T;have eu:u=u':=by
   have:g[i]?=on u:=by simpa using pu
   rw[this]at Z;exact NN Z
  subst eu;have kk:∀b o,b∉[e,it]->s.heap.get? b=on o->C.get? b=on o:=λb o j q=>by
   simp only[Nq,OH,Rb,not_or]at j;exact J.extBut b o j.1 (kp b o j.1 j.2 q)
  have I2:Inv X r σ (upd H s.heap.objs.size (.tup [.int (i:Int),x])) {s with heap:=C,toks:=Y+1}:=by
   refine Inv.turnNew I y kk (Nh _) ⟨by show 2<=Nr;decide,[.int i Y,u],.cons ⟨_,rfl⟩ (.cons ru .nil),_,J.extBut _ _ zT fT,rfl,_,rfl⟩
  refine⟨.ref s.heap.objs.size,_,I2,rfl,⟨s.heap.objs.size,x,I.hok.fresh (Nh _),rfl,rfl,λas h1=>by rw[Inv.src_inj (b:=M2) I h1 q1];exact T⟩,⟨⟨_,by simpa using F⟩,?_⟩,λb j=>?_⟩
  ·exact f1.1.at λo q=>J.extBut _ _ t.symm q
  ·rw[upd_ne]
   ·exact(y b j).1
   ·intro q
    have ol:∃o,s.heap.get? b=on o:=by
     simp only[Nq,OH,Rb]at j;rcases j with rfl|rfl
     ·exact⟨_,m⟩
     ·obtain⟨o,z,_⟩:=p;exact⟨o,z⟩
    obtain⟨o,z⟩:=ol;exact NE (NI z) (by rw[q];exact Oc _)
 done:=by
  intro X L N O Q i r s σ H E I y st R;subst L N O;obtain⟨xs,q1,hl⟩:=R;obtain⟨⟨f,m⟩,p⟩:=st;obtain⟨g,r1,U⟩:=Inv.src (b:=M2) I q1;have hd:=I.ok.hd Q;have W:l≠it:=Inv.src_ne (b:=M2) I q1 (y it (by simp));have g1:g.toArray.size=i:=by rw[Nv,←r1.length,hl]
  refine wpAny_pyNext_enum_endD (n:=g.toArray.size) (VC (show(X.A.in1).handled=MY from hd) it l W g.toArray) m (by rw[g1];exact⟨p,U⟩) λh' kp=>⟨rfl,?_⟩;refine Inv.turnL (t':=s.toks) I y λb o j q=>?_;simp only[Nq,OH,Rb,not_or]at j;exact kp b o j.2 q
 self:=λ_ _ _ _ _ st h=>by
  obtain⟨⟨f,m⟩,p⟩:=st;exact wpAny_pyIter_enum m h
def iEn(K:NA)(g:TA):TI:=λσ H R=>g σ H λvs f=>∃l xs,vs=[.ref l]/\SqL K f l xs/\R (Ite K l) f
theorem HI{a:Expr}{p pos:RN}{x1}(o:Gl X "enumerate")(hm:X.mg "enumerate"=MY)(ha:PA X [a] ta)(hs:No [a] X.env=[(M4,Op a X.env)]:=by rfl):
  PI X (.Tuple elts x1 tpos) (.Call (.Name "enumerate" p) [a] [] pos) (iEn X.K ta):=by
 intro f s σ H R I h;refine Call_ (eX I o hm PyProof.Rows.Boot.«enumerate» (OK (thn (ha pos f s σ H _ I h) λus g ⟨vs,k,j,r1,q1⟩=>?_) (by rw[hs];rfl) (by rfl)));obtain⟨l,xs,e,q1,q⟩:=q1;subst e;cases r1 with
 |cons r t=>
  cases t;cases r;obtain⟨u,C,v⟩:=Inv.src (b:=M2) j q1;refine call_enumerate_list v λh' m y sz kp=>?_;refine wpAny_pyIter_enum (s:={g with heap:=h'}) m ?_;have A:Inv X f σ k {g with heap:=h'}:=j.kept (t':=g.toks) kp;refine⟨_,[g.heap.objs.size+1,g.heap.objs.size],_,Ite X.K l,k,rfl,A,xv l (g.heap.objs.size+1) g.heap.objs.size (Nat.succ_ne_self _),⟨⟨_,m⟩,y⟩,λc n=>?_,q⟩;have i:g.heap.objs.size<=c:=by
   simp only[Nq,OH,Rb]at n;rcases n with rfl|rfl
   ·exact Rk _ _
   ·exact Nh _
  exact j.fpOk i (j.hok.fresh i)
noncomputable def cI:Nat->List D->List D
 |_,[]=>[]
 |n,x::xs=> .tup [.int (n:Int),x]::cI (n+1) xs
theorem qN:∀(n:Nat) (xs:List D),(cI n xs).length=xs.length
 |_,[]=>rfl
 |n,x::xs=>by
  show(cI (n+1) xs).length+1=xs.length+1;rw[qN (n+1) xs]
theorem ld:∀{n:Nat} {xs:List D} {i:Nat} {d:D},(cI n xs)[i]?=on d->∃x,xs[i]?=on x/\d= .tup [.int ((n+i:Nat):Int),x]
 |n,[],i,d,h=>by simp[cI]at h
 |n,x::xs,0,d,h=>by
  simp[cI]at h;exact⟨x,rfl,by rw[←h];simp⟩
 |n,x::xs,i+1,d,h=>by
  have h':(cI (n+1) xs)[i]?=on d:=by simpa[cI]using h
  obtain⟨a,f,g⟩:=ld h';exact⟨a,by simpa using f,by rw[g,show n+1+i=n+(i+1) by omega]⟩
def FT:List D->Option (List D)
 |[.lst xs]=>on (cI 0 xs)
 |_=>MY
theorem BE{H:Hp}(o:∀g f,Tr F H g f->∃xs,SqL K f l xs/\DenL K g f ds xs):ItD K (Ite K l) F H (cI 0 ds):=λg f β2 t fr i=>by
 obtain⟨xs,h,d1⟩:=o g f t;refine⟨λd hd=>?_,λj=>?_⟩
 ·obtain⟨x,q,rfl⟩:=ld hd
  obtain⟨u,k,du⟩:=d1.get q;refine⟨⟨xs,u,h,k⟩,λz y r=>?_⟩;obtain⟨p,A,m,rfl,rfl,v⟩:=r;have n:=v xs h;rw[k]at n;cases n;rw[Pl];exact⟨bv.upd m,Den.newT fr m (DenL.cons rfl (DenL.cons du DenL.nil))⟩
 ·rw[qN]at j
  exact⟨xs,h,by rw[←d1.length,j]⟩
def FA(g:FL):FL:=bG FT g
theorem oW{a:Expr}{p pos:RN}{x1}(q:Gl X "enumerate")(hm:X.mg "enumerate"=MY)(ha:PA X [a] (tVA X.K g E))(hs:No [a] X.env=[(M4,Op a X.env)]:=by rfl):
  PI X (.Tuple elts x1 tpos) (.Call (.Name "enumerate" p) [a] [] pos) (iV X.K (FA g) E):=
 (HI q hm ha hs).imp λσ H R j=>ex6 j λF δ β fr r h=>⟨F,δ,β,fr,r,(run.bind (R:=DenL X.K F) h).mono λvs f j=>by
  obtain⟨ds,β1,t,hd,r1⟩:=j;obtain⟨l,e,k⟩:=run.ofO r1;unfold FT at e;split at e
  ·rename_i xs
   cases e;obtain⟨v,rfl,o⟩:=DenL.one hd;have z:∃a,v= .ref a/\∀m i,Tr F f m i->∃ys,SqL X.K i a ys/\DenL X.K m i xs ys:=by
    obtain⟨a,ys,rfl,_⟩:=Den.sqL o;refine⟨a,rfl,λm i u=>?_⟩;obtain⟨I,n,y,sq,A⟩:=Den.sqL (Den.tr u _ _ o);cases y;exact⟨n,sq,A⟩
   obtain⟨a,rfl,z⟩:=z;obtain⟨us,C,_⟩:=z F f (Tr.refl F f);exact⟨a,us,rfl,C,k _ f (To.refl t.fr) (BE z)⟩
  ·cases e⟩
def eG(K:NA)(g:NK)(ps:List NY)(h:List D):Prop:=∃ds f,aC K g ps ds/\ar f ds/\∀F H,DenL K F H h f
inductive Sr (α:Type) where
 |kw (j:Nat)|df (a:α)
noncomputable def Sr.pick{α:Type}(z:α)(f:List α):Sr α->α
 | .kw j=>f.getD j z
 | .df a=>a
def gK{α:Type}(z:α)(n k:Nat)(src:List (Sr α))(us f:List α):List α:=if us.length=n/\f.length=k then us++src.map (Sr.pick z f)else[]
inductive SrR {α γ:Type} (R:α->γ->Prop):List (Sr α)->List (Sr γ)->Prop where
 |nil:SrR R [] []
 |kw {j:Nat} {a:List (Sr α)} {c:List (Sr γ)}:SrR R a c->SrR R (.kw j::a) (.kw j::c)
 |df {x:α} {y:γ} {a:List (Sr α)} {c:List (Sr γ)}:R x y->SrR R a c->SrR R (.df x::a) (.df y::c)
theorem ar.getD:∀{f:List V} {g:List M7} (j:Nat),ar f g->aF (f.getD j .non) (g.getD j .none)
 |_,_,_,.nil=>rfl
 |_,_,0,.cons r _=>r
 |_,_,j+1,.cons _ t=>ar.getD j t
theorem SrR.vals(r:ar zs ws):∀{a:List (Sr V)} {c:List (Sr M7)},SrR aF a c->ar (a.map (Sr.pick .non zs)) (c.map (Sr.pick .none ws))
 |_,_,.nil=> .nil
 |_,_,.kw (j:=j) h=> .cons (ar.getD j r) (SrR.vals r h)
 |_,_,.df q h=> .cons q (SrR.vals r h)
theorem DenL.getD{K:NA}{H:Hp}:∀{ds:List D} {f:List V} (j:Nat),DenL K F H ds f->Den K F H (ds.getD j .non) (f.getD j .non)
 |[],f,j,h=>by have q:f=[]:=h;subst q;rfl
 |d::ds,f,0,h=>by
  obtain⟨x,r,e,g,i⟩:=h;subst e;exact g
 |d::ds,f,j+1,h=>by
  obtain⟨x,r,e,g,i⟩:=h;subst e;exact DenL.getD j i
theorem SrR.den{K:NA}{H:Hp}(r:DenL K F H ds zs):∀{a:List (Sr D)} {c:List (Sr V)},SrR (λd v=>∀F H,Den K F H d v) a c->DenL K F H (a.map (Sr.pick .non ds)) (c.map (Sr.pick .non zs))
 |_,_,.nil=>DenL.nil
 |_,_,.kw (j:=j) h=>DenL.cons (DenL.getD j r) (SrR.den r h)
 |_,_,.df q h=>DenL.cons (q F H) (SrR.den r h)
theorem SrR.len{α f:Type}{R:α->f->Prop}:∀{a:List (Sr α)} {c:List (Sr f)},SrR R a c->a.length=c.length
 |_,_,.nil=>rfl
 |_,_,.kw h=>by rw[Nm,Nm,SrR.len h]
 |_,_,.df _ h=>by rw[Nm,Nm,SrR.len h]
structure KwOk (K:NA) (fd:NK) (ps ks:List NY) (n:Nat) (src:List (Sr D)):Prop where
 ex:∃(sv:List (Sr M7)) (sx:List (Sr V)),SrR aF sx sv/\SrR (λd v=>∀F H,Den K F H d v) src sx/\∀(s:Ng) (us ws:List M7),K.In s.heap->us.length=n->ws.length=ks.length->Tu s fd ⟨us,ks.zip ws⟩ (ps.zip (us++sv.map (Sr.pick .none ws)))
 len:ps.length=n+src.length
 pos:0<ps.length
theorem KwOk.kb{K:NA}{ps ks:List NY}(h:KwOk K fd ps ks n src):∃(sv:List (Sr M7)) (f:List (Sr V)),SrR (λd v=>∀F H,Den K F H d v) src f/\KBinds K fd ps ks (gK .none n ks.length sv) (gK .non n ks.length f):=by
 obtain⟨sv,f,r1,l,b⟩:=h.ex;refine⟨sv,f,l,λs us k m g=>?_,λ{vs us o k} i j=>?_⟩
 ·unfold gK at g⊢
  split at g
  ·rename_i q
   rw[Nf q];exact b s us k m q.1 q.2
  ·exact NE g (by have:=h.pos;simp;omega)
 ·unfold gK
  by_cases q:vs.length=n/\o.length=ks.length
  ·rw[Nf q,Nf (by rw[←i.length,←j.length];exact q)]
   exact i.append (SrR.vals j r1)
  ·rw[M8 q,M8 (by rw[←i.length,←j.length];exact q)]
   exact .nil
variable{p kpos:RN}{x:NY}{k n:Nat}{f:M3}{fd:NK}{ps ks:List NY}{kws:List Tx}{nm:Option NY}
def KD(m:List D->M D)(g:FL)(h:List D):FD:=λδ=>M.bind (g δ) λas=>m (as++h)
theorem GG{h:List D}(G:FnOk X.prog X.w X.K X.mg X.base (CXE X.prog X.w) k f fd ps (spF X.K n m))(y:Room k X.A)(I:Gl X x)(hm:X.mg x=on (.ref f))(J:Su X.K (.ref f)=M2)(L:eG X.K fd ps h)(N:cT (CXE X.prog X.w) X E)
  (ha:PA X (e::es) (tVA X.K g E)) (hn:∀δ β r β',g δ β=on (.ok r,β')->r.length+h.length=n) (i:(x==("__debug__":NY))=M4:=by decide) (O:No (e::es) X.env=(M4,Op e X.env)::No es X.env:=by rfl) (j:(Ps pos (No es X.env)).any (·.1)=M4:=by rfl):
  PE X (.Call (.Name x p) (e::es) [] pos) (tV X.K (KD m g h) E):=by
 obtain⟨ds,T,b,U,rd⟩:=L;refine(lO G y I hm J b U N ha i O j).imp λσ H Q W=>ex6 W λF δ β fr Y r=>⟨F,δ,β,fr,Y,?_⟩;obtain⟨r0,l,u,v⟩:=run.bind (R:=DenL X.K F) r;refine⟨r0,l,u,?_⟩;cases r0 with
 |error C=>exact v
 |ok as=>
  intro vs o t hd;obtain⟨d',β1,Z,q,r1⟩:=v vs o t hd;have hl:=hn _ _ _ _ u;have hz:=(rd F o).length;refine⟨by rw[Ny,←hd.length,←hz,hl],F,d'++h,β1,Z.fr,DenL.append q (rd F o),run.toE r1⟩
theorem Ja:PK X [] (tVA X.K ao E):=λpos g s σ H Q I h=>by obtain⟨F,δ,β,fr,i,r⟩:=h;exact JN pos g s σ H Q I (run.ret fr r DenL.nil)
theorem GC{f:FD}(ha:PE X e (tV X.K f E))(m:PK X kws (tVA X.K g E)):PK X (⟨nm,e,kpos⟩::kws) (tVA X.K (aa f g) E):=λpos h s σ H Q I ⟨F,δ,β,fr,j,r⟩=>
 HG ha m pos h s σ H Q I ⟨F,δ,β,fr,j,(run.bind (R:=Den X.K F) r).mono λv u ⟨d,β1,t,hd,r1⟩=>
  ⟨F,δ,β1,t.fr,j.tr (t.tr fr),(run.bind (R:=DenL X.K F) r1).mono λvs y o=>ex5 o λds β2 l i q=>run.ret l.fr q (DenL.cons (Den.tr (l.tr t.fr) _ _ hd) i)⟩⟩
def Gw(g:G)(δ:Ds)(β:Bg)(Q:Out->Bg->Prop):Prop:=∃o β',g δ β=on (o,β')/\Q o β'
end
section
variable{g h a b g1 g2:G}{δ δ1:Ds}{β β1 β2 β3:Bg}{Q R:Out->Bg->Prop}{i:Nat}{f fa fb fv:FD}{fl:FL}{fg:Dn->M (List (List D))}{d x y z:D}{ds as:List D}{t:Dn->M Bool}{c:Bool}{C:M3}{K:NA}
theorem Gw.mono(k:Gw g δ β R)(q:∀o β,R o β->Q o β):Gw g δ β Q:=let ⟨o,β',e,r⟩:=k;⟨o,β',e,q _ _ r⟩
theorem GW:aI g gNil=g:=by
 funext δ β;unfold aI gNil;split
 ·rename_i δ1 β1 e;exact e.symm
 ·rfl
theorem am(k:Gw (aI g gNil) δ β Q):Gw g δ β Q:=by rw[GW]at k;exact k
theorem w_end(q:Q (.nx δ) β):Gw gNil δ β Q:=⟨_,_,rfl,q⟩
theorem eA(e:g δ β=on (.nx δ1,β1))(k:Gw h δ1 β1 Q):Gw (aI g h) δ β Q:=by
 obtain⟨o,j,l,q⟩:=k;exact⟨o,j,by unfold aI;rw[e];exact l,q⟩
theorem bA(k:Gw h δ β Q):Gw (aI gNil h) δ β Q:=eA rfl k
theorem LS(k:Gw g (fz i δ) β Q):Gw (fzG i g) δ β Q:=k
theorem aE(e:f (vw δ) β=on (.ok d,β1))(k:Gw h (δ.set i (on (.sh d))) β1 Q):Gw (aI (eL i f) h) δ β Q:=eA (by unfold eL;rw[e]) k
theorem nP(e:f (vwA δ) β=on (.ok d,β1))(k:Gw h δ β1 Q):Gw (aI (e8 f) h) δ β Q:=eA (by unfold e8;rw[e]) k
theorem ki(e:t (vwA δ) β=on (.ok c,β1))(k:Gw (aI (if c=M2 then g1 else g2) h) δ β1 Q):Gw (aI (gIf t g1 g2) h) δ β Q:=by
 obtain⟨o,j,l,q⟩:=k;refine⟨o,j,?_,q⟩;rw[←l];unfold aI gIf;rw[e];cases c<;>rfl
theorem fJ(e:t (vwA δ) β=on (.ok M4,β1))(k:Gw (aI g2 h) δ β1 Q):Gw (aI (gIf t g1 g2) h) δ β Q:=ki e k
theorem aS(e:f (vwA δ) β=on (.ok d,β1))(q:Q (.rt d) β1):Gw (aI (cE f) h) δ β Q:=⟨_,_,by unfold aI cE;rw[e],q⟩
theorem GB(e:fg (vw δ) β=on (.ok rows,β1))(q:Q (.rg rows) β1):Gw (aI (k8 fg) h) δ β Q:=⟨_,_,by unfold aI k8;rw[e],q⟩
theorem EH{rows:List (List D)}(e:fg (vw δ) β=on (.ok rows,β1))(hn:rows.all noLs=M2)(k:Gw h (δ.set i (on (.grd rows))) β1 Q):Gw (aI (t0 i fg) h) δ β Q:=eA (by unfold t0;simp only[e,hn,N4]) k
theorem EG{rows:List (List D)}(e:fv (vwA δ) β=on (.ok d,β1))(j:fa (vwA δ) β1=on (.ok (.int ka),β2))(l:fb (vwA δ) β2=on (.ok (.int kb),β3))(m:δ.getD i MY=on (.grd rows))
  (n:ixN rows.length ka=on ja) (o:rows[ja]?=on ds) (p:ixN ds.length kb=on jb) (hn:noL d=M2) (k:Gw h (δ.set i (on (.grd (rows.set ja (ds.set jb d))))) β3 Q):Gw (aI (oY i fa fb fv) h) δ β Q:=
 eA (by unfold oY;simp only[e,j,l,m,n,o,p,hn,N4]) k
theorem rj(e:fl (vw δ) β=on (.ok ds,β1))(j:ds.length<=Nr)(k:Gw h (δ.set i (on (.own ds))) β1 Q):Gw (aI (tZ i fl) h) δ β Q:=eA (by unfold tZ;simp only[e,j,N4]) k
theorem rm{cs:List D}(j:δ.getD i MY=on (.own cs))(e:fl (vw δ) β=on (.ok [d],β1))(l:cs.length<Nr)(k:Gw h (δ.set i (on (.own (cs++[d])))) β1 Q):Gw (aI (t8 i fl) h) δ β Q:=
 eA (by unfold t8;simp only[j,e,l,N4]) k
theorem EI(e:f (vw δ) β=on (.ok d,β1))(j:tg d δ=on δ1)(k:Gw h δ1 β1 Q):Gw (aI (iW f tg) h) δ β Q:=eA (by unfold iW;simp only[e,j,Ol]) k
def Tn(I:Ds->Bg->Prop)(h:G)(Q:Out->Bg->Prop):Out->Bg->Prop:=λo β=>match o with
 | .nx δ=>I δ β
 | .ct δ=>I δ β
 | .bk δ=>Gw h δ β Q
 |o=>Q o β
theorem bC(e:it (vw δ) β=on (.ok ds,β1))(u:Nat->Ds->Bg->Prop)(N:u 0 δ β1)(step:∀i d δ β,ds[i]?=on d->u i δ β->∃δ1,tg d δ=on δ1/\Gw g δ1 β (Tn (u (i+1)) h Q))(k:∀δ β,u ds.length δ β->Gw h δ β Q):
  Gw (aI (t7 it tg g) h) δ β Q:=by
 have gen:∀(es:List D) (j:Nat) (δ:Ds) (β:Bg),es=ds.drop j->j+es.length=ds.length->u j δ β->Gw (aI (gLp tg g es) h) δ β Q:=by
  intro es
  induction es with
  |nil=>
   intro j δ β _ B F;simp at B;exact eA (g:=gLp tg g []) rfl (k δ β (B▸F))
  |cons d es ih=>
   intro j δ β L B F;have O:ds[j]?=on d:=by
    have:=Oi (λl=>l[0]?) L;simpa[V0]using this.symm
   obtain⟨δ1,v,o,β2,A,q⟩:=step j d δ β O F;have H:es=ds.drop (j+1):=by
    have:=Oi List.tail L;simpa[List.tail_drop]using this
   have go:∀m,u (j+1) m β2->Gw (aI (gLp tg g es) h) m β2 Q:=λm I=>ih (j+1) m β2 H (by simp at B;omega) I;have n:∀{r:G} {m:Ds},Gw (aI r h) m β2 Q->gLp tg g (d::es) δ β=r m β2->Gw (aI (gLp tg g (d::es)) h) δ β Q:=λ{r m} ⟨T,p,J,U⟩ W=>⟨T,p,by rw[←J];unfold aI;rw[W],U⟩;cases o with
   |nx m=>exact n (r:=gLp tg g es) (go m q) (by rw[gLp];simp only[v,A])
   |ct m=>exact n (r:=gLp tg g es) (go m q) (by rw[gLp];simp only[v,A])
   |bk m=>exact n (r:=gNil) (bA q) (by rw[gLp];simp only[v,A];rfl)
   |rt d'=>exact⟨_,β2,by unfold aI;rw[gLp];simp only[v,A],q⟩
   |rg d'=>exact⟨_,β2,by unfold aI;rw[gLp];simp only[v,A],q⟩
   |ex C m=>exact⟨_,β2,by unfold aI;rw[gLp];simp only[v,A],q⟩
 obtain⟨o,p,J,q⟩:=gen ds 0 δ β1 (by simp) (by simp) N;refine⟨o,p,?_,q⟩;rw[←J];unfold aI t7;rw[e]
theorem lq{S:Except M3 D->Bg->Prop}(k:Gw g (stD n ds) β (λo j=>match o with| .rt d=>S (.ok d) j| .nx _=>S (.ok .non) j| .ex C _=>S (.error C) j|_=>False)):∃r j,cr n g ds β=on (r,j)/\S r j:=by
 obtain⟨o,j,e,q⟩:=k;cases o with
 |rt d=>exact⟨.ok d,j,by unfold cr;rw[e],q⟩
 |nx δ=>exact⟨.ok .non,j,by unfold cr;rw[e],q⟩
 |ex C δ=>exact⟨.error C,j,by unfold cr;rw[e],q⟩
 |_=>exact q.elim
theorem IW{S:List (List D)->Bg->Prop}(k:Gw g (stD n ds) β (λo j=>match o with| .rg d=>S d j|_=>False)):∃r j,mt n g ds β=on (.ok r,j)/\S r j:=by
 obtain⟨o,j,e,q⟩:=k;cases o with
 |rg d=>exact⟨d,j,by unfold mt;rw[e],q⟩
 |_=>exact q.elim
theorem aR(k:Gw g (stD n ds) β (λo j=>j=β/\(match o with| .rt d=>r= .ok d| .nx _=>r= .ok .non| .ex C _=>r= .error C|_=>False))):cr n g ds β=on (r,β):=by
 obtain⟨l,j,e,q1,q2⟩:=lq (S:=λl j=>j=β/\r=l) (n:=n) (ds:=ds) (β:=β) (k.mono λo j h=>by
  cases o<;>first|exact h|exact h.2)
 subst q1 q2;exact e
theorem IX(k:Gw g (stD n ds) β (λo j=>j=β/\(match o with| .rg d=>r=d|_=>False))):mt n g ds β=on (.ok r,β):=by
 obtain⟨l,j,e,q1,q2⟩:=IW (S:=λl j=>j=β/\r=l) (n:=n) (ds:=ds) (β:=β) (k.mono λo j h=>by
  cases o<;>first|exact h|exact h.2)
 subst q1 q2;exact e
theorem aq{δ:Dn}(e:fl δ β=on (.ok as,β1))(j:m as β1=on r):bJ m fl δ β=on r:=by unfold bJ M.bind;rw[e];exact j
theorem FY{δ:Dn}(e:fl δ β=on (.ok as,β1))(j:m as β1=on r):ue m fl δ β=on r:=by unfold ue M.bind;rw[e];exact j
theorem x_2{δ:Dn}(e:fa δ β=on (.ok x,β1))(j:fb δ β1=on (.ok y,β2))(k:op x y=on z):f2 op fa fb δ β=on (.ok z,β2):=by unfold f2 M.bind;rw[e];simp only[j,M.ofO,k]
theorem x_1{δ:Dn}(e:fa δ β=on (.ok x,β1))(j:op x=on z):f1 op fa δ β=on (.ok z,β1):=by unfold f1 M.bind;rw[e];simp only[M.ofO,j]
theorem aj{δ:Dn}(e:fl δ β=on (.ok as,β1))(j:op as=on z):ax op fl δ β=on (.ok z,β1):=by unfold ax M.bind;rw[e];simp only[M.ofO,j]
theorem ac{δ:Dn}(e:fa δ β=on (.ok x,β1))(j:fl δ β1=on (.ok as,β2)):aa fa fl δ β=on (.ok (x::as),β2):=by unfold aa M.bind;rw[e];simp only[j,M.ret]
theorem bw{δ:Dn}(e:fl δ β=on (.ok as,β1))(j:op as=on ds):bG op fl δ β=on (.ok ds,β1):=by unfold bG M.bind;rw[e];simp only[j,M.ofO]
theorem c7{δ:Dn}(e:fa δ β=on (.ok x,β1))(j:dF x=on ds):bV fa δ β=on (.ok ds,β1):=by unfold bV M.bind;rw[e];simp only[j,M.ofO]
theorem x_B{δ:Dn}(e:fa δ β=on (.ok (.bl c),β1)):fB fa δ β=on (.ok c,β1):=by unfold fB M.bind;rw[e];rfl
theorem nM{δ:Dn}(e:fa δ β=on (.ok x,β1))(j:jD x=on c):gv fa δ β=on (.ok c,β1):=by unfold gv M.bind;rw[e];simp only[M.ofO,j]
theorem lA{δ:Dn}(e:t δ β=on (.ok c,β1)):gH t δ β=on (.ok (!c),β1):=by unfold gH M.bind;rw[e];rfl
theorem bt(ok:β.ok)(k:0<lot)(l:lot<1073741824):∃v e,gG [.bag,.int lot] β=on (.ok (.int v),e)/\0<=v/\v<lot/\e.ok:=by
 obtain⟨m,a1,j⟩:=uW ok k;exact⟨_,_,AK ok k l,m,a1,j⟩
theorem k6{n:Nat}{k:Int}(e:0<=k)(j:k<n):ixN n k=on k.toNat:=by unfold ixN;rw[Nf e,Nf j]
theorem yH{k:Int}{d:D}(e:0<=k)(h:xs[k.toNat]?=on d):ixD (.lst xs) (.int k)=on d:=by
 have j:k.toNat<xs.length:=(Nj.mp h).1;show atI xs k=on d;unfold atI;rw[k6 e (by omega)];exact h
theorem wM{x y:D}:ixD (.tup [x,y]) (.int 0)=on x:=rfl
theorem wL{x y:D}:ixD (.tup [x,y]) (.int 1)=on y:=rfl
end
section
variable{β β1 β2:Bg}{f g h i:FD}{t u:Dn->M Bool}{δ:Dn}{c e:Bool}{x y z w:Int}{d:D}
theorem rf(a:t δ β=on (.ok M4,β1))(b:u δ β1=on (.ok e,β2)):e9 t u δ β=on (.ok e,β2):=by
 unfold e9 M.bind;rw[a];simp[b]
theorem le_int:leD (.int x) (.int y)=on (.bl (decide (x<=y))):=rfl
theorem gt_int:gtD (.int x) (.int y)=on (.bl (decide (y<x))):=rfl
theorem uD(a:f δ β=on (.ok (.int x),β))(b:g δ β=on (.ok (.int y),β))(j:h δ β=on (.ok (.int z),β)):ef leD leD f g h δ β=on (.ok (.bl (decide (x<=y)&&decide (y<=z))),β):=by
 unfold ef M.bind;rw[a];simp only[b,le_int,M.ofO,asB];by_cases q:x<=y
 ·simp only[q,Q9,N4,j,le_int,Sd]
 ·simp only[q,QK,Np,N3,M.ret,RO]
theorem zu(a:f δ β=on (.ok (.int x),β))(b:g δ β=on (.ok (.int y),β))(j:h δ β=on (.ok (.int z),β))(k:i δ β=on (.ok (.int w),β)):md leD leD leD f g h i δ β=on (.ok (.bl (decide (x<=y)&&decide (y<=z)&&decide (z<=w))),β):=by
 unfold md FS M.bind;rw[a];simp only[b,le_int,M.ofO,asB];by_cases q:x<=y
 ·simp only[q,Q9,N4,j,le_int,Sd]
  by_cases q2:y<=z
  ·simp only[q2,Q9,N4,k,le_int,Sd]
  ·simp only[q2,QK,Np,N3,M.ret,RO]
 ·simp only[q,QK,Np,N3,M.ret,RO]
noncomputable abbrev gI(rows:LI):List (List D):=rows.map λr=>r.map D.int
noncomputable abbrev lG(rows:List (List D)):D:= .lst (rows.map D.lst)
abbrev gridD(rows:LI):D:=lG (gI rows)
noncomputable def pD(p:Int×Int):D:= .tup [.int p.1,.int p.2]
abbrev gP(b:LP):List (List D):=b.map λr=>r.map pD
abbrev cX(b:LP):D:=lG (gP b)
def Shp{α:Type}(r c:Nat)(m:List (List α)):Prop:=m.length=r/\∀row∈m,row.length=c
noncomputable def tot(rows:LI):Int:=(rows.map OY).sum
theorem aX(h:n<=1000):n<=Nr:=NG h (by decide)
theorem iD:∀r:List Int,noLs (r.map D.int)=M2
 |[]=>rfl
 |x::r=>by
  show(noL (.int x)&&noLs (r.map D.int))=M2;rw[iD r];rfl
theorem oE:∀r:List (Int×Int),noLs (r.map pD)=M2
 |[]=>rfl
 |x::r=>by
  show(noL (pD x)&&noLs (r.map pD))=M2;rw[oE r];rfl
theorem J7(b:LP):(gP b).all noLs=M2:=by
 rw[Qv];intro x a;obtain⟨r,_,rfl⟩:=Nw.mp a;exact oE r
theorem Shp.map{α a:Type}{f:α->a}{r c:Nat}{m:List (List α)}(h:Shp r c m):Shp r c (m.map λx=>x.map f):=⟨by rw[MZ,h.1],λrow b=>by
 obtain⟨x,j,rfl⟩:=Nw.mp b;rw[MZ];exact h.2 x j⟩
theorem Shp.set{α:Type}{r c i j:Nat}{m:List (List α)}{row:List α}{v:α}(h:Shp r c m)(b:m[i]?=on row):Shp r c (m.set i (row.set j v)):=⟨by rw[N7,h.1],λx a=>by
 rcases O9 a with a|rfl
 ·exact h.2 x a
 ·rw[N7];exact h.2 row (NB b)⟩
theorem Shp.at{α:Type}{r c i:Nat}{m:List (List α)}(h:Shp r c m)(b:i<r):∃row,m[i]?=on row/\row.length=c:=by
 have a:i<m.length:=by rw[h.1];exact b
 exact⟨m[i],M6 a,h.2 _ (Oa a)⟩
theorem FU{α:Type}{l:List α}{i:Nat}(h:i<l.length):∃x,l[i]?=on x:=⟨l[i],M6 h⟩
theorem i7:∀{xs:List Int} {j:Nat} {x v:Int},xs[j]?=on x->(xs.set j v).sum=xs.sum-x+v
 |[],j,x,v,h=>by simp at h
 |y::xs,0,x,v,h=>by
  simp at h;subst h;simp only[Pd,NJ];omega
 |y::xs,j+1,x,v,h=>by
  have h':xs[j]?=on x:=by simpa using h
  simp only[Pc,NJ,i7 h'];omega
theorem GI{rows:LI}{i j:Nat}{row:List Int}{x v:Int}(a:rows[i]?=on row)(b:row[j]?=on x):tot (rows.set i (row.set j v))=tot rows-x+v:=by
 unfold tot;rw[RG,i7 (x:=row.sum) (by rw[M9,a];rfl),i7 b];omega
theorem J8{rows:LI}{i j:Nat}{row:List Int}(h:∀r∈rows,∀x∈r,0<=x)(k:rows[i]?=on row)(l:0<=v):∀r∈rows.set i (row.set j v),∀x∈r,0<=x:=λr a x b=>by
 rcases O9 a with a|rfl
 ·exact h r a x b
 ·rcases O9 b with b|rfl
  ·exact h row (NB k) x b
  ·exact l
theorem kr:∀{xs:List Int},(∀x∈xs,0<=x)->0<=xs.sum
 |[],_=>by simp
 |y::xs,h=>by
  have:=kr (xs:=xs) λx a=>h x (M5 _ a);have:=h y Nb;simp only[NJ];omega
theorem tM:∀{xs:List Int},(∀x∈xs,0<=x)->∀x∈xs,x<=xs.sum
 |[],_,x,hx=>by cases hx
 |y::xs,h,x,hx=>by
  have:=kr (xs:=xs) λx hx=>h x (M5 _ hx);have:=h y Nb;rcases Nq.mp hx with rfl|hx
  ·simp only[NJ];omega
  ·have:=tM (xs:=xs) (λx hx=>h x (M5 _ hx)) x hx
   simp only[NJ];omega
theorem Ki(h:∀r∈rows,∀x∈r,0<=x):∀r∈rows,∀x∈r,x<=tot rows:=λr a x b=>by
 have k:=tM (h r a) x b;have l:=tM (xs:=rows.map OY) (λs hs=>by
  obtain⟨q,j,rfl⟩:=Nw.mp hs;exact kr (h q j)) r.sum (Nw.mpr ⟨r,a,rfl⟩)
 unfold tot;omega
structure Tab (r c:Nat) (rows:LI):Prop where
 shp:Shp r c rows
 nn:∀row∈rows,∀x∈row,0<=x
 tot:tot rows<=40
 r0:1<=r
 r1:r<=4
 c0:1<=c
 c1:c<=6
theorem dR(ns:List Int):fK [.lst (ns.map D.int)]=on (.int ns.sum):=by
 show((dO (ns.map D.int)).map λl=>D.int l.sum)=_;have:∀ns:List Int,dO (ns.map D.int)=on ns:=λns=>by
  induction ns with
  |nil=>rfl
  |cons n ns ih=>simp[dO,ih]
 rw[this];rfl
theorem rg1{n:Int}(a:0<=n)(h:n<=10^9):fA [.int n]=on (aU 0 n.toNat):=by
 have q:(decide (-(2^62)<=n)&&decide (n<2^62))=M2:=by
  simp only[NO,NZ];omega
 show(if(decide (-(2^62)<=n)&&decide (n<2^62))=M2 then on (aU 0 n.toNat)else MY)=_;rw[Nf q]
theorem ER{d:D}(h:(aU 0 n)[k]?=on d):k<n/\d= .int (k:Int):=by
 unfold aU at h;have a:k<n:=by
  have:=(Nj.mp h).1;simpa using this
 rw[M9,Oq a]at h;exact⟨a,by cases h;simp⟩
theorem sS(n:Nat):(aU 0 n).length=n:=by simp[aU]
theorem bf{α:Type}{f:FD}{δ:Dn}{β:Bg}(xs:List α)(u v:α->D)(a:it δ β=on (.ok (xs.map u),β))
  (b:∀x∈xs,∃δ1,tg (u x) (cSt nv caps δ)=on δ1/\f δ1 β=on (.ok (v x),β)) (j:xs.length<=Nr):cb nv caps it tg (λ_=>M.ret M2) (cEm f) δ β=on (.ok (.lst (xs.map v)),β):=by
 refine qa a ?_ (by rw[MZ];exact j);have gen:∀xs:List α,(∀x∈xs,∃δ1,tg (u x) (cSt nv caps δ)=on δ1/\f δ1 β=on (.ok (v x),β))->cLp tg (λ_=>M.ret M2) (cEm f) (xs.map u) (cSt nv caps δ) β=on (.ok (xs.map v),β):=by
  intro xs
  induction xs with
  |nil=>intro _;rfl
  |cons x xs ih=>
   intro h;obtain⟨δ1,k,l⟩:=h x Nb;have m:=ih λy n=>h y (M5 _ n);rw[Nl,cLp];simp only[k,M.bind,M.ret,reduceIte,cEm,l,m,Nl,OM,OF]
 exact gen xs b
theorem qR{α:Type}{f:FL}{δ:Dn}{β:Bg}(xs:List α)(u:α->D)(v:α->List D)(a:it δ β=on (.ok (xs.map u),β))
  (b:∀x∈xs,∃δ1,tg (u x) (cSt nv caps δ)=on δ1/\f δ1 β=on (.ok (v x),β)) (j:xs.length<=Nr):ie nv caps it tg (λ_=>M.ret M2) (uu f) δ β=on (.ok (xs.map v),β):=by
 have gen:∀xs:List α,(∀x∈xs,∃δ1,tg (u x) (cSt nv caps δ)=on δ1/\f δ1 β=on (.ok (v x),β))->nG tg (λ_=>M.ret M2) (uu f) (xs.map u) (cSt nv caps δ) β=on (.ok (xs.map v),β):=by
  intro xs
  induction xs with
  |nil=>intro _;rfl
  |cons x xs ih=>
   intro h;obtain⟨δ1,k,l⟩:=h x Nb;have m:=ih λy n=>h y (M5 _ n);rw[Nl,nG];simp only[k,M.bind,M.ret,reduceIte,uu,l,m,Nl,OM,OF]
 unfold ie;simp only[a,gen xs b,MZ,j,N4]
theorem y6{α:Type}{f:FD}{δ:Dn}{β:Bg}(xs:List α)(u:α->D)(v:α->D)(a:it δ β=on (.ok (xs.map u),β))
  (b:∀x∈xs,∃δ1,tg (u x) (cSt nv caps δ)=on δ1/\f δ1 β=on (.ok (v x),β)) (j:xs.length<=Nr):f8 nv caps it tg (λ_=>M.ret M2) (cEm f) δ β=on (.ok (xs.map v),β):=by
 have gen:∀xs:List α,(∀x∈xs,∃δ1,tg (u x) (cSt nv caps δ)=on δ1/\f δ1 β=on (.ok (v x),β))->cLp tg (λ_=>M.ret M2) (cEm f) (xs.map u) (cSt nv caps δ) β=on (.ok (xs.map v),β):=by
  intro xs
  induction xs with
  |nil=>intro _;rfl
  |cons x xs ih=>
   intro h;obtain⟨δ1,k,l⟩:=h x Nb;have m:=ih λy n=>h y (M5 _ n);rw[Nl,cLp];simp only[k,M.bind,M.ret,reduceIte,cEm,l,m,Nl,OM,OF]
 unfold f8;simp only[a,gen xs b,MZ,j,N4]
theorem JF{ds:List D}{c:Nat}(a:ds.length<=Nr)(b:ds.length*c<=Nr)(j:c<=1000000):sT ds (.int (c:Int))=on (Nx c ds).flatten:=by
 have q:(decide (-(2^63)<=(c:Int))&&decide ((c:Int)<2^63)&&decide (ds.length<=Nr)&&decide (ds.length*(c:Int).toNat<=Nr))=M2:=by
  simp only[NO,NZ];exact⟨⟨⟨by omega,by omega⟩,a⟩,by rw[OJ];exact b⟩
 unfold sT;simp only[q,N4];rw[OJ]
theorem uc{α:Type}(x:α):∀c:Nat,(Nx c [x]).flatten=Nx c x
 |0=>rfl
 |c+1=>by rw[NX,PU,uc x c];rfl
theorem Mu{f:FD}{g:FD}{x:D}{c:Nat}{δ:Dn}{β:Bg}(b:f δ β=on (.ok x,β))(j:g δ β=on (.ok (.int (c:Int)),β))(k:c<=1000):AB (aa f ao) g δ β=on (.ok (Nx c x),β):=by
 have a:[x].length<=Nr:=by rw[Og];decide
 have l:[x].length*c<=Nr:=by rw[Og,Nat.one_mul];exact aX k
 have r:=JF (ds:=[x]) (c:=c) a l (by omega);rw[uc]at r;have s:szL [x]=on [x]:=by
  unfold szL;rw[Nf a]
 have m:aa f ao δ β=on (.ok [x],β):=ac b rfl;unfold AB;rw[M.bind_ok m,s,M.bind_some,M.bind_ok j,r];rfl
theorem zf(bs:List Bool):dE (bs.map D.bl)=on bs:=by
 induction bs with
 |nil=>rfl
 |cons b bs ih=>simp[dE,ih]
theorem any_map{α:Type}(xs:List α)(p:α->Bool):xa [.lst (xs.map λx=>D.bl (p x))]=on (.bl (xs.any p)):=by
 show(dE _).map _=_;rw[show(xs.map λx=>D.bl (p x))=(xs.map p).map D.bl by rw[Nk];rfl,zf];simp only[Ol,List.any_map];rfl
theorem iF{α:Type}(r:Nat)(x:α):(Nd r).map (λ_=>x)=Nx r x:=by rw[List.map_const',ND]
theorem db{xs:List D}(h:xs.length=r):cL [.lst xs]=on (.int (r:Int)):=by subst h;rfl
theorem yE{rows:List (List D)}(h:rows.length=r):cL [lG rows]=on (.int (r:Int)):=db (by rw[MZ,h])
theorem rM{rows:List (List D)}{k:Nat}{row:List D}(h:rows[k]?=on row):ixD (lG rows) (.int (k:Int))=on (.lst row):=yH (by omega) (by rw[OJ,M9,h];rfl)
theorem cx{xs:List D}{k:Nat}{d:D}(h:xs[k]?=on d):ixD (.lst xs) (.int (k:Int))=on d:=yH (by omega) (by rw[OJ];exact h)
theorem gf{x y:D}:bY [x,y]=on (.tup [x,y]):=by
 unfold bY;rw[Nf (show[x,y].length<=Nr by rw[Nm,Og];decide)]
theorem Kg:bT []=on (.lst []):=by
 unfold bT;rw[Nf (show([]:List D).length<=Nr by rw[Pq];decide)]
theorem pL{x:D}:bT [x]=on (.lst [x]):=by
 unfold bT;rw[Nf (show[x].length<=Nr by rw[Og];decide)]
theorem wx{x y:Int}:tB [.int x,.int y]=on (.int (Qk x y)):=by
 unfold tB;simp only;congr 2;split<;>omega
theorem Ke{x y:Int}:wz [.int x,.int y]=on (.int (Vy x y)):=by
 unfold wz;simp only;congr 2;split<;>omega
theorem eq_int{x y:Int}:iX (.int x) (.int y)=on (.bl (decide (x=y))):=by rw[jX]
theorem ne_int{x y:Int}:dL (.int x) (.int y)=on (.bl (!decide (x=y))):=by rw[jW]
theorem vH{i:Nat}{d:D}(h:(cI 0 xs)[i]?=on d):∃x,xs[i]?=on x/\d= .tup [.int (i:Int),x]:=by
 obtain⟨x,b,a⟩:=ld h;rw[Pl]at a;exact⟨x,b,a⟩
theorem bH{α a:Type}{f:α->a}{xs:List α}{i:Nat}{d:a}(h:(xs.map f)[i]?=on d):∃x,xs[i]?=on x/\d=f x:=by
 rw[M9]at h;cases q:xs[i]? with
 |none=>rw[q]at h;cases h
 |some x=>rw[q]at h;exact⟨x,rfl,by cases h;rfl⟩
noncomputable abbrev l6(r c:Nat):LP:=Nx r (Nx c (0,40))
theorem yV(r c:Nat):Shp r c (l6 r c):=⟨by simp,λrow h=>by rw[(O3.mp h).2];simp⟩
noncomputable def at2{α:Type}(m:List (List α))(i j:Nat):Option α:=(m[i]?).bind λrow=>row[j]?
theorem at2_set{α:Type}{m:List (List α)}{i j k l:Nat}{row:List α}{v x:α}(a:m[i]?=on row)(h:at2 (m.set i (row.set j v)) k l=on x):(k=i/\l=j/\x=v)\/(at2 m k l=on x/\¬(k=i/\l=j)):=by
 unfold at2 at h⊢;rw[N9]at h;by_cases q:i=k
 ·subst q
  rw[Nf rfl]at h;split at h
  ·simp only[OD]at h
   rw[N9]at h;by_cases w:j=l
   ·subst w
    rw[Nf rfl]at h;split at h
    ·exact .inl ⟨rfl,rfl,(NN h).symm⟩
    ·cases h
   ·rw[M8 w]at h
    exact .inr ⟨by rw[a];exact h,λz=>w z.2.symm⟩
  ·cases h
 ·rw[M8 q]at h
  exact .inr ⟨h,λz=>q z.1.symm⟩
theorem vQ{α:Type}{m:List (List α)}{i j:Nat}{x:α}(h:at2 m i j=on x):∃row∈m,x∈row:=by
 unfold at2 at h;cases q:m[i]? with
 |none=>rw[q]at h;cases h
 |some row=>rw[q]at h;exact⟨row,NB q,NB h⟩
theorem uv{α:Type}{m:List (List α)}{i j:Nat}{row:List α}{x:α}(a:m[i]?=on row)(b:row[j]?=on x):at2 m i j=on x:=by unfold at2;rw[a];exact b
structure PairOk (p:Int×Int):Prop where
 l:0<=p.1
 m:p.1<=p.2
 h:p.2<=40
def Kp(rows:LI)(b:LP):Prop:=∀i j x p,at2 rows i j=on x->at2 b i j=on p->p.1<=x/\x<=p.2
structure Bnd (r c:Nat) (b:LP):Prop where
 shp:Shp r c b
 ok:∀row∈b,∀p∈row,PairOk p
theorem Bnd.set{r c i j:Nat}{b:LP}{row:List (Int×Int)}(h:Bnd r c b)(l:b[i]?=on row)(m:PairOk p):Bnd r c (b.set i (row.set j p)):=⟨h.shp.set l,λq k x a=>by
 rcases O9 k with k|rfl
 ·exact h.ok q k x a
 ·rcases O9 a with a|rfl
  ·exact h.ok row (NB l) x a
  ·exact m⟩
theorem Bnd.free(r c:Nat):Bnd r c (l6 r c):=⟨yV r c,λrow b p a=>by
 rw[(O3.mp b).2]at a;rw[(O3.mp a).2];exact⟨by decide,by decide,by decide⟩⟩
theorem Tab.le40{r c:Nat}(t:Tab r c rows):∀row∈rows,∀x∈row,0<=x/\x<=40:=λrow a x b=>⟨t.nn row a x b,by
 have:=Ki t.nn row a x b;have:=t.tot;omega⟩
theorem Kp.free{r c:Nat}(t:Tab r c rows):Kp rows (l6 r c):=λi j x p k l=>by
 obtain⟨row,m,b⟩:=vQ k;obtain⟨q,n,a⟩:=vQ l;rw[(O3.mp n).2]at a;rw[(O3.mp a).2];exact t.le40 row m x b
theorem Kp.set{b:LP}{i j:Nat}{row:List (Int×Int)}{p:Int×Int}{x:Int}(h:Kp rows b)(n:b[i]?=on row)(o:at2 rows i j=on x)(r:p.1<=x)(v:x<=p.2):Kp rows (b.set i (row.set j p)):=λk l y q a m=>by
 rcases at2_set n m with⟨rfl,rfl,rfl⟩|⟨m,_⟩
 ·rw[o]at a
  cases a;exact⟨r,v⟩
 ·exact h k l y q a m
theorem IU{α:Type}{δ:Dn}{β:Bg}(xs:List α)(u:α->D)(o:α->List D)(a:it δ β=on (.ok (xs.map u),β))
  (j:∀x∈xs,∃δ1,tg (u x) (cSt nv caps δ)=on δ1/\b δ1 β=on (.ok (o x),β)) (k:(xs.flatMap o).length<=Nr):cb nv caps it tg (λ_=>M.ret M2) b δ β=on (.ok (.lst (xs.flatMap o)),β):=by
 refine qa a ?_ k;have gen:∀xs:List α,(∀x∈xs,∃δ1,tg (u x) (cSt nv caps δ)=on δ1/\b δ1 β=on (.ok (o x),β))->cLp tg (λ_=>M.ret M2) b (xs.map u) (cSt nv caps δ) β=on (.ok (xs.flatMap o),β):=by
  intro xs
  induction xs with
  |nil=>intro _;rfl
  |cons x xs ih=>
   intro h;obtain⟨δ1,l,m⟩:=h x Nb;have n:=ih λy p=>h y (M5 _ p);rw[Nl,cLp];simp only[l,M.bind,M.ret,reduceIte,m,n,Om]
 exact gen xs j
theorem yn{α:Type}{f:FD}{δ:Dn}{β:Bg}(xs:List α)(u v:α->D)(a:it δ β=on (.ok (xs.map u),β))
  (b:∀x∈xs,∃δ1,tg (u x) δ=on δ1/\f δ1 β=on (.ok (v x),β)):cNx it tg (λ_=>M.ret M2) (cEm f) δ β=on (.ok (xs.map v),β):=by
 have gen:∀xs:List α,(∀x∈xs,∃δ1,tg (u x) δ=on δ1/\f δ1 β=on (.ok (v x),β))->cLp tg (λ_=>M.ret M2) (cEm f) (xs.map u) δ β=on (.ok (xs.map v),β):=by
  intro xs
  induction xs with
  |nil=>intro _;rfl
  |cons x xs ih=>
   intro h;obtain⟨δ1,j,k⟩:=h x Nb;have l:=ih λy m=>h y (M5 _ m);rw[Nl,cLp];simp only[j,M.bind,M.ret,reduceIte,cEm,k,l,Nl,OM,OF]
 unfold cNx;rw[M.bind_ok a];exact gen xs b
theorem gR{α a:Type}(u:α->D)(v:a->D):∀(xs:List α) (ys:List a),c5 (xs.map u) (ys.map v)=(xs.zip ys).map λp=>D.tup [u p.1,v p.2]
 |[],ys=>by simp[c5]
 |x::xs,[]=>by simp[c5]
 |x::xs,y::ys=>by simp[c5,gR u v xs ys]
theorem um{xs:List D}{k:Nat}:lf xs (on (k:Int)) MY=xs.drop k:=by
 unfold lf;rw[HT.sIx_none,HT.sIx_nat];by_cases h:k<=xs.length
 ·rw[show Qk k xs.length=k by omega]
  rw[OR (by rw[TR];omega)]
 ·rw[P9 (by omega),P9 (by omega)]
  simp
theorem qj{f g:FD}{δ:Dn}{β:Bg}(a:f δ β=on (.ok (.lst xs),β))(b:g δ β=on (.ok (.int k),β)):fSl f (on g) MY δ β=on (.ok (.lst (lf xs (on k) MY)),β):=by
 unfold fSl l8;simp only[M.bind,a,b,M.ret,M.ofO,zi,slD]
theorem qd{xs ys:List D}(h:xs.length+ys.length<=1000):j4 (.lst xs) (.lst ys)=on (.lst (xs++ys)):=by
 unfold j4;simp only;rw[Nf (aX h)]
def jx:List D->List M7->Prop
 |[],[]=>True
 | .int i::ds,.int j _::vs=>i=j/\jx ds vs
 | .str x::ds,.str y _::vs=>x=y/\jx ds vs
 | .bl x::ds,.bool y::vs=>x=y/\jx ds vs
 | .non::ds,.none::vs=>jx ds vs
 |_,_=>False
theorem f6{K:NA}:∀{ds:List D} {vs:List M7},jx ds vs->∃xs,ar xs vs/\∀F H,DenL K F H ds xs
 |[],[],_=>⟨[],.nil,λ_ _=>DenL.nil⟩
 | .int i::ds,.int j t::vs,h=>by
  obtain⟨e,h⟩:=h;subst e;obtain⟨xs,a,b⟩:=f6 (K:=K) h;exact⟨.int i::xs,.cons ⟨t,rfl⟩ a,λF H=>DenL.cons rfl (b F H)⟩
 | .str i::ds,.str j t::vs,h=>by
  obtain⟨e,h⟩:=h;subst e;obtain⟨xs,a,b⟩:=f6 (K:=K) h;exact⟨.str i::xs,.cons ⟨t,rfl⟩ a,λF H=>DenL.cons rfl (b F H)⟩
 | .bl i::ds,.bool j::vs,h=>by
  obtain⟨e,h⟩:=h;subst e;obtain⟨xs,a,b⟩:=f6 (K:=K) h;exact⟨.bl i::xs,.cons rfl a,λF H=>DenL.cons rfl (b F H)⟩
 | .non::ds,.none::vs,h=>by
  obtain⟨xs,a,b⟩:=f6 (K:=K) (ds:=ds) (vs:=vs) h;exact⟨.non::xs,.cons rfl a,λF H=>DenL.cons rfl (b F H)⟩
def VIs(K:NA)(d:D)(u:M7):Prop:=∃v,aF v u/\∀F H,Den K F H d v
theorem lD{K:NA}{i:Int}{t:Tok}:VIs K (.int i) (.int i t):=⟨.int i,⟨t,rfl⟩,λ_ _=>rfl⟩
theorem GD{K:NA}{q3:Array M7}(a:K.lookup p=on ⟨q1,q2,.seq q3 q4,q5⟩)(b:q1= .type "tuple")(j:q3.size<=Nr)(k:jx ds q3.toList):VIs K (.tup ds) (.ref p):=by
 obtain⟨xs,l,m⟩:=f6 (K:=K) k;exact⟨.ref p,rfl,λF H=>⟨p,xs,rfl,.inr ⟨_,q3,q4,a,b,rfl,j,l⟩,m F H⟩⟩
theorem o6{K:NA}{mg:NY->Option M7}{x:NY}{d:D}{u:M7}(h:mg x=on u)(v:VIs K d u):mx K mg x d:=let ⟨w,h1,h2⟩:=v;⟨u,w,h,h1,h2⟩
theorem KJ{K:NA}{ps:List NY}{us:List M7}(n:Nat)(l:ps.length=n+us.length)(b:∀(s:Ng) (vs:List M7),K.In s.heap->vs.length=n->Tu s fd ⟨vs,[]⟩ (ps.zip (vs++us)))(h:∃vs,ar vs us/\∀F H,DenL K F H dd vs):eG K fd ps dd:=
 let ⟨vs,h1,h2⟩:=h
 ⟨us,vs,λs a j k=>b s a j (by rw[Ny]at k;omega),h1,h2⟩
theorem KG{K:NA}:∃vs,ar vs []/\∀F H,DenL K F H [] vs:=⟨[],.nil,λ_ _=>DenL.nil⟩
theorem IS{K:NA}{d:D}{u:M7}(v:VIs K d u)(h:∃vs,ar vs us/\∀F H,DenL K F H ds vs):∃vs,ar vs (u::us)/\∀F H,DenL K F H (d::ds) vs:=by
 obtain⟨w,a,b⟩:=v;obtain⟨vs,j,k⟩:=h;exact⟨w::vs,.cons a j,λF H=>DenL.cons (b F H) (k F H)⟩
inductive KSr (K:NA):List (Sr D)->List (Sr M7)->Prop where
 |nil:KSr K [] []
 |kw {j:Nat} {a:List (Sr D)} {c:List (Sr M7)}:KSr K a c->KSr K (.kw j::a) (.kw j::c)
 |df {x:D} {y:M7} {a:List (Sr D)} {c:List (Sr M7)}:VIs K x y->KSr K a c->KSr K (.df x::a) (.df y::c)
theorem KSr.mid{K:NA}:∀{a:List (Sr D)} {c:List (Sr M7)},KSr K a c->∃b:List (Sr V),SrR aF b c/\SrR (λd v=>∀F H,Den K F H d v) a b
 |_,_,.nil=>⟨[],.nil,.nil⟩
 |_,_,.kw (j:=j) h=>let ⟨b,h1,h2⟩:=KSr.mid h;⟨.kw j::b,.kw h1,.kw h2⟩
 |_,_,.df v h=>let ⟨b,h1,h2⟩:=KSr.mid h;let ⟨w,g1,g2⟩:=v;⟨.df w::b,.df g1 h1,.df g2 h2⟩
theorem MF{K:NA}{ps ks:List NY}{src:List (Sr D)}{sv:List (Sr M7)}(h:KSr K src sv)(j:ps.length=n+src.length)(k:0<ps.length)(b:∀(s:Ng) (us a:List M7),K.In s.heap->us.length=n->a.length=ks.length->Tu s fd ⟨us,ks.zip a⟩ (ps.zip (us++sv.map (Sr.pick .none a)))):KwOk K fd ps ks n src:=
 ⟨let ⟨sx,h1,h2⟩:=h.mid;⟨sv,sx,h1,h2,b⟩,j,k⟩
variable{X:Cx}{E:St->XK}{K:NA}{st:OA}
end
section
variable{h:G}{δ:Ds}{β β1 β2 β3:Bg}{Q:Out->Bg->Prop}{i:Nat}{fa fb fv:FD}{fl:FL}{d d0 d1:D}{ds:List D}{op:D->D->Option D}
theorem LO{δ:Dn}{β β1:Bg}(a:t δ β=on (.ok M2,β1))(b:f δ β1=on r):fIf t f g δ β=on r:=by
 unfold fIf M.bind;rw[a];exact b
theorem LQ{δ:Dn}{β β1:Bg}(a:t δ β=on (.ok M4,β1))(b:g δ β1=on r):fIf t f g δ β=on r:=by
 unfold fIf M.bind;rw[a];exact b
theorem EF{d:D}{δ:Dn}{β:Bg}(e:δ.getD n MY=on d):ad n δ β=on (.ok d,β):=by unfold ad;rw[e];rfl
end
section
variable{β β1 β2:Bg}{f g h:FD}{δ:Dn}{x y z:Int}
theorem oI{K:NA}{f:NY}:∀{ns:List NY} {ds:List D} {xs:List V},DenL K F H ds xs->(ns.zip ds).lookup f=on d->∃v,(ns.zip xs).lookup f=on v/\Den K F H d v
 |[],ds,xs,h,e=>by simp at e
 |n::ns,[],xs,h,e=>by simp at e
 |n::ns,c::ds,xs,h,e=>by
  obtain⟨x,r,q,a,b⟩:=h;subst q;rw[Pe,Sy]at e⊢;split at e
  ·rename_i z
   cases e;exact⟨x,rfl,a⟩
  ·rename_i z
   exact oI b e
theorem qF{α:Type}:∀{ns:List NY} {xs:List α},m∉ns->(ns.zip xs).lookup m=MY
 |[],xs,_=>by simp
 |n::ns,[],_=>by simp
 |n::ns,x::xs,h=>by
  rw[Pe,Sy];have a:m≠n:=λz=>h (by rw[z];exact Nb);have b:m∉ns:=λz=>h (M5 _ z);rw[show(m==n)=M4 by simpa using a];exact qF b
theorem eG.nil{K:NA}(b:aC K fd ps []):eG K fd ps []:=⟨[],[],b,.nil,λ_ _=>DenL.nil⟩
end
section
variable{X:Cx}{E:St->XK}{o e:Expr}{es:List Expr}{pos p apos kpos:RN}{x m:NY}{k n:Nat}{f C:M3}{fd:NK}{ps ks:List NY}{kws:List Tx}
noncomputable def wU(C:M3)(f:NY):D->Option D
 | .obj C' ns ds=>if C'=C then(ns.zip ds).lookup f else MY
 |_=>MY
theorem rp{f:NY}(c:Cls X.K C)(n:dA X.K C f)(j:PE X e (tV X.K g E))(l:Q4 e f X.env (Op e X.env)=Op e X.env:=by rfl):PE X (.Attribute e f pos) (tV X.K (f1 (wU C f) g) E):=
 (JV j l).imp λL H Q i=>ex6 i λF δ β fr q h=>⟨F,δ,β,fr,q,(run.bind (R:=Den X.K F) h).mono λv r i=>by
  obtain⟨d,β1,t,hd,r1⟩:=i;obtain⟨d3,b,k⟩:=run.ofO r1;cases d<;>first|cases b|skip
  rename_i u ns ds;unfold wU at b;simp only at b;split at b
  ·rename_i z
   subst z;unfold Den at hd;obtain⟨a,y,xs,rfl,N,A,O,B⟩:=hd;obtain⟨w,I,J⟩:=oI B b;exact⟨a,u,y,_,w,rfl,A,c,n,I,k w r (To.refl t.fr) J⟩
  ·cases b⟩
def o3(C:M3)(m:NY)(a:List D->M D)(b:FD)(g:FL)(c:List D):FD:=λδ=>M.bind (b δ) λd=>match d with
 | .obj C' ns _=>if C'=C/\m∉ns then M.bind (g δ) λas=>a (d::(as++c))else M.fail
 |_=>M.fail
theorem tE{i:List D}{K:NA}(N:∀vs H Q E,spF K n mf vs H Q E->R vs H Q E)(rd:∀F H,DenL K F H i dvs)(hn:∀δ β r b,g δ β=on (.ok r,b)->r.length+i.length+1=n)(h:tV K (o3 C m mf fo g i) E σ H Q):vZ C m R dvs E (tV K fo E) (tVA K g E) σ H Q:=by
 obtain⟨F,δ,β,fr,A,h⟩:=h;refine⟨F,δ,β,fr,A,(run.bind (R:=Den K F) h).mono λv O T=>ex5 T λd β1 t hd r1=>?_⟩;have fail:∀{j:M D},j=M.fail->run (Den K F) F E σ j O Q β1->False:=λ{j} e r=>by
  obtain⟨r,b,B,_⟩:=r;rw[e]at B;cases B
 cases d<;>first|exact(fail rfl r1).elim|skip
 rename_i C' ns ds;simp only at r1;split at r1
 ·rename_i z
  obtain⟨rfl,hm⟩:=z;have l:=hd;unfold Den at hd;obtain⟨a,U,xs,rfl,h1,W,h3,h4⟩:=hd;refine⟨a,U,_,rfl,W,qF hm,F,δ,β1,t.fr,A.tr (t.tr fr),?_⟩;obtain⟨r0,q,I,J⟩:=run.bind (R:=DenL K F) r1;refine⟨r0,q,I,?_⟩;cases r0 with
  |error C=>exact J
  |ok as=>
   intro vs u Y c;obtain⟨d',β2,L,y,Z⟩:=J vs u Y c;have hl:=hn _ _ _ _ I;have hz:=(rd F u).length;refine N _ _ _ _ ⟨by rw[Nm,Ny,←c.length,←hz,hl],F,_::(d'++i),β2,L.fr,DenL.cons (Den.tr (L.tr t.fr) _ _ l) (DenL.append y (rd F u)),run.toE Z⟩
 ·exact(fail rfl r1).elim
theorem xo{a:List D}(c:Cls X.K C)(hm:Meth X.K C m f)(G:FnOk X.prog X.w X.K X.mg X.base (CXE X.prog X.w) k f fd ps (spF X.K n mf))(l:Room k X.A)(q:eG X.K fd ps a)(t:cT (CXE X.prog X.w) X E)
  (u:PE X o (tV X.K fo E)) (ha:PA X (e::es) (tVA X.K g E)) (hn:∀δ β r j,g δ β=on (.ok r,j)->r.length+a.length+1=n)
  (d:No (e::es) X.env=(M4,Op e X.env)::No es X.env:=by rfl) (i:(Ps pos (No es X.env)).any (·.1)=M4:=by rfl)
  (v:Op (.Call (.Attribute o m apos) (e::es) [] pos) X.env=(do
   let ov ←Op o X.env
   QY apos.atName
   let (f,first) ←Ro [ov] (TD ov m pl)
   callWith pos f first (Ps pos (No (e::es) X.env)) (Qp pos (Pf [] X.env))):=by rfl):
  PE X (.Call (.Attribute o m apos) (e::es) [] pos) (tV X.K (o3 C m mf fo g a) E):=by
 obtain⟨ds,y,b,B,rd⟩:=q;exact(HK (pl:=pl) u c hm G l b B t ha d i v).imp λF H Q h=>tE (λ_ _ _ _ z=>z) rd hn h
theorem pq{d:List D}(c:Cls X.K C)(hm:Meth X.K C m f)(G:FnOk X.prog X.w X.K X.mg X.base (CXE X.prog X.w) k f fd ps (spF X.K n mf))(i:Room k X.A)(j:eG X.K fd ps d)(l:cT (CXE X.prog X.w) X E)
  (q:PE X o (tV X.K fo E)) (hn:d.length+1=n)
  (t:Op (.Call (.Attribute o m apos) [] [] pos) X.env=(do
   let ov ←Op o X.env
   QY apos.atName
   let (f,first) ←Ro [ov] (TD ov m pl)
   callWith pos f first (Ps pos (No [] X.env)) (Qp pos (Pf [] X.env))):=by rfl):
  PE X (.Call (.Attribute o m apos) [] [] pos) (tV X.K (o3 C m mf fo ao d) E):=by
 obtain⟨ds,u,b,y,rd⟩:=j;refine(zZ (pl:=pl) q c hm G i b y l t).imp λU H Q h=>?_;obtain⟨F,δ,β,fr,B,h⟩:=tE (λ_ _ _ _ z=>z) rd (λδ β r I e=>by cases e;simpa using hn) h;refine⟨F,δ,β,fr,B,h.mono λv W ⟨a,J,fs,L,ha,N,Y,O,β2,g,R,T⟩=>⟨a,J,fs,L,ha,N,?_⟩⟩;exact run.ret g T DenL.nil
structure ToX (F:Fx) (x:M3) (H H':Hp) (β':Bg):Prop where
 kp:∀a o,a≠x->H a=on o->(∀b l,F.bg=on (b,l)->a≠b/\a≠l)->H' a=on o
 fr:Fr F H' β'
def spI(K:NA)(C:M3)(ns:List NY)(n:Nat)(g:List D->M (List D)):Sp:=λvs H Q E=>∃x rest F ds β d,vs= .ref x::rest/\rest.length=n/\Fr F H β/\F.A x/\(∀b l,F.bg=on (b,l)->x≠b/\x≠l)/\H x=on (.ins C d [])/\DenL K F H ds rest/\
 ∃r a,g ds β=on (r,a)/\match r with
  | .ok es=>∀c xs,ToX F x H c a->c x=on (.ins C d (ns.zip xs))->ns.length=xs.length->DenL K F c es xs->Q .non c
  | .error Ce=>∀c,ToX F x H c a->E (.ref Ce) MY c
variable{ns:List NY}
theorem AH{K:NA}{vs:List V}(fr:Fr F H2 β2)(R:vs.length=n)(hd:DenL K F H2 ds vs)(r:run (Den K F) F E σ (M.bind (mi ds) λfs=>M.ret (.obj C ns fs)) H2 Q β2):
  ∀x c,H2 x=MY->H2 c=MY->c≠x->spI K C ns n mi (.ref x::vs) (upd (upd H2 c (.own x)) x (.ins C c [])) (λv T=>v= .non/\Q (.ref x) T) (E σ):=by
 intro x c H I ne;have J:¬F.A x:=fr.fresh H;have same:bv H2 (upd (upd H2 c (.own x)) x (.ins C c [])):=λa o h=>by
  rw[upd_ne (aw h H),upd_ne (aw h I)];exact h
 have t:=fr.same same;have L:Fr (F.but x) (upd (upd H2 c (.own x)) x (.ins C c [])) β2:=⟨λa ha z=>(by
  rcases ha with ha|ha
  ·exact t.fr.occ a ha z
  ·subst ha;rw[ah]at z;cases z),λb l q=>let ⟨z1,z2,z3⟩:=fr.bgA b l q;⟨.inl z1,.inl z2,z3⟩,t.fr.bag⟩
 have U:∀b l,F.bg=on (b,l)->x≠b/\x≠l:=λb l q=>⟨λz=>J (z▸(fr.bgA b l q).1),λz=>J (z▸(fr.bgA b l q).2.1)⟩;have N:Tr F H2 (F.but x) (upd (upd H2 c (.own x)) x (.ins C c [])):=⟨λa W Y z=>by
  rcases z with z|z
  ·exact W z
  ·subst z;exact Y H,λa o _ h=>same a o h,rfl⟩
 obtain⟨Z,d,g,h⟩:=r;refine⟨x,vs,F.but x,ds,β2,c,rfl,R,L,.inr rfl,U,ah,DenL.tr N _ _ hd,?_⟩;have u:∀{i:Hp} {d:Bg},ToX (F.but x) x (upd (upd H2 c (.own x)) x (.ins C c [])) i d->To F H2 i d:=λ{i d} j=>⟨λa o ha n=>j.kp a o (aw ha H) (same a o ha) n,⟨λa ha=>j.fr.occ a (.inl ha),fr.bgA,j.fr.bag⟩⟩;cases q:mi ds β2 with
 |none=>unfold M.bind at g;rw[q]at g;cases g
 |some z=>
  obtain⟨r1,β1⟩:=z;refine⟨r1,β1,rfl,?_⟩;cases r1 with
  |error Ce=>
   rw[M.bind_err q]at g;cases g;exact λi j=>h i (u j)
  |ok fs=>
   rw[M.bind_ok q]at g;cases g;refine λi xs j O y B=>⟨rfl,h (.ref x) i (u j) ⟨x,c,xs,rfl,J,O,y,DenL.tr Fx.tr_of _ _ B⟩⟩
def yW(C:M3)(ns:List NY)(a:List D->M (List D))(g b:FL)(src:List (Sr D)):FD:=λδ=>M.bind (g δ) λas=>M.bind (b δ) λks=>M.bind (a (as++src.map (Sr.pick .non ks))) λfs=>M.ret (.obj C ns fs)
def Jh(C:M3)(sp:Sp)(d:List V->List V->List V)(E:St->XK)(t g:TA):TE:=λb H Q=>t b H λvs h=>g b h λi c=>∀x a,c x=MY->c a=MY->a≠x->
 sp (d (.ref x::vs) i) (upd (upd c a (.own x)) x (.ins C a [])) (λv j=>v= .non/\Q (.ref x) j) (E b)
theorem z0(M:Mk X.K C f)(F:FnOk X.prog X.w X.K X.mg X.base CX k f fd ps sp)(U:Room (k+1) X.A)(Y:Gl X x)(hm:X.mg x=on (.ref C))(O:KBinds X.K fd ps ks g gV)(Z:cT CX X E)
  (ha:PA X (e::es) t) (B:PK X kws tk) (i:(Qp pos (Pf kws X.env)).all (·.1.isSome)=M2:=by rfl) (J:(Qp pos (Pf kws X.env)).filterMap (·.1)=ks:=by rfl)
  (L:(x==("__debug__":NY))=M4:=by decide) (he:No (e::es) X.env=(M4,Op e X.env)::No es X.env:=by rfl)
  (N:((Ps pos (No (e::es) X.env)).any (·.1)||(Qp pos (Pf kws X.env)).any (·.1.isNone))=M4:=by rfl):
  PE X (.Call (.Name x p) (e::es) kws pos) (Jh C sp gV E t tk):=by
 intro a s l H Q I h;refine Sv (pO I Y hm ?_ L);refine PySem.W.callWith_KW (h₀:=X.base) I.ok.mod.kin M.kp i (thn (ha pos a s l H _ I h) λus s1 ⟨vs,H1,I1,r,q⟩=>?_) N he;refine thn (B pos a s1 l H1 _ I1 q) λd c ⟨zs,H2,j,rz,q2⟩=>⟨j.kIn,?_⟩;rw[J];have R:=q2 (c.heap.objs.size+1) c.heap.objs.size (j.hok.fresh (Sh _)) (j.hok.fresh (Nh _)) (Od (TZ _));have y:=Inv.made (C:=C) j;have T:=O.rel (.cons (show aF (V.ref (c.heap.objs.size+1)) (NC (c.heap.objs.size+1))from rfl) r) rz;have hl:(g (NC (c.heap.objs.size+1)::us) d).length=ps.length:=by rw[←T.length];exact F.len _ _ _ _ R
 refine wpAny_call (AI (f:=f) j.kIn M.makes M.init (beq_iff_eq.mp M.fn) (Sc (F.run _ X.stack _ _ ⟨NC (c.heap.objs.size+1)::us,ks.zip d⟩ (g (NC (c.heap.objs.size+1)::us) d) _ _ (E l) (U.make C us (ks.zip d))
  (y.env0.make C us (ks.zip d)) (O.to _ (NC (c.heap.objs.size+1)::us) d y.kIn hl) T R) λr s' b=>?_))
 cases r with
 |error e=>exact Z a l _ _ e s' y b
 |ok fl=>
  cases fl with
  |ret u=>
   obtain⟨v,H',I4,rv,ev,q4⟩:=y.after b;subst ev;exact⟨rv,⟨V.ref (c.heap.objs.size+1),H',I4,rfl,q4⟩⟩
  |next=>exact PD b
  |brk=>exact PD b
  |cont=>exact PD b
theorem GE{src:List (Sr D)}(Mm:Mk X.K C f)(G:FnOk X.prog X.w X.K X.mg X.base (CXE X.prog X.w) k f fd ps (spI X.K C ns n mi))(hr:Room (k+1) X.A)(hg:Gl X x)(hm:X.mg x=on (.ref C))(hb:KwOk X.K fd ps ks (n1+1) src)(hx:cT (CXE X.prog X.w) X E)
  (ha:PA X (e::es) (tVA X.K g E)) (c:PK X kws (tVA X.K gk E)) (hn:∀δ β r a,g δ β=on (.ok r,a)->r.length=n1) (d:∀δ β r a,gk δ β=on (.ok r,a)->r.length=ks.length) (h3:n1+src.length=n)
  (b:(Qp pos (Pf kws X.env)).all (·.1.isSome)=M2:=by rfl) (h:(Qp pos (Pf kws X.env)).filterMap (·.1)=ks:=by rfl)
  (i:(x==("__debug__":NY))=M4:=by decide) (he:No (e::es) X.env=(M4,Op e X.env)::No es X.env:=by rfl)
  (j:((Ps pos (No (e::es) X.env)).any (·.1)||(Qp pos (Pf kws X.env)).any (·.1.isNone))=M4:=by rfl):
  PE X (.Call (.Name x p) (e::es) kws pos) (tV X.K (yW C ns mi g gk src) E):=by
 obtain⟨sv,J,rd,kb⟩:=hb.kb;refine(z0 Mm G hr hg hm kb hx ha c b h i he j).imp λσ H Q h_=>ex6 h_ λF δ β fr L r=>⟨F,δ,β,fr,L,?_⟩;obtain⟨r0,l,N,O⟩:=run.bind (R:=DenL X.K F) r;refine⟨r0,l,N,?_⟩;cases r0 with
 |error C=>exact O
 |ok as=>
  intro vs H1 t hd;obtain⟨d',β1,q,u,r1⟩:=O vs H1 t hd;refine⟨F,δ,β1,q.fr,L.tr (q.tr fr),?_⟩;obtain⟨T,β2,U,W⟩:=run.bind (R:=DenL X.K F) r1;refine⟨T,β2,U,?_⟩;cases T with
  |error C=>exact W
  |ok bs=>
   intro v Y t2 Z;obtain⟨d2,β3,t3,B,r3⟩:=W v Y t2 Z;have l1:=hn _ _ _ _ N;have l2:=d _ _ _ _ U;have I:DenL X.K F Y d' vs:=DenL.tr (t3.tr q.fr) _ _ u;intro y dx;have g1:gK V.non (n1+1) ks.length J (.ref y::vs) v= .ref y::(vs++J.map (Sr.pick .non v)):=Nf ⟨by rw[Nm,←hd.length,l1],by rw[←Z.length,l2]⟩;rw[g1];exact AH t3.fr (by rw[Ny,MZ,←hd.length,l1,←rd.len,h3]) (DenL.append I (SrR.den B rd)) r3 y dx
abbrev IP:=Ds->List D->Bg->Option (Except M3 (List D)×Bg)
noncomputable def FK:IP:=λ_ done β=>on (.ok done,β)
noncomputable def l3(g:G)(a:IP):IP:=λδ done β=>match g δ β with
 |some (.nx δ1,β1)=>match δ[0]?,δ1[0]? with
  |some (on (Sl.sh (D.adr x))),on (on (Sl.sh (D.adr y)))=>if x=y then a δ1 done β1 else MY
  |_,_=>MY
 |some (.ex C _,β1)=>on (.error C,β1)
 |_=>MY
def iH(f:FD)(a:IP):IP:=λδ done β=>match f (vw δ) β with
 |some (.ok d,β1)=>a δ (done++[d]) β1
 |some (.error C,β1)=>on (.error C,β1)
 |none=>MY
structure StpX (x:M3) (B:Ow) (H:Hp) (B':Ow) (H':Hp):Prop where
 kp:∀a o,a≠x->H a=on o->(B a=MY\/B a=on 0)->H' a=on o
 tg:∀a,B a=on 0\/B a=on 1->B' a=B a
 nn:∀a o,a≠x->H a=on o->B a=MY->B' a=MY
 al:∀a,H a≠MY->H' a≠MY
end
theorem Stp.x{x:M3}{B b:Ow}{H c:Hp}(s:Stp B H b c):StpX x B H b c:=⟨λa o _=>s.kp a o,s.tg,λa o _=>s.nn a o,s.al⟩
theorem StpX.trans(a:StpX x B H B1 H1)(b:StpX x B1 H1 B2 H2):StpX x B H B2 H2:=by
 refine⟨λc o ne h n=>b.kp c o ne (a.kp c o ne h n) ?_,λc h=>?_,λc o ne h n=>b.nn c o ne (a.kp c o ne h (.inl n)) (a.nn c o ne h n),λc h=>b.al c (a.al c h)⟩
 ·rcases n with n|n
  ·exact .inl (a.nn c o ne h n)
  ·exact .inr ((a.tg c (.inl n)).trans n)
 ·have e:=a.tg c h
  rw[←e]at h;exact(b.tg c h).trans e
def jy(K:NA)(bg:Option (M3×M3))(E:St->XK)(Dn:Ends)(B:Ow)(H:Hp)(x C e:M3)(all:List NY)(r:Except M3 (List D))(d:Bg):Prop:=match r with
 | .ok ds=>∀b c a vs,StpX x B H c a->Fr (FxB c bg) a d->a x=on (.ins C e (all.zip vs))->all.length=vs.length->DenL K (FxB c bg) a ds vs->Dn.nx b a
 | .error Ce=>∀b c a,StpX x B H c a->Fr (FxB c bg) a d->E b (.ref Ce) MY a
theorem jy.pre{K:NA}{E:St->XK}{Dn:Ends}(s:StpX x B H B1 H1)(h:jy K bg E Dn B H x C dx all r β'):jy K bg E Dn B1 H1 x C dx all r β':=by
 cases r with
 |ok ds=>exact λa b c vs t=>h a b c vs (s.trans t)
 |error d=>exact λa b c t=>h a b c (s.trans t)
def tI(K:NA)(H₀:Hp)(C:M3)(a names:List NY)(f:IP)(E:St->XK):TS:=λDn g H=>∃B bg δ β x e b c r d,SOk K H₀ B bg H δ β g/\δ[0]?=on (on (.sh (.adr x)))/\B x=on 0/\H x=on (.ins C e (a.zip b))/\a.length=b.length/\DenL K (FxB B bg) H c b/\f δ c β=on (r,d)/\jy K bg E Dn B H x C e (a++names) r d
theorem qC:∀{ns:List NY} {vs:List V},ns.length=vs.length->f∉ns->da f y (ns.zip vs)=(ns++[f]).zip (vs++[y])
 |[],[],_,_=>rfl
 |n::ns,v::vs,h,hf=>by
  have a:¬n=f:=λz=>hf (by rw[z];exact Nb);show(if n=f then(n,y)::ns.zip vs else(n,v)::da f y (ns.zip vs))=_;rw[M8 a,qC (by simpa using h) λz=>hf (M5 _ z)];rfl
 |[],_::_,h,_=>by simp at h
 |_::_,[],h,_=>by simp at h
theorem SOk.upd0{K:NA}(ok:SOk K H₀ B bg H δ β σ)(g:B x=on 0):SOk K H₀ B bg (upd H x o) δ β σ/\StpX x B H B (upd H x o):=by
 have al:∀c,H c≠MY->upd H x o c≠MY:=λc f=>by
  by_cases z:c=x
  ·subst z;rw[ah];simp
  ·rw[upd_ne z];exact f
 have t:∀b l,bg=on (b,l)->b≠x/\l≠x:=λb l e=>by
  obtain⟨b1,b2⟩:=ok.bgt b l e;exact⟨λz=>(by rw[z,g]at b1;cases b1),λz=>(by rw[z,g]at b2;cases b2)⟩
 have tr:Tr (FxB B bg) H (FxB B bg) (upd H x o):=⟨λ_ h _=>h,λc u f e=>by
  rw[upd_ne]
  ·exact e
  ·intro z;subst z;exact f (by show B c≠MY;rw[g];simp),rfl⟩
 refine⟨⟨⟨λc f=>al c (ok.fr.occ c f),ok.fr.bgA,λb l e=>?_⟩,ok.bgt,ok.len,λc f=>al c (ok.cov c f),ok.new,λc k f=>?_,λi s e=>?_⟩,λc u ne h _=>by rw[upd_ne ne];exact h,λ_ _=>rfl,λ_ _ _ _ n=>n,al⟩
 ·obtain⟨A,C⟩:=ok.fr.bag b l e
  obtain⟨F,I⟩:=t b l e;exact⟨by rw[upd_ne F];exact A,by rw[upd_ne I];exact C⟩
 ·exact(ok.lst c k f).imp λo h=>by rw[upd_ne];exact h;intro z;subst z;rw[g]at f;cases f
 ·obtain⟨v,J,j⟩:=ok.tell i s e
  refine⟨v,J,?_⟩;cases s with
  |sh d=>exact Den.tr tr _ _ j
  |own ds=>
   obtain⟨a,xs,rfl,hB,ha,hd⟩:=j;exact⟨a,xs,rfl,hB,(by rw[upd_ne];exact ha;intro z;subst z;rw[g]at hB;cases hB),DenL.tr tr _ _ hd⟩
  |grd rows=>
   obtain⟨a,rs,rfl,hB,ha,nd,L⟩:=j;refine⟨a,rs,rfl,hB,(by rw[upd_ne];exact ha;intro z;subst z;rw[g]at hB;cases hB),nd,RowL.tr tr L λr xs _ p q=>⟨p,?_⟩⟩;rw[upd_ne]
   ·exact q
   ·intro z;subst z
    have m:B r=on (i+2):=p;rw[g]at m;cases m
  |odc b ks vs=>
   obtain⟨a,rfl,hB,N⟩:=j;exact⟨a,rfl,hB,N.tr tr λo z=>by rw[upd_ne];exact z;intro y;subst y;rw[g]at hB;cases hB⟩
section
variable{X:Cx}{E:St->XK}{st:OA}{sts:List OA}{C:M3}{ns0 names:List NY}{ip:IP}
theorem MK:PSs X [] (tI X.K X.H₀ C ns0 [] FK E):=pI.imp λDn b H c=>by
 obtain⟨B,bg,δ,β,x,i,a,d,r,f,ok,j,l,g,h,hd,e,k⟩:=c;cases e;rw[NV]at k;exact k b B H a (Stp.refl B H).x ok.fr g h hd
theorem FM(m:PS X st (tG X.K X.H₀ g E))(n:PSs X sts (tI X.K X.H₀ C ns0 names ip E)):PSs X (st::sts) (tI X.K X.H₀ C ns0 names (l3 g ip) E):=(cA m n).imp λDn y H o=>by
 obtain⟨B,bg,δ,β,x,p,c,d,r,f,ok,q,h,t,u,hd,e,k⟩:=o;unfold l3 at e;split at e
 ·rename_i δ1 β1 i
  split at e
  ·rename_i A F q1 q2
   split at e
   ·rename_i z
    subst z;rw[q]at q1;cases q1;refine⟨B,bg,δ,β,.nx δ1,β1,ok,i,λb j l s a=>?_⟩;exact⟨j,bg,δ1,β1,x,p,c,d,r,f,a,q2,(s.tg x (.inl h)).trans h,s.kp x _ t (.inr h),u,DenL.tr s.tr _ _ hd,e,jy.pre s.x k⟩
   ·cases e
  ·cases e
 ·rename_i v δ1 β1 i
  cases e;exact⟨B,bg,δ,β,.ex v δ1,_,ok,i,λb j l s a=>k b j l s.x a.fr⟩
 ·cases e
theorem rN(c:Cls X.K C)(n:dA X.K C f)(Q:f∉ns0)(L:ns0.length<1000)(R:PS X st (Jz X.K (mP 0) (tV X.K fv E) f))(T:PSs X sts (tI X.K X.H₀ C (ns0++[f]) names ip E)):PSs X (st::sts) (tI X.K X.H₀ C ns0 (f::names) (iH fv ip) E):=(cA R T).imp λDn U H W=>by
 obtain⟨B,bg,δ,β,x,l,g,q,r,t,ok,N,m,Y,O,hd,e,k⟩:=W;refine⟨FxB B bg,vw δ,β,ok.fr,ok.view,?_⟩;unfold iH at e;split at e
 ·rename_i d β1 A
  refine⟨.ok d,β1,A,λy p F Z=>?_⟩;obtain⟨b,i⟩:=ok.to rfl F;obtain⟨v,g1,g2⟩:=b.tell 0 _ N;have hv:v= .ref x:=g2;subst hv;have I:=i.kp x _ Y (.inr m);refine⟨_,g1,x,C,l,_,rfl,I,c,n,?_,?_⟩
  ·rw[QW];omega
  obtain⟨J,s2⟩:=b.upd0 (o:= .ins C l (da f y (ns0.zip g))) m;have j:Tr (FxB B bg) p (FxB B bg) (upd p x (.ins C l (da f y (ns0.zip g)))):=⟨λ_ h _=>h,λa u ha e=>by
   rw[upd_ne]
   ·exact e
   ·intro z;subst z;exact ha (by show B a≠MY;rw[m];simp),rfl⟩
  refine⟨B,bg,δ,β1,x,l,g++[y],q++[d],r,t,J,N,m,by rw[ah,qC O Q],by simp[O],DenL.append (DenL.tr j _ _ (DenL.tr i.tr _ _ hd)) (DenL.cons (Den.tr j _ _ Z) DenL.nil),e,?_⟩;rw[Oy];exact jy.pre (i.x.trans s2) k
 ·rename_i Ce β1 A
  cases e;refine⟨.error Ce,_,A,λp F=>?_⟩;obtain⟨b,i⟩:=ok.to rfl F;exact k U B p i.x b.fr
 ·cases e
end
open Classical in
def l4(m:Nat)(a:IP):List D->M (List D):=λds β=>if h:∃r,∀x,a (stD m (.adr x::ds)) [] β=on r then on h.choose else MY
theorem BG(h:∀x,ip (stD m (.adr x::ds)) [] β=on r):l4 m ip ds β=on r:=by
 have a:∃r,∀x,ip (stD m (.adr x::ds)) [] β=on r:=⟨r,h⟩;unfold l4;rw[dif_pos a];have:=a.choose_spec 0;rw[h 0]at this;exact this.symm
theorem yP(h:l4 m ip ds β=on r):∀x,ip (stD m (.adr x::ds)) [] β=on r:=by
 unfold l4 at h;split at h
 ·rename_i a
  have:=a.choose_spec;cases h;exact this
 ·cases h
section
variable{P:NQ}{w:N0}{K:NA}{mg:NY->Option M7}{base:Ox}
theorem IO{st:OA}{N ps names:List NY}(n m:Nat)(ip:IP)(F:FunD K x qual st f fd)(S:FnScope N ps (ae st))(O:ps.length=n+1)(R:N.length=m)
  (p:∀(i:M7) (A:Oj) (outer:List Ud) (s:Ng) (H:Hp) (E:XK),Room k (A.deeper (Rl qual (ae st) s.heap.objs.size f i))->
   PSs (eM (CXE P w) P w K mg base N qual (ae st) f i A outer s H E) (cc st) (tI K H C [] names ip (λ_=>E))):FnOk P w K mg base (CXE P w) (k+1) f fd ps (spI K C names n (l4 m ip)):=by
 subst R;refine F.okE S (λvs H Q E h=>?_) λi A outer s H vs Q E hr h=>?_
 ·obtain⟨y,rest,j,ds,β,dx,rfl,hl,_⟩:=h
  rw[Nm,hl,O]
 obtain⟨y,rest,j,ds,β,dx,rfl,hl,fr,T,nb,hH,hd,r,d,e,h⟩:=h;refine⟨_,p i A outer s H E hr,?_⟩;have U:DenL K j H (.adr y::ds) (.ref y::rest):=DenL.cons rfl hd;obtain⟨B,ok,L,h1,hn⟩:=sC (N:=N) fr U;have hy:B y=on 0:=by
  rcases L y T with z|z
  ·exact z
  ·obtain⟨b,l,q,w⟩:=h1 y z
   obtain⟨W,X⟩:=nb b l q;rcases w with w|w
   ·exact NE w W
   ·exact NE w X
 have v:∀{u:Ow} {g:Hp} {d:Bg},StpX y B H u g->Fr (FxB u j.bg) g d->ToX j y H g d/\Tr (FxB u j.bg) g j g:=λ{u g d} s c=>by
  have hs:∀a,j.A a->u a≠MY:=λa ha=>by
   rw[s.tg a (L a ha)];rcases L a ha with z|z<;>rw[z]<;>simp
  refine⟨⟨λa o ne ha n=>s.kp a o ne ha ?_,λa ha=>c.occ a (hs a ha),λb l e=>fr.bgA b l e,c.bag⟩,λa ha _ z=>ha (hs a z),λ_ _ _ h=>h,rfl⟩;cases q:B a with
  |none=>exact .inl rfl
  |some t=>
   have:=L a (hn a (by rw[q];simp));rcases this with z|z
   ·rw[q]at z;exact .inr z
   ·obtain⟨b,l,e,w⟩:=h1 a z
    obtain⟨W,X⟩:=n b l e;rcases w with w|w
    ·exact NE w W
    ·exact NE w X
 refine⟨B,j.bg,stD N.length (.adr y::ds),β,y,dx,[],[],r,d,ok,rfl,hy,hH,rfl,DenL.nil,yP e y,?_⟩;cases r with
 |ok es=>
  intro Y u g vs s c Z I J;obtain⟨t1,t2⟩:=v s c;exact h g vs t1 Z I (DenL.tr t2 _ _ J)
 |error Ce=>
  intro Y u g s c;exact h g (v s c).1
variable{X:Cx}{E:St->XK}{st:OA}
variable{h:G}{δ:Ds}{β β1:Bg}{Q:Out->Bg->Prop}{i:Nat}{f:FD}
end
section
variable{C Ce:M3}{m:NY}{ns:List NY}{mf:List D->M D}{mi:List D->M (List D)}{fo:FD}{g gk:FL}{dd fs as ks:List D}{src:List (Sr D)}{δ:Dn}{β β1 β2 β3:Bg}{r:Except M3 D×Bg}{d:D}{f:NY}{h:G}{Q:Out->Bg->Prop}{i:Nat}{δs:Ds}
theorem kh(a:fo δ β=on (.ok (.obj C ns fs),β1))(b:g δ β1=on (.ok as,β2))(c:mf (.obj C ns fs::(as++dd)) β2=on r)(hm:m∉ns:=by decide):o3 C m mf fo g dd δ β=on r:=by
 unfold o3;rw[M.bind_ok a];simp only[hm,not_false_eq_true,and_self,N4];rw[M.bind_ok b];exact c
theorem rh(a:x δ β=on (.ok (.obj C ns fs),β1))(b:(ns.zip fs).lookup f=on d):f1 (wU C f) x δ β=on (.ok d,β1):=by
 refine x_1 a ?_;unfold wU;simp only[N4];exact b
theorem yL{g:G}{δ δ1:Ds}{r:Except M3 (List D)×Bg}(e:g δ β=on (.nx δ1,β1))(a:δ[0]?=on (on (.sh (.adr x))))(b:δ1[0]?=on (on (.sh (.adr x))))(k:ip δ1 done β1=on r):l3 g ip δ done β=on r:=by
 unfold l3;simp only[e,a,b,N4];exact k
theorem oR{f:FD}{δ:Ds}{d:D}{r:Except M3 (List D)×Bg}(e:f (vw δ) β=on (.ok d,β1))(k:ip δ (done++[d]) β1=on r):iH f ip δ done β=on r:=by
 unfold iH;rw[e];exact k
noncomputable def tpA{α:Type}(d:α)(c:Nat)(rows:List (List α)):List (List α):=(Nd c).map λj=>rows.map λrow=>row.getD j d
abbrev tp(c:Nat)(rows:LI):LI:=tpA 0 c rows
theorem uG{α:Type}{d:α}{r c:Nat}{rows:List (List α)}(h:rows.length=r):Shp c r (tpA d c rows):=⟨by simp[tpA],λrow a=>by
 obtain⟨j,_,rfl⟩:=Nw.mp a;rw[MZ,h]⟩
theorem we{d:Int}:∀(row:List Int),(Nd row.length).map (λj=>row.getD j d)=row:=λrow=>by
 refine Wl λi=>?_;rw[M9];by_cases h:i<row.length
 ·rw[Oq h]
  show on (row.getD i d)=_;rw[Na,M6 h];rfl
 ·rw[Rc (by simpa using h),Rc (by omega)];rfl
theorem pA{α:Type}(f g:α->Int):∀l:List α,(l.map λx=>f x+g x).sum=(l.map f).sum+(l.map g).sum
 |[]=>by simp
 |x::l=>by
  simp only[Nl,NJ,pA f g l];omega
theorem mR{α:Type}:∀l:List α,(l.map λ_=>(0:Int)).sum=0
 |[]=>rfl
 |x::l=>by simp only[Nl,NJ,mR l];rfl
theorem xz:∀{rows:LI},(∀row∈rows,row.length=c)->tot (tp c rows)=tot rows
 |[],_=>by
  show((tpA 0 c []).map OY).sum=0;unfold tpA;rw[Nk];exact mR (Nd c)
 |row::rows,h=>by
  have ih:=xz (c:=c) (rows:=rows) λx b=>h x (M5 _ b);have a:=h row Nb;unfold tot tp tpA at ih⊢;rw[Nk]at ih⊢;have e:(λj=>(OY ((row::rows).map λrow=>row.getD j 0)))=λj=>row.getD j 0+(rows.map λrow=>row.getD j 0).sum:=by
   funext j;rw[Nl,NJ]
  show((Nd c).map λj=>(OY ((row::rows).map λrow=>row.getD j 0))).sum=_;rw[e,pA,←a,we,a,Nl,NJ];congr 1
theorem L6(h:∀row∈rows,∀x∈row,0<=x):∀row∈tp c rows,∀x∈row,0<=x:=λrow a x b=>by
 obtain⟨j,_,rfl⟩:=Nw.mp a;obtain⟨q,k,rfl⟩:=Nw.mp b;rw[Na];cases e:q[j]? with
 |none=>exact VE 0
 |some y=>exact h q k y (NB e)
end
end L2.Pu
namespace L2.Pu
open PySem PySem.Spec PyProof PyProof.Rows
section
variable{X:Cx}
variable{prog:NQ}{w:N0}{A:Oj}{E:M7->Ng->Prop}{s:Ng}{l:M3}{xs:Array (Int×Tok)}
variable{K:NA}
end
end L2.Pu
namespace L2
open PySem PySem.Spec PyProof.Rows
end L2
namespace L2.Pu
open PySem PySem.Spec PyProof.Rows
section
variable{X:Cx}{E:St->XK}{K:NA}{elt target iter:Expr}{ifs:List Expr}{rest:List OT}{scope:Scope}{pos:RN}{Nc vars:List NY}{caps:List Nat}{g:TG}{tb:M3->TB}
variable{st:OA}{H₀:Hp}{B:Ow}{bg:Option (M3×M3)}{H H':Hp}{δ:Ds}{β β':Bg}{σ:St}
theorem lU1{us:List M7}(h:us.length=1):∃a,us=[a]:=List.length_eq_one_iff.mp h
theorem lU2{us:List M7}(h:us.length=2):∃c a1,us=[c,a1]:=by
 obtain⟨a,l,rfl⟩:=Qx h;obtain⟨b,rfl⟩:=lU1 (us:=l) (by simpa using h);exact⟨_,_,rfl⟩
theorem lU3{us:List M7}(h:us.length=3):∃d a1 a2,us=[d,a1,a2]:=by
 obtain⟨a,l,rfl⟩:=Qx h;obtain⟨b,c,rfl⟩:=lU2 (us:=l) (by simpa using h);exact⟨_,_,_,rfl⟩
theorem lU4{us:List M7}(h:us.length=4):∃e a1 a2 a3,us=[e,a1,a2,a3]:=by
 obtain⟨a,l,rfl⟩:=Qx h;obtain⟨b,c,d,rfl⟩:=lU3 (us:=l) (by simpa using h);exact⟨_,_,_,_,rfl⟩
end
section
variable{X:Cx}{E:St->XK}{e e1 e2 e3 e4 e5:Expr}{es:List Expr}{pos p:RN}{f1 f2 f3 f4 f5:FD}{g:FL}{k j n:Nat}{f:M3}{fd:NK}{ps:List NY}{x:NY}{op:List D->Option D}{r:List V->Hp->VK->Prop}{id T:String}
theorem vv(i:Nat){x:NY}(b:X.N[i]?=on x:=by rfl)(c:Vis X.env.scope x:=by first|exact Po rfl|exact QR (Po rfl)|exact QR (QR rfl))(hd:(x==("__debug__":NY))=M4:=by decide)
  (a:(x==("__classdict__":NY))=M4:=by decide):PE X (.Name x pos) (tV X.K (ad i) E):=LW i (pv i b c hd a)
theorem va1(a:PE X e1 (tV X.K f1 E))(b:No [e1] X.env=(M4,Op e1 X.env)::No [] X.env:=by rfl):PA X [e1] (tVA X.K (aa f1 ao) E):=dB a gT b
theorem va2(a:PE X e1 (tV X.K f1 E))(b:PE X e2 (tV X.K f2 E))(c:No [e1,e2] X.env=(M4,Op e1 X.env)::No [e2] X.env:=by rfl)(d:No [e2] X.env=(M4,Op e2 X.env)::No [] X.env:=by rfl):PA X [e1,e2] (tVA X.K (aa f1 (aa f2 ao)) E):=dB a (va1 b d) c
theorem va3(a:PE X e1 (tV X.K f1 E))(b:PE X e2 (tV X.K f2 E))(c:PE X e3 (tV X.K f3 E))(d:No [e1,e2,e3] X.env=(M4,Op e1 X.env)::No [e2,e3] X.env:=by rfl)(h:No [e2,e3] X.env=(M4,Op e2 X.env)::No [e3] X.env:=by rfl)(i:No [e3] X.env=(M4,Op e3 X.env)::No [] X.env:=by rfl):PA X [e1,e2,e3] (tVA X.K (aa f1 (aa f2 (aa f3 ao))) E):=dB a (va2 b c h i) d
theorem va4(a:PE X e1 (tV X.K f1 E))(b:PE X e2 (tV X.K f2 E))(c:PE X e3 (tV X.K f3 E))(d:PE X e4 (tV X.K f4 E))(h:No [e1,e2,e3,e4] X.env=(M4,Op e1 X.env)::No [e2,e3,e4] X.env:=by rfl)(i:No [e2,e3,e4] X.env=(M4,Op e2 X.env)::No [e3,e4] X.env:=by rfl)(l:No [e3,e4] X.env=(M4,Op e3 X.env)::No [e4] X.env:=by rfl)(m:No [e4] X.env=(M4,Op e4 X.env)::No [] X.env:=by rfl):PA X [e1,e2,e3,e4] (tVA X.K (aa f1 (aa f2 (aa f3 (aa f4 ao)))) E):=dB a (va3 b c d i l m) h
theorem aN0(δ:Dn)(β:Bg)(r:List D)(a:Bg)(h:ao δ β=on (.ok r,a)):r.length=0:=DW h
structure FB (P:NQ) (w:N0) (K:NA) (mg:NY->Option M7) (base:Ox) (k:Nat) (x:NY) (f:M3) (fd:NK) (ps:List NY) (n:Nat) (m:List D->M D):Prop where
 ok:FnOk P w K mg base (CXE P w) k f fd ps (spF K n m)
 m:mg x=on (.ref f)
 kp:Su K (.ref f)=M2
 b:aC K fd ps []
theorem vc(G:FB X.prog X.w X.K X.mg X.base j x f fd ps n m)(h:Room k X.A)(ha:PA X (e::es) (tVA X.K g E))(i:j<=k:=by decide)(l:cT (CXE X.prog X.w) X E:=by first|exact gE|exact wo|assumption)(o:Gl X x:=by rfl)
  (hn:∀δ β r d,g δ β=on (.ok r,d)->r.length=n:=by repeat (first|exact aN0|apply bq)) (a:(x==("__debug__":NY))=M4:=by decide) (q:No (e::es) X.env=(M4,Op e X.env)::No es X.env:=by rfl) (c:(Ps pos (No es X.env)).any (·.1)=M4:=by rfl):
  PE X (.Call (.Name x p) (e::es) [] pos) (tV X.K (bJ m g) E):=xp G.ok (h.mono i) o G.m G.kp G.b l ha hn a q c
theorem c8(hm:X.mg "len"=MY)(ha:PA X (e::es) (tVA X.K g E))(b:Gl X "len":=by rfl)(c:No (e::es) X.env=(M4,Op e X.env)::No es X.env:=by rfl)(a:(Ps pos (No es X.env)).any (·.1)=M4:=by rfl):PE X (.Call (.Name "len" p) (e::es) [] pos) (tV X.K (ax cL g) E):=bK li MD b hm Uh ha (by decide) (by decide) c a
theorem fj(hm:X.mg "sum"=MY)(ha:PA X (e::es) (tVA X.K g E))(b:Gl X "sum":=by rfl)(c:X.calm=M2:=by rfl)(d:No (e::es) X.env=(M4,Op e X.env)::No es X.env:=by rfl)(a:(Ps pos (No es X.env)).any (·.1)=M4:=by rfl):PE X (.Call (.Name "sum" p) (e::es) [] pos) (tV X.K (ax fK g) E):=bK (za c) Kl b hm PyProof.Rows.Boot.«sum» ha (by decide) (by decide) d a
theorem jC(hm:X.mg "isinstance"=MY)(ha:PA X (e::es) (tVA X.K g E))(b:Gl X "isinstance":=by rfl)(c:No (e::es) X.env=(M4,Op e X.env)::No es X.env:=by rfl)(a:(Ps pos (No es X.env)).any (·.1)=M4:=by rfl):PE X (.Call (.Name "isinstance" p) (e::es) [] pos) (tV X.K (ax cg g) E):=bK zb ME b hm PyProof.Rows.Boot.«isinstance» ha (by decide) (by decide) c a
theorem cso{scope:Scope}(a vars:List NY)(caps:List Nat)(k:scope.kind= .function:=by rfl)(nd:(scope.names.map (·.1)).Nodup:=by decide +kernel)
  (fr:(scope.names.all λy=>y.2 != .free||(X.env.scope.names.lookup y.1==on .cell||X.env.scope.names.lookup y.1==on .free))=M2:=by rfl) (b:a=vars++caps.map (λj=>X.N.getD j QE):=by rfl)
  (c:(caps.all λj=>decide (j<X.N.length)&&scope.names.lookup (X.N.getD j QE)==on .free)=M2:=by rfl):CmpScope X scope a vars caps:=CmpScope.ofB k nd fr b c
theorem ndc{a:List NY}(h:a.Nodup:=by decide +kernel):(aB X a scope cl C fp s H).N.Nodup:=h
theorem pgN(i:Nat){x:NY}(a:X.N.Nodup)(b:X.N[i]?=on x:=by rfl)(c:Loc X.env.scope x:=by first|exact Po rfl|exact QR rfl)(d:X.fn x=M2\/X.env.scope.names.lookup x=on .local:=by first|exact .inl rfl|exact .inr rfl|assumption):PG X (.Name x pos) (dH i):=u6 a b c d
theorem psS(i:Nat){x:NY}{e:Expr}{pos a:RN}(b:X.N.Nodup)(c:PE X e te)(d:X.N[i]?=on x:=by rfl)(h:Loc X.env.scope x:=by first|exact Po rfl|exact QR rfl)(hs:RE e (on (.Name x a)) pos.line X.env=Pn M4:=by rfl)(l:X.fn x=M2\/X.env.scope.names.lookup x=on .local:=by first|exact .inl rfl|exact .inr rfl|assumption):PS X (.Assign [.Name x a] e pos) (gi te (dH i)):=oz b d h c hs l
theorem bA1{Q:List M7->Prop}(h:∀a,Q [a])(us:List M7)(b:us.length=1):Q us:=by obtain⟨_,rfl⟩:=lU1 b;exact h _
theorem bA2{Q:List M7->Prop}(h:∀a b,Q [a,b])(us:List M7)(c:us.length=2):Q us:=by obtain⟨_,_,rfl⟩:=lU2 c;exact h _ _
theorem bA3{Q:List M7->Prop}(h:∀a b c,Q [a,b,c])(us:List M7)(d:us.length=3):Q us:=by obtain⟨_,_,_,rfl⟩:=lU3 d;exact h _ _ _
theorem bA4{Q:List M7->Prop}(h:∀a b c d,Q [a,b,c,d])(us:List M7)(i:us.length=4):Q us:=by obtain⟨_,_,_,_,rfl⟩:=lU4 i;exact h _ _ _ _
theorem fsc{N Q:List NY}{c:Scope}(a:c.kind= .function:=by rfl)(b:c.isCoroutine=M4:=by rfl)(g:c.isGenerator=M4:=by rfl)(d:N.Nodup:=by decide +kernel)(e:N.take Q.length=Q:=by rfl)(f:∀x∈Q,c.names.lookup x=on .local\/c.names.lookup x=on .cell:=by decide +kernel)(h:∀y∈c.names,y.2≠ .free:=by decide +kernel):FnScope N Q c:=⟨a,b,g,d,e,f,h⟩
end
end L2.Pu
namespace L2
open PySem PySem.Spec PyProof.Rows
section
variable{prog:NQ}{w:N0}{A:Oj}{E:M7->Ng->Prop}{s:Ng}{K:NA}
variable{X:Cx}
end
namespace Pu
section
variable{X:Cx}{E:St->XK}
end
end Pu
end L2
namespace L2.Pu
open PySem PySem.Spec PyProof.Rows
section
variable{X:Cx}{E:St->XK}{a b:Expr}{pos:RN}{k:Nat}{f C:M3}{fd:NK}{ps:List NY}{K:NA}
structure IsC (K:NA) (C:M3):Prop where
 cl:Cls K C
 ha:Ra K (.ref C) "__class__"=on (on (.builtin "object.__class__"))
 hn:specialIn K (.builtin "object.__class__") "__get__"=on (on (.builtin "getset_descriptor.__get__"))
 htk:V6 K (.builtin "object.__class__")=on M2
 hm:PySem.W.mroIn K C (.type "object")=on M2
variable{p1 p2 pos1 pos2:RN}
noncomputable def S(n:Nat)(f:Nat->Int):Int:=((Nd n).map f).sum
theorem LK(f:Nat->Int):S 0 f=0:=rfl
theorem fi(n:Nat)(f:Nat->Int):S (n+1) f=S n f+f n:=by
 unfold S;rw[Qg,NR,T9];simp
theorem dg{f g:Nat->Int}(h:∀i<n,f i=g i):S n f=S n g:=by
 unfold S;rw[NT λi c=>h i (Nz.mp c)]
theorem rW(n:Nat)(f g:Nat->Int):S n (λi=>f i+g i)=S n f+S n g:=pA f g _
theorem ly(n:Nat):S n (λ_=>0)=0:=mR _
theorem MX(n:Nat)(f:Nat->Int):S n (λi=>-f i)=-S n f:=by
 induction n with
 |zero=>rfl
 |succ n ih=>rw[fi,fi,ih];omega
theorem zm(n m:Nat)(h:Nat->Nat->Int):S n (λi=>S m (λj=>h i j))=S m (λj=>S n (λi=>h i j)):=by
 induction n with
 |zero=>rw[LK];exact(ly m).symm
 |succ n ih=>
  rw[fi,ih,←rW];exact dg λj _=>(fi n _).symm
theorem mS{g:Nat->Int}:∀{l L:List Nat},l.Sublist L->L.Nodup->(l.map g).sum=(L.map λx=>if x∈l then g x else 0).sum
 |_,_,.slnil,_=>rfl
 |l,_,.cons a (l₂:=L) h,nd=>by
  have c:=(Ob.mp nd);have ha:a∉l:=λz=>c.1 (h.subset z);rw[Nl,NJ,M8 ha,mS h c.2,Q7]
 |_,_,.cons₂ a (l₁:=l) (l₂:=L) h,nd=>by
  have c:=(Ob.mp nd);rw[Nl,Nl,NJ,NJ,Nf Nb,mS h c.2];congr 2;refine NT λx e=>?_;have d:x≠a:=λz=>c.1 (z▸e);by_cases q:x∈l
  ·rw[Nf q,Nf (M5 _ q)]
  ·rw[M8 q,M8 λz=>(Nq.mp z).elim d q]
theorem lH{l:List Nat}(h:l.Sublist (Nd n)):(l.map g).sum=S n λx=>if x∈l then g x else 0:=mS h TU
theorem vC{p:Nat->Bool}{g:Nat->Int}:∀l:List Nat,((l.filter p).map g).sum=(l.map λx=>if p x=M2 then g x else 0).sum
 |[]=>rfl
 |x::l=>by
  rw[TN,Nl,NJ,←vC l];by_cases q:p x=M2
  ·rw[Nf q,Nf q,Nl,NJ]
  ·rw[M8 q,M8 q,Q7]
noncomputable abbrev nI(l:List Nat):List Int:=l.map λ(i:Nat)=>(i:Int)
noncomputable abbrev nL(l:List Nat):D:= .lst ((nI l).map D.int)
theorem vo:∀xs:List Int,inB (.int i) (xs.map D.int)=decide (i∈xs)
 |[]=>rfl
 |x::xs=>by
  have ih:=vo (i:=i) xs;unfold inB at ih⊢;rw[Nl,Ri,ih];show(decide (x=i)||_)=_;rw[SJ];simp only[Bool.or_eq_true,NZ,Nq];constructor
  ·rintro(h|h)
   ·exact .inl h.symm
   ·exact .inr h
  ·rintro(h|h)
   ·exact .inl h.symm
   ·exact .inr h
theorem qM:∀xs:List Int,(xs.map D.int).all dn=M2
 |[]=>rfl
 |_::xs=>qM xs
theorem Kr{xs:List Int}{neg:Bool}:inD neg (.int i) (.lst (xs.map D.int))=on (.bl (if neg then !decide (i∈xs)else decide (i∈xs))):=by
 show(if(dn (.int i)&&(xs.map D.int).all dn)=M2 then _ else _)=_;rw[qM,Bool.and_true,Nf (show dn (.int i)=M2 from rfl),vo]
theorem Kd{i:Nat}{l:List Nat}:((i:Int)∈nI l)↔i∈l:=by
 constructor
 ·intro h
  obtain⟨j,c,e⟩:=Nw.mp h;exact(Int.ofNat.inj e)▸c
 ·intro h
  exact Nw.mpr ⟨i,h,rfl⟩
theorem tX{i:Nat}{l:List Nat}{neg:Bool}:inD neg (.int (i:Int)) (nL l)=on (.bl (if neg then !decide (i∈l)else decide (i∈l))):=by
 rw[Kr];simp only[Kd]
theorem jZ{α:Type}{f:FD}(xs:List α)(u v:α->D)(p:α->Bool)(g:it δ β=on (.ok (xs.map u),β))
  (i:∀x∈xs,∃δ1,tg (u x) (cSt nv caps δ)=on δ1/\tt δ1 β=on (.ok (p x),β)/\(p x=M2->f δ1 β=on (.ok (v x),β))) (j:xs.length<=Nr):cb nv caps it tg tt (cEm f) δ β=on (.ok (.lst ((xs.filter p).map v)),β):=by
 refine qa g ?_ (by rw[MZ];exact NG (List.length_filter_le _ _) j);have gen:∀xs:List α,(∀x∈xs,∃δ1,tg (u x) (cSt nv caps δ)=on δ1/\tt δ1 β=on (.ok (p x),β)/\(p x=M2->f δ1 β=on (.ok (v x),β)))->cLp tg tt (cEm f) (xs.map u) (cSt nv caps δ) β=on (.ok ((xs.filter p).map v),β):=by
  intro xs
  induction xs with
  |nil=>intro _;rfl
  |cons x xs ih=>
   intro h;obtain⟨δ1,d,c,l⟩:=h x Nb;have e:=ih λy m=>h y (M5 _ m);rw[Nl,cLp,TN];cases q:p x with
   |true=>
    rw[q]at c;simp only[d,M.bind,M.ret,c,cEm,l q,e,Nf,Nl,OM,OF]
   |false=>
    rw[q]at c;simp only[d,M.bind,M.ret,c,e,Np,N3,OF]
 exact gen xs i
theorem mH:∀(n:Nat) (xs:List D),cI n xs=(Nd xs.length).map λ(i:Nat)=>D.tup [.int ((n+i:Nat):Int),xs.getD i .non]
 |n,[]=>rfl
 |n,x::xs=>by
  rw[cI,mH (n+1) xs,Nm,SD,Nl,Nk];congr 1;refine NT λi _=>?_;simp only[RQ];rw[show n+1+i=n+(i+1) by omega];rfl
noncomputable abbrev bI(b:LP)(i j:Nat):Int×Int:=(b.getD i []).getD j (0,0)
theorem Shp.getD{α:Type}{m:List (List α)}(h:Shp r c m)(d:i<r):m[i]?=on (m.getD i [])/\(m.getD i []).length=c:=by
 obtain⟨row,e,l⟩:=h.at d;have:m.getD i []=row:=by rw[Na,e];rfl
 rw[this];exact⟨e,l⟩
theorem mw{α:Type}{l:List α}{i:Nat}{d:α}(h:i<l.length):l[i]?=on (l.getD i d):=by
 rw[Na,M6 h];rfl
theorem FI{xs:List Int}(h:i<xs.length):ixD (.lst (xs.map D.int)) (.int (i:Int))=on (.int (xs.getD i 0)):=cx (by rw[M9,mw h];rfl)
theorem tR{b:LP}(sh:Shp r c b)(g:i<r)(h:j<c):ixD (cX b) (.int (i:Int))=on (.lst ((b.getD i []).map pD))/\ixD (.lst ((b.getD i []).map pD)) (.int (j:Int))=on (pD (bI b i j)):=by
 obtain⟨e,l⟩:=sh.getD g;refine⟨rM (by rw[M9,e];rfl),cx ?_⟩;rw[M9,mw (d:=(0,0)) (by omega)];rfl
noncomputable def oF(rs:List Int)(c:List Nat):Int:=(c.map λi=>rs.getD i 0).sum
def dW(cs:List Int)(b:LP)(r:Nat)(c:List Nat)(j:Nat):Int:=cs.getD j 0-S r λi=>if i∈c then 0 else(bI b i j).1
def eS(b:LP)(c:List Nat)(j:Nat):Int:=(c.map λi=>(bI b i j).2).sum
def rD(cs:List Int)(b:LP)(r c:Nat)(d e:List Nat):Int:=S c λj=>if j∈e then dW cs b r d j else eS b d j
def hF(b:LP)(c d:List Nat)(i j:Nat):Int:=(if i∈c/\j∉d then(bI b i j).2 else 0)-(if i∉c/\j∈d then(bI b i j).1 else 0)
theorem HB{b:LP}{d e:List Nat}(h:d.Sublist (Nd r))(g:e.Sublist (Nd c)):
  rD cs b r c d e=oF cs e+S r λi=>S c λj=>hF b d e i j:=by
 unfold rD oF;rw[lH g,zm,←rW];refine dg λj l=>?_;by_cases q:j∈e
 ·rw[Nf q,Nf q]
  unfold dW;rw[Int.sub_eq_add_neg,←MX];congr 1;refine dg λi g=>?_;unfold hF;by_cases z:i∈d
  ·simp[z,q]
  ·simp[z,q]
 ·rw[M8 q,M8 q,Q7]
  unfold eS;rw[lH h];refine dg λi g=>?_;unfold hF;by_cases z:i∈d
  ·simp[z,q]
  ·simp[z,q]
end
end L2.Pu
namespace L2.Pu
open PySem PySem.Spec PyProof PyProof.Rows
section
variable{X:Cx}{K:NA}
variable{E:St->XK}{o e:Expr}{apos cpos:RN}
end
end L2.Pu
namespace L2.Pu
open PySem PySem.Spec PyProof.Rows
section
variable{prog:NQ}{w:N0}{A:Oj}{E:M7->Ng->Prop}{s:Ng}{l:M3}{xs:Array (Int×Tok)}
theorem zG(f:A.handled=MY)(c:s.heap.IsTuple l (Vh xs))
  (h:∀h' d t',(∀b o,s.heap.get? b=on o->h'.get? b=on o)->Q (.int (preSum (numAt xs) xs.size) t') {s with heap:=h',toks:=d}):
  Nn (NL prog w) A (Uj (.builtin "sum") [.ref l]) Q E s:=by
 have a:l<s.heap.objs.size:=by obtain⟨_,e,_⟩:=c;exact NI e
 refine call_sum_walkG (T3 c ⟨_,_,_,_,_,_,numAt xs,rfl,Walks.tuple (A:=A.in1) f _ l (Od a) (Vh xs),⟨⟨_,Nu _ rfl,rfl,rfl⟩,c.at λo e=>M1 _ e⟩,λb hb=>?_,(λ_ _=>intItems_at),λh' d t' g=>?_⟩)
 ·show b<(s.heap.push _).objs.size
  rw[OP];rcases Nq.mp hb with rfl|hb
  ·exact TZ _
  ·rcases Nq.mp hb with rfl|hb
   ·exact Si a
   ·cases hb
 ·have:=h h' d t' λb o e=>g b o (λhm=>by
   rcases Nq.mp hm with i|hm
   ·exact NE (i▸NI e) (Oc _)
   ·cases hm) (M1 _ e)
  simpa[Vh]using this
variable{X:Cx}{K:NA}
abbrev ET(K:NA):List V->Hp->VK->Prop:=λxs H Q=>∃(p:M3) (ns:List Int),xs=[.ref p]/\(SqL K H p (ns.map V.int)\/SqT K H p (ns.map V.int))/\Q (.int ns.sum) H
theorem y9(b:X.calm=M2):cK X (.builtin "sum") (ET X.K):=by
 intro a s f H xs us Q I r h;obtain⟨p,ns,rfl,hq|hq,q⟩:=h
 ·exact qT b a s f H _ us Q I r ⟨p,ns,rfl,hq,q⟩
 ·obtain⟨u,rfl,g⟩:=im r
  cases g;obtain⟨its,i,pl,m⟩:=I.tuple hq;have c:=oU i;obtain⟨xs,ex⟩:=c.allInts.items;have d:=c.numsOf;have j:its=(Vh xs).toList:=by rw[←ex]
  rw[j,nums_intItems]at d;rw[ex]at pl;refine zG (I.ok.hd b) pl λh' n t' k=>?_;have e:preSum (numAt xs) xs.size=ns.sum:=by rw[preSum_eq,OR (by simp),d]
  rw[e];exact⟨.int ns.sum,H,I.kept k,⟨_,rfl⟩,q⟩
def nV:List D->Option D
 |[.lst xs]=>(dO xs).map λns=> .int ns.sum
 |[.tup xs]=>(dO xs).map λns=> .int ns.sum
 |_=>MY
theorem Kk:dy K (ET K) nV:=λF H β Q ds d vs fr h e k=>by
 unfold nV at e;split at e
 ·rename_i xs
  obtain⟨ns,q,rfl⟩:=SA.mp e;obtain⟨v,rfl,g⟩:=DenL.one h;obtain⟨a,ys,rfl,r,b⟩:=Den.sqL g;rw[intsOf_eq q]at b;have c:=DenL.ints ns b;subst c;exact⟨a,ns,rfl,.inl r,k _ H (To.refl fr) rfl⟩
 ·rename_i xs
  obtain⟨ns,q,rfl⟩:=SA.mp e;obtain⟨v,rfl,g⟩:=DenL.one h;obtain⟨a,ys,rfl,r,b⟩:=Den.sqT g;rw[intsOf_eq q]at b;have c:=DenL.ints ns b;subst c;exact⟨a,ns,rfl,.inr r,k _ H (To.refl fr) rfl⟩
 ·cases e
theorem Jo(ns:List Int):nV [.lst (ns.map D.int)]=on (.int ns.sum):=dR ns
theorem Jn(ns:List Int):nV [.tup (ns.map D.int)]=on (.int ns.sum):=dR ns
noncomputable def Ky:G:=λ_ _=>MY
theorem dC{X:Cx}{st:OA}{K:NA}{E:St->XK}:PS X st (tG K H Ky E):=λ_ _ _ _ _ _ h=>by
 obtain⟨_,_,_,_,_,_,_,e,_⟩:=h;cases e
end
end L2.Pu
namespace L2.Pu
open PySem
noncomputable def facN:Nat->Nat
 |0=>1
 |n+1=>facN n*(n+1)
noncomputable def pr(l:List Nat):Nat:=l.foldr (·*·) 1
theorem JM:pr []=1:=rfl
theorem ya(l m:List Nat):pr (l++m)=pr l*pr m:=by
 induction l with
 |nil=>simp[pr]
 |cons x l ih=>
  show x*pr (l++m)=x*pr l*pr m;rw[ih,Rv]
theorem GJ{α:Type}{l:List α}{i:Nat}{x:α}(h:l[i]?=on x):l.take (i+1)=l.take i++[x]:=by
 rw[List.take_succ,h];rfl
theorem ji{α:Type}{f:α->Nat}{l:List α}{i:Nat}{x:α}(h:l[i]?=on x):pr ((l.take (i+1)).map f)=pr ((l.take i).map f)*f x:=by
 rw[GJ h,NR,ya];simp[pr]
theorem l7:∀n,0<facN n
 |0=>by decide
 |n+1=>Nat.mul_pos (l7 n) (by omega)
theorem BN:∀{n m:Nat},n<=m->facN n<=facN m:=by
 intro n m h
 induction h with
 |refl=>exact Nh _
 |step h ih=>exact NG ih (U5 _ (by omega))
theorem MS:facN 40<=2^160:=by decide +kernel
theorem jt(h:n<=40):facN n<=2^160:=NG (BN h) MS
theorem sW(h:∀x∈l,0<x):0<pr l:=by
 induction l with
 |nil=>decide
 |cons x l ih=>exact Nat.mul_pos (h x Nb) (ih λy a=>h y (M5 _ a))
theorem Mj{l:List Nat}(h:∀x∈l,x<=2^m):pr l<=2^(m*l.length):=by
 induction l with
 |nil=>exact Nat.one_le_two_pow
 |cons x l ih=>
  show x*pr l<=_;rw[Nm,Nat.mul_succ,U7,Nat.pow_add];exact Nat.mul_le_mul (h x Nb) (ih λy a=>h y (M5 _ a))
theorem gN{l:List Nat}(h:x∈l):x<=l.sum:=by
 induction l with
 |nil=>cases h
 |cons y l ih=>
  rw[NJ];rcases Nq.mp h with rfl|h
  ·omega
  ·have:=ih h;omega
theorem dN(h:t<=2^m)(hm:m<=999):t<2^1000:=Pi (NG h (SW (by decide) hm)) (Nat.pow_lt_pow_right (by decide) (by decide))
theorem pK{t n:Nat}(a:t<2^1000)(b:n<2^1000):AG (.int (t:Int)) (.int (n:Int))=on (.int ((t*n:Nat):Int)):=by
 have c:fS (t:Int)=M2:=NF (by rw[Th];exact a);have d:fS (n:Int)=M2:=NF (by rw[Th];exact b);show(if(fS (t:Int)&&fS (n:Int))=M2 then _ else _)=_;simp only[c,d,Rf,N4];rfl
theorem FR{t g:Nat}(d:0<g)(a:g<2^1000):wV (.int (t:Int)) (.int (g:Int))=on (.int ((t/g:Nat):Int)):=by
 have b:decide ((0:Int)<(g:Int))=M2:=NF (by omega);have c:decide (((g:Int)).natAbs.log2<9000)=M2:=NF (by
  rw[Th];have:=(Nat.log2_lt (n:=g) (k:=1000) (by omega)).mpr a;omega)
 show(if(decide ((0:Int)<(g:Int))&&decide (((g:Int)).natAbs.log2<9000))=M2 then _ else _)=_;simp only[b,c,Rf,N4];rfl
theorem ib(l:List Nat):(nI l).sum=((l.sum:Nat):Int):=by
 induction l with
 |nil=>rfl
 |cons x l ih=>
  show(x:Int)+(nI l).sum=_;rw[ih,NJ,Qi]
theorem oG{l:List Nat}{i:Nat}{d:D}(h:((nI l).map D.int)[i]?=on d):∃n,l[i]?=on n/\d= .int (n:Int):=by
 obtain⟨x,a,rfl⟩:=bH h;obtain⟨n,hn,rfl⟩:=bH a;exact⟨n,hn,rfl⟩
theorem kU(l:List Nat):((nI l).map D.int).length=l.length:=by rw[MZ,MZ]
def Sq(l:List Nat)(d:D):Prop:=d=nL l\/d= .tup ((nI l).map D.int)
theorem Sq.seq(h:Sq l d):dF d=on ((nI l).map D.int):=by rcases h with rfl|rfl<;>rfl
theorem rg2'(a:0<=i)(b:i<=10^9)(c:0<=j)(d:j<=10^9):mZ [.int i,.int j]=on (aU i (j-i).toNat):=by
 have q:(decide (-(2^62)<=i)&&decide (i<2^62)&&decide (-(2^62)<=j)&&decide (j<2^62))=M2:=by
  simp only[NO,NZ];omega
 show(if(decide (-(2^62)<=i)&&decide (i<2^62)&&decide (-(2^62)<=j)&&decide (j<2^62))=M2 then on (aU i (j-i).toNat)else MY)=_;rw[Nf q]
theorem rg2{n:Nat}(h:n<=1000):mZ [.int 2,.int ((n:Int)+1)]=on (aU 2 (n-1)):=by
 rw[rg2' (by decide) (by decide) (by omega) (by omega),show((n:Int)+1-2).toNat=n-1 by omega]
end L2.Pu
namespace L2.Pu
theorem zn(h:∀i<n,f i<=g i):S n f<=S n g:=by
 induction n with
 |zero=>exact VE _
 |succ n ih=>
  rw[fi,fi];have a:=ih λi b=>h i (by omega);have c:=h n (by omega);omega
theorem FV(n:Nat)(f g:Nat->Int):S n (λi=>f i-g i)=S n f-S n g:=by
 induction n with
 |zero=>rfl
 |succ n ih=>rw[fi,fi,fi,ih];omega
noncomputable def fl(x y:Bool)(l h:Int):Int:=(if x=M2/\y=M4 then h else 0)-(if x=M4/\y=M2 then l else 0)
def slk(rs cs:Nat->Int)(lo a:Nat->Nat->Int)(r c:Nat)(X Y:Nat->Bool):Int:=
 S c (λj=>if Y j=M2 then cs j else 0)-S r (λi=>if X i=M2 then rs i else 0)+S r λi=>S c λj=>fl (X i) (Y j) (lo i j) (a i j)
section
variable{rs cs:Nat->Int}{lo hi:Nat->Nat->Int}{r c:Nat}
theorem GS{g:Nat->Nat->Int}(h:∀i<r,∀j<c,lo i j<=g i j/\g i j<=hi i j)(d:∀i<r,rs i=S c (g i))(e:∀j<c,cs j=S r λi=>g i j)(X Y:Nat->Bool):0<=slk rs cs lo hi r c X Y:=by
 have f:S c (λj=>if Y j=M2 then cs j else 0)=S r λi=>S c λj=>if Y j=M2 then g i j else 0:=by
  rw[zm];refine dg λj a=>?_;cases q:Y j with
  |true=>simp only[Nf];exact e j a
  |false=>simp only[Np,N3];exact(ly r).symm
 have k:S r (λi=>if X i=M2 then rs i else 0)=S r λi=>S c λj=>if X i=M2 then g i j else 0:=by
  refine dg λi hi=>?_;cases q:X i with
  |true=>simp only[Nf];exact d i hi
  |false=>simp only[Np,N3];exact(ly c).symm
 unfold slk;rw[f,k,←FV,←rW];refine Int.le_trans (Int.le_of_eq (ly r).symm) (zn λi b=>?_);rw[←FV,←rW];refine Int.le_trans (Int.le_of_eq (ly c).symm) (zn λj a=>?_);have:=h i b j a;unfold fl;cases X i<;>cases Y j<;>simp<;>omega
noncomputable def chF:Nat->List (List Nat)
 |0=>[[]]
 |n+1=>chF n++(chF n).map (·++[n])
theorem gQ:∀(n:Nat) (l:List Nat),l∈chF n->l.Sublist (Nd n)
 |0,l,h=>by rw[NU.mp h];exact .slnil
 |n+1,l,h=>by
  rw[Qg];rcases OE.mp h with h|h
  ·exact(gQ n l h).trans (List.sublist_append_left _ _)
  ·obtain⟨a,h',rfl⟩:=Nw.mp h
   exact(gQ n a h').append (List.Sublist.refl _)
theorem vO:∀n:Nat,(chF n).length=2^n
 |0=>rfl
 |n+1=>by
  rw[chF,Ny,MZ,vO n,Nat.pow_succ];omega
end
section
variable{rs cs:List Int}{b:LP}{r c:Nat}
abbrev slB(rs cs:List Int)(b:LP)(r c:Nat)(X Y:Nat->Bool):Int:=slk (λi=>rs.getD i 0) (λj=>cs.getD j 0) (λi j=>(bI b i j).1) (λi j=>(bI b i j).2) r c X Y
theorem Jv{a d:List Nat}(e:a.Sublist (Nd r))(f:d.Sublist (Nd c)):rD cs b r c a d-oF rs a=slB rs cs b r c (λi=>decide (i∈a)) (λj=>decide (j∈d)):=by
 rw[HB e f];unfold oF slB slk;rw[lH f,lH e];have h:∀(n:Nat) (l:List Nat) (g:Nat->Int),S n (λj=>if decide (j∈l)=M2 then g j else 0)=S n (λj=>if j∈l then g j else 0):=λn l g=>dg λj _=>by simp
 rw[h,h];have k:(S r λi=>S c λj=>hF b a d i j)=S r λi=>S c λj=>fl (decide (i∈a)) (decide (j∈d)) (bI b i j).1 (bI b i j).2:=by
  refine dg λi _=>dg λj _=>?_;unfold hF fl;simp
 simp only[k];omega
def tw(cs:List Int)(b:LP)(r c:Nat)(a:List Nat):List Nat:=(Nd c).filter λj=>decide (dW cs b r a j<eS b a j)
end
end L2.Pu
namespace L2.Pu
open PySem PySem.W
section
variable{tb:String->Option Builtin}{p:NQ}{w:N0}{n₀:Nat}{ann:Option M7}{env:Ud}{q:RN}
theorem jU(k:Nat){b:List OA}(h:segRun tb p w n₀ ann 1 n s (piecesOf (b.take k) env c pos [Vm q])=on (.next,s',c,p'))
  (a:topRun tb p w n₀ ann N s' (restOf (b.drop k) env c p' [Vm q])=on r):topRun tb p w n₀ ann (n+N) s (restOf b env c pos [Vm q])=on r:=by
 have:=piece_app h a;rwa[Qm]at this
theorem BJ(e:b=[])(k:topRun tb p w n₀ ann N s ⟨doneF .next,c,pos,[Vm q]⟩=on r):topRun tb p w n₀ ann N s (restOf b env c pos [Vm q])=on r:=by
 subst e;exact piece_nil k
end
end L2.Pu
namespace L2.Hs
open PySem PySem.SetTable
def Rs(xs:Array Nat):Prop:=∀i k x y:Nat,i<k->xs[i]?=on x->xs[k]?=on y->x<y
theorem nJ{xs:Array Nat}(r:Rs xs):∀(fuel lo c:Nat),lo<=c->c<=xs.size->c-lo<=fuel->(∀i x,i<lo->xs[i]?=on x->x<j)->(∀i x,c<=i->xs[i]?=on x->j<=x)->
  below.go xs j fuel lo c<=xs.size/\(∀i x,i<below.go xs j fuel lo c->xs[i]?=on x->x<j)/\∀i x,below.go xs j fuel lo c<=i->xs[i]?=on x->j<=x
 |0,lo,c,h1,h2,h3,a,b=>by
  have:lo=c:=by omega
  subst this;exact⟨h2,a,b⟩
 |fuel+1,lo,c,h1,h2,h3,a,b=>by
  unfold below.go;by_cases q:lo<c
  ·rw[Nf q]
   simp only;have hm:(lo+c)/2<xs.size:=by omega
   have e:xs[(lo+c)/2]?=on (xs.getD ((lo+c)/2) j):=by simp[PX,hm]
   by_cases z:xs.getD ((lo+c)/2) j<j
   ·rw[Nf z]
    refine nJ r fuel _ _ (by omega) h2 (by omega) (λi x f d=>?_) b;by_cases w:i=(lo+c)/2
    ·subst w
     rw[e]at d;cases d;exact z
    ·exact RM (r i ((lo+c)/2) x _ (by omega) d e) z
   ·rw[M8 z]
    refine nJ r fuel _ _ (by omega) (by omega) (by omega) a (λi x f d=>?_);by_cases w:i=(lo+c)/2
    ·subst w
     rw[e]at d;cases d;omega
    ·have:=r ((lo+c)/2) i _ x (by omega) e d
     omega
  ·rw[M8 q]
   have:lo=c:=by omega
   subst this;exact⟨h2,a,b⟩
theorem ij{xs:Array Nat}(r:Rs xs):below xs j<=xs.size/\(∀i x,i<below xs j->xs[i]?=on x->x<j)/\∀i x,below xs j<=i->xs[i]?=on x->j<=x:=
 nJ r xs.size 0 xs.size (OC _) (Nh _) (by omega) (λi x h=>NE h (Pr i)) (λi x h e=>by
  have:=(On.mp e).1;omega)
theorem BY(r:Rs xs)(h:xs[i]?=on j):below xs j=i:=by
 obtain⟨c,a,b⟩:=ij (j:=j) r;rcases Qo (below xs j) i with q|q|q
 ·have d:=(On.mp h).1
  have e:xs[below xs j]?=on xs[below xs j]:=getElem?_pos xs _ (by omega);have:=b _ _ (Nh _) e;have:=r _ _ _ _ q e h;omega
 ·exact q
 ·have:=a _ _ q h
  omega
theorem qw{t:Of}(r:Rs t.place)(h:t.place[i]?=on j):t.slot j= .live i:=by
 unfold slot;simp only[BY r h,h,Py,N4]
theorem v8{t:Of}(d:t.dummies=#[])(h:∀i:Nat,t.place[i]?≠on j):t.slot j= .empty:=by
 unfold slot;have a:(t.place[below t.place j]?==on j)=M4:=by
  rw[UQ];exact h _
 have b:has t.dummies j=M4:=by unfold has;rw[d];rfl
 simp only[a,b,Np,N3]
noncomputable def itr(t:Of):Nat->Probe->Probe
 |0,p=>p
 |n+1,p=>itr t n (t.advance p)
theorem nq(t:Of):∀(n:Nat) (p:Probe),itr t (n+1) p=t.advance (itr t n p)
 |0,p=>rfl
 |n+1,p=>by
  show itr t (n+1) (t.advance p)=t.advance (itr t n (t.advance p));exact nq t n (t.advance p)
theorem lY(t:Of):∀(n m:Nat) (p:Probe),itr t (n+m) p=itr t m (itr t n p)
 |0,m,p=>by rw[Pl];rfl
 |n+1,m,p=>by
  rw[show n+1+m=(n+m)+1 by omega];exact lY t n m (t.advance p)
structure Pv (t:Of) (p:Probe):Prop where
 j:p.j+p.more<=t.mask
 more:p.more<=9
 i:p.i<=t.mask
 pt:p.perturb<2^64
 du:p.dummy=MY
theorem qB{mask i:Nat}(h:i<=mask):i<=runEnd mask i/\runEnd mask i<=mask/\runEnd mask i-i<=9:=by
 unfold runEnd;by_cases q:i+9<=mask
 ·rw[Nf q];omega
 ·rw[M8 q];omega
noncomputable def blk(t:Of)(i pt:Nat):Probe:={j:=i,more:=runEnd t.mask i-i,i,perturb:=pt,dummy:=MY}
theorem pb{t:Of}(h:i<=t.mask)(a:pt<2^64):Pv t (blk t i pt):=by
 obtain⟨c,d,b⟩:=qB h;refine⟨?_,b,h,a,rfl⟩;show i+(runEnd t.mask i-i)<=t.mask;omega
theorem qt(t:Of)(h:Int):t.probeStart h=blk t (bits h % (t.mask+1)) (bits h):=rfl
theorem mv(h:Int):bits h<2^64:=by
 unfold bits;have:=RX h (show(0:Int)<2^64 by decide);have:=Rz h (show(2^64:Int)≠0 by decide);omega
theorem mU(t:Of)(h:Int):Pv t (t.probeStart h):=by
 rw[qt];exact pb (by have:=UA (bits h) (show t.mask+1>0 by omega);omega) (mv h)
noncomputable abbrev lpI(mask i pt:Nat):Nat:=(i*5+1+pt/32) % (mask+1)
theorem zk{t:Of}{p:Probe}(h:0<p.more):t.advance p={p with j:=p.j+1,more:=p.more-1}:=by
 unfold advance;rw[Nf h]
theorem vR{t:Of}{p:Probe}(h:p.more=0)(hd:p.dummy=MY):t.advance p=blk t (lpI t.mask p.i p.perturb) (p.perturb/32):=by
 unfold advance;rw[M8 (by omega)];unfold leap blk;simp only[hd]
theorem wF(mask i pt:Nat):lpI mask i pt<=mask:=by
 have:=UA (i*5+1+pt/32) (show mask+1>0 by omega);unfold lpI;omega
theorem zj{t:Of}(v:Pv t p):Pv t (t.advance p):=by
 by_cases q:0<p.more
 ·rw[zk q]
  exact⟨by have:=v.j;show p.j+1+(p.more-1)<=t.mask;omega,by have:=v.more;show p.more-1<=9;omega,v.i,v.pt,v.du⟩
 ·rw[vR (by omega) v.du]
  exact pb (wF _ _ _) (Pi (Uf _ _) v.pt)
theorem k7:∀(n:Nat) {p:Probe},Pv t p->Pv t (itr t n p)
 |0,_,v=>v
 |n+1,_,v=>k7 n (zj v)
theorem pQ:∀(k:Nat) {p:Probe},Pv t p->k<=p.more->itr t k p={p with j:=p.j+k,more:=p.more-k}
 |0,p,v,h=>by cases p;rfl
 |k+1,p,v,h=>by
  rw[nq,pQ k v (by omega)];rw[zk (show 0<p.more-k by omega)];simp only[Probe.mk.injEq,and_true,true_and];omega
theorem nu{t:Of}{p:Probe}(v:Pv t p):itr t (p.more+1) p=blk t (lpI t.mask p.i p.perturb) (p.perturb/32):=by
 rw[nq,pQ _ v (Nh _)];exact vR (Px _) v.du
def bS(mask:Nat):Nat->Nat×Nat->Nat×Nat
 |0,x=>x
 |k+1,x=>bS mask k (lpI mask x.1 x.2,x.2/32)
theorem iA(mask:Nat):∀(k:Nat) (x:Nat×Nat),bS mask (k+1) x=(lpI mask (bS mask k x).1 (bS mask k x).2,(bS mask k x).2/32)
 |0,x=>rfl
 |k+1,x=>iA mask k _
theorem tT{t:Of}:∀(k:Nat) {p:Probe},Pv t p->∃n,n<=10*(k+1)/\itr t n p=blk t (bS t.mask (k+1) (p.i,p.perturb)).1 (bS t.mask (k+1) (p.i,p.perturb)).2
 |0,p,v=>⟨p.more+1,by have:=v.more;omega,nu v⟩
 |k+1,p,v=>by
  obtain⟨n,hn,e⟩:=tT k v;have a:=k7 n v;rw[e]at a;refine⟨n+((blk t (bS t.mask (k+1) (p.i,p.perturb)).1 (bS t.mask (k+1) (p.i,p.perturb)).2).more+1),by have:=a.more;omega,?_⟩;rw[lY,e,nu a,iA t.mask (k+1)];rfl
def Mk(mask:Nat):Prop:=mask=7\/mask=31\/mask=127
noncomputable def orb(mask:Nat):Nat->Nat->Nat
 |0,i=>i
 |k+1,i=>orb mask k ((i*5+1) % (mask+1))
theorem lP(mask:Nat):∀(a b i:Nat),orb mask (a+b) i=orb mask b (orb mask a i)
 |0,b,i=>by rw[Pl];rfl
 |a+1,b,i=>by
  rw[show a+1+b=(a+b)+1 by omega];exact lP mask a b _
def EY(mask:Nat):Bool:=(orb mask (mask+1) 0==0)&&(Nd (mask+1)).all λj=>(Nd (mask+1)).any λk=>orb mask k 0==j
theorem JX{mask:Nat}(h:Mk mask):EY mask=M2:=by
 rcases h with rfl|rfl|rfl<;>decide +kernel
theorem u7{mask i j:Nat}(h:Mk mask)(l:i<=mask)(m:j<=mask):∃k,k<=mask/\orb mask k i=j:=by
 have o:=JX h;unfold EY at o;rw[NO,QJ,Qv]at o;obtain⟨g,ha⟩:=o;obtain⟨a,e,c⟩:=List.any_eq_true.mp (ha i (Nz.mpr (by omega)));obtain⟨b,f,d⟩:=List.any_eq_true.mp (ha j (Nz.mpr (by omega)));rw[QJ]at c d;have:=Nz.mp e;have:=Nz.mp f;by_cases q:a<=b
 ·refine⟨b-a,by omega,?_⟩
  rw[←c,←lP,show a+(b-a)=b by omega,d]
 ·refine⟨b+(mask+1)-a,by omega,?_⟩
  rw[←c,←lP,show a+(b+(mask+1)-a)=(mask+1)+b by omega,lP,g,d]
theorem kH(mask:Nat):∀(k i:Nat),bS mask k (i,0)=(orb mask k i,0)
 |0,i=>rfl
 |k+1,i=>by
  show bS mask k (lpI mask i 0,0/32)=_;rw[show(0/32:Nat)=0 from rfl,kH mask k];rfl
theorem mY(mask:Nat):∀(a b:Nat) (x:Nat×Nat),bS mask (a+b) x=bS mask b (bS mask a x)
 |0,b,x=>by rw[Pl];rfl
 |a+1,b,x=>by
  rw[show a+1+b=(a+b)+1 by omega];exact mY mask a b _
theorem mX(mask:Nat):∀(k:Nat) (x:Nat×Nat),(bS mask k x).2=x.2/32^k
 |0,x=>by simp[bS]
 |k+1,x=>by
  rw[iA,mX mask k x,U8,Nat.pow_succ]
theorem uT(mask:Nat):∀(k:Nat) (x:Nat×Nat),x.1<=mask->(bS mask k x).1<=mask
 |0,x,h=>h
 |k+1,x,h=>by rw[iA];exact wF _ _ _
theorem MV{t:Of}(h:Mk t.mask)(v:Pv t p)(a:j<=t.mask):∃n,n<10*turns t.mask/\(itr t n p).j=j:=by
 have z:(bS t.mask 13 (p.i,p.perturb)).2=0:=by
  rw[mX];exact Nat.div_eq_of_lt (NH v.pt (by decide))
 have l:=uT t.mask 13 (p.i,p.perturb) v.i;obtain⟨k,c,e⟩:=u7 h l a;obtain⟨n,hn,b⟩:=tT (12+k) v;refine⟨n,by unfold turns;omega,?_⟩;rw[b];show(bS t.mask (12+k+1) (p.i,p.perturb)).1=j;rw[show 12+k+1=13+k by omega,mY,show bS t.mask 13 (p.i,p.perturb)=((bS t.mask 13 (p.i,p.perturb)).1,0)from Qr rfl z,kH];exact e
abbrev Lv(t:Of)(j:Nat):Prop:=∃k:Nat,t.place[k]?=on j
structure Tb (t:Of) (hs:List Int):Prop where
 km:Mk t.mask
 sz:t.place.size=hs.length
 rs:Rs t.place
 le:∀i j:Nat,t.place[i]?=on j->j<=t.mask
 du:t.dummies=#[]
 nf:t.place.size*5<t.mask*3
 rch:∀(i:Nat) (h:Int) (j:Nat),hs[i]?=on h->t.place[i]?=on j->∃n,(itr t n (t.probeStart h)).j=j/\∀m<n,Lv t (itr t m (t.probeStart h)).j
theorem Mk.odd(h:Mk m):m % 2=1/\7<=m/\m<=127:=by
 rcases h with rfl|rfl|rfl<;>decide
theorem gap{xs:Array Nat}(r:Rs xs):∀n,n<=xs.size->(∀i:Nat,i<n->xs[i]?=on i)\/∃j,j<n/\∀i:Nat,xs[i]?≠on j
 |0,_=> .inl λi h=>NE h (Pr i)
 |n+1,h=>by
  rcases gap r n (by omega)with q|⟨j,c,b⟩
  ·have e:xs[n]?=on xs[n]:=getElem?_pos xs n (by omega)
   by_cases z:xs[n]=n
   ·refine .inl λi d=>?_
    by_cases w:i=n
    ·subst w;rw[e,z]
    ·exact q i (by omega)
   ·have lt:n<=xs[n]:=by
     cases n with
     |zero=>omega
     |succ m=>
      have:=r m (m+1) _ _ (by omega) (q m (by omega)) e;omega
    refine .inr ⟨n,by omega,λi a=>?_⟩;rcases Qo i n with w|w|w
    ·rw[q i w]at a;cases a;omega
    ·subst w;rw[e]at a;exact z (NN a)
    ·have:=r n i _ _ w e a
     omega
  ·exact .inr ⟨j,by omega,b⟩
theorem Kv{xs:Array Nat}(r:Rs xs):∃j,j<=xs.size/\∀i:Nat,xs[i]?≠on j:=by
 rcases gap r xs.size (Nh _)with q|⟨j,c,a⟩
 ·refine⟨xs.size,Nh _,λi e=>?_⟩
  have b:=(On.mp e).1;rw[q i b]at e;cases e;omega
 ·exact⟨j,by omega,a⟩
theorem FP{t:Of}(r:Rs t.place)(d:t.dummies=#[]):∀(fuel:Nat) (p:Probe) (e:Nat),Pv t p->e<fuel->¬Lv t (itr t e p).j->
  ∃m,m<=e/\(∀a<m,∃i,t.place[i]?=on (itr t a p).j/\hashAt i≠h)/\
   ((¬Lv t (itr t m p).j/\probe.go t hashAt h fuel p=on (.empty (itr t m p).j MY))\/∃i,t.place[i]?=on (itr t m p).j/\hashAt i=h/\probe.go t hashAt h fuel p=on (.candidate (itr t m p).j i (itr t (m+1) p)))
 |0,_,_,_,h,_=>NE h (Pr _)
 |fuel+1,p,e,v,hf,he=>by
  unfold probe.go;by_cases q:Lv t p.j
  ·obtain⟨i,b⟩:=q
   rw[qw r b];simp only;by_cases z:hashAt i=h
   ·refine⟨0,OC _,λa hm=>NE hm (Pr _),.inr ⟨i,b,z,?_⟩⟩
    rw[Nf (by rw[QJ];exact z)];rfl
   ·rw[M8 (by rw[QJ];exact z)]
    cases e with
    |zero=>exact NE ⟨i,b⟩ he
    |succ e=>
     obtain⟨m,hm,ha,c⟩:=FP r d fuel (t.advance p) e (zj v) (by omega) he;refine⟨m+1,by omega,λa f=>?_,c⟩;cases a with
     |zero=>exact⟨i,b,z⟩
     |succ a=>exact ha a (by omega)
  ·rw[v8 d (λi b=>q ⟨i,b⟩)]
   refine⟨0,OC _,λa hm=>NE hm (Pr _),.inl ⟨q,?_⟩⟩;simp only[v.du];rfl
theorem Tb.free{t:Of}(T:Tb t hs)(v:Pv t p):∃e,e<10*turns t.mask/\¬Lv t (itr t e p).j:=by
 obtain⟨j,f,a⟩:=Kv T.rs;have:=T.nf;have:=T.km.odd;obtain⟨e,b,c⟩:=MV T.km v (show j<=t.mask by omega);exact⟨e,b,λ⟨k,d⟩=>a k (by rw[←c];exact d)⟩
theorem yO{α:Type}{xs:Array α}{p:Nat}{x:α}(b:p<=xs.size)(i:Nat):(insertAt xs p x)[i]?=if i<p then xs[i]? else if i=p then on x else xs[i-1]?:=by
 unfold insertAt;rw[Array.getElem?_append];have a:((xs.extract 0 p).push x).size=p+1:=by simp;omega
 rw[a];by_cases q:i<p
 ·rw[Nf (by omega),Nf q,Vo,VA]
  rw[M8 (by omega),UN];simp;omega
 ·by_cases z:i=p
  ·subst z
   rw[Nf (by omega),M8 (by omega),Nf rfl,Vo,VA];rw[Nf (by omega)]
  ·rw[M8 (by omega),M8 q,M8 z,UN]
   by_cases w:i-1<xs.size
   ·rw[Nf (by omega)]
    congr 1;omega
   ·rw[M8 (by omega),P8 (by omega)]
theorem eY{α:Type}{xs:Array α}{p:Nat}{x:α}(a:p<=xs.size):(insertAt xs p x).size=xs.size+1:=by
 unfold insertAt;simp;omega
theorem Tb.put{t:Of}{hs:List Int}(T:Tb t hs)(C:¬Lv t j)(hn:(itr t n (t.probeStart h)).j=j)(ha:∀m<n,Lv t (itr t m (t.probeStart h)).j)(nf:(t.place.size+1)*5<t.mask*3):
  (t.put j).1.dummies=#[]/\(t.put j).1.mask=t.mask/\(t.put j).1.place.size=t.place.size+1/\(t.put j).2<=t.place.size/\Tb (t.put j).1 (hs.take (t.put j).2++h::hs.drop (t.put j).2):=by
 obtain⟨b1,b2,b3⟩:=ij (j:=j) T.rs;have hd:has t.dummies j=M4:=by unfold has;rw[T.du];rfl
 have A:(t.put j).1.dummies=#[]:=by
  show(if has t.dummies j=M2 then _ else t.dummies)=#[];rw[hd,M8 Ni,T.du]
 have ep:(t.put j).1.place=insertAt t.place (below t.place j) j:=rfl;have g:=λi=>yO (x:=j) b1 i;have B:∀x,Lv t x->Lv (t.put j).1 x:=λx ⟨k,l⟩=>by
  by_cases q:k<below t.place j
  ·exact⟨k,by rw[ep,g,Nf q];exact l⟩
  ·exact⟨k+1,by rw[ep,g,M8 (by omega),M8 (by omega)];exact l⟩
 have it:∀m p,itr (t.put j).1 m p=itr t m p:=λm=>by
  induction m with
  |zero=>intro p;rfl
  |succ m ih=>intro p;exact ih (t.advance p)
 refine⟨A,rfl,by rw[ep,eY b1],b1,⟨T.km,?_,?_,?_,A,?_,?_⟩⟩
 ·rw[ep,eY b1,T.sz]
  have:(t.put j).2<=hs.length:=by rw[←T.sz];exact b1
  simp;omega
 ·intro i k x y r c e
  rw[ep,g]at c e;have F:∀k,t.place[k]?≠on j:=λk l=>C ⟨k,l⟩;by_cases q1:i<below t.place j
  ·rw[Nf q1]at c
   by_cases q2:k<below t.place j
   ·rw[Nf q2]at e
    exact T.rs i k x y r c e
   ·rw[M8 q2]at e
    by_cases q3:k=below t.place j
    ·rw[Nf q3]at e;cases e
     exact b2 i x q1 c
    ·rw[M8 q3]at e
     exact T.rs i (k-1) x y (by omega) c e
  ·rw[M8 q1]at c
   rw[M8 (by omega),M8 (by omega)]at e;by_cases q3:i=below t.place j
   ·rw[Nf q3]at c;cases c
    have L:=b3 (k-1) y (by omega) e;have:y≠j:=λz=>F (k-1) (by rw[e,z]);omega
   ·rw[M8 q3]at c
    exact T.rs (i-1) (k-1) x y (by omega) c e
 ·intro i x c
  rw[ep,g]at c;by_cases q1:i<below t.place j
  ·rw[Nf q1]at c;exact T.le i x c
  ·rw[M8 q1]at c
   by_cases q3:i=below t.place j
   ·rw[Nf q3]at c;cases c
    have v:=k7 n (mU t h);have:=v.j;show j<=t.mask;omega
   ·rw[M8 q3]at c;exact T.le _ x c
 ·rw[ep,eY b1];exact nf
 ·intro i h' x H c
  have N:(t.put j).2<=hs.length:=by rw[←T.sz];exact b1
  have u:(t.put j).2=below t.place j:=rfl;rw[ep,g]at c;have d:(if i<below t.place j then hs[i]? else if i=below t.place j then on h else hs[i-1]?)=on h':=by
   rw[←H,u];by_cases q1:i<below t.place j
   ·rw[Nf q1,QB (by rw[OQ];omega),UI q1]
   ·rw[M8 q1,O7 (by rw[OQ];omega),OQ,Nat.min_eq_left (by omega)]
    by_cases q3:i=below t.place j
    ·rw[Nf q3,q3,Px];rfl
    ·rw[M8 q3,show i-below t.place j=(i-1-below t.place j)+1 by omega,UP,V0]
     congr 1;omega
  have f:∀o,hs[o]?=on h'->t.place[o]?=on x->∃n,(itr (t.put j).1 n ((t.put j).1.probeStart h')).j=x/\∀m<n,Lv (t.put j).1 (itr (t.put j).1 m ((t.put j).1.probeStart h')).j:=λo a b=>by
   obtain⟨I,J,u⟩:=T.rch o h' x a b;refine⟨I,by rw[it];exact J,λm hm=>?_⟩;rw[it];exact B _ (u m hm)
  by_cases q1:i<below t.place j
  ·rw[Nf q1]at c d
   exact f i d c
  ·rw[M8 q1]at c d
   by_cases q3:i=below t.place j
   ·rw[Nf q3]at c d
    cases c;cases d;refine⟨n,by rw[it];exact hn,λm hm=>?_⟩;rw[it];exact B _ (ha m hm)
   ·rw[M8 q3]at c d
    exact f (i-1) d c
theorem tU{t u:Of}(h:t.mask=u.mask):∀(n:Nat) (p:Probe),itr t n p=itr u n p
 |0,p=>rfl
 |n+1,p=>by
  show itr t n (t.advance p)=itr u n (u.advance p);have:t.advance p=u.advance p:=by unfold advance;rw[h]
  rw[this];exact tU h n _
theorem v6{t u:Of}(h:t.mask=u.mask)(x:Int):t.probeStart x=u.probeStart x:=by unfold probeStart;rw[h]
noncomputable abbrev tm(mask:Nat):Of:={mask,place:=#[],dummies:=#[],finger:=0,led:=M2,moves:=0,plain:=M2}
noncomputable abbrev fr(owner:Array (Option Nat))(j:Nat):Bool:=(owner.getD j (on 0)).isNone
theorem vA{mask:Nat}{owner:Array (Option Nat)}:∀(fuel i pt:Nat),i<=mask->pt<2^64->(∃b,b<fuel/\fr owner (bS mask b (i,pt)).1=M2)->
  ∃n,layClean.free mask owner fuel i pt=on (itr (tm mask) n (blk (tm mask) i pt)).j/\fr owner (itr (tm mask) n (blk (tm mask) i pt)).j=M2/\∀m<n,fr owner (itr (tm mask) m (blk (tm mask) i pt)).j=M4
 |0,_,_,_,_,⟨b,h,_⟩=>NE h (Pr b)
 |fuel+1,i,pt,hi,hp,⟨b,hb,hf⟩=>by
  have v:=pb (t:=tm mask) hi hp;obtain⟨r1,B,C⟩:=qB hi;have f:(blk (tm mask) i pt).more=runEnd mask i-i:=rfl;have d:∀k,k<=runEnd mask i-i->(itr (tm mask) k (blk (tm mask) i pt)).j=i+k:=λk c=>by
   rw[pQ k v c];rfl
  unfold layClean.free;split
  ·rename_i k c
   obtain⟨g,l,o⟩:=List.find?_range_eq_some.mp c;have:=Nz.mp l;refine⟨k,by rw[d k (by omega)],by rw[d k (by omega)];exact g,λm hm=>?_⟩;rw[d m (by omega)];have:=o m hm;simpa using this
  ·rename_i c
   have hn:∀k,k<=runEnd mask i-i->fr owner (i+k)=M4:=λk p=>by
    have:=List.find?_range_eq_none.mp c k (by omega);simpa using this
   cases b with
   |zero=>
    have r:=hn 0 (by omega);exact NE hf (by rw[show(bS mask 0 (i,pt)).1=i+0 from rfl,r];exact Ni)
   |succ b=>
    obtain⟨n,u,y,A⟩:=vA fuel (lpI mask i pt) (pt/32) (wF _ _ _) (Pi (Uf _ _) hp) ⟨b,by omega,hf⟩;have a:∀m,itr (tm mask) (runEnd mask i-i+1+m) (blk (tm mask) i pt)=itr (tm mask) m (blk (tm mask) (lpI mask i pt) (pt/32)):=λm=>by
     rw[lY,←f,nu v];rfl
    refine⟨runEnd mask i-i+1+n,by rw[a];exact u,by rw[a];exact y,λm hm=>?_⟩;by_cases q:m<=runEnd mask i-i
    ·rw[d m q];exact hn m q
    ·obtain⟨e,rfl⟩:∃e,m=runEnd mask i-i+1+e:=⟨m-(runEnd mask i-i+1),by omega⟩
     rw[a];exact A e (by omega)
structure Ow (mask:Nat) (owner:Array (Option Nat)) (hs:List Int):Prop where
 sz:owner.size=mask+1
 lt:∀j k:Nat,owner[j]?=on (on k)->k<hs.length
 un:∀j j' k:Nat,owner[j]?=on (on k)->owner[j']?=on (on k)->j=j'
 cn:owner.toList.countP (·.isSome)=hs.length
 ex:∀(k:Nat) (h:Int),hs[k]?=on h->∃j n:Nat,owner[j]?=on (on k)/\(itr (tm mask) n ((tm mask).probeStart h)).j=j/\∀m<n,∃k':Nat,owner[(itr (tm mask) m ((tm mask).probeStart h)).j]?=on (on k')
theorem wT{mask:Nat}{owner:Array (Option Nat)}(hs:owner.size=mask+1){j:Nat}(b:j<=mask):(fr owner j=M2↔owner[j]?=on MY)/\(fr owner j=M4↔∃k:Nat,owner[j]?=on (on k)):=by
 have e:owner[j]?=on owner[j]:=getElem?_pos owner j (by omega);have a:owner.getD j (on 0)=owner[j]:=by simp[PX,show j<owner.size by omega]
 unfold fr;rw[a,e];cases owner[j]<;>simp
theorem Ow.step{mask:Nat}{owner:Array (Option Nat)}{hs:List Int}(O:Ow mask owner hs)(h:Int)(hm:Mk mask)(W:hs.length<=mask):
  ∃j,layClean.free mask owner (turns mask) (bits h % (mask+1)) (bits h)=on j/\Ow mask (owner.setIfInBounds j (on hs.length)) (hs++[h]):=by
 have u:bits h % (mask+1)<=mask:=by have:=UA (bits h) (show mask+1>0 by omega);omega
 have⟨v,h1,h2⟩:∃v,v<=mask/\fr owner v=M2:=by
  refine Ry λz=>?_;have all:∀a∈owner.toList,Option.isSome a=M2:=λa ha=>by
   obtain⟨i,g,e⟩:=S6 ha;have L:i<owner.size:=by simpa using g
   have N:fr owner i=M4:=by
    cases q:fr owner i with
    |false=>rfl
    |true=>exact NE ⟨i,by have:=O.sz;omega,q⟩ z
   obtain⟨k,A⟩:=(wT O.sz (show i<=mask by have:=O.sz;omega)).2.mp N;have:owner[i]?=on a:=by rw[←Qh,M6 g,e]
   rw[this]at A;cases A;rfl
  have:=List.countP_eq_length.mpr all;rw[O.cn]at this;have:=O.sz;simp at*;omega
 have z:(bS mask 13 (bits h % (mask+1),bits h)).2=0:=by
  rw[mX];exact Nat.div_eq_of_lt (NH (mv h) (by decide))
 have l:=uT mask 13 (bits h % (mask+1),bits h) u;obtain⟨k,A,e⟩:=u7 hm l h1;have Q:fr owner (bS mask (13+k) (bits h % (mask+1),bits h)).1=M2:=by
  rw[mY,show bS mask 13 (bits h % (mask+1),bits h)=((bS mask 13 (bits h % (mask+1),bits h)).1,0)from Qr rfl z,kH];show fr owner (orb mask k _)=M2;rw[e];exact h2
 obtain⟨n,F,H,R⟩:=vA (owner:=owner) (turns mask) (bits h % (mask+1)) (bits h) u (mv h) ⟨13+k,by unfold turns;omega,Q⟩;have I:∀m,(itr (tm mask) m (blk (tm mask) (bits h % (mask+1)) (bits h))).j<=mask:=λm=>by
  have:=(k7 m (pb (t:=tm mask) u (mv h))).j;show _<=(tm mask).mask;omega
 generalize J:(itr (tm mask) n (blk (tm mask) (bits h % (mask+1)) (bits h))).j=j at F H;have T:j<=mask:=by rw[←J];exact I n
 have o:owner[j]?=on MY:=(wT O.sz T).1.mp H;have p:j<owner.size:=by have:=O.sz;omega
 have set:∀x:Nat,(owner.setIfInBounds j (on hs.length))[x]?=if j=x then on (on hs.length)else owner[x]?:=λx=>by
  rw[Array.getElem?_setIfInBounds];by_cases q:j=x
  ·rw[Nf q,Nf q,Nf p]
  ·rw[M8 q,M8 q]
 refine⟨j,F,⟨by rw[Array.size_setIfInBounds];exact O.sz,λx k c=>?_,λx y k c f=>?_,?_,λk h' d=>?_⟩⟩
 ·rw[set]at c
  rw[Ny];by_cases q:j=x
  ·rw[Nf q]at c;cases c;simp
  ·rw[M8 q]at c
   have:=O.lt x k c;omega
 ·rw[set]at c f
  by_cases q:j=x
  ·rw[Nf q]at c;cases c
   by_cases r:j=y
   ·omega
   ·rw[M8 r]at f
    exact NE (O.lt y _ f) (Oc _)
  ·rw[M8 q]at c
   by_cases r:j=y
   ·rw[Nf r]at f;cases f
    exact NE (O.lt x _ c) (Oc _)
   ·rw[M8 r]at f
    exact O.un x y k c f
 ·rw[Array.toList_setIfInBounds,List.countP_set (by simpa using p),O.cn]
  have:owner.toList[j]'(by simpa using p)=MY:=by
   have e:=getElem?_pos owner j p;rw[o]at e;rw[Re];exact(NN e).symm
  rw[this];simp
 ·by_cases q:k<hs.length
  ·rw[QB q]at d
   obtain⟨x,U,a1,a2,a3⟩:=O.ex k h' d;refine⟨x,U,?_,a2,λm hm=>?_⟩
   ·rw[set,M8 (λw=>by subst w;rw[o]at a1;cases a1)];exact a1
   ·obtain⟨B,b⟩:=a3 m hm
    exact⟨B,by rw[set,M8 (λw=>by rw[←w,o]at b;cases b)];exact b⟩
  ·have C:=(Nj.mp d).1
   rw[Ny,Og]at C;have:k=hs.length:=by omega
   subst this;rw[O7 (Nh _),Px]at d;cases d;refine⟨j,n,by rw[set,Nf rfl],J,λm hm=>?_⟩;obtain⟨B,b⟩:=(wT O.sz (I m)).2.mp (R m hm);exact⟨B,by rw[qt,set,M8 (λw=>by rw[←w,o]at b;cases b)];exact b⟩
theorem Ow.nil(mask:Nat):Ow mask (Array.replicate (mask+1) MY) []:=by
 have g:∀x:Nat,(Array.replicate (mask+1) (MY:Option Nat))[x]?=if x<mask+1 then on MY else MY:=λx=>Array.getElem?_replicate;refine⟨by simp,λj k h=>?_,λj b k h=>?_,by simp,λk h a=>by simp at a⟩
 ·rw[g]at h
  split at h<;>cases h
 ·rw[g]at h
  split at h<;>cases h
theorem tP{mask:Nat}(hm:Mk mask):∀(l:List Int) (owner:Array (Option Nat)) (hs:List Int),Ow mask owner hs->hs.length+l.length<=mask+1->∃a,l.foldl (λ(acc:Option (Array (Option Nat)×Nat)) h=>do
   let (owner,k) ←acc
   let j ←layClean.free mask owner (turns mask) (bits h % (mask+1)) (bits h)
   Pn (owner.setIfInBounds j (on k),k+1)) (on (owner,hs.length))=on (a,hs.length+l.length)/\Ow mask a (hs++l)
 |[],owner,hs,O,_=>⟨owner,rfl,by rw[NV];exact O⟩
 |h::l,owner,hs,O,hl=>by
  rw[Nm]at hl;obtain⟨j,e,d⟩:=O.step h hm (by omega);obtain⟨f,b,c⟩:=tP hm l _ (hs++[h]) d (by rw[Ny,Og];omega);refine⟨f,?_,by rw[Oy]at c;exact c⟩;rw[List.foldl_cons];simp only[Option.bind_eq_bind,OD,e];rw[Ny,Og]at b;rw[Nm,show hs.length+(l.length+1)=hs.length+1+l.length by omega];exact b
theorem Kj{mask:Nat}(hm:Mk mask)(hs:Array Int)(b:hs.size<=mask+1):∃owner,layClean mask hs=on owner/\Ow mask owner hs.toList:=by
 obtain⟨o,e,O⟩:=tP hm hs.toList _ [] (Ow.nil mask) (by simpa using b);refine⟨o,?_,O⟩;unfold layClean;rw[←Array.foldl_toList];have a:=e;simp only[Pq]at a;exact(Oi (Option.map (·.1)) a).trans rfl
theorem ua{α β:Type}{f:α->Option β}{g:α->β}:∀{l:List α},(∀a∈l,f a=on (g a))->l.filterMap f=l.map g
 |[],_=>rfl
 |a::l,h=>by
  rw[OU,h a Nb,Nl,ua λb c=>h b (M5 a c)]
noncomputable def bP(mask:Nat)(owner:Array (Option Nat)):List (Nat×Nat):=(Nd (mask+1)).filterMap λj=>(owner.getD j MY).map (j,·)
theorem AS{mask:Nat}{owner:Array (Option Nat)}(hs:owner.size=mask+1){j k:Nat}:(j,k)∈bP mask owner↔owner[j]?=on (on k):=by
 unfold bP;rw[RT];constructor
 ·rintro⟨x,c,e⟩
  have d:=Nz.mp c;have a:owner.getD x MY=owner[x]:=by simp[PX,show x<owner.size by omega]
  rw[a]at e;cases q:owner[x]with
  |none=>rw[q]at e;cases e
  |some f=>
   rw[q]at e;simp only[Ol,UJ,Prod.mk.injEq]at e;obtain⟨rfl,rfl⟩:=e;rw[getElem?_pos owner x (by omega),q]
 ·intro e
  have b:=(On.mp e).1;refine⟨j,Nz.mpr (by omega),?_⟩;have a:owner.getD j MY=owner[j]:=by simp[PX,b]
  rw[getElem?_pos owner j b]at e;rw[a,NN e];rfl
theorem yB(mask:Nat)(owner:Array (Option Nat)):(bP mask owner).Pairwise λa b=>a.1<b.1:=by
 unfold bP;refine List.Pairwise.filterMap _ (λa f h b d g c=>?_) List.pairwise_lt_range;cases q:owner.getD a MY with
 |none=>rw[q]at d;cases d
 |some k=>
  rw[q]at d;cases e:owner.getD f MY with
  |none=>rw[e]at c;cases c
  |some i=>
   rw[e]at c;cases d;cases c;exact h
theorem x4{t:Of}{hs:Array Int}(hm:Mk (sizeAbove wanted-1))(nf:hs.size*5<(sizeAbove wanted-1)*3):
  ∃(t':Of) (c:Array Nat),t.relaid hs wanted=on (t',c)/\c.toList.Perm (Nd hs.size)/\Tb t' (c.toList.map λk=>hs.getD k 0)/\t'.led=t.led/\t'.plain=t.plain:=by
 have ho:=hm.odd;obtain⟨owner,e,O⟩:=Kj hm hs (by omega);generalize T:sizeAbove wanted-1=mask at*;have d:hs.toList.length=hs.size:=by simp
 have f:=yB mask owner;have g:∀{j k:Nat},(j,k)∈bP mask owner↔owner[j]?=on (on k):=AS O.sz;have U:t.relaid hs wanted=on ({mask,place:=((bP mask owner).map (·.1)).toArray,dummies:=#[],finger:=t.finger,led:=t.led,moves:=t.movedTo mask,plain:=t.plain},((bP mask owner).map (·.2)).toArray):=by
  unfold relaid laid;rw[T,e];rfl
 have perm:((bP mask owner).map (·.2)).Perm (Nd hs.size):=by
  refine(List.perm_ext_iff_of_nodup ?_ TU).mpr λk=>?_
  ·unfold List.Nodup
   rw[R8];refine List.Pairwise.imp_of_mem (R:=λa b=>a.1<b.1) (λ{a b} ha B h z=>?_) f;obtain⟨j,k⟩:=a;obtain⟨r,v⟩:=b;have W:k=v:=z;subst W;have:=O.un j r k (g.mp ha) (g.mp B);have h':j<r:=h;omega
  ·rw[Nw,Nz]
   constructor
   ·rintro⟨⟨j,v⟩,h,rfl⟩
    have:=O.lt j v (g.mp h);rwa[d]at this
   ·intro A
    obtain⟨j,n,C,_⟩:=O.ex k _ (M6 (by rw[d];exact A));exact⟨(j,k),g.mpr C,rfl⟩
 have l:(bP mask owner).length=hs.size:=by
  have:=perm.length_eq;rwa[MZ,ND]at this
 refine⟨_,_,U,by simpa using perm,?_,rfl,rfl⟩;have pg:∀{i:Nat} {x:Nat},(((bP mask owner).map (·.1)).toArray)[i]?=on x->∃k,(bP mask owner)[i]?=on (x,k):=λ{i x} h=>by
  rw[SQ,M9]at h;cases q:(bP mask owner)[i]? with
  |none=>rw[q]at h;cases h
  |some a=>
   rw[q]at h;cases h;exact⟨a.2,rfl⟩
 have F:∀{j k:Nat},owner[j]?=on (on k)->∃i:Nat,(((bP mask owner).map (·.1)).toArray)[i]?=on j:=λ{j k} h=>by
  obtain⟨i,X,Y⟩:=S6 (g.mpr h);exact⟨i,by rw[SQ,M9,M6 X,Y];rfl⟩
 refine⟨hm,?_,?_,?_,rfl,?_,?_⟩
 ·show(((bP mask owner).map (·.1)).toArray).size=_
  simp
 ·intro i k x y H Z hy
  obtain⟨a,ha⟩:=pg Z;obtain⟨b,B⟩:=pg hy;obtain⟨C,I⟩:=Nj.mp ha;obtain⟨h2,e2⟩:=Nj.mp B;have:=PM.mp f i k C h2 H;rw[I,e2]at this;exact this
 ·intro i j h
  obtain⟨a,ha⟩:=pg h;have:=(On.mp (g.mp (NB ha))).1;have:=O.sz;show j<=mask;omega
 ·show(((bP mask owner).map (·.1)).toArray).size*5<mask*3
  have:(((bP mask owner).map (·.1)).toArray).size=hs.size:=by simp[l]
  omega
 ·intro i h j J hj
  obtain⟨k,A⟩:=pg hj;have o:=g.mp (NB A);have eh:hs.toList[k]?=on h:=by
   rw[M9]at J;have I:((bP mask owner).map (·.2)).toArray.toList[i]?=on k:=by
    show((bP mask owner).map (·.2))[i]?=_;rw[M9,A];rfl
   rw[I]at J;have N:k<hs.size:=by have:=O.lt j k o;rwa[d]at this
   have:hs.getD k 0=h:=NN J;rw[Qh,getElem?_pos hs k N,←this];simp[PX,N]
  obtain⟨r,n,a1,a2,a3⟩:=O.ex k h eh;have:=O.un j r k o a1;subst this;have tr:∀(u:Of),u.mask=mask->∀m,itr u m (u.probeStart h)=itr (tm mask) m ((tm mask).probeStart h):=λu Q m=>by
   rw[v6 (u:=tm mask) Q,tU (u:=tm mask) Q]
  refine⟨n,by rw[tr _ rfl];exact a2,λm L=>?_⟩;rw[tr _ rfl];obtain⟨v,p⟩:=a3 m L;exact F p
theorem qD{t:Of}(a:t.probe f h p=r)(T:Tb t hs)(v:Pv t p)(b:e<10*turns t.mask)(c:¬Lv t (itr t e p).j):
  ∃m,m<=e/\(∀d<m,∃i,t.place[i]?=on (itr t d p).j/\f i≠h)/\
   ((¬Lv t (itr t m p).j/\r=on (.empty (itr t m p).j MY))\/∃i,t.place[i]?=on (itr t m p).j/\f i=h/\r=on (.candidate (itr t m p).j i (itr t (m+1) p))):=by
 subst a;exact FP T.rs T.du _ p e v b c
section
variable{prog:NQ}{w:N0}{A:Oj}{E:M7->Ng->Prop}{s:Ng}
noncomputable abbrev IKd(prog:NQ)(w:N0):HeapKind prog w (List Int):=tupleKind (SZ prog w)
noncomputable abbrev hsh(prog:NQ)(w:N0)(k:List Int):Int:=(IKd prog w).hash k
theorem Tb.fits{t:Of}{hs:List Int}(T:Tb t hs)(hn:hs.length=n):t.fits n=M2:=by
 have:=T.nf;have:=T.sz;have:=T.km.odd;unfold Ub SetTable.fill;rw[T.du];simp;omega
theorem items_int(h:ItemsAre (SZ prog w) ks vs):∀v∈vs,∃n t,v=Qt n t:=by
 induction h with
 |nil=>intro v hv;cases hv
 |@cons k v' ks vs h1 _ ih=>
  intro v hv;rcases Nq.mp hv with rfl|hv
  ·obtain⟨t,e⟩:=Tl h1
   exact⟨_,t,e⟩
  ·exact ih v hv
theorem xt{M:Model}{o:NM}(b:s.heap.get? a=on o)(h:Q o.cls s):Nn M A (typeOf (.ref a)) Q E s:=by
 show Nn M A (loadPart a _>>=_) Q E s;exact My (wpAny_loadPart b (M0 h))
theorem tj(f:(IKd prog w).is s.heap k x)(h:Q M4 s):Nn (NL prog w) A (Ul 8 (.ref x)) Q E s:=by
 obtain⟨o,b,n,e,g,hd,i⟩:=f;unfold Ul;refine My (xt e ?_);rw[g];simp only[Py,N4];refine My (M0 ?_);simp only[OI,Np,N3];refine My (O4 e hd ?_);refine My ?_;show Nn _ _ (forIn b _ _) _ _ s;rw[←QU];refine SS _ (λrest r s'=>r.1=MY/\s'=s/\∀v∈rest,∃n t,v=Qt n t) _ ?_ ?_ _ _ ⟨rfl,rfl,items_int i⟩
 ·rintro v rest r s' ⟨c,rfl,a⟩
  obtain⟨n,t,rfl⟩:=a v Nb;unfold Ul;refine My (M0 ?_);simp only[Np,N3];exact M0 ⟨rfl,rfl,λu d=>a u (M5 _ d)⟩
 ·rintro⟨r1,j⟩ s' ⟨c,rfl,_⟩
  simp only at c;subst c;exact M0 h
theorem BV(e:(IKd prog w).is s.heap k x)(h:Q M2 s):Nn (NL prog w) A (hashByValue 8 (.ref x)) Q E s:=by
 have f:=UO (s:=s) e;obtain⟨o,b,n,g,j,hd,i⟩:=e;unfold hashByValue;refine My (P0 f F.slot_tuple_hash.lookup ?_);simp only;refine My (O4 g hd ?_);refine My ?_;show Nn _ _ (forIn b _ _) _ _ s;rw[←QU];refine SS _ (λrest r s'=>r.1=MY/\s'=s/\∀v∈rest,∃n t,v=Qt n t) _ ?_ ?_ _ _ ⟨rfl,rfl,items_int i⟩
 ·rintro v rest r s' ⟨c,rfl,a⟩
  obtain⟨n,t,rfl⟩:=a v Nb;unfold hashByValue;refine My (M0 ?_);simp only[OI,Np,N3];exact M0 ⟨rfl,rfl,λu d=>a u (M5 _ d)⟩
 ·rintro⟨r1,l⟩ s' ⟨c,rfl,_⟩
  simp only at c;subst c;exact M0 h
theorem HX(f:(IKd prog w).is s.heap k x):∀(l:List (List Int×M3)) {Q:Bool->Ng->Prop},(∀y∈l,(IKd prog w).is s.heap y.1 y.2)->Q M4 s->Nn (NL prog w) A (Uo (.ref x) (l.map λy=>NC y.2)) Q E s:=by
 intro l Q h i;unfold Uo;refine My ?_;refine SS _ (λrest r s'=>r.1=MY/\s'=s/\∃b:List (List Int×M3),rest=b.map (λy=>NC y.2)/\∀y∈b,(IKd prog w).is s.heap y.1 y.2) _ ?_ ?_ _ _ ⟨rfl,rfl,l,rfl,h⟩
 ·rintro v rest r s' ⟨d,rfl,b,e,a⟩
  cases b with
  |nil=>cases e
  |cons y b=>
   cases e;have g:=a y Nb;have nxt:(MY:Option Bool)=MY/\s'=s'/\∃c:List (List Int×M3),b.map (λy=>NC y.2)=c.map (λy=>NC y.2)/\∀y∈c,(IKd prog w).is s'.heap y.1 y.2:=⟨rfl,rfl,b,rfl,λu j=>a u (M5 y j)⟩;by_cases q:x==y.2
   ·simp only[q,Bool.true_or,N4]
    exact M0 nxt
   ·simp only[q,Bool.false_or,carriedByValue,RO,Np,N3]
    refine My ((IKd prog w).quiet f ?_);simp only[OI,Np,N3];refine My ((IKd prog w).quiet g ?_);simp only[OI,Np,N3];refine My (tj f ?_);simp only[Np,N3];refine My (tj g ?_);simp only[Np,N3];exact M0 nxt
 ·rintro⟨r1,m⟩ s' ⟨d,rfl,_⟩
  simp only at d;subst d;exact M0 i
theorem xN{o:NM}{es:Array (Int×M7)}{t:Of}{xs:List (List Int×M3)}(hu:A.units<R5)(ho:s.heap.get? a=on o)(hd:o.data= .set es ep t)
  (H:es.toList=xs.map λx=>(hsh prog w x.1,NC x.2)) (hx:∀x∈xs,(IKd prog w).is s.heap x.1 x.2) (T:Tb t (xs.map λx=>hsh prog w x.1)) (hk:(IKd prog w).is s.heap k b)
  (he:e<10*turns t.mask) (U:¬Lv t (itr t e (t.probeStart (hsh prog w k))).j) (ha:∀m<e,Lv t (itr t m (t.probeStart (hsh prog w k))).j)
  (q1:k∈xs.map (·.1)->Q (.there MY) s) (q2:k∉xs.map (·.1)->Q (.free (itr t e (t.probeStart (hsh prog w k))).j M4) s):
  ∀(n c m:Nat) (st:Option Probe),e=m+n->n<c->st.getD (t.probeStart (hsh prog w k))=itr t m (t.probeStart (hsh prog w k))->(∀g<m,∀(i:Nat) x,t.place[i]?=on (itr t g (t.probeStart (hsh prog w k))).j->xs[i]?=on x->x.1≠k)->
   Nn (NL prog w) A (setSearchFrom a (.ref b) (hsh prog w k) M2 c st) Q E s:=by
 have hsz:es.size=xs.length:=by rw[←NS,H,MZ]
 have W:t.fits es.size=M2:=T.fits (by rw[MZ,hsz]);have l:∀i:Nat,es[i]?=(xs[i]?).map λx=>(hsh prog w x.1,NC x.2):=λi=>by rw[←Qh,H,M9]
 have gw:t.gaveWay=M4:=by
  have:=T.km.odd;unfold SetTable.gaveWay;rw[UQ];omega
 intro n
 induction n using Nat.strongRecOn with
 |_ n ih=>
  intro c m st em hfu hst p;cases c with
  |zero=>omega
  |succ c=>
   unfold setSearchFrom;refine My (O0 ho hd W ?_)
   dsimp only
   rw[hst,gw];simp only[Np,N3];have v:=k7 m (mU t (hsh prog w k));have it:∀n',itr t n' (itr t m (t.probeStart (hsh prog w k)))=itr t (m+n') (t.probeStart (hsh prog w k)):=λn'=>(lY t m n' _).symm;have same:∀{i O j:Nat},t.place[i]?=on j->t.place[O]?=on j->i=O:=λ{i O j} u C=>by
    rcases Qo i O with q|q|q
    ·exact NE (T.rs i O j j q u C) (Oc j)
    ·exact q
    ·exact NE (T.rs O i j j q C u) (Oc j)
   split
   ·rename_i X heq
    obtain⟨g,hm',r,d⟩:=qD heq T v (e:=n) (by omega) (by rw[it,←em];exact U);rcases d with⟨Y,I⟩|⟨i,R,hfi,I⟩
    ·cases I
     have Z:g=n:=by
      rcases TK g n with q|q
      ·rw[it]at Y
       exact NE (ha (m+g) (by omega)) Y
      ·omega
     subst Z;refine M0 ?_;rw[it,←em];refine q2 λhmem=>?_;obtain⟨x,hx1,J⟩:=Nw.mp hmem;obtain⟨B,hi0,ei0⟩:=S6 hx1;have h:xs[B]?=on x:=by rw[M6 hi0,ei0]
     have L:B<t.place.size:=by have:=T.sz;rw[MZ]at this;omega
     obtain⟨F,a1,a2⟩:=T.rch B (hsh prog w k) t.place[B] (by rw[M9,h,←J];rfl) (getElem?_pos t.place B L);have hlt:F<e:=by
      rcases Qo F e with q|q|q
      ·exact q
      ·subst q
       exact NE ⟨B,by rw[a1];exact getElem?_pos t.place B L⟩ U
      ·exact NE (a2 e q) U
     have hp0:t.place[B]?=on (itr t F (t.probeStart (hsh prog w k))).j:=by rw[a1];exact getElem?_pos t.place B L
     by_cases q:F<m
     ·exact p F q B x hp0 h J
     ·obtain⟨i,u,C⟩:=r (F-m) (by omega)
      rw[it,show m+(F-m)=F by omega]at u;have:=same u hp0;subst this;refine C ?_;show(es[i]?.map (·.1)).getD 0=_;rw[l,h,←J];rfl
    ·cases I
     have N:i<xs.length:=by
      have u:=(On.mp R).1;have:=T.sz;rw[MZ]at this;omega
     have h:xs[i]?=on xs[i]:=M6 N;have hei:es[i]?=on (hsh prog w xs[i].1,NC xs[i].2):=by rw[l,h];rfl
     have hxk:=hx xs[i] (Oa N);rw[it]at R;simp only;have el:(OG (λx=>x.snd) (Array.filter (λx=>x.fst==hsh prog w k) es).toList)=(xs.filter λy=>hsh prog w y.1==hsh prog w k).map λy=>NC y.2:=by
      rw[Array.toList_filter,H,T7,Nk];rfl
     rw[el];have seen:∀{Q':Bool->Ng->Prop},Q' M4 s->Nn (NL prog w) A (Uo (.ref b) ((xs.filter λy=>hsh prog w y.1==hsh prog w k).map λy=>NC y.2)) Q' E s:=λhq=>HX hk _ (λy hy=>hx y (SL.mp hy).1) hq;have sm:t.sameMemory t.moves t.mask=on M2:=by unfold sameMemory;simp
     have sl:t.slot (itr t (m+g) (t.probeStart (hsh prog w k))).j= .live i:=qw T.rs R;cases hled:t.led
     all_goals simp only[PF,OI,Np,N4,N3,it,hei]
     all_goals try refine My (seen ?_)
     all_goals try simp only[Np,N3]
     all_goals
      refine My (OB ((IKd prog w).eqBool hu hxk hk (My (O0 ho hd W ?_))));simp only[Sd];by_cases q:xs[i].1=k
      ·rw[Nf (NF q)]
       exact M0 (q1 (Nw.mpr ⟨xs[i],Oa N,q⟩))
      ·rw[M8 (by simpa using q)]
       simp only[sm,N4,sl,hei];refine My ?_;unfold isSame;simp only[Py,N4];refine M0 (My (M0 ?_));simp only[N4];rw[M8 (by simpa using q)];have Z:g<n:=by
        rcases TK g n with z|z
        ·exact z
        ·obtain rfl:g=n:=by omega
         rw[←em]at R;exact NE ⟨i,R⟩ U
       refine ih (n-(g+1)) (by omega) c (m+g+1) _ (by omega) (by omega) rfl λm2 hm2 i2 x2 u C z=>?_;by_cases q1:m2<m
       ·exact p m2 q1 i2 x2 u C z
       ·by_cases q2:m2=m+g
        ·subst q2
         have:=same R u;subst this;rw[h]at C;cases C;exact q z
        ·obtain⟨i3,h3,h4⟩:=r (m2-m) (by omega)
         rw[it,show m+(m2-m)=m2 by omega]at h3;have:=same h3 u;subst this;refine h4 ?_;show(es[i3]?.map (·.1)).getD 0=_;rw[l,C,←z];rfl
   ·rename_i hno
    have key:∀f:Nat->Int,(∀X,t.probe f (hsh prog w k) (itr t m (t.probeStart (hsh prog w k)))=on X->False)->False:=λf W=>by
     obtain⟨g,hm',r,d⟩:=qD (f:=f) rfl T v (e:=n) (by omega) (by rw[it,←em];exact U);rcases d with⟨_,I⟩|⟨i,_,_,I⟩
     ·exact W _ I
     ·exact W _ I
    exact(key _ hno).elim
theorem Mz{P:Nat->Prop}:∀n,P n->∃m,m<=n/\P m/\∀k<m,¬P k:=by
 intro n
 induction n using Nat.strongRecOn with
 |_ n ih=>
  intro h;by_cases q:∃k,k<n/\P k
  ·obtain⟨k,a,b⟩:=q
   obtain⟨m,d,c⟩:=ih k a b;exact⟨m,by omega,c⟩
  ·exact⟨n,Nh n,h,λk a b=>q ⟨k,a,b⟩⟩
def qf(prog:NQ)(w:N0)(h:Ox)(a:M3)(xs:List (List Int×M3)):Prop:=
 ∃o es ep t,h.get? a=on o/\o.ExactSet/\o.data= .set es ep t/\(es.toList=xs.map λx=>(hsh prog w x.1,NC x.2))/\(xs.map (·.1)).Nodup/\(∀x∈xs,(IKd prog w).is h x.1 x.2)/\(Tb t (xs.map λx=>hsh prog w x.1))/\t.plain=M2/\t.led=!(w.params.followText "set-order")
theorem nK{h h':Ox}{o:NM}{es ep t}(x:(IKd prog w).is h k b)(i:h.get? a=on o)(hd:o.data= .set es ep t)(hs:NP a h h'):(IKd prog w).is h' k b:=by
 obtain⟨g,c,n,e,j,d,l⟩:=x;have f:b≠a:=by
  rintro rfl;obtain rfl:g=o:=NN (e.symm.trans i);rw[hd]at d;exact nomatch d
 exact⟨g,c,n,(hs.2 b f).trans e,j,d,l⟩
theorem qr{h:Ox}{o:NM}(c:h.get? a=on o)(hd:o.data= .set es ep t)(b:Array (Int×M7))(t':Of):(h.update a (SN b t')).get? a=on {o with data:= .set b (ep+1) t'}:=by
 have:=Ql (SN b t') c (by rw[putSet_of b t' hd];rfl);rw[putSet_of b t' hd]at this;exact this
theorem JK{t:Of}(T:Tb t hs)(j:Nat):(t.put j).1.dummies=#[]/\(t.put j).1.place.size=t.place.size+1/\(t.put j).2<=t.place.size:=by
 obtain⟨b1,b2,b3⟩:=ij (j:=j) T.rs;have hd:has t.dummies j=M4:=by unfold has;rw[T.du];rfl
 refine⟨?_,eY b1,b1⟩;show(if has t.dummies j=M2 then _ else t.dummies)=#[];rw[hd,M8 Ni,T.du]
theorem IK{α β:Type}{xs:List α}{ys:Array β}{f:α->β}(e:ys.toList=xs.map f){p:Nat}(c:p<=ys.size)(x:α):(insertAt ys p (f x)).toList=(xs.take p++x::xs.drop p).map f:=by
 unfold insertAt;simp only[Array.toList_append,VW,Array.toList_extract];have a:(ys.toList.extract 0 p)=ys.toList.take p:=by simp[List.extract]
 have b:(ys.toList.extract p ys.size)=ys.toList.drop p:=by
  simp only[List.extract];rw[OR (by simp)]
 rw[a,b,e,NR,Nl,Ta,Rj,Oy];rfl
theorem LG{xs:List (List Int×M3)}(hu:A.units<R5)(S:qf prog w s.heap a xs)(hk:(IKd prog w).is s.heap k b)(hn:xs.length<63)
  (h:∀h' q,NP a s.heap h'->qf prog w h' a q->(k∈xs.map (·.1)->q=xs)->(k∉xs.map (·.1)->q.Perm ((k,b)::xs))->Q (decide (k∉xs.map (·.1))) {s with heap:=h'}):
  Nn (NL prog w) A (setAddHashed a (.ref b) (hsh prog w k)) Q E s:=by
 have S0:=S;obtain⟨o,es,ep,t,U,X,hd,W,hnd,hx,T,hp,J⟩:=S;have F:es.size=xs.length:=by rw[←NS,W,MZ]
 have hf:t.fits es.size=M2:=T.fits (by rw[MZ,F]);have Y:t.place.size=xs.length:=by rw[T.sz,MZ]
 obtain⟨e0,he0,hl0⟩:=T.free (mU t (hsh prog w k));obtain⟨e,hee,hl,Z⟩:=Mz (P:=λe=>¬Lv t (itr t e (t.probeStart (hsh prog w k))).j) e0 hl0;have ha:∀m<e,Lv t (itr t m (t.probeStart (hsh prog w k))).j:=λm hm=>Classical.not_not.mp (Z m hm);have hmk:=T.km.odd;unfold setAddHashed setAddHashedIn;refine OB (My (O0 U hd hf ?_));have hb:byScan (NC b) es=M4:=rfl;simp only[hb,Np,N3];refine My ?_;unfold setSearch;refine xN (e:=e) hu U hd W hx T hk (by omega) hl ha (λhm=>?_) (λhm=>?_) e 100000 0 MY (by omega) (by unfold turns at he0;omega) rfl (λm' hm'=>NE hm' (Pr _))
 ·refine M0 ?_
  have:=h s.heap xs (NP.refl a s.heap) S0 (λ_=>rfl) (λz=>NE hm z);rw[N8 (λz=>z hm)]at this;exact this
 ·have hQ:∀h' q,NP a s.heap h'->qf prog w h' a q->q.Perm ((k,b)::xs)->Q M2 {s with heap:=h'}:=λh' q h1 h2 h3=>by
   have:=h h' q h1 h2 (λz=>NE z hm) (λ_=>h3);rwa[NF hm]at this
  simp only;refine My (O0 U hd hf ?_);generalize hj:(itr t e (t.probeStart (hsh prog w k))).j=j at hl;obtain⟨pd,ps,pl⟩:=JK T j;generalize y:t.put j=tp at pd ps pl;obtain⟨u,p⟩:=tp;simp only at pd ps pl⊢;have l:u.plain=M2:=by
   have:(t.put j).1.plain=t.plain:=rfl;rw[y]at this;rw[this,hp]
  have L:u.led=t.led:=by
   have:(t.put j).1.led=t.led:=rfl;rw[y]at this;exact this
  have v:u.mask=t.mask:=by
   have:(t.put j).1.mask=t.mask:=rfl;rw[y]at this;exact this
  rw[l];simp only[N4];refine My (BV hk ?_);simp only[N4];have N:=IK (f:=λx:List Int×M3=>(hsh prog w x.1,NC x.2)) W (p:=p) (by omega) (k,b);have B:(insertAt es p (hsh prog w k,NC b)).size=es.size+1:=eY (by omega);have d:(xs.take p++(k,b)::xs.drop p).Perm ((k,b)::xs):=by
   have:=List.perm_middle (a:=(k,b)) (l₁:=xs.take p) (l₂:=xs.drop p);rwa[Qm]at this
  have nd1:((xs.take p++(k,b)::xs.drop p).map (·.1)).Nodup:=by
   refine(d.map (·.1)).nodup_iff.mpr ?_;rw[Nl,Ob];exact⟨hm,hnd⟩
  refine My (wpAny_storeSet_of U hd ?_ (by rw[B,Ph];omega));have H:=OO s.heap a (SN (insertAt es p (hsh prog w k,NC b)) u);have g1:=qr U hd (insertAt es p (hsh prog w k,NC b)) u;have hx1:∀x∈xs.take p++(k,b)::xs.drop p,(IKd prog w).is (s.heap.update a (SN (insertAt es p (hsh prog w k,NC b)) u)) x.1 x.2:=λx hx'=>by
   rcases Nq.mp (d.mem_iff.mp hx')with rfl|hx'
   ·exact nK hk U hd H
   ·exact nK (hx x hx') U hd H
  by_cases r:u.tooFull=M2
  ·simp only[r,PF,Rf,N4]
   have fu:u.fill*5≥u.mask*3:=by unfold tooFull at r;exact PP r
   have fe:u.fill=xs.length+1:=by unfold fill;rw[pd,ps,Y];rfl
   have nf0:=T.nf;have f1:u.fits (insertAt es p (hsh prog w k,NC b)).size=M2:=by
    unfold Ub;rw[B,fe,ps,Y,F,v];simp;omega
   have wm:Mk (sizeAbove (grown (es.size+1))-1)/\(es.size+1)*5<(sizeAbove (grown (es.size+1))-1)*3/\sizeAbove (grown (es.size+1))<=128:=by
    rw[fe,v]at fu;rw[F];rcases T.km with z|z|z
    ·have:xs.length=4:=by omega
     rw[this];exact⟨.inr (.inl (by decide)),by decide,by decide⟩
    ·have:xs.length=18:=by omega
     rw[this];exact⟨.inr (.inr (by decide)),by decide,by decide⟩
    ·omega
   have C:(Array.map (λx=>x.fst) (insertAt es p (hsh prog w k,NC b))).size=es.size+1:=by rw[Array.size_map,B]
   obtain⟨t2,c,er,op,T2,led2,I⟩:=x4 (t:=u) (hs:=(insertAt es p (hsh prog w k,NC b)).map (·.1)) (wanted:=grown (es.size+1)) wm.1 (by rw[C];exact wm.2.1);refine My ?_;unfold setRelay;refine My (O0 g1 rfl f1 ?_);simp only;rw[M8 (by rw[Ph];omega)];rw[er];generalize hE1:insertAt es p (hsh prog w k,NC b)=es1 at*;generalize hX1:xs.take p++(k,b)::xs.drop p=xs1 at*;have l1:xs1.length=es.size+1:=by rw[d.length_eq,Nm,F]
   have O:∀i,i<xs1.length->es1[i]?=on (hsh prog w (xs1.getD i (k,b)).1,NC (xs1.getD i (k,b)).2):=λi R=>by
    rw[←Qh,N,M9,M6 R,Na,M6 R];rfl
   have om:∀i∈c.toList,i<xs1.length:=λi R=>by
    have:=Nz.mp (op.mem_iff.mp R);rw[C]at this;omega
   have efl:(c.filterMap λx=>es1[x]?).toList=(c.toList.map λi=>xs1.getD i (k,b)).map λx=>(hsh prog w x.1,NC x.2):=by
    rw[Array.toList_filterMap,ua (g:=λi=>(hsh prog w (xs1.getD i (k,b)).1,NC (xs1.getD i (k,b)).2)) λi R=>O i (om i R),Nk];rfl
   have n:(c.toList.map λi=>xs1.getD i (k,b)).Perm xs1:=by
    refine(op.map _).trans (Ti ?_);rw[C,←l1];refine Qy (by simp) λi h1 h2=>?_;rw[Qz,QZ,Na,M6 h2];rfl
   have fsz:(c.filterMap λx=>es1[x]?).size=es1.size:=by
    rw[←NS,efl,MZ,n.length_eq,l1,B]
   refine My ?_;show Nn _ _ (if((c.filterMap λx=>es1[x]?).size !=es1.size)=M2 then _ else _) _ _ _;rw[M8 (by rw[fsz];simp)];refine M0 ?_;refine wpAny_storeSet_of g1 rfl ?_ (by rw[fsz,B,Ph];omega);have sb2:=OO (s.heap.update a (SN es1 u)) a (SN (c.filterMap λx=>es1[x]?) t2);have g2:=qr g1 rfl (c.filterMap λx=>es1[x]?) t2;refine M0 (hQ _ (c.toList.map λi=>xs1.getD i (k,b)) (H.trans sb2) ⟨_,_,_,t2,g2,X,rfl,efl,?_,λx hx'=>?_,?_,by rw[I,l],by rw[led2,L,J]⟩ (n.trans d))
   ·exact(n.map (·.1)).nodup_iff.mpr nd1
   ·exact nK (hx1 x (n.mem_iff.mp hx')) g1 rfl sb2
   ·have eh:(c.toList.map λi=>xs1.getD i (k,b)).map (λx=>hsh prog w x.1)=c.toList.map λi=>(es1.map (·.1)).getD i 0:=by
     rw[Nk];refine NT λi R=>?_;have h1:=O i (om i R);have h2:(es1.map (·.1))[i]?=on (hsh prog w (xs1.getD i (k,b)).1):=by rw[Array.getElem?_map,h1];rfl
     have h3:=(On.mp h2);obtain⟨h4,h5⟩:=h3;simp only[RQ];rw[←h5];simp[PX,h4];omega
    rw[eh];exact T2
  ·simp only[r,PF,Bool.and_false,N3,Sd,Np]
   refine M0 (hQ _ (xs.take p++(k,b)::xs.drop p) H ⟨_,_,_,u,g1,X,rfl,N,nd1,hx1,?_,l,by rw[L,J]⟩ d);have nf:(t.place.size+1)*5<t.mask*3:=by
    have:¬(u.fill*5≥u.mask*3):=by
     intro z;exact r (by unfold tooFull;exact NF z)
    unfold fill at this;rw[pd,ps,v]at this;simp at this;omega
   have:=(T.put (h:=hsh prog w k) hl hj (by exact ha) nf).2.2.2.2;rw[y]at this;rw[NR,Nl,Ta,Rj];exact this
end
namespace F2
theorem si_next:Slot "set_iterator" "__next__" "set_iterator.__next__":= .of (owner:="set_iterator") (n:="__next__") (by rw[US,Td];kernel_rfl) (by decide +kernel) (by decide +kernel) (by decide +kernel)
  (by first|exact .inl (by decide +kernel)|exact .inr (by decide +kernel)) (by rw[Ss];kernel_rfl)
theorem si_iter:Slot "set_iterator" "__iter__" "set_iterator.__iter__":= .of (owner:="set_iterator") (n:="__iter__") (by rw[US,Td];kernel_rfl) (by decide +kernel) (by decide +kernel) (by decide +kernel)
  (by first|exact .inl (by decide +kernel)|exact .inr (by decide +kernel)) (by rw[Ss];kernel_rfl)
theorem ent_next:entryFor table "set_iterator.__next__"=on Builtin.«set_iterator.__next__»:=entryFor_of_tree (by kernel_rfl)
theorem ent_iter:entryFor table "set_iterator.__iter__"=on Builtin.«dict_keyiterator.__iter__»:=Vg (id':="dict_keyiterator.__iter__") (by kernel_rfl) rfl (by decide +kernel) (by kernel_rfl)
theorem ent_set_iter:entryFor table "set.__iter__"=on Builtin.«frozenset.__iter__»:=Vg (id':="frozenset.__iter__") (by kernel_rfl) rfl (by decide +kernel) (by kernel_rfl)
theorem args_next(a:M7):argsOk "set_iterator.__next__" ⟨[a],[]⟩:=by unfold argsOk;kernel_rfl
theorem args_iter(a:M7):argsOk "set_iterator.__iter__" ⟨[a],[]⟩:=by unfold argsOk;kernel_rfl
end F2
theorem o4{α:Type}:∀{l:List α} {i:Nat} (h:i<l.length),(l[i]::l.eraseIdx i).Perm l
 |[],i,h=>NE h (Pr i)
 |a::l,0,h=> .refl _
 |a::l,i+1,h=>by
  show(l[i]'(by simpa using h)::a::l.eraseIdx i).Perm (a::l);exact(List.Perm.swap _ _ _).trans ((o4 (by simpa using h)).cons a)
theorem u5{α:Type}(next:Nat->Nat):∀(fuel k:Nat) (left:List α) (a:Array α),left.length<=fuel->(Um next fuel k left a).toList.Perm (a.toList++left)
 |0,k,left,a,h=>by
  have:left=[]:=Sx.mp (by omega);subst this;unfold Um;rw[NV]
 |fuel+1,k,left,a,h=>by
  unfold Um;cases left with
  |nil=>simp
  |cons c d=>
   have b:next k % (c::d).length<(c::d).length:=UA _ (by simp)
   rw[M6 b];simp only;refine(u5 next fuel (k+1) _ _ (by rw[List.length_eraseIdx_of_lt b];omega)).trans ?_
   rw[VW,Oy];exact List.Perm.append_left _ (o4 b)
theorem yc{α:Type}(next:Nat->Nat)(xs:Array α):(UE next xs).toList.Perm xs.toList:=by
 unfold UE;refine(u5 next xs.size 0 xs.toList #[] (by simp)).trans ?_
 simp
section
variable{prog:NQ}{w:N0}{A:Oj}{E:M7->Ng->Prop}{s:Ng}
noncomputable def dm(w:N0)(a:M3)(ep:Nat)(es:Array (Int×M7)):Array (Int×M7):=if w.params.followText "set-order"=M2 then UE (w.params.setOrder a ep) es else es
theorem jM(w:N0)(a:M3)(ep:Nat)(es:Array (Int×M7)):(dm w a ep es).toList.Perm es.toList:=by
 unfold dm;split
 ·exact yc _ _
 ·exact .refl _
structure SIt (w:N0) (h:Ox) (I a:M3) (es:Array (Int×M7)) (ep:Nat) (t:Of) (i:Nat):Prop where
 st:∃o,h.get? a=on o/\o.data= .set es ep t
 it:∃(o:NM) (sl:Nat),h.get? I=on o/\o.cls= .type "set_iterator"/\o.data= .fields #[.int sl 0,.int i 0,.ref a,.int es.size 0,.int ep 0]/\(w.params.followText "set-order"=M4->below t.place sl=i)
theorem ln{M:Model}(h:Q (M.w.params.followText "set-order") s):Nn M A setsByText Q E s:=by
 unfold setsByText;exact My (RF (M0 h))
theorem yp{es:Array (Int×M7)}{t:Of}{e:Int×M7}(T:Tb t hs)(h:t.fits es.size=M2)(H:t.plain=M2)(J:t.led=!(w.params.followText "set-order"))(x:SIt w s.heap I a es ep t i)(k:I≠a)(l:(dm w a ep es)[i]?=on e)
  (L:∀h',SIt w h' I a es ep t (i+1)->NP I s.heap h'->Q (on e.2) {s with heap:=h'}):Nn (NL prog w) A (Rp (.ref I)) Q E s:=by
 obtain⟨⟨N,b,c⟩,o,sl,n,u,hd,p⟩:=id x;have y:s.TypeIs (.ref I) "set_iterator":=⟨o,n,u⟩;unfold Rp;refine My (RK (wpAny_callSpecial?_slot (name:=OS "__next__") y F2.si_next (N2 F2.si_next y F2.ent_next ?_ (F2.args_next _))));unfold Builtin.«set_iterator.__next__»;refine My (M0 ?_);refine My (Tq n hd ?_);simp only;refine My (TM b c h ?_);simp only[Qj,Np,N3];refine My ?_;simp only[OJ]
 have d:∀nx:Nat,(w.params.followText "set-order"=M4->below t.place nx=i+1)->Nn (NL prog w) A.in1 (do
    Vl (NC I) 0 (Rq nx)
    Vl (NC I) 1 (Rq (i+1))
    ret e.2) (λd s'=>∃v,d=Fin.done (Flow.ret v)/\Nn (NL prog w) A (Pn (on v)) Q E s') (λe s'=>Nn (NL prog w) A (do
     if(←T0 e (PZ "StopIteration"))=M2 then Pn MY else throw e) Q E s') s:=λnx r=>by
  refine My (Rr n hd (by simp) ?_);have B:(s.heap.update I (Obj.mapFields (·.setIfInBounds 0 (Rq nx)))).get? I=on _:=Ql _ n (SR (Pj hd _));refine My (Rr B (Pj hd _) (by simp) ?_);refine M0 ⟨_,rfl,M0 (L _ ⟨⟨N,?_,c⟩,⟨_,nx,Ql _ B (SR (Pj (Pj hd _) _)),?_,?_,r⟩⟩ ((OO ..).trans (OO ..)))⟩
  ·rw[P3 _ _ _ _ (Ne.symm k),P3 _ _ _ _ (Ne.symm k)];exact b
  ·rw[TL,TL];exact u
  ·rw[Pj (Pj hd _)];simp[Rq]
 unfold setNext;refine My (O0 b c h (My (ln ?_)));have C:(NL prog w).w=w:=rfl;rw[C];cases q:w.params.followText "set-order"
 ·have f:dm w a ep es=es:=by unfold dm;rw[q];rfl
  rw[f]at l;have O:=p q;have U:=(On.mp l).1;simp only[Np,N3];have R:t.place.size=es.size:=by
   unfold Ub at h;simp only[NO,QJ,NZ]at h;exact h.1
  rw[M8 (λz=>by
   have F:(!t.plain&&decide (es.size>1))=M2:=z;rw[H]at F;cases F)]
  refine My ?_;show Nn _ _ (if(!t.led&&!es.isEmpty)=M2 then _ else _) _ _ _;rw[M8 (by rw[J,q];exact Ni)];refine M0 (M0 ?_);have g:t.place[i]?=on t.place[i]:=getElem?_pos t.place i (by omega);rw[O,l,g];simp only;refine d _ λ_=>?_;obtain⟨b1,b2,b3⟩:=ij (j:=t.place[i]+1) T.rs;rcases Qo (below t.place (t.place[i]+1)) (i+1)with z|z|z
  ·have:=b3 i _ (by omega) g
   omega
  ·exact z
  ·have m:t.place[i+1]?=on t.place[i+1]:=getElem?_pos t.place (i+1) (by omega)
   have W:=b2 (i+1) _ z m;have X:=T.rs i (i+1) _ _ (by omega) g m;omega
 ·have f:dm w a ep es=UE (w.params.setOrder a ep) es:=by unfold dm;rw[q];rfl
  rw[f]at l;simp only[N4,Qj,Np,N3];refine My ?_;unfold setWalk;refine My (O0 b c h (My (ln ?_)));rw[C,q];simp only[N4];refine My (RF (M0 ?_));refine M0 ?_;rw[show((NL prog w).w.params.setOrder a ep)=w.params.setOrder a ep from rfl,l];simp only[Ol];exact d _ λz=>by rw[q]at z;cases z
theorem AF{es:Array (Int×M7)}{t:Of}(r:A.handled=MY)(T:Tb t hs)(g:t.fits es.size=M2)(u:t.plain=M2)(y:t.led=!(w.params.followText "set-order"))(x:SIt w s.heap I a es ep t es.size)
  (B:∀h',TX I s.heap h'->Q MY {s with heap:=h'}):Nn (NL prog w) A (Rp (.ref I)) Q E s:=by
 obtain⟨⟨F,d,f⟩,o,sl,h,C,hd,i⟩:=id x;have l:s.TypeIs (.ref I) "set_iterator":=⟨o,h,C⟩;unfold Rp;refine My (RK (wpAny_callSpecial?_slot (name:=OS "__next__") l F2.si_next (N2 F2.si_next l F2.ent_next ?_ (F2.args_next _))));unfold Builtin.«set_iterator.__next__»;refine My (M0 ?_);refine My (Tq h hd ?_);simp only;refine My (TM d f g ?_);simp only[Qj,Np,N3];refine My ?_;simp only[OJ]
 have c:Nn (NL prog w) A.in1 (do
    Vl (NC I) 2 Oh
    let e ←Wt (PZ "StopIteration") []
    (raiseNew e:Sem Fin)) (λc s'=>∃v,c=Fin.done (Flow.ret v)/\Nn (NL prog w) A (Pn (on v)) Q E s') (λe s'=>Nn (NL prog w) A (do
     if(←T0 e (PZ "StopIteration"))=M2 then Pn MY else throw e) Q E s') s:=by
  refine My (Rr h hd (by simp) ?_);refine My ?_;simp only[Wt,newTuple];refine My (N6 ?_ (by size_fits));refine My (m:=Rm _ _) (QN (a:=Oh) (by first|rfl|(simp only[Rm];rfl)) ?_)
  refine N6 ?_ (by size_fits);simp only[raiseNew];refine My (VV ?_);rw[show A.in1.handled=MY from r];refine My (M0 (wpAny_throw ?_));refine My (PL (T:="StopIteration") (b:=M2) ⟨_,Nu _ rfl,rfl⟩ Vi ?_);exact M0 (B _ (((OO ..).extBut.push _).push _))
 unfold setNext;refine My (O0 d f g (My (ln ?_)));have n:(NL prog w).w=w:=rfl;rw[n];have j:(dm w a ep es).size=es.size:=by rw[←NS,(jM w a ep es).length_eq,NS]
 cases q:w.params.followText "set-order"
 ·simp only[Np,N3]
  rw[M8 (λz=>by
   have p:(!t.plain&&decide (es.size>1))=M2:=z;rw[u]at p;cases p)]
  refine My ?_;show Nn _ _ (if(!t.led&&!es.isEmpty)=M2 then _ else _) _ _ _;rw[M8 (by rw[y,q];exact Ni)];refine M0 (M0 ?_);rw[i q,P8 (Nh _)];exact c
 ·have k:dm w a ep es=UE (w.params.setOrder a ep) es:=by unfold dm;rw[q];rfl
  simp only[N4,Qj,Np,N3];refine My ?_;unfold setWalk;refine My (O0 d f g (My (ln ?_)));rw[n,q];simp only[N4];refine My (RF (M0 ?_));refine M0 ?_;rw[show((NL prog w).w.params.setOrder a ep)=w.params.setOrder a ep from rfl,←k,P8 (by rw[j];exact Nh _)];exact c
theorem SIt.at{h h':Ox}(x:SIt w h I a es ep t i)(k:∀b,b=I\/b=a->∀o,h.get? b=on o->h'.get? b=on o):SIt w h' I a es ep t i:=by
 obtain⟨⟨e,c,d⟩,o,sl,f,r⟩:=x;exact⟨⟨e,k a (.inr rfl) e c,d⟩,o,sl,k I (.inl rfl) o f,r⟩
theorem zw(q:A.handled=MY){es:Array (Int×M7)}{t:Of}(T:Tb t hs)(l:t.fits es.size=M2)(m:t.plain=M2)(n:t.led=!(w.params.followText "set-order"))(f:I≠a):
  Walks prog w A I [I,a] [I] es.size (λi v=>∃e,(dm w a ep es)[i]?=on e/\v=e.2) (λi h=>SIt w h I a es ep t i) where
 sub:=λb c=>by simp at c;simp[c]
 frame:=λ_ _ _ st r=>st.at λb c o e=>r b (by simpa using c) o e
 item:=λi s Q E L st d=>by
  have u:(dm w a ep es).size=es.size:=by rw[←NS,(jM w a ep es).length_eq,NS]
  have p:(dm w a ep es)[i]?=on (dm w a ep es)[i]:=getElem?_pos _ i (by omega);exact yp T l m n st f p λh' g y=>d _ h' s.toks ⟨_,p,rfl⟩ g λb o c e=>y.extBut b o (λh=>c (by simp[h])) e
 done:=λs Q E st d=>AF q T l m n st λh' j=>d h' s.toks λb o c e=>j b o (λh=>c (by simp[h])) e
 self:=λi s Q E st d=>by
  obtain⟨⟨N,B,C⟩,o,sl,F,H,hd,J⟩:=st;have k:s.TypeIs (.ref I) "set_iterator":=⟨o,F,H⟩;refine SI k F2.si_iter (N2 F2.si_iter k F2.ent_iter ?_ (F2.args_iter _));show Nn _ _ (ret (.ref I)) _ _ s;exact M0 ⟨_,rfl,"set_iterator",_,k,F2.si_next.lookup,d⟩
end
end L2.Hs
namespace L2.Hs
open PySem PySem.SetTable PyProof.Rows
section
variable{prog:NQ}{w:N0}{A:Oj}{E:M7->Ng->Prop}{s:Ng}
theorem BB{o:NM}{es:Array (Int×M7)}{t:Of}(b:s.heap.get? a=on o)(f:o.cls= .type "set")(hd:o.data= .set es ep t)(c:t.fits es.size=M2)(g:t.plain=M2)
  (h:Q (.ref s.heap.objs.size) {s with heap:=s.heap.push {cls:= .type "set_iterator",data:= .fields #[.int (0:Nat) 0,.int (0:Nat) 0,.ref a,.int es.size 0,.int ep 0]}}):Nn (NL prog w) A (Tp (.ref a)) Q E s:=by
 have d:s.TypeIs (.ref a) "set":=⟨o,b,f⟩;refine SI d F.slot_set_iter (N2 F.slot_set_iter d F2.ent_set_iter ?_ (F.args_set_iter_1 _));unfold Builtin.«frozenset.__iter__»;refine My (QN (a:=a) rfl ?_);refine My (My (TM b hd c (M0 ?_)));refine My ?_;unfold setDrawn;refine My (O0 b hd c (My (ln (M0 ?_))));rw[M8 (λz=>by
  have e:(!((NL prog w).w.params.followText "set-order")&&(!t.plain&&decide (es.size>1)))=M2:=z;rw[g]at e;simp at e)]
 refine My (M0 ?_);refine My (wpAny_setEpoch_of b hd c ?_);unfold newFields;refine My (N6 (M0 ⟨_,rfl,"set_iterator",_,⟨_,Nu _ rfl,rfl⟩,F2.si_next.lookup,?_⟩));exact h
theorem uB{o:NM}{es:Array (Int×M7)}{t:Of}(hh:A.handled=MY)(U:s.heap.get? a=on o)(B:o.cls= .type "set")(hd:o.data= .set es ep t)(T:Tb t hs)(X:t.fits es.size=M2)(Y:t.plain=M2)(hl:t.led=!(w.params.followText "set-order"))
  (hsz:es.size<=1000)
  (hQ:∀h' Z vs,(∀b o,s.heap.get? b=on o->h'.get? b=on o)->s.heap.objs.size<=h'.objs.size->s.toks<=Z->vs.Perm (es.toList.map (·.2))->Q vs {s with heap:=h',toks:=Z}):Nn (NL prog w) A (collect (.ref a)) Q E s:=by
 unfold collect;refine My (wpAny_runValue (UR F.entry_proto_collect ?_));rw[UW F.plain_proto_collect _];show Nn _ A.in1 (newList []>>=λl=>UM (.builtin "list.__iadd__" ⟨[l,.ref a],[]⟩)) _ _ s;refine My (N6 ?_);refine M0 ⟨plainId_quiet F.plain_list_iadd _,UR F.entry_list_iadd ?_⟩;rw[UW F.plain_list_iadd _];have ha:=NI U;have g:(s.heap.push {cls:= .type "list",data:= .seq ([]:List M7).toArray}).get? a=on o:=M1 _ U;have C:(s.heap.push {cls:= .type "list",data:= .seq ([]:List M7).toArray}).get? s.heap.objs.size=on {cls:= .type "list",data:= .seq ([]:List M7).toArray}:=Nu _ rfl;have r:s.heap.objs.size≠a:=Qc ha;have y:Tv (.ref s.heap.objs.size) (.ref a)=M4:=by simp[Tv,r]
 have H:(⟨s.heap.push {cls:= .type "list",data:= .seq ([]:List M7).toArray},s.gens,s.drawn,s.toks,s.os⟩:Ng).TypeIs (.ref a) "set":=⟨o,g,B⟩;show Nn _ A.in1 (S7 (.ref s.heap.objs.size) (.ref a) (.ref s.heap.objs.size)) _ _ _;unfold S7;refine My (Wx H ?_);rw[M8 (by rw[y];decide)];refine My (BB g B hd X Y ?_);refine My (OB ?_);unfold Builtin.List.listLengthHint;have n:(⟨(s.heap.push {cls:= .type "list",data:= .seq ([]:List M7).toArray}).push {cls:= .type "set_iterator",data:= .fields #[.int (0:Nat) 0,.int (0:Nat) 0,.ref a,.int es.size 0,.int ep 0]},s.gens,s.drawn,s.toks,s.os⟩:Ng).TypeIs (.ref a) "set":=⟨o,M1 _ g,B⟩;refine My (P0 n F.slot_set_len.lookup ?_)
 (generalize u:("set.__len__":String)=id0;wp_delta;rw[show splitId id0=on ("set","__len__")from by subst u;decide +kernel];subst u)
 refine My (PL (b:=M2) n (by rw[Ss];kernel_rfl) ?_);rw[M8 (by decide)];show Nn _ _ (if _ then _ else _) _ _ _;rw[Nf (by decide)];refine My (Wx n ?_);refine M0 ?_;rw[Nf (by decide)];refine My (QO ?_);have eI:(s.heap.push {cls:= .type "list",data:= .seq ([]:List M7).toArray}).objs.size=s.heap.objs.size+1:=by rw[size_push']
 generalize h:(s.heap.push {cls:= .type "list",data:= .seq ([]:List M7).toArray}).push {cls:= .type "set_iterator",data:= .fields #[.int (0:Nat) 0,.int (0:Nat) 0,.ref a,.int es.size 0,.int ep 0]}=d;have gS:d.get? s.heap.objs.size=on (Qu "list" #[] 0):=by rw[←h];exact M1 _ C
 have gI:d.get? (s.heap.objs.size+1)=on {cls:= .type "set_iterator",data:= .fields #[.int (0:Nat) 0,.int (0:Nat) 0,.ref a,.int es.size 0,.int ep 0]}:=by rw[←h,←eI];exact Nu _ rfl
 have ga:d.get? a=on o:=by rw[←h];exact M1 _ g
 have p:∀b f,s.heap.get? b=on f->d.get? b=on f:=λb f e=>by rw[←h];exact M1 _ (M1 _ e)
 unfold Builtin.List.listTouch;refine My (My (SO gS rfl ?_ (by show 0<=_;omega) (by show 1<=_;omega)));obtain⟨e1,g1⟩:∃e1,(d.update s.heap.objs.size (OV λxs=>xs.push Oh)).get? s.heap.objs.size=on (Qu "list" #[Oh] e1):=⟨_,get?_update_seq gS λxs=>xs.push Oh⟩;refine SO g1 rfl ?_ (by show 1<=Nr;decide) (by show 0<=_;omega);obtain⟨J,g2⟩:∃J,((d.update s.heap.objs.size (OV λxs=>xs.push Oh)).update s.heap.objs.size (OV λxs=>xs.pop)).get? s.heap.objs.size=on (Qu "list" #[] J):=⟨_,get?_update_seq g1 λxs=>xs.pop⟩;have c:∀b f,b≠s.heap.objs.size->d.get? b=on f->((d.update s.heap.objs.size (OV λxs=>xs.push Oh)).update s.heap.objs.size (OV λxs=>xs.pop)).get? b=on f:=λb f q e=>by
  rw[P3 _ _ _ _ q,P3 _ _ _ _ q];exact e
 generalize (d.update s.heap.objs.size (OV λxs=>xs.push Oh)).update s.heap.objs.size (OV λxs=>xs.pop)=h4 at g2 c;have L:s.heap.objs.size+1≠a:=Qc (Si ha);have st:SIt w h4 (s.heap.objs.size+1) a es ep t 0:=⟨⟨o,c a o (Ne.symm r) ga,hd⟩,_,0,c _ _ (by omega) gI,rfl,rfl,λ_=>by
  have:=ij (j:=0) T.rs;rcases Nat.eq_zero_or_pos (below t.place 0)with z|z
  ·exact z
  ·have e:=getElem?_pos t.place 0 (by omega)
   have:=this.2.1 0 _ z e;omega⟩
 have W:=zw (prog:=prog) (w:=w) (A:=A.in1) (I:=s.heap.objs.size+1) (a:=a) (ep:=ep) hh T X Y hl L;show Nn _ _ (UM _) _ _ _;rw[eI];refine M0 ⟨plainId_quiet F.plain_extend_loop _,codeAny_extend_loopS W.toS (by rw[Ph];omega) s.heap.objs.size (by simp;omega) _ es.size 0 _ #[] J rfl (OC _) st g2 (ItemsOf.nil _) λs' k c' hm v m=>?_⟩;show Nn _ A (load s.heap.objs.size>>=_) _ _ s';refine My (wpAny_load v ?_);refine M0 ?_;have N:s'={s with heap:=s'.heap,toks:=s'.toks}:=by
  have y:=hm.gens;have d:=hm.drawn;have h3:=hm.os;obtain⟨a1,a2,a3,a4,a5⟩:=s';simp only at y d h3;subst y d h3;rfl
 rw[N];refine hQ _ _ _ (λb f e=>?_) (SM (NI v)) hm.toks ?_
 ·have q:=NI e
  exact hm.heap b f (by simp only[Nq,OH,Rb,not_or];exact⟨Od q,Od (Si q)⟩) (c b f (Od q) (p b f e))
 ·refine List.Perm.trans (Ti ?_) ((jM w a ep es).map (·.2))
  have O:(dm w a ep es).size=es.size:=by rw[←NS,(jM w a ep es).length_eq,NS]
  refine Qy (by rw[NS,MZ,NS,O,m.1]) λi q1 q2=>?_;have R:i<k.size:=by simpa using q1
  obtain⟨e,he,hv⟩:=m.2 i _ (getElem?_pos k i R);rw[Re,hv,Qz,Re];have:=On.mp he;obtain⟨z1,z2⟩:=this;rw[z2]
end
end L2.Hs
namespace L2.Hs
open PySem PySem.W PyProof.Rows
section
variable{α β:Type}{lt:Nat->Nat->Bool}{n:Nat}
def Rn(lt:Nat->Nat->Bool)(n:Nat):KasT α->(α->Prop)->Prop
 | .ret a,Φ=>Φ a
 | .ask i j k,Φ=>i<n/\j<n/\Rn lt n (k (lt i j)) Φ
theorem Rn.bind{Φ:β->Prop}:∀{t:KasT α},Rn lt n t (λa=>Rn lt n (f a) Φ)->Rn lt n (t.bind f) Φ
 | .ret a,h=>h
 | .ask i j k,⟨h1,h2,h3⟩=>⟨h1,h2,Rn.bind h3⟩
theorem Rn.mono{Φ Ψ:α->Prop}(b:∀a,Φ a->Ψ a):∀{t:KasT α},Rn lt n t Φ->Rn lt n t Ψ
 | .ret a,h=>b a h
 | .ask i j k,⟨h1,h2,h3⟩=>⟨h1,h2,Rn.mono b h3⟩
theorem Rn.wp{Φ:α->Prop}(b:∀i j,i<n->j<n->∀C:Bool->Ng->Prop,C (lt i j) s->cmp i j C s)(c:∀a,Φ a->Q a s):∀{t:KasT α},Rn lt n t Φ->t.kasWp cmp Q s
 | .ret a,h=>c a h
 | .ask i j k,⟨h1,h2,h3⟩=>b i j h1 h2 _ (Rn.wp b c h3)
end
section
variable{rk:Nat->Nat}{n:Nat}
noncomputable abbrev ltR(rk:Nat->Nat)(i j:Nat):Bool:=decide (rk i<rk j)
noncomputable abbrev ky(rk:Nat->Nat)(p:Array Nat)(i:Nat):Nat:=rk (p.getD i 0)
structure Pm (rk:Nat->Nat) (n:Nat) (p:Array Nat):Prop where
 perm:p.toList.Perm (Nd n)
 inj:∀i j,i<n->j<n->rk i=rk j->i=j
theorem Pm.sz{p:Array Nat}(h:Pm rk n p):p.size=n:=by have:=h.perm.length_eq;simpa using this
theorem Pm.lt{p:Array Nat}(h:Pm rk n p)(a:i<n):p.getD i 0<n:=by
 have hs:=h.sz;have e:p.getD i 0=p[i]:=by simp[PX,show i<p.size by omega]
 rw[e];exact Nz.mp (h.perm.mem_iff.mp (by simp))
theorem Pm.ne(h:Pm rk n p)(a:i<j)(b:j<n):ky rk p i≠ky rk p j:=λz=>by
 have hs:=h.sz;have:=h.inj _ _ (h.lt (show i<n by omega)) (h.lt b) z;have nd:p.toList.Nodup:=h.perm.nodup_iff.mpr TU;have c:p.getD i 0=p.toList[i]'(by simp;omega):=by simp[PX,show i<p.size by omega]
 have d:p.getD j 0=p.toList[j]'(by simp;omega):=by simp[PX,show j<p.size by omega]
 rw[c,d]at this;exact NE this (PM.mp nd i j (by simp;omega) (by simp;omega) a)
theorem Pm.of{p q:Array Nat}(h:Pm rk n p)(a:q.Perm p):Pm rk n q:=⟨(Array.perm_iff_toList_perm.mp a).trans h.perm,h.inj⟩
def So(rk:Nat->Nat)(p:Array Nat)(k:Nat):Prop:=∀i j,i<j->j<k->ky rk p i<ky rk p j
def De(rk:Nat->Nat)(p:Array Nat)(k:Nat):Prop:=∀i j,i<j->j<k->ky rk p j<ky rk p i
theorem So.succ(h:So rk p k)(c:1<=k)(b:ky rk p (k-1)<ky rk p k):So rk p (k+1):=λi j a d=>by
 by_cases q:j=k
 ·subst q
  by_cases z:i=j-1
  ·subst z;exact b
  ·exact RM (h i (j-1) (by omega) (by omega)) b
 ·exact h i j a (by omega)
theorem De.succ(h:De rk p k)(c:1<=k)(b:ky rk p k<ky rk p (k-1)):De rk p (k+1):=λi j a d=>by
 by_cases q:j=k
 ·subst q
  by_cases z:i=j-1
  ·subst z;exact b
  ·exact RM b (h i (j-1) (by omega) (by omega))
 ·exact h i j a (by omega)
theorem uw(P:Pm rk n p):∀(f k:Nat),1<=k->k+f<=n->So rk p k->Rn (ltR rk) n (kas_asc p f k) λm=>k<=m/\m<=k+f/\So rk p m/\(m=k+f\/ky rk p m<ky rk p (m-1))
 |0,k,_,_,h=>⟨Nh k,Nh _,h,.inl rfl⟩
 |f+1,k,h1,h2,h=>by
  refine⟨P.lt (by omega),P.lt (by omega),?_⟩;by_cases q:ky rk p k<ky rk p (k-1)
  ·rw[show ltR rk (p.getD k 0) (p.getD (k-1) 0)=M2 from NF q];dsimp only;rw[Nf rfl]
   exact⟨Nh k,by omega,h,.inr q⟩
  ·rw[show ltR rk (p.getD k 0) (p.getD (k-1) 0)=M4 from N8 q];dsimp only;rw[M8 Ni]
   have:=P.ne (show k-1<k by omega) (show k<n by omega);refine Rn.mono (λm hm=>?_) (uw P f (k+1) (by omega) (by omega) (h.succ h1 (by omega)));exact⟨by omega,by omega,hm.2.2.1,by rcases hm.2.2.2 with z|z;exact .inl (by omega);exact .inr z⟩
theorem vI(P:Pm rk n p):∀(f k:Nat),1<=k->k+f<=n->De rk p k->Rn (ltR rk) n (kas_desc f p k 0) λr=>r.1=p/\r.2.2=0/\k<=r.2.1/\r.2.1<=k+f/\De rk p r.2.1
 |0,k,_,_,h=>⟨rfl,rfl,Nh k,Nh _,h⟩
 |f+1,k,h1,h2,h=>by
  refine⟨P.lt (by omega),P.lt (by omega),?_⟩;by_cases q:ky rk p k<ky rk p (k-1)
  ·rw[show ltR rk (p.getD k 0) (p.getD (k-1) 0)=M2 from NF q];dsimp only;rw[Nf rfl,M8 (Oc 0)]
   refine Rn.mono (λm hm=>?_) (vI P f (k+1) (by omega) (by omega) (h.succ h1 q));exact⟨hm.1,hm.2.1,by have:=hm.2.2.1;omega,by have:=hm.2.2.2.1;omega,hm.2.2.2.2⟩
  ·rw[show ltR rk (p.getD k 0) (p.getD (k-1) 0)=M4 from N8 q];dsimp only;rw[M8 Ni]
   have:=P.ne (show k-1<k by omega) (show k<n by omega);refine⟨P.lt (by omega),P.lt (by omega),?_⟩;rw[show ltR rk (p.getD (k-1) 0) (p.getD k 0)=M2 from NF (show ky rk p (k-1)<ky rk p k by omega)];dsimp only;rw[Nf rfl];exact⟨rfl,rfl,Nh k,by show k<=_;omega,h⟩
theorem vy{p q:Array Nat}(h:p[i]?=q[j]?):p.getD i 0=q.getD j 0:=by
 have a:∀(r:Array Nat) (x:Nat),r.getD x 0=(r[x]?).getD 0:=λr x=>by
  by_cases b:x<r.size
  ·simp[PX,b]
  ·simp[PX,b]
 rw[a,a,h]
theorem JD{p:Array Nat}(a:k<=p.size)(h:De rk p k):So rk (kas_rev p 0 k) k:=λi j b c=>by
 have g:∀x,x<k->(kas_rev p 0 k).getD x 0=p.getD (k-1-x) 0:=λx d=>by
  refine vy ?_;unfold kas_rev;rw[getElem?_mirror_all a,Nf (by omega)];congr 1;omega
 show rk _<rk _;rw[g i (by omega),g j c];exact h (k-1-j) (k-1-i) (by omega) (by omega)
theorem zC(P:Pm rk n p)(b:1<=k)(c:k<=n)(h:De rk p k):Rn (ltR rk) n (kas_tail3 k n p) λr=>Pm rk n r.2/\1<=r.1/\r.1<=n/\So rk r.2 r.1:=by
 have a:Pm rk n (kas_rev p 0 k):=P.of (mirror_perm _ _ _ _);unfold kas_tail3;refine Rn.bind (Rn.mono (λm hm=>?_) (uw a (n-k) k b (by omega) (JD (by rw[P.sz];exact c) h)));exact⟨a,by omega,by omega,hm.2.2.1⟩
theorem BR(P:Pm rk n p)(d:1<=n):Rn (ltR rk) n (kas_count n p) λr=>Pm rk n r.2/\1<=r.1/\r.1<=n/\So rk r.2 r.1:=by
 unfold kas_count;refine Rn.bind (Rn.mono (λm hm=>?_) (uw P (n-1) 1 (Nh 1) (by omega) λi j a b=>by omega));obtain⟨a1,a2,a3,a4⟩:=hm;by_cases q:m=n
 ·rw[Nf (by rw[QJ];exact q)]
  exact⟨P,by omega,by omega,a3⟩
 ·rw[M8 (by rw[QJ];exact q)]
  have hd:ky rk p m<ky rk p (m-1):=by
   rcases a4 with z|z
   ·omega
   ·exact z
  by_cases q1:m>1
  ·rw[Nf q1]
   refine⟨P.lt (by omega),P.lt (by omega),?_⟩;rw[show ltR rk (p.getD 0 0) (p.getD (m-1) 0)=M2 from NF (a3 0 (m-1) (by omega) (by omega))];dsimp only;rw[Nf rfl];exact⟨P,by omega,by omega,a3⟩
  ·rw[M8 q1]
   obtain rfl:m=1:=by omega
   unfold kas_descPart;refine Rn.bind (Rn.mono (λr c=>?_) (vI P (n-(1+1)) (1+1) (by omega) (by omega) λi j a b=>by
    obtain rfl:j=1:=by omega
    obtain rfl:i=0:=by omega
    exact hd))
   obtain⟨rfl,b2,b3,b4,b5⟩:=c;rw[M8 (by omega)];exact zC P (by omega) (by omega) b5
theorem m5(P:Pm rk n p)(a:k<n):∀(f l r:Nat),l<=r->r<=k->r-l<=f->(∀i,i<l->ky rk p i<ky rk p k)->(∀i,r<=i->i<k->ky rk p k<ky rk p i)->So rk p k->
  Rn (ltR rk) n (kas_place p k f l r) λm=>m<=k/\(∀i,i<m->ky rk p i<ky rk p k)/\∀i,m<=i->i<k->ky rk p k<ky rk p i
 |0,l,r,h1,h2,h3,ha,hb,_=>by
  obtain rfl:l=r:=by omega
  exact⟨h2,ha,hb⟩
 |f+1,l,r,h1,h2,h3,ha,hb,so=>by
  unfold kas_place;by_cases q:l≥r
  ·rw[Nf q]
   obtain rfl:l=r:=by omega
   exact⟨h2,ha,hb⟩
  ·rw[M8 q]
   refine⟨P.lt (by omega),P.lt (by omega),?_⟩;by_cases z:ky rk p k<ky rk p ((l+r)/2)
   ·rw[show ltR rk (p.getD k 0) (p.getD ((l+r)/2) 0)=M2 from NF z];dsimp only;rw[Nf rfl]
    refine m5 P a f l ((l+r)/2) (by omega) (by omega) (by omega) ha (λi c b=>?_) so;by_cases w:i=(l+r)/2
    ·subst w;exact z
    ·exact RM z (so _ i (by omega) b)
   ·rw[show ltR rk (p.getD k 0) (p.getD ((l+r)/2) 0)=M4 from N8 z];dsimp only;rw[M8 Ni]
    have d:=P.ne (show(l+r)/2<k by omega) a;refine m5 P a f ((l+r)/2+1) r (by omega) h2 (by omega) (λi c=>?_) hb so;by_cases w:i=(l+r)/2
    ·subst w;omega
    ·exact RM (so i ((l+r)/2) (by omega) (by omega)) (by omega)
theorem zg:∀(f:Nat) {p:Array Nat} {k:Nat},Pm rk n p->k+f=n->So rk p k->Rn (ltR rk) n (kas_bin f p k) λb=>Pm rk n b/\So rk b n
 |0,p,k,P,hk,so=>⟨P,by rw[←hk];exact so⟩
 |f+1,p,k,P,hk,so=>by
  unfold kas_bin;refine Rn.bind (Rn.mono (λm hm=>?_) (m5 P (by omega) k 0 k (OC _) (Nh _) (by omega) (λi h=>NE h (Pr i)) (λi l c=>by omega) so));obtain⟨l,c,o⟩:=hm;have r:Pm rk n (bubble p k (k-m)):=P.of (bubble_perm _ _ _);refine zg f r (by omega) λi j a t=>?_;have ks:k<p.size:=by rw[P.sz];omega
  have g:∀x:Nat,(bubble p k (k-m)).getD x 0=p.getD (if x=m then k else if m<x/\x<=k then x-1 else x) 0:=λx=>by
   refine vy ?_;rw[getElem?_bubble ks (k-m) (by omega)];by_cases q:x=m
   ·rw[Nf (by omega),Nf q]
   ·rw[M8 (by omega),M8 q]
    by_cases q2:m<x/\x<=k
    ·rw[Nf (by omega),Nf q2]
    ·rw[M8 (by omega),M8 q2]
  show rk _<rk _;rw[g i,g j];by_cases q1:i=m
  ·rw[Nf q1,M8 (by omega),Nf (by omega)]
   exact o (j-1) (by omega) (by omega)
  ·rw[M8 q1]
   by_cases q2:j=m
   ·rw[Nf q2,M8 (by omega)]
    exact c i (by omega)
   ·rw[M8 q2]
    by_cases d:m<i/\i<=k
    ·rw[Nf d,Nf (by omega)]
     exact so (i-1) (j-1) (by omega) (by omega)
    ·rw[M8 d]
     by_cases e:m<j/\j<=k
     ·rw[Nf e]
      exact so i (j-1) (by omega) (by omega)
     ·rw[M8 e]
      exact so i j a (by omega)
theorem GR(a:1<=n)(inj:∀i j,i<n->j<n->rk i=rk j->i=j):Rn (ltR rk) n (kas_sort n) λp=>Pm rk n p/\So rk p n:=by
 unfold kas_sort;have P:Pm rk n (List.toArray (Nd n)):=⟨.refl _,inj⟩;refine Rn.bind (Rn.mono (λr b=>?_) (BR P a));obtain⟨a1,a2,a3,a4⟩:=b;by_cases q:r.1<n
 ·rw[Nf q,Nat.max_eq_left a2]
  exact zg _ a1 (by omega) a4
 ·rw[M8 q]
  obtain rfl:r.1=n:=by omega
  exact⟨a1,a4⟩
noncomputable def cD:List Int->List Int->Bool
 |[],[]=>M4
 |[],_::_=>M2
 |_::_,[]=>M4
 |a::as,b::bs=>if a=b then cD as bs else decide (a<b)
theorem gM:∀x,cD x x=M4
 |[]=>rfl
 |a::as=>by unfold cD;rw[Nf rfl];exact gM as
theorem oK:∀{x y z},cD x y=M2->cD y z=M2->cD x z=M2
 |[],[],_,h,_=>by cases h
 |[],_::_,[],_,h=>by cases h
 |[],_::_,_::_,_,_=>rfl
 |_::_,[],_,h,_=>by cases h
 |_::_,_::_,[],_,h=>by cases h
 |a::as,b::bs,c::cs,h1,h2=>by
  unfold cD at h1 h2⊢;by_cases q1:a=b
  ·rw[Nf q1]at h1
   by_cases q2:b=c
   ·rw[Nf q2]at h2
    rw[Nf (q1.trans q2)];exact oK h1 h2
   ·rw[M8 q2]at h2
    rw[M8 (by rw[q1];exact q2),q1];exact h2
  ·rw[M8 q1]at h1
   have d:=PP h1;by_cases q2:b=c
   ·rw[M8 (by rw[←q2];exact q1),←q2];exact h1
   ·rw[M8 q2]at h2
    have e:=PP h2;rw[M8 (by omega)];exact NF (by omega)
theorem lT:∀{x y},cD x y=M4->cD y x=M4->x=y
 |[],[],_,_=>rfl
 |[],_::_,h,_=>by cases h
 |_::_,[],_,h=>by cases h
 |a::as,b::bs,h1,h2=>by
  unfold cD at h1 h2;by_cases q:a=b
  ·rw[Nf q]at h1
   rw[Nf q.symm]at h2;rw[q,lT h1 h2]
  ·rw[M8 q]at h1
   rw[M8 (Ne.symm q)]at h2;have:=of_decide_eq_false h1;have:=of_decide_eq_false h2;omega
theorem uo:∀{L:List Nat},(∀l∈L,p l=M2->q l=M2)->∀{i},i∈L->p i=M4->q i=M2->L.countP p<L.countP q
 |[],_,i,h,_,_=>by cases h
 |a::L,hpq,i,hi,h1,h2=>by
  have le:L.countP p<=L.countP q:=List.countP_mono_left λl b=>hpq l (M5 a b);rcases Nq.mp hi with rfl|hi
  ·rw[List.countP_cons_of_neg (by rw[h1];exact Ni),List.countP_cons_of_pos h2]
   omega
  ·have ih:=uo (λl b=>hpq l (M5 a b)) hi h1 h2
   rw[List.countP_cons,List.countP_cons];have:(if p a=M2 then 1 else 0)<=(if q a=M2 then 1 else 0):=by
    by_cases z:p a=M2
    ·rw[Nf z,Nf (hpq a Nb z)];exact Nh 1
    ·rw[M8 z];exact OC _
   omega
def gl(ks:LI)(i:Nat):Nat:=(Nd ks.length).countP λj=>cD (ks.getD j []) (ks.getD i [])
theorem rE{ks:LI}(a:i<ks.length)(h:cD (ks.getD i []) (ks.getD j [])=M2):gl ks i<gl ks j:=
 uo (λl _ b=>oK b h) (Nz.mpr a) (gM _) h
theorem xY{ks:LI}(b:i<ks.length)(c:j<ks.length):decide (gl ks i<gl ks j)=cD (ks.getD i []) (ks.getD j []):=by
 cases h:cD (ks.getD i []) (ks.getD j [])with
 |true=>exact NF (rE b h)
 |false=>
  refine N8 λz=>?_;cases a:cD (ks.getD j []) (ks.getD i [])with
  |true=>have:=rE c a;omega
  |false=>
   have e:=lT h a;unfold gl at z;rw[e]at z;exact Oc _ z
theorem JB{ks:LI}(nd:ks.Nodup)(a:i<ks.length)(b:j<ks.length)(h:gl ks i=gl ks j):i=j:=by
 have e:ks.getD i []=ks.getD j []:=by
  refine lT ?_ ?_
  ·cases z:cD (ks.getD i []) (ks.getD j [])with
   |false=>rfl
   |true=>have:=rE a z;omega
  ·cases z:cD (ks.getD j []) (ks.getD i [])with
   |false=>rfl
   |true=>have:=rE b z;omega
 rw[Na,Na,M6 a,M6 b]at e;have c:ks[i]=ks[j]:=e;rcases Qo i j with z|z|z
 ·exact NE c (PM.mp nd i j a b z)
 ·exact z
 ·exact NE c.symm (PM.mp nd j i b a z)
abbrev Up(l:LI):Prop:=l.Pairwise λa b=>cD a b=M2
theorem vU:∀{l m:LI},Up l->Up m->(∀x,x∈l↔x∈m)->l=m
 |[],[],_,_,_=>rfl
 |[],b::m,_,_,h=>by have:=(h b).mpr Nb;cases this
 |a::l,[],_,_,h=>by have:=(h a).mp Nb;cases this
 |a::l,b::m,h1,h2,h=>by
  obtain⟨d,f⟩:=Q0.mp h1;obtain⟨q1,q2⟩:=Q0.mp h2;have e:a=b:=by
   rcases Nq.mp ((h a).mp Nb)with z|z
   ·exact z
   ·rcases Nq.mp ((h b).mpr Nb)with w|w
    ·exact w.symm
    ·have:=oK (q1 a z) (d b w)
     rw[gM]at this;cases this
  subst e;congr 1;refine vU f q2 λx=>⟨λc=>?_,λc=>?_⟩
  ·rcases Nq.mp ((h x).mp (M5 a c))with rfl|z
   ·have:=d x c;rw[gM]at this;cases this
   ·exact z
  ·rcases Nq.mp ((h x).mpr (M5 a c))with rfl|z
   ·have:=q1 x c;rw[gM]at this;cases this
   ·exact z
variable{prog:NQ}{w:N0}{A:Oj}{E:M7->Ng->Prop}{s:Ng}
theorem vf{b:Bool}:∀{xs ys:List Int} {us vs:List M7} (i:Nat),ItemsAre (SZ prog w) xs us->ItemsAre (SZ prog w) ys vs->∀n m:Nat,(decide (n+us.length<m+vs.length)=decide (xs.length<ys.length))->Q (cD xs ys) s->KatLex prog w A M2 (decide (n+us.length<m+vs.length)) Q (us.zip vs) i s
 |[],ys,us,vs,i,hx,hy,n,m,e,q=>by
  cases hx;cases hy with
  |nil=>rw[TC];exact kat_nil (by rw[e];exact q)
  |cons c d=>rw[TC];exact kat_nil (by rw[e];exact q)
 |x::xs,ys,us,vs,i,hx,hy,n,m,e,q=>by
  cases hx with
  |@cons _ u _ us' c d=>
   cases hy with
   |nil=>rw[List.zip_nil_right];exact kat_nil (by rw[e];exact q)
   |@cons y v ys' vs' h3 h4=>
    obtain⟨g,rfl⟩:=Tl c;obtain⟨h,rfl⟩:=Tl h3;rw[Pe];refine kat_cons (wpAny_eqBool_int ?_);unfold cD at q;by_cases z:x=y
    ·rw[Nf z]at q
     rw[show(x==y)=M2 by rw[QJ];exact z];refine kat_yes ?_;have f:∀k l:Nat,decide (k+(us'.length+1)<l+(vs'.length+1))=decide (k+1+us'.length<l+1+vs'.length):=λk l=>decide_eq_decide.mpr (by omega);rw[Nm,Nm,f];refine vf (b:=b) (i+1) d h4 (n+1) (m+1) ?_ q;rw[←f,←Nm (a:=Qt x g),←Nm (a:=Qt y h),e,Nm,Nm];exact decide_eq_decide.mpr (by omega)
    ·rw[M8 z]at q
     rw[show(x==y)=M4 by rw[UQ];exact z];refine kat_no ?_;cases j:(M2&&i==0)with
     |true=>exact oneLt_int q
     |false=>exact kat_one _ _ (lt_int (show PySem.W.BoolBack Q (.bool _) s from q))
theorem Kf(i:(IKd prog w).is s.heap xs x)(j:(IKd prog w).is s.heap ys y)(h:Q (cD xs ys) s):Nn (NL prog w) A (keyLt' (tuples' M2) (.ref x) (.ref y)) Q E s:=by
 obtain⟨m,o,p,d,k,e,a⟩:=i;obtain⟨o2,q,r,f,l,g,c⟩:=j;refine kat_lt d e f g ?_;have:=vf (A:=A) (b:=M2) (Q:=Q) (s:=s) 0 a c 0 0 (by rw[Pl,Pl,a.length,c.length]) h;rw[Pl,Pl,NS,NS]at this;exact this
theorem uF:∀{ks:List (List Int×M3)},(∀k∈ks,(IKd prog w).is s.heap k.1 k.2/\1<=k.1.length)->∃fs:List M7,KatTups s.heap (ks.map λk=>NC k.2) fs/\fs.length=ks.length/\∀v∈fs,∃n t,v=Qt n t
 |[],_=>⟨[],trivial,rfl,λv hv=>by cases hv⟩
 |k::ks,h=>by
  obtain⟨fs,c,d,f⟩:=uF λg i=>h g (M5 k i);obtain⟨⟨o,its,n,j,l,hd,b⟩,p⟩:=h k Nb;have a:=b.length;have m:0<its.size:=by rw[←NS,←a];omega
  have e:=getElem?_pos its 0 m;refine⟨its[0]::fs,KatTups.cons j l hd e c,by rw[Nm,Nm,d],λv hv=>?_⟩;rcases Nq.mp hv with rfl|hv
  ·exact items_int b _ (by rw[←Re];exact Oa _)
  ·exact f v hv
theorem xJ{ks:List (List Int×M3)}{n:Nat}{P:Sn->Ng->Prop}(L:s.heap.get? a=on (Qu "list" (ks.map λk=>NC k.2).toArray n))(hk:∀k∈ks,(IKd prog w).is s.heap k.1 k.2/\1<=k.1.length)(nd:(ks.map (·.1)).Nodup)(h64:ks.length<64)
  (h:∀(h':Ox) (l:List (List Int×M3)) (n':Nat),l.Perm ks->Up (l.map (·.1))->h'.get? a=on (Qu "list" (l.map λk=>NC k.2).toArray n')->(∀b o,b≠a->s.heap.get? b=on o->h'.get? b=on o)->P (.done (.ret .none)) {s with heap:=h'}):
  Nn (NL prog w) A (Builtin.«list.sort» ⟨[.ref a],[]⟩) P E s:=by
 have ha:a<s.heap.objs.size:=NI L;rw[list_sort_plain];refine My (listItems_at L rfl ?_);refine My (SO L rfl ?_ (by simp[Ph];omega) (by simp));obtain⟨F,N⟩:∃F,(s.heap.update a (OV λ_=>#[])).get? a=on (Qu "list" #[] F):=⟨_,get?_update_seq L (λ_=>#[])⟩;refine My (seqEpoch_at N rfl ?_);refine My (Vn ?_ (by simp[Ph];omega));refine My (wpAny_newList ?_ (OC _));refine OB ?_;generalize q:(ks.map λk=>NC k.2)=vs at*;have u:vs.length=ks.length:=by rw[←q,MZ]
 have d:(((s.heap.update a (OV λ_=>#[])).push (Qu "tuple" vs.toArray 0)).push (Qu "list" #[] 0)).get? a=on (Qu "list" #[] F):=by
  rw[Wh _ _ _ (by rw[size_push',Heap.size_update];exact Od (Si ha)),Wh _ _ _ (by rw[Heap.size_update];exact Od ha)];exact N
 have keep:∀b o,b≠a->s.heap.get? b=on o->(((s.heap.update a (OV λ_=>#[])).push (Qu "tuple" vs.toArray 0)).push (Qu "list" #[] 0)).get? b=on o:=λb o X e=>by
  refine M1 _ (M1 _ ?_);rw[P3 _ _ _ _ X];exact e
 show Nn (NL prog w) A _ P E {s with heap:=((s.heap.update a (OV λ_=>#[])).push (Qu "tuple" vs.toArray 0)).push (Qu "list" #[] 0)};generalize hh6:((s.heap.update a (OV λ_=>#[])).push (Qu "tuple" vs.toArray 0)).push (Qu "list" #[] 0)=h6 at d keep
 dsimp only
 have O:∀(l:List (List Int×M3)) (y:Array M7),l.Perm ks->Up (l.map (·.1))->y=(l.map λk=>NC k.2).toArray->P (.done (.ret .none)) {s with heap:=h6.update a (OV λ_=>y)}:=λl y p1 p2 e=>by
  refine h _ l _ p1 p2 (by rw[←e];exact get?_update_seq d λ_=>y) λb o X Y=>?_;rw[P3 _ _ _ _ X];exact keep b o X Y
 by_cases I:vs.toArray.size<2
 ·rw[Nf I,Nf I]
  refine My (M0 ?_);rw[StateT.run_pure];refine My (M0 ?_)
  dsimp only
  refine My (seqEpoch_at d rfl ?_);have Z:((arrOf (SortSt.mk' general' (vs.toArray.zip vs.toArray) #[] 7 MY)).map (·.2))=vs.toArray:=by
   show(vs.toArray.zip vs.toArray).map (·.2)=_;apply Array.toList_inj.mp;rw[Array.toList_map,Array.toList_zip];exact List.map_snd_zip (Nh _)
  rw[Z];refine My (SO d rfl ?_ (by simp) (by simp[Ph];omega));simp only[Qj,Np,N3];refine M0 (O ks _ (.refl _) ?_ (by rw[q]));have R:ks.length<2:=by rw[←u];simpa using I
  match ks,R with
  |[],_=>exact SK
  |[k],_=>exact Sz _ _
  |_::_::_,R=>simp at R;omega
 ·rw[M8 I,M8 I]
  have h2':2<=ks.length:=by rw[←u];simp at I;omega
  have H:∀k∈ks,(IKd prog w).is h6 k.1 k.2/\1<=k.1.length:=λk hk'=>by
   obtain⟨⟨o,its,m,h1,h3,h4,h5⟩,R⟩:=hk k hk';refine⟨⟨o,its,m,keep _ _ (λz=>?_) h1,h3,h4,h5⟩,R⟩;rw[z,L]at h1;cases h1;exact NE (PZ.inj h3) (by decide)
  obtain⟨fs,t1,t2,t3⟩:=uF (s:={s with heap:=h6}) H;rw[q]at t1;refine My (kat_kind (T:= .type "int") t1 (by omega) (λv hv=>?_) rfl ?_)
  ·obtain⟨x,t,rfl⟩:=t3 v hv
   exact Looks.of_pure rfl
  show Nn _ _ (StateT.run sortRuns' (SortSt.mk' (tuples' M2) (vs.toArray.zip vs.toArray) #[] 7 MY)>>=_) _ _ _;have J:(ks.map (·.1)).length=vs.length:=by rw[MZ,u]
  have at_:∀i,i<vs.length->∃k∈ks,vs.getD i Oh= .ref k.2/\(ks.map (·.1)).getD i []=k.1/\ks[i]?=on k:=λi c=>by
   have f:i<ks.length:=by omega
   refine⟨ks[i],Oa f,?_,?_,M6 f⟩
   ·rw[←q,Na,M9,M6 f];rfl
   ·rw[Na,M9,M6 f];rfl
  refine My (Oe (kat_run (κ:=tuples' M2) (ks:=vs) (vs:=vs) (Q:=λg s'=>s'={s with heap:=h6}/\failedOf g=MY/\∃p:Array Nat,Pm (gl (ks.map (·.1))) vs.length p/\So (gl (ks.map (·.1))) p vs.length/\arrOf g=p.map (kas_item (vs.toArray.zip vs.toArray)))
   (G:=λp s'=>s'={s with heap:=h6}/\Pm (gl (ks.map (·.1))) vs.length p/\So (gl (ks.map (·.1))) p vs.length) rfl (by omega) (by omega) (λp g s' a1 a2 a3 a4=>⟨a4.1,a3,p,a4.2.1,a4.2.2,a2⟩)
   (Rn.wp (lt:=ltR (gl (ks.map (·.1)))) (n:=vs.length) (λi j c B C hC=>?_) (λp hp=>⟨rfl,hp⟩) (GR (by omega) λi j c B hr=>JB nd (by rw[J];exact c) (by rw[J];exact B) hr))) (λr s' hr=>?_) λ_ _ e=>e)
  ·obtain⟨k1,m1,F,f1,_⟩:=at_ i c
   obtain⟨k2,m2,e2,f2,_⟩:=at_ j B;unfold kas_ask;rw[F,e2];refine Kf (H k1 m1).1 (H k2 m2).1 ?_;have:=xY (ks:=ks.map (·.1)) (i:=i) (j:=j) (by rw[J];exact c) (by rw[J];exact B);rw[f1,f2]at this;rw[←this];exact hC
  ·obtain⟨⟨⟩,g⟩:=r
   obtain⟨rfl,hf,p,P1,so,har⟩:=hr
   dsimp only
   have Z:(arrOf g).map (·.2)=(p.toList.map λi=>vs.getD i Oh).toArray:=kat_snds rfl har;have U:=P1.sz;rw[Z];refine My (seqEpoch_at d rfl ?_);refine My (SO d rfl ?_ (by simp) (by simp[Ph];omega));rw[hf];simp only[Qj,Np,N3];have W:∀i∈p.toList,i<vs.length:=λi c=>Nz.mp (P1.perm.mem_iff.mp c);refine M0 (O (p.toList.map λi=>ks.getD i ([],0)) _ ?_ ?_ ?_)
   ·refine(P1.perm.map _).trans (Ti ?_)
    rw[u];refine Qy (by simp) λi q1 q2=>?_;rw[Qz,QZ,Na,M6 q2];rfl
   ·rw[Nk]
    unfold Up;rw[R8];refine PM.mpr λi j c B hij=>?_;have f:i<vs.length:=by simpa[U]using c
    have hj':j<vs.length:=by simpa[U]using B
    have gd:∀x (hx:x<p.toList.length),p.getD x 0=p.toList[x]:=λx hx=>by
     have:x<p.size:=by simpa using hx
     simp[PX,this]
    have z:=so i j hij hj';unfold ky at z;rw[gd i c,gd j B]at z;obtain⟨k1,m1,F,f1,g1⟩:=at_ p.toList[i] (W _ (Oa c));obtain⟨k2,m2,e2,f2,g2⟩:=at_ p.toList[j] (W _ (Oa B));have:=xY (ks:=ks.map (·.1)) (i:=p.toList[i]) (j:=p.toList[j]) (by rw[J];exact W _ (Oa c)) (by rw[J];exact W _ (Oa B));rw[NF z,f1,f2]at this;simp only[RQ];rw[Na,Na,g1,g2];exact this.symm
   ·rw[Nk]
    congr 1;refine NT λi c=>?_;obtain⟨k1,m1,F,f1,g1⟩:=at_ i (W i c);rw[F];simp only[RQ];rw[Na,g1];rfl
theorem zY{α β:Type}{f:α->β}{vs g:List β}(p:vs.Perm g):∀{xs:List α},g=xs.map f->∃ks:List α,ks.Perm xs/\vs=ks.map f:=by
 induction p with
 |nil=>
  intro xs e;cases xs with
  |nil=>exact⟨[],.refl _,rfl⟩
  |cons _ _=>cases e
 |cons x _ ih=>
  intro xs e;cases xs with
  |nil=>cases e
  |cons a xs=>
   cases e;obtain⟨ks,c,d⟩:=ih rfl;exact⟨a::ks,c.cons a,by rw[d];rfl⟩
 |swap x y l=>
  intro xs e
  match xs,e with
  |[],e=>cases e
  |[_],e=>cases e
  |a::b::xs,e=>
   cases e;exact⟨b::a::xs,.swap _ _ _,rfl⟩
 |trans _ _ ih1 ih2=>
  intro xs e;obtain⟨ks,c,d⟩:=ih2 e;obtain⟨h,i,j⟩:=ih1 d;exact⟨h,i.trans c,j⟩
theorem v7{xs:List (List Int×M3)}(H:A.handled=MY)(S:qf prog w s.heap a xs)(I:∀x∈xs,1<=x.1.length)(J:xs.length<64)
  (h:∀(l:M3) (h':Ox) (f v:Nat) (g:List (List Int×M3)),g.Perm xs->Up (g.map (·.1))->h'.get? l=on (Qu "list" (g.map λk=>NC k.2).toArray v)->s.heap.objs.size<=l->(∀b o,s.heap.get? b=on o->h'.get? b=on o)->s.toks<=f->Q (.ref l) {s with heap:=h',toks:=f}):
  Nn (NL prog w) A (Uj (.builtin "sorted") [.ref a]) Q E s:=by
 obtain⟨o,es,ep,t,L,y,hd,i,B,N,T,O,j⟩:=S;have C:es.size=xs.length:=by rw[←NS,i,MZ]
 have R:t.fits es.size=M2:=T.fits (by rw[MZ,C]);refine Us kind_sorted plain_sorted entry_sorted (args_sorted1 _) ?_;unfold Builtin.«sorted»;refine My (m:=checkCount "sorted" 1 1 _) (M0 ?_);refine My (uB H L y.1 hd T R O j (by omega) λp f vs keep q htk pv=>?_);rw[i,Nk]at pv;obtain⟨ks,r,rfl⟩:=zY pv rfl;have U:ks.length=xs.length:=r.length_eq;refine My (wpAny_newList ?_ (by rw[MZ,Ph];omega));have c:∀b d,s.heap.get? b=on d->(p.push (Qu "list" (ks.map λk=>NC k.2).toArray 0)).get? b=on d:=λb d e=>M1 _ (keep b d e);have u:(p.push (Qu "list" (ks.map λk=>NC k.2).toArray 0)).get? p.objs.size=on (Qu "list" (ks.map λk=>NC k.2).toArray 0):=Nu _ rfl;show Nn _ _ _ _ _ {s with heap:=p.push (Qu "list" (ks.map λk=>NC k.2).toArray 0),toks:=f};refine My (OB (N2 slot_list_sort ⟨_,u,rfl⟩ entry_list_sort (xJ u (λk F=>⟨?_,I k (r.mem_iff.mp F)⟩) ((r.map (·.1)).nodup_iff.mpr B) (by omega) λh' g v q1 q2 q3 q4=>⟨_,rfl,?_⟩) (args_list_sort _)))
 ·obtain⟨W,its,m,X,Y,Z,z4⟩:=N k (r.mem_iff.mp F)
  exact⟨W,its,m,c _ _ X,Y,Z,z4⟩
 ·refine M0 ⟨_,rfl,h p.objs.size h' f v g (q1.trans r) q2 q3 q (λb d e=>q4 b d (λz=>?_) (c b d e)) htk⟩
  have:=NI e;exact NE (z▸this) (Nat.not_lt.mpr q)
end
end L2.Hs
namespace L2.Hs
open PySem PySem.Spec PyProof.Rows
section
variable{prog:NQ}{w:N0}
def qg(prog:NQ)(w:N0)(a:M3)(xs:List (List Int×M3))(h:Ox):Prop:=
 ∃o es ep t,h.get? a=on o/\o.ExactSet/\o.data= .set es ep t/\(es.toList=xs.map λx=>(hsh prog w x.1,NC x.2))/\(xs.map (·.1)).Nodup/\(Tb t (xs.map λx=>hsh prog w x.1))/\t.plain=M2/\t.led=!(w.params.followText "set-order")
noncomputable def lx(prog:NQ)(w:N0)(a:M3)(xs:List (List Int×M3)):HO:= .ext (qg prog w a xs)
theorem qg.to(S:qg prog w a xs h)(b:∀x∈xs,(IKd prog w).is h x.1 x.2):qf prog w h a xs:=by
 obtain⟨o,es,ep,t,c,d,e,f,g,i⟩:=S;exact⟨o,es,ep,t,c,d,e,f,g,b,i⟩
theorem uP(S:qg prog w a xs h):br prog w H h a (lx prog w a xs):=by
 refine⟨S,?_,λb c z k=>?_⟩
 ·obtain⟨o,_,_,_,e,_⟩:=S
  exact⟨o,e⟩
 ·obtain⟨o,es,ep,t,e,r⟩:=z
  exact⟨o,es,ep,t,k _ e,r⟩
theorem BC{k:List Int}:∀{its:List M7},ar (k.map V.int) its->ItemsAre (SZ prog w) k its:=by
 induction k with
 |nil=>intro its h;cases h;exact .nil
 |cons i k ih=>
  intro its h;cases h with
  |cons a b=>
   obtain⟨t,rfl⟩:=a;exact .cons (by simp[SZ,Vb]) (ih b)
variable{X:Cx}
theorem lZ{s:Ng}{k:List Int}(I:Inv X pins σ H s)(h:SqT X.K H b (k.map V.int)):(IKd X.prog X.w).is s.heap k b:=by
 obtain⟨its,a,⟨o,e,c,n,hd⟩,_⟩:=I.tuple h;exact⟨o,its.toArray,n,e,c,hd,BC a⟩
theorem tb0{b:Bool}:Tb (.fresh 0 0 b) []:=⟨.inl rfl,rfl,λi j a b h=>by simp[V9]at*,λi j h=>by simp[V9]at h,rfl,by show 0*5<7*3;decide,λi h j c=>by simp at c⟩
theorem ql:∀a:List (List Int×M3),ar (a.map λz=>V.ref z.2) (a.map λk=>NC k.2)
 |[]=> .nil
 |_::a=> .cons rfl (ql a)
theorem HZ:Mks X (newSet (.type "set")) λD=>lx X.prog X.w D []:=λa s c H E Q I h=>by
 unfold newSet setsByText;refine My (My (RF (M0 ?_)))
 dsimp only
 simp only[newObj];refine My (wpAny_alloc (M0 (h _ (I.laid (t':=s.toks) (λ_ _ q=>M1 _ q) (Nh _) (uP ?_)) λb o e=>M1 _ e)));exact⟨_,#[],0,_,Nu _ rfl,⟨rfl,rfl,rfl⟩,rfl,rfl,.nil,tb0,rfl,rfl⟩
def zc(P:NQ)(w:N0)(K:NA)(D:M3)(e:TE):TB:=λd H Q=>e d H λv c=>∃xs k b,c D=on (lx P w D xs)/\v= .ref b/\SqT K c b (k.map V.int)/\(∀x∈xs,SqT K c x.2 (x.1.map V.int))/\xs.length<63/\
 ∀a,(k∈xs.map (·.1)->a=xs)->(k∉xs.map (·.1)->a.Perm ((k,b)::xs))->Q d (upd c D (lx P w D a))
theorem sZ{D:M3}(p:X.A.units+1<R5)(L:gens[d+1]?=MY)(N:PE X elt te)(j:X.xe=λ_ _=>False):PB X (.S elt) gens scope pos d D (zc X.prog X.w X.K D te):=by
 intro a s y H Q I h k Q' E' O;unfold gb;rw[L];show Nn _ _ ((do let v ←Op elt X.env;QY elt.pos;let _ ←Uj (.builtin "set.add") [.ref D,v])>>=λ_=>k) _ _ _
 have c:=N a s y H _ I h;rw[j]at c;refine My (My (Oe c (λu g l=>?_) λ_ _ f=>f.elim));obtain⟨v,H1,i,r,xs,R,b,B,rfl,C,J,hn,q⟩:=l;cases r;have S:qg X.prog X.w D xs g.heap:=(i.hok D _ B).1;have T:qf X.prog X.w g.heap D xs:=S.to λx h=>lZ i (J x h);obtain⟨o,es,ep,t,U,W,_⟩:=S;refine My (Pp (My (N2 F.slot_set_add ⟨o,U,W.1⟩ F.entry_set_add ?_ (F.args_set_add_2 _ _))));unfold Builtin.«set.add» Builtin.Frozenset.oneOther;simp only[List.isEmpty_nil,bind_assoc];unfold Builtin.Frozenset.addrOf setAdd;refine My (M0 ?_)
 try dsimp only
 refine My (M0 ?_)
 try dsimp only
 refine My (OB (My ((IKd X.prog X.w).pyHash p (lZ i C) ?_)));refine LG (s:={g with toks:=g.toks+(IKd X.prog X.w).draws R}) p T (lZ (s:=g) i C) hn λh' m Y Z c1 c2=>?_;show Nn _ _ (ret Oh) _ _ _;refine M0 ⟨_,rfl,M0 (O _ y _ (i.write (by rw[B];trivial) (.inl rfl) (λb u n e=>(Y.2 b n).trans e) ?_ (uP ?_)) (q m c1 c2))⟩
 all_goals obtain⟨o,es,ep,t,c,l,h3,h4,h5,J,h6⟩:=Z
 ·exact⟨o,c⟩
 ·exact⟨o,es,ep,t,c,l,h3,h4,h5,h6⟩
def kq(c:M3->HO)(vars:List NY)(caps:List Nat)(d:TI)(e:M3->It->TB):TE:=λa H Q=>d a H λJ b=>∀D,b D=MY->e D J (jv vars caps a) (upd b D (c D)) λ_ f=>Q (.ref D) f
theorem HJ{d a b:Expr}{f:List Expr}{rest:List OT}{scope:Scope}{pos:RN}{j vars:List NY}{caps:List Nat}{g:TG}{tt:TT}{o:M3->TB}{p:TI}(r:X.calm=M2)(S:CmpScope X scope j vars caps)(t:PI X a b p)
  (u:∀(cl:List (NY×M3)) (C:M3) (k:List M3) (s:Ng) (H:Hp),PG (aB X j scope cl C k s H) a g/\dh (aB X j scope cl C k s H) f tt/\∀D,PB (aB X j scope cl C k s H) (.S d) (⟨a,b,f,0⟩::rest) scope pos 0 D (o D))
  (hs:∀x,N5 b X.env x=Pn x:=by intro _;rfl):PE X (.SetComp d (⟨a,b,f,0⟩::rest) scope pos) (kq (λD=>lx X.prog X.w D []) vars caps p λD J=>cJ J g tt (o D)):=by
 intro i s y H Q I h;refine P7 (use:=MY) rfl hs (S.clo I.ok) S.kind S.loc (Oe (t i s y H _ I h) (λv Y B=>Oe B (λF Z L=>?_) λ_ _ x=>x) λ_ _ x=>x);obtain⟨it,k,tn,J,H2,e,N,T,l,f2,q⟩:=L;subst e;refine f9 (c:= .S d) HZ (RR:=λacc C=>Vf (NL X.prog X.w) X.A X.xe MY _ acc C) r S u N T l f2 q λD C s' O m R ns U W=>?_;exact⟨m,ns,λh' n=>⟨.ref D,O,R.letgo U n,rfl,W⟩⟩
def uU(P:NQ)(w:N0)(K:NA):List V->Hp->VK->Prop:=λxs H Q=>∃a ys,xs=[.ref a]/\H a=on (lx P w a ys)/\(∀x∈ys,SqT K H x.2 (x.1.map V.int)/\1<=x.1.length)/\ys.length<64/\
 ∀(l:M3) (b:List (List Int×M3)),H l=MY->b.Perm ys->Up (b.map (·.1))->Q (.ref l) (upd H l (.lst (b.map λz=>V.ref z.2)))
theorem uC(e:X.calm=M2):cK X (.builtin "sorted") (uU X.prog X.w X.K):=by
 intro c s m H xs us Q I r h;obtain⟨a,ys,rfl,ha,d,hn,q⟩:=h;obtain⟨u,rfl,rfl⟩:=im r;have S:qg X.prog X.w a ys s.heap:=(I.hok a _ ha).1;refine v7 (I.ok.hd e) (S.to λx h=>lZ I (d x h).1) (λx h=>(d x h).2) hn λl h' f g b p i j hs keep n=>?_;refine⟨.ref l,_,I.laid (t':=f) (o:= .lst (b.map λz=>V.ref z.2)) keep hs ⟨?_,b.map λk=>NC k.2,g,?_,j⟩,rfl,q l b (I.hok.fresh hs) p i⟩
 ·rw[MZ,p.length_eq,Ph];omega
 ·exact ql b
end
end L2.Hs
namespace L2.Pu
open PySem PySem.Spec PyProof.Rows L2.Hs
def f7(nv:Nat)(caps:List Nat)(it:FL)(tg:TgF)(tt:Dn->M Bool)(b:FL)(a:List D->Option D):FD:=λδ β=>match it δ β with
 |none=>MY
 |some (.error C,β1)=>on (.error C,β1)
 |some (.ok ds,β1)=>match cLp tg tt b ds (cSt nv caps δ) β1 with
  |some (.ok os,β2)=>(a os).map λd=>(.ok d,β2)
  |_=>MY
section
variable{K:NA}{E:St->XK}
theorem qp{R:AR}{p:M3->HO}{c:List D->Option D}{vars:List NY}{caps:List Nat}{it:FL}{g:TG}{tg:TgF}{tt:Dn->M Bool}{T:M3->TB}{b:FL}(hg:cf K g tg)(sg:de tg)(hb:∀D,dP K R D (T D) b)
  (r0:∀F H D,R.R F (upd H D (p D)) D []) (hp:∀os d,c os=on d->R.Z os) {U:St} {H:Hp} {Q W:VK} (h:tV K (f7 vars.length caps it tg tt b c) E U H W)
  (k:∀F B f D os d,Fr F B f->¬F.A D->R.R F B D os->c os=on d->(∀v j,To F B j f->Den K F j d v->W v j)->Q (.ref D) B):
  kq p vars caps (iV K it E) (λD J=>cJ J g (tVT K tt E0) (T D)) U H Q:=by
 obtain⟨F,δ,β,fr,X,r,f,e,h⟩:=h;unfold f7 at e;refine⟨F,δ,β,fr,X,?_⟩;split at e
 ·cases e
 ·rename_i C β1 q
  cases e;exact⟨.error C,_,q,h⟩
 ·rename_i ds β1 q
  split at e
  ·rename_i os β2 q2
   cases hd:c os with
   |none=>rw[hd]at e;cases e
   |some d=>
    rw[hd]at e;cases e;refine⟨.ok ds,β1,q,λJ I t hJ D m=>?_⟩;have i:¬F.A D:=t.fr.fresh m;have nb:∀b l,F.bg=on (b,l)->D≠b/\D≠l:=λb l z=>⟨λw=>i (w▸(fr.bgA b l z).1),λw=>i (w▸(fr.bgA b l z).2.1)⟩;have Y:=t.fr.upd (p D) m;have L:Fr ⟨λa=>F.A a\/a=D,F.bg⟩ (upd I D (p D)) β1:=by
     refine⟨λa ha z=>?_,λb l z=>let ⟨x,y,w⟩:=fr.bgA b l z;⟨.inl x,.inl y,w⟩,Y.fr.bag⟩
     rcases ha with ha|ha
     ·exact Y.fr.occ a ha z
     ·subst ha;rw[ah]at z;cases z
    have u:Tr F I ⟨λa=>F.A a\/a=D,F.bg⟩ (upd I D (p D)):=⟨λa ha hs z=>by
     rcases z with z|z
     ·exact ha z
     ·subst z;exact hs m,λa o ha z=>by rw[upd_ne (aw z m)];exact z,rfl⟩
    refine lU (R:=R) (D:=D) (as:=[]) (os:=os) hg sg (hb D) L (.inr rfl) nb (o9 (X.tr ((t.tr fr).trans u))) (r0 _ _ _) (hJ.tr u) q2 (hp os d hd) λσ1 j N vk3 O=>?_;have tf:To F I j f:=by
     refine⟨λa o z n=>N.kp a o (by rw[upd_ne (aw z m)];exact z) (aw z m) n,λa ha z=>N.fr.occ a (Po ha) z,fr.bgA,N.fr.bag⟩
    exact k F j f D os d tf.fr i (R.tr (F:=⟨λa=>F.A a\/a=D,F.bg⟩) O (λ_ z=>z) ⟨λa ha _ z=>ha (Po z),λa o _ z=>z,rfl⟩) hd λv H3 t4 hv=>h v H3 ((t.trans tf).trans t4) hv
  ·cases e
noncomputable abbrev tpI(k:List Int):D:= .tup (k.map .int)
theorem p8{k:List Int}(h:Den K F H (tpI k) v):∃b,v= .ref b/\SqT K H b (k.map V.int):=by
 obtain⟨a,xs,rfl,sq,c⟩:=Den.sqT h;cases DenL.ints k c;exact⟨a,rfl,sq⟩
theorem fq(h:tpI k=tpI l):k=l:=by
 injection h with h
 exact Tg (λa b z=>by injection z)|>.mp h
theorem fY{α:Type} [BEq α] [LawfulBEq α]:∀{l m:List α},l.Nodup->(∀x∈l,x∈m)->l.length<=m.length
 |[],_,_,_=>OC _
 |a::l,m,nd,h=>by
  obtain⟨c,d⟩:=Ob.mp nd;have:=fY (m:=m.erase a) d λx b=>(List.mem_erase_of_ne (λ(z:x=a)=>c (z▸b))).mpr (h x (M5 a b));rw[List.length_erase_of_mem (h a Nb)]at this;have:=List.length_pos_of_mem (h a Nb);rw[Nm];omega
noncomputable def RS(P:NQ)(w:N0)(K:NA):AR where
 R:=λF H D as=>∃xs,H D=on (lx P w D xs)/\(xs.map (·.1)).Nodup/\(∀x∈xs,Den K F H (tpI x.1) (.ref x.2)/\tpI x.1∈as)/\∀d∈as,∃k∈xs.map (·.1),d=tpI k
 Z:=λl=>∃ks:LI,ks.length<63/\∀d∈l,∃k∈ks,d=tpI k
 tr:=λh k t=>by
  obtain⟨xs,a,b,c,f⟩:=h;exact⟨xs,k _ a,b,λx e=>⟨Den.tr t _ _ (c x e).1,(c x e).2⟩,f⟩
 zp:=λh=>by
  obtain⟨ks,a,b⟩:=h;exact⟨ks,a,λd hd=>b d (PV _ hd)⟩
theorem AU{P:NQ}{w:N0}{D:M3}:dP K (RS P w K) D (zc P w K D (tV K f E0)) (cEm f):=λF H δ β u R as os Q fr T A J U e W k=>by
 obtain⟨xs,X,nd,j,ha⟩:=U;obtain⟨d,β1,Y,Z⟩:=M.bind_inv e;cases Z;refine⟨F,δ,β,fr,J,E0.run Y λv B t L=>?_⟩;have C:=t.kp D _ X A;obtain⟨ks,z1,N⟩:=W;obtain⟨r,hk',rfl⟩:=N d (N1 _ Nb);obtain⟨b,rfl,sq⟩:=p8 L;have c:∀x∈xs,Den K F B (tpI x.1) (.ref x.2):=λx h=>Den.tr (t.tr fr) _ _ (j x h).1;have g:xs.length<63:=by
  have:=fY (m:=ks) nd λx I=>by
   obtain⟨y,hy,rfl⟩:=Nw.mp I;obtain⟨l,hl,e⟩:=N _ (PV _ (j y hy).2);rw[fq e];exact hl
  rw[MZ]at this;omega
 refine⟨xs,r,b,C,rfl,sq,λx h=>?_,g,λi c1 c2=>?_⟩
 ·obtain⟨b',e,q⟩:=p8 (c x h)
  cases e;exact q
 have O:ToD F D B (upd B D (lx P w D i)) u:=by
  refine⟨λa o h n _=>by rw[upd_ne n];exact h,λa h q=>?_,fr.bgA,λb l q=>?_⟩
  ·by_cases z:a=D
   ·subst z;rw[ah]at q;cases q
   ·rw[upd_ne z]at q;exact t.fr.occ a h q
  ·rw[upd_ne (A b l q).1.symm,upd_ne (A b l q).2.symm]
   exact t.fr.bag b l q
 have tt:=O.tr t.fr T;refine k R _ ((t.toD D).trans O) (J.tr ((t.tr fr).trans tt)) ⟨i,ah,?_⟩;by_cases hm:r∈xs.map (·.1)
 ·cases c1 hm
  refine⟨nd,λx h=>⟨Den.tr tt _ _ (c x h),PV _ (j x h).2⟩,λd hd=>?_⟩;rcases OE.mp hd with hd|hd
  ·exact ha d hd
  ·exact⟨r,hm,NU.mp hd⟩
 ·have p:=c2 hm
  refine⟨(p.map (·.1)).nodup_iff.mpr (Ob.mpr ⟨hm,nd⟩),λx h=>?_,λd hd=>?_⟩
  ·rcases Nq.mp (p.mem_iff.mp h)with rfl|h
   ·exact⟨Den.tr tt _ _ L,N1 _ Nb⟩
   ·exact⟨Den.tr tt _ _ (c x h),PV _ (j x h).2⟩
  ·rcases OE.mp hd with hd|hd
   ·obtain⟨k2,h2,e⟩:=ha d hd
    exact⟨k2,(p.map (·.1)).mem_iff.mpr (M5 _ h2),e⟩
   ·exact⟨r,(p.map (·.1)).mem_iff.mpr Nb,NU.mp hd⟩
def Srt(ks:LI)(os:List D):Prop:=Up ks/\ks.length<63/\(∀k∈ks,1<=k.length/\tpI k∈os)/\∀d∈os,∃k∈ks,d=tpI k
theorem Srt.eq{os:List D}(a:Srt ks os)(b:Srt ls os):ks=ls:=vU a.1 b.1 λx=>⟨λh=>by
 obtain⟨l,c,e⟩:=b.2.2.2 _ (a.2.2.1 x h).2;rw[fq e];exact c,λh=>by
 obtain⟨l,c,e⟩:=a.2.2.2 _ (b.2.2.1 x h).2;rw[fq e];exact c⟩
open Classical in
def jF(os:List D):Option D:=if h:∃ks,Srt ks os then on (.lst (h.choose.map tpI))else MY
theorem zL{ks:LI}{os:List D}(h:Srt ks os):jF os=on (.lst (ks.map tpI)):=by
 have q:∃ks,Srt ks os:=⟨ks,h⟩;unfold jF;rw[dif_pos q,q.choose_spec.eq h]
theorem qu{os:List D}(h:jF os=on d):∃ks,Srt ks os/\d= .lst (ks.map tpI):=by
 unfold jF at h;split at h
 ·rename_i q
  cases h;exact⟨_,q.choose_spec,rfl⟩
 ·cases h
theorem qP:∀{a:List (List Int×M3)},(∀z∈a,Den K F H (tpI z.1) (.ref z.2))->DenL K F H ((a.map (·.1)).map tpI) (a.map λz=>V.ref z.2)
 |[],_=>DenL.nil
 |z::a,h=>DenL.cons (h z Nb) (qP λx b=>h x (M5 z b))
end
section
variable{X:Cx}{E:St->XK}{elt target iter:Expr}{ifs:List Expr}{rest:List OT}{scope:Scope}{pos p pos':RN}{Nc vars:List NY}{caps:List Nat}{g:TG}{tb:M3->TB}
theorem zy(i:Gl X "sorted")(hm:X.mg "sorted"=MY)(o:X.calm=M2)(S:CmpScope X scope Nc vars caps)(r:PI X target iter (iV X.K it E))
  (t:∀(cl:List (NY×M3)) (C:M3) (j:List M3) (s:Ng) (H:Hp),PG (aB X Nc scope cl C j s H) target g/\dh (aB X Nc scope cl C j s H) ifs (tVT X.K tt E0)/\∀D,PB (aB X Nc scope cl C j s H) (.S elt) (⟨target,iter,ifs,0⟩::rest) scope pos 0 D (tb D))
  (u:cf X.K g tg) (A:de tg) (B:∀D,dP X.K (RS X.prog X.w X.K) D (tb D) b) (hs:∀x,N5 iter X.env x=Pn x:=by intro _;rfl):
  PE X (.Call (.Name "sorted" p) [.SetComp elt (⟨target,iter,ifs,0⟩::rest) scope pos] [] pos') (tV X.K (f7 vars.length caps it tg tt b jF) E):=
 (jJ (uC o) i hm (by kernel_rfl) (dU (HJ o S r t hs) hZ)).imp λZ H Q h=>by
  refine qp (Q:=λv I=>uU X.prog X.w X.K [v] I Q) u A B (λF H D=>⟨[],ah,.nil,λx a=>NE a (by simp),λd hd=>NE hd (by simp)⟩) (λos d e=>?_) h λF H' J D os d fr L N e q=>?_
  ·obtain⟨ks,s,_⟩:=qu e
   exact⟨ks,s.2.1,s.2.2.2⟩
  ·obtain⟨ks,s,rfl⟩:=qu e
   obtain⟨xs,O,nd,a,ha⟩:=N;have k:∀x∈xs,x.1∈ks:=λx h=>by
    obtain⟨l,f,e⟩:=s.2.2.2 _ (a x h).2;rw[fq e];exact f
   have hn:xs.length<64:=by
    have:=fY (m:=ks) nd λy c=>by
     obtain⟨x,h,rfl⟩:=Nw.mp c;exact k x h
    rw[MZ]at this;have:=s.2.1;omega
   refine⟨D,xs,rfl,O,λx h=>?_,hn,λl R f n T=>?_⟩
   ·obtain⟨b',e,q⟩:=p8 (a x h).1
    cases e;exact⟨q,(s.2.2.1 _ (k x h)).1⟩
   ·have U:ks=R.map (·.1):=vU s.1 T λy=>by
     refine⟨λc=>?_,λc=>?_⟩
     ·obtain⟨k2,W,e⟩:=ha _ (s.2.2.1 y c).2
      rw[fq e];exact(n.map (·.1)).mem_iff.mpr W
     ·obtain⟨x,h,rfl⟩:=Nw.mp ((n.map (·.1)).mem_iff.mp c)
      exact k x h
    rw[U]at q;exact q _ _ (fr.upd _ f) (Den.newL fr f (qP λz Y=>(a z (n.mem_iff.mp Y)).1))
end
end L2.Pu
namespace L2.Hs
open PySem PySem.Spec PyProof.Rows
section
variable{prog:NQ}{w:N0}{A:Oj}{E:M7->Ng->Prop}{s:Ng}
def IsP(prog:NQ)(w:N0)(h:Ox)(k:KyD)(a:M3):Prop:=∃o n t b,h.get? a=on o/\o.cls= .type "tuple"/\o.data= .seq #[.int k.1 t,.ref b] n/\(IKd prog w).is h k.2 b
theorem IsP.ty(x:IsP prog w s.heap k a):s.TypeIs (.ref a) "tuple":=let ⟨o,_,_,_,ho,hc,_⟩:=x;⟨o,ho,hc⟩
theorem IsP.inj(f:IsP prog w h x a)(g:IsP prog w h y a):x=y:=by
 obtain⟨o,n,t,b,i,_,hd,j⟩:=f;obtain⟨k,p,t',q,d,_,c,e⟩:=g;obtain rfl:o=k:=NN (i.symm.trans d);rw[hd]at c;simp only[Data.seq.injEq,Array.mk.injEq,P6,Qt.injEq,NC.injEq]at c;obtain⟨⟨⟨l,_⟩,m,_⟩,_⟩:=c;subst m;exact Qr l ((IKd prog w).inj j e)
theorem Ks(k:List Int):hsh prog w k=hI k:=by unfold hsh hI;show tupleKeyHash _ _=_;unfold tupleKeyHash;rfl
theorem Kt{k:KyD}(g:A.units+1<R5)(f:IsP prog w s.heap k a)(h:Q (hB M2 k) {s with toks:=s.toks+(k.2.length+3)}):Nn (NL prog w) A (pyHash (.ref a)) Q E s:=by
 have c:=f.ty;obtain⟨o,n,t,b,i,_,hd,j⟩:=f;unfold pyHash
 first|unfold pyHashByItsType|skip
 refine My (wpAny_cRoomFor_or (.inr (by omega)) ?_);refine My (P0 c F.slot_tuple_hash.lookup ?_);show Nn _ _ (if(on (Value.builtin "tuple.__hash__")==on Oh)=M2 then _ else _) Q E s;rw[M8 (by rw[beq_builtin_none];exact Ni)];refine My (P0 c F.slot_tuple_hash.lookup ?_);show Nn _ _ (callSpecialIfBoundUnlessNone? (.ref a) "__hash__" _>>=_) Q E s;refine My (wpAny_callSpecialIfBoundUnlessNone?_slot c F.slot_tuple_hash (N2 F.slot_tuple_hash c F.entry_tuple_hash ?_ (F.args_tuple_hash_1 _)));show Nn _ _ (S9 (.ref a)>>=_) _ _ s;refine My (T4 i hd ?_);refine My ?_;rw[←QU];simp only[Qf,Qq];refine My (My (wpAny_pyHash_int ?_));refine M0 (My (My ((IKd prog w).pyHash g j ?_)));refine M0 (M0 ?_);have h':Q (hB M2 k) {s with toks:=s.toks+1+(k.2.length+1)+1}:=by
  have e:s.toks+1+(k.2.length+1)+1=s.toks+(k.2.length+3):=by omega
  rw[e];exact h
 refine wpAny_ret_mkInt ?_;generalize l:Rh _=z;have m:hB M2 k=reduceHash z:=by rw[←l,show(IKd prog w).hash k.2=hI k.2 from Ks k.2];rfl
 rw[m]at h';show Nn _ _ (if(decide (-(2:Int)^63<=z)&&decide (z<2^63))=M2 then _ else _) Q E _;unfold reduceHash at h';by_cases d:(decide (-(2:Int)^63<=z)&&decide (z<2^63))=M2
 ·rw[Nf d]
  rw[Nf d]at h';exact M0 h'
 ·rw[M8 d]
  rw[M8 d]at h';exact My (QO (M0 h'))
theorem eq_p(q:A.units+1<R5)(d:IsP prog w s.heap x a)(f:IsP prog w s.heap y b)(h:Q (decide (x=y)) s):Nn (NL prog w) A (eqBool (.ref a) (.ref b)) Q E s:=by
 unfold eqBool
 try with_reducible refine OB ?_
 show Nn _ _ (if(NC a==NC b)=M2 then _ else _) Q E s;by_cases c:(NC a==NC b)=M2
 ·rw[Nf c]
  have e:a=b:=by have:=eq_of_beq c;injection this
  subst e;obtain rfl:=d.inj f;exact My (QO (M0 (by simpa using h)))
 ·rw[M8 c]
  refine My (wpAny_richCompare_same_room (op:= .Eq) d.ty f.ty F.slot_tuple_eq
   (N2 F.slot_tuple_eq d.ty F.entry_tuple_eq ?_ (F.args_tuple_eq_2 _ _)) (by omega))
  have j:=f.ty;obtain⟨r,t,u,v,k,_,l,m⟩:=d;obtain⟨B,C,H,I,n,_,o,p⟩:=f;show Nn _ _ (T0 (.ref b) (.type "tuple")>>=_) _ _ s;refine My (PL j Te ?_);simp only[OI,Np,N3];refine My (T4 k l ?_);refine My (T4 n o ?_);refine My ?_;simp only[Pe,TC,Qf,Qq];refine My (My ((SZ prog w).eqBool (a:=x.1) (b:=y.1) (by simp[SZ,Vb]) (by simp[SZ,Vb]) ?_));by_cases g:x.1=y.1
  ·rw[NF g]
   refine M0 (My (My ((IKd prog w).eqBool q m p ?_)));by_cases i:x.2=y.2
   ·rw[NF i]
    rw[NF (Qr g i)]at h;exact M0 (M0 (M0 ⟨_,rfl,(λe=>nomatch e),Oo h⟩))
   ·rw[N8 i]
    rw[N8 (λe=>i (Oi _ e))]at h;exact My (M0 (M0 (M0 (M0 ⟨_,rfl,(λe=>nomatch e),Oo h⟩))))
  ·rw[N8 g]
   rw[N8 (λe=>g (Oi _ e))]at h;exact My (M0 (M0 (M0 (M0 ⟨_,rfl,(λe=>nomatch e),Oo h⟩))))
theorem HD(f:(IKd prog w).is s.heap k a)(h:Q M2 s):Nn (NL prog w) A (Wc (m+1) (.ref a)) Q E s:=by
 have g:=UO f;obtain⟨o,c,n,i,_,hd,j⟩:=f;unfold Wc;refine My (P0 g F.slot_tuple_eq.lookup ?_);show Nn _ _ (T0 (.ref a) (.type "tuple")>>=_) _ _ s;refine My (PL g Te ?_);simp only[OI,Np,N3];refine My (O4 i hd ?_);refine My ?_;show Nn _ _ (forIn c _ _) _ _ s;rw[←QU];refine SS _ (λrest r s'=>r.1=MY/\s'=s/\∀v∈rest,carriedByValue v=M2) _ ?_ ?_ _ _ ⟨rfl,rfl,j.byValue⟩
 ·rintro v rest r s' ⟨d,rfl,b⟩
  rw[eqIsQuiet_byValue _ (b v Nb)];refine My (M0 ?_);simp only[OI,Np,N3];exact M0 ⟨rfl,rfl,λu e=>b u (M5 _ e)⟩
 ·rintro⟨r1,l⟩ s' ⟨d,rfl,_⟩
  simp only at d;subst d;exact M0 h
theorem HE(c:IsP prog w s.heap k a)(h:Q M2 s):Nn (NL prog w) A (Wc 8 (.ref a)) Q E s:=by
 have d:=c.ty;obtain⟨o,n,t,b,e,_,hd,f⟩:=c;unfold Wc;refine My (P0 d F.slot_tuple_eq.lookup ?_);show Nn _ _ (T0 (.ref a) (.type "tuple")>>=_) _ _ s;refine My (PL d Te ?_);simp only[OI,Np,N3];refine My (O4 e hd ?_);refine My ?_;show Nn _ _ (forIn #[Qt k.1 t,NC b] _ _) _ _ s;rw[←QU];simp only[Qf,Qq];rw[eqIsQuiet_byValue _ (v:= .int k.1 t) rfl];exact My (My (M0 (M0 (My (My (HD (m:=6) f (M0 (M0 (M0 h)))))))))
def PKd(prog:NQ)(w:N0):HeapKind prog w KyD where
 is:=IsP prog w
 hash:=hB M2
 draws:=λk=>k.2.length+3
 room:=λA=>A.units+1<R5
 inj:=λd e=>d.inj e
 keeps:=λx i hd hs=>by
  obtain⟨j,n,t,b,c,l,a,m⟩:=x;refine⟨j,n,t,b,(hs.2 _ ?_).trans c,l,a,(IKd prog w).keeps m i hd hs⟩;rintro rfl;obtain rfl:=NN (c.symm.trans i);rw[hd]at a;exact nomatch a
 pyHash:=λf g h=>Kt f g h
 eqBool:=λf d e h=>eq_p f d e h
 quiet:=λg h=>HE g h
def FKd(prog:NQ)(w:N0):HeapKind prog w KyD where
 is:=λh k a=>k.1=0/\(IKd prog w).is h k.2 a
 hash:=hB M4
 draws:=λk=>k.2.length+1
 room:=λA=>A.units+1<R5
 inj:=λc d=>Qr (c.1.trans d.1.symm) ((IKd prog w).inj c.2 d.2)
 keeps:=λx i hd hs=>⟨x.1,(IKd prog w).keeps x.2 i hd hs⟩
 pyHash:=λf g h=>(IKd prog w).pyHash (Nat.lt_of_succ_lt f) g.2 h
 eqBool:=λ{A E s x y a b Q} f c d h=>(IKd prog w).eqBool (Nat.lt_of_succ_lt f) c.2 d.2 (by
  have e:decide (x.2=y.2)=decide (x=y):=by
   by_cases q:x.2=y.2
   ·rw[NF q,NF (Qr (c.1.trans d.1.symm) q)]
   ·rw[N8 q,N8 (λz=>q (Oi _ z))]
  rw[e];exact h)
 quiet:=λg h=>(IKd prog w).quiet g.2 h
def KB(prog:NQ)(w:N0):Bool->HeapKind prog w KyD
 |true=>PKd prog w
 |false=>FKd prog w
theorem pP{b:Bool}:(KB prog w b).hash=hB b:=by cases b<;>rfl
theorem jp{b:Bool}{A:Oj}(h:A.units+1<R5):(KB prog w b).room A:=by cases b<;>exact h
def KyS(K:NA)(H:Hp):Bool->KyD->M3->Prop
 |true,k,c=>∃e,SqT K H c [.int k.1,.ref e]/\SqT K H e (k.2.map V.int)
 |false,k,c=>k.1=0/\SqT K H c (k.2.map V.int)
abbrev XY(x:KyD×M3×V)(y:KyD×M3×M7):Prop:=x.1=y.1/\x.2.1=y.2.1/\aF x.2.2 y.2.2
theorem iZ:∀{xs:List (KyD×M3×V)} {ys:List (KyD×M3×M7)},Sk XY xs ys->xs.map (·.1)=ys.map (·.1)
 |_,_,.nil=>rfl
 |_,_,.cons h t=>by rw[Nl,Nl,h.1,iZ t]
theorem xk:∀{xs:List (KyD×M3×V)} {ys:List (KyD×M3×M7)},Sk XY xs ys->∀y∈ys,∃x∈xs,XY x y
 |_,_,.nil,y,h=>by cases h
 |_,_,.cons (a:=a) h t,y,hy=>by
  rcases Nq.mp hy with rfl|hy
  ·exact⟨a,Nb,h⟩
  ·obtain⟨x,b,e⟩:=xk t y hy
   exact⟨x,M5 _ b,e⟩
noncomputable def lkV(xs:List (KyD×M3×V))(k:KyD):Option V:=(xs.find? λx=>decide (x.1=k)).map (·.2.2)
theorem i5:∀{xs:List (KyD×M3×V)} {ys:List (KyD×M3×M7)},Sk XY xs ys->gx (lkV xs k) ((Ui ys k).map (·.2))
 |_,_,.nil=>by simp[lkV,Ui,gx]
 |_,_,.cons (a:=a) (b:=b) h t=>by
  have ih:=i5 (k:=k) t;unfold lkV Ui at ih⊢;rw[PQ,PQ,←h.1];by_cases q:a.1=k
  ·rw[NF q];exact h.2.2
  ·rw[N8 q];exact ih
theorem pk(h:XY x y):∀{xs:List (KyD×M3×V)} {ys:List (KyD×M3×M7)},Sk XY xs ys->Sk XY (xs++[x]) (ys++[y])
 |_,_,.nil=> .cons h .nil
 |_,_,.cons h' t=> .cons h' (pk h t)
variable{X:Cx}{pins:List (M3×NM)}{σ:St}{H:Hp}
theorem lV{b:Bool}(I:Inv X pins σ H s)(h:KyS X.K H b k c):(KB X.prog X.w b).is s.heap k c:=by
 cases b with
 |true=>
  obtain⟨e,a,d⟩:=h;obtain⟨its,f,⟨o,g,i,n,hd⟩,_⟩:=I.tuple a;obtain⟨j,l,rfl,⟨t,rfl⟩,rfl⟩:=rn f;exact⟨o,n,t,e,g,i,hd,lZ I d⟩
 |false=>exact⟨h.1,lZ I h.2⟩
theorem big{pins:List (M3×NM)}{σ:St}{H:Hp}{s:Ng}(I:Inv X pins σ H s):T1<s.heap.objs.size:=RM (by decide) (show Pg<s.heap.objs.size from(I.mod.glob.keeps I.bk).lt)
theorem ig{b:Bool}(I:Inv X pins σ H s)(d:H a=on (bN a b ep xs))(e:∀x∈xs,KyS X.K H b x.1 x.2.1):∃ys,s.heap.DictOfH (KB X.prog X.w b) a ys/\Sk XY xs ys/\ys.length<=Nr/\(a==T1)=M4:=by
 obtain⟨o,es,ys,f,g,h,i,j,k,l,c⟩:xg a b ep xs s.heap:=(I.hok a _ d).1;refine⟨ys,⟨o,es,ep,f,g,h,?_,λy m=>?_,j⟩,c,l,k⟩
 ·rw[i];unfold entryOfKey;rw[pP]
 ·obtain⟨x,n,p,q,_⟩:=xk c y m
  rw[←p,←q];exact lV I (e x n)
def JH(K:NA):R2:=λx y H Q=>∃a b ep xs k c v,x= .ref a/\y= .ref c/\H a=on (bN a b ep xs)/\(∀x∈xs,KyS K H b x.1 x.2.1)/\KyS K H b k c/\lkV xs k=on v/\Q v H
theorem oO(l:X.A.units+2<R5):IxR X (JH X.K):=by
 intro g i pins s σ H x y v u Q I m n h hs;obtain⟨a,b,ep,xs,k,c,o,rfl,rfl,t,B,C,J,q⟩:=h;cases m;cases n;obtain⟨ys,d,p,_,_⟩:=ig I t B;have f:=i5 (k:=k) p;rw[J]at f;cases e:Ui ys k with
 |none=>rw[e]at f;exact f.elim
 |some r=>
  rw[e]at f;exact S3 (x:=r.2) d.typeIs PySem.F.slot_dict_getitem.lookup (wpAny_getItem_heap (Q:=λj s'=>j=r.2/\EP X pins σ Q j s') (jp l) (lV I C) d e ⟨rfl,o,H,I.tok _,f,q⟩) hs
theorem m9{b:Bool}:Mks X newDict λD=>bN D b 0 []:=λpins s σ H E Q I h=>N6 (h _ (I.laid (t':=s.toks) (λ_ _ q=>M1 _ q) (Nh _) (p9 ⟨_,#[],[],Nu _ rfl,⟨rfl,rfl,rfl⟩,rfl,rfl,.nil,beq_eq_false_iff_ne.mpr (Ne.symm (Od (big I))),OC _,.nil⟩)) λb o e=>M1 _ e)
def zd(K:NA)(b:Bool)(D:M3)(e f:TE):TB:=λσ H Q=>e σ H λx g=>f σ g λy a=>∃ep xs k c,x= .ref c/\a D=on (bN D b ep xs)/\(∀x∈xs,KyS K a b x.1 x.2.1)/\KyS K a b k c/\k∉xs.map (·.1)/\xs.length<Nr/\∀d,Q σ (upd a D (bN D b d (xs++[(k,c,y)])))
theorem jK{D:M3}{b:Bool}(L:X.A.units+1<R5)(N:gens[d+1]?=MY)(O:PE X ke tk)(R:PE X ve tv)(a:X.xe=λ_ _=>False):PB X (.D ke ve) gens scope pos d D (zd X.K b D tk tv):=by
 intro pins s σ H Q I h k Q' E' T;unfold gb;rw[N];show Nn _ _ (emC (.D ke ve) (.ref D) X.env>>=λ_=>k) _ _ _;unfold emC;have t:=O pins s σ H _ I h;rw[a]at t;refine My (My (Oe t (λu U W=>?_) λ_ _ f=>f.elim));obtain⟨v,Y,Z,r,q1⟩:=W;have B:=R pins U σ Y _ Z q1;rw[a]at B;refine My (OB (Oe B (λu2 s2 h4=>?_) λ_ _ f=>f.elim));obtain⟨v2,H2,i,r2,ep0,xs,j,c,rfl,C,hx,hc,hn,hl,q⟩:=h4;cases r;obtain⟨ys,dd,p,hz,l⟩:=ig i C hx;have F:=iZ p;have e0:Ui ys j=MY:=by
  cases e:Ui ys j with
  |none=>rfl
  |some r=>
   exfalso
   unfold Ui at e;cases m:ys.find? (λx=>decide (x.1=j))with
   |none=>rw[m]at e;cases e
   |some y=>
    have:=List.find?_some m;exact hn (by rw[F];exact Nw.mpr ⟨y,List.mem_of_find?_eq_some m,PP this⟩)
 refine My (Pp (OB (wpAny_dictSet_heap (jp L) (lV i hc) dd (λh' d' sb=>?_) hz)));rw[storedH_new e0]at d';obtain⟨o,es,ep,J,g2,g3,g4,g5,g6⟩:=d';have g:ys.length=xs.length:=by rw[←MZ (f:=(·.1)),←F,MZ]
 refine T _ σ _ (i.write (by rw[C];trivial) (.inl rfl) (λb u n e=>(sb.2 b n).trans e) ⟨o,J⟩ (p9 ⟨o,es,_,J,g2,g3,?_,g6,l,?_,pk ⟨rfl,rfl,r2⟩ p⟩)) (q ep)
 ·rw[g4];unfold entryOfKey;rw[pP]
 ·rw[Ny,g,Og];omega
theorem z6{b:Bool}{k l a d:Expr}{f:List Expr}{rest:List OT}{scope:Scope}{pos:RN}{i vars:List NY}{caps:List Nat}{g:TG}{tt:TT}{p:M3->TB}{r:TI}(t:X.calm=M2)(S:CmpScope X scope i vars caps)(u:PI X a d r)
  (y:∀(cl:List (NY×M3)) (C:M3) (j:List M3) (s:Ng) (H:Hp),PG (aB X i scope cl C j s H) a g/\dh (aB X i scope cl C j s H) f tt/\∀D,PB (aB X i scope cl C j s H) (.D k l) (⟨a,d,f,0⟩::rest) scope pos 0 D (p D))
  (hs:∀x,N5 d X.env x=Pn x:=by intro _;rfl):PE X (.DictComp k l (⟨a,d,f,0⟩::rest) scope pos) (kq (λD=>bN D b 0 []) vars caps r λD J=>cJ J g tt (p D)):=by
 intro pins s σ H Q I h;refine P7 (use:=MY) rfl hs (S.clo I.ok) S.kind S.loc (Oe (u pins s σ H _ I h) (λv Y B=>Oe B (λF Z L=>?_) λ_ _ x=>x) λ_ _ x=>x);obtain⟨it,j,tn,J,H2,e,N,T,n,f2,q⟩:=L;subst e;refine f9 (c:= .D k l) m9 (RR:=λacc C=>Vf (NL X.prog X.w) X.A X.xe MY _ acc C) t S y N T n f2 q λD C s' O m R ns U W=>?_;exact⟨m,ns,λh' o=>⟨.ref D,O,R.letgo U o,rfl,W⟩⟩
end
end L2.Hs
namespace L2.Pu
open PySem PySem.Spec PyProof.Rows L2.Hs
def dK:Bool->KyD->D
 |true,k=> .tup [.int k.1,tpI k.2]
 |false,k=>tpI k.2
def KyZ(b:Bool)(k:KyD):Prop:=b=M4->k.1=0
theorem KK{b:Bool}(a:KyZ b k)(c:KyZ b l)(h:dK b k=dK b l):k=l:=by
 cases b with
 |true=>
  simp only[dK,D.tup.injEq,P6,D.int.injEq,and_true]at h;exact Qr h.1 (fq (Oi D.tup h.2))
 |false=>exact Qr ((a rfl).trans (c rfl).symm) (fq h)
section
variable{K:NA}{F:Fx}{H:Hp}{E:St->XK}
theorem uj(h:Den K F H (.tup ds) v):∃a xs,v= .ref a/\TQ K F H a xs/\DenL K F H ds xs:=by
 unfold Den at h;exact h
theorem nR(h:TQ K F H a xs)(hd:DenL K F H ds xs):Den K F H (.tup ds) (.ref a):=by
 unfold Den;exact⟨a,xs,rfl,h,hd⟩
theorem TQ.sq(h:TQ K F H c xs):SqT K H c xs:=h.imp (·.2) id
theorem dZ.s{b:Bool}(h:dZ K F H b k c):KyS K H b k c:=by
 cases b with
 |true=>
  obtain⟨e,a,d⟩:=h;exact⟨e,a.sq,d.sq⟩
 |false=>exact⟨h.1,h.2.sq⟩
theorem dZ.z{b:Bool}(h:dZ K F H b k c):KyZ b k:=λe=>by subst e;exact h.1
theorem oN{b:Bool}(g:KyZ b k)(h:Den K F H (dK b k) v):∃c,v= .ref c/\dZ K F H b k c:=by
 cases b with
 |true=>
  obtain⟨a,xs,rfl,q,d⟩:=uj h;obtain⟨i,j,rfl,d1,d2⟩:=DenL.two d;cases d1.int;obtain⟨e,ys,rfl,q2,f⟩:=uj d2;cases DenL.ints k.2 f;exact⟨a,rfl,e,q,q2⟩
 |false=>
  obtain⟨a,xs,rfl,q,d⟩:=uj h;cases DenL.ints k.2 d;exact⟨a,rfl,g rfl,q⟩
theorem Ms{b:Bool}(h:dZ K F H b k c):Den K F H (dK b k) (.ref c):=by
 cases b with
 |true=>
  obtain⟨e,a,d⟩:=h;exact nR a (DenL.cons rfl (DenL.cons (nR d (DenL.ofInts k.2)) DenL.nil))
 |false=>exact nR h.2 (DenL.ofInts k.2)
abbrev pKD(b:Bool)(p:KyD×D):D:= .tup [dK b p.1,p.2]
def Dk(b:Bool)(kvs:List (KyD×D))(os:List D):Prop:=os=kvs.map (pKD b)/\(kvs.map (·.1)).Nodup/\kvs.length<=Nr/\∀p∈kvs,KyZ b p.1
theorem HP{b:Bool}{p q:KyD×D}(a:KyZ b p.1)(c:KyZ b q.1)(h:pKD b p=pKD b q):p=q:=by
 simp only[pKD,D.tup.injEq,P6,and_true]at h;exact Qr (KK a c h.1) h.2
theorem jL{b:Bool}:∀{l m:List (KyD×D)},(∀p∈l,KyZ b p.1)->(∀p∈m,KyZ b p.1)->l.map (pKD b)=m.map (pKD b)->l=m
 |[],[],_,_,_=>rfl
 |[],_::_,_,_,h=>by cases h
 |_::_,[],_,_,h=>by cases h
 |p::l,q::m,hl,hm,h=>by
  rw[Nl,Nl,P6]at h;rw[HP (hl p Nb) (hm q Nb) h.1,jL (λx a=>hl x (M5 _ a)) (λx a=>hm x (M5 _ a)) h.2]
theorem Dk.eq{b:Bool}{os:List D}(x:Dk b l os)(y:Dk b m os):l=m:=jL x.2.2.2 y.2.2.2 (x.1.symm.trans y.1)
open Classical in
def jY(b:Bool)(os:List D):Option D:=if h:∃kvs,Dk b kvs os then on (.dct b (h.choose.map (·.1)) (h.choose.map (·.2)))else MY
theorem vL{b:Bool}{kvs:List (KyD×D)}{os:List D}(h:Dk b kvs os):jY b os=on (.dct b (kvs.map (·.1)) (kvs.map (·.2))):=by
 have q:∃kvs,Dk b kvs os:=⟨kvs,h⟩;unfold jY;rw[dif_pos q,q.choose_spec.eq h]
theorem ul{b:Bool}{os:List D}(h:jY b os=on d):∃kvs,Dk b kvs os/\d= .dct b (kvs.map (·.1)) (kvs.map (·.2)):=by
 unfold jY at h;split at h
 ·rename_i q
  cases h;exact⟨_,q.choose_spec,rfl⟩
 ·cases h
noncomputable def RD(K:NA)(b:Bool):AR where
 R:=λF H D as=>∃ep,∃a:List ((KyD×Pu.D)×M3×V),as=a.map (λz=>pKD b z.1)/\H D=on (bN D b ep (a.map λz=>(z.1.1,z.2)))/\∀z∈a,dZ K F H b z.1.1 z.2.1/\Den K F H z.1.2 z.2.2
 Z:=λl=>∃kvs more,Dk b kvs (l++more)
 tr:=λh k t=>by
  obtain⟨ep,a,e,f,c⟩:=h;exact⟨ep,a,e,k _ f,λz d=>⟨(c z d).1.tr t,Den.tr t _ _ (c z d).2⟩⟩
 zp:=λh=>by
  obtain⟨kvs,more,h⟩:=h;exact⟨kvs,_,by rw[←Oy];exact h⟩
def BU(f g:FD):FL:=λδ=>M.bind (f δ) λk=>M.bind (g δ) λv=>M.ret [.tup [k,v]]
theorem nh{b:Bool}{D:M3}:dP K (RD K b) D (zd K b D (tV K f E0) (tV K g E0)) (BU f g):=λF H δ β I σ as os Q fr hA B J hR e hz k=>by
 obtain⟨ep,d,rfl,hD,C⟩:=hR;obtain⟨W,β1,e1,e2⟩:=M.bind_inv e;obtain⟨X,β2,e3,e4⟩:=M.bind_inv e2;cases e4;obtain⟨kvs,more,L,Y,z3,Z⟩:=hz;have N:∀p∈d.map (·.1),KyZ b p.1:=λp r=>by
  obtain⟨z,h,rfl⟩:=Nw.mp r;exact(C z h).1.z
 have O:d.length<kvs.length:=by
  have:=Oi Rt L;simp at this;omega
 have ez:(d.map (·.1)).map (pKD b)=(kvs.take d.length).map (pKD b):=by
  rw[Ta,←L,Oy,List.take_append_of_le_length (by simp),OR (by simp),Nk];rfl
 have ek:=jL N (λp r=>Z p (Vu r)) ez;have R:pKD b kvs[d.length]= .tup [W,X]:=by
  have h0:(kvs.map (pKD b))[d.length]?=on (.tup [W,X]):=by
   rw[←L,Oy,O7 (by simp)];simp
  rw[M9,M6 O]at h0;exact NN h0
 have u:=Z _ (Oa O);generalize r:kvs[d.length]=p at R u;obtain⟨j,vv⟩:=p;simp only[pKD,Pu.D.tup.injEq,P6,and_true]at R;obtain⟨rfl,rfl⟩:=R;have y:j∉d.map (·.1.1):=λhm=>by
  have h2:kvs.take d.length++(j,vv)::kvs.drop (d.length+1)=kvs:=by
   rw[←r,←Ot O,Qm]
  rw[←h2,←ek,NR,Nl,Tz]at Y;refine Y.2.2 j ?_ j Nb rfl;rw[Nk];exact hm
 refine⟨F,δ,β,fr,J,E0.run e1 λv H1 t hv=>⟨F,δ,β1,t.fr,J.tr (t.tr fr),E0.run e3 λv2 H2 m T=>?_⟩⟩;have U:=Den.tr (m.tr t.fr) _ _ hv;obtain⟨c,rfl,kc⟩:=oN u U;have i:=(t.tr fr).trans (m.tr t.fr);refine⟨ep,_,j,c,rfl,m.kp D _ (t.kp D _ hD B) B,λx h=>?_,kc.s,?_,?_,λA=>?_⟩
 ·obtain⟨z,h',rfl⟩:=Nw.mp h
  exact((C z h').1.tr i).s
 ·rw[Nk];exact y
 ·rw[MZ];omega
 have tD:ToD F D H2 (upd H2 D (bN D b A ((d.map λz=>(z.1.1,z.2))++[(j,c,v2)]))) I:=by
  refine⟨λa o h n _=>by rw[upd_ne n];exact h,λa h q=>?_,fr.bgA,λb l q=>?_⟩
  ·by_cases z:a=D
   ·subst z;rw[ah]at q;cases q
   ·rw[upd_ne z]at q;exact m.fr.occ a h q
  ·rw[upd_ne (B b l q).1.symm,upd_ne (B b l q).2.symm]
   exact m.fr.bag b l q
 have tt:=tD.tr m.fr hA;refine k σ _ (((t.trans m).toD D).trans tD) (J.tr (i.trans tt)) ⟨A,d++[((j,vv),c,v2)],by rw[NR];rfl,by rw[NR];exact ah,λz h=>?_⟩;rcases OE.mp h with h|h
 ·exact⟨(C z h).1.tr (i.trans tt),Den.tr (i.trans tt) _ _ (C z h).2⟩
 ·cases NU.mp h
  exact⟨kc.tr tt,Den.tr tt _ _ T⟩
theorem uk{F:Fx}{H:Hp}{α:Type}{f:α->D}{g:α->V}:∀{a:List α},(∀z∈a,Den K F H (f z) (g z))->DenL K F H (a.map f) (a.map g)
 |[],_=>DenL.nil
 |z::a,h=>DenL.cons (h z Nb) (uk λx b=>h x (M5 z b))
end
theorem ui{K:NA}{E:St->XK}{kb:Bool}{vars:List NY}{caps:List Nat}{g:TG}{f:M3->TB}{it:FL}{tg:TgF}{tt:Dn->M Bool}{b:FL}(j:cf K g tg)(k:de tg)(l:∀D,dP K (RD K kb) D (f D) b){i:St}{H:Hp}{Q:VK}(h:tV K (f7 vars.length caps it tg tt b (jY kb)) E i H Q):
  kq (λD=>bN D kb 0 []) vars caps (iV K it E) (λD J=>cJ J g (tVT K tt E0) (f D)) i H Q:=by
 refine qp j k l (λF H D=>⟨0,[],rfl,ah,λx a=>NE a (by simp)⟩) (λos d e=>?_) h λF v m D os d fr c n e q=>?_
 ·obtain⟨kvs,s,_⟩:=ul e
  exact⟨kvs,[],by rw[NV];exact s⟩
 ·obtain⟨kvs,s,rfl⟩:=ul e
  obtain⟨ep,o,rfl,r,a⟩:=n;have t:kvs=o.map (·.1):=jL s.2.2.2 (λp u=>by
   obtain⟨z,h,rfl⟩:=Nw.mp u;exact(a z h).1.z) (by rw[←s.1,Nk];rfl)
  refine q _ _ (To.refl fr) ?_;unfold Den;subst t;refine⟨D,ep,_,rfl,⟨c,r⟩,by simp,λx h=>?_,?_⟩
  ·obtain⟨z,h',rfl⟩:=Nw.mp h
   exact(a z h').1
  ·rw[Nk,Nk]
   exact uk λz h=>(a z h).2
section
variable{X:Cx}{E:St->XK}{ke ve target iter:Expr}{ifs:List Expr}{rest:List OT}{scope:Scope}{pos:RN}{Nc vars:List NY}{caps:List Nat}{g:TG}{tb:M3->TB}
theorem GF{kb:Bool}(c:X.calm=M2)(S:CmpScope X scope Nc vars caps)(d:PI X target iter (iV X.K it E))
  (e:∀(cl:List (NY×M3)) (C:M3) (a:List M3) (s:Ng) (H:Hp),PG (aB X Nc scope cl C a s H) target g/\dh (aB X Nc scope cl C a s H) ifs (tVT X.K tt E0)/\∀D,PB (aB X Nc scope cl C a s H) (.D ke ve) (⟨target,iter,ifs,0⟩::rest) scope pos 0 D (tb D))
  (f:cf X.K g tg) (i:de tg) (j:∀D,dP X.K (RD X.K kb) D (tb D) b) (hs:∀x,N5 iter X.env x=Pn x:=by intro _;rfl):
  PE X (.DictComp ke ve (⟨target,iter,ifs,0⟩::rest) scope pos) (tV X.K (f7 vars.length caps it tg tt b (jY kb)) E):=
 (z6 (b:=kb) c S d e hs).imp λk H Q h=>ui f i j h
noncomputable def ge:List D->Option (List Int)
 |[]=>on []
 | .int i::r=>(ge r).map (i::·)
 |_=>MY
def eK:Bool->D->Option KyD
 |false,.tup ds=>(ge ds).map λl=>(0,l)
 |true,.tup [.int i,.tup ds]=>(ge ds).map λl=>(i,l)
 |_,_=>MY
theorem pz:∀(l:List Int),ge (l.map .int)=on l
 |[]=>rfl
 |i::l=>by show(ge (l.map .int)).map _=_;rw[pz l];rfl
theorem tupI_inv:∀{ds:List D} {l:List Int},ge ds=on l->ds=l.map .int
 |[],l,h=>by cases h;rfl
 | .int i::r,l,h=>by
  have h':(ge r).map (i::·)=on l:=h;cases q:ge r with
  |none=>rw[q]at h';cases h'
  |some m=>rw[q]at h';cases h';rw[tupI_inv q];rfl
 | .non::_,_,h=>by cases h
 | .bl _::_,_,h=>by cases h
 | .str _::_,_,h=>by cases h
 | .ty _::_,_,h=>by cases h
 | .txt::_,_,h=>by cases h
 | .lst _::_,_,h=>by cases h
 | .tup _::_,_,h=>by cases h
 | .scr _::_,_,h=>by cases h
 | .obj _ _ _::_,_,h=>by cases h
 | .bag::_,_,h=>by cases h
 | .adr _::_,_,h=>by cases h
 | .dct _ _ _::_,_,h=>by cases h
theorem jo{b:Bool}(h:KyZ b k):eK b (dK b k)=on k:=by
 cases b with
 |true=>show(ge _).map _=_;rw[pz];rfl
 |false=>show(ge _).map _=_;rw[pz];exact Oi on (Qr (h rfl).symm rfl)
theorem jQ{b:Bool}(h:eK b d=on k):KyZ b k/\d=dK b k:=by
 unfold eK at h;split at h
 ·rename_i ds
  cases q:ge ds with
  |none=>rw[q]at h;cases h
  |some l=>rw[q]at h;cases h;exact⟨λ_=>rfl,by rw[tupI_inv q];rfl⟩
 ·rename_i i ds
  cases q:ge ds with
  |none=>rw[q]at h;cases h
  |some l=>rw[q]at h;cases h;exact⟨λz=>(by cases z),by rw[tupI_inv q];rfl⟩
 ·cases h
noncomputable def lkD(ks:List KyD)(vs:List D)(k:KyD):Option D:=((ks.zip vs).find? λp=>decide (p.1=k)).map (·.2)
variable{K:NA}{F:Fx}{H:Hp}
def RelD(K:NA)(F:Fx)(H:Hp):Option D->Option V->Prop
 |none,v=>v=MY
 |some d,v=>∃u,v=on u/\Den K F H d u
theorem oJ:∀{xs:List (KyD×M3×V)} {vs:List D},DenL K F H vs (xs.map (·.2.2))->RelD K F H (lkD (xs.map (·.1)) vs k) (lkV xs k)
 |[],vs,_=>by unfold lkD lkV;rfl
 |x::xs,vs,h=>by
  cases vs with
  |nil=>cases h
  |cons d vs=>
   obtain⟨u,r,e,a,b⟩:=h;rw[Nl,P6]at e;obtain⟨rfl,rfl⟩:=e;have ih:=oJ (k:=k) b;unfold lkD lkV at ih⊢;rw[Nl,Pe,PQ,PQ];by_cases q:x.1=k
   ·rw[NF q];exact⟨_,rfl,a⟩
   ·rw[N8 q];exact ih
def wX:D->D->Option D
 | .dct b ks vs,y=>(eK b y).bind (lkD ks vs)
 |_,_=>MY
theorem wJ:aV K (JH K) wX:=λF H β Q d1 d2 d y A fr h i e k=>by
 unfold wX at e;split at e
 ·rename_i b ks vs
  cases q:eK b d2 with
  |none=>rw[q]at e;cases e
  |some f=>
   rw[q]at e;have j:lkD ks vs f=on d:=e;obtain⟨l,rfl⟩:=jQ q;obtain⟨c,rfl,m⟩:=oN l i;unfold Den at h;obtain⟨a,ep,xs,rfl,n,rfl,o,p⟩:=h;have:=oJ (k:=f) p;rw[j]at this;obtain⟨u,r,t⟩:=this;exact⟨a,b,ep,xs,f,c,u,rfl,rfl,n.2,λx v=>(o x v).s,m.s,r,k u H (To.refl fr) t⟩
 ·cases e
def Mh(K:NA):V->List V->Hp->VK->Prop:=λx ys H Q=>∃a b ep xs k c z,x= .ref a/\ys=[.ref c,z]/\H a=on (bN a b ep xs)/\(∀x∈xs,KyS K H b x.1 x.2.1)/\KyS K H b k c/\Q ((lkV xs k).getD z) H
variable{o e:Expr}{es:List Expr}{apos cpos:RN}
theorem HY(n:X.A.units+2<R5):MtR X "dict.get" (Mh X.K):=by
 intro l s N H x xs v us Q I r t h;obtain⟨a,b,ep,ys,k,c,z,rfl,rfl,u,B,C,q⟩:=h;cases r;obtain⟨O,J,rfl,r1,L⟩:=rn t;cases r1;obtain⟨j,d,p,_,hs⟩:=ig I u B;have f:=i5 (k:=k) p;refine call_meetsIn UK d.typeIs PySem.F.entry_dict_get (PySem.F.args_dict_get_3 _ _ _) (meetsH_dict_get_default (KB X.prog X.w b) a c hs J) ⟨jp n,k,j,lV I C,d,_,H,I.tok _,?_,q⟩;cases m:lkV ys k with
 |none=>
  rw[m]at f;cases i:(Ui j k).map (·.2)with
  |none=>exact L
  |some w=>rw[i]at f;exact f.elim
 |some y=>
  rw[m]at f;cases i:(Ui j k).map (·.2)with
  |none=>rw[i]at f;exact f.elim
  |some w=>rw[i]at f;exact f
def BO(f:FD)(g:FL):FD:=λδ=>M.bind (f δ) λd=>match d with
 | .dct b ks vs=>M.bind (g δ) λas=>M.ofO (match as with
  |[k,z]=>(eK b k).map λk=>(lkD ks vs k).getD z
  |_=>MY)
 |_=>M.fail
theorem L0{g:FL}(hu:X.A.units+2<R5)(ho:PE X o (tV X.K f E))(ha:PA X (e::es) (tVA X.K g E))
  (n:Q4 o "get" X.env (Op o X.env)=Op o X.env:=by rfl)
  (B:((Ps cpos (No (e::es) X.env)).all (λx=>!x.1)&&(Qp cpos (Pf [] X.env)).all (λx=>x.1.isSome)
   &&decide ((e::es).length+([]:List Tx).length+(if([]:List Tx).isEmpty then 0 else 1)<30))=M2:=by rfl)
  (p:(apos.endLine==cpos.line)=M2:=by rfl) (hs:No (e::es) X.env=(M4,Op e X.env)::No es X.env:=by rfl) (m:(Ps cpos (No es X.env)).any (·.1)=M4:=by rfl):
  PE X (.Call (.Attribute o "get" apos) (e::es) [] cpos) (tV X.K (BO f g) E):=by
 intro j s J H Q I h;obtain⟨F,δ,β,fr,vk,h⟩:=h;refine Wv n B p rfl (thn (ho j s J H _ I ⟨F,δ,β,fr,vk,(run.bind (R:=Den X.K F) h)⟩) λv s1 h1=>?_);obtain⟨x,H1,I1,r1,d,β1,t,hd,q1⟩:=h1;have fail:∀{N:M D},N=M.fail->run (Den X.K F) F E J N H1 Q β1->False:=λ{N} e r=>by
  obtain⟨r,β',e',_⟩:=r;rw[e]at e';cases e'
 cases d<;>first|exact(fail rfl q1).elim|skip
 rename_i b ks vs;have C:=hd;unfold Den at C;obtain⟨a,ep,xs,rfl,O,rfl,hk,dl⟩:=C;cases r1;obtain⟨ys,dd,_,_,_⟩:=ig I1 O.2 λx T=>(hk x T).s;refine⟨"dict","dict.get",Uv,UK,PySem.F.type_dict_get,dd.typeIs,λb e=>?_,?_⟩
 ·cases e
  obtain⟨ob,_,_,g1,g2,_⟩:=dd;exact⟨ob,g1,g2.2.1⟩
 have hA:=ha cpos j s1 J H1 _ I1 ⟨F,δ,β1,t.fr,vk.tr (t.tr fr),run.bind (R:=DenL X.K F) q1⟩;rw[hs]at hA⊢;refine SB (by show(M4||(Ps cpos (No es X.env)).any (·.1))=M4;rw[m]<;>rfl) (U6 (thn hA λus s2 h2=>?_))
 obtain⟨ws,L,I2,r2,as,β2,t2,U,q2⟩:=h2;obtain⟨z,y,kf⟩:=run.ofO q2;have tt:=t2.tr t.fr;split at y
 ·rename_i k zz
  cases W:eK b k with
  |none=>rw[W]at y;cases y
  |some i=>
   rw[W]at y;cases y;obtain⟨hz,rfl⟩:=jQ W;obtain⟨w1,Y,rfl,Z,hw2⟩:=DenL.two U;obtain⟨c,rfl,kc⟩:=oN hz Z;have dl2:=DenL.tr tt _ _ dl;have hk2:∀x∈xs,KyS X.K L b x.1 x.2.1:=λx T=>((hk x T).tr tt).s;refine HY hu j s2 J L (.ref a) [.ref c,Y] (.ref a) us Q I2 rfl r2 ⟨a,b,ep,xs,i,c,Y,rfl,rfl,tt.kp a _ O.1 O.2,hk2,kc.s,?_⟩;refine kf _ L (To.refl t2.fr) ?_;show Den X.K F L ((lkD (xs.map (·.1)) vs i).getD zz) ((lkV xs i).getD Y);have l:=oJ (k:=i) dl2;cases q:lkD (xs.map (·.1)) vs i with
   |none=>
    rw[q]at l;have l':lkV xs i=MY:=l;rw[l'];exact hw2
   |some d=>
    rw[q]at l;obtain⟨u,l',hu'⟩:=l;rw[l'];exact hu'
 ·cases y
end
end L2.Pu
namespace L2.Hs
open PySem PySem.Spec PyProof.Rows
section
variable{prog:NQ}{w:N0}{A:Oj}{E:M7->Ng->Prop}{s:Ng}{d it v:M3}{od:NM}{es:Array QV}{ep i:Nat}{ok ov:M7}
theorem w6(a:s.TypeIs (.ref d) "dict")(hd:(d==T1)=M4)(h:Q (.ref s.heap.objs.size) {s with heap:=s.heap.push {cls:= .type "dict_items",data:= .fields #[.ref d]}}):Nn (NL prog w) A (Uj (.builtin "dict.items") [.ref d]) Q E s:=by
 refine N2 F.slot_dict_items a F.entry_dict_items ?_ (F.args_dict_items_1 _);unfold Builtin.«dict.items»;refine My ?_;unfold Builtin.Dict.noArgs;refine My (wpAny_notOrdered_dict a ?_);show Nn _ _ (Pn d) _ _ s;refine M0 ?_;show Nn _ _ (TW d>>=_) _ _ s;unfold TW;rw[M8 (by rw[hd];exact Ni)];exact My (M0 (My (N6 (M0 ⟨_,rfl,h⟩))))
theorem wP(a:s.heap.IsItemsView v d)(e:s.heap.get? d=on od)(hd:od.data= .dict es ep)
  (h:Q (.ref s.heap.objs.size) {s with heap:=s.heap.push {cls:= .type "dict_itemiterator",data:= .fields #[.none,.bool M4,.ref d,.int 0 0,.int es.size 0,.int ep 0,.none,.none]}}):Nn (NL prog w) A (Tp (.ref v)) Q E s:=by
 obtain⟨o,b,f,c⟩:=id a;refine SI a.typeIs VD (N2 VD a.typeIs F.entry_dict_items_iter ?_ (F.args_dict_items_iter_1 _));unfold Builtin.«dict_items.__iter__»;refine My (M0 (My ?_));unfold Builtin.Dict_items.dictOf;refine My (Ov b c (x:= .ref d) rfl (M0 (My ?_)));unfold Builtin.Dict_items.newIterator;refine My (SG e hd (My (UT e hd ?_)));simp only[show QP "dict_itemiterator"=M2 from by decide,N4];refine N6 (M0 ⟨_,rfl,"dict_itemiterator",_,⟨_,Nu _ rfl,rfl⟩,OX.lookup,?_⟩)
  (by simp only[sizeOk,RV,Nv,Ny,Nm,Pq,Ph];omega)
 simpa[Rq,RV]using h
theorem wN(a:Sj s.heap it d i es.size ep ok ov)(h:Q (.ref it) s):Nn (NL prog w) A (Tp (.ref it)) Q E s:=by
 have c:s.TypeIs (.ref it) "dict_itemiterator":=⟨_,a,rfl⟩;refine SI c Ut (N2 Ut c (b:=Builtin.«dict_keyiterator.__iter__») (Vg (id':="dict_keyiterator.__iter__") (by kernel_rfl) rfl (by decide +kernel) (by kernel_rfl)) ?_ (F.args_dict_itemiterator_iter_1 _));show Nn _ _ (ret (.ref it)) _ _ s;exact M0 ⟨_,rfl,"dict_itemiterator",_,c,OX.lookup,h⟩
theorem wO{e:QV}(l:Sj s.heap it d i es.size ep ok ov)(ho:s.heap.get? d=on od)(hd:od.data= .dict es ep)(X:es[i]?=on e)
  (hQ:∀h',IsItemIterOut h' it d (i+1) es.size ep e.key e.val s.heap.objs.size->h'.get? s.heap.objs.size=on {cls:= .type "tuple",data:= .seq #[e.key,e.val]}->h'.objs.size=s.heap.objs.size+1->
   (∀b o,b≠it->s.heap.get? b=on o->h'.get? b=on o)->Q (on (.ref s.heap.objs.size)) {s with heap:=h'}):Nn (NL prog w) A (Rp (.ref it)) Q E s:=by
 obtain⟨m,g,R,T,os⟩:=s;have t:Shared.TypeIs ⟨m,g,R,T,os⟩ (.ref it) "dict_itemiterator":=⟨_,l,rfl⟩;have U:i<es.size:=by
  rcases TK i es.size with h|h
  ·exact h
  ·simp[P8 h]at X
 obtain rfl:es[i]=e:=by rw[RU U]at X;exact NN X
 unfold Rp;refine My (RK (wpAny_callSpecial?_slot (name:=OS "__next__") t OX
  (N2 OX t Ue ?_ (T5 _))))
 refine My (M0 (My (My ?_)))
 first|refine My (Qd t (M0 ?_))|refine My (Q1 t (M0 ?_))
 refine My (Tq l rfl ?_);simp only[show QP "dict_itemiterator"=M2 from by decide,N4];show Nn _ _ (if(NC d==Oh)=M2 then _ else _) _ _ _;rw[M8 (show ¬((NC d==Oh)=M2)from Ni)];refine My (M0 (My (SG ho hd ?_)));rw[M8 (by simp)];refine My (M0 (My (UT ho hd ?_)));rw[M8 (by simp)];refine M0 ?_;simp only[show ¬((i:Int)<0)from by omega,N3,OJ,RU U];refine My ?_
 first|refine My (Qd t (M0 ?_))|refine My (Q1 t (M0 ?_))
 refine My (S4 t ?_);show Nn _ _ (Vl (.ref it) 3 (Rq ((i:Int)+1))>>=_) _ _ ⟨m,g,R,T,os⟩;refine My (OL l (by simp) λh₁ a c=>?_)
 replace c:NP it m h₁:=c
 replace a:Sj h₁ it d (i+1) es.size ep ok ov:=by
  have e:((i+1:Nat):Int)=(i:Int)+1:=by omega
  unfold Sj;rw[e];simpa[Rq]using a
 have k:Shared.TypeIs ⟨h₁,g,R,T,os⟩ (.ref it) "dict_itemiterator":=⟨_,a,rfl⟩;refine My (OB (My (S4 k (My (S4 k ?_)))));show Nn _ _ (Se (.ref it) 6 es[i].key es[i].val) _ _ ⟨h₁,g,R,T,os⟩;unfold Se;refine My (Vn ?_);have f:Sj (h₁.push {cls:= .type "tuple",data:= .seq #[es[i].key,es[i].val]}) it d (i+1) es.size ep ok ov:=M1 _ a;have j:h₁.objs.size=m.objs.size:=c.1;have Y:it≠m.objs.size:=Od (NI l);have u:(h₁.push {cls:= .type "tuple",data:= .seq #[es[i].key,es[i].val]}).get? m.objs.size=on {cls:= .type "tuple",data:= .seq #[es[i].key,es[i].val]}:=by rw[←j];exact Nu _ rfl
 have y:(h₁.push {cls:= .type "tuple",data:= .seq #[es[i].key,es[i].val]}).objs.size=m.objs.size+1:=by rw[OP,j]
 have B:∀b o,b≠it->m.get? b=on o->(h₁.push {cls:= .type "tuple",data:= .seq #[es[i].key,es[i].val]}).get? b=on o:=λb o W e=>M1 _ (c.extBut b o W e);generalize h₁.push {cls:= .type "tuple",data:= .seq #[es[i].key,es[i].val]}=h₂ at*;show Nn _ _ (RW (.ref it)>>=_) _ _ ⟨h₂,g,R,T,os⟩;rw[j];refine My ?_;unfold RW;refine My (Ov f rfl (x:= .none) rfl (M0 ?_));simp only[N4];refine My (Ov f rfl (x:=ok) rfl (My (Ov f rfl (x:=ov) rfl ?_)));refine My (OL f (by simp) λn C F=>?_);refine My (OL C (by simp) λp H I=>?_);refine My (OL H (by simp) λq J L=>?_);refine My (OL J (by simp) λr N O=>?_);have Z:=((show NP it h₂ n from F).trans (show NP it n p from I)).trans ((show NP it p q from L).trans (show NP it q r from O));exact My (Ts (M0 (M0 ⟨_,rfl,M0 (hQ r N (Z.extBut _ _ Y.symm u) (by rw[Z.1,y]) λb o W e=>Z.extBut b o W (B b o W e))⟩)))
theorem yI(g:A.handled=MY)(c:Sj s.heap it d i es.size ep ok ov)(f:s.heap.get? d=on od)(hd:od.data= .dict es ep)(h:es.size<=i)
  (j:∀h',TX it s.heap h'->Q MY {s with heap:=h'}):Nn (NL prog w) A (Rp (.ref it)) Q E s:=by
 have e:s.TypeIs (.ref it) "dict_itemiterator":=⟨_,c,rfl⟩;unfold Rp;refine My (RK (wpAny_callSpecial?_slot (name:=OS "__next__") e OX
  (N2 OX e Ue ?_ (T5 _))))
 refine My (M0 (My (My ?_)))
 first|refine My (Qd e (M0 ?_))|refine My (Q1 e (M0 ?_))
 refine My (Tq c rfl ?_);simp only[show QP "dict_itemiterator"=M2 from by decide,N4];show Nn _ _ (if(NC d==Oh)=M2 then _ else _) _ _ s;rw[M8 (show ¬((NC d==Oh)=M2)from Ni)];refine My (M0 (My (SG f hd ?_)));rw[M8 (by simp)];refine My (M0 (My (UT f hd ?_)));rw[M8 (by simp)];refine M0 ?_;simp only[show ¬((i:Int)<0)from by omega,N3,OJ,P8 h];refine My ?_
 first|refine My (Qd e (M0 ?_))|refine My (Q1 e (M0 ?_))
 show Nn _ _ (Vl (.ref it) 2 .none>>=_) _ _ s;refine My (Rr c rfl (by simp) ?_);show Nn _ _ (Wt (.type "StopIteration") []>>=_) _ _ _;refine My ?_;simp only[Wt,newTuple];refine My (N6 ?_ (by size_fits));refine My (m:=Rm _ _) (QN (a:=Oh) (by first|rfl|(simp only[Rm];rfl)) ?_)
 refine N6 ?_ (by size_fits);simp only[raiseNew];refine My (VV ?_);rw[show A.in1.handled=MY from g];refine My (M0 (wpAny_throw ?_));refine My (PL (T:="StopIteration") (b:=M2) ⟨_,Nu _ rfl,rfl⟩ Vi ?_);exact M0 (j _ (((OO ..).extBut.push _).push _))
end
end L2.Hs
namespace L2.Pu
open PySem PySem.Spec PyProof.Rows L2.Hs
noncomputable def Iti(a:M3)(ep n:Nat):It:=
 ⟨λi H=>∃b xs,H a=on (bN a b ep xs)/\xs.length=n/\i<n,
  λi H v c=>∃p x,H p=MY/\v= .ref p/\c=upd H p (.tup [.ref x.1,x.2])/\∀b xs,H a=on (bN a b ep xs)->(xs[i]?).map (·.2)=on x,
  λi H=>∃b xs,H a=on (bN a b ep xs)/\xs.length=n/\i=n⟩
theorem EE:∀{xs:List (KyD×M3×V)} {ys:List (KyD×M3×M7)} {i:Nat} {y:KyD×M3×M7},Sk XY xs ys->ys[i]?=on y->∃x,xs[i]?=on x/\XY x y
 |_,_,0,_,.cons h t,e=>by cases e;exact⟨_,rfl,h⟩
 |_,_,i+1,_,.cons h t,e=>EE (i:=i) t e
 |_,_,0,_,.nil,e=>by cases e
 |_,_,_+1,_,.nil,e=>by cases e
section
variable{X:Cx}{pins:List (M3×NM)}{σ:St}{H:Hp}{s:Ng}{a:M3}{b:Bool}{ep i:Nat}{xs:List (KyD×M3×V)}
theorem o5(I:Inv X pins σ H s)(h:H a=on (bN a b ep xs)):∃(o:NM) (es:Array QV),s.heap.get? a=on o/\o.data= .dict es ep/\es.size=xs.length/\o.ExactDict/\(a==T1)=M4/\∀(i:Nat) (e:QV),es[i]?=on e->∃x,xs[i]?=on x/\e.key= .ref x.2.1/\aF x.2.2 e.val:=by
 obtain⟨o,es,ys,j,k,l,d,u,m,v,g⟩:xg a b ep xs s.heap:=(I.hok a _ h).1;have n:ys.length=xs.length:=by rw[←MZ (f:=(·.1)),←iZ g,MZ]
 refine⟨o,es,j,l,by rw[←NS,d,MZ,n],k,m,λi e c=>?_⟩;rw[←Qh,d,M9]at c;cases q:ys[i]? with
 |none=>rw[q]at c;cases c
 |some y=>
  rw[q]at c;cases c;obtain⟨x,p,_,r,t⟩:=EE g q;exact⟨x,p,by rw[r],t⟩
theorem vX{P:NQ}{w:N0}{K:NA}{x1}(a it:M3)(n ep:Nat):
  Turn P w K (.Tuple elts x1 pos) (Iti a ep n) [it] it (λi h=>∃ok d,Sj h it a i n ep ok d) where
 mem:=by simp
 obj:=λi h st b c=>by
  obtain⟨ok,d,e⟩:=st;cases NU.mp c;exact⟨_,e,λv q=>by cases q⟩
 keep:=λi h h' st k=>by
  obtain⟨ok,d,e⟩:=st;exact⟨ok,d,k it (by simp) _ e⟩
 item:=by
  intro X m p r J i pins s σ H E I f st t;subst m p r;obtain⟨ok,d,e⟩:=st;obtain⟨b,xs,A,W,L⟩:=t;obtain⟨o,es,g,j,Y,h4,h5,Z⟩:=o5 I A;have hn:n=es.size:=by omega
  subst hn;have B:es[i]?=on es[i]:=RU L;refine wO e g j B λh' io gt sz kp=>⟨_,rfl,wpAny_letOwnedTupleGo_items (s:={s with heap:=h'}) io λC ei N=>?_⟩;obtain⟨x,ex,O,Q⟩:=Z i _ B;have R:s.heap.objs.size≠it:=Qc (NI e);have I2:Inv X pins σ (upd H s.heap.objs.size (.tup [.ref x.2.1,x.2.2])) {s with heap:=C,toks:=s.toks}:=
   Inv.turnNew I f (λb u c q=>N.extBut b u (λz=>c (by rw[z];simp)) (kp b u (λz=>c (by rw[z];simp)) q)) (Nh _) ⟨by show 2<=Nr;decide,[es[i].key,es[i].val],.cons O (.cons Q .nil),_,N.extBut _ _ R gt,rfl,_,rfl⟩
  refine⟨.ref s.heap.objs.size,_,I2,rfl,⟨s.heap.objs.size,x.2,I.hok.fresh (Nh _),rfl,rfl,λb' xs' F=>?_⟩,⟨_,_,ei⟩,λb c=>?_⟩
  ·obtain⟨o',es',T,U,_,_,_,g6⟩:=o5 I F
   rw[g]at T;cases T;rw[j]at U;cases U;obtain⟨y,ey,l,fv⟩:=g6 i _ B;rw[ey];rw[O]at l
   injection l with l
   exact Oi on (Qr l.symm (aF.inj fv Q))
  ·cases NU.mp c
   rw[upd_ne R.symm];exact(f _ c).1
 done:=by
  intro X m p r J i pins s σ H E I f st t;subst m p r;obtain⟨ok,d,e⟩:=st;obtain⟨b,xs,A,W,L⟩:=t;obtain⟨o,es,g,j,Y,_⟩:=o5 I A;have hn:n=es.size:=by omega
  subst hn;refine yI (I.ok.hd J) e g j (by omega) λh' kp=>⟨rfl,Inv.turnL (t':=s.toks) I f λb o c q=>kp b o (λz=>c (by rw[z];simp)) q⟩
 self:=λ_ _ _ _ _ st h=>by
  obtain⟨ok,d,e⟩:=st;exact wN (es:=(Nx n (⟨0,.none,.none⟩:QV)).toArray) (by rw[Nv,ON];exact e) h
variable{E:St->XK}{K:NA}{o:Expr}{apos cpos tpos:RN}{elts:List Expr}{x1:Nat}
def iItm(to:TE):TI:=λσ H R=>to σ H λx c=>∃a b ep xs,x= .ref a/\c a=on (bN a b ep xs)/\R (Iti a ep xs.length) c
theorem zX(p:PE X o to)(c:Q4 o "items" X.env (Op o X.env)=Op o X.env:=by rfl)(d:(apos.endLine==cpos.line)=M2:=by rfl):PI X (.Tuple elts x1 tpos) (.Call (.Attribute o "items" apos) [] [] cpos) (iItm to):=by
 intro pins s σ H R I h;refine wpAny_Call_method0_late c d (thn (p pins s σ H _ I h) λv f g=>?_);obtain⟨x,m,n,r1,a,b,ep,xs,rfl,r,q⟩:=g;cases r1;obtain⟨j,es,g,t,u,k,y,_⟩:=o5 n r;refine⟨"dict","dict.items",Uv,PySem.F.slot_dict_items,PySem.F.type_dict_items,⟨j,g,k.1⟩,λb e=>?_,?_⟩
 ·cases e;exact⟨j,g,k.2.1⟩
 refine SB rfl (PySem.evalArgs_none (w6 ⟨j,g,k.1⟩ y ?_));have l:Inv X pins σ m {f with heap:=f.heap.push {cls:= .type "dict_items",data:= .fields #[.ref a]},toks:=f.toks}:=n.kept λb o e=>M1 _ e;refine wP (s:={f with heap:=f.heap.push {cls:= .type "dict_items",data:= .fields #[.ref a]}}) ⟨_,Nu _ rfl,rfl,rfl⟩ (M1 _ g) t ?_;rw[u];exact⟨_,[_],_,_,m,rfl,l.kept (t':=f.toks) λb o e=>M1 _ e,vX a _ _ ep,⟨_,_,Nu _ rfl⟩,λb A=>by
  cases NU.mp A;exact l.fpOk (Nh _) (l.hok.fresh (Nh _)),q⟩
def itmD:D->Option (List D)
 | .dct b ks vs=>on (RH (λk v=> .tup [dK b k,v]) ks vs)
 |_=>MY
theorem yJ{F:Fx}{H:Hp}{b:Bool}{a:M3}{ep:Nat}{xs:List (KyD×M3×V)}(C:¬F.A a)(I:H a=on (bN a b ep xs))(g:ks=xs.map (·.1))(J:∀x∈xs,dZ K F H b x.1 x.2.1)(h:DenL K F H vs (xs.map (·.2.2))):ItD K (Iti a ep xs.length) F H (RH (λk v=> .tup [dK b k,v]) ks vs):=λT j β2 t fr i=>by
 have L:vs.length=xs.length:=by rw[h.length,MZ]
 have N:ks.length=xs.length:=by rw[g,MZ]
 have c:=t.kp a _ C I;refine⟨λd hd=>?_,λe=>⟨b,xs,c,rfl,by rw[e,VI,N,L,Nat.min_self]⟩⟩;have e:i<xs.length:=by
  have:=(Nj.mp hd).1;rw[VI]at this;omega
 refine⟨⟨b,xs,c,rfl,e⟩,λy U O=>?_⟩;obtain⟨p,x,l,rfl,rfl,Q⟩:=O;have m:=Q b xs c;rw[M6 e]at m;have f:xs[i].2=x:=NN m;subst f;have n:bv j (upd j p (.tup [.ref xs[i].2.1,xs[i].2.2])):=bv.upd l;obtain⟨v,q⟩:∃v,vs[i]?=on v:=⟨_,M6 (by omega)⟩;have R:ks[i]?=on xs[i].1:=by rw[g,M9,M6 e];rfl
 rw[List.getElem?_zipWith,R,q]at hd;cases hd;have d2:=DenL.tr t _ _ h;obtain⟨u,r,du⟩:=d2.get q;rw[M9,M6 e]at r;cases r;have B:=(fr.same n).tr fr;exact⟨n,nR (.inl ⟨fr.fresh l,.inl ah⟩) (DenL.cons (Den.tr B _ _ (Ms ((J _ (Oa e)).tr t))) (DenL.cons (Den.tr B _ _ du) DenL.nil))⟩
def nItm(f:FD):FL:=λδ=>M.bind (f δ) λd=>M.ofO (itmD d)
theorem vp(m:PE X o (tV X.K f E))(c:Q4 o "items" X.env (Op o X.env)=Op o X.env:=by rfl)(g:(apos.endLine==cpos.line)=M2:=by rfl):PI X (.Tuple elts x1 tpos) (.Call (.Attribute o "items" apos) [] [] cpos) (iV X.K (nItm f) E):=
 (zX m c g).imp λσ H R j=>ex6 j λF δ β fr n h=>⟨F,δ,β,fr,n,(run.bind (R:=Den X.K F) h).mono λv p j=>by
  obtain⟨d,β1,t,hd,r1⟩:=j;obtain⟨ds,e,k⟩:=run.ofO r1;cases d<;>first|(cases e;done)|skip
  cases e;unfold Den at hd;obtain⟨a,ep,xs,rfl,l,q,r,u⟩:=hd;exact⟨a,_,ep,xs,rfl,l.2,k _ p (To.refl t.fr) (yJ l.1 l.2 q r u)⟩⟩
end
end L2.Pu
namespace L2.Hs
open PySem PySem.Spec PyProof.Rows
theorem vb:mroOf (.type "reversed")=Pn [.type "reversed",.type "object"]:=by rw[mroOf_type];kernel_rfl
theorem AO:typeLookup (.type "reversed") "__new__"=Pn (on (.builtin "reversed.__new__")):=by rw[US,Td];kernel_rfl
theorem AJ:Bind.madeBy (.type "reversed")=Pn (on "reversed.__new__"):=madeBy_type vb AO (by decide +kernel)
theorem GN:isSubtype (.type "reversed") (.type "reversed")=Pn M2:=by rw[Ss];kernel_rfl
theorem zI:isSubtype (.type "range_iterator") (.type "reversed")=Pn M4:=by rw[Ss];kernel_rfl
theorem IR:entryFor table "reversed.__new__"=on Builtin.«reversed.__new__»:=entryFor_of_tree (by kernel_rfl)
section
variable{prog:NQ}{w:N0}{A:Oj}{E:M7->Ng->Prop}{s:Ng}
theorem BS(a:IsRange s.heap r 0 n 1 t u v)(j:0<=n)(g:n<2^62)
  (h:Q (.ref s.heap.objs.size) {s with heap:=s.heap.push {cls:= .type "range_iterator",data:= .fields #[Rq (n-1),Rq n,Rq (-1)]}}):Nn (NL prog w) A (Uj (.type "reversed") [.ref r]) Q E s:=by
 refine wpAny_call (codeAny_of_tree ?_);show Nn _ _ (callAny (.type "reversed") _) _ _ _;refine M0 ⟨Code.quiet_builtin _ (by decide +kernel),UR F.entry_type_call ?_⟩;rw[Around.under_plain (weight_type_call_type "reversed" [.ref r] []) (units_type_call_type "reversed" [.ref r] [])];have g:(PZ "reversed"==PZ "type")=M4:=by decide +kernel
 have k:((V1 "reversed").bind (·.mro.findSome? λt=>(V1 t).bind λb=>if b.noNew then on M2 else if b.attrs.any (·.1=="__new__")then on M4 else MY)).getD M4=M4:=by decide +kernel
 have e:=vb;have c:=AJ;have i:checkTypeCall "reversed" ⟨[.ref r],[]⟩=Pn ():=by kernel_rfl
 repeat (any_goals (first|assumption|wp_step))
 refine codeAny_call_builtin (by decide +kernel) IR (QN (show checkBuiltinCall "reversed.__new__" ⟨[.type "reversed",.ref r],[]⟩=Pn () by kernel_rfl) ?_);have f:s.TypeIs (.ref r) "range":=⟨_,a,rfl⟩;unfold Builtin.«reversed.__new__»
 repeat (any_goals (first|assumption|wp_step))
 refine QN GN (M0 ?_);refine My (m:=R7 _ _ _) ?_;refine QN (show R7 "reversed" (PZ "reversed") ⟨[.type "reversed",.ref r],[]⟩=Pn ()from rfl) ?_;refine My (m:=checkCount "reversed" 1 1 _) (M0 ?_);show Nn _ _ (specialOf (.ref r) (OS "__reversed__")>>=_) _ _ s;refine My (P0 f F.slot_range_reversed.lookup ?_);show Nn _ _ (bindSpecial (.builtin "range.__reversed__") (.ref r)>>=_) _ _ s;refine My (QN (F.slot_range_reversed.bind _) ?_);show Nn _ _ (rule "reversed.__new__.own-method">>=_) _ _ s;refine My (QO (My (wpAny_runValue (codeAny_call_builtin F.slot_range_reversed.plain F.entry_range_reversed (F.slot_range_reversed.check _ _ _ _ _ _ _ _ f (F.args_range_reversed_1 _) ?_)))));unfold Builtin.«range.__reversed__»;refine My (m:=selfOnly "range.__reversed__" _) (M0 (My ?_));unfold Builtin.Range.rangeFields;refine My (Ov a rfl (x:= .int 0 t) rfl (My (m:=asInt? _) (M0 ?_)));refine My (Ov a rfl (x:= .int n u) rfl (My (m:=asInt? _) (M0 ?_)));refine My (Ov a rfl (x:= .int 1 v) rfl (My (m:=asInt? _) (M0 (M0 ?_))));have hn:Tw 0 n 1=n:=by rw[rangeSize_one];split<;>omega
 simp only[hn];have d:(Os 0&&Os n&&Os 1&&Os (-1)&&Os (0-1)&&Os n)=M2:=by
  have:Os n=M2:=by unfold Os;simp;omega
  rw[this];decide
 simp only[d,N4,OI,Np,N3];rw[show(0:Int)+(n-1)*1=n-1 by omega];refine My (N6 (M0 (M0 ?_)));exact My (PL (T:="range_iterator") (b:=M4) ⟨_,Nu _ rfl,rfl⟩ zI (My (QO (M0 h))))
end
end L2.Hs
namespace L2.Pu
open PySem PySem.Spec PyProof.Rows L2.Hs
noncomputable def Itd(n:Nat):It:=⟨λi _=>i<n,λi H v a=>v= .int ((n:Int)-1-i)/\a=H,λi _=>n<=i⟩
theorem uy{P:NQ}{w:N0}{K:NA}(it:M3)(n:Nat):Turn P w K tg (Itd n) [it] it (λi h=>UH h it ((n:Int)-1+(i:Nat)*-1) ((n:Int)-(i:Nat)) (-1)) where
 mem:=by simp
 obj:=λi h st b c=>by
  cases NU.mp c;exact⟨_,st,λv z=>by
   have C:Data.fields _=Data.cell v:=z;cases C⟩
 keep:=λi h h' st k=>k it (by simp) _ st
 item:=by
  intro X g j l m i a s A H E I f st p;subst g j l;obtain⟨q,f1,f2,r,u,y⟩:=f it (by simp);refine(Walks.range (prog:=X.prog) (w:=X.w) (I.ok.hd m) it ((n:Int)-1) (-1) n).item i s _ _ p st λv h' B F d J=>?_;obtain⟨t,rfl⟩:=F;have L:Inv X a A H {s with heap:=h',toks:=B}:=I.turned (λb o c e=>J b o (by simpa using c) e) q f1 r u y;exact⟨_,rfl,rP (s:={s with heap:=h',toks:=B}) (n:="range_iterator") d rfl rfl (by decide) ⟨.int ((n:Int)-1-i),H,L,⟨t,by rw[show(n:Int)-1+(i:Int)*-1=(n:Int)-1-i by omega]⟩,⟨rfl,rfl⟩,d,λb c=>(f b c).1⟩⟩
 done:=by
  intro X g j l m i a s A H E I f st p;subst g j l;obtain⟨q,f1,f2,r,u,y⟩:=f it (by simp);exact Ww (I.ok.hd m) st (by have:n<=i:=p;omega) λh' N=>⟨rfl,I.turned (t':=s.toks) (λb o c e=>N b o c e) q f1 r u y⟩
 self:=λ_ _ _ _ _ st h=>S5 st h
section
variable{X:Cx}{E:St->XK}{K:NA}{tg:Expr}
def MO(a:TA):TI:=λb H R=>a b H λvs c=>∃j:Int,vs=[.int j]/\0<=j/\j<2^62/\R (Itd j.toNat) c
theorem yd(f:Gl X "reversed")(g:X.mg "reversed"=MY)(n:Gl X "range")(hm:X.mg "range"=MY)(ha:PA X [a] ta)(hs:No [a] X.env=[(M4,Op a X.env)]:=by rfl)
  (i:No [.Call (.Name "range" p) [a] [] pos] X.env=[(M4,Op (.Call (.Name "range" p) [a] [] pos) X.env)]:=by rfl):PI X tg (.Call (.Name "reversed" p2) [.Call (.Name "range" p) [a] [] pos] [] pos2) (MO ta):=by
 intro c s l H R I h;refine Call_ (eX I f g PyProof.Rows.Boot.«reversed» (OK ?_ i rfl));refine VB (Call_ (eX I n hm boot_range (OK (thn (ha pos c s l H _ I h) λus d r=>?_) hs rfl)));obtain⟨vs,m,v,r1,j,rfl,q1,q2,q⟩:=r;obtain⟨u,rfl,t,rfl⟩:=im r1;refine call_range_1 (VX (BS (IsRange.new ..) q1 q2 (S5 (x:=j-1) (left:=j) (step:=-1) (Nu _ rfl) ?_)));have k:Inv X c l m {d with heap:=d.heap.push {cls:= .type "range",data:= .fields #[.int 0 d.toks,.int j t,.int 1 (d.toks+1)]},toks:=d.toks+1+1}:=v.kept λb o e=>M1 _ e;refine⟨_,[_],_,_,m,rfl,k.kept (t':=d.toks+1+1) λb o e=>M1 _ e,uy _ j.toNat,?_,λb y=>?_,q⟩
 ·show UH _ _ (((j.toNat:Nat):Int)-1+((0:Nat):Int)*-1) (((j.toNat:Nat):Int)-((0:Nat):Int)) (-1)
  rw[show((j.toNat:Nat):Int)-1+((0:Nat):Int)*-1=j-1 by omega,show((j.toNat:Nat):Int)-((0:Nat):Int)=j by omega];exact Nu _ rfl
 ·cases NU.mp y
  exact k.fpOk (Nh _) (k.hok.fresh (Nh _))
noncomputable def gC(n:Nat):List D:=(Nd n).map λ(i:Nat)=> .int ((n:Int)-1-i)
theorem wQ:ItD K (Itd n) F H (gC n):=λe f β2 t fr i=>by
 refine⟨λd hd=>?_,λa=>?_⟩
 ·unfold gC at hd
  have a:i<n:=by
   have:=(Nj.mp hd).1;simpa using this
  rw[M9,Oq a]at hd;cases hd;exact⟨a,λx g ⟨b,c⟩=>by subst b c;exact⟨bv.refl _,rfl⟩⟩
 ·show n<=i
  rw[a];simp[gC]
def rC:List D->Option (List D)
 |[.int j]=>if(decide (0<=j)&&decide (j<2^62))=M2 then on (gC j.toNat)else MY
 |_=>MY
theorem BH(b:Gl X "reversed")(c:X.mg "reversed"=MY)(j:Gl X "range")(hm:X.mg "range"=MY)(ha:PA X [a] (tVA X.K g E))(hs:No [a] X.env=[(M4,Op a X.env)]:=by rfl)
  (d:No [.Call (.Name "range" p) [a] [] pos] X.env=[(M4,Op (.Call (.Name "range" p) [a] [] pos) X.env)]:=by rfl):PI X tg (.Call (.Name "reversed" p2) [.Call (.Name "range" p) [a] [] pos] [] pos2) (iV X.K (bG rC g) E):=
 (yd b c j hm ha hs d).imp λq H R f=>ex6 f λF δ β fr m h=>⟨F,δ,β,fr,m,(run.bind (R:=DenL X.K F) h).mono λvs n f=>by
  obtain⟨ds,β1,t,hd,r1⟩:=f;obtain⟨l,e,k⟩:=run.ofO r1;unfold rC at e;split at e
  ·split at e
   ·rename_i i
    cases e;simp only[NO,NZ]at i;obtain⟨v,rfl,o⟩:=DenL.one hd;cases o.int;exact⟨_,rfl,i.1,i.2,k _ n (To.refl t.fr) wQ⟩
   ·cases e
  ·cases e⟩
variable{e m:Expr}{te tm:TE}{pos p2:RN}
theorem zV(a:List M7):Wf a.toArray MY MY (on (-1))=a.reverse.toArray:=by
 have b:QL MY MY (on (-1)) a.toArray.size=((a.length:Int)-1,-1,-1):=by simp[QL]
 unfold Wf;rw[b];refine Oi _ ?_;have c:sliceRange ((a.length:Int)-1) (-1) (-1)=(Nd a.length).map λk=>a.length-1-k:=by
  unfold sliceRange;have d:(if(-1:Int)>0 then(if(a.length:Int)-1< -1 then(-1-((a.length:Int)-1)+-1-1)/ -1 else 0)else(if(a.length:Int)-1>-1 then((a.length:Int)-1- -1- -1-1)/(- -1)else 0)).toNat=a.length:=by
   rw[M8 (by decide)];split
   ·rw[show(- -1:Int)=1 by decide,Int.ediv_one];omega
   ·omega
  simp only[d];exact NT λk _=>by omega
 show(sliceRange ((a.length:Int)-1) (-1) (-1)).filterMap _=_;rw[c,VY];rcases a with _|⟨x,r⟩
 ·rfl
 generalize j:x::r=a;rw[ua (g:=λk=>a.getD (a.length-1-k) x) λk f=>by
  have:k<a.length:=Nz.mp f;simp only[RQ,SQ];rw[Na,M6 (by omega)];rfl]
 refine Qy (by simp) λi h l=>?_;have n:i<a.length:=by simpa using h
 rw[Qz,QZ,Vt,Na,M6 (by omega)];rfl
def tRev(K:NA)(te tm:TE):TE:=λc H Q=>te c H λx d=>tm c d λy b=>∃a xs,x= .ref a/\y= .int (-1)/\SqL K b a xs/\∀p,b p=MY->Q (.ref p) (upd b p (.lst xs.reverse))
theorem JS(l:PE X e te)(hm:PE X m tm):PE X (.Subscript e (.Slice MY MY (on m) p2) pos) (tRev X.K te tm):=by
 intro c s f H Q I h;refine Subscript_ (thn (l c s f H _ I h) λv n o=>?_);obtain⟨x,p,r,r1,q1⟩:=o;refine wpAny_Slice ?_;rw[VR];refine M0 (M0 ?_);rw[evalPart_some];refine thn (hm c n f p _ r q1) λu d B=>?_;obtain⟨y,C,g,F,a,xs,rfl,rfl,sq,q⟩:=B;cases r1;obtain⟨t,rfl⟩:=F;obtain⟨its,i,pl,j⟩:=g.list sq;have k:Inv X c f C {d with heap:=d.heap.push {cls:= .type "slice",data:= .fields #[.none,.none,.int (-1) t]}}:=g.kept (t':=d.toks) λb J q=>M1 _ q;show Nn (NL X.prog X.w) X.A (VT e (.Slice MY MY (on m) p2) (.ref a) (.ref d.heap.objs.size)) (EP X c f Q) X.xe {d with heap:=d.heap.push {cls:= .type "slice",data:= .fields #[.none,.none,.int (-1) t]}};refine tail_any (ops:=[.ref a,.ref d.heap.objs.size]) (pl.isList.push _).typeIs slot_list_getitem.lookup (VU (pl.isList.push _) (T6 ..) .none .none (.int (-1) t) (by simp) ?_ (by rw[Nv,←i.length];exact j)) (by with_unfolding_all rfl)
 rw[zV];exact⟨.ref _,_,k.lnew (t':=d.toks) (its:=its.reverse) (ys:=xs.reverse) i.reverse (by rw[VH];exact j),rfl,q _ (k.hok.fresh (Nh _))⟩
noncomputable def JE:D->D->Option D
 | .lst ds,.int (-1)=>on (.lst ds.reverse)
 |_,_=>MY
theorem DenL.reverse:∀{ds:List D} {xs:List V},DenL K F H ds xs->DenL K F H ds.reverse xs.reverse
 |[],xs,h=>by have q:xs=[]:=h;subst q;exact DenL.nil
 |d::ds,xs,h=>by
  obtain⟨x,r,rfl,a,b⟩:=h;rw[R9,R9];exact DenL.append (DenL.reverse b) (DenL.cons a DenL.nil)
theorem LX(o:PE X e (tV X.K f E))(hm:PE X m (tV X.K g E)):PE X (.Subscript e (.Slice MY MY (on m) p2) pos) (tV X.K (f2 JE f g) E):=
 (JS o hm).imp λu H Q b=>ex6 b λF δ β fr l h=>⟨F,δ,β,fr,l,(run.bind (R:=Den X.K F) h).mono λv y b=>ex5 b λd β1 t hd r1=>⟨F,δ,β1,t.fr,l.tr (t.tr fr),(run.bind (R:=Den X.K F) r1).mono λA B b=>ex5 b λd2 β2 i j q=>by
  obtain⟨z,c,k⟩:=run.ofO q;unfold JE at c;split at c
  ·cases c
   obtain⟨a,xs,rfl,sq,r⟩:=Den.sqL (Den.tr (i.tr t.fr) _ _ hd);cases j.int;exact⟨a,xs,rfl,rfl,sq,λp n=>k _ _ (i.fr.upd _ n) (Den.newL i.fr n (DenL.reverse r))⟩
  ·cases c⟩⟩
end
end L2.Pu
namespace L2.Pu
open PySem
theorem hu2{A:Oj}(a:Room k A):A.units+2<R5:=Pi (V2 (by decide:2<=64) _) a.units
open PySem.Spec PyProof.Rows L2.Hs
section
variable{X:Cx}{E:St->XK}{ke ve target iter:Expr}{ifs:List Expr}{rest:List OT}{scope:Scope}{pos:RN}{Nc vars:List NY}{caps:List Nat}{g:TG}{tb:M3->TB}
theorem HF{kb:Bool}{b d:RN}(y:X.N.Nodup)(k:X.N[i]?=on x)(B:Loc X.env.scope x)(F:X.calm=M2)(S:CmpScope X scope Nc vars caps)(L:PI X target iter wi)
  (O:∀(cl:List (NY×M3)) (C:M3) (j:List M3) (s:Ng) (H:Hp),PG (aB X Nc scope cl C j s H) target g/\dh (aB X Nc scope cl C j s H) ifs tt/\∀D,PB (aB X Nc scope cl C j s H) (.D ke ve) (⟨target,iter,ifs,0⟩::rest) scope pos 0 D (tb D))
  (l:RE (.DictComp ke ve (⟨target,iter,ifs,0⟩::rest) scope pos) (on (.Name x b)) d.line X.env=Pn M2:=by rfl)
  (hs:∀x,N5 iter X.env x=Pn x:=by intro _;rfl) (R:X.fn x=M2\/X.env.scope.names.lookup x=on .local:=by first|exact .inl rfl|exact .inr rfl|assumption):
  PS X (.Assign [.Name x b] (.DictComp ke ve (⟨target,iter,ifs,0⟩::rest) scope pos) d) (gi (kq (λD=>bN D kb 0 []) vars caps wi λD J=>cJ J g tt (tb D)) (dH i)):=by
 intro f s U H D I h;rw[exec_Assign_Name_used _ _ _ _ l];refine My (Pp (My ?_));show Nn _ X.A (do let _ ←comprehension (.DictComp ke ve (⟨target,iter,ifs,0⟩::rest) scope pos) scope X.env _ newDict M4 (Op iter X.env) (on (R0 (.Name x b) X.env))) _ _ s
 refine My (Oe (P7 (use:=on (R0 (.Name x b) X.env)) (Q:=λ_ s'=>SP X f D .next s') rfl hs (S.clo I.ok) S.kind S.loc
  (Oe (L f s U H _ I h) (λv s1 W=>Oe W (λY Z n=>?_) λ_ _ e=>e) λ_ _ e=>e)) (λ_ s' hq=>M0 (M0 hq)) λ_ _ e=>e)
 obtain⟨it,j,tn,J,H2,e,o,T,p,f2,q⟩:=n;subst e;refine f9 (c:= .D ke ve) m9 (RR:=λacc C=>Vf (NL X.prog X.w) X.A X.xe (on (R0 (.Name x b) X.env)) _ acc C) F S O o T p f2 q λA C s' H' m I' ns r q'=>?_;show Nn _ X.A (R0 (.Name x b) X.env (.ref A)) _ _ s';refine Uq (kt I' y k B (v:= .ref A) rfl (λZ o n=>?_) R);obtain⟨a,sb,ha⟩:=n;have t:C≠a:=by
  rcases ha with rfl|ha
  ·exact r.2.1
  ·exact λz=>r.2.2.2.1 x a ha z.symm
 exact⟨m,ns.sameBut sb t,λh' u=>⟨_,H',o.letgo r u,q'⟩⟩
theorem xT{kb:Bool}{a c:RN}(j:X.N.Nodup)(d:X.N[i]?=on x)(k:Loc X.env.scope x)(l:X.calm=M2)(S:CmpScope X scope Nc vars caps)(m:PI X target iter (iV X.K it E))
  (n:∀(cl:List (NY×M3)) (C:M3) (f:List M3) (s:Ng) (H:Hp),PG (aB X Nc scope cl C f s H) target g/\dh (aB X Nc scope cl C f s H) ifs (tVT X.K tt E0)/\∀D,PB (aB X Nc scope cl C f s H) (.D ke ve) (⟨target,iter,ifs,0⟩::rest) scope pos 0 D (tb D))
  (o:cf X.K g tg) (p:de tg) (q:∀D,dP X.K (RD X.K kb) D (tb D) b)
  (e:RE (.DictComp ke ve (⟨target,iter,ifs,0⟩::rest) scope pos) (on (.Name x a)) c.line X.env=Pn M2:=by rfl)
  (hs:∀x,N5 iter X.env x=Pn x:=by intro _;rfl) (r:X.fn x=M2\/X.env.scope.names.lookup x=on .local:=by first|exact .inl rfl|exact .inr rfl|assumption):
  PS X (.Assign [.Name x a] (.DictComp ke ve (⟨target,iter,ifs,0⟩::rest) scope pos) c) (tG X.K X.H₀ (eL i (f7 vars.length caps it tg tt b (jY kb))) E):=
 aG ((HF (kb:=kb) j d k l S m n e hs r).imp λD t H h=>ui o p q h)
theorem LZ{X:Cx}{E:St->XK}{f g:FD}{pos:RN}(ha:PE X e1 (tV X.K f E))(a:PE X e2 (tV X.K g E))(hs:qi e2:=by exact λ_ _=>rfl):PE X (.Subscript e1 e2 pos) (tV X.K (f2 ixD f g) E):=bj aN bu ha a hs
end
end L2.Pu
namespace L2.Hs
open PySem PySem.Spec PyProof.Rows
section
variable{X:Cx}
def JG(K:NA):R2:=λx y H Q=>∃a b ep xs k c,x= .ref c/\y= .ref a/\H a=on (bN a b ep xs)/\(∀x∈xs,KyS K H b x.1 x.2.1)/\KyS K H b k c/\Q (.bl (lkV xs k).isNone) H
theorem u8(i:X.A.units+2<R5):OpR X (Ou .NotIn) (JG X.K):=by
 intro c s t H x y v u Q I j l h;obtain⟨d,b,ep,xs,k,a,rfl,rfl,m,n,o,q⟩:=h;cases j;cases l;obtain⟨ys,hm,p,_,hd⟩:=ig I m n;have f:=i5 (k:=k) p;show Nn _ _ (do return Tc (!(←contains (.ref d) (.ref a)))) _ _ s
 refine My ?_;unfold contains
 try with_reducible refine OB ?_
 refine My (P0 hm.typeIs slot_dict_contains.lookup ?_);show Nn _ _ (if(on (Value.builtin "dict.__contains__")==on Oh)=M2 then _ else _) _ _ s;rw[M8 (by rw[beq_builtin_none];exact Ni)];refine My (wpAny_callSpecialUnlessNone?_slot (name:=OS "__contains__") hm.typeIs slot_dict_contains
  (N2 slot_dict_contains hm.typeIs entry_dict_contains ?_ (args_dict_contains _ _)))
 show Nn _ _ (dictGet d (.ref a)>>=_) _ _ s;refine My (wpAny_dictGet_heap (jp i) (lV I o) hm ?_);cases g:Ui ys k with
 |some r=>
  rw[g]at f;cases e:lkV xs k with
  |none=>rw[e]at f;exact f.elim
  |some z=>
   rw[e]at q;show Nn _ _ (ret (.bool M2)) _ _ _;exact M0 ⟨_,rfl,Oo (M0 ⟨.bl _,H,I.tok _,rfl,q⟩)⟩
 |none=>
  rw[g]at f;cases e:lkV xs k with
  |some z=>rw[e]at f;exact f.elim
  |none=>
   rw[e]at q;show Nn _ _ (Builtin.Dict.pendingKey? d (.ref a)>>=_) _ _ _;exact My (wpAny_pendingKey_other hd (M0 ⟨_,rfl,Oo (M0 ⟨.bl _,H,I.tok _,rfl,q⟩)⟩))
end
end L2.Hs
namespace L2.Pu
open PySem PySem.Spec PyProof.Rows L2.Hs
section
variable{K:NA}
def AE:D->D->Option D
 |y,.dct b ks vs=>(eK b y).map λk=> .bl (lkD ks vs k).isNone
 |_,_=>MY
theorem MB:aV K (JG K) AE:=λF H β Q d1 d2 d p r fr h g e k=>by
 unfold AE at e;split at e
 ·rename_i b ks vs
  cases q:eK b d1 with
  |none=>rw[q]at e;cases e
  |some f=>
   rw[q]at e;cases e;obtain⟨i,rfl⟩:=jQ q;obtain⟨c,rfl,j⟩:=oN i h;unfold Den at g;obtain⟨a,ep,xs,rfl,l,rfl,m,n⟩:=g;refine⟨a,b,ep,xs,f,c,rfl,rfl,l.2,λx o=>(m x o).s,j.s,?_⟩;have:=oJ (k:=f) n
   dsimp only at k
   cases q2:lkD (xs.map (·.1)) vs f with
   |none=>
    rw[q2]at this k;have t:lkV xs f=MY:=this;rw[t];exact k _ H (To.refl fr) rfl
   |some z=>
    rw[q2]at this k;obtain⟨u,t,_⟩:=this;rw[t];exact k _ H (To.refl fr) rfl
 ·cases e
end
end L2.Pu
namespace L2.Pu
open PySem PySem.Spec PyProof.Rows
section
variable{X:Cx}{E:St->XK}{K:NA}{st:OA}{H₀:Hp}{B:Ow}{bg:Option (M3×M3)}{H H':Hp}{δ:Ds}{β β':Bg}{σ:St}
end
end L2.Pu
namespace L2.Pu
open PySem PySem.Spec PyProof.Rows PySem.SeqAt
open PySem.AutoSeq1 (wpAny_loadPart')
open PySem.MeetsSeq PySem.MeetsSeq2 PySem.MeetsSeq3
end L2.Pu
namespace L2.Hs
open PySem PySem.Spec PyProof.Rows
section
variable{X:Cx}
def Jl(b:Bool):TE:=λ_ H Q=>∀D,H D=MY->Q (.ref D) (upd H D (bN D b 0 []))
theorem sY{b:Bool}:PE X (.Dict [] [] pos) (Jl b):=by
 intro a s c H Q I h;rw[arm_eval_Dict];refine My (Pp ?_);show Nn _ _ newDict _ _ _;exact m9 a s c H _ _ I λe d _=>⟨.ref _,_,d,rfl,h _ (I.hok.fresh (Nh _))⟩
def stV(xs:List (KyD×M3×V))(k:KyD)(c:M3)(v:V):List (KyD×M3×V):=if(lkV xs k).isSome then xs.map (λx=>if x.1=k then(x.1,x.2.1,v)else x)else xs++[(k,c,v)]
theorem xl(h:∀x y,XY x y->XY (f x) (g y)):∀{xs:List (KyD×M3×V)} {ys:List (KyD×M3×M7)},Sk XY xs ys->Sk XY (xs.map f) (ys.map g)
 |_,_,.nil=> .nil
 |_,_,.cons a t=> .cons (h _ _ a) (xl h t)
theorem zt(p:Sk XY xs ys)(r:aF v u):Sk XY (stV xs k c v) (storedH ys k c u):=by
 have f:=i5 (k:=k) p;unfold stV;cases e:Ui ys k with
 |none=>
  rw[e]at f;cases q:lkV xs k with
  |some w=>rw[q]at f;exact f.elim
  |none=>
   rw[storedH_new e];exact pk ⟨rfl,rfl,r⟩ p
 |some w=>
  rw[e]at f;cases q:lkV xs k with
  |none=>rw[q]at f;exact f.elim
  |some a=>
   rw[storedH_old e];refine xl (λx y h=>?_) p;unfold putAt;rw[←h.1];by_cases z:x.1=k
   ·rw[Nf z,Nf z];exact⟨rfl,h.2.1,r⟩
   ·rw[M8 z,M8 z];exact h
theorem GO(xs:List (KyD×M3×V))(k:KyD)(c:M3)(v:V):(stV xs k c v).length<=xs.length+1:=by
 unfold stV;split
 ·rw[MZ];omega
 ·simp
def EV(K:NA):V->V->V->Hp->(Hp->Prop)->Prop:=λo i v H Q=>∃a b ep xs k c,o= .ref a/\i= .ref c/\H a=on (bN a b ep xs)/\(∀x∈xs,KyS K H b x.1 x.2.1)/\KyS K H b k c/\xs.length<Nr/\∀d,Q (upd H a (bN a b d (stV xs k c v)))
theorem sF(t:X.A.units+2<R5):DZ X (EV X.K):=by
 intro j s Y H o i v Z iv u Q I y B C h;obtain⟨a,b,ep,xs,k,c,rfl,rfl,l,F,J,hl,q⟩:=h;cases y;cases B;obtain⟨ys,L,p,N,f⟩:=ig I l F;refine wpAny_setItem_heap (jp t) (lV I J) L (λh' d' O=>?_) N;have m:=zt (k:=k) (c:=c) p C;obtain⟨o,es,g,r,R,T,U,g5,W⟩:=d';have d:=Oi Rt (iZ m);rw[MZ,MZ]at d;have:=GO xs k c v;exact⟨_,I.write (by rw[l];trivial) (.inl rfl) (λb u n e=>(O.2 b n).trans e) ⟨o,r⟩ (p9 ⟨o,es,_,r,R,T,by rw[U];unfold entryOfKey;rw[pP],W,f,by omega,m⟩),q g⟩
theorem qV:cK X (.builtin "len") (λxs H Q=>∃a b ep ys,xs=[.ref a]/\H a=on (bN a b ep ys)/\(∀x∈ys,KyS X.K H b x.1 x.2.1)/\Q (.int ys.length) H):=by
 intro j s v H xs us Q I r h;obtain⟨a,b,ep,ys,rfl,k,e,q⟩:=h;obtain⟨u,rfl,l⟩:=im r;cases l;obtain⟨f,g,p,y,i⟩:=ig I k e;have c:=Oi Rt (iZ p);rw[MZ,MZ]at c;have hn:=jl;have fit:((ys.length:Nat):Int)<2^63:=by omega
 refine Us kind_len plain_len entry_len (args_len1 _) ?_;unfold Builtin.«len»;refine My (m:=oneArg "len" _) (M0 ?_);have n:MeetsIn X.prog X.w (Builtin.«dict.__len__» ⟨[.ref a],[]⟩) (λ_ R s=>s.heap.DictOfH (KB X.prog X.w b) a f/\R (.ok (.ret (.int f.length s.toks))) {s with toks:=s.toks+1}):=
  .of_wp λA R s ⟨hm,h⟩=>by
   obtain⟨o,es,ep,t,B,d,e,C,hn⟩:=hm;show Nn _ _ (dictSize a>>=_) _ _ s;unfold dictSize;refine My (My (SG t d (M0 ?_)));show Nn _ _ (Builtin.Dict.pendingCount a>>=_) _ _ s;refine My (wpAny_pendingCount_other i ?_);refine wpAny_ret_mkInt ?_;have:es.size=f.length:=by rw[←NS,e,MZ]
   rw[Nat.add_zero,this];exact h
 refine My (m:=callSpecial? (.ref a) (OS "__len__")) (wpAny_callSpecial?_slot (name:=OS "__len__") g.typeIs F.slot_dict_len
  (call_meetsIn F.slot_dict_len g.typeIs F.entry_dict_len (F.args_dict_len_1 _) n ⟨g,?_⟩))
 show Nn _ _ _ _ _ {s with toks:=s.toks+1};refine My (OB (M0 ?_));refine My (Ts ?_);rw[←c];show Nn _ _ (if((ys.length:Nat):Int)<0 then _ else _) _ _ _;rw[M8 (by omega)];show Nn _ _ (if((ys.length:Nat):Int)≥2^63 then _ else _) _ _ _;rw[M8 (by omega)];exact My (wpAny_mkInt (M0 ⟨_,rfl,.int ys.length,H,I.tok _,⟨_,rfl⟩,q⟩))
end
end L2.Hs
namespace L2.Pu
open PySem PySem.Spec PyProof.Rows L2.Hs
def FF:List D->Option D
 |[.dct _ ks _]=>on (.int ks.length)
 |_=>MY
def stK(ks:List KyD)(k:KyD):List KyD:=if k∈ks then ks else ks++[k]
def stY(ks:List KyD)(vs:List D)(k:KyD)(d:D):List D:=if k∈ks then(ks.zip vs).map (λp=>if p.1=k then d else p.2)else vs++[d]
section
variable{K:NA}{F:Fx}{H:Hp}
theorem Km:dy K (λxs H Q=>∃a b ep ys,xs=[.ref a]/\H a=on (bN a b ep ys)/\(∀x∈ys,KyS K H b x.1 x.2.1)/\Q (.int ys.length) H) FF:=λF H β Q ds d vs fr h e k=>by
 unfold FF at e;split at e
 ·rename_i b ks j
  cases e;obtain⟨v,rfl,c⟩:=DenL.one h;unfold Den at c;obtain⟨a,ep,xs,rfl,f,rfl,g,l⟩:=c;exact⟨a,b,ep,xs,rfl,f.2,λx i=>(g x i).s,k _ H (To.refl fr) (by rw[MZ];rfl)⟩
 ·cases e
theorem pM:∀{xs:List (KyD×M3×V)},(lkV xs k).isSome=decide (k∈xs.map (·.1))
 |[]=>by simp[lkV]
 |x::xs=>by
  have ih:=pM (k:=k) (xs:=xs);unfold lkV at ih⊢;rw[PQ];by_cases q:x.1=k
  ·rw[NF q];simp[q]
  ·rw[N8 q]
   dsimp only
   rw[ih];exact decide_eq_decide.mpr (by rw[Nl,Nq];exact⟨.inr,λz=>z.resolve_left λy=>q y.symm⟩)
theorem zK{xs:List (KyD×M3×V)}:(stV xs k c v).map (·.1)=stK (xs.map (·.1)) k:=by
 unfold stV stK;rw[pM];by_cases q:k∈xs.map (·.1)
 ·rw[Nf (NF q),Nf q,Nk]
  refine NT λx _=>?_;show(if x.1=k then(x.1,x.2.1,v)else x).1=x.1;split<;>rfl
 ·rw[M8 (λz=>q (PP z)),M8 q,NR];rfl
theorem GP{xs:List (KyD×M3×V)}(hd:Den K F H d v)(h:DenL K F H vs (xs.map (·.2.2))):DenL K F H (stY (xs.map (·.1)) vs k d) ((stV xs k c v).map (·.2.2)):=by
 unfold stV stY;rw[pM];by_cases q:k∈xs.map (·.1)
 ·rw[Nf (NF q),Nf q]
  clear q
  induction xs generalizing vs with
  |nil=>exact DenL.nil
  |cons x xs ih=>
   cases vs with
   |nil=>cases h
   |cons w vs=>
    obtain⟨u,r,e,a,b⟩:=h;rw[Nl,P6]at e;obtain⟨rfl,rfl⟩:=e;refine DenL.cons (xs:=((xs.map λx=>if x.1=k then(x.1,x.2.1,v)else x).map (·.2.2))) ?_ (ih b);show Den K F H (if x.1=k then d else w) (if x.1=k then(x.1,x.2.1,v)else x).2.2;by_cases z:x.1=k
    ·rw[Nf z,Nf z];exact hd
    ·rw[M8 z,M8 z];exact a
 ·rw[M8 (λz=>q (PP z)),M8 q,NR]
  exact DenL.append h (DenL.cons hd DenL.nil)
theorem Jq{b:Bool}(d:∀x∈xs,dZ K F H b x.1 x.2.1)(f:dZ K F H b k c):∀x∈stV xs k c v,dZ K F H b x.1 x.2.1:=λx a=>by
 unfold stV at a;split at a
 ·obtain⟨y,e,rfl⟩:=Nw.mp a
  split
  ·exact d y e
  ·exact d y e
 ·rcases OE.mp a with h|h
  ·exact d x h
  ·cases NU.mp h
   exact f
variable{X:Cx}{E:St->XK}{st:OA}
def Kz(i:Nat)(b:Bool):G:=λδ β=>on (.nx (δ.set i (on (.odc b [] []))),β)
theorem Md{b:Bool}(h:PS X st (gi (Jl b) (dH i))):PS X st (tG X.K X.H₀ (Kz i b) E):=h.imp λD k H c=>by
 obtain⟨B,bg,δ,β,o,d,ok,e,q⟩:=c;cases e;intro p f;obtain⟨a,g⟩:=ok.newAt (i:=i) (sl:= .odc b [] []) (u:=bN p b 0 []) f (.inr ⟨_,ah⟩) λe _=>⟨p,rfl,e,0,[],ah,rfl,(λx j=>by cases j),DenL.nil⟩;exact q _ _ _ g a
def rQ(i:Nat)(a c:FD):G:=λδ β=>match c (vwA δ) β with
 |some (.ok d,β1)=>match a (vwA δ) β1 with
  |some (.ok kd,β2)=>match δ.getD i MY with
   |some (.odc b ks vs)=>match eK b kd with
    |some k=>if(noL d&&decide (ks.length<Nr))=M2 then on (.nx (δ.set i (on (.odc b (stK ks k) (stY ks vs k d)))),β2)else MY
    |none=>MY
   |_=>MY
  |_=>MY
 |some (.error C,β1)=>on (.ex C δ,β1)
 |none=>MY
theorem Jx(h:PS X st (gi (tV X.K fv E) (BM (mP i) (tV X.K fk E) (EV X.K)))):PS X st (tG X.K X.H₀ (rQ i fk fv) E):=h.imp λD σ H R=>by
 obtain⟨B,bg,δ,β,o,T,ok,e,q⟩:=R;refine⟨FxA B bg,vwA δ,β,ok.frA,ok.viewA,?_⟩;unfold rQ at e;split at e
 ·rename_i d β1 p
  refine⟨.ok d,_,p,λv H1 t hd=>?_⟩;obtain⟨g,U⟩:=ok.to rfl t;split at e
  ·rename_i kd β2 W
   split at e
   ·rename_i b ks vs N
    split at e
    ·rename_i k Y
     split at e
     ·rename_i hn
      cases e;rw[NO,NZ]at hn;obtain⟨w,r,a,rfl,hB,h2⟩:=g.tell i _ (getD_some N);refine⟨_,r,FxA B bg,vwA δ,β1,g.frA,g.viewA,.ok kd,_,W,λkv H2 Z y=>?_⟩;obtain⟨j,n⟩:=g.to rfl Z;obtain⟨_,l,a',e',hB',ep,xs,hD,A,O,dl⟩:=j.tell i _ (getD_some N);rw[r]at l;cases l;cases e';obtain⟨hz,rfl⟩:=jQ Y;have nk:noL (dK b k)=M2:=by
       cases b with
       |true=>show(M2&&(noLs (k.2.map Pu.D.int)&&M2))=M2;rw[iD];rfl
       |false=>exact iD k.2
      obtain⟨c,rfl,Q⟩:=oN hz (j.noB nk y);have I:=Den.tr n.tr _ _ (g.noB hn.1 hd);subst A;refine⟨a,b,ep,xs,k,c,rfl,rfl,hD,λx J=>(O x J).s,Q.s,by rw[←MZ (f:=(·.1))];exact hn.2,λm=>?_⟩;obtain⟨L,s3⟩:=j.writeAt (sl:= .odc b (stK (xs.map (·.1)) k) (stY (xs.map (·.1)) vs k d)) (u:=bN a b m (stV xs k c v)) r hB (.inr ⟨_,ah⟩) λt=>⟨a,rfl,hB,m,_,ah,zK.symm,Jq (λx J=>(O x J).tr t) (Q.tr t),GP (Den.tr t _ _ I) (DenL.tr t _ _ dl)⟩;exact q _ B _ ((U.trans n).trans s3) L
     ·cases e
    ·cases e
   ·cases e
  ·cases e
 ·rename_i C β1 p
  cases e;refine⟨.error C,_,p,λH' t=>?_⟩;obtain⟨j,n⟩:=ok.to rfl t;exact q _ B H' n j
 ·cases e
def Ju:D->Option Int->Option Int->Option D
 | .tup xs,lo,hi=>if HT.sIx xs.length 0 lo=0/\HT.sIx xs.length xs.length hi=xs.length then MY else on (.tup (lf xs lo hi))
 |_,_,_=>MY
def fSlT(f:FD)(lo a:Option (FD)):FD:=λδ=>M.bind (f δ) λd=>M.bind (l8 lo δ) λl=>M.bind (l8 a δ) λh=>M.ofO (Ju d l h)
theorem mM{X:Cx}{E:St->XK}{lo u:Option Expr}{fl y:Option (FD)}(I:PE X e (tV X.K f E))(J:qh X lo fl E)(L:qh X u y E):PE X (.Subscript e (.Slice lo u MY p2) pos) (tV X.K (fSlT f fl y) E):=
 (m6 Jt I J L).imp λT H Q i=>ex6 i λF δ β fr j r=>⟨F,δ,β,fr,j,(run.bind (R:=Den X.K F) r).mono λv U ⟨d,β1,t,hd,r1⟩=>
  ⟨F,δ,β1,t.fr,j.tr (t.tr fr),(run.bind (R:=λ_ (a b:Option Int)=>b=a) r1).mono λl W ⟨Y,β2,g,m,N⟩=>
   ⟨F,δ,β2,g.fr,j.tr ((t.tr fr).trans (g.tr t.fr)),(run.bind (R:=λ_ (a b:Option Int)=>b=a) N).mono λh Z i=>by
    obtain⟨h',β3,n,o,O⟩:=i;subst m o;obtain⟨c,e,k⟩:=run.ofO O;have q:=Den.tr ((g.tr t.fr).trans (n.tr g.fr)) _ _ hd;unfold Ju at e;split at e
    ·split at e
     ·cases e
     ·rename_i A
      cases e;obtain⟨a,xs,rfl,sq,B⟩:=Den.sqT q;rw[B.length]at A;exact⟨a,xs,rfl,sq,A,λp C=>k _ _ (n.fr.upd _ C) (Den.newT n.fr C (B.cut l h))⟩
    ·cases e⟩⟩⟩
end
end L2.Pu
namespace L2.Pu
open PySem L2.Hs
def jR(k:List Int):LI->LI
 |[]=>[k]
 |x::l=>if cD k x=M2 then k::x::l else if k=x then x::l else x::jR k l
theorem insU_mem:∀{l:LI},y∈jR k l↔y=k\/y∈l
 |[]=>by simp[jR]
 |x::l=>by
  unfold jR;split
  ·simp
  ·split
   ·rename_i h
    subst h;simp
   ·rw[Nq,insU_mem,Nq]
    exact or_left_comm
theorem vm:∀{l:LI},Up l->Up (jR k l)
 |[],_=>by unfold jR;exact Sz _ _
 |x::l,h=>by
  obtain⟨a,b⟩:=Q0.mp h;unfold jR;split
  ·rename_i q
   refine Q0.mpr ⟨λy hy=>?_,h⟩;rcases Nq.mp hy with rfl|hy
   ·exact q
   ·exact oK q (a y hy)
  ·split
   ·exact h
   ·rename_i q1 q2
    refine Q0.mpr ⟨λy hy=>?_,vm b⟩;rcases insU_mem.mp hy with rfl|hy
    ·cases q:cD x y with
     |true=>rfl
     |false=>exact NE (lT (by simpa using q1) q) q2
    ·exact a y hy
def ku(ks:LI):LI:=ks.foldr jR []
theorem lI:∀ks,Up (ku ks)
 |[]=> .nil
 |k::ks=>vm (lI ks)
theorem dI:∀{ks:LI},y∈ku ks↔y∈ks
 |[]=>by simp[ku]
 |k::ks=>by
  show y∈jR k (ku ks)↔_;rw[insU_mem,dI,Nq]
theorem EK{l:LI}(h:Up l):l.Nodup:=h.imp λ{a b} q e=>by
 subst e;rw[gM]at q;cases q
theorem Jr{ks:LI}(b:∀k∈ks,1<=k.length){m:LI}(hm:m.length<63)(c:∀k∈ks,k∈m):jF (ks.map tpI)=on (.lst ((ku ks).map tpI)):=by
 refine zL ⟨lI ks,Pi (fY (EK (lI ks)) λx e=>c x (dI.mp e)) hm,λk a=>⟨b k (dI.mp a),Nw.mpr ⟨k,dI.mp a,rfl⟩⟩,λd hd=>?_⟩;obtain⟨k,a,rfl⟩:=Nw.mp hd;exact⟨k,dI.mpr a,rfl⟩
end L2.Pu
namespace L2.Nt
noncomputable def sm{α:Type}(l:List α)(f:α->Nat):Nat:=(l.map f).sum
section
variable{α β:Type}
theorem xK{f:α->Nat}:sm [] f=0:=rfl
theorem bW{a:α}{l:List α}{f:α->Nat}:sm (a::l) f=f a+sm l f:=by unfold sm;rw[Nl,NJ]
theorem sD{l m:List α}{f:α->Nat}:sm (l++m) f=sm l f+sm m f:=by unfold sm;rw[NR,T9]
theorem di:∀{l:List α},(∀a∈l,f a=g a)->sm l f=sm l g
 |[],_=>rfl
 |a::l,h=>by rw[bW,bW,h a Nb,di λb c=>h b (M5 a c)]
theorem xL{g:β->α}{f:α->Nat}{l:List β}:sm (l.map g) f=sm l λb=>f (g b):=by unfold sm;rw[Nk];rfl
theorem uN{g:β->List α}{f:α->Nat}:∀{l:List β},sm (l.flatMap g) f=sm l λb=>sm (g b) f
 |[]=>rfl
 |b::l=>by rw[Om,sD,bW,uN]
theorem uM:∀{l:List α},(sm l λ_=>0)=0
 |[]=>rfl
 |a::l=>by rw[bW,uM]
theorem xM:∀{l:List α},(sm l λa=>f a+g a)=sm l f+sm l g
 |[]=>rfl
 |a::l=>by rw[bW,bW,bW,xM];omega
theorem nW:∀{l:List α},(sm l λa=>c*f a)=c*sm l f
 |[]=>rfl
 |a::l=>by rw[bW,bW,nW,Nat.mul_add]
theorem EN:∀{n:Nat},m<=n->sm (Nd (m+1)) f=sm (Nd (n+1)) λa=>if a<=m then f a else 0
 |0,h=>by
  obtain rfl:m=0:=by omega
  exact di λa ha=>by
   have:=Nz.mp ha;rw[Nf (by omega)]
 |n+1,h=>by
  rcases TK m (n+1)with q|q
  ·rw[Qg (n:=n+1),sD,←EN (by omega:m<=n),bW,xK,M8 (by omega)]
   omega
  ·obtain rfl:m=n+1:=by omega
   exact di λa ha=>by
    have:=Nz.mp ha;rw[Nf (by omega)]
noncomputable def bU:List Nat->Nat->List (List Nat)
 |[],0=>[[]]
 |[],_+1=>[]
 |x::r,c=>(Nd (Qk x c+1)).flatMap λa=>(bU r (c-a)).map (a::·)
noncomputable def less(r v:List Nat):List Nat:=RH (·-·) r v
theorem xm:sm (bU (x::r) c) f=sm (Nd (Qk x c+1)) λa=>sm (bU r (c-a)) λv=>f (a::v):=by
 show sm ((Nd (Qk x c+1)).flatMap λa=>(bU r (c-a)).map (a::·)) f=_;rw[uN];exact di λa _=>xL
end
end L2.Nt
namespace L2.Nt
open L2.Pu
noncomputable def ch:Nat->Nat->Nat
 |_,0=>1
 |0,_+1=>0
 |n+1,k+1=>ch n k+ch n (k+1)
theorem o7:∀{n k:Nat},n<k->ch n k=0
 |0,k+1,_=>by simp[ch]
 |n+1,k+1,h=>by
  show ch n k+ch n (k+1)=0;rw[o7 (by omega),o7 (by omega)]
theorem qc(n:Nat):ch n 0=1:=by cases n<;>rfl
theorem vN:∀n,ch n n=1
 |0=>rfl
 |n+1=>by
  show ch n n+ch n (n+1)=1;rw[vN n,o7 (by omega)]
theorem wW(n:Nat):facN (n+1)=(n+1)*facN n:=PY (facN n) (n+1)
theorem lh:∀n a b:Nat,a+b=n->ch (a+b) a*(facN a*facN b)=facN (a+b)
 |n,0,b,_=>by rw[qc];simp[facN]
 |n,a+1,0,_=>by rw[Nat.add_zero,vN];simp[facN]
 |0,a+1,b+1,h=>by omega
 |n+1,a+1,b+1,h=>by
  have c:=lh n a (b+1) (by omega);have d:=lh n (a+1) b (by omega);have e:a+1+(b+1)=(a+b+1)+1:=by omega
  have f:a+(b+1)=a+b+1:=by omega
  have g:a+1+b=a+b+1:=by omega
  rw[f]at c;rw[g]at d;rw[e];show(ch (a+b+1) a+ch (a+b+1) (a+1))*(facN (a+1)*facN (b+1))=facN (a+b+1+1);rw[wW (a+b+1),VJ];have i:ch (a+b+1) a*(facN (a+1)*facN (b+1))=(a+1)*facN (a+b+1):=by
   rw[←c,wW a];simp only[Rv,Q8,PY]
  have j:ch (a+b+1) (a+1)*(facN (a+1)*facN (b+1))=(b+1)*facN (a+b+1):=by
   rw[←d,wW b];simp only[Rv,Q8,PY]
  rw[i,j,←VJ,show a+1+(b+1)=a+b+1+1 by omega]
theorem lJ:sm (Nd (n+1)) f=f 0+sm (Nd n) λa=>f (a+1):=by
 rw[SD,bW,xL]
theorem zx:∀(x y c:Nat),(sm (Nd (c+1)) λa=>ch x a*ch y (c-a))=ch (x+y) c
 |0,y,c=>by
  rw[lJ,qc,Nat.one_mul,Nat.sub_zero,Pl];have:(sm (Nd c) λa=>ch 0 (a+1)*ch y (c-(a+1)))=0:=(di λa _=>by rw[o7 (by omega),Nat.zero_mul]).trans uM;rw[this];rfl
 |x+1,y,0=>by rw[lJ];simp[qc,xK]
 |x+1,y,c+1=>by
  have b:=zx x y (c+1);have d:=zx x y c;rw[lJ]at b;rw[lJ];have e:(sm (Nd (c+1)) λa=>ch (x+1) (a+1)*ch y (c+1-(a+1)))=(sm (Nd (c+1)) λa=>ch x a*ch y (c-a))+sm (Nd (c+1)) λa=>ch x (a+1)*ch y (c+1-(a+1)):=by
   rw[←xM];refine di λa _=>?_;show(ch x a+ch x (a+1))*_=_;rw[VJ,Nat.add_sub_add_right]
  rw[e,d];have f:x+1+y=x+y+1:=by omega
  rw[f];show _=ch (x+y) c+ch (x+y) (c+1);rw[←b,qc,qc];omega
theorem vdm(x y c:Nat):(sm (Nd (Qk x c+1)) λa=>ch x a*ch y (c-a))=ch (x+y) c:=by
 rw[EN (Nat.min_le_right x c),←zx];refine di λa ha=>?_;have:=Nz.mp ha;by_cases q:a<=x
 ·rw[Nf (by omega)]
 ·rw[M8 (by omega),o7 (by omega),Nat.zero_mul]
def pc:List Nat->List Nat->Nat
 |x::r,a::v=>ch x a*pc r v
 |_,_=>1
theorem yh:∀(r:List Nat) (c:Nat),sm (bU r c) (pc r)=ch r.sum c
 |[],0=>rfl
 |[],c+1=>rfl
 |x::r,c=>by
  rw[xm,NJ,←vdm];exact di λa _=>by rw[←yh r (c-a),←nW];rfl
theorem jA:∀{r:List Nat} {c:Nat} {v:List Nat},v∈bU r c->v.sum=c/\(less r v).sum+c=r.sum/\v.length=r.length/\pr (r.map facN)=pc r v*(pr (v.map facN)*pr ((less r v).map facN))
 |[],0,v,h=>by cases NU.mp h;exact⟨rfl,rfl,rfl,rfl⟩
 |[],c+1,v,h=>by cases h
 |x::r,c,v,h=>by
  have h':v∈(Nd (Qk x c+1)).flatMap λa=>(bU r (c-a)).map (a::·):=h;obtain⟨a,ha,d⟩:=O6.mp h';obtain⟨u,e,rfl⟩:=Nw.mp d;have f:=Nz.mp ha;obtain⟨g,i,j,k⟩:=jA e;refine⟨by rw[NJ,g];omega,?_,by rw[Nm,j,Nm],?_⟩
  ·show((x-a)::less r u).sum+c=_
   rw[NJ,NJ,←i];omega
  ·show facN x*pr (r.map facN)=(ch x a*pc r u)*((facN a*pr (u.map facN))*(facN (x-a)*pr ((less r u).map facN)))
   have b:=lh x a (x-a) (by omega);rw[show a+(x-a)=x by omega]at b;rw[k,←b];simp only[Rv,Q8,PY]
def mu:List Nat->Nat
 |[]=>1
 |x::r=>ch (x+r.sum) x*mu r
theorem kX:∀r:List Nat,mu r*pr (r.map facN)=facN r.sum
 |[]=>rfl
 |x::r=>by
  show(ch (x+r.sum) x*mu r)*(facN x*pr (r.map facN))=facN (x::r).sum;rw[NJ,←lh _ x r.sum rfl,←kX r];simp only[Rv,Q8,PY]
theorem uZ(r:List Nat):0<pr (r.map facN):=sW λx a=>by
 obtain⟨n,_,rfl⟩:=Nw.mp a;exact l7 n
theorem Kc(r:List Nat):facN r.sum/pr (r.map facN)=mu r:=by rw[←kX,Nat.mul_div_cancel _ (uZ r)]
def dls:List Nat->List Nat->Nat
 |_,[]=>1
 |r,c::cs=>sm (bU r c) λv=>mu v*dls (less r v) cs
theorem ED:∀{r:List Nat},r.sum=0->mu r=1
 |[],_=>rfl
 |x::r,h=>by
  rw[NJ]at h;obtain rfl:x=0:=by omega
  show ch _ 0*mu r=1;rw[qc,ED (by omega)]
theorem ug:∀(cs r:List Nat),r.sum=cs.sum->dls r cs=mu r
 |[],r,h=>(ED h).symm
 |c::cs,r,h=>by
  rw[NJ]at h;refine Nat.eq_of_mul_eq_mul_right (uZ r) ?_;rw[kX];show sm (bU r c) (λv=>mu v*dls (less r v) cs)*_=_;rw[PY,←nW];have e:(sm (bU r c) λv=>pr (r.map facN)*(mu v*dls (less r v) cs))=sm (bU r c) λv=>(facN c*facN (r.sum-c))*pc r v:=by
   refine di λv a=>?_;obtain⟨b,f,g,d⟩:=jA a;rw[ug cs (less r v) (by omega),d];have m1:=kX v;have m2:=kX (less r v);rw[b]at m1;rw[show(less r v).sum=r.sum-c by omega]at m2;rw[←m1,←m2];simp only[Rv,Q8,PY]
  rw[e,nW,yh,PY];have:=lh r.sum c (r.sum-c) (by omega);rw[show c+(r.sum-c)=r.sum by omega]at this;exact this
def LeN:List Nat->List Nat->Prop
 |[],[]=>True
 |a::v,x::r=>a<=x/\LeN v r
 |_,_=>False
theorem LeN.refl:∀r,LeN r r
 |[]=>trivial
 |_::r=>⟨Nh _,LeN.refl r⟩
theorem LeN.tr:∀{u v r:List Nat},LeN u v->LeN v r->LeN u r
 |[],[],[],_,_=>trivial
 |_::_,_::_,_::_,h,q=>⟨NG h.1 q.1,h.2.tr q.2⟩
 |[],_::_,_,h,_=>h.elim
 |_::_,[],_,h,_=>h.elim
 |[],[],_::_,_,q=>q.elim
 |_::_,_::_,[],_,q=>q.elim
theorem LeN.len:∀{v r:List Nat},LeN v r->v.length=r.length
 |[],[],_=>rfl
 |_::_,_::_,h=>Oi (·+1) h.2.len
 |[],_::_,h=>h.elim
 |_::_,[],h=>h.elim
theorem LeN.less:∀{v r:List Nat},LeN v r->LeN (less r v) r
 |[],[],_=>trivial
 |a::v,x::r,h=>⟨Nat.sub_le x a,h.2.less⟩
 |[],_::_,h=>h.elim
 |_::_,[],h=>h.elim
theorem LeN.pr:∀{v r:List Nat},LeN v r->L2.Pu.pr (v.map (·+1))<=L2.Pu.pr (r.map (·+1))
 |[],[],_=>Nh _
 |_::_,_::_,h=>Nat.mul_le_mul (Nat.succ_le_succ h.1) h.2.pr
 |[],_::_,h=>h.elim
 |_::_,[],h=>h.elim
theorem LeN.sum:∀{v r:List Nat},LeN v r->v.sum<=r.sum
 |[],[],_=>Nh _
 |_::_,_::_,h=>by rw[NJ,NJ];exact Uz h.1 h.2.sum
 |[],_::_,h=>h.elim
 |_::_,[],h=>h.elim
theorem dQ:∀{r:List Nat} {c:Nat} {v:List Nat},v∈bU r c->LeN v r
 |[],0,v,h=>by cases NU.mp h;exact trivial
 |[],c+1,v,h=>by cases h
 |x::r,c,v,h=>by
  have h':v∈(Nd (Qk x c+1)).flatMap λa=>(bU r (c-a)).map (a::·):=h;obtain⟨a,ha,b⟩:=O6.mp h';obtain⟨u,d,rfl⟩:=Nw.mp b;have e:=Nz.mp ha;exact⟨by omega,dQ d⟩
theorem nc:∀{r v:List Nat},LeN v r->v∈bU r v.sum
 |[],[],_=>NU.mpr rfl
 |x::r,a::v,h=>by
  refine O6.mpr ⟨a,Nz.mpr (by rw[NJ];have:=h.1;omega),Nw.mpr ⟨v,?_,rfl⟩⟩;rw[NJ,U4];exact nc h.2
 |[],_::_,h=>h.elim
 |_::_,[],h=>h.elim
theorem fI{α a:Type}{f:α->List a}{n:Nat}:∀{l:List α},(∀x∈l,(f x).length<=n)->(l.flatMap f).length<=l.length*n
 |[],_=>by simp
 |x::l,h=>by
  rw[Om,Ny,Nm,Nat.succ_mul,U7];exact Uz (fI λy b=>h y (M5 _ b)) (h x Nb)
theorem mK:∀(r:List Nat) (c:Nat),(bU r c).length<=pr (r.dropLast.map (·+1))
 |[],0=>Nh _
 |[],_+1=>OC _
 |[x],c=>by
  have h:bU [x] c=(Nd (Qk x c+1)).flatMap λa=>(bU [] (c-a)).map (a::·):=rfl;rw[h,Qg,QG,Ny];have e:((Nd (Qk x c)).flatMap λa=>(bU [] (c-a)).map (a::·))=[]:=by
   refine Q2.mpr λa ha=>?_;have:=Nz.mp ha;obtain⟨n,hn⟩:∃n,c-a=n+1:=⟨c-a-1,by omega⟩;rw[hn];rfl
  rw[e];cases q:c-Qk x c<;>simp[bU,q,pr]
 |x::y::r,c=>by
  have h:=fI (l:=Nd (Qk x c+1)) (f:=λa=>(bU (y::r) (c-a)).map (a::·)) (n:=pr ((y::r).dropLast.map (·+1))) λa _=>by rw[MZ];exact mK (y::r) (c-a)
  rw[ND]at h;refine NG h ?_;show _<=(x+1)*pr ((y::r).dropLast.map (·+1));exact Rw _ (by omega)
theorem oZ{α β a:Type}{f:α->List β}{g:β->List a}(l:List α):(l.flatMap f).flatMap g=l.flatMap λx=>(f x).flatMap g:=List.flatMap_assoc
theorem wl(r:List Nat)(k:Nat):pr ((r.take k).map (·+1))<=pr (r.map (·+1)):=by
 conv=>rhs;rw[←Qm k r,NR,ya]
 exact U5 _ (sW λx a=>by
  obtain⟨n,_,rfl⟩:=Nw.mp a;omega)
theorem rH(l:List Nat):(nI l).map Int.toNat=l:=by
 rw[Nk];exact(NT λx _=>rfl).trans (TY l)
theorem kW(h:nI l=nI m):l=m:=by rw[←rH l,h,rH]
theorem yr{α a:Type}{f:α->a}{l:List α}(h:(l.map f).Nodup):l.Nodup:=(R8.mp h).imp λq e=>q (Oi f e)
theorem yu{α c:Type}{f:α->c}(inj:∀a b,f a=f b->a=b){l:List α}(h:l.Nodup):(l.map f).Nodup:=R8.mpr (h.imp λq e=>q (inj _ _ e))
theorem qO{cs:List Nat}(h:k<cs.length):cs.drop k=cs.getD k 0::cs.drop (k+1):=by
 rw[Ot h,Na,M6 h];rfl
noncomputable def okB:List (Nat×Nat)->List Nat->Bool
 |p::ps,a::v=>decide (p.1<=a)&&decide (a<=p.2)&&okB ps v
 |_,_=>M2
def vB(ps:List (Nat×Nat))(r:List Nat)(c:Nat):List (List Nat):=(bU r c).filter (okB ps)
theorem Jc(h:v∈vB ps r c):v∈bU r c:=(SL.mp h).1
theorem pw{p:Nat×Nat}:vB (p::ps) (x::r) c=(Nd (Qk x c+1)).flatMap λa=>if p.1<=a/\a<=p.2 then(vB ps r (c-a)).map (a::·)else[]:=by
 show((Nd (Qk x c+1)).flatMap λa=>(bU r (c-a)).map (a::·)).filter (okB (p::ps))=_;rw[VF];refine Oi (U2 · _) (funext λa=>?_);rw[T7];by_cases q:p.1<=a/\a<=p.2
 ·rw[Nf q]
  refine Oi (OG (a::·)) (Wm λv _=>?_);show(decide (p.1<=a)&&decide (a<=p.2)&&okB ps v)=okB ps v;rw[NF q.1,NF q.2];rfl
 ·rw[M8 q,U1.mpr,OZ]
  intro v _ h;have h:(decide (p.1<=a)&&decide (a<=p.2)&&okB ps v)=M2:=h;simp only[NO,NZ]at h;exact q h.1
noncomputable def tps:List (Nat×Nat)->List Nat->List Nat
 |p::ps,x::r=>Qk x p.2::tps ps r
 |_,_=>[]
noncomputable def los(ps:List (Nat×Nat)):List Nat:=ps.map (·.1)
theorem EJ:∀{ps:List (Nat×Nat)} {r:List Nat} {c:Nat} {v:List Nat},ps.length=r.length->v∈vB ps r c->(los ps).sum<=c/\c<=(tps ps r).sum
 |[],[],c,v,_,h=>by
  have:=jA (Jc h);simp at this;simp[los,tps];omega
 |p::ps,x::r,c,v,e,h=>by
  rw[pw]at h;obtain⟨a,ha,h⟩:=O6.mp h;by_cases q:p.1<=a/\a<=p.2
  ·rw[Nf q]at h
   obtain⟨u,b,rfl⟩:=Nw.mp h;have i:=EJ (by simpa using e) b;have:=Nz.mp ha;simp only[los,tps,Nl,NJ]at i⊢;omega
  ·rw[M8 q]at h;cases h
noncomputable def nxB(x:Nat)(p:Nat×Nat)(few a:Nat)(b:List Nat×Nat):List (List Nat×Nat):=(Nd (Qk (Qk x p.2+few) b.2+1-few-Vy p.1 (b.2-a))).map λi=>(b.1++[Vy p.1 (b.2-a)+i],b.2-(Vy p.1 (b.2-a)+i))
def stB(ps:List (Nat×Nat))(r:List Nat)(c:Nat):Nat->List (List Nat×Nat)
 |0=>[([],c)]
 |k+1=>(stB ps r c k).flatMap (nxB (r.getD k 0) (ps.getD k (0,0)) ((los ps).drop (k+1)).sum ((tps ps r).drop (k+1)).sum)
theorem k9{b:Type}{f:Nat->List b}{lo n N:Nat}(h:∀a<N,f a≠[]->lo<=a/\a<n)(hn:n<=N):(Nd N).flatMap f=(Nd (n-lo)).flatMap λi=>f (lo+i):=by
 have e:∀{a},a<N->¬(lo<=a/\a<n)->f a=[]:=λ{a} ha q=>Ry λz=>q (h a ha z);obtain⟨d,rfl⟩:∃d,N=n+d:=⟨N-n,by omega⟩;have z:(Nd d).flatMap (λa=>f (n+a))=[]:=Q2.mpr λa ha=>e (by have:=Nz.mp ha;omega) (by omega);rw[List.range_add,QG,Sw,z,NV];rcases Nat.le_total lo n with q|q
 ·obtain⟨m,rfl⟩:∃m,n=lo+m:=⟨n-lo,by omega⟩
  rw[List.range_add,QG,Q2.mpr λa ha=>e (by have:=Nz.mp ha;omega) (by have:=Nz.mp ha;omega),OF,Sw,U4]
 ·rw[show n-lo=0 by omega,Q2.mpr λa ha=>e (by have:=Nz.mp ha;omega) (by have:=Nz.mp ha;omega)];rfl
theorem sr:∀{ps:List (Nat×Nat)} {r:List Nat} (k:Nat),tps (ps.drop k) (r.drop k)=(tps ps r).drop k
 |_,_,0=>rfl
 |[],r,k+1=>by simp[tps]
 |p::ps,[],k+1=>by cases h:(ps.drop k)<;>simp[tps,h]
 |p::ps,x::r,k+1=>sr k
theorem eZ{α:Type}{l:List α}{k:Nat}{d:α}(h:k<l.length):l.getD k d=l[k]:=by rw[Na,M6 h];rfl
theorem dX{α a:Type}{f g:α->List a}:∀{l:List α},(∀x∈l,f x=g x)->l.flatMap f=l.flatMap g
 |[],_=>rfl
 |x::l,h=>by rw[Om,Om,h x Nb,dX λy b=>h y (M5 _ b)]
theorem uL{ps:List (Nat×Nat)}{r:List Nat}(e:ps.length=r.length)(c:Nat):∀k,k<=r.length->((stB ps r c k).flatMap λb=>(vB (ps.drop k) (r.drop k) b.2).map (b.1++·))=vB ps r c
 |0,_=>by simp[stB]
 |k+1,h=>by
  rw[←uL e c k (by omega)];show((stB ps r c k).flatMap _).flatMap _=_;rw[oZ];refine Oi (U2 · (stB ps r c k)) (funext λb=>?_);have g:k<r.length:=by omega
  have j:k<ps.length:=by omega
  rw[Ot g,Ot j,eZ g,eZ j,pw,O5];rw[k9 (f:=λa=>(if ps[k].1<=a/\a<=ps[k].2 then(vB (ps.drop (k+1)) (r.drop (k+1)) (b.2-a)).map (a::·)else[]).map (b.1++·)) (N:=Qk r[k] b.2+1) (lo:=Vy ps[k].1 (b.2-((tps ps r).drop (k+1)).sum)) (n:=Qk (Qk r[k] b.2+1) (Qk (Qk r[k] ps[k].2+((los ps).drop (k+1)).sum) b.2+1-((los ps).drop (k+1)).sum)) (λa o ha=>?_) (Nat.min_le_left _ _)]
  ·unfold nxB
   rw[Sw,show Qk (Qk r[k] b.2+1) (Qk (Qk r[k] ps[k].2+((los ps).drop (k+1)).sum) b.2+1-((los ps).drop (k+1)).sum)=Qk (Qk r[k] ps[k].2+((los ps).drop (k+1)).sum) b.2+1-((los ps).drop (k+1)).sum by omega];refine dX λi l=>?_;have:=Nz.mp l;rw[Nf (by omega),Nk];exact NT λv _=>by simp
  ·by_cases q:ps[k].1<=a/\a<=ps[k].2
   ·rw[Nf q]at ha
    obtain⟨w,d⟩:=List.exists_mem_of_ne_nil _ ha;obtain⟨w,d,_⟩:=Nw.mp d;obtain⟨v,m,_⟩:=Nw.mp d;have:=EJ (by simp[e]) m;rw[sr]at this;unfold los at this⊢;rw[Rj]at this;omega
   ·rw[M8 q]at ha;exact NE rfl ha
theorem Jb(c:Nat):vB [] [] c=if(c:Int)=0 then[[]]else[]:=by
 cases c with
 |zero=>rfl
 |succ n=>rw[M8 (by omega)];rfl
theorem GQ{ps:List (Nat×Nat)}{r:List Nat}(a:ps.length=r.length)(c:Nat):((stB ps r c r.length).filter λb=>decide ((b.2:Int)=0)).map (·.1)=vB ps r c:=by
 rw[←uL a c r.length (Nh _),Qw,←a,Qw,a];generalize stB ps r c r.length=l
 induction l with
 |nil=>rfl
 |cons b l ih=>
  rw[Om,TN,←ih,Jb];by_cases q:(b.2:Int)=0
  ·rw[Nf q,Nf (NF q)];simp
  ·rw[M8 q,M8 (by simp;omega)];rfl
theorem uK{r:List Nat}(c:Nat):∀k,k<=r.length->(stB ps r c k).length<=pr ((r.take k).map (·+1))
 |0,_=>Nh _
 |k+1,h=>by
  have e:r[k]?=on r[k]:=M6 (by omega);rw[ji e];refine NG (fI (n:=r[k]+1) λb _=>?_) (Rw _ (uK c k (by omega)));unfold nxB;rw[MZ,ND,eZ (show k<r.length by omega)];omega
theorem xI(ps:List (Nat×Nat))(r:List Nat)(c:Nat):∀k,∀b∈stB ps r c k,b.2<=c/\b.1.length=k
 |0,b,h=>by cases NU.mp h;exact⟨Nh _,rfl⟩
 |k+1,b,h=>by
  obtain⟨d,hd,a⟩:=O6.mp (show b∈(stB ps r c k).flatMap _ from h);obtain⟨i,_,rfl⟩:=Nw.mp a;obtain⟨q1,q2⟩:=xI ps r c k d hd;exact⟨by show d.2-_<=c;omega,by rw[Ny,q2];rfl⟩
theorem xx:∀{ps:List (Nat×Nat)} {r:List Nat},(tps ps r).sum<=r.sum
 |[],r=>OC _
 |_::_,[]=>Nh _
 |p::ps,x::r=>by
  have:=xx (ps:=ps) (r:=r);simp only[tps,NJ];omega
abbrev Wy:=Nat->List Nat->List (List Nat)
def WOk(cs:List Nat)(W:Wy):Prop:=∀k r,(W k r).Sublist (bU r (cs.getD k 0))
def nwI(W:Wy)(L:List (List Nat))(k:Nat):LI:=L.flatMap λr=>(W k r).map λv=>nI (less r v)
def nwL(W:Wy)(L:List (List Nat))(k:Nat):List (List Nat):=(ku (nwI W L k)).map λk=>k.map Int.toNat
section
variable{W:Wy}{cs rs:List Nat}
theorem jj:y∈nwI W L k↔∃r∈L,∃v∈W k r,y=nI (less r v):=by
 unfold nwI;constructor
 ·intro h
  obtain⟨r,a,h⟩:=O6.mp h;obtain⟨v,b,rfl⟩:=Nw.mp h;exact⟨r,a,v,b,rfl⟩
 ·rintro⟨r,a,v,b,rfl⟩
  exact O6.mpr ⟨r,a,Nw.mpr ⟨v,b,rfl⟩⟩
theorem wu(L:List (List Nat))(k:Nat):(nwL W L k).map nI=ku (nwI W L k):=by
 unfold nwL;rw[Nk];refine(NT λy a=>?_).trans (TY _);obtain⟨r,_,v,_,rfl⟩:=jj.mp (dI.mp a);show nI ((nI _).map Int.toNat)=_;rw[rH];rfl
theorem lR:u∈nwL W L k↔∃r∈L,∃v∈W k r,u=less r v:=by
 constructor
 ·intro h
  have:nI u∈ku (nwI W L k):=by rw[←wu];exact Nw.mpr ⟨u,h,rfl⟩
  obtain⟨r,a,v,b,e⟩:=jj.mp (dI.mp this);exact⟨r,a,v,b,kW e⟩
 ·rintro⟨r,a,v,b,rfl⟩
  exact Nw.mpr ⟨nI (less r v),dI.mpr (jj.mpr ⟨r,a,v,b,rfl⟩),rH _⟩
def lvW(W:Wy)(rs:List Nat):Nat->List (List Nat)
 |0=>[rs]
 |k+1=>nwL W (lvW W rs k) k
theorem tH:∀k,(lvW W rs k).Nodup
 |0=>Sz _ _
 |k+1=>yr (f:=nI) (by show(OG nI (nwL _ _ _)).Nodup;rw[wu];exact EK (lI _))
theorem fZ(b:WOk cs W)(hs:rs.sum=cs.sum):∀k,k<=cs.length->∀r∈lvW W rs k,LeN r rs/\r.sum=(cs.drop k).sum
 |0,_,r,h=>by cases NU.mp h;exact⟨LeN.refl _,hs⟩
 |k+1,hk,u,h=>by
  obtain⟨r,c,v,a,rfl⟩:=lR.mp (show u∈nwL W (lvW W rs k) k from h);have a:=(b k r).subset a;obtain⟨q1,q2⟩:=fZ b hs k (by omega) r c;have q3:=(jA a).2.1;rw[q2,qO (by omega),NJ]at q3;exact⟨(dQ a).less.tr q1,by omega⟩
theorem Ix(a:WOk cs W)(hs:rs.sum=cs.sum)(b:k<=cs.length):(lvW W rs k).length<=pr (rs.dropLast.map (·+1)):=
 NG (fY (tH k) (m:=bU rs (cs.drop k).sum) λr c=>by
  obtain⟨d,e⟩:=fZ a hs k b r c;rw[←e];exact nc d) (mK _ _)
theorem HW(a:WOk cs W)(hs:rs.sum=cs.sum)(e:1<=rs.length)(f:pr (rs.dropLast.map (·+1))<63)(g:k<cs.length):jF ((nwI W (lvW W rs k) k).map tpI)=on (.lst ((lvW W rs (k+1)).map λr=>tpI (nI r))):=by
 refine(Jr (m:=(bU rs (cs.drop (k+1)).sum).map nI) ?_ (by rw[MZ];exact Pi (mK _ _) f) ?_).trans ?_
 ·intro x b
  obtain⟨r,c,v,d,rfl⟩:=jj.mp b;rw[MZ,((dQ ((a k r).subset d)).less.tr (fZ a hs k (by omega) r c).1).len];exact e
 ·intro x b
  obtain⟨r,c,v,d,rfl⟩:=jj.mp b;obtain⟨q1,q2⟩:=fZ a hs (k+1) g (less r v) (lR.mpr ⟨r,c,v,d,rfl⟩);exact Nw.mpr ⟨less r v,by rw[←q2];exact nc q1,rfl⟩
 ·rw[←wu,Nk];rfl
def kyW(W:Wy)(rs:List Nat)(n:Nat):List (Int×List Int):=(Nd n).flatMap λk=>(lvW W rs k).map λr=>((k:Int),nI r)
theorem tQ:∀n,(kyW W rs n).Nodup
 |0=>List.nodup_nil
 |n+1=>by
  unfold kyW;rw[Qg,QG,Om,List.flatMap_nil,NV];refine Tz.mpr ⟨tQ n,yu (λr s e=>kW (RI.mp e).2) (tH n),λx a y b e=>?_⟩;subst e;obtain⟨k,c,h⟩:=O6.mp a;obtain⟨r,_,rfl⟩:=Nw.mp h;obtain⟨s,_,e⟩:=Nw.mp b;have:=(RI.mp e).1;have d:=Nz.mp c;simp only at this;omega
def tbW(W:Wy):Nat->Nat->List Nat->Nat
 |0,_,_=>1
 |j+1,k,r=>sm (W k r) λv=>tbW W j (k+1) (less r v)
def dlW(W:Wy):Nat->Nat->List Nat->Nat
 |0,_,_=>1
 |j+1,k,r=>sm (W k r) λv=>mu v*dlW W j (k+1) (less r v)
theorem Js{α:Type}{f g:α->Nat}{l m:List α}(h:l.Sublist m)(q:∀a∈m,f a<=g a):sm l f<=sm m g:=by
 induction h with
 |slnil=>exact Nh _
 |cons a _ ih=>rw[bW];exact NG (ih λx b=>q x (M5 _ b)) (Nat.le_add_left _ _)
 |cons_cons a _ ih=>rw[bW,bW];exact Uz (q a Nb) (ih λx b=>q x (M5 _ b))
theorem uh(a:WOk cs W):∀(j k:Nat) (r:List Nat),k+j=cs.length->dlW W j k r<=dls r (cs.drop k)
 |0,k,r,h=>by rw[show k=cs.length by omega,Qw];exact Nh _
 |j+1,k,r,h=>by
  rw[qO (by omega)];exact Js (a k r) λv _=>Nat.mul_le_mul_left _ (uh a j (k+1) (less r v) (by omega))
noncomputable def box:List (Nat×Nat)->List Nat->List (List Nat)
 |p::ps,x::r=>(Nd (Qk p.2 x+1-p.1)).flatMap λi=>(box ps r).map ((p.1+i)::·)
 |_,_=>[[]]
theorem ze:∀{ps:List (Nat×Nat)} {r:List Nat} {c:Nat},ps.length=r.length->(box ps r).filter (λv=>decide (v.sum=c))=vB ps r c
 |[],[],c,_=>by cases c<;>rfl
 |p::ps,x::r,c,h=>by
  have h':ps.length=r.length:=by simpa using h
  rw[pw,k9 (lo:=p.1) (n:=Qk (Qk x c+1) (Qk p.2 x+1)) (N:=Qk x c+1) (λa d ha=>?_) (Nat.min_le_left _ _)]
  ·show((Nd (Qk p.2 x+1-p.1)).flatMap λi=>(box ps r).map ((p.1+i)::·)).filter _=_
   rw[VF];have e:∀i,List.filter (λv=>decide (v.sum=c)) ((box ps r).map ((p.1+i)::·))=if p.1+i<=c then(vB ps r (c-(p.1+i))).map ((p.1+i)::·)else[]:=λi=>by
    rw[T7];by_cases q:p.1+i<=c
    ·rw[Nf q,←ze h']
     refine Oi (OG _) (Wm λv _=>?_);show decide (((p.1+i)::v).sum=c)=_;rw[NJ];exact decide_eq_decide.mpr (by omega)
    ·rw[M8 q,U1.mpr,OZ]
     intro v _ z;have z:decide (((p.1+i)::v).sum=c)=M2:=z;rw[NJ,NZ]at z;omega
   rw[dX λi _=>e i];rw[k9 (f:=λi=>if p.1+i<=c then(vB ps r (c-(p.1+i))).map ((p.1+i)::·)else[]) (lo:=0) (n:=Qk (Qk x c+1) (Qk p.2 x+1)-p.1) (N:=Qk p.2 x+1-p.1) (λa ha q=>⟨OC _,?_⟩) (by omega),Nat.sub_zero]
   ·refine dX λi b=>?_
    have:=Nz.mp b;rw[Pl,Nf (by omega),Nf (by omega)]
   ·by_cases z:p.1+a<=c
    ·omega
    ·rw[M8 z]at q;exact NE rfl q
  ·by_cases q:p.1<=a/\a<=p.2
   ·omega
   ·rw[M8 q]at ha;exact NE rfl ha
noncomputable def gro(ps:List (Nat×Nat))(r:List Nat):Nat->List (List Nat)
 |0=>[[]]
 |k+1=>(gro ps r k).flatMap λu=>(Nd (Qk (ps.getD k (0,0)).2 (r.getD k 0)+1-(ps.getD k (0,0)).1)).map λi=>u++[(ps.getD k (0,0)).1+i]
theorem vx{ps:List (Nat×Nat)}{r:List Nat}(c:ps.length=r.length):∀k,k<=r.length->((gro ps r k).flatMap λu=>(box (ps.drop k) (r.drop k)).map (u++·))=box ps r
 |0,_=>by simp[gro]
 |k+1,h=>by
  rw[←vx c k (by omega)];show((gro ps r k).flatMap _).flatMap _=_;rw[oZ];refine dX λu _=>?_;have a:k<r.length:=by omega
  have b:k<ps.length:=by omega
  rw[Ot a,Ot b,eZ a,eZ b];show _=((Nd (Qk ps[k].2 r[k]+1-ps[k].1)).flatMap λi=>(box (ps.drop (k+1)) (r.drop (k+1))).map ((ps[k].1+i)::·)).map (u++·);rw[O5,Sw];refine dX λi _=>?_;rw[Nk];exact NT λv _=>by simp
theorem vt{ps:List (Nat×Nat)}{r:List Nat}(a:ps.length=r.length):gro ps r r.length=box ps r:=by
 rw[←vx a r.length (Nh _),Qw,←a,Qw];show _=(gro ps r ps.length).flatMap λu=>[u++[]];generalize gro ps r ps.length=l
 induction l with
 |nil=>rfl
 |cons x l ih=>rw[Om,←ih,NV];rfl
theorem vq{r:List Nat}:∀k,k<=r.length->(gro ps r k).length<=pr ((r.take k).map (·+1))
 |0,_=>Nh _
 |k+1,h=>by
  have e:r[k]?=on r[k]:=M6 (by omega);rw[ji e];refine NG (fI (n:=r[k]+1) λb _=>?_) (Rw _ (vq k (by omega)));rw[MZ,ND,eZ (show k<r.length by omega)];omega
theorem yS:∀k,∀u∈gro ps r k,u.length=k
 |0,b,h=>by cases NU.mp h;rfl
 |k+1,b,h=>by
  obtain⟨d,hd,a⟩:=O6.mp (show b∈(gro ps r k).flatMap _ from h);obtain⟨i,_,rfl⟩:=Nw.mp a;rw[Ny,yS k d hd];rfl
theorem Jp:∀{r:List Nat},r.sum=0->r=Nx r.length 0
 |[],_=>rfl
 |x::r,h=>by
  rw[NJ]at h;obtain rfl:x=0:=by omega
  rw[Nm,NX,←Jp (r:=r) (by omega)]
theorem i7:∀{l:List Nat} {i x y:Nat},l[i]?=on x->(l.set i y).sum+x=l.sum+y
 |a::l,0,x,y,h=>by
  cases h;show(y::l).sum+a=(a::l).sum+y;rw[NJ,NJ];omega
 |a::l,i+1,x,y,h=>by
  have:=i7 (l:=l) (i:=i) (x:=x) (y:=y) h;show(a::l.set i y).sum+x=(a::l).sum+y;rw[NJ,NJ];omega
end
end L2.Nt
namespace Law
open PySem L2 L2.Pu
open L2.Hs (sZ oO jK u8 sY sF qV)
noncomputable def top(i:Nat):OA:=PySem.Challenge.pw_edgetally_k22_whole_paper_adds_up.main.body.getD i (.Pass ⟨0,0,0,0⟩)
abbrev xV:OA:=top 13
abbrev kE:OA:=top 14
abbrev kF:OA:=top 15
abbrev gX:OA:=top 16
abbrev mB:OA:=top 18
abbrev xS:OA:=top 19
abbrev oi:OA:=top 20
abbrev qy:OA:=top 22
abbrev j5:OA:=top 23
abbrev j6:OA:=top 24
abbrev qx:OA:=top 25
abbrev my:OA:=top 26
abbrev qA:OA:=top 27
abbrev mC:OA:=top 28
abbrev kD:OA:=top 31
abbrev gy:OA:=top 32
abbrev gz:OA:=top 33
abbrev jc:OA:=top 34
abbrev gY:OA:=top 35
abbrev j7:OA:=top 36
abbrev ix:OA:=top 37
abbrev kB:OA:=top 38
abbrev uS:OA:=top 41
abbrev sM:OA:=top 42
abbrev sL:OA:=top 43
abbrev sO:OA:=top 44
abbrev sJ:OA:=top 45
abbrev qz:OA:=top 46
abbrev n6:OA:=top 47
abbrev mz:OA:=top 48
abbrev jd:OA:=top 49
abbrev sP:OA:=top 50
abbrev oh:OA:=top 51
abbrev n9:OA:=top 52
abbrev uR:OA:=top 53
abbrev sN:OA:=top 54
abbrev j8:OA:=top 55
abbrev sK:OA:=top 56
abbrev uQ:OA:=top 57
abbrev kC:OA:=top 58
abbrev jf:OA:=aA (top 39) 0
abbrev mD:OA:=aA (top 39) 10
abbrev kG:OA:=aA (top 39) 7
abbrev iz:OA:=aA (top 39) 6
abbrev je:OA:=aA (top 39) 8
abbrev lL:OA:=top 59
abbrev sB:OA:=aA (top 2) 0
set_option genSizeOf false in
set_option genInjectivity false in
structure Ad where
 Aa:M3
 Ab:M3
 Ac:NK
 Ae:M3
 Af:M3
 Ag:NK
 Ah:M3
 Ai:NK
 Aj:M3
 Ak:NK
 Al:M3
 Am:NK
 An:M3
 Ao:NK
 Aq:M3
 Ar:NK
 As:M3
 At:NK
 Au:M3
 Av:NK
 Aw:M3
 Ax:NK
 Ay:M3
 Az:NK
 A0:M3
 A1:NK
 A2:M3
 A3:NK
 A4:M3
 A5:NK
 A6:M3
 A7:NK
 A8:M3
 A9:NK
 Ba:M3
 Bb:NK
 Bc:M3
 Bd:NK
 Be:M3
 Bf:NK
 Bh:M3
 Bi:NK
 Bj:M3
 Bk:NK
 Bl:M3
 Bm:NK
 Bn:M3
 Bo:NK
 Bp:M3
 Bq:NK
 Br:M3
 Bs:NK
 Bt:M3
 Bu:NK
 Bv:M3
 Bw:NK
 Bx:M3
 By:NK
 Bz:M3
 B0:NK
 B3:M3
 B4:NK
 B5:M3
 B7:NK
 B8:M3
 Ca:NK
 Cb:M3
 Cc:NK
 Cd:M3
 Cf:NK
 Cg:M3
 Ch:NK
 Ci:M3
 Cj:NK
 Ck:M3
 Cl:NK
 Cm:M3
 Cn:NK
 Co:M3
 Cp:NK
 Cq:M3
 Cr:NK
 Cs:M3
 Ct:NK
 Cu:M3
 Cv:NK
 Cw:M3
 Cy:NK
 Cz:M3
 C0:NK
 C2:M3
 C3:NK
 C4:M3
 C5:NK
 C6:M3
 C7:NK
structure Fns (K:NA) (mg:NY->Option M7) (a:Ad):Prop where
 C8:mg "ValueError"=MY
 C9:mg "abs"=MY
 Da:mg "any"=MY
 Db:mg "bool"=MY
 Dd:mg "enumerate"=MY
 Df:mg "int"=MY
 Dg:mg "isinstance"=MY
 Dh:mg "len"=MY
 Di:mg "list"=MY
 Dj:mg "max"=MY
 Dl:mg "min"=MY
 Dm:mg "range"=MY
 Do:mg "reversed"=MY
 Dp:mg "sorted"=MY
 Dq:mg "str"=MY
 Dr:mg "sum"=MY
 Dt:mg "tuple"=MY
 Du:mg "zip"=MY
 Dv:mx K mg "MOST" (.int 40)
 Dw:mx K mg "MOST_COLUMNS" (.int 6)
 Dx:mx K mg "MOST_ROWS" (.int 4)
 Dy:mx K mg "WIDE" (.int 500)
 Dz:FunD K "free" "free" xV a.Af a.Ag
 D0:mg "free"=on (.ref a.Af)
 D3:eG K a.Ag ["rows","columns","pair"] [.tup [.int 0,.int 40]]
 D4:FunD K "check_sums" "check_sums" kE a.Ah a.Ai
 D5:mg "check_sums"=on (.ref a.Ah)
 D6:aC K a.Ai ["rowsums","columnsums"] []
 D7:FunD K "check_pair" "check_pair" kF a.Aj a.Ak
 D8:mg "check_pair"=on (.ref a.Aj)
 D9:aC K a.Ak ["pair"] []
 Ea:FunD K "settled_bounds" "settled_bounds" gX a.Al a.Am
 Eb:mg "settled_bounds"=on (.ref a.Al)
 Ec:aC K a.Am ["bounds","rows","columns"] []
 Ed:FunD K "factorial" "factorial" mB a.An a.Ao
 Ee:mg "factorial"=on (.ref a.An)
 Ef:aC K a.Ao ["number"] []
 Eg:FunD K "ways" "ways" xS a.Aq a.Ar
 Eh:mg "ways"=on (.ref a.Aq)
 Ei:aC K a.Ar ["parts"] []
 Ej:FunD K "fillings" "fillings" oi a.As a.At
 Ek:mg "fillings"=on (.ref a.As)
 El:aC K a.At ["rests","many","pairs"] []
 Em:FunD K "need_of" "need_of" qy a.Au a.Av
 En:mg "need_of"=on (.ref a.Au)
 Eo:aC K a.Av ["rowsums","over"] []
 Ep:FunD K "room_inside" "room_inside" j5 a.Aw a.Ax
 Er:mg "room_inside"=on (.ref a.Aw)
 Es:aC K a.Ax ["columnsums","bounds","over","column"] []
 Et:FunD K "room_beside" "room_beside" j6 a.Ay a.Az
 Eu:mg "room_beside"=on (.ref a.Ay)
 Ev:aC K a.Az ["bounds","over","column"] []
 Ew:FunD K "room_of" "room_of" qx a.A0 a.A1
 Ex:mg "room_of"=on (.ref a.A0)
 Ey:aC K a.A1 ["columnsums","bounds","over","into"] []
 Ez:FunD K "narrowest" "narrowest" my a.A2 a.A3
 E2:mg "narrowest"=on (.ref a.A2)
 E3:aC K a.A3 ["columnsums","bounds","over"] []
 E4:FunD K "choices" "choices" qA a.A4 a.A5
 E5:mg "choices"=on (.ref a.A4)
 E6:aC K a.A5 ["many"] []
 E7:FunD K "check_fit" "check_fit" mC a.A6 a.A7
 E8:mg "check_fit"=on (.ref a.A6)
 E9:aC K a.A7 ["rowsums","columnsums","bounds"] []
 Fa:FunD K "check_wide" "check_wide" kD a.A8 a.A9
 Fb:mg "check_wide"=on (.ref a.A8)
 Fc:aC K a.A9 ["rowsums"] []
 Fd:FunD K "settled_for_net" "settled_for_net" gy a.Ba a.Bb
 Fe:mg "settled_for_net"=on (.ref a.Ba)
 Ff:aC K a.Bb ["rowsums","columnsums","bounds"] []
 Fg:FunD K "column_fillings" "column_fillings" gz a.Bc a.Bd
 Fh:mg "column_fillings"=on (.ref a.Bc)
 Fi:aC K a.Bd ["rests","columnsums","bounds","column"] []
 Fj:FunD K "rests_behind" "rests_behind" jc a.Be a.Bf
 Fk:mg "rests_behind"=on (.ref a.Be)
 Fl:aC K a.Bf ["rests","counts"] []
 Fm:FunD K "nodes_by_level" "nodes_by_level" gY a.Bh a.Bi
 Fn:mg "nodes_by_level"=on (.ref a.Bh)
 Fo:aC K a.Bi ["rowsums","columnsums","bounds"] []
 Fp:FunD K "node_counts" "node_counts" j7 a.Bj a.Bk
 Fq:mg "node_counts"=on (.ref a.Bj)
 Fs:aC K a.Bk ["rests","filled","behind"] []
 Ft:FunD K "counted_nodes" "counted_nodes" ix a.Bl a.Bm
 Fu:mg "counted_nodes"=on (.ref a.Bl)
 Fv:aC K a.Bm ["rowsums","columnsums","bounds"] []
 Fw:FunD K "paper_rows" "paper_rows" kB a.Bn a.Bo
 Fy:mg "paper_rows"=on (.ref a.Bn)
 Fz:aC K a.Bo ["counted"] []
 F4:FunD K "_law_bag" "_law_bag" uS a.Bp a.Bq
 F5:mg "_law_bag"=on (.ref a.Bp)
 F6:aC K a.Bq ["_law_script"] []
 F7:FunD K "_law_pull" "_law_pull" sM a.Br a.Bs
 F8:mg "_law_pull"=on (.ref a.Br)
 F9:aC K a.Bs ["_law_bag_here","_law_lot"] []
 Ga:FunD K "_law_same" "_law_same" sL a.Bt a.Bu
 Gb:mg "_law_same"=on (.ref a.Bt)
 Gc:aC K a.Bu ["_law_found","_law_due"] []
 Gd:FunD K "_law_grid" "_law_grid" sO a.Bv a.Bw
 Ge:mg "_law_grid"=on (.ref a.Bv)
 Gf:aC K a.Bw ["_law_bag_here","_law_block","_law_columns","_law_things"] []
 Gg:FunD K "_law_wide" "_law_wide" sJ a.Bx a.By
 Gi:mg "_law_wide"=on (.ref a.Bx)
 Gj:aC K a.By ["_law_bag_here"] []
 Gk:FunD K "_law_large" "_law_large" qz a.Bz a.B0
 Gm:mg "_law_large"=on (.ref a.Bz)
 Gn:aC K a.B0 ["_law_bag_here"] []
 Go:FunD K "_law_turned" "_law_turned" n6 a.B3 a.B4
 Gp:mg "_law_turned"=on (.ref a.B3)
 Gq:aC K a.B4 ["_law_block"] []
 Gr:FunD K "_law_rowsums" "_law_rowsums" mz a.B5 a.B7
 Gs:mg "_law_rowsums"=on (.ref a.B5)
 Gu:aC K a.B7 ["_law_grid_here"] []
 Gv:FunD K "_law_columnsums" "_law_columnsums" jd a.B8 a.Ca
 Gx:mg "_law_columnsums"=on (.ref a.B8)
 Gy:aC K a.Ca ["_law_grid_here"] []
 Gz:FunD K "_law_free" "_law_free" sP a.Cb a.Cc
 G0:mg "_law_free"=on (.ref a.Cb)
 G1:aC K a.Cc ["_law_block","_law_columns"] []
 G2:FunD K "_law_bounds" "_law_bounds" oh a.Cd a.Cf
 G3:mg "_law_bounds"=on (.ref a.Cd)
 G4:aC K a.Cf ["_law_bag_here","_law_grid_here"] []
 G5:FunD K "_law_copied" "_law_copied" n9 a.Cg a.Ch
 G6:mg "_law_copied"=on (.ref a.Cg)
 G7:aC K a.Ch ["_law_block"] []
 G8:FunD K "_law_fit" "_law_fit" uR a.Ci a.Cj
 G9:mg "_law_fit"=on (.ref a.Ci)
 Ha:aC K a.Cj ["_law_rests","_law_lot","_law_pairs"] []
 Hb:FunD K "_law_less" "_law_less" sN a.Ck a.Cl
 Hc:mg "_law_less"=on (.ref a.Ck)
 Hd:aC K a.Cl ["_law_rests","_law_column"] []
 He:FunD K "_law_factorial" "_law_factorial" j8 a.Cm a.Cn
 Hf:mg "_law_factorial"=on (.ref a.Cm)
 Hg:aC K a.Cn ["_law_lot"] []
 Hh:FunD K "_law_ways" "_law_ways" sK a.Co a.Cp
 Hi:mg "_law_ways"=on (.ref a.Co)
 Hj:aC K a.Cp ["_law_parts"] []
 Hk:FunD K "_law_net" "_law_net" uQ a.Cq a.Cr
 Hl:mg "_law_net"=on (.ref a.Cq)
 Hm:aC K a.Cr ["_law_grid_here","_law_limits"] []
 Hn:FunD K "_law_row_good" "_law_row_good" kC a.Cs a.Ct
 Ho:mg "_law_row_good"=on (.ref a.Cs)
 Hq:aC K a.Ct ["_law_row","_law_known","_law_columnsums_here","_law_limits"] []
 Hr:FunD K "__init__" "Net.__init__" jf a.Cu a.Cv
 Ht:Mk K a.Ae a.Cu
 Hu:KwOk K a.Cv ["self","rowsums","columnsums","bounds"] ["bounds"] 3 [.kw 0]
 Hv:FunD K "paper" "Net.paper" mD a.Cw a.Cy
 Hw:Meth K a.Ae "paper" a.Cw
 Hx:aC K a.Cy ["self"] []
 Hy:FunD K "tables" "Net.tables" kG a.Cz a.C0
 Hz:Meth K a.Ae "tables" a.Cz
 Ia:aC K a.C0 ["self"] []
 Ib:FunD K "counts_at" "Net.counts_at" iz a.C2 a.C3
 Id:Meth K a.Ae "counts_at" a.C2
 Ie:aC K a.C3 ["self","level","rests"] []
 Ig:FunD K "dealings" "Net.dealings" je a.C4 a.C5
 Ih:Meth K a.Ae "dealings" a.C4
 Ii:aC K a.C5 ["self"] []
 Ij:Cls K a.Ae
 Ik:mg "Net"=on (.ref a.Ae)
 Il:dA K a.Ae "column_list"
 Im:dA K a.Ae "counted"
 Io:dA K a.Ae "pairs"
 Ip:dA K a.Ae "row_list"
 Iq:FunD K "__init__" "EdgeError.__init__" sB a.Ab a.Ac
 Ir:aC K a.Ac ["self","word","why"] []
 Iu:mg "EdgeError"=on (.ref a.Aa)
 Iw:ClsFn K a.Aa "__init__" a.Ab
section
variable(P:NQ)(w:N0){K:NA}{mg:NY->Option M7}(base:Ox){a:Ad}
theorem iu:FnScope ["_law_bag_here","_law_lot","_law_cells","_law_at","_law_cell"] ["_law_bag_here","_law_lot"] (ae sM):=fsc
theorem yk(N:Fns K mg a):FnOk P w K mg base (CXE P w) 2 a.Br a.Bs ["_law_bag_here","_law_lot"] (spF K 2 gG):=by
 refine N.F7.ok (k:=1) iu (λvs H Q E h=>h.1) (λY A outer s H vs Q E hr h=>?_);obtain⟨_,F,ds,β,fr,hd,r,Z,e,k⟩:=h;obtain⟨lot,rfl,ok,I,h1,rfl,rfl⟩:=yw e;obtain⟨v,w',rfl,d1,d2⟩:=DenL.two hd;unfold Den at d1;obtain⟨b,l,d,rfl⟩:=d1;cases d2.int;obtain⟨t,J⟩:=fr.bag b l d;obtain⟨ab,al,m⟩:=fr.bgA b l d;obtain⟨W,L,hc0,X⟩:=ok.at;obtain⟨_,_,hcp,_⟩:=uW ok I;have len:((β.cells.map V.int).length:Int)=(β.cells.length:Int):=by rw[MZ]
 have O:atI (β.cells.map V.int) (β.pos:Int)=on (.int β.cell):=I0 (by rw[M9,L];rfl);refine⟨_,cA (oz (i:=2) iu.nd rfl (Po rfl) (fN dD (pv 0) bz (λ_ _=>rfl)))
  (cA (oz (i:=3) iu.nd rfl (Po rfl) (dj kQ (fN dD (pv 0) bz (λ_ _=>rfl)) (jJ li (by rfl) N.Dh Uh (dU (pv 2) hZ))))
  (cA (oz (i:=4) iu.nd rfl (Po rfl) (fN dD (pv 2) (pv 3) (λ_ _=>rfl)))
  (cA (EX (uX Mq (pv 4) (dj JZ bz bz) (tq _))
   (cA (eW (dj u9 (pv 4) (pv 1)) (hX (pv 2) (pv 3) ft)) (lM (ay (dj kQ (pv 4) (pv 1))))) pI)
  (cA (eW (dj oB (fN dD (pv 0) bz (λ_ _=>rfl)) bz) (hX (pv 0) bz ft))
  (cA (eW (dj kQ (dj J1 (dj oB (dj oB (fN dD (pv 0) bz (λ_ _=>rfl)) (dj kQ (pv 4) bz)) bz) bz) bz) (hX (pv 0) bz ft))
  (lM (ay (dj kQ (dj u9 (fN dD (pv 0) bz (λ_ _=>rfl)) bz) (pv 1))))))))),?_⟩
 refine⟨_,rfl,b,_,_,_,rfl,rfl,SqL.of t,rfl,?_⟩;refine⟨_,rfl,b,_,_,_,rfl,rfl,SqL.of t,rfl,_,rfl,l,_,rfl,.inl (SqL.of J),_,_,rfl,rfl,?_,?_⟩
 ·have:=W
  rw[len];omega
 refine⟨_,rfl,_,rfl,l,_,_,_,rfl,rfl,SqL.of J,by rw[len,X];exact O,?_⟩;refine⟨_,rfl,_,_,rfl,rfl,⟨by decide,by decide,by decide⟩,_,_,rfl,rfl,_,rfl,?_⟩;have occ:∀{R:Hp} {p:M3} {o:HO},(∀c,F.A c->R c≠MY)->∀c,F.A c->upd R p o c≠MY:=λ{R p o} f c u z=>by
  by_cases q:c=p
  ·subst q;rw[ah]at z;cases z
  ·rw[upd_ne q]at z;exact f c u z
 refine ite2 (λg=>?_) (λg=>?_)
 ·have big:(10:Int)^18<=β.cell:=PP g
  refine⟨_,rfl,_,rfl,_,_,rfl,rfl,⟨I,h1⟩,_,rfl,_,rfl,l,_,_,β.pos,rfl,rfl,J,?_,?_⟩
  ·rw[len,X,MZ]
   exact IG W
  refine⟨_,rfl,_,rfl,_,_,rfl,rfl,I,?_⟩;have T:iC β lot=β.cell % lot:=Nf big;have U:jI β lot=⟨β.cells.set β.pos (β.cell/lot),β.i,β.j⟩:=Nf big;rw[T,U]at k;refine k _ _ ⟨λc o u n=>by rw[upd_ne (n b l d).2];exact u,occ fr.occ,fr.bgA,λb' l' y=>?_⟩ rfl;rw[d]at y;cases y;exact⟨by rw[upd_ne m];exact t,by rw[ah,RG]⟩
 ·have big:¬(10:Int)^18<=β.cell:=λq=>g (NF q)
  refine⟨_,rfl,b,_,_,_,rfl,rfl,SqL.of t,rfl,_,_,rfl,rfl,_,rfl,b,_,_,1,rfl,rfl,t,rfl,?_⟩;have B:(upd H b (.lst [.ref l,.int (β.i+1),.int β.j])) b=on (.lst [.ref l,.int (β.i+1),.int β.j]):=ah;refine⟨_,rfl,b,_,_,_,rfl,rfl,SqL.of B,rfl,_,rfl,_,_,rfl,rfl,(by show(0:Int)<2147483629;decide),_,_,rfl,rfl,_,_,rfl,rfl,_,_,rfl,rfl,.inr ⟨by decide,by decide⟩,_,_,rfl,rfl,(by show(0:Int)<2147483629;decide),_,rfl,b,_,_,2,rfl,rfl,B,rfl,?_⟩;have C:(upd (upd H b (.lst [.ref l,.int (β.i+1),.int β.j])) b (.lst [.ref l,.int (β.i+1),.int β.nxt])) b=on (.lst [.ref l,.int (β.i+1),.int β.nxt]):=ah;refine⟨_,rfl,b,_,_,_,rfl,rfl,SqL.of C,rfl,_,_,rfl,rfl,⟨by decide,by decide⟩,_,rfl,_,_,rfl,rfl,I,?_⟩;have T:iC β lot=β.nxt/64 % lot:=M8 big;have U:jI β lot=⟨β.cells,β.i+1,β.nxt⟩:=M8 big;rw[T,U]at k;refine k _ _ ⟨λc o u n=>by rw[upd_ne (n b l d).1,upd_ne (n b l d).1];exact u,occ (occ fr.occ),fr.bgA,λb' l' y=>?_⟩ rfl;rw[d]at y;cases y;exact⟨C,by rw[upd_ne m.symm,upd_ne m.symm];exact J⟩
theorem zO:FnScope ["_law_script"] ["_law_script"] (ae uS):=fsc
theorem nd1:(["_law_cell"]:List NY).Nodup:=by decide +kernel
theorem AA(N:Fns K mg a):FnOk P w K mg base (CXE P w) 1 a.Bp a.Bq ["_law_script"] (Mc K):=by
 refine N.F4.ok zO (λvs H Q E h=>?_) (λX A outer s H vs Q E hr h=>?_)
 ·obtain⟨a,ns,rfl,_⟩:=h
  rfl
 ·obtain⟨a,ns,rfl,Y,k⟩:=h
  refine⟨_,lM (ay (fW (dU (dj J3 (lN rfl (vars:=["_law_cell"]) (CmpScope.plain rfl (by decide +kernel) (by decide +kernel)) (HH (m6 uO (pv 0) u4 (u3 bz)))
   (λcl C fp s H=>⟨u6 (i:=0) nd1 rfl (Po rfl),sX,λD=>aJ rfl (jJ BT (by rfl) N.C9 PyProof.Rows.Boot.«abs» (dU (pv 0) hZ)) rfl⟩)) (fW (dU bz hZ))) (dU bz (dU bz hZ))))),?_⟩
  obtain⟨q,I,Z⟩:=MU ns;refine⟨_,rfl,63,rfl,a,_,rfl,Y,λp hp=>?_⟩;rw[I];have L:bv H (upd H p (.lst (q.map V.int))):=bv.upd hp;refine⟨p,rfl,⟨_,SqL.of ah⟩,λD B=>?_⟩;have r:D≠p:=λz=>by subst z;rw[ah]at B;cases B
  refine w4 (xs:=q.map V.int) (λi F g=>∃cs:List Int,(∃v,F=[v])/\cs.length=i/\(∀c∈cs,0<=c)/\g D=on (.lst (cs.map V.int))/\g p=on (.lst (q.map V.int))/\bv H g) ⟨[],⟨_,rfl⟩,rfl,(λ_ h=>nomatch h),ah,by rw[upd_ne r.symm,ah],L.trans (bv.upd B)⟩
   (λi F g _ ⟨_,_,_,_,_,e,_⟩=>SqL.of e) ?_ ?_
  ·rintro i x F g n ⟨cs,⟨v,rfl⟩,l,m,d,t,u⟩
   have hil:i<q.length:=by have:=(Nj.mp n).1;rwa[MZ]at this
   obtain⟨z,rfl⟩:∃z,x=V.int z:=by
    rw[M9]at n;cases e:q[i]? with
    |none=>rw[e]at n;cases n
    |some z=>rw[e]at n;exact⟨z,(NN n).symm⟩
   unfold dH Jj;refine iteT ?_;refine⟨_,rfl,_,rfl,cs.map V.int,d,by rw[MZ];exact qv (by omega),cs++[if z<0 then -z else z],⟨_,rfl⟩,by rw[Ny,l];rfl,λc hc=>?_,by rw[ah,NR];rfl,by rw[upd_ne r.symm];exact t,λb o e=>?_⟩
   ·rcases OE.mp hc with hc|hc
    ·exact m c hc
    ·obtain rfl:c=_:=by simpa using hc
     split<;>omega
   ·rw[upd_ne (aw e (L.free B))]
    exact u b o e
  ·rintro F g ⟨cs,⟨v,rfl⟩,l,m,d,t,u⟩
   rw[MZ]at l;refine⟨by decide,λO j=>⟨D,O,_,_,rfl,rfl,by rw[upd_ne (aw d j)];exact d,ah,by rw[MZ];exact SM (qv (by simp;omega)),λR y=>⟨(by show 3<=Nr;decide),λT f=>?_⟩⟩⟩;have U:bv g (upd g O (.lst [V.int 1])):=bv.upd j;have W:=U.trans (bv.upd (o:= .lst (cs.map V.int++[V.int 1])) y);have J:R≠T:=λz=>by subst z;rw[ah]at f;cases f
   refine k T R _ ((u.trans W).free f) ((u.trans U).free y) ⟨cs++[1],0,0,ah,by rw[upd_ne J,ah,NR];rfl,by simp,by rw[Ny];simp;omega,λc hc=>?_,by decide⟩ ((u.trans W).trans (bv.upd f));rcases OE.mp hc with hc|hc
   ·exact m c hc
   ·obtain rfl:c=1:=by simpa using hc
    decide
theorem iJ(N:Fns K mg a):FB P w K mg base 2 "_law_pull" a.Br a.Bs ["_law_bag_here","_law_lot"] 2 gG:=⟨yk P w base N,N.F8,N.F7.kp,N.F9⟩
abbrev QF(K:NA)(a:Ad)(k:Nat)(x:NY)(f:M3)(d:NK)(ps:List NY)(n:Nat):={m:List D->M D//∀(P:NQ) (w:N0) {mg:NY->Option M7} (base:Ox) (N:Fns K mg a),FB P w K mg base k x f d ps n m}
abbrev QM(K:NA)(a:Ad)(k:Nat)(f:M3)(d:NK)(ps:List NY)(n:Nat):={m:List D->M D//∀(P:NQ) (w:N0) {mg:NY->Option M7} (base:Ox) (N:Fns K mg a),FnOk P w K mg base (CXE P w) k f d ps (spF K n m)}
theorem GX:FnScope ["rows","columns","pair"] ["rows","columns","pair"] (ae xV):=fsc
def JI(K:NA)(a:Ad):QM K a 2 a.Af a.Ag ["rows","columns","pair"] 3:=⟨_,λP w mg base N=>by
 exact bc (k:=1) 3 3 _ N.Dz GX rfl rfl λb A outer s H E d=>ai (aD (ay (aZ rfl (cso ["row","pair","columns"] ["row"] [2,1]) (ci (by rfl) N.Dm (va1 (vv 0))) (λcl C c s H=>⟨(pgN 0 ndc),aQ,λD=>aJ rfl (aZ rfl (cso ["column","pair"] ["column"] [1]) (ci (by rfl) N.Dm (va1 (vv 2))) (λcl C c s H=>⟨(pgN 0 ndc),aQ,λD=>aJ rfl (vv 1) rfl⟩) ak au (λD=>aP)) rfl⟩) ak au (λD=>aP))))⟩
theorem rc:FnScope ["rowsums","columnsums"] ["rowsums","columnsums"] (ae kE):=fsc
def hG(K:NA)(a:Ad):QF K a 2 "check_sums" a.Ah a.Ai ["rowsums","columnsums"] 2:=⟨_,λP w mg base N=>⟨by
 exact bc (k:=1) 2 2 _ N.D4 rc rfl rfl λb A outer s H E c=>af (bR (lF (uI jN jN np np (ag) (c8 N.Dh (va1 (vv 0))) (kj N.Dx))) (ai (dC)) (bo))
   (af (bR (lF (uI jN jN np np (ag) (c8 N.Dh (va1 (vv 1))) (kj N.Dw))) (ai (dC)) (bo))
   (af (bR (i6 (pp (jE (bK (lj rfl) wK (by rfl) N.Da PyProof.Rows.Boot.«any» (va1 (aZ rfl (cso ["many"] ["many"] []) (aY (vv 0)) (λcl C d s H=>⟨(pgN 0 ndc),aQ,λD=>aJ rfl (lE rG wH (vv 0) (ag)) rfl⟩) ak au (λD=>aP))))) (lC (jE (bK (lj rfl) wK (by rfl) N.Da PyProof.Rows.Boot.«any» (va1 (aZ rfl (cso ["many"] ["many"] []) (aY (vv 1)) (λcl C d s H=>⟨(pgN 0 ndc),aQ,λD=>aJ rfl (lE rG wH (vv 0) (ag)) rfl⟩) ak au (λD=>aP)))))))) (ai (dC)) (bo))
   (af (bR (bi (d8 c) fP (fj N.Dr (va1 (vv 0))) (fj N.Dr (va1 (vv 1)))) (ai (dC)) (bo))
   (ai (bR (bi wq BA (fj N.Dr (va1 (vv 0))) (kj N.Dv)) (ai (dC)) (bo)))))),N.D5,N.D4.kp,N.D6⟩⟩
theorem gj:FnScope ["pair","low","high"] ["pair"] (ae kF):=fsc
def hV(K:NA)(a:Ad):QF K a 2 "check_pair" a.Aj a.Ak ["pair"] 1:=⟨_,λP w mg base N=>⟨by
 exact bc (k:=1) 1 3 _ N.D7 gj rfl rfl λb A outer s H E c=>af (EQ (kZ (cW aO (cW aO jk)) (cU (cU gU))) (eW (vv 0) (bF rfl (az (pgN 1 gj.nd) (az (pgN 2 gj.nd) bp)))))
   (ai (bR (lF (zD jN jN jN np np np (ag) (vv 1) (vv 2) (kj N.Dv))) (ai (dC)) (bo))),N.D8,N.D7.kp,N.D9⟩⟩
theorem dY:FnScope ["bounds","rows","columns","pairs","pair"] ["bounds","rows","columns"] (ae gX):=fsc
def cz(K:NA)(a:Ad):QF K a 3 "settled_bounds" a.Al a.Am ["bounds","rows","columns"] 3:=⟨_,λP w mg base N=>⟨by
 have c:=(JI K a).2 P w base N;have b:=(hV K a).2 P w base N
 exact bc (k:=2) 3 5 _ N.Ea dY rfl rfl λf A outer s H E d=>af (bR (bi s0 wI (vv 0) (vT)) (ai (aD (ay (GG c (d.mono (by decide)) (by rfl) N.D0 N.Dz.kp N.D3 gE (va2 (vv 1) (vv 2)) (λδ β r e h=>by rw[(bq (bq aN0)) δ β r e h];rfl))))) (bo))
   (af (bR (i6 (pp (bi (d8 d) fP (c8 N.Dh (va1 (vv 0))) (vv 1)) (lC (jE (bK (lj rfl) wK (by rfl) N.Da PyProof.Rows.Boot.«any» (va1 (aZ rfl (cso ["pairs","columns"] ["pairs"] [2]) (aY (vv 0)) (λcl C g s H=>⟨(pgN 0 ndc),aQ,λD=>aJ rfl (lE (d8 d) fP (c8 N.Dh (va1 (vv 0))) (vv 1)) rfl⟩) ak au (λD=>aP)))))))) (ai (dC)) (bo))
   (af (bD aO (bh cq rfl (aY (vv 0)) (pgN 3 dY.nd) (ai (bD aO (bh cq rfl (aY (vv 3)) (pgN 4 dY.nd) (ai (oj (eQ (vc b d (va1 (vv 4)))))))))))
   (ai (aD (ay (aZ rfl (cso ["pairs"] ["pairs"] []) (aY (vv 0)) (λcl C g s H=>⟨(pgN 0 ndc),aQ,λD=>aJ rfl (cy fc oM (by rfl) N.Di PyProof.Rows.Boot.«list» (va1 (vv 0))) rfl⟩) ak au (λD=>aP))))))),N.Eb,N.Ea.kp,N.Ec⟩⟩
theorem eU:FnScope ["number","product","factor"] ["number"] (ae mB):=fsc
def iR(K:NA)(a:Ad):QF K a 2 "factorial" a.An a.Ao ["number"] 1:=⟨_,λP w mg base N=>⟨by
 exact bc (k:=1) 1 3 _ N.Ed eU rfl rfl λb A outer s H E c=>af (aG (psS 1 eU.nd (ag)))
   (af (bD aO (bh cq rfl (jS (by rfl) N.Dm (va2 (ag) (aW aT bO (vv 0) (ag)))) (pgN 2 eU.nd) (ai (oo vg (kN (i:=1) eU.nd rfl (by first|exact Po rfl|exact QR rfl) (vv 2) vj)))))
   (ai (aD (ay (vv 1))))),N.Ee,N.Ed.kp,N.Ef⟩⟩
theorem i8:FnScope ["parts","part","told"] ["parts"] (ae xS):=fsc
def sV(K:NA)(a:Ad):QF K a 3 "ways" a.Aq a.Ar ["parts"] 1:=⟨_,λP w mg base N=>⟨by
 have b:=(iR K a).2 P w base N
 exact bc (k:=2) 1 3 _ N.Eg i8 rfl rfl λd A outer s H E c=>af (bD aO (bh cq rfl (aY (vv 0)) (pgN 1 i8.nd) (ai (bR (bi rG wH (vv 1) (ag)) (ai (dC)) (bo)))))
   (af (aG (psS 2 i8.nd (vc b c (va1 (bK (y9 rfl) Kk (by rfl) N.Dr PyProof.Rows.Boot.«sum» (va1 (vv 0)))))))
   (af (bD aO (bh cq rfl (aY (vv 0)) (pgN 1 i8.nd) (ai (oo AY (kN (i:=2) i8.nd rfl (by first|exact Po rfl|exact QR rfl) (vc b c (va1 (vv 1))) IJ)))))
   (ai (aD (ay (vv 2)))))),N.Eh,N.Eg.kp,N.Ei⟩⟩
theorem cu:FnScope ["rests","many","pairs","lows","tops","begun","row","fewest_behind","most_behind"] ["rests","many","pairs"] (ae oi):=fsc
def jH(K:NA)(a:Ad):QF K a 2 "fillings" a.As a.At ["rests","many","pairs"] 3:=⟨_,λP w mg base N=>⟨by
 exact bc (k:=1) 3 9 _ N.Ej cu rfl rfl λc A outer s H E d=>af (aG (psS 3 cu.nd (aZ rfl (cso ["low","high"] ["low","high"] []) (aY (vv 2)) (λcl C b s H=>⟨(bF rfl (az (pgN 0 ndc) (az (pgN 1 ndc) bp))),aQ,λD=>aJ rfl (vv 0) rfl⟩) (cS (aM ak (aM ak bZ)) (aK (aK bE))) (cR (aL au (aL au bX))) (λD=>aP))))
   (af (aG (psS 4 cu.nd (aZ rfl (cso ["rest","low","high"] ["rest","low","high"] []) (oV (by rfl) N.Du (va2 (vv 0) (vv 2))) (λcl C b s H=>⟨(bF rfl (az (pgN 0 ndc) (az (bF rfl (az (pgN 1 ndc) (az (pgN 2 ndc) bp))) bp))),aQ,λD=>aJ rfl (bK (iK rfl) rL (by rfl) N.Dl PyProof.Rows.Boot.«min» (va2 (vv 0) (vv 2))) rfl⟩) (cS (aM ak (aM (cS (aM ak (aM ak bZ)) (aK (aK bE))) bZ)) (aK (aK bE))) (cR (aL au (aL (cR (aL au (aL au bX))) bX))) (λD=>aP))))
   (af (aG (psS 5 cu.nd (cY (va1 (cm (va2 (cm (gT)) (vv 1)))))))
   (af (bD aO (bh cq rfl (ci (by rfl) N.Dm (va1 (c8 N.Dh (va1 (vv 0))))) (pgN 6 cu.nd) (af (aG (psS 7 cu.nd (fj N.Dr (va1 (uE (vv 3) (kR (aW aT bO (vv 6) (ag))) (kS))))))
   (af (aG (psS 8 cu.nd (fj N.Dr (va1 (uE (vv 4) (kR (aW aT bO (vv 6) (ag))) (kS))))))
   (ai (xU (i:=5) cu.nd rfl (by first|exact Po rfl|exact QR rfl) rfl (cso ["counts","left","count","lows","row","most_behind","tops","fewest_behind"] ["counts","left","count"] [3,6,8,4,7]) (aY (vv 5)) (λcl C b s H=>⟨(bF rfl (az (pgN 0 ndc) (az (pgN 1 ndc) bp))),aQ,λD=>pJ rfl rfl rfl (jS (by rfl) N.Dm (va2 (bK (qU rfl) FG (by rfl) N.Dj PyProof.Rows.Boot.«max» (va2 (bj aN bu (vv 3) (vv 4)) (aW fX iG (vv 1) (vv 5)))) (aW aT bO (bK (iK rfl) rL (by rfl) N.Dl PyProof.Rows.Boot.«min» (va2 (bj aN bu (vv 6) (vv 4)) (aW fX iG (vv 1) (vv 7)))) (ag)))) (pgN 2 ndc) (aQ) (aJ rfl (cm (va2 (aW aT bO (vv 0) (cm (va1 (vv 2)))) (aW fX iG (vv 1) (vv 2)))) rfl)⟩) (cS (aM ak (aM ak bZ)) (aK (aK bE))) (cR (aL au (aL au bX))) (λD=>ID ak au (aP))))))))
   (ai (aD (ay (aZ rfl (cso ["counts","left"] ["counts","left"] []) (aY (vv 5)) (λcl C b s H=>⟨(bF rfl (az (pgN 0 ndc) (az (pgN 1 ndc) bp))),rR (bi (d9 d) fQ (vv 1) (ag)),λD=>aJ rfl (vv 0) rfl⟩) (cS (aM ak (aM ak bZ)) (aK (aK bE))) (cR (aL au (aL au bX))) (λD=>aP)))))))),N.Ek,N.Ej.kp,N.El⟩⟩
theorem wb:FnScope ["rowsums","over"] ["rowsums","over"] (ae qy):=fsc
def kJ(K:NA)(a:Ad):QF K a 2 "need_of" a.Au a.Av ["rowsums","over"] 2:=⟨_,λP w mg base N=>⟨by
 exact bc (k:=1) 2 2 _ N.Em wb rfl rfl λb A outer s H E c=>ai (aD (ay (fj N.Dr (va1 (aZ rfl (cso ["row","rowsums"] ["row"] [0]) (aY (vv 1)) (λcl C d s H=>⟨(pgN 0 ndc),aQ,λD=>aJ rfl (bj aN bu (vv 1) (vv 0)) rfl⟩) ak au (λD=>aP)))))),N.En,N.Em.kp,N.Eo⟩⟩
theorem i9:FnScope ["columnsums","bounds","over","column","lows"] ["columnsums","bounds","over","column"] (ae j5):=fsc
def cN(K:NA)(a:Ad):QF K a 2 "room_inside" a.Aw a.Ax ["columnsums","bounds","over","column"] 4:=⟨_,λP w mg base N=>⟨by
 exact bc (k:=1) 4 5 _ N.Ep i9 rfl rfl λb A outer s H E c=>af (xU (i:=4) i9.nd rfl (by first|exact Po rfl|exact QR rfl) rfl (cso ["row","pairs","over","column"] ["row","pairs"] [2,3]) (oW (by rfl) N.Dd (va1 (vv 1))) (λcl C d s H=>⟨(bF rfl (az (pgN 0 ndc) (az (pgN 1 ndc) bp))),rR (bi kP (AZ (neg:=M2)) (vv 0) (vv 2)),λD=>aJ rfl (bj aN bu (bj aN bu (vv 1) (vv 3)) (ag)) rfl⟩) (cS (aM ak (aM ak bZ)) (aK (aK bE))) (cR (aL au (aL au bX))) (λD=>aP))
   (ai (aD (ay (aW fX iG (bj aN bu (vv 0) (vv 3)) (fj N.Dr (va1 (vv 4))))))),N.Er,N.Ep.kp,N.Es⟩⟩
theorem pB:FnScope ["bounds","over","column"] ["bounds","over","column"] (ae j6):=fsc
def cP(K:NA)(a:Ad):QF K a 2 "room_beside" a.Ay a.Az ["bounds","over","column"] 3:=⟨_,λP w mg base N=>⟨by
 exact bc (k:=1) 3 3 _ N.Et pB rfl rfl λb A outer s H E c=>ai (aD (ay (fj N.Dr (va1 (aZ rfl (cso ["row","bounds","column"] ["row"] [0,2]) (aY (vv 1)) (λcl C d s H=>⟨(pgN 0 ndc),aQ,λD=>aJ rfl (bj aN bu (bj aN bu (bj aN bu (vv 1) (vv 0)) (vv 2)) (ag)) rfl⟩) ak au (λD=>aP)))))),N.Eu,N.Et.kp,N.Ev⟩⟩
theorem wa:FnScope ["columnsums","bounds","over","into"] ["columnsums","bounds","over","into"] (ae qx):=fsc
def kI(K:NA)(a:Ad):QF K a 3 "room_of" a.A0 a.A1 ["columnsums","bounds","over","into"] 4:=⟨_,λP w mg base N=>⟨by
 have b:=(cN K a).2 P w base N;have c:=(cP K a).2 P w base N;exact bc (k:=2) 4 4 _ N.Ew wa rfl rfl λe A outer s H E d=>ai (aD (ay (fj N.Dr (va1 (aZ rfl (cso ["column","into","columnsums","bounds","over"] ["column"] [3,0,1,2]) (ci (by rfl) N.Dm (va1 (c8 N.Dh (va1 (vv 0))))) (λcl C f s H=>⟨(pgN 0 ndc),aQ,λD=>aJ rfl (v_if (bi yi (AZ (neg:=M4)) (vv 0) (vv 1)) (vc b d (va4 (vv 2) (vv 3) (vv 4) (vv 0))) (vc c d (va3 (vv 3) (vv 4) (vv 0)))) rfl⟩) ak au (λD=>aP)))))),N.Ex,N.Ew.kp,N.Ey⟩⟩
theorem sG:FnScope ["columnsums","bounds","over"] ["columnsums","bounds","over"] (ae my):=fsc
def iP(K:NA)(a:Ad):QF K a 3 "narrowest" a.A2 a.A3 ["columnsums","bounds","over"] 3:=⟨_,λP w mg base N=>⟨by
 have b:=(cN K a).2 P w base N;have c:=(cP K a).2 P w base N;exact bc (k:=2) 3 3 _ N.Ez sG rfl rfl λe A outer s H E d=>ai (aD (ay (aZ rfl (cso ["column","columnsums","bounds","over"] ["column"] [0,1,2]) (ci (by rfl) N.Dm (va1 (c8 N.Dh (va1 (vv 0))))) (λcl C f s H=>⟨(pgN 0 ndc),rR (bi rG wH (vc b d (va4 (vv 1) (vv 2) (vv 3) (vv 0))) (vc c d (va3 (vv 2) (vv 3) (vv 0)))),λD=>aJ rfl (vv 0) rfl⟩) ak au (λD=>aP)))),N.E2,N.Ez.kp,N.E3⟩⟩
theorem gB:FnScope ["many","told","number"] ["many"] (ae qA):=fsc
def kK(K:NA)(a:Ad):QF K a 2 "choices" a.A4 a.A5 ["many"] 1:=⟨_,λP w mg base N=>⟨by
 exact bc (k:=1) 1 3 _ N.E4 gB rfl rfl λb A outer s H E c=>af (aG (psS 1 gB.nd (cY (va1 (cY (gT))))))
   (af (bD aO (bh cq rfl (ci (by rfl) N.Dm (va1 (vv 0))) (pgN 2 gB.nd) (ai (aG (psS 1 gB.nd (aW aT bO (vv 1) (aZ rfl (cso ["chosen","number"] ["chosen"] [2]) (aY (vv 1)) (λcl C d s H=>⟨(pgN 0 ndc),aQ,λD=>aJ rfl (aW aT bO (vv 0) (cY (va1 (vv 1)))) rfl⟩) ak au (λD=>aP))))))))
   (ai (aD (ay (vv 1))))),N.E5,N.E4.kp,N.E6⟩⟩
theorem gW:FnScope ["rowsums","columnsums","bounds","over","into"] ["rowsums","columnsums","bounds"] (ae mC):=fsc
def d7(K:NA)(a:Ad):QF K a 4 "check_fit" a.A6 a.A7 ["rowsums","columnsums","bounds"] 3:=⟨_,λP w mg base N=>⟨by
 have c:=(kK K a).2 P w base N;have b:=(iP K a).2 P w base N;have d:=(kJ K a).2 P w base N;have e:=(kI K a).2 P w base N
 exact bc (k:=3) 3 5 _ N.E7 gW rfl rfl λg A outer s H E f=>ai (bD aO (bh cq rfl (aY (vc c f (va1 (c8 N.Dh (va1 (vv 0)))))) (pgN 3 gW.nd) (af (aG (psS 4 gW.nd (vc b f (va3 (vv 1) (vv 2) (vv 3)))))
   (ai (bR (bi wq BA (vc d f (va2 (vv 0) (vv 3))) (vc e f (va4 (vv 1) (vv 2) (vv 3) (vv 4)))) (ai (dC)) (bo)))))),N.E8,N.E7.kp,N.E9⟩⟩
theorem eD:FnScope ["rowsums","wide","many"] ["rowsums"] (ae kD):=fsc
def g9(K:NA)(a:Ad):QF K a 2 "check_wide" a.A8 a.A9 ["rowsums"] 1:=⟨_,λP w mg base N=>⟨by
 exact bc (k:=1) 1 3 _ N.Fa eD rfl rfl λb A outer s H E c=>af (aG (psS 1 eD.nd (ag)))
   (af (bD aO (bh cq rfl (aY (vv 0)) (pgN 2 eD.nd) (ai (oo vg (kN (i:=1) eD.nd rfl (by first|exact Po rfl|exact QR rfl) (aW aT bO (vv 2) (ag)) vj)))))
   (ai (bR (bi wq BA (vv 1) (kj N.Dy)) (ai (dC)) (bo)))),N.Fb,N.Fa.kp,N.Fc⟩⟩
theorem fU:FnScope ["rowsums","columnsums","bounds","settled"] ["rowsums","columnsums","bounds"] (ae gy):=fsc
def cZ(K:NA)(a:Ad):QF K a 4 "settled_for_net" a.Ba a.Bb ["rowsums","columnsums","bounds"] 3:=⟨_,λP w mg base N=>⟨by
 have c:=(hG K a).2 P w base N;have b:=(cz K a).2 P w base N;have d:=(g9 K a).2 P w base N
 exact bc (k:=3) 3 4 _ N.Fd fU rfl rfl λf A outer s H E e=>af (oj (eQ (vc c e (va2 (vv 0) (vv 1)))))
   (af (aG (psS 3 fU.nd (vc b e (va3 (vv 2) (c8 N.Dh (va1 (vv 0))) (c8 N.Dh (va1 (vv 1)))))))
   (af (oj (eQ (vc d e (va1 (vv 0)))))
   (ai (aD (ay (vv 3)))))),N.Fe,N.Fd.kp,N.Ff⟩⟩
theorem kA:FnScope ["rests","columnsums","bounds","column"] ["rests","columnsums","bounds","column"] (ae gz):=fsc
def ck(K:NA)(a:Ad):QF K a 3 "column_fillings" a.Bc a.Bd ["rests","columnsums","bounds","column"] 4:=⟨_,λP w mg base N=>⟨by
 have b:=(jH K a).2 P w base N;exact bc (k:=2) 4 4 _ N.Fg kA rfl rfl λc A outer s H E d=>ai (aD (ay (vc b d (va3 (vv 0) (bj aN bu (vv 1) (vv 3)) (aZ rfl (cso ["pairs","column"] ["pairs"] [3]) (aY (vv 2)) (λcl C e s H=>⟨(pgN 0 ndc),aQ,λD=>aJ rfl (bj aN bu (vv 0) (vv 1)) rfl⟩) ak au (λD=>aP)))))),N.Fh,N.Fg.kp,N.Fi⟩⟩
theorem nY:FnScope ["rests","counts"] ["rests","counts"] (ae jc):=fsc
def dT(K:NA)(a:Ad):QF K a 2 "rests_behind" a.Be a.Bf ["rests","counts"] 2:=⟨_,λP w mg base N=>⟨by
 exact bc (k:=1) 2 2 _ N.Fj nY rfl rfl λb A outer s H E c=>ai (aD (ay (cy cj fG (by rfl) N.Dt PyProof.Rows.Boot.«tuple» (va1 (aZ rfl (cso ["rest","count"] ["rest","count"] []) (oV (by rfl) N.Du (va2 (vv 0) (vv 1))) (λcl C d s H=>⟨(bF rfl (az (pgN 0 ndc) (az (pgN 1 ndc) bp))),aQ,λD=>aJ rfl (aW fX iG (vv 0) (vv 1)) rfl⟩) (cS (aM ak (aM ak bZ)) (aK (aK bE))) (cR (aL au (aL au bX))) (λD=>aP)))))),N.Fk,N.Fj.kp,N.Fl⟩⟩
theorem bL:FnScope ["rowsums","columnsums","bounds","here","told","column","behind"] ["rowsums","columnsums","bounds"] (ae gY):=fsc
def eJ(K:NA)(a:Ad):QF K a 4 "nodes_by_level" a.Bh a.Bi ["rowsums","columnsums","bounds"] 3:=⟨_,λP w mg base N=>⟨by
 have c:=(dT K a).2 P w base N;have b:=(ck K a).2 P w base N
 exact bc (k:=3) 3 7 _ N.Fm bL rfl rfl λe A outer s H E d=>af (aG (psS 3 bL.nd (cY (va1 (cy cj fG (by rfl) N.Dt PyProof.Rows.Boot.«tuple» (va1 (vv 0)))))))
   (af (rA (psS 4 bL.nd (fW (va1 (vv 3)))))
   (af (bD aO (bh cq rfl (ci (by rfl) N.Dm (va1 (c8 N.Dh (va1 (vv 1))))) (pgN 5 bL.nd) (af (aG (psS 6 bL.nd (zy (by rfl) N.Dp rfl (cso ["rests","counts","columnsums","bounds","column"] ["rests","counts"] [1,2,5]) (aY (vv 3)) (λcl C f s H=>⟨(pgN 0 ndc),aQ,λD=>pJ rfl rfl rfl (aY (vc b d (va4 (vv 0) (vv 2) (vv 3) (vv 4)))) (pgN 1 ndc) (aQ) (sZ (rO d) rfl (vc c d (va2 (vv 0) (vv 1))) rfl)⟩) ak au (λD=>ng ak au (AU)))))
   (af (rB (eQ (rF QT QC QD iE (pv 4) (va1 (vv 6)))))
   (ai (aG (psS 3 bL.nd (vv 6))))))))
   (ai (aD (ay (vv 4)))))),N.Fn,N.Fm.kp,N.Fo⟩⟩
theorem bx:FnScope ["rests","filled","behind","tables","dealings","counts","tables_behind","dealings_behind"] ["rests","filled","behind"] (ae j7):=fsc
def gm(K:NA)(a:Ad):QF K a 4 "node_counts" a.Bj a.Bk ["rests","filled","behind"] 3:=⟨_,λP w mg base N=>⟨by
 have b:=(dT K a).2 P w base N;have c:=(sV K a).2 P w base N
 exact bc (k:=3) 3 8 _ N.Fp bx rfl rfl λe A outer s H E d=>af (aG (psS 3 bx.nd (ag)))
   (af (aG (psS 4 bx.nd (ag)))
   (af (bD aO (bh cq rfl (aY (vv 1)) (pgN 5 bx.nd) (af (EQ (kZ (cW aO (cW aO jk)) (cU (cU gU))) (eW (bj (oO (hu2 d)) wJ (vv 2) (vc b d (va2 (vv 0) (vv 5)))) (bF rfl (az (pgN 6 bx.nd) (az (pgN 7 bx.nd) bp)))))
   (af (oo vh (kN (i:=3) bx.nd rfl (by first|exact Po rfl|exact QR rfl) (vv 6) yM))
   (ai (oo vh (kN (i:=4) bx.nd rfl (by first|exact Po rfl|exact QR rfl) (aW lQ rK (vc c d (va1 (vv 5))) (vv 7)) yM)))))))
   (ai (aD (ay (cm (va2 (vv 3) (vv 4)))))))),N.Fq,N.Fp.kp,N.Fs⟩⟩
theorem bn:FnScope ["rowsums","columnsums","bounds","levels","last","here","told","level","behind"] ["rowsums","columnsums","bounds"] (ae ix):=fsc
def dG(K:NA)(a:Ad):QF K a 5 "counted_nodes" a.Bl a.Bm ["rowsums","columnsums","bounds"] 3:=⟨_,λP w mg base N=>⟨by
 have d:=(eJ K a).2 P w base N;have c:=(ck K a).2 P w base N;have e:=(gm K a).2 P w base N
 exact bc (k:=4) 3 9 _ N.Ft bn rfl rfl λh A outer s H E f=>af (aG (psS 3 bn.nd (vc d f (va3 (vv 0) (vv 1) (vv 2)))))
   (af (aG (psS 4 bn.nd (c8 N.Dh (va1 (vv 1)))))
   (af (xT (kb:=M4) (i:=5) bn.nd rfl (by first|exact Po rfl|exact QR rfl) rfl (cso ["rests"] ["rests"] []) (aY (bj aN bu (vv 3) (vv 4))) (λcl C g s H=>⟨(pgN 0 ndc),aQ,λD=>jK (b:=M4) (rO f) rfl (vv 0) (cm (va2 (ag) (ag))) rfl⟩) ak au (λD=>nh))
   (af (rA (psS 6 bn.nd (fW (va1 (vv 5)))))
   (af (bD aO (bh cq rfl (BH (by rfl) N.Do (by rfl) N.Dm (va1 (vv 4))) (pgN 7 bn.nd) (af (aG (psS 8 bn.nd (vv 5)))
   (af (xT (kb:=M4) (i:=5) bn.nd rfl (by first|exact Po rfl|exact QR rfl) rfl (cso ["rests","columnsums","bounds","level","behind"] ["rests"] [1,2,7,8]) (aY (bj aN bu (vv 3) (vv 7))) (λcl C g s H=>⟨(pgN 0 ndc),aQ,λD=>jK (b:=M4) (rO f) rfl (vv 0) (vc e f (va3 (vv 0) (vc c f (va4 (vv 0) (vv 1) (vv 2) (vv 3))) (vv 4))) rfl⟩) ak au (λD=>nh))
   (ai (rB (eQ (rF QT QC QD iE (pv 6) (va1 (vv 5))))))))))
   (ai (aD (ay (GF (kb:=M2) rfl (cso ["level","nodes","rests","counts"] ["level","nodes","rests","counts"] []) (oW (by rfl) N.Dd (va1 (LX (vv 6) (v_un Jd MC (ag))))) (λcl C g s H=>⟨(bF rfl (az (pgN 0 ndc) (az (pgN 1 ndc) bp))),aQ,λD=>pJ rfl rfl rfl (vp (vv 1)) (bF rfl (az (pgN 2 ndc) (az (pgN 3 ndc) bp))) (aQ) (jK (b:=M2) (rO f) rfl (cm (va2 (vv 0) (vv 2))) (vv 3) rfl)⟩) (cS (aM ak (aM ak bZ)) (aK (aK bE))) (cR (aL au (aL au bX))) (λD=>ng (cS (aM ak (aM ak bZ)) (aK (aK bE))) (cR (aL au (aL au bX))) (nh)))))))))),N.Fu,N.Ft.kp,N.Fv⟩⟩
theorem rb:FnScope ["counted"] ["counted"] (ae kB):=fsc
def gZ(K:NA)(a:Ad):QF K a 2 "paper_rows" a.Bn a.Bo ["counted"] 1:=⟨_,λP w mg base N=>⟨by
 exact bc (k:=1) 1 1 _ N.Fw rb rfl rfl λb A outer s H E c=>ai (aD (ay (aZ rfl (cso ["level","rests","tables","dealings"] ["level","rests","tables","dealings"] []) (vp (vv 0)) (λcl C d s H=>⟨(bF rfl (az (bF rfl (az (pgN 0 ndc) (az (pgN 1 ndc) bp))) (az (bF rfl (az (pgN 2 ndc) (az (pgN 3 ndc) bp))) bp))),aQ,λD=>aJ rfl (cm (va4 (vv 0) (vv 1) (vv 2) (vv 3))) rfl⟩) (cS (aM (cS (aM ak (aM ak bZ)) (aK (aK bE))) (aM (cS (aM ak (aM ak bZ)) (aK (aK bE))) bZ)) (aK (aK bE))) (cR (aL (cR (aL au (aL au bX))) (aL (cR (aL au (aL au bX))) bX))) (λD=>aP)))),N.Fy,N.Fw.kp,N.Fz⟩⟩
theorem xP:FnScope ["_law_found","_law_due"] ["_law_found","_law_due"] (ae sL):=fsc
def nz(K:NA)(a:Ad)(rec:List D->M D):G:=
  aI (gIf (gv (ax eF (aa (ad 1) (aa (ax bY (aa (fC (.ty "list")) (aa (fC (.ty "tuple")) (ao)))) (ao))))) (aI (gIf (e9 (fB (f2 (dL) (ax cg (aa (ad 1) (aa (fC (.ty "list")) (ao)))) (ax cg (aa (ad 0) (aa (fC (.ty "list")) (ao)))))) (fB (f2 (dL) (ax cg (aa (ad 1) (aa (fC (.ty "tuple")) (ao)))) (ax cg (aa (ad 0) (aa (fC (.ty "tuple")) (ao))))))) (cE (fC (.bl M4))) (gNil))
  (aI (gIf (fB (f2 (dL) (ax cL (aa (ad 0) (ao))) (ax cL (aa (ad 1) (ao))))) (cE (fC (.bl M4))) (gNil))
  (cE (f2 (inD M2) (fC (.bl M4)) (cb 2 [] (ia (aa (ad 0) (aa (ad 1) (ao)))) (tgT (c9 (tgC 0) (c9 (tgC 1) gh))) (λ_=>M.ret M2) (cEm (bJ rec (aa (ad 0) (aa (ad 1) (ao)))))))))) (gNil))
  (aI (gIf (fB (f2 (gu) (ad 1) (fC .non))) (cE (f2 (gu) (ad 0) (fC .non))) (gNil))
  (aI (gIf (e9 (fB (f2 (dL) (ax cg (aa (ad 1) (aa (fC (.ty "str")) (ao)))) (ax cg (aa (ad 0) (aa (fC (.ty "str")) (ao)))))) (fB (f2 (dL) (ax cg (aa (ad 1) (aa (fC (.ty "bool")) (ao)))) (ax cg (aa (ad 0) (aa (fC (.ty "bool")) (ao))))))) (cE (fC (.bl M4))) (gNil))
  (cE (jV (ax eF (aa (ad 0) (aa (ax bY (aa (fC (.ty "int")) (aa (fC (.ty "str")) (ao)))) (ao)))) (f2 (iX) (ad 0) (ad 1))))))
def dM(K:NA)(a:Ad):Nat->List D->M D
 |0=>λ_=>M.fail
 |n+1=>cr 2 (nz K a (dM K a n))
theorem oC(N:Fns K mg a):∀n,FnOk P w K mg base (CXE P w) (n+1) a.Bt a.Bu ["_law_found","_law_due"] (spF K 2 (dM K a n))
 |0=>⟨λvs H Q E h=>h.1,λA outer s H args us vs Q E b g i r h=>by
  obtain⟨_,F,ds,β,_,_,j,β1,e,_⟩:=h;cases e⟩
 |n+1=>by
  have c:=oC N n;unfold dM;exact bc (k:=n+1) 2 2 (nz K a (dM K a n)) N.Ga xP rfl rfl λf A outer s H E b=>af (bR (jE (bK o8 yG (by rfl) N.Dg PyProof.Rows.Boot.«isinstance» (va2 (vv 1) (cm (va2 (v_c (d:= .ty "list") (cw (v:= .ty "list") (by rfl) N.Di PyProof.Rows.Boot.«list» rfl) (λ_ _=>rfl)) (v_c (d:= .ty "tuple") (cw (v:= .ty "tuple") (by rfl) N.Dt PyProof.Rows.Boot.«tuple» rfl) (λ_ _=>rfl))))))) (af (bR (i6 (pp (bi (d8 b) fP (jC N.Dg (va2 (vv 1) (v_c (d:= .ty "list") (cw (v:= .ty "list") (by rfl) N.Di PyProof.Rows.Boot.«list» rfl) (λ_ _=>rfl)))) (jC N.Dg (va2 (vv 0) (v_c (d:= .ty "list") (cw (v:= .ty "list") (by rfl) N.Di PyProof.Rows.Boot.«list» rfl) (λ_ _=>rfl))))) (lC (bi (d8 b) fP (jC N.Dg (va2 (vv 1) (v_c (d:= .ty "tuple") (cw (v:= .ty "tuple") (by rfl) N.Dt PyProof.Rows.Boot.«tuple» rfl) (λ_ _=>rfl)))) (jC N.Dg (va2 (vv 0) (v_c (d:= .ty "tuple") (cw (v:= .ty "tuple") (by rfl) N.Dt PyProof.Rows.Boot.«tuple» rfl) (λ_ _=>rfl)))))))) (ai (aD (ay (jB)))) (bo))
   (af (bR (bi (d8 b) fP (c8 N.Dh (va1 (vv 0))) (c8 N.Dh (va1 (vv 1)))) (ai (aD (ay (jB)))) (bo))
   (ai (aD (ay (lE kP (AZ (neg:=M2)) (jB) (aZ rfl (cso ["_law_one","_law_other"] ["_law_one","_law_other"] []) (oV (by rfl) N.Du (va2 (vv 0) (vv 1))) (λcl C l s H=>⟨(bF rfl (az (pgN 0 ndc) (az (pgN 1 ndc) bp))),aQ,λD=>aJ rfl (xp c (b.mono (Nh _)) (by rfl) N.Gb N.Ga.kp N.Gc wo (va2 (vv 0) (vv 1)) (bq (bq aN0))) rfl⟩) (cS (aM ak (aM ak bZ)) (aK (aK bE))) (cR (aL au (aL au bX))) (λD=>aP)))))))) (bo))
   (af (bR (bi s0 wI (vv 1) (vT)) (ai (aD (ay (lE s0 wI (vv 0) (vT))))) (bo))
   (af (bR (i6 (pp (bi (d8 b) fP (jC N.Dg (va2 (vv 1) (v_c (d:= .ty "str") (cw (v:= .ty "str") (by rfl) N.Dq PyProof.Rows.Boot.«str» rfl) (λ_ _=>rfl)))) (jC N.Dg (va2 (vv 0) (v_c (d:= .ty "str") (cw (v:= .ty "str") (by rfl) N.Dq PyProof.Rows.Boot.«str» rfl) (λ_ _=>rfl))))) (lC (bi (d8 b) fP (jC N.Dg (va2 (vv 1) (v_c (d:= .ty "bool") (cw (v:= .ty "bool") (by rfl) N.Db PyProof.Rows.Boot.«bool» rfl) (λ_ _=>rfl)))) (jC N.Dg (va2 (vv 0) (v_c (d:= .ty "bool") (cw (v:= .ty "bool") (by rfl) N.Db PyProof.Rows.Boot.«bool» rfl) (λ_ _=>rfl)))))))) (ai (aD (ay (jB)))) (bo))
   (ai (aD (ay (L5 (bK o8 yG (by rfl) N.Dg PyProof.Rows.Boot.«isinstance» (va2 (vv 0) (cm (va2 (v_c (d:= .ty "int") (cw (v:= .ty "int") (by rfl) N.Df PyProof.Rows.Boot.«int» rfl) (λ_ _=>rfl)) (v_c (d:= .ty "str") (cw (v:= .ty "str") (by rfl) N.Dq PyProof.Rows.Boot.«str» rfl) (λ_ _=>rfl)))))) (LY (lE (d9 b) fQ (vv 0) (vv 1)))))))))
theorem qE(N:Fns K mg a):FB P w K mg base 7 "_law_same" a.Bt a.Bu ["_law_found","_law_due"] 2 (dM K a 5):=⟨(oC P w base N 5).mono (by decide),N.Gb,N.Ga.kp,N.Gc⟩
theorem fV:FnScope ["_law_bag_here","_law_block","_law_columns","_law_things","_law_grid_here","_law_thing","_law_at","_law_to"] ["_law_bag_here","_law_block","_law_columns","_law_things"] (ae sO):=fsc
def jG(K:NA)(a:Ad):QF K a 3 "_law_grid" a.Bv a.Bw ["_law_bag_here","_law_block","_law_columns","_law_things"] 4:=⟨_,λP w mg base N=>⟨by
 have b:=iJ P w base N
 exact bc (k:=2) 4 8 _ N.Gd fV rfl rfl λd A outer s H E c=>af (Jw (i:=4) fV.nd rfl (by first|exact Po rfl|exact QR rfl) rfl (cso ["_law_row","_law_columns"] ["_law_row"] [2]) (ci (by rfl) N.Dm (va1 (vv 1))) (λcl C e s H=>⟨(pgN 0 ndc),aQ,λD=>aJ rfl (Mt (va1 (ag)) (vv 1)) rfl⟩) ak au (λD=>vd))
   (af (bD aO (bh cq rfl (ci (by rfl) N.Dm (va1 (vv 3))) (pgN 5 fV.nd) (af (aG (psS 6 fV.nd (vc b c (va2 (vv 0) (vv 1)))))
   (af (aG (psS 7 fV.nd (vc b c (va2 (vv 0) (vv 2)))))
   (ai (sQ (eW (aW aT bO (bj aN bu (bj aN bu (vv 4) (vv 6)) (vv 7)) (ag)) (hX (fN dD (pv 4) (vv 6) (λ_ _=>rfl)) (vv 7) ft))))))))
   (ai (aD (ay (vv 4))))),N.Ge,N.Gd.kp,N.Gf⟩⟩
theorem iq:FnScope ["_law_bag_here","_law_grid_here","_law_lot","_law_first"] ["_law_bag_here"] (ae sJ):=fsc
def ny(K:NA)(a:Ad):G:=
  aI (tZ 1 (ao))
  (aI (t7 (bV (f2 ixD (ax bT (aa (ax bT (aa (fC (.int 40)) (ao))) (aa (ax bT (aa (fC (.int 39)) (aa (fC (.int 1)) (ao)))) (aa (ax bT (aa (fC (.int 30)) (aa (fC (.int 10)) (ao)))) (aa (ax bT (aa (fC (.int 20)) (aa (fC (.int 20)) (ao)))) (aa (ax bT (aa (fC (.int 24)) (aa (fC (.int 15)) (ao)))) (aa (ax bT (aa (fC (.int 13)) (aa (fC (.int 27)) (ao)))) (ao)))))))) (bJ gG (aa (ad 0) (aa (fC (.int 6)) (ao)))))) (sgN 2) (aI (eL 3 (bJ gG (aa (ad 0) (aa (f2 j4 (ad 2) (fC (.int 1))) (ao)))))
  (t8 1 (aa (ax bT (aa (ad 3) (aa (f2 zJ (ad 2) (ad 3)) (ao)))) (ao)))))
  (cE (ad 1)))
def jO(K:NA)(a:Ad):List D->M D:=cr 4 (ny K a)
theorem yj(N:Fns K mg a):FB P w K mg base 3 "_law_wide" a.Bx a.By ["_law_bag_here"] 1 (jO K a):=⟨by
 have b:=iJ P w base N;unfold jO;refine bc (k:=2) 1 4 (ny K a) N.Gg iq rfl rfl λe A outer s H E c=>?_;refine af (rA (psS 1 iq.nd (fW (gT)))) ?_;refine af ?_ ?_
 rotate_left
 exact(ai (aD (ay (vv 1))));refine bD (tgg:=dH 2) ?_ ?_;exact aO;generalize d:Expr.Subscript _ _ _=q;refine bh cq rfl ?_ (pgN 2 iq.nd) ?_ ?_;subst d;refine aY ?_;refine LZ ?_ ?_;refine cY ?_;refine dB ?_ ?_;refine cY ?_;exact va1 ag;refine dB ?_ ?_;refine cY ?_;exact va2 ag ag;refine dB ?_ ?_;refine cY ?_;exact va2 ag ag;refine dB ?_ ?_;refine cY ?_;exact va2 ag ag;refine dB ?_ ?_;refine cY ?_;exact va2 ag ag;refine dB ?_ ?_;refine cY ?_;exact va2 ag ag;exact gT;exact(vc b c (va2 (vv 0) (ag)));exact af (aG (psS 3 iq.nd (vc b c (va2 (vv 0) (aW aT bO (vv 2) (ag)))))) (ai (rB (eQ (rF QT QC QD iE (pv 1) (va1 (cY (va2 (vv 3) (aW fX iG (vv 2) (vv 3)))))))));subst d;intro _;rfl,N.Gi,N.Gg.kp,N.Gj⟩
theorem gA:FnScope ["_law_bag_here","_law_way","_law_block","_law_columns"] ["_law_bag_here"] (ae qz):=fsc
def iB(K:NA)(a:Ad):QF K a 4 "_law_large" a.Bz a.B0 ["_law_bag_here"] 1:=⟨_,λP w mg base N=>⟨by
 have b:=iJ P w base N;have e:=yj P w base N;have c:=(jG K a).2 P w base N
 exact bc (k:=3) 1 4 _ N.Gk gA rfl rfl λf A outer s H E d=>af (bR (bi (d9 d) fQ (vc b d (va2 (vv 0) (ag))) (ag)) (ai (aD (ay (vc e d (va1 (vv 0)))))) (bo))
   (af (aG (psS 1 gA.nd (vc b d (va2 (vv 0) (ag)))))
   (af (bR (bi (d9 d) fQ (vv 1) (ag)) (ai (aD (ay (vc c d (va4 (vv 0) (ag) (aW aT bO (ag) (vc b d (va2 (vv 0) (ag)))) (vc b d (va2 (vv 0) (ag)))))))) (bo))
   (af (bR (bi (d9 d) fQ (vv 1) (ag)) (ai (aD (ay (vc c d (va4 (vv 0) (ag) (aW aT bO (ag) (vc b d (va2 (vv 0) (ag)))) (vc b d (va2 (vv 0) (ag)))))))) (bo))
   (af (aG (psS 2 gA.nd (aW aT bO (ag) (vc b d (va2 (vv 0) (ag))))))
   (af (aG (psS 3 gA.nd (aW aT bO (ag) (vc b d (va2 (vv 0) (ag))))))
   (ai (aD (ay (vc c d (va4 (vv 0) (vv 2) (vv 3) (vc b d (va2 (vv 0) (ag))))))))))))),N.Gm,N.Gk.kp,N.Gn⟩⟩
theorem uz:FnScope ["_law_block"] ["_law_block"] (ae n6):=fsc
def ow(K:NA)(a:Ad):QF K a 2 "_law_turned" a.B3 a.B4 ["_law_block"] 1:=⟨_,λP w mg base N=>⟨by
 exact bc (k:=1) 1 1 _ N.Go uz rfl rfl λb A outer s H E d=>ai (aD (ay (aZ rfl (cso ["_law_to","_law_block"] ["_law_to"] [0]) (ci (by rfl) N.Dm (va1 (c8 N.Dh (va1 (bj aN bu (vv 0) (ag)))))) (λcl C c s H=>⟨(pgN 0 ndc),aQ,λD=>aJ rfl (aZ rfl (cso ["_law_row","_law_to"] ["_law_row"] [0]) (aY (vv 1)) (λcl C c s H=>⟨(pgN 0 ndc),aQ,λD=>aJ rfl (bj aN bu (vv 0) (vv 1)) rfl⟩) ak au (λD=>aP)) rfl⟩) ak au (λD=>aP)))),N.Gp,N.Go.kp,N.Gq⟩⟩
theorem sH:FnScope ["_law_grid_here"] ["_law_grid_here"] (ae mz):=fsc
def iQ(K:NA)(a:Ad):QF K a 2 "_law_rowsums" a.B5 a.B7 ["_law_grid_here"] 1:=⟨_,λP w mg base N=>⟨by
 exact bc (k:=1) 1 1 _ N.Gr sH rfl rfl λb A outer s H E c=>ai (aD (ay (aZ rfl (cso ["_law_row"] ["_law_row"] []) (aY (vv 0)) (λcl C d s H=>⟨(pgN 0 ndc),aQ,λD=>aJ rfl (fj N.Dr (va1 (vv 0))) rfl⟩) ak au (λD=>aP)))),N.Gs,N.Gr.kp,N.Gu⟩⟩
theorem nZ:FnScope ["_law_grid_here"] ["_law_grid_here"] (ae jd):=fsc
def fE(K:NA)(a:Ad):QF K a 3 "_law_columnsums" a.B8 a.Ca ["_law_grid_here"] 1:=⟨_,λP w mg base N=>⟨by
 have b:=(ow K a).2 P w base N;exact bc (k:=2) 1 1 _ N.Gv nZ rfl rfl λc A outer s H E d=>ai (aD (ay (aZ rfl (cso ["_law_column"] ["_law_column"] []) (aY (vc b d (va1 (vv 0)))) (λcl C e s H=>⟨(pgN 0 ndc),aQ,λD=>aJ rfl (fj N.Dr (va1 (vv 0))) rfl⟩) ak au (λD=>aP)))),N.Gx,N.Gv.kp,N.Gy⟩⟩
theorem xR:FnScope ["_law_block","_law_columns"] ["_law_block","_law_columns"] (ae sP):=fsc
def qK(K:NA)(a:Ad):G:=
  k8 (ie 1 [1] (bG fA (aa (ad 0) (ao))) (tgC 0) (λ_=>M.ret M2) (uu (f8 1 [] (bG fA (aa (ad 1) (ao))) (tgC 0) (λ_=>M.ret M2) (cEm (ax bY (aa (fC (.int 0)) (aa (fC (.int 40)) (ao))))))))
def kY(K:NA)(a:Ad):List D->M (List (List D)):=mt 2 (qK K a)
theorem wt(N:Fns K mg a):FnOk P w K mg base (CXE P w) 2 a.Cb a.Cc ["_law_block","_law_columns"] (spG K 2 (kY K a)):=by
 unfold kY;exact IQ (k:=1) 2 2 (qK K a) N.Gz xR rfl rfl λb A outer s H E d=>ai (GZ (ay (Kw rfl (cso ["_law_at","_law_columns"] ["_law_at"] [1]) (ci (by rfl) N.Dm (va1 (vv 0))) (λcl C c s H=>⟨(pgN 0 ndc),aQ,λD=>aJ rfl (J6 rfl (cso ["_law_to"] ["_law_to"] []) (ci (by rfl) N.Dm (va1 (vv 1))) (λcl C c s H=>⟨(pgN 0 ndc),aQ,λD=>aJ rfl (cm (va2 (ag) (ag))) rfl⟩) ak au (λD=>aP)) rfl⟩) ak au (λD=>vd))))
theorem cV:FnScope ["_law_bag_here","_law_grid_here","_law_told","_law_at","_law_row","_law_to","_law_count","_law_way"] ["_law_bag_here","_law_grid_here"] (ae oh):=fsc
def gD(K:NA)(a:Ad):QF K a 3 "_law_bounds" a.Cd a.Cf ["_law_bag_here","_law_grid_here"] 2:=⟨_,λP w mg base N=>⟨by
 have c:=wt P w base N;have b:=iJ P w base N
 exact bc (k:=2) 2 8 _ N.G2 cV rfl rfl λe A outer s H E d=>af (EO (psS 2 cV.nd (Kx c (d.mono (by decide)) (by rfl) N.G0 N.Gz.kp N.G1 gE (va2 (c8 N.Dh (va1 (vv 1))) (c8 N.Dh (va1 (bj aN bu (vv 1) (ag))))) (bq (bq aN0)))))
   (af (bR (bi (d9 d) fQ (vc b d (va2 (vv 0) (ag))) (ag)) (ai (aD (ay (vv 2)))) (bo))
   (af (bD (kZ (cW aO (cW aO jk)) (cU (cU gU))) (bh cq rfl (oW (by rfl) N.Dd (va1 (vv 1))) (bF rfl (az (pgN 3 cV.nd) (az (pgN 4 cV.nd) bp))) (ai (bD (kZ (cW aO (cW aO jk)) (cU (cU gU))) (bh cq rfl (oW (by rfl) N.Dd (va1 (vv 4))) (bF rfl (az (pgN 5 cV.nd) (az (pgN 6 cV.nd) bp))) (af (aG (psS 7 cV.nd (vc b d (va2 (vv 0) (ag)))))
   (af (bR (bi (d9 d) fQ (vv 7) (ag)) (ai (sQ (eW (cm (va2 (aW fX iG (vv 6) (vc b d (va2 (vv 0) (aW aT bO (vv 6) (ag))))) (bK (iK rfl) rL (by rfl) N.Dl PyProof.Rows.Boot.«min» (va2 (ag) (aW aT bO (vv 6) (vc b d (va2 (vv 0) (ag)))))))) (hX (fN dD (pv 2) (vv 3) (λ_ _=>rfl)) (vv 5) ft)))) (bo))
   (ai (bR (bi (d9 d) fQ (vv 7) (ag)) (ai (sQ (eW (cm (va2 (ag) (bK (qU rfl) FG (by rfl) N.Dj PyProof.Rows.Boot.«max» (va2 (vv 6) (vc b d (va2 (vv 0) (ag))))))) (hX (fN dD (pv 2) (vv 3) (λ_ _=>rfl)) (vv 5) ft)))) (bo))))))))))
   (ai (aD (ay (vv 2)))))),N.G3,N.G2.kp,N.G4⟩⟩
theorem uA:FnScope ["_law_block"] ["_law_block"] (ae n9):=fsc
def ox(K:NA)(a:Ad):QF K a 2 "_law_copied" a.Cg a.Ch ["_law_block"] 1:=⟨_,λP w mg base N=>⟨by
 exact bc (k:=1) 1 1 _ N.G5 uA rfl rfl λb A outer s H E c=>ai (aD (ay (aZ rfl (cso ["_law_row"] ["_law_row"] []) (aY (vv 0)) (λcl C d s H=>⟨(pgN 0 ndc),aQ,λD=>aJ rfl (cy fc oM (by rfl) N.Di PyProof.Rows.Boot.«list» (va1 (vv 0))) rfl⟩) ak au (λD=>aP)))),N.G6,N.G5.kp,N.G7⟩⟩
theorem dJ:FnScope ["_law_rests","_law_lot","_law_pairs","_law_found","_law_rest","_law_duo","_law_longer","_law_one","_law_count"] ["_law_rests","_law_lot","_law_pairs"] (ae uR):=fsc
def pG(K:NA)(a:Ad):QF K a 2 "_law_fit" a.Ci a.Cj ["_law_rests","_law_lot","_law_pairs"] 3:=⟨_,λP w mg base N=>⟨by
 exact bc (k:=1) 3 9 _ N.G8 dJ rfl rfl λb A outer s H E c=>af (aG (psS 3 dJ.nd (cY (va1 (cY (gT))))))
   (af (bD (kZ (cW aO (cW aO jk)) (cU (cU gU))) (bh cq rfl (oV (by rfl) N.Du (va2 (vv 0) (vv 2))) (bF rfl (az (pgN 4 dJ.nd) (az (pgN 5 dJ.nd) bp))) (af (rA (psS 6 dJ.nd (fW (gT))))
   (af (bD aO (bh cq rfl (aY (vv 3)) (pgN 7 dJ.nd) (ai (bD aO (bh cq rfl (jS (by rfl) N.Dm (va2 (bj aN bu (vv 5) (ag)) (aW aT bO (bK (iK rfl) rL (by rfl) N.Dl PyProof.Rows.Boot.«min» (va2 (bj aN bu (vv 5) (ag)) (vv 4))) (ag)))) (pgN 8 dJ.nd) (ai (rB (eQ (rF QT QC QD iE (pv 6) (va1 (aW aT bO (vv 7) (cY (va1 (vv 8))))))))))))))
   (s_fz 6 (ai (aG (psS 3 dJ.nd (vv 6)))))))))
   (ai (aD (ay (aZ rfl (cso ["_law_one","_law_lot"] ["_law_one"] [1]) (aY (vv 3)) (λcl C d s H=>⟨(pgN 0 ndc),rR (bi (d9 c) fQ (fj N.Dr (va1 (vv 0))) (vv 1)),λD=>aJ rfl (vv 0) rfl⟩) ak au (λD=>aP)))))),N.G9,N.G8.kp,N.Ha⟩⟩
theorem xQ:FnScope ["_law_rests","_law_column"] ["_law_rests","_law_column"] (ae sN):=fsc
def m4(K:NA)(a:Ad):QF K a 2 "_law_less" a.Ck a.Cl ["_law_rests","_law_column"] 2:=⟨_,λP w mg base N=>⟨by
 exact bc (k:=1) 2 2 _ N.Hb xQ rfl rfl λb A outer s H E c=>ai (aD (ay (aZ rfl (cso ["_law_rest","_law_count"] ["_law_rest","_law_count"] []) (oV (by rfl) N.Du (va2 (vv 0) (vv 1))) (λcl C d s H=>⟨(bF rfl (az (pgN 0 ndc) (az (pgN 1 ndc) bp))),aQ,λD=>aJ rfl (aW fX iG (vv 0) (vv 1)) rfl⟩) (cS (aM ak (aM ak bZ)) (aK (aK bE))) (cR (aL au (aL au bX))) (λD=>aP)))),N.Hc,N.Hb.kp,N.Hd⟩⟩
theorem dS:FnScope ["_law_lot","_law_found","_law_k"] ["_law_lot"] (ae j8):=fsc
def gn(K:NA)(a:Ad):QF K a 2 "_law_factorial" a.Cm a.Cn ["_law_lot"] 1:=⟨_,λP w mg base N=>⟨by
 exact bc (k:=1) 1 3 _ N.He dS rfl rfl λb A outer s H E c=>af (aG (psS 1 dS.nd (ag)))
   (af (bD aO (bh cq rfl (jS (by rfl) N.Dm (va2 (ag) (aW aT bO (vv 0) (ag)))) (pgN 2 dS.nd) (ai (aG (psS 1 dS.nd (aW lQ rK (vv 1) (vv 2)))))))
   (ai (aD (ay (vv 1))))),N.Hf,N.He.kp,N.Hg⟩⟩
theorem ir:FnScope ["_law_parts","_law_under","_law_part"] ["_law_parts"] (ae sK):=fsc
def m3(K:NA)(a:Ad):QF K a 3 "_law_ways" a.Co a.Cp ["_law_parts"] 1:=⟨_,λP w mg base N=>⟨by
 have b:=(gn K a).2 P w base N
 exact bc (k:=2) 1 3 _ N.Hh ir rfl rfl λd A outer s H E c=>af (aG (psS 1 ir.nd (ag)))
   (af (bD aO (bh cq rfl (aY (vv 0)) (pgN 2 ir.nd) (ai (aG (psS 1 ir.nd (aW lQ rK (vv 1) (vc b c (va1 (vv 2)))))))))
   (ai (aD (ay (aW z9 Kn (vc b c (va1 (fj N.Dr (va1 (vv 0))))) (vv 1)))))),N.Hi,N.Hh.kp,N.Hj⟩⟩
theorem iw:FnScope ["self","rowsums","columnsums","bounds","settled"] ["self","rowsums","columnsums","bounds"] (ae jf):=fsc
def tW(K:NA)(a:Ad):IP:=
  l3 (eL 4 (bJ (cZ K a).1 (aa (ad 1) (aa (ad 2) (aa (ad 3) (ao))))))
  (l3 (e8 (bJ (d7 K a).1 (aa (ad 1) (aa (ad 2) (aa (ad 4) (ao))))))
  (iH (ax rJ (aa (ad 1) (ao)))
  (iH (ax rJ (aa (ad 2) (ao)))
  (iH (ad 4)
  (iH (bJ (dG K a).1 (aa (ad 1) (aa (ad 2) (aa (ad 4) (ao)))))
  (FK))))))
def oH(K:NA)(a:Ad):List D->M (List D):=l4 5 (tW K a)
theorem HU(N:Fns K mg a):FnOk P w K mg base (CXE P w) 6 a.Cu a.Cv ["self","rowsums","columnsums","bounds"] (spI K a.Ae ["row_list","column_list","pairs","counted"] 3 (oH K a)):=by
 have c:=(dG K a).2 P w base N;have d:=(d7 K a).2 P w base N;have b:=(cZ K a).2 P w base N;unfold oH
 exact IO (k:=5) 3 5 (tW K a) N.Hr iw rfl rfl λf A outer s H E e=>FM (aG (psS 4 iw.nd (vc b e (va3 (vv 1) (vv 2) (vv 3)))))
   (FM (oj (eQ (vc d e (va3 (vv 1) (vv 2) (vv 4)))))
   (rN N.Ij N.Ip (by decide) (by decide) (oA (pv 0) (cy fc oM (by rfl) N.Di PyProof.Rows.Boot.«list» (va1 (vv 1))) rfl)
   (rN N.Ij N.Il (by decide) (by decide) (oA (pv 0) (cy fc oM (by rfl) N.Di PyProof.Rows.Boot.«list» (va1 (vv 2))) rfl)
   (rN N.Ij N.Io (by decide) (by decide) (oA (pv 0) (vv 4) rfl)
   (rN N.Ij N.Im (by decide) (by decide) (oA (pv 0) (vc c e (va3 (vv 1) (vv 2) (vv 4))) rfl)
   (MK))))))
theorem zN:FnScope ["_law_grid_here","_law_limits"] ["_law_grid_here","_law_limits"] (ae uQ):=fsc
def pF(K:NA)(a:Ad):QF K a 8 "_law_net" a.Cq a.Cr ["_law_grid_here","_law_limits"] 2:=⟨_,λP w mg base N=>⟨by
 have c:=(iQ K a).2 P w base N;have b:=(fE K a).2 P w base N;have e:=HU P w base N;have d:=(ox K a).2 P w base N;exact bc (k:=7) 2 2 _ N.Hk zN rfl rfl λg A outer s H E f=>ai (aD (ay (GE N.Ht e (f.mono (by decide)) (by rfl) N.Ik N.Hu gE (va2 (vc c f (va1 (vv 0))) (vc b f (va1 (vv 0)))) (GC (vc d f (va1 (vv 1))) (Ja)) (bq (bq aN0)) (bq aN0) rfl))),N.Hl,N.Hk.kp,N.Hm⟩⟩
theorem bM:FnScope ["_law_row","_law_known","_law_columnsums_here","_law_limits","_law_stage","_law_tables","_law_dealings","_law_column","_law_key"] ["_law_row","_law_known","_law_columnsums_here","_law_limits"] (ae kC):=fsc
def g0(K:NA)(a:Ad):QF K a 8 "_law_row_good" a.Cs a.Ct ["_law_row","_law_known","_law_columnsums_here","_law_limits"] 4:=⟨_,λP w mg base N=>⟨by
 have b:=qE P w base N;have f:=(pG K a).2 P w base N;have c:=(m4 K a).2 P w base N;have e:=(m3 K a).2 P w base N
 exact bc (k:=7) 4 9 _ N.Hn bM rfl rfl λh A outer s H E g=>af (bR (i6 (pp (lF (jE (jC N.Dg (va2 (vv 0) (v_c (d:= .ty "tuple") (cw (v:= .ty "tuple") (by rfl) N.Dt PyProof.Rows.Boot.«tuple» rfl) (λ_ _=>rfl)))))) (lC (bi (d8 g) fP (c8 N.Dh (va1 (vv 0))) (ag))))) (ai (aD (ay (jB)))) (bo))
   (af (aG (psS 4 bM.nd (bj aN bu (vv 0) (ag))))
   (af (bR (bi (d9 g) fQ (vv 4) (c8 N.Dh (va1 (vv 2)))) (ai (aD (ay (vc b g (va2 (vv 0) (cm (va4 (vv 4) (cy cj fG (by rfl) N.Dt PyProof.Rows.Boot.«tuple» (va1 (aZ rfl (cso ["_law_rest"] ["_law_rest"] []) (aY (bj aN bu (vv 0) (ag))) (λcl C i s H=>⟨(pgN 0 ndc),aQ,λD=>aJ rfl (ag) rfl⟩) ak au (λD=>aP)))) (ag) (ag)))))))) (bo))
   (af (aG (psS 5 bM.nd (ag)))
   (af (aG (psS 6 bM.nd (ag)))
   (af (bD aO (bh cq rfl (aY (vc f g (va3 (bj aN bu (vv 0) (ag)) (bj aN bu (vv 2) (vv 4)) (aZ rfl (cso ["_law_pairs","_law_stage"] ["_law_pairs"] [4]) (aY (vv 3)) (λcl C i s H=>⟨(pgN 0 ndc),aQ,λD=>aJ rfl (bj aN bu (vv 0) (vv 1)) rfl⟩) ak au (λD=>aP))))) (pgN 7 bM.nd) (af (aG (psS 8 bM.nd (cm (va2 (aW aT bO (vv 4) (ag)) (cy cj fG (by rfl) N.Dt PyProof.Rows.Boot.«tuple» (va1 (vc c g (va2 (bj aN bu (vv 0) (ag)) (vv 7)))))))))
   (af (bR (bi (u8 (hu2 g)) MB (vv 8) (vv 1)) (ai (aD (ay (jB)))) (bo))
   (af (aG (psS 5 bM.nd (aW aT bO (vv 5) (bj aN bu (bj (oO (hu2 g)) wJ (vv 1) (vv 8)) (ag)))))
   (ai (aG (psS 6 bM.nd (aW aT bO (vv 6) (aW lQ rK (bj aN bu (bj (oO (hu2 g)) wJ (vv 1) (vv 8)) (ag)) (vc e g (va1 (vv 7)))))))))))))
   (ai (aD (ay (vc b g (va2 (mM (vv 0) (kR (ag)) (kS)) (cm (va2 (vv 5) (vv 6))))))))))))),N.Ho,N.Hn.kp,N.Hq⟩⟩
theorem sI:FnScope ["self"] ["self"] (ae mD):=fsc
def mE(K:NA)(a:Ad):QM K a 3 a.Cw a.Cy ["self"] 1:=⟨_,λP w mg base N=>by
 have b:=(gZ K a).2 P w base N;exact bc (k:=2) 1 1 _ N.Hv sI rfl rfl λc A outer s H E d=>ai (aD (ay (vc b d (va1 (rp N.Ij N.Im (vv 0))))))⟩
theorem mW:FnScope ["self","level","rests"] ["self","level","rests"] (ae iz):=fsc
def eV(K:NA)(a:Ad):QM K a 2 a.C2 a.C3 ["self","level","rests"] 3:=⟨_,λP w mg base N=>by
 exact bc (k:=1) 3 3 _ N.Ib mW rfl rfl λb A outer s H E c=>ai (aD (ay (L0 (hu2 c) (rp N.Ij N.Im (vv 0)) (va2 (cm (va2 (vv 1) (vv 2))) (cm (va2 (ag) (ag)))))))⟩
theorem re:FnScope ["self"] ["self"] (ae kG):=fsc
def kM(K:NA)(a:Ad):QM K a 3 a.Cz a.C0 ["self"] 1:=⟨_,λP w mg base N=>by
 have b:=(eV K a).2 P w base N;exact bc (k:=2) 1 1 _ N.Hy re rfl rfl λd A outer s H E e=>ai (aD (ay (bj aN bu (xo N.Ij N.Id b (e.mono (by decide)) (eG.nil N.Ie) gE (vv 0) (va2 (ag) (cy cj fG (by rfl) N.Dt PyProof.Rows.Boot.«tuple» (va1 (rp N.Ij N.Ip (vv 0))))) (λδ β r c h=>by rw[(bq (bq aN0)) δ β r c h];rfl)) (ag))))⟩
theorem n5:FnScope ["self"] ["self"] (ae je):=fsc
def jh(K:NA)(a:Ad):QM K a 3 a.C4 a.C5 ["self"] 1:=⟨_,λP w mg base N=>by
 have b:=(eV K a).2 P w base N;exact bc (k:=2) 1 1 _ N.Ig n5 rfl rfl λd A outer s H E e=>ai (aD (ay (bj aN bu (xo N.Ij N.Id b (e.mono (by decide)) (eG.nil N.Ie) gE (vv 0) (va2 (ag) (cy cj fG (by rfl) N.Dt PyProof.Rows.Boot.«tuple» (va1 (rp N.Ij N.Ip (vv 0))))) (λδ β r c h=>by rw[(bq (bq aN0)) δ β r c h];rfl)) (ag))))⟩
theorem dz:FnScope ["_law_script","_law_bag_here","_law_grid_here","_law_limits","_law_rowsums_here","_law_columnsums_here","_law_net_here","_law_paper","_law_known","_law_row","_law_first"] ["_law_script"] (ae lL):=fsc
def ou(K:NA)(a:Ad):{g:G//∀(P:NQ) (w:N0) {mg:NY->Option M7} (base:Ox) (N:Fns K mg a) (f:M3) (p:M7) (A:Oj) (outer:List Ud) (s:Ng) (H:Hp) (E:XK),Room 8 (A.deeper (PyProof.Rows.envOfC "law" (ae lL) s.heap.objs.size f p))->PSs (eM (CXE P w) P w K mg base ["_law_script","_law_bag_here","_law_grid_here","_law_limits","_law_rowsums_here","_law_columnsums_here","_law_net_here","_law_paper","_law_known","_law_row","_law_first"] "law" (ae lL) f p A outer s H E) (cc lL).tail (tG K H g (λ_=>E))}:=⟨_,λP w mg base N f p A outer s H E n=>by
 have l:=(iB K a).2 P w base N;have k:=(gD K a).2 P w base N;have i:=(iQ K a).2 P w base N;have c:=(fE K a).2 P w base N;have o:=(pF K a).2 P w base N;have j:=(mE K a).2 P w base N;have e:=(kM K a).2 P w base N;have d:=(jh K a).2 P w base N;have m:=qE P w base N;have h:=(g0 K a).2 P w base N
 exact af (aG (psS 2 dz.nd (vc l n (va1 (vv 1)))))
   (af (aG (psS 3 dz.nd (vc k n (va2 (vv 1) (vv 2)))))
   (af (aG (psS 4 dz.nd (vc i n (va1 (vv 2)))))
   (af (aG (psS 5 dz.nd (vc c n (va1 (vv 2)))))
   (af (aG (psS 6 dz.nd (vc o n (va2 (vv 2) (vv 3)))))
   (af (aG (psS 7 dz.nd (pq N.Ij N.Hw j (n.mono (by decide)) (eG.nil N.Hx) gE (vv 6) rfl)))
   (af (Md (psS 8 dz.nd (sY (b:=M2))))
   (af (bD aO (bh cq rfl (aY (vv 7)) (pgN 9 dz.nd) (ai (Jx (eW (mM (vv 9) (kR (ag)) (kS)) (hX (pv 8) (mM (vv 9) (kS) (kR (ag))) (sF (hu2 n))))))))
   (af (aG (psS 10 dz.nd (cm (va4 (ag) (cy cj fG (by rfl) N.Dt PyProof.Rows.Boot.«tuple» (va1 (vv 4))) (pq N.Ij N.Hz e (n.mono (by decide)) (eG.nil N.Ia) gE (vv 6) rfl) (pq N.Ij N.Ih d (n.mono (by decide)) (eG.nil N.Ii) gE (vv 6) rfl)))))
   (af (bR (i6 (pp (bi (d8 n) fP (bK qV Km (by rfl) N.Dh Uh (va1 (vv 8))) (c8 N.Dh (va1 (vv 7)))) (lC (lF (jE (vc m n (va2 (bj aN bu (vv 7) (ag)) (vv 10)))))))) (ai (aD (ay (jB)))) (bo))
   (af (bD aO (bh cq rfl (aY (vv 7)) (pgN 9 dz.nd) (ai (bR (lF (jE (vc h n (va4 (vv 9) (vv 8) (vv 5) (vv 3))))) (ai (aD (ay (jB)))) (bo)))))
   (ai (aD (ay (jB))))))))))))))⟩
theorem J5{f:M3}{o:NK}(F:FunD K "law" "law" lL f o)(N:Fns K mg a)(T:∀β:Bg,β.ok->∃d,(ou K a).1 [MY,on (.sh .bag),MY,MY,MY,MY,MY,MY,MY,MY,MY] β=on (.rt (.bl M2),d)):
  FnOk P w K mg base (CXE P w) 9 f o ["_law_script"] (EM K):=by
 have c:=AA P w base N;refine F.okE (k:=8) dz (λvs H Q E h=>?_) (λg A outer s H vs Q E p h=>?_)
 ·obtain⟨a,ns,rfl,_⟩:=h
  rfl
 ·obtain⟨a1,ns,rfl,r,q,k⟩:=h
  have rest:=(ou K a).2 P w base N f g A outer s H E p;refine⟨_,cA (rest:=(cc lL).tail) (psS 1 dz.nd (lO c (p.mono (by decide)) rfl N.F5 N.F4.kp N.F6 .nil wo (dU (pv 0) hZ))) rest,?_⟩;refine⟨_,rfl,a1,ns,rfl,r,λb l C i j t u=>?_⟩;obtain⟨β,ok,m⟩:=IY (K:=K) (a:=a1) (n:=["_law_script","_law_bag_here","_law_grid_here","_law_limits","_law_rowsums_here","_law_columnsums_here","_law_net_here","_law_paper","_law_known","_law_row","_law_first"].length-2) u i j t;obtain⟨d,e⟩:=T β ok;exact⟨_,_,_,β,_,d,m,e,λv I y s fr B=>by cases B.bl;exact k y⟩
end
end Law
namespace Law
open PySem L2 L2.Pu L2.Nt
section
variable{K:NA}{a:Ad}{β:Bg}
abbrev tN(l:List Nat):D:=tpI (nI l)
abbrev eN(b:List Nat×Nat):D:= .tup [tN b.1,.int (b.2:Int)]
abbrev pN(p:Nat×Nat):D:=pD ((p.1:Int),(p.2:Int))
def Nrw(r:List Nat):Prop:=1<=r.length/\r.length<=4/\r.sum<=40/\pr (r.map (·+1))<=500
theorem nN{f g:FD}{δ:Dn}{x y:D}{ds es:List D}(b:f δ β=on (.ok x,β))(c:g δ β=on (.ok y,β))(d:dF x=on ds)(e:dF y=on es):ia (aa f (aa g ao)) δ β=on (.ok (c5 ds es),β):=bw (ac b (ac c rfl)) (by
 unfold se;simp only[d,e,OD,Ol])
theorem JC{lo:Nat}{h:Int}(b:-1000<=h)(c:h<=1000)(d:lo<=1000):mZ [.int (lo:Int),.int h]=on ((Nd (h-lo).toNat).map λi=>D.int ((lo+i:Nat):Int)):=by
 have e:mZ [.int (lo:Int),.int h]=on (aU lo (h-lo).toNat):=by
  simp only[mZ];rw[Nf (by simp only[NO,NZ];omega)]
 rw[e];exact Oi on (NT λi _=>by congr 1)
theorem addT{l:List Nat}{c:Nat}(h:l.length<=100):j4 (tN l) (.tup [.int (c:Int)])=on (tN (l++[c])):=by
 cases l with
 |nil=>rfl
 |cons x l=>
  show(if _ then _ else _)=_;rw[Nf (aX (by simp at h⊢;omega))];simp[tpI]
theorem xG(l:List Nat)(k:Nat):fK [.lst (((nI l).map D.int).drop k)]=on (.int (((l.drop k).sum:Nat):Int)):=by
 rw[←Rj,←Rj];exact(dR _).trans (by rw[←ib])
theorem xA:∀{r:List Nat} {ps:List (Nat×Nat)},(r.zip ps).map (λq=>D.int (Qk (q.1:Int) (q.2.2:Int)))=(nI (tps ps r)).map D.int
 |[],_=>by cases ‹List (Nat×Nat)›<;>rfl
 |_::_,[]=>rfl
 |x::r,p::ps=>by
  have e:=xA (r:=r) (ps:=ps);show _::_=D.int ((Qk x p.2:Nat):Int)::(nI (tps ps r)).map D.int;rw[←e];show D.int (Qk (x:Int) (p.2:Int))::_=_;rw[show Qk (x:Int) (p.2:Int)=((Qk x p.2:Nat):Int) by omega];rfl
theorem xy:∀{ps:List (Nat×Nat)} {r:List Nat} {k:Nat} (b:k<ps.length) (c:k<r.length),(tps ps r)[k]?=on (Qk r[k] ps[k].2)
 |p::ps,x::r,0,_,_=>rfl
 |p::ps,x::r,k+1,b,c=>xy (k:=k) (by simpa using b) (by simpa using c)
abbrev ud(ps:List (Nat×Nat))(r:List Nat)(c:Nat)(st:D)(b d e:Option Sl):Ds:=[on (.sh (tN r)),on (.sh (.int (c:Int))),on (.sh (.lst (ps.map pN))),on (.sh (.lst ((nI (los ps)).map .int))),on (.sh (.lst ((nI (tps ps r)).map .int))),on (.sh st),b,d,e]
theorem KC{ps:List (Nat×Nat)}{r:List Nat}{c:Nat}(H:Nrw r)(v:ps.length=r.length)(A:∀p∈ps,p.1<=40/\p.2<=40)(R:c<=40):(jH K a).1 [tN r,.int (c:Int),.lst (ps.map pN)] β=on (.ok (.lst ((vB ps r c).map tN)),β):=by
 obtain⟨_,T,hs,U⟩:=H;have I:r.length<=Nr:=aX (by omega);have o:∀k,k<=r.length->(stB ps r c k).length<=Nr:=λk m=>aX (NG (uK c k m) (NG (wl r k) (by omega)));unfold jH
 dsimp only
 refine aR ?_;refine aE (d:= .lst ((nI (los ps)).map .int)) (β1:=β) ?_ ?_
 ·have:=bf (nv:=2) (caps:=[]) (it:=bV (ad 2)) (tg:=tgT (c9 (tgC 0) (c9 (tgC 1) gh))) (f:=ad 0) (δ:=vw (ud ps r c .non MY MY MY)) (β:=β) ps pN (λp=> .int (p.1:Int)) rfl (λx _=>⟨[on (.int (x.1:Int)),on (.int (x.2:Int))],rfl,rfl⟩) (by rw[v];exact I)
  refine Eq.trans this ?_;unfold los;rw[Nk,Nk];rfl
 refine aE (d:= .lst ((nI (tps ps r)).map .int)) (β1:=β) ?_ ?_
 ·rw[←xA]
  exact bf (nv:=3) (caps:=[]) (it:=ia (aa (ad 0) (aa (ad 2) (ao)))) (tg:=tgT (c9 (tgC 0) (c9 (tgT (c9 (tgC 1) (c9 (tgC 2) gh))) gh))) (f:=ax tB (aa (ad 0) (aa (ad 2) (ao)))) (δ:=vw (ud ps r c .non MY MY MY)) (β:=β) (r.zip ps) (λq=>D.tup [.int (q.1:Int),pN q.2]) _ (by
   rw[←gR (λx:Nat=>D.int (x:Int)) pN];refine nN (x:=tN r) (y:= .lst (ps.map pN)) rfl rfl ?_ rfl;show on _=on _;rw[Nk];rfl) (λq _=>⟨[on (.int (q.1:Int)),on (.int (q.2.1:Int)),on (.int (q.2.2:Int))],rfl,aj rfl wx⟩) (aX (by rw[QW];omega))
 refine aE (d:= .lst ((stB ps r c 0).map eN)) (β1:=β) (aj (ac (aj (ac (aj rfl rfl) (ac rfl rfl)) gf) rfl) pL) ?_;refine bC (ds:=aU 0 r.length) (β1:=β) (bw (ac (aj (z:= .int (r.length:Int)) rfl (by show on (D.int _)=_;rw[MZ,MZ])) rfl) (rg1 (by omega) (by omega))) (λk δ C=>β=C/\∃B t u,δ=ud ps r c (.lst ((stB ps r c k).map eN)) B t u) ⟨rfl,MY,MY,MY,rfl⟩ ?_ ?_
 ·rintro k d δ _ hd ⟨rfl,B,t,u,rfl⟩
  obtain⟨m,rfl⟩:=ER hd;have j:k<ps.length:=by omega
  have J:ps[k]?=on ps[k]:=M6 j;have b40:=A _ (Oa j);have W:(los ps).sum<=160:=by
   have g:∀l:List (Nat×Nat),(∀p∈l,p.1<=40/\p.2<=40)->(los l).sum<=40*l.length:=λl=>by
    induction l with
    |nil=>intro _;exact Nh _
    |cons p l ih=>
     intro h;have:=ih λq v=>h q (M5 _ v);have:=(h p Nb).1;simp only[los,Nl,NJ,Nm]at*;omega
   have:=g ps A;omega
  have F:∀(l:List Nat) (n:Nat),(l.drop n).sum<=l.sum:=λl n=>by
   conv=>rhs;rw[←Qm n l,T9]
   omega
  have L:=F (los ps) (k+1);have N:=NG (F (tps ps r) (k+1)) xx;refine⟨ud ps r c (.lst ((stB ps r c k).map eN)) (on (.sh (.int (k:Int)))) t u,rfl,?_⟩;refine aE (d:= .int ((((los ps).drop (k+1)).sum:Nat):Int)) (β1:=β) (aj (ac (qj rfl (x_2 rfl rfl rfl)) rfl) ((Oi (λl=>fK [.lst l]) (um (k:=k+1))).trans (xG _ _))) ?_;refine aE (d:= .int ((((tps ps r).drop (k+1)).sum:Nat):Int)) (β1:=β) (aj (ac (qj rfl (x_2 rfl rfl rfl)) rfl) ((Oi (λl=>fK [.lst l]) (um (k:=k+1))).trans (xG _ _))) ?_;refine am (aE (d:= .lst ((stB ps r c (k+1)).map eN)) (β1:=β) ?_ (w_end ⟨rfl,_,_,_,rfl⟩));have e:(stB ps r c (k+1)).map eN=(stB ps r c k).flatMap λb=>(nxB r[k] ps[k] ((los ps).drop (k+1)).sum ((tps ps r).drop (k+1)).sum b).map eN:=by
   show((stB ps r c k).flatMap _).map eN=_;rw[O5,eZ m,eZ j]
  rw[e];refine IU (stB ps r c k) eN _ rfl (λb A=>⟨[on (tN b.1),on (.int (b.2:Int)),MY,on (.lst ((nI (los ps)).map .int)),on (.int (k:Int)),on (.int ((((tps ps r).drop (k+1)).sum:Nat):Int)),on (.lst ((nI (tps ps r)).map .int)),on (.int ((((los ps).drop (k+1)).sum:Nat):Int))],rfl,?_⟩) (by
   rw[←e,MZ];exact o (k+1) m)
  obtain⟨b2,b1⟩:=xI ps r c k b A;have X:=gN (Oa m);unfold nxB;generalize ((los ps).drop (k+1)).sum=few at*;generalize ((tps ps r).drop (k+1)).sum=most at*;refine(yn (Nd (Qk (Qk r[k] ps[k].2+few) b.2+1-few-Vy ps[k].1 (b.2-most))) (λi=>D.int ((Vy ps[k].1 (b.2-most)+i:Nat):Int)) (λi=>eN (b.1++[Vy ps[k].1 (b.2-most)+i],b.2-(Vy ps[k].1 (b.2-most)+i))) ?_ ?_).trans (by rw[Nk];rfl)
  ·refine bw (as:=[.int ((Vy ps[k].1 (b.2-most):Nat):Int),.int (Qk ((Qk r[k] ps[k].2:Nat):Int) ((b.2:Int)-few)+1)]) (ac (aj (ac (x_2 rfl rfl (cx (d:= .int (ps[k].1:Int)) ?_)) (ac (x_2 rfl rfl rfl) rfl)) (Ke.trans ?_)) (ac (x_2 (aj (ac (x_2 rfl rfl (cx (d:= .int ((Qk r[k] ps[k].2:Nat):Int)) ?_)) (ac (x_2 rfl rfl rfl) rfl)) wx) rfl rfl) rfl)) ((JC (by omega) (by omega) (by omega)).trans ?_)
   ·unfold los
    rw[M9,M9,M9,J];rfl
   ·rw[show Vy (ps[k].1:Int) ((b.2:Int)-(most:Int))=((Vy ps[k].1 (b.2-most):Nat):Int) by omega]
   ·rw[M9,M9,xy j m];rfl
   ·rw[show(Qk ((Qk r[k] ps[k].2:Nat):Int) ((b.2:Int)-few)+1-((Vy ps[k].1 (b.2-most):Nat):Int)).toNat=Qk (Qk r[k] ps[k].2+few) b.2+1-few-Vy ps[k].1 (b.2-most) by omega]
  ·refine λi O=>⟨[on (tN b.1),on (.int (b.2:Int)),on (.int ((Vy ps[k].1 (b.2-most)+i:Nat):Int)),on (.lst ((nI (los ps)).map .int)),on (.int (k:Int)),on (.int (most:Int)),on (.lst ((nI (tps ps r)).map .int)),on (.int (few:Int))],rfl,aj (ac (x_2 rfl (aj rfl rfl) (addT (l:=b.1) (c:=Vy ps[k].1 (b.2-most)+i) (by omega))) (ac (x_2 rfl rfl rfl) rfl)) (gf.trans ?_)⟩
   have Q:=Nz.mp O;show on (D.tup [_,.int _])=on (D.tup [_,.int _]);rw[show(b.2:Int)-((Vy ps[k].1 (b.2-most)+i:Nat):Int)=((b.2-(Vy ps[k].1 (b.2-most)+i):Nat):Int) by omega]
 ·rintro δ _ ⟨rfl,B,t,u,rfl⟩
  rw[sS];have h:=jZ (nv:=2) (caps:=[]) (it:=bV (ad 5)) (tg:=tgT (c9 (tgC 0) (c9 (tgC 1) gh))) (tt:=fB (f2 (iX) (ad 1) (fC (.int 0)))) (f:=ad 0) (δ:=vwA (ud ps r c (.lst ((stB ps r c r.length).map eN)) B t u)) (β:=β) (stB ps r c r.length) eN (λb=>tN b.1) (λb=>decide ((b.2:Int)=0)) rfl (λb _=>⟨[on (tN b.1),on (.int (b.2:Int))],rfl,x_B (x_2 rfl rfl eq_int),λ_=>rfl⟩) (o _ (Nh _));refine am (aS h ⟨rfl,?_⟩);rw[←GQ v,Nk];rfl
theorem ut{α:Type}{tg:TgF}{b:FL}{δ:Dn}{β:Bg}(u:α->D)(o:α->List D):∀(xs:List α),(∀x∈xs,∃δ1,tg (u x) δ=on δ1/\b δ1 β=on (.ok (o x),β))->cLp tg (λ_=>M.ret M2) b (xs.map u) δ β=on (.ok (xs.flatMap o),β)
 |[],_=>rfl
 |x::xs,h=>by
  obtain⟨δ1,c,d⟩:=h x Nb;have e:=ut u o xs λy f=>h y (M5 _ f);rw[Nl,cLp];simp only[c,M.bind,M.ret,reduceIte,d,e,Om]
theorem j3{α:Type}{nv:Nat}{caps:List Nat}{it:FL}{tg:TgF}{b:FL}{c:List D->Option D}{δ:Dn}{β:Bg}{d:D}(xs:List α)(u:α->D)(o:α->List D)(e:it δ β=on (.ok (xs.map u),β))
  (f:∀x∈xs,∃δ1,tg (u x) (cSt nv caps δ)=on δ1/\b δ1 β=on (.ok (o x),β)) (g:c (xs.flatMap o)=on d):f7 nv caps it tg (λ_=>M.ret M2) b c δ β=on (.ok d,β):=by
 unfold f7;rw[e];simp only[ut u o xs f,g,Ol]
theorem Mv{α:Type}{it:FL}{tg:TgF}{b:FL}{δ:Dn}{β:Bg}(xs:List α)(u:α->D)(o:α->List D)(c:it δ β=on (.ok (xs.map u),β))(d:∀x∈xs,∃δ1,tg (u x) δ=on δ1/\b δ1 β=on (.ok (o x),β)):cNx it tg (λ_=>M.ret M2) b δ β=on (.ok (xs.flatMap o),β):=by
 unfold cNx M.bind;rw[c];exact ut u o xs d
noncomputable abbrev gJ(B:List (List (Nat×Nat))):LP:=B.map λrow=>row.map λp=>((p.1:Int),(p.2:Int))
abbrev bDN(B:List (List (Nat×Nat))):D:=cX (gJ B)
noncomputable def nA(B:List (List (Nat×Nat)))(k:Nat):List (Nat×Nat):=B.map λrow=>row.getD k (0,0)
def BOk(r c:Nat)(B:List (List (Nat×Nat))):Prop:=Shp r c B/\∀row∈B,∀p∈row,p.1<=p.2/\p.2<=40
def wB(B:List (List (Nat×Nat)))(cs:List Nat):Wy:=λk r=>vB (nA B k) r (cs.getD k 0)
theorem LU(B:List (List (Nat×Nat)))(cs:List Nat):WOk cs (wB B cs):=λk r=>VG
theorem BOk.col{r c k:Nat}{B:List (List (Nat×Nat))}(h:BOk r c B)(e:k<c):(nA B k).length=r/\∀p∈nA B k,p.1<=40/\p.2<=40:=by
 refine⟨by unfold nA;rw[MZ,h.1.1],λp d=>?_⟩;obtain⟨row,b,rfl⟩:=Nw.mp d;have l:=h.1.2 row b;rw[eZ (by omega)];have:=h.2 row b _ (Oa (show k<row.length by omega));omega
theorem IV{r cs:List Nat}{B:List (List (Nat×Nat))}{k:Nat}(c:Nrw r)(hB:BOk r.length cs.length B)(i:cs.sum<=40)(e:k<cs.length):(ck K a).1 [tN r,nL cs,bDN B,.int (k:Int)] β=on (.ok (.lst ((wB B cs k r).map tN)),β):=by
 have g:cs[k]?=on (cs.getD k 0):=by rw[Na,M6 e];rfl
 obtain⟨l,q⟩:=hB.col e;unfold ck
 dsimp only
 refine aR (am (aS (aq (ac rfl (ac (x_2 rfl rfl (cx (d:= .int (cs.getD k 0:Int)) (by rw[M9,M9,g];rfl))) (ac ?_ rfl))) (KC c l q (NG (gN (NB g)) i))) ⟨rfl,rfl⟩));have h:=bf (nv:=1) (caps:=[3]) (it:=bV (ad 2)) (tg:=tgC 0) (f:=f2 ixD (ad 0) (ad 1)) (δ:=[on (tN r),on (nL cs),on (bDN B),on (.int (k:Int))]) (β:=β) B (λrow=>D.lst (row.map pN)) (λrow=>pN (row.getD k (0,0))) (c7 rfl (by
  show on _=on _;rw[Nk,Nk];exact Oi on (NT λrow _=>Oi D.lst (by show OG pD (OG _ row)=_;rw[Nk];rfl)))) (λrow b=>⟨[on (D.lst (row.map pN)),on (.int (k:Int))],rfl,x_2 rfl rfl (cx (by
   have l:=hB.1.2 row b;rw[M9,eZ (by omega),M6 (by omega)];rfl))⟩) (aX (by rw[hB.1.1];have:=c.2.1;omega))
 refine h.trans ?_;unfold nA;rw[Nk];rfl
theorem tK:∀{r v:List Nat},LeN v r->(r.zip v).map (λp=>D.int ((p.1:Int)-(p.2:Int)))=(nI (less r v)).map D.int
 |[],[],_=>rfl
 |x::r,y::v,h=>by
  have e:=tK h.2;have b:=h.1;show _::_=D.int ((x-y:Nat):Int)::(nI (less r v)).map D.int;rw[←e];show D.int ((x:Int)-(y:Int))::_=_;rw[show(x:Int)-(y:Int)=((x-y:Nat):Int) by omega];rfl
 |[],_::_,h=>h.elim
 |_::_,[],h=>h.elim
theorem ES{r v:List Nat}(h:LeN v r)(b:r.length<=4):(dT K a).1 [tN r,tN v] β=on (.ok (tN (less r v)),β):=by
 unfold dT
 dsimp only
 refine aR (am (aS (aj (ac (x:= .lst ((nI (less r v)).map D.int)) ?_ rfl) rfl) ⟨rfl,rfl⟩));rw[←tK h];refine bf (r.zip v) (λp=>D.tup [.int (p.1:Int),.int (p.2:Int)]) _ ?_ (λp _=>⟨[on (.int (p.1:Int)),on (.int (p.2:Int))],rfl,rfl⟩) (aX (by rw[QW];omega));rw[←gR (λx:Nat=>D.int (x:Int)) (λx:Nat=>D.int (x:Int))];refine nN (x:=tN r) (y:=tN v) rfl rfl ?_ ?_
 ·show on _=on _
  rw[Nk];rfl
 ·show on _=on _
  rw[Nk];rfl
structure Nt0 (rs cs:List Nat):Prop where
 nr:Nrw rs
 wd:pr (rs.dropLast.map (·+1))<63
 sm:rs.sum=cs.sum
 c1:1<=cs.length
 c6:cs.length<=6
structure Nt1 (K:NA) (a:Ad) (rs cs:List Nat) (W:Wy) (bd:D):Prop extends Nt0 rs cs where
 ok:WOk cs W
 fl:∀{β:Bg} {k:Nat} {r:List Nat},k<cs.length->Nrw r->r.length=rs.length->(ck K a).1 [tN r,nL cs,bd,.int (k:Int)] β=on (.ok (.lst ((W k r).map tN)),β)
theorem Nt1.at{rs cs r:List Nat}{k:Nat}{W:Wy}{b:D}(h:Nt1 K a rs cs W b)(c:k<=cs.length)(d:r∈lvW W rs k):Nrw r/\r.length=rs.length/\r.sum<=40:=by
 have q:=(fZ h.ok h.sm k c r d).1;obtain⟨e,f,g,i⟩:=h.nr;have q1:=q.len;have q2:=q.sum;have q3:=q.pr;exact⟨⟨by omega,by omega,by omega,by omega⟩,q1,by omega⟩
abbrev lvD(W:Wy)(rs:List Nat)(k:Nat):D:= .lst ((lvW W rs k).map tN)
theorem AD{rs cs:List Nat}{W:Wy}{b:D}(h:Nt1 K a rs cs W b):(eJ K a).1 [nL rs,nL cs,b] β=on (.ok (.lst ((Nd (cs.length+1)).map (lvD W rs))),β):=by
 have c6:=h.c6;unfold eJ
 dsimp only
 refine aR ?_;refine aE (d:=lvD W rs 0) (β1:=β) (aj (ac (aj rfl rfl) rfl) pL) ?_;refine rj (ds:=[lvD W rs 0]) (β1:=β) rfl (show 1<=Nr by decide) ?_;refine bC (ds:=aU 0 cs.length) (β1:=β) (bw (ac (aj rfl (db (r:=cs.length) (by rw[MZ,MZ]))) rfl) (rg1 (by omega) (by omega))) (λk δ c=>β=c/\∃e f,δ=[on (.sh (nL rs)),on (.sh (nL cs)),on (.sh (b)),on (.sh (lvD W rs k)),on (.own ((Nd (k+1)).map (lvD W rs))),e,f]) ⟨rfl,MY,MY,rfl⟩ ?_ ?_
 ·rintro k d δ _ hd ⟨rfl,e,f,rfl⟩
  obtain⟨g,rfl⟩:=ER hd;refine⟨_,rfl,aE (d:=lvD W rs (k+1)) (β1:=β) ?_ (rm (cs:=(Nd (k+1)).map (lvD W rs)) (d:=lvD W rs (k+1)) rfl rfl (NH (show _<1000 by rw[MZ,ND];omega) (by decide)) (am (aE (d:=lvD W rs (k+1)) (β1:=β) rfl (w_end ⟨rfl,on (.sh (.int (k:Int))),on (.sh (lvD W rs (k+1))),?_⟩))))⟩
  ·refine j3 (lvW W rs k) tN (λr=>(W k r).map λv=>tN (less r v)) rfl (λr j=>⟨[on (tN r),MY,on (nL cs),on (b),on (.int (k:Int))],rfl,?_⟩) ?_
   ·obtain⟨i,l,_⟩:=h.at (by omega) j
    exact yn _ tN _ (c7 (aq rfl (h.fl g i l)) rfl) (λv m=>⟨[on (tN r),on (tN v),on (nL cs),on (b),on (.int (k:Int))],rfl,aq rfl (ES (dQ ((h.ok k r).subset m)) i.2.1)⟩)
   ·rw[←HW h.ok h.sm h.nr.1 h.wd g]
    unfold nwI;rw[O5];simp only[Nk];rfl
  ·rw[Qg (n:=k+1),NR];rfl
 ·rintro δ _ ⟨rfl,e,f,rfl⟩
  rw[sS];exact am (aS rfl ⟨rfl,rfl⟩)
theorem nQ{i:Nat}{op:D->D->Option D}{f:FD}{c d z:D}{h:G}{δ:Ds}{β β1:Bg}{Q:Out->Bg->Prop}(b:(vw δ).getD i MY=on c)(e:f (vw δ) β=on (.ok d,β1))(g:op c d=on z)(k:Gw h (δ.set i (on (.sh z))) β1 Q):Gw (aI (iU i op f) h) δ β Q:=eA (by unfold iU;simp only[b,e,g,Ol]) k
theorem x3{m i:Nat}{d:D}(h:(aU 2 m)[i]?=on d):i<m/\d= .int ((i+2:Nat):Int):=by
 obtain⟨x,b,rfl⟩:=bH (f:=λ(i:Nat)=>D.int (2+(i:Int))) (xs:=Nd m) h;have c:=(Nj.mp b).1;rw[ND]at c;rw[Oq c]at b;cases b;exact⟨c,by congr 1;omega⟩
theorem xX(lo:Int)(m:Nat):(aU lo m).length=m:=by unfold aU;rw[MZ,ND]
theorem smN{n:Nat}(h:n<=2^11):n<2^1000:=dN h (by decide)
theorem vF(n:Nat):facN (n-1+1)=facN n:=by cases n<;>rfl
theorem vD{n:Nat}(h:n<=40):(iR K a).1 [.int (n:Int)] β=on (.ok (.int ((facN n:Nat):Int)),β):=by
 unfold iR
 dsimp only
 refine aR ?_;refine aE (d:= .int 1) (β1:=β) rfl ?_;refine bC (ds:=aU 2 (n-1)) (β1:=β) (bw (ac rfl (ac (x_2 rfl rfl rfl) rfl)) (rg2 (by omega))) (λi δ b=>β=b/\∃c,δ=[on (.sh (.int (n:Int))),on (.sh (.int ((facN (i+1):Nat):Int))),c]) ⟨rfl,MY,rfl⟩ ?_ ?_
 ·rintro i d δ _ hd ⟨rfl,c,rfl⟩
  obtain⟨e,rfl⟩:=x3 hd;exact⟨_,rfl,am (nQ rfl rfl (pK (dN (jt (by omega)) (by decide)) (smN (by omega))) (w_end ⟨rfl,_,rfl⟩))⟩
 ·rintro δ _ ⟨rfl,c,rfl⟩
  rw[xX,vF];exact am (aS rfl ⟨rfl,rfl⟩)
theorem tJ{n:Nat}(h:n<=40):(gn K a).1 [.int (n:Int)] β=on (.ok (.int ((facN n:Nat):Int)),β):=by
 unfold gn
 dsimp only
 refine aR ?_;refine aE (d:= .int 1) (β1:=β) rfl ?_;refine bC (ds:=aU 2 (n-1)) (β1:=β) (bw (ac rfl (ac (x_2 rfl rfl rfl) rfl)) (rg2 (by omega))) (λi δ b=>β=b/\∃c,δ=[on (.sh (.int (n:Int))),on (.sh (.int ((facN (i+1):Nat):Int))),c]) ⟨rfl,MY,rfl⟩ ?_ ?_
 ·rintro i d δ _ hd ⟨rfl,c,rfl⟩
  obtain⟨e,rfl⟩:=x3 hd;exact⟨_,rfl,am (aE (x_2 rfl rfl (pK (dN (jt (by omega)) (by decide)) (smN (by omega)))) (w_end ⟨rfl,_,rfl⟩))⟩
 ·rintro δ _ ⟨rfl,c,rfl⟩
  rw[xX,vF];exact am (aS rfl ⟨rfl,rfl⟩)
def wayN(l:List Nat):Nat:=facN l.sum/pr (l.map facN)
theorem LJ{l:List Nat}{d:D}(h:Sq l d):nV [d]=on (.int ((l.sum:Nat):Int)):=by
 rw[←ib];rcases h with rfl|rfl
 ·exact Jo _
 ·exact Jn _
theorem kT(l:List Nat):fK [nL l]=on (.int ((l.sum:Nat):Int)):=by rw[←ib];exact dR _
theorem rT{l:List Nat}{i n:Nat}(h:l.sum<=40)(hn:l[i]?=on n):n<=40:=NG (gN (NB hn)) h
theorem GA{l:List Nat}{cd:D}(hs:Sq l cd)(h:l.sum<=40):(sV K a).1 [cd] β=on (.ok (.int ((wayN l:Nat):Int)),β):=by
 unfold sV
 dsimp only
 refine aR ?_;refine bC (ds:=(nI l).map D.int) (β1:=β) (c7 rfl hs.seq) (λi δ c=>β=c/\∃b,δ=[on (.sh cd),b,MY]) ⟨rfl,MY,rfl⟩ ?_ ?_
 ·rintro i d δ _ hd ⟨rfl,b,rfl⟩
  obtain⟨n,hn,rfl⟩:=oG hd;exact⟨_,rfl,am (fJ (β1:=β) (x_B (x_2 rfl rfl (by show on (D.bl (decide ((n:Int)<0)))=_;rw[N8 (by omega)]))) (bA (w_end ⟨rfl,_,rfl⟩)))⟩
 rintro δ _ ⟨rfl,b,rfl⟩;refine aE (d:= .int ((facN l.sum:Nat):Int)) (β1:=β) (aq (ac (aj rfl (LJ hs)) rfl) (vD h)) ?_;refine bC (ds:=(nI l).map D.int) (β1:=β) (c7 rfl hs.seq) (λi δ c=>β=c/\∃b,δ=[on (.sh cd),b,on (.sh (.int ((facN l.sum/pr ((l.take i).map facN):Nat):Int)))]) ⟨rfl,b,by rw[List.take_zero,OZ,JM,Nat.div_one];rfl⟩ ?_ ?_
 ·rintro i d δ _ hd ⟨rfl,b,rfl⟩
  obtain⟨n,hn,rfl⟩:=oG hd;refine⟨_,rfl,am (nQ rfl (aq rfl (vD (rT h hn))) (FR (l7 n) (dN (jt (rT h hn)) (by decide))) (w_end ⟨rfl,on (.sh (.int (n:Int))),?_⟩))⟩;rw[ji hn,U8];rfl
 ·rintro δ _ ⟨rfl,b,rfl⟩
  rw[kU,Pz];exact am (aS rfl ⟨rfl,rfl⟩)
theorem vE{l:List Nat}{i:Nat}(h:l.sum<=40)(c:l.length<=4):pr ((l.take i).map facN)<=2^640:=by
 refine NG (Mj (m:=160) λx b=>?_) (SW (by decide) ?_)
 ·obtain⟨n,hn,rfl⟩:=Nw.mp b
  exact jt (NG (gN (Vu hn)) h)
 ·rw[MZ,OQ];omega
theorem AM{l:List Nat}(h:l.sum<=40)(e:l.length<=4):(m3 K a).1 [nL l] β=on (.ok (.int ((wayN l:Nat):Int)),β):=by
 unfold m3
 dsimp only
 refine aR ?_;refine aE (d:= .int 1) (β1:=β) rfl ?_;refine bC (ds:=(nI l).map D.int) (β1:=β) rfl (λi δ b=>β=b/\∃c,δ=[on (.sh (nL l)),on (.sh (.int ((pr ((l.take i).map facN):Nat):Int))),c]) ⟨rfl,MY,rfl⟩ ?_ ?_
 ·rintro i d δ _ hd ⟨rfl,c,rfl⟩
  obtain⟨n,hn,rfl⟩:=oG hd;refine⟨_,rfl,am (aE (x_2 rfl (aq rfl (tJ (rT h hn))) (pK (dN (vE h e) (by decide)) (dN (jt (rT h hn)) (by decide)))) (w_end ⟨rfl,on (.sh (.int (n:Int))),?_⟩))⟩;rw[ji hn];rfl
 ·rintro δ _ ⟨rfl,c,rfl⟩
  rw[kU,Pz];have f:=vE (i:=l.length) h e;rw[Pz]at f;exact am (aS (x_2 (aq (ac (aj rfl (kT l)) rfl) (tJ h)) rfl (FR (sW λx g=>by obtain⟨n,_,rfl⟩:=Nw.mp g;exact l7 n) (dN f (by decide)))) ⟨rfl,rfl⟩)
theorem sj{l:List Nat}(h:l.sum<=40):wayN l<=2^160:=NG (Uf _ _) (jt h)
theorem sf(l:List Nat):wayN l=mu l:=Kc l
theorem FC{l:List Nat}(h:l.sum<=40):mu l<=2^160:=by rw[←sf];exact sj h
theorem rq{α:Type}{l:List α}{i:Nat}{x:α}(f:α->Nat)(h:l[i]?=on x):L2.Nt.sm (l.take (i+1)) f=L2.Nt.sm (l.take i) f+f x:=by
 rw[Q5,h,sD];rfl
abbrev cv(W:Wy)(m k:Nat)(r:List Nat):D:= .tup [.int ((tbW W (m-k) k r:Nat):Int),.int ((dlW W (m-k) k r:Nat):Int)]
abbrev dcL(W:Wy)(rs:List Nat)(m k:Nat):D:= .dct M4 ((lvW W rs k).map λr=>((0:Int),nI r)) ((lvW W rs k).map (cv W m k))
theorem yz{f:List Nat->D}{u:List Nat}:∀{L:List (List Nat)},u∈L->lkD (L.map λr=>((0:Int),nI r)) (L.map f) (0,nI u)=on (f u)
 |r::L,h=>by
  unfold lkD;rw[Nl,Nl,Pe,PQ];by_cases q:r=u
  ·rw[q,NF rfl];rfl
  ·rw[N8 λe=>q (kW (RI.mp e).2)]
   exact yz ((Nq.mp h).resolve_left λe=>q e.symm)
theorem KI{W:Wy}{rs u:List Nat}{m k:Nat}(h:u∈lvW W rs k):wX (dcL W rs m k) (tN u)=on (cv W m k u):=by
 show(eK M4 (dK M4 (0,nI u))).bind _=_;rw[jo λ_=>rfl];exact yz h
theorem ww{rs cs r:List Nat}{W:Wy}{q:D}{k:Nat}(h:Nt1 K a rs cs W q)(o:k<cs.length)(p:r∈lvW W rs k):(gm K a).1 [tN r,.lst ((W k r).map tN),dcL W rs cs.length (k+1)] β=on (.ok (cv W cs.length k r),β):=by
 obtain⟨t,y,u⟩:=h.at (by omega) p;unfold gm
 dsimp only
 refine aR ?_;refine aE (d:= .int 0) (β1:=β) rfl (aE (d:= .int 0) (β1:=β) rfl ?_);refine bC (ds:=(W k r).map tN) (β1:=β) rfl (λi δ e=>β=e/\∃f g j,δ=[on (.sh (tN r)),on (.sh (.lst ((W k r).map tN))),on (.sh (dcL W rs cs.length (k+1))),on (.sh (.int ((L2.Nt.sm ((W k r).take i) λv=>tbW W (cs.length-(k+1)) (k+1) (less r v):Nat):Int))),on (.sh (.int ((L2.Nt.sm ((W k r).take i) λv=>mu v*dlW W (cs.length-(k+1)) (k+1) (less r v):Nat):Int))),f,g,j]) ⟨rfl,MY,MY,MY,rfl⟩ ?_ ?_
 ·rintro i d δ _ hd ⟨rfl,f,g,j,rfl⟩
  obtain⟨v,l,rfl⟩:=bH hd;have hm:=NB l;have m:less r v∈lvW W rs (k+1):=lR.mpr ⟨r,p,v,hm,rfl⟩;have b:=(h.ok k r).subset hm;have hs:=(fZ h.ok h.sm (k+1) o _ m).2;have c:v.sum<=40:=NG (dQ b).sum u;have n:=(h.at o m).2.2;refine⟨_,rfl,EI (d:=cv W cs.length (k+1) (less r v)) (β1:=β) (x_2 rfl (aq rfl (ES (dQ b) t.2.1)) (KI m)) rfl (nQ rfl rfl rfl (am (nQ rfl (x_2 (aq rfl (GA (.inr rfl) c)) rfl (pK (dN (sj c) (by decide)) (dN (NG (uh h.ok _ _ _ (by omega)) (by rw[ug _ _ hs];exact FC n)) (by decide)))) rfl (w_end ⟨rfl,on (.sh (tN v)),on (.sh (.int ((tbW W (cs.length-(k+1)) (k+1) (less r v):Nat):Int))),on (.sh (.int ((dlW W (cs.length-(k+1)) (k+1) (less r v):Nat):Int))),?_⟩))))⟩;rw[rq _ l,rq _ l,sf,Qi,Qi];rfl
 ·rintro δ _ ⟨rfl,f,g,j,rfl⟩
  rw[MZ,Pz];refine am (aS (aj rfl gf) ⟨rfl,?_⟩);show Pa (D.tup [.int ((tbW W (cs.length-k) k r:Nat):Int),.int ((dlW W (cs.length-k) k r:Nat):Int)])=_;rw[show cs.length-k=cs.length-(k+1)+1 by omega];rfl
theorem vS{f g:FD}{δ:Dn}{k v:D}(b:f δ β=on (.ok k,β))(c:g δ β=on (.ok v,β)):BU f g δ β=on (.ok [.tup [k,v]],β):=by
 unfold BU M.bind;rw[b];simp only[c,M.ret]
theorem ub{α b:Type}(f:α->b)(l:List α):(l.flatMap λx=>[f x])=l.map f:=by
 induction l with
 |nil=>rfl
 |cons x l ih=>rw[Om,ih];rfl
theorem tF{rs cs:List Nat}{W:Wy}{b:D}(h:Nt1 K a rs cs W b){k:Nat}(c:k<=cs.length):(lvW W rs k).length<=62:=by
 have:=Ix h.ok h.sm c;have:=h.wd;omega
theorem dk0{rs cs:List Nat}{W:Wy}{b:D}(h:Nt1 K a rs cs W b){k:Nat}(c:k<=cs.length){os:List D}(e:os=(lvW W rs k).map λr=> .tup [tN r,cv W cs.length k r]):jY M4 os=on (dcL W rs cs.length k):=by
 refine(vL (kvs:=(lvW W rs k).map λr=>(((0:Int),nI r),cv W cs.length k r)) ⟨?_,?_,?_,?_⟩).trans ?_
 ·rw[e,Nk];rfl
 ·rw[Nk];exact yu (λx y q=>kW (RI.mp q).2) (tH k)
 ·rw[MZ];exact aX (by have:=tF h c;omega)
 ·rintro p d _
  obtain⟨r,_,rfl⟩:=Nw.mp d;rfl
 ·rw[Nk,Nk];rfl
theorem Me{n:Nat}(h:n<=1000):rC [.int (n:Int)]=on (gC n):=by
 simp only[rC];rw[Nf (by simp only[NO,NZ];omega),OJ]
theorem Mf{n i:Nat}{d:D}(h:(gC n)[i]?=on d):i<n/\d= .int ((n-1-i:Nat):Int):=by
 obtain⟨x,b,rfl⟩:=bH (f:=λ(i:Nat)=>D.int ((n:Int)-1-i)) (xs:=Nd n) h;have c:=(Nj.mp b).1;rw[ND]at c;rw[Oq c]at b;cases b;exact⟨c,by congr 1;omega⟩
theorem xZ{f:Nat->D}{n k:Nat}(h:k<n):((Nd n).map f)[k]?=on (f k):=by rw[M9,Oq h];rfl
theorem yZ{f:Nat->D}:∀n j,cI j ((List.range' j n).map f)=(List.range' j n).map λk=> .tup [.int (k:Int),f k]
 |0,_=>rfl
 |n+1,j=>by
  rw[List.range'_succ,Nl,Nl,←yZ n (j+1)];rfl
theorem HC{f:Nat->D}(m:Nat):((Nd (m+1)).map λj=>f (m-j)).reverse=(Nd (m+1)).map f:=Qy (by simp) λi b c=>by
 simp only[VH,MZ,ND]at b;simp only[Vt,Qz,QZ,MZ,ND];congr 1;omega
abbrev xb(W:Wy)(rs:List Nat)(m:Nat):List D:=(Nd (m+1)).flatMap λk=>(lvW W rs k).map (cv W m k)
abbrev ii(W:Wy)(rs:List Nat)(m:Nat):D:= .dct M2 (kyW W rs (m+1)) (xb W rs m)
theorem dk1{rs cs:List Nat}{W:Wy}{b:D}(h:Nt1 K a rs cs W b){os:List D}(e:os=(Nd (cs.length+1)).flatMap λ(k:Nat)=>(lvW W rs k).map λr=> .tup [.tup [.int (k:Int),tN r],cv W cs.length k r]):jY M2 os=on (ii W rs cs.length):=by
 refine(vL (kvs:=(Nd (cs.length+1)).flatMap λ(k:Nat)=>(lvW W rs k).map λr=>(((k:Int),nI r),cv W cs.length k r)) ⟨?_,?_,?_,?_⟩).trans ?_
 ·rw[e,O5];simp only[Nk];rfl
 ·have:=tQ (W:=W) (rs:=rs) (cs.length+1)
  unfold kyW at this;rw[O5];simp only[Nk];exact this
 ·refine aX (NG (fI (n:=62) λk c=>?_) (by have:=h.c6;rw[ND];omega))
  have:=Nz.mp c;rw[MZ];exact tF h (by omega)
 ·rintro p _ q
  cases q
 ·unfold ii kyW
  rw[O5,O5];simp only[Nk];rfl
theorem wY{rs cs:List Nat}{W:Wy}{b:D}(h:Nt1 K a rs cs W b):(dG K a).1 [nL rs,nL cs,b] β=on (.ok (ii W rs cs.length),β):=by
 have c6:=h.c6;unfold dG
 dsimp only
 refine aR ?_;refine aE (d:= .lst ((Nd (cs.length+1)).map (lvD W rs))) (β1:=β) (aq rfl (AD h)) ?_;refine aE (d:= .int (cs.length:Int)) (β1:=β) (aj rfl (db (by rw[MZ,MZ]))) ?_;refine aE (d:=dcL W rs cs.length cs.length) (β1:=β) (j3 (lvW W rs cs.length) tN (λr=>[.tup [tN r,.tup [.int 1,.int 1]]]) (c7 (x_2 rfl rfl (cx (xZ (by omega)))) rfl) (λr _=>⟨[on (tN r)],rfl,vS rfl (aj rfl gf)⟩) (dk0 h (Nh _) (by rw[ub];simp only[cv,Px];rfl))) ?_;refine rj (ds:=[dcL W rs cs.length cs.length]) (β1:=β) rfl (show 1<=Nr by decide) ?_;refine bC (ds:=gC cs.length) (β1:=β) (bw rfl (Me (by omega))) (λi δ c=>β=c/\∃e f,δ=[on (.sh (nL rs)),on (.sh (nL cs)),on (.sh (b)),on (.sh (.lst ((Nd (cs.length+1)).map (lvD W rs)))),on (.sh (.int (cs.length:Int))),on (.sh (dcL W rs cs.length (cs.length-i))),on (.own ((Nd (i+1)).map λj=>dcL W rs cs.length (cs.length-j))),e,f]) ⟨rfl,MY,MY,rfl⟩ ?_ ?_
 ·rintro i d δ _ hd ⟨rfl,e,f,rfl⟩
  obtain⟨p,rfl⟩:=Mf hd;have l:cs.length-1-i<cs.length:=by omega
  have o:cs.length-i=(cs.length-1-i)+1:=by omega
  have m:cs.length-(i+1)=cs.length-1-i:=by omega
  rw[o];refine⟨_,rfl,aE (d:=dcL W rs cs.length (cs.length-1-i+1)) (β1:=β) rfl (aE (d:=dcL W rs cs.length (cs.length-1-i)) (β1:=β) (j3 (lvW W rs (cs.length-1-i)) tN (λr=>[.tup [tN r,cv W cs.length (cs.length-1-i) r]]) (c7 (x_2 rfl rfl (cx (xZ (by omega)))) rfl) (λr g=>⟨[on (tN r),on (nL cs),on (b),on (.int ((cs.length-1-i:Nat):Int)),on (dcL W rs cs.length (cs.length-1-i+1))],rfl,vS rfl (aq (ac rfl (ac (aq rfl (h.fl l (h.at (by omega) g).1 (h.at (by omega) g).2.1)) rfl)) (ww h l g))⟩) (dk0 h (by omega) (ub _ _))) (am (rm (cs:=(Nd (i+1)).map λj=>dcL W rs cs.length (cs.length-j)) (d:=dcL W rs cs.length (cs.length-1-i)) rfl rfl (NH (show _<1000 by rw[MZ,ND];omega) (by decide)) (w_end ⟨rfl,on (.sh (.int ((cs.length-1-i:Nat):Int))),on (.sh (dcL W rs cs.length (cs.length-1-i+1))),?_⟩))))⟩;rw[Qg (n:=i+1),NR,m];show _=[_,_,_,_,_,_,on (Sl.own (_++[dcL W rs cs.length (cs.length-(i+1))])),_,_];rw[m];rfl
 ·rintro δ _ ⟨rfl,e,f,rfl⟩
  rw[show(gC cs.length).length=cs.length by unfold gC;rw[MZ,ND]];refine am (aS (j3 (Nd (cs.length+1)) (λk=> .tup [.int (k:Int),dcL W rs cs.length k]) (λ(k:Nat)=>(lvW W rs k).map λr=> .tup [.tup [.int (k:Int),tN r],cv W cs.length k r]) (bw (ac (x_2 (y:= .int (-1)) rfl rfl rfl) rfl) ?_) (λk _=>⟨[on (.int (k:Int)),on (dcL W rs cs.length k),MY,MY],rfl,?_⟩) (dk1 h rfl)) ⟨rfl,rfl⟩)
  ·show on (cI 0 _)=_
   rw[HC,List.range_eq_range',yZ]
  ·refine(Mv (lvW W rs k) (λr=> .tup [tN r,cv W cs.length k r]) (λr=>[.tup [.tup [.int (k:Int),tN r],cv W cs.length k r]]) ?_ (λr _=>⟨[on (.int (k:Int)),on (dcL W rs cs.length k),on (tN r),on (cv W cs.length k r)],rfl,vS (aj rfl gf) rfl⟩)).trans (by rw[ub])
   show on (Pa (RH _ _ _),β)=_;rw[List.zipWith_map_left,List.zipWith_map_right,List.zipWith_self];rfl
theorem tp_e{r c:Nat}{rows:LI}(sh:Shp r c rows)(r0:1<=r)(r1:r<=30)(c1:c<=30){δ:Dn}(h:δ.getD 0 MY=on (gridD rows)):cb 1 [0] (bG fA (aa (ax cL (aa (f2 ixD (ad 0) (fC (.int 0))) (ao))) (ao))) (tgC 0) (λ_=>M.ret M2) (cEm (cb 1 [0] (bV (ad 1)) (tgC 0) (λ_=>M.ret M2) (cEm (f2 ixD (ad 0) (ad 1))))) δ β=on (.ok (gridD (tp c rows)),β):=by
 obtain⟨b,d,g⟩:=sh.at (i:=0) (by omega);have k:(gI rows)[0]?=on (b.map D.int):=by rw[M9,d];rfl
 have o:ax cL (aa (f2 ixD (ad 0) (fC (.int 0))) (ao)) δ β=on (.ok (.int (c:Int)),β):=aj (ac (x:= .lst (b.map D.int)) (x_2 (x:=gridD rows) (EF h) rfl (rM k)) rfl) (db (by rw[MZ,g]));have e:=bf (nv:=1) (caps:=[0]) (it:=bG fA (aa (ax cL (aa (f2 ixD (ad 0) (fC (.int 0))) (ao))) (ao))) (tg:=tgC 0) (f:=cb 1 [0] (bV (ad 1)) (tgC 0) (λ_=>M.ret M2) (cEm (f2 ixD (ad 0) (ad 1)))) (δ:=δ) (β:=β) (Nd c) (λi=>D.int (0+(i:Int))) (λj=>D.lst (rows.map λrow=>D.int (row.getD j 0))) (bw (ds:=aU 0 c) (ac o rfl) (rg1 (by omega) (by omega))) ?_ (aX (by rw[ND];omega))
 ·rw[e]
  unfold tp tpA;show _=on (Pa (D.lst (OG D.lst (OG _ (OG _ _)))),β);rw[Nk,Nk];congr 4;refine NT λj _=>?_;show _=D.lst ((rows.map λrow=>row.getD j 0).map D.int);rw[Nk];rfl
 ·intro j p
  have q:=Nz.mp p;have m:cSt 1 [0] δ=[MY,on (gridD rows)]:=by
   unfold cSt;simp only[Nl,OZ,h];rfl
  refine⟨[on (.int (0+(j:Int))),on (gridD rows)],by rw[m];rfl,?_⟩;have hm:(gI rows).map D.lst=rows.map λrow=>D.lst (row.map D.int):=by rw[Nk];rfl
  refine bf (nv:=1) (caps:=[0]) rows (λrow=>D.lst (row.map D.int)) _ (by show on (Pa ((gI rows).map D.lst),β)=_;rw[hm]) (λrow t=>⟨_,rfl,x_2 (x:= .lst (row.map D.int)) (y:= .int (0+(j:Int))) rfl rfl ?_⟩) (aX (by rw[sh.1];omega));have u:=sh.2 row t;obtain⟨x,n⟩:=FU (l:=row) (i:=j) (by omega);rw[Q7];refine cx ?_;rw[M9,n,Na,n];rfl
theorem wE{r c:Nat}{rows:LI}(sh:Shp r c rows)(r0:1<=r)(r1:r<=30)(c1:c<=30):(ow K a).1 [gridD rows] β=on (.ok (gridD (tp c rows)),β):=
 aR (am (aS (tp_e sh r0 r1 c1 rfl) ⟨rfl,rfl⟩))
noncomputable abbrev iL(xs:List Int):D:= .lst (xs.map D.int)
theorem xF{rows:LI}(h:rows.length<=1000){f:FD}{δ:Dn}(e:f δ β=on (.ok (gridD rows),β)):cb 1 [] (bV f) (tgC 0) (λ_=>M.ret M2) (cEm (ax fK (aa (ad 0) (ao)))) δ β=on (.ok (iL (rows.map OY)),β):=by
 have hm:(gI rows).map D.lst=rows.map λrow=>D.lst (row.map D.int):=by rw[Nk];rfl
 have:=bf (nv:=1) (caps:=[]) (it:=bV f) (tg:=tgC 0) (f:=ax fK (aa (ad 0) (ao))) (δ:=δ) (β:=β) rows (λrow=>D.lst (row.map D.int)) (λrow=>D.int row.sum) (by rw[←hm];exact c7 e rfl) (λrow _=>⟨_,rfl,aj rfl (dR row)⟩) (aX h);rw[this];show _=on (Pa (D.lst ((rows.map OY).map D.int)),β);rw[Nk];rfl
theorem oq{rows:LI}(h:rows.length<=1000):(iQ K a).1 [gridD rows] β=on (.ok (iL (rows.map OY)),β):=
 aR (am (aS (xF h rfl) ⟨rfl,rfl⟩))
theorem kg{r c:Nat}{rows:LI}(sh:Shp r c rows)(r0:1<=r)(r1:r<=30)(c1:c<=30):(fE K a).1 [gridD rows] β=on (.ok (iL ((tp c rows).map OY)),β):=
 aR (am (aS (xF (by rw[(uG (d:=(0:Int)) (c:=c) sh.1).1];omega) (aq rfl (wE sh r0 r1 c1))) ⟨rfl,rfl⟩))
noncomputable def gp(G:LI)(i j:Nat):Int:=(G.getD i []).getD j 0
theorem MR{G:LI}{i j:Nat}{row:List Int}{x:Int}(b:G[i]?=on row)(c:row[j]?=on x):gp G i j=x:=by
 unfold gp;simp only[Na,b,c,V4]
theorem yT{G:LI}{i j:Nat}{row:List Int}(b:G[i]?=on row):row.getD j 0=gp G i j:=by
 unfold gp;rw[Na (l:=G),b];rfl
theorem zo:∀(xs:List Int),S xs.length (λj=>xs.getD j 0)=xs.sum:=λxs=>by
 unfold S;congr 1;refine Qy (by simp) λi c b=>?_;rw[Qz,QZ,Na,M6 b];rfl
theorem LL{r c i:Nat}{A:LI}(d:Shp r c A)(e:i<r):S c (gp A i)=(A.map OY).getD i 0:=by
 obtain⟨f,b,g⟩:=d.at e;rw[Na,M9,b];show _=f.sum;rw[←zo,g];exact dg λj _=>(yT b).symm
theorem LM{r c j:Nat}{A:LI}(b:Shp r c A)(f:j<c):S r (λp=>gp A p j)=((tp c A).map OY).getD j 0:=by
 have e:(tp c A)[j]?=on (A.map λrow=>row.getD j 0):=by
  show((Nd c).map λj=>A.map λrow=>row.getD j 0)[j]?=_;rw[M9,Oq f];rfl
 rw[Na,M9,e];show _=(A.map λrow=>row.getD j 0).sum;rw[←zo,MZ,b.1];refine dg λp g=>?_;obtain⟨h,d,i⟩:=b.at g;rw[Na (l:=A.map _),M9,d];exact(yT d).symm
theorem yq{rs:List Int}{b:List Nat}(c:∀i∈b,i<rs.length)(d:b.length<=1000):(kJ K a).1 [iL rs,nL b] β=on (.ok (.int (oF rs b)),β):=by
 unfold kJ
 dsimp only
 refine aR (am (aS (aj (ac (x:=iL (b.map λi=>rs.getD i 0)) ?_ rfl) (dR _)) ⟨rfl,rfl⟩));have:=bf (nv:=1) (caps:=[0]) (it:=bV (ad 1)) (tg:=tgC 0) (f:=f2 ixD (ad 1) (ad 0)) (δ:=[on (iL rs),on (nL b)]) (β:=β) b (λi=>D.int (i:Int)) (λi=>D.int (rs.getD i 0)) (by show on (Pa ((nI b).map D.int),β)=_;rw[Nk];rfl) (λi e=>⟨_,rfl,x_2 rfl rfl (FI (c i e))⟩) (aX d);refine this.trans ?_;show _=on (Pa (D.lst ((b.map λi=>rs.getD i 0).map D.int)),β);rw[Nk];rfl
theorem qJ{r c j:Nat}{cs:List Int}{b:LP}{g:List Nat}(sh:Shp r c b)(n:cs.length=c)(k:r<=1000)(l:j<c):(cN K a).1 [iL cs,cX b,nL g,.int (j:Int)] β=on (.ok (.int (dW cs b r g j)),β):=by
 unfold cN
 dsimp only
 refine aR ?_;refine aE (d:=iL (((Nd r).filter λi=>!decide (i∈g)).map λi=>(bI b i j).1)) (β1:=β) ?_ ?_
 ·have m:((gP b).map D.lst).length=r:=by rw[MZ,MZ,sh.1]
  have:=jZ (nv:=2) (caps:=[2,3]) (it:=FA (aa (ad 1) ao)) (tg:=tgT (c9 (tgC 0) (c9 (tgC 1) gh))) (tt:=fB (f2 (inD M2) (ad 0) (ad 2))) (f:=f2 ixD (f2 ixD (ad 1) (ad 3)) (fC (.int 0))) (δ:=[on (iL cs),on (cX b),on (nL g),on (.int (j:Int)),MY]) (β:=β) (Nd r) (λi=>D.tup [.int (i:Int),.lst ((b.getD i []).map pD)]) (λi=>D.int (bI b i j).1) (λi=>!decide (i∈g)) ?_ (λi h=>⟨_,rfl,x_B (x_2 rfl rfl tX),λ_=>x_2 (x_2 rfl rfl (tR sh (Nz.mp h) l).2) rfl wM⟩) (aX (by rw[ND];exact k))
  ·refine this.trans ?_
   show _=on (Pa (D.lst ((((Nd r).filter λi=>!decide (i∈g)).map λi=>(bI b i j).1).map D.int)),β);rw[Nk];rfl
  ·show on (Pa (cI 0 ((gP b).map D.lst)),β)=_
   rw[mH,m];congr 3;refine NT λi h=>?_;rw[Pl];congr 3;obtain⟨e,_⟩:=sh.getD (Nz.mp h);rw[Na,M9,M9,e];rfl
 refine am (aS (x_2 (x:= .int (cs.getD j 0)) (x_2 rfl rfl (FI (by omega))) (aj rfl (dR _)) rfl) ⟨rfl,?_⟩);have e:(Nd r).map (λi=>if i∈g then(0:Int)else(bI b i j).1)=(Nd r).map (λx=>if(!decide (x∈g))=M2 then(bI b x j).1 else 0):=NT λi _=>by by_cases q:i∈g<;>simp[q]
 unfold dW S;rw[vC,e]
theorem q8{r c j:Nat}{b:LP}{d:List Nat}(sh:Shp r c b)(e:∀i∈d,i<r)(k:d.length<=1000)(g:j<c):(cP K a).1 [cX b,nL d,.int (j:Int)] β=on (.ok (.int (eS b d j)),β):=by
 unfold cP
 dsimp only
 refine aR (am (aS (aj (ac (x:=iL (d.map λi=>(bI b i j).2)) ?_ rfl) (dR _)) ⟨rfl,rfl⟩));have:=bf (nv:=1) (caps:=[0,2]) (it:=bV (ad 1)) (tg:=tgC 0) (f:=f2 ixD (f2 ixD (f2 ixD (ad 1) (ad 0)) (ad 2)) (fC (.int 1))) (δ:=[on (cX b),on (nL d),on (.int (j:Int))]) (β:=β) d (λi=>D.int (i:Int)) (λi=>D.int (bI b i j).2) (by show on (Pa ((nI d).map D.int),β)=_;rw[Nk];rfl) (λi h=>⟨_,rfl,x_2 (x_2 (x_2 rfl rfl (tR sh (e i h) g).1) rfl (tR sh (e i h) g).2) rfl wL⟩) (aX k);refine this.trans ?_;show _=on (Pa (D.lst ((d.map λi=>(bI b i j).2).map D.int)),β);rw[Nk];rfl
theorem xW{r c:Nat}{cs:List Int}{b:LP}{d e:List Nat}(sh:Shp r c b)(k:cs.length=c)(l:r<=1000)(h:c<=1000)(m:∀i∈d,i<r)(n:d.length<=1000):(kI K a).1 [iL cs,cX b,nL d,nL e] β=on (.ok (.int (rD cs b r c d e)),β):=by
 unfold kI
 dsimp only
 refine aR (am (aS (aj (ac (x:=iL ((Nd c).map λj=>if j∈e then dW cs b r d j else eS b d j)) ?_ rfl) (dR _)) ⟨rfl,rfl⟩));have:=bf (nv:=1) (caps:=[3,0,1,2]) (it:=bG fA (aa (ax cL (aa (ad 0) (ao))) (ao))) (tg:=tgC 0) (f:=fIf (fB (f2 (inD M4) (ad 0) (ad 1))) (bJ (cN K a).1 (aa (ad 2) (aa (ad 3) (aa (ad 4) (aa (ad 0) (ao)))))) (bJ (cP K a).1 (aa (ad 3) (aa (ad 4) (aa (ad 0) (ao)))))) (δ:=[on (iL cs),on (cX b),on (nL d),on (nL e)]) (β:=β) (Nd c) (λj=>D.int (0+(j:Int))) (λj=>D.int (if j∈e then dW cs b r d j else eS b d j)) (bw (ds:=aU 0 c) (ac (aj rfl (db (by rw[MZ,k]))) rfl) (rg1 (by omega) (by omega))) (λj o=>⟨[on (.int (j:Int)),on (nL e),on (iL cs),on (cX b),on (nL d)],by rw[Q7];rfl,?_⟩) (aX (by rw[ND];exact h))
 ·refine this.trans ?_
  show _=on (Pa (D.lst (((Nd c).map λj=>if j∈e then dW cs b r d j else eS b d j).map D.int)),β);rw[Nk];rfl
 ·have g:=Nz.mp o
  by_cases q:j∈e
  ·rw[Nf q]
   exact LO (x_B (x_2 rfl rfl (by rw[tX];simp[q]))) (aq rfl (qJ sh k l g))
  ·rw[M8 q]
   exact LQ (x_B (x_2 rfl rfl (by rw[tX];simp[q]))) (aq rfl (q8 sh m n g))
theorem yv{r c:Nat}{cs:List Int}{b:LP}{d:List Nat}(sh:Shp r c b)(g:cs.length=c)(l:r<=1000)(e:c<=1000)(m:∀i∈d,i<r)(n:d.length<=1000):(iP K a).1 [iL cs,cX b,nL d] β=on (.ok (nL (tw cs b r c d)),β):=by
 unfold iP
 dsimp only
 refine aR ?_;have h:=jZ (nv:=1) (caps:=[0,1,2]) (it:=bG fA (aa (ax cL (aa (ad 0) (ao))) (ao))) (tg:=tgC 0) (tt:=fB (f2 (ltD) (bJ (cN K a).1 (aa (ad 1) (aa (ad 2) (aa (ad 3) (aa (ad 0) (ao)))))) (bJ (cP K a).1 (aa (ad 2) (aa (ad 3) (aa (ad 0) (ao))))))) (f:=ad 0) (δ:=[on (iL cs),on (cX b),on (nL d)]) (β:=β) (Nd c) (λj=>D.int (0+(j:Int))) (λj=>D.int (j:Int)) (λj=>decide (dW cs b r d j<eS b d j))
  (bw (ds:=aU 0 c) (ac (aj rfl (db (by rw[MZ,g]))) rfl) (rg1 (by omega) (by omega)))
  (λj k=>⟨[on (.int (j:Int)),on (iL cs),on (cX b),on (nL d)],by rw[Q7];rfl,x_B (x_2 (aq rfl (qJ sh g l (Nz.mp k))) (aq rfl (q8 sh m n (Nz.mp k))) rfl),λ_=>rfl⟩) (aX (by rw[ND];exact e))
 refine am (aS h ⟨rfl,?_⟩);show Pa (D.lst ((nI (tw cs b r c d)).map D.int))=_;rw[Nk];rfl
theorem JA{n i:Nat}{d:D}(h:(aU 0 n)[i]?=on d):i<n/\d= .int (i:Int):=by
 obtain⟨x,b,rfl⟩:=bH (f:=λ(i:Nat)=>D.int (0+(i:Int))) (xs:=Nd n) h;have c:=(Nj.mp b).1;rw[ND]at c;rw[Oq c]at b;cases b;exact⟨c,by rw[Q7]⟩
theorem w5{n:Nat}(hn:n<=6):(kK K a).1 [.int (n:Int)] β=on (.ok (.lst ((chF n).map nL)),β):=by
 unfold kK
 dsimp only
 refine aR ?_;refine aE (d:= .lst [.lst []]) (β1:=β) (aj (ac (aj rfl Kg) rfl) pL) ?_;refine bC (ds:=aU 0 n) (β1:=β) (bw rfl (rg1 (by omega) (by omega))) (λi δ b=>β=b/\∃c,δ=[on (.sh (.int (n:Int))),on (.sh (.lst ((chF i).map nL))),c]) ⟨rfl,MY,rfl⟩ ?_ ?_
 ·rintro i d δ _ hd ⟨rfl,c,rfl⟩
  obtain⟨g,rfl⟩:=JA hd;have j:(chF i).length<=64:=by rw[vO];exact NG (SW (by decide) (show i<=6 by omega)) (by decide)
  refine⟨[on (.sh (.int (n:Int))),on (.sh (.lst ((chF i).map nL))),on (.sh (.int (i:Int)))],rfl,am (aE (d:= .lst ((chF (i+1)).map nL)) (β1:=β) ?_ (w_end ⟨rfl,_,rfl⟩))⟩;have h:=bf (nv:=1) (caps:=[2]) (it:=bV (ad 1)) (tg:=tgC 0) (f:=f2 j4 (ad 0) (ax bT (aa (ad 1) (ao)))) (δ:=vw [on (.sh (.int (n:Int))),on (.sh (.lst ((chF i).map nL))),on (.sh (.int (i:Int)))]) (β:=β) (chF i) nL (λl=>nL (l++[i])) rfl (λl e=>⟨[on (nL l),on (.int (i:Int))],rfl,by
   have k:l.length<=i:=by have:=(gQ i l e).length_le;rwa[ND]at this
   refine x_2 rfl (aj rfl pL) ((qd ?_).trans ?_)
   ·rw[MZ,MZ,Og];omega
   ·simp only[nL,nI,NR,Nl,OZ]⟩) (aX (by omega))
  refine x_2 rfl h ((qd ?_).trans ?_)
  ·rw[MZ,MZ];omega
  ·rw[chF,NR,Nk];rfl
 ·rintro δ _ ⟨rfl,c,rfl⟩
  rw[show(aU 0 n).length=n by unfold aU;rw[MZ,ND]];exact am (aS rfl ⟨rfl,rfl⟩)
theorem KM{r:Nat}{b:List Nat}(h:b∈chF r):(∀i∈b,i<r)/\b.length<=r:=⟨λi c=>Nz.mp ((gQ r b h).subset c),by have:=(gQ r b h).length_le;rwa[ND]at this⟩
theorem KA{r c:Nat}{rs cs:List Int}{b:LP}(sh:Shp r c b)(l:rs.length=r)(m:cs.length=c)(n:r<=6)(p:c<=6)(ok:∀X Y,0<=slB rs cs b r c X Y):(d7 K a).1 [iL rs,iL cs,cX b] β=on (.ok .non,β):=by
 unfold d7
 dsimp only
 refine aR (am (bC (ds:=(chF r).map nL) (β1:=β) (c7 (aq (ac (aj rfl (db (r:=r) (by rw[MZ,l]))) rfl) (w5 n)) rfl) (λi δ f=>β=f/\∃g h,δ=[on (.sh (iL rs)),on (.sh (iL cs)),on (.sh (cX b)),g,h]) ⟨rfl,MY,MY,rfl⟩ ?_ ?_))
 ·rintro i d δ _ hd ⟨rfl,g,h,rfl⟩
  obtain⟨e,q,rfl⟩:=bH hd;have hm:=NB q;obtain⟨k,t⟩:=KM hm;refine⟨_,rfl,aE (d:=nL (tw cs b r c e)) (β1:=β) (aq rfl (yv sh m (by omega) (by omega) k (by omega))) ?_⟩;refine am (fJ (x_B (x_2 (aq rfl (yq (by rw[l];exact k) (by omega))) (aq rfl (xW sh m (by omega) (by omega) k (by omega))) ?_)) (bA (w_end ⟨rfl,_,_,rfl⟩)));have o:=ok (λi=>decide (i∈e)) (λj=>decide (j∈tw cs b r c e));have sub:(tw cs b r c e).Sublist (Nd c):=VG;rw[←Jv (gQ r e hm) sub]at o;show on (D.bl (decide _))=_;rw[N8 (by omega)]
 ·rintro δ _ ⟨rfl,g,h,rfl⟩
  exact w_end ⟨rfl,rfl⟩
theorem GK{r c:Nat}{rows:LI}{b:LP}(sh:Shp r c rows)(m:Shp r c b)(kp:Kp rows b)(X Y:Nat->Bool):0<=slB (rows.map OY) ((tp c rows).map OY) b r c X Y:=by
 refine GS (g:=gp rows) (λi f j h=>?_) (λi f=>(LL sh f).symm) (λj h=>(LM sh h).symm) X Y;obtain⟨row,k,n⟩:=sh.at f;have ex:=mw (l:=row) (i:=j) (d:=0) (by omega);obtain⟨e,l⟩:=m.getD f;have ep:=mw (l:=b.getD i []) (i:=j) (d:=((0,0):Int×Int)) (by omega);rw[MR k ex];exact kp i j _ _ (uv k ex) (uv e ep)
variable{rs cs:List Nat}
theorem FO{g:G}{δ:Ds}{o:Out}(h:Gw g δ β (λc b=>c=o/\b=β)):g δ β=on (o,β):=by
 obtain⟨c,b,e,rfl,rfl⟩:=h;exact e
theorem jz{t:Dn->M Bool}{d b h:G}{δ:Ds}{β1:Bg}{c:Bool}{Q:Out->Bg->Prop}(e:t (vwA δ) β=on (.ok c,β1))(f:c=M4)(k:Gw (aI b h) δ β1 Q):Gw (aI (gIf t d b) h) δ β Q:=by
 subst f;exact fJ e k
theorem Mo{p:Int×Int}(h:PairOk p):(hV K a).1 [pD p] β=on (.ok .non,β):=by
 obtain⟨b,c,e⟩:=h;unfold hV
 dsimp only
 refine aR ?_;exact EI (d:=pD p) (β1:=β) rfl rfl (am (jz (lA (x_B (zu rfl rfl rfl rfl))) (by simp;omega) (bA (w_end ⟨rfl,rfl⟩))))
theorem GU{r c:Nat}{b:LP}(g:Bnd r c b)(n:r<=1000):(cz K a).1 [cX b,.int (r:Int),.int (c:Int)] β=on (.ok (cX b),β):=by
 unfold cz
 dsimp only
 refine aR ?_;refine fJ (β1:=β) (x_B (x_2 rfl rfl rfl)) (bA ?_);have o:cb 1 [2] (bV (ad 0)) (tgC 0) (λ_=>M.ret M2) (cEm (f2 (dL) (ax cL (aa (ad 0) (ao))) (ad 1))) [on (cX b),on (.int (r:Int)),on (.int (c:Int)),MY,MY] β=on (.ok (.lst (b.map λ_=>D.bl M4)),β):=
  bf (nv:=1) (caps:=[2]) b (λrow=>D.lst (row.map pD)) _ (by show on _=_;rw[Nk];rfl) (λrow h=>⟨_,rfl,x_2 (aj rfl (db (r:=c) (by rw[MZ];exact g.shp.2 row h))) rfl (ne_int.trans (by rw[NF rfl];rfl))⟩) (aX (by rw[g.shp.1];exact n))
 refine jz (rf (x_B (x_2 (aj rfl (yE (r:=r) (by rw[MZ];exact g.shp.1))) rfl (ne_int.trans (by rw[NF rfl];rfl)))) (nM (aj (ac o rfl) (any_map b λ_=>M4)) rfl)) (by simp) (bA ?_);refine bC (ds:=(gP b).map D.lst) (β1:=β) rfl (λi δ e=>β=e/\∃l f,δ=[on (.sh (cX b)),on (.sh (.int (r:Int))),on (.sh (.int (c:Int))),l,f]) ⟨rfl,MY,MY,rfl⟩ ?_ ?_
 ·rintro i d δ _ hd ⟨rfl,l,f,rfl⟩
  obtain⟨y,q,rfl⟩:=bH hd;obtain⟨row,k,rfl⟩:=bH q;refine⟨_,rfl,am (bC (ds:=row.map pD) (β1:=β) rfl (λj δ e=>β=e/\∃f,δ=[on (.sh (cX b)),on (.sh (.int (r:Int))),on (.sh (.int (c:Int))),on (.sh (.lst (row.map pD))),f]) ⟨rfl,_,rfl⟩ ?_ ?_)⟩
  ·rintro j d δ _ hd ⟨rfl,f,rfl⟩
   obtain⟨p,m,rfl⟩:=bH hd;exact⟨_,rfl,am (nP (aq rfl (Mo (g.ok row (NB k) p (NB m)))) (w_end ⟨rfl,_,rfl⟩))⟩
  ·rintro δ _ ⟨rfl,f,rfl⟩
   exact w_end ⟨rfl,_,_,rfl⟩
 ·rintro δ _ ⟨rfl,l,f,rfl⟩
  exact am (aS (bf (nv:=1) (caps:=[]) (gP b) D.lst D.lst rfl (λx _=>⟨_,rfl,rfl⟩) (aX (by rw[MZ,g.shp.1];exact n))) ⟨rfl,rfl⟩)
theorem yo(l:List Nat){n:Nat}{δ:Dn}(b:l.length<=1000)(e:δ.getD n MY=on (nL l)):gv (ax xa (aa (cb 1 [] (bV (ad n)) (tgC 0) (λ_=>M.ret M2) (cEm (f2 (ltD) (ad 0) (fC (.int 0))))) (ao))) δ β=on (.ok M4,β):=by
 have c:=bf (nv:=1) (caps:=[]) (it:=bV (ad n)) (tg:=tgC 0) (f:=f2 (ltD) (ad 0) (fC (.int 0))) (δ:=δ) (β:=β) (nI l) D.int (λx=>D.bl (decide (x<0))) (c7 (EF e) rfl) (λx _=>⟨_,rfl,rfl⟩) (aX (by rw[MZ];exact b));refine nM (aj (ac c rfl) (any_map _ _)) (Oi on (Wk.mpr λx d=>?_));obtain⟨n,_,rfl⟩:=Nw.mp d;simp
theorem tL(l:List Nat):cL [nL l]=on (.int (l.length:Int)):=db (by rw[MZ,MZ])
theorem IT(h:Nt0 rs cs):(hG K a).1 [nL rs,nL cs] β=on (.ok .non,β):=by
 obtain⟨b,c,d,e⟩:=h.nr;have c1:=h.c1;have c6:=h.c6;unfold hG
 dsimp only
 refine aR ?_;refine jz (lA (x_B (uD rfl (aj rfl (tL rs)) rfl))) (by simp;omega) (bA ?_);refine jz (lA (x_B (uD rfl (aj rfl (tL cs)) rfl))) (by simp;omega) (bA ?_);refine fJ (rf (yo rs (by omega) rfl) (yo cs (by omega) rfl)) (bA ?_);refine jz (x_B (x_2 (aj rfl (kT rs)) (aj rfl (kT cs)) ne_int)) (by rw[h.sm];simp) (bA ?_);exact am (jz (x_B (x_2 (aj rfl (kT rs)) rfl gt_int)) (by simp;omega) (bA (w_end ⟨rfl,rfl⟩)))
theorem FZ(h:Nrw rs):(g9 K a).1 [nL rs] β=on (.ok .non,β):=by
 obtain⟨g,j,k,e⟩:=h;unfold g9
 dsimp only
 refine aR ?_;refine aE (d:= .int 1) (β1:=β) rfl ?_;refine bC (ds:=(nI rs).map D.int) (β1:=β) rfl (λi δ b=>β=b/\∃c,δ=[on (.sh (nL rs)),on (.sh (.int ((pr ((rs.take i).map (·+1)):Nat):Int))),c]) ⟨rfl,MY,rfl⟩ ?_ ?_
 ·rintro i d δ _ hd ⟨rfl,c,rfl⟩
  obtain⟨n,hn,rfl⟩:=oG hd;have f:=gN (NB hn);have l:=NG (wl rs i) e;refine⟨_,rfl,am (nQ rfl (x_2 (z:= .int ((n+1:Nat):Int)) rfl rfl rfl) (pK (smN (by omega)) (smN (by omega))) (w_end ⟨rfl,on (.sh (.int (n:Int))),?_⟩))⟩;rw[ji hn];rfl
 ·rintro δ _ ⟨rfl,c,rfl⟩
  rw[kU,Pz];exact am (jz (x_B (x_2 rfl rfl gt_int)) (by simp;omega) (bA (w_end ⟨rfl,rfl⟩)))
structure NtB (rows:LI) (B:List (List (Nat×Nat))) (rs cs:List Nat):Prop extends Nt0 rs cs where
 shp:Shp rs.length cs.length rows
 rw1:rows.map OY=nI rs
 cl1:(tp cs.length rows).map OY=nI cs
 bok:BOk rs.length cs.length B
 kp:Kp rows (gJ B)
theorem iN{r c:Nat}{B:List (List (Nat×Nat))}(h:Shp r c B):Shp r c (gJ B):=h.map
theorem BOk.bnd{r c:Nat}{B:List (List (Nat×Nat))}(h:BOk r c B):Bnd r c (gJ B):=⟨iN h.1,λrow e p f=>by
 obtain⟨b,g,rfl⟩:=Nw.mp e;obtain⟨d,i,rfl⟩:=Nw.mp f;have:=h.2 b g d i;exact⟨by show(0:Int)<=(d.1:Int);omega,by show(d.1:Int)<=(d.2:Int);omega,by show(d.2:Int)<=40;omega⟩⟩
theorem NtB.nt{rows:LI}{B:List (List (Nat×Nat))}(h:NtB rows B rs cs):Nt1 K a rs cs (wB B cs) (bDN B):=⟨h.toNt0,LU B cs,λ{β k r} b c e=>IV c (by rw[e];exact h.bok) (by rw[←h.sm];exact h.nr.2.2.1) b⟩
theorem NtB.fit{rows:LI}{B:List (List (Nat×Nat))}(h:NtB rows B rs cs):(d7 K a).1 [nL rs,nL cs,bDN B] β=on (.ok .non,β):=by
 have b:=h.nr.2.1;have c6:=h.c6;refine KA (iN h.bok.1) (MZ _) (MZ _) (by omega) (by omega) λX Y=>?_;rw[←h.rw1,←h.cl1];exact GK h.shp (iN h.bok.1) h.kp X Y
theorem GV{rows:LI}{B:List (List (Nat×Nat))}(h:NtB rows B rs cs):(cz K a).1 [bDN B,.int (rs.length:Int),.int (cs.length:Int)] β=on (.ok (bDN B),β):=GU h.bok.bnd (by have:=h.nr.2.1;omega)
abbrev nFs(B:List (List (Nat×Nat)))(rs cs:List Nat):List D:=[nL rs,nL cs,bDN B,ii (wB B cs) rs cs.length]
abbrev Kb(a:Ad)(B:List (List (Nat×Nat)))(rs cs:List Nat):D:= .obj a.Ae ["row_list","column_list","pairs","counted"] (nFs B rs cs)
theorem Mx{rows:LI}{B:List (List (Nat×Nat))}{d:D}(h:NtB rows B rs cs)(hd:∀{β:Bg},(cz K a).1 [d,.int (rs.length:Int),.int (cs.length:Int)] β=on (.ok (bDN B),β)):oH K a [nL rs,nL cs,d] β=on (.ok (nFs B rs cs),β):=BG λx=>by
 have b:(cZ K a).1 [nL rs,nL cs,d] β=on (.ok (bDN B),β):=by
  unfold cZ
  dsimp only
  refine aR ?_;exact nP (aq rfl (IT h.toNt0)) (aE (aq (ac rfl (ac (aj rfl (tL rs)) (ac (aj rfl (tL cs)) rfl))) hd) (nP (aq rfl (FZ h.nr)) (am (aS rfl ⟨rfl,rfl⟩))))
 unfold tW;refine yL (g:=eL 4 _) (δ1:=[on (.sh (.adr x)),on (.sh (nL rs)),on (.sh (nL cs)),on (.sh d),on (.sh (bDN B))]) (β1:=β) (FO (am (aE (aq rfl b) (w_end ⟨rfl,rfl⟩)))) rfl rfl ?_;refine yL (δ1:=[on (.sh (.adr x)),on (.sh (nL rs)),on (.sh (nL cs)),on (.sh d),on (.sh (bDN B))]) (β1:=β) (FO (am (nP (aq rfl h.fit) (w_end ⟨rfl,rfl⟩)))) rfl rfl ?_;exact oR (aj rfl rfl) (oR (aj rfl rfl) (oR rfl (oR (aq rfl (wY h.nt)) rfl)))
theorem Ka{rows:LI}{B:List (List (Nat×Nat))}(h:NtB rows B rs cs):oH K a [nL rs,nL cs,bDN B] β=on (.ok (nFs B rs cs),β):=Mx h (GV h)
theorem LR{f:FD}{g:FL}{δ:Dn}{b:Bool}{ks:List KyD}{vs:List D}{k z d:D}{y:KyD}(c:f δ β=on (.ok (.dct b ks vs),β))(e:g δ β=on (.ok [k,z],β))(h:eK b k=on y)(i:lkD ks vs y=on d):BO f g δ β=on (.ok d,β):=by
 unfold BO;rw[M.bind_ok c];simp only;rw[M.bind_ok e];simp only[h,i,Ol,V4,M.ofO]
variable{W:Wy}{bd:D}
abbrev m7(a:Ad)(W:Wy)(bd:D)(rs cs:List Nat):D:= .obj a.Ae ["row_list","column_list","pairs","counted"] [nL rs,nL cs,bd,ii W rs cs.length]
theorem IA{b d:List KyD}{c e:List D}{y:KyD}(h:b.length=c.length):lkD (b++d) (c++e) y=(lkD b c y).or (lkD d e y):=by
 unfold lkD;rw[List.zip_append h,List.find?_append];cases(b.zip c).find? λp=>decide (p.1=y)<;>rfl
theorem FE{f:List Nat->D}{u:List Nat}{k:Int}:∀{L:List (List Nat)},u∈L->lkD (L.map λr=>(k,nI r)) (L.map f) (k,nI u)=on (f u)
 |r::L,h=>by
  unfold lkD;rw[Nl,Nl,Pe,PQ];by_cases q:r=u
  ·rw[q,NF rfl];rfl
  ·rw[N8 λe=>q (kW (RI.mp e).2)]
   exact FE ((Nq.mp h).resolve_left λe=>q e.symm)
theorem yy{f:List Nat->D}{y:KyD}{k:Int}(h:k≠y.1):∀{L:List (List Nat)},lkD (L.map λr=>(k,nI r)) (L.map f) y=MY
 |[]=>rfl
 |r::L=>by
  have ih:=yy (f:=f) h (L:=L);unfold lkD at ih⊢;rw[Nl,Nl,Pe,PQ,N8 λe=>h (RI.mp e).1];exact ih
theorem yA{m k:Nat}{u:List Nat}(b:u∈lvW W rs k):∀{L:List Nat},k∈L->lkD (L.flatMap λk=>(lvW W rs k).map λr=>((k:Int),nI r)) (L.flatMap λk=>(lvW W rs k).map (cv W m k)) ((k:Int),nI u)=on (cv W m k u)
 |j::L,h=>by
  rw[Om,Om,IA (by rw[MZ,MZ])];by_cases q:j=k
  ·subst q
   rw[FE b];rfl
  ·rw[yy (by show(j:Int)≠(k:Int);omega),Option.none_or]
   exact yA b ((Nq.mp h).resolve_left λe=>q e.symm)
theorem lk_net{k:Nat}{u:List Nat}(c:k<=cs.length)(b:u∈lvW W rs k):lkD (kyW W rs (cs.length+1)) (xb W rs cs.length) ((k:Int),nI u)=on (cv W cs.length k u):=yA b (Nz.mpr (by omega))
theorem y7{k:Nat}{u:List Nat}(c:k<=cs.length)(d:u∈lvW W rs k):(eV K a).1 [m7 a W bd rs cs,.int (k:Int),tN u] β=on (.ok (cv W cs.length k u),β):=
 aR (am (aS (LR (rh rfl rfl) (ac (aj rfl gf) (ac (aj rfl gf) rfl)) (jo (b:=M2) (k:=((k:Int),nI u)) λe=>(by cases e)) (lk_net c d)) ⟨rfl,rfl⟩))
theorem J9{k:Nat}{u:List Nat}(b:k<=cs.length)(c:u∈lvW W rs k):AE (.tup [.int (k:Int),tN u]) (ii W rs cs.length)=on (.bl M4):=by
 show(eK M2 (dK M2 ((k:Int),nI u))).map _=_;rw[jo λe=>(by cases e),Ol,lk_net b c];rfl
theorem Nt1.nx{k:Nat}{r v:List Nat}(h:Nt1 K a rs cs W bd)(b:r∈lvW W rs k)(c:v∈W k r):less r v∈lvW W rs (k+1):=lR.mpr ⟨r,b,v,c,rfl⟩
theorem xw(l:List Nat):sk [nL l]=on (tN l):=rfl
theorem GL:(kM K a).1 [m7 a W bd rs cs] β=on (.ok (.int ((tbW W cs.length 0 rs:Nat):Int)),β):=
 aR (am (aS (x_2 (kh rfl (ac rfl (ac (aj (ac (rh rfl rfl) rfl) rfl) rfl)) (y7 (k:=0) (OC _) (NU.mpr rfl))) rfl wM) ⟨rfl,rfl⟩))
theorem BQ{W:Wy}{bd:D}{rs cs:List Nat}:(jh K a).1 [m7 a W bd rs cs] β=on (.ok (.int ((dlW W cs.length 0 rs:Nat):Int)),β):=
 aR (am (aS (x_2 (kh rfl (ac rfl (ac (aj (ac (rh rfl rfl) rfl) rfl) rfl)) (y7 (k:=0) (OC _) (NU.mpr rfl))) rfl wL) ⟨rfl,rfl⟩))
theorem MW{l:List Nat}{c:Nat}(h:l.length<=100):j4 (nL l) (.lst [.int (c:Int)])=on (nL (l++[c])):=by
 refine(qd (by rw[MZ,MZ,Og];omega)).trans ?_;show _=on (D.lst (OG D.int (OG _ (l++[c]))));rw[NR,NR];rfl
abbrev fiS(ps:List (Nat×Nat))(r:List Nat)(c:Nat)(f:D)(b d e g h:Option Sl):Ds:=[on (.sh (tN r)),on (.sh (.int (c:Int))),on (.sh (.lst (ps.map pN))),on (.sh f),b,d,e,g,h]
theorem Mg{lo:Nat}{n i:Nat}{d:D}(h:((Nd n).map λi=>D.int ((lo+i:Nat):Int))[i]?=on d):i<n/\d= .int ((lo+i:Nat):Int):=by
 obtain⟨x,b,rfl⟩:=bH h;have c:=(Nj.mp b).1;rw[ND]at c;rw[Oq c]at b;cases b;exact⟨c,rfl⟩
theorem uH{α:Type}{l:List α}{i:Nat}{x:α}(h:l[i]?=on x):l.take (i+1)=l.take i++[x]:=by rw[Q5,h];rfl
theorem IB{ps:List (Nat×Nat)}{r:List Nat}{c:Nat}(J:Nrw r)(A:ps.length=r.length)(L:∀p∈ps,p.1<=40/\p.2<=40):(pG K a).1 [tN r,.int (c:Int),.lst (ps.map pN)] β=on (.ok (.lst ((vB ps r c).map nL)),β):=by
 obtain⟨_,T,hs,N⟩:=J;have n:∀k,k<=r.length->(gro ps r k).length<=500:=λk B=>NG (vq k B) (NG (wl r k) N);unfold pG
 dsimp only
 refine aR ?_;refine aE (d:= .lst ((gro ps r 0).map nL)) (β1:=β) (aj (ac (aj rfl Kg) rfl) pL) ?_;refine bC (ds:=(r.zip ps).map λq=> .tup [.int (q.1:Int),pN q.2]) (β1:=β) ?_ (λk δ g=>β=g/\∃C F o m b,δ=fiS ps r c (.lst ((gro ps r k).map nL)) C F o m b) ⟨rfl,MY,MY,MY,MY,MY,rfl⟩ ?_ ?_
 ·rw[←gR (λx:Nat=>D.int (x:Int)) pN]
  refine nN (x:=tN r) (y:= .lst (ps.map pN)) rfl rfl ?_ rfl;show on _=on _;rw[Nk];rfl
 ·rintro k d δ _ hd ⟨rfl,C,F,o,m,b,rfl⟩
  obtain⟨q,I,rfl⟩:=bH hd;have B:k<r.length:=by
   have:=(Nj.mp I).1;rw[QW]at this;omega
  have t:k<ps.length:=by omega
  obtain rfl:q=(r[k],ps[k]):=by
   have:=(Nj.mp I).2;rw[List.getElem_zip]at this;exact this.symm
  have b40:=L _ (Oa t);have O:=gN (Oa B);refine⟨fiS ps r c (.lst ((gro ps r k).map nL)) (on (.sh (.int (r[k]:Int)))) (on (.sh (pN ps[k]))) o m b,rfl,?_⟩;refine rj (ds:=[]) (β1:=β) rfl (OC _) ?_;have step:∀u:List Nat,((Nd (Qk ps[k].2 r[k]+1-ps[k].1)).map λi=>u++[ps[k].1+i]).length<=41:=λu=>by rw[MZ,ND];omega
  refine bC (ds:=(gro ps r k).map nL) (β1:=β) rfl (λi δ g=>β=g/\∃m b,δ=fiS ps r c (.lst ((gro ps r k).map nL)) (on (.sh (.int (r[k]:Int)))) (on (.sh (pN ps[k]))) (on (.own ((((gro ps r k).take i).flatMap λu=>(Nd (Qk ps[k].2 r[k]+1-ps[k].1)).map λj=>u++[ps[k].1+j]).map nL))) m b) ⟨rfl,m,b,rfl⟩ ?_ ?_
  ·rintro i d δ _ hd ⟨rfl,m,b,rfl⟩
   obtain⟨u,H,rfl⟩:=bH hd;have U:=yS k u (NB H);have X:=(Nj.mp H).1;have Y:=n k (by omega);have Z:(((gro ps r k).take i).flatMap λu=>(Nd (Qk ps[k].2 r[k]+1-ps[k].1)).map λj=>u++[ps[k].1+j]).length<=500*41:=NG (fI λu _=>step u) (Rw _ (by rw[OQ];omega));refine⟨_,rfl,am (bC (ds:=(Nd (Qk ps[k].2 r[k]+1-ps[k].1)).map λj=>D.int ((ps[k].1+j:Nat):Int)) (β1:=β) (bw (as:=[.int (ps[k].1:Int),.int ((Qk ps[k].2 r[k]:Nat)+1)]) (ac (x_2 rfl rfl wM) (ac (x_2 (x:= .int ((Qk ps[k].2 r[k]:Nat):Int)) (aj (ac (x_2 rfl rfl wL) (ac rfl rfl)) (wx.trans ?_)) rfl rfl) rfl)) ((JC (by omega) (by omega) (by omega)).trans ?_)) (λj δ g=>β=g/\∃b,δ=fiS ps r c (.lst ((gro ps r k).map nL)) (on (.sh (.int (r[k]:Int)))) (on (.sh (pN ps[k]))) (on (.own ((((gro ps r k).take i).flatMap λu=>(Nd (Qk ps[k].2 r[k]+1-ps[k].1)).map λj=>u++[ps[k].1+j]).map nL++((Nd (Qk ps[k].2 r[k]+1-ps[k].1)).take j).map λj=>nL (u++[ps[k].1+j])))) (on (.sh (nL u))) b) ⟨rfl,b,by rw[List.take_zero,OZ,NV];rfl⟩ ?_ ?_)⟩
   ·rw[show Qk (ps[k].2:Int) (r[k]:Int)=((Qk ps[k].2 r[k]:Nat):Int) by omega]
   ·rw[show((Qk ps[k].2 r[k]:Nat)+1-(ps[k].1:Int):Int).toNat=Qk ps[k].2 r[k]+1-ps[k].1 by omega]
   ·rintro j d δ _ hd ⟨rfl,b,rfl⟩
    obtain⟨Q,rfl⟩:=Mg hd;have e:(Nd (Qk ps[k].2 r[k]+1-ps[k].1))[j]?=on j:=Oq Q;refine⟨_,rfl,am (rm (d:=nL (u++[ps[k].1+j])) rfl (ac (x_2 rfl (aj rfl pL) (MW (by omega))) rfl) (NH (show _<50000 by rw[Ny,MZ,MZ,OQ,ND];omega) (by decide)) (w_end ⟨rfl,on (.sh (.int ((ps[k].1+j:Nat):Int))),?_⟩))⟩;rw[uH e,NR];show[_,_,_,_,_,_,on (Sl.own (_++_++[_])),_,_]=[_,_,_,_,_,_,on (Sl.own (_++(_++[_]))),_,_];rw[Oy]
   ·rintro δ _ ⟨rfl,b,rfl⟩
    rw[MZ,ND];refine w_end ⟨rfl,on (.sh (nL u)),b,?_⟩;rw[uH H,QG,NR,Om,List.flatMap_nil,NV,Nk,OR (l:=Nd (Qk ps[k].2 r[k]+1-ps[k].1)) (by rw[ND];exact Nh _)];rfl
  ·rintro δ _ ⟨rfl,m,b,rfl⟩
   rw[MZ,Pz];refine LS (am (aE (d:= .lst ((gro ps r (k+1)).map nL)) (β1:=β) ?_ (w_end ⟨rfl,_,_,_,_,_,rfl⟩)));have R:gro ps r (k+1)=(gro ps r k).flatMap λu=>(Nd (Qk ps[k].2 r[k]+1-ps[k].1)).map λi=>u++[ps[k].1+i]:=by
    show U2 _ _=_;rw[eZ B,eZ t]
   rw[R];rfl
 ·rintro δ _ ⟨rfl,C,F,o,m,b,rfl⟩
  rw[MZ,QW,A,Nat.min_self,vt A];have h:=jZ (nv:=1) (caps:=[1]) (it:=bV (ad 3)) (tg:=tgC 0) (tt:=fB (f2 (iX) (ax fK (aa (ad 0) (ao))) (ad 1))) (f:=ad 0) (δ:=vwA (fiS ps r c (.lst ((box ps r).map nL)) C F o m b)) (β:=β) (box ps r) nL nL (λv=>decide (v.sum=c)) rfl (λv _=>⟨[on (nL v),on (.int (c:Int))],rfl,x_B (x_2 (aj rfl (kT v)) rfl (eq_int.trans (by rw[decide_eq_decide.mpr (show((v.sum:Nat):Int)=(c:Int)↔v.sum=c by omega)]))),λ_=>rfl⟩) (aX (by rw[←vt A];have:=n r.length (Nh _);omega));refine am (aS h ⟨rfl,?_⟩);rw[ze A]
theorem AQ{r v:List Nat}(h:LeN v r)(b:r.length<=4):(m4 K a).1 [tN r,nL v] β=on (.ok (nL (less r v)),β):=by
 unfold m4
 dsimp only
 refine aR (am (aS ?_ ⟨rfl,rfl⟩));unfold nL;rw[←tK h];refine bf (r.zip v) (λp=>D.tup [.int (p.1:Int),.int (p.2:Int)]) _ ?_ (λp _=>⟨[on (.int (p.1:Int)),on (.int (p.2:Int))],rfl,rfl⟩) (aX (by rw[QW];omega));rw[←gR (λx:Nat=>D.int (x:Int)) (λx:Nat=>D.int (x:Int))];refine nN (x:=tN r) (y:=nL v) rfl rfl ?_ ?_
 ·show on _=on _
  rw[Nk];rfl
 ·show on _=on _
  rw[Nk];rfl
theorem y0{rows:List (List D)}(h:rows.length<=1000):(ox K a).1 [lG rows] β=on (.ok (lG rows),β):=
 aR (am (aS (bf rows D.lst D.lst rfl (λx _=>⟨_,rfl,rfl⟩) (aX h)) ⟨rfl,rfl⟩))
theorem yD{r c:Nat}(d:r<=1000)(e:c<=1000):kY K a [.int (r:Int),.int (c:Int)] β=on (.ok (gP (l6 r c)),β):=by
 have b:∀x:Nat,f8 1 [] (bG fA (aa (ad 1) (ao))) (tgC 0) (λ_=>M.ret M2) (cEm (ax bY (aa (fC (.int 0)) (aa (fC (.int 40)) (ao))))) [on (.int (0+(x:Int))),on (.int (c:Int))] β=on (.ok ((Nx c ((0:Int),(40:Int))).map pD),β):=λx=>by
  have h:=y6 (nv:=1) (caps:=[]) (it:=bG fA (aa (ad 1) (ao))) (tg:=tgC 0) (f:=ax bY (aa (fC (.int 0)) (aa (fC (.int 40)) (ao)))) (δ:=[on (.int (0+(x:Int))),on (.int (c:Int))]) (β:=β) (Nd c) (λi=>D.int (0+(i:Int))) (λ_=>pD (0,40))
   (bw rfl (rg1 (by omega) (by omega))) (λx _=>⟨_,rfl,aj rfl gf⟩) (aX (by rw[ND];omega))
  rw[iF]at h;rw[Qa];exact h
 have h:=qR (nv:=1) (caps:=[1]) (it:=bG fA (aa (ad 0) (ao))) (tg:=tgC 0) (f:=f8 1 [] (bG fA (aa (ad 1) (ao))) (tgC 0) (λ_=>M.ret M2) (cEm (ax bY (aa (fC (.int 0)) (aa (fC (.int 40)) (ao)))))) (δ:=[on (.int (r:Int)),on (.int (c:Int))]) (β:=β) (Nd r) (λi=>D.int (0+(i:Int))) (λ_=>(Nx c ((0:Int),(40:Int))).map pD)
  (bw rfl (rg1 (by omega) (by omega))) (λx _=>⟨_,rfl,b x⟩) (aX (by rw[ND];omega))
 rw[iF]at h;refine IX (am (GB h ⟨rfl,?_⟩));show gP (l6 r c)=_;show OG _ _=_;rw[Qa]
abbrev bdS(rows:LI)(b:LP)(c d e f g:Option Sl):Ds:=[on (.sh .bag),on (.sh (gridD rows)),on (.grd (gP b)),c,d,e,f,g]
def BdI(r c:Nat)(rows:LI)(d e:Option Sl)(δ:Ds)(β:Bg):Prop:=β.ok/\∃(b:LP) (f g h:Option Sl),δ=bdS rows b d e f g h/\Bnd r c b/\Kp rows b
theorem wG{r c:Nat}{rows:LI}(t:Tab r c rows)(ok:β.ok):∃(b:LP) (f:Bg),(gD K a).1 [.bag,gridD rows] β=on (.ok (cX b),f)/\Bnd r c b/\Kp rows b/\f.ok:=by
 suffices h:∃g f,(gD K a).1 [.bag,gridD rows] β=on (g,f)/\(∃(b:LP),g= .ok (cX b)/\Bnd r c b/\Kp rows b/\f.ok) by
  obtain⟨g,f,e,b,rfl,h1,h2⟩:=h;exact⟨b,f,e,h1,h2⟩
 have r1:=t.r1;have c1:=t.c1;have c0:=t.c0;have r0:=t.r0;obtain⟨F,H,I⟩:=t.shp.at (i:=0) (by omega);have hr0:(gI rows)[0]?=on (F.map D.int):=by rw[M9,H];rfl
 unfold gD
 dsimp only
 refine lq ?_;refine EH (β1:=β) (FY (as:=[.int (r:Int),.int (c:Int)]) (β1:=β) (ac (aj rfl (yE (by rw[MZ,t.shp.1]))) (ac (aj (ac (x:= .lst (F.map D.int)) (x_2 rfl rfl (rM hr0)) rfl) (db (by rw[MZ,I]))) rfl)) (yD (by omega) (by omega))) (J7 _) ?_;obtain⟨w0,β1,p1,a0,a1,R⟩:=bt ok (lot:=3) (by decide) (by decide);refine ki (c:=decide (w0=0)) (β1:=β1) (x_B (x_2 (aq rfl p1) rfl eq_int)) ?_;by_cases hw:w0=0
 ·rw[Nf (by simpa using hw)]
  exact aS rfl ⟨_,rfl,Bnd.free r c,Kp.free t,R⟩
 rw[M8 (by simpa using hw)];refine bA ?_;refine bC (ds:=cI 0 ((gI rows).map D.lst)) (β1:=β1) rfl (λ_ δ β=>∃s3 s4,BdI r c rows s3 s4 δ β) ⟨MY,MY,R,l6 r c,MY,MY,MY,rfl,Bnd.free r c,Kp.free t⟩ ?_ ?_
 ·rintro i d δ β2 hd ⟨s3,s4,J,b,Y,Z,T,rfl,o,B⟩
  obtain⟨x,hx,rfl⟩:=vH hd;obtain⟨y,hy,rfl⟩:=bH hx;obtain⟨row,m,rfl⟩:=bH hy;have hi:i<r:=by rw[←t.shp.1];exact(Nj.mp m).1
  have U:row.length=c:=t.shp.2 row (NB m);refine⟨bdS rows b (on (.sh (.int i))) (on (.sh (.lst (row.map D.int)))) Y Z T,rfl,am ?_⟩;refine bC (ds:=cI 0 (row.map D.int)) (β1:=β2) rfl (λ_=>BdI r c rows (on (.sh (.int i))) (on (.sh (.lst (row.map D.int))))) ⟨J,b,Y,Z,T,rfl,o,B⟩ ?_ (λδ β h=>w_end ⟨_,_,h⟩);rintro j d δ β3 hd ⟨ok3,b,Y,Z,T,rfl,o,B⟩;obtain⟨x,hx,rfl⟩:=vH hd;obtain⟨n,hn,rfl⟩:=bH hx;have hj:j<c:=by rw[←U];exact(Nj.mp hn).1
  have hn40:=t.le40 row (NB m) n (NB hn);obtain⟨q,l,L⟩:=o.shp.at hi;refine⟨bdS rows b (on (.sh (.int i))) (on (.sh (.lst (row.map D.int)))) (on (.sh (.int j))) (on (.sh (.int n))) T,rfl,?_⟩;obtain⟨w,A,p4,w0,w1,N⟩:=bt ok3 (lot:=4) (by decide) (by decide);refine aE (d:= .int w) (β1:=A) (aq rfl p4) ?_
  have put:∀(p:Int×Int) (δ:Ds),PairOk p->p.1<=n->n<=p.2->∀{β5:Bg} {fv:FD} {h:G} {Q:Out->Bg->Prop},fv (vwA (bdS rows b (on (.sh (.int i))) (on (.sh (.lst (row.map D.int)))) (on (.sh (.int j))) (on (.sh (.int n))) (on (.sh (.int w))))) A=on (.ok (pD p),β5)->
    (∀b,Bnd r c b->Kp rows b->Gw h (bdS rows b (on (.sh (.int i))) (on (.sh (.lst (row.map D.int)))) (on (.sh (.int j))) (on (.sh (.int n))) (on (.sh (.int w)))) β5 Q)->
    Gw (aI (oY 2 (ad 3) (ad 5) fv) h) (bdS rows b (on (.sh (.int i))) (on (.sh (.lst (row.map D.int)))) (on (.sh (.int j))) (on (.sh (.int n))) (on (.sh (.int w)))) A Q:=λp δ hp h1 h2 β5 fv h Q e k=>by
   refine EG (d:=pD p) (rows:=gP b) (ds:=q.map pD) (ka:=i) (kb:=j) (ja:=i) (jb:=j) e rfl rfl rfl ?_ ?_ ?_ rfl ?_
   ·rw[MZ,o.shp.1];exact k6 (by omega) (by omega)
   ·rw[M9,l];rfl
   ·rw[MZ,L];exact k6 (by omega) (by omega)
   ·have X:(gP b).set i ((q.map pD).set j (pD p))=gP (b.set i (q.set j p)):=by
     show _=OG _ _;rw[RG,RG]
    rw[X];exact k _ (o.set l hp) (B.set l (uv m hn) h1 h2)
  refine ki (c:=decide (w=0)) (β1:=A) (x_B (x_2 rfl rfl eq_int)) ?_;by_cases q0:w=0
  ·rw[Nf (by simpa using q0)]
   obtain⟨u,β5,p5,u0,u1,ok5⟩:=bt N (lot:=n+1) (by omega) (by omega);obtain⟨v,C,p6,v0,v1,O⟩:=bt ok5 (lot:=3) (by decide) (by decide);refine put (n-u,Qk 40 (n+v)) [] ⟨by show 0<=n-u;omega,by show n-u<=Qk 40 (n+v);omega,by show Qk 40 (n+v)<=40;omega⟩ (by show n-u<=n;omega) (by show n<=Qk 40 (n+v);omega) (β5:=C) ?_ λb o B=>?_
   ·exact aj (ac (x_2 rfl (aq (ac rfl (ac (x_2 rfl rfl rfl) rfl)) p5) rfl) (ac (aj (ac rfl (ac (x_2 rfl (aq rfl p6) rfl) rfl)) wx) rfl)) gf
   ·refine am (fJ (β1:=C) ?_ (bA (w_end ⟨O,b,_,_,_,rfl,o,B⟩)))
    rw[show(M4:Bool)=decide (w=1) by rw[q0];rfl];exact x_B (x_2 rfl rfl eq_int)
  ·rw[M8 (by simpa using q0)]
   refine bA (am (ki (c:=decide (w=1)) (β1:=A) (x_B (x_2 rfl rfl eq_int)) ?_));by_cases q1:w=1
   ·rw[Nf (by simpa using q1)]
    obtain⟨v,C,p6,v0,v1,O⟩:=bt N (lot:=3) (by decide) (by decide);refine put (0,Vy n v) [] ⟨by show(0:Int)<=0;omega,by show 0<=Vy n v;omega,by show Vy n v<=40;omega⟩ (by show 0<=n;omega) (by show n<=Vy n v;omega) (β5:=C) ?_ λb o B=>w_end ⟨O,b,_,_,_,rfl,o,B⟩;exact aj (ac rfl (ac (aj (ac rfl (ac (aq rfl p6) rfl)) Ke) rfl)) gf
   ·rw[M8 (by simpa using q1)]
    exact bA (w_end ⟨N,b,_,_,_,rfl,o,B⟩)
 ·rintro δ β2 ⟨s3,s4,J,b,Y,Z,T,rfl,o,B⟩
  exact am (aS rfl ⟨b,rfl,o,B,J⟩)
structure GrW (rows:LI) (c:Nat) (rs:List Nat):Prop where
 shp:Shp rs.length c rows
 nn:∀row∈rows,∀x∈row,0<=x
 sm:rows.map OY=nI rs
 c1:1<=c
 c6:c<=6
 nr:Nrw rs
 wd:pr (rs.dropLast.map (·+1))<63
theorem su:∀{xs:List Int},(∀x∈xs,0<=x)->∃l:List Nat,xs=nI l
 |[],_=>⟨[],rfl⟩
 |x::xs,h=>by
  obtain⟨l,e⟩:=su λy b=>h y (M5 _ b);have:=h x Nb;exact⟨x.toNat::l,by rw[e];show _=((x.toNat:Nat):Int)::_;rw[Int.toNat_of_nonneg this]⟩
theorem few2:∀x<41,∀y<41-x,(x+1)*((y+1)*1)<=500/\(x+1)*1<63:=by decide
theorem few3:∀x<12,∀y<12-x,∀z<12-x-y,(x+1)*((y+1)*((z+1)*1))<=500/\(x+1)*((y+1)*1)<63:=by decide
theorem few4:∀x<9,∀y<9-x,∀z<9-x-y,∀w<9-x-y-z,(x+1)*((y+1)*((z+1)*((w+1)*1)))<=500/\(x+1)*((y+1)*((z+1)*1))<63:=by decide
theorem few:∀{rs:List Nat},(rs.length=2/\rs.sum<=40)\/(rs.length=3/\rs.sum<=11)\/(rs.length=4/\rs.sum<=8)->Nrw rs/\pr (rs.dropLast.map (·+1))<63
 |[x,y],h=>by
  have q:=few2 x (by simp at h;omega) y (by simp at h;omega);exact⟨⟨by show 1<=2;decide,by show 2<=4;decide,by simp at h⊢;omega,q.1⟩,q.2⟩
 |[x,y,z],h=>by
  have q:=few3 x (by simp at h;omega) y (by simp at h;omega) z (by simp at h;omega);exact⟨⟨by show 1<=3;decide,by show 3<=4;decide,by simp at h⊢;omega,q.1⟩,q.2⟩
 |[x,y,z,w],h=>by
  have q:=few4 x (by simp at h;omega) y (by simp at h;omega) z (by simp at h;omega) w (by simp at h;omega);exact⟨⟨by show 1<=4;decide,by show 4<=4;decide,by simp at h⊢;omega,q.1⟩,q.2⟩
 |[],h=>by simp at h
 |[_],h=>by simp at h
 |_::_::_::_::_::_,h=>by simp at h
abbrev gdS(r c t:Nat)(rows:LI)(b d e:Option Sl):Ds:=[on (.sh .bag),on (.sh (.int (r:Int))),on (.sh (.int (c:Int))),on (.sh (.int (t:Int))),on (.grd (gI rows)),b,d,e]
theorem pS{r c t:Nat}(ok:β.ok)(r0:1<=r)(r1:r<=4)(c1:1<=c)(c6:c<=6)(C:(r=2/\t<=40)\/(r=3/\t<=11)\/(r=4/\t<=8)):∃(rows:LI) (rs:List Nat) (j:Bg),(jG K a).1 [.bag,.int (r:Int),.int (c:Int),.int (t:Int)] β=on (.ok (gridD rows),j)/\GrW rows c rs/\j.ok:=by
 suffices h:∃g j,(jG K a).1 [.bag,.int (r:Int),.int (c:Int),.int (t:Int)] β=on (g,j)/\(∃(rows:LI) (rs:List Nat),g= .ok (gridD rows)/\GrW rows c rs/\j.ok) by
  obtain⟨g,j,e,rows,rs,rfl,H,I⟩:=h;exact⟨rows,rs,j,e,H,I⟩
 unfold jG
 dsimp only
 refine lq ?_;refine EH (rows:=(Nd r).map λ_=>Nx c (D.int 0)) (β1:=β) (qR (Nd r) (λi=>D.int (0+(i:Int))) _ (bw (ds:=aU 0 r) rfl (rg1 (by omega) (by omega))) (λx _=>⟨_,rfl,Mu (x:= .int 0) (c:=c) rfl rfl (by omega)⟩) (aX (by rw[ND];omega))) ?_ ?_
 ·rw[Qv]
  intro x k;obtain⟨_,_,rfl⟩:=Nw.mp k;rw[←Qa (f:=D.int)];exact iD _
 have J:(Nd r).map (λ_=>Nx c (D.int 0))=gI (Nx r (Nx c 0)):=by
  show _=OG _ _;rw[Qa,List.map_const',Qa,ND]
 rw[J];refine bC (ds:=aU 0 t) (β1:=β) (bw rfl (rg1 (by omega) (by omega))) (λi δ β=>β.ok/\∃rows p q y,δ=gdS r c t rows p q y/\Shp r c rows/\(∀row∈rows,∀x∈row,0<=x)/\tot rows=(i:Int)) ⟨ok,Nx r (Nx c 0),MY,MY,MY,rfl,⟨by simp,λrow h=>?_⟩,λrow h x k=>?_,?_⟩ ?_ ?_
 ·rw[(O3.mp h).2];simp
 ·rw[(O3.mp h).2]at k
  rw[(O3.mp k).2];exact VE _
 ·unfold tot
  rw[Qa];have z:∀n:Nat,(Nx n (0:Int)).sum=0:=λn=>by
   induction n with
   |zero=>rfl
   |succ n ih=>rw[NX,NJ,ih];rfl
  rw[z,z];rfl
 ·rintro i d δ j hd ⟨m,rows,p,q,y,rfl,sh,nn,C⟩
  obtain⟨v,β1,L,Q,R,A⟩:=bt m (lot:=(r:Int)) (by omega) (by omega);obtain⟨u,β2,N,T,U,B⟩:=bt A (lot:=(c:Int)) (by omega) (by omega);obtain⟨v,rfl⟩:∃n:Nat,v=(n:Int):=⟨v.toNat,by omega⟩;obtain⟨u,rfl⟩:∃n:Nat,u=(n:Int):=⟨u.toNat,by omega⟩;obtain⟨row,b,o⟩:=sh.at (i:=v) (by omega);obtain⟨x,k⟩:=FU (l:=row) (i:=u) (by omega);refine⟨_,rfl,aE (aq rfl L) (aE (aq rfl N) (am (EG (d:= .int (x+1)) (β1:=β2) (β2:=β2) (β3:=β2) (rows:=gI rows) (ds:=row.map D.int) (ka:=v) (kb:=u) (ja:=v) (jb:=u) (x_2 (x_2 (x_2 rfl rfl (rM (row:=row.map D.int) ?_)) rfl (cx (d:= .int x) ?_)) rfl rfl) rfl rfl rfl ?_ ?_ ?_ rfl (w_end ⟨B,rows.set v (row.set u (x+1)),on (.sh d),on (.sh (.int (v:Int))),on (.sh (.int (u:Int))),?_,sh.set b,J8 nn b ?_,?_⟩))))⟩
  ·rw[M9,b];rfl
  ·rw[M9,k];rfl
  ·rw[MZ,sh.1];exact k6 (by omega) (by omega)
  ·rw[M9,b];rfl
  ·rw[MZ,o];exact k6 (by omega) (by omega)
  ·show[_,_,_,_,on (Sl.grd ((gI rows).set v ((row.map D.int).set u (.int (x+1))))),_,_,_]=_
   rw[show(gI rows).set v ((row.map D.int).set u (.int (x+1)))=gI (rows.set v (row.set u (x+1))) by show _=OG _ _;rw[RG,RG]]
  ·have:=nn row (NB b) x (NB k)
   omega
  ·have:=GI (v:=x+1) b k
   omega
 ·rintro δ j ⟨m,rows,p,q,y,rfl,sh,nn,F⟩
  rw[sS]at F;obtain⟨rs,e⟩:=su (xs:=rows.map OY) λx k=>by
   obtain⟨row,O,rfl⟩:=Nw.mp k;exact kr (nn row O)
  have l:rs.length=r:=by rw[←sh.1,←MZ (as:=rows) OY,e,MZ]
  have s:rs.sum=t:=by
   have h:(rows.map OY).sum=(t:Int):=F;rw[e,ib]at h;omega
  obtain⟨q1,q2⟩:=few (rs:=rs) (by rw[l,s];exact C);exact am (aS rfl ⟨rows,rs,rfl,⟨by rw[l];exact sh,nn,e,c1,c6,q1,q2⟩,m⟩)
theorem AL(ok:β.ok):∃(rows:LI) (rs:List Nat) (b:Bg),jO K a [.bag] β=on (.ok (gridD rows),b)/\GrW rows 2 rs/\b.ok:=by
 suffices h:∃g b,jO K a [.bag] β=on (g,b)/\(∃(rows:LI) (rs:List Nat),g= .ok (gridD rows)/\GrW rows 2 rs/\b.ok) by
  obtain⟨g,b,e,rows,rs,rfl,t,u⟩:=h;exact⟨rows,rs,b,e,t,u⟩
 refine lq ?_;unfold ny;refine rj (ds:=[]) (β1:=β) rfl (OC _) ?_;obtain⟨c,β1,y,F,a1,m⟩:=bt ok (lot:=6) (by decide) (by decide);have o:∃l:List Nat,ixD (.lst [nL [40],nL [39,1],nL [30,10],nL [20,20],nL [24,15],nL [13,27]]) (.int c)=on (nL l)/\Nrw l/\pr (l.dropLast.map (·+1))<63/\l.length<=2/\∀x∈l,x<=40:=by
  obtain rfl|rfl|rfl|rfl|rfl|rfl:c=0\/c=1\/c=2\/c=3\/c=4\/c=5:=by omega
  ·exact⟨[40],rfl,⟨by decide,by decide,by decide,by decide⟩,by decide,by decide,by decide⟩
  ·exact⟨[39,1],rfl,⟨by decide,by decide,by decide,by decide⟩,by decide,by decide,by decide⟩
  ·exact⟨[30,10],rfl,⟨by decide,by decide,by decide,by decide⟩,by decide,by decide,by decide⟩
  ·exact⟨[20,20],rfl,⟨by decide,by decide,by decide,by decide⟩,by decide,by decide,by decide⟩
  ·exact⟨[24,15],rfl,⟨by decide,by decide,by decide,by decide⟩,by decide,by decide,by decide⟩
  ·exact⟨[13,27],rfl,⟨by decide,by decide,by decide,by decide⟩,by decide,by decide,by decide⟩
 obtain⟨l,o,q1,q2,q3,q4⟩:=o;refine bC (ds:=(nI l).map D.int) (β1:=β1) (c7 (x_2 (aj rfl rfl) (aq rfl y) o) rfl) (λi δ β=>β.ok/\∃rows p q,δ=[on (.sh .bag),on (.own ((gI rows).map D.lst)),p,q]/\rows.length=i/\(∀row∈rows,row.length=2/\∀x∈row,0<=x)/\rows.map OY=nI (l.take i)) ⟨m,[],MY,MY,rfl,rfl,λ_ h=>(by cases h),rfl⟩ ?_ ?_
 ·rintro i d δ b hd ⟨f,rows,p,q,rfl,j,k,hs⟩
  obtain⟨n,hn,rfl⟩:=oG hd;have A:=q4 n (NB hn);have H:=(Nj.mp hn).1;obtain⟨v,β2,B,I,J,r⟩:=bt f (lot:=(n:Int)+1) (by omega) (by omega);refine⟨_,rfl,aE (aq (ac rfl (ac (x_2 rfl rfl rfl) rfl)) B) (am (rm (cs:=(gI rows).map D.lst) (d:= .lst [.int v,.int ((n:Int)-v)]) rfl (ac (aj (ac rfl (ac (x_2 rfl rfl rfl) rfl)) rfl) rfl) (NH (show _<1000 by rw[MZ,MZ];omega) (by decide)) (w_end ⟨r,rows++[[v,(n:Int)-v]],on (.sh (.int (n:Int))),on (.sh (.int v)),?_,by rw[Ny,j];rfl,λrow h=>?_,?_⟩)))⟩
  ·show _=[_,on (Sl.own (OG _ (OG _ (rows++_)))),_,_]
   rw[NR,NR];rfl
  ·rcases OE.mp h with h|h
   ·exact k row h
   ·cases NU.mp h
    refine⟨rfl,λx C=>?_⟩;simp at C;omega
  ·rw[NR,hs,Q5,hn]
   show _=OG _ (_++_);rw[NR];congr 1;simp;omega
 ·rintro δ b ⟨f,rows,p,q,rfl,j,k,hs⟩
  rw[kU]at j;rw[kU,Pz]at hs;exact am (aS rfl ⟨rows,l,rfl,⟨⟨j,λrow h=>(k row h).1⟩,λrow h=>(k row h).2,hs,by decide,by decide,q1,q2⟩,f⟩)
theorem AX(ok:β.ok):∃(rows:LI) (c:Nat) (rs:List Nat) (b:Bg),(iB K a).1 [.bag] β=on (.ok (gridD rows),b)/\GrW rows c rs/\b.ok:=by
 suffices h:∃g b,(iB K a).1 [.bag] β=on (g,b)/\(∃(rows:LI) (c:Nat) (rs:List Nat),g= .ok (gridD rows)/\GrW rows c rs/\b.ok) by
  obtain⟨g,b,e,rows,c,rs,rfl,B,C⟩:=h;exact⟨rows,c,rs,b,e,B,C⟩
 unfold iB
 dsimp only
 refine lq ?_;obtain⟨u,β1,F,L,a1,l⟩:=bt ok (lot:=6) (by decide) (by decide);refine ki (x_B (x_2 (aq rfl F) rfl eq_int)) ?_;by_cases q:u=0
 ·obtain⟨rows,rs,β2,e,g,f⟩:=AL (K:=K) (a:=a) l
  rw[Nf (NF q)];exact aS (aq rfl e) ⟨rows,2,rs,rfl,g,f⟩
 rw[M8 (by simp[q])];refine bA ?_;obtain⟨y,β2,H,b0,b1,f⟩:=bt l (lot:=5) (by decide) (by decide);refine aE (aq rfl H) ?_;refine ki (β1:=β2) (x_B (x_2 rfl rfl eq_int)) ?_;by_cases q2:y=0
 ·rw[Nf (NF q2)]
  obtain⟨c,β3,m,c0,c1,i⟩:=bt f (lot:=5) (by decide) (by decide);obtain⟨t,o,p,A,d1,j⟩:=bt i (lot:=25) (by decide) (by decide);obtain⟨c,rfl⟩:∃n:Nat,c=(n:Int):=⟨c.toNat,by omega⟩;obtain⟨t,rfl⟩:∃n:Nat,t=(n:Int):=⟨t.toNat,by omega⟩;obtain⟨rows,rs,β5,e,g,k⟩:=pS (K:=K) (a:=a) (r:=2) (c:=2+c) (t:=t) j (by decide) (by decide) (by omega) (by omega) (by omega);exact aS (aq (ac rfl (ac rfl (ac (x_2 (z:= .int ((2+c:Nat):Int)) rfl (aq rfl m) (by show on (D.int _)=_;rw[Qi];rfl)) (ac (aq rfl p) rfl)))) e) ⟨rows,2+c,rs,rfl,g,k⟩
 rw[M8 (by simp[q2])];refine bA ?_;refine ki (β1:=β2) (x_B (x_2 rfl rfl eq_int)) ?_;by_cases q3:y=1
 ·rw[Nf (NF q3)]
  obtain⟨c,β3,m,c0,c1,i⟩:=bt f (lot:=2) (by decide) (by decide);obtain⟨t,o,p,A,d1,j⟩:=bt i (lot:=9) (by decide) (by decide);obtain⟨c,rfl⟩:∃n:Nat,c=(n:Int):=⟨c.toNat,by omega⟩;obtain⟨t,rfl⟩:∃n:Nat,t=(n:Int):=⟨t.toNat,by omega⟩;obtain⟨rows,rs,β5,e,g,k⟩:=pS (K:=K) (a:=a) (r:=4) (c:=2+c) (t:=t) j (by decide) (by decide) (by omega) (by omega) (by omega);exact aS (aq (ac rfl (ac rfl (ac (x_2 (z:= .int ((2+c:Nat):Int)) rfl (aq rfl m) (by show on (D.int _)=_;rw[Qi];rfl)) (ac (aq rfl p) rfl)))) e) ⟨rows,2+c,rs,rfl,g,k⟩
 rw[M8 (by simp[q3])];refine bA ?_;obtain⟨r,β3,m,c0,c1,i⟩:=bt f (lot:=2) (by decide) (by decide);obtain⟨c,o,p,A,d1,j⟩:=bt i (lot:=3) (by decide) (by decide);obtain⟨t,β5,I,N,O,k⟩:=bt j (lot:=12) (by decide) (by decide);obtain⟨r,rfl⟩:∃n:Nat,r=(n:Int):=⟨r.toNat,by omega⟩;obtain⟨c,rfl⟩:∃n:Nat,c=(n:Int):=⟨c.toNat,by omega⟩;obtain⟨t,rfl⟩:∃n:Nat,t=(n:Int):=⟨t.toNat,by omega⟩;obtain⟨rows,rs,J,e,g,v⟩:=pS (K:=K) (a:=a) (r:=2+r) (c:=2+c) (t:=t) k (by omega) (by omega) (by omega) (by omega) (by omega);refine aE (d:= .int ((2+r:Nat):Int)) (x_2 rfl (aq rfl m) (by show on (D.int _)=_;rw[Qi];rfl)) ?_;refine aE (d:= .int ((2+c:Nat):Int)) (x_2 rfl (aq rfl p) (by show on (D.int _)=_;rw[Qi];rfl)) ?_;exact am (aS (aq (ac rfl (ac rfl (ac rfl (ac (aq rfl I) rfl)))) e) ⟨rows,2+c,rs,rfl,g,v⟩)
theorem toB{r c:Nat}{b:LP}(h:Bnd r c b):∃B,b=gJ B/\BOk r c B:=by
 have e:b=gJ (b.map λrow=>row.map λp=>(p.1.toNat,p.2.toNat)):=by
  unfold gJ;rw[Nk];refine(TY b).symm.trans (NT λrow g=>?_);show row=OG _ (OG _ row);rw[Nk];refine(TY row).symm.trans (NT λp i=>?_);obtain⟨a1,a2,a3⟩:=h.ok row g p i;exact Qr (show p.1=((p.1.toNat:Nat):Int) by omega) (show p.2=((p.2.toNat:Nat):Int) by omega)
 refine⟨_,e,h.shp.map,λrow g p i=>?_⟩;obtain⟨d,j,rfl⟩:=Nw.mp g;obtain⟨f,k,rfl⟩:=Nw.mp i;obtain⟨a1,a2,a3⟩:=h.ok d j f k;show f.1.toNat<=f.2.toNat/\f.2.toNat<=40;omega
theorem Iz{rows:LI}{B:List (List (Nat×Nat))}{rs cs:List Nat}(h:NtB rows B rs cs):(pF K a).1 [gridD rows,bDN B] β=on (.ok (Kb a B rs cs),β):=by
 obtain⟨e,g,_,_⟩:=h.nr;have c6:=h.c6;have b:=oq (K:=K) (a:=a) (β:=β) (rows:=rows) (by rw[h.shp.1];omega);have c:=kg (K:=K) (a:=a) (β:=β) h.shp e (by omega) (by omega);rw[h.rw1]at b;rw[h.cl1]at c;have f:=y0 (K:=K) (a:=a) (β:=β) (rows:=gP (gJ B)) (by rw[MZ,(iN h.bok.1).1];omega);unfold pF
 dsimp only
 refine aR (am (aS (d:=Kb a B rs cs) (β1:=β) ?_ ⟨rfl,rfl⟩));unfold yW;rw[M.bind_ok (ac (aq rfl b) (ac (aq rfl c) rfl)),M.bind_ok (ac (aq rfl f) rfl)];exact(M.bind_ok (Ka h)).trans rfl
theorem GrW.tab{rows:LI}{c:Nat}{rs:List Nat}(g:GrW rows c rs):Tab rs.length c rows:=by
 obtain⟨b,d,e,_⟩:=g.nr;refine⟨g.shp,g.nn,?_,b,d,g.c1,g.c6⟩;show(rows.map OY).sum<=40;rw[g.sm,ib];omega
theorem Ku{rows:LI}{c:Nat}{rs:List Nat}{b:LP}(g:GrW rows c rs)(f:Bnd rs.length c b)(kp:Kp rows b):∃B cs,b=gJ B/\NtB rows B rs cs/\cs.length=c:=by
 obtain⟨B,rfl,ok⟩:=toB f;obtain⟨cs,e⟩:=su (xs:=(tp c rows).map OY) λx i=>by
  obtain⟨row,j,rfl⟩:=Nw.mp i;exact kr (L6 g.nn row j)
 have k:cs.length=c:=by rw[←(uG (d:=(0:Int)) (c:=c) g.shp.1).1,←MZ (as:=tpA 0 c rows) OY];exact(Oi Rt e).symm▸(MZ _).symm
 have l:rs.sum=cs.sum:=by
  have h:tot (tp c rows)=tot rows:=xz g.shp.2;unfold tot at h;rw[e,g.sm,ib,ib]at h;omega
 subst k;exact⟨B,cs,rfl,⟨⟨g.nr,g.wd,l,g.c1,g.c6⟩,g.shp,g.sm,e,ok,kp⟩,rfl⟩
theorem GY(n:Nat):dM K a n=eE n:=by
 induction n with
 |zero=>rfl
 |succ n ih=>
  show cr 2 (nz K a (dM K a n))=cr 2 (iI (eE n));rw[ih];rfl
theorem wc{d:D}(h:okD 4 d):dM K a 5 [d,d] β=on (.ok (.bl M2),β):=by
 rw[GY];exact pC 4 d β h
def ndL(W:Wy)(rs:List Nat)(m:Nat):List (Nat×List Nat):=(Nd (m+1)).flatMap λk=>(lvW W rs k).map λr=>(k,r)
abbrev rwD(W:Wy)(m:Nat)(p:Nat×List Nat):D:= .tup [.int (p.1:Int),tN p.2,.int ((tbW W (m-p.1) p.1 p.2:Nat):Int),.int ((dlW W (m-p.1) p.1 p.2:Nat):Int)]
theorem wv(m:Nat):kyW W rs (m+1)=(ndL W rs m).map λp=>((p.1:Int),nI p.2):=by
 unfold kyW ndL;rw[O5];simp only[Nk];rfl
theorem EZ(m:Nat):xb W rs m=(ndL W rs m).map λp=>cv W m p.1 p.2:=by
 unfold ndL;rw[O5];simp only[Nk];rfl
theorem yt{m:Nat}{p:Nat×List Nat}(h:p∈ndL W rs m):p.1<=m/\p.2∈lvW W rs p.1:=by
 obtain⟨k,b,c⟩:=O6.mp h;obtain⟨r,d,rfl⟩:=Nw.mp c;exact⟨by have:=Nz.mp b;show k<=m;omega,d⟩
theorem fY(h:Nt1 K a rs cs W bd):(ndL W rs cs.length).length<=1000:=NG (fI (n:=62) λk b=>by
 have:=Nz.mp b;rw[MZ];exact tF h (by omega)) (by have:=h.c6;rw[ND];omega)
theorem xh{α:Type}{f:KyD->D->D}{g:α->KyD}{u:α->D}:∀l:List α,RH f (l.map g) (l.map u)=l.map λx=>f (g x) (u x)
 |[]=>rfl
 |x::l=>Oi (_::·) (xh l)
theorem zB{x y z v:D}:bY [x,y,z,v]=on (.tup [x,y,z,v]):=by
 unfold bY;rw[Nf (aX (by show 4<=1000;decide))]
theorem zS(h:Nt1 K a rs cs W bd):(gZ K a).1 [ii W rs cs.length] β=on (.ok (.lst ((ndL W rs cs.length).map (rwD W cs.length))),β):=by
 unfold gZ
 dsimp only
 refine aR (am (aS (bf (ndL W rs cs.length) (λp=> .tup [.tup [.int (p.1:Int),tN p.2],cv W cs.length p.1 p.2]) (rwD W cs.length) ?_ (λp _=>⟨[on (.int (p.1:Int)),on (tN p.2),on (.int ((tbW W (cs.length-p.1) p.1 p.2:Nat):Int)),on (.int ((dlW W (cs.length-p.1) p.1 p.2:Nat):Int))],rfl,aj rfl zB⟩) (aX (fY h))) ⟨rfl,rfl⟩));show on (Pa (RH _ (kyW W rs (cs.length+1)) (xb W rs cs.length)),β)=_;rw[wv,EZ,xh];rfl
theorem z7(h:Nt1 K a rs cs W bd):(mE K a).1 [m7 a W bd rs cs] β=on (.ok (.lst ((ndL W rs cs.length).map (rwD W cs.length))),β):=
 aR (am (aS (aq (ac (rh rfl rfl) rfl) (zS h)) ⟨rfl,rfl⟩))
theorem okT(l:List Nat)(h:l.length<=4):okD 3 (tN l):=⟨aX (by rw[MZ,MZ];omega),λz b=>by
 obtain⟨i,_,rfl⟩:=Nw.mp b;trivial⟩
theorem okR{k x y:Int}{l:List Nat}(h:l.length<=4):okD 4 (.tup [.int k,tN l,.int x,.int y]):=⟨aX (by show 4<=1000;decide),λz hz=>by
 rcases Nq.mp hz with rfl|hz
 ·trivial
 rcases Nq.mp hz with rfl|hz
 ·exact okT l h
 rcases Nq.mp hz with rfl|hz
 ·trivial
 cases NU.mp hz;trivial⟩
theorem LT{i:Nat}{b:Bool}{h:G}{δ:Ds}{Q:Out->Bg->Prop}(k:Gw h (δ.set i (on (.odc b [] []))) β Q):Gw (aI (Kz i b) h) δ β Q:=eA rfl k
theorem I9{i:Nat}{c e:FD}{h:G}{δ:Ds}{Q:Out->Bg->Prop}{d kd:D}{b:Bool}{ks:List KyD}{vs:List D}{k:KyD}{β1 β2:Bg}(f:e (vwA δ) β=on (.ok d,β1))(g:c (vwA δ) β1=on (.ok kd,β2))(j:δ.getD i MY=on (.odc b ks vs))(l:eK b kd=on k)(hn:noL d=M2)(m:ks.length<Nr)(n:Gw h (δ.set i (on (.odc b (stK ks k) (stY ks vs k d)))) β2 Q):Gw (aI (rQ i c e) h) δ β Q:=
 eA (by unfold rQ;simp only[f,g,j,l,hn,NF m,Rf,N4]) n
abbrev rgS(W:Wy)(rs cs:List Nat)(bd:D)(k:Nat)(r:List Nat)(t d:Nat)(b c:Option Sl):Ds:=[on (.sh (rwD W cs.length (k,r))),on (.sh (ii W rs cs.length)),on (.sh (nL cs)),on (.sh bd),on (.sh (.int (k:Int))),on (.sh (.int (t:Int))),on (.sh (.int (d:Int))),b,c]
theorem HA{rows:LI}{B:List (List (Nat×Nat))}(h:NtB rows B rs cs){k:Nat}{r:List Nat}(I:k<=cs.length)(p:r∈lvW (wB B cs) rs k):(g0 K a).1 [rwD (wB B cs) cs.length (k,r),ii (wB B cs) rs cs.length,nL cs,bDN B] β=on (.ok (.bl M2),β):=by
 have c:Nt1 K a rs cs (wB B cs) (bDN B):=h.nt;obtain⟨n,L,N⟩:=c.at I p;have c6:=h.c6;have r4:=n.2.1;have hs:=(fZ c.ok c.sm k I r p).2;have j:ixD (rwD (wB B cs) cs.length (k,r)) (.int 1)=on (tN r):=rfl;unfold g0
 dsimp only
 refine aR ?_;refine fJ (β1:=β) (rf (lA (nM (x:= .bl M2) (aj rfl rfl) rfl)) (x_B (x_2 (aj rfl (z:= .int 4) rfl) rfl (ne_int.trans (by simp))))) (bA ?_);refine aE (d:= .int (k:Int)) (β1:=β) (x_2 rfl rfl rfl) ?_;refine ki (β1:=β) (x_B (x_2 rfl (aj rfl (tL cs)) eq_int)) ?_;by_cases q:k=cs.length
 ·rw[Nf (NF (by omega))]
  subst q;have O:r=Nx r.length 0:=Jp (by rw[hs,Qw];rfl);have Q:(r.map λ_:Nat=>D.int 0)=(nI r).map D.int:=by
   show _=OG _ (OG _ r);rw[Nk];refine NT λx hx=>?_;rw[O]at hx;rw[(O3.mp hx).2];rfl
  refine aS (aq (ac rfl (ac (aj (ac rfl (ac (aj (ac (bf (nv:=1) (caps:=[]) r (λx:Nat=>D.int (x:Int)) (λ_=>D.int 0) (c7 (x_2 rfl rfl j) (by show on (OG _ (OG _ _))=_;rw[Nk];rfl)) (λx _=>⟨[on (.int (x:Int))],rfl,rfl⟩) (aX (by omega))) rfl) (z:= .tup (r.map λ_=>D.int 0)) rfl) (ac rfl (ac rfl rfl)))) zB) rfl)) ?_) ⟨rfl,rfl⟩;rw[Q];have R:rwD (wB B cs) cs.length (cs.length,r)= .tup [.int (cs.length:Int),tN r,.int 1,.int 1]:=by
   unfold rwD;simp only[Px];rfl
  rw[R];exact wc (okR (by omega))
 ·rw[M8 (λz=>q (by have:=PP z;omega))]
  have b:k<cs.length:=by omega
  refine bA (aE (d:= .int 0) (β1:=β) rfl (aE (d:= .int 0) (β1:=β) rfl ?_));obtain⟨T,U⟩:=h.bok.col b;have X:cb 1 [4] (bV (ad 3)) (tgC 0) (λ_=>M.ret M2) (cEm (f2 ixD (ad 0) (ad 1))) (vw (rgS (wB B cs) rs cs (bDN B) k r 0 0 MY MY)) β=on (.ok (.lst ((nA B k).map pN)),β):=by
   have:=bf (nv:=1) (caps:=[4]) (it:=bV (ad 3)) (tg:=tgC 0) (f:=f2 ixD (ad 0) (ad 1)) (δ:=vw (rgS (wB B cs) rs cs (bDN B) k r 0 0 MY MY)) (β:=β) B (λrow=>D.lst (row.map pN)) (λrow=>pN (row.getD k (0,0))) (c7 rfl (by show on (OG _ (OG _ (OG _ B)))=_;rw[Nk,Nk];congr 1;refine NT λrow _=>?_;show D.lst (OG _ (OG _ row))=_;rw[Nk];rfl)) (λrow g=>⟨[on (.lst (row.map pN)),on (.int (k:Int))],rfl,x_2 rfl rfl (cx (by rw[M9,eZ (by rw[h.bok.1.2 row g];exact b),M6 (by rw[h.bok.1.2 row g];exact b)];rfl))⟩) (aX (by rw[h.bok.1.1];have:=h.nr.2.1;omega));unfold nA;rw[Nk];exact this
  have t:ixD (nL cs) (.int (k:Int))=on (.int ((cs.getD k 0:Nat):Int)):=cx (by rw[M9,M9,eZ b,M6 b];rfl);refine bC (ds:=(wB B cs k r).map nL) (β1:=β) (c7 (aq (ac (x_2 rfl rfl j) (ac (x_2 rfl rfl t) (ac X rfl))) (IB n (by rw[T,L]) U)) rfl) (λi δ u=>β=u/\∃y A,δ=rgS (wB B cs) rs cs (bDN B) k r (L2.Nt.sm ((wB B cs k r).take i) λv=>tbW (wB B cs) (cs.length-(k+1)) (k+1) (less r v)) (L2.Nt.sm ((wB B cs k r).take i) λv=>mu v*dlW (wB B cs) (cs.length-(k+1)) (k+1) (less r v)) y A) ⟨rfl,MY,MY,rfl⟩ ?_ ?_
  ·rintro i d δ _ hd ⟨rfl,y,A,rfl⟩
   obtain⟨v,C,rfl⟩:=bH hd;have hm:=NB C;have o:=c.nx p hm;have l:=(c.ok k r).subset hm;have F:=(fZ c.ok c.sm (k+1) b _ o).2;have m:v.sum<=40:=NG (dQ l).sum N;have H:=(c.at b o).2.2;have Y:v.length<=4:=by rw[(dQ l).len];exact n.2.1
   have J:wX (ii (wB B cs) rs cs.length) (.tup [.int ((k+1:Nat):Int),tN (less r v)])=on (cv (wB B cs) cs.length (k+1) (less r v)):=by
    show(eK M2 (dK M2 (((k+1:Nat):Int),nI (less r v)))).bind _=_;rw[jo λe=>(by cases e)];exact lk_net (by omega) o
   refine⟨_,rfl,aE (d:= .tup [.int ((k+1:Nat):Int),tN (less r v)]) (β1:=β) (aj (ac (x_2 rfl rfl rfl) (ac (aj (ac (aq (ac (x_2 rfl rfl j) (ac rfl rfl)) (AQ (dQ l) n.2.1)) rfl) (xw _)) rfl)) gf) ?_⟩;refine fJ (β1:=β) (x_B (x_2 rfl rfl (J9 (by omega) o))) (bA ?_);refine aE (d:= .int ((L2.Nt.sm ((wB B cs k r).take (i+1)) λv=>tbW (wB B cs) (cs.length-(k+1)) (k+1) (less r v):Nat):Int)) (β1:=β) (x_2 rfl (x_2 (x_2 rfl rfl J) rfl wM) (by rw[rq _ C];rfl)) ?_;refine am (aE (d:= .int ((L2.Nt.sm ((wB B cs k r).take (i+1)) λv=>mu v*dlW (wB B cs) (cs.length-(k+1)) (k+1) (less r v):Nat):Int)) (β1:=β) (x_2 rfl (x_2 (x_2 (x_2 rfl rfl J) rfl wL) (aq rfl (AM m Y)) (pK (dN (NG (uh c.ok _ _ _ (by omega)) (by rw[ug _ _ F];exact FC H)) (by decide)) (dN (sj m) (by decide)))) (by rw[rq _ C,sf,PY];rfl)) (w_end ⟨rfl,_,_,rfl⟩))
  ·rintro δ _ ⟨rfl,y,A,rfl⟩
   rw[MZ,Pz];have Z:(L2.Nt.sm (wB B cs k r) λv=>tbW (wB B cs) (cs.length-(k+1)) (k+1) (less r v))=tbW (wB B cs) (cs.length-k) k r:=by rw[show cs.length-k=cs.length-(k+1)+1 by omega];rfl
   have ed:(L2.Nt.sm (wB B cs k r) λv=>mu v*dlW (wB B cs) (cs.length-(k+1)) (k+1) (less r v))=dlW (wB B cs) (cs.length-k) k r:=by rw[show cs.length-k=cs.length-(k+1)+1 by omega];rfl
   rw[Z,ed];refine am (aS (aq (ac (x:=cv (wB B cs) cs.length k r) rfl (ac (aj rfl gf) rfl)) (wc ⟨aX (by show 2<=1000;decide),λx hx=>?_⟩)) ⟨rfl,rfl⟩);rcases Nq.mp hx with rfl|hx
   ·trivial
   ·cases NU.mp hx
    trivial
abbrev l22(g l r c t p:D)(d e b:Option Sl):Ds:=[MY,on (.sh .bag),on (.sh g),on (.sh l),on (.sh r),on (.sh c),on (.sh t),on (.sh p),d,e,b]
theorem AV(β:Bg)(ok:β.ok):∃b,(ou K a).1 [MY,on (.sh .bag),MY,MY,MY,MY,MY,MY,MY,MY,MY] β=on (.rt (.bl M2),b):=by
 suffices h:Gw (ou K a).1 [MY,on (.sh .bag),MY,MY,MY,MY,MY,MY,MY,MY,MY] β (λo _=>o= .rt (.bl M2)) by
  obtain⟨o,b,e,rfl⟩:=h;exact⟨b,e⟩
 obtain⟨g,c,rs,β1,I,u,n⟩:=AX (K:=K) (a:=a) ok;obtain⟨l,β2,J,bl,L,O⟩:=wG (K:=K) (a:=a) u.tab n;obtain⟨B,cs,rfl,nt,X⟩:=Ku u bl L;have r1:=nt.nr.1;have Y:=nt.nr.2.1;have c6:=nt.c6;have v:Nt1 K a rs cs (wB B cs) (bDN B):=nt.nt;have y:=oq (K:=K) (a:=a) (β:=β2) (rows:=g) (by rw[nt.shp.1];omega);have A:=kg (K:=K) (a:=a) (β:=β2) nt.shp r1 (by omega) (by omega);rw[nt.rw1]at y;rw[nt.cl1]at A;have Z:=fY v;unfold ou
 dsimp only
 refine aE (aq rfl I) (aE (aq rfl J) (aE (aq rfl y) (aE (aq rfl A) (aE (aq rfl (Iz nt)) (aE (kh rfl rfl (z7 v)) (LT ?_))))));show Gw _ (l22 (gridD g) (bDN B) (nL rs) (nL cs) (m7 a (wB B cs) (bDN B) rs cs) (.lst ((ndL (wB B cs) rs cs.length).map (rwD (wB B cs) cs.length))) (on (.odc M2 [] [])) MY MY) β2 _;generalize gridD g=gd;have C:=tQ (W:=wB B cs) (rs:=rs) (cs.length+1);rw[wv]at C;generalize q:ndL (wB B cs) rs cs.length=N at*;refine bC (ds:=N.map (rwD (wB B cs) cs.length)) (β1:=β2) rfl (λi δ b=>β2=b/\∃f,δ=l22 gd (bDN B) (nL rs) (nL cs) (m7 a (wB B cs) (bDN B) rs cs) (.lst (N.map (rwD (wB B cs) cs.length))) (on (.odc M2 ((N.map λp=>((p.1:Int),nI p.2)).take i) ((N.map λp=>cv (wB B cs) cs.length p.1 p.2).take i))) f MY) ⟨rfl,MY,rfl⟩ ?_ ?_
 ·rintro i d δ _ hd ⟨rfl,f,rfl⟩
  obtain⟨p,m,rfl⟩:=bH hd;have hi:=(Nj.mp m).1;have F:(N.map λp=>((p.1:Int),nI p.2))[i]?=on ((p.1:Int),nI p.2):=by rw[M9,m];rfl
  have Q:(N.map λp=>cv (wB B cs) cs.length p.1 p.2)[i]?=on (cv (wB B cs) cs.length p.1 p.2):=by rw[M9,m];rfl
  have H:((p.1:Int),nI p.2)∉(N.map λp=>((p.1:Int),nI p.2)).take i:=λhm=>by
   obtain⟨j,R,e⟩:=List.mem_take_iff_getElem.mp hm;rw[MZ]at R;have T:=(Nj.mp F).2;have:=(List.getElem_inj (h₀:=by rw[MZ];omega) (h₁:=by rw[MZ];omega) C).mp (e.trans T.symm);omega
  refine⟨_,rfl,am (I9 (d:=cv (wB B cs) cs.length p.1 p.2) (kd:=dK M2 ((p.1:Int),nI p.2)) (β1:=β2) (β2:=β2) rfl rfl rfl (jo λe=>(by cases e)) rfl (NH (show _<2000 by rw[OQ];omega) (by decide)) (w_end ⟨rfl,on (.sh (rwD (wB B cs) cs.length p)),?_⟩))⟩;unfold stK stY;rw[M8 H,M8 H,Q5,Q5,F,Q];rfl
 rintro δ _ ⟨rfl,f,rfl⟩;have U:N[0]?=on (0,rs):=by
  rw[←q];unfold ndL;rw[SD,Om];rfl
 rw[MZ,OR (by rw[MZ];exact Nh _),OR (by rw[MZ];exact Nh _)];refine aE (d:=rwD (wB B cs) cs.length (0,rs)) (β1:=β2) (aj (ac rfl (ac (aj rfl (xw rs)) (ac (kh rfl rfl GL) (ac (kh rfl rfl BQ) rfl)))) zB) ?_;refine fJ (β1:=β2) (rf (x_B (x_2 (aj rfl rfl) (aj rfl (db (r:=N.length) (by rw[MZ]))) (ne_int.trans (by simp)))) (lA (c:=M2) (nM (aq (ac (x_2 rfl rfl (cx (k:=0) (by rw[M9,U];rfl))) (ac rfl rfl)) (wc (okR (by omega)))) rfl))) (bA ?_);refine bC (ds:=N.map (rwD (wB B cs) cs.length)) (β1:=β2) rfl (λi δ b=>β2=b/\∃f,δ=l22 gd (bDN B) (nL rs) (nL cs) (m7 a (wB B cs) (bDN B) rs cs) (.lst (N.map (rwD (wB B cs) cs.length))) (on (.odc M2 (N.map λp=>((p.1:Int),nI p.2)) (N.map λp=>cv (wB B cs) cs.length p.1 p.2))) f (on (.sh (rwD (wB B cs) cs.length (0,rs))))) ⟨rfl,f,rfl⟩ ?_ ?_
 ·rintro i d δ _ hd ⟨rfl,f,rfl⟩
  obtain⟨⟨k,r⟩,m,rfl⟩:=bH hd;have hm:=NB m;rw[←q]at hm;have t:=HA (K:=K) (a:=a) (β:=β2) nt (yt hm).1 (yt hm).2;unfold ii at t;rw[wv,EZ,q]at t;exact⟨_,rfl,am (fJ (β1:=β2) (lA (c:=M2) (nM (aq rfl t) rfl)) (bA (w_end ⟨rfl,_,rfl⟩)))⟩
 ·rintro δ _ ⟨rfl,f,rfl⟩
  exact am (aS rfl rfl)
noncomputable abbrev E(P:UB)(n:String)(t:Nat)(v:M7):QV:=⟨PyData.keyHash P (OS n),.str (OS n) t,v⟩
noncomputable abbrev FN(x q:NY)(s:OA)(c d b e:M7)(f:Option M3)(cd ct:M7):NK:=Q3 x q (gO s) (cc s) (ae s) c d b e f cd ct
noncomputable abbrev fO(f:NK):NM:=⟨.type "function",MY,.func f,#[]⟩
noncomputable abbrev tO(l:List M7):NM:=⟨.type "tuple",MY,.seq l.toArray 0,#[]⟩
noncomputable abbrev cO(l:List M7):NM:=⟨.type "code",MY,.fields l.toArray,#[]⟩
noncomputable abbrev eB(P:UB)(n:String)(t:Nat):QV:=E P n t (.builtin n)
noncomputable abbrev eT(P:UB)(n:String)(t:Nat):QV:=E P n t (.type n)
noncomputable abbrev eR(P:UB)(n:String)(t r:Nat):QV:=E P n t (.ref r)
noncomputable abbrev nO(l:List M7):NM:=⟨.none,MY,.fields l.toArray,#[]⟩
noncomputable abbrev fB(x q:NY)(s:OA):NM:=⟨.none,MY,.func ⟨x,q,gO s,.stmts (cc s),ae s,0,[],.none,.none,.none,.none,MY,.none,.none,0⟩,#[]⟩
noncomputable abbrev cC(n q:NY)(t l a po c fl r:Nat)(b:Bool)(d e:Nat)(x y z w:M7)(u f v:Nat):NM:=cO [.str n t,.str q (t+1),.str "/claim/cut.py" (t+2),.int l 0,.int a 0,.int po 0,.int c 0,.int fl 0,.ref r,.bool b,.int d 0,.ref e,x,y,z,w,.int u 0,.int f 0,.str "/claim/cut.py" v]
noncomputable abbrev cF(n:NY)(t l a b r c u:Nat):NM:=cC n n t l a 0 b 3 r M2 c (r+1) .none .none .none (.ref (r+2)) u l (u+1)
noncomputable abbrev cG(n:NY)(t l a b r c u:Nat):NM:=cC n n t l a 0 b 3 r M2 c (r+1) .none (.ref (r+2)) (.ref (r+3)) (.ref (r+4)) u l (u+1)
noncomputable abbrev fM(m:NY)(t:Nat)(x:NY)(i c:Nat):NM:=fO (FN x x (top i) .none .none .none (.str m t) MY (.ref c) .none)
abbrev eTt:List M7:=[(.ref 38),(.type "ValueError"),(.type "Exception"),(.type "BaseException"),(.type "object")]
noncomputable abbrev xOo(x:NY)(a d b t u:Nat):NM:=⟨(.type "type"),MY,(.cls ⟨x,[(.ref 38)],(.ref a)::eTt,d,x,M2,[],[],M4,MY,M4⟩),#[(on (.ref b)),MY,(on (.str x t)),(on (.str x u)),(on (.builtin "ValueError.__new__")),(on (.bool M2))]⟩
noncomputable abbrev iSs(n:Nat):NM:=⟨(.type "builtin_function_or_method"),MY,(.fields #[(.builtin "object.__init_subclass__"),(.ref n)]),#[]⟩
noncomputable abbrev tx0:M7:= .str "edgetally.errors" 194
noncomputable abbrev tx1:M7:= .str "edgetally.net" 464
noncomputable abbrev tx2:M7:= .str "__main__" 164
noncomputable abbrev fL(x q:NY)(i c:Nat):NM:=fO (FN x q (top i) .none .none .none (.str "law_edgetally_k22_whole_paper_adds_up" 642) MY (.ref c) .none)
noncomputable def trL:List Nat->List M7
 |a::b::c::l=> .int a 0:: .int b 0:: .ref c::trL l
 |_=>[]
noncomputable abbrev nT(l:List Nat):NM:=nO (trL l)
noncomputable def stL:Nat->List NY->List M7
 |_,[]=>[]
 |t,x::l=> .str x t::stL (t+1) l
noncomputable abbrev tS(t:Nat)(l:List NY):NM:=tO (stL t l)
noncomputable def fD(o:NM):NK:=match o.data with
 | .func f=>f
 |_=>FN "" "" (top 0) .none .none .none .none MY .none .none
end
section
variable(P:UB)
def b0:NM:=⟨(.type "dict"),MY,(.dict #[(E P "__name__" 1 (.str "builtins" 160)),(E P "__doc__" 2 (.builtin "builtins.__doc__:str#opaque")),(E P "__package__" 3 (.builtin "builtins.__package__:str#opaque")),(E P "__loader__" 4 (.builtin "builtins.__loader__:shared#opaque")),(E P "__spec__" 5 (.builtin "builtins.__spec__#opaque")),(eB P "__build_class__" 6),(eB P "__import__" 7),(eB P "abs" 8),(eB P "all" 9),(eB P "any" 10),(eB P "ascii" 11),(eB P "bin" 12),(eB P "breakpoint" 13),(eB P "callable" 14),(eB P "chr" 15),(eB P "compile" 16),(eB P "delattr" 17),(eB P "dir" 18),(eB P "divmod" 19),(eB P "eval" 20),(eB P "exec" 21),(eB P "format" 22),(eB P "getattr" 23),(eB P "globals" 24),(eB P "hasattr" 25),(eB P "hash" 26),(eB P "hex" 27),(eB P "id" 28),(eB P "input" 29),(eB P "isinstance" 30),(eB P "issubclass" 31),(eB P "iter" 32),(eB P "aiter" 33),(eB P "len" 34),(eB P "locals" 35),(eB P "max" 36),(eB P "min" 37),(eB P "next" 38),(eB P "anext" 39),(eB P "oct" 40),(eB P "ord" 41),(eB P "pow" 42),(eB P "print" 43),(eB P "repr" 44),(eB P "round" 45),(eB P "setattr" 46),(eB P "sorted" 47),(eB P "sum" 48),(eB P "vars" 49),(E P "None" 50 .none),(E P "Ellipsis" 51 .ellipsis),(E P "NotImplemented" 52 .notImplemented),(E P "False" 53 (.bool M4)),(E P "True" 54 (.bool M2)),(eT P "bool" 55),(eT P "memoryview" 56),(eT P "bytearray" 57),(eT P "bytes" 58),(eT P "classmethod" 59),(eT P "complex" 60),(eT P "dict" 61),(eT P "enumerate" 62),(eT P "filter" 63),(eT P "float" 64),(eT P "frozenset" 65),(eT P "property" 66),(eT P "int" 67),(eT P "list" 68),(eT P "map" 69),(eT P "object" 70),(eT P "range" 71),(eT P "reversed" 72),(eT P "set" 73),(eT P "slice" 74),(eT P "staticmethod" 75),(eT P "str" 76),(eT P "super" 77),(eT P "tuple" 78),(eT P "type" 79),(eT P "zip" 80),(E P "__debug__" 81 (.bool M2)),(eT P "BaseException" 82),(eT P "BaseExceptionGroup" 83),(eT P "Exception" 84),(eT P "GeneratorExit" 85),(eT P "KeyboardInterrupt" 86),(eT P "SystemExit" 87),(eT P "ArithmeticError" 88),(eT P "AssertionError" 89),(eT P "AttributeError" 90),(eT P "BufferError" 91),(eT P "EOFError" 92),(eT P "ImportError" 93),(eT P "LookupError" 94),(eT P "MemoryError" 95),(eT P "NameError" 96),(eT P "OSError" 97),(eT P "ReferenceError" 98),(eT P "RuntimeError" 99),(eT P "StopAsyncIteration" 100),(eT P "StopIteration" 101),(eT P "SyntaxError" 102),(eT P "SystemError" 103),(eT P "TypeError" 104),(eT P "ValueError" 105),(eT P "Warning" 106),(eT P "FloatingPointError" 107),(eT P "OverflowError" 108),(eT P "ZeroDivisionError" 109),(eT P "BytesWarning" 110),(eT P "DeprecationWarning" 111),(eT P "EncodingWarning" 112),(eT P "FutureWarning" 113),(eT P "ImportWarning" 114),(eT P "PendingDeprecationWarning" 115),(eT P "ResourceWarning" 116),(eT P "RuntimeWarning" 117),(eT P "SyntaxWarning" 118),(eT P "UnicodeWarning" 119),(eT P "UserWarning" 120),(eT P "BlockingIOError" 121),(eT P "ChildProcessError" 122),(eT P "ConnectionError" 123),(eT P "FileExistsError" 124),(eT P "FileNotFoundError" 125),(eT P "InterruptedError" 126),(eT P "IsADirectoryError" 127),(eT P "NotADirectoryError" 128),(eT P "PermissionError" 129),(eT P "ProcessLookupError" 130),(eT P "TimeoutError" 131),(eT P "IndentationError" 132),(eT P "_IncompleteInputError" 133),(eT P "IndexError" 134),(eT P "KeyError" 135),(eT P "ModuleNotFoundError" 136),(eT P "NotImplementedError" 137),(eT P "PythonFinalizationError" 138),(eT P "RecursionError" 139),(eT P "UnboundLocalError" 140),(eT P "UnicodeError" 141),(eT P "BrokenPipeError" 142),(eT P "ConnectionAbortedError" 143),(eT P "ConnectionRefusedError" 144),(eT P "ConnectionResetError" 145),(eT P "TabError" 146),(eT P "UnicodeDecodeError" 147),(eT P "UnicodeEncodeError" 148),(eT P "UnicodeTranslateError" 149),(eT P "ExceptionGroup" 150),(E P "EnvironmentError" 151 (.type "OSError")),(E P "IOError" 152 (.type "OSError")),(eB P "open" 153),(E P "quit" 154 (.builtin "builtins.quit#opaque")),(E P "exit" 155 (.builtin "builtins.exit#opaque")),(E P "copyright" 156 (.builtin "builtins.copyright#opaque")),(E P "credits" 157 (.builtin "builtins.credits#opaque")),(E P "license" 158 (.builtin "builtins.license#opaque")),(E P "help" 159 (.builtin "builtins.help#opaque"))] 159),#[]⟩
def b1:NM:=⟨(.type "dict"),MY,(.dict #[(eR P "builtins" 162 4),(eR P "__main__" 163 5)] 2),#[]⟩
noncomputable def b2:NM:=⟨.none,MY,(.dict #[] 0),#[]⟩
def mL:List QV:=[(E P "__name__" 165 (.str "law_edgetally_k22_whole_paper_adds_up" 642)),(E P "__doc__" 166 .none),(E P "__package__" 167 .none),(E P "__loader__" 168 (.builtin "__main__.__loader__#opaque")),(E P "__spec__" 169 .none),(eR P "__annotations__" 170 6),(eR P "__builtins__" 171 4),(E P "__file__" 173 (.str "/claim/cut.py" 172)),(E P "__cached__" 174 .none),(eR P "_wall" 193 21),(eR P "EdgeError" 223 38),(eR P "BadSums" 248 59),(eR P "BadBounds" 273 79),(eR P "TooWide" 298 98),(eR P "Barred" 325 117),(eR P "BadNumber" 350 137),(E P "MOST" 354 (.int 40 353)),(E P "MOST_ROWS" 356 (.int 4 355)),(E P "MOST_COLUMNS" 358 (.int 6 357)),(eR P "FREE" 360 140),(eR P "free" 367 146),(eR P "check_sums" 373 151),(eR P "check_pair" 382 158),(eR P "settled_bounds" 388 163),(eR P "factorial" 399 170),(eR P "ways" 408 177),(eR P "fillings" 414 182),(eR P "need_of" 422 187),(eR P "room_inside" 428 192),(eR P "room_beside" 434 197),(eR P "room_of" 440 202),(eR P "narrowest" 446 207),(eR P "choices" 452 212),(eR P "check_fit" 463 219),(E P "WIDE" 467 (.int 500 466)),(eR P "check_wide" 476 226),(eR P "settled_for_net" 486 233),(eR P "column_fillings" 492 238),(eR P "rests_behind" 498 243),(eR P "nodes_by_level" 504 248),(eR P "node_counts" 518 255),(eR P "counted_nodes" 524 260),(eR P "paper_rows" 530 265),(eR P "Net" 641 351),(eR P "_law_bag" 649 360),(eR P "_law_pull" 660 367),(eR P "_law_same" 666 372),(eR P "_law_grid" 672 377),(eR P "_law_wide" 682 384),(eR P "_law_large" 692 391),(eR P "_law_turned" 698 396),(eR P "_law_rowsums" 704 401),(eR P "_law_columnsums" 710 406),(eR P "_law_free" 716 411),(eR P "_law_bounds" 730 418),(eR P "_law_copied" 736 423),(eR P "_law_fit" 742 428),(eR P "_law_less" 748 433),(eR P "_law_factorial" 757 440),(eR P "_law_ways" 766 447),(eR P "_law_net" 774 454),(eR P "_law_row_good" 780 459),(eR P "law" 797 466)]
noncomputable def b3:NM:=⟨(.type "dict"),MY,(.dict (mL P).toArray 63),#[]⟩
noncomputable def b4:NM:=⟨(.type "module"),(on 0),.plain,#[]⟩
noncomputable def b5:NM:=⟨(.type "module"),(on 3),.plain,#[]⟩
noncomputable def b6:NM:=⟨(.type "dict"),MY,(.dict #[] 0),#[]⟩
def b7:NM:=tO []
def b8:NM:=nO []
def b9:NM:=cC "<module>" "<module>" 176 1 0 0 0 0 7 M4 175 8 .none .none .none .none 179 1 180
def b10:NM:=⟨(.type "frame"),MY,.plain,#[(on (.ref 9)),(on (.ref 3)),(on (.ref 3)),MY,(on tx2),MY,(on (.ref 0))]⟩
def b12:NM:=nT [1,0,20,5,0,27,10,0,47,14,0,67,18,0,87,23,0,106,29,0,125,38,0,145,40,0,150,51,0,157,55,0,162,65,0,169,70,0,176,78,0,181,88,0,186,90,0,191,93,0,196,95,0,201,97,0,206,99,0,211,104,0,218,111,0,225,117,0,232,122,0,237,124,0,242,126,0,247,134,0,254,142,0,259,152,0,264,154,0,271,194,0,359,196,0,366,206,0,371,218,0,376,225,0,383,231,0,390,242,0,395,244,0,400,246,0,405,248,0,410,250,0,417,262,0,422,264,0,427,273,0,432,275,0,439,280,0,446,285,0,453,287,0,458,302,0,465]
def b13:NM:=cC "<module>" "<module>" 182 1 0 0 0 0 11 M4 181 12 .none .none .none .none 185 1 186
def b14:NM:=⟨(.type "frame"),MY,.plain,#[(on (.ref 13)),(on (.ref 3)),(on (.ref 3)),MY,(on tx2),MY,(on (.ref 0))]⟩
def b17:NM:=tS 190 ["k"]
def b19:NM:=fB "_wall" "_wall" (top 0)
def b20:NM:=cG "_wall" 187 1 1 0 15 181 191
def b21:NM:=fM "__main__" 164 "_wall" 0 20
def b22:NM:=tO [(.type "ValueError")]
noncomputable def b23:NM:=⟨(.type "builtin_function_or_method"),MY,(.fields #[(.builtin "type.__prepare__"),(.type "type")]),#[]⟩
def b24:NM:=⟨(.type "dict"),MY,(.dict #[(E P "__module__" 203 tx0),(E P "__qualname__" 205 (.str "EdgeError" 204)),(E P "__firstlineno__" 207 (.int 5 206)),(eR P "__init__" 216 35),(eR P "__static_attributes__" 218 36)] 5),#[]⟩
def b26:NM:=nT [7,4,34]
def b27:NM:=cC "EdgeError" "EdgeError" 198 5 0 0 0 0 25 M4 181 26 .none .none .none .none 201 5 202
def b28:NM:=⟨(.type "frame"),MY,.plain,#[(on (.ref 27)),(on (.ref 3)),(on (.ref 24)),MY,(on tx0),MY,(on (.ref 0))]⟩
def b31:NM:=tS 211 ["self","word","why"]
def b33:NM:=fB "__init__" "EdgeError.__init__" (aA (top 2) 0)
def b34:NM:=cC "__init__" "EdgeError.__init__" 208 7 3 0 0 3 29 M2 181 30 .none (.ref 31) (.ref 32) (.ref 33) 214 7 215
def b35:NM:=fO (FN "__init__" "EdgeError.__init__" (aA (top 2) 0) .none .none .none tx0 MY (.ref 34) .none)
def b36:NM:=tS 217 ["word"]
def b37:NM:=⟨(.type "dict"),MY,(.dict #[(E P "__module__" 203 tx0),(E P "__firstlineno__" 207 (.int 5 206)),(eR P "__init__" 216 35),(eR P "__static_attributes__" 218 36),(eR P "__weakref__" 220 39),(E P "__doc__" 221 .none)] 3),#[]⟩
noncomputable def b38:NM:=⟨(.type "type"),MY,(.cls ⟨"EdgeError",[(.type "ValueError")],[(.ref 38),(.type "ValueError"),(.type "Exception"),(.type "BaseException"),(.type "object")],37,"EdgeError",M2,[],[(.ref 59),(.ref 79),(.ref 98),(.ref 117),(.ref 137)],M4,MY,M4⟩),#[(on (.ref 22)),MY,(on (.str "EdgeError" 196)),(on (.str "EdgeError" 204)),(on (.builtin "ValueError.__new__")),(on (.bool M2))]⟩
noncomputable def b39:NM:=⟨(.type "getset_descriptor"),MY,(.fields #[(.str "__weakref__" 219),(.ref 38),(.builtin "ExceptionGroup.__weakref__"),.none]),#[]⟩
noncomputable def b40:NM:=⟨(.type "super"),MY,(.fields #[(.ref 38),(.ref 38),(.ref 38)]),#[]⟩
def b41:NM:=iSs 38
def b42:NM:=tO [(.ref 38)]
def b44:NM:=⟨(.type "dict"),MY,(.dict #[(E P "__module__" 231 tx0),(E P "__qualname__" 233 (.str "BadSums" 232)),(E P "__firstlineno__" 235 (.int 10 234)),(eR P "__init__" 244 56),(eR P "__static_attributes__" 245 57)] 5),#[]⟩
def b46:NM:=nT [12,4,55]
def b47:NM:=cC "BadSums" "BadSums" 226 10 0 0 0 0 45 M4 181 46 .none .none .none .none 229 10 230
def b48:NM:=⟨(.type "frame"),MY,.plain,#[(on (.ref 47)),(on (.ref 3)),(on (.ref 44)),MY,(on tx0),MY,(on (.ref 0))]⟩
def b49:NM:=tS 236 ["these sums are no table's"]
def b52:NM:=tS 240 ["self","why"]
def b54:NM:=fB "__init__" "BadSums.__init__" (aA (top 3) 0)
def b55:NM:=cC "__init__" "BadSums.__init__" 237 12 2 0 0 3 50 M2 181 51 .none (.ref 52) (.ref 53) (.ref 54) 242 12 243
def b56:NM:=fO (FN "__init__" "BadSums.__init__" (aA (top 3) 0) (.ref 49) .none .none tx0 MY (.ref 55) .none)
def b58:NM:=⟨(.type "dict"),MY,(.dict #[(E P "__module__" 231 tx0),(E P "__firstlineno__" 235 (.int 10 234)),(eR P "__init__" 244 56),(eR P "__static_attributes__" 245 57),(E P "__doc__" 246 .none)] 2),#[]⟩
def b59:NM:=xOo "BadSums" 59 58 42 224 232
noncomputable def b60:NM:=⟨(.type "super"),MY,(.fields #[(.ref 59),(.ref 59),(.ref 59)]),#[]⟩
def b61:NM:=iSs 59
def b64:NM:=⟨(.type "dict"),MY,(.dict #[(E P "__module__" 256 tx0),(E P "__qualname__" 258 (.str "BadBounds" 257)),(E P "__firstlineno__" 260 (.int 14 259)),(eR P "__init__" 269 76),(eR P "__static_attributes__" 270 77)] 5),#[]⟩
def b66:NM:=nT [16,4,75]
def b67:NM:=cC "BadBounds" "BadBounds" 251 14 0 0 0 0 65 M4 181 66 .none .none .none .none 254 14 255
def b68:NM:=⟨(.type "frame"),MY,.plain,#[(on (.ref 67)),(on (.ref 3)),(on (.ref 64)),MY,(on tx0),MY,(on (.ref 0))]⟩
def b69:NM:=tS 261 ["these bounds are no table's"]
def b72:NM:=tS 265 ["self","why"]
def b74:NM:=fB "__init__" "BadBounds.__init__" (aA (top 4) 0)
def b75:NM:=cC "__init__" "BadBounds.__init__" 262 16 2 0 0 3 70 M2 181 71 .none (.ref 72) (.ref 73) (.ref 74) 267 16 268
def b76:NM:=fO (FN "__init__" "BadBounds.__init__" (aA (top 4) 0) (.ref 69) .none .none tx0 MY (.ref 75) .none)
def b78:NM:=⟨(.type "dict"),MY,(.dict #[(E P "__module__" 256 tx0),(E P "__firstlineno__" 260 (.int 14 259)),(eR P "__init__" 269 76),(eR P "__static_attributes__" 270 77),(E P "__doc__" 271 .none)] 2),#[]⟩
def b79:NM:=xOo "BadBounds" 79 78 62 249 257
noncomputable def b80:NM:=⟨(.type "super"),MY,(.fields #[(.ref 79),(.ref 79),(.ref 79)]),#[]⟩
def b81:NM:=iSs 79
def b84:NM:=⟨(.type "dict"),MY,(.dict #[(E P "__module__" 281 tx0),(E P "__qualname__" 283 (.str "TooWide" 282)),(E P "__firstlineno__" 285 (.int 18 284)),(eR P "__init__" 293 95),(eR P "__static_attributes__" 295 96)] 5),#[]⟩
def b86:NM:=nT [20,4,94]
def b87:NM:=cC "TooWide" "TooWide" 276 18 0 0 0 0 85 M4 181 86 .none .none .none .none 279 18 280
def b88:NM:=⟨(.type "frame"),MY,.plain,#[(on (.ref 87)),(on (.ref 3)),(on (.ref 84)),MY,(on tx0),MY,(on (.ref 0))]⟩
def b91:NM:=tS 289 ["self","wide"]
def b93:NM:=fB "__init__" "TooWide.__init__" (aA (top 5) 0)
def b94:NM:=cC "__init__" "TooWide.__init__" 286 20 2 0 0 3 89 M2 181 90 .none (.ref 91) (.ref 92) (.ref 93) 291 20 292
def b95:NM:=fO (FN "__init__" "TooWide.__init__" (aA (top 5) 0) .none .none .none tx0 MY (.ref 94) .none)
def b96:NM:=tS 294 ["wide"]
def b97:NM:=⟨(.type "dict"),MY,(.dict #[(E P "__module__" 281 tx0),(E P "__firstlineno__" 285 (.int 18 284)),(eR P "__init__" 293 95),(eR P "__static_attributes__" 295 96),(E P "__doc__" 296 .none)] 2),#[]⟩
def b98:NM:=xOo "TooWide" 98 97 82 274 282
noncomputable def b99:NM:=⟨(.type "super"),MY,(.fields #[(.ref 98),(.ref 98),(.ref 98)]),#[]⟩
def b100:NM:=iSs 98
def b103:NM:=⟨(.type "dict"),MY,(.dict #[(E P "__module__" 306 tx0),(E P "__qualname__" 308 (.str "Barred" 307)),(E P "__firstlineno__" 310 (.int 23 309)),(eR P "__init__" 319 114),(eR P "__static_attributes__" 322 115)] 5),#[]⟩
def b105:NM:=nT [25,4,113]
def b106:NM:=cC "Barred" "Barred" 301 23 0 0 0 0 104 M4 181 105 .none .none .none .none 304 23 305
def b107:NM:=⟨(.type "frame"),MY,.plain,#[(on (.ref 106)),(on (.ref 3)),(on (.ref 103)),MY,(on tx0),MY,(on (.ref 0))]⟩
def b110:NM:=tS 314 ["self","over","into"]
def b112:NM:=fB "__init__" "Barred.__init__" (aA (top 6) 0)
def b113:NM:=cC "__init__" "Barred.__init__" 311 25 3 0 0 3 108 M2 181 109 .none (.ref 110) (.ref 111) (.ref 112) 317 25 318
def b114:NM:=fO (FN "__init__" "Barred.__init__" (aA (top 6) 0) .none .none .none tx0 MY (.ref 113) .none)
def b115:NM:=tS 320 ["into","over"]
def b116:NM:=⟨(.type "dict"),MY,(.dict #[(E P "__module__" 306 tx0),(E P "__firstlineno__" 310 (.int 23 309)),(eR P "__init__" 319 114),(eR P "__static_attributes__" 322 115),(E P "__doc__" 323 .none)] 2),#[]⟩
def b117:NM:=xOo "Barred" 117 116 101 299 307
noncomputable def b118:NM:=⟨(.type "super"),MY,(.fields #[(.ref 117),(.ref 117),(.ref 117)]),#[]⟩
def b119:NM:=iSs 117
def b122:NM:=⟨(.type "dict"),MY,(.dict #[(E P "__module__" 333 tx0),(E P "__qualname__" 335 (.str "BadNumber" 334)),(E P "__firstlineno__" 337 (.int 29 336)),(eR P "__init__" 346 134),(eR P "__static_attributes__" 347 135)] 5),#[]⟩
def b124:NM:=nT [31,4,133]
def b125:NM:=cC "BadNumber" "BadNumber" 328 29 0 0 0 0 123 M4 181 124 .none .none .none .none 331 29 332
def b126:NM:=⟨(.type "frame"),MY,.plain,#[(on (.ref 125)),(on (.ref 3)),(on (.ref 122)),MY,(on tx0),MY,(on (.ref 0))]⟩
def b127:NM:=tS 338 ["this number is out of its bounds"]
def b130:NM:=tS 342 ["self","why"]
def b132:NM:=fB "__init__" "BadNumber.__init__" (aA (top 7) 0)
def b133:NM:=cC "__init__" "BadNumber.__init__" 339 31 2 0 0 3 128 M2 181 129 .none (.ref 130) (.ref 131) (.ref 132) 344 31 345
def b134:NM:=fO (FN "__init__" "BadNumber.__init__" (aA (top 7) 0) (.ref 127) .none .none tx0 MY (.ref 133) .none)
def b136:NM:=⟨(.type "dict"),MY,(.dict #[(E P "__module__" 333 tx0),(E P "__firstlineno__" 337 (.int 29 336)),(eR P "__init__" 346 134),(eR P "__static_attributes__" 347 135),(E P "__doc__" 348 .none)] 2),#[]⟩
def b137:NM:=xOo "BadNumber" 137 136 120 326 334
noncomputable def b138:NM:=⟨(.type "super"),MY,(.fields #[(.ref 137),(.ref 137),(.ref 137)]),#[]⟩
def b139:NM:=iSs 137
def LF:NM:=tO [(.int 0 359),(.int 40 353)]
def LE:NM:=⟨(.type "dict"),MY,(.dict #[(eR P "pair" 361 140)] 1),#[]⟩
def b144:NM:=fB "free" "free" (top 13)
def LD:NM:=cF "free" 362 38 2 1 142 181 365
def DV:NM:=fO (FN "free" "free" (top 13) .none (.ref 141) .none (.str "edgetally.bounds" 351) MY (.ref 145) .none)
def b149:NM:=fB "check_sums" "check_sums" (top 14)
def LC:NM:=cF "check_sums" 368 40 2 0 147 181 371
def DU:NM:=fM "edgetally.bounds" 351 "check_sums" 14 150
def b154:NM:=tS 377 ["pair","low","high"]
def b156:NM:=fB "check_pair" "check_pair" (top 15)
def LB:NM:=cG "check_pair" 374 51 1 0 152 181 380
def DT:NM:=fM "edgetally.bounds" 351 "check_pair" 15 157
def b161:NM:=fB "settled_bounds" "settled_bounds" (top 16)
def LA:NM:=cF "settled_bounds" 383 55 3 0 159 181 386
def DS:NM:=fM "edgetally.bounds" 351 "settled_bounds" 16 162
def b166:NM:=tS 394 ["number","product","factor"]
def b168:NM:=fB "factorial" "factorial" (top 18)
def Lz:NM:=cG "factorial" 391 65 1 0 164 181 397
def DR:NM:=fM "edgetally.counts" 389 "factorial" 18 169
def b173:NM:=tS 403 ["parts","part","told"]
def b175:NM:=fB "ways" "ways" (top 19)
def Ly:NM:=cG "ways" 400 70 1 0 171 181 406
def DQ:NM:=fM "edgetally.counts" 389 "ways" 19 176
def b180:NM:=fB "fillings" "fillings" (top 20)
def Lx:NM:=cF "fillings" 409 78 3 0 178 181 412
def DP:NM:=fM "edgetally.counts" 389 "fillings" 20 181
def b185:NM:=fB "need_of" "need_of" (top 22)
def Lw:NM:=cF "need_of" 417 88 2 0 183 181 420
def DO:NM:=fM "edgetally.fits" 415 "need_of" 22 186
def b190:NM:=fB "room_inside" "room_inside" (top 23)
def Lu:NM:=cF "room_inside" 423 90 4 0 188 181 426
def DN:NM:=fM "edgetally.fits" 415 "room_inside" 23 191
def b195:NM:=fB "room_beside" "room_beside" (top 24)
def Ls:NM:=cF "room_beside" 429 93 3 0 193 181 432
def DM:NM:=fM "edgetally.fits" 415 "room_beside" 24 196
def b200:NM:=fB "room_of" "room_of" (top 25)
def Lr:NM:=cF "room_of" 435 95 4 0 198 181 438
def DL:NM:=fM "edgetally.fits" 415 "room_of" 25 201
def b205:NM:=fB "narrowest" "narrowest" (top 26)
def Lq:NM:=cF "narrowest" 441 97 3 0 203 181 444
def DK:NM:=fM "edgetally.fits" 415 "narrowest" 26 206
def b210:NM:=fB "choices" "choices" (top 27)
def Lp:NM:=cF "choices" 447 99 1 0 208 181 450
def DJ:NM:=fM "edgetally.fits" 415 "choices" 27 211
def b215:NM:=tS 456 ["rowsums","columnsums","bounds","over","into"]
def b217:NM:=fB "check_fit" "check_fit" (top 28)
def Lo:NM:=cG "check_fit" 453 104 3 0 213 181 461
def DI:NM:=fM "edgetally.fits" 415 "check_fit" 28 218
def b222:NM:=tS 471 ["rowsums","wide","many"]
def b224:NM:=fB "check_wide" "check_wide" (top 31)
def Ln:NM:=cG "check_wide" 468 111 1 0 220 181 474
def DH:NM:=fM "edgetally.net" 464 "check_wide" 31 225
def b229:NM:=tS 480 ["rowsums","columnsums","bounds","settled"]
def b231:NM:=fB "settled_for_net" "settled_for_net" (top 32)
def Lm:NM:=cG "settled_for_net" 477 117 3 0 227 181 484
def DG:NM:=fM "edgetally.net" 464 "settled_for_net" 32 232
def b236:NM:=fB "column_fillings" "column_fillings" (top 33)
def Ll:NM:=cF "column_fillings" 487 122 4 0 234 181 490
def DF:NM:=fM "edgetally.net" 464 "column_fillings" 33 237
def b241:NM:=fB "rests_behind" "rests_behind" (top 34)
def Lk:NM:=cF "rests_behind" 493 124 2 0 239 181 496
def DE:NM:=fM "edgetally.net" 464 "rests_behind" 34 242
def b246:NM:=fB "nodes_by_level" "nodes_by_level" (top 35)
def Lj:NM:=cF "nodes_by_level" 499 126 3 0 244 181 502
def DD:NM:=fM "edgetally.net" 464 "nodes_by_level" 35 247
def b251:NM:=tS 508 ["rests","filled","behind","tables","dealings","counts","tables_behind","dealings_behind"]
def b253:NM:=fB "node_counts" "node_counts" (top 36)
def Li:NM:=cG "node_counts" 505 134 3 0 249 181 516
def DC:NM:=fM "edgetally.net" 464 "node_counts" 36 254
def b258:NM:=fB "counted_nodes" "counted_nodes" (top 37)
def Lh:NM:=cF "counted_nodes" 519 142 3 0 256 181 522
def DB:NM:=fM "edgetally.net" 464 "counted_nodes" 37 259
def b263:NM:=fB "paper_rows" "paper_rows" (top 38)
def Lg:NM:=cF "paper_rows" 525 152 1 0 261 181 528
def DA:NM:=fM "edgetally.net" 464 "paper_rows" 38 264
def b268:NM:=⟨(.type "dict"),MY,(.dict #[(E P "__module__" 538 tx1),(E P "__qualname__" 540 (.str "Net" 539)),(E P "__firstlineno__" 542 (.int 154 541)),(eR P "__init__" 554 280),(eR P "__eq__" 562 287),(eR P "__len__" 569 294),(eR P "rowsums" 576 301),(eR P "columnsums" 583 308),(eR P "bounds" 589 313),(eR P "counts_at" 598 320),(eR P "tables" 605 327),(eR P "dealings" 612 334),(eR P "steps" 621 341),(eR P "paper" 628 348),(eR P "__static_attributes__" 633 349)] 15),#[]⟩
def b270:NM:=nT [156,4,279,164,4,286,167,4,293,170,4,300,173,4,307,176,4,312,179,4,319,182,4,326,185,4,333,188,4,340,191,4,347]
def b271:NM:=cC "Net" "Net" 533 154 0 0 0 0 269 M4 181 270 .none .none .none .none 536 154 537
def b272:NM:=⟨(.type "frame"),MY,.plain,#[(on (.ref 271)),(on (.ref 3)),(on (.ref 268)),MY,(on tx1),MY,(on (.ref 0))]⟩
def Lf:NM:=⟨(.type "dict"),MY,(.dict #[(E P "bounds" 543 .none)] 1),#[]⟩
def b276:NM:=tS 547 ["self","rowsums","columnsums","bounds","settled"]
def b278:NM:=fB "__init__" "Net.__init__" (aA (top 39) 0)
def Le:NM:=cC "__init__" "Net.__init__" 544 156 3 0 1 3 274 M2 181 275 .none (.ref 276) (.ref 277) (.ref 278) 552 156 553
def CZ:NM:=fO (FN "__init__" "Net.__init__" (aA (top 39) 0) .none (.ref 273) .none tx1 MY (.ref 279) .none)
def b283:NM:=tS 558 ["self","other"]
def b285:NM:=fB "__eq__" "Net.__eq__" (aA (top 39) 1)
def b286:NM:=cC "__eq__" "Net.__eq__" 555 164 2 0 0 3 281 M2 181 282 .none (.ref 283) (.ref 284) (.ref 285) 560 164 561
def b287:NM:=fO (FN "__eq__" "Net.__eq__" (aA (top 39) 1) .none .none .none tx1 MY (.ref 286) .none)
def b290:NM:=tS 566 ["self"]
def b292:NM:=fB "__len__" "Net.__len__" (aA (top 39) 2)
def b293:NM:=cC "__len__" "Net.__len__" 563 167 1 0 0 3 288 M2 181 289 .none (.ref 290) (.ref 291) (.ref 292) 567 167 568
def b294:NM:=fO (FN "__len__" "Net.__len__" (aA (top 39) 2) .none .none .none tx1 MY (.ref 293) .none)
def b297:NM:=tS 573 ["self"]
def b299:NM:=fB "rowsums" "Net.rowsums" (aA (top 39) 3)
def b300:NM:=cC "rowsums" "Net.rowsums" 570 170 1 0 0 3 295 M2 181 296 .none (.ref 297) (.ref 298) (.ref 299) 574 170 575
def b301:NM:=fO (FN "rowsums" "Net.rowsums" (aA (top 39) 3) .none .none .none tx1 MY (.ref 300) .none)
def b304:NM:=tS 580 ["self"]
def b306:NM:=fB "columnsums" "Net.columnsums" (aA (top 39) 4)
def b307:NM:=cC "columnsums" "Net.columnsums" 577 173 1 0 0 3 302 M2 181 303 .none (.ref 304) (.ref 305) (.ref 306) 581 173 582
def b308:NM:=fO (FN "columnsums" "Net.columnsums" (aA (top 39) 4) .none .none .none tx1 MY (.ref 307) .none)
def b311:NM:=fB "bounds" "Net.bounds" (aA (top 39) 5)
def b312:NM:=cC "bounds" "Net.bounds" 584 176 1 0 0 3 309 M2 181 310 .none .none .none (.ref 311) 587 176 588
def b313:NM:=fO (FN "bounds" "Net.bounds" (aA (top 39) 5) .none .none .none tx1 MY (.ref 312) .none)
def b316:NM:=tS 593 ["self","level","rests"]
def b318:NM:=fB "counts_at" "Net.counts_at" (aA (top 39) 6)
def Ld:NM:=cC "counts_at" "Net.counts_at" 590 179 3 0 0 3 314 M2 181 315 .none (.ref 316) (.ref 317) (.ref 318) 596 179 597
def CY:NM:=fO (FN "counts_at" "Net.counts_at" (aA (top 39) 6) .none .none .none tx1 MY (.ref 319) .none)
def b323:NM:=tS 602 ["self"]
def b325:NM:=fB "tables" "Net.tables" (aA (top 39) 7)
def Lc:NM:=cC "tables" "Net.tables" 599 182 1 0 0 3 321 M2 181 322 .none (.ref 323) (.ref 324) (.ref 325) 603 182 604
def CW:NM:=fO (FN "tables" "Net.tables" (aA (top 39) 7) .none .none .none tx1 MY (.ref 326) .none)
def b330:NM:=tS 609 ["self"]
def b332:NM:=fB "dealings" "Net.dealings" (aA (top 39) 8)
def Lb:NM:=cC "dealings" "Net.dealings" 606 185 1 0 0 3 328 M2 181 329 .none (.ref 330) (.ref 331) (.ref 332) 610 185 611
def CV:NM:=fO (FN "dealings" "Net.dealings" (aA (top 39) 8) .none .none .none tx1 MY (.ref 333) .none)
def b337:NM:=tS 616 ["self","level","rests"]
def b339:NM:=fB "steps" "Net.steps" (aA (top 39) 9)
def b340:NM:=cC "steps" "Net.steps" 613 188 3 0 0 3 335 M2 181 336 .none (.ref 337) (.ref 338) (.ref 339) 619 188 620
def b341:NM:=fO (FN "steps" "Net.steps" (aA (top 39) 9) .none .none .none tx1 MY (.ref 340) .none)
def b344:NM:=tS 625 ["self"]
def b346:NM:=fB "paper" "Net.paper" (aA (top 39) 10)
def La:NM:=cC "paper" "Net.paper" 622 191 1 0 0 3 342 M2 181 343 .none (.ref 344) (.ref 345) (.ref 346) 626 191 627
def CU:NM:=fO (FN "paper" "Net.paper" (aA (top 39) 10) .none .none .none tx1 MY (.ref 347) .none)
def b349:NM:=tS 629 ["column_list","counted","pairs","row_list"]
def K9:NM:=⟨(.type "dict"),MY,(.dict #[(E P "__module__" 538 tx1),(E P "__firstlineno__" 542 (.int 154 541)),(eR P "__init__" 554 280),(eR P "__eq__" 562 287),(eR P "__len__" 569 294),(eR P "rowsums" 576 301),(eR P "columnsums" 583 308),(eR P "bounds" 589 313),(eR P "counts_at" 598 320),(eR P "tables" 605 327),(eR P "dealings" 612 334),(eR P "steps" 621 341),(eR P "paper" 628 348),(eR P "__static_attributes__" 633 349),(eR P "__dict__" 635 352),(eR P "__weakref__" 637 353),(E P "__doc__" 638 .none),(E P "__hash__" 639 .none)] 5),#[]⟩
noncomputable def K8:NM:=⟨(.type "type"),MY,(.cls ⟨"Net",[(.type "object")],[(.ref 351),(.type "object")],350,"Net",M2,[],[],M4,MY,M4⟩),#[MY,MY,(on (.str "Net" 531)),(on (.str "Net" 539)),(on (.builtin "object.__new__")),(on (.bool M2))]⟩
noncomputable def b352:NM:=⟨(.type "getset_descriptor"),MY,(.fields #[(.str "__dict__" 634),(.ref 351),(.builtin "function.__dict__"),(.builtin "function.__dict__#set")]),#[]⟩
noncomputable def b353:NM:=⟨(.type "getset_descriptor"),MY,(.fields #[(.str "__weakref__" 636),(.ref 351),(.builtin "ExceptionGroup.__weakref__"),.none]),#[]⟩
noncomputable def b354:NM:=⟨(.type "super"),MY,(.fields #[(.ref 351),(.ref 351),(.ref 351)]),#[]⟩
def b355:NM:=iSs 351
def b358:NM:=fB "_law_bag" "_law_bag" (top 41)
def K7:NM:=cF "_law_bag" 644 194 1 0 356 181 647
def CT:NM:=fL "_law_bag" "_law_bag" 41 359
def b363:NM:=tS 653 ["_law_bag_here","_law_lot","_law_cells","_law_at","_law_cell"]
def b365:NM:=fB "_law_pull" "_law_pull" (top 42)
def K6:NM:=cG "_law_pull" 650 196 2 0 361 181 658
def CS:NM:=fL "_law_pull" "_law_pull" 42 366
def b370:NM:=fB "_law_same" "_law_same" (top 43)
def K5:NM:=cF "_law_same" 661 206 2 0 368 181 664
def CQ:NM:=fL "_law_same" "_law_same" 43 371
def b375:NM:=fB "_law_grid" "_law_grid" (top 44)
def K4:NM:=cF "_law_grid" 667 218 4 0 373 181 670
def CP:NM:=fL "_law_grid" "_law_grid" 44 376
def b380:NM:=tS 676 ["_law_bag_here","_law_grid_here","_law_lot","_law_first"]
def b382:NM:=fB "_law_wide" "_law_wide" (top 45)
def K3:NM:=cG "_law_wide" 673 225 1 0 378 181 680
def CO:NM:=fL "_law_wide" "_law_wide" 45 383
def b387:NM:=tS 686 ["_law_bag_here","_law_way","_law_block","_law_columns"]
def b389:NM:=fB "_law_large" "_law_large" (top 46)
def K2:NM:=cG "_law_large" 683 231 1 0 385 181 690
def CN:NM:=fL "_law_large" "_law_large" 46 390
def b394:NM:=fB "_law_turned" "_law_turned" (top 47)
def K1:NM:=cF "_law_turned" 693 242 1 0 392 181 696
def CM:NM:=fL "_law_turned" "_law_turned" 47 395
def b399:NM:=fB "_law_rowsums" "_law_rowsums" (top 48)
def K0:NM:=cF "_law_rowsums" 699 244 1 0 397 181 702
def CL:NM:=fL "_law_rowsums" "_law_rowsums" 48 400
def b404:NM:=fB "_law_columnsums" "_law_columnsums" (top 49)
def KZ:NM:=cF "_law_columnsums" 705 246 1 0 402 181 708
def CK:NM:=fL "_law_columnsums" "_law_columnsums" 49 405
def b409:NM:=fB "_law_free" "_law_free" (top 50)
def KY:NM:=cF "_law_free" 711 248 2 0 407 181 714
def CJ:NM:=fL "_law_free" "_law_free" 50 410
def b414:NM:=tS 720 ["_law_bag_here","_law_grid_here","_law_told","_law_at","_law_row","_law_to","_law_count","_law_way"]
def b416:NM:=fB "_law_bounds" "_law_bounds" (top 51)
def KW:NM:=cG "_law_bounds" 717 250 2 0 412 181 728
def CI:NM:=fL "_law_bounds" "_law_bounds" 51 417
def b421:NM:=fB "_law_copied" "_law_copied" (top 52)
def KV:NM:=cF "_law_copied" 731 262 1 0 419 181 734
def CH:NM:=fL "_law_copied" "_law_copied" 52 422
def b426:NM:=fB "_law_fit" "_law_fit" (top 53)
def KU:NM:=cF "_law_fit" 737 264 3 0 424 181 740
def CG:NM:=fL "_law_fit" "_law_fit" 53 427
def b431:NM:=fB "_law_less" "_law_less" (top 54)
def KS:NM:=cF "_law_less" 743 273 2 0 429 181 746
def CF:NM:=fL "_law_less" "_law_less" 54 432
def b436:NM:=tS 752 ["_law_lot","_law_found","_law_k"]
def b438:NM:=fB "_law_factorial" "_law_factorial" (top 55)
def KR:NM:=cG "_law_factorial" 749 275 1 0 434 181 755
def CD:NM:=fL "_law_factorial" "_law_factorial" 55 439
def b443:NM:=tS 761 ["_law_parts","_law_under","_law_part"]
def b445:NM:=fB "_law_ways" "_law_ways" (top 56)
def KQ:NM:=cG "_law_ways" 758 280 1 0 441 181 764
def CC:NM:=fL "_law_ways" "_law_ways" 56 446
def b450:NM:=tS 770 ["_law_grid_here","_law_limits"]
def b452:NM:=fB "_law_net" "_law_net" (top 57)
def KP:NM:=cG "_law_net" 767 285 2 0 448 181 772
def CB:NM:=fL "_law_net" "_law_net" 57 453
def b457:NM:=fB "_law_row_good" "_law_row_good" (top 58)
def KO:NM:=cF "_law_row_good" 775 287 4 0 455 181 778
def CA:NM:=fL "_law_row_good" "_law_row_good" 58 458
def b462:NM:=tS 784 ["_law_script","_law_bag_here","_law_grid_here","_law_limits","_law_rowsums_here","_law_columnsums_here","_law_net_here","_law_paper","_law_known","_law_row","_law_first"]
def b464:NM:=fB "law" "law" (top 59)
def KN:NM:=cG "law" 781 302 1 0 460 181 795
def BZ:NM:=fL "law" "law" 59 465
def h0_3:NM:=⟨(.type "dict"),MY,(.dict (((mL P).take 9).set 0 (E P "__name__" 165 tx2)).toArray 9),#[]⟩
def MQ:NM:=nO []
def h1_3:NM:=⟨(.type "dict"),MY,(.dict (((mL P).take 9).set 0 (E P "__name__" 165 tx2)).toArray 9),#[]⟩
def MJ:NM:=nT [1,0,20,5,0,27,10,0,47,14,0,67,18,0,87]
def k1_3:NM:=⟨(.type "dict"),MY,(.dict (((mL P).take 14).set 0 (E P "__name__" 165 tx0)).toArray 14),#[]⟩
noncomputable def MI:NM:=⟨(.type "type"),MY,(.cls ⟨"EdgeError",[(.type "ValueError")],[(.ref 38),(.type "ValueError"),(.type "Exception"),(.type "BaseException"),(.type "object")],37,"EdgeError",M2,[],[(.ref 59),(.ref 79),(.ref 98)],M4,MY,M4⟩),#[(on (.ref 22)),MY,(on (.str "EdgeError" 196)),(on (.str "EdgeError" 204)),(on (.builtin "ValueError.__new__")),(on (.bool M2))]⟩
def MH:NM:=nT [1,0,20,5,0,27,10,0,47,14,0,67,18,0,87,23,0,106,29,0,125,38,0,145,40,0,150,51,0,157,55,0,162,65,0,169,70,0,176,78,0,181,88,0,186,90,0,191,93,0,196,95,0,201,97,0,206,99,0,211,104,0,218]
def k2_3:NM:=⟨(.type "dict"),MY,(.dict (((mL P).take 35).set 0 (E P "__name__" 165 tx1)).toArray 35),#[]⟩
def MG:NM:=nT [1,0,20,5,0,27,10,0,47,14,0,67,18,0,87,23,0,106,29,0,125,38,0,145,40,0,150,51,0,157,55,0,162,65,0,169,70,0,176,78,0,181,88,0,186,90,0,191,93,0,196,95,0,201,97,0,206,99,0,211,104,0,218,111,0,225,117,0,232,122,0,237,124,0,242,126,0,247,134,0,254,142,0,259,152,0,264,154,0,271,194,0,359,196,0,366,206,0,371,218,0,376,225,0,383,231,0,390,242,0,395]
noncomputable def k3_3:NM:=⟨(.type "dict"),MY,(.dict ((mL P).take 51).toArray 51),#[]⟩
def kL:List NM:=[b0 P,b1 P,b2,b3 P,b4,b5,b6,b7,b8,b9,b10,b7,b12,b13,b14,b7,b8,b17,b7,b19,b20,b21,b22,b23,b24 P,b7,b26,b27,b28,b7,b8,b31,b7,b33,b34,b35,b36,b37 P,b38,b39,b40,b41,b42,b23,b44 P,b7,b46,b47,b48,b49,b7,b8,b52,b7,b54,b55,b56,b7,b58 P,b59,b60,b61,b42,b23,b64 P,b7,b66,b67,b68,b69,b7,b8,b72,b7,b74,b75,b76,b7,b78 P,b79,b80,b81,b42,b23,b84 P,b7,b86,b87,b88,b7,b8,b91,b7,b93,b94,b95,b96,b97 P,b98,b99,b100,b42,b23,b103 P,b7,b105,b106,b107,b7,b8,b110,b7,b112,b113,b114,b115,b116 P,b117,b118,b119,b42,b23,b122 P,b7,b124,b125,b126,b127,b7,b8,b130,b7,b132,b133,b134,b7,b136 P,b137,b138,b139,LF,LE P,b7,b8,b144,LD,DV,b7,b8,b149,LC,DU,b7,b8,b154,b7,b156,LB,DT,b7,b8,b161,LA,DS,b7,b8,b166,b7,b168,Lz,DR,b7,b8,b173,b7,b175,Ly,DQ,b7,b8,b180,Lx,DP,b7,b8,b185,Lw,DO,b7,b8,b190,Lu,DN,b7,b8,b195,Ls,DM,b7,b8,b200,Lr,DL,b7,b8,b205,Lq,DK,b7,b8,b210,Lp,DJ,b7,b8,b215,b7,b217,Lo,DI,b7,b8,b222,b7,b224,Ln,DH,b7,b8,b229,b7,b231,Lm,DG,b7,b8,b236,Ll,DF,b7,b8,b241,Lk,DE,b7,b8,b246,Lj,DD,b7,b8,b251,b7,b253,Li,DC,b7,b8,b258,Lh,DB,b7,b8,b263,Lg,DA,b7,b23,b268 P,b7,b270,b271,b272,Lf P,b7,b8,b276,b7,b278,Le,CZ,b7,b8,b283,b7,b285,b286,b287,b7,b8,b290,b7,b292,b293,b294,b7,b8,b297,b7,b299,b300,b301,b7,b8,b304,b7,b306,b307,b308,b7,b8,b311,b312,b313,b7,b8,b316,b7,b318,Ld,CY,b7,b8,b323,b7,b325,Lc,CW,b7,b8,b330,b7,b332,Lb,CV,b7,b8,b337,b7,b339,b340,b341,b7,b8,b344,b7,b346,La,CU,b349,K9 P,K8,b352,b353,b354,b355,b7,b8,b358,K7,CT,b7,b8,b363,b7,b365,K6,CS,b7,b8,b370,K5,CQ,b7,b8,b375,K4,CP,b7,b8,b380,b7,b382,K3,CO,b7,b8,b387,b7,b389,K2,CN,b7,b8,b394,K1,CM,b7,b8,b399,K0,CL,b7,b8,b404,KZ,CK,b7,b8,b409,KY,CJ,b7,b8,b414,b7,b416,KW,CI,b7,b8,b421,KV,CH,b7,b8,b426,KU,CG,b7,b8,b431,KS,CF,b7,b8,b436,b7,b438,KR,CD,b7,b8,b443,b7,b445,KQ,CC,b7,b8,b450,b7,b452,KP,CB,b7,b8,b457,KO,CA,b7,b8,b462,b7,b464,KN,BZ]
def h0H:Ox:=⟨⟨((kL P).take 11).set 3 (h0_3 P)⟩,{}⟩
def h1H:Ox:=⟨⟨(((kL P).take 15).set 3 (h1_3 P)).set 12 (MQ)⟩,{}⟩
def k1H:Ox:=⟨⟨((((kL P).take 101).set 3 (k1_3 P)).set 12 (MJ)).set 38 (MI)⟩,{}⟩
def k2H:Ox:=⟨⟨(((kL P).take 220).set 3 (k2_3 P)).set 12 (MH)⟩,{}⟩
def k3H:Ox:=⟨⟨(((kL P).take 397).set 3 (k3_3 P)).set 12 (MG)⟩,{}⟩
noncomputable def k4H:Ox:=⟨⟨kL P⟩,{}⟩
end
def KH:UB->NA:=λP=>
[(2,b2),(3,b3 P),(34,b34),(35,b35),(37,b37 P),(38,b38),(140,LF),(141,LE P),(145,LD),(146,DV),(150,LC),(151,DU),(157,LB),(158,DT),(162,LA),(163,DS),(169,Lz),(170,DR),(176,Ly),(177,DQ),(181,Lx),(182,DP),(186,Lw),(187,DO),(191,Lu),(192,DN),(196,Ls),(197,DM),(201,Lr),(202,DL),(206,Lq),(207,DK),(211,Lp),(212,DJ),(218,Lo),(219,DI),(225,Ln),(226,DH),(232,Lm),(233,DG),(237,Ll),(238,DF),(242,Lk),(243,DE),(247,Lj),(248,DD),(254,Li),(255,DC),(259,Lh),(260,DB),(264,Lg),(265,DA),(273,Lf P),(279,Le),(280,CZ),(319,Ld),(320,CY),(326,Lc),(327,CW),(333,Lb),(334,CV),(347,La),(348,CU),(350,K9 P),(351,K8),(359,K7),(360,CT),(366,K6),(367,CS),(371,K5),(372,CQ),(376,K4),(377,CP),(383,K3),(384,CO),(390,K2),(391,CN),(395,K1),(396,CM),(400,K0),(401,CL),(405,KZ),(406,CK),(410,KY),(411,CJ),(417,KW),(418,CI),(422,KV),(423,CH),(427,KU),(428,CG),(432,KS),(433,CF),(439,KR),(440,CD),(446,KQ),(447,CC),(453,KP),(454,CB),(458,KO),(459,CA),(465,KN),(466,BZ)]
noncomputable def aH:List M3:=[2,3,34,35,37,38,140,141,145,146,150,151,157,158,162,163,169,170,176,177,181,182,186,187,191,192,196,197,201,202,206,207,211,212,218,219,225,226,232,233,237,238,242,243,247,248,254,255,259,260,264,265,273,279,280,319,320,326,327,333,334,347,348,350,351,359,360,366,367,371,372,376,377,383,384,390,391,395,396,400,401,405,406,410,411,417,418,422,423,427,428,432,433,439,440,446,447,453,454,458,459,465,466]
theorem eH:∀P,aH=(KH P).map (·.1):=λ_=>by kernel_rfl
noncomputable def qH:NQ:={PySem.Challenge.pw_edgetally_k22_whole_paper_adds_up with main:={PySem.Challenge.pw_edgetally_k22_whole_paper_adds_up.main with body:=[top 0,top 2,top 3,top 4,top 5,top 6,top 7,top 9,top 10,top 11,top 12,top 14,top 15,top 16,top 18,top 19,top 20,top 22,top 23,top 24,top 25,top 26,top 27,top 28,top 30,top 31,top 32,top 33,top 34,top 35,top 36,top 37,top 38,top 39,top 41,top 42,top 43,top 44,top 45,top 46,top 47,top 48,top 49,top 50,top 51,top 52,top 53,top 54,top 55,top 56,top 57,top 58,top 59]}}
noncomputable abbrev lvH:List (NY×PySem.W.WData):=[("FREE",PySem.W.WData.tuple [Uw 0,Uw 40])]
noncomputable abbrev loH:List NY:=["BadSums","BadBounds","BadNumber","FREE","free","Net"]
abbrev hkH:=PySem.W.kHook KH aH eH
def xtH(s:Ng):Bool:=PySem.W.xlAt qH lvH s&&PySem.W.recOk (PySem.W.RowW.records (Pk (PH NW))) s
noncomputable abbrev pH:NQ:=UC (Pk (PH NW))
noncomputable def bdH:List OA:=PySem.W.behindTheImports pH
noncomputable def evH:Ud:={scope:=pH.main.scope,locals:=mainNs,globals:=mainNs,cells:=[],code:=(.ref 13),frame:=(on 14)}
def cH:Code:= .body bdH evH
noncomputable abbrev tpH:List Frame:=[PySem.W.topFrame ⟨0,0,0,0⟩]
theorem opH(w:N0):(PySem.W.fencedOpening O8 pH w 6734).map (λs=>(s.heap,s.gens,s.drawn,s.toks))=on (h0H w.params,#[],{},181):=by kernel_rfl
theorem szH(w:N0):((h0H w.params).isNs Pg&&(#[]:Array GenState).size==0,(h0H w.params).objs.size,(h0H w.params).nsMap Pg "__annotations__")=(M2,11,(on (.ref 6))):=by kernel_rfl
theorem r1H(w:N0)(os:SX):PySem.W.topGo O8 pH w 11 (on (.ref 6)) 12 ⟨h0H w.params,#[],{},181,os⟩ (V7 pH)=on (⟨h1H w.params,#[],{},187,os⟩,⟨denote O8 (.body bdH evH),cH,⟨0,0,0,0⟩,tpH⟩):=by kernel_rfl
theorem r2H(w:N0)(os:SX):RB O8 pH w 11 (on (.ref 6)) 1 1 ⟨h1H w.params,#[],{},187,os⟩ (PySem.W.blockOf bdH evH cH ⟨0,0,0,0⟩ tpH)=on (.next,⟨h1H w.params,#[],{},187,os⟩,cH,⟨0,0,0,0⟩):=by kernel_rfl
theorem c1H(w:N0)(os:SX):RB O8 pH w 11 (on (.ref 6)) 1 995 ⟨h1H w.params,#[],{},187,os⟩ (Sb (bdH.take 6) evH cH ⟨0,0,0,0⟩ tpH)=on (.next,⟨k1H w.params,#[],{},299,os⟩,cH,⟨18,0,22,24⟩):=by kernel_rfl
theorem c2H(w:N0)(os:SX):RB O8 pH w 11 (on (.ref 6)) 1 972 ⟨k1H w.params,#[],{},299,os⟩ (Sb ((bdH.drop 6).take 25) evH cH ⟨18,0,22,24⟩ tpH)=on (.next,⟨k2H w.params,#[],{},468,os⟩,cH,⟨110,0,110,4⟩):=by kernel_rfl
theorem c3H(w:N0)(os:SX):RB O8 pH w 11 (on (.ref 6)) 1 991 ⟨k2H w.params,#[],{},468,os⟩ (Sb (((bdH.drop 6).drop 25).take 17) evH cH ⟨110,0,110,4⟩ tpH)=on (.next,⟨k3H w.params,#[],{},699,os⟩,cH,⟨242,0,243,100⟩):=by kernel_rfl
theorem c4H(w:N0)(os:SX):RB O8 pH w 11 (on (.ref 6)) 1 350 ⟨k3H w.params,#[],{},699,os⟩ (Sb ((((bdH.drop 6).drop 25).drop 17).take 12) evH cH ⟨242,0,243,100⟩ tpH)=on (.next,⟨k4H w.params,#[],{},798,os⟩,cH,⟨302,0,319,15⟩):=by kernel_rfl
theorem e0H:((((bdH.drop 6).drop 25).drop 17).drop 12)=[]:=by kernel_rfl
theorem r9H(w:N0)(os:SX):Wo O8 pH w 11 (on (.ref 6)) 2 ⟨k4H w.params,#[],{},798,os⟩ ⟨PySem.W.doneF .next,cH,⟨302,0,319,15⟩,tpH⟩=on ⟨k4H w.params,#[],{},798,os⟩:=by kernel_rfl
theorem rnH(w:N0)(os:SX):Wo O8 pH w 11 (on (.ref 6)) (12+(1+(995+(972+(991+(350+2)))))) ⟨h0H w.params,#[],{},181,os⟩ (V7 pH)=on ⟨k4H w.params,#[],{},798,os⟩:=PySem.W.go_top (r1H w os) (PySem.W.piece_block (r2H w os) (jU 6 (c1H w os) (jU 25 (c2H w os) (jU 17 (c3H w os) (jU 12 (c4H w os) (BJ e0H (r9H w os)))))))
theorem hlH:PySem.W.LeftO pH qH loH xtH (PySem.W.Hook.obs hkH) (PySem.W.Hook.val hkH) 6734:=PySem.W.LeftO.of_pieces (H₀:=h0H) (H₁:=k4H) opH szH rnH (by decide +kernel) λw=>by kernel_rfl
theorem wsH:PySem.W.OpenLaw.wellSaid NW=M2:=by decide +kernel
theorem okH:(PySem.W.chainsOk qH&&PySem.W.opensWell (UC (Pk (PH NW)))&&(PySem.W.frees (Pk (PH NW))&&(PySem.W.RowW.within (Pk (PH NW))).isEmpty))=M2:=by decide +kernel
abbrev adH:Ad:={Aa:=38,Ab:=35,Ac:=fD b35,Ae:=351,Af:=146,Ag:=fD DV,Ah:=151,Ai:=fD DU,Aj:=158,Ak:=fD DT,Al:=163,Am:=fD DS,An:=170,Ao:=fD DR,Aq:=177,Ar:=fD DQ,As:=182,At:=fD DP,Au:=187,Av:=fD DO,Aw:=192,Ax:=fD DN,Ay:=197,Az:=fD DM,A0:=202,A1:=fD DL,A2:=207,A3:=fD DK,A4:=212,A5:=fD DJ,A6:=219,A7:=fD DI,A8:=226,A9:=fD DH,Ba:=233,Bb:=fD DG,Bc:=238,Bd:=fD DF,Be:=243,Bf:=fD DE,Bh:=248,Bi:=fD DD,Bj:=255,Bk:=fD DC,Bl:=260,Bm:=fD DB,Bn:=265,Bo:=fD DA,Bp:=360,Bq:=fD CT,Br:=367,Bs:=fD CS,Bt:=372,Bu:=fD CQ,Bv:=377,Bw:=fD CP,Bx:=384,By:=fD CO,Bz:=391,B0:=fD CN,B3:=396,B4:=fD CM,B5:=401,B7:=fD CL,B8:=406,Ca:=fD CK,Cb:=411,Cc:=fD CJ,Cd:=418,Cf:=fD CI,Cg:=423,Ch:=fD CH,Ci:=428,Cj:=fD CG,Ck:=433,Cl:=fD CF,Cm:=440,Cn:=fD CD,Co:=447,Cp:=fD CC,Cq:=454,Cr:=fD CB,Cs:=459,Ct:=fD CA,Cu:=280,Cv:=fD CZ,Cw:=348,Cy:=fD CU,Cz:=327,C0:=fD CW,C2:=320,C3:=fD CY,C4:=334,C5:=fD CV,C6:=466,C7:=fD BZ}
section
variable{P:UB}{h:Ox}{mg:NY->Option M7}
theorem fH{x q:NY}{s:OA}{f:M3}{a b d e cd ct:M7}{g:Option M3}(l:(KH P).lookup f=on (fO (FN x q s a b d e g cd ct)):=by kernel_rfl)(c:RA (KH P) cd q=M2:=by kernel_rfl)(k:Su (KH P) (.ref f)=M2:=by kernel_rfl):FunD (KH P) x q s f (FN x q s a b d e g cd ct):=IM l c k
theorem mO(X:(KH P).In h)(G:h.Ns Pg mg){n:NY}{v:M7}(e:PySem.W.nsIn (KH P) Pg n=on (on v):=by kernel_rfl):mg n=on v:=mg_of X G e
theorem mN(X:(KH P).In h)(G:h.Ns Pg mg){n:NY}(e:PySem.W.nsIn (KH P) Pg n=on MY:=by kernel_rfl):mg n=MY:=PySem.W.mg_none_of X G e
theorem nH(X:(KH P).In h)(G:h.Ns Pg mg):Fns (KH P) mg adH where
 C8:=mN X G
 C9:=mN X G
 Da:=mN X G
 Db:=mN X G
 Dd:=mN X G
 Df:=mN X G
 Dg:=mN X G
 Dh:=mN X G
 Di:=mN X G
 Dj:=mN X G
 Dl:=mN X G
 Dm:=mN X G
 Do:=mN X G
 Dp:=mN X G
 Dq:=mN X G
 Dr:=mN X G
 Dt:=mN X G
 Du:=mN X G
 Dv:=o6 (u:=(.int 40 353)) (mO X G) lD
 Dw:=o6 (u:=(.int 6 357)) (mO X G) lD
 Dx:=o6 (u:=(.int 4 355)) (mO X G) lD
 Dy:=o6 (u:=(.int 500 466)) (mO X G) lD
 Dz:=fH
 D0:=mO X G
 D3:=KJ (us:=[(.ref 140)]) 2 rfl (λs us a b=>by obtain⟨c,d,rfl⟩:=lU2 b;exact PySem.W.kp_binds a λS=>by kernel_rfl) (IS (GD (p:=140) (q1:=(.type "tuple")) (q2:=MY) (q3:=#[(.int 0 359),(.int 40 353)]) (q4:=0) (q5:=#[]) (by kernel_rfl) rfl (by decide) (by repeat (first|exact trivial|refine⟨rfl,?_⟩))) KG)
 D4:=fH
 D5:=mO X G
 D6:= .all (bA2 λ_ _=>rfl)
 D7:=fH
 D8:=mO X G
 D9:= .all (bA1 λ_=>rfl)
 Ea:=fH
 Eb:=mO X G
 Ec:= .all (bA3 λ_ _ _=>rfl)
 Ed:=fH
 Ee:=mO X G
 Ef:= .all (bA1 λ_=>rfl)
 Eg:=fH
 Eh:=mO X G
 Ei:= .all (bA1 λ_=>rfl)
 Ej:=fH
 Ek:=mO X G
 El:= .all (bA3 λ_ _ _=>rfl)
 Em:=fH
 En:=mO X G
 Eo:= .all (bA2 λ_ _=>rfl)
 Ep:=fH
 Er:=mO X G
 Es:= .all (bA4 λ_ _ _ _=>rfl)
 Et:=fH
 Eu:=mO X G
 Ev:= .all (bA3 λ_ _ _=>rfl)
 Ew:=fH
 Ex:=mO X G
 Ey:= .all (bA4 λ_ _ _ _=>rfl)
 Ez:=fH
 E2:=mO X G
 E3:= .all (bA3 λ_ _ _=>rfl)
 E4:=fH
 E5:=mO X G
 E6:= .all (bA1 λ_=>rfl)
 E7:=fH
 E8:=mO X G
 E9:= .all (bA3 λ_ _ _=>rfl)
 Fa:=fH
 Fb:=mO X G
 Fc:= .all (bA1 λ_=>rfl)
 Fd:=fH
 Fe:=mO X G
 Ff:= .all (bA3 λ_ _ _=>rfl)
 Fg:=fH
 Fh:=mO X G
 Fi:= .all (bA4 λ_ _ _ _=>rfl)
 Fj:=fH
 Fk:=mO X G
 Fl:= .all (bA2 λ_ _=>rfl)
 Fm:=fH
 Fn:=mO X G
 Fo:= .all (bA3 λ_ _ _=>rfl)
 Fp:=fH
 Fq:=mO X G
 Fs:= .all (bA3 λ_ _ _=>rfl)
 Ft:=fH
 Fu:=mO X G
 Fv:= .all (bA3 λ_ _ _=>rfl)
 Fw:=fH
 Fy:=mO X G
 Fz:= .all (bA1 λ_=>rfl)
 F4:=fH
 F5:=mO X G
 F6:= .all (bA1 λ_=>rfl)
 F7:=fH
 F8:=mO X G
 F9:= .all (bA2 λ_ _=>rfl)
 Ga:=fH
 Gb:=mO X G
 Gc:= .all (bA2 λ_ _=>rfl)
 Gd:=fH
 Ge:=mO X G
 Gf:= .all (bA4 λ_ _ _ _=>rfl)
 Gg:=fH
 Gi:=mO X G
 Gj:= .all (bA1 λ_=>rfl)
 Gk:=fH
 Gm:=mO X G
 Gn:= .all (bA1 λ_=>rfl)
 Go:=fH
 Gp:=mO X G
 Gq:= .all (bA1 λ_=>rfl)
 Gr:=fH
 Gs:=mO X G
 Gu:= .all (bA1 λ_=>rfl)
 Gv:=fH
 Gx:=mO X G
 Gy:= .all (bA1 λ_=>rfl)
 Gz:=fH
 G0:=mO X G
 G1:= .all (bA2 λ_ _=>rfl)
 G2:=fH
 G3:=mO X G
 G4:= .all (bA2 λ_ _=>rfl)
 G5:=fH
 G6:=mO X G
 G7:= .all (bA1 λ_=>rfl)
 G8:=fH
 G9:=mO X G
 Ha:= .all (bA3 λ_ _ _=>rfl)
 Hb:=fH
 Hc:=mO X G
 Hd:= .all (bA2 λ_ _=>rfl)
 He:=fH
 Hf:=mO X G
 Hg:= .all (bA1 λ_=>rfl)
 Hh:=fH
 Hi:=mO X G
 Hj:= .all (bA1 λ_=>rfl)
 Hk:=fH
 Hl:=mO X G
 Hm:= .all (bA2 λ_ _=>rfl)
 Hn:=fH
 Ho:=mO X G
 Hq:= .all (bA4 λ_ _ _ _=>rfl)
 Hr:=fH
 Ht:=⟨by kernel_rfl,by kernel_rfl,by kernel_rfl,by kernel_rfl⟩
 Hu:=MF (sv:=[.kw 0]) (.kw .nil) rfl (by decide) λs us g a e f=>by obtain⟨c,d,i,rfl⟩:=lU3 e;obtain⟨j,rfl⟩:=lU1 f;exact .of_eq rfl
 Hv:=fH
 Hw:=⟨by kernel_rfl,by kernel_rfl,by kernel_rfl⟩
 Hx:= .all (bA1 λ_=>rfl)
 Hy:=fH
 Hz:=⟨by kernel_rfl,by kernel_rfl,by kernel_rfl⟩
 Ia:= .all (bA1 λ_=>rfl)
 Ib:=fH
 Id:=⟨by kernel_rfl,by kernel_rfl,by kernel_rfl⟩
 Ie:= .all (bA3 λ_ _ _=>rfl)
 Ig:=fH
 Ih:=⟨by kernel_rfl,by kernel_rfl,by kernel_rfl⟩
 Ii:= .all (bA1 λ_=>rfl)
 Ij:=⟨by kernel_rfl,by kernel_rfl,by kernel_rfl,by kernel_rfl⟩
 Ik:=mO X G
 Il:=show Ra (KH P) _ _=_ by kernel_rfl
 Im:=show Ra (KH P) _ _=_ by kernel_rfl
 Io:=show Ra (KH P) _ _=_ by kernel_rfl
 Ip:=show Ra (KH P) _ _=_ by kernel_rfl
 Iq:=fH
 Ir:= .all (bA3 λ_ _ _=>rfl)
 Iu:=mO X G
 Iw:=⟨by kernel_rfl,by kernel_rfl,by kernel_rfl,by kernel_rfl⟩
theorem wlkH:PySem.W.WalkO qH loH (PySem.W.XL qH lvH) (PySem.W.Hook.says hkH) (Pk (PH NW)) (Option.get (PySem.W.defOf qH "law") rfl).1 [] (λf vs=>VQ f vs):=
 L2.walk_of (n:=63) (k:=9) (x:="_law_script") (CX:=λw=>CXE _ w) (sp:=λw=>EM (KH w.params)) rfl (by decide) rfl ⟨rfl,by decide,by decide,rfl⟩ (λw h Y=>PySem.W.kIn_of Y) (λw mg i h c G b=>by
  have e:=b.symm.trans (mg_of c G (v:= .ref 466) (by kernel_rfl));cases e;exact⟨FN "law" "law" (top 59) .none .none .none (.str "law_edgetally_k22_whole_paper_adds_up" 642) MY (.ref 465) .none,λs v=> .of_eq rfl,λbase _ _=>J5 _ _ _ (a:=adH) (fH (by kernel_rfl) (by kernel_rfl) (by kernel_rfl)) (nH c G) λβ ok=>AV (K:=KH w.params) (a:=adH)  β ok⟩) (λ_ _ a ns d _ g=>⟨a,ns,rfl,g,d,λ_=>rfl⟩) λ_ _ _ _ _ h=>by obtain⟨x,C,j,_,fl⟩:=h;obtain⟨_,_,z⟩:=fl.wish;all_goals exact z
end
end Law
open PySem PySem.W PyProof.Rows
set_option maxHeartbeats 0 in
theorem PySem.Challenge.cw_edgetally_k22_whole_paper_adds_up_holds : PySem.Challenge.rw_edgetally_k22_whole_paper_adds_up.Holds := by
 w_on
 refine holds_law Law.wsH λsaid=>?_;refine holds_open (q:=Law.qH) (loose:=Law.loH) (Xt:=Law.xtH) (XP:=XL Law.qH Law.lvH) (Yf:=Hook.obs Law.hkH) (Ya:=Hook.val Law.hkH) (YP:=Hook.says Law.hkH) (N:=6734) Law.hlH (Hook.of Law.hkH) (Hook.keeps Law.hkH) (λs e=>xl_of s (Vp.mp e).1) XL.keeps (by rfl) (by rfl) (by rfl) (λs e=>recFacts_of (Vp.mp e).2) (by rfl) said Law.okH ⟨rfl,rfl,rfl,rfl,rfl,by decide +kernel⟩ ?hw ?hc
 case hw=>w_witness2
 exact Law.wlkH
