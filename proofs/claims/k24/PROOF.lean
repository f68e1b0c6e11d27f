import PyProof.Rows.All
import Wide.All
import OpenK.AllK
import Wide.FinOn
import Lean
import PyProof.EqAt
import PyProof.EqKinds
import PyProof.TupleCall
import PyProof.NsDelKeeps
import PyProof.ListRange
import PyProof.ExcArgsOwn
import PySem.Challenge.RW_edgetally_k24_tables_by_number
set_option Elab.async false
set_option linter.all false
set_option genSizeOf false
set_option compiler.extract_closed false
set_option bootstrap.genMatcherCode false
set_option maxHeartbeats 8000000
set_option maxRecDepth 100000
noncomputable section
open And renaming intro→W8
open Array renaming length_toList→Ql,getElem?_eq_some_iff→QR,getD→Ss,getElem?_eq_none→SF,getElem?_toList→SR,forIn_toList→Tu,getElem_toList→T3,getElem?_eq_getElem→UC,getElem?_extract→W1,getElem?_push→XE,append_assoc→XR,size_extract→XS,toList_push→Ye
open Bool renaming true→Pe,false→Pj,false_ne_true→Pw,false_eq_true→PF,and_eq_true→Qj,not_true→Q6,not_false→Sb,and_self→Tp,true_and→Tq,false_and→TR,eq_iff_iff→Vi,and_eq_true_iff→XF
open Classical renaming byContradiction→Uh
open Except renaming ok→RF
open False renaming elim→Sa
open ForInStep renaming yield→UR
open Function renaming comp→UA
open Int renaming toNat_natCast→Q7,zero_add→SI,emod_nonneg→Ui,emod_lt_of_pos→UF,natCast_add→Vn,natAbs_natCast→VN,fdiv_eq_ediv_of_nonneg→WK,le_refl→XW
open List renaming length_map→Pa,getElem?_eq_getElem→Pd,getD_eq_getElem?_getD→Pf,mem_cons_of_mem→Pg,getElem?_map→Pi,mem_cons_self→Pn,map_map→Pp,range→Pq,getElem?_eq_some_iff→Px,map_cons→Py,length_cons→Pz,mem_map→PD,mem_cons→PL,length_append→PM,replicate→PR,mem_of_getElem?→PU,size_toArray→PV,mem_range→PY,length_range→P0,map_congr_left→P5,sum_cons→P8,append_nil→Qe,map_append→Qh,mem_singleton→Qi,replicate_succ→Qm,getElem_mem→Qo,drop_eq_getElem_cons→Qr,length_set→Qs,mem_append_right→Qt,nodup_cons→Qu,flatMap_cons→Qy,getElem?_set→Qz,length_singleton→QC,map→QI,append_assoc→QJ,getElem?_range→QO,nil_append→QZ,length_replicate→Q1,not_mem_nil→Q5,cons_append→Rb,getElem?_append_right→Rh,sum→Ri,mem_append→Rj,map_nil→Rk,mem_flatMap→Rl,filterMap_cons→Ro,length_take→RA,drop_eq_nil_of_le→RB,flatMap_append→RC,mem_or_eq_of_mem_set→RE,ext_getElem→RH,map_flatMap→RI,mem_replicate→RJ,set_cons_succ→RK,set_cons_zero→RM,zip_cons_cons→RN,getElem?_replicate→RY,length_nil→R0,mem_filter→R1,getD_cons_succ→R5,getD_cons_zero→R6,take_of_length_le→R7,take_append_drop→Sd,getElem?_append_left→Sh,pairwise_iff_getElem→Si,flatten_cons→Sm,mem_append_left→Sn,replicate_zero→Sx,all_eq_true→Sz,drop_length→SA,getElem_map→SB,take_length→SC,getElem_range→SG,map_replicate→SH,find?_cons→SN,forIn_cons→SO,range_succ→SQ,forIn_nil→S3,exists_cons_of_length_eq_add_one→Ta,length_zip→Tw,pairwise_cons→TC,flatMap_eq_nil_iff→TF,pairwise_singleton→TH,getElem?_eq_none→TZ,filter_cons→T0,flatMap_map→T1,any_cons→T5,map_drop→T6,lookup→Ud,map_set→Ur,zipWith→Us,mem_filterMap→UB,getElem?_eq_none_iff→UJ,pairwise_map→UM,reverse_cons→UN,all_cons→US,flatMap_nil→U3,length_eq_zero_iff→U4,lookup_cons→U5,nodup_range→U6,getElem?_toArray→Vp,getElem?_append→Vt,length→Vu,map_id→Vv,filter_sublist→VB,getElem_of_mem→VC,length_zipWith→VD,map_take→VG,map_inj_right→VM,nodup_append→VX,take_add_one→VY,zip_nil_left→VZ,length_drop→V5,filter_map→Wl,of_mem_zip→Wm,sum_append→Wn,take_zero→WF,getElem?_take_of_lt→WU,getElem?_cons_succ→W3,filter_eq_nil_iff→Xd,flatMap→Xe,getElem?_set_self→Xf,range_succ_eq_map→Xg,getElem?_zipWith→Xi,getElem?_set_ne→XI,getElem_reverse→XJ,filter_flatMap→XX,length_reverse→XZ,foldl→Yi,getElem?_drop→Yj,any_eq_false→YE,ext_getElem?→YF,filter_congr→YG
open List.Pairwise renaming nil→Vj
open List.Perm renaming of_eq→VO
open List.Sublist renaming refl→Vo
open List.cons renaming injEq→S9,inj→Yh
open Max renaming max→Yz
open Min renaming min→SX
open Nat renaming le_refl→Pt,le_trans→P3,lt_of_lt_of_le→P7,lt_irrefl→QD,ne_of_lt→QE,zero_le→QV,zero_add→Q4,lt_of_le_of_lt→RT,sub_self→RW,not_lt_zero→R3,le_add_right→SD,mul_comm→SK,ne_of_gt→SL,lt_trichotomy→SW,mul_left_comm→TV,mul_assoc→Ue,mul_le_mul_right→Uf,lt_or_ge→Ux,lt_trans→Uy,le_succ→UT,lt_succ_of_lt→UU,add_sub_cancel_left→U8,le_mul_of_pos_right→U9,lt_succ_self→Va,le_of_lt→Vk,div_le_self→Wt,strongRecOn→Wu,add_le_add→WL,mod_lt→WM,add_comm→Xj,div_div_eq_div_mul→Xk,min_self→Xl,sub_zero→Xm,zero_mul→Xn,add_mul→X0,pow_le_pow_right→X1,add_le_add_left→Yl
open Option renaming some→on,none→Pb,map_some→QK,bind_some→Q3,map_none→Th,map_eq_some_iff→U7,isSome_iff_exists→WG,getD_none→Ym,getD_some→Yn
open Option.some renaming inj→Qd,injEq→WV
open Or renaming inl→Ru,inr→Se
open Prod renaming ext→Tt,ext_iff→Ut
open Pure renaming pure→RZ
open PyProof.Rows renaming callWith_type1→Q8,seqObj→S8,envOfC→T7,AllBare→UK,listUpdate_at→Vm,subscriptTail_builtinR→Vy,IntsAre→Xc,subscriptTail→Yb
open PySem renaming wpAny_bind→My,wpAny_pure→Pc,Addr→Pk,Value→Pl,Shared→Pr,starEach→PH,wpAny→PN,sizeLine→PQ,FuncData→P9,Obj→Qb,model→Qc,Program→Qf,Str→Qn,World→Qq,foldedSetIterable→QA,wpAny_call_entry→QB,wpAny_mono→QG,SetTable→QH,Around→QP,eval→QS,wpAny_truthy_bool→QT,Stmt→QU,Heap→QW,compareOp→QY,wpAny_newObj_type→Q0,mem_of_lookup→Q2,wpAny_field→Q9,wpAny_setField_rec→Ra,wpAny_holding→Re,Comprehension→Rm,cellsFrom→Rt,treeTable→Rw,wpAny_setState_of→Rx,wpAny_seqItems→Rz,keywordEach→RO,mainGlobals→RP,sizeLine_eq→RQ,backTo→R4,wpAny_standAt→Sf,wpAny_isInstance→Sg,wpAny_specialOf→Sv,binaryOp→Sy,wpAny_comprehension_free→SE,IsPair→SJ,wpAny_typeNameOfWhole_itemiter→SM,backToKw→SY,wpAny_passesOwn→SZ,attributeBase→S6,NameKind→Tg,sliceBounds→Tj,wpAny_of_eq→Tk,wpAny_rule→Tl,DictEntry→Tv,bootBuiltins→Tx,standAt→Tz,wpAny_typeNameOf_itemiter→TD,codeAny→TU,firstArgMember→T8,holding→T9,pyNext→Ua,rawInt→Ub,wpAny_setField→Uc,Pos→Uj,swapsWith→Uo,wpAny_askSetting→Uq,behindInMarks→Uv,wpAny_attempt→Uw,assign→UH,letOwnedTupleGo→UI,codeAny_mono→UP,IsItemIter→UV,Fin→UX,cLine→UY,isSubtype_type→UZ,wpAny_Call_Name_kw→U2,IsZip→Vb,Keyword→Vc,OsState→Vd,wpAny_pyIter_list→Vg,wpAny_pyIter_slot→Vh,wpAny_forIn_list→Vr,assignEach→Vw,intKind→Vx,wpAny_isOneOf_itemiter→Vz,wpAny_pyIter_rangeiter→VA,wpAny_execs_nil→VE,builtinLookup_eq_fast→VI,isSubtype_tuple_tuple→VJ,Within→VP,pyIter→VR,wpAny_fieldsOf→VS,wpAny_updateSeq_pair→VT,BindsTo→VU,getMethod→V0,wpAny_setEntries_of→V4,wpAny_onRaise→V7,Paired→Wa,PyData→Wb,call_meets→Wc,isInstance→Wd,sysModules→We,wpAny_pyIter_tuple→Wf,wpAny_tupleItemsOf→Wg,Env→Wr,call→Wv,callerA→Ww,ofAClassStatement→Wx,searchCouldBeSeen→WA,wpAny_assign_Name→WB,wpAny_dictEntries→WC,Params→WN,noFill_tuple_add→WP,pickOrder→WQ,Draws→WR,IsRangeIter→WT,again→WY,atKey→WZ,wpAny_letGo→W0,codeAny_builtin→W5,typeLookup_type→W6,wpAny_dictEpoch→W7,builtinsNs→Xr,compPost→Xu,entryFor_alias→Xv,intItems→Xw,isSubtype_stop→Xx,newFunctionEnv→Xz,setField→XA,wpAny_newTuple→XD,evalArgs_none→XQ,call→X7,evalPart_none→X8,seq_tuple_add→X9,wpAny_getItem_list_slice→Yc,wpAny_handled→Yd,PassesOwn→Yo,list_append→Ys,bindC→Yu,bindL→Yv,eqIsQuiet→Yw,field→Yx,lastMarks→Yy,slicePick→YA,wpAny_Call_method0_late→YB,newExc→YM,seqIndex_neg→YN,wpAny_Call_method_late→YO,wpAny_pyNext_range_end→YQ
open PySem.Around renaming under→VL,under_plainId→W9
open PySem.Builtin.Dict renaming showsAll→V8
open PySem.Builtin.Dict_items renaming ownsTuple→Ts,ownedTupleFields→UD,ownedTupleIsFree→UE,pairFromOwner→UQ
open PySem.Builtin.Int renaming intBits→WD
open PySem.Builtin.List renaming listTooLong→Ug,listExtendWith→VF,listSameRef→VV
open PySem.Builtin.Range renaming rangeFitsLong→QX,rangeSize→VW
open PySem.Builtin.SmallTypes renaming nextOf→Ry,ownedTupleIsFree→RG,ownedTupleHandOut→Uz,refuseKeywords→UL
open PySem.Builtin.Tuple renaming tupleHashOf→T4
open PySem.Calls renaming callWith_builtin→TN,Name_function_global→Wq,evalArgs_plain→Xh,spliced_cons→XT,spliced_nil→Yg
open PySem.Challenge renaming rw_edgetally_k24_tables_by_number→Qk
open PySem.Code renaming isFrame→Xa
open PySem.Draws renaming list→XU
open PySem.F renaming plainAttrs_list→Rc,slot_list_append→Rq,type_list_append→Rr,slot_dict_itemiterator_next→Rv,slot_tuple_iterator_next→Tc,args_tuple_add_2→UG,entry_tuple_add→UO,slot_tuple_add→UW,slot_zip_next→Vs,args_dict_itemiterator_next_1→Wh,entry_dict_itemiterator_next→Ws,slot_dict_itemiterator_iter→WE,plainAttrs_dict→WH,args_tuple_iterator_next_1→WJ,entry_tuple_iterator_next→WS,slot_dict_get→WW,slot_dict_items_iter→XV,args_list_append_2→YC
open PySem.Heap renaming get?_push_of_some→Ph,get?_push_size→PP,lt_size→Qa,SameBut→Qg,size_push→Rg,get?_update_ne→Sw,get?_update_self→SV,ExtBut→V9,get?_update_other→Xb,get?_none_of_le→XG,get?_push_ne→YD
open PySem.Heap.IsSliceOf renaming new→Wj
open PySem.Heap.SameBut renaming update→Rf
open PySem.IntMulOk renaming of_bits→XH
open PySem.IsTupleKey renaming typeIs→W2
open PySem.Manifest renaming find?→Yk
open PySem.NameKind renaming free→Sj,cell→Wo
open PySem.Obj renaming mapSeq→Rp,data_mapFields→RU,putSet→Vl,isFreed_of_fields→Vq,cls_mapFields→V3
open PySem.P renaming add_list→X2
open PySem.PyData renaming eqv→R9,depth→S4,eqvAll→Te,canLayAll0→TM,canLay0→Uu,depthAll→V6
open PySem.SeqAt renaming shaped→Ul
open PySem.SetTable renaming fits→Wp,fresh→Yt
open PySem.Str renaming ofString→RX,empty→Td
open PySem.Value renaming ref→P4,none→QL,type→Su,int→S7,bool→VH,isInt_shape→VQ,isInt→Xq,str→YJ
open PySem.W renaming Frag→PZ,fnOf→TK,segRun→TL,piecesOf→TW,findIn→TX,codeIn→Uk,emptyDict→Um,keepIn→U1,kia_one→Ve,kia_tup→Vf,instObj→V1,kitx_list→V2,methodCall_KW→WX,callWith_K→Xo,of_hideAll→Xp,cellsFrom_some→Xs,kitx_tuple→Xy,topFrame→XB,kitx_bool→XM,kitx_none→XN,plainOver→XO,handedIn→X3,kitx_int→X4,kitx_own→X5,kitx_str→X6,makesIn→Yp,takesIn→Yq,topStub→Yr,kitAny→YH,topRun→YI,hideAll→YK,hideAll_none→YL
open PySem.W.OpenLaw renaming row→Sc
open PySem.W.OpenRow renaming toRowW→RV
open PySem.W.RowW renaming prog→WO
open PySem.W.WData renaming int→WI
open PySem.pickOrder renaming go→Wz
open True renaming intro→S5
abbrev Po:=@if_neg
abbrev Ps:=@if_pos
abbrev PX:=@decide_eq_true
abbrev P6:=@absurd
abbrev Qp:=@decide_eq_false
abbrev Qv:=@if_true
abbrev Qw:=@if_false
abbrev Qx:=@decide_eq_true_eq
abbrev QN:=@congrArg
abbrev R8:=@beq_self_eq_true
abbrev Sk:=@of_decide_eq_true
abbrev SS:=@bne_self_eq_false
abbrev SU:=@decide_false
abbrev Tf:=@decide_true
abbrev Ti:=@beq_iff_eq
abbrev TY:=@or_false
abbrev W4:=@beq_eq_false_iff_ne
open PySem.W (Frag instObj methodObj hideAll hideAll_get hideAll_none lookIn plainGet hasDictIn findIn plainGet_of isFn takerIn emptyDict keepIn specialIn kitOne kia_one kitx_list kitx_tuple cellsFrom_some mg_of kia_tup)
abbrev LI:=List (List Int)
abbrev LP:=List (List (Int×Int))
--CHANGE:your row's module here,as the last of these rows
namespace L2
open PySem PySem.Spec PyProof.Rows
inductive V where
 |non|bl (b:Bool)|int (i:Int)|str (x:Qn)|ref (a:Pk)|ty (n:String)
 deriving DecidableEq
def aQ:V->Pl->Prop
 | .non,u=>u=QL
 | .bl b,u=>u=VH b
 | .int i,u=>∃t,u=S7 i t
 | .str x,u=>∃t,u=YJ x t
 | .ref a,u=>u=P4 a
 | .ty n,u=>u=Su n
abbrev ay:List V->List Pl->Prop:=Wa aQ
theorem ay.length{xs:List V}{us:List Pl}(r:ay xs us):xs.length=us.length:=Paired.length r
theorem ay.get:∀{xs:List V} {us:List Pl} {i:Nat} {x:V},ay xs us->xs[i]?=on x->∃u,us[i]?=on u/\aQ x u
 |_,_,_,_,.nil,e=>by simp at e
 |_,_,0,_,.cons r _,e=>by simp at e;subst e;exact⟨_,rfl,r⟩
 |_,_,i+1,x,.cons _ t,e=>by
  obtain⟨u,a,b⟩:=ay.get (i:=i) (x:=x) t (by simpa using e);exact⟨u,by simpa using a,b⟩
theorem ay.set(r:aQ x u):∀{xs:List V} {us:List Pl} (i:Nat),ay xs us->ay (xs.set i x) (us.set i u)
 |_,_,_,.nil=> .nil
 |_,_,0,.cons _ t=> .cons r t
 |_,_,i+1,.cons q t=> .cons q (ay.set r i t)
theorem ay.append:∀{xs ys:List V} {us a:List Pl},ay xs us->ay ys a->ay (xs++ys) (us++a)
 |_,_,_,_,.nil,s=>s
 |_,_,_,_,.cons r t,s=> .cons r (ay.append t s)
theorem ay.take:∀{xs:List V} {us:List Pl} (n:Nat),ay xs us->ay (xs.take n) (us.take n)
 |_,_,0,_=> .nil
 |_,_,_+1,.nil=> .nil
 |_,_,n+1,.cons r t=> .cons r (ay.take n t)
theorem ay.drop:∀{xs:List V} {us:List Pl} (n:Nat),ay xs us->ay (xs.drop n) (us.drop n)
 |_,_,0,r=>r
 |_,_,_+1,.nil=> .nil
 |_,_,n+1,.cons _ t=>ay.drop n t
def il:Option V->Option Pl->Prop
 |some v,on u=>aQ v u
 |none,Pb=>True
 |_,_=>False
inductive HO where
 |lst (xs:List V)
 |tup (xs:List V)
 |ins (C dx:Pk) (fs:List (Qn×V))
 |own (x:Pk)
 |xd (fs:List (Qn×V))
 |met (f x:Pk)
 |rng (lo hi:Int)
 |frz (o:Qb) (u:HO)
 |tbl (ps:Array Pl)
 |ext (φ:QW->Prop)
abbrev Hp:=Pk->Option HO
noncomputable def upd(H:Hp)(a:Pk)(o:HO):Hp:=λb=>if b=a then on o else H b
theorem ar:upd H a o a=on o:=by unfold upd;rw[Ps rfl]
theorem upd_ne(h:b≠a):upd H a o b=H b:=by unfold upd;rw[Po h]
theorem OC{H:Hp}{a b:Pk}{o u:HO}(h:H a=on o)(h':H b=on u)(d:o≠u):a≠b:=by
 intro e;subst e;rw[h]at h';exact d (Qd h')
theorem aB{H:Hp}{a b:Pk}{o:HO}(h:H a=on o)(h':H b=Pb):a≠b:=by
 intro e;subst e;rw[h]at h';cases h'
section
variable(P:Qf)(w:Qq)
def bO(P:Qf)(w:Qq)(H:Hp)(h:QW)(a:Pk):HO->Prop
 | .lst xs=>xs.length<=PQ/\∃(its:List Pl) (n:Nat),ay xs its/\h.get? a=on {cls:= .type "list",data:= .seq its.toArray n}
 | .tup xs=>xs.length<=PQ/\∃its:List Pl,ay xs its/\IsTup h a its.toArray
 | .ins C dx fs=>H dx=on (.own a)/\fs.length<=1000/\dx≠a/\h.get? a=on (V1 C dx)/\
   ∃b,h.Ns1 dx b/\(∀f,il (fs.lookup f) (b f))/\VP b (fs.map (·.1))
 | .own _=>∃o,h.get? a=on o
 | .xd fs=>∃b,h.Ns1 a b/\∀f,il (fs.lookup f) (b f)
 | .rng lo hi=>∃t u v,h.get? a=on {cls:= .type "range",data:= .fields #[.int lo t,.int hi u,.int 1 v]}
 | .frz o u=>h.get? a=on o/\bO P w H h a u
 | .tbl ps=>h.get? a=on {cls:= .none,data:= .fields ps}
 | .met f x=>h.get? a=on (methodObj (.ref f) (.ref x))
 | .ext φ=>φ h/\(∃o,h.get? a=on o)/\∀c d:QW,φ c->(∀o,c.get? a=on o->d.get? a=on o)->φ d
def HOk(H:Hp)(h:QW):Prop:=∀a o,H a=on o->bO P w H h a o
end
section
variable{P:Qf}{w:Qq}{H H':Hp}{h h':QW}{a:Pk}{o:HO}
theorem bO.lt(x:bO P w H h a o):a<h.objs.size:=by
 cases o with
 |lst xs=>obtain⟨_,_,_,_,e⟩:=x;exact Qa e
 |tup xs=>obtain⟨_,_,_,p⟩:=x;exact p.lt
 |ins C dx fs=>obtain⟨_,_,_,e,_⟩:=x;exact Qa e
 |own y=>obtain⟨_,e⟩:=x;exact Qa e
 |xd fs=>obtain⟨_,⟨_,_,_,e,_⟩,_⟩:=x;exact Qa e
 |rng lo hi=>obtain⟨_,_,_,e⟩:=x;exact Qa e
 |frz ob u=>obtain⟨e,_⟩:=x;exact Qa e
 |tbl ps=>exact Qa (show h.get? a=on _ from x)
 |met f y=>exact Qa (show h.get? a=on _ from x)
 |ext φ=>obtain⟨_,⟨_,e⟩,_⟩:=x;exact Qa e
theorem bO.stay(x:bO P w H h a o)(k:∀b u,(b=a\/H b=on (.own a))->h.get? b=on u->h'.get? b=on u)
  (l:∀b,H b=on (.own a)->H' b=on (.own a)) (A:∀b xs,H b=on (.tup xs)->H' b=on (.tup xs)):bO P w H' h' a o:=by
 induction o with
 |lst xs=>obtain⟨z,its,n,r,e⟩:=x;exact⟨z,its,n,r,k _ _ (.inl rfl) e⟩
 |tup xs=>obtain⟨z,its,r,g,e,c⟩:=x;exact⟨z,its,r,g,k _ _ (.inl rfl) e,c⟩
 |ins C dx fs=>
  obtain⟨d,z,ne,e,i,⟨j,es,ep,m,c⟩,r⟩:=x;exact⟨l _ d,z,ne,k _ _ (.inl rfl) e,i,⟨j,es,ep,k _ _ (.inr d) m,c⟩,r⟩
 |own y=>obtain⟨g,e⟩:=x;exact⟨g,k _ _ (.inl rfl) e⟩
 |xd fs=>obtain⟨i,⟨j,es,ep,e,c⟩,r⟩:=x;exact⟨i,⟨j,es,ep,k _ _ (.inl rfl) e,c⟩,r⟩
 |rng lo hi=>obtain⟨t,u,v,e⟩:=x;exact⟨t,u,v,k _ _ (.inl rfl) e⟩
 |frz g u ih=>obtain⟨e,q⟩:=x;exact⟨k _ _ (.inl rfl) e,ih q⟩
 |tbl ps=>
  have e:h.get? a=on {cls:= .none,data:= .fields ps}:=x;show h'.get? a=on {cls:= .none,data:= .fields ps};exact k a _ (.inl rfl) e
 |met f y=>
  have e:h.get? a=on (methodObj (.ref f) (.ref y)):=x;show h'.get? a=on (methodObj (.ref f) (.ref y));exact k a _ (.inl rfl) e
 |ext φ=>obtain⟨p,⟨o,e⟩,st⟩:=x;exact⟨st _ _ p λo q=>k _ _ (.inl rfl) q,⟨o,k _ _ (.inl rfl) e⟩,st⟩
theorem HOk.lt(x:HOk P w H h)(e:H a=on o):a<h.objs.size:=(x a o e).lt
theorem HOk.fresh(x:HOk P w H h)(e:h.objs.size<=a):H a=Pb:=by
 cases q:H a with
 |none=>rfl
 |some u=>exact P6 (P7 (x.lt q) e) (QD _)
theorem HOk.kept(x:HOk P w H h)(k:∀b u,h.get? b=on u->h'.get? b=on u):HOk P w H h':=λa o e=>
 (x a o e).stay (λb u _ q=>k b u q) (λ_ q=>q) λ_ _ q=>q
theorem HOk.laid(x:HOk P w H h)(k:∀b u,h.get? b=on u->h'.get? b=on u)(f:h.objs.size<=a)(new:bO P w (upd H a o) h' a o):HOk P w (upd H a o) h':=λb u e=>by
 have hn:=x.fresh f;by_cases d:b=a
 ·subst d;rw[ar]at e;cases e;exact new
 ·rw[upd_ne d]at e
  exact(x b u e).stay (λc v _ q=>k c v q) (λc q=>by rw[upd_ne (aB q hn)];exact q) λc xs q=>by rw[upd_ne (aB q hn)];exact q
def Rd(H:Hp)(a:Pk)(u:HO):Prop:=H a=on u\/∃o,H a=on (.frz o u)
theorem Rd.ok{P:Qf}{w:Qq}{H:Hp}{h:QW}{a:Pk}(r:Rd H a u)(x:HOk P w H h):bO P w H h a u:=by
 rcases r with r|⟨o,r⟩
 ·exact x a u r
 ·obtain⟨_,q⟩:=x a _ r
  exact q
def Mut:Option HO->Prop
 |some (.lst _)=>True
 |some (.ins _ _ _)=>True
 |some (.ext _)=>True
 |_=>False
variable{x e:Pk}{o':HO}
theorem HOk.write(ok:HOk P w H h)(mu:Mut (H x))(l:e=x\/H e=on (.own x))(k:∀b u,b≠e->h.get? b=on u->h'.get? b=on u)(j:∃u,h'.get? e=on u)
  (new:bO P w (upd H x o') h' x o'):HOk P w (upd H x o') h':=λb u q=>by
 have f:∀c y,H c=on (.own y)->c≠x:=λc y r z=>by subst z;rw[r]at mu;exact mu
 have g:∀c xs,H c=on (.tup xs)->c≠x:=λc xs r z=>by subst z;rw[r]at mu;exact mu
 by_cases i:b=x
 ·subst i;rw[ar]at q;cases q;exact new
 ·rw[upd_ne i]at q
  by_cases d:b=e
  ·have m:H b=on (.own x):=by
    rcases l with z|z
    ·exact P6 (d.trans z) i
    ·rw[d];exact z
   rw[q]at m;cases m;obtain⟨v,n⟩:=j;exact⟨v,by rw[d];exact n⟩
  ·refine(ok b u q).stay (λc v hc r=>k c v ?_ r) (λc r=>by rw[upd_ne (f c b r)];exact r) λc xs r=>by rw[upd_ne (g c xs r)];exact r
   rcases hc with rfl|hc
   ·exact d
   ·rintro rfl
    rcases l with z|z
    ·exact f c b hc z
    ·rw[hc]at z;cases z;exact i rfl
structure Un (fs ex:List Pk) (H H':Hp) (h h':QW):Prop where
 keep:∀b o,h.get? b=on o->H b=Pb->b∉fs->b∉ex->h'.get? b=on o
 slot:∀b o,h.get? b=on o->H b=Pb->b∈fs->b∉ex->∃sl,h'.get? b=on {o with slots:=sl}
 free:∀b o,h.get? b=on o->H b=Pb->b∉ex->H' b=Pb
 there:∀b o,h.get? b=on o->b∉ex->∃o',h'.get? b=on o'
 tups:∀b xs,H b=on (.tup xs)->H' b=on (.tup xs)
 frzs:∀b o u,H b=on (.frz o u)->H' b=on (.frz o u)
 tbls:∀b ps,H b=on (.tbl ps)->∃more,H' b=on (.tbl (ps++more))
variable{fs fs' ex ex':List Pk}{H1 H2:Hp}{h1 h2:QW}
theorem Un.any(u:Un fs ex H H1 h h1)(q:h.get? b=on ob)(n:H b=Pb)(c:b∉ex):∃f,h1.get? b=on {ob with slots:=f}:=by
 by_cases d:b∈fs
 ·exact u.slot b ob q n d c
 ·exact⟨ob.slots,u.keep b ob q n d c⟩
theorem Un.trans(a:Un fs ex H H1 h h1)(b:Un fs ex H1 H2 h1 h2):Un fs ex H H2 h h2 where
 keep:=λc d q n i f=>b.keep c d (a.keep c d q n i f) (a.free c d q n f) i f
 slot:=λc d q n i f=>by
  obtain⟨l,g⟩:=a.slot c d q n i f;obtain⟨j,k⟩:=b.slot c _ g (a.free c d q n f) i f;exact⟨j,k⟩
 free:=λc d q n f=>by
  obtain⟨o',g⟩:=a.there c d q f;exact b.free c o' g (a.free c d q n f) f
 there:=λc d q f=>by
  obtain⟨o',g⟩:=a.there c d q f;exact b.there c o' g f
 tups:=λc xs q=>b.tups c xs (a.tups c xs q)
 frzs:=λc d xs q=>b.frzs c d xs (a.frzs c d xs q)
 tbls:=λc ps q=>by
  obtain⟨m1,g⟩:=a.tbls c ps q;obtain⟨m2,k⟩:=b.tbls c _ g;exact⟨m1++m2,by rw[k,XR]⟩
theorem Un.kept(k:∀b u,h.get? b=on u->h'.get? b=on u):Un fs ex H H h h':=
 ⟨λb c q _ _ _=>k b c q,λb c q _ _ _=>⟨c.slots,k b c q⟩,λ_ _ _ n _=>n,λb c q _=>⟨c,k b c q⟩,λ_ _ q=>q,λ_ _ _ q=>q,λ_ ps q=>⟨#[],by rw[q];simp⟩⟩
theorem Un.refl:Un fs ex H H h h:=Un.kept λ_ _ q=>q
theorem Un.laid(k:∀b u,h.get? b=on u->h'.get? b=on u)(c:h.objs.size<=a)(hn:H a=Pb):Un fs ex H (upd H a o) h h' where
 keep:=λb u q _ _ _=>k b u q
 slot:=λb u q _ _ _=>⟨u.slots,k b u q⟩
 free:=λb u q n _=>by rw[upd_ne (QE (P7 (Qa q) c))];exact n
 there:=λb u q _=>⟨u,k b u q⟩
 tups:=λb xs q=>by rw[upd_ne (aB q hn)];exact q
 frzs:=λb u xs q=>by rw[upd_ne (aB q hn)];exact q
 tbls:=λb ps q=>⟨#[],by rw[upd_ne (aB q hn),q];simp⟩
theorem Un.write(mu:Mut (H x))(i:e=x\/H e=on (.own x))(k:∀b u,b≠e->h.get? b=on u->h'.get? b=on u)(d:∃u,h'.get? e=on u):Un fs ex H (upd H x o) h h':=by
 have f:∀b,H b=Pb->b≠x:=λb n z=>by subst z;rw[n]at mu;exact mu
 have g:∀b,H b=Pb->b≠e:=λb n z=>by
  subst z;rcases i with r|r
  ·exact f b n r
  ·rw[n]at r;cases r
 have hm:∀b u,H b=on u->¬Mut (on u)->b≠x:=λb u q j z=>by subst z;rw[q]at mu;exact j mu
 refine⟨λb u q n _ _=>k b u (g b n) q,λb u q n _ _=>⟨u.slots,k b u (g b n) q⟩,λb u q n _=>by rw[upd_ne (f b n)];exact n,λb u q _=>?_,
  λb xs q=>by rw[upd_ne (hm b _ q λz=>z)];exact q,λb u xs q=>by rw[upd_ne (hm b _ q λz=>z)];exact q,λb ps q=>⟨#[],by rw[upd_ne (hm b _ q λz=>z),q];simp⟩⟩
 by_cases c:b=e
 ·subst c;exact d
 ·exact⟨u,k b u c q⟩
theorem Un.mono(u:Un fs ex H H1 h h1)(hs:∀b∈fs,b∈fs')(f:∀b∈ex,b∈ex'):Un fs' ex' H H1 h h1:=
 ⟨λb d q n g c=>u.keep b d q n (λz=>g (hs b z)) λz=>c (f b z),λ_ _ q n _ c=>u.any q n λz=>c (f _ z),λb d q n c=>u.free b d q n λz=>c (f b z),λb d q c=>u.there b d q λz=>c (f b z),u.tups,u.frzs,u.tbls⟩
noncomputable def trk(h:QW)(H:Hp):List Pk:=(Pq h.objs.size).filter λa=>(H a).isSome
noncomputable def lw(h:QW)(H:Hp):QW:=YK h (trk h H)
theorem AH(h:QW)(H:Hp):(lw h H).objs.size=h.objs.size:=PySem.W.hideAll_size _ _
theorem ED{h:QW}{H:Hp}{o:Qb}(e:h.get? b=on o)(n:H b=Pb):(lw h H).get? b=on o:=
 hideAll_get _ e λhm=>by
  have q:(H b).isSome=Pe:=(R1.mp hm).2;rw[n]at q;simp at q
theorem Km{h:QW}{H:Hp}{o:Qb}(e:(lw h H).get? b=on o):h.get? b=on o/\H b=Pb:=by
 have c:h.get? b=on o:=Xp (trk h H) e;refine⟨c,?_⟩;cases q:H b with
 |none=>rfl
 |some x=>
  have hm:b∈trk h H:=R1.mpr ⟨PY.mpr (Qa c),by simp[q]⟩;have z:(lw h H).get? b=Pb:=YL (trk h H) hm;rw[z]at e;cases e
structure Mod (K:PZ) (mg:Qn->Option Pl) (base:QW):Prop where
 kin:K.In base
 glob:base.Ns RP mg
 blt:∃mb,base.Ns Xr mb/\∀x:Qn,x≠"__name__"->mb x=Tx x
 nolimit:base.NoLimit
structure Cx where
 prog:Qf
 w:Qq
 K:PZ
 mg:Qn->Option Pl
 base:QW
 A:QP
 N:List Qn
 s₀:Pr
 H₀:Hp
 env:Wr
 outer:List Wr
 stack:List Wr
 ex:List Pk
 fn:Qn->Bool
 calm:Bool
 pn:List (Pk×Qb)
 xe:Pl->Pr->Prop
noncomputable def frs(l:List Wr):List Pk:=l.filterMap (·.frame)
end
noncomputable abbrev Cx.fs(X:Cx):List Pk:=frs X.outer
def Vis(a:Scope)(x:Qn):Prop:=a.names.lookup x=on .local\/a.names.lookup x=on .cell\/a.names.lookup x=on .free
def Loc(a:Scope)(x:Qn):Prop:=a.names.lookup x=on .local\/a.names.lookup x=on .cell
def Look(env:Wr)(h:QW)(m:Qn->Option Pl)(x:Qn)(u:Pl):Prop:=
 (env.kindOf x=on .local/\m x=on u)\/((env.kindOf x=on .cell\/env.kindOf x=on .free)/\∃c,env.cells.lookup x=on c/\h.IsCell c (on u))
structure Cx.Ok (X:Cx):Prop where
 mod:Mod X.K X.mg X.base
 kind:X.env.scope.kind= .function
 glob:X.env.globals=RP
 blt:X.env.builtins=Xr
 above:X.s₀.heap.objs.size<=X.env.locals
 inj:∀x y c,X.env.cells.lookup x=on c->X.env.cells.lookup y=on c->x=y
 has:∀x,(X.env.kindOf x=on .cell\/X.env.kindOf x=on .free)->∃c,X.env.cells.lookup x=on c
 cab:∀x c,X.fn x=Pe->X.env.cells.lookup x=on c->X.s₀.heap.objs.size<=c
 hd:X.calm=Pe->X.A.handled=Pb
 frames:X.A.frames=on X.stack
 stk:X.stack=X.outer\/(X.stack=X.env::X.outer/\X.env.frame=on X.env.locals)
 exf:∀b∈X.ex,b≠X.env.locals/\∀x c,X.env.cells.lookup x=on c->c≠b
 bs:∀b o,X.base.get? b=on o->X.s₀.heap.get? b=on o/\X.H₀ b=Pb
 bsz:X.base.objs.size<=X.s₀.heap.objs.size
 noex:∀b o,X.base.get? b=on o->b∉X.ex
 exfs:∀b∈X.ex,b∉X.fs
 funs:X.s₀.heap.FunFrames X.base X.outer
 frf:∀b∈X.fs,X.H₀ b=Pb
structure Inv (X:Cx) (pins:List (Pk×Qb)) (σ:List (Option V)) (H:Hp) (s:Pr):Prop where
 ok:X.Ok
 os:s.os=X.s₀.os
 bare:UK s.gens
 base:Un X.fs X.ex X.H₀ H X.s₀.heap s.heap
 loc:∃m,s.heap.Ns X.env.locals m/\∀(i:Nat) (x:Qn) (v:V),X.N[i]?=on x->σ[i]?=on (on v)->Vis X.env.scope x->∃u,aQ v u/\Look X.env s.heap m x u
 cell:∀x c,X.env.cells.lookup x=on c->∃v,s.heap.IsCell c v
 free:H X.env.locals=Pb
 freeC:∀x c,X.env.cells.lookup x=on c->H c=Pb
 pin:∀p∈X.pn++pins,s.heap.get? p.1=on p.2/\H p.1=Pb/\p.1≠X.env.locals/\p.1∉X.fs/\∀v,p.2.data≠ .cell v
 hok:HOk X.prog X.w H s.heap
 len:σ.length=X.N.length
section
variable{X:Cx}{pins:List (Pk×Qb)}{σ:List (Option V)}{H H':Hp}{s:Pr}{h':QW}
theorem Cx.Ok.nofr(ok:X.Ok)(e:X.base.get? b=on o):b∉X.fs:=λa=>by
 have:=(ok.funs.mem a).1;rw[e]at this;cases this
theorem Inv.bs(I:Inv X pins σ H s):∀b o,X.base.get? b=on o->s.heap.get? b=on o/\H b=Pb:=λb o e=>
 ⟨I.base.keep b o (I.ok.bs b o e).1 (I.ok.bs b o e).2 (I.ok.nofr e) (I.ok.noex b o e),I.base.free b o (I.ok.bs b o e).1 (I.ok.bs b o e).2 (I.ok.noex b o e)⟩
theorem Inv.bk(I:Inv X pins σ H s):∀b o,X.base.get? b=on o->s.heap.get? b=on o:=λb o e=>(I.bs b o e).1
theorem Inv.mod(I:Inv X pins σ H s):Mod X.K X.mg X.base:=I.ok.mod
theorem Inv.kIn(I:Inv X pins σ H s):X.K.In s.heap:=I.ok.mod.kin.keeps I.bk
theorem Inv.lt(I:Inv X pins σ H s):X.env.locals<s.heap.objs.size:=let ⟨_,hn,_⟩:=I.loc;hn.lt
theorem Inv.sz(I:Inv X pins σ H s):X.s₀.heap.objs.size<=s.heap.objs.size:=P3 I.ok.above (Vk I.lt)
theorem Inv.nofs(I:Inv X pins σ H s){a:Pk}(h:s.heap.objs.size<=a):a∉X.fs:=λb=>by
 obtain⟨_,o,c,_⟩:=I.ok.funs.mem b;exact P6 (P7 (Qa c) (P3 I.sz h)) (QD _)
theorem Inv.cne(I:Inv X pins σ H s):∀x c,X.env.cells.lookup x=on c->c≠X.env.locals:=λx c e z=>by
 obtain⟨v,o,d,hd⟩:=I.cell x c e;obtain⟨m,⟨f,es,ep,a,b,_⟩,_⟩:=I.loc;rw[z,a]at d;cases d;rw[b]at hd;cases hd
theorem Inv.funs(I:Inv X pins σ H s):s.heap.FunFrames X.base X.outer:=by
 have all:∀(l:List Wr),(∀b∈frs l,b∈X.fs)->X.s₀.heap.FunFrames X.base l->s.heap.FunFrames X.base l:=by
  intro l
  induction l with
  |nil=>intro _ _;trivial
  |cons env r ih=>
   intro hs f;obtain⟨g,⟨L,o,a,hn,h,hd⟩,i⟩:=f;have c:L∈X.fs:=hs L (by unfold frs;rw[Ro,a];exact Pn);obtain⟨j,e⟩:=I.base.slot L o h (I.ok.frf L c) c λz=>I.ok.exfs L z c;exact⟨g,⟨L,_,a,hn,e,hd⟩,ih (λb d=>hs b (by unfold frs;rw[Ro,a];exact Pg _ d)) i⟩
 exact all X.outer (λ_ d=>d) I.ok.funs
theorem Inv.stack(I:Inv X pins σ H s):s.heap.FunFrames X.base X.stack:=by
 rcases I.ok.stk with e|⟨e,a⟩
 ·rw[e];exact I.funs
 ·rw[e]
  obtain⟨m,hn,_⟩:=I.loc;refine .cons (by rw[I.ok.kind];decide) a hn ?_ I.funs;exact XG (P3 I.ok.bsz I.ok.above)
theorem Inv.stkSub(I:Inv X pins σ H s):∀b∈frs X.stack,b∈X.env.locals::X.fs:=λb a=>by
 rcases I.ok.stk with e|⟨e,c⟩
 ·rw[e]at a;exact Pg _ a
 ·rw[e]at a
  unfold frs at a;rw[Ro,c]at a;exact a
theorem Inv.stkFree(I:Inv X pins σ H s):∀b∈frs X.stack,H b=Pb:=λb hb=>by
 rcases PL.mp (I.stkSub b hb)with e|hb
 ·rw[e];exact I.free
 ·obtain⟨_,o,a,_⟩:=I.ok.funs.mem hb
  exact I.base.free b o a (I.ok.frf b hb) λz=>I.ok.exfs b z hb
theorem Inv.step{ch:List Pk}(I:Inv X pins σ H s)
  (f:∀b∈ch,(b∈X.ex\/X.s₀.heap.objs.size<=b)/\b≠X.env.locals/\(∀x c,X.env.cells.lookup x=on c->c≠b)/\∀p∈X.pn++pins,p.1≠b)
  (keep:∀b o,b≠X.env.locals->b∉X.fs->b∉ch->s.heap.get? b=on o->H b=Pb->h'.get? b=on o)
  (slot:∀b o,b≠X.env.locals->b∈X.fs->b∉ch->s.heap.get? b=on o->H b=Pb->∃J,h'.get? b=on {o with slots:=J}) (free:∀b o,b∉ch->s.heap.get? b=on o->H b=Pb->H' b=Pb)
  (there:∀b o,b∉ch->s.heap.get? b=on o->∃B,h'.get? b=on B)
  (tups:∀b xs,H b=on (.tup xs)->H' b=on (.tup xs)) (frzs:∀b o u,H b=on (.frz o u)->H' b=on (.frz o u)) (tbls:∀b ps,H b=on (.tbl ps)->∃more,H' b=on (.tbl (ps++more)))
  (ns:∀m,s.heap.Ns X.env.locals m->h'.Ns X.env.locals m) (hok:HOk X.prog X.w H' h') (P:UK g'):
  Inv X pins σ H' {s with heap:=h',gens:=g',drawn:=d',toks:=t'}:=by
 have C:∀b o,X.s₀.heap.get? b=on o->b≠X.env.locals:=λb o e=>QE (P7 (Qa e) I.ok.above);have j:∀b o,X.s₀.heap.get? b=on o->b∉X.ex->b∉ch:=λb o e a y=>by
  rcases(f b y).1 with z|z
  ·exact a z
  ·exact P6 (P7 (Qa e) z) (QD _)
 have g:∀x c,X.env.cells.lookup x=on c->∀v,s.heap.IsCell c v->h'.IsCell c v:=λx c e v ⟨o,A,hd⟩=>by
  have h:c∉ch:=λz=>(f c z).2.2.1 x c e rfl;by_cases N:c∈X.fs
  ·obtain⟨J,q⟩:=slot c o (I.cne x c e) N h A (I.freeC x c e)
   exact⟨_,q,hd⟩
  ·exact⟨o,keep c o (I.cne x c e) N h A (I.freeC x c e),hd⟩
 refine⟨I.ok,I.os,P,⟨λb o e n y a=>?_,λb o e n y a=>?_,λb o e n a=>?_,λb o e a=>?_,λb xs e=>tups b xs (I.base.tups b xs e),λb o xs e=>frzs b o xs (I.base.frzs b o xs e),λb ps e=>?_⟩,?_,λx c e=>?_,?_,λx c e=>?_,λp O=>?_,hok,I.len⟩
 ·exact keep b o (C b o e) y (j b o e a) (I.base.keep b o e n y a) (I.base.free b o e n a)
 ·obtain⟨J,t⟩:=I.base.slot b o e n y a
  obtain⟨L,F⟩:=slot b _ (C b o e) y (j b o e a) t (I.base.free b o e n a);exact⟨L,F⟩
 ·obtain⟨B,t⟩:=I.base.there b o e a
  exact free b B (j b o e a) t (I.base.free b o e n a)
 ·obtain⟨B,t⟩:=I.base.there b o e a
  exact there b B (j b o e a) t
 ·obtain⟨m1,t⟩:=I.base.tbls b ps e
  obtain⟨m2,F⟩:=tbls b _ t;exact⟨m1++m2,by rw[F,XR]⟩
 ·obtain⟨m,hn,Q⟩:=I.loc
  refine⟨m,ns m hn,λi x v t F R=>?_⟩;obtain⟨u,r,l⟩:=Q i x v t F R;refine⟨u,r,?_⟩;rcases l with l|⟨k,c,e,z⟩
  ·exact .inl l
  ·exact .inr ⟨k,c,e,g x c e _ z⟩
 ·obtain⟨v,z⟩:=I.cell x c e
  exact⟨v,g x c e v z⟩
 ·obtain⟨m,⟨o,_,_,A,_⟩,_⟩:=I.loc
  exact free _ o (λz=>(f _ z).2.1 rfl) A I.free
 ·obtain⟨v,o,A,hd⟩:=I.cell x c e
  exact free c o (λz=>(f c z).2.2.1 x c e rfl) A (I.freeC x c e)
 ·obtain⟨e,n,ne,nf,d⟩:=I.pin p O
  have h:p.1∉ch:=λz=>(f p.1 z).2.2.2 p O rfl;exact⟨keep p.1 p.2 ne nf h e n,free p.1 p.2 h e n,ne,nf,d⟩
theorem Inv.un(I:Inv X pins σ H s)(u:Un X.fs [] H H' s.heap h')(hok:HOk X.prog X.w H' h'):Inv X pins σ H' {s with heap:=h',toks:=t'}:=by
 obtain⟨m,⟨o,es,ep,g,r⟩,_⟩:=id I.loc;obtain⟨j,h⟩:=u.any g I.free (by simp);exact I.step (g':=s.gens) (d':=s.drawn) (ch:=[]) (λ_ z=>nomatch z) (λb o _ c _ e n=>u.keep b o e n c (by simp)) (λb o _ c _ e n=>u.slot b o e n c (by simp)) (λb o _ e n=>u.free b o e n (by simp)) (λb o _ e=>u.there b o e (by simp)) u.tups u.frzs u.tbls (λk hm=>by
  obtain⟨l,d,f,a,i⟩:=hm;rw[g]at a;cases a;exact⟨_,d,f,h,i⟩) hok I.bare
theorem Inv.call{ch:List Pk}(I:Inv X pins σ H s)(u:Un (frs X.stack) ch H H' s.heap h')(hok:HOk X.prog X.w H' h')(k:UK g')
  (d:∀b∈ch,(b∈X.ex\/X.s₀.heap.objs.size<=b)/\b≠X.env.locals/\(∀x c,X.env.cells.lookup x=on c->c≠b)/\∀p∈X.pn++pins,p.1≠b):
  Inv X pins σ H' {s with heap:=h',gens:=g',drawn:=d',toks:=t'}:=by
 obtain⟨m,⟨o,es,ep,j,r⟩,_⟩:=id I.loc;obtain⟨t,g⟩:=u.any j I.free λz=>(d _ z).2.1 rfl;exact I.step (ch:=ch) d (λb o g l a e n=>u.keep b o e n (λz=>(PL.mp (I.stkSub b z)).elim g l) a) (λb o _ _ a e n=>u.any e n a) (λb o a e n=>u.free b o e n a) (λb o a e=>u.there b o e a) u.tups u.frzs u.tbls (λv hm=>by
  obtain⟨y,h,i,f,q⟩:=hm;rw[j]at f;cases f;exact⟨_,h,i,g,q⟩) hok k
theorem Inv.turned(I:Inv X pins σ H s)(k:∀b o,b≠it->s.heap.get? b=on o->h'.get? b=on o)(hn:H it=Pb)(f:it≠X.env.locals)
  (g:it∈X.ex\/X.s₀.heap.objs.size<=it) (h:∀x c,X.env.cells.lookup x=on c->c≠it) (i:∀p∈X.pn++pins,p.1≠it):Inv X pins σ H {s with heap:=h',toks:=t'}:=by
 have d:∀b u,H b=on u->b≠it:=λb u e z=>by rw[z,hn]at e;cases e
 refine I.step (g':=s.gens) (d':=s.drawn) (ch:=[it]) (λb j=>?_) (λb o _ _ a e _=>k b o (λz=>a (by simp[z])) e) (λb o _ _ a e _=>⟨o.slots,k b o (λz=>a (by simp[z])) e⟩) (λ_ _ _ _ n=>n)
  (λb o a e=>⟨o,k b o (λz=>a (by simp[z])) e⟩) (λ_ _ e=>e) (λ_ _ _ e=>e) (λb ps e=>⟨#[],by rw[e];simp⟩) (λm hm=>?_) (λb u e=>?_) I.bare
 ·have e:b=it:=by simpa using j
  subst e;exact⟨g,f,h,i⟩
 ·obtain⟨o,es,ep,l,r⟩:=hm
  exact⟨o,es,ep,k _ o (Ne.symm f) l,r⟩
 ·refine(I.hok b u e).stay (λc v a q=>k c v ?_ q) (λ_ q=>q) λ_ _ q=>q
  rcases a with z|z
  ·rw[z];exact d b u e
  ·exact d c _ z
theorem Inv.tok(I:Inv X pins σ H s)(t:Nat):Inv X pins σ H {s with toks:=t}:=I.un (h':=s.heap) (t':=t) Un.refl I.hok
theorem Inv.kept(I:Inv X pins σ H s)(k:∀b u,s.heap.get? b=on u->h'.get? b=on u):Inv X pins σ H {s with heap:=h',toks:=t'}:=I.un (Un.kept k) (I.hok.kept k)
theorem Inv.laid{a:Pk}{o:HO}{t':Nat}(I:Inv X pins σ H s)(k:∀b u,s.heap.get? b=on u->h'.get? b=on u)(c:s.heap.objs.size<=a)(new:bO X.prog X.w (upd H a o) h' a o):
  Inv X pins σ (upd H a o) {s with heap:=h',toks:=t'}:=I.un (Un.laid k c (I.hok.fresh c)) (I.hok.laid k c new)
theorem Inv.write(I:Inv X pins σ H s)(mu:Mut (H x))(c:e=x\/H e=on (.own x))(k:∀b u,b≠e->s.heap.get? b=on u->h'.get? b=on u)(a:∃u,h'.get? e=on u)
  (new:bO X.prog X.w (upd H x o) h' x o):Inv X pins σ (upd H x o) {s with heap:=h',toks:=t'}:=I.un (Un.write mu c k a) (I.hok.write mu c k a new)
theorem Inv.pins_of(I:Inv X pins σ H s)(h:∀p∈pins',s.heap.get? p.1=on p.2/\H p.1=Pb/\p.1≠X.env.locals/\p.1∉X.fs/\∀v,p.2.data≠ .cell v):Inv X pins' σ H s:=
 ⟨I.ok,I.os,I.bare,I.base,I.loc,I.cell,I.free,I.freeC,λp a=>(Rj.mp a).elim (λz=>I.pin p (Sn _ z)) (h p),I.hok,I.len⟩
theorem uR{N:List Qn}(c:N.Nodup){i j:Nat}{x:Qn}(a:N[i]?=on x)(b:N[j]?=on x):i=j:=by
 obtain⟨f,d⟩:=Px.mp a;obtain⟨g,e⟩:=Px.mp b;exact(List.getElem_inj c).mp (d.trans e.symm)
theorem lW{M:Model}{E:Pl->Pr->Prop}(I:Inv X pins σ H s)(hN:X.N.Nodup)(O:X.N[i]?=on x)(l:Loc X.env.scope x)(r:aQ v u)
  (h:∀s',Inv X pins (σ.set i (on v)) H s'->(∃a,Qg a s.heap s'.heap/\(a=X.env.locals\/X.env.cells.lookup x=on a))->Q () s') (hf:X.fn x=Pe\/X.env.scope.names.lookup x=on .local:=by first|exact .inl rfl|exact .inr rfl|assumption):PN M A (storeName X.env x u) Q E s:=by
 obtain⟨m,hn,hl⟩:=id I.loc;have P:(X.env.scope.kind== .class||(X.env.scope.kind== .module&&X.env.locals !=X.env.globals))=Pj:=by rw[I.ok.kind];rfl
 have C:i<σ.length:=by rw[I.len];exact(Px.mp O).1
 have cne:=I.cne;have f:∀{a:Pk} {h':QW},(∃o,s.heap.get? a=on o/\H a=Pb)->Qg a s.heap h'->HOk X.prog X.w H h':=λ{a h'} ha hs b ob e=>by
  obtain⟨_,_,t⟩:=ha;refine(I.hok b ob e).stay (λc Y hc q=>(hs.2 c ?_).trans q) (λ_ q=>q) λ_ _ q=>q;rintro rfl;rcases hc with rfl|hc
  ·rw[t]at e;cases e
  ·rw[t]at hc;cases hc
 rcases l with hk|hk
 ·refine wpAny_storeName_local hk hn (λh' hn' hs=>?_) P
  obtain⟨oL,_,_,hoL,_⟩:=id hn;refine h _ ⟨I.ok,I.os,I.bare,⟨λb o e n F l=>?_,λb o e n F l=>?_,I.base.free,λb o e l=>?_,I.base.tups,I.base.frzs,I.base.tbls⟩,⟨_,hn',λj y v' g B e3=>?_⟩,λy c e=>?_,I.free,I.freeC,λp hp=>?_,f ⟨oL,hoL,I.free⟩ hs,by simpa using I.len⟩ ⟨_,hs,.inl rfl⟩
  ·exact(hs.2 b (QE (P7 (Qa e) I.ok.above))).trans (I.base.keep b o e n F l)
  ·obtain⟨sl,g⟩:=I.base.slot b o e n F l
   exact⟨sl,(hs.2 b (QE (P7 (Qa e) I.ok.above))).trans g⟩
  ·obtain⟨o',g⟩:=I.base.there b o e l
   exact⟨o',(hs.2 b (QE (P7 (Qa e) I.ok.above))).trans g⟩
  ·by_cases J:j=i
   ·subst J
    rw[O]at g;cases g;rw[Xf C]at B;cases B;exact⟨u,r,.inl ⟨hk,by simp⟩⟩
   ·rw[XI (Ne.symm J)]at B
    obtain⟨u',r',q⟩:=hl j y v' g B e3;refine⟨u',r',?_⟩;rcases q with⟨k,e⟩|⟨k,c,e,z⟩
    ·refine .inl ⟨k,?_⟩
     have:y≠x:=λe=>J (uR hN g (e▸O));simp[this,e]
    ·exact .inr ⟨k,c,e,z.sameBut hs (cne y c e)⟩
  ·obtain⟨Y,z⟩:=I.cell y c e
   exact⟨Y,z.sameBut hs (cne y c e)⟩
  ·obtain⟨e,n,ne,nf,d⟩:=I.pin p hp
   exact⟨(hs.2 p.1 ne).trans e,n,ne,nf,d⟩
 ·have L:X.fn x=Pe:=by
   rcases hf with z|z
   ·exact z
   ·rw[z]at hk;cases hk
  obtain⟨c,hc⟩:=I.ok.has x (.inl hk);obtain⟨Y,z⟩:=I.cell x c hc;refine wpAny_storeName_cell I.ok.kind hk hc z (λh' R hs=>?_);obtain⟨oc,T,U⟩:=id z;refine h {s with heap:=h'} ⟨I.ok,I.os,I.bare,⟨λb o e n F l=>?_,λb o e n F l=>?_,I.base.free,λb o e l=>?_,I.base.tups,I.base.frzs,I.base.tbls⟩,⟨m,hn.sameBut hs (Ne.symm (cne x c hc)),λj y v' g B e3=>?_⟩,λy Z e=>?_,I.free,I.freeC,λp hp=>?_,f ⟨oc,T,I.freeC x c hc⟩ hs,by simpa using I.len⟩ ⟨c,hs,.inr hc⟩
  ·exact(hs.2 b (QE (P7 (Qa e) (I.ok.cab x c L hc)))).trans (I.base.keep b o e n F l)
  ·obtain⟨sl,g⟩:=I.base.slot b o e n F l
   exact⟨sl,(hs.2 b (QE (P7 (Qa e) (I.ok.cab x c L hc)))).trans g⟩
  ·obtain⟨o',g⟩:=I.base.there b o e l
   exact⟨o',(hs.2 b (QE (P7 (Qa e) (I.ok.cab x c L hc)))).trans g⟩
  ·by_cases J:j=i
   ·subst J
    rw[O]at g;cases g;rw[Xf C]at B;cases B;exact⟨u,r,.inr ⟨.inl hk,c,hc,R⟩⟩
   ·rw[XI (Ne.symm J)]at B
    obtain⟨u',r',q⟩:=hl j y v' g B e3;refine⟨u',r',?_⟩;rcases q with q|⟨k,Z,e,z'⟩
    ·exact .inl q
    ·refine .inr ⟨k,Z,e,z'.sameBut hs ?_⟩
     rintro rfl;exact J (uR hN g (I.ok.inj _ _ _ e hc▸O))
  ·by_cases W:Z=c
   ·subst W;exact⟨_,R⟩
   ·obtain⟨w2,z2⟩:=I.cell y Z e
    exact⟨w2,z2.sameBut hs W⟩
  ·obtain⟨e,n,ne,nf,d⟩:=I.pin p hp
   refine⟨(hs.2 p.1 ?_).trans e,n,ne,nf,d⟩;intro q;rw[q,T]at e;have q':oc=p.2:=Qd e;exact d Y (by rw[←q'];exact U)
theorem oK{M:Model}{E:Pl->Pr->Prop}(I:Inv X pins σ H s)(a:X.N.Nodup)(b:X.N[i]?=on x)(c:Loc X.env.scope x)(r:aQ v u)
  (h:∀s',Inv X pins (σ.set i (on v)) H s'->Q () s') (d:X.fn x=Pe\/X.env.scope.names.lookup x=on .local:=by first|exact .inl rfl|exact .inr rfl|assumption):PN M A (storeName X.env x u) Q E s:=
 lW I a b c r (λs' e _=>h s' e) d
theorem Inv.call'{s':Pr}{ch:List Pk}(I:Inv X pins σ H s)(d:s'.os=s.os)(u:Un (frs X.stack) ch H H' s.heap s'.heap)(hok:HOk X.prog X.w H' s'.heap)(f:UK s'.gens)
  (a:∀b∈ch,(b∈X.ex\/X.s₀.heap.objs.size<=b)/\b≠X.env.locals/\(∀x c,X.env.cells.lookup x=on c->c≠b)/\∀p∈X.pn++pins,p.1≠b):Inv X pins σ H' s':=by
 obtain⟨h',g',d',t',g⟩:=s';have e:g=s.os:=d;subst e;exact I.call (g':=g') (t':=t') (d':=d') u hok f a
abbrev XK:=Pl->Option Pk->Hp->Prop
abbrev St:=List (Option V)
abbrev VK:=V->Hp->Prop
abbrev TE:=St->Hp->VK->Prop
abbrev TT:=St->Hp->(Bool->Hp->Prop)->Prop
abbrev TA:=St->Hp->(List V->Hp->Prop)->Prop
structure Ends where
 nx:St->Hp->Prop
 rt:VK
 bk:St->Hp->Prop:=λ_ _=>False
 ct:St->Hp->Prop:=λ_ _=>False
abbrev TS:=Ends->St->Hp->Prop
def EP(X:Cx)(pins:List (Pk×Qb))(σ:St)(Q:VK)(u:Pl)(s':Pr):Prop:=∃v H',Inv X pins σ H' s'/\aQ v u/\Q v H'
def TP(X:Cx)(pins:List (Pk×Qb))(σ:St)(Q:Bool->Hp->Prop)(b:Bool)(s':Pr):Prop:=∃H',Inv X pins σ H' s'/\Q b H'
def AP(X:Cx)(pins:List (Pk×Qb))(σ:St)(Q:List V->Hp->Prop)(us:List Pl)(s':Pr):Prop:=∃vs H',Inv X pins σ H' s'/\ay vs us/\Q vs H'
def SP(X:Cx)(pins:List (Pk×Qb))(D:Ends)(f:Flow)(s':Pr):Prop:=
 match f with
 | .next=>∃a H',Inv X pins a H' s'/\D.nx a H'
 | .brk=>∃a H',Inv X pins a H' s'/\D.bk a H'
 | .cont=>∃a H',Inv X pins a H' s'/\D.ct a H'
 | .ret u=>∃v a H',Inv X pins a H' s'/\aQ v u/\D.rt v H'
def PE(X:Cx)(e:Expr)(t:TE):Prop:=
 ∀(pins:List (Pk×Qb)) (s:Pr) (σ:St) (H:Hp) (Q:VK),Inv X pins σ H s->t σ H Q->PN (Qc X.prog X.w) X.A (QS e X.env) (EP X pins σ Q) X.xe s
def PT(X:Cx)(e:Expr)(t:TT):Prop:=
 ∀(pins:List (Pk×Qb)) (s:Pr) (σ:St) (H:Hp) (Q:Bool->Hp->Prop),Inv X pins σ H s->t σ H Q->PN (Qc X.prog X.w) X.A (isTrue e X.env (QS e X.env)) (TP X pins σ Q) X.xe s
def PW(X:Cx)(e:Expr)(t:TT):Prop:=
 ∀(a:Sem Pl) (pins:List (Pk×Qb)) (s:Pr) (σ:St) (H:Hp) (Q:Bool->Hp->Prop),Inv X pins σ H s->t σ H Q->PN (Qc X.prog X.w) X.A (isTrue e X.env a) (TP X pins σ Q) X.xe s
theorem PW.pt{X:Cx}(h:PW X e t):PT X e t:=h _
def PA(X:Cx)(es:List Expr)(t:TA):Prop:=
 ∀(pos:Uj) (pins:List (Pk×Qb)) (s:Pr) (σ:St) (H:Hp) (Q:List V->Hp->Prop),Inv X pins σ H s->t σ H Q->PN (Qc X.prog X.w) X.A (spliced (R4 pos (PH es X.env))) (AP X pins σ Q) X.xe s
def PS(X:Cx)(st:QU)(t:TS):Prop:=
 ∀(pins:List (Pk×Qb)) (s:Pr) (σ:St) (H:Hp) (D:Ends),Inv X pins σ H s->t D σ H->PN (Qc X.prog X.w) X.A (exec st X.env) (SP X pins D) X.xe s
def PSs(X:Cx)(st:List QU)(t:TS):Prop:=
 ∀(pins:List (Pk×Qb)) (s:Pr) (σ:St) (H:Hp) (D:Ends),Inv X pins σ H s->t D σ H->PN (Qc X.prog X.w) X.A (execs st X.env) (SP X pins D) X.xe s
theorem thn{α:Type}{t:Sem α}{Q b:α->Pr->Prop}{M:Model}{A:QP}{E:Pl->Pr->Prop}{s:Pr}(h:PN M A t Q E s)(c:∀a s,Q a s->b a s):PN M A t b E s:=QG h c λ_ _ x=>x
def oG(i:Nat):TE:=λσ H Q=>∃v,σ[i]?=on (on v)/\Q v H
def tC(v:V):TE:=λ_ H Q=>Q v H
theorem LU(g:X.N[i]?=on x)(j:Vis X.env.scope x)(hd:(x==("__debug__":Qn))=Pj:=by decide)(d:(x==("__classdict__":Qn))=Pj:=by decide):PE X (.Name x pos) (oG i):=by
 intro pins s σ H Q I h;obtain⟨v,e,h⟩:=h;obtain⟨m,hn,k⟩:=I.loc;obtain⟨u,r,l⟩:=k i x v g e j;have b:EP X pins σ Q u s:=⟨v,H,I,r,h⟩;rcases l with⟨hk,hm⟩|⟨hk,c,f,a⟩
 ·exact wpAny_Name (wpAny_loadName_local I.ok.kind hk hn hm b) hd
 ·rcases hk with hk|hk
  ·exact wpAny_Name (wpAny_loadName_cell I.ok.kind hk f a b) hd
  ·exact wpAny_Name (wpAny_loadName_free I.ok.kind hk f a b d) hd
theorem bS{i j pos}:PE X (.Constant (.int i) j pos) (tC (.int i)):=λ_ _ _ H _ I h=>wpAny_Constant_int ⟨.int i,H,I.tok _,⟨_,rfl⟩,h⟩
theorem Ot{b j pos}:PE X (.Constant (.bool b) j pos) (tC (.bl b)):=λ_ _ _ H _ I h=>Constant_bool ⟨.bl b,H,I,rfl,h⟩
theorem LY{j pos}:PE X (.Constant .none j pos) (tC .non):=λ_ _ _ H _ I h=>Constant_none ⟨.non,H,I,rfl,h⟩
def Gl(X:Cx)(x:Qn):Prop:=X.env.kindOf x=on .globalImplicit
theorem re{E:Pl->Pr->Prop}{pins:List (Pk×Qb)}{s:Pr}{σ:St}{H:Hp}(I:Inv X pins σ H s)(a:Gl X x)(hm:X.mg x=on u)(h:Q u s)
  (hd:(x==("__debug__":Qn))=Pj:=by decide):PN (Qc X.prog X.w) X.A (QS (.Name x pos) X.env) Q E s:=
 Wq I.ok.kind a (Calls.loadGlobal_global (by rw[I.ok.glob];exact I.mod.glob.keeps I.bk) hm h) hd
theorem gj{E:Pl->Pr->Prop}{pins:List (Pk×Qb)}{s:Pr}{σ:St}{H:Hp}(I:Inv X pins σ H s)(a:Gl X x)(hm:X.mg x=Pb)(b:Tx x=on u)(h:Q u s)
  (hn:x≠"__name__":=by decide) (hd:(x==("__debug__":Qn))=Pj:=by decide):PN (Qc X.prog X.w) X.A (QS (.Name x pos) X.env) Q E s:=by
 obtain⟨e,c,d⟩:=I.mod.blt;exact Wq I.ok.kind a (Calls.loadGlobal_builtin (by rw[I.ok.glob];exact I.mod.glob.keeps I.bk) hm (by rw[I.ok.blt];exact c.keeps I.bk) ((d x hn).trans b) h) hd
theorem Ke(a:Gl X x)(hm:X.mg x=on u)(r:aQ v u)(hd:(x==("__debug__":Qn))=Pj:=by decide):PE X (.Name x pos) (tC v):=
 λ_ _ _ H _ I h=>re I a hm ⟨v,H,I,r,h⟩ hd
theorem dB(a:Gl X x)(hm:X.mg x=Pb)(b:Tx x=on u)(r:aQ v u)(hn:x≠"__name__":=by decide)(hd:(x==("__debug__":Qn))=Pj:=by decide):PE X (.Name x pos) (tC v):=
 λ_ _ _ H _ I h=>gj I a hm b ⟨v,H,I,r,h⟩ hn hd
variable{a b:Expr}{ta tb:TE}{pos:Uj}
variable{tA tB':TT}{rest:List Expr}
def tOr(t u:TT):TT:=λσ H Q=>t σ H λc d=>if c=Pe then Q Pe d else u σ d Q
def tNot(t:TT):TT:=λσ H Q=>t σ H λc d=>Q (!c) d
theorem LM(ha:PT X a tA):PW X (.BoolOp .Or [a] pos) tA:=by
 intro d pins s σ H Q I h;refine isTrue_or (thn (ha pins s σ H Q I h) λc f e=>?_);cases c with
 |false=>exact isTrue_or_nil e
 |true=>exact e
theorem Oq(ha:PT X a tA)(f:PW X (.BoolOp .Or (b::rest) pos) tB'):PW X (.BoolOp .Or (a::b::rest) pos) (tOr tA tB'):=by
 intro g pins s σ H Q I h;refine isTrue_or (thn (ha pins s σ H _ I h) λc i ⟨d,e,q1⟩=>?_);cases c with
 |true=>exact⟨d,e,q1⟩
 |false=>exact f g pins i σ d Q e q1
theorem LO(ha:PT X a tA):PT X (.UnaryOp .Not a pos) (tNot tA):=by
 intro pins s σ H Q I h;exact isTrue_not (ha pins s σ H (λc d=>Q (!c) d) I h)
def Oj(ta tb:TE):TE:=λσ H Q=>ta σ H λx d=>∃c,x= .bl c/\if c=Pe then tb σ d Q else Q (.bl Pj) d
theorem LX{op}(h:PE X a t):PE X (.BoolOp op [a] pos) t:=λpins s σ H Q I c=>BoolOp_one (h pins s σ H Q I c)
theorem L5(ha:PE X a ta)(f:PE X (.BoolOp .And (b::rest) pos) tb):PE X (.BoolOp .And (a::b::rest) pos) (Oj ta tb):=by
 intro pins s σ H Q I h;refine BoolOp_and (thn (ha pins s σ H _ I h) λv g ⟨x,d,e,r1,q1⟩=>?_);obtain⟨c,rfl,q1⟩:=q1;cases r1;refine QT ?_;cases c with
 |true=>exact f pins g σ d Q e q1
 |false=>exact⟨.bl Pj,d,e,rfl,q1⟩
def tIf(t:TT)(ta tb:TE):TE:=λσ H Q=>t σ H λc d=>if c=Pe then ta σ d Q else tb σ d Q
theorem CW(i:PT X c tA)(ha:PE X a ta)(j:PE X b tb):PE X (.IfExp c a b pos) (tIf tA ta tb):=by
 intro pins s σ H Q I h;refine wpAny_IfExp (thn (i pins s σ H _ I h) λd e ⟨f,g,q1⟩=>?_);cases d with
 |true=>exact ha pins e σ f Q g q1
 |false=>exact j pins e σ f Q g q1
def SqL(K:PZ)(H:Hp)(a:Pk)(xs:List V):Prop:=
 Rd H a (.lst xs)\/
  ∃(o:Qb) (its:Array Pl) (n:Nat),K.lookup a=on o/\o.cls= .type "list"/\o.dict=Pb/\o.data= .seq its n/\its.size<=PQ/\ay xs its.toList
def SqT(K:PZ)(H:Hp)(a:Pk)(xs:List V):Prop:=
 Rd H a (.tup xs)\/
  ∃(o:Qb) (its:Array Pl) (n:Nat),K.lookup a=on o/\o.cls= .type "tuple"/\o.data= .seq its n/\its.size<=PQ/\ay xs its.toList
noncomputable def absV:Pl->Option V
 | .none=>on .non
 | .bool b=>on (.bl b)
 | .int i _=>on (.int i)
 | .str x _=>on (.str x)
 | .ref a=>on (.ref a)
 | .type n=>on (.ty n)
 |_=>Pb
theorem aQ.abs(r:aQ x u):absV u=on x:=by
 cases x with
 |non=>cases r;rfl
 |bl _=>cases r;rfl
 |int _=>obtain⟨t,rfl⟩:=r;rfl
 |str _=>obtain⟨t,rfl⟩:=r;rfl
 |ref _=>cases r;rfl
 |ty _=>cases r;rfl
theorem aQ.inj(r:aQ x u)(q:aQ y u):x=y:=Qd (r.abs.symm.trans q.abs)
theorem ay.inj:∀{xs ys:List V} {us:List Pl},ay xs us->ay ys us->xs=ys
 |_,_,_,.nil,.nil=>rfl
 |_,_,_,.cons r t,.cons r' t'=>by rw[r.inj r',ay.inj t t']
end
section
variable{X:Cx}{pins:List (Pk×Qb)}{σ:St}{H:Hp}{s:Pr}{a:Pk}{xs ys:List V}
theorem SqL.of{K:PZ}(h:H a=on (.lst xs)):SqL K H a xs:= .inl (.inl h)
theorem Inv.list(I:Inv X pins σ H s)(h:SqL X.K H a xs):∃its:List Pl,ay xs its/\PlainL s.heap a its.toArray/\xs.length<=PQ:=by
 rcases h with h|⟨o,its,n,b,c,hd,hs,d,r⟩
 ·obtain⟨z,its,n,r,e⟩:=h.ok I.hok
  exact⟨its,r,⟨_,n,e,rfl,rfl,rfl⟩,z⟩
 ·refine⟨its.toList,r,⟨o,n,I.kIn a o b,c,hd,by simpa using hs⟩,?_⟩
  have e:=r.length;simp only[Ql]at e;omega
theorem Inv.tuple(I:Inv X pins σ H s)(h:SqT X.K H a xs):∃its:List Pl,ay xs its/\IsTup s.heap a its.toArray/\xs.length<=PQ:=by
 rcases h with h|⟨o,its,n,b,c,hs,d,r⟩
 ·obtain⟨z,its,r,p⟩:=h.ok I.hok
  exact⟨its,r,p,z⟩
 ·refine⟨its.toList,r,⟨o,I.kIn a o b,c,n,by simpa using hs⟩,?_⟩
  have e:=r.length;simp only[Ql]at e;omega
theorem Inv.list_inj(I:Inv X pins σ H s)(h:SqL X.K H a xs)(h':SqL X.K H a ys):xs=ys:=by
 obtain⟨its,r,⟨o,n,e,_,_,d⟩,_⟩:=I.list h;obtain⟨its',c,⟨f,g,b,_,_,d'⟩,_⟩:=I.list h';rw[e]at b;cases b;rw[d]at d'
 injection d' with d1 _
 have:its=its':=by simpa using QN Array.toList d1
 subst this;exact r.inj c
theorem Inv.tuple_inj(I:Inv X pins σ H s)(h:SqT X.K H a xs)(h':SqT X.K H a ys):xs=ys:=by
 obtain⟨its,r,⟨o,e,_,n,d⟩,_⟩:=I.tuple h;obtain⟨its',c,⟨f,b,_,g,d'⟩,_⟩:=I.tuple h';rw[e]at b;cases b;rw[d]at d'
 injection d' with d1 _
 have:its=its':=by simpa using QN Array.toList d1
 subst this;exact r.inj c
noncomputable abbrev Cx.wish(X:Cx)(E:Pl->Pr->Prop):Cx:={X with xe:=E}
noncomputable abbrev Cx.nox(X:Cx):Cx:=X.wish λ_ _=>False
theorem Cx.Ok.wish{X:Cx}(ok:X.Ok)(E:Pl->Pr->Prop):(X.wish E).Ok:=
 ⟨ok.mod,ok.kind,ok.glob,ok.blt,ok.above,ok.inj,ok.has,ok.cab,ok.hd,ok.frames,ok.stk,ok.exf,ok.bs,ok.bsz,ok.noex,ok.exfs,ok.funs,ok.frf⟩
theorem Cx.Ok.unwish{X:Cx}{E:Pl->Pr->Prop}(ok:(X.wish E).Ok):X.Ok:=
 ⟨ok.mod,ok.kind,ok.glob,ok.blt,ok.above,ok.inj,ok.has,ok.cab,ok.hd,ok.frames,ok.stk,ok.exf,ok.bs,ok.bsz,ok.noex,ok.exfs,ok.funs,ok.frf⟩
variable{E:Pl->Pr->Prop}
theorem Inv.wish(I:Inv X pins σ H s)(E:Pl->Pr->Prop):Inv (X.wish E) pins σ H s:=⟨I.ok.wish E,I.os,I.bare,I.base,I.loc,I.cell,I.free,I.freeC,I.pin,I.hok,I.len⟩
theorem Inv.unwish(I:Inv (X.wish E) pins σ H s):Inv X pins σ H s:=⟨I.ok.unwish,I.os,I.bare,I.base,I.loc,I.cell,I.free,I.freeC,I.pin,I.hok,I.len⟩
theorem SP.unwish{D:Ends}(h:SP (X.wish E) pins D f s'):SP X pins D f s':=by
 cases f with
 |next=>obtain⟨b,c,I,q⟩:=h;exact⟨b,c,I.unwish,q⟩
 |brk=>obtain⟨b,c,I,q⟩:=h;exact⟨b,c,I.unwish,q⟩
 |cont=>obtain⟨b,c,I,q⟩:=h;exact⟨b,c,I.unwish,q⟩
 |ret u=>obtain⟨v,b,c,I,r,q⟩:=h;exact⟨v,b,c,I.unwish,r,q⟩
theorem PSs.nox{st:List QU}(h:PSs X.nox st t):PSs X st t:=λpins s σ H D I b=>
 QG (h pins s σ H D (I.wish _) b) (λ_ _ q=>q.unwish) λ_ _ z=>Sa z
variable{st:QU}{rest:List QU}{t u:TS}{e:Expr}{te:TE}{pos:Uj}
noncomputable def Oh:TS:=λD σ H=>D.nx σ H
def tSeq(t u:TS):TS:=λD σ H=>t {D with nx:=u D} σ H
theorem qZ:PSs X [] Oh:=λ_ _ σ H _ I h=>VE ⟨σ,H,I,h⟩
theorem da(c:PS X st t)(d:PSs X rest u):PSs X (st::rest) (tSeq t u):=by
 intro pins s σ H D I h;refine wpAny_execs_cons (thn (c pins s σ H {D with nx:=u D} I h) λf g q=>?_);cases f with
 |next=>
  obtain⟨b,i,j,q⟩:=q;exact d pins g b i D j q
 |ret v=>exact q
 |brk=>exact q
 |cont=>exact q
theorem m8(b:PS X st t):PSs X [st] t:=by
 intro pins s σ H D I h;refine wpAny_execs_cons (thn (b pins s σ H D I h) λf c q=>?_);cases f with
 |next=>exact VE q
 |ret v=>exact q
 |brk=>exact q
 |cont=>exact q
theorem Inv.quiet{pins:List (Pk×Qb)}{σ:St}{H:Hp}{s:Pr}(I:Inv X pins σ H s):interactive X.env=Pj:=by simp[interactive,I.ok.kind]
def tE(te:TE):TS:=λD σ H=>te σ H λ_ b=>D.nx σ b
theorem cM(b:PE X e te)(hs:Uo e Pb pos.line X.env=RZ Pj:=by rfl):PS X (.Expr e pos) (tE te):=by
 intro pins s σ H D I h;exact wpAny_Expr_any (thn (b pins s σ H _ I h) λv f ⟨x,c,d,r1,q1⟩=>⟨σ,c,d,q1⟩) I.quiet hs
def BV(te:TE):TS:=λD σ H=>te σ H D.rt
theorem az(b:PE X e te):PS X (.Return (on e) pos) (BV te):=by
 intro pins s σ H D I h;exact wpAny_Return_some (thn (b pins s σ H _ I h) λv f ⟨x,c,d,r1,q1⟩=>⟨x,σ,c,d,r1,q1⟩)
def tIfS(c:TT)(t u:TS):TS:=λD σ H=>c σ H λb d=>if b=Pe then t D σ d else u D σ d
theorem HY{a b:List QU}(j:PT X c tc)(ha:PSs X a t)(k:PSs X b u):PS X (.If c a b pos) (tIfS tc t u):=by
 intro pins s σ H D I h;refine wpAny_If (thn (j pins s σ H _ I h) λd f ⟨g,i,q1⟩=>?_);cases d with
 |true=>exact ha pins f σ g D i q1
 |false=>exact k pins f σ g D i q1
abbrev TG:=V->St->Hp->(St->Hp->Prop)->Prop
abbrev TGs:=List V->St->Hp->(St->Hp->Prop)->Prop
def PG(X:Cx)(b:Expr)(t:TG):Prop:=
 ∀(pins:List (Pk×Qb)) (s:Pr) (σ:St) (H:Hp) (v:V) (u:Pl) (Q:St->Hp->Prop),Inv X pins σ H s->aQ v u->t v σ H Q->
  PN (Qc X.prog X.w) X.A (UH b X.env u) (λ_ s'=>∃c d,Inv X pins c d s'/\Q c d) X.xe s
def PGs(X:Cx)(d:List Expr)(t:TGs):Prop:=
 ∀(pins:List (Pk×Qb)) (s:Pr) (σ:St) (H:Hp) (vs:List V) (us:List Pl) (Q:St->Hp->Prop),Inv X pins σ H s->ay vs us->t vs σ H Q->
  PN (Qc X.prog X.w) X.A (assignInOrder ((Vw d X.env).map (·.2)) us) (λ_ s'=>∃b c,Inv X pins b c s'/\Q b c) X.xe s
abbrev HC:=V->V->V->Hp->(Hp->Prop)->Prop
def N3(X:Cx)(t:HC):Prop:=
 ∀(pins:List (Pk×Qb)) (s:Pr) (σ:St) (H:Hp) (o i v:V) (b c u:Pl) (Q:Hp->Prop),Inv X pins σ H s->aQ o b->aQ i c->aQ v u->t o i v H Q->
  PN (Qc X.prog X.w) X.A (setItem b c u) (λ_ s'=>∃d,Inv X pins σ d s'/\Q d) X.xe s
abbrev TIp:=V->V->Hp->VK->Prop
def PIp(X:Cx)(op:Operator)(t:TIp):Prop:=
 ∀(pins:List (Pk×Qb)) (s:Pr) (σ:St) (H:Hp) (x y:V) (v u:Pl) (Q:VK),Inv X pins σ H s->aQ x v->aQ y u->t x y H Q->
  PN (Qc X.prog X.w) X.A (inplaceOp op v u) (EP X pins σ Q) X.xe s
def fY(i:Nat):TG:=λv σ H Q=>Q (σ.set i (on v)) H
theorem ww(b:X.N.Nodup)(c:X.N[i]?=on x)(d:Loc X.env.scope x)(f:X.fn x=Pe\/X.env.scope.names.lookup x=on .local:=by first|exact .inl rfl|exact .inr rfl|assumption):PG X (.Name x pos) (fY i):=by
 intro pins s σ H v u Q I r h;exact WB (oK I b c d r (λs' g=>⟨_,H,g,h⟩) f)
noncomputable def gNil:TGs:=λvs σ H Q=>vs=[]/\Q σ H
def yb(t:TG)(u:TGs):TGs:=λvs σ H Q=>∃v r,vs=v::r/\t v σ H λb c=>u r b c Q
theorem bo:PGs X [] gNil:=by
 intro pins s σ H vs us Q I r h;obtain⟨e,h⟩:=h;subst e;cases r;exact assignInOrder_nil ⟨σ,H,I,h⟩
theorem aw{e:Expr}{t:TG}{u:TGs}(c:PG X e t)(d:PGs X es u)
  (hs:(Vw (e::es) X.env).map (·.2)=UH e X.env::(Vw es X.env).map (·.2):=by rfl):PGs X (e::es) (yb t u):=by
 intro pins s σ H vs us Q I r h;obtain⟨v,l,f,h⟩:=h;subst f;cases r with
 |cons r g=>
  rw[hs];refine assignInOrder_cons (thn (c pins s σ H _ _ _ I r h) λ_ i ⟨b,j,k,q1⟩=>?_);exact d pins i b j _ _ Q k g q1
def EG(K:PZ)(n:Nat)(t:TGs):TG:=λv σ H Q=>∃a xs,v= .ref a/\SqT K H a xs/\xs.length=n/\t xs σ H Q
theorem bu{t:TGs}(g:X.calm=Pe)(h:PGs X es t)
  (hn:(Vw es X.env).length=n:=by rfl) (c:(Vw es X.env).findIdx? (·.1)=Pb:=by rfl):PG X (.Tuple es k pos) (EG X.K n t):=by
 intro pins s σ H v u Q I r d;obtain⟨a,xs,i,j,l,d⟩:=d;subst i;cases r;obtain⟨its,f,m,w⟩:=I.tuple j;refine assign_Tuple_tuple (I.ok.hd g) m (by simp[hn,←l,f.length]) c λh' p=>?_;have q:Inv X pins σ H {s with heap:=h'}:=I.kept (t':=s.toks) λb o e=>p b o (QE (Qa e)) e;exact h pins _ σ H xs _ Q q (by simpa using f) d
def MI(to b:TE)(t:HC):TG:=λv σ H Q=>to σ H λo c=>b σ c λi d=>t o i v d λf=>Q σ f
theorem iX{t:HC}(d:PE X o to)(f:PE X i ti)(hs:N3 X t)
  (ha:∀v,UH (.Subscript o i pos) X.env v=(do
   let b ←T9 [v] (QS o X.env)
   let c ←T9 [v,b] (QS i X.env)
   Tz pos
   T9 [v,b,c] (setItem b c v)
   release [v,b,c] []):=by intro _;rfl):PG X (.Subscript o i pos) (MI to ti t):=by
 intro pins s σ H v u Q I r h;rw[ha];refine My (Re (thn (d pins s σ H _ I h) λb g ⟨x,j,k,r1,q1⟩=>?_));refine My (Re (thn (f pins g σ j _ k q1) λc l ⟨y,m,n,p,q2⟩=>?_));refine My (Sf (My (Re (thn (hs pins l σ m x y v b c u _ n r1 p r q2) λ_ A ⟨q,w,q3⟩=>?_))));exact wpAny_release ⟨σ,q,w,q3⟩
def jP(te:TE)(g:TG):TS:=λD σ H=>te σ H λx b=>g x σ b D.nx
theorem eA{tg e:Expr}{te:TE}(b:PE X e te)(c:PG X tg g)(hs:swapsWithSole [tg] e pos.line X.env=RZ Pj:=by rfl)(d:swappedStores [tg] e X.env=RZ Pb:=by rfl)
  (f:(Vw [tg] X.env).map (·.2)=[UH tg X.env]:=by rfl):PS X (.Assign [tg] e pos) (jP te g):=by
 intro pins s σ H D I h;refine wpAny_Assign_stores (thn (b pins s σ H _ I h) λv i ⟨x,j,k,r1,q1⟩=>?_) hs d;rw[f];exact thn (c pins i σ j x v _ k r1 q1) λ_ l q=>q
theorem pW{e:Expr}{te:TE}(b:X.N.Nodup)(c:X.N[i]?=on x)(d:Loc X.env.scope x)(f:PE X e te)(hs:Uo e (on (.Name x pos')) pos.line X.env=RZ Pj:=by rfl)(g:X.fn x=Pe\/X.env.scope.names.lookup x=on .local:=by first|exact .inl rfl|exact .inr rfl|assumption):
  PS X (.Assign [.Name x pos'] e pos) (jP te (fY i)):=by
 intro pins s σ H D I h;refine wpAny_Assign_Name (thn (f pins s σ H _ I h) λv m ⟨y,j,k,r1,q1⟩=>?_) hs;exact oK k b c d r1 (λn l=>⟨_,j,l,q1⟩) g
def Lm(i:Nat)(te:TE)(b:TIp):TS:=λD σ H=>∃x,σ[i]?=on (on x)/\te σ H λy c=>b x y c λz d=>D.nx (σ.set i (on z)) d
theorem fR{e:Expr}{te:TE}(o:X.N.Nodup)(n:X.N[i]?=on x)(g:Loc X.env.scope x)(p:PE X e te)(q:PIp X op ti)(B:X.fn x=Pe\/X.env.scope.names.lookup x=on .local:=by first|exact .inl rfl|exact .inr rfl|assumption):
  PS X (.AugAssign (.Name x pos') op e pos) (Lm i te ti):=by
 intro pins s σ H D I h;obtain⟨v,C,h⟩:=h;obtain⟨m,hn,F⟩:=I.loc;have j:Vis X.env.scope x:=by rcases g with k|k;exact .inl k;exact .inr (.inl k)
 obtain⟨u,r,l⟩:=F i x v n C j;refine wpAny_AugAssign_Name ?_;have go:PN (Qc X.prog X.w) X.A (QS e X.env) (λw d=>PN (Qc X.prog X.w) X.A (inplaceOp op u w) (λr f=>PN (Qc X.prog X.w) X.A (storeName X.env x r) (λ_=>SP X pins D .next) X.xe f) X.xe d) X.xe s:=by
  refine thn (p pins s σ H _ I h) λw J ⟨y,L,O,r1,q1⟩=>?_;refine thn (q pins J σ L v y u w _ O r r1 q1) λz W ⟨Y,P,Q,R,q2⟩=>?_;exact oK Q o n g R (λZ T=>⟨_,P,T,q2⟩) B
 rcases l with⟨hk,hm⟩|⟨hk,c,U,b⟩
 ·exact wpAny_loadName_local I.ok.kind hk hn hm go
 ·rcases hk with hk|hk
  ·exact wpAny_loadName_cell I.ok.kind hk U b go
  ·rcases g with k|k
   ·have:X.env.scope.names.lookup x=on .free:=hk
    rw[k]at this;cases this
   ·have:X.env.scope.names.lookup x=on .free:=hk
    rw[k]at this;cases this
def ipI(f:Int->Int->Int):TIp:=λx y H Q=>∃i j,x= .int i/\y= .int j/\Q (.int (f i j)) H
theorem kA:PIp X .Add (ipI λi j=>i+j):=by
 intro pins s σ H x y v u Q I r1 b h;obtain⟨i,j,c,d,q⟩:=h;subst c;subst d;obtain⟨t,rfl⟩:=r1;obtain⟨t',rfl⟩:=b;exact iadd_int ⟨.int _,H,I.tok _,⟨_,rfl⟩,q⟩
theorem MC:PIp X .Sub (ipI λi j=>i-j):=by
 intro pins s σ H x y v u Q I r1 b h;obtain⟨i,j,c,d,q⟩:=h;subst c;subst d;obtain⟨t,rfl⟩:=r1;obtain⟨t',rfl⟩:=b;exact isub_int ⟨.int _,H,I.tok _,⟨_,rfl⟩,q⟩
def Lf(c:TT)(i:TS):TS:=λD σ H=>∃W:Nat->St->Hp->Prop,(∃m,W m σ H)/\∀m σ H,W m σ H->
 c σ H λb f=>if b=Pe then ∃N:St->Hp->Prop,(∀d g,N d g->∃h,h<m/\W h d g)/\i {D with nx:=N,ct:=N,bk:=D.nx} σ f else D.nx σ f
theorem CO(q:Yo (Qc X.prog X.w) X.A X.env X.xe)(J:PT X c tc)(L:PSs X body tb):PS X (.While c body [] pos) (Lf tc tb):=by
 intro pins s σ H D I h;obtain⟨W,⟨O,P⟩,i⟩:=h;refine wpAny_While (codeAny_whileLoop (λn s'=>∃j r,Inv X pins j r s'/\W n j r) ?_ O ⟨σ,H,I,P⟩);rintro n Q ⟨g,y,R,T⟩;refine SZ q (thn (J pins Q g y _ R (i n g y T)) λb U ⟨B,C,q2⟩=>?_);cases b with
 |true=>
  obtain⟨N,F,q2⟩:=q2;rw[Ps rfl];refine SZ q (thn (L pins U g B _ C q2) λf Y q3=>?_);cases f with
  |next=>
   obtain⟨d,k,l,m⟩:=q3;obtain⟨o,hm,p⟩:=F d k m;exact⟨o,hm,d,k,l,p⟩
  |cont=>
   obtain⟨d,k,l,m⟩:=q3;obtain⟨o,hm,p⟩:=F d k m;exact⟨o,hm,d,k,l,p⟩
  |brk=>exact q3
  |ret v=>exact q3
 |false=>
  rw[Po Pw];exact VE ⟨g,B,C,q2⟩
structure It where
 go:Nat->Hp->Prop
 yld:Nat->Hp->V->Hp->Prop
 stop:Nat->Hp->Prop
def fK(X:Cx)(pins:List (Pk×Qb))(H:Hp)(b:Pk):Prop:=
 H b=Pb/\b≠X.env.locals/\b∉X.fs/\(b∈X.ex\/X.s₀.heap.objs.size<=b)/\(∀x c,X.env.cells.lookup x=on c->c≠b)/\∀p∈X.pn++pins,p.1≠b
theorem Inv.fpOk{X:Cx}{pins:List (Pk×Qb)}{σ:St}{H f:Hp}{s:Pr}{b:Pk}(I:Inv X pins σ H s)(d:s.heap.objs.size<=b)(hn:f b=Pb):fK X pins f b:=by
 refine⟨hn,SL (P7 I.lt d),I.nofs d,.inr (P3 I.sz d),λx c e z=>?_,λp g z=>?_⟩
 ·obtain⟨v,q⟩:=I.cell x c e
  exact P6 (P7 q.lt (by rw[z];exact d)) (QD _)
 ·exact P6 (P7 (Qa (I.pin p g).1) (by rw[z];exact d)) (QD _)
structure Turn (P:Qf) (w:Qq) (K:PZ) (tg:Expr) (J:It) (fp:List Pk) (it:Pk) (tn:Nat->QW->Prop):Prop where
 mem:it∈fp
 obj:∀i h,tn i h->∀b∈fp,∃o,h.get? b=on o/\∀v,o.data≠ .cell v
 keep:∀i h h',tn i h->(∀b∈fp,∀o,h.get? b=on o->h'.get? b=on o)->tn i h'
 item:∀(X:Cx),X.prog=P->X.w=w->X.K=K->X.calm=Pe->∀(i:Nat) (pins:List (Pk×Qb)) (s:Pr) (σ:St) (H:Hp) (E:Pl->Pr->Prop),Inv X pins σ H s->(∀b∈fp,fK X pins H b)->tn i s.heap->J.go i H->
  PN (Qc P w) X.A (Ua (.ref it)) (λr s1=>∃u,r=on u/\
   PN (Qc P w) X.A (UI tg (.ref it) u) (λ_ s2=>∃x H',Inv X pins σ H' s2/\aQ x u/\J.yld i H x H'/\tn (i+1) s2.heap/\∀b∈fp,H' b=Pb) E s1) E s
 done:∀(X:Cx),X.prog=P->X.w=w->X.K=K->X.calm=Pe->∀(i:Nat) (pins:List (Pk×Qb)) (s:Pr) (σ:St) (H:Hp) (E:Pl->Pr->Prop),Inv X pins σ H s->(∀b∈fp,fK X pins H b)->tn i s.heap->J.stop i H->
  PN (Qc P w) X.A (Ua (.ref it)) (λr s1=>r=Pb/\Inv X pins σ H s1) E s
 self:∀(A:QP) (i:Nat) (s:Pr) (Q:Pl->Pr->Prop) (E:Pl->Pr->Prop),tn i s.heap->Q (.ref it) s->PN (Qc P w) A (VR (.ref it)) Q E s
abbrev TI:=St->Hp->(It->Hp->Prop)->Prop
def PIE(X:Cx)(pins:List (Pk×Qb))(σ:St)(tg:Expr)(R:It->Hp->Prop)(c:Pl)(f:Pr):Prop:=
 ∃(it:Pk) (g:List Pk) (h:Nat->QW->Prop) (J:It) (d:Hp),c= .ref it/\Inv X pins σ d f/\Turn X.prog X.w X.K tg J g it h/\h 0 f.heap/\(∀b∈g,fK X pins d b)/\R J d
def PI(X:Cx)(tg b:Expr)(c:TI):Prop:=
 ∀(pins:List (Pk×Qb)) (s:Pr) (σ:St) (H:Hp) (R:It->Hp->Prop),Inv X pins σ H s->c σ H R->
  PN (Qc X.prog X.w) X.A (QS b X.env) (λv d=>PN (Qc X.prog X.w) X.A (VR v) (PIE X pins σ tg R) X.xe d) X.xe s
theorem t0{M:Model}{E:Pl->Pr->Prop}{s:Pr}{u:Pl}{o:Qb}(c:s.heap.get? it=on o)(d:o.cls= .type n)(hd:o.data= .fields vs)
  (hn:["enumerate","zip","dict_itemiterator","dict_reverseitemiterator","odict_iterator","itertools.zip_longest","itertools.pairwise"].contains n=Pj) (b:Q () s):PN M A (UI tg (.ref it) u) Q E s:=by
 unfold UI;cases tg<;>first
  |exact Pc b
  |(cases u<;>first
   |exact Pc b
   |(refine My (wpAny_load c ?_)
     rw[d,hd];show PN M A (if(["enumerate","zip","dict_itemiterator","dict_reverseitemiterator","odict_iterator","itertools.zip_longest","itertools.pairwise"].contains n&&vs[0]?==on (Ub _))=Pe then _ else _) Q E s;rw[Po (by intro h;rw[hn,TR]at h;cases h)];exact Pc b))
noncomputable def Itl(K:PZ)(a:Pk):It:=
 ⟨λi H=>∃xs x,SqL K H a xs/\xs[i]?=on x,λi H x b=>b=H/\∀xs,SqL K H a xs->xs[i]?=on x,λi H=>∃xs,SqL K H a xs/\xs.length<=i⟩
noncomputable def Itt(K:PZ)(a:Pk):It:=
 ⟨λi H=>∃xs x,SqT K H a xs/\xs[i]?=on x,λi H x b=>b=H/\∀xs,SqT K H a xs->xs[i]?=on x,λi H=>∃xs,SqT K H a xs/\xs.length<=i⟩
noncomputable def Itr(lo:Int)(n:Nat):It:=⟨λi _=>i<n,λi H x b=>b=H/\x= .int (lo+i),λi _=>n<=i⟩
theorem rY{K:PZ}(a it:Pk):Turn P w K tg (Itl K a) [it] it (λi h=>h.IsListIter it a i) where
 mem:=by simp
 obj:=λi h st b f=>by
  have e:b=it:=by simpa using f
  subst e;obtain⟨o,e,c,d⟩:=st;exact⟨o,e,λv z=>by rw[d]at z;cases z⟩
 keep:=λi h h' st k=>st.at λo e=>k it (by simp) o e
 item:=by
  intro X m n q L i pins s σ H E I j st r;subst m n q;obtain⟨xs,x,l,y⟩:=r;obtain⟨its,A,p,N⟩:=I.list l;obtain⟨u,O,Q⟩:=A.get y;obtain⟨B,f1,f2,C,F,J⟩:=j it (by simp);refine wpAny_pyNext_list_item st p.isList (x:=u) (by simpa using O) λh' g R=>?_;have T:Inv X pins σ H {s with heap:=h'}:=I.turned (t':=s.toks) (λb o f e=>(R.2 b f).trans e) B f1 C F J;obtain⟨o,e,c,d⟩:=id g;exact⟨u,rfl,t0 (s:={s with heap:=h'}) e c d (by decide) ⟨x,H,T,Q,⟨rfl,λys U=>by rw[I.list_inj U l];exact y⟩,g,λb f=>(j b f).1⟩⟩
 done:=by
  intro X m n q L i pins s σ H E I j st r;subst m n q;obtain⟨xs,l,y⟩:=r;obtain⟨its,A,p,N⟩:=I.list l;obtain⟨B,f1,f2,C,F,J⟩:=j it (by simp);have Y:=A.length;exact wpAny_pyNext_list_end (I.ok.hd L) st p.isList (by simp;omega) λh' W=>⟨rfl,I.turned (t':=s.toks) (λb o f e=>W b o f e) B f1 C F J⟩
 self:=λ_ _ _ _ _ st h=>wpAny_pyIter_listiter st h
theorem xq{K:PZ}(a it:Pk):Turn P w K tg (Itt K a) [it] it (λi h=>h.IsTupleIter it a i) where
 mem:=by simp
 obj:=λi h st b f=>by
  have e:b=it:=by simpa using f
  subst e;obtain⟨o,e,c,d⟩:=st;exact⟨o,e,λv z=>by rw[d]at z;cases z⟩
 keep:=λi h h' st k=>st.at λo e=>k it (by simp) o e
 item:=by
  intro X m n q L i pins s σ H E I j st r;subst m n q;obtain⟨xs,x,l,y⟩:=r;obtain⟨its,A,p,N⟩:=I.tuple l;obtain⟨u,O,Q⟩:=A.get y;obtain⟨B,f1,f2,C,F,J⟩:=j it (by simp);refine wpAny_pyNext_tuple_item st (show s.heap.IsTuple a its.toArray from p) (x:=u) (by simpa using O) λh' g R=>?_;have T:Inv X pins σ H {s with heap:=h'}:=I.turned (t':=s.toks) (λb o f e=>(R.2 b f).trans e) B f1 C F J;obtain⟨o,e,c,d⟩:=id g;exact⟨u,rfl,t0 (s:={s with heap:=h'}) e c d (by decide) ⟨x,H,T,Q,⟨rfl,λys U=>by rw[I.tuple_inj U l];exact y⟩,g,λb f=>(j b f).1⟩⟩
 done:=by
  intro X m n q L i pins s σ H E I j st r;subst m n q;obtain⟨xs,l,y⟩:=r;obtain⟨its,A,p,N⟩:=I.tuple l;obtain⟨B,f1,f2,C,F,J⟩:=j it (by simp);have Y:=A.length;exact wpAny_pyNext_tuple_end (I.ok.hd L) st (show s.heap.IsTuple a its.toArray from p) (by simp;omega) λh' W=>⟨rfl,I.turned (t':=s.toks) (λb o f e=>W b o f e) B f1 C F J⟩
 self:=λ_ _ _ _ _ st h=>wpAny_pyIter_tupleiter st h
theorem xt{K:PZ}(it:Pk)(lo:Int)(n:Nat):Turn P w K tg (Itr lo n) [it] it (λi h=>WT h it (lo+(i:Nat)*1) ((n:Int)-(i:Nat)) 1) where
 mem:=by simp
 obj:=λi h st b c=>by
  have e:b=it:=by simpa using c
  subst e;exact⟨_,st,λv z=>by
   have C:Data.fields _=Data.cell v:=z;cases C⟩
 keep:=λi h h' st k=>k it (by simp) _ st
 item:=by
  intro X g j l m i pins s σ H E I f st p;subst g j l;obtain⟨q,f1,f2,r,y,A⟩:=f it (by simp);have W:=Walks.range (prog:=X.prog) (w:=X.w) (I.ok.hd m) it lo 1 n;refine W.item i s _ _ p st λv h' B F d J=>?_;obtain⟨t,rfl⟩:=F;have L:Inv X pins σ H {s with heap:=h',toks:=B}:=I.turned (λb o c e=>J b o (by simpa using c) e) q f1 r y A;refine⟨_,rfl,t0 (s:={s with heap:=h',toks:=B}) (n:="range_iterator") d rfl rfl (by decide) ⟨.int (lo+i),H,L,⟨t,?_⟩,⟨rfl,rfl⟩,d,λb c=>(f b c).1⟩⟩;rw[Int.mul_one]
 done:=by
  intro X g j l m i pins s σ H E I f st p;subst g j l;obtain⟨q,f1,f2,r,y,A⟩:=f it (by simp);exact YQ (I.ok.hd m) st (by have:n<=i:=p;omega) λh' N=>⟨rfl,I.turned (t':=s.toks) (λb o c e=>N b o c e) q f1 r y A⟩
 self:=λ_ _ _ _ _ st h=>VA st h
variable{tg:Expr}
def OW(K:PZ)(c:TE):TI:=λσ H R=>c σ H λx b=>∃a,x= .ref a/\(∃xs,SqL K b a xs)/\R (Itl K a) b
theorem Ka(f:PE X l tl):PI X tg l (OW X.K tl):=by
 intro pins s σ H R I h;refine thn (f pins s σ H _ I h) λv c ⟨x,g,d,r1,q1⟩=>?_;obtain⟨a,e,⟨xs,i⟩,q⟩:=q1;subst e;cases r1;obtain⟨its,k,p,m⟩:=d.list i;refine Vg p.isList ?_;refine⟨c.heap.objs.size,[c.heap.objs.size],_,_,g,rfl,d.kept (t':=c.toks) λb o e=>Ph _ e,rY a _,⟨_,PP _ rfl,rfl,rfl⟩,λb j=>?_,q⟩;have e:b=c.heap.objs.size:=by simpa using j
 subst e;exact d.fpOk (Pt _) (d.hok.fresh (Pt _))
theorem uJ{pins:List (Pk×Qb)}{σ:St}{H:Hp}{s:Pr}{E:Pl->Pr->Prop}{lo c:Int}{t u v:Tok}(I:Inv X pins σ H s)(f:-(2^62)<=lo)(g:lo<2^62)(h:-(2^62)<=c)(i:c<2^62)
  (q:R (Itr lo (c-lo).toNat) H):PN (Qc X.prog X.w) X.A (VR (.ref s.heap.objs.size)) (PIE X pins σ tg R) E {s with heap:=s.heap.push {cls:= .type "range",data:= .fields #[.int lo t,.int c u,.int 1 v]},toks:=tk}:=by
 refine wpAny_pyIter_range (IsRange.new ..) (small_one f g h i) ?_;have d:Inv X pins σ H {s with heap:=s.heap.push {cls:= .type "range",data:= .fields #[.int lo t,.int c u,.int 1 v]},toks:=tk}:=I.kept λb o e=>Ph _ e;refine⟨(s.heap.push {cls:= .type "range",data:= .fields #[.int lo t,.int c u,.int 1 v]}).objs.size,[(s.heap.push {cls:= .type "range",data:= .fields #[.int lo t,.int c u,.int 1 v]}).objs.size],_,_,H,rfl,
  d.kept (t':=tk) λb o e=>Ph _ e,xt _ lo (c-lo).toNat,?_,λb j=>?_,q⟩
 ·have k:lo+((0:Nat):Int)*1=lo:=by simp
  have l:(((c-lo).toNat:Nat):Int)-((0:Nat):Int)=VW lo c 1:=by rw[rangeSize_one];split<;>omega
  show WT _ _ (lo+((0:Nat):Int)*1) ((((c-lo).toNat:Nat):Int)-((0:Nat):Int)) 1;rw[k,l];exact PP _ rfl
 ·have e:b=(s.heap.push {cls:= .type "range",data:= .fields #[.int lo t,.int c u,.int 1 v]}).objs.size:=by simpa using j
  subst e;exact d.fpOk (Pt _) (d.hok.fresh (Pt _))
def OU(b:TA):TI:=λσ H R=>b σ H λvs c=>∃j:Int,vs=[.int j]/\-(2^62)<=j/\j<2^62/\R (Itr 0 j.toNat) c
def OT(b:TA):TI:=λσ H R=>b σ H λvs c=>∃i j:Int,vs=[.int i,.int j]/\(-(2^62)<=i/\i<2^62/\-(2^62)<=j/\j<2^62)/\R (Itr i (j-i).toNat) c
theorem zq{a:Expr}{p pos:Uj}(b:Gl X "range")(hm:X.mg "range"=Pb)(ha:PA X [a] ta)(hs:PH [a] X.env=[(Pj,QS a X.env)]:=by rfl):PI X tg (.Call (.Name "range" p) [a] [] pos) (OU ta):=by
 intro pins s σ H R I h;refine Call_ (gj I b hm boot_range (Q8 (thn (ha pos pins s σ H _ I h) λus f ⟨vs,g,c,r1,q1⟩=>?_) hs rfl));obtain⟨j,e,q1,q2,q⟩:=q1;subst e;cases r1 with
 |cons r d=>
  cases d;obtain⟨t,rfl⟩:=r;exact call_range_1 (uJ c (by omega) (by omega) q1 q2 (by simpa using q))
theorem zo{a b:Expr}{p pos:Uj}(f:Gl X "range")(hm:X.mg "range"=Pb)(ha:PA X [a,b] ta)(hs:PH [a,b] X.env=[(Pj,QS a X.env),(Pj,QS b X.env)]:=by rfl)(c:PH [b] X.env=[(Pj,QS b X.env)]:=by rfl):
  PI X tg (.Call (.Name "range" p) [a,b] [] pos) (OT ta):=by
 intro pins s σ H R I h;refine Call_ (gj I f hm boot_range (Q8 (thn (ha pos pins s σ H _ I h) λus l ⟨vs,m,g,r1,q1⟩=>?_) (by rw[hs,c]) (by rw[c];rfl)));obtain⟨i,j,e,⟨q1,q2,q3,q4⟩,q⟩:=q1;subst e;cases r1 with
 |cons r d=>
  cases d with
  |cons k d=>
   cases d;obtain⟨t,rfl⟩:=r;obtain⟨t',rfl⟩:=k;exact call_range_2 (uJ g q1 q2 q3 q4 q)
def Lk(h:TI)(g:TG)(j:TS):TS:=λD σ H=>h σ H λJ k=>∃W:Nat->Nat->St->Hp->Prop,(∃m,W 0 m σ k)/\∀i m σ H,W i m σ H->
 (J.stop i H/\D.nx σ H)\/(J.go i H/\∃N:St->Hp->Prop,(∀b c,N b c->∃f,f<m/\W (i+1) f b c)/\∀x c,J.yld i H x c->g x σ c λd l=>j {D with nx:=N,ct:=N,bk:=D.nx} d l)
noncomputable def md(c:List Pk)(h:QW):List (Pk×Qb):=c.filterMap λb=>(h.get? b).map λo=>(b,o)
theorem iC{h:QW}(c:b∈fp)(e:h.get? b=on o):(b,o)∈md fp h:=UB.mpr ⟨b,c,by rw[e];rfl⟩
theorem zA{h:QW}{p:Pk×Qb}(c:p∈md fp h):p.1∈fp/\h.get? p.1=on p.2:=by
 obtain⟨b,d,e⟩:=UB.mp c;cases q:h.get? b with
 |none=>rw[q]at e;cases e
 |some o=>
  rw[q]at e;have f:(b,o)=p:=Qd e;subst f;exact⟨d,q⟩
theorem Inv.pinned{pins:List (Pk×Qb)}{σ:St}{H:Hp}{s:Pr}(I:Inv X pins σ H s)(g:∀b∈fp,fK X pins H b)(h:∀b∈fp,∃o,s.heap.get? b=on o/\∀v,o.data≠ .cell v):Inv X (pins++md fp s.heap) σ H s:=
 I.pins_of λp i=>(Rj.mp i).elim (λz=>I.pin p (Qt _ z)) λz=>by
  obtain⟨c,e⟩:=zA z;obtain⟨j,f1,f2,_⟩:=g p.1 c;obtain⟨o,f,d⟩:=h p.1 c;rw[e]at f;cases f;exact⟨e,j,f1,f2,d⟩
theorem Inv.unpinned{pins pl:List (Pk×Qb)}{σ:St}{H:Hp}{s:Pr}(I:Inv X (pins++pl) σ H s):Inv X pins σ H s:=I.pins_of λp b=>I.pin p (Qt _ (Sn _ b))
theorem bt{pos:Uj}(L:Yo (Qc X.prog X.w) X.A X.env X.xe)(hc:X.calm=Pe)(hi:PI X tg iter wi)(hg:PG X tg g)(j:PSs X body tb)
  (hs:∀x,QA iter X.env x=RZ x:=by intro _;rfl):PS X (.For tg iter body [] pos) (Lk wi g tb):=by
 intro pins s σ H D I h;refine wpAny_For (thn (hi pins s σ H _ I h) λv s1 h1=>thn h1 λitv s2 h2=>?_) hs;obtain⟨it,O,tn,J,H2,e,I2,T,Z,f2,W,⟨m0,w0⟩,P⟩:=h2;subst e
 --what stays Pe of the iterator's objects through the loop
 have k:∀{B:Hp},(∀b∈O,B b=Pb)->∀b∈O,fK X pins B b:=λhn b j=>⟨hn b j,(f2 b j).2⟩;refine codeAny_forLoop_any (λn s'=>∃i l B,Inv X pins l B s'/\tn i s'.heap/\(∀b∈O,B b=Pb)/\W i n l B) ?_ m0 ⟨0,σ,H2,I2,Z,λb j=>(f2 b j).1,w0⟩;rintro n s3 ⟨i,p,Y,I3,Q,R,w3⟩;rcases P i n p Y w3 with⟨stop,qn⟩|⟨go,N,hN,step⟩
 ·refine SZ L (thn (T.done X rfl rfl rfl hc i pins s3 p Y X.xe I3 (k R) Q stop) λr s4 ⟨hr,I4⟩=>?_)
  subst hr;exact VE ⟨p,Y,I4,qn⟩
 ·refine SZ L (thn (T.item X rfl rfl rfl hc i pins s3 p Y X.xe I3 (k R) Q go) λr s4 ⟨u,hr,h4⟩=>?_)
  subst hr;refine SZ L (thn h4 λ_ s5 ⟨x,H5,I5,r5,y5,F,fr5⟩=>?_);have I5':=I5.pinned (k fr5) (T.obj _ _ F);refine SZ L (thn (hg _ s5 p H5 x u _ I5' r5 (step x H5 y5)) λ_ s6 ⟨σ6,H6,I6,q6⟩=>?_);refine SZ L (thn (j _ s6 σ6 H6 _ I6 q6) λf s7 C=>?_);have WY:∀{c:St} {q:Hp},Inv X (pins++md O s5.heap) c q s7->N c q->∃m,m<n/\∃i l B,Inv X pins l B s7/\tn i s7.heap/\(∀b∈O,B b=Pb)/\W i m l B:=λ{c q} y U=>by
   obtain⟨m',hm,w7⟩:=hN c q U;refine⟨m',hm,i+1,c,q,y.unpinned,T.keep _ _ _ F λb j o e=>(y.pin (b,o) (Qt _ (Qt _ (iC j e)))).1,λb j=>?_,w7⟩;obtain⟨o,e,d⟩:=T.obj _ _ F b j;exact(y.pin (b,o) (Qt _ (Qt _ (iC j e)))).2.1
  cases f with
  |next=>obtain⟨c,q,y,U⟩:=C;exact WY y U
  |cont=>obtain⟨c,q,y,U⟩:=C;exact WY y U
  |brk=>obtain⟨c,q,y,C⟩:=C;exact⟨c,q,y.unpinned,C⟩
  |ret v=>obtain⟨x7,c,q,y,r7,C⟩:=C;exact⟨x7,c,q,y.unpinned,r7,C⟩
abbrev R2:=V->V->Hp->VK->Prop
def OpR(X:Cx)(f:Pl->Pl->Sem Pl)(r:R2):Prop:=
 ∀(pins:List (Pk×Qb)) (s:Pr) (σ:St) (H:Hp) (x y:V) (v u:Pl) (Q:VK),Inv X pins σ H s->aQ x v->aQ y u->r x y H Q->
  PN (Qc X.prog X.w) X.A (f v u) (EP X pins σ Q) X.xe s
def UnR(X:Cx)(f:Pl->Sem Pl)(r:V->Hp->VK->Prop):Prop:=
 ∀(pins:List (Pk×Qb)) (s:Pr) (σ:St) (H:Hp) (x:V) (v:Pl) (Q:VK),Inv X pins σ H s->aQ x v->r x H Q->
  PN (Qc X.prog X.w) X.A (f v) (EP X pins σ Q) X.xe s
def dI(X:Cx)(f:Pl)(r:List V->Hp->VK->Prop):Prop:=
 ∀(pins:List (Pk×Qb)) (s:Pr) (σ:St) (H:Hp) (xs:List V) (us:List Pl) (Q:VK),Inv X pins σ H s->ay xs us->r xs H Q->
  PN (Qc X.prog X.w) X.A (Wv f us) (EP X pins σ Q) X.xe s
def TruR(X:Cx)(r:V->Hp->(Bool->Hp->Prop)->Prop):Prop:=
 ∀(pins:List (Pk×Qb)) (s:Pr) (σ:St) (H:Hp) (x:V) (v:Pl) (Q:Bool->Hp->Prop),Inv X pins σ H s->aQ x v->r x H Q->
  PN (Qc X.prog X.w) X.A (truthy v) (TP X pins σ Q) X.xe s
def tOp(r:R2)(b c:TE):TE:=λσ H Q=>b σ H λx d=>c σ d λy f=>r x y f Q
def tUn(r:V->Hp->VK->Prop)(b:TE):TE:=λσ H Q=>b σ H λx c=>r x c Q
def rI(C:Int->Int->Prop)(g:Int->Int->V):R2:=λx y H Q=>∃i j,x= .int i/\y= .int j/\C i j/\Q (g i j) H
def rI0(g:Int->Int->V):R2:=λx y H Q=>∃i j,x= .int i/\y= .int j/\Q (g i j) H
def rU(g:Int->V):V->Hp->VK->Prop:=λx H Q=>∃i,x= .int i/\Q (g i) H
end
section
variable{X:Cx}{a b c:Expr}{ta tb tc:TE}{pos:Uj}
theorem ET(ha:PE X a ta)(m:PE X b tb){d:List (Pk×Qb)}{s:Pr}{e:St}{H:Hp}{R:V->V->Hp->Prop}(I:Inv X d e H s)
  (h:ta e H λx l=>tb e l λy g=>R x y g) {Q:Pl->Pr->Prop} {f:Pl->Pl->Sem Pl}
  (n:∀v u k x y g,Inv X d e g k->aQ x v->aQ y u->R x y g->PN (Qc X.prog X.w) X.A (f v u) Q X.xe k):
  PN (Qc X.prog X.w) X.A (QS a X.env) (λv i=>PN (Qc X.prog X.w) X.A (QS b X.env) (λu j=>PN (Qc X.prog X.w) X.A (f v u) Q X.xe j) X.xe i) X.xe s:=by
 refine thn (ha d s e H _ I h) λv o ⟨x,l,p,r1,q1⟩=>?_;refine thn (m d o e l _ p q1) λu k ⟨y,g,q,r,q2⟩=>?_;exact n v u k x y g q r1 r q2
theorem dY(e:OpR X (Sy op) r)(ha:PE X a ta)(f:PE X b tb):PE X (.BinOp a op b pos) (tOp r ta tb):=by
 intro d s g H Q I h;exact wpAny_BinOp (ET ha f I h λv u i x y j k l m q=>e d i g j x y v u Q k l m q)
theorem Os(f:UnR X (unaryOp op) r)(ha:PE X a ta):PE X (.UnaryOp op a pos) (tUn r ta):=by
 intro d s e H Q I h;exact UnaryOp_ (thn (ha d s e H _ I h) λv g ⟨x,i,j,r1,q1⟩=>f d g e i x v Q j r1 q1)
theorem opI{f:Pl->Pl->Sem Pl}{C:Int->Int->Prop}{g:Int->Int->Int}
  (d:∀(i j:Int) (t u:Tok) (s:Pr) (Q:Pl->Pr->Prop) (E:Pl->Pr->Prop),C i j->Q (.int (g i j) s.toks) {s with toks:=s.toks+1}->PN (Qc X.prog X.w) X.A (f (.int i t) (.int j u)) Q E s):
  OpR X f (rI C λi j=> .int (g i j)):=by
 intro e s n H x y v u Q I k l h;obtain⟨i,j,rfl,rfl,m,q⟩:=h;obtain⟨t,rfl⟩:=k;obtain⟨t',rfl⟩:=l;exact d i j t t' s _ _ m ⟨.int (g i j),H,I.tok _,⟨_,rfl⟩,q⟩
theorem Md{f:Pl->Pl->Sem Pl}{g:Int->Int->Int}
  (d:∀(i j:Int) (t u:Tok) (s:Pr) (Q:Pl->Pr->Prop) (E:Pl->Pr->Prop),Q (.int (g i j) s.toks) {s with toks:=s.toks+1}->PN (Qc X.prog X.w) X.A (f (.int i t) (.int j u)) Q E s):
  OpR X f (rI0 λi j=> .int (g i j)):=by
 intro e s m H x y v u Q I k l h;obtain⟨i,j,rfl,rfl,q⟩:=h;obtain⟨t,rfl⟩:=k;obtain⟨t',rfl⟩:=l;exact d i j t t' s _ _ ⟨.int (g i j),H,I.tok _,⟨_,rfl⟩,q⟩
theorem xM{f:Pl->Pl->Sem Pl}{g:Int->Int->Bool}
  (d:∀(i j:Int) (t u:Tok) (s:Pr) (Q:Pl->Pr->Prop) (E:Pl->Pr->Prop),Q (.bool (g i j)) s->PN (Qc X.prog X.w) X.A (f (.int i t) (.int j u)) Q E s):
  OpR X f (rI0 λi j=> .bl (g i j)):=by
 intro e s m H x y v u Q I k l h;obtain⟨i,j,rfl,rfl,q⟩:=h;obtain⟨t,rfl⟩:=k;obtain⟨t',rfl⟩:=l;exact d i j t t' s _ _ ⟨.bl (g i j),H,I,rfl,q⟩
def CDiv(i j:Int):Prop:=0<j/\j<1073741824
def CPow(i j:Int):Prop:=0<=j/\j<=1000000/\i.natAbs<2^64
def HE(i j:Int):Prop:=(-(2^64)<i/\i<2^64)\/(-(2^64)<j/\j<2^64)
theorem HE.ok(h:HE i j):IntMulOk i j:=by
 rcases h with⟨d,e⟩|⟨d,e⟩
 ·exact .of_left (intBits_le_64 d e)
 ·exact .of_right (intBits_le_64 d e)
theorem pZ:OpR X (Sy .Add) (rI0 λi j=> .int (i+j)):=Md λ_ _ _ _ _ _ _ q=>add_int q
theorem gU:OpR X (Sy .Sub) (rI0 λi j=> .int (i-j)):=Md λ_ _ _ _ _ _ _ q=>sub_int q
theorem Ma:OpR X (Sy .Mult) (rI HE λi j=> .int (i*j)):=opI λ_ _ _ _ _ _ _ d q=>mul_int q d.ok
theorem wA:OpR X (Sy .FloorDiv) (rI CDiv λi j=> .int (i/j)):=opI λi j _ _ _ _ _ d q=>by
 have e:(0:Int)<j:=d.1;have f:j<1073741824:=d.2;exact floordiv_int (by omega) (by rw[WK i (by omega)];exact q) (.inl (PyProof.noPylong_small (by omega)))
theorem mh:OpR X (Sy .Mod) (rI (λ_ j=>0<j) λi j=> .int (i % j)):=opI λi j _ _ _ _ _ d q=>by
 have e:(0:Int)<j:=d;exact mod_int' (by omega) (by rw[Int.fmod_eq_emod_of_nonneg i (by omega)];exact q)
theorem L8:OpR X (Sy .Pow) (rI CPow λi j=> .int (i^j.toNat)):=opI λ_ _ _ _ _ _ _ d q=>pow_int_small d.1 d.2.1 d.2.2 q
theorem unI{f:Pl->Sem Pl}{g:Int->Int}
  (d:∀(i:Int) (t:Tok) (s:Pr) (Q:Pl->Pr->Prop) (E:Pl->Pr->Prop),Q (.int (g i) s.toks) {s with toks:=s.toks+1}->PN (Qc X.prog X.w) X.A (f (.int i t)) Q E s):
  UnR X f (rU λi=> .int (g i)):=by
 intro e s k H x v Q I j h;obtain⟨i,rfl,q⟩:=h;obtain⟨t,rfl⟩:=j;exact d i t s _ _ ⟨.int (g i),H,I.tok _,⟨_,rfl⟩,q⟩
theorem Lb:UnR X (unaryOp .USub) (rU λi=> .int (-i)):=unI λ_ _ _ _ _ q=>neg_int q
noncomputable def CF:V->V->Bool
 | .non,.non=>Pe| .non,.int _=>Pe| .int _,.non=>Pe| .non,.bl _=>Pe| .bl _,.non=>Pe| .non,.str _=>Pe| .str _,.non=>Pe
 | .int _,.int _=>Pe| .bl _,.bl _=>Pe| .str _,.str _=>Pe
 | .int _,.str _=>Pe| .str _,.int _=>Pe| .bl _,.str _=>Pe| .str _,.bl _=>Pe
 |_,_=>Pj
noncomputable def rEq:R2:=λx y H Q=>CF x y=Pe/\Q (.bl (decide (x=y))) H
noncomputable def rNe:R2:=λx y H Q=>CF x y=Pe/\Q (.bl (!decide (x=y))) H
theorem w4:decide (V.int i=V.int j)=(i==j):=by
 rw[Vi];simp
theorem dec_bl{i j:Bool}:decide (V.bl i=V.bl j)=(i==j):=by
 rw[Vi];simp
theorem wZ:decide (V.str i=V.str j)=(i==j):=by
 rw[Vi];simp
theorem fin_bl{k d:Bool}(I:Inv X pins σ H s)(q:Q (.bl k) H)(e:k=d):EP X pins σ Q (.bool d) s:=by
 subst e;exact⟨.bl k,H,I,rfl,q⟩
theorem Ox:OpR X (QY .Eq) rEq:=by
 intro f s g H x y v u Q I e d h;obtain⟨hs,q⟩:=h;cases x with
 |non=>
  cases e;cases y with
  |non=>cases d;exact PySem.EqNone.eq_none_none (fin_bl I q (by simp))
  |bl j=>cases d;exact PySem.EqNone.eq_none_bool (fin_bl I q (by simp))
  |int j=>obtain⟨t',rfl⟩:=d;exact PySem.EqNone.eq_none_int (fin_bl I q (by simp))
  |str j=>obtain⟨t',rfl⟩:=d;exact PySem.EqNone.eq_none_str (fin_bl I q (by simp))
  |_=>exact P6 (show Pj=Pe from hs) Pw
 |bl i=>
  cases e;cases y with
  |non=>cases d;exact PySem.EqNone.eq_bool_none (fin_bl I q (by simp))
  |bl j=>cases d;exact eq_bool (fin_bl I q dec_bl)
  |str j=>obtain⟨t',rfl⟩:=d;exact PySem.EqMixed.eq_bool_str (fin_bl I q (by simp))
  |_=>exact P6 (show Pj=Pe from hs) Pw
 |int i=>
  obtain⟨t,rfl⟩:=e;cases y with
  |non=>cases d;exact PySem.EqNone.eq_int_none (fin_bl I q (by simp))
  |int j=>obtain⟨t',rfl⟩:=d;exact eq_int (fin_bl I q w4)
  |str j=>obtain⟨t',rfl⟩:=d;exact PySem.EqMixed.eq_int_str (fin_bl I q (by simp))
  |_=>exact P6 (show Pj=Pe from hs) Pw
 |str i=>
  obtain⟨t,rfl⟩:=e;cases y with
  |non=>cases d;exact PySem.EqNone.eq_str_none (fin_bl I q (by simp))
  |bl j=>cases d;exact PySem.EqMixed.eq_str_bool (fin_bl I q (by simp))
  |int j=>obtain⟨t',rfl⟩:=d;exact PySem.EqMixed.eq_str_int (fin_bl I q (by simp))
  |str j=>obtain⟨t',rfl⟩:=d;exact eq_str (fin_bl I q wZ)
  |_=>exact P6 (show Pj=Pe from hs) Pw
 |_=>cases y<;>exact P6 (show Pj=Pe from hs) Pw
theorem Ov:OpR X (QY .NotEq) rNe:=by
 intro f s g H x y v u Q I e d h;obtain⟨hs,q⟩:=h;cases x with
 |non=>
  cases e;cases y with
  |non=>cases d;exact PySem.EqNone.ne_none_none (fin_bl I q (by simp))
  |bl j=>cases d;exact PySem.EqNone.ne_none_bool (fin_bl I q (by simp))
  |int j=>obtain⟨t',rfl⟩:=d;exact PySem.EqNone.ne_none_int (fin_bl I q (by simp))
  |str j=>obtain⟨t',rfl⟩:=d;exact PySem.EqNone.ne_none_str (fin_bl I q (by simp))
  |_=>exact P6 (show Pj=Pe from hs) Pw
 |bl i=>
  cases e;cases y with
  |non=>cases d;exact PySem.EqNone.ne_bool_none (fin_bl I q (by simp))
  |bl j=>cases d;exact ne_bool (fin_bl I q (QN not dec_bl))
  |str j=>obtain⟨t',rfl⟩:=d;exact PySem.EqMixed.ne_bool_str (fin_bl I q (by simp))
  |_=>exact P6 (show Pj=Pe from hs) Pw
 |int i=>
  obtain⟨t,rfl⟩:=e;cases y with
  |non=>cases d;exact PySem.EqNone.ne_int_none (fin_bl I q (by simp))
  |int j=>obtain⟨t',rfl⟩:=d;exact ne_int (fin_bl I q (QN not w4))
  |str j=>obtain⟨t',rfl⟩:=d;exact PySem.EqMixed.ne_int_str (fin_bl I q (by simp))
  |_=>exact P6 (show Pj=Pe from hs) Pw
 |str i=>
  obtain⟨t,rfl⟩:=e;cases y with
  |non=>cases d;exact PySem.EqNone.ne_str_none (fin_bl I q (by simp))
  |bl j=>cases d;exact PySem.EqMixed.ne_str_bool (fin_bl I q (by simp))
  |int j=>obtain⟨t',rfl⟩:=d;exact PySem.EqMixed.ne_str_int (fin_bl I q (by simp))
  |str j=>obtain⟨t',rfl⟩:=d;exact ne_str (fin_bl I q (QN not wZ))
  |_=>exact P6 (show Pj=Pe from hs) Pw
 |_=>cases y<;>exact P6 (show Pj=Pe from hs) Pw
theorem pY:OpR X (QY .Lt) (rI0 λi j=> .bl (decide (i<j))):=xM λ_ _ _ _ _ _ _ q=>lt_int q
theorem jC:OpR X (QY .LtE) (rI0 λi j=> .bl (decide (i<=j))):=xM λ_ _ _ _ _ _ _ q=>le_int q
theorem tM:OpR X (QY .Gt) (rI0 λi j=> .bl (decide (j<i))):=xM λ_ _ _ _ _ _ _ q=>gt_int q
theorem IA:OpR X (QY .GtE) (rI0 λi j=> .bl (decide (j<=i))):=xM λ_ _ _ _ _ _ _ q=>ge_int q
theorem uO:OpR X (QY .Is) (λx y H Q=>y= .non/\Q (.bl (decide (x= .non))) H):=by
 intro d s g H x y v u Q I e f h;obtain⟨rfl,q⟩:=h;cases f;refine is_none_gen (fin_bl I q ?_);cases x<;>first
  |(cases e;rfl)
  |(obtain⟨t,rfl⟩:=e;rfl)
theorem OpR.or(h:OpR X f r)(h':OpR X f r'):OpR X f (λx y H Q=>r x y H Q\/r' x y H Q):=by
 intro d s e H x y v u Q I g i q;rcases q with q|q
 ·exact h d s e H x y v u Q I g i q
 ·exact h' d s e H x y v u Q I g i q
theorem uQ(b:Expr)(h:op≠ .In:=by decide)(d:op≠ .NotIn:=by decide):Uv op b=Pj:=by
 have e:(op==CmpOp.In)=Pj:=by cases op<;>first|rfl|exact P6 rfl h
 have f:(op==CmpOp.NotIn)=Pj:=by cases op<;>first|rfl|exact P6 rfl d
 cases b<;>simp[Uv,e,f]
theorem Kf(e:OpR X (QY op) r)(ha:PE X a ta)(f:PE X b tb)(hm:Uv op b=Pj):PE X (.Compare a [op] [b] pos) (tOp r ta tb):=by
 intro d s g H Q I h;exact wpAny_Compare1 (ET ha f I h λv u i x y j k l m q=>e d i g j x y v u Q k l m q) hm
def xv(t:TE):TT:=λd H Q=>t d H λx e=>∃k,x= .bl k/\Q k e
theorem wq(g:OpR X (QY op) r)(ha:PE X a ta)(i:PE X b tb)(hm:Uv op b=Pj):PT X (.Compare a [op] [b] pos) (xv (tOp r ta tb)):=by
 intro d s f H Q I h;refine wpAny_isTrue_Compare1 (thn (ha d s f H _ I h) λv j ⟨x,l,m,r1,q1⟩=>thn (i d j f l _ m q1) λu n ⟨y,o,p,q,q2⟩=>
  thn (g d n f o x y v u _ p r1 q q2) λc B ⟨z,t,w,A,k,e,q3⟩=>?_) hm
 subst e;cases A;exact QT ⟨t,w,q3⟩
def yJ(r f:R2)(ta tb tc:TE):TE:=λd H Q=>ta d H λx g=>tb d g λy h=>r x y h λz e=>∃k,z= .bl k/\
 (if k=Pe then tc d e λi j=>f y i j Q else Q (.bl Pj) e)
theorem CN(n:OpR X (QY op) r)(i:OpR X (QY op') r')(ha:PE X a ta)(o:PE X b tb)(p:PE X c tc)
  (hm:Yy [op,op'] [b,c]=Pj:=by with_unfolding_all rfl):PT X (.Compare a [op,op'] [b,c] pos) (xv (yJ r r' ta tb tc)):=by
 intro f s g H Q I h;refine isTrue_chain (thn (ha f s g H _ I h) λv q ⟨x,t,w,r1,q1⟩=>test_link (thn (o f q g t _ w q1) λu A ⟨y,B,C,j,q2⟩=>
  thn (n f A g B x y v u _ C r1 j q2) λd F ⟨z,l,m,J,k,e,q3⟩=>?_)) hm
 subst e;cases J;refine QT ?_;cases k with
 |false=>
  obtain⟨k',L,N⟩:=q3;cases L;exact ite_ff ⟨l,m,N⟩
 |true=>
  refine ite_tt (test_last (thn (p f F g l _ m q3) λO P ⟨R,T,U,W,q4⟩=>thn (i f P g T y R u O _ U j W q4) λd' s5 ⟨z2,Y,Z,r5,k2,e2,q5⟩=>?_));subst e2;cases r5;exact QT ⟨Y,Z,q5⟩
def HB(K:PZ)(x:V)(H:Hp)(k:Bool):Prop:=
 match x with
 | .non=>k=Pj
 | .bl b=>k=b
 | .int i=>k=(i !=0)
 | .str y=>y.length<=PQ/\k=((y.length:Int) !=0)
 | .ref p=>(∃xs,SqL K H p xs/\k=!xs.isEmpty)\/∃xs,SqT K H p xs/\k=!xs.isEmpty
 |_=>False
theorem qj(r:ay xs its):(!its.toArray.isEmpty)=!xs.isEmpty:=by
 cases r<;>simp
theorem mq:(PQ:Nat)<2^63:=by rw[RQ];decide
theorem Lc:TruR X (λx H Q=>∃k,HB X.K x H k/\Q k H):=by
 intro l s n H x v Q I f h;obtain⟨k,e,q⟩:=h;have o:=mq;have hs:PQ=16777216:=RQ;cases x with
 |non=>
  cases f;have d:k=Pj:=e;subst d;exact truthy_none ⟨H,I,q⟩
 |bl b=>
  cases f;have d:k=b:=e;subst d;exact QT ⟨H,I,q⟩
 |int i=>
  obtain⟨t,rfl⟩:=f;have d:k=(i !=0):=e;subst d;exact PySem.P.truthy_int ⟨H,I,q⟩
 |str y=>
  obtain⟨t,rfl⟩:=f;obtain⟨u,d⟩:y.length<=PQ/\k=((y.length:Int) !=0):=e;subst d;exact PySem.P.truthy_str (by omega) ⟨H,I.tok _,q⟩
 |ref p=>
  cases f;have d:(∃xs,SqL X.K H p xs/\k=!xs.isEmpty)\/∃xs,SqT X.K H p xs/\k=!xs.isEmpty:=e;rcases d with⟨xs,j,d⟩|⟨xs,j,d⟩
  ·subst d
   obtain⟨its,r,pl,m⟩:=I.list j;have g:=r.length;exact wpAny_truthy_list pl.isList (by simp only[PV];omega) ⟨H,I.tok _,by rw[qj r];exact q⟩
  ·subst d
   obtain⟨its,r,pl,m⟩:=I.tuple j;have g:=r.length;exact truthy_tuple pl (by simp only[PV];omega) ⟨H,I.tok _,by rw[qj r];exact q⟩
 |_=>exact(show False from e).elim
theorem CM(ha:PE X a ta)(i:∀d,isTrue a X.env d=(do let v ←d;Tz a.pos;T9 [v] (truthy v))):
  PT X a (λf H Q=>ta f H λx g=>∃k,HB X.K x g k/\Q k g):=by
 intro e s f H Q I h;exact isTrue_plain (thn (ha e s f H _ I h) λv j ⟨x,l,m,r1,q1⟩=>Lc e j f l x v Q m r1 q1) (i _)
theorem kO(r:ay [x] us):∃u,us=[u]/\aQ x u:=by
 cases r with
 |cons r1 d=>cases d;exact⟨_,rfl,r1⟩
theorem tz(r:ay [x,y] us):∃u d,us=[u,d]/\aQ x u/\aQ y d:=by
 cases r with
 |cons r1 e=>
  cases e with
  |cons f g=>cases g;exact⟨_,_,rfl,r1,f⟩
theorem EO:dI X (.builtin "abs") (λxs H Q=>∃i,xs=[.int i]/\Q (.int (if i<0 then -i else i)) H):=by
 intro d s e H xs us Q I r h;obtain⟨i,rfl,q⟩:=h;obtain⟨u,rfl,t,rfl⟩:=kO r;exact call_abs_int λu f=>⟨.int (if i<0 then -i else i),H,I.tok _,⟨_,rfl⟩,q⟩
theorem sU(f:X.calm=Pe):dI X (.builtin "max") (λxs H Q=>∃i j,xs=[.int i,.int j]/\Q (.int (if j>i then j else i)) H):=by
 intro e s g H xs us Q I r h;obtain⟨i,j,rfl,q⟩:=h;obtain⟨u,l,rfl,⟨t,rfl⟩,⟨t',rfl⟩⟩:=tz r;refine max_two_ints (I.ok.hd f) λh' m k=>⟨_,H,I.kept k,?_,q⟩;by_cases d:j>i
 ·rw[Ps d,Ps d];exact⟨_,rfl⟩
 ·rw[Po d,Po d];exact⟨_,rfl⟩
theorem jJ(f:X.calm=Pe):dI X (.builtin "min") (λxs H Q=>∃i j,xs=[.int i,.int j]/\Q (.int (if j<i then j else i)) H):=by
 intro e s g H xs us Q I r h;obtain⟨i,j,rfl,q⟩:=h;obtain⟨u,l,rfl,⟨t,rfl⟩,⟨t',rfl⟩⟩:=tz r;refine min_two_ints (I.ok.hd f) λh' m k=>⟨_,H,I.kept k,?_,q⟩;by_cases d:j<i
 ·rw[Ps d,Ps d];exact⟨_,rfl⟩
 ·rw[Po d,Po d];exact⟨_,rfl⟩
structure ObjM (h:QW) (x dx C:Pk) (mA:Qn->Option Pl):Prop where
 obj:h.get? x=on (V1 C dx)
 ns:h.Ns1 dx mA
 ne:dx≠x
theorem zQ{h:QW}(n:h.Ns1 dx mA):∃f,h.get? dx=on f/\∀name,lookIn name f=on (mA name):=by
 obtain⟨o,es,ep,g,hd,i,_,hm⟩:=n;refine⟨o,g,λname=>?_⟩;have e:=hm name;unfold nsFind findBy at e;rw[←Array.find?_toList]at e;unfold lookIn;rw[hd]
 dsimp only
 split
 ·rename_i y q
  rw[q]at e;exact QN on e
 ·rename_i q
  rw[q]at e;have a:es.toList.any (·.refKey)=Pj:=by
   rw[YE];intro y j;obtain⟨z,t,d⟩:=i y (Array.mem_toList_iff.mp j);simp[DictEntry.refKey,d]
  have k:¬es.toList.any (·.refKey)=Pe:=by rw[a];exact Pw
  rw[Po k];exact QN on e
theorem ObjM.look(I:ObjM h x dx C mA):∃d,PySem.W.InstAt h x (V1 C dx) C (on d)/\∀name,lookIn name d=on (mA name):=
 let ⟨d,ho,hl⟩:=zQ I.ns
 ⟨d,⟨I.obj,rfl,rfl,ho⟩,hl⟩
variable{prog:Qf}{w:Qq}{A:QP}{E:Pl->Pr->Prop}{s:Pr}{K:PZ}{x dx C f:Pk}{mA:Qn->Option Pl}{name:Qn}{v:Pl}
theorem KQ{d:Bool}(X:K.In s.heap)(I:ObjM s.heap x dx C mA)(g:plainGet K C name=Pe)(i:hasDictIn K C=Pe)
  (ha:TX K (.ref C) name=on Pb) (j:mA name=on v) (e:X3 v=Pe) (h:Q v {s with toks:=s.toks+1}):
  PN (Qc prog w) A (getAttr (.ref x) name d) Q E s:=by
 obtain⟨l,J,k⟩:=I.look;exact PySem.W.get_value X J (plainGet_of g).1 (PySem.W.findObj_own i ha rfl (by rw[k,j])) e h
theorem EF(X:K.In s.heap)(I:ObjM s.heap x dx C mA)(d:plainGet K C name=Pe)
  (e:TX K (.ref C) name=on (on (.ref f))) (g:isFn K (.ref f)=Pe) (i:mA name=Pb) (h:Q (.ref f,[.ref x]) s):
  PN (Qc prog w) A (V0 (.ref x) name pl) Q E s:=by
 obtain⟨j,J,k⟩:=I.look;exact PySem.W.method_fn X J (plainGet_of d).1 (plainGet_of d).2 e (beq_iff_eq.mp g) (by show(lookIn name j).map (·.isSome)=on Pj;rw[k,i];rfl) h
theorem JU{ns:List Qn}(X:K.In s.heap)(I:ObjM s.heap x dx C mA)
  (hs:TX K (.ref C) "__setattr__"=on (on (.builtin "object.__setattr__"))) (l:XO K C=Pe) (m:takerIn K C name=on Pb) (n:hasDictIn K C=Pe)
  (o:VP mA ns) (p:ns.length<=PQ)
  (h:∀h',ObjM h' x dx C (λy=>if y=name then on v else mA y)->Qg dx s.heap h'->Q () {s with heap:=h',toks:=s.toks+2}):
  PN (Qc prog w) A (setAttr (.ref x) name v) Q E s:=by
 obtain⟨F,J,H⟩:=I.look;refine PySem.W.set_plain X J hs (PySem.W.osa_open (s:={s with toks:=s.toks+1}) (r:=Pb) X J l m λb=>?_);obtain⟨cd,q,g⟩:=PySem.W.any_some n;have t:s.heap.get? x=on ⟨.ref C,on dx,.plain,#[]⟩:=I.obj;refine My (Pc (My (My (wpAny_loadPart t (My (PySem.W.Looks.here (s:={s with toks:=s.toks+1}) (PySem.W.looks_clsIn X q) ?_))))));rw[g];refine Pc (a:=on dx) (My (Pc (My ?_)));refine wpAny_nsSet1 (s:={s with toks:=s.toks+1}) I.ns λh' d e=>?_;obtain⟨L,u,B,i,j,k⟩:=d.count (VP.cons name v o);refine My (wpAny_lookBehind i (by rw[j];exact pastItsLine_dict (P3 k (by rw[Pz];omega))) ?_);exact Pc (h _ ⟨(e.2 _ (Ne.symm I.ne)).trans I.obj,d,I.ne⟩ e)
theorem DI(X:K.In s.heap)(hm:Yp K C=Pe)
  (e:TX K (.ref C) "__init__"=on (on (.ref f))) (i:PySem.W.typeIn K (.ref f)=on (.type "function"))
  (h:TU (Qc prog w) (A.under (.builtin "type.__call__" ⟨.ref C::vs,kw⟩)) (.call (.ref f) ⟨.ref (s.heap.objs.size+1)::vs,kw⟩) (PySem.W.InitBack (s.heap.objs.size+1) R)
   {s with heap:=(s.heap.push Um).push (V1 C s.heap.objs.size)}):
  TU (Qc prog w) A (.call (.ref C) ⟨vs,kw⟩) R s:=by
 obtain⟨j,g,d,t,os⟩:=s;exact PySem.W.make_core (PySem.W.makes_of X hm) (PySem.W.looks_findIn X e) (λself=>PySem.W.bind_fn X self i) (.inl rfl) h
noncomputable def dP(f:Qn)(v:V):List (Qn×V)->List (Qn×V)
 |[]=>[(f,v)]
 |(g,x)::r=>if g=f then(g,v)::r else(g,x)::dP f v r
theorem oA(f g:Qn)(v:V):∀fs:List (Qn×V),(dP f v fs).lookup g=if g=f then on v else fs.lookup g
 |[]=>by
  show Ud g [(f,v)]=_;by_cases h:g=f
  ·have d:(g==f)=Pe:=beq_iff_eq.mpr h
   simp only[Ud,d,Ps h]
  ·have d:(g==f)=Pj:=beq_eq_false_iff_ne.mpr h
   simp only[Ud,d,Po h]
 |(k,x)::r=>by
  have ih:=oA f g v r;rw[show dP f v ((k,x)::r)=(if k=f then(k,v)::r else(k,x)::dP f v r)from rfl];by_cases i:k=f
  ·rw[Ps i]
   by_cases h:g=k
   ·have d:(g==k)=Pe:=beq_iff_eq.mpr h
    simp only[Ud,d,Ps (h.trans i)]
   ·have d:(g==k)=Pj:=beq_eq_false_iff_ne.mpr h
    simp only[Ud,d,Po (λe:g=f=>h (e.trans i.symm))]
  ·rw[Po i]
   by_cases h:g=k
   ·have d:(g==k)=Pe:=beq_iff_eq.mpr h
    simp only[Ud,d,Po (λe:g=f=>i (h.symm.trans e))]
   ·have d:(g==k)=Pj:=beq_eq_false_iff_ne.mpr h
    simp only[Ud,d];exact ih
theorem mv(f:Qn)(v:V):∀fs:List (Qn×V),f∈(dP f v fs).map (·.1)/\∀g,g∈fs.map (·.1)->g∈(dP f v fs).map (·.1)
 |[]=>⟨by simp[dP],λg h=>by simp at h⟩
 |(k,x)::r=>by
  obtain⟨i,j⟩:=mv f v r;rw[show dP f v ((k,x)::r)=(if k=f then(k,v)::r else(k,x)::dP f v r)from rfl];by_cases d:k=f
  ·rw[Ps d]
   subst d;exact⟨by simp,λg h=>by simpa using h⟩
  ·rw[Po d]
   refine⟨?_,λg h=>?_⟩
   ·rw[Py]
    exact Pg _ i
   ·rw[Py]at h⊢
    rcases PL.mp h with e|e
    ·exact PL.mpr (.inl e)
    ·exact Pg _ (j g e)
theorem oB(f:Qn)(v:V):∀fs:List (Qn×V),(dP f v fs).length<=fs.length+1
 |[]=>by simp[dP]
 |(k,x)::r=>by
  have ih:=oB f v r;rw[show dP f v ((k,x)::r)=(if k=f then(k,v)::r else(k,x)::dP f v r)from rfl];by_cases d:k=f
  ·rw[Ps d,Pz,Pz];omega
  ·rw[Po d,Pz,Pz];omega
theorem il.some_of{v:V}(r:il (on v) o):∃u,o=on u/\aQ v u:=by
 cases o with
 |none=>exact(show False from r).elim
 |some u=>exact⟨u,rfl,r⟩
theorem il.none_of(r:il Pb o):o=Pb:=by
 cases o with
 |none=>rfl
 |some u=>exact(show False from r).elim
theorem AI{v:V}(r:aQ v u):X3 u=Pe:=by
 cases v with
 |non=>cases(show u=QL from r);rfl
 |bl b=>cases(show u=VH b from r);rfl
 |int i=>obtain⟨t,e⟩:=(show ∃t,u=S7 i t from r);cases e;rfl
 |str x=>obtain⟨t,e⟩:=(show ∃t,u=YJ x t from r);cases e;rfl
 |ref a=>cases(show u=P4 a from r);rfl
 |ty n=>cases(show u=Su n from r);rfl
end
section
variable{P:Qf}{w:Qq}{H H':Hp}{h h':QW}{a C dx:Pk}{fs fs':List (Qn×V)}
theorem kB(hok:HOk P w H h)(e:H a=on (.ins C dx fs)):∃b,ObjM h a dx C b/\(∀f,il (fs.lookup f) (b f))/\VP b (fs.map (·.1))/\fs.length<=1000/\H dx=on (.own a):=by
 obtain⟨d,z,ne,c,b,n,r,q⟩:=(show bO P w H h a (.ins C dx fs)from hok a _ e);exact⟨b,⟨c,n,ne⟩,r,q,z,d⟩
structure Cls (K:PZ) (C:Pk):Prop where
 pg:plainGet K C Td=Pe
 hd:hasDictIn K C=Pe
 po:XO K C=Pe
 sa:TX K (.ref C) "__setattr__"=on (on (.builtin "object.__setattr__"))
theorem Cls.get{K:PZ}{C:Pk}(c:Cls K C)(f:Qn):plainGet K C f=Pe:=c.pg
def eE(K:PZ)(C:Pk)(f:Qn):Prop:=TX K (.ref C) f=on Pb
theorem eE.taker{K:PZ}{C:Pk}(n:eE K C f):takerIn K C f=on Pb:=by
 unfold takerIn;rw[show TX K (.ref C) f=on Pb from n];rfl
structure Meth (K:PZ) (C:Pk) (m:Qn) (f:Pk):Prop where
 at_:TX K (.ref C) m=on (on (.ref f))
 fn:isFn K (.ref f)=Pe
 kp:U1 K (.ref f)=Pe
variable{X:Cx}{pins:List (Pk×Qb)}{σ:St}{s:Pr}{f:Qn}{v:V}{A:QP}{E:Pl->Pr->Prop}
theorem ya{b:Bool}(I:Inv X pins σ H s)(e:H a=on (.ins C dx fs))(c:Cls X.K C)(n:eE X.K C f)(l:fs.lookup f=on v)
  (h:∀u s',Inv X pins σ H s'->aQ v u->Q u s'):PN (Qc X.prog X.w) A (getAttr (.ref a) f b) Q E s:=by
 obtain⟨g,O,r,_,_,_⟩:=kB I.hok e;obtain⟨u,i,d⟩:=il.some_of (v:=v) (o:=g f) (by rw[←l];exact r f);exact KQ I.kIn O (c.get f) c.hd n i (AI d) (h u _ (I.tok _) d)
theorem qq(I:Inv X pins σ H s)(e:H a=on (.ins C dx fs))(c:Cls X.K C)(k:Meth X.K C m g)(l:fs.lookup m=Pb)
  (h:Q (.ref g,[.ref a]) s):PN (Qc X.prog X.w) A (V0 (.ref a) m pl) Q E s:=by
 obtain⟨b,O,r,_,_,_⟩:=kB I.hok e;have hn:b m=Pb:=il.none_of (by rw[←l];exact r m);exact EF I.kIn O (c.get m) k.at_ k.fn hn h
theorem xB(I:Inv X pins σ H s)(e:H a=on (.ins C dx fs))(c:Cls X.K C)(n:eE X.K C f)(F:fs.length<1000)(l:aQ y u)
  (h:∀s',Inv X pins σ (upd H a (.ins C dx (dP f y fs))) s'->Q () s'):PN (Qc X.prog X.w) A (setAttr (.ref a) f u) Q E s:=by
 obtain⟨i,O,r,j,_,k⟩:=kB I.hok e;have m:(fs.map (·.1)).length<=PQ:=by rw[Pa,RQ];omega
 refine JU I.kIn O c.sa c.po n.taker c.hd j m λh' d p=>h _ ?_;have hd:∃o,h'.get? dx=on o:=let ⟨o,_,_,e',_⟩:=d.ns;⟨o,e'⟩
 refine I.write (x:=a) (e:=dx) (by rw[e];exact S5) (.inr k) (λb q t z=>(p.2 b t).trans z) hd ?_;refine⟨by rw[upd_ne O.ne];exact k,?_,O.ne,d.obj,_,d.ns,λg=>?_,λg B=>?_⟩
 ·have:=oB f y fs;omega
 ·show il ((dP f y fs).lookup g) (if g=f then on u else i g)
  rw[oA];by_cases q:g=f
  ·rw[Ps q,Ps q];exact l
  ·rw[Po q,Po q];exact r g
 ·by_cases q:g=f
  ·rw[q];exact(mv f y fs).1
  ·refine(mv f y fs).2 g (j g λz=>B ?_)
   show(if g=f then on u else i g)=Pb;rw[Po q];exact z
theorem Inv.made(I:Inv X pins σ H s):Inv X pins σ (upd (upd H s.heap.objs.size (.own (s.heap.objs.size+1))) (s.heap.objs.size+1) (.ins C s.heap.objs.size []))
  {s with heap:=(s.heap.push Um).push (V1 C s.heap.objs.size)}:=by
 have c:(s.heap.push Um).get? s.heap.objs.size=on Um:=PP s.heap rfl;have d:((s.heap.push Um).push (V1 C s.heap.objs.size)).get? (s.heap.objs.size+1)=on (V1 C s.heap.objs.size):=by
  have:=PP (s.heap.push Um) (o:=V1 C s.heap.objs.size) rfl;rwa[Rg]at this
 have g:(s.heap.push Um).Ns s.heap.objs.size (λ_=>Pb):=⟨Um,#[],_,c,rfl,(λe i=>P6 i (by simp)),λ_=>rfl⟩;have j:=I.laid (a:=s.heap.objs.size) (o:= .own (s.heap.objs.size+1)) (h':=s.heap.push Um) (t':=s.toks) (λb u q=>Ph _ q) (Pt _) ⟨_,c⟩;refine j.laid (a:=s.heap.objs.size+1) (o:= .ins C s.heap.objs.size []) (t':=s.toks) (λb u q=>Ph _ q) (Nat.le_of_eq (Rg _ _)) ?_;have ne:s.heap.objs.size≠s.heap.objs.size+1:=QE (Va _);refine⟨by rw[upd_ne ne,ar],QV _,ne,d,λ_=>Pb,(Heap.Ns1.of_empty g).at λo q=>Ph _ q,λ_=>S5,λy k=>P6 rfl k⟩
theorem K6{w:Qq}{f:Qn}{s:Pr}(c:S6 e f env (QS e env)=QS e env)
  (h:PN (Qc prog w) A (QS e env) (λo b=>PN (Qc prog w) A (getAttr o f Pe) Q E b) E s):PN (Qc prog w) A (QS (.Attribute e f pos) env) Q E s:=
 Attribute_any_ h (by rw[arm_eval_Attribute,c])
def tFld(K:PZ)(c:TE)(f:Qn):TE:=λσ H Q=>c σ H λx b=>∃a C dx fs v,x= .ref a/\b a=on (.ins C dx fs)/\Cls K C/\eE K C f/\fs.lookup f=on v/\Q v b
def Lx(K:PZ)(c d:TE)(f:Qn):TS:=λD σ H=>d σ H λy e=>c σ e λx b=>∃a C dx fs,x= .ref a/\b a=on (.ins C dx fs)/\Cls K C/\eE K C f/\fs.length<1000/\
 D.nx σ (upd b a (.ins C dx (dP f y fs)))
variable{o e value:Expr}{pos pos' tpos:Uj}{ta tv:TE}
theorem LZ(b:PE X e ta)(d:S6 e f X.env (QS e X.env)=QS e X.env):PE X (.Attribute e f pos) (tFld X.K ta f):=by
 intro pins s σ H Q I h;refine K6 d (thn (b pins s σ H _ I h) λu r ⟨x,g,i,j,a,C,dx,fs,v,ex,k,c,n,l,q⟩=>?_);subst ex;obtain rfl:u=P4 a:=j;exact ya i k c n l λt y m p=>⟨v,g,m,p,q⟩
theorem pX(ha:PE X o ta)(b:PE X value tv)(hs:Uo value (on (.Attribute o f pos')) pos.line X.env=RZ Pj):PS X (.Assign [.Attribute o f pos'] value pos) (Lx X.K ta tv f):=by
 intro pins s σ H D I h;refine plainObj_wpAny_Assign_Attribute (thn (b pins s σ H _ I h) λu d ⟨y,g,i,j,q⟩=>thn (ha pins d σ g _ i q) λk B ⟨x,F,m,p,a,C,dx,fs,ex,r,c,n,l,q2⟩=>?_) hs;subst ex;obtain rfl:k=P4 a:=p;exact xB m r c n l j λJ t=>⟨σ,_,t,q2⟩
variable{Q:Pl->Pr->Prop}{c:Pl}{b:Bool}
inductive TyOf (K:PZ) (H:Hp):V->Pl->Prop where
 |non:TyOf K H .non (.type "NoneType")
 |bl (x:Bool):TyOf K H (.bl x) (.type "bool")
 |int (i:Int):TyOf K H (.int i) (.type "int")
 |str (x:Qn):TyOf K H (.str x) (.type "str")
 |lst {a:Pk} {xs:List V} (e:H a=on (.lst xs)):TyOf K H (.ref a) (.type "list")
 |frz {a:Pk} {o:Qb} {xs:List V} (e:H a=on (.frz o (.lst xs))):TyOf K H (.ref a) (.type "list")
 |tup {a:Pk} {xs:List V} (e:H a=on (.tup xs)):TyOf K H (.ref a) (.type "tuple")
 |ins {a C dx:Pk} {fs:List (Qn×V)} (e:H a=on (.ins C dx fs)) (cl:Cls K C) (ha:TX K (.ref C) "__class__"=on (on (.builtin "object.__class__")))
  (hn:specialIn K (.builtin "object.__class__") "__get__"=on (on (.builtin "getset_descriptor.__get__"))) (htk:Yq K (.builtin "object.__class__")=on Pe)
  (hm:PySem.W.mroIn K C (.type "object")=on Pe):TyOf K H (.ref a) (.ref C)
theorem AC(I:Inv X pins σ H s)(d:aQ x u)(ty:TyOf X.K H x t)(e:kitOne X.K t c=on b)(h:∀j,Q (.bool b) {s with toks:=j}):
  PN (Qc X.prog X.w) A (Wv (.builtin "isinstance") [u,c]) Q E s:=by
 cases ty with
 |non=>cases(show u=QL from d);exact Ve XN I.kIn S5 e (λz=>nomatch z) h
 |bl y=>cases(show u=VH y from d);exact Ve XM I.kIn S5 e (λz=>nomatch z) h
 |int i=>obtain⟨t,q⟩:=(show ∃t,u=S7 i t from d);cases q;exact Ve X4 I.kIn S5 e (λz=>nomatch z) h
 |str y=>obtain⟨t,q⟩:=(show ∃t,u=YJ y t from d);cases q;exact Ve X6 I.kIn S5 e (λz=>nomatch z) h
 |@lst a xs ea=>
  cases(show u=P4 a from d);obtain⟨_,_,n,_,g⟩:=(show bO X.prog X.w H s.heap a (.lst xs)from I.hok a _ ea);exact Ve V2 I.kIn ⟨_,g,rfl⟩ e (λz=>nomatch z) h
 |@frz a ob xs ea=>
  cases(show u=P4 a from d);obtain⟨_,_,_,n,_,g⟩:=(show bO X.prog X.w H s.heap a (.frz ob (.lst xs))from I.hok a _ ea);exact Ve V2 I.kIn ⟨_,g,rfl⟩ e (λz=>nomatch z) h
 |@tup a xs ea=>
  cases(show u=P4 a from d);obtain⟨_,_,_,p⟩:=(show bO X.prog X.w H s.heap a (.tup xs)from I.hok a _ ea);obtain⟨o,g,k,_⟩:=p;exact Ve Xy I.kIn ⟨o,g,k⟩ e (λz=>nomatch z) h
 |@ins a C dx fs ea cl ha hn htk hm=>
  cases(show u=P4 a from d);obtain⟨l,O,_⟩:=kB I.hok ea;obtain⟨m,J,_⟩:=O.look;exact Ve (X5 (cl.get _) cl.hd ha hn htk hm) I.kIn J e (λz=>nomatch z) h
structure Room (k:Nat) (A:QP):Prop where
 hd:A.handled=Pb
 dp:A.depth+3*k+5<recursionLimit
 un:A.units+16*k+200<UY
 gd:A.guards=on []
theorem Room.mono{A:QP}(r:Room k A)(h:j<=k):Room j A:=⟨r.hd,by have:=r.dp;omega,by have:=r.un;omega,r.gd⟩
theorem Room.deeper{A:QP}(r:Room (k+1) A)(env:Wr):Room k (A.deeper env):=
 ⟨r.hd,by have:=r.dp;show A.depth+1+3*k+5<_;omega,by have:=r.un;show A.units+3+16*k+200<_;omega,r.gd⟩
theorem xW{A:QP}{C:Pk}:(A.under (.builtin "type.__call__" ⟨.ref C::us,kw⟩)).depth=A.depth+1:=by
 first|rfl|simp[VL,Code.weight,Code.isCreation,Code.isGuard,Code.isCaller,Code.frames,Xa,guardIds]
theorem xV{A:QP}{C:Pk}:(A.under (.builtin "type.__call__" ⟨.ref C::us,kw⟩)).units=A.units+1:=by
 first|rfl|simp[VL,Code.cUnits,Code.frames,Xa]
theorem Room.make{A:QP}(r:Room (k+1) A)(C:Pk)(us:List Pl)(d:List (Qn×Pl)):Room k (A.under (.builtin "type.__call__" ⟨.ref C::us,d⟩)):=
 ⟨r.hd,by have:=r.dp;rw[xW];omega,by have:=r.un;rw[xV];omega,by first|exact r.gd|simp[VL,Code.guards,Code.isGuard,guardIds,pushGuards,r.gd]⟩
theorem Room.depth{A:QP}(r:Room k A):A.depth<recursionLimit:=by have:=r.dp;omega
theorem Room.units{A:QP}(r:Room k A):A.units+64<UY:=by have:=r.un;omega
noncomputable def BW:TA:=λ_ H Q=>Q [] H
def HN(ta:TE)(tr:TA):TA:=λσ H Q=>ta σ H λx d=>tr σ d λxs g=>Q (x::xs) g
variable{es:List Expr}{te:TE}{t:TA}
theorem iY:PA X [] BW:=λ_ _ _ _ H Q I h=>Yg ⟨[],H,I,.nil,h⟩
theorem ft(ha:PE X e te)(d:PA X es t)(hs:PH (e::es) X.env=(Pj,QS e X.env)::PH es X.env:=by rfl):PA X (e::es) (HN te t):=by
 intro pos pins s σ H Q I h;rw[hs];show PN _ _ (spliced ((Pj,QS e X.env)::R4 pos (PH es X.env))) _ _ s;refine XT (thn (ha pins s σ H _ I h) λu g ⟨x,i,j,r1,q1⟩=>?_);exact thn (d pos pins g σ i _ j q1) λus n ⟨xs,k,l,m,q2⟩=>⟨x::xs,k,l,.cons r1 m,q2⟩
def tTup(t:TA):TE:=λσ H Q=>t σ H λxs d=>xs.length<=PQ/\∀p,d p=Pb->Q (.ref p) (upd d p (.tup xs))
def Li(t:TA):TE:=λσ H Q=>t σ H λxs d=>xs.length<=PQ/\∀p,d p=Pb->Q (.ref p) (upd d p (.lst xs))
theorem LV{x1}(h:PA X es t):PE X (.Tuple es x1 pos) (tTup t):=by
 intro pins s σ H Q I j;refine wpAny_Tuple_spliced (thn (h pos pins s σ H _ I j) λus d ⟨xs,g,i,r,z,q⟩=>⟨by rw[←r.length];exact z,?_⟩);have k:g d.heap.objs.size=Pb:=i.hok.fresh (Pt _);refine⟨.ref d.heap.objs.size,upd g d.heap.objs.size (.tup xs),i.laid (t':=d.toks) (λb u e=>Ph _ e) (Pt _) ?_,rfl,q _ k⟩;exact⟨z,us,r,⟨_,PP _ rfl,rfl,_,rfl⟩⟩
theorem eW(h:PA X es t):PE X (.List es pos) (Li t):=by
 intro pins s σ H Q I j;refine wpAny_List_spliced (thn (h pos pins s σ H _ I j) λus d ⟨xs,g,i,r,z,q⟩=>⟨by rw[←r.length];exact z,?_⟩);have k:g d.heap.objs.size=Pb:=i.hok.fresh (Pt _);refine⟨.ref d.heap.objs.size,upd g d.heap.objs.size (.lst xs),i.laid (t':=d.toks) (λb u e=>Ph _ e) (Pt _) ?_,rfl,q _ k⟩;exact⟨z,us,0,r,PP _ rfl⟩
abbrev Sp:=List V->Hp->VK->XK->Prop
abbrev CXT:=List Wr->Hp->Pr->XK->Pl->Pr->Prop
structure Env0 (P:Qf) (w:Qq) (K:PZ) (mg:Qn->Option Pl) (base:QW) (A:QP) (outer:List Wr) (s:Pr) (H:Hp):Prop where
 frames:A.frames=on outer
 mod:Mod K mg base
 bs:∀b o,base.get? b=on o->s.heap.get? b=on o/\H b=Pb
 bsz:base.objs.size<=s.heap.objs.size
 funs:s.heap.FunFrames base outer
 frf:∀b∈frs outer,H b=Pb
 hok:HOk P w H s.heap
 bare:UK s.gens
def CE(outer:List Wr)(P:Qf)(w:Qq)(H:Hp)(s:Pr)(Q:VK)(u:Pl)(s':Pr):Prop:=
 ∃v H',s'.os=s.os/\UK s'.gens/\Un (frs outer) [] H H' s.heap s'.heap/\HOk P w H' s'.heap/\aQ v u/\Q v H'
def CR(CX:CXT)(outer:List Wr)(P:Qf)(w:Qq)(H:Hp)(s:Pr)(Q:VK)(E:XK)(r:Result)(s':Pr):Prop:=
 match r with
 | .ok (.ret u)=>CE outer P w H s Q u s'
 | .ok _=>False
 | .error e=>CX outer H s E e s'
structure FnOk (P:Qf) (w:Qq) (K:PZ) (mg:Qn->Option Pl) (base:QW) (CX:CXT) (k:Nat) (f:Pk) (fd:P9) (ps:List Qn) (sp:Sp):Prop where
 len:∀vs H Q E,sp vs H Q E->vs.length=ps.length
 run:∀(A:QP) (outer:List Wr) (s:Pr) (H:Hp) (args:Args) (us:List Pl) (vs:List V) (Q:VK) (E:XK),Room k A->Env0 P w K mg base A outer s H->VU s fd args (ps.zip us)->ay vs us->sp vs H Q E->
  TU (Qc P w) A (.call (.ref f) args) (CR CX outer P w H s Q E) s
theorem FnOk.mono{P:Qf}{w:Qq}{K:PZ}{f:Pk}(F:FnOk P w K mg base CX j f fd ps sp)(h:j<=k):
  FnOk P w K mg base CX k f fd ps sp:=⟨F.len,λA outer s H args us vs Q E d=>F.run A outer s H args us vs Q E (d.mono h)⟩
theorem Env0.make{P:Qf}{w:Qq}{K:PZ}{A:QP}{s:Pr}{H:Hp}(e:Env0 P w K mg base A outer s H)(C:Pk)(us:List Pl)(d:List (Qn×Pl)):
  Env0 P w K mg base (A.under (.builtin "type.__call__" ⟨.ref C::us,d⟩)) outer s H:=⟨by first|exact e.frames|(simpa[VL,Code.envs,Xa,pushEnvs]using e.frames),e.mod,e.bs,e.bsz,e.funs,e.frf,e.hok,e.bare⟩
variable{s':Pr}
theorem Inv.env0(I:Inv X pins σ H s):Env0 X.prog X.w X.K X.mg X.base X.A X.stack s H:=
 ⟨I.ok.frames,I.ok.mod,I.bs,P3 I.ok.bsz I.sz,I.stack,I.stkFree,I.hok,I.bare⟩
theorem Inv.after{Q:VK}(I:Inv X pins σ H s)(h:CE X.stack X.prog X.w H s Q u s'):EP X pins σ Q u s':=by
 obtain⟨v,H',os,bare,un,hok,r,q⟩:=h;obtain⟨j,g,d,t,i⟩:=s';obtain rfl:i=s.os:=os;exact⟨v,H',I.call (h':=j) (g':=g) (d':=d) (t':=t) (ch:=[]) un hok bare (λb z=>P6 z (by simp)),r,q⟩
def Oi(sp:Sp)(d:List V)(E:St->XK)(t:TA):TE:=λσ H Q=>t σ H λvs g=>sp (vs++d) g Q (E σ)
def xw(C:Pk)(m:Qn)(sp:Sp)(d:List V)(E:St->XK)(ta:TE)(t:TA):TE:=λσ H Q=>ta σ H λx g=>∃a dx fs,x= .ref a/\g a=on (.ins C dx fs)/\fs.lookup m=Pb/\
 t σ g λvs i=>sp (x::(vs++d)) i Q (E σ)
def aD(K:PZ)(d:P9)(ps:List Qn)(ds:List Pl):Prop:=
 ∀(s:Pr) (us:List Pl),K.In s.heap->(us++ds).length=ps.length->VU s d ⟨us,[]⟩ (ps.zip (us++ds))
theorem aD.all{K:PZ}{ps:List Qn}(h:∀us:List Pl,us.length=ps.length->bindArgs fd ⟨us,[]⟩=RZ (ps.zip us)):aD K fd ps []:=λs us _ d=>by
 rw[Qe]at d⊢;exact .of_eq (h us d)
def dH(CX:CXT)(X:Cx)(E:St->XK):Prop:=∀(pins:List (Pk×Qb)) (σ:St) (H:Hp) (s:Pr) (e:Pl) (s':Pr),Inv X pins σ H s->CX X.stack H s (E σ) e s'->X.xe e s'
end
section
variable{X:Cx}{CX:CXT}{k:Nat}{f C:Pk}{fd:P9}{ps:List Qn}{sp:Sp}{dvs:List V}{ds:List Pl}{E:St->XK}{x m:Qn}{p pos apos:Uj}{e o:Expr}{es:List Expr}{ta:TE}{t:TA}
theorem uH(F:FnOk X.prog X.w X.K X.mg X.base CX k f fd ps sp)(c:Room k X.A)(d:aD X.K fd ps ds)(hd:ay dvs ds)(g:dH CX X E)
  (I:Inv X pins σ H s) (r:ay vs us) (h:sp (vs++dvs) H Q (E σ)):PN (Qc X.prog X.w) X.A (Wv (.ref f) us) (EP X pins σ Q) X.xe s:=by
 have b:ay (vs++dvs) (us++ds):=r.append hd;have i:(us++ds).length=ps.length:=by rw[←b.length];exact F.len _ _ _ _ h
 refine wpAny_call (UP (F.run X.A X.stack s H ⟨us,[]⟩ (us++ds) (vs++dvs) Q (E σ) c I.env0 (d s us I.kIn i) b h) λr s' a=>?_);cases r with
 |error e=>exact g pins σ H s e s' I a
 |ok fl=>
  cases fl with
  |ret u=>exact I.after a
  |next=>exact Sa a
  |brk=>exact Sa a
  |cont=>exact Sa a
theorem ng(F:FnOk X.prog X.w X.K X.mg X.base CX k f fd ps sp)(g:Room k X.A)(i:Gl X x)(hm:X.mg x=on (.ref f))(j:U1 X.K (.ref f)=Pe)(l:aD X.K fd ps ds)(hd:ay dvs ds)(n:dH CX X E)
  (ha:PA X (e::es) t) (b:(x==("__debug__":Qn))=Pj:=by decide) (u:PH (e::es) X.env=(Pj,QS e X.env)::PH es X.env:=by rfl) (c:(R4 pos (PH es X.env)).any (·.1)=Pj:=by rfl):
  PE X (.Call (.Name x p) (e::es) [] pos) (Oi sp dvs E t):=by
 intro a s v H Q I h;refine U2 (re I i hm ?_ b);refine Xo (h₀:=X.base) I.ok.mod.kin j (thn (ha pos a s v H _ I h) λus y ⟨vs,B,d,r,q⟩=>⟨d.kIn,?_⟩) u c;exact uH F g l hd n d r q
theorem Kd(v:PE X o ta)(c:Cls X.K C)(hm:Meth X.K C m f)(F:FnOk X.prog X.w X.K X.mg X.base CX k f fd ps sp)(y:Room k X.A)(B:aD X.K fd ps ds)(hd:ay dvs ds)(J:dH CX X E)(ha:PA X (e::es) t)
  (d:PH (e::es) X.env=(Pj,QS e X.env)::PH es X.env:=by rfl) (g:(R4 pos (PH es X.env)).any (·.1)=Pj:=by rfl)
  (L:QS (.Call (.Attribute o m apos) (e::es) [] pos) X.env=(do
   let ov ←QS o X.env
   Tz apos.atName
   let (f,first) ←T9 [ov] (V0 ov m pl)
   callWith pos f first (R4 pos (PH (e::es) X.env)) (SY pos (RO [] X.env))):=by rfl):
  PE X (.Call (.Attribute o m apos) (e::es) [] pos) (xw C m sp dvs E ta t):=by
 intro b s i H Q I h;refine WX (pl:=pl) (thn (v b s i H _ I h) λu N ⟨x,O,j,P,a,T,fs,ex,R,l,q⟩=>?_) L;subst ex;obtain rfl:u=P4 a:=P;refine qq j R c hm l ?_;refine Xo (first:=[.ref a]) (h₀:=X.base) I.ok.mod.kin hm.kp (thn (ha pos b N i O _ j q) λus U ⟨vs,W,n,r,q2⟩=>⟨n.kIn,?_⟩) d g
 exact uH (us:= .ref a::us) (vs:= .ref a::vs) F y B hd J n (.cons rfl r) q2
theorem CU(g:PE X o ta)(c:Cls X.K C)(hm:Meth X.K C m f)(F:FnOk X.prog X.w X.K X.mg X.base CX k f fd ps sp)(i:Room k X.A)(j:aD X.K fd ps ds)(hd:ay dvs ds)(n:dH CX X E)
  (r:QS (.Call (.Attribute o m apos) [] [] pos) X.env=(do
   let ov ←QS o X.env
   Tz apos.atName
   let (f,first) ←T9 [ov] (V0 ov m pl)
   callWith pos f first (R4 pos (PH [] X.env)) (SY pos (RO [] X.env))):=by rfl):
  PE X (.Call (.Attribute o m apos) [] [] pos) (xw C m sp dvs E ta BW):=by
 intro b s v H Q I h;refine WX (pl:=pl) (thn (g b s v H _ I h) λu J ⟨x,L,d,y,a,N,fs,ex,B,l,q⟩=>?_) r;subst ex;obtain rfl:u=P4 a:=y;refine qq d B c hm l ?_;exact PySem.W.callWith_K0 (first:=[.ref a]) d.kIn hm.kp (uH (us:=[.ref a]) (vs:=[.ref a]) F i j hd n d (.cons rfl .nil) q)
structure Mk (K:PZ) (C f:Pk):Prop where
 makes:Yp K C=Pe
 init:TX K (.ref C) "__init__"=on (on (.ref f))
 fn:isFn K (.ref f)=Pe
 kp:U1 K (.ref C)=Pe
def PK(X:Cx)(b:List Vc)(t:TA):Prop:=
 ∀(pos:Uj) (a:List (Pk×Qb)) (s:Pr) (c:St) (H:Hp) (Q:List V->Hp->Prop),Inv X a c H s->t c H Q->PN (Qc X.prog X.w) X.A (evalAll ((SY pos (RO b X.env)).map (·.2))) (AP X a c Q) X.xe s
variable{ks:List Qn}{kpos:Uj}{kws:List Vc}{te:TE}{tk:TA}{nm:Option Qn}
theorem LR:PK X [] BW:=λ_ _ _ _ H Q I h=>wpAny_evalAll_nil ⟨[],H,I,.nil,h⟩
theorem J9(ha:PE X e te)(c:PK X kws t):PK X (⟨nm,e,kpos⟩::kws) (HN te t):=by
 intro pos a s b H Q I h;show PN _ _ (evalAll ((do let v ←QS e X.env;Tz pos;RZ v)::(SY pos (RO kws X.env)).map (·.2))) _ _ s
 refine wpAny_evalAll_cons (My (thn (ha a s b H _ I h) λu d ⟨x,g,i,r1,q1⟩=>My (Sf (Pc ?_))));exact thn (c pos a d b g _ i q1) λus q ⟨xs,j,l,n,q2⟩=>⟨x::xs,j,l,.cons r1 n,q2⟩
structure KBinds (K:PZ) (fd:P9) (ps ks:List Qn) (g:List Pl->List Pl->List Pl) (gV:List V->List V->List V):Prop where
 to:∀(s:Pr) (us ws:List Pl),K.In s.heap->(g us ws).length=ps.length->VU s fd ⟨us,ks.zip ws⟩ (ps.zip (g us ws))
 rel:∀{vs:List V} {us:List Pl} {zs:List V} {ws:List Pl},ay vs us->ay zs ws->ay (gV vs zs) (g us ws)
variable{g:List Pl->List Pl->List Pl}{gV:List V->List V->List V}
structure FnScope (N P:List Qn) (sc:Scope):Prop where
 kind:sc.kind= .function
 co:sc.isCoroutine=Pj
 gen:sc.isGenerator=Pj
 nd:N.Nodup
 pre:N.take P.length=P
 par:∀x∈P,sc.names.lookup x=on .local\/sc.names.lookup x=on .cell
 nofree:∀y∈sc.names,y.2≠ .free
theorem sV{b:Qn->Option Tg}{x:Qn}:∀{a:List (Qn×Pl)} {m:Qn->Option Pl},(∀v,(x,v)∉a)->Yv b a m x=m x
 |[],_,_=>rfl
 |(n,v)::r,m,h=>by
  unfold Yv;rw[sV λw c=>h w (Pg _ c)];split
  ·have:x≠n:=by rintro rfl;exact h v Pn
   simp[this]
  ·rfl
theorem sX{b:Qn->Option Tg}{x:Qn}:∀{a:List (Qn×Pl)} {m:Qn->Option Pl},(∀v,(x,v)∉a)->Yu b a m x=m x
 |[],_,_=>rfl
 |(n,v)::r,m,h=>by
  unfold Yu;rw[sX λw c=>h w (Pg _ c)];split
  ·rfl
  ·have:x≠n:=by rintro rfl;exact h v Pn
   simp[this]
theorem sW{a:Qn->Option Tg}{x:Qn}{v:Pl}:∀{P:List Qn} {vs:List Pl} {i:Nat} {m:Qn->Option Pl},P.Nodup->P[i]?=on x->vs[i]?=on v->a x=on .local->
  Yv a (P.zip vs) m x=on v
 |[],_,_,_,_,h,_,_=>by simp at h
 |_::_,[],_,_,_,_,h,_=>by simp at h
 |p::P,w::vs,0,m,nd,h1,h2,hk=>by
  simp at h1 h2;subst h1;subst h2;show Yv a ((p,w)::P.zip vs) m p=_;unfold Yv;rw[sV λv b=>(Qu.mp nd).1 (Wm b).1,Ps hk];simp
 |p::P,w::vs,i+1,m,nd,h1,h2,hk=>by
  show Yv a ((p,w)::P.zip vs) m x=_;unfold Yv;exact sW (i:=i) (Qu.mp nd).2 (by simpa using h1) (by simpa using h2) hk
theorem sY{a:Qn->Option Tg}{x:Qn}{v:Pl}:∀{P:List Qn} {vs:List Pl} {i:Nat} {m:Qn->Option Pl},P.Nodup->P[i]?=on x->vs[i]?=on v->a x≠on .local->
  Yu a (P.zip vs) m x=on v
 |[],_,_,_,_,h,_,_=>by simp at h
 |_::_,[],_,_,_,_,h,_=>by simp at h
 |p::P,w::vs,0,m,nd,h1,h2,hk=>by
  simp at h1 h2;subst h1;subst h2;show Yu a ((p,w)::P.zip vs) m p=_;unfold Yu;rw[sX λv b=>(Qu.mp nd).1 (Wm b).1,Po hk];simp
 |p::P,w::vs,i+1,m,nd,h1,h2,hk=>by
  show Yu a ((p,w)::P.zip vs) m x=_;unfold Yu;exact sY (i:=i) (Qu.mp nd).2 (by simpa using h1) (by simpa using h2) hk
noncomputable def fU(N:List Qn)(vs:List V):St:=vs.map on++PR (N.length-vs.length) Pb
noncomputable def f8(CX:CXT)(P:Qf)(w:Qq)(K:PZ)(mg:Qn->Option Pl)(base:QW)(N:List Qn)(a:Qn)(scope:Scope)(f:Pk)(cd:Pl)(A:QP)(outer:List Wr)(s:Pr)(H:Hp)(E:XK):Cx where
 prog:=P
 w:=w
 K:=K
 mg:=mg
 base:=base
 A:=A.deeper (T7 a scope s.heap.objs.size f cd)
 N:=N
 s₀:=s
 H₀:=H
 env:=T7 a scope s.heap.objs.size f cd
 outer:=outer
 stack:=T7 a scope s.heap.objs.size f cd::outer
 ex:=[]
 calm:=Pe
 fn:=λ_=>Pe
 pn:=[]
 xe:=λe s'=>PN (Qc P w) (A.deeper (T7 a scope s.heap.objs.size f cd)) (leaving (T7 a scope s.heap.objs.size f cd) e) (λ_ b=>CX outer H s E e b) (λc b=>CX outer H s E c b) s'
theorem vJ{a:Scope}{x:Qn}(h:a.names.lookup x=on .cell):∃c,(Rt n a.names []).lookup x=on c:=by
 have q:=Xs a.names n [] (.inl h);exact WG.mp q
theorem AE{CX:CXT}{K:PZ}{N ps:List Qn}{scope:Scope}{f:Pk}{A:QP}{s L:Pr}{E:XK}{vs:List V}
  (S:FnScope N ps scope) (hd:A.handled=Pb) (j:Env0 P w K mg base A outer s H) (U:vs.length=ps.length) (r:ay vs us)
  (x:InCallC s s.heap.objs.size (Yv (T7 qual scope s.heap.objs.size f cd).kindOf (ps.zip us) λ_=>Pb) (Rt (s.heap.objs.size+1) scope.names []) (Yu (T7 qual scope s.heap.objs.size f cd).kindOf (ps.zip us) λ_=>Pb) L):
  Inv (f8 CX P w K mg base N qual scope f cd A outer s H E) [] (fU N vs) H L:=by
 have R:ps.length<=N.length:=by have:=QN Vu S.pre;rw[RA]at this;omega
 obtain⟨I,tk,rfl,O⟩:=x.done;have l:∀b:Pk,b∉(f8 CX P w K mg base N qual scope f cd A outer s H E).ex:=λb z=>P6 (show b∈([]:List Pk)from z) (by simp);refine⟨⟨j.mod,S.kind,rfl,rfl,Pt _,λy z c I d=>?_,λy hy=>?_,λy c _ h=>?_,λ_=>hd,Around.frames_deeper j.frames,.inr ⟨rfl,rfl⟩,λb z=>P6 z (l b),j.bs,j.bsz,λb _ _=>l b,λb z=>P6 z (l b),j.funs,j.frf⟩,
  rfl,j.bare,Un.kept O,⟨_,x.toInCall.ns,λi y v I d W=>?_⟩,λy c h=>⟨_,x.cell y c h⟩,j.hok.fresh (Pt _),λy c h=>?_,λp B=>P6 (show p∈([]:List (Pk×Qb))from B) (by simp),j.hok.kept O,?_⟩
 ·exact name_of_addr x.apart (Q2 I) (Q2 d)
 ·have hy:scope.names.lookup y=on .cell\/scope.names.lookup y=on .free:=hy
  rcases hy with hy|hy
  ·exact vJ hy
  ·exact P6 rfl (S.nofree _ (Q2 hy))
 ·exact Vk (x.above y c (Q2 h))
 ·have J:i<vs.length:=by
   unfold fU at d;by_cases J:i<vs.length
   ·exact J
   ·rw[Rh (by simpa using J)]at d
    rw[RY]at d;split at d<;>cases d
  have ha:vs[i]?=on v:=by
   unfold fU at d;rw[Sh (by simpa using J),Pi]at d;cases e:vs[i]? with
   |none=>rw[e]at d;cases d
   |some a=>rw[e]at d;cases d;rfl
  obtain⟨u,Q,T⟩:=r.get ha;have B:ps[i]?=on y:=by
   rw[←S.pre,WU (by omega)];exact I
  have F:ps.Nodup:=by rw[←S.pre];exact S.nd.sublist (List.take_sublist _ _)
  refine⟨u,T,?_⟩;rcases S.par y (PU B)with k|k
  ·exact .inl ⟨k,sW F B Q k⟩
  ·obtain⟨c,e⟩:=vJ (n:=s.heap.objs.size+1) k
   refine .inr ⟨.inl k,c,e,?_⟩;have q:=x.cell y c e;rw[sY F B Q (by show scope.names.lookup y≠_;rw[k];decide)]at q;exact q
 ·exact j.hok.fresh (Vk (x.above y c (Q2 h)))
 ·unfold fU
  show _=N.length;rw[PM,Pa,Q1];omega
theorem IT{CX:CXT}{K:PZ}{k:Nat}{f:Pk}
  {N ps:List Qn} {sp:Sp} (U:K.lookup f=on ⟨oc,od,.func (TK name qual params body scope dV kV doc pm an cdv ct),osl⟩) (B:Uk K cdv qual=Pe) (S:FnScope N ps scope)
  (len:∀vs H Q E,sp vs H Q E->vs.length=ps.length)
  (d:∀(A:QP) (outer:List Wr) (s:Pr) (H:Hp) (vs:List V) (Q:VK) (E:XK),Room k (A.deeper (T7 qual scope s.heap.objs.size f cdv))->sp vs H Q E->
   ∃t,PSs (f8 CX P w K mg base N qual scope f cdv A outer s H E) body t/\t {nx:=λ_ c=>Q .non c,rt:=Q} (fU N vs) H):
  FnOk P w K mg base CX (k+1) f (TK name qual params body scope dV kV doc pm an cdv ct) ps sp:=by
 refine⟨len,λA outer s H args us vs Q E F i Y r j=>?_⟩;have Z:=len _ _ _ _ j;have R:K.In s.heap:=i.mod.kin.keeps λb o e=>(i.bs b o e).1;have L:s.heap.NoLimit:=i.mod.nolimit.keeps λb o e=>(i.bs b o e).1;have h:∀y∈ps.zip us,scope.names.lookup y.1=on .local\/(scope.names.lookup y.1=on .cell/\((Rt (s.heap.objs.size+1) scope.names []).lookup y.1).isSome=Pe):=λ⟨n,v⟩ hy=>by
  rcases S.par n (Wm hy).1 with q|q
  ·exact .inl q
  ·exact .inr ⟨q,Xs _ _ _ (.inl q)⟩
 refine codeAny_call_function F.depth (R _ _ U) rfl S.co S.gen rfl (PySem.W.codeRec_of R B) (Y _ _ _ _ ?_);refine wpAny_newFunctionEnv_cells S.kind h λenv he T x=>?_;subst he;refine⟨L.keeps x.toInCall.keep,codeAny_func ?_⟩;obtain⟨t,ht,hq⟩:=d A outer s H vs Q E (F.deeper _) j;have I:Inv (f8 CX P w K mg base N qual scope f cdv A outer s H E) [] (fU N vs) H T:=AE S F.hd i Z r x;refine QG (ht [] T (fU N vs) H _ I hq) (λfl s' hs=>?_) λe s' hs=>hs;have l:∀{a:St} {c:Hp} {v:V} {u:Pl},Inv (f8 CX P w K mg base N qual scope f cdv A outer s H E) [] a c s'->aQ v u->Q v c->CE outer P w H s Q u s':=
  λ{a c v u} J O q=>⟨v,c,J.os,J.bare,J.base,J.hok,O,q⟩
 cases fl with
 |ret u=>
  obtain⟨v,a,c,J,O,q⟩:=hs;exact l J O q
 |next=>
  obtain⟨a,c,J,q⟩:=hs;exact l (v:=V.non) (u:=QL) J rfl q
 |brk=>
  obtain⟨_,_,_,q⟩:=hs;exact Sa q
 |cont=>
  obtain⟨_,_,_,q⟩:=hs;exact Sa q
variable{id T:String}{r:List V->Hp->VK->Prop}
def tCB(r:List V->Hp->VK->Prop)(t:TA):TE:=λa H Q=>t a H λvs b=>r vs b Q
theorem k6(i:dI X (.builtin id) r)(j:Gl X x)(hm:X.mg x=Pb)(l:Tx x=on (.builtin id))(ha:PA X (e::es) t)(hn:x≠"__name__":=by decide)(b:(x==("__debug__":Qn))=Pj:=by decide)
  (n:PH (e::es) X.env=(Pj,QS e X.env)::PH es X.env:=by rfl) (c:(R4 pos (PH es X.env)).any (·.1)=Pj:=by rfl):PE X (.Call (.Name x p) (e::es) [] pos) (tCB r t):=by
 intro a s d H Q I h;refine U2 (gj I j hm l ?_ hn b);exact PyProof.Rows.callWith_builtin1 (thn (ha pos a s d H _ I h) λus q ⟨vs,u,v,r1,q1⟩=>i a q d u vs us Q v r1 q1) n c
theorem zr(i:dI X (.type T) r)(j:Gl X x)(hm:X.mg x=Pb)(l:Tx x=on (.type T))(ha:PA X (e::es) t)(hn:x≠"__name__":=by decide)(b:(x==("__debug__":Qn))=Pj:=by decide)
  (n:PH (e::es) X.env=(Pj,QS e X.env)::PH es X.env:=by rfl) (c:(R4 pos (PH es X.env)).any (·.1)=Pj:=by rfl):PE X (.Call (.Name x p) (e::es) [] pos) (tCB r t):=by
 intro a s d H Q I h;refine U2 (gj I j hm l ?_ hn b);exact Q8 (thn (ha pos a s d H _ I h) λus q ⟨vs,u,v,r1,q1⟩=>i a q d u vs us Q v r1 q1) n c
end
end L2
namespace HT
open PySem PyProof.Rows
section
open PySem.SeqAt
open PySem.AutoSeq1 (wpAny_loadPart')
open PySem.MeetsSeq PySem.MeetsSeq2 PySem.MeetsSeq3
end
section
variable{prog:Qf}{w:Qq}{A:QP}{E:Pl->Pr->Prop}{s:Pr}
theorem cat_tup{vs a:List Pl}(v:IsTup s.heap t vs.toArray)(y:IsTup s.heap b a.toArray)(m:vs≠[])
  (B:a=[]->Q (.ref t) s) (C:a≠[]->Q (.ref s.heap.objs.size) {s with heap:=s.heap.push {cls:= .type "tuple",data:= .seq (vs++a).toArray}})
  (k:vs.length+a.length<=PQ):PN (Qc prog w) A (Sy .Add (.ref t) (.ref b)) Q E s:=by
 obtain⟨⟨cls,o,data,p⟩,i,q,n,hd⟩:=id v;obtain⟨⟨r,d,l,f⟩,c,g,u,h⟩:=id y;simp only at q hd g h;subst q hd g h;have e:vs.toArray++a.toArray=(vs++a).toArray:=by simp
 by_cases j:a=[]
 ·exact concat_meets ⟨_,i,rfl⟩ ⟨_,c,rfl⟩ WP X9 UW UO (UG _ _)
   (tuple_addW1 t b vs.toArray a.toArray n u o d p f (by simpa using m) (by simp[j])) ⟨i,c,B j⟩
 ·refine concat_meets ⟨_,i,rfl⟩ ⟨_,c,rfl⟩ WP X9 UW UO (UG _ _)
   (tuple_addW2 t b vs.toArray a.toArray n u o d p f (by simpa using m) (by simpa using j) (by rw[PV,PV];exact k)) ⟨i,c,?_⟩
  rw[e];exact C j
noncomputable def sIx(n d:Nat):Option Int->Nat
 |none=>d
 |some v=>if v<0 then(v+(n:Int)).toNat else SX v.toNat n
theorem sIx_none(n d:Nat):sIx n d Pb=d:=rfl
theorem sIx_nat(n d k:Nat):sIx n d (on (k:Int))=SX k n:=by
 show(if(k:Int)<0 then((k:Int)+(n:Int)).toNat else SX (k:Int).toNat n)=SX k n;rw[Po (by omega),Q7]
end
end HT
namespace L2
open PySem PySem.Spec PyProof.Rows
abbrev TO:=St->Hp->(Option Int->Hp->Prop)->Prop
def PO(X:Cx)(e:Option Expr)(t:TO):Prop:=
 ∀(a:List (Pk×Qb)) (s:Pr) (b:St) (H:Hp) (Q:Option Int->Hp->Prop),Inv X a b H s->t b H Q->
  PN (Qc X.prog X.w) X.A (evalPart e X.env) (λu s'=>∃o c,Inv X a b c s'/\IsPart u o/\Q o c) X.xe s
noncomputable def JP:TO:=λ_ H Q=>Q Pb H
def Og(t:TE):TO:=λa H Q=>t a H λx b=>∃i,x= .int i/\Q (on i) b
theorem qo{ns:List Int}:∀{us:List Pl},ay (ns.map V.int) us->Xc us ns:=by
 induction ns with
 |nil=>intro us r;rw[Rk]at r;cases r;exact .nil
 |cons n ns ih=>
  intro us r;rw[Py]at r;cases r with
  |cons r1 a=>
   obtain⟨t,e⟩:=r1;subst e;exact .cons n t (ih a)
section
variable{X:Cx}{e:Expr}{te:TE}{lo hi:Option Expr}{tl th:TO}{pos p2:Uj}
theorem wu:PO X Pb JP:=by
 intro a s b H Q I h;rw[X8];exact Pc ⟨Pb,H,I,.none,h⟩
theorem wt(h:PE X e te):PO X (on e) (Og te):=by
 intro a s b H Q I c;rw[evalPart_some];refine thn (h a s b H _ I c) λu g ⟨x,d,f,r1,q1⟩=>?_;obtain⟨i,rfl,q⟩:=q1;obtain⟨t,rfl⟩:=r1;exact⟨on i,d,f,.int i t,q⟩
def SlR(X:Cx)(r:V->Option Int->Option Int->Hp->VK->Prop):Prop:=
 ∀(a:List (Pk×Qb)) (s:Pr) (b:St) (H:Hp) (x:V) (v c d:Pl) (lo hi:Option Int) (f:Pk) (Q:VK),Inv X a b H s->aQ x v->s.heap.IsSliceOf f c d .none->IsPart c lo->IsPart d hi->r x lo hi H Q->
  ∃T g,typeLookup (.type T) "__getitem__"=RZ (on (.builtin g))/\s.TypeIs v T/\PN (Qc X.prog X.w) X.A (getItem v (.ref f)) (EP X a b Q) X.xe s
def tSl(r:V->Option Int->Option Int->Hp->VK->Prop)(te:TE)(tl th:TO):TE:=λa H Q=>te a H λx b=>tl a b λl c=>th a c λu d=>r x l u d Q
theorem uM(j:SlR X r)(k:PE X e te)(m:PO X lo tl)(n:PO X hi th):PE X (.Subscript e (.Slice lo hi Pb p2) pos) (tSl r te tl th):=by
 intro a s d H Q I h;refine Subscript_ (thn (k a s d H _ I h) λv o ⟨x,p,t,r1,q1⟩=>?_);refine wpAny_Slice (thn (m a o d p _ t q1) λf y ⟨l,B,C,pl,q2⟩=>thn (n a y d B _ C q2) λg c ⟨u,i,F,J,q3⟩=>?_);rw[X8];refine Pc ?_;have L:Inv X a d i {c with heap:=c.heap.push {cls:= .type "slice",data:= .fields #[f,g,.none]}}:=F.kept (t':=c.toks) λb R q=>Ph _ q;obtain⟨T,U,N,O,P⟩:=j a {c with heap:=c.heap.push {cls:= .type "slice",data:= .fields #[f,g,.none]}} d i x v f g l u c.heap.objs.size Q L r1 (Wj ..) pl J q3;show PN (Qc X.prog X.w) X.A (Yb e (.Slice lo hi Pb p2) v (.ref c.heap.objs.size)) (EP X a d Q) X.xe {c with heap:=c.heap.push {cls:= .type "slice",data:= .fields #[f,g,.none]}};exact tail_any (ops:=[.ref c.heap.objs.size,v]) O N P (by with_unfolding_all rfl)
noncomputable def mE(xs:List V)(lo hi:Option Int):List V:=(xs.drop (HT.sIx xs.length 0 lo)).take (HT.sIx xs.length xs.length hi-HT.sIx xs.length 0 lo)
theorem vT(xs:List V)(lo hi:Option Int):(mE xs lo hi).length<=xs.length:=by
 unfold mE;rw[RA,V5];omega
def xJ(K:PZ):R2:=λx y H Q=>∃a b xs ys,x= .ref a/\y= .ref b/\SqT K H a xs/\SqT K H b ys/\xs≠[]/\xs.length+ys.length<=PQ/\
 (ys=[]->Q (.ref a) H)/\(ys≠[]->∀p,H p=Pb->Q (.ref p) (upd H p (.tup (xs++ys))))
theorem ay.nil_iff(r:ay xs us):us=[]↔xs=[]:=by
 cases r with
 |nil=>simp
 |cons _ _=>simp
theorem Ki:OpR X (Sy .Add) (xJ X.K):=by
 intro d s n H x y v u Q I i j h;obtain⟨a,b,xs,ys,rfl,rfl,ha,k,l,f,q1,q2⟩:=h;cases i;cases j;obtain⟨its,r1,m,_⟩:=I.tuple ha;obtain⟨g,c,p2,_⟩:=I.tuple k;refine HT.cat_tup m p2 (λz=>l (r1.nil_iff.mp z)) (λz=>⟨.ref a,H,I,rfl,q1 (c.nil_iff.mp z)⟩) (λz=>?_) (by rw[←r1.length,←c.length];exact f);refine⟨.ref s.heap.objs.size,_,I.laid (t':=s.toks) (o:= .tup (xs++ys)) (λb p q=>Ph _ q) (Pt _) ?_,rfl,q2 (λw=>z (c.nil_iff.mpr w)) _ (I.hok.fresh (Pt _))⟩;exact⟨by rw[PM];exact f,_,r1.append c,IsTup.new _ _⟩
noncomputable def ixN(n:Nat)(i:Int):Option Nat:=if 0<=i then(if i<n then on i.toNat else Pb)else if -(n:Int)<=i then on (i+n).toNat else Pb
def atI{α:Type}(xs:List α)(i:Int):Option α:=(ixN xs.length i).bind λj=>xs[j]?
theorem wL(h:ixN n i=on j):seqIndex? i n=on j/\j<n/\-(n:Int)<=i/\i<n:=by
 unfold ixN at h;by_cases b:0<=i
 ·rw[Ps b]at h
  by_cases a:i<n
  ·rw[Ps a]at h
   have e:i.toNat=j:=Qd h;exact⟨by rw[seqIndex_of b a,e],by omega,by omega,a⟩
  ·rw[Po a]at h;cases h
 ·rw[Po b]at h
  by_cases a:-(n:Int)<=i
  ·rw[Ps a]at h
   have e:(i+n).toNat=j:=Qd h;exact⟨by rw[YN (by omega) a,e],by omega,a,by omega⟩
  ·rw[Po a]at h;cases h
theorem xa{α:Type}{xs:List α}{i:Int}{v:α}(h:atI xs i=on v):∃j,seqIndex? i xs.length=on j/\xs[j]?=on v/\j<xs.length/\-(xs.length:Int)<=i/\i<xs.length:=by
 unfold atI at h;cases e:ixN xs.length i with
 |none=>rw[e]at h;cases h
 |some j=>
  rw[e]at h;obtain⟨a,b,c,d⟩:=wL e;exact⟨j,a,h,b,c,d⟩
theorem K7{α:Type}{xs:List α}{j:Nat}{v:α}(h:xs[j]?=on v):atI xs (j:Int)=on v:=by
 have a:j<xs.length:=(Px.mp h).1;have e:ixN xs.length (j:Int)=on j:=by
  unfold ixN;rw[Ps (by omega),Ps (by omega)];simp
 unfold atI;rw[e];exact h
def xg(b:Expr):Prop:=∀o i,subscripted b Pj o i=operate [o,i] (getItem o i)
def IxR(X:Cx)(r:R2):Prop:=
 ∀(c a:Expr) (b:List (Pk×Qb)) (s:Pr) (d:St) (H:Hp) (x y:V) (v u:Pl) (Q:VK),Inv X b d H s->aQ x v->aQ y u->r x y H Q->
  subscripted a Pj v u=operate [v,u] (getItem v u)->PN (Qc X.prog X.w) X.A (Yb c a v u) (EP X b d Q) X.xe s
def MtR(X:Cx)(c:String)(r:V->List V->Hp->VK->Prop):Prop:=
 ∀(a:List (Pk×Qb)) (s:Pr) (b:St) (H:Hp) (x:V) (xs:List V) (v:Pl) (us:List Pl) (Q:VK),Inv X a b H s->aQ x v->ay xs us->r x xs H Q->
  PN (Qc X.prog X.w) X.A (Wv (.builtin c) (v::us)) (EP X a b Q) X.xe s
variable{a b:Expr}{ta tb:TE}
theorem IxR.or(h:IxR X r)(h':IxR X r'):IxR X (λx y H Q=>r x y H Q\/r' x y H Q):=by
 intro c d f s g H x y v u Q I i j q hs;rcases q with q|q
 ·exact h c d f s g H x y v u Q I i j q hs
 ·exact h' c d f s g H x y v u Q I i j q hs
theorem gi(d:IxR X r)(ha:PE X a ta)(f:PE X b tb)(hs:xg b):PE X (.Subscript a b pos) (tOp r ta tb):=by
 intro c s g H Q I h;exact Subscript_ (ET ha f I h λv u i x y j k l m q=>d a b c i g j x y v u Q k l m q (hs _ _))
def xI(K:PZ):R2:=λx y H Q=>∃p xs i v,x= .ref p/\y= .int i/\SqL K H p xs/\atI xs i=on v/\Q v H
def CL(K:PZ):R2:=λx y H Q=>∃p xs i v,x= .ref p/\y= .int i/\SqT K H p xs/\atI xs i=on v/\Q v H
theorem dQ:IxR X (xI X.K):=by
 intro g k c s n H x y v u Q I B C h hs;obtain⟨p,xs,i,z,rfl,rfl,F,J,q⟩:=h;cases B;obtain⟨t,rfl⟩:=C;obtain⟨its,r,pl,R⟩:=I.list F;obtain⟨j,f,L,T,N,O⟩:=xa J;obtain⟨w,o,l⟩:=r.get L;have P:=r.length;have hn:=mq;have d:EP X c n Q w s:=⟨z,H,I,l,q⟩;by_cases A:0<=i
 ·have m:i.toNat=j:=by
   rw[seqIndex_of A O]at f;exact Qd f
  exact item_listR pl.isList A (by omega) (by rw[m];simpa using o) d hs
 ·have m:(i+(its.toArray.size:Int)).toNat=j:=by
   rw[YN (by omega) N]at f;rw[PV,←P];exact Qd f
  exact Vy (x:=w) pl.isList.typeIs slot_list_getitem.lookup
   (wpAny_getItem_list_neg (Q:=λr s'=>r=w/\EP X c n Q r s') pl.isList (by omega) (by rw[PV]<;>omega) (by omega) (by rw[m];simpa using o) ⟨rfl,d⟩) hs
theorem MA:IxR X (CL X.K):=by
 intro d f c s l H x y v u Q I m n h hs;obtain⟨p,xs,i,z,rfl,rfl,o,A,q⟩:=h;cases m;obtain⟨t,rfl⟩:=n;obtain⟨its,r,pl,L⟩:=I.tuple o;obtain⟨j,B,C,N,O,P⟩:=xa A;obtain⟨w,F,g⟩:=r.get C;have J:=r.length;have hn:=mq;have k:EP X c l Q w s:=⟨z,H,I,g,q⟩;exact Vy (x:=w) pl.typeIs slot_tuple_getitem.lookup
  (getItem_tuple (j:=j) (Q:=λr s'=>r=w/\EP X c l Q r s') pl (by omega) (by omega) (by rw[PV,←J];exact B) (by simpa using F) ⟨rfl,k⟩) hs
theorem xU(its:List Pl)(n j:Nat)(u:Pl):Rp (·.setIfInBounds j u) {cls:= .type "list",data:= .seq its.toArray n}={cls:= .type "list",data:= .seq (its.set j u).toArray n}:=by
 simp[Rp]
theorem Inv.lst{s:Pr}{xs:List V}(I:Inv X pins σ H s)(h:H p=on (.lst xs)):
  ∃(its:List Pl) (n:Nat),ay xs its/\s.heap.get? p=on {cls:= .type "list",data:= .seq its.toArray n}/\xs.length<=PQ:=by
 obtain⟨z,its,n,r,e⟩:=I.hok p _ h;exact⟨its,n,r,e,z⟩
theorem Inv.lstUpd{s:Pr}{xs ys:List V}{its its':List Pl}(I:Inv X pins σ H s)(h:H p=on (.lst xs))
  (d:s.heap.get? p=on {cls:= .type "list",data:= .seq its.toArray n}) (c:f {cls:= .type "list",data:= .seq its.toArray n}={cls:= .type "list",data:= .seq its'.toArray n'}) (r:ay ys its') (g:ys.length<=PQ) (t:Nat):
  Inv X pins σ (upd H p (.lst ys)) {s with heap:=s.heap.update p f,toks:=t}:=by
 have e:(s.heap.update p f).get? p=on {cls:= .type "list",data:= .seq its'.toArray n'}:=by
  rw[SV f d (by rw[c]<;>rfl),c]
 refine I.write (x:=p) (e:=p) (by rw[h];trivial) (.inl rfl) (λb u i q=>(Xb _ _ (Ne.symm i)).trans q) ⟨_,e⟩ ?_;exact⟨g,its',n',r,e⟩
def HW:V->V->V->Hp->(Hp->Prop)->Prop:=λo i v H Q=>∃p xs k j,o= .ref p/\i= .int k/\H p=on (.lst xs)/\ixN xs.length k=on j/\Q (upd H p (.lst (xs.set j v)))
theorem f6:N3 X HW:=by
 intro c s C H o i v P R u Q I F J L h;obtain⟨p,xs,k,j,rfl,rfl,m,N,q⟩:=h;cases F;obtain⟨t,rfl⟩:=J;obtain⟨its,n,r,f,O⟩:=I.lst m;obtain⟨d,T,w,y⟩:=wL N;have g:=r.length;have hn:=mq;have A:Inv X c C (upd H p (.lst (xs.set j v))) {s with heap:=s.heap.update p (Rp (·.setIfInBounds j u))}:=
  I.lstUpd m f (xU its n j u) (r.set L j) (by rw[Qs];exact O) s.toks
 by_cases B:0<=k
 ·have l:k.toNat=j:=by
   rw[seqIndex_of B y]at d;exact Qd d
  exact PySem.W.ki_setAt f B (by omega) (by rw[PV,←g];exact y) (by rw[l];exact⟨_,A,q⟩)
 ·have l:(k+(its.toArray.size:Int)).toNat=j:=by
   rw[YN (by omega) w]at d;rw[PV,←g];exact Qd d
  exact PySem.W.ki_setBack f (by omega) (by rw[PV,←g];exact w) (by omega) (by rw[l];exact⟨_,A,q⟩)
theorem uy(lo hi:Option Int)(n:Nat):(Tj lo hi Pb n).1=((HT.sIx n 0 lo:Nat):Int)/\(Tj lo hi Pb n).2.1=((HT.sIx n n hi:Nat):Int)/\(Tj lo hi Pb n).2.2=1:=by
 refine⟨?_,?_,rfl⟩
 ·cases lo with
  |none=>simp[Tj,HT.sIx]
  |some i=>
   simp only[Tj,HT.sIx,Ym,show(1:Int)>0 by decide,Qv];by_cases h:i<0
   ·simp only[h,Qv]<;>omega
   ·simp only[h,Qw]<;>omega
 ·cases hi with
  |none=>simp[Tj,HT.sIx]
  |some i=>
   simp only[Tj,HT.sIx,Ym,show(1:Int)>0 by decide,Qv];by_cases h:i<0
   ·simp only[h,Qv]<;>omega
   ·simp only[h,Qw]<;>omega
theorem s0(its:List Pl)(lo hi:Option Int):YA its.toArray lo hi Pb=((its.drop (HT.sIx its.length 0 lo)).take (HT.sIx its.length its.length hi-HT.sIx its.length 0 lo)).toArray:=by
 obtain⟨c,d,f⟩:=uy lo hi its.toArray.size;unfold YA;rw[c,d,f];simp only[sliceRange_one,pick_run,PV]<;>rfl
def rSlL(K:PZ):V->Option Int->Option Int->Hp->VK->Prop:=λx lo hi H Q=>∃a xs,x= .ref a/\SqL K H a xs/\∀p,H p=Pb->Q (.ref p) (upd H p (.lst (mE xs lo hi)))
theorem wa:SlR X (rSlL X.K):=by
 intro d s l H x v m n lo hi p Q I g hs pl i h;obtain⟨a,xs,rfl,j,q⟩:=h;cases g;obtain⟨its,r,f,k⟩:=I.list j;have c:=r.length;refine⟨"list",_,slot_list_getitem.lookup,f.isList.typeIs,?_⟩;refine Yc f.isList hs pl i .none (by simp) ?_ (by rw[PV]<;>omega)
 rw[s0,←c];refine⟨.ref s.heap.objs.size,_,I.laid (t':=s.toks) (o:= .lst (mE xs lo hi)) (λb t q=>Ph _ q) (Pt _) ?_,rfl,q _ (I.hok.fresh (Pt _))⟩;exact⟨P3 (vT xs lo hi) k,_,0,(r.drop (HT.sIx xs.length 0 lo)).take (HT.sIx xs.length xs.length hi-HT.sIx xs.length 0 lo),PP _ rfl⟩
noncomputable def gM:V->Bool
 | .non=>Pe
 | .bl _=>Pe
 | .int _=>Pe
 | .str _=>Pe
 |_=>Pj
noncomputable def eqV:V->V->Bool
 | .non,.non=>Pe
 | .bl a,.bl b=>a==b
 | .bl a,.int b=>(if a then 1 else 0)==b
 | .int a,.bl b=>a==(if b then 1 else 0)
 | .int a,.int b=>a==b
 | .str a,.str b=>a==b
 |_,_=>Pj
theorem MO(d:aQ y u)(c:aQ x v)(g:gM y=Pe)(f:gM x=Pe):SeqAt.EqAt A s u v (eqV y x):=by
 cases y with
 |non=>
  cases d;cases x with
  |non=>cases c;exact SeqAt.EqAt.same _
  |bl b=>cases c;exact SeqAt.EqAt.none_bool b
  |int b=>obtain⟨t,rfl⟩:=c;exact SeqAt.EqAt.none_int b t
  |str b=>obtain⟨t,rfl⟩:=c;exact SeqAt.EqAt.none_str b t
  |_=>exact P6 (show Pj=Pe from f) Pw
 |bl a=>
  cases d;cases x with
  |non=>cases c;exact SeqAt.EqAt.bool_none a
  |bl b=>cases c;exact SeqAt.EqAt.bool_bool a b
  |int b=>obtain⟨t,rfl⟩:=c;exact SeqAt.EqAt.bool_int a b t
  |str b=>obtain⟨t,rfl⟩:=c;exact SeqAt.EqAt.bool_str a b t
  |_=>exact P6 (show Pj=Pe from f) Pw
 |int a=>
  obtain⟨t',rfl⟩:=d;cases x with
  |non=>cases c;exact SeqAt.EqAt.int_none a t'
  |bl b=>cases c;exact SeqAt.EqAt.int_bool a t' b
  |int b=>obtain⟨t,rfl⟩:=c;exact SeqAt.EqAt.int_int a t' b t
  |str b=>obtain⟨t,rfl⟩:=c;exact SeqAt.EqAt.int_str a t' b t
  |_=>exact P6 (show Pj=Pe from f) Pw
 |str a=>
  obtain⟨t',rfl⟩:=d;cases x with
  |non=>cases c;exact SeqAt.EqAt.str_none a t'
  |bl b=>cases c;exact SeqAt.EqAt.str_bool a t' b
  |int b=>obtain⟨t,rfl⟩:=c;exact SeqAt.EqAt.str_int a t' b t
  |str b=>obtain⟨t,rfl⟩:=c;exact SeqAt.EqAt.str_str a t' b t
  |_=>exact P6 (show Pj=Pe from f) Pw
 |_=>exact P6 (show Pj=Pe from g) Pw
def eqU(x:V)(u:Pl):Bool:=match u with
 | .none=>eqV .non x
 | .bool b=>eqV (.bl b) x
 | .int i _=>eqV (.int i) x
 | .str z _=>eqV (.str z) x
 |_=>Pj
theorem AS(r:aQ y u)(f:gM y=Pe):eqU x u=eqV y x:=by
 cases y with
 |non=>cases r;rfl
 |bl b=>cases r;rfl
 |int i=>obtain⟨t,rfl⟩:=r;rfl
 |str z=>obtain⟨t,rfl⟩:=r;rfl
 |_=>exact P6 (show Pj=Pe from f) Pw
theorem kH:∀{xs:List V} {us:List Pl},ay xs us->xs.all gM=Pe->us.any (eqU x)=xs.any λy=>eqV y x
 |_,_,.nil,_=>rfl
 |y::xs,u::us,.cons r t,f=>by
  rw[US,Qj]at f;rw[T5,T5,AS r f.1,kH t f.2]
theorem i7(c:aQ x v)(d:gM x=Pe):∀{xs:List V} {us:List Pl},ay xs us->xs.all gM=Pe->∀u∈us,SeqAt.EqAt A s u v (eqU x u)
 |_,_,.nil,_=>λu hu=>by cases hu
 |y::xs,u::us,.cons r t,f=>λg hu=>by
  rw[US,Qj]at f;rcases PL.mp hu with rfl|hu
  ·rw[AS r f.1];exact MO r c f.1 d
  ·exact i7 c d t f.2 g hu
def inV(x:V)(xs:List V):Bool:=xs.any λy=>eqV y x
def rIn(K:PZ)(neg:Bool):R2:=λx y H Q=>∃p xs,y= .ref p/\(SqL K H p xs\/SqT K H p xs)/\gM x=Pe/\xs.all gM=Pe/\Q (.bl (if neg then !inV x xs else inV x xs)) H
theorem zu:OpR X (QY .In) (rIn X.K Pj):=by
 intro d s k H x y v u Q I f i h;obtain⟨p,xs,rfl,hq,g,fs,q⟩:=h;cases i;rcases hq with hq|hq
 ·obtain⟨its,r,pl,j⟩:=I.list hq
  refine SeqAt.in_listAt (eqU x) pl.isList (λw c=>i7 f g r fs w (by simpa using c)) ⟨.bl _,H,I,rfl,?_⟩;rw[show its.toArray.any (eqU x)=its.any (eqU x) by simp,kH r fs];exact q
 ·obtain⟨its,r,pl,j⟩:=I.tuple hq
  refine SeqAt.in_tupleAt (eqU x) pl (λw c=>i7 f g r fs w (by simpa using c)) ⟨.bl _,H,I,rfl,?_⟩;rw[show its.toArray.any (eqU x)=its.any (eqU x) by simp,kH r fs];exact q
theorem me:OpR X (QY .NotIn) (rIn X.K Pe):=by
 intro d s k H x y v u Q I f i h;obtain⟨p,xs,rfl,hq,g,fs,q⟩:=h;cases i;rcases hq with hq|hq
 ·obtain⟨its,r,pl,j⟩:=I.list hq
  refine SeqAt.notIn_listAt (eqU x) pl.isList (λw c=>i7 f g r fs w (by simpa using c)) ⟨.bl _,H,I,rfl,?_⟩;rw[show its.toArray.any (eqU x)=its.any (eqU x) by simp,kH r fs];exact q
 ·obtain⟨its,r,pl,j⟩:=I.tuple hq
  refine SeqAt.notIn_tupleAt (eqU x) pl (λw c=>i7 f g r fs w (by simpa using c)) ⟨.bl _,H,I,rfl,?_⟩;rw[show its.toArray.any (eqU x)=its.any (eqU x) by simp,kH r fs];exact q
theorem mI:dI X (.builtin "len") (λxs H Q=>∃p ys,xs=[.ref p]/\(SqL X.K H p ys\/SqT X.K H p ys)/\Q (.int ys.length) H):=by
 intro f s j H xs us Q I r h;obtain⟨p,ys,rfl,hq,q⟩:=h;obtain⟨u,rfl,g⟩:=kO r;cases g;have hn:=mq;rcases hq with hq|hq
 ·obtain⟨its,d,pl,i⟩:=I.list hq
  have c:=d.length;exact Calls.call_len_list pl.isList (by simp only[PV]<;>omega) ⟨.int ys.length,H,I.tok _,⟨s.toks+1,by rw[PV,c]⟩,q⟩
 ·obtain⟨its,d,pl,i⟩:=I.tuple hq
  have c:=d.length;exact len_tuple pl (by simp only[PV]<;>omega) ⟨.int ys.length,H,I.tok _,⟨s.toks+1,by rw[PV,c]⟩,q⟩
theorem dg:dI X (.type "list") (λxs H Q=>∃p ys,xs=[.ref p]/\(SqL X.K H p ys\/SqT X.K H p ys)/\∀l,H l=Pb->Q (.ref l) (upd H l (.lst ys))):=by
 intro f s v H xs us Q I r h;obtain⟨p,ys,rfl,hq,q⟩:=h;obtain⟨u,rfl,y⟩:=kO r;cases y
 have g:∀(its:List Pl),ay ys its->ys.length<=PQ->∀(h':QW) (c:Nat),(∀b t,s.heap.get? b=on t->h'.get? b=on t)->
   h'.get? s.heap.objs.size=on {cls:= .type "list",dict:=Pb,data:= .seq its.toArray c,slots:=#[]}->EP X f v Q (.ref s.heap.objs.size) {s with heap:=h'}:=λits d i h' c kp e=>
  ⟨.ref s.heap.objs.size,_,I.laid (t':=s.toks) kp (Pt _) (show bO X.prog X.w _ h' _ (.lst ys)from⟨i,its,c,d,e⟩),rfl,q _ (I.hok.fresh (Pt _))⟩
 rcases hq with hq|hq
 ·obtain⟨its,d,pl,i⟩:=I.list hq
  have j:=d.length;obtain⟨o,k,m,n,hd⟩:=pl.isList;exact call_list_seq p (.inl rfl) k m hd (λh' c kp e=>g its d i h' c kp e) (by simp only[PV]<;>omega)
 ·obtain⟨its,d,pl,i⟩:=I.tuple hq
  have j:=d.length;obtain⟨o,k,m,n,hd⟩:=pl;exact call_list_seq p (.inr rfl) k m hd (λh' c kp e=>g its d i h' c kp e) (by simp only[PV]<;>omega)
theorem cW:dI X (.type "tuple") (λxs H Q=>∃p ys,xs=[.ref p]/\((SqL X.K H p ys/\∀l,H l=Pb->Q (.ref l) (upd H l (.tup ys)))\/(SqT X.K H p ys/\Q (.ref p) H))):=by
 intro c s g H xs us Q I r h;obtain⟨p,ys,rfl,h⟩:=h;obtain⟨u,rfl,m⟩:=kO r;cases m;rcases h with⟨d,q⟩|⟨d,q⟩
 ·obtain⟨its,f,pl,i⟩:=I.list d
  have j:=f.length;refine call_tuple_list pl.isList (λh' kp=>?_) (by simp only[PV]<;>omega)
  have k:Inv X c g H {s with heap:=h'}:=I.kept (t':=s.toks) kp;have n:Inv X c g (upd H h'.objs.size (.tup ys)) {s with heap:=h'.push {cls:= .type "tuple",data:= .seq its.toArray}}:=
   k.laid (t':=s.toks) (λb o e=>Ph _ e) (Pt _) (show bO X.prog X.w _ _ _ (.tup ys)from⟨i,its,f,IsTup.new _ _⟩)
  exact⟨.ref h'.objs.size,_,n,rfl,q _ (k.hok.fresh (Pt _))⟩
 ·obtain⟨its,f,pl,i⟩:=I.tuple d
  exact call_tuple_same pl ⟨.ref p,H,I,rfl,q⟩
def tyV(K:PZ)(T:String)(x:V)(H:Hp):Prop:=match x with
 | .str _=>T="str"
 | .int _=>T="int"
 | .ref p=>(T="list"/\∃xs,SqL K H p xs)\/(T="tuple"/\∃o,K.lookup p=on o/\o.cls= .type "tuple"/\o.dict=Pb)
 |_=>False
theorem yz{s:Pr}(I:Inv X pins σ H s)(r:aQ x v)(ty:tyV X.K T x H):
  s.TypeIs v T/\∀a,v= .ref a->∃d,s.heap.get? a=on d/\d.dict=Pb:=by
 cases x with
 |str z=>
  obtain⟨t,rfl⟩:=r;cases(show T="str"from ty);exact⟨typeIs_str s z t,λ_ e=>nomatch e⟩
 |int i=>
  obtain⟨t,rfl⟩:=r;cases(show T="int"from ty);exact⟨typeIs_int s i t,λ_ e=>nomatch e⟩
 |ref p=>
  cases r;rcases ty with⟨rfl,xs,g⟩|⟨rfl,o,f,h,hd⟩
  ·obtain⟨its,_,pl,_⟩:=I.list g
   refine⟨pl.isList.typeIs,λa e=>?_⟩;cases e;obtain⟨o,n,e,c,hd,_⟩:=pl;exact⟨o,e,hd⟩
  ·refine⟨⟨o,I.kIn p o f,h⟩,λa e=>?_⟩
   cases e;exact⟨o,I.kIn _ o f,hd⟩
 |_=>exact Sa ty
def Ll(K:PZ)(T:String)(r:V->List V->Hp->VK->Prop)(to:TE):TE:=λd H Q=>to d H λx c=>tyV K T x c/\r x [] c Q
def tBM(K:PZ)(T:String)(r:V->List V->Hp->VK->Prop)(to:TE)(t:TA):TE:=λc H Q=>to c H λx d=>tyV K T x d/\t c d λxs f=>r x xs f Q
variable{o:Expr}{es:List Expr}{to:TE}{t:TA}{name:Qn}{apos cpos:Uj}{T id:String}{r:V->List V->Hp->VK->Prop}
theorem L0(k:PlainAttrs T)(slot:Slot T name id)(g:typeOf (.builtin id)=RZ (.type "method_descriptor"))(hm:MtR X id r)(l:PE X o to)
  (d:S6 o name X.env (QS o X.env)=QS o X.env:=by rfl) (f:(apos.endLine==cpos.line)=Pe:=by rfl):PE X (.Call (.Attribute o name apos) [] [] cpos) (Ll X.K T r to):=by
 intro c s i H Q I h;refine YB d f (thn (l c s i H _ I h) λv m ⟨x,n,j,r1,ty,q1⟩=>?_);obtain⟨p,q⟩:=yz j r1 ty;exact⟨T,id,k,slot,g,p,q,TN rfl (XQ (hm c m i n x [] v [] Q j r1 .nil q1))⟩
theorem k7(n:PlainAttrs T)(slot:Slot T name id)(j:typeOf (.builtin id)=RZ (.type "method_descriptor"))(hm:MtR X id r)(p:PE X o to)(ha:PA X (e::es) t)
  (f:S6 o name X.env (QS o X.env)=QS o X.env:=by rfl)
  (i:((R4 cpos (PH (e::es) X.env)).all (λx=>!x.1)&&(SY cpos (RO [] X.env)).all (λx=>x.1.isSome)
   &&decide ((e::es).length+([]:List Vc).length+(if([]:List Vc).isEmpty then 0 else 1)<30))=Pe:=by rfl)
  (g:(apos.endLine==cpos.line)=Pe:=by rfl) (hs:PH (e::es) X.env=(Pj,QS e X.env)::PH es X.env:=by rfl) (d:(R4 cpos (PH es X.env)).any (·.1)=Pj:=by rfl):
  PE X (.Call (.Attribute o name apos) (e::es) [] cpos) (tBM X.K T r to t):=by
 intro c s k H Q I h;refine YO f i g rfl (thn (p c s k H _ I h) λv q ⟨x,u,l,r1,ty,q1⟩=>?_);obtain⟨w,y⟩:=yz l r1 ty;refine⟨T,id,n,slot,j,w,y,?_⟩;have m:=ha cpos c q k u _ l q1;rw[hs]at m⊢;refine TN (by show(Pj||(R4 cpos (PH es X.env)).any (·.1))=Pj;rw[d]<;>rfl) (Xh ?_)
 exact thn m λus A ⟨vs,B,C,F,q2⟩=>hm c A k B x vs v us Q C r1 F q2
def MtM(X:Cx)(id:String)(r:V->List V->Hp->VK->Prop):Prop:=
 ∀(c:List (Pk×Qb)) (s:Pr) (d:St) (H:Hp) (x:V) (xs:List V) (v:Pl) (us:List Pl) (Q:VK),Inv X c d H s->aQ x v->ay xs us->r x xs H Q->
  PN (Qc X.prog X.w) X.A (Wv (.builtin id) (v::us)) (EP X c d Q) X.xe s
theorem ay.one:∀{x:V} {us:List Pl},ay [x] us->∃u,us=[u]/\aQ x u
 |_,_,.cons r .nil=>⟨_,rfl,r⟩
theorem ay.zero:∀{us:List Pl},ay [] us->us=[]
 |_,.nil=>rfl
theorem ay.reverse{xs:List V}{us:List Pl}(h:ay xs us):ay xs.reverse us.reverse:=by
 induction h with
 |nil=>exact .nil
 |cons r t ih=>rw[UN,UN];exact ay.append ih (.cons r .nil)
theorem ay.rep(h:ay xs us):∀k:Nat,ay (PR k xs).flatten (PR k us).flatten
 |0=> .nil
 |k+1=>by
  rw[Qm,Qm,Sm,Sm];exact ay.append h (ay.rep h k)
theorem sK(its:List Pl):∀(k:Nat) (acc:List Pl),
  Yi (λc d=>c++d) acc.toArray (PR k its.toArray)=(acc++(PR k its).flatten).toArray
 |0,acc=>by simp
 |k+1,acc=>by
  have e:acc.toArray++its.toArray=(acc++its).toArray:=by simp
  have f:(acc++its)++(PR k its).flatten=acc++(PR (k+1) its).flatten:=by
   rw[Qm,Sm,QJ]
  rw[←f,←sK its k (acc++its),←e,Qm,List.foldl_cons]
end
section
variable{X:Cx}{pins:List (Pk×Qb)}{σ:St}{H:Hp}{s:Pr}{l b:Pk}{xs ys zs:List V}
theorem Inv.lset{its its':List Pl}(I:Inv X pins σ H s)(a:H l=on (.lst xs))
  (e:s.heap.get? l=on {cls:= .type "list",data:= .seq its.toArray n}) (c:f its.toArray=its'.toArray) (d:ay ys its') (g:ys.length<=PQ):
  Inv X pins σ (upd H l (.lst ys)) {s with heap:=s.heap.update l (Rp f),toks:=t'}:=by
 have q:=PySem.IsL.update e f;rw[c]at q;refine I.write (x:=l) (e:=l) (by rw[a];exact trivial) (.inl rfl) (λj u h i=>(Xb s.heap (Rp f) (Ne.symm h)).trans i) ⟨_,q⟩ ?_;exact⟨g,its',_,d,q⟩
theorem Inv.lnew{its:List Pl}(I:Inv X pins σ H s)(a:ay ys its)(c:ys.length<=PQ):
  Inv X pins σ (upd H s.heap.objs.size (.lst ys)) {s with heap:=s.heap.push {cls:= .type "list",data:= .seq its.toArray},toks:=t'}:=
 I.laid (λ_ _ q=>Ph _ q) (Pt _) ⟨c,its,0,a,PP _ rfl⟩
theorem Inv.fresh(I:Inv X pins σ H s):H s.heap.objs.size=Pb:=I.hok.fresh (Pt _)
theorem Inv.lstM(I:Inv X pins σ H s)(a:H l=on (.lst xs)):xs.length<=PQ/\∃(its:List Pl) (n:Nat),ay xs its/\xs.length=its.length/\s.heap.get? l=on {cls:= .type "list",data:= .seq its.toArray n}:=by
 obtain⟨z,its,n,r,e⟩:=I.hok l _ a;exact⟨z,its,n,r,r.length,e⟩
theorem DB(h:n<=PQ):Ug n=Pj:=by
 unfold Ug;exact Qp (by omega)
def wn:V->List V->Hp->VK->Prop:=λx vs H Q=>∃l xs y,x= .ref l/\vs=[y]/\H l=on (.lst xs)/\xs.length<PQ/\Q .non (upd H l (.lst (xs++[y])))
theorem eZ:MtM X "list.append" wn:=by
 intro pins s σ H x vs v us Q I c d h;obtain⟨l,xs,y,rfl,rfl,a,g,q⟩:=h;cases c;obtain⟨u,rfl,f⟩:=d.one;obtain⟨z,its,n,r,i,e⟩:=I.lstM a;refine Wc F.slot_list_append ⟨_,e,rfl⟩ F.entry_list_append (YC _ _) (Ys l its.toArray n u (by rw[PV];omega)) ⟨e,?_⟩;refine⟨.non,_,I.lset (its':=its++[u]) a e (by simp) (r.append (.cons f .nil)) ?_,rfl,q⟩;rw[PM,QC];omega
def zg:V->List V->Hp->VK->Prop:=λx vs H Q=>∃l xs,x= .ref l/\vs=[]/\H l=on (.lst xs)/\Q .non (upd H l (.lst []))
theorem DG:MtM X "list.clear" zg:=by
 intro pins s σ H x vs v us Q I d f h;obtain⟨l,xs,rfl,rfl,c,q⟩:=h;cases d;have a:=f.zero;subst a;obtain⟨z,its,n,r,g,e⟩:=I.lstM c;refine Wc F.slot_list_clear ⟨_,e,rfl⟩ F.entry_list_clear (F.args_list_clear_1 _) (AutoSeq1.list_clear_list_0 l its.toArray n (by rw[PV];omega)) ⟨e,?_⟩;exact⟨.non,_,I.lset (its':=[]) (ys:=[]) c e rfl .nil (QV _),rfl,q⟩
noncomputable def rCat:R2:=λx y H Q=>∃l b xs zs,x= .ref l/\y= .ref b/\H l=on (.lst xs)/\H b=on (.lst zs)/\xs.length+zs.length<=PQ/\∀p,H p=Pb->Q (.ref p) (upd H p (.lst (xs++zs)))
theorem Mc:OpR X (Sy .Add) rCat:=by
 intro pins s σ H x y v u Q I c d h;obtain⟨l,b,xs,zs,rfl,rfl,f,hB,m,q⟩:=h;cases c;cases d;obtain⟨z,its,n,r,o,e⟩:=I.lstM f;obtain⟨p,a,t,g,i,j⟩:=I.lstM hB;refine X2 e j ?_ (by rw[PV,PV];omega);have k:its.toArray++a.toArray=(its++a).toArray:=by simp
 rw[k];exact⟨.ref _,_,I.lnew (t':=s.toks) (r.append g) (by rw[PM];omega),rfl,q _ I.fresh⟩
noncomputable def rRep:R2:=λx y H Q=>∃l k xs,x= .ref l/\y= .int k/\H l=on (.lst xs)/\-(2^63)<=k/\k<2^63/\xs.length*k.toNat<=PQ/\
 ∀p,H p=Pb->Q (.ref p) (upd H p (.lst (PR k.toNat xs).flatten))
theorem KA{α:Type}(xs:List α)(k:Nat):(PR k xs).flatten.length=k*xs.length:=by
 induction k with
 |zero=>simp
 |succ k ih=>rw[Qm,Sm,PM,ih,Nat.succ_mul,Xj]
theorem L7:OpR X (Sy .Mult) rRep:=by
 intro pins s σ H x y v u Q I w A h;obtain⟨l,k,xs,rfl,rfl,B,C,J,p,q⟩:=h;cases w;obtain⟨t,rfl⟩:=A;obtain⟨z,its,n,r,L,e⟩:=I.lstM B;have d:its.toArray.size*k.toNat<=PQ:=by rw[PV,←L];exact p
 have f:¬its.toArray.size*k.toNat>(2^63-1)/8:=by
  have:(PQ:Nat)<=(2^63-1)/8:=by decide
  omega
 have g:¬(!Builtin.List.listFitsIndex k)=Pe:=by
  rw[fitsIndex_both C J];exact Pw
 have c:¬Ug (its.toArray.size*k.toNat)=Pe:=by
  rw[DB d];exact Pw
 have i:Yi (λj o=>j++o) #[] (PR (if its.toArray.isEmpty=Pe then 0 else k.toNat) its.toArray)=(PR k.toNat its).flatten.toArray:=by
  have N:∀m:Nat,Yi (λj o=>j++o) #[] (PR m its.toArray)=(PR m its).flatten.toArray:=λm=>by
   have:=sK its m [];rw[QZ]at this;exact this
  rw[N];cases its with
  |nil=>simp
  |cons a O=>rw[Po (by simp)]
 refine wpAny_binaryOp_repeat_ref (T:="list") (U:="int") (by decide) ⟨_,e,rfl⟩ (λs'=>typeIs_int s' k t) noFill_list_mul F.fills_int_mul F.slot_int_rmul repeat_list F.slot_int_index.lookup
  (Wc F.slot_int_rmul (typeIs_int s k t) F.entry_int_rmul (F.args_int_rmul_2 _ _) (int___rmul___int_list k t l its.toArray n)
   ⟨e,rfl,⟨_,e,rfl⟩,Wc F.slot_list_mul ⟨_,e,rfl⟩ F.entry_list_mul (F.args_list_mul_2 _ _) (AutoListH.list___mul___list_int_3 l its.toArray n k t g f c) ⟨e,?_⟩⟩)
 rw[i];exact⟨.ref _,_,I.lnew (t':=s.toks) (r.rep k.toNat) (by rw[KA,SK];exact p),rfl,q _ I.fresh⟩
variable{prog:Qf}{w:Qq}{A:QP}{E:Pl->Pr->Prop}
end
end L2
namespace Att
open PySem PySem.W PySem.Calls PyProof.Rows
theorem qm:∀(ns:List Int) (vs:List Pl),WellAll P h vs (ns.map WData.int)->Xc vs ns:=by
 intro ns
 induction ns with
 |nil=>
  intro vs w;rw[Rk]at w;cases w;exact .nil
 |cons n ns ih=>
  intro vs w;rw[Py]at w;cases w with
  |cons a b=>
   cases a;exact .cons _ _ (ih _ b)
theorem yW{l:OpenLaw}(hn:l.most=on n){h:QW}
  (b:l.row.toRowW.claim.pre args=Pe) (g:WellAll P h vals args):
  ∃a vs ns,vals=[P4 a]/\args=[WData.list (ns.map WData.int)]/\h.get? a=on {cls:= .type "list",data:= .seq vs.toArray}/\Xc vs ns/\ns.length<=n:=by
 have hsh:WShape.hasAll [] args [.list .int]=Pe:=(pre_splitW b).1;have i:l.pre.holds [] {args:=args}=Pe:=(pre_splitW b).2;obtain⟨d,r,rfl,j,k⟩:=hasAllW_cons hsh;obtain rfl:=hasAllW_nil k;obtain⟨xs,rfl,m⟩:=hasW_list j;obtain⟨ns,rfl⟩:=items_int m;have c:ns.length<=n:=by
  unfold OpenLaw.pre at i;have e:(WTm.not (.lt (.lit (.int (n:Int))) (.len (.arg 0)))).holds [] {args:=[.list (ns.map .int)]}=Pe:=by
   have e:=(holds_andW i).1;rw[hn]at e;exact e
  have f:=condW_of e (w_not (w_lt w_lit (w_len_list (w_arg rfl))));rw[Pa]at f;refine Nat.le_of_not_lt λq=>?_;have o:(n:Int)<((ns.length:Nat):Int):=by omega
  first
   |(rw[PX o]at f;exact P6 f (by decide))
   |(simp at f;omega)
 cases g with
 |cons p t=>
  cases t;cases p with
  |list ho hall=>exact⟨_,_,ns,rfl,rfl,ho,qm ns _ hall,c⟩
theorem zk(l:OpenLaw)(args:List WData):l.row.toRowW.claim.post args (.bool Pe) args=Pe:=
 postW_of (r:=l.row.toRowW) (X:=(Pe==Pe))
  (show WShape.has [] (.bool Pe) .bool=Pe by first|rfl|decide|simp[WShape.has,WShape.arms,WShape.armsAll])
  (show(WTm.eq .res (.lit (.bool Pe))).value [] {args:=args,res:=on (.bool Pe),after:=args}=on (.bool (Pe==Pe))from w_eq_bool (w_res rfl) w_lit) rfl
theorem attach_call{l:OpenLaw}{d:DefRec}
  (hn:l.most=on n) (k:d.params.defaults=[])
  (Wv:∀(w:Qq) (s₀ b:Pr) (mg m:Qn->Option Pl) (g:Pk) (o:Qb) (p cd c:Pl) (a:Pk) (vs:List Pl) (ns:List Int),
   Ground q loose [] XP w s₀ mg m b.heap->YP w b.heap->
   b.heap.get? g=on o->o.data= .func (docDef d.name d.params d.body d.scope p cd c)->b.heap.CodeRec cd d.name->mg d.name=on (.ref g)->
   b.heap.get? a=on {cls:= .type "list",data:= .seq vs.toArray}->Xc vs ns->ns.length<=n->b.gens=#[]->
   TU (Qc l.prog w) Ww (.call (.ref g) ⟨[.ref a],[]⟩) (λr s'=>r= .ok (.ret (.bool Pe))/\OldK b.heap s'.heap/\s'.os=b.os/\UK s'.gens) b):
  WalkO q loose XP YP l.row.toRowW d [] (λf vs=>X7 f vs):=by
 intro w s₀ b mg m G Y g o p cd c B C F hd t y u H args vals as h A I v J;obtain rfl:B= .none:=Dflts.none y k;obtain rfl:C= .none:=Dflts.noKw y;obtain⟨a,vs,ns,rfl,rfl,i,e,j⟩:=yW hn h v;refine enter_call (UP (Wv w s₀ b mg m g o p cd c a vs ns G Y F (fd_plain hd) t u i e j H) λr s' L=>?_);obtain⟨rfl,N,O,P⟩:=L;exact⟨.inl ⟨.bool Pe,.bool Pe,[],rfl,λ_=>rfl,.bool Pe,zk l _,λ_=>⟨Vj,λ_ hm=>(nomatch hm)⟩⟩,N,O,P⟩
section
variable{prog:Qf}{w:Qq}{A:QP}{E:Pl->Pr->Prop}{s:Pr}{K:PZ}
end
end Att
namespace L2
open PySem PySem.Spec PyProof.Rows
theorem rX:∀{vs:List Pl} {ns:List Int},Xc vs ns->ay (ns.map V.int) vs
 |_,_,.nil=> .nil
 |_,_,.cons n t h=> .cons ⟨t,rfl⟩ (rX h)
def HD(H:Hp):Prop:=∀b,H b=Pb\/∃o xs,H b=on (.frz o (.lst xs))
theorem DT{K:PZ}{c:Pr}{vs:List Pl}{ns:List Int}
  (R:K.In c.heap) (p:c.heap.Ns RP mg) (g:c.heap.Ns Xr mb) (I:∀x:Qn,x≠"__name__"->mb x=Tx x) (t:c.heap.NoLimit) (hg:c.gens=#[])
  (ha:c.heap.get? a=on {cls:= .type "list",data:= .seq vs.toArray}) (T:Xc vs ns) (U:ns.length<=PQ) (hr:Room k Ww)
  (F:∀base:QW,K.In base->base.Ns RP mg->FnOk P w K mg base CX k fa fd [x] sp) (l:∀(s:Pr) (u:Pl),VU s fd ⟨[u],[]⟩ [(x,u)])
  (J:∀H:Hp,HD H->SqL K H a (ns.map V.int)->sp [.ref a] H (λv _=>v= .bl Pe) λ_ _ _=>False)
  (L:∀H e s',CX [] H c (λ_ _ _=>False) e s'->False):
  TU (Qc P w) Ww (.call (.ref fa) ⟨[.ref a],[]⟩) (λr s'=>r= .ok (.ret (.bool Pe))/\OldK c.heap s'.heap/\s'.os=c.os/\UK s'.gens) c:=by
 have W:=rX T;have y:=T.length
 --from an abstract heap in which nothing but the script may be tracked
 have j:∀H:Hp,HD H->SqL K H a (ns.map V.int)->HOk P w H c.heap->(∀b,H b≠Pb->b=a)->(H a≠Pb->K.lookup a=Pb)->
   TU (Qc P w) Ww (.call (.ref fa) ⟨[.ref a],[]⟩) (λr s'=>r= .ok (.ret (.bool Pe))/\OldK c.heap s'.heap/\s'.os=c.os/\UK s'.gens) c:=by
  intro H X hS hok Y hK;have f:∀{b:Pk} {o:Qb},c.heap.get? b=on o->H b=Pb->(lw c.heap H).get? b=on o:=λe n=>ED e n;have N:∀{b:Pk} {o:Qb} {es:Array Tv} {ep:Nat},c.heap.get? b=on o->o.data= .dict es ep->H b=Pb:=λ{b o es ep} e d=>by
   cases q:H b with
   |none=>rfl
   |some u=>
    have O:b=a:=Y b (by rw[q];simp);subst O;rw[ha]at e;cases e;have d':Data.seq vs.toArray _=Data.dict es ep:=d;cases d'
  have i:∀{b:Pk} {m:Qn->Option Pl},c.heap.Ns b m->(lw c.heap H).Ns b m:=λ{b m} ⟨o,es,ep,e,d,r⟩=>⟨o,es,ep,f e (N e d),d,r⟩;have A:K.In (lw c.heap H):=λb o e=>f (R b o e) (by
   cases q:H b with
   |none=>rfl
   |some u=>
    have O:b=a:=Y b (by rw[q];simp);subst O;rw[hK (by rw[q];simp)]at e;cases e)
  have hM:Mod K mg (lw c.heap H):=⟨A,i p,⟨mb,i g,I⟩,let ⟨mc,h1,h2⟩:=t;⟨mc,i h1,h2⟩⟩
  have e0:Env0 P w K mg (lw c.heap H) Ww [] c H:=⟨rfl,hM,λb o e=>Km e,Nat.le_of_eq (AH _ _),trivial,λb g=>P6 (show b∈([]:List Pk)from g) (by simp),hok,.of_eq hg⟩;refine UP ((F _ A (i p)).run Ww [] c H ⟨[.ref a],[]⟩ [.ref a] [.ref a] _ _ hr e0 (l c (.ref a)) (.cons rfl .nil) (J H X hS)) λr s' h=>?_;cases r with
  |error e=>exact(L H e s' h).elim
  |ok fl=>
   cases fl with
   |next=>exact Sa h
   |brk=>exact Sa h
   |cont=>exact Sa h
   |ret u=>
    obtain⟨v,H',os,bare,un,B,r',q⟩:=h;have q':v= .bl Pe:=q;subst q';obtain rfl:u=VH Pe:=r';refine⟨rfl,OldK.of_keep λb o e=>?_,os,bare⟩;cases q:H b with
    |none=>exact un.keep b o e q (by intro z;exact P6 (show b∈([]:List Pk)from z) (by simp)) (by simp)
    |some u=>
     rcases X b with z|⟨ob,xs,z⟩
     ·rw[q]at z;cases z
     ·have z2:=un.frzs b ob _ z
      obtain⟨Z,_⟩:=hok b _ z;obtain⟨e2,_⟩:=B b _ z2;rw[e]at Z;cases Z;exact e2
 cases Q:K.lookup a with
 |some o=>
  --the script is one of the module's own objects
  have e:=R a o Q;rw[ha]at e;cases e;refine j (λ_=>Pb) (λ_=> .inl rfl) (.inr ⟨_,vs.toArray,_,Q,rfl,rfl,rfl,by rw[PV,y];exact U,by simpa using W⟩) (λb u z=>by have C:(Pb:Option HO)=on u:=z;cases C) (λb z=>P6 rfl z) λz=>P6 rfl z
 |none=>
  refine j (λb=>if b=a then on (.frz {cls:= .type "list",data:= .seq vs.toArray} (.lst (ns.map V.int)))else Pb) (λb=>?_) (.inl (.inr ⟨{cls:= .type "list",data:= .seq vs.toArray},Ps rfl⟩)) (λb u z=>?_) (λb z=>?_) λ_=>Q
  ·by_cases g:b=a
   ·exact .inr ⟨_,_,Ps g⟩
   ·exact .inl (Po g)
  ·by_cases g:b=a
   ·have C:=(Ps g).symm.trans z
    cases C;subst g;exact⟨ha,by rw[Pa];exact U,vs,_,W,ha⟩
   ·have C:=(Po g).symm.trans z
    cases C
  ·by_cases g:b=a
   ·exact g
   ·exact P6 (Po g) z
theorem walk_of{l:PySem.W.OpenLaw}{n k:Nat}{q:Qf}{loose:List Qn}{XP:(Qn->Option Pl)->QW->Prop}{YP:Qq->QW->Prop}{d:DefRec}{K:WN->PZ}{CX:Qq->CXT}{sp:Qq->Sp}{x:Qn}
  (hn:l.most=on n) (r:n<=PQ) (t:d.params.defaults=[]) (J:Room k Ww)
  (L:∀(w:Qq) (h:QW),YP w h->(K w.params).In h)
  (F:∀(w:Qq) (mg:Qn->Option Pl) (p:Pk) (h:QW),(K w.params).In h->h.Ns RP mg->mg d.name=on (.ref p)->
   ∃B:P9,(∀(s:Pr) (u:Pl),VU s B ⟨[u],[]⟩ [(x,u)])/\
    ∀base:QW,(K w.params).In base->base.Ns RP mg->FnOk l.prog w (K w.params) mg base (CX w) k p B [x] (sp w))
  (y:∀(w:Qq) (H:Hp) (a:Pk) (ns:List Int),ns.length<=n->HD H->SqL (K w.params) H a (ns.map V.int)->sp w [.ref a] H (λv _=>v= .bl Pe) λ_ _ _=>False)
  (A:∀(w:Qq) (H:Hp) (s:Pr) (e:Pl) (s':Pr),CX w [] H s (λ_ _ _=>False) e s'->False):
  PySem.W.WalkO q loose XP YP l.row.toRowW d [] (λf vs=>X7 f vs):=by
 refine Att.attach_call hn t λw s₀ j mg X p o Z cd N a vs ns G Y ho hd O C m i c P=>?_;have I:=L w _ Y;obtain⟨B,Q,hF⟩:=F w mg p _ I G.T.g C;exact DT I G.T.g G.T.b G.T.builtins G.T.nolimit P m i (P3 c r) J hF Q (λH R U=>y w H a ns c R U) λH e s'=>A w H j e s'
noncomputable def aE(s:QU)(j:Nat):QU:=match s with
 | .ClassDef _ _ _ body _ _ _ _ _ _ _=>body.getD j (.Pass ⟨0,0,0,0⟩)
 |_=> .Pass ⟨0,0,0,0⟩
noncomputable def iJ(s:QU):Arguments:=match s with
 | .FunctionDef _ a _ _ _ _ _ _ _ _=>a
 |_=>{posonlyargs:=[],args:=[],vararg:=Pb,kwonlyargs:=[],kw_defaults:=[],kwarg:=Pb,defaults:=[]}
noncomputable def cR(s:QU):List QU:=match s with
 | .FunctionDef _ _ b _ _ _ _ _ _ _=>b
 |_=>[]
noncomputable def ah(s:QU):Scope:=match s with
 | .FunctionDef _ _ _ _ _ _ sc _ _ _=>sc
 |_=>{kind:= .function,names:=[],isGenerator:=Pj,isCoroutine:=Pj}
abbrev E0:St->XK:=λ_ _ _ _=>False
structure Fun (K:PZ) (x qual:Qn) (st:QU) (f:Pk) (fd:P9):Prop where
 ex:∃(oc:Pl) (od:Option Pk) (kV doc pm:Pl) (an:Option Pk) (cdv ct:Pl) (osl:Array (Option Pl)),
  fd=TK x qual (iJ st) (cR st) (ah st) .none kV doc pm an cdv ct/\K.lookup f=on ⟨oc,od,.func fd,osl⟩/\Uk K cdv qual=Pe
 kp:U1 K (.ref f)=Pe
section
variable{P:Qf}{w:Qq}{K:PZ}{mg:Qn->Option Pl}{base:QW}
theorem tZ{A:QP}(a:Room k A):A.units+1<UY:=RT (Yl (by decide:1<=64) _) a.units
theorem sk(h:n<=1000):n<PQ:=RT h (by decide)
variable{X:Cx}
theorem pv(i:Nat)(b:X.N[i]?=on x:=by rfl)(c:Vis X.env.scope x:=by first|exact Ru rfl|exact Se (Ru rfl)|exact Se (Se rfl))(hd:(x==("__debug__":Qn))=Pj:=by decide)
  (a:(x==("__classdict__":Qn))=Pj:=by decide):PE X (.Name x pos) (oG i):=LU b c hd a
theorem iteT{A B:Prop}(h:A):if Pe=Pe then A else B:=by
 rw[Ps rfl];exact h
theorem ite2{c A B:Prop} [Decidable c](a:c->A)(b:¬c->B):if c then A else B:=by
 by_cases h:c
 ·rw[Ps h]
  exact a h
 ·rw[Po h]
  exact b h
def bQ(H a:Hp):Prop:=∀b o,H b=on o->a b=on o
theorem bQ.refl(H:Hp):bQ H H:=λ_ _ h=>h
theorem bQ.trans(a:bQ H H1)(b:bQ H1 H2):bQ H H2:=λc o h=>b c o (a c o h)
theorem bQ.free(e:bQ H H')(h:H' l=Option.none):H l=Option.none:=by
 cases q:H l with
 |none=>rfl
 |some o=>
  rw[e l o q]at h;cases h
theorem dD:∀(names:List (Qn×Tg)) (n:Nat) (acc:List (Qn×Pk)),Rt n names acc=Rt n names []++acc
 |[],_,_=>rfl
 |(x,k)::r,n,acc=>by
  unfold Rt;split
  ·rw[dD r (n+1) ((x,n)::acc),dD r (n+1) [(x,n)],QJ]
   rfl
  ·exact dD r n acc
theorem ie:∀{names:List (Qn×Tg)} {n:Nat} {x:Qn} {c:Pk},(x,c)∈Rt n names []->(x,Wo)∈names
 |[],_,_,_,h=>by cases h
 |(y,k)::r,n,x,c,h=>by
  unfold Rt at h;split at h
  ·rename_i a
   rw[dD]at h;rcases Rj.mp h with h|h
   ·exact Pg _ (ie h)
   ·obtain⟨rfl,_⟩:x=y/\c=n:=by simpa using h
    obtain rfl:k= .cell:=by simpa using a
    exact Pn
  ·exact Pg _ (ie h)
noncomputable def dy(cells:List (Qn×Pk)):List (Qn×Tg)->List (Qn×Pk)->List (Qn×Pk)
 |[],acc=>acc
 |(x,k)::r,acc=>if k== .free then dy cells r ((x,(cells.lookup x).getD 0)::acc)else dy cells r acc
theorem mem_cloF{cells:List (Qn×Pk)}:∀{names:List (Qn×Tg)} {acc:List (Qn×Pk)} {x:Qn} {c:Pk},(x,c)∈dy cells names acc->(x,c)∈acc\/((x,Sj)∈names/\c=(cells.lookup x).getD 0)
 |[],_,_,_,h=> .inl h
 |(y,k)::r,acc,x,c,h=>by
  unfold dy at h;split at h
  ·rename_i a
   obtain rfl:k= .free:=by simpa using a
   rcases mem_cloF h with h|⟨h,e⟩
   ·rcases PL.mp h with h|h
    ·cases h
     exact .inr ⟨Pn,rfl⟩
    ·exact .inl h
   ·exact .inr ⟨Pg _ h,e⟩
  ·rcases mem_cloF h with h|⟨h,e⟩
   ·exact .inl h
   ·exact .inr ⟨Pg _ h,e⟩
theorem o7:∀{names:List (Qn×Tg)} {acc:List (Qn×Pk)} {p:Qn×Pk},p∈acc->p∈dy cells names acc
 |[],_,_,h=>h
 |(y,k)::r,acc,p,h=>by
  unfold dy;split
  ·exact o7 (Pg _ h)
  ·exact o7 h
theorem o6{cells:List (Qn×Pk)}:∀{names:List (Qn×Tg)} {acc:List (Qn×Pk)} {x:Qn},(x,Sj)∈names->(x,(cells.lookup x).getD 0)∈dy cells names acc
 |[],_,_,h=>by cases h
 |(y,k)::r,acc,x,h=>by
  unfold dy;rcases PL.mp h with h|h
  ·cases h
   rw[Ps (by decide)];exact o7 Pn
  ·split
   ·exact o6 h
   ·exact o6 h
theorem lL{α:Type}:∀{l:List (Qn×α)} {x:Qn} {c:α},(x,c)∈l->∃d,l.lookup x=on d
 |[],_,_,h=>by cases h
 |(y,d)::r,x,c,h=>by
  rw[U5];cases a:x==y with
  |true=>exact⟨d,rfl⟩
  |false=>
   rcases PL.mp h with h|h
   ·cases h
    simp at a
   ·exact lL h
theorem db{α:Type}:∀{l:List (Qn×α)} {x:Qn} {c:α},(l.map (·.1)).Nodup->(x,c)∈l->l.lookup x=on c
 |[],_,_,_,h=>by cases h
 |(y,d)::r,x,c,nd,h=>by
  rw[Py]at nd;obtain⟨a,b⟩:=Qu.mp nd;rw[U5];rcases PL.mp h with h|h
  ·cases h
   simp
  ·have:x≠y:=λe=>a (e▸List.mem_map_of_mem (f:=(·.1)) h)
   rw[beq_eq_false_iff_ne.mpr this];exact db b h
theorem rN{env:Wr}(f:Qn×Tg->List (Qn×Pk)->Sem (ForInStep (List (Qn×Pk))))
  (g:∀name kind cs,f (name,kind) cs=if kind== .free then(do let a ←cellOf env name;RZ (.yield ((name,a)::cs)))else RZ (.yield cs)):
  ∀(names:List (Qn×Tg)) (acc:List (Qn×Pk)),(∀y∈names,y.2= .free->∃c,env.cells.lookup y.1=on c)->forIn names acc f=RZ (dy env.cells names acc)
 |[],_,_=>by rw[S3];rfl
 |(x,k)::r,acc,h=>by
  rw[SO,g];unfold dy;have i:∀y∈r,y.2= .free->∃c,env.cells.lookup y.1=on c:=λy j=>h y (Pg _ j);by_cases b:(k==Sj)=Pe
  ·rw[Ps b,Ps b]
   obtain⟨c,l⟩:=h (x,k) Pn (by simpa using b);have d:env.cells.lookup x=on c:=l;have e:cellOf env x=RZ c:=by unfold cellOf;rw[d]
   rw[e,d];simp only[pure_bind];exact rN f g r _ i
  ·rw[Po b,Po b]
   simp only[pure_bind];exact rN f g r _ i
theorem yg{scope:Scope}{env:Wr}(h:∀y∈scope.names,y.2= .free->∃c,env.cells.lookup y.1=on c):closureFor scope env=RZ (dy env.cells scope.names []):=by
 simp only[closureFor];rw[rN (env:=env) _ (λname kind cs=>by cases a:kind==Sj<;>simp[a]) scope.names [] h]
 rfl
theorem EK{M:Model}{E:Pl->Pr->Prop}{s:Pr}{scope:Scope}
  (f:∀h':QW,h'.Ns s.heap.objs.size (λ_=>Pb)->(∀b o,s.heap.get? b=on o->h'.get? b=on o)->
   (∀n c,(n,c)∈Rt (s.heap.objs.size+1) scope.names []->h'.IsCell c Pb/\s.heap.objs.size+1<=c)->
   ((Rt (s.heap.objs.size+1) scope.names []).Pairwise λx y=>x.2≠y.2)->
   Q (newEnv scope s.heap.objs.size globals (Rt (s.heap.objs.size+1) scope.names cl) qual Pb .none (on env) Xr) {s with heap:=h'}):
  PN M A (Xz scope globals cl [] qual Pb .none (on env)) Q E s:=by
 simp only[Xz,Option.isSome_some,Qv];refine My (wpAny_alloc ?_);refine My (wpAny_layCells _ (λname kind cells=>by cases a:kind==Wo<;>simp[a]) _ _ _ _ ?_)
 have ok:=cellsFrom_ok scope.names (s.heap.push {cls:= .type "dict",data:= .dict #[]}) (s.heap.objs.size+1) [] ⟨λ_ _ hm=>(nomatch hm),Vj⟩ (by rw[Rg];exact Pt _);rw[Rg]at ok;rw[show({s with heap:=s.heap.push {cls:= .type "dict",data:= .dict #[]}}:Pr).heap.objs.size=s.heap.objs.size+1 from Rg ..];have d:=f (pushCells (s.heap.push {cls:= .type "dict",data:= .dict #[]}) scope.names) ((Heap.Ns.new s.heap (.type "dict")).keeps (pushCells_keeps _ _)) (λb o e=>pushCells_keeps _ _ b o (Ph _ e)) ok.empty ok.apart;exact My (Pc (Pc d))
noncomputable abbrev aI(X:Cx)(a:List Qn)(scope:Scope)(cl:List (Qn×Pk))(C:Pk)(b:List Pk)(s:Pr)(H:Hp):Cx:=
 {X with N:=a,s₀:=s,H₀:=H,env:=compEnvC scope cl C X.env,outer:=X.stack,stack:=X.stack,ex:=b,fn:=λx=>scope.names.lookup x !=on .free,pn:=[],xe:=λ_ _=>False}
theorem mem_relabel{scope:Scope}{y:Qn×Tg}(h:y∈(relabel scope env).names):y∈scope.names\/(y.2= .cell/\(y.1,Sj)∈scope.names):=by
 obtain⟨⟨n,k⟩,hm,e⟩:=PD.mp h
 dsimp only at e
 split at e
 ·rename_i a
  cases e;simp only[Qj,Ti]at a;obtain⟨⟨a,_⟩,_⟩:=a;subst a;exact .inr ⟨rfl,hm⟩
 ·cases e
  exact .inl hm
theorem EA{X:Cx}{R:St}{s:Pr}{Nc vars:List Qn}{caps:List Nat}{scope:Scope}{h':QW}(I:Inv X pins R H s)
  (hk:scope.kind= .function) (g:(scope.names.map (·.1)).Nodup) (f:∀y∈scope.names,y.2= .free->X.env.kindOf y.1=on .cell\/X.env.kindOf y.1=on .free)
  (T:Nc=vars++caps.map (λj=>X.N.getD j Td)) (U:∀j∈caps,j<X.N.length/\scope.names.lookup (X.N.getD j Td)=on .free)
  (F:∀b∈fp,fK X pins H b) (W:∀b∈fp,∃o,s.heap.get? b=on o) (ns:h'.Ns s.heap.objs.size λ_=>Pb) (keep:∀b o,s.heap.get? b=on o->h'.get? b=on o)
  (O:∀n c,(n,c)∈Rt (s.heap.objs.size+1) scope.names []->h'.IsCell c Pb/\s.heap.objs.size+1<=c) (ca:(Rt (s.heap.objs.size+1) scope.names []).Pairwise λx y=>x.2≠y.2):
  Inv (aI X Nc scope (Rt (s.heap.objs.size+1) scope.names (dy X.env.cells scope.names [])) s.heap.objs.size fp s H) [] (PR vars.length Pb++caps.map (λj=>R.getD j Pb)) H {s with heap:=h'}:=by
 --the cells
 have old:∀{x:Qn} {c:Pk},(x,c)∈dy X.env.cells scope.names []->X.env.cells.lookup x=on c/\(x,Sj)∈scope.names:=λ{x c} h=>by
  rcases mem_cloF h with h|⟨hm,e⟩
  ·cases h
  ·obtain⟨d,hd⟩:=I.ok.has x (f _ hm rfl)
   rw[hd]at e;exact⟨by rw[hd,e];rfl,hm⟩
 have a:∀{x:Qn} {c:Pk},(Rt (s.heap.objs.size+1) scope.names (dy X.env.cells scope.names [])).lookup x=on c->
   (x,c)∈Rt (s.heap.objs.size+1) scope.names []\/(X.env.cells.lookup x=on c/\(x,Sj)∈scope.names):=λ{x c} h=>by
  have h:=Q2 h;rw[dD]at h;rcases Rj.mp h with h|h
  ·exact .inl h
  ·exact .inr (old h)
 have freeC:∀{x:Qn},(x,Sj)∈scope.names->∃c,X.env.cells.lookup x=on c/\(Rt (s.heap.objs.size+1) scope.names (dy X.env.cells scope.names [])).lookup x=on c:=λ{x} hm=>by
  obtain⟨d,hd⟩:=I.ok.has x (f _ hm rfl);have e:=o6 (cells:=X.env.cells) (acc:=[]) hm;obtain⟨c,Q⟩:=lL (l:=Rt (s.heap.objs.size+1) scope.names (dy X.env.cells scope.names [])) (x:=x) (c:=(X.env.cells.lookup x).getD 0) (by rw[dD];exact Qt _ e);rcases a Q with z|⟨z,_⟩
  ·have B:=db g (ie z)
   rw[db g hm]at B;cases B
  ·exact⟨c,z,Q⟩
 have k:∀{x:Qn} {c:Pk},X.env.cells.lookup x=on c->c<s.heap.objs.size:=λ{x c} h=>let ⟨v,q⟩:=I.cell x c h;q.lt
 have nofr:H s.heap.objs.size=Pb:=I.hok.fresh (Pt _);have Y:∀b∈frs X.stack,b∈X.env.locals::X.fs:=I.stkSub;refine⟨⟨I.ok.mod,hk,I.ok.glob,I.ok.blt,Pt _,λx y c h1 h2=>?_,λx hx=>?_,λx c hf h=>?_,I.ok.hd,I.ok.frames,.inl rfl,λb J=>⟨?_,λx c h e=>?_⟩,I.bs,P3 I.ok.bsz I.sz,λb o e J=>?_,λb J hf=>?_,I.stack,I.stkFree⟩,
  rfl,I.bare,Un.kept keep,⟨_,ns,λi x v e1 A e3=>?_⟩,λx c h=>?_,nofr,λx c h=>?_,λp hp=>P6 hp (by simp),I.hok.kept keep,?_⟩
 ·rcases a h1 with B|⟨B,_⟩<;>rcases a h2 with Z|⟨Z,_⟩
  ·exact name_of_addr ca B Z
  ·exact P6 (P7 (k Z) (P3 (UT _) (O _ _ B).2)) (QD _)
  ·exact P6 (P7 (k B) (P3 (UT _) (O _ _ Z).2)) (QD _)
  ·exact I.ok.inj _ _ _ B Z
 ·--has
  have hx:(relabel scope X.env).names.lookup x=on .cell\/(relabel scope X.env).names.lookup x=on .free:=hx;have hm:(x,Wo)∈scope.names\/(x,Sj)∈scope.names:=by
   rcases hx with hx|hx
   ·rcases mem_relabel (Q2 hx)with z|⟨_,z⟩
    ·exact .inl z
    ·exact .inr z
   ·rcases mem_relabel (Q2 hx)with z|⟨_,z⟩
    ·exact .inr z
    ·exact .inr z
  rcases hm with hm|hm
  ·have q:=Xs scope.names (s.heap.objs.size+1) (dy X.env.cells scope.names []) (x:=x) (.inl (db g hm))
   exact WG.mp q
  ·obtain⟨c,_,Q⟩:=freeC hm
   exact⟨c,Q⟩
 ·--cab
  rcases a h with z|⟨_,z⟩
  ·exact P3 (UT _) (O _ _ z).2
  ·have z':(scope.names.lookup x !=on .free)=Pe:=hf
   rw[db g z]at z';exact P6 z' (by decide)
 ·obtain⟨o,e⟩:=W b J
  exact QE (Qa e)
 ·rcases a h with z|⟨z,_⟩
  ·obtain⟨o,e'⟩:=W b J
   subst e;exact P6 (P7 (Qa e') (P3 (UT _) (O _ _ z).2)) (QD _)
  ·exact(F b J).2.2.2.2.1 x c z e
 ·obtain⟨_,_,_,h4,_⟩:=F b J
  rcases h4 with z|z
  ·exact I.ok.noex b o e z
  ·exact P6 (P7 (Qa (I.ok.bs b o e).1) z) (QD _)
 ·obtain⟨_,h2,h3,_⟩:=F b J
  rcases PL.mp (Y b hf)with z|z
  ·exact h2 z
  ·exact h3 z
 ·--the names' values
  have hi:¬i<vars.length:=λhi=>by
   rw[Sh (by simpa using hi),RY]at A;split at A<;>cases A
  have L:(vars++caps.map (λj=>X.N.getD j Td))[i]?=on x:=by rw[←T];exact e1
  rw[Rh (by omega)]at L;rw[Rh (by simpa using hi)]at A;rw[Q1]at A;cases q:caps[i-vars.length]? with
  |none=>rw[Pi,q]at A;cases A
  |some j=>
   rw[Pi,q]at L A;have C:X.N.getD j Td=x:=Qd L;have e2':R.getD j Pb=on v:=Qd A;obtain⟨hj,t⟩:=U j (PU q);rw[C]at t;obtain⟨c,Q,hc'⟩:=freeC (Q2 t);have hNj:X.N[j]?=on x:=by
    rw[←C,Pf,Pd hj];rfl
   have hσj:R[j]?=on (on v):=by
    have hl:j<R.length:=by rw[I.len];exact hj
    rw[Pf,Pd hl]at e2';rw[Pd hl];exact QN on e2'
   have hkx:=f _ (Q2 t) rfl;obtain⟨m,hn,hl⟩:=I.loc;obtain⟨u,r,l⟩:=hl j x v hNj hσj (hkx.elim (λz=> .inr (.inl z)) λz=> .inr (.inr z));refine⟨u,r,.inr ⟨?_,c,hc',?_⟩⟩
   ·rcases e3 with z|z|z
    ·exfalso
     rcases mem_relabel (Q2 z)with y|⟨y,_⟩
     ·rw[db g y]at t;cases t
     ·cases y
    ·exact .inl z
    ·exact .inr z
   ·rcases l with⟨l,_⟩|⟨_,c',e,z⟩
    ·exfalso
     rcases hkx with y|y
     ·have y':X.env.kindOf x=on .cell:=y
      rw[l]at y';cases y'
     ·have y':X.env.kindOf x=on .free:=y
      rw[l]at y';cases y'
    ·rw[Q]at e
     cases e;exact z.keeps keep
 ·rcases a h with z|⟨z,_⟩
  ·exact⟨Pb,(O _ _ z).1⟩
  ·obtain⟨v,q⟩:=I.cell x c z
   exact⟨v,q.keeps keep⟩
 ·rcases a h with z|⟨z,_⟩
  ·exact I.hok.fresh (P3 (UT _) (O _ _ z).2)
  ·exact I.freeC x c z
 ·show _=Nc.length
  rw[T,PM,PM,Q1,Pa,Pa]
abbrev TB:=St->Hp->(St->Hp->Prop)->Prop
inductive CKd where
 |L (e:Expr)|S (e:Expr)|D (k v:Expr)
instance:Coe Expr CKd:=⟨.L⟩
noncomputable def mkC(c:CKd)(gens:List Rm)(scope:Scope)(pos:Uj):Expr:=match c with
 | .L e=> .ListComp e gens scope pos
 | .S e=> .SetComp e gens scope pos
 | .D k v=> .DictComp k v gens scope pos
noncomputable def emC(c:CKd)(acc:Pl)(env:Wr):Sem Unit:=match c with
 | .L e=>do let _ ←Wv (.builtin "list.append") [acc,←QS e env]
 | .S e=>do let v ←QS e env;Tz e.pos;let _ ←Wv (.builtin "set.add") [acc,v]
 | .D k v=>do
   let kv ←QS k env
   let vv ←T9 [kv] (QS v env)
   match acc with
   | .ref d=>do
    Tz {k.pos with endLine:=v.pos.endLine,endCol:=v.pos.endCol}
    T9 [kv,vv] (dictSet d kv vv)
   |_=>unsupported "internal:dictcomp"
noncomputable def hG(c:CKd)(gens:List Rm)(scope:Scope)(pos:Uj)(d:Nat)(acc:Pl)(env:Wr)(k:Sem UX):Sem UX:=
 match gens[d+1]? with
 |some g'=>do
  let x ←QS g'.iter env
  Tz g'.iter.pos
  let x ←if g'.is_async !=0 then foldedIterable g'.iter x else QA g'.iter env x
  let _ ←runOwn (.compStart (mkC c gens scope pos) (d+1) (←T9 [x] (if g'.is_async !=0 then asyncIter x else VR x)) acc env) env
  k
 |none=>do
  emC c acc env
  k
theorem vH{a b:Expr}(e:gens[d]?=on ⟨a,b,ifs,0⟩):
  compTurn (mkC c gens scope pos) d it acc env=(do
   Tz b.pos
   match ←Ua it with
   |none=>RZ (.done .next)
   |some v=>
    UI a it v
    UH a env v
    let mut ok:=Pe
    for y in ifs do
     if ok then ok ←isTrue y env (QS y env)
    if ok then hG c gens scope pos d acc env (WY (.compLoop (mkC c gens scope pos) d it acc env))
    else WY (.compLoop (mkC c gens scope pos) d it acc env)):=by
 cases c<;>(
  unfold compTurn hG mkC emC
  dsimp only
  rw[e]
  dsimp only
  cases gens[d+1]?<;>rfl)
variable{prog:Qf}{A:QP}{R:Result->Pr->Prop}{s:Pr}
theorem DM(F:gens[d]?=on ⟨target,iter,ifs,0⟩)(I:Nat->Pr->Prop)
  (q:∀n s,I n s->PN (Qc prog w) A (Ua it) (λr a=>match r with
   |none=>R (.ok .next) a
   |some v=>PN (Qc prog w) A (UI target it v) (λ_ b=>PN (Qc prog w) A (UH target env v) (λ_ j=>
    PN (Qc prog w) A (forIn ifs Pe λy r=>if r=Pe then do let ok ←isTrue y env (QS y env);RZ (UR ok)else RZ (UR r)) (λok g=>
     if ok=Pe then ∀(k:Sem UX) (B:UX->Pr->Prop) (C:Pl->Pr->Prop),(∀i m,m<n->I m i->PN (Qc prog w) A k B C i)->PN (Qc prog w) A (hG c gens scope pos d acc env k) B C g
     else ∃m,m<n/\I m g) (λ_ _=>False) j) (λ_ _=>False) b) (λ_ _=>False) a) (λ_ _=>False) s)
  (n:Nat) (h:I n s):
  TU (Qc prog w) A (.compLoop (mkC c gens scope pos) d it acc env) R s:=by
 refine codeAny_loop rfl I (λn s hI=>?_) n h
 suffices z:PN (Qc prog w) A ((compTurn (mkC c gens scope pos) d it acc env).onRaise (λx=>do noteFrame x env;theTreesLotGoes x)) (λu s'=>match u with
   |Fin.done f=>R (RF f) s'
   |Fin.again c'=>c'=Code.compLoop (mkC c gens scope pos) d it acc env/\∃m,m<n/\I m s') (λe s'=>R (Except.error e) s') s by cases c<;>exact z
 refine wpAny_noted ?_;rw[vH F];refine My (Sf (My (QG (q n s hI) (λr a l=>?_) λ_ _ h'=>h'.elim)));cases r with
 |none=>exact Pc l
 |some v=>
  refine My (QG l (λ_ b p=>?_) λ_ _ h'=>h'.elim);refine My (QG p (λ_ j t=>My (QG t (λok g o=>?_) λ_ _ h'=>h'.elim)) λ_ _ h'=>h'.elim);cases ok with
  |false=>exact Pc ⟨rfl,o⟩
  |true=>exact o _ _ _ λi m hm hI=>Pc ⟨rfl,m,hm,hI⟩
theorem yO(j:gens[d]?=on ⟨target,iter,ifs,0⟩)
  (i:TU (Qc prog w) A (.compLoop (mkC c gens scope pos) d it acc env) R s)
  (h:PN (Qc prog w) A (VR it) (λa s'=>TU (Qc prog w) A (.compLoop (mkC c gens scope pos) d a acc env) R s') (λ_ _=>False) s):
  TU (Qc prog w) A (.compStart (mkC c gens scope pos) d it acc env) R s:=by
 refine codeAny_of_tree ?_
 suffices z:PN (Qc prog w) A ((compStart (mkC c gens scope pos) d it acc env).onRaise (λx=>do noteFrame x env;Tz theWindowsPlace)) (λg s'=>match g with
   |Fin.done f=>R (RF f) s'
   |Fin.again c'=>c'.quiet=Pe/\TU (Qc prog w) A c' R s') (λe s'=>R (Except.error e) s') s by cases c<;>exact z
 refine wpAny_notedAt ?_;unfold compStart;have b:(clausesOf (mkC c gens scope pos))[d]?=on ⟨target,iter,ifs,0⟩:=by cases c<;>exact j
 generalize (clausesOf (mkC c gens scope pos))[d]?=og at b⊢;subst b;show PN _ _ (ask>>=_) _ _ s;refine My (Uq (wpAny_ite ?_));split
 ·first
   |exact My (Pc (Pc (W8 rfl i)))
   |exact Pc (W8 rfl i)
 ·first
   |exact My (Tl (My (Sf (My (QG h (λa s' h'=>Pc (W8 rfl h')) λ_ _ x=>x.elim)))))
   |(refine My (Tl ?_);show PN _ _ (Tz iter.pos>>=_) _ _ s;exact My (Sf (My (QG h (λa s' h'=>Pc (W8 rfl h')) λ_ _ x=>x.elim))))
def dU(X:Cx)(b:List Expr)(t:TT):Prop:=
 ∀(a:List (Pk×Qb)) (s:Pr) (d:St) (H:Hp) (Q:Bool->Hp->Prop),Inv X a d H s->t d H Q->
  PN (Qc X.prog X.w) X.A (forIn b Pe λc r=>if r=Pe then do let ok ←isTrue c X.env (QS c X.env);RZ (UR ok)else RZ (UR r)) (TP X a d Q) X.xe s
noncomputable def Lj:TT:=λ_ H Q=>Q Pe H
theorem uL{X:Cx}:dU X [] Lj:=λ_ _ _ H _ I h=>Pc ⟨H,I,h⟩
theorem CP{X:Cx}(d:PT X c t):dU X [c] t:=λa s e H Q I h=>by
 simp only[SO,S3,Qv];exact My (My (QG (d a s e H Q I h) (λb s' f=>Pc (Pc f)) λ_ _ x=>x))
def PB(X:Cx)(c:CKd)(gens:List Rm)(scope:Scope)(pos:Uj)(d:Nat)(D:Pk)(t:TB):Prop:=
 ∀(a:List (Pk×Qb)) (s:Pr) (e:St) (H:Hp) (Q:St->Hp->Prop),Inv X a e H s->t e H Q->
  ∀(k:Sem UX) (f:UX->Pr->Prop) (g:Pl->Pr->Prop),(∀s' b h,Inv X a b h s'->Q b h->PN (Qc X.prog X.w) X.A k f g s')->PN (Qc X.prog X.w) X.A (hG c gens scope pos d (.ref D) X.env k) f g s
def di(J:It)(g:TG)(tt:TT)(j:TB):TB:=λc H Q=>∃W:Nat->Nat->St->Hp->Prop,(∃m,W 0 m c H)/\∀i m c H,W i m c H->
 (J.stop i H/\Q c H)\/(J.go i H/\∃N:St->Hp->Prop,(∀d e,N d e->∃f,f<m/\W (i+1) f d e)/\∀x e,J.yld i H x e->g x c e λa k=>tt a k λb h=>if b=Pe then j a h N else N a h)
def ym(D:Pk)(c:TE):TB:=λa H Q=>c a H λv b=>∃xs,b D=on (.lst xs)/\xs.length<PQ/\Q a (upd b D (.lst (xs++[v])))
def yk(b:TI)(c:It->TB):TB:=λa H Q=>b a H λJ d=>c J a d Q
variable{c:CKd}{elt target iter:Expr}{ifs:List Expr}{gens:List Rm}{scope:Scope}{pos:Uj}{d:Nat}{D:Pk}
theorem sP(hg:gens[d]?=on ⟨target,iter,ifs,0⟩)(hc:X.calm=Pe)(F:X.xe=λ_ _=>False)(hgt:PG X target g)(hts:dU X ifs tt)(j:PB X c gens scope pos d D tb)
  {s:Pr}
  (I:Inv X pins σ H s) (T:Turn X.prog X.w X.K target J fp it tn) (st:tn 0 s.heap) (hf:∀b∈fp,fK X pins H b) (h:di J g tt tb σ H Q):
  TU (Qc X.prog X.w) X.A (.compStart (mkC c gens scope pos) d (.ref it) (.ref D) X.env) (λr s'=>r= .ok .next/\∃a f,Inv X pins a f s'/\Q a f) s:=by
 obtain⟨W,⟨m0,w0⟩,L⟩:=h;have l:∀{f:Hp},(∀b∈fp,f b=Pb)->∀b∈fp,fK X pins f b:=λhn b j=>⟨hn b j,(hf b j).2⟩;have t:TU (Qc X.prog X.w) X.A (.compLoop (mkC c gens scope pos) d (.ref it) (.ref D) X.env) (λr s'=>r= .ok .next/\∃a f,Inv X pins a f s'/\Q a f) s:=by
  refine DM hg (λn s'=>∃i a f,Inv X pins a f s'/\tn i s'.heap/\(∀b∈fp,f b=Pb)/\W i n a f) ?_ m0 ⟨0,σ,H,I,st,λb j=>(hf b j).1,w0⟩;rintro n s3 ⟨i,p,Z,I3,O,U,w3⟩;rcases L i n p Z w3 with⟨stop,qn⟩|⟨go,N,hN,step⟩
  ·refine thn (T.done X rfl rfl rfl hc i pins s3 p Z _ I3 (l U) O stop) λr s4 ⟨hr,I4⟩=>?_
   subst hr;exact⟨rfl,p,Z,I4,qn⟩
  ·refine thn (T.item X rfl rfl rfl hc i pins s3 p Z _ I3 (l U) O go) λr s4 ⟨u,hr,h4⟩=>?_
   subst hr;refine thn h4 λ_ s5 ⟨x,H5,I5,r5,y5,v,fr5⟩=>?_;have I5':=I5.pinned (l fr5) (T.obj _ _ v);have WY:∀{q:St} {y:Hp} {B:Pr},Inv X (pins++md fp s5.heap) q y B->N q y->∃m,m<n/\∃i a f,Inv X pins a f B/\tn i B.heap/\(∀b∈fp,f b=Pb)/\W i m a f:=λ{q y B} C n7=>by
    obtain⟨m',hm,w7⟩:=hN q y n7;refine⟨m',hm,i+1,q,y,C.unpinned,T.keep _ _ _ v λb j o e=>(C.pin (b,o) (Qt _ (Qt _ (iC j e)))).1,λb j=>?_,w7⟩;obtain⟨o,e,d⟩:=T.obj _ _ v b j;exact(C.pin (b,o) (Qt _ (Qt _ (iC j e)))).2.1
   have h6:=hgt _ s5 p H5 x u _ I5' r5 (step x H5 y5);rw[F]at h6;refine thn h6 λ_ s6 ⟨Y,H6,I6,q6⟩=>?_;have h7:=hts _ s6 Y H6 _ I6 q6;rw[F]at h7;refine thn h7 λb B ⟨y,C,q7⟩=>?_;cases b with
   |true=>
    rw[Ps rfl]at q7⊢;intro k Q' E' hk;refine j _ B Y y N C q7 k Q' E' λs8 σ8 H8 I8 n8=>?_;obtain⟨m,hm,z⟩:=WY I8 n8;exact hk s8 m hm z
   |false=>
    rw[Po Pw]at q7⊢;exact WY C q7
 exact yO hg t (T.self X.A 0 s _ _ st t)
theorem aF(m:gens[d+1]?=Pb)(o:PE X elt te)(b:X.xe=λ_ _=>False):PB X elt gens scope pos d D (ym D te):=by
 intro a s g H Q I h k y B p;unfold hG;rw[m];show PN _ _ ((do let _ ←Wv (.builtin "list.append") [.ref D,←QS elt X.env])>>=λ_=>k) _ _ _
 have i:=o a s g H _ I h;rw[b]at i;refine My (My (QG i (λu C ⟨v,J,j,r,xs,l,L,q⟩=>?_) λ_ _ f=>f.elim));obtain⟨z,its,n,t,N,e⟩:=j.lstM l;refine My (Wc F.slot_list_append ⟨_,e,rfl⟩ F.entry_list_append (YC _ _) (Ys D its.toArray n u (by rw[PV];omega)) ⟨e,?_⟩);refine Pc (p _ g _ (j.lset (its':=its++[u]) l e (by simp) (t.append (.cons r .nil)) ?_) q);rw[PM,QC];omega
theorem q9(o:gens[d+1]?=on ⟨target',iter',ifs',0⟩)(p:X.calm=Pe)(a:X.xe=λ_ _=>False)(t:PI X target' iter' wi)
  (j:PG X target' g) (l:dU X ifs' tt) (u:PB X c gens scope pos (d+1) D tb) (hs:∀x,QA iter' X.env x=RZ x:=by intro _;rfl):PB X c gens scope pos d D (yk wi λJ=>di J g tt tb):=by
 intro b s y H Q I h k Y Z B;unfold hG;rw[o];have i:=t b s y H _ I h;rw[a]at i;refine My (QG i (λv s1 i=>My (Sf ?_)) λ_ _ f=>f.elim);show PN _ _ (QA iter' X.env v>>=_) _ _ _;refine My (Tk (hs v) ?_);show PN _ _ (T9 [v] (VR v)>>=_) _ _ _;refine My (Re (QG i (λC s2 F=>?_) λ_ _ f=>f.elim));obtain⟨it,fp,tn,J,H2,e,L,T,m,f2,q⟩:=F;subst e;refine My (wpAny_runOwn (UP (sP o p a j l u L T m f2 q) λr s' ⟨N,z⟩=>?_));subst N;obtain⟨n,O,U,W⟩:=z;exact B s' n O U W
noncomputable def kG(vars:List Qn)(caps:List Nat)(a:St):St:=PR vars.length Pb++caps.map (λj=>a.getD j Pb)
def Mks(X:Cx)(mk:Sem Pl)(g:Pk->HO):Prop:=∀(a:List (Pk×Qb)) (s:Pr) (f:St) (H:Hp) (E:Pl->Pr->Prop) (Q:Pl->Pr->Prop),Inv X a f H s->
 (∀e:Pr,Inv X a f (upd H s.heap.objs.size (g s.heap.objs.size)) e->(∀b o,s.heap.get? b=on o->e.heap.get? b=on o)->Q (.ref s.heap.objs.size) e)->PN (Qc X.prog X.w) X.A mk Q E s
theorem uU{X:Cx}:Mks X (newList []) λ_=> .lst []:=λa s f H E Q I h=>Q0 (h _ (I.lnew (t':=s.toks) .nil (QV _)) λb o e=>Ph _ e)
def pz(vars:List Qn)(caps:List Nat)(e:TI)(f:Pk->It->TB):TE:=λa H Q=>e a H λJ b=>∀D,b D=Pb->f D J (kG vars caps a) (upd b D (.lst [])) λ_ g=>Q (.ref D) g
structure CmpScope (X:Cx) (scope:Scope) (Nc vars:List Qn) (caps:List Nat):Prop where
 kind:scope.kind= .function
 nd:(scope.names.map (·.1)).Nodup
 free:∀y∈scope.names,y.2= .free->X.env.kindOf y.1=on .cell\/X.env.kindOf y.1=on .free
 names:Nc=vars++caps.map (λj=>X.N.getD j Td)
 cap:∀j∈caps,j<X.N.length/\scope.names.lookup (X.N.getD j Td)=on .free
variable{rest:List Rm}{Nc vars:List Qn}{caps:List Nat}{g:TG}{tt:TT}{tb:Pk->TB}{wi:TI}
def N4(X:Cx)(a:List (Pk×Qb))(H:Hp)(C:Pk):Prop:=H C=Pb/\C≠X.env.locals/\X.s₀.heap.objs.size<=C/\(∀x c,X.env.cells.lookup x=on c->c≠C)/\∀p∈X.pn++a,p.1≠C
theorem g9{c:CKd}{mk:Sem Pl}{B:Pk->HO}(O:Mks X mk B){f:List (Pk×Qb)}{F:St}{H:Hp}{s:Pr}{it:Pk}{h:List Pk}{Q:Nat->QW->Prop}{J:It}{E:Pl->Pr->Prop}{QQ:Pk->Hp->Prop}{RR:Pl->Pk->Result->Pr->Prop}
  (hc:X.calm=Pe) (S:CmpScope X scope Nc vars caps)
  (L:∀(cl:List (Qn×Pk)) (C:Pk) (h:List Pk) (s:Pr) (H:Hp),PG (aI X Nc scope cl C h s H) target g/\dU (aI X Nc scope cl C h s H) ifs tt/\∀D,PB (aI X Nc scope cl C h s H) c (⟨target,iter,ifs,0⟩::rest) scope pos 0 D (tb D))
  (I:Inv X f F H s) (T:Turn X.prog X.w X.K target J h it Q) (st:Q 0 s.heap) (U:∀b∈h,fK X f H b)
  (q:∀D,H D=Pb->di J g tt (tb D) (kG vars caps F) (upd H D (B D)) λ_ k=>QQ D k)
  (W:∀(D C:Pk) (s':Pr) (k:Hp) (m:Qn->Option Pl),Inv X f F k s'->s'.heap.Ns C m->N4 X f k C->QQ D k->RR (.ref D) C (.ok .next) s'):
  PN (Qc X.prog X.w) X.A mk (λacc t=>PN (Qc X.prog X.w) X.A (Xz scope X.env.globals (dy X.env.cells scope.names []) [] X.env.qual Pb .none (on X.env)) (λj u=>
   TU (Qc X.prog X.w) X.A (.compStart (mkC c (⟨target,iter,ifs,0⟩::rest) scope pos) 0 (.ref it) acc {j with scope:=relabel scope X.env}) (RR acc j.locals) u) E t) E s:=by
 refine O f s F H _ _ I λi l y=>?_;have hD:H s.heap.objs.size=Pb:=I.fresh;have q3:=q s.heap.objs.size hD;have Y:∀b∈h,∃o,i.heap.get? b=on o:=λb L=>let ⟨o,e,_⟩:=T.obj _ _ st b L;⟨o,y b o e⟩
 have Z:∀b∈h,fK X f (upd H s.heap.objs.size (B s.heap.objs.size)) b:=λb a=>⟨by
  rw[upd_ne]
  ·exact(U b a).1
  ·obtain⟨o,e,_⟩:=T.obj _ _ st b a
   exact QE (Qa e),(U b a).2⟩
 generalize hH3:upd H s.heap.objs.size (B s.heap.objs.size)=H3 at l q3 Z;generalize s.heap.objs.size=D at hD hH3 q3⊢;refine EK λh' ns keep ce ca=>?_;have N:=EA l S.kind S.nd S.free S.names S.cap Z Y ns keep ce ca;obtain⟨b1,b2,b3⟩:=L (Rt (i.heap.objs.size+1) scope.names (dy X.env.cells scope.names [])) i.heap.objs.size h i H3;have st4:Q 0 h':=T.keep _ _ _ st λb L o e=>keep b o (y b o e);have f4:∀b∈h,fK (aI X Nc scope (Rt (i.heap.objs.size+1) scope.names (dy X.env.cells scope.names [])) i.heap.objs.size h i H3) [] H3 b:=λb a=>
  ⟨(Z b a).1,(N.ok.exf b a).1,N.ok.exfs b a,.inl a,(N.ok.exf b a).2,λp hp=>P6 hp (by simp)⟩
 refine UP (sP (X:=aI X Nc scope (Rt (i.heap.objs.size+1) scope.names (dy X.env.cells scope.names [])) i.heap.objs.size h i H3) (gens:=⟨target,iter,ifs,0⟩::rest) (d:=0) rfl hc rfl b1 b2 (b3 D) N T st4 f4 q3) λr s' ⟨hr,σ',k,n,q'⟩=>?_;subst hr;obtain⟨m,hm,_⟩:=n.loc;have C1:X.env.locals<i.heap.objs.size:=l.lt;refine W D _ s' k m (l.call' (ch:=h) n.os n.base n.hok n.bare λb a=>?_) hm ⟨n.free,SL C1,l.sz,λx c e z=>?_,λp hp z=>?_⟩ q'
 ·obtain⟨_,h2,h3,h4,h5,h6⟩:=U b a
  exact⟨h4,h2,h5,h6⟩
 ·obtain⟨v,e'⟩:=l.cell x c e
  exact P6 (z▸e'.lt) (QD _)
 ·have:=Qa (l.pin p hp).1
  rw[z]at this;exact P6 this (QD _)
theorem Inv.letgo{s:Pr}(I:Inv X pins σ H s)(o:N4 X pins H C)(hs:Qg C s.heap h'):Inv X pins σ H {s with heap:=h'}:=
 I.turned (t':=s.toks) (λb f a e=>(hs.2 b a).trans e) o.1 (Ne.symm (Ne.symm o.2.1)) (.inr o.2.2.1) o.2.2.2.1 o.2.2.2.2
theorem CmpScope.clo(S:CmpScope X scope Nc vars caps)(ok:X.Ok):closureFor scope X.env=RZ (dy X.env.cells scope.names []):=yg λy a b=>ok.has y.1 (S.free y a b)
theorem CmpScope.loc(S:CmpScope X scope Nc vars caps):∀x∈scope.names,x.2= .local->scope.names.lookup x.1=on .local:=λx a b=>db S.nd (by rw[←b];exact a)
theorem nc(j:X.calm=Pe)(S:CmpScope X scope Nc vars caps)(k:PI X target iter wi)
  (l:∀(cl:List (Qn×Pk)) (C:Pk) (b:List Pk) (s:Pr) (H:Hp),PG (aI X Nc scope cl C b s H) target g/\dU (aI X Nc scope cl C b s H) ifs tt/\∀D,PB (aI X Nc scope cl C b s H) elt (⟨target,iter,ifs,0⟩::rest) scope pos 0 D (tb D))
  (hs:∀x,QA iter X.env x=RZ x:=by intro _;rfl):PE X (.ListComp elt (⟨target,iter,ifs,0⟩::rest) scope pos) (pz vars caps wi λD J=>di J g tt (tb D)):=by
 intro a s n H Q I h;rw[eval_ListComp];refine SE (use:=Pb) rfl hs (S.clo I.ok) S.kind S.loc (QG (k a s n H _ I h) (λv N o=>QG o (λp O r=>?_) λ_ _ x=>x) λ_ _ x=>x);obtain⟨it,b,U,J,W,e,t,T,f,f2,q⟩:=r;subst e;refine g9 (c:= .L elt) uU (RR:=λacc C=>Xu (Qc X.prog X.w) X.A X.xe Pb _ acc C) j S l t T f f2 q λD C s' u m y ns B F=>?_;exact⟨m,ns,λh' i=>⟨.ref D,u,y.letgo B i,rfl,F⟩⟩
theorem wr{b f:Uj}(y:X.N.Nodup)(l:X.N[i]?=on x)(B:Loc X.env.scope x)(F:X.calm=Pe)(S:CmpScope X scope Nc vars caps)(O:PI X target iter wi)
  (U:∀(cl:List (Qn×Pk)) (C:Pk) (k:List Pk) (s:Pr) (H:Hp),PG (aI X Nc scope cl C k s H) target g/\dU (aI X Nc scope cl C k s H) ifs tt/\∀D,PB (aI X Nc scope cl C k s H) elt (⟨target,iter,ifs,0⟩::rest) scope pos 0 D (tb D))
  (n:Uo (.ListComp elt (⟨target,iter,ifs,0⟩::rest) scope pos) (on (.Name x b)) f.line X.env=RZ Pe:=by rfl)
  (hs:∀x,QA iter X.env x=RZ x:=by intro _;rfl) (W:X.fn x=Pe\/X.env.scope.names.lookup x=on .local:=by first|exact .inl rfl|exact .inr rfl|assumption):
  PS X (.Assign [.Name x b] (.ListComp elt (⟨target,iter,ifs,0⟩::rest) scope pos) f) (jP (pz vars caps wi λD J=>di J g tt (tb D)) (fY i)):=by
 intro j s Y H D I h;rw[exec_Assign_Name_used _ _ _ _ n];refine My (Sf (My ?_));show PN _ X.A (do let _ ←comprehension (.ListComp elt (⟨target,iter,ifs,0⟩::rest) scope pos) scope X.env _ (newList []) Pj (QS iter X.env) (on (UH (.Name x b) X.env))) _ _ s
 refine My (QG (SE (use:=on (UH (.Name x b) X.env)) (Q:=λ_ s'=>SP X j D .next s') rfl hs (S.clo I.ok) S.kind S.loc
  (QG (O j s Y H _ I h) (λv s1 Z=>QG Z (λitv s2 h2=>?_) λ_ _ e=>e) λ_ _ e=>e)) (λ_ s' hq=>Pc (Pc hq)) λ_ _ e=>e)
 obtain⟨it,k,tn,J,H2,e,o,T,p,f2,q⟩:=h2;subst e;refine g9 (c:= .L elt) uU (RR:=λacc C=>Xu (Qc X.prog X.w) X.A X.xe (on (UH (.Name x b) X.env)) _ acc C) F S U o T p f2 q λA C s' H' m I' ns r q'=>?_;show PN _ X.A (UH (.Name x b) X.env (.ref A)) _ _ s';refine WB (lW I' y l B (v:= .ref A) rfl (λs2 o ⟨a,sb,ha⟩=>?_) W);have t:C≠a:=by
  rcases ha with rfl|ha
  ·exact r.2.1
  ·exact λz=>r.2.2.2.1 x a ha z.symm
 exact⟨m,ns.sameBut sb t,λh' u=>⟨_,H',o.letgo r u,q'⟩⟩
end
end L2
namespace L2
open PySem PySem.Spec
open Sem (wp)
open Builtin Builtin.ObjectAttr
structure XShape (h:QW) (C:Pk) (bm:List Pl):Prop where
 at_:∃(nm q:Qn) (N:Pk) (bs:List Pl) (hdct:Bool) (sn:List Qn) (sub:List Pl) (ab:Bool) (col:Option Bool) (dd:Option Pk) (k0 k1 k2 k3 k5:Option Pl),
  h.get? C=on (excClassObj nm q C N bs bm hdct sn sub ab col dd k0 k1 k2 k3 k5 "ValueError.__new__")
 val:bm.contains (.type "ValueError")=Pe
 bas:bm.contains (.type "BaseException")=Pe
 att:bm.contains (.type "AttributeError")=Pj
 nam:bm.contains (.type "NameError")=Pj
section
variable{prog:Qf}{w:Qq}{A:QP}{E:Pl->Pr->Prop}{h:QW}{g:Array GenState}{d:Drawn}{t:Nat}{os:Vd}{C:Pk}{bm rest:List Pl}
noncomputable def wX:List Pl->Bool
 |[.type a,.type b,.type c,.type d]=>a=="ValueError"&&b=="Exception"&&c=="BaseException"&&d=="object"
 | .ref _::r=>wX r
 |_=>Pj
variable{s:Pr}{e:Pk}{K:PZ}{cd:ClassData}{name:Qn}{v:Pl}
end
end L2
namespace L2
open PySem PySem.Spec PyProof.Rows
theorem bO.there{h:QW}(x:bO P w H h a o):∃b,h.get? a=on b:=by
 cases o with
 |lst xs=>obtain⟨_,_,_,_,e⟩:=x;exact⟨_,e⟩
 |tup xs=>obtain⟨_,_,_,_,e,_⟩:=x;exact⟨_,e⟩
 |ins C dx fs=>obtain⟨_,_,_,e,_⟩:=x;exact⟨_,e⟩
 |own y=>exact x
 |xd fs=>obtain⟨_,⟨_,_,_,e,_⟩,_⟩:=x;exact⟨_,e⟩
 |rng lo hi=>obtain⟨_,_,_,e⟩:=x;exact⟨_,e⟩
 |frz b u=>obtain⟨e,_⟩:=x;exact⟨_,e⟩
 |tbl ps=>exact⟨_,(show h.get? a=on _ from x)⟩
 |met f y=>exact⟨_,(show h.get? a=on _ from x)⟩
 |ext φ=>obtain⟨_,e,_⟩:=x;exact e
structure Flown (P:Qf) (w:Qq) (outer:List Wr) (H:Hp) (s:Pr) (E:XK) (x C:Pk) (H':Hp) (s':Pr):Prop where
 os:s'.os=s.os
 bare:UK s'.gens
 un:Un (frs outer) [] H H' s.heap s'.heap
 hok:HOk P w H' s'.heap
 tr:∃(oe:Qb) (vs:Array Pl) (T:Pk) (oT:Qb) (ts:Array Pl) (a0:Pl),s'.heap.get? x=on oe/\(oe.cls= .ref C/\vs[0]?=on a0)/\oe.data= .fields vs/\vs[1]?=on (.ref T)/\T≠x/\s'.heap.get? T=on oT/\oT.data= .fields ts/\ts[3]?=on .none/\H' T=Pb/\s.heap.get? T=Pb
 xn:H' x=Pb
 xs:s.heap.get? x=Pb
 wish:E (.ref C) Pb H'
def CXE(P:Qf)(w:Qq):CXT:=λouter H s E e s'=>∃x C a,e= .ref x/\Flown P w outer H s E x C a s'
theorem z0{X:Cx}{s s':Pr}{E:XK}(I:Inv X pins σ H s)(g:X.stack=X.env::X.outer)(i:X.env.frame=on X.env.locals)(R:X.ex=[])
  (os:s'.os=X.s₀.os) (bare:UK s'.gens) (d:Un (frs X.stack) [] X.H₀ H' X.s₀.heap s'.heap) (hok:HOk X.prog X.w H' s'.heap) (y:∀b∈frs X.stack,H' b=Pb)
  (c:∀b∈ext,X.s₀.heap.get? b=Pb/\H' b=Pb) (O:x∈ext) (wish:E (.ref C) Pb H')
  (L:Heap.LeftW (YK s'.heap (ext++frs X.stack)) (X.env::X.outer) x (.ref C) a0 s'.heap h'):Flown X.prog X.w X.outer X.H₀ X.s₀ E x C H' {s' with heap:=h'}:=by
 obtain⟨U,L2,W,Y⟩:=L;have j:∀b∈frs X.outer,b∈frs X.stack:=λb hb=>by
  rw[g];unfold frs;rw[Ro,i];exact Pg _ hb
 have h:∀b∈frs X.stack,b=X.env.locals\/b∈frs X.outer:=λb hb=>by
  rw[g]at hb;unfold frs at hb;rw[Ro,i]at hb;exact PL.mp hb
 have A:∀b o,X.s₀.heap.get? b=on o->b≠X.env.locals:=λb o e=>QE (P7 (Qa e) I.ok.above);have stay:∀b o,s'.heap.get? b=on o->b∉ext->b∉frs X.stack->h'.get? b=on o:=λb o e B Z=>
  U b o (hideAll_get _ e λhm=>(Rj.mp hm).elim B Z)
 have k:∀b o,X.s₀.heap.get? b=on o->b∉ext:=λb o e hb=>by rw[(c b hb).1]at e;cases e
 have f:∀b∈frs X.stack,∃o,h'.get? b=on o/\∀vs,o.data≠ .fields vs:=λb hb=>(L2.mem (by rw[←g];exact hb)).2;obtain⟨oe,vs,T,oT,P,he,hc,hd,B,l,F,Q,m,h3⟩:=W;have p:H' T=Pb/\X.s₀.heap.get? T=Pb:=by
  by_cases hm:T∈ext++frs X.stack
  ·rcases Rj.mp hm with hm|hm
   ·exact⟨(c T hm).2,(c T hm).1⟩
   ·obtain⟨o,e,nf⟩:=f T hm
    rw[Q]at e;cases e;exact P6 m (nf P)
  ·have hs:s'.heap.get? T=Pb:=by
    cases q:s'.heap.get? T with
    |none=>rfl
    |some o=>rw[hideAll_get _ q hm]at l;cases l
   constructor
   ·cases q:H' T with
    |none=>rfl
    |some o=>obtain⟨ob,e⟩:=(hok T o q).there;rw[hs]at e;cases e
   ·cases q:X.s₀.heap.get? T with
    |none=>rfl
    |some o=>obtain⟨ob,e⟩:=d.there T o q (by simp);rw[hs]at e;cases e
 refine⟨os,bare,⟨λb o e n hb _=>?_,λb o e n hb _=>?_,λb o e n hb=>d.free b o e n hb,λb o e _=>?_,d.tups,d.frzs,d.tbls⟩,λa o e=>?_,⟨oe,vs,T,oT,P,a0,he,hc,hd,B,F,Q,m,h3,p.1,p.2⟩,(c x O).2,(c x O).1,wish⟩
 ·have nf:b∉frs X.stack:=λz=>(h b z).elim (A b o e) hb
  exact stay b o (d.keep b o e n nf (by simp)) (k b o e) nf
 ·obtain⟨sl,r⟩:=d.slot b o e n (j b hb) (by simp)
  obtain⟨_,J,v,nf⟩:=I.ok.funs.mem hb;rw[e]at v;cases v;obtain⟨N,e3⟩:=Y b _ r nf;exact⟨N,e3⟩
 ·obtain⟨J,r⟩:=d.there b o e (by simp)
  by_cases hb:b∈frs X.stack
  ·obtain⟨o2,v,_⟩:=f b hb
   exact⟨o2,v⟩
  ·exact⟨J,stay b J r (k b o e) hb⟩
 ·refine(hok a o e).stay (λb u hb r=>?_) (λ_ q=>q) λ_ _ q=>q
  have t:H' b≠Pb:=by
   rcases hb with rfl|hb
   ·rw[e];simp
   ·rw[hb];simp
  exact stay b u r (λz=>t (c b z).2) λz=>t (y b z)
theorem AM{h base:QW}(d:h.FunFrames base l)(c:∀b∈frs l,b∈as):h.FunFrames (YK h as) l:=
 PySem.W.funFrames_hide d λenv e a ha=>c a (by unfold frs;exact UB.mpr ⟨env,e,ha⟩)
theorem Kg{X:Cx}{E F:XK}(a:X.stack=X.env::X.outer)(d:X.env.frame=on X.env.locals)(f:X.ex=[])(R:∀cls J H,F cls J H->E cls J H)
  (I:Inv X pins σ H s) (h:CXE X.prog X.w X.stack H s F e s'):
  PN (Qc X.prog X.w) X.A (leaving X.env e) (λ_ j=>CXE X.prog X.w X.outer X.H₀ X.s₀ E e j) E1 s':=by
 obtain⟨x,C,N,rfl,os,bare,un,hok,⟨U,vs,T,W,Y,a0,Z,hc,hd,h1,k,hT,m,h3,n,p⟩,xn,xs,wish⟩:=h;have nofs:∀b∈X.fs,b∈frs X.stack:=λb hb=>by
  rw[a];unfold frs;rw[Ro,d];exact Pg _ hb
 have O:Un (frs X.stack) [] X.H₀ H X.s₀.heap s.heap:=by
  have b:=I.base;rw[f]at b;exact b.mono nofs λ_ z=>z
 have U0:=O.trans un;have g:∀b,s.heap.get? b=Pb->X.s₀.heap.get? b=Pb:=λb e=>by
  cases q:X.s₀.heap.get? b with
  |none=>rfl
  |some o=>obtain⟨o',P⟩:=O.there b o q (by simp);rw[e]at P;cases P
 have c:=I.stack;have i:s'.heap.FunFrames X.base X.stack:=by
  have all:∀(l:List Wr),(∀b∈frs l,b∈frs X.stack)->s.heap.FunFrames X.base l->s'.heap.FunFrames X.base l:=by
   intro l
   induction l with
   |nil=>intro _ _;trivial
   |cons env r ih=>
    intro hs hl;obtain⟨hk,⟨L,o,t,hn,u,v⟩,hr⟩:=hl;have Q:L∈frs X.stack:=hs L (by unfold frs;rw[Ro,t];exact Pn);obtain⟨sl,e⟩:=un.slot L o u (I.stkFree L Q) Q (by simp);exact⟨hk,⟨L,_,t,hn,e,v⟩,ih (λb hb=>hs b (by unfold frs;rw[Ro,t];exact Pg _ hb)) hr⟩
  exact all X.stack (λ_ hb=>hb) c
 have y:∀b∈frs X.stack,N b=Pb:=λb hb=>by
  obtain⟨_,o,u,_⟩:=c.mem hb;exact un.free b o u (I.stkFree b hb) (by simp)
 have B:∀b∈frs X.stack,b∈[x,T]++frs X.stack:=λb hb=>Qt _ hb;have hF:s'.heap.FunFrames (YK s'.heap ([x,T]++frs X.stack)) (X.env::X.outer):=by
  have z:=AM i B;rw[a]at z⊢;exact z
 refine wpAny_leaving_nextW (base:=YK s'.heap ([x,T]++frs X.stack)) (by rw[←a];exact I.ok.frames) hF d ⟨U,vs,T,W,Y,Z,hc,hd,h1,YL _ (by simp),k,hT,m,h3⟩ (λb o q=>Xp _ q) (YL _ (by simp)) λh' L=>?_;refine⟨x,C,N,rfl,z0 I a d f (os.trans I.os) bare U0 hok y (λb hb=>?_) (by simp) (R _ _ _ wish) L⟩;rcases PL.mp hb with rfl|hb
 ·exact⟨g _ xs,xn⟩
 ·obtain rfl:b=T:=by simpa using hb
  exact⟨g _ p,n⟩
section
variable{X:Cx}{pins:List (Pk×Qb)}{σ:St}{H H':Hp}{s s':Pr}{E:XK}{x C:Pk}
structure XC (K:PZ) (C:Pk):Prop where
 sh:∃bm,∀h:QW,K.In h->XShape h C bm
 sa:TX K (.ref C) "__setattr__"=on (on (.builtin "object.__setattr__"))
 cd:∃cd,PySem.W.clsIn K C=on cd/\cd.hasDict=Pe/\wX cd.mro=Pe
structure XMk (K:PZ) (C f:Pk):Prop where
 xc:XC K C
 init:TX K (.ref C) "__init__"=on (on (.ref f))
 fn:isFn K (.ref f)=Pe
 kp:U1 K (.ref C)=Pe
end
section
variable{X:Cx}{CX:CXT}{k:Nat}{f C:Pk}{fd:P9}{ps:List Qn}{sp:Sp}{dvs:List V}{ds:List Pl}{E:St->XK}{x m:Qn}{p pos apos:Uj}{e o:Expr}{es:List Expr}{ta:TE}{t:TA}
structure ClsFn (K:PZ) (D:Pk) (m:Qn) (f:Pk):Prop where
 ga:specialIn K (.ref D) "__getattribute__"=on (on (.builtin "type.__getattribute__"))
 rd:PySem.W.readsIn K D (.type "type")=Pe
 fnd:PySem.W.findCls K (.ref D) (.type "type") m=on (.val (.ref f))
 kp:U1 K (.ref f)=Pe
end
section
variable{P:Qf}{w:Qq}{K:PZ}{mg:Qn->Option Pl}{base:QW}{N:List Qn}{qual:Qn}{scope:Scope}{f:Pk}{cd:Pl}{A:QP}{outer:List Wr}{s:Pr}{H:Hp}{E:XK}
theorem dh:dH (CXE P w) (f8 (CXE P w) P w K mg base N qual scope f cd A outer s H E) (λ_=>E):=λa b c d e s' I h=>Kg (X:=f8 (CXE P w) P w K mg base N qual scope f cd A outer s H E) rfl rfl rfl (λ_ _ _ z=>z) I h
theorem tL:dH (CXE P w) X E0:=λ_ _ _ _ _ _ _ h=>by
 obtain⟨_,_,_,_,F⟩:=h;exact F.wish.elim
theorem cq:Yo (Qc P w) (A.deeper (T7 qual scope s.heap.objs.size f cd)) (T7 qual scope s.heap.objs.size f cd) (f8 (CXE P w) P w K mg base N qual scope f cd A outer s H E).xe:=PassesOwn.leaving
structure FunD (K:PZ) (x qual:Qn) (st:QU) (f:Pk) (fd:P9):Prop where
 ex:∃(oc:Pl) (od:Option Pk) (dV kV doc pm:Pl) (an:Option Pk) (cdv ct:Pl) (osl:Array (Option Pl)),
  fd=TK x qual (iJ st) (cR st) (ah st) dV kV doc pm an cdv ct/\K.lookup f=on ⟨oc,od,.func fd,osl⟩/\Uk K cdv qual=Pe
 kp:U1 K (.ref f)=Pe
theorem KS{K:PZ}{x qual:Qn}{st:QU}{f:Pk}(l:K.lookup f=on ⟨oc,od,.func (TK x qual (iJ st) (cR st) (ah st) dV kV doc pm an cdv ct),osl⟩)
  (c:Uk K cdv qual=Pe) (k:U1 K (.ref f)=Pe):FunD K x qual st f (TK x qual (iJ st) (cR st) (ah st) dV kV doc pm an cdv ct):=⟨⟨oc,od,dV,kV,doc,pm,an,cdv,ct,osl,rfl,l,c⟩,k⟩
theorem FunD.okE{x qual:Qn}{st:QU}{f:Pk}{N ps:List Qn}(F:FunD K x qual st f fd)(S:FnScope N ps (ah st))(len:∀vs H Q E,sp vs H Q E->vs.length=ps.length)
  (b:∀(a:Pl) (A:QP) (outer:List Wr) (s:Pr) (H:Hp) (vs:List V) (Q:VK) (E:XK),Room k (A.deeper (T7 qual (ah st) s.heap.objs.size f a))->sp vs H Q E->
   ∃t,PSs (f8 (CXE P w) P w K mg base N qual (ah st) f a A outer s H E) (cR st) t/\t {nx:=λ_ e=>Q .non e,rt:=Q} (fU N vs) H):FnOk P w K mg base (CXE P w) (k+1) f fd ps sp:=by
 obtain⟨l,m,n,o,g,p,q,a,ct,h,rfl,i,c⟩:=F.ex;exact IT i c S len λA outer s H vs Q E j d=>b a A outer s H vs Q E j d
theorem FunD.ok{x qual:Qn}{st:QU}{f:Pk}{N ps:List Qn}(F:FunD K x qual st f fd)(S:FnScope N ps (ah st))(len:∀vs H Q E,sp vs H Q E->vs.length=ps.length)
  (b:∀(a:Pl) (A:QP) (outer:List Wr) (s:Pr) (H:Hp) (vs:List V) (Q:VK) (E:XK),Room k (A.deeper (T7 qual (ah st) s.heap.objs.size f a))->sp vs H Q E->
   ∃t,PSs (f8 (CXE P w) P w K mg base N qual (ah st) f a A outer s H E).nox (cR st) t/\t {nx:=λ_ e=>Q .non e,rt:=Q} (fU N vs) H):FnOk P w K mg base (CXE P w) (k+1) f fd ps sp:=by
 obtain⟨m,n,o,p,g,r,u,a,ct,i,rfl,j,c⟩:=F.ex;refine IT j c S len λA outer s H vs Q E l d=>?_;obtain⟨t,h,q⟩:=b a A outer s H vs Q E l d;exact⟨t,h.nox,q⟩
abbrev TJ:=St->Hp->Nat->(Nat->Hp->Prop)->Prop
variable{X:Cx}{es:List Expr}{t:TJ}{pos:Uj}
theorem sS(i:X.calm=Pe):dI X (.builtin "sum") (λxs H Q=>∃(a:Pk) (ns:List Int),xs=[.ref a]/\SqL X.K H a (ns.map V.int)/\Q (.int ns.sum) H):=by
 intro b s o H xs us Q I r h;obtain⟨a,ns,rfl,j,q⟩:=h;cases r with
 |cons r1 k=>
  cases r1;cases k;obtain⟨its,l,p,u⟩:=I.list j;have c:=qo l;obtain⟨xs,ex⟩:=c.allInts.items;have d:=p.isList;rw[ex]at d;refine sum_intListG (I.ok.hd i) d λh' v t' m=>?_;have e:preSum (numAt xs) xs.size=ns.sum:=by
   have g:=c.numsOf;have n:its=(Xw xs).toList:=by rw[←ex]
   rw[n,nums_intItems]at g;rw[preSum_eq,R7 (by simp),g]
  rw[e];exact⟨.int ns.sum,H,I.kept m,⟨_,rfl⟩,q⟩
def JB(i j:Int):Prop:=0<j/\j.natAbs.log2<9000
def ipC(C:Int->Int->Prop)(f:Int->Int->Int):TIp:=λx y H Q=>∃i j,x= .int i/\y= .int j/\C i j/\Q (.int (f i j)) H
theorem KN:PIp X .FloorDiv (ipC JB λi j=>i/j):=by
 intro a s d H x y v u Q I r1 b h;obtain⟨i,j,rfl,rfl,c,q⟩:=h;obtain⟨t,rfl⟩:=r1;obtain⟨t',rfl⟩:=b;have e:(0:Int)<j:=c.1;refine ifloordiv_int (by omega) ?_ (.inl (PyProof.noPylong_of_log2 c.2));rw[WK _ (by omega)];exact⟨.int _,H,I.tok _,⟨_,rfl⟩,q⟩
theorem yx:∀{cs:List String} {us:List Pl},ay (cs.map V.ty) us->us=cs.map Su
 |[],_,r=>by cases r;rfl
 |c::cs,_,r=>by
  cases r with
  |cons r1 a=>
   cases r1;rw[yx a];rfl
theorem yh{K:PZ}{xs:List V}{H:Hp}(Pv:Nat->St->Hp->Prop)(u:Pv 0 c H)(k:∀i c H,i<=xs.length->Pv i c H->SqL K H a xs)
  (h:∀i x c H,xs[i]?=on x->Pv i c H->g x c H λd v=>tt d v λb r=>if b=Pe then tb d r (Pv (i+1))else Pv (i+1) d r) (l:∀c H,Pv xs.length c H->Q c H):di (Itl K a) g tt tb c H Q:=by
 refine⟨λi m c H=>i<=xs.length/\m+i=xs.length/\Pv i c H,⟨xs.length,QV _,by omega,u⟩,λi m c H ⟨n,hm,j⟩=>?_⟩;by_cases o:i<xs.length
 ·refine .inr ⟨⟨xs,xs[i],k i c H n j,Pd o⟩,Pv (i+1),λy p q=>⟨m-1,by omega,by omega,by omega,q⟩,λx p ⟨e,B⟩=>?_⟩
  subst e;exact h i x c p (B xs (k i c p n j)) j
 ·obtain rfl:i=xs.length:=by omega
  exact .inl ⟨⟨xs,k _ c H n j,Pt _⟩,l c H j⟩
theorem CmpScope.plain{X:Cx}{scope:Scope}(k:scope.kind= .function)(nd:(scope.names.map (·.1)).Nodup)(f:∀y∈scope.names,y.2≠ .free):CmpScope X scope vars vars []:=
 ⟨k,nd,λy a e=>P6 e (f y a),by simp,λj b=>P6 b (by simp)⟩
def ue(i j:Int):Prop:=i.natAbs<2^1000/\j.natAbs<2^1000
theorem jM{k:Int}(h:k.natAbs<2^1000):WD k<=2^20:=by
 unfold WD;split
 ·exact QV _
 ·rename_i a
  have b:k.natAbs≠0:=by
   intro z;have:k=0:=Int.natAbs_eq_zero.mp z;subst this;simp at a
  have:=(Nat.log2_lt b).mpr h;have e:(2:Nat)^20=1048576:=by decide
  omega
theorem wz{X:Cx}:OpR X (Sy .Mult) (rI ue λi j=> .int (i*j)):=opI λ_ _ _ _ _ _ _ a q=>mul_int q (XH (jM a.1) (jM a.2))
theorem bQ.upd{H:Hp}(h:H a=Pb):bQ H (upd H a o):=λb u e=>by rw[upd_ne (aB e h)];exact e
abbrev KyD:=Int×List Int
noncomputable def hI(k:List Int):Int:=reduceHash (T4 (k.map hashInt))
def hB:Bool->KyD->Int
 |true,k=>reduceHash (T4 [hashInt k.1,hI k.2])
 |false,k=>hI k.2
def yp(a:Pk)(b:Bool)(ep:Nat)(xs:List (KyD×Pk×V))(h:QW):Prop:=
 ∃o es,∃ys:List (KyD×Pk×Pl),h.get? a=on o/\o.ExactDict/\o.data= .dict es ep/\es.toList=ys.map (λy=>⟨hB b y.1,.ref y.2.1,y.2.2⟩)/\(ys.map (·.1)).Nodup/\(a==We)=Pj/\ys.length<=PQ/\
  Wa (λ(x:KyD×Pk×V) (y:KyD×Pk×Pl)=>x.1=y.1/\x.2.1=y.2.1/\aQ x.2.2 y.2.2) xs ys
noncomputable def dW(a:Pk)(b:Bool)(ep:Nat)(xs:List (KyD×Pk×V)):HO:= .ext (yp a b ep xs)
theorem w5{P:Qf}{w:Qq}{b:Bool}{H:Hp}(S:yp a b ep xs h):bO P w H h a (dW a b ep xs):=by
 refine⟨S,?_,λc d z k=>?_⟩
 ·obtain⟨o,_,_,e,_⟩:=S
  exact⟨o,e⟩
 ·obtain⟨o,es,ys,e,r⟩:=z
  exact⟨o,es,ys,k _ e,r⟩
end
end L2
namespace L2.Pu
open PySem PySem.Spec PyProof.Rows
theorem ex6{α d e:Sort _}{P Q R:α->d->e->Prop}{C:Prop}(h:∃a b c,P a b c/\Q a b c/\R a b c)(k:∀a b c,P a b c->Q a b c->R a b c->C):C:=by
 obtain⟨a,b,c,x,y,z⟩:=h;exact k a b c x y z
theorem ex5{α c:Sort _}{P Q R:α->c->Prop}{C:Prop}(h:∃a b,P a b/\Q a b/\R a b)(k:∀a b,P a b->Q a b->R a b->C):C:=by
 obtain⟨a,b,x,y,z⟩:=h;exact k a b x y z
inductive D where
 |non|bl (b:Bool)|int (i:Int)|str (x:Qn)|ty (n:String)|txt
 |lst (xs:List D)|tup (xs:List D)|scr (xs:List Int)|obj (C:Pk) (ns:List Qn) (xs:List D)|bag|adr (a:Pk)|dct (b:Bool) (ks:List KyD) (vs:List D)
structure Bg where
 cells:List Int
 i:Int
 j:Int
structure Fx where
 A:Pk->Prop
 bg:Option (Pk×Pk)
def KL(K:PZ)(a:Pk)(xs:List V):Prop:=
 ∃(o:Qb) (its:Array Pl) (n:Nat),K.lookup a=on o/\o.cls= .type "list"/\o.dict=Pb/\o.data= .seq its n/\its.size<=PQ/\ay xs its.toList
def KT(K:PZ)(a:Pk)(xs:List V):Prop:=
 ∃(o:Qb) (its:Array Pl) (n:Nat),K.lookup a=on o/\o.cls= .type "tuple"/\o.data= .seq its n/\its.size<=PQ/\ay xs its.toList
def TQ(K:PZ)(F:Fx)(H:Hp)(c:Pk)(xs:List V):Prop:=(¬F.A c/\Rd H c (.tup xs))\/KT K c xs
def im(K:PZ)(F:Fx)(H:Hp):Bool->KyD->Pk->Prop
 |true,k,c=>∃e,TQ K F H c [.int k.1,.ref e]/\TQ K F H e (k.2.map V.int)
 |false,k,c=>k.1=0/\TQ K F H c (k.2.map V.int)
mutual
noncomputable def Den(K:PZ)(F:Fx)(H:Hp):D->V->Prop
 | .non,v=>v= .non
 | .bl b,v=>v= .bl b
 | .int i,v=>v= .int i
 | .str x,v=>v= .str x
 | .ty n,v=>v= .ty n
 | .txt,v=>∃z,v= .str z
 | .lst ds,v=>∃a xs,v= .ref a/\(¬F.A a/\Rd H a (.lst xs))/\DenL K F H ds xs
 | .scr ns,v=>∃a,v= .ref a/\((¬F.A a/\Rd H a (.lst (ns.map V.int)))\/KL K a (ns.map V.int))
 | .tup ds,v=>∃a xs,v= .ref a/\((¬F.A a/\Rd H a (.tup xs))\/KT K a xs)/\DenL K F H ds xs
 | .obj C ns ds,v=>∃a c xs,v= .ref a/\¬F.A a/\H a=on (.ins C c (ns.zip xs))/\ns.length=xs.length/\DenL K F H ds xs
 | .bag,v=>∃b l,F.bg=on (b,l)/\v= .ref b
 | .adr a,v=>v= .ref a
 | .dct b ks vs,v=>∃a ep xs,v= .ref a/\(¬F.A a/\H a=on (dW a b ep xs))/\ks=xs.map (·.1)/\(∀x∈xs,im K F H b x.1 x.2.1)/\DenL K F H vs (xs.map (·.2.2))
noncomputable def DenL(K:PZ)(F:Fx)(H:Hp):List D->List V->Prop
 |[],xs=>xs=[]
 |d::ds,xs=>∃x r,xs=x::r/\Den K F H d x/\DenL K F H ds r
end
structure Tr (F:Fx) (H:Hp) (F2:Fx) (H2:Hp):Prop where
 av:∀a,¬F.A a->H a≠Pb->¬F2.A a
 kp:∀a o,¬F.A a->H a=on o->H2 a=on o
 bg:F2.bg=F.bg
theorem Tr.refl(F:Fx)(H:Hp):Tr F H F H:=⟨λ_ h _=>h,λ_ _ _ h=>h,rfl⟩
theorem Tr.trans(a:Tr F H F1 H1)(b:Tr F1 H1 F2 H2):Tr F H F2 H2:=
 ⟨λx c d=>b.av x (a.av x c d) (by
   cases q:H x with
   |none=>exact P6 q d
   |some o=>rw[a.kp x o c q];simp),
  λx o c d=>b.kp x o (a.av x c (by rw[d];simp)) (a.kp x o c d),b.bg.trans a.bg⟩
theorem Rd.tr{F b:Fx}(t:Tr F H b H2)(h:¬F.A a)(r:Rd H a u):¬b.A a/\Rd H2 a u:=by
 rcases r with r|⟨o,r⟩
 ·exact⟨t.av a h (by rw[r];simp),.inl (t.kp a _ h r)⟩
 ·exact⟨t.av a h (by rw[r];simp),.inr ⟨o,t.kp a _ h r⟩⟩
theorem TQ.tr{K:PZ}(t:Tr F H F2 H2)(h:TQ K F H c xs):TQ K F2 H2 c xs:=h.imp (λh=>Rd.tr t h.1 h.2) id
theorem im.tr{K:PZ}{b:Bool}(t:Tr F H F2 H2)(h:im K F H b k c):im K F2 H2 b k c:=by
 cases b with
 |true=>
  obtain⟨e,a,d⟩:=h;exact⟨e,a.tr t,d.tr t⟩
 |false=>exact⟨h.1,h.2.tr t⟩
mutual
theorem Den.tr{K:PZ}(t:Tr F H F2 H2):∀(d:D) (v:V),Den K F H d v->Den K F2 H2 d v
 | .non,v,h=>h
 | .bl b,v,h=>h
 | .int i,v,h=>h
 | .str x,v,h=>h
 | .ty n,v,h=>h
 | .txt,v,h=>h
 | .lst ds,v,h=>by
  unfold Den at h⊢;obtain⟨a,xs,e,c,f⟩:=h;exact⟨a,xs,e,Rd.tr t c.1 c.2,DenL.tr t ds xs f⟩
 | .scr ns,v,h=>by
  unfold Den at h⊢;obtain⟨a,e,c⟩:=h;exact⟨a,e,c.imp (λ⟨p,q⟩=>Rd.tr t p q) id⟩
 | .tup ds,v,h=>by
  unfold Den at h⊢;obtain⟨a,xs,e,c,f⟩:=h;exact⟨a,xs,e,c.imp (λ⟨p,q⟩=>Rd.tr t p q) id,DenL.tr t ds xs f⟩
 | .obj C ns ds,v,h=>by
  unfold Den at h⊢;obtain⟨a,k,xs,e,c,f,g,j⟩:=h;exact⟨a,k,xs,e,t.av a c (by rw[f];simp),t.kp a _ c f,g,DenL.tr t ds xs j⟩
 | .bag,v,h=>by
  unfold Den at h⊢;rw[t.bg];exact h
 | .adr a,v,h=>by
  unfold Den at h⊢;exact h
 | .dct b ks vs,v,h=>by
  unfold Den at h⊢;obtain⟨a,ep,xs,e,c,f,g,j⟩:=h;exact⟨a,ep,xs,e,⟨t.av a c.1 (by rw[c.2];simp),t.kp a _ c.1 c.2⟩,f,λx l=>(g x l).tr t,DenL.tr t vs _ j⟩
theorem DenL.tr{K:PZ}(t:Tr F H F2 H2):∀(ds:List D) (xs:List V),DenL K F H ds xs->DenL K F2 H2 ds xs
 |[],xs,h=>h
 |d::ds,xs,h=>by
  unfold DenL at h⊢;obtain⟨x,r,e,a,b⟩:=h;exact⟨x,r,e,Den.tr t d x a,DenL.tr t ds r b⟩
end
section
variable{K:PZ}{F:Fx}{H:Hp}
theorem DenL.nil:DenL K F H [] []:=rfl
theorem DenL.cons(h:Den K F H d x)(t:DenL K F H ds xs):DenL K F H (d::ds) (x::xs):=⟨x,xs,rfl,h,t⟩
theorem DenL.length:∀{ds:List D} {xs:List V},DenL K F H ds xs->ds.length=xs.length
 |[],xs,h=>by have e:xs=[]:=h;subst e;rfl
 |d::ds,xs,h=>by
  obtain⟨x,r,e,_,a⟩:=h;subst e;rw[Pz,Pz,DenL.length a]
theorem DenL.get:∀{ds:List D} {xs:List V} {i:Nat} {d:D},DenL K F H ds xs->ds[i]?=on d->∃x,xs[i]?=on x/\Den K F H d x
 |[],_,_,_,_,e=>by simp at e
 |c::ds,xs,0,d,h,e=>by
  obtain⟨x,r,q,a,b⟩:=h;subst q;simp at e;subst e;exact⟨x,rfl,a⟩
 |c::ds,xs,i+1,d,h,e=>by
  obtain⟨x,r,q,a,b⟩:=h;subst q;obtain⟨y,f,g⟩:=DenL.get (i:=i) (d:=d) b (by simpa using e);exact⟨y,by simpa using f,g⟩
theorem DenL.getV:∀{ds:List D} {xs:List V} {i:Nat} {x:V},DenL K F H ds xs->xs[i]?=on x->∃d,ds[i]?=on d/\Den K F H d x
 |[],xs,_,_,h,e=>by have q:xs=[]:=h;subst q;simp at e
 |c::ds,xs,0,d,h,e=>by
  obtain⟨x,r,q,a,b⟩:=h;subst q;simp at e;subst e;exact⟨c,rfl,a⟩
 |c::ds,xs,i+1,d,h,e=>by
  obtain⟨x,r,q,a,b⟩:=h;subst q;obtain⟨y,f,g⟩:=DenL.getV (i:=i) (x:=d) b (by simpa using e);exact⟨y,by simpa using f,g⟩
theorem DenL.append:∀{ds es:List D} {xs ys:List V},DenL K F H ds xs->DenL K F H es ys->DenL K F H (ds++es) (xs++ys)
 |[],_,xs,_,h,h'=>by have q:xs=[]:=h;subst q;exact h'
 |c::ds,es,xs,ys,h,h'=>by
  obtain⟨x,r,q,a,b⟩:=h;subst q;exact⟨x,r++ys,rfl,a,DenL.append b h'⟩
theorem DenL.take:∀{ds:List D} {xs:List V} (n:Nat),DenL K F H ds xs->DenL K F H (ds.take n) (xs.take n)
 |[],xs,n,h=>by have q:xs=[]:=h;subst q;simp;rfl
 |c::ds,xs,0,h=>by simp;rfl
 |c::ds,xs,n+1,h=>by
  obtain⟨x,r,q,a,b⟩:=h;subst q;exact⟨x,r.take n,rfl,a,DenL.take n b⟩
theorem DenL.drop:∀{ds:List D} {xs:List V} (n:Nat),DenL K F H ds xs->DenL K F H (ds.drop n) (xs.drop n)
 |[],xs,n,h=>by have q:xs=[]:=h;subst q;simp;rfl
 |c::ds,xs,0,h=>h
 |c::ds,xs,n+1,h=>by
  obtain⟨x,r,q,b,a⟩:=h;subst q;exact DenL.drop n a
theorem DenL.set:∀{ds:List D} {xs:List V} (i:Nat) {d:D} {x:V},DenL K F H ds xs->Den K F H d x->DenL K F H (ds.set i d) (xs.set i x)
 |[],xs,i,_,_,h,_=>by have q:xs=[]:=h;subst q;simp;rfl
 |c::ds,xs,0,d,x,h,hd=>by
  obtain⟨y,r,q,b,a⟩:=h;subst q;exact⟨x,r,rfl,hd,a⟩
 |c::ds,xs,i+1,d,x,h,hd=>by
  obtain⟨y,r,q,b,a⟩:=h;subst q;exact⟨y,r.set i x,rfl,b,DenL.set i a hd⟩
theorem Den.sqL(h:Den K F H (.lst ds) v):∃a xs,v= .ref a/\SqL K H a xs/\DenL K F H ds xs:=by
 unfold Den at h;obtain⟨a,xs,e,b,c⟩:=h;exact⟨a,xs,e,.inl b.2,c⟩
theorem Den.rdL(h:Den K F H (.lst ds) v):∃a xs,v= .ref a/\Rd H a (.lst xs)/\DenL K F H ds xs:=by
 unfold Den at h;obtain⟨a,xs,e,b,c⟩:=h;exact⟨a,xs,e,b.2,c⟩
theorem Den.scr{ns:List Int}(h:Den K F H (.scr ns) v):∃a,v= .ref a/\SqL K H a (ns.map V.int):=by
 unfold Den at h;obtain⟨a,e,b⟩:=h;exact⟨a,e,b.imp (λp=>p.2) id⟩
theorem Den.sqT(h:Den K F H (.tup ds) v):∃a xs,v= .ref a/\SqT K H a xs/\DenL K F H ds xs:=by
 unfold Den at h;obtain⟨a,xs,e,b,c⟩:=h;exact⟨a,xs,e,b.imp (λp=>p.2) id,c⟩
theorem Den.int(h:Den K F H (.int i) v):v= .int i:=h
theorem Den.bl{i:Bool}(h:Den K F H (.bl i) v):v= .bl i:=h
theorem Den.str(h:Den K F H (.str i) v):v= .str i:=h
theorem Den.non(h:Den K F H .non v):v= .non:=h
theorem Den.ty(h:Den K F H (.ty n) v):v= .ty n:=h
theorem DenL.ints:∀(ns:List Int) {xs:List V},DenL K F H (ns.map D.int) xs->xs=ns.map V.int
 |[],xs,h=>h
 |n::ns,xs,h=>by
  obtain⟨x,r,e,a,b⟩:=h;rw[e,DenL.ints ns b];have q:x= .int n:=a;rw[q];rfl
theorem DenL.ofInts:∀(ns:List Int),DenL K F H (ns.map D.int) (ns.map V.int)
 |[]=>rfl
 |n::ns=>⟨.int n,ns.map V.int,rfl,rfl,DenL.ofInts ns⟩
structure Fr (F:Fx) (H:Hp) (β:Bg):Prop where
 occ:∀a,F.A a->H a≠Pb
 bgA:∀b l,F.bg=on (b,l)->F.A b/\F.A l/\b≠l
 bag:∀b l,F.bg=on (b,l)->H b=on (.lst [.ref l,.int β.i,.int β.j])/\H l=on (.lst (β.cells.map V.int))
structure To (F:Fx) (H H':Hp) (β':Bg):Prop where
 kp:∀a o,H a=on o->(∀b l,F.bg=on (b,l)->a≠b/\a≠l)->H' a=on o
 fr:Fr F H' β'
theorem To.refl{F:Fx}{H:Hp}(fr:Fr F H β):To F H H β:=⟨λ_ _ h _=>h,fr⟩
theorem To.trans{F:Fx}{H c d:Hp}(a:To F H c β1)(b:To F c d β2):To F H d β2:=⟨λx o h n=>b.kp x o (a.kp x o h n) n,b.fr⟩
theorem Fr.same{F:Fx}{H c:Hp}(fr:Fr F H β)(s:bQ H c):To F H c β:=
 ⟨λa o h _=>s a o h,⟨λa h q=>(by
  cases e:H a with
  |none=>exact fr.occ a h e
  |some o=>exact P6 ((s a o e).symm.trans q) (by simp)),fr.bgA,λb l e=>⟨s _ _ (fr.bag b l e).1,s _ _ (fr.bag b l e).2⟩⟩⟩
theorem Fr.upd{F:Fx}{H:Hp}(fr:Fr F H β)(o:HO)(h:H p=Pb):To F H (upd H p o) β:=fr.same (bQ.upd h)
theorem Fr.fresh{F:Fx}{H:Hp}(fr:Fr F H β)(h:H p=Pb):¬F.A p:=λq=>fr.occ p q h
theorem To.tr{F:Fx}{H c:Hp}(fr:Fr F H β)(t:To F H c β'):Tr F H F c:=
 ⟨λ_ h _=>h,λa o h e=>t.kp a o e λb l q=>⟨λz=>h (z▸(fr.bgA b l q).1),λz=>h (z▸(fr.bgA b l q).2.1)⟩,rfl⟩
abbrev Dn:=List (Option D)
structure VOk (K:PZ) (F:Fx) (H:Hp) (δ:Dn) (σ:St):Prop where
 len:δ.length=σ.length
 tell:∀(i:Nat) (d:D),δ[i]?=on (on d)->∃v,σ[i]?=on (on v)/\Den K F H d v
theorem VOk.tr{K:PZ}{F a:Fx}{H b:Hp}(t:Tr F H a b)(h:VOk K F H δ σ):VOk K a b δ σ:=⟨h.len,λi d e=>let ⟨v,h1,h2⟩:=h.tell i d e;⟨v,h1,Den.tr t d v h2⟩⟩
theorem VOk.set{K:PZ}{F:Fx}{H:Hp}{δ:Dn}{a:St}(h:VOk K F H δ a)(hd:Den K F H d v):VOk K F H (δ.set i (on d)) (a.set i (on v)):=by
 refine⟨by rw[Qs,Qs,h.len],λj c e=>?_⟩;rw[Qz]at e;rw[Qz];by_cases q:i=j
 ·subst q
  rw[Ps rfl]at e⊢;split at e
  ·rename_i b
   cases e;rw[Ps (by rw[←h.len];exact b)];exact⟨v,rfl,hd⟩
  ·cases e
 ·rw[Po q]at e⊢
  exact h.tell j c e
def Sub(δ δ1:Dn):Prop:=∀(i:Nat) (d:D),δ[i]?=on (on d)->δ1[i]?=on (on d)
theorem VOk.sub{K:PZ}{F:Fx}{H:Hp}{δ δ1:Dn}(h:VOk K F H δ1 σ)(s:Sub δ δ1)(l:δ.length=δ1.length):VOk K F H δ σ:=⟨l.trans h.len,λi d e=>h.tell i d (s i d e)⟩
abbrev M(α:Type):=Bg->Option (Except Pk α×Bg)
noncomputable def M.ret{α:Type}(a:α):M α:=λβ=>on (.ok a,β)
noncomputable def M.bind{α b:Type}(m:M α)(k:α->M b):M b:=λβ=>match m β with
 |none=>Pb
 |some (.error C,β1)=>on (.error C,β1)
 |some (.ok a,β1)=>k a β1
noncomputable def M.ofO{α:Type}(o:Option α):M α:=λβ=>match o with
 |some a=>on (.ok a,β)
 |none=>Pb
noncomputable def M.fail{α:Type}:M α:=λ_=>Pb
theorem M.bind_some{α b:Type}(a:α)(k:α->M b):M.bind (M.ofO (on a)) k=k a:=rfl
theorem M.bind_ok{α b:Type}{m:M α}{k:α->M b}{β β1:Bg}{a:α}(h:m β=on (.ok a,β1)):M.bind m k β=k a β1:=by unfold M.bind;rw[h]
theorem M.bind_err{α a:Type}{m:M α}{k:α->M a}{β β1:Bg}{C:Pk}(h:m β=on (.error C,β1)):M.bind m k β=on (.error C,β1):=by unfold M.bind;rw[h]
def run{α c:Type}(R:Hp->α->c->Prop)(F:Fx)(E:St->XK)(e:St)(m:M α)(H:Hp)(Q:c->Hp->Prop)(β:Bg):Prop:=
 ∃r a,m β=on (r,a)/\match r with
  | .ok d=>∀v b,To F H b a->R b d v->Q v b
  | .error C=>∀b,To F H b a->E e (.ref C) Pb b
theorem run.mono{α c:Type}{R:Hp->α->c->Prop}{F:Fx}{E:St->XK}{g:St}{m:M α}{H:Hp}{Q i:c->Hp->Prop}{β:Bg}(h:run R F E g m H Q β)(f:∀v a,Q v a->i v a):run R F E g m H i β:=by
 obtain⟨r,b,e,h⟩:=h;refine⟨r,b,e,?_⟩;cases r with
 |ok d=>exact λv a t q=>f v a (h v a t q)
 |error C=>exact h
theorem run.bind{α l i j:Type}{R:Hp->α->l->Prop}{R2:Hp->i->j->Prop}{F:Fx}{E:St->XK}{b:St}{m:M α}{k:α->M i}{H:Hp}{Q:j->Hp->Prop}{β:Bg}(h:run R2 F E b (M.bind m k) H Q β):
  run R F E b m H (λv a=>∃d β1,To F H a β1/\R a d v/\run R2 F E b (k d) a Q β1) β:=by
 obtain⟨r,c,e,h⟩:=h;cases q:m β with
 |none=>unfold M.bind at e;rw[q]at e;cases e
 |some z=>
  obtain⟨r1,β1⟩:=z;refine⟨r1,β1,q,?_⟩;cases r1 with
  |error C=>
   rw[M.bind_err q]at e;cases e;exact h
  |ok d=>
   rw[M.bind_ok q]at e;intro v a t hd;refine⟨d,β1,t,hd,r,c,e,?_⟩;cases r with
   |ok d2=>exact λn f g o=>h n f (t.trans g) o
   |error C=>exact λf g=>h f (t.trans g)
theorem run.ret{α b:Type}{R:Hp->α->b->Prop}{F:Fx}{E:St->XK}{c:St}{a:α}{v:b}{H:Hp}{Q:b->Hp->Prop}{β:Bg}(fr:Fr F H β)(h:run R F E c (M.ret a) H Q β)(r:R H a v):Q v H:=by
 obtain⟨_,_,e,h⟩:=h;cases e;exact h v H (To.refl fr) r
theorem run.ofO{α c:Type}{R:Hp->α->c->Prop}{F:Fx}{E:St->XK}{d:St}{o:Option α}{H:Hp}{Q:c->Hp->Prop}{β:Bg}(h:run R F E d (M.ofO o) H Q β):∃a,o=on a/\∀v b,To F H b β->R b a v->Q v b:=by
 obtain⟨_,_,e,h⟩:=h;cases o with
 |none=>cases e
 |some a=>cases e;exact⟨a,rfl,h⟩
abbrev FD:=Dn->M D
abbrev FL:=Dn->M (List D)
def tV(K:PZ)(f:FD)(E:St->XK):TE:=λa H Q=>∃F δ β,Fr F H β/\VOk K F H δ a/\run (Den K F) F E a (f δ) H Q β
def tVA(K:PZ)(f:FL)(E:St->XK):TA:=λa H Q=>∃F δ β,Fr F H β/\VOk K F H δ a/\run (DenL K F) F E a (f δ) H Q β
def tVT(K:PZ)(f:Dn->M Bool)(E:St->XK):TT:=λc H Q=>∃F δ β,Fr F H β/\VOk K F H δ c/\run (λ_ (a b:Bool)=>b=a) F E c (f δ) H Q β
theorem _root_.L2.PE.imp(h:PE X e t)(f:∀a H Q,t' a H Q->t a H Q):PE X e t':=λb s a H Q I q=>h b s a H Q I (f a H Q q)
theorem _root_.L2.PT.imp(h:PT X e t)(f:∀a H Q,t' a H Q->t a H Q):PT X e t':=λb s a H Q I q=>h b s a H Q I (f a H Q q)
theorem _root_.L2.PW.imp(h:PW X e t)(f:∀a H Q,t' a H Q->t a H Q):PW X e t':=λc b s a H Q I q=>h c b s a H Q I (f a H Q q)
theorem _root_.L2.PA.imp(h:PA X e t)(f:∀a H Q,t' a H Q->t a H Q):PA X e t':=λpos b s a H Q I q=>h pos b s a H Q I (f a H Q q)
def af(i:Nat):FD:=λδ=>M.ofO (δ.getD i Pb)
def fC(d:D):FD:=λ_=>M.ret d
def f1(op:D->Option D)(f:FD):FD:=λδ=>M.bind (f δ) λa=>M.ofO (op a)
def f2(op:D->D->Option D)(f g:FD):FD:=λδ=>M.bind (f δ) λa=>M.bind (g δ) λb=>M.ofO (op a b)
noncomputable def ao:FL:=λ_=>M.ret []
def aa(f:FD)(g:FL):FL:=λδ=>M.bind (f δ) λa=>M.bind (g δ) λas=>M.ret (a::as)
def aA(op:List D->Option D)(g:FL):FD:=λδ=>M.bind (g δ) λas=>M.ofO (op as)
def bB(m:List D->M D)(g:FL):FD:=λδ=>M.bind (g δ) λas=>m as
variable{X:Cx}{E:St->XK}{e a b:Expr}{es:List Expr}{pos:Uj}
theorem Oa(i:Nat)(h:PE X (.Name x pos) (oG i)):PE X (.Name x pos) (tV X.K (af i) E):=h.imp λl H Q c=>by
 obtain⟨F,δ,β,fr,f,r⟩:=c;obtain⟨d,e,r⟩:=run.ofO r;have g:δ[i]?=on (on d):=by
  rw[Pf]at e;cases q:δ[i]? with
  |none=>rw[q]at e;cases e
  |some z=>rw[q]at e;simp at e;rw[e]
 obtain⟨v,j,k⟩:=f.tell i d g;exact⟨v,j,r v H (To.refl fr) k⟩
theorem v_c(h:PE X e (tC v))(hd:∀F H,Den X.K F H d v):PE X e (tV X.K (fC d) E):=h.imp λf H Q c=>by obtain⟨F,δ,β,fr,g,r⟩:=c;exact run.ret fr r (hd F H)
theorem ax{i j pos}:PE X (.Constant (.int i) j pos) (tV X.K (fC (.int i)) E):=v_c bS λ_ _=>rfl
theorem lR{i j pos}:PE X (.Constant (.bool i) j pos) (tV X.K (fC (.bl i)) E):=v_c Ot λ_ _=>rfl
theorem xo{j pos}:PE X (.Constant .none j pos) (tV X.K (fC .non) E):=v_c LY λ_ _=>rfl
theorem eP:PA X [] (tVA X.K ao E):=iY.imp λd H Q c=>by obtain⟨F,δ,β,fr,f,r⟩:=c;exact run.ret fr r DenL.nil
theorem mY(ha:PE X e (tV X.K f E))(k:PA X es (tVA X.K g E))(hs:PH (e::es) X.env=(Pj,QS e X.env)::PH es X.env:=by rfl):PA X (e::es) (tVA X.K (aa f g) E):=
 (ft ha k hs).imp λm H Q c=>ex6 c λF δ β fr i r=>⟨F,δ,β,fr,i,(run.bind (R:=Den X.K F) r).mono λv n ⟨d,β1,t,hd,r1⟩=>
  ⟨F,δ,β1,t.fr,i.tr (t.tr fr),(run.bind (R:=DenL X.K F) r1).mono λvs o c=>ex5 c λds β2 j h l=>run.ret j.fr l (DenL.cons (Den.tr (j.tr t.fr) _ _ hd) h)⟩⟩
def bh(K:PZ)(r:R2)(op:D->D->Option D):Prop:=∀(F:Fx) (H:Hp) (β:Bg) (Q:VK) (d1 d2 d:D) (f g:V),Fr F H β->Den K F H d1 f->Den K F H d2 g->op d1 d2=on d->
 (∀v c,To F H c β->Den K F c d v->Q v c)->r f g H Q
def JA(K:PZ)(r:V->Hp->VK->Prop)(op:D->Option D):Prop:=∀(F:Fx) (H:Hp) (β:Bg) (Q:VK) (d1 d:D) (f:V),Fr F H β->Den K F H d1 f->op d1=on d->
 (∀v c,To F H c β->Den K F c d v->Q v c)->r f H Q
def eM(K:PZ)(r:List V->Hp->VK->Prop)(op:List D->Option D):Prop:=∀(F:Fx) (H:Hp) (β:Bg) (Q:VK) (ds:List D) (d:D) (vs:List V),Fr F H β->DenL K F H ds vs->op ds=on d->
 (∀v c,To F H c β->Den K F c d v->Q v c)->r vs H Q
theorem pw{K:PZ}(l:bh K r op){H:Hp}(h:tV K (f2 op f g) E σ H Q):tOp r (tV K f E) (tV K g E) σ H Q:=by
 obtain⟨F,δ,β,fr,j,h⟩:=h;refine⟨F,δ,β,fr,j,(run.bind (R:=Den K F) h).mono λv u c=>ex5 c λd β1 t hd r1=>⟨F,δ,β1,t.fr,j.tr (t.tr fr),(run.bind (R:=Den K F) r1).mono λn o c=>ex5 c λd2 β2 m i p=>?_⟩⟩;obtain⟨d3,q,k⟩:=run.ofO p;exact l F o β2 Q d d2 d3 v n m.fr (Den.tr (m.tr t.fr) _ _ hd) i q k
theorem bw(c:OpR X (Sy op) r)(l:bh X.K r o)(ha:PE X a (tV X.K f E))(d:PE X b (tV X.K g E)):PE X (.BinOp a op b pos) (tV X.K (f2 o f g) E):=
 (dY c ha d).imp λ_ _ _=>pw l
theorem kP(c:OpR X (QY op) r)(l:bh X.K r o)(ha:PE X a (tV X.K f E))(d:PE X b (tV X.K g E))(hm:Uv op b=Pj:=by first|exact uQ _|rfl):PE X (.Compare a [op] [b] pos) (tV X.K (f2 o f g) E):=
 (Kf c ha d hm).imp λ_ _ _=>pw l
theorem v_un(g:UnR X (unaryOp op) r)(l:JA X.K r o)(ha:PE X a (tV X.K f E)):PE X (.UnaryOp op a pos) (tV X.K (f1 o f) E):=
 (Os g ha).imp λm H Q c=>ex6 c λF δ β fr i h=>⟨F,δ,β,fr,i,(run.bind (R:=Den X.K F) h).mono λv j c=>ex5 c λd β1 t hd r1=>let ⟨d3,e3,k⟩:=run.ofO r1;l F j β1 Q d d3 v t.fr hd e3 k⟩
theorem bC(c:IxR X r)(l:bh X.K r o)(ha:PE X a (tV X.K f E))(d:PE X b (tV X.K g E))(hs:xg b:=by exact λ_ _=>rfl):PE X (.Subscript a b pos) (tV X.K (f2 o f g) E):=
 (gi c ha d hs).imp λ_ _ _=>pw l
theorem yK{K:PZ}(l:eM K r op){H:Hp}(h:tV K (aA op g) E σ H Q):tCB r (tVA K g E) σ H Q:=by
 obtain⟨F,δ,β,fr,c,h⟩:=h;refine⟨F,δ,β,fr,c,(run.bind (R:=DenL K F) h).mono λv f i=>ex5 i λd β1 t hd r1=>?_⟩;obtain⟨d3,j,k⟩:=run.ofO r1;exact l F f β1 Q d d3 v t.fr hd j k
theorem cg{f:String}(h:dI X (.builtin f) r)(l:eM X.K r op)(i:Gl X x)(hm:X.mg x=Pb)(j:Tx x=on (.builtin f))(ha:PA X (e::es) (tVA X.K g E))(hn:x≠"__name__":=by decide)(c:(x==("__debug__":Qn))=Pj:=by decide)
  (k:PH (e::es) X.env=(Pj,QS e X.env)::PH es X.env:=by rfl) (d:(R4 pos (PH es X.env)).any (·.1)=Pj:=by rfl):PE X (.Call (.Name x p) (e::es) [] pos) (tV X.K (aA op g) E):=
 (k6 h i hm j ha hn c k d).imp λ_ _ _=>yK l
theorem bT(f:dI X (.type T) r)(l:eM X.K r op)(h:Gl X x)(hm:X.mg x=Pb)(i:Tx x=on (.type T))(ha:PA X (e::es) (tVA X.K g E))(hn:x≠"__name__":=by decide)(c:(x==("__debug__":Qn))=Pj:=by decide)
  (j:PH (e::es) X.env=(Pj,QS e X.env)::PH es X.env:=by rfl) (d:(R4 pos (PH es X.env)).any (·.1)=Pj:=by rfl):PE X (.Call (.Name x p) (e::es) [] pos) (tV X.K (aA op g) E):=
 (zr f h hm i ha hn c j d).imp λ_ _ _=>yK l
noncomputable def cu(ds:List D):Option D:=if ds.length<=PQ then on (.tup ds)else Pb
noncomputable def d6(ds:List D):Option D:=if ds.length<=PQ then on (.lst ds)else Pb
theorem Den.newT{K:PZ}{F:Fx}{H:Hp}(fr:Fr F H β)(h:H p=Pb)(hd:DenL K F H ds xs):Den K F (upd H p (.tup xs)) (.tup ds) (.ref p):=
 ⟨p,xs,rfl,.inl ⟨fr.fresh h,.inl ar⟩,DenL.tr ((fr.upd _ h).tr fr) _ _ hd⟩
theorem Den.newL{K:PZ}{F:Fx}{H:Hp}(fr:Fr F H β)(h:H p=Pb)(hd:DenL K F H ds xs):Den K F (upd H p (.lst xs)) (.lst ds) (.ref p):=
 ⟨p,xs,rfl,⟨fr.fresh h,.inl ar⟩,DenL.tr ((fr.upd _ h).tr fr) _ _ hd⟩
theorem cr{x1}(h:PA X es (tVA X.K g E)):PE X (.Tuple es x1 pos) (tV X.K (aA cu g) E):=
 (LV h).imp λj H Q d=>ex6 d λF δ β fr i r=>⟨F,δ,β,fr,i,(run.bind (R:=DenL X.K F) r).mono λvs l d=>by
  obtain⟨ds,β1,t,hd,r1⟩:=d;obtain⟨d3,c,k⟩:=run.ofO r1;unfold cu at c;split at c
  ·cases c
   exact⟨by rw[←hd.length];assumption,λp f=>k _ _ (t.fr.upd _ f) (Den.newT t.fr f hd)⟩
  ·cases c⟩
theorem fj(h:PA X es (tVA X.K g E)):PE X (.List es pos) (tV X.K (aA d6 g) E):=
 (eW h).imp λj H Q d=>ex6 d λF δ β fr i r=>⟨F,δ,β,fr,i,(run.bind (R:=DenL X.K F) r).mono λvs l d=>by
  obtain⟨ds,β1,t,hd,r1⟩:=d;obtain⟨d3,c,k⟩:=run.ofO r1;unfold d6 at c;split at c
  ·cases c
   exact⟨by rw[←hd.length];assumption,λp f=>k _ _ (t.fr.upd _ f) (Den.newL t.fr f hd)⟩
  ·cases c⟩
def spF(K:PZ)(n:Nat)(m:List D->M D):Sp:=λvs H Q E=>vs.length=n/\∃F ds β,Fr F H β/\DenL K F H ds vs/\run (Den K F) F (λ_=>E) [] (m ds) H Q β
variable{p:Uj}{x:Qn}{k n:Nat}{f:Pk}{fd:P9}{ps:List Qn}
theorem run.toE{α c:Type}{R:Hp->α->c->Prop}{F:Fx}{E:St->XK}{d:St}{m:M α}{H:Hp}{Q:c->Hp->Prop}{β:Bg}(h:run R F E d m H Q β):run R F (λ_=>E d) [] m H Q β:=h
theorem yw(G:FnOk X.prog X.w X.K X.mg X.base (CXE X.prog X.w) k f fd ps (spF X.K n m))(q:Room k X.A)(u:Gl X x)(hm:X.mg x=on (.ref f))(v:U1 X.K (.ref f)=Pe)(y:aD X.K fd ps [])(B:dH (CXE X.prog X.w) X E)
  (ha:PA X (e::es) (tVA X.K g E)) (hn:∀δ β r h,g δ β=on (.ok r,h)->r.length=n) (c:(x==("__debug__":Qn))=Pj:=by decide) (I:PH (e::es) X.env=(Pj,QS e X.env)::PH es X.env:=by rfl) (d:(R4 pos (PH es X.env)).any (·.1)=Pj:=by rfl):
  PE X (.Call (.Name x p) (e::es) [] pos) (tV X.K (bB m g) E):=
 (ng G q u hm v y .nil B ha c I d).imp λT H Q J=>ex6 J λF δ β fr L r=>⟨F,δ,β,fr,L,by
  obtain⟨r0,i,l,o⟩:=run.bind (R:=DenL X.K F) r;refine⟨r0,i,l,?_⟩;cases r0 with
  |error C=>exact o
  |ok ds=>
   intro vs N t hd;obtain⟨d',β1,O,j,r1⟩:=o vs N t hd;have P:=hn _ _ _ _ l;refine⟨by rw[Qe,←hd.length,P],F,d',β1,O.fr,by rw[Qe];exact j,run.toE r1⟩⟩
theorem HA{r:List D}(h:ao δ β=on (.ok r,β')):r.length=0:=by cases h;rfl
theorem bf{f:FD}{n:Nat}(d:∀δ β r c,g δ β=on (.ok r,c)->r.length=n):∀δ β r c,aa f g δ β=on (.ok r,c)->r.length=n+1:=by
 intro δ β r c h;unfold aa M.bind at h;split at h
 ·cases h
 ·cases h
 ·dsimp only at h
  split at h
  ·cases h
  ·cases h
  ·rename_i as _ i
   cases h;rw[Pz,d _ _ _ _ i]
noncomputable def opI(g:Int->Int->Option D):D->D->Option D
 | .int i,.int j=>g i j
 |_,_=>Pb
theorem gC{a b d:D}(h:opI g a b=on d):∃i j,a= .int i/\b= .int j/\g i j=on d:=by
 cases a<;>cases b<;>first|(exact⟨_,_,rfl,rfl,h⟩)|(cases h)
theorem zX{g:Int->Int->Int}:bh K (rI0 λi j=> .int (g i j)) (opI λi j=>on (.int (g i j))):=λF H β Q d1 d2 d l m fr c h e k=>by
 obtain⟨i,j,rfl,rfl,e⟩:=gC e;cases e;exact⟨i,j,c,h,k _ H (To.refl fr) rfl⟩
theorem iD{g:Int->Int->Bool}:bh K (rI0 λi j=> .bl (g i j)) (opI λi j=>on (.bl (g i j))):=λF H β Q d1 d2 d l m fr c h e k=>by
 obtain⟨i,j,rfl,rfl,e⟩:=gC e;cases e;exact⟨i,j,c,h,k _ H (To.refl fr) rfl⟩
theorem zW{C:Int->Int->Prop}{c:Int->Int->Bool}{g:Int->Int->Int}(l:∀i j,c i j=Pe->C i j):bh K (rI C λi j=> .int (g i j)) (opI λi j=>if c i j=Pe then on (.int (g i j))else Pb):=λF H β Q d1 d2 d q r fr m o e k=>by
 obtain⟨i,j,rfl,rfl,h⟩:=gC e;split at h
 ·cases h
  exact⟨i,j,m,o,l _ _ (by assumption),k _ H (To.refl fr) rfl⟩
 ·cases h
noncomputable def gQ(i:Int):Bool:=decide (i.natAbs<2^1000)
def CA:D->D->Option D:=opI λi j=>on (.int (i-j))
def IU:D->D->Option D:=opI λi j=>if(decide (0<j)&&decide (j.natAbs.log2<9000))=Pe then on (.int (i/j))else Pb
def modD:D->D->Option D:=opI λi j=>if decide (0<j)=Pe then on (.int (i % j))else Pb
def ltD:D->D->Option D:=opI λi j=>on (.bl (decide (i<j)))
def leD:D->D->Option D:=opI λi j=>on (.bl (decide (i<=j)))
def gtD:D->D->Option D:=opI λi j=>on (.bl (decide (j<i)))
def geD:D->D->Option D:=opI λi j=>on (.bl (decide (j<=i)))
theorem jE:bh K (rI0 λi j=> .int (i-j)) CA:=zX
theorem u7:bh K (rI0 λi j=> .bl (decide (i<j))) ltD:=iD
theorem mt:bh K (rI0 λi j=> .bl (decide (i<=j))) leD:=iD
theorem x4:bh K (rI0 λi j=> .bl (decide (j<i))) gtD:=iD
theorem l_ge:bh K (rI0 λi j=> .bl (decide (j<=i))) geD:=iD
noncomputable def xK:R2:=λx y H Q=>∃l b xs c,x= .ref l/\y= .ref b/\Rd H l (.lst xs)/\Rd H b (.lst c)/\xs.length+c.length<=PQ/\∀p,H p=Pb->Q (.ref p) (upd H p (.lst (xs++c)))
theorem Kj:OpR X (Sy .Add) xK:=by
 intro d s t H x y v u Q I i j h;obtain⟨l,b,xs,w,rfl,rfl,m,hB,A,q⟩:=h;cases i;cases j;obtain⟨z,its,n,r,e⟩:=m.ok I.hok;obtain⟨B,c,C,g,o⟩:=hB.ok I.hok;have J:=r.length;have L:=g.length;refine X2 e o ?_ (by simp only[PV];omega);rw[show its.toArray++c.toArray=(its++c).toArray by simp];exact⟨.ref _,_,I.lnew (t':=s.toks) (r.append g) (by rw[PM];omega),rfl,q _ I.fresh⟩
def xL(K:PZ):R2:=λx y H Q=>∃a b ys,x= .ref a/\y= .ref b/\SqT K H a []/\SqT K H b ys/\Q (.ref b) H
theorem Kk:OpR X (Sy .Add) (xL X.K):=by
 intro l s O H x y v u Q I t w h;obtain⟨a,b,ys,rfl,rfl,ha,A,q⟩:=h;cases t;cases w;obtain⟨its,r1,B,_⟩:=I.tuple ha;obtain⟨m,P,C,_⟩:=I.tuple A;cases r1;obtain⟨⟨c1,d1,J,i⟩,o,r,n,hd⟩:=B;obtain⟨⟨c2,d2,L,j⟩,c,d,N,g⟩:=C;simp only at r hd d g;subst r hd d g;exact PySem.concat_meets ⟨_,o,rfl⟩ ⟨_,c,rfl⟩ WP X9 UW UO (UG _ _) (tuple_addW0 a b _ _ n N d1 d2 i j (by simp)) ⟨o,c,⟨.ref b,H,I,rfl,q⟩⟩
noncomputable def lD:D->D->Option D
 | .int i,.int j=>on (.int (i+j))
 | .tup [],.tup b=>on (.tup b)
 | .lst a,.lst b=>if a.length+b.length<=PQ then on (.lst (a++b))else Pb
 | .tup (c::a),.tup b=>if(c::a).length+b.length<=PQ then on (.tup (c::a++b))else Pb
 |_,_=>Pb
theorem cP:bh K (λx y H Q=>(rI0 λi j=> .int (i+j)) x y H Q\/xK x y H Q\/xJ K x y H Q\/xL K x y H Q) lD:=λF H β Q d1 d2 d v w fr h l e k=>by
 unfold lD at e;split at e
 ·cases e
  exact .inl ⟨_,_,h,l,k _ H (To.refl fr) rfl⟩
 ·cases e
  obtain⟨a,xs,rfl,r1,c⟩:=Den.sqT h;obtain⟨b,ys,rfl,m,g⟩:=Den.sqT l;have q:xs=[]:=c;subst q;exact .inr (.inr (.inr ⟨a,b,ys,rfl,rfl,r1,m,k _ H (To.refl fr) l⟩))
 ·split at e
  ·cases e
   obtain⟨a,xs,rfl,r1,c⟩:=Den.rdL h;obtain⟨b,ys,rfl,m,g⟩:=Den.rdL l;exact .inr (.inl ⟨a,b,xs,ys,rfl,rfl,r1,m,by rw[←c.length,←g.length];assumption,λp o=>k _ _ (fr.upd _ o) (Den.newL fr o (c.append g))⟩)
  ·cases e
 ·split at e
  ·cases e
   obtain⟨a,xs,rfl,r1,c⟩:=Den.sqT h;obtain⟨b,ys,rfl,m,g⟩:=Den.sqT l;have r:=c.length;have t:=g.length;refine .inr (.inr (.inl ⟨a,b,xs,ys,rfl,rfl,r1,m,(λz=>by subst z;cases r),by rw[←r,←t];assumption,λz=>?_,λ_ p o=>k _ _ (fr.upd _ o) (Den.newT fr o (c.append g))⟩));subst z;have u:=U4.mp t;subst u;rw[Qe]at k;exact k _ H (To.refl fr) h
  ·cases e
 ·cases e
theorem bp:OpR X (Sy .Add) (λx y H Q=>(rI0 λi j=> .int (i+j)) x y H Q\/xK x y H Q\/xJ X.K x y H Q\/xL X.K x y H Q):=pZ.or (Kj.or (Ki.or Kk))
def DF:D->D->Option D:=opI λi j=>if(gQ i&&gQ j)=Pe then on (.int (i*j))else Pb
theorem IH:bh K (rI ue λi j=> .int (i*j)) DF:=zW λi j h=>by
 simp only[Qj,gQ,Qx]at h;exact h
noncomputable def eqS:D->D->Option Bool
 | .non,.non=>on Pe
 | .int i,.int j=>on (decide (i=j))
 | .bl i,.bl j=>on (decide (i=j))
 | .str i,.str j=>on (decide (i=j))
 | .int _,.str _=>on Pj
 | .str _,.int _=>on Pj
 | .bl _,.str _=>on Pj
 | .str _,.bl _=>on Pj
 | .non,.int _=>on Pj
 | .int _,.non=>on Pj
 | .non,.str _=>on Pj
 | .str _,.non=>on Pj
 |_,_=>Pb
theorem AT{F:Fx}{H:Hp}{a b:D}{c:Bool}(h:eqS a b=on c)(d:Den K F H a v)(g:Den K F H b w):CF v w=Pe/\decide (v=w)=c:=by
 unfold eqS at h;split at h<;>first
  |(cases h;cases d.int;cases g.int;exact⟨rfl,by simp⟩)
  |(cases h;cases d.bl;cases g.bl;exact⟨rfl,by simp⟩)
  |(cases h;cases d.str;cases g.str;exact⟨rfl,by simp⟩)
  |(cases h;cases d.non;cases g.non;exact⟨rfl,by simp⟩)
  |(cases h;cases d.int;cases g.str;exact⟨rfl,rfl⟩)
  |(cases h;cases d.str;cases g.int;exact⟨rfl,rfl⟩)
  |(cases h;cases d.bl;cases g.str;exact⟨rfl,rfl⟩)
  |(cases h;cases d.str;cases g.bl;exact⟨rfl,rfl⟩)
  |(cases h;cases d.non;cases g.int;exact⟨rfl,rfl⟩)
  |(cases h;cases d.int;cases g.non;exact⟨rfl,rfl⟩)
  |(cases h;cases d.non;cases g.str;exact⟨rfl,rfl⟩)
  |(cases h;cases d.str;cases g.non;exact⟨rfl,rfl⟩)
  |cases h
noncomputable def isN:D->Bool
 | .non=>Pe
 |_=>Pj
theorem MB{F:Fx}{H:Hp}(h:Den K F H d v):decide (v= .non)=isN d:=by
 cases d with
 |non=>cases h.non;rfl
 |bl b=>cases h.bl;rfl
 |int b=>cases h.int;rfl
 |str b=>cases h.str;rfl
 |ty b=>cases h.ty;rfl
 |txt=>unfold Den at h;obtain⟨z,rfl⟩:=h;rfl
 |lst ds=>obtain⟨a,xs,rfl,_⟩:=Den.sqL h;rfl
 |tup ds=>obtain⟨a,xs,rfl,_⟩:=Den.sqT h;rfl
 |scr ds=>obtain⟨a,rfl,_⟩:=Den.scr h;rfl
 |obj C ns ds=>
  unfold Den at h;obtain⟨a,_,_,rfl,_⟩:=h;rfl
 |bag=>
  unfold Den at h;obtain⟨a,_,_,rfl⟩:=h;rfl
 |adr a=>
  unfold Den at h;obtain rfl:=h;rfl
 |dct b ks vs=>
  unfold Den at h;obtain⟨a,_,xs,rfl,_⟩:=h;rfl
noncomputable def ii:D->D->Option D
 |a,.non=>on (.bl (isN a))
 |_,_=>Pb
noncomputable def nl:D->D->Option D
 |a,.non=>on (.bl (!isN a))
 |_,_=>Pb
theorem x3:bh K (λx y H Q=>y= .non/\Q (.bl (decide (x= .non))) H) ii:=λF H β Q d1 d2 d h i fr c g e k=>by
 unfold ii at e;split at e
 ·cases e
  exact⟨g,by rw[MB c];exact k _ H (To.refl fr) rfl⟩
 ·cases e
noncomputable def d8:D->Bool
 | .int _=>Pe| .bl _=>Pe| .str _=>Pe| .non=>Pe|_=>Pj
noncomputable def eqF:D->D->Bool
 | .non,.non=>Pe
 | .bl a,.bl b=>a==b
 | .bl a,.int b=>(if a then 1 else 0)==b
 | .int a,.bl b=>a==(if b then 1 else 0)
 | .int a,.int b=>a==b
 | .str a,.str b=>a==b
 |_,_=>Pj
noncomputable def eG:D->Option (List D)
 | .lst a=>on a
 | .tup a=>on a
 |_=>Pb
def inB(x:D)(ys:List D):Bool:=ys.any λy=>eqF y x
def inD(neg:Bool)(x y:D):Option D:=(eG y).bind λys=>if(d8 x&&ys.all d8)=Pe then on (.bl (if neg then !inB x ys else inB x ys))else Pb
theorem rD{F:Fx}{H:Hp}(f:d8 d=Pe)(h:Den K F H d v):gM v=Pe:=by
 cases d<;>first|(cases h.int;rfl)|(cases h.bl;rfl)|(cases h.str;rfl)|(cases h.non;rfl)|cases f
theorem MN{F:Fx}{H:Hp}{a b:D}(g:d8 a=Pe)(h:d8 b=Pe)(c:Den K F H a v)(d:Den K F H b w):eqV v w=eqF a b:=by
 cases a<;>first
  |(exfalso;exact Pw g)
  |(cases b<;>first
   |(exfalso;exact Pw h)
   |(cases c.int;cases d.int;rfl)|(cases c.int;cases d.bl;rfl)|(cases c.int;cases d.str;rfl)|(cases c.int;cases d.non;rfl)
   |(cases c.bl;cases d.int;rfl)|(cases c.bl;cases d.bl;rfl)|(cases c.bl;cases d.str;rfl)|(cases c.bl;cases d.non;rfl)
   |(cases c.str;cases d.int;rfl)|(cases c.str;cases d.bl;rfl)|(cases c.str;cases d.str;rfl)|(cases c.str;cases d.non;rfl)
   |(cases c.non;cases d.int;rfl)|(cases c.non;cases d.bl;rfl)|(cases c.non;cases d.str;rfl)|(cases c.non;cases d.non;rfl))
theorem vg{F:Fx}{H:Hp}{x:D}(c:d8 x=Pe)(g:Den K F H x v):∀{ds:List D} {vs:List V},ds.all d8=Pe->DenL K F H ds vs->vs.all gM=Pe/\inV v vs=inB x ds
 |[],vs,_,h=>by have q:vs=[]:=h;subst q;exact⟨rfl,rfl⟩
 |d::ds,vs,f,h=>by
  obtain⟨y,r,q,i,l⟩:=h;subst q;rw[US,Qj]at f;obtain⟨m,j⟩:=vg c g f.2 l;refine⟨by rw[US,rD f.1 i,m];rfl,?_⟩;unfold inV inB at j⊢;rw[T5,T5,j,MN f.1 c i g]
theorem DV{neg:Bool}:bh K (rIn K neg) (inD neg):=λF H β Q d1 d2 d m o fr g l e k=>by
 unfold inD at e;cases q:eG d2 with
 |none=>rw[q]at e;cases e
 |some ys=>
  rw[q]at e;simp only[Q3]at e;split at e
  ·rename_i c
   rw[Qj]at c;cases e;cases d2<;>first|(cases q;obtain⟨a,xs,rfl,r1,h⟩:=Den.sqL l;obtain⟨i,j⟩:=vg c.1 g c.2 h;exact⟨a,xs,rfl,.inl r1,rD c.1 g,i,by rw[j];exact k _ H (To.refl fr) rfl⟩)|(cases q;obtain⟨a,xs,rfl,r1,h⟩:=Den.sqT l;obtain⟨i,j⟩:=vg c.1 g c.2 h;exact⟨a,xs,rfl,.inr r1,rD c.1 g,i,by rw[j];exact k _ H (To.refl fr) rfl⟩)|cases q
  ·cases e
def ixD:D->D->Option D
 | .lst xs,.int i=>atI xs i
 | .tup xs,.int i=>atI xs i
 |_,_=>Pb
theorem BF{F:Fx}{H:Hp}(h:DenL K F H ds vs)(e:atI ds i=on d):∃v,atI vs i=on v/\Den K F H d v:=by
 unfold atI at e⊢;rw[←h.length];cases q:ixN ds.length i with
 |none=>rw[q]at e;cases e
 |some j=>
  rw[q]at e;exact h.get e
theorem bG:bh K (λx y H Q=>xI K x y H Q\/CL K x y H Q) ixD:=λF H β Q d1 d2 d j l fr h i e k=>by
 unfold ixD at e;split at e
 ·obtain⟨a,xs,rfl,r1,c⟩:=Den.sqL h
  obtain⟨v,g,hd⟩:=BF c e;exact .inl ⟨a,xs,_,v,rfl,i,r1,g,k _ H (To.refl fr) hd⟩
 ·obtain⟨a,xs,rfl,r1,c⟩:=Den.sqT h
  obtain⟨v,g,hd⟩:=BF c e;exact .inr ⟨a,xs,_,v,rfl,i,r1,g,k _ H (To.refl fr) hd⟩
 ·cases e
theorem aP:IxR X (λx y H Q=>xI X.K x y H Q\/CL X.K x y H Q):=dQ.or MA
noncomputable def cc:List D->Option D
 |[.lst xs]=>on (.int xs.length)
 |[.tup xs]=>on (.int xs.length)
 |_=>Pb
theorem DenL.one{F:Fx}{H:Hp}(h:DenL K F H [d] vs):∃v,vs=[v]/\Den K F H d v:=by
 obtain⟨x,r,e,c,g⟩:=h;have q:r=[]:=g;subst q;exact⟨x,e,c⟩
theorem DenL.two{F:Fx}{H:Hp}(h:DenL K F H [d,c] vs):∃v w,vs=[v,w]/\Den K F H d v/\Den K F H c w:=by
 obtain⟨x,r,e,g,i⟩:=h;obtain⟨y,rfl,j⟩:=DenL.one i;exact⟨x,y,e,g,j⟩
theorem OJ:eM K (λxs H Q=>∃p ys,xs=[.ref p]/\(SqL K H p ys\/SqT K H p ys)/\Q (.int ys.length) H) cc:=λF H β Q ds d vs fr h e k=>by
 unfold cc at e;split at e
 ·cases e
  obtain⟨v,rfl,g⟩:=DenL.one h;obtain⟨a,xs,rfl,r,c⟩:=Den.sqL g;exact⟨a,xs,rfl,.inl r,by rw[←c.length];exact k _ H (To.refl fr) rfl⟩
 ·cases e
  obtain⟨v,rfl,g⟩:=DenL.one h;obtain⟨a,xs,rfl,r,c⟩:=Den.sqT g;exact⟨a,xs,rfl,.inr r,by rw[←c.length];exact k _ H (To.refl fr) rfl⟩
 ·cases e
noncomputable def rR:List D->Option D
 |[.int i]=>on (.int (if i<0 then -i else i))
 |_=>Pb
noncomputable def uW:List D->Option D
 |[.int i,.int j]=>on (.int (if j<i then j else i))
 |_=>Pb
noncomputable def xT:List D->Option D
 |[.int i,.int j]=>on (.int (if j>i then j else i))
 |_=>Pb
theorem tT:eM K (λxs H Q=>∃i j,xs=[.int i,.int j]/\Q (.int (if j<i then j else i)) H) uW:=λF H β Q ds d vs fr h e k=>by
 unfold uW at e;split at e
 ·cases e
  obtain⟨v,w,rfl,g,g'⟩:=DenL.two h;cases g.int;cases g'.int;exact⟨_,_,rfl,k _ H (To.refl fr) rfl⟩
 ·cases e
theorem II:eM K (λxs H Q=>∃i j,xs=[.int i,.int j]/\Q (.int (if j>i then j else i)) H) xT:=λF H β Q ds d vs fr h e k=>by
 unfold xT at e;split at e
 ·cases e
  obtain⟨v,w,rfl,g,g'⟩:=DenL.two h;cases g.int;cases g'.int;exact⟨_,_,rfl,k _ H (To.refl fr) rfl⟩
 ·cases e
noncomputable def e9:List D->Option (List Int)
 |[]=>on []
 | .int i::r=>(e9 r).map (i::·)
 |_=>Pb
theorem intsOf_eq:∀{ds:List D} {ns:List Int},e9 ds=on ns->ds=ns.map D.int
 |[],ns,h=>by cases h;rfl
 |d::ds,ns,h=>by
  cases d with
  |int i=>
   unfold e9 at h;cases q:e9 ds with
   |none=>rw[q]at h;cases h
   |some c=>rw[q]at h;cases h;rw[intsOf_eq q];rfl
  |_=>cases h
def BY:List D->Option D
 |[.lst xs]=>(e9 xs).map λns=> .int ns.sum
 |_=>Pb
theorem OG:eM K (λxs H Q=>∃(a:Pk) (ns:List Int),xs=[.ref a]/\SqL K H a (ns.map V.int)/\Q (.int ns.sum) H) BY:=λF H β Q ds d vs fr h e k=>by
 unfold BY at e;split at e
 ·rename_i xs
  cases q:e9 xs with
  |none=>rw[q]at e;cases e
  |some ns=>
   rw[q]at e;cases e;obtain⟨v,rfl,g⟩:=DenL.one h;obtain⟨a,ys,rfl,r,c⟩:=Den.sqL g;rw[intsOf_eq q]at c;have i:=DenL.ints ns c;subst i;exact⟨a,ns,rfl,r,k _ H (To.refl fr) rfl⟩
 ·cases e
noncomputable def tR:List D->Option D
 |[.lst xs]=>on (.lst xs)
 |[.tup xs]=>on (.lst xs)
 |_=>Pb
theorem jc:eM K (λxs H Q=>∃p ys,xs=[.ref p]/\(SqL K H p ys\/SqT K H p ys)/\∀l,H l=Pb->Q (.ref l) (upd H l (.lst ys))) tR:=λF H β Q ds d vs fr h e k=>by
 unfold tR at e;split at e
 ·cases e
  obtain⟨v,rfl,g⟩:=DenL.one h;obtain⟨a,xs,rfl,r,i⟩:=Den.sqL g;exact⟨a,xs,rfl,.inl r,λl c=>k _ _ (fr.upd _ c) (Den.newL fr c i)⟩
 ·cases e
  obtain⟨v,rfl,g⟩:=DenL.one h;obtain⟨a,xs,rfl,r,i⟩:=Den.sqT g;exact⟨a,xs,rfl,.inr r,λl c=>k _ _ (fr.upd _ c) (Den.newL fr c i)⟩
 ·cases e
noncomputable def lT:List D->Option D
 |[.lst xs]=>on (.tup xs)
 |[.tup xs]=>on (.tup xs)
 |_=>Pb
theorem gE:eM K (λxs H Q=>∃p ys,xs=[.ref p]/\((SqL K H p ys/\∀l,H l=Pb->Q (.ref l) (upd H l (.tup ys)))\/(SqT K H p ys/\Q (.ref p) H))) lT:=λF H β Q ds d vs fr h e k=>by
 unfold lT at e;split at e
 ·cases e
  obtain⟨v,rfl,g⟩:=DenL.one h;obtain⟨a,xs,rfl,r,c⟩:=Den.sqL g;exact⟨a,xs,rfl,.inl ⟨r,λl i=>k _ _ (fr.upd _ i) (Den.newT fr i c)⟩⟩
 ·cases e
  obtain⟨v,rfl,g⟩:=DenL.one h;obtain⟨a,xs,rfl,r,c⟩:=Den.sqT g;exact⟨a,xs,rfl,.inr ⟨r,k _ H (To.refl fr) g⟩⟩
 ·cases e
noncomputable def asB:D->Option Bool
 | .bl b=>on b
 |_=>Pb
theorem jj{b:Bool}(h:asB d=on b):d= .bl b:=by cases d<;>first|(cases h;rfl)|cases h
noncomputable def kQ:D->Option Bool
 | .non=>on Pj
 | .bl b=>on b
 | .int i=>on (i !=0)
 | .lst xs=>on (!xs.isEmpty)
 | .tup xs=>on (!xs.isEmpty)
 |_=>Pb
def fB(f:FD):Dn->M Bool:=λδ=>M.bind (f δ) λd=>M.ofO (asB d)
def ik(f:FD):Dn->M Bool:=λδ=>M.bind (f δ) λd=>M.ofO (kQ d)
def nQ(f g:Dn->M Bool):Dn->M Bool:=λδ=>M.bind (f δ) λc=>if c=Pe then g δ else M.ret Pj
def gq(f g:Dn->M Bool):Dn->M Bool:=λδ=>M.bind (f δ) λc=>if c=Pe then M.ret Pe else g δ
def iE(f:Dn->M Bool):Dn->M Bool:=λδ=>M.bind (f δ) λc=>M.ret (!c)
def ly(f g:FD):FD:=λδ=>M.bind (f δ) λd=>M.bind (M.ofO (asB d)) λc=>if c=Pe then g δ else M.ret (.bl Pj)
def fOr(f g:FD):FD:=λδ=>M.bind (f δ) λd=>M.bind (M.ofO (asB d)) λc=>if c=Pe then M.ret (.bl Pe)else g δ
def rE(f:FD):FD:=λδ=>M.bind (f δ) λd=>M.bind (M.ofO (asB d)) λc=>M.ret (.bl (!c))
def fIf(t:Dn->M Bool)(f g:FD):FD:=λδ=>M.bind (t δ) λc=>if c=Pe then f δ else g δ
def eD(o d:D->D->Option D)(f g h:FD):FD:=λδ=>M.bind (f δ) λa=>M.bind (g δ) λb=>M.bind (M.ofO (o a b)) λz=>M.bind (M.ofO (asB z)) λc=>if c=Pe then M.bind (h δ) (λw=>M.ofO (d b w))else M.ret (.bl Pj)
variable{c:Expr}{rest:List Expr}
theorem M.ofO_bind{α d:Type}{o:Option α}{k:α->M d}{β:Bg}{z:Except Pk d×Bg}(h:M.bind (M.ofO o) k β=on z):∃a,o=on a/\k a β=on z:=by
 cases o with
 |none=>cases h
 |some a=>exact⟨a,rfl,h⟩
theorem run.ofO_bind{α g i:Type}{R:Hp->g->i->Prop}{F:Fx}{j:St}{o:Option α}{k:α->M g}{H:Hp}{Q:i->Hp->Prop}{β:Bg}(h:run R F E j (M.bind (M.ofO o) k) H Q β):∃a,o=on a/\run R F E j (k a) H Q β:=by
 obtain⟨r,d,e,h⟩:=h;obtain⟨a,q,e⟩:=M.ofO_bind e;exact⟨a,q,r,d,e,h⟩
theorem run.bOk{F:Fx}{H:Hp}(fr:Fr F H β)(hd:Den K F H d v)(h:run (λ_ (a b:Bool)=>b=a) F E σ (M.ofO (asB d)) H Q β):∃k,v= .bl k/\Q k H:=by
 obtain⟨b,e,k⟩:=run.ofO h;rw[jj e]at hd;exact⟨b,hd,k b H (To.refl fr) rfl⟩
theorem oH{f:FD}{H:Hp}(h:tVT K (fB f) E σ H Q):tV K f E σ H λx g=>∃k,x= .bl k/\Q k g:=by
 obtain⟨F,δ,β,fr,i,h⟩:=h;exact⟨F,δ,β,fr,i,(run.bind (R:=Den K F) h).mono λv l j=>ex5 j λd β1 t hd r1=>run.bOk t.fr hd r1⟩
theorem bv{f g:FD}(d:OpR X (QY op) r)(l:bh X.K r o)(ha:PE X a (tV X.K f E))(i:PE X b (tV X.K g E))(hm:Uv op b=Pj:=by first|exact uQ _|rfl):PT X (.Compare a [op] [b] pos) (tVT X.K (fB (f2 o f g)) E):=
 (wq d ha i hm).imp λj H Q h=>pw l (oH h)
theorem yI{f g h:FD}(l:bh K r o)(Y:bh K r' o'){H:Hp}(B:tV K (eD o o' f g h) E σ H Q):yJ r r' (tV K f E) (tV K g E) (tV K h E) σ H Q:=by
 obtain⟨F,δ,β,fr,I,B⟩:=B;refine⟨F,δ,β,fr,I,(run.bind (R:=Den K F) B).mono λv H1 j=>ex5 j λd β1 t hd r1=>⟨F,δ,β1,t.fr,I.tr (t.tr fr),(run.bind (R:=Den K F) r1).mono λP Z j=>ex5 j λd2 β2 m u r2=>?_⟩⟩;obtain⟨z,T,r3⟩:=run.ofO_bind r2;obtain⟨c,ec,A⟩:=run.ofO_bind r3;rw[jj ec]at T;refine l F Z β2 _ d d2 _ v P m.fr (Den.tr (m.tr t.fr) _ _ hd) u T λvz U i hz=>⟨c,hz,?_⟩;cases c with
 |true=>
  rw[Ps rfl]at A;refine⟨F,δ,β2,i.fr,I.tr ((t.tr fr).trans ((m.tr t.fr).trans (i.tr m.fr))),?_⟩;have r5:run (Den K F) F E σ (M.bind (h δ) λw=>M.ofO (o' d2 w)) U Q β2:=by
   obtain⟨J,y,e,q⟩:=A;refine⟨J,y,e,?_⟩;cases J with
   |ok d=>exact λv L tt=>q v L (i.trans tt)
   |error C=>exact λL tt=>q L (i.trans tt)
  refine(run.bind (R:=Den K F) r5).mono λw H4 j=>ex5 j λdw N W O r6=>?_;obtain⟨d3,e3,k⟩:=run.ofO r6;exact Y F H4 N Q d2 dw d3 P w W.fr (Den.tr ((i.tr m.fr).trans (W.tr i.fr)) _ _ u) O e3 k
 |false=>
  rw[Po Pw]at A;obtain⟨J,y,e,q⟩:=A;cases e;exact q _ U i rfl
theorem qN{f g h:FD}(i:OpR X (QY op) r)(d:OpR X (QY op') r')(l:bh X.K r o)(j:bh X.K r' o')(ha:PE X a (tV X.K f E))(m:PE X b (tV X.K g E))(t:PE X c (tV X.K h E))(hm:Yy [op,op'] [b,c]=Pj:=by with_unfolding_all rfl):
  PT X (.Compare a [op,op'] [b,c] pos) (tVT X.K (fB (eD o o' f g h)) E):=(CN i d ha m t hm).imp λu H Q q=>yI l j (oH q)
theorem JK{F:Fx}{H:Hp}{k:Bool}(h:kQ d=on k)(hd:Den K F H d v):HB K v H k:=by
 cases d with
 |non=>cases h;cases hd.non;rfl
 |bl b=>cases h;cases hd.bl;rfl
 |int i=>cases h;cases hd.int;rfl
 |lst xs=>
  cases h;obtain⟨a,ys,rfl,r,g⟩:=Den.sqL hd;refine .inl ⟨ys,r,?_⟩;have:=g.length;cases xs<;>cases ys<;>first|rfl|(simp at this)
 |tup xs=>
  cases h;obtain⟨a,ys,rfl,r,g⟩:=Den.sqT hd;refine .inr ⟨ys,r,?_⟩;have:=g.length;cases xs<;>cases ys<;>first|rfl|(simp at this)
 |_=>cases h
theorem jq{f:FD}(ha:PE X a (tV X.K f E))(j:∀g,isTrue a X.env g=(do let v ←g;Tz a.pos;T9 [v] (truthy v)):=by intro _;rfl):PT X a (tVT X.K (ik f) E):=
 (CM ha j).imp λo H Q i=>ex6 i λF δ β fr l h=>⟨F,δ,β,fr,l,(run.bind (R:=Den X.K F) h).mono λv m i=>by
  obtain⟨d,β1,t,hd,r1⟩:=i;obtain⟨k,e,q⟩:=run.ofO r1;exact⟨k,JK e hd,q k m (To.refl t.fr) rfl⟩⟩
theorem kR{f:Dn->M Bool}(ha:PT X a (tVT X.K f E)):PT X (.UnaryOp .Not a pos) (tVT X.K (iE f) E):=
 (LO ha).imp λj H Q g=>ex6 g λF δ β fr i h=>⟨F,δ,β,fr,i,(run.bind (R:=λ_ (a b:Bool)=>b=a) h).mono λv l g=>by
  obtain⟨d,β1,t,hd,r1⟩:=g;subst hd;exact run.ret t.fr r1 rfl⟩
theorem Lg{f g:Dn->M Bool}{H:Hp}(h:tVT K (gq f g) E σ H Q):tOr (tVT K f E) (tVT K g E) σ H Q:=by
 obtain⟨F,δ,β,fr,i,h⟩:=h;refine⟨F,δ,β,fr,i,(run.bind (R:=λ_ (a b:Bool)=>b=a) h).mono λv l j=>ex5 j λd β1 t hd r1=>?_⟩;subst hd;cases v with
 |false=>rw[Po Pw]at r1⊢;exact⟨F,δ,β1,t.fr,i.tr (t.tr fr),r1⟩
 |true=>rw[Ps rfl]at r1⊢;exact run.ret t.fr r1 rfl
theorem kM{f:Dn->M Bool}(ha:PT X a (tVT X.K f E)):PW X (.BoolOp .Or [a] pos) (tVT X.K f E):=LM ha
theorem oF{f g:Dn->M Bool}(ha:PT X a (tVT X.K f E))(d:PW X (.BoolOp .Or (b::rest) pos) (tVT X.K g E)):PW X (.BoolOp .Or (a::b::rest) pos) (tVT X.K (gq f g) E):=(Oq ha d).imp λ_ _ _=>Lg
theorem iN{e:Expr}{f:Dn->M Bool}(h:PW X e (tVT X.K f E)):PT X e (tVT X.K f E):=PW.pt h
theorem Oc{op}{f:FD}(h:PE X a (tV X.K f E)):PE X (.BoolOp op [a] pos) (tV X.K f E):=LX h
theorem run.asB{F:Fx}{k:Bool->M D}{H:Hp}(hd:Den K F H d v)(h:run (Den K F) F E σ (M.bind (M.ofO (asB d)) k) H Q β):∃c,v= .bl c/\run (Den K F) F E σ (k c) H Q β:=by
 obtain⟨c,e,h⟩:=run.ofO_bind h;rw[jj e]at hd;exact⟨c,hd,h⟩
theorem Oe{f g:FD}(ha:PE X a (tV X.K f E))(m:PE X (.BoolOp .And (b::rest) pos) (tV X.K g E)):PE X (.BoolOp .And (a::b::rest) pos) (tV X.K (ly f g) E):=
 (L5 ha m).imp λo H Q j=>ex6 j λF δ β fr l h=>⟨F,δ,β,fr,l,(run.bind (R:=Den X.K F) h).mono λv q j=>by
  obtain⟨d,β1,t,hd,r1⟩:=j;obtain⟨c,e,i⟩:=run.asB hd r1;refine⟨c,e,?_⟩;cases c with
  |true=>rw[Ps rfl]at i⊢;exact⟨F,δ,β1,t.fr,l.tr (t.tr fr),i⟩
  |false=>rw[Po Pw]at i⊢;exact run.ret t.fr i rfl⟩
theorem v_if{f g:FD}(l:PT X c (tVT X.K t E))(ha:PE X a (tV X.K f E))(m:PE X b (tV X.K g E)):PE X (.IfExp c a b pos) (tV X.K (fIf t f g) E):=
 (CW l ha m).imp λo H Q i=>ex6 i λF δ β fr j h=>⟨F,δ,β,fr,j,(run.bind (R:=λ_ (a b:Bool)=>b=a) h).mono λv q i=>by
  obtain⟨d,β1,t,hd,r1⟩:=i;subst hd;cases v with
  |true=>rw[Ps rfl]at r1⊢;exact⟨F,δ,β1,t.fr,j.tr (t.tr fr),r1⟩
  |false=>rw[Po Pw]at r1⊢;exact⟨F,δ,β1,t.fr,j.tr (t.tr fr),r1⟩⟩
noncomputable def tyD:D->Option String
 | .non=>on "NoneType"| .bl _=>on "bool"| .int _=>on "int"| .str _=>on "str"| .lst _=>on "list"| .tup _=>on "tuple"|_=>Pb
noncomputable def jZ:String->String->Option Bool
 |"int","str"=>on Pj|"int","bool"=>on Pj|"int","list"=>on Pj|"int","tuple"=>on Pj|"int","int"=>on Pe
 |"bool","str"=>on Pj|"bool","bool"=>on Pe|"bool","list"=>on Pj|"bool","tuple"=>on Pj
 |"str","str"=>on Pe|"str","bool"=>on Pj|"str","list"=>on Pj|"str","tuple"=>on Pj
 |"NoneType","str"=>on Pj|"NoneType","bool"=>on Pj|"NoneType","list"=>on Pj|"NoneType","tuple"=>on Pj
 |"list","list"=>on Pe|"list","tuple"=>on Pj|"list","str"=>on Pj|"list","bool"=>on Pj
 |"tuple","list"=>on Pj|"tuple","tuple"=>on Pe|"tuple","str"=>on Pj|"tuple","bool"=>on Pj
 |_,_=>Pb
noncomputable def jY:String->String->String->Option Bool
 |"int","list","tuple"=>on Pj|"bool","list","tuple"=>on Pj|"str","list","tuple"=>on Pj|"NoneType","list","tuple"=>on Pj|"list","list","tuple"=>on Pe|"tuple","list","tuple"=>on Pe
 |"int","int","str"=>on Pe|"bool","int","str"=>on Pe|"str","int","str"=>on Pe|"NoneType","int","str"=>on Pj|"list","int","str"=>on Pj|"tuple","int","str"=>on Pj
 |_,_,_=>Pb
theorem KI{a b:String}{c:Bool}(h:jZ a b=on c):kitOne K (.type a) (.type b)=on c:=by
 unfold jZ at h;split at h<;>first|(cases h;kernel_rfl)|cases h
theorem KG{a b d:String}{c:Bool}(h:jY a b d=on c):YH K (.type a) ([b,d].map Su)=on c:=by
 unfold jY at h;split at h<;>first|(cases h;kernel_rfl)|cases h
def TyG(K:PZ)(H:Hp)(x:V)(t:Pl):Prop:=TyOf K H x t\/(∃a ys,x= .ref a/\SqL K H a ys/\t= .type "list")\/(∃a ys,x= .ref a/\SqT K H a ys/\t= .type "tuple")
def HX(K:PZ):List V->Hp->VK->Prop:=λxs H Q=>∃x c t b,xs=[x,.ty c]/\TyG K H x t/\kitOne K t (.type c)=on b/\Q (.bl b) H
theorem AZ:dI X (.builtin "isinstance") (HX X.K):=by
 intro j s u H xs us Q I r h;obtain⟨x,c,t,b,rfl,ty,e,q⟩:=h;cases r with
 |cons r1 d=>
  cases d with
  |cons d m=>
   cases m;cases d;rcases ty with ty|⟨a,ys,rfl,sq,rfl⟩|⟨a,ys,rfl,sq,rfl⟩
   ·exact AC I r1 ty e λl=>⟨.bl b,H,I.tok _,rfl,q⟩
   ·cases r1
    obtain⟨its,_,pl,_⟩:=I.list sq;obtain⟨o,g,i,_⟩:=pl.isList;exact Ve V2 I.kIn ⟨o,g,i⟩ e (λz=>nomatch z) λl=>⟨.bl b,H,I.tok _,rfl,q⟩
   ·cases r1
    obtain⟨its,_,pl,_⟩:=I.tuple sq;obtain⟨o,g,i,_⟩:=pl;exact Ve Xy I.kIn ⟨o,g,i⟩ e (λz=>nomatch z) λl=>⟨.bl b,H,I.tok _,rfl,q⟩
theorem yA{F:Fx}{H:Hp}(h:tyD d=on t)(hd:Den K F H d v):TyG K H v (.type t):=by
 cases d with
 |non=>cases h;cases hd.non;exact .inl .non
 |bl b=>cases h;cases hd.bl;exact .inl (.bl b)
 |int b=>cases h;cases hd.int;exact .inl (.int b)
 |str b=>cases h;cases hd.str;exact .inl (.str b)
 |lst ds=>cases h;obtain⟨a,xs,rfl,sq,_⟩:=Den.sqL hd;exact .inr (.inl ⟨a,xs,rfl,sq,rfl⟩)
 |tup ds=>cases h;obtain⟨a,xs,rfl,sq,_⟩:=Den.sqT hd;exact .inr (.inr ⟨a,xs,rfl,sq,rfl⟩)
 |_=>cases h
def cV:List D->Option D
 |[x,.ty c]=>(tyD x).bind λt=>(jZ t c).map D.bl
 |_=>Pb
theorem OK:eM K (HX K) cV:=λF H β Q ds d vs fr h e k=>by
 unfold cV at e;split at e
 ·rename_i x c
  cases q:tyD x with
  |none=>rw[q]at e;cases e
  |some t=>
   rw[q]at e;simp only[Q3]at e;cases q2:jZ t c with
   |none=>rw[q2]at e;cases e
   |some b=>
    rw[q2]at e;cases e;obtain⟨v,w,rfl,g,i⟩:=DenL.two h;cases i.ty;exact⟨v,c,_,b,rfl,yA q g,KI q2,k _ H (To.refl fr) rfl⟩
 ·cases e
def zf(K:PZ):List V->Hp->VK->Prop:=λxs H Q=>∃(x:V) (tp:Pk) (cs:List String) (t:Pl) (b:Bool),xs=[x,.ref tp]/\SqT K H tp (cs.map V.ty)/\TyG K H x t/\YH K t (cs.map Su)=on b/\Q (.bl b) H
theorem qz:dI X (.builtin "isinstance") (zf X.K):=by
 intro m s P H xs us Q I r h;obtain⟨x,tp,cs,t,b,rfl,A,ty,e,q⟩:=h;cases r with
 |cons r1 B=>
  cases B with
  |cons B R=>
   cases R;cases B;obtain⟨its,T,⟨⟨oc,U,W,Y⟩,g,u,n,j⟩,_⟩:=I.tuple A;rw[yx T]at j
   dsimp only at u j
   subst u j;have d:∀N,EP X m P Q (.bool b) {s with toks:=N}:=λN=>⟨.bl b,H,I.tok _,rfl,q⟩;rcases ty with ty|⟨a,ys,rfl,sq,rfl⟩|⟨a,ys,rfl,sq,rfl⟩
   ·cases ty with
    |non=>cases r1;exact Vf XN I.kIn S5 g e (λz=>nomatch z) d
    |bl y=>cases r1;exact Vf XM I.kIn S5 g e (λz=>nomatch z) d
    |int i=>obtain⟨t,rfl⟩:=r1;exact Vf X4 I.kIn S5 g e (λz=>nomatch z) d
    |str y=>obtain⟨t,rfl⟩:=r1;exact Vf X6 I.kIn S5 g e (λz=>nomatch z) d
    |@lst a xs ea=>
     cases r1;obtain⟨_,_,n,_,v⟩:=(show bO X.prog X.w H s.heap a (.lst xs)from I.hok a _ ea);exact Vf V2 I.kIn ⟨_,v,rfl⟩ g e (λz=>nomatch z) d
    |@frz a ob xs ea=>
     cases r1;obtain⟨_,_,_,n,_,v⟩:=(show bO X.prog X.w H s.heap a (.frz ob (.lst xs))from I.hok a _ ea);exact Vf V2 I.kIn ⟨_,v,rfl⟩ g e (λz=>nomatch z) d
    |@tup a xs ea=>
     cases r1;obtain⟨_,_,_,p⟩:=(show bO X.prog X.w H s.heap a (.tup xs)from I.hok a _ ea);obtain⟨o,v,Z,_⟩:=p;exact Vf Xy I.kIn ⟨o,v,Z⟩ g e (λz=>nomatch z) d
    |@ins a C dx fs ea cl ha hn htk hm=>
     cases r1;obtain⟨mA,O,_⟩:=kB I.hok ea;obtain⟨U,J,_⟩:=O.look;exact Vf (X5 (cl.get _) cl.hd ha hn htk hm) I.kIn J g e (λz=>nomatch z) d
   ·cases r1
    obtain⟨its,_,pl,_⟩:=I.list sq;obtain⟨o,l,L,_⟩:=pl.isList;exact Vf V2 I.kIn ⟨o,l,L⟩ g e (λz=>nomatch z) d
   ·cases r1
    obtain⟨its,_,pl,_⟩:=I.tuple sq;obtain⟨o,l,L,_⟩:=pl;exact Vf Xy I.kIn ⟨o,l,L⟩ g e (λz=>nomatch z) d
def fX:List D->Option D
 |[x,.tup [.ty a,.ty b]]=>(tyD x).bind λt=>(jY t a b).map D.bl
 |_=>Pb
theorem z5:eM K (zf K) fX:=λF H β Q ds d vs fr h e k=>by
 unfold fX at e;split at e
 ·rename_i x a b
  cases q:tyD x with
  |none=>rw[q]at e;cases e
  |some t=>
   rw[q]at e;simp only[Q3]at e;cases q2:jY t a b with
   |none=>rw[q2]at e;cases e
   |some c=>
    rw[q2]at e;cases e;obtain⟨v,w,rfl,g,i⟩:=DenL.two h;obtain⟨p,xs,rfl,sq,j⟩:=Den.sqT i;obtain⟨y,z,rfl,l,m⟩:=DenL.two j;cases l.ty;cases m.ty;exact⟨v,p,[a,b],_,c,rfl,sq,yA q g,KG q2,k _ H (To.refl fr) rfl⟩
 ·cases e
def ItD(K:PZ)(J:It)(F:Fx)(H:Hp)(ds:List D):Prop:=∀(h:Fx) (g:Hp) (β2:Bg),Tr F H h g->Fr h g β2->∀i,(∀d,ds[i]?=on d->J.go i g/\∀x j,J.yld i g x j->bQ g j/\Den K h j d x)/\(i=ds.length->J.stop i g)
theorem ItD.tr{K:PZ}{F d:Fx}{H g:Hp}(t:Tr F H d g)(h:ItD K J F H ds):ItD K J d g ds:=λi j β3 l fr=>h i j β3 (t.trans l) fr
def iV(K:PZ)(f:FL)(E:St->XK):TI:=λd H R=>∃F δ β,Fr F H β/\VOk K F H δ d/\run (λg (ds:List D) (J:It)=>ItD K J F g ds) F E d (f δ) H R β
theorem _root_.L2.PI.imp{X:Cx}{tg e:Expr}(h:PI X tg e t)(f:∀d H Q,t' d H Q->t d H Q):PI X tg e t':=λg s d H Q I q=>h g s d H Q I (f d H Q q)
variable{tg:Expr}
def iSeq(K:PZ)(g:TE):TI:=λh H R=>g h H λx d=>(∃a,x= .ref a/\(∃xs,SqL K d a xs)/\R (Itl K a) d)\/(∃a,x= .ref a/\(∃xs,SqT K d a xs)/\R (Itt K a) d)
theorem LT(t:PE X l tl):PI X tg l (iSeq X.K tl):=by
 intro g s u H R I h;refine thn (t g s u H _ I h) λv d ⟨x,m,i,r1,q1⟩=>?_;have j:∀b∈[d.heap.objs.size],fK X g m b:=λb w=>by
  obtain rfl:b=d.heap.objs.size:=by simpa using w
  exact i.fpOk (Pt _) (i.hok.fresh (Pt _))
 rcases q1 with⟨a,e,⟨xs,r⟩,q⟩|⟨a,e,⟨xs,r⟩,q⟩
 ·subst e
  cases r1;obtain⟨its,y,p,A⟩:=i.list r;exact Vg p.isList ⟨d.heap.objs.size,[d.heap.objs.size],_,_,m,rfl,i.kept (t':=d.toks) λb o e=>Ph _ e,rY a _,⟨_,PP _ rfl,rfl,rfl⟩,j,q⟩
 ·subst e
  cases r1;obtain⟨its,y,p,A⟩:=i.tuple r;exact Wf (show d.heap.IsTuple a its.toArray from p) ⟨d.heap.objs.size,[d.heap.objs.size],_,_,m,rfl,i.kept (t':=d.toks) λb o e=>Ph _ e,xq a _,⟨_,PP _ rfl,rfl,rfl⟩,j,q⟩
theorem DY{F:Fx}{H:Hp}{a:Pk}(h:Den K F H (.lst ds) (.ref a)):ItD K (Itl K a) F H ds:=λu v β2 t fr i=>by
 have o:=Den.tr t _ _ h;obtain⟨w,xs,e,sq,g⟩:=Den.sqL o;cases e;refine⟨λd hd=>?_,λq=>⟨xs,sq,by rw[←g.length,q];exact Pt _⟩⟩;obtain⟨x,r,_⟩:=g.get hd;refine⟨⟨xs,x,sq,r⟩,λy A j=>?_⟩;obtain⟨rfl,j⟩:=j;obtain⟨d',m,l⟩:=g.getV (j xs sq);rw[hd]at m;cases m;exact⟨bQ.refl _,l⟩
theorem KM{F:Fx}{H:Hp}{a:Pk}(h:Den K F H (.tup ds) (.ref a)):ItD K (Itt K a) F H ds:=λu v β2 t fr i=>by
 have o:=Den.tr t _ _ h;obtain⟨w,xs,e,sq,g⟩:=Den.sqT o;cases e;refine⟨λd hd=>?_,λq=>⟨xs,sq,by rw[←g.length,q];exact Pt _⟩⟩;obtain⟨x,r,_⟩:=g.get hd;refine⟨⟨xs,x,sq,r⟩,λy A j=>?_⟩;obtain⟨rfl,j⟩:=j;obtain⟨d',m,l⟩:=g.getV (j xs sq);rw[hd]at m;cases m;exact⟨bQ.refl _,l⟩
def bZ(f:FD):FL:=λδ=>M.bind (f δ) λd=>M.ofO (eG d)
theorem aV{f:FD}(j:PE X l (tV X.K f E)):PI X tg l (iV X.K (bZ f) E):=
 (LT j).imp λq H R g=>ex6 g λF δ β fr m h=>⟨F,δ,β,fr,m,(run.bind (R:=Den X.K F) h).mono λv i g=>by
  obtain⟨d,β1,t,hd,r1⟩:=g;obtain⟨ds,e,k⟩:=run.ofO r1;cases d<;>first
   |(cases e;obtain⟨a,xs,rfl,sq,o⟩:=Den.sqL hd;exact .inl ⟨a,rfl,⟨xs,sq⟩,k _ i (To.refl t.fr) (DY hd)⟩)
   |(cases e;obtain⟨a,xs,rfl,sq,o⟩:=Den.sqT hd;exact .inr ⟨a,rfl,⟨xs,sq⟩,k _ i (To.refl t.fr) (KM hd)⟩)
   |cases e⟩
noncomputable def bc(lo:Int)(n:Nat):List D:=(Pq n).map λ(i:Nat)=> .int (lo+(i:Int))
theorem sG{F:Fx}{H:Hp}{lo:Int}{n:Nat}:ItD K (Itr lo n) F H (bc lo n):=λl m β2 t fr i=>by
 refine⟨λd hd=>?_,λg=>?_⟩
 ·unfold bc at hd
  have g:i<n:=by
   have:=(Px.mp hd).1;simpa using this
  rw[Pi,QO g]at hd;cases hd;exact⟨g,λx o ⟨h,j⟩=>by subst h j;exact⟨bQ.refl _,rfl⟩⟩
 ·show n<=i
  rw[g];simp[bc]
def fJ:List D->Option (List D)
 |[.int j]=>if(decide (-(2^62)<=j)&&decide (j<2^62))=Pe then on (bc 0 j.toNat)else Pb
 |_=>Pb
def oQ:List D->Option (List D)
 |[.int i,.int j]=>if(decide (-(2^62)<=i)&&decide (i<2^62)&&decide (-(2^62)<=j)&&decide (j<2^62))=Pe then on (bc i (j-i).toNat)else Pb
 |_=>Pb
def bN(op:List D->Option (List D))(g:FL):FL:=λδ=>M.bind (g δ) λas=>M.ofO (op as)
theorem bK{a:Expr}{p pos:Uj}(j:Gl X "range")(hm:X.mg "range"=Pb)(ha:PA X [a] (tVA X.K g E))(hs:PH [a] X.env=[(Pj,QS a X.env)]:=by rfl):PI X tg (.Call (.Name "range" p) [a] [] pos) (iV X.K (bN fJ g) E):=
 (zq j hm ha hs).imp λr H R d=>ex6 d λF δ β fr m h=>⟨F,δ,β,fr,m,(run.bind (R:=DenL X.K F) h).mono λvs o d=>by
  obtain⟨ds,β1,t,hd,r1⟩:=d;obtain⟨l,e,k⟩:=run.ofO r1;unfold fJ at e;split at e
  ·split at e
   ·rename_i i
    cases e;simp only[Qj,Qx]at i;obtain⟨v,rfl,q⟩:=DenL.one hd;cases q.int;exact⟨_,rfl,i.1,i.2,k _ o (To.refl t.fr) sG⟩
   ·cases e
  ·cases e⟩
theorem o3{a b:Expr}{p pos:Uj}(m:Gl X "range")(hm:X.mg "range"=Pb)(ha:PA X [a,b] (tVA X.K g E))(hs:PH [a,b] X.env=[(Pj,QS a X.env),(Pj,QS b X.env)]:=by rfl)(i:PH [b] X.env=[(Pj,QS b X.env)]:=by rfl):PI X tg (.Call (.Name "range" p) [a,b] [] pos) (iV X.K (bN oQ g) E):=
 (zo m hm ha hs i).imp λy H R j=>ex6 j λF δ β fr o h=>⟨F,δ,β,fr,o,(run.bind (R:=DenL X.K F) h).mono λvs q j=>by
  obtain⟨ds,β1,t,hd,r1⟩:=j;obtain⟨l,e,k⟩:=run.ofO r1;unfold oQ at e;split at e
  ·split at e
   ·rename_i d
    cases e;simp only[Qj,Qx]at d;obtain⟨v,w,rfl,r,u⟩:=DenL.two hd;cases r.int;cases u.int;exact⟨_,_,rfl,⟨d.1.1.1,d.1.1.2,d.1.2,d.2⟩,k _ q (To.refl t.fr) sG⟩
   ·cases e
  ·cases e⟩
abbrev TgF:=D->Dn->Option Dn
abbrev jl:=List D->Dn->Option Dn
def cS(K:PZ)(g:TG)(tg:TgF):Prop:=∀(F:Fx) (H:Hp) (δ δ1:Dn) (i:St) (d:D) (v:V) (Q:St->Hp->Prop),VOk K F H δ i->Den K F H d v->tg d δ=on δ1->(∀h,VOk K F H δ1 h->Q h H)->g v i H Q
def qF(K:PZ)(g:TGs)(tg:jl):Prop:=∀(F:Fx) (H:Hp) (δ δ1:Dn) (h:St) (ds:List D) (vs:List V) (Q:St->Hp->Prop),VOk K F H δ h->DenL K F H ds vs->tg ds δ=on δ1->(∀d,VOk K F H δ1 d->Q d H)->g vs h H Q
noncomputable def tgC(i:Nat):TgF:=λd δ=>if(δ.getD i (on .non)).isNone then on (δ.set i (on d))else Pb
noncomputable def ge:jl:=λds δ=>match ds with
 |[]=>on δ
 |_=>Pb
noncomputable def cJ(t:TgF)(u:jl):jl:=λds δ=>match ds with
 |[]=>Pb
 |d::r=>(t d δ).bind λδ1=>u r δ1
noncomputable def tgT(t:jl):TgF:=λd δ=>match d with
 | .tup ds=>t ds δ
 |_=>Pb
theorem uq{δ δ1:Dn}(h:tgC i d δ=on δ1):δ[i]?=on Pb/\δ1=δ.set i (on d):=by
 unfold tgC at h;split at h
 ·rename_i q
  cases h;refine⟨?_,rfl⟩;rw[Pf]at q;cases e:δ[i]? with
  |none=>rw[e]at q;cases q
  |some z=>
   rw[e]at q;cases z with
   |none=>rfl
   |some w=>cases q
 ·cases h
theorem ak:cS K (fY i) (tgC i):=λF H δ δ1 h d v Q g hd e k=>by
 obtain⟨_,rfl⟩:=uq e;exact k _ (g.set hd)
theorem cN:qF K gNil ge:=λF H δ δ1 g ds vs Q d hd e k=>by
 cases ds with
 |nil=>cases e;exact⟨hd,k _ d⟩
 |cons _ _=>cases e
theorem aT(m:cS K t tf)(o:qF K u uf):qF K (yb t u) (cJ tf uf):=λF H δ δ1 v ds vs Q w hd e k=>by
 cases ds with
 |nil=>cases e
 |cons d r=>
  obtain⟨x,l,rfl,y,A⟩:=hd;have h:(tf d δ).bind (λδ1=>uf r δ1)=on δ1:=e;cases q:tf d δ with
  |none=>rw[q]at h;cases h
  |some g=>
   rw[q]at h;exact⟨x,l,rfl,m F H δ g v d x _ w y q λi j=>o F H g δ1 i r l Q j A h k⟩
theorem dF{n:Nat}(h:qF K t tf)(hn:∀ds δ δ1,tf ds δ=on δ1->ds.length=n):cS K (EG K n t) (tgT tf):=λF H δ δ1 i d v Q j hd e k=>by
 cases d<;>first
  |(obtain⟨a,xs,rfl,sq,g⟩:=Den.sqT hd;exact⟨a,xs,rfl,sq,by rw[←g.length];exact hn _ _ _ e,h F H δ δ1 i _ xs Q j g e k⟩)
  |cases e
theorem bV:∀ds δ δ1,ge ds δ=on δ1->ds.length=0:=λds δ δ1 h=>by
 cases ds with
 |nil=>rfl
 |cons _ _=>cases h
theorem aR{n:Nat}(h:∀ds δ δ1,u ds δ=on δ1->ds.length=n):∀ds δ δ1,cJ t u ds δ=on δ1->ds.length=n+1:=λds δ δ1 e=>by
 cases ds with
 |nil=>cases e
 |cons d r=>
  have g:(t d δ).bind (λδ1=>u r δ1)=on δ1:=e;cases q:t d δ with
  |none=>rw[q]at g;cases g
  |some i=>rw[q]at g;rw[Pz,h _ _ _ g]
def dS(tg:TgF):Prop:=∀d δ δ1,tg d δ=on δ1->Sub δ δ1/\δ.length=δ1.length
def uc(tg:jl):Prop:=∀d δ δ1,tg d δ=on δ1->Sub δ δ1/\δ.length=δ1.length
theorem au:dS (tgC i):=λd δ δ1 e=>by
 obtain⟨q,rfl⟩:=uq e;refine⟨λj c g=>?_,by rw[Qs]⟩;rw[Qz];by_cases z:i=j
 ·subst z;rw[q]at g;cases g
 ·rw[Po z];exact g
theorem cL:uc ge:=λds δ δ1 e=>by
 cases ds with
 |nil=>cases e;exact⟨λ_ _ h=>h,rfl⟩
 |cons _ _=>cases e
theorem aS(j:dS t)(l:uc u):uc (cJ t u):=λds δ δ1 e=>by
 cases ds with
 |nil=>cases e
 |cons d r=>
  have g:(t d δ).bind (λδ1=>u r δ1)=on δ1:=e;cases q:t d δ with
  |none=>rw[q]at g;cases g
  |some m=>
   rw[q]at g;obtain⟨a1,a2⟩:=j _ _ _ q;obtain⟨b1,b2⟩:=l _ _ _ g;exact⟨λi c h=>b1 i c (a1 i c h),a2.trans b2⟩
theorem dE(h:uc t):dS (tgT t):=λd δ δ1 e=>by
 cases d<;>first|exact h _ _ _ e|cases e
structure ToD (F:Fx) (D:Pk) (H H':Hp) (β':Bg):Prop where
 kp:∀a o,H a=on o->a≠D->(∀b l,F.bg=on (b,l)->a≠b/\a≠l)->H' a=on o
 fr:Fr F H' β'
theorem ToD.trans{F:Fx}{D:Pk}{H d g:Hp}(a:ToD F D H d β1)(b:ToD F D d g β2):ToD F D H g β2:=⟨λx o h n m=>b.kp x o (a.kp x o h n m) n m,b.fr⟩
theorem To.toD{F:Fx}{H d:Hp}(t:To F H d β')(D:Pk):ToD F D H d β':=⟨λa o h _ m=>t.kp a o h m,t.fr⟩
theorem ToD.tr{F:Fx}{D:Pk}{H d:Hp}(fr:Fr F H β)(g:F.A D)(t:ToD F D H d β'):Tr F H F d:=
 ⟨λ_ h _=>h,λa o h e=>t.kp a o e (λz=>h (z▸g)) λb l q=>⟨λz=>h (z▸(fr.bgA b l q).1),λz=>h (z▸(fr.bgA b l q).2.1)⟩,rfl⟩
structure AR where
 R:Fx->Hp->Pk->List Pu.D->Prop
 Z:List Pu.D->Prop
 tr:∀{F F2:Fx} {H H':Hp} {D:Pk} {as:List Pu.D},R F H D as->(∀o,H D=on o->H' D=on o)->Tr F H F2 H'->R F2 H' D as
 zp:∀{as os:List Pu.D},Z (as++os)->Z as
noncomputable def RL(K:PZ):AR where
 R:=λF H D as=>∃acc,H D=on (.lst acc)/\DenL K F H as acc
 Z:=λl=>l.length<=PQ
 tr:=λh k t=>by
  obtain⟨acc,d,g⟩:=h;exact⟨acc,k _ d,DenL.tr t _ _ g⟩
 zp:=λh=>by rw[PM]at h;omega
def ff(K:PZ)(R:AR)(D:Pk)(j:TB)(f:Dn->M (List Pu.D)):Prop:=∀(F:Fx) (H:Hp) (δ:Dn) (β d:Bg) (i:St) (as os:List Pu.D) (Q:St->Hp->Prop),Fr F H β->F.A D->(∀b l,F.bg=on (b,l)->D≠b/\D≠l)->VOk K F H δ i->R.R F H D as->
 f δ β=on (.ok os,d)->R.Z (as++os)->(∀g h,ToD F D H h d->VOk K F h δ g->R.R F h D (as++os)->Q g h)->j i H Q
abbrev jO(K:PZ):=ff K (RL K)
def cEm(f:Dn->M Pu.D):Dn->M (List Pu.D):=λδ=>M.bind (f δ) λd=>M.ret [d]
theorem M.bind_inv{α g:Type}{m:M α}{k:α->M g}{β d:Bg}{r:g}(h:M.bind m k β=on (.ok r,d)):∃a β1,m β=on (.ok a,β1)/\k a β1=on (.ok r,d):=by
 unfold M.bind at h;split at h
 ·cases h
 ·cases h
 ·rename_i a β1 e
  exact⟨a,β1,e,h⟩
theorem E0.run{α i:Type}{R:Hp->α->i->Prop}{F:Fx}{j:St}{m:M α}{H:Hp}{Q:i->Hp->Prop}{β d:Bg}{a:α}(e:m β=on (.ok a,d))(h:∀v g,To F H g d->R g a v->Q v g):run R F E0 j m H Q β:=⟨.ok a,d,e,h⟩
theorem aK{D:Pk}{f:Dn->M Pu.D}:jO K D (ym D (tV K f E0)) (cEm f):=λF H δ β g w as os Q fr y i m A e B k=>by
 obtain⟨acc,C,hd⟩:=A;obtain⟨d,β1,I,J⟩:=M.bind_inv e;cases J;refine⟨F,δ,β,fr,m,E0.run I λv r t L=>?_⟩;have j:=t.kp D _ C i;have N:=DenL.tr (t.tr fr) _ _ hd;refine⟨acc,j,by rw[←hd.length];have:=(show(as++[d]).length<=PQ from B);simp at this;omega,?_⟩;have u:ToD F D r (upd r D (.lst (acc++[v]))) g:=by
  refine⟨λa o h n _=>by rw[upd_ne n];exact h,λa h q=>?_,fr.bgA,λb l q=>?_⟩
  ·by_cases z:a=D
   ·subst z;rw[ar]at q;cases q
   ·rw[upd_ne z]at q;exact t.fr.occ a h q
  ·rw[upd_ne (i b l q).1.symm,upd_ne (i b l q).2.symm]
   exact t.fr.bag b l q
 have tt:=u.tr t.fr y;exact k w _ ((t.toD D).trans u) (m.tr ((t.tr fr).trans tt)) ⟨_,ar,DenL.append (DenL.tr tt _ _ N) ⟨v,[],rfl,Den.tr tt _ _ L,rfl⟩⟩
def cLp(tg:TgF)(tt:Dn->M Bool)(b:Dn->M (List Pu.D)):List Pu.D->Dn->M (List Pu.D)
 |[],_=>M.ret []
 |d::ds,δ=>match tg d δ with
  |none=>M.fail
  |some δ1=>M.bind (tt δ1) λc=>M.bind (if c=Pe then b δ1 else M.ret []) λo=>M.bind (cLp tg tt b ds δ) λos=>M.ret (o++os)
theorem nu{R:AR}{D:Pk}{tg:TgF}{b:Dn->M (List Pu.D)}(hg:cS K g tg)(sg:dS tg)(hb:ff K R D tb b){F:Fx}{H:Hp}{as os ds:List Pu.D}(fr:Fr F H β)(hA:F.A D)(hn:∀b l,F.bg=on (b,l)->D≠b/\D≠l)(vk:VOk K F H δ σ)(hR:R.R F H D as)
  (it:ItD K J F H ds) (e:cLp tg tt b ds δ β=on (.ok os,β')) (hz:R.Z (as++os)) (k:∀j t,ToD F D H t β'->VOk K F t δ j->R.R F t D (as++os)->Q j t):di J g (tVT K tt E0) tb σ H Q:=by
 refine⟨λi m j t=>m+i=ds.length/\∃β1 r v,ToD F D H t β1/\VOk K F t δ j/\R.R F t D r/\cLp tg tt b (ds.drop i) δ β1=on (.ok v,β')/\r++v=as++os,
  ⟨ds.length,by omega,β,as,os,⟨λ_ _ h _ _=>h,fr⟩,vk,hR,e,rfl⟩,?_⟩
 rintro i m j t ⟨hm,β1,r,v,B,C,I,u,ea⟩;have tr1:=B.tr fr hA;obtain⟨iy,is⟩:=it F t β1 tr1 B.fr i;cases T:ds[i]? with
 |none=>
  have U:ds.length<=i:=UJ.mp T;rw[RB U]at u;cases u;refine .inl ⟨is (by omega),k j t B C ?_⟩;rw[←ea,Qe];exact I
 |some d=>
  have U:i<ds.length:=(Px.mp T).1;obtain⟨go,yl⟩:=iy d T;have ed:ds.drop i=d::ds.drop (i+1):=by
   rw[Qr U];congr 1;exact Qd ((Pd U).symm.trans T)
  rw[ed]at u;unfold cLp at u;cases q:tg d δ with
  |none=>rw[q]at u;cases u
  |some δ1=>
   rw[q]at u;obtain⟨c,β2,e2,e3⟩:=M.bind_inv u;obtain⟨o,β3,W,e5⟩:=M.bind_inv e3;obtain⟨os2,β4,e6,e7⟩:=M.bind_inv e5;cases e7;obtain⟨s1,s2⟩:=sg _ _ _ q;refine .inr ⟨go,λL Y=>ToD F D H Y β3/\VOk K F Y δ L/\R.R F Y D (r++o),?_,λx H2 hy=>?_⟩
   ·rintro L Y ⟨t9,vk9,hR9⟩
    exact⟨m-1,by omega,by omega,β3,r++o,os2,t9,vk9,hR9,e6,by rw[QJ];exact ea⟩
   ·obtain⟨sm,dx⟩:=yl x H2 hy
    have t2:To F t H2 β1:=B.fr.same sm;have N:=t2.tr B.fr;refine hg F H2 δ δ1 j d x _ (C.tr N) dx q λσ2 w=>⟨F,δ1,β1,t2.fr,w,E0.run e2 λc' H3 t3 ec=>?_⟩;subst ec;have y:=t3.tr t2.fr;have O:=R.tr I (λo z=>t3.kp D o (sm _ _ z) hn) (N.trans y);have P:ToD F D H H3 β2:=B.trans ((t2.trans t3).toD D);have hle:R.Z (r++o):=by
     rw[←ea,←QJ]at hz;exact R.zp hz
    cases c' with
    |true=>
     rw[Ps rfl]at W⊢;refine hb F H3 δ1 β2 β3 σ2 r o _ t3.fr hA hn (w.tr y) O W hle λσ4 H4 t4 vk4 hR4=>?_;exact⟨P.trans t4,vk4.sub s1 s2,hR4⟩
    |false=>
     rw[Po Pw]at W⊢;cases W;exact⟨P,(w.tr y).sub s1 s2,by rw[Qe];exact O⟩
def cNx(it:Dn->M (List Pu.D))(tg:TgF)(tt:Dn->M Bool)(b:Dn->M (List Pu.D)):Dn->M (List Pu.D):=λδ=>M.bind (it δ) λds=>cLp tg tt b ds δ
theorem oV{D:Pk}{tg:TgF}{b:Dn->M (List Pu.D)}(j:cS K g tg)(l:dS tg)(m:ff K R D tb b):ff K R D (yk (iV K it E0) λJ=>di J g (tVT K tt E0) tb) (cNx it tg tt b):=λF H δ β q C as os Q fr r hn h u e v k=>by
 obtain⟨ds,β1,w,y⟩:=M.bind_inv e;refine⟨F,δ,β,fr,h,E0.run w λJ i t A=>?_⟩;exact nu j l m t.fr r hn (h.tr (t.tr fr)) (R.tr u (λo z=>t.kp D o z hn) (t.tr fr)) A y v λd i B=>k d i ((t.toD D).trans B)
theorem KC{D:Pk}{tg:TgF}{b:Dn->M (List Pu.D)}(d:cS K g tg)(h:dS tg)(i:jO K D tb b):jO K D (yk (iV K it E0) λJ=>di J g (tVT K tt E0) tb) (cNx it tg tt b):=oV d h i
noncomputable def cSt(nv:Nat)(caps:List Nat)(δ:Dn):Dn:=PR nv Pb++caps.map λj=>δ.getD j Pb
def cw(nv:Nat)(caps:List Nat)(it:Dn->M (List Pu.D))(tg:TgF)(tt:Dn->M Bool)(b:Dn->M (List Pu.D)):Dn->M Pu.D:=λδ β=>match it δ β with
 |none=>Pb
 |some (.error C,β1)=>on (.error C,β1)
 |some (.ok ds,β1)=>match cLp tg tt b ds (cSt nv caps δ) β1 with
  |some (.ok os,β2)=>if os.length<=PQ then on (.ok (.lst os),β2)else Pb
  |_=>Pb
theorem qA{F:Fx}{H:Hp}{vars:List Qn}(h:VOk K F H δ σ):VOk K F H (cSt vars.length caps δ) (kG vars caps σ):=by
 refine⟨by simp[cSt,kG],λi d e=>?_⟩;unfold cSt at e;unfold kG;rw[Vt]at e⊢;rw[Q1]at e⊢;by_cases g:i<vars.length
 ·rw[Ps g,RY,Ps g]at e
  cases e
 ·rw[Po g,Pi]at e⊢
  cases q:caps[i-vars.length]? with
  |none=>rw[q]at e;cases e
  |some j=>
   rw[q]at e;simp only[QK,WV]at e⊢;rw[Pf]at e;cases z:δ[j]? with
   |none=>rw[z]at e;cases e
   |some w=>
    rw[z]at e;have l:w=on d:=e;subst l;obtain⟨v,m,o⟩:=h.tell j d z;exact⟨v,by rw[Pf,m];rfl,o⟩
theorem ur{vars:List Qn}{caps:List Nat}{it:Dn->M (List Pu.D)}{g:TG}{tg:TgF}{tt:Dn->M Bool}{P:Pk->TB}{b:Dn->M (List Pu.D)}(Z:cS K g tg)(sg:dS tg)(hb:∀D,jO K D (P D) b){T:St}{H:Hp}{Q:VK}(h:tV K (cw vars.length caps it tg tt b) E T H Q):
  pz vars caps (iV K it E) (λD J=>di J g (tVT K tt E0) (P D)) T H Q:=by
 obtain⟨F,δ,β,fr,U,r,v,e,h⟩:=h;unfold cw at e;refine⟨F,δ,β,fr,U,?_⟩;split at e
 ·cases e
 ·rename_i C β1 q
  cases e;exact⟨.error C,_,q,h⟩
 ·rename_i ds β1 q
  split at e
  ·rename_i os β2 q2
   split at e
   ·rename_i hz
    cases e;refine⟨.ok ds,β1,q,λJ u t hJ D i=>?_⟩;have d:¬F.A D:=t.fr.fresh i;have nb:∀b l,F.bg=on (b,l)->D≠b/\D≠l:=λb l z=>⟨λw=>d (w▸(fr.bgA b l z).1),λw=>d (w▸(fr.bgA b l z).2.1)⟩;have W:=t.fr.upd (.lst []) i;have B:Fr ⟨λa=>F.A a\/a=D,F.bg⟩ (upd u D (.lst [])) β1:=by
     refine⟨λa ha z=>?_,λb l z=>let ⟨x,y,w⟩:=fr.bgA b l z;⟨.inl x,.inl y,w⟩,W.fr.bag⟩
     rcases ha with ha|ha
     ·exact W.fr.occ a ha z
     ·subst ha;rw[ar]at z;cases z
    have j:Tr F u ⟨λa=>F.A a\/a=D,F.bg⟩ (upd u D (.lst [])):=⟨λa ha hs z=>by
     rcases z with z|z
     ·exact ha z
     ·subst z;exact hs i,λa o ha z=>by rw[upd_ne (aB z i)];exact z,rfl⟩
    refine nu (R:=RL K) (D:=D) (as:=[]) (os:=os) Z sg (hb D) B (.inr rfl) nb (qA (U.tr ((t.tr fr).trans j))) ⟨[],ar,rfl⟩ (hJ.tr j) q2 (show os.length<=PQ from hz) λσ1 Y I vk3 L=>?_;obtain⟨m,N,O⟩:=L;have tf:To F u Y v:=by
     refine⟨λa o z n=>I.kp a o (by rw[upd_ne (aB z i)];exact z) (aB z i) n,λa ha z=>I.fr.occ a (Ru ha) z,fr.bgA,I.fr.bag⟩
    refine h _ Y (t.trans tf) ⟨D,m,rfl,⟨d,.inl N⟩,DenL.tr (F:=⟨λa=>F.A a\/a=D,F.bg⟩) ⟨λa ha _ z=>ha (Ru z),λa o _ z=>z,rfl⟩ _ _ O⟩
   ·cases e
  ·cases e
inductive Sl where
 |sh (d:D)|own (ds:List D)|grd (rows:List (List D))
abbrev Ds:=List (Option Sl)
inductive Out where
 |nx (δ:Ds)|rt (d:D)|bk (δ:Ds)|ct (δ:Ds)|ex (C:Pk) (δ:Ds)|rg (rows:List (List D))
abbrev G:=Ds->Bg->Option (Out×Bg)
abbrev Ow:=Pk->Option Nat
noncomputable def FxB(B:Ow)(bg:Option (Pk×Pk)):Fx:=⟨λa=>B a≠Pb,bg⟩
noncomputable def FxA(B:Ow)(bg:Option (Pk×Pk)):Fx:=⟨λa=>B a=on 0\/B a=on 1,bg⟩
def RowL(K:PZ)(F:Fx)(H:Hp)(P:Pk->Prop):List (List D)->List Pk->Prop
 |[],[]=>True
 |ds::rows,r::rs=>P r/\(∃xs,H r=on (.lst xs)/\DenL K F H ds xs)/\RowL K F H P rows rs
 |_,_=>False
theorem RowL.tr{K:PZ}{F i:Fx}{H d:Hp}(t:Tr F H i d):∀{rows:List (List D)} {rs:List Pk},RowL K F H P rows rs->(∀r xs,r∈rs->P r->H r=on (.lst xs)->P2 r/\d r=on (.lst xs))->RowL K i d P2 rows rs
 |[],[],_,_=>trivial
 |ds::rows,r::rs,h,f=>by
  obtain⟨j,⟨xs,l,m⟩,o⟩:=h;obtain⟨p,q⟩:=f r xs Pn j l;exact⟨p,⟨xs,q,DenL.tr t _ _ m⟩,RowL.tr t o λu g v=>f u g (Pg _ v)⟩
 |[],_::_,h,_=>h.elim
 |_::_,[],h,_=>h.elim
theorem RowL.all{K:PZ}{F:Fx}{H:Hp}:∀{rows:List (List D)} {rs:List Pk},RowL K F H P rows rs->∀r∈rs,P r/\∃xs,H r=on (.lst xs)
 |[],[],_,r,hr=>by cases hr
 |ds::rows,r0::rs,h,r,hr=>by
  obtain⟨d,⟨xs,g,j⟩,i⟩:=h;rcases PL.mp hr with rfl|hr
  ·exact⟨d,xs,g⟩
  ·exact RowL.all i r hr
 |[],_::_,h,_,_=>h.elim
 |_::_,[],h,_,_=>h.elim
theorem RowL.den{K:PZ}{F d:Fx}{H:Hp}(t:Tr F H d H):∀{rows:List (List D)} {rs:List Pk},RowL K F H P rows rs->(∀r,r∈rs->P r->¬d.A r)->DenL K d H (rows.map D.lst) (rs.map V.ref)
 |[],[],_,_=>rfl
 |ds::rows,r::rs,h,f=>by
  obtain⟨g,⟨xs,i,j⟩,l⟩:=h;exact DenL.cons ⟨r,xs,rfl,⟨f r Pn g,.inl i⟩,DenL.tr t _ _ j⟩ (RowL.den t l λm o=>f m (Pg _ o))
 |[],_::_,h,_=>h.elim
 |_::_,[],h,_=>h.elim
theorem RowL.len{K:PZ}{F:Fx}{H:Hp}:∀{rows:List (List D)} {rs:List Pk},RowL K F H P rows rs->rows.length=rs.length
 |[],[],_=>rfl
 |ds::rows,r::rs,h=>by simp[RowL.len h.2.2]
 |[],_::_,h=>h.elim
 |_::_,[],h=>h.elim
def hV(K:PZ)(F:Fx)(H0 H:Hp)(rows:List (List D))(v:V):Prop:=∃a rs,v= .ref a/\H0 a=Pb/\H a=on (.lst (rs.map V.ref))/\(a::rs).Nodup/\RowL K F H (λr=>H0 r=Pb) rows rs
def DenS(K:PZ)(B:Ow)(bg:Option (Pk×Pk))(H:Hp)(i:Nat):Sl->V->Prop
 | .sh d,v=>Den K (FxB B bg) H d v
 | .own ds,v=>∃a xs,v= .ref a/\B a=on (i+2)/\H a=on (.lst xs)/\DenL K (FxB B bg) H ds xs
 | .grd rows,v=>∃a rs,v= .ref a/\B a=on (i+2)/\H a=on (.lst (rs.map V.ref))/\(a::rs).Nodup/\RowL K (FxB B bg) H (λr=>B r=on (i+2)) rows rs
structure SOk (K:PZ) (H₀:Hp) (B:Ow) (bg:Option (Pk×Pk)) (H:Hp) (δ:Ds) (β:Bg) (σ:St):Prop where
 fr:Fr (FxB B bg) H β
 bgt:∀b l,bg=on (b,l)->B b=on 1/\B l=on 1
 len:δ.length=σ.length
 cov:∀a,H₀ a≠Pb->H a≠Pb
 new:∀a k,B a=on (k+2)->H₀ a=Pb
 lst:∀a k,B a=on (k+2)->∃xs,H a=on (.lst xs)
 tell:∀(i:Nat) (s:Sl),δ[i]?=on (on s)->∃v,σ[i]?=on (on v)/\DenS K B bg H i s v
structure Stp (B:Ow) (H:Hp) (B':Ow) (H':Hp):Prop where
 kp:∀a o,H a=on o->(B a=Pb\/B a=on 0)->H' a=on o
 tg:∀a,B a=on 0\/B a=on 1->B' a=B a
 nn:∀a o,H a=on o->B a=Pb->B' a=Pb
 al:∀a,H a≠Pb->H' a≠Pb
theorem Stp.refl(B:Ow)(H:Hp):Stp B H B H:=⟨λ_ _ h _=>h,λ_ _=>rfl,λ_ _ _ h=>h,λ_ h=>h⟩
theorem Stp.trans{H d g:Hp}(a:Stp B H B1 d)(b:Stp B1 d B2 g):Stp B H B2 g:=by
 refine⟨λx o h n=>b.kp x o (a.kp x o h n) ?_,λx h=>?_,λx o h n=>b.nn x o (a.kp x o h (.inl n)) (a.nn x o h n),λx h=>b.al x (a.al x h)⟩
 ·rcases n with n|n
  ·exact .inl (a.nn x o h n)
  ·exact .inr ((a.tg x (.inl n)).trans n)
 ·have e:=a.tg x h
  rw[←e]at h;exact(b.tg x h).trans e
def gO(K:PZ)(H₀:Hp)(bg:Option (Pk×Pk))(E:St->XK)(Dn:Ends)(B:Ow)(H:Hp)(o:Out)(j:Bg):Prop:=match o with
 | .nx δ'=>∀h i g,Stp B H i g->SOk K H₀ i bg g δ' j h->Dn.nx h g
 | .bk δ'=>∀h i g,Stp B H i g->SOk K H₀ i bg g δ' j h->Dn.bk h g
 | .ct δ'=>∀h i g,Stp B H i g->SOk K H₀ i bg g δ' j h->Dn.ct h g
 | .rt d=>∀v i g,Stp B H i g->Fr (FxB i bg) g j->Den K (FxB i bg) g d v->Dn.rt v g
 | .rg rows=>∀v i g,Stp B H i g->Fr (FxB i bg) g j->hV K (FxB i bg) H₀ g rows v->Dn.rt v g
 | .ex C δ'=>∀h i g,Stp B H i g->SOk K H₀ i bg g δ' j h->E h (.ref C) Pb g
theorem gO.pre{K:PZ}{E:St->XK}{Dn:Ends}{H l:Hp}(s:Stp B H B1 l)(h:gO K H₀ bg E Dn B H o β'):gO K H₀ bg E Dn B1 l o β':=by
 cases o with
 |nx δ=>exact λg i j t=>h g i j (s.trans t)
 |bk δ=>exact λg i j t=>h g i j (s.trans t)
 |ct δ=>exact λg i j t=>h g i j (s.trans t)
 |rt d=>exact λv i j t=>h v i j (s.trans t)
 |rg d=>exact λv i j t=>h v i j (s.trans t)
 |ex C δ=>exact λg i j t=>h g i j (s.trans t)
def tG(K:PZ)(H₀:Hp)(g:G)(E:St->XK):TS:=λDn h H=>∃B bg δ β o d,SOk K H₀ B bg H δ β h/\g δ β=on (o,d)/\gO K H₀ bg E Dn B H o d
theorem _root_.L2.PS.imp{X:Cx}{e:QU}(h:PS X e t)(f:∀D d H,t' D d H->t D d H):PS X e t':=λg s d H D I q=>h g s d H D I (f D d H q)
theorem _root_.L2.PSs.imp{X:Cx}{e:List QU}(h:PSs X e t)(f:∀D d H,t' D d H->t D d H):PSs X e t':=λg s d H D I q=>h g s d H D I (f D d H q)
noncomputable def vw(δ:Ds):Dn:=δ.map λs=>match s with
 |some (.sh d)=>on d
 |_=>Pb
noncomputable def vwA(δ:Ds):Dn:=δ.map λs=>match s with
 |some (.sh d)=>on d
 |some (.own ds)=>on (.lst ds)
 |some (.grd rows)=>on (.lst (rows.map D.lst))
 |none=>Pb
variable{H₀:Hp}{B:Ow}{bg:Option (Pk×Pk)}{H':Hp}{δ:Ds}{β β':Bg}{σ:St}
theorem N9{i:Nat}{d:D}(e:(vw δ)[i]?=on (on d)):δ[i]?=on (on (.sh d)):=by
 unfold vw at e;rw[Pi]at e;cases q:δ[i]? with
 |none=>rw[q]at e;cases e
 |some z=>
  rw[q]at e;cases z with
  |none=>cases e
  |some s=>
   cases s with
   |sh c=>cases e;rfl
   |own ds=>cases e
   |grd rows=>cases e
theorem SOk.view(h:SOk K H₀ B bg H δ β σ):VOk K (FxB B bg) H (vw δ) σ:=⟨by unfold vw;rw[Pa,h.len],λi d e=>h.tell i _ (N9 e)⟩
theorem trA:Tr (FxB B bg) H (FxA B bg) H:=⟨λa h _ z=>by
 have h':¬(B a≠Pb):=h;rcases z with z|z
 ·exact h' (by rw[z];simp)
 ·exact h' (by rw[z];simp),λ_ _ _ h=>h,rfl⟩
theorem SOk.frA(h:SOk K H₀ B bg H δ β σ):Fr (FxA B bg) H β:=⟨λa ha=>h.fr.occ a (by
 show B a≠Pb;rcases ha with z|z<;>rw[z]<;>simp),λb l e=>⟨.inr (h.bgt b l e).1,.inr (h.bgt b l e).2,(h.fr.bgA b l e).2.2⟩,h.fr.bag⟩
theorem SOk.viewA(h:SOk K H₀ B bg H δ β σ):VOk K (FxA B bg) H (vwA δ) σ:=by
 refine⟨by unfold vwA;rw[Pa,h.len],λi d e=>?_⟩;unfold vwA at e;rw[Pi]at e;cases q:δ[i]? with
 |none=>rw[q]at e;cases e
 |some z=>
  rw[q]at e;cases z with
  |none=>cases e
  |some s=>
   obtain⟨v,g,j⟩:=h.tell i s q;cases s with
   |sh c=>cases e;exact⟨v,g,Den.tr trA _ _ j⟩
   |own ds=>
    cases e;obtain⟨a,xs,l,m,o,t⟩:=j;refine⟨v,g,a,xs,l,⟨λz=>?_,.inl o⟩,DenL.tr trA _ _ t⟩;have z':B a=on 0\/B a=on 1:=z;rw[m]at z';rcases z' with z'|z'<;>cases z'
   |grd rows=>
    cases e;obtain⟨a,rs,l,m,o,t,w⟩:=j;have u:∀c,B c=on (i+2)->¬(FxA B bg).A c:=λc y z=>by
     have z':B c=on 0\/B c=on 1:=z;rw[y]at z';rcases z' with z'|z'<;>cases z'
    exact⟨v,g,a,_,l,⟨u a m,.inl o⟩,RowL.den trA w λr _ C=>u r C⟩
theorem SOk.to{F:Fx}(h:SOk K H₀ B bg H δ β σ)(hF:F.bg=bg)(t:To F H H' β'):SOk K H₀ B bg H' δ β' σ/\Stp B H B H':=by
 have J:∀a,B a≠on 1->∀b l,F.bg=on (b,l)->a≠b/\a≠l:=λa ha b l e=>by
  rw[hF]at e;exact⟨λz=>ha (z▸(h.bgt b l e).1),λz=>ha (z▸(h.bgt b l e).2)⟩
 have kp:∀a o,H a=on o->B a≠on 1->H' a=on o:=λa o e n=>t.kp a o e (J a n);have fr:Fr (FxB B bg) H' β':=⟨λa ha z=>(by
  by_cases L:B a=on 1
  ·by_cases d:∃b l,bg=on (b,l)/\(a=b\/a=l)
   ·obtain⟨b,l,e,q⟩:=d
    obtain⟨j,m⟩:=t.fr.bag b l (hF.trans e);rcases q with rfl|rfl
    ·rw[j]at z;cases z
    ·rw[m]at z;cases z
   ·cases q:H a with
    |none=>exact h.fr.occ a ha q
    |some o=>
     rw[t.kp a o q λb l e=>⟨λw=>d ⟨b,l,hF.symm.trans e,.inl w⟩,λw=>d ⟨b,l,hF.symm.trans e,.inr w⟩⟩]at z;cases z
  ·cases q:H a with
   |none=>exact h.fr.occ a ha q
   |some o=>rw[kp a o q L]at z;cases z),h.fr.bgA,λb l e=>t.fr.bag b l (hF.trans e)⟩
 have tr:Tr (FxB B bg) H (FxB B bg) H':=⟨λ_ n _=>n,λa o n e=>kp a o e (λz=>n (by show B a≠Pb;rw[z];simp)),rfl⟩;have al:∀a,H a≠Pb->H' a≠Pb:=λa ha z=>by
  by_cases d:∃b l,bg=on (b,l)/\(a=b\/a=l)
  ·obtain⟨b,l,e,q⟩:=d
   obtain⟨j,m⟩:=t.fr.bag b l (hF.trans e);rcases q with rfl|rfl
   ·rw[j]at z;cases z
   ·rw[m]at z;cases z
  ·cases q:H a with
   |none=>exact ha q
   |some o=>
    rw[t.kp a o q λb l e=>⟨λw=>d ⟨b,l,hF.symm.trans e,.inl w⟩,λw=>d ⟨b,l,hF.symm.trans e,.inr w⟩⟩]at z;cases z
 refine⟨⟨fr,h.bgt,h.len,λa ha=>al a (h.cov a ha),h.new,λc k I=>(let ⟨xs,z⟩:=h.lst c k I;⟨xs,kp c _ z (by rw[I];intro z;cases z)⟩),λi s e=>?_⟩,λa o e n=>kp a o e (by rcases n with n|n<;>rw[n]<;>simp),λ_ _=>rfl,λ_ _ _ n=>n,al⟩
 obtain⟨v,N,u⟩:=h.tell i s e;refine⟨v,N,?_⟩;cases s with
 |sh c=>exact Den.tr tr _ _ u
 |own ds=>
  obtain⟨a,xs,y,g,A,C⟩:=u;exact⟨a,xs,y,g,kp a _ A (by rw[g];intro z;cases z),DenL.tr tr _ _ C⟩
 |grd rows=>
  obtain⟨a,rs,y,g,A,C,O⟩:=u;exact⟨a,rs,y,g,kp a _ A (by rw[g];intro z;cases z),C,RowL.tr tr O λr xs _ p q=>⟨p,kp r _ q (by rw[p];intro z;cases z)⟩⟩
theorem SOk.set(h:SOk K H₀ B bg H δ β σ)(hd:Den K (FxB B bg) H d v):SOk K H₀ B bg H (δ.set i (on (.sh d))) β (σ.set i (on v)):=by
 refine⟨h.fr,h.bgt,by rw[Qs,Qs,h.len],h.cov,h.new,h.lst,λj c e=>?_⟩;rw[Qz]at e;rw[Qz];by_cases q:i=j
 ·subst q
  rw[Ps rfl]at e⊢;split at e
  ·rename_i g
   cases e;rw[Ps (by rw[←h.len];exact g)];exact⟨v,rfl,hd⟩
  ·cases e
 ·rw[Po q]at e⊢
  exact h.tell j c e
noncomputable def gNil:G:=λδ β=>on (.nx δ,β)
noncomputable def aJ(g h:G):G:=λδ β=>match g δ β with
 |some (.nx δ1,β1)=>h δ1 β1
 |r=>r
def dR(i:Nat)(f:FD):G:=λδ β=>match f (vw δ) β with
 |some (.ok d,β1)=>on (.nx (δ.set i (on (.sh d))),β1)
 |some (.error C,β1)=>on (.ex C δ,β1)
 |none=>Pb
def nJ(i:Nat)(f:FD):G:=λδ β=>match f (vwA δ) β with
 |some (.ok d,β1)=>if d8 d=Pe then on (.nx (δ.set i (on (.sh d))),β1)else Pb
 |some (.error C,β1)=>on (.ex C δ,β1)
 |none=>Pb
noncomputable def fF(f:FD):G:=λδ β=>match f (vwA δ) β with
 |some (.ok _,β1)=>on (.nx δ,β1)
 |some (.error C,β1)=>on (.ex C δ,β1)
 |none=>Pb
noncomputable def dn(f:FD):G:=λδ β=>match f (vwA δ) β with
 |some (.ok d,β1)=>on (.rt d,β1)
 |some (.error C,β1)=>on (.ex C δ,β1)
 |none=>Pb
noncomputable def gIf(t:Dn->M Bool)(g h:G):G:=λδ β=>match t (vwA δ) β with
 |some (.ok Pe,β1)=>g δ β1
 |some (.ok Pj,β1)=>h δ β1
 |some (.error C,β1)=>on (.ex C δ,β1)
 |none=>Pb
variable{st:QU}{sts:List QU}
theorem bA:PSs X [] (tG X.K X.H₀ gNil E):=qZ.imp λD σ H d=>by
 obtain⟨B,bg,δ,β,o,β',ok,e,h⟩:=d;cases e;exact h σ B H (Stp.refl B H) ok
theorem ag(i:PS X st (tG X.K X.H₀ g E))(j:PSs X sts (tG X.K X.H₀ h E)):PSs X (st::sts) (tG X.K X.H₀ (aJ g h) E):=(da i j).imp λD σ H l=>by
 obtain⟨B,bg,δ,β,o,β',ok,e,q⟩:=l;unfold aJ at e;split at e
 ·rename_i δ1 β1 m
  refine⟨B,bg,δ,β,.nx δ1,β1,ok,m,λt u H' s d=>⟨u,bg,δ1,β1,o,β',d,e,gO.pre s ?_⟩⟩;exact q
 ·rename_i r v
  refine⟨B,bg,δ,β,o,β',ok,e,?_⟩;cases o with
  |nx δ1=>exact P6 e (v δ1 β')
  |_=>exact q
theorem ai(d:PS X st (tG X.K X.H₀ g E)):PSs X [st] (tG X.K X.H₀ g E):=m8 d
theorem aO{x:Qn}{f:FD}(h:PS X (.Assign [.Name x pos'] e pos) (jP (tV X.K f E) (fY i))):PS X (.Assign [.Name x pos'] e pos) (tG X.K X.H₀ (dR i f) E):=h.imp λD σ H m=>by
 obtain⟨B,bg,δ,β,o,β',ok,e,q⟩:=m;refine⟨FxB B bg,vw δ,β,ok.fr,ok.view,?_⟩;unfold dR at e;split at e
 ·rename_i d β1 j
  cases e;refine⟨.ok d,_,j,λv H' t hd=>?_⟩;obtain⟨g,l⟩:=ok.to rfl t;exact q _ B H' l (g.set hd)
 ·rename_i C β1 j
  cases e;refine⟨.error C,_,j,λH' t=>?_⟩;obtain⟨g,l⟩:=ok.to rfl t;exact q _ B H' l g
 ·cases e
theorem kj{f:FD}(h:PS X (.Expr e pos) (tE (tV X.K f E))):PS X (.Expr e pos) (tG X.K X.H₀ (fF f) E):=h.imp λD σ H l=>by
 obtain⟨B,bg,δ,β,o,β',ok,e,q⟩:=l;refine⟨FxA B bg,vwA δ,β,ok.frA,ok.viewA,?_⟩;unfold fF at e;split at e
 ·rename_i d β1 i
  cases e;refine⟨.ok d,_,i,λv H' t hd=>?_⟩;obtain⟨g,j⟩:=ok.to rfl t;exact q _ B H' j g
 ·rename_i C β1 i
  cases e;refine⟨.error C,_,i,λH' t=>?_⟩;obtain⟨g,j⟩:=ok.to rfl t;exact q _ B H' j g
 ·cases e
noncomputable def gD(B:Ow):Ow:=λa=>if B a=on 0\/B a=on 1 then B a else Pb
theorem Ms{B:Ow}{bg:Option (Pk×Pk)}{H:Hp}:Tr (FxA B bg) H (FxB (gD B) bg) H:=⟨λa h _ z=>by
 have d:gD B a≠Pb:=z;unfold gD at d;split at d
 ·rename_i q;exact h q
 ·exact d rfl,λ_ _ _ h=>h,rfl⟩
theorem DQ{B:Ow}{H:Hp}:Stp B H (gD B) H:=⟨λ_ _ h _=>h,λa h=>by unfold gD;rw[Ps h],λa o h n=>by unfold gD;rw[n];simp,λ_ h=>h⟩
theorem aG{f:FD}(h:PS X (.Return (on e) pos) (BV (tV X.K f E))):PS X (.Return (on e) pos) (tG X.K X.H₀ (dn f) E):=h.imp λD σ H r=>by
 obtain⟨B,bg,δ,β,o,β',ok,e,q⟩:=r;refine⟨FxA B bg,vwA δ,β,ok.frA,ok.viewA,?_⟩;unfold dn at e;split at e
 ·rename_i d β1 j
  cases e;refine⟨.ok d,_,j,λv H' t hd=>?_⟩;obtain⟨g,m⟩:=ok.to rfl t;refine q _ (gD B) H' (m.trans DQ) ⟨λa ha=>g.fr.occ a ?_,λb l e=>?_,g.fr.bag⟩ (Den.tr Ms _ _ hd)
  ·have i:gD B a≠Pb:=ha
   show B a≠Pb;unfold gD at i;split at i
   ·exact i
   ·exact P6 rfl i
  ·refine⟨?_,?_,(g.fr.bgA b l e).2.2⟩
   ·show gD B b≠Pb
    unfold gD;rw[Ps (.inr (ok.bgt b l e).1),(ok.bgt b l e).1];simp
   ·show gD B l≠Pb
    unfold gD;rw[Ps (.inr (ok.bgt b l e).2),(ok.bgt b l e).2];simp
 ·rename_i C β1 j
  cases e;refine⟨.error C,_,j,λH' t=>?_⟩;obtain⟨g,m⟩:=ok.to rfl t;exact q _ B H' m g
 ·cases e
theorem bX{c:Expr}{a b:List QU}(l:PT X c (tVT X.K t E))(ha:PSs X a (tG X.K X.H₀ g E))(m:PSs X b (tG X.K X.H₀ h E)):PS X (.If c a b pos) (tG X.K X.H₀ (gIf t g h) E):=(HY l ha m).imp λD σ H r=>by
 obtain⟨B,bg,δ,β,o,β',ok,e,q⟩:=r;refine⟨FxA B bg,vwA δ,β,ok.frA,ok.viewA,?_⟩;unfold gIf at e;split at e
 ·rename_i β1 i
  refine⟨.ok Pe,_,i,λv H' t hd=>?_⟩;subst hd;obtain⟨d,j⟩:=ok.to rfl t;rw[Ps rfl];exact⟨B,bg,δ,β1,o,β',d,e,gO.pre j q⟩
 ·rename_i β1 i
  refine⟨.ok Pj,_,i,λv H' t hd=>?_⟩;subst hd;obtain⟨d,j⟩:=ok.to rfl t;rw[Po Pw];exact⟨B,bg,δ,β1,o,β',d,e,gO.pre j q⟩
 ·rename_i C β1 i
  cases e;refine⟨.error C,_,i,λH' t=>?_⟩;obtain⟨d,j⟩:=ok.to rfl t;exact q _ B H' j d
 ·cases e
abbrev TgS:=D->Ds->Option Ds
abbrev mP:=List D->Ds->Option Ds
def qD(K:PZ)(g:TG)(tg:TgS):Prop:=∀(H₀:Hp) (B:Ow) (bg:Option (Pk×Pk)) (H:Hp) (δ δ1:Ds) (β:Bg) (σ:St) (d:D) (v:V) (Q:St->Hp->Prop),SOk K H₀ B bg H δ β σ->Den K (FxB B bg) H d v->tg d δ=on δ1->(∀h,SOk K H₀ B bg H δ1 β h->Q h H)->g v σ H Q
def qC(K:PZ)(g:TGs)(tg:mP):Prop:=∀(H₀:Hp) (B:Ow) (bg:Option (Pk×Pk)) (H:Hp) (δ δ1:Ds) (β:Bg) (σ:St) (ds:List D) (vs:List V) (Q:St->Hp->Prop),SOk K H₀ B bg H δ β σ->DenL K (FxB B bg) H ds vs->tg ds δ=on δ1->(∀d,SOk K H₀ B bg H δ1 β d->Q d H)->g vs σ H Q
noncomputable def sgN(i:Nat):TgS:=λd δ=>on (δ.set i (on (.sh d)))
noncomputable def jQ:mP:=λds δ=>match ds with
 |[]=>on δ
 |_=>Pb
noncomputable def h9(t:TgS)(u:mP):mP:=λds δ=>match ds with
 |[]=>Pb
 |d::r=>(t d δ).bind λδ1=>u r δ1
noncomputable def sgT(t:mP):TgS:=λd δ=>match d with
 | .tup ds=>t ds δ
 |_=>Pb
theorem aC:qD K (fY i) (sgN i):=λH₀ B bg H δ δ1 β σ d v Q ok hd e k=>by
 cases e;exact k _ (ok.set hd)
theorem dC:qC K L2.gNil jQ:=λH₀ B bg H δ δ1 β σ ds vs Q ok hd e k=>by
 cases ds with
 |nil=>cases e;exact⟨hd,k _ ok⟩
 |cons _ _=>cases e
theorem aY(m:qD K t tf)(o:qC K u uf):qC K (yb t u) (h9 tf uf):=λH₀ B bg H δ δ1 β σ ds vs Q ok hd e k=>by
 cases ds with
 |nil=>cases e
 |cons d r=>
  obtain⟨x,l,rfl,v,w⟩:=hd;have h:(tf d δ).bind (λδ1=>uf r δ1)=on δ1:=e;cases q:tf d δ with
  |none=>rw[q]at h;cases h
  |some g=>
   rw[q]at h;exact⟨x,l,rfl,m H₀ B bg H δ g β σ d x _ ok v q λi j=>o H₀ B bg H g δ1 β i r l Q j w h k⟩
theorem cU:∀ds δ δ1,jQ ds δ=on δ1->ds.length=0:=λds δ δ1 h=>by
 cases ds with
 |nil=>rfl
 |cons _ _=>cases h
theorem aX{n:Nat}(h:∀ds δ δ1,u ds δ=on δ1->ds.length=n):∀ds δ δ1,h9 t u ds δ=on δ1->ds.length=n+1:=λds δ δ1 e=>by
 cases ds with
 |nil=>cases e
 |cons d r=>
  have g:(t d δ).bind (λδ1=>u r δ1)=on δ1:=e;cases q:t d δ with
  |none=>rw[q]at g;cases g
  |some i=>rw[q]at g;rw[Pz,h _ _ _ g]
theorem eC{n:Nat}(h:qC K t tf)(hn:∀ds δ δ1,tf ds δ=on δ1->ds.length=n):qD K (EG K n t) (sgT tf):=λH₀ B bg H δ δ1 β σ d v Q ok hd e k=>by
 cases d<;>first
  |(obtain⟨a,xs,rfl,sq,g⟩:=Den.sqT hd;exact⟨a,xs,rfl,sq,by rw[←g.length];exact hn _ _ _ e,h H₀ B bg H δ δ1 β σ _ xs Q ok g e k⟩)
  |cases e
def ij(f:FD)(tg:TgS):G:=λδ β=>match f (vw δ) β with
 |some (.ok d,β1)=>(tg d δ).map λδ1=>(.nx δ1,β1)
 |some (.error C,β1)=>on (.ex C δ,β1)
 |none=>Pb
theorem pQ{f:FD}{tg:TgS}(l:qD X.K g tg)(h:PS X (.Assign [tgt] e pos) (jP (tV X.K f E) g)):PS X (.Assign [tgt] e pos) (tG X.K X.H₀ (ij f tg) E):=h.imp λD σ H w=>by
 obtain⟨B,bg,δ,β,o,β',ok,e,q⟩:=w;refine⟨FxB B bg,vw δ,β,ok.fr,ok.view,?_⟩;unfold ij at e;split at e
 ·rename_i d β1 j
  cases q1:tg d δ with
  |none=>rw[q1]at e;cases e
  |some δ1=>
   rw[q1]at e;cases e;refine⟨.ok d,_,j,λv H' t hd=>?_⟩;obtain⟨i,m⟩:=ok.to rfl t;exact l X.H₀ B bg H' δ δ1 _ σ d v _ i hd q1 λr u=>q r B H' m u
 ·rename_i C β1 j
  cases e;refine⟨.error C,_,j,λH' t=>?_⟩;obtain⟨i,m⟩:=ok.to rfl t;exact q _ B H' m i
 ·cases e
def rp(i j:Nat)(f:FL):G:=λδ β=>match f (vw δ) β with
 |some (.ok [c,d],β1)=>on (.nx ((δ.set i (on (.sh c))).set j (on (.sh d))),β1)
 |some (.error C,β1)=>on (.ex C δ,β1)
 |_=>Pb
def j3(i:Nat)(op:D->D->Option D)(f:FD):G:=λδ β=>match(vw δ).getD i Pb with
 |none=>Pb
 |some c=>match f (vw δ) β with
  |some (.ok d,β1)=>(op c d).map λz=>(.nx (δ.set i (on (.sh z))),β1)
  |some (.error C,β1)=>on (.ex C δ,β1)
  |none=>Pb
theorem gL{f:FD}(l:bh X.K ti op)(h:PS X st (Lm i (tV X.K f E) ti)):PS X st (tG X.K X.H₀ (j3 i op f) E):=h.imp λD σ H I=>by
 obtain⟨B,bg,δ,β,o,β',ok,e,q⟩:=I;unfold j3 at e;split at e
 ·cases e
 ·rename_i c j
  have m:(vw δ)[i]?=on (on c):=by
   rw[Pf]at j;cases z:(vw δ)[i]? with
   |none=>rw[z]at j;cases j
   |some w=>rw[z]at j;simp at j;rw[j]
  obtain⟨v,J,L⟩:=ok.view.tell i c m;refine⟨v,J,FxB B bg,vw δ,β,ok.fr,ok.view,?_⟩;split at e
  ·rename_i d β1 r
   cases q1:op c d with
   |none=>rw[q1]at e;cases e
   |some z=>
    rw[q1]at e;cases e;refine⟨.ok d,_,r,λw H' t hd=>?_⟩;obtain⟨g,y⟩:=ok.to rfl t;refine l (FxB B bg) H' β' _ c d z v w t.fr (Den.tr (t.tr ok.fr) _ _ L) hd q1 λu N O P=>?_;obtain⟨A,Q⟩:=g.to rfl O;exact q _ B N (y.trans Q) (A.set P)
  ·rename_i C β1 r
   cases e;refine⟨.error C,_,r,λH' t=>?_⟩;obtain⟨g,y⟩:=ok.to rfl t;exact q _ B H' y g
  ·cases e
theorem Stp.tr{B d:Ow}{H H':Hp}{bg:Option (Pk×Pk)}(s:Stp B H d H'):Tr (FxB B bg) H (FxB d bg) H':=
 ⟨λa h hs z=>by
  have hn:B a=Pb:=by
   cases q:B a with
   |none=>rfl
   |some t=>exact P6 (show B a≠Pb by rw[q];simp) h
  cases q:H a with
  |none=>exact hs q
  |some o=>exact z (s.nn a o q hn),λa o h e=>s.kp a o e (.inl (by
  cases q:B a with
  |none=>rfl
  |some t=>exact P6 (show B a≠Pb by rw[q];simp) h)),rfl⟩
def cf(t:Dn->M Bool)(g:G):Nat->G
 |0,_,_=>Pb
 |n+1,δ,β=>match t (vwA δ) β with
  |some (.ok Pe,β1)=>match g δ β1 with
   |some (.nx δ1,β2)=>cf t g n δ1 β2
   |some (.ct δ1,β2)=>cf t g n δ1 β2
   |some (.bk δ1,β2)=>on (.nx δ1,β2)
   |r=>r
  |some (.ok Pj,β1)=>on (.nx δ,β1)
  |some (.error C,β1)=>on (.ex C δ,β1)
  |none=>Pb
theorem mx:∀{n:Nat} {δ:Ds} {β:Bg} {r:Out×Bg},cf t g n δ β=on r->cf t g (n+1) δ β=on r
 |0,_,_,_,h=>by cases h
 |n+1,δ,β,r,h=>by
  have e:∀m,cf t g (m+1) δ β=match t (vwA δ) β with
    |some (.ok Pe,β1)=>match g δ β1 with
     |some (.nx δ1,β2)=>cf t g m δ1 β2
     |some (.ct δ1,β2)=>cf t g m δ1 β2
     |some (.bk δ1,β2)=>on (.nx δ1,β2)
     |r=>r
    |some (.ok Pj,β1)=>on (.nx δ,β1)
    |some (.error C,β1)=>on (.ex C δ,β1)
    |none=>Pb:=λm=>rfl
  rw[e]at h⊢;cases q:t (vwA δ) β with
  |none=>rw[q]at h;cases h
  |some z=>
   obtain⟨b,β1⟩:=z;rw[q]at h;cases b with
   |error C=>exact h
   |ok b=>
    cases b with
    |false=>exact h
    |true=>
     dsimp only at h⊢
     cases q2:g δ β1 with
     |none=>rw[q2]at h;cases h
     |some y=>
      obtain⟨o,β2⟩:=y;rw[q2]at h;cases o with
      |nx δ1=>exact mx h
      |ct δ1=>exact mx h
      |bk δ1=>exact h
      |rt d=>exact h
      |rg d=>exact h
      |ex C δ1=>exact h
theorem sJ{n m:Nat}{δ:Ds}{β:Bg}(h:cf t g n δ β=on r)(l:n<=m):cf t g m δ β=on r:=by
 induction m with
 |zero=>
  obtain rfl:n=0:=by omega
  exact h
 |succ m ih=>
  by_cases q:n=m+1
  ·subst q;exact h
  ·exact mx (ih (by omega))
end
open Classical in
def gWh(t:Dn->M Bool)(g:G):G:=λδ β=>if h:∃r n,cf t g n δ β=on r then on h.choose else Pb
theorem MH(h:cf t g n δ β=on r):gWh t g δ β=on r:=by
 have a:∃r n,cf t g n δ β=on r:=⟨r,n,h⟩;unfold gWh;rw[dif_pos a];obtain⟨m,hm⟩:=a.choose_spec;have c:=sJ h (Nat.le_max_left n m);have b:=sJ hm (Nat.le_max_right n m);rw[c]at b;rw[←Qd b]
theorem KR(h:gWh t g δ β=on r):∃n,cf t g n δ β=on r:=by
 unfold gWh at h;split at h
 ·rename_i a
  obtain⟨m,hm⟩:=a.choose_spec;cases h;exact⟨m,hm⟩
 ·cases h
section
variable{X:Cx}{E:St->XK}{e:Expr}{st:QU}{sts:List QU}{pos:Uj}{K:PZ}
theorem J1(T:Yo (Qc X.prog X.w) X.A X.env X.xe)(U:PT X c (tVT X.K t E))(W:PSs X body (tG X.K X.H₀ g E)):PS X (.While c body [] pos) (tG X.K X.H₀ (gWh t g) E):=(CO T U W).imp λD σ H Y=>by
 obtain⟨B,bg,δ,β,o,l,ok,e,q⟩:=Y;obtain⟨n,e⟩:=KR e;refine⟨λm u P=>∃j δ1 β1,Stp B H j P/\SOk X.K X.H₀ j bg P δ1 β1 u/\cf t g m δ1 β1=on (o,l),⟨n,B,δ,β,Stp.refl B H,ok,e⟩,?_⟩;rintro m u P ⟨j,δ1,β1,r,h,f⟩;refine⟨FxA j bg,vwA δ1,β1,h.frA,h.viewA,?_⟩;cases m with
 |zero=>cases f
 |succ m=>
  unfold cf at f;split at f
  ·rename_i β2 y
   refine⟨.ok Pe,_,y,λv N tt hd=>?_⟩;subst hd;obtain⟨b,k⟩:=h.to rfl tt;rw[Ps rfl];refine⟨λF Q=>∃O a β3,Stp B H O Q/\SOk X.K X.H₀ O bg Q a β3 F/\cf t g m a β3=on (o,l),λF Q ⟨O,a,β3,z⟩=>⟨m,Va m,O,a,β3,z⟩,?_⟩;split at f
   ·rename_i a β3 I
    exact⟨j,bg,δ1,β2,.nx a,β3,b,I,λp J R L i=>⟨J,a,β3,r.trans (k.trans L),i,f⟩⟩
   ·rename_i a β3 I
    exact⟨j,bg,δ1,β2,.ct a,β3,b,I,λp J R L i=>⟨J,a,β3,r.trans (k.trans L),i,f⟩⟩
   ·rename_i a β3 I
    cases f;exact⟨j,bg,δ1,β2,.bk a,_,b,I,λp J R L i=>q p J R (r.trans (k.trans L)) i⟩
   ·rename_i x Z h2 h3
    refine⟨j,bg,δ1,β2,o,l,b,f,?_⟩;have q2:=gO.pre (r.trans k) q;cases o with
    |nx a=>exact P6 f (Z _ _)
    |ct a=>exact P6 f (h2 _ _)
    |bk a=>exact P6 f (h3 _ _)
    |rt d=>exact q2
    |rg d=>exact q2
    |ex C a=>exact q2
  ·rename_i β2 y
   cases f;refine⟨.ok Pj,_,y,λv N tt hd=>?_⟩;subst hd;obtain⟨b,k⟩:=h.to rfl tt;rw[Po Pw];exact q _ j N (r.trans k) b
  ·rename_i C β2 y
   cases f;refine⟨.error C,_,y,λN tt=>?_⟩;obtain⟨b,k⟩:=h.to rfl tt;exact q _ j N (r.trans k) b
  ·cases f
noncomputable def gLp(tg:TgS)(g:G):List D->G
 |[],δ,β=>on (.nx δ,β)
 |d::ds,δ,β=>match tg d δ with
  |none=>Pb
  |some δ1=>match g δ1 β with
   |some (.nx δ2,β2)=>gLp tg g ds δ2 β2
   |some (.ct δ2,β2)=>gLp tg g ds δ2 β2
   |some (.bk δ2,β2)=>on (.nx δ2,β2)
   |r=>r
def rA(it:FL)(tg:TgS)(g:G):G:=λδ β=>match it (vw δ) β with
 |some (.ok ds,β1)=>gLp tg g ds δ β1
 |some (.error C,β1)=>on (.ex C δ,β1)
 |none=>Pb
theorem bH(l:qD X.K tgg tg)(h:PS X (.For tgt iter body [] pos) (Lk (iV X.K it E) tgg (tG X.K X.H₀ g E))):PS X (.For tgt iter body [] pos) (tG X.K X.H₀ (rA it tg g) E):=h.imp λD σ H h_=>by
 obtain⟨B,bg,δ,β,o,y,ok,e,q⟩:=h_;refine⟨FxB B bg,vw δ,β,ok.fr,ok.view,?_⟩;unfold rA at e;split at e
 ·rename_i ds β1 U
  refine⟨.ok ds,_,U,λJ W t hJ=>?_⟩;obtain⟨Y,Z⟩:=ok.to rfl t;refine⟨λi m n F=>m+i=ds.length/\∃k p β2,Stp B W k F/\SOk X.K X.H₀ k bg F p β2 n/\gLp tg g (ds.drop i) p β2=on (o,y),⟨ds.length,by omega,B,δ,β1,Stp.refl B W,Y,e⟩,?_⟩;rintro i m n F ⟨hm,k,p,β2,I,c,b⟩;obtain⟨iy,is⟩:=hJ (FxB k bg) F β2 I.tr c.fr i;cases Q:ds[i]? with
  |none=>
   have R:ds.length<=i:=UJ.mp Q;rw[RB R]at b;cases b;exact .inl ⟨is (by omega),q n k F (Z.trans I) c⟩
  |some d=>
   have R:i<ds.length:=(Px.mp Q).1;obtain⟨go,yl⟩:=iy d Q;have ed:ds.drop i=d::ds.drop (i+1):=by
    rw[Qr R];congr 1;exact Qd ((Pd R).symm.trans Q)
   rw[ed]at b;unfold gLp at b;split at b
   ·cases b
   ·rename_i f e3
    refine .inr ⟨go,λL H9=>∃T r u,Stp B W T H9/\SOk X.K X.H₀ T bg H9 r u L/\gLp tg g (ds.drop (i+1)) r u=on (o,y),λL H9 ⟨T,r,u,z1,z2,z3⟩=>⟨m-1,by omega,by omega,T,r,u,z1,z2,z3⟩,λx H3 hy=>?_⟩;obtain⟨sm,dx⟩:=yl x H3 hy;obtain⟨ok3,s3⟩:=c.to rfl (c.fr.same sm);refine l X.H₀ k bg H3 p f β2 n d x _ ok3 dx e3 λσ4 v=>?_;have w:=I.trans s3;split at b
    ·rename_i a β5 N
     exact⟨k,bg,f,β2,.nx a,β5,v,N,λA O H6 P j=>⟨O,a,β5,w.trans P,j,b⟩⟩
    ·rename_i a β5 N
     exact⟨k,bg,f,β2,.ct a,β5,v,N,λA O H6 P j=>⟨O,a,β5,w.trans P,j,b⟩⟩
    ·rename_i a β5 N
     cases b;exact⟨k,bg,f,β2,.bk a,_,v,N,λA O H6 P j=>q A O H6 (Z.trans (w.trans P)) j⟩
    ·rename_i x h1 h2 h3
     refine⟨k,bg,f,β2,o,y,v,b,?_⟩;have q2:=gO.pre (Z.trans w) q;cases o with
     |nx a=>exact P6 b (h1 _ _)
     |ct a=>exact P6 b (h2 _ _)
     |bk a=>exact P6 b (h3 _ _)
     |rt d=>exact q2
     |rg d=>exact q2
     |ex C a=>exact q2
 ·rename_i C β1 U
  cases e;refine⟨.error C,_,U,λH' t=>?_⟩;obtain⟨c,I⟩:=ok.to rfl t;exact q _ B H' I c
 ·cases e
theorem SOk.newOwn{δ:Ds}{Q:St}(ok:SOk K H₀ B bg H δ β Q)(g:H p=Pb)(hd:DenL K (FxB B bg) H ds xs):
  SOk K H₀ (λa=>if a=p then on (i+2)else B a) bg (upd H p (.lst xs)) (δ.set i (on (.own ds))) β (Q.set i (on (.ref p)))/\Stp B H (λa=>if a=p then on (i+2)else B a) (upd H p (.lst xs)):=by
 have hB:B p=Pb:=by
  cases q:B p with
  |none=>rfl
  |some t=>exact P6 g (ok.fr.occ p (by show B p≠Pb;rw[q];simp))
 have m:Stp B H (λa=>if a=p then on (i+2)else B a) (upd H p (.lst xs)):=by
  refine⟨λa o h _=>by rw[upd_ne (aB h g)];exact h,λa h=>?_,λa o h n=>?_,?_⟩
  ·have:a≠p:=λz=>by subst z;rw[hB]at h;rcases h with h|h<;>cases h
   simp only[Po this]
  ·simp only[Po (aB h g)];exact n
  ·exact λa ha=>by
    by_cases z:a=p
    ·subst z;rw[ar];simp
    ·rw[upd_ne z];exact ha
 have tr:Tr (FxB B bg) H (FxB (λa=>if a=p then on (i+2)else B a) bg) (upd H p (.lst xs)):=m.tr;have I:∀b l,bg=on (b,l)->b≠p/\l≠p:=λb l e=>by
  obtain⟨b1,b2⟩:=ok.bgt b l e;exact⟨λz=>(by subst z;rw[hB]at b1;cases b1),λz=>(by subst z;rw[hB]at b2;cases b2)⟩
 refine⟨⟨⟨λa ha z=>?_,λb l e=>?_,λb l e=>?_⟩,λb l e=>?_,by rw[Qs,Qs,ok.len],λa ha=>m.al a (ok.cov a ha),λc k J=>(by
  have f:(if c=p then on (i+2)else B c)=on (k+2):=J;by_cases z:c=p
  ·cases w:H₀ c with
   |none=>rfl
   |some o=>exact P6 (z▸g) (ok.cov c (by rw[w];simp))
  ·rw[Po z]at f;exact ok.new c k f),λc k J=>(by
  have f:(if c=p then on (i+2)else B c)=on (k+2):=J;by_cases z:c=p
  ·subst z;exact⟨xs,ar⟩
  ·rw[Po z]at f;rw[upd_ne z];exact ok.lst c k f),λj s e=>?_⟩,m⟩
 ·by_cases q:a=p
  ·subst q;rw[ar]at z;cases z
  ·rw[upd_ne q]at z
   have u:(if a=p then on (i+2)else B a)≠Pb:=ha;rw[Po q]at u;exact ok.fr.occ a u z
 ·obtain⟨y,A⟩:=I b l e
  obtain⟨b1,b2⟩:=ok.bgt b l e;refine⟨?_,?_,(ok.fr.bgA b l e).2.2⟩
  ·show(if b=p then on (i+2)else B b)≠Pb
   rw[Po y,b1];simp
  ·show(if l=p then on (i+2)else B l)≠Pb
   rw[Po A,b2];simp
 ·obtain⟨y,A⟩:=I b l e
  rw[upd_ne y,upd_ne A];exact ok.fr.bag b l e
 ·obtain⟨y,A⟩:=I b l e
  simp only[Po y,Po A];exact ok.bgt b l e
 ·rw[Qz]at e
  rw[Qz];by_cases q:i=j
  ·subst q
   rw[Ps rfl]at e⊢;split at e
   ·rename_i R
    cases e;rw[Ps (by rw[←ok.len];exact R)];exact⟨_,rfl,p,xs,rfl,Ps rfl,ar,DenL.tr tr _ _ hd⟩
   ·cases e
  ·rw[Po q]at e⊢
   obtain⟨v,T,L⟩:=ok.tell j s e;refine⟨v,T,?_⟩;cases s with
   |sh d=>exact Den.tr tr _ _ L
   |own cs=>
    obtain⟨a,ys,N,O,C,P⟩:=L;have F:=aB C g;exact⟨a,ys,N,by simp only[Po F];exact O,by rw[upd_ne F];exact C,DenL.tr tr _ _ P⟩
   |grd rows=>
    obtain⟨a,rs,N,O,C,P,U⟩:=L;have F:=aB C g;exact⟨a,rs,N,by simp only[Po F];exact O,by rw[upd_ne F];exact C,P,RowL.tr tr U λr W _ p q=>⟨by simp only[Po (aB q g)];exact p,by rw[upd_ne (aB q g)];exact q⟩⟩
theorem SOk.writeOwn{δ:Ds}(ok:SOk K H₀ B bg H δ β σ)(hs:σ[i]?=on (on (.ref a)))(hB:B a=on (i+2))(ha:H a=on (.lst ys))(hd:DenL K (FxB B bg) H ds xs):
  SOk K H₀ B bg (upd H a (.lst xs)) (δ.set i (on (.own ds))) β σ/\Stp B H B (upd H a (.lst xs)):=by
 have g:Stp B H B (upd H a (.lst xs)):=by
  refine⟨λc o h n=>?_,λ_ _=>rfl,λ_ _ _ n=>n,λc m=>?_⟩
  ·rw[upd_ne]
   ·exact h
   ·intro z;subst z;rw[hB]at n;rcases n with n|n<;>cases n
  ·by_cases z:c=a
   ·subst z;rw[ar];simp
   ·rw[upd_ne z];exact m
 have tr:Tr (FxB B bg) H (FxB B bg) (upd H a (.lst xs)):=g.tr;refine⟨⟨⟨λc m z=>?_,ok.fr.bgA,λb l e=>?_⟩,ok.bgt,by rw[Qs,ok.len],λa ha=>g.al a (ok.cov a ha),ok.new,λc k m=>(by
  by_cases z:c=a
  ·subst z;exact⟨xs,ar⟩
  ·rw[upd_ne z];exact ok.lst c k m),λj s e=>?_⟩,g⟩
 ·by_cases q:c=a
  ·subst q;rw[ar]at z;cases z
  ·rw[upd_ne q]at z;exact ok.fr.occ c m z
 ·obtain⟨b1,b2⟩:=ok.bgt b l e
  rw[upd_ne (λz=>by subst z;rw[hB]at b1;cases b1),upd_ne (λz=>by subst z;rw[hB]at b2;cases b2)];exact ok.fr.bag b l e
 ·rw[Qz]at e
  by_cases q:i=j
  ·subst q
   rw[Ps rfl]at e;split at e
   ·cases e
    exact⟨_,hs,a,xs,rfl,hB,ar,DenL.tr tr _ _ hd⟩
   ·cases e
  ·rw[Po q]at e
   obtain⟨v,F,u⟩:=ok.tell j s e;refine⟨v,F,?_⟩;cases s with
   |sh d=>exact Den.tr tr _ _ u
   |own cs=>
    obtain⟨c,C,w,f,y,A⟩:=u;have t:c≠a:=λz=>by subst z;rw[hB]at f;cases f;exact q rfl
    exact⟨c,C,w,f,by rw[upd_ne t];exact y,DenL.tr tr _ _ A⟩
   |grd rows=>
    obtain⟨c,rs,w,f,y,A,I⟩:=u;have t:∀c,B c=on (j+2)->c≠a:=λc f z=>by subst z;rw[hB]at f;cases f;exact q rfl
    exact⟨c,rs,w,f,by rw[upd_ne (t c f)];exact y,A,RowL.tr tr I λr C _ p q=>⟨p,by rw[upd_ne (t r p)];exact q⟩⟩
def rq(i:Nat)(f:FL):G:=λδ β=>match f (vw δ) β with
 |some (.ok ds,β1)=>if ds.length<=PQ then on (.nx (δ.set i (on (.own ds))),β1)else Pb
 |some (.error C,β1)=>on (.ex C δ,β1)
 |none=>Pb
theorem kT(h:PS X st (jP (Li (tVA X.K f E)) (fY i))):PS X st (tG X.K X.H₀ (rq i f) E):=h.imp λD r H j=>by
 obtain⟨B,bg,δ,β,o,k,ok,e,q⟩:=j;refine⟨FxB B bg,vw δ,β,ok.fr,ok.view,?_⟩;unfold rq at e;split at e
 ·rename_i ds β1 b
  split at e
  ·rename_i l
   cases e;refine⟨.ok ds,_,b,λvs g t hd=>⟨by rw[←hd.length];exact l,λp m=>?_⟩⟩;obtain⟨a,c⟩:=ok.to rfl t;obtain⟨d,n⟩:=a.newOwn (i:=i) m hd;exact q _ _ _ (c.trans n) d
  ·cases e
 ·rename_i C β1 b
  cases e;refine⟨.error C,_,b,λg t=>?_⟩;obtain⟨a,c⟩:=ok.to rfl t;exact q _ B g c a
 ·cases e
def rB(i:Nat)(f:FL):G:=λδ β=>match δ.getD i Pb with
 |some (.own cs)=>match f (vw δ) β with
  |some (.ok [d],β1)=>if cs.length<PQ then on (.nx (δ.set i (on (.own (cs++[d])))),β1)else Pb
  |some (.error C,β1)=>on (.ex C δ,β1)
  |_=>Pb
 |_=>Pb
theorem getD_some{α:Type}{δ:List (Option α)}{i:Nat}{s:α}(h:δ.getD i Pb=on s):δ[i]?=on (on s):=by
 rw[Pf]at h;cases z:δ[i]? with
 |none=>rw[z]at h;cases h
 |some w=>rw[z]at h;simp at h;rw[h]
theorem kU(h:PS X st (tE (tBM X.K "list" wn (oG i) (tVA X.K f E)))):PS X st (tG X.K X.H₀ (rB i f) E):=h.imp λD P H y=>by
 obtain⟨B,bg,δ,β,o,A,ok,e,q⟩:=y;unfold rB at e;split at e
 ·rename_i cs u
  obtain⟨v,l,a,ys,rfl,F,I,Q⟩:=ok.tell i _ (getD_some u);refine⟨_,l,.inl ⟨rfl,ys,SqL.of I⟩,FxB B bg,vw δ,β,ok.fr,ok.view,?_⟩;split at e
  ·rename_i d β1 m
   split at e
   ·rename_i J
    cases e;refine⟨.ok [d],_,m,λvs w t hd=>?_⟩;obtain⟨b,n⟩:=ok.to rfl t;obtain⟨v,rfl,L⟩:=DenL.one hd;obtain⟨R,c,T,g,p,N,j,k⟩:=b.tell i _ (getD_some u);rw[l]at c;cases c;cases p;refine⟨a,g,v,rfl,rfl,j,by rw[←k.length];exact J,?_⟩;obtain⟨r,O⟩:=b.writeOwn (ds:=cs++[d]) (xs:=g++[v]) l F j (DenL.append k (DenL.cons L DenL.nil));exact q _ _ _ (n.trans O) r
   ·cases e
  ·rename_i C β1 m
   cases e;refine⟨.error C,_,m,λw t=>?_⟩;obtain⟨b,n⟩:=ok.to rfl t;exact q _ B w n b
  ·cases e
 ·cases e
noncomputable def fz(i:Nat)(δ:Ds):Ds:=match δ.getD i Pb with
 |some (.own ds)=>δ.set i (on (.sh (.lst ds)))
 |some (.grd rows)=>δ.set i (on (.sh (.lst (rows.map D.lst))))
 |_=>δ
theorem SOk.freeze(i:Nat)(ok:SOk K H₀ B bg H δ β σ):∃U,SOk K H₀ U bg H (fz i δ) β σ/\Stp B H U H:=by
 unfold fz;split
 ·rename_i ds L
  obtain⟨v,N,a,ys,O,t,P,Y⟩:=ok.tell i _ (getD_some L);have g:Stp B H (λc=>if c=a then Pb else B c) H:=by
   refine⟨λ_ _ h _=>h,λc hc=>?_,λc o h n=>?_,λ_ h=>h⟩
   ·have:c≠a:=λz=>by subst z;rw[t]at hc;rcases hc with hc|hc<;>cases hc
    simp only[Po this]
   ·by_cases z:c=a
    ·simp only[Ps z]
    ·simp only[Po z];exact n
  have tr:Tr (FxB B bg) H (FxB (λc=>if c=a then Pb else B c) bg) H:=g.tr;have F:∀b l,bg=on (b,l)->b≠a/\l≠a:=λb l e=>by
   obtain⟨b1,b2⟩:=ok.bgt b l e;exact⟨λz=>(by subst z;rw[t]at b1;cases b1),λz=>(by subst z;rw[t]at b2;cases b2)⟩
  refine⟨λc=>if c=a then Pb else B c,⟨⟨λc hc=>ok.fr.occ c ?_,λb l e=>?_,ok.fr.bag⟩,λb l e=>?_,by rw[Qs,ok.len],ok.cov,λc k hc=>(by
   have f:(if c=a then Pb else B c)=on (k+2):=hc;split at f
   ·cases f
   ·exact ok.new c k f),λc k hc=>(by
   have f:(if c=a then Pb else B c)=on (k+2):=hc;split at f
   ·cases f
   ·exact ok.lst c k f),λj s e=>?_⟩,g⟩
  ·have f:(if c=a then Pb else B c)≠Pb:=hc
   split at f
   ·exact P6 rfl f
   ·exact f
  ·obtain⟨u,w⟩:=F b l e
   obtain⟨b1,b2⟩:=ok.bgt b l e;refine⟨?_,?_,(ok.fr.bgA b l e).2.2⟩
   ·show(if b=a then Pb else B b)≠Pb
    rw[Po u,b1];simp
   ·show(if l=a then Pb else B l)≠Pb
    rw[Po w,b2];simp
  ·obtain⟨u,w⟩:=F b l e
   simp only[Po u,Po w];exact ok.bgt b l e
  ·rw[Qz]at e
   by_cases q:i=j
   ·subst q
    rw[Ps rfl]at e;split at e
    ·cases e
     refine⟨_,N,a,ys,O,⟨λz=>?_,.inl P⟩,DenL.tr tr _ _ Y⟩;have I:(if a=a then Pb else B a)≠Pb:=z;rw[Ps rfl]at I;exact I rfl
    ·cases e
   ·rw[Po q]at e
    obtain⟨Q,R,y⟩:=ok.tell j s e;refine⟨Q,R,?_⟩;cases s with
    |sh d=>exact Den.tr tr _ _ y
    |own cs=>
     obtain⟨c,J,d1,d2,d3,C⟩:=y;have m:c≠a:=λz=>by subst z;rw[t]at d2;cases d2;exact q rfl
     exact⟨c,J,d1,by simp only[Po m];exact d2,d3,DenL.tr tr _ _ C⟩
    |grd rows=>
     obtain⟨c,rs,d1,d2,d3,C,T⟩:=y;have m:∀c,B c=on (j+2)->c≠a:=λc d2 z=>by subst z;rw[t]at d2;cases d2;exact q rfl
     exact⟨c,rs,d1,by simp only[Po (m c d2)];exact d2,d3,C,RowL.tr tr T λr J _ p q=>⟨by simp only[Po (m r p)];exact p,q⟩⟩
 ·rename_i rows L
  classical
  obtain⟨v,N,a,rs,O,t,P,nd,W⟩:=ok.tell i _ (getD_some L);have own:∀c,c=a\/c∈rs->B c=on (i+2):=λc hc=>by
   rcases hc with rfl|hc
   ·exact t
   ·exact(W.all c hc).1
  have g:Stp B H (λc=>if c=a\/c∈rs then Pb else B c) H:=by
   refine⟨λ_ _ h _=>h,λc hc=>?_,λc o h n=>?_,λ_ h=>h⟩
   ·have:¬(c=a\/c∈rs):=λz=>by rw[own c z]at hc;rcases hc with hc|hc<;>cases hc
    simp only[Po this]
   ·by_cases z:c=a\/c∈rs
    ·simp only[Ps z]
    ·simp only[Po z];exact n
  have tr:Tr (FxB B bg) H (FxB (λc=>if c=a\/c∈rs then Pb else B c) bg) H:=g.tr;have F:∀b l,bg=on (b,l)->¬(b=a\/b∈rs)/\¬(l=a\/l∈rs):=λb l e=>by
   obtain⟨b1,b2⟩:=ok.bgt b l e;exact⟨λz=>(by rw[own b z]at b1;cases b1),λz=>(by rw[own l z]at b2;cases b2)⟩
  have free:∀c,c=a\/c∈rs->¬(FxB (λc=>if c=a\/c∈rs then Pb else B c) bg).A c:=λc hc z=>by
   have I:(if c=a\/c∈rs then Pb else B c)≠Pb:=z;rw[Ps hc]at I;exact I rfl
  refine⟨λc=>if c=a\/c∈rs then Pb else B c,⟨⟨λc hc=>ok.fr.occ c ?_,λb l e=>?_,ok.fr.bag⟩,λb l e=>?_,by rw[Qs,ok.len],ok.cov,λc k hc=>(by
   have f:(if c=a\/c∈rs then Pb else B c)=on (k+2):=hc;split at f
   ·cases f
   ·exact ok.new c k f),λc k hc=>(by
   have f:(if c=a\/c∈rs then Pb else B c)=on (k+2):=hc;split at f
   ·cases f
   ·exact ok.lst c k f),λj s e=>?_⟩,g⟩
  ·have f:(if c=a\/c∈rs then Pb else B c)≠Pb:=hc
   split at f
   ·exact P6 rfl f
   ·exact f
  ·obtain⟨u,w⟩:=F b l e
   obtain⟨b1,b2⟩:=ok.bgt b l e;refine⟨?_,?_,(ok.fr.bgA b l e).2.2⟩
   ·show(if b=a\/b∈rs then Pb else B b)≠Pb
    rw[Po u,b1];simp
   ·show(if l=a\/l∈rs then Pb else B l)≠Pb
    rw[Po w,b2];simp
  ·obtain⟨u,w⟩:=F b l e
   simp only[Po u,Po w];exact ok.bgt b l e
  ·rw[Qz]at e
   by_cases q:i=j
   ·subst q
    rw[Ps rfl]at e;split at e
    ·cases e
     exact⟨_,N,a,_,O,⟨free a (.inl rfl),.inl P⟩,RowL.den tr W λr Z _=>free r (.inr Z)⟩
    ·cases e
   ·rw[Po q]at e
    obtain⟨Q,R,y⟩:=ok.tell j s e;refine⟨Q,R,?_⟩;have m:∀c,B c=on (j+2)->¬(c=a\/c∈rs):=λc d2 z=>by rw[own c z]at d2;cases d2;exact q rfl
    cases s with
    |sh d=>exact Den.tr tr _ _ y
    |own cs=>
     obtain⟨c,J,d1,d2,d3,C⟩:=y;exact⟨c,J,d1,by simp only[Po (m c d2)];exact d2,d3,DenL.tr tr _ _ C⟩
    |grd rows2=>
     obtain⟨c,qs,d1,d2,d3,C,T⟩:=y;exact⟨c,qs,d1,by simp only[Po (m c d2)];exact d2,d3,C,RowL.tr tr T λr J _ p q=>⟨by simp only[Po (m r p)];exact p,q⟩⟩
 ·exact⟨B,ok,Stp.refl B H⟩
noncomputable def fzG(i:Nat)(g:G):G:=λδ β=>g (fz i δ) β
theorem CJ(i:Nat)(h:PSs X sts (tG X.K X.H₀ g E)):PSs X sts (tG X.K X.H₀ (fzG i g) E):=h.imp λD f H c=>by
 obtain⟨B,bg,δ,β,o,a,ok,e,q⟩:=c;obtain⟨d,b,s⟩:=ok.freeze i;exact⟨d,bg,fz i δ,β,o,a,b,e,gO.pre s q⟩
noncomputable def stD(n:Nat)(ds:List D):Ds:=ds.map (λd=>on (Sl.sh d))++PR (n-ds.length) Pb
def dj(n:Nat)(g:G):List D->M D:=λds β=>match g (stD n ds) β with
 |some (.rt d,β')=>on (.ok d,β')
 |some (.nx _,β')=>on (.ok .non,β')
 |some (.ex C _,β')=>on (.error C,β')
 |_=>Pb
theorem uu{F:Fx}{N:List Qn}(fr:Fr F H β)(hd:DenL K F H ds vs):∃B,SOk K H B F.bg H (stD N.length ds) β (fU N vs)/\(∀a,F.A a->B a=on 0\/B a=on 1)/\(∀a,B a=on 1->∃b l,F.bg=on (b,l)/\(a=b\/a=l))/\(∀a,B a≠Pb->F.A a):=by
 classical
 refine⟨λa=>if F.A a then(if ∃b l,F.bg=on (b,l)/\(a=b\/a=l)then on 1 else on 0)else Pb,⟨⟨λa ha=>fr.occ a ?_,λb l e=>?_,fr.bag⟩,λb l e=>?_,?_,λ_ h=>h,λc k m=>(by
  have f:(if F.A c then(if ∃b l,F.bg=on (b,l)/\(c=b\/c=l)then on 1 else on 0)else Pb)=on (k+2):=m;split at f
  ·split at f<;>cases f
  ·cases f),λc k m=>(by
  have f:(if F.A c then(if ∃b l,F.bg=on (b,l)/\(c=b\/c=l)then on 1 else on 0)else Pb)=on (k+2):=m;split at f
  ·split at f<;>cases f
  ·cases f),λi s e=>?_⟩,λa ha=>?_,λa ha=>?_,λa ha=>?_⟩
 ·have g:(if F.A a then(if ∃b l,F.bg=on (b,l)/\(a=b\/a=l)then on 1 else on 0)else Pb)≠(Pb:Option Nat):=ha
  split at g
  ·assumption
  ·exact P6 rfl g
 ·obtain⟨a1,a2,a3⟩:=fr.bgA b l e
  refine⟨?_,?_,a3⟩
  ·show(if F.A b then(if ∃j l,F.bg=on (j,l)/\(b=j\/b=l)then on 1 else on 0)else Pb)≠(Pb:Option Nat)
   rw[Ps a1];split<;>simp
  ·show(if F.A l then(if ∃j p,F.bg=on (j,p)/\(l=j\/l=p)then on 1 else on 0)else Pb)≠(Pb:Option Nat)
   rw[Ps a2];split<;>simp
 ·obtain⟨a1,a2,a3⟩:=fr.bgA b l e
  exact⟨by rw[Ps a1,Ps ⟨b,l,e,.inl rfl⟩],by rw[Ps a2,Ps ⟨b,l,e,.inr rfl⟩]⟩
 ·unfold stD fU
  rw[PM,PM,Pa,Pa,Q1,Q1,hd.length]
 ·unfold stD at e
  unfold fU;rw[Vt,Pa]at e;rw[Vt,Pa,←hd.length];by_cases n:i<ds.length
  ·rw[Ps n,Pi]at e
   rw[Ps n,Pi];cases z:ds[i]? with
   |none=>rw[z]at e;cases e
   |some d=>
    rw[z]at e;cases e;obtain⟨v,r,t⟩:=hd.get z;refine⟨v,by rw[r];rfl,?_⟩;have o:Tr F H (FxB (λa=>if F.A a then(if ∃b l,F.bg=on (b,l)/\(a=b\/a=l)then on 1 else on 0)else Pb) F.bg) H:=by
     refine⟨λa ha _ u=>?_,λ_ _ _ h=>h,rfl⟩;have q:(if F.A a then(if ∃b l,F.bg=on (b,l)/\(a=b\/a=l)then on 1 else on 0)else Pb)≠(Pb:Option Nat):=u;rw[Po ha]at q;exact q rfl
    exact Den.tr o _ _ t
  ·rw[Po n,RY]at e
   split at e<;>cases e
 ·simp only[Ps ha]
  split
  ·exact .inr rfl
  ·exact .inl rfl
 ·simp only at ha
  split at ha
  ·split at ha
   ·assumption
   ·cases ha
  ·cases ha
 ·simp only at ha
  split at ha
  ·assumption
  ·exact P6 rfl ha
variable{P:Qf}{w:Qq}{mg:Qn->Option Pl}{base:QW}
theorem KU{st:QU}{N ps:List Qn}(F:FunD K x qual st f fd)(S:FnScope N ps (ah st))
  (y:∀(j:Pl) (A:QP) (outer:List Wr) (s:Pr) (H:Hp) (E:XK),Room k (A.deeper (T7 qual (ah st) s.heap.objs.size f j))->
   PSs (f8 (CXE P w) P w K mg base N qual (ah st) f j A outer s H E) (cR st) (tG K H g (λ_=>E))):FnOk P w K mg base (CXE P w) (k+1) f fd ps (spF K ps.length (dj N.length g)):=by
 refine F.okE S (λvs H Q E h=>h.1) λj A outer s H vs Q E Y h=>?_;obtain⟨hl,p,ds,β,fr,hd,r,i,e,h⟩:=h;refine⟨_,y j A outer s H E Y,?_⟩;obtain⟨B,ok,T,Z,hn⟩:=uu (N:=N) fr hd;have I:∀{u:Ow} {c:Hp},Stp B H u c->Fr (FxB u p.bg) c i->To p H c i/\Tr (FxB u p.bg) c p c:=λ{u c} s m=>by
  have hs:∀a,p.A a->u a≠Pb:=λa ha=>by
   rw[s.tg a (T a ha)];rcases T a ha with z|z<;>rw[z]<;>simp
  refine⟨⟨λa o ha n=>s.kp a o ha ?_,λa ha=>m.occ a (hs a ha),λb l e=>fr.bgA b l e,m.bag⟩,λa ha _ z=>ha (hs a z),λ_ _ _ h=>h,rfl⟩;cases q:B a with
  |none=>exact .inl rfl
  |some t=>
   have:=T a (hn a (by rw[q];simp));rcases this with z|z
   ·rw[q]at z;exact .inr z
   ·obtain⟨b,l,e,w⟩:=Z a z
    obtain⟨n1,n2⟩:=n b l e;rcases w with w|w
    ·exact P6 w n1
    ·exact P6 w n2
 unfold dj at e;split at e
 ·rename_i d β1 O
  cases e;refine⟨B,p.bg,stD N.length ds,β,.rt d,i,ok,O,λv u c s m hv=>?_⟩;obtain⟨R,U⟩:=I s m;exact h v c R (Den.tr U _ _ hv)
 ·rename_i J β1 O
  cases e;refine⟨B,p.bg,stD N.length ds,β,.nx J,i,ok,O,λW u c s L=>?_⟩;obtain⟨R,U⟩:=I s L.fr;exact h _ c R rfl
 ·rename_i C J β1 O
  cases e;refine⟨B,p.bg,stD N.length ds,β,.ex C J,i,ok,O,λW u c s L=>?_⟩;obtain⟨R,U⟩:=I s L.fr;exact h c R
 ·cases e
variable{prog:Qf}{A:QP}
theorem O4(l:A.handled=Pb)(it t:Pk)(ne:t≠it)(b:Array Pl):WR prog w A it [it,t] b.size (λi v=>b[i]?=on v) (λi h=>h.IsTupleIter it t i/\h.IsTuple t b) where
 live:=λ_ _ st=>let ⟨o,e,_⟩:=st.1;⟨o,e⟩
 frame:=λ_ _ _ st k=>⟨st.1.at λo e=>k it (by simp) o e,by
  obtain⟨o,e,r⟩:=st.2;exact⟨o,k t (by simp) o e,r⟩⟩
 item:=λi s Q E p st q=>by
  obtain⟨o,d,co,c⟩:=id st.1;obtain⟨n,f,_,nt,g⟩:=st.2;have j:b[i]?=on b[i]:=by simp[p]
  unfold Ry;refine My (wpAny_callSpecial?_slot (name:=RX "__next__") st.1.typeIs Tc (QB Tc st.1.typeIs WS ?_ (WJ _)));show PN _ _ (Yx (.ref it) 0>>=_) _ _ _;refine My (Q9 d c (x:= .ref t) rfl ?_);show PN _ _ (if(P4 t==QL)=Pe then _ else _) _ _ _;rw[Po (show ¬((P4 t==QL)=Pe)from Pw)];show PN _ _ (Yx (.ref it) 1>>=_) _ _ _;refine My (Q9 d c (x:= .int i 0) rfl ?_);show PN _ _ (seqItems? (.ref t)>>=_) _ _ _;refine My (Rz f g ?_);simp only[Q7,j];refine My (Uc d c (by simp) (Pc ⟨b[i],rfl,Pc (q _ _ s.toks j ⟨?_,?_⟩ (Rf ..))⟩))
  ·exact⟨_,SV _ d (Vq (RU c _)),(V3 ..).trans co,by rw[RU c];simp[Ub]⟩
  ·exact⟨n,(Rf ..).extBut _ _ ne f,by assumption,nt,g⟩
 done:=λs Q E st u=>by
  obtain⟨o,d,co,c⟩:=id st.1;obtain⟨n,f,_,nt,g⟩:=st.2;have j:b[b.size]?=Pb:=by simp
  unfold Ry;refine My (wpAny_callSpecial?_slot (name:=RX "__next__") st.1.typeIs Tc (QB Tc st.1.typeIs WS ?_ (WJ _)));show PN _ _ (Yx (.ref it) 0>>=_) _ _ _;refine My (Q9 d c (x:= .ref t) rfl ?_);show PN _ _ (if(P4 t==QL)=Pe then _ else _) _ _ _;rw[Po (show ¬((P4 t==QL)=Pe)from Pw)];show PN _ _ (Yx (.ref it) 1>>=_) _ _ _;refine My (Q9 d c (x:= .int b.size 0) rfl ?_);show PN _ _ (seqItems? (.ref t)>>=_) _ _ _;refine My (Rz f g ?_);simp only[Q7,j];refine My (Tl (My (Uc d c (by simp) ?_)));show PN _ _ (YM (.type "StopIteration") []>>=_) _ _ _;refine My ?_;simp only[YM,newTuple];refine My (Q0 ?_ (by size_fits));refine My (m:=T8 _ _) (Tk (a:=QL) (by first|rfl|(simp only[T8];rfl)) ?_);refine Q0 ?_ (by size_fits)
  simp only[raiseNew];refine My (Yd ?_)
  first|rw[show A.in1.handled=Pb from l]|rw[l];skip
  refine My (Pc (wpAny_throw ?_));exact u _ _ (((Rf ..).extBut.push _).push _) ⟨_,PP _ rfl,rfl⟩
structure Ap (z TI TO i1 i2:Pk) (f1 f2:List Pk):Prop where
 a1:TI≠z
 a2:TO≠z
 a3:i1≠z
 a4:i2≠z
 a5:TI≠TO
 a6:TI≠i1
 a7:TI≠i2
 a8:TO≠i1
 a9:TO≠i2
 b1:i1≠i2
 c1:z∉f1
 c2:TO∉f1
 c3:i2∉f1
 d1:z∉f2
 d2:TO∉f2
 d3:i1∉f2
 m1:i1∈f1
 m2:i2∈f2
end
section
variable{prog:Qf}{w:Qq}{A:QP}{E:Pl->Pr->Prop}{s:Pr}
theorem cB{it:Pk}{f:List Pk}{h h':QW}(a:Qg it h h')(n:it∉f):∀b∈f,∀o,h.get? b=on o->h'.get? b=on o:=λb c o e=>a.extBut b o (λq=>n (q▸c)) e
theorem yr{z TI TO r t:Pk}{f1 f2:List Pk}{u B k:Nat}{P1 P2:Nat->Pl->Prop}{W X:Nat->QW->Prop}{a b:Pl}{Q:Pl->Pr->Prop}(L:WR prog w A r f1 u P1 W)(N:WR prog w A t f2 B P2 X)(d:Ap z TI TO r t f1 f2)
  (P:Vb s.heap z TI TO .none) (eI:SJ s.heap TI (.ref r) (.ref t)) (eO:SJ s.heap TO a b) (s1:W k s.heap) (s2:X k s.heap) (k1:k<u) (k2:k<B)
  (hQ:∀h' tk x y,P1 k x->P2 k y->Vb h' z TI TO (Ub s.heap.objs.size)->SJ h' TO x y->W (k+1) h'->X (k+1) h'->SJ h' s.heap.objs.size x y->h'.objs.size=s.heap.objs.size+1->(∀c o,c≠z->c≠TO->c≠r->c≠t->s.heap.get? c=on o->h'.get? c=on o)->Q (.ref s.heap.objs.size) {s with heap:=h',toks:=tk}):
  PN (Qc prog w) A (Builtin.«zip.__next__» ⟨[.ref z],[]⟩) (λZ s'=>∃v,Z= .done (.ret v)/\Q v s') E s:=by
 obtain⟨hp,gg,dd,tk0,os⟩:=s;show PN _ _ (Yx (.ref z) 2>>=_) _ _ _;refine My (Q9 P rfl (x:= .bool Pj) rfl ?_);show PN _ _ (Yx (.ref z) 3>>=_) _ _ _;refine My (Q9 P rfl (x:= .ref TI) rfl ?_);refine My (Rz eI rfl ?_);show PN _ _ (RG (.ref z)>>=_) _ _ _;refine My ?_;unfold RG;refine My (Q9 P rfl (x:= .none) rfl (Pc ?_));simp only[Qv];refine My (Tl ?_);refine My (Q9 P rfl (x:= .ref TO) rfl ?_);refine My (Ra P (by simp) λg1 C g=>?_)
 replace C:Vb g1 z TI TO .ellipsis:=C
 replace g:Qg z hp g1:=g
 refine My ?_;simp only[List.zipIdx_cons,List.zipIdx_nil,SO,S3];refine My (My (V7 ?_));show PN _ _ (Ry (.ref r)>>=_) _ _ _;refine My (L.item k _ _ _ k1 (L.frame _ _ _ s1 (cB g d.c1)) λx g2 tk2 px st2 h=>Pc ?_)
 replace h:Qg r g1 g2:=h
 have R:SJ g2 TO a b:=h.extBut _ _ d.a8 (g.extBut _ _ d.a2 eO);refine My (Rz R rfl ?_);refine My (VT R λg3 F i=>?_)
 replace F:SJ g3 TO x b:=F
 replace i:Qg TO g2 g3:=i
 refine My (W0 (Pc ?_));refine My (My (V7 ?_));show PN _ _ (Ry (.ref t)>>=_) _ _ _;refine My (N.item k _ _ _ k2 (N.frame _ _ _ (N.frame _ _ _ (N.frame _ _ _ s2 (cB g d.d1)) (cB h d.d3)) (cB i d.d2)) λy g4 tk4 py st4 j=>Pc ?_)
 replace j:Qg t g3 g4:=j
 have T:SJ g4 TO x b:=j.extBut _ _ d.a9 F;refine My (Rz T rfl ?_);refine My (VT T λf m l=>?_)
 replace m:SJ f TO x y:=m
 replace l:Qg TO g4 f:=l
 refine My (W0 (Pc (Pc ?_)));refine My (Rz m rfl ?_);refine My (XD ?_);have zs:f.objs.size=hp.objs.size:=by rw[l.1,j.1,i.1,h.1,g.1]
 have U:Vb f z TI TO .ellipsis:=l.extBut _ _ d.a2.symm (j.extBut _ _ d.a4.symm (i.extBut _ _ d.a2.symm (h.extBut _ _ d.a3.symm C)));have kp5:∀c o,c≠z->c≠TO->c≠r->c≠t->hp.get? c=on o->f.get? c=on o:=λc o u B n3 n4 e=>l.extBut _ _ B (j.extBut _ _ n4 (i.extBut _ _ B (h.extBut _ _ n3 (g.extBut _ _ u e))));have st1:W (k+1) f:=L.frame _ _ _ (L.frame _ _ _ (L.frame _ _ _ st2 (cB i d.c2)) (cB j d.c3)) (cB l d.c2);have st5:X (k+1) f:=N.frame _ _ _ st4 (cB l d.d2);have zl:z<f.objs.size:=Qa U;show PN _ _ (Uz (.ref z) (.ref f.objs.size)>>=_) _ _ _;refine My ?_;unfold Uz;have ez6:Vb (f.push {cls:= .type "tuple",data:= .seq #[x,y]}) z TI TO .ellipsis:=Ph _ U;refine My (Ra ez6 (by simp) λg7 H I=>?_)
 replace H:Vb g7 z TI TO (Ub f.objs.size):=H
 refine Ra H (by simp) λO p J=>?_
 replace p:Vb O z TI TO (Ub f.objs.size):=p
 have Y:∀c o,c≠z->f.get? c=on o->O.get? c=on o:=λc o n e=>J.extBut _ _ n (I.extBut _ _ n (Ph _ e));have eT:SJ O f.objs.size x y:=J.extBut _ _ (SL zl) (I.extBut _ _ (SL zl) (PP _ rfl));have z8:O.objs.size=f.objs.size+1:=by rw[J.1,I.1,Rg]
 rw[zs]at p eT z8;refine Pc ⟨_,rfl,?_⟩;show Q (.ref f.objs.size) ⟨O,gg,dd,_,os⟩;rw[zs];exact hQ O _ x y px py p (Y _ _ d.a2 m) (L.frame _ _ _ st1 λb hb o e=>Y b o (λq=>d.c1 (q▸hb)) e) (N.frame _ _ _ st5 λb hb o e=>Y b o (λq=>d.d1 (q▸hb)) e) eT z8 λc o u B n3 n4 e=>Y c o u (kp5 c o u B n3 n4 e)
theorem BN{z TI TO n r:Pk}{f1 f2:List Pk}(H:WR prog w A n f1 m P1 S1)(I:WR prog w A r f2 T P2 S2)(i:Ap z TI TO n r f1 f2)
  (u:Vb s.heap z TI TO .none) (Y:SJ s.heap TI (.ref n) (.ref r)) (Z:SJ s.heap TO a b) (U:S1 k s.heap) (s2:S2 k s.heap) (N:k=m\/(k<m/\k=T))
  (W:∀h' e tk,(∀c o,c≠z->c≠TO->c≠n->c≠r->s.heap.get? c=on o->h'.get? c=on o)->(∃o,h'.get? e=on o/\o.cls= .type "StopIteration")->E (.ref e) {s with heap:=h',toks:=tk}):
  PN (Qc prog w) A (Builtin.«zip.__next__» ⟨[.ref z],[]⟩) Q E s:=by
 obtain⟨hp,gg,dd,tk0,os⟩:=s;show PN _ _ (Yx (.ref z) 2>>=_) _ _ _;refine My (Q9 u rfl (x:= .bool Pj) rfl ?_);show PN _ _ (Yx (.ref z) 3>>=_) _ _ _;refine My (Q9 u rfl (x:= .ref TI) rfl ?_);refine My (Rz Y rfl ?_);show PN _ _ (RG (.ref z)>>=_) _ _ _;refine My ?_;unfold RG;refine My (Q9 u rfl (x:= .none) rfl (Pc ?_));simp only[Qv];refine My (Tl ?_);refine My (Q9 u rfl (x:= .ref TO) rfl ?_);refine My (Ra u (by simp) λJ j f=>?_)
 replace j:Vb J z TI TO .ellipsis:=j
 replace f:Qg z hp J:=f
 refine My ?_;simp only[List.zipIdx_cons,List.zipIdx_nil,SO,S3];refine My (My (V7 ?_));show PN _ _ (Ry (.ref n)>>=_) _ _ _;rcases N with rfl|⟨N,rfl⟩
 ·refine My (H.done _ _ _ (H.frame _ _ _ U (cB f i.c1)) λt e d O=>?_)
  replace d:V9 n J t:=d
  obtain⟨P,h,v⟩:=O;have y:Vb t z TI TO .ellipsis:=d _ _ i.a3.symm j;have p:e≠z:=λq=>by subst q;rw[y]at h;cases h;simp at v
  exact Ra y (by simp) λL _ g=>W L e _ (λc o m _ R _ q=>g.extBut _ _ m (d _ _ R (f.extBut _ _ m q))) ⟨P,g.extBut _ _ p h,v⟩
 ·refine My (H.item k _ _ _ N (H.frame _ _ _ U (cB f i.c1)) λx t tk2 px st2 d=>Pc ?_)
  replace d:Qg n J t:=d
  have B:SJ t TO a b:=d.extBut _ _ i.a8 (f.extBut _ _ i.a2 Z);refine My (Rz B rfl ?_);refine My (VT B λL eO3 g=>?_)
  replace g:Qg TO t L:=g
  refine My (W0 (Pc ?_));refine My (My (V7 ?_));show PN _ _ (Ry (.ref r)>>=_) _ _ _;refine My (I.done _ _ _ (I.frame _ _ _ (I.frame _ _ _ (I.frame _ _ _ s2 (cB f i.d1)) (cB d i.d3)) (cB g i.d2)) λX e l O=>?_)
  replace l:V9 r L X:=l
  obtain⟨P,h,v⟩:=O;have C:Vb X z TI TO .ellipsis:=l _ _ i.a4.symm (g.extBut _ _ i.a2.symm (d.extBut _ _ i.a3.symm j));have p:e≠z:=λq=>by subst q;rw[C]at h;cases h;simp at v
  exact Ra C (by simp) λg5 _ F=>W g5 e _ (λc o m T R n4 q=>F.extBut _ _ m (l _ _ n4 (g.extBut _ _ T (d.extBut _ _ R (f.extBut _ _ m q))))) ⟨P,F.extBut _ _ p h,v⟩
theorem yq{z TI TO e f:Pk}{f1 f2:List Pk}(i:∀d:QP,d.handled=A.handled->WR prog w d e f1 n1 P1 S1)(j:∀d:QP,d.handled=A.handled->WR prog w d f f2 n2 P2 S2)(l:Ap z TI TO e f f1 f2)
  (h:Vb s.heap z TI TO .none) (m:SJ s.heap TI (.ref e) (.ref f)) (n:SJ s.heap TO a b) (p:S1 k s.heap) (q:S2 k s.heap) (r:k<n1) (t:k<n2)
  (u:∀h' g x y,P1 k x->P2 k y->Vb h' z TI TO (Ub s.heap.objs.size)->SJ h' TO x y->S1 (k+1) h'->S2 (k+1) h'->SJ h' s.heap.objs.size x y->h'.objs.size=s.heap.objs.size+1->(∀c o,c≠z->c≠TO->c≠e->c≠f->s.heap.get? c=on o->h'.get? c=on o)->Q (on (.ref s.heap.objs.size)) {s with heap:=h',toks:=g}):
  PN (Qc prog w) A (Ua (.ref z)) Q E s:=by
 have ty:s.TypeIs (.ref z) "zip":=⟨_,h,rfl⟩;unfold Ua;exact My (Uw (wpAny_callSpecial?_slot (name:=RX "__next__") ty Vs (QB Vs ty F.entry_zip_next (yr (i _ rfl) (j _ rfl) l h m n p q r t λh' g x y a1 a2 a3 a4 a5 a6 a7 a8 a9=>Pc (u h' g x y a1 a2 a3 a4 a5 a6 a7 a8 a9)) (F.args_zip_next_1 _))))
theorem BM{z TI TO f g:Pk}{f1 f2:List Pk}(j:∀d:QP,d.handled=A.handled->WR prog w d f f1 n1 P1 S1)(l:∀d:QP,d.handled=A.handled->WR prog w d g f2 n2 P2 S2)(m:Ap z TI TO f g f1 f2)
  (h:Vb s.heap z TI TO .none) (n:SJ s.heap TI (.ref f) (.ref g)) (p:SJ s.heap TO a b) (q:S1 k s.heap) (r:S2 k s.heap) (t:k=n1\/(k<n1/\k=n2))
  (u:∀h' i,(∀c o,c≠z->c≠TO->c≠f->c≠g->s.heap.get? c=on o->h'.get? c=on o)->Q Pb {s with heap:=h',toks:=i}):PN (Qc prog w) A (Ua (.ref z)) Q E s:=by
 have ty:s.TypeIs (.ref z) "zip":=⟨_,h,rfl⟩;unfold Ua;refine My (Uw (wpAny_callSpecial?_slot (name:=RX "__next__") ty Vs (QB Vs ty F.entry_zip_next (BN (j _ rfl) (l _ rfl) m h n p q r t λh' e i v y=>?_) (F.args_zip_next_1 _))));obtain⟨o,B,C⟩:=y;refine My (Sg (T:="StopIteration") (b:=Pe) ⟨o,B,C⟩ Xx ?_);exact Pc (u _ _ v)
def Src(b:Bool)(h:QW)(a:Pk)(its:Array Pl):Prop:=if b=Pe then h.IsList a its else h.IsTuple a its
noncomputable def IM(b:Bool):String:=if b=Pe then "list_iterator"else "tuple_iterator"
noncomputable abbrev qi(b:Bool)(a:Pk):Qb:={cls:= .type (IM b),data:= .fields #[.ref a,.int 0 0]}
def gv(b:Bool)(h:QW)(it a:Pk)(k:Nat):Prop:=if b=Pe then h.IsListIter it a k else h.IsTupleIter it a k
theorem Src.keep{b:Bool}{h h':QW}(x:Src b h a its)(k:∀o,h.get? a=on o->h'.get? a=on o):Src b h' a its:=by
 unfold Src at x⊢;split at x
 ·rename_i q;rw[Ps q];exact x.at λo e=>k o e
 ·rename_i q;rw[Po q]
  obtain⟨o,e,r⟩:=x;exact⟨o,k o e,r⟩
theorem pV{b:Bool}(x:Src b s.heap a its)(h:Q (.ref s.heap.objs.size) {s with heap:=s.heap.push (qi b a)}):PN (Qc prog w) A (VR (.ref a)) Q E s:=by
 cases b with
 |true=>exact Vg (show s.heap.IsList a its from x) h
 |false=>exact Wf (show s.heap.IsTuple a its from x) h
theorem ub(b:Bool)(c:A.handled=Pb)(it a:Pk)(ne:a≠it)(its:Array Pl):WR prog w A it [it,a] its.size (λi v=>its[i]?=on v) (λi h=>gv b h it a i/\Src b h a its):=by
 cases b with
 |true=>exact XU c it a ne its
 |false=>exact O4 c it a ne its
abbrev zH1(b1:Bool)(h:QW)(a:Pk):QW:=h.push (qi b1 a)
abbrev zH2(b1 b2:Bool)(h:QW)(a b:Pk):QW:=(zH1 b1 h a).push (qi b2 b)
abbrev zH3(b1 b2:Bool)(h:QW)(a b:Pk):QW:=(zH2 b1 b2 h a b).push {cls:= .type "tuple",data:= .seq #[.ref h.objs.size,.ref (zH1 b1 h a).objs.size]}
abbrev zH4(b1 b2:Bool)(h:QW)(a b:Pk):QW:=(zH3 b1 b2 h a b).push {cls:= .type "tuple",data:= .seq #[.none,.none]}
abbrev zH5(b1 b2:Bool)(h:QW)(a b:Pk):QW:=(zH4 b1 b2 h a b).push {cls:= .type "zip",data:= .fields #[.none,.bool Pj,.bool Pj,.ref (zH2 b1 b2 h a b).objs.size,.ref (zH3 b1 b2 h a b).objs.size]}
theorem xS(b1 b2:Bool)(a b:Pk)(xs ys:Array Pl):
  Meets (Builtin.«zip.__new__» ⟨[.type "zip",.ref a,.ref b],[]⟩) (λ_ R s=>Src b1 s.heap a xs/\Src b2 s.heap b ys/\R (.ok (.ret (.ref (zH4 b1 b2 s.heap a b).objs.size))) {s with heap:=zH5 b1 b2 s.heap a b}):=
 .of_wp λprog w A R s h=>by
  obtain⟨c,g,d,f,os⟩:=s;obtain⟨j,k,q⟩:=h;have i:=sub_zip;have l:Src b1 (Shared.heap ⟨c,g,d,f,os⟩) a xs:=j;have m:Src b2 (Shared.heap ⟨c.push (qi b1 a),g,d,f,os⟩) b ys:=k.keep λo e=>Ph _ e
  wp_walk using pV l,pV m
  exact⟨_,rfl,q⟩
theorem AW{b1 b2:Bool}(q:Src b1 s.heap l1 xs)(r:Src b2 s.heap l2 ys)
  (h:∀h',Vb h' (s.heap.objs.size+4) (s.heap.objs.size+2) (s.heap.objs.size+3) .none->SJ h' (s.heap.objs.size+2) (.ref s.heap.objs.size) (.ref (s.heap.objs.size+1))->SJ h' (s.heap.objs.size+3) .none .none->gv b1 h' s.heap.objs.size l1 0->gv b2 h' (s.heap.objs.size+1) l2 0->h'.objs.size=s.heap.objs.size+5->(∀c o,s.heap.get? c=on o->h'.get? c=on o)->Q (.ref (s.heap.objs.size+4)) {s with heap:=h'}):
  PN (Qc prog w) A (Wv (.type "zip") [.ref l1,.ref l2]) Q E s:=by
 refine callType_new F.called_zip (by decide) (F.typeCall_zip_2 _ _) (F.newCall_zip_2 _ _) (λobj=>F.args_object_init_3 obj _ _) F.entry_zip_new (xS b1 b2 l1 l2 xs ys) ⟨q,r,?_⟩;have f:(zH1 b1 s.heap l1).objs.size=s.heap.objs.size+1:=Rg ..;have g:(zH2 b1 b2 s.heap l1 l2).objs.size=s.heap.objs.size+2:=by rw[Rg,f]
 have i:(zH3 b1 b2 s.heap l1 l2).objs.size=s.heap.objs.size+3:=by rw[Rg,g]
 have j:(zH4 b1 b2 s.heap l1 l2).objs.size=s.heap.objs.size+4:=by rw[Rg,i]
 have t:(zH5 b1 b2 s.heap l1 l2).objs.size=s.heap.objs.size+5:=by rw[Rg,j]
 have k:(zH5 b1 b2 s.heap l1 l2).get? (zH4 b1 b2 s.heap l1 l2).objs.size=on _:=PP _ rfl;have l:(zH5 b1 b2 s.heap l1 l2).get? (zH3 b1 b2 s.heap l1 l2).objs.size=on _:=Ph _ (PP _ rfl);have m:(zH5 b1 b2 s.heap l1 l2).get? (zH2 b1 b2 s.heap l1 l2).objs.size=on _:=Ph _ (Ph _ (PP _ rfl));have n:(zH5 b1 b2 s.heap l1 l2).get? (zH1 b1 s.heap l1).objs.size=on _:=Ph _ (Ph _ (Ph _ (PP _ rfl)));have u:(zH5 b1 b2 s.heap l1 l2).get? s.heap.objs.size=on _:=Ph _ (Ph _ (Ph _ (Ph _ (PP _ rfl))));show _/\_;rw[g,i,j]at k;rw[f,g]at m;rw[i]at l;rw[f]at n;rw[j];have d:∀(b:Bool) (h':QW) (p a:Pk),h'.get? p=on (qi b a)->gv b h' p a 0:=λb h' p a e=>by
  cases b with
  |true=>exact⟨_,e,rfl,rfl⟩
  |false=>exact⟨_,e,rfl,rfl⟩
 exact⟨⟨_,k,rfl⟩,h _ k m l (d _ _ _ _ u) (d _ _ _ _ n) t λc o x=>Ph _ (Ph _ (Ph _ (Ph _ (Ph _ x))))⟩
def SqS(b:Bool)(K:PZ)(H:Hp)(a:Pk)(xs:List V):Prop:=if b=Pe then SqL K H a xs else SqT K H a xs
noncomputable def Itz(b1 b2:Bool)(K:PZ)(a b:Pk):It:=
 ⟨λi H=>∃xs ys x y,SqS b1 K H a xs/\SqS b2 K H b ys/\xs[i]?=on x/\ys[i]?=on y,
  λi H v c=>∃p x y,H p=Pb/\v= .ref p/\c=upd H p (.tup [x,y])/\∀xs ys,SqS b1 K H a xs->SqS b2 K H b ys->xs[i]?=on x/\ys[i]?=on y,
  λi H=>∃xs ys,SqS b1 K H a xs/\SqS b2 K H b ys/\(xs.length=i\/(i<xs.length/\ys.length=i))⟩
variable{X:Cx}{pins:List (Pk×Qb)}{σ:St}{H:Hp}
theorem Inv.src{b:Bool}(I:Inv X pins σ H s)(h:SqS b X.K H a xs):∃its:List Pl,ay xs its/\Src b s.heap a its.toArray:=by
 cases b with
 |true=>
  obtain⟨its,r,p,_⟩:=I.list (show SqL X.K H a xs from h);exact⟨its,r,p.isList⟩
 |false=>
  obtain⟨its,r,p,_⟩:=I.tuple (show SqT X.K H a xs from h);exact⟨its,r,p⟩
theorem Inv.src_inj{b:Bool}(I:Inv X pins σ H s)(h:SqS b X.K H a xs)(h':SqS b X.K H a ys):xs=ys:=by
 cases b with
 |true=>exact I.list_inj (show SqL X.K H a xs from h) h'
 |false=>exact I.tuple_inj (show SqT X.K H a xs from h) h'
theorem gv.get{b:Bool}{h:QW}(x:gv b h it a k):∃o,h.get? it=on o/\o.cls= .type (IM b)/\∃fs,o.data= .fields fs:=by
 cases b with
 |true=>obtain⟨o,e,c,d⟩:=(show h.IsListIter it a k from x);exact⟨o,e,c,_,d⟩
 |false=>obtain⟨o,e,c,d⟩:=(show h.IsTupleIter it a k from x);exact⟨o,e,c,_,d⟩
theorem gv.keep{b:Bool}{h h':QW}(x:gv b h it a k)(q:∀o,h.get? it=on o->h'.get? it=on o):gv b h' it a k:=by
 cases b with
 |true=>exact(show h.IsListIter it a k from x).at λo e=>q o e
 |false=>exact(show h.IsTupleIter it a k from x).at λo e=>q o e
theorem Inv.turnNew{h':QW}{t':Nat}{ch:List Pk}{p:Pk}{o:HO}(I:Inv X pins σ H s)(a:∀b∈ch,fK X pins H b)(k:∀b u,b∉ch->s.heap.get? b=on u->h'.get? b=on u)(d:s.heap.objs.size<=p)(new:bO X.prog X.w (upd H p o) h' p o):Inv X pins σ (upd H p o) {s with heap:=h',toks:=t'}:=by
 have hn:H p=Pb:=I.hok.fresh d;have nt:∀b u,H b=on u->b∉ch:=λb u e z=>by rw[(a b z).1]at e;cases e
 refine I.call' (s':={s with heap:=h',toks:=t'}) (ch:=ch) rfl ⟨λb u e _ _ hc=>k b u hc e,λb u e _ _ hc=>⟨u.slots,k b u hc e⟩,λb u e z hc=>?_,λb u e hc=>⟨u,k b u hc e⟩,λb ys e=>?_,λb u ys e=>?_,λb ys e=>⟨#[],?_⟩⟩ (λb u e=>?_) I.bare λb f=>?_
 ·rw[upd_ne (QE (P7 (Qa e) d))];exact z
 ·rw[upd_ne (aB e hn)];exact e
 ·rw[upd_ne (aB e hn)];exact e
 ·rw[upd_ne (aB e hn),e];simp
 ·by_cases z:b=p
  ·subst z;rw[ar]at e;cases e;exact new
  ·rw[upd_ne z]at e
   refine(I.hok b u e).stay (λc v hc q=>k c v ?_ q) (λc q=>by rw[upd_ne (aB q hn)];exact q) λc xs q=>by rw[upd_ne (aB q hn)];exact q
   rcases hc with rfl|hc
   ·exact nt _ _ e
   ·exact nt _ _ hc
 ·obtain⟨j,f1,f2,g,h,i⟩:=a b f
  exact⟨g,f1,h,i⟩
theorem Inv.turnL{h':QW}{ch:List Pk}(I:Inv X pins σ H s)(a:∀b∈ch,fK X pins H b)(k:∀b u,b∉ch->s.heap.get? b=on u->h'.get? b=on u):Inv X pins σ H {s with heap:=h',toks:=t'}:=by
 have nt:∀b u,H b=on u->b∉ch:=λb u e z=>by rw[(a b z).1]at e;cases e
 refine I.call' (s':={s with heap:=h',toks:=t'}) (ch:=ch) rfl ⟨λb u e _ _ hc=>k b u hc e,λb u e _ _ hc=>⟨u.slots,k b u hc e⟩,λb u e z hc=>z,λb u e hc=>⟨u,k b u hc e⟩,λb ys e=>e,λb u ys e=>e,λb ys e=>⟨#[],by rw[e];simp⟩⟩ (λb u e=>?_) I.bare λb d=>?_
 ·refine(I.hok b u e).stay (λc v hc q=>k c v ?_ q) (λc q=>q) λc xs q=>q
  rcases hc with rfl|hc
  ·exact nt _ _ e
  ·exact nt _ _ hc
 ·obtain⟨i,f1,f2,f,g,h⟩:=a b d
  exact⟨f,f1,g,h⟩
theorem Inv.src_ne{b:Bool}(I:Inv X pins σ H s)(h:SqS b X.K H a xs)(f:fK X pins H c):a≠c:=by
 obtain⟨i,f1,f2,f3,j,k⟩:=f;have d:∀o,X.K.lookup a=on o->a≠c:=λo e z=>by
  have g:=I.ok.mod.kin a o e;subst z;rcases f3 with f3|f3
  ·exact I.ok.noex a o g f3
  ·exact P6 (P7 (Qa (I.ok.bs a o g).1) f3) (QD _)
 have rd:∀u,Rd H a u->a≠c:=λu r z=>by
  subst z;rcases r with r|⟨_,r⟩<;>rw[i]at r<;>cases r
 cases b with
 |true=>
  rcases(show SqL X.K H a xs from h)with h|⟨o,_,_,e,_⟩
  ·exact rd _ h
  ·exact d o e
 |false=>
  rcases(show SqT X.K H a xs from h)with h|⟨o,_,_,e,_⟩
  ·exact rd _ h
  ·exact d o e
theorem BS{w:Qq}{K:PZ}{x1}(b1 b2:Bool)(C F z TI TO f g:Pk)(nd:[z,TI,TO,f,g].Nodup):
  Turn P w K (.Tuple elts x1 pos) (Itz b1 b2 K C F) [z,TI,TO,f,g] z (λi h=>Vb h z TI TO .none/\SJ h TI (.ref f) (.ref g)/\(∃a b,SJ h TO a b)/\gv b1 h f C i/\gv b2 h g F i) where
 mem:=by simp
 obj:=λi h st b j=>by
  obtain⟨p,r,⟨a,b',J⟩,L,N⟩:=st;simp only[PL,Q5,TY]at j;rcases j with rfl|rfl|rfl|rfl|rfl
  ·exact⟨_,p,λv q=>by cases q⟩
  ·exact⟨_,r,λv q=>by cases q⟩
  ·exact⟨_,J,λv q=>by cases q⟩
  ·obtain⟨o,e,_,fs,d⟩:=L.get
   exact⟨o,e,λv q=>by rw[d]at q;cases q⟩
  ·obtain⟨o,e,_,fs,d⟩:=N.get
   exact⟨o,e,λv q=>by rw[d]at q;cases q⟩
 keep:=λi h h' st k=>by
  obtain⟨p,r,⟨a,b',J⟩,L,N⟩:=st;exact⟨k z (by simp) _ p,k TI (by simp) _ r,⟨a,b',k TO (by simp) _ J⟩,L.keep λo e=>k f (by simp) o e,N.keep λo e=>k g (by simp) o e⟩
 item:=by
  intro X hP hw hK n i pins s σ H E I O st hg;subst hP hw hK;obtain⟨xs,ys,x,y,q1,q2,hx,hy⟩:=hg;obtain⟨p,r,⟨a,b',J⟩,L,N⟩:=st;obtain⟨l,r1,p1⟩:=Inv.src I q1;obtain⟨m,r2,p2⟩:=Inv.src I q2;have hd:=I.ok.hd n;simp only[Qu,PL,Q5,TY,not_or]at nd;obtain⟨⟨Y,z2,U,W⟩,⟨t1,t2,t3⟩,⟨Z,o2⟩,R,_⟩:=nd;have t:∀c∈[z,TI,TO,f,g],C≠c:=λc n=>Inv.src_ne I q1 (O c n);have B:∀c∈[z,TI,TO,f,g],F≠c:=λc n=>Inv.src_ne I q2 (O c n);have ap:Ap z TI TO f g [f,C] [g,F]:=⟨Ne.symm Y,Ne.symm z2,Ne.symm U,Ne.symm W,t1,t2,t3,Z,o2,R,by simp[U,(t z (by simp)).symm],by simp[Z,(t TO (by simp)).symm],by simp[Ne.symm R,(t g (by simp)).symm],by simp[W,(B z (by simp)).symm],by simp[o2,(B TO (by simp)).symm],by simp[R,(B f (by simp)).symm],by simp,by simp⟩;have k1:i<l.toArray.size:=by
   rw[PV,←r1.length];exact(Px.mp hx).1
  have k2:i<m.toArray.size:=by
   rw[PV,←r2.length];exact(Px.mp hy).1
  refine yq (λA' h'=>ub b1 (h'.trans hd) f C (t f (by simp)) l.toArray) (λA' h'=>ub b2 (h'.trans hd) g F (B g (by simp)) m.toArray) ap p r J ⟨L,p1⟩ ⟨N,p2⟩ k1 k2 λh' tk u v pu pv fz fO f1 f2 fT sz kp=>?_;refine⟨_,rfl,wpAny_letOwnedTupleGo_zip (s:={s with heap:=h',toks:=tk}) fz λT ez'' Q=>?_⟩
  replace Q:Qg z h' T:=Q
  have zT:s.heap.objs.size≠z:=SL (Qa p);obtain⟨u',hu,ru⟩:=r1.get hx;obtain⟨v',hv,rv⟩:=r2.get hy;have eu:u=u':=by
   have:l[i]?=on u:=by simpa using pu
   rw[this]at hu;exact Qd hu
  have ev:v=v':=by
   have:m[i]?=on v:=by simpa using pv
   rw[this]at hv;exact Qd hv
  subst eu ev;have kk:∀b o,b∉[z,TI,TO,f,g]->s.heap.get? b=on o->T.get? b=on o:=λb o j e=>by
   simp only[PL,Q5,TY,not_or]at j;exact Q.extBut b o j.1 (kp b o j.1 j.2.2.1 j.2.2.2.1 j.2.2.2.2 e)
  have I2:Inv X pins σ (upd H s.heap.objs.size (.tup [x,y])) {s with heap:=T,toks:=tk}:=by
   refine Inv.turnNew I O kk (Pt _) ⟨by show 2<=PQ;decide,[u,v],.cons ru (.cons rv .nil),_,Q.extBut _ _ zT fT,rfl,_,rfl⟩
  refine⟨.ref s.heap.objs.size,_,I2,rfl,⟨s.heap.objs.size,x,y,I.hok.fresh (Pt _),rfl,rfl,λas bs h1 h2=>⟨by rw[Inv.src_inj I h1 q1];exact hx,by rw[Inv.src_inj I h2 q2];exact hy⟩⟩,⟨ez'',?_,⟨u,v,?_⟩,?_,?_⟩,λb j=>?_⟩
  ·exact Q.extBut _ _ (Ne.symm Y) (kp TI _ (Ne.symm Y) t1 t2 t3 r)
  ·exact Q.extBut _ _ (Ne.symm z2) fO
  ·exact f1.1.keep λo e=>Q.extBut _ _ (Ne.symm U) e
  ·exact f2.1.keep λo e=>Q.extBut _ _ (Ne.symm W) e
  ·rw[upd_ne]
   ·exact(O b j).1
   ·intro q
    have ol:∃o,s.heap.get? b=on o:=by
     simp only[PL,Q5,TY]at j;rcases j with rfl|rfl|rfl|rfl|rfl
     ·exact⟨_,p⟩
     ·exact⟨_,r⟩
     ·exact⟨_,J⟩
     ·obtain⟨o,e,_⟩:=L.get;exact⟨o,e⟩
     ·obtain⟨o,e,_⟩:=N.get;exact⟨o,e⟩
    obtain⟨o,e⟩:=ol;exact P6 (Qa e) (by rw[q];exact QD _)
 done:=by
  intro X hP hw hK n i pins s σ H E I O st hg;subst hP hw hK;obtain⟨xs,ys,q1,q2,hl⟩:=hg;obtain⟨p,r,⟨a,b',J⟩,L,N⟩:=st;obtain⟨l,r1,p1⟩:=Inv.src I q1;obtain⟨m,r2,p2⟩:=Inv.src I q2;have hd:=I.ok.hd n;simp only[Qu,PL,Q5,TY,not_or]at nd;obtain⟨⟨Y,z2,U,W⟩,⟨t1,t2,t3⟩,⟨Z,o2⟩,R,_⟩:=nd;have t:∀c∈[z,TI,TO,f,g],C≠c:=λc n=>Inv.src_ne I q1 (O c n);have B:∀c∈[z,TI,TO,f,g],F≠c:=λc n=>Inv.src_ne I q2 (O c n);have ap:Ap z TI TO f g [f,C] [g,F]:=⟨Ne.symm Y,Ne.symm z2,Ne.symm U,Ne.symm W,t1,t2,t3,Z,o2,R,by simp[U,(t z (by simp)).symm],by simp[Z,(t TO (by simp)).symm],by simp[Ne.symm R,(t g (by simp)).symm],by simp[W,(B z (by simp)).symm],by simp[o2,(B TO (by simp)).symm],by simp[R,(B f (by simp)).symm],by simp,by simp⟩;have g1:l.toArray.size=xs.length:=by rw[PV,←r1.length]
  have g2:m.toArray.size=ys.length:=by rw[PV,←r2.length]
  refine BM (λA' h'=>ub b1 (h'.trans hd) f C (t f (by simp)) l.toArray) (λA' h'=>ub b2 (h'.trans hd) g F (B g (by simp)) m.toArray) ap p r J ⟨L,p1⟩ ⟨N,p2⟩ ?_ λh' tk kp=>⟨rfl,Inv.turnL I O λb o j e=>?_⟩
  ·rw[g1,g2]
   rcases hl with hl|⟨h1,h2⟩
   ·exact .inl hl.symm
   ·exact .inr ⟨h1,h2.symm⟩
  ·simp only[PL,Q5,TY,not_or]at j
   exact kp b o j.1 j.2.2.1 j.2.2.2.1 j.2.2.2.2 e
 self:=λ_ _ _ _ _ st h=>wpAny_pyIter_zip st.1 h
end
section
variable{X:Cx}{E:St->XK}{K:PZ}
def iZp(K:PZ)(d:TA):TI:=λe H R=>d e H λvs a=>∃b1 b2 b c xs ys,vs=[.ref b,.ref c]/\SqS b1 K a b xs/\SqS b2 K a c ys/\R (Itz b1 b2 K b c) a
theorem LS{x1}(y:Gl X "zip")(hm:X.mg "zip"=Pb)(ha:PA X [a,b] ta)(hs:PH [a,b] X.env=[(Pj,QS a X.env),(Pj,QS b X.env)]:=by rfl)(g:PH [b] X.env=[(Pj,QS b X.env)]:=by rfl):
  PI X (.Tuple elts x1 tpos) (.Call (.Name "zip" p) [a,b] [] pos) (iZp X.K ta):=by
 intro f s n H R I h;refine Call_ (gj I y hm PyProof.Rows.Boot.«zip» (Q8 (thn (ha pos f s n H _ I h) λus d ⟨vs,o,i,r1,q1⟩=>?_) (by rw[hs,g]) (by rw[g];rfl)));obtain⟨b1,b2,t,u,xs,ys,e,q1,q2,q⟩:=q1;subst e;cases r1 with
 |cons r k=>
  cases k with
  |cons A k=>
   cases k;cases r;cases A;obtain⟨B,P,C⟩:=Inv.src i q1;obtain⟨F,Q,J⟩:=Inv.src i q2;refine AW C J λh' v L N l m sz kp=>?_;refine wpAny_pyIter_zip (s:={d with heap:=h'}) v ?_;have O:Inv X f n o {d with heap:=h'}:=i.kept (t':=d.toks) kp;refine⟨_,[d.heap.objs.size+4,d.heap.objs.size+2,d.heap.objs.size+3,d.heap.objs.size,d.heap.objs.size+1],_,Itz b1 b2 X.K t u,o,rfl,O,BS b1 b2 t u (d.heap.objs.size+4) (d.heap.objs.size+2) (d.heap.objs.size+3) d.heap.objs.size (d.heap.objs.size+1) (by simp),⟨v,L,⟨_,_,N⟩,l,m⟩,λc w=>?_,q⟩;have j:d.heap.objs.size<=c:=by
    simp only[PL,Q5,TY]at w;rcases w with rfl|rfl|rfl|rfl|rfl
    ·exact SD _ _
    ·exact SD _ _
    ·exact SD _ _
    ·exact Pt _
    ·exact SD _ _
   exact i.fpOk j (i.hok.fresh j)
noncomputable def dN:List D->List D->List D
 |x::xs,y::ys=> .tup [x,y]::dN xs ys
 |_,_=>[]
theorem ug:∀(xs ys:List D),(dN xs ys).length=SX xs.length ys.length
 |[],ys=>by simp[dN]
 |x::xs,[]=>by simp[dN]
 |x::xs,y::ys=>by
  show(dN xs ys).length+1=_;rw[ug xs ys,Pz,Pz];omega
theorem uh:∀{xs ys:List D} {i:Nat} {d:D},(dN xs ys)[i]?=on d->∃x y,xs[i]?=on x/\ys[i]?=on y/\d= .tup [x,y]
 |[],ys,i,d,h=>by simp[dN]at h
 |x::xs,[],i,d,h=>by simp[dN]at h
 |x::xs,y::ys,0,d,h=>by
  simp[dN]at h;exact⟨x,y,rfl,rfl,h.symm⟩
 |x::xs,y::ys,i+1,d,h=>by
  have h':(dN xs ys)[i]?=on d:=by simpa[dN]using h
  obtain⟨a,b,c,e,f⟩:=uh h';exact⟨a,b,by simpa using c,by simpa using e,f⟩
def ui:List D->Option (List D)
 |[a,b]=>(eG a).bind λxs=>(eG b).map λys=>dN xs ys
 |_=>Pb
theorem Den.sqS(h:Den K F H d v)(e:eG d=on ds):∃b a,v= .ref a/\∀f c,Tr F H f c->∃xs,SqS b K c a xs/\DenL K f c ds xs:=by
 cases d<;>first
  |(cases e;obtain⟨a,xs,rfl,_⟩:=Den.sqL h;refine⟨Pe,a,rfl,λf c t=>?_⟩;obtain⟨j,ys,g,sq,i⟩:=Den.sqL (Den.tr t _ _ h);cases g;exact⟨ys,sq,i⟩)
  |(cases e;obtain⟨a,xs,rfl,_⟩:=Den.sqT h;refine⟨Pj,a,rfl,λf c t=>?_⟩;obtain⟨j,ys,g,sq,i⟩:=Den.sqT (Den.tr t _ _ h);cases g;exact⟨ys,sq,i⟩)
  |cases e
theorem KK{b1 b2:Bool}(n:∀b a,Tr F H b a->∃xs,SqS b1 K a l1 xs/\DenL K b a ds xs)(o:∀b a,Tr F H b a->∃xs,SqS b2 K a l2 xs/\DenL K b a es xs):ItD K (Itz b1 b2 K l1 l2) F H (dN ds es):=λb a β2 t fr i=>by
 obtain⟨xs,c,d1⟩:=n b a t;obtain⟨ys,e,d2⟩:=o b a t;refine⟨λd hd=>?_,λq=>?_⟩
 ·obtain⟨x,y,f,g,rfl⟩:=uh hd
  obtain⟨u,h,du⟩:=d1.get f;obtain⟨v,j,r⟩:=d2.get g;refine⟨⟨xs,ys,u,v,c,e,h,j⟩,λz B w=>?_⟩;obtain⟨p,C,I,k,rfl,rfl,A⟩:=w;obtain⟨l,m⟩:=A xs ys c e;rw[h]at l;rw[j]at m;cases l;cases m;exact⟨bQ.upd k,Den.newT fr k (DenL.cons du (DenL.cons r DenL.nil))⟩
 ·rw[ug]at q
  have f:=d1.length;have g:=d2.length;refine⟨xs,ys,c,e,?_⟩;rw[←f,←g];omega
def iZ(g:FL):FL:=bN ui g
theorem qp{x1}(o:Gl X "zip")(hm:X.mg "zip"=Pb)(ha:PA X [a,b] (tVA X.K g E))(hs:PH [a,b] X.env=[(Pj,QS a X.env),(Pj,QS b X.env)]:=by rfl)(i:PH [b] X.env=[(Pj,QS b X.env)]:=by rfl):
  PI X (.Tuple elts x1 tpos) (.Call (.Name "zip" p) [a,b] [] pos) (iV X.K (iZ g) E):=
 (LS o hm ha hs i).imp λI H R j=>ex6 j λF δ β fr q h=>⟨F,δ,β,fr,q,(run.bind (R:=DenL X.K F) h).mono λvs f j=>by
  obtain⟨ds,β1,t,hd,r1⟩:=j;obtain⟨l,e,k⟩:=run.ofO r1;unfold ui at e;split at e
  ·rename_i c d
   obtain⟨v,J,rfl,r,u⟩:=DenL.two hd;cases q1:eG c with
   |none=>rw[q1]at e;cases e
   |some xs=>
    cases q2:eG d with
    |none=>rw[q1,q2]at e;cases e
    |some ys=>
     rw[q1,q2]at e;cases e;obtain⟨b1,w,rfl,m⟩:=Den.sqS r q1;obtain⟨b2,y,rfl,n⟩:=Den.sqS u q2;obtain⟨us,A,_⟩:=m F f (Tr.refl F f);obtain⟨B,C,_⟩:=n F f (Tr.refl F f);exact⟨b1,b2,w,y,us,B,rfl,A,C,k _ f (To.refl t.fr) (KK m n)⟩
  ·cases e⟩
def nz:Dn->M Unit:=λ_=>M.ret ()
def nA(f:FD)(g:Dn->M Unit):Dn->M Unit:=λδ=>M.bind (f δ) λd=>match d with
 | .int i=>if i.natAbs.log2<1920 then g δ else M.fail
 |_=>M.fail
variable{es:List Expr}
def nN(f:Dn->M Unit):FD:=λδ=>M.bind (f δ) λ_=>M.ret .txt
noncomputable def kE(C:Pk)(f:FL):G:=λδ β=>match f (vwA δ) β with
 |some (.ok _,β1)=>on (.ex C δ,β1)
 |some (.error C',β1)=>on (.ex C' δ,β1)
 |none=>Pb
end
section
variable{P:Qf}{w:Qq}{K:PZ}{mg:Qn->Option Pl}{base:QW}{N:List Qn}{qual:Qn}{scope:Scope}{f:Pk}{cd:Pl}{A:QP}{outer:List Wr}{s:Pr}{H:Hp}{E:XK}
end
section
variable{X:Cx}{E:St->XK}{K:PZ}
abbrev Gh:=Pk->G
noncomputable def hNo:Gh:=λ_ _ _=>Pb
noncomputable def rm(K:PZ)(a:Pk)(g:G)(r:Gh):Gh:=λC δ β=>match PySem.W.exmOne K (.ref C) (.ref a)with
 |some Pe=>g δ β
 |some Pj=>r C δ β
 |none=>Pb
noncomputable def rn(g:G)(h:Gh):G:=λδ β=>match g δ β with
 |some (.ex C δ1,β1)=>h C δ1 β1
 |r=>r
variable{elt target iter:Expr}{ifs:List Expr}{rest:List Rm}{scope:Scope}{pos:Uj}{Nc vars:List Qn}{caps:List Nat}{g:TG}{tb:Pk->TB}
theorem aM:dU X [] (tVT X.K (λ_=>M.ret Pe) E0):=λa s b H Q I c=>by obtain⟨F,δ,β,fr,d,r⟩:=c;exact uL a s b H Q I (run.ret fr r rfl)
theorem qt(a:PT X c (tVT X.K t E0)):dU X [c] (tVT X.K t E0):=CP a
theorem bi(c:X.calm=Pe)(S:CmpScope X scope Nc vars caps)(d:PI X target iter (iV X.K it E))
  (e:∀(cl:List (Qn×Pk)) (C:Pk) (a:List Pk) (s:Pr) (H:Hp),PG (aI X Nc scope cl C a s H) target g/\dU (aI X Nc scope cl C a s H) ifs (tVT X.K tt E0)/\∀D,PB (aI X Nc scope cl C a s H) elt (⟨target,iter,ifs,0⟩::rest) scope pos 0 D (tb D))
  (f:cS X.K g tg) (i:dS tg) (j:∀D,jO X.K D (tb D) b) (hs:∀x,QA iter X.env x=RZ x:=by intro _;rfl):PE X (.ListComp elt (⟨target,iter,ifs,0⟩::rest) scope pos) (tV X.K (cw vars.length caps it tg tt b) E):=
 (nc c S d e hs).imp λk H Q h=>ur f i j h
theorem pI{a c:Uj}(j:X.N.Nodup)(d:X.N[i]?=on x)(k:Loc X.env.scope x)(l:X.calm=Pe)(S:CmpScope X scope Nc vars caps)(m:PI X target iter (iV X.K it E))
  (n:∀(cl:List (Qn×Pk)) (C:Pk) (f:List Pk) (s:Pr) (H:Hp),PG (aI X Nc scope cl C f s H) target g/\dU (aI X Nc scope cl C f s H) ifs (tVT X.K tt E0)/\∀D,PB (aI X Nc scope cl C f s H) elt (⟨target,iter,ifs,0⟩::rest) scope pos 0 D (tb D))
  (o:cS X.K g tg) (p:dS tg) (q:∀D,jO X.K D (tb D) b)
  (e:Uo (.ListComp elt (⟨target,iter,ifs,0⟩::rest) scope pos) (on (.Name x a)) c.line X.env=RZ Pe:=by rfl)
  (hs:∀x,QA iter X.env x=RZ x:=by intro _;rfl) (r:X.fn x=Pe\/X.env.scope.names.lookup x=on .local:=by first|exact .inl rfl|exact .inr rfl|assumption):
  PS X (.Assign [.Name x a] (.ListComp elt (⟨target,iter,ifs,0⟩::rest) scope pos) c) (tG X.K X.H₀ (dR i (cw vars.length caps it tg tt b)) E):=
 aO ((wr j d k l S m n e hs r).imp λD t H h=>ur o p q h)
noncomputable def oU:D->Option D
 | .int i=>on (.int (-i))
 |_=>Pb
theorem OI:JA K (rU λi=> .int (-i)) oU:=λF H β Q d1 d b fr a e k=>by
 cases d1<;>first|(cases e;exact⟨_,a,k _ H (To.refl fr) rfl⟩)|cases e
noncomputable def BG:D->Option Int
 | .int i=>on i
 |_=>Pb
noncomputable def o5(xs:List D)(lo a:Option Int):List D:=(xs.drop (HT.sIx xs.length 0 lo)).take (HT.sIx xs.length xs.length a-HT.sIx xs.length 0 lo)
def slD:D->Option Int->Option Int->Option D
 | .lst xs,lo,hi=>on (.lst (o5 xs lo hi))
 | .scr ns,lo,hi=>on (.lst (o5 (ns.map D.int) lo hi))
 |_,_,_=>Pb
def ua(f:Option (FD)):Dn->M (Option Int):=λδ=>match f with
 |none=>M.ret Pb
 |some g=>M.bind (g δ) λd=>M.bind (M.ofO (BG d)) λi=>M.ret (on i)
def fSl(f:FD)(lo a:Option (FD)):FD:=λδ=>M.bind (f δ) λd=>M.bind (ua lo δ) λl=>M.bind (ua a δ) λh=>M.ofO (slD d l h)
def yo(X:Cx)(e:Option Expr)(f:Option (FD))(E:St->XK):Prop:=PO X e (λc H Q=>∃F δ β,Fr F H β/\VOk X.K F H δ c/\run (λ_ (a b:Option Int)=>b=a) F E c (ua f δ) H Q β)
theorem zC:yo X Pb Pb E:=λa s b H Q I c=>by obtain⟨F,δ,β,fr,d,r⟩:=c;exact wu a s b H Q I (run.ret fr r rfl)
theorem zB(h:PE X e (tV X.K f E)):yo X (on e) (on f) E:=λa s c H Q I b=>ex6 b λF δ β fr j r=>wt h a s c H Q I ⟨F,δ,β,fr,j,(run.bind (R:=Den X.K F) r).mono λv l b=>by
  obtain⟨d,β1,t,hd,r1⟩:=b;obtain⟨i,e,k⟩:=run.ofO_bind r1;cases d<;>first|(cases e;exact⟨_,hd,run.ret t.fr k rfl⟩)|cases e⟩
theorem DenL.cut(h:DenL K F H ds vs)(lo a:Option Int):DenL K F H (o5 ds lo a) (mE vs lo a):=by
 unfold o5 mE;rw[h.length];exact(h.drop _).take _
theorem v3{lo y:Option Expr}{fl A:Option (FD)}(B:PE X e (tV X.K f E))(C:yo X lo fl E)(I:yo X y A E):PE X (.Subscript e (.Slice lo y Pb p2) pos) (tV X.K (fSl f fl A) E):=
 (uM wa B C I).imp λO H Q o=>ex6 o λF δ β fr q r=>⟨F,δ,β,fr,q,(run.bind (R:=Den X.K F) r).mono λv P ⟨d,β1,t,hd,r1⟩=>
  ⟨F,δ,β1,t.fr,q.tr (t.tr fr),(run.bind (R:=λ_ (a b:Option Int)=>b=a) r1).mono λl T ⟨U,β2,n,u,J⟩=>
   ⟨F,δ,β2,n.fr,q.tr ((t.tr fr).trans (n.tr t.fr)),(run.bind (R:=λ_ (a b:Option Int)=>b=a) J).mono λh W o=>by
    obtain⟨h',β3,i,w,L⟩:=o;subst u w;obtain⟨c,e,k⟩:=run.ofO L;have j:=Den.tr ((n.tr t.fr).trans (i.tr n.fr)) _ _ hd;cases d<;>first
     |(cases e;obtain⟨a,xs,rfl,sq,N⟩:=Den.sqL j;exact⟨a,xs,rfl,sq,λp m=>k _ _ (i.fr.upd _ m) (Den.newL i.fr m (N.cut l h))⟩)
     |(cases e;obtain⟨a,rfl,sq⟩:=Den.scr j;exact⟨a,_,rfl,sq,λp m=>k _ _ (i.fr.upd _ m) (Den.newL i.fr m ((DenL.ofInts _).cut l h))⟩)
     |cases e⟩⟩⟩
def Bg.ok(β:Bg):Prop:=β.cells≠[]/\β.cells.length<=64/\(∀c∈β.cells,0<=c)/\0<=β.j
end
noncomputable def Bg.pos(β:Bg):Nat:=(β.i % (β.cells.length:Int)).toNat
def Bg.cell(β:Bg):Int:=β.cells.getD β.pos 0
noncomputable def Bg.nxt(β:Bg):Int:=(β.j+β.cell % 2147483629+77)*48271 % 2147483629
noncomputable def jB(β:Bg)(lot:Int):Int:=if 10^18<=β.cell then β.cell % lot else β.nxt/64 % lot
noncomputable def k4(β:Bg)(lot:Int):Bg:=if 10^18<=β.cell then⟨β.cells.set β.pos (β.cell/lot),β.i,β.j⟩else⟨β.cells,β.i+1,β.nxt⟩
open Classical in
def lh:List D->M D:=λds β=>match ds with
 |[.bag,.int lot]=>if β.ok/\0<lot/\lot<1073741824 then on (RF (D.int (jB β lot)),k4 β lot)else Pb
 |_=>Pb
theorem DK{β:Bg}(h:β.ok)(a:0<lot)(b:lot<1073741824):lh [.bag,.int lot] β=on (.ok (.int (jB β lot)),k4 β lot):=by
 unfold lh;exact Ps ⟨h,a,b⟩
theorem zN{β:Bg}(h:lh ds β=on (r,β')):∃lot,ds=[.bag,.int lot]/\β.ok/\0<lot/\lot<1073741824/\r= .ok (.int (jB β lot))/\β'=k4 β lot:=by
 unfold lh at h;split at h
 ·split at h
  ·rename_i lot q
   cases h;exact⟨lot,rfl,q.1,q.2.1,q.2.2,rfl,rfl⟩
  ·cases h
 ·cases h
theorem Bg.ok.at{β:Bg}(h:β.ok):β.pos<β.cells.length/\β.cells[β.pos]?=on β.cell/\0<=β.cell/\β.i % (β.cells.length:Int)=(β.pos:Int):=by
 obtain⟨c1,c2,c3,b⟩:=id h;have c:0<β.cells.length:=List.length_pos_iff.mpr c1;have a1:0<=β.i % (β.cells.length:Int):=Ui _ (by omega);have a2:β.i % (β.cells.length:Int)<β.cells.length:=UF _ (by omega);have a:β.pos<β.cells.length:=by unfold Bg.pos;omega
 have e:β.cell=β.cells[β.pos]:=by
  unfold Bg.cell;rw[Pf,Pd a];rfl
 refine⟨a,by rw[e];exact Pd a,by rw[e];exact c3 _ (Qo a),?_⟩;unfold Bg.pos;omega
theorem wo{β:Bg}(h:β.ok)(b:0<lot):0<=jB β lot/\jB β lot<lot/\(k4 β lot).ok:=by
 obtain⟨f,_,d,_⟩:=h.at;obtain⟨c1,c2,c3,e⟩:=id h;unfold jB k4;split
 ·refine⟨Ui _ (by omega),UF _ b,?_,by rw[Qs];exact c2,λc a=>?_,e⟩
  ·intro z
   have:=QN Vu z;rw[Qs]at this;exact c1 (U4.mp this)
  ·rcases RE a with a|rfl
   ·exact c3 c a
   ·exact Int.ediv_nonneg d (by omega)
 ·exact⟨Ui _ (by omega),UF _ b,c1,c2,c3,Ui _ (by decide)⟩
end L2.Pu
namespace L2
open PySem PySem.Spec PyProof.Rows
end L2
namespace L2.Pu
open PySem PySem.Spec PyProof.Rows
section
variable{X:Cx}{E:St->XK}{K:PZ}
def oh(K:PZ)(mg:Qn->Option Pl)(x:Qn)(d:D):Prop:=∃u v,mg x=on u/\aQ v u/\∀F H,Den K F H d v
theorem lP(c:oh X.K X.mg x d)(a:Gl X x:=by rfl)(hd:(x==("__debug__":Qn))=Pj:=by decide):PE X (.Name x pos) (tV X.K (fC d) E):=by
 obtain⟨u,v,b,e,f⟩:=c;exact v_c (Ke a b e hd) f
mutual
noncomputable def toP:D->Option Wb
 | .non=>on .none
 | .bl b=>on (.bool b)
 | .int i=>on (.int i)
 | .str x=>on (.str x)
 | .lst xs=>(toPs xs).map PyData.list
 | .tup xs=>(toPs xs).map PyData.tuple
 |_=>Pb
noncomputable def toPs:List D->Option (List Wb)
 |[]=>on []
 |x::xs=>match toP x,toPs xs with
  |some p,on ps=>on (p::ps)
  |_,_=>Pb
end
mutual
theorem kr{s:Pr}(I:Inv X pins σ H s):∀(d:D) (v:V) (u:Pl) (p:Wb),Den X.K F H d v->toP d=on p->aQ v u->∃as,Reads s.heap u p as
 | .non,v,u,p,h,e,r=>by cases e;cases h.non;cases r;exact⟨_,.none⟩
 | .bl b,v,u,p,h,e,r=>by cases e;cases h.bl;cases r;exact⟨_,.bool b⟩
 | .int i,v,u,p,h,e,r=>by cases e;cases h.int;obtain⟨t,rfl⟩:=r;exact⟨_,.int i t⟩
 | .str x,v,u,p,h,e,r=>by cases e;cases h.str;obtain⟨t,rfl⟩:=r;exact⟨_,.str x t⟩
 | .lst xs,v,u,p,h,e,r=>by
  unfold toP at e;cases q:toPs xs with
  |none=>rw[q]at e;cases e
  |some ps=>
   rw[q]at e;cases e;obtain⟨a,ys,rfl,sq,c⟩:=Den.sqL h;cases r;obtain⟨its,f,pl,_⟩:=I.list sq;obtain⟨as,g⟩:=reads_L I xs ys its ps c q f;obtain⟨o,j,k,n,hd⟩:=pl.isList;exact⟨_,.list j k hd (by simpa using g)⟩
 | .tup xs,v,u,p,h,e,r=>by
  unfold toP at e;cases q:toPs xs with
  |none=>rw[q]at e;cases e
  |some ps=>
   rw[q]at e;cases e;obtain⟨a,ys,rfl,sq,c⟩:=Den.sqT h;cases r;obtain⟨its,f,pl,_⟩:=I.tuple sq;obtain⟨as,g⟩:=reads_L I xs ys its ps c q f;obtain⟨o,j,k,n,hd⟩:=pl;exact⟨_,.tuple j k hd (by simpa using g)⟩
 | .ty _,_,_,_,_,e,_=>by cases e
 | .txt,_,_,_,_,e,_=>by cases e
 | .scr _,_,_,_,_,e,_=>by cases e
 | .obj _ _ _,_,_,_,_,e,_=>by cases e
 | .bag,_,_,_,_,e,_=>by cases e
 | .adr _,_,_,_,_,e,_=>by cases e
 | .dct _ _ _,_,_,_,_,e,_=>by cases e
theorem reads_L{s:Pr}(I:Inv X pins σ H s):∀(ds:List D) (vs:List V) (us:List Pl) (ps:List Wb),DenL X.K F H ds vs->toPs ds=on ps->ay vs us->∃as,ReadsAll s.heap us ps as
 |[],vs,us,ps,h,e,r=>by
  have q:vs=[]:=h;subst q;cases e;cases r;exact⟨_,.nil⟩
 |d::ds,vs,us,ps,h,e,r=>by
  obtain⟨x,a,rfl,b,c⟩:=h;unfold toPs at e;split at e
  ·rename_i p pr f g
   cases e;cases r with
   |cons r1 i=>
    obtain⟨as,j⟩:=kr I d x _ p b f r1;obtain⟨bs,k⟩:=reads_L I ds a _ pr c g i;exact⟨_,.cons j k⟩
  ·cases e
end
def j4(a b:D):Option Bool:=match toP a,toP b with
 |some p,on q=>if(Ul p&&Ul q)=Pe then on (R9 p q)else Pb
 |_,_=>Pb
def gu(a b:D):Option D:=match eqS a b with
 |some c=>on (.bl c)
 |none=>(j4 a b).map D.bl
def dm(a b:D):Option D:=match eqS a b with
 |some c=>on (.bl (!c))
 |none=>(j4 a b).map λc=>D.bl (!c)
def qU(X:Cx)(g:Bool->Bool):R2:=λx y H Q=>∃(F:Fx) (a b:D) (c:Bool),Den X.K F H a x/\Den X.K F H b y/\j4 a b=on c/\Q (.bl (g c)) H
theorem sR{c:Bool}(h:j4 a b=on c):∃p q,toP a=on p/\toP b=on q/\Ul p=Pe/\Ul q=Pe/\c=R9 p q:=by
 unfold j4 at h;split at h
 ·rename_i p q d e
  split at h
  ·rename_i hs
   rw[Qj]at hs;cases h;exact⟨p,q,d,e,hs.1,hs.2,rfl⟩
  ·cases h
 ·cases h
theorem Mb(f:Room k X.A):OpR X (QY .Eq) (qU X id):=by
 intro d s t H x y v u Q I g i h;obtain⟨F,a,b,c,d1,d2,e,q⟩:=h;obtain⟨p,j,l,m,n,o,rfl⟩:=sR e;obtain⟨as,r1⟩:=kr I a x v p d1 l g;obtain⟨bs,r⟩:=kr I b y u j d2 m i;exact eq_dataH r1 r n o f.units ⟨.bl _,H,I,rfl,q⟩
theorem L9(f:Room k X.A):OpR X (QY .NotEq) (qU X not):=by
 intro d s t H x y v u Q I g i h;obtain⟨F,a,b,c,d1,d2,e,q⟩:=h;obtain⟨p,j,l,m,n,o,rfl⟩:=sR e;obtain⟨as,r1⟩:=kr I a x v p d1 l g;obtain⟨bs,r⟩:=kr I b y u j d2 m i;exact ne_dataH r1 r n o f.units ⟨.bl _,H,I,rfl,q⟩
theorem eY(a:Room k X.A):OpR X (QY .Eq) (λx y H Q=>rEq x y H Q\/qU X id x y H Q):=Ox.or (Mb a)
theorem eX(a:Room k X.A):OpR X (QY .NotEq) (λx y H Q=>rNe x y H Q\/qU X not x y H Q):=Ov.or (L9 a)
theorem gm:bh X.K (λx y H Q=>rEq x y H Q\/qU X id x y H Q) gu:=λF H β Q d1 d2 d h i fr a b e k=>by
 unfold gu at e;split at e
 ·rename_i c q
  cases e;obtain⟨f,g⟩:=AT q a b;exact .inl ⟨f,by rw[g];exact k _ H (To.refl fr) rfl⟩
 ·cases q:j4 d1 d2 with
  |none=>rw[q]at e;cases e
  |some c=>rw[q]at e;cases e;exact .inr ⟨F,d1,d2,c,a,b,q,k _ H (To.refl fr) rfl⟩
theorem gl:bh X.K (λx y H Q=>rNe x y H Q\/qU X not x y H Q) dm:=λF H β Q d1 d2 d h i fr a b e k=>by
 unfold dm at e;split at e
 ·rename_i c q
  cases e;obtain⟨f,g⟩:=AT q a b;exact .inl ⟨f,by rw[g];exact k _ H (To.refl fr) rfl⟩
 ·cases q:j4 d1 d2 with
  |none=>rw[q]at e;cases e
  |some c=>rw[q]at e;cases e;exact .inr ⟨F,d1,d2,c,a,b,q,k _ H (To.refl fr) rfl⟩
theorem lA(i j:Int):gu (.int i) (.int j)=on (.bl (decide (i=j))):=rfl
theorem lz(i j:Int):dm (.int i) (.int j)=on (.bl (!decide (i=j))):=rfl
theorem nY(i j:Bool):gu (.bl i) (.bl j)=on (.bl (decide (i=j))):=rfl
theorem nV(i j:Bool):dm (.bl i) (.bl j)=on (.bl (!decide (i=j))):=rfl
theorem nX(i j:Qn):gu (.str i) (.str j)=on (.bl (decide (i=j))):=rfl
theorem nU(i j:Qn):dm (.str i) (.str j)=on (.bl (!decide (i=j))):=rfl
mutual
theorem vx:∀p:Wb,p.canLay0=Pe->R9 p p=Pe
 | .none,_=>rfl
 | .bool b,_=>by simp[R9]
 | .int b,_=>by simp[R9]
 | .str b,_=>by simp[R9]
 | .list xs,h=>by
  unfold R9;exact eqv_reflL xs (by simpa[Uu]using h)
 | .tuple xs,h=>by
  unfold R9;exact eqv_reflL xs (by simpa[Uu]using h)
 | .dict _,h=>by simp[Uu]at h
theorem eqv_reflL:∀ps:List Wb,TM ps=Pe->Te ps ps=Pe
 |[],_=>rfl
 |p::ps,h=>by
  have h':p.canLay0=Pe/\TM ps=Pe:=by simpa[TM]using h
  unfold Te;rw[vx p h'.1,eqv_reflL ps h'.2];rfl
end
def iF(d:D):Bool:=match toP d with
 |some p=>Ul p
 |none=>Pj
theorem AV(h:iF d=Pe):j4 d d=on Pe:=by
 unfold iF at h;unfold j4;cases q:toP d with
 |none=>rw[q]at h;cases h
 |some p=>
  rw[q]at h;simp only[h,Tp,Qv];rw[vx p (SeqAt.canLay_of_shaped h)]
theorem EJ{c:Bool}(h:eqS d d=on c):c=Pe:=by
 cases d<;>first|(cases h;simp)|(cases h;rfl)|cases h
theorem Kr(h:iF d=Pe):dm d d=on (.bl Pj):=by
 unfold dm;cases q:eqS d d with
 |none=>simp only[AV h];rfl
 |some c=>rw[EJ q];rfl
theorem IJ{C:Int->Int->Prop}{c:Int->Int->Bool}{g:Int->Int->Int}(b:∀i j,c i j=Pe->C i j):bh K (ipC C g) (opI λi j=>if c i j=Pe then on (.int (g i j))else Pb):=λF H β Q d1 d2 d l m fr f h e k=>by
 obtain⟨i,j,rfl,rfl,a⟩:=gC e;split at a
 ·cases a
  exact⟨i,j,f,h,b _ _ (by assumption),k _ H (To.refl fr) rfl⟩
 ·cases a
def NY:D->D->Option D:=opI λi j=>on (.int (i+j))
theorem iH:bh K (ipI λi j=>i+j) NY:=λF H β Q d1 d2 d f g fr a b e k=>by
 obtain⟨i,j,rfl,rfl,c⟩:=gC e;cases c;exact⟨i,j,a,b,k _ H (To.refl fr) rfl⟩
theorem KE:bh K (ipI λi j=>i-j) CA:=λF H β Q d1 d2 d f g fr a b e k=>by
 obtain⟨i,j,rfl,rfl,c⟩:=gC e;cases c;exact⟨i,j,a,b,k _ H (To.refl fr) rfl⟩
theorem wM:PIp X .Mult (ipC ue λi j=>i*j):=by
 intro a s e H x y v u Q I b d h;obtain⟨i,j,rfl,rfl,c,q⟩:=h;obtain⟨t,rfl⟩:=b;obtain⟨t',rfl⟩:=d;exact imul_int ⟨.int _,H,I.tok _,⟨_,rfl⟩,q⟩ (XH (jM c.1) (jM c.2))
theorem wI:bh K (ipC ue λi j=>i*j) DF:=IJ λi j h=>by
 simp only[Qj,gQ,Qx]at h;exact h
theorem DU:bh K (ipC JB λi j=>i/j) IU:=IJ λi j h=>by
 simp only[Qj,Qx]at h;exact h
abbrev gH:=BY
theorem AY(b:X.calm=Pe):dI X (.builtin "sum") (λxs H Q=>∃(a:Pk) (ns:List Int),xs=[.ref a]/\SqL X.K H a (ns.map V.int)/\Q (.int ns.sum) H):=sS b
theorem Mw:eM K (λxs H Q=>∃(a:Pk) (ns:List Int),xs=[.ref a]/\SqL K H a (ns.map V.int)/\Q (.int ns.sum) H) gH:=OG
def JC(H:Hp)(b l:Pk):Prop:=∃(cells:List Int) (i j:Int),H b=on (.lst [.ref l,.int i,.int j])/\H l=on (.lst (cells.map V.int))/\cells≠[]/\cells.length<=64/\(∀c∈cells,0<=c)/\0<=j
theorem KJ(h:k<n):ixN n (k:Int)=on k:=by
 unfold ixN;rw[Ps (by omega),Ps (by omega)];simp
theorem O6(ns:List Int):∃a:List Int,mE (ns.map V.int) Pb (on 63)=a.map V.int/\a.length<=63:=by
 refine⟨(ns.drop (HT.sIx ns.length 0 Pb)).take (HT.sIx ns.length ns.length (on 63)-HT.sIx ns.length 0 Pb),?_,?_⟩
 ·unfold mE
  rw[Pa,VG,T6]
 ·rw[RA]
  have:HT.sIx ns.length ns.length (on 63)<=63:=by
   unfold HT.sIx;simp;omega
  omega
def Ol(K:PZ):Sp:=λvs H Q _=>∃(a:Pk) (ns:List Int),vs=[.ref a]/\SqL K H a (ns.map V.int)/\∀(b l:Pk) (c:Hp),H b=Pb->H l=Pb->JC c b l->bQ H c->Q (.ref b) c
def HQ(K:PZ):Sp:=λvs H Q _=>∃(a:Pk) (ns:List Int),vs=[.ref a]/\SqL K H a (ns.map V.int)/\ns.length<=63/\∀b,Q (.bl Pe) b
theorem K5(sm:bQ H₀ H)(A:H₀ b=Pb)(C:H₀ l=Pb)(B:JC H b l):∃β,β.ok/\SOk K H₀ (λc=>if c=b\/c=l then on 1 else Pb) (on (b,l)) H (Pb::on (.sh .bag)::PR n Pb) β (on (.ref a)::on (.ref b)::PR n Pb):=by
 obtain⟨cells,i,j,g,h,p,v,w,y⟩:=B;have m:b≠l:=OC g h (by
  intro z;cases cells with
  |nil=>exact p rfl
  |cons c r=>simp at z)
 refine⟨⟨cells,i,j⟩,⟨p,v,w,y⟩,⟨⟨λc f=>?_,λt u e=>?_,λt u e=>?_⟩,λt u e=>?_,by simp,λc f=>?_,λc k f=>(by
  have d:(if c=b\/c=l then on 1 else Pb)=on (k+2):=f;split at d<;>cases d),λc k f=>(by
  have d:(if c=b\/c=l then on 1 else Pb)=on (k+2):=f;split at d<;>cases d),λk s e=>?_⟩⟩
 ·have d:(if c=b\/c=l then on 1 else Pb)≠(Pb:Option Nat):=f
  split at d
  ·rename_i q
   rcases q with rfl|rfl
   ·rw[g];simp
   ·rw[h];simp
  ·exact P6 rfl d
 ·cases e
  refine⟨?_,?_,m⟩
  ·show(if b=b\/b=l then on 1 else Pb)≠(Pb:Option Nat)
   rw[Ps (.inl rfl)];simp
  ·show(if l=b\/l=l then on 1 else Pb)≠(Pb:Option Nat)
   rw[Ps (.inr rfl)];simp
 ·cases e
  exact⟨g,h⟩
 ·cases e
  exact⟨Ps (.inl rfl),Ps (.inr rfl)⟩
 ·cases q:H₀ c with
  |none=>exact P6 q f
  |some o=>rw[sm c o q];simp
 ·match k with
  |0=>simp at e
  |1=>
   simp at e;subst e;exact⟨.ref b,rfl,b,l,rfl,rfl⟩
  |k+2=>
   simp only[W3,RY]at e;split at e<;>cases e
variable{P:Qf}{w:Qq}{mg:Qn->Option Pl}{base:QW}
theorem bj{st:QU}{N ps:List Qn}(n m:Nat)(g:G)(F:FunD K x qual st f fd)(S:FnScope N ps (ah st))(hn:ps.length=n)(hm:N.length=m)
  (a:∀(b:Pl) (A:QP) (outer:List Wr) (s:Pr) (H:Hp) (E:XK),Room k (A.deeper (T7 qual (ah st) s.heap.objs.size f b))->
   PSs (f8 (CXE P w) P w K mg base N qual (ah st) f b A outer s H E) (cR st) (tG K H g (λ_=>E))):FnOk P w K mg base (CXE P w) (k+1) f fd ps (spF K n (dj m g)):=by
 subst hn hm;exact KU F S a
end
end L2.Pu
namespace L2
open PySem PySem.Spec PyProof.Rows
theorem CmpScope.ofB{X:Cx}{scope:Scope}{caps:List Nat}(k:scope.kind= .function)(nd:(scope.names.map (·.1)).Nodup)
  (fr:(scope.names.all λy=>y.2 != .free||(X.env.scope.names.lookup y.1==on .cell||X.env.scope.names.lookup y.1==on .free))=Pe) (a:Nc=vars++caps.map (λj=>X.N.getD j Td))
  (b:(caps.all λj=>decide (j<X.N.length)&&scope.names.lookup (X.N.getD j Td)==on .free)=Pe):CmpScope X scope Nc vars caps:=by
 refine⟨k,nd,λy c e=>?_,a,λj d=>?_⟩
 ·have:=Sz.mp fr y c
  rw[e]at this;simp only[SS,Bool.false_or,Bool.or_eq_true,Ti]at this;exact this
 ·have:=Sz.mp b j d
  simp only[Qj,Qx,Ti]at this;exact this
end L2
namespace L2.Pu
theorem nZ(i j:Int):lD (.int i) (.int j)=on (.int (i+j)):=rfl
theorem kF(i j:Int):NY (.int i) (.int j)=on (.int (i+j)):=rfl
theorem nS(i j:Int):CA (.int i) (.int j)=on (.int (i-j)):=rfl
theorem nW(i j:Int):modD (.int i) (.int j)=if decide (0<j)=Pe then on (.int (i % j))else Pb:=rfl
theorem rF(i j:Int):ltD (.int i) (.int j)=on (.bl (decide (i<j))):=rfl
theorem rG(i j:Int):leD (.int i) (.int j)=on (.bl (decide (i<=j))):=rfl
theorem rH(i j:Int):gtD (.int i) (.int j)=on (.bl (decide (j<i))):=rfl
theorem rJ(i j:Int):geD (.int i) (.int j)=on (.bl (decide (j<=i))):=rfl
end L2.Pu
namespace L2.Pu
open PySem PySem.Spec
def okD:Nat->D->Prop
 |_,.int _=>True
 |_,.bl _=>True
 |_,.str _=>True
 |_,.non=>True
 |n+1,.lst xs=>xs.length<=PQ/\∀x∈xs,okD n x
 |n+1,.tup xs=>xs.length<=PQ/\∀x∈xs,okD n x
 |_,_=>False
def jG(rec:List D->M D):G:=
  aJ (gIf (ik (aA fX (aa (af 1) (aa (aA cu (aa (fC (.ty "list")) (aa (fC (.ty "tuple")) (ao)))) (ao))))) (aJ (gIf (gq (fB (f2 (dm) (aA cV (aa (af 1) (aa (fC (.ty "list")) (ao)))) (aA cV (aa (af 0) (aa (fC (.ty "list")) (ao)))))) (fB (f2 (dm) (aA cV (aa (af 1) (aa (fC (.ty "tuple")) (ao)))) (aA cV (aa (af 0) (aa (fC (.ty "tuple")) (ao))))))) (dn (fC (.bl Pj))) (gNil))
  (aJ (gIf (fB (f2 (dm) (aA cc (aa (af 0) (ao))) (aA cc (aa (af 1) (ao))))) (dn (fC (.bl Pj))) (gNil))
  (dn (f2 (inD Pe) (fC (.bl Pj)) (cw 2 [] (iZ (aa (af 0) (aa (af 1) (ao)))) (tgT (cJ (tgC 0) (cJ (tgC 1) ge))) (λ_=>M.ret Pe) (cEm (bB rec (aa (af 0) (aa (af 1) (ao)))))))))) (gNil))
  (aJ (gIf (fB (f2 (ii) (af 1) (fC .non))) (dn (f2 (ii) (af 0) (fC .non))) (gNil))
  (aJ (gIf (gq (fB (f2 (dm) (aA cV (aa (af 1) (aa (fC (.ty "str")) (ao)))) (aA cV (aa (af 0) (aa (fC (.ty "str")) (ao)))))) (fB (f2 (dm) (aA cV (aa (af 1) (aa (fC (.ty "bool")) (ao)))) (aA cV (aa (af 0) (aa (fC (.ty "bool")) (ao))))))) (dn (fC (.bl Pj))) (gNil))
  (dn (ly (aA fX (aa (af 0) (aa (aA cu (aa (fC (.ty "int")) (aa (fC (.ty "str")) (ao)))) (ao)))) (f2 (gu) (af 0) (af 1))))))
def fW:Nat->List D->M D
 |0=>λ_=>M.fail
 |n+1=>dj 2 (jG (fW n))
theorem gz:(0:Nat)+1+1<=PQ:=by decide
theorem f9:(2:Nat)<=PQ:=by decide
theorem o8:∀xs:List D,(∀x∈xs,rec [x,x] β=on (.ok (.bl Pe),β))->
  cLp (tgT (cJ (tgC 0) (cJ (tgC 1) ge))) (λ_=>M.ret Pe) (cEm (bB rec (aa (af 0) (aa (af 1) (ao))))) (dN xs xs) [Pb,Pb] β=on (.ok (PR xs.length (.bl Pe)),β)
 |[],_=>rfl
 |x::xs,h=>by
  have ih:=o8 xs λy a=>h y (Pg _ a);have b:=h x Pn;unfold dN cLp;simp only[tgT,cJ,ge,tgC,cEm,Option.isNone_none,Option.isNone_some,Q3,RM,RK,R6,R5,Qv,bB,aa,ao,af,M.bind,M.ret,M.ofO,b,ih,reduceIte];rfl
theorem vO(n:Nat):(PR n (D.bl Pe)).all d8=Pe:=by
 induction n with
 |zero=>rfl
 |succ n ih=>rw[Qm,US,ih];rfl
theorem wO(n:Nat):inB (.bl Pj) (PR n (D.bl Pe))=Pj:=by
 unfold inB
 induction n with
 |zero=>rfl
 |succ n ih=>rw[Qm,T5,ih];rfl
theorem qS:∀(n:Nat) (d:D) (β:Bg),okD n d->fW (n+1) [d,d] β=on (.ok (.bl Pe),β)
 |n,.int i,β,_=>by
  unfold fW dj jG;simp only[aJ,dR,nJ,fF,dn,gIf,Pu.gNil,ij,rp,j3,rn,kE,rm,hNo,af,fC,f1,f2,ao,aa,aA,bB,fB,ik,nQ,gq,iE,ly,fOr,rE,fIf,eD,bZ,bN,iZ,nN,nA,nz,M.bind,M.ret,M.ofO,M.fail,vw,vwA,stD,Py,Rk,RM,RK,R6,R5,Pz,R0,Sx,Qm,Qe,Rb,QZ,RW,Nat.reduceSub,Nat.reduceAdd,Nat.reduceLT,Nat.reduceLeDiff,Int.reduceLT,Int.reduceLE,nZ,kF,nS,nW,rF,rG,rH,rJ,lA,lz,nY,nV,nX,nU,R8,asB,kQ,ii,nl,isN,oU,cu,d6,sgT,h9,jQ,sgN,QK,Q3,Th,cc,rR,cV,fX,tyD,jZ,jY,Qv,Qw,reduceIte,Q6,Sb,Tf,SU,PF,f9,gz]
 |n,.bl i,β,_=>by
  unfold fW dj jG;simp only[aJ,dR,nJ,fF,dn,gIf,Pu.gNil,ij,rp,j3,rn,kE,rm,hNo,af,fC,f1,f2,ao,aa,aA,bB,fB,ik,nQ,gq,iE,ly,fOr,rE,fIf,eD,bZ,bN,iZ,nN,nA,nz,M.bind,M.ret,M.ofO,M.fail,vw,vwA,stD,Py,Rk,RM,RK,R6,R5,Pz,R0,Sx,Qm,Qe,Rb,QZ,RW,Nat.reduceSub,Nat.reduceAdd,Nat.reduceLT,Nat.reduceLeDiff,Int.reduceLT,Int.reduceLE,nZ,kF,nS,nW,rF,rG,rH,rJ,lA,lz,nY,nV,nX,nU,R8,asB,kQ,ii,nl,isN,oU,cu,d6,sgT,h9,jQ,sgN,QK,Q3,Th,cc,rR,cV,fX,tyD,jZ,jY,Qv,Qw,reduceIte,Q6,Sb,Tf,SU,PF,f9,gz]
 |n,.str i,β,_=>by
  unfold fW dj jG;simp only[aJ,dR,nJ,fF,dn,gIf,Pu.gNil,ij,rp,j3,rn,kE,rm,hNo,af,fC,f1,f2,ao,aa,aA,bB,fB,ik,nQ,gq,iE,ly,fOr,rE,fIf,eD,bZ,bN,iZ,nN,nA,nz,M.bind,M.ret,M.ofO,M.fail,vw,vwA,stD,Py,Rk,RM,RK,R6,R5,Pz,R0,Sx,Qm,Qe,Rb,QZ,RW,Nat.reduceSub,Nat.reduceAdd,Nat.reduceLT,Nat.reduceLeDiff,Int.reduceLT,Int.reduceLE,nZ,kF,nS,nW,rF,rG,rH,rJ,lA,lz,nY,nV,nX,nU,R8,asB,kQ,ii,nl,isN,oU,cu,d6,sgT,h9,jQ,sgN,QK,Q3,Th,cc,rR,cV,fX,tyD,jZ,jY,Qv,Qw,reduceIte,Q6,Sb,Tf,SU,PF,f9,gz]
 |n,.non,β,_=>by
  unfold fW dj jG;simp only[aJ,dR,nJ,fF,dn,gIf,Pu.gNil,ij,rp,j3,rn,kE,rm,hNo,af,fC,f1,f2,ao,aa,aA,bB,fB,ik,nQ,gq,iE,ly,fOr,rE,fIf,eD,bZ,bN,iZ,nN,nA,nz,M.bind,M.ret,M.ofO,M.fail,vw,vwA,stD,Py,Rk,RM,RK,R6,R5,Pz,R0,Sx,Qm,Qe,Rb,QZ,RW,Nat.reduceSub,Nat.reduceAdd,Nat.reduceLT,Nat.reduceLeDiff,Int.reduceLT,Int.reduceLE,nZ,kF,nS,nW,rF,rG,rH,rJ,lA,lz,nY,nV,nX,nU,R8,asB,kQ,ii,nl,isN,oU,cu,d6,sgT,h9,jQ,sgN,QK,Q3,Th,cc,rR,cV,fX,tyD,jZ,jY,Qv,Qw,reduceIte,Q6,Sb,Tf,SU,PF,f9,gz]
 |n+1,.lst xs,β,h=>by
  have h':xs.length<=PQ/\∀x∈xs,okD n x:=h;have c:=o8 (rec:=fW (n+1)) (β:=β) xs λx a=>qS n x β (h'.2 x a);have b:(PR xs.length (D.bl Pe)).length<=PQ:=by rw[Q1];exact h'.1
  unfold fW dj jG;simp only[aJ,dR,nJ,fF,dn,gIf,Pu.gNil,ij,rp,j3,rn,kE,rm,hNo,af,fC,f1,f2,ao,aa,aA,bB,fB,ik,nQ,gq,iE,ly,fOr,rE,fIf,eD,bZ,bN,iZ,nN,nA,nz,M.bind,M.ret,M.ofO,M.fail,vw,vwA,stD,Py,Rk,RM,RK,R6,R5,Pz,R0,Sx,Qm,Qe,Rb,QZ,RW,Nat.reduceSub,Nat.reduceAdd,Nat.reduceLT,Nat.reduceLeDiff,Int.reduceLT,Int.reduceLE,nZ,kF,nS,nW,rF,rG,rH,rJ,lA,lz,nY,nV,nX,nU,R8,asB,kQ,ii,nl,isN,oU,cu,d6,sgT,h9,jQ,sgN,QK,Q3,Th,cc,rR,cV,fX,tyD,jZ,jY,Qv,Qw,reduceIte,Q6,Sb,Tf,SU,PF,f9,gz,cw,ui,eG,cSt,c,b,inD,vO,wO,d8,Tp]
 |n+1,.tup xs,β,h=>by
  have h':xs.length<=PQ/\∀x∈xs,okD n x:=h;have c:=o8 (rec:=fW (n+1)) (β:=β) xs λx a=>qS n x β (h'.2 x a);have b:(PR xs.length (D.bl Pe)).length<=PQ:=by rw[Q1];exact h'.1
  unfold fW dj jG;simp only[aJ,dR,nJ,fF,dn,gIf,Pu.gNil,ij,rp,j3,rn,kE,rm,hNo,af,fC,f1,f2,ao,aa,aA,bB,fB,ik,nQ,gq,iE,ly,fOr,rE,fIf,eD,bZ,bN,iZ,nN,nA,nz,M.bind,M.ret,M.ofO,M.fail,vw,vwA,stD,Py,Rk,RM,RK,R6,R5,Pz,R0,Sx,Qm,Qe,Rb,QZ,RW,Nat.reduceSub,Nat.reduceAdd,Nat.reduceLT,Nat.reduceLeDiff,Int.reduceLT,Int.reduceLE,nZ,kF,nS,nW,rF,rG,rH,rJ,lA,lz,nY,nV,nX,nU,R8,asB,kQ,ii,nl,isN,oU,cu,d6,sgT,h9,jQ,sgN,QK,Q3,Th,cc,rR,cV,fX,tyD,jZ,jY,Qv,Qw,reduceIte,Q6,Sb,Tf,SU,PF,f9,gz,cw,ui,eG,cSt,c,b,inD,vO,wO,d8,Tp]
 |0,.lst _,_,h=>h.elim
 |0,.tup _,_,h=>h.elim
 |_,.ty _,_,h=>by cases ‹Nat›<;>exact h.elim
 |_,.txt,_,h=>by cases ‹Nat›<;>exact h.elim
 |_,.scr _,_,h=>by cases ‹Nat›<;>exact h.elim
 |0,.obj _ _ _,_,h=>h.elim
 |_+1,.obj _ _ _,_,h=>h.elim
 |_,.bag,_,h=>by cases ‹Nat›<;>exact h.elim
 |0,.adr _,_,h=>h.elim
 |_+1,.adr _,_,h=>h.elim
 |0,.dct _ _ _,_,h=>h.elim
 |_+1,.dct _ _ _,_,h=>h.elim
theorem rL{ds os:List D}(a:it δ β=on (.ok ds,β1))(c:cLp tg tt b ds (cSt nv caps δ) β1=on (.ok os,β2))(d:os.length<=PQ):cw nv caps it tg tt b δ β=on (.ok (.lst os),β2):=by
 unfold cw;simp only[a,c,d,Qv]
def plD:Nat->D->Prop
 |_,.int _=>True
 |_,.bl _=>True
 |_,.non=>True
 |n+1,.lst xs=>∀x∈xs,plD n x
 |n+1,.tup xs=>∀x∈xs,plD n x
 |_,_=>False
theorem J8:∀(n:Nat) (d:D),plD n d->∃p,toP d=on p/\p.canLay0=Pe/\p.depth<=n+1:=by
 have a:∀(n:Nat) (xs:List D),(∀x∈xs,∃p,toP x=on p/\p.canLay0=Pe/\p.depth<=n)->∃ps,toPs xs=on ps/\TM ps=Pe/\V6 ps<=n:=by
  intro n xs
  induction xs with
  |nil=>intro _;exact⟨[],rfl,rfl,by simp[V6]⟩
  |cons x xs ih=>
   intro h;obtain⟨p,g,j,l⟩:=h x Pn;obtain⟨ps,b,c,f⟩:=ih λy k=>h y (Pg _ k);refine⟨p::ps,?_,?_,?_⟩
   ·unfold toPs;simp only[g,b]
   ·simp[TM,j,c]
   ·simp only[V6];omega
 intro n
 induction n with
 |zero=>
  intro d h;cases d with
  |int i=>exact⟨.int i,rfl,rfl,by simp[S4]⟩
  |bl i=>exact⟨.bool i,rfl,rfl,by simp[S4]⟩
  |non=>exact⟨.none,rfl,rfl,by simp[S4]⟩
  |_=>exact h.elim
 |succ n ih=>
  intro d h;cases d with
  |int i=>exact⟨.int i,rfl,rfl,by simp[S4]⟩
  |bl i=>exact⟨.bool i,rfl,rfl,by simp[S4]⟩
  |non=>exact⟨.none,rfl,rfl,by simp[S4]⟩
  |lst xs=>
   obtain⟨ps,b,c,f⟩:=a (n+1) xs λx e=>ih x (h x e);exact⟨.list ps,by unfold toP;simp[b],by simp[Uu,c],by simp only[S4];omega⟩
  |tup xs=>
   obtain⟨ps,b,c,f⟩:=a (n+1) xs λx e=>ih x (h x e);exact⟨.tuple ps,by unfold toP;simp[b],by simp[Uu,c],by simp only[S4];omega⟩
  |_=>exact h.elim
theorem vI(n:Nat)(h:plD n d)(hn:n<=60):iF d=Pe:=by
 obtain⟨p,a,b,c⟩:=J8 n d h;unfold iF;simp only[a,Ul,b,Tq,Qx];omega
end L2.Pu
namespace L2.Pu
open PySem PySem.Spec PyProof.Rows
section
variable{X:Cx}{E:St->XK}{K:PZ}{a b:Expr}{es:List Expr}{pos:Uj}
theorem To.none(t:To F H H1 β1)(h:H1 p=Pb):H p=Pb:=by
 cases q:H p with
 |none=>rfl
 |some o=>
  have:H1 p=on o:=t.kp p o q λb l e=>by
   obtain⟨c,d⟩:=t.fr.bag b l e;exact⟨λw=>(by subst w;rw[c]at h;cases h),λw=>(by subst w;rw[d]at h;cases h)⟩
  rw[this]at h;cases h
noncomputable def Fx.but(F:Fx)(a:Pk):Fx:=⟨λc=>F.A c\/c=a,F.bg⟩
theorem Fx.tr_but{F:Fx}(fr:Fr F H β1)(d:H p=Pb)(hs:∀c o,H c=on o->H1 c=on o):Tr F H (F.but p) H1:=⟨λc e f z=>by
 rcases z with z|z
 ·exact e z
 ·subst z;exact f d,λc o _ h=>hs c o h,rfl⟩
theorem Fx.tr_of{F:Fx}:Tr (F.but p) H F H:=⟨λc h _ z=>h (Ru z),λ_ _ _ h=>h,rfl⟩
def mS(K:PZ)(F:Fx)(H0 H:Hp)(ds:List D)(v:V):Prop:=∃a xs,v= .ref a/\H0 a=Pb/\H a=on (.lst xs)/\DenL K (F.but a) H ds xs
def tVO(K:PZ)(f:FL)(E:St->XK):TE:=λc H Q=>∃F δ β,Fr F H β/\VOk K F H δ c/\run (mS K F H) F E c (f δ) H Q β
def tVG(K:PZ)(f:Dn->M (List (List D)))(E:St->XK):TE:=λc H Q=>∃F δ β,Fr F H β/\VOk K F H δ c/\run (hV K F H) F E c (f δ) H Q β
noncomputable def szL(ds:List D):Option (List D):=if ds.length<=PQ then on ds else Pb
theorem mS.new(t:To F H H1 β1)(d:H1 p=Pb)(hd:DenL K F H1 ds xs):mS K F H (upd H1 p (.lst xs)) ds (.ref p):=
 ⟨p,xs,rfl,t.none d,ar,DenL.tr (Fx.tr_but t.fr d λc o h=>by rw[upd_ne (aB h d)];exact h) _ _ hd⟩
theorem DenL.rep(h:DenL K F H ds xs):∀n:Nat,DenL K F H (PR n ds).flatten (PR n xs).flatten
 |0=>rfl
 |n+1=>by
  rw[Qm,Sm,Qm,Sm];exact DenL.append h (DenL.rep h n)
noncomputable def uI(ds:List D)(d:D):Option (List D):=match d with
 | .int k=>if(decide (-(2^63)<=k)&&decide (k<2^63)&&decide (ds.length<=PQ)&&decide (ds.length*k.toNat<=PQ))=Pe then on (PR k.toNat ds).flatten else Pb
 |_=>Pb
def DA(g:FL)(f:FD):FL:=λδ=>M.bind (g δ) λds=>M.bind (M.ofO (szL ds)) λds=>M.bind (f δ) λd=>M.ofO (uI ds d)
theorem Oz(ha:PA X es (tVA X.K g E))(O:PE X b (tV X.K f E)):PE X (.BinOp (.List es pos') .Mult b pos) (tVO X.K (DA g f) E):=
 (dY L7 (eW ha) O).imp λT H Q j=>ex6 j λF δ β fr B r=>⟨F,δ,β,fr,B,(run.bind (R:=DenL X.K F) r).mono λvs U j=>by
  obtain⟨ds,β1,t,hd,r1⟩:=j;obtain⟨W,n,Y⟩:=run.ofO_bind r1;unfold szL at n;split at n
  ·rename_i Z
   cases n;refine⟨by rw[←hd.length];exact Z,λp I=>?_⟩;have m:=t.fr.upd (.lst vs) I;have J:=t.fr.fresh I;refine⟨F,δ,β1,m.fr,(B.tr (t.tr fr)).tr (m.tr t.fr),?_⟩;obtain⟨L,β2,e,h⟩:=Y;have u:run (mS X.K F H) F E T (M.bind (f δ) λd=>M.ofO (uI ds d)) (upd U p (.lst vs)) Q β1:=by
    refine⟨L,β2,e,?_⟩;cases L with
    |ok d=>exact λv y c=>h v y (m.trans c)
    |error C=>exact λy c=>h y (m.trans c)
   refine(run.bind (R:=Den X.K F) u).mono λw H2 j=>ex5 j λd β3 c hw r3=>?_;obtain⟨os,i,k⟩:=run.ofO r3;unfold uI at i;split at i
   ·split at i
    ·rename_i kk o
     cases i;simp only[Qj,Qx]at o;cases hw;have A:H2 p=on (.lst vs):=c.kp p _ ar λb l q=>⟨λz=>J (z▸(fr.bgA b l q).1),λz=>J (z▸(fr.bgA b l q).2.1)⟩;have tt:=m.trans c;exact⟨p,_,vs,rfl,rfl,A,o.1.1.1,o.1.1.2,by rw[←hd.length];exact o.2,λq N=>k _ _ (c.fr.upd _ N) (mS.new (t.trans tt) N ((DenL.tr (tt.tr t.fr) _ _ hd).rep _))⟩
    ·cases i
   ·cases i
  ·cases n⟩
def gr(nv:Nat)(caps:List Nat)(it:Dn->M (List Pu.D))(tg:TgF)(tt:Dn->M Bool)(b:Dn->M (List Pu.D)):Dn->M (List Pu.D):=λδ β=>match it δ β with
 |none=>Pb
 |some (.error C,β1)=>on (.error C,β1)
 |some (.ok ds,β1)=>match cLp tg tt b ds (cSt nv caps δ) β1 with
  |some (.ok os,β2)=>if os.length<=PQ then on (.ok os,β2)else Pb
  |_=>Pb
theorem yH{vars:List Qn}{caps:List Nat}{it:Dn->M (List Pu.D)}{g:TG}{tg:TgF}{tt:Dn->M Bool}{I:Pk->TB}{b:Dn->M (List Pu.D)}(U:cS K g tg)(W:dS tg)(Y:∀D,jO K D (I D) b){L:St}{H:Hp}{Q:VK}(h:tVO K (gr vars.length caps it tg tt b) E L H Q):
  pz vars caps (iV K it E) (λD J=>di J g (tVT K tt E0) (I D)) L H Q:=by
 obtain⟨F,δ,β,fr,N,r,k,e,h⟩:=h;unfold gr at e;refine⟨F,δ,β,fr,N,?_⟩;split at e
 ·cases e
 ·rename_i C β1 q
  cases e;exact⟨.error C,_,q,h⟩
 ·rename_i ds β1 q
  split at e
  ·rename_i os β2 q2
   split at e
   ·rename_i Z
    cases e;refine⟨.ok ds,β1,q,λJ j t hJ D c=>?_⟩;have d:¬F.A D:=t.fr.fresh c;have nb:∀b l,F.bg=on (b,l)->D≠b/\D≠l:=λb l z=>⟨λw=>d (w▸(fr.bgA b l z).1),λw=>d (w▸(fr.bgA b l z).2.1)⟩;have O:=t.fr.upd (.lst []) c;have m:Fr ⟨λa=>F.A a\/a=D,F.bg⟩ (upd j D (.lst [])) β1:=by
     refine⟨λa ha z=>?_,λb l z=>let ⟨x,y,w⟩:=fr.bgA b l z;⟨.inl x,.inl y,w⟩,O.fr.bag⟩
     rcases ha with ha|ha
     ·exact O.fr.occ a ha z
     ·subst ha;rw[ar]at z;cases z
    have f:Tr F j ⟨λa=>F.A a\/a=D,F.bg⟩ (upd j D (.lst [])):=⟨λa ha hs z=>by
     rcases z with z|z
     ·exact ha z
     ·subst z;exact hs c,λa o ha z=>by rw[upd_ne (aB z c)];exact z,rfl⟩
    refine nu (R:=RL K) (D:=D) (as:=[]) (os:=os) U W (Y D) m (.inr rfl) nb (qA (N.tr ((t.tr fr).trans f))) ⟨[],ar,rfl⟩ (hJ.tr f) q2 (show os.length<=PQ from Z) λσ1 T p vk3 u=>?_;obtain⟨i,v,B⟩:=u;have tf:To F j T k:=by
     refine⟨λa o z n=>p.kp a o (by rw[upd_ne (aB z c)];exact z) (aB z c) n,λa ha z=>p.fr.occ a (Ru ha) z,fr.bgA,p.fr.bag⟩
    exact h _ T (t.trans tf) ⟨D,i,rfl,t.none c,v,B⟩
   ·cases e
  ·cases e
def o9(tg:TgF)(tt:Dn->M Bool)(b:Dn->M (List (List Pu.D))):List Pu.D->Dn->M (List (List Pu.D))
 |[],_=>M.ret []
 |d::ds,δ=>match tg d δ with
  |none=>M.fail
  |some δ1=>M.bind (tt δ1) λc=>M.bind (if c=Pe then b δ1 else M.ret []) λo=>M.bind (o9 tg tt b ds δ) λos=>M.ret (o++os)
def RwA(K:PZ)(F:Fx)(D:Pk)(H0 H:Hp)(as:List (List Pu.D))(acc:List V):Prop:=(∀c,H0 c≠Pb->H c≠Pb)/\∃rs,acc=rs.map V.ref/\(D::rs).Nodup/\RowL K F H (λr=>H0 r=Pb) as rs
theorem RwA.mono{F:Fx}{D:Pk}(g:F.A D)(i:∀b l,F.bg=on (b,l)->H0 b≠Pb/\H0 l≠Pb)(fr:Fr F H β)(t:ToD F D H H1 β1)(h:RwA K F D H0 H as acc):RwA K F D H0 H1 as acc:=by
 obtain⟨cv,rs,e,nd,j⟩:=h;refine⟨λc k z=>?_,rs,e,nd,RowL.tr (t.tr fr g) j λr xs m p q=>⟨p,t.kp r _ q (λz=>?_) λb l w=>⟨λz=>?_,λz=>?_⟩⟩⟩
 ·cases q:H c with
  |none=>exact cv c k q
  |some o=>
   by_cases hd:c=D
   ·subst hd;exact t.fr.occ _ g z
   ·by_cases d:∃b l,F.bg=on (b,l)/\(c=b\/c=l)
    ·obtain⟨b,l,w,f⟩:=d
     rcases f with rfl|rfl
     ·exact t.fr.occ _ (fr.bgA _ _ w).1 z
     ·exact t.fr.occ _ (fr.bgA _ _ w).2.1 z
    ·rw[t.kp c o q hd λb l w=>⟨λy=>d ⟨b,l,w,.inl y⟩,λy=>d ⟨b,l,w,.inr y⟩⟩]at z
     cases z
 ·subst z;exact(Qu.mp nd).1 m
 ·subst z;exact(i _ _ w).1 p
 ·subst z;exact(i _ _ w).2 p
def qE(K:PZ)(D:Pk)(i:TB)(f:Dn->M (List (List Pu.D))):Prop:=∀(F:Fx) (H0 H:Hp) (δ:Dn) (β d:Bg) (h:St) (acc:List V) (as os:List (List Pu.D)) (Q:St->Hp->Prop),Fr F H β->F.A D->(∀b l,F.bg=on (b,l)->D≠b/\D≠l)->(∀b l,F.bg=on (b,l)->H0 b≠Pb/\H0 l≠Pb)->VOk K F H δ h->H D=on (.lst acc)->RwA K F D H0 H as acc->
 f δ β=on (.ok os,d)->as.length+os.length<=PQ->(∀e g c,ToD F D H g d->VOk K F g δ e->g D=on (.lst c)->RwA K F D H0 g (as++os) c->Q e g)->i h H Q
def rP(f:Dn->M (List Pu.D)):Dn->M (List (List Pu.D)):=λδ=>M.bind (f δ) λd=>M.ret [d]
theorem RowL.snoc{P:Pk->Prop}(p:P r)(c:H r=on (.lst xs))(d:DenL K F H ds xs):∀{rows:List (List Pu.D)} {rs:List Pk},RowL K F H P rows rs->RowL K F H P (rows++[ds]) (rs++[r])
 |[],[],_=>⟨p,⟨xs,c,d⟩,trivial⟩
 |_::_,_::_,h=>⟨h.1,h.2.1,RowL.snoc p c d h.2.2⟩
 |[],_::_,h=>h.elim
 |_::_,[],h=>h.elim
theorem rc{D:Pk}:qE K D (ym D (tVO K f E0)) (rP f):=λF H0 H δ β i Z acc as os Q fr j m R T U hd e hz k=>by
 obtain⟨d,β1,e1,e2⟩:=M.bind_inv e;cases e2;refine⟨F,δ,β,fr,T,E0.run e1 λv W t hv=>?_⟩;have p:=t.kp D _ U m;have u:=hd.mono j R fr (t.toD D);obtain⟨r,xs,rfl,n0,n1,n2⟩:=hv;obtain⟨cv,rs,A,nd,Y⟩:=u;obtain⟨B,c,C,I,J⟩:=hd;have g:acc.length=as.length:=by rw[A,Pa,Y.len]
 have L:c=rs:=by
  have:c.map V.ref=rs.map V.ref:=C.symm.trans A;exact VM (λa b q=>by cases q;rfl)|>.mp this
 subst L;have nD:r≠D:=λz=>by subst z;rw[U]at n0;cases n0
 have nr:r∉c:=λz=>by
  obtain⟨_,ys,q⟩:=J.all r z;rw[q]at n0;cases n0
 have N:H0 r=Pb:=by
  cases q:H0 r with
  |none=>rfl
  |some o=>exact P6 n0 (B r (by rw[q];simp))
 refine⟨acc,p,by rw[g];simp at hz;omega,?_⟩;have O:ToD F D W (upd W D (.lst (acc++[.ref r]))) i:=by
  refine⟨λa o h n _=>by rw[upd_ne n];exact h,λa h q=>?_,fr.bgA,λb l q=>?_⟩
  ·by_cases z:a=D
   ·subst z;rw[ar]at q;cases q
   ·rw[upd_ne z]at q;exact t.fr.occ a h q
  ·rw[upd_ne (m b l q).1.symm,upd_ne (m b l q).2.symm]
   exact t.fr.bag b l q
 have tt:=O.tr t.fr j;refine k Z _ _ ((t.toD D).trans O) (T.tr ((t.tr fr).trans tt)) ar (RwA.mono j R t.fr O ⟨cv,c++[r],by rw[A,Qh];rfl,?_,RowL.snoc N n1 (DenL.tr Fx.tr_of _ _ n2) Y⟩);rw[←Rb,VX];refine⟨I,by simp,λx hx y hy=>?_⟩;obtain rfl:y=r:=by simpa using hy
 rcases PL.mp hx with rfl|hx
 ·exact nD.symm
 ·exact λz=>nr (z▸hx)
end
section
variable{X:Cx}{E:St->XK}{K:PZ}
theorem Kw{D:Pk}(hg:cS K g tg)(sg:dS tg)(hb:qE K D tb b){F:Fx}{as os:List (List Pu.D)}(fr:Fr F H β)(Z:F.A D)(hn:∀b l,F.bg=on (b,l)->D≠b/\D≠l)(h0:∀b l,F.bg=on (b,l)->H0 b≠Pb/\H0 l≠Pb)(vk:VOk K F H δ σ)(hD:H D=on (.lst acc))(hd:RwA K F D H0 H as acc)
  (it:ItD K J F H ds) (e:o9 tg tt b ds δ β=on (.ok os,β')) (hz:as.length+os.length<=PQ) (k:∀f n a,ToD F D H n β'->VOk K F n δ f->n D=on (.lst a)->RwA K F D H0 n (as++os) a->Q f n):di J g (tVT K tt E0) tb σ H Q:=by
 refine⟨λi m f n=>m+i=ds.length/\∃β1 a j t,ToD F D H n β1/\VOk K F n δ f/\n D=on (.lst a)/\RwA K F D H0 n j a/\o9 tg tt b (ds.drop i) δ β1=on (.ok t,β')/\j++t=as++os,
  ⟨ds.length,by omega,β,acc,as,os,⟨λ_ _ h _ _=>h,fr⟩,vk,hD,hd,e,rfl⟩,?_⟩
 rintro i m f n ⟨hm,β1,a,j,t,u,B,C,I,r,ea⟩;have tr1:=u.tr fr Z;obtain⟨iy,is⟩:=it F n β1 tr1 u.fr i;cases hi:ds[i]? with
 |none=>
  have hl:ds.length<=i:=UJ.mp hi;rw[RB hl]at r;cases r;refine .inl ⟨is (by omega),k f n a u B C ?_⟩;rw[←ea,Qe];exact I
 |some d=>
  have hl:i<ds.length:=(Px.mp hi).1;obtain⟨go,yl⟩:=iy d hi;have ed:ds.drop i=d::ds.drop (i+1):=by
   rw[Qr hl];congr 1;exact Qd ((Pd hl).symm.trans hi)
  rw[ed]at r;unfold o9 at r;cases q:tg d δ with
  |none=>rw[q]at r;cases r
  |some δ1=>
   rw[q]at r;obtain⟨c,β2,e2,e3⟩:=M.bind_inv r;obtain⟨o,β3,e4,e5⟩:=M.bind_inv e3;obtain⟨L,β4,e6,e7⟩:=M.bind_inv e5;cases e7;obtain⟨s1,s2⟩:=sg _ _ _ q;refine .inr ⟨go,λN O=>∃p,ToD F D H O β3/\VOk K F O δ N/\O D=on (.lst p)/\RwA K F D H0 O (j++o) p,?_,λx H2 hy=>?_⟩
   ·rintro N O ⟨p,t9,vk9,hD9,hd9⟩
    exact⟨m-1,by omega,by omega,β3,p,j++o,L,t9,vk9,hD9,hd9,e6,by rw[QJ];exact ea⟩
   ·obtain⟨sm,dx⟩:=yl x H2 hy
    have y:To F n H2 β1:=u.fr.same sm;have tr2:=y.tr u.fr;refine hg F H2 δ δ1 f d x _ (B.tr tr2) dx q λσ2 v=>⟨F,δ1,β1,y.fr,v,E0.run e2 λc' H3 R ec=>?_⟩;subst ec;have hD2:=sm _ _ C;have T:=R.kp D _ hD2 hn;have U:=R.tr y.fr;have d3:=(I.mono Z h0 u.fr (y.toD D)).mono Z h0 y.fr (R.toD D);have W:ToD F D H H3 β2:=u.trans ((y.trans R).toD D);have hle:j.length+(o++L).length<=PQ:=by
     have:=QN Vu ea;simp only[PM]at this⊢;omega
    cases c' with
    |true=>
     rw[Ps rfl]at e4⊢;refine hb F H0 H3 δ1 β2 β3 σ2 a j o _ R.fr Z hn h0 (v.tr U) T d3 e4 (by rw[PM]at hle;omega) λσ4 H4 Y t4 vk4 hD4 hd4=>?_;exact⟨Y,W.trans t4,vk4.sub s1 s2,hD4,hd4⟩
    |false=>
     rw[Po Pw]at e4⊢;cases e4;exact⟨a,W,(v.tr U).sub s1 s2,T,by rw[Qe];exact d3⟩
def g0(nv:Nat)(caps:List Nat)(it:Dn->M (List Pu.D))(tg:TgF)(tt:Dn->M Bool)(b:Dn->M (List (List Pu.D))):Dn->M (List (List Pu.D)):=λδ β=>match it δ β with
 |none=>Pb
 |some (.error C,β1)=>on (.error C,β1)
 |some (.ok ds,β1)=>match o9 tg tt b ds (cSt nv caps δ) β1 with
  |some (.ok os,β2)=>if os.length<=PQ then on (.ok os,β2)else Pb
  |_=>Pb
theorem sd{vars:List Qn}{caps:List Nat}{it:Dn->M (List Pu.D)}{g:TG}{tg:TgF}{tt:Dn->M Bool}{I:Pk->TB}{b:Dn->M (List (List Pu.D))}(U:cS K g tg)(W:dS tg)(Y:∀D,qE K D (I D) b){L:St}{H:Hp}{Q:VK}(h:tVG K (g0 vars.length caps it tg tt b) E L H Q):
  pz vars caps (iV K it E) (λD J=>di J g (tVT K tt E0) (I D)) L H Q:=by
 obtain⟨F,δ,β,fr,N,r,k,e,h⟩:=h;unfold g0 at e;refine⟨F,δ,β,fr,N,?_⟩;split at e
 ·cases e
 ·rename_i C β1 q
  cases e;exact⟨.error C,_,q,h⟩
 ·rename_i ds β1 q
  split at e
  ·rename_i os β2 q2
   split at e
   ·rename_i Z
    cases e;refine⟨.ok ds,β1,q,λJ f t hJ D d=>?_⟩;have i:¬F.A D:=t.fr.fresh d;have nb:∀b l,F.bg=on (b,l)->D≠b/\D≠l:=λb l z=>⟨λw=>i (w▸(fr.bgA b l z).1),λw=>i (w▸(fr.bgA b l z).2.1)⟩;have O:=t.fr.upd (.lst []) d;have m:Fr ⟨λa=>F.A a\/a=D,F.bg⟩ (upd f D (.lst [])) β1:=by
     refine⟨λa ha z=>?_,λb l z=>let ⟨x,y,w⟩:=fr.bgA b l z;⟨.inl x,.inl y,w⟩,O.fr.bag⟩
     rcases ha with ha|ha
     ·exact O.fr.occ a ha z
     ·subst ha;rw[ar]at z;cases z
    have j:Tr F f ⟨λa=>F.A a\/a=D,F.bg⟩ (upd f D (.lst [])):=⟨λa ha hs z=>by
     rcases z with z|z
     ·exact ha z
     ·subst z;exact hs d,λa o ha z=>by rw[upd_ne (aB z d)];exact z,rfl⟩
    have cv:∀c,H c≠Pb->upd f D (.lst []) c≠Pb:=λc hc z=>by
     by_cases w:c=D
     ·subst w;rw[ar]at z;cases z
     ·rw[upd_ne w]at z;exact hc (t.none z)
    refine Kw (D:=D) (H0:=H) (as:=[]) (os:=os) U W (Y D) m (.inr rfl) nb (λb l z=>⟨fr.occ _ (fr.bgA b l z).1,fr.occ _ (fr.bgA b l z).2.1⟩) (qA (N.tr ((t.tr fr).trans j))) ar ⟨cv,[],rfl,by simp,trivial⟩ (hJ.tr j) q2 (by simpa using Z) λσ1 R T u vk3 v B=>?_;have tf:To F f R k:=by
     refine⟨λa o z n=>u.kp a o (by rw[upd_ne (aB z d)];exact z) (aB z d) n,λa ha z=>u.fr.occ a (Ru ha) z,fr.bgA,u.fr.bag⟩
    obtain⟨_,rs,ea,nd,rl⟩:=B;subst ea;exact h _ R (t.trans tf) ⟨D,rs,rfl,t.none d,v,nd,RowL.tr (F:=⟨λa=>F.A a\/a=D,F.bg⟩) ⟨λa ha _ z=>ha (Ru z),λa o _ z=>z,rfl⟩ rl λr xs _ p q=>⟨p,q⟩⟩
   ·cases e
  ·cases e
section
variable{elt target iter:Expr}{ifs:List Expr}{rest:List Rm}{scope:Scope}{pos:Uj}{Nc vars:List Qn}{caps:List Nat}{g:TG}{tb:Pk->TB}
theorem zD(c:X.calm=Pe)(S:CmpScope X scope Nc vars caps)(d:PI X target iter (iV X.K it E))
  (e:∀(cl:List (Qn×Pk)) (C:Pk) (a:List Pk) (s:Pr) (H:Hp),PG (aI X Nc scope cl C a s H) target g/\dU (aI X Nc scope cl C a s H) ifs (tVT X.K tt E0)/\∀D,PB (aI X Nc scope cl C a s H) elt (⟨target,iter,ifs,0⟩::rest) scope pos 0 D (tb D))
  (f:cS X.K g tg) (i:dS tg) (j:∀D,jO X.K D (tb D) b) (hs:∀x,QA iter X.env x=RZ x:=by intro _;rfl):PE X (.ListComp elt (⟨target,iter,ifs,0⟩::rest) scope pos) (tVO X.K (gr vars.length caps it tg tt b) E):=
 (nc c S d e hs).imp λk H Q h=>yH f i j h
theorem AL(c:X.calm=Pe)(S:CmpScope X scope Nc vars caps)(d:PI X target iter (iV X.K it E))
  (e:∀(cl:List (Qn×Pk)) (C:Pk) (a:List Pk) (s:Pr) (H:Hp),PG (aI X Nc scope cl C a s H) target g/\dU (aI X Nc scope cl C a s H) ifs (tVT X.K tt E0)/\∀D,PB (aI X Nc scope cl C a s H) elt (⟨target,iter,ifs,0⟩::rest) scope pos 0 D (tb D))
  (f:cS X.K g tg) (i:dS tg) (j:∀D,qE X.K D (tb D) b) (hs:∀x,QA iter X.env x=RZ x:=by intro _;rfl):PE X (.ListComp elt (⟨target,iter,ifs,0⟩::rest) scope pos) (tVG X.K (g0 vars.length caps it tg tt b) E):=
 (nc c S d e hs).imp λk H Q h=>sd f i j h
end
mutual
noncomputable def noL:D->Bool
 | .int _=>Pe
 | .bl _=>Pe
 | .str _=>Pe
 | .non=>Pe
 | .tup ds=>noLs ds
 |_=>Pj
noncomputable def noLs:List D->Bool
 |[]=>Pe
 |d::ds=>noL d&&noLs ds
end
mutual
theorem wC{F b:Fx}(hF:∀c,b.A c->F.A c\/∃xs,H c=on (.lst xs)):∀(d:D) (v:V),noL d=Pe->Den K F H d v->Den K b H d v
 | .int i,v,_,h=>h
 | .bl i,v,_,h=>h
 | .str i,v,_,h=>h
 | .non,v,_,h=>h
 | .tup ds,v,n,h=>by
  obtain⟨a,xs,e,h1,f⟩:=h;refine⟨a,xs,e,?_,noLs_den hF ds xs (by simpa[noL]using n) f⟩;rcases h1 with⟨h1,r⟩|h1
  ·refine .inl ⟨λz=>?_,r⟩
   rcases hF a z with z|⟨ys,z⟩
   ·exact h1 z
   ·rcases r with r|⟨o,r⟩<;>rw[z]at r<;>cases r
  ·exact .inr h1
 | .lst _,_,n,_=>by simp[noL]at n
 | .scr _,_,n,_=>by simp[noL]at n
 | .ty _,_,n,_=>by simp[noL]at n
 | .txt,_,n,_=>by simp[noL]at n
 | .obj _ _ _,_,n,_=>by simp[noL]at n
 | .bag,_,n,_=>by simp[noL]at n
 | .adr _,_,n,_=>by simp[noL]at n
 | .dct _ _ _,_,n,_=>by simp[noL]at n
theorem noLs_den{F a:Fx}(hF:∀c,a.A c->F.A c\/∃xs,H c=on (.lst xs)):∀(ds:List D) (xs:List V),noLs ds=Pe->DenL K F H ds xs->DenL K a H ds xs
 |[],xs,_,h=>h
 |d::ds,xs,n,h=>by
  have b:noL d=Pe/\noLs ds=Pe:=by simpa[noLs]using n
  obtain⟨x,f,e,g,i⟩:=h;exact⟨x,f,e,wC hF d x b.1 g,noLs_den hF ds f b.2 i⟩
end
theorem RowL.noL{F b:Fx}{P d:Pk->Prop}(hF:∀c,b.A c->F.A c\/∃xs,H c=on (.lst xs)):∀{rows:List (List D)} {rs:List Pk},(∀ds∈rows,noLs ds=Pe)->RowL K F H P rows rs->(∀r∈rs,d r)->RowL K b H d rows rs
 |[],[],_,_,_=>trivial
 |ds::rows,r::rs,n,h,p=>by
  obtain⟨i,⟨xs,e,f⟩,g⟩:=h;exact⟨p r Pn,⟨xs,e,noLs_den hF _ _ (n ds Pn) f⟩,RowL.noL hF (λx a=>n x (Pg _ a)) g λx a=>p x (Pg _ a)⟩
 |[],_::_,_,h,_=>h.elim
 |_::_,[],_,h,_=>h.elim
theorem SOk.newGrd{δ:Ds}{W:St}(ok:SOk K H₀ B bg H δ β W)(t:To (FxB B bg) H H' β')(hn:∀ds∈rows,noLs ds=Pe)(hv:hV K (FxB B bg) H H' rows v):
  ∃X,SOk K H₀ X bg H' (δ.set i (on (.grd rows))) β' (W.set i (on v))/\Stp B H X H':=by
 classical
 obtain⟨a,rs,rfl,n0,L,nd,I⟩:=hv;have g:∀c,c=a\/c∈rs->H c=Pb:=λc hc=>by
  rcases hc with rfl|hc
  ·exact n0
  ·exact(I.all c hc).1
 have hB:∀c,c=a\/c∈rs->B c=Pb:=λc hc=>Uh λz=>ok.fr.occ c z (g c hc);have Y:∀b l,bg=on (b,l)->¬(b=a\/b∈rs)/\¬(l=a\/l∈rs):=λb l e=>by
  obtain⟨b1,b2⟩:=ok.bgt b l e;exact⟨λz=>(by rw[hB b z]at b1;cases b1),λz=>(by rw[hB l z]at b2;cases b2)⟩
 obtain⟨m,Z⟩:=ok.to rfl t;have J:Stp B H (λc=>if c=a\/c∈rs then on (i+2)else B c) H':=by
  refine⟨Z.kp,λc hc=>?_,λc o h n=>?_,Z.al⟩
  ·have:¬(c=a\/c∈rs):=λz=>by rw[hB c z]at hc;rcases hc with hc|hc<;>cases hc
   simp only[Po this]
  ·have:¬(c=a\/c∈rs):=λz=>by rw[g c z]at h;cases h
   simp only[Po this];exact n
 have tr:Tr (FxB B bg) H (FxB (λc=>if c=a\/c∈rs then on (i+2)else B c) bg) H':=J.tr;refine⟨λc=>if c=a\/c∈rs then on (i+2)else B c,⟨⟨λc hc z=>?_,λb l e=>?_,m.fr.bag⟩,λb l e=>?_,by rw[Qs,Qs,ok.len],m.cov,λc k hc=>(by
  have f:(if c=a\/c∈rs then on (i+2)else B c)=on (k+2):=hc;by_cases z:c=a\/c∈rs
  ·cases w:H₀ c with
   |none=>rfl
   |some o=>exact P6 (g c z) (ok.cov c (by rw[w];simp))
  ·rw[Po z]at f;exact ok.new c k f),λc k hc=>(by
  have f:(if c=a\/c∈rs then on (i+2)else B c)=on (k+2):=hc;by_cases z:c=a\/c∈rs
  ·rcases z with rfl|z
   ·exact⟨_,L⟩
   ·exact(I.all c z).2
  ·rw[Po z]at f;exact m.lst c k f),λj s e=>?_⟩,J⟩
 ·by_cases q:c=a\/c∈rs
  ·rcases q with rfl|q
   ·rw[L]at z;cases z
   ·obtain⟨_,xs,w⟩:=I.all c q
    rw[w]at z;cases z
  ·have f:(if c=a\/c∈rs then on (i+2)else B c)≠Pb:=hc
   rw[Po q]at f;exact m.fr.occ c f z
 ·obtain⟨O,Q⟩:=Y b l e
  obtain⟨b1,b2⟩:=ok.bgt b l e;refine⟨?_,?_,(ok.fr.bgA b l e).2.2⟩
  ·show(if b=a\/b∈rs then on (i+2)else B b)≠Pb
   rw[Po O,b1];simp
  ·show(if l=a\/l∈rs then on (i+2)else B l)≠Pb
   rw[Po Q,b2];simp
 ·obtain⟨O,Q⟩:=Y b l e
  simp only[Po O,Po Q];exact ok.bgt b l e
 ·rw[Qz]at e
  rw[Qz];by_cases q:i=j
  ·subst q
   rw[Ps rfl]at e⊢;split at e
   ·rename_i hl
    cases e;rw[Ps (by rw[←ok.len];exact hl)];refine⟨_,rfl,a,rs,rfl,Ps (.inl rfl),L,nd,RowL.noL (F:=FxB B bg) (λc hc=>?_) hn I λr hr=>Ps (.inr hr)⟩;have f:(if c=a\/c∈rs then on (i+2)else B c)≠Pb:=hc;by_cases w:c=a\/c∈rs
    ·rcases w with rfl|w
     ·exact .inr ⟨_,L⟩
     ·exact .inr (I.all c w).2
    ·rw[Po w]at f
     exact .inl f
   ·cases e
  ·rw[Po q]at e⊢
   obtain⟨w,R,u⟩:=ok.tell j s e;refine⟨w,R,?_⟩;cases s with
   |sh d=>exact Den.tr tr _ _ u
   |own cs=>
    obtain⟨c,ys,T,A,C,U⟩:=u;have N:¬(c=a\/c∈rs):=λz=>by rw[g c z]at C;cases C
    exact⟨c,ys,T,by simp only[Po N];exact A,t.kp c _ C (λb l z=>⟨λy=>(by subst y;rw[(ok.bgt _ _ z).1]at A;cases A),λy=>(by subst y;rw[(ok.bgt _ _ z).2]at A;cases A)⟩),DenL.tr tr _ _ U⟩
   |grd rows2=>
    obtain⟨c,qs,T,A,C,U,e5⟩:=u;have N:∀c,H c≠Pb->¬(c=a\/c∈rs):=λc hc z=>hc (g c z);have kk:∀c o,H c=on o->B c=on (j+2)->H' c=on o:=λc o R u=>t.kp c o R (λb l z=>⟨λy=>(by subst y;rw[(ok.bgt _ _ z).1]at u;cases u),λy=>(by subst y;rw[(ok.bgt _ _ z).2]at u;cases u)⟩);exact⟨c,qs,T,by simp only[Po (N c (by rw[C];simp))];exact A,kk c _ C A,U,RowL.tr tr e5 λr xs _ p y=>⟨by simp only[Po (N r (by rw[y];simp))];exact p,kk r _ y p⟩⟩
end
section
variable{X:Cx}{E:St->XK}{K:PZ}{st:QU}{H₀:Hp}{B:Ow}{bg:Option (Pk×Pk)}{H H':Hp}{δ:Ds}{β β':Bg}{σ:St}
def vi(i:Nat)(f:Dn->M (List (List D))):G:=λδ β=>match f (vw δ) β with
 |some (.ok rows,β1)=>if(rows.all noLs)=Pe then on (.nx (δ.set i (on (.grd rows))),β1)else Pb
 |some (.error C,β1)=>on (.ex C δ,β1)
 |none=>Pb
theorem xE(h:PS X st (jP (tVG X.K f E) (fY i))):PS X st (tG X.K X.H₀ (vi i f) E):=h.imp λD σ H g=>by
 obtain⟨B,bg,δ,β,o,β',ok,e,q⟩:=g;refine⟨FxB B bg,vw δ,β,ok.fr,ok.view,?_⟩;unfold vi at e;split at e
 ·rename_i rows β1 b
  split at e
  ·rename_i hn
   cases e;refine⟨.ok rows,_,b,λv H' t hd=>?_⟩;obtain⟨j,a,c⟩:=ok.newGrd (i:=i) t (λds d=>Sz.mp hn ds d) hd;exact q _ _ _ c a
  ·cases e
 ·rename_i C β1 b
  cases e;refine⟨.error C,_,b,λH' t=>?_⟩;obtain⟨a,c⟩:=ok.to rfl t;exact q _ B H' c a
 ·cases e
theorem RowL.put{H:Hp}{P:Pk->Prop}(t:Tr F H F (upd H r (.lst xs)))(hd:DenL K F (upd H r (.lst xs)) ds xs):∀{rows:List (List D)} {rs:List Pk} (j:Nat),RowL K F H P rows rs->rs.Nodup->rs[j]?=on r->RowL K F (upd H r (.lst xs)) P (rows.set j ds) rs
 |d0::rows,r0::rs,0,h,nd,e=>by
  obtain rfl:r0=r:=by simpa using e
  have ne:∀a∈rs,a≠r0:=λa b z=>(Qu.mp nd).1 (z▸b);exact⟨h.1,⟨xs,ar,hd⟩,RowL.tr t h.2.2 λa ys b p q=>⟨p,by rw[upd_ne (ne a b)];exact q⟩⟩
 |d0::rows,r0::rs,j+1,h,nd,e=>by
  have c:rs[j]?=on r:=by simpa using e
  obtain⟨d,⟨ys,f,g⟩,i⟩:=h;have ne:r0≠r:=λz=>(Qu.mp nd).1 (z▸PU c);exact⟨d,⟨ys,by rw[upd_ne ne];exact f,DenL.tr t _ _ g⟩,RowL.put t hd j i (Qu.mp nd).2 c⟩
 |[],[],_,_,_,e=>by simp at e
 |[],_::_,_,h,_,_=>h.elim
 |_::_,[],_,h,_,_=>h.elim
theorem RowL.at{H:Hp}{P:Pk->Prop}:∀{rows:List (List D)} {rs:List Pk} {j:Nat} {ds:List D},RowL K F H P rows rs->rows[j]?=on ds->∃r xs,rs[j]?=on r/\P r/\H r=on (.lst xs)/\DenL K F H ds xs
 |d0::rows,r0::rs,0,ds,h,e=>by
  obtain rfl:d0=ds:=by simpa using e
  obtain⟨a,⟨ys,b,c⟩,g⟩:=h;exact⟨r0,ys,rfl,a,b,c⟩
 |d0::rows,r0::rs,j+1,ds,h,e=>by
  obtain⟨r,xs,d,f⟩:=RowL.at h.2.2 (j:=j) (ds:=ds) (by simpa using e);exact⟨r,xs,by simpa using d,f⟩
 |[],[],_,_,_,e=>by simp at e
 |[],_::_,_,_,h,_=>h.elim
 |_::_,[],_,_,h,_=>h.elim
theorem SOk.writeRow{rs:List Pk}{rows:List (List D)}(ok:SOk K H₀ B bg H δ β σ)(hs:σ[i]?=on (on (.ref a)))(hB:B a=on (i+2))(ha:H a=on (.lst (rs.map V.ref)))(nd:(a::rs).Nodup)(L:RowL K (FxB B bg) H (λr=>B r=on (i+2)) rows rs)(N:rs[j]?=on r)(U:H r=on (.lst ys))(hd:DenL K (FxB B bg) H ds xs):
  SOk K H₀ B bg (upd H r (.lst xs)) (δ.set i (on (.grd (rows.set j ds)))) β σ/\Stp B H B (upd H r (.lst xs)):=by
 have t:r∈rs:=PU N;have f:B r=on (i+2):=(L.all r t).1;have m:Stp B H B (upd H r (.lst xs)):=by
  refine⟨λc o h n=>?_,λ_ _=>rfl,λ_ _ _ n=>n,λc u=>?_⟩
  ·rw[upd_ne]
   ·exact h
   ·intro z;subst z;rw[f]at n;rcases n with n|n<;>cases n
  ·by_cases z:c=r
   ·subst z;rw[ar];simp
   ·rw[upd_ne z];exact u
 have tr:Tr (FxB B bg) H (FxB B bg) (upd H r (.lst xs)):=m.tr;refine⟨⟨⟨λc u z=>?_,ok.fr.bgA,λb l e=>?_⟩,ok.bgt,by rw[Qs,ok.len],λa ha=>m.al a (ok.cov a ha),ok.new,λc k u=>(by
  by_cases z:c=r
  ·subst z;exact⟨xs,ar⟩
  ·rw[upd_ne z];exact ok.lst c k u),λk s e=>?_⟩,m⟩
 ·by_cases q:c=r
  ·subst q;rw[ar]at z;cases z
  ·rw[upd_ne q]at z;exact ok.fr.occ c u z
 ·obtain⟨b1,b2⟩:=ok.bgt b l e
  rw[upd_ne (λz=>by subst z;rw[f]at b1;cases b1),upd_ne (λz=>by subst z;rw[f]at b2;cases b2)];exact ok.fr.bag b l e
 ·rw[Qz]at e
  by_cases q:i=k
  ·subst q
   rw[Ps rfl]at e;split at e
   ·cases e
    have y:a≠r:=λz=>(Qu.mp nd).1 (z▸t);exact⟨_,hs,a,rs,rfl,hB,by rw[upd_ne y];exact ha,nd,RowL.put tr (DenL.tr tr _ _ hd) j L (Qu.mp nd).2 N⟩
   ·cases e
  ·rw[Po q]at e
   obtain⟨v,Q,A⟩:=ok.tell k s e;refine⟨v,Q,?_⟩;have C:∀c,B c=on (k+2)->c≠r:=λc g z=>by subst z;rw[f]at g;cases g;exact q rfl
   cases s with
   |sh d=>exact Den.tr tr _ _ A
   |own cs=>
    obtain⟨c,O,F,g,I,J⟩:=A;exact⟨c,O,F,g,by rw[upd_ne (C c g)];exact I,DenL.tr tr _ _ J⟩
   |grd rows2=>
    obtain⟨c,R,F,g,I,J,T⟩:=A;exact⟨c,R,F,g,by rw[upd_ne (C c g)];exact I,J,RowL.tr tr T λr O _ p q=>⟨p,by rw[upd_ne (C r p)];exact q⟩⟩
def jg(f:Dn->M (List (List D))):G:=λδ β=>match f (vw δ) β with
 |some (.ok rows,β1)=>on (.rg rows,β1)
 |some (.error C,β1)=>on (.ex C δ,β1)
 |none=>Pb
theorem qT(h:PS X (.Return (on e) pos) (BV (tVG X.K f E))):PS X (.Return (on e) pos) (tG X.K X.H₀ (jg f) E):=h.imp λD σ H j=>by
 obtain⟨B,bg,δ,β,o,β',ok,e,q⟩:=j;refine⟨FxB B bg,vw δ,β,ok.fr,ok.view,?_⟩;unfold jg at e;split at e
 ·rename_i rows β1 d
  cases e;refine⟨.ok rows,_,d,λv H' t hd=>?_⟩;obtain⟨b,g⟩:=ok.to rfl t;have i:∀c,H c=Pb->X.H₀ c=Pb:=λc k=>by
   cases w:X.H₀ c with
   |none=>rfl
   |some o=>exact P6 k (ok.cov c (by rw[w];simp))
  obtain⟨a,rs,rfl,n0,l,nd,m⟩:=hd;exact q _ B H' g b.fr ⟨a,rs,rfl,i a n0,l,nd,RowL.tr (Tr.refl _ _) m λr xs _ p y=>⟨i r p,y⟩⟩
 ·rename_i C β1 d
  cases e;refine⟨.error C,_,d,λH' t=>?_⟩;obtain⟨b,g⟩:=ok.to rfl t;exact q _ B H' g b
 ·cases e
def spG(K:PZ)(n:Nat)(m:List D->M (List (List D))):Sp:=λvs H Q E=>vs.length=n/\∃F ds β,Fr F H β/\DenL K F H ds vs/\run (hV K F H) F (λ_=>E) [] (m ds) H Q β
def jL(n:Nat)(g:G):List D->M (List (List D)):=λds β=>match g (stD n ds) β with
 |some (.rg rows,β')=>on (.ok rows,β')
 |some (.ex C _,β')=>on (.error C,β')
 |_=>Pb
variable{P:Qf}{w:Qq}{mg:Qn->Option Pl}{base:QW}
theorem rC{st:QU}{N ps:List Qn}(n m:Nat)(g:G)(F:FunD K x qual st f fd)(S:FnScope N ps (ah st))(L:ps.length=n)(O:N.length=m)
  (j:∀(c:Pl) (A:QP) (outer:List Wr) (s:Pr) (H:Hp) (E:XK),Room k (A.deeper (T7 qual (ah st) s.heap.objs.size f c))->
   PSs (f8 (CXE P w) P w K mg base N qual (ah st) f c A outer s H E) (cR st) (tG K H g (λ_=>E))):FnOk P w K mg base (CXE P w) (k+1) f fd ps (spG K n (jL m g)):=by
 subst L O;refine F.okE S (λvs H Q E h=>h.1) λc A outer s H vs Q E hr h=>?_;obtain⟨hl,u,ds,β,fr,hd,r,β',e,h⟩:=h;refine⟨_,j c A outer s H E hr,?_⟩;obtain⟨B,ok,R,h1,hn⟩:=uu (N:=N) fr hd;have J:∀{I:Ow} {H':Hp},Stp B H I H'->Fr (FxB I u.bg) H' β'->To u H H' β'/\Tr (FxB I u.bg) H' u H':=λ{I H'} s i=>by
  have hs:∀a,u.A a->I a≠Pb:=λa ha=>by
   rw[s.tg a (R a ha)];rcases R a ha with z|z<;>rw[z]<;>simp
  refine⟨⟨λa o ha n=>s.kp a o ha ?_,λa ha=>i.occ a (hs a ha),λb l e=>fr.bgA b l e,i.bag⟩,λa ha _ z=>ha (hs a z),λ_ _ _ h=>h,rfl⟩;cases q:B a with
  |none=>exact .inl rfl
  |some t=>
   have:=R a (hn a (by rw[q];simp));rcases this with z|z
   ·rw[q]at z;exact .inr z
   ·obtain⟨b,l,e,w⟩:=h1 a z
    obtain⟨T,n2⟩:=n b l e;rcases w with w|w
    ·exact P6 w T
    ·exact P6 w n2
 unfold jL at e;split at e
 ·rename_i d β1 U
  cases e;refine⟨B,u.bg,stD N.length ds,β,.rg d,β',ok,U,λv I H' s i hv=>?_⟩;obtain⟨W,t2⟩:=J s i;obtain⟨a,rs,ev,n0,T,nd,rl⟩:=hv;exact h v H' W ⟨a,rs,ev,n0,T,nd,RowL.tr t2 rl λr xs _ p y=>⟨p,y⟩⟩
 ·rename_i C Y β1 U
  cases e;refine⟨B,u.bg,stD N.length ds,β,.ex C Y,β',ok,U,λσ' I H' s Z=>?_⟩;obtain⟨W,t2⟩:=J s Z.fr;exact h H' W
 ·cases e
variable{e:Expr}{es:List Expr}{pos p:Uj}{x:Qn}{k n:Nat}{f:Pk}{fd:P9}{ps:List Qn}
def qu(m:List D->M (List (List D)))(g:FL):Dn->M (List (List D)):=λδ=>M.bind (g δ) λas=>m as
theorem hV.pre{K:PZ}{H b H':Hp}(t:To F H b β1)(h:hV K F b H' rows v):hV K F H H' rows v:=by
 obtain⟨a,rs,c,n0,d,nd,g⟩:=h;exact⟨a,rs,c,t.none n0,d,nd,RowL.tr (Tr.refl _ _) g λr xs _ p y=>⟨t.none p,y⟩⟩
theorem vh(G:FnOk X.prog X.w X.K X.mg X.base (CXE X.prog X.w) k f fd ps (spG X.K n m))(q:Room k X.A)(u:Gl X x)(hm:X.mg x=on (.ref f))(y:U1 X.K (.ref f)=Pe)(I:aD X.K fd ps [])(J:dH (CXE X.prog X.w) X E)
  (ha:PA X (e::es) (tVA X.K g E)) (hn:∀δ β r β',g δ β=on (.ok r,β')->r.length=n) (a:(x==("__debug__":Qn))=Pj:=by decide) (L:PH (e::es) X.env=(Pj,QS e X.env)::PH es X.env:=by rfl) (b:(R4 pos (PH es X.env)).any (·.1)=Pj:=by rfl):
  PE X (.Call (.Name x p) (e::es) [] pos) (tVG X.K (qu m g) E):=
 (ng G q u hm y I .nil J ha a L b).imp λσ H Q N=>ex6 N λF δ β fr O r=>⟨F,δ,β,fr,O,by
  obtain⟨r0,c,h,i⟩:=run.bind (R:=DenL X.K F) r;refine⟨r0,c,h,?_⟩;cases r0 with
  |error C=>exact i
  |ok ds=>
   intro vs T t hd;obtain⟨d',β1,j,d,r1⟩:=i vs T t hd;have U:=hn _ _ _ _ h;refine⟨by rw[Qe,←hd.length,U],F,d',β1,j.fr,by rw[Qe];exact d,?_⟩;obtain⟨l,β2,W,o⟩:=r1;refine⟨l,β2,W,?_⟩;cases l with
   |ok rows=>exact λv H' Y Z=>o v H' Y (hV.pre j Z)
   |error C=>exact o⟩
variable{elt target iter:Expr}{ifs:List Expr}{rest:List Rm}{scope:Scope}{Nc vars:List Qn}{caps:List Nat}{g:TG}{tb:Pk->TB}
theorem Lu{x:Qn}{a c:Uj}(m:X.N.Nodup)(d:X.N[i]?=on x)(o:Loc X.env.scope x)(q:X.calm=Pe)(S:CmpScope X scope Nc vars caps)(r:PI X target iter (iV X.K it E))
  (t:∀(cl:List (Qn×Pk)) (C:Pk) (l:List Pk) (s:Pr) (H:Hp),PG (aI X Nc scope cl C l s H) target g/\dU (aI X Nc scope cl C l s H) ifs (tVT X.K tt E0)/\∀D,PB (aI X Nc scope cl C l s H) elt (⟨target,iter,ifs,0⟩::rest) scope pos 0 D (tb D))
  (u:cS X.K g tg) (v:dS tg) (y:∀D,qE X.K D (tb D) b)
  (j:Uo (.ListComp elt (⟨target,iter,ifs,0⟩::rest) scope pos) (on (.Name x a)) c.line X.env=RZ Pe:=by rfl)
  (hs:∀x,QA iter X.env x=RZ x:=by intro _;rfl) (A:X.fn x=Pe\/X.env.scope.names.lookup x=on .local:=by first|exact .inl rfl|exact .inr rfl|assumption):
  PS X (.Assign [.Name x a] (.ListComp elt (⟨target,iter,ifs,0⟩::rest) scope pos) c) (tG X.K X.H₀ (vi i (g0 vars.length caps it tg tt b)) E):=
 xE ((wr m d o q S r t j hs A).imp λD σ H h=>sd u v y h)
end
end L2.Pu
namespace L2
open PySem PySem.Spec PyProof.Rows
section
variable{X:Cx}
theorem ES{bs:List Bool}{its:List Pl}(r:ay (bs.map V.bl) its){i:Nat}{v:Pl}(h:its.toArray[i]?=on v):v= .bool (bs.getD i Pj):=by
 have h':its[i]?=on v:=by simpa using h
 have a:=r.length;rw[Pa]at a;have b:i<bs.length:=by rw[a];exact(Px.mp h').1
 obtain⟨u,c,d⟩:=r.get (i:=i) (x:=V.bl bs[i]) (by rw[Pi,Pd b];rfl);rw[h']at c;cases c;rw[Pf,Pd b];exact d
theorem zd{α:Type}(f:Bool->Bool)(bs:List Bool):(Pq bs.length).map (λi=>bs.getD i Pj)=bs:=by
 apply YF;intro i;rw[Pi];by_cases h:i<bs.length
 ·rw[QO h,Pd h]
  simp[Pf,Pd h]
 ·rw[TZ (by simpa using h),TZ (by omega)];rfl
theorem ze(bs:List Bool):((Pq bs.length).any λi=>bs.getD i Pj)=bs.any id:=by
 conv=>rhs;rw[←zd (α:=Bool) id bs]
 rw[List.any_map];rfl
theorem jK(l:X.calm=Pe):dI X (.builtin "any") (λxs H Q=>∃(a:Pk) (bs:List Bool),xs=[.ref a]/\SqL X.K H a (bs.map V.bl)/\Q (.bl (bs.any id)) H):=by
 intro j s B H xs us Q I r h;obtain⟨a,bs,rfl,m,q⟩:=h;cases r with
 |cons r1 n=>
  cases r1;cases n;obtain⟨its,k,p,C⟩:=I.list m;have f:=p.isList;have c:its.toArray.size=bs.length:=by rw[PV,←k.length,Pa]
  have d:∀b o,s.heap.get? b=on o->b≠s.heap.objs.size:=λb o e z=>by
   rw[z,XG (Pt _)]at e;cases e
  have g:a≠s.heap.objs.size:=by
   obtain⟨o,e,_⟩:=f;exact d a o e
  have W:=Walks.list (prog:=X.prog) (w:=X.w) (A:=X.A.in1) (show X.A.in1.handled=Pb from I.ok.hd l) s.heap.objs.size a g its.toArray;refine call_any_walk (Vg f ⟨s.heap.objs.size,[s.heap.objs.size,a],[s.heap.objs.size],its.toArray.size,_,_,λi=>bs.getD i Pj,rfl,W,⟨⟨_,PP s.heap rfl,rfl,rfl⟩,f.push _⟩,λi v s' F J t u=>?_,λh' L y=>?_⟩)
  ·rw[ES k t]
   exact QT u
  ·rw[c,ze]
   exact⟨.bl (bs.any id),H,I.kept λb o e=>y b o (λz=>d b o e (by simpa using z)) (Ph _ e),rfl,q⟩
end
end L2
namespace L2.Pu
open PySem PySem.Spec PyProof.Rows
noncomputable def eF:List D->Option (List Bool)
 |[]=>on []
 | .bl b::r=>(eF r).map (b::·)
 |_=>Pb
theorem oE{K:PZ}:∀{ds:List D} {xs:List V} {bs:List Bool},eF ds=on bs->DenL K F H ds xs->xs=bs.map V.bl
 |[],xs,bs,e,h=>by
  cases e;cases h;rfl
 |d::ds,xs,bs,e,h=>by
  obtain⟨x,f,rfl,a,c⟩:=h;cases d<;>first
   |(rename_i b
     cases q:eF ds with
     |none=>simp[eF,q]at e
     |some r=>
     simp[eF,q]at e;subst e;cases a.bl;rw[oE q c];rfl)
   |simp[eF]at e
def yn:List D->Option D
 |[.lst ds]=>(eF ds).map λbs=> .bl (bs.any id)
 |_=>Pb
variable{K:PZ}
theorem tU:eM K (λxs H Q=>∃(a:Pk) (bs:List Bool),xs=[.ref a]/\SqL K H a (bs.map V.bl)/\Q (.bl (bs.any id)) H) yn:=λF H β Q ds d vs fr h e k=>by
 unfold yn at e;split at e
 ·obtain⟨v,rfl,g⟩:=DenL.one h
  obtain⟨a,xs,rfl,r,b⟩:=Den.sqL g;obtain⟨bs,q,e⟩:=U7.mp e;subst e;rw[oE q b]at r;exact⟨a,bs,rfl,r,k _ H (To.refl fr) rfl⟩
 ·cases e
end L2.Pu
namespace L2
open PySem PySem.Spec PyProof.Rows
section
variable{X:Cx}{a b c d:Expr}{ta tb tc td:TE}{pos:Uj}
def Of(i e:R2)(tc td:TE)(y:V):TE:=λf H Q=>tc f H λw j=>i y w j λk g=>∃h,k= .bl h/\(if h=Pe then td f g λl m=>e w l m Q else Q (.bl Pj) g)
def v6(r h e:R2)(ta tb tc td:TE):TE:=λf H Q=>ta f H λx i=>tb f i λy j=>r x y j λz g=>∃k,z= .bl k/\(if k=Pe then Of h e tc td y f g Q else Q (.bl Pj) g)
theorem zh(J:OpR X (QY op) r)(l:OpR X (QY op') r')(i:OpR X (QY op'') r'')(ha:PE X a ta)(L:PE X b tb)(N:PE X c tc)(hd:PE X d td)
  (hm:Yy [op,op',op''] [b,c,d]=Pj:=by with_unfolding_all rfl):PT X (.Compare a [op,op',op''] [b,c,d] pos) (xv (v6 r r' r'' ta tb tc td)):=by
 intro f s g H Q I h;refine isTrue_chain (thn (ha f s g H _ I h) λv O ⟨x,R,T,r1,q1⟩=>test_link (thn (L f O g R _ T q1) λu U ⟨y,W,Y,o,q2⟩=>
  thn (J f U g W x y v u _ Y r1 o q2) λZ s3 ⟨z,p,q,r3,k,e,q3⟩=>?_)) hm
 subst e;cases r3;refine QT ?_;cases k with
 |false=>
  obtain⟨m,j,n⟩:=q3;cases j;exact ite_ff ⟨p,q,n⟩
 |true=>
  refine ite_tt (test_link (thn (N f s3 g p _ q q3) λt s4 ⟨A,H4,I4,B,q4⟩=>thn (l f s4 g H4 y A u t _ I4 o B q4) λZ s5 ⟨z',C,F,r5,m,j,q5⟩=>?_));subst j;cases r5;refine QT ?_;cases m with
  |false=>
   obtain⟨m,j,n⟩:=q5;cases j;exact ite_ff ⟨C,F,n⟩
  |true=>
   refine ite_tt (test_last (thn (hd f s5 g C _ F q5) λw' s6 ⟨z2,H6,I6,r6,q6⟩=>thn (i f s6 g H6 A z2 t w' _ I6 B r6 q6) λd' s7 ⟨z3,H7,I7,r7,k3,e3,q7⟩=>?_));subst e3;cases r7;exact QT ⟨H7,I7,q7⟩
end
end L2
namespace L2.Pu
open PySem PySem.Spec PyProof.Rows
section
variable{X:Cx}{E:St->XK}{a b c d:Expr}{pos:Uj}{K:PZ}
def IV(f e:D->D->Option D)(h i:FD)(y:D):FD:=λδ=>M.bind (h δ) λw=>M.bind (M.ofO (f y w)) λz=>M.bind (M.ofO (asB z)) λc=>if c=Pe then M.bind (i δ) (λg=>M.ofO (e w g))else M.ret (.bl Pj)
def nP(o j e:D->D->Option D)(f g h i:FD):FD:=λδ=>M.bind (f δ) λa=>M.bind (g δ) λb=>M.bind (M.ofO (o a b)) λz=>M.bind (M.ofO (asB z)) λc=>if c=Pe then IV j e h i b δ else M.ret (.bl Pj)
theorem run.later{α i:Type}{R:Hp->α->i->Prop}{F:Fx}{j:St}{m:M α}{H k:Hp}{Q:i->Hp->Prop}{β:Bg}(t:To F H k β)(h:run R F E j m H Q β):run R F E j m k Q β:=by
 obtain⟨l,f,e,q⟩:=h;refine⟨l,f,e,?_⟩;cases l with
 |ok d=>exact λv g tt=>q v g (t.trans tt)
 |error C=>exact λg tt=>q g (t.trans tt)
theorem xx(l:bh K r o)(l':bh K r' o')(O:bh K r'' o'')(T:tV K (nP o o' o'' f g h i) E σ H Q):v6 r r' r'' (tV K f E) (tV K g E) (tV K h E) (tV K i E) σ H Q:=by
 obtain⟨F,δ,β,fr,U,T⟩:=T;refine⟨F,δ,β,fr,U,(run.bind (R:=Den K F) T).mono λv H1 n=>ex5 n λd β1 t hd r1=>⟨F,δ,β1,t.fr,U.tr (t.tr fr),(run.bind (R:=Den K F) r1).mono λv2 H2 n=>ex5 n λd2 β2 p u r2=>?_⟩⟩;obtain⟨z,ez,r3⟩:=run.ofO_bind r2;obtain⟨c,ec,L⟩:=run.ofO_bind r3;rw[jj ec]at ez;have W:=U.tr ((t.tr fr).trans (p.tr t.fr));refine l F H2 β2 _ d d2 _ v v2 p.fr (Den.tr (p.tr t.fr) _ _ hd) u ez λvz H3 j hz=>⟨c,hz,?_⟩;cases c with
 |true=>
  rw[Ps rfl]at L;have Y:=Den.tr (j.tr p.fr) _ _ u;have y:=W.tr (j.tr p.fr);have r5:=run.later j L;refine⟨F,δ,β2,j.fr,y,(run.bind (R:=Den K F) r5).mono λw H4 n=>ex5 n λdw A B C r6=>?_⟩;obtain⟨z',I,r7⟩:=run.ofO_bind r6;obtain⟨c',Z,N⟩:=run.ofO_bind r7;rw[jj Z]at I;refine l' F H4 A _ d2 dw _ v2 w B.fr (Den.tr (B.tr j.fr) _ _ Y) C I λvz' H5 m hz'=>⟨c',hz',?_⟩;cases c' with
  |true=>
   rw[Ps rfl]at N;refine⟨F,δ,A,m.fr,y.tr ((B.tr j.fr).trans (m.tr B.fr)),(run.bind (R:=Den K F) (run.later m N)).mono λw' H6 ⟨dw',β6,t6,J,r9⟩=>?_⟩;obtain⟨d3,e3,k⟩:=run.ofO r9;exact O F H6 β6 Q dw dw' d3 w w' t6.fr (Den.tr ((m.tr B.fr).trans (t6.tr m.fr)) _ _ C) J e3 k
  |false=>
   rw[Po Pw]at N;obtain⟨rr,β',e,q⟩:=N;cases e;exact q _ H5 m rfl
 |false=>
  rw[Po Pw]at L;obtain⟨rr,β',e,q⟩:=L;cases e;exact q _ H3 j rfl
theorem BU(m:OpR X (QY op) r)(j:OpR X (QY op') r')(e:OpR X (QY op'') r'')(l:bh X.K r o)(n:bh X.K r' o')(k:bh X.K r'' o'')(ha:PE X a (tV X.K f E))(p:PE X b (tV X.K g E))(t:PE X c (tV X.K h E))(hd:PE X d (tV X.K i E))(hm:Yy [op,op',op''] [b,c,d]=Pj:=by with_unfolding_all rfl):
  PT X (.Compare a [op,op',op''] [b,c,d] pos) (tVT X.K (fB (nP o o' o'' f g h i)) E):=(zh m j e ha p t hd hm).imp λu H Q q=>xx l n k (oH q)
variable{st:QU}{H₀:Hp}{B:Ow}{bg:Option (Pk×Pk)}{H H':Hp}{δ:Ds}{β β':Bg}{σ:St}
theorem SOk.AtoB(ok:SOk K H₀ B bg H δ β σ):∀c,(FxB B bg).A c->(FxA B bg).A c\/∃xs,H c=on (.lst xs):=λc f=>by
 have e:B c≠Pb:=f;cases q:B c with
 |none=>exact P6 q e
 |some k=>
  match k,q with
  |0,q=>exact .inl (.inl q)
  |1,q=>exact .inl (.inr q)
  |k+2,q=>exact .inr (ok.lst c k q)
theorem SOk.noB{d:D}(ok:SOk K H₀ B bg H δ β σ)(hn:noL d=Pe)(h:Den K (FxA B bg) H d v):Den K (FxB B bg) H d v:=wC ok.AtoB d v hn h
def qr(i:Nat)(e f g:FD):G:=λδ β=>match g (vwA δ) β with
 |some (.ok d,β1)=>match e (vwA δ) β1 with
  |some (.ok (.int ka),β2)=>match f (vwA δ) β2 with
   |some (.ok (.int kb),β3)=>match δ.getD i Pb with
    |some (.grd rows)=>match ixN rows.length ka with
     |some ja=>match rows[ja]? with
      |some ds=>match ixN ds.length kb with
       |some jb=>if noL d=Pe then on (.nx (δ.set i (on (.grd (rows.set ja (ds.set jb d))))),β3)else Pb
       |none=>Pb
      |none=>Pb
     |none=>Pb
    |_=>Pb
   |_=>Pb
  |_=>Pb
 |_=>Pb
theorem pM(h:PS X st (jP (tV X.K fv E) (MI (tOp (xI X.K) (oG i) (tV X.K fa E)) (tV X.K fb E) HW))):PS X st (tG X.K X.H₀ (qr i fa fb fv) E):=h.imp λD σ H h_=>by
 obtain⟨B,bg,δ,β,o,β',ok,e,q⟩:=h_;refine⟨FxA B bg,vwA δ,β,ok.frA,ok.viewA,?_⟩;unfold qr at e;split at e
 ·rename_i d β1 e1
  refine⟨.ok d,_,e1,λv H1 t1 hd=>?_⟩;obtain⟨f,s1⟩:=ok.to rfl t1;split at e
  ·rename_i ka β2 e2
   split at e
   ·rename_i kb β3 e3
    split at e
    ·rename_i rows Q
     split at e
     ·rename_i ja ea
      split at e
      ·rename_i ds er
       split at e
       ·rename_i jb eb
        split at e
        ·rename_i R
         cases e;have hd:=f.noB R hd;obtain⟨w,N,a,rs,rfl,hB,ha,nd,rl⟩:=f.tell i _ (getD_some Q);refine⟨_,N,FxA B bg,vwA δ,β1,f.frA,f.viewA,.ok (.int ka),β2,e2,λy H2 t2 hy=>?_⟩;cases hy;obtain⟨j,s2⟩:=f.to (F:=FxA B bg) rfl t2;obtain⟨w2,h2,a2,g,ew,k,m,nd2,n⟩:=j.tell i _ (getD_some Q);rw[N]at h2;cases h2;cases ew;obtain⟨r,xs,T,hp,hx,dl⟩:=n.at er;refine⟨a,g.map V.ref,ka,.ref r,rfl,rfl,SqL.of m,?_,?_⟩
         ·unfold atI
          rw[Pa,←n.len,ea];show(g.map V.ref)[ja]?=_;rw[Pi,T];rfl
         ·refine⟨FxA B bg,vwA δ,β2,j.frA,j.viewA,.ok (.int kb),_,e3,λz H3 t3 hz=>?_⟩
          cases hz;obtain⟨p,s3⟩:=j.to (F:=FxA B bg) rfl t3;obtain⟨w3,h3,a3,t,U,W,u,Y,A⟩:=p.tell i _ (getD_some Q);rw[N]at h3;cases h3;cases U;have Z:g=t:=by
           have O:H3 a=on (.lst (g.map V.ref)):=t3.kp a _ m (λb l y=>⟨λw=>(by subst w;rw[(ok.bgt _ _ y).1]at k;cases k),λw=>(by subst w;rw[(ok.bgt _ _ y).2]at k;cases k)⟩);rw[u]at O;have k2:t.map V.ref=g.map V.ref:=by injection O with O;injection O
           exact(VM (λa b q=>by cases q;rfl)|>.mp k2).symm
          subst Z;obtain⟨r',C,I,hp',J,L⟩:=A.at er;rw[T]at I;cases I;have hv3:Den X.K (FxB B bg) H3 d v:=Den.tr (s3.tr) _ _ (Den.tr (s2.tr) _ _ hd);refine⟨r,C,kb,jb,rfl,rfl,J,by rw[←L.length];exact eb,?_⟩;obtain⟨ok4,s4⟩:=p.writeRow (ds:=ds.set jb d) (xs:=C.set jb v) N W u Y A T J (DenL.set jb L hv3);exact q _ _ _ (s1.trans (s2.trans (s3.trans s4))) ok4
        ·cases e
       ·cases e
      ·cases e
     ·cases e
    ·cases e
   ·cases e
  ·cases e
 ·cases e
variable{e:Expr}{es:List Expr}
def o2(op:D->D->Option (List D))(f g:FD):FL:=λδ=>M.bind (f δ) λa=>M.bind (g δ) λb=>M.ofO (op a b)
noncomputable def Ite(K:PZ)(l:Pk):It:=
 ⟨λi H=>∃xs x,SqL K H l xs/\xs[i]?=on x,
  λi H v H'=>∃p x,H p=Pb/\v= .ref p/\H'=upd H p (.tup [.int (i:Int),x])/\∀xs,SqL K H l xs->xs[i]?=on x,
  λi H=>∃xs,SqL K H l xs/\xs.length=i⟩
theorem yB{P:Qf}{w:Qq}{K:PZ}{x1}{pos:Uj}(l e it:Pk)(t:e≠it):
  Turn P w K (.Tuple elts x1 pos) (Ite K l) [e,it] e (λi h=>(∃f,IsEnum h e it (i:Int) f)/\h.IsListIter it l i) where
 mem:=by simp
 obj:=λi h st b j=>by
  obtain⟨⟨f,m⟩,p⟩:=st;simp only[PL,Q5,TY]at j;rcases j with rfl|rfl
  ·exact⟨_,m,λv q=>by cases q⟩
  ·obtain⟨o,q,_,d⟩:=p
   exact⟨o,q,λv z=>by rw[d]at z;cases z⟩
 keep:=λi h h' st k=>by
  obtain⟨⟨f,m⟩,p⟩:=st;exact⟨⟨f,k e (by simp) _ m⟩,p.at λo q=>k it (by simp) o q⟩
 item:=by
  intro X L N O Q i r s σ H E I y st R;subst L N O;obtain⟨xs,x,q1,T⟩:=R;obtain⟨⟨f,m⟩,p⟩:=st;obtain⟨g,r1,U⟩:=Inv.src (b:=Pe) I q1;have hd:=I.ok.hd Q;have ne:l≠e:=Inv.src_ne (b:=Pe) I q1 (y e (by simp));have W:l≠it:=Inv.src_ne (b:=Pe) I q1 (y it (by simp));have k1:i<g.toArray.size:=by
   rw[PV,←r1.length];exact(Px.mp T).1
  refine wpAny_pyNext_enum_itemD (XU (show(X.A.in1).handled=Pb from hd) it l W g.toArray) m ⟨p,U⟩ k1 t (by simp[t,ne.symm]) λu h' Y pu fo f1 fT sz kp=>?_;refine⟨_,rfl,wpAny_letOwnedTupleGo_enum (s:={s with heap:=h',toks:=Y+1}) fo λC F J=>?_⟩
  replace J:Qg e h' C:=J
  have zT:s.heap.objs.size≠e:=SL (Qa m);obtain⟨u',Z,ru⟩:=r1.get T;have eu:u=u':=by
   have:g[i]?=on u:=by simpa using pu
   rw[this]at Z;exact Qd Z
  subst eu;have kk:∀b o,b∉[e,it]->s.heap.get? b=on o->C.get? b=on o:=λb o j q=>by
   simp only[PL,Q5,TY,not_or]at j;exact J.extBut b o j.1 (kp b o j.1 j.2 q)
  have I2:Inv X r σ (upd H s.heap.objs.size (.tup [.int (i:Int),x])) {s with heap:=C,toks:=Y+1}:=by
   refine Inv.turnNew I y kk (Pt _) ⟨by show 2<=PQ;decide,[.int i Y,u],.cons ⟨_,rfl⟩ (.cons ru .nil),_,J.extBut _ _ zT fT,rfl,_,rfl⟩
  refine⟨.ref s.heap.objs.size,_,I2,rfl,⟨s.heap.objs.size,x,I.hok.fresh (Pt _),rfl,rfl,λas h1=>by rw[Inv.src_inj (b:=Pe) I h1 q1];exact T⟩,⟨⟨_,by simpa using F⟩,?_⟩,λb j=>?_⟩
  ·exact f1.1.at λo q=>J.extBut _ _ t.symm q
  ·rw[upd_ne]
   ·exact(y b j).1
   ·intro q
    have ol:∃o,s.heap.get? b=on o:=by
     simp only[PL,Q5,TY]at j;rcases j with rfl|rfl
     ·exact⟨_,m⟩
     ·obtain⟨o,z,_⟩:=p;exact⟨o,z⟩
    obtain⟨o,z⟩:=ol;exact P6 (Qa z) (by rw[q];exact QD _)
 done:=by
  intro X L N O Q i r s σ H E I y st R;subst L N O;obtain⟨xs,q1,hl⟩:=R;obtain⟨⟨f,m⟩,p⟩:=st;obtain⟨g,r1,U⟩:=Inv.src (b:=Pe) I q1;have hd:=I.ok.hd Q;have W:l≠it:=Inv.src_ne (b:=Pe) I q1 (y it (by simp));have g1:g.toArray.size=i:=by rw[PV,←r1.length,hl]
  refine wpAny_pyNext_enum_endD (n:=g.toArray.size) (XU (show(X.A.in1).handled=Pb from hd) it l W g.toArray) m (by rw[g1];exact⟨p,U⟩) λh' kp=>⟨rfl,?_⟩;refine Inv.turnL (t':=s.toks) I y λb o j q=>?_;simp only[PL,Q5,TY,not_or]at j;exact kp b o j.2 q
 self:=λ_ _ _ _ _ st h=>by
  obtain⟨⟨f,m⟩,p⟩:=st;exact wpAny_pyIter_enum m h
def iEn(K:PZ)(g:TA):TI:=λσ H R=>g σ H λvs f=>∃l xs,vs=[.ref l]/\SqL K f l xs/\R (Ite K l) f
theorem Kb{a:Expr}{p pos:Uj}{x1}(o:Gl X "enumerate")(hm:X.mg "enumerate"=Pb)(ha:PA X [a] ta)(hs:PH [a] X.env=[(Pj,QS a X.env)]:=by rfl):
  PI X (.Tuple elts x1 tpos) (.Call (.Name "enumerate" p) [a] [] pos) (iEn X.K ta):=by
 intro f s σ H R I h;refine Call_ (gj I o hm PyProof.Rows.Boot.«enumerate» (Q8 (thn (ha pos f s σ H _ I h) λus g ⟨vs,k,j,r1,q1⟩=>?_) (by rw[hs];rfl) (by rfl)));obtain⟨l,xs,e,q1,q⟩:=q1;subst e;cases r1 with
 |cons r t=>
  cases t;cases r;obtain⟨u,C,v⟩:=Inv.src (b:=Pe) j q1;refine call_enumerate_list v λh' m y sz kp=>?_;refine wpAny_pyIter_enum (s:={g with heap:=h'}) m ?_;have A:Inv X f σ k {g with heap:=h'}:=j.kept (t':=g.toks) kp;refine⟨_,[g.heap.objs.size+1,g.heap.objs.size],_,Ite X.K l,k,rfl,A,yB l (g.heap.objs.size+1) g.heap.objs.size (Nat.succ_ne_self _),⟨⟨_,m⟩,y⟩,λc n=>?_,q⟩;have i:g.heap.objs.size<=c:=by
   simp only[PL,Q5,TY]at n;rcases n with rfl|rfl
   ·exact SD _ _
   ·exact Pt _
  exact j.fpOk i (j.hok.fresh i)
noncomputable def cQ:Nat->List D->List D
 |_,[]=>[]
 |n,x::xs=> .tup [.int (n:Int),x]::cQ (n+1) xs
theorem jI:∀(n:Nat) (xs:List D),(cQ n xs).length=xs.length
 |_,[]=>rfl
 |n,x::xs=>by
  show(cQ (n+1) xs).length+1=xs.length+1;rw[jI (n+1) xs]
theorem mz:∀{n:Nat} {xs:List D} {i:Nat} {d:D},(cQ n xs)[i]?=on d->∃x,xs[i]?=on x/\d= .tup [.int ((n+i:Nat):Int),x]
 |n,[],i,d,h=>by simp[cQ]at h
 |n,x::xs,0,d,h=>by
  simp[cQ]at h;exact⟨x,rfl,by rw[←h];simp⟩
 |n,x::xs,i+1,d,h=>by
  have h':(cQ (n+1) xs)[i]?=on d:=by simpa[cQ]using h
  obtain⟨a,f,g⟩:=mz h';exact⟨a,by simpa using f,by rw[g,show n+1+i=n+(i+1) by omega]⟩
def IW:List D->Option (List D)
 |[.lst xs]=>on (cQ 0 xs)
 |_=>Pb
theorem DZ{H:Hp}(o:∀g f,Tr F H g f->∃xs,SqL K f l xs/\DenL K g f ds xs):ItD K (Ite K l) F H (cQ 0 ds):=λg f β2 t fr i=>by
 obtain⟨xs,h,d1⟩:=o g f t;refine⟨λd hd=>?_,λj=>?_⟩
 ·obtain⟨x,q,rfl⟩:=mz hd
  obtain⟨u,k,du⟩:=d1.get q;refine⟨⟨xs,u,h,k⟩,λz y r=>?_⟩;obtain⟨p,A,m,rfl,rfl,v⟩:=r;have n:=v xs h;rw[k]at n;cases n;rw[Q4];exact⟨bQ.upd m,Den.newT fr m (DenL.cons rfl (DenL.cons du DenL.nil))⟩
 ·rw[jI]at j
  exact⟨xs,h,by rw[←d1.length,j]⟩
def IC(g:FL):FL:=bN IW g
theorem kC{a:Expr}{p pos:Uj}{x1}(q:Gl X "enumerate")(hm:X.mg "enumerate"=Pb)(ha:PA X [a] (tVA X.K g E))(hs:PH [a] X.env=[(Pj,QS a X.env)]:=by rfl):
  PI X (.Tuple elts x1 tpos) (.Call (.Name "enumerate" p) [a] [] pos) (iV X.K (IC g) E):=
 (Kb q hm ha hs).imp λσ H R j=>ex6 j λF δ β fr r h=>⟨F,δ,β,fr,r,(run.bind (R:=DenL X.K F) h).mono λvs f j=>by
  obtain⟨ds,β1,t,hd,r1⟩:=j;obtain⟨l,e,k⟩:=run.ofO r1;unfold IW at e;split at e
  ·rename_i xs
   cases e;obtain⟨v,rfl,o⟩:=DenL.one hd;have z:∃a,v= .ref a/\∀m i,Tr F f m i->∃ys,SqL X.K i a ys/\DenL X.K m i xs ys:=by
    obtain⟨a,ys,rfl,_⟩:=Den.sqL o;refine⟨a,rfl,λm i u=>?_⟩;obtain⟨I,n,y,sq,A⟩:=Den.sqL (Den.tr u _ _ o);cases y;exact⟨n,sq,A⟩
   obtain⟨a,rfl,z⟩:=z;obtain⟨us,C,_⟩:=z F f (Tr.refl F f);exact⟨a,us,rfl,C,k _ f (To.refl t.fr) (DZ z)⟩
  ·cases e⟩
def cT(K:PZ)(g:P9)(ps:List Qn)(h:List D):Prop:=∃ds f,aD K g ps ds/\ay f ds/\∀F H,DenL K F H h f
inductive Sr (α:Type) where
 |kw (j:Nat)|df (a:α)
noncomputable def Sr.pick{α:Type}(z:α)(f:List α):Sr α->α
 | .kw j=>f.getD j z
 | .df a=>a
def gK{α:Type}(z:α)(n k:Nat)(src:List (Sr α))(us f:List α):List α:=if us.length=n/\f.length=k then us++src.map (Sr.pick z f)else[]
inductive SrR {α γ:Type} (R:α->γ->Prop):List (Sr α)->List (Sr γ)->Prop where
 |nil:SrR R [] []
 |kw {j:Nat} {a:List (Sr α)} {c:List (Sr γ)}:SrR R a c->SrR R (.kw j::a) (.kw j::c)
 |df {x:α} {y:γ} {a:List (Sr α)} {c:List (Sr γ)}:R x y->SrR R a c->SrR R (.df x::a) (.df y::c)
theorem ay.getD:∀{f:List V} {g:List Pl} (j:Nat),ay f g->aQ (f.getD j .non) (g.getD j .none)
 |_,_,_,.nil=>rfl
 |_,_,0,.cons r _=>r
 |_,_,j+1,.cons _ t=>ay.getD j t
theorem SrR.vals(r:ay zs ws):∀{a:List (Sr V)} {c:List (Sr Pl)},SrR aQ a c->ay (a.map (Sr.pick .non zs)) (c.map (Sr.pick .none ws))
 |_,_,.nil=> .nil
 |_,_,.kw (j:=j) h=> .cons (ay.getD j r) (SrR.vals r h)
 |_,_,.df q h=> .cons q (SrR.vals r h)
theorem DenL.getD{K:PZ}{H:Hp}:∀{ds:List D} {f:List V} (j:Nat),DenL K F H ds f->Den K F H (ds.getD j .non) (f.getD j .non)
 |[],f,j,h=>by have q:f=[]:=h;subst q;rfl
 |d::ds,f,0,h=>by
  obtain⟨x,r,e,g,i⟩:=h;subst e;exact g
 |d::ds,f,j+1,h=>by
  obtain⟨x,r,e,g,i⟩:=h;subst e;exact DenL.getD j i
theorem SrR.den{K:PZ}{H:Hp}(r:DenL K F H ds zs):∀{a:List (Sr D)} {c:List (Sr V)},SrR (λd v=>∀F H,Den K F H d v) a c->DenL K F H (a.map (Sr.pick .non ds)) (c.map (Sr.pick .non zs))
 |_,_,.nil=>DenL.nil
 |_,_,.kw (j:=j) h=>DenL.cons (DenL.getD j r) (SrR.den r h)
 |_,_,.df q h=>DenL.cons (q F H) (SrR.den r h)
theorem SrR.len{α f:Type}{R:α->f->Prop}:∀{a:List (Sr α)} {c:List (Sr f)},SrR R a c->a.length=c.length
 |_,_,.nil=>rfl
 |_,_,.kw h=>by rw[Pz,Pz,SrR.len h]
 |_,_,.df _ h=>by rw[Pz,Pz,SrR.len h]
structure KwOk (K:PZ) (fd:P9) (ps ks:List Qn) (n:Nat) (src:List (Sr D)):Prop where
 ex:∃(sv:List (Sr Pl)) (sx:List (Sr V)),SrR aQ sx sv/\SrR (λd v=>∀F H,Den K F H d v) src sx/\∀(s:Pr) (us ws:List Pl),K.In s.heap->us.length=n->ws.length=ks.length->VU s fd ⟨us,ks.zip ws⟩ (ps.zip (us++sv.map (Sr.pick .none ws)))
 len:ps.length=n+src.length
 pos:0<ps.length
theorem KwOk.kb{K:PZ}{ps ks:List Qn}(h:KwOk K fd ps ks n src):∃(sv:List (Sr Pl)) (f:List (Sr V)),SrR (λd v=>∀F H,Den K F H d v) src f/\KBinds K fd ps ks (gK .none n ks.length sv) (gK .non n ks.length f):=by
 obtain⟨sv,f,r1,l,b⟩:=h.ex;refine⟨sv,f,l,λs us k m g=>?_,λ{vs us o k} i j=>?_⟩
 ·unfold gK at g⊢
  split at g
  ·rename_i q
   rw[Ps q];exact b s us k m q.1 q.2
  ·exact P6 g (by have:=h.pos;simp;omega)
 ·unfold gK
  by_cases q:vs.length=n/\o.length=ks.length
  ·rw[Ps q,Ps (by rw[←i.length,←j.length];exact q)]
   exact i.append (SrR.vals j r1)
  ·rw[Po q,Po (by rw[←i.length,←j.length];exact q)]
   exact .nil
variable{p kpos:Uj}{x:Qn}{k n:Nat}{f:Pk}{fd:P9}{ps ks:List Qn}{kws:List Vc}{nm:Option Qn}
def MM(m:List D->M D)(g:FL)(h:List D):FD:=λδ=>M.bind (g δ) λas=>m (as++h)
theorem JJ{h:List D}(G:FnOk X.prog X.w X.K X.mg X.base (CXE X.prog X.w) k f fd ps (spF X.K n m))(y:Room k X.A)(I:Gl X x)(hm:X.mg x=on (.ref f))(J:U1 X.K (.ref f)=Pe)(L:cT X.K fd ps h)(N:dH (CXE X.prog X.w) X E)
  (ha:PA X (e::es) (tVA X.K g E)) (hn:∀δ β r β',g δ β=on (.ok r,β')->r.length+h.length=n) (i:(x==("__debug__":Qn))=Pj:=by decide) (O:PH (e::es) X.env=(Pj,QS e X.env)::PH es X.env:=by rfl) (j:(R4 pos (PH es X.env)).any (·.1)=Pj:=by rfl):
  PE X (.Call (.Name x p) (e::es) [] pos) (tV X.K (MM m g h) E):=by
 obtain⟨ds,T,b,U,rd⟩:=L;refine(ng G y I hm J b U N ha i O j).imp λσ H Q W=>ex6 W λF δ β fr Y r=>⟨F,δ,β,fr,Y,?_⟩;obtain⟨r0,l,u,v⟩:=run.bind (R:=DenL X.K F) r;refine⟨r0,l,u,?_⟩;cases r0 with
 |error C=>exact v
 |ok as=>
  intro vs o t hd;obtain⟨d',β1,Z,q,r1⟩:=v vs o t hd;have hl:=hn _ _ _ _ u;have hz:=(rd F o).length;refine⟨by rw[PM,←hd.length,←hz,hl],F,d'++h,β1,Z.fr,DenL.append q (rd F o),run.toE r1⟩
theorem K8:PK X [] (tVA X.K ao E):=λpos g s σ H Q I h=>by obtain⟨F,δ,β,fr,i,r⟩:=h;exact LR pos g s σ H Q I (run.ret fr r DenL.nil)
theorem JF{f:FD}(ha:PE X e (tV X.K f E))(m:PK X kws (tVA X.K g E)):PK X (⟨nm,e,kpos⟩::kws) (tVA X.K (aa f g) E):=λpos h s σ H Q I ⟨F,δ,β,fr,j,r⟩=>
 J9 ha m pos h s σ H Q I ⟨F,δ,β,fr,j,(run.bind (R:=Den X.K F) r).mono λv u ⟨d,β1,t,hd,r1⟩=>
  ⟨F,δ,β1,t.fr,j.tr (t.tr fr),(run.bind (R:=DenL X.K F) r1).mono λvs y o=>ex5 o λds β2 l i q=>run.ret l.fr q (DenL.cons (Den.tr (l.tr t.fr) _ _ hd) i)⟩⟩
def Gw(g:G)(δ:Ds)(β:Bg)(Q:Out->Bg->Prop):Prop:=∃o β',g δ β=on (o,β')/\Q o β'
end
section
variable{g h a b g1 g2:G}{δ δ1:Ds}{β β1 β2 β3:Bg}{Q R:Out->Bg->Prop}{i:Nat}{f fa fb fv:FD}{fl:FL}{fg:Dn->M (List (List D))}{d x y z:D}{ds as:List D}{t:Dn->M Bool}{c:Bool}{C:Pk}{K:PZ}
theorem Gw.mono(k:Gw g δ β R)(q:∀o β,R o β->Q o β):Gw g δ β Q:=let ⟨o,β',e,r⟩:=k;⟨o,β',e,q _ _ r⟩
theorem JX:aJ g gNil=g:=by
 funext δ β;unfold aJ gNil;split
 ·rename_i δ1 β1 e;exact e.symm
 ·rfl
theorem aq(k:Gw (aJ g gNil) δ β Q):Gw g δ β Q:=by rw[JX]at k;exact k
theorem bq(q:Q (.nx δ) β):Gw gNil δ β Q:=⟨_,_,rfl,q⟩
theorem fS(e:g δ β=on (.nx δ1,β1))(k:Gw h δ1 β1 Q):Gw (aJ g h) δ β Q:=by
 obtain⟨o,j,l,q⟩:=k;exact⟨o,j,by unfold aJ;rw[e];exact l,q⟩
theorem bL(k:Gw h δ β Q):Gw (aJ gNil h) δ β Q:=fS rfl k
theorem xl(k:Gw g (fz i δ) β Q):Gw (fzG i g) δ β Q:=k
theorem aL(e:f (vw δ) β=on (.ok d,β1))(k:Gw h (δ.set i (on (.sh d))) β1 Q):Gw (aJ (dR i f) h) δ β Q:=fS (by unfold dR;rw[e]) k
theorem lO(e:f (vwA δ) β=on (.ok d,β1))(k:Gw h δ β1 Q):Gw (aJ (fF f) h) δ β Q:=fS (by unfold fF;rw[e]) k
theorem lN(e:t (vwA δ) β=on (.ok c,β1))(k:Gw (aJ (if c=Pe then g1 else g2) h) δ β1 Q):Gw (aJ (gIf t g1 g2) h) δ β Q:=by
 obtain⟨o,j,l,q⟩:=k;refine⟨o,j,?_,q⟩;rw[←l];unfold aJ gIf;rw[e];cases c<;>rfl
theorem iu(e:t (vwA δ) β=on (.ok Pj,β1))(k:Gw (aJ g2 h) δ β1 Q):Gw (aJ (gIf t g1 g2) h) δ β Q:=lN e k
theorem aU(e:f (vwA δ) β=on (.ok d,β1))(q:Q (.rt d) β1):Gw (aJ (dn f) h) δ β Q:=⟨_,_,by unfold aJ dn;rw[e],q⟩
theorem qK(e:fg (vw δ) β=on (.ok rows,β1))(q:Q (.rg rows) β1):Gw (aJ (jg fg) h) δ β Q:=⟨_,_,by unfold aJ jg;rw[e],q⟩
theorem xk{rows:List (List D)}(e:fg (vw δ) β=on (.ok rows,β1))(hn:rows.all noLs=Pe)(k:Gw h (δ.set i (on (.grd rows))) β1 Q):Gw (aJ (vi i fg) h) δ β Q:=fS (by unfold vi;simp only[e,hn,Qv]) k
theorem xj{rows:List (List D)}(e:fv (vwA δ) β=on (.ok d,β1))(j:fa (vwA δ) β1=on (.ok (.int ka),β2))(l:fb (vwA δ) β2=on (.ok (.int kb),β3))(m:δ.getD i Pb=on (.grd rows))
  (n:ixN rows.length ka=on ja) (o:rows[ja]?=on ds) (p:ixN ds.length kb=on jb) (hn:noL d=Pe) (k:Gw h (δ.set i (on (.grd (rows.set ja (ds.set jb d))))) β3 Q):Gw (aJ (qr i fa fb fv) h) δ β Q:=
 fS (by unfold qr;simp only[e,j,l,m,n,o,p,hn,Qv]) k
theorem mV(e:fl (vw δ) β=on (.ok ds,β1))(j:ds.length<=PQ)(k:Gw h (δ.set i (on (.own ds))) β1 Q):Gw (aJ (rq i fl) h) δ β Q:=fS (by unfold rq;simp only[e,j,Qv]) k
theorem mW{cs:List D}(j:δ.getD i Pb=on (.own cs))(e:fl (vw δ) β=on (.ok [d],β1))(l:cs.length<PQ)(k:Gw h (δ.set i (on (.own (cs++[d])))) β1 Q):Gw (aJ (rB i fl) h) δ β Q:=
 fS (by unfold rB;simp only[j,e,l,Qv]) k
theorem tw(e:f (vw δ) β=on (.ok d,β1))(j:tg d δ=on δ1)(k:Gw h δ1 β1 Q):Gw (aJ (ij f tg) h) δ β Q:=fS (by unfold ij;simp only[e,j,QK]) k
def Tn(I:Ds->Bg->Prop)(h:G)(Q:Out->Bg->Prop):Out->Bg->Prop:=λo β=>match o with
 | .nx δ=>I δ β
 | .ct δ=>I δ β
 | .bk δ=>Gw h δ β Q
 |o=>Q o β
theorem bM(e:it (vw δ) β=on (.ok ds,β1))(u:Nat->Ds->Bg->Prop)(N:u 0 δ β1)(step:∀i d δ β,ds[i]?=on d->u i δ β->∃δ1,tg d δ=on δ1/\Gw g δ1 β (Tn (u (i+1)) h Q))(k:∀δ β,u ds.length δ β->Gw h δ β Q):
  Gw (aJ (rA it tg g) h) δ β Q:=by
 have gen:∀(es:List D) (j:Nat) (δ:Ds) (β:Bg),es=ds.drop j->j+es.length=ds.length->u j δ β->Gw (aJ (gLp tg g es) h) δ β Q:=by
  intro es
  induction es with
  |nil=>
   intro j δ β _ B F;simp at B;exact fS (g:=gLp tg g []) rfl (k δ β (B▸F))
  |cons d es ih=>
   intro j δ β L B F;have O:ds[j]?=on d:=by
    have:=QN (λl=>l[0]?) L;simpa[Yj]using this.symm
   obtain⟨δ1,v,o,β2,A,q⟩:=step j d δ β O F;have H:es=ds.drop (j+1):=by
    have:=QN List.tail L;simpa[List.tail_drop]using this
   have go:∀m,u (j+1) m β2->Gw (aJ (gLp tg g es) h) m β2 Q:=λm I=>ih (j+1) m β2 H (by simp at B;omega) I;have n:∀{r:G} {m:Ds},Gw (aJ r h) m β2 Q->gLp tg g (d::es) δ β=r m β2->Gw (aJ (gLp tg g (d::es)) h) δ β Q:=λ{r m} ⟨T,p,J,U⟩ W=>⟨T,p,by rw[←J];unfold aJ;rw[W],U⟩;cases o with
   |nx m=>exact n (r:=gLp tg g es) (go m q) (by rw[gLp];simp only[v,A])
   |ct m=>exact n (r:=gLp tg g es) (go m q) (by rw[gLp];simp only[v,A])
   |bk m=>exact n (r:=gNil) (bL q) (by rw[gLp];simp only[v,A];rfl)
   |rt d'=>exact⟨_,β2,by unfold aJ;rw[gLp];simp only[v,A],q⟩
   |rg d'=>exact⟨_,β2,by unfold aJ;rw[gLp];simp only[v,A],q⟩
   |ex C m=>exact⟨_,β2,by unfold aJ;rw[gLp];simp only[v,A],q⟩
 obtain⟨o,p,J,q⟩:=gen ds 0 δ β1 (by simp) (by simp) N;refine⟨o,p,?_,q⟩;rw[←J];unfold aJ rA;rw[e]
theorem mK{S:Except Pk D->Bg->Prop}(k:Gw g (stD n ds) β (λo j=>match o with| .rt d=>S (.ok d) j| .nx _=>S (.ok .non) j| .ex C _=>S (.error C) j|_=>False)):∃r j,dj n g ds β=on (r,j)/\S r j:=by
 obtain⟨o,j,e,q⟩:=k;cases o with
 |rt d=>exact⟨.ok d,j,by unfold dj;rw[e],q⟩
 |nx δ=>exact⟨.ok .non,j,by unfold dj;rw[e],q⟩
 |ex C δ=>exact⟨.error C,j,by unfold dj;rw[e],q⟩
 |_=>exact q.elim
theorem K4{S:List (List D)->Bg->Prop}(k:Gw g (stD n ds) β (λo j=>match o with| .rg d=>S d j|_=>False)):∃r j,jL n g ds β=on (.ok r,j)/\S r j:=by
 obtain⟨o,j,e,q⟩:=k;cases o with
 |rg d=>exact⟨d,j,by unfold jL;rw[e],q⟩
 |_=>exact q.elim
theorem aN(k:Gw g (stD n ds) β (λo j=>j=β/\(match o with| .rt d=>r= .ok d| .nx _=>r= .ok .non| .ex C _=>r= .error C|_=>False))):dj n g ds β=on (r,β):=by
 obtain⟨l,j,e,q1,q2⟩:=mK (S:=λl j=>j=β/\r=l) (n:=n) (ds:=ds) (β:=β) (k.mono λo j h=>by
  cases o<;>first|exact h|exact h.2)
 subst q1 q2;exact e
theorem rQ(k:Gw g (stD n ds) β (λo j=>j=β/\(match o with| .rg d=>r=d|_=>False))):jL n g ds β=on (.ok r,β):=by
 obtain⟨l,j,e,q1,q2⟩:=K4 (S:=λl j=>j=β/\r=l) (n:=n) (ds:=ds) (β:=β) (k.mono λo j h=>by
  cases o<;>first|exact h|exact h.2)
 subst q1 q2;exact e
theorem am{δ:Dn}(e:fl δ β=on (.ok as,β1))(j:m as β1=on r):bB m fl δ β=on r:=by unfold bB M.bind;rw[e];exact j
theorem qI{δ:Dn}(e:fl δ β=on (.ok as,β1))(j:m as β1=on r):qu m fl δ β=on r:=by unfold qu M.bind;rw[e];exact j
theorem x_2{δ:Dn}(e:fa δ β=on (.ok x,β1))(j:fb δ β1=on (.ok y,β2))(k:op x y=on z):f2 op fa fb δ β=on (.ok z,β2):=by unfold f2 M.bind;rw[e];simp only[j,M.ofO,k]
theorem x_1{δ:Dn}(e:fa δ β=on (.ok x,β1))(j:op x=on z):f1 op fa δ β=on (.ok z,β1):=by unfold f1 M.bind;rw[e];simp only[M.ofO,j]
theorem aj{δ:Dn}(e:fl δ β=on (.ok as,β1))(j:op as=on z):aA op fl δ β=on (.ok z,β1):=by unfold aA M.bind;rw[e];simp only[M.ofO,j]
theorem ae{δ:Dn}(e:fa δ β=on (.ok x,β1))(j:fl δ β1=on (.ok as,β2)):aa fa fl δ β=on (.ok (x::as),β2):=by unfold aa M.bind;rw[e];simp only[j,M.ret]
theorem bx{δ:Dn}(e:fl δ β=on (.ok as,β1))(j:op as=on ds):bN op fl δ β=on (.ok ds,β1):=by unfold bN M.bind;rw[e];simp only[j,M.ofO]
theorem cz{δ:Dn}(e:fa δ β=on (.ok x,β1))(j:eG x=on ds):bZ fa δ β=on (.ok ds,β1):=by unfold bZ M.bind;rw[e];simp only[j,M.ofO]
theorem x_B{δ:Dn}(e:fa δ β=on (.ok (.bl c),β1)):fB fa δ β=on (.ok c,β1):=by unfold fB M.bind;rw[e];rfl
theorem mU{δ:Dn}(e:fa δ β=on (.ok x,β1))(j:kQ x=on c):ik fa δ β=on (.ok c,β1):=by unfold ik M.bind;rw[e];simp only[M.ofO,j]
theorem kK{δ:Dn}(e:t δ β=on (.ok c,β1)):iE t δ β=on (.ok (!c),β1):=by unfold iE M.bind;rw[e];rfl
theorem bP(ok:β.ok)(k:0<lot)(l:lot<1073741824):∃v e,lh [.bag,.int lot] β=on (.ok (.int v),e)/\0<=v/\v<lot/\e.ok:=by
 obtain⟨m,a1,j⟩:=wo ok k;exact⟨_,_,DK ok k l,m,a1,j⟩
theorem jd{n:Nat}{k:Int}(e:0<=k)(j:k<n):ixN n k=on k.toNat:=by unfold ixN;rw[Ps e,Ps j]
theorem z7{k:Int}{d:D}(e:0<=k)(h:xs[k.toNat]?=on d):ixD (.lst xs) (.int k)=on d:=by
 have j:k.toNat<xs.length:=(Px.mp h).1;show atI xs k=on d;unfold atI;rw[jd e (by omega)];exact h
theorem rh{x y:D}:ixD (.tup [x,y]) (.int 0)=on x:=rfl
theorem u8{x y:D}:ixD (.tup [x,y]) (.int 1)=on y:=rfl
end
section
variable{β β1 β2:Bg}{f g h i:FD}{t u:Dn->M Bool}{δ:Dn}{c e:Bool}{x y z w:Int}{d:D}
theorem pf(a:t δ β=on (.ok Pj,β1))(b:u δ β1=on (.ok e,β2)):gq t u δ β=on (.ok e,β2):=by
 unfold gq M.bind;rw[a];simp[b]
theorem le_int:leD (.int x) (.int y)=on (.bl (decide (x<=y))):=rfl
theorem lt_int:ltD (.int x) (.int y)=on (.bl (decide (x<y))):=rfl
theorem gt_int:gtD (.int x) (.int y)=on (.bl (decide (y<x))):=rfl
theorem ge_int:geD (.int x) (.int y)=on (.bl (decide (y<=x))):=rfl
theorem vX(a:f δ β=on (.ok (.int x),β))(b:g δ β=on (.ok (.int y),β))(j:h δ β=on (.ok (.int z),β)):eD leD leD f g h δ β=on (.ok (.bl (decide (x<=y)&&decide (y<=z))),β):=by
 unfold eD M.bind;rw[a];simp only[b,le_int,M.ofO,asB];by_cases q:x<=y
 ·simp only[q,Tf,Qv,j,le_int,Tq]
 ·simp only[q,SU,PF,Qw,M.ret,TR]
theorem BO(a:f δ β=on (.ok (.int x),β))(b:g δ β=on (.ok (.int y),β))(j:h δ β=on (.ok (.int z),β))(k:i δ β=on (.ok (.int w),β)):nP leD leD leD f g h i δ β=on (.ok (.bl (decide (x<=y)&&decide (y<=z)&&decide (z<=w))),β):=by
 unfold nP IV M.bind;rw[a];simp only[b,le_int,M.ofO,asB];by_cases q:x<=y
 ·simp only[q,Tf,Qv,j,le_int,Tq]
  by_cases q2:y<=z
  ·simp only[q2,Tf,Qv,k,le_int,Tq]
  ·simp only[q2,SU,PF,Qw,M.ret,TR]
 ·simp only[q,SU,PF,Qw,M.ret,TR]
noncomputable abbrev gI(rows:LI):List (List D):=rows.map λr=>r.map D.int
noncomputable abbrev lG(rows:List (List D)):D:= .lst (rows.map D.lst)
abbrev gridD(rows:LI):D:=lG (gI rows)
noncomputable def pD(p:Int×Int):D:= .tup [.int p.1,.int p.2]
abbrev gP(b:LP):List (List D):=b.map λr=>r.map pD
abbrev dL(b:LP):D:=lG (gP b)
def Shp{α:Type}(r c:Nat)(m:List (List α)):Prop:=m.length=r/\∀row∈m,row.length=c
noncomputable def tot(rows:LI):Int:=(rows.map Ri).sum
theorem aW(h:n<=1000):n<=PQ:=P3 h (by decide)
theorem mj:∀r:List Int,noLs (r.map D.int)=Pe
 |[]=>rfl
 |x::r=>by
  show(noL (.int x)&&noLs (r.map D.int))=Pe;rw[mj r];rfl
theorem p9:∀r:List (Int×Int),noLs (r.map pD)=Pe
 |[]=>rfl
 |x::r=>by
  show(noL (pD x)&&noLs (r.map pD))=Pe;rw[p9 r];rfl
theorem Mg(b:LP):(gP b).all noLs=Pe:=by
 rw[Sz];intro x a;obtain⟨r,_,rfl⟩:=PD.mp a;exact p9 r
theorem Shp.map{α a:Type}{f:α->a}{r c:Nat}{m:List (List α)}(h:Shp r c m):Shp r c (m.map λx=>x.map f):=⟨by rw[Pa,h.1],λrow b=>by
 obtain⟨x,j,rfl⟩:=PD.mp b;rw[Pa];exact h.2 x j⟩
theorem Shp.set{α:Type}{r c i j:Nat}{m:List (List α)}{row:List α}{v:α}(h:Shp r c m)(b:m[i]?=on row):Shp r c (m.set i (row.set j v)):=⟨by rw[Qs,h.1],λx a=>by
 rcases RE a with a|rfl
 ·exact h.2 x a
 ·rw[Qs];exact h.2 row (PU b)⟩
theorem Shp.at{α:Type}{r c i:Nat}{m:List (List α)}(h:Shp r c m)(b:i<r):∃row,m[i]?=on row/\row.length=c:=by
 have a:i<m.length:=by rw[h.1];exact b
 exact⟨m[i],Pd a,h.2 _ (Qo a)⟩
theorem IX{α:Type}{l:List α}{i:Nat}(h:i<l.length):∃x,l[i]?=on x:=⟨l[i],Pd h⟩
theorem j7:∀{xs:List Int} {j:Nat} {x v:Int},xs[j]?=on x->(xs.set j v).sum=xs.sum-x+v
 |[],j,x,v,h=>by simp at h
 |y::xs,0,x,v,h=>by
  simp at h;subst h;simp only[RM,P8];omega
 |y::xs,j+1,x,v,h=>by
  have h':xs[j]?=on x:=by simpa using h
  simp only[RK,P8,j7 h'];omega
theorem JL{rows:LI}{i j:Nat}{row:List Int}{x v:Int}(a:rows[i]?=on row)(b:row[j]?=on x):tot (rows.set i (row.set j v))=tot rows-x+v:=by
 unfold tot;rw[Ur,j7 (x:=row.sum) (by rw[Pi,a];rfl),j7 b];omega
theorem Mh{rows:LI}{i j:Nat}{row:List Int}(h:∀r∈rows,∀x∈r,0<=x)(k:rows[i]?=on row)(l:0<=v):∀r∈rows.set i (row.set j v),∀x∈r,0<=x:=λr a x b=>by
 rcases RE a with a|rfl
 ·exact h r a x b
 ·rcases RE b with b|rfl
  ·exact h row (PU k) x b
  ·exact l
theorem lV:∀{xs:List Int},(∀x∈xs,0<=x)->0<=xs.sum
 |[],_=>by simp
 |y::xs,h=>by
  have:=lV (xs:=xs) λx a=>h x (Pg _ a);have:=h y Pn;simp only[P8];omega
theorem u5:∀{xs:List Int},(∀x∈xs,0<=x)->∀x∈xs,x<=xs.sum
 |[],_,x,hx=>by cases hx
 |y::xs,h,x,hx=>by
  have:=lV (xs:=xs) λx hx=>h x (Pg _ hx);have:=h y Pn;rcases PL.mp hx with rfl|hx
  ·simp only[P8];omega
  ·have:=u5 (xs:=xs) (λx hx=>h x (Pg _ hx)) x hx
   simp only[P8];omega
theorem Mt(h:∀r∈rows,∀x∈r,0<=x):∀r∈rows,∀x∈r,x<=tot rows:=λr a x b=>by
 have k:=u5 (h r a) x b;have l:=u5 (xs:=rows.map Ri) (λs hs=>by
  obtain⟨q,j,rfl⟩:=PD.mp hs;exact lV (h q j)) r.sum (PD.mpr ⟨r,a,rfl⟩)
 unfold tot;omega
structure Tab (r c:Nat) (rows:LI):Prop where
 shp:Shp r c rows
 nn:∀row∈rows,∀x∈row,0<=x
 tot:tot rows<=40
 r0:1<=r
 r1:r<=4
 c0:1<=c
 c1:c<=6
theorem fm(ns:List Int):gH [.lst (ns.map D.int)]=on (.int ns.sum):=by
 show((e9 (ns.map D.int)).map λl=>D.int l.sum)=_;have:∀ns:List Int,e9 (ns.map D.int)=on ns:=λns=>by
  induction ns with
  |nil=>rfl
  |cons n ns ih=>simp[e9,ih]
 rw[this];rfl
theorem rg1{n:Int}(a:0<=n)(h:n<=10^9):fJ [.int n]=on (bc 0 n.toNat):=by
 have q:(decide (-(2^62)<=n)&&decide (n<2^62))=Pe:=by
  simp only[Qj,Qx];omega
 show(if(decide (-(2^62)<=n)&&decide (n<2^62))=Pe then on (bc 0 n.toNat)else Pb)=_;rw[Ps q]
theorem xG{d:D}(h:(bc 0 n)[k]?=on d):k<n/\d= .int (k:Int):=by
 unfold bc at h;have a:k<n:=by
  have:=(Px.mp h).1;simpa using this
 rw[Pi,QO a]at h;exact⟨a,by cases h;simp⟩
theorem pS(n:Nat):(bc 0 n).length=n:=by simp[bc]
theorem bn{α:Type}{f:FD}{δ:Dn}{β:Bg}(xs:List α)(u v:α->D)(a:it δ β=on (.ok (xs.map u),β))
  (b:∀x∈xs,∃δ1,tg (u x) (cSt nv caps δ)=on δ1/\f δ1 β=on (.ok (v x),β)) (j:xs.length<=PQ):cw nv caps it tg (λ_=>M.ret Pe) (cEm f) δ β=on (.ok (.lst (xs.map v)),β):=by
 refine rL a ?_ (by rw[Pa];exact j);have gen:∀xs:List α,(∀x∈xs,∃δ1,tg (u x) (cSt nv caps δ)=on δ1/\f δ1 β=on (.ok (v x),β))->cLp tg (λ_=>M.ret Pe) (cEm f) (xs.map u) (cSt nv caps δ) β=on (.ok (xs.map v),β):=by
  intro xs
  induction xs with
  |nil=>intro _;rfl
  |cons x xs ih=>
   intro h;obtain⟨δ1,k,l⟩:=h x Pn;have m:=ih λy n=>h y (Pg _ n);rw[Py,cLp];simp only[k,M.bind,M.ret,reduceIte,cEm,l,m,Py,Rb,QZ]
 exact gen xs b
theorem mF{α:Type}{f:FL}{δ:Dn}{β:Bg}(xs:List α)(u:α->D)(v:α->List D)(a:it δ β=on (.ok (xs.map u),β))
  (b:∀x∈xs,∃δ1,tg (u x) (cSt nv caps δ)=on δ1/\f δ1 β=on (.ok (v x),β)) (j:xs.length<=PQ):g0 nv caps it tg (λ_=>M.ret Pe) (rP f) δ β=on (.ok (xs.map v),β):=by
 have gen:∀xs:List α,(∀x∈xs,∃δ1,tg (u x) (cSt nv caps δ)=on δ1/\f δ1 β=on (.ok (v x),β))->o9 tg (λ_=>M.ret Pe) (rP f) (xs.map u) (cSt nv caps δ) β=on (.ok (xs.map v),β):=by
  intro xs
  induction xs with
  |nil=>intro _;rfl
  |cons x xs ih=>
   intro h;obtain⟨δ1,k,l⟩:=h x Pn;have m:=ih λy n=>h y (Pg _ n);rw[Py,o9];simp only[k,M.bind,M.ret,reduceIte,rP,l,m,Py,Rb,QZ]
 unfold g0;simp only[a,gen xs b,Pa,j,Qv]
theorem sQ{α:Type}{f:FD}{δ:Dn}{β:Bg}(xs:List α)(u:α->D)(v:α->D)(a:it δ β=on (.ok (xs.map u),β))
  (b:∀x∈xs,∃δ1,tg (u x) (cSt nv caps δ)=on δ1/\f δ1 β=on (.ok (v x),β)) (j:xs.length<=PQ):gr nv caps it tg (λ_=>M.ret Pe) (cEm f) δ β=on (.ok (xs.map v),β):=by
 have gen:∀xs:List α,(∀x∈xs,∃δ1,tg (u x) (cSt nv caps δ)=on δ1/\f δ1 β=on (.ok (v x),β))->cLp tg (λ_=>M.ret Pe) (cEm f) (xs.map u) (cSt nv caps δ) β=on (.ok (xs.map v),β):=by
  intro xs
  induction xs with
  |nil=>intro _;rfl
  |cons x xs ih=>
   intro h;obtain⟨δ1,k,l⟩:=h x Pn;have m:=ih λy n=>h y (Pg _ n);rw[Py,cLp];simp only[k,M.bind,M.ret,reduceIte,cEm,l,m,Py,Rb,QZ]
 unfold gr;simp only[a,gen xs b,Pa,j,Qv]
theorem LH{ds:List D}{c:Nat}(a:ds.length<=PQ)(b:ds.length*c<=PQ)(j:c<=1000000):uI ds (.int (c:Int))=on (PR c ds).flatten:=by
 have q:(decide (-(2^63)<=(c:Int))&&decide ((c:Int)<2^63)&&decide (ds.length<=PQ)&&decide (ds.length*(c:Int).toNat<=PQ))=Pe:=by
  simp only[Qj,Qx];exact⟨⟨⟨by omega,by omega⟩,a⟩,by rw[Q7];exact b⟩
 unfold uI;simp only[q,Qv];rw[Q7]
theorem vn{α:Type}(x:α):∀c:Nat,(PR c [x]).flatten=PR c x
 |0=>rfl
 |c+1=>by rw[Qm,Sm,vn x c];rfl
theorem OA{f:FD}{g:FD}{x:D}{c:Nat}{δ:Dn}{β:Bg}(b:f δ β=on (.ok x,β))(j:g δ β=on (.ok (.int (c:Int)),β))(k:c<=1000):DA (aa f ao) g δ β=on (.ok (PR c x),β):=by
 have a:[x].length<=PQ:=by rw[QC];decide
 have l:[x].length*c<=PQ:=by rw[QC,Nat.one_mul];exact aW k
 have r:=LH (ds:=[x]) (c:=c) a l (by omega);rw[vn]at r;have s:szL [x]=on [x]:=by
  unfold szL;rw[Ps a]
 have m:aa f ao δ β=on (.ok [x],β):=ae b rfl;unfold DA;rw[M.bind_ok m,s,M.bind_some,M.bind_ok j,r];rfl
theorem BD(bs:List Bool):eF (bs.map D.bl)=on bs:=by
 induction bs with
 |nil=>rfl
 |cons b bs ih=>simp[eF,ih]
theorem any_map{α:Type}(xs:List α)(p:α->Bool):yn [.lst (xs.map λx=>D.bl (p x))]=on (.bl (xs.any p)):=by
 show(eF _).map _=_;rw[show(xs.map λx=>D.bl (p x))=(xs.map p).map D.bl by rw[Pp];rfl,BD];simp only[QK,List.any_map];rfl
theorem jD{α:Type}(r:Nat)(x:α):(Pq r).map (λ_=>x)=PR r x:=by rw[List.map_const',P0]
theorem c5{xs:List D}(h:xs.length=r):cc [.lst xs]=on (.int (r:Int)):=by subst h;rfl
theorem zZ{rows:List (List D)}(h:rows.length=r):cc [lG rows]=on (.int (r:Int)):=c5 (by rw[Pa,h])
theorem tX{rows:List (List D)}{k:Nat}{row:List D}(h:rows[k]?=on row):ixD (lG rows) (.int (k:Int))=on (.lst row):=z7 (by omega) (by rw[Q7,Pi,h];rfl)
theorem bD{xs:List D}{k:Nat}{d:D}(h:xs[k]?=on d):ixD (.lst xs) (.int (k:Int))=on d:=z7 (by omega) (by rw[Q7];exact h)
theorem fG{x y:D}:cu [x,y]=on (.tup [x,y]):=by
 unfold cu;rw[Ps (show[x,y].length<=PQ by rw[Pz,QC];decide)]
theorem DL:d6 []=on (.lst []):=by
 unfold d6;rw[Ps (show([]:List D).length<=PQ by rw[R0];decide)]
theorem mo{x:D}:d6 [x]=on (.lst [x]):=by
 unfold d6;rw[Ps (show[x].length<=PQ by rw[QC];decide)]
theorem xR{x y:Int}:uW [.int x,.int y]=on (.int (SX x y)):=by
 unfold uW;simp only;congr 2;split<;>omega
theorem Mq{x y:Int}:xT [.int x,.int y]=on (.int (Yz x y)):=by
 unfold xT;simp only;congr 2;split<;>omega
theorem eq_int{x y:Int}:gu (.int x) (.int y)=on (.bl (decide (x=y))):=by rw[lA]
theorem ne_int{x y:Int}:dm (.int x) (.int y)=on (.bl (!decide (x=y))):=by rw[lz]
theorem nR{i:Nat}{d:D}(h:(cQ 0 xs)[i]?=on d):∃x,xs[i]?=on x/\d= .tup [.int (i:Int),x]:=by
 obtain⟨x,b,a⟩:=mz h;rw[Q4]at a;exact⟨x,b,a⟩
theorem bJ{α a:Type}{f:α->a}{xs:List α}{i:Nat}{d:a}(h:(xs.map f)[i]?=on d):∃x,xs[i]?=on x/\d=f x:=by
 rw[Pi]at h;cases q:xs[i]? with
 |none=>rw[q]at h;cases h
 |some x=>rw[q]at h;exact⟨x,rfl,by cases h;rfl⟩
noncomputable abbrev nK(r c:Nat):LP:=PR r (PR c (0,40))
theorem AN(r c:Nat):Shp r c (nK r c):=⟨by simp,λrow h=>by rw[(RJ.mp h).2];simp⟩
noncomputable def at2{α:Type}(m:List (List α))(i j:Nat):Option α:=(m[i]?).bind λrow=>row[j]?
theorem at2_set{α:Type}{m:List (List α)}{i j k l:Nat}{row:List α}{v x:α}(a:m[i]?=on row)(h:at2 (m.set i (row.set j v)) k l=on x):(k=i/\l=j/\x=v)\/(at2 m k l=on x/\¬(k=i/\l=j)):=by
 unfold at2 at h⊢;rw[Qz]at h;by_cases q:i=k
 ·subst q
  rw[Ps rfl]at h;split at h
  ·simp only[Q3]at h
   rw[Qz]at h;by_cases w:j=l
   ·subst w
    rw[Ps rfl]at h;split at h
    ·exact .inl ⟨rfl,rfl,(Qd h).symm⟩
    ·cases h
   ·rw[Po w]at h
    exact .inr ⟨by rw[a];exact h,λz=>w z.2.symm⟩
  ·cases h
 ·rw[Po q]at h
  exact .inr ⟨h,λz=>q z.1.symm⟩
theorem xb{α:Type}{m:List (List α)}{i j:Nat}{x:α}(h:at2 m i j=on x):∃row∈m,x∈row:=by
 unfold at2 at h;cases q:m[i]? with
 |none=>rw[q]at h;cases h
 |some row=>rw[q]at h;exact⟨row,PU q,PU h⟩
theorem mM{α:Type}{m:List (List α)}{i j:Nat}{row:List α}{x:α}(a:m[i]?=on row)(b:row[j]?=on x):at2 m i j=on x:=by unfold at2;rw[a];exact b
structure PairOk (p:Int×Int):Prop where
 l:0<=p.1
 m:p.1<=p.2
 h:p.2<=40
def Kp(rows:LI)(b:LP):Prop:=∀i j x p,at2 rows i j=on x->at2 b i j=on p->p.1<=x/\x<=p.2
structure Bnd (r c:Nat) (b:LP):Prop where
 shp:Shp r c b
 ok:∀row∈b,∀p∈row,PairOk p
theorem Bnd.set{r c i j:Nat}{b:LP}{row:List (Int×Int)}(h:Bnd r c b)(l:b[i]?=on row)(m:PairOk p):Bnd r c (b.set i (row.set j p)):=⟨h.shp.set l,λq k x a=>by
 rcases RE k with k|rfl
 ·exact h.ok q k x a
 ·rcases RE a with a|rfl
  ·exact h.ok row (PU l) x a
  ·exact m⟩
theorem Bnd.free(r c:Nat):Bnd r c (nK r c):=⟨AN r c,λrow b p a=>by
 rw[(RJ.mp b).2]at a;rw[(RJ.mp a).2];exact⟨by decide,by decide,by decide⟩⟩
theorem Tab.le40{r c:Nat}(t:Tab r c rows):∀row∈rows,∀x∈row,0<=x/\x<=40:=λrow a x b=>⟨t.nn row a x b,by
 have:=Mt t.nn row a x b;have:=t.tot;omega⟩
theorem Kp.free{r c:Nat}(t:Tab r c rows):Kp rows (nK r c):=λi j x p k l=>by
 obtain⟨row,m,b⟩:=xb k;obtain⟨q,n,a⟩:=xb l;rw[(RJ.mp n).2]at a;rw[(RJ.mp a).2];exact t.le40 row m x b
theorem Kp.set{b:LP}{i j:Nat}{row:List (Int×Int)}{p:Int×Int}{x:Int}(h:Kp rows b)(n:b[i]?=on row)(o:at2 rows i j=on x)(r:p.1<=x)(v:x<=p.2):Kp rows (b.set i (row.set j p)):=λk l y q a m=>by
 rcases at2_set n m with⟨rfl,rfl,rfl⟩|⟨m,_⟩
 ·rw[o]at a
  cases a;exact⟨r,v⟩
 ·exact h k l y q a m
theorem K1{α:Type}{δ:Dn}{β:Bg}(xs:List α)(u:α->D)(o:α->List D)(a:it δ β=on (.ok (xs.map u),β))
  (j:∀x∈xs,∃δ1,tg (u x) (cSt nv caps δ)=on δ1/\b δ1 β=on (.ok (o x),β)) (k:(xs.flatMap o).length<=PQ):cw nv caps it tg (λ_=>M.ret Pe) b δ β=on (.ok (.lst (xs.flatMap o)),β):=by
 refine rL a ?_ k;have gen:∀xs:List α,(∀x∈xs,∃δ1,tg (u x) (cSt nv caps δ)=on δ1/\b δ1 β=on (.ok (o x),β))->cLp tg (λ_=>M.ret Pe) b (xs.map u) (cSt nv caps δ) β=on (.ok (xs.flatMap o),β):=by
  intro xs
  induction xs with
  |nil=>intro _;rfl
  |cons x xs ih=>
   intro h;obtain⟨δ1,l,m⟩:=h x Pn;have n:=ih λy p=>h y (Pg _ p);rw[Py,cLp];simp only[l,M.bind,M.ret,reduceIte,m,n,Qy]
 exact gen xs j
theorem zE{α:Type}{f:FD}{δ:Dn}{β:Bg}(xs:List α)(u v:α->D)(a:it δ β=on (.ok (xs.map u),β))
  (b:∀x∈xs,∃δ1,tg (u x) δ=on δ1/\f δ1 β=on (.ok (v x),β)):cNx it tg (λ_=>M.ret Pe) (cEm f) δ β=on (.ok (xs.map v),β):=by
 have gen:∀xs:List α,(∀x∈xs,∃δ1,tg (u x) δ=on δ1/\f δ1 β=on (.ok (v x),β))->cLp tg (λ_=>M.ret Pe) (cEm f) (xs.map u) δ β=on (.ok (xs.map v),β):=by
  intro xs
  induction xs with
  |nil=>intro _;rfl
  |cons x xs ih=>
   intro h;obtain⟨δ1,j,k⟩:=h x Pn;have l:=ih λy m=>h y (Pg _ m);rw[Py,cLp];simp only[j,M.bind,M.ret,reduceIte,cEm,k,l,Py,Rb,QZ]
 unfold cNx;rw[M.bind_ok a];exact gen xs b
theorem iM{α a:Type}(u:α->D)(v:a->D):∀(xs:List α) (ys:List a),dN (xs.map u) (ys.map v)=(xs.zip ys).map λp=>D.tup [u p.1,v p.2]
 |[],ys=>by simp[dN]
 |x::xs,[]=>by simp[dN]
 |x::xs,y::ys=>by simp[dN,iM u v xs ys]
theorem vF{xs:List D}{k:Nat}:o5 xs (on (k:Int)) Pb=xs.drop k:=by
 unfold o5;rw[HT.sIx_none,HT.sIx_nat];by_cases h:k<=xs.length
 ·rw[show SX k xs.length=k by omega]
  rw[R7 (by rw[V5];omega)]
 ·rw[RB (by omega),RB (by omega)]
  simp
theorem rV{f g:FD}{δ:Dn}{β:Bg}(a:f δ β=on (.ok (.lst xs),β))(b:g δ β=on (.ok (.int k),β)):fSl f (on g) Pb δ β=on (.ok (.lst (o5 xs (on k) Pb)),β):=by
 unfold fSl ua;simp only[M.bind,a,b,M.ret,M.ofO,BG,slD]
theorem n9{xs ys:List D}(h:xs.length+ys.length<=1000):lD (.lst xs) (.lst ys)=on (.lst (xs++ys)):=by
 unfold lD;simp only;rw[Ps (aW h)]
def kI:List D->List Pl->Prop
 |[],[]=>True
 | .int i::ds,.int j _::vs=>i=j/\kI ds vs
 | .str x::ds,.str y _::vs=>x=y/\kI ds vs
 | .bl x::ds,.bool y::vs=>x=y/\kI ds vs
 | .non::ds,.none::vs=>kI ds vs
 |_,_=>False
theorem gY{K:PZ}:∀{ds:List D} {vs:List Pl},kI ds vs->∃xs,ay xs vs/\∀F H,DenL K F H ds xs
 |[],[],_=>⟨[],.nil,λ_ _=>DenL.nil⟩
 | .int i::ds,.int j t::vs,h=>by
  obtain⟨e,h⟩:=h;subst e;obtain⟨xs,a,b⟩:=gY (K:=K) h;exact⟨.int i::xs,.cons ⟨t,rfl⟩ a,λF H=>DenL.cons rfl (b F H)⟩
 | .str i::ds,.str j t::vs,h=>by
  obtain⟨e,h⟩:=h;subst e;obtain⟨xs,a,b⟩:=gY (K:=K) h;exact⟨.str i::xs,.cons ⟨t,rfl⟩ a,λF H=>DenL.cons rfl (b F H)⟩
 | .bl i::ds,.bool j::vs,h=>by
  obtain⟨e,h⟩:=h;subst e;obtain⟨xs,a,b⟩:=gY (K:=K) h;exact⟨.bl i::xs,.cons rfl a,λF H=>DenL.cons rfl (b F H)⟩
 | .non::ds,.none::vs,h=>by
  obtain⟨xs,a,b⟩:=gY (K:=K) (ds:=ds) (vs:=vs) h;exact⟨.non::xs,.cons rfl a,λF H=>DenL.cons rfl (b F H)⟩
def VIs(K:PZ)(d:D)(u:Pl):Prop:=∃v,aQ v u/\∀F H,Den K F H d v
theorem mX{K:PZ}{i:Int}{t:Tok}:VIs K (.int i) (.int i t):=⟨.int i,⟨t,rfl⟩,λ_ _=>rfl⟩
theorem JG{K:PZ}{q3:Array Pl}(a:K.lookup p=on ⟨q1,q2,.seq q3 q4,q5⟩)(b:q1= .type "tuple")(j:q3.size<=PQ)(k:kI ds q3.toList):VIs K (.tup ds) (.ref p):=by
 obtain⟨xs,l,m⟩:=gY (K:=K) k;exact⟨.ref p,rfl,λF H=>⟨p,xs,rfl,.inr ⟨_,q3,q4,a,b,rfl,j,l⟩,m F H⟩⟩
theorem qx{K:PZ}{mg:Qn->Option Pl}{x:Qn}{d:D}{u:Pl}(h:mg x=on u)(v:VIs K d u):oh K mg x d:=let ⟨w,h1,h2⟩:=v;⟨u,w,h,h1,h2⟩
theorem MR{K:PZ}{ps:List Qn}{us:List Pl}(n:Nat)(l:ps.length=n+us.length)(b:∀(s:Pr) (vs:List Pl),K.In s.heap->vs.length=n->VU s fd ⟨vs,[]⟩ (ps.zip (vs++us)))(h:∃vs,ay vs us/\∀F H,DenL K F H dd vs):cT K fd ps dd:=
 let ⟨vs,h1,h2⟩:=h
 ⟨us,vs,λs a j k=>b s a j (by rw[PM]at k;omega),h1,h2⟩
theorem MP{K:PZ}:∃vs,ay vs []/\∀F H,DenL K F H [] vs:=⟨[],.nil,λ_ _=>DenL.nil⟩
theorem KZ{K:PZ}{d:D}{u:Pl}(v:VIs K d u)(h:∃vs,ay vs us/\∀F H,DenL K F H ds vs):∃vs,ay vs (u::us)/\∀F H,DenL K F H (d::ds) vs:=by
 obtain⟨w,a,b⟩:=v;obtain⟨vs,j,k⟩:=h;exact⟨w::vs,.cons a j,λF H=>DenL.cons (b F H) (k F H)⟩
inductive KSr (K:PZ):List (Sr D)->List (Sr Pl)->Prop where
 |nil:KSr K [] []
 |kw {j:Nat} {a:List (Sr D)} {c:List (Sr Pl)}:KSr K a c->KSr K (.kw j::a) (.kw j::c)
 |df {x:D} {y:Pl} {a:List (Sr D)} {c:List (Sr Pl)}:VIs K x y->KSr K a c->KSr K (.df x::a) (.df y::c)
theorem KSr.mid{K:PZ}:∀{a:List (Sr D)} {c:List (Sr Pl)},KSr K a c->∃b:List (Sr V),SrR aQ b c/\SrR (λd v=>∀F H,Den K F H d v) a b
 |_,_,.nil=>⟨[],.nil,.nil⟩
 |_,_,.kw (j:=j) h=>let ⟨b,h1,h2⟩:=KSr.mid h;⟨.kw j::b,.kw h1,.kw h2⟩
 |_,_,.df v h=>let ⟨b,h1,h2⟩:=KSr.mid h;let ⟨w,g1,g2⟩:=v;⟨.df w::b,.df g1 h1,.df g2 h2⟩
theorem OM{K:PZ}{ps ks:List Qn}{src:List (Sr D)}{sv:List (Sr Pl)}(h:KSr K src sv)(j:ps.length=n+src.length)(k:0<ps.length)(b:∀(s:Pr) (us a:List Pl),K.In s.heap->us.length=n->a.length=ks.length->VU s fd ⟨us,ks.zip a⟩ (ps.zip (us++sv.map (Sr.pick .none a)))):KwOk K fd ps ks n src:=
 ⟨let ⟨sx,h1,h2⟩:=h.mid;⟨sv,sx,h1,h2,b⟩,j,k⟩
variable{X:Cx}{E:St->XK}{K:PZ}{st:QU}
end
section
variable{h:G}{δ:Ds}{β β1 β2 β3:Bg}{Q:Out->Bg->Prop}{i:Nat}{fa fb fv:FD}{fl:FL}{d d0 d1:D}{ds:List D}{op:D->D->Option D}
theorem N5{δ:Dn}{β β1:Bg}(a:t δ β=on (.ok Pe,β1))(b:f δ β1=on r):fIf t f g δ β=on r:=by
 unfold fIf M.bind;rw[a];exact b
theorem N6{δ:Dn}{β β1:Bg}(a:t δ β=on (.ok Pj,β1))(b:g δ β1=on r):fIf t f g δ β=on r:=by
 unfold fIf M.bind;rw[a];exact b
theorem xh{d:D}{δ:Dn}{β:Bg}(e:δ.getD n Pb=on d):af n δ β=on (.ok d,β):=by unfold af;rw[e];rfl
end
section
variable{β β1 β2:Bg}{f g h:FD}{δ:Dn}{x y z:Int}
theorem yu(a:f δ β=on (.ok (.int x),β))(b:g δ β=on (.ok (.int y),β))(c:h δ β=on (.ok (.int z),β)):eD leD ltD f g h δ β=on (.ok (.bl (decide (x<=y)&&decide (y<z))),β):=by
 unfold eD M.bind;rw[a];simp only[b,le_int,M.ofO,asB];by_cases q:x<=y
 ·simp only[q,Tf,Qv,c,lt_int,Tq]
 ·simp only[q,SU,PF,Qw,M.ret,TR]
theorem qe{K:PZ}{f:Qn}:∀{ns:List Qn} {ds:List D} {xs:List V},DenL K F H ds xs->(ns.zip ds).lookup f=on d->∃v,(ns.zip xs).lookup f=on v/\Den K F H d v
 |[],ds,xs,h,e=>by simp at e
 |n::ns,[],xs,h,e=>by simp at e
 |n::ns,c::ds,xs,h,e=>by
  obtain⟨x,r,q,a,b⟩:=h;subst q;rw[RN,U5]at e⊢;split at e
  ·rename_i z
   cases e;exact⟨x,rfl,a⟩
  ·rename_i z
   exact qe b e
theorem sF{α:Type}:∀{ns:List Qn} {xs:List α},m∉ns->(ns.zip xs).lookup m=Pb
 |[],xs,_=>by simp
 |n::ns,[],_=>by simp
 |n::ns,x::xs,h=>by
  rw[RN,U5];have a:m≠n:=λz=>h (by rw[z];exact Pn);have b:m∉ns:=λz=>h (Pg _ z);rw[show(m==n)=Pj by simpa using a];exact sF b
theorem cT.nil{K:PZ}(b:aD K fd ps []):cT K fd ps []:=⟨[],[],b,.nil,λ_ _=>DenL.nil⟩
end
section
variable{X:Cx}{E:St->XK}{o e:Expr}{es:List Expr}{pos p apos kpos:Uj}{x m:Qn}{k n:Nat}{f C:Pk}{fd:P9}{ps ks:List Qn}{kws:List Vc}
noncomputable def yd(C:Pk)(f:Qn):D->Option D
 | .obj C' ns ds=>if C'=C then(ns.zip ds).lookup f else Pb
 |_=>Pb
theorem jp{f:Qn}(c:Cls X.K C)(n:eE X.K C f)(j:PE X e (tV X.K g E))(l:S6 e f X.env (QS e X.env)=QS e X.env:=by rfl):PE X (.Attribute e f pos) (tV X.K (f1 (yd C f) g) E):=
 (LZ j l).imp λL H Q i=>ex6 i λF δ β fr q h=>⟨F,δ,β,fr,q,(run.bind (R:=Den X.K F) h).mono λv r i=>by
  obtain⟨d,β1,t,hd,r1⟩:=i;obtain⟨d3,b,k⟩:=run.ofO r1;cases d<;>first|cases b|skip
  rename_i u ns ds;unfold yd at b;simp only at b;split at b
  ·rename_i z
   subst z;unfold Den at hd;obtain⟨a,y,xs,rfl,N,A,O,B⟩:=hd;obtain⟨w,I,J⟩:=qe B b;exact⟨a,u,y,_,w,rfl,A,c,n,I,k w r (To.refl t.fr) J⟩
  ·cases b⟩
def fZ(C:Pk)(m:Qn)(a:List D->M D)(b:FD)(g:FL)(c:List D):FD:=λδ=>M.bind (b δ) λd=>match d with
 | .obj C' ns _=>if C'=C/\m∉ns then M.bind (g δ) λas=>a (d::(as++c))else M.fail
 |_=>M.fail
theorem uX{i:List D}{K:PZ}(N:∀vs H Q E,spF K n mf vs H Q E->R vs H Q E)(rd:∀F H,DenL K F H i dvs)(hn:∀δ β r b,g δ β=on (.ok r,b)->r.length+i.length+1=n)(h:tV K (fZ C m mf fo g i) E σ H Q):xw C m R dvs E (tV K fo E) (tVA K g E) σ H Q:=by
 obtain⟨F,δ,β,fr,A,h⟩:=h;refine⟨F,δ,β,fr,A,(run.bind (R:=Den K F) h).mono λv O T=>ex5 T λd β1 t hd r1=>?_⟩;have fail:∀{j:M D},j=M.fail->run (Den K F) F E σ j O Q β1->False:=λ{j} e r=>by
  obtain⟨r,b,B,_⟩:=r;rw[e]at B;cases B
 cases d<;>first|exact(fail rfl r1).elim|skip
 rename_i C' ns ds;simp only at r1;split at r1
 ·rename_i z
  obtain⟨rfl,hm⟩:=z;have l:=hd;unfold Den at hd;obtain⟨a,U,xs,rfl,h1,W,h3,h4⟩:=hd;refine⟨a,U,_,rfl,W,sF hm,F,δ,β1,t.fr,A.tr (t.tr fr),?_⟩;obtain⟨r0,q,I,J⟩:=run.bind (R:=DenL K F) r1;refine⟨r0,q,I,?_⟩;cases r0 with
  |error C=>exact J
  |ok as=>
   intro vs u Y c;obtain⟨d',β2,L,y,Z⟩:=J vs u Y c;have hl:=hn _ _ _ _ I;have hz:=(rd F u).length;refine N _ _ _ _ ⟨by rw[Pz,PM,←c.length,←hz,hl],F,_::(d'++i),β2,L.fr,DenL.cons (Den.tr (L.tr t.fr) _ _ l) (DenL.append y (rd F u)),run.toE Z⟩
 ·exact(fail rfl r1).elim
theorem pi{a:List D}(c:Cls X.K C)(hm:Meth X.K C m f)(G:FnOk X.prog X.w X.K X.mg X.base (CXE X.prog X.w) k f fd ps (spF X.K n mf))(l:Room k X.A)(q:cT X.K fd ps a)(t:dH (CXE X.prog X.w) X E)
  (u:PE X o (tV X.K fo E)) (ha:PA X (e::es) (tVA X.K g E)) (hn:∀δ β r j,g δ β=on (.ok r,j)->r.length+a.length+1=n)
  (d:PH (e::es) X.env=(Pj,QS e X.env)::PH es X.env:=by rfl) (i:(R4 pos (PH es X.env)).any (·.1)=Pj:=by rfl)
  (v:QS (.Call (.Attribute o m apos) (e::es) [] pos) X.env=(do
   let ov ←QS o X.env
   Tz apos.atName
   let (f,first) ←T9 [ov] (V0 ov m pl)
   callWith pos f first (R4 pos (PH (e::es) X.env)) (SY pos (RO [] X.env))):=by rfl):
  PE X (.Call (.Attribute o m apos) (e::es) [] pos) (tV X.K (fZ C m mf fo g a) E):=by
 obtain⟨ds,y,b,B,rd⟩:=q;exact(Kd (pl:=pl) u c hm G l b B t ha d i v).imp λF H Q h=>uX (λ_ _ _ _ z=>z) rd hn h
theorem fi{d:List D}(c:Cls X.K C)(hm:Meth X.K C m f)(G:FnOk X.prog X.w X.K X.mg X.base (CXE X.prog X.w) k f fd ps (spF X.K n mf))(i:Room k X.A)(j:cT X.K fd ps d)(l:dH (CXE X.prog X.w) X E)
  (q:PE X o (tV X.K fo E)) (hn:d.length+1=n)
  (t:QS (.Call (.Attribute o m apos) [] [] pos) X.env=(do
   let ov ←QS o X.env
   Tz apos.atName
   let (f,first) ←T9 [ov] (V0 ov m pl)
   callWith pos f first (R4 pos (PH [] X.env)) (SY pos (RO [] X.env))):=by rfl):
  PE X (.Call (.Attribute o m apos) [] [] pos) (tV X.K (fZ C m mf fo ao d) E):=by
 obtain⟨ds,u,b,y,rd⟩:=j;refine(CU (pl:=pl) q c hm G i b y l t).imp λU H Q h=>?_;obtain⟨F,δ,β,fr,B,h⟩:=uX (λ_ _ _ _ z=>z) rd (λδ β r I e=>by cases e;simpa using hn) h;refine⟨F,δ,β,fr,B,h.mono λv W ⟨a,J,fs,L,ha,N,Y,O,β2,g,R,T⟩=>⟨a,J,fs,L,ha,N,?_⟩⟩;exact run.ret g T DenL.nil
structure ToX (F:Fx) (x:Pk) (H H':Hp) (β':Bg):Prop where
 kp:∀a o,a≠x->H a=on o->(∀b l,F.bg=on (b,l)->a≠b/\a≠l)->H' a=on o
 fr:Fr F H' β'
def spI(K:PZ)(C:Pk)(ns:List Qn)(n:Nat)(g:List D->M (List D)):Sp:=λvs H Q E=>∃x rest F ds β d,vs= .ref x::rest/\rest.length=n/\Fr F H β/\F.A x/\(∀b l,F.bg=on (b,l)->x≠b/\x≠l)/\H x=on (.ins C d [])/\DenL K F H ds rest/\
 ∃r a,g ds β=on (r,a)/\match r with
  | .ok es=>∀c xs,ToX F x H c a->c x=on (.ins C d (ns.zip xs))->ns.length=xs.length->DenL K F c es xs->Q .non c
  | .error Ce=>∀c,ToX F x H c a->E (.ref Ce) Pb c
variable{ns:List Qn}
theorem DH{K:PZ}{vs:List V}(fr:Fr F H2 β2)(R:vs.length=n)(hd:DenL K F H2 ds vs)(r:run (Den K F) F E σ (M.bind (mi ds) λfs=>M.ret (.obj C ns fs)) H2 Q β2):
  ∀x c,H2 x=Pb->H2 c=Pb->c≠x->spI K C ns n mi (.ref x::vs) (upd (upd H2 c (.own x)) x (.ins C c [])) (λv T=>v= .non/\Q (.ref x) T) (E σ):=by
 intro x c H I ne;have J:¬F.A x:=fr.fresh H;have same:bQ H2 (upd (upd H2 c (.own x)) x (.ins C c [])):=λa o h=>by
  rw[upd_ne (aB h H),upd_ne (aB h I)];exact h
 have t:=fr.same same;have L:Fr (F.but x) (upd (upd H2 c (.own x)) x (.ins C c [])) β2:=⟨λa ha z=>(by
  rcases ha with ha|ha
  ·exact t.fr.occ a ha z
  ·subst ha;rw[ar]at z;cases z),λb l q=>let ⟨z1,z2,z3⟩:=fr.bgA b l q;⟨.inl z1,.inl z2,z3⟩,t.fr.bag⟩
 have U:∀b l,F.bg=on (b,l)->x≠b/\x≠l:=λb l q=>⟨λz=>J (z▸(fr.bgA b l q).1),λz=>J (z▸(fr.bgA b l q).2.1)⟩;have N:Tr F H2 (F.but x) (upd (upd H2 c (.own x)) x (.ins C c [])):=⟨λa W Y z=>by
  rcases z with z|z
  ·exact W z
  ·subst z;exact Y H,λa o _ h=>same a o h,rfl⟩
 obtain⟨Z,d,g,h⟩:=r;refine⟨x,vs,F.but x,ds,β2,c,rfl,R,L,.inr rfl,U,ar,DenL.tr N _ _ hd,?_⟩;have u:∀{i:Hp} {d:Bg},ToX (F.but x) x (upd (upd H2 c (.own x)) x (.ins C c [])) i d->To F H2 i d:=λ{i d} j=>⟨λa o ha n=>j.kp a o (aB ha H) (same a o ha) n,⟨λa ha=>j.fr.occ a (.inl ha),fr.bgA,j.fr.bag⟩⟩;cases q:mi ds β2 with
 |none=>unfold M.bind at g;rw[q]at g;cases g
 |some z=>
  obtain⟨r1,β1⟩:=z;refine⟨r1,β1,rfl,?_⟩;cases r1 with
  |error Ce=>
   rw[M.bind_err q]at g;cases g;exact λi j=>h i (u j)
  |ok fs=>
   rw[M.bind_ok q]at g;cases g;refine λi xs j O y B=>⟨rfl,h (.ref x) i (u j) ⟨x,c,xs,rfl,J,O,y,DenL.tr Fx.tr_of _ _ B⟩⟩
def AO(C:Pk)(ns:List Qn)(a:List D->M (List D))(g b:FL)(src:List (Sr D)):FD:=λδ=>M.bind (g δ) λas=>M.bind (b δ) λks=>M.bind (a (as++src.map (Sr.pick .non ks))) λfs=>M.ret (.obj C ns fs)
def Lh(C:Pk)(sp:Sp)(d:List V->List V->List V)(E:St->XK)(t g:TA):TE:=λb H Q=>t b H λvs h=>g b h λi c=>∀x a,c x=Pb->c a=Pb->a≠x->
 sp (d (.ref x::vs) i) (upd (upd c a (.own x)) x (.ins C a [])) (λv j=>v= .non/\Q (.ref x) j) (E b)
theorem CV(M:Mk X.K C f)(F:FnOk X.prog X.w X.K X.mg X.base CX k f fd ps sp)(U:Room (k+1) X.A)(Y:Gl X x)(hm:X.mg x=on (.ref C))(O:KBinds X.K fd ps ks g gV)(Z:dH CX X E)
  (ha:PA X (e::es) t) (B:PK X kws tk) (i:(SY pos (RO kws X.env)).all (·.1.isSome)=Pe:=by rfl) (J:(SY pos (RO kws X.env)).filterMap (·.1)=ks:=by rfl)
  (L:(x==("__debug__":Qn))=Pj:=by decide) (he:PH (e::es) X.env=(Pj,QS e X.env)::PH es X.env:=by rfl)
  (N:((R4 pos (PH (e::es) X.env)).any (·.1)||(SY pos (RO kws X.env)).any (·.1.isNone))=Pj:=by rfl):
  PE X (.Call (.Name x p) (e::es) kws pos) (Lh C sp gV E t tk):=by
 intro a s l H Q I h;refine U2 (re I Y hm ?_ L);refine PySem.W.callWith_KW (h₀:=X.base) I.ok.mod.kin M.kp i (thn (ha pos a s l H _ I h) λus s1 ⟨vs,H1,I1,r,q⟩=>?_) N he;refine thn (B pos a s1 l H1 _ I1 q) λd c ⟨zs,H2,j,rz,q2⟩=>⟨j.kIn,?_⟩;rw[J];have R:=q2 (c.heap.objs.size+1) c.heap.objs.size (j.hok.fresh (UT _)) (j.hok.fresh (Pt _)) (QE (Va _));have y:=Inv.made (C:=C) j;have T:=O.rel (.cons (show aQ (V.ref (c.heap.objs.size+1)) (P4 (c.heap.objs.size+1))from rfl) r) rz;have hl:(g (P4 (c.heap.objs.size+1)::us) d).length=ps.length:=by rw[←T.length];exact F.len _ _ _ _ R
 refine wpAny_call (DI (f:=f) j.kIn M.makes M.init (beq_iff_eq.mp M.fn) (UP (F.run _ X.stack _ _ ⟨P4 (c.heap.objs.size+1)::us,ks.zip d⟩ (g (P4 (c.heap.objs.size+1)::us) d) _ _ (E l) (U.make C us (ks.zip d))
  (y.env0.make C us (ks.zip d)) (O.to _ (P4 (c.heap.objs.size+1)::us) d y.kIn hl) T R) λr s' b=>?_))
 cases r with
 |error e=>exact Z a l _ _ e s' y b
 |ok fl=>
  cases fl with
  |ret u=>
   obtain⟨v,H',I4,rv,ev,q4⟩:=y.after b;subst ev;exact⟨rv,⟨V.ref (c.heap.objs.size+1),H',I4,rfl,q4⟩⟩
  |next=>exact Sa b
  |brk=>exact Sa b
  |cont=>exact Sa b
theorem JH{src:List (Sr D)}(Mm:Mk X.K C f)(G:FnOk X.prog X.w X.K X.mg X.base (CXE X.prog X.w) k f fd ps (spI X.K C ns n mi))(hr:Room (k+1) X.A)(hg:Gl X x)(hm:X.mg x=on (.ref C))(hb:KwOk X.K fd ps ks (n1+1) src)(hx:dH (CXE X.prog X.w) X E)
  (ha:PA X (e::es) (tVA X.K g E)) (c:PK X kws (tVA X.K gk E)) (hn:∀δ β r a,g δ β=on (.ok r,a)->r.length=n1) (d:∀δ β r a,gk δ β=on (.ok r,a)->r.length=ks.length) (h3:n1+src.length=n)
  (b:(SY pos (RO kws X.env)).all (·.1.isSome)=Pe:=by rfl) (h:(SY pos (RO kws X.env)).filterMap (·.1)=ks:=by rfl)
  (i:(x==("__debug__":Qn))=Pj:=by decide) (he:PH (e::es) X.env=(Pj,QS e X.env)::PH es X.env:=by rfl)
  (j:((R4 pos (PH (e::es) X.env)).any (·.1)||(SY pos (RO kws X.env)).any (·.1.isNone))=Pj:=by rfl):
  PE X (.Call (.Name x p) (e::es) kws pos) (tV X.K (AO C ns mi g gk src) E):=by
 obtain⟨sv,J,rd,kb⟩:=hb.kb;refine(CV Mm G hr hg hm kb hx ha c b h i he j).imp λσ H Q h_=>ex6 h_ λF δ β fr L r=>⟨F,δ,β,fr,L,?_⟩;obtain⟨r0,l,N,O⟩:=run.bind (R:=DenL X.K F) r;refine⟨r0,l,N,?_⟩;cases r0 with
 |error C=>exact O
 |ok as=>
  intro vs H1 t hd;obtain⟨d',β1,q,u,r1⟩:=O vs H1 t hd;refine⟨F,δ,β1,q.fr,L.tr (q.tr fr),?_⟩;obtain⟨T,β2,U,W⟩:=run.bind (R:=DenL X.K F) r1;refine⟨T,β2,U,?_⟩;cases T with
  |error C=>exact W
  |ok bs=>
   intro v Y t2 Z;obtain⟨d2,β3,t3,B,r3⟩:=W v Y t2 Z;have l1:=hn _ _ _ _ N;have l2:=d _ _ _ _ U;have I:DenL X.K F Y d' vs:=DenL.tr (t3.tr q.fr) _ _ u;intro y dx;have g1:gK V.non (n1+1) ks.length J (.ref y::vs) v= .ref y::(vs++J.map (Sr.pick .non v)):=Ps ⟨by rw[Pz,←hd.length,l1],by rw[←Z.length,l2]⟩;rw[g1];exact DH t3.fr (by rw[PM,Pa,←hd.length,l1,←rd.len,h3]) (DenL.append I (SrR.den B rd)) r3 y dx
abbrev IP:=Ds->List D->Bg->Option (Except Pk (List D)×Bg)
noncomputable def IN:IP:=λ_ done β=>on (.ok done,β)
noncomputable def nE(g:G)(a:IP):IP:=λδ done β=>match g δ β with
 |some (.nx δ1,β1)=>match δ[0]?,δ1[0]? with
  |some (on (Sl.sh (D.adr x))),on (on (Sl.sh (D.adr y)))=>if x=y then a δ1 done β1 else Pb
  |_,_=>Pb
 |some (.ex C _,β1)=>on (.error C,β1)
 |_=>Pb
def jF(f:FD)(a:IP):IP:=λδ done β=>match f (vw δ) β with
 |some (.ok d,β1)=>a δ (done++[d]) β1
 |some (.error C,β1)=>on (.error C,β1)
 |none=>Pb
structure StpX (x:Pk) (B:Ow) (H:Hp) (B':Ow) (H':Hp):Prop where
 kp:∀a o,a≠x->H a=on o->(B a=Pb\/B a=on 0)->H' a=on o
 tg:∀a,B a=on 0\/B a=on 1->B' a=B a
 nn:∀a o,a≠x->H a=on o->B a=Pb->B' a=Pb
 al:∀a,H a≠Pb->H' a≠Pb
end
theorem Stp.x{x:Pk}{B b:Ow}{H c:Hp}(s:Stp B H b c):StpX x B H b c:=⟨λa o _=>s.kp a o,s.tg,λa o _=>s.nn a o,s.al⟩
theorem StpX.trans(a:StpX x B H B1 H1)(b:StpX x B1 H1 B2 H2):StpX x B H B2 H2:=by
 refine⟨λc o ne h n=>b.kp c o ne (a.kp c o ne h n) ?_,λc h=>?_,λc o ne h n=>b.nn c o ne (a.kp c o ne h (.inl n)) (a.nn c o ne h n),λc h=>b.al c (a.al c h)⟩
 ·rcases n with n|n
  ·exact .inl (a.nn c o ne h n)
  ·exact .inr ((a.tg c (.inl n)).trans n)
 ·have e:=a.tg c h
  rw[←e]at h;exact(b.tg c h).trans e
def kJ(K:PZ)(bg:Option (Pk×Pk))(E:St->XK)(Dn:Ends)(B:Ow)(H:Hp)(x C e:Pk)(all:List Qn)(r:Except Pk (List D))(d:Bg):Prop:=match r with
 | .ok ds=>∀b c a vs,StpX x B H c a->Fr (FxB c bg) a d->a x=on (.ins C e (all.zip vs))->all.length=vs.length->DenL K (FxB c bg) a ds vs->Dn.nx b a
 | .error Ce=>∀b c a,StpX x B H c a->Fr (FxB c bg) a d->E b (.ref Ce) Pb a
theorem kJ.pre{K:PZ}{E:St->XK}{Dn:Ends}(s:StpX x B H B1 H1)(h:kJ K bg E Dn B H x C dx all r β'):kJ K bg E Dn B1 H1 x C dx all r β':=by
 cases r with
 |ok ds=>exact λa b c vs t=>h a b c vs (s.trans t)
 |error d=>exact λa b c t=>h a b c (s.trans t)
def tI(K:PZ)(H₀:Hp)(C:Pk)(a names:List Qn)(f:IP)(E:St->XK):TS:=λDn g H=>∃B bg δ β x e b c r d,SOk K H₀ B bg H δ β g/\δ[0]?=on (on (.sh (.adr x)))/\B x=on 0/\H x=on (.ins C e (a.zip b))/\a.length=b.length/\DenL K (FxB B bg) H c b/\f δ c β=on (r,d)/\kJ K bg E Dn B H x C e (a++names) r d
theorem sD:∀{ns:List Qn} {vs:List V},ns.length=vs.length->f∉ns->dP f y (ns.zip vs)=(ns++[f]).zip (vs++[y])
 |[],[],_,_=>rfl
 |n::ns,v::vs,h,hf=>by
  have a:¬n=f:=λz=>hf (by rw[z];exact Pn);show(if n=f then(n,y)::ns.zip vs else(n,v)::dP f y (ns.zip vs))=_;rw[Po a,sD (by simpa using h) λz=>hf (Pg _ z)];rfl
 |[],_::_,h,_=>by simp at h
 |_::_,[],h,_=>by simp at h
theorem SOk.upd0{K:PZ}(ok:SOk K H₀ B bg H δ β σ)(g:B x=on 0):SOk K H₀ B bg (upd H x o) δ β σ/\StpX x B H B (upd H x o):=by
 have al:∀c,H c≠Pb->upd H x o c≠Pb:=λc f=>by
  by_cases z:c=x
  ·subst z;rw[ar];simp
  ·rw[upd_ne z];exact f
 have t:∀b l,bg=on (b,l)->b≠x/\l≠x:=λb l e=>by
  obtain⟨b1,b2⟩:=ok.bgt b l e;exact⟨λz=>(by rw[z,g]at b1;cases b1),λz=>(by rw[z,g]at b2;cases b2)⟩
 have tr:Tr (FxB B bg) H (FxB B bg) (upd H x o):=⟨λ_ h _=>h,λc u f e=>by
  rw[upd_ne]
  ·exact e
  ·intro z;subst z;exact f (by show B c≠Pb;rw[g];simp),rfl⟩
 refine⟨⟨⟨λc f=>al c (ok.fr.occ c f),ok.fr.bgA,λb l e=>?_⟩,ok.bgt,ok.len,λc f=>al c (ok.cov c f),ok.new,λc k f=>?_,λi s e=>?_⟩,λc u ne h _=>by rw[upd_ne ne];exact h,λ_ _=>rfl,λ_ _ _ _ n=>n,al⟩
 ·obtain⟨y,A⟩:=ok.fr.bag b l e
  obtain⟨C,F⟩:=t b l e;exact⟨by rw[upd_ne C];exact y,by rw[upd_ne F];exact A⟩
 ·obtain⟨xs,h⟩:=ok.lst c k f
  exact⟨xs,by rw[upd_ne];exact h;intro z;subst z;rw[g]at f;cases f⟩
 ·obtain⟨v,I,j⟩:=ok.tell i s e
  refine⟨v,I,?_⟩;cases s with
  |sh d=>exact Den.tr tr _ _ j
  |own ds=>
   obtain⟨a,xs,rfl,hB,ha,hd⟩:=j;exact⟨a,xs,rfl,hB,(by rw[upd_ne];exact ha;intro z;subst z;rw[g]at hB;cases hB),DenL.tr tr _ _ hd⟩
  |grd rows=>
   obtain⟨a,rs,rfl,hB,ha,nd,J⟩:=j;refine⟨a,rs,rfl,hB,(by rw[upd_ne];exact ha;intro z;subst z;rw[g]at hB;cases hB),nd,RowL.tr tr J λr xs _ p q=>⟨p,?_⟩⟩;rw[upd_ne]
   ·exact q
   ·intro z;subst z
    have m:B r=on (i+2):=p;rw[g]at m;cases m
section
variable{X:Cx}{E:St->XK}{st:QU}{sts:List QU}{C:Pk}{ns0 names:List Qn}{ip:IP}
theorem OS:PSs X [] (tI X.K X.H₀ C ns0 [] IN E):=qZ.imp λDn b H c=>by
 obtain⟨B,bg,δ,β,x,i,a,d,r,f,ok,j,l,g,h,hd,e,k⟩:=c;cases e;rw[Qe]at k;exact k b B H a (Stp.refl B H).x ok.fr g h hd
theorem IO(m:PS X st (tG X.K X.H₀ g E))(n:PSs X sts (tI X.K X.H₀ C ns0 names ip E)):PSs X (st::sts) (tI X.K X.H₀ C ns0 names (nE g ip) E):=(da m n).imp λDn y H o=>by
 obtain⟨B,bg,δ,β,x,p,c,d,r,f,ok,q,h,t,u,hd,e,k⟩:=o;unfold nE at e;split at e
 ·rename_i δ1 β1 i
  split at e
  ·rename_i A F q1 q2
   split at e
   ·rename_i z
    subst z;rw[q]at q1;cases q1;refine⟨B,bg,δ,β,.nx δ1,β1,ok,i,λb j l s a=>?_⟩;exact⟨j,bg,δ1,β1,x,p,c,d,r,f,a,q2,(s.tg x (.inl h)).trans h,s.kp x _ t (.inr h),u,DenL.tr s.tr _ _ hd,e,kJ.pre s.x k⟩
   ·cases e
  ·cases e
 ·rename_i v δ1 β1 i
  cases e;exact⟨B,bg,δ,β,.ex v δ1,_,ok,i,λb j l s a=>k b j l s.x a.fr⟩
 ·cases e
theorem tY(c:Cls X.K C)(n:eE X.K C f)(Q:f∉ns0)(L:ns0.length<1000)(R:PS X st (Lx X.K (oG 0) (tV X.K fv E) f))(T:PSs X sts (tI X.K X.H₀ C (ns0++[f]) names ip E)):PSs X (st::sts) (tI X.K X.H₀ C ns0 (f::names) (jF fv ip) E):=(da R T).imp λDn U H W=>by
 obtain⟨B,bg,δ,β,x,l,g,q,r,t,ok,N,m,Y,O,hd,e,k⟩:=W;refine⟨FxB B bg,vw δ,β,ok.fr,ok.view,?_⟩;unfold jF at e;split at e
 ·rename_i d β1 A
  refine⟨.ok d,β1,A,λy p F Z=>?_⟩;obtain⟨b,i⟩:=ok.to rfl F;obtain⟨v,g1,g2⟩:=b.tell 0 _ N;have hv:v= .ref x:=g2;subst hv;have I:=i.kp x _ Y (.inr m);refine⟨_,g1,x,C,l,_,rfl,I,c,n,?_,?_⟩
  ·rw[Tw];omega
  obtain⟨J,s2⟩:=b.upd0 (o:= .ins C l (dP f y (ns0.zip g))) m;have j:Tr (FxB B bg) p (FxB B bg) (upd p x (.ins C l (dP f y (ns0.zip g)))):=⟨λ_ h _=>h,λa u ha e=>by
   rw[upd_ne]
   ·exact e
   ·intro z;subst z;exact ha (by show B a≠Pb;rw[m];simp),rfl⟩
  refine⟨B,bg,δ,β1,x,l,g++[y],q++[d],r,t,J,N,m,by rw[ar,sD O Q],by simp[O],DenL.append (DenL.tr j _ _ (DenL.tr i.tr _ _ hd)) (DenL.cons (Den.tr j _ _ Z) DenL.nil),e,?_⟩;rw[QJ];exact kJ.pre (i.x.trans s2) k
 ·rename_i Ce β1 A
  cases e;refine⟨.error Ce,_,A,λp F=>?_⟩;obtain⟨b,i⟩:=ok.to rfl F;exact k U B p i.x b.fr
 ·cases e
end
open Classical in
def nF(m:Nat)(a:IP):List D->M (List D):=λds β=>if h:∃r,∀x,a (stD m (.adr x::ds)) [] β=on r then on h.choose else Pb
theorem EB(h:∀x,ip (stD m (.adr x::ds)) [] β=on r):nF m ip ds β=on r:=by
 have a:∃r,∀x,ip (stD m (.adr x::ds)) [] β=on r:=⟨r,h⟩;unfold nF;rw[dif_pos a];have:=a.choose_spec 0;rw[h 0]at this;exact this.symm
theorem AG(h:nF m ip ds β=on r):∀x,ip (stD m (.adr x::ds)) [] β=on r:=by
 unfold nF at h;split at h
 ·rename_i a
  have:=a.choose_spec;cases h;exact this
 ·cases h
section
variable{P:Qf}{w:Qq}{K:PZ}{mg:Qn->Option Pl}{base:QW}
theorem KV{st:QU}{N ps names:List Qn}(n m:Nat)(ip:IP)(F:FunD K x qual st f fd)(S:FnScope N ps (ah st))(O:ps.length=n+1)(R:N.length=m)
  (p:∀(i:Pl) (A:QP) (outer:List Wr) (s:Pr) (H:Hp) (E:XK),Room k (A.deeper (T7 qual (ah st) s.heap.objs.size f i))->
   PSs (f8 (CXE P w) P w K mg base N qual (ah st) f i A outer s H E) (cR st) (tI K H C [] names ip (λ_=>E))):FnOk P w K mg base (CXE P w) (k+1) f fd ps (spI K C names n (nF m ip)):=by
 subst R;refine F.okE S (λvs H Q E h=>?_) λi A outer s H vs Q E hr h=>?_
 ·obtain⟨y,rest,j,ds,β,dx,rfl,hl,_⟩:=h
  rw[Pz,hl,O]
 obtain⟨y,rest,j,ds,β,dx,rfl,hl,fr,T,nb,hH,hd,r,d,e,h⟩:=h;refine⟨_,p i A outer s H E hr,?_⟩;have U:DenL K j H (.adr y::ds) (.ref y::rest):=DenL.cons rfl hd;obtain⟨B,ok,L,h1,hn⟩:=uu (N:=N) fr U;have hy:B y=on 0:=by
  rcases L y T with z|z
  ·exact z
  ·obtain⟨b,l,q,w⟩:=h1 y z
   obtain⟨W,X⟩:=nb b l q;rcases w with w|w
   ·exact P6 w W
   ·exact P6 w X
 have v:∀{u:Ow} {g:Hp} {d:Bg},StpX y B H u g->Fr (FxB u j.bg) g d->ToX j y H g d/\Tr (FxB u j.bg) g j g:=λ{u g d} s c=>by
  have hs:∀a,j.A a->u a≠Pb:=λa ha=>by
   rw[s.tg a (L a ha)];rcases L a ha with z|z<;>rw[z]<;>simp
  refine⟨⟨λa o ne ha n=>s.kp a o ne ha ?_,λa ha=>c.occ a (hs a ha),λb l e=>fr.bgA b l e,c.bag⟩,λa ha _ z=>ha (hs a z),λ_ _ _ h=>h,rfl⟩;cases q:B a with
  |none=>exact .inl rfl
  |some t=>
   have:=L a (hn a (by rw[q];simp));rcases this with z|z
   ·rw[q]at z;exact .inr z
   ·obtain⟨b,l,e,w⟩:=h1 a z
    obtain⟨W,X⟩:=n b l e;rcases w with w|w
    ·exact P6 w W
    ·exact P6 w X
 refine⟨B,j.bg,stD N.length (.adr y::ds),β,y,dx,[],[],r,d,ok,rfl,hy,hH,rfl,DenL.nil,AG e y,?_⟩;cases r with
 |ok es=>
  intro Y u g vs s c Z I J;obtain⟨t1,t2⟩:=v s c;exact h g vs t1 Z I (DenL.tr t2 _ _ J)
 |error Ce=>
  intro Y u g s c;exact h g (v s c).1
variable{X:Cx}{E:St->XK}{st:QU}
variable{h:G}{δ:Ds}{β β1:Bg}{Q:Out->Bg->Prop}{i:Nat}{f:FD}
end
section
variable{C Ce:Pk}{m:Qn}{ns:List Qn}{mf:List D->M D}{mi:List D->M (List D)}{fo:FD}{g gk:FL}{dd fs as ks:List D}{src:List (Sr D)}{δ:Dn}{β β1 β2 β3:Bg}{r:Except Pk D×Bg}{d:D}{f:Qn}{h:G}{Q:Out->Bg->Prop}{i:Nat}{δs:Ds}
theorem fN(a:fo δ β=on (.ok (.obj C ns fs),β1))(b:g δ β1=on (.ok as,β2))(c:mf (.obj C ns fs::(as++dd)) β2=on r)(hm:m∉ns:=by decide):fZ C m mf fo g dd δ β=on r:=by
 unfold fZ;rw[M.bind_ok a];simp only[hm,not_false_eq_true,and_self,Qv];rw[M.bind_ok b];exact c
theorem jo(a:x δ β=on (.ok (.obj C ns fs),β1))(b:(ns.zip fs).lookup f=on d):f1 (yd C f) x δ β=on (.ok d,β1):=by
 refine x_1 a ?_;unfold yd;simp only[Qv];exact b
theorem AD{g:G}{δ δ1:Ds}{r:Except Pk (List D)×Bg}(e:g δ β=on (.nx δ1,β1))(a:δ[0]?=on (on (.sh (.adr x))))(b:δ1[0]?=on (on (.sh (.adr x))))(k:ip δ1 done β1=on r):nE g ip δ done β=on r:=by
 unfold nE;simp only[e,a,b,Qv];exact k
theorem ql{f:FD}{δ:Ds}{d:D}{r:Except Pk (List D)×Bg}(e:f (vw δ) β=on (.ok d,β1))(k:ip δ (done++[d]) β1=on r):jF f ip δ done β=on r:=by
 unfold jF;rw[e];exact k
noncomputable def tpA{α:Type}(d:α)(c:Nat)(rows:List (List α)):List (List α):=(Pq c).map λj=>rows.map λrow=>row.getD j d
abbrev tp(c:Nat)(rows:LI):LI:=tpA 0 c rows
theorem j5{α:Type}{d:α}{r c:Nat}{rows:List (List α)}(h:rows.length=r):Shp c r (tpA d c rows):=⟨by simp[tpA],λrow a=>by
 obtain⟨j,_,rfl⟩:=PD.mp a;rw[Pa,h]⟩
theorem Le{α:Type}{d:α}{rows:List (List α)}(h:j<c):(tpA d c rows)[j]?=on (rows.map λrow=>row.getD j d):=by
 unfold tpA;rw[Pi,QO h];rfl
theorem xH{d:Int}:∀(row:List Int),(Pq row.length).map (λj=>row.getD j d)=row:=λrow=>by
 refine YF λi=>?_;rw[Pi];by_cases h:i<row.length
 ·rw[QO h]
  show on (row.getD i d)=_;rw[Pf,Pd h];rfl
 ·rw[TZ (by simpa using h),TZ (by omega)];rfl
theorem qO{α:Type}(f g:α->Int):∀l:List α,(l.map λx=>f x+g x).sum=(l.map f).sum+(l.map g).sum
 |[]=>by simp
 |x::l=>by
  simp only[Py,P8,qO f g l];omega
theorem oI{α:Type}:∀l:List α,(l.map λ_=>(0:Int)).sum=0
 |[]=>rfl
 |x::l=>by simp only[Py,P8,oI l];rfl
theorem yF:∀{rows:LI},(∀row∈rows,row.length=c)->tot (tp c rows)=tot rows
 |[],_=>by
  show((tpA 0 c []).map Ri).sum=0;unfold tpA;rw[Pp];exact oI (Pq c)
 |row::rows,h=>by
  have ih:=yF (c:=c) (rows:=rows) λx b=>h x (Pg _ b);have a:=h row Pn;unfold tot tp tpA at ih⊢;rw[Pp]at ih⊢;have e:(λj=>(Ri ((row::rows).map λrow=>row.getD j 0)))=λj=>row.getD j 0+(rows.map λrow=>row.getD j 0).sum:=by
   funext j;rw[Py,P8]
  show((Pq c).map λj=>(Ri ((row::rows).map λrow=>row.getD j 0))).sum=_;rw[e,qO,←a,xH,a,Py,P8];congr 1
theorem HM(h:∀row∈rows,∀x∈row,0<=x):∀row∈tp c rows,∀x∈row,0<=x:=λrow a x b=>by
 obtain⟨j,_,rfl⟩:=PD.mp a;obtain⟨q,k,rfl⟩:=PD.mp b;rw[Pf];cases e:q[j]? with
 |none=>exact XW 0
 |some y=>exact h q k y (PU e)
end
end L2.Pu
namespace L2.Pu
open PySem PySem.Spec PyProof PyProof.Rows
section
variable{X:Cx}
variable{prog:Qf}{w:Qq}{A:QP}{E:Pl->Pr->Prop}{s:Pr}{l:Pk}{xs:Array (Int×Tok)}
variable{K:PZ}
end
end L2.Pu
namespace L2
open PySem PySem.Spec PyProof.Rows
end L2
namespace L2.Pu
open PySem PySem.Spec PyProof.Rows
section
variable{X:Cx}{E:St->XK}{K:PZ}{elt target iter:Expr}{ifs:List Expr}{rest:List Rm}{scope:Scope}{pos:Uj}{Nc vars:List Qn}{caps:List Nat}{g:TG}{tb:Pk->TB}
variable{st:QU}{H₀:Hp}{B:Ow}{bg:Option (Pk×Pk)}{H H':Hp}{δ:Ds}{β β':Bg}{σ:St}
theorem lU1{us:List Pl}(h:us.length=1):∃a,us=[a]:=List.length_eq_one_iff.mp h
theorem lU2{us:List Pl}(h:us.length=2):∃c a1,us=[c,a1]:=by
 obtain⟨a,l,rfl⟩:=Ta h;obtain⟨b,rfl⟩:=lU1 (us:=l) (by simpa using h);exact⟨_,_,rfl⟩
theorem lU3{us:List Pl}(h:us.length=3):∃d a1 a2,us=[d,a1,a2]:=by
 obtain⟨a,l,rfl⟩:=Ta h;obtain⟨b,c,rfl⟩:=lU2 (us:=l) (by simpa using h);exact⟨_,_,_,rfl⟩
theorem lU4{us:List Pl}(h:us.length=4):∃e a1 a2 a3,us=[e,a1,a2,a3]:=by
 obtain⟨a,l,rfl⟩:=Ta h;obtain⟨b,c,d,rfl⟩:=lU3 (us:=l) (by simpa using h);exact⟨_,_,_,_,rfl⟩
end
section
variable{X:Cx}{E:St->XK}{e e1 e2 e3 e4 e5:Expr}{es:List Expr}{pos p:Uj}{f1 f2 f3 f4 f5:FD}{g:FL}{k j n:Nat}{f:Pk}{fd:P9}{ps:List Qn}{x:Qn}{op:List D->Option D}{r:List V->Hp->VK->Prop}{id T:String}
theorem vv(i:Nat){x:Qn}(b:X.N[i]?=on x:=by rfl)(c:Vis X.env.scope x:=by first|exact Ru rfl|exact Se (Ru rfl)|exact Se (Se rfl))(hd:(x==("__debug__":Qn))=Pj:=by decide)
  (a:(x==("__classdict__":Qn))=Pj:=by decide):PE X (.Name x pos) (tV X.K (af i) E):=Oa i (pv i b c hd a)
theorem va1(a:PE X e1 (tV X.K f1 E))(b:PH [e1] X.env=(Pj,QS e1 X.env)::PH [] X.env:=by rfl):PA X [e1] (tVA X.K (aa f1 ao) E):=mY a eP b
theorem va2(a:PE X e1 (tV X.K f1 E))(b:PE X e2 (tV X.K f2 E))(c:PH [e1,e2] X.env=(Pj,QS e1 X.env)::PH [e2] X.env:=by rfl)(d:PH [e2] X.env=(Pj,QS e2 X.env)::PH [] X.env:=by rfl):PA X [e1,e2] (tVA X.K (aa f1 (aa f2 ao)) E):=mY a (va1 b d) c
theorem va3(a:PE X e1 (tV X.K f1 E))(b:PE X e2 (tV X.K f2 E))(c:PE X e3 (tV X.K f3 E))(d:PH [e1,e2,e3] X.env=(Pj,QS e1 X.env)::PH [e2,e3] X.env:=by rfl)(h:PH [e2,e3] X.env=(Pj,QS e2 X.env)::PH [e3] X.env:=by rfl)(i:PH [e3] X.env=(Pj,QS e3 X.env)::PH [] X.env:=by rfl):PA X [e1,e2,e3] (tVA X.K (aa f1 (aa f2 (aa f3 ao))) E):=mY a (va2 b c h i) d
theorem va4(a:PE X e1 (tV X.K f1 E))(b:PE X e2 (tV X.K f2 E))(c:PE X e3 (tV X.K f3 E))(d:PE X e4 (tV X.K f4 E))(h:PH [e1,e2,e3,e4] X.env=(Pj,QS e1 X.env)::PH [e2,e3,e4] X.env:=by rfl)(i:PH [e2,e3,e4] X.env=(Pj,QS e2 X.env)::PH [e3,e4] X.env:=by rfl)(l:PH [e3,e4] X.env=(Pj,QS e3 X.env)::PH [e4] X.env:=by rfl)(m:PH [e4] X.env=(Pj,QS e4 X.env)::PH [] X.env:=by rfl):PA X [e1,e2,e3,e4] (tVA X.K (aa f1 (aa f2 (aa f3 (aa f4 ao)))) E):=mY a (va3 b c d i l m) h
theorem aN0(δ:Dn)(β:Bg)(r:List D)(a:Bg)(h:ao δ β=on (.ok r,a)):r.length=0:=HA h
structure FB (P:Qf) (w:Qq) (K:PZ) (mg:Qn->Option Pl) (base:QW) (k:Nat) (x:Qn) (f:Pk) (fd:P9) (ps:List Qn) (n:Nat) (m:List D->M D):Prop where
 ok:FnOk P w K mg base (CXE P w) k f fd ps (spF K n m)
 m:mg x=on (.ref f)
 kp:U1 K (.ref f)=Pe
 b:aD K fd ps []
theorem vc(G:FB X.prog X.w X.K X.mg X.base j x f fd ps n m)(h:Room k X.A)(ha:PA X (e::es) (tVA X.K g E))(i:j<=k:=by decide)(l:dH (CXE X.prog X.w) X E:=by first|exact dh|exact tL|assumption)(o:Gl X x:=by rfl)
  (hn:∀δ β r d,g δ β=on (.ok r,d)->r.length=n:=by repeat (first|exact aN0|apply bf)) (a:(x==("__debug__":Qn))=Pj:=by decide) (q:PH (e::es) X.env=(Pj,QS e X.env)::PH es X.env:=by rfl) (c:(R4 pos (PH es X.env)).any (·.1)=Pj:=by rfl):
  PE X (.Call (.Name x p) (e::es) [] pos) (tV X.K (bB m g) E):=yw G.ok (h.mono i) o G.m G.kp G.b l ha hn a q c
theorem bU(hm:X.mg "len"=Pb)(ha:PA X (e::es) (tVA X.K g E))(b:Gl X "len":=by rfl)(c:PH (e::es) X.env=(Pj,QS e X.env)::PH es X.env:=by rfl)(a:(R4 pos (PH es X.env)).any (·.1)=Pj:=by rfl):PE X (.Call (.Name "len" p) (e::es) [] pos) (tV X.K (aA cc g) E):=cg mI OJ b hm PySem.boot_len ha (by decide) (by decide) c a
theorem hX(hm:X.mg "sum"=Pb)(ha:PA X (e::es) (tVA X.K g E))(b:Gl X "sum":=by rfl)(c:X.calm=Pe:=by rfl)(d:PH (e::es) X.env=(Pj,QS e X.env)::PH es X.env:=by rfl)(a:(R4 pos (PH es X.env)).any (·.1)=Pj:=by rfl):PE X (.Call (.Name "sum" p) (e::es) [] pos) (tV X.K (aA gH g) E):=cg (AY c) Mw b hm PyProof.Rows.Boot.«sum» ha (by decide) (by decide) d a
theorem lS(hm:X.mg "isinstance"=Pb)(ha:PA X (e::es) (tVA X.K g E))(b:Gl X "isinstance":=by rfl)(c:PH (e::es) X.env=(Pj,QS e X.env)::PH es X.env:=by rfl)(a:(R4 pos (PH es X.env)).any (·.1)=Pj:=by rfl):PE X (.Call (.Name "isinstance" p) (e::es) [] pos) (tV X.K (aA cV g) E):=cg AZ OK b hm PyProof.Rows.Boot.«isinstance» ha (by decide) (by decide) c a
theorem cso{scope:Scope}(a vars:List Qn)(caps:List Nat)(k:scope.kind= .function:=by rfl)(nd:(scope.names.map (·.1)).Nodup:=by decide +kernel)
  (fr:(scope.names.all λy=>y.2 != .free||(X.env.scope.names.lookup y.1==on .cell||X.env.scope.names.lookup y.1==on .free))=Pe:=by rfl) (b:a=vars++caps.map (λj=>X.N.getD j Td):=by rfl)
  (c:(caps.all λj=>decide (j<X.N.length)&&scope.names.lookup (X.N.getD j Td)==on .free)=Pe:=by rfl):CmpScope X scope a vars caps:=CmpScope.ofB k nd fr b c
theorem ndc{a:List Qn}(h:a.Nodup:=by decide +kernel):(aI X a scope cl C fp s H).N.Nodup:=h
theorem pgN(i:Nat){x:Qn}(a:X.N.Nodup)(b:X.N[i]?=on x:=by rfl)(c:Loc X.env.scope x:=by first|exact Ru rfl|exact Se rfl)(d:X.fn x=Pe\/X.env.scope.names.lookup x=on .local:=by first|exact .inl rfl|exact .inr rfl|assumption):PG X (.Name x pos) (fY i):=ww a b c d
theorem psS(i:Nat){x:Qn}{e:Expr}{pos a:Uj}(b:X.N.Nodup)(c:PE X e te)(d:X.N[i]?=on x:=by rfl)(h:Loc X.env.scope x:=by first|exact Ru rfl|exact Se rfl)(hs:Uo e (on (.Name x a)) pos.line X.env=RZ Pj:=by rfl)(l:X.fn x=Pe\/X.env.scope.names.lookup x=on .local:=by first|exact .inl rfl|exact .inr rfl|assumption):PS X (.Assign [.Name x a] e pos) (jP te (fY i)):=pW b d h c hs l
theorem bA1{Q:List Pl->Prop}(h:∀a,Q [a])(us:List Pl)(b:us.length=1):Q us:=by obtain⟨_,rfl⟩:=lU1 b;exact h _
theorem bA2{Q:List Pl->Prop}(h:∀a b,Q [a,b])(us:List Pl)(c:us.length=2):Q us:=by obtain⟨_,_,rfl⟩:=lU2 c;exact h _ _
theorem bA3{Q:List Pl->Prop}(h:∀a b c,Q [a,b,c])(us:List Pl)(d:us.length=3):Q us:=by obtain⟨_,_,_,rfl⟩:=lU3 d;exact h _ _ _
theorem bA4{Q:List Pl->Prop}(h:∀a b c d,Q [a,b,c,d])(us:List Pl)(i:us.length=4):Q us:=by obtain⟨_,_,_,_,rfl⟩:=lU4 i;exact h _ _ _ _
theorem fsc{N Q:List Qn}{c:Scope}(a:c.kind= .function:=by rfl)(b:c.isCoroutine=Pj:=by rfl)(g:c.isGenerator=Pj:=by rfl)(d:N.Nodup:=by decide +kernel)(e:N.take Q.length=Q:=by rfl)(f:∀x∈Q,c.names.lookup x=on .local\/c.names.lookup x=on .cell:=by decide +kernel)(h:∀y∈c.names,y.2≠ .free:=by decide +kernel):FnScope N Q c:=⟨a,b,g,d,e,f,h⟩
end
end L2.Pu
namespace L2
open PySem PySem.Spec PyProof.Rows
section
variable{prog:Qf}{w:Qq}{A:QP}{E:Pl->Pr->Prop}{s:Pr}{K:PZ}
variable{X:Cx}
end
namespace Pu
section
variable{X:Cx}{E:St->XK}
end
end Pu
end L2
namespace L2.Pu
open PySem PySem.Spec PyProof.Rows
section
variable{X:Cx}{E:St->XK}{a b:Expr}{pos:Uj}{k:Nat}{f C:Pk}{fd:P9}{ps:List Qn}{K:PZ}
structure IsC (K:PZ) (C:Pk):Prop where
 cl:Cls K C
 ha:TX K (.ref C) "__class__"=on (on (.builtin "object.__class__"))
 hn:specialIn K (.builtin "object.__class__") "__get__"=on (on (.builtin "getset_descriptor.__get__"))
 htk:Yq K (.builtin "object.__class__")=on Pe
 hm:PySem.W.mroIn K C (.type "object")=on Pe
theorem HL{r c:Nat}{rows:LI}(sh:Shp r c rows):tp r (tp c rows)=rows:=by
 obtain⟨e,g⟩:=sh;refine RH (by simp[tpA,e]) λi n d=>?_;have h:rows[i].length=c:=g _ (Qo d);refine RH (by simp[tpA,h]) λj o l=>?_;have m:j<c:=by omega
 simp[tpA,Pf,m,d,l]
variable{p1 p2 pos1 pos2:Uj}
noncomputable def S(n:Nat)(f:Nat->Int):Int:=((Pq n).map f).sum
theorem N0(f:Nat->Int):S 0 f=0:=rfl
theorem gx(n:Nat)(f:Nat->Int):S (n+1) f=S n f+f n:=by
 unfold S;rw[SQ,Qh,Wn];simp
theorem dT{f g:Nat->Int}(h:∀i<n,f i=g i):S n f=S n g:=by
 unfold S;rw[P5 λi c=>h i (PY.mp c)]
theorem ud(n:Nat)(f g:Nat->Int):S n (λi=>f i+g i)=S n f+S n g:=qO f g _
theorem mR(n:Nat):S n (λ_=>0)=0:=oI _
theorem O9(n:Nat)(f:Nat->Int):S n (λi=>-f i)=-S n f:=by
 induction n with
 |zero=>rfl
 |succ n ih=>rw[gx,gx,ih];omega
theorem BJ(n m:Nat)(h:Nat->Nat->Int):S n (λi=>S m (λj=>h i j))=S m (λj=>S n (λi=>h i j)):=by
 induction n with
 |zero=>rw[N0];exact(mR m).symm
 |succ n ih=>
  rw[gx,ih,←ud];exact dT λj _=>(gx n _).symm
theorem oJ{g:Nat->Int}:∀{l L:List Nat},l.Sublist L->L.Nodup->(l.map g).sum=(L.map λx=>if x∈l then g x else 0).sum
 |_,_,.slnil,_=>rfl
 |l,_,.cons a (l₂:=L) h,nd=>by
  have c:=(Qu.mp nd);have ha:a∉l:=λz=>c.1 (h.subset z);rw[Py,P8,Po ha,oJ h c.2,SI]
 |_,_,.cons₂ a (l₁:=l) (l₂:=L) h,nd=>by
  have c:=(Qu.mp nd);rw[Py,Py,P8,P8,Ps Pn,oJ h c.2];congr 2;refine P5 λx e=>?_;have d:x≠a:=λz=>c.1 (z▸e);by_cases q:x∈l
  ·rw[Ps q,Ps (Pg _ q)]
  ·rw[Po q,Po λz=>(PL.mp z).elim d q]
theorem mZ{l:List Nat}(h:l.Sublist (Pq n)):(l.map g).sum=S n λx=>if x∈l then g x else 0:=oJ h U6
theorem wV{p:Nat->Bool}{g:Nat->Int}:∀l:List Nat,((l.filter p).map g).sum=(l.map λx=>if p x=Pe then g x else 0).sum
 |[]=>rfl
 |x::l=>by
  rw[T0,Py,P8,←wV l];by_cases q:p x=Pe
  ·rw[Ps q,Ps q,Py,P8]
  ·rw[Po q,Po q,SI]
noncomputable abbrev nI(l:List Nat):List Int:=l.map λ(i:Nat)=>(i:Int)
noncomputable abbrev nL(l:List Nat):D:= .lst ((nI l).map D.int)
theorem wP:∀xs:List Int,inB (.int i) (xs.map D.int)=decide (i∈xs)
 |[]=>rfl
 |x::xs=>by
  have ih:=wP (i:=i) xs;unfold inB at ih⊢;rw[Py,T5,ih];show(decide (x=i)||_)=_;rw[Vi];simp only[Bool.or_eq_true,Qx,PL];constructor
  ·rintro(h|h)
   ·exact .inl h.symm
   ·exact .inr h
  ·rintro(h|h)
   ·exact .inl h.symm
   ·exact .inr h
theorem sL:∀xs:List Int,(xs.map D.int).all d8=Pe
 |[]=>rfl
 |_::xs=>sL xs
theorem MD{xs:List Int}{neg:Bool}:inD neg (.int i) (.lst (xs.map D.int))=on (.bl (if neg then !decide (i∈xs)else decide (i∈xs))):=by
 show(if(d8 (.int i)&&(xs.map D.int).all d8)=Pe then _ else _)=_;rw[sL,Bool.and_true,Ps (show d8 (.int i)=Pe from rfl),wP]
theorem Mp{i:Nat}{l:List Nat}:((i:Int)∈nI l)↔i∈l:=by
 constructor
 ·intro h
  obtain⟨j,c,e⟩:=PD.mp h;exact(Int.ofNat.inj e)▸c
 ·intro h
  exact PD.mpr ⟨i,h,rfl⟩
theorem vf{i:Nat}{l:List Nat}{neg:Bool}:inD neg (.int (i:Int)) (nL l)=on (.bl (if neg then !decide (i∈l)else decide (i∈l))):=by
 rw[MD];simp only[Mp]
theorem jh{α:Type}{f:FD}(xs:List α)(u v:α->D)(p:α->Bool)(g:it δ β=on (.ok (xs.map u),β))
  (i:∀x∈xs,∃δ1,tg (u x) (cSt nv caps δ)=on δ1/\tt δ1 β=on (.ok (p x),β)/\(p x=Pe->f δ1 β=on (.ok (v x),β))) (j:xs.length<=PQ):cw nv caps it tg tt (cEm f) δ β=on (.ok (.lst ((xs.filter p).map v)),β):=by
 refine rL g ?_ (by rw[Pa];exact P3 (List.length_filter_le _ _) j);have gen:∀xs:List α,(∀x∈xs,∃δ1,tg (u x) (cSt nv caps δ)=on δ1/\tt δ1 β=on (.ok (p x),β)/\(p x=Pe->f δ1 β=on (.ok (v x),β)))->cLp tg tt (cEm f) (xs.map u) (cSt nv caps δ) β=on (.ok ((xs.filter p).map v),β):=by
  intro xs
  induction xs with
  |nil=>intro _;rfl
  |cons x xs ih=>
   intro h;obtain⟨δ1,d,c,l⟩:=h x Pn;have e:=ih λy m=>h y (Pg _ m);rw[Py,cLp,T0];cases q:p x with
   |true=>
    rw[q]at c;simp only[d,M.bind,M.ret,c,cEm,l q,e,Ps,Py,Rb,QZ]
   |false=>
    rw[q]at c;simp only[d,M.bind,M.ret,c,e,PF,Qw,QZ]
 exact gen xs i
theorem oC:∀(n:Nat) (xs:List D),cQ n xs=(Pq xs.length).map λ(i:Nat)=>D.tup [.int ((n+i:Nat):Int),xs.getD i .non]
 |n,[]=>rfl
 |n,x::xs=>by
  rw[cQ,oC (n+1) xs,Pz,Xg,Py,Pp];congr 1;refine P5 λi _=>?_;simp only[UA];rw[show n+1+i=n+(i+1) by omega];rfl
noncomputable abbrev bI(b:LP)(i j:Nat):Int×Int:=(b.getD i []).getD j (0,0)
theorem Shp.getD{α:Type}{m:List (List α)}(h:Shp r c m)(d:i<r):m[i]?=on (m.getD i [])/\(m.getD i []).length=c:=by
 obtain⟨row,e,l⟩:=h.at d;have:m.getD i []=row:=by rw[Pf,e];rfl
 rw[this];exact⟨e,l⟩
theorem n6{α:Type}{l:List α}{i:Nat}{d:α}(h:i<l.length):l[i]?=on (l.getD i d):=by
 rw[Pf,Pd h];rfl
theorem IL{xs:List Int}(h:i<xs.length):ixD (.lst (xs.map D.int)) (.int (i:Int))=on (.int (xs.getD i 0)):=bD (by rw[Pi,n6 h];rfl)
theorem u9{b:LP}(sh:Shp r c b)(g:i<r)(h:j<c):ixD (dL b) (.int (i:Int))=on (.lst ((b.getD i []).map pD))/\ixD (.lst ((b.getD i []).map pD)) (.int (j:Int))=on (pD (bI b i j)):=by
 obtain⟨e,l⟩:=sh.getD g;refine⟨tX (by rw[Pi,e];rfl),bD ?_⟩;rw[Pi,n6 (d:=(0,0)) (by omega)];rfl
noncomputable def qa(rs:List Int)(c:List Nat):Int:=(c.map λi=>rs.getD i 0).sum
def fE(cs:List Int)(b:LP)(r:Nat)(c:List Nat)(j:Nat):Int:=cs.getD j 0-S r λi=>if i∈c then 0 else(bI b i j).1
def gc(b:LP)(c:List Nat)(j:Nat):Int:=(c.map λi=>(bI b i j).2).sum
def tH(cs:List Int)(b:LP)(r c:Nat)(d e:List Nat):Int:=S c λj=>if j∈e then fE cs b r d j else gc b d j
def hF(b:LP)(c d:List Nat)(i j:Nat):Int:=(if i∈c/\j∉d then(bI b i j).2 else 0)-(if i∉c/\j∈d then(bI b i j).1 else 0)
theorem J3{b:LP}{d e:List Nat}(h:d.Sublist (Pq r))(g:e.Sublist (Pq c)):
  tH cs b r c d e=qa cs e+S r λi=>S c λj=>hF b d e i j:=by
 unfold tH qa;rw[mZ g,BJ,←ud];refine dT λj l=>?_;by_cases q:j∈e
 ·rw[Ps q,Ps q]
  unfold fE;rw[Int.sub_eq_add_neg,←O9];congr 1;refine dT λi g=>?_;unfold hF;by_cases z:i∈d
  ·simp[z,q]
  ·simp[z,q]
 ·rw[Po q,Po q,SI]
  unfold gc;rw[mZ h];refine dT λi g=>?_;unfold hF;by_cases z:i∈d
  ·simp[z,q]
  ·simp[z,q]
variable{o e:Expr}{es:List Expr}{p apos:Uj}{x m:Qn}{n:Nat}{ks ns:List Qn}{kws:List Vc}{st:QU}{sts:List QU}
variable{ns0 names:List Qn}{ip:IP}
variable{P:Qf}{w:Qq}{mg:Qn->Option Pl}{base:QW}
variable{δ:Dn}{β β1 β2:Bg}
end
end L2.Pu
namespace L2.Pu
open PySem PySem.Spec PyProof PyProof.Rows
section
variable{X:Cx}{K:PZ}
variable{E:St->XK}{o e:Expr}{apos cpos:Uj}
theorem JE(c:Nat->Ds->Bg->Prop)
  (step:∀n δ β,c n δ β->(∃β1,t (vwA δ) β=on (.ok Pj,β1)/\Gw h δ β1 Q)\/∃β1,t (vwA δ) β=on (.ok Pe,β1)/\Gw g δ β1 (λo β2=>∃δ1,o= .nx δ1/\∃m,m<n/\c m δ1 β2)):
  ∀(n:Nat) (δ:Ds) (β:Bg),c n δ β->Gw (aJ (gWh t g) h) δ β Q:=by
 have gen:∀(n:Nat) (δ:Ds) (β:Bg),c n δ β->∃k a b,cf t g k δ β=on (.nx a,b)/\Gw h a b Q:=by
  intro n
  induction n using Wu with
  |_ n ih=>
   intro δ β hI;rcases step n δ β hI with⟨β1,e,k⟩|⟨β1,e,k⟩
   ·exact⟨1,δ,β1,by unfold cf;simp only[e],k⟩
   ·obtain⟨o,β2,f,δ1,rfl,m,hm,d⟩:=k
    obtain⟨k,a,b,i,j⟩:=ih m hm δ1 β2 d;exact⟨k+1,a,b,by unfold cf;simp only[e,f,i],j⟩
 intro n δ β hI;obtain⟨k,a,b,e,l⟩:=gen n δ β hI;exact fS (MH e) l
end
end L2.Pu
namespace L2.Pu
open PySem PySem.Spec PyProof.Rows
section
variable{prog:Qf}{w:Qq}{A:QP}{E:Pl->Pr->Prop}{s:Pr}{l:Pk}{xs:Array (Int×Tok)}
theorem BX(f:A.handled=Pb)(c:s.heap.IsTuple l (Xw xs))
  (h:∀h' d t',(∀b o,s.heap.get? b=on o->h'.get? b=on o)->Q (.int (preSum (numAt xs) xs.size) t') {s with heap:=h',toks:=d}):
  PN (Qc prog w) A (Wv (.builtin "sum") [.ref l]) Q E s:=by
 have a:l<s.heap.objs.size:=by obtain⟨_,e,_⟩:=c;exact Qa e
 refine call_sum_walkG (Wf c ⟨_,_,_,_,_,_,numAt xs,rfl,Walks.tuple (A:=A.in1) f _ l (QE a) (Xw xs),⟨⟨_,PP _ rfl,rfl,rfl⟩,c.at λo e=>Ph _ e⟩,λb hb=>?_,(λ_ _=>intItems_at),λh' d t' g=>?_⟩)
 ·show b<(s.heap.push _).objs.size
  rw[Rg];rcases PL.mp hb with rfl|hb
  ·exact Va _
  ·rcases PL.mp hb with rfl|hb
   ·exact UU a
   ·cases hb
 ·have:=h h' d t' λb o e=>g b o (λhm=>by
   rcases PL.mp hm with i|hm
   ·exact P6 (i▸Qa e) (QD _)
   ·cases hm) (Ph _ e)
  simpa[Xw]using this
variable{X:Cx}{K:PZ}
abbrev HV(K:PZ):List V->Hp->VK->Prop:=λxs H Q=>∃(p:Pk) (ns:List Int),xs=[.ref p]/\(SqL K H p (ns.map V.int)\/SqT K H p (ns.map V.int))/\Q (.int ns.sum) H
theorem AX(b:X.calm=Pe):dI X (.builtin "sum") (HV X.K):=by
 intro a s f H xs us Q I r h;obtain⟨p,ns,rfl,hq|hq,q⟩:=h
 ·exact sS b a s f H _ us Q I r ⟨p,ns,rfl,hq,q⟩
 ·obtain⟨u,rfl,g⟩:=kO r
  cases g;obtain⟨its,i,pl,m⟩:=I.tuple hq;have c:=qo i;obtain⟨xs,ex⟩:=c.allInts.items;have d:=c.numsOf;have j:its=(Xw xs).toList:=by rw[←ex]
  rw[j,nums_intItems]at d;rw[ex]at pl;refine BX (I.ok.hd b) pl λh' n t' k=>?_;have e:preSum (numAt xs) xs.size=ns.sum:=by rw[preSum_eq,R7 (by simp),d]
  rw[e];exact⟨.int ns.sum,H,I.kept k,⟨_,rfl⟩,q⟩
def pA:List D->Option D
 |[.lst xs]=>(e9 xs).map λns=> .int ns.sum
 |[.tup xs]=>(e9 xs).map λns=> .int ns.sum
 |_=>Pb
theorem Mv:eM K (HV K) pA:=λF H β Q ds d vs fr h e k=>by
 unfold pA at e;split at e
 ·rename_i xs
  obtain⟨ns,q,rfl⟩:=U7.mp e;obtain⟨v,rfl,g⟩:=DenL.one h;obtain⟨a,ys,rfl,r,b⟩:=Den.sqL g;rw[intsOf_eq q]at b;have c:=DenL.ints ns b;subst c;exact⟨a,ns,rfl,.inl r,k _ H (To.refl fr) rfl⟩
 ·rename_i xs
  obtain⟨ns,q,rfl⟩:=U7.mp e;obtain⟨v,rfl,g⟩:=DenL.one h;obtain⟨a,ys,rfl,r,b⟩:=Den.sqT g;rw[intsOf_eq q]at b;have c:=DenL.ints ns b;subst c;exact⟨a,ns,rfl,.inr r,k _ H (To.refl fr) rfl⟩
 ·cases e
theorem Lo(ns:List Int):pA [.lst (ns.map D.int)]=on (.int ns.sum):=fm ns
theorem Ln(ns:List Int):pA [.tup (ns.map D.int)]=on (.int ns.sum):=fm ns
end
section
variable{X:Cx}{E:St->XK}{o e e1 e2:Expr}{es:List Expr}{pos p apos:Uj}{x m:Qn}{k n:Nat}{f C:Pk}{fd:P9}{ps ks ns:List Qn}{kws:List Vc}
noncomputable def MJ:G:=λ_ _=>Pb
theorem cZ{X:Cx}{st:QU}{K:PZ}{E:St->XK}:PS X st (tG K H MJ E):=λ_ _ _ _ _ _ h=>by
 obtain⟨_,_,_,_,_,_,_,e,_⟩:=h;cases e
end
end L2.Pu
namespace L2.Pu
open PySem
noncomputable def facN:Nat->Nat
 |0=>1
 |n+1=>facN n*(n+1)
noncomputable def pr(l:List Nat):Nat:=l.foldr (·*·) 1
theorem LQ:pr []=1:=rfl
theorem zj(l m:List Nat):pr (l++m)=pr l*pr m:=by
 induction l with
 |nil=>simp[pr]
 |cons x l ih=>
  show x*pr (l++m)=x*pr l*pr m;rw[ih,Ue]
theorem JM{α:Type}{l:List α}{i:Nat}{x:α}(h:l[i]?=on x):l.take (i+1)=l.take i++[x]:=by
 rw[List.take_succ,h];rfl
theorem m9{α:Type}{f:α->Nat}{l:List α}{i:Nat}{x:α}(h:l[i]?=on x):pr ((l.take (i+1)).map f)=pr ((l.take i).map f)*f x:=by
 rw[JM h,Qh,zj];simp[pr]
theorem nM:∀n,0<facN n
 |0=>by decide
 |n+1=>Nat.mul_pos (nM n) (by omega)
theorem vq:∀{n m:Nat},n<=m->facN n<=facN m:=by
 intro n m h
 induction h with
 |refl=>exact Pt _
 |step h ih=>exact P3 ih (U9 _ (by omega))
theorem O0:facN 40<=2^160:=by decide +kernel
theorem vt(h:n<=40):facN n<=2^160:=P3 (vq h) O0
theorem zi(h:∀x∈l,0<x):0<pr l:=by
 induction l with
 |nil=>decide
 |cons x l ih=>exact Nat.mul_pos (h x Pn) (ih λy a=>h y (Pg _ a))
theorem kx{l:List Nat}(h:x∈l):x<=l.sum:=by
 induction l with
 |nil=>cases h
 |cons y l ih=>
  rw[P8];rcases PL.mp h with rfl|h
  ·omega
  ·have:=ih h;omega
theorem i9(h:t<=2^m)(hm:m<=999):t<2^1000:=RT (P3 h (X1 (by decide) hm)) (Nat.pow_lt_pow_right (by decide) (by decide))
theorem xQ{t n:Nat}(a:t<2^1000)(b:n<2^1000):DF (.int (t:Int)) (.int (n:Int))=on (.int ((t*n:Nat):Int)):=by
 have c:gQ (t:Int)=Pe:=PX (by rw[VN];exact a);have d:gQ (n:Int)=Pe:=PX (by rw[VN];exact b);show(if(gQ (t:Int)&&gQ (n:Int))=Pe then _ else _)=_;simp only[c,d,Tp,Qv];rfl
theorem OZ{t g:Nat}(d:0<g)(a:g<2^1000):IU (.int (t:Int)) (.int (g:Int))=on (.int ((t/g:Nat):Int)):=by
 have b:decide ((0:Int)<(g:Int))=Pe:=PX (by omega);have c:decide (((g:Int)).natAbs.log2<9000)=Pe:=PX (by
  rw[VN];have:=(Nat.log2_lt (n:=g) (k:=1000) (by omega)).mpr a;omega)
 show(if(decide ((0:Int)<(g:Int))&&decide (((g:Int)).natAbs.log2<9000))=Pe then _ else _)=_;simp only[b,c,Tp,Qv];rfl
theorem gW(l:List Nat):(nI l).sum=((l.sum:Nat):Int):=by
 induction l with
 |nil=>rfl
 |cons x l ih=>
  show(x:Int)+(nI l).sum=_;rw[ih,P8,Vn]
theorem tQ{l:List Nat}{i:Nat}{d:D}(h:((nI l).map D.int)[i]?=on d):∃n,l[i]?=on n/\d= .int (n:Int):=by
 obtain⟨x,a,rfl⟩:=bJ h;obtain⟨n,hn,rfl⟩:=bJ a;exact⟨n,hn,rfl⟩
theorem zL(l:List Nat):((nI l).map D.int).length=l.length:=by rw[Pa,Pa]
def Sq(l:List Nat)(d:D):Prop:=d=nL l\/d= .tup ((nI l).map D.int)
theorem Sq.seq(h:Sq l d):eG d=on ((nI l).map D.int):=by rcases h with rfl|rfl<;>rfl
theorem rg2'(a:0<=i)(b:i<=10^9)(c:0<=j)(d:j<=10^9):oQ [.int i,.int j]=on (bc i (j-i).toNat):=by
 have q:(decide (-(2^62)<=i)&&decide (i<2^62)&&decide (-(2^62)<=j)&&decide (j<2^62))=Pe:=by
  simp only[Qj,Qx];omega
 show(if(decide (-(2^62)<=i)&&decide (i<2^62)&&decide (-(2^62)<=j)&&decide (j<2^62))=Pe then on (bc i (j-i).toNat)else Pb)=_;rw[Ps q]
theorem rg2{n:Nat}(h:n<=1000):oQ [.int 2,.int ((n:Int)+1)]=on (bc 2 (n-1)):=by
 rw[rg2' (by decide) (by decide) (by omega) (by omega),show((n:Int)+1-2).toNat=n-1 by omega]
end L2.Pu
namespace L2.Pu
theorem BK(h:∀i<n,f i<=g i):S n f<=S n g:=by
 induction n with
 |zero=>exact XW _
 |succ n ih=>
  rw[gx,gx];have a:=ih λi b=>h i (by omega);have c:=h n (by omega);omega
theorem IZ(n:Nat)(f g:Nat->Int):S n (λi=>f i-g i)=S n f-S n g:=by
 induction n with
 |zero=>rfl
 |succ n ih=>rw[gx,gx,gx,ih];omega
noncomputable def fl(x y:Bool)(l h:Int):Int:=(if x=Pe/\y=Pj then h else 0)-(if x=Pj/\y=Pe then l else 0)
def slk(rs cs:Nat->Int)(lo a:Nat->Nat->Int)(r c:Nat)(X Y:Nat->Bool):Int:=
 S c (λj=>if Y j=Pe then cs j else 0)-S r (λi=>if X i=Pe then rs i else 0)+S r λi=>S c λj=>fl (X i) (Y j) (lo i j) (a i j)
section
variable{rs cs:Nat->Int}{lo hi:Nat->Nat->Int}{r c:Nat}
theorem JT{g:Nat->Nat->Int}(h:∀i<r,∀j<c,lo i j<=g i j/\g i j<=hi i j)(d:∀i<r,rs i=S c (g i))(e:∀j<c,cs j=S r λi=>g i j)(X Y:Nat->Bool):0<=slk rs cs lo hi r c X Y:=by
 have f:S c (λj=>if Y j=Pe then cs j else 0)=S r λi=>S c λj=>if Y j=Pe then g i j else 0:=by
  rw[BJ];refine dT λj a=>?_;cases q:Y j with
  |true=>simp only[Ps];exact e j a
  |false=>simp only[PF,Qw];exact(mR r).symm
 have k:S r (λi=>if X i=Pe then rs i else 0)=S r λi=>S c λj=>if X i=Pe then g i j else 0:=by
  refine dT λi hi=>?_;cases q:X i with
  |true=>simp only[Ps];exact d i hi
  |false=>simp only[PF,Qw];exact(mR c).symm
 unfold slk;rw[f,k,←IZ,←ud];refine Int.le_trans (Int.le_of_eq (mR r).symm) (BK λi b=>?_);rw[←IZ,←ud];refine Int.le_trans (Int.le_of_eq (mR c).symm) (BK λj a=>?_);have:=h i b j a;unfold fl;cases X i<;>cases Y j<;>simp<;>omega
noncomputable def chF:Nat->List (List Nat)
 |0=>[[]]
 |n+1=>chF n++(chF n).map (·++[n])
theorem iK:∀(n:Nat) (l:List Nat),l∈chF n->l.Sublist (Pq n)
 |0,l,h=>by rw[Qi.mp h];exact .slnil
 |n+1,l,h=>by
  rw[SQ];rcases Rj.mp h with h|h
  ·exact(iK n l h).trans (List.sublist_append_left _ _)
  ·obtain⟨a,h',rfl⟩:=PD.mp h
   exact(iK n a h').append (Vo _)
theorem w9:∀n:Nat,(chF n).length=2^n
 |0=>rfl
 |n+1=>by
  rw[chF,PM,Pa,w9 n,Nat.pow_succ];omega
end
section
variable{rs cs:List Int}{b:LP}{r c:Nat}
abbrev slB(rs cs:List Int)(b:LP)(r c:Nat)(X Y:Nat->Bool):Int:=slk (λi=>rs.getD i 0) (λj=>cs.getD j 0) (λi j=>(bI b i j).1) (λi j=>(bI b i j).2) r c X Y
theorem Ls{a d:List Nat}(e:a.Sublist (Pq r))(f:d.Sublist (Pq c)):tH cs b r c a d-qa rs a=slB rs cs b r c (λi=>decide (i∈a)) (λj=>decide (j∈d)):=by
 rw[J3 e f];unfold qa slB slk;rw[mZ f,mZ e];have h:∀(n:Nat) (l:List Nat) (g:Nat->Int),S n (λj=>if decide (j∈l)=Pe then g j else 0)=S n (λj=>if j∈l then g j else 0):=λn l g=>dT λj _=>by simp
 rw[h,h];have k:(S r λi=>S c λj=>hF b a d i j)=S r λi=>S c λj=>fl (decide (i∈a)) (decide (j∈d)) (bI b i j).1 (bI b i j).2:=by
  refine dT λi _=>dT λj _=>?_;unfold hF fl;simp
 simp only[k];omega
def uT(cs:List Int)(b:LP)(r c:Nat)(a:List Nat):List Nat:=(Pq c).filter λj=>decide (fE cs b r a j<gc b a j)
end
end L2.Pu
namespace L2.Pu
open PySem PySem.W
section
variable{tb:String->Option Builtin}{p:Qf}{w:Qq}{n₀:Nat}{ann:Option Pl}{env:Wr}{q:Uj}
theorem je(k:Nat){b:List QU}(h:segRun tb p w n₀ ann 1 n s (piecesOf (b.take k) env c pos [XB q])=on (.next,s',c,p'))
  (a:topRun tb p w n₀ ann N s' (restOf (b.drop k) env c p' [XB q])=on r):topRun tb p w n₀ ann (n+N) s (restOf b env c pos [XB q])=on r:=by
 have:=piece_app h a;rwa[Sd]at this
theorem EE(e:b=[])(k:topRun tb p w n₀ ann N s ⟨doneF .next,c,pos,[XB q]⟩=on r):topRun tb p w n₀ ann N s (restOf b env c pos [XB q])=on r:=by
 subst e;exact piece_nil k
end
end L2.Pu
namespace L2.Hs
open PySem PySem.SetTable
def Rs(xs:Array Nat):Prop:=∀i k x y:Nat,i<k->xs[i]?=on x->xs[k]?=on y->x<y
theorem pb{xs:Array Nat}(r:Rs xs):∀(fuel lo c:Nat),lo<=c->c<=xs.size->c-lo<=fuel->(∀i x,i<lo->xs[i]?=on x->x<j)->(∀i x,c<=i->xs[i]?=on x->j<=x)->
  below.go xs j fuel lo c<=xs.size/\(∀i x,i<below.go xs j fuel lo c->xs[i]?=on x->x<j)/\∀i x,below.go xs j fuel lo c<=i->xs[i]?=on x->j<=x
 |0,lo,c,h1,h2,h3,a,b=>by
  have:lo=c:=by omega
  subst this;exact⟨h2,a,b⟩
 |fuel+1,lo,c,h1,h2,h3,a,b=>by
  unfold below.go;by_cases q:lo<c
  ·rw[Ps q]
   simp only;have hm:(lo+c)/2<xs.size:=by omega
   have e:xs[(lo+c)/2]?=on (xs.getD ((lo+c)/2) j):=by simp[Ss,hm]
   by_cases z:xs.getD ((lo+c)/2) j<j
   ·rw[Ps z]
    refine pb r fuel _ _ (by omega) h2 (by omega) (λi x f d=>?_) b;by_cases w:i=(lo+c)/2
    ·subst w
     rw[e]at d;cases d;exact z
    ·exact Uy (r i ((lo+c)/2) x _ (by omega) d e) z
   ·rw[Po z]
    refine pb r fuel _ _ (by omega) (by omega) (by omega) a (λi x f d=>?_);by_cases w:i=(lo+c)/2
    ·subst w
     rw[e]at d;cases d;omega
    ·have:=r ((lo+c)/2) i _ x (by omega) e d
     omega
  ·rw[Po q]
   have:lo=c:=by omega
   subst this;exact⟨h2,a,b⟩
theorem ji{xs:Array Nat}(r:Rs xs):below xs j<=xs.size/\(∀i x,i<below xs j->xs[i]?=on x->x<j)/\∀i x,below xs j<=i->xs[i]?=on x->j<=x:=
 pb r xs.size 0 xs.size (QV _) (Pt _) (by omega) (λi x h=>P6 h (R3 i)) (λi x h e=>by
  have:=(QR.mp e).1;omega)
theorem EU(r:Rs xs)(h:xs[i]?=on j):below xs j=i:=by
 obtain⟨c,a,b⟩:=ji (j:=j) r;rcases SW (below xs j) i with q|q|q
 ·have d:=(QR.mp h).1
  have e:xs[below xs j]?=on xs[below xs j]:=getElem?_pos xs _ (by omega);have:=b _ _ (Pt _) e;have:=r _ _ _ _ q e h;omega
 ·exact q
 ·have:=a _ _ q h
  omega
theorem sr{t:QH}(r:Rs t.place)(h:t.place[i]?=on j):t.slot j= .live i:=by
 unfold slot;simp only[EU r h,h,R8,Qv]
theorem xA{t:QH}(d:t.dummies=#[])(h:∀i:Nat,t.place[i]?≠on j):t.slot j= .empty:=by
 unfold slot;have a:(t.place[below t.place j]?==on j)=Pj:=by
  rw[W4];exact h _
 have b:has t.dummies j=Pj:=by unfold has;rw[d];rfl
 simp only[a,b,PF,Qw]
noncomputable def itr(t:QH):Nat->Probe->Probe
 |0,p=>p
 |n+1,p=>itr t n (t.advance p)
theorem oY(t:QH):∀(n:Nat) (p:Probe),itr t (n+1) p=t.advance (itr t n p)
 |0,p=>rfl
 |n+1,p=>by
  show itr t (n+1) (t.advance p)=t.advance (itr t n (t.advance p));exact oY t n (t.advance p)
theorem nB(t:QH):∀(n m:Nat) (p:Probe),itr t (n+m) p=itr t m (itr t n p)
 |0,m,p=>by rw[Q4];rfl
 |n+1,m,p=>by
  rw[show n+1+m=(n+m)+1 by omega];exact nB t n m (t.advance p)
structure Pv (t:QH) (p:Probe):Prop where
 j:p.j+p.more<=t.mask
 more:p.more<=9
 i:p.i<=t.mask
 pt:p.perturb<2^64
 du:p.dummy=Pb
theorem sC{mask i:Nat}(h:i<=mask):i<=runEnd mask i/\runEnd mask i<=mask/\runEnd mask i-i<=9:=by
 unfold runEnd;by_cases q:i+9<=mask
 ·rw[Ps q];omega
 ·rw[Po q];omega
noncomputable def blk(t:QH)(i pt:Nat):Probe:={j:=i,more:=runEnd t.mask i-i,i,perturb:=pt,dummy:=Pb}
theorem qB{t:QH}(h:i<=t.mask)(a:pt<2^64):Pv t (blk t i pt):=by
 obtain⟨c,d,b⟩:=sC h;refine⟨?_,b,h,a,rfl⟩;show i+(runEnd t.mask i-i)<=t.mask;omega
theorem sf(t:QH)(h:Int):t.probeStart h=blk t (bits h % (t.mask+1)) (bits h):=rfl
theorem n5(h:Int):bits h<2^64:=by
 unfold bits;have:=UF h (show(0:Int)<2^64 by decide);have:=Ui h (show(2^64:Int)≠0 by decide);omega
theorem oM(t:QH)(h:Int):Pv t (t.probeStart h):=by
 rw[sf];exact qB (by have:=WM (bits h) (show t.mask+1>0 by omega);omega) (n5 h)
noncomputable abbrev lpI(mask i pt:Nat):Nat:=(i*5+1+pt/32) % (mask+1)
theorem BI{t:QH}{p:Probe}(h:0<p.more):t.advance p={p with j:=p.j+1,more:=p.more-1}:=by
 unfold advance;rw[Ps h]
theorem xf{t:QH}{p:Probe}(h:p.more=0)(hd:p.dummy=Pb):t.advance p=blk t (lpI t.mask p.i p.perturb) (p.perturb/32):=by
 unfold advance;rw[Po (by omega)];unfold leap blk;simp only[hd]
theorem xX(mask i pt:Nat):lpI mask i pt<=mask:=by
 have:=WM (i*5+1+pt/32) (show mask+1>0 by omega);unfold lpI;omega
theorem BH{t:QH}(v:Pv t p):Pv t (t.advance p):=by
 by_cases q:0<p.more
 ·rw[BI q]
  exact⟨by have:=v.j;show p.j+1+(p.more-1)<=t.mask;omega,by have:=v.more;show p.more-1<=9;omega,v.i,v.pt,v.du⟩
 ·rw[xf (by omega) v.du]
  exact qB (xX _ _ _) (RT (Wt _ _) v.pt)
theorem mw:∀(n:Nat) {p:Probe},Pv t p->Pv t (itr t n p)
 |0,_,v=>v
 |n+1,_,v=>mw n (BH v)
theorem rj:∀(k:Nat) {p:Probe},Pv t p->k<=p.more->itr t k p={p with j:=p.j+k,more:=p.more-k}
 |0,p,v,h=>by cases p;rfl
 |k+1,p,v,h=>by
  rw[oY,rj k v (by omega)];rw[BI (show 0<p.more-k by omega)];simp only[Probe.mk.injEq,and_true,true_and];omega
theorem oZ{t:QH}{p:Probe}(v:Pv t p):itr t (p.more+1) p=blk t (lpI t.mask p.i p.perturb) (p.perturb/32):=by
 rw[oY,rj _ v (Pt _)];exact xf (RW _) v.du
def cE(mask:Nat):Nat->Nat×Nat->Nat×Nat
 |0,x=>x
 |k+1,x=>cE mask k (lpI mask x.1 x.2,x.2/32)
theorem jz(mask:Nat):∀(k:Nat) (x:Nat×Nat),cE mask (k+1) x=(lpI mask (cE mask k x).1 (cE mask k x).2,(cE mask k x).2/32)
 |0,x=>rfl
 |k+1,x=>jz mask k _
theorem va{t:QH}:∀(k:Nat) {p:Probe},Pv t p->∃n,n<=10*(k+1)/\itr t n p=blk t (cE t.mask (k+1) (p.i,p.perturb)).1 (cE t.mask (k+1) (p.i,p.perturb)).2
 |0,p,v=>⟨p.more+1,by have:=v.more;omega,oZ v⟩
 |k+1,p,v=>by
  obtain⟨n,hn,e⟩:=va k v;have a:=mw n v;rw[e]at a;refine⟨n+((blk t (cE t.mask (k+1) (p.i,p.perturb)).1 (cE t.mask (k+1) (p.i,p.perturb)).2).more+1),by have:=a.more;omega,?_⟩;rw[nB,e,oZ a,jz t.mask (k+1)];rfl
def Mk(mask:Nat):Prop:=mask=7\/mask=31\/mask=127
noncomputable def orb(mask:Nat):Nat->Nat->Nat
 |0,i=>i
 |k+1,i=>orb mask k ((i*5+1) % (mask+1))
theorem nh(mask:Nat):∀(a b i:Nat),orb mask (a+b) i=orb mask b (orb mask a i)
 |0,b,i=>by rw[Q4];rfl
 |a+1,b,i=>by
  rw[show a+1+b=(a+b)+1 by omega];exact nh mask a b _
def HZ(mask:Nat):Bool:=(orb mask (mask+1) 0==0)&&(Pq (mask+1)).all λj=>(Pq (mask+1)).any λk=>orb mask k 0==j
theorem L6{mask:Nat}(h:Mk mask):HZ mask=Pe:=by
 rcases h with rfl|rfl|rfl<;>decide +kernel
theorem wx{mask i j:Nat}(h:Mk mask)(l:i<=mask)(m:j<=mask):∃k,k<=mask/\orb mask k i=j:=by
 have o:=L6 h;unfold HZ at o;rw[Qj,Ti,Sz]at o;obtain⟨g,ha⟩:=o;obtain⟨a,e,c⟩:=List.any_eq_true.mp (ha i (PY.mpr (by omega)));obtain⟨b,f,d⟩:=List.any_eq_true.mp (ha j (PY.mpr (by omega)));rw[Ti]at c d;have:=PY.mp e;have:=PY.mp f;by_cases q:a<=b
 ·refine⟨b-a,by omega,?_⟩
  rw[←c,←nh,show a+(b-a)=b by omega,d]
 ·refine⟨b+(mask+1)-a,by omega,?_⟩
  rw[←c,←nh,show a+(b+(mask+1)-a)=(mask+1)+b by omega,nh,g,d]
theorem l6(mask:Nat):∀(k i:Nat),cE mask k (i,0)=(orb mask k i,0)
 |0,i=>rfl
 |k+1,i=>by
  show cE mask k (lpI mask i 0,0/32)=_;rw[show(0/32:Nat)=0 from rfl,l6 mask k];rfl
theorem oP(mask:Nat):∀(a b:Nat) (x:Nat×Nat),cE mask (a+b) x=cE mask b (cE mask a x)
 |0,b,x=>by rw[Q4];rfl
 |a+1,b,x=>by
  rw[show a+1+b=(a+b)+1 by omega];exact oP mask a b _
theorem oO(mask:Nat):∀(k:Nat) (x:Nat×Nat),(cE mask k x).2=x.2/32^k
 |0,x=>by simp[cE]
 |k+1,x=>by
  rw[jz,oO mask k x,Xk,Nat.pow_succ]
theorem wj(mask:Nat):∀(k:Nat) (x:Nat×Nat),x.1<=mask->(cE mask k x).1<=mask
 |0,x,h=>h
 |k+1,x,h=>by rw[jz];exact xX _ _ _
theorem O7{t:QH}(h:Mk t.mask)(v:Pv t p)(a:j<=t.mask):∃n,n<10*turns t.mask/\(itr t n p).j=j:=by
 have z:(cE t.mask 13 (p.i,p.perturb)).2=0:=by
  rw[oO];exact Nat.div_eq_of_lt (P7 v.pt (by decide))
 have l:=wj t.mask 13 (p.i,p.perturb) v.i;obtain⟨k,c,e⟩:=wx h l a;obtain⟨n,hn,b⟩:=va (12+k) v;refine⟨n,by unfold turns;omega,?_⟩;rw[b];show(cE t.mask (12+k+1) (p.i,p.perturb)).1=j;rw[show 12+k+1=13+k by omega,oP,show cE t.mask 13 (p.i,p.perturb)=((cE t.mask 13 (p.i,p.perturb)).1,0)from Tt rfl z,l6];exact e
abbrev Lv(t:QH)(j:Nat):Prop:=∃k:Nat,t.place[k]?=on j
structure Tb (t:QH) (hs:List Int):Prop where
 km:Mk t.mask
 sz:t.place.size=hs.length
 rs:Rs t.place
 le:∀i j:Nat,t.place[i]?=on j->j<=t.mask
 du:t.dummies=#[]
 nf:t.place.size*5<t.mask*3
 rch:∀(i:Nat) (h:Int) (j:Nat),hs[i]?=on h->t.place[i]?=on j->∃n,(itr t n (t.probeStart h)).j=j/\∀m<n,Lv t (itr t m (t.probeStart h)).j
theorem Mk.odd(h:Mk m):m % 2=1/\7<=m/\m<=127:=by
 rcases h with rfl|rfl|rfl<;>decide
theorem gap{xs:Array Nat}(r:Rs xs):∀n,n<=xs.size->(∀i:Nat,i<n->xs[i]?=on i)\/∃j,j<n/\∀i:Nat,xs[i]?≠on j
 |0,_=> .inl λi h=>P6 h (R3 i)
 |n+1,h=>by
  rcases gap r n (by omega)with q|⟨j,c,b⟩
  ·have e:xs[n]?=on xs[n]:=getElem?_pos xs n (by omega)
   by_cases z:xs[n]=n
   ·refine .inl λi d=>?_
    by_cases w:i=n
    ·subst w;rw[e,z]
    ·exact q i (by omega)
   ·have lt:n<=xs[n]:=by
     cases n with
     |zero=>omega
     |succ m=>
      have:=r m (m+1) _ _ (by omega) (q m (by omega)) e;omega
    refine .inr ⟨n,by omega,λi a=>?_⟩;rcases SW i n with w|w|w
    ·rw[q i w]at a;cases a;omega
    ·subst w;rw[e]at a;exact z (Qd a)
    ·have:=r n i _ _ w e a
     omega
  ·exact .inr ⟨j,by omega,b⟩
theorem MG{xs:Array Nat}(r:Rs xs):∃j,j<=xs.size/\∀i:Nat,xs[i]?≠on j:=by
 rcases gap r xs.size (Pt _)with q|⟨j,c,a⟩
 ·refine⟨xs.size,Pt _,λi e=>?_⟩
  have b:=(QR.mp e).1;rw[q i b]at e;cases e;omega
 ·exact⟨j,by omega,a⟩
theorem IR{t:QH}(r:Rs t.place)(d:t.dummies=#[]):∀(fuel:Nat) (p:Probe) (e:Nat),Pv t p->e<fuel->¬Lv t (itr t e p).j->
  ∃m,m<=e/\(∀a<m,∃i,t.place[i]?=on (itr t a p).j/\hashAt i≠h)/\
   ((¬Lv t (itr t m p).j/\probe.go t hashAt h fuel p=on (.empty (itr t m p).j Pb))\/∃i,t.place[i]?=on (itr t m p).j/\hashAt i=h/\probe.go t hashAt h fuel p=on (.candidate (itr t m p).j i (itr t (m+1) p)))
 |0,_,_,_,h,_=>P6 h (R3 _)
 |fuel+1,p,e,v,hf,he=>by
  unfold probe.go;by_cases q:Lv t p.j
  ·obtain⟨i,b⟩:=q
   rw[sr r b];simp only;by_cases z:hashAt i=h
   ·refine⟨0,QV _,λa hm=>P6 hm (R3 _),.inr ⟨i,b,z,?_⟩⟩
    rw[Ps (by rw[Ti];exact z)];rfl
   ·rw[Po (by rw[Ti];exact z)]
    cases e with
    |zero=>exact P6 ⟨i,b⟩ he
    |succ e=>
     obtain⟨m,hm,ha,c⟩:=IR r d fuel (t.advance p) e (BH v) (by omega) he;refine⟨m+1,by omega,λa f=>?_,c⟩;cases a with
     |zero=>exact⟨i,b,z⟩
     |succ a=>exact ha a (by omega)
  ·rw[xA d (λi b=>q ⟨i,b⟩)]
   refine⟨0,QV _,λa hm=>P6 hm (R3 _),.inl ⟨q,?_⟩⟩;simp only[v.du];rfl
theorem Tb.free{t:QH}(T:Tb t hs)(v:Pv t p):∃e,e<10*turns t.mask/\¬Lv t (itr t e p).j:=by
 obtain⟨j,f,a⟩:=MG T.rs;have:=T.nf;have:=T.km.odd;obtain⟨e,b,c⟩:=O7 T.km v (show j<=t.mask by omega);exact⟨e,b,λ⟨k,d⟩=>a k (by rw[←c];exact d)⟩
theorem AF{α:Type}{xs:Array α}{p:Nat}{x:α}(b:p<=xs.size)(i:Nat):(insertAt xs p x)[i]?=if i<p then xs[i]? else if i=p then on x else xs[i-1]?:=by
 unfold insertAt;rw[Array.getElem?_append];have a:((xs.extract 0 p).push x).size=p+1:=by simp;omega
 rw[a];by_cases q:i<p
 ·rw[Ps (by omega),Ps q,XE,XS]
  rw[Po (by omega),W1];simp;omega
 ·by_cases z:i=p
  ·subst z
   rw[Ps (by omega),Po (by omega),Ps rfl,XE,XS];rw[Ps (by omega)]
  ·rw[Po (by omega),Po q,Po z,W1]
   by_cases w:i-1<xs.size
   ·rw[Ps (by omega)]
    congr 1;omega
   ·rw[Po (by omega),SF (by omega)]
theorem gn{α:Type}{xs:Array α}{p:Nat}{x:α}(a:p<=xs.size):(insertAt xs p x).size=xs.size+1:=by
 unfold insertAt;simp;omega
theorem Tb.put{t:QH}{hs:List Int}(T:Tb t hs)(C:¬Lv t j)(hn:(itr t n (t.probeStart h)).j=j)(ha:∀m<n,Lv t (itr t m (t.probeStart h)).j)(nf:(t.place.size+1)*5<t.mask*3):
  (t.put j).1.dummies=#[]/\(t.put j).1.mask=t.mask/\(t.put j).1.place.size=t.place.size+1/\(t.put j).2<=t.place.size/\Tb (t.put j).1 (hs.take (t.put j).2++h::hs.drop (t.put j).2):=by
 obtain⟨b1,b2,b3⟩:=ji (j:=j) T.rs;have hd:has t.dummies j=Pj:=by unfold has;rw[T.du];rfl
 have A:(t.put j).1.dummies=#[]:=by
  show(if has t.dummies j=Pe then _ else t.dummies)=#[];rw[hd,Po Pw,T.du]
 have ep:(t.put j).1.place=insertAt t.place (below t.place j) j:=rfl;have g:=λi=>AF (x:=j) b1 i;have B:∀x,Lv t x->Lv (t.put j).1 x:=λx ⟨k,l⟩=>by
  by_cases q:k<below t.place j
  ·exact⟨k,by rw[ep,g,Ps q];exact l⟩
  ·exact⟨k+1,by rw[ep,g,Po (by omega),Po (by omega)];exact l⟩
 have it:∀m p,itr (t.put j).1 m p=itr t m p:=λm=>by
  induction m with
  |zero=>intro p;rfl
  |succ m ih=>intro p;exact ih (t.advance p)
 refine⟨A,rfl,by rw[ep,gn b1],b1,⟨T.km,?_,?_,?_,A,?_,?_⟩⟩
 ·rw[ep,gn b1,T.sz]
  have:(t.put j).2<=hs.length:=by rw[←T.sz];exact b1
  simp;omega
 ·intro i k x y r c e
  rw[ep,g]at c e;have F:∀k,t.place[k]?≠on j:=λk l=>C ⟨k,l⟩;by_cases q1:i<below t.place j
  ·rw[Ps q1]at c
   by_cases q2:k<below t.place j
   ·rw[Ps q2]at e
    exact T.rs i k x y r c e
   ·rw[Po q2]at e
    by_cases q3:k=below t.place j
    ·rw[Ps q3]at e;cases e
     exact b2 i x q1 c
    ·rw[Po q3]at e
     exact T.rs i (k-1) x y (by omega) c e
  ·rw[Po q1]at c
   rw[Po (by omega),Po (by omega)]at e;by_cases q3:i=below t.place j
   ·rw[Ps q3]at c;cases c
    have L:=b3 (k-1) y (by omega) e;have:y≠j:=λz=>F (k-1) (by rw[e,z]);omega
   ·rw[Po q3]at c
    exact T.rs (i-1) (k-1) x y (by omega) c e
 ·intro i x c
  rw[ep,g]at c;by_cases q1:i<below t.place j
  ·rw[Ps q1]at c;exact T.le i x c
  ·rw[Po q1]at c
   by_cases q3:i=below t.place j
   ·rw[Ps q3]at c;cases c
    have v:=mw n (oM t h);have:=v.j;show j<=t.mask;omega
   ·rw[Po q3]at c;exact T.le _ x c
 ·rw[ep,gn b1];exact nf
 ·intro i h' x H c
  have N:(t.put j).2<=hs.length:=by rw[←T.sz];exact b1
  have u:(t.put j).2=below t.place j:=rfl;rw[ep,g]at c;have d:(if i<below t.place j then hs[i]? else if i=below t.place j then on h else hs[i-1]?)=on h':=by
   rw[←H,u];by_cases q1:i<below t.place j
   ·rw[Ps q1,Sh (by rw[RA];omega),WU q1]
   ·rw[Po q1,Rh (by rw[RA];omega),RA,Nat.min_eq_left (by omega)]
    by_cases q3:i=below t.place j
    ·rw[Ps q3,q3,RW];rfl
    ·rw[Po q3,show i-below t.place j=(i-1-below t.place j)+1 by omega,W3,Yj]
     congr 1;omega
  have f:∀o,hs[o]?=on h'->t.place[o]?=on x->∃n,(itr (t.put j).1 n ((t.put j).1.probeStart h')).j=x/\∀m<n,Lv (t.put j).1 (itr (t.put j).1 m ((t.put j).1.probeStart h')).j:=λo a b=>by
   obtain⟨I,J,u⟩:=T.rch o h' x a b;refine⟨I,by rw[it];exact J,λm hm=>?_⟩;rw[it];exact B _ (u m hm)
  by_cases q1:i<below t.place j
  ·rw[Ps q1]at c d
   exact f i d c
  ·rw[Po q1]at c d
   by_cases q3:i=below t.place j
   ·rw[Ps q3]at c d
    cases c;cases d;refine⟨n,by rw[it];exact hn,λm hm=>?_⟩;rw[it];exact B _ (ha m hm)
   ·rw[Po q3]at c d
    exact f (i-1) d c
theorem vb{t u:QH}(h:t.mask=u.mask):∀(n:Nat) (p:Probe),itr t n p=itr u n p
 |0,p=>rfl
 |n+1,p=>by
  show itr t n (t.advance p)=itr u n (u.advance p);have:t.advance p=u.advance p:=by unfold advance;rw[h]
  rw[this];exact vb h n _
theorem xy{t u:QH}(h:t.mask=u.mask)(x:Int):t.probeStart x=u.probeStart x:=by unfold probeStart;rw[h]
noncomputable abbrev tm(mask:Nat):QH:={mask,place:=#[],dummies:=#[],finger:=0,led:=Pe,moves:=0,plain:=Pe}
noncomputable abbrev fr(owner:Array (Option Nat))(j:Nat):Bool:=(owner.getD j (on 0)).isNone
theorem wU{mask:Nat}{owner:Array (Option Nat)}:∀(fuel i pt:Nat),i<=mask->pt<2^64->(∃b,b<fuel/\fr owner (cE mask b (i,pt)).1=Pe)->
  ∃n,layClean.free mask owner fuel i pt=on (itr (tm mask) n (blk (tm mask) i pt)).j/\fr owner (itr (tm mask) n (blk (tm mask) i pt)).j=Pe/\∀m<n,fr owner (itr (tm mask) m (blk (tm mask) i pt)).j=Pj
 |0,_,_,_,_,⟨b,h,_⟩=>P6 h (R3 b)
 |fuel+1,i,pt,hi,hp,⟨b,hb,hf⟩=>by
  have v:=qB (t:=tm mask) hi hp;obtain⟨r1,B,C⟩:=sC hi;have f:(blk (tm mask) i pt).more=runEnd mask i-i:=rfl;have d:∀k,k<=runEnd mask i-i->(itr (tm mask) k (blk (tm mask) i pt)).j=i+k:=λk c=>by
   rw[rj k v c];rfl
  unfold layClean.free;split
  ·rename_i k c
   obtain⟨g,l,o⟩:=List.find?_range_eq_some.mp c;have:=PY.mp l;refine⟨k,by rw[d k (by omega)],by rw[d k (by omega)];exact g,λm hm=>?_⟩;rw[d m (by omega)];have:=o m hm;simpa using this
  ·rename_i c
   have hn:∀k,k<=runEnd mask i-i->fr owner (i+k)=Pj:=λk p=>by
    have:=List.find?_range_eq_none.mp c k (by omega);simpa using this
   cases b with
   |zero=>
    have r:=hn 0 (by omega);exact P6 hf (by rw[show(cE mask 0 (i,pt)).1=i+0 from rfl,r];exact Pw)
   |succ b=>
    obtain⟨n,u,y,A⟩:=wU fuel (lpI mask i pt) (pt/32) (xX _ _ _) (RT (Wt _ _) hp) ⟨b,by omega,hf⟩;have a:∀m,itr (tm mask) (runEnd mask i-i+1+m) (blk (tm mask) i pt)=itr (tm mask) m (blk (tm mask) (lpI mask i pt) (pt/32)):=λm=>by
     rw[nB,←f,oZ v];rfl
    refine⟨runEnd mask i-i+1+n,by rw[a];exact u,by rw[a];exact y,λm hm=>?_⟩;by_cases q:m<=runEnd mask i-i
    ·rw[d m q];exact hn m q
    ·obtain⟨e,rfl⟩:∃e,m=runEnd mask i-i+1+e:=⟨m-(runEnd mask i-i+1),by omega⟩
     rw[a];exact A e (by omega)
structure Ow (mask:Nat) (owner:Array (Option Nat)) (hs:List Int):Prop where
 sz:owner.size=mask+1
 lt:∀j k:Nat,owner[j]?=on (on k)->k<hs.length
 un:∀j j' k:Nat,owner[j]?=on (on k)->owner[j']?=on (on k)->j=j'
 cn:owner.toList.countP (·.isSome)=hs.length
 ex:∀(k:Nat) (h:Int),hs[k]?=on h->∃j n:Nat,owner[j]?=on (on k)/\(itr (tm mask) n ((tm mask).probeStart h)).j=j/\∀m<n,∃k':Nat,owner[(itr (tm mask) m ((tm mask).probeStart h)).j]?=on (on k')
theorem yc{mask:Nat}{owner:Array (Option Nat)}(hs:owner.size=mask+1){j:Nat}(b:j<=mask):(fr owner j=Pe↔owner[j]?=on Pb)/\(fr owner j=Pj↔∃k:Nat,owner[j]?=on (on k)):=by
 have e:owner[j]?=on owner[j]:=getElem?_pos owner j (by omega);have a:owner.getD j (on 0)=owner[j]:=by simp[Ss,show j<owner.size by omega]
 unfold fr;rw[a,e];cases owner[j]<;>simp
theorem Ow.step{mask:Nat}{owner:Array (Option Nat)}{hs:List Int}(O:Ow mask owner hs)(h:Int)(hm:Mk mask)(W:hs.length<=mask):
  ∃j,layClean.free mask owner (turns mask) (bits h % (mask+1)) (bits h)=on j/\Ow mask (owner.setIfInBounds j (on hs.length)) (hs++[h]):=by
 have u:bits h % (mask+1)<=mask:=by have:=WM (bits h) (show mask+1>0 by omega);omega
 have⟨v,h1,h2⟩:∃v,v<=mask/\fr owner v=Pe:=by
  refine Uh λz=>?_;have all:∀a∈owner.toList,Option.isSome a=Pe:=λa ha=>by
   obtain⟨i,g,e⟩:=VC ha;have L:i<owner.size:=by simpa using g
   have N:fr owner i=Pj:=by
    cases q:fr owner i with
    |false=>rfl
    |true=>exact P6 ⟨i,by have:=O.sz;omega,q⟩ z
   obtain⟨k,A⟩:=(yc O.sz (show i<=mask by have:=O.sz;omega)).2.mp N;have:owner[i]?=on a:=by rw[←SR,Pd g,e]
   rw[this]at A;cases A;rfl
  have:=List.countP_eq_length.mpr all;rw[O.cn]at this;have:=O.sz;simp at*;omega
 have z:(cE mask 13 (bits h % (mask+1),bits h)).2=0:=by
  rw[oO];exact Nat.div_eq_of_lt (P7 (n5 h) (by decide))
 have l:=wj mask 13 (bits h % (mask+1),bits h) u;obtain⟨k,A,e⟩:=wx hm l h1;have Q:fr owner (cE mask (13+k) (bits h % (mask+1),bits h)).1=Pe:=by
  rw[oP,show cE mask 13 (bits h % (mask+1),bits h)=((cE mask 13 (bits h % (mask+1),bits h)).1,0)from Tt rfl z,l6];show fr owner (orb mask k _)=Pe;rw[e];exact h2
 obtain⟨n,F,H,R⟩:=wU (owner:=owner) (turns mask) (bits h % (mask+1)) (bits h) u (n5 h) ⟨13+k,by unfold turns;omega,Q⟩;have I:∀m,(itr (tm mask) m (blk (tm mask) (bits h % (mask+1)) (bits h))).j<=mask:=λm=>by
  have:=(mw m (qB (t:=tm mask) u (n5 h))).j;show _<=(tm mask).mask;omega
 generalize J:(itr (tm mask) n (blk (tm mask) (bits h % (mask+1)) (bits h))).j=j at F H;have T:j<=mask:=by rw[←J];exact I n
 have o:owner[j]?=on Pb:=(yc O.sz T).1.mp H;have p:j<owner.size:=by have:=O.sz;omega
 have set:∀x:Nat,(owner.setIfInBounds j (on hs.length))[x]?=if j=x then on (on hs.length)else owner[x]?:=λx=>by
  rw[Array.getElem?_setIfInBounds];by_cases q:j=x
  ·rw[Ps q,Ps q,Ps p]
  ·rw[Po q,Po q]
 refine⟨j,F,⟨by rw[Array.size_setIfInBounds];exact O.sz,λx k c=>?_,λx y k c f=>?_,?_,λk h' d=>?_⟩⟩
 ·rw[set]at c
  rw[PM];by_cases q:j=x
  ·rw[Ps q]at c;cases c;simp
  ·rw[Po q]at c
   have:=O.lt x k c;omega
 ·rw[set]at c f
  by_cases q:j=x
  ·rw[Ps q]at c;cases c
   by_cases r:j=y
   ·omega
   ·rw[Po r]at f
    exact P6 (O.lt y _ f) (QD _)
  ·rw[Po q]at c
   by_cases r:j=y
   ·rw[Ps r]at f;cases f
    exact P6 (O.lt x _ c) (QD _)
   ·rw[Po r]at f
    exact O.un x y k c f
 ·rw[Array.toList_setIfInBounds,List.countP_set (by simpa using p),O.cn]
  have:owner.toList[j]'(by simpa using p)=Pb:=by
   have e:=getElem?_pos owner j p;rw[o]at e;rw[T3];exact(Qd e).symm
  rw[this];simp
 ·by_cases q:k<hs.length
  ·rw[Sh q]at d
   obtain⟨x,U,a1,a2,a3⟩:=O.ex k h' d;refine⟨x,U,?_,a2,λm hm=>?_⟩
   ·rw[set,Po (λw=>by subst w;rw[o]at a1;cases a1)];exact a1
   ·obtain⟨B,b⟩:=a3 m hm
    exact⟨B,by rw[set,Po (λw=>by rw[←w,o]at b;cases b)];exact b⟩
  ·have C:=(Px.mp d).1
   rw[PM,QC]at C;have:k=hs.length:=by omega
   subst this;rw[Rh (Pt _),RW]at d;cases d;refine⟨j,n,by rw[set,Ps rfl],J,λm hm=>?_⟩;obtain⟨B,b⟩:=(yc O.sz (I m)).2.mp (R m hm);exact⟨B,by rw[sf,set,Po (λw=>by rw[←w,o]at b;cases b)];exact b⟩
theorem Ow.nil(mask:Nat):Ow mask (Array.replicate (mask+1) Pb) []:=by
 have g:∀x:Nat,(Array.replicate (mask+1) (Pb:Option Nat))[x]?=if x<mask+1 then on Pb else Pb:=λx=>Array.getElem?_replicate;refine⟨by simp,λj k h=>?_,λj b k h=>?_,by simp,λk h a=>by simp at a⟩
 ·rw[g]at h
  split at h<;>cases h
 ·rw[g]at h
  split at h<;>cases h
theorem u6{mask:Nat}(hm:Mk mask):∀(l:List Int) (owner:Array (Option Nat)) (hs:List Int),Ow mask owner hs->hs.length+l.length<=mask+1->∃a,l.foldl (λ(acc:Option (Array (Option Nat)×Nat)) h=>do
   let (owner,k) ←acc
   let j ←layClean.free mask owner (turns mask) (bits h % (mask+1)) (bits h)
   RZ (owner.setIfInBounds j (on k),k+1)) (on (owner,hs.length))=on (a,hs.length+l.length)/\Ow mask a (hs++l)
 |[],owner,hs,O,_=>⟨owner,rfl,by rw[Qe];exact O⟩
 |h::l,owner,hs,O,hl=>by
  rw[Pz]at hl;obtain⟨j,e,d⟩:=O.step h hm (by omega);obtain⟨f,b,c⟩:=u6 hm l _ (hs++[h]) d (by rw[PM,QC];omega);refine⟨f,?_,by rw[QJ]at c;exact c⟩;rw[List.foldl_cons];simp only[Option.bind_eq_bind,Q3,e];rw[PM,QC]at b;rw[Pz,show hs.length+(l.length+1)=hs.length+1+l.length by omega];exact b
theorem Mu{mask:Nat}(hm:Mk mask)(hs:Array Int)(b:hs.size<=mask+1):∃owner,layClean mask hs=on owner/\Ow mask owner hs.toList:=by
 obtain⟨o,e,O⟩:=u6 hm hs.toList _ [] (Ow.nil mask) (by simpa using b);refine⟨o,?_,O⟩;unfold layClean;rw[←Array.foldl_toList];have a:=e;simp only[R0]at a;exact(QN (Option.map (·.1)) a).trans rfl
theorem vj{α β:Type}{f:α->Option β}{g:α->β}:∀{l:List α},(∀a∈l,f a=on (g a))->l.filterMap f=l.map g
 |[],_=>rfl
 |a::l,h=>by
  rw[Ro,h a Pn,Py,vj λb c=>h b (Pg a c)]
noncomputable def cA(mask:Nat)(owner:Array (Option Nat)):List (Nat×Nat):=(Pq (mask+1)).filterMap λj=>(owner.getD j Pb).map (j,·)
theorem DP{mask:Nat}{owner:Array (Option Nat)}(hs:owner.size=mask+1){j k:Nat}:(j,k)∈cA mask owner↔owner[j]?=on (on k):=by
 unfold cA;rw[UB];constructor
 ·rintro⟨x,c,e⟩
  have d:=PY.mp c;have a:owner.getD x Pb=owner[x]:=by simp[Ss,show x<owner.size by omega]
  rw[a]at e;cases q:owner[x]with
  |none=>rw[q]at e;cases e
  |some f=>
   rw[q]at e;simp only[QK,WV,Prod.mk.injEq]at e;obtain⟨rfl,rfl⟩:=e;rw[getElem?_pos owner x (by omega),q]
 ·intro e
  have b:=(QR.mp e).1;refine⟨j,PY.mpr (by omega),?_⟩;have a:owner.getD j Pb=owner[j]:=by simp[Ss,b]
  rw[getElem?_pos owner j b]at e;rw[a,Qd e];rfl
theorem zV(mask:Nat)(owner:Array (Option Nat)):(cA mask owner).Pairwise λa b=>a.1<b.1:=by
 unfold cA;refine List.Pairwise.filterMap _ (λa f h b d g c=>?_) List.pairwise_lt_range;cases q:owner.getD a Pb with
 |none=>rw[q]at d;cases d
 |some k=>
  rw[q]at d;cases e:owner.getD f Pb with
  |none=>rw[e]at c;cases c
  |some i=>
   rw[e]at c;cases d;cases c;exact h
theorem zc{t:QH}{hs:Array Int}(hm:Mk (sizeAbove wanted-1))(nf:hs.size*5<(sizeAbove wanted-1)*3):
  ∃(t':QH) (c:Array Nat),t.relaid hs wanted=on (t',c)/\c.toList.Perm (Pq hs.size)/\Tb t' (c.toList.map λk=>hs.getD k 0)/\t'.led=t.led/\t'.plain=t.plain:=by
 have ho:=hm.odd;obtain⟨owner,e,O⟩:=Mu hm hs (by omega);generalize T:sizeAbove wanted-1=mask at*;have d:hs.toList.length=hs.size:=by simp
 have f:=zV mask owner;have g:∀{j k:Nat},(j,k)∈cA mask owner↔owner[j]?=on (on k):=DP O.sz;have U:t.relaid hs wanted=on ({mask,place:=((cA mask owner).map (·.1)).toArray,dummies:=#[],finger:=t.finger,led:=t.led,moves:=t.movedTo mask,plain:=t.plain},((cA mask owner).map (·.2)).toArray):=by
  unfold relaid laid;rw[T,e];rfl
 have perm:((cA mask owner).map (·.2)).Perm (Pq hs.size):=by
  refine(List.perm_ext_iff_of_nodup ?_ U6).mpr λk=>?_
  ·unfold List.Nodup
   rw[UM];refine List.Pairwise.imp_of_mem (R:=λa b=>a.1<b.1) (λ{a b} ha B h z=>?_) f;obtain⟨j,k⟩:=a;obtain⟨r,v⟩:=b;have W:k=v:=z;subst W;have:=O.un j r k (g.mp ha) (g.mp B);have h':j<r:=h;omega
  ·rw[PD,PY]
   constructor
   ·rintro⟨⟨j,v⟩,h,rfl⟩
    have:=O.lt j v (g.mp h);rwa[d]at this
   ·intro A
    obtain⟨j,n,C,_⟩:=O.ex k _ (Pd (by rw[d];exact A));exact⟨(j,k),g.mpr C,rfl⟩
 have l:(cA mask owner).length=hs.size:=by
  have:=perm.length_eq;rwa[Pa,P0]at this
 refine⟨_,_,U,by simpa using perm,?_,rfl,rfl⟩;have pg:∀{i:Nat} {x:Nat},(((cA mask owner).map (·.1)).toArray)[i]?=on x->∃k,(cA mask owner)[i]?=on (x,k):=λ{i x} h=>by
  rw[Vp,Pi]at h;cases q:(cA mask owner)[i]? with
  |none=>rw[q]at h;cases h
  |some a=>
   rw[q]at h;cases h;exact⟨a.2,rfl⟩
 have F:∀{j k:Nat},owner[j]?=on (on k)->∃i:Nat,(((cA mask owner).map (·.1)).toArray)[i]?=on j:=λ{j k} h=>by
  obtain⟨i,X,Y⟩:=VC (g.mpr h);exact⟨i,by rw[Vp,Pi,Pd X,Y];rfl⟩
 refine⟨hm,?_,?_,?_,rfl,?_,?_⟩
 ·show(((cA mask owner).map (·.1)).toArray).size=_
  simp
 ·intro i k x y H Z hy
  obtain⟨a,ha⟩:=pg Z;obtain⟨b,B⟩:=pg hy;obtain⟨C,I⟩:=Px.mp ha;obtain⟨h2,e2⟩:=Px.mp B;have:=Si.mp f i k C h2 H;rw[I,e2]at this;exact this
 ·intro i j h
  obtain⟨a,ha⟩:=pg h;have:=(QR.mp (g.mp (PU ha))).1;have:=O.sz;show j<=mask;omega
 ·show(((cA mask owner).map (·.1)).toArray).size*5<mask*3
  have:(((cA mask owner).map (·.1)).toArray).size=hs.size:=by simp[l]
  omega
 ·intro i h j J hj
  obtain⟨k,A⟩:=pg hj;have o:=g.mp (PU A);have eh:hs.toList[k]?=on h:=by
   rw[Pi]at J;have I:((cA mask owner).map (·.2)).toArray.toList[i]?=on k:=by
    show((cA mask owner).map (·.2))[i]?=_;rw[Pi,A];rfl
   rw[I]at J;have N:k<hs.size:=by have:=O.lt j k o;rwa[d]at this
   have:hs.getD k 0=h:=Qd J;rw[SR,getElem?_pos hs k N,←this];simp[Ss,N]
  obtain⟨r,n,a1,a2,a3⟩:=O.ex k h eh;have:=O.un j r k o a1;subst this;have tr:∀(u:QH),u.mask=mask->∀m,itr u m (u.probeStart h)=itr (tm mask) m ((tm mask).probeStart h):=λu Q m=>by
   rw[xy (u:=tm mask) Q,vb (u:=tm mask) Q]
  refine⟨n,by rw[tr _ rfl];exact a2,λm L=>?_⟩;rw[tr _ rfl];obtain⟨v,p⟩:=a3 m L;exact F p
theorem sE{t:QH}(a:t.probe f h p=r)(T:Tb t hs)(v:Pv t p)(b:e<10*turns t.mask)(c:¬Lv t (itr t e p).j):
  ∃m,m<=e/\(∀d<m,∃i,t.place[i]?=on (itr t d p).j/\f i≠h)/\
   ((¬Lv t (itr t m p).j/\r=on (.empty (itr t m p).j Pb))\/∃i,t.place[i]?=on (itr t m p).j/\f i=h/\r=on (.candidate (itr t m p).j i (itr t (m+1) p))):=by
 subst a;exact IR T.rs T.du _ p e v b c
section
variable{prog:Qf}{w:Qq}{A:QP}{E:Pl->Pr->Prop}{s:Pr}
noncomputable abbrev IKd(prog:Qf)(w:Qq):HeapKind prog w (List Int):=tupleKind (Vx prog w)
noncomputable abbrev hsh(prog:Qf)(w:Qq)(k:List Int):Int:=(IKd prog w).hash k
theorem Tb.fits{t:QH}{hs:List Int}(T:Tb t hs)(hn:hs.length=n):t.fits n=Pe:=by
 have:=T.nf;have:=T.sz;have:=T.km.odd;unfold Wp SetTable.fill;rw[T.du];simp;omega
theorem items_int(h:ItemsAre (Vx prog w) ks vs):∀v∈vs,∃n t,v=S7 n t:=by
 induction h with
 |nil=>intro v hv;cases hv
 |@cons k v' ks vs h1 _ ih=>
  intro v hv;rcases PL.mp hv with rfl|hv
  ·obtain⟨t,e⟩:=VQ h1
   exact⟨_,t,e⟩
  ·exact ih v hv
theorem yy{M:Model}{o:Qb}(b:s.heap.get? a=on o)(h:Q o.cls s):PN M A (typeOf (.ref a)) Q E s:=by
 show PN M A (loadPart a _>>=_) Q E s;exact My (wpAny_loadPart b (Pc h))
theorem uP(f:(IKd prog w).is s.heap k x)(h:Q Pj s):PN (Qc prog w) A (Wx 8 (.ref x)) Q E s:=by
 obtain⟨o,b,n,e,g,hd,i⟩:=f;unfold Wx;refine My (yy e ?_);rw[g];simp only[R8,Qv];refine My (Pc ?_);simp only[Q6,PF,Qw];refine My (Rz e hd ?_);refine My ?_;show PN _ _ (forIn b _ _) _ _ s;rw[←Tu];refine Vr _ (λrest r s'=>r.1=Pb/\s'=s/\∀v∈rest,∃n t,v=S7 n t) _ ?_ ?_ _ _ ⟨rfl,rfl,items_int i⟩
 ·rintro v rest r s' ⟨c,rfl,a⟩
  obtain⟨n,t,rfl⟩:=a v Pn;unfold Wx;refine My (Pc ?_);simp only[PF,Qw];exact Pc ⟨rfl,rfl,λu d=>a u (Pg _ d)⟩
 ·rintro⟨r1,j⟩ s' ⟨c,rfl,_⟩
  simp only at c;subst c;exact Pc h
theorem ER(e:(IKd prog w).is s.heap k x)(h:Q Pe s):PN (Qc prog w) A (hashByValue 8 (.ref x)) Q E s:=by
 have f:=W2 (s:=s) e;obtain⟨o,b,n,g,j,hd,i⟩:=e;unfold hashByValue;refine My (Sv f F.slot_tuple_hash.lookup ?_);simp only;refine My (Rz g hd ?_);refine My ?_;show PN _ _ (forIn b _ _) _ _ s;rw[←Tu];refine Vr _ (λrest r s'=>r.1=Pb/\s'=s/\∀v∈rest,∃n t,v=S7 n t) _ ?_ ?_ _ _ ⟨rfl,rfl,items_int i⟩
 ·rintro v rest r s' ⟨c,rfl,a⟩
  obtain⟨n,t,rfl⟩:=a v Pn;unfold hashByValue;refine My (Pc ?_);simp only[Q6,PF,Qw];exact Pc ⟨rfl,rfl,λu d=>a u (Pg _ d)⟩
 ·rintro⟨r1,l⟩ s' ⟨c,rfl,_⟩
  simp only at c;subst c;exact Pc h
theorem Ko(f:(IKd prog w).is s.heap k x):∀(l:List (List Int×Pk)) {Q:Bool->Pr->Prop},(∀y∈l,(IKd prog w).is s.heap y.1 y.2)->Q Pj s->PN (Qc prog w) A (WA (.ref x) (l.map λy=>P4 y.2)) Q E s:=by
 intro l Q h i;unfold WA;refine My ?_;refine Vr _ (λrest r s'=>r.1=Pb/\s'=s/\∃b:List (List Int×Pk),rest=b.map (λy=>P4 y.2)/\∀y∈b,(IKd prog w).is s.heap y.1 y.2) _ ?_ ?_ _ _ ⟨rfl,rfl,l,rfl,h⟩
 ·rintro v rest r s' ⟨d,rfl,b,e,a⟩
  cases b with
  |nil=>cases e
  |cons y b=>
   cases e;have g:=a y Pn;have nxt:(Pb:Option Bool)=Pb/\s'=s'/\∃c:List (List Int×Pk),b.map (λy=>P4 y.2)=c.map (λy=>P4 y.2)/\∀y∈c,(IKd prog w).is s'.heap y.1 y.2:=⟨rfl,rfl,b,rfl,λu j=>a u (Pg y j)⟩;by_cases q:x==y.2
   ·simp only[q,Bool.true_or,Qv]
    exact Pc nxt
   ·simp only[q,Bool.false_or,carriedByValue,TR,PF,Qw]
    refine My ((IKd prog w).quiet f ?_);simp only[Q6,PF,Qw];refine My ((IKd prog w).quiet g ?_);simp only[Q6,PF,Qw];refine My (uP f ?_);simp only[PF,Qw];refine My (uP g ?_);simp only[PF,Qw];exact Pc nxt
 ·rintro⟨r1,m⟩ s' ⟨d,rfl,_⟩
  simp only at d;subst d;exact Pc i
theorem yV{o:Qb}{es:Array (Int×Pl)}{t:QH}{xs:List (List Int×Pk)}(hu:A.units<UY)(ho:s.heap.get? a=on o)(hd:o.data= .set es ep t)
  (F:es.toList=xs.map λx=>(hsh prog w x.1,P4 x.2)) (hx:∀x∈xs,(IKd prog w).is s.heap x.1 x.2) (T:Tb t (xs.map λx=>hsh prog w x.1)) (hk:(IKd prog w).is s.heap k b)
  (he:e<10*turns t.mask) (R:¬Lv t (itr t e (t.probeStart (hsh prog w k))).j) (ha:∀m<e,Lv t (itr t m (t.probeStart (hsh prog w k))).j)
  (q1:k∈xs.map (·.1)->Q (.there Pb) s) (q2:k∉xs.map (·.1)->Q (.free (itr t e (t.probeStart (hsh prog w k))).j Pj) s):
  ∀(n c m:Nat) (st:Option Probe),e=m+n->n<c->st.getD (t.probeStart (hsh prog w k))=itr t m (t.probeStart (hsh prog w k))->(∀g<m,∀(i:Nat) x,t.place[i]?=on (itr t g (t.probeStart (hsh prog w k))).j->xs[i]?=on x->x.1≠k)->
   PN (Qc prog w) A (setSearchFrom a (.ref b) (hsh prog w k) Pe c st) Q E s:=by
 have hsz:es.size=xs.length:=by rw[←Ql,F,Pa]
 have U:t.fits es.size=Pe:=T.fits (by rw[Pa,hsz]);have l:∀i:Nat,es[i]?=(xs[i]?).map λx=>(hsh prog w x.1,P4 x.2):=λi=>by rw[←SR,F,Pi]
 have gw:t.gaveWay=Pj:=by
  have:=T.km.odd;unfold SetTable.gaveWay;rw[W4];omega
 intro n
 induction n using Wu with
 |_ n ih=>
  intro c m st em hfu hst p;cases c with
  |zero=>omega
  |succ c=>
   unfold setSearchFrom;refine My (Rx ho hd U ?_)
   dsimp only
   rw[hst,gw];simp only[PF,Qw];have v:=mw m (oM t (hsh prog w k));have it:∀n',itr t n' (itr t m (t.probeStart (hsh prog w k)))=itr t (m+n') (t.probeStart (hsh prog w k)):=λn'=>(nB t m n' _).symm;have same:∀{i N j:Nat},t.place[i]?=on j->t.place[N]?=on j->i=N:=λ{i N j} u C=>by
    rcases SW i N with q|q|q
    ·exact P6 (T.rs i N j j q u C) (QD j)
    ·exact q
    ·exact P6 (T.rs N i j j q C u) (QD j)
   split
   ·rename_i W heq
    obtain⟨g,hm',r,d⟩:=sE heq T v (e:=n) (by omega) (by rw[it,←em];exact R);rcases d with⟨X,H⟩|⟨i,O,hfi,H⟩
    ·cases H
     have Y:g=n:=by
      rcases Ux g n with q|q
      ·rw[it]at X
       exact P6 (ha (m+g) (by omega)) X
      ·omega
     subst Y;refine Pc ?_;rw[it,←em];refine q2 λZ=>?_;obtain⟨x,hx1,I⟩:=PD.mp Z;obtain⟨B,hi0,ei0⟩:=VC hx1;have h:xs[B]?=on x:=by rw[Pd hi0,ei0]
     have J:B<t.place.size:=by have:=T.sz;rw[Pa]at this;omega
     obtain⟨n0,a1,a2⟩:=T.rch B (hsh prog w k) t.place[B] (by rw[Pi,h,←I];rfl) (getElem?_pos t.place B J);have hlt:n0<e:=by
      rcases SW n0 e with q|q|q
      ·exact q
      ·subst q
       exact P6 ⟨B,by rw[a1];exact getElem?_pos t.place B J⟩ R
      ·exact P6 (a2 e q) R
     have hp0:t.place[B]?=on (itr t n0 (t.probeStart (hsh prog w k))).j:=by rw[a1];exact getElem?_pos t.place B J
     by_cases q:n0<m
     ·exact p n0 q B x hp0 h I
     ·obtain⟨i,u,C⟩:=r (n0-m) (by omega)
      rw[it,show m+(n0-m)=n0 by omega]at u;have:=same u hp0;subst this;refine C ?_;show(es[i]?.map (·.1)).getD 0=_;rw[l,h,←I];rfl
    ·cases H
     have L:i<xs.length:=by
      have u:=(QR.mp O).1;have:=T.sz;rw[Pa]at this;omega
     have h:xs[i]?=on xs[i]:=Pd L;have hei:es[i]?=on (hsh prog w xs[i].1,P4 xs[i].2):=by rw[l,h];rfl
     have hxk:=hx xs[i] (Qo L);rw[it]at O;simp only;have el:(QI (λx=>x.snd) (Array.filter (λx=>x.fst==hsh prog w k) es).toList)=(xs.filter λy=>hsh prog w y.1==hsh prog w k).map λy=>P4 y.2:=by
      rw[Array.toList_filter,F,Wl,Pp];rfl
     rw[el];have seen:∀{Q':Bool->Pr->Prop},Q' Pj s->PN (Qc prog w) A (WA (.ref b) ((xs.filter λy=>hsh prog w y.1==hsh prog w k).map λy=>P4 y.2)) Q' E s:=λhq=>Ko hk _ (λy hy=>hx y (R1.mp hy).1) hq;have sm:t.sameMemory t.moves t.mask=on Pe:=by unfold sameMemory;simp
     have sl:t.slot (itr t (m+g) (t.probeStart (hsh prog w k))).j= .live i:=sr T.rs O;cases hled:t.led
     all_goals simp only[Sb,Q6,PF,Qv,Qw,it,hei]
     all_goals try refine My (seen ?_)
     all_goals try simp only[PF,Qw]
     all_goals
      refine My (Re ((IKd prog w).eqBool hu hxk hk (My (Rx ho hd U ?_))));simp only[Tq];by_cases q:xs[i].1=k
      ·rw[Ps (PX q)]
       exact Pc (q1 (PD.mpr ⟨xs[i],Qo L,q⟩))
      ·rw[Po (by simpa using q)]
       simp only[sm,Qv,sl,hei];refine My ?_;unfold isSame;simp only[R8,Qv];refine Pc (My (Pc ?_));simp only[Qv];rw[Po (by simpa using q)];have Y:g<n:=by
        rcases Ux g n with z|z
        ·exact z
        ·obtain rfl:g=n:=by omega
         rw[←em]at O;exact P6 ⟨i,O⟩ R
       refine ih (n-(g+1)) (by omega) c (m+g+1) _ (by omega) (by omega) rfl λm2 hm2 i2 x2 u C z=>?_;by_cases q1:m2<m
       ·exact p m2 q1 i2 x2 u C z
       ·by_cases q2:m2=m+g
        ·subst q2
         have:=same O u;subst this;rw[h]at C;cases C;exact q z
        ·obtain⟨i3,h3,h4⟩:=r (m2-m) (by omega)
         rw[it,show m+(m2-m)=m2 by omega]at h3;have:=same h3 u;subst this;refine h4 ?_;show(es[i3]?.map (·.1)).getD 0=_;rw[l,C,←z];rfl
   ·rename_i hno
    have key:∀f:Nat->Int,(∀W,t.probe f (hsh prog w k) (itr t m (t.probeStart (hsh prog w k)))=on W->False)->False:=λf U=>by
     obtain⟨g,hm',r,d⟩:=sE (f:=f) rfl T v (e:=n) (by omega) (by rw[it,←em];exact R);rcases d with⟨_,H⟩|⟨i,_,_,H⟩
     ·exact U _ H
     ·exact U _ H
    exact(key _ hno).elim
theorem OF{P:Nat->Prop}:∀n,P n->∃m,m<=n/\P m/\∀k<m,¬P k:=by
 intro n
 induction n using Wu with
 |_ n ih=>
  intro h;by_cases q:∃k,k<n/\P k
  ·obtain⟨k,a,b⟩:=q
   obtain⟨m,d,c⟩:=ih k a b;exact⟨m,by omega,c⟩
  ·exact⟨n,Pt n,h,λk a b=>q ⟨k,a,b⟩⟩
def rS(prog:Qf)(w:Qq)(h:QW)(a:Pk)(xs:List (List Int×Pk)):Prop:=
 ∃o es ep t,h.get? a=on o/\o.ExactSet/\o.data= .set es ep t/\(es.toList=xs.map λx=>(hsh prog w x.1,P4 x.2))/\(xs.map (·.1)).Nodup/\(∀x∈xs,(IKd prog w).is h x.1 x.2)/\(Tb t (xs.map λx=>hsh prog w x.1))/\t.plain=Pe/\t.led=!(w.params.followText "set-order")
theorem pe{h h':QW}{o:Qb}{es ep t}(x:(IKd prog w).is h k b)(i:h.get? a=on o)(hd:o.data= .set es ep t)(hs:Qg a h h'):(IKd prog w).is h' k b:=by
 obtain⟨g,c,n,e,j,d,l⟩:=x;have f:b≠a:=by
  rintro rfl;obtain rfl:g=o:=Qd (e.symm.trans i);rw[hd]at d;exact nomatch d
 exact⟨g,c,n,(hs.2 b f).trans e,j,d,l⟩
theorem se{h:QW}{o:Qb}(c:h.get? a=on o)(hd:o.data= .set es ep t)(b:Array (Int×Pl))(t':QH):(h.update a (Vl b t')).get? a=on {o with data:= .set b (ep+1) t'}:=by
 have:=SV (Vl b t') c (by rw[putSet_of b t' hd];rfl);rw[putSet_of b t' hd]at this;exact this
theorem LN{t:QH}(T:Tb t hs)(j:Nat):(t.put j).1.dummies=#[]/\(t.put j).1.place.size=t.place.size+1/\(t.put j).2<=t.place.size:=by
 obtain⟨b1,b2,b3⟩:=ji (j:=j) T.rs;have hd:has t.dummies j=Pj:=by unfold has;rw[T.du];rfl
 refine⟨?_,gn b1,b1⟩;show(if has t.dummies j=Pe then _ else t.dummies)=#[];rw[hd,Po Pw,T.du]
theorem KO{α β:Type}{xs:List α}{ys:Array β}{f:α->β}(e:ys.toList=xs.map f){p:Nat}(c:p<=ys.size)(x:α):(insertAt ys p (f x)).toList=(xs.take p++x::xs.drop p).map f:=by
 unfold insertAt;simp only[Array.toList_append,Ye,Array.toList_extract];have a:(ys.toList.extract 0 p)=ys.toList.take p:=by simp[List.extract]
 have b:(ys.toList.extract p ys.size)=ys.toList.drop p:=by
  simp only[List.extract];rw[R7 (by simp)]
 rw[a,b,e,Qh,Py,VG,T6,QJ];rfl
theorem NW{xs:List (List Int×Pk)}(hu:A.units<UY)(S:rS prog w s.heap a xs)(hk:(IKd prog w).is s.heap k b)(hn:xs.length<63)
  (h:∀h' q,Qg a s.heap h'->rS prog w h' a q->(k∈xs.map (·.1)->q=xs)->(k∉xs.map (·.1)->q.Perm ((k,b)::xs))->Q (decide (k∉xs.map (·.1))) {s with heap:=h'}):
  PN (Qc prog w) A (setAddHashed a (.ref b) (hsh prog w k)) Q E s:=by
 have S0:=S;obtain⟨o,es,ep,t,U,X,hd,W,hnd,hx,T,hp,J⟩:=S;have F:es.size=xs.length:=by rw[←Ql,W,Pa]
 have hf:t.fits es.size=Pe:=T.fits (by rw[Pa,F]);have Y:t.place.size=xs.length:=by rw[T.sz,Pa]
 obtain⟨e0,he0,hl0⟩:=T.free (oM t (hsh prog w k));obtain⟨e,hee,hl,Z⟩:=OF (P:=λe=>¬Lv t (itr t e (t.probeStart (hsh prog w k))).j) e0 hl0;have ha:∀m<e,Lv t (itr t m (t.probeStart (hsh prog w k))).j:=λm hm=>Classical.not_not.mp (Z m hm);have hmk:=T.km.odd;unfold setAddHashed setAddHashedIn;refine Re (My (Rx U hd hf ?_));have hb:byScan (P4 b) es=Pj:=rfl;simp only[hb,PF,Qw];refine My ?_;unfold setSearch;refine yV (e:=e) hu U hd W hx T hk (by omega) hl ha (λhm=>?_) (λhm=>?_) e 100000 0 Pb (by omega) (by unfold turns at he0;omega) rfl (λm' hm'=>P6 hm' (R3 _))
 ·refine Pc ?_
  have:=h s.heap xs (Qg.refl a s.heap) S0 (λ_=>rfl) (λz=>P6 hm z);rw[Qp (λz=>z hm)]at this;exact this
 ·have hQ:∀h' q,Qg a s.heap h'->rS prog w h' a q->q.Perm ((k,b)::xs)->Q Pe {s with heap:=h'}:=λh' q h1 h2 h3=>by
   have:=h h' q h1 h2 (λz=>P6 z hm) (λ_=>h3);rwa[PX hm]at this
  simp only;refine My (Rx U hd hf ?_);generalize hj:(itr t e (t.probeStart (hsh prog w k))).j=j at hl;obtain⟨pd,ps,pl⟩:=LN T j;generalize y:t.put j=tp at pd ps pl;obtain⟨u,p⟩:=tp;simp only at pd ps pl⊢;have l:u.plain=Pe:=by
   have:(t.put j).1.plain=t.plain:=rfl;rw[y]at this;rw[this,hp]
  have L:u.led=t.led:=by
   have:(t.put j).1.led=t.led:=rfl;rw[y]at this;exact this
  have v:u.mask=t.mask:=by
   have:(t.put j).1.mask=t.mask:=rfl;rw[y]at this;exact this
  rw[l];simp only[Qv];refine My (ER hk ?_);simp only[Qv];have N:=KO (f:=λx:List Int×Pk=>(hsh prog w x.1,P4 x.2)) W (p:=p) (by omega) (k,b);have B:(insertAt es p (hsh prog w k,P4 b)).size=es.size+1:=gn (by omega);have d:(xs.take p++(k,b)::xs.drop p).Perm ((k,b)::xs):=by
   have:=List.perm_middle (a:=(k,b)) (l₁:=xs.take p) (l₂:=xs.drop p);rwa[Sd]at this
  have nd1:((xs.take p++(k,b)::xs.drop p).map (·.1)).Nodup:=by
   refine(d.map (·.1)).nodup_iff.mpr ?_;rw[Py,Qu];exact⟨hm,hnd⟩
  refine My (wpAny_storeSet_of U hd ?_ (by rw[B,RQ];omega));have H:=Rf s.heap a (Vl (insertAt es p (hsh prog w k,P4 b)) u);have g1:=se U hd (insertAt es p (hsh prog w k,P4 b)) u;have hx1:∀x∈xs.take p++(k,b)::xs.drop p,(IKd prog w).is (s.heap.update a (Vl (insertAt es p (hsh prog w k,P4 b)) u)) x.1 x.2:=λx hx'=>by
   rcases PL.mp (d.mem_iff.mp hx')with rfl|hx'
   ·exact pe hk U hd H
   ·exact pe (hx x hx') U hd H
  by_cases r:u.tooFull=Pe
  ·simp only[r,Sb,Tp,Qv]
   have fu:u.fill*5≥u.mask*3:=by unfold tooFull at r;exact Sk r
   have fe:u.fill=xs.length+1:=by unfold fill;rw[pd,ps,Y];rfl
   have nf0:=T.nf;have f1:u.fits (insertAt es p (hsh prog w k,P4 b)).size=Pe:=by
    unfold Wp;rw[B,fe,ps,Y,F,v];simp;omega
   have wm:Mk (sizeAbove (grown (es.size+1))-1)/\(es.size+1)*5<(sizeAbove (grown (es.size+1))-1)*3/\sizeAbove (grown (es.size+1))<=128:=by
    rw[fe,v]at fu;rw[F];rcases T.km with z|z|z
    ·have:xs.length=4:=by omega
     rw[this];exact⟨.inr (.inl (by decide)),by decide,by decide⟩
    ·have:xs.length=18:=by omega
     rw[this];exact⟨.inr (.inr (by decide)),by decide,by decide⟩
    ·omega
   have C:(Array.map (λx=>x.fst) (insertAt es p (hsh prog w k,P4 b))).size=es.size+1:=by rw[Array.size_map,B]
   obtain⟨t2,c,er,op,T2,led2,I⟩:=zc (t:=u) (hs:=(insertAt es p (hsh prog w k,P4 b)).map (·.1)) (wanted:=grown (es.size+1)) wm.1 (by rw[C];exact wm.2.1);refine My ?_;unfold setRelay;refine My (Rx g1 rfl f1 ?_);simp only;rw[Po (by rw[RQ];omega)];rw[er];generalize hE1:insertAt es p (hsh prog w k,P4 b)=es1 at*;generalize hX1:xs.take p++(k,b)::xs.drop p=xs1 at*;have l1:xs1.length=es.size+1:=by rw[d.length_eq,Pz,F]
   have O:∀i,i<xs1.length->es1[i]?=on (hsh prog w (xs1.getD i (k,b)).1,P4 (xs1.getD i (k,b)).2):=λi R=>by
    rw[←SR,N,Pi,Pd R,Pf,Pd R];rfl
   have om:∀i∈c.toList,i<xs1.length:=λi R=>by
    have:=PY.mp (op.mem_iff.mp R);rw[C]at this;omega
   have efl:(c.filterMap λx=>es1[x]?).toList=(c.toList.map λi=>xs1.getD i (k,b)).map λx=>(hsh prog w x.1,P4 x.2):=by
    rw[Array.toList_filterMap,vj (g:=λi=>(hsh prog w (xs1.getD i (k,b)).1,P4 (xs1.getD i (k,b)).2)) λi R=>O i (om i R),Pp];rfl
   have n:(c.toList.map λi=>xs1.getD i (k,b)).Perm xs1:=by
    refine(op.map _).trans (VO ?_);rw[C,←l1];refine RH (by simp) λi h1 h2=>?_;rw[SB,SG,Pf,Pd h2];rfl
   have fsz:(c.filterMap λx=>es1[x]?).size=es1.size:=by
    rw[←Ql,efl,Pa,n.length_eq,l1,B]
   refine My ?_;show PN _ _ (if((c.filterMap λx=>es1[x]?).size !=es1.size)=Pe then _ else _) _ _ _;rw[Po (by rw[fsz];simp)];refine Pc ?_;refine wpAny_storeSet_of g1 rfl ?_ (by rw[fsz,B,RQ];omega);have sb2:=Rf (s.heap.update a (Vl es1 u)) a (Vl (c.filterMap λx=>es1[x]?) t2);have g2:=se g1 rfl (c.filterMap λx=>es1[x]?) t2;refine Pc (hQ _ (c.toList.map λi=>xs1.getD i (k,b)) (H.trans sb2) ⟨_,_,_,t2,g2,X,rfl,efl,?_,λx hx'=>?_,?_,by rw[I,l],by rw[led2,L,J]⟩ (n.trans d))
   ·exact(n.map (·.1)).nodup_iff.mpr nd1
   ·exact pe (hx1 x (n.mem_iff.mp hx')) g1 rfl sb2
   ·have eh:(c.toList.map λi=>xs1.getD i (k,b)).map (λx=>hsh prog w x.1)=c.toList.map λi=>(es1.map (·.1)).getD i 0:=by
     rw[Pp];refine P5 λi R=>?_;have h1:=O i (om i R);have h2:(es1.map (·.1))[i]?=on (hsh prog w (xs1.getD i (k,b)).1):=by rw[Array.getElem?_map,h1];rfl
     have h3:=(QR.mp h2);obtain⟨h4,h5⟩:=h3;simp only[UA];rw[←h5];simp[Ss,h4];omega
    rw[eh];exact T2
  ·simp only[r,Sb,Bool.and_false,Qw,Tq,PF]
   refine Pc (hQ _ (xs.take p++(k,b)::xs.drop p) H ⟨_,_,_,u,g1,X,rfl,N,nd1,hx1,?_,l,by rw[L,J]⟩ d);have nf:(t.place.size+1)*5<t.mask*3:=by
    have:¬(u.fill*5≥u.mask*3):=by
     intro z;exact r (by unfold tooFull;exact PX z)
    unfold fill at this;rw[pd,ps,v]at this;simp at this;omega
   have:=(T.put (h:=hsh prog w k) hl hj (by exact ha) nf).2.2.2.2;rw[y]at this;rw[Qh,Py,VG,T6];exact this
end
namespace F2
theorem si_next:Slot "set_iterator" "__next__" "set_iterator.__next__":= .of (owner:="set_iterator") (n:="__next__") (by rw[W6,VI];kernel_rfl) (by decide +kernel) (by decide +kernel) (by decide +kernel)
  (by first|exact .inl (by decide +kernel)|exact .inr (by decide +kernel)) (by rw[UZ];kernel_rfl)
theorem si_iter:Slot "set_iterator" "__iter__" "set_iterator.__iter__":= .of (owner:="set_iterator") (n:="__iter__") (by rw[W6,VI];kernel_rfl) (by decide +kernel) (by decide +kernel) (by decide +kernel)
  (by first|exact .inl (by decide +kernel)|exact .inr (by decide +kernel)) (by rw[UZ];kernel_rfl)
theorem ent_next:entryFor table "set_iterator.__next__"=on Builtin.«set_iterator.__next__»:=entryFor_of_tree (by kernel_rfl)
theorem ent_iter:entryFor table "set_iterator.__iter__"=on Builtin.«dict_keyiterator.__iter__»:=Xv (id':="dict_keyiterator.__iter__") (by kernel_rfl) rfl (by decide +kernel) (by kernel_rfl)
theorem ent_set_iter:entryFor table "set.__iter__"=on Builtin.«frozenset.__iter__»:=Xv (id':="frozenset.__iter__") (by kernel_rfl) rfl (by decide +kernel) (by kernel_rfl)
theorem args_next(a:Pl):argsOk "set_iterator.__next__" ⟨[a],[]⟩:=by unfold argsOk;kernel_rfl
theorem args_iter(a:Pl):argsOk "set_iterator.__iter__" ⟨[a],[]⟩:=by unfold argsOk;kernel_rfl
end F2
theorem qv{α:Type}:∀{l:List α} {i:Nat} (h:i<l.length),(l[i]::l.eraseIdx i).Perm l
 |[],i,h=>P6 h (R3 i)
 |a::l,0,h=> .refl _
 |a::l,i+1,h=>by
  show(l[i]'(by simpa using h)::a::l.eraseIdx i).Perm (a::l);exact(List.Perm.swap _ _ _).trans ((qv (by simpa using h)).cons a)
theorem wv{α:Type}(next:Nat->Nat):∀(fuel k:Nat) (left:List α) (a:Array α),left.length<=fuel->(Wz next fuel k left a).toList.Perm (a.toList++left)
 |0,k,left,a,h=>by
  have:left=[]:=U4.mp (by omega);subst this;unfold Wz;rw[Qe]
 |fuel+1,k,left,a,h=>by
  unfold Wz;cases left with
  |nil=>simp
  |cons c d=>
   have b:next k % (c::d).length<(c::d).length:=WM _ (by simp)
   rw[Pd b];simp only;refine(wv next fuel (k+1) _ _ (by rw[List.length_eraseIdx_of_lt b];omega)).trans ?_
   rw[Ye,QJ];exact List.Perm.append_left _ (qv b)
theorem zm{α:Type}(next:Nat->Nat)(xs:Array α):(WQ next xs).toList.Perm xs.toList:=by
 unfold WQ;refine(wv next xs.size 0 xs.toList #[] (by simp)).trans ?_
 simp
section
variable{prog:Qf}{w:Qq}{A:QP}{E:Pl->Pr->Prop}{s:Pr}
noncomputable def dZ(w:Qq)(a:Pk)(ep:Nat)(es:Array (Int×Pl)):Array (Int×Pl):=if w.params.followText "set-order"=Pe then WQ (w.params.setOrder a ep) es else es
theorem ld(w:Qq)(a:Pk)(ep:Nat)(es:Array (Int×Pl)):(dZ w a ep es).toList.Perm es.toList:=by
 unfold dZ;split
 ·exact zm _ _
 ·exact .refl _
structure SIt (w:Qq) (h:QW) (I a:Pk) (es:Array (Int×Pl)) (ep:Nat) (t:QH) (i:Nat):Prop where
 st:∃o,h.get? a=on o/\o.data= .set es ep t
 it:∃(o:Qb) (sl:Nat),h.get? I=on o/\o.cls= .type "set_iterator"/\o.data= .fields #[.int sl 0,.int i 0,.ref a,.int es.size 0,.int ep 0]/\(w.params.followText "set-order"=Pj->below t.place sl=i)
theorem mJ{M:Model}(h:Q (M.w.params.followText "set-order") s):PN M A setsByText Q E s:=by
 unfold setsByText;exact My (Uq (Pc h))
theorem zH{es:Array (Int×Pl)}{t:QH}{e:Int×Pl}(T:Tb t hs)(h:t.fits es.size=Pe)(H:t.plain=Pe)(J:t.led=!(w.params.followText "set-order"))(x:SIt w s.heap I a es ep t i)(k:I≠a)(l:(dZ w a ep es)[i]?=on e)
  (L:∀h',SIt w h' I a es ep t (i+1)->Qg I s.heap h'->Q (on e.2) {s with heap:=h'}):PN (Qc prog w) A (Ua (.ref I)) Q E s:=by
 obtain⟨⟨N,b,c⟩,o,U,n,u,hd,p⟩:=id x;have y:s.TypeIs (.ref I) "set_iterator":=⟨o,n,u⟩;unfold Ua;refine My (Uw (wpAny_callSpecial?_slot (name:=RX "__next__") y F2.si_next (QB F2.si_next y F2.ent_next ?_ (F2.args_next _))));unfold Builtin.«set_iterator.__next__»;refine My (Pc ?_);refine My (VS n hd ?_);simp only;refine My (V4 b c h ?_);simp only[SS,PF,Qw];refine My ?_;simp only[Q7]
 have d:∀nx:Nat,(w.params.followText "set-order"=Pj->below t.place nx=i+1)->PN (Qc prog w) A.in1 (do
    XA (P4 I) 0 (Ub nx)
    XA (P4 I) 1 (Ub (i+1))
    ret e.2) (λd s'=>∃v,d=Fin.done (Flow.ret v)/\PN (Qc prog w) A (RZ (on v)) Q E s') (λe s'=>PN (Qc prog w) A (do
     if(←Wd e (Su "StopIteration"))=Pe then RZ Pb else throw e) Q E s') s:=λnx r=>by
  refine My (Uc n hd (by simp) ?_);have B:(s.heap.update I (Obj.mapFields (·.setIfInBounds 0 (Ub nx)))).get? I=on _:=SV _ n (Vq (RU hd _));refine My (Uc B (RU hd _) (by simp) ?_);refine Pc ⟨_,rfl,Pc (L _ ⟨⟨N,?_,c⟩,⟨_,nx,SV _ B (Vq (RU (RU hd _) _)),?_,?_,r⟩⟩ ((Rf ..).trans (Rf ..)))⟩
  ·rw[Sw _ _ _ _ (Ne.symm k),Sw _ _ _ _ (Ne.symm k)];exact b
  ·rw[V3,V3];exact u
  ·rw[RU (RU hd _)];simp[Ub]
 unfold setNext;refine My (Rx b c h (My (mJ ?_)));have C:(Qc prog w).w=w:=rfl;rw[C];cases q:w.params.followText "set-order"
 ·have f:dZ w a ep es=es:=by unfold dZ;rw[q];rfl
  rw[f]at l;have O:=p q;have W:=(QR.mp l).1;simp only[PF,Qw];have R:t.place.size=es.size:=by
   unfold Wp at h;simp only[Qj,Ti,Qx]at h;exact h.1
  rw[Po (λz=>by
   have F:(!t.plain&&decide (es.size>1))=Pe:=z;rw[H]at F;cases F)]
  refine My ?_;show PN _ _ (if(!t.led&&!es.isEmpty)=Pe then _ else _) _ _ _;rw[Po (by rw[J,q];exact Pw)];refine Pc (Pc ?_);have g:t.place[i]?=on t.place[i]:=getElem?_pos t.place i (by omega);rw[O,l,g];simp only;refine d _ λ_=>?_;obtain⟨b1,b2,b3⟩:=ji (j:=t.place[i]+1) T.rs;rcases SW (below t.place (t.place[i]+1)) (i+1)with z|z|z
  ·have:=b3 i _ (by omega) g
   omega
  ·exact z
  ·have m:t.place[i+1]?=on t.place[i+1]:=getElem?_pos t.place (i+1) (by omega)
   have X:=b2 (i+1) _ z m;have Y:=T.rs i (i+1) _ _ (by omega) g m;omega
 ·have f:dZ w a ep es=WQ (w.params.setOrder a ep) es:=by unfold dZ;rw[q];rfl
  rw[f]at l;simp only[Qv,SS,PF,Qw];refine My ?_;unfold setWalk;refine My (Rx b c h (My (mJ ?_)));rw[C,q];simp only[Qv];refine My (Uq (Pc ?_));refine Pc ?_;rw[show((Qc prog w).w.params.setOrder a ep)=w.params.setOrder a ep from rfl,l];simp only[QK];exact d _ λz=>by rw[q]at z;cases z
theorem DE{es:Array (Int×Pl)}{t:QH}(r:A.handled=Pb)(T:Tb t hs)(g:t.fits es.size=Pe)(u:t.plain=Pe)(y:t.led=!(w.params.followText "set-order"))(x:SIt w s.heap I a es ep t es.size)
  (B:∀h',V9 I s.heap h'->Q Pb {s with heap:=h'}):PN (Qc prog w) A (Ua (.ref I)) Q E s:=by
 obtain⟨⟨F,d,f⟩,o,H,h,C,hd,i⟩:=id x;have l:s.TypeIs (.ref I) "set_iterator":=⟨o,h,C⟩;unfold Ua;refine My (Uw (wpAny_callSpecial?_slot (name:=RX "__next__") l F2.si_next (QB F2.si_next l F2.ent_next ?_ (F2.args_next _))));unfold Builtin.«set_iterator.__next__»;refine My (Pc ?_);refine My (VS h hd ?_);simp only;refine My (V4 d f g ?_);simp only[SS,PF,Qw];refine My ?_;simp only[Q7]
 have c:PN (Qc prog w) A.in1 (do
    XA (P4 I) 2 QL
    let e ←YM (Su "StopIteration") []
    (raiseNew e:Sem Fin)) (λc s'=>∃v,c=Fin.done (Flow.ret v)/\PN (Qc prog w) A (RZ (on v)) Q E s') (λe s'=>PN (Qc prog w) A (do
     if(←Wd e (Su "StopIteration"))=Pe then RZ Pb else throw e) Q E s') s:=by
  refine My (Uc h hd (by simp) ?_);refine My ?_;simp only[YM,newTuple];refine My (Q0 ?_ (by size_fits));refine My (m:=T8 _ _) (Tk (a:=QL) (by first|rfl|(simp only[T8];rfl)) ?_)
  refine Q0 ?_ (by size_fits);simp only[raiseNew];refine My (Yd ?_);rw[show A.in1.handled=Pb from r];refine My (Pc (wpAny_throw ?_));refine My (Sg (T:="StopIteration") (b:=Pe) ⟨_,PP _ rfl,rfl⟩ Xx ?_);exact Pc (B _ (((Rf ..).extBut.push _).push _))
 unfold setNext;refine My (Rx d f g (My (mJ ?_)));have n:(Qc prog w).w=w:=rfl;rw[n];have j:(dZ w a ep es).size=es.size:=by rw[←Ql,(ld w a ep es).length_eq,Ql]
 cases q:w.params.followText "set-order"
 ·simp only[PF,Qw]
  rw[Po (λz=>by
   have p:(!t.plain&&decide (es.size>1))=Pe:=z;rw[u]at p;cases p)]
  refine My ?_;show PN _ _ (if(!t.led&&!es.isEmpty)=Pe then _ else _) _ _ _;rw[Po (by rw[y,q];exact Pw)];refine Pc (Pc ?_);rw[i q,SF (Pt _)];exact c
 ·have k:dZ w a ep es=WQ (w.params.setOrder a ep) es:=by unfold dZ;rw[q];rfl
  simp only[Qv,SS,PF,Qw];refine My ?_;unfold setWalk;refine My (Rx d f g (My (mJ ?_)));rw[n,q];simp only[Qv];refine My (Uq (Pc ?_));refine Pc ?_;rw[show((Qc prog w).w.params.setOrder a ep)=w.params.setOrder a ep from rfl,←k,SF (by rw[j];exact Pt _)];exact c
theorem SIt.at{h h':QW}(x:SIt w h I a es ep t i)(k:∀b,b=I\/b=a->∀o,h.get? b=on o->h'.get? b=on o):SIt w h' I a es ep t i:=by
 obtain⟨⟨e,c,d⟩,o,f,g,r⟩:=x;exact⟨⟨e,k a (.inr rfl) e c,d⟩,o,f,k I (.inl rfl) o g,r⟩
theorem BP(q:A.handled=Pb){es:Array (Int×Pl)}{t:QH}(T:Tb t hs)(l:t.fits es.size=Pe)(m:t.plain=Pe)(n:t.led=!(w.params.followText "set-order"))(f:I≠a):
  Walks prog w A I [I,a] [I] es.size (λi v=>∃e,(dZ w a ep es)[i]?=on e/\v=e.2) (λi h=>SIt w h I a es ep t i) where
 sub:=λb c=>by simp at c;simp[c]
 frame:=λ_ _ _ st r=>st.at λb c o e=>r b (by simpa using c) o e
 item:=λi s Q E L st d=>by
  have u:(dZ w a ep es).size=es.size:=by rw[←Ql,(ld w a ep es).length_eq,Ql]
  have p:(dZ w a ep es)[i]?=on (dZ w a ep es)[i]:=getElem?_pos _ i (by omega);exact zH T l m n st f p λh' g y=>d _ h' s.toks ⟨_,p,rfl⟩ g λb o c e=>y.extBut b o (λh=>c (by simp[h])) e
 done:=λs Q E st d=>DE q T l m n st λh' j=>d h' s.toks λb o c e=>j b o (λh=>c (by simp[h])) e
 self:=λi s Q E st d=>by
  obtain⟨⟨N,B,C⟩,o,O,F,H,hd,J⟩:=st;have k:s.TypeIs (.ref I) "set_iterator":=⟨o,F,H⟩;refine Vh k F2.si_iter (QB F2.si_iter k F2.ent_iter ?_ (F2.args_iter _));show PN _ _ (ret (.ref I)) _ _ s;exact Pc ⟨_,rfl,"set_iterator",_,k,F2.si_next.lookup,d⟩
end
end L2.Hs
namespace L2.Hs
open PySem PySem.SetTable PyProof.Rows
section
variable{prog:Qf}{w:Qq}{A:QP}{E:Pl->Pr->Prop}{s:Pr}
theorem DW{o:Qb}{es:Array (Int×Pl)}{t:QH}(b:s.heap.get? a=on o)(f:o.cls= .type "set")(hd:o.data= .set es ep t)(c:t.fits es.size=Pe)(g:t.plain=Pe)
  (h:Q (.ref s.heap.objs.size) {s with heap:=s.heap.push {cls:= .type "set_iterator",data:= .fields #[.int (0:Nat) 0,.int (0:Nat) 0,.ref a,.int es.size 0,.int ep 0]}}):PN (Qc prog w) A (VR (.ref a)) Q E s:=by
 have d:s.TypeIs (.ref a) "set":=⟨o,b,f⟩;refine Vh d F.slot_set_iter (QB F.slot_set_iter d F2.ent_set_iter ?_ (F.args_set_iter_1 _));unfold Builtin.«frozenset.__iter__»;refine My (Tk (a:=a) rfl ?_);refine My (My (V4 b hd c (Pc ?_)));refine My ?_;unfold setDrawn;refine My (Rx b hd c (My (mJ (Pc ?_))));rw[Po (λz=>by
  have e:(!((Qc prog w).w.params.followText "set-order")&&(!t.plain&&decide (es.size>1)))=Pe:=z;rw[g]at e;simp at e)]
 refine My (Pc ?_);refine My (wpAny_setEpoch_of b hd c ?_);unfold newFields;refine My (Q0 (Pc ⟨_,rfl,"set_iterator",_,⟨_,PP _ rfl,rfl⟩,F2.si_next.lookup,?_⟩));exact h
theorem vU{o:Qb}{es:Array (Int×Pl)}{t:QH}(hh:A.handled=Pb)(U:s.heap.get? a=on o)(B:o.cls= .type "set")(hd:o.data= .set es ep t)(T:Tb t hs)(X:t.fits es.size=Pe)(Y:t.plain=Pe)(hl:t.led=!(w.params.followText "set-order"))
  (hsz:es.size<=1000)
  (hQ:∀h' Z vs,(∀b o,s.heap.get? b=on o->h'.get? b=on o)->s.heap.objs.size<=h'.objs.size->s.toks<=Z->vs.Perm (es.toList.map (·.2))->Q vs {s with heap:=h',toks:=Z}):PN (Qc prog w) A (collect (.ref a)) Q E s:=by
 unfold collect;refine My (wpAny_runValue (W5 F.entry_proto_collect ?_));rw[W9 F.plain_proto_collect _];show PN _ A.in1 (newList []>>=λl=>WY (.builtin "list.__iadd__" ⟨[l,.ref a],[]⟩)) _ _ s;refine My (Q0 ?_);refine Pc ⟨plainId_quiet F.plain_list_iadd _,W5 F.entry_list_iadd ?_⟩;rw[W9 F.plain_list_iadd _];have ha:=Qa U;have g:(s.heap.push {cls:= .type "list",data:= .seq ([]:List Pl).toArray}).get? a=on o:=Ph _ U;have C:(s.heap.push {cls:= .type "list",data:= .seq ([]:List Pl).toArray}).get? s.heap.objs.size=on {cls:= .type "list",data:= .seq ([]:List Pl).toArray}:=PP _ rfl;have r:s.heap.objs.size≠a:=SL ha;have y:VV (.ref s.heap.objs.size) (.ref a)=Pj:=by simp[VV,r]
 have H:(⟨s.heap.push {cls:= .type "list",data:= .seq ([]:List Pl).toArray},s.gens,s.drawn,s.toks,s.os⟩:Pr).TypeIs (.ref a) "set":=⟨o,g,B⟩;show PN _ A.in1 (VF (.ref s.heap.objs.size) (.ref a) (.ref s.heap.objs.size)) _ _ _;unfold VF;refine My (wpAny_typeOf H ?_);rw[Po (by rw[y];decide)];refine My (DW g B hd X Y ?_);refine My (Re ?_);unfold Builtin.List.listLengthHint;have n:(⟨(s.heap.push {cls:= .type "list",data:= .seq ([]:List Pl).toArray}).push {cls:= .type "set_iterator",data:= .fields #[.int (0:Nat) 0,.int (0:Nat) 0,.ref a,.int es.size 0,.int ep 0]},s.gens,s.drawn,s.toks,s.os⟩:Pr).TypeIs (.ref a) "set":=⟨o,Ph _ g,B⟩;refine My (Sv n F.slot_set_len.lookup ?_)
 (generalize u:("set.__len__":String)=id0;wp_delta;rw[show splitId id0=on ("set","__len__")from by subst u;decide +kernel];subst u)
 refine My (Sg (b:=Pe) n (by rw[UZ];kernel_rfl) ?_);rw[Po (by decide)];show PN _ _ (if _ then _ else _) _ _ _;rw[Ps (by decide)];refine My (wpAny_typeOf n ?_);refine Pc ?_;rw[Ps (by decide)];refine My (Tl ?_);have eI:(s.heap.push {cls:= .type "list",data:= .seq ([]:List Pl).toArray}).objs.size=s.heap.objs.size+1:=by rw[size_push']
 generalize h:(s.heap.push {cls:= .type "list",data:= .seq ([]:List Pl).toArray}).push {cls:= .type "set_iterator",data:= .fields #[.int (0:Nat) 0,.int (0:Nat) 0,.ref a,.int es.size 0,.int ep 0]}=d;have gS:d.get? s.heap.objs.size=on (S8 "list" #[] 0):=by rw[←h];exact Ph _ C
 have gI:d.get? (s.heap.objs.size+1)=on {cls:= .type "set_iterator",data:= .fields #[.int (0:Nat) 0,.int (0:Nat) 0,.ref a,.int es.size 0,.int ep 0]}:=by rw[←h,←eI];exact PP _ rfl
 have ga:d.get? a=on o:=by rw[←h];exact Ph _ g
 have p:∀b f,s.heap.get? b=on f->d.get? b=on f:=λb f e=>by rw[←h];exact Ph _ (Ph _ e)
 unfold Builtin.List.listTouch;refine My (My (Vm gS rfl ?_ (by show 0<=_;omega) (by show 1<=_;omega)));obtain⟨e1,g1⟩:∃e1,(d.update s.heap.objs.size (Rp λxs=>xs.push QL)).get? s.heap.objs.size=on (S8 "list" #[QL] e1):=⟨_,get?_update_seq gS λxs=>xs.push QL⟩;refine Vm g1 rfl ?_ (by show 1<=PQ;decide) (by show 0<=_;omega);obtain⟨J,g2⟩:∃J,((d.update s.heap.objs.size (Rp λxs=>xs.push QL)).update s.heap.objs.size (Rp λxs=>xs.pop)).get? s.heap.objs.size=on (S8 "list" #[] J):=⟨_,get?_update_seq g1 λxs=>xs.pop⟩;have c:∀b f,b≠s.heap.objs.size->d.get? b=on f->((d.update s.heap.objs.size (Rp λxs=>xs.push QL)).update s.heap.objs.size (Rp λxs=>xs.pop)).get? b=on f:=λb f q e=>by
  rw[Sw _ _ _ _ q,Sw _ _ _ _ q];exact e
 generalize (d.update s.heap.objs.size (Rp λxs=>xs.push QL)).update s.heap.objs.size (Rp λxs=>xs.pop)=h4 at g2 c;have L:s.heap.objs.size+1≠a:=SL (UU ha);have st:SIt w h4 (s.heap.objs.size+1) a es ep t 0:=⟨⟨o,c a o (Ne.symm r) ga,hd⟩,_,0,c _ _ (by omega) gI,rfl,rfl,λ_=>by
  have:=ji (j:=0) T.rs;rcases Nat.eq_zero_or_pos (below t.place 0)with z|z
  ·exact z
  ·have e:=getElem?_pos t.place 0 (by omega)
   have:=this.2.1 0 _ z e;omega⟩
 have W:=BP (prog:=prog) (w:=w) (A:=A.in1) (I:=s.heap.objs.size+1) (a:=a) (ep:=ep) hh T X Y hl L;show PN _ _ (WY _) _ _ _;rw[eI];refine Pc ⟨plainId_quiet F.plain_extend_loop _,codeAny_extend_loopS W.toS (by rw[RQ];omega) s.heap.objs.size (by simp;omega) _ es.size 0 _ #[] J rfl (QV _) st g2 (ItemsOf.nil _) λs' k c' hm v m=>?_⟩;show PN _ A (load s.heap.objs.size>>=_) _ _ s';refine My (wpAny_load v ?_);refine Pc ?_;have N:s'={s with heap:=s'.heap,toks:=s'.toks}:=by
  have y:=hm.gens;have d:=hm.drawn;have h3:=hm.os;obtain⟨a1,a2,a3,a4,a5⟩:=s';simp only at y d h3;subst y d h3;rfl
 rw[N];refine hQ _ _ _ (λb f e=>?_) (Vk (Qa v)) hm.toks ?_
 ·have q:=Qa e
  exact hm.heap b f (by simp only[PL,Q5,TY,not_or];exact⟨QE q,QE (UU q)⟩) (c b f (QE q) (p b f e))
 ·refine List.Perm.trans (VO ?_) ((ld w a ep es).map (·.2))
  have O:(dZ w a ep es).size=es.size:=by rw[←Ql,(ld w a ep es).length_eq,Ql]
  refine RH (by rw[Ql,Pa,Ql,O,m.1]) λi q1 q2=>?_;have R:i<k.size:=by simpa using q1
  obtain⟨e,he,hv⟩:=m.2 i _ (getElem?_pos k i R);rw[T3,hv,SB,T3];have:=QR.mp he;obtain⟨z1,z2⟩:=this;rw[z2]
end
end L2.Hs
namespace L2.Hs
open PySem PySem.W PyProof.Rows
section
variable{α β:Type}{lt:Nat->Nat->Bool}{n:Nat}
def Rn(lt:Nat->Nat->Bool)(n:Nat):KasT α->(α->Prop)->Prop
 | .ret a,Φ=>Φ a
 | .ask i j k,Φ=>i<n/\j<n/\Rn lt n (k (lt i j)) Φ
theorem Rn.bind{Φ:β->Prop}:∀{t:KasT α},Rn lt n t (λa=>Rn lt n (f a) Φ)->Rn lt n (t.bind f) Φ
 | .ret a,h=>h
 | .ask i j k,⟨h1,h2,h3⟩=>⟨h1,h2,Rn.bind h3⟩
theorem Rn.mono{Φ Ψ:α->Prop}(b:∀a,Φ a->Ψ a):∀{t:KasT α},Rn lt n t Φ->Rn lt n t Ψ
 | .ret a,h=>b a h
 | .ask i j k,⟨h1,h2,h3⟩=>⟨h1,h2,Rn.mono b h3⟩
theorem Rn.wp{Φ:α->Prop}(b:∀i j,i<n->j<n->∀C:Bool->Pr->Prop,C (lt i j) s->cmp i j C s)(c:∀a,Φ a->Q a s):∀{t:KasT α},Rn lt n t Φ->t.kasWp cmp Q s
 | .ret a,h=>c a h
 | .ask i j k,⟨h1,h2,h3⟩=>b i j h1 h2 _ (Rn.wp b c h3)
end
section
variable{rk:Nat->Nat}{n:Nat}
noncomputable abbrev ltR(rk:Nat->Nat)(i j:Nat):Bool:=decide (rk i<rk j)
noncomputable abbrev ky(rk:Nat->Nat)(p:Array Nat)(i:Nat):Nat:=rk (p.getD i 0)
structure Pm (rk:Nat->Nat) (n:Nat) (p:Array Nat):Prop where
 perm:p.toList.Perm (Pq n)
 inj:∀i j,i<n->j<n->rk i=rk j->i=j
theorem Pm.sz{p:Array Nat}(h:Pm rk n p):p.size=n:=by have:=h.perm.length_eq;simpa using this
theorem Pm.lt{p:Array Nat}(h:Pm rk n p)(a:i<n):p.getD i 0<n:=by
 have hs:=h.sz;have e:p.getD i 0=p[i]:=by simp[Ss,show i<p.size by omega]
 rw[e];exact PY.mp (h.perm.mem_iff.mp (by simp))
theorem Pm.ne(h:Pm rk n p)(a:i<j)(b:j<n):ky rk p i≠ky rk p j:=λz=>by
 have hs:=h.sz;have:=h.inj _ _ (h.lt (show i<n by omega)) (h.lt b) z;have nd:p.toList.Nodup:=h.perm.nodup_iff.mpr U6;have c:p.getD i 0=p.toList[i]'(by simp;omega):=by simp[Ss,show i<p.size by omega]
 have d:p.getD j 0=p.toList[j]'(by simp;omega):=by simp[Ss,show j<p.size by omega]
 rw[c,d]at this;exact P6 this (Si.mp nd i j (by simp;omega) (by simp;omega) a)
theorem Pm.of{p q:Array Nat}(h:Pm rk n p)(a:q.Perm p):Pm rk n q:=⟨(Array.perm_iff_toList_perm.mp a).trans h.perm,h.inj⟩
def So(rk:Nat->Nat)(p:Array Nat)(k:Nat):Prop:=∀i j,i<j->j<k->ky rk p i<ky rk p j
def De(rk:Nat->Nat)(p:Array Nat)(k:Nat):Prop:=∀i j,i<j->j<k->ky rk p j<ky rk p i
theorem So.succ(h:So rk p k)(c:1<=k)(b:ky rk p (k-1)<ky rk p k):So rk p (k+1):=λi j a d=>by
 by_cases q:j=k
 ·subst q
  by_cases z:i=j-1
  ·subst z;exact b
  ·exact Uy (h i (j-1) (by omega) (by omega)) b
 ·exact h i j a (by omega)
theorem De.succ(h:De rk p k)(c:1<=k)(b:ky rk p k<ky rk p (k-1)):De rk p (k+1):=λi j a d=>by
 by_cases q:j=k
 ·subst q
  by_cases z:i=j-1
  ·subst z;exact b
  ·exact Uy b (h i (j-1) (by omega) (by omega))
 ·exact h i j a (by omega)
theorem vN(P:Pm rk n p):∀(f k:Nat),1<=k->k+f<=n->So rk p k->Rn (ltR rk) n (kas_asc p f k) λm=>k<=m/\m<=k+f/\So rk p m/\(m=k+f\/ky rk p m<ky rk p (m-1))
 |0,k,_,_,h=>⟨Pt k,Pt _,h,.inl rfl⟩
 |f+1,k,h1,h2,h=>by
  refine⟨P.lt (by omega),P.lt (by omega),?_⟩;by_cases q:ky rk p k<ky rk p (k-1)
  ·rw[show ltR rk (p.getD k 0) (p.getD (k-1) 0)=Pe from PX q];dsimp only;rw[Ps rfl]
   exact⟨Pt k,by omega,h,.inr q⟩
  ·rw[show ltR rk (p.getD k 0) (p.getD (k-1) 0)=Pj from Qp q];dsimp only;rw[Po Pw]
   have:=P.ne (show k-1<k by omega) (show k<n by omega);refine Rn.mono (λm hm=>?_) (vN P f (k+1) (by omega) (by omega) (h.succ h1 (by omega)));exact⟨by omega,by omega,hm.2.2.1,by rcases hm.2.2.2 with z|z;exact .inl (by omega);exact .inr z⟩
theorem wY(P:Pm rk n p):∀(f k:Nat),1<=k->k+f<=n->De rk p k->Rn (ltR rk) n (kas_desc f p k 0) λr=>r.1=p/\r.2.2=0/\k<=r.2.1/\r.2.1<=k+f/\De rk p r.2.1
 |0,k,_,_,h=>⟨rfl,rfl,Pt k,Pt _,h⟩
 |f+1,k,h1,h2,h=>by
  refine⟨P.lt (by omega),P.lt (by omega),?_⟩;by_cases q:ky rk p k<ky rk p (k-1)
  ·rw[show ltR rk (p.getD k 0) (p.getD (k-1) 0)=Pe from PX q];dsimp only;rw[Ps rfl,Po (QD 0)]
   refine Rn.mono (λm hm=>?_) (wY P f (k+1) (by omega) (by omega) (h.succ h1 q));exact⟨hm.1,hm.2.1,by have:=hm.2.2.1;omega,by have:=hm.2.2.2.1;omega,hm.2.2.2.2⟩
  ·rw[show ltR rk (p.getD k 0) (p.getD (k-1) 0)=Pj from Qp q];dsimp only;rw[Po Pw]
   have:=P.ne (show k-1<k by omega) (show k<n by omega);refine⟨P.lt (by omega),P.lt (by omega),?_⟩;rw[show ltR rk (p.getD (k-1) 0) (p.getD k 0)=Pe from PX (show ky rk p (k-1)<ky rk p k by omega)];dsimp only;rw[Ps rfl];exact⟨rfl,rfl,Pt k,by show k<=_;omega,h⟩
theorem wT{p q:Array Nat}(h:p[i]?=q[j]?):p.getD i 0=q.getD j 0:=by
 have a:∀(r:Array Nat) (x:Nat),r.getD x 0=(r[x]?).getD 0:=λr x=>by
  by_cases b:x<r.size
  ·simp[Ss,b]
  ·simp[Ss,b]
 rw[a,a,h]
theorem LF{p:Array Nat}(a:k<=p.size)(h:De rk p k):So rk (kas_rev p 0 k) k:=λi j b c=>by
 have g:∀x,x<k->(kas_rev p 0 k).getD x 0=p.getD (k-1-x) 0:=λx d=>by
  refine wT ?_;unfold kas_rev;rw[getElem?_mirror_all a,Ps (by omega)];congr 1;omega
 show rk _<rk _;rw[g i (by omega),g j c];exact h (k-1-j) (k-1-i) (by omega) (by omega)
theorem BT(P:Pm rk n p)(b:1<=k)(c:k<=n)(h:De rk p k):Rn (ltR rk) n (kas_tail3 k n p) λr=>Pm rk n r.2/\1<=r.1/\r.1<=n/\So rk r.2 r.1:=by
 have a:Pm rk n (kas_rev p 0 k):=P.of (mirror_perm _ _ _ _);unfold kas_tail3;refine Rn.bind (Rn.mono (λm hm=>?_) (vN a (n-k) k b (by omega) (LF (by rw[P.sz];exact c) h)));exact⟨a,by omega,by omega,hm.2.2.1⟩
theorem EM(P:Pm rk n p)(d:1<=n):Rn (ltR rk) n (kas_count n p) λr=>Pm rk n r.2/\1<=r.1/\r.1<=n/\So rk r.2 r.1:=by
 unfold kas_count;refine Rn.bind (Rn.mono (λm hm=>?_) (vN P (n-1) 1 (Pt 1) (by omega) λi j a b=>by omega));obtain⟨a1,a2,a3,a4⟩:=hm;by_cases q:m=n
 ·rw[Ps (by rw[Ti];exact q)]
  exact⟨P,by omega,by omega,a3⟩
 ·rw[Po (by rw[Ti];exact q)]
  have hd:ky rk p m<ky rk p (m-1):=by
   rcases a4 with z|z
   ·omega
   ·exact z
  by_cases q1:m>1
  ·rw[Ps q1]
   refine⟨P.lt (by omega),P.lt (by omega),?_⟩;rw[show ltR rk (p.getD 0 0) (p.getD (m-1) 0)=Pe from PX (a3 0 (m-1) (by omega) (by omega))];dsimp only;rw[Ps rfl];exact⟨P,by omega,by omega,a3⟩
  ·rw[Po q1]
   obtain rfl:m=1:=by omega
   unfold kas_descPart;refine Rn.bind (Rn.mono (λr c=>?_) (wY P (n-(1+1)) (1+1) (by omega) (by omega) λi j a b=>by
    obtain rfl:j=1:=by omega
    obtain rfl:i=0:=by omega
    exact hd))
   obtain⟨rfl,b2,b3,b4,b5⟩:=c;rw[Po (by omega)];exact BT P (by omega) (by omega) b5
theorem oS(P:Pm rk n p)(a:k<n):∀(f l r:Nat),l<=r->r<=k->r-l<=f->(∀i,i<l->ky rk p i<ky rk p k)->(∀i,r<=i->i<k->ky rk p k<ky rk p i)->So rk p k->
  Rn (ltR rk) n (kas_place p k f l r) λm=>m<=k/\(∀i,i<m->ky rk p i<ky rk p k)/\∀i,m<=i->i<k->ky rk p k<ky rk p i
 |0,l,r,h1,h2,h3,ha,hb,_=>by
  obtain rfl:l=r:=by omega
  exact⟨h2,ha,hb⟩
 |f+1,l,r,h1,h2,h3,ha,hb,so=>by
  unfold kas_place;by_cases q:l≥r
  ·rw[Ps q]
   obtain rfl:l=r:=by omega
   exact⟨h2,ha,hb⟩
  ·rw[Po q]
   refine⟨P.lt (by omega),P.lt (by omega),?_⟩;by_cases z:ky rk p k<ky rk p ((l+r)/2)
   ·rw[show ltR rk (p.getD k 0) (p.getD ((l+r)/2) 0)=Pe from PX z];dsimp only;rw[Ps rfl]
    refine oS P a f l ((l+r)/2) (by omega) (by omega) (by omega) ha (λi c b=>?_) so;by_cases w:i=(l+r)/2
    ·subst w;exact z
    ·exact Uy z (so _ i (by omega) b)
   ·rw[show ltR rk (p.getD k 0) (p.getD ((l+r)/2) 0)=Pj from Qp z];dsimp only;rw[Po Pw]
    have d:=P.ne (show(l+r)/2<k by omega) a;refine oS P a f ((l+r)/2+1) r (by omega) h2 (by omega) (λi c=>?_) hb so;by_cases w:i=(l+r)/2
    ·subst w;omega
    ·exact Uy (so i ((l+r)/2) (by omega) (by omega)) (by omega)
theorem BE:∀(f:Nat) {p:Array Nat} {k:Nat},Pm rk n p->k+f=n->So rk p k->Rn (ltR rk) n (kas_bin f p k) λb=>Pm rk n b/\So rk b n
 |0,p,k,P,hk,so=>⟨P,by rw[←hk];exact so⟩
 |f+1,p,k,P,hk,so=>by
  unfold kas_bin;refine Rn.bind (Rn.mono (λm hm=>?_) (oS P (by omega) k 0 k (QV _) (Pt _) (by omega) (λi h=>P6 h (R3 i)) (λi l c=>by omega) so));obtain⟨l,c,o⟩:=hm;have r:Pm rk n (bubble p k (k-m)):=P.of (bubble_perm _ _ _);refine BE f r (by omega) λi j a t=>?_;have ks:k<p.size:=by rw[P.sz];omega
  have g:∀x:Nat,(bubble p k (k-m)).getD x 0=p.getD (if x=m then k else if m<x/\x<=k then x-1 else x) 0:=λx=>by
   refine wT ?_;rw[getElem?_bubble ks (k-m) (by omega)];by_cases q:x=m
   ·rw[Ps (by omega),Ps q]
   ·rw[Po (by omega),Po q]
    by_cases q2:m<x/\x<=k
    ·rw[Ps (by omega),Ps q2]
    ·rw[Po (by omega),Po q2]
  show rk _<rk _;rw[g i,g j];by_cases q1:i=m
  ·rw[Ps q1,Po (by omega),Ps (by omega)]
   exact o (j-1) (by omega) (by omega)
  ·rw[Po q1]
   by_cases q2:j=m
   ·rw[Ps q2,Po (by omega)]
    exact c i (by omega)
   ·rw[Po q2]
    by_cases d:m<i/\i<=k
    ·rw[Ps d,Ps (by omega)]
     exact so (i-1) (j-1) (by omega) (by omega)
    ·rw[Po d]
     by_cases e:m<j/\j<=k
     ·rw[Ps e]
      exact so i (j-1) (by omega) (by omega)
     ·rw[Po e]
      exact so i j a (by omega)
theorem JS(a:1<=n)(inj:∀i j,i<n->j<n->rk i=rk j->i=j):Rn (ltR rk) n (kas_sort n) λp=>Pm rk n p/\So rk p n:=by
 unfold kas_sort;have P:Pm rk n (List.toArray (Pq n)):=⟨.refl _,inj⟩;refine Rn.bind (Rn.mono (λr b=>?_) (EM P a));obtain⟨a1,a2,a3,a4⟩:=b;by_cases q:r.1<n
 ·rw[Ps q,Nat.max_eq_left a2]
  exact BE _ a1 (by omega) a4
 ·rw[Po q]
  obtain rfl:r.1=n:=by omega
  exact⟨a1,a4⟩
noncomputable def de:List Int->List Int->Bool
 |[],[]=>Pj
 |[],_::_=>Pe
 |_::_,[]=>Pj
 |a::as,b::bs=>if a=b then de as bs else decide (a<b)
theorem iG:∀x,de x x=Pj
 |[]=>rfl
 |a::as=>by unfold de;rw[Ps rfl];exact iG as
theorem qg:∀{x y z},de x y=Pe->de y z=Pe->de x z=Pe
 |[],[],_,h,_=>by cases h
 |[],_::_,[],_,h=>by cases h
 |[],_::_,_::_,_,_=>rfl
 |_::_,[],_,h,_=>by cases h
 |_::_,_::_,[],_,h=>by cases h
 |a::as,b::bs,c::cs,h1,h2=>by
  unfold de at h1 h2⊢;by_cases q1:a=b
  ·rw[Ps q1]at h1
   by_cases q2:b=c
   ·rw[Ps q2]at h2
    rw[Ps (q1.trans q2)];exact qg h1 h2
   ·rw[Po q2]at h2
    rw[Po (by rw[q1];exact q2),q1];exact h2
  ·rw[Po q1]at h1
   have d:=Sk h1;by_cases q2:b=c
   ·rw[Po (by rw[←q2];exact q1),←q2];exact h1
   ·rw[Po q2]at h2
    have e:=Sk h2;rw[Po (by omega)];exact PX (by omega)
theorem np:∀{x y},de x y=Pj->de y x=Pj->x=y
 |[],[],_,_=>rfl
 |[],_::_,h,_=>by cases h
 |_::_,[],_,h=>by cases h
 |a::as,b::bs,h1,h2=>by
  unfold de at h1 h2;by_cases q:a=b
  ·rw[Ps q]at h1
   rw[Ps q.symm]at h2;rw[q,np h1 h2]
  ·rw[Po q]at h1
   rw[Po (Ne.symm q)]at h2;have:=of_decide_eq_false h1;have:=of_decide_eq_false h2;omega
theorem vG:∀{L:List Nat},(∀l∈L,p l=Pe->q l=Pe)->∀{i},i∈L->p i=Pj->q i=Pe->L.countP p<L.countP q
 |[],_,i,h,_,_=>by cases h
 |a::L,hpq,i,hi,h1,h2=>by
  have le:L.countP p<=L.countP q:=List.countP_mono_left λl b=>hpq l (Pg a b);rcases PL.mp hi with rfl|hi
  ·rw[List.countP_cons_of_neg (by rw[h1];exact Pw),List.countP_cons_of_pos h2]
   omega
  ·have ih:=vG (λl b=>hpq l (Pg a b)) hi h1 h2
   rw[List.countP_cons,List.countP_cons];have:(if p a=Pe then 1 else 0)<=(if q a=Pe then 1 else 0):=by
    by_cases z:p a=Pe
    ·rw[Ps z,Ps (hpq a Pn z)];exact Pt 1
    ·rw[Po z];exact QV _
   omega
def ib(ks:LI)(i:Nat):Nat:=(Pq ks.length).countP λj=>de (ks.getD j []) (ks.getD i [])
theorem tJ{ks:LI}(a:i<ks.length)(h:de (ks.getD i []) (ks.getD j [])=Pe):ib ks i<ib ks j:=
 vG (λl _ b=>qg b h) (PY.mpr a) (iG _) h
theorem za{ks:LI}(b:i<ks.length)(c:j<ks.length):decide (ib ks i<ib ks j)=de (ks.getD i []) (ks.getD j []):=by
 cases h:de (ks.getD i []) (ks.getD j [])with
 |true=>exact PX (tJ b h)
 |false=>
  refine Qp λz=>?_;cases a:de (ks.getD j []) (ks.getD i [])with
  |true=>have:=tJ c a;omega
  |false=>
   have e:=np h a;unfold ib at z;rw[e]at z;exact QD _ z
theorem LC{ks:LI}(nd:ks.Nodup)(a:i<ks.length)(b:j<ks.length)(h:ib ks i=ib ks j):i=j:=by
 have e:ks.getD i []=ks.getD j []:=by
  refine np ?_ ?_
  ·cases z:de (ks.getD i []) (ks.getD j [])with
   |false=>rfl
   |true=>have:=tJ a z;omega
  ·cases z:de (ks.getD j []) (ks.getD i [])with
   |false=>rfl
   |true=>have:=tJ b z;omega
 rw[Pf,Pf,Pd a,Pd b]at e;have c:ks[i]=ks[j]:=e;rcases SW i j with z|z|z
 ·exact P6 c (Si.mp nd i j a b z)
 ·exact z
 ·exact P6 c.symm (Si.mp nd j i b a z)
abbrev Up(l:LI):Prop:=l.Pairwise λa b=>de a b=Pe
theorem xp:∀{l m:LI},Up l->Up m->(∀x,x∈l↔x∈m)->l=m
 |[],[],_,_,_=>rfl
 |[],b::m,_,_,h=>by have:=(h b).mpr Pn;cases this
 |a::l,[],_,_,h=>by have:=(h a).mp Pn;cases this
 |a::l,b::m,h1,h2,h=>by
  obtain⟨d,f⟩:=TC.mp h1;obtain⟨q1,q2⟩:=TC.mp h2;have e:a=b:=by
   rcases PL.mp ((h a).mp Pn)with z|z
   ·exact z
   ·rcases PL.mp ((h b).mpr Pn)with w|w
    ·exact w.symm
    ·have:=qg (q1 a z) (d b w)
     rw[iG]at this;cases this
  subst e;congr 1;refine xp f q2 λx=>⟨λc=>?_,λc=>?_⟩
  ·rcases PL.mp ((h x).mp (Pg a c))with rfl|z
   ·have:=d x c;rw[iG]at this;cases this
   ·exact z
  ·rcases PL.mp ((h x).mpr (Pg a c))with rfl|z
   ·have:=q1 x c;rw[iG]at this;cases this
   ·exact z
variable{prog:Qf}{w:Qq}{A:QP}{E:Pl->Pr->Prop}{s:Pr}
theorem wH{b:Bool}:∀{xs ys:List Int} {us vs:List Pl} (i:Nat),ItemsAre (Vx prog w) xs us->ItemsAre (Vx prog w) ys vs->∀n m:Nat,(decide (n+us.length<m+vs.length)=decide (xs.length<ys.length))->Q (de xs ys) s->KatLex prog w A Pe (decide (n+us.length<m+vs.length)) Q (us.zip vs) i s
 |[],ys,us,vs,i,hx,hy,n,m,e,q=>by
  cases hx;cases hy with
  |nil=>rw[VZ];exact kat_nil (by rw[e];exact q)
  |cons c d=>rw[VZ];exact kat_nil (by rw[e];exact q)
 |x::xs,ys,us,vs,i,hx,hy,n,m,e,q=>by
  cases hx with
  |@cons _ u _ us' c d=>
   cases hy with
   |nil=>rw[List.zip_nil_right];exact kat_nil (by rw[e];exact q)
   |@cons y v ys' vs' h3 h4=>
    obtain⟨g,rfl⟩:=VQ c;obtain⟨h,rfl⟩:=VQ h3;rw[RN];refine kat_cons (wpAny_eqBool_int ?_);unfold de at q;by_cases z:x=y
    ·rw[Ps z]at q
     rw[show(x==y)=Pe by rw[Ti];exact z];refine kat_yes ?_;have f:∀k l:Nat,decide (k+(us'.length+1)<l+(vs'.length+1))=decide (k+1+us'.length<l+1+vs'.length):=λk l=>decide_eq_decide.mpr (by omega);rw[Pz,Pz,f];refine wH (b:=b) (i+1) d h4 (n+1) (m+1) ?_ q;rw[←f,←Pz (a:=S7 x g),←Pz (a:=S7 y h),e,Pz,Pz];exact decide_eq_decide.mpr (by omega)
    ·rw[Po z]at q
     rw[show(x==y)=Pj by rw[W4];exact z];refine kat_no ?_;cases j:(Pe&&i==0)with
     |true=>exact oneLt_int q
     |false=>exact kat_one _ _ (lt_int (show PySem.W.BoolBack Q (.bool _) s from q))
theorem Mr(i:(IKd prog w).is s.heap xs x)(j:(IKd prog w).is s.heap ys y)(h:Q (de xs ys) s):PN (Qc prog w) A (keyLt' (tuples' Pe) (.ref x) (.ref y)) Q E s:=by
 obtain⟨m,o,p,d,k,e,a⟩:=i;obtain⟨o2,q,r,f,l,g,c⟩:=j;refine kat_lt d e f g ?_;have:=wH (A:=A) (b:=Pe) (Q:=Q) (s:=s) 0 a c 0 0 (by rw[Q4,Q4,a.length,c.length]) h;rw[Q4,Q4,Ql,Ql]at this;exact this
theorem v4:∀{ks:List (List Int×Pk)},(∀k∈ks,(IKd prog w).is s.heap k.1 k.2/\1<=k.1.length)->∃fs:List Pl,KatTups s.heap (ks.map λk=>P4 k.2) fs/\fs.length=ks.length/\∀v∈fs,∃n t,v=S7 n t
 |[],_=>⟨[],trivial,rfl,λv hv=>by cases hv⟩
 |k::ks,h=>by
  obtain⟨fs,c,d,f⟩:=v4 λg i=>h g (Pg k i);obtain⟨⟨o,its,n,j,l,hd,b⟩,p⟩:=h k Pn;have a:=b.length;have m:0<its.size:=by rw[←Ql,←a];omega
  have e:=getElem?_pos its 0 m;refine⟨its[0]::fs,KatTups.cons j l hd e c,by rw[Pz,Pz,d],λv hv=>?_⟩;rcases PL.mp hv with rfl|hv
  ·exact items_int b _ (by rw[←T3];exact Qo _)
  ·exact f v hv
theorem yR{ks:List (List Int×Pk)}{n:Nat}{P:UX->Pr->Prop}(L:s.heap.get? a=on (S8 "list" (ks.map λk=>P4 k.2).toArray n))(hk:∀k∈ks,(IKd prog w).is s.heap k.1 k.2/\1<=k.1.length)(nd:(ks.map (·.1)).Nodup)(h64:ks.length<64)
  (h:∀(h':QW) (l:List (List Int×Pk)) (n':Nat),l.Perm ks->Up (l.map (·.1))->h'.get? a=on (S8 "list" (l.map λk=>P4 k.2).toArray n')->(∀b o,b≠a->s.heap.get? b=on o->h'.get? b=on o)->P (.done (.ret .none)) {s with heap:=h'}):
  PN (Qc prog w) A (Builtin.«list.sort» ⟨[.ref a],[]⟩) P E s:=by
 have ha:a<s.heap.objs.size:=Qa L;rw[list_sort_plain];refine My (listItems_at L rfl ?_);refine My (Vm L rfl ?_ (by simp[RQ];omega) (by simp));obtain⟨F,N⟩:∃F,(s.heap.update a (Rp λ_=>#[])).get? a=on (S8 "list" #[] F):=⟨_,get?_update_seq L (λ_=>#[])⟩;refine My (seqEpoch_at N rfl ?_);refine My (XD ?_ (by simp[RQ];omega));refine My (wpAny_newList ?_ (QV _));refine Re ?_;generalize q:(ks.map λk=>P4 k.2)=vs at*;have u:vs.length=ks.length:=by rw[←q,Pa]
 have d:(((s.heap.update a (Rp λ_=>#[])).push (S8 "tuple" vs.toArray 0)).push (S8 "list" #[] 0)).get? a=on (S8 "list" #[] F):=by
  rw[YD _ _ _ (by rw[size_push',Heap.size_update];exact QE (UU ha)),YD _ _ _ (by rw[Heap.size_update];exact QE ha)];exact N
 have keep:∀b o,b≠a->s.heap.get? b=on o->(((s.heap.update a (Rp λ_=>#[])).push (S8 "tuple" vs.toArray 0)).push (S8 "list" #[] 0)).get? b=on o:=λb o X e=>by
  refine Ph _ (Ph _ ?_);rw[Sw _ _ _ _ X];exact e
 show PN (Qc prog w) A _ P E {s with heap:=((s.heap.update a (Rp λ_=>#[])).push (S8 "tuple" vs.toArray 0)).push (S8 "list" #[] 0)};generalize hh6:((s.heap.update a (Rp λ_=>#[])).push (S8 "tuple" vs.toArray 0)).push (S8 "list" #[] 0)=h6 at d keep
 dsimp only
 have O:∀(l:List (List Int×Pk)) (y:Array Pl),l.Perm ks->Up (l.map (·.1))->y=(l.map λk=>P4 k.2).toArray->P (.done (.ret .none)) {s with heap:=h6.update a (Rp λ_=>y)}:=λl y p1 p2 e=>by
  refine h _ l _ p1 p2 (by rw[←e];exact get?_update_seq d λ_=>y) λb o X Y=>?_;rw[Sw _ _ _ _ X];exact keep b o X Y
 by_cases I:vs.toArray.size<2
 ·rw[Ps I,Ps I]
  refine My (Pc ?_);rw[StateT.run_pure];refine My (Pc ?_)
  dsimp only
  refine My (seqEpoch_at d rfl ?_);have Z:((arrOf (SortSt.mk' general' (vs.toArray.zip vs.toArray) #[] 7 Pb)).map (·.2))=vs.toArray:=by
   show(vs.toArray.zip vs.toArray).map (·.2)=_;apply Array.toList_inj.mp;rw[Array.toList_map,Array.toList_zip];exact List.map_snd_zip (Pt _)
  rw[Z];refine My (Vm d rfl ?_ (by simp) (by simp[RQ];omega));simp only[SS,PF,Qw];refine Pc (O ks _ (.refl _) ?_ (by rw[q]));have R:ks.length<2:=by rw[←u];simpa using I
  match ks,R with
  |[],_=>exact Vj
  |[k],_=>exact TH _ _
  |_::_::_,R=>simp at R;omega
 ·rw[Po I,Po I]
  have h2':2<=ks.length:=by rw[←u];simp at I;omega
  have H:∀k∈ks,(IKd prog w).is h6 k.1 k.2/\1<=k.1.length:=λk hk'=>by
   obtain⟨⟨o,its,m,h1,h3,h4,h5⟩,R⟩:=hk k hk';refine⟨⟨o,its,m,keep _ _ (λz=>?_) h1,h3,h4,h5⟩,R⟩;rw[z,L]at h1;cases h1;exact P6 (Su.inj h3) (by decide)
  obtain⟨fs,t1,t2,t3⟩:=v4 (s:={s with heap:=h6}) H;rw[q]at t1;refine My (kat_kind (T:= .type "int") t1 (by omega) (λv hv=>?_) rfl ?_)
  ·obtain⟨x,t,rfl⟩:=t3 v hv
   exact Looks.of_pure rfl
  show PN _ _ (StateT.run sortRuns' (SortSt.mk' (tuples' Pe) (vs.toArray.zip vs.toArray) #[] 7 Pb)>>=_) _ _ _;have J:(ks.map (·.1)).length=vs.length:=by rw[Pa,u]
  have at_:∀i,i<vs.length->∃k∈ks,vs.getD i QL= .ref k.2/\(ks.map (·.1)).getD i []=k.1/\ks[i]?=on k:=λi c=>by
   have f:i<ks.length:=by omega
   refine⟨ks[i],Qo f,?_,?_,Pd f⟩
   ·rw[←q,Pf,Pi,Pd f];rfl
   ·rw[Pf,Pi,Pd f];rfl
  refine My (QG (kat_run (κ:=tuples' Pe) (ks:=vs) (vs:=vs) (Q:=λg s'=>s'={s with heap:=h6}/\failedOf g=Pb/\∃p:Array Nat,Pm (ib (ks.map (·.1))) vs.length p/\So (ib (ks.map (·.1))) p vs.length/\arrOf g=p.map (kas_item (vs.toArray.zip vs.toArray)))
   (G:=λp s'=>s'={s with heap:=h6}/\Pm (ib (ks.map (·.1))) vs.length p/\So (ib (ks.map (·.1))) p vs.length) rfl (by omega) (by omega) (λp g s' a1 a2 a3 a4=>⟨a4.1,a3,p,a4.2.1,a4.2.2,a2⟩)
   (Rn.wp (lt:=ltR (ib (ks.map (·.1)))) (n:=vs.length) (λi j c B C hC=>?_) (λp hp=>⟨rfl,hp⟩) (JS (by omega) λi j c B hr=>LC nd (by rw[J];exact c) (by rw[J];exact B) hr))) (λr s' hr=>?_) λ_ _ e=>e)
  ·obtain⟨k1,m1,F,f1,_⟩:=at_ i c
   obtain⟨k2,m2,e2,f2,_⟩:=at_ j B;unfold kas_ask;rw[F,e2];refine Mr (H k1 m1).1 (H k2 m2).1 ?_;have:=za (ks:=ks.map (·.1)) (i:=i) (j:=j) (by rw[J];exact c) (by rw[J];exact B);rw[f1,f2]at this;rw[←this];exact hC
  ·obtain⟨⟨⟩,g⟩:=r
   obtain⟨rfl,hf,p,P1,so,har⟩:=hr
   dsimp only
   have Z:(arrOf g).map (·.2)=(p.toList.map λi=>vs.getD i QL).toArray:=kat_snds rfl har;have U:=P1.sz;rw[Z];refine My (seqEpoch_at d rfl ?_);refine My (Vm d rfl ?_ (by simp) (by simp[RQ];omega));rw[hf];simp only[SS,PF,Qw];have W:∀i∈p.toList,i<vs.length:=λi c=>PY.mp (P1.perm.mem_iff.mp c);refine Pc (O (p.toList.map λi=>ks.getD i ([],0)) _ ?_ ?_ ?_)
   ·refine(P1.perm.map _).trans (VO ?_)
    rw[u];refine RH (by simp) λi q1 q2=>?_;rw[SB,SG,Pf,Pd q2];rfl
   ·rw[Pp]
    unfold Up;rw[UM];refine Si.mpr λi j c B hij=>?_;have f:i<vs.length:=by simpa[U]using c
    have hj':j<vs.length:=by simpa[U]using B
    have gd:∀x (hx:x<p.toList.length),p.getD x 0=p.toList[x]:=λx hx=>by
     have:x<p.size:=by simpa using hx
     simp[Ss,this]
    have z:=so i j hij hj';unfold ky at z;rw[gd i c,gd j B]at z;obtain⟨k1,m1,F,f1,g1⟩:=at_ p.toList[i] (W _ (Qo c));obtain⟨k2,m2,e2,f2,g2⟩:=at_ p.toList[j] (W _ (Qo B));have:=za (ks:=ks.map (·.1)) (i:=p.toList[i]) (j:=p.toList[j]) (by rw[J];exact W _ (Qo c)) (by rw[J];exact W _ (Qo B));rw[PX z,f1,f2]at this;simp only[UA];rw[Pf,Pf,g1,g2];exact this.symm
   ·rw[Pp]
    congr 1;refine P5 λi c=>?_;obtain⟨k1,m1,F,f1,g1⟩:=at_ i (W i c);rw[F];simp only[UA];rw[Pf,g1];rfl
theorem CT{α β:Type}{f:α->β}{vs g:List β}(p:vs.Perm g):∀{xs:List α},g=xs.map f->∃ks:List α,ks.Perm xs/\vs=ks.map f:=by
 induction p with
 |nil=>
  intro xs e;cases xs with
  |nil=>exact⟨[],.refl _,rfl⟩
  |cons _ _=>cases e
 |cons x _ ih=>
  intro xs e;cases xs with
  |nil=>cases e
  |cons a xs=>
   cases e;obtain⟨ks,c,d⟩:=ih rfl;exact⟨a::ks,c.cons a,by rw[d];rfl⟩
 |swap x y l=>
  intro xs e
  match xs,e with
  |[],e=>cases e
  |[_],e=>cases e
  |a::b::xs,e=>
   cases e;exact⟨b::a::xs,.swap _ _ _,rfl⟩
 |trans _ _ ih1 ih2=>
  intro xs e;obtain⟨ks,c,d⟩:=ih2 e;obtain⟨h,i,j⟩:=ih1 d;exact⟨h,i.trans c,j⟩
theorem xz{xs:List (List Int×Pk)}(H:A.handled=Pb)(S:rS prog w s.heap a xs)(I:∀x∈xs,1<=x.1.length)(J:xs.length<64)
  (h:∀(l:Pk) (h':QW) (f v:Nat) (g:List (List Int×Pk)),g.Perm xs->Up (g.map (·.1))->h'.get? l=on (S8 "list" (g.map λk=>P4 k.2).toArray v)->s.heap.objs.size<=l->(∀b o,s.heap.get? b=on o->h'.get? b=on o)->s.toks<=f->Q (.ref l) {s with heap:=h',toks:=f}):
  PN (Qc prog w) A (Wv (.builtin "sorted") [.ref a]) Q E s:=by
 obtain⟨o,es,ep,t,L,y,hd,i,B,N,T,O,j⟩:=S;have C:es.size=xs.length:=by rw[←Ql,i,Pa]
 have R:t.fits es.size=Pe:=T.fits (by rw[Pa,C]);refine Calls.call_function_entry kind_sorted plain_sorted entry_sorted (args_sorted1 _) ?_;unfold Builtin.«sorted»;refine My (m:=checkCount "sorted" 1 1 _) (Pc ?_);refine My (vU H L y.1 hd T R O j (by omega) λp f vs keep q htk pv=>?_);rw[i,Pp]at pv;obtain⟨ks,r,rfl⟩:=CT pv rfl;have U:ks.length=xs.length:=r.length_eq;refine My (wpAny_newList ?_ (by rw[Pa,RQ];omega));have c:∀b d,s.heap.get? b=on d->(p.push (S8 "list" (ks.map λk=>P4 k.2).toArray 0)).get? b=on d:=λb d e=>Ph _ (keep b d e);have u:(p.push (S8 "list" (ks.map λk=>P4 k.2).toArray 0)).get? p.objs.size=on (S8 "list" (ks.map λk=>P4 k.2).toArray 0):=PP _ rfl;show PN _ _ _ _ _ {s with heap:=p.push (S8 "list" (ks.map λk=>P4 k.2).toArray 0),toks:=f};refine My (Re (QB slot_list_sort ⟨_,u,rfl⟩ entry_list_sort (yR u (λk F=>⟨?_,I k (r.mem_iff.mp F)⟩) ((r.map (·.1)).nodup_iff.mpr B) (by omega) λh' g v q1 q2 q3 q4=>⟨_,rfl,?_⟩) (args_list_sort _)))
 ·obtain⟨W,its,m,X,Y,Z,z4⟩:=N k (r.mem_iff.mp F)
  exact⟨W,its,m,c _ _ X,Y,Z,z4⟩
 ·refine Pc ⟨_,rfl,h p.objs.size h' f v g (q1.trans r) q2 q3 q (λb d e=>q4 b d (λz=>?_) (c b d e)) htk⟩
  have:=Qa e;exact P6 (z▸this) (Nat.not_lt.mpr q)
end
end L2.Hs
namespace L2.Hs
open PySem PySem.Spec PyProof.Rows
section
variable{prog:Qf}{w:Qq}
def rT(prog:Qf)(w:Qq)(a:Pk)(xs:List (List Int×Pk))(h:QW):Prop:=
 ∃o es ep t,h.get? a=on o/\o.ExactSet/\o.data= .set es ep t/\(es.toList=xs.map λx=>(hsh prog w x.1,P4 x.2))/\(xs.map (·.1)).Nodup/\(Tb t (xs.map λx=>hsh prog w x.1))/\t.plain=Pe/\t.led=!(w.params.followText "set-order")
noncomputable def mQ(prog:Qf)(w:Qq)(a:Pk)(xs:List (List Int×Pk)):HO:= .ext (rT prog w a xs)
theorem rT.to(S:rT prog w a xs h)(b:∀x∈xs,(IKd prog w).is h x.1 x.2):rS prog w h a xs:=by
 obtain⟨o,es,ep,t,c,d,e,f,g,i⟩:=S;exact⟨o,es,ep,t,c,d,e,f,g,b,i⟩
theorem wb(S:rT prog w a xs h):bO prog w H h a (mQ prog w a xs):=by
 refine⟨S,?_,λb c z k=>?_⟩
 ·obtain⟨o,_,_,_,e,_⟩:=S
  exact⟨o,e⟩
 ·obtain⟨o,es,ep,t,e,r⟩:=z
  exact⟨o,es,ep,t,k _ e,r⟩
theorem DX{k:List Int}:∀{its:List Pl},ay (k.map V.int) its->ItemsAre (Vx prog w) k its:=by
 induction k with
 |nil=>intro its h;cases h;exact .nil
 |cons i k ih=>
  intro its h;cases h with
  |cons a b=>
   obtain⟨t,rfl⟩:=a;exact .cons (by simp[Vx,Xq]) (ih b)
variable{X:Cx}
theorem nC{s:Pr}{k:List Int}(I:Inv X pins σ H s)(h:SqT X.K H b (k.map V.int)):(IKd X.prog X.w).is s.heap k b:=by
 obtain⟨its,a,⟨o,e,c,n,hd⟩,_⟩:=I.tuple h;exact⟨o,its.toArray,n,e,c,hd,DX a⟩
theorem tb0{b:Bool}:Tb (.fresh 0 0 b) []:=⟨.inl rfl,rfl,λi j a b h=>by simp[Yt]at*,λi j h=>by simp[Yt]at h,rfl,by show 0*5<7*3;decide,λi h j c=>by simp at c⟩
theorem rW:∀a:List (List Int×Pk),ay (a.map λz=>V.ref z.2) (a.map λk=>P4 k.2)
 |[]=> .nil
 |_::a=> .cons rfl (rW a)
theorem Ku:Mks X (newSet (.type "set")) λD=>mQ X.prog X.w D []:=λa s c H E Q I h=>by
 unfold newSet setsByText;refine My (My (Uq (Pc ?_)))
 dsimp only
 simp only[newObj];refine My (wpAny_alloc (Pc (h _ (I.laid (t':=s.toks) (λ_ _ q=>Ph _ q) (Pt _) (wb ?_)) λb o e=>Ph _ e)));exact⟨_,#[],0,_,PP _ rfl,⟨rfl,rfl,rfl⟩,rfl,rfl,.nil,tb0,rfl,rfl⟩
def BA(P:Qf)(w:Qq)(K:PZ)(D:Pk)(e:TE):TB:=λd H Q=>e d H λv c=>∃xs k b,c D=on (mQ P w D xs)/\v= .ref b/\SqT K c b (k.map V.int)/\(∀x∈xs,SqT K c x.2 (x.1.map V.int))/\xs.length<63/\
 ∀a,(k∈xs.map (·.1)->a=xs)->(k∉xs.map (·.1)->a.Perm ((k,b)::xs))->Q d (upd c D (mQ P w D a))
theorem uN{D:Pk}(p:X.A.units+1<UY)(L:gens[d+1]?=Pb)(N:PE X elt te)(j:X.xe=λ_ _=>False):PB X (.S elt) gens scope pos d D (BA X.prog X.w X.K D te):=by
 intro a s y H Q I h k Q' E' O;unfold hG;rw[L];show PN _ _ ((do let v ←QS elt X.env;Tz elt.pos;let _ ←Wv (.builtin "set.add") [.ref D,v])>>=λ_=>k) _ _ _
 have c:=N a s y H _ I h;rw[j]at c;refine My (My (QG c (λu g l=>?_) λ_ _ f=>f.elim));obtain⟨v,H1,i,r,xs,R,b,B,rfl,C,J,hn,q⟩:=l;cases r;have S:rT X.prog X.w D xs g.heap:=(i.hok D _ B).1;have T:rS X.prog X.w g.heap D xs:=S.to λx h=>nC i (J x h);obtain⟨o,es,ep,t,U,W,_⟩:=S;refine My (Sf (My (QB F.slot_set_add ⟨o,U,W.1⟩ F.entry_set_add ?_ (F.args_set_add_2 _ _))));unfold Builtin.«set.add» Builtin.Frozenset.oneOther;simp only[List.isEmpty_nil,bind_assoc];unfold Builtin.Frozenset.addrOf setAdd;refine My (Pc ?_)
 try dsimp only
 refine My (Pc ?_)
 try dsimp only
 refine My (Re (My ((IKd X.prog X.w).pyHash p (nC i C) ?_)));refine NW (s:={g with toks:=g.toks+(IKd X.prog X.w).draws R}) p T (nC (s:=g) i C) hn λh' m Y Z c1 c2=>?_;show PN _ _ (ret QL) _ _ _;refine Pc ⟨_,rfl,Pc (O _ y _ (i.write (by rw[B];trivial) (.inl rfl) (λb u n e=>(Y.2 b n).trans e) ?_ (wb ?_)) (q m c1 c2))⟩
 all_goals obtain⟨o,es,ep,t,c,l,h3,h4,h5,J,h6⟩:=Z
 ·exact⟨o,c⟩
 ·exact⟨o,es,ep,t,c,l,h3,h4,h5,h6⟩
def lU(c:Pk->HO)(vars:List Qn)(caps:List Nat)(d:TI)(e:Pk->It->TB):TE:=λa H Q=>d a H λJ b=>∀D,b D=Pb->e D J (kG vars caps a) (upd b D (c D)) λ_ f=>Q (.ref D) f
theorem Kc{d a b:Expr}{f:List Expr}{rest:List Rm}{scope:Scope}{pos:Uj}{j vars:List Qn}{caps:List Nat}{g:TG}{tt:TT}{o:Pk->TB}{p:TI}(r:X.calm=Pe)(S:CmpScope X scope j vars caps)(t:PI X a b p)
  (u:∀(cl:List (Qn×Pk)) (C:Pk) (k:List Pk) (s:Pr) (H:Hp),PG (aI X j scope cl C k s H) a g/\dU (aI X j scope cl C k s H) f tt/\∀D,PB (aI X j scope cl C k s H) (.S d) (⟨a,b,f,0⟩::rest) scope pos 0 D (o D))
  (hs:∀x,QA b X.env x=RZ x:=by intro _;rfl):PE X (.SetComp d (⟨a,b,f,0⟩::rest) scope pos) (lU (λD=>mQ X.prog X.w D []) vars caps p λD J=>di J g tt (o D)):=by
 intro i s y H Q I h;refine SE (use:=Pb) rfl hs (S.clo I.ok) S.kind S.loc (QG (t i s y H _ I h) (λv Y B=>QG B (λF Z L=>?_) λ_ _ x=>x) λ_ _ x=>x);obtain⟨it,k,tn,J,H2,e,N,T,l,f2,q⟩:=L;subst e;refine g9 (c:= .S d) Ku (RR:=λacc C=>Xu (Qc X.prog X.w) X.A X.xe Pb _ acc C) r S u N T l f2 q λD C s' O m R ns U W=>?_;exact⟨m,ns,λh' n=>⟨.ref D,O,R.letgo U n,rfl,W⟩⟩
def wk(P:Qf)(w:Qq)(K:PZ):List V->Hp->VK->Prop:=λxs H Q=>∃a ys,xs=[.ref a]/\H a=on (mQ P w a ys)/\(∀x∈ys,SqT K H x.2 (x.1.map V.int)/\1<=x.1.length)/\ys.length<64/\
 ∀(l:Pk) (b:List (List Int×Pk)),H l=Pb->b.Perm ys->Up (b.map (·.1))->Q (.ref l) (upd H l (.lst (b.map λz=>V.ref z.2)))
theorem vV(e:X.calm=Pe):dI X (.builtin "sorted") (wk X.prog X.w X.K):=by
 intro c s m H xs us Q I r h;obtain⟨a,ys,rfl,ha,d,hn,q⟩:=h;obtain⟨u,rfl,rfl⟩:=kO r;have S:rT X.prog X.w a ys s.heap:=(I.hok a _ ha).1;refine xz (I.ok.hd e) (S.to λx h=>nC I (d x h).1) (λx h=>(d x h).2) hn λl h' f g b p i j hs keep n=>?_;refine⟨.ref l,_,I.laid (t':=f) (o:= .lst (b.map λz=>V.ref z.2)) keep hs ⟨?_,b.map λk=>P4 k.2,g,?_,j⟩,rfl,q l b (I.hok.fresh hs) p i⟩
 ·rw[Pa,p.length_eq,RQ];omega
 ·exact rW b
end
end L2.Hs
namespace L2.Pu
open PySem PySem.Spec PyProof.Rows L2.Hs
def gZ(nv:Nat)(caps:List Nat)(it:FL)(tg:TgF)(tt:Dn->M Bool)(b:FL)(a:List D->Option D):FD:=λδ β=>match it δ β with
 |none=>Pb
 |some (.error C,β1)=>on (.error C,β1)
 |some (.ok ds,β1)=>match cLp tg tt b ds (cSt nv caps δ) β1 with
  |some (.ok os,β2)=>(a os).map λd=>(.ok d,β2)
  |_=>Pb
section
variable{K:PZ}{E:St->XK}
theorem rZ{R:AR}{p:Pk->HO}{c:List D->Option D}{vars:List Qn}{caps:List Nat}{it:FL}{g:TG}{tg:TgF}{tt:Dn->M Bool}{T:Pk->TB}{b:FL}(hg:cS K g tg)(sg:dS tg)(hb:∀D,ff K R D (T D) b)
  (r0:∀F H D,R.R F (upd H D (p D)) D []) (hp:∀os d,c os=on d->R.Z os) {U:St} {H:Hp} {Q W:VK} (h:tV K (gZ vars.length caps it tg tt b c) E U H W)
  (k:∀F B f D os d,Fr F B f->¬F.A D->R.R F B D os->c os=on d->(∀v j,To F B j f->Den K F j d v->W v j)->Q (.ref D) B):
  lU p vars caps (iV K it E) (λD J=>di J g (tVT K tt E0) (T D)) U H Q:=by
 obtain⟨F,δ,β,fr,X,r,f,e,h⟩:=h;unfold gZ at e;refine⟨F,δ,β,fr,X,?_⟩;split at e
 ·cases e
 ·rename_i C β1 q
  cases e;exact⟨.error C,_,q,h⟩
 ·rename_i ds β1 q
  split at e
  ·rename_i os β2 q2
   cases hd:c os with
   |none=>rw[hd]at e;cases e
   |some d=>
    rw[hd]at e;cases e;refine⟨.ok ds,β1,q,λJ I t hJ D m=>?_⟩;have i:¬F.A D:=t.fr.fresh m;have nb:∀b l,F.bg=on (b,l)->D≠b/\D≠l:=λb l z=>⟨λw=>i (w▸(fr.bgA b l z).1),λw=>i (w▸(fr.bgA b l z).2.1)⟩;have Y:=t.fr.upd (p D) m;have L:Fr ⟨λa=>F.A a\/a=D,F.bg⟩ (upd I D (p D)) β1:=by
     refine⟨λa ha z=>?_,λb l z=>let ⟨x,y,w⟩:=fr.bgA b l z;⟨.inl x,.inl y,w⟩,Y.fr.bag⟩
     rcases ha with ha|ha
     ·exact Y.fr.occ a ha z
     ·subst ha;rw[ar]at z;cases z
    have u:Tr F I ⟨λa=>F.A a\/a=D,F.bg⟩ (upd I D (p D)):=⟨λa ha hs z=>by
     rcases z with z|z
     ·exact ha z
     ·subst z;exact hs m,λa o ha z=>by rw[upd_ne (aB z m)];exact z,rfl⟩
    refine nu (R:=R) (D:=D) (as:=[]) (os:=os) hg sg (hb D) L (.inr rfl) nb (qA (X.tr ((t.tr fr).trans u))) (r0 _ _ _) (hJ.tr u) q2 (hp os d hd) λσ1 j N vk3 O=>?_;have tf:To F I j f:=by
     refine⟨λa o z n=>N.kp a o (by rw[upd_ne (aB z m)];exact z) (aB z m) n,λa ha z=>N.fr.occ a (Ru ha) z,fr.bgA,N.fr.bag⟩
    exact k F j f D os d tf.fr i (R.tr (F:=⟨λa=>F.A a\/a=D,F.bg⟩) O (λ_ z=>z) ⟨λa ha _ z=>ha (Ru z),λa o _ z=>z,rfl⟩) hd λv H3 t4 hv=>h v H3 ((t.trans tf).trans t4) hv
  ·cases e
noncomputable abbrev tpI(k:List Int):D:= .tup (k.map .int)
theorem rK{k:List Int}(h:Den K F H (tpI k) v):∃b,v= .ref b/\SqT K H b (k.map V.int):=by
 obtain⟨a,xs,rfl,sq,c⟩:=Den.sqT h;cases DenL.ints k c;exact⟨a,rfl,sq⟩
theorem gA(h:tpI k=tpI l):k=l:=by
 injection h with h
 exact VM (λa b z=>by injection z)|>.mp h
theorem ml{α:Type} [BEq α] [LawfulBEq α]:∀{l m:List α},l.Nodup->(∀x∈l,x∈m)->l.length<=m.length
 |[],_,_,_=>QV _
 |a::l,m,nd,h=>by
  obtain⟨c,d⟩:=Qu.mp nd;have:=ml (m:=m.erase a) d λx b=>(List.mem_erase_of_ne (λ(z:x=a)=>c (z▸b))).mpr (h x (Pg a b));rw[List.length_erase_of_mem (h a Pn)]at this;have:=List.length_pos_of_mem (h a Pn);rw[Pz];omega
noncomputable def RS(P:Qf)(w:Qq)(K:PZ):AR where
 R:=λF H D as=>∃xs,H D=on (mQ P w D xs)/\(xs.map (·.1)).Nodup/\(∀x∈xs,Den K F H (tpI x.1) (.ref x.2)/\tpI x.1∈as)/\∀d∈as,∃k∈xs.map (·.1),d=tpI k
 Z:=λl=>∃ks:LI,ks.length<63/\∀d∈l,∃k∈ks,d=tpI k
 tr:=λh k t=>by
  obtain⟨xs,a,b,c,f⟩:=h;exact⟨xs,k _ a,b,λx e=>⟨Den.tr t _ _ (c x e).1,(c x e).2⟩,f⟩
 zp:=λh=>by
  obtain⟨ks,a,b⟩:=h;exact⟨ks,a,λd hd=>b d (Sn _ hd)⟩
theorem DR{P:Qf}{w:Qq}{D:Pk}:ff K (RS P w K) D (BA P w K D (tV K f E0)) (cEm f):=λF H δ β u R as os Q fr T A J U e W k=>by
 obtain⟨xs,X,nd,j,ha⟩:=U;obtain⟨d,β1,Y,Z⟩:=M.bind_inv e;cases Z;refine⟨F,δ,β,fr,J,E0.run Y λv B t L=>?_⟩;have C:=t.kp D _ X A;obtain⟨ks,z1,N⟩:=W;obtain⟨r,hk',rfl⟩:=N d (Qt _ Pn);obtain⟨b,rfl,sq⟩:=rK L;have c:∀x∈xs,Den K F B (tpI x.1) (.ref x.2):=λx h=>Den.tr (t.tr fr) _ _ (j x h).1;have g:xs.length<63:=by
  have:=ml (m:=ks) nd λx I=>by
   obtain⟨y,hy,rfl⟩:=PD.mp I;obtain⟨l,hl,e⟩:=N _ (Sn _ (j y hy).2);rw[gA e];exact hl
  rw[Pa]at this;omega
 refine⟨xs,r,b,C,rfl,sq,λx h=>?_,g,λi c1 c2=>?_⟩
 ·obtain⟨b',e,q⟩:=rK (c x h)
  cases e;exact q
 have O:ToD F D B (upd B D (mQ P w D i)) u:=by
  refine⟨λa o h n _=>by rw[upd_ne n];exact h,λa h q=>?_,fr.bgA,λb l q=>?_⟩
  ·by_cases z:a=D
   ·subst z;rw[ar]at q;cases q
   ·rw[upd_ne z]at q;exact t.fr.occ a h q
  ·rw[upd_ne (A b l q).1.symm,upd_ne (A b l q).2.symm]
   exact t.fr.bag b l q
 have tt:=O.tr t.fr T;refine k R _ ((t.toD D).trans O) (J.tr ((t.tr fr).trans tt)) ⟨i,ar,?_⟩;by_cases hm:r∈xs.map (·.1)
 ·cases c1 hm
  refine⟨nd,λx h=>⟨Den.tr tt _ _ (c x h),Sn _ (j x h).2⟩,λd hd=>?_⟩;rcases Rj.mp hd with hd|hd
  ·exact ha d hd
  ·exact⟨r,hm,Qi.mp hd⟩
 ·have p:=c2 hm
  refine⟨(p.map (·.1)).nodup_iff.mpr (Qu.mpr ⟨hm,nd⟩),λx h=>?_,λd hd=>?_⟩
  ·rcases PL.mp (p.mem_iff.mp h)with rfl|h
   ·exact⟨Den.tr tt _ _ L,Qt _ Pn⟩
   ·exact⟨Den.tr tt _ _ (c x h),Sn _ (j x h).2⟩
  ·rcases Rj.mp hd with hd|hd
   ·obtain⟨k2,h2,e⟩:=ha d hd
    exact⟨k2,(p.map (·.1)).mem_iff.mpr (Pg _ h2),e⟩
   ·exact⟨r,(p.map (·.1)).mem_iff.mpr Pn,Qi.mp hd⟩
def Srt(ks:LI)(os:List D):Prop:=Up ks/\ks.length<63/\(∀k∈ks,1<=k.length/\tpI k∈os)/\∀d∈os,∃k∈ks,d=tpI k
theorem Srt.eq{os:List D}(a:Srt ks os)(b:Srt ls os):ks=ls:=xp a.1 b.1 λx=>⟨λh=>by
 obtain⟨l,c,e⟩:=b.2.2.2 _ (a.2.2.1 x h).2;rw[gA e];exact c,λh=>by
 obtain⟨l,c,e⟩:=a.2.2.2 _ (b.2.2.1 x h).2;rw[gA e];exact c⟩
open Classical in
def kS(os:List D):Option D:=if h:∃ks,Srt ks os then on (.lst (h.choose.map tpI))else Pb
theorem CC{ks:LI}{os:List D}(h:Srt ks os):kS os=on (.lst (ks.map tpI)):=by
 have q:∃ks,Srt ks os:=⟨ks,h⟩;unfold kS;rw[dif_pos q,q.choose_spec.eq h]
theorem sj{os:List D}(h:kS os=on d):∃ks,Srt ks os/\d= .lst (ks.map tpI):=by
 unfold kS at h;split at h
 ·rename_i q
  cases h;exact⟨_,q.choose_spec,rfl⟩
 ·cases h
theorem sN:∀{a:List (List Int×Pk)},(∀z∈a,Den K F H (tpI z.1) (.ref z.2))->DenL K F H ((a.map (·.1)).map tpI) (a.map λz=>V.ref z.2)
 |[],_=>DenL.nil
 |z::a,h=>DenL.cons (h z Pn) (sN λx b=>h x (Pg z b))
end
section
variable{X:Cx}{E:St->XK}{elt target iter:Expr}{ifs:List Expr}{rest:List Rm}{scope:Scope}{pos p pos':Uj}{Nc vars:List Qn}{caps:List Nat}{g:TG}{tb:Pk->TB}
theorem BR(i:Gl X "sorted")(hm:X.mg "sorted"=Pb)(o:X.calm=Pe)(S:CmpScope X scope Nc vars caps)(r:PI X target iter (iV X.K it E))
  (t:∀(cl:List (Qn×Pk)) (C:Pk) (j:List Pk) (s:Pr) (H:Hp),PG (aI X Nc scope cl C j s H) target g/\dU (aI X Nc scope cl C j s H) ifs (tVT X.K tt E0)/\∀D,PB (aI X Nc scope cl C j s H) (.S elt) (⟨target,iter,ifs,0⟩::rest) scope pos 0 D (tb D))
  (u:cS X.K g tg) (A:dS tg) (B:∀D,ff X.K (RS X.prog X.w X.K) D (tb D) b) (hs:∀x,QA iter X.env x=RZ x:=by intro _;rfl):
  PE X (.Call (.Name "sorted" p) [.SetComp elt (⟨target,iter,ifs,0⟩::rest) scope pos] [] pos') (tV X.K (gZ vars.length caps it tg tt b kS) E):=
 (k6 (vV o) i hm (by kernel_rfl) (ft (Kc o S r t hs) iY)).imp λZ H Q h=>by
  refine rZ (Q:=λv I=>wk X.prog X.w X.K [v] I Q) u A B (λF H D=>⟨[],ar,.nil,λx a=>P6 a (by simp),λd hd=>P6 hd (by simp)⟩) (λos d e=>?_) h λF H' J D os d fr L N e q=>?_
  ·obtain⟨ks,s,_⟩:=sj e
   exact⟨ks,s.2.1,s.2.2.2⟩
  ·obtain⟨ks,s,rfl⟩:=sj e
   obtain⟨xs,O,nd,a,ha⟩:=N;have k:∀x∈xs,x.1∈ks:=λx h=>by
    obtain⟨l,f,e⟩:=s.2.2.2 _ (a x h).2;rw[gA e];exact f
   have hn:xs.length<64:=by
    have:=ml (m:=ks) nd λy c=>by
     obtain⟨x,h,rfl⟩:=PD.mp c;exact k x h
    rw[Pa]at this;have:=s.2.1;omega
   refine⟨D,xs,rfl,O,λx h=>?_,hn,λl R f n T=>?_⟩
   ·obtain⟨b',e,q⟩:=rK (a x h).1
    cases e;exact⟨q,(s.2.2.1 _ (k x h)).1⟩
   ·have U:ks=R.map (·.1):=xp s.1 T λy=>by
     refine⟨λc=>?_,λc=>?_⟩
     ·obtain⟨k2,W,e⟩:=ha _ (s.2.2.1 y c).2
      rw[gA e];exact(n.map (·.1)).mem_iff.mpr W
     ·obtain⟨x,h,rfl⟩:=PD.mp ((n.map (·.1)).mem_iff.mp c)
      exact k x h
    rw[U]at q;exact q _ _ (fr.upd _ f) (Den.newL fr f (sN λz Y=>(a z (n.mem_iff.mp Y)).1))
end
end L2.Pu
namespace L2.Hs
open PySem PySem.Spec PyProof.Rows
section
variable{prog:Qf}{w:Qq}{A:QP}{E:Pl->Pr->Prop}{s:Pr}
def IsP(prog:Qf)(w:Qq)(h:QW)(k:KyD)(a:Pk):Prop:=∃o n t b,h.get? a=on o/\o.cls= .type "tuple"/\o.data= .seq #[.int k.1 t,.ref b] n/\(IKd prog w).is h k.2 b
theorem IsP.ty(x:IsP prog w s.heap k a):s.TypeIs (.ref a) "tuple":=let ⟨o,_,_,_,ho,hc,_⟩:=x;⟨o,ho,hc⟩
theorem IsP.inj(f:IsP prog w h x a)(g:IsP prog w h y a):x=y:=by
 obtain⟨o,n,t,b,i,_,hd,j⟩:=f;obtain⟨k,p,t',q,d,_,c,e⟩:=g;obtain rfl:o=k:=Qd (i.symm.trans d);rw[hd]at c;simp only[Data.seq.injEq,Array.mk.injEq,S9,S7.injEq,P4.injEq]at c;obtain⟨⟨⟨l,_⟩,m,_⟩,_⟩:=c;subst m;exact Tt l ((IKd prog w).inj j e)
theorem ME(k:List Int):hsh prog w k=hI k:=by unfold hsh hI;show tupleKeyHash _ _=_;unfold tupleKeyHash;rfl
theorem MF{k:KyD}(g:A.units+1<UY)(f:IsP prog w s.heap k a)(h:Q (hB Pe k) {s with toks:=s.toks+(k.2.length+3)}):PN (Qc prog w) A (pyHash (.ref a)) Q E s:=by
 have c:=f.ty;obtain⟨o,n,t,b,i,_,hd,j⟩:=f;unfold pyHash
 first|unfold pyHashByItsType|skip
 refine My (wpAny_cRoomFor_or (.inr (by omega)) ?_);refine My (Sv c F.slot_tuple_hash.lookup ?_);show PN _ _ (if(on (Value.builtin "tuple.__hash__")==on QL)=Pe then _ else _) Q E s;rw[Po (by rw[beq_builtin_none];exact Pw)];refine My (Sv c F.slot_tuple_hash.lookup ?_);show PN _ _ (callSpecialIfBoundUnlessNone? (.ref a) "__hash__" _>>=_) Q E s;refine My (wpAny_callSpecialIfBoundUnlessNone?_slot c F.slot_tuple_hash (QB F.slot_tuple_hash c F.entry_tuple_hash ?_ (F.args_tuple_hash_1 _)));show PN _ _ (Builtin.Tuple.tupleItemsOf (.ref a)>>=_) _ _ s;refine My (Wg i hd ?_);refine My ?_;rw[←Tu];simp only[SO,S3];refine My (My (wpAny_pyHash_int ?_));refine Pc (My (My ((IKd prog w).pyHash g j ?_)));refine Pc (Pc ?_);have h':Q (hB Pe k) {s with toks:=s.toks+1+(k.2.length+1)+1}:=by
  have e:s.toks+1+(k.2.length+1)+1=s.toks+(k.2.length+3):=by omega
  rw[e];exact h
 refine wpAny_ret_mkInt ?_;generalize l:T4 _=z;have m:hB Pe k=reduceHash z:=by rw[←l,show(IKd prog w).hash k.2=hI k.2 from ME k.2];rfl
 rw[m]at h';show PN _ _ (if(decide (-(2:Int)^63<=z)&&decide (z<2^63))=Pe then _ else _) Q E _;unfold reduceHash at h';by_cases d:(decide (-(2:Int)^63<=z)&&decide (z<2^63))=Pe
 ·rw[Ps d]
  rw[Ps d]at h';exact Pc h'
 ·rw[Po d]
  rw[Po d]at h';exact My (Tl (Pc h'))
theorem eq_p(q:A.units+1<UY)(d:IsP prog w s.heap x a)(f:IsP prog w s.heap y b)(h:Q (decide (x=y)) s):PN (Qc prog w) A (eqBool (.ref a) (.ref b)) Q E s:=by
 unfold eqBool
 try with_reducible refine Re ?_
 show PN _ _ (if(P4 a==P4 b)=Pe then _ else _) Q E s;by_cases c:(P4 a==P4 b)=Pe
 ·rw[Ps c]
  have e:a=b:=by have:=eq_of_beq c;injection this
  subst e;obtain rfl:=d.inj f;exact My (Tl (Pc (by simpa using h)))
 ·rw[Po c]
  refine My (wpAny_richCompare_same_room (op:= .Eq) d.ty f.ty F.slot_tuple_eq
   (QB F.slot_tuple_eq d.ty F.entry_tuple_eq ?_ (F.args_tuple_eq_2 _ _)) (by omega))
  have j:=f.ty;obtain⟨r,t,u,v,k,_,l,m⟩:=d;obtain⟨B,C,H,I,n,_,o,p⟩:=f;show PN _ _ (Wd (.ref b) (.type "tuple")>>=_) _ _ s;refine My (Sg j VJ ?_);simp only[Q6,PF,Qw];refine My (Wg k l ?_);refine My (Wg n o ?_);refine My ?_;simp only[RN,VZ,SO,S3];refine My (My ((Vx prog w).eqBool (a:=x.1) (b:=y.1) (by simp[Vx,Xq]) (by simp[Vx,Xq]) ?_));by_cases g:x.1=y.1
  ·rw[PX g]
   refine Pc (My (My ((IKd prog w).eqBool q m p ?_)));by_cases i:x.2=y.2
   ·rw[PX i]
    rw[PX (Tt g i)]at h;exact Pc (Pc (Pc ⟨_,rfl,(λe=>nomatch e),QT h⟩))
   ·rw[Qp i]
    rw[Qp (λe=>i (QN _ e))]at h;exact My (Pc (Pc (Pc (Pc ⟨_,rfl,(λe=>nomatch e),QT h⟩))))
  ·rw[Qp g]
   rw[Qp (λe=>g (QN _ e))]at h;exact My (Pc (Pc (Pc (Pc ⟨_,rfl,(λe=>nomatch e),QT h⟩))))
theorem J5(f:(IKd prog w).is s.heap k a)(h:Q Pe s):PN (Qc prog w) A (Yw (m+1) (.ref a)) Q E s:=by
 have g:=W2 f;obtain⟨o,c,n,i,_,hd,j⟩:=f;unfold Yw;refine My (Sv g F.slot_tuple_eq.lookup ?_);show PN _ _ (Wd (.ref a) (.type "tuple")>>=_) _ _ s;refine My (Sg g VJ ?_);simp only[Q6,PF,Qw];refine My (Rz i hd ?_);refine My ?_;show PN _ _ (forIn c _ _) _ _ s;rw[←Tu];refine Vr _ (λrest r s'=>r.1=Pb/\s'=s/\∀v∈rest,carriedByValue v=Pe) _ ?_ ?_ _ _ ⟨rfl,rfl,j.byValue⟩
 ·rintro v rest r s' ⟨d,rfl,b⟩
  rw[eqIsQuiet_byValue _ (b v Pn)];refine My (Pc ?_);simp only[Q6,PF,Qw];exact Pc ⟨rfl,rfl,λu e=>b u (Pg _ e)⟩
 ·rintro⟨r1,l⟩ s' ⟨d,rfl,_⟩
  simp only at d;subst d;exact Pc h
theorem J6(c:IsP prog w s.heap k a)(h:Q Pe s):PN (Qc prog w) A (Yw 8 (.ref a)) Q E s:=by
 have d:=c.ty;obtain⟨o,n,t,b,e,_,hd,f⟩:=c;unfold Yw;refine My (Sv d F.slot_tuple_eq.lookup ?_);show PN _ _ (Wd (.ref a) (.type "tuple")>>=_) _ _ s;refine My (Sg d VJ ?_);simp only[Q6,PF,Qw];refine My (Rz e hd ?_);refine My ?_;show PN _ _ (forIn #[S7 k.1 t,P4 b] _ _) _ _ s;rw[←Tu];simp only[SO,S3];rw[eqIsQuiet_byValue _ (v:= .int k.1 t) rfl];exact My (My (Pc (Pc (My (My (J5 (m:=6) f (Pc (Pc (Pc h)))))))))
def PKd(prog:Qf)(w:Qq):HeapKind prog w KyD where
 is:=IsP prog w
 hash:=hB Pe
 draws:=λk=>k.2.length+3
 room:=λA=>A.units+1<UY
 inj:=λd e=>d.inj e
 keeps:=λx i hd hs=>by
  obtain⟨j,n,t,b,c,l,a,m⟩:=x;refine⟨j,n,t,b,(hs.2 _ ?_).trans c,l,a,(IKd prog w).keeps m i hd hs⟩;rintro rfl;obtain rfl:=Qd (c.symm.trans i);rw[hd]at a;exact nomatch a
 pyHash:=λf g h=>MF f g h
 eqBool:=λf d e h=>eq_p f d e h
 quiet:=λg h=>J6 g h
def FKd(prog:Qf)(w:Qq):HeapKind prog w KyD where
 is:=λh k a=>k.1=0/\(IKd prog w).is h k.2 a
 hash:=hB Pj
 draws:=λk=>k.2.length+1
 room:=λA=>A.units+1<UY
 inj:=λc d=>Tt (c.1.trans d.1.symm) ((IKd prog w).inj c.2 d.2)
 keeps:=λx i hd hs=>⟨x.1,(IKd prog w).keeps x.2 i hd hs⟩
 pyHash:=λf g h=>(IKd prog w).pyHash (Nat.lt_of_succ_lt f) g.2 h
 eqBool:=λ{A E s x y a b Q} f c d h=>(IKd prog w).eqBool (Nat.lt_of_succ_lt f) c.2 d.2 (by
  have e:decide (x.2=y.2)=decide (x=y):=by
   by_cases q:x.2=y.2
   ·rw[PX q,PX (Tt (c.1.trans d.1.symm) q)]
   ·rw[Qp q,Qp (λz=>q (QN _ z))]
  rw[e];exact h)
 quiet:=λg h=>(IKd prog w).quiet g.2 h
def KB(prog:Qf)(w:Qq):Bool->HeapKind prog w KyD
 |true=>PKd prog w
 |false=>FKd prog w
theorem wK{b:Bool}:(KB prog w b).hash=hB b:=by cases b<;>rfl
theorem ny{b:Bool}{A:QP}(h:A.units+1<UY):(KB prog w b).room A:=by cases b<;>exact h
def KyS(K:PZ)(H:Hp):Bool->KyD->Pk->Prop
 |true,k,c=>∃e,SqT K H c [.int k.1,.ref e]/\SqT K H e (k.2.map V.int)
 |false,k,c=>k.1=0/\SqT K H c (k.2.map V.int)
abbrev XY(x:KyD×Pk×V)(y:KyD×Pk×Pl):Prop:=x.1=y.1/\x.2.1=y.2.1/\aQ x.2.2 y.2.2
theorem qG:∀{xs:List (KyD×Pk×V)} {ys:List (KyD×Pk×Pl)},Wa XY xs ys->xs.map (·.1)=ys.map (·.1)
 |_,_,.nil=>rfl
 |_,_,.cons h t=>by rw[Py,Py,h.1,qG t]
theorem yt:∀{xs:List (KyD×Pk×V)} {ys:List (KyD×Pk×Pl)},Wa XY xs ys->∀y∈ys,∃x∈xs,XY x y
 |_,_,.nil,y,h=>by cases h
 |_,_,.cons (a:=a) h t,y,hy=>by
  rcases PL.mp hy with rfl|hy
  ·exact⟨a,Pn,h⟩
  ·obtain⟨x,b,e⟩:=yt t y hy
   exact⟨x,Pg _ b,e⟩
noncomputable def lkV(xs:List (KyD×Pk×V))(k:KyD):Option V:=(xs.find? λx=>decide (x.1=k)).map (·.2.2)
theorem mT:∀{xs:List (KyD×Pk×V)} {ys:List (KyD×Pk×Pl)},Wa XY xs ys->il (lkV xs k) ((WZ ys k).map (·.2))
 |_,_,.nil=>by simp[lkV,WZ,il]
 |_,_,.cons (a:=a) (b:=b) h t=>by
  have ih:=mT (k:=k) t;unfold lkV WZ at ih⊢;rw[SN,SN,←h.1];by_cases q:a.1=k
  ·rw[PX q];exact h.2.2
  ·rw[Qp q];exact ih
theorem vW(h:XY x y):∀{xs:List (KyD×Pk×V)} {ys:List (KyD×Pk×Pl)},Wa XY xs ys->Wa XY (xs++[x]) (ys++[y])
 |_,_,.nil=> .cons h .nil
 |_,_,.cons h' t=> .cons h' (vW h t)
variable{X:Cx}{pins:List (Pk×Qb)}{σ:St}{H:Hp}
theorem qh{b:Bool}(I:Inv X pins σ H s)(h:KyS X.K H b k c):(KB X.prog X.w b).is s.heap k c:=by
 cases b with
 |true=>
  obtain⟨e,a,d⟩:=h;obtain⟨its,f,⟨o,g,i,n,hd⟩,_⟩:=I.tuple a;obtain⟨j,l,rfl,⟨t,rfl⟩,rfl⟩:=tz f;exact⟨o,n,t,e,g,i,hd,nC I d⟩
 |false=>exact⟨h.1,nC I h.2⟩
theorem big{pins:List (Pk×Qb)}{σ:St}{H:Hp}{s:Pr}(I:Inv X pins σ H s):We<s.heap.objs.size:=Uy (by decide) (show RP<s.heap.objs.size from(I.mod.glob.keeps I.bk).lt)
theorem mD{b:Bool}(I:Inv X pins σ H s)(d:H a=on (dW a b ep xs))(e:∀x∈xs,KyS X.K H b x.1 x.2.1):∃ys,s.heap.DictOfH (KB X.prog X.w b) a ys/\Wa XY xs ys/\ys.length<=PQ/\(a==We)=Pj:=by
 obtain⟨o,es,ys,f,g,h,i,j,k,l,c⟩:yp a b ep xs s.heap:=(I.hok a _ d).1;refine⟨ys,⟨o,es,ep,f,g,h,?_,λy m=>?_,j⟩,c,l,k⟩
 ·rw[i];unfold entryOfKey;rw[wK]
 ·obtain⟨x,n,p,q,_⟩:=yt c y m
  rw[←p,←q];exact qh I (e x n)
def LK(K:PZ):R2:=λx y H Q=>∃a b ep xs k c v,x= .ref a/\y= .ref c/\H a=on (dW a b ep xs)/\(∀x∈xs,KyS K H b x.1 x.2.1)/\KyS K H b k c/\lkV xs k=on v/\Q v H
theorem z9(l:X.A.units+2<UY):IxR X (LK X.K):=by
 intro g i pins s σ H x y v u Q I m n h hs;obtain⟨a,b,ep,xs,k,c,o,rfl,rfl,t,B,C,J,q⟩:=h;cases m;cases n;obtain⟨ys,d,p,_,_⟩:=mD I t B;have f:=mT (k:=k) p;rw[J]at f;cases e:WZ ys k with
 |none=>rw[e]at f;exact f.elim
 |some r=>
  rw[e]at f;exact Vy (x:=r.2) d.typeIs PySem.F.slot_dict_getitem.lookup (wpAny_getItem_heap (Q:=λj s'=>j=r.2/\EP X pins σ Q j s') (ny l) (qh I C) d e ⟨rfl,o,H,I.tok _,f,q⟩) hs
theorem uV{b:Bool}:Mks X newDict λD=>dW D b 0 []:=λpins s σ H E Q I h=>Q0 (h _ (I.laid (t':=s.toks) (λ_ _ q=>Ph _ q) (Pt _) (w5 ⟨_,#[],[],PP _ rfl,⟨rfl,rfl,rfl⟩,rfl,rfl,.nil,beq_eq_false_iff_ne.mpr (Ne.symm (QE (big I))),QV _,.nil⟩)) λb o e=>Ph _ e)
def BB(K:PZ)(b:Bool)(D:Pk)(e f:TE):TB:=λσ H Q=>e σ H λx g=>f σ g λy a=>∃ep xs k c,x= .ref c/\a D=on (dW D b ep xs)/\(∀x∈xs,KyS K a b x.1 x.2.1)/\KyS K a b k c/\k∉xs.map (·.1)/\xs.length<PQ/\∀d,Q σ (upd a D (dW D b d (xs++[(k,c,y)])))
theorem k8{D:Pk}{b:Bool}(L:X.A.units+1<UY)(N:gens[d+1]?=Pb)(O:PE X ke tk)(R:PE X ve tv)(a:X.xe=λ_ _=>False):PB X (.D ke ve) gens scope pos d D (BB X.K b D tk tv):=by
 intro pins s σ H Q I h k Q' E' T;unfold hG;rw[N];show PN _ _ (emC (.D ke ve) (.ref D) X.env>>=λ_=>k) _ _ _;unfold emC;have t:=O pins s σ H _ I h;rw[a]at t;refine My (My (QG t (λu U W=>?_) λ_ _ f=>f.elim));obtain⟨v,Y,Z,r,q1⟩:=W;have B:=R pins U σ Y _ Z q1;rw[a]at B;refine My (Re (QG B (λu2 s2 h4=>?_) λ_ _ f=>f.elim));obtain⟨v2,H2,i,r2,ep0,xs,j,c,rfl,C,hx,hc,hn,hl,q⟩:=h4;cases r;obtain⟨ys,dd,p,hz,l⟩:=mD i C hx;have F:=qG p;have e0:WZ ys j=Pb:=by
  cases e:WZ ys j with
  |none=>rfl
  |some r=>
   exfalso
   unfold WZ at e;cases m:ys.find? (λx=>decide (x.1=j))with
   |none=>rw[m]at e;cases e
   |some y=>
    have:=List.find?_some m;exact hn (by rw[F];exact PD.mpr ⟨y,List.mem_of_find?_eq_some m,Sk this⟩)
 refine My (Sf (Re (wpAny_dictSet_heap (ny L) (qh i hc) dd (λh' d' sb=>?_) hz)));rw[storedH_new e0]at d';obtain⟨o,es,ep,J,g2,g3,g4,g5,g6⟩:=d';have g:ys.length=xs.length:=by rw[←Pa (f:=(·.1)),←F,Pa]
 refine T _ σ _ (i.write (by rw[C];trivial) (.inl rfl) (λb u n e=>(sb.2 b n).trans e) ⟨o,J⟩ (w5 ⟨o,es,_,J,g2,g3,?_,g6,l,?_,vW ⟨rfl,rfl,r2⟩ p⟩)) (q ep)
 ·rw[g4];unfold entryOfKey;rw[wK]
 ·rw[PM,g,QC];omega
theorem CY{b:Bool}{k l a d:Expr}{f:List Expr}{rest:List Rm}{scope:Scope}{pos:Uj}{i vars:List Qn}{caps:List Nat}{g:TG}{tt:TT}{p:Pk->TB}{r:TI}(t:X.calm=Pe)(S:CmpScope X scope i vars caps)(u:PI X a d r)
  (y:∀(cl:List (Qn×Pk)) (C:Pk) (j:List Pk) (s:Pr) (H:Hp),PG (aI X i scope cl C j s H) a g/\dU (aI X i scope cl C j s H) f tt/\∀D,PB (aI X i scope cl C j s H) (.D k l) (⟨a,d,f,0⟩::rest) scope pos 0 D (p D))
  (hs:∀x,QA d X.env x=RZ x:=by intro _;rfl):PE X (.DictComp k l (⟨a,d,f,0⟩::rest) scope pos) (lU (λD=>dW D b 0 []) vars caps r λD J=>di J g tt (p D)):=by
 intro pins s σ H Q I h;refine SE (use:=Pb) rfl hs (S.clo I.ok) S.kind S.loc (QG (u pins s σ H _ I h) (λv Y B=>QG B (λF Z L=>?_) λ_ _ x=>x) λ_ _ x=>x);obtain⟨it,j,tn,J,H2,e,N,T,n,f2,q⟩:=L;subst e;refine g9 (c:= .D k l) uV (RR:=λacc C=>Xu (Qc X.prog X.w) X.A X.xe Pb _ acc C) t S y N T n f2 q λD C s' O m R ns U W=>?_;exact⟨m,ns,λh' o=>⟨.ref D,O,R.letgo U o,rfl,W⟩⟩
end
end L2.Hs
namespace L2.Pu
open PySem PySem.Spec PyProof.Rows L2.Hs
def dK:Bool->KyD->D
 |true,k=> .tup [.int k.1,tpI k.2]
 |false,k=>tpI k.2
def KyZ(b:Bool)(k:KyD):Prop:=b=Pj->k.1=0
theorem MS{b:Bool}(a:KyZ b k)(c:KyZ b l)(h:dK b k=dK b l):k=l:=by
 cases b with
 |true=>
  simp only[dK,D.tup.injEq,S9,D.int.injEq,and_true]at h;exact Tt h.1 (gA (QN D.tup h.2))
 |false=>exact Tt ((a rfl).trans (c rfl).symm) (gA h)
section
variable{K:PZ}{F:Fx}{H:Hp}{E:St->XK}
theorem vC(h:Den K F H (.tup ds) v):∃a xs,v= .ref a/\TQ K F H a xs/\DenL K F H ds xs:=by
 unfold Den at h;exact h
theorem pk(h:TQ K F H a xs)(hd:DenL K F H ds xs):Den K F H (.tup ds) (.ref a):=by
 unfold Den;exact⟨a,xs,rfl,h,hd⟩
theorem TQ.sq(h:TQ K F H c xs):SqT K H c xs:=h.imp (·.2) id
theorem im.s{b:Bool}(h:im K F H b k c):KyS K H b k c:=by
 cases b with
 |true=>
  obtain⟨e,a,d⟩:=h;exact⟨e,a.sq,d.sq⟩
 |false=>exact⟨h.1,h.2.sq⟩
theorem im.z{b:Bool}(h:im K F H b k c):KyZ b k:=λe=>by subst e;exact h.1
theorem tW{b:Bool}(g:KyZ b k)(h:Den K F H (dK b k) v):∃c,v= .ref c/\im K F H b k c:=by
 cases b with
 |true=>
  obtain⟨a,xs,rfl,q,d⟩:=vC h;obtain⟨i,j,rfl,d1,d2⟩:=DenL.two d;cases d1.int;obtain⟨e,ys,rfl,q2,f⟩:=vC d2;cases DenL.ints k.2 f;exact⟨a,rfl,e,q,q2⟩
 |false=>
  obtain⟨a,xs,rfl,q,d⟩:=vC h;cases DenL.ints k.2 d;exact⟨a,rfl,g rfl,q⟩
theorem Oy{b:Bool}(h:im K F H b k c):Den K F H (dK b k) (.ref c):=by
 cases b with
 |true=>
  obtain⟨e,a,d⟩:=h;exact pk a (DenL.cons rfl (DenL.cons (pk d (DenL.ofInts k.2)) DenL.nil))
 |false=>exact pk h.2 (DenL.ofInts k.2)
abbrev pKD(b:Bool)(p:KyD×D):D:= .tup [dK b p.1,p.2]
def Dk(b:Bool)(kvs:List (KyD×D))(os:List D):Prop:=os=kvs.map (pKD b)/\(kvs.map (·.1)).Nodup/\kvs.length<=PQ/\∀p∈kvs,KyZ b p.1
theorem Kh{b:Bool}{p q:KyD×D}(a:KyZ b p.1)(c:KyZ b q.1)(h:pKD b p=pKD b q):p=q:=by
 simp only[pKD,D.tup.injEq,S9,and_true]at h;exact Tt (MS a c h.1) h.2
theorem k9{b:Bool}:∀{l m:List (KyD×D)},(∀p∈l,KyZ b p.1)->(∀p∈m,KyZ b p.1)->l.map (pKD b)=m.map (pKD b)->l=m
 |[],[],_,_,_=>rfl
 |[],_::_,_,_,h=>by cases h
 |_::_,[],_,_,h=>by cases h
 |p::l,q::m,hl,hm,h=>by
  rw[Py,Py,S9]at h;rw[Kh (hl p Pn) (hm q Pn) h.1,k9 (λx a=>hl x (Pg _ a)) (λx a=>hm x (Pg _ a)) h.2]
theorem Dk.eq{b:Bool}{os:List D}(x:Dk b l os)(y:Dk b m os):l=m:=k9 x.2.2.2 y.2.2.2 (x.1.symm.trans y.1)
open Classical in
def lB(b:Bool)(os:List D):Option D:=if h:∃kvs,Dk b kvs os then on (.dct b (h.choose.map (·.1)) (h.choose.map (·.2)))else Pb
theorem w6{b:Bool}{kvs:List (KyD×D)}{os:List D}(h:Dk b kvs os):lB b os=on (.dct b (kvs.map (·.1)) (kvs.map (·.2))):=by
 have q:∃kvs,Dk b kvs os:=⟨kvs,h⟩;unfold lB;rw[dif_pos q,q.choose_spec.eq h]
theorem vE{b:Bool}{os:List D}(h:lB b os=on d):∃kvs,Dk b kvs os/\d= .dct b (kvs.map (·.1)) (kvs.map (·.2)):=by
 unfold lB at h;split at h
 ·rename_i q
  cases h;exact⟨_,q.choose_spec,rfl⟩
 ·cases h
noncomputable def RD(K:PZ)(b:Bool):AR where
 R:=λF H D as=>∃ep,∃a:List ((KyD×Pu.D)×Pk×V),as=a.map (λz=>pKD b z.1)/\H D=on (dW D b ep (a.map λz=>(z.1.1,z.2)))/\∀z∈a,im K F H b z.1.1 z.2.1/\Den K F H z.1.2 z.2.2
 Z:=λl=>∃kvs more,Dk b kvs (l++more)
 tr:=λh k t=>by
  obtain⟨ep,a,e,f,c⟩:=h;exact⟨ep,a,e,k _ f,λz d=>⟨(c z d).1.tr t,Den.tr t _ _ (c z d).2⟩⟩
 zp:=λh=>by
  obtain⟨kvs,more,h⟩:=h;exact⟨kvs,_,by rw[←QJ];exact h⟩
def EQ(f g:FD):FL:=λδ=>M.bind (f δ) λk=>M.bind (g δ) λv=>M.ret [.tup [k,v]]
theorem oW{b:Bool}{D:Pk}:ff K (RD K b) D (BB K b D (tV K f E0) (tV K g E0)) (EQ f g):=λF H δ β I σ as os Q fr hA B J hR e hz k=>by
 obtain⟨ep,d,rfl,hD,C⟩:=hR;obtain⟨W,β1,e1,e2⟩:=M.bind_inv e;obtain⟨X,β2,e3,e4⟩:=M.bind_inv e2;cases e4;obtain⟨kvs,more,L,Y,z3,Z⟩:=hz;have N:∀p∈d.map (·.1),KyZ b p.1:=λp r=>by
  obtain⟨z,h,rfl⟩:=PD.mp r;exact(C z h).1.z
 have O:d.length<kvs.length:=by
  have:=QN Vu L;simp at this;omega
 have ez:(d.map (·.1)).map (pKD b)=(kvs.take d.length).map (pKD b):=by
  rw[VG,←L,QJ,List.take_append_of_le_length (by simp),R7 (by simp),Pp];rfl
 have ek:=k9 N (λp r=>Z p (List.mem_of_mem_take r)) ez;have R:pKD b kvs[d.length]= .tup [W,X]:=by
  have h0:(kvs.map (pKD b))[d.length]?=on (.tup [W,X]):=by
   rw[←L,QJ,Rh (by simp)];simp
  rw[Pi,Pd O]at h0;exact Qd h0
 have u:=Z _ (Qo O);generalize r:kvs[d.length]=p at R u;obtain⟨j,vv⟩:=p;simp only[pKD,Pu.D.tup.injEq,S9,and_true]at R;obtain⟨rfl,rfl⟩:=R;have y:j∉d.map (·.1.1):=λhm=>by
  have h2:kvs.take d.length++(j,vv)::kvs.drop (d.length+1)=kvs:=by
   rw[←r,←Qr O,Sd]
  rw[←h2,←ek,Qh,Py,VX]at Y;refine Y.2.2 j ?_ j Pn rfl;rw[Pp];exact hm
 refine⟨F,δ,β,fr,J,E0.run e1 λv H1 t hv=>⟨F,δ,β1,t.fr,J.tr (t.tr fr),E0.run e3 λv2 H2 m T=>?_⟩⟩;have U:=Den.tr (m.tr t.fr) _ _ hv;obtain⟨c,rfl,kc⟩:=tW u U;have i:=(t.tr fr).trans (m.tr t.fr);refine⟨ep,_,j,c,rfl,m.kp D _ (t.kp D _ hD B) B,λx h=>?_,kc.s,?_,?_,λA=>?_⟩
 ·obtain⟨z,h',rfl⟩:=PD.mp h
  exact((C z h').1.tr i).s
 ·rw[Pp];exact y
 ·rw[Pa];omega
 have tD:ToD F D H2 (upd H2 D (dW D b A ((d.map λz=>(z.1.1,z.2))++[(j,c,v2)]))) I:=by
  refine⟨λa o h n _=>by rw[upd_ne n];exact h,λa h q=>?_,fr.bgA,λb l q=>?_⟩
  ·by_cases z:a=D
   ·subst z;rw[ar]at q;cases q
   ·rw[upd_ne z]at q;exact m.fr.occ a h q
  ·rw[upd_ne (B b l q).1.symm,upd_ne (B b l q).2.symm]
   exact m.fr.bag b l q
 have tt:=tD.tr m.fr hA;refine k σ _ (((t.trans m).toD D).trans tD) (J.tr (i.trans tt)) ⟨A,d++[((j,vv),c,v2)],by rw[Qh];rfl,by rw[Qh];exact ar,λz h=>?_⟩;rcases Rj.mp h with h|h
 ·exact⟨(C z h).1.tr (i.trans tt),Den.tr (i.trans tt) _ _ (C z h).2⟩
 ·cases Qi.mp h
  exact⟨kc.tr tt,Den.tr tt _ _ T⟩
theorem vD{F:Fx}{H:Hp}{α:Type}{f:α->D}{g:α->V}:∀{a:List α},(∀z∈a,Den K F H (f z) (g z))->DenL K F H (a.map f) (a.map g)
 |[],_=>DenL.nil
 |z::a,h=>DenL.cons (h z Pn) (vD λx b=>h x (Pg z b))
end
theorem vA{K:PZ}{E:St->XK}{kb:Bool}{vars:List Qn}{caps:List Nat}{g:TG}{f:Pk->TB}{it:FL}{tg:TgF}{tt:Dn->M Bool}{b:FL}(j:cS K g tg)(k:dS tg)(l:∀D,ff K (RD K kb) D (f D) b){i:St}{H:Hp}{Q:VK}(h:tV K (gZ vars.length caps it tg tt b (lB kb)) E i H Q):
  lU (λD=>dW D kb 0 []) vars caps (iV K it E) (λD J=>di J g (tVT K tt E0) (f D)) i H Q:=by
 refine rZ j k l (λF H D=>⟨0,[],rfl,ar,λx a=>P6 a (by simp)⟩) (λos d e=>?_) h λF v m D os d fr c n e q=>?_
 ·obtain⟨kvs,s,_⟩:=vE e
  exact⟨kvs,[],by rw[Qe];exact s⟩
 ·obtain⟨kvs,s,rfl⟩:=vE e
  obtain⟨ep,o,rfl,r,a⟩:=n;have t:kvs=o.map (·.1):=k9 s.2.2.2 (λp u=>by
   obtain⟨z,h,rfl⟩:=PD.mp u;exact(a z h).1.z) (by rw[←s.1,Pp];rfl)
  refine q _ _ (To.refl fr) ?_;unfold Den;subst t;refine⟨D,ep,_,rfl,⟨c,r⟩,by simp,λx h=>?_,?_⟩
  ·obtain⟨z,h',rfl⟩:=PD.mp h
   exact(a z h').1
  ·rw[Pp,Pp]
   exact vD λz h=>(a z h).2
section
variable{X:Cx}{E:St->XK}{ke ve target iter:Expr}{ifs:List Expr}{rest:List Rm}{scope:Scope}{pos:Uj}{Nc vars:List Qn}{caps:List Nat}{g:TG}{tb:Pk->TB}
theorem JI{kb:Bool}(c:X.calm=Pe)(S:CmpScope X scope Nc vars caps)(d:PI X target iter (iV X.K it E))
  (e:∀(cl:List (Qn×Pk)) (C:Pk) (a:List Pk) (s:Pr) (H:Hp),PG (aI X Nc scope cl C a s H) target g/\dU (aI X Nc scope cl C a s H) ifs (tVT X.K tt E0)/\∀D,PB (aI X Nc scope cl C a s H) (.D ke ve) (⟨target,iter,ifs,0⟩::rest) scope pos 0 D (tb D))
  (f:cS X.K g tg) (i:dS tg) (j:∀D,ff X.K (RD X.K kb) D (tb D) b) (hs:∀x,QA iter X.env x=RZ x:=by intro _;rfl):
  PE X (.DictComp ke ve (⟨target,iter,ifs,0⟩::rest) scope pos) (tV X.K (gZ vars.length caps it tg tt b (lB kb)) E):=
 (CY (b:=kb) c S d e hs).imp λk H Q h=>vA f i j h
noncomputable def hZ:List D->Option (List Int)
 |[]=>on []
 | .int i::r=>(hZ r).map (i::·)
 |_=>Pb
def ig:Bool->D->Option KyD
 |false,.tup ds=>(hZ ds).map λl=>(0,l)
 |true,.tup [.int i,.tup ds]=>(hZ ds).map λl=>(i,l)
 |_,_=>Pb
theorem qM:∀(l:List Int),hZ (l.map .int)=on l
 |[]=>rfl
 |i::l=>by show(hZ (l.map .int)).map _=_;rw[qM l];rfl
theorem tupI_inv:∀{ds:List D} {l:List Int},hZ ds=on l->ds=l.map .int
 |[],l,h=>by cases h;rfl
 | .int i::r,l,h=>by
  have h':(hZ r).map (i::·)=on l:=h;cases q:hZ r with
  |none=>rw[q]at h';cases h'
  |some m=>rw[q]at h';cases h';rw[tupI_inv q];rfl
 | .non::_,_,h=>by cases h
 | .bl _::_,_,h=>by cases h
 | .str _::_,_,h=>by cases h
 | .ty _::_,_,h=>by cases h
 | .txt::_,_,h=>by cases h
 | .lst _::_,_,h=>by cases h
 | .tup _::_,_,h=>by cases h
 | .scr _::_,_,h=>by cases h
 | .obj _ _ _::_,_,h=>by cases h
 | .bag::_,_,h=>by cases h
 | .adr _::_,_,h=>by cases h
 | .dct _ _ _::_,_,h=>by cases h
theorem rf{b:Bool}(h:KyZ b k):ig b (dK b k)=on k:=by
 cases b with
 |true=>show(hZ _).map _=_;rw[qM];rfl
 |false=>show(hZ _).map _=_;rw[qM];exact QN on (Tt (h rfl).symm rfl)
theorem oX{b:Bool}(h:ig b d=on k):KyZ b k/\d=dK b k:=by
 unfold ig at h;split at h
 ·rename_i ds
  cases q:hZ ds with
  |none=>rw[q]at h;cases h
  |some l=>rw[q]at h;cases h;exact⟨λ_=>rfl,by rw[tupI_inv q];rfl⟩
 ·rename_i i ds
  cases q:hZ ds with
  |none=>rw[q]at h;cases h
  |some l=>rw[q]at h;cases h;exact⟨λz=>(by cases z),by rw[tupI_inv q];rfl⟩
 ·cases h
noncomputable def lkD(ks:List KyD)(vs:List D)(k:KyD):Option D:=((ks.zip vs).find? λp=>decide (p.1=k)).map (·.2)
variable{K:PZ}{F:Fx}{H:Hp}
def RelD(K:PZ)(F:Fx)(H:Hp):Option D->Option V->Prop
 |none,v=>v=Pb
 |some d,v=>∃u,v=on u/\Den K F H d u
theorem qf:∀{xs:List (KyD×Pk×V)} {vs:List D},DenL K F H vs (xs.map (·.2.2))->RelD K F H (lkD (xs.map (·.1)) vs k) (lkV xs k)
 |[],vs,_=>by unfold lkD lkV;rfl
 |x::xs,vs,h=>by
  cases vs with
  |nil=>cases h
  |cons d vs=>
   obtain⟨u,r,e,a,b⟩:=h;rw[Py,S9]at e;obtain⟨rfl,rfl⟩:=e;have ih:=qf (k:=k) b;unfold lkD lkV at ih⊢;rw[Py,RN,SN,SN];by_cases q:x.1=k
   ·rw[PX q];exact⟨_,rfl,a⟩
   ·rw[Qp q];exact ih
def EL:D->D->Option D
 | .dct b ks vs,y=>(ig b y).bind (lkD ks vs)
 |_,_=>Pb
theorem OL:bh K (LK K) EL:=λF H β Q d1 d2 d y A fr h i e k=>by
 unfold EL at e;split at e
 ·rename_i b ks vs
  cases q:ig b d2 with
  |none=>rw[q]at e;cases e
  |some f=>
   rw[q]at e;have j:lkD ks vs f=on d:=e;obtain⟨l,rfl⟩:=oX q;obtain⟨c,rfl,m⟩:=tW l i;unfold Den at h;obtain⟨a,ep,xs,rfl,n,rfl,o,p⟩:=h;have:=qf (k:=f) p;rw[j]at this;obtain⟨u,r,t⟩:=this;exact⟨a,b,ep,xs,f,c,u,rfl,rfl,n.2,λx v=>(o x v).s,m.s,r,k u H (To.refl fr) t⟩
 ·cases e
def Op(K:PZ):V->List V->Hp->VK->Prop:=λx ys H Q=>∃a b ep xs k c z,x= .ref a/\ys=[.ref c,z]/\H a=on (dW a b ep xs)/\(∀x∈xs,KyS K H b x.1 x.2.1)/\KyS K H b k c/\Q ((lkV xs k).getD z) H
variable{o e:Expr}{es:List Expr}{apos cpos:Uj}
theorem Kt(n:X.A.units+2<UY):MtR X "dict.get" (Op X.K):=by
 intro l s N H x xs v us Q I r t h;obtain⟨a,b,ep,ys,k,c,z,rfl,rfl,u,B,C,q⟩:=h;cases r;obtain⟨O,J,rfl,r1,L⟩:=tz t;cases r1;obtain⟨j,d,p,_,hs⟩:=mD I u B;have f:=mT (k:=k) p;refine call_meetsIn WW d.typeIs PySem.F.entry_dict_get (PySem.F.args_dict_get_3 _ _ _) (meetsH_dict_get_default (KB X.prog X.w b) a c hs J) ⟨ny n,k,j,qh I C,d,_,H,I.tok _,?_,q⟩;cases m:lkV ys k with
 |none=>
  rw[m]at f;cases i:(WZ j k).map (·.2)with
  |none=>exact L
  |some w=>rw[i]at f;exact f.elim
 |some y=>
  rw[m]at f;cases i:(WZ j k).map (·.2)with
  |none=>rw[i]at f;exact f.elim
  |some w=>rw[i]at f;exact f
def EI(f:FD)(g:FL):FD:=λδ=>M.bind (f δ) λd=>match d with
 | .dct b ks vs=>M.bind (g δ) λas=>M.ofO (match as with
  |[k,z]=>(ig b k).map λk=>(lkD ks vs k).getD z
  |_=>Pb)
 |_=>M.fail
theorem Od{g:FL}(hu:X.A.units+2<UY)(ho:PE X o (tV X.K f E))(ha:PA X (e::es) (tVA X.K g E))
  (n:S6 o "get" X.env (QS o X.env)=QS o X.env:=by rfl)
  (B:((R4 cpos (PH (e::es) X.env)).all (λx=>!x.1)&&(SY cpos (RO [] X.env)).all (λx=>x.1.isSome)
   &&decide ((e::es).length+([]:List Vc).length+(if([]:List Vc).isEmpty then 0 else 1)<30))=Pe:=by rfl)
  (p:(apos.endLine==cpos.line)=Pe:=by rfl) (hs:PH (e::es) X.env=(Pj,QS e X.env)::PH es X.env:=by rfl) (m:(R4 cpos (PH es X.env)).any (·.1)=Pj:=by rfl):
  PE X (.Call (.Attribute o "get" apos) (e::es) [] cpos) (tV X.K (EI f g) E):=by
 intro j s J H Q I h;obtain⟨F,δ,β,fr,vk,h⟩:=h;refine YO n B p rfl (thn (ho j s J H _ I ⟨F,δ,β,fr,vk,(run.bind (R:=Den X.K F) h)⟩) λv s1 h1=>?_);obtain⟨x,H1,I1,r1,d,β1,t,hd,q1⟩:=h1;have fail:∀{N:M D},N=M.fail->run (Den X.K F) F E J N H1 Q β1->False:=λ{N} e r=>by
  obtain⟨r,β',e',_⟩:=r;rw[e]at e';cases e'
 cases d<;>first|exact(fail rfl q1).elim|skip
 rename_i b ks vs;have C:=hd;unfold Den at C;obtain⟨a,ep,xs,rfl,O,rfl,hk,dl⟩:=C;cases r1;obtain⟨ys,dd,_,_,_⟩:=mD I1 O.2 λx T=>(hk x T).s;refine⟨"dict","dict.get",WH,WW,PySem.F.type_dict_get,dd.typeIs,λb e=>?_,?_⟩
 ·cases e
  obtain⟨ob,_,_,g1,g2,_⟩:=dd;exact⟨ob,g1,g2.2.1⟩
 have hA:=ha cpos j s1 J H1 _ I1 ⟨F,δ,β1,t.fr,vk.tr (t.tr fr),run.bind (R:=DenL X.K F) q1⟩;rw[hs]at hA⊢;refine TN (by show(Pj||(R4 cpos (PH es X.env)).any (·.1))=Pj;rw[m]<;>rfl) (Xh (thn hA λus s2 h2=>?_))
 obtain⟨ws,L,I2,r2,as,β2,t2,U,q2⟩:=h2;obtain⟨z,y,kf⟩:=run.ofO q2;have tt:=t2.tr t.fr;split at y
 ·rename_i k zz
  cases W:ig b k with
  |none=>rw[W]at y;cases y
  |some i=>
   rw[W]at y;cases y;obtain⟨hz,rfl⟩:=oX W;obtain⟨w1,Y,rfl,Z,hw2⟩:=DenL.two U;obtain⟨c,rfl,kc⟩:=tW hz Z;have dl2:=DenL.tr tt _ _ dl;have hk2:∀x∈xs,KyS X.K L b x.1 x.2.1:=λx T=>((hk x T).tr tt).s;refine Kt hu j s2 J L (.ref a) [.ref c,Y] (.ref a) us Q I2 rfl r2 ⟨a,b,ep,xs,i,c,Y,rfl,rfl,tt.kp a _ O.1 O.2,hk2,kc.s,?_⟩;refine kf _ L (To.refl t2.fr) ?_;show Den X.K F L ((lkD (xs.map (·.1)) vs i).getD zz) ((lkV xs i).getD Y);have l:=qf (k:=i) dl2;cases q:lkD (xs.map (·.1)) vs i with
   |none=>
    rw[q]at l;have l':lkV xs i=Pb:=l;rw[l'];exact hw2
   |some d=>
    rw[q]at l;obtain⟨u,l',hu'⟩:=l;rw[l'];exact hu'
 ·cases y
end
end L2.Pu
namespace L2.Hs
open PySem PySem.Spec PyProof.Rows
section
variable{prog:Qf}{w:Qq}{A:QP}{E:Pl->Pr->Prop}{s:Pr}{d it v:Pk}{od:Qb}{es:Array Tv}{ep i:Nat}{ok ov:Pl}
theorem yj(a:s.TypeIs (.ref d) "dict")(hd:(d==We)=Pj)(h:Q (.ref s.heap.objs.size) {s with heap:=s.heap.push {cls:= .type "dict_items",data:= .fields #[.ref d]}}):PN (Qc prog w) A (Wv (.builtin "dict.items") [.ref d]) Q E s:=by
 refine QB F.slot_dict_items a F.entry_dict_items ?_ (F.args_dict_items_1 _);unfold Builtin.«dict.items»;refine My ?_;unfold Builtin.Dict.noArgs;refine My (wpAny_notOrdered_dict a ?_);show PN _ _ (RZ d) _ _ s;refine Pc ?_;show PN _ _ (V8 d>>=_) _ _ s;unfold V8;rw[Po (by rw[hd];exact Pw)];exact My (Pc (My (Q0 (Pc ⟨_,rfl,h⟩))))
theorem x8(a:s.heap.IsItemsView v d)(e:s.heap.get? d=on od)(hd:od.data= .dict es ep)
  (h:Q (.ref s.heap.objs.size) {s with heap:=s.heap.push {cls:= .type "dict_itemiterator",data:= .fields #[.none,.bool Pj,.ref d,.int 0 0,.int es.size 0,.int ep 0,.none,.none]}}):PN (Qc prog w) A (VR (.ref v)) Q E s:=by
 obtain⟨o,b,f,c⟩:=id a;refine Vh a.typeIs XV (QB XV a.typeIs F.entry_dict_items_iter ?_ (F.args_dict_items_iter_1 _));unfold Builtin.«dict_items.__iter__»;refine My (Pc (My ?_));unfold Builtin.Dict_items.dictOf;refine My (Q9 b c (x:= .ref d) rfl (Pc (My ?_)));unfold Builtin.Dict_items.newIterator;refine My (WC e hd (My (W7 e hd ?_)));simp only[show Ts "dict_itemiterator"=Pe from by decide,Qv];refine Q0 (Pc ⟨_,rfl,"dict_itemiterator",_,⟨_,PP _ rfl,rfl⟩,Rv.lookup,?_⟩)
  (by simp only[sizeOk,UD,PV,PM,Pz,R0,RQ];omega)
 simpa[Ub,UD]using h
theorem x5(a:UV s.heap it d i es.size ep ok ov)(h:Q (.ref it) s):PN (Qc prog w) A (VR (.ref it)) Q E s:=by
 have c:s.TypeIs (.ref it) "dict_itemiterator":=⟨_,a,rfl⟩;refine Vh c WE (QB WE c (b:=Builtin.«dict_keyiterator.__iter__») (Xv (id':="dict_keyiterator.__iter__") (by kernel_rfl) rfl (by decide +kernel) (by kernel_rfl)) ?_ (F.args_dict_itemiterator_iter_1 _));show PN _ _ (ret (.ref it)) _ _ s;exact Pc ⟨_,rfl,"dict_itemiterator",_,c,Rv.lookup,h⟩
theorem x6{e:Tv}(m:UV s.heap it d i es.size ep ok ov)(ho:s.heap.get? d=on od)(hd:od.data= .dict es ep)(Y:es[i]?=on e)
  (hQ:∀h',IsItemIterOut h' it d (i+1) es.size ep e.key e.val s.heap.objs.size->h'.get? s.heap.objs.size=on {cls:= .type "tuple",data:= .seq #[e.key,e.val]}->h'.objs.size=s.heap.objs.size+1->
   (∀b o,b≠it->s.heap.get? b=on o->h'.get? b=on o)->Q (on (.ref s.heap.objs.size)) {s with heap:=h'}):PN (Qc prog w) A (Ua (.ref it)) Q E s:=by
 obtain⟨n,g,T,U,os⟩:=s;have u:Shared.TypeIs ⟨n,g,T,U,os⟩ (.ref it) "dict_itemiterator":=⟨_,m,rfl⟩;have W:i<es.size:=by
  rcases Ux i es.size with h|h
  ·exact h
  ·simp[SF h]at Y
 obtain rfl:es[i]=e:=by rw[UC W]at Y;exact Qd Y
 unfold Ua;refine My (Uw (wpAny_callSpecial?_slot (name:=RX "__next__") u Rv
  (QB Rv u Ws ?_ (Wh _))))
 refine My (Pc (My (My ?_)))
 first|refine My (SM u (Pc ?_))|refine My (TD u (Pc ?_))
 refine My (VS m rfl ?_);simp only[show Ts "dict_itemiterator"=Pe from by decide,Qv];show PN _ _ (if(P4 d==QL)=Pe then _ else _) _ _ _;rw[Po (show ¬((P4 d==QL)=Pe)from Pw)];refine My (Pc (My (WC ho hd ?_)));rw[Po (by simp)];refine My (Pc (My (W7 ho hd ?_)));rw[Po (by simp)];refine Pc ?_;simp only[show ¬((i:Int)<0)from by omega,Qw,Q7,UC W];refine My ?_
 first|refine My (SM u (Pc ?_))|refine My (TD u (Pc ?_))
 refine My (Vz u ?_);show PN _ _ (XA (.ref it) 3 (Ub ((i:Int)+1))>>=_) _ _ ⟨n,g,T,U,os⟩;refine My (Ra m (by simp) λa c f=>?_)
 replace f:Qg it n a:=f
 replace c:UV a it d (i+1) es.size ep ok ov:=by
  have e:((i+1:Nat):Int)=(i:Int)+1:=by omega
  unfold UV;rw[e];simpa[Ub]using c
 have l:Shared.TypeIs ⟨a,g,T,U,os⟩ (.ref it) "dict_itemiterator":=⟨_,c,rfl⟩;refine My (Re (My (Vz l (My (Vz l ?_)))));show PN _ _ (UQ (.ref it) 6 es[i].key es[i].val) _ _ ⟨a,g,T,U,os⟩;unfold UQ;refine My (XD ?_);have j:UV (a.push {cls:= .type "tuple",data:= .seq #[es[i].key,es[i].val]}) it d (i+1) es.size ep ok ov:=Ph _ c;have k:a.objs.size=n.objs.size:=f.1;have Z:it≠n.objs.size:=QE (Qa m);have y:(a.push {cls:= .type "tuple",data:= .seq #[es[i].key,es[i].val]}).get? n.objs.size=on {cls:= .type "tuple",data:= .seq #[es[i].key,es[i].val]}:=by rw[←k];exact PP _ rfl
 have B:(a.push {cls:= .type "tuple",data:= .seq #[es[i].key,es[i].val]}).objs.size=n.objs.size+1:=by rw[Rg,k]
 have C:∀b o,b≠it->n.get? b=on o->(a.push {cls:= .type "tuple",data:= .seq #[es[i].key,es[i].val]}).get? b=on o:=λb o X e=>Ph _ (f.extBut b o X e);generalize a.push {cls:= .type "tuple",data:= .seq #[es[i].key,es[i].val]}=h₂ at*;show PN _ _ (UE (.ref it)>>=_) _ _ ⟨h₂,g,T,U,os⟩;rw[k];refine My ?_;unfold UE;refine My (Q9 j rfl (x:= .none) rfl (Pc ?_));simp only[Qv];refine My (Q9 j rfl (x:=ok) rfl (My (Q9 j rfl (x:=ov) rfl ?_)));refine My (Ra j (by simp) λp F H=>?_);refine My (Ra F (by simp) λq I J=>?_);refine My (Ra I (by simp) λr L N=>?_);refine My (Ra L (by simp) λt O R=>?_);have sb:=((show Qg it h₂ p from H).trans (show Qg it p q from J)).trans ((show Qg it q r from N).trans (show Qg it r t from R));exact My (W0 (Pc (Pc ⟨_,rfl,Pc (hQ t O (sb.extBut _ _ Z.symm y) (by rw[sb.1,B]) λb o X e=>sb.extBut b o X (C b o X e))⟩)))
theorem AA(g:A.handled=Pb)(c:UV s.heap it d i es.size ep ok ov)(f:s.heap.get? d=on od)(hd:od.data= .dict es ep)(h:es.size<=i)
  (j:∀h',V9 it s.heap h'->Q Pb {s with heap:=h'}):PN (Qc prog w) A (Ua (.ref it)) Q E s:=by
 have e:s.TypeIs (.ref it) "dict_itemiterator":=⟨_,c,rfl⟩;unfold Ua;refine My (Uw (wpAny_callSpecial?_slot (name:=RX "__next__") e Rv
  (QB Rv e Ws ?_ (Wh _))))
 refine My (Pc (My (My ?_)))
 first|refine My (SM e (Pc ?_))|refine My (TD e (Pc ?_))
 refine My (VS c rfl ?_);simp only[show Ts "dict_itemiterator"=Pe from by decide,Qv];show PN _ _ (if(P4 d==QL)=Pe then _ else _) _ _ s;rw[Po (show ¬((P4 d==QL)=Pe)from Pw)];refine My (Pc (My (WC f hd ?_)));rw[Po (by simp)];refine My (Pc (My (W7 f hd ?_)));rw[Po (by simp)];refine Pc ?_;simp only[show ¬((i:Int)<0)from by omega,Qw,Q7,SF h];refine My ?_
 first|refine My (SM e (Pc ?_))|refine My (TD e (Pc ?_))
 show PN _ _ (XA (.ref it) 2 .none>>=_) _ _ s;refine My (Uc c rfl (by simp) ?_);show PN _ _ (YM (.type "StopIteration") []>>=_) _ _ _;refine My ?_;simp only[YM,newTuple];refine My (Q0 ?_ (by size_fits));refine My (m:=T8 _ _) (Tk (a:=QL) (by first|rfl|(simp only[T8];rfl)) ?_)
 refine Q0 ?_ (by size_fits);simp only[raiseNew];refine My (Yd ?_);rw[show A.in1.handled=Pb from g];refine My (Pc (wpAny_throw ?_));refine My (Sg (T:="StopIteration") (b:=Pe) ⟨_,PP _ rfl,rfl⟩ Xx ?_);exact Pc (j _ (((Rf ..).extBut.push _).push _))
end
end L2.Hs
namespace L2.Pu
open PySem PySem.Spec PyProof.Rows L2.Hs
noncomputable def Iti(a:Pk)(ep n:Nat):It:=
 ⟨λi H=>∃b xs,H a=on (dW a b ep xs)/\xs.length=n/\i<n,
  λi H v c=>∃p x,H p=Pb/\v= .ref p/\c=upd H p (.tup [.ref x.1,x.2])/\∀b xs,H a=on (dW a b ep xs)->(xs[i]?).map (·.2)=on x,
  λi H=>∃b xs,H a=on (dW a b ep xs)/\xs.length=n/\i=n⟩
theorem HG:∀{xs:List (KyD×Pk×V)} {ys:List (KyD×Pk×Pl)} {i:Nat} {y:KyD×Pk×Pl},Wa XY xs ys->ys[i]?=on y->∃x,xs[i]?=on x/\XY x y
 |_,_,0,_,.cons h t,e=>by cases e;exact⟨_,rfl,h⟩
 |_,_,i+1,_,.cons h t,e=>HG (i:=i) t e
 |_,_,0,_,.nil,e=>by cases e
 |_,_,_+1,_,.nil,e=>by cases e
section
variable{X:Cx}{pins:List (Pk×Qb)}{σ:St}{H:Hp}{s:Pr}{a:Pk}{b:Bool}{ep i:Nat}{xs:List (KyD×Pk×V)}
theorem qw(I:Inv X pins σ H s)(h:H a=on (dW a b ep xs)):∃(o:Qb) (es:Array Tv),s.heap.get? a=on o/\o.data= .dict es ep/\es.size=xs.length/\o.ExactDict/\(a==We)=Pj/\∀(i:Nat) (e:Tv),es[i]?=on e->∃x,xs[i]?=on x/\e.key= .ref x.2.1/\aQ x.2.2 e.val:=by
 obtain⟨o,es,ys,j,k,l,d,u,m,v,g⟩:yp a b ep xs s.heap:=(I.hok a _ h).1;have n:ys.length=xs.length:=by rw[←Pa (f:=(·.1)),←qG g,Pa]
 refine⟨o,es,j,l,by rw[←Ql,d,Pa,n],k,m,λi e c=>?_⟩;rw[←SR,d,Pi]at c;cases q:ys[i]? with
 |none=>rw[q]at c;cases c
 |some y=>
  rw[q]at c;cases c;obtain⟨x,p,_,r,t⟩:=HG g q;exact⟨x,p,by rw[r],t⟩
theorem xu{P:Qf}{w:Qq}{K:PZ}{x1}(a it:Pk)(n ep:Nat):
  Turn P w K (.Tuple elts x1 pos) (Iti a ep n) [it] it (λi h=>∃ok d,UV h it a i n ep ok d) where
 mem:=by simp
 obj:=λi h st b c=>by
  obtain⟨ok,d,e⟩:=st;cases Qi.mp c;exact⟨_,e,λv q=>by cases q⟩
 keep:=λi h h' st k=>by
  obtain⟨ok,d,e⟩:=st;exact⟨ok,d,k it (by simp) _ e⟩
 item:=by
  intro X m p r J i pins s σ H E I f st t;subst m p r;obtain⟨ok,d,e⟩:=st;obtain⟨b,xs,A,W,L⟩:=t;obtain⟨o,es,g,j,Y,h4,h5,Z⟩:=qw I A;have hn:n=es.size:=by omega
  subst hn;have B:es[i]?=on es[i]:=UC L;refine x6 e g j B λh' io gt sz kp=>⟨_,rfl,wpAny_letOwnedTupleGo_items (s:={s with heap:=h'}) io λC ei N=>?_⟩;obtain⟨x,ex,O,Q⟩:=Z i _ B;have R:s.heap.objs.size≠it:=SL (Qa e);have I2:Inv X pins σ (upd H s.heap.objs.size (.tup [.ref x.2.1,x.2.2])) {s with heap:=C,toks:=s.toks}:=
   Inv.turnNew I f (λb u c q=>N.extBut b u (λz=>c (by rw[z];simp)) (kp b u (λz=>c (by rw[z];simp)) q)) (Pt _) ⟨by show 2<=PQ;decide,[es[i].key,es[i].val],.cons O (.cons Q .nil),_,N.extBut _ _ R gt,rfl,_,rfl⟩
  refine⟨.ref s.heap.objs.size,_,I2,rfl,⟨s.heap.objs.size,x.2,I.hok.fresh (Pt _),rfl,rfl,λb' xs' F=>?_⟩,⟨_,_,ei⟩,λb c=>?_⟩
  ·obtain⟨o',es',T,U,_,_,_,g6⟩:=qw I F
   rw[g]at T;cases T;rw[j]at U;cases U;obtain⟨y,ey,l,fv⟩:=g6 i _ B;rw[ey];rw[O]at l
   injection l with l
   exact QN on (Tt l.symm (aQ.inj fv Q))
  ·cases Qi.mp c
   rw[upd_ne R.symm];exact(f _ c).1
 done:=by
  intro X m p r J i pins s σ H E I f st t;subst m p r;obtain⟨ok,d,e⟩:=st;obtain⟨b,xs,A,W,L⟩:=t;obtain⟨o,es,g,j,Y,_⟩:=qw I A;have hn:n=es.size:=by omega
  subst hn;refine AA (I.ok.hd J) e g j (by omega) λh' kp=>⟨rfl,Inv.turnL (t':=s.toks) I f λb o c q=>kp b o (λz=>c (by rw[z];simp)) q⟩
 self:=λ_ _ _ _ _ st h=>by
  obtain⟨ok,d,e⟩:=st;exact x5 (es:=(PR n (⟨0,.none,.none⟩:Tv)).toArray) (by rw[PV,Q1];exact e) h
variable{E:St->XK}{K:PZ}{o:Expr}{apos cpos tpos:Uj}{elts:List Expr}{x1:Nat}
def iItm(to:TE):TI:=λσ H R=>to σ H λx c=>∃a b ep xs,x= .ref a/\c a=on (dW a b ep xs)/\R (Iti a ep xs.length) c
theorem CS(p:PE X o to)(c:S6 o "items" X.env (QS o X.env)=QS o X.env:=by rfl)(d:(apos.endLine==cpos.line)=Pe:=by rfl):PI X (.Tuple elts x1 tpos) (.Call (.Attribute o "items" apos) [] [] cpos) (iItm to):=by
 intro pins s σ H R I h;refine YB c d (thn (p pins s σ H _ I h) λv f g=>?_);obtain⟨x,m,n,r1,a,b,ep,xs,rfl,r,q⟩:=g;cases r1;obtain⟨j,es,g,t,u,k,y,_⟩:=qw n r;refine⟨"dict","dict.items",WH,PySem.F.slot_dict_items,PySem.F.type_dict_items,⟨j,g,k.1⟩,λb e=>?_,?_⟩
 ·cases e;exact⟨j,g,k.2.1⟩
 refine TN rfl (XQ (yj ⟨j,g,k.1⟩ y ?_));have l:Inv X pins σ m {f with heap:=f.heap.push {cls:= .type "dict_items",data:= .fields #[.ref a]},toks:=f.toks}:=n.kept λb o e=>Ph _ e;refine x8 (s:={f with heap:=f.heap.push {cls:= .type "dict_items",data:= .fields #[.ref a]}}) ⟨_,PP _ rfl,rfl,rfl⟩ (Ph _ g) t ?_;rw[u];exact⟨_,[_],_,_,m,rfl,l.kept (t':=f.toks) λb o e=>Ph _ e,xu a _ _ ep,⟨_,_,PP _ rfl⟩,λb A=>by
  cases Qi.mp A;exact l.fpOk (Pt _) (l.hok.fresh (Pt _)),q⟩
def itmD:D->Option (List D)
 | .dct b ks vs=>on (Us (λk v=> .tup [dK b k,v]) ks vs)
 |_=>Pb
theorem AB{F:Fx}{H:Hp}{b:Bool}{a:Pk}{ep:Nat}{xs:List (KyD×Pk×V)}(C:¬F.A a)(I:H a=on (dW a b ep xs))(g:ks=xs.map (·.1))(J:∀x∈xs,im K F H b x.1 x.2.1)(h:DenL K F H vs (xs.map (·.2.2))):ItD K (Iti a ep xs.length) F H (Us (λk v=> .tup [dK b k,v]) ks vs):=λT j β2 t fr i=>by
 have L:vs.length=xs.length:=by rw[h.length,Pa]
 have N:ks.length=xs.length:=by rw[g,Pa]
 have c:=t.kp a _ C I;refine⟨λd hd=>?_,λe=>⟨b,xs,c,rfl,by rw[e,VD,N,L,Xl]⟩⟩;have e:i<xs.length:=by
  have:=(Px.mp hd).1;rw[VD]at this;omega
 refine⟨⟨b,xs,c,rfl,e⟩,λy U O=>?_⟩;obtain⟨p,x,l,rfl,rfl,Q⟩:=O;have m:=Q b xs c;rw[Pd e]at m;have f:xs[i].2=x:=Qd m;subst f;have n:bQ j (upd j p (.tup [.ref xs[i].2.1,xs[i].2.2])):=bQ.upd l;obtain⟨v,q⟩:∃v,vs[i]?=on v:=⟨_,Pd (by omega)⟩;have R:ks[i]?=on xs[i].1:=by rw[g,Pi,Pd e];rfl
 rw[Xi,R,q]at hd;cases hd;have d2:=DenL.tr t _ _ h;obtain⟨u,r,du⟩:=d2.get q;rw[Pi,Pd e]at r;cases r;have B:=(fr.same n).tr fr;exact⟨n,pk (.inl ⟨fr.fresh l,.inl ar⟩) (DenL.cons (Den.tr B _ _ (Oy ((J _ (Qo e)).tr t))) (DenL.cons (Den.tr B _ _ du) DenL.nil))⟩
def nItm(f:FD):FL:=λδ=>M.bind (f δ) λd=>M.ofO (itmD d)
theorem KP(m:PE X o (tV X.K f E))(c:S6 o "items" X.env (QS o X.env)=QS o X.env:=by rfl)(g:(apos.endLine==cpos.line)=Pe:=by rfl):PI X (.Tuple elts x1 tpos) (.Call (.Attribute o "items" apos) [] [] cpos) (iV X.K (nItm f) E):=
 (CS m c g).imp λσ H R j=>ex6 j λF δ β fr n h=>⟨F,δ,β,fr,n,(run.bind (R:=Den X.K F) h).mono λv p j=>by
  obtain⟨d,β1,t,hd,r1⟩:=j;obtain⟨ds,e,k⟩:=run.ofO r1;cases d<;>first|(cases e;done)|skip
  cases e;unfold Den at hd;obtain⟨a,ep,xs,rfl,l,q,r,u⟩:=hd;exact⟨a,_,ep,xs,rfl,l.2,k _ p (To.refl t.fr) (AB l.1 l.2 q r u)⟩⟩
end
end L2.Pu
namespace L2.Hs
open PySem PySem.Spec PyProof.Rows
theorem wE:mroOf (.type "reversed")=RZ [.type "reversed",.type "object"]:=by rw[mroOf_type];kernel_rfl
theorem DN:typeLookup (.type "reversed") "__new__"=RZ (on (.builtin "reversed.__new__")):=by rw[W6,VI];kernel_rfl
theorem DJ:Bind.madeBy (.type "reversed")=RZ (on "reversed.__new__"):=madeBy_type wE DN (by decide +kernel)
theorem JQ:isSubtype (.type "reversed") (.type "reversed")=RZ Pe:=by rw[UZ];kernel_rfl
theorem BZ:isSubtype (.type "range_iterator") (.type "reversed")=RZ Pj:=by rw[UZ];kernel_rfl
theorem KY:entryFor table "reversed.__new__"=on Builtin.«reversed.__new__»:=entryFor_of_tree (by kernel_rfl)
section
variable{prog:Qf}{w:Qq}{A:QP}{E:Pl->Pr->Prop}{s:Pr}
theorem EN(a:IsRange s.heap r 0 n 1 t u v)(j:0<=n)(g:n<2^62)
  (h:Q (.ref s.heap.objs.size) {s with heap:=s.heap.push {cls:= .type "range_iterator",data:= .fields #[Ub (n-1),Ub n,Ub (-1)]}}):PN (Qc prog w) A (Wv (.type "reversed") [.ref r]) Q E s:=by
 refine wpAny_call (codeAny_of_tree ?_);show PN _ _ (callAny (.type "reversed") _) _ _ _;refine Pc ⟨Code.quiet_builtin _ (by decide +kernel),W5 F.entry_type_call ?_⟩;rw[Around.under_plain (weight_type_call_type "reversed" [.ref r] []) (units_type_call_type "reversed" [.ref r] [])];have g:(Su "reversed"==Su "type")=Pj:=by decide +kernel
 have k:((Yk "reversed").bind (·.mro.findSome? λt=>(Yk t).bind λb=>if b.noNew then on Pe else if b.attrs.any (·.1=="__new__")then on Pj else Pb)).getD Pj=Pj:=by decide +kernel
 have e:=wE;have c:=DJ;have i:checkTypeCall "reversed" ⟨[.ref r],[]⟩=RZ ():=by kernel_rfl
 repeat (any_goals (first|assumption|wp_step))
 refine codeAny_call_builtin (by decide +kernel) KY (Tk (show checkBuiltinCall "reversed.__new__" ⟨[.type "reversed",.ref r],[]⟩=RZ () by kernel_rfl) ?_);have f:s.TypeIs (.ref r) "range":=⟨_,a,rfl⟩;unfold Builtin.«reversed.__new__»
 repeat (any_goals (first|assumption|wp_step))
 refine Tk JQ (Pc ?_);refine My (m:=UL _ _ _) ?_;refine Tk (show UL "reversed" (Su "reversed") ⟨[.type "reversed",.ref r],[]⟩=RZ ()from rfl) ?_;refine My (m:=checkCount "reversed" 1 1 _) (Pc ?_);show PN _ _ (specialOf (.ref r) (RX "__reversed__")>>=_) _ _ s;refine My (Sv f F.slot_range_reversed.lookup ?_);show PN _ _ (bindSpecial (.builtin "range.__reversed__") (.ref r)>>=_) _ _ s;refine My (Tk (F.slot_range_reversed.bind _) ?_);show PN _ _ (rule "reversed.__new__.own-method">>=_) _ _ s;refine My (Tl (My (wpAny_runValue (codeAny_call_builtin F.slot_range_reversed.plain F.entry_range_reversed (F.slot_range_reversed.check _ _ _ _ _ _ _ _ f (F.args_range_reversed_1 _) ?_)))));unfold Builtin.«range.__reversed__»;refine My (m:=selfOnly "range.__reversed__" _) (Pc (My ?_));unfold Builtin.Range.rangeFields;refine My (Q9 a rfl (x:= .int 0 t) rfl (My (m:=asInt? _) (Pc ?_)));refine My (Q9 a rfl (x:= .int n u) rfl (My (m:=asInt? _) (Pc ?_)));refine My (Q9 a rfl (x:= .int 1 v) rfl (My (m:=asInt? _) (Pc (Pc ?_))));have hn:VW 0 n 1=n:=by rw[rangeSize_one];split<;>omega
 simp only[hn];have d:(QX 0&&QX n&&QX 1&&QX (-1)&&QX (0-1)&&QX n)=Pe:=by
  have:QX n=Pe:=by unfold QX;simp;omega
  rw[this];decide
 simp only[d,Qv,Q6,PF,Qw];rw[show(0:Int)+(n-1)*1=n-1 by omega];refine My (Q0 (Pc (Pc ?_)));exact My (Sg (T:="range_iterator") (b:=Pj) ⟨_,PP _ rfl,rfl⟩ BZ (My (Tl (Pc h))))
end
end L2.Hs
namespace L2.Pu
open PySem PySem.Spec PyProof.Rows L2.Hs
noncomputable def Itd(n:Nat):It:=⟨λi _=>i<n,λi H v a=>v= .int ((n:Int)-1-i)/\a=H,λi _=>n<=i⟩
theorem vQ{P:Qf}{w:Qq}{K:PZ}(it:Pk)(n:Nat):Turn P w K tg (Itd n) [it] it (λi h=>WT h it ((n:Int)-1+(i:Nat)*-1) ((n:Int)-(i:Nat)) (-1)) where
 mem:=by simp
 obj:=λi h st b c=>by
  cases Qi.mp c;exact⟨_,st,λv z=>by
   have C:Data.fields _=Data.cell v:=z;cases C⟩
 keep:=λi h h' st k=>k it (by simp) _ st
 item:=by
  intro X g j l m i a s A H E I f st p;subst g j l;obtain⟨q,f1,f2,r,u,y⟩:=f it (by simp);refine(Walks.range (prog:=X.prog) (w:=X.w) (I.ok.hd m) it ((n:Int)-1) (-1) n).item i s _ _ p st λv h' B F d J=>?_;obtain⟨t,rfl⟩:=F;have L:Inv X a A H {s with heap:=h',toks:=B}:=I.turned (λb o c e=>J b o (by simpa using c) e) q f1 r u y;exact⟨_,rfl,t0 (s:={s with heap:=h',toks:=B}) (n:="range_iterator") d rfl rfl (by decide) ⟨.int ((n:Int)-1-i),H,L,⟨t,by rw[show(n:Int)-1+(i:Int)*-1=(n:Int)-1-i by omega]⟩,⟨rfl,rfl⟩,d,λb c=>(f b c).1⟩⟩
 done:=by
  intro X g j l m i a s A H E I f st p;subst g j l;obtain⟨q,f1,f2,r,u,y⟩:=f it (by simp);exact YQ (I.ok.hd m) st (by have:n<=i:=p;omega) λh' N=>⟨rfl,I.turned (t':=s.toks) (λb o c e=>N b o c e) q f1 r u y⟩
 self:=λ_ _ _ _ _ st h=>VA st h
section
variable{X:Cx}{E:St->XK}{K:PZ}{tg:Expr}
def OV(a:TA):TI:=λb H R=>a b H λvs c=>∃j:Int,vs=[.int j]/\0<=j/\j<2^62/\R (Itd j.toNat) c
theorem zn(f:Gl X "reversed")(g:X.mg "reversed"=Pb)(n:Gl X "range")(hm:X.mg "range"=Pb)(ha:PA X [a] ta)(hs:PH [a] X.env=[(Pj,QS a X.env)]:=by rfl)
  (i:PH [.Call (.Name "range" p) [a] [] pos] X.env=[(Pj,QS (.Call (.Name "range" p) [a] [] pos) X.env)]:=by rfl):PI X tg (.Call (.Name "reversed" p2) [.Call (.Name "range" p) [a] [] pos] [] pos2) (OV ta):=by
 intro c s l H R I h;refine Call_ (gj I f g PyProof.Rows.Boot.«reversed» (Q8 ?_ i rfl));refine XT (Call_ (gj I n hm boot_range (Q8 (thn (ha pos c s l H _ I h) λus d r=>?_) hs rfl)));obtain⟨vs,m,v,r1,j,rfl,q1,q2,q⟩:=r;obtain⟨u,rfl,t,rfl⟩:=kO r1;refine call_range_1 (Yg (EN (IsRange.new ..) q1 q2 (VA (x:=j-1) (left:=j) (step:=-1) (PP _ rfl) ?_)));have k:Inv X c l m {d with heap:=d.heap.push {cls:= .type "range",data:= .fields #[.int 0 d.toks,.int j t,.int 1 (d.toks+1)]},toks:=d.toks+1+1}:=v.kept λb o e=>Ph _ e;refine⟨_,[_],_,_,m,rfl,k.kept (t':=d.toks+1+1) λb o e=>Ph _ e,vQ _ j.toNat,?_,λb y=>?_,q⟩
 ·show WT _ _ (((j.toNat:Nat):Int)-1+((0:Nat):Int)*-1) (((j.toNat:Nat):Int)-((0:Nat):Int)) (-1)
  rw[show((j.toNat:Nat):Int)-1+((0:Nat):Int)*-1=j-1 by omega,show((j.toNat:Nat):Int)-((0:Nat):Int)=j by omega];exact PP _ rfl
 ·cases Qi.mp y
  exact k.fpOk (Pt _) (k.hok.fresh (Pt _))
noncomputable def iA(n:Nat):List D:=(Pq n).map λ(i:Nat)=> .int ((n:Int)-1-i)
theorem x9:ItD K (Itd n) F H (iA n):=λe f β2 t fr i=>by
 refine⟨λd hd=>?_,λa=>?_⟩
 ·unfold iA at hd
  have a:i<n:=by
   have:=(Px.mp hd).1;simpa using this
  rw[Pi,QO a]at hd;cases hd;exact⟨a,λx g ⟨b,c⟩=>by subst b c;exact⟨bQ.refl _,rfl⟩⟩
 ·show n<=i
  rw[a];simp[iA]
def tF:List D->Option (List D)
 |[.int j]=>if(decide (0<=j)&&decide (j<2^62))=Pe then on (iA j.toNat)else Pb
 |_=>Pb
theorem EC(b:Gl X "reversed")(c:X.mg "reversed"=Pb)(j:Gl X "range")(hm:X.mg "range"=Pb)(ha:PA X [a] (tVA X.K g E))(hs:PH [a] X.env=[(Pj,QS a X.env)]:=by rfl)
  (d:PH [.Call (.Name "range" p) [a] [] pos] X.env=[(Pj,QS (.Call (.Name "range" p) [a] [] pos) X.env)]:=by rfl):PI X tg (.Call (.Name "reversed" p2) [.Call (.Name "range" p) [a] [] pos] [] pos2) (iV X.K (bN tF g) E):=
 (zn b c j hm ha hs d).imp λq H R f=>ex6 f λF δ β fr m h=>⟨F,δ,β,fr,m,(run.bind (R:=DenL X.K F) h).mono λvs n f=>by
  obtain⟨ds,β1,t,hd,r1⟩:=f;obtain⟨l,e,k⟩:=run.ofO r1;unfold tF at e;split at e
  ·split at e
   ·rename_i i
    cases e;simp only[Qj,Qx]at i;obtain⟨v,rfl,o⟩:=DenL.one hd;cases o.int;exact⟨_,rfl,i.1,i.2,k _ n (To.refl t.fr) x9⟩
   ·cases e
  ·cases e⟩
variable{e m:Expr}{te tm:TE}{pos p2:Uj}
theorem CQ(a:List Pl):YA a.toArray Pb Pb (on (-1))=a.reverse.toArray:=by
 have b:Tj Pb Pb (on (-1)) a.toArray.size=((a.length:Int)-1,-1,-1):=by simp[Tj]
 unfold YA;rw[b];refine QN _ ?_;have c:sliceRange ((a.length:Int)-1) (-1) (-1)=(Pq a.length).map λk=>a.length-1-k:=by
  unfold sliceRange;have d:(if(-1:Int)>0 then(if(a.length:Int)-1< -1 then(-1-((a.length:Int)-1)+-1-1)/ -1 else 0)else(if(a.length:Int)-1>-1 then((a.length:Int)-1- -1- -1-1)/(- -1)else 0)).toNat=a.length:=by
   rw[Po (by decide)];split
   ·rw[show(- -1:Int)=1 by decide,Int.ediv_one];omega
   ·omega
  simp only[d];exact P5 λk _=>by omega
 show(sliceRange ((a.length:Int)-1) (-1) (-1)).filterMap _=_;rw[c,List.filterMap_map];rcases a with _|⟨x,r⟩
 ·rfl
 generalize j:x::r=a;rw[vj (g:=λk=>a.getD (a.length-1-k) x) λk f=>by
  have:k<a.length:=PY.mp f;simp only[UA,Vp];rw[Pf,Pd (by omega)];rfl]
 refine RH (by simp) λi h l=>?_;have n:i<a.length:=by simpa using h
 rw[SB,SG,XJ,Pf,Pd (by omega)];rfl
def tRev(K:PZ)(te tm:TE):TE:=λc H Q=>te c H λx d=>tm c d λy b=>∃a xs,x= .ref a/\y= .int (-1)/\SqL K b a xs/\∀p,b p=Pb->Q (.ref p) (upd b p (.lst xs.reverse))
theorem LW(l:PE X e te)(hm:PE X m tm):PE X (.Subscript e (.Slice Pb Pb (on m) p2) pos) (tRev X.K te tm):=by
 intro c s f H Q I h;refine Subscript_ (thn (l c s f H _ I h) λv n o=>?_);obtain⟨x,p,r,r1,q1⟩:=o;refine wpAny_Slice ?_;rw[X8];refine Pc (Pc ?_);rw[evalPart_some];refine thn (hm c n f p _ r q1) λu d B=>?_;obtain⟨y,C,g,F,a,xs,rfl,rfl,sq,q⟩:=B;cases r1;obtain⟨t,rfl⟩:=F;obtain⟨its,i,pl,j⟩:=g.list sq;have k:Inv X c f C {d with heap:=d.heap.push {cls:= .type "slice",data:= .fields #[.none,.none,.int (-1) t]}}:=g.kept (t':=d.toks) λb J q=>Ph _ q;show PN (Qc X.prog X.w) X.A (Yb e (.Slice Pb Pb (on m) p2) (.ref a) (.ref d.heap.objs.size)) (EP X c f Q) X.xe {d with heap:=d.heap.push {cls:= .type "slice",data:= .fields #[.none,.none,.int (-1) t]}};refine tail_any (ops:=[.ref a,.ref d.heap.objs.size]) (pl.isList.push _).typeIs slot_list_getitem.lookup (Yc (pl.isList.push _) (Wj ..) .none .none (.int (-1) t) (by simp) ?_ (by rw[PV,←i.length];exact j)) (by with_unfolding_all rfl)
 rw[CQ];exact⟨.ref _,_,k.lnew (t':=d.toks) (its:=its.reverse) (ys:=xs.reverse) i.reverse (by rw[XZ];exact j),rfl,q _ (k.hok.fresh (Pt _))⟩
noncomputable def LG:D->D->Option D
 | .lst ds,.int (-1)=>on (.lst ds.reverse)
 |_,_=>Pb
theorem DenL.reverse:∀{ds:List D} {xs:List V},DenL K F H ds xs->DenL K F H ds.reverse xs.reverse
 |[],xs,h=>by have q:xs=[]:=h;subst q;exact DenL.nil
 |d::ds,xs,h=>by
  obtain⟨x,r,rfl,a,b⟩:=h;rw[UN,UN];exact DenL.append (DenL.reverse b) (DenL.cons a DenL.nil)
theorem Ob(o:PE X e (tV X.K f E))(hm:PE X m (tV X.K g E)):PE X (.Subscript e (.Slice Pb Pb (on m) p2) pos) (tV X.K (f2 LG f g) E):=
 (LW o hm).imp λu H Q b=>ex6 b λF δ β fr l h=>⟨F,δ,β,fr,l,(run.bind (R:=Den X.K F) h).mono λv y b=>ex5 b λd β1 t hd r1=>⟨F,δ,β1,t.fr,l.tr (t.tr fr),(run.bind (R:=Den X.K F) r1).mono λA B b=>ex5 b λd2 β2 i j q=>by
  obtain⟨z,c,k⟩:=run.ofO q;unfold LG at c;split at c
  ·cases c
   obtain⟨a,xs,rfl,sq,r⟩:=Den.sqL (Den.tr (i.tr t.fr) _ _ hd);cases j.int;exact⟨a,xs,rfl,rfl,sq,λp n=>k _ _ (i.fr.upd _ n) (Den.newL i.fr n (DenL.reverse r))⟩
  ·cases c⟩⟩
end
end L2.Pu
namespace L2.Pu
open PySem
theorem hu2{A:QP}(a:Room k A):A.units+2<UY:=RT (Yl (by decide:2<=64) _) a.units
open PySem.Spec PyProof.Rows L2.Hs
section
variable{X:Cx}{E:St->XK}{ke ve target iter:Expr}{ifs:List Expr}{rest:List Rm}{scope:Scope}{pos:Uj}{Nc vars:List Qn}{caps:List Nat}{g:TG}{tb:Pk->TB}
theorem J7{kb:Bool}{b d:Uj}(y:X.N.Nodup)(k:X.N[i]?=on x)(B:Loc X.env.scope x)(F:X.calm=Pe)(S:CmpScope X scope Nc vars caps)(L:PI X target iter wi)
  (O:∀(cl:List (Qn×Pk)) (C:Pk) (j:List Pk) (s:Pr) (H:Hp),PG (aI X Nc scope cl C j s H) target g/\dU (aI X Nc scope cl C j s H) ifs tt/\∀D,PB (aI X Nc scope cl C j s H) (.D ke ve) (⟨target,iter,ifs,0⟩::rest) scope pos 0 D (tb D))
  (l:Uo (.DictComp ke ve (⟨target,iter,ifs,0⟩::rest) scope pos) (on (.Name x b)) d.line X.env=RZ Pe:=by rfl)
  (hs:∀x,QA iter X.env x=RZ x:=by intro _;rfl) (R:X.fn x=Pe\/X.env.scope.names.lookup x=on .local:=by first|exact .inl rfl|exact .inr rfl|assumption):
  PS X (.Assign [.Name x b] (.DictComp ke ve (⟨target,iter,ifs,0⟩::rest) scope pos) d) (jP (lU (λD=>dW D kb 0 []) vars caps wi λD J=>di J g tt (tb D)) (fY i)):=by
 intro f s U H D I h;rw[exec_Assign_Name_used _ _ _ _ l];refine My (Sf (My ?_));show PN _ X.A (do let _ ←comprehension (.DictComp ke ve (⟨target,iter,ifs,0⟩::rest) scope pos) scope X.env _ newDict Pj (QS iter X.env) (on (UH (.Name x b) X.env))) _ _ s
 refine My (QG (SE (use:=on (UH (.Name x b) X.env)) (Q:=λ_ s'=>SP X f D .next s') rfl hs (S.clo I.ok) S.kind S.loc
  (QG (L f s U H _ I h) (λv s1 W=>QG W (λY Z n=>?_) λ_ _ e=>e) λ_ _ e=>e)) (λ_ s' hq=>Pc (Pc hq)) λ_ _ e=>e)
 obtain⟨it,j,tn,J,H2,e,o,T,p,f2,q⟩:=n;subst e;refine g9 (c:= .D ke ve) uV (RR:=λacc C=>Xu (Qc X.prog X.w) X.A X.xe (on (UH (.Name x b) X.env)) _ acc C) F S O o T p f2 q λA C s' H' m I' ns r q'=>?_;show PN _ X.A (UH (.Name x b) X.env (.ref A)) _ _ s';refine WB (lW I' y k B (v:= .ref A) rfl (λZ o n=>?_) R);obtain⟨a,sb,ha⟩:=n;have t:C≠a:=by
  rcases ha with rfl|ha
  ·exact r.2.1
  ·exact λz=>r.2.2.2.1 x a ha z.symm
 exact⟨m,ns.sameBut sb t,λh' u=>⟨_,H',o.letgo r u,q'⟩⟩
theorem y6{kb:Bool}{a c:Uj}(j:X.N.Nodup)(d:X.N[i]?=on x)(k:Loc X.env.scope x)(l:X.calm=Pe)(S:CmpScope X scope Nc vars caps)(m:PI X target iter (iV X.K it E))
  (n:∀(cl:List (Qn×Pk)) (C:Pk) (f:List Pk) (s:Pr) (H:Hp),PG (aI X Nc scope cl C f s H) target g/\dU (aI X Nc scope cl C f s H) ifs (tVT X.K tt E0)/\∀D,PB (aI X Nc scope cl C f s H) (.D ke ve) (⟨target,iter,ifs,0⟩::rest) scope pos 0 D (tb D))
  (o:cS X.K g tg) (p:dS tg) (q:∀D,ff X.K (RD X.K kb) D (tb D) b)
  (e:Uo (.DictComp ke ve (⟨target,iter,ifs,0⟩::rest) scope pos) (on (.Name x a)) c.line X.env=RZ Pe:=by rfl)
  (hs:∀x,QA iter X.env x=RZ x:=by intro _;rfl) (r:X.fn x=Pe\/X.env.scope.names.lookup x=on .local:=by first|exact .inl rfl|exact .inr rfl|assumption):
  PS X (.Assign [.Name x a] (.DictComp ke ve (⟨target,iter,ifs,0⟩::rest) scope pos) c) (tG X.K X.H₀ (dR i (gZ vars.length caps it tg tt b (lB kb))) E):=
 aO ((J7 (kb:=kb) j d k l S m n e hs r).imp λD t H h=>vA o p q h)
end
end L2.Pu
namespace L2.Hs
open PySem PySem.Spec PyProof.Rows
section
variable{X:Cx}
def LJ(K:PZ):R2:=λx y H Q=>∃a b ep xs k c,x= .ref c/\y= .ref a/\H a=on (dW a b ep xs)/\(∀x∈xs,KyS K H b x.1 x.2.1)/\KyS K H b k c/\Q (.bl (lkV xs k).isNone) H
theorem wy(i:X.A.units+2<UY):OpR X (QY .NotIn) (LJ X.K):=by
 intro c s t H x y v u Q I j l h;obtain⟨d,b,ep,xs,k,a,rfl,rfl,m,n,o,q⟩:=h;cases j;cases l;obtain⟨ys,hm,p,_,hd⟩:=mD I m n;have f:=mT (k:=k) p;show PN _ _ (do return VH (!(←contains (.ref d) (.ref a)))) _ _ s
 refine My ?_;unfold contains
 try with_reducible refine Re ?_
 refine My (Sv hm.typeIs slot_dict_contains.lookup ?_);show PN _ _ (if(on (Value.builtin "dict.__contains__")==on QL)=Pe then _ else _) _ _ s;rw[Po (by rw[beq_builtin_none];exact Pw)];refine My (wpAny_callSpecialUnlessNone?_slot (name:=RX "__contains__") hm.typeIs slot_dict_contains
  (QB slot_dict_contains hm.typeIs entry_dict_contains ?_ (args_dict_contains _ _)))
 show PN _ _ (dictGet d (.ref a)>>=_) _ _ s;refine My (wpAny_dictGet_heap (ny i) (qh I o) hm ?_);cases g:WZ ys k with
 |some r=>
  rw[g]at f;cases e:lkV xs k with
  |none=>rw[e]at f;exact f.elim
  |some z=>
   rw[e]at q;show PN _ _ (ret (.bool Pe)) _ _ _;exact Pc ⟨_,rfl,QT (Pc ⟨.bl _,H,I.tok _,rfl,q⟩)⟩
 |none=>
  rw[g]at f;cases e:lkV xs k with
  |some z=>rw[e]at f;exact f.elim
  |none=>
   rw[e]at q;show PN _ _ (Builtin.Dict.pendingKey? d (.ref a)>>=_) _ _ _;exact My (wpAny_pendingKey_other hd (Pc ⟨_,rfl,QT (Pc ⟨.bl _,H,I.tok _,rfl,q⟩)⟩))
end
end L2.Hs
namespace L2.Pu
open PySem PySem.Spec PyProof.Rows L2.Hs
section
variable{K:PZ}
def DD:D->D->Option D
 |y,.dct b ks vs=>(ig b y).map λk=> .bl (lkD ks vs k).isNone
 |_,_=>Pb
theorem OH:bh K (LJ K) DD:=λF H β Q d1 d2 d p r fr h g e k=>by
 unfold DD at e;split at e
 ·rename_i b ks vs
  cases q:ig b d1 with
  |none=>rw[q]at e;cases e
  |some f=>
   rw[q]at e;cases e;obtain⟨i,rfl⟩:=oX q;obtain⟨c,rfl,j⟩:=tW i h;unfold Den at g;obtain⟨a,ep,xs,rfl,l,rfl,m,n⟩:=g;refine⟨a,b,ep,xs,f,c,rfl,rfl,l.2,λx o=>(m x o).s,j.s,?_⟩;have:=qf (k:=f) n
   dsimp only at k
   cases q2:lkD (xs.map (·.1)) vs f with
   |none=>
    rw[q2]at this k;have t:lkV xs f=Pb:=this;rw[t];exact k _ H (To.refl fr) rfl
   |some z=>
    rw[q2]at this k;obtain⟨u,t,_⟩:=this;rw[t];exact k _ H (To.refl fr) rfl
 ·cases e
end
end L2.Pu
namespace L2.Pu
open PySem PySem.Spec PyProof.Rows
section
variable{X:Cx}{E:St->XK}{K:PZ}{st:QU}{H₀:Hp}{B:Ow}{bg:Option (Pk×Pk)}{H H':Hp}{δ:Ds}{β β':Bg}{σ:St}
def IS(i:Nat):G:=λδ β=>match δ.getD i Pb with
 |some (.grd _)=>on (.nx (δ.set i Pb),β)
 |_=>Pb
theorem Lw(h:PS X st (tE (Ll X.K "list" zg (oG i)))):PS X st (tG X.K X.H₀ (IS i) E):=h.imp λD σ H f=>by
 obtain⟨B,bg,δ,β,o,β',ok,e,q⟩:=f;unfold IS at e;split at e
 ·rename_i rows g
  cases e;obtain⟨v,d,a,rs,rfl,k,c,nd,m⟩:=ok.tell i _ (getD_some g);refine⟨_,d,.inl ⟨rfl,_,SqL.of c⟩,a,rs.map V.ref,rfl,rfl,c,?_⟩;obtain⟨b,l⟩:=ok.writeOwn (ds:=[]) (xs:=[]) d k c DenL.nil;refine q _ _ _ l {b with
   len:=by rw[Qs];exact(Qs▸b.len)
   tell:=λj s e=>by
    rw[Qz]at e;split at e
    ·split at e<;>cases e
    ·rename_i n
     exact b.tell j s (by rw[Qz,Po n];exact e)}
 ·cases e
end
end L2.Pu
namespace L2.Pu
open PySem L2.Hs
def li(k:List Int):LI->LI
 |[]=>[k]
 |x::l=>if de k x=Pe then k::x::l else if k=x then x::l else x::li k l
theorem insU_mem:∀{l:LI},y∈li k l↔y=k\/y∈l
 |[]=>by simp[li]
 |x::l=>by
  unfold li;split
  ·simp
  ·split
   ·rename_i h
    subst h;simp
   ·rw[PL,insU_mem,PL]
    exact or_left_comm
theorem wN:∀{l:LI},Up l->Up (li k l)
 |[],_=>by unfold li;exact TH _ _
 |x::l,h=>by
  obtain⟨a,b⟩:=TC.mp h;unfold li;split
  ·rename_i q
   refine TC.mpr ⟨λy hy=>?_,h⟩;rcases PL.mp hy with rfl|hy
   ·exact q
   ·exact qg q (a y hy)
  ·split
   ·exact h
   ·rename_i q1 q2
    refine TC.mpr ⟨λy hy=>?_,wN b⟩;rcases insU_mem.mp hy with rfl|hy
    ·cases q:de x y with
     |true=>rfl
     |false=>exact P6 (np (by simpa using q1) q) q2
    ·exact a y hy
def lX(ks:LI):LI:=ks.foldr li []
theorem m3:∀ks,Up (lX ks)
 |[]=> .nil
 |k::ks=>wN (m3 ks)
theorem eS:∀{ks:LI},y∈lX ks↔y∈ks
 |[]=>by simp[lX]
 |k::ks=>by
  show y∈li k (lX ks)↔_;rw[insU_mem,eS,PL]
theorem HK{l:LI}(h:Up l):l.Nodup:=h.imp λ{a b} q e=>by
 subst e;rw[iG]at q;cases q
theorem Lq{ks:LI}(b:∀k∈ks,1<=k.length){m:LI}(hm:m.length<63)(c:∀k∈ks,k∈m):kS (ks.map tpI)=on (.lst ((lX ks).map tpI)):=by
 refine CC ⟨m3 ks,RT (ml (HK (m3 ks)) λx e=>c x (eS.mp e)) hm,λk a=>⟨b k (eS.mp a),PD.mpr ⟨k,eS.mp a,rfl⟩⟩,λd hd=>?_⟩;obtain⟨k,a,rfl⟩:=PD.mp hd;exact⟨k,eS.mpr a,rfl⟩
end L2.Pu
namespace L2.Nt
noncomputable def sm{α:Type}(l:List α)(f:α->Nat):Nat:=(l.map f).sum
section
variable{α β:Type}
theorem yT{f:α->Nat}:sm [] f=0:=rfl
theorem bz{a:α}{l:List α}{f:α->Nat}:sm (a::l) f=f a+sm l f:=by unfold sm;rw[Py,P8]
theorem ux{l m:List α}{f:α->Nat}:sm (l++m) f=sm l f+sm m f:=by unfold sm;rw[Qh,Wn]
theorem dX:∀{l:List α},(∀a∈l,f a=g a)->sm l f=sm l g
 |[],_=>rfl
 |a::l,h=>by rw[bz,bz,h a Pn,dX λb c=>h b (Pg a c)]
theorem uv{g:β->α}{f:α->Nat}{l:List β}:sm (l.map g) f=sm l λb=>f (g b):=by unfold sm;rw[Pp];rfl
theorem qP{g:β->List α}{f:α->Nat}:∀{l:List β},sm (l.flatMap g) f=sm l λb=>sm (g b) f
 |[]=>rfl
 |b::l=>by rw[Qy,ux,bz,qP]
theorem v9:∀{l:List α},(sm l λ_=>0)=0
 |[]=>rfl
 |a::l=>by rw[bz,v9]
theorem yU:∀{l:List α},(sm l λa=>f a+g a)=sm l f+sm l g
 |[]=>rfl
 |a::l=>by rw[bz,bz,bz,yU];omega
theorem pC:∀{l:List α},(sm l λa=>c*f a)=c*sm l f
 |[]=>rfl
 |a::l=>by rw[bz,bz,pC,Nat.mul_add]
theorem HS:∀{n:Nat},m<=n->sm (Pq (m+1)) f=sm (Pq (n+1)) λa=>if a<=m then f a else 0
 |0,h=>by
  obtain rfl:m=0:=by omega
  exact dX λa ha=>by
   have:=PY.mp ha;rw[Ps (by omega)]
 |n+1,h=>by
  rcases Ux m (n+1)with q|q
  ·rw[SQ (n:=n+1),ux,←HS (by omega:m<=n),bz,yT,Po (by omega)]
   omega
  ·obtain rfl:m=n+1:=by omega
   exact dX λa ha=>by
    have:=PY.mp ha;rw[Ps (by omega)]
noncomputable def cm:List Nat->Nat->List (List Nat)
 |[],0=>[[]]
 |[],_+1=>[]
 |x::r,c=>(Pq (SX x c+1)).flatMap λa=>(cm r (c-a)).map (a::·)
noncomputable def less(r v:List Nat):List Nat:=Us (·-·) r v
theorem yv:sm (cm (x::r) c) f=sm (Pq (SX x c+1)) λa=>sm (cm r (c-a)) λv=>f (a::v):=by
 show sm ((Pq (SX x c+1)).flatMap λa=>(cm r (c-a)).map (a::·)) f=_;rw[qP];exact dX λa _=>uv
end
end L2.Nt
namespace L2.Nt
open L2.Pu
noncomputable def ch:Nat->Nat->Nat
 |_,0=>1
 |0,_+1=>0
 |n+1,k+1=>ch n k+ch n (k+1)
theorem qy:∀{n k:Nat},n<k->ch n k=0
 |0,k+1,_=>by simp[ch]
 |n+1,k+1,h=>by
  show ch n k+ch n (k+1)=0;rw[qy (by omega),qy (by omega)]
theorem rO(n:Nat):ch n 0=1:=by cases n<;>rfl
theorem w8:∀n,ch n n=1
 |0=>rfl
 |n+1=>by
  show ch n n+ch n (n+1)=1;rw[w8 n,qy (by omega)]
theorem ye(n:Nat):facN (n+1)=(n+1)*facN n:=SK (facN n) (n+1)
theorem mH:∀n a b:Nat,a+b=n->ch (a+b) a*(facN a*facN b)=facN (a+b)
 |n,0,b,_=>by rw[rO];simp[facN]
 |n,a+1,0,_=>by rw[Nat.add_zero,w8];simp[facN]
 |0,a+1,b+1,h=>by omega
 |n+1,a+1,b+1,h=>by
  have c:=mH n a (b+1) (by omega);have d:=mH n (a+1) b (by omega);have e:a+1+(b+1)=(a+b+1)+1:=by omega
  have f:a+(b+1)=a+b+1:=by omega
  have g:a+1+b=a+b+1:=by omega
  rw[f]at c;rw[g]at d;rw[e];show(ch (a+b+1) a+ch (a+b+1) (a+1))*(facN (a+1)*facN (b+1))=facN (a+b+1+1);rw[ye (a+b+1),X0];have i:ch (a+b+1) a*(facN (a+1)*facN (b+1))=(a+1)*facN (a+b+1):=by
   rw[←c,ye a];simp only[Ue,TV,SK]
  have j:ch (a+b+1) (a+1)*(facN (a+1)*facN (b+1))=(b+1)*facN (a+b+1):=by
   rw[←d,ye b];simp only[Ue,TV,SK]
  rw[i,j,←X0,show a+1+(b+1)=a+b+1+1 by omega]
theorem m4:sm (Pq (n+1)) f=f 0+sm (Pq n) λa=>f (a+1):=by
 rw[Xg,bz,uv]
theorem BQ:∀(x y c:Nat),(sm (Pq (c+1)) λa=>ch x a*ch y (c-a))=ch (x+y) c
 |0,y,c=>by
  rw[m4,rO,Nat.one_mul,Xm,Q4];have:(sm (Pq c) λa=>ch 0 (a+1)*ch y (c-(a+1)))=0:=(dX λa _=>by rw[qy (by omega),Xn]).trans v9;rw[this];rfl
 |x+1,y,0=>by rw[m4];simp[rO,yT]
 |x+1,y,c+1=>by
  have b:=BQ x y (c+1);have d:=BQ x y c;rw[m4]at b;rw[m4];have e:(sm (Pq (c+1)) λa=>ch (x+1) (a+1)*ch y (c+1-(a+1)))=(sm (Pq (c+1)) λa=>ch x a*ch y (c-a))+sm (Pq (c+1)) λa=>ch x (a+1)*ch y (c+1-(a+1)):=by
   rw[←yU];refine dX λa _=>?_;show(ch x a+ch x (a+1))*_=_;rw[X0,Nat.add_sub_add_right]
  rw[e,d];have f:x+1+y=x+y+1:=by omega
  rw[f];show _=ch (x+y) c+ch (x+y) (c+1);rw[←b,rO,rO];omega
theorem vdm(x y c:Nat):(sm (Pq (SX x c+1)) λa=>ch x a*ch y (c-a))=ch (x+y) c:=by
 rw[HS (Nat.min_le_right x c),←BQ];refine dX λa ha=>?_;have:=PY.mp ha;by_cases q:a<=x
 ·rw[Ps (by omega)]
 ·rw[Po (by omega),qy (by omega),Xn]
def pc:List Nat->List Nat->Nat
 |x::r,a::v=>ch x a*pc r v
 |_,_=>1
theorem zt:∀(r:List Nat) (c:Nat),sm (cm r c) (pc r)=ch r.sum c
 |[],0=>rfl
 |[],c+1=>rfl
 |x::r,c=>by
  rw[yv,P8,←vdm];exact dX λa _=>by rw[←zt r (c-a),←pC];rfl
theorem gy:∀{r:List Nat} {c:Nat} {v:List Nat},v∈cm r c->v.sum=c/\(less r v).sum+c=r.sum/\v.length=r.length/\pr (r.map facN)=pc r v*(pr (v.map facN)*pr ((less r v).map facN))
 |[],0,v,h=>by cases Qi.mp h;exact⟨rfl,rfl,rfl,rfl⟩
 |[],c+1,v,h=>by cases h
 |x::r,c,v,h=>by
  have h':v∈(Pq (SX x c+1)).flatMap λa=>(cm r (c-a)).map (a::·):=h;obtain⟨a,ha,d⟩:=Rl.mp h';obtain⟨u,e,rfl⟩:=PD.mp d;have f:=PY.mp ha;obtain⟨g,i,j,k⟩:=gy e;refine⟨by rw[P8,g];omega,?_,by rw[Pz,j,Pz],?_⟩
  ·show((x-a)::less r u).sum+c=_
   rw[P8,P8,←i];omega
  ·show facN x*pr (r.map facN)=(ch x a*pc r u)*((facN a*pr (u.map facN))*(facN (x-a)*pr ((less r u).map facN)))
   have b:=mH x a (x-a) (by omega);rw[show a+(x-a)=x by omega]at b;rw[k,←b];simp only[Ue,TV,SK]
def mu:List Nat->Nat
 |[]=>1
 |x::r=>ch (x+r.sum) x*mu r
theorem i5:∀r:List Nat,mu r*pr (r.map facN)=facN r.sum
 |[]=>rfl
 |x::r=>by
  show(ch (x+r.sum) x*mu r)*(facN x*pr (r.map facN))=facN (x::r).sum;rw[P8,←mH _ x r.sum rfl,←i5 r];simp only[Ue,TV,SK]
theorem q8(r:List Nat):0<pr (r.map facN):=zi λx a=>by
 obtain⟨n,_,rfl⟩:=PD.mp a;exact nM n
theorem Mn(r:List Nat):facN r.sum/pr (r.map facN)=mu r:=by rw[←i5,Nat.mul_div_cancel _ (q8 r)]
def dls:List Nat->List Nat->Nat
 |_,[]=>1
 |r,c::cs=>sm (cm r c) λv=>mu v*dls (less r v) cs
theorem HF:∀{r:List Nat},r.sum=0->mu r=1
 |[],_=>rfl
 |x::r,h=>by
  rw[P8]at h;obtain rfl:x=0:=by omega
  show ch _ 0*mu r=1;rw[rO,HF (by omega)]
theorem mC:∀(cs r:List Nat),r.sum=cs.sum->dls r cs=mu r
 |[],r,h=>(HF h).symm
 |c::cs,r,h=>by
  rw[P8]at h;refine Nat.eq_of_mul_eq_mul_right (q8 r) ?_;rw[i5];show sm (cm r c) (λv=>mu v*dls (less r v) cs)*_=_;rw[SK,←pC];have e:(sm (cm r c) λv=>pr (r.map facN)*(mu v*dls (less r v) cs))=sm (cm r c) λv=>(facN c*facN (r.sum-c))*pc r v:=by
   refine dX λv a=>?_;obtain⟨b,f,g,d⟩:=gy a;rw[mC cs (less r v) (by omega),d];have m1:=i5 v;have m2:=i5 (less r v);rw[b]at m1;rw[show(less r v).sum=r.sum-c by omega]at m2;rw[←m1,←m2];simp only[Ue,TV,SK]
  rw[e,pC,zt,SK];have:=mH r.sum c (r.sum-c) (by omega);rw[show c+(r.sum-c)=r.sum by omega]at this;exact this
def LeN:List Nat->List Nat->Prop
 |[],[]=>True
 |a::v,x::r=>a<=x/\LeN v r
 |_,_=>False
theorem LeN.refl:∀r,LeN r r
 |[]=>trivial
 |_::r=>⟨Pt _,LeN.refl r⟩
theorem LeN.tr:∀{u v r:List Nat},LeN u v->LeN v r->LeN u r
 |[],[],[],_,_=>trivial
 |_::_,_::_,_::_,h,q=>⟨P3 h.1 q.1,h.2.tr q.2⟩
 |[],_::_,_,h,_=>h.elim
 |_::_,[],_,h,_=>h.elim
 |[],[],_::_,_,q=>q.elim
 |_::_,_::_,[],_,q=>q.elim
theorem LeN.len:∀{v r:List Nat},LeN v r->v.length=r.length
 |[],[],_=>rfl
 |_::_,_::_,h=>QN (·+1) h.2.len
 |[],_::_,h=>h.elim
 |_::_,[],h=>h.elim
theorem LeN.less:∀{v r:List Nat},LeN v r->LeN (less r v) r
 |[],[],_=>trivial
 |a::v,x::r,h=>⟨Nat.sub_le x a,h.2.less⟩
 |[],_::_,h=>h.elim
 |_::_,[],h=>h.elim
theorem LeN.pr:∀{v r:List Nat},LeN v r->L2.Pu.pr (v.map (·+1))<=L2.Pu.pr (r.map (·+1))
 |[],[],_=>Pt _
 |_::_,_::_,h=>Nat.mul_le_mul (Nat.succ_le_succ h.1) h.2.pr
 |[],_::_,h=>h.elim
 |_::_,[],h=>h.elim
theorem LeN.sum:∀{v r:List Nat},LeN v r->v.sum<=r.sum
 |[],[],_=>Pt _
 |_::_,_::_,h=>by rw[P8,P8];exact WL h.1 h.2.sum
 |[],_::_,h=>h.elim
 |_::_,[],h=>h.elim
theorem cK:∀{r:List Nat} {c:Nat} {v:List Nat},v∈cm r c->LeN v r
 |[],0,v,h=>by cases Qi.mp h;exact trivial
 |[],c+1,v,h=>by cases h
 |x::r,c,v,h=>by
  have h':v∈(Pq (SX x c+1)).flatMap λa=>(cm r (c-a)).map (a::·):=h;obtain⟨a,ha,b⟩:=Rl.mp h';obtain⟨u,d,rfl⟩:=PD.mp b;have e:=PY.mp ha;exact⟨by omega,cK d⟩
theorem lf:∀{r v:List Nat},LeN v r->v∈cm r v.sum
 |[],[],_=>Qi.mpr rfl
 |x::r,a::v,h=>by
  refine Rl.mpr ⟨a,PY.mpr (by rw[P8];have:=h.1;omega),PD.mpr ⟨v,?_,rfl⟩⟩;rw[P8,U8];exact lf h.2
 |[],_::_,h=>h.elim
 |_::_,[],h=>h.elim
theorem iI{α a:Type}{f:α->List a}{n:Nat}:∀{l:List α},(∀x∈l,(f x).length<=n)->(l.flatMap f).length<=l.length*n
 |[],_=>by simp
 |x::l,h=>by
  rw[Qy,PM,Pz,Nat.succ_mul,Xj];exact WL (iI λy b=>h y (Pg _ b)) (h x Pn)
theorem kN:∀(r:List Nat) (c:Nat),(cm r c).length<=pr (r.dropLast.map (·+1))
 |[],0=>Pt _
 |[],_+1=>QV _
 |[x],c=>by
  have h:cm [x] c=(Pq (SX x c+1)).flatMap λa=>(cm [] (c-a)).map (a::·):=rfl;rw[h,SQ,RC,PM];have e:((Pq (SX x c)).flatMap λa=>(cm [] (c-a)).map (a::·))=[]:=by
   refine TF.mpr λa ha=>?_;have:=PY.mp ha;obtain⟨n,hn⟩:∃n,c-a=n+1:=⟨c-a-1,by omega⟩;rw[hn];rfl
  rw[e];cases q:c-SX x c<;>simp[cm,q,pr]
 |x::y::r,c=>by
  have h:=iI (l:=Pq (SX x c+1)) (f:=λa=>(cm (y::r) (c-a)).map (a::·)) (n:=pr ((y::r).dropLast.map (·+1))) λa _=>by rw[Pa];exact kN (y::r) (c-a)
  rw[P0]at h;refine P3 h ?_;show _<=(x+1)*pr ((y::r).dropLast.map (·+1));exact Uf _ (by omega)
theorem lx{α β a:Type}{f:α->List β}{g:β->List a}(l:List α):(l.flatMap f).flatMap g=l.flatMap λx=>(f x).flatMap g:=List.flatMap_assoc
theorem tK(r:List Nat)(k:Nat):pr ((r.take k).map (·+1))<=pr (r.map (·+1)):=by
 conv=>rhs;rw[←Sd k r,Qh,zj]
 exact U9 _ (zi λx a=>by
  obtain⟨n,_,rfl⟩:=PD.mp a;omega)
theorem tP(l:List Nat):(nI l).map Int.toNat=l:=by
 rw[Pp];exact(P5 λx _=>rfl).trans (Vv l)
theorem gX(h:nI l=nI m):l=m:=by rw[←tP l,h,tP]
theorem zJ{α a:Type}{f:α->a}{l:List α}(h:(l.map f).Nodup):l.Nodup:=(UM.mp h).imp λq e=>q (QN f e)
theorem uS{α c:Type}{f:α->c}(inj:∀a b,f a=f b->a=b){l:List α}(h:l.Nodup):(l.map f).Nodup:=UM.mpr (h.imp λq e=>q (inj _ _ e))
theorem gb{cs:List Nat}(h:k<cs.length):cs.drop k=cs.getD k 0::cs.drop (k+1):=by
 rw[Qr h,Pf,Pd h];rfl
noncomputable def okB:List (Nat×Nat)->List Nat->Bool
 |p::ps,a::v=>decide (p.1<=a)&&decide (a<=p.2)&&okB ps v
 |_,_=>Pe
def vB(ps:List (Nat×Nat))(r:List Nat)(c:Nat):List (List Nat):=(cm r c).filter (okB ps)
theorem La(h:v∈vB ps r c):v∈cm r c:=(R1.mp h).1
theorem qL{p:Nat×Nat}:vB (p::ps) (x::r) c=(Pq (SX x c+1)).flatMap λa=>if p.1<=a/\a<=p.2 then(vB ps r (c-a)).map (a::·)else[]:=by
 show((Pq (SX x c+1)).flatMap λa=>(cm r (c-a)).map (a::·)).filter (okB (p::ps))=_;rw[XX];refine QN (Xe · _) (funext λa=>?_);rw[Wl];by_cases q:p.1<=a/\a<=p.2
 ·rw[Ps q]
  refine QN (QI (a::·)) (YG λv _=>?_);show(decide (p.1<=a)&&decide (a<=p.2)&&okB ps v)=okB ps v;rw[PX q.1,PX q.2];rfl
 ·rw[Po q,Xd.mpr,Rk]
  intro v _ h;have h:(decide (p.1<=a)&&decide (a<=p.2)&&okB ps v)=Pe:=h;simp only[Qj,Qx]at h;exact q h.1
noncomputable def tps:List (Nat×Nat)->List Nat->List Nat
 |p::ps,x::r=>SX x p.2::tps ps r
 |_,_=>[]
noncomputable def los(ps:List (Nat×Nat)):List Nat:=ps.map (·.1)
theorem HJ:∀{ps:List (Nat×Nat)} {r:List Nat} {c:Nat} {v:List Nat},ps.length=r.length->v∈vB ps r c->(los ps).sum<=c/\c<=(tps ps r).sum
 |[],[],c,v,_,h=>by
  have:=gy (La h);simp at this;simp[los,tps];omega
 |p::ps,x::r,c,v,e,h=>by
  rw[qL]at h;obtain⟨a,ha,h⟩:=Rl.mp h;by_cases q:p.1<=a/\a<=p.2
  ·rw[Ps q]at h
   obtain⟨u,b,rfl⟩:=PD.mp h;have i:=HJ (by simpa using e) b;have:=PY.mp ha;simp only[los,tps,Py,P8]at i⊢;omega
  ·rw[Po q]at h;cases h
noncomputable def nxB(x:Nat)(p:Nat×Nat)(few a:Nat)(b:List Nat×Nat):List (List Nat×Nat):=(Pq (SX (SX x p.2+few) b.2+1-few-Yz p.1 (b.2-a))).map λi=>(b.1++[Yz p.1 (b.2-a)+i],b.2-(Yz p.1 (b.2-a)+i))
def stB(ps:List (Nat×Nat))(r:List Nat)(c:Nat):Nat->List (List Nat×Nat)
 |0=>[([],c)]
 |k+1=>(stB ps r c k).flatMap (nxB (r.getD k 0) (ps.getD k (0,0)) ((los ps).drop (k+1)).sum ((tps ps r).drop (k+1)).sum)
theorem my{b:Type}{f:Nat->List b}{lo n N:Nat}(h:∀a<N,f a≠[]->lo<=a/\a<n)(hn:n<=N):(Pq N).flatMap f=(Pq (n-lo)).flatMap λi=>f (lo+i):=by
 have e:∀{a},a<N->¬(lo<=a/\a<n)->f a=[]:=λ{a} ha q=>Uh λz=>q (h a ha z);obtain⟨d,rfl⟩:∃d,N=n+d:=⟨N-n,by omega⟩;have z:(Pq d).flatMap (λa=>f (n+a))=[]:=TF.mpr λa ha=>e (by have:=PY.mp ha;omega) (by omega);rw[List.range_add,RC,T1,z,Qe];rcases Nat.le_total lo n with q|q
 ·obtain⟨m,rfl⟩:∃m,n=lo+m:=⟨n-lo,by omega⟩
  rw[List.range_add,RC,TF.mpr λa ha=>e (by have:=PY.mp ha;omega) (by have:=PY.mp ha;omega),QZ,T1,U8]
 ·rw[show n-lo=0 by omega,TF.mpr λa ha=>e (by have:=PY.mp ha;omega) (by have:=PY.mp ha;omega)];rfl
theorem um:∀{ps:List (Nat×Nat)} {r:List Nat} (k:Nat),tps (ps.drop k) (r.drop k)=(tps ps r).drop k
 |_,_,0=>rfl
 |[],r,k+1=>by simp[tps]
 |p::ps,[],k+1=>by cases h:(ps.drop k)<;>simp[tps,h]
 |p::ps,x::r,k+1=>um k
theorem d7{α:Type}{l:List α}{k:Nat}{d:α}(h:k<l.length):l.getD k d=l[k]:=by rw[Pf,Pd h];rfl
theorem dG{α a:Type}{f g:α->List a}:∀{l:List α},(∀x∈l,f x=g x)->l.flatMap f=l.flatMap g
 |[],_=>rfl
 |x::l,h=>by rw[Qy,Qy,h x Pn,dG λy b=>h y (Pg _ b)]
theorem v8{ps:List (Nat×Nat)}{r:List Nat}(e:ps.length=r.length)(c:Nat):∀k,k<=r.length->((stB ps r c k).flatMap λb=>(vB (ps.drop k) (r.drop k) b.2).map (b.1++·))=vB ps r c
 |0,_=>by simp[stB]
 |k+1,h=>by
  rw[←v8 e c k (by omega)];show((stB ps r c k).flatMap _).flatMap _=_;rw[lx];refine QN (Xe · (stB ps r c k)) (funext λb=>?_);have g:k<r.length:=by omega
  have j:k<ps.length:=by omega
  rw[Qr g,Qr j,d7 g,d7 j,qL,RI];rw[my (f:=λa=>(if ps[k].1<=a/\a<=ps[k].2 then(vB (ps.drop (k+1)) (r.drop (k+1)) (b.2-a)).map (a::·)else[]).map (b.1++·)) (N:=SX r[k] b.2+1) (lo:=Yz ps[k].1 (b.2-((tps ps r).drop (k+1)).sum)) (n:=SX (SX r[k] b.2+1) (SX (SX r[k] ps[k].2+((los ps).drop (k+1)).sum) b.2+1-((los ps).drop (k+1)).sum)) (λa o ha=>?_) (Nat.min_le_left _ _)]
  ·unfold nxB
   rw[T1,show SX (SX r[k] b.2+1) (SX (SX r[k] ps[k].2+((los ps).drop (k+1)).sum) b.2+1-((los ps).drop (k+1)).sum)=SX (SX r[k] ps[k].2+((los ps).drop (k+1)).sum) b.2+1-((los ps).drop (k+1)).sum by omega];refine dG λi l=>?_;have:=PY.mp l;rw[Ps (by omega),Pp];exact P5 λv _=>by simp
  ·by_cases q:ps[k].1<=a/\a<=ps[k].2
   ·rw[Ps q]at ha
    obtain⟨w,d⟩:=List.exists_mem_of_ne_nil _ ha;obtain⟨w,d,_⟩:=PD.mp d;obtain⟨v,m,_⟩:=PD.mp d;have:=HJ (by simp[e]) m;rw[um]at this;unfold los at this⊢;rw[T6]at this;omega
   ·rw[Po q]at ha;exact P6 rfl ha
theorem K9(c:Nat):vB [] [] c=if(c:Int)=0 then[[]]else[]:=by
 cases c with
 |zero=>rfl
 |succ n=>rw[Po (by omega)];rfl
theorem JR{ps:List (Nat×Nat)}{r:List Nat}(a:ps.length=r.length)(c:Nat):((stB ps r c r.length).filter λb=>decide ((b.2:Int)=0)).map (·.1)=vB ps r c:=by
 rw[←v8 a c r.length (Pt _),SA,←a,SA,a];generalize stB ps r c r.length=l
 induction l with
 |nil=>rfl
 |cons b l ih=>
  rw[Qy,T0,←ih,K9];by_cases q:(b.2:Int)=0
  ·rw[Ps q,Ps (PX q)];simp
  ·rw[Po q,Po (by simp;omega)];rfl
theorem v7{r:List Nat}(c:Nat):∀k,k<=r.length->(stB ps r c k).length<=pr ((r.take k).map (·+1))
 |0,_=>Pt _
 |k+1,h=>by
  have e:r[k]?=on r[k]:=Pd (by omega);rw[m9 e];refine P3 (iI (n:=r[k]+1) λb _=>?_) (Uf _ (v7 c k (by omega)));unfold nxB;rw[Pa,P0,d7 (show k<r.length by omega)];omega
theorem yQ(ps:List (Nat×Nat))(r:List Nat)(c:Nat):∀k,∀b∈stB ps r c k,b.2<=c/\b.1.length=k
 |0,b,h=>by cases Qi.mp h;exact⟨Pt _,rfl⟩
 |k+1,b,h=>by
  obtain⟨d,hd,a⟩:=Rl.mp (show b∈(stB ps r c k).flatMap _ from h);obtain⟨i,_,rfl⟩:=PD.mp a;obtain⟨q1,q2⟩:=yQ ps r c k d hd;exact⟨by show d.2-_<=c;omega,by rw[PM,q2];rfl⟩
theorem yD:∀{ps:List (Nat×Nat)} {r:List Nat},(tps ps r).sum<=r.sum
 |[],r=>QV _
 |_::_,[]=>Pt _
 |p::ps,x::r=>by
  have:=yD (ps:=ps) (r:=r);simp only[tps,P8];omega
abbrev Wy:=Nat->List Nat->List (List Nat)
def WOk(cs:List Nat)(W:Wy):Prop:=∀k r,(W k r).Sublist (cm r (cs.getD k 0))
def nwI(W:Wy)(L:List (List Nat))(k:Nat):LI:=L.flatMap λr=>(W k r).map λv=>nI (less r v)
def nwL(W:Wy)(L:List (List Nat))(k:Nat):List (List Nat):=(lX (nwI W L k)).map λk=>k.map Int.toNat
section
variable{W:Wy}{cs rs:List Nat}
theorem ku:y∈nwI W L k↔∃r∈L,∃v∈W k r,y=nI (less r v):=by
 unfold nwI;constructor
 ·intro h
  obtain⟨r,a,h⟩:=Rl.mp h;obtain⟨v,b,rfl⟩:=PD.mp h;exact⟨r,a,v,b,rfl⟩
 ·rintro⟨r,a,v,b,rfl⟩
  exact Rl.mpr ⟨r,a,PD.mpr ⟨v,b,rfl⟩⟩
theorem xO(L:List (List Nat))(k:Nat):(nwL W L k).map nI=lX (nwI W L k):=by
 unfold nwL;rw[Pp];refine(P5 λy a=>?_).trans (Vv _);obtain⟨r,_,v,_,rfl⟩:=ku.mp (eS.mp a);show nI ((nI _).map Int.toNat)=_;rw[tP];rfl
theorem nk:u∈nwL W L k↔∃r∈L,∃v∈W k r,u=less r v:=by
 constructor
 ·intro h
  have:nI u∈lX (nwI W L k):=by rw[←xO];exact PD.mpr ⟨u,h,rfl⟩
  obtain⟨r,a,v,b,e⟩:=ku.mp (eS.mp this);exact⟨r,a,v,b,gX e⟩
 ·rintro⟨r,a,v,b,rfl⟩
  exact PD.mpr ⟨nI (less r v),eS.mpr (ku.mpr ⟨r,a,v,b,rfl⟩),tP _⟩
def lvW(W:Wy)(rs:List Nat):Nat->List (List Nat)
 |0=>[rs]
 |k+1=>nwL W (lvW W rs k) k
theorem uY:∀k,(lvW W rs k).Nodup
 |0=>TH _ _
 |k+1=>zJ (f:=nI) (by show(QI nI (nwL _ _ _)).Nodup;rw[xO];exact HK (m3 _))
theorem i8(b:WOk cs W)(hs:rs.sum=cs.sum):∀k,k<=cs.length->∀r∈lvW W rs k,LeN r rs/\r.sum=(cs.drop k).sum
 |0,_,r,h=>by cases Qi.mp h;exact⟨LeN.refl _,hs⟩
 |k+1,hk,u,h=>by
  obtain⟨r,c,v,a,rfl⟩:=nk.mp (show u∈nwL W (lvW W rs k) k from h);have a:=(b k r).subset a;obtain⟨q1,q2⟩:=i8 b hs k (by omega) r c;have q3:=(gy a).2.1;rw[q2,gb (by omega),P8]at q3;exact⟨(cK a).less.tr q1,by omega⟩
theorem Kv(a:WOk cs W)(hs:rs.sum=cs.sum)(b:k<=cs.length):(lvW W rs k).length<=pr (rs.dropLast.map (·+1)):=
 P3 (ml (uY k) (m:=cm rs (cs.drop k).sum) λr c=>by
  obtain⟨d,e⟩:=i8 a hs k b r c;rw[←e];exact lf d) (kN _ _)
theorem Kn(a:WOk cs W)(hs:rs.sum=cs.sum)(e:1<=rs.length)(f:pr (rs.dropLast.map (·+1))<63)(g:k<cs.length):kS ((nwI W (lvW W rs k) k).map tpI)=on (.lst ((lvW W rs (k+1)).map λr=>tpI (nI r))):=by
 refine(Lq (m:=(cm rs (cs.drop (k+1)).sum).map nI) ?_ (by rw[Pa];exact RT (kN _ _) f) ?_).trans ?_
 ·intro x b
  obtain⟨r,c,v,d,rfl⟩:=ku.mp b;rw[Pa,((cK ((a k r).subset d)).less.tr (i8 a hs k (by omega) r c).1).len];exact e
 ·intro x b
  obtain⟨r,c,v,d,rfl⟩:=ku.mp b;obtain⟨q1,q2⟩:=i8 a hs (k+1) g (less r v) (nk.mpr ⟨r,c,v,d,rfl⟩);exact PD.mpr ⟨less r v,by rw[←q2];exact lf q1,rfl⟩
 ·rw[←xO,Pp];rfl
def kyW(W:Wy)(rs:List Nat)(n:Nat):List (Int×List Int):=(Pq n).flatMap λk=>(lvW W rs k).map λr=>((k:Int),nI r)
theorem z6:∀n,(kyW W rs n).Nodup
 |0=>List.nodup_nil
 |n+1=>by
  unfold kyW;rw[SQ,RC,Qy,U3,Qe];refine VX.mpr ⟨z6 n,uS (λr s e=>gX (Ut.mp e).2) (uY n),λx a y b e=>?_⟩;subst e;obtain⟨k,c,h⟩:=Rl.mp a;obtain⟨r,_,rfl⟩:=PD.mp h;obtain⟨s,_,e⟩:=PD.mp b;have:=(Ut.mp e).1;have d:=PY.mp c;simp only at this;omega
def tbW(W:Wy):Nat->Nat->List Nat->Nat
 |0,_,_=>1
 |j+1,k,r=>sm (W k r) λv=>tbW W j (k+1) (less r v)
def dlW(W:Wy):Nat->Nat->List Nat->Nat
 |0,_,_=>1
 |j+1,k,r=>sm (W k r) λv=>mu v*dlW W j (k+1) (less r v)
theorem pB{α:Type}{f g:α->Nat}{l m:List α}(h:l.Sublist m)(q:∀a∈m,f a<=g a):sm l f<=sm m g:=by
 induction h with
 |slnil=>exact Pt _
 |cons a _ ih=>rw[bz];exact P3 (ih λx b=>q x (Pg _ b)) (Nat.le_add_left _ _)
 |cons_cons a _ ih=>rw[bz,bz];exact WL (q a Pn) (ih λx b=>q x (Pg _ b))
theorem vy(a:WOk cs W):∀(j k:Nat) (r:List Nat),k+j=cs.length->dlW W j k r<=dls r (cs.drop k)
 |0,k,r,h=>by rw[show k=cs.length by omega,SA];exact Pt _
 |j+1,k,r,h=>by
  rw[gb (by omega)];exact pB (a k r) λv _=>Nat.mul_le_mul_left _ (vy a j (k+1) (less r v) (by omega))
noncomputable def box:List (Nat×Nat)->List Nat->List (List Nat)
 |p::ps,x::r=>(Pq (SX p.2 x+1-p.1)).flatMap λi=>(box ps r).map ((p.1+i)::·)
 |_,_=>[[]]
theorem BC:∀{ps:List (Nat×Nat)} {r:List Nat} {c:Nat},ps.length=r.length->(box ps r).filter (λv=>decide (v.sum=c))=vB ps r c
 |[],[],c,_=>by cases c<;>rfl
 |p::ps,x::r,c,h=>by
  have h':ps.length=r.length:=by simpa using h
  rw[qL,my (lo:=p.1) (n:=SX (SX x c+1) (SX p.2 x+1)) (N:=SX x c+1) (λa d ha=>?_) (Nat.min_le_left _ _)]
  ·show((Pq (SX p.2 x+1-p.1)).flatMap λi=>(box ps r).map ((p.1+i)::·)).filter _=_
   rw[XX];have e:∀i,List.filter (λv=>decide (v.sum=c)) ((box ps r).map ((p.1+i)::·))=if p.1+i<=c then(vB ps r (c-(p.1+i))).map ((p.1+i)::·)else[]:=λi=>by
    rw[Wl];by_cases q:p.1+i<=c
    ·rw[Ps q,←BC h']
     refine QN (QI _) (YG λv _=>?_);show decide (((p.1+i)::v).sum=c)=_;rw[P8];exact decide_eq_decide.mpr (by omega)
    ·rw[Po q,Xd.mpr,Rk]
     intro v _ z;have z:decide (((p.1+i)::v).sum=c)=Pe:=z;rw[P8,Qx]at z;omega
   rw[dG λi _=>e i];rw[my (f:=λi=>if p.1+i<=c then(vB ps r (c-(p.1+i))).map ((p.1+i)::·)else[]) (lo:=0) (n:=SX (SX x c+1) (SX p.2 x+1)-p.1) (N:=SX p.2 x+1-p.1) (λa ha q=>⟨QV _,?_⟩) (by omega),Xm]
   ·refine dG λi b=>?_
    have:=PY.mp b;rw[Q4,Ps (by omega),Ps (by omega)]
   ·by_cases z:p.1+a<=c
    ·omega
    ·rw[Po z]at q;exact P6 rfl q
  ·by_cases q:p.1<=a/\a<=p.2
   ·omega
   ·rw[Po q]at ha;exact P6 rfl ha
noncomputable def gro(ps:List (Nat×Nat))(r:List Nat):Nat->List (List Nat)
 |0=>[[]]
 |k+1=>(gro ps r k).flatMap λu=>(Pq (SX (ps.getD k (0,0)).2 (r.getD k 0)+1-(ps.getD k (0,0)).1)).map λi=>u++[(ps.getD k (0,0)).1+i]
theorem wS{ps:List (Nat×Nat)}{r:List Nat}(c:ps.length=r.length):∀k,k<=r.length->((gro ps r k).flatMap λu=>(box (ps.drop k) (r.drop k)).map (u++·))=box ps r
 |0,_=>by simp[gro]
 |k+1,h=>by
  rw[←wS c k (by omega)];show((gro ps r k).flatMap _).flatMap _=_;rw[lx];refine dG λu _=>?_;have a:k<r.length:=by omega
  have b:k<ps.length:=by omega
  rw[Qr a,Qr b,d7 a,d7 b];show _=((Pq (SX ps[k].2 r[k]+1-ps[k].1)).flatMap λi=>(box (ps.drop (k+1)) (r.drop (k+1))).map ((ps[k].1+i)::·)).map (u++·);rw[RI,T1];refine dG λi _=>?_;rw[Pp];exact P5 λv _=>by simp
theorem wR{ps:List (Nat×Nat)}{r:List Nat}(a:ps.length=r.length):gro ps r r.length=box ps r:=by
 rw[←wS a r.length (Pt _),SA,←a,SA];show _=(gro ps r ps.length).flatMap λu=>[u++[]];generalize gro ps r ps.length=l
 induction l with
 |nil=>rfl
 |cons x l ih=>rw[Qy,←ih,Qe];rfl
theorem wQ{r:List Nat}:∀k,k<=r.length->(gro ps r k).length<=pr ((r.take k).map (·+1))
 |0,_=>Pt _
 |k+1,h=>by
  have e:r[k]?=on r[k]:=Pd (by omega);rw[m9 e];refine P3 (iI (n:=r[k]+1) λb _=>?_) (Uf _ (wQ k (by omega)));rw[Pa,P0,d7 (show k<r.length by omega)];omega
theorem AJ:∀k,∀u∈gro ps r k,u.length=k
 |0,b,h=>by cases Qi.mp h;rfl
 |k+1,b,h=>by
  obtain⟨d,hd,a⟩:=Rl.mp (show b∈(gro ps r k).flatMap _ from h);obtain⟨i,_,rfl⟩:=PD.mp a;rw[PM,AJ k d hd];rfl
def lst(W:Wy)(rs:List Nat):Nat->List (List (List Nat)×List Nat)
 |0=>[([],rs)]
 |k+1=>(lst W rs k).flatMap λq=>(W k q.2).map λv=>(q.1++[v],less q.2 v)
theorem yS{α:Type}:∀l:List α,(sm l λ_=>1)=l.length
 |[]=>rfl
 |x::l=>by rw[bz,yS l,Pz,Xj]
theorem zM(r:List Nat):0<mu r:=Nat.pos_of_ne_zero λz=>by
 have:=i5 r;rw[z,Xn]at this;have:=nM r.sum;omega
theorem uZ(b:WOk cs W)(hs:rs.sum=cs.sum):∀k,k<=cs.length->∀q∈lst W rs k,LeN q.2 rs/\q.2.sum=(cs.drop k).sum/\q.1.length=k
 |0,_,q,h=>by cases Qi.mp h;exact⟨LeN.refl _,hs,rfl⟩
 |k+1,hk,u,h=>by
  obtain⟨q,c,d⟩:=Rl.mp (show u∈(lst W rs k).flatMap _ from h);obtain⟨v,a,rfl⟩:=PD.mp d;have a:=(b k q.2).subset a;obtain⟨q1,q2,q3⟩:=uZ b hs k (by omega) q c;have q4:=(gy a).2.1;rw[q2,gb (by omega),P8]at q4;exact⟨(cK a).less.tr q1,by show(less q.2 v).sum=_;omega,by rw[PM,q3];rfl⟩
theorem zP(a:WOk cs W):∀k,k<=cs.length->(sm (lst W rs k) λq=>dls q.2 (cs.drop k))<=dls rs cs
 |0,_=>Pt _
 |k+1,h=>by
  refine P3 ?_ (zP a k (by omega));show sm ((lst W rs k).flatMap _) _<=_;rw[qP];refine pB (Vo _) λq _=>?_;rw[uv,gb (k:=k) (by omega)];exact pB (a k q.2) λv _=>Nat.le_mul_of_pos_left _ (zM v)
theorem wG(a:WOk cs W)(hs:rs.sum=cs.sum)(b:k<=cs.length):(lst W rs k).length<=mu rs:=by
 rw[←mC cs rs hs,←yS];refine P3 (pB (Vo _) λq c=>?_) (zP a k b);rw[mC _ _ (uZ a hs k b q c).2.1];exact zM _
def stW(W:Wy)(j k:Nat)(r:List Nat):List (List Nat):=(W k r).filter λv=>decide ((0:Int)<((tbW W j (k+1) (less r v):Nat):Int))
def fal(f:List Nat->Nat):List (List Nat)->Nat->List Nat×Nat
 |[],n=>([],n)
 |v::l,n=>if n<f v then(v,n)else fal f l (n-f v)
theorem vp:∀{l:List (List Nat)} {n:Nat},n<sm l f->(fal f l n).1∈l/\(fal f l n).2<f (fal f l n).1
 |[],n,h=>by cases h
 |v::l,n,h=>by
  unfold fal;rw[bz]at h;by_cases q:n<f v
  ·rw[Ps q];exact⟨Pn,q⟩
  ·rw[Po q]
   obtain⟨a,b⟩:=vp (f:=f) (l:=l) (n:=n-f v) (by omega);exact⟨Pg _ a,b⟩
def ktW(W:Wy):Nat->Nat->List Nat->Nat->List (List Nat)
 |0,_,_,_=>[]
 |j+1,k,r,n=>(fal (λv=>tbW W j (k+1) (less r v)) (stW W j k r) n).1::ktW W j (k+1) (less r (fal (λv=>tbW W j (k+1) (less r v)) (stW W j k r) n).1) (fal (λv=>tbW W j (k+1) (less r v)) (stW W j k r) n).2
def Wk(W:Wy):Nat->List Nat->List (List Nat)->Prop
 |_,_,[]=>True
 |k,r,v::vs=>v∈W k r/\Wk W (k+1) (less r v) vs
theorem uw{α:Type}{f:α->Nat}:∀{l:List α},sm (l.filter λv=>decide ((0:Int)<((f v:Nat):Int))) f=sm l f
 |[]=>rfl
 |v::l=>by
  rw[T0];by_cases q:(0:Int)<((f v:Nat):Int)
  ·rw[Ps (PX q),bz,bz,uw]
  ·rw[Po (λz=>q (Sk z)),bz,uw];omega
theorem yP(j k:Nat)(r:List Nat):(sm (stW W j k r) λv=>tbW W j (k+1) (less r v))=tbW W (j+1) k r:=uw
theorem kz:∀{j k n:Nat} {r:List Nat},(ktW W j k r n).length=j
 |0,_,_,_=>rfl
 |j+1,k,n,r=>by unfold ktW;rw[Pz,kz]
theorem IK:∀{j k n:Nat} {r:List Nat},n<tbW W j k r->Wk W k r (ktW W j k r n)
 |0,_,_,_,_=>trivial
 |j+1,k,n,r,h=>by
  rw[←yP]at h;obtain⟨a,b⟩:=vp h;exact⟨(R1.mp a).1,IK b⟩
theorem IG{α:Type}{f:α->Nat}{a:α}:∀{l:List α},a∈l->f a<=sm l f
 |b::l,h=>by
  rw[bz];rcases PL.mp h with rfl|h
  ·omega
  ·have:=IG (f:=f) h;omega
theorem uj:∀{j k:Nat} {r:List Nat} {vs:List (List Nat)},Wk W k r vs->vs.length=j->0<tbW W j k r
 |_,_,_,[],_,rfl=>Nat.one_pos
 |_,k,r,v::vs,h,rfl=>P7 (uj h.2 rfl) (IG (f:=λv=>tbW W vs.length (k+1) (less r v)) h.1)
theorem N8{vs:List (List Nat)}(h:Wk W k r (v::vs))(e:vs.length=j):v∈stW W j k r:=R1.mpr ⟨h.1,PX (by have:=uj h.2 e;omega)⟩
def ahW(f:List Nat->Nat)(v:List Nat):List (List Nat)->Nat
 |[]=>0
 |u::l=>if u=v then 0 else f u+ahW f v l
def jk(u v:List Nat):List Nat:=Us (·+·) u v
def rsm(n:Nat):List (List Nat)->List Nat
 |[]=>PR n 0
 |v::vs=>jk v (rsm n vs)
theorem u4:∀{v r:List Nat},v.length=r.length->less (jk v r) v=r/\LeN v (jk v r)
 |[],[],_=>⟨rfl,trivial⟩
 |x::v,y::r,h=>by
  obtain⟨a,b⟩:=u4 (v:=v) (r:=r) (by simpa using h);refine⟨?_,SD _ _,b⟩;show(x+y-x)::less (jk v r) v=_;rw[a,U8]
theorem vP:∀{v r:List Nat},LeN v r->jk v (less r v)=r
 |[],[],_=>rfl
 |x::v,y::r,h=>by
  show(x+(y-x))::jk v (less r v)=_;rw[vP h.2,Nat.add_sub_cancel' h.1]
 |[],_::_,h=>h.elim
 |_::_,[],h=>h.elim
theorem m6:∀{vs:List (List Nat)},(∀v∈vs,v.length=n)->(rsm n vs).length=n
 |[],_=>Q1
 |v::vs,h=>by
  show(Us _ _ _).length=n;rw[VD,h v Pn,m6 λu a=>h u (Pg _ a),Xl]
theorem Lp:∀{r:List Nat},r.sum=0->r=PR r.length 0
 |[],_=>rfl
 |x::r,h=>by
  rw[P8]at h;obtain rfl:x=0:=by omega
  rw[Pz,Qm,←Lp (r:=r) (by omega)]
theorem qJ(a:WOk cs W):∀{vs:List (List Nat)} {k:Nat} {r:List Nat},Wk W k r vs->k+vs.length=cs.length->r.sum=(cs.drop k).sum->vs.map Ri=cs.drop k/\r=rsm r.length vs/\∀v∈vs,v.length=r.length
 |[],k,r,_,e,s=>by
  have f:cs.drop k=[]:=RB (by simpa using e▸Pt _);rw[f]at s⊢;exact⟨rfl,Lp s,λ_ h=>by cases h⟩
 |v::vs,k,r,h,e,s=>by
  rw[Pz]at e;have b:=(a k r).subset h.1;obtain⟨q1,q2,q3,_⟩:=gy b;have le:=cK b;rw[gb (by omega),P8]at s;obtain⟨g,c,d⟩:=qJ a h.2 (by omega) (by omega);have i:=le.less.len;rw[i]at c d;refine⟨by rw[gb (by omega),Py,g,q1],?_,λu hu=>?_⟩
  ·show r=jk v (rsm r.length vs)
   rw[←c,vP le]
  ·rcases PL.mp hu with rfl|hu
   ·exact q3
   ·exact d u hu
theorem HI:∀{vs:List (List Nat)} {k:Nat},(∀v∈vs,v.length=n)->(∀i r v,vs[i]?=on v->LeN v r->v∈W (k+i) r)->Wk W k (rsm n vs) vs
 |[],_,_,_=>trivial
 |v::vs,k,h,hw=>by
  have b:∀u∈vs,u.length=n:=λu a=>h u (Pg _ a);obtain⟨c,d⟩:=u4 (v:=v) (r:=rsm n vs) (by rw[h v Pn,m6 b]);refine⟨hw 0 _ v rfl d,?_⟩;show Wk W (k+1) (less (jk v (rsm n vs)) v) vs;rw[c];exact HI b λi r u a le=>by
   have:=hw (i+1) r u a le;rwa[show k+(i+1)=k+1+i by omega]at this
theorem j7:∀{l:List Nat} {i x y:Nat},l[i]?=on x->(l.set i y).sum+x=l.sum+y
 |a::l,0,x,y,h=>by
  cases h;show(y::l).sum+a=(a::l).sum+y;rw[P8,P8];omega
 |a::l,i+1,x,y,h=>by
  have:=j7 (l:=l) (i:=i) (x:=x) (y:=y) h;show(a::l.set i y).sum+x=(a::l).sum+y;rw[P8,P8];omega
theorem NX{u v:List Nat}{i x y:Nat}(a:u[i]?=on x)(b:v[i]?=on y):(jk u v)[i]?=on (x+y):=by
 unfold jk;rw[Xi,a,b]
theorem y8:∀{vs:List (List Nat)},(∀v∈vs,v.length=n)->i<n->(rsm n vs).getD i 0=(vs.map λv=>v.getD i 0).sum
 |[],_,hi=>by
  show(PR n 0).getD i 0=0;rw[Pf,RY,Ps hi];rfl
 |v::vs,h,hi=>by
  have a:∀w∈vs,w.length=n:=λw b=>h w (Pg _ b);have c:=h v Pn;have d:=m6 a;rw[Py,P8,←y8 a hi];show(jk v (rsm n vs)).getD i 0=_;rw[Pf,NX (Pd (by omega)) (Pd (by omega)),d7 (by omega),d7 (by omega)];rfl
def pth(W:Wy):Nat->Nat->List Nat->List (List (List Nat))
 |0,_,_=>[[]]
 |j+1,k,r=>(W k r).flatMap λv=>(pth W j (k+1) (less r v)).map (v::·)
theorem wF(m:Nat):∀k,k<=m->((lst W rs k).flatMap λq=>(pth W (m-k) k q.2).map (q.1++·))=pth W m 0 rs
 |0,_=>by
  show(pth W (m-0) 0 rs).map ([]++·)++[]=_;rw[Qe,Xm];exact(P5 λx _=>QZ x).trans (Vv _)
 |k+1,h=>by
  rw[←wF m k (by omega)];show((lst W rs k).flatMap _).flatMap _=_;rw[lx];refine dG λq _=>?_;rw[show m-k=m-(k+1)+1 by omega,T1];show _=((W k q.2).flatMap λv=>(pth W (m-(k+1)) (k+1) (less q.2 v)).map (v::·)).map (q.1++·);rw[RI];refine dG λv _=>?_;rw[Pp];exact P5 λu _=>by simp
theorem IE(m:Nat):(lst W rs m).map (·.1)=pth W m 0 rs:=by
 rw[←wF m m (Pt _),RW];generalize lst W rs m=l
 induction l with
 |nil=>rfl
 |cons q l ih=>rw[Py,Qy,ih];simp[pth]
theorem qY:∀(j k:Nat) (r:List Nat),(pth W j k r).length=tbW W j k r
 |0,_,_=>rfl
 |j+1,k,r=>by
  show((W k r).flatMap _).length=_;rw[List.length_flatMap];show _=((W k r).map _).sum;congr 1;exact P5 λv _=>by rw[Pa,qY]
theorem uK:∀{j k:Nat} {r:List Nat} {vs:List (List Nat)},vs∈pth W j k r->Wk W k r vs/\vs.length=j
 |0,_,_,vs,h=>by cases Qi.mp h;exact⟨trivial,rfl⟩
 |j+1,k,r,vs,h=>by
  obtain⟨v,a,b⟩:=Rl.mp (show vs∈(W k r).flatMap _ from h);obtain⟨us,c,rfl⟩:=PD.mp b;obtain⟨d,e⟩:=uK c;exact⟨⟨a,d⟩,by rw[Pz,e]⟩
theorem vZ:∀(r:List Nat) (c:Nat),(cm r c).Nodup
 |[],0=>TH _ _
 |[],_+1=>List.nodup_nil
 |x::r,c=>by
  show((Pq (SX x c+1)).flatMap λa=>(cm r (c-a)).map (a::·)).Nodup;refine List.pairwise_flatMap.mpr ⟨λa _=>uS (λ_ _ e=>(Yh e).2) (vZ r (c-a)),U6.imp λ{a b} n u d w f e=>?_⟩;obtain⟨_,_,rfl⟩:=PD.mp d;obtain⟨_,_,rfl⟩:=PD.mp f;exact n (Yh e).1
theorem vM{f:List Nat->List (List (List Nat))}{t:List Nat->Nat}(d:∀u,(f u).length=t u):∀{l:List (List Nat)} {i:Nat} {vs:List (List Nat)},l.Nodup->(l.flatMap λu=>(f u).map (u::·))[i]?=on vs->
  ∃v us a,v∈l/\vs=v::us/\(f v)[a]?=on us/\i=ahW t v (l.filter λu=>decide ((0:Int)<((t u:Nat):Int)))+a/\fal t (l.filter λu=>decide ((0:Int)<((t u:Nat):Int))) i=(v,a)
 |[],i,vs,_,h=>by simp at h
 |u::l,i,vs,nd,h=>by
  rw[Qy]at h;have g:∀v l,ahW t v (u::l)=if u=v then 0 else t u+ahW t v l:=λ_ _=>rfl;have j:∀l n,fal t (u::l) n=if n<t u then(u,n)else fal t l (n-t u):=λ_ _=>rfl;have b:((f u).map (u::·)).length=t u:=by rw[Pa,d]
  rw[T0];rcases Ux i (t u)with q|q
  ·rw[Sh (by rw[b];exact q),Pi]at h
   cases e:(f u)[i]? with
   |none=>rw[e]at h;cases h
   |some us=>
    rw[e]at h;cases h;rw[Ps (PX (by omega))];exact⟨u,us,i,Pn,rfl,e,by rw[g,Ps rfl,Q4],by rw[j,Ps q]⟩
  ·rw[Rh (by rw[b];exact q),b]at h
   obtain⟨v,us,a,k,o,p,m,c⟩:=vM d (Qu.mp nd).2 h;have nv:u≠v:=λz=>(Qu.mp nd).1 (z▸k);refine⟨v,us,a,Pg _ k,o,p,?_⟩;by_cases z:(0:Int)<((t u:Nat):Int)
   ·rw[Ps (PX z),g,Po nv,j,Po (by omega)]
    exact⟨by omega,c⟩
   ·rw[Po (λy=>z (Sk y))]
    rw[show i-t u=i by omega]at m c;exact⟨m,c⟩
def nmW(W:Wy):Nat->List Nat->List (List Nat)->Nat
 |_,_,[]=>0
 |k,r,v::vs=>ahW (λu=>tbW W vs.length (k+1) (less r u)) v (stW W vs.length k r)+nmW W (k+1) (less r v) vs
theorem zG{W:Wy}(hn:∀k r,(W k r).Nodup):∀{j k i:Nat} {r:List Nat} {vs:List (List Nat)},(pth W j k r)[i]?=on vs->ktW W j k r i=vs/\nmW W k r vs=i
 |0,k,i,r,vs,h=>by
  cases i with
  |zero=>cases h;exact⟨rfl,rfl⟩
  |succ i=>cases h
 |j+1,k,i,r,vs,h=>by
  obtain⟨v,us,b,n,rfl,a,c,d⟩:=vM (f:=λv=>pth W j (k+1) (less r v)) (t:=λv=>tbW W j (k+1) (less r v)) (λu=>qY _ _ _) (hn k r) h;obtain⟨e,g⟩:=zG hn a;have l:=(uK (PU a)).2;refine⟨?_,?_⟩
  ·have m:fal (λv=>tbW W j (k+1) (less r v)) (stW W j k r) i=(v,b):=d
   show(fal _ (stW W j k r) i).1::ktW W j (k+1) (less r (fal _ (stW W j k r) i).1) (fal _ (stW W j k r) i).2=_;rw[m,e]
  ·show ahW _ v (stW W us.length k r)+nmW W (k+1) (less r v) us=_
   rw[l,g];exact c.symm
end
end L2.Nt
namespace Law
open PySem L2 L2.Pu
open L2.Hs (uN z9 k8 wy)
noncomputable def top(i:Nat):QU:=PySem.Challenge.pw_edgetally_k24_tables_by_number.main.body.getD i (.Pass ⟨0,0,0,0⟩)
abbrev y7:QU:=top 14
abbrev l3:QU:=top 15
abbrev l4:QU:=top 16
abbrev iQ:QU:=top 17
abbrev lE:QU:=top 18
abbrev ox:QU:=top 20
abbrev y0:QU:=top 21
abbrev pO:QU:=top 22
abbrev sw:QU:=top 24
abbrev lF:QU:=top 25
abbrev lH:QU:=top 26
abbrev su:QU:=top 27
abbrev oo:QU:=top 28
abbrev sB:QU:=top 29
abbrev oy:QU:=top 30
abbrev lZ:QU:=top 33
abbrev iq:QU:=top 34
abbrev ir:QU:=top 35
abbrev kh:QU:=top 36
abbrev iR:QU:=top 37
abbrev lI:QU:=top 38
abbrev jv:QU:=top 39
abbrev kn:QU:=top 42
abbrev ju:QU:=top 43
abbrev pP:QU:=top 44
abbrev ow:QU:=top 45
abbrev jx:QU:=top 46
abbrev jw:QU:=top 47
abbrev oj:QU:=top 48
abbrev wf:QU:=top 50
abbrev uD:QU:=top 51
abbrev uC:QU:=top 52
abbrev uF:QU:=top 53
abbrev sy:QU:=top 54
abbrev pJ:QU:=top 55
abbrev oq:QU:=top 56
abbrev ki:QU:=top 57
abbrev uG:QU:=top 58
abbrev pL:QU:=top 59
abbrev pK:QU:=top 60
abbrev we:QU:=top 61
abbrev uE:QU:=top 62
abbrev ou:QU:=top 63
abbrev wg:QU:=top 64
abbrev wc:QU:=top 65
abbrev kq:QU:=aE (top 40) 0
abbrev l5:QU:=aE (top 40) 7
abbrev jy:QU:=aE (top 40) 6
abbrev lJ:QU:=aE (top 40) 3
abbrev iS:QU:=aE (top 40) 4
abbrev oz:QU:=aE (top 40) 9
abbrev m5:QU:=top 66
abbrev ut:QU:=aE (top 2) 0
set_option genSizeOf false in
set_option genInjectivity false in
structure Ad where
 Aa:Pk
 Ab:Pk
 Ac:P9
 Ae:Pk
 Af:Pk
 Ag:P9
 Ah:Pk
 Ai:P9
 Aj:Pk
 Ak:P9
 Al:Pk
 Am:P9
 An:Pk
 Ao:P9
 Aq:Pk
 Ar:P9
 As:Pk
 At:P9
 Au:Pk
 Av:P9
 Aw:Pk
 Ax:P9
 Ay:Pk
 Az:P9
 A0:Pk
 A1:P9
 A2:Pk
 A3:P9
 A4:Pk
 A5:P9
 A6:Pk
 A7:P9
 A8:Pk
 A9:P9
 Ba:Pk
 Bb:P9
 Bc:Pk
 Bd:P9
 Be:Pk
 Bf:P9
 Bh:Pk
 Bi:P9
 Bj:Pk
 Bk:P9
 Bl:Pk
 Bm:P9
 Bn:Pk
 Bo:P9
 Bp:Pk
 Bq:P9
 Br:Pk
 Bs:P9
 Bt:Pk
 Bu:P9
 Bv:Pk
 Bw:P9
 Bx:Pk
 By:P9
 Bz:Pk
 B0:P9
 B5:Pk
 B7:P9
 B8:Pk
 Ca:P9
 Cb:Pk
 Cc:P9
 Cd:Pk
 Cf:P9
 Cg:Pk
 Ch:P9
 Ci:Pk
 Cj:P9
 Ck:Pk
 Cl:P9
 Cm:Pk
 Cn:P9
 Co:Pk
 Cp:P9
 Cq:Pk
 Cr:P9
 Cs:Pk
 Ct:P9
 Cu:Pk
 Cv:P9
 Cw:Pk
 Cy:P9
 Cz:Pk
 C0:P9
 C2:Pk
 C3:P9
 C4:Pk
 C5:P9
 C6:Pk
 C7:P9
 C8:Pk
 C9:P9
 Da:Pk
 Db:P9
 Dd:Pk
 Df:P9
 Dg:Pk
 Dh:P9
 Di:Pk
 Dj:P9
 Dl:Pk
 Dm:P9
 Do:Pk
 Dp:P9
structure Fns (K:PZ) (mg:Qn->Option Pl) (a:Ad):Prop where
 Dq:mg "ValueError"=Pb
 Dr:mg "abs"=Pb
 Dt:mg "any"=Pb
 Du:mg "bool"=Pb
 Dv:mg "enumerate"=Pb
 Dw:mg "int"=Pb
 Dx:mg "isinstance"=Pb
 Dy:mg "len"=Pb
 Dz:mg "list"=Pb
 D0:mg "max"=Pb
 D3:mg "min"=Pb
 D4:mg "range"=Pb
 D5:mg "reversed"=Pb
 D6:mg "sorted"=Pb
 D7:mg "str"=Pb
 D8:mg "sum"=Pb
 D9:mg "tuple"=Pb
 Ea:mg "zip"=Pb
 Eb:oh K mg "MOST" (.int 40)
 Ec:oh K mg "MOST_COLUMNS" (.int 6)
 Ed:oh K mg "MOST_ROWS" (.int 4)
 Ee:oh K mg "WIDE" (.int 500)
 Ef:FunD K "free" "free" y7 a.Af a.Ag
 Eg:mg "free"=on (.ref a.Af)
 Eh:cT K a.Ag ["rows","columns","pair"] [.tup [.int 0,.int 40]]
 Ei:FunD K "check_sums" "check_sums" l3 a.Ah a.Ai
 Ej:mg "check_sums"=on (.ref a.Ah)
 Ek:aD K a.Ai ["rowsums","columnsums"] []
 El:FunD K "check_pair" "check_pair" l4 a.Aj a.Ak
 Em:mg "check_pair"=on (.ref a.Aj)
 En:aD K a.Ak ["pair"] []
 Eo:FunD K "settled_bounds" "settled_bounds" iQ a.Al a.Am
 Ep:mg "settled_bounds"=on (.ref a.Al)
 Er:aD K a.Am ["bounds","rows","columns"] []
 Es:FunD K "rows_turned" "rows_turned" lE a.An a.Ao
 Et:mg "rows_turned"=on (.ref a.An)
 Eu:aD K a.Ao ["rows"] []
 Ev:FunD K "factorial" "factorial" ox a.Aq a.Ar
 Ew:mg "factorial"=on (.ref a.Aq)
 Ex:aD K a.Ar ["number"] []
 Ey:FunD K "ways" "ways" y0 a.As a.At
 Ez:mg "ways"=on (.ref a.As)
 E2:aD K a.At ["parts"] []
 E3:FunD K "fillings" "fillings" pO a.Au a.Av
 E4:mg "fillings"=on (.ref a.Au)
 E5:aD K a.Av ["rests","many","pairs"] []
 E6:FunD K "need_of" "need_of" sw a.Aw a.Ax
 E7:mg "need_of"=on (.ref a.Aw)
 E8:aD K a.Ax ["rowsums","over"] []
 E9:FunD K "room_inside" "room_inside" lF a.Ay a.Az
 Fa:mg "room_inside"=on (.ref a.Ay)
 Fb:aD K a.Az ["columnsums","bounds","over","column"] []
 Fc:FunD K "room_beside" "room_beside" lH a.A0 a.A1
 Fd:mg "room_beside"=on (.ref a.A0)
 Fe:aD K a.A1 ["bounds","over","column"] []
 Ff:FunD K "room_of" "room_of" su a.A2 a.A3
 Fg:mg "room_of"=on (.ref a.A2)
 Fh:aD K a.A3 ["columnsums","bounds","over","into"] []
 Fi:FunD K "narrowest" "narrowest" oo a.A4 a.A5
 Fj:mg "narrowest"=on (.ref a.A4)
 Fk:aD K a.A5 ["columnsums","bounds","over"] []
 Fl:FunD K "choices" "choices" sB a.A6 a.A7
 Fm:mg "choices"=on (.ref a.A6)
 Fn:aD K a.A7 ["many"] []
 Fo:FunD K "check_fit" "check_fit" oy a.A8 a.A9
 Fp:mg "check_fit"=on (.ref a.A8)
 Fq:aD K a.A9 ["rowsums","columnsums","bounds"] []
 Fs:FunD K "check_wide" "check_wide" lZ a.Ba a.Bb
 Ft:mg "check_wide"=on (.ref a.Ba)
 Fu:aD K a.Bb ["rowsums"] []
 Fv:FunD K "settled_for_net" "settled_for_net" iq a.Bc a.Bd
 Fw:mg "settled_for_net"=on (.ref a.Bc)
 Fy:aD K a.Bd ["rowsums","columnsums","bounds"] []
 Fz:FunD K "column_fillings" "column_fillings" ir a.Be a.Bf
 F4:mg "column_fillings"=on (.ref a.Be)
 F5:aD K a.Bf ["rests","columnsums","bounds","column"] []
 F6:FunD K "rests_behind" "rests_behind" kh a.Bh a.Bi
 F7:mg "rests_behind"=on (.ref a.Bh)
 F8:aD K a.Bi ["rests","counts"] []
 F9:FunD K "nodes_by_level" "nodes_by_level" iR a.Bj a.Bk
 Ga:mg "nodes_by_level"=on (.ref a.Bj)
 Gb:aD K a.Bk ["rowsums","columnsums","bounds"] []
 Gc:FunD K "node_counts" "node_counts" lI a.Bl a.Bm
 Gd:mg "node_counts"=on (.ref a.Bl)
 Ge:aD K a.Bm ["rests","filled","behind"] []
 Gf:FunD K "counted_nodes" "counted_nodes" jv a.Bn a.Bo
 Gg:mg "counted_nodes"=on (.ref a.Bn)
 Gi:aD K a.Bo ["rowsums","columnsums","bounds"] []
 Gj:FunD K "check_number" "check_number" kn a.Bp a.Bq
 Gk:mg "check_number"=on (.ref a.Bp)
 Gm:aD K a.Bq ["k","many"] []
 Gn:FunD K "steps_counted" "steps_counted" ju a.Br a.Bs
 Go:mg "steps_counted"=on (.ref a.Br)
 Gp:aD K a.Bs ["net","level","rests"] []
 Gq:FunD K "falls_to" "falls_to" pP a.Bt a.Bu
 Gr:mg "falls_to"=on (.ref a.Bt)
 Gs:aD K a.Bu ["numbered","k"] []
 Gu:FunD K "kth_table" "kth_table" ow a.Bv a.Bw
 Gv:mg "kth_table"=on (.ref a.Bv)
 Gx:aD K a.Bw ["net","k"] []
 Gy:FunD K "columns_asked" "columns_asked" jx a.Bx a.By
 Gz:mg "columns_asked"=on (.ref a.Bx)
 G0:aD K a.By ["net","rows"] []
 G1:FunD K "counted_ahead" "counted_ahead" jw a.Bz a.B0
 G2:mg "counted_ahead"=on (.ref a.Bz)
 G3:aD K a.B0 ["net","level","rests","filling"] []
 G4:FunD K "number_of" "number_of" oj a.B5 a.B7
 G5:mg "number_of"=on (.ref a.B5)
 G6:aD K a.B7 ["net","rows"] []
 G7:FunD K "_law_bag" "_law_bag" wf a.B8 a.Ca
 G8:mg "_law_bag"=on (.ref a.B8)
 G9:aD K a.Ca ["_law_script"] []
 Ha:FunD K "_law_pull" "_law_pull" uD a.Cb a.Cc
 Hb:mg "_law_pull"=on (.ref a.Cb)
 Hc:aD K a.Cc ["_law_bag_here","_law_lot"] []
 Hd:FunD K "_law_same" "_law_same" uC a.Cd a.Cf
 He:mg "_law_same"=on (.ref a.Cd)
 Hf:aD K a.Cf ["_law_found","_law_due"] []
 Hg:FunD K "_law_grid" "_law_grid" uF a.Cg a.Ch
 Hh:mg "_law_grid"=on (.ref a.Cg)
 Hi:aD K a.Ch ["_law_bag_here","_law_block","_law_columns","_law_things"] []
 Hj:FunD K "_law_small" "_law_small" sy a.Ci a.Cj
 Hk:mg "_law_small"=on (.ref a.Ci)
 Hl:aD K a.Cj ["_law_bag_here"] []
 Hm:FunD K "_law_turned" "_law_turned" pJ a.Ck a.Cl
 Hn:mg "_law_turned"=on (.ref a.Ck)
 Ho:aD K a.Cl ["_law_block"] []
 Hq:FunD K "_law_rowsums" "_law_rowsums" oq a.Cm a.Cn
 Hr:mg "_law_rowsums"=on (.ref a.Cm)
 Ht:aD K a.Cn ["_law_grid_here"] []
 Hu:FunD K "_law_columnsums" "_law_columnsums" ki a.Co a.Cp
 Hv:mg "_law_columnsums"=on (.ref a.Co)
 Hw:aD K a.Cp ["_law_grid_here"] []
 Hx:FunD K "_law_free" "_law_free" uG a.Cq a.Cr
 Hy:mg "_law_free"=on (.ref a.Cq)
 Hz:aD K a.Cr ["_law_block","_law_columns"] []
 Ia:FunD K "_law_bounds" "_law_bounds" pL a.Cs a.Ct
 Ib:mg "_law_bounds"=on (.ref a.Cs)
 Id:aD K a.Ct ["_law_bag_here","_law_grid_here"] []
 Ie:FunD K "_law_copied" "_law_copied" pK a.Cu a.Cv
 Ig:mg "_law_copied"=on (.ref a.Cu)
 Ih:aD K a.Cv ["_law_block"] []
 Ii:FunD K "_law_fit" "_law_fit" we a.Cw a.Cy
 Ij:mg "_law_fit"=on (.ref a.Cw)
 Ik:aD K a.Cy ["_law_rests","_law_lot","_law_pairs"] []
 Il:FunD K "_law_less" "_law_less" uE a.Cz a.C0
 Im:mg "_law_less"=on (.ref a.Cz)
 Io:aD K a.C0 ["_law_rests","_law_column"] []
 Ip:FunD K "_law_listing" "_law_listing" ou a.C2 a.C3
 Iq:mg "_law_listing"=on (.ref a.C2)
 Ir:aD K a.C3 ["_law_rowsums_here","_law_columnsums_here","_law_limits"] []
 Iu:FunD K "_law_all" "_law_all" wg a.C4 a.C5
 Iw:mg "_law_all"=on (.ref a.C4)
 Ix:aD K a.C5 ["_law_grid_here","_law_limits"] []
 Iy:FunD K "_law_net" "_law_net" wc a.C6 a.C7
 Iz:mg "_law_net"=on (.ref a.C6)
 I0:aD K a.C7 ["_law_grid_here","_law_limits"] []
 I9:FunD K "__init__" "Net.__init__" kq a.C8 a.C9
 Ja:Mk K a.Ae a.C8
 Jb:KwOk K a.C9 ["self","rowsums","columnsums","bounds"] ["bounds"] 3 [.kw 0]
 Jc:FunD K "tables" "Net.tables" l5 a.Da a.Db
 Jd:Meth K a.Ae "tables" a.Da
 Je:aD K a.Db ["self"] []
 Jf:FunD K "counts_at" "Net.counts_at" jy a.Dd a.Df
 Jg:Meth K a.Ae "counts_at" a.Dd
 Jh:aD K a.Df ["self","level","rests"] []
 Ji:FunD K "rowsums" "Net.rowsums" lJ a.Dg a.Dh
 Jj:Meth K a.Ae "rowsums" a.Dg
 Jk:aD K a.Dh ["self"] []
 Jl:FunD K "columnsums" "Net.columnsums" iS a.Di a.Dj
 Jm:Meth K a.Ae "columnsums" a.Di
 Jn:aD K a.Dj ["self"] []
 Jo:FunD K "steps" "Net.steps" oz a.Dl a.Dm
 Jp:Meth K a.Ae "steps" a.Dl
 Jq:aD K a.Dm ["self","level","rests"] []
 Jr:Cls K a.Ae
 Js:mg "Net"=on (.ref a.Ae)
 Jt:eE K a.Ae "column_list"
 Ju:eE K a.Ae "counted"
 Jv:eE K a.Ae "pairs"
 Jw:eE K a.Ae "row_list"
 Jx:FunD K "__init__" "EdgeError.__init__" ut a.Ab a.Ac
 Jy:aD K a.Ac ["self","word","why"] []
 Jz:mg "EdgeError"=on (.ref a.Aa)
 J0:ClsFn K a.Aa "__init__" a.Ab
section
variable(P:Qf)(w:Qq){K:PZ}{mg:Qn->Option Pl}(base:QW){a:Ad}
theorem jr:FnScope ["_law_bag_here","_law_lot","_law_cells","_law_at","_law_cell"] ["_law_bag_here","_law_lot"] (ah uD):=fsc
theorem zx(N:Fns K mg a):FnOk P w K mg base (CXE P w) 2 a.Cb a.Cc ["_law_bag_here","_law_lot"] (spF K 2 lh):=by
 refine N.Ha.ok (k:=1) jr (λvs H Q E h=>h.1) (λY A outer s H vs Q E hr h=>?_);obtain⟨_,F,ds,β,fr,hd,r,Z,e,k⟩:=h;obtain⟨lot,rfl,ok,I,h1,rfl,rfl⟩:=zN e;obtain⟨v,w',rfl,d1,d2⟩:=DenL.two hd;unfold Den at d1;obtain⟨b,l,d,rfl⟩:=d1;cases d2.int;obtain⟨t,J⟩:=fr.bag b l d;obtain⟨ab,al,m⟩:=fr.bgA b l d;obtain⟨W,L,hc0,X⟩:=ok.at;obtain⟨_,_,hcp,_⟩:=wo ok I;have len:((β.cells.map V.int).length:Int)=(β.cells.length:Int):=by rw[Pa]
 have O:atI (β.cells.map V.int) (β.pos:Int)=on (.int β.cell):=K7 (by rw[Pi,L];rfl);refine⟨_,da (pW (i:=2) jr.nd rfl (Ru rfl) (gi dQ (pv 0) bS (λ_ _=>rfl)))
  (da (pW (i:=3) jr.nd rfl (Ru rfl) (dY mh (gi dQ (pv 0) bS (λ_ _=>rfl)) (k6 mI (by rfl) N.Dy PySem.boot_len (ft (pv 2) iY))))
  (da (pW (i:=4) jr.nd rfl (Ru rfl) (gi dQ (pv 2) (pv 3) (λ_ _=>rfl)))
  (da (HY (wq IA (pv 4) (dY L8 bS bS) (uQ _))
   (da (eA (dY wA (pv 4) (pv 1)) (iX (pv 2) (pv 3) f6)) (m8 (az (dY mh (pv 4) (pv 1))))) qZ)
  (da (eA (dY pZ (gi dQ (pv 0) bS (λ_ _=>rfl)) bS) (iX (pv 0) bS f6))
  (da (eA (dY mh (dY Ma (dY pZ (dY pZ (gi dQ (pv 0) bS (λ_ _=>rfl)) (dY mh (pv 4) bS)) bS) bS) bS) (iX (pv 0) bS f6))
  (m8 (az (dY mh (dY wA (gi dQ (pv 0) bS (λ_ _=>rfl)) bS) (pv 1))))))))),?_⟩
 refine⟨_,rfl,b,_,_,_,rfl,rfl,SqL.of t,rfl,?_⟩;refine⟨_,rfl,b,_,_,_,rfl,rfl,SqL.of t,rfl,_,rfl,l,_,rfl,.inl (SqL.of J),_,_,rfl,rfl,?_,?_⟩
 ·have:=W
  rw[len];omega
 refine⟨_,rfl,_,rfl,l,_,_,_,rfl,rfl,SqL.of J,by rw[len,X];exact O,?_⟩;refine⟨_,rfl,_,_,rfl,rfl,⟨by decide,by decide,by decide⟩,_,_,rfl,rfl,_,rfl,?_⟩;have occ:∀{R:Hp} {p:Pk} {o:HO},(∀c,F.A c->R c≠Pb)->∀c,F.A c->upd R p o c≠Pb:=λ{R p o} f c u z=>by
  by_cases q:c=p
  ·subst q;rw[ar]at z;cases z
  ·rw[upd_ne q]at z;exact f c u z
 refine ite2 (λg=>?_) (λg=>?_)
 ·have big:(10:Int)^18<=β.cell:=Sk g
  refine⟨_,rfl,_,rfl,_,_,rfl,rfl,⟨I,h1⟩,_,rfl,_,rfl,l,_,_,β.pos,rfl,rfl,J,?_,?_⟩
  ·rw[len,X,Pa]
   exact KJ W
  refine⟨_,rfl,_,rfl,_,_,rfl,rfl,I,?_⟩;have T:jB β lot=β.cell % lot:=Ps big;have U:k4 β lot=⟨β.cells.set β.pos (β.cell/lot),β.i,β.j⟩:=Ps big;rw[T,U]at k;refine k _ _ ⟨λc o u n=>by rw[upd_ne (n b l d).2];exact u,occ fr.occ,fr.bgA,λb' l' y=>?_⟩ rfl;rw[d]at y;cases y;exact⟨by rw[upd_ne m];exact t,by rw[ar,Ur]⟩
 ·have big:¬(10:Int)^18<=β.cell:=λq=>g (PX q)
  refine⟨_,rfl,b,_,_,_,rfl,rfl,SqL.of t,rfl,_,_,rfl,rfl,_,rfl,b,_,_,1,rfl,rfl,t,rfl,?_⟩;have B:(upd H b (.lst [.ref l,.int (β.i+1),.int β.j])) b=on (.lst [.ref l,.int (β.i+1),.int β.j]):=ar;refine⟨_,rfl,b,_,_,_,rfl,rfl,SqL.of B,rfl,_,rfl,_,_,rfl,rfl,(by show(0:Int)<2147483629;decide),_,_,rfl,rfl,_,_,rfl,rfl,_,_,rfl,rfl,.inr ⟨by decide,by decide⟩,_,_,rfl,rfl,(by show(0:Int)<2147483629;decide),_,rfl,b,_,_,2,rfl,rfl,B,rfl,?_⟩;have C:(upd (upd H b (.lst [.ref l,.int (β.i+1),.int β.j])) b (.lst [.ref l,.int (β.i+1),.int β.nxt])) b=on (.lst [.ref l,.int (β.i+1),.int β.nxt]):=ar;refine⟨_,rfl,b,_,_,_,rfl,rfl,SqL.of C,rfl,_,_,rfl,rfl,⟨by decide,by decide⟩,_,rfl,_,_,rfl,rfl,I,?_⟩;have T:jB β lot=β.nxt/64 % lot:=Po big;have U:k4 β lot=⟨β.cells,β.i+1,β.nxt⟩:=Po big;rw[T,U]at k;refine k _ _ ⟨λc o u n=>by rw[upd_ne (n b l d).1,upd_ne (n b l d).1];exact u,occ (occ fr.occ),fr.bgA,λb' l' y=>?_⟩ rfl;rw[d]at y;cases y;exact⟨C,by rw[upd_ne m.symm,upd_ne m.symm];exact J⟩
theorem CH:FnScope ["_law_script"] ["_law_script"] (ah wf):=fsc
theorem nd1:(["_law_cell"]:List Qn).Nodup:=by decide +kernel
theorem CZ(N:Fns K mg a):FnOk P w K mg base (CXE P w) 1 a.B8 a.Ca ["_law_script"] (Ol K):=by
 refine N.G7.ok CH (λvs H Q E h=>?_) (λX A outer s H vs Q E hr h=>?_)
 ·obtain⟨a,ns,rfl,_⟩:=h
  rfl
 ·obtain⟨a,ns,rfl,Y,k⟩:=h
  refine⟨_,m8 (az (eW (ft (dY Mc (nc rfl (vars:=["_law_cell"]) (CmpScope.plain rfl (by decide +kernel) (by decide +kernel)) (Ka (uM wa (pv 0) wu (wt bS)))
   (λcl C fp s H=>⟨ww (i:=0) nd1 rfl (Ru rfl),uL,λD=>aF rfl (k6 EO (by rfl) N.Dr PyProof.Rows.Boot.«abs» (ft (pv 0) iY)) rfl⟩)) (eW (ft bS iY))) (ft bS (ft bS iY))))),?_⟩
  obtain⟨q,I,Z⟩:=O6 ns;refine⟨_,rfl,63,rfl,a,_,rfl,Y,λp hp=>?_⟩;rw[I];have L:bQ H (upd H p (.lst (q.map V.int))):=bQ.upd hp;refine⟨p,rfl,⟨_,SqL.of ar⟩,λD B=>?_⟩;have r:D≠p:=λz=>by subst z;rw[ar]at B;cases B
  refine yh (xs:=q.map V.int) (λi F g=>∃cs:List Int,(∃v,F=[v])/\cs.length=i/\(∀c∈cs,0<=c)/\g D=on (.lst (cs.map V.int))/\g p=on (.lst (q.map V.int))/\bQ H g) ⟨[],⟨_,rfl⟩,rfl,(λ_ h=>nomatch h),ar,by rw[upd_ne r.symm,ar],L.trans (bQ.upd B)⟩
   (λi F g _ ⟨_,_,_,_,_,e,_⟩=>SqL.of e) ?_ ?_
  ·rintro i x F g n ⟨cs,⟨v,rfl⟩,l,m,d,t,u⟩
   have hil:i<q.length:=by have:=(Px.mp n).1;rwa[Pa]at this
   obtain⟨z,rfl⟩:∃z,x=V.int z:=by
    rw[Pi]at n;cases e:q[i]? with
    |none=>rw[e]at n;cases n
    |some z=>rw[e]at n;exact⟨z,(Qd n).symm⟩
   unfold fY Lj;refine iteT ?_;refine⟨_,rfl,_,rfl,cs.map V.int,d,by rw[Pa];exact sk (by omega),cs++[if z<0 then -z else z],⟨_,rfl⟩,by rw[PM,l];rfl,λc hc=>?_,by rw[ar,Qh];rfl,by rw[upd_ne r.symm];exact t,λb o e=>?_⟩
   ·rcases Rj.mp hc with hc|hc
    ·exact m c hc
    ·obtain rfl:c=_:=by simpa using hc
     split<;>omega
   ·rw[upd_ne (aB e (L.free B))]
    exact u b o e
  ·rintro F g ⟨cs,⟨v,rfl⟩,l,m,d,t,u⟩
   rw[Pa]at l;refine⟨by decide,λO j=>⟨D,O,_,_,rfl,rfl,by rw[upd_ne (aB d j)];exact d,ar,by rw[Pa];exact Vk (sk (by simp;omega)),λR y=>⟨(by show 3<=PQ;decide),λT f=>?_⟩⟩⟩;have U:bQ g (upd g O (.lst [V.int 1])):=bQ.upd j;have W:=U.trans (bQ.upd (o:= .lst (cs.map V.int++[V.int 1])) y);have J:R≠T:=λz=>by subst z;rw[ar]at f;cases f
   refine k T R _ ((u.trans W).free f) ((u.trans U).free y) ⟨cs++[1],0,0,ar,by rw[upd_ne J,ar,Qh];rfl,by simp,by rw[PM];simp;omega,λc hc=>?_,by decide⟩ ((u.trans W).trans (bQ.upd f));rcases Rj.mp hc with hc|hc
   ·exact m c hc
   ·obtain rfl:c=1:=by simpa using hc
    decide
theorem jH(N:Fns K mg a):FB P w K mg base 2 "_law_pull" a.Cb a.Cc ["_law_bag_here","_law_lot"] 2 lh:=⟨zx P w base N,N.Hb,N.Ha.kp,N.Hc⟩
abbrev QF(K:PZ)(a:Ad)(k:Nat)(x:Qn)(f:Pk)(d:P9)(ps:List Qn)(n:Nat):={m:List D->M D//∀(P:Qf) (w:Qq) {mg:Qn->Option Pl} (base:QW) (N:Fns K mg a),FB P w K mg base k x f d ps n m}
abbrev QM(K:PZ)(a:Ad)(k:Nat)(f:Pk)(d:P9)(ps:List Qn)(n:Nat):={m:List D->M D//∀(P:Qf) (w:Qq) {mg:Qn->Option Pl} (base:QW) (N:Fns K mg a),FnOk P w K mg base (CXE P w) k f d ps (spF K n m)}
theorem JY:FnScope ["rows","columns","pair"] ["rows","columns","pair"] (ah y7):=fsc
def LL(K:PZ)(a:Ad):QM K a 2 a.Af a.Ag ["rows","columns","pair"] 3:=⟨_,λP w mg base N=>by
 exact bj (k:=1) 3 3 _ N.Ef JY rfl rfl λb A outer s H E d=>ai (aG (az (bi rfl (cso ["row","pair","columns"] ["row"] [2,1]) (bK (by rfl) N.D4 (va1 (vv 0))) (λcl C c s H=>⟨(pgN 0 ndc),aM,λD=>aF rfl (bi rfl (cso ["column","pair"] ["column"] [1]) (bK (by rfl) N.D4 (va1 (vv 2))) (λcl C c s H=>⟨(pgN 0 ndc),aM,λD=>aF rfl (vv 1) rfl⟩) ak au (λD=>aK)) rfl⟩) ak au (λD=>aK))))⟩
theorem tj:FnScope ["rowsums","columnsums"] ["rowsums","columnsums"] (ah l3):=fsc
def iU(K:PZ)(a:Ad):QF K a 2 "check_sums" a.Ah a.Ai ["rowsums","columnsums"] 2:=⟨_,λP w mg base N=>⟨by
 exact bj (k:=1) 2 2 _ N.Ei tj rfl rfl λb A outer s H E c=>ag (bX (kR (qN jC jC mt mt (ax) (bU N.Dy (va1 (vv 0))) (lP N.Ed))) (ai (cZ)) (bA))
   (ag (bX (kR (qN jC jC mt mt (ax) (bU N.Dy (va1 (vv 1))) (lP N.Ec))) (ai (cZ)) (bA))
   (ag (bX (iN (oF (jq (cg (jK rfl) tU (by rfl) N.Dt PyProof.Rows.Boot.«any» (va1 (bi rfl (cso ["many"] ["many"] []) (aV (vv 0)) (λcl C d s H=>⟨(pgN 0 ndc),aM,λD=>aF rfl (kP pY u7 (vv 0) (ax)) rfl⟩) ak au (λD=>aK))))) (kM (jq (cg (jK rfl) tU (by rfl) N.Dt PyProof.Rows.Boot.«any» (va1 (bi rfl (cso ["many"] ["many"] []) (aV (vv 1)) (λcl C d s H=>⟨(pgN 0 ndc),aM,λD=>aF rfl (kP pY u7 (vv 0) (ax)) rfl⟩) ak au (λD=>aK)))))))) (ai (cZ)) (bA))
   (ag (bX (bv (eX c) gl (hX N.D8 (va1 (vv 0))) (hX N.D8 (va1 (vv 1)))) (ai (cZ)) (bA))
   (ai (bX (bv tM x4 (hX N.D8 (va1 (vv 0))) (lP N.Eb)) (ai (cZ)) (bA)))))),N.Ej,N.Ei.kp,N.Ek⟩⟩
theorem ia:FnScope ["pair","low","high"] ["pair"] (ah l4):=fsc
def iW(K:PZ)(a:Ad):QF K a 2 "check_pair" a.Aj a.Ak ["pair"] 1:=⟨_,λP w mg base N=>⟨by
 exact bj (k:=1) 1 3 _ N.El ia rfl rfl λb A outer s H E c=>ag (pQ (eC (aY aC (aY aC dC)) (aX (aX cU))) (eA (vv 0) (bu rfl (aw (pgN 1 ia.nd) (aw (pgN 2 ia.nd) bo)))))
   (ai (bX (kR (BU jC jC jC mt mt mt (ax) (vv 1) (vv 2) (lP N.Eb))) (ai (cZ)) (bA))),N.Em,N.El.kp,N.En⟩⟩
theorem fI:FnScope ["bounds","rows","columns","pairs","pair"] ["bounds","rows","columns"] (ah iQ):=fsc
def c9(K:PZ)(a:Ad):QF K a 3 "settled_bounds" a.Al a.Am ["bounds","rows","columns"] 3:=⟨_,λP w mg base N=>⟨by
 have c:=(LL K a).2 P w base N;have b:=(iW K a).2 P w base N
 exact bj (k:=2) 3 5 _ N.Eo fI rfl rfl λf A outer s H E d=>ag (bX (bv uO x3 (vv 0) (xo)) (ai (aG (az (JJ c (d.mono (by decide)) (by rfl) N.Eg N.Ef.kp N.Eh dh (va2 (vv 1) (vv 2)) (λδ β r e h=>by rw[(bf (bf aN0)) δ β r e h];rfl))))) (bA))
   (ag (bX (iN (oF (bv (eX d) gl (bU N.Dy (va1 (vv 0))) (vv 1)) (kM (jq (cg (jK rfl) tU (by rfl) N.Dt PyProof.Rows.Boot.«any» (va1 (bi rfl (cso ["pairs","columns"] ["pairs"] [2]) (aV (vv 0)) (λcl C g s H=>⟨(pgN 0 ndc),aM,λD=>aF rfl (kP (eX d) gl (bU N.Dy (va1 (vv 0))) (vv 1)) rfl⟩) ak au (λD=>aK)))))))) (ai (cZ)) (bA))
   (ag (bH aC (bt cq rfl (aV (vv 0)) (pgN 3 fI.nd) (ai (bH aC (bt cq rfl (aV (vv 3)) (pgN 4 fI.nd) (ai (kj (cM (vc b d (va1 (vv 4)))))))))))
   (ai (aG (az (bi rfl (cso ["pairs"] ["pairs"] []) (aV (vv 0)) (λcl C g s H=>⟨(pgN 0 ndc),aM,λD=>aF rfl (bT dg jc (by rfl) N.Dz PyProof.Rows.Boot.«list» (va1 (vv 0))) rfl⟩) ak au (λD=>aK))))))),N.Ep,N.Eo.kp,N.Er⟩⟩
theorem j9:FnScope ["rows"] ["rows"] (ah lE):=fsc
def d9(K:PZ)(a:Ad):QF K a 2 "rows_turned" a.An a.Ao ["rows"] 1:=⟨_,λP w mg base N=>⟨by
 exact bj (k:=1) 1 1 _ N.Es j9 rfl rfl λb A outer s H E d=>ai (aG (az (bi rfl (cso ["column","rows"] ["column"] [0]) (bK (by rfl) N.D4 (va1 (bU N.Dy (va1 (bC aP bG (vv 0) (ax)))))) (λcl C c s H=>⟨(pgN 0 ndc),aM,λD=>aF rfl (bi rfl (cso ["cells","column"] ["cells"] [0]) (aV (vv 1)) (λcl C c s H=>⟨(pgN 0 ndc),aM,λD=>aF rfl (bC aP bG (vv 0) (vv 1)) rfl⟩) ak au (λD=>aK)) rfl⟩) ak au (λD=>aK)))),N.Et,N.Es.kp,N.Eu⟩⟩
def kD(K:PZ)(a:Ad):G:=
  jg (g0 1 [0] (bN fJ (aa (aA cc (aa (f2 ixD (af 0) (fC (.int 0))) (ao))) (ao))) (tgC 0) (λ_=>M.ret Pe) (rP (gr 1 [0] (bZ (af 1)) (tgC 0) (λ_=>M.ret Pe) (cEm (f2 ixD (af 0) (af 1))))))
def fA(K:PZ)(a:Ad):List D->M (List (List D)):=jL 1 (kD K a)
theorem p8(N:Fns K mg a):FnOk P w K mg base (CXE P w) 2 a.An a.Ao ["rows"] (spG K 1 (fA K a)):=by
 unfold fA;exact rC (k:=1) 1 1 (kD K a) N.Es j9 rfl rfl λb A outer s H E d=>ai (qT (az (AL rfl (cso ["column","rows"] ["column"] [0]) (bK (by rfl) N.D4 (va1 (bU N.Dy (va1 (bC aP bG (vv 0) (ax)))))) (λcl C c s H=>⟨(pgN 0 ndc),aM,λD=>aF rfl (zD rfl (cso ["cells","column"] ["cells"] [0]) (aV (vv 1)) (λcl C c s H=>⟨(pgN 0 ndc),aM,λD=>aF rfl (bC aP bG (vv 0) (vv 1)) rfl⟩) ak au (λD=>aK)) rfl⟩) ak au (λD=>rc))))
theorem gf:FnScope ["number","product","factor"] ["number"] (ah ox):=fsc
def jW(K:PZ)(a:Ad):QF K a 2 "factorial" a.Aq a.Ar ["number"] 1:=⟨_,λP w mg base N=>⟨by
 exact bj (k:=1) 1 3 _ N.Ev gf rfl rfl λb A outer s H E c=>ag (aO (psS 1 gf.nd (ax)))
   (ag (bH aC (bt cq rfl (o3 (by rfl) N.D4 (va2 (ax) (bw bp cP (vv 0) (ax)))) (pgN 2 gf.nd) (ai (gL wI (fR (i:=1) gf.nd rfl (by first|exact Ru rfl|exact Se rfl) (vv 2) wM)))))
   (ai (aG (az (vv 1))))),N.Ew,N.Ev.kp,N.Ex⟩⟩
theorem j8:FnScope ["parts","part","told"] ["parts"] (ah y0):=fsc
def pT(K:PZ)(a:Ad):QF K a 3 "ways" a.As a.At ["parts"] 1:=⟨_,λP w mg base N=>⟨by
 have b:=(jW K a).2 P w base N
 exact bj (k:=2) 1 3 _ N.Ey j8 rfl rfl λd A outer s H E c=>ag (bH aC (bt cq rfl (aV (vv 0)) (pgN 1 j8.nd) (ai (bX (bv pY u7 (vv 1) (ax)) (ai (cZ)) (bA)))))
   (ag (aO (psS 2 j8.nd (vc b c (va1 (cg (AX rfl) Mv (by rfl) N.D8 PyProof.Rows.Boot.«sum» (va1 (vv 0)))))))
   (ag (bH aC (bt cq rfl (aV (vv 0)) (pgN 1 j8.nd) (ai (gL DU (fR (i:=2) j8.nd rfl (by first|exact Ru rfl|exact Se rfl) (vc b c (va1 (vv 1))) KN)))))
   (ai (aG (az (vv 2)))))),N.Ez,N.Ey.kp,N.E2⟩⟩
theorem cY:FnScope ["rests","many","pairs","lows","tops","begun","row","fewest_behind","most_behind"] ["rests","many","pairs"] (ah pO):=fsc
def kZ(K:PZ)(a:Ad):QF K a 2 "fillings" a.Au a.Av ["rests","many","pairs"] 3:=⟨_,λP w mg base N=>⟨by
 exact bj (k:=1) 3 9 _ N.E3 cY rfl rfl λc A outer s H E d=>ag (aO (psS 3 cY.nd (bi rfl (cso ["low","high"] ["low","high"] []) (aV (vv 2)) (λcl C b s H=>⟨(bu rfl (aw (pgN 0 ndc) (aw (pgN 1 ndc) bo))),aM,λD=>aF rfl (vv 0) rfl⟩) (dF (aT ak (aT ak cN)) (aR (aR bV))) (dE (aS au (aS au cL))) (λD=>aK))))
   (ag (aO (psS 4 cY.nd (bi rfl (cso ["rest","low","high"] ["rest","low","high"] []) (qp (by rfl) N.Ea (va2 (vv 0) (vv 2))) (λcl C b s H=>⟨(bu rfl (aw (pgN 0 ndc) (aw (bu rfl (aw (pgN 1 ndc) (aw (pgN 2 ndc) bo))) bo))),aM,λD=>aF rfl (cg (jJ rfl) tT (by rfl) N.D3 PyProof.Rows.Boot.«min» (va2 (vv 0) (vv 2))) rfl⟩) (dF (aT ak (aT (dF (aT ak (aT ak cN)) (aR (aR bV))) cN)) (aR (aR bV))) (dE (aS au (aS (dE (aS au (aS au cL))) cL))) (λD=>aK))))
   (ag (aO (psS 5 cY.nd (fj (va1 (cr (va2 (cr (eP)) (vv 1)))))))
   (ag (bH aC (bt cq rfl (bK (by rfl) N.D4 (va1 (bU N.Dy (va1 (vv 0))))) (pgN 6 cY.nd) (ag (aO (psS 7 cY.nd (hX N.D8 (va1 (v3 (vv 3) (zB (bw bp cP (vv 6) (ax))) (zC))))))
   (ag (aO (psS 8 cY.nd (hX N.D8 (va1 (v3 (vv 4) (zB (bw bp cP (vv 6) (ax))) (zC))))))
   (ai (pI (i:=5) cY.nd rfl (by first|exact Ru rfl|exact Se rfl) rfl (cso ["counts","left","count","lows","row","most_behind","tops","fewest_behind"] ["counts","left","count"] [3,6,8,4,7]) (aV (vv 5)) (λcl C b s H=>⟨(bu rfl (aw (pgN 0 ndc) (aw (pgN 1 ndc) bo))),aM,λD=>q9 rfl rfl rfl (o3 (by rfl) N.D4 (va2 (cg (sU rfl) II (by rfl) N.D0 PyProof.Rows.Boot.«max» (va2 (bC aP bG (vv 3) (vv 4)) (bw gU jE (vv 1) (vv 5)))) (bw bp cP (cg (jJ rfl) tT (by rfl) N.D3 PyProof.Rows.Boot.«min» (va2 (bC aP bG (vv 6) (vv 4)) (bw gU jE (vv 1) (vv 7)))) (ax)))) (pgN 2 ndc) (aM) (aF rfl (cr (va2 (bw bp cP (vv 0) (cr (va1 (vv 2)))) (bw gU jE (vv 1) (vv 2)))) rfl)⟩) (dF (aT ak (aT ak cN)) (aR (aR bV))) (dE (aS au (aS au cL))) (λD=>KC ak au (aK))))))))
   (ai (aG (az (bi rfl (cso ["counts","left"] ["counts","left"] []) (aV (vv 5)) (λcl C b s H=>⟨(bu rfl (aw (pgN 0 ndc) (aw (pgN 1 ndc) bo))),qt (bv (eY d) gm (vv 1) (ax)),λD=>aF rfl (vv 0) rfl⟩) (dF (aT ak (aT ak cN)) (aR (aR bV))) (dE (aS au (aS au cL))) (λD=>aK)))))))),N.E4,N.E3.kp,N.E5⟩⟩
theorem xD:FnScope ["rowsums","over"] ["rowsums","over"] (ah sw):=fsc
def l8(K:PZ)(a:Ad):QF K a 2 "need_of" a.Aw a.Ax ["rowsums","over"] 2:=⟨_,λP w mg base N=>⟨by
 exact bj (k:=1) 2 2 _ N.E6 xD rfl rfl λb A outer s H E c=>ai (aG (az (hX N.D8 (va1 (bi rfl (cso ["row","rowsums"] ["row"] [0]) (aV (vv 1)) (λcl C d s H=>⟨(pgN 0 ndc),aM,λD=>aF rfl (bC aP bG (vv 1) (vv 0)) rfl⟩) ak au (λD=>aK)))))),N.E7,N.E6.kp,N.E8⟩⟩
theorem kd:FnScope ["columnsums","bounds","over","column","lows"] ["columnsums","bounds","over","column"] (ah lF):=fsc
def dz(K:PZ)(a:Ad):QF K a 2 "room_inside" a.Ay a.Az ["columnsums","bounds","over","column"] 4:=⟨_,λP w mg base N=>⟨by
 exact bj (k:=1) 4 5 _ N.E9 kd rfl rfl λb A outer s H E c=>ag (pI (i:=4) kd.nd rfl (by first|exact Ru rfl|exact Se rfl) rfl (cso ["row","pairs","over","column"] ["row","pairs"] [2,3]) (kC (by rfl) N.Dv (va1 (vv 1))) (λcl C d s H=>⟨(bu rfl (aw (pgN 0 ndc) (aw (pgN 1 ndc) bo))),qt (bv me (DV (neg:=Pe)) (vv 0) (vv 2)),λD=>aF rfl (bC aP bG (bC aP bG (vv 1) (vv 3)) (ax)) rfl⟩) (dF (aT ak (aT ak cN)) (aR (aR bV))) (dE (aS au (aS au cL))) (λD=>aK))
   (ai (aG (az (bw gU jE (bC aP bG (vv 0) (vv 3)) (hX N.D8 (va1 (vv 4))))))),N.Fa,N.E9.kp,N.Fb⟩⟩
theorem qQ:FnScope ["bounds","over","column"] ["bounds","over","column"] (ah lH):=fsc
def dA(K:PZ)(a:Ad):QF K a 2 "room_beside" a.A0 a.A1 ["bounds","over","column"] 3:=⟨_,λP w mg base N=>⟨by
 exact bj (k:=1) 3 3 _ N.Fc qQ rfl rfl λb A outer s H E c=>ai (aG (az (hX N.D8 (va1 (bi rfl (cso ["row","bounds","column"] ["row"] [0,2]) (aV (vv 1)) (λcl C d s H=>⟨(pgN 0 ndc),aM,λD=>aF rfl (bC aP bG (bC aP bG (bC aP bG (vv 1) (vv 0)) (vv 2)) (ax)) rfl⟩) ak au (λD=>aK)))))),N.Fd,N.Fc.kp,N.Fe⟩⟩
theorem xC:FnScope ["columnsums","bounds","over","into"] ["columnsums","bounds","over","into"] (ah su):=fsc
def l7(K:PZ)(a:Ad):QF K a 3 "room_of" a.A2 a.A3 ["columnsums","bounds","over","into"] 4:=⟨_,λP w mg base N=>⟨by
 have b:=(dz K a).2 P w base N;have c:=(dA K a).2 P w base N;exact bj (k:=2) 4 4 _ N.Ff xC rfl rfl λe A outer s H E d=>ai (aG (az (hX N.D8 (va1 (bi rfl (cso ["column","into","columnsums","bounds","over"] ["column"] [3,0,1,2]) (bK (by rfl) N.D4 (va1 (bU N.Dy (va1 (vv 0))))) (λcl C f s H=>⟨(pgN 0 ndc),aM,λD=>aF rfl (v_if (bv zu (DV (neg:=Pj)) (vv 0) (vv 1)) (vc b d (va4 (vv 2) (vv 3) (vv 4) (vv 0))) (vc c d (va3 (vv 3) (vv 4) (vv 0)))) rfl⟩) ak au (λD=>aK)))))),N.Fg,N.Ff.kp,N.Fh⟩⟩
theorem uz:FnScope ["columnsums","bounds","over"] ["columnsums","bounds","over"] (ah oo):=fsc
def jS(K:PZ)(a:Ad):QF K a 3 "narrowest" a.A4 a.A5 ["columnsums","bounds","over"] 3:=⟨_,λP w mg base N=>⟨by
 have b:=(dz K a).2 P w base N;have c:=(dA K a).2 P w base N;exact bj (k:=2) 3 3 _ N.Fi uz rfl rfl λe A outer s H E d=>ai (aG (az (bi rfl (cso ["column","columnsums","bounds","over"] ["column"] [0,1,2]) (bK (by rfl) N.D4 (va1 (bU N.Dy (va1 (vv 0))))) (λcl C f s H=>⟨(pgN 0 ndc),qt (bv pY u7 (vc b d (va4 (vv 1) (vv 2) (vv 3) (vv 0))) (vc c d (va3 (vv 2) (vv 3) (vv 0)))),λD=>aF rfl (vv 0) rfl⟩) ak au (λD=>aK)))),N.Fj,N.Fi.kp,N.Fk⟩⟩
theorem iz:FnScope ["many","told","number"] ["many"] (ah sB):=fsc
def ma(K:PZ)(a:Ad):QF K a 2 "choices" a.A6 a.A7 ["many"] 1:=⟨_,λP w mg base N=>⟨by
 exact bj (k:=1) 1 3 _ N.Fl iz rfl rfl λb A outer s H E c=>ag (aO (psS 1 iz.nd (fj (va1 (fj (eP))))))
   (ag (bH aC (bt cq rfl (bK (by rfl) N.D4 (va1 (vv 0))) (pgN 2 iz.nd) (ai (aO (psS 1 iz.nd (bw bp cP (vv 1) (bi rfl (cso ["chosen","number"] ["chosen"] [2]) (aV (vv 1)) (λcl C d s H=>⟨(pgN 0 ndc),aM,λD=>aF rfl (bw bp cP (vv 0) (fj (va1 (vv 1)))) rfl⟩) ak au (λD=>aK))))))))
   (ai (aG (az (vv 1))))),N.Fm,N.Fl.kp,N.Fn⟩⟩
theorem iP:FnScope ["rowsums","columnsums","bounds","over","into"] ["rowsums","columnsums","bounds"] (ah oy):=fsc
def fQ(K:PZ)(a:Ad):QF K a 4 "check_fit" a.A8 a.A9 ["rowsums","columnsums","bounds"] 3:=⟨_,λP w mg base N=>⟨by
 have c:=(ma K a).2 P w base N;have b:=(jS K a).2 P w base N;have d:=(l8 K a).2 P w base N;have e:=(l7 K a).2 P w base N
 exact bj (k:=3) 3 5 _ N.Fo iP rfl rfl λg A outer s H E f=>ai (bH aC (bt cq rfl (aV (vc c f (va1 (bU N.Dy (va1 (vv 0)))))) (pgN 3 iP.nd) (ag (aO (psS 4 iP.nd (vc b f (va3 (vv 1) (vv 2) (vv 3)))))
   (ai (bX (bv tM x4 (vc d f (va2 (vv 0) (vv 3))) (vc e f (va4 (vv 1) (vv 2) (vv 3) (vv 4)))) (ai (cZ)) (bA)))))),N.Fp,N.Fo.kp,N.Fq⟩⟩
theorem fV:FnScope ["rowsums","wide","many"] ["rowsums"] (ah lZ):=fsc
def iT(K:PZ)(a:Ad):QF K a 2 "check_wide" a.Ba a.Bb ["rowsums"] 1:=⟨_,λP w mg base N=>⟨by
 exact bj (k:=1) 1 3 _ N.Fs fV rfl rfl λb A outer s H E c=>ag (aO (psS 1 fV.nd (ax)))
   (ag (bH aC (bt cq rfl (aV (vv 0)) (pgN 2 fV.nd) (ai (gL wI (fR (i:=1) fV.nd rfl (by first|exact Ru rfl|exact Se rfl) (bw bp cP (vv 2) (ax)) wM)))))
   (ai (bX (bv tM x4 (vv 1) (lP N.Ee)) (ai (cZ)) (bA)))),N.Ft,N.Fs.kp,N.Fu⟩⟩
theorem gR:FnScope ["rowsums","columnsums","bounds","settled"] ["rowsums","columnsums","bounds"] (ah iq):=fsc
def dM(K:PZ)(a:Ad):QF K a 4 "settled_for_net" a.Bc a.Bd ["rowsums","columnsums","bounds"] 3:=⟨_,λP w mg base N=>⟨by
 have c:=(iU K a).2 P w base N;have b:=(c9 K a).2 P w base N;have d:=(iT K a).2 P w base N
 exact bj (k:=3) 3 4 _ N.Fv gR rfl rfl λf A outer s H E e=>ag (kj (cM (vc c e (va2 (vv 0) (vv 1)))))
   (ag (aO (psS 3 gR.nd (vc b e (va3 (vv 2) (bU N.Dy (va1 (vv 0))) (bU N.Dy (va1 (vv 1)))))))
   (ag (kj (cM (vc d e (va1 (vv 0)))))
   (ai (aG (az (vv 3)))))),N.Fw,N.Fv.kp,N.Fy⟩⟩
theorem lY:FnScope ["rests","columnsums","bounds","column"] ["rests","columnsums","bounds","column"] (ah ir):=fsc
def cj(K:PZ)(a:Ad):QF K a 3 "column_fillings" a.Be a.Bf ["rests","columnsums","bounds","column"] 4:=⟨_,λP w mg base N=>⟨by
 have b:=(kZ K a).2 P w base N;exact bj (k:=2) 4 4 _ N.Fz lY rfl rfl λc A outer s H E d=>ai (aG (az (vc b d (va3 (vv 0) (bC aP bG (vv 1) (vv 3)) (bi rfl (cso ["pairs","column"] ["pairs"] [3]) (aV (vv 2)) (λcl C e s H=>⟨(pgN 0 ndc),aM,λD=>aF rfl (bC aP bG (vv 0) (vv 1)) rfl⟩) ak au (λD=>aK)))))),N.F4,N.Fz.kp,N.F5⟩⟩
theorem pE:FnScope ["rests","counts"] ["rests","counts"] (ah kh):=fsc
def br(K:PZ)(a:Ad):QF K a 2 "rests_behind" a.Bh a.Bi ["rests","counts"] 2:=⟨_,λP w mg base N=>⟨by
 exact bj (k:=1) 2 2 _ N.F6 pE rfl rfl λb A outer s H E c=>ai (aG (az (bT cW gE (by rfl) N.D9 PyProof.Rows.Boot.«tuple» (va1 (bi rfl (cso ["rest","count"] ["rest","count"] []) (qp (by rfl) N.Ea (va2 (vv 0) (vv 1))) (λcl C d s H=>⟨(bu rfl (aw (pgN 0 ndc) (aw (pgN 1 ndc) bo))),aM,λD=>aF rfl (bw gU jE (vv 0) (vv 1)) rfl⟩) (dF (aT ak (aT ak cN)) (aR (aR bV))) (dE (aS au (aS au cL))) (λD=>aK)))))),N.F7,N.F6.kp,N.F8⟩⟩
theorem ci:FnScope ["rowsums","columnsums","bounds","here","told","column","behind"] ["rowsums","columnsums","bounds"] (ah iR):=fsc
def f7(K:PZ)(a:Ad):QF K a 4 "nodes_by_level" a.Bj a.Bk ["rowsums","columnsums","bounds"] 3:=⟨_,λP w mg base N=>⟨by
 have c:=(br K a).2 P w base N;have b:=(cj K a).2 P w base N
 exact bj (k:=3) 3 7 _ N.F9 ci rfl rfl λe A outer s H E d=>ag (aO (psS 3 ci.nd (fj (va1 (bT cW gE (by rfl) N.D9 PyProof.Rows.Boot.«tuple» (va1 (vv 0)))))))
   (ag (kT (psS 4 ci.nd (eW (va1 (vv 3)))))
   (ag (bH aC (bt cq rfl (bK (by rfl) N.D4 (va1 (bU N.Dy (va1 (vv 1))))) (pgN 5 ci.nd) (ag (aO (psS 6 ci.nd (BR (by rfl) N.D6 rfl (cso ["rests","counts","columnsums","bounds","column"] ["rests","counts"] [1,2,5]) (aV (vv 3)) (λcl C f s H=>⟨(pgN 0 ndc),aM,λD=>q9 rfl rfl rfl (aV (vc b d (va4 (vv 0) (vv 2) (vv 3) (vv 4)))) (pgN 1 ndc) (aM) (uN (tZ d) rfl (vc c d (va2 (vv 0) (vv 1))) rfl)⟩) ak au (λD=>oV ak au (DR)))))
   (ag (kU (cM (k7 Rc Rq Rr eZ (pv 4) (va1 (vv 6)))))
   (ai (aO (psS 3 ci.nd (vv 6))))))))
   (ai (aG (az (vv 4)))))),N.Ga,N.F9.kp,N.Gb⟩⟩
theorem bR:FnScope ["rests","filled","behind","tables","dealings","counts","tables_behind","dealings_behind"] ["rests","filled","behind"] (ah lI):=fsc
def ic(K:PZ)(a:Ad):QF K a 4 "node_counts" a.Bl a.Bm ["rests","filled","behind"] 3:=⟨_,λP w mg base N=>⟨by
 have b:=(br K a).2 P w base N;have c:=(pT K a).2 P w base N
 exact bj (k:=3) 3 8 _ N.Gc bR rfl rfl λe A outer s H E d=>ag (aO (psS 3 bR.nd (ax)))
   (ag (aO (psS 4 bR.nd (ax)))
   (ag (bH aC (bt cq rfl (aV (vv 1)) (pgN 5 bR.nd) (ag (pQ (eC (aY aC (aY aC dC)) (aX (aX cU))) (eA (bC (z9 (hu2 d)) OL (vv 2) (vc b d (va2 (vv 0) (vv 5)))) (bu rfl (aw (pgN 6 bR.nd) (aw (pgN 7 bR.nd) bo)))))
   (ag (gL iH (fR (i:=3) bR.nd rfl (by first|exact Ru rfl|exact Se rfl) (vv 6) kA))
   (ai (gL iH (fR (i:=4) bR.nd rfl (by first|exact Ru rfl|exact Se rfl) (bw wz IH (vc c d (va1 (vv 5))) (vv 7)) kA)))))))
   (ai (aG (az (cr (va2 (vv 3) (vv 4)))))))),N.Gd,N.Gc.kp,N.Ge⟩⟩
theorem bE:FnScope ["rowsums","columnsums","bounds","levels","last","here","told","level","behind"] ["rowsums","columnsums","bounds"] (ah jv):=fsc
def eJ(K:PZ)(a:Ad):QF K a 5 "counted_nodes" a.Bn a.Bo ["rowsums","columnsums","bounds"] 3:=⟨_,λP w mg base N=>⟨by
 have d:=(f7 K a).2 P w base N;have c:=(cj K a).2 P w base N;have e:=(ic K a).2 P w base N
 exact bj (k:=4) 3 9 _ N.Gf bE rfl rfl λh A outer s H E f=>ag (aO (psS 3 bE.nd (vc d f (va3 (vv 0) (vv 1) (vv 2)))))
   (ag (aO (psS 4 bE.nd (bU N.Dy (va1 (vv 1)))))
   (ag (y6 (kb:=Pj) (i:=5) bE.nd rfl (by first|exact Ru rfl|exact Se rfl) rfl (cso ["rests"] ["rests"] []) (aV (bC aP bG (vv 3) (vv 4))) (λcl C g s H=>⟨(pgN 0 ndc),aM,λD=>k8 (b:=Pj) (tZ f) rfl (vv 0) (cr (va2 (ax) (ax))) rfl⟩) ak au (λD=>oW))
   (ag (kT (psS 6 bE.nd (eW (va1 (vv 5)))))
   (ag (bH aC (bt cq rfl (EC (by rfl) N.D5 (by rfl) N.D4 (va1 (vv 4))) (pgN 7 bE.nd) (ag (aO (psS 8 bE.nd (vv 5)))
   (ag (y6 (kb:=Pj) (i:=5) bE.nd rfl (by first|exact Ru rfl|exact Se rfl) rfl (cso ["rests","columnsums","bounds","level","behind"] ["rests"] [1,2,7,8]) (aV (bC aP bG (vv 3) (vv 7))) (λcl C g s H=>⟨(pgN 0 ndc),aM,λD=>k8 (b:=Pj) (tZ f) rfl (vv 0) (vc e f (va3 (vv 0) (vc c f (va4 (vv 0) (vv 1) (vv 2) (vv 3))) (vv 4))) rfl⟩) ak au (λD=>oW))
   (ai (kU (cM (k7 Rc Rq Rr eZ (pv 6) (va1 (vv 5))))))))))
   (ai (aG (az (JI (kb:=Pe) rfl (cso ["level","nodes","rests","counts"] ["level","nodes","rests","counts"] []) (kC (by rfl) N.Dv (va1 (Ob (vv 6) (v_un Lb OI (ax))))) (λcl C g s H=>⟨(bu rfl (aw (pgN 0 ndc) (aw (pgN 1 ndc) bo))),aM,λD=>q9 rfl rfl rfl (KP (vv 1)) (bu rfl (aw (pgN 2 ndc) (aw (pgN 3 ndc) bo))) (aM) (k8 (b:=Pe) (tZ f) rfl (cr (va2 (vv 0) (vv 2))) (vv 3) rfl)⟩) (dF (aT ak (aT ak cN)) (aR (aR bV))) (dE (aS au (aS au cL))) (λD=>oV (dF (aT ak (aT ak cN)) (aR (aR bV))) (dE (aS au (aS au cL))) (oW)))))))))),N.Gg,N.Gf.kp,N.Gi⟩⟩
theorem pG:FnScope ["k","many"] ["k","many"] (ah kn):=fsc
def dO(K:PZ)(a:Ad):QF K a 2 "check_number" a.Bp a.Bq ["k","many"] 2:=⟨_,λP w mg base N=>⟨by
 exact bj (k:=1) 2 2 _ N.Gj pG rfl rfl λb A outer s H E c=>ai (bX (kR (qN jC pY mt u7 (ax) (vv 0) (vv 1))) (ai (cZ)) (bA)),N.Gk,N.Gj.kp,N.Gm⟩⟩
theorem oN:FnScope ["self","level","rests"] ["self","level","rests"] (ah jy):=fsc
def eL(K:PZ)(a:Ad):QM K a 2 a.Dd a.Df ["self","level","rests"] 3:=⟨_,λP w mg base N=>by
 exact bj (k:=1) 3 3 _ N.Jf oN rfl rfl λb A outer s H E c=>ai (aG (az (Od (hu2 c) (jp N.Jr N.Ju (vv 0)) (va2 (cr (va2 (vv 1) (vv 2))) (cr (va2 (ax) (ax)))))))⟩
theorem uB:FnScope ["self","level","rests"] ["self","level","rests"] (ah oz):=fsc
def jX(K:PZ)(a:Ad):QM K a 4 a.Dl a.Dm ["self","level","rests"] 3:=⟨_,λP w mg base N=>by
 have b:=(cj K a).2 P w base N;have d:=(br K a).2 P w base N;have c:=(eL K a).2 P w base N
 exact bj (k:=3) 3 3 _ N.Jo uB rfl rfl λg A outer s H E e=>ag (bX (iN (oF (bv (wy (hu2 e)) OH (cr (va2 (vv 1) (vv 2))) (jp N.Jr N.Ju (vv 0))) (kM (bv (eY e) gm (vv 1) (bU N.Dy (va1 (jp N.Jr N.Jt (vv 0)))))))) (ai (aG (az (fj (eP))))) (bA))
   (ai (aG (az (bi rfl (cso ["counts","self","level","rests"] ["counts"] [0,1,2]) (aV (vc b e (va4 (vv 2) (jp N.Jr N.Jt (vv 0)) (jp N.Jr N.Jv (vv 0)) (vv 1)))) (λcl C i s H=>⟨(pgN 0 ndc),qt (bv tM x4 (bC aP bG (pi N.Jr N.Jg c (e.mono (by decide)) (cT.nil N.Jh) tL (vv 1) (va2 (bw bp cP (vv 2) (ax)) (vc d e (va2 (vv 3) (vv 0)))) (λδ β r f h=>by rw[(bf (bf aN0)) δ β r f h];rfl)) (ax)) (ax)),λD=>aF rfl (vv 0) rfl⟩) ak au (λD=>aK)))))⟩
theorem c7:FnScope ["net","level","rests","told","counts","tables","dealings"] ["net","level","rests"] (ah ju):=fsc
def bY(K:PZ)(a:Ad):QF K a 5 "steps_counted" a.Br a.Bs ["net","level","rests"] 3:=⟨_,λP w mg base N=>⟨by
 have d:=(jX K a).2 P w base N;have c:=(br K a).2 P w base N;have b:=(eL K a).2 P w base N;have e:=(pT K a).2 P w base N
 exact bj (k:=4) 3 7 _ N.Gn c7 rfl rfl λi A outer s H E g=>ag (kT (psS 3 c7.nd (eW (eP))))
   (ag (bH aC (bt cq rfl (aV (pi N.Jr N.Jp d (g.mono (by decide)) (cT.nil N.Jq) dh (vv 0) (va2 (vv 1) (vv 2)) (λδ β r f h=>by rw[(bf (bf aN0)) δ β r f h];rfl))) (pgN 4 c7.nd) (ag (pQ (eC (aY aC (aY aC dC)) (aX (aX cU))) (eA (pi N.Jr N.Jg b (g.mono (by decide)) (cT.nil N.Jh) dh (vv 0) (va2 (bw bp cP (vv 1) (ax)) (vc c g (va2 (vv 2) (vv 4)))) (λδ β r f h=>by rw[(bf (bf aN0)) δ β r f h];rfl)) (bu rfl (aw (pgN 5 c7.nd) (aw (pgN 6 c7.nd) bo)))))
   (ai (kU (cM (k7 Rc Rq Rr eZ (pv 3) (va1 (cr (va3 (vv 4) (vv 5) (bw wz IH (vc e g (va1 (vv 4))) (vv 6))))))))))))
   (ai (aG (az (vv 3))))),N.Go,N.Gn.kp,N.Gp⟩⟩
theorem gJ:FnScope ["numbered","k","at"] ["numbered","k"] (ah pP):=fsc
def fq(K:PZ)(a:Ad):QF K a 2 "falls_to" a.Bt a.Bu ["numbered","k"] 2:=⟨_,λP w mg base N=>⟨by
 exact bj (k:=1) 2 3 _ N.Gq gJ rfl rfl λb A outer s H E c=>ag (aO (psS 2 gJ.nd (ax)))
   (ag (J1 cq (bv IA l_ge (vv 1) (bC aP bG (bC aP bG (vv 0) (vv 2)) (ax))) (ag (gL KE (fR (i:=1) gJ.nd rfl (by first|exact Ru rfl|exact Se rfl) (bC aP bG (bC aP bG (vv 0) (vv 2)) (ax)) MC))
   (ai (gL iH (fR (i:=2) gJ.nd rfl (by first|exact Ru rfl|exact Se rfl) (ax) kA)))))
   (ai (aG (az (cr (va2 (bC aP bG (bC aP bG (vv 0) (vv 2)) (ax)) (vv 1))))))),N.Gr,N.Gq.kp,N.Gs⟩⟩
theorem tq:FnScope ["self"] ["self"] (ah l5):=fsc
def eV(K:PZ)(a:Ad):QM K a 3 a.Da a.Db ["self"] 1:=⟨_,λP w mg base N=>by
 have b:=(eL K a).2 P w base N;exact bj (k:=2) 1 1 _ N.Jc tq rfl rfl λd A outer s H E e=>ai (aG (az (bC aP bG (pi N.Jr N.Jg b (e.mono (by decide)) (cT.nil N.Jh) dh (vv 0) (va2 (ax) (bT cW gE (by rfl) N.D9 PyProof.Rows.Boot.«tuple» (va1 (jp N.Jr N.Jw (vv 0))))) (λδ β r c h=>by rw[(bf (bf aN0)) δ β r c h];rfl)) (ax))))⟩
theorem qR:FnScope ["self"] ["self"] (ah lJ):=fsc
def ck(K:PZ)(a:Ad):QM K a 2 a.Dg a.Dh ["self"] 1:=⟨_,λP w mg base N=>by
 exact bj (k:=1) 1 1 _ N.Ji qR rfl rfl λb A outer s H E c=>ai (aG (az (bT dg jc (by rfl) N.Dz PyProof.Rows.Boot.«list» (va1 (jp N.Jr N.Jw (vv 0))))))⟩
theorem oi:FnScope ["self"] ["self"] (ah iS):=fsc
def cI(K:PZ)(a:Ad):QM K a 2 a.Di a.Dj ["self"] 1:=⟨_,λP w mg base N=>by
 exact bj (k:=1) 1 1 _ N.Jl oi rfl rfl λb A outer s H E c=>ai (aG (az (bT dg jc (by rfl) N.Dz PyProof.Rows.Boot.«list» (va1 (jp N.Jr N.Jt (vv 0))))))⟩
theorem aZ:FnScope ["net","k","rests","columns","level","numbered","filling"] ["net","k"] (ah ow):=fsc
def jV(K:PZ)(a:Ad):QF K a 6 "kth_table" a.Bv a.Bw ["net","k"] 2:=⟨_,λP w mg base N=>⟨by
 have h:=(eV K a).2 P w base N;have d:=(dO K a).2 P w base N;have f:=(ck K a).2 P w base N;have b:=(cI K a).2 P w base N;have c:=(bY K a).2 P w base N;have j:=(fq K a).2 P w base N;have e:=(br K a).2 P w base N;have g:=(d9 K a).2 P w base N
 exact bj (k:=5) 2 7 _ N.Gu aZ rfl rfl λm A outer s H E l=>ag (kj (cM (vc d l (va2 (vv 1) (fi N.Jr N.Jd h (l.mono (by decide)) (cT.nil N.Je) dh (vv 0) rfl)))))
   (ag (aO (psS 2 aZ.nd (bT cW gE (by rfl) N.D9 PyProof.Rows.Boot.«tuple» (va1 (fi N.Jr N.Jj f (l.mono (by decide)) (cT.nil N.Jk) dh (vv 0) rfl)))))
   (ag (kT (psS 3 aZ.nd (eW (eP))))
   (ag (bH aC (bt cq rfl (bK (by rfl) N.D4 (va1 (bU N.Dy (va1 (fi N.Jr N.Jm b (l.mono (by decide)) (cT.nil N.Jn) dh (vv 0) rfl))))) (pgN 4 aZ.nd) (ag (pI (i:=5) aZ.nd rfl (by first|exact Ru rfl|exact Se rfl) rfl (cso ["counts","tables","dealings"] ["counts","tables","dealings"] []) (aV (vc c l (va3 (vv 0) (vv 4) (vv 2)))) (λcl C n s H=>⟨(bu rfl (aw (pgN 0 ndc) (aw (pgN 1 ndc) (aw (pgN 2 ndc) bo)))),aM,λD=>aF rfl (cr (va2 (vv 0) (vv 1))) rfl⟩) (dF (aT ak (aT ak (aT ak cN))) (aR (aR (aR bV)))) (dE (aS au (aS au (aS au cL)))) (λD=>aK))
   (ag (pQ (eC (aY aC (aY aC dC)) (aX (aX cU))) (eA (vc j l (va2 (vv 5) (vv 1))) (bu rfl (aw (pgN 6 aZ.nd) (aw (pgN 1 aZ.nd) bo)))))
   (ag (kU (cM (k7 Rc Rq Rr eZ (pv 3) (va1 (vv 6)))))
   (ai (aO (psS 2 aZ.nd (vc e l (va2 (vv 2) (vv 6)))))))))))
   (ai (aG (az (vc g l (va1 (vv 3))))))))),N.Gv,N.Gu.kp,N.Gx⟩⟩
def jf(K:PZ)(a:Ad):G:=
  aJ (fF (bB (dO K a).1 (aa (af 1) (aa (fZ a.Ae "tables" (eV K a).1 (af 0) ao []) (ao)))))
  (aJ (dR 2 (aA lT (aa (fZ a.Ae "rowsums" (ck K a).1 (af 0) ao []) (ao))))
  (aJ (rq 3 (ao))
  (aJ (rA (bN fJ (aa (aA cc (aa (fZ a.Ae "columnsums" (cI K a).1 (af 0) ao []) (ao))) (ao))) (sgN 4) (aJ (dR 5 (cw 3 [] (bZ (bB (bY K a).1 (aa (af 0) (aa (af 4) (aa (af 2) (ao)))))) (tgT (cJ (tgC 0) (cJ (tgC 1) (cJ (tgC 2) ge)))) (λ_=>M.ret Pe) (cEm (aA cu (aa (af 0) (aa (af 1) (ao)))))))
  (aJ (ij (bB (fq K a).1 (aa (af 5) (aa (af 1) (ao)))) (sgT (h9 (sgN 6) (h9 (sgN 1) jQ))))
  (aJ (rB 3 (aa (af 6) (ao)))
  (dR 2 (bB (br K a).1 (aa (af 2) (aa (af 6) (ao)))))))))
  (fzG 3 (jg (qu (fA K a) (aa (af 3) (ao))))))))
def i6(K:PZ)(a:Ad):List D->M (List (List D)):=jL 7 (jf K a)
theorem tu(N:Fns K mg a):FnOk P w K mg base (CXE P w) 6 a.Bv a.Bw ["net","k"] (spG K 2 (i6 K a)):=by
 have h:=(eV K a).2 P w base N;have d:=(dO K a).2 P w base N;have g:=(ck K a).2 P w base N;have b:=(cI K a).2 P w base N;have c:=(bY K a).2 P w base N;have j:=(fq K a).2 P w base N;have e:=(br K a).2 P w base N;have f:=p8 P w base N;unfold i6
 exact rC (k:=5) 2 7 (jf K a) N.Gu aZ rfl rfl λm A outer s H E l=>ag (kj (cM (vc d l (va2 (vv 1) (fi N.Jr N.Jd h (l.mono (by decide)) (cT.nil N.Je) dh (vv 0) rfl)))))
   (ag (aO (psS 2 aZ.nd (bT cW gE (by rfl) N.D9 PyProof.Rows.Boot.«tuple» (va1 (fi N.Jr N.Jj g (l.mono (by decide)) (cT.nil N.Jk) dh (vv 0) rfl)))))
   (ag (kT (psS 3 aZ.nd (eW (eP))))
   (ag (bH aC (bt cq rfl (bK (by rfl) N.D4 (va1 (bU N.Dy (va1 (fi N.Jr N.Jm b (l.mono (by decide)) (cT.nil N.Jn) dh (vv 0) rfl))))) (pgN 4 aZ.nd) (ag (pI (i:=5) aZ.nd rfl (by first|exact Ru rfl|exact Se rfl) rfl (cso ["counts","tables","dealings"] ["counts","tables","dealings"] []) (aV (vc c l (va3 (vv 0) (vv 4) (vv 2)))) (λcl C n s H=>⟨(bu rfl (aw (pgN 0 ndc) (aw (pgN 1 ndc) (aw (pgN 2 ndc) bo)))),aM,λD=>aF rfl (cr (va2 (vv 0) (vv 1))) rfl⟩) (dF (aT ak (aT ak (aT ak cN))) (aR (aR (aR bV)))) (dE (aS au (aS au (aS au cL)))) (λD=>aK))
   (ag (pQ (eC (aY aC (aY aC dC)) (aX (aX cU))) (eA (vc j l (va2 (vv 5) (vv 1))) (bu rfl (aw (pgN 6 aZ.nd) (aw (pgN 1 aZ.nd) bo)))))
   (ag (kU (cM (k7 Rc Rq Rr eZ (pv 3) (va1 (vv 6)))))
   (ai (aO (psS 2 aZ.nd (vc e l (va2 (vv 2) (vv 6)))))))))))
   (CJ 3 (ai (qT (az (vh f (l.mono (by decide)) (by rfl) N.Et N.Es.kp N.Eu dh (va1 (vv 3)) (bf aN0)))))))))
theorem iO:FnScope ["net","rows","many"] ["net","rows"] (ah jx):=fsc
def gh(K:PZ)(a:Ad):QF K a 3 "columns_asked" a.Bx a.By ["net","rows"] 2:=⟨_,λP w mg base N=>⟨by
 have b:=(cI K a).2 P w base N;have c:=(ck K a).2 P w base N;have d:=(d9 K a).2 P w base N
 exact bj (k:=2) 2 3 _ N.Gy iO rfl rfl λf A outer s H E e=>ag (aO (psS 2 iO.nd (bU N.Dy (va1 (fi N.Jr N.Jm b (e.mono (by decide)) (cT.nil N.Jn) dh (vv 0) rfl)))))
   (ag (bX (iN (oF (bv (eX e) gl (bU N.Dy (va1 (vv 1))) (bU N.Dy (va1 (fi N.Jr N.Jj c (e.mono (by decide)) (cT.nil N.Jk) dh (vv 0) rfl)))) (kM (jq (cg (jK rfl) tU (by rfl) N.Dt PyProof.Rows.Boot.«any» (va1 (bi rfl (cso ["counts","many"] ["counts"] [2]) (aV (vv 1)) (λcl C g s H=>⟨(pgN 0 ndc),aM,λD=>aF rfl (kP (eX e) gl (bU N.Dy (va1 (vv 0))) (vv 1)) rfl⟩) ak au (λD=>aK)))))))) (ai (cZ)) (bA))
   (ai (aG (az (bi rfl (cso ["counts"] ["counts"] []) (aV (vc d e (va1 (vv 1)))) (λcl C g s H=>⟨(pgN 0 ndc),aM,λD=>aF rfl (bT cW gE (by rfl) N.D9 PyProof.Rows.Boot.«tuple» (va1 (vv 0))) rfl⟩) ak au (λD=>aK)))))),N.Gz,N.Gy.kp,N.G0⟩⟩
theorem bF:FnScope ["net","level","rests","filling","tables_ahead","dealings_ahead","counts","tables","dealings"] ["net","level","rests","filling"] (ah jw):=fsc
def eK(K:PZ)(a:Ad):QF K a 6 "counted_ahead" a.Bz a.B0 ["net","level","rests","filling"] 4:=⟨_,λP w mg base N=>⟨by
 have b:=(bY K a).2 P w base N
 exact bj (k:=5) 4 9 _ N.G1 bF rfl rfl λd A outer s H E c=>ag (aO (psS 4 bF.nd (ax)))
   (ag (aO (psS 5 bF.nd (ax)))
   (ag (bH (eC (aY aC (aY aC (aY aC dC))) (aX (aX (aX cU)))) (bt cq rfl (aV (vc b c (va3 (vv 0) (vv 1) (vv 2)))) (bu rfl (aw (pgN 6 bF.nd) (aw (pgN 7 bF.nd) (aw (pgN 8 bF.nd) bo)))) (ag (bX (bv (eY c) gm (vv 6) (vv 3)) (ai (aG (az (cr (va2 (vv 4) (vv 5)))))) (bA))
   (ag (gL iH (fR (i:=4) bF.nd rfl (by first|exact Ru rfl|exact Se rfl) (vv 7) kA))
   (ai (gL iH (fR (i:=5) bF.nd rfl (by first|exact Ru rfl|exact Se rfl) (vv 8) kA)))))))
   (ai (cZ)))),N.G2,N.G1.kp,N.G3⟩⟩
theorem c8:FnScope ["net","rows","rests","number","level","filling"] ["net","rows"] (ah oj):=fsc
def jR(K:PZ)(a:Ad):QF K a 7 "number_of" a.B5 a.B7 ["net","rows"] 2:=⟨_,λP w mg base N=>⟨by
 have e:=(ck K a).2 P w base N;have b:=(gh K a).2 P w base N;have c:=(eK K a).2 P w base N;have d:=(br K a).2 P w base N
 exact bj (k:=6) 2 6 _ N.G4 c8 rfl rfl λg A outer s H E f=>ag (aO (psS 2 c8.nd (bT cW gE (by rfl) N.D9 PyProof.Rows.Boot.«tuple» (va1 (fi N.Jr N.Jj e (f.mono (by decide)) (cT.nil N.Jk) dh (vv 0) rfl)))))
   (ag (aO (psS 3 c8.nd (ax)))
   (ag (bH (eC (aY aC (aY aC dC)) (aX (aX cU))) (bt cq rfl (kC (by rfl) N.Dv (va1 (vc b f (va2 (vv 0) (vv 1))))) (bu rfl (aw (pgN 4 c8.nd) (aw (pgN 5 c8.nd) bo))) (ag (gL iH (fR (i:=3) c8.nd rfl (by first|exact Ru rfl|exact Se rfl) (bC aP bG (vc c f (va4 (vv 0) (vv 4) (vv 2) (vv 5))) (ax)) kA))
   (ai (aO (psS 2 c8.nd (vc d f (va2 (vv 2) (vv 5)))))))))
   (ai (aG (az (vv 3)))))),N.G5,N.G4.kp,N.G6⟩⟩
theorem yX:FnScope ["_law_found","_law_due"] ["_law_found","_law_due"] (ah uC):=fsc
def o4(K:PZ)(a:Ad)(rec:List D->M D):G:=
  aJ (gIf (ik (aA fX (aa (af 1) (aa (aA cu (aa (fC (.ty "list")) (aa (fC (.ty "tuple")) (ao)))) (ao))))) (aJ (gIf (gq (fB (f2 (dm) (aA cV (aa (af 1) (aa (fC (.ty "list")) (ao)))) (aA cV (aa (af 0) (aa (fC (.ty "list")) (ao)))))) (fB (f2 (dm) (aA cV (aa (af 1) (aa (fC (.ty "tuple")) (ao)))) (aA cV (aa (af 0) (aa (fC (.ty "tuple")) (ao))))))) (dn (fC (.bl Pj))) (gNil))
  (aJ (gIf (fB (f2 (dm) (aA cc (aa (af 0) (ao))) (aA cc (aa (af 1) (ao))))) (dn (fC (.bl Pj))) (gNil))
  (dn (f2 (inD Pe) (fC (.bl Pj)) (cw 2 [] (iZ (aa (af 0) (aa (af 1) (ao)))) (tgT (cJ (tgC 0) (cJ (tgC 1) ge))) (λ_=>M.ret Pe) (cEm (bB rec (aa (af 0) (aa (af 1) (ao)))))))))) (gNil))
  (aJ (gIf (fB (f2 (ii) (af 1) (fC .non))) (dn (f2 (ii) (af 0) (fC .non))) (gNil))
  (aJ (gIf (gq (fB (f2 (dm) (aA cV (aa (af 1) (aa (fC (.ty "str")) (ao)))) (aA cV (aa (af 0) (aa (fC (.ty "str")) (ao)))))) (fB (f2 (dm) (aA cV (aa (af 1) (aa (fC (.ty "bool")) (ao)))) (aA cV (aa (af 0) (aa (fC (.ty "bool")) (ao))))))) (dn (fC (.bl Pj))) (gNil))
  (dn (ly (aA fX (aa (af 0) (aa (aA cu (aa (fC (.ty "int")) (aa (fC (.ty "str")) (ao)))) (ao)))) (f2 (gu) (af 0) (af 1))))))
def e8(K:PZ)(a:Ad):Nat->List D->M D
 |0=>λ_=>M.fail
 |n+1=>dj 2 (o4 K a (e8 K a n))
theorem p7(N:Fns K mg a):∀n,FnOk P w K mg base (CXE P w) (n+1) a.Cd a.Cf ["_law_found","_law_due"] (spF K 2 (e8 K a n))
 |0=>⟨λvs H Q E h=>h.1,λA outer s H args us vs Q E b f g r h=>by
  obtain⟨_,F,ds,β,_,_,i,β1,e,_⟩:=h;cases e⟩
 |n+1=>by
  have c:=p7 N n;unfold e8;exact bj (k:=n+1) 2 2 (o4 K a (e8 K a n)) N.Hd yX rfl rfl λd A outer s H E b=>ag (bX (jq (cg qz z5 (by rfl) N.Dx PyProof.Rows.Boot.«isinstance» (va2 (vv 1) (cr (va2 (v_c (dB (v:= .ty "list") (by rfl) N.Dz PyProof.Rows.Boot.«list» rfl) (λ_ _=>rfl)) (v_c (dB (v:= .ty "tuple") (by rfl) N.D9 PyProof.Rows.Boot.«tuple» rfl) (λ_ _=>rfl))))))) (ag (bX (iN (oF (bv (eX b) gl (lS N.Dx (va2 (vv 1) (v_c (dB (v:= .ty "list") (by rfl) N.Dz PyProof.Rows.Boot.«list» rfl) (λ_ _=>rfl)))) (lS N.Dx (va2 (vv 0) (v_c (dB (v:= .ty "list") (by rfl) N.Dz PyProof.Rows.Boot.«list» rfl) (λ_ _=>rfl))))) (kM (bv (eX b) gl (lS N.Dx (va2 (vv 1) (v_c (dB (v:= .ty "tuple") (by rfl) N.D9 PyProof.Rows.Boot.«tuple» rfl) (λ_ _=>rfl)))) (lS N.Dx (va2 (vv 0) (v_c (dB (v:= .ty "tuple") (by rfl) N.D9 PyProof.Rows.Boot.«tuple» rfl) (λ_ _=>rfl)))))))) (ai (aG (az (lR)))) (bA))
   (ag (bX (bv (eX b) gl (bU N.Dy (va1 (vv 0))) (bU N.Dy (va1 (vv 1)))) (ai (aG (az (lR)))) (bA))
   (ai (aG (az (kP me (DV (neg:=Pe)) (lR) (bi rfl (cso ["_law_one","_law_other"] ["_law_one","_law_other"] []) (qp (by rfl) N.Ea (va2 (vv 0) (vv 1))) (λcl C j s H=>⟨(bu rfl (aw (pgN 0 ndc) (aw (pgN 1 ndc) bo))),aM,λD=>aF rfl (yw c (b.mono (Pt _)) (by rfl) N.He N.Hd.kp N.Hf tL (va2 (vv 0) (vv 1)) (bf (bf aN0))) rfl⟩) (dF (aT ak (aT ak cN)) (aR (aR bV))) (dE (aS au (aS au cL))) (λD=>aK)))))))) (bA))
   (ag (bX (bv uO x3 (vv 1) (xo)) (ai (aG (az (kP uO x3 (vv 0) (xo))))) (bA))
   (ag (bX (iN (oF (bv (eX b) gl (lS N.Dx (va2 (vv 1) (v_c (dB (v:= .ty "str") (by rfl) N.D7 PyProof.Rows.Boot.«str» rfl) (λ_ _=>rfl)))) (lS N.Dx (va2 (vv 0) (v_c (dB (v:= .ty "str") (by rfl) N.D7 PyProof.Rows.Boot.«str» rfl) (λ_ _=>rfl))))) (kM (bv (eX b) gl (lS N.Dx (va2 (vv 1) (v_c (dB (v:= .ty "bool") (by rfl) N.Du PyProof.Rows.Boot.«bool» rfl) (λ_ _=>rfl)))) (lS N.Dx (va2 (vv 0) (v_c (dB (v:= .ty "bool") (by rfl) N.Du PyProof.Rows.Boot.«bool» rfl) (λ_ _=>rfl)))))))) (ai (aG (az (lR)))) (bA))
   (ai (aG (az (Oe (cg qz z5 (by rfl) N.Dx PyProof.Rows.Boot.«isinstance» (va2 (vv 0) (cr (va2 (v_c (dB (v:= .ty "int") (by rfl) N.Dw PyProof.Rows.Boot.«int» rfl) (λ_ _=>rfl)) (v_c (dB (v:= .ty "str") (by rfl) N.D7 PyProof.Rows.Boot.«str» rfl) (λ_ _=>rfl)))))) (Oc (kP (eY b) gm (vv 0) (vv 1)))))))))
theorem zw(N:Fns K mg a):FB P w K mg base 7 "_law_same" a.Cd a.Cf ["_law_found","_law_due"] 2 (e8 K a 5):=⟨(p7 P w base N 5).mono (by decide),N.He,N.Hd.kp,N.Hf⟩
theorem gT:FnScope ["_law_bag_here","_law_block","_law_columns","_law_things","_law_grid_here","_law_thing","_law_at","_law_to"] ["_law_bag_here","_law_block","_law_columns","_law_things"] (ah uF):=fsc
def kX(K:PZ)(a:Ad):QF K a 3 "_law_grid" a.Cg a.Ch ["_law_bag_here","_law_block","_law_columns","_law_things"] 4:=⟨_,λP w mg base N=>⟨by
 have b:=jH P w base N
 exact bj (k:=2) 4 8 _ N.Hg gT rfl rfl λd A outer s H E c=>ag (Lu (i:=4) gT.nd rfl (by first|exact Ru rfl|exact Se rfl) rfl (cso ["_law_row","_law_columns"] ["_law_row"] [2]) (bK (by rfl) N.D4 (va1 (vv 1))) (λcl C e s H=>⟨(pgN 0 ndc),aM,λD=>aF rfl (Oz (va1 (ax)) (vv 1)) rfl⟩) ak au (λD=>rc))
   (ag (bH aC (bt cq rfl (bK (by rfl) N.D4 (va1 (vv 3))) (pgN 5 gT.nd) (ag (aO (psS 6 gT.nd (vc b c (va2 (vv 0) (vv 1)))))
   (ag (aO (psS 7 gT.nd (vc b c (va2 (vv 0) (vv 2)))))
   (ai (pM (eA (bw bp cP (bC aP bG (bC aP bG (vv 4) (vv 6)) (vv 7)) (ax)) (iX (gi dQ (pv 4) (vv 6) (λ_ _=>rfl)) (vv 7) f6))))))))
   (ai (aG (az (vv 4))))),N.Hh,N.Hg.kp,N.Hi⟩⟩
theorem iw:FnScope ["_law_bag_here","_law_way","_law_block","_law_columns"] ["_law_bag_here"] (ah sy):=fsc
def jA(K:PZ)(a:Ad):QF K a 4 "_law_small" a.Ci a.Cj ["_law_bag_here"] 1:=⟨_,λP w mg base N=>⟨by
 have b:=jH P w base N;have c:=(kX K a).2 P w base N
 exact bj (k:=3) 1 4 _ N.Hj iw rfl rfl λe A outer s H E d=>ag (aO (psS 1 iw.nd (vc b d (va2 (vv 0) (ax)))))
   (ag (bX (bv (eY d) gm (vv 1) (ax)) (ai (aG (az (vc c d (va4 (vv 0) (ax) (ax) (vc b d (va2 (vv 0) (ax)))))))) (bA))
   (ag (bX (bv (eY d) gm (vv 1) (ax)) (ai (aG (az (vc c d (va4 (vv 0) (ax) (bw bp cP (ax) (vc b d (va2 (vv 0) (ax)))) (vc b d (va2 (vv 0) (ax)))))))) (bA))
   (ag (bX (bv (eY d) gm (vv 1) (ax)) (ai (aG (az (vc c d (va4 (vv 0) (bw bp cP (ax) (vc b d (va2 (vv 0) (ax)))) (ax) (vc b d (va2 (vv 0) (ax)))))))) (bA))
   (ag (aO (psS 2 iw.nd (bw bp cP (ax) (vc b d (va2 (vv 0) (ax))))))
   (ag (aO (psS 3 iw.nd (bw bp cP (ax) (vc b d (va2 (vv 0) (ax))))))
   (ai (aG (az (vc c d (va4 (vv 0) (vv 2) (vv 3) (vc b d (va2 (vv 0) (ax))))))))))))),N.Hk,N.Hj.kp,N.Hl⟩⟩
theorem vR:FnScope ["_law_block"] ["_law_block"] (ah pJ):=fsc
def kW(K:PZ)(a:Ad):QF K a 2 "_law_turned" a.Ck a.Cl ["_law_block"] 1:=⟨_,λP w mg base N=>⟨by
 exact bj (k:=1) 1 1 _ N.Hm vR rfl rfl λb A outer s H E d=>ai (aG (az (bi rfl (cso ["_law_to","_law_block"] ["_law_to"] [0]) (bK (by rfl) N.D4 (va1 (bU N.Dy (va1 (bC aP bG (vv 0) (ax)))))) (λcl C c s H=>⟨(pgN 0 ndc),aM,λD=>aF rfl (bi rfl (cso ["_law_row","_law_to"] ["_law_row"] [0]) (aV (vv 1)) (λcl C c s H=>⟨(pgN 0 ndc),aM,λD=>aF rfl (bC aP bG (vv 0) (vv 1)) rfl⟩) ak au (λD=>aK)) rfl⟩) ak au (λD=>aK)))),N.Hn,N.Hm.kp,N.Ho⟩⟩
theorem uA:FnScope ["_law_grid_here"] ["_law_grid_here"] (ah oq):=fsc
def jT(K:PZ)(a:Ad):QF K a 2 "_law_rowsums" a.Cm a.Cn ["_law_grid_here"] 1:=⟨_,λP w mg base N=>⟨by
 exact bj (k:=1) 1 1 _ N.Hq uA rfl rfl λb A outer s H E c=>ai (aG (az (bi rfl (cso ["_law_row"] ["_law_row"] []) (aV (vv 0)) (λcl C d s H=>⟨(pgN 0 ndc),aM,λD=>aF rfl (hX N.D8 (va1 (vv 0))) rfl⟩) ak au (λD=>aK)))),N.Hr,N.Hq.kp,N.Ht⟩⟩
theorem pF:FnScope ["_law_grid_here"] ["_law_grid_here"] (ah ki):=fsc
def gB(K:PZ)(a:Ad):QF K a 3 "_law_columnsums" a.Co a.Cp ["_law_grid_here"] 1:=⟨_,λP w mg base N=>⟨by
 have b:=(kW K a).2 P w base N;exact bj (k:=2) 1 1 _ N.Hu pF rfl rfl λc A outer s H E d=>ai (aG (az (bi rfl (cso ["_law_column"] ["_law_column"] []) (aV (vc b d (va1 (vv 0)))) (λcl C e s H=>⟨(pgN 0 ndc),aM,λD=>aF rfl (hX N.D8 (va1 (vv 0))) rfl⟩) ak au (λD=>aK)))),N.Hv,N.Hu.kp,N.Hw⟩⟩
theorem yZ:FnScope ["_law_block","_law_columns"] ["_law_block","_law_columns"] (ah uG):=fsc
def sI(K:PZ)(a:Ad):G:=
  jg (g0 1 [1] (bN fJ (aa (af 0) (ao))) (tgC 0) (λ_=>M.ret Pe) (rP (gr 1 [] (bN fJ (aa (af 1) (ao))) (tgC 0) (λ_=>M.ret Pe) (cEm (aA cu (aa (fC (.int 0)) (aa (fC (.int 40)) (ao))))))))
def mn(K:PZ)(a:Ad):List D->M (List (List D)):=jL 2 (sI K a)
theorem xN(N:Fns K mg a):FnOk P w K mg base (CXE P w) 2 a.Cq a.Cr ["_law_block","_law_columns"] (spG K 2 (mn K a)):=by
 unfold mn;exact rC (k:=1) 2 2 (sI K a) N.Hx yZ rfl rfl λb A outer s H E d=>ai (qT (az (AL rfl (cso ["_law_at","_law_columns"] ["_law_at"] [1]) (bK (by rfl) N.D4 (va1 (vv 0))) (λcl C c s H=>⟨(pgN 0 ndc),aM,λD=>aF rfl (zD rfl (cso ["_law_to"] ["_law_to"] []) (bK (by rfl) N.D4 (va1 (vv 1))) (λcl C c s H=>⟨(pgN 0 ndc),aM,λD=>aF rfl (cr (va2 (ax) (ax))) rfl⟩) ak au (λD=>aK)) rfl⟩) ak au (λD=>rc))))
theorem dJ:FnScope ["_law_bag_here","_law_grid_here","_law_told","_law_at","_law_row","_law_to","_law_count","_law_way"] ["_law_bag_here","_law_grid_here"] (ah pL):=fsc
def iB(K:PZ)(a:Ad):QF K a 3 "_law_bounds" a.Cs a.Ct ["_law_bag_here","_law_grid_here"] 2:=⟨_,λP w mg base N=>⟨by
 have c:=xN P w base N;have b:=jH P w base N
 exact bj (k:=2) 2 8 _ N.Ia dJ rfl rfl λe A outer s H E d=>ag (xE (psS 2 dJ.nd (vh c (d.mono (by decide)) (by rfl) N.Hy N.Hx.kp N.Hz dh (va2 (bU N.Dy (va1 (vv 1))) (bU N.Dy (va1 (bC aP bG (vv 1) (ax))))) (bf (bf aN0)))))
   (ag (bX (bv (eY d) gm (vc b d (va2 (vv 0) (ax))) (ax)) (ai (aG (az (vv 2)))) (bA))
   (ag (bH (eC (aY aC (aY aC dC)) (aX (aX cU))) (bt cq rfl (kC (by rfl) N.Dv (va1 (vv 1))) (bu rfl (aw (pgN 3 dJ.nd) (aw (pgN 4 dJ.nd) bo))) (ai (bH (eC (aY aC (aY aC dC)) (aX (aX cU))) (bt cq rfl (kC (by rfl) N.Dv (va1 (vv 4))) (bu rfl (aw (pgN 5 dJ.nd) (aw (pgN 6 dJ.nd) bo))) (ag (aO (psS 7 dJ.nd (vc b d (va2 (vv 0) (ax)))))
   (ag (bX (bv (eY d) gm (vv 7) (ax)) (ai (pM (eA (cr (va2 (bw gU jE (vv 6) (vc b d (va2 (vv 0) (bw bp cP (vv 6) (ax))))) (cg (jJ rfl) tT (by rfl) N.D3 PyProof.Rows.Boot.«min» (va2 (ax) (bw bp cP (vv 6) (vc b d (va2 (vv 0) (ax)))))))) (iX (gi dQ (pv 2) (vv 3) (λ_ _=>rfl)) (vv 5) f6)))) (bA))
   (ai (bX (bv (eY d) gm (vv 7) (ax)) (ai (pM (eA (cr (va2 (ax) (cg (sU rfl) II (by rfl) N.D0 PyProof.Rows.Boot.«max» (va2 (vv 6) (vc b d (va2 (vv 0) (ax))))))) (iX (gi dQ (pv 2) (vv 3) (λ_ _=>rfl)) (vv 5) f6)))) (bA))))))))))
   (ai (aG (az (vv 2)))))),N.Ib,N.Ia.kp,N.Id⟩⟩
theorem vS:FnScope ["_law_block"] ["_law_block"] (ah pK):=fsc
def kY(K:PZ)(a:Ad):QF K a 2 "_law_copied" a.Cu a.Cv ["_law_block"] 1:=⟨_,λP w mg base N=>⟨by
 exact bj (k:=1) 1 1 _ N.Ie vS rfl rfl λb A outer s H E c=>ai (aG (az (bi rfl (cso ["_law_row"] ["_law_row"] []) (aV (vv 0)) (λcl C d s H=>⟨(pgN 0 ndc),aM,λD=>aF rfl (bT dg jc (by rfl) N.Dz PyProof.Rows.Boot.«list» (va1 (vv 0))) rfl⟩) ak au (λD=>aK)))),N.Ig,N.Ie.kp,N.Ih⟩⟩
theorem eU:FnScope ["_law_rests","_law_lot","_law_pairs","_law_found","_law_rest","_law_duo","_law_longer","_law_one","_law_count"] ["_law_rests","_law_lot","_law_pairs"] (ah we):=fsc
def qW(K:PZ)(a:Ad):QF K a 2 "_law_fit" a.Cw a.Cy ["_law_rests","_law_lot","_law_pairs"] 3:=⟨_,λP w mg base N=>⟨by
 exact bj (k:=1) 3 9 _ N.Ii eU rfl rfl λb A outer s H E c=>ag (aO (psS 3 eU.nd (fj (va1 (fj (eP))))))
   (ag (bH (eC (aY aC (aY aC dC)) (aX (aX cU))) (bt cq rfl (qp (by rfl) N.Ea (va2 (vv 0) (vv 2))) (bu rfl (aw (pgN 4 eU.nd) (aw (pgN 5 eU.nd) bo))) (ag (kT (psS 6 eU.nd (eW (eP))))
   (ag (bH aC (bt cq rfl (aV (vv 3)) (pgN 7 eU.nd) (ai (bH aC (bt cq rfl (o3 (by rfl) N.D4 (va2 (bC aP bG (vv 5) (ax)) (bw bp cP (cg (jJ rfl) tT (by rfl) N.D3 PyProof.Rows.Boot.«min» (va2 (bC aP bG (vv 5) (ax)) (vv 4))) (ax)))) (pgN 8 eU.nd) (ai (kU (cM (k7 Rc Rq Rr eZ (pv 6) (va1 (bw bp cP (vv 7) (fj (va1 (vv 8))))))))))))))
   (CJ 6 (ai (aO (psS 3 eU.nd (vv 6)))))))))
   (ai (aG (az (bi rfl (cso ["_law_one","_law_lot"] ["_law_one"] [1]) (aV (vv 3)) (λcl C d s H=>⟨(pgN 0 ndc),qt (bv (eY c) gm (hX N.D8 (va1 (vv 0))) (vv 1)),λD=>aF rfl (vv 0) rfl⟩) ak au (λD=>aK)))))),N.Ij,N.Ii.kp,N.Ik⟩⟩
theorem yY:FnScope ["_law_rests","_law_column"] ["_law_rests","_law_column"] (ah uE):=fsc
def oR(K:PZ)(a:Ad):QF K a 2 "_law_less" a.Cz a.C0 ["_law_rests","_law_column"] 2:=⟨_,λP w mg base N=>⟨by
 exact bj (k:=1) 2 2 _ N.Il yY rfl rfl λb A outer s H E c=>ai (aG (az (bi rfl (cso ["_law_rest","_law_count"] ["_law_rest","_law_count"] []) (qp (by rfl) N.Ea (va2 (vv 0) (vv 1))) (λcl C d s H=>⟨(bu rfl (aw (pgN 0 ndc) (aw (pgN 1 ndc) bo))),aM,λD=>aF rfl (bw gU jE (vv 0) (vv 1)) rfl⟩) (dF (aT ak (aT ak cN)) (aR (aR bV))) (dE (aS au (aS au cL))) (λD=>aK)))),N.Im,N.Il.kp,N.Io⟩⟩
theorem bW:FnScope ["_law_rowsums_here","_law_columnsums_here","_law_limits","_law_found","_law_to","_law_lot","_law_longer","_law_told","_law_rests","_law_column"] ["_law_rowsums_here","_law_columnsums_here","_law_limits"] (ah ou):=fsc
def jU(K:PZ)(a:Ad):QF K a 3 "_law_listing" a.C2 a.C3 ["_law_rowsums_here","_law_columnsums_here","_law_limits"] 3:=⟨_,λP w mg base N=>⟨by
 have c:=(qW K a).2 P w base N;have b:=(oR K a).2 P w base N
 exact bj (k:=2) 3 10 _ N.Ip bW rfl rfl λe A outer s H E d=>ag (aO (psS 3 bW.nd (fj (va1 (cr (va2 (fj (eP)) (bT dg jc (by rfl) N.Dz PyProof.Rows.Boot.«list» (va1 (vv 0)))))))))
   (ag (bH (eC (aY aC (aY aC dC)) (aX (aX cU))) (bt cq rfl (kC (by rfl) N.Dv (va1 (vv 1))) (bu rfl (aw (pgN 4 bW.nd) (aw (pgN 5 bW.nd) bo))) (ag (kT (psS 6 bW.nd (eW (eP))))
   (ag (bH (eC (aY aC (aY aC dC)) (aX (aX cU))) (bt cq rfl (aV (vv 3)) (bu rfl (aw (pgN 7 bW.nd) (aw (pgN 8 bW.nd) bo))) (ai (bH aC (bt cq rfl (aV (vc c d (va3 (vv 8) (vv 5) (bi rfl (cso ["_law_row","_law_to"] ["_law_row"] [4]) (aV (vv 2)) (λcl C f s H=>⟨(pgN 0 ndc),aM,λD=>aF rfl (bC aP bG (vv 0) (vv 1)) rfl⟩) ak au (λD=>aK))))) (pgN 9 bW.nd) (ai (kU (cM (k7 Rc Rq Rr eZ (pv 6) (va1 (cr (va2 (bw bp cP (vv 7) (fj (va1 (vv 9)))) (vc b d (va2 (vv 8) (vv 9)))))))))))))))
   (CJ 6 (ai (aO (psS 3 bW.nd (vv 6)))))))))
   (ai (aG (az (bi rfl (cso ["_law_told","_law_rests"] ["_law_told","_law_rests"] []) (aV (vv 3)) (λcl C f s H=>⟨(bu rfl (aw (pgN 0 ndc) (aw (pgN 1 ndc) bo))),aM,λD=>aF rfl (vv 0) rfl⟩) (dF (aT ak (aT ak cN)) (aR (aR bV))) (dE (aS au (aS au cL))) (λD=>aK)))))),N.Iq,N.Ip.kp,N.Ir⟩⟩
theorem CI:FnScope ["_law_grid_here","_law_limits"] ["_law_grid_here","_law_limits"] (ah wg):=fsc
def qX(K:PZ)(a:Ad):QF K a 4 "_law_all" a.C4 a.C5 ["_law_grid_here","_law_limits"] 2:=⟨_,λP w mg base N=>⟨by
 have c:=(jT K a).2 P w base N;have b:=(gB K a).2 P w base N;have d:=(jU K a).2 P w base N;exact bj (k:=3) 2 2 _ N.Iu CI rfl rfl λf A outer s H E e=>ai (aG (az (vc d e (va3 (vc c e (va1 (vv 0))) (vc b e (va1 (vv 0))) (vv 1))))),N.Iw,N.Iu.kp,N.Ix⟩⟩
theorem jt:FnScope ["self","rowsums","columnsums","bounds","settled"] ["self","rowsums","columnsums","bounds"] (ah kq):=fsc
def vd(K:PZ)(a:Ad):IP:=
  nE (dR 4 (bB (dM K a).1 (aa (af 1) (aa (af 2) (aa (af 3) (ao))))))
  (nE (fF (bB (fQ K a).1 (aa (af 1) (aa (af 2) (aa (af 4) (ao))))))
  (jF (aA tR (aa (af 1) (ao)))
  (jF (aA tR (aa (af 2) (ao)))
  (jF (af 4)
  (jF (bB (eJ K a).1 (aa (af 1) (aa (af 2) (aa (af 4) (ao)))))
  (IN))))))
def qc(K:PZ)(a:Ad):List D->M (List D):=nF 5 (vd K a)
theorem Kl(N:Fns K mg a):FnOk P w K mg base (CXE P w) 6 a.C8 a.C9 ["self","rowsums","columnsums","bounds"] (spI K a.Ae ["row_list","column_list","pairs","counted"] 3 (qc K a)):=by
 have c:=(eJ K a).2 P w base N;have d:=(fQ K a).2 P w base N;have b:=(dM K a).2 P w base N;unfold qc
 exact KV (k:=5) 3 5 (vd K a) N.I9 jt rfl rfl λf A outer s H E e=>IO (aO (psS 4 jt.nd (vc b e (va3 (vv 1) (vv 2) (vv 3)))))
   (IO (kj (cM (vc d e (va3 (vv 1) (vv 2) (vv 4)))))
   (tY N.Jr N.Jw (by decide) (by decide) (pX (pv 0) (bT dg jc (by rfl) N.Dz PyProof.Rows.Boot.«list» (va1 (vv 1))) rfl)
   (tY N.Jr N.Jt (by decide) (by decide) (pX (pv 0) (bT dg jc (by rfl) N.Dz PyProof.Rows.Boot.«list» (va1 (vv 2))) rfl)
   (tY N.Jr N.Jv (by decide) (by decide) (pX (pv 0) (vv 4) rfl)
   (tY N.Jr N.Ju (by decide) (by decide) (pX (pv 0) (vc c e (va3 (vv 1) (vv 2) (vv 4))) rfl)
   (OS))))))
theorem CG:FnScope ["_law_grid_here","_law_limits"] ["_law_grid_here","_law_limits"] (ah wc):=fsc
def qV(K:PZ)(a:Ad):QF K a 8 "_law_net" a.C6 a.C7 ["_law_grid_here","_law_limits"] 2:=⟨_,λP w mg base N=>⟨by
 have c:=(jT K a).2 P w base N;have b:=(gB K a).2 P w base N;have e:=Kl P w base N;have d:=(kY K a).2 P w base N;exact bj (k:=7) 2 2 _ N.Iy CG rfl rfl λg A outer s H E f=>ai (aG (az (JH N.Ja e (f.mono (by decide)) (by rfl) N.Js N.Jb dh (va2 (vc c f (va1 (vv 0))) (vc b f (va1 (vv 0)))) (JF (vc d f (va1 (vv 1))) (K8)) (bf (bf aN0)) (bf aN0) rfl))),N.Iz,N.Iy.kp,N.I0⟩⟩
theorem fP:FnScope ["_law_script","_law_bag_here","_law_grid_here","_law_limits","_law_net_here","_law_told","_law_k","_law_block","_law_found","_law_handed"] ["_law_script"] (ah m5):=fsc
def pU(K:PZ)(a:Ad):{g:G//∀(P:Qf) (w:Qq) {mg:Qn->Option Pl} (base:QW) (N:Fns K mg a) (f:Pk) (p:Pl) (A:QP) (outer:List Wr) (s:Pr) (H:Hp) (E:XK),Room 8 (A.deeper (PyProof.Rows.envOfC "law" (ah m5) s.heap.objs.size f p))->PSs (f8 (CXE P w) P w K mg base ["_law_script","_law_bag_here","_law_grid_here","_law_limits","_law_net_here","_law_told","_law_k","_law_block","_law_found","_law_handed"] "law" (ah m5) f p A outer s H E) (cR m5).tail (tG K H g (λ_=>E))}:=⟨_,λP w mg base N f p A outer s H E l=>by
 have m:=(jA K a).2 P w base N;have i:=(iB K a).2 P w base N;have n:=(qV K a).2 P w base N;have o:=(qX K a).2 P w base N;have d:=jH P w base N;have j:=(kW K a).2 P w base N;have c:=tu P w base N;have b:=zw P w base N;have e:=(jV K a).2 P w base N;have k:=(kY K a).2 P w base N;have h:=(jR K a).2 P w base N
 exact ag (aO (psS 2 fP.nd (vc m l (va1 (vv 1)))))
   (ag (aO (psS 3 fP.nd (vc i l (va2 (vv 1) (vv 2)))))
   (ag (aO (psS 4 fP.nd (vc n l (va2 (vv 2) (vv 3)))))
   (ag (aO (psS 5 fP.nd (vc o l (va2 (vv 2) (vv 3)))))
   (ag (bH aC (bt cq rfl (aV (fj (va4 (vc d l (va2 (vv 1) (bU N.Dy (va1 (vv 5))))) (vc d l (va2 (vv 1) (bU N.Dy (va1 (vv 5))))) (ax) (bw gU jE (bU N.Dy (va1 (vv 5))) (ax))))) (pgN 6 fP.nd) (ag (aO (psS 7 fP.nd (vc j l (va1 (bC aP bG (vv 5) (vv 6))))))
   (ag (xE (psS 8 fP.nd (vh c (l.mono (by decide)) (by rfl) N.Gv N.Gu.kp N.Gx dh (va2 (vv 4) (vv 6)) (bf (bf aN0)))))
   (ag (bX (kR (jq (vc b l (va2 (vv 8) (vv 7))))) (ai (aG (az (lR)))) (bA))
   (ag (pM (eA (ax) (iX (gi dQ (pv 8) (ax) (λ_ _=>rfl)) (ax) f6)))
   (ag (Lw (cM (L0 Rc PySem.F.slot_list_clear PySem.F.type_list_clear DG (pv 8))))
   (ag (bX (kR (jq (vc b l (va2 (vc e l (va2 (vv 4) (vv 6))) (vv 7))))) (ai (aG (az (lR)))) (bA))
   (ag (aO (psS 9 fP.nd (vc k l (va1 (vv 7)))))
   (ai (bX (iN (oF (kR (jq (vc b l (va2 (vc h l (va2 (vv 4) (vv 9))) (vv 6))))) (kM (bv (eX l) gl (vv 9) (vv 7))))) (ai (aG (az (lR)))) (bA))))))))))))
   (ai (aG (az (lR))))))))⟩
theorem Me{f:Pk}{o:P9}(F:FunD K "law" "law" m5 f o)(N:Fns K mg a)(T:∀β:Bg,β.ok->∃d,(pU K a).1 [Pb,on (.sh .bag),Pb,Pb,Pb,Pb,Pb,Pb,Pb,Pb] β=on (.rt (.bl Pe),d)):
  FnOk P w K mg base (CXE P w) 9 f o ["_law_script"] (HQ K):=by
 have c:=CZ P w base N;refine F.okE (k:=8) fP (λvs H Q E h=>?_) (λg A outer s H vs Q E p h=>?_)
 ·obtain⟨a,ns,rfl,_⟩:=h
  rfl
 ·obtain⟨a1,ns,rfl,r,q,k⟩:=h
  have rest:=(pU K a).2 P w base N f g A outer s H E p;refine⟨_,da (rest:=(cR m5).tail) (psS 1 fP.nd (ng c (p.mono (by decide)) rfl N.G8 N.G7.kp N.G9 .nil tL (ft (pv 0) iY))) rest,?_⟩;refine⟨_,rfl,a1,ns,rfl,r,λb l C i j t u=>?_⟩;obtain⟨β,ok,m⟩:=K5 (K:=K) (a:=a1) (n:=["_law_script","_law_bag_here","_law_grid_here","_law_limits","_law_net_here","_law_told","_law_k","_law_block","_law_found","_law_handed"].length-2) u i j t;obtain⟨d,e⟩:=T β ok;exact⟨_,_,_,β,_,d,m,e,λv I y s fr B=>by cases B.bl;exact k y⟩
end
end Law
namespace Law
open PySem L2 L2.Pu L2.Nt
section
variable{K:PZ}{a:Ad}{β:Bg}
abbrev tN(l:List Nat):D:=tpI (nI l)
abbrev eN(b:List Nat×Nat):D:= .tup [tN b.1,.int (b.2:Int)]
abbrev pN(p:Nat×Nat):D:=pD ((p.1:Int),(p.2:Int))
def Nrw(r:List Nat):Prop:=1<=r.length/\r.length<=4/\r.sum<=40/\pr (r.map (·+1))<=500
theorem ph{f g:FD}{δ:Dn}{x y:D}{ds es:List D}(b:f δ β=on (.ok x,β))(c:g δ β=on (.ok y,β))(d:eG x=on ds)(e:eG y=on es):iZ (aa f (aa g ao)) δ β=on (.ok (dN ds es),β):=bx (ae b (ae c rfl)) (by
 unfold ui;simp only[d,e,Q3,QK])
theorem LE{lo:Nat}{h:Int}(b:-1000<=h)(c:h<=1000)(d:lo<=1000):oQ [.int (lo:Int),.int h]=on ((Pq (h-lo).toNat).map λi=>D.int ((lo+i:Nat):Int)):=by
 have e:oQ [.int (lo:Int),.int h]=on (bc lo (h-lo).toNat):=by
  simp only[oQ];rw[Ps (by simp only[Qj,Qx];omega)]
 rw[e];exact QN on (P5 λi _=>by congr 1)
theorem addT{l:List Nat}{c:Nat}(h:l.length<=100):lD (tN l) (.tup [.int (c:Int)])=on (tN (l++[c])):=by
 cases l with
 |nil=>rfl
 |cons x l=>
  show(if _ then _ else _)=_;rw[Ps (aW (by simp at h⊢;omega))];simp[tpI]
theorem yM(l:List Nat)(k:Nat):gH [.lst (((nI l).map D.int).drop k)]=on (.int (((l.drop k).sum:Nat):Int)):=by
 rw[←T6,←T6];exact(fm _).trans (by rw[←gW])
theorem yG:∀{r:List Nat} {ps:List (Nat×Nat)},(r.zip ps).map (λq=>D.int (SX (q.1:Int) (q.2.2:Int)))=(nI (tps ps r)).map D.int
 |[],_=>by cases ‹List (Nat×Nat)›<;>rfl
 |_::_,[]=>rfl
 |x::r,p::ps=>by
  have e:=yG (r:=r) (ps:=ps);show _::_=D.int ((SX x p.2:Nat):Int)::(nI (tps ps r)).map D.int;rw[←e];show D.int (SX (x:Int) (p.2:Int))::_=_;rw[show SX (x:Int) (p.2:Int)=((SX x p.2:Nat):Int) by omega];rfl
theorem yE:∀{ps:List (Nat×Nat)} {r:List Nat} {k:Nat} (b:k<ps.length) (c:k<r.length),(tps ps r)[k]?=on (SX r[k] ps[k].2)
 |p::ps,x::r,0,_,_=>rfl
 |p::ps,x::r,k+1,b,c=>yE (k:=k) (by simpa using b) (by simpa using c)
abbrev vo(ps:List (Nat×Nat))(r:List Nat)(c:Nat)(st:D)(b d e:Option Sl):Ds:=[on (.sh (tN r)),on (.sh (.int (c:Int))),on (.sh (.lst (ps.map pN))),on (.sh (.lst ((nI (los ps)).map .int))),on (.sh (.lst ((nI (tps ps r)).map .int))),on (.sh st),b,d,e]
theorem ML{ps:List (Nat×Nat)}{r:List Nat}{c:Nat}(H:Nrw r)(v:ps.length=r.length)(A:∀p∈ps,p.1<=40/\p.2<=40)(R:c<=40):(kZ K a).1 [tN r,.int (c:Int),.lst (ps.map pN)] β=on (.ok (.lst ((vB ps r c).map tN)),β):=by
 obtain⟨_,T,hs,U⟩:=H;have I:r.length<=PQ:=aW (by omega);have o:∀k,k<=r.length->(stB ps r c k).length<=PQ:=λk m=>aW (P3 (v7 c k m) (P3 (tK r k) (by omega)));unfold kZ
 dsimp only
 refine aN ?_;refine aL (d:= .lst ((nI (los ps)).map .int)) (β1:=β) ?_ ?_
 ·have:=bn (nv:=2) (caps:=[]) (it:=bZ (af 2)) (tg:=tgT (cJ (tgC 0) (cJ (tgC 1) ge))) (f:=af 0) (δ:=vw (vo ps r c .non Pb Pb Pb)) (β:=β) ps pN (λp=> .int (p.1:Int)) rfl (λx _=>⟨[on (.int (x.1:Int)),on (.int (x.2:Int))],rfl,rfl⟩) (by rw[v];exact I)
  refine Eq.trans this ?_;unfold los;rw[Pp,Pp];rfl
 refine aL (d:= .lst ((nI (tps ps r)).map .int)) (β1:=β) ?_ ?_
 ·rw[←yG]
  exact bn (nv:=3) (caps:=[]) (it:=iZ (aa (af 0) (aa (af 2) (ao)))) (tg:=tgT (cJ (tgC 0) (cJ (tgT (cJ (tgC 1) (cJ (tgC 2) ge))) ge))) (f:=aA uW (aa (af 0) (aa (af 2) (ao)))) (δ:=vw (vo ps r c .non Pb Pb Pb)) (β:=β) (r.zip ps) (λq=>D.tup [.int (q.1:Int),pN q.2]) _ (by
   rw[←iM (λx:Nat=>D.int (x:Int)) pN];refine ph (x:=tN r) (y:= .lst (ps.map pN)) rfl rfl ?_ rfl;show on _=on _;rw[Pp];rfl) (λq _=>⟨[on (.int (q.1:Int)),on (.int (q.2.1:Int)),on (.int (q.2.2:Int))],rfl,aj rfl xR⟩) (aW (by rw[Tw];omega))
 refine aL (d:= .lst ((stB ps r c 0).map eN)) (β1:=β) (aj (ae (aj (ae (aj rfl rfl) (ae rfl rfl)) fG) rfl) mo) ?_;refine bM (ds:=bc 0 r.length) (β1:=β) (bx (ae (aj (z:= .int (r.length:Int)) rfl (by show on (D.int _)=_;rw[Pa,Pa])) rfl) (rg1 (by omega) (by omega))) (λk δ C=>β=C/\∃B t u,δ=vo ps r c (.lst ((stB ps r c k).map eN)) B t u) ⟨rfl,Pb,Pb,Pb,rfl⟩ ?_ ?_
 ·rintro k d δ _ hd ⟨rfl,B,t,u,rfl⟩
  obtain⟨m,rfl⟩:=xG hd;have j:k<ps.length:=by omega
  have J:ps[k]?=on ps[k]:=Pd j;have b40:=A _ (Qo j);have W:(los ps).sum<=160:=by
   have g:∀l:List (Nat×Nat),(∀p∈l,p.1<=40/\p.2<=40)->(los l).sum<=40*l.length:=λl=>by
    induction l with
    |nil=>intro _;exact Pt _
    |cons p l ih=>
     intro h;have:=ih λq v=>h q (Pg _ v);have:=(h p Pn).1;simp only[los,Py,P8,Pz]at*;omega
   have:=g ps A;omega
  have F:∀(l:List Nat) (n:Nat),(l.drop n).sum<=l.sum:=λl n=>by
   conv=>rhs;rw[←Sd n l,Wn]
   omega
  have L:=F (los ps) (k+1);have N:=P3 (F (tps ps r) (k+1)) yD;refine⟨vo ps r c (.lst ((stB ps r c k).map eN)) (on (.sh (.int (k:Int)))) t u,rfl,?_⟩;refine aL (d:= .int ((((los ps).drop (k+1)).sum:Nat):Int)) (β1:=β) (aj (ae (rV rfl (x_2 rfl rfl rfl)) rfl) ((QN (λl=>gH [.lst l]) (vF (k:=k+1))).trans (yM _ _))) ?_;refine aL (d:= .int ((((tps ps r).drop (k+1)).sum:Nat):Int)) (β1:=β) (aj (ae (rV rfl (x_2 rfl rfl rfl)) rfl) ((QN (λl=>gH [.lst l]) (vF (k:=k+1))).trans (yM _ _))) ?_;refine aq (aL (d:= .lst ((stB ps r c (k+1)).map eN)) (β1:=β) ?_ (bq ⟨rfl,_,_,_,rfl⟩));have e:(stB ps r c (k+1)).map eN=(stB ps r c k).flatMap λb=>(nxB r[k] ps[k] ((los ps).drop (k+1)).sum ((tps ps r).drop (k+1)).sum b).map eN:=by
   show((stB ps r c k).flatMap _).map eN=_;rw[RI,d7 m,d7 j]
  rw[e];refine K1 (stB ps r c k) eN _ rfl (λb A=>⟨[on (tN b.1),on (.int (b.2:Int)),Pb,on (.lst ((nI (los ps)).map .int)),on (.int (k:Int)),on (.int ((((tps ps r).drop (k+1)).sum:Nat):Int)),on (.lst ((nI (tps ps r)).map .int)),on (.int ((((los ps).drop (k+1)).sum:Nat):Int))],rfl,?_⟩) (by
   rw[←e,Pa];exact o (k+1) m)
  obtain⟨b2,b1⟩:=yQ ps r c k b A;have X:=kx (Qo m);unfold nxB;generalize ((los ps).drop (k+1)).sum=few at*;generalize ((tps ps r).drop (k+1)).sum=most at*;refine(zE (Pq (SX (SX r[k] ps[k].2+few) b.2+1-few-Yz ps[k].1 (b.2-most))) (λi=>D.int ((Yz ps[k].1 (b.2-most)+i:Nat):Int)) (λi=>eN (b.1++[Yz ps[k].1 (b.2-most)+i],b.2-(Yz ps[k].1 (b.2-most)+i))) ?_ ?_).trans (by rw[Pp];rfl)
  ·refine bx (as:=[.int ((Yz ps[k].1 (b.2-most):Nat):Int),.int (SX ((SX r[k] ps[k].2:Nat):Int) ((b.2:Int)-few)+1)]) (ae (aj (ae (x_2 rfl rfl (bD (d:= .int (ps[k].1:Int)) ?_)) (ae (x_2 rfl rfl rfl) rfl)) (Mq.trans ?_)) (ae (x_2 (aj (ae (x_2 rfl rfl (bD (d:= .int ((SX r[k] ps[k].2:Nat):Int)) ?_)) (ae (x_2 rfl rfl rfl) rfl)) xR) rfl rfl) rfl)) ((LE (by omega) (by omega) (by omega)).trans ?_)
   ·unfold los
    rw[Pi,Pi,Pi,J];rfl
   ·rw[show Yz (ps[k].1:Int) ((b.2:Int)-(most:Int))=((Yz ps[k].1 (b.2-most):Nat):Int) by omega]
   ·rw[Pi,Pi,yE j m];rfl
   ·rw[show(SX ((SX r[k] ps[k].2:Nat):Int) ((b.2:Int)-few)+1-((Yz ps[k].1 (b.2-most):Nat):Int)).toNat=SX (SX r[k] ps[k].2+few) b.2+1-few-Yz ps[k].1 (b.2-most) by omega]
  ·refine λi O=>⟨[on (tN b.1),on (.int (b.2:Int)),on (.int ((Yz ps[k].1 (b.2-most)+i:Nat):Int)),on (.lst ((nI (los ps)).map .int)),on (.int (k:Int)),on (.int (most:Int)),on (.lst ((nI (tps ps r)).map .int)),on (.int (few:Int))],rfl,aj (ae (x_2 rfl (aj rfl rfl) (addT (l:=b.1) (c:=Yz ps[k].1 (b.2-most)+i) (by omega))) (ae (x_2 rfl rfl rfl) rfl)) (fG.trans ?_)⟩
   have Q:=PY.mp O;show on (D.tup [_,.int _])=on (D.tup [_,.int _]);rw[show(b.2:Int)-((Yz ps[k].1 (b.2-most)+i:Nat):Int)=((b.2-(Yz ps[k].1 (b.2-most)+i):Nat):Int) by omega]
 ·rintro δ _ ⟨rfl,B,t,u,rfl⟩
  rw[pS];have h:=jh (nv:=2) (caps:=[]) (it:=bZ (af 5)) (tg:=tgT (cJ (tgC 0) (cJ (tgC 1) ge))) (tt:=fB (f2 (gu) (af 1) (fC (.int 0)))) (f:=af 0) (δ:=vwA (vo ps r c (.lst ((stB ps r c r.length).map eN)) B t u)) (β:=β) (stB ps r c r.length) eN (λb=>tN b.1) (λb=>decide ((b.2:Int)=0)) rfl (λb _=>⟨[on (tN b.1),on (.int (b.2:Int))],rfl,x_B (x_2 rfl rfl eq_int),λ_=>rfl⟩) (o _ (Pt _));refine aq (aU h ⟨rfl,?_⟩);rw[←JR v,Pp];rfl
theorem vL{α:Type}{tg:TgF}{b:FL}{δ:Dn}{β:Bg}(u:α->D)(o:α->List D):∀(xs:List α),(∀x∈xs,∃δ1,tg (u x) δ=on δ1/\b δ1 β=on (.ok (o x),β))->cLp tg (λ_=>M.ret Pe) b (xs.map u) δ β=on (.ok (xs.flatMap o),β)
 |[],_=>rfl
 |x::xs,h=>by
  obtain⟨δ1,c,d⟩:=h x Pn;have e:=vL u o xs λy f=>h y (Pg _ f);rw[Py,cLp];simp only[c,M.bind,M.ret,reduceIte,d,e,Qy]
theorem lC{α:Type}{nv:Nat}{caps:List Nat}{it:FL}{tg:TgF}{b:FL}{c:List D->Option D}{δ:Dn}{β:Bg}{d:D}(xs:List α)(u:α->D)(o:α->List D)(e:it δ β=on (.ok (xs.map u),β))
  (f:∀x∈xs,∃δ1,tg (u x) (cSt nv caps δ)=on δ1/\b δ1 β=on (.ok (o x),β)) (g:c (xs.flatMap o)=on d):gZ nv caps it tg (λ_=>M.ret Pe) b c δ β=on (.ok d,β):=by
 unfold gZ;rw[e];simp only[vL u o xs f,g,QK]
theorem OB{α:Type}{it:FL}{tg:TgF}{b:FL}{δ:Dn}{β:Bg}(xs:List α)(u:α->D)(o:α->List D)(c:it δ β=on (.ok (xs.map u),β))(d:∀x∈xs,∃δ1,tg (u x) δ=on δ1/\b δ1 β=on (.ok (o x),β)):cNx it tg (λ_=>M.ret Pe) b δ β=on (.ok (xs.flatMap o),β):=by
 unfold cNx M.bind;rw[c];exact vL u o xs d
noncomputable abbrev gN(B:List (List (Nat×Nat))):LP:=B.map λrow=>row.map λp=>((p.1:Int),(p.2:Int))
abbrev bDN(B:List (List (Nat×Nat))):D:=dL (gN B)
noncomputable def mG(B:List (List (Nat×Nat)))(k:Nat):List (Nat×Nat):=B.map λrow=>row.getD k (0,0)
def BOk(r c:Nat)(B:List (List (Nat×Nat))):Prop:=Shp r c B/\∀row∈B,∀p∈row,p.1<=p.2/\p.2<=40
def wB(B:List (List (Nat×Nat)))(cs:List Nat):Wy:=λk r=>vB (mG B k) r (cs.getD k 0)
theorem xm(B:List (List (Nat×Nat)))(cs:List Nat):WOk cs (wB B cs):=λk r=>VB
theorem BOk.col{r c k:Nat}{B:List (List (Nat×Nat))}(h:BOk r c B)(e:k<c):(mG B k).length=r/\∀p∈mG B k,p.1<=40/\p.2<=40:=by
 refine⟨by unfold mG;rw[Pa,h.1.1],λp d=>?_⟩;obtain⟨row,b,rfl⟩:=PD.mp d;have l:=h.1.2 row b;rw[d7 (by omega)];have:=h.2 row b _ (Qo (show k<row.length by omega));omega
theorem K3{r cs:List Nat}{B:List (List (Nat×Nat))}{k:Nat}(c:Nrw r)(hB:BOk r.length cs.length B)(i:cs.sum<=40)(e:k<cs.length):(cj K a).1 [tN r,nL cs,bDN B,.int (k:Int)] β=on (.ok (.lst ((wB B cs k r).map tN)),β):=by
 have g:cs[k]?=on (cs.getD k 0):=by rw[Pf,Pd e];rfl
 obtain⟨l,q⟩:=hB.col e;unfold cj
 dsimp only
 refine aN (aq (aU (am (ae rfl (ae (x_2 rfl rfl (bD (d:= .int (cs.getD k 0:Int)) (by rw[Pi,Pi,g];rfl))) (ae ?_ rfl))) (ML c l q (P3 (kx (PU g)) i))) ⟨rfl,rfl⟩));have h:=bn (nv:=1) (caps:=[3]) (it:=bZ (af 2)) (tg:=tgC 0) (f:=f2 ixD (af 0) (af 1)) (δ:=[on (tN r),on (nL cs),on (bDN B),on (.int (k:Int))]) (β:=β) B (λrow=>D.lst (row.map pN)) (λrow=>pN (row.getD k (0,0))) (cz rfl (by
  show on _=on _;rw[Pp,Pp];exact QN on (P5 λrow _=>QN D.lst (by show QI pD (QI _ row)=_;rw[Pp];rfl)))) (λrow b=>⟨[on (D.lst (row.map pN)),on (.int (k:Int))],rfl,x_2 rfl rfl (bD (by
   have l:=hB.1.2 row b;rw[Pi,d7 (by omega),Pd (by omega)];rfl))⟩) (aW (by rw[hB.1.1];have:=c.2.1;omega))
 refine h.trans ?_;unfold mG;rw[Pp];rfl
theorem u3:∀{r v:List Nat},LeN v r->(r.zip v).map (λp=>D.int ((p.1:Int)-(p.2:Int)))=(nI (less r v)).map D.int
 |[],[],_=>rfl
 |x::r,y::v,h=>by
  have e:=u3 h.2;have b:=h.1;show _::_=D.int ((x-y:Nat):Int)::(nI (less r v)).map D.int;rw[←e];show D.int ((x:Int)-(y:Int))::_=_;rw[show(x:Int)-(y:Int)=((x-y:Nat):Int) by omega];rfl
 |[],_::_,h=>h.elim
 |_::_,[],h=>h.elim
theorem m7{r v:List Nat}(h:LeN v r)(b:r.length<=4):(br K a).1 [tN r,tN v] β=on (.ok (tN (less r v)),β):=by
 unfold br
 dsimp only
 refine aN (aq (aU (aj (ae (x:= .lst ((nI (less r v)).map D.int)) ?_ rfl) rfl) ⟨rfl,rfl⟩));rw[←u3 h];refine bn (r.zip v) (λp=>D.tup [.int (p.1:Int),.int (p.2:Int)]) _ ?_ (λp _=>⟨[on (.int (p.1:Int)),on (.int (p.2:Int))],rfl,rfl⟩) (aW (by rw[Tw];omega));rw[←iM (λx:Nat=>D.int (x:Int)) (λx:Nat=>D.int (x:Int))];refine ph (x:=tN r) (y:=tN v) rfl rfl ?_ ?_
 ·show on _=on _
  rw[Pp];rfl
 ·show on _=on _
  rw[Pp];rfl
structure Nt0 (rs cs:List Nat):Prop where
 nr:Nrw rs
 wd:pr (rs.dropLast.map (·+1))<63
 sm:rs.sum=cs.sum
 c1:1<=cs.length
 c6:cs.length<=6
structure Nt1 (K:PZ) (a:Ad) (rs cs:List Nat) (W:Wy) (bd:D):Prop extends Nt0 rs cs where
 ok:WOk cs W
 fl:∀{β:Bg} {k:Nat} {r:List Nat},k<cs.length->Nrw r->r.length=rs.length->(cj K a).1 [tN r,nL cs,bd,.int (k:Int)] β=on (.ok (.lst ((W k r).map tN)),β)
theorem Nt1.at{rs cs r:List Nat}{k:Nat}{W:Wy}{b:D}(h:Nt1 K a rs cs W b)(c:k<=cs.length)(d:r∈lvW W rs k):Nrw r/\r.length=rs.length/\r.sum<=40:=by
 have q:=(i8 h.ok h.sm k c r d).1;obtain⟨e,f,g,i⟩:=h.nr;have q1:=q.len;have q2:=q.sum;have q3:=q.pr;exact⟨⟨by omega,by omega,by omega,by omega⟩,q1,by omega⟩
abbrev lvD(W:Wy)(rs:List Nat)(k:Nat):D:= .lst ((lvW W rs k).map tN)
theorem DC{rs cs:List Nat}{W:Wy}{b:D}(h:Nt1 K a rs cs W b):(f7 K a).1 [nL rs,nL cs,b] β=on (.ok (.lst ((Pq (cs.length+1)).map (lvD W rs))),β):=by
 have c6:=h.c6;unfold f7
 dsimp only
 refine aN ?_;refine aL (d:=lvD W rs 0) (β1:=β) (aj (ae (aj rfl rfl) rfl) mo) ?_;refine mV (ds:=[lvD W rs 0]) (β1:=β) rfl (show 1<=PQ by decide) ?_;refine bM (ds:=bc 0 cs.length) (β1:=β) (bx (ae (aj rfl (c5 (r:=cs.length) (by rw[Pa,Pa]))) rfl) (rg1 (by omega) (by omega))) (λk δ c=>β=c/\∃e f,δ=[on (.sh (nL rs)),on (.sh (nL cs)),on (.sh (b)),on (.sh (lvD W rs k)),on (.own ((Pq (k+1)).map (lvD W rs))),e,f]) ⟨rfl,Pb,Pb,rfl⟩ ?_ ?_
 ·rintro k d δ _ hd ⟨rfl,e,f,rfl⟩
  obtain⟨g,rfl⟩:=xG hd;refine⟨_,rfl,aL (d:=lvD W rs (k+1)) (β1:=β) ?_ (mW (cs:=(Pq (k+1)).map (lvD W rs)) (d:=lvD W rs (k+1)) rfl rfl (P7 (show _<1000 by rw[Pa,P0];omega) (by decide)) (aq (aL (d:=lvD W rs (k+1)) (β1:=β) rfl (bq ⟨rfl,on (.sh (.int (k:Int))),on (.sh (lvD W rs (k+1))),?_⟩))))⟩
  ·refine lC (lvW W rs k) tN (λr=>(W k r).map λv=>tN (less r v)) rfl (λr j=>⟨[on (tN r),Pb,on (nL cs),on (b),on (.int (k:Int))],rfl,?_⟩) ?_
   ·obtain⟨i,l,_⟩:=h.at (by omega) j
    exact zE _ tN _ (cz (am rfl (h.fl g i l)) rfl) (λv m=>⟨[on (tN r),on (tN v),on (nL cs),on (b),on (.int (k:Int))],rfl,am rfl (m7 (cK ((h.ok k r).subset m)) i.2.1)⟩)
   ·rw[←Kn h.ok h.sm h.nr.1 h.wd g]
    unfold nwI;rw[RI];simp only[Pp];rfl
  ·rw[SQ (n:=k+1),Qh];rfl
 ·rintro δ _ ⟨rfl,e,f,rfl⟩
  rw[pS];exact aq (aU rfl ⟨rfl,rfl⟩)
theorem gG{i:Nat}{op:D->D->Option D}{f:FD}{c d z:D}{h:G}{δ:Ds}{β β1:Bg}{Q:Out->Bg->Prop}(b:(vw δ).getD i Pb=on c)(e:f (vw δ) β=on (.ok d,β1))(g:op c d=on z)(k:Gw h (δ.set i (on (.sh z))) β1 Q):Gw (aJ (j3 i op f) h) δ β Q:=fS (by unfold j3;simp only[b,e,g,QK]) k
theorem LD{m i:Nat}{d:D}(h:(bc 2 m)[i]?=on d):i<m/\d= .int ((i+2:Nat):Int):=by
 obtain⟨x,b,rfl⟩:=bJ (f:=λ(i:Nat)=>D.int (2+(i:Int))) (xs:=Pq m) h;have c:=(Px.mp b).1;rw[P0]at c;rw[QO c]at b;cases b;exact⟨c,by congr 1;omega⟩
theorem LB(lo:Int)(m:Nat):(bc lo m).length=m:=by unfold bc;rw[Pa,P0]
theorem smN{n:Nat}(h:n<=2^11):n<2^1000:=i9 h (by decide)
theorem KW(n:Nat):facN (n-1+1)=facN n:=by cases n<;>rfl
theorem wW{n:Nat}(h:n<=40):(jW K a).1 [.int (n:Int)] β=on (.ok (.int ((facN n:Nat):Int)),β):=by
 unfold jW
 dsimp only
 refine aN ?_;refine aL (d:= .int 1) (β1:=β) rfl ?_;refine bM (ds:=bc 2 (n-1)) (β1:=β) (bx (ae rfl (ae (x_2 rfl rfl rfl) rfl)) (rg2 (by omega))) (λi δ b=>β=b/\∃c,δ=[on (.sh (.int (n:Int))),on (.sh (.int ((facN (i+1):Nat):Int))),c]) ⟨rfl,Pb,rfl⟩ ?_ ?_
 ·rintro i d δ _ hd ⟨rfl,c,rfl⟩
  obtain⟨e,rfl⟩:=LD hd;exact⟨_,rfl,aq (gG rfl rfl (xQ (i9 (vt (by omega)) (by decide)) (smN (by omega))) (bq ⟨rfl,_,rfl⟩))⟩
 ·rintro δ _ ⟨rfl,c,rfl⟩
  rw[LB,KW];exact aq (aU rfl ⟨rfl,rfl⟩)
def wayN(l:List Nat):Nat:=facN l.sum/pr (l.map facN)
theorem NZ{l:List Nat}{d:D}(h:Sq l d):pA [d]=on (.int ((l.sum:Nat):Int)):=by
 rw[←gW];rcases h with rfl|rfl
 ·exact Lo _
 ·exact Ln _
theorem qb(l:List Nat):gH [nL l]=on (.int ((l.sum:Nat):Int)):=by rw[←gW];exact fm _
theorem IY{l:List Nat}{i n:Nat}(h:l.sum<=40)(hn:l[i]?=on n):n<=40:=P3 (kx (PU hn)) h
theorem vY{l:List Nat}{cd:D}(hs:Sq l cd)(h:l.sum<=40):(pT K a).1 [cd] β=on (.ok (.int ((wayN l:Nat):Int)),β):=by
 unfold pT
 dsimp only
 refine aN ?_;refine bM (ds:=(nI l).map D.int) (β1:=β) (cz rfl hs.seq) (λi δ c=>β=c/\∃b,δ=[on (.sh cd),b,Pb]) ⟨rfl,Pb,rfl⟩ ?_ ?_
 ·rintro i d δ _ hd ⟨rfl,b,rfl⟩
  obtain⟨n,hn,rfl⟩:=tQ hd;exact⟨_,rfl,aq (iu (β1:=β) (x_B (x_2 rfl rfl (by show on (D.bl (decide ((n:Int)<0)))=_;rw[Qp (by omega)]))) (bL (bq ⟨rfl,_,rfl⟩)))⟩
 rintro δ _ ⟨rfl,b,rfl⟩;refine aL (d:= .int ((facN l.sum:Nat):Int)) (β1:=β) (am (ae (aj rfl (NZ hs)) rfl) (wW h)) ?_;refine bM (ds:=(nI l).map D.int) (β1:=β) (cz rfl hs.seq) (λi δ c=>β=c/\∃b,δ=[on (.sh cd),b,on (.sh (.int ((facN l.sum/pr ((l.take i).map facN):Nat):Int)))]) ⟨rfl,b,by rw[WF,Rk,LQ,Nat.div_one];rfl⟩ ?_ ?_
 ·rintro i d δ _ hd ⟨rfl,b,rfl⟩
  obtain⟨n,hn,rfl⟩:=tQ hd;refine⟨_,rfl,aq (gG rfl (am rfl (wW (IY h hn))) (OZ (nM n) (i9 (vt (IY h hn)) (by decide))) (bq ⟨rfl,on (.sh (.int (n:Int))),?_⟩))⟩;rw[m9 hn,Xk];rfl
 ·rintro δ _ ⟨rfl,b,rfl⟩
  rw[zL,SC];exact aq (aU rfl ⟨rfl,rfl⟩)
theorem ul{l:List Nat}(h:l.sum<=40):wayN l<=2^160:=P3 (Wt _ _) (vt h)
theorem uk(l:List Nat):wayN l=mu l:=Mn l
theorem ID{l:List Nat}(h:l.sum<=40):mu l<=2^160:=by rw[←uk];exact ul h
theorem HR{α:Type}{l:List α}{i:Nat}{x:α}(f:α->Nat)(h:l[i]?=on x):L2.Nt.sm (l.take (i+1)) f=L2.Nt.sm (l.take i) f+f x:=by
 rw[VY,h,ux];rfl
abbrev cv(W:Wy)(m k:Nat)(r:List Nat):D:= .tup [.int ((tbW W (m-k) k r:Nat):Int),.int ((dlW W (m-k) k r:Nat):Int)]
abbrev dcL(W:Wy)(rs:List Nat)(m k:Nat):D:= .dct Pj ((lvW W rs k).map λr=>((0:Int),nI r)) ((lvW W rs k).map (cv W m k))
theorem zS{f:List Nat->D}{u:List Nat}:∀{L:List (List Nat)},u∈L->lkD (L.map λr=>((0:Int),nI r)) (L.map f) (0,nI u)=on (f u)
 |r::L,h=>by
  unfold lkD;rw[Py,Py,RN,SN];by_cases q:r=u
  ·rw[q,PX rfl];rfl
  ·rw[Qp λe=>q (gX (Ut.mp e).2)]
   exact zS ((PL.mp h).resolve_left λe=>q e.symm)
theorem MQ{W:Wy}{rs u:List Nat}{m k:Nat}(h:u∈lvW W rs k):EL (dcL W rs m k) (tN u)=on (cv W m k u):=by
 show(ig Pj (dK Pj (0,nI u))).bind _=_;rw[rf λ_=>rfl];exact zS h
theorem xP{rs cs r:List Nat}{W:Wy}{q:D}{k:Nat}(h:Nt1 K a rs cs W q)(o:k<cs.length)(p:r∈lvW W rs k):(ic K a).1 [tN r,.lst ((W k r).map tN),dcL W rs cs.length (k+1)] β=on (.ok (cv W cs.length k r),β):=by
 obtain⟨t,y,u⟩:=h.at (by omega) p;unfold ic
 dsimp only
 refine aN ?_;refine aL (d:= .int 0) (β1:=β) rfl (aL (d:= .int 0) (β1:=β) rfl ?_);refine bM (ds:=(W k r).map tN) (β1:=β) rfl (λi δ e=>β=e/\∃f g j,δ=[on (.sh (tN r)),on (.sh (.lst ((W k r).map tN))),on (.sh (dcL W rs cs.length (k+1))),on (.sh (.int ((L2.Nt.sm ((W k r).take i) λv=>tbW W (cs.length-(k+1)) (k+1) (less r v):Nat):Int))),on (.sh (.int ((L2.Nt.sm ((W k r).take i) λv=>mu v*dlW W (cs.length-(k+1)) (k+1) (less r v):Nat):Int))),f,g,j]) ⟨rfl,Pb,Pb,Pb,rfl⟩ ?_ ?_
 ·rintro i d δ _ hd ⟨rfl,f,g,j,rfl⟩
  obtain⟨v,l,rfl⟩:=bJ hd;have hm:=PU l;have m:less r v∈lvW W rs (k+1):=nk.mpr ⟨r,p,v,hm,rfl⟩;have b:=(h.ok k r).subset hm;have hs:=(i8 h.ok h.sm (k+1) o _ m).2;have c:v.sum<=40:=P3 (cK b).sum u;have n:=(h.at o m).2.2;refine⟨_,rfl,tw (d:=cv W cs.length (k+1) (less r v)) (β1:=β) (x_2 rfl (am rfl (m7 (cK b) t.2.1)) (MQ m)) rfl (gG rfl rfl rfl (aq (gG rfl (x_2 (am rfl (vY (.inr rfl) c)) rfl (xQ (i9 (ul c) (by decide)) (i9 (P3 (vy h.ok _ _ _ (by omega)) (by rw[mC _ _ hs];exact ID n)) (by decide)))) rfl (bq ⟨rfl,on (.sh (tN v)),on (.sh (.int ((tbW W (cs.length-(k+1)) (k+1) (less r v):Nat):Int))),on (.sh (.int ((dlW W (cs.length-(k+1)) (k+1) (less r v):Nat):Int))),?_⟩))))⟩;rw[HR _ l,HR _ l,uk,Vn,Vn];rfl
 ·rintro δ _ ⟨rfl,f,g,j,rfl⟩
  rw[Pa,SC];refine aq (aU (aj rfl fG) ⟨rfl,?_⟩);show RF (D.tup [.int ((tbW W (cs.length-k) k r:Nat):Int),.int ((dlW W (cs.length-k) k r:Nat):Int)])=_;rw[show cs.length-k=cs.length-(k+1)+1 by omega];rfl
theorem xi{f g:FD}{δ:Dn}{k v:D}(b:f δ β=on (.ok k,β))(c:g δ β=on (.ok v,β)):EQ f g δ β=on (.ok [.tup [k,v]],β):=by
 unfold EQ M.bind;rw[b];simp only[c,M.ret]
theorem vm{α b:Type}(f:α->b)(l:List α):(l.flatMap λx=>[f x])=l.map f:=by
 induction l with
 |nil=>rfl
 |cons x l ih=>rw[Qy,ih];rfl
theorem zO{rs cs:List Nat}{W:Wy}{b:D}(h:Nt1 K a rs cs W b){k:Nat}(c:k<=cs.length):(lvW W rs k).length<=62:=by
 have:=Kv h.ok h.sm c;have:=h.wd;omega
theorem dk0{rs cs:List Nat}{W:Wy}{b:D}(h:Nt1 K a rs cs W b){k:Nat}(c:k<=cs.length){os:List D}(e:os=(lvW W rs k).map λr=> .tup [tN r,cv W cs.length k r]):lB Pj os=on (dcL W rs cs.length k):=by
 refine(w6 (kvs:=(lvW W rs k).map λr=>(((0:Int),nI r),cv W cs.length k r)) ⟨?_,?_,?_,?_⟩).trans ?_
 ·rw[e,Pp];rfl
 ·rw[Pp];exact uS (λx y q=>gX (Ut.mp q).2) (uY k)
 ·rw[Pa];exact aW (by have:=zO h c;omega)
 ·rintro p d _
  obtain⟨r,_,rfl⟩:=PD.mp d;rfl
 ·rw[Pp,Pp];rfl
theorem Om{n:Nat}(h:n<=1000):tF [.int (n:Int)]=on (iA n):=by
 simp only[tF];rw[Ps (by simp only[Qj,Qx];omega),Q7]
theorem On{n i:Nat}{d:D}(h:(iA n)[i]?=on d):i<n/\d= .int ((n-1-i:Nat):Int):=by
 obtain⟨x,b,rfl⟩:=bJ (f:=λ(i:Nat)=>D.int ((n:Int)-1-i)) (xs:=Pq n) h;have c:=(Px.mp b).1;rw[P0]at c;rw[QO c]at b;cases b;exact⟨c,by congr 1;omega⟩
theorem zb{f:Nat->D}{n k:Nat}(h:k<n):((Pq n).map f)[k]?=on (f k):=by rw[Pi,QO h];rfl
theorem AU{f:Nat->D}:∀n j,cQ j ((List.range' j n).map f)=(List.range' j n).map λk=> .tup [.int (k:Int),f k]
 |0,_=>rfl
 |n+1,j=>by
  rw[List.range'_succ,Py,Py,←AU n (j+1)];rfl
theorem J4{f:Nat->D}(m:Nat):((Pq (m+1)).map λj=>f (m-j)).reverse=(Pq (m+1)).map f:=RH (by simp) λi b c=>by
 simp only[XZ,Pa,P0]at b;simp only[XJ,SB,SG,Pa,P0];congr 1;omega
abbrev NU(W:Wy)(rs:List Nat)(m:Nat):List D:=(Pq (m+1)).flatMap λk=>(lvW W rs k).map (cv W m k)
abbrev rM(W:Wy)(rs:List Nat)(m:Nat):D:= .dct Pe (kyW W rs (m+1)) (NU W rs m)
theorem dk1{rs cs:List Nat}{W:Wy}{b:D}(h:Nt1 K a rs cs W b){os:List D}(e:os=(Pq (cs.length+1)).flatMap λ(k:Nat)=>(lvW W rs k).map λr=> .tup [.tup [.int (k:Int),tN r],cv W cs.length k r]):lB Pe os=on (rM W rs cs.length):=by
 refine(w6 (kvs:=(Pq (cs.length+1)).flatMap λ(k:Nat)=>(lvW W rs k).map λr=>(((k:Int),nI r),cv W cs.length k r)) ⟨?_,?_,?_,?_⟩).trans ?_
 ·rw[e,RI];simp only[Pp];rfl
 ·have:=z6 (W:=W) (rs:=rs) (cs.length+1)
  unfold kyW at this;rw[RI];simp only[Pp];exact this
 ·refine aW (P3 (iI (n:=62) λk c=>?_) (by have:=h.c6;rw[P0];omega))
  have:=PY.mp c;rw[Pa];exact zO h (by omega)
 ·rintro p _ q
  cases q
 ·unfold rM kyW
  rw[RI,RI];simp only[Pp];rfl
theorem yf{rs cs:List Nat}{W:Wy}{b:D}(h:Nt1 K a rs cs W b):(eJ K a).1 [nL rs,nL cs,b] β=on (.ok (rM W rs cs.length),β):=by
 have c6:=h.c6;unfold eJ
 dsimp only
 refine aN ?_;refine aL (d:= .lst ((Pq (cs.length+1)).map (lvD W rs))) (β1:=β) (am rfl (DC h)) ?_;refine aL (d:= .int (cs.length:Int)) (β1:=β) (aj rfl (c5 (by rw[Pa,Pa]))) ?_;refine aL (d:=dcL W rs cs.length cs.length) (β1:=β) (lC (lvW W rs cs.length) tN (λr=>[.tup [tN r,.tup [.int 1,.int 1]]]) (cz (x_2 rfl rfl (bD (zb (by omega)))) rfl) (λr _=>⟨[on (tN r)],rfl,xi rfl (aj rfl fG)⟩) (dk0 h (Pt _) (by rw[vm];simp only[cv,RW];rfl))) ?_;refine mV (ds:=[dcL W rs cs.length cs.length]) (β1:=β) rfl (show 1<=PQ by decide) ?_;refine bM (ds:=iA cs.length) (β1:=β) (bx rfl (Om (by omega))) (λi δ c=>β=c/\∃e f,δ=[on (.sh (nL rs)),on (.sh (nL cs)),on (.sh (b)),on (.sh (.lst ((Pq (cs.length+1)).map (lvD W rs)))),on (.sh (.int (cs.length:Int))),on (.sh (dcL W rs cs.length (cs.length-i))),on (.own ((Pq (i+1)).map λj=>dcL W rs cs.length (cs.length-j))),e,f]) ⟨rfl,Pb,Pb,rfl⟩ ?_ ?_
 ·rintro i d δ _ hd ⟨rfl,e,f,rfl⟩
  obtain⟨p,rfl⟩:=On hd;have l:cs.length-1-i<cs.length:=by omega
  have o:cs.length-i=(cs.length-1-i)+1:=by omega
  have m:cs.length-(i+1)=cs.length-1-i:=by omega
  rw[o];refine⟨_,rfl,aL (d:=dcL W rs cs.length (cs.length-1-i+1)) (β1:=β) rfl (aL (d:=dcL W rs cs.length (cs.length-1-i)) (β1:=β) (lC (lvW W rs (cs.length-1-i)) tN (λr=>[.tup [tN r,cv W cs.length (cs.length-1-i) r]]) (cz (x_2 rfl rfl (bD (zb (by omega)))) rfl) (λr g=>⟨[on (tN r),on (nL cs),on (b),on (.int ((cs.length-1-i:Nat):Int)),on (dcL W rs cs.length (cs.length-1-i+1))],rfl,xi rfl (am (ae rfl (ae (am rfl (h.fl l (h.at (by omega) g).1 (h.at (by omega) g).2.1)) rfl)) (xP h l g))⟩) (dk0 h (by omega) (vm _ _))) (aq (mW (cs:=(Pq (i+1)).map λj=>dcL W rs cs.length (cs.length-j)) (d:=dcL W rs cs.length (cs.length-1-i)) rfl rfl (P7 (show _<1000 by rw[Pa,P0];omega) (by decide)) (bq ⟨rfl,on (.sh (.int ((cs.length-1-i:Nat):Int))),on (.sh (dcL W rs cs.length (cs.length-1-i+1))),?_⟩))))⟩;rw[SQ (n:=i+1),Qh,m];show _=[_,_,_,_,_,_,on (Sl.own (_++[dcL W rs cs.length (cs.length-(i+1))])),_,_];rw[m];rfl
 ·rintro δ _ ⟨rfl,e,f,rfl⟩
  rw[show(iA cs.length).length=cs.length by unfold iA;rw[Pa,P0]];refine aq (aU (lC (Pq (cs.length+1)) (λk=> .tup [.int (k:Int),dcL W rs cs.length k]) (λ(k:Nat)=>(lvW W rs k).map λr=> .tup [.tup [.int (k:Int),tN r],cv W cs.length k r]) (bx (ae (x_2 (y:= .int (-1)) rfl rfl rfl) rfl) ?_) (λk _=>⟨[on (.int (k:Int)),on (dcL W rs cs.length k),Pb,Pb],rfl,?_⟩) (dk1 h rfl)) ⟨rfl,rfl⟩)
  ·show on (cQ 0 _)=_
   rw[J4,List.range_eq_range',AU]
  ·refine(OB (lvW W rs k) (λr=> .tup [tN r,cv W cs.length k r]) (λr=>[.tup [.tup [.int (k:Int),tN r],cv W cs.length k r]]) ?_ (λr _=>⟨[on (.int (k:Int)),on (dcL W rs cs.length k),on (tN r),on (cv W cs.length k r)],rfl,xi (aj rfl fG) rfl⟩)).trans (by rw[vm])
   show on (RF (Us _ _ _),β)=_;rw[List.zipWith_map_left,List.zipWith_map_right,List.zipWith_self];rfl
theorem Ld{r c:Nat}{rows:LI}(sh:Shp r c rows)(r0:1<=r)(r1:r<=30)(c1:c<=30){δ:Dn}(h:δ.getD 0 Pb=on (gridD rows)):cw 1 [0] (bN fJ (aa (aA cc (aa (f2 ixD (af 0) (fC (.int 0))) (ao))) (ao))) (tgC 0) (λ_=>M.ret Pe) (cEm (cw 1 [0] (bZ (af 1)) (tgC 0) (λ_=>M.ret Pe) (cEm (f2 ixD (af 0) (af 1))))) δ β=on (.ok (gridD (tp c rows)),β):=by
 obtain⟨b,d,g⟩:=sh.at (i:=0) (by omega);have k:(gI rows)[0]?=on (b.map D.int):=by rw[Pi,d];rfl
 have o:aA cc (aa (f2 ixD (af 0) (fC (.int 0))) (ao)) δ β=on (.ok (.int (c:Int)),β):=aj (ae (x:= .lst (b.map D.int)) (x_2 (x:=gridD rows) (xh h) rfl (tX k)) rfl) (c5 (by rw[Pa,g]));have e:=bn (nv:=1) (caps:=[0]) (it:=bN fJ (aa (aA cc (aa (f2 ixD (af 0) (fC (.int 0))) (ao))) (ao))) (tg:=tgC 0) (f:=cw 1 [0] (bZ (af 1)) (tgC 0) (λ_=>M.ret Pe) (cEm (f2 ixD (af 0) (af 1)))) (δ:=δ) (β:=β) (Pq c) (λi=>D.int (0+(i:Int))) (λj=>D.lst (rows.map λrow=>D.int (row.getD j 0))) (bx (ds:=bc 0 c) (ae o rfl) (rg1 (by omega) (by omega))) ?_ (aW (by rw[P0];omega))
 ·rw[e]
  unfold tp tpA;show _=on (RF (D.lst (QI D.lst (QI _ (QI _ _)))),β);rw[Pp,Pp];congr 4;refine P5 λj _=>?_;show _=D.lst ((rows.map λrow=>row.getD j 0).map D.int);rw[Pp];rfl
 ·intro j p
  have q:=PY.mp p;have m:cSt 1 [0] δ=[Pb,on (gridD rows)]:=by
   unfold cSt;simp only[Py,Rk,h];rfl
  refine⟨[on (.int (0+(j:Int))),on (gridD rows)],by rw[m];rfl,?_⟩;have hm:(gI rows).map D.lst=rows.map λrow=>D.lst (row.map D.int):=by rw[Pp];rfl
  refine bn (nv:=1) (caps:=[0]) rows (λrow=>D.lst (row.map D.int)) _ (by show on (RF ((gI rows).map D.lst),β)=_;rw[hm]) (λrow t=>⟨_,rfl,x_2 (x:= .lst (row.map D.int)) (y:= .int (0+(j:Int))) rfl rfl ?_⟩) (aW (by rw[sh.1];omega));have u:=sh.2 row t;obtain⟨x,n⟩:=IX (l:=row) (i:=j) (by omega);rw[SI];refine bD ?_;rw[Pi,n,Pf,n];rfl
theorem qd{r c:Nat}{rows:LI}(sh:Shp r c rows)(r0:1<=r)(r1:r<=30)(c1:c<=30):(kW K a).1 [gridD rows] β=on (.ok (gridD (tp c rows)),β):=
 aN (aq (aU (Ld sh r0 r1 c1 rfl) ⟨rfl,rfl⟩))
noncomputable abbrev iL(xs:List Int):D:= .lst (xs.map D.int)
theorem yL{rows:LI}(h:rows.length<=1000){f:FD}{δ:Dn}(e:f δ β=on (.ok (gridD rows),β)):cw 1 [] (bZ f) (tgC 0) (λ_=>M.ret Pe) (cEm (aA gH (aa (af 0) (ao)))) δ β=on (.ok (iL (rows.map Ri)),β):=by
 have hm:(gI rows).map D.lst=rows.map λrow=>D.lst (row.map D.int):=by rw[Pp];rfl
 have:=bn (nv:=1) (caps:=[]) (it:=bZ f) (tg:=tgC 0) (f:=aA gH (aa (af 0) (ao))) (δ:=δ) (β:=β) rows (λrow=>D.lst (row.map D.int)) (λrow=>D.int row.sum) (by rw[←hm];exact cz e rfl) (λrow _=>⟨_,rfl,aj rfl (fm row)⟩) (aW h);rw[this];show _=on (RF (D.lst ((rows.map Ri).map D.int)),β);rw[Pp];rfl
theorem pR{rows:LI}(h:rows.length<=1000):(jT K a).1 [gridD rows] β=on (.ok (iL (rows.map Ri)),β):=
 aN (aq (aU (yL h rfl) ⟨rfl,rfl⟩))
theorem lM{r c:Nat}{rows:LI}(sh:Shp r c rows)(r0:1<=r)(r1:r<=30)(c1:c<=30):(gB K a).1 [gridD rows] β=on (.ok (iL ((tp c rows).map Ri)),β):=
 aN (aq (aU (yL (by rw[(j5 (d:=(0:Int)) (c:=c) sh.1).1];omega) (am rfl (qd sh r0 r1 c1))) ⟨rfl,rfl⟩))
noncomputable def gp(G:LI)(i j:Nat):Int:=(G.getD i []).getD j 0
theorem OY{G:LI}{i j:Nat}{row:List Int}{x:Int}(b:G[i]?=on row)(c:row[j]?=on x):gp G i j=x:=by
 unfold gp;simp only[Pf,b,c,Yn]
theorem AK{G:LI}{i j:Nat}{row:List Int}(b:G[i]?=on row):row.getD j 0=gp G i j:=by
 unfold gp;rw[Pf (l:=G),b];rfl
theorem BL:∀(xs:List Int),S xs.length (λj=>xs.getD j 0)=xs.sum:=λxs=>by
 unfold S;congr 1;refine RH (by simp) λi c b=>?_;rw[SB,SG,Pf,Pd b];rfl
theorem N1{r c i:Nat}{A:LI}(d:Shp r c A)(e:i<r):S c (gp A i)=(A.map Ri).getD i 0:=by
 obtain⟨f,b,g⟩:=d.at e;rw[Pf,Pi,b];show _=f.sum;rw[←BL,g];exact dT λj _=>(AK b).symm
theorem N2{r c j:Nat}{A:LI}(b:Shp r c A)(f:j<c):S r (λp=>gp A p j)=((tp c A).map Ri).getD j 0:=by
 have e:(tp c A)[j]?=on (A.map λrow=>row.getD j 0):=by
  show((Pq c).map λj=>A.map λrow=>row.getD j 0)[j]?=_;rw[Pi,QO f];rfl
 rw[Pf,Pi,e];show _=(A.map λrow=>row.getD j 0).sum;rw[←BL,Pa,b.1];refine dT λp g=>?_;obtain⟨h,d,i⟩:=b.at g;rw[Pf (l:=A.map _),Pi,d];exact(AK d).symm
theorem zI{rs:List Int}{b:List Nat}(c:∀i∈b,i<rs.length)(d:b.length<=1000):(l8 K a).1 [iL rs,nL b] β=on (.ok (.int (qa rs b)),β):=by
 unfold l8
 dsimp only
 refine aN (aq (aU (aj (ae (x:=iL (b.map λi=>rs.getD i 0)) ?_ rfl) (fm _)) ⟨rfl,rfl⟩));have:=bn (nv:=1) (caps:=[0]) (it:=bZ (af 1)) (tg:=tgC 0) (f:=f2 ixD (af 1) (af 0)) (δ:=[on (iL rs),on (nL b)]) (β:=β) b (λi=>D.int (i:Int)) (λi=>D.int (rs.getD i 0)) (by show on (RF ((nI b).map D.int),β)=_;rw[Pp];rfl) (λi e=>⟨_,rfl,x_2 rfl rfl (IL (c i e))⟩) (aW d);refine this.trans ?_;show _=on (RF (D.lst ((b.map λi=>rs.getD i 0).map D.int)),β);rw[Pp];rfl
theorem sH{r c j:Nat}{cs:List Int}{b:LP}{g:List Nat}(sh:Shp r c b)(n:cs.length=c)(k:r<=1000)(l:j<c):(dz K a).1 [iL cs,dL b,nL g,.int (j:Int)] β=on (.ok (.int (fE cs b r g j)),β):=by
 unfold dz
 dsimp only
 refine aN ?_;refine aL (d:=iL (((Pq r).filter λi=>!decide (i∈g)).map λi=>(bI b i j).1)) (β1:=β) ?_ ?_
 ·have m:((gP b).map D.lst).length=r:=by rw[Pa,Pa,sh.1]
  have:=jh (nv:=2) (caps:=[2,3]) (it:=IC (aa (af 1) ao)) (tg:=tgT (cJ (tgC 0) (cJ (tgC 1) ge))) (tt:=fB (f2 (inD Pe) (af 0) (af 2))) (f:=f2 ixD (f2 ixD (af 1) (af 3)) (fC (.int 0))) (δ:=[on (iL cs),on (dL b),on (nL g),on (.int (j:Int)),Pb]) (β:=β) (Pq r) (λi=>D.tup [.int (i:Int),.lst ((b.getD i []).map pD)]) (λi=>D.int (bI b i j).1) (λi=>!decide (i∈g)) ?_ (λi h=>⟨_,rfl,x_B (x_2 rfl rfl vf),λ_=>x_2 (x_2 rfl rfl (u9 sh (PY.mp h) l).2) rfl rh⟩) (aW (by rw[P0];exact k))
  ·refine this.trans ?_
   show _=on (RF (D.lst ((((Pq r).filter λi=>!decide (i∈g)).map λi=>(bI b i j).1).map D.int)),β);rw[Pp];rfl
  ·show on (RF (cQ 0 ((gP b).map D.lst)),β)=_
   rw[oC,m];congr 3;refine P5 λi h=>?_;rw[Q4];congr 3;obtain⟨e,_⟩:=sh.getD (PY.mp h);rw[Pf,Pi,Pi,e];rfl
 refine aq (aU (x_2 (x:= .int (cs.getD j 0)) (x_2 rfl rfl (IL (by omega))) (aj rfl (fm _)) rfl) ⟨rfl,?_⟩);have e:(Pq r).map (λi=>if i∈g then(0:Int)else(bI b i j).1)=(Pq r).map (λx=>if(!decide (x∈g))=Pe then(bI b x j).1 else 0):=P5 λi _=>by by_cases q:i∈g<;>simp[q]
 unfold fE S;rw[wV,e]
theorem sZ{r c j:Nat}{b:LP}{d:List Nat}(sh:Shp r c b)(e:∀i∈d,i<r)(k:d.length<=1000)(g:j<c):(dA K a).1 [dL b,nL d,.int (j:Int)] β=on (.ok (.int (gc b d j)),β):=by
 unfold dA
 dsimp only
 refine aN (aq (aU (aj (ae (x:=iL (d.map λi=>(bI b i j).2)) ?_ rfl) (fm _)) ⟨rfl,rfl⟩));have:=bn (nv:=1) (caps:=[0,2]) (it:=bZ (af 1)) (tg:=tgC 0) (f:=f2 ixD (f2 ixD (f2 ixD (af 1) (af 0)) (af 2)) (fC (.int 1))) (δ:=[on (dL b),on (nL d),on (.int (j:Int))]) (β:=β) d (λi=>D.int (i:Int)) (λi=>D.int (bI b i j).2) (by show on (RF ((nI d).map D.int),β)=_;rw[Pp];rfl) (λi h=>⟨_,rfl,x_2 (x_2 (x_2 rfl rfl (u9 sh (e i h) g).1) rfl (u9 sh (e i h) g).2) rfl u8⟩) (aW k);refine this.trans ?_;show _=on (RF (D.lst ((d.map λi=>(bI b i j).2).map D.int)),β);rw[Pp];rfl
theorem y9{r c:Nat}{cs:List Int}{b:LP}{d e:List Nat}(sh:Shp r c b)(k:cs.length=c)(l:r<=1000)(h:c<=1000)(m:∀i∈d,i<r)(n:d.length<=1000):(l7 K a).1 [iL cs,dL b,nL d,nL e] β=on (.ok (.int (tH cs b r c d e)),β):=by
 unfold l7
 dsimp only
 refine aN (aq (aU (aj (ae (x:=iL ((Pq c).map λj=>if j∈e then fE cs b r d j else gc b d j)) ?_ rfl) (fm _)) ⟨rfl,rfl⟩));have:=bn (nv:=1) (caps:=[3,0,1,2]) (it:=bN fJ (aa (aA cc (aa (af 0) (ao))) (ao))) (tg:=tgC 0) (f:=fIf (fB (f2 (inD Pj) (af 0) (af 1))) (bB (dz K a).1 (aa (af 2) (aa (af 3) (aa (af 4) (aa (af 0) (ao)))))) (bB (dA K a).1 (aa (af 3) (aa (af 4) (aa (af 0) (ao)))))) (δ:=[on (iL cs),on (dL b),on (nL d),on (nL e)]) (β:=β) (Pq c) (λj=>D.int (0+(j:Int))) (λj=>D.int (if j∈e then fE cs b r d j else gc b d j)) (bx (ds:=bc 0 c) (ae (aj rfl (c5 (by rw[Pa,k]))) rfl) (rg1 (by omega) (by omega))) (λj o=>⟨[on (.int (j:Int)),on (nL e),on (iL cs),on (dL b),on (nL d)],by rw[SI];rfl,?_⟩) (aW (by rw[P0];exact h))
 ·refine this.trans ?_
  show _=on (RF (D.lst (((Pq c).map λj=>if j∈e then fE cs b r d j else gc b d j).map D.int)),β);rw[Pp];rfl
 ·have g:=PY.mp o
  by_cases q:j∈e
  ·rw[Ps q]
   exact N5 (x_B (x_2 rfl rfl (by rw[vf];simp[q]))) (am rfl (sH sh k l g))
  ·rw[Po q]
   exact N6 (x_B (x_2 rfl rfl (by rw[vf];simp[q]))) (am rfl (sZ sh m n g))
theorem zK{r c:Nat}{cs:List Int}{b:LP}{d:List Nat}(sh:Shp r c b)(g:cs.length=c)(l:r<=1000)(e:c<=1000)(m:∀i∈d,i<r)(n:d.length<=1000):(jS K a).1 [iL cs,dL b,nL d] β=on (.ok (nL (uT cs b r c d)),β):=by
 unfold jS
 dsimp only
 refine aN ?_;have h:=jh (nv:=1) (caps:=[0,1,2]) (it:=bN fJ (aa (aA cc (aa (af 0) (ao))) (ao))) (tg:=tgC 0) (tt:=fB (f2 (ltD) (bB (dz K a).1 (aa (af 1) (aa (af 2) (aa (af 3) (aa (af 0) (ao)))))) (bB (dA K a).1 (aa (af 2) (aa (af 3) (aa (af 0) (ao))))))) (f:=af 0) (δ:=[on (iL cs),on (dL b),on (nL d)]) (β:=β) (Pq c) (λj=>D.int (0+(j:Int))) (λj=>D.int (j:Int)) (λj=>decide (fE cs b r d j<gc b d j))
  (bx (ds:=bc 0 c) (ae (aj rfl (c5 (by rw[Pa,g]))) rfl) (rg1 (by omega) (by omega)))
  (λj k=>⟨[on (.int (j:Int)),on (iL cs),on (dL b),on (nL d)],by rw[SI];rfl,x_B (x_2 (am rfl (sH sh g l (PY.mp k))) (am rfl (sZ sh m n (PY.mp k))) rfl),λ_=>rfl⟩) (aW (by rw[P0];exact e))
 refine aq (aU h ⟨rfl,?_⟩);show RF (D.lst ((nI (uT cs b r c d)).map D.int))=_;rw[Pp];rfl
theorem LA{n i:Nat}{d:D}(h:(bc 0 n)[i]?=on d):i<n/\d= .int (i:Int):=by
 obtain⟨x,b,rfl⟩:=bJ (f:=λ(i:Nat)=>D.int (0+(i:Int))) (xs:=Pq n) h;have c:=(Px.mp b).1;rw[P0]at c;rw[QO c]at b;cases b;exact⟨c,by rw[SI]⟩
theorem yi{n:Nat}(hn:n<=6):(ma K a).1 [.int (n:Int)] β=on (.ok (.lst ((chF n).map nL)),β):=by
 unfold ma
 dsimp only
 refine aN ?_;refine aL (d:= .lst [.lst []]) (β1:=β) (aj (ae (aj rfl DL) rfl) mo) ?_;refine bM (ds:=bc 0 n) (β1:=β) (bx rfl (rg1 (by omega) (by omega))) (λi δ b=>β=b/\∃c,δ=[on (.sh (.int (n:Int))),on (.sh (.lst ((chF i).map nL))),c]) ⟨rfl,Pb,rfl⟩ ?_ ?_
 ·rintro i d δ _ hd ⟨rfl,c,rfl⟩
  obtain⟨g,rfl⟩:=LA hd;have j:(chF i).length<=64:=by rw[w9];exact P3 (X1 (by decide) (show i<=6 by omega)) (by decide)
  refine⟨[on (.sh (.int (n:Int))),on (.sh (.lst ((chF i).map nL))),on (.sh (.int (i:Int)))],rfl,aq (aL (d:= .lst ((chF (i+1)).map nL)) (β1:=β) ?_ (bq ⟨rfl,_,rfl⟩))⟩;have h:=bn (nv:=1) (caps:=[2]) (it:=bZ (af 1)) (tg:=tgC 0) (f:=f2 lD (af 0) (aA d6 (aa (af 1) (ao)))) (δ:=vw [on (.sh (.int (n:Int))),on (.sh (.lst ((chF i).map nL))),on (.sh (.int (i:Int)))]) (β:=β) (chF i) nL (λl=>nL (l++[i])) rfl (λl e=>⟨[on (nL l),on (.int (i:Int))],rfl,by
   have k:l.length<=i:=by have:=(iK i l e).length_le;rwa[P0]at this
   refine x_2 rfl (aj rfl mo) ((n9 ?_).trans ?_)
   ·rw[Pa,Pa,QC];omega
   ·simp only[nL,nI,Qh,Py,Rk]⟩) (aW (by omega))
  refine x_2 rfl h ((n9 ?_).trans ?_)
  ·rw[Pa,Pa];omega
  ·rw[chF,Qh,Pp];rfl
 ·rintro δ _ ⟨rfl,c,rfl⟩
  rw[show(bc 0 n).length=n by unfold bc;rw[Pa,P0]];exact aq (aU rfl ⟨rfl,rfl⟩)
theorem MU{r:Nat}{b:List Nat}(h:b∈chF r):(∀i∈b,i<r)/\b.length<=r:=⟨λi c=>PY.mp ((iK r b h).subset c),by have:=(iK r b h).length_le;rwa[P0]at this⟩
theorem MK{r c:Nat}{rs cs:List Int}{b:LP}(sh:Shp r c b)(l:rs.length=r)(m:cs.length=c)(n:r<=6)(p:c<=6)(ok:∀X Y,0<=slB rs cs b r c X Y):(fQ K a).1 [iL rs,iL cs,dL b] β=on (.ok .non,β):=by
 unfold fQ
 dsimp only
 refine aN (aq (bM (ds:=(chF r).map nL) (β1:=β) (cz (am (ae (aj rfl (c5 (r:=r) (by rw[Pa,l]))) rfl) (yi n)) rfl) (λi δ f=>β=f/\∃g h,δ=[on (.sh (iL rs)),on (.sh (iL cs)),on (.sh (dL b)),g,h]) ⟨rfl,Pb,Pb,rfl⟩ ?_ ?_))
 ·rintro i d δ _ hd ⟨rfl,g,h,rfl⟩
  obtain⟨e,q,rfl⟩:=bJ hd;have hm:=PU q;obtain⟨k,t⟩:=MU hm;refine⟨_,rfl,aL (d:=nL (uT cs b r c e)) (β1:=β) (am rfl (zK sh m (by omega) (by omega) k (by omega))) ?_⟩;refine aq (iu (x_B (x_2 (am rfl (zI (by rw[l];exact k) (by omega))) (am rfl (y9 sh m (by omega) (by omega) k (by omega))) ?_)) (bL (bq ⟨rfl,_,_,rfl⟩)));have o:=ok (λi=>decide (i∈e)) (λj=>decide (j∈uT cs b r c e));have sub:(uT cs b r c e).Sublist (Pq c):=VB;rw[←Ls (iK r e hm) sub]at o;show on (D.bl (decide _))=_;rw[Qp (by omega)]
 ·rintro δ _ ⟨rfl,g,h,rfl⟩
  exact bq ⟨rfl,rfl⟩
theorem JN{r c:Nat}{rows:LI}{b:LP}(sh:Shp r c rows)(m:Shp r c b)(kp:Kp rows b)(X Y:Nat->Bool):0<=slB (rows.map Ri) ((tp c rows).map Ri) b r c X Y:=by
 refine JT (g:=gp rows) (λi f j h=>?_) (λi f=>(N1 sh f).symm) (λj h=>(N2 sh h).symm) X Y;obtain⟨row,k,n⟩:=sh.at f;have ex:=n6 (l:=row) (i:=j) (d:=0) (by omega);obtain⟨e,l⟩:=m.getD f;have ep:=n6 (l:=b.getD i []) (i:=j) (d:=((0,0):Int×Int)) (by omega);rw[OY k ex];exact kp i j _ _ (mM k ex) (mM e ep)
variable{rs cs:List Nat}
theorem IQ{g:G}{δ:Ds}{o:Out}(h:Gw g δ β (λc b=>c=o/\b=β)):g δ β=on (o,β):=by
 obtain⟨c,b,e,rfl,rfl⟩:=h;exact e
theorem gF{t:Dn->M Bool}{d b h:G}{δ:Ds}{β1:Bg}{c:Bool}{Q:Out->Bg->Prop}(e:t (vwA δ) β=on (.ok c,β1))(f:c=Pj)(k:Gw (aJ b h) δ β1 Q):Gw (aJ (gIf t d b) h) δ β Q:=by
 subst f;exact iu e k
theorem Ou{p:Int×Int}(h:PairOk p):(iW K a).1 [pD p] β=on (.ok .non,β):=by
 obtain⟨b,c,e⟩:=h;unfold iW
 dsimp only
 refine aN ?_;exact tw (d:=pD p) (β1:=β) rfl rfl (aq (gF (kK (x_B (BO rfl rfl rfl rfl))) (by simp;omega) (bL (bq ⟨rfl,rfl⟩))))
theorem JV{r c:Nat}{b:LP}(g:Bnd r c b)(n:r<=1000):(c9 K a).1 [dL b,.int (r:Int),.int (c:Int)] β=on (.ok (dL b),β):=by
 unfold c9
 dsimp only
 refine aN ?_;refine iu (β1:=β) (x_B (x_2 rfl rfl rfl)) (bL ?_);have o:cw 1 [2] (bZ (af 0)) (tgC 0) (λ_=>M.ret Pe) (cEm (f2 (dm) (aA cc (aa (af 0) (ao))) (af 1))) [on (dL b),on (.int (r:Int)),on (.int (c:Int)),Pb,Pb] β=on (.ok (.lst (b.map λ_=>D.bl Pj)),β):=
  bn (nv:=1) (caps:=[2]) b (λrow=>D.lst (row.map pD)) _ (by show on _=_;rw[Pp];rfl) (λrow h=>⟨_,rfl,x_2 (aj rfl (c5 (r:=c) (by rw[Pa];exact g.shp.2 row h))) rfl (ne_int.trans (by rw[PX rfl];rfl))⟩) (aW (by rw[g.shp.1];exact n))
 refine gF (pf (x_B (x_2 (aj rfl (zZ (r:=r) (by rw[Pa];exact g.shp.1))) rfl (ne_int.trans (by rw[PX rfl];rfl)))) (mU (aj (ae o rfl) (any_map b λ_=>Pj)) rfl)) (by simp) (bL ?_);refine bM (ds:=(gP b).map D.lst) (β1:=β) rfl (λi δ e=>β=e/\∃l f,δ=[on (.sh (dL b)),on (.sh (.int (r:Int))),on (.sh (.int (c:Int))),l,f]) ⟨rfl,Pb,Pb,rfl⟩ ?_ ?_
 ·rintro i d δ _ hd ⟨rfl,l,f,rfl⟩
  obtain⟨y,q,rfl⟩:=bJ hd;obtain⟨row,k,rfl⟩:=bJ q;refine⟨_,rfl,aq (bM (ds:=row.map pD) (β1:=β) rfl (λj δ e=>β=e/\∃f,δ=[on (.sh (dL b)),on (.sh (.int (r:Int))),on (.sh (.int (c:Int))),on (.sh (.lst (row.map pD))),f]) ⟨rfl,_,rfl⟩ ?_ ?_)⟩
  ·rintro j d δ _ hd ⟨rfl,f,rfl⟩
   obtain⟨p,m,rfl⟩:=bJ hd;exact⟨_,rfl,aq (lO (am rfl (Ou (g.ok row (PU k) p (PU m)))) (bq ⟨rfl,_,rfl⟩))⟩
  ·rintro δ _ ⟨rfl,f,rfl⟩
   exact bq ⟨rfl,_,_,rfl⟩
 ·rintro δ _ ⟨rfl,l,f,rfl⟩
  exact aq (aU (bn (nv:=1) (caps:=[]) (gP b) D.lst D.lst rfl (λx _=>⟨_,rfl,rfl⟩) (aW (by rw[Pa,g.shp.1];exact n))) ⟨rfl,rfl⟩)
theorem zF(l:List Nat){n:Nat}{δ:Dn}(b:l.length<=1000)(e:δ.getD n Pb=on (nL l)):ik (aA yn (aa (cw 1 [] (bZ (af n)) (tgC 0) (λ_=>M.ret Pe) (cEm (f2 (ltD) (af 0) (fC (.int 0))))) (ao))) δ β=on (.ok Pj,β):=by
 have c:=bn (nv:=1) (caps:=[]) (it:=bZ (af n)) (tg:=tgC 0) (f:=f2 (ltD) (af 0) (fC (.int 0))) (δ:=δ) (β:=β) (nI l) D.int (λx=>D.bl (decide (x<0))) (cz (xh e) rfl) (λx _=>⟨_,rfl,rfl⟩) (aW (by rw[Pa];exact b));refine mU (aj (ae c rfl) (any_map _ _)) (QN on (YE.mpr λx d=>?_));obtain⟨n,_,rfl⟩:=PD.mp d;simp
theorem mr(l:List Nat):cc [nL l]=on (.int (l.length:Int)):=c5 (by rw[Pa,Pa])
theorem K0(h:Nt0 rs cs):(iU K a).1 [nL rs,nL cs] β=on (.ok .non,β):=by
 obtain⟨b,c,d,e⟩:=h.nr;have c1:=h.c1;have c6:=h.c6;unfold iU
 dsimp only
 refine aN ?_;refine gF (kK (x_B (vX rfl (aj rfl (mr rs)) rfl))) (by simp;omega) (bL ?_);refine gF (kK (x_B (vX rfl (aj rfl (mr cs)) rfl))) (by simp;omega) (bL ?_);refine iu (pf (zF rs (by omega) rfl) (zF cs (by omega) rfl)) (bL ?_);refine gF (x_B (x_2 (aj rfl (qb rs)) (aj rfl (qb cs)) ne_int)) (by rw[h.sm];simp) (bL ?_);exact aq (gF (x_B (x_2 (aj rfl (qb rs)) rfl gt_int)) (by simp;omega) (bL (bq ⟨rfl,rfl⟩)))
theorem JD(h:Nrw rs):(iT K a).1 [nL rs] β=on (.ok .non,β):=by
 obtain⟨g,j,k,e⟩:=h;unfold iT
 dsimp only
 refine aN ?_;refine aL (d:= .int 1) (β1:=β) rfl ?_;refine bM (ds:=(nI rs).map D.int) (β1:=β) rfl (λi δ b=>β=b/\∃c,δ=[on (.sh (nL rs)),on (.sh (.int ((pr ((rs.take i).map (·+1)):Nat):Int))),c]) ⟨rfl,Pb,rfl⟩ ?_ ?_
 ·rintro i d δ _ hd ⟨rfl,c,rfl⟩
  obtain⟨n,hn,rfl⟩:=tQ hd;have f:=kx (PU hn);have l:=P3 (tK rs i) e;refine⟨_,rfl,aq (gG rfl (x_2 (z:= .int ((n+1:Nat):Int)) rfl rfl rfl) (xQ (smN (by omega)) (smN (by omega))) (bq ⟨rfl,on (.sh (.int (n:Int))),?_⟩))⟩;rw[m9 hn];rfl
 ·rintro δ _ ⟨rfl,c,rfl⟩
  rw[zL,SC];exact aq (gF (x_B (x_2 rfl rfl gt_int)) (by simp;omega) (bL (bq ⟨rfl,rfl⟩)))
structure NtB (rows:LI) (B:List (List (Nat×Nat))) (rs cs:List Nat):Prop extends Nt0 rs cs where
 shp:Shp rs.length cs.length rows
 rw1:rows.map Ri=nI rs
 cl1:(tp cs.length rows).map Ri=nI cs
 bok:BOk rs.length cs.length B
 kp:Kp rows (gN B)
theorem jN{r c:Nat}{B:List (List (Nat×Nat))}(h:Shp r c B):Shp r c (gN B):=h.map
theorem BOk.bnd{r c:Nat}{B:List (List (Nat×Nat))}(h:BOk r c B):Bnd r c (gN B):=⟨jN h.1,λrow e p f=>by
 obtain⟨b,g,rfl⟩:=PD.mp e;obtain⟨d,i,rfl⟩:=PD.mp f;have:=h.2 b g d i;exact⟨by show(0:Int)<=(d.1:Int);omega,by show(d.1:Int)<=(d.2:Int);omega,by show(d.2:Int)<=40;omega⟩⟩
theorem NtB.nt{rows:LI}{B:List (List (Nat×Nat))}(h:NtB rows B rs cs):Nt1 K a rs cs (wB B cs) (bDN B):=⟨h.toNt0,xm B cs,λ{β k r} b c e=>K3 c (by rw[e];exact h.bok) (by rw[←h.sm];exact h.nr.2.2.1) b⟩
theorem NtB.fit{rows:LI}{B:List (List (Nat×Nat))}(h:NtB rows B rs cs):(fQ K a).1 [nL rs,nL cs,bDN B] β=on (.ok .non,β):=by
 have b:=h.nr.2.1;have c6:=h.c6;refine MK (jN h.bok.1) (Pa _) (Pa _) (by omega) (by omega) λX Y=>?_;rw[←h.rw1,←h.cl1];exact JN h.shp (jN h.bok.1) h.kp X Y
theorem JW{rows:LI}{B:List (List (Nat×Nat))}(h:NtB rows B rs cs):(c9 K a).1 [bDN B,.int (rs.length:Int),.int (cs.length:Int)] β=on (.ok (bDN B),β):=JV h.bok.bnd (by have:=h.nr.2.1;omega)
abbrev nFs(B:List (List (Nat×Nat)))(rs cs:List Nat):List D:=[nL rs,nL cs,bDN B,rM (wB B cs) rs cs.length]
abbrev Ml(a:Ad)(B:List (List (Nat×Nat)))(rs cs:List Nat):D:= .obj a.Ae ["row_list","column_list","pairs","counted"] (nFs B rs cs)
theorem OE{rows:LI}{B:List (List (Nat×Nat))}{d:D}(h:NtB rows B rs cs)(hd:∀{β:Bg},(c9 K a).1 [d,.int (rs.length:Int),.int (cs.length:Int)] β=on (.ok (bDN B),β)):qc K a [nL rs,nL cs,d] β=on (.ok (nFs B rs cs),β):=EB λx=>by
 have b:(dM K a).1 [nL rs,nL cs,d] β=on (.ok (bDN B),β):=by
  unfold dM
  dsimp only
  refine aN ?_;exact lO (am rfl (K0 h.toNt0)) (aL (am (ae rfl (ae (aj rfl (mr rs)) (ae (aj rfl (mr cs)) rfl))) hd) (lO (am rfl (JD h.nr)) (aq (aU rfl ⟨rfl,rfl⟩))))
 unfold vd;refine AD (g:=dR 4 _) (δ1:=[on (.sh (.adr x)),on (.sh (nL rs)),on (.sh (nL cs)),on (.sh d),on (.sh (bDN B))]) (β1:=β) (IQ (aq (aL (am rfl b) (bq ⟨rfl,rfl⟩)))) rfl rfl ?_;refine AD (δ1:=[on (.sh (.adr x)),on (.sh (nL rs)),on (.sh (nL cs)),on (.sh d),on (.sh (bDN B))]) (β1:=β) (IQ (aq (lO (am rfl h.fit) (bq ⟨rfl,rfl⟩)))) rfl rfl ?_;exact ql (aj rfl rfl) (ql (aj rfl rfl) (ql rfl (ql (am rfl (yf h.nt)) rfl)))
theorem Mj{rows:LI}{B:List (List (Nat×Nat))}(h:NtB rows B rs cs):qc K a [nL rs,nL cs,bDN B] β=on (.ok (nFs B rs cs),β):=OE h (JW h)
theorem N7{f:FD}{g:FL}{δ:Dn}{b:Bool}{ks:List KyD}{vs:List D}{k z d:D}{y:KyD}(c:f δ β=on (.ok (.dct b ks vs),β))(e:g δ β=on (.ok [k,z],β))(h:ig b k=on y)(i:lkD ks vs y=on d):EI f g δ β=on (.ok d,β):=by
 unfold EI;rw[M.bind_ok c];simp only;rw[M.bind_ok e];simp only[h,i,QK,Yn,M.ofO]
variable{W:Wy}{bd:D}
abbrev sT(W:Wy)(cs:List Nat)(k:Nat)(r:List Nat):List (List Nat):=stW W (cs.length-(k+1)) k r
abbrev tB(W:Wy)(cs:List Nat)(k:Nat)(r v:List Nat):Nat:=tbW W (cs.length-(k+1)) (k+1) (less r v)
abbrev mB(W:Wy)(cs:List Nat)(k:Nat)(r v:List Nat):Nat:=mu v*dlW W (cs.length-(k+1)) (k+1) (less r v)
abbrev cX(a:Ad)(W:Wy)(bd:D)(rs cs:List Nat):D:= .obj a.Ae ["row_list","column_list","pairs","counted"] [nL rs,nL cs,bd,rM W rs cs.length]
theorem Ky{b d:List KyD}{c e:List D}{y:KyD}(h:b.length=c.length):lkD (b++d) (c++e) y=(lkD b c y).or (lkD d e y):=by
 unfold lkD;rw[List.zip_append h,List.find?_append];cases(b.zip c).find? λp=>decide (p.1=y)<;>rfl
theorem IF{f:List Nat->D}{u:List Nat}{k:Int}:∀{L:List (List Nat)},u∈L->lkD (L.map λr=>(k,nI r)) (L.map f) (k,nI u)=on (f u)
 |r::L,h=>by
  unfold lkD;rw[Py,Py,RN,SN];by_cases q:r=u
  ·rw[q,PX rfl];rfl
  ·rw[Qp λe=>q (gX (Ut.mp e).2)]
   exact IF ((PL.mp h).resolve_left λe=>q e.symm)
theorem zR{f:List Nat->D}{y:KyD}{k:Int}(h:k≠y.1):∀{L:List (List Nat)},lkD (L.map λr=>(k,nI r)) (L.map f) y=Pb
 |[]=>rfl
 |r::L=>by
  have ih:=zR (f:=f) h (L:=L);unfold lkD at ih⊢;rw[Py,Py,RN,SN,Qp λe=>h (Ut.mp e).1];exact ih
theorem zU{m k:Nat}{u:List Nat}(b:u∈lvW W rs k):∀{L:List Nat},k∈L->lkD (L.flatMap λk=>(lvW W rs k).map λr=>((k:Int),nI r)) (L.flatMap λk=>(lvW W rs k).map (cv W m k)) ((k:Int),nI u)=on (cv W m k u)
 |j::L,h=>by
  rw[Qy,Qy,Ky (by rw[Pa,Pa])];by_cases q:j=k
  ·subst q
   rw[IF b];rfl
  ·rw[zR (by show(j:Int)≠(k:Int);omega),Option.none_or]
   exact zU b ((PL.mp h).resolve_left λe=>q e.symm)
theorem lk_net{k:Nat}{u:List Nat}(c:k<=cs.length)(b:u∈lvW W rs k):lkD (kyW W rs (cs.length+1)) (NU W rs cs.length) ((k:Int),nI u)=on (cv W cs.length k u):=zU b (PY.mpr (by omega))
theorem vK{k:Nat}{u:List Nat}(c:k<=cs.length)(d:u∈lvW W rs k):(eL K a).1 [cX a W bd rs cs,.int (k:Int),tN u] β=on (.ok (cv W cs.length k u),β):=
 aN (aq (aU (N7 (jo rfl rfl) (ae (aj rfl fG) (ae (aj rfl fG) rfl)) (rf (b:=Pe) (k:=((k:Int),nI u)) λe=>(by cases e)) (lk_net c d)) ⟨rfl,rfl⟩))
theorem Mi{k:Nat}{u:List Nat}(b:k<=cs.length)(c:u∈lvW W rs k):DD (.tup [.int (k:Int),tN u]) (rM W rs cs.length)=on (.bl Pj):=by
 show(ig Pe (dK Pe ((k:Int),nI u))).map _=_;rw[rf λe=>(by cases e),QK,lk_net b c];rfl
theorem Nt1.nx{k:Nat}{r v:List Nat}(h:Nt1 K a rs cs W bd)(b:r∈lvW W rs k)(c:v∈W k r):less r v∈lvW W rs (k+1):=nk.mpr ⟨r,b,v,c,rfl⟩
theorem HH{k:Nat}{r:List Nat}(h:Nt1 K a rs cs W bd)(b:Nrw r):(W k r).length<=500:=by
 have:=(h.ok k r).length_le;have:=kN r (cs.getD k 0);have:=tK r (r.length-1);rw[←List.dropLast_eq_take]at this;have:=b.2.2.2;omega
theorem HP{k:Nat}{r:List Nat}(h:Nt1 K a rs cs W bd)(b:Nrw r):(sT W cs k r).length<=500:=P3 VB.length_le (HH h b)
theorem CB{k:Nat}{r:List Nat}(h:Nt1 K a rs cs W bd)(d:k<cs.length)(b:r∈lvW W rs k):(jX K a).1 [cX a W bd rs cs,.int (k:Int),tN r] β=on (.ok (.lst ((sT W cs k r).map tN)),β):=by
 obtain⟨c,f,g⟩:=h.at (by omega) b;unfold jX
 dsimp only
 refine aN ?_;refine gF (pf (x_B (x_2 (aj rfl fG) (jo rfl rfl) (Mi (by omega) b))) (x_B (x_2 rfl (aj (ae (jo rfl rfl) rfl) (mr cs)) eq_int))) (by simp;omega) (bL ?_);refine aq (aU (jh (W k r) tN tN (λv=>decide ((0:Int)<((tB W cs k r v:Nat):Int))) (cz (am (ae rfl (ae (jo rfl rfl) (ae (jo rfl rfl) (ae rfl rfl)))) (h.fl d c f)) rfl) (λv e=>⟨[on (tN v),on (cX a W bd rs cs),on (.int (k:Int)),on (tN r)],rfl,?_,λ_=>rfl⟩) (aW ?_)) ⟨rfl,rfl⟩)
 ·exact x_B (x_2 (x_2 (fN rfl (ae (x:= .int ((k+1:Nat):Int)) (x_2 rfl rfl rfl) (ae (am rfl (m7 (cK ((h.ok k r).subset e)) c.2.1)) rfl)) (vK d (h.nx b e))) rfl rh) rfl gt_int)
 ·have:=HH (k:=k) h c
  omega
abbrev scD(W:Wy)(j k:Nat)(r v:List Nat):D:= .tup [tN v,.int ((tbW W j (k+1) (less r v):Nat):Int),.int ((mu v*dlW W j (k+1) (less r v):Nat):Int)]
theorem tup3{x y z:D}:cu [x,y,z]=on (.tup [x,y,z]):=by
 unfold cu;rw[Ps (aW (by show 3<=1000;decide))]
theorem O5{k:Nat}{r:List Nat}(h:Nt1 K a rs cs W bd)(b:k<=cs.length)(c:r∈lvW W rs k):dlW W (cs.length-k) k r<=2^160:=by
 refine P3 (vy h.ok _ _ _ (by omega)) ?_;rw[mC _ _ (i8 h.ok h.sm k b r c).2];exact ID (h.at b c).2.2
theorem yN{k:Nat}{r:List Nat}(h:Nt1 K a rs cs W bd)(c:k<cs.length)(e:r∈lvW W rs k):(bY K a).1 [cX a W bd rs cs,.int (k:Int),tN r] β=on (.ok (.lst ((sT W cs k r).map (scD W (cs.length-(k+1)) k r))),β):=by
 obtain⟨m,p,o⟩:=h.at (by omega) e;have q:=HP (k:=k) h m;unfold bY
 dsimp only
 refine aN ?_;refine mV (ds:=[]) (β1:=β) rfl (QV _) ?_;refine bM (ds:=(sT W cs k r).map tN) (β1:=β) (cz (fN rfl rfl (CB h c e)) rfl) (λi δ f=>β=f/\∃g j l,δ=[on (.sh (cX a W bd rs cs)),on (.sh (.int (k:Int))),on (.sh (tN r)),on (.own (((sT W cs k r).take i).map (scD W (cs.length-(k+1)) k r))),g,j,l]) ⟨rfl,Pb,Pb,Pb,rfl⟩ ?_ ?_
 ·rintro i d δ _ hd ⟨rfl,g,j,l,rfl⟩
  obtain⟨v,n,rfl⟩:=bJ hd;have hm:=(R1.mp (PU n)).1;have hn:=h.nx e hm;have b:v.sum<=40:=P3 (cK ((h.ok k r).subset hm)).sum o;refine⟨_,rfl,tw (d:=cv W cs.length (k+1) (less r v)) (β1:=β) (fN rfl (ae (x:= .int ((k+1:Nat):Int)) (x_2 rfl rfl rfl) (ae (am rfl (m7 (cK ((h.ok k r).subset hm)) m.2.1)) rfl)) (vK c hn)) rfl (aq (mW (cs:=((sT W cs k r).take i).map (scD W (cs.length-(k+1)) k r)) (d:=scD W (cs.length-(k+1)) k r v) rfl (ae (aj (ae rfl (ae rfl (ae (x_2 (am rfl (vY (.inr rfl) b)) rfl (xQ (i9 (ul b) (by decide)) (i9 (O5 h c hn) (by decide)))) rfl))) (tup3.trans (by rw[uk]))) rfl) (P7 (show _<1000 by rw[Pa,RA];omega) (by decide)) (bq ⟨rfl,on (.sh (tN v)),on (.sh (.int ((tB W cs k r v:Nat):Int))),on (.sh (.int ((dlW W (cs.length-(k+1)) (k+1) (less r v):Nat):Int))),?_⟩)))⟩;rw[VY,n,Qh];rfl
 ·rintro δ _ ⟨rfl,g,j,l,rfl⟩
  rw[Pa,SC];exact aq (aU rfl ⟨rfl,rfl⟩)
theorem EH(f:List Nat->Nat)(l:List (List Nat)){n:Nat}(hn:n<L2.Nt.sm l f):(fq K a).1 [.lst (l.map λv=> .tup [tN v,.int ((f v:Nat):Int)]),.int (n:Int)] β=on (.ok (.tup [tN (fal f l n).1,.int (((fal f l n).2:Nat):Int)]),β):=by
 unfold fq
 dsimp only
 refine aN ?_;refine aL (d:= .int 0) (β1:=β) rfl ?_;refine JE (λq δ g=>β=g/\∃i b:Nat,δ=[on (.sh (.lst (l.map λv=> .tup [tN v,.int ((f v:Nat):Int)]))),on (.sh (.int (b:Int))),on (.sh (.int (i:Int)))]/\q=l.length-i/\fal f (l.drop i) b=fal f l n/\b<L2.Nt.sm (l.drop i) f) ?_ l.length _ β ⟨rfl,0,n,rfl,rfl,rfl,hn⟩;rintro q δ _ ⟨rfl,i,b,rfl,rfl,e,hs⟩;have h:i<l.length:=by
  rcases Ux i l.length with z|z
  ·exact z
  ·rw[RB z]at hs;cases hs
 have c:(l.map λv=>D.tup [tN v,.int ((f v:Nat):Int)])[i]?=on (.tup [tN l[i],.int ((f l[i]:Nat):Int)]):=by rw[Pi,Pd h];rfl
 rw[Qr h]at e hs;rw[bz]at hs;have j:∀v l n,fal f (v::l) n=if n<f v then(v,n)else fal f l (n-f v):=λ_ _ _=>rfl;rw[j]at e;by_cases z:b<f l[i]
 ·rw[Ps z]at e
  refine .inl ⟨β,?_,?_⟩
  ·exact(x_B (x_2 rfl (x_2 (x_2 rfl rfl (bD c)) rfl u8) ge_int)).trans (by rw[Qp (by omega)])
  ·rw[←e]
   exact aq (aU (aj (ae (x_2 (x_2 rfl rfl (bD c)) rfl rh) (ae rfl rfl)) fG) ⟨rfl,rfl⟩)
 ·rw[Po z]at e
  refine .inr ⟨β,?_,?_⟩
  ·exact(x_B (x_2 rfl (x_2 (x_2 rfl rfl (bD c)) rfl u8) ge_int)).trans (by rw[PX (by omega)])
  ·refine gG (z:= .int ((b-f l[i]:Nat):Int)) rfl (x_2 (x_2 rfl rfl (bD c)) rfl u8) (by show on (D.int _)=_;rw[Int.ofNat_sub (by omega)]) (aq (gG (z:= .int ((i+1:Nat):Int)) rfl rfl rfl (bq ⟨_,rfl,l.length-(i+1),by omega,rfl,i+1,b-f l[i],rfl,rfl,e,by omega⟩)))
theorem Lz{n:Nat}{vs:List (List Nat)}(g:1<=vs.length)(l:vs.length<=30)(hn:n<=30)(b:∀v∈vs,v.length=n):(d9 K a).1 [.lst (vs.map tN)] β=on (.ok (gridD (tp n (vs.map nI))),β):=by
 have c:(vs.map tN)[0]?=on (tN vs[0]):=by rw[Pi,Pd (by omega)];rfl
 unfold d9
 dsimp only
 refine aN (aq (aU (d:= .lst ((Pq n).map λj=>D.lst (vs.map λv=> .int ((v.getD j 0:Nat):Int)))) (β1:=β) ?_ ⟨rfl,?_⟩))
 ·refine bn (Pq n) (λi=>D.int (0+(i:Int))) _ (bx (ds:=bc 0 n) (ae (aj (z:= .int (n:Int)) (ae (x_2 rfl rfl (bD (k:=0) c)) rfl) ?_) rfl) (rg1 (by omega) (by omega))) (λj e=>⟨[on (.int (0+(j:Int))),on (.lst (vs.map tN))],rfl,?_⟩) (aW (by rw[P0];omega))
  ·show on (D.int _)=_
   rw[Pa,Pa,b _ (Qo _)]
  ·have f:=PY.mp e
   refine bn (nv:=1) (caps:=[0]) vs tN _ rfl (λv h=>⟨[on (tN v),on (.int (0+(j:Int)))],rfl,x_2 rfl rfl ?_⟩) (aW (by omega));rw[SI];have m:=b v h;refine bD (xs:=(nI v).map D.int) ?_;rw[Pi,Pi,d7 (by omega),Pd (by omega)];rfl
 ·unfold tp tpA
  show RF (D.lst (QI D.lst (QI _ (QI _ _))))=_;rw[Pp,Pp];congr 2;refine P5 λj _=>?_;show D.lst (((vs.map nI).map λrow=>row.getD j 0).map D.int)=_;rw[Pp,Pp];congr 1;refine P5 λv _=>?_;show D.int ((nI v).getD j 0)=_;rw[Pf,Pf,Pi];cases v[j]?<;>rfl
theorem eqI(i j:Int):R9 (.int i) (.int j)=decide (i=j):=by unfold R9;exact Bool.beq_eq_decide_eq i j
theorem sM{α:Type} [DecidableEq α]{f:α->Wb}(b:∀x y,R9 (f x) (f y)=decide (x=y)):∀xs ys:List α,Te (xs.map f) (ys.map f)=decide (xs=ys)
 |[],[]=>by simp[Te]
 |[],y::ys=>by simp[Te]
 |x::xs,[]=>by simp[Te]
 |x::xs,y::ys=>by
  rw[Py,Py,Te,b,sM b xs ys];by_cases h:x=y<;>by_cases q:xs=ys<;>simp[h,q]
theorem uo{α:Type}{f:α->D}{g:α->Wb}(h:∀x,toP (f x)=on (g x)):∀l:List α,toPs (l.map f)=on (l.map g)
 |[]=>by simp[toPs]
 |x::l=>by
  rw[Py,toPs,h x,uo h l];rfl
theorem AQ{x y:D}{p q:Wb}(f:eqS x y=Pb)(d:toP x=on p)(e:toP y=on q)(b:iF x=Pe)(c:iF y=Pe):gu x y=on (.bl (R9 p q)):=by
 unfold gu j4;unfold iF at b c;rw[d]at b;rw[e]at c;simp only[f,d,e,b,c,Tp,Qv,QK]
theorem O3(xs ys:List Int):gu (tpI xs) (tpI ys)=on (.bl (decide (xs=ys))):=by
 have t:∀l:List Int,toP (tpI l)=on (.tuple (l.map .int)):=λl=>by
  unfold tpI toP;rw[uo (g:=PyData.int) λx=>rfl];rfl
 have c:∀l:List Int,iF (tpI l)=Pe:=λl=>vI 1 (λx b=>by
  obtain⟨i,_,rfl⟩:=PD.mp b;trivial) (by decide)
 rw[AQ rfl (t xs) (t ys) (c xs) (c ys),R9,sM eqI]
theorem O1(u v:List Nat):gu (tN u) (tN v)=on (.bl (decide (u=v))):=by
 rw[O3];by_cases q:u=v
 ·rw[q,PX rfl,PX rfl]
 ·rw[Qp q,Qp λe=>q (gX e)]
theorem rb:(ck K a).1 [cX a W bd rs cs] β=on (.ok (nL rs),β):=aN (aq (aU (aj (ae (jo rfl rfl) rfl) rfl) ⟨rfl,rfl⟩))
theorem wD:(cI K a).1 [cX a W bd rs cs] β=on (.ok (nL cs),β):=aN (aq (aU (aj (ae (jo rfl rfl) rfl) rfl) ⟨rfl,rfl⟩))
theorem MT{n m:Nat}(h:n<m):(dO K a).1 [.int (n:Int),.int (m:Int)] β=on (.ok .non,β):=
 aN (aq (gF (kK (x_B (yu rfl rfl rfl))) (by simp;omega) (bL (bq ⟨rfl,rfl⟩))))
theorem yC(l:List Nat):lT [nL l]=on (tN l):=rfl
theorem xF{r c:Nat}{rows:LI}(sh:Shp r c rows)(r0:1<=r)(r1:r<=30)(c1:c<=30):(d9 K a).1 [gridD rows] β=on (.ok (gridD (tp c rows)),β):=
 aN (aq (aU (Ld sh r0 r1 c1 rfl) ⟨rfl,rfl⟩))
theorem GZ{rows:LI}(h:Nt0 rs cs)(sh:Shp rs.length cs.length rows):(gh K a).1 [cX a W bd rs cs,gridD rows] β=on (.ok (.lst ((tp cs.length rows).map tpI)),β):=by
 obtain⟨b,j,_,_⟩:=h.nr;have c1:=h.c1;have c6:=h.c6;unfold gh
 dsimp only
 refine aN ?_;refine aL (d:= .int (cs.length:Int)) (β1:=β) (aj (ae (fN rfl rfl wD) rfl) (mr cs)) ?_;have e:f2 dm (aA cc (aa (af 1) ao)) (aA cc (aa (fZ a.Ae "rowsums" (ck K a).1 (af 0) ao []) ao)) (vwA [on (.sh (cX a W bd rs cs)),on (.sh (gridD rows)),on (.sh (.int (cs.length:Int)))]) β=on (.ok (.bl Pj),β):=x_2 (aj rfl (c5 (r:=rs.length) (by rw[Pa,Pa];exact sh.1))) (aj (ae (fN rfl rfl rb) rfl) (mr rs)) (ne_int.trans (by rw[PX rfl];rfl));have g:=bn (nv:=1) (caps:=[2]) (it:=bZ (af 1)) (tg:=tgC 0) (f:=f2 dm (aA cc (aa (af 0) ao)) (af 1)) (δ:=vwA [on (.sh (cX a W bd rs cs)),on (.sh (gridD rows)),on (.sh (.int (cs.length:Int)))]) (β:=β) rows (λrow=>D.lst (row.map D.int)) (λ_=>D.bl Pj) (cz rfl (by show on _=on _;rw[Pp];rfl)) (λrow i=>⟨[on (D.lst (row.map D.int)),on (.int (cs.length:Int))],rfl,x_2 (aj rfl (c5 (r:=cs.length) (by rw[Pa];exact sh.2 row i))) rfl (ne_int.trans (by rw[PX rfl];rfl))⟩) (aW (by rw[sh.1];omega));refine gF (pf (x_B e) (mU (aj (ae g rfl) (any_map rows λ_=>Pj)) rfl)) (by simp) (bL ?_);refine aq (aU (bn (tp cs.length rows) (λcol=>D.lst (col.map D.int)) tpI (cz (am rfl (xF sh b (by omega) (by omega))) (by show on _=on _;rw[Pp];rfl)) (λcol _=>⟨[on (D.lst (col.map D.int))],rfl,rfl⟩) (aW (by rw[(j5 (d:=(0:Int)) (c:=cs.length) sh.1).1];omega))) ⟨rfl,rfl⟩)
theorem NV{k:Nat}{r v:List Nat}(h:Nt1 K a rs cs W bd)(n:k<cs.length)(o:r∈lvW W rs k)(p:v∈sT W cs k r):∃x,(eK K a).1 [cX a W bd rs cs,.int (k:Int),tN r,tN v] β=on (.ok (.tup [.int ((ahW (tB W cs k r) v (sT W cs k r):Nat):Int),x]),β):=by
 suffices q:∃g b,(eK K a).1 [cX a W bd rs cs,.int (k:Int),tN r,tN v] β=on (g,b)/\β=b/\∃x,g= .ok (.tup [.int ((ahW (tB W cs k r) v (sT W cs k r):Nat):Int),x]) by
  obtain⟨g,_,e,rfl,x,rfl⟩:=q;exact⟨x,e⟩
 unfold eK
 dsimp only
 refine mK ?_;refine aL (d:= .int 0) (β1:=β) rfl (aL (d:= .int 0) (β1:=β) rfl ?_);generalize A:(tB W cs k r)=f;refine bM (ds:=(sT W cs k r).map (scD W (cs.length-(k+1)) k r)) (β1:=β) (cz (am rfl (yN h n o)) rfl) (λi δ b=>β=b/\∃t d:Nat,∃c j m,δ=[on (.sh (cX a W bd rs cs)),on (.sh (.int (k:Int))),on (.sh (tN r)),on (.sh (tN v)),on (.sh (.int (t:Int))),on (.sh (.int (d:Int))),c,j,m]/\t+ahW f v ((sT W cs k r).drop i)=ahW f v (sT W cs k r)/\v∈(sT W cs k r).drop i) ⟨rfl,0,0,Pb,Pb,Pb,rfl,Q4 _,p⟩ ?_ ?_
 ·rintro i _ δ _ hd ⟨rfl,t,d,c,j,m,rfl,e,hm⟩
  obtain⟨u,B,rfl⟩:=bJ hd;obtain⟨C,rfl⟩:=Px.mp B;rw[Qr C]at e hm;have F:∀u l,ahW f v (u::l)=if u=v then 0 else f u+ahW f v l:=λ_ _=>rfl;rw[F]at e;refine⟨_,rfl,lN (β1:=β) (x_B (x_2 rfl rfl (O1 _ v))) ?_⟩;by_cases z:(sT W cs k r)[i]=v
  ·rw[Ps z]at e
   rw[Ps (PX z)];exact aU (aj rfl fG) ⟨rfl,.int (d:Int),by rw[←e];rfl⟩
  ·rw[Po z]at e
   rw[Po (λy=>z (Sk y))];refine bL (gG (z:= .int ((t+f (sT W cs k r)[i]:Nat):Int)) rfl rfl (by rw[←A];rfl) (aq (gG (z:= .int ((d+mB W cs k r (sT W cs k r)[i]:Nat):Int)) rfl rfl rfl (bq ⟨rfl,_,_,_,_,_,rfl,by omega,(PL.mp hm).resolve_left λy=>z y.symm⟩))))
 ·rintro δ _ ⟨rfl,t,d,c,j,m,rfl,e,hm⟩
  rw[Pa,SA]at hm;cases hm
theorem Mf{rows:LI}{vs:List (List Nat)}(h:Nt1 K a rs cs W bd)(sh:Shp rs.length cs.length rows)(l:tp cs.length rows=vs.map nI)(m:Wk W 0 rs vs)(n:vs.length=cs.length):(jR K a).1 [cX a W bd rs cs,gridD rows] β=on (.ok (.int ((nmW W 0 rs vs:Nat):Int)),β):=by
 have c6:=h.c6;unfold jR
 dsimp only
 refine aN ?_;refine aL (d:=tN rs) (β1:=β) (aj (ae (fN rfl rfl rb) rfl) (yC rs)) ?_;refine aL (d:= .int 0) (β1:=β) rfl ?_;refine bM (ds:=cQ 0 (vs.map tN)) (β1:=β) (bx (ae (am rfl (GZ h.toNt0 sh)) rfl) (by rw[l,Pp];rfl)) (λi δ f=>β=f/\∃r,∃fs:Nat,∃g j,δ=[on (.sh (cX a W bd rs cs)),on (.sh (gridD rows)),on (.sh (tN r)),on (.sh (.int (fs:Int))),g,j]/\r∈lvW W rs i/\Wk W i r (vs.drop i)/\fs+nmW W i r (vs.drop i)=nmW W 0 rs vs) ⟨rfl,rs,0,Pb,Pb,rfl,Qi.mpr rfl,m,Q4 _⟩ ?_ ?_
 ·rintro i _ δ _ hd ⟨rfl,r,fs,g,j,rfl,c,b,e⟩
  obtain⟨_,o,rfl⟩:=nR hd;obtain⟨v,p,rfl⟩:=bJ o;obtain⟨q,rfl⟩:=Px.mp p;rw[Qr q]at e b;have k:(vs.drop (i+1)).length=cs.length-(i+1):=by rw[V5,n]
  obtain⟨x,ha⟩:=NV (β:=β) h (by omega) c (N8 b k);have t:=(h.at (by omega) c).1;have le:=cK ((h.ok i r).subset b.1);have u:nmW W i r (vs[i]::vs.drop (i+1))=ahW (tB W cs i r) vs[i] (sT W cs i r)+nmW W (i+1) (less r vs[i]) (vs.drop (i+1)):=by
   unfold tB sT;rw[←k];rfl
  rw[u]at e;exact⟨_,rfl,gG (z:= .int ((fs+ahW (tB W cs i r) vs[i] (sT W cs i r):Nat):Int)) rfl (x_2 (am rfl ha) rfl rh) rfl (aq (aL (am rfl (m7 le t.2.1)) (bq ⟨rfl,less r vs[i],_,_,_,rfl,h.nx c b.1,b.2,by omega⟩)))⟩
 ·rintro δ _ ⟨rfl,r,fs,g,j,rfl,c,_,e⟩
  rw[jI,Pa,SA]at e;have e:fs=nmW W 0 rs vs:=e;subst e;exact aq (aU rfl ⟨rfl,rfl⟩)
theorem JO:(eV K a).1 [cX a W bd rs cs] β=on (.ok (.int ((tbW W cs.length 0 rs:Nat):Int)),β):=
 aN (aq (aU (x_2 (fN rfl (ae rfl (ae (aj (ae (jo rfl rfl) rfl) rfl) rfl)) (vK (k:=0) (QV _) (Qi.mpr rfl))) rfl rh) ⟨rfl,rfl⟩))
theorem J2{n:Nat}{vs:List (List Nat)}(f:1<=vs.length)(g:vs.length<=30)(hn:n<=30)(b:∀v∈vs,v.length=n):fA K a [.lst (vs.map tN)] β=on (.ok (gI (tp n (vs.map nI))),β):=by
 have c:(vs.map tN)[0]?=on (tN vs[0]):=by rw[Pi,Pd (by omega)];rfl
 refine rQ (aq (qK (rows:=(Pq n).map λj=>vs.map λv=>D.int ((v.getD j 0:Nat):Int)) (β1:=β) ?_ ⟨rfl,?_⟩))
 ·refine mF (Pq n) (λi=>D.int (0+(i:Int))) _ (bx (ds:=bc 0 n) (ae (aj (z:= .int (n:Int)) (ae (x_2 rfl rfl (bD (k:=0) c)) rfl) ?_) rfl) (rg1 (by omega) (by omega))) (λj d=>⟨[on (.int (0+(j:Int))),on (.lst (vs.map tN))],rfl,?_⟩) (aW (by rw[P0];omega))
  ·show on (D.int _)=_
   rw[Pa,Pa,b _ (Qo _)]
  ·have e:=PY.mp d
   refine sQ (nv:=1) (caps:=[0]) vs tN _ rfl (λv h=>⟨[on (tN v),on (.int (0+(j:Int)))],rfl,x_2 rfl rfl ?_⟩) (aW (by omega));rw[SI];have l:=b v h;refine bD (xs:=(nI v).map D.int) ?_;rw[Pi,Pi,d7 (by omega),Pd (by omega)];rfl
 ·unfold tp tpA
  show QI _ (QI _ _)=_;rw[Pp];refine P5 λj _=>?_;show((vs.map nI).map λrow=>row.getD j 0).map D.int=_;rw[Pp,Pp];refine P5 λv _=>?_;show D.int ((nI v).getD j 0)=_;rw[Pf,Pf,Pi];cases v[j]?<;>rfl
theorem wJ{n0:Nat}{o:G}{Q:Out->Bg->Prop}(h:Nt1 K a rs cs W bd)(hn:n0<tbW W cs.length 0 rs)(u:∀y A c f g,Gw o [on (.sh (cX a W bd rs cs)),y,A,on (.own ((ktW W cs.length 0 rs n0).map tN)),c,f,g] β Q):Gw (aJ (fF (bB (dO K a).1 (aa (af 1) (aa (fZ a.Ae "tables" (eV K a).1 (af 0) ao []) (ao))))) (aJ (dR 2 (aA lT (aa (fZ a.Ae "rowsums" (ck K a).1 (af 0) ao []) (ao)))) (aJ (rq 3 (ao)) (aJ (rA (bN fJ (aa (aA cc (aa (fZ a.Ae "columnsums" (cI K a).1 (af 0) ao []) (ao))) (ao))) (sgN 4) (aJ (dR 5 (cw 3 [] (bZ (bB (bY K a).1 (aa (af 0) (aa (af 4) (aa (af 2) (ao)))))) (tgT (cJ (tgC 0) (cJ (tgC 1) (cJ (tgC 2) ge)))) (λ_=>M.ret Pe) (cEm (aA cu (aa (af 0) (aa (af 1) (ao))))))) (aJ (ij (bB (fq K a).1 (aa (af 5) (aa (af 1) (ao)))) (sgT (h9 (sgN 6) (h9 (sgN 1) jQ)))) (aJ (rB 3 (aa (af 6) (ao))) (dR 2 (bB (br K a).1 (aa (af 2) (aa (af 6) (ao))))))))) o)))) [on (.sh (cX a W bd rs cs)),on (.sh (.int (n0:Int))),Pb,Pb,Pb,Pb,Pb] β Q:=by
 have c1:=h.c1;have c6:=h.c6;have H:=h.nr.2.1;refine lO (am (ae rfl (ae (fN rfl rfl JO) rfl)) (MT hn)) ?_;refine aL (d:=tN rs) (β1:=β) (aj (ae (fN rfl rfl rb) rfl) (yC rs)) ?_;refine mV (ds:=[]) (β1:=β) rfl (QV _) ?_;refine bM (ds:=bc 0 cs.length) (β1:=β) (bx (ae (aj (ae (fN rfl rfl wD) rfl) (mr cs)) rfl) (rg1 (by omega) (by omega))) (λi δ l=>β=l/\∃vs r,∃n:Nat,∃c f g,δ=[on (.sh (cX a W bd rs cs)),on (.sh (.int (n:Int))),on (.sh (tN r)),on (.own (vs.map tN)),c,f,g]/\vs.length=i/\r∈lvW W rs i/\n<tbW W (cs.length-i) i r/\vs++ktW W (cs.length-i) i r n=ktW W cs.length 0 rs n0) ⟨rfl,[],rs,n0,Pb,Pb,Pb,rfl,rfl,Qi.mpr rfl,hn,rfl⟩ ?_ ?_
 ·rintro i d δ _ hd ⟨rfl,vs,r,n,c,f,g,rfl,m,j,hn,b⟩
  obtain⟨B,rfl⟩:=xG hd;have p:cs.length-i=(cs.length-(i+1))+1:=by omega
  rw[p,←yP]at hn;rw[p]at b;obtain⟨C,F⟩:=vp hn;have q:=(R1.mp C).1;have le:=cK ((h.ok i r).subset q);have t:=(h.at (by omega) j).1;have I:=HP (k:=i) h t;refine⟨_,rfl,aL (d:= .lst ((sT W cs i r).map λv=> .tup [tN v,.int ((tB W cs i r v:Nat):Int)])) (β1:=β) (bn (sT W cs i r) (scD W (cs.length-(i+1)) i r) _ (cz (am rfl (yN h B j)) rfl) (λv _=>⟨[on (tN v),on (.int ((tB W cs i r v:Nat):Int)),on (.int ((mB W cs i r v:Nat):Int))],rfl,aj rfl fG⟩) (aW (by omega))) ?_⟩;refine tw (am rfl (EH (tB W cs i r) (sT W cs i r) hn)) rfl ?_;refine mW (cs:=vs.map tN) rfl rfl (P7 (show _<1000 by rw[Pa];omega) (by decide)) (aq (aL (am rfl (m7 le t.2.1)) (bq ⟨rfl,vs++[(fal (tB W cs i r) (sT W cs i r) n).1],less r (fal (tB W cs i r) (sT W cs i r) n).1,(fal (tB W cs i r) (sT W cs i r) n).2,_,_,_,by rw[Qh];rfl,by rw[PM,m];rfl,h.nx j q,F,by rw[QJ];exact b⟩)))
 ·rintro δ _ ⟨rfl,vs,r,n,c,f,g,rfl,m,j,_,b⟩
  rw[pS]at m b;rw[RW]at b;have e:vs=ktW W cs.length 0 rs n0:=by rw[←b];exact(Qe vs).symm
  rw[e];exact u _ _ _ _ _
theorem Mz(h:Nt1 K a rs cs W bd){n0:Nat}(hn:n0<tbW W cs.length 0 rs):∀v∈ktW W cs.length 0 rs n0,v.length=rs.length:=(qJ h.ok (IK hn) (by rw[kz,Q4]) h.sm).2.2
theorem Mx{n0:Nat}(h:Nt1 K a rs cs W bd)(hn:n0<tbW W cs.length 0 rs):(jV K a).1 [cX a W bd rs cs,.int (n0:Int)] β=on (.ok (gridD (tp rs.length ((ktW W cs.length 0 rs n0).map nI))),β):=by
 have c1:=h.c1;have c6:=h.c6;have b:=h.nr.2.1;unfold jV
 dsimp only
 refine aN ?_;exact wJ h hn λ_ _ _ _ _=>aq (aU (am rfl (Lz (by rw[kz];omega) (by rw[kz];omega) (by omega) (Mz h hn))) ⟨rfl,rfl⟩)
theorem KF{n0:Nat}(h:Nt1 K a rs cs W bd)(hn:n0<tbW W cs.length 0 rs):i6 K a [cX a W bd rs cs,.int (n0:Int)] β=on (.ok (gI (tp rs.length ((ktW W cs.length 0 rs n0).map nI))),β):=by
 have c1:=h.c1;have c6:=h.c6;have b:=h.nr.2.1;refine rQ ?_;unfold jf;exact wJ h hn λ_ _ _ _ _=>xl (aq (qK (qI rfl (J2 (by rw[kz];omega) (by rw[kz];omega) (by omega) (Mz h hn))) ⟨rfl,rfl⟩))
theorem O8{l:List Nat}{c:Nat}(h:l.length<=100):lD (nL l) (.lst [.int (c:Int)])=on (nL (l++[c])):=by
 refine(n9 (by rw[Pa,Pa,QC];omega)).trans ?_;show _=on (D.lst (QI D.int (QI _ (l++[c]))));rw[Qh,Qh];rfl
abbrev fiS(ps:List (Nat×Nat))(r:List Nat)(c:Nat)(f:D)(b d e g h:Option Sl):Ds:=[on (.sh (nL r)),on (.sh (.int (c:Int))),on (.sh (.lst (ps.map pN))),on (.sh f),b,d,e,g,h]
theorem Oo{lo:Nat}{n i:Nat}{d:D}(h:((Pq n).map λi=>D.int ((lo+i:Nat):Int))[i]?=on d):i<n/\d= .int ((lo+i:Nat):Int):=by
 obtain⟨x,b,rfl⟩:=bJ h;have c:=(Px.mp b).1;rw[P0]at c;rw[QO c]at b;cases b;exact⟨c,rfl⟩
theorem j6{α:Type}{l:List α}{i:Nat}{x:α}(h:l[i]?=on x):l.take (i+1)=l.take i++[x]:=by rw[VY,h];rfl
theorem Kz{ps:List (Nat×Nat)}{r:List Nat}{c:Nat}(J:Nrw r)(A:ps.length=r.length)(L:∀p∈ps,p.1<=40/\p.2<=40):(qW K a).1 [nL r,.int (c:Int),.lst (ps.map pN)] β=on (.ok (.lst ((vB ps r c).map nL)),β):=by
 obtain⟨_,T,hs,N⟩:=J;have n:∀k,k<=r.length->(gro ps r k).length<=500:=λk B=>P3 (wQ k B) (P3 (tK r k) N);unfold qW
 dsimp only
 refine aN ?_;refine aL (d:= .lst ((gro ps r 0).map nL)) (β1:=β) (aj (ae (aj rfl DL) rfl) mo) ?_;refine bM (ds:=(r.zip ps).map λq=> .tup [.int (q.1:Int),pN q.2]) (β1:=β) ?_ (λk δ g=>β=g/\∃C F o m b,δ=fiS ps r c (.lst ((gro ps r k).map nL)) C F o m b) ⟨rfl,Pb,Pb,Pb,Pb,Pb,rfl⟩ ?_ ?_
 ·rw[←iM (λx:Nat=>D.int (x:Int)) pN]
  refine ph (x:=nL r) (y:= .lst (ps.map pN)) rfl rfl ?_ rfl;show on _=on _;rw[Pp];rfl
 ·rintro k d δ _ hd ⟨rfl,C,F,o,m,b,rfl⟩
  obtain⟨q,I,rfl⟩:=bJ hd;have B:k<r.length:=by
   have:=(Px.mp I).1;rw[Tw]at this;omega
  have t:k<ps.length:=by omega
  obtain rfl:q=(r[k],ps[k]):=by
   have:=(Px.mp I).2;rw[List.getElem_zip]at this;exact this.symm
  have b40:=L _ (Qo t);have O:=kx (Qo B);refine⟨fiS ps r c (.lst ((gro ps r k).map nL)) (on (.sh (.int (r[k]:Int)))) (on (.sh (pN ps[k]))) o m b,rfl,?_⟩;refine mV (ds:=[]) (β1:=β) rfl (QV _) ?_;have step:∀u:List Nat,((Pq (SX ps[k].2 r[k]+1-ps[k].1)).map λi=>u++[ps[k].1+i]).length<=41:=λu=>by rw[Pa,P0];omega
  refine bM (ds:=(gro ps r k).map nL) (β1:=β) rfl (λi δ g=>β=g/\∃m b,δ=fiS ps r c (.lst ((gro ps r k).map nL)) (on (.sh (.int (r[k]:Int)))) (on (.sh (pN ps[k]))) (on (.own ((((gro ps r k).take i).flatMap λu=>(Pq (SX ps[k].2 r[k]+1-ps[k].1)).map λj=>u++[ps[k].1+j]).map nL))) m b) ⟨rfl,m,b,rfl⟩ ?_ ?_
  ·rintro i d δ _ hd ⟨rfl,m,b,rfl⟩
   obtain⟨u,H,rfl⟩:=bJ hd;have U:=AJ k u (PU H);have X:=(Px.mp H).1;have Y:=n k (by omega);have Z:(((gro ps r k).take i).flatMap λu=>(Pq (SX ps[k].2 r[k]+1-ps[k].1)).map λj=>u++[ps[k].1+j]).length<=500*41:=P3 (iI λu _=>step u) (Uf _ (by rw[RA];omega));refine⟨_,rfl,aq (bM (ds:=(Pq (SX ps[k].2 r[k]+1-ps[k].1)).map λj=>D.int ((ps[k].1+j:Nat):Int)) (β1:=β) (bx (as:=[.int (ps[k].1:Int),.int ((SX ps[k].2 r[k]:Nat)+1)]) (ae (x_2 rfl rfl rh) (ae (x_2 (x:= .int ((SX ps[k].2 r[k]:Nat):Int)) (aj (ae (x_2 rfl rfl u8) (ae rfl rfl)) (xR.trans ?_)) rfl rfl) rfl)) ((LE (by omega) (by omega) (by omega)).trans ?_)) (λj δ g=>β=g/\∃b,δ=fiS ps r c (.lst ((gro ps r k).map nL)) (on (.sh (.int (r[k]:Int)))) (on (.sh (pN ps[k]))) (on (.own ((((gro ps r k).take i).flatMap λu=>(Pq (SX ps[k].2 r[k]+1-ps[k].1)).map λj=>u++[ps[k].1+j]).map nL++((Pq (SX ps[k].2 r[k]+1-ps[k].1)).take j).map λj=>nL (u++[ps[k].1+j])))) (on (.sh (nL u))) b) ⟨rfl,b,by rw[WF,Rk,Qe];rfl⟩ ?_ ?_)⟩
   ·rw[show SX (ps[k].2:Int) (r[k]:Int)=((SX ps[k].2 r[k]:Nat):Int) by omega]
   ·rw[show((SX ps[k].2 r[k]:Nat)+1-(ps[k].1:Int):Int).toNat=SX ps[k].2 r[k]+1-ps[k].1 by omega]
   ·rintro j d δ _ hd ⟨rfl,b,rfl⟩
    obtain⟨Q,rfl⟩:=Oo hd;have e:(Pq (SX ps[k].2 r[k]+1-ps[k].1))[j]?=on j:=QO Q;refine⟨_,rfl,aq (mW (d:=nL (u++[ps[k].1+j])) rfl (ae (x_2 rfl (aj rfl mo) (O8 (by omega))) rfl) (P7 (show _<50000 by rw[PM,Pa,Pa,RA,P0];omega) (by decide)) (bq ⟨rfl,on (.sh (.int ((ps[k].1+j:Nat):Int))),?_⟩))⟩;rw[j6 e,Qh];show[_,_,_,_,_,_,on (Sl.own (_++_++[_])),_,_]=[_,_,_,_,_,_,on (Sl.own (_++(_++[_]))),_,_];rw[QJ]
   ·rintro δ _ ⟨rfl,b,rfl⟩
    rw[Pa,P0];refine bq ⟨rfl,on (.sh (nL u)),b,?_⟩;rw[j6 H,RC,Qh,Qy,U3,Qe,Pp,R7 (l:=Pq (SX ps[k].2 r[k]+1-ps[k].1)) (by rw[P0];exact Pt _)];rfl
  ·rintro δ _ ⟨rfl,m,b,rfl⟩
   rw[Pa,SC];refine xl (aq (aL (d:= .lst ((gro ps r (k+1)).map nL)) (β1:=β) ?_ (bq ⟨rfl,_,_,_,_,_,rfl⟩)));have R:gro ps r (k+1)=(gro ps r k).flatMap λu=>(Pq (SX ps[k].2 r[k]+1-ps[k].1)).map λi=>u++[ps[k].1+i]:=by
    show Xe _ _=_;rw[d7 B,d7 t]
   rw[R];rfl
 ·rintro δ _ ⟨rfl,C,F,o,m,b,rfl⟩
  rw[Pa,Tw,A,Xl,wR A];have h:=jh (nv:=1) (caps:=[1]) (it:=bZ (af 3)) (tg:=tgC 0) (tt:=fB (f2 (gu) (aA gH (aa (af 0) (ao))) (af 1))) (f:=af 0) (δ:=vwA (fiS ps r c (.lst ((box ps r).map nL)) C F o m b)) (β:=β) (box ps r) nL nL (λv=>decide (v.sum=c)) rfl (λv _=>⟨[on (nL v),on (.int (c:Int))],rfl,x_B (x_2 (aj rfl (qb v)) rfl (eq_int.trans (by rw[decide_eq_decide.mpr (show((v.sum:Nat):Int)=(c:Int)↔v.sum=c by omega)]))),λ_=>rfl⟩) (aW (by rw[←wR A];have:=n r.length (Pt _);omega));refine aq (aU h ⟨rfl,?_⟩);rw[BC A]
theorem DO{r v:List Nat}(h:LeN v r)(b:r.length<=4):(oR K a).1 [nL r,nL v] β=on (.ok (nL (less r v)),β):=by
 unfold oR
 dsimp only
 refine aN (aq (aU ?_ ⟨rfl,rfl⟩));unfold nL;rw[←u3 h];refine bn (r.zip v) (λp=>D.tup [.int (p.1:Int),.int (p.2:Int)]) _ ?_ (λp _=>⟨[on (.int (p.1:Int)),on (.int (p.2:Int))],rfl,rfl⟩) (aW (by rw[Tw];omega));rw[←iM (λx:Nat=>D.int (x:Int)) (λx:Nat=>D.int (x:Int))];refine ph (x:=nL r) (y:=nL v) rfl rfl ?_ ?_
 ·show on _=on _
  rw[Pp];rfl
 ·show on _=on _
  rw[Pp];rfl
theorem K2{r c k n:Nat}{B:List (List (Nat×Nat))}(hB:BOk r c B)(g:r<=4)(i:k<c){δ:Dn}(d:δ.getD 2 Pb=on (bDN B))(e:cSt 1 [n] δ=[Pb,on (.int (k:Int))]):cw 1 [n] (bZ (af 2)) (tgC 0) (λ_=>M.ret Pe) (cEm (f2 ixD (af 0) (af 1))) δ β=on (.ok (.lst ((mG B k).map pN)),β):=by
 have h:=bn (nv:=1) (caps:=[n]) (it:=bZ (af 2)) (tg:=tgC 0) (f:=f2 ixD (af 0) (af 1)) (δ:=δ) (β:=β) B (λrow=>D.lst (row.map pN)) (λrow=>pN (row.getD k (0,0))) (cz (xh d) (by
  show on _=on _;rw[Pp,Pp];exact QN on (P5 λrow _=>QN D.lst (by show QI pD (QI _ row)=_;rw[Pp];rfl)))) (λrow b=>⟨[on (D.lst (row.map pN)),on (.int (k:Int))],by rw[e];rfl,x_2 rfl rfl (bD (by
   have l:=hB.1.2 row b;rw[Pi,d7 (by omega),Pd (by omega)];rfl))⟩) (aW (by rw[hB.1.1];omega))
 refine h.trans ?_;unfold mG;rw[Pp];rfl
theorem Mo{rs:List Nat}(h:rs.sum<=8):mu rs<=40320:=by
 have b:mu rs<=facN rs.sum:=by
  rw[←i5];exact U9 _ (q8 rs)
 exact P3 b (P3 (vq h) (by decide))
noncomputable abbrev eQ(q:List (List Nat)×List Nat):D:= .tup [.lst (q.1.map nL),nL q.2]
abbrev liS(rs cs:List Nat)(B:List (List (Nat×Nat)))(f:D)(b c d e g h:Option Sl):Ds:=[on (.sh (nL rs)),on (.sh (nL cs)),on (.sh (bDN B)),on (.sh f),b,c,d,e,g,h]
abbrev nxQ(W:Wy)(k:Nat)(q:List (List Nat)×List Nat):List (List (List Nat)×List Nat):=(W k q.2).map λv=>(q.1++[v],less q.2 v)
theorem xY{rs cs:List Nat}{B:List (List (Nat×Nat))}(h:Nt0 rs cs)(F:rs.sum<=8)(hB:BOk rs.length cs.length B):(jU K a).1 [nL rs,nL cs,bDN B] β=on (.ok (.lst ((lst (wB B cs) rs cs.length).map λq=> .lst (q.1.map nL))),β):=by
 have c6:=h.c6;obtain⟨Q,H,R,T⟩:=h.nr;have o:=xm B cs;have l:∀k,k<=cs.length->(lst (wB B cs) rs k).length<=40320:=λk m=>P3 (wG o h.sm m) (Mo F);unfold jU
 dsimp only
 refine aN ?_;refine aL (d:= .lst ((lst (wB B cs) rs 0).map eQ)) (β1:=β) (aj (ae (aj (ae (aj rfl DL) (ae (aj rfl rfl) rfl)) fG) rfl) mo) ?_;refine bM (ds:=cQ 0 ((nI cs).map D.int)) (β1:=β) (bx rfl rfl) (λk δ e=>β=e/\∃p r t f g b,δ=liS rs cs B (.lst ((lst (wB B cs) rs k).map eQ)) p r t f g b) ⟨rfl,Pb,Pb,Pb,Pb,Pb,Pb,rfl⟩ ?_ ?_
 ·rintro k d δ _ hd ⟨rfl,p,r,t,f,g,b,rfl⟩
  obtain⟨x,I,rfl⟩:=nR hd;obtain⟨n,hn,rfl⟩:=tQ I;have m:=(Px.mp hn).1;have J:cs.getD k 0=n:=by rw[Pf,hn];rfl
  obtain⟨cl,L⟩:=hB.col m;refine⟨_,rfl,mV (ds:=[]) (β1:=β) rfl (QV _) ?_⟩;have A:∀i,(((lst (wB B cs) rs k).take i).flatMap (nxQ (wB B cs) k)).length<=40320:=λi=>by
   refine P3 ?_ (l (k+1) m);show _<=((lst (wB B cs) rs k).flatMap (nxQ (wB B cs) k)).length
   conv=>rhs;rw[←Sd i (lst (wB B cs) rs k),RC,PM]
   exact SD _ _
  refine bM (ds:=(lst (wB B cs) rs k).map eQ) (β1:=β) rfl (λi δ e=>β=e/\∃f g b,δ=liS rs cs B (.lst ((lst (wB B cs) rs k).map eQ)) (on (.sh (.int (k:Int)))) (on (.sh (.int (n:Int)))) (on (.own ((((lst (wB B cs) rs k).take i).flatMap (nxQ (wB B cs) k)).map eQ))) f g b) ⟨rfl,f,g,b,rfl⟩ ?_ ?_
  ·rintro i d δ _ hd ⟨rfl,f,g,b,rfl⟩
   obtain⟨q,u,rfl⟩:=bJ hd;have hm:=PU u;obtain⟨q1,q2,q3⟩:=uZ o h.sm k (by omega) q hm;have N:=q1.len;have sq:=q1.sum;have U:=q1.pr;have O:Nrw q.2:=⟨by omega,by omega,by omega,by omega⟩;have X:(wB B cs k q.2).length<=40320:=by
    have:=A (i+1);rw[j6 u,RC,Qy,U3,Qe,PM,Pa]at this;omega
   refine⟨_,rfl,aq (bM (ds:=(wB B cs k q.2).map nL) (β1:=β) (cz (am (ae rfl (ae rfl (ae (K2 hB H m rfl rfl) rfl))) (Kz (c:=n) O (by rw[cl,N]) L)) (by unfold wB;rw[J];rfl)) (λj δ e=>β=e/\∃b,δ=liS rs cs B (.lst ((lst (wB B cs) rs k).map eQ)) (on (.sh (.int (k:Int)))) (on (.sh (.int (n:Int)))) (on (.own ((((lst (wB B cs) rs k).take i).flatMap (nxQ (wB B cs) k)).map eQ++((wB B cs k q.2).take j).map λv=>eQ (q.1++[v],less q.2 v)))) (on (.sh (.lst (q.1.map nL)))) (on (.sh (nL q.2))) b) ⟨rfl,b,by rw[WF,Rk,Qe];rfl⟩ ?_ ?_)⟩
   ·rintro j d δ _ hd ⟨rfl,b,rfl⟩
    obtain⟨v,C,rfl⟩:=bJ hd;have y:=(o k q.2).subset (PU C);have Y:=A i;refine⟨_,rfl,aq (mW (d:=eQ (q.1++[v],less q.2 v)) rfl (ae (aj (ae (x_2 rfl (aj rfl mo) ((n9 (by rw[Pa,QC];omega)).trans ?_)) (ae (am rfl (DO (cK y) (by omega))) rfl)) fG) rfl) (P7 (show _<100000 by rw[PM,Pa,Pa,RA];omega) (by decide)) (bq ⟨rfl,on (.sh (nL v)),?_⟩))⟩
    ·rw[Qh];rfl
    ·rw[j6 C,Qh]
     show[_,_,_,_,_,_,on (Sl.own (_++_++[_])),_,_,_]=[_,_,_,_,_,_,on (Sl.own (_++(_++[_]))),_,_,_];rw[QJ]
   ·rintro δ _ ⟨rfl,b,rfl⟩
    rw[Pa,SC];refine bq ⟨rfl,on (.sh (.lst (q.1.map nL))),on (.sh (nL q.2)),b,?_⟩;rw[j6 u,RC,Qh,Qy,U3,Qe,Pp];rfl
  ·rintro δ _ ⟨rfl,f,g,b,rfl⟩
   rw[Pa,SC];exact xl (aq (aL (d:= .lst ((lst (wB B cs) rs (k+1)).map eQ)) (β1:=β) rfl (bq ⟨rfl,_,_,_,_,_,_,rfl⟩)))
 ·rintro δ _ ⟨rfl,p,r,t,f,g,b,rfl⟩
  rw[jI,Pa,Pa];exact aq (aU (bn (lst (wB B cs) rs cs.length) eQ (λq=> .lst (q.1.map nL)) rfl (λq _=>⟨[on (.lst (q.1.map nL)),on (nL q.2)],rfl,rfl⟩) (P3 (l _ (Pt _)) (by decide))) ⟨rfl,rfl⟩)
theorem sO{rows:List (List D)}(h:rows.length<=1000):(kY K a).1 [lG rows] β=on (.ok (lG rows),β):=
 aN (aq (aU (bn rows D.lst D.lst rfl (λx _=>⟨_,rfl,rfl⟩) (aW h)) ⟨rfl,rfl⟩))
theorem zY{r c:Nat}(d:r<=1000)(e:c<=1000):mn K a [.int (r:Int),.int (c:Int)] β=on (.ok (gP (nK r c)),β):=by
 have b:∀x:Nat,gr 1 [] (bN fJ (aa (af 1) (ao))) (tgC 0) (λ_=>M.ret Pe) (cEm (aA cu (aa (fC (.int 0)) (aa (fC (.int 40)) (ao))))) [on (.int (0+(x:Int))),on (.int (c:Int))] β=on (.ok ((PR c ((0:Int),(40:Int))).map pD),β):=λx=>by
  have h:=sQ (nv:=1) (caps:=[]) (it:=bN fJ (aa (af 1) (ao))) (tg:=tgC 0) (f:=aA cu (aa (fC (.int 0)) (aa (fC (.int 40)) (ao)))) (δ:=[on (.int (0+(x:Int))),on (.int (c:Int))]) (β:=β) (Pq c) (λi=>D.int (0+(i:Int))) (λ_=>pD (0,40))
   (bx rfl (rg1 (by omega) (by omega))) (λx _=>⟨_,rfl,aj rfl fG⟩) (aW (by rw[P0];omega))
  rw[jD]at h;rw[SH];exact h
 have h:=mF (nv:=1) (caps:=[1]) (it:=bN fJ (aa (af 0) (ao))) (tg:=tgC 0) (f:=gr 1 [] (bN fJ (aa (af 1) (ao))) (tgC 0) (λ_=>M.ret Pe) (cEm (aA cu (aa (fC (.int 0)) (aa (fC (.int 40)) (ao)))))) (δ:=[on (.int (r:Int)),on (.int (c:Int))]) (β:=β) (Pq r) (λi=>D.int (0+(i:Int))) (λ_=>(PR c ((0:Int),(40:Int))).map pD)
  (bx rfl (rg1 (by omega) (by omega))) (λx _=>⟨_,rfl,b x⟩) (aW (by rw[P0];omega))
 rw[jD]at h;refine rQ (aq (qK h ⟨rfl,?_⟩));show gP (nK r c)=_;show QI _ _=_;rw[SH]
abbrev bdS(rows:LI)(b:LP)(c d e f g:Option Sl):Ds:=[on (.sh .bag),on (.sh (gridD rows)),on (.grd (gP b)),c,d,e,f,g]
def BdI(r c:Nat)(rows:LI)(d e:Option Sl)(δ:Ds)(β:Bg):Prop:=β.ok/\∃(b:LP) (f g h:Option Sl),δ=bdS rows b d e f g h/\Bnd r c b/\Kp rows b
theorem xZ{r c:Nat}{rows:LI}(t:Tab r c rows)(ok:β.ok):∃(b:LP) (f:Bg),(iB K a).1 [.bag,gridD rows] β=on (.ok (dL b),f)/\Bnd r c b/\Kp rows b/\f.ok:=by
 suffices h:∃g f,(iB K a).1 [.bag,gridD rows] β=on (g,f)/\(∃(b:LP),g= .ok (dL b)/\Bnd r c b/\Kp rows b/\f.ok) by
  obtain⟨g,f,e,b,rfl,h1,h2⟩:=h;exact⟨b,f,e,h1,h2⟩
 have r1:=t.r1;have c1:=t.c1;have c0:=t.c0;have r0:=t.r0;obtain⟨F,H,I⟩:=t.shp.at (i:=0) (by omega);have hr0:(gI rows)[0]?=on (F.map D.int):=by rw[Pi,H];rfl
 unfold iB
 dsimp only
 refine mK ?_;refine xk (β1:=β) (qI (as:=[.int (r:Int),.int (c:Int)]) (β1:=β) (ae (aj rfl (zZ (by rw[Pa,t.shp.1]))) (ae (aj (ae (x:= .lst (F.map D.int)) (x_2 rfl rfl (tX hr0)) rfl) (c5 (by rw[Pa,I]))) rfl)) (zY (by omega) (by omega))) (Mg _) ?_;obtain⟨w0,β1,p1,a0,a1,R⟩:=bP ok (lot:=3) (by decide) (by decide);refine lN (c:=decide (w0=0)) (β1:=β1) (x_B (x_2 (am rfl p1) rfl eq_int)) ?_;by_cases hw:w0=0
 ·rw[Ps (by simpa using hw)]
  exact aU rfl ⟨_,rfl,Bnd.free r c,Kp.free t,R⟩
 rw[Po (by simpa using hw)];refine bL ?_;refine bM (ds:=cQ 0 ((gI rows).map D.lst)) (β1:=β1) rfl (λ_ δ β=>∃s3 s4,BdI r c rows s3 s4 δ β) ⟨Pb,Pb,R,nK r c,Pb,Pb,Pb,rfl,Bnd.free r c,Kp.free t⟩ ?_ ?_
 ·rintro i d δ β2 hd ⟨s3,s4,J,b,Y,Z,T,rfl,o,B⟩
  obtain⟨x,hx,rfl⟩:=nR hd;obtain⟨y,hy,rfl⟩:=bJ hx;obtain⟨row,m,rfl⟩:=bJ hy;have hi:i<r:=by rw[←t.shp.1];exact(Px.mp m).1
  have U:row.length=c:=t.shp.2 row (PU m);refine⟨bdS rows b (on (.sh (.int i))) (on (.sh (.lst (row.map D.int)))) Y Z T,rfl,aq ?_⟩;refine bM (ds:=cQ 0 (row.map D.int)) (β1:=β2) rfl (λ_=>BdI r c rows (on (.sh (.int i))) (on (.sh (.lst (row.map D.int))))) ⟨J,b,Y,Z,T,rfl,o,B⟩ ?_ (λδ β h=>bq ⟨_,_,h⟩);rintro j d δ β3 hd ⟨ok3,b,Y,Z,T,rfl,o,B⟩;obtain⟨x,hx,rfl⟩:=nR hd;obtain⟨n,hn,rfl⟩:=bJ hx;have hj:j<c:=by rw[←U];exact(Px.mp hn).1
  have hn40:=t.le40 row (PU m) n (PU hn);obtain⟨q,l,L⟩:=o.shp.at hi;refine⟨bdS rows b (on (.sh (.int i))) (on (.sh (.lst (row.map D.int)))) (on (.sh (.int j))) (on (.sh (.int n))) T,rfl,?_⟩;obtain⟨w,A,p4,w0,w1,N⟩:=bP ok3 (lot:=4) (by decide) (by decide);refine aL (d:= .int w) (β1:=A) (am rfl p4) ?_
  have put:∀(p:Int×Int) (δ:Ds),PairOk p->p.1<=n->n<=p.2->∀{β5:Bg} {fv:FD} {h:G} {Q:Out->Bg->Prop},fv (vwA (bdS rows b (on (.sh (.int i))) (on (.sh (.lst (row.map D.int)))) (on (.sh (.int j))) (on (.sh (.int n))) (on (.sh (.int w))))) A=on (.ok (pD p),β5)->
    (∀b,Bnd r c b->Kp rows b->Gw h (bdS rows b (on (.sh (.int i))) (on (.sh (.lst (row.map D.int)))) (on (.sh (.int j))) (on (.sh (.int n))) (on (.sh (.int w)))) β5 Q)->
    Gw (aJ (qr 2 (af 3) (af 5) fv) h) (bdS rows b (on (.sh (.int i))) (on (.sh (.lst (row.map D.int)))) (on (.sh (.int j))) (on (.sh (.int n))) (on (.sh (.int w)))) A Q:=λp δ hp h1 h2 β5 fv h Q e k=>by
   refine xj (d:=pD p) (rows:=gP b) (ds:=q.map pD) (ka:=i) (kb:=j) (ja:=i) (jb:=j) e rfl rfl rfl ?_ ?_ ?_ rfl ?_
   ·rw[Pa,o.shp.1];exact jd (by omega) (by omega)
   ·rw[Pi,l];rfl
   ·rw[Pa,L];exact jd (by omega) (by omega)
   ·have X:(gP b).set i ((q.map pD).set j (pD p))=gP (b.set i (q.set j p)):=by
     show _=QI _ _;rw[Ur,Ur]
    rw[X];exact k _ (o.set l hp) (B.set l (mM m hn) h1 h2)
  refine lN (c:=decide (w=0)) (β1:=A) (x_B (x_2 rfl rfl eq_int)) ?_;by_cases q0:w=0
  ·rw[Ps (by simpa using q0)]
   obtain⟨u,β5,p5,u0,u1,ok5⟩:=bP N (lot:=n+1) (by omega) (by omega);obtain⟨v,C,p6,v0,v1,O⟩:=bP ok5 (lot:=3) (by decide) (by decide);refine put (n-u,SX 40 (n+v)) [] ⟨by show 0<=n-u;omega,by show n-u<=SX 40 (n+v);omega,by show SX 40 (n+v)<=40;omega⟩ (by show n-u<=n;omega) (by show n<=SX 40 (n+v);omega) (β5:=C) ?_ λb o B=>?_
   ·exact aj (ae (x_2 rfl (am (ae rfl (ae (x_2 rfl rfl rfl) rfl)) p5) rfl) (ae (aj (ae rfl (ae (x_2 rfl (am rfl p6) rfl) rfl)) xR) rfl)) fG
   ·refine aq (iu (β1:=C) ?_ (bL (bq ⟨O,b,_,_,_,rfl,o,B⟩)))
    rw[show(Pj:Bool)=decide (w=1) by rw[q0];rfl];exact x_B (x_2 rfl rfl eq_int)
  ·rw[Po (by simpa using q0)]
   refine bL (aq (lN (c:=decide (w=1)) (β1:=A) (x_B (x_2 rfl rfl eq_int)) ?_));by_cases q1:w=1
   ·rw[Ps (by simpa using q1)]
    obtain⟨v,C,p6,v0,v1,O⟩:=bP N (lot:=3) (by decide) (by decide);refine put (0,Yz n v) [] ⟨by show(0:Int)<=0;omega,by show 0<=Yz n v;omega,by show Yz n v<=40;omega⟩ (by show 0<=n;omega) (by show n<=Yz n v;omega) (β5:=C) ?_ λb o B=>bq ⟨O,b,_,_,_,rfl,o,B⟩;exact aj (ae rfl (ae (aj (ae rfl (ae (am rfl p6) rfl)) Mq) rfl)) fG
   ·rw[Po (by simpa using q1)]
    exact bL (bq ⟨N,b,_,_,_,rfl,o,B⟩)
 ·rintro δ β2 ⟨s3,s4,J,b,Y,Z,T,rfl,o,B⟩
  exact aq (aU rfl ⟨b,rfl,o,B,J⟩)
theorem pp:∀{xs:List Int},(∀x∈xs,0<=x)->∃l:List Nat,xs=nI l
 |[],_=>⟨[],rfl⟩
 |x::xs,h=>by
  obtain⟨l,e⟩:=pp λy b=>h y (Pg _ b);have:=h x Pn;exact⟨x.toNat::l,by rw[e];show _=((x.toNat:Nat):Int)::_;rw[Int.toNat_of_nonneg this]⟩
abbrev gdS(r c t:Nat)(rows:LI)(b d e:Option Sl):Ds:=[on (.sh .bag),on (.sh (.int (r:Int))),on (.sh (.int (c:Int))),on (.sh (.int (t:Int))),on (.grd (gI rows)),b,d,e]
theorem nG{r c t:Nat}(ok:β.ok)(r0:1<=r)(r1:r<=4)(c1:1<=c)(c6:c<=6)(F:t<=40):∃(rows:LI) (j:Bg),(kX K a).1 [.bag,.int (r:Int),.int (c:Int),.int (t:Int)] β=on (.ok (gridD rows),j)/\(Tab r c rows/\tot rows=(t:Int))/\j.ok:=by
 suffices h:∃g j,(kX K a).1 [.bag,.int (r:Int),.int (c:Int),.int (t:Int)] β=on (g,j)/\(∃(rows:LI),g= .ok (gridD rows)/\(Tab r c rows/\tot rows=(t:Int))/\j.ok) by
  obtain⟨g,j,e,rows,rfl,H,I⟩:=h;exact⟨rows,j,e,H,I⟩
 unfold kX
 dsimp only
 refine mK ?_;refine xk (rows:=(Pq r).map λ_=>PR c (D.int 0)) (β1:=β) (mF (Pq r) (λi=>D.int (0+(i:Int))) _ (bx (ds:=bc 0 r) rfl (rg1 (by omega) (by omega))) (λx _=>⟨_,rfl,OA (x:= .int 0) (c:=c) rfl rfl (by omega)⟩) (aW (by rw[P0];omega))) ?_ ?_
 ·rw[Sz]
  intro x k;obtain⟨_,_,rfl⟩:=PD.mp k;rw[←SH (f:=D.int)];exact mj _
 have J:(Pq r).map (λ_=>PR c (D.int 0))=gI (PR r (PR c 0)):=by
  show _=QI _ _;rw[SH,List.map_const',SH,P0]
 rw[J];refine bM (ds:=bc 0 t) (β1:=β) (bx rfl (rg1 (by omega) (by omega))) (λi δ β=>β.ok/\∃rows p q y,δ=gdS r c t rows p q y/\Shp r c rows/\(∀row∈rows,∀x∈row,0<=x)/\tot rows=(i:Int)) ⟨ok,PR r (PR c 0),Pb,Pb,Pb,rfl,⟨by simp,λrow h=>?_⟩,λrow h x k=>?_,?_⟩ ?_ ?_
 ·rw[(RJ.mp h).2];simp
 ·rw[(RJ.mp h).2]at k
  rw[(RJ.mp k).2];exact XW _
 ·unfold tot
  rw[SH];have z:∀n:Nat,(PR n (0:Int)).sum=0:=λn=>by
   induction n with
   |zero=>rfl
   |succ n ih=>rw[Qm,P8,ih];rfl
  rw[z,z];rfl
 ·rintro i d δ j hd ⟨m,rows,p,q,y,rfl,sh,nn,F⟩
  obtain⟨v,β1,L,O,Q,A⟩:=bP m (lot:=(r:Int)) (by omega) (by omega);obtain⟨u,β2,N,R,T,B⟩:=bP A (lot:=(c:Int)) (by omega) (by omega);obtain⟨v,rfl⟩:∃n:Nat,v=(n:Int):=⟨v.toNat,by omega⟩;obtain⟨u,rfl⟩:∃n:Nat,u=(n:Int):=⟨u.toNat,by omega⟩;obtain⟨row,b,o⟩:=sh.at (i:=v) (by omega);obtain⟨x,k⟩:=IX (l:=row) (i:=u) (by omega);refine⟨_,rfl,aL (am rfl L) (aL (am rfl N) (aq (xj (d:= .int (x+1)) (β1:=β2) (β2:=β2) (β3:=β2) (rows:=gI rows) (ds:=row.map D.int) (ka:=v) (kb:=u) (ja:=v) (jb:=u) (x_2 (x_2 (x_2 rfl rfl (tX (row:=row.map D.int) ?_)) rfl (bD (d:= .int x) ?_)) rfl rfl) rfl rfl rfl ?_ ?_ ?_ rfl (bq ⟨B,rows.set v (row.set u (x+1)),on (.sh d),on (.sh (.int (v:Int))),on (.sh (.int (u:Int))),?_,sh.set b,Mh nn b ?_,?_⟩))))⟩
  ·rw[Pi,b];rfl
  ·rw[Pi,k];rfl
  ·rw[Pa,sh.1];exact jd (by omega) (by omega)
  ·rw[Pi,b];rfl
  ·rw[Pa,o];exact jd (by omega) (by omega)
  ·show[_,_,_,_,on (Sl.grd ((gI rows).set v ((row.map D.int).set u (.int (x+1))))),_,_,_]=_
   rw[show(gI rows).set v ((row.map D.int).set u (.int (x+1)))=gI (rows.set v (row.set u (x+1))) by show _=QI _ _;rw[Ur,Ur]]
  ·have:=nn row (PU b) x (PU k)
   omega
  ·have:=JL (v:=x+1) b k
   omega
 ·rintro δ j ⟨m,rows,p,q,y,rfl,sh,nn,C⟩
  rw[pS]at C;exact aq (aU rfl ⟨rows,rfl,⟨⟨sh,nn,by omega,r0,r1,c1,c6⟩,C⟩,m⟩)
def Sml(r c:Nat)(rows:LI):Prop:=Tab r c rows/\tot rows<=7
theorem CD(ok:β.ok):∃(rows:LI) (r c:Nat) (b:Bg),(jA K a).1 [.bag] β=on (.ok (gridD rows),b)/\Sml r c rows/\b.ok:=by
 suffices h:∃g b,(jA K a).1 [.bag] β=on (g,b)/\(∃(rows:LI) (r c:Nat),g= .ok (gridD rows)/\Sml r c rows/\b.ok) by
  obtain⟨g,b,e,rows,r,c,rfl,u,v⟩:=h;exact⟨rows,r,c,b,e,u,v⟩
 unfold jA
 dsimp only
 refine mK ?_;have p:∀(k n:Nat),lD (.int (k:Int)) (.int (n:Int))=on (.int ((k+n:Nat):Int)):=λk n=>by show on (D.int _)=_;rw[Vn]
 obtain⟨y,β1,A,C,a1,j⟩:=bP ok (lot:=8) (by decide) (by decide);refine aL (am rfl A) ?_;refine lN (β1:=β1) (x_B (x_2 rfl rfl eq_int)) ?_;by_cases q1:y=0
 ·rw[Ps (PX q1)]
  obtain⟨t,β2,l,b0,b1,d⟩:=bP j (lot:=5) (by decide) (by decide);obtain⟨t,rfl⟩:∃n:Nat,t=(n:Int):=⟨t.toNat,by omega⟩;obtain⟨rows,β3,e,g,f⟩:=nG (K:=K) (a:=a) (r:=4) (c:=6) (t:=t) d (by decide) (by decide) (by decide) (by decide) (by omega);exact aU (am (ae rfl (ae rfl (ae rfl (ae (am rfl l) rfl)))) e) ⟨rows,4,6,rfl,⟨g.1,by omega⟩,f⟩
 rw[Po (by simp[q1])];refine bL ?_;refine lN (β1:=β1) (x_B (x_2 rfl rfl eq_int)) ?_;by_cases q2:y=1
 ·rw[Ps (PX q2)]
  obtain⟨c,β2,l,b0,b1,d⟩:=bP j (lot:=6) (by decide) (by decide);obtain⟨t,β3,m,c0,c1,f⟩:=bP d (lot:=8) (by decide) (by decide);obtain⟨c,rfl⟩:∃n:Nat,c=(n:Int):=⟨c.toNat,by omega⟩;obtain⟨t,rfl⟩:∃n:Nat,t=(n:Int):=⟨t.toNat,by omega⟩;obtain⟨rows,o,e,g,i⟩:=nG (K:=K) (a:=a) (r:=1) (c:=1+c) (t:=t) f (by decide) (by decide) (by omega) (by omega) (by omega);exact aU (am (ae rfl (ae rfl (ae (x_2 rfl (am rfl l) (p 1 c)) (ae (am rfl m) rfl)))) e) ⟨rows,1,1+c,rfl,⟨g.1,by omega⟩,i⟩
 rw[Po (by simp[q2])];refine bL ?_;refine lN (β1:=β1) (x_B (x_2 rfl rfl eq_int)) ?_;by_cases q3:y=2
 ·rw[Ps (PX q3)]
  obtain⟨c,β2,l,b0,b1,d⟩:=bP j (lot:=4) (by decide) (by decide);obtain⟨t,β3,m,c0,c1,f⟩:=bP d (lot:=8) (by decide) (by decide);obtain⟨c,rfl⟩:∃n:Nat,c=(n:Int):=⟨c.toNat,by omega⟩;obtain⟨t,rfl⟩:∃n:Nat,t=(n:Int):=⟨t.toNat,by omega⟩;obtain⟨rows,o,e,g,i⟩:=nG (K:=K) (a:=a) (r:=1+c) (c:=1) (t:=t) f (by omega) (by omega) (by decide) (by decide) (by omega);exact aU (am (ae rfl (ae (x_2 rfl (am rfl l) (p 1 c)) (ae rfl (ae (am rfl m) rfl)))) e) ⟨rows,1+c,1,rfl,⟨g.1,by omega⟩,i⟩
 rw[Po (by simp[q3])];refine bL ?_;obtain⟨r,β2,l,b0,b1,d⟩:=bP j (lot:=2) (by decide) (by decide);obtain⟨c,β3,m,c0,c1,f⟩:=bP d (lot:=3) (by decide) (by decide);obtain⟨t,o,B,F,d1,i⟩:=bP f (lot:=8) (by decide) (by decide);obtain⟨r,rfl⟩:∃n:Nat,r=(n:Int):=⟨r.toNat,by omega⟩;obtain⟨c,rfl⟩:∃n:Nat,c=(n:Int):=⟨c.toNat,by omega⟩;obtain⟨t,rfl⟩:∃n:Nat,t=(n:Int):=⟨t.toNat,by omega⟩;obtain⟨rows,β5,e,g,q⟩:=nG (K:=K) (a:=a) (r:=2+r) (c:=2+c) (t:=t) i (by omega) (by omega) (by omega) (by omega) (by omega);refine aL (x_2 rfl (am rfl l) (p 2 r)) (aL (x_2 rfl (am rfl m) (p 2 c)) ?_);exact aq (aU (am (ae rfl (ae rfl (ae rfl (ae (am rfl B) rfl)))) e) ⟨rows,2+r,2+c,rfl,⟨g.1,by omega⟩,q⟩)
theorem few1:∀x<9,(x+1)*1<=500/\1<63:=by decide
theorem few2:∀x<9,∀y<9-x,(x+1)*((y+1)*1)<=500/\(x+1)*1<63:=by decide
theorem few3:∀x<9,∀y<9-x,∀z<9-x-y,(x+1)*((y+1)*((z+1)*1))<=500/\(x+1)*((y+1)*1)<63:=by decide
theorem few4:∀x<9,∀y<9-x,∀z<9-x-y,∀w<9-x-y-z,(x+1)*((y+1)*((z+1)*((w+1)*1)))<=500/\(x+1)*((y+1)*((z+1)*1))<63:=by decide
theorem few:∀{rs:List Nat},1<=rs.length->rs.length<=4->rs.sum<=8->Nrw rs/\pr (rs.dropLast.map (·+1))<63
 |[x],_,l,h=>by
  have q:=few1 x (by simp at h;omega);exact⟨⟨by show 1<=1;decide,l,by omega,q.1⟩,q.2⟩
 |[x,y],_,l,h=>by
  have q:=few2 x (by simp at h;omega) y (by simp at h;omega);exact⟨⟨by show 1<=2;decide,l,by omega,q.1⟩,q.2⟩
 |[x,y,z],_,l,h=>by
  have q:=few3 x (by simp at h;omega) y (by simp at h;omega) z (by simp at h;omega);exact⟨⟨by show 1<=3;decide,l,by omega,q.1⟩,q.2⟩
 |[x,y,z,w],_,l,h=>by
  have q:=few4 x (by simp at h;omega) y (by simp at h;omega) z (by simp at h;omega) w (by simp at h;omega);exact⟨⟨by show 1<=4;decide,l,by omega,q.1⟩,q.2⟩
 |[],h,_,_=>by simp at h
 |_::_::_::_::_::_,_,h,_=>by simp at h
theorem toB{r c:Nat}{b:LP}(h:Bnd r c b):∃B,b=gN B/\BOk r c B:=by
 have e:b=gN (b.map λrow=>row.map λp=>(p.1.toNat,p.2.toNat)):=by
  unfold gN;rw[Pp];refine(Vv b).symm.trans (P5 λrow g=>?_);show row=QI _ (QI _ row);rw[Pp];refine(Vv row).symm.trans (P5 λp i=>?_);obtain⟨a1,a2,a3⟩:=h.ok row g p i;exact Tt (show p.1=((p.1.toNat:Nat):Int) by omega) (show p.2=((p.2.toNat:Nat):Int) by omega)
 refine⟨_,e,h.shp.map,λrow g p i=>?_⟩;obtain⟨d,j,rfl⟩:=PD.mp g;obtain⟨f,k,rfl⟩:=PD.mp i;obtain⟨a1,a2,a3⟩:=h.ok d j f k;show f.1.toNat<=f.2.toNat/\f.2.toNat<=40;omega
theorem Lr{r c:Nat}{rows:LI}{b:LP}(s:Sml r c rows)(k:Bnd r c b)(kp:Kp rows b):∃B rs cs,b=gN B/\NtB rows B rs cs/\rs.length=r/\cs.length=c/\rs.sum<=8:=by
 obtain⟨t,l⟩:=s;obtain⟨B,rfl,ok⟩:=toB k;obtain⟨rs,e⟩:=pp (xs:=rows.map Ri) λx f=>by
  obtain⟨row,g,rfl⟩:=PD.mp f;exact lV (t.nn row g)
 obtain⟨cs,i⟩:=pp (xs:=(tp c rows).map Ri) λx f=>by
  obtain⟨row,g,rfl⟩:=PD.mp f;exact lV (HM t.nn row g)
 have m:rs.length=r:=by rw[←t.shp.1,←Pa (as:=rows) Ri,e,Pa]
 have n:cs.length=c:=by rw[←(j5 (d:=(0:Int)) (c:=c) t.shp.1).1,←Pa (as:=tpA 0 c rows) Ri];exact(QN Vu i).symm▸(Pa _).symm
 have j:rs.sum<=8:=by
  have h:(rows.map Ri).sum<=7:=l;rw[e,gW]at h;omega
 have o:rs.sum=cs.sum:=by
  have h:tot (tp c rows)=tot rows:=yF t.shp.2;unfold tot at h;rw[i,e,gW,gW]at h;omega
 have r0:=t.r0;have r1:=t.r1;have c0:=t.c0;have c1:=t.c1;obtain⟨q1,q2⟩:=few (rs:=rs) (by omega) (by omega) j;subst m n;exact⟨B,rs,cs,rfl,⟨⟨q1,q2,o,c0,c1⟩,t.shp,e,i,ok,kp⟩,rfl,rfl,j⟩
theorem Kx{rows:LI}{B:List (List (Nat×Nat))}{rs cs:List Nat}(h:NtB rows B rs cs):(qV K a).1 [gridD rows,bDN B] β=on (.ok (Ml a B rs cs),β):=by
 obtain⟨e,g,_,_⟩:=h.nr;have c6:=h.c6;have b:=pR (K:=K) (a:=a) (β:=β) (rows:=rows) (by rw[h.shp.1];omega);have c:=lM (K:=K) (a:=a) (β:=β) h.shp e (by omega) (by omega);rw[h.rw1]at b;rw[h.cl1]at c;have f:=sO (K:=K) (a:=a) (β:=β) (rows:=gP (gN B)) (by rw[Pa,(jN h.bok.1).1];omega);unfold qV
 dsimp only
 refine aN (aq (aU (d:=Ml a B rs cs) (β1:=β) ?_ ⟨rfl,rfl⟩));unfold AO;rw[M.bind_ok (ae (am rfl b) (ae (am rfl c) rfl)),M.bind_ok (ae (am rfl f) rfl)];exact(M.bind_ok (Mj h)).trans rfl
variable{n:Nat}{vs:List (List Nat)}
abbrev csC(vs:List (List Nat)):List Nat:=vs.map Ri
abbrev rwC(n:Nat)(vs:List (List Nat)):LI:=tp n (vs.map nI)
theorem IB(v:List Nat)(j:Nat):(nI v).getD j 0=((v.getD j 0:Nat):Int):=by
 rw[Pf,Pf,Pi];cases v[j]?<;>rfl
theorem CK(c:∀v∈vs,v.length=n):(rwC n vs).map Ri=nI (rsm n vs):=by
 have e:rsm n vs=(Pq n).map λj=>(rsm n vs).getD j 0:=RH (by rw[m6 c,Pa,P0]) λi d f=>by
  rw[SB,SG,d7 d]
 rw[e];unfold rwC tp tpA;show QI _ (QI _ _)=QI _ (QI _ _);rw[Pp,Pp];refine P5 λj b=>?_;have b:=PY.mp b;show((vs.map nI).map λrow=>row.getD j 0).sum=(((rsm n vs).getD j 0:Nat):Int);rw[y8 c b,←gW,Pp];show _=(QI _ (QI _ _)).sum;rw[Pp];exact QN Ri (P5 λv _=>IB v j)
theorem shpC(b:∀v∈vs,v.length=n):Shp vs.length n (vs.map nI):=⟨Pa _,λrow c=>by
 obtain⟨v,d,rfl⟩:=PD.mp c;rw[Pa];exact b v d⟩
theorem OD(vs:List (List Nat)):(vs.map nI).map Ri=nI (csC vs):=by
 show _=QI _ (QI _ _);rw[Pp,Pp];exact P5 λv _=>gW v
theorem Ly{i:Nat}(b:i<n):(rwC n vs)[i]?=on (nI (vs.map λv=>v.getD i 0)):=by
 rw[Le b];congr 1;show _=QI _ (QI _ _);rw[Pp,Pp];exact P5 λv _=>IB v i
theorem JZ(n:Nat):e8 K a n=fW n:=by
 induction n with
 |zero=>rfl
 |succ n ih=>
  show dj 2 (o4 K a (e8 K a n))=dj 2 (jG (fW n));rw[ih];rfl
theorem HU{d:D}(h:okD 4 d):e8 K a 5 [d,d] β=on (.ok (.bl Pe),β):=by
 rw[JZ];exact qS 4 d β h
theorem okG{r c:Nat}{rows:LI}(h:Shp r c rows)(b:r<=1000)(d:c<=1000):okD 4 (gridD rows):=⟨aW (by rw[Pa,Pa,h.1];exact b),λx e=>by
 obtain⟨y,f,rfl⟩:=PD.mp e;obtain⟨row,g,rfl⟩:=PD.mp f;refine⟨aW (by rw[Pa,h.2 row g];exact d),λz j=>?_⟩;obtain⟨i,_,rfl⟩:=PD.mp j;trivial⟩
abbrev cD(vs:List (List Nat)):D:= .lst (vs.map nL)
theorem cD_e(vs:List (List Nat)):cD vs=gridD (vs.map nI):=by
 show D.lst _=D.lst (QI _ (QI _ (QI _ _)));rw[Pp,Pp];rfl
theorem KD{rows:LI}{B:List (List (Nat×Nat))}{rs cs:List Nat}(h:NtB rows B rs cs)(d:rs.sum<=8):(qX K a).1 [gridD rows,bDN B] β=on (.ok (.lst ((pth (wB B cs) cs.length 0 rs).map cD)),β):=by
 have r1:=h.nr.1;have e:=h.nr.2.1;have c6:=h.c6;have b:=pR (K:=K) (a:=a) (β:=β) (rows:=rows) (by rw[h.shp.1];omega);have c:=lM (K:=K) (a:=a) (β:=β) h.shp r1 (by omega) (by omega);rw[h.rw1]at b;rw[h.cl1]at c;unfold qX
 dsimp only
 refine aN (aq (aU (am (ae (am rfl b) (ae (am rfl c) (ae rfl rfl))) (xY h.toNt0 d h.bok)) ⟨rfl,?_⟩));rw[←IE,Pp];rfl
theorem zy:∀{ps:List (Nat×Nat)} {v:List Nat},(∀(i:Nat) (p:Nat×Nat) (x:Nat),ps[i]?=on p->v[i]?=on x->p.1<=x/\x<=p.2)->okB ps v=Pe
 |[],_,_=>by unfold okB;rfl
 |_::_,[],_=>by unfold okB;rfl
 |p::ps,x::v,h=>by
  have:=h 0 p x rfl rfl;show(decide (p.1<=x)&&decide (x<=p.2)&&okB ps v)=Pe;rw[zy λi p x b c=>h (i+1) p x b c,PX this.1,PX this.2];rfl
theorem v5:∀{xs:LI},(∀row∈xs,∀x∈row,0<=x)->∃l:List (List Nat),xs=l.map nI
 |[],_=>⟨[],rfl⟩
 |x::xs,h=>by
  obtain⟨l,e⟩:=v5 λy b=>h y (Pg _ b);obtain⟨m,c⟩:=pp (h x Pn);exact⟨m::l,by rw[e,c];rfl⟩
theorem NtB.pos{rows:LI}{B:List (List (Nat×Nat))}{rs cs:List Nat}(h:NtB rows B rs cs)(nn:∀row∈rows,∀x∈row,0<=x):0<tbW (wB B cs) cs.length 0 rs:=by
 obtain⟨vs,e⟩:=v5 (HM (c:=cs.length) nn);have sh:=j5 (d:=(0:Int)) (c:=cs.length) h.shp.1;have t:vs.length=cs.length:=by rw[←Pa (f:=nI),←e];exact sh.1
 have k:∀v∈vs,v.length=rs.length:=λv g=>by
  rw[←Pa (f:=λ(i:Nat)=>(i:Int))];refine sh.2 (nI v) ?_;show nI v∈tp cs.length rows;rw[e];exact PD.mpr ⟨v,g,rfl⟩
 have l:rows=rwC rs.length vs:=by rw[←HL h.shp,e]
 have es:rs=rsm rs.length vs:=gX (by rw[←CK k,←l,h.rw1]);have u:cs=csC vs:=gX (by rw[←OD,←e,h.cl1]);refine uj (vs:=vs) ?_ t;rw[es];refine HI k λi r v g le=>?_;rw[Q4];have A:=(Px.mp g).1;refine R1.mpr ⟨?_,zy λj p x m o=>?_⟩
 ·have q:cs.getD i 0=v.sum:=by rw[u,Pf,Pi,g];rfl
  rw[q];exact lf le
 ·unfold mG at m
  obtain⟨row,b,rfl⟩:=bJ m;have C:=h.bok.1.2 row (PU b);have y:j<rs.length:=by rw[←k v (PU g)];exact(Px.mp o).1
  have a1:at2 rows j i=on (x:Int):=mM (by rw[l];exact Ly y) (by rw[Pi,Pi,g];show on ((v.getD j 0:Nat):Int)=_;rw[Pf,o];rfl);have a2:at2 (gN B) j i=on (((row.getD i (0,0)).1:Int),((row.getD i (0,0)).2:Int)):=mM (row:=row.map λp=>((p.1:Int),(p.2:Int))) (by rw[Pi,b];rfl) (by rw[Pi,d7 (by omega),Pd (by omega)];rfl);have:=h.kp j i _ _ a1 a2;simp only at this;omega
abbrev l24(g l t w:D)(b c d e:Option Sl):Ds:=[Pb,on (.sh .bag),on (.sh g),on (.sh l),on (.sh t),on (.sh w),b,c,d,e]
theorem lst4{x y z v:D}:d6 [x,y,z,v]=on (.lst [x,y,z,v]):=by
 unfold d6;rw[Ps (aW (by show 4<=1000;decide))]
theorem Ks(rows:LI):dm (gridD rows) (gridD rows)=on (.bl Pj):=Kr (vI 2 (λx b=>by
 obtain⟨y,c,rfl⟩:=PD.mp b;obtain⟨row,_,rfl⟩:=PD.mp c;intro z d;obtain⟨i,_,rfl⟩:=PD.mp d;trivial) (by decide))
theorem Kq(rows:LI):(gI rows).all noLs=Pe:=Sz.mpr λx b=>by
 obtain⟨r,_,rfl⟩:=PD.mp b;exact mj r
theorem DS(β:Bg)(ok:β.ok):∃p,(pU K a).1 [Pb,on (.sh .bag),Pb,Pb,Pb,Pb,Pb,Pb,Pb,Pb] β=on (.rt (.bl Pe),p):=by
 suffices h:Gw (pU K a).1 [Pb,on (.sh .bag),Pb,Pb,Pb,Pb,Pb,Pb,Pb,Pb] β (λo _=>o= .rt (.bl Pe)) by
  obtain⟨o,p,e,rfl⟩:=h;exact⟨p,e⟩
 obtain⟨g,r,c,β1,e1,t,I⟩:=CD (K:=K) (a:=a) ok;obtain⟨l,β2,e2,bl,kl,J⟩:=xZ (K:=K) (a:=a) t.1 I;obtain⟨B,rs,cs,rfl,nt,lr,lc,F⟩:=Lr t bl kl;have tp0:=nt.pos t.1.nn;have Y:=xm B cs;have L:Nt1 K a rs cs (wB B cs) (bDN B):=nt.nt;have c1:=nt.c1;have c6:=nt.c6;have r1:=nt.nr.1;have r4:=nt.nr.2.1;have nd:∀k r,(wB B cs k r).Nodup:=λk r=>(vZ _ _).filter _;have pl:(pth (wB B cs) cs.length 0 rs).length=tbW (wB B cs) cs.length 0 rs:=qY _ _ _;have t8:tbW (wB B cs) cs.length 0 rs<=40320:=by
  rw[←pl,←Pa (f:=λ_=>0),←IE,Pa,Pa];exact P3 (wG Y nt.sm (Pt _)) (Mo F)
 unfold pU
 dsimp only
 refine aL (am rfl e1) (aL (am rfl e2) (aL (am rfl (Kx nt)) (aL (am rfl (KD nt F)) ?_)));show Gw _ (l24 (gridD g) (bDN B) (cX a (wB B cs) (bDN B) rs cs) (.lst ((pth (wB B cs) cs.length 0 rs).map cD)) Pb Pb Pb Pb) β2 _;generalize gridD g=gd;have N:∀vs∈pth (wB B cs) cs.length 0 rs,Wk (wB B cs) 0 rs vs/\vs.length=cs.length/\∀v∈vs,v.length=rs.length:=λvs hv=>by
  obtain⟨q1,q2⟩:=uK hv;exact⟨q1,q2,(qJ Y q1 (by rw[q2,Q4]) nt.sm).2.2⟩
 obtain⟨u,β3,pu,u0,u1,O⟩:=bP J (lot:=((tbW (wB B cs) cs.length 0 rs:Nat):Int)) (by omega) (by omega);obtain⟨u,rfl⟩:∃k:Nat,u=(k:Int):=⟨u.toNat,by omega⟩;obtain⟨x,b,px,x0,x1,ok4⟩:=bP O (lot:=((tbW (wB B cs) cs.length 0 rs:Nat):Int)) (by omega) (by omega);obtain⟨x,rfl⟩:∃k:Nat,x=(k:Int):=⟨x.toNat,by omega⟩;have Q:cc [.lst ((pth (wB B cs) cs.length 0 rs).map cD)]=on (.int ((tbW (wB B cs) cs.length 0 rs:Nat):Int)):=c5 (by rw[Pa,pl]);generalize hP:pth (wB B cs) cs.length 0 rs=P at*;generalize Z:tbW (wB B cs) cs.length 0 rs=T at*;refine bM (ds:=[.int (u:Int),.int (x:Int),.int 0,.int ((T-1:Nat):Int)]) (β1:=b) (cz (aj (ae (am (ae rfl (ae (aj rfl Q) rfl)) pu) (ae (am (ae rfl (ae (aj rfl Q) rfl)) px) (ae rfl (ae (x_2 (aj rfl Q) rfl ?_) rfl)))) lst4) rfl) (λ_ δ β=>b=β/\∃R U F H,δ=l24 gd (bDN B) (cX a (wB B cs) (bDN B) rs cs) (.lst (P.map cD)) R U F H) ⟨rfl,_,_,_,_,rfl⟩ ?_ ?_
 ·show on (D.int _)=on (D.int _)
  rw[show((T:Int)-1)=((T-1:Nat):Int) by omega]
 ·rintro i d δ _ hd ⟨rfl,R,U,X,H,rfl⟩
  obtain⟨k,hk,rfl⟩:∃k:Nat,k<T/\d= .int (k:Int):=by
   rcases i with _|_|_|_|i
   ·cases hd;exact⟨u,by omega,rfl⟩
   ·cases hd;exact⟨x,by omega,rfl⟩
   ·cases hd;exact⟨0,by omega,rfl⟩
   ·cases hd;exact⟨T-1,by omega,rfl⟩
   ·cases hd
  have y:k<P.length:=by omega
  have ek:=Pd y;obtain⟨f1,f2⟩:=zG nd (j:=cs.length) (k:=0) (r:=rs) (i:=k) (vs:=P[k]) (by rw[hP];exact ek);obtain⟨q1,q2,q3⟩:=N _ (Qo y);have ix:ixD (.lst (P.map cD)) (.int (k:Int))=on (cD P[k]):=bD (by rw[Pi,ek];rfl);have q:Shp cs.length rs.length (P[k].map nI):=by rw[←q2];exact shpC q3
  have m:Shp rs.length cs.length (tp rs.length (P[k].map nI)):=j5 q.1;have lt:=qd (K:=K) (a:=a) (β:=b) q c1 (by omega) (by omega);rw[←cD_e]at lt;have kt:=Mx (K:=K) (a:=a) (β:=b) L (n0:=k) (by rw[Z];exact hk);have kg:=KF (K:=K) (a:=a) (β:=b) L (n0:=k) (by rw[Z];exact hk);have nm:=Mf (K:=K) (a:=a) (β:=b) L m (by rw[HL q]) q1 q2;rw[f1]at kt kg;rw[f2]at nm;have t:=HU (K:=K) (a:=a) (β:=b) (okG m (by omega) (by omega));obtain⟨row,A,C⟩:=m.at (i:=0) (by omega);refine⟨_,rfl,aL (am (ae (x_2 rfl rfl ix) rfl) lt) (xk (qI rfl kg) (Kq _) (iu (kK (c:=Pe) (mU (am rfl t) rfl)) (bL ?_)))⟩;refine xj (d:= .int 77) (β1:=b) (β2:=b) (β3:=b) (rows:=gI (tp rs.length (P[k].map nI))) (ds:=row.map D.int) (ka:=0) (kb:=0) (ja:=0) (jb:=0) rfl rfl rfl rfl ?_ ?_ ?_ rfl ?_
  ·rw[Pa,m.1];exact jd (by decide) (by omega)
  ·rw[Pi,A];rfl
  ·rw[Pa,C];exact jd (by decide) (by omega)
  refine fS (δ1:=l24 gd (bDN B) (cX a (wB B cs) (bDN B) rs cs) (.lst (P.map cD)) (on (.sh (.int (k:Int)))) (on (.sh (gridD (tp rs.length (P[k].map nI))))) Pb H) rfl ?_;refine iu (kK (c:=Pe) (mU (am (ae (am rfl kt) (ae rfl rfl)) t) rfl)) (bL ?_);refine aL (am rfl (sO (by rw[Pa,m.1];omega))) ?_;exact aq (iu (pf (kK (c:=Pe) (mU (am (ae (am rfl nm) (ae rfl rfl)) (HU trivial)) rfl)) (x_B (x_2 rfl rfl (Ks _)))) (bL (bq ⟨rfl,_,_,_,_,rfl⟩)))
 ·rintro δ p ⟨_,R,U,X,H,rfl⟩
  exact aq (aU rfl rfl)
noncomputable abbrev E(P:WN)(n:String)(t:Nat)(v:Pl):Tv:=⟨PyData.keyHash P (RX n),.str (RX n) t,v⟩
noncomputable abbrev FN(x q:Qn)(s:QU)(c d b e:Pl)(f:Option Pk)(cd ct:Pl):P9:=TK x q (iJ s) (cR s) (ah s) c d b e f cd ct
noncomputable abbrev fO(f:P9):Qb:=⟨.type "function",Pb,.func f,#[]⟩
noncomputable abbrev tO(l:List Pl):Qb:=⟨.type "tuple",Pb,.seq l.toArray 0,#[]⟩
noncomputable abbrev cO(l:List Pl):Qb:=⟨.type "code",Pb,.fields l.toArray,#[]⟩
noncomputable abbrev eB(P:WN)(n:String)(t:Nat):Tv:=E P n t (.builtin n)
noncomputable abbrev eT(P:WN)(n:String)(t:Nat):Tv:=E P n t (.type n)
noncomputable abbrev eR(P:WN)(n:String)(t r:Nat):Tv:=E P n t (.ref r)
noncomputable abbrev nO(l:List Pl):Qb:=⟨.none,Pb,.fields l.toArray,#[]⟩
noncomputable abbrev fB(x q:Qn)(s:QU):Qb:=⟨.none,Pb,.func ⟨x,q,iJ s,.stmts (cR s),ah s,0,[],.none,.none,.none,.none,Pb,.none,.none,0⟩,#[]⟩
noncomputable abbrev cC(n q:Qn)(t l a po c fl r:Nat)(b:Bool)(d e:Nat)(x y z w:Pl)(u f v:Nat):Qb:=cO [.str n t,.str q (t+1),.str "/claim/cut.py" (t+2),.int l 0,.int a 0,.int po 0,.int c 0,.int fl 0,.ref r,.bool b,.int d 0,.ref e,x,y,z,w,.int u 0,.int f 0,.str "/claim/cut.py" v]
noncomputable abbrev cF(n:Qn)(t l a b r c u:Nat):Qb:=cC n n t l a 0 b 3 r Pe c (r+1) .none .none .none (.ref (r+2)) u l (u+1)
noncomputable abbrev cG(n:Qn)(t l a b r c u:Nat):Qb:=cC n n t l a 0 b 3 r Pe c (r+1) .none (.ref (r+2)) (.ref (r+3)) (.ref (r+4)) u l (u+1)
noncomputable abbrev fM(m:Qn)(t:Nat)(x:Qn)(i c:Nat):Qb:=fO (FN x x (top i) .none .none .none (.str m t) Pb (.ref c) .none)
abbrev eTt:List Pl:=[(.ref 38),(.type "ValueError"),(.type "Exception"),(.type "BaseException"),(.type "object")]
noncomputable abbrev xOo(x:Qn)(a d b t u:Nat):Qb:=⟨(.type "type"),Pb,(.cls ⟨x,[(.ref 38)],(.ref a)::eTt,d,x,Pe,[],[],Pj,Pb,Pj⟩),#[(on (.ref b)),Pb,(on (.str x t)),(on (.str x u)),(on (.builtin "ValueError.__new__")),(on (.bool Pe))]⟩
noncomputable abbrev iSs(n:Nat):Qb:=⟨(.type "builtin_function_or_method"),Pb,(.fields #[(.builtin "object.__init_subclass__"),(.ref n)]),#[]⟩
noncomputable abbrev tx0:Pl:= .str "edgetally.errors" 194
noncomputable abbrev tx1:Pl:= .str "edgetally.net" 495
noncomputable abbrev tx2:Pl:= .str "__main__" 164
noncomputable abbrev fL(x q:Qn)(i c:Nat):Qb:=fO (FN x q (top i) .none .none .none (.str "law_edgetally_k24_tables_by_number" 735) Pb (.ref c) .none)
noncomputable def trL:List Nat->List Pl
 |a::b::c::l=> .int a 0:: .int b 0:: .ref c::trL l
 |_=>[]
noncomputable abbrev nT(l:List Nat):Qb:=nO (trL l)
noncomputable def stL:Nat->List Qn->List Pl
 |_,[]=>[]
 |t,x::l=> .str x t::stL (t+1) l
noncomputable abbrev tS(t:Nat)(l:List Qn):Qb:=tO (stL t l)
noncomputable def fD(o:Qb):P9:=match o.data with
 | .func f=>f
 |_=>FN "" "" (top 0) .none .none .none .none Pb .none .none
end
section
variable(P:WN)
def b0:Qb:=⟨(.type "dict"),Pb,(.dict #[(E P "__name__" 1 (.str "builtins" 160)),(E P "__doc__" 2 (.builtin "builtins.__doc__:str#opaque")),(E P "__package__" 3 (.builtin "builtins.__package__:str#opaque")),(E P "__loader__" 4 (.builtin "builtins.__loader__:shared#opaque")),(E P "__spec__" 5 (.builtin "builtins.__spec__#opaque")),(eB P "__build_class__" 6),(eB P "__import__" 7),(eB P "abs" 8),(eB P "all" 9),(eB P "any" 10),(eB P "ascii" 11),(eB P "bin" 12),(eB P "breakpoint" 13),(eB P "callable" 14),(eB P "chr" 15),(eB P "compile" 16),(eB P "delattr" 17),(eB P "dir" 18),(eB P "divmod" 19),(eB P "eval" 20),(eB P "exec" 21),(eB P "format" 22),(eB P "getattr" 23),(eB P "globals" 24),(eB P "hasattr" 25),(eB P "hash" 26),(eB P "hex" 27),(eB P "id" 28),(eB P "input" 29),(eB P "isinstance" 30),(eB P "issubclass" 31),(eB P "iter" 32),(eB P "aiter" 33),(eB P "len" 34),(eB P "locals" 35),(eB P "max" 36),(eB P "min" 37),(eB P "next" 38),(eB P "anext" 39),(eB P "oct" 40),(eB P "ord" 41),(eB P "pow" 42),(eB P "print" 43),(eB P "repr" 44),(eB P "round" 45),(eB P "setattr" 46),(eB P "sorted" 47),(eB P "sum" 48),(eB P "vars" 49),(E P "None" 50 .none),(E P "Ellipsis" 51 .ellipsis),(E P "NotImplemented" 52 .notImplemented),(E P "False" 53 (.bool Pj)),(E P "True" 54 (.bool Pe)),(eT P "bool" 55),(eT P "memoryview" 56),(eT P "bytearray" 57),(eT P "bytes" 58),(eT P "classmethod" 59),(eT P "complex" 60),(eT P "dict" 61),(eT P "enumerate" 62),(eT P "filter" 63),(eT P "float" 64),(eT P "frozenset" 65),(eT P "property" 66),(eT P "int" 67),(eT P "list" 68),(eT P "map" 69),(eT P "object" 70),(eT P "range" 71),(eT P "reversed" 72),(eT P "set" 73),(eT P "slice" 74),(eT P "staticmethod" 75),(eT P "str" 76),(eT P "super" 77),(eT P "tuple" 78),(eT P "type" 79),(eT P "zip" 80),(E P "__debug__" 81 (.bool Pe)),(eT P "BaseException" 82),(eT P "BaseExceptionGroup" 83),(eT P "Exception" 84),(eT P "GeneratorExit" 85),(eT P "KeyboardInterrupt" 86),(eT P "SystemExit" 87),(eT P "ArithmeticError" 88),(eT P "AssertionError" 89),(eT P "AttributeError" 90),(eT P "BufferError" 91),(eT P "EOFError" 92),(eT P "ImportError" 93),(eT P "LookupError" 94),(eT P "MemoryError" 95),(eT P "NameError" 96),(eT P "OSError" 97),(eT P "ReferenceError" 98),(eT P "RuntimeError" 99),(eT P "StopAsyncIteration" 100),(eT P "StopIteration" 101),(eT P "SyntaxError" 102),(eT P "SystemError" 103),(eT P "TypeError" 104),(eT P "ValueError" 105),(eT P "Warning" 106),(eT P "FloatingPointError" 107),(eT P "OverflowError" 108),(eT P "ZeroDivisionError" 109),(eT P "BytesWarning" 110),(eT P "DeprecationWarning" 111),(eT P "EncodingWarning" 112),(eT P "FutureWarning" 113),(eT P "ImportWarning" 114),(eT P "PendingDeprecationWarning" 115),(eT P "ResourceWarning" 116),(eT P "RuntimeWarning" 117),(eT P "SyntaxWarning" 118),(eT P "UnicodeWarning" 119),(eT P "UserWarning" 120),(eT P "BlockingIOError" 121),(eT P "ChildProcessError" 122),(eT P "ConnectionError" 123),(eT P "FileExistsError" 124),(eT P "FileNotFoundError" 125),(eT P "InterruptedError" 126),(eT P "IsADirectoryError" 127),(eT P "NotADirectoryError" 128),(eT P "PermissionError" 129),(eT P "ProcessLookupError" 130),(eT P "TimeoutError" 131),(eT P "IndentationError" 132),(eT P "_IncompleteInputError" 133),(eT P "IndexError" 134),(eT P "KeyError" 135),(eT P "ModuleNotFoundError" 136),(eT P "NotImplementedError" 137),(eT P "PythonFinalizationError" 138),(eT P "RecursionError" 139),(eT P "UnboundLocalError" 140),(eT P "UnicodeError" 141),(eT P "BrokenPipeError" 142),(eT P "ConnectionAbortedError" 143),(eT P "ConnectionRefusedError" 144),(eT P "ConnectionResetError" 145),(eT P "TabError" 146),(eT P "UnicodeDecodeError" 147),(eT P "UnicodeEncodeError" 148),(eT P "UnicodeTranslateError" 149),(eT P "ExceptionGroup" 150),(E P "EnvironmentError" 151 (.type "OSError")),(E P "IOError" 152 (.type "OSError")),(eB P "open" 153),(E P "quit" 154 (.builtin "builtins.quit#opaque")),(E P "exit" 155 (.builtin "builtins.exit#opaque")),(E P "copyright" 156 (.builtin "builtins.copyright#opaque")),(E P "credits" 157 (.builtin "builtins.credits#opaque")),(E P "license" 158 (.builtin "builtins.license#opaque")),(E P "help" 159 (.builtin "builtins.help#opaque"))] 159),#[]⟩
def b1:Qb:=⟨(.type "dict"),Pb,(.dict #[(eR P "builtins" 162 4),(eR P "__main__" 163 5)] 2),#[]⟩
noncomputable def b2:Qb:=⟨.none,Pb,(.dict #[] 0),#[]⟩
def mL:List Tv:=[(E P "__name__" 165 (.str "law_edgetally_k24_tables_by_number" 735)),(E P "__doc__" 166 .none),(E P "__package__" 167 .none),(E P "__loader__" 168 (.builtin "__main__.__loader__#opaque")),(E P "__spec__" 169 .none),(eR P "__annotations__" 170 6),(eR P "__builtins__" 171 4),(E P "__file__" 173 (.str "/claim/cut.py" 172)),(E P "__cached__" 174 .none),(eR P "_wall" 193 21),(eR P "EdgeError" 223 38),(eR P "BadSums" 248 59),(eR P "BadBounds" 273 79),(eR P "TooWide" 298 98),(eR P "Barred" 325 117),(eR P "BadNumber" 350 137),(eR P "NoTable" 375 157),(E P "MOST" 379 (.int 40 378)),(E P "MOST_ROWS" 381 (.int 4 380)),(E P "MOST_COLUMNS" 383 (.int 6 382)),(eR P "FREE" 385 160),(eR P "free" 392 166),(eR P "check_sums" 398 171),(eR P "check_pair" 407 178),(eR P "settled_bounds" 413 183),(eR P "rows_turned" 419 188),(eR P "factorial" 430 195),(eR P "ways" 439 202),(eR P "fillings" 445 207),(eR P "need_of" 453 212),(eR P "room_inside" 459 217),(eR P "room_beside" 465 222),(eR P "room_of" 471 227),(eR P "narrowest" 477 232),(eR P "choices" 483 237),(eR P "check_fit" 494 244),(E P "WIDE" 498 (.int 500 497)),(eR P "check_wide" 507 251),(eR P "settled_for_net" 517 258),(eR P "column_fillings" 523 263),(eR P "rests_behind" 529 268),(eR P "nodes_by_level" 535 273),(eR P "node_counts" 549 280),(eR P "counted_nodes" 555 285),(eR P "Net" 663 369),(eR P "check_number" 673 380),(eR P "steps_counted" 686 387),(eR P "falls_to" 695 394),(eR P "kth_table" 701 399),(eR P "columns_asked" 707 404),(eR P "counted_ahead" 722 411),(eR P "number_of" 734 418),(eR P "_law_bag" 742 423),(eR P "_law_pull" 753 430),(eR P "_law_same" 759 435),(eR P "_law_grid" 765 440),(eR P "_law_small" 775 447),(eR P "_law_turned" 781 452),(eR P "_law_rowsums" 787 457),(eR P "_law_columnsums" 793 462),(eR P "_law_free" 799 467),(eR P "_law_bounds" 813 474),(eR P "_law_copied" 819 479),(eR P "_law_fit" 825 484),(eR P "_law_less" 831 489),(eR P "_law_listing" 837 494),(eR P "_law_all" 845 501),(eR P "_law_net" 853 508),(eR P "law" 869 515)]
noncomputable def b3:Qb:=⟨(.type "dict"),Pb,(.dict (mL P).toArray 69),#[]⟩
noncomputable def b4:Qb:=⟨(.type "module"),(on 0),.plain,#[]⟩
noncomputable def b5:Qb:=⟨(.type "module"),(on 3),.plain,#[]⟩
noncomputable def b6:Qb:=⟨(.type "dict"),Pb,(.dict #[] 0),#[]⟩
def b7:Qb:=tO []
def b8:Qb:=nO []
def b9:Qb:=cC "<module>" "<module>" 176 1 0 0 0 0 7 Pj 175 8 .none .none .none .none 179 1 180
def b10:Qb:=⟨(.type "frame"),Pb,.plain,#[(on (.ref 9)),(on (.ref 3)),(on (.ref 3)),Pb,(on tx2),Pb,(on (.ref 0))]⟩
def b12:Qb:=nT [1,0,20,5,0,27,10,0,47,14,0,67,18,0,87,23,0,106,29,0,125,33,0,145,42,0,165,44,0,170,55,0,177,59,0,182,68,0,187,71,0,194,76,0,201,84,0,206,94,0,211,96,0,216,99,0,221,101,0,226,103,0,231,105,0,236,110,0,243,117,0,250,123,0,257,128,0,262,130,0,267,132,0,272,140,0,279,148,0,284,158,0,291,200,0,379,203,0,386,209,0,393,215,0,398,225,0,403,230,0,410,239,0,417,247,0,422,249,0,429,259,0,434,271,0,439,278,0,446,289,0,451,291,0,456,293,0,461,295,0,466,297,0,473,309,0,478,311,0,483,320,0,488,322,0,493,331,0,500,333,0,507,335,0,514]
def b13:Qb:=cC "<module>" "<module>" 182 1 0 0 0 0 11 Pj 181 12 .none .none .none .none 185 1 186
def b14:Qb:=⟨(.type "frame"),Pb,.plain,#[(on (.ref 13)),(on (.ref 3)),(on (.ref 3)),Pb,(on tx2),Pb,(on (.ref 0))]⟩
def b17:Qb:=tS 190 ["k"]
def b19:Qb:=fB "_wall" "_wall" (top 0)
def b20:Qb:=cG "_wall" 187 1 1 0 15 181 191
def b21:Qb:=fM "__main__" 164 "_wall" 0 20
def b22:Qb:=tO [(.type "ValueError")]
noncomputable def b23:Qb:=⟨(.type "builtin_function_or_method"),Pb,(.fields #[(.builtin "type.__prepare__"),(.type "type")]),#[]⟩
def b24:Qb:=⟨(.type "dict"),Pb,(.dict #[(E P "__module__" 203 tx0),(E P "__qualname__" 205 (.str "EdgeError" 204)),(E P "__firstlineno__" 207 (.int 5 206)),(eR P "__init__" 216 35),(eR P "__static_attributes__" 218 36)] 5),#[]⟩
def b26:Qb:=nT [7,4,34]
def b27:Qb:=cC "EdgeError" "EdgeError" 198 5 0 0 0 0 25 Pj 181 26 .none .none .none .none 201 5 202
def b28:Qb:=⟨(.type "frame"),Pb,.plain,#[(on (.ref 27)),(on (.ref 3)),(on (.ref 24)),Pb,(on tx0),Pb,(on (.ref 0))]⟩
def b31:Qb:=tS 211 ["self","word","why"]
def b33:Qb:=fB "__init__" "EdgeError.__init__" (aE (top 2) 0)
def b34:Qb:=cC "__init__" "EdgeError.__init__" 208 7 3 0 0 3 29 Pe 181 30 .none (.ref 31) (.ref 32) (.ref 33) 214 7 215
def b35:Qb:=fO (FN "__init__" "EdgeError.__init__" (aE (top 2) 0) .none .none .none tx0 Pb (.ref 34) .none)
def b36:Qb:=tS 217 ["word"]
def b37:Qb:=⟨(.type "dict"),Pb,(.dict #[(E P "__module__" 203 tx0),(E P "__firstlineno__" 207 (.int 5 206)),(eR P "__init__" 216 35),(eR P "__static_attributes__" 218 36),(eR P "__weakref__" 220 39),(E P "__doc__" 221 .none)] 3),#[]⟩
noncomputable def b38:Qb:=⟨(.type "type"),Pb,(.cls ⟨"EdgeError",[(.type "ValueError")],[(.ref 38),(.type "ValueError"),(.type "Exception"),(.type "BaseException"),(.type "object")],37,"EdgeError",Pe,[],[(.ref 59),(.ref 79),(.ref 98),(.ref 117),(.ref 137),(.ref 157)],Pj,Pb,Pj⟩),#[(on (.ref 22)),Pb,(on (.str "EdgeError" 196)),(on (.str "EdgeError" 204)),(on (.builtin "ValueError.__new__")),(on (.bool Pe))]⟩
noncomputable def b39:Qb:=⟨(.type "getset_descriptor"),Pb,(.fields #[(.str "__weakref__" 219),(.ref 38),(.builtin "ExceptionGroup.__weakref__"),.none]),#[]⟩
noncomputable def b40:Qb:=⟨(.type "super"),Pb,(.fields #[(.ref 38),(.ref 38),(.ref 38)]),#[]⟩
def b41:Qb:=iSs 38
def b42:Qb:=tO [(.ref 38)]
def b44:Qb:=⟨(.type "dict"),Pb,(.dict #[(E P "__module__" 231 tx0),(E P "__qualname__" 233 (.str "BadSums" 232)),(E P "__firstlineno__" 235 (.int 10 234)),(eR P "__init__" 244 56),(eR P "__static_attributes__" 245 57)] 5),#[]⟩
def b46:Qb:=nT [12,4,55]
def b47:Qb:=cC "BadSums" "BadSums" 226 10 0 0 0 0 45 Pj 181 46 .none .none .none .none 229 10 230
def b48:Qb:=⟨(.type "frame"),Pb,.plain,#[(on (.ref 47)),(on (.ref 3)),(on (.ref 44)),Pb,(on tx0),Pb,(on (.ref 0))]⟩
def b49:Qb:=tS 236 ["these sums are no table's"]
def b52:Qb:=tS 240 ["self","why"]
def b54:Qb:=fB "__init__" "BadSums.__init__" (aE (top 3) 0)
def b55:Qb:=cC "__init__" "BadSums.__init__" 237 12 2 0 0 3 50 Pe 181 51 .none (.ref 52) (.ref 53) (.ref 54) 242 12 243
def b56:Qb:=fO (FN "__init__" "BadSums.__init__" (aE (top 3) 0) (.ref 49) .none .none tx0 Pb (.ref 55) .none)
def b58:Qb:=⟨(.type "dict"),Pb,(.dict #[(E P "__module__" 231 tx0),(E P "__firstlineno__" 235 (.int 10 234)),(eR P "__init__" 244 56),(eR P "__static_attributes__" 245 57),(E P "__doc__" 246 .none)] 2),#[]⟩
def b59:Qb:=xOo "BadSums" 59 58 42 224 232
noncomputable def b60:Qb:=⟨(.type "super"),Pb,(.fields #[(.ref 59),(.ref 59),(.ref 59)]),#[]⟩
def b61:Qb:=iSs 59
def b64:Qb:=⟨(.type "dict"),Pb,(.dict #[(E P "__module__" 256 tx0),(E P "__qualname__" 258 (.str "BadBounds" 257)),(E P "__firstlineno__" 260 (.int 14 259)),(eR P "__init__" 269 76),(eR P "__static_attributes__" 270 77)] 5),#[]⟩
def b66:Qb:=nT [16,4,75]
def b67:Qb:=cC "BadBounds" "BadBounds" 251 14 0 0 0 0 65 Pj 181 66 .none .none .none .none 254 14 255
def b68:Qb:=⟨(.type "frame"),Pb,.plain,#[(on (.ref 67)),(on (.ref 3)),(on (.ref 64)),Pb,(on tx0),Pb,(on (.ref 0))]⟩
def b69:Qb:=tS 261 ["these bounds are no table's"]
def b72:Qb:=tS 265 ["self","why"]
def b74:Qb:=fB "__init__" "BadBounds.__init__" (aE (top 4) 0)
def b75:Qb:=cC "__init__" "BadBounds.__init__" 262 16 2 0 0 3 70 Pe 181 71 .none (.ref 72) (.ref 73) (.ref 74) 267 16 268
def b76:Qb:=fO (FN "__init__" "BadBounds.__init__" (aE (top 4) 0) (.ref 69) .none .none tx0 Pb (.ref 75) .none)
def b78:Qb:=⟨(.type "dict"),Pb,(.dict #[(E P "__module__" 256 tx0),(E P "__firstlineno__" 260 (.int 14 259)),(eR P "__init__" 269 76),(eR P "__static_attributes__" 270 77),(E P "__doc__" 271 .none)] 2),#[]⟩
def b79:Qb:=xOo "BadBounds" 79 78 62 249 257
noncomputable def b80:Qb:=⟨(.type "super"),Pb,(.fields #[(.ref 79),(.ref 79),(.ref 79)]),#[]⟩
def b81:Qb:=iSs 79
def b84:Qb:=⟨(.type "dict"),Pb,(.dict #[(E P "__module__" 281 tx0),(E P "__qualname__" 283 (.str "TooWide" 282)),(E P "__firstlineno__" 285 (.int 18 284)),(eR P "__init__" 293 95),(eR P "__static_attributes__" 295 96)] 5),#[]⟩
def b86:Qb:=nT [20,4,94]
def b87:Qb:=cC "TooWide" "TooWide" 276 18 0 0 0 0 85 Pj 181 86 .none .none .none .none 279 18 280
def b88:Qb:=⟨(.type "frame"),Pb,.plain,#[(on (.ref 87)),(on (.ref 3)),(on (.ref 84)),Pb,(on tx0),Pb,(on (.ref 0))]⟩
def b91:Qb:=tS 289 ["self","wide"]
def b93:Qb:=fB "__init__" "TooWide.__init__" (aE (top 5) 0)
def b94:Qb:=cC "__init__" "TooWide.__init__" 286 20 2 0 0 3 89 Pe 181 90 .none (.ref 91) (.ref 92) (.ref 93) 291 20 292
def b95:Qb:=fO (FN "__init__" "TooWide.__init__" (aE (top 5) 0) .none .none .none tx0 Pb (.ref 94) .none)
def b96:Qb:=tS 294 ["wide"]
def b97:Qb:=⟨(.type "dict"),Pb,(.dict #[(E P "__module__" 281 tx0),(E P "__firstlineno__" 285 (.int 18 284)),(eR P "__init__" 293 95),(eR P "__static_attributes__" 295 96),(E P "__doc__" 296 .none)] 2),#[]⟩
def b98:Qb:=xOo "TooWide" 98 97 82 274 282
noncomputable def b99:Qb:=⟨(.type "super"),Pb,(.fields #[(.ref 98),(.ref 98),(.ref 98)]),#[]⟩
def b100:Qb:=iSs 98
def b103:Qb:=⟨(.type "dict"),Pb,(.dict #[(E P "__module__" 306 tx0),(E P "__qualname__" 308 (.str "Barred" 307)),(E P "__firstlineno__" 310 (.int 23 309)),(eR P "__init__" 319 114),(eR P "__static_attributes__" 322 115)] 5),#[]⟩
def b105:Qb:=nT [25,4,113]
def b106:Qb:=cC "Barred" "Barred" 301 23 0 0 0 0 104 Pj 181 105 .none .none .none .none 304 23 305
def b107:Qb:=⟨(.type "frame"),Pb,.plain,#[(on (.ref 106)),(on (.ref 3)),(on (.ref 103)),Pb,(on tx0),Pb,(on (.ref 0))]⟩
def b110:Qb:=tS 314 ["self","over","into"]
def b112:Qb:=fB "__init__" "Barred.__init__" (aE (top 6) 0)
def b113:Qb:=cC "__init__" "Barred.__init__" 311 25 3 0 0 3 108 Pe 181 109 .none (.ref 110) (.ref 111) (.ref 112) 317 25 318
def b114:Qb:=fO (FN "__init__" "Barred.__init__" (aE (top 6) 0) .none .none .none tx0 Pb (.ref 113) .none)
def b115:Qb:=tS 320 ["into","over"]
def b116:Qb:=⟨(.type "dict"),Pb,(.dict #[(E P "__module__" 306 tx0),(E P "__firstlineno__" 310 (.int 23 309)),(eR P "__init__" 319 114),(eR P "__static_attributes__" 322 115),(E P "__doc__" 323 .none)] 2),#[]⟩
def b117:Qb:=xOo "Barred" 117 116 101 299 307
noncomputable def b118:Qb:=⟨(.type "super"),Pb,(.fields #[(.ref 117),(.ref 117),(.ref 117)]),#[]⟩
def b119:Qb:=iSs 117
def b122:Qb:=⟨(.type "dict"),Pb,(.dict #[(E P "__module__" 333 tx0),(E P "__qualname__" 335 (.str "BadNumber" 334)),(E P "__firstlineno__" 337 (.int 29 336)),(eR P "__init__" 346 134),(eR P "__static_attributes__" 347 135)] 5),#[]⟩
def b124:Qb:=nT [31,4,133]
def b125:Qb:=cC "BadNumber" "BadNumber" 328 29 0 0 0 0 123 Pj 181 124 .none .none .none .none 331 29 332
def b126:Qb:=⟨(.type "frame"),Pb,.plain,#[(on (.ref 125)),(on (.ref 3)),(on (.ref 122)),Pb,(on tx0),Pb,(on (.ref 0))]⟩
def b127:Qb:=tS 338 ["this number is out of its bounds"]
def b130:Qb:=tS 342 ["self","why"]
def b132:Qb:=fB "__init__" "BadNumber.__init__" (aE (top 7) 0)
def b133:Qb:=cC "__init__" "BadNumber.__init__" 339 31 2 0 0 3 128 Pe 181 129 .none (.ref 130) (.ref 131) (.ref 132) 344 31 345
def b134:Qb:=fO (FN "__init__" "BadNumber.__init__" (aE (top 7) 0) (.ref 127) .none .none tx0 Pb (.ref 133) .none)
def b136:Qb:=⟨(.type "dict"),Pb,(.dict #[(E P "__module__" 333 tx0),(E P "__firstlineno__" 337 (.int 29 336)),(eR P "__init__" 346 134),(eR P "__static_attributes__" 347 135),(E P "__doc__" 348 .none)] 2),#[]⟩
def b137:Qb:=xOo "BadNumber" 137 136 120 326 334
noncomputable def b138:Qb:=⟨(.type "super"),Pb,(.fields #[(.ref 137),(.ref 137),(.ref 137)]),#[]⟩
def b139:Qb:=iSs 137
def b142:Qb:=⟨(.type "dict"),Pb,(.dict #[(E P "__module__" 358 tx0),(E P "__qualname__" 360 (.str "NoTable" 359)),(E P "__firstlineno__" 362 (.int 33 361)),(eR P "__init__" 371 154),(eR P "__static_attributes__" 372 155)] 5),#[]⟩
def b144:Qb:=nT [35,4,153]
def b145:Qb:=cC "NoTable" "NoTable" 353 33 0 0 0 0 143 Pj 181 144 .none .none .none .none 356 33 357
def b146:Qb:=⟨(.type "frame"),Pb,.plain,#[(on (.ref 145)),(on (.ref 3)),(on (.ref 142)),Pb,(on tx0),Pb,(on (.ref 0))]⟩
def b147:Qb:=tS 363 ["the net has no such table"]
def b150:Qb:=tS 367 ["self","why"]
def b152:Qb:=fB "__init__" "NoTable.__init__" (aE (top 8) 0)
def b153:Qb:=cC "__init__" "NoTable.__init__" 364 35 2 0 0 3 148 Pe 181 149 .none (.ref 150) (.ref 151) (.ref 152) 369 35 370
def b154:Qb:=fO (FN "__init__" "NoTable.__init__" (aE (top 8) 0) (.ref 147) .none .none tx0 Pb (.ref 153) .none)
def b156:Qb:=⟨(.type "dict"),Pb,(.dict #[(E P "__module__" 358 tx0),(E P "__firstlineno__" 362 (.int 33 361)),(eR P "__init__" 371 154),(eR P "__static_attributes__" 372 155),(E P "__doc__" 373 .none)] 2),#[]⟩
def b157:Qb:=xOo "NoTable" 157 156 140 351 359
noncomputable def b158:Qb:=⟨(.type "super"),Pb,(.fields #[(.ref 157),(.ref 157),(.ref 157)]),#[]⟩
def b159:Qb:=iSs 157
def NT:Qb:=tO [(.int 0 384),(.int 40 378)]
def NS:Qb:=⟨(.type "dict"),Pb,(.dict #[(eR P "pair" 386 160)] 1),#[]⟩
def b164:Qb:=fB "free" "free" (top 14)
def NR:Qb:=cF "free" 387 42 2 1 162 181 390
def GY:Qb:=fO (FN "free" "free" (top 14) .none (.ref 161) .none (.str "edgetally.bounds" 376) Pb (.ref 165) .none)
def b169:Qb:=fB "check_sums" "check_sums" (top 15)
def NQ:Qb:=cF "check_sums" 393 44 2 0 167 181 396
def GX:Qb:=fM "edgetally.bounds" 376 "check_sums" 15 170
def b174:Qb:=tS 402 ["pair","low","high"]
def b176:Qb:=fB "check_pair" "check_pair" (top 16)
def NP:Qb:=cG "check_pair" 399 55 1 0 172 181 405
def GW:Qb:=fM "edgetally.bounds" 376 "check_pair" 16 177
def b181:Qb:=fB "settled_bounds" "settled_bounds" (top 17)
def NO:Qb:=cF "settled_bounds" 408 59 3 0 179 181 411
def GV:Qb:=fM "edgetally.bounds" 376 "settled_bounds" 17 182
def b186:Qb:=fB "rows_turned" "rows_turned" (top 18)
def NN:Qb:=cF "rows_turned" 414 68 1 0 184 181 417
def GU:Qb:=fM "edgetally.bounds" 376 "rows_turned" 18 187
def b191:Qb:=tS 425 ["number","product","factor"]
def b193:Qb:=fB "factorial" "factorial" (top 20)
def NM:Qb:=cG "factorial" 422 71 1 0 189 181 428
def GT:Qb:=fM "edgetally.counts" 420 "factorial" 20 194
def b198:Qb:=tS 434 ["parts","part","told"]
def b200:Qb:=fB "ways" "ways" (top 21)
def NL:Qb:=cG "ways" 431 76 1 0 196 181 437
def GS:Qb:=fM "edgetally.counts" 420 "ways" 21 201
def b205:Qb:=fB "fillings" "fillings" (top 22)
def NK:Qb:=cF "fillings" 440 84 3 0 203 181 443
def GR:Qb:=fM "edgetally.counts" 420 "fillings" 22 206
def b210:Qb:=fB "need_of" "need_of" (top 24)
def NJ:Qb:=cF "need_of" 448 94 2 0 208 181 451
def GQ:Qb:=fM "edgetally.fits" 446 "need_of" 24 211
def b215:Qb:=fB "room_inside" "room_inside" (top 25)
def NI:Qb:=cF "room_inside" 454 96 4 0 213 181 457
def GP:Qb:=fM "edgetally.fits" 446 "room_inside" 25 216
def b220:Qb:=fB "room_beside" "room_beside" (top 26)
def NH:Qb:=cF "room_beside" 460 99 3 0 218 181 463
def GO:Qb:=fM "edgetally.fits" 446 "room_beside" 26 221
def b225:Qb:=fB "room_of" "room_of" (top 27)
def NG:Qb:=cF "room_of" 466 101 4 0 223 181 469
def GN:Qb:=fM "edgetally.fits" 446 "room_of" 27 226
def b230:Qb:=fB "narrowest" "narrowest" (top 28)
def NF:Qb:=cF "narrowest" 472 103 3 0 228 181 475
def GM:Qb:=fM "edgetally.fits" 446 "narrowest" 28 231
def b235:Qb:=fB "choices" "choices" (top 29)
def NE:Qb:=cF "choices" 478 105 1 0 233 181 481
def GL:Qb:=fM "edgetally.fits" 446 "choices" 29 236
def b240:Qb:=tS 487 ["rowsums","columnsums","bounds","over","into"]
def b242:Qb:=fB "check_fit" "check_fit" (top 30)
def ND:Qb:=cG "check_fit" 484 110 3 0 238 181 492
def GK:Qb:=fM "edgetally.fits" 446 "check_fit" 30 243
def b247:Qb:=tS 502 ["rowsums","wide","many"]
def b249:Qb:=fB "check_wide" "check_wide" (top 33)
def NC:Qb:=cG "check_wide" 499 117 1 0 245 181 505
def GJ:Qb:=fM "edgetally.net" 495 "check_wide" 33 250
def b254:Qb:=tS 511 ["rowsums","columnsums","bounds","settled"]
def b256:Qb:=fB "settled_for_net" "settled_for_net" (top 34)
def NB:Qb:=cG "settled_for_net" 508 123 3 0 252 181 515
def GI:Qb:=fM "edgetally.net" 495 "settled_for_net" 34 257
def b261:Qb:=fB "column_fillings" "column_fillings" (top 35)
def NA:Qb:=cF "column_fillings" 518 128 4 0 259 181 521
def GH:Qb:=fM "edgetally.net" 495 "column_fillings" 35 262
def b266:Qb:=fB "rests_behind" "rests_behind" (top 36)
def Nz:Qb:=cF "rests_behind" 524 130 2 0 264 181 527
def GG:Qb:=fM "edgetally.net" 495 "rests_behind" 36 267
def b271:Qb:=fB "nodes_by_level" "nodes_by_level" (top 37)
def Ny:Qb:=cF "nodes_by_level" 530 132 3 0 269 181 533
def GF:Qb:=fM "edgetally.net" 495 "nodes_by_level" 37 272
def b276:Qb:=tS 539 ["rests","filled","behind","tables","dealings","counts","tables_behind","dealings_behind"]
def b278:Qb:=fB "node_counts" "node_counts" (top 38)
def Nx:Qb:=cG "node_counts" 536 140 3 0 274 181 547
def GE:Qb:=fM "edgetally.net" 495 "node_counts" 38 279
def b283:Qb:=fB "counted_nodes" "counted_nodes" (top 39)
def Nw:Qb:=cF "counted_nodes" 550 148 3 0 281 181 553
def GD:Qb:=fM "edgetally.net" 495 "counted_nodes" 39 284
def b288:Qb:=⟨(.type "dict"),Pb,(.dict #[(E P "__module__" 563 tx1),(E P "__qualname__" 565 (.str "Net" 564)),(E P "__firstlineno__" 567 (.int 158 566)),(eR P "__init__" 579 300),(eR P "__eq__" 587 307),(eR P "__len__" 594 314),(eR P "rowsums" 601 321),(eR P "columnsums" 608 328),(eR P "bounds" 614 333),(eR P "counts_at" 623 340),(eR P "tables" 630 347),(eR P "dealings" 637 354),(eR P "steps" 643 359),(eR P "paper" 650 366),(eR P "__static_attributes__" 655 367)] 15),#[]⟩
def b290:Qb:=nT [160,4,299,168,4,306,171,4,313,174,4,320,177,4,327,180,4,332,183,4,339,186,4,346,189,4,353,192,4,358,197,4,365]
def b291:Qb:=cC "Net" "Net" 558 158 0 0 0 0 289 Pj 181 290 .none .none .none .none 561 158 562
def b292:Qb:=⟨(.type "frame"),Pb,.plain,#[(on (.ref 291)),(on (.ref 3)),(on (.ref 288)),Pb,(on tx1),Pb,(on (.ref 0))]⟩
def Nv:Qb:=⟨(.type "dict"),Pb,(.dict #[(E P "bounds" 568 .none)] 1),#[]⟩
def b296:Qb:=tS 572 ["self","rowsums","columnsums","bounds","settled"]
def b298:Qb:=fB "__init__" "Net.__init__" (aE (top 40) 0)
def Nu:Qb:=cC "__init__" "Net.__init__" 569 160 3 0 1 3 294 Pe 181 295 .none (.ref 296) (.ref 297) (.ref 298) 577 160 578
def GC:Qb:=fO (FN "__init__" "Net.__init__" (aE (top 40) 0) .none (.ref 293) .none tx1 Pb (.ref 299) .none)
def b303:Qb:=tS 583 ["self","other"]
def b305:Qb:=fB "__eq__" "Net.__eq__" (aE (top 40) 1)
def b306:Qb:=cC "__eq__" "Net.__eq__" 580 168 2 0 0 3 301 Pe 181 302 .none (.ref 303) (.ref 304) (.ref 305) 585 168 586
def b307:Qb:=fO (FN "__eq__" "Net.__eq__" (aE (top 40) 1) .none .none .none tx1 Pb (.ref 306) .none)
def b310:Qb:=tS 591 ["self"]
def b312:Qb:=fB "__len__" "Net.__len__" (aE (top 40) 2)
def b313:Qb:=cC "__len__" "Net.__len__" 588 171 1 0 0 3 308 Pe 181 309 .none (.ref 310) (.ref 311) (.ref 312) 592 171 593
def b314:Qb:=fO (FN "__len__" "Net.__len__" (aE (top 40) 2) .none .none .none tx1 Pb (.ref 313) .none)
def b317:Qb:=tS 598 ["self"]
def b319:Qb:=fB "rowsums" "Net.rowsums" (aE (top 40) 3)
def Nr:Qb:=cC "rowsums" "Net.rowsums" 595 174 1 0 0 3 315 Pe 181 316 .none (.ref 317) (.ref 318) (.ref 319) 599 174 600
def GB:Qb:=fO (FN "rowsums" "Net.rowsums" (aE (top 40) 3) .none .none .none tx1 Pb (.ref 320) .none)
def b324:Qb:=tS 605 ["self"]
def b326:Qb:=fB "columnsums" "Net.columnsums" (aE (top 40) 4)
def Nq:Qb:=cC "columnsums" "Net.columnsums" 602 177 1 0 0 3 322 Pe 181 323 .none (.ref 324) (.ref 325) (.ref 326) 606 177 607
def GA:Qb:=fO (FN "columnsums" "Net.columnsums" (aE (top 40) 4) .none .none .none tx1 Pb (.ref 327) .none)
def b331:Qb:=fB "bounds" "Net.bounds" (aE (top 40) 5)
def b332:Qb:=cC "bounds" "Net.bounds" 609 180 1 0 0 3 329 Pe 181 330 .none .none .none (.ref 331) 612 180 613
def b333:Qb:=fO (FN "bounds" "Net.bounds" (aE (top 40) 5) .none .none .none tx1 Pb (.ref 332) .none)
def b336:Qb:=tS 618 ["self","level","rests"]
def b338:Qb:=fB "counts_at" "Net.counts_at" (aE (top 40) 6)
def Np:Qb:=cC "counts_at" "Net.counts_at" 615 183 3 0 0 3 334 Pe 181 335 .none (.ref 336) (.ref 337) (.ref 338) 621 183 622
def FZ:Qb:=fO (FN "counts_at" "Net.counts_at" (aE (top 40) 6) .none .none .none tx1 Pb (.ref 339) .none)
def b343:Qb:=tS 627 ["self"]
def b345:Qb:=fB "tables" "Net.tables" (aE (top 40) 7)
def No:Qb:=cC "tables" "Net.tables" 624 186 1 0 0 3 341 Pe 181 342 .none (.ref 343) (.ref 344) (.ref 345) 628 186 629
def FY:Qb:=fO (FN "tables" "Net.tables" (aE (top 40) 7) .none .none .none tx1 Pb (.ref 346) .none)
def b350:Qb:=tS 634 ["self"]
def b352:Qb:=fB "dealings" "Net.dealings" (aE (top 40) 8)
def b353:Qb:=cC "dealings" "Net.dealings" 631 189 1 0 0 3 348 Pe 181 349 .none (.ref 350) (.ref 351) (.ref 352) 635 189 636
def b354:Qb:=fO (FN "dealings" "Net.dealings" (aE (top 40) 8) .none .none .none tx1 Pb (.ref 353) .none)
def b357:Qb:=fB "steps" "Net.steps" (aE (top 40) 9)
def Nn:Qb:=cC "steps" "Net.steps" 638 192 3 0 0 3 355 Pe 181 356 .none .none .none (.ref 357) 641 192 642
def FX:Qb:=fO (FN "steps" "Net.steps" (aE (top 40) 9) .none .none .none tx1 Pb (.ref 358) .none)
def b362:Qb:=tS 647 ["self"]
def b364:Qb:=fB "paper" "Net.paper" (aE (top 40) 10)
def b365:Qb:=cC "paper" "Net.paper" 644 197 1 0 0 3 360 Pe 181 361 .none (.ref 362) (.ref 363) (.ref 364) 648 197 649
def b366:Qb:=fO (FN "paper" "Net.paper" (aE (top 40) 10) .none .none .none tx1 Pb (.ref 365) .none)
def b367:Qb:=tS 651 ["column_list","counted","pairs","row_list"]
def Nm:Qb:=⟨(.type "dict"),Pb,(.dict #[(E P "__module__" 563 tx1),(E P "__firstlineno__" 567 (.int 158 566)),(eR P "__init__" 579 300),(eR P "__eq__" 587 307),(eR P "__len__" 594 314),(eR P "rowsums" 601 321),(eR P "columnsums" 608 328),(eR P "bounds" 614 333),(eR P "counts_at" 623 340),(eR P "tables" 630 347),(eR P "dealings" 637 354),(eR P "steps" 643 359),(eR P "paper" 650 366),(eR P "__static_attributes__" 655 367),(eR P "__dict__" 657 370),(eR P "__weakref__" 659 371),(E P "__doc__" 660 .none),(E P "__hash__" 661 .none)] 5),#[]⟩
noncomputable def Nl:Qb:=⟨(.type "type"),Pb,(.cls ⟨"Net",[(.type "object")],[(.ref 369),(.type "object")],368,"Net",Pe,[],[],Pj,Pb,Pj⟩),#[Pb,Pb,(on (.str "Net" 556)),(on (.str "Net" 564)),(on (.builtin "object.__new__")),(on (.bool Pe))]⟩
noncomputable def b370:Qb:=⟨(.type "getset_descriptor"),Pb,(.fields #[(.str "__dict__" 656),(.ref 369),(.builtin "function.__dict__"),(.builtin "function.__dict__#set")]),#[]⟩
noncomputable def b371:Qb:=⟨(.type "getset_descriptor"),Pb,(.fields #[(.str "__weakref__" 658),(.ref 369),(.builtin "ExceptionGroup.__weakref__"),.none]),#[]⟩
noncomputable def b372:Qb:=⟨(.type "super"),Pb,(.fields #[(.ref 369),(.ref 369),(.ref 369)]),#[]⟩
def b373:Qb:=iSs 369
def b376:Qb:=tS 669 ["k","many"]
def b378:Qb:=fB "check_number" "check_number" (top 42)
def Nk:Qb:=cG "check_number" 666 200 2 0 374 181 671
def FW:Qb:=fM "edgetally.order" 664 "check_number" 42 379
def b383:Qb:=tS 677 ["net","level","rests","told","counts","tables","dealings"]
def b385:Qb:=fB "steps_counted" "steps_counted" (top 43)
def Nj:Qb:=cG "steps_counted" 674 203 3 0 381 181 684
def FV:Qb:=fM "edgetally.order" 664 "steps_counted" 43 386
def b390:Qb:=tS 690 ["numbered","k","at"]
def b392:Qb:=fB "falls_to" "falls_to" (top 44)
def Ni:Qb:=cG "falls_to" 687 209 2 0 388 181 693
def FU:Qb:=fM "edgetally.order" 664 "falls_to" 44 393
def b397:Qb:=fB "kth_table" "kth_table" (top 45)
def Nh:Qb:=cF "kth_table" 696 215 2 0 395 181 699
def FT:Qb:=fM "edgetally.order" 664 "kth_table" 45 398
def b402:Qb:=fB "columns_asked" "columns_asked" (top 46)
def Ng:Qb:=cF "columns_asked" 702 225 2 0 400 181 705
def FS:Qb:=fM "edgetally.order" 664 "columns_asked" 46 403
def b407:Qb:=tS 711 ["net","level","rests","filling","tables_ahead","dealings_ahead","counts","tables","dealings"]
def b409:Qb:=fB "counted_ahead" "counted_ahead" (top 47)
def Nf:Qb:=cG "counted_ahead" 708 230 4 0 405 181 720
def FR:Qb:=fM "edgetally.order" 664 "counted_ahead" 47 410
def b414:Qb:=tS 726 ["net","rows","rests","number","level","filling"]
def b416:Qb:=fB "number_of" "number_of" (top 48)
def Nd:Qb:=cG "number_of" 723 239 2 0 412 181 732
def FQ:Qb:=fM "edgetally.order" 664 "number_of" 48 417
def b421:Qb:=fB "_law_bag" "_law_bag" (top 50)
def Nb:Qb:=cF "_law_bag" 737 247 1 0 419 181 740
def FP:Qb:=fL "_law_bag" "_law_bag" 50 422
def b426:Qb:=tS 746 ["_law_bag_here","_law_lot","_law_cells","_law_at","_law_cell"]
def b428:Qb:=fB "_law_pull" "_law_pull" (top 51)
def Na:Qb:=cG "_law_pull" 743 249 2 0 424 181 751
def FO:Qb:=fL "_law_pull" "_law_pull" 51 429
def b433:Qb:=fB "_law_same" "_law_same" (top 52)
def M9:Qb:=cF "_law_same" 754 259 2 0 431 181 757
def FM:Qb:=fL "_law_same" "_law_same" 52 434
def b438:Qb:=fB "_law_grid" "_law_grid" (top 53)
def M8:Qb:=cF "_law_grid" 760 271 4 0 436 181 763
def FK:Qb:=fL "_law_grid" "_law_grid" 53 439
def b443:Qb:=tS 769 ["_law_bag_here","_law_way","_law_block","_law_columns"]
def b445:Qb:=fB "_law_small" "_law_small" (top 54)
def M7:Qb:=cG "_law_small" 766 278 1 0 441 181 773
def FJ:Qb:=fL "_law_small" "_law_small" 54 446
def b450:Qb:=fB "_law_turned" "_law_turned" (top 55)
def M6:Qb:=cF "_law_turned" 776 289 1 0 448 181 779
def FI:Qb:=fL "_law_turned" "_law_turned" 55 451
def b455:Qb:=fB "_law_rowsums" "_law_rowsums" (top 56)
def M5:Qb:=cF "_law_rowsums" 782 291 1 0 453 181 785
def FH:Qb:=fL "_law_rowsums" "_law_rowsums" 56 456
def b460:Qb:=fB "_law_columnsums" "_law_columnsums" (top 57)
def M4:Qb:=cF "_law_columnsums" 788 293 1 0 458 181 791
def FG:Qb:=fL "_law_columnsums" "_law_columnsums" 57 461
def b465:Qb:=fB "_law_free" "_law_free" (top 58)
def M3:Qb:=cF "_law_free" 794 295 2 0 463 181 797
def FF:Qb:=fL "_law_free" "_law_free" 58 466
def b470:Qb:=tS 803 ["_law_bag_here","_law_grid_here","_law_told","_law_at","_law_row","_law_to","_law_count","_law_way"]
def b472:Qb:=fB "_law_bounds" "_law_bounds" (top 59)
def M2:Qb:=cG "_law_bounds" 800 297 2 0 468 181 811
def FE:Qb:=fL "_law_bounds" "_law_bounds" 59 473
def b477:Qb:=fB "_law_copied" "_law_copied" (top 60)
def M1:Qb:=cF "_law_copied" 814 309 1 0 475 181 817
def FC:Qb:=fL "_law_copied" "_law_copied" 60 478
def b482:Qb:=fB "_law_fit" "_law_fit" (top 61)
def M0:Qb:=cF "_law_fit" 820 311 3 0 480 181 823
def FA:Qb:=fL "_law_fit" "_law_fit" 61 483
def b487:Qb:=fB "_law_less" "_law_less" (top 62)
def MZ:Qb:=cF "_law_less" 826 320 2 0 485 181 829
def EZ:Qb:=fL "_law_less" "_law_less" 62 488
def b492:Qb:=fB "_law_listing" "_law_listing" (top 63)
def MY:Qb:=cF "_law_listing" 832 322 3 0 490 181 835
def EY:Qb:=fL "_law_listing" "_law_listing" 63 493
def b497:Qb:=tS 841 ["_law_grid_here","_law_limits"]
def b499:Qb:=fB "_law_all" "_law_all" (top 64)
def MX:Qb:=cG "_law_all" 838 331 2 0 495 181 843
def EX:Qb:=fL "_law_all" "_law_all" 64 500
def b504:Qb:=tS 849 ["_law_grid_here","_law_limits"]
def b506:Qb:=fB "_law_net" "_law_net" (top 65)
def MW:Qb:=cG "_law_net" 846 333 2 0 502 181 851
def EW:Qb:=fL "_law_net" "_law_net" 65 507
def b511:Qb:=tS 857 ["_law_script","_law_bag_here","_law_grid_here","_law_limits","_law_net_here","_law_told","_law_k","_law_block","_law_found","_law_handed"]
def b513:Qb:=fB "law" "law" (top 66)
def MV:Qb:=cG "law" 854 335 1 0 509 181 867
def EV:Qb:=fL "law" "law" 66 514
def h0_3:Qb:=⟨(.type "dict"),Pb,(.dict (((mL P).take 9).set 0 (E P "__name__" 165 tx2)).toArray 9),#[]⟩
def OX:Qb:=nO []
def h1_3:Qb:=⟨(.type "dict"),Pb,(.dict (((mL P).take 9).set 0 (E P "__name__" 165 tx2)).toArray 9),#[]⟩
def OR:Qb:=nT [1,0,20,5,0,27,10,0,47,14,0,67,18,0,87]
def k1_3:Qb:=⟨(.type "dict"),Pb,(.dict (((mL P).take 14).set 0 (E P "__name__" 165 tx0)).toArray 14),#[]⟩
noncomputable def OQ:Qb:=⟨(.type "type"),Pb,(.cls ⟨"EdgeError",[(.type "ValueError")],[(.ref 38),(.type "ValueError"),(.type "Exception"),(.type "BaseException"),(.type "object")],37,"EdgeError",Pe,[],[(.ref 59),(.ref 79),(.ref 98)],Pj,Pb,Pj⟩),#[(on (.ref 22)),Pb,(on (.str "EdgeError" 196)),(on (.str "EdgeError" 204)),(on (.builtin "ValueError.__new__")),(on (.bool Pe))]⟩
def OP:Qb:=nT [1,0,20,5,0,27,10,0,47,14,0,67,18,0,87,23,0,106,29,0,125,33,0,145,42,0,165,44,0,170,55,0,177,59,0,182,68,0,187,71,0,194]
def k2_3:Qb:=⟨(.type "dict"),Pb,(.dict (((mL P).take 27).set 0 (E P "__name__" 165 (.str "edgetally.counts" 420))).toArray 27),#[]⟩
def OO:Qb:=nT [1,0,20,5,0,27,10,0,47,14,0,67,18,0,87,23,0,106,29,0,125,33,0,145,42,0,165,44,0,170,55,0,177,59,0,182,68,0,187,71,0,194,76,0,201,84,0,206,94,0,211,96,0,216,99,0,221,101,0,226,103,0,231,105,0,236,110,0,243,117,0,250,123,0,257,128,0,262,130,0,267,132,0,272,140,0,279,148,0,284]
def k3_3:Qb:=⟨(.type "dict"),Pb,(.dict (((mL P).take 44).set 0 (E P "__name__" 165 tx1)).toArray 44),#[]⟩
def ON:Qb:=nT [1,0,20,5,0,27,10,0,47,14,0,67,18,0,87,23,0,106,29,0,125,33,0,145,42,0,165,44,0,170,55,0,177,59,0,182,68,0,187,71,0,194,76,0,201,84,0,206,94,0,211,96,0,216,99,0,221,101,0,226,103,0,231,105,0,236,110,0,243,117,0,250,123,0,257,128,0,262,130,0,267,132,0,272,140,0,279,148,0,284,158,0,291,200,0,379,203,0,386,209,0,393,215,0,398,225,0,403,230,0,410,239,0,417,247,0,422,249,0,429,259,0,434,271,0,439,278,0,446,289,0,451,291,0,456]
noncomputable def k4_3:Qb:=⟨(.type "dict"),Pb,(.dict ((mL P).take 59).toArray 59),#[]⟩
def kL:List Qb:=[b0 P,b1 P,b2,b3 P,b4,b5,b6,b7,b8,b9,b10,b7,b12,b13,b14,b7,b8,b17,b7,b19,b20,b21,b22,b23,b24 P,b7,b26,b27,b28,b7,b8,b31,b7,b33,b34,b35,b36,b37 P,b38,b39,b40,b41,b42,b23,b44 P,b7,b46,b47,b48,b49,b7,b8,b52,b7,b54,b55,b56,b7,b58 P,b59,b60,b61,b42,b23,b64 P,b7,b66,b67,b68,b69,b7,b8,b72,b7,b74,b75,b76,b7,b78 P,b79,b80,b81,b42,b23,b84 P,b7,b86,b87,b88,b7,b8,b91,b7,b93,b94,b95,b96,b97 P,b98,b99,b100,b42,b23,b103 P,b7,b105,b106,b107,b7,b8,b110,b7,b112,b113,b114,b115,b116 P,b117,b118,b119,b42,b23,b122 P,b7,b124,b125,b126,b127,b7,b8,b130,b7,b132,b133,b134,b7,b136 P,b137,b138,b139,b42,b23,b142 P,b7,b144,b145,b146,b147,b7,b8,b150,b7,b152,b153,b154,b7,b156 P,b157,b158,b159,NT,NS P,b7,b8,b164,NR,GY,b7,b8,b169,NQ,GX,b7,b8,b174,b7,b176,NP,GW,b7,b8,b181,NO,GV,b7,b8,b186,NN,GU,b7,b8,b191,b7,b193,NM,GT,b7,b8,b198,b7,b200,NL,GS,b7,b8,b205,NK,GR,b7,b8,b210,NJ,GQ,b7,b8,b215,NI,GP,b7,b8,b220,NH,GO,b7,b8,b225,NG,GN,b7,b8,b230,NF,GM,b7,b8,b235,NE,GL,b7,b8,b240,b7,b242,ND,GK,b7,b8,b247,b7,b249,NC,GJ,b7,b8,b254,b7,b256,NB,GI,b7,b8,b261,NA,GH,b7,b8,b266,Nz,GG,b7,b8,b271,Ny,GF,b7,b8,b276,b7,b278,Nx,GE,b7,b8,b283,Nw,GD,b7,b23,b288 P,b7,b290,b291,b292,Nv P,b7,b8,b296,b7,b298,Nu,GC,b7,b8,b303,b7,b305,b306,b307,b7,b8,b310,b7,b312,b313,b314,b7,b8,b317,b7,b319,Nr,GB,b7,b8,b324,b7,b326,Nq,GA,b7,b8,b331,b332,b333,b7,b8,b336,b7,b338,Np,FZ,b7,b8,b343,b7,b345,No,FY,b7,b8,b350,b7,b352,b353,b354,b7,b8,b357,Nn,FX,b7,b8,b362,b7,b364,b365,b366,b367,Nm P,Nl,b370,b371,b372,b373,b7,b8,b376,b7,b378,Nk,FW,b7,b8,b383,b7,b385,Nj,FV,b7,b8,b390,b7,b392,Ni,FU,b7,b8,b397,Nh,FT,b7,b8,b402,Ng,FS,b7,b8,b407,b7,b409,Nf,FR,b7,b8,b414,b7,b416,Nd,FQ,b7,b8,b421,Nb,FP,b7,b8,b426,b7,b428,Na,FO,b7,b8,b433,M9,FM,b7,b8,b438,M8,FK,b7,b8,b443,b7,b445,M7,FJ,b7,b8,b450,M6,FI,b7,b8,b455,M5,FH,b7,b8,b460,M4,FG,b7,b8,b465,M3,FF,b7,b8,b470,b7,b472,M2,FE,b7,b8,b477,M1,FC,b7,b8,b482,M0,FA,b7,b8,b487,MZ,EZ,b7,b8,b492,MY,EY,b7,b8,b497,b7,b499,MX,EX,b7,b8,b504,b7,b506,MW,EW,b7,b8,b511,b7,b513,MV,EV]
def h0H:QW:=⟨⟨((kL P).take 11).set 3 (h0_3 P)⟩,{}⟩
def h1H:QW:=⟨⟨(((kL P).take 15).set 3 (h1_3 P)).set 12 (OX)⟩,{}⟩
def k1H:QW:=⟨⟨((((kL P).take 101).set 3 (k1_3 P)).set 12 (OR)).set 38 (OQ)⟩,{}⟩
def k2H:QW:=⟨⟨(((kL P).take 196).set 3 (k2_3 P)).set 12 (OP)⟩,{}⟩
def k3H:QW:=⟨⟨(((kL P).take 286).set 3 (k3_3 P)).set 12 (OO)⟩,{}⟩
def k4H:QW:=⟨⟨(((kL P).take 458).set 3 (k4_3 P)).set 12 (ON)⟩,{}⟩
noncomputable def k5H:QW:=⟨⟨kL P⟩,{}⟩
end
def KH:WN->PZ:=λP=>
[(2,b2),(3,b3 P),(34,b34),(35,b35),(37,b37 P),(38,b38),(160,NT),(161,NS P),(165,NR),(166,GY),(170,NQ),(171,GX),(177,NP),(178,GW),(182,NO),(183,GV),(187,NN),(188,GU),(194,NM),(195,GT),(201,NL),(202,GS),(206,NK),(207,GR),(211,NJ),(212,GQ),(216,NI),(217,GP),(221,NH),(222,GO),(226,NG),(227,GN),(231,NF),(232,GM),(236,NE),(237,GL),(243,ND),(244,GK),(250,NC),(251,GJ),(257,NB),(258,GI),(262,NA),(263,GH),(267,Nz),(268,GG),(272,Ny),(273,GF),(279,Nx),(280,GE),(284,Nw),(285,GD),(293,Nv P),(299,Nu),(300,GC),(320,Nr),(321,GB),(327,Nq),(328,GA),(339,Np),(340,FZ),(346,No),(347,FY),(358,Nn),(359,FX),(368,Nm P),(369,Nl),(379,Nk),(380,FW),(386,Nj),(387,FV),(393,Ni),(394,FU),(398,Nh),(399,FT),(403,Ng),(404,FS),(410,Nf),(411,FR),(417,Nd),(418,FQ),(422,Nb),(423,FP),(429,Na),(430,FO),(434,M9),(435,FM),(439,M8),(440,FK),(446,M7),(447,FJ),(451,M6),(452,FI),(456,M5),(457,FH),(461,M4),(462,FG),(466,M3),(467,FF),(473,M2),(474,FE),(478,M1),(479,FC),(483,M0),(484,FA),(488,MZ),(489,EZ),(493,MY),(494,EY),(500,MX),(501,EX),(507,MW),(508,EW),(514,MV),(515,EV)]
noncomputable def aH:List Pk:=[2,3,34,35,37,38,160,161,165,166,170,171,177,178,182,183,187,188,194,195,201,202,206,207,211,212,216,217,221,222,226,227,231,232,236,237,243,244,250,251,257,258,262,263,267,268,272,273,279,280,284,285,293,299,300,320,321,327,328,339,340,346,347,358,359,368,369,379,380,386,387,393,394,398,399,403,404,410,411,417,418,422,423,429,430,434,435,439,440,446,447,451,452,456,457,461,462,466,467,473,474,478,479,483,484,488,489,493,494,500,501,507,508,514,515]
theorem eH:∀P,aH=(KH P).map (·.1):=λ_=>by kernel_rfl
noncomputable def qH:Qf:={PySem.Challenge.pw_edgetally_k24_tables_by_number with main:={PySem.Challenge.pw_edgetally_k24_tables_by_number.main with body:=[top 0,top 2,top 3,top 4,top 5,top 6,top 7,top 8,top 10,top 11,top 12,top 13,top 15,top 16,top 17,top 18,top 20,top 21,top 22,top 24,top 25,top 26,top 27,top 28,top 29,top 30,top 32,top 33,top 34,top 35,top 36,top 37,top 38,top 39,top 40,top 42,top 43,top 44,top 45,top 46,top 47,top 48,top 50,top 51,top 52,top 53,top 54,top 55,top 56,top 57,top 58,top 59,top 60,top 61,top 62,top 63,top 64,top 65,top 66]}}
noncomputable abbrev lvH:List (Qn×PySem.W.WData):=[("FREE",PySem.W.WData.tuple [WI 0,WI 40])]
noncomputable abbrev loH:List Qn:=["BadSums","BadBounds","BadNumber","NoTable","FREE","free","Net"]
abbrev hkH:=PySem.W.kHook KH aH eH
def xtH(s:Pr):Bool:=PySem.W.xlAt qH lvH s&&PySem.W.recOk (PySem.W.RowW.records (RV (Sc Qk))) s
noncomputable abbrev pH:Qf:=WO (RV (Sc Qk))
noncomputable def bdH:List QU:=PySem.W.behindTheImports pH
noncomputable def evH:Wr:={scope:=pH.main.scope,locals:=mainNs,globals:=mainNs,cells:=[],code:=(.ref 13),frame:=(on 14)}
def cH:Code:= .body bdH evH
noncomputable abbrev tpH:List Frame:=[PySem.W.topFrame ⟨0,0,0,0⟩]
theorem opH(w:Qq):(PySem.W.fencedOpening Rw pH w 7542).map (λs=>(s.heap,s.gens,s.drawn,s.toks))=on (h0H w.params,#[],{},181):=by kernel_rfl
theorem szH(w:Qq):((h0H w.params).isNs RP&&(#[]:Array GenState).size==0,(h0H w.params).objs.size,(h0H w.params).nsMap RP "__annotations__")=(Pe,11,(on (.ref 6))):=by kernel_rfl
theorem r1H(w:Qq)(os:Vd):PySem.W.topGo Rw pH w 11 (on (.ref 6)) 12 ⟨h0H w.params,#[],{},181,os⟩ (Yr pH)=on (⟨h1H w.params,#[],{},187,os⟩,⟨denote Rw (.body bdH evH),cH,⟨0,0,0,0⟩,tpH⟩):=by kernel_rfl
theorem r2H(w:Qq)(os:Vd):TL Rw pH w 11 (on (.ref 6)) 1 1 ⟨h1H w.params,#[],{},187,os⟩ (PySem.W.blockOf bdH evH cH ⟨0,0,0,0⟩ tpH)=on (.next,⟨h1H w.params,#[],{},187,os⟩,cH,⟨0,0,0,0⟩):=by kernel_rfl
theorem c1H(w:Qq)(os:Vd):TL Rw pH w 11 (on (.ref 6)) 1 995 ⟨h1H w.params,#[],{},187,os⟩ (TW (bdH.take 6) evH cH ⟨0,0,0,0⟩ tpH)=on (.next,⟨k1H w.params,#[],{},299,os⟩,cH,⟨18,0,22,24⟩):=by kernel_rfl
theorem c2H(w:Qq)(os:Vd):TL Rw pH w 11 (on (.ref 6)) 1 971 ⟨k1H w.params,#[],{},299,os⟩ (TW ((bdH.drop 6).take 15) evH cH ⟨18,0,22,24⟩ tpH)=on (.next,⟨k2H w.params,#[],{},431,os⟩,cH,⟨71,0,75,18⟩):=by kernel_rfl
theorem c3H(w:Qq)(os:Vd):TL Rw pH w 11 (on (.ref 6)) 1 477 ⟨k2H w.params,#[],{},431,os⟩ (TW (((bdH.drop 6).drop 15).take 19) evH cH ⟨71,0,75,18⟩ tpH)=on (.next,⟨k3H w.params,#[],{},556,os⟩,cH,⟨148,0,157,112⟩):=by kernel_rfl
theorem c4H(w:Qq)(os:Vd):TL Rw pH w 11 (on (.ref 6)) 1 979 ⟨k3H w.params,#[],{},556,os⟩ (TW ((((bdH.drop 6).drop 15).drop 19).take 17) evH cH ⟨148,0,157,112⟩ tpH)=on (.next,⟨k4H w.params,#[],{},788,os⟩,cH,⟨291,0,292,57⟩):=by kernel_rfl
theorem c5H(w:Qq)(os:Vd):TL Rw pH w 11 (on (.ref 6)) 1 291 ⟨k4H w.params,#[],{},788,os⟩ (TW (((((bdH.drop 6).drop 15).drop 19).drop 17).take 10) evH cH ⟨291,0,292,57⟩ tpH)=on (.next,⟨k5H w.params,#[],{},870,os⟩,cH,⟨335,0,353,15⟩):=by kernel_rfl
theorem e0H:(((((bdH.drop 6).drop 15).drop 19).drop 17).drop 10)=[]:=by kernel_rfl
theorem r9H(w:Qq)(os:Vd):YI Rw pH w 11 (on (.ref 6)) 2 ⟨k5H w.params,#[],{},870,os⟩ ⟨PySem.W.doneF .next,cH,⟨335,0,353,15⟩,tpH⟩=on ⟨k5H w.params,#[],{},870,os⟩:=by kernel_rfl
theorem rnH(w:Qq)(os:Vd):YI Rw pH w 11 (on (.ref 6)) (12+(1+(995+(971+(477+(979+(291+2))))))) ⟨h0H w.params,#[],{},181,os⟩ (Yr pH)=on ⟨k5H w.params,#[],{},870,os⟩:=PySem.W.go_top (r1H w os) (PySem.W.piece_block (r2H w os) (je 6 (c1H w os) (je 15 (c2H w os) (je 19 (c3H w os) (je 17 (c4H w os) (je 10 (c5H w os) (EE e0H (r9H w os))))))))
theorem hlH:PySem.W.LeftO pH qH loH xtH (PySem.W.Hook.obs hkH) (PySem.W.Hook.val hkH) 7542:=PySem.W.LeftO.of_pieces (H₀:=h0H) (H₁:=k5H) opH szH rnH (by decide +kernel) λw=>by kernel_rfl
theorem wsH:PySem.W.OpenLaw.wellSaid Qk=Pe:=by decide +kernel
theorem okH:(PySem.W.chainsOk qH&&PySem.W.opensWell (WO (RV (Sc Qk)))&&(PySem.W.frees (RV (Sc Qk))&&(PySem.W.RowW.within (RV (Sc Qk))).isEmpty))=Pe:=by decide +kernel
abbrev adH:Ad:={Aa:=38,Ab:=35,Ac:=fD b35,Ae:=369,Af:=166,Ag:=fD GY,Ah:=171,Ai:=fD GX,Aj:=178,Ak:=fD GW,Al:=183,Am:=fD GV,An:=188,Ao:=fD GU,Aq:=195,Ar:=fD GT,As:=202,At:=fD GS,Au:=207,Av:=fD GR,Aw:=212,Ax:=fD GQ,Ay:=217,Az:=fD GP,A0:=222,A1:=fD GO,A2:=227,A3:=fD GN,A4:=232,A5:=fD GM,A6:=237,A7:=fD GL,A8:=244,A9:=fD GK,Ba:=251,Bb:=fD GJ,Bc:=258,Bd:=fD GI,Be:=263,Bf:=fD GH,Bh:=268,Bi:=fD GG,Bj:=273,Bk:=fD GF,Bl:=280,Bm:=fD GE,Bn:=285,Bo:=fD GD,Bp:=380,Bq:=fD FW,Br:=387,Bs:=fD FV,Bt:=394,Bu:=fD FU,Bv:=399,Bw:=fD FT,Bx:=404,By:=fD FS,Bz:=411,B0:=fD FR,B5:=418,B7:=fD FQ,B8:=423,Ca:=fD FP,Cb:=430,Cc:=fD FO,Cd:=435,Cf:=fD FM,Cg:=440,Ch:=fD FK,Ci:=447,Cj:=fD FJ,Ck:=452,Cl:=fD FI,Cm:=457,Cn:=fD FH,Co:=462,Cp:=fD FG,Cq:=467,Cr:=fD FF,Cs:=474,Ct:=fD FE,Cu:=479,Cv:=fD FC,Cw:=484,Cy:=fD FA,Cz:=489,C0:=fD EZ,C2:=494,C3:=fD EY,C4:=501,C5:=fD EX,C6:=508,C7:=fD EW,C8:=300,C9:=fD GC,Da:=347,Db:=fD FY,Dd:=340,Df:=fD FZ,Dg:=321,Dh:=fD GB,Di:=328,Dj:=fD GA,Dl:=359,Dm:=fD FX,Do:=515,Dp:=fD EV}
section
variable{P:WN}{h:QW}{mg:Qn->Option Pl}
theorem fH{x q:Qn}{s:QU}{f:Pk}{a b d e cd ct:Pl}{g:Option Pk}(l:(KH P).lookup f=on (fO (FN x q s a b d e g cd ct)):=by kernel_rfl)(c:Uk (KH P) cd q=Pe:=by kernel_rfl)(k:U1 (KH P) (.ref f)=Pe:=by kernel_rfl):FunD (KH P) x q s f (FN x q s a b d e g cd ct):=KS l c k
theorem mO(X:(KH P).In h)(G:h.Ns RP mg){n:Qn}{v:Pl}(e:PySem.W.nsIn (KH P) RP n=on (on v):=by kernel_rfl):mg n=on v:=mg_of X G e
theorem mN(X:(KH P).In h)(G:h.Ns RP mg){n:Qn}(e:PySem.W.nsIn (KH P) RP n=on Pb:=by kernel_rfl):mg n=Pb:=PySem.W.mg_none_of X G e
theorem nH(X:(KH P).In h)(G:h.Ns RP mg):Fns (KH P) mg adH where
 Dq:=mN X G
 Dr:=mN X G
 Dt:=mN X G
 Du:=mN X G
 Dv:=mN X G
 Dw:=mN X G
 Dx:=mN X G
 Dy:=mN X G
 Dz:=mN X G
 D0:=mN X G
 D3:=mN X G
 D4:=mN X G
 D5:=mN X G
 D6:=mN X G
 D7:=mN X G
 D8:=mN X G
 D9:=mN X G
 Ea:=mN X G
 Eb:=qx (u:=(.int 40 378)) (mO X G) mX
 Ec:=qx (u:=(.int 6 382)) (mO X G) mX
 Ed:=qx (u:=(.int 4 380)) (mO X G) mX
 Ee:=qx (u:=(.int 500 497)) (mO X G) mX
 Ef:=fH
 Eg:=mO X G
 Eh:=MR (us:=[(.ref 160)]) 2 rfl (λs us a b=>by obtain⟨c,d,rfl⟩:=lU2 b;exact PySem.W.kp_binds a λS=>by kernel_rfl) (KZ (JG (p:=160) (q1:=(.type "tuple")) (q2:=Pb) (q3:=#[(.int 0 384),(.int 40 378)]) (q4:=0) (q5:=#[]) (by kernel_rfl) rfl (by decide) (by repeat (first|exact trivial|refine⟨rfl,?_⟩))) MP)
 Ei:=fH
 Ej:=mO X G
 Ek:= .all (bA2 λ_ _=>rfl)
 El:=fH
 Em:=mO X G
 En:= .all (bA1 λ_=>rfl)
 Eo:=fH
 Ep:=mO X G
 Er:= .all (bA3 λ_ _ _=>rfl)
 Es:=fH
 Et:=mO X G
 Eu:= .all (bA1 λ_=>rfl)
 Ev:=fH
 Ew:=mO X G
 Ex:= .all (bA1 λ_=>rfl)
 Ey:=fH
 Ez:=mO X G
 E2:= .all (bA1 λ_=>rfl)
 E3:=fH
 E4:=mO X G
 E5:= .all (bA3 λ_ _ _=>rfl)
 E6:=fH
 E7:=mO X G
 E8:= .all (bA2 λ_ _=>rfl)
 E9:=fH
 Fa:=mO X G
 Fb:= .all (bA4 λ_ _ _ _=>rfl)
 Fc:=fH
 Fd:=mO X G
 Fe:= .all (bA3 λ_ _ _=>rfl)
 Ff:=fH
 Fg:=mO X G
 Fh:= .all (bA4 λ_ _ _ _=>rfl)
 Fi:=fH
 Fj:=mO X G
 Fk:= .all (bA3 λ_ _ _=>rfl)
 Fl:=fH
 Fm:=mO X G
 Fn:= .all (bA1 λ_=>rfl)
 Fo:=fH
 Fp:=mO X G
 Fq:= .all (bA3 λ_ _ _=>rfl)
 Fs:=fH
 Ft:=mO X G
 Fu:= .all (bA1 λ_=>rfl)
 Fv:=fH
 Fw:=mO X G
 Fy:= .all (bA3 λ_ _ _=>rfl)
 Fz:=fH
 F4:=mO X G
 F5:= .all (bA4 λ_ _ _ _=>rfl)
 F6:=fH
 F7:=mO X G
 F8:= .all (bA2 λ_ _=>rfl)
 F9:=fH
 Ga:=mO X G
 Gb:= .all (bA3 λ_ _ _=>rfl)
 Gc:=fH
 Gd:=mO X G
 Ge:= .all (bA3 λ_ _ _=>rfl)
 Gf:=fH
 Gg:=mO X G
 Gi:= .all (bA3 λ_ _ _=>rfl)
 Gj:=fH
 Gk:=mO X G
 Gm:= .all (bA2 λ_ _=>rfl)
 Gn:=fH
 Go:=mO X G
 Gp:= .all (bA3 λ_ _ _=>rfl)
 Gq:=fH
 Gr:=mO X G
 Gs:= .all (bA2 λ_ _=>rfl)
 Gu:=fH
 Gv:=mO X G
 Gx:= .all (bA2 λ_ _=>rfl)
 Gy:=fH
 Gz:=mO X G
 G0:= .all (bA2 λ_ _=>rfl)
 G1:=fH
 G2:=mO X G
 G3:= .all (bA4 λ_ _ _ _=>rfl)
 G4:=fH
 G5:=mO X G
 G6:= .all (bA2 λ_ _=>rfl)
 G7:=fH
 G8:=mO X G
 G9:= .all (bA1 λ_=>rfl)
 Ha:=fH
 Hb:=mO X G
 Hc:= .all (bA2 λ_ _=>rfl)
 Hd:=fH
 He:=mO X G
 Hf:= .all (bA2 λ_ _=>rfl)
 Hg:=fH
 Hh:=mO X G
 Hi:= .all (bA4 λ_ _ _ _=>rfl)
 Hj:=fH
 Hk:=mO X G
 Hl:= .all (bA1 λ_=>rfl)
 Hm:=fH
 Hn:=mO X G
 Ho:= .all (bA1 λ_=>rfl)
 Hq:=fH
 Hr:=mO X G
 Ht:= .all (bA1 λ_=>rfl)
 Hu:=fH
 Hv:=mO X G
 Hw:= .all (bA1 λ_=>rfl)
 Hx:=fH
 Hy:=mO X G
 Hz:= .all (bA2 λ_ _=>rfl)
 Ia:=fH
 Ib:=mO X G
 Id:= .all (bA2 λ_ _=>rfl)
 Ie:=fH
 Ig:=mO X G
 Ih:= .all (bA1 λ_=>rfl)
 Ii:=fH
 Ij:=mO X G
 Ik:= .all (bA3 λ_ _ _=>rfl)
 Il:=fH
 Im:=mO X G
 Io:= .all (bA2 λ_ _=>rfl)
 Ip:=fH
 Iq:=mO X G
 Ir:= .all (bA3 λ_ _ _=>rfl)
 Iu:=fH
 Iw:=mO X G
 Ix:= .all (bA2 λ_ _=>rfl)
 Iy:=fH
 Iz:=mO X G
 I0:= .all (bA2 λ_ _=>rfl)
 I9:=fH
 Ja:=⟨by kernel_rfl,by kernel_rfl,by kernel_rfl,by kernel_rfl⟩
 Jb:=OM (sv:=[.kw 0]) (.kw .nil) rfl (by decide) λs us g a e f=>by obtain⟨c,d,i,rfl⟩:=lU3 e;obtain⟨j,rfl⟩:=lU1 f;exact .of_eq rfl
 Jc:=fH
 Jd:=⟨by kernel_rfl,by kernel_rfl,by kernel_rfl⟩
 Je:= .all (bA1 λ_=>rfl)
 Jf:=fH
 Jg:=⟨by kernel_rfl,by kernel_rfl,by kernel_rfl⟩
 Jh:= .all (bA3 λ_ _ _=>rfl)
 Ji:=fH
 Jj:=⟨by kernel_rfl,by kernel_rfl,by kernel_rfl⟩
 Jk:= .all (bA1 λ_=>rfl)
 Jl:=fH
 Jm:=⟨by kernel_rfl,by kernel_rfl,by kernel_rfl⟩
 Jn:= .all (bA1 λ_=>rfl)
 Jo:=fH
 Jp:=⟨by kernel_rfl,by kernel_rfl,by kernel_rfl⟩
 Jq:= .all (bA3 λ_ _ _=>rfl)
 Jr:=⟨by kernel_rfl,by kernel_rfl,by kernel_rfl,by kernel_rfl⟩
 Js:=mO X G
 Jt:=show TX (KH P) _ _=_ by kernel_rfl
 Ju:=show TX (KH P) _ _=_ by kernel_rfl
 Jv:=show TX (KH P) _ _=_ by kernel_rfl
 Jw:=show TX (KH P) _ _=_ by kernel_rfl
 Jx:=fH
 Jy:= .all (bA3 λ_ _ _=>rfl)
 Jz:=mO X G
 J0:=⟨by kernel_rfl,by kernel_rfl,by kernel_rfl,by kernel_rfl⟩
theorem wlkH:PySem.W.WalkO qH loH (PySem.W.XL qH lvH) (PySem.W.Hook.says hkH) (RV (Sc Qk)) (Option.get (PySem.W.defOf qH "law") rfl).1 [] (λf vs=>X7 f vs):=
 L2.walk_of (n:=63) (k:=9) (x:="_law_script") (CX:=λw=>CXE _ w) (sp:=λw=>HQ (KH w.params)) rfl (by decide) rfl ⟨rfl,by decide,by decide,rfl⟩ (λw h Y=>PySem.W.kIn_of Y) (λw mg i h c G b=>by
  have e:=b.symm.trans (mg_of c G (v:= .ref 515) (by kernel_rfl));cases e;exact⟨FN "law" "law" (top 66) .none .none .none (.str "law_edgetally_k24_tables_by_number" 735) Pb (.ref 514) .none,λs v=> .of_eq rfl,λbase _ _=>Me _ _ _ (a:=adH) (fH (by kernel_rfl) (by kernel_rfl) (by kernel_rfl)) (nH c G) λβ ok=>DS (K:=KH w.params) (a:=adH)  β ok⟩) (λ_ _ a ns d _ g=>⟨a,ns,rfl,g,d,λ_=>rfl⟩) λ_ _ _ _ _ h=>by obtain⟨x,C,j,_,fl⟩:=h;obtain⟨_,_,z⟩:=fl.wish;all_goals exact z
end
end Law
open PySem PySem.W PyProof.Rows
set_option maxHeartbeats 0 in
theorem PySem.Challenge.cw_edgetally_k24_tables_by_number_holds : PySem.Challenge.rw_edgetally_k24_tables_by_number.Holds := by
 w_on
 refine holds_law Law.wsH λsaid=>?_;refine holds_open (q:=Law.qH) (loose:=Law.loH) (Xt:=Law.xtH) (XP:=XL Law.qH Law.lvH) (Yf:=Hook.obs Law.hkH) (Ya:=Hook.val Law.hkH) (YP:=Hook.says Law.hkH) (N:=7542) Law.hlH (Hook.of Law.hkH) (Hook.keeps Law.hkH) (λs e=>xl_of s (XF.mp e).1) XL.keeps (by rfl) (by rfl) (by rfl) (λs e=>recFacts_of (XF.mp e).2) (by rfl) said Law.okH ⟨rfl,rfl,rfl,rfl,rfl,by decide +kernel⟩ ?hw ?hc
 case hw=>w_witness2
 exact Law.wlkH
