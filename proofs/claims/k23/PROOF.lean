import PyProof.Rows.All
import Wide.All
import OpenK.AllK
import Wide.FinOn
import Lean
import PyProof.EqAt
import PyProof.EqKinds
import PyProof.TupleCall
import PyProof.NsDelKeeps
import PyProof.ListRange
import PyProof.ExcArgsOwn
import PySem.Challenge.RW_edgetally_k23_nets_alike
set_option Elab.async false
set_option linter.all false
set_option genSizeOf false
set_option compiler.extract_closed false
set_option bootstrap.genMatcherCode false
set_option maxHeartbeats 8000000
set_option maxRecDepth 100000
noncomputable section
open And renaming intro→W8
open Array renaming length_toList→PZ,getElem?_eq_some_iff→Qx,getD→RX,getElem?_eq_none→R8,getElem?_toList→Sk,forIn_toList→S9,getElem_toList→TD,getElem?_eq_getElem→Uj,getElem?_extract→WZ,getElem?_push→XE,append_assoc→XQ,size_extract→XR,toList_push→Yn
open Bool renaming true→OV,false→OW,false_ne_true→Pa,false_eq_true→Pk,and_eq_true→PU,not_true→QK,not_false→RN,true_and→Sm,and_self→TF,false_and→Uf,or_true→U1,eq_iff_iff→U9,and_eq_true_iff→XF,not_eq_true'→YK
open Classical renaming byContradiction→T0
open Except renaming ok→Rc
open False renaming elim→QX
open ForInStep renaming yield→UF
open Function renaming comp→Uh
open Int renaming toNat_natCast→QL,zero_add→Ts,emod_nonneg→T1,emod_lt_of_pos→Um,natCast_add→Vg,natAbs_natCast→VG,fdiv_eq_ediv_of_nonneg→WI,le_refl→XX
open List renaming length_map→OS,mem_cons_of_mem→OY,getElem?_eq_getElem→O0,getD_eq_getElem?_getD→O1,getElem?_map→O4,mem_cons_self→O5,range→O6,getElem?_eq_some_iff→Pc,map_map→Pd,length_cons→Pg,map_cons→Ph,replicate→Pi,length_append→Pn,mem_map→Pp,mem_cons→Pq,length_range→Pr,size_toArray→Ps,mem_range→Pw,mem_of_getElem?→PD,append_nil→PN,sum_cons→PQ,map_congr_left→P0,map_append→P4,replicate_succ→P6,mem_append_right→P8,mem_singleton→Qd,length_singleton→Qg,getElem_mem→Qh,length_set→Qi,nodup_cons→Qj,flatMap_cons→Qp,getElem?_set→Qq,append_assoc→Qv,map_replicate→Qy,getElem?_range→Qz,drop_eq_getElem_cons→QB,nil_append→QH,not_mem_nil→QI,mem_replicate→QN,cons_append→QT,filterMap_cons→QU,length_replicate→QV,mem_append→QY,map_nil→Q0,map_flatMap→Ra,mem_flatMap→Rb,getElem?_append_right→Re,flatMap_append→Rf,mem_or_eq_of_mem_set→Ri,map→Rk,sum→Rl,all_eq_true→Rp,length_take→Rq,set_cons_succ→Rr,set_cons_zero→Rt,length_nil→RC,getD_cons_succ→RF,getD_cons_zero→RG,take_of_length_le→RI,take_append_drop→RP,pairwise_iff_getElem→RT,flatten_cons→RV,mem_append_left→RW,replicate_zero→R0,getElem?_replicate→R4,contains_cons→R9,drop_eq_nil_of_le→Sa,zip_cons_cons→Sb,forIn_cons→Si,range_succ→Sj,forIn_nil→SB,exists_cons_of_length_eq_add_one→SI,ext_getElem→SJ,getElem_map→SK,lookup_cons→SL,take_length→SM,getElem?_append_left→SO,getElem_of_mem→SU,length_zip→Tc,getElem_range→Tf,pairwise_cons→Tg,flatMap_eq_nil_iff→Ti,length_eq_one_iff→Tq,getElem?_eq_none→Tx,drop_length→TC,any_cons→TK,map_drop→TL,lookup→TV,find?_cons→TZ,map_set→Ua,mem_filterMap→Ui,getElem?_eq_none_iff→Uv,pairwise_map→UA,reverse_cons→UB,all_cons→UG,flatMap_map→UR,flatMap_nil→US,length_eq_zero_iff→UT,pairwise_singleton→UU,range_succ_eq_map→U3,zipWith→U4,mem_filter→Vb,getElem?_toArray→Vi,getElem?_append→Vp,length→Vq,map_take→VA,map_inj_right→VF,any_eq_false→VS,nodup_append→VT,zip_nil_left→VU,filter_cons→VZ,nodup_range→V0,map_id→V5,filter_map→Wf,of_mem_zip→Wg,sum_append→Wh,take_zero→WC,getElem?_take_of_lt→WU,getElem?_cons_succ→W1,filter_eq_nil_iff→Xc,flatMap→Xd,getElem?_set_self→Xe,zipWith_map_right→Xf,zipWith_map_left→Xj,getElem?_set_ne→XI,getElem_reverse→XJ,filter_flatMap→XZ,filter_sublist→X0,length_reverse→X2,length_zipWith→X3,foldl→Yp,getElem?_drop→Yq,ext_getElem?→YN,filter_congr→YO,take_add_one→YQ,zipWith_self→YR
open List.Pairwise renaming nil→Va
open List.Perm renaming of_eq→VH
open List.Sublist renaming refl→Vh
open List.cons renaming injEq→SH
open Max renaming max→YI
open Min renaming min→Sz
open Nat renaming le_refl→O9,le_trans→Px,lt_of_lt_of_le→PM,ne_of_lt→Qa,lt_irrefl→Qk,zero_le→QW,lt_of_le_of_lt→Rw,zero_add→Rz,not_lt_zero→RE,ne_of_gt→RK,sub_self→RM,mul_comm→Sf,lt_trichotomy→Sy,le_add_right→SQ,le_succ→Tk,mul_left_comm→Tt,mul_assoc→TW,mul_le_mul_right→TX,lt_trans→Ud,lt_succ_of_lt→UH,le_mul_of_pos_right→UX,lt_succ_self→UY,le_of_lt→Vc,lt_or_ge→VW,div_le_self→Wn,add_le_add→WJ,mod_lt→WK,add_sub_cancel_left→Xg,add_comm→Xk,div_div_eq_div_mul→Xl,le_of_eq→Xm,zero_mul→Xn,add_mul→X4,log2_lt→X5,pow_le_pow_right→X6,add_le_add_left→Ys
open Option renaming some→on,none→OR,bind_some→Qt,map_some→Qu,map_none→SW,map_eq_some_iff→UV,isSome_iff_exists→WD,getD_none→Yt,getD_some→Yu
open Option.some renaming inj→PR,injEq→WW
open Or renaming inl→RB,inr→S6
open Prod renaming ext→S7,ext_iff→U5
open Pure renaming pure→Ro
open PyProof.Rows renaming callWith_type1→QR,seqObj→SG,envOfC→TM,AllBare→Ux,listUpdate_at→Ve,callWith_builtin1→Vr,subscriptTail_builtinR→Vw,IntsAre→Xb,subscriptTail→Yk
open PySem renaming wpAny_bind→My,wpAny_pure→OT,Value→OX,Addr→OZ,Shared→O7,starEach→Pb,sizeLine→Pe,wpAny→Pf,Program→Pt,model→Py,FuncData→PL,Obj→PP,World→PV,Str→PY,Heap→P7,wpAny_mono→Qc,foldedSetIterable→Qf,wpAny_call_entry→Ql,SetTable→Qm,Around→Qn,eval→Qo,compareOp→QC,wpAny_newObj_type→QE,Stmt→QF,mem_of_lookup→QG,wpAny_field→QJ,wpAny_holding→QO,wpAny_truthy_bool→QP,wpAny_setField_rec→QS,Comprehension→Q1,cellsFrom→Q3,backTo→Q5,keywordEach→Q6,wpAny_setState_of→Q7,wpAny_seqItems→Q9,treeTable→Rg,wpAny_standAt→Rh,mainGlobals→Ru,sizeLine_eq→Rv,wpAny_loadPart_at→RJ,wpAny_isInstance→RQ,backToKw→R1,binaryOp→R3,wpAny_comprehension_free→R6,codeAny→Sd,IsPair→Se,wpAny_typeNameOfWhole_itemiter→Sh,codeAny_mono→Sv,standAt→Sw,wpAny_Call_Name_kw→Sx,wpAny_specialOf→SA,behindInMarks→SD,NameKind→SV,sliceBounds→SY,wpAny_of_eq→SZ,wpAny_rule→S3,wpAny_setField→S4,DictEntry→Ta,bootBuiltins→Td,holding→Te,wpAny_typeNameOf_itemiter→Th,attributeBase→Tl,swapsWith→Tw,Pos→Tz,firstArgMember→TN,pyNext→TR,rawInt→TU,Within→T5,wpAny_askSetting→T8,wpAny_call→T9,wpAny_attempt→Uc,codeAny_call_builtin→Ue,assign→Uq,letOwnedTupleGo→Us,wpAny_passesOwn→Uu,wpAny_isSubtype_exc→Uw,Keyword→Uz,getMethod→UI,IsItemIter→UJ,cLine→UL,call→UM,evalEach→UN,isInstance→UO,isSubtype_type→UP,IsZip→U2,wpAny_pyIter_list→U7,wpAny_pyIter_slot→U8,wpAny_onRaise→Vf,wpAny_forIn_list→Vn,Fin→Vs,OsState→Vt,assignEach→Vu,intKind→Vv,wpAny_isOneOf_itemiter→Vx,wpAny_pyIter_rangeiter→Vy,builtinLookup_eq_fast→VB,isSubtype_tuple_tuple→VC,pyIter→VJ,wpAny_fieldsOf→VL,wpAny_letGo→VM,wpAny_newTuple→VN,wpAny_updateSeq_pair→VO,BindsTo→VP,wpAny_setEntries_of→VY,Paired→V6,sysModules→V9,wpAny_pyIter_tuple→Wa,wpAny_tupleItemsOf→Wb,Env→Wc,callWith→Wp,callerA→Wq,ofAClassStatement→Wu,searchCouldBeSeen→Ww,wpAny_assign_Name→Wx,wpAny_dictEntries→Wz,plainObj_wpAny_Assign_Attribute→WG,Params→WL,checkBuiltinCall→WO,noFill_tuple_add→WP,pickOrder→WQ,Draws→WR,IsRangeIter→WT,Model→WV,again→WY,codeAny_builtin→W3,codeAny_of_tree→W4,typeLookup_type→W5,wpAny_dictEpoch→W6,wpAny_execs_nil→W7,PyData→Xo,atKey→Xq,builtinsNs→Xr,call_meets→Xs,compPost→Xv,entryFor_alias→Xw,intItems→Xx,isSubtype_stop→Xy,newFunctionEnv→Xz,setField→XA,wpAny_loadPart→XD,call→Yh,evalPart_none→Yi,seq_tuple_add→Yj,wpAny_getItem_list_slice→Yl,wpAny_handled→Ym,list_append→YB,bindC→YD,bindL→YE,eqIsQuiet→YF,field→YG,lastMarks→YH,slicePick→YJ,newExc→YV,seqIndex_neg→YW,typeOf→YX,wpAny_Call_method_late→YY,wpAny_pyNext_range_end→YZ
open PySem.Around renaming under→VD,under_plainId→W9
open PySem.BindsTo renaming of_defaults→Vj
open PySem.Builtin.BaseException renaming bexcPut→XS
open PySem.Builtin.Dict renaming showsAll→V3
open PySem.Builtin.Dict_items renaming ownsTuple→S5,ownedTupleFields→Uk,ownedTupleIsFree→Ul,pairFromOwner→UE
open PySem.Builtin.Int renaming intBits→WA
open PySem.Builtin.List renaming listTooLong→TY,listExtendWith→Vz,listSameRef→VQ
open PySem.Builtin.Range renaming rangeFitsLong→QA,rangeSize→VR
open PySem.Builtin.SmallTypes renaming nextOf→Q8,ownedTupleIsFree→Rm,ownedTupleHandOut→Ug,refuseKeywords→Uy
open PySem.Builtin.Tuple renaming tupleHashOf→TH
open PySem.Calls renaming callWith_builtin→UW,Name_function_global→Wl,evalArgs_plain→Xh,Constant_str→XT,spliced_cons→XU,spliced_nil→Yo
open PySem.Challenge renaming rw_edgetally_k23_nets_alike→P9
open PySem.Code renaming quiet_builtin→VE,isFrame→Xa
open PySem.Draws renaming list→XV
open PySem.F renaming slot_dict_itemiterator_next→Q4,excBase_ValueError→Su,slot_tuple_iterator_next→SN,slot_list_append→SR,type_list_append→SS,plainAttrs_list→S8,args_tuple_add_2→Uo,entry_tuple_add→UC,slot_tuple_add→UK,slot_zip_next→Vo,args_dict_itemiterator_next_1→Wd,entry_dict_itemiterator_next→Wm,slot_dict_itemiterator_iter→WB,plainAttrs_dict→WE,args_tuple_iterator_next_1→WH,entry_tuple_iterator_next→WS,slot_dict_get→WX,slot_dict_items_iter→XW,args_list_append_2→YL
open PySem.Heap renaming get?_push_of_some→OU,get?_push_size→Pl,lt_size→Pz,SameBut→PX,size_push→QD,get?_update_self→Rj,get?_update_ne→RZ,get?_update_other→Tp,ExtBut→V4,get?_none_of_le→XG,get?_push_ne→YM
open PySem.Heap.IsSliceOf renaming new→We
open PySem.Heap.Ns1 renaming of_empty→Xi
open PySem.Heap.SameBut renaming update→QM
open PySem.IntMulOk renaming of_bits→XH
open PySem.IsTupleKey renaming typeIs→W0
open PySem.Manifest renaming find?→Yr
open PySem.NameKind renaming free→RU,cell→Wj
open PySem.Obj renaming mapSeq→Q2,data_mapFields→Rx,putSet→Vd,isFreed_of_fields→Vk,cls_mapFields→VX
open PySem.P renaming add_list→X8
open PySem.PyData renaming eqv→R7,eqvAll→Sg,depth→SC,depthAll→V1,canLayAll0→X7
open PySem.SeqAt renaming shaped→T6
open PySem.SetTable renaming fits→Wk,fresh→YC
open PySem.Str renaming ofString→P5,empty→Ss
open PySem.Value renaming ref→Pj,none→Qs,type→RY,int→SE,bool→UZ,isInt_shape→VI,isInt→Xp,str→YU
open PySem.W renaming Frag→Po,findIn→RA,Looks→RH,fnOf→Tj,codeIn→T3,segRun→T4,emptyDict→T7,kia_one→Ub,kitOne→Ur,piecesOf→UD,keepIn→UQ,kia_tup→U6,kitx_list→Vm,instObj→VV,methodCall_KW→V2,callWith_K→V7,kitx_tuple→V8,hideAll→Wr,hideAll_none→Ws,looks_findIn→Wt,cellsFrom_some→Xu,topFrame→XB,kitx_bool→XM,kitx_none→XN,plainOver→XO,handedIn→X9,kitx_int→Yb,kitx_own→Yc,kitx_str→Yd,kp_binds→Ye,notFirst→Yg,CmpBack→Yv,bind_fn→Yw,findCls→Yx,makesIn→Yy,takesIn→Yz,topStub→YA,kitAny→YS,topRun→YT
open PySem.W.Looks renaming ld→Vl,here→Wo
open PySem.W.OpenLaw renaming row→RO
open PySem.W.OpenRow renaming toRowW→Ry
open PySem.W.RowW renaming prog→WM
open PySem.W.WData renaming int→WF
open PySem.Within renaming cons→WN
open PySem.pickOrder renaming go→Wv
open True renaming intro→Sc
abbrev O3:=@if_neg
abbrev O8:=@if_pos
abbrev PF:=@absurd
abbrev PH:=@decide_eq_true
abbrev P3:=@decide_eq_true_eq
abbrev Qb:=@if_true
abbrev Qe:=@if_false
abbrev Qr:=@congrArg
abbrev Qw:=@decide_eq_false
abbrev QZ:=@beq_self_eq_true
abbrev R5:=@beq_iff_eq
abbrev Sn:=@bne_self_eq_false
abbrev SX:=@decide_false
abbrev Tu:=@decide_true
abbrev Tv:=@or_false
abbrev Ut:=@of_decide_eq_true
abbrev W2:=@beq_eq_false_iff_ne
open PySem.W (Frag instObj methodObj hideAll hideAll_get of_hideAll hideAll_none lookIn plainGet hasDictIn findIn plainGet_of isFn takerIn looks_clsIn emptyDict looks_findIn keepIn specialIn mroIn kitOne kia_one kitx_list kitx_tuple callWith_K methodCall_KW cellsFrom_some mg_of clsIn kia_tup subIn)
abbrev LI:=List (List Int)
abbrev LP:=List (List (Int×Int))
--CHANGE:your row's module here,as the last of these rows
namespace L2
open PySem PySem.Spec PyProof.Rows
inductive V where
 |non|bl (b:Bool)|int (i:Int)|str (x:PY)|ref (a:OZ)|ty (n:String)
 deriving DecidableEq
def aG:V->OX->Prop
 | .non,u=>u=Qs
 | .bl b,u=>u=UZ b
 | .int i,u=>∃t,u=SE i t
 | .str x,u=>∃t,u=YU x t
 | .ref a,u=>u=Pj a
 | .ty n,u=>u=RY n
abbrev ao:List V->List OX->Prop:=V6 aG
theorem ao.length{xs:List V}{us:List OX}(r:ao xs us):xs.length=us.length:=Paired.length r
theorem ao.get:∀{xs:List V} {us:List OX} {i:Nat} {x:V},ao xs us->xs[i]?=on x->∃u,us[i]?=on u/\aG x u
 |_,_,_,_,.nil,e=>by simp at e
 |_,_,0,_,.cons r _,e=>by simp at e;subst e;exact⟨_,rfl,r⟩
 |_,_,i+1,x,.cons _ t,e=>by
  obtain⟨u,a,b⟩:=ao.get (i:=i) (x:=x) t (by simpa using e);exact⟨u,by simpa using a,b⟩
theorem ao.set(r:aG x u):∀{xs:List V} {us:List OX} (i:Nat),ao xs us->ao (xs.set i x) (us.set i u)
 |_,_,_,.nil=> .nil
 |_,_,0,.cons _ t=> .cons r t
 |_,_,i+1,.cons q t=> .cons q (ao.set r i t)
theorem ao.append:∀{xs ys:List V} {us a:List OX},ao xs us->ao ys a->ao (xs++ys) (us++a)
 |_,_,_,_,.nil,s=>s
 |_,_,_,_,.cons r t,s=> .cons r (ao.append t s)
theorem ao.take:∀{xs:List V} {us:List OX} (n:Nat),ao xs us->ao (xs.take n) (us.take n)
 |_,_,0,_=> .nil
 |_,_,_+1,.nil=> .nil
 |_,_,n+1,.cons r t=> .cons r (ao.take n t)
theorem ao.drop:∀{xs:List V} {us:List OX} (n:Nat),ao xs us->ao (xs.drop n) (us.drop n)
 |_,_,0,r=>r
 |_,_,_+1,.nil=> .nil
 |_,_,n+1,.cons _ t=>ao.drop n t
def g9:Option V->Option OX->Prop
 |some v,on u=>aG v u
 |none,OR=>True
 |_,_=>False
inductive HO where
 |lst (xs:List V)
 |tup (xs:List V)
 |ins (C dx:OZ) (fs:List (PY×V))
 |own (x:OZ)
 |xd (fs:List (PY×V))
 |met (f x:OZ)
 |rng (lo hi:Int)
 |frz (o:PP) (u:HO)
 |tbl (ps:Array OX)
 |ext (φ:P7->Prop)
abbrev Hp:=OZ->Option HO
noncomputable def upd(H:Hp)(a:OZ)(o:HO):Hp:=λb=>if b=a then on o else H b
theorem ah:upd H a o a=on o:=by unfold upd;rw[O8 rfl]
theorem upd_ne(h:b≠a):upd H a o b=H b:=by unfold upd;rw[O3 h]
theorem On{H:Hp}{a b:OZ}{o u:HO}(h:H a=on o)(h':H b=on u)(d:o≠u):a≠b:=by
 intro e;subst e;rw[h]at h';exact d (PR h')
theorem ne_of_none{H:Hp}{a b:OZ}{o:HO}(h:H a=on o)(h':H b=OR):a≠b:=by
 intro e;subst e;rw[h]at h';cases h'
section
variable(P:Pt)(w:PV)
def bu(P:Pt)(w:PV)(H:Hp)(h:P7)(a:OZ):HO->Prop
 | .lst xs=>xs.length<=Pe/\∃(its:List OX) (n:Nat),ao xs its/\h.get? a=on {cls:= .type "list",data:= .seq its.toArray n}
 | .tup xs=>xs.length<=Pe/\∃its:List OX,ao xs its/\IsTup h a its.toArray
 | .ins C dx fs=>H dx=on (.own a)/\fs.length<=1000/\dx≠a/\h.get? a=on (VV C dx)/\
   ∃b,h.Ns1 dx b/\(∀f,g9 (fs.lookup f) (b f))/\T5 b (fs.map (·.1))
 | .own _=>∃o,h.get? a=on o
 | .xd fs=>∃b,h.Ns1 a b/\∀f,g9 (fs.lookup f) (b f)
 | .rng lo hi=>∃t u v,h.get? a=on {cls:= .type "range",data:= .fields #[.int lo t,.int hi u,.int 1 v]}
 | .frz o u=>h.get? a=on o/\bu P w H h a u
 | .tbl ps=>h.get? a=on {cls:= .none,data:= .fields ps}
 | .met f x=>h.get? a=on (methodObj (.ref f) (.ref x))
 | .ext φ=>φ h/\(∃o,h.get? a=on o)/\∀c d:P7,φ c->(∀o,c.get? a=on o->d.get? a=on o)->φ d
def HOk(H:Hp)(h:P7):Prop:=∀a o,H a=on o->bu P w H h a o
end
section
variable{P:Pt}{w:PV}{H H':Hp}{h h':P7}{a:OZ}{o:HO}
theorem bu.lt(x:bu P w H h a o):a<h.objs.size:=by
 cases o with
 |lst xs=>obtain⟨_,_,_,_,e⟩:=x;exact Pz e
 |tup xs=>obtain⟨_,_,_,p⟩:=x;exact p.lt
 |ins C dx fs=>obtain⟨_,_,_,e,_⟩:=x;exact Pz e
 |own y=>obtain⟨_,e⟩:=x;exact Pz e
 |xd fs=>obtain⟨_,⟨_,_,_,e,_⟩,_⟩:=x;exact Pz e
 |rng lo hi=>obtain⟨_,_,_,e⟩:=x;exact Pz e
 |frz ob u=>obtain⟨e,_⟩:=x;exact Pz e
 |tbl ps=>exact Pz (show h.get? a=on _ from x)
 |met f y=>exact Pz (show h.get? a=on _ from x)
 |ext φ=>obtain⟨_,⟨_,e⟩,_⟩:=x;exact Pz e
theorem bu.stay(x:bu P w H h a o)(k:∀b u,(b=a\/H b=on (.own a))->h.get? b=on u->h'.get? b=on u)
  (l:∀b,H b=on (.own a)->H' b=on (.own a)) (A:∀b xs,H b=on (.tup xs)->H' b=on (.tup xs)):bu P w H' h' a o:=by
 induction o with
 |lst xs=>obtain⟨z,its,n,r,e⟩:=x;exact⟨z,its,n,r,k _ _ (.inl rfl) e⟩
 |tup xs=>obtain⟨z,its,r,g,e,c⟩:=x;exact⟨z,its,r,g,k _ _ (.inl rfl) e,c⟩
 |ins C dx fs=>
  obtain⟨d,z,ne,e,i,⟨j,es,ep,m,c⟩,r⟩:=x;exact⟨l _ d,z,ne,k _ _ (.inl rfl) e,i,⟨j,es,ep,k _ _ (.inr d) m,c⟩,r⟩
 |own y=>obtain⟨g,e⟩:=x;exact⟨g,k _ _ (.inl rfl) e⟩
 |xd fs=>obtain⟨i,⟨j,es,ep,e,c⟩,r⟩:=x;exact⟨i,⟨j,es,ep,k _ _ (.inl rfl) e,c⟩,r⟩
 |rng lo hi=>obtain⟨t,u,v,e⟩:=x;exact⟨t,u,v,k _ _ (.inl rfl) e⟩
 |frz g u ih=>obtain⟨e,q⟩:=x;exact⟨k _ _ (.inl rfl) e,ih q⟩
 |tbl ps=>
  have e:h.get? a=on {cls:= .none,data:= .fields ps}:=x;show h'.get? a=on {cls:= .none,data:= .fields ps};exact k a _ (.inl rfl) e
 |met f y=>
  have e:h.get? a=on (methodObj (.ref f) (.ref y)):=x;show h'.get? a=on (methodObj (.ref f) (.ref y));exact k a _ (.inl rfl) e
 |ext φ=>obtain⟨p,⟨o,e⟩,st⟩:=x;exact⟨st _ _ p λo q=>k _ _ (.inl rfl) q,⟨o,k _ _ (.inl rfl) e⟩,st⟩
theorem HOk.lt(x:HOk P w H h)(e:H a=on o):a<h.objs.size:=(x a o e).lt
theorem HOk.fresh(x:HOk P w H h)(e:h.objs.size<=a):H a=OR:=by
 cases q:H a with
 |none=>rfl
 |some u=>exact PF (PM (x.lt q) e) (Qk _)
theorem HOk.kept(x:HOk P w H h)(k:∀b u,h.get? b=on u->h'.get? b=on u):HOk P w H h':=λa o e=>
 (x a o e).stay (λb u _ q=>k b u q) (λ_ q=>q) λ_ _ q=>q
theorem HOk.laid(x:HOk P w H h)(k:∀b u,h.get? b=on u->h'.get? b=on u)(f:h.objs.size<=a)(new:bu P w (upd H a o) h' a o):HOk P w (upd H a o) h':=λb u e=>by
 have hn:=x.fresh f;by_cases d:b=a
 ·subst d;rw[ah]at e;cases e;exact new
 ·rw[upd_ne d]at e
  exact(x b u e).stay (λc v _ q=>k c v q) (λc q=>by rw[upd_ne (ne_of_none q hn)];exact q) λc xs q=>by rw[upd_ne (ne_of_none q hn)];exact q
end
def Rd(H:Hp)(a:OZ)(u:HO):Prop:=H a=on u\/∃o,H a=on (.frz o u)
theorem Rd.ok(r:Rd H a u)(x:HOk P w H h):bu P w H h a u:=by
 rcases r with r|⟨o,r⟩
 ·exact x a u r
 ·obtain⟨_,q⟩:=x a _ r
  exact q
def Mut:Option HO->Prop
 |some (.lst _)=>True
 |some (.ins _ _ _)=>True
 |some (.ext _)=>True
 |_=>False
section
variable{P:Pt}{w:PV}{H:Hp}{h h':P7}{x e:OZ}{o':HO}
theorem HOk.write(ok:HOk P w H h)(mu:Mut (H x))(j:e=x\/H e=on (.own x))(k:∀b u,b≠e->h.get? b=on u->h'.get? b=on u)(i:∃u,h'.get? e=on u)
  (new:bu P w (upd H x o') h' x o'):HOk P w (upd H x o') h':=λb u q=>by
 have d:∀c y,H c=on (.own y)->c≠x:=λc y r z=>by subst z;rw[r]at mu;exact mu
 have f:∀c xs,H c=on (.tup xs)->c≠x:=λc xs r z=>by subst z;rw[r]at mu;exact mu
 by_cases g:b=x
 ·subst g;rw[ah]at q;cases q;exact new
 ·rw[upd_ne g]at q
  by_cases a:b=e
  ·have l:H b=on (.own x):=by
    rcases j with z|z
    ·exact PF (a.trans z) g
    ·rw[a];exact z
   rw[q]at l;cases l;obtain⟨v,m⟩:=i;exact⟨v,by rw[a];exact m⟩
  ·refine(ok b u q).stay (λc v hc r=>k c v ?_ r) (λc r=>by rw[upd_ne (d c b r)];exact r) λc xs r=>by rw[upd_ne (f c xs r)];exact r
   rcases hc with rfl|hc
   ·exact a
   ·rintro rfl
    rcases j with z|z
    ·exact d c b hc z
    ·rw[hc]at z;cases z;exact g rfl
end
structure Un (fs ex:List OZ) (H H':Hp) (h h':P7):Prop where
 keep:∀b o,h.get? b=on o->H b=OR->b∉fs->b∉ex->h'.get? b=on o
 slot:∀b o,h.get? b=on o->H b=OR->b∈fs->b∉ex->∃sl,h'.get? b=on {o with slots:=sl}
 free:∀b o,h.get? b=on o->H b=OR->b∉ex->H' b=OR
 there:∀b o,h.get? b=on o->b∉ex->∃o',h'.get? b=on o'
 tups:∀b xs,H b=on (.tup xs)->H' b=on (.tup xs)
 frzs:∀b o u,H b=on (.frz o u)->H' b=on (.frz o u)
 tbls:∀b ps,H b=on (.tbl ps)->∃more,H' b=on (.tbl (ps++more))
section
variable{fs fs' ex ex':List OZ}{H H1 H2:Hp}{h h1 h2 h':P7}{a x e:OZ}{o:HO}
theorem Un.any(u:Un fs ex H H1 h h1)(q:h.get? b=on ob)(n:H b=OR)(c:b∉ex):∃f,h1.get? b=on {ob with slots:=f}:=by
 by_cases d:b∈fs
 ·exact u.slot b ob q n d c
 ·exact⟨ob.slots,u.keep b ob q n d c⟩
theorem Un.trans(a:Un fs ex H H1 h h1)(b:Un fs ex H1 H2 h1 h2):Un fs ex H H2 h h2 where
 keep:=λc d q n i f=>b.keep c d (a.keep c d q n i f) (a.free c d q n f) i f
 slot:=λc d q n i f=>by
  obtain⟨m,g⟩:=a.slot c d q n i f;obtain⟨j,k⟩:=b.slot c _ g (a.free c d q n f) i f;exact⟨j,k⟩
 free:=λc d q n f=>by
  obtain⟨l,g⟩:=a.there c d q f;exact b.free c l g (a.free c d q n f) f
 there:=λc d q f=>by
  obtain⟨l,g⟩:=a.there c d q f;exact b.there c l g f
 tups:=λc xs q=>b.tups c xs (a.tups c xs q)
 frzs:=λc d xs q=>b.frzs c d xs (a.frzs c d xs q)
 tbls:=λc ps q=>by
  obtain⟨m1,g⟩:=a.tbls c ps q;obtain⟨m2,k⟩:=b.tbls c _ g;exact⟨m1++m2,by rw[k,XQ]⟩
theorem Un.kept(k:∀b u,h.get? b=on u->h'.get? b=on u):Un fs ex H H h h':=
 ⟨λb c q _ _ _=>k b c q,λb c q _ _ _=>⟨c.slots,k b c q⟩,λ_ _ _ n _=>n,λb c q _=>⟨c,k b c q⟩,λ_ _ q=>q,λ_ _ _ q=>q,λ_ ps q=>⟨#[],by rw[q];simp⟩⟩
theorem Un.refl:Un fs ex H H h h:=Un.kept λ_ _ q=>q
theorem Un.laid(k:∀b u,h.get? b=on u->h'.get? b=on u)(c:h.objs.size<=a)(hn:H a=OR):Un fs ex H (upd H a o) h h' where
 keep:=λb u q _ _ _=>k b u q
 slot:=λb u q _ _ _=>⟨u.slots,k b u q⟩
 free:=λb u q n _=>by rw[upd_ne (Qa (PM (Pz q) c))];exact n
 there:=λb u q _=>⟨u,k b u q⟩
 tups:=λb xs q=>by rw[upd_ne (ne_of_none q hn)];exact q
 frzs:=λb u xs q=>by rw[upd_ne (ne_of_none q hn)];exact q
 tbls:=λb ps q=>⟨#[],by rw[upd_ne (ne_of_none q hn),q];simp⟩
theorem Un.write(mu:Mut (H x))(i:e=x\/H e=on (.own x))(k:∀b u,b≠e->h.get? b=on u->h'.get? b=on u)(d:∃u,h'.get? e=on u):Un fs ex H (upd H x o) h h':=by
 have f:∀b,H b=OR->b≠x:=λb n z=>by subst z;rw[n]at mu;exact mu
 have g:∀b,H b=OR->b≠e:=λb n z=>by
  subst z;rcases i with r|r
  ·exact f b n r
  ·rw[n]at r;cases r
 have hm:∀b u,H b=on u->¬Mut (on u)->b≠x:=λb u q nm z=>by subst z;rw[q]at mu;exact nm mu
 refine⟨λb u q n _ _=>k b u (g b n) q,λb u q n _ _=>⟨u.slots,k b u (g b n) q⟩,λb u q n _=>by rw[upd_ne (f b n)];exact n,λb u q _=>?_,
  λb xs q=>by rw[upd_ne (hm b _ q λz=>z)];exact q,λb u xs q=>by rw[upd_ne (hm b _ q λz=>z)];exact q,λb ps q=>⟨#[],by rw[upd_ne (hm b _ q λz=>z),q];simp⟩⟩
 by_cases c:b=e
 ·subst c;exact d
 ·exact⟨u,k b u c q⟩
theorem Un.mono(u:Un fs ex H H1 h h1)(hs:∀b∈fs,b∈fs')(f:∀b∈ex,b∈ex'):Un fs' ex' H H1 h h1:=
 ⟨λb d q n g c=>u.keep b d q n (λz=>g (hs b z)) λz=>c (f b z),λ_ _ q n _ c=>u.any q n λz=>c (f _ z),λb d q n c=>u.free b d q n λz=>c (f b z),λb d q c=>u.there b d q λz=>c (f b z),u.tups,u.frzs,u.tbls⟩
end
noncomputable def trk(h:P7)(H:Hp):List OZ:=(O6 h.objs.size).filter λa=>(H a).isSome
noncomputable def ku(h:P7)(H:Hp):P7:=Wr h (trk h H)
theorem AI(h:P7)(H:Hp):(ku h H).objs.size=h.objs.size:=PySem.W.hideAll_size _ _
theorem EN{h:P7}(e:h.get? b=on o)(n:H b=OR):(ku h H).get? b=on o:=
 hideAll_get _ e λhm=>by
  have q:(H b).isSome=OV:=(Vb.mp hm).2;rw[n]at q;simp at q
theorem Km{h:P7}(e:(ku h H).get? b=on o):h.get? b=on o/\H b=OR:=by
 have a:h.get? b=on o:=of_hideAll (trk h H) e;refine⟨a,?_⟩;cases q:H b with
 |none=>rfl
 |some x=>
  have hm:b∈trk h H:=Vb.mpr ⟨Pw.mpr (Pz a),by simp[q]⟩;have z:(ku h H).get? b=OR:=Ws (trk h H) hm;rw[z]at e;cases e
structure Mod (K:Po) (mg:PY->Option OX) (base:P7):Prop where
 kin:K.In base
 glob:base.Ns Ru mg
 blt:∃mb,base.Ns Xr mb/\∀x:PY,x≠"__name__"->mb x=Td x
 nolimit:base.NoLimit
structure Cx where
 prog:Pt
 w:PV
 K:Po
 mg:PY->Option OX
 base:P7
 A:Qn
 N:List PY
 s₀:O7
 H₀:Hp
 env:Wc
 outer:List Wc
 stack:List Wc
 ex:List OZ
 fn:PY->Bool
 calm:Bool
 pn:List (OZ×PP)
 xe:OX->O7->Prop
noncomputable def frs(l:List Wc):List OZ:=l.filterMap (·.frame)
noncomputable abbrev Cx.fs(X:Cx):List OZ:=frs X.outer
def Vis(a:Scope)(x:PY):Prop:=a.names.lookup x=on .local\/a.names.lookup x=on .cell\/a.names.lookup x=on .free
def Loc(a:Scope)(x:PY):Prop:=a.names.lookup x=on .local\/a.names.lookup x=on .cell
def Look(env:Wc)(h:P7)(m:PY->Option OX)(x:PY)(u:OX):Prop:=
 (env.kindOf x=on .local/\m x=on u)\/((env.kindOf x=on .cell\/env.kindOf x=on .free)/\∃c,env.cells.lookup x=on c/\h.IsCell c (on u))
structure Cx.Ok (X:Cx):Prop where
 mod:Mod X.K X.mg X.base
 kind:X.env.scope.kind= .function
 glob:X.env.globals=Ru
 blt:X.env.builtins=Xr
 above:X.s₀.heap.objs.size<=X.env.locals
 inj:∀x y c,X.env.cells.lookup x=on c->X.env.cells.lookup y=on c->x=y
 has:∀x,(X.env.kindOf x=on .cell\/X.env.kindOf x=on .free)->∃c,X.env.cells.lookup x=on c
 cab:∀x c,X.fn x=OV->X.env.cells.lookup x=on c->X.s₀.heap.objs.size<=c
 hd:X.calm=OV->X.A.handled=OR
 frames:X.A.frames=on X.stack
 stk:X.stack=X.outer\/(X.stack=X.env::X.outer/\X.env.frame=on X.env.locals)
 exf:∀b∈X.ex,b≠X.env.locals/\∀x c,X.env.cells.lookup x=on c->c≠b
 bs:∀b o,X.base.get? b=on o->X.s₀.heap.get? b=on o/\X.H₀ b=OR
 bsz:X.base.objs.size<=X.s₀.heap.objs.size
 noex:∀b o,X.base.get? b=on o->b∉X.ex
 exfs:∀b∈X.ex,b∉X.fs
 funs:X.s₀.heap.FunFrames X.base X.outer
 frf:∀b∈X.fs,X.H₀ b=OR
structure Inv (X:Cx) (pins:List (OZ×PP)) (σ:List (Option V)) (H:Hp) (s:O7):Prop where
 ok:X.Ok
 os:s.os=X.s₀.os
 bare:Ux s.gens
 base:Un X.fs X.ex X.H₀ H X.s₀.heap s.heap
 loc:∃m,s.heap.Ns X.env.locals m/\∀(i:Nat) (x:PY) (v:V),X.N[i]?=on x->σ[i]?=on (on v)->Vis X.env.scope x->∃u,aG v u/\Look X.env s.heap m x u
 cell:∀x c,X.env.cells.lookup x=on c->∃v,s.heap.IsCell c v
 free:H X.env.locals=OR
 freeC:∀x c,X.env.cells.lookup x=on c->H c=OR
 pin:∀p∈X.pn++pins,s.heap.get? p.1=on p.2/\H p.1=OR/\p.1≠X.env.locals/\p.1∉X.fs/\∀v,p.2.data≠ .cell v
 hok:HOk X.prog X.w H s.heap
 len:σ.length=X.N.length
section
variable{X:Cx}{pins:List (OZ×PP)}{σ:List (Option V)}{H H':Hp}{s:O7}{h':P7}
theorem Cx.Ok.nofr(ok:X.Ok)(e:X.base.get? b=on o):b∉X.fs:=λa=>by
 have:=(ok.funs.mem a).1;rw[e]at this;cases this
theorem Inv.bs(I:Inv X pins σ H s):∀b o,X.base.get? b=on o->s.heap.get? b=on o/\H b=OR:=λb o e=>
 ⟨I.base.keep b o (I.ok.bs b o e).1 (I.ok.bs b o e).2 (I.ok.nofr e) (I.ok.noex b o e),I.base.free b o (I.ok.bs b o e).1 (I.ok.bs b o e).2 (I.ok.noex b o e)⟩
theorem Inv.bk(I:Inv X pins σ H s):∀b o,X.base.get? b=on o->s.heap.get? b=on o:=λb o e=>(I.bs b o e).1
theorem Inv.mod(I:Inv X pins σ H s):Mod X.K X.mg X.base:=I.ok.mod
theorem Inv.kIn(I:Inv X pins σ H s):X.K.In s.heap:=I.ok.mod.kin.keeps I.bk
theorem Inv.fr(I:Inv X pins σ H s):∃m,Fr X.base X.env.locals s.heap m:=
 let ⟨m,hn,_⟩:=I.loc
 ⟨m,hn,I.bk,Px I.ok.bsz I.ok.above⟩
theorem Inv.lt(I:Inv X pins σ H s):X.env.locals<s.heap.objs.size:=let ⟨_,hn,_⟩:=I.loc;hn.lt
theorem Inv.sz(I:Inv X pins σ H s):X.s₀.heap.objs.size<=s.heap.objs.size:=Px I.ok.above (Vc I.lt)
theorem Inv.nofs(I:Inv X pins σ H s){a:OZ}(h:s.heap.objs.size<=a):a∉X.fs:=λb=>by
 obtain⟨_,o,c,_⟩:=I.ok.funs.mem b;exact PF (PM (Pz c) (Px I.sz h)) (Qk _)
theorem Inv.cne(I:Inv X pins σ H s):∀x c,X.env.cells.lookup x=on c->c≠X.env.locals:=λx c e z=>by
 obtain⟨v,o,d,hd⟩:=I.cell x c e;obtain⟨m,⟨f,es,ep,a,b,_⟩,_⟩:=I.loc;rw[z,a]at d;cases d;rw[b]at hd;cases hd
theorem Inv.funs(I:Inv X pins σ H s):s.heap.FunFrames X.base X.outer:=by
 have all:∀(l:List Wc),(∀b∈frs l,b∈X.fs)->X.s₀.heap.FunFrames X.base l->s.heap.FunFrames X.base l:=by
  intro l
  induction l with
  |nil=>intro _ _;trivial
  |cons env r ih=>
   intro hs f;obtain⟨g,⟨L,o,a,hn,h,hd⟩,i⟩:=f;have c:L∈X.fs:=hs L (by unfold frs;rw[QU,a];exact O5);obtain⟨j,e⟩:=I.base.slot L o h (I.ok.frf L c) c λz=>I.ok.exfs L z c;exact⟨g,⟨L,_,a,hn,e,hd⟩,ih (λb d=>hs b (by unfold frs;rw[QU,a];exact OY _ d)) i⟩
 exact all X.outer (λ_ d=>d) I.ok.funs
theorem Inv.stack(I:Inv X pins σ H s):s.heap.FunFrames X.base X.stack:=by
 rcases I.ok.stk with e|⟨e,a⟩
 ·rw[e];exact I.funs
 ·rw[e]
  obtain⟨m,hn,_⟩:=I.loc;refine .cons (by rw[I.ok.kind];decide) a hn ?_ I.funs;exact XG (Px I.ok.bsz I.ok.above)
theorem Inv.stkSub(I:Inv X pins σ H s):∀b∈frs X.stack,b∈X.env.locals::X.fs:=λb a=>by
 rcases I.ok.stk with e|⟨e,c⟩
 ·rw[e]at a;exact OY _ a
 ·rw[e]at a
  unfold frs at a;rw[QU,c]at a;exact a
theorem Inv.stkFree(I:Inv X pins σ H s):∀b∈frs X.stack,H b=OR:=λb hb=>by
 rcases Pq.mp (I.stkSub b hb)with e|hb
 ·rw[e];exact I.free
 ·obtain⟨_,o,a,_⟩:=I.ok.funs.mem hb
  exact I.base.free b o a (I.ok.frf b hb) λz=>I.ok.exfs b z hb
theorem Inv.step{ch:List OZ}(I:Inv X pins σ H s)
  (f:∀b∈ch,(b∈X.ex\/X.s₀.heap.objs.size<=b)/\b≠X.env.locals/\(∀x c,X.env.cells.lookup x=on c->c≠b)/\∀p∈X.pn++pins,p.1≠b)
  (keep:∀b o,b≠X.env.locals->b∉X.fs->b∉ch->s.heap.get? b=on o->H b=OR->h'.get? b=on o)
  (slot:∀b o,b≠X.env.locals->b∈X.fs->b∉ch->s.heap.get? b=on o->H b=OR->∃J,h'.get? b=on {o with slots:=J}) (free:∀b o,b∉ch->s.heap.get? b=on o->H b=OR->H' b=OR)
  (there:∀b o,b∉ch->s.heap.get? b=on o->∃B,h'.get? b=on B)
  (tups:∀b xs,H b=on (.tup xs)->H' b=on (.tup xs)) (frzs:∀b o u,H b=on (.frz o u)->H' b=on (.frz o u)) (tbls:∀b ps,H b=on (.tbl ps)->∃more,H' b=on (.tbl (ps++more)))
  (ns:∀m,s.heap.Ns X.env.locals m->h'.Ns X.env.locals m) (hok:HOk X.prog X.w H' h') (P:Ux g'):
  Inv X pins σ H' {s with heap:=h',gens:=g',drawn:=d',toks:=t'}:=by
 have C:∀b o,X.s₀.heap.get? b=on o->b≠X.env.locals:=λb o e=>Qa (PM (Pz e) I.ok.above);have j:∀b o,X.s₀.heap.get? b=on o->b∉X.ex->b∉ch:=λb o e a y=>by
  rcases(f b y).1 with z|z
  ·exact a z
  ·exact PF (PM (Pz e) z) (Qk _)
 have g:∀x c,X.env.cells.lookup x=on c->∀v,s.heap.IsCell c v->h'.IsCell c v:=λx c e v ⟨o,A,hd⟩=>by
  have h:c∉ch:=λz=>(f c z).2.2.1 x c e rfl;by_cases N:c∈X.fs
  ·obtain⟨J,q⟩:=slot c o (I.cne x c e) N h A (I.freeC x c e)
   exact⟨_,q,hd⟩
  ·exact⟨o,keep c o (I.cne x c e) N h A (I.freeC x c e),hd⟩
 refine⟨I.ok,I.os,P,⟨λb o e n y a=>?_,λb o e n y a=>?_,λb o e n a=>?_,λb o e a=>?_,λb xs e=>tups b xs (I.base.tups b xs e),λb o xs e=>frzs b o xs (I.base.frzs b o xs e),λb ps e=>?_⟩,?_,λx c e=>?_,?_,λx c e=>?_,λp O=>?_,hok,I.len⟩
 ·exact keep b o (C b o e) y (j b o e a) (I.base.keep b o e n y a) (I.base.free b o e n a)
 ·obtain⟨J,t⟩:=I.base.slot b o e n y a
  obtain⟨L,F⟩:=slot b _ (C b o e) y (j b o e a) t (I.base.free b o e n a);exact⟨L,F⟩
 ·obtain⟨B,t⟩:=I.base.there b o e a
  exact free b B (j b o e a) t (I.base.free b o e n a)
 ·obtain⟨B,t⟩:=I.base.there b o e a
  exact there b B (j b o e a) t
 ·obtain⟨m1,t⟩:=I.base.tbls b ps e
  obtain⟨m2,F⟩:=tbls b _ t;exact⟨m1++m2,by rw[F,XQ]⟩
 ·obtain⟨m,hn,Q⟩:=I.loc
  refine⟨m,ns m hn,λi x v t F R=>?_⟩;obtain⟨u,r,l⟩:=Q i x v t F R;refine⟨u,r,?_⟩;rcases l with l|⟨k,c,e,z⟩
  ·exact .inl l
  ·exact .inr ⟨k,c,e,g x c e _ z⟩
 ·obtain⟨v,z⟩:=I.cell x c e
  exact⟨v,g x c e v z⟩
 ·obtain⟨m,⟨o,_,_,A,_⟩,_⟩:=I.loc
  exact free _ o (λz=>(f _ z).2.1 rfl) A I.free
 ·obtain⟨v,o,A,hd⟩:=I.cell x c e
  exact free c o (λz=>(f c z).2.2.1 x c e rfl) A (I.freeC x c e)
 ·obtain⟨e,n,ne,nf,d⟩:=I.pin p O
  have h:p.1∉ch:=λz=>(f p.1 z).2.2.2 p O rfl;exact⟨keep p.1 p.2 ne nf h e n,free p.1 p.2 h e n,ne,nf,d⟩
theorem Inv.un(I:Inv X pins σ H s)(u:Un X.fs [] H H' s.heap h')(hok:HOk X.prog X.w H' h'):Inv X pins σ H' {s with heap:=h',toks:=t'}:=by
 obtain⟨m,⟨o,es,ep,g,r⟩,_⟩:=id I.loc;obtain⟨j,h⟩:=u.any g I.free (by simp);exact I.step (g':=s.gens) (d':=s.drawn) (ch:=[]) (λ_ z=>nomatch z) (λb o _ c _ e n=>u.keep b o e n c (by simp)) (λb o _ c _ e n=>u.slot b o e n c (by simp)) (λb o _ e n=>u.free b o e n (by simp)) (λb o _ e=>u.there b o e (by simp)) u.tups u.frzs u.tbls (λk hm=>by
  obtain⟨l,d,f,a,i⟩:=hm;rw[g]at a;cases a;exact⟨_,d,f,h,i⟩) hok I.bare
theorem Inv.call{ch:List OZ}(I:Inv X pins σ H s)(u:Un (frs X.stack) ch H H' s.heap h')(hok:HOk X.prog X.w H' h')(k:Ux g')
  (d:∀b∈ch,(b∈X.ex\/X.s₀.heap.objs.size<=b)/\b≠X.env.locals/\(∀x c,X.env.cells.lookup x=on c->c≠b)/\∀p∈X.pn++pins,p.1≠b):
  Inv X pins σ H' {s with heap:=h',gens:=g',drawn:=d',toks:=t'}:=by
 obtain⟨m,⟨o,es,ep,j,r⟩,_⟩:=id I.loc;obtain⟨t,g⟩:=u.any j I.free λz=>(d _ z).2.1 rfl;exact I.step (ch:=ch) d (λb o g l a e n=>u.keep b o e n (λz=>(Pq.mp (I.stkSub b z)).elim g l) a) (λb o _ _ a e n=>u.any e n a) (λb o a e n=>u.free b o e n a) (λb o a e=>u.there b o e a) u.tups u.frzs u.tbls (λv hm=>by
  obtain⟨y,h,i,f,q⟩:=hm;rw[j]at f;cases f;exact⟨_,h,i,g,q⟩) hok k
theorem Inv.turned(I:Inv X pins σ H s)(k:∀b o,b≠it->s.heap.get? b=on o->h'.get? b=on o)(hn:H it=OR)(f:it≠X.env.locals)
  (g:it∈X.ex\/X.s₀.heap.objs.size<=it) (h:∀x c,X.env.cells.lookup x=on c->c≠it) (i:∀p∈X.pn++pins,p.1≠it):Inv X pins σ H {s with heap:=h',toks:=t'}:=by
 have d:∀b u,H b=on u->b≠it:=λb u e z=>by rw[z,hn]at e;cases e
 refine I.step (g':=s.gens) (d':=s.drawn) (ch:=[it]) (λb j=>?_) (λb o _ _ a e _=>k b o (λz=>a (by simp[z])) e) (λb o _ _ a e _=>⟨o.slots,k b o (λz=>a (by simp[z])) e⟩) (λ_ _ _ _ n=>n)
  (λb o a e=>⟨o,k b o (λz=>a (by simp[z])) e⟩) (λ_ _ e=>e) (λ_ _ _ e=>e) (λb ps e=>⟨#[],by rw[e];simp⟩) (λm hm=>?_) (λb u e=>?_) I.bare
 ·have e:b=it:=by simpa using j
  subst e;exact⟨g,f,h,i⟩
 ·obtain⟨o,es,ep,l,r⟩:=hm
  exact⟨o,es,ep,k _ o (Ne.symm f) l,r⟩
 ·refine(I.hok b u e).stay (λc v a q=>k c v ?_ q) (λ_ q=>q) λ_ _ q=>q
  rcases a with z|z
  ·rw[z];exact d b u e
  ·exact d c _ z
theorem Inv.tok(I:Inv X pins σ H s)(t:Nat):Inv X pins σ H {s with toks:=t}:=I.un (h':=s.heap) (t':=t) Un.refl I.hok
theorem Inv.kept(I:Inv X pins σ H s)(k:∀b u,s.heap.get? b=on u->h'.get? b=on u):Inv X pins σ H {s with heap:=h',toks:=t'}:=I.un (Un.kept k) (I.hok.kept k)
theorem Inv.laid{a:OZ}{o:HO}{t':Nat}(I:Inv X pins σ H s)(k:∀b u,s.heap.get? b=on u->h'.get? b=on u)(c:s.heap.objs.size<=a)(new:bu X.prog X.w (upd H a o) h' a o):
  Inv X pins σ (upd H a o) {s with heap:=h',toks:=t'}:=I.un (Un.laid k c (I.hok.fresh c)) (I.hok.laid k c new)
theorem Inv.write(I:Inv X pins σ H s)(mu:Mut (H x))(c:e=x\/H e=on (.own x))(k:∀b u,b≠e->s.heap.get? b=on u->h'.get? b=on u)(a:∃u,h'.get? e=on u)
  (new:bu X.prog X.w (upd H x o) h' x o):Inv X pins σ (upd H x o) {s with heap:=h',toks:=t'}:=I.un (Un.write mu c k a) (I.hok.write mu c k a new)
theorem Inv.pins_of(I:Inv X pins σ H s)(h:∀p∈pins',s.heap.get? p.1=on p.2/\H p.1=OR/\p.1≠X.env.locals/\p.1∉X.fs/\∀v,p.2.data≠ .cell v):Inv X pins' σ H s:=
 ⟨I.ok,I.os,I.bare,I.base,I.loc,I.cell,I.free,I.freeC,λp a=>(QY.mp a).elim (λz=>I.pin p (RW _ z)) (h p),I.hok,I.len⟩
theorem uu{N:List PY}(c:N.Nodup){i j:Nat}{x:PY}(a:N[i]?=on x)(b:N[j]?=on x):i=j:=by
 obtain⟨f,d⟩:=Pc.mp a;obtain⟨g,e⟩:=Pc.mp b;exact(List.getElem_inj c).mp (d.trans e.symm)
theorem kT{M:WV}{E:OX->O7->Prop}(I:Inv X pins σ H s)(hN:X.N.Nodup)(O:X.N[i]?=on x)(l:Loc X.env.scope x)(r:aG v u)
  (h:∀s',Inv X pins (σ.set i (on v)) H s'->(∃a,PX a s.heap s'.heap/\(a=X.env.locals\/X.env.cells.lookup x=on a))->Q () s') (hf:X.fn x=OV\/X.env.scope.names.lookup x=on .local:=by first|exact .inl rfl|exact .inr rfl|assumption):Pf M A (storeName X.env x u) Q E s:=by
 obtain⟨m,hn,hl⟩:=id I.loc;have P:(X.env.scope.kind== .class||(X.env.scope.kind== .module&&X.env.locals !=X.env.globals))=OW:=by rw[I.ok.kind];rfl
 have C:i<σ.length:=by rw[I.len];exact(Pc.mp O).1
 have cne:=I.cne;have f:∀{a:OZ} {h':P7},(∃o,s.heap.get? a=on o/\H a=OR)->PX a s.heap h'->HOk X.prog X.w H h':=λ{a h'} ha hs b ob e=>by
  obtain⟨_,_,t⟩:=ha;refine(I.hok b ob e).stay (λc Y hc q=>(hs.2 c ?_).trans q) (λ_ q=>q) λ_ _ q=>q;rintro rfl;rcases hc with rfl|hc
  ·rw[t]at e;cases e
  ·rw[t]at hc;cases hc
 rcases l with hk|hk
 ·refine wpAny_storeName_local hk hn (λh' hn' hs=>?_) P
  obtain⟨oL,_,_,hoL,_⟩:=id hn;refine h _ ⟨I.ok,I.os,I.bare,⟨λb o e n F l=>?_,λb o e n F l=>?_,I.base.free,λb o e l=>?_,I.base.tups,I.base.frzs,I.base.tbls⟩,⟨_,hn',λj y v' g B e3=>?_⟩,λy c e=>?_,I.free,I.freeC,λp hp=>?_,f ⟨oL,hoL,I.free⟩ hs,by simpa using I.len⟩ ⟨_,hs,.inl rfl⟩
  ·exact(hs.2 b (Qa (PM (Pz e) I.ok.above))).trans (I.base.keep b o e n F l)
  ·obtain⟨sl,g⟩:=I.base.slot b o e n F l
   exact⟨sl,(hs.2 b (Qa (PM (Pz e) I.ok.above))).trans g⟩
  ·obtain⟨o',g⟩:=I.base.there b o e l
   exact⟨o',(hs.2 b (Qa (PM (Pz e) I.ok.above))).trans g⟩
  ·by_cases J:j=i
   ·subst J
    rw[O]at g;cases g;rw[Xe C]at B;cases B;exact⟨u,r,.inl ⟨hk,by simp⟩⟩
   ·rw[XI (Ne.symm J)]at B
    obtain⟨u',r',q⟩:=hl j y v' g B e3;refine⟨u',r',?_⟩;rcases q with⟨k,e⟩|⟨k,c,e,z⟩
    ·refine .inl ⟨k,?_⟩
     have:y≠x:=λe=>J (uu hN g (e▸O));simp[this,e]
    ·exact .inr ⟨k,c,e,z.sameBut hs (cne y c e)⟩
  ·obtain⟨Y,z⟩:=I.cell y c e
   exact⟨Y,z.sameBut hs (cne y c e)⟩
  ·obtain⟨e,n,ne,nf,d⟩:=I.pin p hp
   exact⟨(hs.2 p.1 ne).trans e,n,ne,nf,d⟩
 ·have L:X.fn x=OV:=by
   rcases hf with z|z
   ·exact z
   ·rw[z]at hk;cases hk
  obtain⟨c,hc⟩:=I.ok.has x (.inl hk);obtain⟨Y,z⟩:=I.cell x c hc;refine wpAny_storeName_cell I.ok.kind hk hc z (λh' R hs=>?_);obtain⟨oc,T,U⟩:=id z;refine h {s with heap:=h'} ⟨I.ok,I.os,I.bare,⟨λb o e n F l=>?_,λb o e n F l=>?_,I.base.free,λb o e l=>?_,I.base.tups,I.base.frzs,I.base.tbls⟩,⟨m,hn.sameBut hs (Ne.symm (cne x c hc)),λj y v' g B e3=>?_⟩,λy Z e=>?_,I.free,I.freeC,λp hp=>?_,f ⟨oc,T,I.freeC x c hc⟩ hs,by simpa using I.len⟩ ⟨c,hs,.inr hc⟩
  ·exact(hs.2 b (Qa (PM (Pz e) (I.ok.cab x c L hc)))).trans (I.base.keep b o e n F l)
  ·obtain⟨sl,g⟩:=I.base.slot b o e n F l
   exact⟨sl,(hs.2 b (Qa (PM (Pz e) (I.ok.cab x c L hc)))).trans g⟩
  ·obtain⟨o',g⟩:=I.base.there b o e l
   exact⟨o',(hs.2 b (Qa (PM (Pz e) (I.ok.cab x c L hc)))).trans g⟩
  ·by_cases J:j=i
   ·subst J
    rw[O]at g;cases g;rw[Xe C]at B;cases B;exact⟨u,r,.inr ⟨.inl hk,c,hc,R⟩⟩
   ·rw[XI (Ne.symm J)]at B
    obtain⟨u',r',q⟩:=hl j y v' g B e3;refine⟨u',r',?_⟩;rcases q with q|⟨k,Z,e,z'⟩
    ·exact .inl q
    ·refine .inr ⟨k,Z,e,z'.sameBut hs ?_⟩
     rintro rfl;exact J (uu hN g (I.ok.inj _ _ _ e hc▸O))
  ·by_cases W:Z=c
   ·subst W;exact⟨_,R⟩
   ·obtain⟨w2,z2⟩:=I.cell y Z e
    exact⟨w2,z2.sameBut hs W⟩
  ·obtain⟨e,n,ne,nf,d⟩:=I.pin p hp
   refine⟨(hs.2 p.1 ?_).trans e,n,ne,nf,d⟩;intro q;rw[q,T]at e;have q':oc=p.2:=PR e;exact d Y (by rw[←q'];exact U)
theorem nF{M:WV}{E:OX->O7->Prop}(I:Inv X pins σ H s)(a:X.N.Nodup)(b:X.N[i]?=on x)(c:Loc X.env.scope x)(r:aG v u)
  (h:∀s',Inv X pins (σ.set i (on v)) H s'->Q () s') (d:X.fn x=OV\/X.env.scope.names.lookup x=on .local:=by first|exact .inl rfl|exact .inr rfl|assumption):Pf M A (storeName X.env x u) Q E s:=
 kT I a b c r (λs' e _=>h s' e) d
theorem Inv.call'{s':O7}{ch:List OZ}(I:Inv X pins σ H s)(d:s'.os=s.os)(u:Un (frs X.stack) ch H H' s.heap s'.heap)(hok:HOk X.prog X.w H' s'.heap)(f:Ux s'.gens)
  (a:∀b∈ch,(b∈X.ex\/X.s₀.heap.objs.size<=b)/\b≠X.env.locals/\(∀x c,X.env.cells.lookup x=on c->c≠b)/\∀p∈X.pn++pins,p.1≠b):Inv X pins σ H' s':=by
 obtain⟨h',g',d',t',g⟩:=s';have e:g=s.os:=d;subst e;exact I.call (g':=g') (t':=t') (d':=d') u hok f a
end
abbrev XK:=OX->Option OZ->Hp->Prop
abbrev St:=List (Option V)
abbrev VK:=V->Hp->Prop
abbrev TE:=St->Hp->VK->Prop
abbrev TT:=St->Hp->(Bool->Hp->Prop)->Prop
abbrev TA:=St->Hp->(List V->Hp->Prop)->Prop
structure Ends where
 nx:St->Hp->Prop
 rt:VK
 bk:St->Hp->Prop:=λ_ _=>False
 ct:St->Hp->Prop:=λ_ _=>False
abbrev TS:=Ends->St->Hp->Prop
def EP(X:Cx)(a:List (OZ×PP))(c:St)(Q:VK)(u:OX)(s':O7):Prop:=∃v b,Inv X a c b s'/\aG v u/\Q v b
def TP(X:Cx)(a:List (OZ×PP))(d:St)(Q:Bool->Hp->Prop)(b:Bool)(s':O7):Prop:=∃c,Inv X a d c s'/\Q b c
def AP(X:Cx)(a:List (OZ×PP))(c:St)(Q:List V->Hp->Prop)(us:List OX)(s':O7):Prop:=∃vs b,Inv X a c b s'/\ao vs us/\Q vs b
def SP(X:Cx)(b:List (OZ×PP))(D:Ends)(f:Flow)(s':O7):Prop:=
 match f with
 | .next=>∃a c,Inv X b a c s'/\D.nx a c
 | .brk=>∃a c,Inv X b a c s'/\D.bk a c
 | .cont=>∃a c,Inv X b a c s'/\D.ct a c
 | .ret u=>∃v a c,Inv X b a c s'/\aG v u/\D.rt v c
def PE(X:Cx)(e:Expr)(t:TE):Prop:=
 ∀(a:List (OZ×PP)) (s:O7) (b:St) (H:Hp) (Q:VK),Inv X a b H s->t b H Q->Pf (Py X.prog X.w) X.A (Qo e X.env) (EP X a b Q) X.xe s
def PT(X:Cx)(e:Expr)(t:TT):Prop:=
 ∀(a:List (OZ×PP)) (s:O7) (b:St) (H:Hp) (Q:Bool->Hp->Prop),Inv X a b H s->t b H Q->Pf (Py X.prog X.w) X.A (isTrue e X.env (Qo e X.env)) (TP X a b Q) X.xe s
def PW(X:Cx)(e:Expr)(t:TT):Prop:=
 ∀(b:Sem OX) (a:List (OZ×PP)) (s:O7) (c:St) (H:Hp) (Q:Bool->Hp->Prop),Inv X a c H s->t c H Q->Pf (Py X.prog X.w) X.A (isTrue e X.env b) (TP X a c Q) X.xe s
theorem PW.pt(h:PW X e t):PT X e t:=h _
def PA(X:Cx)(es:List Expr)(t:TA):Prop:=
 ∀(pos:Tz) (a:List (OZ×PP)) (s:O7) (b:St) (H:Hp) (Q:List V->Hp->Prop),Inv X a b H s->t b H Q->Pf (Py X.prog X.w) X.A (spliced (Q5 pos (Pb es X.env))) (AP X a b Q) X.xe s
def PS(X:Cx)(st:QF)(t:TS):Prop:=
 ∀(a:List (OZ×PP)) (s:O7) (b:St) (H:Hp) (D:Ends),Inv X a b H s->t D b H->Pf (Py X.prog X.w) X.A (exec st X.env) (SP X a D) X.xe s
def PSs(X:Cx)(st:List QF)(t:TS):Prop:=
 ∀(a:List (OZ×PP)) (s:O7) (b:St) (H:Hp) (D:Ends),Inv X a b H s->t D b H->Pf (Py X.prog X.w) X.A (execs st X.env) (SP X a D) X.xe s
theorem thn{α:Type}{t:Sem α}{Q b:α->O7->Prop}{M:WV}{A:Qn}{E:OX->O7->Prop}{s:O7}(h:Pf M A t Q E s)(c:∀a s,Q a s->b a s):Pf M A t b E s:=Qc h c λ_ _ x=>x
section
variable{X:Cx}
def ql(i:Nat):TE:=λa H Q=>∃v,a[i]?=on (on v)/\Q v H
def tC(v:V):TE:=λ_ H Q=>Q v H
theorem LS(j:X.N[i]?=on x)(k:Vis X.env.scope x)(hd:(x==("__debug__":PY))=OW:=by decide)(f:(x==("__classdict__":PY))=OW:=by decide):PE X (.Name x pos) (ql i):=by
 intro d s n H Q I h;obtain⟨v,e,h⟩:=h;obtain⟨m,hn,o⟩:=I.loc;obtain⟨u,r,l⟩:=o i x v j e k;have b:EP X d n Q u s:=⟨v,H,I,r,h⟩;rcases l with⟨hk,hm⟩|⟨hk,c,g,a⟩
 ·exact wpAny_Name (wpAny_loadName_local I.ok.kind hk hn hm b) hd
 ·rcases hk with hk|hk
  ·exact wpAny_Name (wpAny_loadName_cell I.ok.kind hk g a b) hd
  ·exact wpAny_Name (wpAny_loadName_free I.ok.kind hk g a b f) hd
theorem bL{i j pos}:PE X (.Constant (.int i) j pos) (tC (.int i)):=λ_ _ _ H _ I h=>wpAny_Constant_int ⟨.int i,H,I.tok _,⟨_,rfl⟩,h⟩
theorem Oe{b j pos}:PE X (.Constant (.bool b) j pos) (tC (.bl b)):=λ_ _ _ H _ I h=>Constant_bool ⟨.bl b,H,I,rfl,h⟩
theorem LW{j pos}:PE X (.Constant .none j pos) (tC .non):=λ_ _ _ H _ I h=>Constant_none ⟨.non,H,I,rfl,h⟩
theorem o8{x j pos}:PE X (.Constant (.str x) j pos) (tC (.str x)):=λ_ _ _ H _ I h=>XT ⟨.str x,H,I.tok _,⟨_,rfl⟩,h⟩
def Gl(X:Cx)(x:PY):Prop:=X.env.kindOf x=on .globalImplicit
theorem iw{E:OX->O7->Prop}(I:Inv X pins σ H s)(a:Gl X x)(hm:X.mg x=on u)(h:Q u s)
  (hd:(x==("__debug__":PY))=OW:=by decide):Pf (Py X.prog X.w) X.A (Qo (.Name x pos) X.env) Q E s:=
 Wl I.ok.kind a (Calls.loadGlobal_global (by rw[I.ok.glob];exact I.mod.glob.keeps I.bk) hm h) hd
theorem eW{E:OX->O7->Prop}(I:Inv X pins σ H s)(a:Gl X x)(hm:X.mg x=OR)(b:Td x=on u)(h:Q u s)
  (hn:x≠"__name__":=by decide) (hd:(x==("__debug__":PY))=OW:=by decide):Pf (Py X.prog X.w) X.A (Qo (.Name x pos) X.env) Q E s:=by
 obtain⟨e,c,d⟩:=I.mod.blt;exact Wl I.ok.kind a (Calls.loadGlobal_builtin (by rw[I.ok.glob];exact I.mod.glob.keeps I.bk) hm (by rw[I.ok.blt];exact c.keeps I.bk) ((d x hn).trans b) h) hd
theorem wc(a:Gl X x)(hm:X.mg x=on u)(r:aG v u)(hd:(x==("__debug__":PY))=OW:=by decide):PE X (.Name x pos) (tC v):=
 λ_ _ _ H _ I h=>iw I a hm ⟨v,H,I,r,h⟩ hd
theorem da(a:Gl X x)(hm:X.mg x=OR)(b:Td x=on u)(r:aG v u)(hn:x≠"__name__":=by decide)(hd:(x==("__debug__":PY))=OW:=by decide):PE X (.Name x pos) (tC v):=
 λ_ _ _ H _ I h=>eW I a hm b ⟨v,H,I,r,h⟩ hn hd
variable{a b:Expr}{ta tb:TE}{pos:Tz}
variable{tA tB':TT}{rest:List Expr}
def tOr(t u:TT):TT:=λd H Q=>t d H λc e=>if c=OV then Q OV e else u d e Q
def tNot(t:TT):TT:=λd H Q=>t d H λc e=>Q (!c) e
theorem LG(ha:PT X a tA):PW X (.BoolOp .Or [a] pos) tA:=by
 intro g d s f H Q I h;refine isTrue_or (thn (ha d s f H Q I h) λc i e=>?_);cases c with
 |false=>exact isTrue_or_nil e
 |true=>exact e
theorem Oc(ha:PT X a tA)(i:PW X (.BoolOp .Or (b::rest) pos) tB'):PW X (.BoolOp .Or (a::b::rest) pos) (tOr tA tB'):=by
 intro j d s e H Q I h;refine isTrue_or (thn (ha d s e H _ I h) λc k ⟨f,g,q1⟩=>?_);cases c with
 |true=>exact⟨f,g,q1⟩
 |false=>exact i j d k e f Q g q1
theorem LJ(ha:PT X a tA):PT X (.UnaryOp .Not a pos) (tNot tA):=by
 intro d s e H Q I h;exact isTrue_not (ha d s e H (λc f=>Q (!c) f) I h)
def N5(ta tb:TE):TE:=λd H Q=>ta d H λx e=>∃c,x= .bl c/\if c=OV then tb d e Q else Q (.bl OW) e
theorem LV{op}(h:PE X a t):PE X (.BoolOp op [a] pos) t:=λc s d H Q I e=>BoolOp_one (h c s d H Q I e)
theorem LZ(ha:PE X a ta)(i:PE X (.BoolOp .And (b::rest) pos) tb):PE X (.BoolOp .And (a::b::rest) pos) (N5 ta tb):=by
 intro d s e H Q I h;refine BoolOp_and (thn (ha d s e H _ I h) λv j ⟨x,f,g,r1,q1⟩=>?_);obtain⟨c,rfl,q1⟩:=q1;cases r1;refine QP ?_;cases c with
 |true=>exact i d j e f Q g q1
 |false=>exact⟨.bl OW,f,g,rfl,q1⟩
def tIf(t:TT)(ta tb:TE):TE:=λd H Q=>t d H λc e=>if c=OV then ta d e Q else tb d e Q
theorem DD(k:PT X c tA)(ha:PE X a ta)(l:PE X b tb):PE X (.IfExp c a b pos) (tIf tA ta tb):=by
 intro e s f H Q I h;refine wpAny_IfExp (thn (k e s f H _ I h) λd g ⟨i,j,q1⟩=>?_);cases d with
 |true=>exact ha e g f i Q j q1
 |false=>exact l e g f i Q j q1
end
def SqL(K:Po)(H:Hp)(a:OZ)(xs:List V):Prop:=
 Rd H a (.lst xs)\/
  ∃(o:PP) (its:Array OX) (n:Nat),K.lookup a=on o/\o.cls= .type "list"/\o.dict=OR/\o.data= .seq its n/\its.size<=Pe/\ao xs its.toList
def SqT(K:Po)(H:Hp)(a:OZ)(xs:List V):Prop:=
 Rd H a (.tup xs)\/
  ∃(o:PP) (its:Array OX) (n:Nat),K.lookup a=on o/\o.cls= .type "tuple"/\o.data= .seq its n/\its.size<=Pe/\ao xs its.toList
noncomputable def absV:OX->Option V
 | .none=>on .non
 | .bool b=>on (.bl b)
 | .int i _=>on (.int i)
 | .str x _=>on (.str x)
 | .ref a=>on (.ref a)
 | .type n=>on (.ty n)
 |_=>OR
theorem aG.abs(r:aG x u):absV u=on x:=by
 cases x with
 |non=>cases r;rfl
 |bl _=>cases r;rfl
 |int _=>obtain⟨t,rfl⟩:=r;rfl
 |str _=>obtain⟨t,rfl⟩:=r;rfl
 |ref _=>cases r;rfl
 |ty _=>cases r;rfl
theorem aG.inj(r:aG x u)(q:aG y u):x=y:=PR (r.abs.symm.trans q.abs)
theorem ao.inj:∀{xs ys:List V} {us:List OX},ao xs us->ao ys us->xs=ys
 |_,_,_,.nil,.nil=>rfl
 |_,_,_,.cons r t,.cons r' t'=>by rw[r.inj r',ao.inj t t']
section
variable{X:Cx}{pins:List (OZ×PP)}{σ:St}{H:Hp}{s:O7}{a:OZ}{xs ys:List V}
theorem SqL.of{K:Po}(h:H a=on (.lst xs)):SqL K H a xs:= .inl (.inl h)
theorem Inv.list(I:Inv X pins σ H s)(h:SqL X.K H a xs):∃its:List OX,ao xs its/\PlainL s.heap a its.toArray/\xs.length<=Pe:=by
 rcases h with h|⟨o,its,n,b,c,hd,hs,d,r⟩
 ·obtain⟨z,its,n,r,e⟩:=h.ok I.hok
  exact⟨its,r,⟨_,n,e,rfl,rfl,rfl⟩,z⟩
 ·refine⟨its.toList,r,⟨o,n,I.kIn a o b,c,hd,by simpa using hs⟩,?_⟩
  have e:=r.length;simp only[PZ]at e;omega
theorem Inv.tuple(I:Inv X pins σ H s)(h:SqT X.K H a xs):∃its:List OX,ao xs its/\IsTup s.heap a its.toArray/\xs.length<=Pe:=by
 rcases h with h|⟨o,its,n,b,c,hs,d,r⟩
 ·obtain⟨z,its,r,p⟩:=h.ok I.hok
  exact⟨its,r,p,z⟩
 ·refine⟨its.toList,r,⟨o,I.kIn a o b,c,n,by simpa using hs⟩,?_⟩
  have e:=r.length;simp only[PZ]at e;omega
theorem Inv.list_inj(I:Inv X pins σ H s)(h:SqL X.K H a xs)(h':SqL X.K H a ys):xs=ys:=by
 obtain⟨its,r,⟨o,n,e,_,_,d⟩,_⟩:=I.list h;obtain⟨its',c,⟨f,g,b,_,_,d'⟩,_⟩:=I.list h';rw[e]at b;cases b;rw[d]at d'
 injection d' with d1 _
 have:its=its':=by simpa using Qr Array.toList d1
 subst this;exact r.inj c
theorem Inv.tuple_inj(I:Inv X pins σ H s)(h:SqT X.K H a xs)(h':SqT X.K H a ys):xs=ys:=by
 obtain⟨its,r,⟨o,e,_,n,d⟩,_⟩:=I.tuple h;obtain⟨its',c,⟨f,b,_,g,d'⟩,_⟩:=I.tuple h';rw[e]at b;cases b;rw[d]at d'
 injection d' with d1 _
 have:its=its':=by simpa using Qr Array.toList d1
 subst this;exact r.inj c
end
noncomputable abbrev Cx.wish(X:Cx)(E:OX->O7->Prop):Cx:={X with xe:=E}
noncomputable abbrev Cx.nox(X:Cx):Cx:=X.wish λ_ _=>False
theorem Cx.Ok.wish{X:Cx}(ok:X.Ok)(E:OX->O7->Prop):(X.wish E).Ok:=
 ⟨ok.mod,ok.kind,ok.glob,ok.blt,ok.above,ok.inj,ok.has,ok.cab,ok.hd,ok.frames,ok.stk,ok.exf,ok.bs,ok.bsz,ok.noex,ok.exfs,ok.funs,ok.frf⟩
theorem Cx.Ok.unwish{X:Cx}{E:OX->O7->Prop}(ok:(X.wish E).Ok):X.Ok:=
 ⟨ok.mod,ok.kind,ok.glob,ok.blt,ok.above,ok.inj,ok.has,ok.cab,ok.hd,ok.frames,ok.stk,ok.exf,ok.bs,ok.bsz,ok.noex,ok.exfs,ok.funs,ok.frf⟩
section
variable{X:Cx}{pins:List (OZ×PP)}{σ:St}{H:Hp}{s:O7}{E:OX->O7->Prop}
theorem Inv.wish(I:Inv X pins σ H s)(E:OX->O7->Prop):Inv (X.wish E) pins σ H s:=⟨I.ok.wish E,I.os,I.bare,I.base,I.loc,I.cell,I.free,I.freeC,I.pin,I.hok,I.len⟩
theorem Inv.unwish(I:Inv (X.wish E) pins σ H s):Inv X pins σ H s:=⟨I.ok.unwish,I.os,I.bare,I.base,I.loc,I.cell,I.free,I.freeC,I.pin,I.hok,I.len⟩
theorem SP.unwish{D:Ends}(h:SP (X.wish E) pins D f s'):SP X pins D f s':=by
 cases f with
 |next=>obtain⟨a,b,I,q⟩:=h;exact⟨a,b,I.unwish,q⟩
 |brk=>obtain⟨a,b,I,q⟩:=h;exact⟨a,b,I.unwish,q⟩
 |cont=>obtain⟨a,b,I,q⟩:=h;exact⟨a,b,I.unwish,q⟩
 |ret u=>obtain⟨v,a,b,I,r,q⟩:=h;exact⟨v,a,b,I.unwish,r,q⟩
theorem PSs.nox{st:List QF}(h:PSs X.nox st t):PSs X st t:=λpins s σ H D I a=>
 Qc (h pins s σ H D (I.wish _) a) (λ_ _ q=>q.unwish) λ_ _ z=>QX z
end
section
variable{X:Cx}{st:QF}{rest:List QF}{t u:TS}{e:Expr}{te:TE}{pos:Tz}
noncomputable def N2:TS:=λD a H=>D.nx a H
def tSeq(t u:TS):TS:=λD a H=>t {D with nx:=u D} a H
theorem qu:PSs X [] N2:=λ_ _ a H _ I h=>W7 ⟨a,H,I,h⟩
theorem cA(c:PS X st t)(d:PSs X rest u):PSs X (st::rest) (tSeq t u):=by
 intro a s g H D I h;refine wpAny_execs_cons (thn (c a s g H {D with nx:=u D} I h) λf i q=>?_);cases f with
 |next=>
  obtain⟨b,j,k,q⟩:=q;exact d a i b j D k q
 |ret v=>exact q
 |brk=>exact q
 |cont=>exact q
theorem fK(b:PS X st t):PSs X [st] t:=by
 intro a s c H D I h;refine wpAny_execs_cons (thn (b a s c H D I h) λf d q=>?_);cases f with
 |next=>exact W7 q
 |ret v=>exact q
 |brk=>exact q
 |cont=>exact q
theorem Inv.quiet(I:Inv X pins σ H s):interactive X.env=OW:=by simp[interactive,I.ok.kind]
def xi(te:TE):TS:=λD a H=>te a H λ_ b=>D.nx a b
theorem c9(c:PE X e te)(hs:Tw e OR pos.line X.env=Ro OW:=by rfl):PS X (.Expr e pos) (xi te):=by
 intro a s b H D I h;exact wpAny_Expr_any (thn (c a s b H _ I h) λv g ⟨x,d,f,r1,q1⟩=>⟨b,d,f,q1⟩) I.quiet hs
def CD(te:TE):TS:=λD a H=>te a H D.rt
theorem ay(c:PE X e te):PS X (.Return (on e) pos) (CD te):=by
 intro a s b H D I h;exact wpAny_Return_some (thn (c a s b H _ I h) λv g ⟨x,d,f,r1,q1⟩=>⟨x,b,d,f,r1,q1⟩)
def tIfS(c:TT)(t u:TS):TS:=λD a H=>c a H λb d=>if b=OV then t D a d else u D a d
theorem II(l:PT X c tc)(ha:PSs X a t)(m:PSs X b u):PS X (.If c a b pos) (tIfS tc t u):=by
 intro f s g H D I h;refine wpAny_If (thn (l f s g H _ I h) λd i ⟨j,k,q1⟩=>?_);cases d with
 |true=>exact ha f i g j D k q1
 |false=>exact m f i g j D k q1
end
abbrev TG:=V->St->Hp->(St->Hp->Prop)->Prop
abbrev TGs:=List V->St->Hp->(St->Hp->Prop)->Prop
def PG(X:Cx)(a:Expr)(t:TG):Prop:=
 ∀(b:List (OZ×PP)) (s:O7) (d:St) (H:Hp) (v:V) (u:OX) (Q:St->Hp->Prop),Inv X b d H s->aG v u->t v d H Q->
  Pf (Py X.prog X.w) X.A (Uq a X.env u) (λ_ s'=>∃c e,Inv X b c e s'/\Q c e) X.xe s
def PGs(X:Cx)(e:List Expr)(t:TGs):Prop:=
 ∀(a:List (OZ×PP)) (s:O7) (c:St) (H:Hp) (vs:List V) (us:List OX) (Q:St->Hp->Prop),Inv X a c H s->ao vs us->t vs c H Q->
  Pf (Py X.prog X.w) X.A (assignInOrder ((Vu e X.env).map (·.2)) us) (λ_ s'=>∃b d,Inv X a b d s'/\Q b d) X.xe s
abbrev HG:=V->V->V->Hp->(Hp->Prop)->Prop
def NM(X:Cx)(t:HG):Prop:=
 ∀(a:List (OZ×PP)) (s:O7) (b:St) (H:Hp) (o i v:V) (c d u:OX) (Q:Hp->Prop),Inv X a b H s->aG o c->aG i d->aG v u->t o i v H Q->
  Pf (Py X.prog X.w) X.A (setItem c d u) (λ_ s'=>∃e,Inv X a b e s'/\Q e) X.xe s
abbrev TIp:=V->V->Hp->VK->Prop
def PIp(X:Cx)(op:Operator)(t:TIp):Prop:=
 ∀(a:List (OZ×PP)) (s:O7) (b:St) (H:Hp) (x y:V) (v u:OX) (Q:VK),Inv X a b H s->aG x v->aG y u->t x y H Q->
  Pf (Py X.prog X.w) X.A (inplaceOp op v u) (EP X a b Q) X.xe s
section
variable{X:Cx}{pos:Tz}
def fj(i:Nat):TG:=λv a H Q=>Q (a.set i (on v)) H
theorem wb(b:X.N.Nodup)(c:X.N[i]?=on x)(d:Loc X.env.scope x)(e:X.fn x=OV\/X.env.scope.names.lookup x=on .local:=by first|exact .inl rfl|exact .inr rfl|assumption):PG X (.Name x pos) (fj i):=by
 intro a s g H v u Q I r h;exact Wx (nF I b c d r (λs' f=>⟨_,H,f,h⟩) e)
noncomputable def gNil:TGs:=λvs a H Q=>vs=[]/\Q a H
def x6(t:TG)(u:TGs):TGs:=λvs b H Q=>∃v r,vs=v::r/\t v b H λa c=>u r a c Q
theorem bi:PGs X [] gNil:=by
 intro a s b H vs us Q I r h;obtain⟨e,h⟩:=h;subst e;cases r;exact assignInOrder_nil ⟨b,H,I,h⟩
theorem ax(c:PG X e t)(d:PGs X es u)
  (hs:(Vu (e::es) X.env).map (·.2)=Uq e X.env::(Vu es X.env).map (·.2):=by rfl):PGs X (e::es) (x6 t u):=by
 intro a s f H vs us Q I r h;obtain⟨v,m,g,h⟩:=h;subst g;cases r with
 |cons r i=>
  rw[hs];refine assignInOrder_cons (thn (c a s f H _ _ _ I r h) λ_ j ⟨b,k,l,q1⟩=>?_);exact d a j b k _ _ Q l i q1
def ER(K:Po)(n:Nat)(t:TGs):TG:=λv b H Q=>∃a xs,v= .ref a/\SqT K H a xs/\xs.length=n/\t xs b H Q
theorem bx(j:X.calm=OV)(h:PGs X es t)
  (hn:(Vu es X.env).length=n:=by rfl) (d:(Vu es X.env).findIdx? (·.1)=OR:=by rfl):PG X (.Tuple es k pos) (ER X.K n t):=by
 intro c s g H v u Q I r f;obtain⟨a,xs,l,m,p,f⟩:=f;subst l;cases r;obtain⟨its,i,q,A⟩:=I.tuple m;refine assign_Tuple_tuple (I.ok.hd j) q (by simp[hn,←p,i.length]) d λh' w=>?_;have y:Inv X c g H {s with heap:=h'}:=I.kept (t':=s.toks) λb o e=>w b o (Qa (Pz e)) e;exact h c _ g H xs _ Q y (by simpa using i) f
def MC(to b:TE)(t:HG):TG:=λv a H Q=>to a H λo c=>b a c λi d=>t o i v d λe=>Q a e
theorem jG(e:PE X o to)(f:PE X i ti)(hs:NM X t)
  (ha:∀v,Uq (.Subscript o i pos) X.env v=(do
   let b ←Te [v] (Qo o X.env)
   let c ←Te [v,b] (Qo i X.env)
   Sw pos
   Te [v,b,c] (setItem b c v)
   release [v,b,c] []):=by intro _;rfl):PG X (.Subscript o i pos) (MC to ti t):=by
 intro a s d H v u Q I r h;rw[ha];refine My (QO (thn (e a s d H _ I h) λb g ⟨x,j,k,r1,q1⟩=>?_));refine My (QO (thn (f a g d j _ k q1) λc l ⟨y,m,n,p,q2⟩=>?_));refine My (Rh (My (QO (thn (hs a l d m x y v b c u _ n r1 p r q2) λ_ A ⟨q,w,q3⟩=>?_))));exact wpAny_release ⟨d,q,w,q3⟩
def jp(b:TE)(g:TG):TS:=λD a H=>b a H λx c=>g x a c D.nx
theorem gB(c:PE X e te)(d:PG X tg g)(hs:swapsWithSole [tg] e pos.line X.env=Ro OW:=by rfl)(f:swappedStores [tg] e X.env=Ro OR:=by rfl)
  (i:(Vu [tg] X.env).map (·.2)=[Uq tg X.env]:=by rfl):PS X (.Assign [tg] e pos) (jp te g):=by
 intro a s b H D I h;refine wpAny_Assign_stores (thn (c a s b H _ I h) λv j ⟨x,k,l,r1,q1⟩=>?_) hs f;rw[i];exact thn (d a j b k x v _ l r1 q1) λ_ m q=>q
theorem o6(b:X.N.Nodup)(c:X.N[i]?=on x)(d:Loc X.env.scope x)(f:PE X e te)(hs:Tw e (on (.Name x pos')) pos.line X.env=Ro OW:=by rfl)(g:X.fn x=OV\/X.env.scope.names.lookup x=on .local:=by first|exact .inl rfl|exact .inr rfl|assumption):
  PS X (.Assign [.Name x pos'] e pos) (jp te (fj i)):=by
 intro a s j H D I h;refine wpAny_Assign_Name (thn (f a s j H _ I h) λv n ⟨y,k,l,r1,q1⟩=>?_) hs;exact nF l b c d r1 (λo m=>⟨_,k,m,q1⟩) g
def Li(i:Nat)(b:TE)(c:TIp):TS:=λD a H=>∃x,a[i]?=on (on x)/\b a H λy d=>c x y d λz e=>D.nx (a.set i (on z)) e
theorem lz(p:X.N.Nodup)(n:X.N[i]?=on x)(g:Loc X.env.scope x)(q:PE X e te)(t:PIp X op ti)(B:X.fn x=OV\/X.env.scope.names.lookup x=on .local:=by first|exact .inl rfl|exact .inr rfl|assumption):
  PS X (.AugAssign (.Name x pos') op e pos) (Li i te ti):=by
 intro a s o H D I h;obtain⟨v,C,h⟩:=h;obtain⟨m,hn,F⟩:=I.loc;have j:Vis X.env.scope x:=by rcases g with k|k;exact .inl k;exact .inr (.inl k)
 obtain⟨u,r,l⟩:=F i x v n C j;refine wpAny_AugAssign_Name ?_;have go:Pf (Py X.prog X.w) X.A (Qo e X.env) (λw d=>Pf (Py X.prog X.w) X.A (inplaceOp op u w) (λr f=>Pf (Py X.prog X.w) X.A (storeName X.env x r) (λ_=>SP X a D .next) X.xe f) X.xe d) X.xe s:=by
  refine thn (q a s o H _ I h) λw J ⟨y,L,O,r1,q1⟩=>?_;refine thn (t a J o L v y u w _ O r r1 q1) λz W ⟨Y,P,Q,R,q2⟩=>?_;exact nF Q p n g R (λZ T=>⟨_,P,T,q2⟩) B
 rcases l with⟨hk,hm⟩|⟨hk,c,U,b⟩
 ·exact wpAny_loadName_local I.ok.kind hk hn hm go
 ·rcases hk with hk|hk
  ·exact wpAny_loadName_cell I.ok.kind hk U b go
  ·rcases g with k|k
   ·have:X.env.scope.names.lookup x=on .free:=hk
    rw[k]at this;cases this
   ·have:X.env.scope.names.lookup x=on .free:=hk
    rw[k]at this;cases this
def ipI(f:Int->Int->Int):TIp:=λx y H Q=>∃i j,x= .int i/\y= .int j/\Q (.int (f i j)) H
theorem AE:PIp X .Add (ipI λi j=>i+j):=by
 intro a s e H x y v u Q I r1 b h;obtain⟨i,j,c,d,q⟩:=h;subst c;subst d;obtain⟨t,rfl⟩:=r1;obtain⟨t',rfl⟩:=b;exact iadd_int ⟨.int _,H,I.tok _,⟨_,rfl⟩,q⟩
end
section
variable{X:Cx}{pos:Tz}
end
structure It where
 go:Nat->Hp->Prop
 yld:Nat->Hp->V->Hp->Prop
 stop:Nat->Hp->Prop
def eU(X:Cx)(a:List (OZ×PP))(H:Hp)(b:OZ):Prop:=
 H b=OR/\b≠X.env.locals/\b∉X.fs/\(b∈X.ex\/X.s₀.heap.objs.size<=b)/\(∀x c,X.env.cells.lookup x=on c->c≠b)/\∀p∈X.pn++a,p.1≠b
theorem Inv.fpOk{X:Cx}{a:List (OZ×PP)}{g:St}{H f:Hp}{s:O7}{b:OZ}(I:Inv X a g H s)(d:s.heap.objs.size<=b)(hn:f b=OR):eU X a f b:=by
 refine⟨hn,RK (PM I.lt d),I.nofs d,.inr (Px I.sz d),λx c e z=>?_,λp h z=>?_⟩
 ·obtain⟨v,q⟩:=I.cell x c e
  exact PF (PM q.lt (by rw[z];exact d)) (Qk _)
 ·exact PF (PM (Pz (I.pin p h).1) (by rw[z];exact d)) (Qk _)
structure Turn (P:Pt) (w:PV) (K:Po) (tg:Expr) (J:It) (fp:List OZ) (it:OZ) (tn:Nat->P7->Prop):Prop where
 mem:it∈fp
 obj:∀i h,tn i h->∀b∈fp,∃o,h.get? b=on o/\∀v,o.data≠ .cell v
 keep:∀i h h',tn i h->(∀b∈fp,∀o,h.get? b=on o->h'.get? b=on o)->tn i h'
 item:∀(X:Cx),X.prog=P->X.w=w->X.K=K->X.calm=OV->∀(i:Nat) (pins:List (OZ×PP)) (s:O7) (σ:St) (H:Hp) (E:OX->O7->Prop),Inv X pins σ H s->(∀b∈fp,eU X pins H b)->tn i s.heap->J.go i H->
  Pf (Py P w) X.A (TR (.ref it)) (λr s1=>∃u,r=on u/\
   Pf (Py P w) X.A (Us tg (.ref it) u) (λ_ s2=>∃x H',Inv X pins σ H' s2/\aG x u/\J.yld i H x H'/\tn (i+1) s2.heap/\∀b∈fp,H' b=OR) E s1) E s
 done:∀(X:Cx),X.prog=P->X.w=w->X.K=K->X.calm=OV->∀(i:Nat) (pins:List (OZ×PP)) (s:O7) (σ:St) (H:Hp) (E:OX->O7->Prop),Inv X pins σ H s->(∀b∈fp,eU X pins H b)->tn i s.heap->J.stop i H->
  Pf (Py P w) X.A (TR (.ref it)) (λr s1=>r=OR/\Inv X pins σ H s1) E s
 self:∀(A:Qn) (i:Nat) (s:O7) (Q:OX->O7->Prop) (E:OX->O7->Prop),tn i s.heap->Q (.ref it) s->Pf (Py P w) A (VJ (.ref it)) Q E s
abbrev TI:=St->Hp->(It->Hp->Prop)->Prop
def PIE(X:Cx)(a:List (OZ×PP))(h:St)(tg:Expr)(R:It->Hp->Prop)(c:OX)(e:O7):Prop:=
 ∃(it:OZ) (f:List OZ) (g:Nat->P7->Prop) (J:It) (d:Hp),c= .ref it/\Inv X a h d e/\Turn X.prog X.w X.K tg J f it g/\g 0 e.heap/\(∀b∈f,eU X a d b)/\R J d
def PI(X:Cx)(tg b:Expr)(d:TI):Prop:=
 ∀(a:List (OZ×PP)) (s:O7) (c:St) (H:Hp) (R:It->Hp->Prop),Inv X a c H s->d c H R->
  Pf (Py X.prog X.w) X.A (Qo b X.env) (λv e=>Pf (Py X.prog X.w) X.A (VJ v) (PIE X a c tg R) X.xe e) X.xe s
theorem sV{M:WV}{E:OX->O7->Prop}{s:O7}{o:PP}(b:s.heap.get? it=on o)(c:o.cls= .type n)(hd:o.data= .fields vs)
  (hn:["enumerate","zip","dict_itemiterator","dict_reverseitemiterator","odict_iterator","itertools.zip_longest","itertools.pairwise"].contains n=OW) (a:Q () s):Pf M A (Us tg (.ref it) u) Q E s:=by
 unfold Us;cases tg<;>first
  |exact OT a
  |(cases u<;>first
   |exact OT a
   |(refine My (wpAny_load b ?_)
     rw[c,hd];show Pf M A (if(["enumerate","zip","dict_itemiterator","dict_reverseitemiterator","odict_iterator","itertools.zip_longest","itertools.pairwise"].contains n&&vs[0]?==on (TU _))=OV then _ else _) Q E s;rw[O3 (by intro h;rw[hn,Uf]at h;cases h)];exact OT a))
noncomputable def Itl(K:Po)(a:OZ):It:=
 ⟨λi H=>∃xs x,SqL K H a xs/\xs[i]?=on x,λi H x b=>b=H/\∀xs,SqL K H a xs->xs[i]?=on x,λi H=>∃xs,SqL K H a xs/\xs.length<=i⟩
noncomputable def Itt(K:Po)(a:OZ):It:=
 ⟨λi H=>∃xs x,SqT K H a xs/\xs[i]?=on x,λi H x b=>b=H/\∀xs,SqT K H a xs->xs[i]?=on x,λi H=>∃xs,SqT K H a xs/\xs.length<=i⟩
noncomputable def Itr(lo:Int)(n:Nat):It:=⟨λi _=>i<n,λi H x a=>a=H/\x= .int (lo+i),λi _=>n<=i⟩
theorem qZ{K:Po}(a it:OZ):Turn P w K tg (Itl K a) [it] it (λi h=>h.IsListIter it a i) where
 mem:=by simp
 obj:=λi h st b g=>by
  have e:b=it:=by simpa using g
  subst e;obtain⟨o,e,c,d⟩:=st;exact⟨o,e,λv z=>by rw[d]at z;cases z⟩
 keep:=λi h h' st k=>st.at λo e=>k it (by simp) o e
 item:=by
  intro X n q r L i f s N H E I l st t;subst n q r;obtain⟨xs,x,m,y⟩:=t;obtain⟨its,A,p,O⟩:=I.list m;obtain⟨u,Q,R⟩:=A.get y;obtain⟨B,f1,f2,C,F,J⟩:=l it (by simp);refine wpAny_pyNext_list_item st p.isList (x:=u) (by simpa using Q) λh' j T=>?_;have U:Inv X f N H {s with heap:=h'}:=I.turned (t':=s.toks) (λb o g e=>(T.2 b g).trans e) B f1 C F J;obtain⟨o,e,c,d⟩:=id j;exact⟨u,rfl,sV (s:={s with heap:=h'}) e c d (by decide) ⟨x,H,U,R,⟨rfl,λys W=>by rw[I.list_inj W m];exact y⟩,j,λb g=>(l b g).1⟩⟩
 done:=by
  intro X n q r L i f s N H E I l st t;subst n q r;obtain⟨xs,m,y⟩:=t;obtain⟨its,A,p,O⟩:=I.list m;obtain⟨B,f1,f2,C,F,J⟩:=l it (by simp);have Z:=A.length;exact wpAny_pyNext_list_end (I.ok.hd L) st p.isList (by simp;omega) λh' Y=>⟨rfl,I.turned (t':=s.toks) (λb o g e=>Y b o g e) B f1 C F J⟩
 self:=λ_ _ _ _ _ st h=>wpAny_pyIter_listiter st h
theorem xa{K:Po}(a it:OZ):Turn P w K tg (Itt K a) [it] it (λi h=>h.IsTupleIter it a i) where
 mem:=by simp
 obj:=λi h st b g=>by
  have e:b=it:=by simpa using g
  subst e;obtain⟨o,e,c,d⟩:=st;exact⟨o,e,λv z=>by rw[d]at z;cases z⟩
 keep:=λi h h' st k=>st.at λo e=>k it (by simp) o e
 item:=by
  intro X n q r L i f s N H E I l st t;subst n q r;obtain⟨xs,x,m,y⟩:=t;obtain⟨its,A,p,O⟩:=I.tuple m;obtain⟨u,Q,R⟩:=A.get y;obtain⟨B,f1,f2,C,F,J⟩:=l it (by simp);refine wpAny_pyNext_tuple_item st (show s.heap.IsTuple a its.toArray from p) (x:=u) (by simpa using Q) λh' j T=>?_;have U:Inv X f N H {s with heap:=h'}:=I.turned (t':=s.toks) (λb o g e=>(T.2 b g).trans e) B f1 C F J;obtain⟨o,e,c,d⟩:=id j;exact⟨u,rfl,sV (s:={s with heap:=h'}) e c d (by decide) ⟨x,H,U,R,⟨rfl,λys W=>by rw[I.tuple_inj W m];exact y⟩,j,λb g=>(l b g).1⟩⟩
 done:=by
  intro X n q r L i f s N H E I l st t;subst n q r;obtain⟨xs,m,y⟩:=t;obtain⟨its,A,p,O⟩:=I.tuple m;obtain⟨B,f1,f2,C,F,J⟩:=l it (by simp);have Z:=A.length;exact wpAny_pyNext_tuple_end (I.ok.hd L) st (show s.heap.IsTuple a its.toArray from p) (by simp;omega) λh' Y=>⟨rfl,I.turned (t':=s.toks) (λb o g e=>Y b o g e) B f1 C F J⟩
 self:=λ_ _ _ _ _ st h=>wpAny_pyIter_tupleiter st h
theorem xb{K:Po}(it:OZ)(lo:Int)(n:Nat):Turn P w K tg (Itr lo n) [it] it (λi h=>WT h it (lo+(i:Nat)*1) ((n:Int)-(i:Nat)) 1) where
 mem:=by simp
 obj:=λi h st b c=>by
  have e:b=it:=by simpa using c
  subst e;exact⟨_,st,λv z=>by
   have C:Data.fields _=Data.cell v:=z;cases C⟩
 keep:=λi h h' st k=>k it (by simp) _ st
 item:=by
  intro X g j l m i a s A H E I f st p;subst g j l;obtain⟨q,f1,f2,r,u,y⟩:=f it (by simp);have W:=Walks.range (prog:=X.prog) (w:=X.w) (I.ok.hd m) it lo 1 n;refine W.item i s _ _ p st λv h' B F d J=>?_;obtain⟨t,rfl⟩:=F;have L:Inv X a A H {s with heap:=h',toks:=B}:=I.turned (λb o c e=>J b o (by simpa using c) e) q f1 r u y;refine⟨_,rfl,sV (s:={s with heap:=h',toks:=B}) (n:="range_iterator") d rfl rfl (by decide) ⟨.int (lo+i),H,L,⟨t,?_⟩,⟨rfl,rfl⟩,d,λb c=>(f b c).1⟩⟩;rw[Int.mul_one]
 done:=by
  intro X g j l m i a s A H E I f st p;subst g j l;obtain⟨q,f1,f2,r,u,y⟩:=f it (by simp);exact YZ (I.ok.hd m) st (by have:n<=i:=p;omega) λh' N=>⟨rfl,I.turned (t':=s.toks) (λb o c e=>N b o c e) q f1 r u y⟩
 self:=λ_ _ _ _ _ st h=>Vy st h
section
variable{X:Cx}{tg:Expr}
def OH(K:Po)(c:TE):TI:=λd H R=>c d H λx b=>∃a,x= .ref a/\(∃xs,SqL K b a xs)/\R (Itl K a) b
theorem J8(g:PE X l tl):PI X tg l (OH X.K tl):=by
 intro c s i H R I h;refine thn (g c s i H _ I h) λv d ⟨x,j,f,r1,q1⟩=>?_;obtain⟨a,e,⟨xs,k⟩,q⟩:=q1;subst e;cases r1;obtain⟨its,n,p,r⟩:=f.list k;refine U7 p.isList ?_;refine⟨d.heap.objs.size,[d.heap.objs.size],_,_,j,rfl,f.kept (t':=d.toks) λb o e=>OU _ e,qZ a _,⟨_,Pl _ rfl,rfl,rfl⟩,λb m=>?_,q⟩;have e:b=d.heap.objs.size:=by simpa using m
 subst e;exact f.fpOk (O9 _) (f.hok.fresh (O9 _))
theorem ui{s:O7}{E:OX->O7->Prop}{lo a:Int}(I:Inv X pins σ H s)(d:-(2^62)<=lo)(f:lo<2^62)(g:-(2^62)<=a)(h:a<2^62)
  (q:R (Itr lo (a-lo).toNat) H):Pf (Py X.prog X.w) X.A (VJ (.ref s.heap.objs.size)) (PIE X pins σ tg R) E {s with heap:=s.heap.push {cls:= .type "range",data:= .fields #[.int lo t,.int a u,.int 1 v]},toks:=tk}:=by
 refine wpAny_pyIter_range (IsRange.new ..) (small_one d f g h) ?_;have c:Inv X pins σ H {s with heap:=s.heap.push {cls:= .type "range",data:= .fields #[.int lo t,.int a u,.int 1 v]},toks:=tk}:=I.kept λb o e=>OU _ e;refine⟨(s.heap.push {cls:= .type "range",data:= .fields #[.int lo t,.int a u,.int 1 v]}).objs.size,[(s.heap.push {cls:= .type "range",data:= .fields #[.int lo t,.int a u,.int 1 v]}).objs.size],_,_,H,rfl,
  c.kept (t':=tk) λb o e=>OU _ e,xb _ lo (a-lo).toNat,?_,λb i=>?_,q⟩
 ·have j:lo+((0:Nat):Int)*1=lo:=by simp
  have k:(((a-lo).toNat:Nat):Int)-((0:Nat):Int)=VR lo a 1:=by rw[rangeSize_one];split<;>omega
  show WT _ _ (lo+((0:Nat):Int)*1) ((((a-lo).toNat:Nat):Int)-((0:Nat):Int)) 1;rw[j,k];exact Pl _ rfl
 ·have e:b=(s.heap.push {cls:= .type "range",data:= .fields #[.int lo t,.int a u,.int 1 v]}).objs.size:=by simpa using i
  subst e;exact c.fpOk (O9 _) (c.hok.fresh (O9 _))
def OF(a:TA):TI:=λb H R=>a b H λvs c=>∃j:Int,vs=[.int j]/\-(2^62)<=j/\j<2^62/\R (Itr 0 j.toNat) c
def OE(a:TA):TI:=λb H R=>a b H λvs c=>∃i j:Int,vs=[.int i,.int j]/\(-(2^62)<=i/\i<2^62/\-(2^62)<=j/\j<2^62)/\R (Itr i (j-i).toNat) c
theorem zw(c:Gl X "range")(hm:X.mg "range"=OR)(ha:PA X [a] ta)(hs:Pb [a] X.env=[(OW,Qo a X.env)]:=by rfl):PI X tg (.Call (.Name "range" p) [a] [] pos) (OF ta):=by
 intro b s d H R I h;refine Call_ (eW I c hm boot_range (QR (thn (ha pos b s d H _ I h) λus i ⟨vs,k,f,r1,q1⟩=>?_) hs rfl));obtain⟨j,e,q1,q2,q⟩:=q1;subst e;cases r1 with
 |cons r g=>
  cases g;obtain⟨t,rfl⟩:=r;exact call_range_1 (ui f (by omega) (by omega) q1 q2 (by simpa using q))
theorem zu(g:Gl X "range")(hm:X.mg "range"=OR)(ha:PA X [a,b] ta)(hs:Pb [a,b] X.env=[(OW,Qo a X.env),(OW,Qo b X.env)]:=by rfl)(c:Pb [b] X.env=[(OW,Qo b X.env)]:=by rfl):
  PI X tg (.Call (.Name "range" p) [a,b] [] pos) (OE ta):=by
 intro d s k H R I h;refine Call_ (eW I g hm boot_range (QR (thn (ha pos d s k H _ I h) λus n ⟨vs,o,l,r1,q1⟩=>?_) (by rw[hs,c]) (by rw[c];rfl)));obtain⟨i,j,e,⟨q1,q2,q3,q4⟩,q⟩:=q1;subst e;cases r1 with
 |cons r f=>
  cases f with
  |cons m f=>
   cases f;obtain⟨t,rfl⟩:=r;obtain⟨t',rfl⟩:=m;exact call_range_2 (ui l q1 q2 q3 q4 q)
def Lg(f:TI)(g:TG)(h:TS):TS:=λD a H=>f a H λJ j=>∃W:Nat->Nat->St->Hp->Prop,(∃m,W 0 m a j)/\∀i m a H,W i m a H->
 (J.stop i H/\D.nx a H)\/(J.go i H/\∃N:St->Hp->Prop,(∀b c,N b c->∃e,e<m/\W (i+1) e b c)/\∀x c,J.yld i H x c->g x a c λd k=>h {D with nx:=N,ct:=N,bk:=D.nx} d k)
noncomputable def lA(a:List OZ)(h:P7):List (OZ×PP):=a.filterMap λb=>(h.get? b).map λo=>(b,o)
theorem ij{h:P7}(a:b∈fp)(e:h.get? b=on o):(b,o)∈lA fp h:=Ui.mpr ⟨b,a,by rw[e];rfl⟩
theorem zD{h:P7}{p:OZ×PP}(a:p∈lA fp h):p.1∈fp/\h.get? p.1=on p.2:=by
 obtain⟨b,c,e⟩:=Ui.mp a;cases q:h.get? b with
 |none=>rw[q]at e;cases e
 |some o=>
  rw[q]at e;have d:(b,o)=p:=PR e;subst d;exact⟨c,q⟩
theorem Inv.pinned{s:O7}(I:Inv X pins σ H s)(f:∀b∈fp,eU X pins H b)(g:∀b∈fp,∃o,s.heap.get? b=on o/\∀v,o.data≠ .cell v):Inv X (pins++lA fp s.heap) σ H s:=
 I.pins_of λp h=>(QY.mp h).elim (λz=>I.pin p (P8 _ z)) λz=>by
  obtain⟨a,e⟩:=zD z;obtain⟨i,f1,f2,_⟩:=f p.1 a;obtain⟨o,c,d⟩:=g p.1 a;rw[e]at c;cases c;exact⟨e,i,f1,f2,d⟩
theorem Inv.unpinned(I:Inv X (pins++pl) σ H s):Inv X pins σ H s:=I.pins_of λp a=>I.pin p (P8 _ (RW _ a))
theorem bC(F:PassesOwn (Py X.prog X.w) X.A X.env X.xe)(hc:X.calm=OV)(hi:PI X tg iter wi)(hg:PG X tg g)(j:PSs X body tb)
  (hs:∀x,Qf iter X.env x=Ro x:=by intro _;rfl):PS X (.For tg iter body [] pos) (Lg wi g tb):=by
 intro a s σ H D I h;refine wpAny_For (thn (hi a s σ H _ I h) λv s1 h1=>thn h1 λitv s2 h2=>?_) hs;obtain⟨it,L,tn,J,H2,e,I2,T,Y,f2,W,⟨m0,w0⟩,O⟩:=h2;subst e
 --what stays OV of the iterator's objects through the loop
 have k:∀{y:Hp},(∀b∈L,y b=OR)->∀b∈L,eU X a y b:=λhn b j=>⟨hn b j,(f2 b j).2⟩;refine codeAny_forLoop_any (λn s'=>∃i l y,Inv X a l y s'/\tn i s'.heap/\(∀b∈L,y b=OR)/\W i n l y) ?_ m0 ⟨0,σ,H2,I2,Y,λb j=>(f2 b j).1,w0⟩;rintro n s3 ⟨i,p,U,I3,P,Q,w3⟩;rcases O i n p U w3 with⟨stop,qn⟩|⟨go,N,hN,step⟩
 ·refine Uu F (thn (T.done X rfl rfl rfl hc i a s3 p U X.xe I3 (k Q) P stop) λr s4 ⟨Z,I4⟩=>?_)
  subst Z;exact W7 ⟨p,U,I4,qn⟩
 ·refine Uu F (thn (T.item X rfl rfl rfl hc i a s3 p U X.xe I3 (k Q) P go) λr s4 ⟨u,Z,h4⟩=>?_)
  subst Z;refine Uu F (thn h4 λ_ s5 ⟨x,H5,I5,r5,y5,C,fr5⟩=>?_);have I5':=I5.pinned (k fr5) (T.obj _ _ C);refine Uu F (thn (hg _ s5 p H5 x u _ I5' r5 (step x H5 y5)) λ_ s6 ⟨σ6,H6,I6,q6⟩=>?_);refine Uu F (thn (j _ s6 σ6 H6 _ I6 q6) λf s7 B=>?_);have WY:∀{c:St} {q:Hp},Inv X (a++lA L s5.heap) c q s7->N c q->∃m,m<n/\∃i l y,Inv X a l y s7/\tn i s7.heap/\(∀b∈L,y b=OR)/\W i m l y:=λ{c q} t R=>by
   obtain⟨m',hm,w7⟩:=hN c q R;refine⟨m',hm,i+1,c,q,t.unpinned,T.keep _ _ _ C λb j o e=>(t.pin (b,o) (P8 _ (P8 _ (ij j e)))).1,λb j=>?_,w7⟩;obtain⟨o,e,d⟩:=T.obj _ _ C b j;exact(t.pin (b,o) (P8 _ (P8 _ (ij j e)))).2.1
  cases f with
  |next=>obtain⟨c,q,t,R⟩:=B;exact WY t R
  |cont=>obtain⟨c,q,t,R⟩:=B;exact WY t R
  |brk=>obtain⟨c,q,t,B⟩:=B;exact⟨c,q,t.unpinned,B⟩
  |ret v=>obtain⟨x7,c,q,t,r7,B⟩:=B;exact⟨x7,c,q,t.unpinned,r7,B⟩
end
abbrev R2:=V->V->Hp->VK->Prop
def OpR(X:Cx)(f:OX->OX->Sem OX)(r:R2):Prop:=
 ∀(a:List (OZ×PP)) (s:O7) (b:St) (H:Hp) (x y:V) (v u:OX) (Q:VK),Inv X a b H s->aG x v->aG y u->r x y H Q->
  Pf (Py X.prog X.w) X.A (f v u) (EP X a b Q) X.xe s
def UnR(X:Cx)(f:OX->Sem OX)(r:V->Hp->VK->Prop):Prop:=
 ∀(a:List (OZ×PP)) (s:O7) (b:St) (H:Hp) (x:V) (v:OX) (Q:VK),Inv X a b H s->aG x v->r x H Q->
  Pf (Py X.prog X.w) X.A (f v) (EP X a b Q) X.xe s
def cX(X:Cx)(f:OX)(r:List V->Hp->VK->Prop):Prop:=
 ∀(a:List (OZ×PP)) (s:O7) (b:St) (H:Hp) (xs:List V) (us:List OX) (Q:VK),Inv X a b H s->ao xs us->r xs H Q->
  Pf (Py X.prog X.w) X.A (UM f us) (EP X a b Q) X.xe s
def TruR(X:Cx)(r:V->Hp->(Bool->Hp->Prop)->Prop):Prop:=
 ∀(a:List (OZ×PP)) (s:O7) (b:St) (H:Hp) (x:V) (v:OX) (Q:Bool->Hp->Prop),Inv X a b H s->aG x v->r x H Q->
  Pf (Py X.prog X.w) X.A (truthy v) (TP X a b Q) X.xe s
def tOp(r:R2)(b c:TE):TE:=λa H Q=>b a H λx d=>c a d λy e=>r x y e Q
def tUn(r:V->Hp->VK->Prop)(a:TE):TE:=λb H Q=>a b H λx c=>r x c Q
def rI(C:Int->Int->Prop)(g:Int->Int->V):R2:=λx y H Q=>∃i j,x= .int i/\y= .int j/\C i j/\Q (g i j) H
def rI0(g:Int->Int->V):R2:=λx y H Q=>∃i j,x= .int i/\y= .int j/\Q (g i j) H
def rU(g:Int->V):V->Hp->VK->Prop:=λx H Q=>∃i,x= .int i/\Q (g i) H
section
variable{X:Cx}{a b c:Expr}{ta tb tc:TE}{pos:Tz}
theorem yq(ha:PE X a ta)(m:PE X b tb){d:List (OZ×PP)}{s:O7}{e:St}{H:Hp}{R:V->V->Hp->Prop}(I:Inv X d e H s)
  (h:ta e H λx l=>tb e l λy g=>R x y g) {Q:OX->O7->Prop} {f:OX->OX->Sem OX}
  (n:∀v u k x y g,Inv X d e g k->aG x v->aG y u->R x y g->Pf (Py X.prog X.w) X.A (f v u) Q X.xe k):
  Pf (Py X.prog X.w) X.A (Qo a X.env) (λv i=>Pf (Py X.prog X.w) X.A (Qo b X.env) (λu j=>Pf (Py X.prog X.w) X.A (f v u) Q X.xe j) X.xe i) X.xe s:=by
 refine thn (ha d s e H _ I h) λv o ⟨x,l,p,r1,q1⟩=>?_;refine thn (m d o e l _ p q1) λu k ⟨y,g,q,r,q2⟩=>?_;exact n v u k x y g q r1 r q2
theorem dH(e:OpR X (R3 op) r)(ha:PE X a ta)(f:PE X b tb):PE X (.BinOp a op b pos) (tOp r ta tb):=by
 intro d s g H Q I h;exact wpAny_BinOp (yq ha f I h λv u i x y j k l m q=>e d i g j x y v u Q k l m q)
theorem Od(f:UnR X (unaryOp op) r)(ha:PE X a ta):PE X (.UnaryOp op a pos) (tUn r ta):=by
 intro d s e H Q I h;exact UnaryOp_ (thn (ha d s e H _ I h) λv g ⟨x,i,j,r1,q1⟩=>f d g e i x v Q j r1 q1)
theorem opI{f:OX->OX->Sem OX}{C:Int->Int->Prop}{g:Int->Int->Int}
  (d:∀(i j:Int) (t u:Tok) (s:O7) (Q:OX->O7->Prop) (E:OX->O7->Prop),C i j->Q (.int (g i j) s.toks) {s with toks:=s.toks+1}->Pf (Py X.prog X.w) X.A (f (.int i t) (.int j u)) Q E s):
  OpR X f (rI C λi j=> .int (g i j)):=by
 intro e s n H x y v u Q I k l h;obtain⟨i,j,rfl,rfl,m,q⟩:=h;obtain⟨t,rfl⟩:=k;obtain⟨t',rfl⟩:=l;exact d i j t t' s _ _ m ⟨.int (g i j),H,I.tok _,⟨_,rfl⟩,q⟩
theorem Mb{f:OX->OX->Sem OX}{g:Int->Int->Int}
  (d:∀(i j:Int) (t u:Tok) (s:O7) (Q:OX->O7->Prop) (E:OX->O7->Prop),Q (.int (g i j) s.toks) {s with toks:=s.toks+1}->Pf (Py X.prog X.w) X.A (f (.int i t) (.int j u)) Q E s):
  OpR X f (rI0 λi j=> .int (g i j)):=by
 intro e s m H x y v u Q I k l h;obtain⟨i,j,rfl,rfl,q⟩:=h;obtain⟨t,rfl⟩:=k;obtain⟨t',rfl⟩:=l;exact d i j t t' s _ _ ⟨.int (g i j),H,I.tok _,⟨_,rfl⟩,q⟩
theorem xC{f:OX->OX->Sem OX}{g:Int->Int->Bool}
  (d:∀(i j:Int) (t u:Tok) (s:O7) (Q:OX->O7->Prop) (E:OX->O7->Prop),Q (.bool (g i j)) s->Pf (Py X.prog X.w) X.A (f (.int i t) (.int j u)) Q E s):
  OpR X f (rI0 λi j=> .bl (g i j)):=by
 intro e s m H x y v u Q I k l h;obtain⟨i,j,rfl,rfl,q⟩:=h;obtain⟨t,rfl⟩:=k;obtain⟨t',rfl⟩:=l;exact d i j t t' s _ _ ⟨.bl (g i j),H,I,rfl,q⟩
def CDiv(i j:Int):Prop:=0<j/\j<1073741824
def CPow(i j:Int):Prop:=0<=j/\j<=1000000/\i.natAbs<2^64
def HI(i j:Int):Prop:=(-(2^64)<i/\i<2^64)\/(-(2^64)<j/\j<2^64)
theorem HI.ok(h:HI i j):IntMulOk i j:=by
 rcases h with⟨d,e⟩|⟨d,e⟩
 ·exact .of_left (intBits_le_64 d e)
 ·exact .of_right (intBits_le_64 d e)
theorem pf:OpR X (R3 .Add) (rI0 λi j=> .int (i+j)):=Mb λ_ _ _ _ _ _ _ q=>add_int q
theorem iK:OpR X (R3 .Sub) (rI0 λi j=> .int (i-j)):=Mb λ_ _ _ _ _ _ _ q=>sub_int q
theorem L8:OpR X (R3 .Mult) (rI HI λi j=> .int (i*j)):=opI λ_ _ _ _ _ _ _ d q=>mul_int q d.ok
theorem wf:OpR X (R3 .FloorDiv) (rI CDiv λi j=> .int (i/j)):=opI λi j _ _ _ _ _ d q=>by
 have e:(0:Int)<j:=d.1;have f:j<1073741824:=d.2;exact floordiv_int (by omega) (by rw[WI i (by omega)];exact q) (.inl (PyProof.noPylong_small (by omega)))
theorem lD:OpR X (R3 .Mod) (rI (λ_ j=>0<j) λi j=> .int (i % j)):=opI λi j _ _ _ _ _ d q=>by
 have e:(0:Int)<j:=d;exact mod_int' (by omega) (by rw[Int.fmod_eq_emod_of_nonneg i (by omega)];exact q)
theorem L6:OpR X (R3 .Pow) (rI CPow λi j=> .int (i^j.toNat)):=opI λ_ _ _ _ _ _ _ d q=>pow_int_small d.1 d.2.1 d.2.2 q
theorem unI{f:OX->Sem OX}{g:Int->Int}
  (d:∀(i:Int) (t:Tok) (s:O7) (Q:OX->O7->Prop) (E:OX->O7->Prop),Q (.int (g i) s.toks) {s with toks:=s.toks+1}->Pf (Py X.prog X.w) X.A (f (.int i t)) Q E s):
  UnR X f (rU λi=> .int (g i)):=by
 intro e s k H x v Q I j h;obtain⟨i,rfl,q⟩:=h;obtain⟨t,rfl⟩:=j;exact d i t s _ _ ⟨.int (g i),H,I.tok _,⟨_,rfl⟩,q⟩
theorem K9:UnR X (unaryOp .USub) (rU λi=> .int (-i)):=unI λ_ _ _ _ _ q=>neg_int q
end
noncomputable def CK:V->V->Bool
 | .non,.non=>OV| .non,.int _=>OV| .int _,.non=>OV| .non,.bl _=>OV| .bl _,.non=>OV| .non,.str _=>OV| .str _,.non=>OV
 | .int _,.int _=>OV| .bl _,.bl _=>OV| .str _,.str _=>OV
 | .int _,.str _=>OV| .str _,.int _=>OV| .bl _,.str _=>OV| .str _,.bl _=>OV
 |_,_=>OW
noncomputable def rEq:R2:=λx y H Q=>CK x y=OV/\Q (.bl (decide (x=y))) H
noncomputable def rNe:R2:=λx y H Q=>CK x y=OV/\Q (.bl (!decide (x=y))) H
theorem wP:decide (V.int i=V.int j)=(i==j):=by
 rw[U9];simp
theorem dec_bl{i j:Bool}:decide (V.bl i=V.bl j)=(i==j):=by
 rw[U9];simp
theorem wO:decide (V.str i=V.str j)=(i==j):=by
 rw[U9];simp
section
variable{X:Cx}{a b c:Expr}{ta tb tc:TE}{pos:Tz}
theorem fin_bl{k d:Bool}(I:Inv X pins σ H s)(q:Q (.bl k) H)(e:k=d):EP X pins σ Q (.bool d) s:=by
 subst e;exact⟨.bl k,H,I,rfl,q⟩
theorem Oh:OpR X (QC .Eq) rEq:=by
 intro f s g H x y v u Q I e d h;obtain⟨hs,q⟩:=h;cases x with
 |non=>
  cases e;cases y with
  |non=>cases d;exact PySem.EqNone.eq_none_none (fin_bl I q (by simp))
  |bl j=>cases d;exact PySem.EqNone.eq_none_bool (fin_bl I q (by simp))
  |int j=>obtain⟨t',rfl⟩:=d;exact PySem.EqNone.eq_none_int (fin_bl I q (by simp))
  |str j=>obtain⟨t',rfl⟩:=d;exact PySem.EqNone.eq_none_str (fin_bl I q (by simp))
  |_=>exact PF (show OW=OV from hs) Pa
 |bl i=>
  cases e;cases y with
  |non=>cases d;exact PySem.EqNone.eq_bool_none (fin_bl I q (by simp))
  |bl j=>cases d;exact eq_bool (fin_bl I q dec_bl)
  |str j=>obtain⟨t',rfl⟩:=d;exact PySem.EqMixed.eq_bool_str (fin_bl I q (by simp))
  |_=>exact PF (show OW=OV from hs) Pa
 |int i=>
  obtain⟨t,rfl⟩:=e;cases y with
  |non=>cases d;exact PySem.EqNone.eq_int_none (fin_bl I q (by simp))
  |int j=>obtain⟨t',rfl⟩:=d;exact eq_int (fin_bl I q wP)
  |str j=>obtain⟨t',rfl⟩:=d;exact PySem.EqMixed.eq_int_str (fin_bl I q (by simp))
  |_=>exact PF (show OW=OV from hs) Pa
 |str i=>
  obtain⟨t,rfl⟩:=e;cases y with
  |non=>cases d;exact PySem.EqNone.eq_str_none (fin_bl I q (by simp))
  |bl j=>cases d;exact PySem.EqMixed.eq_str_bool (fin_bl I q (by simp))
  |int j=>obtain⟨t',rfl⟩:=d;exact PySem.EqMixed.eq_str_int (fin_bl I q (by simp))
  |str j=>obtain⟨t',rfl⟩:=d;exact eq_str (fin_bl I q wO)
  |_=>exact PF (show OW=OV from hs) Pa
 |_=>cases y<;>exact PF (show OW=OV from hs) Pa
theorem Of:OpR X (QC .NotEq) rNe:=by
 intro f s g H x y v u Q I e d h;obtain⟨hs,q⟩:=h;cases x with
 |non=>
  cases e;cases y with
  |non=>cases d;exact PySem.EqNone.ne_none_none (fin_bl I q (by simp))
  |bl j=>cases d;exact PySem.EqNone.ne_none_bool (fin_bl I q (by simp))
  |int j=>obtain⟨t',rfl⟩:=d;exact PySem.EqNone.ne_none_int (fin_bl I q (by simp))
  |str j=>obtain⟨t',rfl⟩:=d;exact PySem.EqNone.ne_none_str (fin_bl I q (by simp))
  |_=>exact PF (show OW=OV from hs) Pa
 |bl i=>
  cases e;cases y with
  |non=>cases d;exact PySem.EqNone.ne_bool_none (fin_bl I q (by simp))
  |bl j=>cases d;exact ne_bool (fin_bl I q (Qr not dec_bl))
  |str j=>obtain⟨t',rfl⟩:=d;exact PySem.EqMixed.ne_bool_str (fin_bl I q (by simp))
  |_=>exact PF (show OW=OV from hs) Pa
 |int i=>
  obtain⟨t,rfl⟩:=e;cases y with
  |non=>cases d;exact PySem.EqNone.ne_int_none (fin_bl I q (by simp))
  |int j=>obtain⟨t',rfl⟩:=d;exact ne_int (fin_bl I q (Qr not wP))
  |str j=>obtain⟨t',rfl⟩:=d;exact PySem.EqMixed.ne_int_str (fin_bl I q (by simp))
  |_=>exact PF (show OW=OV from hs) Pa
 |str i=>
  obtain⟨t,rfl⟩:=e;cases y with
  |non=>cases d;exact PySem.EqNone.ne_str_none (fin_bl I q (by simp))
  |bl j=>cases d;exact PySem.EqMixed.ne_str_bool (fin_bl I q (by simp))
  |int j=>obtain⟨t',rfl⟩:=d;exact PySem.EqMixed.ne_str_int (fin_bl I q (by simp))
  |str j=>obtain⟨t',rfl⟩:=d;exact ne_str (fin_bl I q (Qr not wO))
  |_=>exact PF (show OW=OV from hs) Pa
 |_=>cases y<;>exact PF (show OW=OV from hs) Pa
theorem o9:OpR X (QC .Lt) (rI0 λi j=> .bl (decide (i<j))):=xC λ_ _ _ _ _ _ _ q=>lt_int q
theorem kd:OpR X (QC .LtE) (rI0 λi j=> .bl (decide (i<=j))):=xC λ_ _ _ _ _ _ _ q=>le_int q
theorem xB:OpR X (QC .Gt) (rI0 λi j=> .bl (decide (j<i))):=xC λ_ _ _ _ _ _ _ q=>gt_int q
theorem Og:OpR X (QC .GtE) (rI0 λi j=> .bl (decide (j<=i))):=xC λ_ _ _ _ _ _ _ q=>ge_int q
theorem ur:OpR X (QC .Is) (λx y H Q=>y= .non/\Q (.bl (decide (x= .non))) H):=by
 intro d s g H x y v u Q I e f h;obtain⟨rfl,q⟩:=h;cases f;refine is_none_gen (fin_bl I q ?_);cases x<;>first
  |(cases e;rfl)
  |(obtain⟨t,rfl⟩:=e;rfl)
theorem OpR.or(h:OpR X f r)(h':OpR X f r'):OpR X f (λx y H Q=>r x y H Q\/r' x y H Q):=by
 intro d s e H x y v u Q I g i q;rcases q with q|q
 ·exact h d s e H x y v u Q I g i q
 ·exact h' d s e H x y v u Q I g i q
theorem pi(b:Expr)(h:op≠ .In:=by decide)(d:op≠ .NotIn:=by decide):SD op b=OW:=by
 have e:(op==CmpOp.In)=OW:=by cases op<;>first|rfl|exact PF rfl h
 have f:(op==CmpOp.NotIn)=OW:=by cases op<;>first|rfl|exact PF rfl d
 cases b<;>simp[SD,e,f]
theorem Ke(e:OpR X (QC op) r)(ha:PE X a ta)(f:PE X b tb)(hm:SD op b=OW):PE X (.Compare a [op] [b] pos) (tOp r ta tb):=by
 intro d s g H Q I h;exact wpAny_Compare1 (yq ha f I h λv u i x y j k l m q=>e d i g j x y v u Q k l m q) hm
def xg(t:TE):TT:=λd H Q=>t d H λx e=>∃k,x= .bl k/\Q k e
theorem v6(g:OpR X (QC op) r)(ha:PE X a ta)(i:PE X b tb)(hm:SD op b=OW):PT X (.Compare a [op] [b] pos) (xg (tOp r ta tb)):=by
 intro d s f H Q I h;refine wpAny_isTrue_Compare1 (thn (ha d s f H _ I h) λv j ⟨x,l,m,r1,q1⟩=>thn (i d j f l _ m q1) λu n ⟨y,o,p,q,q2⟩=>
  thn (g d n f o x y v u _ p r1 q q2) λc A ⟨z,t,w,r3,k,e,q3⟩=>?_) hm
 subst e;cases r3;exact QP ⟨t,w,q3⟩
def yR(r f:R2)(ta tb tc:TE):TE:=λd H Q=>ta d H λx g=>tb d g λy h=>r x y h λz e=>∃k,z= .bl k/\
 (if k=OV then tc d e λi j=>f y i j Q else Q (.bl OW) e)
theorem CT(n:OpR X (QC op) r)(i:OpR X (QC op') r')(ha:PE X a ta)(o:PE X b tb)(p:PE X c tc)
  (hm:YH [op,op'] [b,c]=OW:=by with_unfolding_all rfl):PT X (.Compare a [op,op'] [b,c] pos) (xg (yR r r' ta tb tc)):=by
 intro f s g H Q I h;refine isTrue_chain (thn (ha f s g H _ I h) λv q ⟨x,t,w,r1,q1⟩=>test_link (thn (o f q g t _ w q1) λu A ⟨y,B,C,j,q2⟩=>
  thn (n f A g B x y v u _ C r1 j q2) λd F ⟨z,l,m,r3,k,e,q3⟩=>?_)) hm
 subst e;cases r3;refine QP ?_;cases k with
 |false=>
  obtain⟨k',J,L⟩:=q3;cases J;exact ite_ff ⟨l,m,L⟩
 |true=>
  refine ite_tt (test_last (thn (p f F g l _ m q3) λN O ⟨P,R,T,U,q4⟩=>thn (i f O g R y P u N _ T j U q4) λd' s5 ⟨z2,W,Y,Z,k2,e2,q5⟩=>?_));subst e2;cases Z;exact QP ⟨W,Y,q5⟩
def HF(K:Po)(x:V)(H:Hp)(k:Bool):Prop:=
 match x with
 | .non=>k=OW
 | .bl b=>k=b
 | .int i=>k=(i !=0)
 | .str y=>y.length<=Pe/\k=((y.length:Int) !=0)
 | .ref p=>(∃xs,SqL K H p xs/\k=!xs.isEmpty)\/∃xs,SqT K H p xs/\k=!xs.isEmpty
 |_=>False
theorem pG(r:ao xs its):(!its.toArray.isEmpty)=!xs.isEmpty:=by
 cases r<;>simp
theorem lL:(Pe:Nat)<2^63:=by rw[Rv];decide
theorem Lb:TruR X (λx H Q=>∃k,HF X.K x H k/\Q k H):=by
 intro l s n H x v Q I f h;obtain⟨k,e,q⟩:=h;have o:=lL;have hs:Pe=16777216:=Rv;cases x with
 |non=>
  cases f;have d:k=OW:=e;subst d;exact truthy_none ⟨H,I,q⟩
 |bl b=>
  cases f;have d:k=b:=e;subst d;exact QP ⟨H,I,q⟩
 |int i=>
  obtain⟨t,rfl⟩:=f;have d:k=(i !=0):=e;subst d;exact PySem.P.truthy_int ⟨H,I,q⟩
 |str y=>
  obtain⟨t,rfl⟩:=f;obtain⟨u,d⟩:y.length<=Pe/\k=((y.length:Int) !=0):=e;subst d;exact PySem.P.truthy_str (by omega) ⟨H,I.tok _,q⟩
 |ref p=>
  cases f;have d:(∃xs,SqL X.K H p xs/\k=!xs.isEmpty)\/∃xs,SqT X.K H p xs/\k=!xs.isEmpty:=e;rcases d with⟨xs,j,d⟩|⟨xs,j,d⟩
  ·subst d
   obtain⟨its,r,pl,m⟩:=I.list j;have g:=r.length;exact wpAny_truthy_list pl.isList (by simp only[Ps];omega) ⟨H,I.tok _,by rw[pG r];exact q⟩
  ·subst d
   obtain⟨its,r,pl,m⟩:=I.tuple j;have g:=r.length;exact truthy_tuple pl (by simp only[Ps];omega) ⟨H,I.tok _,by rw[pG r];exact q⟩
 |_=>exact(show False from e).elim
theorem CS(ha:PE X a ta)(i:∀d,isTrue a X.env d=(do let v ←d;Sw a.pos;Te [v] (truthy v))):
  PT X a (λf H Q=>ta f H λx g=>∃k,HF X.K x g k/\Q k g):=by
 intro e s f H Q I h;exact isTrue_plain (thn (ha e s f H _ I h) λv j ⟨x,l,m,r1,q1⟩=>Lb e j f l x v Q m r1 q1) (i _)
theorem jR(r:ao [x] us):∃u,us=[u]/\aG x u:=by
 cases r with
 |cons r1 d=>cases d;exact⟨_,rfl,r1⟩
theorem sF(r:ao [x,y] us):∃u d,us=[u,d]/\aG x u/\aG y d:=by
 cases r with
 |cons r1 e=>
  cases e with
  |cons r3 f=>cases f;exact⟨_,_,rfl,r1,r3⟩
theorem FA:cX X (.builtin "abs") (λxs H Q=>∃i,xs=[.int i]/\Q (.int (if i<0 then -i else i)) H):=by
 intro d s e H xs us Q I r h;obtain⟨i,rfl,q⟩:=h;obtain⟨u,rfl,t,rfl⟩:=jR r;exact call_abs_int λu f=>⟨.int (if i<0 then -i else i),H,I.tok _,⟨_,rfl⟩,q⟩
theorem rV(f:X.calm=OV):cX X (.builtin "max") (λxs H Q=>∃i j,xs=[.int i,.int j]/\Q (.int (if j>i then j else i)) H):=by
 intro e s g H xs us Q I r h;obtain⟨i,j,rfl,q⟩:=h;obtain⟨u,l,rfl,⟨t,rfl⟩,⟨t',rfl⟩⟩:=sF r;refine max_two_ints (I.ok.hd f) λh' m k=>⟨_,H,I.kept k,?_,q⟩;by_cases d:j>i
 ·rw[O8 d,O8 d];exact⟨_,rfl⟩
 ·rw[O3 d,O3 d];exact⟨_,rfl⟩
theorem jj(f:X.calm=OV):cX X (.builtin "min") (λxs H Q=>∃i j,xs=[.int i,.int j]/\Q (.int (if j<i then j else i)) H):=by
 intro e s g H xs us Q I r h;obtain⟨i,j,rfl,q⟩:=h;obtain⟨u,l,rfl,⟨t,rfl⟩,⟨t',rfl⟩⟩:=sF r;refine min_two_ints (I.ok.hd f) λh' m k=>⟨_,H,I.kept k,?_,q⟩;by_cases d:j<i
 ·rw[O8 d,O8 d];exact⟨_,rfl⟩
 ·rw[O3 d,O3 d];exact⟨_,rfl⟩
end
structure ObjM (h:P7) (x dx C:OZ) (mA:PY->Option OX):Prop where
 obj:h.get? x=on (VV C dx)
 ns:h.Ns1 dx mA
 ne:dx≠x
theorem zU{h:P7}(n:h.Ns1 dx mA):∃c,h.get? dx=on c/\∀name,lookIn name c=on (mA name):=by
 obtain⟨o,es,ep,d,hd,f,_,hm⟩:=n;refine⟨o,d,λname=>?_⟩;have e:=hm name;unfold nsFind findBy at e;rw[←Array.find?_toList]at e;unfold lookIn;rw[hd]
 dsimp only
 split
 ·rename_i y q
  rw[q]at e;exact Qr on e
 ·rename_i q
  rw[q]at e;have a:es.toList.any (·.refKey)=OW:=by
   rw[VS];intro y g;obtain⟨z,t,b⟩:=f y (Array.mem_toList_iff.mp g);simp[DictEntry.refKey,b]
  have i:¬es.toList.any (·.refKey)=OV:=by rw[a];exact Pa
  rw[O3 i];exact Qr on e
theorem ObjM.look(I:ObjM h x dx C mA):∃a,PySem.W.InstAt h x (VV C dx) C (on a)/\∀name,lookIn name a=on (mA name):=
 let ⟨a,ho,hl⟩:=zU I.ns
 ⟨a,⟨I.obj,rfl,rfl,ho⟩,hl⟩
section
variable{prog:Pt}{w:PV}{A:Qn}{E:OX->O7->Prop}{s:O7}{K:Po}{x dx C f:OZ}{mA:PY->Option OX}{name:PY}{v:OX}
theorem KJ{a:Bool}(X:K.In s.heap)(I:ObjM s.heap x dx C mA)(c:plainGet K C name=OV)(d:hasDictIn K C=OV)
  (ha:RA K (.ref C) name=on OR) (e:mA name=on v) (b:X9 v=OV) (h:Q v {s with toks:=s.toks+1}):
  Pf (Py prog w) A (getAttr (.ref x) name a) Q E s:=by
 obtain⟨i,J,g⟩:=I.look;exact PySem.W.get_value X J (plainGet_of c).1 (PySem.W.findObj_own d ha rfl (by rw[g,e])) b h
theorem EQ(X:K.In s.heap)(I:ObjM s.heap x dx C mA)(a:plainGet K C name=OV)
  (b:RA K (.ref C) name=on (on (.ref f))) (c:isFn K (.ref f)=OV) (d:mA name=OR) (h:Q (.ref f,[.ref x]) s):
  Pf (Py prog w) A (UI (.ref x) name pl) Q E s:=by
 obtain⟨e,J,g⟩:=I.look;exact PySem.W.method_fn X J (plainGet_of a).1 (plainGet_of a).2 b (beq_iff_eq.mp c) (by show(lookIn name e).map (·.isSome)=on OW;rw[g,d];rfl) h
theorem JT{ns:List PY}(X:K.In s.heap)(I:ObjM s.heap x dx C mA)
  (hs:RA K (.ref C) "__setattr__"=on (on (.builtin "object.__setattr__"))) (k:XO K C=OV) (l:takerIn K C name=on OR) (m:hasDictIn K C=OV)
  (n:T5 mA ns) (o:ns.length<=Pe)
  (h:∀h',ObjM h' x dx C (λy=>if y=name then on v else mA y)->PX dx s.heap h'->Q () {s with heap:=h',toks:=s.toks+2}):
  Pf (Py prog w) A (setAttr (.ref x) name v) Q E s:=by
 obtain⟨B,J,F⟩:=I.look;refine PySem.W.set_plain X J hs (PySem.W.osa_open (s:={s with toks:=s.toks+1}) (r:=OR) X J k l λb=>?_);obtain⟨cd,p,e⟩:=PySem.W.any_some m;have q:s.heap.get? x=on ⟨.ref C,on dx,.plain,#[]⟩:=I.obj;refine My (OT (My (My (XD q (My (Wo (s:={s with toks:=s.toks+1}) (looks_clsIn X p) ?_))))));rw[e];refine OT (a:=on dx) (My (OT (My ?_)));refine wpAny_nsSet1 (s:={s with toks:=s.toks+1}) I.ns λh' c d=>?_;obtain⟨H,t,u,g,i,j⟩:=c.count (WN name v n);refine My (wpAny_lookBehind g (by rw[i];exact pastItsLine_dict (Px j (by rw[Pg];omega))) ?_);exact OT (h _ ⟨(d.2 _ (Ne.symm I.ne)).trans I.obj,c,I.ne⟩ d)
theorem uB(X:K.In s.heap)(hm:Yy K C=OV)
  (a:RA K (.ref C) "__init__"=on (on (.ref f))) (b:PySem.W.typeIn K (.ref f)=on (.type "function"))
  (h:Sd (Py prog w) (A.under (.builtin "type.__call__" ⟨.ref C::vs,kw⟩)) (.call (.ref f) ⟨.ref (s.heap.objs.size+1)::vs,kw⟩) (PySem.W.InitBack (s.heap.objs.size+1) R)
   {s with heap:=(s.heap.push T7).push (VV C s.heap.objs.size)}):
  Sd (Py prog w) A (.call (.ref C) ⟨vs,kw⟩) R s:=by
 obtain⟨c,g,d,t,os⟩:=s;exact PySem.W.make_core (PySem.W.makes_of X hm) (Wt X a) (λself=>Yw X self b) (.inl rfl) h
end
noncomputable def dC(f:PY)(v:V):List (PY×V)->List (PY×V)
 |[]=>[(f,v)]
 |(g,x)::r=>if g=f then(g,v)::r else(g,x)::dC f v r
theorem np(f g:PY)(v:V):∀fs:List (PY×V),(dC f v fs).lookup g=if g=f then on v else fs.lookup g
 |[]=>by
  show TV g [(f,v)]=_;by_cases h:g=f
  ·have a:(g==f)=OV:=beq_iff_eq.mpr h
   simp only[TV,a,O8 h]
  ·have a:(g==f)=OW:=beq_eq_false_iff_ne.mpr h
   simp only[TV,a,O3 h]
 |(k,x)::r=>by
  have ih:=np f g v r;rw[show dC f v ((k,x)::r)=(if k=f then(k,v)::r else(k,x)::dC f v r)from rfl];by_cases b:k=f
  ·rw[O8 b]
   by_cases h:g=k
   ·have a:(g==k)=OV:=beq_iff_eq.mpr h
    simp only[TV,a,O8 (h.trans b)]
   ·have a:(g==k)=OW:=beq_eq_false_iff_ne.mpr h
    simp only[TV,a,O3 (λe:g=f=>h (e.trans b.symm))]
  ·rw[O3 b]
   by_cases h:g=k
   ·have a:(g==k)=OV:=beq_iff_eq.mpr h
    simp only[TV,a,O3 (λe:g=f=>b (h.symm.trans e))]
   ·have a:(g==k)=OW:=beq_eq_false_iff_ne.mpr h
    simp only[TV,a];exact ih
theorem lM(f:PY)(v:V):∀fs:List (PY×V),f∈(dC f v fs).map (·.1)/\∀g,g∈fs.map (·.1)->g∈(dC f v fs).map (·.1)
 |[]=>⟨by simp[dC],λg h=>by simp at h⟩
 |(k,x)::r=>by
  obtain⟨b,c⟩:=lM f v r;rw[show dC f v ((k,x)::r)=(if k=f then(k,v)::r else(k,x)::dC f v r)from rfl];by_cases a:k=f
  ·rw[O8 a]
   subst a;exact⟨by simp,λg h=>by simpa using h⟩
  ·rw[O3 a]
   refine⟨?_,λg h=>?_⟩
   ·rw[Ph]
    exact OY _ b
   ·rw[Ph]at h⊢
    rcases Pq.mp h with e|e
    ·exact Pq.mpr (.inl e)
    ·exact OY _ (c g e)
theorem nu(f:PY)(v:V):∀fs:List (PY×V),(dC f v fs).length<=fs.length+1
 |[]=>by simp[dC]
 |(k,x)::r=>by
  have ih:=nu f v r;rw[show dC f v ((k,x)::r)=(if k=f then(k,v)::r else(k,x)::dC f v r)from rfl];by_cases a:k=f
  ·rw[O8 a,Pg,Pg];omega
  ·rw[O3 a,Pg,Pg];omega
theorem g9.some_of(r:g9 (on v) o):∃u,o=on u/\aG v u:=by
 cases o with
 |none=>exact(show False from r).elim
 |some u=>exact⟨u,rfl,r⟩
theorem g9.none_of(r:g9 OR o):o=OR:=by
 cases o with
 |none=>rfl
 |some u=>exact(show False from r).elim
theorem AJ(r:aG v u):X9 u=OV:=by
 cases v with
 |non=>cases(show u=Qs from r);rfl
 |bl b=>cases(show u=UZ b from r);rfl
 |int i=>obtain⟨t,e⟩:=(show ∃t,u=SE i t from r);cases e;rfl
 |str x=>obtain⟨t,e⟩:=(show ∃t,u=YU x t from r);cases e;rfl
 |ref a=>cases(show u=Pj a from r);rfl
 |ty n=>cases(show u=RY n from r);rfl
section
variable{P:Pt}{w:PV}{H H':Hp}{h h':P7}{a C dx:OZ}{fs fs':List (PY×V)}
theorem gj(hok:HOk P w H h)(e:H a=on (.ins C dx fs)):∃b,ObjM h a dx C b/\(∀f,g9 (fs.lookup f) (b f))/\T5 b (fs.map (·.1))/\fs.length<=1000/\H dx=on (.own a):=by
 obtain⟨d,z,ne,c,b,n,r,q⟩:=(show bu P w H h a (.ins C dx fs)from hok a _ e);exact⟨b,⟨c,n,ne⟩,r,q,z,d⟩
end
structure Cls (K:Po) (C:OZ):Prop where
 pg:plainGet K C Ss=OV
 hd:hasDictIn K C=OV
 po:XO K C=OV
 sa:RA K (.ref C) "__setattr__"=on (on (.builtin "object.__setattr__"))
theorem Cls.get{K:Po}(c:Cls K C)(f:PY):plainGet K C f=OV:=c.pg
def dQ(K:Po)(C:OZ)(f:PY):Prop:=RA K (.ref C) f=on OR
theorem dQ.taker{K:Po}(n:dQ K C f):takerIn K C f=on OR:=by
 unfold takerIn;rw[show RA K (.ref C) f=on OR from n];rfl
structure Meth (K:Po) (C:OZ) (m:PY) (f:OZ):Prop where
 at_:RA K (.ref C) m=on (on (.ref f))
 fn:isFn K (.ref f)=OV
 kp:UQ K (.ref f)=OV
section
variable{X:Cx}{pins:List (OZ×PP)}{σ:St}{H:Hp}{s:O7}{a C dx:OZ}{fs:List (PY×V)}{f:PY}{v:V}{A:Qn}{E:OX->O7->Prop}
theorem xY{b:Bool}(I:Inv X pins σ H s)(e:H a=on (.ins C dx fs))(c:Cls X.K C)(n:dQ X.K C f)(l:fs.lookup f=on v)
  (h:∀u s',Inv X pins σ H s'->aG v u->Q u s'):Pf (Py X.prog X.w) A (getAttr (.ref a) f b) Q E s:=by
 obtain⟨g,O,r,_,_,_⟩:=gj I.hok e;obtain⟨u,i,d⟩:=g9.some_of (v:=v) (o:=g f) (by rw[←l];exact r f);exact KJ I.kIn O (c.get f) c.hd n i (AJ d) (h u _ (I.tok _) d)
theorem pM(I:Inv X pins σ H s)(e:H a=on (.ins C dx fs))(c:Cls X.K C)(k:Meth X.K C m g)(l:fs.lookup m=OR)
  (h:Q (.ref g,[.ref a]) s):Pf (Py X.prog X.w) A (UI (.ref a) m pl) Q E s:=by
 obtain⟨b,O,r,_,_,_⟩:=gj I.hok e;have hn:b m=OR:=g9.none_of (by rw[←l];exact r m);exact EQ I.kIn O (c.get m) k.at_ k.fn hn h
theorem xp(I:Inv X pins σ H s)(e:H a=on (.ins C dx fs))(c:Cls X.K C)(n:dQ X.K C f)(F:fs.length<1000)(l:aG y u)
  (h:∀s',Inv X pins σ (upd H a (.ins C dx (dC f y fs))) s'->Q () s'):Pf (Py X.prog X.w) A (setAttr (.ref a) f u) Q E s:=by
 obtain⟨i,O,r,j,_,k⟩:=gj I.hok e;have m:(fs.map (·.1)).length<=Pe:=by rw[OS,Rv];omega
 refine JT I.kIn O c.sa c.po n.taker c.hd j m λh' d p=>h _ ?_;have hd:∃o,h'.get? dx=on o:=let ⟨o,_,_,e',_⟩:=d.ns;⟨o,e'⟩
 refine I.write (x:=a) (e:=dx) (by rw[e];exact Sc) (.inr k) (λb q t z=>(p.2 b t).trans z) hd ?_;refine⟨by rw[upd_ne O.ne];exact k,?_,O.ne,d.obj,_,d.ns,λg=>?_,λg B=>?_⟩
 ·have:=nu f y fs;omega
 ·show g9 ((dC f y fs).lookup g) (if g=f then on u else i g)
  rw[np];by_cases q:g=f
  ·rw[O8 q,O8 q];exact l
  ·rw[O3 q,O3 q];exact r g
 ·by_cases q:g=f
  ·rw[q];exact(lM f y fs).1
  ·refine(lM f y fs).2 g (j g λz=>B ?_)
   show(if g=f then on u else i g)=OR;rw[O3 q];exact z
theorem Inv.made(I:Inv X pins σ H s):Inv X pins σ (upd (upd H s.heap.objs.size (.own (s.heap.objs.size+1))) (s.heap.objs.size+1) (.ins C s.heap.objs.size []))
  {s with heap:=(s.heap.push T7).push (VV C s.heap.objs.size)}:=by
 have c:(s.heap.push T7).get? s.heap.objs.size=on T7:=Pl s.heap rfl;have d:((s.heap.push T7).push (VV C s.heap.objs.size)).get? (s.heap.objs.size+1)=on (VV C s.heap.objs.size):=by
  have:=Pl (s.heap.push T7) (o:=VV C s.heap.objs.size) rfl;rwa[QD]at this
 have g:(s.heap.push T7).Ns s.heap.objs.size (λ_=>OR):=⟨T7,#[],_,c,rfl,(λe h=>PF h (by simp)),λ_=>rfl⟩;have i:=I.laid (a:=s.heap.objs.size) (o:= .own (s.heap.objs.size+1)) (h':=s.heap.push T7) (t':=s.toks) (λb u q=>OU _ q) (O9 _) ⟨_,c⟩;refine i.laid (a:=s.heap.objs.size+1) (o:= .ins C s.heap.objs.size []) (t':=s.toks) (λb u q=>OU _ q) (Xm (QD _ _)) ?_;have ne:s.heap.objs.size≠s.heap.objs.size+1:=Qa (UY _);refine⟨by rw[upd_ne ne,ah],QW _,ne,d,λ_=>OR,(Xi g).at λo q=>OU _ q,λ_=>Sc,λy j=>PF rfl j⟩
theorem K2{f:PY}{s:O7}(c:Tl e f env (Qo e env)=Qo e env)
  (h:Pf (Py prog w) A (Qo e env) (λo b=>Pf (Py prog w) A (getAttr o f OV) Q E b) E s):Pf (Py prog w) A (Qo (.Attribute e f pos) env) Q E s:=
 Attribute_any_ h (by rw[arm_eval_Attribute,c])
end
def tFld(K:Po)(c:TE)(f:PY):TE:=λd H Q=>c d H λx b=>∃a C dx fs v,x= .ref a/\b a=on (.ins C dx fs)/\Cls K C/\dQ K C f/\fs.lookup f=on v/\Q v b
def Ls(K:Po)(d e:TE)(f:PY):TS:=λD b H=>e b H λy g=>d b g λx c=>∃a C dx fs,x= .ref a/\c a=on (.ins C dx fs)/\Cls K C/\dQ K C f/\fs.length<1000/\
 D.nx b (upd c a (.ins C dx (dC f y fs)))
section
variable{X:Cx}{o e value:Expr}{f:PY}{pos pos' tpos:Tz}{ta tv:TE}
theorem LX(d:PE X e ta)(g:Tl e f X.env (Qo e X.env)=Qo e X.env):PE X (.Attribute e f pos) (tFld X.K ta f):=by
 intro b s i H Q I h;refine K2 g (thn (d b s i H _ I h) λu w ⟨x,j,k,m,a,C,dx,fs,v,ex,p,c,n,l,q⟩=>?_);subst ex;obtain rfl:u=Pj a:=m;exact xY k p c n l λy A r t=>⟨v,j,r,t,q⟩
theorem o7(ha:PE X o ta)(g:PE X value tv)(hs:Tw value (on (.Attribute o f pos')) pos.line X.env=Ro OW):PS X (.Assign [.Attribute o f pos'] value pos) (Ls X.K ta tv f):=by
 intro b s d H D I h;refine WG (thn (g b s d H _ I h) λu i ⟨y,j,k,m,q⟩=>thn (ha b i d j _ k q) λp A ⟨x,B,r,t,a,C,dx,fs,ex,v,c,n,l,q2⟩=>?_) hs;subst ex;obtain rfl:p=Pj a:=t;exact xp r v c n l m λF w=>⟨d,_,w,q2⟩
end
section
variable{X:Cx}{pins:List (OZ×PP)}{σ:St}{H:Hp}{s:O7}{A:Qn}{E:OX->O7->Prop}{Q:OX->O7->Prop}{c:OX}{b:Bool}
inductive TyOf (K:Po) (H:Hp):V->OX->Prop where
 |non:TyOf K H .non (.type "NoneType")
 |bl (x:Bool):TyOf K H (.bl x) (.type "bool")
 |int (i:Int):TyOf K H (.int i) (.type "int")
 |str (x:PY):TyOf K H (.str x) (.type "str")
 |lst {a:OZ} {xs:List V} (e:H a=on (.lst xs)):TyOf K H (.ref a) (.type "list")
 |frz {a:OZ} {o:PP} {xs:List V} (e:H a=on (.frz o (.lst xs))):TyOf K H (.ref a) (.type "list")
 |tup {a:OZ} {xs:List V} (e:H a=on (.tup xs)):TyOf K H (.ref a) (.type "tuple")
 |ins {a C dx:OZ} {fs:List (PY×V)} (e:H a=on (.ins C dx fs)) (cl:Cls K C) (ha:RA K (.ref C) "__class__"=on (on (.builtin "object.__class__")))
  (hn:specialIn K (.builtin "object.__class__") "__get__"=on (on (.builtin "getset_descriptor.__get__"))) (htk:Yz K (.builtin "object.__class__")=on OV)
  (hm:mroIn K C (.type "object")=on OV):TyOf K H (.ref a) (.ref C)
theorem rH(I:Inv X pins σ H s)(d:aG x u)(ty:TyOf X.K H x t)(e:Ur X.K t c=on b)(h:∀g,Q (.bool b) {s with toks:=g}):
  Pf (Py X.prog X.w) A (UM (.builtin "isinstance") [u,c]) Q E s:=by
 cases ty with
 |non=>cases(show u=Qs from d);exact Ub XN I.kIn Sc e (λz=>nomatch z) h
 |bl y=>cases(show u=UZ y from d);exact Ub XM I.kIn Sc e (λz=>nomatch z) h
 |int i=>obtain⟨t,q⟩:=(show ∃t,u=SE i t from d);cases q;exact Ub Yb I.kIn Sc e (λz=>nomatch z) h
 |str y=>obtain⟨t,q⟩:=(show ∃t,u=YU y t from d);cases q;exact Ub Yd I.kIn Sc e (λz=>nomatch z) h
 |@lst a xs ea=>
  cases(show u=Pj a from d);obtain⟨_,_,n,_,f⟩:=(show bu X.prog X.w H s.heap a (.lst xs)from I.hok a _ ea);exact Ub Vm I.kIn ⟨_,f,rfl⟩ e (λz=>nomatch z) h
 |@frz a ob xs ea=>
  cases(show u=Pj a from d);obtain⟨_,_,_,n,_,f⟩:=(show bu X.prog X.w H s.heap a (.frz ob (.lst xs))from I.hok a _ ea);exact Ub Vm I.kIn ⟨_,f,rfl⟩ e (λz=>nomatch z) h
 |@tup a xs ea=>
  cases(show u=Pj a from d);obtain⟨_,_,_,p⟩:=(show bu X.prog X.w H s.heap a (.tup xs)from I.hok a _ ea);obtain⟨o,f,j,_⟩:=p;exact Ub V8 I.kIn ⟨o,f,j⟩ e (λz=>nomatch z) h
 |@ins a C dx fs ea cl ha hn htk hm=>
  cases(show u=Pj a from d);obtain⟨k,O,_⟩:=gj I.hok ea;obtain⟨l,J,_⟩:=O.look;exact Ub (Yc (cl.get _) cl.hd ha hn htk hm) I.kIn J e (λz=>nomatch z) h
end
structure Room (k:Nat) (A:Qn):Prop where
 hd:A.handled=OR
 dp:A.depth+3*k+5<recursionLimit
 un:A.units+16*k+200<UL
 gd:A.guards=on []
theorem Room.mono(r:Room k A)(h:j<=k):Room j A:=⟨r.hd,by have:=r.dp;omega,by have:=r.un;omega,r.gd⟩
theorem Room.deeper{A:Qn}(r:Room (k+1) A)(env:Wc):Room k (A.deeper env):=
 ⟨r.hd,by have:=r.dp;show A.depth+1+3*k+5<_;omega,by have:=r.un;show A.units+3+16*k+200<_;omega,r.gd⟩
theorem xL{A:Qn}:(A.under (.builtin "type.__call__" ⟨.ref C::us,kw⟩)).depth=A.depth+1:=by
 first|rfl|simp[VD,Code.weight,Code.isCreation,Code.isGuard,Code.isCaller,Code.frames,Xa,guardIds]
theorem xK{A:Qn}:(A.under (.builtin "type.__call__" ⟨.ref C::us,kw⟩)).units=A.units+1:=by
 first|rfl|simp[VD,Code.cUnits,Code.frames,Xa]
theorem Room.make{A:Qn}(r:Room (k+1) A)(C:OZ)(us:List OX)(a:List (PY×OX)):Room k (A.under (.builtin "type.__call__" ⟨.ref C::us,a⟩)):=
 ⟨r.hd,by have:=r.dp;rw[xL];omega,by have:=r.un;rw[xK];omega,by first|exact r.gd|simp[VD,Code.guards,Code.isGuard,guardIds,pushGuards,r.gd]⟩
theorem Room.depth{A:Qn}(r:Room k A):A.depth<recursionLimit:=by have:=r.dp;omega
theorem Room.units{A:Qn}(r:Room k A):A.units+64<UL:=by have:=r.un;omega
noncomputable def CF:TA:=λ_ H Q=>Q [] H
def HV(b:TE)(tr:TA):TA:=λa H Q=>b a H λx c=>tr a c λxs d=>Q (x::xs) d
section
variable{X:Cx}{e:Expr}{es:List Expr}{te:TE}{t:TA}{pos:Tz}
theorem d7:PA X [] CF:=λ_ _ _ _ H Q I h=>Yo ⟨[],H,I,.nil,h⟩
theorem bt(ha:PE X e te)(c:PA X es t)(hs:Pb (e::es) X.env=(OW,Qo e X.env)::Pb es X.env:=by rfl):PA X (e::es) (HV te t):=by
 intro pos a s b H Q I h;rw[hs];show Pf _ _ (spliced ((OW,Qo e X.env)::Q5 pos (Pb es X.env))) _ _ s;refine XU (thn (ha a s b H _ I h) λu d ⟨x,f,g,r1,q1⟩=>?_);exact thn (c pos a d b f _ g q1) λus l ⟨xs,i,j,k,q2⟩=>⟨x::xs,i,j,.cons r1 k,q2⟩
def tTup(t:TA):TE:=λb H Q=>t b H λxs a=>xs.length<=Pe/\∀p,a p=OR->Q (.ref p) (upd a p (.tup xs))
def Le(t:TA):TE:=λb H Q=>t b H λxs a=>xs.length<=Pe/\∀p,a p=OR->Q (.ref p) (upd a p (.lst xs))
theorem LT{x1}(h:PA X es t):PE X (.Tuple es x1 pos) (tTup t):=by
 intro a s g H Q I i;refine wpAny_Tuple_spliced (thn (h pos a s g H _ I i) λus c ⟨xs,d,f,r,z,q⟩=>⟨by rw[←r.length];exact z,?_⟩);have j:d c.heap.objs.size=OR:=f.hok.fresh (O9 _);refine⟨.ref c.heap.objs.size,upd d c.heap.objs.size (.tup xs),f.laid (t':=c.toks) (λb u e=>OU _ e) (O9 _) ?_,rfl,q _ j⟩;exact⟨z,us,r,⟨_,Pl _ rfl,rfl,_,rfl⟩⟩
theorem gC(h:PA X es t):PE X (.List es pos) (Le t):=by
 intro a s g H Q I i;refine wpAny_List_spliced (thn (h pos a s g H _ I i) λus c ⟨xs,d,f,r,z,q⟩=>⟨by rw[←r.length];exact z,?_⟩);have j:d c.heap.objs.size=OR:=f.hok.fresh (O9 _);refine⟨.ref c.heap.objs.size,upd d c.heap.objs.size (.lst xs),f.laid (t':=c.toks) (λb u e=>OU _ e) (O9 _) ?_,rfl,q _ j⟩;exact⟨z,us,0,r,Pl _ rfl⟩
end
abbrev Sp:=List V->Hp->VK->XK->Prop
abbrev CXT:=List Wc->Hp->O7->XK->OX->O7->Prop
structure Env0 (P:Pt) (w:PV) (K:Po) (mg:PY->Option OX) (base:P7) (A:Qn) (outer:List Wc) (s:O7) (H:Hp):Prop where
 frames:A.frames=on outer
 mod:Mod K mg base
 bs:∀b o,base.get? b=on o->s.heap.get? b=on o/\H b=OR
 bsz:base.objs.size<=s.heap.objs.size
 funs:s.heap.FunFrames base outer
 frf:∀b∈frs outer,H b=OR
 hok:HOk P w H s.heap
 bare:Ux s.gens
def CE(outer:List Wc)(P:Pt)(w:PV)(H:Hp)(s:O7)(Q:VK)(u:OX)(s':O7):Prop:=
 ∃v a,s'.os=s.os/\Ux s'.gens/\Un (frs outer) [] H a s.heap s'.heap/\HOk P w a s'.heap/\aG v u/\Q v a
def CR(CX:CXT)(outer:List Wc)(P:Pt)(w:PV)(H:Hp)(s:O7)(Q:VK)(E:XK)(r:Result)(s':O7):Prop:=
 match r with
 | .ok (.ret u)=>CE outer P w H s Q u s'
 | .ok _=>False
 | .error e=>CX outer H s E e s'
structure FnOk (P:Pt) (w:PV) (K:Po) (mg:PY->Option OX) (base:P7) (CX:CXT) (k:Nat) (f:OZ) (fd:PL) (ps:List PY) (sp:Sp):Prop where
 len:∀vs H Q E,sp vs H Q E->vs.length=ps.length
 run:∀(A:Qn) (outer:List Wc) (s:O7) (H:Hp) (args:Args) (us:List OX) (vs:List V) (Q:VK) (E:XK),Room k A->Env0 P w K mg base A outer s H->VP s fd args (ps.zip us)->ao vs us->sp vs H Q E->
  Sd (Py P w) A (.call (.ref f) args) (CR CX outer P w H s Q E) s
theorem FnOk.mono{K:Po}(F:FnOk P w K mg base CX j f fd ps sp)(h:j<=k):
  FnOk P w K mg base CX k f fd ps sp:=⟨F.len,λA outer s H args us vs Q E a=>F.run A outer s H args us vs Q E (a.mono h)⟩
theorem Env0.make{K:Po}{A:Qn}(e:Env0 P w K mg base A outer s H)(C:OZ)(us:List OX)(a:List (PY×OX)):
  Env0 P w K mg base (A.under (.builtin "type.__call__" ⟨.ref C::us,a⟩)) outer s H:=⟨by first|exact e.frames|(simpa[VD,Code.envs,Xa,pushEnvs]using e.frames),e.mod,e.bs,e.bsz,e.funs,e.frf,e.hok,e.bare⟩
section
variable{X:Cx}{pins:List (OZ×PP)}{σ:St}{H:Hp}{s s':O7}
theorem Inv.env0(I:Inv X pins σ H s):Env0 X.prog X.w X.K X.mg X.base X.A X.stack s H:=
 ⟨I.ok.frames,I.ok.mod,I.bs,Px I.ok.bsz I.sz,I.stack,I.stkFree,I.hok,I.bare⟩
theorem Inv.after(I:Inv X pins σ H s)(h:CE X.stack X.prog X.w H s Q u s'):EP X pins σ Q u s':=by
 obtain⟨v,c,os,bare,un,hok,r,q⟩:=h;obtain⟨e,g,d,t,a⟩:=s';obtain rfl:a=s.os:=os;exact⟨v,c,I.call (h':=e) (g':=g) (d':=d) (t':=t) (ch:=[]) un hok bare (λb z=>PF z (by simp)),r,q⟩
end
def HW(sp:Sp)(a:List V)(E:St->XK)(t:TA):TE:=λb H Q=>t b H λvs c=>sp (vs++a) c Q (E b)
def xh(C:OZ)(m:PY)(sp:Sp)(b:List V)(E:St->XK)(e:TE)(t:TA):TE:=λc H Q=>e c H λx d=>∃a dx fs,x= .ref a/\d a=on (.ins C dx fs)/\fs.lookup m=OR/\
 t c d λvs f=>sp (x::(vs++b)) f Q (E c)
def N3(C:OZ)(sp:Sp)(a:List V)(E:St->XK)(t:TA):TE:=λc H Q=>t c H λvs b=>∀x dx,b x=OR->b dx=OR->dx≠x->
 sp (.ref x::(vs++a)) (upd (upd b dx (.own x)) x (.ins C dx [])) (λv d=>v= .non/\Q (.ref x) d) (E c)
def aA(K:Po)(a:PL)(ps:List PY)(ds:List OX):Prop:=
 ∀(s:O7) (us:List OX),K.In s.heap->(us++ds).length=ps.length->VP s a ⟨us,[]⟩ (ps.zip (us++ds))
theorem aA.all{K:Po}{ps:List PY}(h:∀us:List OX,us.length=ps.length->bindArgs fd ⟨us,[]⟩=Ro (ps.zip us)):aA K fd ps []:=λs us _ a=>by
 rw[PN]at a⊢;exact .of_eq (h us a)
def bz(CX:CXT)(X:Cx)(E:St->XK):Prop:=∀(a:List (OZ×PP)) (b:St) (H:Hp) (s:O7) (e:OX) (s':O7),Inv X a b H s->CX X.stack H s (E b) e s'->X.xe e s'
section
variable{X:Cx}{CX:CXT}{k:Nat}{f C:OZ}{fd:PL}{ps:List PY}{sp:Sp}{dvs:List V}{ds:List OX}{E:St->XK}{x m:PY}{p pos apos:Tz}{e o:Expr}{es:List Expr}{ta:TE}{t:TA}
theorem li(F:FnOk X.prog X.w X.K X.mg X.base CX k f fd ps sp)(c:Room k X.A)(d:aA X.K fd ps ds)(hd:ao dvs ds)(g:bz CX X E)
  (I:Inv X pins σ H s) (r:ao vs us) (h:sp (vs++dvs) H Q (E σ)):Pf (Py X.prog X.w) X.A (UM (.ref f) us) (EP X pins σ Q) X.xe s:=by
 have b:ao (vs++dvs) (us++ds):=r.append hd;have i:(us++ds).length=ps.length:=by rw[←b.length];exact F.len _ _ _ _ h
 refine T9 (Sv (F.run X.A X.stack s H ⟨us,[]⟩ (us++ds) (vs++dvs) Q (E σ) c I.env0 (d s us I.kIn i) b h) λr s' a=>?_);cases r with
 |error e=>exact g pins σ H s e s' I a
 |ok fl=>
  cases fl with
  |ret u=>exact I.after a
  |next=>exact QX a
  |brk=>exact QX a
  |cont=>exact QX a
theorem mx(F:FnOk X.prog X.w X.K X.mg X.base CX k f fd ps sp)(g:Room k X.A)(i:Gl X x)(hm:X.mg x=on (.ref f))(j:UQ X.K (.ref f)=OV)(l:aA X.K fd ps ds)(hd:ao dvs ds)(n:bz CX X E)
  (ha:PA X (e::es) t) (b:(x==("__debug__":PY))=OW:=by decide) (u:Pb (e::es) X.env=(OW,Qo e X.env)::Pb es X.env:=by rfl) (c:(Q5 pos (Pb es X.env)).any (·.1)=OW:=by rfl):
  PE X (.Call (.Name x p) (e::es) [] pos) (HW sp dvs E t):=by
 intro a s v H Q I h;refine Sx (iw I i hm ?_ b);refine V7 (h₀:=X.base) I.ok.mod.kin j (thn (ha pos a s v H _ I h) λus y ⟨vs,B,d,r,q⟩=>⟨d.kIn,?_⟩) u c;exact li F g l hd n d r q
theorem Kb(v:PE X o ta)(c:Cls X.K C)(hm:Meth X.K C m f)(F:FnOk X.prog X.w X.K X.mg X.base CX k f fd ps sp)(y:Room k X.A)(B:aA X.K fd ps ds)(hd:ao dvs ds)(J:bz CX X E)(ha:PA X (e::es) t)
  (d:Pb (e::es) X.env=(OW,Qo e X.env)::Pb es X.env:=by rfl) (g:(Q5 pos (Pb es X.env)).any (·.1)=OW:=by rfl)
  (L:Qo (.Call (.Attribute o m apos) (e::es) [] pos) X.env=(do
   let ov ←Qo o X.env
   Sw apos.atName
   let (f,first) ←Te [ov] (UI ov m pl)
   Wp pos f first (Q5 pos (Pb (e::es) X.env)) (R1 pos (Q6 [] X.env))):=by rfl):
  PE X (.Call (.Attribute o m apos) (e::es) [] pos) (xh C m sp dvs E ta t):=by
 intro b s i H Q I h;refine V2 (pl:=pl) (thn (v b s i H _ I h) λu N ⟨x,O,j,P,a,dx,fs,ex,R,l,q⟩=>?_) L;subst ex;obtain rfl:u=Pj a:=P;refine pM j R c hm l ?_;refine V7 (first:=[.ref a]) (h₀:=X.base) I.ok.mod.kin hm.kp (thn (ha pos b N i O _ j q) λus T ⟨vs,U,n,r,q2⟩=>⟨n.kIn,?_⟩) d g
 exact li (us:= .ref a::us) (vs:= .ref a::vs) F y B hd J n (.cons rfl r) q2
theorem DB(g:PE X o ta)(c:Cls X.K C)(hm:Meth X.K C m f)(F:FnOk X.prog X.w X.K X.mg X.base CX k f fd ps sp)(i:Room k X.A)(j:aA X.K fd ps ds)(hd:ao dvs ds)(n:bz CX X E)
  (r:Qo (.Call (.Attribute o m apos) [] [] pos) X.env=(do
   let ov ←Qo o X.env
   Sw apos.atName
   let (f,first) ←Te [ov] (UI ov m pl)
   Wp pos f first (Q5 pos (Pb [] X.env)) (R1 pos (Q6 [] X.env))):=by rfl):
  PE X (.Call (.Attribute o m apos) [] [] pos) (xh C m sp dvs E ta CF):=by
 intro b s v H Q I h;refine V2 (pl:=pl) (thn (g b s v H _ I h) λu J ⟨x,L,d,y,a,dx,fs,ex,B,l,q⟩=>?_) r;subst ex;obtain rfl:u=Pj a:=y;refine pM d B c hm l ?_;exact PySem.W.callWith_K0 (first:=[.ref a]) d.kIn hm.kp (li (us:=[.ref a]) (vs:=[.ref a]) F i j hd n d (.cons rfl .nil) q)
structure Mk (K:Po) (C f:OZ):Prop where
 makes:Yy K C=OV
 init:RA K (.ref C) "__init__"=on (on (.ref f))
 fn:isFn K (.ref f)=OV
 kp:UQ K (.ref C)=OV
theorem CO(M:Mk X.K C f)(F:FnOk X.prog X.w X.K X.mg X.base CX k f fd ps sp)(g:Room (k+1) X.A)(i:aA X.K fd ps ds)(hd:ao dvs ds)
  (j:bz CX X E) (I:Inv X pins σ H s) (r:ao vs us)
  (h:∀x dx,H x=OR->H dx=OR->dx≠x->sp (.ref x::(vs++dvs)) (upd (upd H dx (.own x)) x (.ins C dx [])) (λv l=>v= .non/\Q (.ref x) l) (E σ)):
  Pf (Py X.prog X.w) X.A (UM (.ref C) us) (EP X pins σ Q) X.xe s:=by
 have c:=h (s.heap.objs.size+1) s.heap.objs.size (I.hok.fresh (Tk _)) (I.hok.fresh (O9 _)) (Qa (UY _));have b:=Inv.made (C:=C) I;have d:ao (V.ref (s.heap.objs.size+1)::(vs++dvs)) (Pj (s.heap.objs.size+1)::(us++ds)):= .cons rfl (r.append hd);have n:(Pj (s.heap.objs.size+1)::us++ds).length=ps.length:=by
  have e:=d.length;rw[F.len _ _ _ _ c]at e;exact e.symm
 refine T9 (uB (f:=f) I.kIn M.makes M.init (beq_iff_eq.mp M.fn) (Sv (F.run _ X.stack _ _ ⟨Pj (s.heap.objs.size+1)::us,[]⟩ (Pj (s.heap.objs.size+1)::(us++ds)) _ _ (E σ) (g.make C us [])
  (b.env0.make C us []) (i _ (Pj (s.heap.objs.size+1)::us) b.kIn n) d c) λr s' a=>?_))
 cases r with
 |error e=>exact j pins σ _ _ e s' b a
 |ok fl=>
  cases fl with
  |ret u=>
   obtain⟨v,q,y,B,J,q3⟩:=b.after a;subst J;exact⟨B,⟨V.ref (s.heap.objs.size+1),q,y,rfl,q3⟩⟩
  |next=>exact QX a
  |brk=>exact QX a
  |cont=>exact QX a
theorem Kc(M:Mk X.K C f)(F:FnOk X.prog X.w X.K X.mg X.base CX k f fd ps sp)(g:Room (k+1) X.A)(i:Gl X x)(hm:X.mg x=on (.ref C))(j:aA X.K fd ps ds)(hd:ao dvs ds)(l:bz CX X E)
  (ha:PA X (e::es) t) (b:(x==("__debug__":PY))=OW:=by decide) (n:Pb (e::es) X.env=(OW,Qo e X.env)::Pb es X.env:=by rfl) (c:(Q5 pos (Pb es X.env)).any (·.1)=OW:=by rfl):
  PE X (.Call (.Name x p) (e::es) [] pos) (N3 C sp dvs E t):=by
 intro a s u H Q I h;refine Sx (iw I i hm ?_ b);refine V7 (h₀:=X.base) I.ok.mod.kin M.kp (thn (ha pos a s u H _ I h) λus v ⟨vs,y,d,r,q⟩=>⟨d.kIn,?_⟩) n c;exact CO M F g j hd l d r q
end
def PK(X:Cx)(b:List Uz)(t:TA):Prop:=
 ∀(pos:Tz) (a:List (OZ×PP)) (s:O7) (c:St) (H:Hp) (Q:List V->Hp->Prop),Inv X a c H s->t c H Q->Pf (Py X.prog X.w) X.A (evalAll ((R1 pos (Q6 b X.env)).map (·.2))) (AP X a c Q) X.xe s
section
variable{X:Cx}{CX:CXT}{k:Nat}{f C:OZ}{fd:PL}{ps ks:List PY}{sp:Sp}{E:St->XK}{x m:PY}{p pos apos kpos:Tz}{e o:Expr}{es:List Expr}{kws:List Uz}{te ta:TE}{t tk:TA}{nm:Option PY}
theorem LL:PK X [] CF:=λ_ _ _ _ H Q I h=>wpAny_evalAll_nil ⟨[],H,I,.nil,h⟩
theorem J7(ha:PE X e te)(c:PK X kws t):PK X (⟨nm,e,kpos⟩::kws) (HV te t):=by
 intro pos a s b H Q I h;show Pf _ _ (evalAll ((do let v ←Qo e X.env;Sw pos;Ro v)::(R1 pos (Q6 kws X.env)).map (·.2))) _ _ s
 refine wpAny_evalAll_cons (My (thn (ha a s b H _ I h) λu d ⟨x,g,i,r1,q1⟩=>My (Rh (OT ?_))));exact thn (c pos a d b g _ i q1) λus q ⟨xs,j,l,n,q2⟩=>⟨x::xs,j,l,.cons r1 n,q2⟩
structure KBinds (K:Po) (fd:PL) (ps ks:List PY) (g:List OX->List OX->List OX) (gV:List V->List V->List V):Prop where
 to:∀(s:O7) (us ws:List OX),K.In s.heap->(g us ws).length=ps.length->VP s fd ⟨us,ks.zip ws⟩ (ps.zip (g us ws))
 rel:∀{vs:List V} {us:List OX} {zs:List V} {ws:List OX},ao vs us->ao zs ws->ao (gV vs zs) (g us ws)
variable{g:List OX->List OX->List OX}{gV:List V->List V->List V}
end
structure FnScope (N P:List PY) (sc:Scope):Prop where
 kind:sc.kind= .function
 co:sc.isCoroutine=OW
 gen:sc.isGenerator=OW
 nd:N.Nodup
 pre:N.take P.length=P
 par:∀x∈P,sc.names.lookup x=on .local\/sc.names.lookup x=on .cell
 nofree:∀y∈sc.names,y.2≠ .free
theorem rW{b:PY->Option SV}{x:PY}:∀{a:List (PY×OX)} {m:PY->Option OX},(∀v,(x,v)∉a)->YE b a m x=m x
 |[],_,_=>rfl
 |(n,v)::r,m,h=>by
  unfold YE;rw[rW λw c=>h w (OY _ c)];split
  ·have:x≠n:=by rintro rfl;exact h v O5
   simp[this]
  ·rfl
theorem rY{b:PY->Option SV}{x:PY}:∀{a:List (PY×OX)} {m:PY->Option OX},(∀v,(x,v)∉a)->YD b a m x=m x
 |[],_,_=>rfl
 |(n,v)::r,m,h=>by
  unfold YD;rw[rY λw c=>h w (OY _ c)];split
  ·rfl
  ·have:x≠n:=by rintro rfl;exact h v O5
   simp[this]
theorem rX{a:PY->Option SV}{x:PY}{v:OX}:∀{P:List PY} {vs:List OX} {i:Nat} {m:PY->Option OX},P.Nodup->P[i]?=on x->vs[i]?=on v->a x=on .local->
  YE a (P.zip vs) m x=on v
 |[],_,_,_,_,h,_,_=>by simp at h
 |_::_,[],_,_,_,_,h,_=>by simp at h
 |p::P,w::vs,0,m,nd,h1,h2,hk=>by
  simp at h1 h2;subst h1;subst h2;show YE a ((p,w)::P.zip vs) m p=_;unfold YE;rw[rW λv b=>(Qj.mp nd).1 (Wg b).1,O8 hk];simp
 |p::P,w::vs,i+1,m,nd,h1,h2,hk=>by
  show YE a ((p,w)::P.zip vs) m x=_;unfold YE;exact rX (i:=i) (Qj.mp nd).2 (by simpa using h1) (by simpa using h2) hk
theorem rZ{a:PY->Option SV}{x:PY}{v:OX}:∀{P:List PY} {vs:List OX} {i:Nat} {m:PY->Option OX},P.Nodup->P[i]?=on x->vs[i]?=on v->a x≠on .local->
  YD a (P.zip vs) m x=on v
 |[],_,_,_,_,h,_,_=>by simp at h
 |_::_,[],_,_,_,_,h,_=>by simp at h
 |p::P,w::vs,0,m,nd,h1,h2,hk=>by
  simp at h1 h2;subst h1;subst h2;show YD a ((p,w)::P.zip vs) m p=_;unfold YD;rw[rY λv b=>(Qj.mp nd).1 (Wg b).1,O3 hk];simp
 |p::P,w::vs,i+1,m,nd,h1,h2,hk=>by
  show YD a ((p,w)::P.zip vs) m x=_;unfold YD;exact rZ (i:=i) (Qj.mp nd).2 (by simpa using h1) (by simpa using h2) hk
noncomputable def e8(N:List PY)(vs:List V):St:=vs.map on++Pi (N.length-vs.length) OR
noncomputable def dy(CX:CXT)(P:Pt)(w:PV)(K:Po)(mg:PY->Option OX)(base:P7)(N:List PY)(a:PY)(scope:Scope)(f:OZ)(cd:OX)(A:Qn)(outer:List Wc)(s:O7)(H:Hp)(E:XK):Cx where
 prog:=P
 w:=w
 K:=K
 mg:=mg
 base:=base
 A:=A.deeper (TM a scope s.heap.objs.size f cd)
 N:=N
 s₀:=s
 H₀:=H
 env:=TM a scope s.heap.objs.size f cd
 outer:=outer
 stack:=TM a scope s.heap.objs.size f cd::outer
 ex:=[]
 calm:=OV
 fn:=λ_=>OV
 pn:=[]
 xe:=λe s'=>Pf (Py P w) (A.deeper (TM a scope s.heap.objs.size f cd)) (leaving (TM a scope s.heap.objs.size f cd) e) (λ_ b=>CX outer H s E e b) (λc b=>CX outer H s E c b) s'
theorem vf{a:Scope}(h:a.names.lookup x=on .cell):∃c,(Q3 n a.names []).lookup x=on c:=by
 have q:=Xu a.names n [] (.inl h);exact WD.mp q
theorem AF{K:Po}{N ps:List PY}{scope:Scope}{A:Qn}{s B:O7}{E:XK}{vs:List V}
  (S:FnScope N ps scope) (hd:A.handled=OR) (g:Env0 P w K mg base A outer s H) (L:vs.length=ps.length) (r:ao vs us)
  (x:InCallC s s.heap.objs.size (YE (TM qual scope s.heap.objs.size f cd).kindOf (ps.zip us) λ_=>OR) (Q3 (s.heap.objs.size+1) scope.names []) (YD (TM qual scope s.heap.objs.size f cd).kindOf (ps.zip us) λ_=>OR) B):
  Inv (dy CX P w K mg base N qual scope f cd A outer s H E) [] (e8 N vs) H B:=by
 have I:ps.length<=N.length:=by have:=Qr Vq S.pre;rw[Rq]at this;omega
 obtain⟨o,O,rfl,C⟩:=x.done;have j:∀b:OZ,b∉(dy CX P w K mg base N qual scope f cd A outer s H E).ex:=λb z=>PF (show b∈([]:List OZ)from z) (by simp);refine⟨⟨g.mod,S.kind,rfl,rfl,O9 _,λy z c o d=>?_,λy hy=>?_,λy c _ h=>?_,λ_=>hd,Around.frames_deeper g.frames,.inr ⟨rfl,rfl⟩,λb z=>PF z (j b),g.bs,g.bsz,λb _ _=>j b,λb z=>PF z (j b),g.funs,g.frf⟩,
  rfl,g.bare,Un.kept C,⟨_,x.toInCall.ns,λi y v o d Q=>?_⟩,λy c h=>⟨_,x.cell y c h⟩,g.hok.fresh (O9 _),λy c h=>?_,λp l=>PF (show p∈([]:List (OZ×PP))from l) (by simp),g.hok.kept C,?_⟩
 ·exact name_of_addr x.apart (QG o) (QG d)
 ·have hy:scope.names.lookup y=on .cell\/scope.names.lookup y=on .free:=hy
  rcases hy with hy|hy
  ·exact vf hy
  ·exact PF rfl (S.nofree _ (QG hy))
 ·exact Vc (x.above y c (QG h))
 ·have t:i<vs.length:=by
   unfold e8 at d;by_cases t:i<vs.length
   ·exact t
   ·rw[Re (by simpa using t)]at d
    rw[R4]at d;split at d<;>cases d
  have ha:vs[i]?=on v:=by
   unfold e8 at d;rw[SO (by simpa using t),O4]at d;cases e:vs[i]? with
   |none=>rw[e]at d;cases d
   |some a=>rw[e]at d;cases d;rfl
  obtain⟨u,F,J⟩:=r.get ha;have l:ps[i]?=on y:=by
   rw[←S.pre,WU (by omega)];exact o
  have m:ps.Nodup:=by rw[←S.pre];exact S.nd.sublist (List.take_sublist _ _)
  refine⟨u,J,?_⟩;rcases S.par y (PD l)with k|k
  ·exact .inl ⟨k,rX m l F k⟩
  ·obtain⟨c,e⟩:=vf (n:=s.heap.objs.size+1) k
   refine .inr ⟨.inl k,c,e,?_⟩;have q:=x.cell y c e;rw[rZ m l F (by show scope.names.lookup y≠_;rw[k];decide)]at q;exact q
 ·exact g.hok.fresh (Vc (x.above y c (QG h)))
 ·unfold e8
  show _=N.length;rw[Pn,OS,QV];omega
theorem IW{K:Po}
  {N ps:List PY} (L:K.lookup f=on ⟨oc,od,.func (Tj name qual params body scope dV kV doc pm an cdv ct),osl⟩) (l:T3 K cdv qual=OV) (S:FnScope N ps scope)
  (len:∀vs H Q E,sp vs H Q E->vs.length=ps.length)
  (d:∀(A:Qn) (outer:List Wc) (s:O7) (H:Hp) (vs:List V) (Q:VK) (E:XK),Room k (A.deeper (TM qual scope s.heap.objs.size f cdv))->sp vs H Q E->
   ∃t,PSs (dy CX P w K mg base N qual scope f cdv A outer s H E) body t/\t {nx:=λ_ c=>Q .non c,rt:=Q} (e8 N vs) H):
  FnOk P w K mg base CX (k+1) f (Tj name qual params body scope dV kV doc pm an cdv ct) ps sp:=by
 refine⟨len,λA outer s H args us vs Q E m h O r i=>?_⟩;have R:=len _ _ _ _ i;have C:K.In s.heap:=h.mod.kin.keeps λb o e=>(h.bs b o e).1;have p:s.heap.NoLimit:=h.mod.nolimit.keeps λb o e=>(h.bs b o e).1;have g:∀y∈ps.zip us,scope.names.lookup y.1=on .local\/(scope.names.lookup y.1=on .cell/\((Q3 (s.heap.objs.size+1) scope.names []).lookup y.1).isSome=OV):=λ⟨n,v⟩ T=>by
  rcases S.par n (Wg T).1 with q|q
  ·exact .inl q
  ·exact .inr ⟨q,Xu _ _ _ (.inl q)⟩
 refine codeAny_call_function m.depth (C _ _ L) rfl S.co S.gen rfl (PySem.W.codeRec_of C l) (O _ _ _ _ ?_);refine wpAny_newFunctionEnv_cells S.kind g λenv U F x=>?_;subst U;refine⟨p.keeps x.toInCall.keep,codeAny_func ?_⟩;obtain⟨t,X,Y⟩:=d A outer s H vs Q E (m.deeper _) i;have I:Inv (dy CX P w K mg base N qual scope f cdv A outer s H E) [] (e8 N vs) H F:=AF S m.hd h R r x;refine Qc (X [] F (e8 N vs) H _ I Y) (λfl s' hs=>?_) λe s' hs=>hs;have j:∀{a:St} {c:Hp} {v:V} {u:OX},Inv (dy CX P w K mg base N qual scope f cdv A outer s H E) [] a c s'->aG v u->Q v c->CE outer P w H s Q u s':=
  λ{a c v u} J B q=>⟨v,c,J.os,J.bare,J.base,J.hok,B,q⟩
 cases fl with
 |ret u=>
  obtain⟨v,a,c,J,B,q⟩:=hs;exact j J B q
 |next=>
  obtain⟨a,c,J,q⟩:=hs;exact j (v:=V.non) (u:=Qs) J rfl q
 |brk=>
  obtain⟨_,_,_,q⟩:=hs;exact QX q
 |cont=>
  obtain⟨_,_,_,q⟩:=hs;exact QX q
section
variable{X:Cx}{x:PY}{p pos:Tz}{e:Expr}{es:List Expr}{t:TA}{id T:String}{r:List V->Hp->VK->Prop}
def tCB(r:List V->Hp->VK->Prop)(t:TA):TE:=λa H Q=>t a H λvs b=>r vs b Q
theorem j6(f:cX X (.builtin id) r)(g:Gl X x)(hm:X.mg x=OR)(i:Td x=on (.builtin id))(ha:PA X (e::es) t)(hn:x≠"__name__":=by decide)(b:(x==("__debug__":PY))=OW:=by decide)
  (j:Pb (e::es) X.env=(OW,Qo e X.env)::Pb es X.env:=by rfl) (c:(Q5 pos (Pb es X.env)).any (·.1)=OW:=by rfl):PE X (.Call (.Name x p) (e::es) [] pos) (tCB r t):=by
 intro a s d H Q I h;refine Sx (eW I g hm i ?_ hn b);exact Vr (thn (ha pos a s d H _ I h) λus k ⟨vs,l,m,r1,q1⟩=>f a k d l vs us Q m r1 q1) j c
theorem zx(f:cX X (.type T) r)(g:Gl X x)(hm:X.mg x=OR)(i:Td x=on (.type T))(ha:PA X (e::es) t)(hn:x≠"__name__":=by decide)(b:(x==("__debug__":PY))=OW:=by decide)
  (j:Pb (e::es) X.env=(OW,Qo e X.env)::Pb es X.env:=by rfl) (c:(Q5 pos (Pb es X.env)).any (·.1)=OW:=by rfl):PE X (.Call (.Name x p) (e::es) [] pos) (tCB r t):=by
 intro a s d H Q I h;refine Sx (eW I g hm i ?_ hn b);exact QR (thn (ha pos a s d H _ I h) λus k ⟨vs,l,m,r1,q1⟩=>f a k d l vs us Q m r1 q1) j c
end
end L2
namespace HT
open PySem PyProof.Rows
section
open PySem.SeqAt
open PySem.AutoSeq1 (wpAny_loadPart')
open PySem.MeetsSeq PySem.MeetsSeq2 PySem.MeetsSeq3
end
section
variable{prog:Pt}{w:PV}{A:Qn}{E:OX->O7->Prop}{s:O7}
theorem cat_tup{vs a:List OX}(u:IsTup s.heap t vs.toArray)(v:IsTup s.heap b a.toArray)(m:vs≠[])
  (y:a=[]->Q (.ref t) s) (B:a≠[]->Q (.ref s.heap.objs.size) {s with heap:=s.heap.push {cls:= .type "tuple",data:= .seq (vs++a).toArray}})
  (k:vs.length+a.length<=Pe):Pf (Py prog w) A (R3 .Add (.ref t) (.ref b)) Q E s:=by
 obtain⟨⟨cls,dd,data,o⟩,i,p,n,hd⟩:=id u;obtain⟨⟨q,d,l,f⟩,c,g,r,h⟩:=id v;simp only at p hd g h;subst p hd g h;have e:vs.toArray++a.toArray=(vs++a).toArray:=by simp
 by_cases j:a=[]
 ·exact concat_meets ⟨_,i,rfl⟩ ⟨_,c,rfl⟩ WP Yj UK UC (Uo _ _)
   (tuple_addW1 t b vs.toArray a.toArray n r dd d o f (by simpa using m) (by simp[j])) ⟨i,c,y j⟩
 ·refine concat_meets ⟨_,i,rfl⟩ ⟨_,c,rfl⟩ WP Yj UK UC (Uo _ _)
   (tuple_addW2 t b vs.toArray a.toArray n r dd d o f (by simpa using m) (by simpa using j) (by rw[Ps,Ps];exact k)) ⟨i,c,?_⟩
  rw[e];exact B j
noncomputable def sIx(n d:Nat):Option Int->Nat
 |none=>d
 |some v=>if v<0 then(v+(n:Int)).toNat else Sz v.toNat n
theorem sIx_none(n d:Nat):sIx n d OR=d:=rfl
theorem sIx_nat(n d k:Nat):sIx n d (on (k:Int))=Sz k n:=by
 show(if(k:Int)<0 then((k:Int)+(n:Int)).toNat else Sz (k:Int).toNat n)=Sz k n;rw[O3 (by omega),QL]
end
end HT
namespace L2
open PySem PySem.Spec PyProof.Rows
abbrev TO:=St->Hp->(Option Int->Hp->Prop)->Prop
def PO(X:Cx)(e:Option Expr)(t:TO):Prop:=
 ∀(a:List (OZ×PP)) (s:O7) (b:St) (H:Hp) (Q:Option Int->Hp->Prop),Inv X a b H s->t b H Q->
  Pf (Py X.prog X.w) X.A (evalPart e X.env) (λu s'=>∃o c,Inv X a b c s'/\IsPart u o/\Q o c) X.xe s
noncomputable def JO:TO:=λ_ H Q=>Q OR H
def N1(t:TE):TO:=λa H Q=>t a H λx b=>∃i,x= .int i/\Q (on i) b
theorem pK{ns:List Int}:∀{us:List OX},ao (ns.map V.int) us->Xb us ns:=by
 induction ns with
 |nil=>intro us r;rw[Q0]at r;cases r;exact .nil
 |cons n ns ih=>
  intro us r;rw[Ph]at r;cases r with
  |cons r1 a=>
   obtain⟨t,e⟩:=r1;subst e;exact .cons n t (ih a)
section
variable{X:Cx}{e:Expr}{te:TE}{lo hi:Option Expr}{tl th:TO}{pos p2:Tz}
theorem v9:PO X OR JO:=by
 intro a s b H Q I h;rw[Yi];exact OT ⟨OR,H,I,.none,h⟩
theorem v8(h:PE X e te):PO X (on e) (N1 te):=by
 intro a s b H Q I c;rw[evalPart_some];refine thn (h a s b H _ I c) λu g ⟨x,d,f,r1,q1⟩=>?_;obtain⟨i,rfl,q⟩:=q1;obtain⟨t,rfl⟩:=r1;exact⟨on i,d,f,.int i t,q⟩
def SlR(X:Cx)(r:V->Option Int->Option Int->Hp->VK->Prop):Prop:=
 ∀(a:List (OZ×PP)) (s:O7) (b:St) (H:Hp) (x:V) (v c d:OX) (lo hi:Option Int) (f:OZ) (Q:VK),Inv X a b H s->aG x v->s.heap.IsSliceOf f c d .none->IsPart c lo->IsPart d hi->r x lo hi H Q->
  ∃T g,typeLookup (.type T) "__getitem__"=Ro (on (.builtin g))/\s.TypeIs v T/\Pf (Py X.prog X.w) X.A (getItem v (.ref f)) (EP X a b Q) X.xe s
def tSl(r:V->Option Int->Option Int->Hp->VK->Prop)(te:TE)(tl th:TO):TE:=λa H Q=>te a H λx b=>tl a b λl c=>th a c λu d=>r x l u d Q
theorem uo(j:SlR X r)(k:PE X e te)(m:PO X lo tl)(n:PO X hi th):PE X (.Subscript e (.Slice lo hi OR p2) pos) (tSl r te tl th):=by
 intro a s d H Q I h;refine Subscript_ (thn (k a s d H _ I h) λv o ⟨x,p,t,r1,q1⟩=>?_);refine wpAny_Slice (thn (m a o d p _ t q1) λf y ⟨l,B,C,pl,q2⟩=>thn (n a y d B _ C q2) λg c ⟨u,i,F,J,q3⟩=>?_);rw[Yi];refine OT ?_;have L:Inv X a d i {c with heap:=c.heap.push {cls:= .type "slice",data:= .fields #[f,g,.none]}}:=F.kept (t':=c.toks) λb R q=>OU _ q;obtain⟨T,U,N,O,P⟩:=j a {c with heap:=c.heap.push {cls:= .type "slice",data:= .fields #[f,g,.none]}} d i x v f g l u c.heap.objs.size Q L r1 (We ..) pl J q3;show Pf (Py X.prog X.w) X.A (Yk e (.Slice lo hi OR p2) v (.ref c.heap.objs.size)) (EP X a d Q) X.xe {c with heap:=c.heap.push {cls:= .type "slice",data:= .fields #[f,g,.none]}};exact tail_any (ops:=[.ref c.heap.objs.size,v]) O N P (by with_unfolding_all rfl)
noncomputable def lV(xs:List V)(lo hi:Option Int):List V:=(xs.drop (HT.sIx xs.length 0 lo)).take (HT.sIx xs.length xs.length hi-HT.sIx xs.length 0 lo)
theorem vx(xs:List V)(lo hi:Option Int):(lV xs lo hi).length<=xs.length:=by
 unfold lV;rw[Rq,List.length_drop];omega
def xx(K:Po):R2:=λx y H Q=>∃a b xs ys,x= .ref a/\y= .ref b/\SqT K H a xs/\SqT K H b ys/\xs≠[]/\xs.length+ys.length<=Pe/\
 (ys=[]->Q (.ref a) H)/\(ys≠[]->∀p,H p=OR->Q (.ref p) (upd H p (.tup (xs++ys))))
theorem ao.nil_iff(r:ao xs us):us=[]↔xs=[]:=by
 cases r with
 |nil=>simp
 |cons _ _=>simp
theorem Kj:OpR X (R3 .Add) (xx X.K):=by
 intro d s n H x y v u Q I i j h;obtain⟨a,b,xs,ys,rfl,rfl,ha,k,l,f,q1,q2⟩:=h;cases i;cases j;obtain⟨its,r1,m,_⟩:=I.tuple ha;obtain⟨g,c,p2,_⟩:=I.tuple k;refine HT.cat_tup m p2 (λz=>l (r1.nil_iff.mp z)) (λz=>⟨.ref a,H,I,rfl,q1 (c.nil_iff.mp z)⟩) (λz=>?_) (by rw[←r1.length,←c.length];exact f);refine⟨.ref s.heap.objs.size,_,I.laid (t':=s.toks) (o:= .tup (xs++ys)) (λb p q=>OU _ q) (O9 _) ?_,rfl,q2 (λw=>z (c.nil_iff.mpr w)) _ (I.hok.fresh (O9 _))⟩;exact⟨by rw[Pn];exact f,_,r1.append c,IsTup.new _ _⟩
end
noncomputable def ixN(n:Nat)(i:Int):Option Nat:=if 0<=i then(if i<n then on i.toNat else OR)else if -(n:Int)<=i then on (i+n).toNat else OR
def atI{α:Type}(xs:List α)(i:Int):Option α:=(ixN xs.length i).bind λj=>xs[j]?
theorem wy(h:ixN n i=on j):seqIndex? i n=on j/\j<n/\-(n:Int)<=i/\i<n:=by
 unfold ixN at h;by_cases b:0<=i
 ·rw[O8 b]at h
  by_cases a:i<n
  ·rw[O8 a]at h
   have e:i.toNat=j:=PR h;exact⟨by rw[seqIndex_of b a,e],by omega,by omega,a⟩
  ·rw[O3 a]at h;cases h
 ·rw[O3 b]at h
  by_cases a:-(n:Int)<=i
  ·rw[O8 a]at h
   have e:(i+n).toNat=j:=PR h;exact⟨by rw[YW (by omega) a,e],by omega,a,by omega⟩
  ·rw[O3 a]at h;cases h
theorem wV{α:Type}{xs:List α}{i:Int}{v:α}(h:atI xs i=on v):∃j,seqIndex? i xs.length=on j/\xs[j]?=on v/\j<xs.length/\-(xs.length:Int)<=i/\i<xs.length:=by
 unfold atI at h;cases e:ixN xs.length i with
 |none=>rw[e]at h;cases h
 |some j=>
  rw[e]at h;obtain⟨a,b,c,d⟩:=wy e;exact⟨j,a,h,b,c,d⟩
theorem K3{α:Type}{xs:List α}{j:Nat}{v:α}(h:xs[j]?=on v):atI xs (j:Int)=on v:=by
 have a:j<xs.length:=(Pc.mp h).1;have e:ixN xs.length (j:Int)=on j:=by
  unfold ixN;rw[O8 (by omega),O8 (by omega)];simp
 unfold atI;rw[e];exact h
def wY(b:Expr):Prop:=∀o i,subscripted b OW o i=operate [o,i] (getItem o i)
def IxR(X:Cx)(r:R2):Prop:=
 ∀(c a:Expr) (b:List (OZ×PP)) (s:O7) (d:St) (H:Hp) (x y:V) (v u:OX) (Q:VK),Inv X b d H s->aG x v->aG y u->r x y H Q->
  subscripted a OW v u=operate [v,u] (getItem v u)->Pf (Py X.prog X.w) X.A (Yk c a v u) (EP X b d Q) X.xe s
def MtR(X:Cx)(c:String)(r:V->List V->Hp->VK->Prop):Prop:=
 ∀(a:List (OZ×PP)) (s:O7) (b:St) (H:Hp) (x:V) (xs:List V) (v:OX) (us:List OX) (Q:VK),Inv X a b H s->aG x v->ao xs us->r x xs H Q->
  Pf (Py X.prog X.w) X.A (UM (.builtin c) (v::us)) (EP X a b Q) X.xe s
section
variable{X:Cx}{a b:Expr}{ta tb:TE}{pos:Tz}
theorem IxR.or(h:IxR X r)(h':IxR X r'):IxR X (λx y H Q=>r x y H Q\/r' x y H Q):=by
 intro c d e s f H x y v u Q I g i q hs;rcases q with q|q
 ·exact h c d e s f H x y v u Q I g i q hs
 ·exact h' c d e s f H x y v u Q I g i q hs
theorem gr(d:IxR X r)(ha:PE X a ta)(e:PE X b tb)(hs:wY b):PE X (.Subscript a b pos) (tOp r ta tb):=by
 intro c s f H Q I h;exact Subscript_ (yq ha e I h λv u g x y i j k l q=>d a b c g f i x y v u Q j k l q (hs _ _))
def xw(K:Po):R2:=λx y H Q=>∃p xs i v,x= .ref p/\y= .int i/\SqL K H p xs/\atI xs i=on v/\Q v H
def CQ(K:Po):R2:=λx y H Q=>∃p xs i v,x= .ref p/\y= .int i/\SqT K H p xs/\atI xs i=on v/\Q v H
theorem dR:IxR X (xw X.K):=by
 intro f g c s m H x y v u Q I A B h hs;obtain⟨p,xs,i,z,rfl,rfl,C,F,q⟩:=h;cases A;obtain⟨t,rfl⟩:=B;obtain⟨its,r,pl,P⟩:=I.list C;obtain⟨j,e,J,R,L,N⟩:=wV F;obtain⟨w,n,k⟩:=r.get J;have O:=r.length;have hn:=lL;have d:EP X c m Q w s:=⟨z,H,I,k,q⟩;by_cases o:0<=i
 ·have l:i.toNat=j:=by
   rw[seqIndex_of o N]at e;exact PR e
  exact item_listR pl.isList o (by omega) (by rw[l];simpa using n) d hs
 ·have l:(i+(its.toArray.size:Int)).toNat=j:=by
   rw[YW (by omega) L]at e;rw[Ps,←O];exact PR e
  exact Vw (x:=w) pl.isList.typeIs slot_list_getitem.lookup
   (wpAny_getItem_list_neg (Q:=λr s'=>r=w/\EP X c m Q r s') pl.isList (by omega) (by rw[Ps]<;>omega) (by omega) (by rw[l];simpa using n) ⟨rfl,d⟩) hs
theorem Mt:IxR X (CQ X.K):=by
 intro d e c s k H x y v u Q I l m h hs;obtain⟨p,xs,i,z,rfl,rfl,n,o,q⟩:=h;cases l;obtain⟨t,rfl⟩:=m;obtain⟨its,r,pl,J⟩:=I.tuple n;obtain⟨j,A,B,L,N,O⟩:=wV o;obtain⟨w,C,f⟩:=r.get B;have F:=r.length;have hn:=lL;have g:EP X c k Q w s:=⟨z,H,I,f,q⟩;exact Vw (x:=w) pl.typeIs slot_tuple_getitem.lookup
  (getItem_tuple (j:=j) (Q:=λr s'=>r=w/\EP X c k Q r s') pl (by omega) (by omega) (by rw[Ps,←F];exact A) (by simpa using C) ⟨rfl,g⟩) hs
theorem xJ(its:List OX)(n j:Nat)(u:OX):Q2 (·.setIfInBounds j u) {cls:= .type "list",data:= .seq its.toArray n}={cls:= .type "list",data:= .seq (its.set j u).toArray n}:=by
 simp[Q2]
theorem Inv.lst{s:O7}{xs:List V}(I:Inv X pins σ H s)(h:H p=on (.lst xs)):
  ∃(its:List OX) (n:Nat),ao xs its/\s.heap.get? p=on {cls:= .type "list",data:= .seq its.toArray n}/\xs.length<=Pe:=by
 obtain⟨z,its,n,r,e⟩:=I.hok p _ h;exact⟨its,n,r,e,z⟩
theorem Inv.lstUpd{s:O7}{xs ys:List V}{its its':List OX}(I:Inv X pins σ H s)(h:H p=on (.lst xs))
  (d:s.heap.get? p=on {cls:= .type "list",data:= .seq its.toArray n}) (c:f {cls:= .type "list",data:= .seq its.toArray n}={cls:= .type "list",data:= .seq its'.toArray n'}) (r:ao ys its') (g:ys.length<=Pe) (t:Nat):
  Inv X pins σ (upd H p (.lst ys)) {s with heap:=s.heap.update p f,toks:=t}:=by
 have e:(s.heap.update p f).get? p=on {cls:= .type "list",data:= .seq its'.toArray n'}:=by
  rw[Rj f d (by rw[c]<;>rfl),c]
 refine I.write (x:=p) (e:=p) (by rw[h];trivial) (.inl rfl) (λb u i q=>(Tp _ _ (Ne.symm i)).trans q) ⟨_,e⟩ ?_;exact⟨g,its',n',r,e⟩
def IF:V->V->V->Hp->(Hp->Prop)->Prop:=λo i v H Q=>∃p xs k j,o= .ref p/\i= .int k/\H p=on (.lst xs)/\ixN xs.length k=on j/\Q (upd H p (.lst (xs.set j v)))
theorem gf:NM X IF:=by
 intro c s B H o i v O P u Q I C F J h;obtain⟨p,xs,k,j,rfl,rfl,l,L,q⟩:=h;cases C;obtain⟨t,rfl⟩:=F;obtain⟨its,n,r,e,N⟩:=I.lst l;obtain⟨d,R,m,w⟩:=wy L;have f:=r.length;have hn:=lL;have y:Inv X c B (upd H p (.lst (xs.set j v))) {s with heap:=s.heap.update p (Q2 (·.setIfInBounds j u))}:=
  I.lstUpd l e (xJ its n j u) (r.set J j) (by rw[Qi];exact N) s.toks
 by_cases A:0<=k
 ·have g:k.toNat=j:=by
   rw[seqIndex_of A w]at d;exact PR d
  exact PySem.W.ki_setAt e A (by omega) (by rw[Ps,←f];exact w) (by rw[g];exact⟨_,y,q⟩)
 ·have g:(k+(its.toArray.size:Int)).toNat=j:=by
   rw[YW (by omega) m]at d;rw[Ps,←f];exact PR d
  exact PySem.W.ki_setBack e (by omega) (by rw[Ps,←f];exact m) (by omega) (by rw[g];exact⟨_,y,q⟩)
theorem tU(lo c:Option Int)(n:Nat):(SY lo c OR n).1=((HT.sIx n 0 lo:Nat):Int)/\(SY lo c OR n).2.1=((HT.sIx n n c:Nat):Int)/\(SY lo c OR n).2.2=1:=by
 refine⟨?_,?_,rfl⟩
 ·cases lo with
  |none=>simp[SY,HT.sIx]
  |some i=>
   simp only[SY,HT.sIx,Yt,show(1:Int)>0 by decide,Qb];by_cases h:i<0
   ·simp only[h,Qb]<;>omega
   ·simp only[h,Qe]<;>omega
 ·cases c with
  |none=>simp[SY,HT.sIx]
  |some i=>
   simp only[SY,HT.sIx,Yt,show(1:Int)>0 by decide,Qb];by_cases h:i<0
   ·simp only[h,Qb]<;>omega
   ·simp only[h,Qe]<;>omega
theorem se(its:List OX)(lo c:Option Int):YJ its.toArray lo c OR=((its.drop (HT.sIx its.length 0 lo)).take (HT.sIx its.length its.length c-HT.sIx its.length 0 lo)).toArray:=by
 obtain⟨d,e,f⟩:=tU lo c its.toArray.size;unfold YJ;rw[d,e,f];simp only[sliceRange_one,pick_run,Ps]<;>rfl
def rSlL(K:Po):V->Option Int->Option Int->Hp->VK->Prop:=λx lo c H Q=>∃a xs,x= .ref a/\SqL K H a xs/\∀p,H p=OR->Q (.ref p) (upd H p (.lst (lV xs lo c)))
theorem vQ:SlR X (rSlL X.K):=by
 intro e s l H x v m n lo d p Q I g hs pl i h;obtain⟨a,xs,rfl,j,q⟩:=h;cases g;obtain⟨its,r,f,k⟩:=I.list j;have c:=r.length;refine⟨"list",_,slot_list_getitem.lookup,f.isList.typeIs,?_⟩;refine Yl f.isList hs pl i .none (by simp) ?_ (by rw[Ps]<;>omega)
 rw[se,←c];refine⟨.ref s.heap.objs.size,_,I.laid (t':=s.toks) (o:= .lst (lV xs lo d)) (λb t q=>OU _ q) (O9 _) ?_,rfl,q _ (I.hok.fresh (O9 _))⟩;exact⟨Px (vx xs lo d) k,_,0,(r.drop (HT.sIx xs.length 0 lo)).take (HT.sIx xs.length xs.length d-HT.sIx xs.length 0 lo),Pl _ rfl⟩
noncomputable def gu:V->Bool
 | .non=>OV
 | .bl _=>OV
 | .int _=>OV
 | .str _=>OV
 |_=>OW
noncomputable def eqV:V->V->Bool
 | .non,.non=>OV
 | .bl a,.bl b=>a==b
 | .bl a,.int b=>(if a then 1 else 0)==b
 | .int a,.bl b=>a==(if b then 1 else 0)
 | .int a,.int b=>a==b
 | .str a,.str b=>a==b
 |_,_=>OW
theorem MH(d:aG y u)(c:aG x v)(f:gu y=OV)(e:gu x=OV):SeqAt.EqAt A s u v (eqV y x):=by
 cases y with
 |non=>
  cases d;cases x with
  |non=>cases c;exact SeqAt.EqAt.same _
  |bl b=>cases c;exact SeqAt.EqAt.none_bool b
  |int b=>obtain⟨t,rfl⟩:=c;exact SeqAt.EqAt.none_int b t
  |str b=>obtain⟨t,rfl⟩:=c;exact SeqAt.EqAt.none_str b t
  |_=>exact PF (show OW=OV from e) Pa
 |bl a=>
  cases d;cases x with
  |non=>cases c;exact SeqAt.EqAt.bool_none a
  |bl b=>cases c;exact SeqAt.EqAt.bool_bool a b
  |int b=>obtain⟨t,rfl⟩:=c;exact SeqAt.EqAt.bool_int a b t
  |str b=>obtain⟨t,rfl⟩:=c;exact SeqAt.EqAt.bool_str a b t
  |_=>exact PF (show OW=OV from e) Pa
 |int a=>
  obtain⟨t',rfl⟩:=d;cases x with
  |non=>cases c;exact SeqAt.EqAt.int_none a t'
  |bl b=>cases c;exact SeqAt.EqAt.int_bool a t' b
  |int b=>obtain⟨t,rfl⟩:=c;exact SeqAt.EqAt.int_int a t' b t
  |str b=>obtain⟨t,rfl⟩:=c;exact SeqAt.EqAt.int_str a t' b t
  |_=>exact PF (show OW=OV from e) Pa
 |str a=>
  obtain⟨t',rfl⟩:=d;cases x with
  |non=>cases c;exact SeqAt.EqAt.str_none a t'
  |bl b=>cases c;exact SeqAt.EqAt.str_bool a t' b
  |int b=>obtain⟨t,rfl⟩:=c;exact SeqAt.EqAt.str_int a t' b t
  |str b=>obtain⟨t,rfl⟩:=c;exact SeqAt.EqAt.str_str a t' b t
  |_=>exact PF (show OW=OV from e) Pa
 |_=>exact PF (show OW=OV from f) Pa
def eqU(x:V)(u:OX):Bool:=match u with
 | .none=>eqV .non x
 | .bool b=>eqV (.bl b) x
 | .int i _=>eqV (.int i) x
 | .str z _=>eqV (.str z) x
 |_=>OW
theorem AS(r:aG y u)(f:gu y=OV):eqU x u=eqV y x:=by
 cases y with
 |non=>cases r;rfl
 |bl b=>cases r;rfl
 |int i=>obtain⟨t,rfl⟩:=r;rfl
 |str z=>obtain⟨t,rfl⟩:=r;rfl
 |_=>exact PF (show OW=OV from f) Pa
theorem jO:∀{xs:List V} {us:List OX},ao xs us->xs.all gu=OV->us.any (eqU x)=xs.any λy=>eqV y x
 |_,_,.nil,_=>rfl
 |y::xs,u::us,.cons r t,f=>by
  rw[UG,PU]at f;rw[TK,TK,AS r f.1,jO t f.2]
theorem iQ(c:aG x v)(d:gu x=OV):∀{xs:List V} {us:List OX},ao xs us->xs.all gu=OV->∀u∈us,SeqAt.EqAt A s u v (eqU x u)
 |_,_,.nil,_=>λu hu=>by cases hu
 |y::xs,u::us,.cons r t,f=>λe hu=>by
  rw[UG,PU]at f;rcases Pq.mp hu with rfl|hu
  ·rw[AS r f.1];exact MH r c f.1 d
  ·exact iQ c d t f.2 e hu
def inV(x:V)(xs:List V):Bool:=xs.any λy=>eqV y x
def rIn(K:Po)(neg:Bool):R2:=λx y H Q=>∃p xs,y= .ref p/\(SqL K H p xs\/SqT K H p xs)/\gu x=OV/\xs.all gu=OV/\Q (.bl (if neg then !inV x xs else inV x xs)) H
theorem zA:OpR X (QC .In) (rIn X.K OW):=by
 intro d s j H x y v u Q I e g h;obtain⟨p,xs,rfl,hq,f,fs,q⟩:=h;cases g;rcases hq with hq|hq
 ·obtain⟨its,r,pl,i⟩:=I.list hq
  refine SeqAt.in_listAt (eqU x) pl.isList (λw c=>iQ e f r fs w (by simpa using c)) ⟨.bl _,H,I,rfl,?_⟩;rw[show its.toArray.any (eqU x)=its.any (eqU x) by simp,jO r fs];exact q
 ·obtain⟨its,r,pl,i⟩:=I.tuple hq
  refine SeqAt.in_tupleAt (eqU x) pl (λw c=>iQ e f r fs w (by simpa using c)) ⟨.bl _,H,I,rfl,?_⟩;rw[show its.toArray.any (eqU x)=its.any (eqU x) by simp,jO r fs];exact q
theorem lC:OpR X (QC .NotIn) (rIn X.K OV):=by
 intro d s j H x y v u Q I e g h;obtain⟨p,xs,rfl,hq,f,fs,q⟩:=h;cases g;rcases hq with hq|hq
 ·obtain⟨its,r,pl,i⟩:=I.list hq
  refine SeqAt.notIn_listAt (eqU x) pl.isList (λw c=>iQ e f r fs w (by simpa using c)) ⟨.bl _,H,I,rfl,?_⟩;rw[show its.toArray.any (eqU x)=its.any (eqU x) by simp,jO r fs];exact q
 ·obtain⟨its,r,pl,i⟩:=I.tuple hq
  refine SeqAt.notIn_tupleAt (eqU x) pl (λw c=>iQ e f r fs w (by simpa using c)) ⟨.bl _,H,I,rfl,?_⟩;rw[show its.toArray.any (eqU x)=its.any (eqU x) by simp,jO r fs];exact q
theorem lY:cX X (.builtin "len") (λxs H Q=>∃p ys,xs=[.ref p]/\(SqL X.K H p ys\/SqT X.K H p ys)/\Q (.int ys.length) H):=by
 intro e s i H xs us Q I r h;obtain⟨p,ys,rfl,hq,q⟩:=h;obtain⟨u,rfl,f⟩:=jR r;cases f;have hn:=lL;rcases hq with hq|hq
 ·obtain⟨its,d,pl,g⟩:=I.list hq
  have c:=d.length;exact Calls.call_len_list pl.isList (by simp only[Ps]<;>omega) ⟨.int ys.length,H,I.tok _,⟨s.toks+1,by rw[Ps,c]⟩,q⟩
 ·obtain⟨its,d,pl,g⟩:=I.tuple hq
  have c:=d.length;exact len_tuple pl (by simp only[Ps]<;>omega) ⟨.int ys.length,H,I.tok _,⟨s.toks+1,by rw[Ps,c]⟩,q⟩
theorem bw:cX X (.type "list") (λxs H Q=>∃p ys,xs=[.ref p]/\(SqL X.K H p ys\/SqT X.K H p ys)/\∀l,H l=OR->Q (.ref l) (upd H l (.lst ys))):=by
 intro f s v H xs us Q I r h;obtain⟨p,ys,rfl,hq,q⟩:=h;obtain⟨u,rfl,y⟩:=jR r;cases y
 have g:∀(its:List OX),ao ys its->ys.length<=Pe->∀(h':P7) (c:Nat),(∀b t,s.heap.get? b=on t->h'.get? b=on t)->
   h'.get? s.heap.objs.size=on {cls:= .type "list",dict:=OR,data:= .seq its.toArray c,slots:=#[]}->EP X f v Q (.ref s.heap.objs.size) {s with heap:=h'}:=λits d i h' c kp e=>
  ⟨.ref s.heap.objs.size,_,I.laid (t':=s.toks) kp (O9 _) (show bu X.prog X.w _ h' _ (.lst ys)from⟨i,its,c,d,e⟩),rfl,q _ (I.hok.fresh (O9 _))⟩
 rcases hq with hq|hq
 ·obtain⟨its,d,pl,i⟩:=I.list hq
  have j:=d.length;obtain⟨o,k,m,n,hd⟩:=pl.isList;exact call_list_seq p (.inl rfl) k m hd (λh' c kp e=>g its d i h' c kp e) (by simp only[Ps]<;>omega)
 ·obtain⟨its,d,pl,i⟩:=I.tuple hq
  have j:=d.length;obtain⟨o,k,m,n,hd⟩:=pl;exact call_list_seq p (.inr rfl) k m hd (λh' c kp e=>g its d i h' c kp e) (by simp only[Ps]<;>omega)
theorem g0:cX X (.type "tuple") (λxs H Q=>∃p ys,xs=[.ref p]/\((SqL X.K H p ys/\∀l,H l=OR->Q (.ref l) (upd H l (.tup ys)))\/(SqT X.K H p ys/\Q (.ref p) H))):=by
 intro c s g H xs us Q I r h;obtain⟨p,ys,rfl,h⟩:=h;obtain⟨u,rfl,m⟩:=jR r;cases m;rcases h with⟨d,q⟩|⟨d,q⟩
 ·obtain⟨its,f,pl,i⟩:=I.list d
  have j:=f.length;refine call_tuple_list pl.isList (λh' kp=>?_) (by simp only[Ps]<;>omega)
  have k:Inv X c g H {s with heap:=h'}:=I.kept (t':=s.toks) kp;have n:Inv X c g (upd H h'.objs.size (.tup ys)) {s with heap:=h'.push {cls:= .type "tuple",data:= .seq its.toArray}}:=
   k.laid (t':=s.toks) (λb o e=>OU _ e) (O9 _) (show bu X.prog X.w _ _ _ (.tup ys)from⟨i,its,f,IsTup.new _ _⟩)
  exact⟨.ref h'.objs.size,_,n,rfl,q _ (k.hok.fresh (O9 _))⟩
 ·obtain⟨its,f,pl,i⟩:=I.tuple d
  exact call_tuple_same pl ⟨.ref p,H,I,rfl,q⟩
def tyV(K:Po)(T:String)(x:V)(H:Hp):Prop:=match x with
 | .str _=>T="str"
 | .int _=>T="int"
 | .ref p=>(T="list"/\∃xs,SqL K H p xs)\/(T="tuple"/\∃o,K.lookup p=on o/\o.cls= .type "tuple"/\o.dict=OR)
 |_=>False
theorem La{s:O7}(I:Inv X pins σ H s)(r:aG x v)(ty:tyV X.K T x H):
  s.TypeIs v T/\∀a,v= .ref a->∃d,s.heap.get? a=on d/\d.dict=OR:=by
 cases x with
 |str z=>
  obtain⟨t,rfl⟩:=r;cases(show T="str"from ty);exact⟨typeIs_str s z t,λ_ e=>nomatch e⟩
 |int i=>
  obtain⟨t,rfl⟩:=r;cases(show T="int"from ty);exact⟨typeIs_int s i t,λ_ e=>nomatch e⟩
 |ref p=>
  cases r;rcases ty with⟨rfl,xs,g⟩|⟨rfl,o,f,h,hd⟩
  ·obtain⟨its,_,pl,_⟩:=I.list g
   refine⟨pl.isList.typeIs,λa e=>?_⟩;cases e;obtain⟨o,n,e,c,hd,_⟩:=pl;exact⟨o,e,hd⟩
  ·refine⟨⟨o,I.kIn p o f,h⟩,λa e=>?_⟩
   cases e;exact⟨o,I.kIn _ o f,hd⟩
 |_=>exact QX ty
def tBM(K:Po)(T:String)(r:V->List V->Hp->VK->Prop)(to:TE)(t:TA):TE:=λc H Q=>to c H λx d=>tyV K T x d/\t c d λxs e=>r x xs e Q
variable{o e:Expr}{es:List Expr}{to:TE}{t:TA}{name:PY}{apos cpos:Tz}{T id:String}{r:V->List V->Hp->VK->Prop}
theorem sN(n:PlainAttrs T)(slot:Slot T name id)(j:YX (.builtin id)=Ro (.type "method_descriptor"))(hm:MtR X id r)(p:PE X o to)(ha:PA X (e::es) t)
  (f:Tl o name X.env (Qo o X.env)=Qo o X.env:=by rfl)
  (i:((Q5 cpos (Pb (e::es) X.env)).all (λx=>!x.1)&&(R1 cpos (Q6 [] X.env)).all (λx=>x.1.isSome)
   &&decide ((e::es).length+([]:List Uz).length+(if([]:List Uz).isEmpty then 0 else 1)<30))=OV:=by rfl)
  (g:(apos.endLine==cpos.line)=OV:=by rfl) (hs:Pb (e::es) X.env=(OW,Qo e X.env)::Pb es X.env:=by rfl) (d:(Q5 cpos (Pb es X.env)).any (·.1)=OW:=by rfl):
  PE X (.Call (.Attribute o name apos) (e::es) [] cpos) (tBM X.K T r to t):=by
 intro c s k H Q I h;refine YY f i g rfl (thn (p c s k H _ I h) λv q ⟨x,u,l,r1,ty,q1⟩=>?_);obtain⟨w,y⟩:=La l r1 ty;refine⟨T,id,n,slot,j,w,y,?_⟩;have m:=ha cpos c q k u _ l q1;rw[hs]at m⊢;refine UW (by show(OW||(Q5 cpos (Pb es X.env)).any (·.1))=OW;rw[d]<;>rfl) (Xh ?_)
 exact thn m λus A ⟨vs,B,C,F,q2⟩=>hm c A k B x vs v us Q C r1 F q2
end
def MtM(X:Cx)(c:String)(r:V->List V->Hp->VK->Prop):Prop:=
 ∀(a:List (OZ×PP)) (s:O7) (b:St) (H:Hp) (x:V) (xs:List V) (v:OX) (us:List OX) (Q:VK),Inv X a b H s->aG x v->ao xs us->r x xs H Q->
  Pf (Py X.prog X.w) X.A (UM (.builtin c) (v::us)) (EP X a b Q) X.xe s
theorem ao.one:∀{x:V} {us:List OX},ao [x] us->∃u,us=[u]/\aG x u
 |_,_,.cons r .nil=>⟨_,rfl,r⟩
theorem ao.reverse{xs:List V}{us:List OX}(h:ao xs us):ao xs.reverse us.reverse:=by
 induction h with
 |nil=>exact .nil
 |cons r t ih=>rw[UB,UB];exact ao.append ih (.cons r .nil)
theorem ao.rep(h:ao xs us):∀k:Nat,ao (Pi k xs).flatten (Pi k us).flatten
 |0=> .nil
 |k+1=>by
  rw[P6,P6,RV,RV];exact ao.append h (ao.rep h k)
theorem rM(its:List OX):∀(k:Nat) (acc:List OX),
  Yp (λa b=>a++b) acc.toArray (Pi k its.toArray)=(acc++(Pi k its).flatten).toArray
 |0,acc=>by simp
 |k+1,acc=>by
  have e:acc.toArray++its.toArray=(acc++its).toArray:=by simp
  have c:(acc++its)++(Pi k its).flatten=acc++(Pi (k+1) its).flatten:=by
   rw[P6,RV,Qv]
  rw[←c,←rM its k (acc++its),←e,P6,List.foldl_cons]
section
variable{X:Cx}{pins:List (OZ×PP)}{σ:St}{H:Hp}{s:O7}{l b:OZ}{xs ys zs:List V}
theorem Inv.lset{its its':List OX}(I:Inv X pins σ H s)(a:H l=on (.lst xs))
  (e:s.heap.get? l=on {cls:= .type "list",data:= .seq its.toArray n}) (c:f its.toArray=its'.toArray) (d:ao ys its') (g:ys.length<=Pe):
  Inv X pins σ (upd H l (.lst ys)) {s with heap:=s.heap.update l (Q2 f),toks:=t'}:=by
 have q:=PySem.IsL.update e f;rw[c]at q;refine I.write (x:=l) (e:=l) (by rw[a];exact trivial) (.inl rfl) (λj u h i=>(Tp s.heap (Q2 f) (Ne.symm h)).trans i) ⟨_,q⟩ ?_;exact⟨g,its',_,d,q⟩
theorem Inv.lnew{its:List OX}(I:Inv X pins σ H s)(a:ao ys its)(c:ys.length<=Pe):
  Inv X pins σ (upd H s.heap.objs.size (.lst ys)) {s with heap:=s.heap.push {cls:= .type "list",data:= .seq its.toArray},toks:=t'}:=
 I.laid (λ_ _ q=>OU _ q) (O9 _) ⟨c,its,0,a,Pl _ rfl⟩
theorem Inv.fresh(I:Inv X pins σ H s):H s.heap.objs.size=OR:=I.hok.fresh (O9 _)
theorem Inv.lstM(I:Inv X pins σ H s)(a:H l=on (.lst xs)):xs.length<=Pe/\∃(its:List OX) (n:Nat),ao xs its/\xs.length=its.length/\s.heap.get? l=on {cls:= .type "list",data:= .seq its.toArray n}:=by
 obtain⟨z,its,n,r,e⟩:=I.hok l _ a;exact⟨z,its,n,r,r.length,e⟩
theorem DJ(h:n<=Pe):TY n=OW:=by
 unfold TY;exact Qw (by omega)
end
section
variable{X:Cx}
def v3:V->List V->Hp->VK->Prop:=λx vs H Q=>∃l xs y,x= .ref l/\vs=[y]/\H l=on (.lst xs)/\xs.length<Pe/\Q .non (upd H l (.lst (xs++[y])))
theorem i9:MtM X "list.append" v3:=by
 intro a s g H x vs v us Q I c d h;obtain⟨l,xs,y,rfl,rfl,b,i,q⟩:=h;cases c;obtain⟨u,rfl,f⟩:=d.one;obtain⟨z,its,n,r,j,e⟩:=I.lstM b;refine Xs F.slot_list_append ⟨_,e,rfl⟩ F.entry_list_append (YL _ _) (YB l its.toArray n u (by rw[Ps];omega)) ⟨e,?_⟩;refine⟨.non,_,I.lset (its':=its++[u]) b e (by simp) (r.append (.cons f .nil)) ?_,rfl,q⟩;rw[Pn,Qg];omega
noncomputable def rCat:R2:=λx y H Q=>∃l b xs a,x= .ref l/\y= .ref b/\H l=on (.lst xs)/\H b=on (.lst a)/\xs.length+a.length<=Pe/\∀p,H p=OR->Q (.ref p) (upd H p (.lst (xs++a)))
theorem Ma:OpR X (R3 .Add) rCat:=by
 intro c s o H x y v u Q I d f h;obtain⟨l,b,xs,p,rfl,rfl,g,hB,t,q⟩:=h;cases d;cases f;obtain⟨z,its,n,r,w,e⟩:=I.lstM g;obtain⟨A,a,B,i,j,k⟩:=I.lstM hB;refine X8 e k ?_ (by rw[Ps,Ps];omega);have m:its.toArray++a.toArray=(its++a).toArray:=by simp
 rw[m];exact⟨.ref _,_,I.lnew (t':=s.toks) (r.append i) (by rw[Pn];omega),rfl,q _ I.fresh⟩
noncomputable def rRep:R2:=λx y H Q=>∃l k xs,x= .ref l/\y= .int k/\H l=on (.lst xs)/\-(2^63)<=k/\k<2^63/\xs.length*k.toNat<=Pe/\
 ∀p,H p=OR->Q (.ref p) (upd H p (.lst (Pi k.toNat xs).flatten))
theorem Kx{α:Type}(xs:List α)(k:Nat):(Pi k xs).flatten.length=k*xs.length:=by
 induction k with
 |zero=>simp
 |succ k ih=>rw[P6,RV,Pn,ih,Nat.succ_mul,Xk]
theorem L5:OpR X (R3 .Mult) rRep:=by
 intro o s O H x y v u Q I w A h;obtain⟨l,k,xs,rfl,rfl,B,C,J,p,q⟩:=h;cases w;obtain⟨t,rfl⟩:=A;obtain⟨z,its,n,r,L,e⟩:=I.lstM B;have c:its.toArray.size*k.toNat<=Pe:=by rw[Ps,←L];exact p
 have d:¬its.toArray.size*k.toNat>(2^63-1)/8:=by
  have:(Pe:Nat)<=(2^63-1)/8:=by decide
  omega
 have f:¬(!Builtin.List.listFitsIndex k)=OV:=by
  rw[fitsIndex_both C J];exact Pa
 have b:¬TY (its.toArray.size*k.toNat)=OV:=by
  rw[DJ c];exact Pa
 have g:Yp (λi j=>i++j) #[] (Pi (if its.toArray.isEmpty=OV then 0 else k.toNat) its.toArray)=(Pi k.toNat its).flatten.toArray:=by
  have N:∀m:Nat,Yp (λi j=>i++j) #[] (Pi m its.toArray)=(Pi m its).flatten.toArray:=λm=>by
   have:=rM its m [];rw[QH]at this;exact this
  rw[N];cases its with
  |nil=>simp
  |cons a P=>rw[O3 (by simp)]
 refine wpAny_binaryOp_repeat_ref (T:="list") (U:="int") (by decide) ⟨_,e,rfl⟩ (λs'=>typeIs_int s' k t) noFill_list_mul F.fills_int_mul F.slot_int_rmul repeat_list F.slot_int_index.lookup
  (Xs F.slot_int_rmul (typeIs_int s k t) F.entry_int_rmul (F.args_int_rmul_2 _ _) (int___rmul___int_list k t l its.toArray n)
   ⟨e,rfl,⟨_,e,rfl⟩,Xs F.slot_list_mul ⟨_,e,rfl⟩ F.entry_list_mul (F.args_list_mul_2 _ _) (AutoListH.list___mul___list_int_3 l its.toArray n k t f d b) ⟨e,?_⟩⟩)
 rw[g];exact⟨.ref _,_,I.lnew (t':=s.toks) (r.rep k.toNat) (by rw[Kx,Sf];exact p),rfl,q _ I.fresh⟩
end
section
variable{prog:Pt}{w:PV}{A:Qn}{E:OX->O7->Prop}{s:O7}
end
section
variable{X:Cx}
end
end L2
namespace Att
open PySem PySem.W PySem.Calls PyProof.Rows
theorem pJ:∀(ns:List Int) (vs:List OX),WellAll P h vs (ns.map WData.int)->Xb vs ns:=by
 intro ns
 induction ns with
 |nil=>
  intro vs w;rw[Q0]at w;cases w;exact .nil
 |cons n ns ih=>
  intro vs w;rw[Ph]at w;cases w with
  |cons a b=>
   cases a;exact .cons _ _ (ih _ b)
theorem y7{l:OpenLaw}(hn:l.most=on n){h:P7}
  (b:l.row.toRowW.claim.pre args=OV) (g:WellAll P h vals args):
  ∃a vs ns,vals=[Pj a]/\args=[WData.list (ns.map WData.int)]/\h.get? a=on {cls:= .type "list",data:= .seq vs.toArray}/\Xb vs ns/\ns.length<=n:=by
 have hsh:WShape.hasAll [] args [.list .int]=OV:=(pre_splitW b).1;have i:l.pre.holds [] {args:=args}=OV:=(pre_splitW b).2;obtain⟨d,r,rfl,j,k⟩:=hasAllW_cons hsh;obtain rfl:=hasAllW_nil k;obtain⟨xs,rfl,m⟩:=hasW_list j;obtain⟨ns,rfl⟩:=items_int m;have c:ns.length<=n:=by
  unfold OpenLaw.pre at i;have e:(WTm.not (.lt (.lit (.int (n:Int))) (.len (.arg 0)))).holds [] {args:=[.list (ns.map .int)]}=OV:=by
   have e:=(holds_andW i).1;rw[hn]at e;exact e
  have f:=condW_of e (w_not (w_lt w_lit (w_len_list (w_arg rfl))));rw[OS]at f;refine Nat.le_of_not_lt λq=>?_;have o:(n:Int)<((ns.length:Nat):Int):=by omega
  first
   |(rw[PH o]at f;exact PF f (by decide))
   |(simp at f;omega)
 cases g with
 |cons p t=>
  cases t;cases p with
  |list ho hall=>exact⟨_,_,ns,rfl,rfl,ho,pJ ns _ hall,c⟩
theorem zq(l:OpenLaw)(args:List WData):l.row.toRowW.claim.post args (.bool OV) args=OV:=
 postW_of (r:=l.row.toRowW) (X:=(OV==OV))
  (show WShape.has [] (.bool OV) .bool=OV by first|rfl|decide|simp[WShape.has,WShape.arms,WShape.armsAll])
  (show(WTm.eq .res (.lit (.bool OV))).value [] {args:=args,res:=on (.bool OV),after:=args}=on (.bool (OV==OV))from w_eq_bool (w_res rfl) w_lit) rfl
theorem attach_call{l:OpenLaw}{d:DefRec}
  (hn:l.most=on n) (k:d.params.defaults=[])
  (UM:∀(w:PV) (s₀ b:O7) (mg m:PY->Option OX) (g:OZ) (o:PP) (p cd c:OX) (a:OZ) (vs:List OX) (ns:List Int),
   Ground q loose [] XP w s₀ mg m b.heap->YP w b.heap->
   b.heap.get? g=on o->o.data= .func (docDef d.name d.params d.body d.scope p cd c)->b.heap.CodeRec cd d.name->mg d.name=on (.ref g)->
   b.heap.get? a=on {cls:= .type "list",data:= .seq vs.toArray}->Xb vs ns->ns.length<=n->b.gens=#[]->
   Sd (Py l.prog w) Wq (.call (.ref g) ⟨[.ref a],[]⟩) (λr s'=>r= .ok (.ret (.bool OV))/\OldK b.heap s'.heap/\s'.os=b.os/\Ux s'.gens) b):
  WalkO q loose XP YP l.row.toRowW d [] (λf vs=>Yh f vs):=by
 intro w s₀ b mg m G Y g o p cd c B C F hd t y u H args vals as h A I v J;obtain rfl:B= .none:=Dflts.none y k;obtain rfl:C= .none:=Dflts.noKw y;obtain⟨a,vs,ns,rfl,rfl,i,e,j⟩:=y7 hn h v;refine enter_call (Sv (UM w s₀ b mg m g o p cd c a vs ns G Y F (fd_plain hd) t u i e j H) λr s' L=>?_);obtain⟨rfl,N,O,P⟩:=L;exact⟨.inl ⟨.bool OV,.bool OV,[],rfl,λ_=>rfl,.bool OV,zq l _,λ_=>⟨Va,λ_ hm=>(nomatch hm)⟩⟩,N,O,P⟩
section
variable{prog:Pt}{w:PV}{A:Qn}{E:OX->O7->Prop}{s:O7}{K:Po}
end
end Att
namespace L2
open PySem PySem.Spec PyProof.Rows
theorem qY:∀{vs:List OX} {ns:List Int},Xb vs ns->ao (ns.map V.int) vs
 |_,_,.nil=> .nil
 |_,_,.cons n t h=> .cons ⟨t,rfl⟩ (qY h)
def HH(H:Hp):Prop:=∀b,H b=OR\/∃o xs,H b=on (.frz o (.lst xs))
theorem DZ{K:Po}{c:O7}{vs:List OX}{ns:List Int}
  (R:K.In c.heap) (p:c.heap.Ns Ru mg) (g:c.heap.Ns Xr mb) (I:∀x:PY,x≠"__name__"->mb x=Td x) (t:c.heap.NoLimit) (hg:c.gens=#[])
  (ha:c.heap.get? a=on {cls:= .type "list",data:= .seq vs.toArray}) (T:Xb vs ns) (U:ns.length<=Pe) (hr:Room k Wq)
  (F:∀base:P7,K.In base->base.Ns Ru mg->FnOk P w K mg base CX k fa fd [x] sp) (l:∀(s:O7) (u:OX),VP s fd ⟨[u],[]⟩ [(x,u)])
  (J:∀H:Hp,HH H->SqL K H a (ns.map V.int)->sp [.ref a] H (λv _=>v= .bl OV) λ_ _ _=>False)
  (L:∀H e s',CX [] H c (λ_ _ _=>False) e s'->False):
  Sd (Py P w) Wq (.call (.ref fa) ⟨[.ref a],[]⟩) (λr s'=>r= .ok (.ret (.bool OV))/\OldK c.heap s'.heap/\s'.os=c.os/\Ux s'.gens) c:=by
 have W:=qY T;have y:=T.length
 --from an abstract heap in which nothing but the script may be tracked
 have j:∀H:Hp,HH H->SqL K H a (ns.map V.int)->HOk P w H c.heap->(∀b,H b≠OR->b=a)->(H a≠OR->K.lookup a=OR)->
   Sd (Py P w) Wq (.call (.ref fa) ⟨[.ref a],[]⟩) (λr s'=>r= .ok (.ret (.bool OV))/\OldK c.heap s'.heap/\s'.os=c.os/\Ux s'.gens) c:=by
  intro H X hS hok Y hK;have f:∀{b:OZ} {o:PP},c.heap.get? b=on o->H b=OR->(ku c.heap H).get? b=on o:=λe n=>EN e n;have N:∀{b:OZ} {o:PP} {es:Array Ta} {ep:Nat},c.heap.get? b=on o->o.data= .dict es ep->H b=OR:=λ{b o es ep} e d=>by
   cases q:H b with
   |none=>rfl
   |some u=>
    have O:b=a:=Y b (by rw[q];simp);subst O;rw[ha]at e;cases e;have d':Data.seq vs.toArray _=Data.dict es ep:=d;cases d'
  have i:∀{b:OZ} {m:PY->Option OX},c.heap.Ns b m->(ku c.heap H).Ns b m:=λ{b m} ⟨o,es,ep,e,d,r⟩=>⟨o,es,ep,f e (N e d),d,r⟩;have A:K.In (ku c.heap H):=λb o e=>f (R b o e) (by
   cases q:H b with
   |none=>rfl
   |some u=>
    have O:b=a:=Y b (by rw[q];simp);subst O;rw[hK (by rw[q];simp)]at e;cases e)
  have hM:Mod K mg (ku c.heap H):=⟨A,i p,⟨mb,i g,I⟩,let ⟨mc,h1,h2⟩:=t;⟨mc,i h1,h2⟩⟩
  have e0:Env0 P w K mg (ku c.heap H) Wq [] c H:=⟨rfl,hM,λb o e=>Km e,Xm (AI _ _),trivial,λb g=>PF (show b∈([]:List OZ)from g) (by simp),hok,.of_eq hg⟩;refine Sv ((F _ A (i p)).run Wq [] c H ⟨[.ref a],[]⟩ [.ref a] [.ref a] _ _ hr e0 (l c (.ref a)) (.cons rfl .nil) (J H X hS)) λr s' h=>?_;cases r with
  |error e=>exact(L H e s' h).elim
  |ok fl=>
   cases fl with
   |next=>exact QX h
   |brk=>exact QX h
   |cont=>exact QX h
   |ret u=>
    obtain⟨v,H',os,bare,un,B,r',q⟩:=h;have q':v= .bl OV:=q;subst q';obtain rfl:u=UZ OV:=r';refine⟨rfl,OldK.of_keep λb o e=>?_,os,bare⟩;cases q:H b with
    |none=>exact un.keep b o e q (by intro z;exact PF (show b∈([]:List OZ)from z) (by simp)) (by simp)
    |some u=>
     rcases X b with z|⟨ob,xs,z⟩
     ·rw[q]at z;cases z
     ·have z2:=un.frzs b ob _ z
      obtain⟨Z,_⟩:=hok b _ z;obtain⟨e2,_⟩:=B b _ z2;rw[e]at Z;cases Z;exact e2
 cases Q:K.lookup a with
 |some o=>
  --the script is one of the module's own objects
  have e:=R a o Q;rw[ha]at e;cases e;refine j (λ_=>OR) (λ_=> .inl rfl) (.inr ⟨_,vs.toArray,_,Q,rfl,rfl,rfl,by rw[Ps,y];exact U,by simpa using W⟩) (λb u z=>by have C:(OR:Option HO)=on u:=z;cases C) (λb z=>PF rfl z) λz=>PF rfl z
 |none=>
  refine j (λb=>if b=a then on (.frz {cls:= .type "list",data:= .seq vs.toArray} (.lst (ns.map V.int)))else OR) (λb=>?_) (.inl (.inr ⟨{cls:= .type "list",data:= .seq vs.toArray},O8 rfl⟩)) (λb u z=>?_) (λb z=>?_) λ_=>Q
  ·by_cases g:b=a
   ·exact .inr ⟨_,_,O8 g⟩
   ·exact .inl (O3 g)
  ·by_cases g:b=a
   ·have C:=(O8 g).symm.trans z
    cases C;subst g;exact⟨ha,by rw[OS];exact U,vs,_,W,ha⟩
   ·have C:=(O3 g).symm.trans z
    cases C
  ·by_cases g:b=a
   ·exact g
   ·exact PF (O3 g) z
theorem walk_of{l:PySem.W.OpenLaw}{n k:Nat}{q:Pt}{loose:List PY}{XP:(PY->Option OX)->P7->Prop}{YP:PV->P7->Prop}{d:DefRec}{K:WL->Po}{CX:PV->CXT}{sp:PV->Sp}{x:PY}
  (hn:l.most=on n) (r:n<=Pe) (t:d.params.defaults=[]) (J:Room k Wq)
  (L:∀(w:PV) (h:P7),YP w h->(K w.params).In h)
  (F:∀(w:PV) (mg:PY->Option OX) (p:OZ) (h:P7),(K w.params).In h->h.Ns Ru mg->mg d.name=on (.ref p)->
   ∃B:PL,(∀(s:O7) (u:OX),VP s B ⟨[u],[]⟩ [(x,u)])/\
    ∀base:P7,(K w.params).In base->base.Ns Ru mg->FnOk l.prog w (K w.params) mg base (CX w) k p B [x] (sp w))
  (y:∀(w:PV) (H:Hp) (a:OZ) (ns:List Int),ns.length<=n->HH H->SqL (K w.params) H a (ns.map V.int)->sp w [.ref a] H (λv _=>v= .bl OV) λ_ _ _=>False)
  (A:∀(w:PV) (H:Hp) (s:O7) (e:OX) (s':O7),CX w [] H s (λ_ _ _=>False) e s'->False):
  PySem.W.WalkO q loose XP YP l.row.toRowW d [] (λf vs=>Yh f vs):=by
 refine Att.attach_call hn t λw s₀ j mg X p o Z cd N a vs ns G Y ho hd O C m i c P=>?_;have I:=L w _ Y;obtain⟨B,Q,hF⟩:=F w mg p _ I G.T.g C;exact DZ I G.T.g G.T.b G.T.builtins G.T.nolimit P m i (Px c r) J hF Q (λH R U=>y w H a ns c R U) λH e s'=>A w H j e s'
noncomputable def aB(s:QF)(j:Nat):QF:=match s with
 | .ClassDef _ _ _ body _ _ _ _ _ _ _=>body.getD j (.Pass ⟨0,0,0,0⟩)
 |_=> .Pass ⟨0,0,0,0⟩
noncomputable def iz(s:QF):Arguments:=match s with
 | .FunctionDef _ a _ _ _ _ _ _ _ _=>a
 |_=>{posonlyargs:=[],args:=[],vararg:=OR,kwonlyargs:=[],kw_defaults:=[],kwarg:=OR,defaults:=[]}
noncomputable def cw(s:QF):List QF:=match s with
 | .FunctionDef _ _ b _ _ _ _ _ _ _=>b
 |_=>[]
noncomputable def af(s:QF):Scope:=match s with
 | .FunctionDef _ _ _ _ _ _ sc _ _ _=>sc
 |_=>{kind:= .function,names:=[],isGenerator:=OW,isCoroutine:=OW}
abbrev E0:St->XK:=λ_ _ _ _=>False
structure Fun (K:Po) (x qual:PY) (st:QF) (f:OZ) (fd:PL):Prop where
 ex:∃(oc:OX) (od:Option OZ) (kV doc pm:OX) (an:Option OZ) (cdv ct:OX) (osl:Array (Option OX)),
  fd=Tj x qual (iz st) (cw st) (af st) .none kV doc pm an cdv ct/\K.lookup f=on ⟨oc,od,.func fd,osl⟩/\T3 K cdv qual=OV
 kp:UQ K (.ref f)=OV
section
variable{P:Pt}{w:PV}{K:Po}{mg:PY->Option OX}{base:P7}
end
theorem sT{A:Qn}(a:Room k A):A.units+1<UL:=Rw (Ys (by decide:1<=64) _) a.units
theorem rf(h:n<=1000):n<Pe:=Rw h (by decide)
section
variable{X:Cx}
theorem pv(i:Nat)(b:X.N[i]?=on x:=by rfl)(c:Vis X.env.scope x:=by first|exact RB rfl|exact S6 (RB rfl)|exact S6 (S6 rfl))(hd:(x==("__debug__":PY))=OW:=by decide)
  (a:(x==("__classdict__":PY))=OW:=by decide):PE X (.Name x pos) (ql i):=LS b c hd a
end
theorem iteT{A B:Prop}(h:A):if OV=OV then A else B:=by
 rw[O8 rfl];exact h
theorem ite2{c A B:Prop} [Decidable c](a:c->A)(b:¬c->B):if c then A else B:=by
 by_cases h:c
 ·rw[O8 h]
  exact a h
 ·rw[O3 h]
  exact b h
def bE(H a:Hp):Prop:=∀b o,H b=on o->a b=on o
theorem bE.refl(H:Hp):bE H H:=λ_ _ h=>h
theorem bE.trans(a:bE H H1)(b:bE H1 H2):bE H H2:=λc o h=>b c o (a c o h)
theorem bE.free(e:bE H H')(h:H' l=Option.none):H l=Option.none:=by
 cases q:H l with
 |none=>rfl
 |some o=>
  rw[e l o q]at h;cases h
theorem de:∀(names:List (PY×SV)) (n:Nat) (acc:List (PY×OZ)),Q3 n names acc=Q3 n names []++acc
 |[],_,_=>rfl
 |(x,k)::r,n,acc=>by
  unfold Q3;split
  ·rw[de r (n+1) ((x,n)::acc),de r (n+1) [(x,n)],Qv]
   rfl
  ·exact de r n acc
theorem gW:∀{names:List (PY×SV)} {n:Nat} {x:PY} {c:OZ},(x,c)∈Q3 n names []->(x,Wj)∈names
 |[],_,_,_,h=>by cases h
 |(y,k)::r,n,x,c,h=>by
  unfold Q3 at h;split at h
  ·rename_i a
   rw[de]at h;rcases QY.mp h with h|h
   ·exact OY _ (gW h)
   ·obtain⟨rfl,_⟩:x=y/\c=n:=by simpa using h
    obtain rfl:k= .cell:=by simpa using a
    exact O5
  ·exact OY _ (gW h)
noncomputable def c5(cells:List (PY×OZ)):List (PY×SV)->List (PY×OZ)->List (PY×OZ)
 |[],acc=>acc
 |(x,k)::r,acc=>if k== .free then c5 cells r ((x,(cells.lookup x).getD 0)::acc)else c5 cells r acc
theorem mem_cloF{cells:List (PY×OZ)}:∀{names:List (PY×SV)} {acc:List (PY×OZ)} {x:PY} {c:OZ},(x,c)∈c5 cells names acc->(x,c)∈acc\/((x,RU)∈names/\c=(cells.lookup x).getD 0)
 |[],_,_,_,h=> .inl h
 |(y,k)::r,acc,x,c,h=>by
  unfold c5 at h;split at h
  ·rename_i a
   obtain rfl:k= .free:=by simpa using a
   rcases mem_cloF h with h|⟨h,e⟩
   ·rcases Pq.mp h with h|h
    ·cases h
     exact .inr ⟨O5,rfl⟩
    ·exact .inl h
   ·exact .inr ⟨OY _ h,e⟩
  ·rcases mem_cloF h with h|⟨h,e⟩
   ·exact .inl h
   ·exact .inr ⟨OY _ h,e⟩
theorem oj:∀{names:List (PY×SV)} {acc:List (PY×OZ)} {p:PY×OZ},p∈acc->p∈c5 cells names acc
 |[],_,_,h=>h
 |(y,k)::r,acc,p,h=>by
  unfold c5;split
  ·exact oj (OY _ h)
  ·exact oj h
theorem oi{cells:List (PY×OZ)}:∀{names:List (PY×SV)} {acc:List (PY×OZ)} {x:PY},(x,RU)∈names->(x,(cells.lookup x).getD 0)∈c5 cells names acc
 |[],_,_,h=>by cases h
 |(y,k)::r,acc,x,h=>by
  unfold c5;rcases Pq.mp h with h|h
  ·cases h
   rw[O8 (by decide)];exact oj O5
  ·split
   ·exact oi h
   ·exact oi h
theorem kM{α:Type}:∀{l:List (PY×α)} {x:PY} {c:α},(x,c)∈l->∃d,l.lookup x=on d
 |[],_,_,h=>by cases h
 |(y,d)::r,x,c,h=>by
  rw[SL];cases a:x==y with
  |true=>exact⟨d,rfl⟩
  |false=>
   rcases Pq.mp h with h|h
   ·cases h
    simp at a
   ·exact kM h
theorem cN{α:Type}:∀{l:List (PY×α)} {x:PY} {c:α},(l.map (·.1)).Nodup->(x,c)∈l->l.lookup x=on c
 |[],_,_,_,h=>by cases h
 |(y,d)::r,x,c,nd,h=>by
  rw[Ph]at nd;obtain⟨a,b⟩:=Qj.mp nd;rw[SL];rcases Pq.mp h with h|h
  ·cases h
   simp
  ·have:x≠y:=λe=>a (e▸List.mem_map_of_mem (f:=(·.1)) h)
   rw[beq_eq_false_iff_ne.mpr this];exact cN b h
theorem qR{env:Wc}(f:PY×SV->List (PY×OZ)->Sem (ForInStep (List (PY×OZ))))
  (g:∀name kind cs,f (name,kind) cs=if kind== .free then(do let a ←cellOf env name;Ro (.yield ((name,a)::cs)))else Ro (.yield cs)):
  ∀(names:List (PY×SV)) (acc:List (PY×OZ)),(∀y∈names,y.2= .free->∃c,env.cells.lookup y.1=on c)->forIn names acc f=Ro (c5 env.cells names acc)
 |[],_,_=>by rw[SB];rfl
 |(x,k)::r,acc,h=>by
  rw[Si,g];unfold c5;have i:∀y∈r,y.2= .free->∃c,env.cells.lookup y.1=on c:=λy j=>h y (OY _ j);by_cases b:(k==RU)=OV
  ·rw[O8 b,O8 b]
   obtain⟨c,l⟩:=h (x,k) O5 (by simpa using b);have d:env.cells.lookup x=on c:=l;have e:cellOf env x=Ro c:=by unfold cellOf;rw[d]
   rw[e,d];simp only[pure_bind];exact qR f g r _ i
  ·rw[O3 b,O3 b]
   simp only[pure_bind];exact qR f g r _ i
theorem yi{scope:Scope}{env:Wc}(h:∀y∈scope.names,y.2= .free->∃c,env.cells.lookup y.1=on c):closureFor scope env=Ro (c5 env.cells scope.names []):=by
 simp only[closureFor];rw[qR (env:=env) _ (λname kind cs=>by cases a:kind==RU<;>simp[a]) scope.names [] h]
 rfl
theorem EW{M:WV}{E:OX->O7->Prop}{s:O7}{scope:Scope}
  (f:∀h':P7,h'.Ns s.heap.objs.size (λ_=>OR)->(∀b o,s.heap.get? b=on o->h'.get? b=on o)->
   (∀n c,(n,c)∈Q3 (s.heap.objs.size+1) scope.names []->h'.IsCell c OR/\s.heap.objs.size+1<=c)->
   ((Q3 (s.heap.objs.size+1) scope.names []).Pairwise λx y=>x.2≠y.2)->
   Q (newEnv scope s.heap.objs.size globals (Q3 (s.heap.objs.size+1) scope.names cl) qual OR .none (on env) Xr) {s with heap:=h'}):
  Pf M A (Xz scope globals cl [] qual OR .none (on env)) Q E s:=by
 simp only[Xz,Option.isSome_some,Qb];refine My (wpAny_alloc ?_);refine My (wpAny_layCells _ (λname kind cells=>by cases a:kind==Wj<;>simp[a]) _ _ _ _ ?_)
 have ok:=cellsFrom_ok scope.names (s.heap.push {cls:= .type "dict",data:= .dict #[]}) (s.heap.objs.size+1) [] ⟨λ_ _ hm=>(nomatch hm),Va⟩ (by rw[QD];exact O9 _);rw[QD]at ok;rw[show({s with heap:=s.heap.push {cls:= .type "dict",data:= .dict #[]}}:O7).heap.objs.size=s.heap.objs.size+1 from QD ..];have d:=f (pushCells (s.heap.push {cls:= .type "dict",data:= .dict #[]}) scope.names) ((Heap.Ns.new s.heap (.type "dict")).keeps (pushCells_keeps _ _)) (λb o e=>pushCells_keeps _ _ b o (OU _ e)) ok.empty ok.apart;exact My (OT (OT d))
noncomputable abbrev aC(X:Cx)(a:List PY)(scope:Scope)(cl:List (PY×OZ))(C:OZ)(b:List OZ)(s:O7)(H:Hp):Cx:=
 {X with N:=a,s₀:=s,H₀:=H,env:=compEnvC scope cl C X.env,outer:=X.stack,stack:=X.stack,ex:=b,fn:=λx=>scope.names.lookup x !=on .free,pn:=[],xe:=λ_ _=>False}
theorem mem_relabel{scope:Scope}{y:PY×SV}(h:y∈(relabel scope env).names):y∈scope.names\/(y.2= .cell/\(y.1,RU)∈scope.names):=by
 obtain⟨⟨n,k⟩,hm,e⟩:=Pp.mp h
 dsimp only at e
 split at e
 ·rename_i a
  cases e;simp only[PU,R5]at a;obtain⟨⟨a,_⟩,_⟩:=a;subst a;exact .inr ⟨rfl,hm⟩
 ·cases e
  exact .inl hm
theorem EK{X:Cx}{P:St}{s:O7}{Nc vars:List PY}{caps:List Nat}{scope:Scope}{h':P7}(I:Inv X pins P H s)
  (hk:scope.kind= .function) (g:(scope.names.map (·.1)).Nodup) (f:∀y∈scope.names,y.2= .free->X.env.kindOf y.1=on .cell\/X.env.kindOf y.1=on .free)
  (Q:Nc=vars++caps.map (λj=>X.N.getD j Ss)) (R:∀j∈caps,j<X.N.length/\scope.names.lookup (X.N.getD j Ss)=on .free)
  (C:∀b∈fp,eU X pins H b) (T:∀b∈fp,∃o,s.heap.get? b=on o) (ns:h'.Ns s.heap.objs.size λ_=>OR) (keep:∀b o,s.heap.get? b=on o->h'.get? b=on o)
  (L:∀n c,(n,c)∈Q3 (s.heap.objs.size+1) scope.names []->h'.IsCell c OR/\s.heap.objs.size+1<=c) (ca:(Q3 (s.heap.objs.size+1) scope.names []).Pairwise λx y=>x.2≠y.2):
  Inv (aC X Nc scope (Q3 (s.heap.objs.size+1) scope.names (c5 X.env.cells scope.names [])) s.heap.objs.size fp s H) [] (Pi vars.length OR++caps.map (λj=>P.getD j OR)) H {s with heap:=h'}:=by
 --the cells
 have old:∀{x:PY} {c:OZ},(x,c)∈c5 X.env.cells scope.names []->X.env.cells.lookup x=on c/\(x,RU)∈scope.names:=λ{x c} h=>by
  rcases mem_cloF h with h|⟨hm,e⟩
  ·cases h
  ·obtain⟨d,hd⟩:=I.ok.has x (f _ hm rfl)
   rw[hd]at e;exact⟨by rw[hd,e];rfl,hm⟩
 have a:∀{x:PY} {c:OZ},(Q3 (s.heap.objs.size+1) scope.names (c5 X.env.cells scope.names [])).lookup x=on c->
   (x,c)∈Q3 (s.heap.objs.size+1) scope.names []\/(X.env.cells.lookup x=on c/\(x,RU)∈scope.names):=λ{x c} h=>by
  have h:=QG h;rw[de]at h;rcases QY.mp h with h|h
  ·exact .inl h
  ·exact .inr (old h)
 have freeC:∀{x:PY},(x,RU)∈scope.names->∃c,X.env.cells.lookup x=on c/\(Q3 (s.heap.objs.size+1) scope.names (c5 X.env.cells scope.names [])).lookup x=on c:=λ{x} hm=>by
  obtain⟨d,hd⟩:=I.ok.has x (f _ hm rfl);have e:=oi (cells:=X.env.cells) (acc:=[]) hm;obtain⟨c,O⟩:=kM (l:=Q3 (s.heap.objs.size+1) scope.names (c5 X.env.cells scope.names [])) (x:=x) (c:=(X.env.cells.lookup x).getD 0) (by rw[de];exact P8 _ e);rcases a O with z|⟨z,_⟩
  ·have A:=cN g (gW z)
   rw[cN g hm]at A;cases A
  ·exact⟨c,z,O⟩
 have k:∀{x:PY} {c:OZ},X.env.cells.lookup x=on c->c<s.heap.objs.size:=λ{x c} h=>let ⟨v,q⟩:=I.cell x c h;q.lt
 have nofr:H s.heap.objs.size=OR:=I.hok.fresh (O9 _);have U:∀b∈frs X.stack,b∈X.env.locals::X.fs:=I.stkSub;refine⟨⟨I.ok.mod,hk,I.ok.glob,I.ok.blt,O9 _,λx y c h1 h2=>?_,λx hx=>?_,λx c hf h=>?_,I.ok.hd,I.ok.frames,.inl rfl,λb F=>⟨?_,λx c h e=>?_⟩,I.bs,Px I.ok.bsz I.sz,λb o e F=>?_,λb F hf=>?_,I.stack,I.stkFree⟩,
  rfl,I.bare,Un.kept keep,⟨_,ns,λi x v e1 w e3=>?_⟩,λx c h=>?_,nofr,λx c h=>?_,λp hp=>PF hp (by simp),I.hok.kept keep,?_⟩
 ·rcases a h1 with A|⟨A,_⟩<;>rcases a h2 with W|⟨W,_⟩
  ·exact name_of_addr ca A W
  ·exact PF (PM (k W) (Px (Tk _) (L _ _ A).2)) (Qk _)
  ·exact PF (PM (k A) (Px (Tk _) (L _ _ W).2)) (Qk _)
  ·exact I.ok.inj _ _ _ A W
 ·--has
  have hx:(relabel scope X.env).names.lookup x=on .cell\/(relabel scope X.env).names.lookup x=on .free:=hx;have hm:(x,Wj)∈scope.names\/(x,RU)∈scope.names:=by
   rcases hx with hx|hx
   ·rcases mem_relabel (QG hx)with z|⟨_,z⟩
    ·exact .inl z
    ·exact .inr z
   ·rcases mem_relabel (QG hx)with z|⟨_,z⟩
    ·exact .inr z
    ·exact .inr z
  rcases hm with hm|hm
  ·have q:=Xu scope.names (s.heap.objs.size+1) (c5 X.env.cells scope.names []) (x:=x) (.inl (cN g hm))
   exact WD.mp q
  ·obtain⟨c,_,O⟩:=freeC hm
   exact⟨c,O⟩
 ·--cab
  rcases a h with z|⟨_,z⟩
  ·exact Px (Tk _) (L _ _ z).2
  ·have z':(scope.names.lookup x !=on .free)=OV:=hf
   rw[cN g z]at z';exact PF z' (by decide)
 ·obtain⟨o,e⟩:=T b F
  exact Qa (Pz e)
 ·rcases a h with z|⟨z,_⟩
  ·obtain⟨o,e'⟩:=T b F
   subst e;exact PF (PM (Pz e') (Px (Tk _) (L _ _ z).2)) (Qk _)
  ·exact(C b F).2.2.2.2.1 x c z e
 ·obtain⟨_,_,_,h4,_⟩:=C b F
  rcases h4 with z|z
  ·exact I.ok.noex b o e z
  ·exact PF (PM (Pz (I.ok.bs b o e).1) z) (Qk _)
 ·obtain⟨_,h2,h3,_⟩:=C b F
  rcases Pq.mp (U b hf)with z|z
  ·exact h2 z
  ·exact h3 z
 ·--the names' values
  have hi:¬i<vars.length:=λhi=>by
   rw[SO (by simpa using hi),R4]at w;split at w<;>cases w
  have J:(vars++caps.map (λj=>X.N.getD j Ss))[i]?=on x:=by rw[←Q];exact e1
  rw[Re (by omega)]at J;rw[Re (by simpa using hi)]at w;rw[QV]at w;cases q:caps[i-vars.length]? with
  |none=>rw[O4,q]at w;cases w
  |some j=>
   rw[O4,q]at J w;have B:X.N.getD j Ss=x:=PR J;have Y:P.getD j OR=on v:=PR w;obtain⟨hj,t⟩:=R j (PD q);rw[B]at t;obtain⟨c,O,hc'⟩:=freeC (QG t);have hNj:X.N[j]?=on x:=by
    rw[←B,O1,O0 hj];rfl
   have Z:P[j]?=on (on v):=by
    have hl:j<P.length:=by rw[I.len];exact hj
    rw[O1,O0 hl]at Y;rw[O0 hl];exact Qr on Y
   have hkx:=f _ (QG t) rfl;obtain⟨m,hn,hl⟩:=I.loc;obtain⟨u,r,l⟩:=hl j x v hNj Z (hkx.elim (λz=> .inr (.inl z)) λz=> .inr (.inr z));refine⟨u,r,.inr ⟨?_,c,hc',?_⟩⟩
   ·rcases e3 with z|z|z
    ·exfalso
     rcases mem_relabel (QG z)with y|⟨y,_⟩
     ·rw[cN g y]at t;cases t
     ·cases y
    ·exact .inl z
    ·exact .inr z
   ·rcases l with⟨l,_⟩|⟨_,c',e,z⟩
    ·exfalso
     rcases hkx with y|y
     ·have y':X.env.kindOf x=on .cell:=y
      rw[l]at y';cases y'
     ·have y':X.env.kindOf x=on .free:=y
      rw[l]at y';cases y'
    ·rw[O]at e
     cases e;exact z.keeps keep
 ·rcases a h with z|⟨z,_⟩
  ·exact⟨OR,(L _ _ z).1⟩
  ·obtain⟨v,q⟩:=I.cell x c z
   exact⟨v,q.keeps keep⟩
 ·rcases a h with z|⟨z,_⟩
  ·exact I.hok.fresh (Px (Tk _) (L _ _ z).2)
  ·exact I.freeC x c z
 ·show _=Nc.length
  rw[Q,Pn,Pn,QV,OS,OS]
abbrev TB:=St->Hp->(St->Hp->Prop)->Prop
inductive CKd where
 |L (e:Expr)|S (e:Expr)|D (k v:Expr)
instance:Coe Expr CKd:=⟨.L⟩
noncomputable def mkC(c:CKd)(gens:List Q1)(scope:Scope)(pos:Tz):Expr:=match c with
 | .L e=> .ListComp e gens scope pos
 | .S e=> .SetComp e gens scope pos
 | .D k v=> .DictComp k v gens scope pos
noncomputable def emC(c:CKd)(acc:OX)(env:Wc):Sem Unit:=match c with
 | .L e=>do let _ ←UM (.builtin "list.append") [acc,←Qo e env]
 | .S e=>do let v ←Qo e env;Sw e.pos;let _ ←UM (.builtin "set.add") [acc,v]
 | .D k v=>do
   let kv ←Qo k env
   let vv ←Te [kv] (Qo v env)
   match acc with
   | .ref d=>do
    Sw {k.pos with endLine:=v.pos.endLine,endCol:=v.pos.endCol}
    Te [kv,vv] (dictSet d kv vv)
   |_=>unsupported "internal:dictcomp"
noncomputable def gL(c:CKd)(gens:List Q1)(scope:Scope)(pos:Tz)(d:Nat)(acc:OX)(env:Wc)(k:Sem Vs):Sem Vs:=
 match gens[d+1]? with
 |some g'=>do
  let x ←Qo g'.iter env
  Sw g'.iter.pos
  let x ←if g'.is_async !=0 then foldedIterable g'.iter x else Qf g'.iter env x
  let _ ←runOwn (.compStart (mkC c gens scope pos) (d+1) (←Te [x] (if g'.is_async !=0 then asyncIter x else VJ x)) acc env) env
  k
 |none=>do
  emC c acc env
  k
theorem vb{a b:Expr}(e:gens[d]?=on ⟨a,b,ifs,0⟩):
  compTurn (mkC c gens scope pos) d it acc env=(do
   Sw b.pos
   match ←TR it with
   |none=>Ro (.done .next)
   |some v=>
    Us a it v
    Uq a env v
    let mut ok:=OV
    for y in ifs do
     if ok then ok ←isTrue y env (Qo y env)
    if ok then gL c gens scope pos d acc env (WY (.compLoop (mkC c gens scope pos) d it acc env))
    else WY (.compLoop (mkC c gens scope pos) d it acc env)):=by
 cases c<;>(
  unfold compTurn gL mkC emC
  dsimp only
  rw[e]
  dsimp only
  cases gens[d+1]?<;>rfl)
section
variable{prog:Pt}{w:PV}{A:Qn}{R:Result->O7->Prop}{s:O7}
theorem DR(F:gens[d]?=on ⟨target,iter,ifs,0⟩)(I:Nat->O7->Prop)
  (q:∀n s,I n s->Pf (Py prog w) A (TR it) (λr a=>match r with
   |none=>R (.ok .next) a
   |some v=>Pf (Py prog w) A (Us target it v) (λ_ b=>Pf (Py prog w) A (Uq target env v) (λ_ j=>
    Pf (Py prog w) A (forIn ifs OV λy r=>if r=OV then do let ok ←isTrue y env (Qo y env);Ro (UF ok)else Ro (UF r)) (λok g=>
     if ok=OV then ∀(k:Sem Vs) (B:Vs->O7->Prop) (C:OX->O7->Prop),(∀i m,m<n->I m i->Pf (Py prog w) A k B C i)->Pf (Py prog w) A (gL c gens scope pos d acc env k) B C g
     else ∃m,m<n/\I m g) (λ_ _=>False) j) (λ_ _=>False) b) (λ_ _=>False) a) (λ_ _=>False) s)
  (n:Nat) (h:I n s):
  Sd (Py prog w) A (.compLoop (mkC c gens scope pos) d it acc env) R s:=by
 refine codeAny_loop rfl I (λn s hI=>?_) n h
 suffices z:Pf (Py prog w) A ((compTurn (mkC c gens scope pos) d it acc env).onRaise (λx=>do noteFrame x env;theTreesLotGoes x)) (λu s'=>match u with
   |Fin.done f=>R (Rc f) s'
   |Fin.again c'=>c'=Code.compLoop (mkC c gens scope pos) d it acc env/\∃m,m<n/\I m s') (λe s'=>R (Except.error e) s') s by cases c<;>exact z
 refine wpAny_noted ?_;rw[vb F];refine My (Rh (My (Qc (q n s hI) (λr a l=>?_) λ_ _ h'=>h'.elim)));cases r with
 |none=>exact OT l
 |some v=>
  refine My (Qc l (λ_ b p=>?_) λ_ _ h'=>h'.elim);refine My (Qc p (λ_ j t=>My (Qc t (λok g o=>?_) λ_ _ h'=>h'.elim)) λ_ _ h'=>h'.elim);cases ok with
  |false=>exact OT ⟨rfl,o⟩
  |true=>exact o _ _ _ λi m hm hI=>OT ⟨rfl,m,hm,hI⟩
theorem yV(j:gens[d]?=on ⟨target,iter,ifs,0⟩)
  (i:Sd (Py prog w) A (.compLoop (mkC c gens scope pos) d it acc env) R s)
  (h:Pf (Py prog w) A (VJ it) (λa s'=>Sd (Py prog w) A (.compLoop (mkC c gens scope pos) d a acc env) R s') (λ_ _=>False) s):
  Sd (Py prog w) A (.compStart (mkC c gens scope pos) d it acc env) R s:=by
 refine W4 ?_
 suffices z:Pf (Py prog w) A ((compStart (mkC c gens scope pos) d it acc env).onRaise (λx=>do noteFrame x env;Sw theWindowsPlace)) (λg s'=>match g with
   |Fin.done f=>R (Rc f) s'
   |Fin.again c'=>c'.quiet=OV/\Sd (Py prog w) A c' R s') (λe s'=>R (Except.error e) s') s by cases c<;>exact z
 refine wpAny_notedAt ?_;unfold compStart;have b:(clausesOf (mkC c gens scope pos))[d]?=on ⟨target,iter,ifs,0⟩:=by cases c<;>exact j
 generalize (clausesOf (mkC c gens scope pos))[d]?=og at b⊢;subst b;show Pf _ _ (ask>>=_) _ _ s;refine My (T8 (wpAny_ite ?_));split
 ·first
   |exact My (OT (OT (W8 rfl i)))
   |exact OT (W8 rfl i)
 ·first
   |exact My (S3 (My (Rh (My (Qc h (λa s' h'=>OT (W8 rfl h')) λ_ _ x=>x.elim)))))
   |(refine My (S3 ?_);show Pf _ _ (Sw iter.pos>>=_) _ _ s;exact My (Rh (My (Qc h (λa s' h'=>OT (W8 rfl h')) λ_ _ x=>x.elim))))
end
def dG(X:Cx)(b:List Expr)(t:TT):Prop:=
 ∀(a:List (OZ×PP)) (s:O7) (d:St) (H:Hp) (Q:Bool->Hp->Prop),Inv X a d H s->t d H Q->
  Pf (Py X.prog X.w) X.A (forIn b OV λc r=>if r=OV then do let ok ←isTrue c X.env (Qo c X.env);Ro (UF ok)else Ro (UF r)) (TP X a d Q) X.xe s
noncomputable def Lf:TT:=λ_ H Q=>Q OV H
theorem um:dG X [] Lf:=λ_ _ _ H _ I h=>OT ⟨H,I,h⟩
theorem CV(d:PT X c t):dG X [c] t:=λa s e H Q I h=>by
 simp only[Si,SB,Qb];exact My (My (Qc (d a s e H Q I h) (λb s' f=>OT (OT f)) λ_ _ x=>x))
def PB(X:Cx)(c:CKd)(gens:List Q1)(scope:Scope)(pos:Tz)(d:Nat)(D:OZ)(t:TB):Prop:=
 ∀(a:List (OZ×PP)) (s:O7) (e:St) (H:Hp) (Q:St->Hp->Prop),Inv X a e H s->t e H Q->
  ∀(k:Sem Vs) (f:Vs->O7->Prop) (g:OX->O7->Prop),(∀s' b h,Inv X a b h s'->Q b h->Pf (Py X.prog X.w) X.A k f g s')->Pf (Py X.prog X.w) X.A (gL c gens scope pos d (.ref D) X.env k) f g s
def cV(J:It)(g:TG)(tt:TT)(j:TB):TB:=λc H Q=>∃W:Nat->Nat->St->Hp->Prop,(∃m,W 0 m c H)/\∀i m c H,W i m c H->
 (J.stop i H/\Q c H)\/(J.go i H/\∃N:St->Hp->Prop,(∀d e,N d e->∃f,f<m/\W (i+1) f d e)/\∀x e,J.yld i H x e->g x c e λa k=>tt a k λb h=>if b=OV then j a h N else N a h)
def yp(D:OZ)(c:TE):TB:=λa H Q=>c a H λv b=>∃xs,b D=on (.lst xs)/\xs.length<Pe/\Q a (upd b D (.lst (xs++[v])))
def yo(b:TI)(c:It->TB):TB:=λa H Q=>b a H λJ d=>c J a d Q
section
variable{X:Cx}{c:CKd}{elt target iter:Expr}{ifs:List Expr}{gens:List Q1}{scope:Scope}{pos:Tz}{d:Nat}{D:OZ}
theorem rQ(hg:gens[d]?=on ⟨target,iter,ifs,0⟩)(hc:X.calm=OV)(F:X.xe=λ_ _=>False)(Z:PG X target g)(hts:dG X ifs tt)(j:PB X c gens scope pos d D tb)
  {s:O7}
  (I:Inv X pins σ H s) (T:Turn X.prog X.w X.K target J fp it tn) (st:tn 0 s.heap) (hf:∀b∈fp,eU X pins H b) (h:cV J g tt tb σ H Q):
  Sd (Py X.prog X.w) X.A (.compStart (mkC c gens scope pos) d (.ref it) (.ref D) X.env) (λr s'=>r= .ok .next/\∃a f,Inv X pins a f s'/\Q a f) s:=by
 obtain⟨W,⟨m0,w0⟩,L⟩:=h;have l:∀{f:Hp},(∀b∈fp,f b=OR)->∀b∈fp,eU X pins f b:=λhn b j=>⟨hn b j,(hf b j).2⟩;have t:Sd (Py X.prog X.w) X.A (.compLoop (mkC c gens scope pos) d (.ref it) (.ref D) X.env) (λr s'=>r= .ok .next/\∃a f,Inv X pins a f s'/\Q a f) s:=by
  refine DR hg (λn s'=>∃i a f,Inv X pins a f s'/\tn i s'.heap/\(∀b∈fp,f b=OR)/\W i n a f) ?_ m0 ⟨0,σ,H,I,st,λb j=>(hf b j).1,w0⟩;rintro n s3 ⟨i,p,U,I3,O,P,w3⟩;rcases L i n p U w3 with⟨stop,qn⟩|⟨go,N,hN,step⟩
  ·refine thn (T.done X rfl rfl rfl hc i pins s3 p U _ I3 (l P) O stop) λr s4 ⟨hr,I4⟩=>?_
   subst hr;exact⟨rfl,p,U,I4,qn⟩
  ·refine thn (T.item X rfl rfl rfl hc i pins s3 p U _ I3 (l P) O go) λr s4 ⟨u,hr,h4⟩=>?_
   subst hr;refine thn h4 λ_ s5 ⟨x,H5,I5,r5,y5,v,fr5⟩=>?_;have I5':=I5.pinned (l fr5) (T.obj _ _ v);have WY:∀{q:St} {y:Hp} {B:O7},Inv X (pins++lA fp s5.heap) q y B->N q y->∃m,m<n/\∃i a f,Inv X pins a f B/\tn i B.heap/\(∀b∈fp,f b=OR)/\W i m a f:=λ{q y B} C n7=>by
    obtain⟨m',hm,w7⟩:=hN q y n7;refine⟨m',hm,i+1,q,y,C.unpinned,T.keep _ _ _ v λb j o e=>(C.pin (b,o) (P8 _ (P8 _ (ij j e)))).1,λb j=>?_,w7⟩;obtain⟨o,e,d⟩:=T.obj _ _ v b j;exact(C.pin (b,o) (P8 _ (P8 _ (ij j e)))).2.1
   have h6:=Z _ s5 p H5 x u _ I5' r5 (step x H5 y5);rw[F]at h6;refine thn h6 λ_ s6 ⟨R,H6,I6,q6⟩=>?_;have h7:=hts _ s6 R H6 _ I6 q6;rw[F]at h7;refine thn h7 λb B ⟨y,C,Y⟩=>?_;cases b with
   |true=>
    rw[O8 rfl]at Y⊢;intro k Q' E' hk;refine j _ B R y N C Y k Q' E' λs8 σ8 H8 I8 n8=>?_;obtain⟨m,hm,z⟩:=WY I8 n8;exact hk s8 m hm z
   |false=>
    rw[O3 Pa]at Y⊢;exact WY C Y
 exact yV hg t (T.self X.A 0 s _ _ st t)
theorem aJ(m:gens[d+1]?=OR)(o:PE X elt te)(b:X.xe=λ_ _=>False):PB X elt gens scope pos d D (yp D te):=by
 intro a s g H Q I h k w y p;unfold gL;rw[m];show Pf _ _ ((do let _ ←UM (.builtin "list.append") [.ref D,←Qo elt X.env])>>=λ_=>k) _ _ _
 have i:=o a s g H _ I h;rw[b]at i;refine My (My (Qc i (λu A ⟨v,B,j,r,xs,l,C,q⟩=>?_) λ_ _ f=>f.elim));obtain⟨z,its,n,t,J,e⟩:=j.lstM l;refine My (Xs F.slot_list_append ⟨_,e,rfl⟩ F.entry_list_append (YL _ _) (YB D its.toArray n u (by rw[Ps];omega)) ⟨e,?_⟩);refine OT (p _ g _ (j.lset (its':=its++[u]) l e (by simp) (t.append (.cons r .nil)) ?_) q);rw[Pn,Qg];omega
theorem qw(o:gens[d+1]?=on ⟨target',iter',ifs',0⟩)(p:X.calm=OV)(a:X.xe=λ_ _=>False)(t:PI X target' iter' wi)
  (j:PG X target' g) (l:dG X ifs' tt) (u:PB X c gens scope pos (d+1) D tb) (hs:∀x,Qf iter' X.env x=Ro x:=by intro _;rfl):PB X c gens scope pos d D (yo wi λJ=>cV J g tt tb):=by
 intro b s w H Q I h k P R y;unfold gL;rw[o];have i:=t b s w H _ I h;rw[a]at i;refine My (Qc i (λv U i=>My (Rh ?_)) λ_ _ f=>f.elim);show Pf _ _ (Qf iter' X.env v>>=_) _ _ _;refine My (SZ (hs v) ?_);show Pf _ _ (Te [v] (VJ v)>>=_) _ _ _;refine My (QO (Qc i (λA W B=>?_) λ_ _ f=>f.elim));obtain⟨it,Y,Z,J,H2,e,C,T,m,f2,q⟩:=B;subst e;refine My (wpAny_runOwn (Sv (rQ o p a j l u C T m f2 q) λr s' ⟨F,z⟩=>?_));subst F;obtain⟨n,L,N,O⟩:=z;exact y s' n L N O
end
noncomputable def jN(vars:List PY)(caps:List Nat)(a:St):St:=Pi vars.length OR++caps.map (λj=>a.getD j OR)
def Mks(X:Cx)(mk:Sem OX)(e:OZ->HO):Prop:=∀(a:List (OZ×PP)) (s:O7) (d:St) (H:Hp) (E:OX->O7->Prop) (Q:OX->O7->Prop),Inv X a d H s->
 (∀c:O7,Inv X a d (upd H s.heap.objs.size (e s.heap.objs.size)) c->(∀b o,s.heap.get? b=on o->c.heap.get? b=on o)->Q (.ref s.heap.objs.size) c)->Pf (Py X.prog X.w) X.A mk Q E s
theorem uw:Mks X (newList []) λ_=> .lst []:=λa s c H E Q I h=>QE (h _ (I.lnew (t':=s.toks) .nil (QW _)) λb o e=>OU _ e)
def oI(vars:List PY)(caps:List Nat)(c:TI)(d:OZ->It->TB):TE:=λa H Q=>c a H λJ b=>∀D,b D=OR->d D J (jN vars caps a) (upd b D (.lst [])) λ_ e=>Q (.ref D) e
structure CmpScope (X:Cx) (scope:Scope) (Nc vars:List PY) (caps:List Nat):Prop where
 kind:scope.kind= .function
 nd:(scope.names.map (·.1)).Nodup
 free:∀y∈scope.names,y.2= .free->X.env.kindOf y.1=on .cell\/X.env.kindOf y.1=on .free
 names:Nc=vars++caps.map (λj=>X.N.getD j Ss)
 cap:∀j∈caps,j<X.N.length/\scope.names.lookup (X.N.getD j Ss)=on .free
section
variable{X:Cx}{elt target iter:Expr}{ifs:List Expr}{rest:List Q1}{scope:Scope}{pos:Tz}{Nc vars:List PY}{caps:List Nat}{g:TG}{tt:TT}{tb:OZ->TB}{wi:TI}
def NN(X:Cx)(a:List (OZ×PP))(H:Hp)(C:OZ):Prop:=H C=OR/\C≠X.env.locals/\X.s₀.heap.objs.size<=C/\(∀x c,X.env.cells.lookup x=on c->c≠C)/\∀p∈X.pn++a,p.1≠C
theorem gJ{c:CKd}{mk:Sem OX}{B:OZ->HO}(O:Mks X mk B){f:List (OZ×PP)}{F:St}{H:Hp}{s:O7}{it:OZ}{h:List OZ}{P:Nat->P7->Prop}{J:It}{E:OX->O7->Prop}{QQ:OZ->Hp->Prop}{RR:OX->OZ->Result->O7->Prop}
  (hc:X.calm=OV) (S:CmpScope X scope Nc vars caps)
  (L:∀(cl:List (PY×OZ)) (C:OZ) (h:List OZ) (s:O7) (H:Hp),PG (aC X Nc scope cl C h s H) target g/\dG (aC X Nc scope cl C h s H) ifs tt/\∀D,PB (aC X Nc scope cl C h s H) c (⟨target,iter,ifs,0⟩::rest) scope pos 0 D (tb D))
  (I:Inv X f F H s) (T:Turn X.prog X.w X.K target J h it P) (st:P 0 s.heap) (Q:∀b∈h,eU X f H b)
  (q:∀D,H D=OR->cV J g tt (tb D) (jN vars caps F) (upd H D (B D)) λ_ k=>QQ D k)
  (R:∀(D C:OZ) (s':O7) (k:Hp) (m:PY->Option OX),Inv X f F k s'->s'.heap.Ns C m->NN X f k C->QQ D k->RR (.ref D) C (.ok .next) s'):
  Pf (Py X.prog X.w) X.A mk (λacc t=>Pf (Py X.prog X.w) X.A (Xz scope X.env.globals (c5 X.env.cells scope.names []) [] X.env.qual OR .none (on X.env)) (λj u=>
   Sd (Py X.prog X.w) X.A (.compStart (mkC c (⟨target,iter,ifs,0⟩::rest) scope pos) 0 (.ref it) acc {j with scope:=relabel scope X.env}) (RR acc j.locals) u) E t) E s:=by
 refine O f s F H _ _ I λi l y=>?_;have hD:H s.heap.objs.size=OR:=I.fresh;have q3:=q s.heap.objs.size hD;have U:∀b∈h,∃o,i.heap.get? b=on o:=λb L=>let ⟨o,e,_⟩:=T.obj _ _ st b L;⟨o,y b o e⟩
 have W:∀b∈h,eU X f (upd H s.heap.objs.size (B s.heap.objs.size)) b:=λb a=>⟨by
  rw[upd_ne]
  ·exact(Q b a).1
  ·obtain⟨o,e,_⟩:=T.obj _ _ st b a
   exact Qa (Pz e),(Q b a).2⟩
 generalize Y:upd H s.heap.objs.size (B s.heap.objs.size)=H3 at l q3 W;generalize s.heap.objs.size=D at hD Y q3⊢;refine EW λh' ns keep ce ca=>?_;have N:=EK l S.kind S.nd S.free S.names S.cap W U ns keep ce ca;obtain⟨b1,b2,b3⟩:=L (Q3 (i.heap.objs.size+1) scope.names (c5 X.env.cells scope.names [])) i.heap.objs.size h i H3;have Z:P 0 h':=T.keep _ _ _ st λb L o e=>keep b o (y b o e);have f4:∀b∈h,eU (aC X Nc scope (Q3 (i.heap.objs.size+1) scope.names (c5 X.env.cells scope.names [])) i.heap.objs.size h i H3) [] H3 b:=λb a=>
  ⟨(W b a).1,(N.ok.exf b a).1,N.ok.exfs b a,.inl a,(N.ok.exf b a).2,λp hp=>PF hp (by simp)⟩
 refine Sv (rQ (X:=aC X Nc scope (Q3 (i.heap.objs.size+1) scope.names (c5 X.env.cells scope.names [])) i.heap.objs.size h i H3) (gens:=⟨target,iter,ifs,0⟩::rest) (d:=0) rfl hc rfl b1 b2 (b3 D) N T Z f4 q3) λr s' ⟨hr,σ',k,n,q'⟩=>?_;subst hr;obtain⟨m,hm,_⟩:=n.loc;have C1:X.env.locals<i.heap.objs.size:=l.lt;refine R D _ s' k m (l.call' (ch:=h) n.os n.base n.hok n.bare λb a=>?_) hm ⟨n.free,RK C1,l.sz,λx c e z=>?_,λp hp z=>?_⟩ q'
 ·obtain⟨_,h2,h3,h4,h5,h6⟩:=Q b a
  exact⟨h4,h2,h5,h6⟩
 ·obtain⟨v,e'⟩:=l.cell x c e
  exact PF (z▸e'.lt) (Qk _)
 ·have:=Pz (l.pin p hp).1
  rw[z]at this;exact PF this (Qk _)
theorem Inv.letgo{s:O7}(I:Inv X pins σ H s)(o:NN X pins H C)(hs:PX C s.heap h'):Inv X pins σ H {s with heap:=h'}:=
 I.turned (t':=s.toks) (λb c a e=>(hs.2 b a).trans e) o.1 (Ne.symm (Ne.symm o.2.1)) (.inr o.2.2.1) o.2.2.2.1 o.2.2.2.2
theorem CmpScope.clo(S:CmpScope X scope Nc vars caps)(ok:X.Ok):closureFor scope X.env=Ro (c5 X.env.cells scope.names []):=yi λy a b=>ok.has y.1 (S.free y a b)
theorem CmpScope.loc(S:CmpScope X scope Nc vars caps):∀x∈scope.names,x.2= .local->scope.names.lookup x.1=on .local:=λx a b=>cN S.nd (by rw[←b];exact a)
theorem mw(i:X.calm=OV)(S:CmpScope X scope Nc vars caps)(j:PI X target iter wi)
  (k:∀(cl:List (PY×OZ)) (C:OZ) (b:List OZ) (s:O7) (H:Hp),PG (aC X Nc scope cl C b s H) target g/\dG (aC X Nc scope cl C b s H) ifs tt/\∀D,PB (aC X Nc scope cl C b s H) elt (⟨target,iter,ifs,0⟩::rest) scope pos 0 D (tb D))
  (hs:∀x,Qf iter X.env x=Ro x:=by intro _;rfl):PE X (.ListComp elt (⟨target,iter,ifs,0⟩::rest) scope pos) (oI vars caps wi λD J=>cV J g tt (tb D)):=by
 intro a s l H Q I h;rw[eval_ListComp];refine R6 (use:=OR) rfl hs (S.clo I.ok) S.kind S.loc (Qc (j a s l H _ I h) (λv F n=>Qc n (λo N p=>?_) λ_ _ x=>x) λ_ _ x=>x);obtain⟨it,b,O,J,P,e,r,T,d,f2,q⟩:=p;subst e;refine gJ (c:= .L elt) uw (RR:=λacc C=>Xv (Py X.prog X.w) X.A X.xe OR _ acc C) i S k r T d f2 q λD C s' t m u ns y B=>?_;exact⟨m,ns,λh' f=>⟨.ref D,t,u.letgo y f,rfl,B⟩⟩
theorem v7{b d:Tz}(u:X.N.Nodup)(k:X.N[i]?=on x)(y:Loc X.env.scope x)(B:X.calm=OV)(S:CmpScope X scope Nc vars caps)(F:PI X target iter wi)
  (O:∀(cl:List (PY×OZ)) (C:OZ) (j:List OZ) (s:O7) (H:Hp),PG (aC X Nc scope cl C j s H) target g/\dG (aC X Nc scope cl C j s H) ifs tt/\∀D,PB (aC X Nc scope cl C j s H) elt (⟨target,iter,ifs,0⟩::rest) scope pos 0 D (tb D))
  (l:Tw (.ListComp elt (⟨target,iter,ifs,0⟩::rest) scope pos) (on (.Name x b)) d.line X.env=Ro OV:=by rfl)
  (hs:∀x,Qf iter X.env x=Ro x:=by intro _;rfl) (P:X.fn x=OV\/X.env.scope.names.lookup x=on .local:=by first|exact .inl rfl|exact .inr rfl|assumption):
  PS X (.Assign [.Name x b] (.ListComp elt (⟨target,iter,ifs,0⟩::rest) scope pos) d) (jp (oI vars caps wi λD J=>cV J g tt (tb D)) (fj i)):=by
 intro f s R H D I h;rw[exec_Assign_Name_used _ _ _ _ l];refine My (Rh (My ?_));show Pf _ X.A (do let _ ←comprehension (.ListComp elt (⟨target,iter,ifs,0⟩::rest) scope pos) scope X.env _ (newList []) OW (Qo iter X.env) (on (Uq (.Name x b) X.env))) _ _ s
 refine My (Qc (R6 (use:=on (Uq (.Name x b) X.env)) (Q:=λ_ s'=>SP X f D .next s') rfl hs (S.clo I.ok) S.kind S.loc
  (Qc (F f s R H _ I h) (λv s1 U=>Qc U (λW Y Z=>?_) λ_ _ e=>e) λ_ _ e=>e)) (λ_ s' hq=>OT (OT hq)) λ_ _ e=>e)
 obtain⟨it,j,tn,J,H2,e,n,T,o,f2,q⟩:=Z;subst e;refine gJ (c:= .L elt) uw (RR:=λacc C=>Xv (Py X.prog X.w) X.A X.xe (on (Uq (.Name x b) X.env)) _ acc C) B S O n T o f2 q λA C s' H' m I' ns p q'=>?_;show Pf _ X.A (Uq (.Name x b) X.env (.ref A)) _ _ s';refine Wx (kT I' u k y (v:= .ref A) rfl (λY n ⟨a,sb,ha⟩=>?_) P);have r:C≠a:=by
  rcases ha with rfl|ha
  ·exact p.2.1
  ·exact λz=>p.2.2.2.1 x a ha z.symm
 exact⟨m,ns.sameBut sb r,λh' t=>⟨_,H',n.letgo p t,q'⟩⟩
end
end L2
namespace L2
open PySem PySem.Spec
open Sem (wp)
open Builtin Builtin.ObjectAttr
noncomputable abbrev cS(C:OZ)(dx:Option OZ)(t:OZ):PP:={cls:= .ref C,dict:=dx,data:= .fields #[.ref t,.none,.none,.none,.bool OW,.none]}
structure XShape (h:P7) (C:OZ) (bm:List OX):Prop where
 at_:∃(nm q:PY) (N:OZ) (bs:List OX) (hdct:Bool) (sn:List PY) (sub:List OX) (ab:Bool) (col:Option Bool) (dd:Option OZ) (k0 k1 k2 k3 k5:Option OX),
  h.get? C=on (excClassObj nm q C N bs bm hdct sn sub ab col dd k0 k1 k2 k3 k5 "ValueError.__new__")
 val:bm.contains (.type "ValueError")=OV
 bas:bm.contains (.type "BaseException")=OV
 att:bm.contains (.type "AttributeError")=OW
 nam:bm.contains (.type "NameError")=OW
section
variable{prog:Pt}{w:PV}{A:Qn}{E:OX->O7->Prop}{h:P7}{g:Array GenState}{d:Drawn}{t:Nat}{os:Vt}{C:OZ}{bm rest:List OX}
theorem KQ(S:XShape h C bm)
  (l:R (.ok (.ret (.ref (h.objs.size+1)))) ⟨(h.push {cls:= .type "tuple",data:= .seq rest.toArray}).push (cS C OR h.objs.size),g,d,t,os⟩) (b:rest.length<=Pe):
  Sd (Py prog w) A (.builtin "ValueError.__new__" ⟨.ref C::rest,[]⟩) R ⟨h,g,d,t,os⟩:=by
 obtain⟨⟨nm,q,N,bs,hdct,sn,sub,ab,col,dd,k0,k1,k2,k3,k5,c⟩,m,hB,n,o⟩:=S;have a:=Su;have e:=a.ends;have f:(Pj C::bm).contains (.type "ValueError")=OV:=by rw[R9,m,U1]
 have i:(Pj C::bm).contains (.type "AttributeError")=OW:=by rw[R9,n];rfl
 have j:(Pj C::bm).contains (.type "NameError")=OW:=by rw[R9,o];rfl
 refine codeAny_builtinAt a.entry ?_;unfold Builtin.«BaseException.__new__»;refine wpAt_bind ?_;show wpAt _ _ _ (stack>>=_) _ _ _;refine wpAt_bind (wpAt_stack λp k=>wpAt_of_wpAny ?_)
 wp_walk
 refine wpAt_of_wpAny ?_;rw[a.owner]
 repeat (first|with_reducible refine wpAny_madeHere_exc a.canon c ?_|with_reducible refine RJ c ?_|(with_reducible refine Uw c ?_;first|rw[f]|rw[i]|rw[j])|wp_step)
 show R _ _;rw[QD];exact l
theorem sC{K:Po}(X:K.In h)(S:XShape h C bm)(m:RA K (.ref C) "__init__"=on (on (.ref fI)))(n:isFn K (.ref fI)=OV)(a:rest.length<=Pe)
  (p:Pf (Py prog w) A (UM (.ref fI) (.ref (h.objs.size+1)::rest)) (λr s'=>r= .none/\Q (.done (.ret (.ref (h.objs.size+1)))) s') E
   ⟨(h.push {cls:= .type "tuple",data:= .seq rest.toArray}).push {cls:= .ref C,data:= .fields #[.ref h.objs.size,.none,.none,.none,.bool OW,.none]},g,d,t,os⟩):
  Pf (Py prog w) A (Builtin.«type.__call__» ⟨.ref C::rest,[]⟩) Q E ⟨h,g,d,t,os⟩:=by
 have u:=S;obtain⟨⟨nm,q,N,bs,hdct,sn,sub,ab,col,dd,k0,k1,k2,k3,k5,f⟩,v,hB,F,H⟩:=S;have k:=Su
 repeat (first|with_reducible refine RJ f ?_|with_reducible refine wpAny_madeBy_exc f ?_|wp_step)
 refine codeAny_call_builtin_code (VE _ k.quiet) (wpAny_check_new_subU k v (OwnTail.base (bmB:=bm)) f ?_);refine KQ u ?_ a;show Pf _ _ _ _ _ _;have keep:∀b o,h.get? b=on o->((h.push {cls:= .type "tuple",data:= .seq rest.toArray}).push {cls:= .ref C,data:= .fields #[.ref h.objs.size,.none,.none,.none,.bool OW,.none]}).get? b=on o:=λb o e=>OU _ (OU _ e);have i:=keep _ _ f;have l:=X.keeps keep;have c:((h.push {cls:= .type "tuple",data:= .seq rest.toArray}).push {cls:= .ref C,data:= .fields #[.ref h.objs.size,.none,.none,.none,.bool OW,.none]}).get? (h.objs.size+1)=on {cls:= .ref C,data:= .fields #[.ref h.objs.size,.none,.none,.none,.bool OW,.none]}:=by heap_get
 have j:(Pj C::bm).contains (.ref C)=OV:=by simp
 unfold UO
 repeat (first|with_reducible refine RJ c ?_|(with_reducible refine Uw i ?_;rw[j])|wp_step)
 show Pf _ _ (typeLookup (.ref C) _) _ _ _;refine(Wt l m).here ?_;refine QO (My ((Yw l (.ref (h.objs.size+1)) (beq_iff_eq.mp n)).here ?_));refine My (Qc p (λr s' y=>?_) λ_ _ x=>x);obtain⟨rfl,B⟩:=y
 wp_walk
 exact B
theorem EV{K:Po}(X:K.In h)(S:XShape h C bm)(c:RA K (.ref C) "__init__"=on (on (.ref fI)))(e:isFn K (.ref fI)=OV)(a:rest.length<=Pe)
  (f:Pf (Py prog w) (A.under (.builtin "type.__call__" ⟨.ref C::rest,[]⟩)) (UM (.ref fI) (.ref (h.objs.size+1)::rest)) (λr s'=>r= .none/\Q (.ref (h.objs.size+1)) s') E
   ⟨(h.push {cls:= .type "tuple",data:= .seq rest.toArray}).push {cls:= .ref C,data:= .fields #[.ref h.objs.size,.none,.none,.none,.bool OW,.none]},g,d,t,os⟩):
  Pf (Py prog w) A (UM (.ref C) rest) Q E ⟨h,g,d,t,os⟩:=by
 have i:=S;obtain⟨⟨nm,q,N,bs,hdct,sn,sub,ab,col,dd,k0,k1,k2,k3,k5,b⟩,j,hB,k,l⟩:=S;have f1:=tc_lookup;have f2:=tc_bind (.ref C);have m:(⟨h,g,d,t,os⟩:O7).TypeIs (.ref C) "type":=⟨_,b,rfl⟩;refine T9 (W4 ?_);show Pf _ _ (callAny (.ref C) _) _ _ _
 repeat (any_goals (first|assumption|with_reducible refine RJ b ?_|wp_step))
 refine⟨rfl,?_⟩;exact codeAny_call_builtin_at (VE _ (by decide +kernel)) entry_typeCall (wpAny_check_type_call_sub b (sC X i c e a f))
theorem qI{l:PP}{M:WV}(S:XShape h C bm)(o:h.get? e=on l)(c:l.cls= .ref C)(p:Q () ⟨h,g,d,t,os⟩):
  Pf M A (WO "ValueError.__init__" ⟨.ref e::rest,[]⟩) Q E ⟨h,g,d,t,os⟩:=by
 obtain⟨⟨nm,q,N,bs,hdct,sn,sub,ab,col,dd,k0,k1,k2,k3,k5,m⟩,r,hB,u,v⟩:=S;have i:=Su;have k:(Pj C::bm).contains (.type "ValueError")=OV:=by rw[R9,r,U1]
 have j:=i.noStar;simp only[WO,i.initKind,i.initSplit,i.initRow]
 repeat (first|(with_reducible refine RJ o ?_;rw[c])|with_reducible refine RJ m ?_|(with_reducible refine Uw m ?_;rw[k])|wp_step)
 refine Vf ?_;have f:∀(a b:String) (n:Nat),Bind.check ⟨.positional,"*","ValueError",.self,[⟨"args",.varPos,OW⟩]⟩ a b n (Rk (λx=>x.fst) ({pos:=Pj e::rest}:Args).kw)=Ro ():=λa b n=>check_star_args _ _ _ _ _ _;rw[f];exact OT p
theorem AN(S:XShape h C bm)(f:h.get? e=on (cS C dx t0))(a:rest.length<=Pe)
  (j:∀h':P7,h'.get? e=on (cS C dx h.objs.size)->(∀b o,b≠e->h.get? b=on o->h'.get? b=on o)->Q .none ⟨h',g,d,t,os⟩):
  Pf (Py prog w) A (UM (.builtin "ValueError.__init__") (.ref e::rest)) Q E ⟨h,g,d,t,os⟩:=by
 have i:=Su;refine T9 (Ue i.init.plain i.initEntry (qI S f rfl ?_));have c:=OU {cls:= .type "tuple",data:= .seq rest.toArray} f;unfold Builtin.«BaseException.__init__»
 dsimp only
 refine My ?_;refine VN ?_ a;unfold XS;refine My (My (QJ c rfl (x:= .ref t0) rfl ?_));refine My (S4 c rfl (by simp) ?_)
 dsimp only
 refine VM (OT ?_);refine j _ ?_ λb o k l=>?_
 ·rw[Rj _ c rfl]
  rfl
 ·rw[Tp _ _ (Ne.symm k)]
  exact OU _ l
end
noncomputable def eM:List OX->Bool
 |[.type a,.type b,.type c,.type d]=>a=="ValueError"&&b=="Exception"&&c=="BaseException"&&d=="object"
 | .ref _::r=>eM r
 |_=>OW
theorem uh(self:OX):refuseLoop self "__setattr__" [.type "ValueError",.type "Exception",.type "BaseException",.type "object"]=Ro ():=by kernel_rfl
theorem oY(self:OX):∀{l:List OX},eM l=OV->refuseLoop self "__setattr__" l=Ro ()
 |[.type a,.type b,.type c,.type d],e=>by
  simp only[eM,PU,R5]at e;obtain⟨⟨⟨rfl,rfl⟩,rfl⟩,rfl⟩:=e;exact uh self
 | .ref c::r,e=>by rw[refuseLoop_ref];exact oY self (by cases r<;>exact e)
theorem wL:∀{l:List OX},eM l=OV->l.contains (.type "object")=OV
 |[.type a,.type b,.type c,.type d],e=>by
  simp only[eM,PU,R5]at e;obtain⟨⟨⟨rfl,rfl⟩,rfl⟩,rfl⟩:=e;decide
 | .ref c::r,e=>by rw[R9,wL (l:=r) (by cases r<;>exact e),U1]
section
variable{prog:Pt}{w:PV}{A:Qn}{E:OX->O7->Prop}{s:O7}{C e:OZ}{K:Po}{cd:ClassData}{name:PY}{v:OX}
theorem EU{i:PP}(X:K.In s.heap)(k:s.heap.get? e=on i)(a:i.cls= .ref C)(j:clsIn K C=on cd)(d:eM cd.mro=OV)(l:RA K (.ref C) name=on OR)
  (h:∀b,Pf (Py prog w) A.in1 (storeInOwnDict (.ref e) (.ref C) (.str name tk) name v b)
   (λg s'=>match g with| .done f=>R (.ok f) s'| .again c'=>c'.quiet=OV/\Sd (Py prog w) A c' R s') (λx s'=>R (.error x) s') s):
  Sd (Py prog w) A (.call (.builtin "object.__setattr__") ⟨[.ref e,.str name tk,v],[]⟩) R s:=by
 have c:=PySem.F.store_object;have tp:RH (Py prog w) s.heap (YX (.ref e)) (.ref C):=by
  have:=(Vl (M:=Py prog w) (part:=on headPart) k);exact this.andThen (by rw[a];exact .now)
 have ne:cd.mro.isEmpty=OW:=by cases q:cd.mro with|nil=>rw[q]at d;cases d|cons _ _=>rfl
 have sub:RH (Py prog w) s.heap (UO (.ref e) (.type "object")) OV:=tp.andThen (PySem.W.looks_mroIn X (by unfold mroIn;rw[j,Qt,O3 (by rw[ne];decide),wL d]));refine Ue c.slot.plain c.entry (@PySem.W.check_slot (Py prog w) _ _ s "object.__setattr__" "object" "__setattr__" (.ref e) [.str name tk,v] [] _ c.kind c.split sub (c.args (.ref e) (.str name tk) v) ?_);have hm:RH (Py prog w) s.heap (mroOf (.ref C)) cd.mro:=(looks_clsIn X j).andThen .now;rw[PySem.W.osa_eq,refuse_eq];refine My (My (tp.here (My (hm.here ?_))));rw[oY _ d];refine OT (My (tp.here (My ((Wt X l).here (My (OT ?_))))));exact h _
theorem AQ{b:PP}(X:K.In s.heap)(c:s.heap.get? e=on b)(a:b.cls= .ref C)(hs:RA K (.ref C) "__setattr__"=on (on (.builtin "object.__setattr__")))
  (h:Sd (Py prog w) A (.call (.builtin "object.__setattr__") ⟨[.ref e,.str name s.toks,v],[]⟩) (λr s'=>match r with| .ok (.ret _)=>Q () s'| .ok _=>False| .error x=>E x s') {s with toks:=s.toks+1}):
  Pf (Py prog w) A (setAttr (.ref e) name v) Q E s:=by
 have tp:RH (Py prog w) s.heap (YX (.ref e)) (.ref C):=by
  have:=(Vl (M:=Py prog w) (part:=on headPart) c);exact this.andThen (by rw[a];exact .now)
 refine My (wpAny_mkText (My (My (My (tp _ _ _ _ (λ_ _ e=>e) (Wt X hs _ _ _ _ (λ_ _ e=>e) (QO ?_)))))));rw[PySem.F.store_object.slot.bind];refine My (OT (My (T9 (Sv h λr s' z=>?_))));rcases r with x|(v|_|_|_)<;>first|exact z|exact OT (OT z)
theorem ET(X:K.In s.heap)(a:s.heap.get? e=on (cS C OR t0))
  (hs:RA K (.ref C) "__setattr__"=on (on (.builtin "object.__setattr__"))) (l:clsIn K C=on cd) (hd:cd.hasDict=OV) (n:eM cd.mro=OV) (p:RA K (.ref C) name=on OR)
  (q:∀h':P7,h'.get? e=on (cS C (on s.heap.objs.size) t0)->h'.Ns1 s.heap.objs.size (λy=>if y=name then on v else OR)->
   (∀b o,b≠e->s.heap.get? b=on o->h'.get? b=on o)->Q () {s with heap:=h',toks:=s.toks+2}):
  Pf (Py prog w) A (setAttr (.ref e) name v) Q E s:=by
 refine AQ X a rfl hs (EU (s:={s with toks:=s.toks+1}) X a rfl l n p λb=>?_);refine My (OT (My (My (XD a (My (Wo (s:={s with toks:=s.toks+1}) (looks_clsIn X l) ?_))))));rw[hd];refine My (wpAny_alloc ?_);have c:=OU {cls:= .type "dict",data:= .dict #[]} a;refine My (wpAny_update c (OT ?_));have r:((s.heap.push {cls:= .type "dict",data:= .dict #[]}).update e λo=>{o with dict:=on s.heap.objs.size}).get? e=on (cS C (on s.heap.objs.size) t0):=Rj _ c rfl;have d:s.heap.objs.size≠e:=RK (Pz a);have hn:((s.heap.push {cls:= .type "dict",data:= .dict #[]}).update e λo=>{o with dict:=on s.heap.objs.size}).Ns1 s.heap.objs.size λ_=>OR:=by
  refine Xi ((Heap.Ns.new s.heap (.type "dict")).sameBut (QM ..) d)
 refine My (OT (My ?_));refine wpAny_nsSet1 hn λh' f g=>?_;obtain⟨F,t,u,h,i,j⟩:=f.count (WN name v T5.nil);refine My (wpAny_lookBehind h (by rw[i];exact pastItsLine_dict (Px j (by show 1<=Pe+1;decide))) ?_);refine OT (q h' ((g.2 _ (Ne.symm d)).trans r) f λb o B m=>?_);have k:b≠s.heap.objs.size:=Qa (Pz m);refine(g.2 _ k).trans ?_;rw[Tp _ _ (Ne.symm B)];exact OU _ m
theorem AO{bm:List OX}{dx:Option OZ}{t0:OZ}{env:Wc}{M:WV}{x:Sem OX}{Q:Flow->O7->Prop}(j:A.handled=OR)
  (h:Pf M A x (λv a=>∃e t0 dx C bm,v= .ref e/\XShape a.heap C bm/\a.heap.get? e=on (cS C dx t0)/\E (.ref e) a) E s):Pf M A (raiseStmt env (on x) OR) Q E s:=by
 unfold raiseStmt;refine My (Qc h (λv a b=>?_) λ_ _ x=>x);obtain⟨e,t0,dx,C,bm,rfl,S,k,l⟩:=b;obtain⟨⟨nm,q,N,bs,hdct,sn,sub,ab,col,dd,k0,k1,k2,k3,k5,i⟩,m,hB,n,o⟩:=S;have c:(Pj C::bm).contains (.type "BaseException")=OV:=by rw[R9,hB,U1]
 have f:a.heap.get? e=on {cls:= .ref C,dict:=dx,data:= .fields #[.ref t0,.none,.none,.none,.bool OW,.none]}:=k;obtain⟨p,g,d,r,os⟩:=a
 repeat (first|with_reducible refine RJ f ?_|with_reducible refine RJ i ?_|(with_reducible refine Uw i ?_;rw[c])|wp_step)
 exact wpAny_raiseNew_none j l
end
end L2
namespace L2
open PySem PySem.Spec PyProof.Rows
noncomputable def dN(C x:OZ)(dx:Option OZ):HO:= .ext λh=>∃t,h.get? x=on (cS C dx t)
theorem bu.there{h:P7}(x:bu P w H h a o):∃b,h.get? a=on b:=by
 cases o with
 |lst xs=>obtain⟨_,_,_,_,e⟩:=x;exact⟨_,e⟩
 |tup xs=>obtain⟨_,_,_,_,e,_⟩:=x;exact⟨_,e⟩
 |ins C dx fs=>obtain⟨_,_,_,e,_⟩:=x;exact⟨_,e⟩
 |own y=>exact x
 |xd fs=>obtain⟨_,⟨_,_,_,e,_⟩,_⟩:=x;exact⟨_,e⟩
 |rng lo hi=>obtain⟨_,_,_,e⟩:=x;exact⟨_,e⟩
 |frz b u=>obtain⟨e,_⟩:=x;exact⟨_,e⟩
 |tbl ps=>exact⟨_,(show h.get? a=on _ from x)⟩
 |met f y=>exact⟨_,(show h.get? a=on _ from x)⟩
 |ext φ=>obtain⟨_,e,_⟩:=x;exact e
theorem qJ{h:P7}(e:h.get? x=on (cS C dx t)):bu P w H h x (dN C x dx):=
 ⟨⟨t,e⟩,⟨_,e⟩,λ_ _ ⟨t,a⟩ k=>⟨t,k _ a⟩⟩
theorem kz{h:P7}(q:bu P w H h x (dN C x dx)):∃t,h.get? x=on (cS C dx t):=q.1
noncomputable def fE(H:Hp)(x:OZ):Hp:=λb=>if b=x then OR else H b
theorem AY:fE H x x=OR:=by unfold fE;rw[O8 rfl]
theorem ix(h:b≠x):fE H x b=H b:=by unfold fE;rw[O3 h]
theorem AX(h:fE H x b=on o):b≠x/\H b=on o:=by
 unfold fE at h;split at h
 ·cases h
 ·exact⟨by assumption,h⟩
structure Flown (P:Pt) (w:PV) (outer:List Wc) (H:Hp) (s:O7) (E:XK) (x C:OZ) (H':Hp) (s':O7):Prop where
 os:s'.os=s.os
 bare:Ux s'.gens
 un:Un (frs outer) [] H H' s.heap s'.heap
 hok:HOk P w H' s'.heap
 tr:∃(oe:PP) (vs:Array OX) (T:OZ) (oT:PP) (ts:Array OX) (a0:OX),s'.heap.get? x=on oe/\(oe.cls= .ref C/\vs[0]?=on a0)/\oe.data= .fields vs/\vs[1]?=on (.ref T)/\T≠x/\s'.heap.get? T=on oT/\oT.data= .fields ts/\ts[3]?=on .none/\H' T=OR/\s.heap.get? T=OR
 xn:H' x=OR
 xs:s.heap.get? x=OR
 wish:E (.ref C) OR H'
def CXE(P:Pt)(w:PV):CXT:=λouter H s E e s'=>∃x C a,e= .ref x/\Flown P w outer H s E x C a s'
theorem rF{X:Cx}{s s':O7}{E:XK}(I:Inv X pins σ H s)(g:X.stack=X.env::X.outer)(i:X.env.frame=on X.env.locals)(R:X.ex=[])
  (os:s'.os=X.s₀.os) (bare:Ux s'.gens) (d:Un (frs X.stack) [] X.H₀ H' X.s₀.heap s'.heap) (hok:HOk X.prog X.w H' s'.heap) (y:∀b∈frs X.stack,H' b=OR)
  (c:∀b∈ext,X.s₀.heap.get? b=OR/\H' b=OR) (O:x∈ext) (wish:E (.ref C) OR H')
  (L:Heap.LeftW (Wr s'.heap (ext++frs X.stack)) (X.env::X.outer) x (.ref C) a0 s'.heap h'):Flown X.prog X.w X.outer X.H₀ X.s₀ E x C H' {s' with heap:=h'}:=by
 obtain⟨U,L2,W,Y⟩:=L;have j:∀b∈frs X.outer,b∈frs X.stack:=λb hb=>by
  rw[g];unfold frs;rw[QU,i];exact OY _ hb
 have h:∀b∈frs X.stack,b=X.env.locals\/b∈frs X.outer:=λb hb=>by
  rw[g]at hb;unfold frs at hb;rw[QU,i]at hb;exact Pq.mp hb
 have A:∀b o,X.s₀.heap.get? b=on o->b≠X.env.locals:=λb o e=>Qa (PM (Pz e) I.ok.above);have stay:∀b o,s'.heap.get? b=on o->b∉ext->b∉frs X.stack->h'.get? b=on o:=λb o e B Z=>
  U b o (hideAll_get _ e λhm=>(QY.mp hm).elim B Z)
 have k:∀b o,X.s₀.heap.get? b=on o->b∉ext:=λb o e hb=>by rw[(c b hb).1]at e;cases e
 have f:∀b∈frs X.stack,∃o,h'.get? b=on o/\∀vs,o.data≠ .fields vs:=λb hb=>(L2.mem (by rw[←g];exact hb)).2;obtain⟨oe,vs,T,oT,P,he,hc,hd,B,l,F,Q,m,h3⟩:=W;have p:H' T=OR/\X.s₀.heap.get? T=OR:=by
  by_cases hm:T∈ext++frs X.stack
  ·rcases QY.mp hm with hm|hm
   ·exact⟨(c T hm).2,(c T hm).1⟩
   ·obtain⟨o,e,nf⟩:=f T hm
    rw[Q]at e;cases e;exact PF m (nf P)
  ·have hs:s'.heap.get? T=OR:=by
    cases q:s'.heap.get? T with
    |none=>rfl
    |some o=>rw[hideAll_get _ q hm]at l;cases l
   constructor
   ·cases q:H' T with
    |none=>rfl
    |some o=>obtain⟨ob,e⟩:=(hok T o q).there;rw[hs]at e;cases e
   ·cases q:X.s₀.heap.get? T with
    |none=>rfl
    |some o=>obtain⟨ob,e⟩:=d.there T o q (by simp);rw[hs]at e;cases e
 refine⟨os,bare,⟨λb o e n hb _=>?_,λb o e n hb _=>?_,λb o e n hb=>d.free b o e n hb,λb o e _=>?_,d.tups,d.frzs,d.tbls⟩,λa o e=>?_,⟨oe,vs,T,oT,P,a0,he,hc,hd,B,F,Q,m,h3,p.1,p.2⟩,(c x O).2,(c x O).1,wish⟩
 ·have nf:b∉frs X.stack:=λz=>(h b z).elim (A b o e) hb
  exact stay b o (d.keep b o e n nf (by simp)) (k b o e) nf
 ·obtain⟨sl,r⟩:=d.slot b o e n (j b hb) (by simp)
  obtain⟨_,J,v,nf⟩:=I.ok.funs.mem hb;rw[e]at v;cases v;obtain⟨N,e3⟩:=Y b _ r nf;exact⟨N,e3⟩
 ·obtain⟨J,r⟩:=d.there b o e (by simp)
  by_cases hb:b∈frs X.stack
  ·obtain⟨o2,v,_⟩:=f b hb
   exact⟨o2,v⟩
  ·exact⟨J,stay b J r (k b o e) hb⟩
 ·refine(hok a o e).stay (λb u hb r=>?_) (λ_ q=>q) λ_ _ q=>q
  have t:H' b≠OR:=by
   rcases hb with rfl|hb
   ·rw[e];simp
   ·rw[hb];simp
  exact stay b u r (λz=>t (c b z).2) λz=>t (y b z)
theorem rL{h base:P7}(d:h.FunFrames base l)(c:∀b∈frs l,b∈as):h.FunFrames (Wr h as) l:=
 PySem.W.funFrames_hide d λenv e a ha=>c a (by unfold frs;exact Ui.mpr ⟨env,e,ha⟩)
theorem Kf{X:Cx}{E F:XK}(a:X.stack=X.env::X.outer)(d:X.env.frame=on X.env.locals)(f:X.ex=[])(Q:∀cls dx H,F cls dx H->E cls dx H)
  (I:Inv X pins σ H s) (h:CXE X.prog X.w X.stack H s F e s'):
  Pf (Py X.prog X.w) X.A (leaving X.env e) (λ_ j=>CXE X.prog X.w X.outer X.H₀ X.s₀ E e j) E1 s':=by
 obtain⟨x,C,J,rfl,os,bare,un,hok,⟨R,vs,T,U,W,a0,Y,Z,hd,h1,k,hT,m,h3,n,p⟩,xn,xs,wish⟩:=h;have nofs:∀b∈X.fs,b∈frs X.stack:=λb hb=>by
  rw[a];unfold frs;rw[QU,d];exact OY _ hb
 have N:Un (frs X.stack) [] X.H₀ H X.s₀.heap s.heap:=by
  have b:=I.base;rw[f]at b;exact b.mono nofs λ_ z=>z
 have U0:=N.trans un;have g:∀b,s.heap.get? b=OR->X.s₀.heap.get? b=OR:=λb e=>by
  cases q:X.s₀.heap.get? b with
  |none=>rfl
  |some o=>obtain⟨o',O⟩:=N.there b o q (by simp);rw[e]at O;cases O
 have c:=I.stack;have i:s'.heap.FunFrames X.base X.stack:=by
  have all:∀(l:List Wc),(∀b∈frs l,b∈frs X.stack)->s.heap.FunFrames X.base l->s'.heap.FunFrames X.base l:=by
   intro l
   induction l with
   |nil=>intro _ _;trivial
   |cons env r ih=>
    intro hs hl;obtain⟨hk,⟨L,o,t,hn,u,v⟩,hr⟩:=hl;have P:L∈frs X.stack:=hs L (by unfold frs;rw[QU,t];exact O5);obtain⟨sl,e⟩:=un.slot L o u (I.stkFree L P) P (by simp);exact⟨hk,⟨L,_,t,hn,e,v⟩,ih (λb hb=>hs b (by unfold frs;rw[QU,t];exact OY _ hb)) hr⟩
  exact all X.stack (λ_ hb=>hb) c
 have y:∀b∈frs X.stack,J b=OR:=λb hb=>by
  obtain⟨_,o,u,_⟩:=c.mem hb;exact un.free b o u (I.stkFree b hb) (by simp)
 have B:∀b∈frs X.stack,b∈[x,T]++frs X.stack:=λb hb=>P8 _ hb;have hF:s'.heap.FunFrames (Wr s'.heap ([x,T]++frs X.stack)) (X.env::X.outer):=by
  have z:=rL i B;rw[a]at z⊢;exact z
 refine wpAny_leaving_nextW (base:=Wr s'.heap ([x,T]++frs X.stack)) (by rw[←a];exact I.ok.frames) hF d ⟨R,vs,T,U,W,Y,Z,hd,h1,Ws _ (by simp),k,hT,m,h3⟩ (λb o q=>of_hideAll _ q) (Ws _ (by simp)) λh' L=>?_;refine⟨x,C,J,rfl,rF I a d f (os.trans I.os) bare U0 hok y (λb hb=>?_) (by simp) (Q _ _ _ wish) L⟩;rcases Pq.mp hb with rfl|hb
 ·exact⟨g _ xs,xn⟩
 ·obtain rfl:b=T:=by simpa using hb
  exact⟨g _ p,n⟩
theorem DF{X:Cx}{E:XK}(c:X.stack=X.env::X.outer)(g:X.env.frame=on X.env.locals)(h:X.ex=[])
  (I:Inv X pins σ H s) (j:H x=on (dN C x dx)) (m:X.H₀ x=OR) (wish:E (.ref C) OR (fE H x)):
  Pf (Py X.prog X.w) X.A (leaving X.env (.ref x)) (λ_ k=>CXE X.prog X.w X.outer X.H₀ X.s₀ E (.ref x) k) E1 s:=by
 obtain⟨t,p⟩:=kz (I.hok x _ j);have nofs:∀b∈X.fs,b∈frs X.stack:=λb d=>by
  rw[c];unfold frs;rw[QU,g];exact OY _ d
 have f:Un (frs X.stack) [] X.H₀ H X.s₀.heap s.heap:=by
  have b:=I.base;rw[h]at b;exact b.mono nofs λ_ z=>z
 have xs:X.s₀.heap.get? x=OR:=by
  cases q:X.s₀.heap.get? x with
  |none=>rfl
  |some o=>have:=f.free x o q m (by simp);rw[j]at this;cases this
 have ne:∀b o,H b=on o->(∀r,o≠ .ext r)->b≠x:=λb o e hn z=>by subst z;rw[j]at e;cases e;exact hn _ rfl
 have v:Un (frs X.stack) [] X.H₀ (fE H x) X.s₀.heap s.heap:=by
  refine⟨f.keep,f.slot,λb o e n d=>?_,f.there,λb ys q=>?_,λb o u q=>?_,λb ps q=>?_⟩
  ·unfold fE;split
   ·rfl
   ·exact f.free b o e n d
  ·have:=f.tups b ys q
   rw[ix (ne b _ this λ_ z=>by cases z)];exact this
  ·have:=f.frzs b o u q
   rw[ix (ne b _ this λ_ z=>by cases z)];exact this
  ·obtain⟨more,this⟩:=f.tbls b ps q
   exact⟨more,by rw[ix (ne b _ this λ_ z=>by cases z)];exact this⟩
 have hok:HOk X.prog X.w (fE H x) s.heap:=λa o e=>by
  obtain⟨B,y⟩:=AX e;refine(I.hok a o y).stay (λ_ _ _ q=>q) (λb q=>?_) λb ys q=>?_
  ·rw[ix (ne b _ q λ_ z=>by cases z)];exact q
  ·rw[ix (ne b _ q λ_ z=>by cases z)];exact q
 have i:=I.stack;have l:∀b∈frs X.stack,fE H x b=OR:=λb d=>by
  unfold fE;split
  ·rfl
  ·exact I.stkFree b d
 have hF:s.heap.FunFrames (Wr s.heap ([x]++frs X.stack)) (X.env::X.outer):=by
  have z:=rL i (as:=[x]++frs X.stack) λb d=>P8 _ d;rw[c]at z⊢;exact z
 refine wpAny_leaving_firstW (base:=Wr s.heap ([x]++frs X.stack)) (a0:= .ref t) (by rw[←c];exact I.ok.frames) hF g p (λb o q=>of_hideAll _ q) (Ws _ (by simp)) rfl rfl rfl λh' L=>?_;refine⟨x,C,fE H x,rfl,rF (ext:=[x]) I c g h I.os I.bare v hok l (λb d=>?_) (by simp) wish L⟩;obtain rfl:b=x:=by simpa using d
 exact⟨xs,AY⟩
section
variable{X:Cx}{pins:List (OZ×PP)}{σ:St}{H H':Hp}{s s':O7}{E:XK}{x C:OZ}
end
section
variable{X:Cx}
end
section
variable{X:Cx}
end
structure XC (K:Po) (C:OZ):Prop where
 sh:∃bm,∀h:P7,K.In h->XShape h C bm
 sa:RA K (.ref C) "__setattr__"=on (on (.builtin "object.__setattr__"))
 cd:∃cd,clsIn K C=on cd/\cd.hasDict=OV/\eM cd.mro=OV
theorem wZ{K:Po}{bs bm:List OX}{hdct:Bool}{ab:Bool}{cd:ClassData}
  (l:K.lookup C=on (excClassObj nm q C N bs bm hdct sn sub ab col dd k0 k1 k2 k3 k5 "ValueError.__new__")) (sa:RA K (.ref C) "__setattr__"=on (on (.builtin "object.__setattr__"))) (c:clsIn K C=on cd)
  (g:(bm.contains (.type "ValueError")&&bm.contains (.type "BaseException")&&!bm.contains (.type "AttributeError")&&!bm.contains (.type "NameError")&&cd.hasDict&&eM cd.mro)=OV):XC K C:=by
 simp only[PU,YK]at g;obtain⟨⟨⟨⟨⟨a,b⟩,i⟩,d⟩,e⟩,f⟩:=g;exact⟨⟨bm,λh X=>⟨⟨nm,q,N,bs,hdct,sn,sub,ab,col,dd,k0,k1,k2,k3,k5,X _ _ l⟩,a,b,i,d⟩⟩,sa,cd,c,e,f⟩
structure XMk (K:Po) (C f:OZ):Prop where
 xc:XC K C
 init:RA K (.ref C) "__init__"=on (on (.ref f))
 fn:isFn K (.ref f)=OV
 kp:UQ K (.ref C)=OV
section
variable{X:Cx}{CX:CXT}{k:Nat}{f C:OZ}{fd:PL}{ps:List PY}{sp:Sp}{dvs:List V}{ds:List OX}{E:St->XK}{x m:PY}{p pos apos:Tz}{e o:Expr}{es:List Expr}{ta:TE}{t:TA}
def Lh(C:OZ)(sp:Sp)(dvs:List V)(E:St->XK)(t:TA):TE:=λa H Q=>t a H λvs b=>vs.length<=Pe/\∀x,b x=OR->
 sp (.ref x::(vs++dvs)) (upd b x (dN C x OR)) (λv c=>v= .non/\Q (.ref x) c) (E a)
theorem JZ{vs:List V}(M:XMk X.K C f)(F:FnOk X.prog X.w X.K X.mg X.base CX k f fd ps sp)(y:Room (k+1) X.A)(B:aA X.K fd ps ds)(hd:ao dvs ds)
  (J:bz CX X E) (I:Inv X pins σ H s) (r:ao vs us) (L:vs.length<=Pe)
  (h:∀x,H x=OR->sp (.ref x::(vs++dvs)) (upd H x (dN C x OR)) (λv N=>v= .non/\Q (.ref x) N) (E σ)):
  Pf (Py X.prog X.w) X.A (UM (.ref C) us) (EP X pins σ Q) X.xe s:=by
 have l:=h (s.heap.objs.size+1) (I.hok.fresh (Tk _));obtain⟨bm,sh⟩:=M.xc.sh;have O:Inv X pins σ H {s with heap:=s.heap.push {cls:= .type "tuple",data:= .seq us.toArray}}:=I.kept (t':=s.toks) λb o q=>OU _ q;have P:((s.heap.push {cls:= .type "tuple",data:= .seq us.toArray}).push (cS C OR s.heap.objs.size)).get? (s.heap.objs.size+1)=on (cS C OR s.heap.objs.size):=by
  have:=Pl (s.heap.push {cls:= .type "tuple",data:= .seq us.toArray}) (o:=cS C OR s.heap.objs.size) rfl;rwa[QD]at this
 have j:Inv X pins σ (upd H (s.heap.objs.size+1) (dN C (s.heap.objs.size+1) OR)) {s with heap:=(s.heap.push {cls:= .type "tuple",data:= .seq us.toArray}).push (cS C OR s.heap.objs.size)}:=
  O.laid (a:=s.heap.objs.size+1) (o:=dN C (s.heap.objs.size+1) OR) (t':=s.toks) (λb u q=>OU _ q) (Xm (QD _ _)) (qJ P)
 have n:ao (V.ref (s.heap.objs.size+1)::(vs++dvs)) (Pj (s.heap.objs.size+1)::(us++ds)):= .cons rfl (r.append hd);have R:(Pj (s.heap.objs.size+1)::us++ds).length=ps.length:=by
  have e:=n.length;rw[F.len _ _ _ _ l]at e;exact e.symm
 have i:Pf (Py X.prog X.w) (X.A.under (.builtin "type.__call__" ⟨.ref C::us,[]⟩)) (UM (.ref f) (.ref (s.heap.objs.size+1)::us)) (λr s'=>r= .none/\EP X pins σ Q (.ref (s.heap.objs.size+1)) s') X.xe
   {s with heap:=(s.heap.push {cls:= .type "tuple",data:= .seq us.toArray}).push (cS C OR s.heap.objs.size)}:=by
  refine T9 (Sv (F.run _ X.stack _ _ ⟨Pj (s.heap.objs.size+1)::us,[]⟩ (Pj (s.heap.objs.size+1)::(us++ds)) _ _ (E σ) (y.make C us [])
   (j.env0.make C us []) (B _ (Pj (s.heap.objs.size+1)::us) j.kIn R) n l) λr s' c=>?_)
  cases r with
  |error e=>exact J pins σ _ _ e s' j c
  |ok fl=>
   cases fl with
   |ret u=>
    obtain⟨v,T,U,W,Y,q3⟩:=j.after c;subst Y;exact⟨W,⟨V.ref (s.heap.objs.size+1),T,U,rfl,q3⟩⟩
   |next=>exact QX c
   |brk=>exact QX c
   |cont=>exact QX c
 obtain⟨Z,g,d,tk,os⟩:=s;exact EV I.kIn (sh _ I.kIn) M.init M.fn (by rw[←r.length];exact L) i
theorem gD(M:XMk X.K C f)(F:FnOk X.prog X.w X.K X.mg X.base CX k f fd ps sp)(g:Room (k+1) X.A)(i:Gl X x)(hm:X.mg x=on (.ref C))(j:aA X.K fd ps ds)(hd:ao dvs ds)(l:bz CX X E)
  (ha:PA X (e::es) t) (b:(x==("__debug__":PY))=OW:=by decide) (n:Pb (e::es) X.env=(OW,Qo e X.env)::Pb es X.env:=by rfl) (c:(Q5 pos (Pb es X.env)).any (·.1)=OW:=by rfl):
  PE X (.Call (.Name x p) (e::es) [] pos) (Lh C sp dvs E t):=by
 intro a s u H Q I h;refine Sx (iw I i hm ?_ b);refine V7 (h₀:=X.base) I.ok.mod.kin M.kp (thn (ha pos a s u H _ I h) λus y ⟨vs,B,d,r,v,q⟩=>⟨d.kIn,?_⟩) n c;exact JZ M F g j hd l d r v q
structure ClsFn (K:Po) (D:OZ) (m:PY) (f:OZ):Prop where
 ga:specialIn K (.ref D) "__getattribute__"=on (on (.builtin "type.__getattribute__"))
 rd:PySem.W.readsIn K D (.type "type")=OV
 fnd:Yx K (.ref D) (.type "type") m=on (.val (.ref f))
 kp:UQ K (.ref f)=OV
theorem j5{D:OZ}(c:ClsFn X.K D m f)(F:FnOk X.prog X.w X.K X.mg X.base CX k f fd ps sp)(j:Room k X.A)(l:Gl X x)(hm:X.mg x=on (.ref D))(n:aA X.K fd ps ds)(hd:ao dvs ds)(q:bz CX X E)
  (ha:PA X (e::es) t) (b:(x==("__debug__":PY))=OW:=by decide) (d:Pb (e::es) X.env=(OW,Qo e X.env)::Pb es X.env:=by rfl) (g:(Q5 pos (Pb es X.env)).any (·.1)=OW:=by rfl)
  (u:Qo (.Call (.Attribute (.Name x p) m apos) (e::es) [] pos) X.env=(do
   let ov ←Qo (.Name x p) X.env
   Sw apos.atName
   let (f,first) ←Te [ov] (UI ov m pl)
   Wp pos f first (Q5 pos (Pb (e::es) X.env)) (R1 pos (Q6 [] X.env))):=by rfl):
  PE X (.Call (.Attribute (.Name x p) m apos) (e::es) [] pos) (HW sp dvs E t):=by
 intro a s v H Q I h;refine V2 (pl:=pl) (iw I l hm ?_ b) u;refine PySem.W.method_cls I.kIn c.ga (PySem.W.cls_value I.kIn c.rd c.fnd rfl ?_);have y:=I.tok (s.toks+1);refine V7 (first:=[]) (h₀:=X.base) I.ok.mod.kin c.kp (thn (ha pos a _ v H _ y h) λus B ⟨vs,J,i,r,q2⟩=>⟨i.kIn,?_⟩) d g
 exact li F j n hd q i r q2
def tVin(K:Po)(t:TA):TE:=λb H Q=>t b H λvs a=>∃x C dx rest,vs= .ref x::rest/\rest.length<=Pe/\a x=on (dN C x dx)/\XC K C/\Q .non (upd a x (dN C x dx))
theorem ym(I:Inv X pins σ H s)(r:ao vs us)
  (h:∃x C dx rest,vs= .ref x::rest/\rest.length<=Pe/\H x=on (dN C x dx)/\XC X.K C/\Q .non (upd H x (dN C x dx))):Pf (Py X.prog X.w) X.A (UM (.builtin "ValueError.__init__") us) (EP X pins σ Q) X.xe s:=by
 obtain⟨x,C,dx,rest,rfl,l,a,c,q⟩:=h;cases r with
 |cons r1 n=>
  cases r1;obtain⟨t0,v⟩:=kz (I.hok x _ a);obtain⟨bm,sh⟩:=c.sh;obtain⟨F,g,d,i,os⟩:=s;refine AN (sh _ I.kIn) v (by rw[←n.length];exact l) λh' j keep=>?_;have y:Inv X pins σ (upd H x (dN C x dx)) ⟨h',g,d,i,os⟩:=I.write (t':=i) (x:=x) (e:=x) (by rw[a];exact Sc) (.inl rfl) (λb u B q=>keep b u B q) ⟨_,j⟩ (qJ j);exact⟨.non,_,y,rfl,q⟩
theorem JE:YX (.type "ValueError")=Ro (.type "type"):=by kernel_rfl
theorem JF:Manifest.isStub "ValueError"=OW:=by decide +kernel
theorem JG{K:Po}:Yx K (.type "ValueError") (.type "type") "__init__"=on (.val (.builtin "ValueError.__init__")):=by kernel_rfl
set_option maxHeartbeats 4000000 in
theorem DA(d:Gl X "ValueError")(hm:X.mg "ValueError"=OR)(ha:PA X (e::es) t)(b:Pb (e::es) X.env=(OW,Qo e X.env)::Pb es X.env:=by rfl)(c:(Q5 pos (Pb es X.env)).any (·.1)=OW:=by rfl)
  (g:Qo (.Call (.Attribute (.Name "ValueError" p) "__init__" apos) (e::es) [] pos) X.env=(do
   let ov ←Qo (.Name "ValueError" p) X.env
   Sw apos.atName
   let (f,first) ←Te [ov] (UI ov "__init__" pl)
   Wp pos f first (Q5 pos (Pb (e::es) X.env)) (R1 pos (Q6 [] X.env))):=by rfl):
  PE X (.Call (.Attribute (.Name "ValueError" p) "__init__" apos) (e::es) [] pos) (tVin X.K t):=by
 intro a s i H Q I h;obtain⟨m,F⟩:=I.fr;refine V2 (pl:=pl) (eW I d hm PyProof.Rows.Boot.«ValueError» ?_) g;refine PySem.W.method_type (v:= .builtin "ValueError.__init__") F I.mod.kin JE JF JG rfl ?_;have j:=I.tok (s.toks+1);exact Vr (thn (ha pos a _ i H _ j h) λus n ⟨vs,q,l,r1,q1⟩=>ym l r1 q1) b c
def Lr(K:Po)(ta g:TE)(f:PY):TS:=λD b H=>g b H λy h=>ta b h λx c=>∃a C,x= .ref a/\c a=on (dN C a OR)/\XC K C/\RA K (.ref C) f=on OR/\
 ∀d,c d=OR->d≠a->D.nx b (upd (upd c d (.xd [(f,y)])) a (dN C a (on d)))
theorem CU{o d:Expr}{f:PY}(ha:PE X o ta)(R:PE X d tv)(hs:Tw d (on (.Attribute o f pos')) pos.line X.env=Ro OW):PS X (.Assign [.Attribute o f pos'] d pos) (Lr X.K ta tv f):=by
 intro l s B H D I h;refine WG (thn (R l s B H _ I h) λu T F=>?_) hs;obtain⟨y,U,W,Y,q⟩:=F;refine thn (ha l T B U _ W q) λZ r h_=>?_;obtain⟨x,L,w,rx,a,C,ex,A,c,n,q2⟩:=h_;subst ex;obtain rfl:Z=Pj a:=rx;obtain⟨t0,N⟩:=kz (w.hok a _ A);obtain⟨cd,c1,c2,c3⟩:=c.cd;refine ET w.kIn N c.sa c1 c2 c3 n λh' O P keep=>?_;have hd:L r.heap.objs.size=OR:=w.fresh;have J:r.heap.objs.size≠a:=RK (Pz N);have od:∃o,h'.get? r.heap.objs.size=on o:=let ⟨o,_,_,e,_⟩:=P;⟨o,e⟩
 have i:∀b o,L b=on o->(∀φ,o≠ .ext φ)->b≠a:=λb o e hn z=>by subst z;rw[A]at e;cases e;exact hn _ rfl
 refine⟨B,_,w.un (h':=h') (t':=r.toks+2) ⟨λb o e j _ _=>keep b o (λz=>by subst z;rw[A]at j;cases j) e,λb o e j _ _=>⟨o.slots,keep b o (λz=>by subst z;rw[A]at j;cases j) e⟩,λb o e j _=>?_,λb o e _=>?_,λb ys e=>?_,λb o ys e=>?_,λb ys e=>?_⟩ λb o e=>?_,q2 _ hd J⟩
 ·rw[upd_ne (λz=>by subst z;rw[A]at j;cases j),upd_ne (Qa (Pz e))];exact j
 ·by_cases z:b=a
  ·subst z;exact⟨_,O⟩
  ·exact⟨o,keep b o z e⟩
 ·rw[upd_ne (i b _ e λ_ z=>by cases z),upd_ne (ne_of_none e hd)];exact e
 ·rw[upd_ne (i b _ e λ_ z=>by cases z),upd_ne (ne_of_none e hd)];exact e
 ·exact⟨#[],by rw[upd_ne (i b _ e λ_ z=>by cases z),upd_ne (ne_of_none e hd),e];simp⟩
 ·by_cases z:b=a
  ·subst z
   rw[ah]at e;cases e;exact qJ O
  ·rw[upd_ne z]at e
   by_cases Q:b=r.heap.objs.size
   ·subst Q
    rw[ah]at e;cases e;refine⟨_,P,λg=>?_⟩;by_cases q:g=f
    ·subst q
     simp only[SL,QZ,Qb];exact Y
    ·have hb:(g==f)=OW:=beq_eq_false_iff_ne.mpr q
     simp only[SL,hb,List.lookup_nil,O3 q];trivial
   ·rw[upd_ne Q]at e
    refine(w.hok b o e).stay (λc v hc q=>keep c v ?_ q) (λc q=>?_) λc ys q=>?_
    ·rcases hc with rfl|hc
     ·exact z
     ·exact i c _ hc λ_ z=>by cases z
    ·rw[upd_ne (i c _ q λ_ z=>by cases z),upd_ne (ne_of_none q hd)];exact q
    ·rw[upd_ne (i c _ q λ_ z=>by cases z),upd_ne (ne_of_none q hd)];exact q
end
def yO(H₀:Hp)(K:Po)(E:XK)(b:TE):TS:=λ_ c H=>b c H λv a=>∃x C dx,v= .ref x/\a x=on (dN C x dx)/\H₀ x=OR/\XC K C/\E (.ref C) OR (fE a x)
section
variable{P:Pt}{w:PV}{K:Po}{mg:PY->Option OX}{base:P7}{N:List PY}{qual:PY}{scope:Scope}{f:OZ}{cd:OX}{A:Qn}{outer:List Wc}{s:O7}{H:Hp}{E:XK}
theorem dg:bz (CXE P w) (dy (CXE P w) P w K mg base N qual scope f cd A outer s H E) (λ_=>E):=λa b c d e s' I h=>Kf (X:=dy (CXE P w) P w K mg base N qual scope f cd A outer s H E) rfl rfl rfl (λ_ _ _ z=>z) I h
theorem dW:bz (CXE P w) X E0:=λ_ _ _ _ _ _ _ h=>by
 obtain⟨_,_,_,_,F⟩:=h;exact F.wish.elim
theorem dn:PassesOwn (Py P w) (A.deeper (TM qual scope s.heap.objs.size f cd)) (TM qual scope s.heap.objs.size f cd) (dy (CXE P w) P w K mg base N qual scope f cd A outer s H E).xe:=PassesOwn.leaving
theorem d6(hd:A.handled=OR)(g:PE (dy (CXE P w) P w K mg base N qual scope f cd A outer s H E) e te):PS (dy (CXE P w) P w K mg base N qual scope f cd A outer s H E) (.Raise (on e) OR pos) (yO H K E te):=by
 intro a i j k D I h;rw[arm_exec_Raise];refine My (Rh ?_);refine AO (env:=(dy (CXE P w) P w K mg base N qual scope f cd A outer s H E).env) (bm:=[]) (dx:=OR) (t0:=0) hd ?_;refine My (thn (g a i j k _ I h) λu o l=>?_);obtain⟨v,p,b,r,x,C,dx,m,ex,n,c,q⟩:=l;refine My (Rh (OT ?_));subst m;obtain rfl:u=Pj x:=r;obtain⟨t0,d⟩:=kz (b.hok x _ ex);obtain⟨bm,sh⟩:=c.sh;exact⟨x,t0,dx,C,bm,rfl,sh _ b.kIn,d,DF (X:=dy (CXE P w) P w K mg base N qual scope f cd A outer s H E) rfl rfl rfl b ex n q⟩
end
structure FunD (K:Po) (x qual:PY) (st:QF) (f:OZ) (fd:PL):Prop where
 ex:∃(oc:OX) (od:Option OZ) (dV kV doc pm:OX) (an:Option OZ) (cdv ct:OX) (osl:Array (Option OX)),
  fd=Tj x qual (iz st) (cw st) (af st) dV kV doc pm an cdv ct/\K.lookup f=on ⟨oc,od,.func fd,osl⟩/\T3 K cdv qual=OV
 kp:UQ K (.ref f)=OV
theorem KK{K:Po}{st:QF}(l:K.lookup f=on ⟨oc,od,.func (Tj x qual (iz st) (cw st) (af st) dV kV doc pm an cdv ct),osl⟩)
  (c:T3 K cdv qual=OV) (k:UQ K (.ref f)=OV):FunD K x qual st f (Tj x qual (iz st) (cw st) (af st) dV kV doc pm an cdv ct):=⟨⟨oc,od,dV,kV,doc,pm,an,cdv,ct,osl,rfl,l,c⟩,k⟩
section
variable{P:Pt}{w:PV}{K:Po}{mg:PY->Option OX}{base:P7}
theorem FunD.okE{st:QF}{N ps:List PY}(F:FunD K x qual st f fd)(S:FnScope N ps (af st))(len:∀vs H Q E,sp vs H Q E->vs.length=ps.length)
  (b:∀(a:OX) (A:Qn) (outer:List Wc) (s:O7) (H:Hp) (vs:List V) (Q:VK) (E:XK),Room k (A.deeper (TM qual (af st) s.heap.objs.size f a))->sp vs H Q E->
   ∃t,PSs (dy (CXE P w) P w K mg base N qual (af st) f a A outer s H E) (cw st) t/\t {nx:=λ_ e=>Q .non e,rt:=Q} (e8 N vs) H):FnOk P w K mg base (CXE P w) (k+1) f fd ps sp:=by
 obtain⟨l,m,n,o,g,p,q,a,ct,h,rfl,i,c⟩:=F.ex;exact IW i c S len λA outer s H vs Q E j d=>b a A outer s H vs Q E j d
theorem FunD.ok{st:QF}{N ps:List PY}(F:FunD K x qual st f fd)(S:FnScope N ps (af st))(len:∀vs H Q E,sp vs H Q E->vs.length=ps.length)
  (b:∀(a:OX) (A:Qn) (outer:List Wc) (s:O7) (H:Hp) (vs:List V) (Q:VK) (E:XK),Room k (A.deeper (TM qual (af st) s.heap.objs.size f a))->sp vs H Q E->
   ∃t,PSs (dy (CXE P w) P w K mg base N qual (af st) f a A outer s H E).nox (cw st) t/\t {nx:=λ_ e=>Q .non e,rt:=Q} (e8 N vs) H):FnOk P w K mg base (CXE P w) (k+1) f fd ps sp:=by
 obtain⟨m,n,o,p,g,r,u,a,ct,i,rfl,j,c⟩:=F.ex;refine IW j c S len λA outer s H vs Q E l d=>?_;obtain⟨t,h,q⟩:=b a A outer s H vs Q E l d;exact⟨t,h.nox,q⟩
end
abbrev TJ:=St->Hp->Nat->(Nat->Hp->Prop)->Prop
def PJ(X:Cx)(es:List Expr)(t:TJ):Prop:=
 ∀(a:List (OZ×PP)) (s:O7) (b:St) (H:Hp) (acc:PY) (Q:VK),Inv X a b H s->acc.length<=Pe->(t b H acc.length λn c=>n<=Pe/\∀z:PY,z.length<=n->Q (.str z) c)->
  Pf (Py X.prog X.w) X.A (joinParts acc (UN es X.env)) (EP X a b Q) X.xe s
noncomputable def jNil:TJ:=λ_ H n Q=>Q n H
def jStr(m:Nat)(t:TJ):TJ:=λa H n Q=>n+m<=Pe/\t a H (n+m) Q
def jInt(b:TE)(t:TJ):TJ:=λa H n Q=>b a H λv c=>∃i,v= .int i/\i.natAbs.log2<1920/\n+1921<=Pe/\∀m,m<=n+1921->t a c m Q
def N4(t:TJ):TE:=λa H Q=>t a H 0 λn b=>n<=Pe/\∀z:PY,z.length<=n->Q (.str z) b
section
variable{X:Cx}{es:List Expr}{t:TJ}{pos:Tz}
theorem LN:PJ X [] jNil:=λa s c H acc Q I b h=>joinParts_nil ⟨.str acc,H,I.tok _,⟨_,rfl⟩,h.2 acc (O9 _)⟩ b
theorem LM{x:PY}(h:PJ X es t)(c:UN (.Constant (.str x) j p::es) X.env=Qo (.Constant (.str x) j p) X.env::UN es X.env:=by rfl):PJ X (.Constant (.str x) j p::es) (jStr x.length t):=by
 intro a s d H acc Q I i f;rw[c];obtain⟨b,g⟩:=f;refine joinParts_cons (XT ?_);have e:(acc++x).length=acc.length+x.length:=strLen_append acc x;exact⟨by rw[e];exact b,h a _ d H (acc++x) Q (I.tok _) (by rw[e];exact b) (by rw[e];exact g)⟩
theorem LO(f:PE X v te)(h:PJ X es t)(g:UN (.FormattedValue v (-1) OR p::es) X.env=Qo (.FormattedValue v (-1) OR p) X.env::UN es X.env:=by rfl):PJ X (.FormattedValue v (-1) OR p::es) (jInt te t):=by
 intro a s c H acc Q I n j;rw[g];refine joinParts_cons (FormattedValue_plain (thn (f a s c H _ I j) λu o ⟨y,k,l,r,i,m,d,w,q⟩=>?_));subst m;obtain⟨A,rfl⟩:=r;refine wpAny_formatField_int d ?_;have e:(acc++P5 (toString i)).length=acc.length+(P5 (toString i)).length:=strLen_append acc _;have B:=int_text_len_1921 d;have b:(acc++P5 (toString i)).length<=Pe:=by rw[e];omega
 refine⟨b,h a _ c k _ Q (l.tok _) b ?_⟩;rw[e];exact q _ (by omega)
theorem Kd(h:PJ X (v1::v2::rest) t):PE X (.JoinedStr (v1::v2::rest) pos) (N4 t):=λa s b H Q I c=>
 JoinedStr_many (h a s b H Ss Q I (by decide) c)
end
section
variable{X:Cx}
theorem rT(g:X.calm=OV):cX X (.builtin "sum") (λxs H Q=>∃(a:OZ) (ns:List Int),xs=[.ref a]/\SqL X.K H a (ns.map V.int)/\Q (.int ns.sum) H):=by
 intro b s n H xs us Q I r h;obtain⟨a,ns,rfl,i,q⟩:=h;cases r with
 |cons r1 j=>
  cases r1;cases j;obtain⟨its,k,p,o⟩:=I.list i;have c:=pK k;obtain⟨xs,ex⟩:=c.allInts.items;have d:=p.isList;rw[ex]at d;refine sum_intListG (I.ok.hd g) d λh' t t' l=>?_;have e:preSum (numAt xs) xs.size=ns.sum:=by
   have f:=c.numsOf;have m:its=(Xx xs).toList:=by rw[←ex]
   rw[m,nums_intItems]at f;rw[preSum_eq,RI (by simp),f]
  rw[e];exact⟨.int ns.sum,H,I.kept l,⟨_,rfl⟩,q⟩
def Jt(i j:Int):Prop:=0<j/\j.natAbs.log2<9000
def ipC(C:Int->Int->Prop)(f:Int->Int->Int):TIp:=λx y H Q=>∃i j,x= .int i/\y= .int j/\C i j/\Q (.int (f i j)) H
theorem KG:PIp X .FloorDiv (ipC Jt λi j=>i/j):=by
 intro a s d H x y v u Q I r1 b h;obtain⟨i,j,rfl,rfl,c,q⟩:=h;obtain⟨t,rfl⟩:=r1;obtain⟨t',rfl⟩:=b;have e:(0:Int)<j:=c.1;refine ifloordiv_int (by omega) ?_ (.inl (PyProof.noPylong_of_log2 c.2));rw[WI _ (by omega)];exact⟨.int _,H,I.tok _,⟨_,rfl⟩,q⟩
theorem yG:∀{cs:List String} {us:List OX},ao (cs.map V.ty) us->us=cs.map RY
 |[],_,r=>by cases r;rfl
 |c::cs,_,r=>by
  cases r with
  |cons r1 a=>
   cases r1;rw[yG a];rfl
end
section
variable{K:Po}
end
theorem yj{K:Po}{xs:List V}(Pv:Nat->St->Hp->Prop)(r:Pv 0 c H)(j:∀i c H,i<=xs.length->Pv i c H->SqL K H a xs)
  (f:∀i x c H,xs[i]?=on x->Pv i c H->g x c H λd t=>tt d t λb p=>if b=OV then tb d p (Pv (i+1))else Pv (i+1) d p) (k:∀c H,Pv xs.length c H->Q c H):cV (Itl K a) g tt tb c H Q:=by
 refine⟨λi m c H=>i<=xs.length/\m+i=xs.length/\Pv i c H,⟨xs.length,QW _,by omega,r⟩,λi m c H ⟨l,hm,h⟩=>?_⟩;by_cases n:i<xs.length
 ·refine .inr ⟨⟨xs,xs[i],j i c H l h,O0 n⟩,Pv (i+1),λu o q=>⟨m-1,by omega,by omega,by omega,q⟩,λx o ⟨e,v⟩=>?_⟩
  subst e;exact f i x c o (v xs (j i c o l h)) h
 ·obtain rfl:i=xs.length:=by omega
  exact .inl ⟨⟨xs,j _ c H l h,O9 _⟩,k c H h⟩
theorem CmpScope.plain{scope:Scope}(k:scope.kind= .function)(nd:(scope.names.map (·.1)).Nodup)(f:∀y∈scope.names,y.2≠ .free):CmpScope X scope vars vars []:=
 ⟨k,nd,λy a e=>PF e (f y a),by simp,λj b=>PF b (by simp)⟩
def tq(i j:Int):Prop:=i.natAbs<2^1000/\j.natAbs<2^1000
theorem jk{k:Int}(h:k.natAbs<2^1000):WA k<=2^20:=by
 unfold WA;split
 ·exact QW _
 ·rename_i a
  have b:k.natAbs≠0:=by
   intro z;have:k=0:=Int.natAbs_eq_zero.mp z;subst this;simp at a
  have:=(X5 b).mpr h;have e:(2:Nat)^20=1048576:=by decide
  omega
theorem Ki:OpR X (R3 .Mult) (rI tq λi j=> .int (i*j)):=opI λ_ _ _ _ _ _ _ a q=>mul_int q (XH (jk a.1) (jk a.2))
theorem bE.upd(h:H a=OR):bE H (upd H a o):=λb u e=>by rw[upd_ne (ne_of_none e h)];exact e
abbrev KyD:=Int×List Int
noncomputable def hI(k:List Int):Int:=reduceHash (TH (k.map hashInt))
def hB:Bool->KyD->Int
 |true,k=>reduceHash (TH [hashInt k.1,hI k.2])
 |false,k=>hI k.2
def yv(a:OZ)(b:Bool)(ep:Nat)(xs:List (KyD×OZ×V))(h:P7):Prop:=
 ∃o es,∃ys:List (KyD×OZ×OX),h.get? a=on o/\o.ExactDict/\o.data= .dict es ep/\es.toList=ys.map (λy=>⟨hB b y.1,.ref y.2.1,y.2.2⟩)/\(ys.map (·.1)).Nodup/\(a==V9)=OW/\ys.length<=Pe/\
  V6 (λ(x:KyD×OZ×V) (y:KyD×OZ×OX)=>x.1=y.1/\x.2.1=y.2.1/\aG x.2.2 y.2.2) xs ys
noncomputable def dP(a:OZ)(b:Bool)(ep:Nat)(xs:List (KyD×OZ×V)):HO:= .ext (yv a b ep xs)
theorem wQ{b:Bool}(S:yv a b ep xs h):bu P w H h a (dP a b ep xs):=by
 refine⟨S,?_,λc d z k=>?_⟩
 ·obtain⟨o,_,_,e,_⟩:=S
  exact⟨o,e⟩
 ·obtain⟨o,es,ys,e,r⟩:=z
  exact⟨o,es,ys,k _ e,r⟩
end L2
namespace L2.Pu
open PySem PySem.Spec PyProof.Rows
theorem ex6{α d e:Sort _}{P Q R:α->d->e->Prop}{C:Prop}(h:∃a b c,P a b c/\Q a b c/\R a b c)(k:∀a b c,P a b c->Q a b c->R a b c->C):C:=by
 obtain⟨a,b,c,x,y,z⟩:=h;exact k a b c x y z
theorem ex5{α c:Sort _}{P Q R:α->c->Prop}{C:Prop}(h:∃a b,P a b/\Q a b/\R a b)(k:∀a b,P a b->Q a b->R a b->C):C:=by
 obtain⟨a,b,x,y,z⟩:=h;exact k a b x y z
inductive D where
 |non|bl (b:Bool)|int (i:Int)|str (x:PY)|ty (n:String)|txt
 |lst (xs:List D)|tup (xs:List D)|scr (xs:List Int)|obj (C:OZ) (ns:List PY) (xs:List D)|bag|adr (a:OZ)|dct (b:Bool) (ks:List KyD) (vs:List D)
structure Bg where
 cells:List Int
 i:Int
 j:Int
structure Fx where
 A:OZ->Prop
 bg:Option (OZ×OZ)
def KL(K:Po)(a:OZ)(xs:List V):Prop:=
 ∃(o:PP) (its:Array OX) (n:Nat),K.lookup a=on o/\o.cls= .type "list"/\o.dict=OR/\o.data= .seq its n/\its.size<=Pe/\ao xs its.toList
def KT(K:Po)(a:OZ)(xs:List V):Prop:=
 ∃(o:PP) (its:Array OX) (n:Nat),K.lookup a=on o/\o.cls= .type "tuple"/\o.data= .seq its n/\its.size<=Pe/\ao xs its.toList
def TQ(K:Po)(F:Fx)(H:Hp)(c:OZ)(xs:List V):Prop:=(¬F.A c/\Rd H c (.tup xs))\/KT K c xs
def hG(K:Po)(F:Fx)(H:Hp):Bool->KyD->OZ->Prop
 |true,k,c=>∃e,TQ K F H c [.int k.1,.ref e]/\TQ K F H e (k.2.map V.int)
 |false,k,c=>k.1=0/\TQ K F H c (k.2.map V.int)
mutual
noncomputable def Den(K:Po)(F:Fx)(H:Hp):D->V->Prop
 | .non,v=>v= .non
 | .bl b,v=>v= .bl b
 | .int i,v=>v= .int i
 | .str x,v=>v= .str x
 | .ty n,v=>v= .ty n
 | .txt,v=>∃z,v= .str z
 | .lst ds,v=>∃a xs,v= .ref a/\(¬F.A a/\Rd H a (.lst xs))/\DenL K F H ds xs
 | .scr ns,v=>∃a,v= .ref a/\((¬F.A a/\Rd H a (.lst (ns.map V.int)))\/KL K a (ns.map V.int))
 | .tup ds,v=>∃a xs,v= .ref a/\((¬F.A a/\Rd H a (.tup xs))\/KT K a xs)/\DenL K F H ds xs
 | .obj C ns ds,v=>∃a dx xs,v= .ref a/\¬F.A a/\H a=on (.ins C dx (ns.zip xs))/\ns.length=xs.length/\DenL K F H ds xs
 | .bag,v=>∃b l,F.bg=on (b,l)/\v= .ref b
 | .adr a,v=>v= .ref a
 | .dct b ks vs,v=>∃a ep xs,v= .ref a/\(¬F.A a/\H a=on (dP a b ep xs))/\ks=xs.map (·.1)/\(∀x∈xs,hG K F H b x.1 x.2.1)/\DenL K F H vs (xs.map (·.2.2))
noncomputable def DenL(K:Po)(F:Fx)(H:Hp):List D->List V->Prop
 |[],xs=>xs=[]
 |d::ds,xs=>∃x r,xs=x::r/\Den K F H d x/\DenL K F H ds r
end
structure Tr (F:Fx) (H:Hp) (F2:Fx) (H2:Hp):Prop where
 av:∀a,¬F.A a->H a≠OR->¬F2.A a
 kp:∀a o,¬F.A a->H a=on o->H2 a=on o
 bg:F2.bg=F.bg
theorem Tr.refl(F:Fx)(H:Hp):Tr F H F H:=⟨λ_ h _=>h,λ_ _ _ h=>h,rfl⟩
theorem Tr.trans(a:Tr F H F1 H1)(b:Tr F1 H1 F2 H2):Tr F H F2 H2:=
 ⟨λx c d=>b.av x (a.av x c d) (by
   cases q:H x with
   |none=>exact PF q d
   |some o=>rw[a.kp x o c q];simp),
  λx o c d=>b.kp x o (a.av x c (by rw[d];simp)) (a.kp x o c d),b.bg.trans a.bg⟩
theorem Rd.tr{F b:Fx}(t:Tr F H b H2)(h:¬F.A a)(r:Rd H a u):¬b.A a/\Rd H2 a u:=by
 rcases r with r|⟨o,r⟩
 ·exact⟨t.av a h (by rw[r];simp),.inl (t.kp a _ h r)⟩
 ·exact⟨t.av a h (by rw[r];simp),.inr ⟨o,t.kp a _ h r⟩⟩
theorem TQ.tr{K:Po}(t:Tr F H F2 H2)(h:TQ K F H c xs):TQ K F2 H2 c xs:=h.imp (λh=>Rd.tr t h.1 h.2) id
theorem hG.tr{K:Po}{b:Bool}(t:Tr F H F2 H2)(h:hG K F H b k c):hG K F2 H2 b k c:=by
 cases b with
 |true=>
  obtain⟨e,a,d⟩:=h;exact⟨e,a.tr t,d.tr t⟩
 |false=>exact⟨h.1,h.2.tr t⟩
mutual
theorem Den.tr{K:Po}(t:Tr F H F2 H2):∀(d:D) (v:V),Den K F H d v->Den K F2 H2 d v
 | .non,v,h=>h
 | .bl b,v,h=>h
 | .int i,v,h=>h
 | .str x,v,h=>h
 | .ty n,v,h=>h
 | .txt,v,h=>h
 | .lst ds,v,h=>by
  unfold Den at h⊢;obtain⟨a,xs,e,c,f⟩:=h;exact⟨a,xs,e,Rd.tr t c.1 c.2,DenL.tr t ds xs f⟩
 | .scr ns,v,h=>by
  unfold Den at h⊢;obtain⟨a,e,c⟩:=h;exact⟨a,e,c.imp (λ⟨p,q⟩=>Rd.tr t p q) id⟩
 | .tup ds,v,h=>by
  unfold Den at h⊢;obtain⟨a,xs,e,c,f⟩:=h;exact⟨a,xs,e,c.imp (λ⟨p,q⟩=>Rd.tr t p q) id,DenL.tr t ds xs f⟩
 | .obj C ns ds,v,h=>by
  unfold Den at h⊢;obtain⟨a,dx,xs,e,c,f,g,j⟩:=h;exact⟨a,dx,xs,e,t.av a c (by rw[f];simp),t.kp a _ c f,g,DenL.tr t ds xs j⟩
 | .bag,v,h=>by
  unfold Den at h⊢;rw[t.bg];exact h
 | .adr a,v,h=>by
  unfold Den at h⊢;exact h
 | .dct b ks vs,v,h=>by
  unfold Den at h⊢;obtain⟨a,ep,xs,e,c,f,g,j⟩:=h;exact⟨a,ep,xs,e,⟨t.av a c.1 (by rw[c.2];simp),t.kp a _ c.1 c.2⟩,f,λx k=>(g x k).tr t,DenL.tr t vs _ j⟩
theorem DenL.tr{K:Po}(t:Tr F H F2 H2):∀(ds:List D) (xs:List V),DenL K F H ds xs->DenL K F2 H2 ds xs
 |[],xs,h=>h
 |d::ds,xs,h=>by
  unfold DenL at h⊢;obtain⟨x,r,e,a,b⟩:=h;exact⟨x,r,e,Den.tr t d x a,DenL.tr t ds r b⟩
end
section
variable{K:Po}{F:Fx}{H:Hp}
theorem DenL.nil:DenL K F H [] []:=rfl
theorem DenL.cons(h:Den K F H d x)(t:DenL K F H ds xs):DenL K F H (d::ds) (x::xs):=⟨x,xs,rfl,h,t⟩
theorem DenL.length:∀{ds:List D} {xs:List V},DenL K F H ds xs->ds.length=xs.length
 |[],xs,h=>by have e:xs=[]:=h;subst e;rfl
 |d::ds,xs,h=>by
  obtain⟨x,r,e,_,a⟩:=h;subst e;rw[Pg,Pg,DenL.length a]
theorem DenL.get:∀{ds:List D} {xs:List V} {i:Nat} {d:D},DenL K F H ds xs->ds[i]?=on d->∃x,xs[i]?=on x/\Den K F H d x
 |[],_,_,_,_,e=>by simp at e
 |c::ds,xs,0,d,h,e=>by
  obtain⟨x,r,q,a,b⟩:=h;subst q;simp at e;subst e;exact⟨x,rfl,a⟩
 |c::ds,xs,i+1,d,h,e=>by
  obtain⟨x,r,q,a,b⟩:=h;subst q;obtain⟨y,f,g⟩:=DenL.get (i:=i) (d:=d) b (by simpa using e);exact⟨y,by simpa using f,g⟩
theorem DenL.getV:∀{ds:List D} {xs:List V} {i:Nat} {x:V},DenL K F H ds xs->xs[i]?=on x->∃d,ds[i]?=on d/\Den K F H d x
 |[],xs,_,_,h,e=>by have q:xs=[]:=h;subst q;simp at e
 |c::ds,xs,0,d,h,e=>by
  obtain⟨x,r,q,a,b⟩:=h;subst q;simp at e;subst e;exact⟨c,rfl,a⟩
 |c::ds,xs,i+1,d,h,e=>by
  obtain⟨x,r,q,a,b⟩:=h;subst q;obtain⟨y,f,g⟩:=DenL.getV (i:=i) (x:=d) b (by simpa using e);exact⟨y,by simpa using f,g⟩
theorem DenL.append:∀{ds es:List D} {xs ys:List V},DenL K F H ds xs->DenL K F H es ys->DenL K F H (ds++es) (xs++ys)
 |[],_,xs,_,h,h'=>by have q:xs=[]:=h;subst q;exact h'
 |c::ds,es,xs,ys,h,h'=>by
  obtain⟨x,r,q,a,b⟩:=h;subst q;exact⟨x,r++ys,rfl,a,DenL.append b h'⟩
theorem DenL.take:∀{ds:List D} {xs:List V} (n:Nat),DenL K F H ds xs->DenL K F H (ds.take n) (xs.take n)
 |[],xs,n,h=>by have q:xs=[]:=h;subst q;simp;rfl
 |c::ds,xs,0,h=>by simp;rfl
 |c::ds,xs,n+1,h=>by
  obtain⟨x,r,q,a,b⟩:=h;subst q;exact⟨x,r.take n,rfl,a,DenL.take n b⟩
theorem DenL.drop:∀{ds:List D} {xs:List V} (n:Nat),DenL K F H ds xs->DenL K F H (ds.drop n) (xs.drop n)
 |[],xs,n,h=>by have q:xs=[]:=h;subst q;simp;rfl
 |c::ds,xs,0,h=>h
 |c::ds,xs,n+1,h=>by
  obtain⟨x,r,q,b,a⟩:=h;subst q;exact DenL.drop n a
theorem DenL.set:∀{ds:List D} {xs:List V} (i:Nat) {d:D} {x:V},DenL K F H ds xs->Den K F H d x->DenL K F H (ds.set i d) (xs.set i x)
 |[],xs,i,_,_,h,_=>by have q:xs=[]:=h;subst q;simp;rfl
 |c::ds,xs,0,d,x,h,hd=>by
  obtain⟨y,r,q,b,a⟩:=h;subst q;exact⟨x,r,rfl,hd,a⟩
 |c::ds,xs,i+1,d,x,h,hd=>by
  obtain⟨y,r,q,b,a⟩:=h;subst q;exact⟨y,r.set i x,rfl,b,DenL.set i a hd⟩
theorem Den.sqL(h:Den K F H (.lst ds) v):∃a xs,v= .ref a/\SqL K H a xs/\DenL K F H ds xs:=by
 unfold Den at h;obtain⟨a,xs,e,b,c⟩:=h;exact⟨a,xs,e,.inl b.2,c⟩
theorem Den.rdL(h:Den K F H (.lst ds) v):∃a xs,v= .ref a/\Rd H a (.lst xs)/\DenL K F H ds xs:=by
 unfold Den at h;obtain⟨a,xs,e,b,c⟩:=h;exact⟨a,xs,e,b.2,c⟩
theorem Den.scr{ns:List Int}(h:Den K F H (.scr ns) v):∃a,v= .ref a/\SqL K H a (ns.map V.int):=by
 unfold Den at h;obtain⟨a,e,b⟩:=h;exact⟨a,e,b.imp (λp=>p.2) id⟩
theorem Den.sqT(h:Den K F H (.tup ds) v):∃a xs,v= .ref a/\SqT K H a xs/\DenL K F H ds xs:=by
 unfold Den at h;obtain⟨a,xs,e,b,c⟩:=h;exact⟨a,xs,e,b.imp (λp=>p.2) id,c⟩
theorem Den.int(h:Den K F H (.int i) v):v= .int i:=h
theorem Den.bl{i:Bool}(h:Den K F H (.bl i) v):v= .bl i:=h
theorem Den.str(h:Den K F H (.str i) v):v= .str i:=h
theorem Den.non(h:Den K F H .non v):v= .non:=h
theorem Den.ty(h:Den K F H (.ty n) v):v= .ty n:=h
theorem DenL.ints:∀(ns:List Int) {xs:List V},DenL K F H (ns.map D.int) xs->xs=ns.map V.int
 |[],xs,h=>h
 |n::ns,xs,h=>by
  obtain⟨x,r,e,a,b⟩:=h;rw[e,DenL.ints ns b];have q:x= .int n:=a;rw[q];rfl
theorem DenL.ofInts:∀(ns:List Int),DenL K F H (ns.map D.int) (ns.map V.int)
 |[]=>rfl
 |n::ns=>⟨.int n,ns.map V.int,rfl,rfl,DenL.ofInts ns⟩
end
structure Fr (F:Fx) (H:Hp) (β:Bg):Prop where
 occ:∀a,F.A a->H a≠OR
 bgA:∀b l,F.bg=on (b,l)->F.A b/\F.A l/\b≠l
 bag:∀b l,F.bg=on (b,l)->H b=on (.lst [.ref l,.int β.i,.int β.j])/\H l=on (.lst (β.cells.map V.int))
structure To (F:Fx) (H H':Hp) (β':Bg):Prop where
 kp:∀a o,H a=on o->(∀b l,F.bg=on (b,l)->a≠b/\a≠l)->H' a=on o
 fr:Fr F H' β'
theorem To.refl(fr:Fr F H β):To F H H β:=⟨λ_ _ h _=>h,fr⟩
theorem To.trans(a:To F H H1 β1)(b:To F H1 H2 β2):To F H H2 β2:=⟨λx o h n=>b.kp x o (a.kp x o h n) n,b.fr⟩
theorem Fr.same(fr:Fr F H β)(s:bE H H'):To F H H' β:=
 ⟨λa o h _=>s a o h,⟨λa h q=>(by
  cases e:H a with
  |none=>exact fr.occ a h e
  |some o=>exact PF ((s a o e).symm.trans q) (by simp)),fr.bgA,λb l e=>⟨s _ _ (fr.bag b l e).1,s _ _ (fr.bag b l e).2⟩⟩⟩
theorem Fr.upd(fr:Fr F H β)(o:HO)(h:H p=OR):To F H (upd H p o) β:=fr.same (bE.upd h)
theorem Fr.fresh{F:Fx}(fr:Fr F H β)(h:H p=OR):¬F.A p:=λq=>fr.occ p q h
theorem To.tr(fr:Fr F H β)(t:To F H H' β'):Tr F H F H':=
 ⟨λ_ h _=>h,λa o h e=>t.kp a o e λb l q=>⟨λz=>h (z▸(fr.bgA b l q).1),λz=>h (z▸(fr.bgA b l q).2.1)⟩,rfl⟩
abbrev Dn:=List (Option D)
structure VOk (K:Po) (F:Fx) (H:Hp) (δ:Dn) (σ:St):Prop where
 len:δ.length=σ.length
 tell:∀(i:Nat) (d:D),δ[i]?=on (on d)->∃v,σ[i]?=on (on v)/\Den K F H d v
theorem VOk.tr{K:Po}(t:Tr F H F2 H2)(h:VOk K F H δ σ):VOk K F2 H2 δ σ:=⟨h.len,λi d e=>let ⟨v,h1,h2⟩:=h.tell i d e;⟨v,h1,Den.tr t d v h2⟩⟩
theorem VOk.set{K:Po}{δ:Dn}{a:St}(h:VOk K F H δ a)(hd:Den K F H d v):VOk K F H (δ.set i (on d)) (a.set i (on v)):=by
 refine⟨by rw[Qi,Qi,h.len],λj c e=>?_⟩;rw[Qq]at e;rw[Qq];by_cases q:i=j
 ·subst q
  rw[O8 rfl]at e⊢;split at e
  ·rename_i b
   cases e;rw[O8 (by rw[←h.len];exact b)];exact⟨v,rfl,hd⟩
  ·cases e
 ·rw[O3 q]at e⊢
  exact h.tell j c e
def Sub(δ δ1:Dn):Prop:=∀(i:Nat) (d:D),δ[i]?=on (on d)->δ1[i]?=on (on d)
theorem VOk.sub{K:Po}{δ δ1:Dn}(h:VOk K F H δ1 σ)(s:Sub δ δ1)(l:δ.length=δ1.length):VOk K F H δ σ:=⟨l.trans h.len,λi d e=>h.tell i d (s i d e)⟩
abbrev M(α:Type):=Bg->Option (Except OZ α×Bg)
noncomputable def M.ret{α:Type}(a:α):M α:=λβ=>on (.ok a,β)
noncomputable def M.bind{α b:Type}(m:M α)(k:α->M b):M b:=λβ=>match m β with
 |none=>OR
 |some (.error C,β1)=>on (.error C,β1)
 |some (.ok a,β1)=>k a β1
noncomputable def M.ofO{α:Type}(o:Option α):M α:=λβ=>match o with
 |some a=>on (.ok a,β)
 |none=>OR
noncomputable def M.fail{α:Type}:M α:=λ_=>OR
theorem M.bind_some{α b:Type}(a:α)(k:α->M b):M.bind (M.ofO (on a)) k=k a:=rfl
theorem M.bind_ok{α b:Type}{m:M α}{k:α->M b}{β β1:Bg}{a:α}(h:m β=on (.ok a,β1)):M.bind m k β=k a β1:=by unfold M.bind;rw[h]
theorem M.bind_err{α a:Type}{m:M α}{k:α->M a}{β β1:Bg}{C:OZ}(h:m β=on (.error C,β1)):M.bind m k β=on (.error C,β1):=by unfold M.bind;rw[h]
def run{α c:Type}(R:Hp->α->c->Prop)(F:Fx)(E:St->XK)(e:St)(m:M α)(H:Hp)(Q:c->Hp->Prop)(β:Bg):Prop:=
 ∃r a,m β=on (r,a)/\match r with
  | .ok d=>∀v b,To F H b a->R b d v->Q v b
  | .error C=>∀b,To F H b a->E e (.ref C) OR b
theorem run.mono{α c:Type}{R:Hp->α->c->Prop}{F:Fx}{E:St->XK}{g:St}{m:M α}{H:Hp}{Q i:c->Hp->Prop}{β:Bg}(h:run R F E g m H Q β)(f:∀v a,Q v a->i v a):run R F E g m H i β:=by
 obtain⟨r,b,e,h⟩:=h;refine⟨r,b,e,?_⟩;cases r with
 |ok d=>exact λv a t q=>f v a (h v a t q)
 |error C=>exact h
theorem run.bind{α l i j:Type}{R:Hp->α->l->Prop}{R2:Hp->i->j->Prop}{F:Fx}{E:St->XK}{b:St}{m:M α}{k:α->M i}{H:Hp}{Q:j->Hp->Prop}{β:Bg}(h:run R2 F E b (M.bind m k) H Q β):
  run R F E b m H (λv a=>∃d β1,To F H a β1/\R a d v/\run R2 F E b (k d) a Q β1) β:=by
 obtain⟨r,c,e,h⟩:=h;cases q:m β with
 |none=>unfold M.bind at e;rw[q]at e;cases e
 |some z=>
  obtain⟨r1,β1⟩:=z;refine⟨r1,β1,q,?_⟩;cases r1 with
  |error C=>
   rw[M.bind_err q]at e;cases e;exact h
  |ok d=>
   rw[M.bind_ok q]at e;intro v a t hd;refine⟨d,β1,t,hd,r,c,e,?_⟩;cases r with
   |ok d2=>exact λn f g o=>h n f (t.trans g) o
   |error C=>exact λf g=>h f (t.trans g)
theorem run.ret{α b:Type}{R:Hp->α->b->Prop}{F:Fx}{E:St->XK}{c:St}{a:α}{v:b}{H:Hp}{Q:b->Hp->Prop}{β:Bg}(fr:Fr F H β)(h:run R F E c (M.ret a) H Q β)(r:R H a v):Q v H:=by
 obtain⟨_,_,e,h⟩:=h;cases e;exact h v H (To.refl fr) r
theorem run.ofO{α c:Type}{R:Hp->α->c->Prop}{F:Fx}{E:St->XK}{d:St}{o:Option α}{H:Hp}{Q:c->Hp->Prop}{β:Bg}(h:run R F E d (M.ofO o) H Q β):∃a,o=on a/\∀v b,To F H b β->R b a v->Q v b:=by
 obtain⟨_,_,e,h⟩:=h;cases o with
 |none=>cases e
 |some a=>cases e;exact⟨a,rfl,h⟩
abbrev FD:=Dn->M D
abbrev FL:=Dn->M (List D)
def tV(K:Po)(f:FD)(E:St->XK):TE:=λa H Q=>∃F δ β,Fr F H β/\VOk K F H δ a/\run (Den K F) F E a (f δ) H Q β
def tVA(K:Po)(f:FL)(E:St->XK):TA:=λa H Q=>∃F δ β,Fr F H β/\VOk K F H δ a/\run (DenL K F) F E a (f δ) H Q β
def tVT(K:Po)(f:Dn->M Bool)(E:St->XK):TT:=λc H Q=>∃F δ β,Fr F H β/\VOk K F H δ c/\run (λ_ (a b:Bool)=>b=a) F E c (f δ) H Q β
theorem _root_.L2.PE.imp(h:PE X e t)(f:∀a H Q,t' a H Q->t a H Q):PE X e t':=λb s a H Q I q=>h b s a H Q I (f a H Q q)
theorem _root_.L2.PT.imp(h:PT X e t)(f:∀a H Q,t' a H Q->t a H Q):PT X e t':=λb s a H Q I q=>h b s a H Q I (f a H Q q)
theorem _root_.L2.PW.imp(h:PW X e t)(f:∀a H Q,t' a H Q->t a H Q):PW X e t':=λc b s a H Q I q=>h c b s a H Q I (f a H Q q)
theorem _root_.L2.PA.imp(h:PA X e t)(f:∀a H Q,t' a H Q->t a H Q):PA X e t':=λpos b s a H Q I q=>h pos b s a H Q I (f a H Q q)
def ae(i:Nat):FD:=λδ=>M.ofO (δ.getD i OR)
def fC(d:D):FD:=λ_=>M.ret d
def f1(op:D->Option D)(f:FD):FD:=λδ=>M.bind (f δ) λa=>M.ofO (op a)
def f2(op:D->D->Option D)(f g:FD):FD:=λδ=>M.bind (f δ) λa=>M.bind (g δ) λb=>M.ofO (op a b)
noncomputable def aq:FL:=λ_=>M.ret []
def aa(f:FD)(g:FL):FL:=λδ=>M.bind (f δ) λa=>M.bind (g δ) λas=>M.ret (a::as)
def az(op:List D->Option D)(g:FL):FD:=λδ=>M.bind (g δ) λas=>M.ofO (op as)
def ck(m:List D->M D)(g:FL):FD:=λδ=>M.bind (g δ) λas=>m as
section
variable{X:Cx}{E:St->XK}{e a b:Expr}{es:List Expr}{pos:Tz}
theorem NU(i:Nat)(h:PE X (.Name x pos) (ql i)):PE X (.Name x pos) (tV X.K (ae i) E):=h.imp λl H Q c=>by
 obtain⟨F,δ,β,fr,f,r⟩:=c;obtain⟨d,e,r⟩:=run.ofO r;have g:δ[i]?=on (on d):=by
  rw[O1]at e;cases q:δ[i]? with
  |none=>rw[q]at e;cases e
  |some z=>rw[q]at e;simp at e;rw[e]
 obtain⟨v,j,k⟩:=f.tell i d g;exact⟨v,j,r v H (To.refl fr) k⟩
theorem v_c(h:PE X e (tC v))(hd:∀F H,Den X.K F H d v):PE X e (tV X.K (fC d) E):=h.imp λf H Q c=>by obtain⟨F,δ,β,fr,g,r⟩:=c;exact run.ret fr r (hd F H)
theorem aw{i j pos}:PE X (.Constant (.int i) j pos) (tV X.K (fC (.int i)) E):=v_c bL λ_ _=>rfl
theorem f9{i j pos}:PE X (.Constant (.bool i) j pos) (tV X.K (fC (.bl i)) E):=v_c Oe λ_ _=>rfl
theorem sG{j pos}:PE X (.Constant .none j pos) (tV X.K (fC .non) E):=v_c LW λ_ _=>rfl
theorem NV{i j pos}:PE X (.Constant (.str i) j pos) (tV X.K (fC (.str i)) E):=v_c o8 λ_ _=>rfl
theorem gv:PA X [] (tVA X.K aq E):=d7.imp λd H Q c=>by obtain⟨F,δ,β,fr,f,r⟩:=c;exact run.ret fr r DenL.nil
theorem ir(ha:PE X e (tV X.K f E))(k:PA X es (tVA X.K g E))(hs:Pb (e::es) X.env=(OW,Qo e X.env)::Pb es X.env:=by rfl):PA X (e::es) (tVA X.K (aa f g) E):=
 (bt ha k hs).imp λm H Q c=>ex6 c λF δ β fr i r=>⟨F,δ,β,fr,i,(run.bind (R:=Den X.K F) r).mono λv n ⟨d,β1,t,hd,r1⟩=>
  ⟨F,δ,β1,t.fr,i.tr (t.tr fr),(run.bind (R:=DenL X.K F) r1).mono λvs o c=>ex5 c λds β2 j h l=>run.ret j.fr l (DenL.cons (Den.tr (j.tr t.fr) _ _ hd) h)⟩⟩
def aV(K:Po)(r:R2)(op:D->D->Option D):Prop:=∀(F:Fx) (H:Hp) (β:Bg) (Q:VK) (d1 d2 d:D) (f g:V),Fr F H β->Den K F H d1 f->Den K F H d2 g->op d1 d2=on d->
 (∀v c,To F H c β->Den K F c d v->Q v c)->r f g H Q
def Js(K:Po)(r:V->Hp->VK->Prop)(op:D->Option D):Prop:=∀(F:Fx) (H:Hp) (β:Bg) (Q:VK) (d1 d:D) (f:V),Fr F H β->Den K F H d1 f->op d1=on d->
 (∀v c,To F H c β->Den K F c d v->Q v c)->r f H Q
def dO(K:Po)(r:List V->Hp->VK->Prop)(op:List D->Option D):Prop:=∀(F:Fx) (H:Hp) (β:Bg) (Q:VK) (ds:List D) (d:D) (vs:List V),Fr F H β->DenL K F H ds vs->op ds=on d->
 (∀v c,To F H c β->Den K F c d v->Q v c)->r vs H Q
theorem oH{K:Po}(l:aV K r op)(h:tV K (f2 op f g) E σ H Q):tOp r (tV K f E) (tV K g E) σ H Q:=by
 obtain⟨F,δ,β,fr,j,h⟩:=h;refine⟨F,δ,β,fr,j,(run.bind (R:=Den K F) h).mono λv u c=>ex5 c λd β1 t hd r1=>⟨F,δ,β1,t.fr,j.tr (t.tr fr),(run.bind (R:=Den K F) r1).mono λn o c=>ex5 c λd2 β2 m i p=>?_⟩⟩;obtain⟨d3,q,k⟩:=run.ofO p;exact l F o β2 Q d d2 d3 v n m.fr (Den.tr (m.tr t.fr) _ _ hd) i q k
theorem bB(c:OpR X (R3 op) r)(l:aV X.K r o)(ha:PE X a (tV X.K f E))(d:PE X b (tV X.K g E)):PE X (.BinOp a op b pos) (tV X.K (f2 o f g) E):=
 (dH c ha d).imp λ_ _ _=>oH l
theorem eC(c:OpR X (QC op) r)(l:aV X.K r o)(ha:PE X a (tV X.K f E))(d:PE X b (tV X.K g E))(hm:SD op b=OW:=by first|exact pi _|rfl):PE X (.Compare a [op] [b] pos) (tV X.K (f2 o f g) E):=
 (Ke c ha d hm).imp λ_ _ _=>oH l
theorem v_un(g:UnR X (unaryOp op) r)(l:Js X.K r o)(ha:PE X a (tV X.K f E)):PE X (.UnaryOp op a pos) (tV X.K (f1 o f) E):=
 (Od g ha).imp λm H Q c=>ex6 c λF δ β fr i h=>⟨F,δ,β,fr,i,(run.bind (R:=Den X.K F) h).mono λv j c=>ex5 c λd β1 t hd r1=>let ⟨d3,e3,k⟩:=run.ofO r1;l F j β1 Q d d3 v t.fr hd e3 k⟩
theorem cI(c:IxR X r)(l:aV X.K r o)(ha:PE X a (tV X.K f E))(d:PE X b (tV X.K g E))(hs:wY b:=by exact λ_ _=>rfl):PE X (.Subscript a b pos) (tV X.K (f2 o f g) E):=
 (gr c ha d hs).imp λ_ _ _=>oH l
theorem yS{K:Po}(l:dO K r op)(h:tV K (az op g) E σ H Q):tCB r (tVA K g E) σ H Q:=by
 obtain⟨F,δ,β,fr,c,h⟩:=h;refine⟨F,δ,β,fr,c,(run.bind (R:=DenL K F) h).mono λv f i=>ex5 i λd β1 t hd r1=>?_⟩;obtain⟨d3,j,k⟩:=run.ofO r1;exact l F f β1 Q d d3 v t.fr hd j k
theorem bT{f:String}(h:cX X (.builtin f) r)(l:dO X.K r op)(i:Gl X x)(hm:X.mg x=OR)(j:Td x=on (.builtin f))(ha:PA X (e::es) (tVA X.K g E))(hn:x≠"__name__":=by decide)(c:(x==("__debug__":PY))=OW:=by decide)
  (k:Pb (e::es) X.env=(OW,Qo e X.env)::Pb es X.env:=by rfl) (d:(Q5 pos (Pb es X.env)).any (·.1)=OW:=by rfl):PE X (.Call (.Name x p) (e::es) [] pos) (tV X.K (az op g) E):=
 (j6 h i hm j ha hn c k d).imp λ_ _ _=>yS l
theorem bN(f:cX X (.type T) r)(l:dO X.K r op)(h:Gl X x)(hm:X.mg x=OR)(i:Td x=on (.type T))(ha:PA X (e::es) (tVA X.K g E))(hn:x≠"__name__":=by decide)(c:(x==("__debug__":PY))=OW:=by decide)
  (j:Pb (e::es) X.env=(OW,Qo e X.env)::Pb es X.env:=by rfl) (d:(Q5 pos (Pb es X.env)).any (·.1)=OW:=by rfl):PE X (.Call (.Name x p) (e::es) [] pos) (tV X.K (az op g) E):=
 (zx f h hm i ha hn c j d).imp λ_ _ _=>yS l
noncomputable def cj(ds:List D):Option D:=if ds.length<=Pe then on (.tup ds)else OR
noncomputable def eG(ds:List D):Option D:=if ds.length<=Pe then on (.lst ds)else OR
theorem Den.newT{K:Po}(fr:Fr F H β)(h:H p=OR)(hd:DenL K F H ds xs):Den K F (upd H p (.tup xs)) (.tup ds) (.ref p):=
 ⟨p,xs,rfl,.inl ⟨fr.fresh h,.inl ah⟩,DenL.tr ((fr.upd _ h).tr fr) _ _ hd⟩
theorem Den.newL{K:Po}(fr:Fr F H β)(h:H p=OR)(hd:DenL K F H ds xs):Den K F (upd H p (.lst xs)) (.lst ds) (.ref p):=
 ⟨p,xs,rfl,⟨fr.fresh h,.inl ah⟩,DenL.tr ((fr.upd _ h).tr fr) _ _ hd⟩
theorem cT{x1}(h:PA X es (tVA X.K g E)):PE X (.Tuple es x1 pos) (tV X.K (az cj g) E):=
 (LT h).imp λj H Q d=>ex6 d λF δ β fr i r=>⟨F,δ,β,fr,i,(run.bind (R:=DenL X.K F) r).mono λvs l d=>by
  obtain⟨ds,β1,t,hd,r1⟩:=d;obtain⟨d3,c,k⟩:=run.ofO r1;unfold cj at c;split at c
  ·cases c
   exact⟨by rw[←hd.length];assumption,λp f=>k _ _ (t.fr.upd _ f) (Den.newT t.fr f hd)⟩
  ·cases c⟩
theorem fR(h:PA X es (tVA X.K g E)):PE X (.List es pos) (tV X.K (az eG g) E):=
 (gC h).imp λj H Q d=>ex6 d λF δ β fr i r=>⟨F,δ,β,fr,i,(run.bind (R:=DenL X.K F) r).mono λvs l d=>by
  obtain⟨ds,β1,t,hd,r1⟩:=d;obtain⟨d3,c,k⟩:=run.ofO r1;unfold eG at c;split at c
  ·cases c
   exact⟨by rw[←hd.length];assumption,λp f=>k _ _ (t.fr.upd _ f) (Den.newL t.fr f hd)⟩
  ·cases c⟩
end
def spF(K:Po)(n:Nat)(m:List D->M D):Sp:=λvs H Q E=>vs.length=n/\∃F ds β,Fr F H β/\DenL K F H ds vs/\run (Den K F) F (λ_=>E) [] (m ds) H Q β
section
variable{X:Cx}{E:St->XK}{e:Expr}{es:List Expr}{pos p:Tz}{x:PY}{k n:Nat}{f:OZ}{fd:PL}{ps:List PY}
theorem run.toE{α a:Type}{R:Hp->α->a->Prop}{F:Fx}{E:St->XK}{b:St}{m:M α}{H:Hp}{Q:a->Hp->Prop}{β:Bg}(h:run R F E b m H Q β):run R F (λ_=>E b) [] m H Q β:=h
theorem yF(G:FnOk X.prog X.w X.K X.mg X.base (CXE X.prog X.w) k f fd ps (spF X.K n m))(l:Room k X.A)(o:Gl X x)(hm:X.mg x=on (.ref f))(q:UQ X.K (.ref f)=OV)(u:aA X.K fd ps [])(v:bz (CXE X.prog X.w) X E)
  (ha:PA X (e::es) (tVA X.K g E)) (hn:∀δ β r c,g δ β=on (.ok r,c)->r.length=n) (a:(x==("__debug__":PY))=OW:=by decide) (y:Pb (e::es) X.env=(OW,Qo e X.env)::Pb es X.env:=by rfl) (b:(Q5 pos (Pb es X.env)).any (·.1)=OW:=by rfl):
  PE X (.Call (.Name x p) (e::es) [] pos) (tV X.K (ck m g) E):=
 (mx G l o hm q u .nil v ha a y b).imp λO H Q B=>ex6 B λF δ β fr I r=>⟨F,δ,β,fr,I,by
  obtain⟨r0,d,i,j⟩:=run.bind (R:=DenL X.K F) r;refine⟨r0,d,i,?_⟩;cases r0 with
  |error C=>exact j
  |ok ds=>
   intro vs J t hd;obtain⟨d',β1,L,h,r1⟩:=j vs J t hd;have N:=hn _ _ _ _ i;refine⟨by rw[PN,←hd.length,N],F,d',β1,L.fr,by rw[PN];exact h,run.toE r1⟩⟩
end
theorem HE{r:List D}(h:aq δ β=on (.ok r,β')):r.length=0:=by cases h;rfl
theorem aF(b:∀δ β r a,g δ β=on (.ok r,a)->r.length=n):∀δ β r a,aa f g δ β=on (.ok r,a)->r.length=n+1:=by
 intro δ β r a h;unfold aa M.bind at h;split at h
 ·cases h
 ·cases h
 ·dsimp only at h
  split at h
  ·cases h
  ·cases h
  ·rename_i as _ c
   cases h;rw[Pg,b _ _ _ _ c]
section
variable{X:Cx}{K:Po}
noncomputable def opI(g:Int->Int->Option D):D->D->Option D
 | .int i,.int j=>g i j
 |_,_=>OR
theorem iM(h:opI g a b=on d):∃i j,a= .int i/\b= .int j/\g i j=on d:=by
 cases a<;>cases b<;>first|(exact⟨_,_,rfl,rfl,h⟩)|(cases h)
theorem zZ{g:Int->Int->Int}:aV K (rI0 λi j=> .int (g i j)) (opI λi j=>on (.int (g i j))):=λF H β Q d1 d2 d c f fr a b e k=>by
 obtain⟨i,j,rfl,rfl,e⟩:=iM e;cases e;exact⟨i,j,a,b,k _ H (To.refl fr) rfl⟩
theorem kh{g:Int->Int->Bool}:aV K (rI0 λi j=> .bl (g i j)) (opI λi j=>on (.bl (g i j))):=λF H β Q d1 d2 d c f fr a b e k=>by
 obtain⟨i,j,rfl,rfl,e⟩:=iM e;cases e;exact⟨i,j,a,b,k _ H (To.refl fr) rfl⟩
theorem zY{C:Int->Int->Prop}{c:Int->Int->Bool}{g:Int->Int->Int}(b:∀i j,c i j=OV->C i j):aV K (rI C λi j=> .int (g i j)) (opI λi j=>if c i j=OV then on (.int (g i j))else OR):=λF H β Q d1 d2 d l m fr f h e k=>by
 obtain⟨i,j,rfl,rfl,a⟩:=iM e;split at a
 ·cases a
  exact⟨i,j,f,h,b _ _ (by assumption),k _ H (To.refl fr) rfl⟩
 ·cases a
noncomputable def gy(i:Int):Bool:=decide (i.natAbs<2^1000)
def Ll:D->D->Option D:=opI λi j=>on (.int (i-j))
def IX:D->D->Option D:=opI λi j=>if(decide (0<j)&&decide (j.natAbs.log2<9000))=OV then on (.int (i/j))else OR
def modD:D->D->Option D:=opI λi j=>if decide (0<j)=OV then on (.int (i % j))else OR
def ltD:D->D->Option D:=opI λi j=>on (.bl (decide (i<j)))
def leD:D->D->Option D:=opI λi j=>on (.bl (decide (i<=j)))
def gtD:D->D->Option D:=opI λi j=>on (.bl (decide (j<i)))
def geD:D->D->Option D:=opI λi j=>on (.bl (decide (j<=i)))
theorem kj:aV K (rI0 λi j=> .int (i-j)) Ll:=zZ
theorem uK:aV K (rI0 λi j=> .bl (decide (i<j))) ltD:=kh
theorem nX:aV K (rI0 λi j=> .bl (decide (i<=j))) leD:=kh
theorem EC:aV K (rI0 λi j=> .bl (decide (j<i))) gtD:=kh
noncomputable def xy:R2:=λx y H Q=>∃l b xs a,x= .ref l/\y= .ref b/\Rd H l (.lst xs)/\Rd H b (.lst a)/\xs.length+a.length<=Pe/\∀p,H p=OR->Q (.ref p) (upd H p (.lst (xs++a)))
theorem Kk:OpR X (R3 .Add) xy:=by
 intro c s k H x y v u Q I f g h;obtain⟨l,b,xs,m,rfl,rfl,i,hB,o,q⟩:=h;cases f;cases g;obtain⟨z,its,n,r,e⟩:=i.ok I.hok;obtain⟨p,a,t,d,j⟩:=hB.ok I.hok;have w:=r.length;have A:=d.length;refine X8 e j ?_ (by simp only[Ps];omega);rw[show its.toArray++a.toArray=(its++a).toArray by simp];exact⟨.ref _,_,I.lnew (t':=s.toks) (r.append d) (by rw[Pn];omega),rfl,q _ I.fresh⟩
def xz(K:Po):R2:=λx y H Q=>∃a b ys,x= .ref a/\y= .ref b/\SqT K H a []/\SqT K H b ys/\Q (.ref b) H
theorem Kl:OpR X (R3 .Add) (xz X.K):=by
 intro i s C H x y v u Q I m o h;obtain⟨a,b,ys,rfl,rfl,ha,p,q⟩:=h;cases m;cases o;obtain⟨its,r1,r,_⟩:=I.tuple ha;obtain⟨j,F,t,_⟩:=I.tuple p;cases r1;obtain⟨⟨c1,d1,w,f⟩,k,l,n,hd⟩:=r;obtain⟨⟨c2,d2,A,g⟩,c,d,B,e⟩:=t;simp only at l hd d e;subst l hd d e;exact PySem.concat_meets ⟨_,k,rfl⟩ ⟨_,c,rfl⟩ WP Yj UK UC (Uo _ _) (tuple_addW0 a b _ _ n B d1 d2 f g (by simp)) ⟨k,c,⟨.ref b,H,I,rfl,q⟩⟩
noncomputable def kG:D->D->Option D
 | .int i,.int j=>on (.int (i+j))
 | .tup [],.tup b=>on (.tup b)
 | .lst a,.lst b=>if a.length+b.length<=Pe then on (.lst (a++b))else OR
 | .tup (c::a),.tup b=>if(c::a).length+b.length<=Pe then on (.tup (c::a++b))else OR
 |_,_=>OR
theorem cU:aV K (λx y H Q=>(rI0 λi j=> .int (i+j)) x y H Q\/xy x y H Q\/xx K x y H Q\/xz K x y H Q) kG:=λF H β Q d1 d2 d t u fr g h e k=>by
 unfold kG at e;split at e
 ·cases e
  exact .inl ⟨_,_,g,h,k _ H (To.refl fr) rfl⟩
 ·cases e
  obtain⟨a,xs,rfl,r1,c⟩:=Den.sqT g;obtain⟨b,ys,rfl,l,f⟩:=Den.sqT h;have q:xs=[]:=c;subst q;exact .inr (.inr (.inr ⟨a,b,ys,rfl,rfl,r1,l,k _ H (To.refl fr) h⟩))
 ·split at e
  ·cases e
   obtain⟨a,xs,rfl,r1,c⟩:=Den.rdL g;obtain⟨b,ys,rfl,l,f⟩:=Den.rdL h;exact .inr (.inl ⟨a,b,xs,ys,rfl,rfl,r1,l,by rw[←c.length,←f.length];assumption,λp m=>k _ _ (fr.upd _ m) (Den.newL fr m (c.append f))⟩)
  ·cases e
 ·split at e
  ·cases e
   obtain⟨a,xs,rfl,r1,c⟩:=Den.sqT g;obtain⟨b,ys,rfl,l,f⟩:=Den.sqT h;have n:=c.length;have o:=f.length;refine .inr (.inr (.inl ⟨a,b,xs,ys,rfl,rfl,r1,l,(λz=>by subst z;cases n),by rw[←n,←o];assumption,λz=>?_,λ_ p m=>k _ _ (fr.upd _ m) (Den.newT fr m (c.append f))⟩));subst z;have r:=UT.mp o;subst r;rw[PN]at k;exact k _ H (To.refl fr) g
  ·cases e
 ·cases e
theorem aY:OpR X (R3 .Add) (λx y H Q=>(rI0 λi j=> .int (i+j)) x y H Q\/xy x y H Q\/xx X.K x y H Q\/xz X.K x y H Q):=pf.or (Kk.or (Kj.or Kl))
def DN:D->D->Option D:=opI λi j=>if(gy i&&gy j)=OV then on (.int (i*j))else OR
theorem Ot:aV K (rI tq λi j=> .int (i*j)) DN:=zY λi j h=>by
 simp only[PU,gy,P3]at h;exact h
noncomputable def eqS:D->D->Option Bool
 | .non,.non=>on OV
 | .int i,.int j=>on (decide (i=j))
 | .bl i,.bl j=>on (decide (i=j))
 | .str i,.str j=>on (decide (i=j))
 | .int _,.str _=>on OW
 | .str _,.int _=>on OW
 | .bl _,.str _=>on OW
 | .str _,.bl _=>on OW
 | .non,.int _=>on OW
 | .int _,.non=>on OW
 | .non,.str _=>on OW
 | .str _,.non=>on OW
 |_,_=>OR
theorem AT{c:Bool}(h:eqS a b=on c)(d:Den K F H a v)(e:Den K F H b w):CK v w=OV/\decide (v=w)=c:=by
 unfold eqS at h;split at h<;>first
  |(cases h;cases d.int;cases e.int;exact⟨rfl,by simp⟩)
  |(cases h;cases d.bl;cases e.bl;exact⟨rfl,by simp⟩)
  |(cases h;cases d.str;cases e.str;exact⟨rfl,by simp⟩)
  |(cases h;cases d.non;cases e.non;exact⟨rfl,by simp⟩)
  |(cases h;cases d.int;cases e.str;exact⟨rfl,rfl⟩)
  |(cases h;cases d.str;cases e.int;exact⟨rfl,rfl⟩)
  |(cases h;cases d.bl;cases e.str;exact⟨rfl,rfl⟩)
  |(cases h;cases d.str;cases e.bl;exact⟨rfl,rfl⟩)
  |(cases h;cases d.non;cases e.int;exact⟨rfl,rfl⟩)
  |(cases h;cases d.int;cases e.non;exact⟨rfl,rfl⟩)
  |(cases h;cases d.non;cases e.str;exact⟨rfl,rfl⟩)
  |(cases h;cases d.str;cases e.non;exact⟨rfl,rfl⟩)
  |cases h
noncomputable def isN:D->Bool
 | .non=>OV
 |_=>OW
theorem Mu(h:Den K F H d v):decide (v= .non)=isN d:=by
 cases d with
 |non=>cases h.non;rfl
 |bl b=>cases h.bl;rfl
 |int b=>cases h.int;rfl
 |str b=>cases h.str;rfl
 |ty b=>cases h.ty;rfl
 |txt=>unfold Den at h;obtain⟨z,rfl⟩:=h;rfl
 |lst ds=>obtain⟨a,xs,rfl,_⟩:=Den.sqL h;rfl
 |tup ds=>obtain⟨a,xs,rfl,_⟩:=Den.sqT h;rfl
 |scr ds=>obtain⟨a,rfl,_⟩:=Den.scr h;rfl
 |obj C ns ds=>
  unfold Den at h;obtain⟨a,_,_,rfl,_⟩:=h;rfl
 |bag=>
  unfold Den at h;obtain⟨a,_,_,rfl⟩:=h;rfl
 |adr a=>
  unfold Den at h;obtain rfl:=h;rfl
 |dct b ks vs=>
  unfold Den at h;obtain⟨a,_,xs,rfl,_⟩:=h;rfl
noncomputable def gX:D->D->Option D
 |a,.non=>on (.bl (isN a))
 |_,_=>OR
noncomputable def mB:D->D->Option D
 |a,.non=>on (.bl (!isN a))
 |_,_=>OR
theorem xQ:aV K (λx y H Q=>y= .non/\Q (.bl (decide (x= .non))) H) gX:=λF H β Q d1 d2 d c f fr a b e k=>by
 unfold gX at e;split at e
 ·cases e
  exact⟨b,by rw[Mu a];exact k _ H (To.refl fr) rfl⟩
 ·cases e
noncomputable def dM:D->Bool
 | .int _=>OV| .bl _=>OV| .str _=>OV| .non=>OV|_=>OW
noncomputable def eqF:D->D->Bool
 | .non,.non=>OV
 | .bl a,.bl b=>a==b
 | .bl a,.int b=>(if a then 1 else 0)==b
 | .int a,.bl b=>a==(if b then 1 else 0)
 | .int a,.int b=>a==b
 | .str a,.str b=>a==b
 |_,_=>OW
noncomputable def dT:D->Option (List D)
 | .lst a=>on a
 | .tup a=>on a
 |_=>OR
def inB(x:D)(ys:List D):Bool:=ys.any λy=>eqF y x
def inD(neg:Bool)(x y:D):Option D:=(dT y).bind λys=>if(dM x&&ys.all dM)=OV then on (.bl (if neg then !inB x ys else inB x ys))else OR
theorem qF(f:dM d=OV)(h:Den K F H d v):gu v=OV:=by
 cases d<;>first|(cases h.int;rfl)|(cases h.bl;rfl)|(cases h.str;rfl)|(cases h.non;rfl)|cases f
theorem MG(e:dM a=OV)(f:dM b=OV)(c:Den K F H a v)(d:Den K F H b w):eqV v w=eqF a b:=by
 cases a<;>first
  |(exfalso;exact Pa e)
  |(cases b<;>first
   |(exfalso;exact Pa f)
   |(cases c.int;cases d.int;rfl)|(cases c.int;cases d.bl;rfl)|(cases c.int;cases d.str;rfl)|(cases c.int;cases d.non;rfl)
   |(cases c.bl;cases d.int;rfl)|(cases c.bl;cases d.bl;rfl)|(cases c.bl;cases d.str;rfl)|(cases c.bl;cases d.non;rfl)
   |(cases c.str;cases d.int;rfl)|(cases c.str;cases d.bl;rfl)|(cases c.str;cases d.str;rfl)|(cases c.str;cases d.non;rfl)
   |(cases c.non;cases d.int;rfl)|(cases c.non;cases d.bl;rfl)|(cases c.non;cases d.str;rfl)|(cases c.non;cases d.non;rfl))
theorem uR(a:dM x=OV)(b:Den K F H x v):∀{ds:List D} {vs:List V},ds.all dM=OV->DenL K F H ds vs->vs.all gu=OV/\inV v vs=inB x ds
 |[],vs,_,h=>by have q:vs=[]:=h;subst q;exact⟨rfl,rfl⟩
 |d::ds,vs,f,h=>by
  obtain⟨y,r,q,c,g⟩:=h;subst q;rw[UG,PU]at f;obtain⟨i,e⟩:=uR a b f.2 g;refine⟨by rw[UG,qF f.1 c,i];rfl,?_⟩;unfold inV inB at e⊢;rw[TK,TK,e,MG f.1 a c b]
theorem EB{neg:Bool}:aV K (rIn K neg) (inD neg):=λF H β Q d1 d2 d j l fr c i e k=>by
 unfold inD at e;cases q:dT d2 with
 |none=>rw[q]at e;cases e
 |some ys=>
  rw[q]at e;simp only[Qt]at e;split at e
  ·rename_i b
   rw[PU]at b;cases e;cases d2<;>first|(cases q;obtain⟨a,xs,rfl,r1,f⟩:=Den.sqL i;obtain⟨g,h⟩:=uR b.1 c b.2 f;exact⟨a,xs,rfl,.inl r1,qF b.1 c,g,by rw[h];exact k _ H (To.refl fr) rfl⟩)|(cases q;obtain⟨a,xs,rfl,r1,f⟩:=Den.sqT i;obtain⟨g,h⟩:=uR b.1 c b.2 f;exact⟨a,xs,rfl,.inr r1,qF b.1 c,g,by rw[h];exact k _ H (To.refl fr) rfl⟩)|cases q
  ·cases e
def ixD:D->D->Option D
 | .lst xs,.int i=>atI xs i
 | .tup xs,.int i=>atI xs i
 |_,_=>OR
theorem BN(h:DenL K F H ds vs)(e:atI ds i=on d):∃v,atI vs i=on v/\Den K F H d v:=by
 unfold atI at e⊢;rw[←h.length];cases q:ixN ds.length i with
 |none=>rw[q]at e;cases e
 |some j=>
  rw[q]at e;exact h.get e
theorem cR:aV K (λx y H Q=>xw K x y H Q\/CQ K x y H Q) ixD:=λF H β Q d1 d2 d h i fr f g e k=>by
 unfold ixD at e;split at e
 ·obtain⟨a,xs,rfl,r1,b⟩:=Den.sqL f
  obtain⟨v,c,hd⟩:=BN b e;exact .inl ⟨a,xs,_,v,rfl,g,r1,c,k _ H (To.refl fr) hd⟩
 ·obtain⟨a,xs,rfl,r1,b⟩:=Den.sqT f
  obtain⟨v,c,hd⟩:=BN b e;exact .inr ⟨a,xs,_,v,rfl,g,r1,c,k _ H (To.refl fr) hd⟩
 ·cases e
theorem bc:IxR X (λx y H Q=>xw X.K x y H Q\/CQ X.K x y H Q):=dR.or Mt
noncomputable def cJ:List D->Option D
 |[.lst xs]=>on (.int xs.length)
 |[.tup xs]=>on (.int xs.length)
 |_=>OR
theorem DenL.one(h:DenL K F H [d] vs):∃v,vs=[v]/\Den K F H d v:=by
 obtain⟨x,r,e,a,b⟩:=h;have q:r=[]:=b;subst q;exact⟨x,e,a⟩
theorem DenL.two(h:DenL K F H [d,c] vs):∃v w,vs=[v,w]/\Den K F H d v/\Den K F H c w:=by
 obtain⟨x,r,e,a,b⟩:=h;obtain⟨y,rfl,f⟩:=DenL.one b;exact⟨x,y,e,a,f⟩
theorem Ou:dO K (λxs H Q=>∃p ys,xs=[.ref p]/\(SqL K H p ys\/SqT K H p ys)/\Q (.int ys.length) H) cJ:=λF H β Q ds d vs fr h e k=>by
 unfold cJ at e;split at e
 ·cases e
  obtain⟨v,rfl,g⟩:=DenL.one h;obtain⟨a,xs,rfl,r,b⟩:=Den.sqL g;exact⟨a,xs,rfl,.inl r,by rw[←b.length];exact k _ H (To.refl fr) rfl⟩
 ·cases e
  obtain⟨v,rfl,g⟩:=DenL.one h;obtain⟨a,xs,rfl,r,b⟩:=Den.sqT g;exact⟨a,xs,rfl,.inr r,by rw[←b.length];exact k _ H (To.refl fr) rfl⟩
 ·cases e
noncomputable def qT:List D->Option D
 |[.int i]=>on (.int (if i<0 then -i else i))
 |_=>OR
noncomputable def uy:List D->Option D
 |[.int i,.int j]=>on (.int (if j<i then j else i))
 |_=>OR
noncomputable def xI:List D->Option D
 |[.int i,.int j]=>on (.int (if j>i then j else i))
 |_=>OR
theorem sQ:dO K (λxs H Q=>∃i j,xs=[.int i,.int j]/\Q (.int (if j<i then j else i)) H) uy:=λF H β Q ds d vs fr h e k=>by
 unfold uy at e;split at e
 ·cases e
  obtain⟨v,w,rfl,g,g'⟩:=DenL.two h;cases g.int;cases g'.int;exact⟨_,_,rfl,k _ H (To.refl fr) rfl⟩
 ·cases e
theorem IN:dO K (λxs H Q=>∃i j,xs=[.int i,.int j]/\Q (.int (if j>i then j else i)) H) xI:=λF H β Q ds d vs fr h e k=>by
 unfold xI at e;split at e
 ·cases e
  obtain⟨v,w,rfl,g,g'⟩:=DenL.two h;cases g.int;cases g'.int;exact⟨_,_,rfl,k _ H (To.refl fr) rfl⟩
 ·cases e
noncomputable def ef:List D->Option (List Int)
 |[]=>on []
 | .int i::r=>(ef r).map (i::·)
 |_=>OR
theorem intsOf_eq:∀{ds:List D} {ns:List Int},ef ds=on ns->ds=ns.map D.int
 |[],ns,h=>by cases h;rfl
 |d::ds,ns,h=>by
  cases d with
  |int i=>
   unfold ef at h;cases q:ef ds with
   |none=>rw[q]at h;cases h
   |some a=>rw[q]at h;cases h;rw[intsOf_eq q];rfl
  |_=>cases h
def CH:List D->Option D
 |[.lst xs]=>(ef xs).map λns=> .int ns.sum
 |_=>OR
theorem Oq:dO K (λxs H Q=>∃(a:OZ) (ns:List Int),xs=[.ref a]/\SqL K H a (ns.map V.int)/\Q (.int ns.sum) H) CH:=λF H β Q ds d vs fr h e k=>by
 unfold CH at e;split at e
 ·rename_i xs
  cases q:ef xs with
  |none=>rw[q]at e;cases e
  |some ns=>
   rw[q]at e;cases e;obtain⟨v,rfl,g⟩:=DenL.one h;obtain⟨a,ys,rfl,r,b⟩:=Den.sqL g;rw[intsOf_eq q]at b;have c:=DenL.ints ns b;subst c;exact⟨a,ns,rfl,r,k _ H (To.refl fr) rfl⟩
 ·cases e
noncomputable def mC:List D->Option D
 |[.lst xs]=>on (.lst xs)
 |[.tup xs]=>on (.lst xs)
 |_=>OR
theorem d9:dO K (λxs H Q=>∃p ys,xs=[.ref p]/\(SqL K H p ys\/SqT K H p ys)/\∀l,H l=OR->Q (.ref l) (upd H l (.lst ys))) mC:=λF H β Q ds d vs fr h e k=>by
 unfold mC at e;split at e
 ·cases e
  obtain⟨v,rfl,g⟩:=DenL.one h;obtain⟨a,xs,rfl,r,c⟩:=Den.sqL g;exact⟨a,xs,rfl,.inl r,λl b=>k _ _ (fr.upd _ b) (Den.newL fr b c)⟩
 ·cases e
  obtain⟨v,rfl,g⟩:=DenL.one h;obtain⟨a,xs,rfl,r,c⟩:=Den.sqT g;exact⟨a,xs,rfl,.inr r,λl b=>k _ _ (fr.upd _ b) (Den.newL fr b c)⟩
 ·cases e
noncomputable def yJ:List D->Option D
 |[.lst xs]=>on (.tup xs)
 |[.tup xs]=>on (.tup xs)
 |_=>OR
theorem qz:dO K (λxs H Q=>∃p ys,xs=[.ref p]/\((SqL K H p ys/\∀l,H l=OR->Q (.ref l) (upd H l (.tup ys)))\/(SqT K H p ys/\Q (.ref p) H))) yJ:=λF H β Q ds d vs fr h e k=>by
 unfold yJ at e;split at e
 ·cases e
  obtain⟨v,rfl,g⟩:=DenL.one h;obtain⟨a,xs,rfl,r,b⟩:=Den.sqL g;exact⟨a,xs,rfl,.inl ⟨r,λl c=>k _ _ (fr.upd _ c) (Den.newT fr c b)⟩⟩
 ·cases e
  obtain⟨v,rfl,g⟩:=DenL.one h;obtain⟨a,xs,rfl,r,b⟩:=Den.sqT g;exact⟨a,xs,rfl,.inr ⟨r,k _ H (To.refl fr) g⟩⟩
 ·cases e
end
noncomputable def asB:D->Option Bool
 | .bl b=>on b
 |_=>OR
theorem iU{b:Bool}(h:asB d=on b):d= .bl b:=by cases d<;>first|(cases h;rfl)|cases h
noncomputable def jT:D->Option Bool
 | .non=>on OW
 | .bl b=>on b
 | .int i=>on (i !=0)
 | .lst xs=>on (!xs.isEmpty)
 | .tup xs=>on (!xs.isEmpty)
 |_=>OR
def fB(f:FD):Dn->M Bool:=λδ=>M.bind (f δ) λd=>M.ofO (asB d)
def gY(f:FD):Dn->M Bool:=λδ=>M.bind (f δ) λd=>M.ofO (jT d)
def mR(f g:Dn->M Bool):Dn->M Bool:=λδ=>M.bind (f δ) λc=>if c=OV then g δ else M.ret OW
def eS(f g:Dn->M Bool):Dn->M Bool:=λδ=>M.bind (f δ) λc=>if c=OV then M.ret OV else g δ
def il(f:Dn->M Bool):Dn->M Bool:=λδ=>M.bind (f δ) λc=>M.ret (!c)
def fZ(f g:FD):FD:=λδ=>M.bind (f δ) λd=>M.bind (M.ofO (asB d)) λc=>if c=OV then g δ else M.ret (.bl OW)
def fOr(f g:FD):FD:=λδ=>M.bind (f δ) λd=>M.bind (M.ofO (asB d)) λc=>if c=OV then M.ret (.bl OV)else g δ
def qG(f:FD):FD:=λδ=>M.bind (f δ) λd=>M.bind (M.ofO (asB d)) λc=>M.ret (.bl (!c))
def fIf(t:Dn->M Bool)(f g:FD):FD:=λδ=>M.bind (t δ) λc=>if c=OV then f δ else g δ
def eZ(o d:D->D->Option D)(f g h:FD):FD:=λδ=>M.bind (f δ) λa=>M.bind (g δ) λb=>M.bind (M.ofO (o a b)) λz=>M.bind (M.ofO (asB z)) λc=>if c=OV then M.bind (h δ) (λw=>M.ofO (d b w))else M.ret (.bl OW)
section
variable{X:Cx}{E:St->XK}{a b c:Expr}{rest:List Expr}{pos:Tz}{K:Po}
theorem M.ofO_bind{α d:Type}{o:Option α}{k:α->M d}{β:Bg}{z:Except OZ d×Bg}(h:M.bind (M.ofO o) k β=on z):∃a,o=on a/\k a β=on z:=by
 cases o with
 |none=>cases h
 |some a=>exact⟨a,rfl,h⟩
theorem run.ofO_bind{α f g:Type}{R:Hp->f->g->Prop}{F:Fx}{i:St}{o:Option α}{k:α->M f}{H:Hp}{Q:g->Hp->Prop}{β:Bg}(h:run R F E i (M.bind (M.ofO o) k) H Q β):∃a,o=on a/\run R F E i (k a) H Q β:=by
 obtain⟨r,d,e,h⟩:=h;obtain⟨a,q,e⟩:=M.ofO_bind e;exact⟨a,q,r,d,e,h⟩
theorem run.bOk(fr:Fr F H β)(hd:Den K F H d v)(h:run (λ_ (a b:Bool)=>b=a) F E σ (M.ofO (asB d)) H Q β):∃k,v= .bl k/\Q k H:=by
 obtain⟨b,e,k⟩:=run.ofO h;rw[iU e]at hd;exact⟨b,hd,k b H (To.refl fr) rfl⟩
theorem nB(h:tVT K (fB f) E σ H Q):tV K f E σ H λx e=>∃k,x= .bl k/\Q k e:=by
 obtain⟨F,δ,β,fr,g,h⟩:=h;exact⟨F,δ,β,fr,g,(run.bind (R:=Den K F) h).mono λv j i=>ex5 i λd β1 t hd r1=>run.bOk t.fr hd r1⟩
theorem bo(d:OpR X (QC op) r)(l:aV X.K r o)(ha:PE X a (tV X.K f E))(e:PE X b (tV X.K g E))(hm:SD op b=OW:=by first|exact pi _|rfl):PT X (.Compare a [op] [b] pos) (tVT X.K (fB (f2 o f g)) E):=
 (v6 d ha e hm).imp λi H Q h=>oH l (nB h)
theorem yQ(l:aV K r o)(U:aV K r' o')(y:tV K (eZ o o' f g h) E σ H Q):yR r r' (tV K f E) (tV K g E) (tV K h E) σ H Q:=by
 obtain⟨F,δ,β,fr,A,y⟩:=y;refine⟨F,δ,β,fr,A,(run.bind (R:=Den K F) y).mono λv H1 j=>ex5 j λd β1 t hd r1=>⟨F,δ,β1,t.fr,A.tr (t.tr fr),(run.bind (R:=Den K F) r1).mono λN W j=>ex5 j λd2 β2 m n Y=>?_⟩⟩;obtain⟨z,O,r3⟩:=run.ofO_bind Y;obtain⟨c,Z,u⟩:=run.ofO_bind r3;rw[iU Z]at O;refine l F W β2 _ d d2 _ v N m.fr (Den.tr (m.tr t.fr) _ _ hd) n O λvz P i hz=>⟨c,hz,?_⟩;cases c with
 |true=>
  rw[O8 rfl]at u;refine⟨F,δ,β2,i.fr,A.tr ((t.tr fr).trans ((m.tr t.fr).trans (i.tr m.fr))),?_⟩;have r5:run (Den K F) F E σ (M.bind (h δ) λw=>M.ofO (o' d2 w)) P Q β2:=by
   obtain⟨B,p,e,q⟩:=u;refine⟨B,p,e,?_⟩;cases B with
   |ok d=>exact λv I tt=>q v I (i.trans tt)
   |error C=>exact λI tt=>q I (i.trans tt)
  refine(run.bind (R:=Den K F) r5).mono λw H4 j=>ex5 j λdw J T L r6=>?_;obtain⟨d3,e3,k⟩:=run.ofO r6;exact U F H4 J Q d2 dw d3 N w T.fr (Den.tr ((i.tr m.fr).trans (T.tr i.fr)) _ _ n) L e3 k
 |false=>
  rw[O3 Pa]at u;obtain⟨B,p,e,q⟩:=u;cases e;exact q _ P i rfl
theorem vL(e:OpR X (QC op) r)(d:OpR X (QC op') r')(l:aV X.K r o)(i:aV X.K r' o')(ha:PE X a (tV X.K f E))(j:PE X b (tV X.K g E))(k:PE X c (tV X.K h E))(hm:YH [op,op'] [b,c]=OW:=by with_unfolding_all rfl):
  PT X (.Compare a [op,op'] [b,c] pos) (tVT X.K (fB (eZ o o' f g h)) E):=(CT e d ha j k hm).imp λm H Q q=>yQ l i (nB q)
theorem JJ{k:Bool}(h:jT d=on k)(hd:Den K F H d v):HF K v H k:=by
 cases d with
 |non=>cases h;cases hd.non;rfl
 |bl b=>cases h;cases hd.bl;rfl
 |int i=>cases h;cases hd.int;rfl
 |lst xs=>
  cases h;obtain⟨a,ys,rfl,r,e⟩:=Den.sqL hd;refine .inl ⟨ys,r,?_⟩;have:=e.length;cases xs<;>cases ys<;>first|rfl|(simp at this)
 |tup xs=>
  cases h;obtain⟨a,ys,rfl,r,e⟩:=Den.sqT hd;refine .inr ⟨ys,r,?_⟩;have:=e.length;cases xs<;>cases ys<;>first|rfl|(simp at this)
 |_=>cases h
theorem jW(ha:PE X a (tV X.K f E))(j:∀g,isTrue a X.env g=(do let v ←g;Sw a.pos;Te [v] (truthy v)):=by intro _;rfl):PT X a (tVT X.K (gY f) E):=
 (CS ha j).imp λn H Q i=>ex6 i λF δ β fr l h=>⟨F,δ,β,fr,l,(run.bind (R:=Den X.K F) h).mono λv m i=>by
  obtain⟨d,β1,t,hd,r1⟩:=i;obtain⟨k,e,q⟩:=run.ofO r1;exact⟨k,JJ e hd,q k m (To.refl t.fr) rfl⟩⟩
theorem mj(ha:PT X a (tVT X.K f E)):PT X (.UnaryOp .Not a pos) (tVT X.K (il f) E):=
 (LJ ha).imp λi H Q e=>ex6 e λF δ β fr g h=>⟨F,δ,β,fr,g,(run.bind (R:=λ_ (a b:Bool)=>b=a) h).mono λv j e=>by
  obtain⟨d,β1,t,hd,r1⟩:=e;subst hd;exact run.ret t.fr r1 rfl⟩
theorem Lc(h:tVT K (eS f g) E σ H Q):tOr (tVT K f E) (tVT K g E) σ H Q:=by
 obtain⟨F,δ,β,fr,e,h⟩:=h;refine⟨F,δ,β,fr,e,(run.bind (R:=λ_ (a b:Bool)=>b=a) h).mono λv j i=>ex5 i λd β1 t hd r1=>?_⟩;subst hd;cases v with
 |false=>rw[O3 Pa]at r1⊢;exact⟨F,δ,β1,t.fr,e.tr (t.tr fr),r1⟩
 |true=>rw[O8 rfl]at r1⊢;exact run.ret t.fr r1 rfl
theorem md(ha:PT X a (tVT X.K f E)):PW X (.BoolOp .Or [a] pos) (tVT X.K f E):=LG ha
theorem qf(ha:PT X a (tVT X.K f E))(d:PW X (.BoolOp .Or (b::rest) pos) (tVT X.K g E)):PW X (.BoolOp .Or (a::b::rest) pos) (tVT X.K (eS f g) E):=(Oc ha d).imp λ_ _ _=>Lc
theorem jz(h:PW X e (tVT X.K f E)):PT X e (tVT X.K f E):=PW.pt h
theorem w8{op}(h:PE X a (tV X.K f E)):PE X (.BoolOp op [a] pos) (tV X.K f E):=LV h
theorem run.asB(hd:Den K F H d v)(h:run (Den K F) F E σ (M.bind (M.ofO (asB d)) k) H Q β):∃c,v= .bl c/\run (Den K F) F E σ (k c) H Q β:=by
 obtain⟨c,e,h⟩:=run.ofO_bind h;rw[iU e]at hd;exact⟨c,hd,h⟩
theorem mh(ha:PE X a (tV X.K f E))(l:PE X (.BoolOp .And (b::rest) pos) (tV X.K g E)):PE X (.BoolOp .And (a::b::rest) pos) (tV X.K (fZ f g) E):=
 (LZ ha l).imp λm H Q j=>ex6 j λF δ β fr k h=>⟨F,δ,β,fr,k,(run.bind (R:=Den X.K F) h).mono λv n j=>by
  obtain⟨d,β1,t,hd,r1⟩:=j;obtain⟨c,e,i⟩:=run.asB hd r1;refine⟨c,e,?_⟩;cases c with
  |true=>rw[O8 rfl]at i⊢;exact⟨F,δ,β1,t.fr,k.tr (t.tr fr),i⟩
  |false=>rw[O3 Pa]at i⊢;exact run.ret t.fr i rfl⟩
theorem v_if(j:PT X c (tVT X.K t E))(ha:PE X a (tV X.K f E))(k:PE X b (tV X.K g E)):PE X (.IfExp c a b pos) (tV X.K (fIf t f g) E):=
 (DD j ha k).imp λl H Q e=>ex6 e λF δ β fr i h=>⟨F,δ,β,fr,i,(run.bind (R:=λ_ (a b:Bool)=>b=a) h).mono λv m e=>by
  obtain⟨d,β1,t,hd,r1⟩:=e;subst hd;cases v with
  |true=>rw[O8 rfl]at r1⊢;exact⟨F,δ,β1,t.fr,i.tr (t.tr fr),r1⟩
  |false=>rw[O3 Pa]at r1⊢;exact⟨F,δ,β1,t.fr,i.tr (t.tr fr),r1⟩⟩
noncomputable def tyD:D->Option String
 | .non=>on "NoneType"| .bl _=>on "bool"| .int _=>on "int"| .str _=>on "str"| .lst _=>on "list"| .tup _=>on "tuple"|_=>OR
noncomputable def jv:String->String->Option Bool
 |"int","str"=>on OW|"int","bool"=>on OW|"int","list"=>on OW|"int","tuple"=>on OW|"int","int"=>on OV
 |"bool","str"=>on OW|"bool","bool"=>on OV|"bool","list"=>on OW|"bool","tuple"=>on OW
 |"str","str"=>on OV|"str","bool"=>on OW|"str","list"=>on OW|"str","tuple"=>on OW
 |"NoneType","str"=>on OW|"NoneType","bool"=>on OW|"NoneType","list"=>on OW|"NoneType","tuple"=>on OW
 |"list","list"=>on OV|"list","tuple"=>on OW|"list","str"=>on OW|"list","bool"=>on OW
 |"tuple","list"=>on OW|"tuple","tuple"=>on OV|"tuple","str"=>on OW|"tuple","bool"=>on OW
 |_,_=>OR
noncomputable def ju:String->String->String->Option Bool
 |"int","list","tuple"=>on OW|"bool","list","tuple"=>on OW|"str","list","tuple"=>on OW|"NoneType","list","tuple"=>on OW|"list","list","tuple"=>on OV|"tuple","list","tuple"=>on OV
 |"int","int","str"=>on OV|"bool","int","str"=>on OV|"str","int","str"=>on OV|"NoneType","int","str"=>on OW|"list","int","str"=>on OW|"tuple","int","str"=>on OW
 |_,_,_=>OR
theorem KC{a b:String}{c:Bool}(h:jv a b=on c):Ur K (.type a) (.type b)=on c:=by
 unfold jv at h;split at h<;>first|(cases h;kernel_rfl)|cases h
theorem KA{a b d:String}{c:Bool}(h:ju a b d=on c):YS K (.type a) ([b,d].map RY)=on c:=by
 unfold ju at h;split at h<;>first|(cases h;kernel_rfl)|cases h
def TyG(K:Po)(H:Hp)(x:V)(t:OX):Prop:=TyOf K H x t\/(∃a ys,x= .ref a/\SqL K H a ys/\t= .type "list")\/(∃a ys,x= .ref a/\SqT K H a ys/\t= .type "tuple")
def IH(K:Po):List V->Hp->VK->Prop:=λxs H Q=>∃x c t b,xs=[x,.ty c]/\TyG K H x t/\Ur K t (.type c)=on b/\Q (.bl b) H
theorem BH:cX X (.builtin "isinstance") (IH X.K):=by
 intro i s k H xs us Q I r h;obtain⟨x,c,t,b,rfl,ty,e,q⟩:=h;cases r with
 |cons r1 d=>
  cases d with
  |cons d r3=>
   cases r3;cases d;rcases ty with ty|⟨a,ys,rfl,sq,rfl⟩|⟨a,ys,rfl,sq,rfl⟩
   ·exact rH I r1 ty e λj=>⟨.bl b,H,I.tok _,rfl,q⟩
   ·cases r1
    obtain⟨its,_,pl,_⟩:=I.list sq;obtain⟨o,f,g,_⟩:=pl.isList;exact Ub Vm I.kIn ⟨o,f,g⟩ e (λz=>nomatch z) λj=>⟨.bl b,H,I.tok _,rfl,q⟩
   ·cases r1
    obtain⟨its,_,pl,_⟩:=I.tuple sq;obtain⟨o,f,g,_⟩:=pl;exact Ub V8 I.kIn ⟨o,f,g⟩ e (λz=>nomatch z) λj=>⟨.bl b,H,I.tok _,rfl,q⟩
theorem tF(h:tyD d=on t)(hd:Den K F H d v):TyG K H v (.type t):=by
 cases d with
 |non=>cases h;cases hd.non;exact .inl .non
 |bl b=>cases h;cases hd.bl;exact .inl (.bl b)
 |int b=>cases h;cases hd.int;exact .inl (.int b)
 |str b=>cases h;cases hd.str;exact .inl (.str b)
 |lst ds=>cases h;obtain⟨a,xs,rfl,sq,_⟩:=Den.sqL hd;exact .inr (.inl ⟨a,xs,rfl,sq,rfl⟩)
 |tup ds=>cases h;obtain⟨a,xs,rfl,sq,_⟩:=Den.sqT hd;exact .inr (.inr ⟨a,xs,rfl,sq,rfl⟩)
 |_=>cases h
def cD:List D->Option D
 |[x,.ty c]=>(tyD x).bind λt=>(jv t c).map D.bl
 |_=>OR
theorem Ov:dO K (IH K) cD:=λF H β Q ds d vs fr h e k=>by
 unfold cD at e;split at e
 ·rename_i x c
  cases q:tyD x with
  |none=>rw[q]at e;cases e
  |some t=>
   rw[q]at e;simp only[Qt]at e;cases q2:jv t c with
   |none=>rw[q2]at e;cases e
   |some b=>
    rw[q2]at e;cases e;obtain⟨v,w,rfl,f,g⟩:=DenL.two h;cases g.ty;exact⟨v,c,_,b,rfl,tF q f,KC q2,k _ H (To.refl fr) rfl⟩
 ·cases e
def zk(K:Po):List V->Hp->VK->Prop:=λxs H Q=>∃(x:V) (tp:OZ) (cs:List String) (t:OX) (b:Bool),xs=[x,.ref tp]/\SqT K H tp (cs.map V.ty)/\TyG K H x t/\YS K t (cs.map RY)=on b/\Q (.bl b) H
theorem pY:cX X (.builtin "isinstance") (zk X.K):=by
 intro k s F H xs us Q I r h;obtain⟨x,tp,cs,t,b,rfl,u,ty,e,q⟩:=h;cases r with
 |cons r1 v=>
  cases v with
  |cons v r3=>
   cases r3;cases v;obtain⟨its,L,⟨⟨U,N,P,R⟩,f,l,n,g⟩,_⟩:=I.tuple u;rw[yG L]at g
   dsimp only at l g
   subst l g;have d:∀B,EP X k F Q (.bool b) {s with toks:=B}:=λB=>⟨.bl b,H,I.tok _,rfl,q⟩;rcases ty with ty|⟨a,ys,rfl,sq,rfl⟩|⟨a,ys,rfl,sq,rfl⟩
   ·cases ty with
    |non=>cases r1;exact U6 XN I.kIn Sc f e (λz=>nomatch z) d
    |bl y=>cases r1;exact U6 XM I.kIn Sc f e (λz=>nomatch z) d
    |int i=>obtain⟨t,rfl⟩:=r1;exact U6 Yb I.kIn Sc f e (λz=>nomatch z) d
    |str y=>obtain⟨t,rfl⟩:=r1;exact U6 Yd I.kIn Sc f e (λz=>nomatch z) d
    |@lst a xs ea=>
     cases r1;obtain⟨_,_,n,_,m⟩:=(show bu X.prog X.w H s.heap a (.lst xs)from I.hok a _ ea);exact U6 Vm I.kIn ⟨_,m,rfl⟩ f e (λz=>nomatch z) d
    |@frz a ob xs ea=>
     cases r1;obtain⟨_,_,_,n,_,m⟩:=(show bu X.prog X.w H s.heap a (.frz ob (.lst xs))from I.hok a _ ea);exact U6 Vm I.kIn ⟨_,m,rfl⟩ f e (λz=>nomatch z) d
    |@tup a xs ea=>
     cases r1;obtain⟨_,_,_,p⟩:=(show bu X.prog X.w H s.heap a (.tup xs)from I.hok a _ ea);obtain⟨o,m,T,_⟩:=p;exact U6 V8 I.kIn ⟨o,m,T⟩ f e (λz=>nomatch z) d
    |@ins a C dx fs ea cl ha hn htk hm=>
     cases r1;obtain⟨W,O,_⟩:=gj I.hok ea;obtain⟨N,J,_⟩:=O.look;exact U6 (Yc (cl.get _) cl.hd ha hn htk hm) I.kIn J f e (λz=>nomatch z) d
   ·cases r1
    obtain⟨its,_,pl,_⟩:=I.list sq;obtain⟨o,j,A,_⟩:=pl.isList;exact U6 Vm I.kIn ⟨o,j,A⟩ f e (λz=>nomatch z) d
   ·cases r1
    obtain⟨its,_,pl,_⟩:=I.tuple sq;obtain⟨o,j,A,_⟩:=pl;exact U6 V8 I.kIn ⟨o,j,A⟩ f e (λz=>nomatch z) d
def fi:List D->Option D
 |[x,.tup [.ty a,.ty b]]=>(tyD x).bind λt=>(ju t a b).map D.bl
 |_=>OR
theorem z6:dO K (zk K) fi:=λF H β Q ds d vs fr h e k=>by
 unfold fi at e;split at e
 ·rename_i x a b
  cases q:tyD x with
  |none=>rw[q]at e;cases e
  |some t=>
   rw[q]at e;simp only[Qt]at e;cases q2:ju t a b with
   |none=>rw[q2]at e;cases e
   |some c=>
    rw[q2]at e;cases e;obtain⟨v,w,rfl,f,g⟩:=DenL.two h;obtain⟨p,xs,rfl,sq,i⟩:=Den.sqT g;obtain⟨y,z,rfl,j,l⟩:=DenL.two i;cases j.ty;cases l.ty;exact⟨v,p,[a,b],_,c,rfl,sq,tF q f,KA q2,k _ H (To.refl fr) rfl⟩
 ·cases e
end
def ItD(K:Po)(J:It)(F:Fx)(H:Hp)(ds:List D):Prop:=∀(b:Fx) (a:Hp) (β2:Bg),Tr F H b a->Fr b a β2->∀i,(∀d,ds[i]?=on d->J.go i a/\∀x c,J.yld i a x c->bE a c/\Den K b c d x)/\(i=ds.length->J.stop i a)
theorem ItD.tr{K:Po}(t:Tr F H F2 H2)(h:ItD K J F H ds):ItD K J F2 H2 ds:=λa b β3 c fr=>h a b β3 (t.trans c) fr
def iV(K:Po)(f:FL)(E:St->XK):TI:=λa H R=>∃F δ β,Fr F H β/\VOk K F H δ a/\run (λb (ds:List D) (J:It)=>ItD K J F b ds) F E a (f δ) H R β
theorem _root_.L2.PI.imp(h:PI X tg e t)(f:∀a H Q,t' a H Q->t a H Q):PI X tg e t':=λb s a H Q I q=>h b s a H Q I (f a H Q q)
section
variable{X:Cx}{E:St->XK}{tg:Expr}{K:Po}
def iSeq(K:Po)(c:TE):TI:=λd H R=>c d H λx b=>(∃a,x= .ref a/\(∃xs,SqL K b a xs)/\R (Itl K a) b)\/(∃a,x= .ref a/\(∃xs,SqT K b a xs)/\R (Itt K a) b)
theorem LR(k:PE X l tl):PI X tg l (iSeq X.K tl):=by
 intro d s m H R I h;refine thn (k d s m H _ I h) λv c ⟨x,i,f,r1,q1⟩=>?_;have g:∀b∈[c.heap.objs.size],eU X d i b:=λb n=>by
  obtain rfl:b=c.heap.objs.size:=by simpa using n
  exact f.fpOk (O9 _) (f.hok.fresh (O9 _))
 rcases q1 with⟨a,e,⟨xs,j⟩,q⟩|⟨a,e,⟨xs,j⟩,q⟩
 ·subst e
  cases r1;obtain⟨its,r,p,t⟩:=f.list j;exact U7 p.isList ⟨c.heap.objs.size,[c.heap.objs.size],_,_,i,rfl,f.kept (t':=c.toks) λb o e=>OU _ e,qZ a _,⟨_,Pl _ rfl,rfl,rfl⟩,g,q⟩
 ·subst e
  cases r1;obtain⟨its,r,p,t⟩:=f.tuple j;exact Wa (show c.heap.IsTuple a its.toArray from p) ⟨c.heap.objs.size,[c.heap.objs.size],_,_,i,rfl,f.kept (t':=c.toks) λb o e=>OU _ e,xa a _,⟨_,Pl _ rfl,rfl,rfl⟩,g,q⟩
theorem EH(h:Den K F H (.lst ds) (.ref a)):ItD K (Itl K a) F H ds:=λm n β2 t fr i=>by
 have j:=Den.tr t _ _ h;obtain⟨o,xs,e,sq,b⟩:=Den.sqL j;cases e;refine⟨λd hd=>?_,λk=>⟨xs,sq,by rw[←b.length,k];exact O9 _⟩⟩;obtain⟨x,l,_⟩:=b.get hd;refine⟨⟨xs,x,sq,l⟩,λy p c=>?_⟩;obtain⟨rfl,c⟩:=c;obtain⟨d',g,f⟩:=b.getV (c xs sq);rw[hd]at g;cases g;exact⟨bE.refl _,f⟩
theorem KF(h:Den K F H (.tup ds) (.ref a)):ItD K (Itt K a) F H ds:=λm n β2 t fr i=>by
 have j:=Den.tr t _ _ h;obtain⟨o,xs,e,sq,b⟩:=Den.sqT j;cases e;refine⟨λd hd=>?_,λk=>⟨xs,sq,by rw[←b.length,k];exact O9 _⟩⟩;obtain⟨x,l,_⟩:=b.get hd;refine⟨⟨xs,x,sq,l⟩,λy p c=>?_⟩;obtain⟨rfl,c⟩:=c;obtain⟨d',g,f⟩:=b.getV (c xs sq);rw[hd]at g;cases g;exact⟨bE.refl _,f⟩
def cB(f:FD):FL:=λδ=>M.bind (f δ) λd=>M.ofO (dT d)
theorem bf(g:PE X l (tV X.K f E)):PI X tg l (iV X.K (cB f) E):=
 (LR g).imp λm H R b=>ex6 b λF δ β fr i h=>⟨F,δ,β,fr,i,(run.bind (R:=Den X.K F) h).mono λv c b=>by
  obtain⟨d,β1,t,hd,r1⟩:=b;obtain⟨ds,e,k⟩:=run.ofO r1;cases d<;>first
   |(cases e;obtain⟨a,xs,rfl,sq,j⟩:=Den.sqL hd;exact .inl ⟨a,rfl,⟨xs,sq⟩,k _ c (To.refl t.fr) (EH hd)⟩)
   |(cases e;obtain⟨a,xs,rfl,sq,j⟩:=Den.sqT hd;exact .inr ⟨a,rfl,⟨xs,sq⟩,k _ c (To.refl t.fr) (KF hd)⟩)
   |cases e⟩
noncomputable def aU(lo:Int)(n:Nat):List D:=(O6 n).map λ(i:Nat)=> .int (lo+(i:Int))
theorem rG{lo:Int}:ItD K (Itr lo n) F H (aU lo n):=λe f β2 t fr i=>by
 refine⟨λd hd=>?_,λa=>?_⟩
 ·unfold aU at hd
  have a:i<n:=by
   have:=(Pc.mp hd).1;simpa using this
  rw[O4,Qz a]at hd;cases hd;exact⟨a,λx g ⟨b,c⟩=>by subst b c;exact⟨bE.refl _,rfl⟩⟩
 ·show n<=i
  rw[a];simp[aU]
def dm:List D->Option (List D)
 |[.int j]=>if(decide (-(2^62)<=j)&&decide (j<2^62))=OV then on (aU 0 j.toNat)else OR
 |_=>OR
def nN:List D->Option (List D)
 |[.int i,.int j]=>if(decide (-(2^62)<=i)&&decide (i<2^62)&&decide (-(2^62)<=j)&&decide (j<2^62))=OV then on (aU i (j-i).toNat)else OR
 |_=>OR
def bj(op:List D->Option (List D))(g:FL):FL:=λδ=>M.bind (g δ) λas=>M.ofO (op as)
theorem bS(d:Gl X "range")(hm:X.mg "range"=OR)(ha:PA X [a] (tVA X.K g E))(hs:Pb [a] X.env=[(OW,Qo a X.env)]:=by rfl):PI X tg (.Call (.Name "range" p) [a] [] pos) (iV X.K (bj dm g) E):=
 (zw d hm ha hs).imp λm H R b=>ex6 b λF δ β fr f h=>⟨F,δ,β,fr,f,(run.bind (R:=DenL X.K F) h).mono λvs i b=>by
  obtain⟨ds,β1,t,hd,r1⟩:=b;obtain⟨l,e,k⟩:=run.ofO r1;unfold dm at e;split at e
  ·split at e
   ·rename_i c
    cases e;simp only[PU,P3]at c;obtain⟨v,rfl,j⟩:=DenL.one hd;cases j.int;exact⟨_,rfl,c.1,c.2,k _ i (To.refl t.fr) rG⟩
   ·cases e
  ·cases e⟩
theorem n5(i:Gl X "range")(hm:X.mg "range"=OR)(ha:PA X [a,b] (tVA X.K g E))(hs:Pb [a,b] X.env=[(OW,Qo a X.env),(OW,Qo b X.env)]:=by rfl)(d:Pb [b] X.env=[(OW,Qo b X.env)]:=by rfl):PI X tg (.Call (.Name "range" p) [a,b] [] pos) (iV X.K (bj nN g) E):=
 (zu i hm ha hs d).imp λq H R f=>ex6 f λF δ β fr j h=>⟨F,δ,β,fr,j,(run.bind (R:=DenL X.K F) h).mono λvs m f=>by
  obtain⟨ds,β1,t,hd,r1⟩:=f;obtain⟨l,e,k⟩:=run.ofO r1;unfold nN at e;split at e
  ·split at e
   ·rename_i c
    cases e;simp only[PU,P3]at c;obtain⟨v,w,rfl,n,o⟩:=DenL.two hd;cases n.int;cases o.int;exact⟨_,_,rfl,⟨c.1.1.1,c.1.1.2,c.1.2,c.2⟩,k _ m (To.refl t.fr) rG⟩
   ·cases e
  ·cases e⟩
abbrev TgF:=D->Dn->Option Dn
abbrev iW:=List D->Dn->Option Dn
def cz(K:Po)(g:TG)(tg:TgF):Prop:=∀(F:Fx) (H:Hp) (δ δ1:Dn) (b:St) (d:D) (v:V) (Q:St->Hp->Prop),VOk K F H δ b->Den K F H d v->tg d δ=on δ1->(∀a,VOk K F H δ1 a->Q a H)->g v b H Q
def qc(K:Po)(g:TGs)(tg:iW):Prop:=∀(F:Fx) (H:Hp) (δ δ1:Dn) (b:St) (ds:List D) (vs:List V) (Q:St->Hp->Prop),VOk K F H δ b->DenL K F H ds vs->tg ds δ=on δ1->(∀a,VOk K F H δ1 a->Q a H)->g vs b H Q
noncomputable def tgC(i:Nat):TgF:=λd δ=>if(δ.getD i (on .non)).isNone then on (δ.set i (on d))else OR
noncomputable def gQ:iW:=λds δ=>match ds with
 |[]=>on δ
 |_=>OR
noncomputable def dB(t:TgF)(u:iW):iW:=λds δ=>match ds with
 |[]=>OR
 |d::r=>(t d δ).bind λδ1=>u r δ1
noncomputable def tgT(t:iW):TgF:=λd δ=>match d with
 | .tup ds=>t ds δ
 |_=>OR
theorem tK{δ δ1:Dn}(h:tgC i d δ=on δ1):δ[i]?=on OR/\δ1=δ.set i (on d):=by
 unfold tgC at h;split at h
 ·rename_i q
  cases h;refine⟨?_,rfl⟩;rw[O1]at q;cases e:δ[i]? with
  |none=>rw[e]at q;cases q
  |some z=>
   rw[e]at q;cases z with
   |none=>rfl
   |some w=>cases q
 ·cases h
theorem ak:cz K (fj i) (tgC i):=λF H δ δ1 b d v Q a hd e k=>by
 obtain⟨_,rfl⟩:=tK e;exact k _ (a.set hd)
theorem cf:qc K gNil gQ:=λF H δ δ1 b ds vs Q a hd e k=>by
 cases ds with
 |nil=>cases e;exact⟨hd,k _ a⟩
 |cons _ _=>cases e
theorem aM(h:cz K t tf)(i:qc K u uf):qc K (x6 t u) (dB tf uf):=λF H δ δ1 j ds vs Q l hd e k=>by
 cases ds with
 |nil=>cases e
 |cons d r=>
  obtain⟨x,g,rfl,m,n⟩:=hd;have b:(tf d δ).bind (λδ1=>uf r δ1)=on δ1:=e;cases q:tf d δ with
  |none=>rw[q]at b;cases b
  |some a=>
   rw[q]at b;exact⟨x,g,rfl,h F H δ a j d x _ l m q λc f=>i F H a δ1 c r g Q f n b k⟩
theorem cP(h:qc K t tf)(hn:∀ds δ δ1,tf ds δ=on δ1->ds.length=n):cz K (ER K n t) (tgT tf):=λF H δ δ1 c d v Q f hd e k=>by
 cases d<;>first
  |(obtain⟨a,xs,rfl,sq,b⟩:=Den.sqT hd;exact⟨a,xs,rfl,sq,by rw[←b.length];exact hn _ _ _ e,h F H δ δ1 c _ xs Q f b e k⟩)
  |cases e
theorem bG:∀ds δ δ1,gQ ds δ=on δ1->ds.length=0:=λds δ δ1 h=>by
 cases ds with
 |nil=>rfl
 |cons _ _=>cases h
theorem aK(h:∀ds δ δ1,u ds δ=on δ1->ds.length=n):∀ds δ δ1,dB t u ds δ=on δ1->ds.length=n+1:=λds δ δ1 e=>by
 cases ds with
 |nil=>cases e
 |cons d r=>
  have a:(t d δ).bind (λδ1=>u r δ1)=on δ1:=e;cases q:t d δ with
  |none=>rw[q]at a;cases a
  |some b=>rw[q]at a;rw[Pg,h _ _ _ a]
def dE(tg:TgF):Prop:=∀d δ δ1,tg d δ=on δ1->Sub δ δ1/\δ.length=δ1.length
def s0(tg:iW):Prop:=∀d δ δ1,tg d δ=on δ1->Sub δ δ1/\δ.length=δ1.length
theorem au:dE (tgC i):=λd δ δ1 e=>by
 obtain⟨q,rfl⟩:=tK e;refine⟨λj c a=>?_,by rw[Qi]⟩;rw[Qq];by_cases z:i=j
 ·subst z;rw[q]at a;cases a
 ·rw[O3 z];exact a
theorem bY:s0 gQ:=λds δ δ1 e=>by
 cases ds with
 |nil=>cases e;exact⟨λ_ _ h=>h,rfl⟩
 |cons _ _=>cases e
theorem aL(b:dE t)(f:s0 u):s0 (dB t u):=λds δ δ1 e=>by
 cases ds with
 |nil=>cases e
 |cons d r=>
  have a:(t d δ).bind (λδ1=>u r δ1)=on δ1:=e;cases q:t d δ with
  |none=>rw[q]at a;cases a
  |some g=>
   rw[q]at a;obtain⟨a1,a2⟩:=b _ _ _ q;obtain⟨b1,b2⟩:=f _ _ _ a;exact⟨λi c h=>b1 i c (a1 i c h),a2.trans b2⟩
theorem cM(h:s0 t):dE (tgT t):=λd δ δ1 e=>by
 cases d<;>first|exact h _ _ _ e|cases e
structure ToD (F:Fx) (D:OZ) (H H':Hp) (β':Bg):Prop where
 kp:∀a o,H a=on o->a≠D->(∀b l,F.bg=on (b,l)->a≠b/\a≠l)->H' a=on o
 fr:Fr F H' β'
theorem ToD.trans{D:OZ}(a:ToD F D H H1 β1)(b:ToD F D H1 H2 β2):ToD F D H H2 β2:=⟨λx o h n m=>b.kp x o (a.kp x o h n m) n m,b.fr⟩
theorem To.toD(t:To F H H' β')(D:OZ):ToD F D H H' β':=⟨λa o h _ m=>t.kp a o h m,t.fr⟩
theorem ToD.tr{F:Fx}{D:OZ}(fr:Fr F H β)(c:F.A D)(t:ToD F D H H' β'):Tr F H F H':=
 ⟨λ_ h _=>h,λa o h e=>t.kp a o e (λz=>h (z▸c)) λb l q=>⟨λz=>h (z▸(fr.bgA b l q).1),λz=>h (z▸(fr.bgA b l q).2.1)⟩,rfl⟩
structure AR where
 R:Fx->Hp->OZ->List Pu.D->Prop
 Z:List Pu.D->Prop
 tr:∀{F F2:Fx} {H H':Hp} {D:OZ} {as:List Pu.D},R F H D as->(∀o,H D=on o->H' D=on o)->Tr F H F2 H'->R F2 H' D as
 zp:∀{as os:List Pu.D},Z (as++os)->Z as
noncomputable def RL(K:Po):AR where
 R:=λF H D as=>∃acc,H D=on (.lst acc)/\DenL K F H as acc
 Z:=λl=>l.length<=Pe
 tr:=λh k t=>by
  obtain⟨acc,a,b⟩:=h;exact⟨acc,k _ a,DenL.tr t _ _ b⟩
 zp:=λh=>by rw[Pn]at h;omega
def eA(K:Po)(R:AR)(D:OZ)(g:TB)(f:Dn->M (List Pu.D)):Prop:=∀(F:Fx) (H:Hp) (δ:Dn) (β a:Bg) (e:St) (as os:List Pu.D) (Q:St->Hp->Prop),Fr F H β->F.A D->(∀b l,F.bg=on (b,l)->D≠b/\D≠l)->VOk K F H δ e->R.R F H D as->
 f δ β=on (.ok os,a)->R.Z (as++os)->(∀c d,ToD F D H d a->VOk K F d δ c->R.R F d D (as++os)->Q c d)->g e H Q
abbrev jo(K:Po):=eA K (RL K)
def cEm(f:Dn->M Pu.D):Dn->M (List Pu.D):=λδ=>M.bind (f δ) λd=>M.ret [d]
theorem M.bind_inv{α c:Type}{m:M α}{k:α->M c}{β b:Bg}{r:c}(h:M.bind m k β=on (.ok r,b)):∃a β1,m β=on (.ok a,β1)/\k a β1=on (.ok r,b):=by
 unfold M.bind at h;split at h
 ·cases h
 ·cases h
 ·rename_i a β1 e
  exact⟨a,β1,e,h⟩
theorem E0.run{α d:Type}{R:Hp->α->d->Prop}{F:Fx}{f:St}{m:M α}{H:Hp}{Q:d->Hp->Prop}{β b:Bg}{a:α}(e:m β=on (.ok a,b))(h:∀v c,To F H c b->R c a v->Q v c):run R F E0 f m H Q β:=⟨.ok a,b,e,h⟩
theorem aP{D:OZ}:jo K D (yp D (tV K f E0)) (cEm f):=λF H δ β c r as os Q fr u g j w e y k=>by
 obtain⟨acc,A,hd⟩:=w;obtain⟨d,β1,B,C⟩:=M.bind_inv e;cases C;refine⟨F,δ,β,fr,j,E0.run B λv m t I=>?_⟩;have i:=t.kp D _ A g;have J:=DenL.tr (t.tr fr) _ _ hd;refine⟨acc,i,by rw[←hd.length];have:=(show(as++[d]).length<=Pe from y);simp at this;omega,?_⟩;have p:ToD F D m (upd m D (.lst (acc++[v]))) c:=by
  refine⟨λa o h n _=>by rw[upd_ne n];exact h,λa h q=>?_,fr.bgA,λb l q=>?_⟩
  ·by_cases z:a=D
   ·subst z;rw[ah]at q;cases q
   ·rw[upd_ne z]at q;exact t.fr.occ a h q
  ·rw[upd_ne (g b l q).1.symm,upd_ne (g b l q).2.symm]
   exact t.fr.bag b l q
 have tt:=p.tr t.fr u;exact k r _ ((t.toD D).trans p) (j.tr ((t.tr fr).trans tt)) ⟨_,ah,DenL.append (DenL.tr tt _ _ J) ⟨v,[],rfl,Den.tr tt _ _ I,rfl⟩⟩
def cLp(tg:TgF)(tt:Dn->M Bool)(b:Dn->M (List Pu.D)):List Pu.D->Dn->M (List Pu.D)
 |[],_=>M.ret []
 |d::ds,δ=>match tg d δ with
  |none=>M.fail
  |some δ1=>M.bind (tt δ1) λc=>M.bind (if c=OV then b δ1 else M.ret []) λo=>M.bind (cLp tg tt b ds δ) λos=>M.ret (o++os)
theorem mE{R:AR}{D:OZ}{tg:TgF}(hg:cz K g tg)(sg:dE tg)(hb:eA K R D tb b){F:Fx}{as os ds:List Pu.D}(fr:Fr F H β)(hA:F.A D)(hn:∀b l,F.bg=on (b,l)->D≠b/\D≠l)(vk:VOk K F H δ σ)(hR:R.R F H D as)
  (it:ItD K J F H ds) (e:cLp tg tt b ds δ β=on (.ok os,β')) (hz:R.Z (as++os)) (k:∀a j,ToD F D H j β'->VOk K F j δ a->R.R F j D (as++os)->Q a j):cV J g (tVT K tt E0) tb σ H Q:=by
 refine⟨λi m a j=>m+i=ds.length/\∃β1 f p,ToD F D H j β1/\VOk K F j δ a/\R.R F j D f/\cLp tg tt b (ds.drop i) δ β1=on (.ok p,β')/\f++p=as++os,
  ⟨ds.length,by omega,β,as,os,⟨λ_ _ h _ _=>h,fr⟩,vk,hR,e,rfl⟩,?_⟩
 rintro i m a j ⟨hm,β1,f,p,u,v,w,n,W⟩;have Y:=u.tr fr hA;obtain⟨iy,is⟩:=it F j β1 Y u.fr i;cases L:ds[i]? with
 |none=>
  have N:ds.length<=i:=Uv.mp L;rw[Sa N]at n;cases n;refine .inl ⟨is (by omega),k a j u v ?_⟩;rw[←W,PN];exact w
 |some d=>
  have N:i<ds.length:=(Pc.mp L).1;obtain⟨go,yl⟩:=iy d L;have ed:ds.drop i=d::ds.drop (i+1):=by
   rw[QB N];congr 1;exact PR ((O0 N).symm.trans L)
  rw[ed]at n;unfold cLp at n;cases q:tg d δ with
  |none=>rw[q]at n;cases n
  |some δ1=>
   rw[q]at n;obtain⟨c,β2,e2,e3⟩:=M.bind_inv n;obtain⟨o,β3,O,e5⟩:=M.bind_inv e3;obtain⟨os2,β4,e6,e7⟩:=M.bind_inv e5;cases e7;obtain⟨s1,s2⟩:=sg _ _ _ q;refine .inr ⟨go,λy P=>ToD F D H P β3/\VOk K F P δ y/\R.R F P D (f++o),?_,λx H2 hy=>?_⟩
   ·rintro y P ⟨t9,vk9,hR9⟩
    exact⟨m-1,by omega,by omega,β3,f++o,os2,t9,vk9,hR9,e6,by rw[Qv];exact W⟩
   ·obtain⟨sm,dx⟩:=yl x H2 hy
    have T:To F j H2 β1:=u.fr.same sm;have B:=T.tr u.fr;refine hg F H2 δ δ1 a d x _ (v.tr B) dx q λσ2 r=>⟨F,δ1,β1,T.fr,r,E0.run e2 λc' H3 U ec=>?_⟩;subst ec;have t:=U.tr T.fr;have C:=R.tr w (λo z=>U.kp D o (sm _ _ z) hn) (B.trans t);have I:ToD F D H H3 β2:=u.trans ((T.trans U).toD D);have hle:R.Z (f++o):=by
     rw[←W,←Qv]at hz;exact R.zp hz
    cases c' with
    |true=>
     rw[O8 rfl]at O⊢;refine hb F H3 δ1 β2 β3 σ2 f o _ U.fr hA hn (r.tr t) C O hle λσ4 H4 t4 vk4 hR4=>?_;exact⟨I.trans t4,vk4.sub s1 s2,hR4⟩
    |false=>
     rw[O3 Pa]at O⊢;cases O;exact⟨I,(r.tr t).sub s1 s2,by rw[PN];exact C⟩
def cNx(it:Dn->M (List Pu.D))(tg:TgF)(tt:Dn->M Bool)(b:Dn->M (List Pu.D)):Dn->M (List Pu.D):=λδ=>M.bind (it δ) λds=>cLp tg tt b ds δ
theorem nV{D:OZ}{tg:TgF}(f:cz K g tg)(h:dE tg)(i:eA K R D tb b):eA K R D (yo (iV K it E0) λJ=>cV J g (tVT K tt E0) tb) (cNx it tg tt b):=λF H δ β j v as os Q fr l hn c m e n k=>by
 obtain⟨ds,β1,p,q⟩:=M.bind_inv e;refine⟨F,δ,β,fr,c,E0.run p λJ d t r=>?_⟩;exact mE f h i t.fr l hn (c.tr (t.tr fr)) (R.tr m (λo z=>t.kp D o z hn) (t.tr fr)) r q n λa d u=>k a d ((t.toD D).trans u)
theorem Ky{D:OZ}{tg:TgF}(a:cz K g tg)(c:dE tg)(d:jo K D tb b):jo K D (yo (iV K it E0) λJ=>cV J g (tVT K tt E0) tb) (cNx it tg tt b):=nV a c d
noncomputable def cSt(nv:Nat)(caps:List Nat)(δ:Dn):Dn:=Pi nv OR++caps.map λj=>δ.getD j OR
def bM(nv:Nat)(caps:List Nat)(it:Dn->M (List Pu.D))(tg:TgF)(tt:Dn->M Bool)(b:Dn->M (List Pu.D)):Dn->M Pu.D:=λδ β=>match it δ β with
 |none=>OR
 |some (.error C,β1)=>on (.error C,β1)
 |some (.ok ds,β1)=>match cLp tg tt b ds (cSt nv caps δ) β1 with
  |some (.ok os,β2)=>if os.length<=Pe then on (.ok (.lst os),β2)else OR
  |_=>OR
theorem pZ{vars:List PY}(b:VOk K F H δ σ):VOk K F H (cSt vars.length caps δ) (jN vars caps σ):=by
 refine⟨by simp[cSt,jN],λi d e=>?_⟩;unfold cSt at e;unfold jN;rw[Vp]at e⊢;rw[QV]at e⊢;by_cases a:i<vars.length
 ·rw[O8 a,R4,O8 a]at e
  cases e
 ·rw[O3 a,O4]at e⊢
  cases q:caps[i-vars.length]? with
  |none=>rw[q]at e;cases e
  |some j=>
   rw[q]at e;simp only[Qu,WW]at e⊢;rw[O1]at e;cases z:δ[j]? with
   |none=>rw[z]at e;cases e
   |some w=>
    rw[z]at e;have c:w=on d:=e;subst c;obtain⟨v,f,g⟩:=b.tell j d z;exact⟨v,by rw[O1,f];rfl,g⟩
theorem tL{vars:List PY}{caps:List Nat}{it:Dn->M (List Pu.D)}{g:TG}{tg:TgF}{tt:Dn->M Bool}{I:OZ->TB}{b:Dn->M (List Pu.D)}(T:cz K g tg)(U:dE tg)(W:∀D,jo K D (I D) b){L:St}{H:Hp}{Q:VK}(h:tV K (bM vars.length caps it tg tt b) E L H Q):
  oI vars caps (iV K it E) (λD J=>cV J g (tVT K tt E0) (I D)) L H Q:=by
 obtain⟨F,δ,β,fr,N,r,k,e,h⟩:=h;unfold bM at e;refine⟨F,δ,β,fr,N,?_⟩;split at e
 ·cases e
 ·rename_i C β1 q
  cases e;exact⟨.error C,_,q,h⟩
 ·rename_i ds β1 q
  split at e
  ·rename_i os β2 q2
   split at e
   ·rename_i Y
    cases e;refine⟨.ok ds,β1,q,λJ j t Z D d=>?_⟩;have c:¬F.A D:=t.fr.fresh d;have nb:∀b l,F.bg=on (b,l)->D≠b/\D≠l:=λb l z=>⟨λw=>c (w▸(fr.bgA b l z).1),λw=>c (w▸(fr.bgA b l z).2.1)⟩;have O:=t.fr.upd (.lst []) d;have m:Fr ⟨λa=>F.A a\/a=D,F.bg⟩ (upd j D (.lst [])) β1:=by
     refine⟨λa ha z=>?_,λb l z=>let ⟨x,y,w⟩:=fr.bgA b l z;⟨.inl x,.inl y,w⟩,O.fr.bag⟩
     rcases ha with ha|ha
     ·exact O.fr.occ a ha z
     ·subst ha;rw[ah]at z;cases z
    have f:Tr F j ⟨λa=>F.A a\/a=D,F.bg⟩ (upd j D (.lst [])):=⟨λa ha hs z=>by
     rcases z with z|z
     ·exact ha z
     ·subst z;exact hs d,λa o ha z=>by rw[upd_ne (ne_of_none z d)];exact z,rfl⟩
    refine mE (R:=RL K) (D:=D) (as:=[]) (os:=os) T U (W D) m (.inr rfl) nb (pZ (N.tr ((t.tr fr).trans f))) ⟨[],ah,rfl⟩ (Z.tr f) q2 (show os.length<=Pe from Y) λσ1 P p vk3 u=>?_;obtain⟨i,v,B⟩:=u;have tf:To F j P k:=by
     refine⟨λa o z n=>p.kp a o (by rw[upd_ne (ne_of_none z d)];exact z) (ne_of_none z d) n,λa ha z=>p.fr.occ a (RB ha) z,fr.bgA,p.fr.bag⟩
    refine h _ P (t.trans tf) ⟨D,i,rfl,⟨c,.inl v⟩,DenL.tr (F:=⟨λa=>F.A a\/a=D,F.bg⟩) ⟨λa ha _ z=>ha (RB z),λa o _ z=>z,rfl⟩ _ _ B⟩
   ·cases e
  ·cases e
end
inductive Sl where
 |sh (d:D)|own (ds:List D)|grd (rows:List (List D))
abbrev Ds:=List (Option Sl)
inductive Out where
 |nx (δ:Ds)|rt (d:D)|bk (δ:Ds)|ct (δ:Ds)|ex (C:OZ) (δ:Ds)|rg (rows:List (List D))
abbrev G:=Ds->Bg->Option (Out×Bg)
abbrev Ow:=OZ->Option Nat
noncomputable def FxB(B:Ow)(bg:Option (OZ×OZ)):Fx:=⟨λa=>B a≠OR,bg⟩
noncomputable def FxA(B:Ow)(bg:Option (OZ×OZ)):Fx:=⟨λa=>B a=on 0\/B a=on 1,bg⟩
def RowL(K:Po)(F:Fx)(H:Hp)(P:OZ->Prop):List (List D)->List OZ->Prop
 |[],[]=>True
 |ds::rows,r::rs=>P r/\(∃xs,H r=on (.lst xs)/\DenL K F H ds xs)/\RowL K F H P rows rs
 |_,_=>False
theorem RowL.tr{K:Po}(t:Tr F H F2 H2):∀{rows:List (List D)} {rs:List OZ},RowL K F H P rows rs->(∀r xs,r∈rs->P r->H r=on (.lst xs)->P2 r/\H2 r=on (.lst xs))->RowL K F2 H2 P2 rows rs
 |[],[],_,_=>trivial
 |ds::rows,r::rs,h,f=>by
  obtain⟨b,⟨xs,c,d⟩,e⟩:=h;obtain⟨p,q⟩:=f r xs O5 b c;exact⟨p,⟨xs,q,DenL.tr t _ _ d⟩,RowL.tr t e λg a i=>f g a (OY _ i)⟩
 |[],_::_,h,_=>h.elim
 |_::_,[],h,_=>h.elim
theorem RowL.all{K:Po}:∀{rows:List (List D)} {rs:List OZ},RowL K F H P rows rs->∀r∈rs,P r/\∃xs,H r=on (.lst xs)
 |[],[],_,r,hr=>by cases hr
 |ds::rows,r0::rs,h,r,hr=>by
  obtain⟨a,⟨xs,b,d⟩,c⟩:=h;rcases Pq.mp hr with rfl|hr
  ·exact⟨a,xs,b⟩
  ·exact RowL.all c r hr
 |[],_::_,h,_,_=>h.elim
 |_::_,[],h,_,_=>h.elim
theorem RowL.den{K:Po}{F a:Fx}(t:Tr F H a H):∀{rows:List (List D)} {rs:List OZ},RowL K F H P rows rs->(∀r,r∈rs->P r->¬a.A r)->DenL K a H (rows.map D.lst) (rs.map V.ref)
 |[],[],_,_=>rfl
 |ds::rows,r::rs,h,f=>by
  obtain⟨b,⟨xs,c,d⟩,e⟩:=h;exact DenL.cons ⟨r,xs,rfl,⟨f r O5 b,.inl c⟩,DenL.tr t _ _ d⟩ (RowL.den t e λg i=>f g (OY _ i))
 |[],_::_,h,_=>h.elim
 |_::_,[],h,_=>h.elim
theorem RowL.len{K:Po}:∀{rows:List (List D)} {rs:List OZ},RowL K F H P rows rs->rows.length=rs.length
 |[],[],_=>rfl
 |ds::rows,r::rs,h=>by simp[RowL.len h.2.2]
 |[],_::_,h=>h.elim
 |_::_,[],h=>h.elim
def gM(K:Po)(F:Fx)(H0 H:Hp)(rows:List (List D))(v:V):Prop:=∃a rs,v= .ref a/\H0 a=OR/\H a=on (.lst (rs.map V.ref))/\(a::rs).Nodup/\RowL K F H (λr=>H0 r=OR) rows rs
def DenS(K:Po)(B:Ow)(bg:Option (OZ×OZ))(H:Hp)(i:Nat):Sl->V->Prop
 | .sh d,v=>Den K (FxB B bg) H d v
 | .own ds,v=>∃a xs,v= .ref a/\B a=on (i+2)/\H a=on (.lst xs)/\DenL K (FxB B bg) H ds xs
 | .grd rows,v=>∃a rs,v= .ref a/\B a=on (i+2)/\H a=on (.lst (rs.map V.ref))/\(a::rs).Nodup/\RowL K (FxB B bg) H (λr=>B r=on (i+2)) rows rs
structure SOk (K:Po) (H₀:Hp) (B:Ow) (bg:Option (OZ×OZ)) (H:Hp) (δ:Ds) (β:Bg) (σ:St):Prop where
 fr:Fr (FxB B bg) H β
 bgt:∀b l,bg=on (b,l)->B b=on 1/\B l=on 1
 len:δ.length=σ.length
 cov:∀a,H₀ a≠OR->H a≠OR
 new:∀a k,B a=on (k+2)->H₀ a=OR
 lst:∀a k,B a=on (k+2)->∃xs,H a=on (.lst xs)
 tell:∀(i:Nat) (s:Sl),δ[i]?=on (on s)->∃v,σ[i]?=on (on v)/\DenS K B bg H i s v
structure Stp (B:Ow) (H:Hp) (B':Ow) (H':Hp):Prop where
 kp:∀a o,H a=on o->(B a=OR\/B a=on 0)->H' a=on o
 tg:∀a,B a=on 0\/B a=on 1->B' a=B a
 nn:∀a o,H a=on o->B a=OR->B' a=OR
 al:∀a,H a≠OR->H' a≠OR
theorem Stp.refl(B:Ow)(H:Hp):Stp B H B H:=⟨λ_ _ h _=>h,λ_ _=>rfl,λ_ _ _ h=>h,λ_ h=>h⟩
theorem Stp.trans(a:Stp B H B1 H1)(b:Stp B1 H1 B2 H2):Stp B H B2 H2:=by
 refine⟨λx o h n=>b.kp x o (a.kp x o h n) ?_,λx h=>?_,λx o h n=>b.nn x o (a.kp x o h (.inl n)) (a.nn x o h n),λx h=>b.al x (a.al x h)⟩
 ·rcases n with n|n
  ·exact .inl (a.nn x o h n)
  ·exact .inr ((a.tg x (.inl n)).trans n)
 ·have e:=a.tg x h
  rw[←e]at h;exact(b.tg x h).trans e
def iq(K:Po)(H₀:Hp)(bg:Option (OZ×OZ))(E:St->XK)(Dn:Ends)(B:Ow)(H:Hp)(o:Out)(e:Bg):Prop:=match o with
 | .nx δ'=>∀b c a,Stp B H c a->SOk K H₀ c bg a δ' e b->Dn.nx b a
 | .bk δ'=>∀b c a,Stp B H c a->SOk K H₀ c bg a δ' e b->Dn.bk b a
 | .ct δ'=>∀b c a,Stp B H c a->SOk K H₀ c bg a δ' e b->Dn.ct b a
 | .rt d=>∀v c a,Stp B H c a->Fr (FxB c bg) a e->Den K (FxB c bg) a d v->Dn.rt v a
 | .rg rows=>∀v c a,Stp B H c a->Fr (FxB c bg) a e->gM K (FxB c bg) H₀ a rows v->Dn.rt v a
 | .ex C δ'=>∀b c a,Stp B H c a->SOk K H₀ c bg a δ' e b->E b (.ref C) OR a
theorem iq.pre{K:Po}{E:St->XK}{Dn:Ends}(s:Stp B H B1 H1)(h:iq K H₀ bg E Dn B H o β'):iq K H₀ bg E Dn B1 H1 o β':=by
 cases o with
 |nx δ=>exact λa b c t=>h a b c (s.trans t)
 |bk δ=>exact λa b c t=>h a b c (s.trans t)
 |ct δ=>exact λa b c t=>h a b c (s.trans t)
 |rt d=>exact λv b c t=>h v b c (s.trans t)
 |rg d=>exact λv b c t=>h v b c (s.trans t)
 |ex C δ=>exact λa b c t=>h a b c (s.trans t)
def tG(K:Po)(H₀:Hp)(g:G)(E:St->XK):TS:=λDn b H=>∃B bg δ β o a,SOk K H₀ B bg H δ β b/\g δ β=on (o,a)/\iq K H₀ bg E Dn B H o a
theorem _root_.L2.PS.imp(h:PS X e t)(f:∀D a H,t' D a H->t D a H):PS X e t':=λb s a H D I q=>h b s a H D I (f D a H q)
theorem _root_.L2.PSs.imp(h:PSs X e t)(f:∀D a H,t' D a H->t D a H):PSs X e t':=λb s a H D I q=>h b s a H D I (f D a H q)
noncomputable def vw(δ:Ds):Dn:=δ.map λs=>match s with
 |some (.sh d)=>on d
 |_=>OR
noncomputable def vwA(δ:Ds):Dn:=δ.map λs=>match s with
 |some (.sh d)=>on d
 |some (.own ds)=>on (.lst ds)
 |some (.grd rows)=>on (.lst (rows.map D.lst))
 |none=>OR
section
variable{K:Po}{H₀:Hp}{B:Ow}{bg:Option (OZ×OZ)}{H H':Hp}{δ:Ds}{β β':Bg}{σ:St}
theorem NT{i:Nat}{d:D}(e:(vw δ)[i]?=on (on d)):δ[i]?=on (on (.sh d)):=by
 unfold vw at e;rw[O4]at e;cases q:δ[i]? with
 |none=>rw[q]at e;cases e
 |some z=>
  rw[q]at e;cases z with
  |none=>cases e
  |some s=>
   cases s with
   |sh c=>cases e;rfl
   |own ds=>cases e
   |grd rows=>cases e
theorem SOk.view(h:SOk K H₀ B bg H δ β σ):VOk K (FxB B bg) H (vw δ) σ:=⟨by unfold vw;rw[OS,h.len],λi d e=>h.tell i _ (NT e)⟩
theorem trA:Tr (FxB B bg) H (FxA B bg) H:=⟨λa h _ z=>by
 have h':¬(B a≠OR):=h;rcases z with z|z
 ·exact h' (by rw[z];simp)
 ·exact h' (by rw[z];simp),λ_ _ _ h=>h,rfl⟩
theorem SOk.frA(h:SOk K H₀ B bg H δ β σ):Fr (FxA B bg) H β:=⟨λa ha=>h.fr.occ a (by
 show B a≠OR;rcases ha with z|z<;>rw[z]<;>simp),λb l e=>⟨.inr (h.bgt b l e).1,.inr (h.bgt b l e).2,(h.fr.bgA b l e).2.2⟩,h.fr.bag⟩
theorem SOk.viewA(h:SOk K H₀ B bg H δ β σ):VOk K (FxA B bg) H (vwA δ) σ:=by
 refine⟨by unfold vwA;rw[OS,h.len],λi d e=>?_⟩;unfold vwA at e;rw[O4]at e;cases q:δ[i]? with
 |none=>rw[q]at e;cases e
 |some z=>
  rw[q]at e;cases z with
  |none=>cases e
  |some s=>
   obtain⟨v,b,f⟩:=h.tell i s q;cases s with
   |sh c=>cases e;exact⟨v,b,Den.tr trA _ _ f⟩
   |own ds=>
    cases e;obtain⟨a,xs,g,j,k,l⟩:=f;refine⟨v,b,a,xs,g,⟨λz=>?_,.inl k⟩,DenL.tr trA _ _ l⟩;have z':B a=on 0\/B a=on 1:=z;rw[j]at z';rcases z' with z'|z'<;>cases z'
   |grd rows=>
    cases e;obtain⟨a,rs,g,j,k,l,n⟩:=f;have m:∀c,B c=on (i+2)->¬(FxA B bg).A c:=λc o z=>by
     have z':B c=on 0\/B c=on 1:=z;rw[o]at z';rcases z' with z'|z'<;>cases z'
    exact⟨v,b,a,_,g,⟨m a j,.inl k⟩,RowL.den trA n λr _ p=>m r p⟩
theorem SOk.to{F:Fx}(h:SOk K H₀ B bg H δ β σ)(hF:F.bg=bg)(t:To F H H' β'):SOk K H₀ B bg H' δ β' σ/\Stp B H B H':=by
 have I:∀a,B a≠on 1->∀b l,F.bg=on (b,l)->a≠b/\a≠l:=λa ha b l e=>by
  rw[hF]at e;exact⟨λz=>ha (z▸(h.bgt b l e).1),λz=>ha (z▸(h.bgt b l e).2)⟩
 have kp:∀a o,H a=on o->B a≠on 1->H' a=on o:=λa o e n=>t.kp a o e (I a n);have fr:Fr (FxB B bg) H' β':=⟨λa ha z=>(by
  by_cases J:B a=on 1
  ·by_cases d:∃b l,bg=on (b,l)/\(a=b\/a=l)
   ·obtain⟨b,l,e,q⟩:=d
    obtain⟨g,j⟩:=t.fr.bag b l (hF.trans e);rcases q with rfl|rfl
    ·rw[g]at z;cases z
    ·rw[j]at z;cases z
   ·cases q:H a with
    |none=>exact h.fr.occ a ha q
    |some o=>
     rw[t.kp a o q λb l e=>⟨λw=>d ⟨b,l,hF.symm.trans e,.inl w⟩,λw=>d ⟨b,l,hF.symm.trans e,.inr w⟩⟩]at z;cases z
  ·cases q:H a with
   |none=>exact h.fr.occ a ha q
   |some o=>rw[kp a o q J]at z;cases z),h.fr.bgA,λb l e=>t.fr.bag b l (hF.trans e)⟩
 have tr:Tr (FxB B bg) H (FxB B bg) H':=⟨λ_ n _=>n,λa o n e=>kp a o e (λz=>n (by show B a≠OR;rw[z];simp)),rfl⟩;have al:∀a,H a≠OR->H' a≠OR:=λa ha z=>by
  by_cases d:∃b l,bg=on (b,l)/\(a=b\/a=l)
  ·obtain⟨b,l,e,q⟩:=d
   obtain⟨g,j⟩:=t.fr.bag b l (hF.trans e);rcases q with rfl|rfl
   ·rw[g]at z;cases z
   ·rw[j]at z;cases z
  ·cases q:H a with
   |none=>exact ha q
   |some o=>
    rw[t.kp a o q λb l e=>⟨λw=>d ⟨b,l,hF.symm.trans e,.inl w⟩,λw=>d ⟨b,l,hF.symm.trans e,.inr w⟩⟩]at z;cases z
 refine⟨⟨fr,h.bgt,h.len,λa ha=>al a (h.cov a ha),h.new,λc k C=>(let ⟨xs,z⟩:=h.lst c k C;⟨xs,kp c _ z (by rw[C];intro z;cases z)⟩),λi s e=>?_⟩,λa o e n=>kp a o e (by rcases n with n|n<;>rw[n]<;>simp),λ_ _=>rfl,λ_ _ _ n=>n,al⟩
 obtain⟨v,L,m⟩:=h.tell i s e;refine⟨v,L,?_⟩;cases s with
 |sh c=>exact Den.tr tr _ _ m
 |own ds=>
  obtain⟨a,xs,u,f,y,A⟩:=m;exact⟨a,xs,u,f,kp a _ y (by rw[f];intro z;cases z),DenL.tr tr _ _ A⟩
 |grd rows=>
  obtain⟨a,rs,u,f,y,A,N⟩:=m;exact⟨a,rs,u,f,kp a _ y (by rw[f];intro z;cases z),A,RowL.tr tr N λr xs _ p q=>⟨p,kp r _ q (by rw[p];intro z;cases z)⟩⟩
theorem SOk.set(h:SOk K H₀ B bg H δ β σ)(hd:Den K (FxB B bg) H d v):SOk K H₀ B bg H (δ.set i (on (.sh d))) β (σ.set i (on v)):=by
 refine⟨h.fr,h.bgt,by rw[Qi,Qi,h.len],h.cov,h.new,h.lst,λj c e=>?_⟩;rw[Qq]at e;rw[Qq];by_cases q:i=j
 ·subst q
  rw[O8 rfl]at e⊢;split at e
  ·rename_i a
   cases e;rw[O8 (by rw[←h.len];exact a)];exact⟨v,rfl,hd⟩
  ·cases e
 ·rw[O3 q]at e⊢
  exact h.tell j c e
end
noncomputable def gNil:G:=λδ β=>on (.nx δ,β)
noncomputable def aD(g h:G):G:=λδ β=>match g δ β with
 |some (.nx δ1,β1)=>h δ1 β1
 |r=>r
def fY(i:Nat)(f:FD):G:=λδ β=>match f (vw δ) β with
 |some (.ok d,β1)=>on (.nx (δ.set i (on (.sh d))),β1)
 |some (.error C,β1)=>on (.ex C δ,β1)
 |none=>OR
def mK(i:Nat)(f:FD):G:=λδ β=>match f (vwA δ) β with
 |some (.ok d,β1)=>if dM d=OV then on (.nx (δ.set i (on (.sh d))),β1)else OR
 |some (.error C,β1)=>on (.ex C δ,β1)
 |none=>OR
noncomputable def eK(f:FD):G:=λδ β=>match f (vwA δ) β with
 |some (.ok _,β1)=>on (.nx δ,β1)
 |some (.error C,β1)=>on (.ex C δ,β1)
 |none=>OR
noncomputable def cZ(f:FD):G:=λδ β=>match f (vwA δ) β with
 |some (.ok d,β1)=>on (.rt d,β1)
 |some (.error C,β1)=>on (.ex C δ,β1)
 |none=>OR
noncomputable def gIf(t:Dn->M Bool)(g h:G):G:=λδ β=>match t (vwA δ) β with
 |some (.ok OV,β1)=>g δ β1
 |some (.ok OW,β1)=>h δ β1
 |some (.error C,β1)=>on (.ex C δ,β1)
 |none=>OR
section
variable{X:Cx}{E:St->XK}{e:Expr}{st:QF}{sts:List QF}{pos:Tz}
theorem br:PSs X [] (tG X.K X.H₀ gNil E):=qu.imp λD a H b=>by
 obtain⟨B,bg,δ,β,o,c,ok,e,h⟩:=b;cases e;exact h a B H (Stp.refl B H) ok
theorem ag(c:PS X st (tG X.K X.H₀ g E))(d:PSs X sts (tG X.K X.H₀ h E)):PSs X (st::sts) (tG X.K X.H₀ (aD g h) E):=(cA c d).imp λD m H f=>by
 obtain⟨B,bg,δ,β,o,a,ok,e,q⟩:=f;unfold aD at e;split at e
 ·rename_i δ1 β1 i
  refine⟨B,bg,δ,β,.nx δ1,β1,ok,i,λj k n s b=>⟨k,bg,δ1,β1,o,a,b,e,iq.pre s ?_⟩⟩;exact q
 ·rename_i r l
  refine⟨B,bg,δ,β,o,a,ok,e,?_⟩;cases o with
  |nx δ1=>exact PF e (l δ1 a)
  |_=>exact q
theorem ai(a:PS X st (tG X.K X.H₀ g E)):PSs X [st] (tG X.K X.H₀ g E):=fK a
theorem aN(h:PS X (.Assign [.Name x pos'] e pos) (jp (tV X.K f E) (fj i))):PS X (.Assign [.Name x pos'] e pos) (tG X.K X.H₀ (fY i f) E):=h.imp λD l H j=>by
 obtain⟨B,bg,δ,β,o,k,ok,e,q⟩:=j;refine⟨FxB B bg,vw δ,β,ok.fr,ok.view,?_⟩;unfold fY at e;split at e
 ·rename_i d β1 b
  cases e;refine⟨.ok d,_,b,λv c t hd=>?_⟩;obtain⟨a,g⟩:=ok.to rfl t;exact q _ B c g (a.set hd)
 ·rename_i C β1 b
  cases e;refine⟨.error C,_,b,λc t=>?_⟩;obtain⟨a,g⟩:=ok.to rfl t;exact q _ B c g a
 ·cases e
theorem oW(h:PS X (.Expr e pos) (xi (tV X.K f E))):PS X (.Expr e pos) (tG X.K X.H₀ (eK f) E):=h.imp λD k H i=>by
 obtain⟨B,bg,δ,β,o,j,ok,e,q⟩:=i;refine⟨FxA B bg,vwA δ,β,ok.frA,ok.viewA,?_⟩;unfold eK at e;split at e
 ·rename_i d β1 b
  cases e;refine⟨.ok d,_,b,λv c t hd=>?_⟩;obtain⟨a,g⟩:=ok.to rfl t;exact q _ B c g a
 ·rename_i C β1 b
  cases e;refine⟨.error C,_,b,λc t=>?_⟩;obtain⟨a,g⟩:=ok.to rfl t;exact q _ B c g a
 ·cases e
noncomputable def gi(B:Ow):Ow:=λa=>if B a=on 0\/B a=on 1 then B a else OR
theorem Ml:Tr (FxA B bg) H (FxB (gi B) bg) H:=⟨λa h _ z=>by
 have b:gi B a≠OR:=z;unfold gi at b;split at b
 ·rename_i q;exact h q
 ·exact b rfl,λ_ _ _ h=>h,rfl⟩
theorem DW:Stp B H (gi B) H:=⟨λ_ _ h _=>h,λa h=>by unfold gi;rw[O8 h],λa o h n=>by unfold gi;rw[n];simp,λ_ h=>h⟩
theorem aE(h:PS X (.Return (on e) pos) (CD (tV X.K f E))):PS X (.Return (on e) pos) (tG X.K X.H₀ (cZ f) E):=h.imp λD p H m=>by
 obtain⟨B,bg,δ,β,o,n,ok,e,q⟩:=m;refine⟨FxA B bg,vwA δ,β,ok.frA,ok.viewA,?_⟩;unfold cZ at e;split at e
 ·rename_i d β1 i
  cases e;refine⟨.ok d,_,i,λv j t hd=>?_⟩;obtain⟨c,k⟩:=ok.to rfl t;refine q _ (gi B) j (k.trans DW) ⟨λa ha=>c.fr.occ a ?_,λb l e=>?_,c.fr.bag⟩ (Den.tr Ml _ _ hd)
  ·have g:gi B a≠OR:=ha
   show B a≠OR;unfold gi at g;split at g
   ·exact g
   ·exact PF rfl g
  ·refine⟨?_,?_,(c.fr.bgA b l e).2.2⟩
   ·show gi B b≠OR
    unfold gi;rw[O8 (.inr (ok.bgt b l e).1),(ok.bgt b l e).1];simp
   ·show gi B l≠OR
    unfold gi;rw[O8 (.inr (ok.bgt b l e).2),(ok.bgt b l e).2];simp
 ·rename_i C β1 i
  cases e;refine⟨.error C,_,i,λj t=>?_⟩;obtain⟨c,k⟩:=ok.to rfl t;exact q _ B j k c
 ·cases e
theorem bQ(l:PT X c (tVT X.K t E))(ha:PSs X a (tG X.K X.H₀ g E))(m:PSs X b (tG X.K X.H₀ h E)):PS X (.If c a b pos) (tG X.K X.H₀ (gIf t g h) E):=(II l ha m).imp λD p H n=>by
 obtain⟨B,bg,δ,β,o,f,ok,e,q⟩:=n;refine⟨FxA B bg,vwA δ,β,ok.frA,ok.viewA,?_⟩;unfold gIf at e;split at e
 ·rename_i β1 i
  refine⟨.ok OV,_,i,λv k t hd=>?_⟩;subst hd;obtain⟨d,j⟩:=ok.to rfl t;rw[O8 rfl];exact⟨B,bg,δ,β1,o,f,d,e,iq.pre j q⟩
 ·rename_i β1 i
  refine⟨.ok OW,_,i,λv k t hd=>?_⟩;subst hd;obtain⟨d,j⟩:=ok.to rfl t;rw[O3 Pa];exact⟨B,bg,δ,β1,o,f,d,e,iq.pre j q⟩
 ·rename_i C β1 i
  cases e;refine⟨.error C,_,i,λk t=>?_⟩;obtain⟨d,j⟩:=ok.to rfl t;exact q _ B k j d
 ·cases e
abbrev TgS:=D->Ds->Option Ds
abbrev l4:=List D->Ds->Option Ds
def qa(K:Po)(g:TG)(tg:TgS):Prop:=∀(H₀:Hp) (B:Ow) (bg:Option (OZ×OZ)) (H:Hp) (δ δ1:Ds) (β:Bg) (b:St) (d:D) (v:V) (Q:St->Hp->Prop),SOk K H₀ B bg H δ β b->Den K (FxB B bg) H d v->tg d δ=on δ1->(∀a,SOk K H₀ B bg H δ1 β a->Q a H)->g v b H Q
def p9(K:Po)(g:TGs)(tg:l4):Prop:=∀(H₀:Hp) (B:Ow) (bg:Option (OZ×OZ)) (H:Hp) (δ δ1:Ds) (β:Bg) (b:St) (ds:List D) (vs:List V) (Q:St->Hp->Prop),SOk K H₀ B bg H δ β b->DenL K (FxB B bg) H ds vs->tg ds δ=on δ1->(∀a,SOk K H₀ B bg H δ1 β a->Q a H)->g vs b H Q
noncomputable def sgN(i:Nat):TgS:=λd δ=>on (δ.set i (on (.sh d)))
noncomputable def kX:l4:=λds δ=>match ds with
 |[]=>on δ
 |_=>OR
noncomputable def kW(t:TgS)(u:l4):l4:=λds δ=>match ds with
 |[]=>OR
 |d::r=>(t d δ).bind λδ1=>u r δ1
noncomputable def sgT(t:l4):TgS:=λd δ=>match d with
 | .tup ds=>t ds δ
 |_=>OR
variable{K:Po}
theorem aR:qa K (fj i) (sgN i):=λH₀ B bg H δ δ1 β a d v Q ok hd e k=>by
 cases e;exact k _ (ok.set hd)
theorem gh:p9 K L2.gNil kX:=λH₀ B bg H δ δ1 β a ds vs Q ok hd e k=>by
 cases ds with
 |nil=>cases e;exact⟨hd,k _ ok⟩
 |cons _ _=>cases e
theorem bR(h:qa K t tf)(i:p9 K u uf):p9 K (x6 t u) (kW tf uf):=λH₀ B bg H δ δ1 β j ds vs Q ok hd e k=>by
 cases ds with
 |nil=>cases e
 |cons d r=>
  obtain⟨x,g,rfl,l,m⟩:=hd;have b:(tf d δ).bind (λδ1=>uf r δ1)=on δ1:=e;cases q:tf d δ with
  |none=>rw[q]at b;cases b
  |some a=>
   rw[q]at b;exact⟨x,g,rfl,h H₀ B bg H δ a β j d x _ ok l q λc f=>i H₀ B bg H a δ1 β c r g Q f m b k⟩
theorem ft:∀ds δ δ1,kX ds δ=on δ1->ds.length=0:=λds δ δ1 h=>by
 cases ds with
 |nil=>rfl
 |cons _ _=>cases h
theorem bO(h:∀ds δ δ1,u ds δ=on δ1->ds.length=n):∀ds δ δ1,kW t u ds δ=on δ1->ds.length=n+1:=λds δ δ1 e=>by
 cases ds with
 |nil=>cases e
 |cons d r=>
  have a:(t d δ).bind (λδ1=>u r δ1)=on δ1:=e;cases q:t d δ with
  |none=>rw[q]at a;cases a
  |some b=>rw[q]at a;rw[Pg,h _ _ _ a]
theorem iR(h:p9 K t tf)(hn:∀ds δ δ1,tf ds δ=on δ1->ds.length=n):qa K (ER K n t) (sgT tf):=λH₀ B bg H δ δ1 β c d v Q ok hd e k=>by
 cases d<;>first
  |(obtain⟨a,xs,rfl,sq,b⟩:=Den.sqT hd;exact⟨a,xs,rfl,sq,by rw[←b.length];exact hn _ _ _ e,h H₀ B bg H δ δ1 β c _ xs Q ok b e k⟩)
  |cases e
def jx(f:FD)(tg:TgS):G:=λδ β=>match f (vw δ) β with
 |some (.ok d,β1)=>(tg d δ).map λδ1=>(.nx δ1,β1)
 |some (.error C,β1)=>on (.ex C δ,β1)
 |none=>OR
theorem IB(l:qa X.K g tg)(h:PS X (.Assign [tgt] e pos) (jp (tV X.K f E) g)):PS X (.Assign [tgt] e pos) (tG X.K X.H₀ (jx f tg) E):=h.imp λD m H n=>by
 obtain⟨B,bg,δ,β,o,p,ok,e,q⟩:=n;refine⟨FxB B bg,vw δ,β,ok.fr,ok.view,?_⟩;unfold jx at e;split at e
 ·rename_i d β1 c
  cases q1:tg d δ with
  |none=>rw[q1]at e;cases e
  |some δ1=>
   rw[q1]at e;cases e;refine⟨.ok d,_,c,λv b t hd=>?_⟩;obtain⟨a,i⟩:=ok.to rfl t;exact l X.H₀ B bg b δ δ1 _ m d v _ a hd q1 λj k=>q j B b i k
 ·rename_i C β1 c
  cases e;refine⟨.error C,_,c,λb t=>?_⟩;obtain⟨a,i⟩:=ok.to rfl t;exact q _ B b i a
 ·cases e
def qE(i j:Nat)(f:FL):G:=λδ β=>match f (vw δ) β with
 |some (.ok [c,d],β1)=>on (.nx ((δ.set i (on (.sh c))).set j (on (.sh d))),β1)
 |some (.error C,β1)=>on (.ex C δ,β1)
 |_=>OR
def jw(i:Nat)(op:D->D->Option D)(f:FD):G:=λδ β=>match(vw δ).getD i OR with
 |none=>OR
 |some c=>match f (vw δ) β with
  |some (.ok d,β1)=>(op c d).map λz=>(.nx (δ.set i (on (.sh z))),β1)
  |some (.error C,β1)=>on (.ex C δ,β1)
  |none=>OR
theorem oX(l:aV X.K ti op)(h:PS X st (Li i (tV X.K f E) ti)):PS X st (tG X.K X.H₀ (jw i op f) E):=h.imp λD N H r=>by
 obtain⟨B,bg,δ,β,o,g,ok,e,q⟩:=r;unfold jw at e;split at e
 ·cases e
 ·rename_i c b
  have j:(vw δ)[i]?=on (on c):=by
   rw[O1]at b;cases z:(vw δ)[i]? with
   |none=>rw[z]at b;cases b
   |some w=>rw[z]at b;simp at b;rw[b]
  obtain⟨v,y,A⟩:=ok.view.tell i c j;refine⟨v,y,FxB B bg,vw δ,β,ok.fr,ok.view,?_⟩;split at e
  ·rename_i d β1 k
   cases q1:op c d with
   |none=>rw[q1]at e;cases e
   |some z=>
    rw[q1]at e;cases e;refine⟨.ok d,_,k,λw m t hd=>?_⟩;obtain⟨a,n⟩:=ok.to rfl t;refine l (FxB B bg) m g _ c d z v w t.fr (Den.tr (t.tr ok.fr) _ _ A) hd q1 λu F I J=>?_;obtain⟨p,L⟩:=a.to rfl I;exact q _ B F (n.trans L) (p.set J)
  ·rename_i C β1 k
   cases e;refine⟨.error C,_,k,λm t=>?_⟩;obtain⟨a,n⟩:=ok.to rfl t;exact q _ B m n a
  ·cases e
end
theorem Stp.tr(s:Stp B H B' H'):Tr (FxB B bg) H (FxB B' bg) H':=
 ⟨λa h hs z=>by
  have hn:B a=OR:=by
   cases q:B a with
   |none=>rfl
   |some t=>exact PF (show B a≠OR by rw[q];simp) h
  cases q:H a with
  |none=>exact hs q
  |some o=>exact z (s.nn a o q hn),λa o h e=>s.kp a o e (.inl (by
  cases q:B a with
  |none=>rfl
  |some t=>exact PF (show B a≠OR by rw[q];simp) h)),rfl⟩
section
variable{X:Cx}{E:St->XK}{e:Expr}{st:QF}{sts:List QF}{pos:Tz}{K:Po}
noncomputable def gLp(tg:TgS)(g:G):List D->G
 |[],δ,β=>on (.nx δ,β)
 |d::ds,δ,β=>match tg d δ with
  |none=>OR
  |some δ1=>match g δ1 β with
   |some (.nx δ2,β2)=>gLp tg g ds δ2 β2
   |some (.ct δ2,β2)=>gLp tg g ds δ2 β2
   |some (.bk δ2,β2)=>on (.nx δ2,β2)
   |r=>r
def x5(it:FL)(tg:TgS)(g:G):G:=λδ β=>match it (vw δ) β with
 |some (.ok ds,β1)=>gLp tg g ds δ β1
 |some (.error C,β1)=>on (.ex C δ,β1)
 |none=>OR
theorem ci(l:qa X.K tgg tg)(h:PS X (.For tgt iter body [] pos) (Lg (iV X.K it E) tgg (tG X.K X.H₀ g E))):PS X (.For tgt iter body [] pos) (tG X.K X.H₀ (x5 it tg g) E):=h.imp λD σ H h_=>by
 obtain⟨B,bg,δ,β,o,y,ok,e,q⟩:=h_;refine⟨FxB B bg,vw δ,β,ok.fr,ok.view,?_⟩;unfold x5 at e;split at e
 ·rename_i ds β1 U
  refine⟨.ok ds,_,U,λJ W t hJ=>?_⟩;obtain⟨Y,Z⟩:=ok.to rfl t;refine⟨λi m n F=>m+i=ds.length/\∃k p β2,Stp B W k F/\SOk X.K X.H₀ k bg F p β2 n/\gLp tg g (ds.drop i) p β2=on (o,y),⟨ds.length,by omega,B,δ,β1,Stp.refl B W,Y,e⟩,?_⟩;rintro i m n F ⟨hm,k,p,β2,I,c,b⟩;obtain⟨iy,is⟩:=hJ (FxB k bg) F β2 I.tr c.fr i;cases Q:ds[i]? with
  |none=>
   have R:ds.length<=i:=Uv.mp Q;rw[Sa R]at b;cases b;exact .inl ⟨is (by omega),q n k F (Z.trans I) c⟩
  |some d=>
   have R:i<ds.length:=(Pc.mp Q).1;obtain⟨go,yl⟩:=iy d Q;have ed:ds.drop i=d::ds.drop (i+1):=by
    rw[QB R];congr 1;exact PR ((O0 R).symm.trans Q)
   rw[ed]at b;unfold gLp at b;split at b
   ·cases b
   ·rename_i f e3
    refine .inr ⟨go,λL H9=>∃T r u,Stp B W T H9/\SOk X.K X.H₀ T bg H9 r u L/\gLp tg g (ds.drop (i+1)) r u=on (o,y),λL H9 ⟨T,r,u,z1,z2,z3⟩=>⟨m-1,by omega,by omega,T,r,u,z1,z2,z3⟩,λx H3 hy=>?_⟩;obtain⟨sm,dx⟩:=yl x H3 hy;obtain⟨ok3,s3⟩:=c.to rfl (c.fr.same sm);refine l X.H₀ k bg H3 p f β2 n d x _ ok3 dx e3 λσ4 v=>?_;have w:=I.trans s3;split at b
    ·rename_i a β5 N
     exact⟨k,bg,f,β2,.nx a,β5,v,N,λA O H6 P j=>⟨O,a,β5,w.trans P,j,b⟩⟩
    ·rename_i a β5 N
     exact⟨k,bg,f,β2,.ct a,β5,v,N,λA O H6 P j=>⟨O,a,β5,w.trans P,j,b⟩⟩
    ·rename_i a β5 N
     cases b;exact⟨k,bg,f,β2,.bk a,_,v,N,λA O H6 P j=>q A O H6 (Z.trans (w.trans P)) j⟩
    ·rename_i x h1 h2 h3
     refine⟨k,bg,f,β2,o,y,v,b,?_⟩;have q2:=iq.pre (Z.trans w) q;cases o with
     |nx a=>exact PF b (h1 _ _)
     |ct a=>exact PF b (h2 _ _)
     |bk a=>exact PF b (h3 _ _)
     |rt d=>exact q2
     |rg d=>exact q2
     |ex C a=>exact q2
 ·rename_i C β1 U
  cases e;refine⟨.error C,_,U,λH' t=>?_⟩;obtain⟨c,I⟩:=ok.to rfl t;exact q _ B H' I c
 ·cases e
theorem SOk.newOwn{δ:Ds}{Q:St}(ok:SOk K H₀ B bg H δ β Q)(g:H p=OR)(hd:DenL K (FxB B bg) H ds xs):
  SOk K H₀ (λa=>if a=p then on (i+2)else B a) bg (upd H p (.lst xs)) (δ.set i (on (.own ds))) β (Q.set i (on (.ref p)))/\Stp B H (λa=>if a=p then on (i+2)else B a) (upd H p (.lst xs)):=by
 have hB:B p=OR:=by
  cases q:B p with
  |none=>rfl
  |some t=>exact PF g (ok.fr.occ p (by show B p≠OR;rw[q];simp))
 have m:Stp B H (λa=>if a=p then on (i+2)else B a) (upd H p (.lst xs)):=by
  refine⟨λa o h _=>by rw[upd_ne (ne_of_none h g)];exact h,λa h=>?_,λa o h n=>?_,?_⟩
  ·have:a≠p:=λz=>by subst z;rw[hB]at h;rcases h with h|h<;>cases h
   simp only[O3 this]
  ·simp only[O3 (ne_of_none h g)];exact n
  ·exact λa ha=>by
    by_cases z:a=p
    ·subst z;rw[ah];simp
    ·rw[upd_ne z];exact ha
 have tr:Tr (FxB B bg) H (FxB (λa=>if a=p then on (i+2)else B a) bg) (upd H p (.lst xs)):=m.tr;have I:∀b l,bg=on (b,l)->b≠p/\l≠p:=λb l e=>by
  obtain⟨b1,b2⟩:=ok.bgt b l e;exact⟨λz=>(by subst z;rw[hB]at b1;cases b1),λz=>(by subst z;rw[hB]at b2;cases b2)⟩
 refine⟨⟨⟨λa ha z=>?_,λb l e=>?_,λb l e=>?_⟩,λb l e=>?_,by rw[Qi,Qi,ok.len],λa ha=>m.al a (ok.cov a ha),λc k J=>(by
  have f:(if c=p then on (i+2)else B c)=on (k+2):=J;by_cases z:c=p
  ·cases w:H₀ c with
   |none=>rfl
   |some o=>exact PF (z▸g) (ok.cov c (by rw[w];simp))
  ·rw[O3 z]at f;exact ok.new c k f),λc k J=>(by
  have f:(if c=p then on (i+2)else B c)=on (k+2):=J;by_cases z:c=p
  ·subst z;exact⟨xs,ah⟩
  ·rw[O3 z]at f;rw[upd_ne z];exact ok.lst c k f),λj s e=>?_⟩,m⟩
 ·by_cases q:a=p
  ·subst q;rw[ah]at z;cases z
  ·rw[upd_ne q]at z
   have u:(if a=p then on (i+2)else B a)≠OR:=ha;rw[O3 q]at u;exact ok.fr.occ a u z
 ·obtain⟨y,A⟩:=I b l e
  obtain⟨b1,b2⟩:=ok.bgt b l e;refine⟨?_,?_,(ok.fr.bgA b l e).2.2⟩
  ·show(if b=p then on (i+2)else B b)≠OR
   rw[O3 y,b1];simp
  ·show(if l=p then on (i+2)else B l)≠OR
   rw[O3 A,b2];simp
 ·obtain⟨y,A⟩:=I b l e
  rw[upd_ne y,upd_ne A];exact ok.fr.bag b l e
 ·obtain⟨y,A⟩:=I b l e
  simp only[O3 y,O3 A];exact ok.bgt b l e
 ·rw[Qq]at e
  rw[Qq];by_cases q:i=j
  ·subst q
   rw[O8 rfl]at e⊢;split at e
   ·rename_i R
    cases e;rw[O8 (by rw[←ok.len];exact R)];exact⟨_,rfl,p,xs,rfl,O8 rfl,ah,DenL.tr tr _ _ hd⟩
   ·cases e
  ·rw[O3 q]at e⊢
   obtain⟨v,T,L⟩:=ok.tell j s e;refine⟨v,T,?_⟩;cases s with
   |sh d=>exact Den.tr tr _ _ L
   |own cs=>
    obtain⟨a,ys,N,O,C,P⟩:=L;have F:=ne_of_none C g;exact⟨a,ys,N,by simp only[O3 F];exact O,by rw[upd_ne F];exact C,DenL.tr tr _ _ P⟩
   |grd rows=>
    obtain⟨a,rs,N,O,C,P,U⟩:=L;have F:=ne_of_none C g;exact⟨a,rs,N,by simp only[O3 F];exact O,by rw[upd_ne F];exact C,P,RowL.tr tr U λr W _ p q=>⟨by simp only[O3 (ne_of_none q g)];exact p,by rw[upd_ne (ne_of_none q g)];exact q⟩⟩
theorem SOk.writeOwn{δ:Ds}(ok:SOk K H₀ B bg H δ β σ)(hs:σ[i]?=on (on (.ref a)))(hB:B a=on (i+2))(ha:H a=on (.lst ys))(hd:DenL K (FxB B bg) H ds xs):
  SOk K H₀ B bg (upd H a (.lst xs)) (δ.set i (on (.own ds))) β σ/\Stp B H B (upd H a (.lst xs)):=by
 have g:Stp B H B (upd H a (.lst xs)):=by
  refine⟨λc o h n=>?_,λ_ _=>rfl,λ_ _ _ n=>n,λc m=>?_⟩
  ·rw[upd_ne]
   ·exact h
   ·intro z;subst z;rw[hB]at n;rcases n with n|n<;>cases n
  ·by_cases z:c=a
   ·subst z;rw[ah];simp
   ·rw[upd_ne z];exact m
 have tr:Tr (FxB B bg) H (FxB B bg) (upd H a (.lst xs)):=g.tr;refine⟨⟨⟨λc m z=>?_,ok.fr.bgA,λb l e=>?_⟩,ok.bgt,by rw[Qi,ok.len],λa ha=>g.al a (ok.cov a ha),ok.new,λc k m=>(by
  by_cases z:c=a
  ·subst z;exact⟨xs,ah⟩
  ·rw[upd_ne z];exact ok.lst c k m),λj s e=>?_⟩,g⟩
 ·by_cases q:c=a
  ·subst q;rw[ah]at z;cases z
  ·rw[upd_ne q]at z;exact ok.fr.occ c m z
 ·obtain⟨b1,b2⟩:=ok.bgt b l e
  rw[upd_ne (λz=>by subst z;rw[hB]at b1;cases b1),upd_ne (λz=>by subst z;rw[hB]at b2;cases b2)];exact ok.fr.bag b l e
 ·rw[Qq]at e
  by_cases q:i=j
  ·subst q
   rw[O8 rfl]at e;split at e
   ·cases e
    exact⟨_,hs,a,xs,rfl,hB,ah,DenL.tr tr _ _ hd⟩
   ·cases e
  ·rw[O3 q]at e
   obtain⟨v,F,u⟩:=ok.tell j s e;refine⟨v,F,?_⟩;cases s with
   |sh d=>exact Den.tr tr _ _ u
   |own cs=>
    obtain⟨c,C,w,f,y,A⟩:=u;have t:c≠a:=λz=>by subst z;rw[hB]at f;cases f;exact q rfl
    exact⟨c,C,w,f,by rw[upd_ne t];exact y,DenL.tr tr _ _ A⟩
   |grd rows=>
    obtain⟨c,rs,w,f,y,A,I⟩:=u;have t:∀c,B c=on (j+2)->c≠a:=λc f z=>by subst z;rw[hB]at f;cases f;exact q rfl
    exact⟨c,rs,w,f,by rw[upd_ne (t c f)];exact y,A,RowL.tr tr I λr C _ p q=>⟨p,by rw[upd_ne (t r p)];exact q⟩⟩
def xZ(i:Nat)(f:FL):G:=λδ β=>match f (vw δ) β with
 |some (.ok ds,β1)=>if ds.length<=Pe then on (.nx (δ.set i (on (.own ds))),β1)else OR
 |some (.error C,β1)=>on (.ex C δ,β1)
 |none=>OR
theorem sI(h:PS X st (jp (Le (tVA X.K f E)) (fj i))):PS X st (tG X.K X.H₀ (xZ i f) E):=h.imp λD r H j=>by
 obtain⟨B,bg,δ,β,o,k,ok,e,q⟩:=j;refine⟨FxB B bg,vw δ,β,ok.fr,ok.view,?_⟩;unfold xZ at e;split at e
 ·rename_i ds β1 b
  split at e
  ·rename_i l
   cases e;refine⟨.ok ds,_,b,λvs g t hd=>⟨by rw[←hd.length];exact l,λp m=>?_⟩⟩;obtain⟨a,c⟩:=ok.to rfl t;obtain⟨d,n⟩:=a.newOwn (i:=i) m hd;exact q _ _ _ (c.trans n) d
  ·cases e
 ·rename_i C β1 b
  cases e;refine⟨.error C,_,b,λg t=>?_⟩;obtain⟨a,c⟩:=ok.to rfl t;exact q _ B g c a
 ·cases e
def x8(i:Nat)(f:FL):G:=λδ β=>match δ.getD i OR with
 |some (.own cs)=>match f (vw δ) β with
  |some (.ok [d],β1)=>if cs.length<Pe then on (.nx (δ.set i (on (.own (cs++[d])))),β1)else OR
  |some (.error C,β1)=>on (.ex C δ,β1)
  |_=>OR
 |_=>OR
theorem getD_some{α:Type}{δ:List (Option α)}{i:Nat}{s:α}(h:δ.getD i OR=on s):δ[i]?=on (on s):=by
 rw[O1]at h;cases z:δ[i]? with
 |none=>rw[z]at h;cases h
 |some w=>rw[z]at h;simp at h;rw[h]
theorem sJ(h:PS X st (xi (tBM X.K "list" v3 (ql i) (tVA X.K f E)))):PS X st (tG X.K X.H₀ (x8 i f) E):=h.imp λD P H y=>by
 obtain⟨B,bg,δ,β,o,A,ok,e,q⟩:=y;unfold x8 at e;split at e
 ·rename_i cs u
  obtain⟨v,l,a,ys,rfl,F,I,Q⟩:=ok.tell i _ (getD_some u);refine⟨_,l,.inl ⟨rfl,ys,SqL.of I⟩,FxB B bg,vw δ,β,ok.fr,ok.view,?_⟩;split at e
  ·rename_i d β1 m
   split at e
   ·rename_i J
    cases e;refine⟨.ok [d],_,m,λvs w t hd=>?_⟩;obtain⟨b,n⟩:=ok.to rfl t;obtain⟨v,rfl,L⟩:=DenL.one hd;obtain⟨R,c,T,g,p,N,j,k⟩:=b.tell i _ (getD_some u);rw[l]at c;cases c;cases p;refine⟨a,g,v,rfl,rfl,j,by rw[←k.length];exact J,?_⟩;obtain⟨r,O⟩:=b.writeOwn (ds:=cs++[d]) (xs:=g++[v]) l F j (DenL.append k (DenL.cons L DenL.nil));exact q _ _ _ (n.trans O) r
   ·cases e
  ·rename_i C β1 m
   cases e;refine⟨.error C,_,m,λw t=>?_⟩;obtain⟨b,n⟩:=ok.to rfl t;exact q _ B w n b
  ·cases e
 ·cases e
noncomputable def fz(i:Nat)(δ:Ds):Ds:=match δ.getD i OR with
 |some (.own ds)=>δ.set i (on (.sh (.lst ds)))
 |some (.grd rows)=>δ.set i (on (.sh (.lst (rows.map D.lst))))
 |_=>δ
theorem SOk.freeze(i:Nat)(ok:SOk K H₀ B bg H δ β σ):∃U,SOk K H₀ U bg H (fz i δ) β σ/\Stp B H U H:=by
 unfold fz;split
 ·rename_i ds L
  obtain⟨v,N,a,ys,O,t,P,Y⟩:=ok.tell i _ (getD_some L);have g:Stp B H (λc=>if c=a then OR else B c) H:=by
   refine⟨λ_ _ h _=>h,λc hc=>?_,λc o h n=>?_,λ_ h=>h⟩
   ·have:c≠a:=λz=>by subst z;rw[t]at hc;rcases hc with hc|hc<;>cases hc
    simp only[O3 this]
   ·by_cases z:c=a
    ·simp only[O8 z]
    ·simp only[O3 z];exact n
  have tr:Tr (FxB B bg) H (FxB (λc=>if c=a then OR else B c) bg) H:=g.tr;have F:∀b l,bg=on (b,l)->b≠a/\l≠a:=λb l e=>by
   obtain⟨b1,b2⟩:=ok.bgt b l e;exact⟨λz=>(by subst z;rw[t]at b1;cases b1),λz=>(by subst z;rw[t]at b2;cases b2)⟩
  refine⟨λc=>if c=a then OR else B c,⟨⟨λc hc=>ok.fr.occ c ?_,λb l e=>?_,ok.fr.bag⟩,λb l e=>?_,by rw[Qi,ok.len],ok.cov,λc k hc=>(by
   have f:(if c=a then OR else B c)=on (k+2):=hc;split at f
   ·cases f
   ·exact ok.new c k f),λc k hc=>(by
   have f:(if c=a then OR else B c)=on (k+2):=hc;split at f
   ·cases f
   ·exact ok.lst c k f),λj s e=>?_⟩,g⟩
  ·have f:(if c=a then OR else B c)≠OR:=hc
   split at f
   ·exact PF rfl f
   ·exact f
  ·obtain⟨u,w⟩:=F b l e
   obtain⟨b1,b2⟩:=ok.bgt b l e;refine⟨?_,?_,(ok.fr.bgA b l e).2.2⟩
   ·show(if b=a then OR else B b)≠OR
    rw[O3 u,b1];simp
   ·show(if l=a then OR else B l)≠OR
    rw[O3 w,b2];simp
  ·obtain⟨u,w⟩:=F b l e
   simp only[O3 u,O3 w];exact ok.bgt b l e
  ·rw[Qq]at e
   by_cases q:i=j
   ·subst q
    rw[O8 rfl]at e;split at e
    ·cases e
     refine⟨_,N,a,ys,O,⟨λz=>?_,.inl P⟩,DenL.tr tr _ _ Y⟩;have I:(if a=a then OR else B a)≠OR:=z;rw[O8 rfl]at I;exact I rfl
    ·cases e
   ·rw[O3 q]at e
    obtain⟨Q,R,y⟩:=ok.tell j s e;refine⟨Q,R,?_⟩;cases s with
    |sh d=>exact Den.tr tr _ _ y
    |own cs=>
     obtain⟨c,J,d1,d2,d3,C⟩:=y;have m:c≠a:=λz=>by subst z;rw[t]at d2;cases d2;exact q rfl
     exact⟨c,J,d1,by simp only[O3 m];exact d2,d3,DenL.tr tr _ _ C⟩
    |grd rows=>
     obtain⟨c,rs,d1,d2,d3,C,T⟩:=y;have m:∀c,B c=on (j+2)->c≠a:=λc d2 z=>by subst z;rw[t]at d2;cases d2;exact q rfl
     exact⟨c,rs,d1,by simp only[O3 (m c d2)];exact d2,d3,C,RowL.tr tr T λr J _ p q=>⟨by simp only[O3 (m r p)];exact p,q⟩⟩
 ·rename_i rows L
  classical
  obtain⟨v,N,a,rs,O,t,P,nd,W⟩:=ok.tell i _ (getD_some L);have own:∀c,c=a\/c∈rs->B c=on (i+2):=λc hc=>by
   rcases hc with rfl|hc
   ·exact t
   ·exact(W.all c hc).1
  have g:Stp B H (λc=>if c=a\/c∈rs then OR else B c) H:=by
   refine⟨λ_ _ h _=>h,λc hc=>?_,λc o h n=>?_,λ_ h=>h⟩
   ·have:¬(c=a\/c∈rs):=λz=>by rw[own c z]at hc;rcases hc with hc|hc<;>cases hc
    simp only[O3 this]
   ·by_cases z:c=a\/c∈rs
    ·simp only[O8 z]
    ·simp only[O3 z];exact n
  have tr:Tr (FxB B bg) H (FxB (λc=>if c=a\/c∈rs then OR else B c) bg) H:=g.tr;have F:∀b l,bg=on (b,l)->¬(b=a\/b∈rs)/\¬(l=a\/l∈rs):=λb l e=>by
   obtain⟨b1,b2⟩:=ok.bgt b l e;exact⟨λz=>(by rw[own b z]at b1;cases b1),λz=>(by rw[own l z]at b2;cases b2)⟩
  have free:∀c,c=a\/c∈rs->¬(FxB (λc=>if c=a\/c∈rs then OR else B c) bg).A c:=λc hc z=>by
   have I:(if c=a\/c∈rs then OR else B c)≠OR:=z;rw[O8 hc]at I;exact I rfl
  refine⟨λc=>if c=a\/c∈rs then OR else B c,⟨⟨λc hc=>ok.fr.occ c ?_,λb l e=>?_,ok.fr.bag⟩,λb l e=>?_,by rw[Qi,ok.len],ok.cov,λc k hc=>(by
   have f:(if c=a\/c∈rs then OR else B c)=on (k+2):=hc;split at f
   ·cases f
   ·exact ok.new c k f),λc k hc=>(by
   have f:(if c=a\/c∈rs then OR else B c)=on (k+2):=hc;split at f
   ·cases f
   ·exact ok.lst c k f),λj s e=>?_⟩,g⟩
  ·have f:(if c=a\/c∈rs then OR else B c)≠OR:=hc
   split at f
   ·exact PF rfl f
   ·exact f
  ·obtain⟨u,w⟩:=F b l e
   obtain⟨b1,b2⟩:=ok.bgt b l e;refine⟨?_,?_,(ok.fr.bgA b l e).2.2⟩
   ·show(if b=a\/b∈rs then OR else B b)≠OR
    rw[O3 u,b1];simp
   ·show(if l=a\/l∈rs then OR else B l)≠OR
    rw[O3 w,b2];simp
  ·obtain⟨u,w⟩:=F b l e
   simp only[O3 u,O3 w];exact ok.bgt b l e
  ·rw[Qq]at e
   by_cases q:i=j
   ·subst q
    rw[O8 rfl]at e;split at e
    ·cases e
     exact⟨_,N,a,_,O,⟨free a (.inl rfl),.inl P⟩,RowL.den tr W λr Z _=>free r (.inr Z)⟩
    ·cases e
   ·rw[O3 q]at e
    obtain⟨Q,R,y⟩:=ok.tell j s e;refine⟨Q,R,?_⟩;have m:∀c,B c=on (j+2)->¬(c=a\/c∈rs):=λc d2 z=>by rw[own c z]at d2;cases d2;exact q rfl
    cases s with
    |sh d=>exact Den.tr tr _ _ y
    |own cs=>
     obtain⟨c,J,d1,d2,d3,C⟩:=y;exact⟨c,J,d1,by simp only[O3 (m c d2)];exact d2,d3,DenL.tr tr _ _ C⟩
    |grd rows2=>
     obtain⟨c,qs,d1,d2,d3,C,T⟩:=y;exact⟨c,qs,d1,by simp only[O3 (m c d2)];exact d2,d3,C,RowL.tr tr T λr J _ p q=>⟨by simp only[O3 (m r p)];exact p,q⟩⟩
 ·exact⟨B,ok,Stp.refl B H⟩
noncomputable def fzG(i:Nat)(g:G):G:=λδ β=>g (fz i δ) β
theorem Lq(i:Nat)(h:PSs X sts (tG X.K X.H₀ g E)):PSs X sts (tG X.K X.H₀ (fzG i g) E):=h.imp λD f H c=>by
 obtain⟨B,bg,δ,β,o,a,ok,e,q⟩:=c;obtain⟨d,b,s⟩:=ok.freeze i;exact⟨d,bg,fz i δ,β,o,a,b,e,iq.pre s q⟩
noncomputable def stD(n:Nat)(ds:List D):Ds:=ds.map (λd=>on (Sl.sh d))++Pi (n-ds.length) OR
def cW(n:Nat)(g:G):List D->M D:=λds β=>match g (stD n ds) β with
 |some (.rt d,β')=>on (.ok d,β')
 |some (.nx _,β')=>on (.ok .non,β')
 |some (.ex C _,β')=>on (.error C,β')
 |_=>OR
theorem tM{F:Fx}{N:List PY}(fr:Fr F H β)(hd:DenL K F H ds vs):∃B,SOk K H B F.bg H (stD N.length ds) β (e8 N vs)/\(∀a,F.A a->B a=on 0\/B a=on 1)/\(∀a,B a=on 1->∃b l,F.bg=on (b,l)/\(a=b\/a=l))/\(∀a,B a≠OR->F.A a):=by
 classical
 refine⟨λa=>if F.A a then(if ∃b l,F.bg=on (b,l)/\(a=b\/a=l)then on 1 else on 0)else OR,⟨⟨λa ha=>fr.occ a ?_,λb l e=>?_,fr.bag⟩,λb l e=>?_,?_,λ_ h=>h,λc k m=>(by
  have f:(if F.A c then(if ∃b l,F.bg=on (b,l)/\(c=b\/c=l)then on 1 else on 0)else OR)=on (k+2):=m;split at f
  ·split at f<;>cases f
  ·cases f),λc k m=>(by
  have f:(if F.A c then(if ∃b l,F.bg=on (b,l)/\(c=b\/c=l)then on 1 else on 0)else OR)=on (k+2):=m;split at f
  ·split at f<;>cases f
  ·cases f),λi s e=>?_⟩,λa ha=>?_,λa ha=>?_,λa ha=>?_⟩
 ·have g:(if F.A a then(if ∃b l,F.bg=on (b,l)/\(a=b\/a=l)then on 1 else on 0)else OR)≠(OR:Option Nat):=ha
  split at g
  ·assumption
  ·exact PF rfl g
 ·obtain⟨a1,a2,a3⟩:=fr.bgA b l e
  refine⟨?_,?_,a3⟩
  ·show(if F.A b then(if ∃j l,F.bg=on (j,l)/\(b=j\/b=l)then on 1 else on 0)else OR)≠(OR:Option Nat)
   rw[O8 a1];split<;>simp
  ·show(if F.A l then(if ∃j p,F.bg=on (j,p)/\(l=j\/l=p)then on 1 else on 0)else OR)≠(OR:Option Nat)
   rw[O8 a2];split<;>simp
 ·obtain⟨a1,a2,a3⟩:=fr.bgA b l e
  exact⟨by rw[O8 a1,O8 ⟨b,l,e,.inl rfl⟩],by rw[O8 a2,O8 ⟨b,l,e,.inr rfl⟩]⟩
 ·unfold stD e8
  rw[Pn,Pn,OS,OS,QV,QV,hd.length]
 ·unfold stD at e
  unfold e8;rw[Vp,OS]at e;rw[Vp,OS,←hd.length];by_cases n:i<ds.length
  ·rw[O8 n,O4]at e
   rw[O8 n,O4];cases z:ds[i]? with
   |none=>rw[z]at e;cases e
   |some d=>
    rw[z]at e;cases e;obtain⟨v,r,t⟩:=hd.get z;refine⟨v,by rw[r];rfl,?_⟩;have o:Tr F H (FxB (λa=>if F.A a then(if ∃b l,F.bg=on (b,l)/\(a=b\/a=l)then on 1 else on 0)else OR) F.bg) H:=by
     refine⟨λa ha _ u=>?_,λ_ _ _ h=>h,rfl⟩;have q:(if F.A a then(if ∃b l,F.bg=on (b,l)/\(a=b\/a=l)then on 1 else on 0)else OR)≠(OR:Option Nat):=u;rw[O3 ha]at q;exact q rfl
    exact Den.tr o _ _ t
  ·rw[O3 n,R4]at e
   split at e<;>cases e
 ·simp only[O8 ha]
  split
  ·exact .inr rfl
  ·exact .inl rfl
 ·simp only at ha
  split at ha
  ·split at ha
   ·assumption
   ·cases ha
  ·cases ha
 ·simp only at ha
  split at ha
  ·assumption
  ·exact PF rfl ha
end
section
variable{P:Pt}{w:PV}{K:Po}{mg:PY->Option OX}{base:P7}
theorem KM{st:QF}{N ps:List PY}(F:FunD K x qual st f fd)(S:FnScope N ps (af st))
  (y:∀(j:OX) (A:Qn) (outer:List Wc) (s:O7) (H:Hp) (E:XK),Room k (A.deeper (TM qual (af st) s.heap.objs.size f j))->
   PSs (dy (CXE P w) P w K mg base N qual (af st) f j A outer s H E) (cw st) (tG K H g (λ_=>E))):FnOk P w K mg base (CXE P w) (k+1) f fd ps (spF K ps.length (cW N.length g)):=by
 refine F.okE S (λvs H Q E h=>h.1) λj A outer s H vs Q E X h=>?_;obtain⟨hl,p,ds,β,fr,hd,r,i,e,h⟩:=h;refine⟨_,y j A outer s H E X,?_⟩;obtain⟨B,ok,T,Y,hn⟩:=tM (N:=N) fr hd;have I:∀{u:Ow} {c:Hp},Stp B H u c->Fr (FxB u p.bg) c i->To p H c i/\Tr (FxB u p.bg) c p c:=λ{u c} s m=>by
  have hs:∀a,p.A a->u a≠OR:=λa ha=>by
   rw[s.tg a (T a ha)];rcases T a ha with z|z<;>rw[z]<;>simp
  refine⟨⟨λa o ha n=>s.kp a o ha ?_,λa ha=>m.occ a (hs a ha),λb l e=>fr.bgA b l e,m.bag⟩,λa ha _ z=>ha (hs a z),λ_ _ _ h=>h,rfl⟩;cases q:B a with
  |none=>exact .inl rfl
  |some t=>
   have:=T a (hn a (by rw[q];simp));rcases this with z|z
   ·rw[q]at z;exact .inr z
   ·obtain⟨b,l,e,w⟩:=Y a z
    obtain⟨Z,n2⟩:=n b l e;rcases w with w|w
    ·exact PF w Z
    ·exact PF w n2
 unfold cW at e;split at e
 ·rename_i d β1 O
  cases e;refine⟨B,p.bg,stD N.length ds,β,.rt d,i,ok,O,λv u c s m hv=>?_⟩;obtain⟨R,U⟩:=I s m;exact h v c R (Den.tr U _ _ hv)
 ·rename_i J β1 O
  cases e;refine⟨B,p.bg,stD N.length ds,β,.nx J,i,ok,O,λW u c s L=>?_⟩;obtain⟨R,U⟩:=I s L.fr;exact h _ c R rfl
 ·rename_i C J β1 O
  cases e;refine⟨B,p.bg,stD N.length ds,β,.ex C J,i,ok,O,λW u c s L=>?_⟩;obtain⟨R,U⟩:=I s L.fr;exact h c R
 ·cases e
end
section
variable{prog:Pt}{w:PV}{A:Qn}
theorem OM(l:A.handled=OR)(it t:OZ)(ne:t≠it)(b:Array OX):WR prog w A it [it,t] b.size (λi v=>b[i]?=on v) (λi h=>h.IsTupleIter it t i/\h.IsTuple t b) where
 live:=λ_ _ st=>let ⟨o,e,_⟩:=st.1;⟨o,e⟩
 frame:=λ_ _ _ st k=>⟨st.1.at λo e=>k it (by simp) o e,by
  obtain⟨o,e,r⟩:=st.2;exact⟨o,k t (by simp) o e,r⟩⟩
 item:=λi s Q E p st q=>by
  obtain⟨o,d,co,c⟩:=id st.1;obtain⟨n,f,_,nt,g⟩:=st.2;have j:b[i]?=on b[i]:=by simp[p]
  unfold Q8;refine My (wpAny_callSpecial?_slot (name:=P5 "__next__") st.1.typeIs SN (Ql SN st.1.typeIs WS ?_ (WH _)));show Pf _ _ (YG (.ref it) 0>>=_) _ _ _;refine My (QJ d c (x:= .ref t) rfl ?_);show Pf _ _ (if(Pj t==Qs)=OV then _ else _) _ _ _;rw[O3 (show ¬((Pj t==Qs)=OV)from Pa)];show Pf _ _ (YG (.ref it) 1>>=_) _ _ _;refine My (QJ d c (x:= .int i 0) rfl ?_);show Pf _ _ (seqItems? (.ref t)>>=_) _ _ _;refine My (Q9 f g ?_);simp only[QL,j];refine My (S4 d c (by simp) (OT ⟨b[i],rfl,OT (q _ _ s.toks j ⟨?_,?_⟩ (QM ..))⟩))
  ·exact⟨_,Rj _ d (Vk (Rx c _)),(VX ..).trans co,by rw[Rx c];simp[TU]⟩
  ·exact⟨n,(QM ..).extBut _ _ ne f,by assumption,nt,g⟩
 done:=λs Q E st u=>by
  obtain⟨o,d,co,c⟩:=id st.1;obtain⟨n,f,_,nt,g⟩:=st.2;have j:b[b.size]?=OR:=by simp
  unfold Q8;refine My (wpAny_callSpecial?_slot (name:=P5 "__next__") st.1.typeIs SN (Ql SN st.1.typeIs WS ?_ (WH _)));show Pf _ _ (YG (.ref it) 0>>=_) _ _ _;refine My (QJ d c (x:= .ref t) rfl ?_);show Pf _ _ (if(Pj t==Qs)=OV then _ else _) _ _ _;rw[O3 (show ¬((Pj t==Qs)=OV)from Pa)];show Pf _ _ (YG (.ref it) 1>>=_) _ _ _;refine My (QJ d c (x:= .int b.size 0) rfl ?_);show Pf _ _ (seqItems? (.ref t)>>=_) _ _ _;refine My (Q9 f g ?_);simp only[QL,j];refine My (S3 (My (S4 d c (by simp) ?_)));show Pf _ _ (YV (.type "StopIteration") []>>=_) _ _ _;refine My ?_;simp only[YV,newTuple];refine My (QE ?_ (by size_fits));refine My (m:=TN _ _) (SZ (a:=Qs) (by first|rfl|(simp only[TN];rfl)) ?_);refine QE ?_ (by size_fits)
  simp only[raiseNew];refine My (Ym ?_)
  first|rw[show A.in1.handled=OR from l]|rw[l];skip
  refine My (OT (wpAny_throw ?_));exact u _ _ (((QM ..).extBut.push _).push _) ⟨_,Pl _ rfl,rfl⟩
end
structure Ap (z TI TO i1 i2:OZ) (f1 f2:List OZ):Prop where
 a1:TI≠z
 a2:TO≠z
 a3:i1≠z
 a4:i2≠z
 a5:TI≠TO
 a6:TI≠i1
 a7:TI≠i2
 a8:TO≠i1
 a9:TO≠i2
 b1:i1≠i2
 c1:z∉f1
 c2:TO∉f1
 c3:i2∉f1
 d1:z∉f2
 d2:TO∉f2
 d3:i1∉f2
 m1:i1∈f1
 m2:i2∈f2
section
variable{prog:Pt}{w:PV}{A:Qn}{E:OX->O7->Prop}{s:O7}
theorem bZ{it:OZ}{f:List OZ}{h h':P7}(a:PX it h h')(n:it∉f):∀b∈f,∀o,h.get? b=on o->h'.get? b=on o:=λb c o e=>a.extBut b o (λq=>n (q▸c)) e
theorem yx{z TI TO r t:OZ}{f1 f2:List OZ}{u B k:Nat}{P1 P2:Nat->OX->Prop}{W X:Nat->P7->Prop}{a b:OX}{Q:OX->O7->Prop}(L:WR prog w A r f1 u P1 W)(N:WR prog w A t f2 B P2 X)(d:Ap z TI TO r t f1 f2)
  (P:U2 s.heap z TI TO .none) (eI:Se s.heap TI (.ref r) (.ref t)) (eO:Se s.heap TO a b) (s1:W k s.heap) (s2:X k s.heap) (k1:k<u) (k2:k<B)
  (hQ:∀h' tk x y,P1 k x->P2 k y->U2 h' z TI TO (TU s.heap.objs.size)->Se h' TO x y->W (k+1) h'->X (k+1) h'->Se h' s.heap.objs.size x y->h'.objs.size=s.heap.objs.size+1->(∀c o,c≠z->c≠TO->c≠r->c≠t->s.heap.get? c=on o->h'.get? c=on o)->Q (.ref s.heap.objs.size) {s with heap:=h',toks:=tk}):
  Pf (Py prog w) A (Builtin.«zip.__next__» ⟨[.ref z],[]⟩) (λZ s'=>∃v,Z= .done (.ret v)/\Q v s') E s:=by
 obtain⟨hp,gg,dd,tk0,os⟩:=s;show Pf _ _ (YG (.ref z) 2>>=_) _ _ _;refine My (QJ P rfl (x:= .bool OW) rfl ?_);show Pf _ _ (YG (.ref z) 3>>=_) _ _ _;refine My (QJ P rfl (x:= .ref TI) rfl ?_);refine My (Q9 eI rfl ?_);show Pf _ _ (Rm (.ref z)>>=_) _ _ _;refine My ?_;unfold Rm;refine My (QJ P rfl (x:= .none) rfl (OT ?_));simp only[Qb];refine My (S3 ?_);refine My (QJ P rfl (x:= .ref TO) rfl ?_);refine My (QS P (by simp) λg1 C g=>?_)
 replace C:U2 g1 z TI TO .ellipsis:=C
 replace g:PX z hp g1:=g
 refine My ?_;simp only[List.zipIdx_cons,List.zipIdx_nil,Si,SB];refine My (My (Vf ?_));show Pf _ _ (Q8 (.ref r)>>=_) _ _ _;refine My (L.item k _ _ _ k1 (L.frame _ _ _ s1 (bZ g d.c1)) λx g2 tk2 px st2 h=>OT ?_)
 replace h:PX r g1 g2:=h
 have R:Se g2 TO a b:=h.extBut _ _ d.a8 (g.extBut _ _ d.a2 eO);refine My (Q9 R rfl ?_);refine My (VO R λg3 F i=>?_)
 replace F:Se g3 TO x b:=F
 replace i:PX TO g2 g3:=i
 refine My (VM (OT ?_));refine My (My (Vf ?_));show Pf _ _ (Q8 (.ref t)>>=_) _ _ _;refine My (N.item k _ _ _ k2 (N.frame _ _ _ (N.frame _ _ _ (N.frame _ _ _ s2 (bZ g d.d1)) (bZ h d.d3)) (bZ i d.d2)) λy g4 tk4 py st4 j=>OT ?_)
 replace j:PX t g3 g4:=j
 have T:Se g4 TO x b:=j.extBut _ _ d.a9 F;refine My (Q9 T rfl ?_);refine My (VO T λf m l=>?_)
 replace m:Se f TO x y:=m
 replace l:PX TO g4 f:=l
 refine My (VM (OT (OT ?_)));refine My (Q9 m rfl ?_);refine My (VN ?_);have zs:f.objs.size=hp.objs.size:=by rw[l.1,j.1,i.1,h.1,g.1]
 have U:U2 f z TI TO .ellipsis:=l.extBut _ _ d.a2.symm (j.extBut _ _ d.a4.symm (i.extBut _ _ d.a2.symm (h.extBut _ _ d.a3.symm C)));have kp5:∀c o,c≠z->c≠TO->c≠r->c≠t->hp.get? c=on o->f.get? c=on o:=λc o u B n3 n4 e=>l.extBut _ _ B (j.extBut _ _ n4 (i.extBut _ _ B (h.extBut _ _ n3 (g.extBut _ _ u e))));have st1:W (k+1) f:=L.frame _ _ _ (L.frame _ _ _ (L.frame _ _ _ st2 (bZ i d.c2)) (bZ j d.c3)) (bZ l d.c2);have st5:X (k+1) f:=N.frame _ _ _ st4 (bZ l d.d2);have zl:z<f.objs.size:=Pz U;show Pf _ _ (Ug (.ref z) (.ref f.objs.size)>>=_) _ _ _;refine My ?_;unfold Ug;have ez6:U2 (f.push {cls:= .type "tuple",data:= .seq #[x,y]}) z TI TO .ellipsis:=OU _ U;refine My (QS ez6 (by simp) λg7 H I=>?_)
 replace H:U2 g7 z TI TO (TU f.objs.size):=H
 refine QS H (by simp) λO p J=>?_
 replace p:U2 O z TI TO (TU f.objs.size):=p
 have Y:∀c o,c≠z->f.get? c=on o->O.get? c=on o:=λc o n e=>J.extBut _ _ n (I.extBut _ _ n (OU _ e));have eT:Se O f.objs.size x y:=J.extBut _ _ (RK zl) (I.extBut _ _ (RK zl) (Pl _ rfl));have z8:O.objs.size=f.objs.size+1:=by rw[J.1,I.1,QD]
 rw[zs]at p eT z8;refine OT ⟨_,rfl,?_⟩;show Q (.ref f.objs.size) ⟨O,gg,dd,_,os⟩;rw[zs];exact hQ O _ x y px py p (Y _ _ d.a2 m) (L.frame _ _ _ st1 λb hb o e=>Y b o (λq=>d.c1 (q▸hb)) e) (N.frame _ _ _ st5 λb hb o e=>Y b o (λq=>d.d1 (q▸hb)) e) eT z8 λc o u B n3 n4 e=>Y c o u (kp5 c o u B n3 n4 e)
theorem BV{z TI TO n r:OZ}{f1 f2:List OZ}(H:WR prog w A n f1 m P1 S1)(I:WR prog w A r f2 R P2 S2)(i:Ap z TI TO n r f1 f2)
  (u:U2 s.heap z TI TO .none) (X:Se s.heap TI (.ref n) (.ref r)) (Y:Se s.heap TO a b) (T:S1 k s.heap) (Z:S2 k s.heap) (k1:k=m\/(k<m/\k=R))
  (U:∀h' e tk,(∀c o,c≠z->c≠TO->c≠n->c≠r->s.heap.get? c=on o->h'.get? c=on o)->(∃o,h'.get? e=on o/\o.cls= .type "StopIteration")->E (.ref e) {s with heap:=h',toks:=tk}):
  Pf (Py prog w) A (Builtin.«zip.__next__» ⟨[.ref z],[]⟩) Q E s:=by
 obtain⟨hp,gg,dd,tk0,os⟩:=s;show Pf _ _ (YG (.ref z) 2>>=_) _ _ _;refine My (QJ u rfl (x:= .bool OW) rfl ?_);show Pf _ _ (YG (.ref z) 3>>=_) _ _ _;refine My (QJ u rfl (x:= .ref TI) rfl ?_);refine My (Q9 X rfl ?_);show Pf _ _ (Rm (.ref z)>>=_) _ _ _;refine My ?_;unfold Rm;refine My (QJ u rfl (x:= .none) rfl (OT ?_));simp only[Qb];refine My (S3 ?_);refine My (QJ u rfl (x:= .ref TO) rfl ?_);refine My (QS u (by simp) λJ j f=>?_)
 replace j:U2 J z TI TO .ellipsis:=j
 replace f:PX z hp J:=f
 refine My ?_;simp only[List.zipIdx_cons,List.zipIdx_nil,Si,SB];refine My (My (Vf ?_));show Pf _ _ (Q8 (.ref n)>>=_) _ _ _;rcases k1 with rfl|⟨k1,rfl⟩
 ·refine My (H.done _ _ _ (H.frame _ _ _ T (bZ f i.c1)) λt e d N=>?_)
  replace d:V4 n J t:=d
  obtain⟨O,h,v⟩:=N;have y:U2 t z TI TO .ellipsis:=d _ _ i.a3.symm j;have p:e≠z:=λq=>by subst q;rw[y]at h;cases h;simp at v
  exact QS y (by simp) λL _ g=>U L e _ (λc o m _ P _ q=>g.extBut _ _ m (d _ _ P (f.extBut _ _ m q))) ⟨O,g.extBut _ _ p h,v⟩
 ·refine My (H.item k _ _ _ k1 (H.frame _ _ _ T (bZ f i.c1)) λx t tk2 px st2 d=>OT ?_)
  replace d:PX n J t:=d
  have B:Se t TO a b:=d.extBut _ _ i.a8 (f.extBut _ _ i.a2 Y);refine My (Q9 B rfl ?_);refine My (VO B λL eO3 g=>?_)
  replace g:PX TO t L:=g
  refine My (VM (OT ?_));refine My (My (Vf ?_));show Pf _ _ (Q8 (.ref r)>>=_) _ _ _;refine My (I.done _ _ _ (I.frame _ _ _ (I.frame _ _ _ (I.frame _ _ _ Z (bZ f i.d1)) (bZ d i.d3)) (bZ g i.d2)) λW e l N=>?_)
  replace l:V4 r L W:=l
  obtain⟨O,h,v⟩:=N;have C:U2 W z TI TO .ellipsis:=l _ _ i.a4.symm (g.extBut _ _ i.a2.symm (d.extBut _ _ i.a3.symm j));have p:e≠z:=λq=>by subst q;rw[C]at h;cases h;simp at v
  exact QS C (by simp) λg5 _ F=>U g5 e _ (λc o m R P n4 q=>F.extBut _ _ m (l _ _ n4 (g.extBut _ _ R (d.extBut _ _ P (f.extBut _ _ m q))))) ⟨O,F.extBut _ _ p h,v⟩
theorem yw{z TI TO e f:OZ}{f1 f2:List OZ}(i:∀d:Qn,d.handled=A.handled->WR prog w d e f1 n1 P1 S1)(j:∀d:Qn,d.handled=A.handled->WR prog w d f f2 n2 P2 S2)(l:Ap z TI TO e f f1 f2)
  (h:U2 s.heap z TI TO .none) (m:Se s.heap TI (.ref e) (.ref f)) (n:Se s.heap TO a b) (p:S1 k s.heap) (q:S2 k s.heap) (k1:k<n1) (k2:k<n2)
  (r:∀h' g x y,P1 k x->P2 k y->U2 h' z TI TO (TU s.heap.objs.size)->Se h' TO x y->S1 (k+1) h'->S2 (k+1) h'->Se h' s.heap.objs.size x y->h'.objs.size=s.heap.objs.size+1->(∀c o,c≠z->c≠TO->c≠e->c≠f->s.heap.get? c=on o->h'.get? c=on o)->Q (on (.ref s.heap.objs.size)) {s with heap:=h',toks:=g}):
  Pf (Py prog w) A (TR (.ref z)) Q E s:=by
 have ty:s.TypeIs (.ref z) "zip":=⟨_,h,rfl⟩;unfold TR;exact My (Uc (wpAny_callSpecial?_slot (name:=P5 "__next__") ty Vo (Ql Vo ty F.entry_zip_next (yx (i _ rfl) (j _ rfl) l h m n p q k1 k2 λh' g x y a1 a2 a3 a4 a5 a6 a7 a8 a9=>OT (r h' g x y a1 a2 a3 a4 a5 a6 a7 a8 a9)) (F.args_zip_next_1 _))))
theorem BU{z TI TO f g:OZ}{f1 f2:List OZ}(j:∀d:Qn,d.handled=A.handled->WR prog w d f f1 n1 P1 S1)(l:∀d:Qn,d.handled=A.handled->WR prog w d g f2 n2 P2 S2)(m:Ap z TI TO f g f1 f2)
  (h:U2 s.heap z TI TO .none) (n:Se s.heap TI (.ref f) (.ref g)) (p:Se s.heap TO a b) (q:S1 k s.heap) (r:S2 k s.heap) (k1:k=n1\/(k<n1/\k=n2))
  (t:∀h' i,(∀c o,c≠z->c≠TO->c≠f->c≠g->s.heap.get? c=on o->h'.get? c=on o)->Q OR {s with heap:=h',toks:=i}):Pf (Py prog w) A (TR (.ref z)) Q E s:=by
 have ty:s.TypeIs (.ref z) "zip":=⟨_,h,rfl⟩;unfold TR;refine My (Uc (wpAny_callSpecial?_slot (name:=P5 "__next__") ty Vo (Ql Vo ty F.entry_zip_next (BV (j _ rfl) (l _ rfl) m h n p q r k1 λh' e i u v=>?_) (F.args_zip_next_1 _))));obtain⟨o,y,B⟩:=v;refine My (RQ (T:="StopIteration") (b:=OV) ⟨o,y,B⟩ Xy ?_);exact OT (t _ _ u)
end
def Src(b:Bool)(h:P7)(a:OZ)(its:Array OX):Prop:=if b=OV then h.IsList a its else h.IsTuple a its
noncomputable def IR(b:Bool):String:=if b=OV then "list_iterator"else "tuple_iterator"
noncomputable abbrev pF(b:Bool)(a:OZ):PP:={cls:= .type (IR b),data:= .fields #[.ref a,.int 0 0]}
def f7(b:Bool)(h:P7)(it a:OZ)(k:Nat):Prop:=if b=OV then h.IsListIter it a k else h.IsTupleIter it a k
section
variable{prog:Pt}{w:PV}{A:Qn}{E:OX->O7->Prop}{s:O7}
theorem Src.keep{b:Bool}{h h':P7}(x:Src b h a its)(k:∀o,h.get? a=on o->h'.get? a=on o):Src b h' a its:=by
 unfold Src at x⊢;split at x
 ·rename_i q;rw[O8 q];exact x.at λo e=>k o e
 ·rename_i q;rw[O3 q]
  obtain⟨o,e,r⟩:=x;exact⟨o,k o e,r⟩
theorem o5{b:Bool}(x:Src b s.heap a its)(h:Q (.ref s.heap.objs.size) {s with heap:=s.heap.push (pF b a)}):Pf (Py prog w) A (VJ (.ref a)) Q E s:=by
 cases b with
 |true=>exact U7 (show s.heap.IsList a its from x) h
 |false=>exact Wa (show s.heap.IsTuple a its from x) h
theorem sZ(b:Bool)(c:A.handled=OR)(it a:OZ)(ne:a≠it)(its:Array OX):WR prog w A it [it,a] its.size (λi v=>its[i]?=on v) (λi h=>f7 b h it a i/\Src b h a its):=by
 cases b with
 |true=>exact XV c it a ne its
 |false=>exact OM c it a ne its
abbrev zH1(b1:Bool)(h:P7)(a:OZ):P7:=h.push (pF b1 a)
abbrev zH2(b1 b2:Bool)(h:P7)(a b:OZ):P7:=(zH1 b1 h a).push (pF b2 b)
abbrev zH3(b1 b2:Bool)(h:P7)(a b:OZ):P7:=(zH2 b1 b2 h a b).push {cls:= .type "tuple",data:= .seq #[.ref h.objs.size,.ref (zH1 b1 h a).objs.size]}
abbrev zH4(b1 b2:Bool)(h:P7)(a b:OZ):P7:=(zH3 b1 b2 h a b).push {cls:= .type "tuple",data:= .seq #[.none,.none]}
abbrev zH5(b1 b2:Bool)(h:P7)(a b:OZ):P7:=(zH4 b1 b2 h a b).push {cls:= .type "zip",data:= .fields #[.none,.bool OW,.bool OW,.ref (zH2 b1 b2 h a b).objs.size,.ref (zH3 b1 b2 h a b).objs.size]}
theorem xH(b1 b2:Bool)(a b:OZ)(xs ys:Array OX):
  Meets (Builtin.«zip.__new__» ⟨[.type "zip",.ref a,.ref b],[]⟩) (λ_ R s=>Src b1 s.heap a xs/\Src b2 s.heap b ys/\R (.ok (.ret (.ref (zH4 b1 b2 s.heap a b).objs.size))) {s with heap:=zH5 b1 b2 s.heap a b}):=
 .of_wp λprog w A R s h=>by
  obtain⟨c,g,d,f,os⟩:=s;obtain⟨j,k,q⟩:=h;have i:=sub_zip;have l:Src b1 (Shared.heap ⟨c,g,d,f,os⟩) a xs:=j;have m:Src b2 (Shared.heap ⟨c.push (pF b1 a),g,d,f,os⟩) b ys:=k.keep λo e=>OU _ e
  wp_walk using o5 l,o5 m
  exact⟨_,rfl,q⟩
theorem BD{b1 b2:Bool}(q:Src b1 s.heap l1 xs)(r:Src b2 s.heap l2 ys)
  (h:∀h',U2 h' (s.heap.objs.size+4) (s.heap.objs.size+2) (s.heap.objs.size+3) .none->Se h' (s.heap.objs.size+2) (.ref s.heap.objs.size) (.ref (s.heap.objs.size+1))->Se h' (s.heap.objs.size+3) .none .none->f7 b1 h' s.heap.objs.size l1 0->f7 b2 h' (s.heap.objs.size+1) l2 0->h'.objs.size=s.heap.objs.size+5->(∀c o,s.heap.get? c=on o->h'.get? c=on o)->Q (.ref (s.heap.objs.size+4)) {s with heap:=h'}):
  Pf (Py prog w) A (UM (.type "zip") [.ref l1,.ref l2]) Q E s:=by
 refine callType_new F.called_zip (by decide) (F.typeCall_zip_2 _ _) (F.newCall_zip_2 _ _) (λobj=>F.args_object_init_3 obj _ _) F.entry_zip_new (xH b1 b2 l1 l2 xs ys) ⟨q,r,?_⟩;have f:(zH1 b1 s.heap l1).objs.size=s.heap.objs.size+1:=QD ..;have g:(zH2 b1 b2 s.heap l1 l2).objs.size=s.heap.objs.size+2:=by rw[QD,f]
 have i:(zH3 b1 b2 s.heap l1 l2).objs.size=s.heap.objs.size+3:=by rw[QD,g]
 have j:(zH4 b1 b2 s.heap l1 l2).objs.size=s.heap.objs.size+4:=by rw[QD,i]
 have t:(zH5 b1 b2 s.heap l1 l2).objs.size=s.heap.objs.size+5:=by rw[QD,j]
 have k:(zH5 b1 b2 s.heap l1 l2).get? (zH4 b1 b2 s.heap l1 l2).objs.size=on _:=Pl _ rfl;have l:(zH5 b1 b2 s.heap l1 l2).get? (zH3 b1 b2 s.heap l1 l2).objs.size=on _:=OU _ (Pl _ rfl);have m:(zH5 b1 b2 s.heap l1 l2).get? (zH2 b1 b2 s.heap l1 l2).objs.size=on _:=OU _ (OU _ (Pl _ rfl));have n:(zH5 b1 b2 s.heap l1 l2).get? (zH1 b1 s.heap l1).objs.size=on _:=OU _ (OU _ (OU _ (Pl _ rfl)));have u:(zH5 b1 b2 s.heap l1 l2).get? s.heap.objs.size=on _:=OU _ (OU _ (OU _ (OU _ (Pl _ rfl))));show _/\_;rw[g,i,j]at k;rw[f,g]at m;rw[i]at l;rw[f]at n;rw[j];have d:∀(b:Bool) (h':P7) (p a:OZ),h'.get? p=on (pF b a)->f7 b h' p a 0:=λb h' p a e=>by
  cases b with
  |true=>exact⟨_,e,rfl,rfl⟩
  |false=>exact⟨_,e,rfl,rfl⟩
 exact⟨⟨_,k,rfl⟩,h _ k m l (d _ _ _ _ u) (d _ _ _ _ n) t λc o x=>OU _ (OU _ (OU _ (OU _ (OU _ x))))⟩
end
def SqS(b:Bool)(K:Po)(H:Hp)(a:OZ)(xs:List V):Prop:=if b=OV then SqL K H a xs else SqT K H a xs
noncomputable def Itz(b1 b2:Bool)(K:Po)(a b:OZ):It:=
 ⟨λi H=>∃xs ys x y,SqS b1 K H a xs/\SqS b2 K H b ys/\xs[i]?=on x/\ys[i]?=on y,
  λi H v c=>∃p x y,H p=OR/\v= .ref p/\c=upd H p (.tup [x,y])/\∀xs ys,SqS b1 K H a xs->SqS b2 K H b ys->xs[i]?=on x/\ys[i]?=on y,
  λi H=>∃xs ys,SqS b1 K H a xs/\SqS b2 K H b ys/\(xs.length=i\/(i<xs.length/\ys.length=i))⟩
section
variable{X:Cx}{pins:List (OZ×PP)}{σ:St}{H:Hp}{s:O7}
theorem Inv.src{b:Bool}(I:Inv X pins σ H s)(h:SqS b X.K H a xs):∃its:List OX,ao xs its/\Src b s.heap a its.toArray:=by
 cases b with
 |true=>
  obtain⟨its,r,p,_⟩:=I.list (show SqL X.K H a xs from h);exact⟨its,r,p.isList⟩
 |false=>
  obtain⟨its,r,p,_⟩:=I.tuple (show SqT X.K H a xs from h);exact⟨its,r,p⟩
theorem Inv.src_inj{b:Bool}(I:Inv X pins σ H s)(h:SqS b X.K H a xs)(h':SqS b X.K H a ys):xs=ys:=by
 cases b with
 |true=>exact I.list_inj (show SqL X.K H a xs from h) h'
 |false=>exact I.tuple_inj (show SqT X.K H a xs from h) h'
theorem f7.get{b:Bool}{h:P7}(x:f7 b h it a k):∃o,h.get? it=on o/\o.cls= .type (IR b)/\∃fs,o.data= .fields fs:=by
 cases b with
 |true=>obtain⟨o,e,c,d⟩:=(show h.IsListIter it a k from x);exact⟨o,e,c,_,d⟩
 |false=>obtain⟨o,e,c,d⟩:=(show h.IsTupleIter it a k from x);exact⟨o,e,c,_,d⟩
theorem f7.keep{b:Bool}{h h':P7}(x:f7 b h it a k)(q:∀o,h.get? it=on o->h'.get? it=on o):f7 b h' it a k:=by
 cases b with
 |true=>exact(show h.IsListIter it a k from x).at λo e=>q o e
 |false=>exact(show h.IsTupleIter it a k from x).at λo e=>q o e
end
section
variable{X:Cx}{pins:List (OZ×PP)}{σ:St}{H:Hp}{s:O7}
theorem Inv.turnNew{h':P7}{t':Nat}{ch:List OZ}{p:OZ}{o:HO}(I:Inv X pins σ H s)(a:∀b∈ch,eU X pins H b)(k:∀b u,b∉ch->s.heap.get? b=on u->h'.get? b=on u)(d:s.heap.objs.size<=p)(new:bu X.prog X.w (upd H p o) h' p o):Inv X pins σ (upd H p o) {s with heap:=h',toks:=t'}:=by
 have hn:H p=OR:=I.hok.fresh d;have nt:∀b u,H b=on u->b∉ch:=λb u e z=>by rw[(a b z).1]at e;cases e
 refine I.call' (s':={s with heap:=h',toks:=t'}) (ch:=ch) rfl ⟨λb u e _ _ hc=>k b u hc e,λb u e _ _ hc=>⟨u.slots,k b u hc e⟩,λb u e z hc=>?_,λb u e hc=>⟨u,k b u hc e⟩,λb ys e=>?_,λb u ys e=>?_,λb ys e=>⟨#[],?_⟩⟩ (λb u e=>?_) I.bare λb f=>?_
 ·rw[upd_ne (Qa (PM (Pz e) d))];exact z
 ·rw[upd_ne (ne_of_none e hn)];exact e
 ·rw[upd_ne (ne_of_none e hn)];exact e
 ·rw[upd_ne (ne_of_none e hn),e];simp
 ·by_cases z:b=p
  ·subst z;rw[ah]at e;cases e;exact new
  ·rw[upd_ne z]at e
   refine(I.hok b u e).stay (λc v hc q=>k c v ?_ q) (λc q=>by rw[upd_ne (ne_of_none q hn)];exact q) λc xs q=>by rw[upd_ne (ne_of_none q hn)];exact q
   rcases hc with rfl|hc
   ·exact nt _ _ e
   ·exact nt _ _ hc
 ·obtain⟨j,f1,f2,g,h,i⟩:=a b f
  exact⟨g,f1,h,i⟩
theorem Inv.turnL{h':P7}{ch:List OZ}(I:Inv X pins σ H s)(a:∀b∈ch,eU X pins H b)(k:∀b u,b∉ch->s.heap.get? b=on u->h'.get? b=on u):Inv X pins σ H {s with heap:=h',toks:=t'}:=by
 have nt:∀b u,H b=on u->b∉ch:=λb u e z=>by rw[(a b z).1]at e;cases e
 refine I.call' (s':={s with heap:=h',toks:=t'}) (ch:=ch) rfl ⟨λb u e _ _ hc=>k b u hc e,λb u e _ _ hc=>⟨u.slots,k b u hc e⟩,λb u e z hc=>z,λb u e hc=>⟨u,k b u hc e⟩,λb ys e=>e,λb u ys e=>e,λb ys e=>⟨#[],by rw[e];simp⟩⟩ (λb u e=>?_) I.bare λb d=>?_
 ·refine(I.hok b u e).stay (λc v hc q=>k c v ?_ q) (λc q=>q) λc xs q=>q
  rcases hc with rfl|hc
  ·exact nt _ _ e
  ·exact nt _ _ hc
 ·obtain⟨i,f1,f2,f,g,h⟩:=a b d
  exact⟨f,f1,g,h⟩
theorem Inv.src_ne{b:Bool}(I:Inv X pins σ H s)(h:SqS b X.K H a xs)(f:eU X pins H c):a≠c:=by
 obtain⟨i,f1,f2,f3,j,k⟩:=f;have d:∀o,X.K.lookup a=on o->a≠c:=λo e z=>by
  have g:=I.ok.mod.kin a o e;subst z;rcases f3 with f3|f3
  ·exact I.ok.noex a o g f3
  ·exact PF (PM (Pz (I.ok.bs a o g).1) f3) (Qk _)
 have rd:∀u,Rd H a u->a≠c:=λu r z=>by
  subst z;rcases r with r|⟨_,r⟩<;>rw[i]at r<;>cases r
 cases b with
 |true=>
  rcases(show SqL X.K H a xs from h)with h|⟨o,_,_,e,_⟩
  ·exact rd _ h
  ·exact d o e
 |false=>
  rcases(show SqT X.K H a xs from h)with h|⟨o,_,_,e,_⟩
  ·exact rd _ h
  ·exact d o e
end
theorem CA{K:Po}{x1}(b1 b2:Bool)(B C z TI TO f g:OZ)(nd:[z,TI,TO,f,g].Nodup):
  Turn P w K (.Tuple elts x1 pos) (Itz b1 b2 K B C) [z,TI,TO,f,g] z (λi h=>U2 h z TI TO .none/\Se h TI (.ref f) (.ref g)/\(∃a b,Se h TO a b)/\f7 b1 h f B i/\f7 b2 h g C i) where
 mem:=by simp
 obj:=λi h st b j=>by
  obtain⟨p,r,⟨a,b',F⟩,J,L⟩:=st;simp only[Pq,QI,Tv]at j;rcases j with rfl|rfl|rfl|rfl|rfl
  ·exact⟨_,p,λv q=>by cases q⟩
  ·exact⟨_,r,λv q=>by cases q⟩
  ·exact⟨_,F,λv q=>by cases q⟩
  ·obtain⟨o,e,_,fs,d⟩:=J.get
   exact⟨o,e,λv q=>by rw[d]at q;cases q⟩
  ·obtain⟨o,e,_,fs,d⟩:=L.get
   exact⟨o,e,λv q=>by rw[d]at q;cases q⟩
 keep:=λi h h' st k=>by
  obtain⟨p,r,⟨a,b',F⟩,J,L⟩:=st;exact⟨k z (by simp) _ p,k TI (by simp) _ r,⟨a,b',k TO (by simp) _ F⟩,J.keep λo e=>k f (by simp) o e,L.keep λo e=>k g (by simp) o e⟩
 item:=by
  intro X hP hw hK n i N s σ H E I O st hg;subst hP hw hK;obtain⟨xs,ys,x,y,q1,q2,hx,hy⟩:=hg;obtain⟨p,r,⟨a,b',F⟩,J,L⟩:=st;obtain⟨l,r1,p1⟩:=Inv.src I q1;obtain⟨m,r2,p2⟩:=Inv.src I q2;have hd:=I.ok.hd n;simp only[Qj,Pq,QI,Tv,not_or]at nd;obtain⟨⟨Y,z2,U,W⟩,⟨t1,t2,t3⟩,⟨Z,o2⟩,R,_⟩:=nd;have t:∀c∈[z,TI,TO,f,g],B≠c:=λc n=>Inv.src_ne I q1 (O c n);have A:∀c∈[z,TI,TO,f,g],C≠c:=λc n=>Inv.src_ne I q2 (O c n);have ap:Ap z TI TO f g [f,B] [g,C]:=⟨Ne.symm Y,Ne.symm z2,Ne.symm U,Ne.symm W,t1,t2,t3,Z,o2,R,by simp[U,(t z (by simp)).symm],by simp[Z,(t TO (by simp)).symm],by simp[Ne.symm R,(t g (by simp)).symm],by simp[W,(A z (by simp)).symm],by simp[o2,(A TO (by simp)).symm],by simp[R,(A f (by simp)).symm],by simp,by simp⟩;have k1:i<l.toArray.size:=by
   rw[Ps,←r1.length];exact(Pc.mp hx).1
  have k2:i<m.toArray.size:=by
   rw[Ps,←r2.length];exact(Pc.mp hy).1
  refine yw (λA' h'=>sZ b1 (h'.trans hd) f B (t f (by simp)) l.toArray) (λA' h'=>sZ b2 (h'.trans hd) g C (A g (by simp)) m.toArray) ap p r F ⟨J,p1⟩ ⟨L,p2⟩ k1 k2 λh' tk u v pu pv fz fO f1 f2 fT sz kp=>?_;refine⟨_,rfl,wpAny_letOwnedTupleGo_zip (s:={s with heap:=h',toks:=tk}) fz λT ez'' Q=>?_⟩
  replace Q:PX z h' T:=Q
  have zT:s.heap.objs.size≠z:=RK (Pz p);obtain⟨u',hu,ru⟩:=r1.get hx;obtain⟨v',hv,rv⟩:=r2.get hy;have eu:u=u':=by
   have:l[i]?=on u:=by simpa using pu
   rw[this]at hu;exact PR hu
  have ev:v=v':=by
   have:m[i]?=on v:=by simpa using pv
   rw[this]at hv;exact PR hv
  subst eu ev;have kk:∀b o,b∉[z,TI,TO,f,g]->s.heap.get? b=on o->T.get? b=on o:=λb o j e=>by
   simp only[Pq,QI,Tv,not_or]at j;exact Q.extBut b o j.1 (kp b o j.1 j.2.2.1 j.2.2.2.1 j.2.2.2.2 e)
  have I2:Inv X N σ (upd H s.heap.objs.size (.tup [x,y])) {s with heap:=T,toks:=tk}:=by
   refine Inv.turnNew I O kk (O9 _) ⟨by show 2<=Pe;decide,[u,v],.cons ru (.cons rv .nil),_,Q.extBut _ _ zT fT,rfl,_,rfl⟩
  refine⟨.ref s.heap.objs.size,_,I2,rfl,⟨s.heap.objs.size,x,y,I.hok.fresh (O9 _),rfl,rfl,λas bs h1 h2=>⟨by rw[Inv.src_inj I h1 q1];exact hx,by rw[Inv.src_inj I h2 q2];exact hy⟩⟩,⟨ez'',?_,⟨u,v,?_⟩,?_,?_⟩,λb j=>?_⟩
  ·exact Q.extBut _ _ (Ne.symm Y) (kp TI _ (Ne.symm Y) t1 t2 t3 r)
  ·exact Q.extBut _ _ (Ne.symm z2) fO
  ·exact f1.1.keep λo e=>Q.extBut _ _ (Ne.symm U) e
  ·exact f2.1.keep λo e=>Q.extBut _ _ (Ne.symm W) e
  ·rw[upd_ne]
   ·exact(O b j).1
   ·intro q
    have ol:∃o,s.heap.get? b=on o:=by
     simp only[Pq,QI,Tv]at j;rcases j with rfl|rfl|rfl|rfl|rfl
     ·exact⟨_,p⟩
     ·exact⟨_,r⟩
     ·exact⟨_,F⟩
     ·obtain⟨o,e,_⟩:=J.get;exact⟨o,e⟩
     ·obtain⟨o,e,_⟩:=L.get;exact⟨o,e⟩
    obtain⟨o,e⟩:=ol;exact PF (Pz e) (by rw[q];exact Qk _)
 done:=by
  intro X hP hw hK n i N s σ H E I O st hg;subst hP hw hK;obtain⟨xs,ys,q1,q2,hl⟩:=hg;obtain⟨p,r,⟨a,b',F⟩,J,L⟩:=st;obtain⟨l,r1,p1⟩:=Inv.src I q1;obtain⟨m,r2,p2⟩:=Inv.src I q2;have hd:=I.ok.hd n;simp only[Qj,Pq,QI,Tv,not_or]at nd;obtain⟨⟨Y,z2,U,W⟩,⟨t1,t2,t3⟩,⟨Z,o2⟩,R,_⟩:=nd;have t:∀c∈[z,TI,TO,f,g],B≠c:=λc n=>Inv.src_ne I q1 (O c n);have A:∀c∈[z,TI,TO,f,g],C≠c:=λc n=>Inv.src_ne I q2 (O c n);have ap:Ap z TI TO f g [f,B] [g,C]:=⟨Ne.symm Y,Ne.symm z2,Ne.symm U,Ne.symm W,t1,t2,t3,Z,o2,R,by simp[U,(t z (by simp)).symm],by simp[Z,(t TO (by simp)).symm],by simp[Ne.symm R,(t g (by simp)).symm],by simp[W,(A z (by simp)).symm],by simp[o2,(A TO (by simp)).symm],by simp[R,(A f (by simp)).symm],by simp,by simp⟩;have g1:l.toArray.size=xs.length:=by rw[Ps,←r1.length]
  have g2:m.toArray.size=ys.length:=by rw[Ps,←r2.length]
  refine BU (λA' h'=>sZ b1 (h'.trans hd) f B (t f (by simp)) l.toArray) (λA' h'=>sZ b2 (h'.trans hd) g C (A g (by simp)) m.toArray) ap p r F ⟨J,p1⟩ ⟨L,p2⟩ ?_ λh' tk kp=>⟨rfl,Inv.turnL I O λb o j e=>?_⟩
  ·rw[g1,g2]
   rcases hl with hl|⟨h1,h2⟩
   ·exact .inl hl.symm
   ·exact .inr ⟨h1,h2.symm⟩
  ·simp only[Pq,QI,Tv,not_or]at j
   exact kp b o j.1 j.2.2.1 j.2.2.2.1 j.2.2.2.2 e
 self:=λ_ _ _ _ _ st h=>wpAny_pyIter_zip st.1 h
section
variable{X:Cx}{E:St->XK}{K:Po}
def iZp(K:Po)(d:TA):TI:=λe H R=>d e H λvs a=>∃b1 b2 b c xs ys,vs=[.ref b,.ref c]/\SqS b1 K a b xs/\SqS b2 K a c ys/\R (Itz b1 b2 K b c) a
theorem LQ{x1}(y:Gl X "zip")(hm:X.mg "zip"=OR)(ha:PA X [a,b] ta)(hs:Pb [a,b] X.env=[(OW,Qo a X.env),(OW,Qo b X.env)]:=by rfl)(g:Pb [b] X.env=[(OW,Qo b X.env)]:=by rfl):
  PI X (.Tuple elts x1 tpos) (.Call (.Name "zip" p) [a,b] [] pos) (iZp X.K ta):=by
 intro f s n H R I h;refine Call_ (eW I y hm PyProof.Rows.Boot.«zip» (QR (thn (ha pos f s n H _ I h) λus d ⟨vs,o,i,r1,q1⟩=>?_) (by rw[hs,g]) (by rw[g];rfl)));obtain⟨b1,b2,t,u,xs,ys,e,q1,q2,q⟩:=q1;subst e;cases r1 with
 |cons r k=>
  cases k with
  |cons A k=>
   cases k;cases r;cases A;obtain⟨B,P,C⟩:=Inv.src i q1;obtain⟨F,Q,J⟩:=Inv.src i q2;refine BD C J λh' v L N l m sz kp=>?_;refine wpAny_pyIter_zip (s:={d with heap:=h'}) v ?_;have O:Inv X f n o {d with heap:=h'}:=i.kept (t':=d.toks) kp;refine⟨_,[d.heap.objs.size+4,d.heap.objs.size+2,d.heap.objs.size+3,d.heap.objs.size,d.heap.objs.size+1],_,Itz b1 b2 X.K t u,o,rfl,O,CA b1 b2 t u (d.heap.objs.size+4) (d.heap.objs.size+2) (d.heap.objs.size+3) d.heap.objs.size (d.heap.objs.size+1) (by simp),⟨v,L,⟨_,_,N⟩,l,m⟩,λc w=>?_,q⟩;have j:d.heap.objs.size<=c:=by
    simp only[Pq,QI,Tv]at w;rcases w with rfl|rfl|rfl|rfl|rfl
    ·exact SQ _ _
    ·exact SQ _ _
    ·exact SQ _ _
    ·exact O9 _
    ·exact SQ _ _
   exact i.fpOk j (i.hok.fresh j)
noncomputable def dA:List D->List D->List D
 |x::xs,y::ys=> .tup [x,y]::dA xs ys
 |_,_=>[]
theorem tu:∀(xs ys:List D),(dA xs ys).length=Sz xs.length ys.length
 |[],ys=>by simp[dA]
 |x::xs,[]=>by simp[dA]
 |x::xs,y::ys=>by
  show(dA xs ys).length+1=_;rw[tu xs ys,Pg,Pg];omega
theorem tw:∀{xs ys:List D} {i:Nat} {d:D},(dA xs ys)[i]?=on d->∃x y,xs[i]?=on x/\ys[i]?=on y/\d= .tup [x,y]
 |[],ys,i,d,h=>by simp[dA]at h
 |x::xs,[],i,d,h=>by simp[dA]at h
 |x::xs,y::ys,0,d,h=>by
  simp[dA]at h;exact⟨x,y,rfl,rfl,h.symm⟩
 |x::xs,y::ys,i+1,d,h=>by
  have h':(dA xs ys)[i]?=on d:=by simpa[dA]using h
  obtain⟨a,b,c,e,f⟩:=tw h';exact⟨a,b,by simpa using c,by simpa using e,f⟩
def tz:List D->Option (List D)
 |[a,b]=>(dT a).bind λxs=>(dT b).map λys=>dA xs ys
 |_=>OR
theorem Den.sqS(h:Den K F H d v)(e:dT d=on ds):∃b a,v= .ref a/\∀f c,Tr F H f c->∃xs,SqS b K c a xs/\DenL K f c ds xs:=by
 cases d<;>first
  |(cases e;obtain⟨a,xs,rfl,_⟩:=Den.sqL h;refine⟨OV,a,rfl,λf c t=>?_⟩;obtain⟨j,ys,g,sq,i⟩:=Den.sqL (Den.tr t _ _ h);cases g;exact⟨ys,sq,i⟩)
  |(cases e;obtain⟨a,xs,rfl,_⟩:=Den.sqT h;refine⟨OW,a,rfl,λf c t=>?_⟩;obtain⟨j,ys,g,sq,i⟩:=Den.sqT (Den.tr t _ _ h);cases g;exact⟨ys,sq,i⟩)
  |cases e
theorem KE{b1 b2:Bool}(n:∀b a,Tr F H b a->∃xs,SqS b1 K a l1 xs/\DenL K b a ds xs)(o:∀b a,Tr F H b a->∃xs,SqS b2 K a l2 xs/\DenL K b a es xs):ItD K (Itz b1 b2 K l1 l2) F H (dA ds es):=λb a β2 t fr i=>by
 obtain⟨xs,c,d1⟩:=n b a t;obtain⟨ys,e,d2⟩:=o b a t;refine⟨λd hd=>?_,λq=>?_⟩
 ·obtain⟨x,y,f,g,rfl⟩:=tw hd
  obtain⟨u,h,du⟩:=d1.get f;obtain⟨v,j,r⟩:=d2.get g;refine⟨⟨xs,ys,u,v,c,e,h,j⟩,λz B w=>?_⟩;obtain⟨p,C,I,k,rfl,rfl,A⟩:=w;obtain⟨l,m⟩:=A xs ys c e;rw[h]at l;rw[j]at m;cases l;cases m;exact⟨bE.upd k,Den.newT fr k (DenL.cons du (DenL.cons r DenL.nil))⟩
 ·rw[tu]at q
  have f:=d1.length;have g:=d2.length;refine⟨xs,ys,c,e,?_⟩;rw[←f,←g];omega
def iO(g:FL):FL:=bj tz g
theorem pL{x1}(o:Gl X "zip")(hm:X.mg "zip"=OR)(ha:PA X [a,b] (tVA X.K g E))(hs:Pb [a,b] X.env=[(OW,Qo a X.env),(OW,Qo b X.env)]:=by rfl)(i:Pb [b] X.env=[(OW,Qo b X.env)]:=by rfl):
  PI X (.Tuple elts x1 tpos) (.Call (.Name "zip" p) [a,b] [] pos) (iV X.K (iO g) E):=
 (LQ o hm ha hs i).imp λI H R j=>ex6 j λF δ β fr q h=>⟨F,δ,β,fr,q,(run.bind (R:=DenL X.K F) h).mono λvs f j=>by
  obtain⟨ds,β1,t,hd,r1⟩:=j;obtain⟨l,e,k⟩:=run.ofO r1;unfold tz at e;split at e
  ·rename_i c d
   obtain⟨v,J,rfl,r,u⟩:=DenL.two hd;cases q1:dT c with
   |none=>rw[q1]at e;cases e
   |some xs=>
    cases q2:dT d with
    |none=>rw[q1,q2]at e;cases e
    |some ys=>
     rw[q1,q2]at e;cases e;obtain⟨b1,w,rfl,m⟩:=Den.sqS r q1;obtain⟨b2,y,rfl,n⟩:=Den.sqS u q2;obtain⟨us,A,_⟩:=m F f (Tr.refl F f);obtain⟨B,C,_⟩:=n F f (Tr.refl F f);exact⟨b1,b2,w,y,us,B,rfl,A,C,k _ f (To.refl t.fr) (KE m n)⟩
  ·cases e⟩
end
def jV(K:Po)(f:Dn->M Unit)(c:Nat)(E:St->XK):TJ:=λa H n Q=>n+c<=Pe/\∃F δ β,Fr F H β/\VOk K F H δ a/\run (λ_ (_:Unit) (m:Nat)=>m<=n+c) F E a (f δ) H Q β
theorem _root_.L2.PJ.imp(h:PJ X es t)(f:∀a H n Q,t' a H n Q->t a H n Q):PJ X es t':=λb s a H acc Q I c d=>h b s a H acc Q I c (f a H _ _ d)
def kq:Dn->M Unit:=λ_=>M.ret ()
def ik(f:FD)(g:Dn->M Unit):Dn->M Unit:=λδ=>M.bind (f δ) λd=>match d with
 | .int i=>if i.natAbs.log2<1920 then g δ else M.fail
 |_=>M.fail
section
variable{X:Cx}{E:St->XK}{es:List Expr}{K:Po}
theorem kr:PJ X [] (jV X.K kq 0 E):=LN.imp λb H n Q a=>by obtain⟨_,F,δ,β,fr,c,r⟩:=a;exact run.ret fr r (O9 _)
theorem dL{x:PY}(h:PJ X es (jV X.K g c E))(b:UN (.Constant (.str x) j p::es) X.env=Qo (.Constant (.str x) j p) X.env::UN es X.env:=by rfl):PJ X (.Constant (.str x) j p::es) (jV X.K g (x.length+c) E):=
 (LM h b).imp λl H n Q d=>by
  obtain⟨o,F,δ,β,fr,f,r,a,e,k⟩:=d;exact⟨by omega,by omega,F,δ,β,fr,f,r,a,e,by
   cases r with
   |ok u=>exact λm i t hm=>k m i t (by omega)
   |error C=>exact k⟩
theorem ff(l:PE X v (tV X.K f E))(h:PJ X es (jV X.K g c E))(o:UN (.FormattedValue v (-1) OR p::es) X.env=Qo (.FormattedValue v (-1) OR p) X.env::UN es X.env:=by rfl):PJ X (.FormattedValue v (-1) OR p::es) (jV X.K (ik f g) (1921+c) E):=
 (LO l h o).imp λI H n Q ⟨J,F,δ,β,fr,j,r⟩=>⟨F,δ,β,fr,j,(run.bind (R:=Den X.K F) r).mono λv L w=>by
  obtain⟨d,β1,t,hd,r1⟩:=w;cases d with
  |int i=>
   by_cases q:i.natAbs.log2<1920
   ·simp only[O8 q]at r1
    refine⟨i,hd,q,by omega,λm hm=>⟨by omega,F,δ,β1,t.fr,j.tr (t.tr fr),?_⟩⟩;obtain⟨b,a,e,k⟩:=r1;refine⟨b,a,e,?_⟩;cases b with
    |ok u=>exact λy A t' B=>k y A t' (by omega)
    |error C=>exact k
   ·simp only[O3 q]at r1
    obtain⟨b,a,e,k⟩:=r1;cases e
  |_=>obtain⟨b,a,e,k⟩:=r1;cases e⟩
def im(f:Dn->M Unit):FD:=λδ=>M.bind (f δ) λ_=>M.ret .txt
theorem iD(h:PJ X (v1::v2::rest) (jV X.K f c E))(e:c<=Pe):PE X (.JoinedStr (v1::v2::rest) pos) (tV X.K (im f) E):=
 (Kd h).imp λg H Q a=>ex6 a λF δ β fr b r=>⟨by omega,F,δ,β,fr,b,(run.bind (R:=λ_ (_:Unit) (m:Nat)=>m<=0+c) r).mono λm i a=>ex5 a λd β1 t hd r1=>⟨by omega,λz j=>run.ret t.fr r1 ⟨z,rfl⟩⟩⟩
def sH(C:OZ)(n:Nat):Sp:=λvs H Q _=>∃(x:OZ) (rest:List V),vs= .ref x::rest/\rest.length=n/\H x=on (dN C x OR)/\
 ∀(dx:Option OZ) (a:Hp),a x=on (dN C x dx)->(∀b o,H b=on o->b≠x->a b=on o)->Q .non a
noncomputable def eY(C:OZ)(f:FL):G:=λδ β=>match f (vwA δ) β with
 |some (.ok _,β1)=>on (.ex C δ,β1)
 |some (.error C',β1)=>on (.ex C' δ,β1)
 |none=>OR
end
section
variable{P:Pt}{w:PV}{K:Po}{mg:PY->Option OX}{base:P7}{N:List PY}{qual:PY}{scope:Scope}{f:OZ}{cd:OX}{A:Qn}{outer:List Wc}{s:O7}{H:Hp}{E:XK}
theorem fJ(xc:XC K C)(hn:∀δ β r c,g δ β=on (.ok r,c)->r.length=n)(v:n<=Pe)
  (h:PS (dy (CXE P w) P w K mg base N qual scope f cd A outer s H E) (.Raise (on e) OR pos) (yO H K E (Lh C (sH C n) [] E' (tVA K g (λ_=>E))))):
  PS (dy (CXE P w) P w K mg base N qual scope f cd A outer s H E) (.Raise (on e) OR pos) (tG K H (eY C g) (λ_=>E)):=h.imp λD y T F=>by
 obtain⟨B,bg,δ,β,o,c,ok,e,q⟩:=F;refine⟨FxA B bg,vwA δ,β,ok.frA,ok.viewA,?_⟩;unfold eY at e;split at e
 ·rename_i ds β1 d
  cases e;refine⟨.ok ds,_,d,λvs I t hd=>?_⟩;obtain⟨a,i⟩:=ok.to rfl t;have m:vs.length=n:=by rw[←hd.length];exact hn _ _ _ _ d
  refine⟨by rw[m];exact v,λx p=>⟨x,vs++[],rfl,by rw[PN];exact m,ah,λdx j J L=>⟨rfl,x,C,dx,rfl,J,?_,xc,?_⟩⟩⟩
  ·cases O:H x with
   |none=>rfl
   |some o=>exact PF p (a.cov x (by rw[O];simp))
  ·have sm:∀b o,I b=on o->fE j x b=on o:=λb o u=>by
    have k:b≠x:=ne_of_none u p;rw[ix k];exact L b o (by rw[upd_ne k];exact u) k
   obtain⟨l,Q⟩:=a.to rfl (a.fr.same sm);exact q y B _ (i.trans Q) l
 ·rename_i R β1 d
  cases e;refine⟨.error R,_,d,λj t=>?_⟩;obtain⟨a,i⟩:=ok.to rfl t;exact q _ B j i a
 ·cases e
end
section
variable{X:Cx}{E:St->XK}{K:Po}
abbrev Gh:=OZ->G
noncomputable def hNo:Gh:=λ_ _ _=>OR
noncomputable def qC(K:Po)(a:OZ)(g:G)(r:Gh):Gh:=λC δ β=>match PySem.W.exmOne K (.ref C) (.ref a)with
 |some OV=>g δ β
 |some OW=>r C δ β
 |none=>OR
noncomputable def qD(g:G)(h:Gh):G:=λδ β=>match g δ β with
 |some (.ex C δ1,β1)=>h C δ1 β1
 |r=>r
end
section
variable{X:Cx}{E:St->XK}{K:Po}{elt target iter:Expr}{ifs:List Expr}{rest:List Q1}{scope:Scope}{pos:Tz}{Nc vars:List PY}{caps:List Nat}{g:TG}{tb:OZ->TB}
theorem aQ:dG X [] (tVT X.K (λ_=>M.ret OV) E0):=λa s b H Q I c=>by obtain⟨F,δ,β,fr,d,r⟩:=c;exact um a s b H Q I (run.ret fr r rfl)
theorem sW(a:PT X c (tVT X.K t E0)):dG X [c] (tVT X.K t E0):=CV a
theorem aW(c:X.calm=OV)(S:CmpScope X scope Nc vars caps)(d:PI X target iter (iV X.K it E))
  (e:∀(cl:List (PY×OZ)) (C:OZ) (a:List OZ) (s:O7) (H:Hp),PG (aC X Nc scope cl C a s H) target g/\dG (aC X Nc scope cl C a s H) ifs (tVT X.K tt E0)/\∀D,PB (aC X Nc scope cl C a s H) elt (⟨target,iter,ifs,0⟩::rest) scope pos 0 D (tb D))
  (f:cz X.K g tg) (i:dE tg) (j:∀D,jo X.K D (tb D) b) (hs:∀x,Qf iter X.env x=Ro x:=by intro _;rfl):PE X (.ListComp elt (⟨target,iter,ifs,0⟩::rest) scope pos) (tV X.K (bM vars.length caps it tg tt b) E):=
 (mw c S d e hs).imp λk H Q h=>tL f i j h
theorem zc{a c:Tz}(j:X.N.Nodup)(d:X.N[i]?=on x)(k:Loc X.env.scope x)(l:X.calm=OV)(S:CmpScope X scope Nc vars caps)(m:PI X target iter (iV X.K it E))
  (n:∀(cl:List (PY×OZ)) (C:OZ) (f:List OZ) (s:O7) (H:Hp),PG (aC X Nc scope cl C f s H) target g/\dG (aC X Nc scope cl C f s H) ifs (tVT X.K tt E0)/\∀D,PB (aC X Nc scope cl C f s H) elt (⟨target,iter,ifs,0⟩::rest) scope pos 0 D (tb D))
  (o:cz X.K g tg) (p:dE tg) (q:∀D,jo X.K D (tb D) b)
  (e:Tw (.ListComp elt (⟨target,iter,ifs,0⟩::rest) scope pos) (on (.Name x a)) c.line X.env=Ro OV:=by rfl)
  (hs:∀x,Qf iter X.env x=Ro x:=by intro _;rfl) (r:X.fn x=OV\/X.env.scope.names.lookup x=on .local:=by first|exact .inl rfl|exact .inr rfl|assumption):
  PS X (.Assign [.Name x a] (.ListComp elt (⟨target,iter,ifs,0⟩::rest) scope pos) c) (tG X.K X.H₀ (fY i (bM vars.length caps it tg tt b)) E):=
 aN ((v7 j d k l S m n e hs r).imp λD t H h=>tL o p q h)
noncomputable def nS:D->Option D
 | .int i=>on (.int (-i))
 |_=>OR
theorem Os:Js K (rU λi=> .int (-i)) nS:=λF H β Q d1 d b fr a e k=>by
 cases d1<;>first|(cases e;exact⟨_,a,k _ H (To.refl fr) rfl⟩)|cases e
noncomputable def BO:D->Option Int
 | .int i=>on i
 |_=>OR
noncomputable def n9(xs:List D)(lo a:Option Int):List D:=(xs.drop (HT.sIx xs.length 0 lo)).take (HT.sIx xs.length xs.length a-HT.sIx xs.length 0 lo)
def slD:D->Option Int->Option Int->Option D
 | .lst xs,lo,hi=>on (.lst (n9 xs lo hi))
 | .scr ns,lo,hi=>on (.lst (n9 (ns.map D.int) lo hi))
 |_,_,_=>OR
def sX(f:Option (FD)):Dn->M (Option Int):=λδ=>match f with
 |none=>M.ret OR
 |some g=>M.bind (g δ) λd=>M.bind (M.ofO (BO d)) λi=>M.ret (on i)
def fSl(f:FD)(lo a:Option (FD)):FD:=λδ=>M.bind (f δ) λd=>M.bind (sX lo δ) λl=>M.bind (sX a δ) λh=>M.ofO (slD d l h)
def yu(X:Cx)(e:Option Expr)(f:Option (FD))(E:St->XK):Prop:=PO X e (λc H Q=>∃F δ β,Fr F H β/\VOk X.K F H δ c/\run (λ_ (a b:Option Int)=>b=a) F E c (sX f δ) H Q β)
theorem zF:yu X OR OR E:=λa s b H Q I c=>by obtain⟨F,δ,β,fr,d,r⟩:=c;exact v9 a s b H Q I (run.ret fr r rfl)
theorem zE(h:PE X e (tV X.K f E)):yu X (on e) (on f) E:=λa s c H Q I b=>ex6 b λF δ β fr j r=>v8 h a s c H Q I ⟨F,δ,β,fr,j,(run.bind (R:=Den X.K F) r).mono λv l b=>by
  obtain⟨d,β1,t,hd,r1⟩:=b;obtain⟨i,e,k⟩:=run.ofO_bind r1;cases d<;>first|(cases e;exact⟨_,hd,run.ret t.fr k rfl⟩)|cases e⟩
theorem DenL.cut(h:DenL K F H ds vs)(lo a:Option Int):DenL K F H (n9 ds lo a) (lV vs lo a):=by
 unfold n9 lV;rw[h.length];exact(h.drop _).take _
theorem vH{lo y:Option Expr}{fl A:Option (FD)}(B:PE X e (tV X.K f E))(C:yu X lo fl E)(I:yu X y A E):PE X (.Subscript e (.Slice lo y OR p2) pos) (tV X.K (fSl f fl A) E):=
 (uo vQ B C I).imp λN H Q o=>ex6 o λF δ β fr q r=>⟨F,δ,β,fr,q,(run.bind (R:=Den X.K F) r).mono λv O ⟨d,β1,t,hd,r1⟩=>
  ⟨F,δ,β1,t.fr,q.tr (t.tr fr),(run.bind (R:=λ_ (a b:Option Int)=>b=a) r1).mono λl P ⟨T,β2,n,u,J⟩=>
   ⟨F,δ,β2,n.fr,q.tr ((t.tr fr).trans (n.tr t.fr)),(run.bind (R:=λ_ (a b:Option Int)=>b=a) J).mono λh U o=>by
    obtain⟨h',β3,i,w,r3⟩:=o;subst u w;obtain⟨c,e,k⟩:=run.ofO r3;have j:=Den.tr ((n.tr t.fr).trans (i.tr n.fr)) _ _ hd;cases d<;>first
     |(cases e;obtain⟨a,xs,rfl,sq,L⟩:=Den.sqL j;exact⟨a,xs,rfl,sq,λp m=>k _ _ (i.fr.upd _ m) (Den.newL i.fr m (L.cut l h))⟩)
     |(cases e;obtain⟨a,rfl,sq⟩:=Den.scr j;exact⟨a,_,rfl,sq,λp m=>k _ _ (i.fr.upd _ m) (Den.newL i.fr m ((DenL.ofInts _).cut l h))⟩)
     |cases e⟩⟩⟩
end
def Bg.ok(β:Bg):Prop:=β.cells≠[]/\β.cells.length<=64/\(∀c∈β.cells,0<=c)/\0<=β.j
noncomputable def Bg.pos(β:Bg):Nat:=(β.i % (β.cells.length:Int)).toNat
def Bg.cell(β:Bg):Int:=β.cells.getD β.pos 0
noncomputable def Bg.nxt(β:Bg):Int:=(β.j+β.cell % 2147483629+77)*48271 % 2147483629
noncomputable def i8(β:Bg)(lot:Int):Int:=if 10^18<=β.cell then β.cell % lot else β.nxt/64 % lot
noncomputable def j4(β:Bg)(lot:Int):Bg:=if 10^18<=β.cell then⟨β.cells.set β.pos (β.cell/lot),β.i,β.j⟩else⟨β.cells,β.i+1,β.nxt⟩
open Classical in
def kg:List D->M D:=λds β=>match ds with
 |[.bag,.int lot]=>if β.ok/\0<lot/\lot<1073741824 then on (Rc (D.int (i8 β lot)),j4 β lot)else OR
 |_=>OR
theorem DP{β:Bg}(h:β.ok)(a:0<lot)(b:lot<1073741824):kg [.bag,.int lot] β=on (.ok (.int (i8 β lot)),j4 β lot):=by
 unfold kg;exact O8 ⟨h,a,b⟩
theorem zQ{β:Bg}(h:kg ds β=on (r,β')):∃lot,ds=[.bag,.int lot]/\β.ok/\0<lot/\lot<1073741824/\r= .ok (.int (i8 β lot))/\β'=j4 β lot:=by
 unfold kg at h;split at h
 ·split at h
  ·rename_i lot q
   cases h;exact⟨lot,rfl,q.1,q.2.1,q.2.2,rfl,rfl⟩
  ·cases h
 ·cases h
theorem Bg.ok.at{β:Bg}(h:β.ok):β.pos<β.cells.length/\β.cells[β.pos]?=on β.cell/\0<=β.cell/\β.i % (β.cells.length:Int)=(β.pos:Int):=by
 obtain⟨c1,c2,c3,b⟩:=id h;have c:0<β.cells.length:=List.length_pos_iff.mpr c1;have a1:0<=β.i % (β.cells.length:Int):=T1 _ (by omega);have a2:β.i % (β.cells.length:Int)<β.cells.length:=Um _ (by omega);have a:β.pos<β.cells.length:=by unfold Bg.pos;omega
 have e:β.cell=β.cells[β.pos]:=by
  unfold Bg.cell;rw[O1,O0 a];rfl
 refine⟨a,by rw[e];exact O0 a,by rw[e];exact c3 _ (Qh a),?_⟩;unfold Bg.pos;omega
theorem v5{β:Bg}(h:β.ok)(b:0<lot):0<=i8 β lot/\i8 β lot<lot/\(j4 β lot).ok:=by
 obtain⟨f,_,d,_⟩:=h.at;obtain⟨c1,c2,c3,e⟩:=id h;unfold i8 j4;split
 ·refine⟨T1 _ (by omega),Um _ b,?_,by rw[Qi];exact c2,λc a=>?_,e⟩
  ·intro z
   have:=Qr Vq z;rw[Qi]at this;exact c1 (UT.mp this)
  ·rcases Ri a with a|rfl
   ·exact c3 c a
   ·exact Int.ediv_nonneg d (by omega)
 ·exact⟨T1 _ (by omega),Um _ b,c1,c2,c3,T1 _ (by decide)⟩
end L2.Pu
namespace L2
open PySem PySem.Spec PyProof.Rows
end L2
namespace L2.Pu
open PySem PySem.Spec PyProof.Rows
section
variable{X:Cx}{E:St->XK}{K:Po}
def m6(K:Po)(mg:PY->Option OX)(x:PY)(d:D):Prop:=∃u v,mg x=on u/\aG v u/\∀F H,Den K F H d v
theorem gx(c:m6 X.K X.mg x d)(a:Gl X x:=by rfl)(hd:(x==("__debug__":PY))=OW:=by decide):PE X (.Name x pos) (tV X.K (fC d) E):=by
 obtain⟨u,v,b,e,f⟩:=c;exact v_c (wc a b e hd) f
mutual
noncomputable def toP:D->Option Xo
 | .non=>on .none
 | .bl b=>on (.bool b)
 | .int i=>on (.int i)
 | .str x=>on (.str x)
 | .lst xs=>(toPs xs).map PyData.list
 | .tup xs=>(toPs xs).map PyData.tuple
 |_=>OR
noncomputable def toPs:List D->Option (List Xo)
 |[]=>on []
 |x::xs=>match toP x,toPs xs with
  |some p,on ps=>on (p::ps)
  |_,_=>OR
end
mutual
theorem jF{s:O7}(I:Inv X pins σ H s):∀(d:D) (v:V) (u:OX) (p:Xo),Den X.K F H d v->toP d=on p->aG v u->∃as,Reads s.heap u p as
 | .non,v,u,p,h,e,r=>by cases e;cases h.non;cases r;exact⟨_,.none⟩
 | .bl b,v,u,p,h,e,r=>by cases e;cases h.bl;cases r;exact⟨_,.bool b⟩
 | .int i,v,u,p,h,e,r=>by cases e;cases h.int;obtain⟨t,rfl⟩:=r;exact⟨_,.int i t⟩
 | .str x,v,u,p,h,e,r=>by cases e;cases h.str;obtain⟨t,rfl⟩:=r;exact⟨_,.str x t⟩
 | .lst xs,v,u,p,h,e,r=>by
  unfold toP at e;cases q:toPs xs with
  |none=>rw[q]at e;cases e
  |some ps=>
   rw[q]at e;cases e;obtain⟨a,ys,rfl,sq,c⟩:=Den.sqL h;cases r;obtain⟨its,f,pl,_⟩:=I.list sq;obtain⟨as,g⟩:=reads_L I xs ys its ps c q f;obtain⟨o,j,k,n,hd⟩:=pl.isList;exact⟨_,.list j k hd (by simpa using g)⟩
 | .tup xs,v,u,p,h,e,r=>by
  unfold toP at e;cases q:toPs xs with
  |none=>rw[q]at e;cases e
  |some ps=>
   rw[q]at e;cases e;obtain⟨a,ys,rfl,sq,c⟩:=Den.sqT h;cases r;obtain⟨its,f,pl,_⟩:=I.tuple sq;obtain⟨as,g⟩:=reads_L I xs ys its ps c q f;obtain⟨o,j,k,n,hd⟩:=pl;exact⟨_,.tuple j k hd (by simpa using g)⟩
 | .ty _,_,_,_,_,e,_=>by cases e
 | .txt,_,_,_,_,e,_=>by cases e
 | .scr _,_,_,_,_,e,_=>by cases e
 | .obj _ _ _,_,_,_,_,e,_=>by cases e
 | .bag,_,_,_,_,e,_=>by cases e
 | .adr _,_,_,_,_,e,_=>by cases e
 | .dct _ _ _,_,_,_,_,e,_=>by cases e
theorem reads_L{s:O7}(I:Inv X pins σ H s):∀(ds:List D) (vs:List V) (us:List OX) (ps:List Xo),DenL X.K F H ds vs->toPs ds=on ps->ao vs us->∃as,ReadsAll s.heap us ps as
 |[],vs,us,ps,h,e,r=>by
  have q:vs=[]:=h;subst q;cases e;cases r;exact⟨_,.nil⟩
 |d::ds,vs,us,ps,h,e,r=>by
  obtain⟨x,a,rfl,b,c⟩:=h;unfold toPs at e;split at e
  ·rename_i p pr f g
   cases e;cases r with
   |cons r1 i=>
    obtain⟨as,j⟩:=jF I d x _ p b f r1;obtain⟨bs,k⟩:=reads_L I ds a _ pr c g i;exact⟨_,.cons j k⟩
  ·cases e
end
def lW(a b:D):Option Bool:=match toP a,toP b with
 |some p,on q=>if(T6 p&&T6 q)=OV then on (R7 p q)else OR
 |_,_=>OR
def f6(a b:D):Option D:=match eqS a b with
 |some c=>on (.bl c)
 |none=>(lW a b).map D.bl
def d8(a b:D):Option D:=match eqS a b with
 |some c=>on (.bl (!c))
 |none=>(lW a b).map λc=>D.bl (!c)
def qq(X:Cx)(g:Bool->Bool):R2:=λx y H Q=>∃(F:Fx) (a b:D) (c:Bool),Den X.K F H a x/\Den X.K F H b y/\lW a b=on c/\Q (.bl (g c)) H
theorem rS{c:Bool}(h:lW a b=on c):∃p q,toP a=on p/\toP b=on q/\T6 p=OV/\T6 q=OV/\c=R7 p q:=by
 unfold lW at h;split at h
 ·rename_i p q d e
  split at h
  ·rename_i hs
   rw[PU]at hs;cases h;exact⟨p,q,d,e,hs.1,hs.2,rfl⟩
  ·cases h
 ·cases h
theorem L9(f:Room k X.A):OpR X (QC .Eq) (qq X id):=by
 intro d s t H x y v u Q I g i h;obtain⟨F,a,b,c,d1,d2,e,q⟩:=h;obtain⟨p,j,l,m,n,o,rfl⟩:=rS e;obtain⟨as,r1⟩:=jF I a x v p d1 l g;obtain⟨bs,r⟩:=jF I b y u j d2 m i;exact eq_dataH r1 r n o f.units ⟨.bl _,H,I,rfl,q⟩
theorem L7(f:Room k X.A):OpR X (QC .NotEq) (qq X not):=by
 intro d s t H x y v u Q I g i h;obtain⟨F,a,b,c,d1,d2,e,q⟩:=h;obtain⟨p,j,l,m,n,o,rfl⟩:=rS e;obtain⟨as,r1⟩:=jF I a x v p d1 l g;obtain⟨bs,r⟩:=jF I b y u j d2 m i;exact ne_dataH r1 r n o f.units ⟨.bl _,H,I,rfl,q⟩
theorem cr(a:Room k X.A):OpR X (QC .Eq) (λx y H Q=>rEq x y H Q\/qq X id x y H Q):=Oh.or (L9 a)
theorem gE(a:Room k X.A):OpR X (QC .NotEq) (λx y H Q=>rNe x y H Q\/qq X not x y H Q):=Of.or (L7 a)
theorem dh:aV X.K (λx y H Q=>rEq x y H Q\/qq X id x y H Q) f6:=λF H β Q d1 d2 d h i fr a b e k=>by
 unfold f6 at e;split at e
 ·rename_i c q
  cases e;obtain⟨f,g⟩:=AT q a b;exact .inl ⟨f,by rw[g];exact k _ H (To.refl fr) rfl⟩
 ·cases q:lW d1 d2 with
  |none=>rw[q]at e;cases e
  |some c=>rw[q]at e;cases e;exact .inr ⟨F,d1,d2,c,a,b,q,k _ H (To.refl fr) rfl⟩
theorem jc:aV X.K (λx y H Q=>rNe x y H Q\/qq X not x y H Q) d8:=λF H β Q d1 d2 d h i fr a b e k=>by
 unfold d8 at e;split at e
 ·rename_i c q
  cases e;obtain⟨f,g⟩:=AT q a b;exact .inl ⟨f,by rw[g];exact k _ H (To.refl fr) rfl⟩
 ·cases q:lW d1 d2 with
  |none=>rw[q]at e;cases e
  |some c=>rw[q]at e;cases e;exact .inr ⟨F,d1,d2,c,a,b,q,k _ H (To.refl fr) rfl⟩
theorem kB(i j:Int):f6 (.int i) (.int j)=on (.bl (decide (i=j))):=rfl
theorem kA(i j:Int):d8 (.int i) (.int j)=on (.bl (!decide (i=j))):=rfl
theorem mX(i j:Bool):f6 (.bl i) (.bl j)=on (.bl (decide (i=j))):=rfl
theorem mU(i j:Bool):d8 (.bl i) (.bl j)=on (.bl (!decide (i=j))):=rfl
theorem mW(i j:PY):f6 (.str i) (.str j)=on (.bl (decide (i=j))):=rfl
theorem mT(i j:PY):d8 (.str i) (.str j)=on (.bl (!decide (i=j))):=rfl
def kF(d:D):Bool:=match toP d with
 |some p=>T6 p
 |none=>OW
theorem IO{C:Int->Int->Prop}{c:Int->Int->Bool}{g:Int->Int->Int}(b:∀i j,c i j=OV->C i j):aV K (ipC C g) (opI λi j=>if c i j=OV then on (.int (g i j))else OR):=λF H β Q d1 d2 d l m fr f h e k=>by
 obtain⟨i,j,rfl,rfl,a⟩:=iM e;split at a
 ·cases a
  exact⟨i,j,f,h,b _ _ (by assumption),k _ H (To.refl fr) rfl⟩
 ·cases a
def NH:D->D->Option D:=opI λi j=>on (.int (i+j))
theorem wv:aV K (ipI λi j=>i+j) NH:=λF H β Q d1 d2 d f g fr a b e k=>by
 obtain⟨i,j,rfl,rfl,c⟩:=iM e;cases c;exact⟨i,j,a,b,k _ H (To.refl fr) rfl⟩
theorem wz:PIp X .Mult (ipC tq λi j=>i*j):=by
 intro a s e H x y v u Q I b d h;obtain⟨i,j,rfl,rfl,c,q⟩:=h;obtain⟨t,rfl⟩:=b;obtain⟨t',rfl⟩:=d;exact imul_int ⟨.int _,H,I.tok _,⟨_,rfl⟩,q⟩ (XH (jk c.1) (jk c.2))
theorem wu:aV K (ipC tq λi j=>i*j) DN:=IO λi j h=>by
 simp only[PU,gy,P3]at h;exact h
theorem EA:aV K (ipC Jt λi j=>i/j) IX:=IO λi j h=>by
 simp only[PU,P3]at h;exact h
abbrev gn:=CH
theorem BF(b:X.calm=OV):cX X (.builtin "sum") (λxs H Q=>∃(a:OZ) (ns:List Int),xs=[.ref a]/\SqL X.K H a (ns.map V.int)/\Q (.int ns.sum) H):=rT b
theorem Mq:dO K (λxs H Q=>∃(a:OZ) (ns:List Int),xs=[.ref a]/\SqL K H a (ns.map V.int)/\Q (.int ns.sum) H) gn:=Oq
def Ju(H:Hp)(b l:OZ):Prop:=∃(cells:List Int) (i j:Int),H b=on (.lst [.ref l,.int i,.int j])/\H l=on (.lst (cells.map V.int))/\cells≠[]/\cells.length<=64/\(∀c∈cells,0<=c)/\0<=j
theorem KD(h:k<n):ixN n (k:Int)=on k:=by
 unfold ixN;rw[O8 (by omega),O8 (by omega)];simp
theorem ON(ns:List Int):∃a:List Int,lV (ns.map V.int) OR (on 63)=a.map V.int/\a.length<=63:=by
 refine⟨(ns.drop (HT.sIx ns.length 0 OR)).take (HT.sIx ns.length ns.length (on 63)-HT.sIx ns.length 0 OR),?_,?_⟩
 ·unfold lV
  rw[OS,VA,TL]
 ·rw[Rq]
  have:HT.sIx ns.length ns.length (on 63)<=63:=by
   unfold HT.sIx;simp;omega
  omega
def N6(K:Po):Sp:=λvs H Q _=>∃(a:OZ) (ns:List Int),vs=[.ref a]/\SqL K H a (ns.map V.int)/\∀(b l:OZ) (c:Hp),H b=OR->H l=OR->Ju c b l->bE H c->Q (.ref b) c
def HX(K:Po):Sp:=λvs H Q _=>∃(a:OZ) (ns:List Int),vs=[.ref a]/\SqL K H a (ns.map V.int)/\ns.length<=63/\∀b,Q (.bl OV) b
theorem K1(sm:bE H₀ H)(A:H₀ b=OR)(C:H₀ l=OR)(B:Ju H b l):∃β,β.ok/\SOk K H₀ (λc=>if c=b\/c=l then on 1 else OR) (on (b,l)) H (OR::on (.sh .bag)::Pi n OR) β (on (.ref a)::on (.ref b)::Pi n OR):=by
 obtain⟨cells,i,j,g,h,p,v,w,y⟩:=B;have m:b≠l:=On g h (by
  intro z;cases cells with
  |nil=>exact p rfl
  |cons c r=>simp at z)
 refine⟨⟨cells,i,j⟩,⟨p,v,w,y⟩,⟨⟨λc f=>?_,λt u e=>?_,λt u e=>?_⟩,λt u e=>?_,by simp,λc f=>?_,λc k f=>(by
  have d:(if c=b\/c=l then on 1 else OR)=on (k+2):=f;split at d<;>cases d),λc k f=>(by
  have d:(if c=b\/c=l then on 1 else OR)=on (k+2):=f;split at d<;>cases d),λk s e=>?_⟩⟩
 ·have d:(if c=b\/c=l then on 1 else OR)≠(OR:Option Nat):=f
  split at d
  ·rename_i q
   rcases q with rfl|rfl
   ·rw[g];simp
   ·rw[h];simp
  ·exact PF rfl d
 ·cases e
  refine⟨?_,?_,m⟩
  ·show(if b=b\/b=l then on 1 else OR)≠(OR:Option Nat)
   rw[O8 (.inl rfl)];simp
  ·show(if l=b\/l=l then on 1 else OR)≠(OR:Option Nat)
   rw[O8 (.inr rfl)];simp
 ·cases e
  exact⟨g,h⟩
 ·cases e
  exact⟨O8 (.inl rfl),O8 (.inr rfl)⟩
 ·cases q:H₀ c with
  |none=>exact PF q f
  |some o=>rw[sm c o q];simp
 ·match k with
  |0=>simp at e
  |1=>
   simp at e;subst e;exact⟨.ref b,rfl,b,l,rfl,rfl⟩
  |k+2=>
   simp only[W1,R4]at e;split at e<;>cases e
end
section
variable{P:Pt}{w:PV}{K:Po}{mg:PY->Option OX}{base:P7}
theorem bh{st:QF}{N ps:List PY}(n m:Nat)(g:G)(F:FunD K x qual st f fd)(S:FnScope N ps (af st))(hn:ps.length=n)(hm:N.length=m)
  (a:∀(b:OX) (A:Qn) (outer:List Wc) (s:O7) (H:Hp) (E:XK),Room k (A.deeper (TM qual (af st) s.heap.objs.size f b))->
   PSs (dy (CXE P w) P w K mg base N qual (af st) f b A outer s H E) (cw st) (tG K H g (λ_=>E))):FnOk P w K mg base (CXE P w) (k+1) f fd ps (spF K n (cW m g)):=by
 subst hn hm;exact KM F S a
end
end L2.Pu
namespace L2
open PySem PySem.Spec PyProof.Rows
theorem CmpScope.ofB{X:Cx}{scope:Scope}{caps:List Nat}(k:scope.kind= .function)(nd:(scope.names.map (·.1)).Nodup)
  (fr:(scope.names.all λy=>y.2 != .free||(X.env.scope.names.lookup y.1==on .cell||X.env.scope.names.lookup y.1==on .free))=OV) (nm:Nc=vars++caps.map (λj=>X.N.getD j Ss))
  (a:(caps.all λj=>decide (j<X.N.length)&&scope.names.lookup (X.N.getD j Ss)==on .free)=OV):CmpScope X scope Nc vars caps:=by
 refine⟨k,nd,λy b e=>?_,nm,λj c=>?_⟩
 ·have:=Rp.mp fr y b
  rw[e]at this;simp only[Sn,Bool.false_or,Bool.or_eq_true,R5]at this;exact this
 ·have:=Rp.mp a j c
  simp only[PU,P3,R5]at this;exact this
end L2
namespace L2.Pu
theorem mY(i j:Int):kG (.int i) (.int j)=on (.int (i+j)):=rfl
theorem jM(i j:Int):NH (.int i) (.int j)=on (.int (i+j)):=rfl
theorem mS(i j:Int):Ll (.int i) (.int j)=on (.int (i-j)):=rfl
theorem mV(i j:Int):modD (.int i) (.int j)=if decide (0<j)=OV then on (.int (i % j))else OR:=rfl
theorem qL(i j:Int):ltD (.int i) (.int j)=on (.bl (decide (i<j))):=rfl
theorem qM(i j:Int):leD (.int i) (.int j)=on (.bl (decide (i<=j))):=rfl
theorem qN(i j:Int):gtD (.int i) (.int j)=on (.bl (decide (j<i))):=rfl
theorem qO(i j:Int):geD (.int i) (.int j)=on (.bl (decide (j<=i))):=rfl
end L2.Pu
namespace L2.Pu
open PySem PySem.Spec
def okD:Nat->D->Prop
 |_,.int _=>True
 |_,.bl _=>True
 |_,.str _=>True
 |_,.non=>True
 |n+1,.lst xs=>xs.length<=Pe/\∀x∈xs,okD n x
 |n+1,.tup xs=>xs.length<=Pe/\∀x∈xs,okD n x
 |_,_=>False
def jf(rec:List D->M D):G:=
  aD (gIf (gY (az fi (aa (ae 1) (aa (az cj (aa (fC (.ty "list")) (aa (fC (.ty "tuple")) (aq)))) (aq))))) (aD (gIf (eS (fB (f2 (d8) (az cD (aa (ae 1) (aa (fC (.ty "list")) (aq)))) (az cD (aa (ae 0) (aa (fC (.ty "list")) (aq)))))) (fB (f2 (d8) (az cD (aa (ae 1) (aa (fC (.ty "tuple")) (aq)))) (az cD (aa (ae 0) (aa (fC (.ty "tuple")) (aq))))))) (cZ (fC (.bl OW))) (gNil))
  (aD (gIf (fB (f2 (d8) (az cJ (aa (ae 0) (aq))) (az cJ (aa (ae 1) (aq))))) (cZ (fC (.bl OW))) (gNil))
  (cZ (f2 (inD OV) (fC (.bl OW)) (bM 2 [] (iO (aa (ae 0) (aa (ae 1) (aq)))) (tgT (dB (tgC 0) (dB (tgC 1) gQ))) (λ_=>M.ret OV) (cEm (ck rec (aa (ae 0) (aa (ae 1) (aq)))))))))) (gNil))
  (aD (gIf (fB (f2 (gX) (ae 1) (fC .non))) (cZ (f2 (gX) (ae 0) (fC .non))) (gNil))
  (aD (gIf (eS (fB (f2 (d8) (az cD (aa (ae 1) (aa (fC (.ty "str")) (aq)))) (az cD (aa (ae 0) (aa (fC (.ty "str")) (aq)))))) (fB (f2 (d8) (az cD (aa (ae 1) (aa (fC (.ty "bool")) (aq)))) (az cD (aa (ae 0) (aa (fC (.ty "bool")) (aq))))))) (cZ (fC (.bl OW))) (gNil))
  (cZ (fZ (az fi (aa (ae 0) (aa (az cj (aa (fC (.ty "int")) (aa (fC (.ty "str")) (aq)))) (aq)))) (f2 (f6) (ae 0) (ae 1))))))
def fc:Nat->List D->M D
 |0=>λ_=>M.fail
 |n+1=>cW 2 (jf (fc n))
theorem gb:(0:Nat)+1+1<=Pe:=by decide
theorem fG:(2:Nat)<=Pe:=by decide
theorem oo:∀xs:List D,(∀x∈xs,rec [x,x] β=on (.ok (.bl OV),β))->
  cLp (tgT (dB (tgC 0) (dB (tgC 1) gQ))) (λ_=>M.ret OV) (cEm (ck rec (aa (ae 0) (aa (ae 1) (aq))))) (dA xs xs) [OR,OR] β=on (.ok (Pi xs.length (.bl OV)),β)
 |[],_=>rfl
 |x::xs,h=>by
  have ih:=oo xs λy a=>h y (OY _ a);have b:=h x O5;unfold dA cLp;simp only[tgT,dB,gQ,tgC,cEm,Option.isNone_none,Option.isNone_some,Qt,Rt,Rr,RG,RF,Qb,ck,aa,aq,ae,M.bind,M.ret,M.ofO,b,ih,reduceIte];rfl
theorem vm(n:Nat):(Pi n (D.bl OV)).all dM=OV:=by
 induction n with
 |zero=>rfl
 |succ n ih=>rw[P6,UG,ih];rfl
theorem wC(n:Nat):inB (.bl OW) (Pi n (D.bl OV))=OW:=by
 unfold inB
 induction n with
 |zero=>rfl
 |succ n ih=>rw[P6,TK,ih];rfl
theorem mr:∀(n:Nat) (d:D) (β:Bg),okD n d->fc (n+1) [d,d] β=on (.ok (.bl OV),β)
 |n,.int i,β,_=>by
  unfold fc cW jf;simp only[aD,fY,mK,eK,cZ,gIf,Pu.gNil,jx,qE,jw,qD,eY,qC,hNo,ae,fC,f1,f2,aq,aa,az,ck,fB,gY,mR,eS,il,fZ,fOr,qG,fIf,eZ,cB,bj,iO,im,ik,kq,M.bind,M.ret,M.ofO,M.fail,vw,vwA,stD,Ph,Q0,Rt,Rr,RG,RF,Pg,RC,R0,P6,PN,QT,QH,RM,Nat.reduceSub,Nat.reduceAdd,Nat.reduceLT,Nat.reduceLeDiff,Int.reduceLT,Int.reduceLE,mY,jM,mS,mV,qL,qM,qN,qO,kB,kA,mX,mU,mW,mT,QZ,asB,jT,gX,mB,isN,nS,cj,eG,sgT,kW,kX,sgN,Qu,Qt,SW,cJ,qT,cD,fi,tyD,jv,ju,Qb,Qe,reduceIte,QK,RN,Tu,SX,Pk,fG,gb]
 |n,.bl i,β,_=>by
  unfold fc cW jf;simp only[aD,fY,mK,eK,cZ,gIf,Pu.gNil,jx,qE,jw,qD,eY,qC,hNo,ae,fC,f1,f2,aq,aa,az,ck,fB,gY,mR,eS,il,fZ,fOr,qG,fIf,eZ,cB,bj,iO,im,ik,kq,M.bind,M.ret,M.ofO,M.fail,vw,vwA,stD,Ph,Q0,Rt,Rr,RG,RF,Pg,RC,R0,P6,PN,QT,QH,RM,Nat.reduceSub,Nat.reduceAdd,Nat.reduceLT,Nat.reduceLeDiff,Int.reduceLT,Int.reduceLE,mY,jM,mS,mV,qL,qM,qN,qO,kB,kA,mX,mU,mW,mT,QZ,asB,jT,gX,mB,isN,nS,cj,eG,sgT,kW,kX,sgN,Qu,Qt,SW,cJ,qT,cD,fi,tyD,jv,ju,Qb,Qe,reduceIte,QK,RN,Tu,SX,Pk,fG,gb]
 |n,.str i,β,_=>by
  unfold fc cW jf;simp only[aD,fY,mK,eK,cZ,gIf,Pu.gNil,jx,qE,jw,qD,eY,qC,hNo,ae,fC,f1,f2,aq,aa,az,ck,fB,gY,mR,eS,il,fZ,fOr,qG,fIf,eZ,cB,bj,iO,im,ik,kq,M.bind,M.ret,M.ofO,M.fail,vw,vwA,stD,Ph,Q0,Rt,Rr,RG,RF,Pg,RC,R0,P6,PN,QT,QH,RM,Nat.reduceSub,Nat.reduceAdd,Nat.reduceLT,Nat.reduceLeDiff,Int.reduceLT,Int.reduceLE,mY,jM,mS,mV,qL,qM,qN,qO,kB,kA,mX,mU,mW,mT,QZ,asB,jT,gX,mB,isN,nS,cj,eG,sgT,kW,kX,sgN,Qu,Qt,SW,cJ,qT,cD,fi,tyD,jv,ju,Qb,Qe,reduceIte,QK,RN,Tu,SX,Pk,fG,gb]
 |n,.non,β,_=>by
  unfold fc cW jf;simp only[aD,fY,mK,eK,cZ,gIf,Pu.gNil,jx,qE,jw,qD,eY,qC,hNo,ae,fC,f1,f2,aq,aa,az,ck,fB,gY,mR,eS,il,fZ,fOr,qG,fIf,eZ,cB,bj,iO,im,ik,kq,M.bind,M.ret,M.ofO,M.fail,vw,vwA,stD,Ph,Q0,Rt,Rr,RG,RF,Pg,RC,R0,P6,PN,QT,QH,RM,Nat.reduceSub,Nat.reduceAdd,Nat.reduceLT,Nat.reduceLeDiff,Int.reduceLT,Int.reduceLE,mY,jM,mS,mV,qL,qM,qN,qO,kB,kA,mX,mU,mW,mT,QZ,asB,jT,gX,mB,isN,nS,cj,eG,sgT,kW,kX,sgN,Qu,Qt,SW,cJ,qT,cD,fi,tyD,jv,ju,Qb,Qe,reduceIte,QK,RN,Tu,SX,Pk,fG,gb]
 |n+1,.lst xs,β,h=>by
  have h':xs.length<=Pe/\∀x∈xs,okD n x:=h;have c:=oo (rec:=fc (n+1)) (β:=β) xs λx a=>mr n x β (h'.2 x a);have b:(Pi xs.length (D.bl OV)).length<=Pe:=by rw[QV];exact h'.1
  unfold fc cW jf;simp only[aD,fY,mK,eK,cZ,gIf,Pu.gNil,jx,qE,jw,qD,eY,qC,hNo,ae,fC,f1,f2,aq,aa,az,ck,fB,gY,mR,eS,il,fZ,fOr,qG,fIf,eZ,cB,bj,iO,im,ik,kq,M.bind,M.ret,M.ofO,M.fail,vw,vwA,stD,Ph,Q0,Rt,Rr,RG,RF,Pg,RC,R0,P6,PN,QT,QH,RM,Nat.reduceSub,Nat.reduceAdd,Nat.reduceLT,Nat.reduceLeDiff,Int.reduceLT,Int.reduceLE,mY,jM,mS,mV,qL,qM,qN,qO,kB,kA,mX,mU,mW,mT,QZ,asB,jT,gX,mB,isN,nS,cj,eG,sgT,kW,kX,sgN,Qu,Qt,SW,cJ,qT,cD,fi,tyD,jv,ju,Qb,Qe,reduceIte,QK,RN,Tu,SX,Pk,fG,gb,bM,tz,dT,cSt,c,b,inD,vm,wC,dM,TF]
 |n+1,.tup xs,β,h=>by
  have h':xs.length<=Pe/\∀x∈xs,okD n x:=h;have c:=oo (rec:=fc (n+1)) (β:=β) xs λx a=>mr n x β (h'.2 x a);have b:(Pi xs.length (D.bl OV)).length<=Pe:=by rw[QV];exact h'.1
  unfold fc cW jf;simp only[aD,fY,mK,eK,cZ,gIf,Pu.gNil,jx,qE,jw,qD,eY,qC,hNo,ae,fC,f1,f2,aq,aa,az,ck,fB,gY,mR,eS,il,fZ,fOr,qG,fIf,eZ,cB,bj,iO,im,ik,kq,M.bind,M.ret,M.ofO,M.fail,vw,vwA,stD,Ph,Q0,Rt,Rr,RG,RF,Pg,RC,R0,P6,PN,QT,QH,RM,Nat.reduceSub,Nat.reduceAdd,Nat.reduceLT,Nat.reduceLeDiff,Int.reduceLT,Int.reduceLE,mY,jM,mS,mV,qL,qM,qN,qO,kB,kA,mX,mU,mW,mT,QZ,asB,jT,gX,mB,isN,nS,cj,eG,sgT,kW,kX,sgN,Qu,Qt,SW,cJ,qT,cD,fi,tyD,jv,ju,Qb,Qe,reduceIte,QK,RN,Tu,SX,Pk,fG,gb,bM,tz,dT,cSt,c,b,inD,vm,wC,dM,TF]
 |0,.lst _,_,h=>h.elim
 |0,.tup _,_,h=>h.elim
 |_,.ty _,_,h=>by cases ‹Nat›<;>exact h.elim
 |_,.txt,_,h=>by cases ‹Nat›<;>exact h.elim
 |_,.scr _,_,h=>by cases ‹Nat›<;>exact h.elim
 |0,.obj _ _ _,_,h=>h.elim
 |_+1,.obj _ _ _,_,h=>h.elim
 |_,.bag,_,h=>by cases ‹Nat›<;>exact h.elim
 |0,.adr _,_,h=>h.elim
 |_+1,.adr _,_,h=>h.elim
 |0,.dct _ _ _,_,h=>h.elim
 |_+1,.dct _ _ _,_,h=>h.elim
theorem qQ{ds os:List D}(a:it δ β=on (.ok ds,β1))(c:cLp tg tt b ds (cSt nv caps δ) β1=on (.ok os,β2))(d:os.length<=Pe):bM nv caps it tg tt b δ β=on (.ok (.lst os),β2):=by
 unfold bM;simp only[a,c,d,Qb]
def plD:Nat->D->Prop
 |_,.int _=>True
 |_,.bl _=>True
 |_,.non=>True
 |n+1,.lst xs=>∀x∈xs,plD n x
 |n+1,.tup xs=>∀x∈xs,plD n x
 |_,_=>False
theorem J6:∀(n:Nat) (d:D),plD n d->∃p,toP d=on p/\p.canLay0=OV/\p.depth<=n+1:=by
 have a:∀(n:Nat) (xs:List D),(∀x∈xs,∃p,toP x=on p/\p.canLay0=OV/\p.depth<=n)->∃ps,toPs xs=on ps/\X7 ps=OV/\V1 ps<=n:=by
  intro n xs
  induction xs with
  |nil=>intro _;exact⟨[],rfl,rfl,by simp[V1]⟩
  |cons x xs ih=>
   intro h;obtain⟨p,g,j,l⟩:=h x O5;obtain⟨ps,b,c,f⟩:=ih λy k=>h y (OY _ k);refine⟨p::ps,?_,?_,?_⟩
   ·unfold toPs;simp only[g,b]
   ·simp[X7,j,c]
   ·simp only[V1];omega
 intro n
 induction n with
 |zero=>
  intro d h;cases d with
  |int i=>exact⟨.int i,rfl,rfl,by simp[SC]⟩
  |bl i=>exact⟨.bool i,rfl,rfl,by simp[SC]⟩
  |non=>exact⟨.none,rfl,rfl,by simp[SC]⟩
  |_=>exact h.elim
 |succ n ih=>
  intro d h;cases d with
  |int i=>exact⟨.int i,rfl,rfl,by simp[SC]⟩
  |bl i=>exact⟨.bool i,rfl,rfl,by simp[SC]⟩
  |non=>exact⟨.none,rfl,rfl,by simp[SC]⟩
  |lst xs=>
   obtain⟨ps,b,c,f⟩:=a (n+1) xs λx e=>ih x (h x e);exact⟨.list ps,by unfold toP;simp[b],by simp[PyData.canLay0,c],by simp only[SC];omega⟩
  |tup xs=>
   obtain⟨ps,b,c,f⟩:=a (n+1) xs λx e=>ih x (h x e);exact⟨.tuple ps,by unfold toP;simp[b],by simp[PyData.canLay0,c],by simp only[SC];omega⟩
  |_=>exact h.elim
theorem vd(n:Nat)(h:plD n d)(hn:n<=60):kF d=OV:=by
 obtain⟨p,a,b,c⟩:=J6 n d h;unfold kF;simp only[a,T6,b,Sm,P3];omega
end L2.Pu
namespace L2.Pu
open PySem PySem.Spec PyProof.Rows
section
variable{X:Cx}{E:St->XK}{K:Po}{a b:Expr}{es:List Expr}{pos:Tz}
theorem To.none(t:To F H H1 β1)(h:H1 p=OR):H p=OR:=by
 cases q:H p with
 |none=>rfl
 |some o=>
  have:H1 p=on o:=t.kp p o q λb l e=>by
   obtain⟨c,d⟩:=t.fr.bag b l e;exact⟨λw=>(by subst w;rw[c]at h;cases h),λw=>(by subst w;rw[d]at h;cases h)⟩
  rw[this]at h;cases h
noncomputable def Fx.but(F:Fx)(a:OZ):Fx:=⟨λc=>F.A c\/c=a,F.bg⟩
theorem Fx.tr_but{F:Fx}(fr:Fr F H β1)(d:H p=OR)(hs:∀c o,H c=on o->H1 c=on o):Tr F H (F.but p) H1:=⟨λc e f z=>by
 rcases z with z|z
 ·exact e z
 ·subst z;exact f d,λc o _ h=>hs c o h,rfl⟩
theorem Fx.tr_of{F:Fx}:Tr (F.but p) H F H:=⟨λc h _ z=>h (RB z),λ_ _ _ h=>h,rfl⟩
def l7(K:Po)(F:Fx)(H0 H:Hp)(ds:List D)(v:V):Prop:=∃a xs,v= .ref a/\H0 a=OR/\H a=on (.lst xs)/\DenL K (F.but a) H ds xs
def tVO(K:Po)(f:FL)(E:St->XK):TE:=λc H Q=>∃F δ β,Fr F H β/\VOk K F H δ c/\run (l7 K F H) F E c (f δ) H Q β
def tVG(K:Po)(f:Dn->M (List (List D)))(E:St->XK):TE:=λc H Q=>∃F δ β,Fr F H β/\VOk K F H δ c/\run (gM K F H) F E c (f δ) H Q β
noncomputable def szL(ds:List D):Option (List D):=if ds.length<=Pe then on ds else OR
theorem l7.new(t:To F H H1 β1)(d:H1 p=OR)(hd:DenL K F H1 ds xs):l7 K F H (upd H1 p (.lst xs)) ds (.ref p):=
 ⟨p,xs,rfl,t.none d,ah,DenL.tr (Fx.tr_but t.fr d λc o h=>by rw[upd_ne (ne_of_none h d)];exact h) _ _ hd⟩
theorem DenL.rep(h:DenL K F H ds xs):∀n:Nat,DenL K F H (Pi n ds).flatten (Pi n xs).flatten
 |0=>rfl
 |n+1=>by
  rw[P6,RV,P6,RV];exact DenL.append h (DenL.rep h n)
noncomputable def ug(ds:List D)(d:D):Option (List D):=match d with
 | .int k=>if(decide (-(2^63)<=k)&&decide (k<2^63)&&decide (ds.length<=Pe)&&decide (ds.length*k.toNat<=Pe))=OV then on (Pi k.toNat ds).flatten else OR
 |_=>OR
def DI(g:FL)(f:FD):FL:=λδ=>M.bind (g δ) λds=>M.bind (M.ofO (szL ds)) λds=>M.bind (f δ) λd=>M.ofO (ug ds d)
theorem Oj(ha:PA X es (tVA X.K g E))(O:PE X b (tV X.K f E)):PE X (.BinOp (.List es pos') .Mult b pos) (tVO X.K (DI g f) E):=
 (dH L5 (gC ha) O).imp λP H Q j=>ex6 j λF δ β fr B r=>⟨F,δ,β,fr,B,(run.bind (R:=DenL X.K F) r).mono λvs T j=>by
  obtain⟨ds,β1,t,hd,r1⟩:=j;obtain⟨U,n,W⟩:=run.ofO_bind r1;unfold szL at n;split at n
  ·rename_i Y
   cases n;refine⟨by rw[←hd.length];exact Y,λp I=>?_⟩;have m:=t.fr.upd (.lst vs) I;have J:=t.fr.fresh I;refine⟨F,δ,β1,m.fr,(B.tr (t.tr fr)).tr (m.tr t.fr),?_⟩;obtain⟨L,β2,e,h⟩:=W;have u:run (l7 X.K F H) F E P (M.bind (f δ) λd=>M.ofO (ug ds d)) (upd T p (.lst vs)) Q β1:=by
    refine⟨L,β2,e,?_⟩;cases L with
    |ok d=>exact λv y c=>h v y (m.trans c)
    |error C=>exact λy c=>h y (m.trans c)
   refine(run.bind (R:=Den X.K F) u).mono λw Z j=>ex5 j λd β3 c hw r3=>?_;obtain⟨os,i,k⟩:=run.ofO r3;unfold ug at i;split at i
   ·split at i
    ·rename_i kk o
     cases i;simp only[PU,P3]at o;cases hw;have A:Z p=on (.lst vs):=c.kp p _ ah λb l q=>⟨λz=>J (z▸(fr.bgA b l q).1),λz=>J (z▸(fr.bgA b l q).2.1)⟩;have tt:=m.trans c;exact⟨p,_,vs,rfl,rfl,A,o.1.1.1,o.1.1.2,by rw[←hd.length];exact o.2,λq N=>k _ _ (c.fr.upd _ N) (l7.new (t.trans tt) N ((DenL.tr (tt.tr t.fr) _ _ hd).rep _))⟩
    ·cases i
   ·cases i
  ·cases n⟩
def gH(nv:Nat)(caps:List Nat)(it:Dn->M (List Pu.D))(tg:TgF)(tt:Dn->M Bool)(b:Dn->M (List Pu.D)):Dn->M (List Pu.D):=λδ β=>match it δ β with
 |none=>OR
 |some (.error C,β1)=>on (.error C,β1)
 |some (.ok ds,β1)=>match cLp tg tt b ds (cSt nv caps δ) β1 with
  |some (.ok os,β2)=>if os.length<=Pe then on (.ok os,β2)else OR
  |_=>OR
theorem yP{vars:List PY}{caps:List Nat}{it:Dn->M (List Pu.D)}{g:TG}{tg:TgF}{tt:Dn->M Bool}{I:OZ->TB}{b:Dn->M (List Pu.D)}(T:cz K g tg)(U:dE tg)(W:∀D,jo K D (I D) b){L:St}{H:Hp}{Q:VK}(h:tVO K (gH vars.length caps it tg tt b) E L H Q):
  oI vars caps (iV K it E) (λD J=>cV J g (tVT K tt E0) (I D)) L H Q:=by
 obtain⟨F,δ,β,fr,N,r,k,e,h⟩:=h;unfold gH at e;refine⟨F,δ,β,fr,N,?_⟩;split at e
 ·cases e
 ·rename_i C β1 q
  cases e;exact⟨.error C,_,q,h⟩
 ·rename_i ds β1 q
  split at e
  ·rename_i os β2 q2
   split at e
   ·rename_i Y
    cases e;refine⟨.ok ds,β1,q,λJ j t Z D c=>?_⟩;have d:¬F.A D:=t.fr.fresh c;have nb:∀b l,F.bg=on (b,l)->D≠b/\D≠l:=λb l z=>⟨λw=>d (w▸(fr.bgA b l z).1),λw=>d (w▸(fr.bgA b l z).2.1)⟩;have O:=t.fr.upd (.lst []) c;have m:Fr ⟨λa=>F.A a\/a=D,F.bg⟩ (upd j D (.lst [])) β1:=by
     refine⟨λa ha z=>?_,λb l z=>let ⟨x,y,w⟩:=fr.bgA b l z;⟨.inl x,.inl y,w⟩,O.fr.bag⟩
     rcases ha with ha|ha
     ·exact O.fr.occ a ha z
     ·subst ha;rw[ah]at z;cases z
    have f:Tr F j ⟨λa=>F.A a\/a=D,F.bg⟩ (upd j D (.lst [])):=⟨λa ha hs z=>by
     rcases z with z|z
     ·exact ha z
     ·subst z;exact hs c,λa o ha z=>by rw[upd_ne (ne_of_none z c)];exact z,rfl⟩
    refine mE (R:=RL K) (D:=D) (as:=[]) (os:=os) T U (W D) m (.inr rfl) nb (pZ (N.tr ((t.tr fr).trans f))) ⟨[],ah,rfl⟩ (Z.tr f) q2 (show os.length<=Pe from Y) λσ1 P p vk3 u=>?_;obtain⟨i,v,B⟩:=u;have tf:To F j P k:=by
     refine⟨λa o z n=>p.kp a o (by rw[upd_ne (ne_of_none z c)];exact z) (ne_of_none z c) n,λa ha z=>p.fr.occ a (RB ha) z,fr.bgA,p.fr.bag⟩
    exact h _ P (t.trans tf) ⟨D,i,rfl,t.none c,v,B⟩
   ·cases e
  ·cases e
def oq(tg:TgF)(tt:Dn->M Bool)(b:Dn->M (List (List Pu.D))):List Pu.D->Dn->M (List (List Pu.D))
 |[],_=>M.ret []
 |d::ds,δ=>match tg d δ with
  |none=>M.fail
  |some δ1=>M.bind (tt δ1) λc=>M.bind (if c=OV then b δ1 else M.ret []) λo=>M.bind (oq tg tt b ds δ) λos=>M.ret (o++os)
def RwA(K:Po)(F:Fx)(D:OZ)(H0 H:Hp)(as:List (List Pu.D))(acc:List V):Prop:=(∀c,H0 c≠OR->H c≠OR)/\∃rs,acc=rs.map V.ref/\(D::rs).Nodup/\RowL K F H (λr=>H0 r=OR) as rs
theorem RwA.mono{F:Fx}{D:OZ}(g:F.A D)(i:∀b l,F.bg=on (b,l)->H0 b≠OR/\H0 l≠OR)(fr:Fr F H β)(t:ToD F D H H1 β1)(h:RwA K F D H0 H as acc):RwA K F D H0 H1 as acc:=by
 obtain⟨cv,rs,e,nd,j⟩:=h;refine⟨λc k z=>?_,rs,e,nd,RowL.tr (t.tr fr g) j λr xs m p q=>⟨p,t.kp r _ q (λz=>?_) λb l w=>⟨λz=>?_,λz=>?_⟩⟩⟩
 ·cases q:H c with
  |none=>exact cv c k q
  |some o=>
   by_cases hd:c=D
   ·subst hd;exact t.fr.occ _ g z
   ·by_cases d:∃b l,F.bg=on (b,l)/\(c=b\/c=l)
    ·obtain⟨b,l,w,f⟩:=d
     rcases f with rfl|rfl
     ·exact t.fr.occ _ (fr.bgA _ _ w).1 z
     ·exact t.fr.occ _ (fr.bgA _ _ w).2.1 z
    ·rw[t.kp c o q hd λb l w=>⟨λy=>d ⟨b,l,w,.inl y⟩,λy=>d ⟨b,l,w,.inr y⟩⟩]at z
     cases z
 ·subst z;exact(Qj.mp nd).1 m
 ·subst z;exact(i _ _ w).1 p
 ·subst z;exact(i _ _ w).2 p
def qb(K:Po)(D:OZ)(i:TB)(f:Dn->M (List (List Pu.D))):Prop:=∀(F:Fx) (H0 H:Hp) (δ:Dn) (β d:Bg) (h:St) (acc:List V) (as os:List (List Pu.D)) (Q:St->Hp->Prop),Fr F H β->F.A D->(∀b l,F.bg=on (b,l)->D≠b/\D≠l)->(∀b l,F.bg=on (b,l)->H0 b≠OR/\H0 l≠OR)->VOk K F H δ h->H D=on (.lst acc)->RwA K F D H0 H as acc->
 f δ β=on (.ok os,d)->as.length+os.length<=Pe->(∀e g c,ToD F D H g d->VOk K F g δ e->g D=on (.lst c)->RwA K F D H0 g (as++os) c->Q e g)->i h H Q
def vh(f:Dn->M (List Pu.D)):Dn->M (List (List Pu.D)):=λδ=>M.bind (f δ) λd=>M.ret [d]
theorem RowL.snoc(p:P r)(c:H r=on (.lst xs))(d:DenL K F H ds xs):∀{rows:List (List Pu.D)} {rs:List OZ},RowL K F H P rows rs->RowL K F H P (rows++[ds]) (rs++[r])
 |[],[],_=>⟨p,⟨xs,c,d⟩,trivial⟩
 |_::_,_::_,h=>⟨h.1,h.2.1,RowL.snoc p c d h.2.2⟩
 |[],_::_,h=>h.elim
 |_::_,[],h=>h.elim
theorem wq{D:OZ}:qb K D (yp D (tVO K f E0)) (vh f):=λF H0 H δ β j Y acc as os Q fr m p P R T hd e Z k=>by
 obtain⟨d,β1,e1,e2⟩:=M.bind_inv e;cases e2;refine⟨F,δ,β,fr,R,E0.run e1 λv U t hv=>?_⟩;have u:=t.kp D _ T p;have w:=hd.mono m P fr (t.toD D);obtain⟨r,xs,rfl,g,n1,n2⟩:=hv;obtain⟨cv,rs,A,nd,W⟩:=w;obtain⟨B,c,C,I,J⟩:=hd;have i:acc.length=as.length:=by rw[A,OS,W.len]
 have L:c=rs:=by
  have:c.map V.ref=rs.map V.ref:=C.symm.trans A;exact VF (λa b q=>by cases q;rfl)|>.mp this
 subst L;have nD:r≠D:=λz=>by subst z;rw[T]at g;cases g
 have nr:r∉c:=λz=>by
  obtain⟨_,ys,q⟩:=J.all r z;rw[q]at g;cases g
 have N:H0 r=OR:=by
  cases q:H0 r with
  |none=>rfl
  |some o=>exact PF g (B r (by rw[q];simp))
 refine⟨acc,u,by rw[i];simp at Z;omega,?_⟩;have O:ToD F D U (upd U D (.lst (acc++[.ref r]))) j:=by
  refine⟨λa o h n _=>by rw[upd_ne n];exact h,λa h q=>?_,fr.bgA,λb l q=>?_⟩
  ·by_cases z:a=D
   ·subst z;rw[ah]at q;cases q
   ·rw[upd_ne z]at q;exact t.fr.occ a h q
  ·rw[upd_ne (p b l q).1.symm,upd_ne (p b l q).2.symm]
   exact t.fr.bag b l q
 have tt:=O.tr t.fr m;refine k Y _ _ ((t.toD D).trans O) (R.tr ((t.tr fr).trans tt)) ah (RwA.mono m P t.fr O ⟨cv,c++[r],by rw[A,P4];rfl,?_,RowL.snoc N n1 (DenL.tr Fx.tr_of _ _ n2) W⟩);rw[←QT,VT];refine⟨I,by simp,λx hx y hy=>?_⟩;obtain rfl:y=r:=by simpa using hy
 rcases Pq.mp hx with rfl|hx
 ·exact nD.symm
 ·exact λz=>nr (z▸hx)
end
section
variable{X:Cx}{E:St->XK}{K:Po}
theorem Kv{D:OZ}(hg:cz K g tg)(sg:dE tg)(hb:qb K D tb b){F:Fx}{as os:List (List Pu.D)}(fr:Fr F H β)(W:F.A D)(hn:∀b l,F.bg=on (b,l)->D≠b/\D≠l)(h0:∀b l,F.bg=on (b,l)->H0 b≠OR/\H0 l≠OR)(vk:VOk K F H δ σ)(hD:H D=on (.lst acc))(hd:RwA K F D H0 H as acc)
  (it:ItD K J F H ds) (e:oq tg tt b ds δ β=on (.ok os,β')) (hz:as.length+os.length<=Pe) (k:∀f n a,ToD F D H n β'->VOk K F n δ f->n D=on (.lst a)->RwA K F D H0 n (as++os) a->Q f n):cV J g (tVT K tt E0) tb σ H Q:=by
 refine⟨λi m f n=>m+i=ds.length/\∃β1 a j t,ToD F D H n β1/\VOk K F n δ f/\n D=on (.lst a)/\RwA K F D H0 n j a/\oq tg tt b (ds.drop i) δ β1=on (.ok t,β')/\j++t=as++os,
  ⟨ds.length,by omega,β,acc,as,os,⟨λ_ _ h _ _=>h,fr⟩,vk,hD,hd,e,rfl⟩,?_⟩
 rintro i m f n ⟨hm,β1,a,j,t,u,y,B,C,r,ea⟩;have tr1:=u.tr fr W;obtain⟨iy,is⟩:=it F n β1 tr1 u.fr i;cases Y:ds[i]? with
 |none=>
  have Z:ds.length<=i:=Uv.mp Y;rw[Sa Z]at r;cases r;refine .inl ⟨is (by omega),k f n a u y B ?_⟩;rw[←ea,PN];exact C
 |some d=>
  have Z:i<ds.length:=(Pc.mp Y).1;obtain⟨go,yl⟩:=iy d Y;have ed:ds.drop i=d::ds.drop (i+1):=by
   rw[QB Z];congr 1;exact PR ((O0 Z).symm.trans Y)
  rw[ed]at r;unfold oq at r;cases q:tg d δ with
  |none=>rw[q]at r;cases r
  |some δ1=>
   rw[q]at r;obtain⟨c,β2,e2,e3⟩:=M.bind_inv r;obtain⟨o,β3,e4,e5⟩:=M.bind_inv e3;obtain⟨I,β4,e6,e7⟩:=M.bind_inv e5;cases e7;obtain⟨s1,s2⟩:=sg _ _ _ q;refine .inr ⟨go,λL N=>∃p,ToD F D H N β3/\VOk K F N δ L/\N D=on (.lst p)/\RwA K F D H0 N (j++o) p,?_,λx H2 hy=>?_⟩
   ·rintro L N ⟨p,t9,vk9,hD9,hd9⟩
    exact⟨m-1,by omega,by omega,β3,p,j++o,I,t9,vk9,hD9,hd9,e6,by rw[Qv];exact ea⟩
   ·obtain⟨sm,dx⟩:=yl x H2 hy
    have w:To F n H2 β1:=u.fr.same sm;have tr2:=w.tr u.fr;refine hg F H2 δ δ1 f d x _ (y.tr tr2) dx q λσ2 v=>⟨F,δ1,β1,w.fr,v,E0.run e2 λc' H3 O ec=>?_⟩;subst ec;have hD2:=sm _ _ B;have P:=O.kp D _ hD2 hn;have R:=O.tr w.fr;have d3:=(C.mono W h0 u.fr (w.toD D)).mono W h0 w.fr (O.toD D);have T:ToD F D H H3 β2:=u.trans ((w.trans O).toD D);have hle:j.length+(o++I).length<=Pe:=by
     have:=Qr Vq ea;simp only[Pn]at this⊢;omega
    cases c' with
    |true=>
     rw[O8 rfl]at e4⊢;refine hb F H0 H3 δ1 β2 β3 σ2 a j o _ O.fr W hn h0 (v.tr R) P d3 e4 (by rw[Pn]at hle;omega) λσ4 H4 U t4 vk4 hD4 hd4=>?_;exact⟨U,T.trans t4,vk4.sub s1 s2,hD4,hd4⟩
    |false=>
     rw[O3 Pa]at e4⊢;cases e4;exact⟨a,T,(v.tr R).sub s1 s2,P,by rw[PN];exact d3⟩
def iS(nv:Nat)(caps:List Nat)(it:Dn->M (List Pu.D))(tg:TgF)(tt:Dn->M Bool)(b:Dn->M (List (List Pu.D))):Dn->M (List (List Pu.D)):=λδ β=>match it δ β with
 |none=>OR
 |some (.error C,β1)=>on (.error C,β1)
 |some (.ok ds,β1)=>match oq tg tt b ds (cSt nv caps δ) β1 with
  |some (.ok os,β2)=>if os.length<=Pe then on (.ok os,β2)else OR
  |_=>OR
theorem q9{vars:List PY}{caps:List Nat}{it:Dn->M (List Pu.D)}{g:TG}{tg:TgF}{tt:Dn->M Bool}{I:OZ->TB}{b:Dn->M (List (List Pu.D))}(T:cz K g tg)(U:dE tg)(W:∀D,qb K D (I D) b){L:St}{H:Hp}{Q:VK}(h:tVG K (iS vars.length caps it tg tt b) E L H Q):
  oI vars caps (iV K it E) (λD J=>cV J g (tVT K tt E0) (I D)) L H Q:=by
 obtain⟨F,δ,β,fr,N,r,k,e,h⟩:=h;unfold iS at e;refine⟨F,δ,β,fr,N,?_⟩;split at e
 ·cases e
 ·rename_i C β1 q
  cases e;exact⟨.error C,_,q,h⟩
 ·rename_i ds β1 q
  split at e
  ·rename_i os β2 q2
   split at e
   ·rename_i Y
    cases e;refine⟨.ok ds,β1,q,λJ f t Z D d=>?_⟩;have i:¬F.A D:=t.fr.fresh d;have nb:∀b l,F.bg=on (b,l)->D≠b/\D≠l:=λb l z=>⟨λw=>i (w▸(fr.bgA b l z).1),λw=>i (w▸(fr.bgA b l z).2.1)⟩;have O:=t.fr.upd (.lst []) d;have m:Fr ⟨λa=>F.A a\/a=D,F.bg⟩ (upd f D (.lst [])) β1:=by
     refine⟨λa ha z=>?_,λb l z=>let ⟨x,y,w⟩:=fr.bgA b l z;⟨.inl x,.inl y,w⟩,O.fr.bag⟩
     rcases ha with ha|ha
     ·exact O.fr.occ a ha z
     ·subst ha;rw[ah]at z;cases z
    have j:Tr F f ⟨λa=>F.A a\/a=D,F.bg⟩ (upd f D (.lst [])):=⟨λa ha hs z=>by
     rcases z with z|z
     ·exact ha z
     ·subst z;exact hs d,λa o ha z=>by rw[upd_ne (ne_of_none z d)];exact z,rfl⟩
    have cv:∀c,H c≠OR->upd f D (.lst []) c≠OR:=λc hc z=>by
     by_cases w:c=D
     ·subst w;rw[ah]at z;cases z
     ·rw[upd_ne w]at z;exact hc (t.none z)
    refine Kv (D:=D) (H0:=H) (as:=[]) (os:=os) T U (W D) m (.inr rfl) nb (λb l z=>⟨fr.occ _ (fr.bgA b l z).1,fr.occ _ (fr.bgA b l z).2.1⟩) (pZ (N.tr ((t.tr fr).trans j))) ah ⟨cv,[],rfl,by simp,trivial⟩ (Z.tr j) q2 (by simpa using Y) λσ1 P R u vk3 v B=>?_;have tf:To F f P k:=by
     refine⟨λa o z n=>u.kp a o (by rw[upd_ne (ne_of_none z d)];exact z) (ne_of_none z d) n,λa ha z=>u.fr.occ a (RB ha) z,fr.bgA,u.fr.bag⟩
    obtain⟨_,rs,ea,nd,rl⟩:=B;subst ea;exact h _ P (t.trans tf) ⟨D,rs,rfl,t.none d,v,nd,RowL.tr (F:=⟨λa=>F.A a\/a=D,F.bg⟩) ⟨λa ha _ z=>ha (RB z),λa o _ z=>z,rfl⟩ rl λr xs _ p q=>⟨p,q⟩⟩
   ·cases e
  ·cases e
section
variable{elt target iter:Expr}{ifs:List Expr}{rest:List Q1}{scope:Scope}{pos:Tz}{Nc vars:List PY}{caps:List Nat}{g:TG}{tb:OZ->TB}
theorem Md(c:X.calm=OV)(S:CmpScope X scope Nc vars caps)(d:PI X target iter (iV X.K it E))
  (e:∀(cl:List (PY×OZ)) (C:OZ) (a:List OZ) (s:O7) (H:Hp),PG (aC X Nc scope cl C a s H) target g/\dG (aC X Nc scope cl C a s H) ifs (tVT X.K tt E0)/\∀D,PB (aC X Nc scope cl C a s H) elt (⟨target,iter,ifs,0⟩::rest) scope pos 0 D (tb D))
  (f:cz X.K g tg) (i:dE tg) (j:∀D,jo X.K D (tb D) b) (hs:∀x,Qf iter X.env x=Ro x:=by intro _;rfl):PE X (.ListComp elt (⟨target,iter,ifs,0⟩::rest) scope pos) (tVO X.K (gH vars.length caps it tg tt b) E):=
 (mw c S d e hs).imp λk H Q h=>yP f i j h
theorem MA(c:X.calm=OV)(S:CmpScope X scope Nc vars caps)(d:PI X target iter (iV X.K it E))
  (e:∀(cl:List (PY×OZ)) (C:OZ) (a:List OZ) (s:O7) (H:Hp),PG (aC X Nc scope cl C a s H) target g/\dG (aC X Nc scope cl C a s H) ifs (tVT X.K tt E0)/\∀D,PB (aC X Nc scope cl C a s H) elt (⟨target,iter,ifs,0⟩::rest) scope pos 0 D (tb D))
  (f:cz X.K g tg) (i:dE tg) (j:∀D,qb X.K D (tb D) b) (hs:∀x,Qf iter X.env x=Ro x:=by intro _;rfl):PE X (.ListComp elt (⟨target,iter,ifs,0⟩::rest) scope pos) (tVG X.K (iS vars.length caps it tg tt b) E):=
 (mw c S d e hs).imp λk H Q h=>q9 f i j h
end
mutual
noncomputable def noL:D->Bool
 | .int _=>OV
 | .bl _=>OV
 | .str _=>OV
 | .non=>OV
 | .tup ds=>noLs ds
 |_=>OW
noncomputable def noLs:List D->Bool
 |[]=>OV
 |d::ds=>noL d&&noLs ds
end
mutual
theorem wj{F b:Fx}(hF:∀c,b.A c->F.A c\/∃xs,H c=on (.lst xs)):∀(d:D) (v:V),noL d=OV->Den K F H d v->Den K b H d v
 | .int i,v,_,h=>h
 | .bl i,v,_,h=>h
 | .str i,v,_,h=>h
 | .non,v,_,h=>h
 | .tup ds,v,n,h=>by
  obtain⟨a,xs,e,h1,f⟩:=h;refine⟨a,xs,e,?_,noLs_den hF ds xs (by simpa[noL]using n) f⟩;rcases h1 with⟨h1,r⟩|h1
  ·refine .inl ⟨λz=>?_,r⟩
   rcases hF a z with z|⟨ys,z⟩
   ·exact h1 z
   ·rcases r with r|⟨o,r⟩<;>rw[z]at r<;>cases r
  ·exact .inr h1
 | .lst _,_,n,_=>by simp[noL]at n
 | .scr _,_,n,_=>by simp[noL]at n
 | .ty _,_,n,_=>by simp[noL]at n
 | .txt,_,n,_=>by simp[noL]at n
 | .obj _ _ _,_,n,_=>by simp[noL]at n
 | .bag,_,n,_=>by simp[noL]at n
 | .adr _,_,n,_=>by simp[noL]at n
 | .dct _ _ _,_,n,_=>by simp[noL]at n
theorem noLs_den{F a:Fx}(hF:∀c,a.A c->F.A c\/∃xs,H c=on (.lst xs)):∀(ds:List D) (xs:List V),noLs ds=OV->DenL K F H ds xs->DenL K a H ds xs
 |[],xs,_,h=>h
 |d::ds,xs,n,h=>by
  have b:noL d=OV/\noLs ds=OV:=by simpa[noLs]using n
  obtain⟨x,f,e,g,i⟩:=h;exact⟨x,f,e,wj hF d x b.1 g,noLs_den hF ds f b.2 i⟩
end
theorem RowL.noL{F b:Fx}(hF:∀c,b.A c->F.A c\/∃xs,H c=on (.lst xs)):∀{rows:List (List D)} {rs:List OZ},(∀ds∈rows,noLs ds=OV)->RowL K F H P rows rs->(∀r∈rs,P2 r)->RowL K b H P2 rows rs
 |[],[],_,_,_=>trivial
 |ds::rows,r::rs,n,h,p=>by
  obtain⟨g,⟨xs,d,e⟩,f⟩:=h;exact⟨p r O5,⟨xs,d,noLs_den hF _ _ (n ds O5) e⟩,RowL.noL hF (λx a=>n x (OY _ a)) f λx a=>p x (OY _ a)⟩
 |[],_::_,_,h,_=>h.elim
 |_::_,[],_,h,_=>h.elim
theorem SOk.newGrd{δ:Ds}{U:St}(ok:SOk K H₀ B bg H δ β U)(t:To (FxB B bg) H H' β')(hn:∀ds∈rows,noLs ds=OV)(hv:gM K (FxB B bg) H H' rows v):
  ∃W,SOk K H₀ W bg H' (δ.set i (on (.grd rows))) β' (U.set i (on v))/\Stp B H W H':=by
 classical
 obtain⟨a,rs,rfl,n0,L,nd,I⟩:=hv;have g:∀c,c=a\/c∈rs->H c=OR:=λc hc=>by
  rcases hc with rfl|hc
  ·exact n0
  ·exact(I.all c hc).1
 have hB:∀c,c=a\/c∈rs->B c=OR:=λc hc=>T0 λz=>ok.fr.occ c z (g c hc);have X:∀b l,bg=on (b,l)->¬(b=a\/b∈rs)/\¬(l=a\/l∈rs):=λb l e=>by
  obtain⟨b1,b2⟩:=ok.bgt b l e;exact⟨λz=>(by rw[hB b z]at b1;cases b1),λz=>(by rw[hB l z]at b2;cases b2)⟩
 obtain⟨m,Y⟩:=ok.to rfl t;have J:Stp B H (λc=>if c=a\/c∈rs then on (i+2)else B c) H':=by
  refine⟨Y.kp,λc hc=>?_,λc o h n=>?_,Y.al⟩
  ·have:¬(c=a\/c∈rs):=λz=>by rw[hB c z]at hc;rcases hc with hc|hc<;>cases hc
   simp only[O3 this]
  ·have:¬(c=a\/c∈rs):=λz=>by rw[g c z]at h;cases h
   simp only[O3 this];exact n
 have tr:Tr (FxB B bg) H (FxB (λc=>if c=a\/c∈rs then on (i+2)else B c) bg) H':=J.tr;refine⟨λc=>if c=a\/c∈rs then on (i+2)else B c,⟨⟨λc hc z=>?_,λb l e=>?_,m.fr.bag⟩,λb l e=>?_,by rw[Qi,Qi,ok.len],m.cov,λc k hc=>(by
  have f:(if c=a\/c∈rs then on (i+2)else B c)=on (k+2):=hc;by_cases z:c=a\/c∈rs
  ·cases w:H₀ c with
   |none=>rfl
   |some o=>exact PF (g c z) (ok.cov c (by rw[w];simp))
  ·rw[O3 z]at f;exact ok.new c k f),λc k hc=>(by
  have f:(if c=a\/c∈rs then on (i+2)else B c)=on (k+2):=hc;by_cases z:c=a\/c∈rs
  ·rcases z with rfl|z
   ·exact⟨_,L⟩
   ·exact(I.all c z).2
  ·rw[O3 z]at f;exact m.lst c k f),λj s e=>?_⟩,J⟩
 ·by_cases q:c=a\/c∈rs
  ·rcases q with rfl|q
   ·rw[L]at z;cases z
   ·obtain⟨_,xs,w⟩:=I.all c q
    rw[w]at z;cases z
  ·have f:(if c=a\/c∈rs then on (i+2)else B c)≠OR:=hc
   rw[O3 q]at f;exact m.fr.occ c f z
 ·obtain⟨O,P⟩:=X b l e
  obtain⟨b1,b2⟩:=ok.bgt b l e;refine⟨?_,?_,(ok.fr.bgA b l e).2.2⟩
  ·show(if b=a\/b∈rs then on (i+2)else B b)≠OR
   rw[O3 O,b1];simp
  ·show(if l=a\/l∈rs then on (i+2)else B l)≠OR
   rw[O3 P,b2];simp
 ·obtain⟨O,P⟩:=X b l e
  simp only[O3 O,O3 P];exact ok.bgt b l e
 ·rw[Qq]at e
  rw[Qq];by_cases q:i=j
  ·subst q
   rw[O8 rfl]at e⊢;split at e
   ·rename_i hl
    cases e;rw[O8 (by rw[←ok.len];exact hl)];refine⟨_,rfl,a,rs,rfl,O8 (.inl rfl),L,nd,RowL.noL (F:=FxB B bg) (λc hc=>?_) hn I λr hr=>O8 (.inr hr)⟩;have f:(if c=a\/c∈rs then on (i+2)else B c)≠OR:=hc;by_cases w:c=a\/c∈rs
    ·rcases w with rfl|w
     ·exact .inr ⟨_,L⟩
     ·exact .inr (I.all c w).2
    ·rw[O3 w]at f
     exact .inl f
   ·cases e
  ·rw[O3 q]at e⊢
   obtain⟨w,Q,u⟩:=ok.tell j s e;refine⟨w,Q,?_⟩;cases s with
   |sh d=>exact Den.tr tr _ _ u
   |own cs=>
    obtain⟨c,ys,R,A,C,T⟩:=u;have N:¬(c=a\/c∈rs):=λz=>by rw[g c z]at C;cases C
    exact⟨c,ys,R,by simp only[O3 N];exact A,t.kp c _ C (λb l z=>⟨λy=>(by subst y;rw[(ok.bgt _ _ z).1]at A;cases A),λy=>(by subst y;rw[(ok.bgt _ _ z).2]at A;cases A)⟩),DenL.tr tr _ _ T⟩
   |grd rows2=>
    obtain⟨c,qs,R,A,C,T,e5⟩:=u;have N:∀c,H c≠OR->¬(c=a\/c∈rs):=λc hc z=>hc (g c z);have Z:∀c o,H c=on o->B c=on (j+2)->H' c=on o:=λc o Q u=>t.kp c o Q (λb l z=>⟨λy=>(by subst y;rw[(ok.bgt _ _ z).1]at u;cases u),λy=>(by subst y;rw[(ok.bgt _ _ z).2]at u;cases u)⟩);exact⟨c,qs,R,by simp only[O3 (N c (by rw[C];simp))];exact A,Z c _ C A,T,RowL.tr tr e5 λr xs _ p y=>⟨by simp only[O3 (N r (by rw[y];simp))];exact p,Z r _ y p⟩⟩
end
section
variable{X:Cx}{E:St->XK}{K:Po}{st:QF}{H₀:Hp}{B:Ow}{bg:Option (OZ×OZ)}{H H':Hp}{δ:Ds}{β β':Bg}{σ:St}
def uS(i:Nat)(f:Dn->M (List (List D))):G:=λδ β=>match f (vw δ) β with
 |some (.ok rows,β1)=>if(rows.all noLs)=OV then on (.nx (δ.set i (on (.grd rows))),β1)else OR
 |some (.error C,β1)=>on (.ex C δ,β1)
 |none=>OR
theorem IA(h:PS X st (jp (tVG X.K f E) (fj i))):PS X st (tG X.K X.H₀ (uS i f) E):=h.imp λD σ H g=>by
 obtain⟨B,bg,δ,β,o,β',ok,e,q⟩:=g;refine⟨FxB B bg,vw δ,β,ok.fr,ok.view,?_⟩;unfold uS at e;split at e
 ·rename_i rows β1 b
  split at e
  ·rename_i hn
   cases e;refine⟨.ok rows,_,b,λv H' t hd=>?_⟩;obtain⟨j,a,c⟩:=ok.newGrd (i:=i) t (λds d=>Rp.mp hn ds d) hd;exact q _ _ _ c a
  ·cases e
 ·rename_i C β1 b
  cases e;refine⟨.error C,_,b,λH' t=>?_⟩;obtain⟨a,c⟩:=ok.to rfl t;exact q _ B H' c a
 ·cases e
theorem RowL.put{H:Hp}(t:Tr F H F (upd H r (.lst xs)))(hd:DenL K F (upd H r (.lst xs)) ds xs):∀{rows:List (List D)} {rs:List OZ} (j:Nat),RowL K F H P rows rs->rs.Nodup->rs[j]?=on r->RowL K F (upd H r (.lst xs)) P (rows.set j ds) rs
 |d0::rows,r0::rs,0,h,nd,e=>by
  obtain rfl:r0=r:=by simpa using e
  have ne:∀a∈rs,a≠r0:=λa b z=>(Qj.mp nd).1 (z▸b);exact⟨h.1,⟨xs,ah,hd⟩,RowL.tr t h.2.2 λa ys b p q=>⟨p,by rw[upd_ne (ne a b)];exact q⟩⟩
 |d0::rows,r0::rs,j+1,h,nd,e=>by
  have c:rs[j]?=on r:=by simpa using e
  obtain⟨d,⟨ys,f,g⟩,i⟩:=h;have ne:r0≠r:=λz=>(Qj.mp nd).1 (z▸PD c);exact⟨d,⟨ys,by rw[upd_ne ne];exact f,DenL.tr t _ _ g⟩,RowL.put t hd j i (Qj.mp nd).2 c⟩
 |[],[],_,_,_,e=>by simp at e
 |[],_::_,_,h,_,_=>h.elim
 |_::_,[],_,h,_,_=>h.elim
theorem RowL.at{H:Hp}:∀{rows:List (List D)} {rs:List OZ} {j:Nat} {ds:List D},RowL K F H P rows rs->rows[j]?=on ds->∃r xs,rs[j]?=on r/\P r/\H r=on (.lst xs)/\DenL K F H ds xs
 |d0::rows,r0::rs,0,ds,h,e=>by
  obtain rfl:d0=ds:=by simpa using e
  obtain⟨a,⟨ys,b,c⟩,g⟩:=h;exact⟨r0,ys,rfl,a,b,c⟩
 |d0::rows,r0::rs,j+1,ds,h,e=>by
  obtain⟨r,xs,d,f⟩:=RowL.at h.2.2 (j:=j) (ds:=ds) (by simpa using e);exact⟨r,xs,by simpa using d,f⟩
 |[],[],_,_,_,e=>by simp at e
 |[],_::_,_,_,h,_=>h.elim
 |_::_,[],_,_,h,_=>h.elim
theorem SOk.writeRow{rs:List OZ}{rows:List (List D)}(ok:SOk K H₀ B bg H δ β σ)(hs:σ[i]?=on (on (.ref a)))(hB:B a=on (i+2))(ha:H a=on (.lst (rs.map V.ref)))(nd:(a::rs).Nodup)(J:RowL K (FxB B bg) H (λr=>B r=on (i+2)) rows rs)(L:rs[j]?=on r)(R:H r=on (.lst ys))(hd:DenL K (FxB B bg) H ds xs):
  SOk K H₀ B bg (upd H r (.lst xs)) (δ.set i (on (.grd (rows.set j ds)))) β σ/\Stp B H B (upd H r (.lst xs)):=by
 have t:r∈rs:=PD L;have f:B r=on (i+2):=(J.all r t).1;have m:Stp B H B (upd H r (.lst xs)):=by
  refine⟨λc o h n=>?_,λ_ _=>rfl,λ_ _ _ n=>n,λc u=>?_⟩
  ·rw[upd_ne]
   ·exact h
   ·intro z;subst z;rw[f]at n;rcases n with n|n<;>cases n
  ·by_cases z:c=r
   ·subst z;rw[ah];simp
   ·rw[upd_ne z];exact u
 have tr:Tr (FxB B bg) H (FxB B bg) (upd H r (.lst xs)):=m.tr;refine⟨⟨⟨λc u z=>?_,ok.fr.bgA,λb l e=>?_⟩,ok.bgt,by rw[Qi,ok.len],λa ha=>m.al a (ok.cov a ha),ok.new,λc k u=>(by
  by_cases z:c=r
  ·subst z;exact⟨xs,ah⟩
  ·rw[upd_ne z];exact ok.lst c k u),λk s e=>?_⟩,m⟩
 ·by_cases q:c=r
  ·subst q;rw[ah]at z;cases z
  ·rw[upd_ne q]at z;exact ok.fr.occ c u z
 ·obtain⟨b1,b2⟩:=ok.bgt b l e
  rw[upd_ne (λz=>by subst z;rw[f]at b1;cases b1),upd_ne (λz=>by subst z;rw[f]at b2;cases b2)];exact ok.fr.bag b l e
 ·rw[Qq]at e
  by_cases q:i=k
  ·subst q
   rw[O8 rfl]at e;split at e
   ·cases e
    have w:a≠r:=λz=>(Qj.mp nd).1 (z▸t);exact⟨_,hs,a,rs,rfl,hB,by rw[upd_ne w];exact ha,nd,RowL.put tr (DenL.tr tr _ _ hd) j J (Qj.mp nd).2 L⟩
   ·cases e
  ·rw[O3 q]at e
   obtain⟨v,O,y⟩:=ok.tell k s e;refine⟨v,O,?_⟩;have A:∀c,B c=on (k+2)->c≠r:=λc g z=>by subst z;rw[f]at g;cases g;exact q rfl
   cases s with
   |sh d=>exact Den.tr tr _ _ y
   |own cs=>
    obtain⟨c,N,C,g,F,I⟩:=y;exact⟨c,N,C,g,by rw[upd_ne (A c g)];exact F,DenL.tr tr _ _ I⟩
   |grd rows2=>
    obtain⟨c,P,C,g,F,I,Q⟩:=y;exact⟨c,P,C,g,by rw[upd_ne (A c g)];exact F,I,RowL.tr tr Q λr N _ p q=>⟨p,by rw[upd_ne (A r p)];exact q⟩⟩
def lR(f:Dn->M (List (List D))):G:=λδ β=>match f (vw δ) β with
 |some (.ok rows,β1)=>on (.rg rows,β1)
 |some (.error C,β1)=>on (.ex C δ,β1)
 |none=>OR
theorem JY(h:PS X (.Return (on e) pos) (CD (tVG X.K f E))):PS X (.Return (on e) pos) (tG X.K X.H₀ (lR f) E):=h.imp λD σ H j=>by
 obtain⟨B,bg,δ,β,o,β',ok,e,q⟩:=j;refine⟨FxB B bg,vw δ,β,ok.fr,ok.view,?_⟩;unfold lR at e;split at e
 ·rename_i rows β1 d
  cases e;refine⟨.ok rows,_,d,λv H' t hd=>?_⟩;obtain⟨b,g⟩:=ok.to rfl t;have i:∀c,H c=OR->X.H₀ c=OR:=λc k=>by
   cases w:X.H₀ c with
   |none=>rfl
   |some o=>exact PF k (ok.cov c (by rw[w];simp))
  obtain⟨a,rs,rfl,l,m,nd,n⟩:=hd;exact q _ B H' g b.fr ⟨a,rs,rfl,i a l,m,nd,RowL.tr (Tr.refl _ _) n λr xs _ p y=>⟨i r p,y⟩⟩
 ·rename_i C β1 d
  cases e;refine⟨.error C,_,d,λH' t=>?_⟩;obtain⟨b,g⟩:=ok.to rfl t;exact q _ B H' g b
 ·cases e
end
def spG(K:Po)(n:Nat)(m:List D->M (List (List D))):Sp:=λvs H Q E=>vs.length=n/\∃F ds β,Fr F H β/\DenL K F H ds vs/\run (gM K F H) F (λ_=>E) [] (m ds) H Q β
def mZ(n:Nat)(g:G):List D->M (List (List D)):=λds β=>match g (stD n ds) β with
 |some (.rg rows,β')=>on (.ok rows,β')
 |some (.ex C _,β')=>on (.error C,β')
 |_=>OR
section
variable{P:Pt}{w:PV}{K:Po}{mg:PY->Option OX}{base:P7}
theorem KO{st:QF}{N ps:List PY}(n m:Nat)(g:G)(F:FunD K x qual st f fd)(S:FnScope N ps (af st))(R:ps.length=n)(T:N.length=m)
  (I:∀(i:OX) (A:Qn) (outer:List Wc) (s:O7) (H:Hp) (E:XK),Room k (A.deeper (TM qual (af st) s.heap.objs.size f i))->
   PSs (dy (CXE P w) P w K mg base N qual (af st) f i A outer s H E) (cw st) (tG K H g (λ_=>E))):FnOk P w K mg base (CXE P w) (k+1) f fd ps (spG K n (mZ m g)):=by
 subst R T;refine F.okE S (λvs H Q E h=>h.1) λi A outer s H vs Q E hr h=>?_;obtain⟨hl,J,ds,β,fr,hd,r,j,e,h⟩:=h;refine⟨_,I i A outer s H E hr,?_⟩;obtain⟨B,ok,U,h1,hn⟩:=tM (N:=N) fr hd;have O:∀{L:Ow} {c:Hp},Stp B H L c->Fr (FxB L J.bg) c j->To J H c j/\Tr (FxB L J.bg) c J c:=λ{L c} s u=>by
  have hs:∀a,J.A a->L a≠OR:=λa ha=>by
   rw[s.tg a (U a ha)];rcases U a ha with z|z<;>rw[z]<;>simp
  refine⟨⟨λa o ha n=>s.kp a o ha ?_,λa ha=>u.occ a (hs a ha),λb l e=>fr.bgA b l e,u.bag⟩,λa ha _ z=>ha (hs a z),λ_ _ _ h=>h,rfl⟩;cases q:B a with
  |none=>exact .inl rfl
  |some t=>
   have:=U a (hn a (by rw[q];simp));rcases this with z|z
   ·rw[q]at z;exact .inr z
   ·obtain⟨b,l,e,w⟩:=h1 a z
    obtain⟨W,n2⟩:=n b l e;rcases w with w|w
    ·exact PF w W
    ·exact PF w n2
 unfold mZ at e;split at e
 ·rename_i d β1 X
  cases e;refine⟨B,J.bg,stD N.length ds,β,.rg d,j,ok,X,λv L c s u hv=>?_⟩;obtain⟨Y,t2⟩:=O s u;obtain⟨a,rs,ev,n0,W,nd,rl⟩:=hv;exact h v c Y ⟨a,rs,ev,n0,W,nd,RowL.tr t2 rl λr xs _ p y=>⟨p,y⟩⟩
 ·rename_i C Z β1 X
  cases e;refine⟨B,J.bg,stD N.length ds,β,.ex C Z,j,ok,X,λσ' L c s ok'=>?_⟩;obtain⟨Y,t2⟩:=O s ok'.fr;exact h c Y
 ·cases e
end
section
variable{X:Cx}{E:St->XK}{e:Expr}{es:List Expr}{pos p:Tz}{x:PY}{k n:Nat}{f:OZ}{fd:PL}{ps:List PY}
def u3(m:List D->M (List (List D)))(g:FL):Dn->M (List (List D)):=λδ=>M.bind (g δ) λas=>m as
theorem gM.pre{K:Po}(t:To F H H1 β1)(h:gM K F H1 H' rows v):gM K F H H' rows v:=by
 obtain⟨a,rs,b,c,d,nd,g⟩:=h;exact⟨a,rs,b,t.none c,d,nd,RowL.tr (Tr.refl _ _) g λr xs _ p y=>⟨t.none p,y⟩⟩
theorem MB(G:FnOk X.prog X.w X.K X.mg X.base (CXE X.prog X.w) k f fd ps (spG X.K n m))(u:Room k X.A)(y:Gl X x)(hm:X.mg x=on (.ref f))(B:UQ X.K (.ref f)=OV)(I:aA X.K fd ps [])(J:bz (CXE X.prog X.w) X E)
  (ha:PA X (e::es) (tVA X.K g E)) (hn:∀δ β r c,g δ β=on (.ok r,c)->r.length=n) (a:(x==("__debug__":PY))=OW:=by decide) (L:Pb (e::es) X.env=(OW,Qo e X.env)::Pb es X.env:=by rfl) (b:(Q5 pos (Pb es X.env)).any (·.1)=OW:=by rfl):
  PE X (.Call (.Name x p) (e::es) [] pos) (tVG X.K (u3 m g) E):=
 (mx G u y hm B I .nil J ha a L b).imp λσ H Q N=>ex6 N λF δ β fr O r=>⟨F,δ,β,fr,O,by
  obtain⟨r0,d,i,j⟩:=run.bind (R:=DenL X.K F) r;refine⟨r0,d,i,?_⟩;cases r0 with
  |error C=>exact j
  |ok ds=>
   intro vs P t hd;obtain⟨d',β1,l,h,r1⟩:=j vs P t hd;have T:=hn _ _ _ _ i;refine⟨by rw[PN,←hd.length,T],F,d',β1,l.fr,by rw[PN];exact h,?_⟩;obtain⟨o,β2,U,q⟩:=r1;refine⟨o,β2,U,?_⟩;cases o with
   |ok rows=>exact λv W Y Z=>q v W Y (gM.pre l Z)
   |error C=>exact q⟩
end
section
variable{X:Cx}{E:St->XK}{K:Po}{elt target iter:Expr}{ifs:List Expr}{rest:List Q1}{scope:Scope}{pos:Tz}{Nc vars:List PY}{caps:List Nat}{g:TG}{tb:OZ->TB}
theorem Lp{a c:Tz}(j:X.N.Nodup)(d:X.N[i]?=on x)(k:Loc X.env.scope x)(l:X.calm=OV)(S:CmpScope X scope Nc vars caps)(m:PI X target iter (iV X.K it E))
  (n:∀(cl:List (PY×OZ)) (C:OZ) (f:List OZ) (s:O7) (H:Hp),PG (aC X Nc scope cl C f s H) target g/\dG (aC X Nc scope cl C f s H) ifs (tVT X.K tt E0)/\∀D,PB (aC X Nc scope cl C f s H) elt (⟨target,iter,ifs,0⟩::rest) scope pos 0 D (tb D))
  (o:cz X.K g tg) (p:dE tg) (q:∀D,qb X.K D (tb D) b)
  (e:Tw (.ListComp elt (⟨target,iter,ifs,0⟩::rest) scope pos) (on (.Name x a)) c.line X.env=Ro OV:=by rfl)
  (hs:∀x,Qf iter X.env x=Ro x:=by intro _;rfl) (r:X.fn x=OV\/X.env.scope.names.lookup x=on .local:=by first|exact .inl rfl|exact .inr rfl|assumption):
  PS X (.Assign [.Name x a] (.ListComp elt (⟨target,iter,ifs,0⟩::rest) scope pos) c) (tG X.K X.H₀ (uS i (iS vars.length caps it tg tt b)) E):=
 IA ((v7 j d k l S m n e hs r).imp λD t H h=>q9 o p q h)
end
end L2.Pu
namespace L2
open PySem PySem.Spec PyProof.Rows
section
variable{X:Cx}
theorem FF{bs:List Bool}{its:List OX}(r:ao (bs.map V.bl) its){i:Nat}{v:OX}(h:its.toArray[i]?=on v):v= .bool (bs.getD i OW):=by
 have h':its[i]?=on v:=by simpa using h
 have a:=r.length;rw[OS]at a;have b:i<bs.length:=by rw[a];exact(Pc.mp h').1
 obtain⟨u,c,d⟩:=r.get (i:=i) (x:=V.bl bs[i]) (by rw[O4,O0 b];rfl);rw[h']at c;cases c;rw[O1,O0 b];exact d
theorem zi{α:Type}(f:Bool->Bool)(bs:List Bool):(O6 bs.length).map (λi=>bs.getD i OW)=bs:=by
 apply YN;intro i;rw[O4];by_cases h:i<bs.length
 ·rw[Qz h,O0 h]
  simp[O1,O0 h]
 ·rw[Tx (by simpa using h),Tx (by omega)];rfl
theorem zj(bs:List Bool):((O6 bs.length).any λi=>bs.getD i OW)=bs.any id:=by
 conv=>rhs;rw[←zi (α:=Bool) id bs]
 rw[List.any_map];rfl
theorem lZ(l:X.calm=OV):cX X (.builtin "any") (λxs H Q=>∃(a:OZ) (bs:List Bool),xs=[.ref a]/\SqL X.K H a (bs.map V.bl)/\Q (.bl (bs.any id)) H):=by
 intro j s B H xs us Q I r h;obtain⟨a,bs,rfl,m,q⟩:=h;cases r with
 |cons r1 n=>
  cases r1;cases n;obtain⟨its,k,p,C⟩:=I.list m;have f:=p.isList;have c:its.toArray.size=bs.length:=by rw[Ps,←k.length,OS]
  have d:∀b o,s.heap.get? b=on o->b≠s.heap.objs.size:=λb o e z=>by
   rw[z,XG (O9 _)]at e;cases e
  have g:a≠s.heap.objs.size:=by
   obtain⟨o,e,_⟩:=f;exact d a o e
  have W:=Walks.list (prog:=X.prog) (w:=X.w) (A:=X.A.in1) (show X.A.in1.handled=OR from I.ok.hd l) s.heap.objs.size a g its.toArray;refine call_any_walk (U7 f ⟨s.heap.objs.size,[s.heap.objs.size,a],[s.heap.objs.size],its.toArray.size,_,_,λi=>bs.getD i OW,rfl,W,⟨⟨_,Pl s.heap rfl,rfl,rfl⟩,f.push _⟩,λi v s' F J t u=>?_,λh' L y=>?_⟩)
  ·rw[FF k t]
   exact QP u
  ·rw[c,zj]
   exact⟨.bl (bs.any id),H,I.kept λb o e=>y b o (λz=>d b o e (by simpa using z)) (OU _ e),rfl,q⟩
end
end L2
namespace L2.Pu
open PySem PySem.Spec PyProof.Rows
noncomputable def dS:List D->Option (List Bool)
 |[]=>on []
 | .bl b::r=>(dS r).map (b::·)
 |_=>OR
theorem nz{K:Po}:∀{ds:List D} {xs:List V} {bs:List Bool},dS ds=on bs->DenL K F H ds xs->xs=bs.map V.bl
 |[],xs,bs,e,h=>by
  cases e;cases h;rfl
 |d::ds,xs,bs,e,h=>by
  obtain⟨x,f,rfl,a,c⟩:=h;cases d<;>first
   |(rename_i b
     cases q:dS ds with
     |none=>simp[dS,q]at e
     |some r=>
     simp[dS,q]at e;subst e;cases a.bl;rw[nz q c];rfl)
   |simp[dS]at e
def yr:List D->Option D
 |[.lst ds]=>(dS ds).map λbs=> .bl (bs.any id)
 |_=>OR
variable{K:Po}
theorem xR:dO K (λxs H Q=>∃(a:OZ) (bs:List Bool),xs=[.ref a]/\SqL K H a (bs.map V.bl)/\Q (.bl (bs.any id)) H) yr:=λF H β Q ds d vs fr h e k=>by
 unfold yr at e;split at e
 ·obtain⟨v,rfl,g⟩:=DenL.one h
  obtain⟨a,xs,rfl,r,b⟩:=Den.sqL g;obtain⟨bs,q,e⟩:=UV.mp e;subst e;rw[nz q b]at r;exact⟨a,bs,rfl,r,k _ H (To.refl fr) rfl⟩
 ·cases e
end L2.Pu
namespace L2
open PySem PySem.Spec PyProof.Rows
section
variable{X:Cx}{a b c d:Expr}{ta tb tc td:TE}{pos:Tz}
def N0(i e:R2)(tc td:TE)(y:V):TE:=λf H Q=>tc f H λw j=>i y w j λk g=>∃h,k= .bl h/\(if h=OV then td f g λl m=>e w l m Q else Q (.bl OW) g)
def vM(r h e:R2)(ta tb tc td:TE):TE:=λf H Q=>ta f H λx i=>tb f i λy j=>r x y j λz g=>∃k,z= .bl k/\(if k=OV then N0 h e tc td y f g Q else Q (.bl OW) g)
theorem zm(F:OpR X (QC op) r)(l:OpR X (QC op') r')(i:OpR X (QC op'') r'')(ha:PE X a ta)(J:PE X b tb)(L:PE X c tc)(hd:PE X d td)
  (hm:YH [op,op',op''] [b,c,d]=OW:=by with_unfolding_all rfl):PT X (.Compare a [op,op',op''] [b,c,d] pos) (xg (vM r r' r'' ta tb tc td)):=by
 intro f s g H Q I h;refine isTrue_chain (thn (ha f s g H _ I h) λv N ⟨x,O,P,r1,q1⟩=>test_link (thn (J f N g O _ P q1) λu R ⟨y,T,U,o,q2⟩=>
  thn (F f R g T x y v u _ U r1 o q2) λdd W ⟨z,p,q,r3,k,e,q3⟩=>?_)) hm
 subst e;cases r3;refine QP ?_;cases k with
 |false=>
  obtain⟨m,j,n⟩:=q3;cases j;exact ite_ff ⟨p,q,n⟩
 |true=>
  refine ite_tt (test_link (thn (L f W g p _ q q3) λt Y ⟨w,Z,I4,A,q4⟩=>thn (l f Y g Z y w u t _ I4 o A q4) λdd s5 ⟨z',B,C,r5,m,j,q5⟩=>?_));subst j;cases r5;refine QP ?_;cases m with
  |false=>
   obtain⟨m,j,n⟩:=q5;cases j;exact ite_ff ⟨B,C,n⟩
  |true=>
   refine ite_tt (test_last (thn (hd f s5 g B _ C q5) λw' s6 ⟨z2,H6,I6,r6,q6⟩=>thn (i f s6 g H6 w z2 t w' _ I6 A r6 q6) λd' s7 ⟨z3,H7,I7,r7,k3,e3,q7⟩=>?_));subst e3;cases r7;exact QP ⟨H7,I7,q7⟩
end
end L2
namespace L2.Pu
open PySem PySem.Spec PyProof.Rows
section
variable{X:Cx}{E:St->XK}{a b c d:Expr}{pos:Tz}{K:Po}
def IY(f e:D->D->Option D)(h i:FD)(y:D):FD:=λδ=>M.bind (h δ) λw=>M.bind (M.ofO (f y w)) λz=>M.bind (M.ofO (asB z)) λc=>if c=OV then M.bind (i δ) (λg=>M.ofO (e w g))else M.ret (.bl OW)
def mQ(o j e:D->D->Option D)(f g h i:FD):FD:=λδ=>M.bind (f δ) λa=>M.bind (g δ) λb=>M.bind (M.ofO (o a b)) λz=>M.bind (M.ofO (asB z)) λc=>if c=OV then IY j e h i b δ else M.ret (.bl OW)
theorem run.later{α i:Type}{R:Hp->α->i->Prop}{F:Fx}{j:St}{m:M α}{H k:Hp}{Q:i->Hp->Prop}{β:Bg}(t:To F H k β)(h:run R F E j m H Q β):run R F E j m k Q β:=by
 obtain⟨l,f,e,q⟩:=h;refine⟨l,f,e,?_⟩;cases l with
 |ok d=>exact λv g tt=>q v g (t.trans tt)
 |error C=>exact λg tt=>q g (t.trans tt)
theorem xj(l:aV K r o)(l':aV K r' o')(O:aV K r'' o'')(P:tV K (mQ o o' o'' f g h i) E σ H Q):vM r r' r'' (tV K f E) (tV K g E) (tV K h E) (tV K i E) σ H Q:=by
 obtain⟨F,δ,β,fr,T,P⟩:=P;refine⟨F,δ,β,fr,T,(run.bind (R:=Den K F) P).mono λv H1 n=>ex5 n λd β1 t hd r1=>⟨F,δ,β1,t.fr,T.tr (t.tr fr),(run.bind (R:=Den K F) r1).mono λv2 H2 n=>ex5 n λd2 β2 p u r2=>?_⟩⟩;obtain⟨z,ez,r3⟩:=run.ofO_bind r2;obtain⟨c,ec,L⟩:=run.ofO_bind r3;rw[iU ec]at ez;have U:=T.tr ((t.tr fr).trans (p.tr t.fr));refine l F H2 β2 _ d d2 _ v v2 p.fr (Den.tr (p.tr t.fr) _ _ hd) u ez λvz H3 j hz=>⟨c,hz,?_⟩;cases c with
 |true=>
  rw[O8 rfl]at L;have W:=Den.tr (j.tr p.fr) _ _ u;have y:=U.tr (j.tr p.fr);have r5:=run.later j L;refine⟨F,δ,β2,j.fr,y,(run.bind (R:=Den K F) r5).mono λw H4 n=>ex5 n λdw A B C r6=>?_⟩;obtain⟨z',I,r7⟩:=run.ofO_bind r6;obtain⟨c',Y,N⟩:=run.ofO_bind r7;rw[iU Y]at I;refine l' F H4 A _ d2 dw _ v2 w B.fr (Den.tr (B.tr j.fr) _ _ W) C I λvz' H5 m Z=>⟨c',Z,?_⟩;cases c' with
  |true=>
   rw[O8 rfl]at N;refine⟨F,δ,A,m.fr,y.tr ((B.tr j.fr).trans (m.tr B.fr)),(run.bind (R:=Den K F) (run.later m N)).mono λw' H6 ⟨dw',β6,t6,J,r9⟩=>?_⟩;obtain⟨d3,e3,k⟩:=run.ofO r9;exact O F H6 β6 Q dw dw' d3 w w' t6.fr (Den.tr ((m.tr B.fr).trans (t6.tr m.fr)) _ _ C) J e3 k
  |false=>
   rw[O3 Pa]at N;obtain⟨rr,β',e,q⟩:=N;cases e;exact q _ H5 m rfl
 |false=>
  rw[O3 Pa]at L;obtain⟨rr,β',e,q⟩:=L;cases e;exact q _ H3 j rfl
theorem CC(m:OpR X (QC op) r)(j:OpR X (QC op') r')(e:OpR X (QC op'') r'')(l:aV X.K r o)(n:aV X.K r' o')(k:aV X.K r'' o'')(ha:PE X a (tV X.K f E))(p:PE X b (tV X.K g E))(t:PE X c (tV X.K h E))(hd:PE X d (tV X.K i E))(hm:YH [op,op',op''] [b,c,d]=OW:=by with_unfolding_all rfl):
  PT X (.Compare a [op,op',op''] [b,c,d] pos) (tVT X.K (fB (mQ o o' o'' f g h i)) E):=(zm m j e ha p t hd hm).imp λu H Q q=>xj l n k (nB q)
end
section
variable{X:Cx}{E:St->XK}{K:Po}{st:QF}{H₀:Hp}{B:Ow}{bg:Option (OZ×OZ)}{H H':Hp}{δ:Ds}{β β':Bg}{σ:St}
end
section
variable{X:Cx}{E:St->XK}{K:Po}{st:QF}{H₀:Hp}{B:Ow}{bg:Option (OZ×OZ)}{H H':Hp}{δ:Ds}{β β':Bg}{σ:St}
theorem SOk.AtoB(ok:SOk K H₀ B bg H δ β σ):∀c,(FxB B bg).A c->(FxA B bg).A c\/∃xs,H c=on (.lst xs):=λc b=>by
 have a:B c≠OR:=b;cases q:B c with
 |none=>exact PF q a
 |some k=>
  match k,q with
  |0,q=>exact .inl (.inl q)
  |1,q=>exact .inl (.inr q)
  |k+2,q=>exact .inr (ok.lst c k q)
theorem SOk.noB(ok:SOk K H₀ B bg H δ β σ)(hn:noL d=OV)(h:Den K (FxA B bg) H d v):Den K (FxB B bg) H d v:=wj ok.AtoB d v hn h
def pO(i:Nat)(a b c:FD):G:=λδ β=>match c (vwA δ) β with
 |some (.ok d,β1)=>match a (vwA δ) β1 with
  |some (.ok (.int ka),β2)=>match b (vwA δ) β2 with
   |some (.ok (.int kb),β3)=>match δ.getD i OR with
    |some (.grd rows)=>match ixN rows.length ka with
     |some ja=>match rows[ja]? with
      |some ds=>match ixN ds.length kb with
       |some jb=>if noL d=OV then on (.nx (δ.set i (on (.grd (rows.set ja (ds.set jb d))))),β3)else OR
       |none=>OR
      |none=>OR
     |none=>OR
    |_=>OR
   |_=>OR
  |_=>OR
 |_=>OR
theorem ud(h:PS X st (jp (tV X.K fv E) (MC (tOp (xw X.K) (ql i) (tV X.K fa E)) (tV X.K fb E) IF))):PS X st (tG X.K X.H₀ (pO i fa fb fv) E):=h.imp λD σ H h_=>by
 obtain⟨B,bg,δ,β,o,β',ok,e,q⟩:=h_;refine⟨FxA B bg,vwA δ,β,ok.frA,ok.viewA,?_⟩;unfold pO at e;split at e
 ·rename_i d β1 e1
  refine⟨.ok d,_,e1,λv H1 t1 hd=>?_⟩;obtain⟨c,s1⟩:=ok.to rfl t1;split at e
  ·rename_i ka β2 e2
   split at e
   ·rename_i kb β3 e3
    split at e
    ·rename_i rows N
     split at e
     ·rename_i ja ea
      split at e
      ·rename_i ds Z
       split at e
       ·rename_i jb eb
        split at e
        ·rename_i O
         cases e;have hd:=c.noB O hd;obtain⟨w,L,a,rs,rfl,hB,ha,nd,rl⟩:=c.tell i _ (getD_some N);refine⟨_,L,FxA B bg,vwA δ,β1,c.frA,c.viewA,.ok (.int ka),β2,e2,λy H2 t2 hy=>?_⟩;cases hy;obtain⟨g,s2⟩:=c.to (F:=FxA B bg) rfl t2;obtain⟨w2,h2,a2,f,ew,j,k,nd2,m⟩:=g.tell i _ (getD_some N);rw[L]at h2;cases h2;cases ew;obtain⟨r,xs,P,hp,hx,dl⟩:=m.at Z;refine⟨a,f.map V.ref,ka,.ref r,rfl,rfl,SqL.of k,?_,?_⟩
         ·unfold atI
          rw[OS,←m.len,ea];show(f.map V.ref)[ja]?=_;rw[O4,P];rfl
         ·refine⟨FxA B bg,vwA δ,β2,g.frA,g.viewA,.ok (.int kb),_,e3,λz H3 t3 hz=>?_⟩
          cases hz;obtain⟨n,s3⟩:=g.to (F:=FxA B bg) rfl t3;obtain⟨w3,h3,a3,p,Q,R,t,T,u⟩:=n.tell i _ (getD_some N);rw[L]at h3;cases h3;cases Q;have U:f=p:=by
           have k1:H3 a=on (.lst (f.map V.ref)):=t3.kp a _ k (λb l y=>⟨λw=>(by subst w;rw[(ok.bgt _ _ y).1]at j;cases j),λw=>(by subst w;rw[(ok.bgt _ _ y).2]at j;cases j)⟩);rw[t]at k1;have k2:p.map V.ref=f.map V.ref:=by injection k1 with k1;injection k1
           exact(VF (λa b q=>by cases q;rfl)|>.mp k2).symm
          subst U;obtain⟨r',A,C,hp',I,J⟩:=u.at Z;rw[P]at C;cases C;have W:Den X.K (FxB B bg) H3 d v:=Den.tr (s3.tr) _ _ (Den.tr (s2.tr) _ _ hd);refine⟨r,A,kb,jb,rfl,rfl,I,by rw[←J.length];exact eb,?_⟩;obtain⟨Y,s4⟩:=n.writeRow (ds:=ds.set jb d) (xs:=A.set jb v) L R t T u P I (DenL.set jb J W);exact q _ _ _ (s1.trans (s2.trans (s3.trans s4))) Y
        ·cases e
       ·cases e
      ·cases e
     ·cases e
    ·cases e
   ·cases e
  ·cases e
 ·cases e
end
section
variable{X:Cx}{E:St->XK}{K:Po}{a b e:Expr}{es:List Expr}{pos:Tz}
def o2(op:D->D->Option (List D))(f g:FD):FL:=λδ=>M.bind (f δ) λa=>M.bind (g δ) λb=>M.ofO (op a b)
end
noncomputable def Ite(K:Po)(l:OZ):It:=
 ⟨λi H=>∃xs x,SqL K H l xs/\xs[i]?=on x,
  λi H v a=>∃p x,H p=OR/\v= .ref p/\a=upd H p (.tup [.int (i:Int),x])/\∀xs,SqL K H l xs->xs[i]?=on x,
  λi H=>∃xs,SqL K H l xs/\xs.length=i⟩
theorem yI{K:Po}{x1}(l e it:OZ)(p:e≠it):
  Turn P w K (.Tuple elts x1 pos) (Ite K l) [e,it] e (λi h=>(∃a,IsEnum h e it (i:Int) a)/\h.IsListIter it l i) where
 mem:=by simp
 obj:=λi h st b f=>by
  obtain⟨⟨a,g⟩,j⟩:=st;simp only[Pq,QI,Tv]at f;rcases f with rfl|rfl
  ·exact⟨_,g,λv q=>by cases q⟩
  ·obtain⟨o,q,_,d⟩:=j
   exact⟨o,q,λv z=>by rw[d]at z;cases z⟩
 keep:=λi h h' st k=>by
  obtain⟨⟨a,g⟩,j⟩:=st;exact⟨⟨a,k e (by simp) _ g⟩,j.at λo q=>k it (by simp) o q⟩
 item:=by
  intro X C F J L i m s U H E I r st N;subst C F J;obtain⟨xs,x,q1,O⟩:=N;obtain⟨⟨a,g⟩,j⟩:=st;obtain⟨c,r1,Q⟩:=Inv.src (b:=OV) I q1;have hd:=I.ok.hd L;have ne:l≠e:=Inv.src_ne (b:=OV) I q1 (r e (by simp));have R:l≠it:=Inv.src_ne (b:=OV) I q1 (r it (by simp));have k1:i<c.toArray.size:=by
   rw[Ps,←r1.length];exact(Pc.mp O).1
  refine wpAny_pyNext_enum_itemD (XV (show(X.A.in1).handled=OR from hd) it l R c.toArray) g ⟨j,Q⟩ k1 p (by simp[p,ne.symm]) λu h' T Y Z f1 fT sz kp=>?_;refine⟨_,rfl,wpAny_letOwnedTupleGo_enum (s:={s with heap:=h',toks:=T+1}) Z λt y B=>?_⟩
  replace B:PX e h' t:=B
  have zT:s.heap.objs.size≠e:=RK (Pz g);obtain⟨u',W,ru⟩:=r1.get O;have eu:u=u':=by
   have:c[i]?=on u:=by simpa using Y
   rw[this]at W;exact PR W
  subst eu;have kk:∀b o,b∉[e,it]->s.heap.get? b=on o->t.get? b=on o:=λb o f q=>by
   simp only[Pq,QI,Tv,not_or]at f;exact B.extBut b o f.1 (kp b o f.1 f.2 q)
  have I2:Inv X m U (upd H s.heap.objs.size (.tup [.int (i:Int),x])) {s with heap:=t,toks:=T+1}:=by
   refine Inv.turnNew I r kk (O9 _) ⟨by show 2<=Pe;decide,[.int i T,u],.cons ⟨_,rfl⟩ (.cons ru .nil),_,B.extBut _ _ zT fT,rfl,_,rfl⟩
  refine⟨.ref s.heap.objs.size,_,I2,rfl,⟨s.heap.objs.size,x,I.hok.fresh (O9 _),rfl,rfl,λas h1=>by rw[Inv.src_inj (b:=OV) I h1 q1];exact O⟩,⟨⟨_,by simpa using y⟩,?_⟩,λb f=>?_⟩
  ·exact f1.1.at λo q=>B.extBut _ _ p.symm q
  ·rw[upd_ne]
   ·exact(r b f).1
   ·intro q
    have ol:∃o,s.heap.get? b=on o:=by
     simp only[Pq,QI,Tv]at f;rcases f with rfl|rfl
     ·exact⟨_,g⟩
     ·obtain⟨o,z,_⟩:=j;exact⟨o,z⟩
    obtain⟨o,z⟩:=ol;exact PF (Pz z) (by rw[q];exact Qk _)
 done:=by
  intro X C F J L i m s U H E I r st N;subst C F J;obtain⟨xs,q1,hl⟩:=N;obtain⟨⟨a,g⟩,j⟩:=st;obtain⟨c,r1,Q⟩:=Inv.src (b:=OV) I q1;have hd:=I.ok.hd L;have R:l≠it:=Inv.src_ne (b:=OV) I q1 (r it (by simp));have g1:c.toArray.size=i:=by rw[Ps,←r1.length,hl]
  refine wpAny_pyNext_enum_endD (n:=c.toArray.size) (XV (show(X.A.in1).handled=OR from hd) it l R c.toArray) g (by rw[g1];exact⟨j,Q⟩) λh' kp=>⟨rfl,?_⟩;refine Inv.turnL (t':=s.toks) I r λb o f q=>?_;simp only[Pq,QI,Tv,not_or]at f;exact kp b o f.2 q
 self:=λ_ _ _ _ _ st h=>by
  obtain⟨⟨a,g⟩,j⟩:=st;exact wpAny_pyIter_enum g h
section
variable{X:Cx}{E:St->XK}{K:Po}
def iEn(K:Po)(b:TA):TI:=λc H R=>b c H λvs a=>∃l xs,vs=[.ref l]/\SqL K a l xs/\R (Ite K l) a
theorem J9{x1}(o:Gl X "enumerate")(hm:X.mg "enumerate"=OR)(ha:PA X [a] ta)(hs:Pb [a] X.env=[(OW,Qo a X.env)]:=by rfl):
  PI X (.Tuple elts x1 tpos) (.Call (.Name "enumerate" p) [a] [] pos) (iEn X.K ta):=by
 intro d s j H R I h;refine Call_ (eW I o hm PyProof.Rows.Boot.«enumerate» (QR (thn (ha pos d s j H _ I h) λus f ⟨vs,k,i,r1,q1⟩=>?_) (by rw[hs];rfl) (by rfl)));obtain⟨l,xs,e,q1,q⟩:=q1;subst e;cases r1 with
 |cons r t=>
  cases t;cases r;obtain⟨u,A,v⟩:=Inv.src (b:=OV) i q1;refine call_enumerate_list v λh' m w sz kp=>?_;refine wpAny_pyIter_enum (s:={f with heap:=h'}) m ?_;have y:Inv X d j k {f with heap:=h'}:=i.kept (t':=f.toks) kp;refine⟨_,[f.heap.objs.size+1,f.heap.objs.size],_,Ite X.K l,k,rfl,y,yI l (f.heap.objs.size+1) f.heap.objs.size (Nat.succ_ne_self _),⟨⟨_,m⟩,w⟩,λc n=>?_,q⟩;have g:f.heap.objs.size<=c:=by
   simp only[Pq,QI,Tv]at n;rcases n with rfl|rfl
   ·exact SQ _ _
   ·exact O9 _
  exact i.fpOk g (i.hok.fresh g)
noncomputable def cK:Nat->List D->List D
 |_,[]=>[]
 |n,x::xs=> .tup [.int (n:Int),x]::cK (n+1) xs
theorem lT:∀(n:Nat) (xs:List D),(cK n xs).length=xs.length
 |_,[]=>rfl
 |n,x::xs=>by
  show(cK (n+1) xs).length+1=xs.length+1;rw[lT (n+1) xs]
theorem lU:∀{n:Nat} {xs:List D} {i:Nat} {d:D},(cK n xs)[i]?=on d->∃x,xs[i]?=on x/\d= .tup [.int ((n+i:Nat):Int),x]
 |n,[],i,d,h=>by simp[cK]at h
 |n,x::xs,0,d,h=>by
  simp[cK]at h;exact⟨x,rfl,by rw[←h];simp⟩
 |n,x::xs,i+1,d,h=>by
  have h':(cK (n+1) xs)[i]?=on d:=by simpa[cK]using h
  obtain⟨a,b,c⟩:=lU h';exact⟨a,by simpa using b,by rw[c,show n+1+i=n+(i+1) by omega]⟩
def IZ:List D->Option (List D)
 |[.lst xs]=>on (cK 0 xs)
 |_=>OR
theorem EI(j:∀b a,Tr F H b a->∃xs,SqL K a l xs/\DenL K b a ds xs):ItD K (Ite K l) F H (cK 0 ds):=λb a β2 t fr i=>by
 obtain⟨xs,c,d1⟩:=j b a t;refine⟨λd hd=>?_,λe=>?_⟩
 ·obtain⟨x,k,rfl⟩:=lU hd
  obtain⟨u,f,du⟩:=d1.get k;refine⟨⟨xs,u,c,f⟩,λz o m=>?_⟩;obtain⟨p,q,g,rfl,rfl,n⟩:=m;have h:=n xs c;rw[f]at h;cases h;rw[Rz];exact⟨bE.upd g,Den.newT fr g (DenL.cons rfl (DenL.cons du DenL.nil))⟩
 ·rw[lT]at e
  exact⟨xs,c,by rw[←d1.length,e]⟩
def IL(g:FL):FL:=bj IZ g
theorem lP{x1}(m:Gl X "enumerate")(hm:X.mg "enumerate"=OR)(ha:PA X [a] (tVA X.K g E))(hs:Pb [a] X.env=[(OW,Qo a X.env)]:=by rfl):
  PI X (.Tuple elts x1 tpos) (.Call (.Name "enumerate" p) [a] [] pos) (iV X.K (IL g) E):=
 (J9 m hm ha hs).imp λw H R d=>ex6 d λF δ β fr n h=>⟨F,δ,β,fr,n,(run.bind (R:=DenL X.K F) h).mono λvs b d=>by
  obtain⟨ds,β1,t,hd,r1⟩:=d;obtain⟨l,e,k⟩:=run.ofO r1;unfold IZ at e;split at e
  ·rename_i xs
   cases e;obtain⟨v,rfl,j⟩:=DenL.one hd;have z:∃a,v= .ref a/\∀f c,Tr F b f c->∃ys,SqL X.K c a ys/\DenL X.K f c xs ys:=by
    obtain⟨a,ys,rfl,_⟩:=Den.sqL j;refine⟨a,rfl,λf c o=>?_⟩;obtain⟨y,i,q,sq,r⟩:=Den.sqL (Den.tr o _ _ j);cases q;exact⟨i,sq,r⟩
   obtain⟨a,rfl,z⟩:=z;obtain⟨us,u,_⟩:=z F b (Tr.refl F b);exact⟨a,us,rfl,u,k _ b (To.refl t.fr) (EI z)⟩
  ·cases e⟩
end
def fq(K:Po)(b:PL)(ps:List PY)(dd:List D):Prop:=∃ds a,aA K b ps ds/\ao a ds/\∀F H,DenL K F H dd a
inductive Sr (α:Type) where
 |kw (j:Nat)|df (a:α)
noncomputable def Sr.pick{α:Type}(z:α)(b:List α):Sr α->α
 | .kw j=>b.getD j z
 | .df a=>a
def gK{α:Type}(z:α)(n k:Nat)(src:List (Sr α))(us a:List α):List α:=if us.length=n/\a.length=k then us++src.map (Sr.pick z a)else[]
inductive SrR {α γ:Type} (R:α->γ->Prop):List (Sr α)->List (Sr γ)->Prop where
 |nil:SrR R [] []
 |kw {j:Nat} {a:List (Sr α)} {c:List (Sr γ)}:SrR R a c->SrR R (.kw j::a) (.kw j::c)
 |df {x:α} {y:γ} {a:List (Sr α)} {c:List (Sr γ)}:R x y->SrR R a c->SrR R (.df x::a) (.df y::c)
theorem ao.getD:∀{a:List V} {b:List OX} (j:Nat),ao a b->aG (a.getD j .non) (b.getD j .none)
 |_,_,_,.nil=>rfl
 |_,_,0,.cons r _=>r
 |_,_,j+1,.cons _ t=>ao.getD j t
theorem SrR.vals(r:ao zs ws):∀{a:List (Sr V)} {c:List (Sr OX)},SrR aG a c->ao (a.map (Sr.pick .non zs)) (c.map (Sr.pick .none ws))
 |_,_,.nil=> .nil
 |_,_,.kw (j:=j) h=> .cons (ao.getD j r) (SrR.vals r h)
 |_,_,.df q h=> .cons q (SrR.vals r h)
theorem DenL.getD{K:Po}:∀{ds:List D} {a:List V} (j:Nat),DenL K F H ds a->Den K F H (ds.getD j .non) (a.getD j .non)
 |[],a,j,h=>by have q:a=[]:=h;subst q;rfl
 |d::ds,a,0,h=>by
  obtain⟨x,r,e,b,c⟩:=h;subst e;exact b
 |d::ds,a,j+1,h=>by
  obtain⟨x,r,e,b,c⟩:=h;subst e;exact DenL.getD j c
theorem SrR.den{K:Po}(r:DenL K F H ds zs):∀{a:List (Sr D)} {c:List (Sr V)},SrR (λd v=>∀F H,Den K F H d v) a c->DenL K F H (a.map (Sr.pick .non ds)) (c.map (Sr.pick .non zs))
 |_,_,.nil=>DenL.nil
 |_,_,.kw (j:=j) h=>DenL.cons (DenL.getD j r) (SrR.den r h)
 |_,_,.df q h=>DenL.cons (q F H) (SrR.den r h)
theorem SrR.len{α b:Type}{R:α->b->Prop}:∀{a:List (Sr α)} {c:List (Sr b)},SrR R a c->a.length=c.length
 |_,_,.nil=>rfl
 |_,_,.kw h=>by rw[Pg,Pg,SrR.len h]
 |_,_,.df _ h=>by rw[Pg,Pg,SrR.len h]
structure KwOk (K:Po) (fd:PL) (ps ks:List PY) (n:Nat) (src:List (Sr D)):Prop where
 ex:∃(sv:List (Sr OX)) (sx:List (Sr V)),SrR aG sx sv/\SrR (λd v=>∀F H,Den K F H d v) src sx/\∀(s:O7) (us ws:List OX),K.In s.heap->us.length=n->ws.length=ks.length->VP s fd ⟨us,ks.zip ws⟩ (ps.zip (us++sv.map (Sr.pick .none ws)))
 len:ps.length=n+src.length
 pos:0<ps.length
theorem KwOk.kb{K:Po}{ps ks:List PY}(h:KwOk K fd ps ks n src):∃(sv:List (Sr OX)) (a:List (Sr V)),SrR (λd v=>∀F H,Den K F H d v) src a/\KBinds K fd ps ks (gK .none n ks.length sv) (gK .non n ks.length a):=by
 obtain⟨sv,a,r1,i,b⟩:=h.ex;refine⟨sv,a,i,λs us g j c=>?_,λ{vs us k g} e f=>?_⟩
 ·unfold gK at c⊢
  split at c
  ·rename_i q
   rw[O8 q];exact b s us g j q.1 q.2
  ·exact PF c (by have:=h.pos;simp;omega)
 ·unfold gK
  by_cases q:vs.length=n/\k.length=ks.length
  ·rw[O8 q,O8 (by rw[←e.length,←f.length];exact q)]
   exact e.append (SrR.vals f r1)
  ·rw[O3 q,O3 (by rw[←e.length,←f.length];exact q)]
   exact .nil
section
variable{X:Cx}{E:St->XK}{e:Expr}{es:List Expr}{pos p kpos:Tz}{x:PY}{k n:Nat}{f:OZ}{fd:PL}{ps ks:List PY}{kws:List Uz}{nm:Option PY}
def u4(m:List D->M D)(g:FL)(dd:List D):FD:=λδ=>M.bind (g δ) λas=>m (as++dd)
theorem JI{dd:List D}(G:FnOk X.prog X.w X.K X.mg X.base (CXE X.prog X.w) k f fd ps (spF X.K n m))(q:Room k X.A)(u:Gl X x)(hm:X.mg x=on (.ref f))(v:UQ X.K (.ref f)=OV)(y:fq X.K fd ps dd)(B:bz (CXE X.prog X.w) X E)
  (ha:PA X (e::es) (tVA X.K g E)) (hn:∀δ β r d,g δ β=on (.ok r,d)->r.length+dd.length=n) (a:(x==("__debug__":PY))=OW:=by decide) (I:Pb (e::es) X.env=(OW,Qo e X.env)::Pb es X.env:=by rfl) (c:(Q5 pos (Pb es X.env)).any (·.1)=OW:=by rfl):
  PE X (.Call (.Name x p) (e::es) [] pos) (tV X.K (u4 m g dd) E):=by
 obtain⟨ds,J,b,L,rd⟩:=y;refine(mx G q u hm v b L B ha a I c).imp λW H Q N=>ex6 N λF δ β fr O r=>⟨F,δ,β,fr,O,?_⟩;obtain⟨r0,h,l,o⟩:=run.bind (R:=DenL X.K F) r;refine⟨r0,h,l,?_⟩;cases r0 with
 |error C=>exact o
 |ok as=>
  intro vs i t hd;obtain⟨d',β1,P,j,r1⟩:=o vs i t hd;have T:=hn _ _ _ _ l;have U:=(rd F i).length;refine⟨by rw[Pn,←hd.length,←U,T],F,d'++dd,β1,P.fr,DenL.append j (rd F i),run.toE r1⟩
theorem tE:PK X [] (tVA X.K aq E):=λpos a s b H Q I c=>by obtain⟨F,δ,β,fr,d,r⟩:=c;exact LL pos a s b H Q I (run.ret fr r DenL.nil)
theorem qg{f:FD}(ha:PE X e (tV X.K f E))(i:PK X kws (tVA X.K g E)):PK X (⟨nm,e,kpos⟩::kws) (tVA X.K (aa f g) E):=λpos a s j H Q I ⟨F,δ,β,fr,c,r⟩=>
 J7 ha i pos a s j H Q I ⟨F,δ,β,fr,c,(run.bind (R:=Den X.K F) r).mono λv o ⟨d,β1,t,hd,r1⟩=>
  ⟨F,δ,β1,t.fr,c.tr (t.tr fr),(run.bind (R:=DenL X.K F) r1).mono λvs q l=>ex5 l λds β2 h b m=>run.ret h.fr m (DenL.cons (Den.tr (h.tr t.fr) _ _ hd) b)⟩⟩
end
section
variable{X:Cx}{E:St->XK}{e:Expr}{es:List Expr}{pos p kpos:Tz}{x:PY}{k n:Nat}{f:OZ}{fd:PL}{ps ks:List PY}
end
section
variable{X:Cx}{E:St->XK}{K:Po}{st:QF}
end
def Gw(g:G)(δ:Ds)(β:Bg)(Q:Out->Bg->Prop):Prop:=∃o a,g δ β=on (o,a)/\Q o a
section
variable{g h a b g1 g2:G}{δ δ1:Ds}{β β1 β2 β3:Bg}{Q R:Out->Bg->Prop}{i:Nat}{f fa fb fv:FD}{fl:FL}{fg:Dn->M (List (List D))}{d x y z:D}{ds as:List D}{t:Dn->M Bool}{c:Bool}{C:OZ}{K:Po}
theorem Gw.mono(k:Gw g δ β R)(q:∀o β,R o β->Q o β):Gw g δ β Q:=let ⟨o,β',e,r⟩:=k;⟨o,β',e,q _ _ r⟩
theorem JW:aD g gNil=g:=by
 funext δ β;unfold aD gNil;split
 ·rename_i δ1 β1 e;exact e.symm
 ·rfl
theorem ar(k:Gw (aD g gNil) δ β Q):Gw g δ β Q:=by rw[JW]at k;exact k
theorem bn(q:Q (.nx δ) β):Gw gNil δ β Q:=⟨_,_,rfl,q⟩
theorem fP(e:g δ β=on (.nx δ1,β1))(k:Gw h δ1 β1 Q):Gw (aD g h) δ β Q:=by
 obtain⟨o,j,l,q⟩:=k;exact⟨o,j,by unfold aD;rw[e];exact l,q⟩
theorem JB(k:Gw (aD a (aD b h)) δ β Q):Gw (aD (aD a b) h) δ β Q:=by
 obtain⟨o,j,l,q⟩:=k;refine⟨o,j,?_,q⟩;rw[←l];unfold aD;split<;>rename_i e<;>(split at e<;>simp_all)
theorem bA(k:Gw h δ β Q):Gw (aD gNil h) δ β Q:=fP rfl k
theorem HP(k:Gw g (fz i δ) β Q):Gw (fzG i g) δ β Q:=k
theorem aI(e:f (vw δ) β=on (.ok d,β1))(k:Gw h (δ.set i (on (.sh d))) β1 Q):Gw (aD (fY i f) h) δ β Q:=fP (by unfold fY;rw[e]) k
theorem yD(e:g δ β=on (.ex C δ1,β1))(q:Q (.ex C δ1) β1):Gw (aD g h) δ β Q:=⟨_,_,by unfold aD;rw[e],q⟩
theorem oC(e:f (vwA δ) β=on (.ok d,β1))(k:Gw h δ β1 Q):Gw (aD (eK f) h) δ β Q:=fP (by unfold eK;rw[e]) k
theorem JA(e:f (vwA δ) β=on (.error C,β1))(q:Q (.ex C δ) β1):Gw (aD (eK f) h) δ β Q:=yD (by unfold eK;rw[e]) q
theorem gN(e:t (vwA δ) β=on (.ok c,β1))(k:Gw (aD (if c=OV then g1 else g2) h) δ β1 Q):Gw (aD (gIf t g1 g2) h) δ β Q:=by
 obtain⟨o,j,l,q⟩:=k;refine⟨o,j,?_,q⟩;rw[←l];unfold aD gIf;rw[e];cases c<;>rfl
theorem NS(e:t (vwA δ) β=on (.ok OV,β1))(k:Gw (aD g1 h) δ β1 Q):Gw (aD (gIf t g1 g2) h) δ β Q:=gN e k
theorem fQ(e:t (vwA δ) β=on (.ok OW,β1))(k:Gw (aD g2 h) δ β1 Q):Gw (aD (gIf t g1 g2) h) δ β Q:=gN e k
theorem aS(e:f (vwA δ) β=on (.ok d,β1))(q:Q (.rt d) β1):Gw (aD (cZ f) h) δ β Q:=⟨_,_,by unfold aD cZ;rw[e],q⟩
theorem Jz(e:fg (vw δ) β=on (.ok rows,β1))(q:Q (.rg rows) β1):Gw (aD (lR fg) h) δ β Q:=⟨_,_,by unfold aD lR;rw[e],q⟩
theorem vG(e:fl (vwA δ) β=on (.ok ds,β1))(q:Q (.ex C δ) β1):Gw (aD (eY C fl) h) δ β Q:=yD (by unfold eY;rw[e]) q
theorem HN{rows:List (List D)}(e:fg (vw δ) β=on (.ok rows,β1))(hn:rows.all noLs=OV)(k:Gw h (δ.set i (on (.grd rows))) β1 Q):Gw (aD (uS i fg) h) δ β Q:=fP (by unfold uS;simp only[e,hn,Qb]) k
theorem HM{rows:List (List D)}(e:fv (vwA δ) β=on (.ok d,β1))(j:fa (vwA δ) β1=on (.ok (.int ka),β2))(l:fb (vwA δ) β2=on (.ok (.int kb),β3))(m:δ.getD i OR=on (.grd rows))
  (n:ixN rows.length ka=on ja) (o:rows[ja]?=on ds) (p:ixN ds.length kb=on jb) (hn:noL d=OV) (k:Gw h (δ.set i (on (.grd (rows.set ja (ds.set jb d))))) β3 Q):Gw (aD (pO i fa fb fv) h) δ β Q:=
 fP (by unfold pO;simp only[e,j,l,m,n,o,p,hn,Qb]) k
theorem sD(e:fl (vw δ) β=on (.ok ds,β1))(j:ds.length<=Pe)(k:Gw h (δ.set i (on (.own ds))) β1 Q):Gw (aD (xZ i fl) h) δ β Q:=fP (by unfold xZ;simp only[e,j,Qb]) k
theorem sE{cs:List D}(j:δ.getD i OR=on (.own cs))(e:fl (vw δ) β=on (.ok [d],β1))(l:cs.length<Pe)(k:Gw h (δ.set i (on (.own (cs++[d])))) β1 Q):Gw (aD (x8 i fl) h) δ β Q:=
 fP (by unfold x8;simp only[j,e,l,Qb]) k
theorem HQ(e:f (vw δ) β=on (.ok d,β1))(j:tg d δ=on δ1)(k:Gw h δ1 β1 Q):Gw (aD (jx f tg) h) δ β Q:=fP (by unfold jx;simp only[e,j,Qu]) k
def Tn(I:Ds->Bg->Prop)(h:G)(Q:Out->Bg->Prop):Out->Bg->Prop:=λo β=>match o with
 | .nx δ=>I δ β
 | .ct δ=>I δ β
 | .bk δ=>Gw h δ β Q
 |o=>Q o β
theorem cg(e:it (vw δ) β=on (.ok ds,β1))(u:Nat->Ds->Bg->Prop)(L:u 0 δ β1)(step:∀i d δ β,ds[i]?=on d->u i δ β->∃δ1,tg d δ=on δ1/\Gw g δ1 β (Tn (u (i+1)) h Q))(k:∀δ β,u ds.length δ β->Gw h δ β Q):
  Gw (aD (x5 it tg g) h) δ β Q:=by
 have gen:∀(es:List D) (j:Nat) (δ:Ds) (β:Bg),es=ds.drop j->j+es.length=ds.length->u j δ β->Gw (aD (gLp tg g es) h) δ β Q:=by
  intro es
  induction es with
  |nil=>
   intro j δ β _ A B;simp at A;exact fP (g:=gLp tg g []) rfl (k δ β (A▸B))
  |cons d es ih=>
   intro j δ β J A B;have N:ds[j]?=on d:=by
    have:=Qr (λl=>l[0]?) J;simpa[Yq]using this.symm
   obtain⟨δ1,v,o,β2,w,q⟩:=step j d δ β N B;have F:es=ds.drop (j+1):=by
    have:=Qr List.tail J;simpa[List.tail_drop]using this
   have go:∀m,u (j+1) m β2->Gw (aD (gLp tg g es) h) m β2 Q:=λm H=>ih (j+1) m β2 F (by simp at A;omega) H;have n:∀{r:G} {m:Ds},Gw (aD r h) m β2 Q->gLp tg g (d::es) δ β=r m β2->Gw (aD (gLp tg g (d::es)) h) δ β Q:=λ{r m} ⟨O,p,I,P⟩ T=>⟨O,p,by rw[←I];unfold aD;rw[T],P⟩;cases o with
   |nx m=>exact n (r:=gLp tg g es) (go m q) (by rw[gLp];simp only[v,w])
   |ct m=>exact n (r:=gLp tg g es) (go m q) (by rw[gLp];simp only[v,w])
   |bk m=>exact n (r:=gNil) (bA q) (by rw[gLp];simp only[v,w];rfl)
   |rt d'=>exact⟨_,β2,by unfold aD;rw[gLp];simp only[v,w],q⟩
   |rg d'=>exact⟨_,β2,by unfold aD;rw[gLp];simp only[v,w],q⟩
   |ex C m=>exact⟨_,β2,by unfold aD;rw[gLp];simp only[v,w],q⟩
 obtain⟨o,p,I,q⟩:=gen ds 0 δ β1 (by simp) (by simp) L;refine⟨o,p,?_,q⟩;rw[←I];unfold aD x5;rw[e]
theorem p7{S:Except OZ D->Bg->Prop}(k:Gw g (stD n ds) β (λo j=>match o with| .rt d=>S (.ok d) j| .nx _=>S (.ok .non) j| .ex C _=>S (.error C) j|_=>False)):∃r j,cW n g ds β=on (r,j)/\S r j:=by
 obtain⟨o,j,e,q⟩:=k;cases o with
 |rt d=>exact⟨.ok d,j,by unfold cW;rw[e],q⟩
 |nx δ=>exact⟨.ok .non,j,by unfold cW;rw[e],q⟩
 |ex C δ=>exact⟨.error C,j,by unfold cW;rw[e],q⟩
 |_=>exact q.elim
theorem KZ{S:List (List D)->Bg->Prop}(k:Gw g (stD n ds) β (λo j=>match o with| .rg d=>S d j|_=>False)):∃r j,mZ n g ds β=on (.ok r,j)/\S r j:=by
 obtain⟨o,j,e,q⟩:=k;cases o with
 |rg d=>exact⟨d,j,by unfold mZ;rw[e],q⟩
 |_=>exact q.elim
theorem aO(k:Gw g (stD n ds) β (λo j=>j=β/\(match o with| .rt d=>r= .ok d| .nx _=>r= .ok .non| .ex C _=>r= .error C|_=>False))):cW n g ds β=on (r,β):=by
 obtain⟨l,j,e,q1,q2⟩:=p7 (S:=λl j=>j=β/\r=l) (n:=n) (ds:=ds) (β:=β) (k.mono λo j h=>by
  cases o<;>first|exact h|exact h.2)
 subst q1 q2;exact e
theorem K0(k:Gw g (stD n ds) β (λo j=>j=β/\(match o with| .rg d=>r=d|_=>False))):mZ n g ds β=on (.ok r,β):=by
 obtain⟨l,j,e,q1,q2⟩:=KZ (S:=λl j=>j=β/\r=l) (n:=n) (ds:=ds) (β:=β) (k.mono λo j h=>by
  cases o<;>first|exact h|exact h.2)
 subst q1 q2;exact e
theorem am{δ:Dn}(e:fl δ β=on (.ok as,β1))(j:m as β1=on r):ck m fl δ β=on r:=by unfold ck M.bind;rw[e];exact j
theorem Jw{δ:Dn}(e:fl δ β=on (.ok as,β1))(j:m (as++dd) β1=on r):u4 m fl dd δ β=on r:=by unfold u4 M.bind;rw[e];exact j
theorem Jv{δ:Dn}(e:fl δ β=on (.ok as,β1))(j:m as β1=on r):u3 m fl δ β=on r:=by unfold u3 M.bind;rw[e];exact j
theorem x_2{δ:Dn}(e:fa δ β=on (.ok x,β1))(j:fb δ β1=on (.ok y,β2))(k:op x y=on z):f2 op fa fb δ β=on (.ok z,β2):=by unfold f2 M.bind;rw[e];simp only[j,M.ofO,k]
theorem x_1{δ:Dn}(e:fa δ β=on (.ok x,β1))(j:op x=on z):f1 op fa δ β=on (.ok z,β1):=by unfold f1 M.bind;rw[e];simp only[M.ofO,j]
theorem aj{δ:Dn}(e:fl δ β=on (.ok as,β1))(j:op as=on z):az op fl δ β=on (.ok z,β1):=by unfold az M.bind;rw[e];simp only[M.ofO,j]
theorem ac{δ:Dn}(e:fa δ β=on (.ok x,β1))(j:fl δ β1=on (.ok as,β2)):aa fa fl δ β=on (.ok (x::as),β2):=by unfold aa M.bind;rw[e];simp only[j,M.ret]
theorem bq{δ:Dn}(e:fl δ β=on (.ok as,β1))(j:op as=on ds):bj op fl δ β=on (.ok ds,β1):=by unfold bj M.bind;rw[e];simp only[j,M.ofO]
theorem dX{δ:Dn}(e:fa δ β=on (.ok x,β1))(j:dT x=on ds):cB fa δ β=on (.ok ds,β1):=by unfold cB M.bind;rw[e];simp only[j,M.ofO]
theorem x_B{δ:Dn}(e:fa δ β=on (.ok (.bl c),β1)):fB fa δ β=on (.ok c,β1):=by unfold fB M.bind;rw[e];rfl
theorem oy{δ:Dn}(e:fa δ β=on (.ok x,β1))(j:jT x=on c):gY fa δ β=on (.ok c,β1):=by unfold gY M.bind;rw[e];simp only[M.ofO,j]
theorem ma{δ:Dn}(e:t δ β=on (.ok c,β1)):il t δ β=on (.ok (!c),β1):=by unfold il M.bind;rw[e];rfl
theorem bK(ok:β.ok)(k:0<lot)(l:lot<1073741824):∃v e,kg [.bag,.int lot] β=on (.ok (.int v),e)/\0<=v/\v<lot/\e.ok:=by
 obtain⟨a0,a1,j⟩:=v5 ok k;exact⟨_,_,DP ok k l,a0,a1,j⟩
theorem lN{n:Nat}{k:Int}(e:0<=k)(j:k<n):ixN n k=on k.toNat:=by unfold ixN;rw[O8 e,O8 j]
theorem z9{k:Int}{d:D}(e:0<=k)(h:xs[k.toNat]?=on d):ixD (.lst xs) (.int k)=on d:=by
 have j:k.toNat<xs.length:=(Pc.mp h).1;show atI xs k=on d;unfold atI;rw[lN e (by omega)];exact h
theorem EE{x y:D}:ixD (.tup [x,y]) (.int 0)=on x:=rfl
theorem Ms{x y:D}:ixD (.tup [x,y]) (.int 1)=on y:=rfl
end
section
variable{β β1 β2:Bg}{f g h i:FD}{t u:Dn->M Bool}{δ:Dn}{c e:Bool}{x y z w:Int}{d:D}
theorem NO(a:t δ β=on (.ok c,β))(b:u δ β=on (.ok e,β)):eS t u δ β=on (.ok (c||e),β):=by
 unfold eS M.bind;rw[a];cases c<;>simp[M.ret,b]
theorem w4(a:t δ β=on (.ok OW,β1))(b:u δ β1=on (.ok e,β2)):eS t u δ β=on (.ok e,β2):=by
 unfold eS M.bind;rw[a];simp[b]
theorem vD(a:f δ β=on (.ok (.bl OV),β1))(b:g δ β1=on (.ok d,β2)):fZ f g δ β=on (.ok d,β2):=by
 unfold fZ M.bind;rw[a];simp[asB,M.ofO,b]
theorem vE(a:f δ β=on (.ok (.bl OW),β1)):fZ f g δ β=on (.ok (.bl OW),β1):=by
 unfold fZ M.bind;rw[a];simp[asB,M.ofO,M.ret]
theorem l8(a:f δ β=on (.ok (.bl c),β))(b:g δ β=on (.ok (.bl e),β)):fZ f g δ β=on (.ok (.bl (c&&e)),β):=by
 cases c
 ·exact vE a
 ·exact vD a b
theorem le_int:leD (.int x) (.int y)=on (.bl (decide (x<=y))):=rfl
theorem lt_int:ltD (.int x) (.int y)=on (.bl (decide (x<y))):=rfl
theorem gt_int:gtD (.int x) (.int y)=on (.bl (decide (y<x))):=rfl
theorem vF(a:f δ β=on (.ok (.int x),β))(b:g δ β=on (.ok (.int y),β))(j:h δ β=on (.ok (.int z),β)):eZ leD leD f g h δ β=on (.ok (.bl (decide (x<=y)&&decide (y<=z))),β):=by
 unfold eZ M.bind;rw[a];simp only[b,le_int,M.ofO,asB];by_cases q:x<=y
 ·simp only[q,Tu,Qb,j,le_int,Sm]
 ·simp only[q,SX,Pk,Qe,M.ret,Uf]
theorem BW(a:f δ β=on (.ok (.int x),β))(b:g δ β=on (.ok (.int y),β))(j:h δ β=on (.ok (.int z),β))(k:i δ β=on (.ok (.int w),β)):mQ leD leD leD f g h i δ β=on (.ok (.bl (decide (x<=y)&&decide (y<=z)&&decide (z<=w))),β):=by
 unfold mQ IY M.bind;rw[a];simp only[b,le_int,M.ofO,asB];by_cases q:x<=y
 ·simp only[q,Tu,Qb,j,le_int,Sm]
  by_cases q2:y<=z
  ·simp only[q2,Tu,Qb,k,le_int,Sm]
  ·simp only[q2,SX,Pk,Qe,M.ret,Uf]
 ·simp only[q,SX,Pk,Qe,M.ret,Uf]
theorem zV{x:Int}(a:-1000000<=x)(b:x<=1000000):x.natAbs.log2<1920:=by
 have h:x.natAbs<2^20:=by omega
 by_cases z:x.natAbs=0
 ·rw[z];decide
 ·have:=(X5 z).mpr h
  omega
theorem w5(a:f δ β=on (.ok (.int x),β))(b:-1000000<=x)(k:x<=1000000)(l:j δ β=on (.ok (),β)):ik f j δ β=on (.ok (),β):=by
 unfold ik M.bind;rw[a];simp only[zV b k,Qb,l]
theorem yz(a:j δ β=on (.ok (),β)):im j δ β=on (.ok .txt,β):=by
 unfold im M.bind;rw[a];rfl
end
theorem HL(P:Ds->Bg->Prop)(k1:Gw g δ β (λo β1=>∃δ1,o= .nx δ1/\P δ1 β1))(k2:∀δ1 β1,P δ1 β1->Gw h δ1 β1 Q):Gw (aD g h) δ β Q:=by
 obtain⟨o,β1,e,δ1,rfl,p⟩:=k1;exact fP e (k2 δ1 β1 p)
theorem oE{δ:Ds}{β:Bg}{P:Ds->Bg->Prop}(p:P δ β):Gw gNil δ β (λo β1=>∃δ1,o= .nx δ1/\P δ1 β1):=bn ⟨_,rfl,p⟩
noncomputable abbrev gI(rows:LI):List (List D):=rows.map λr=>r.map D.int
noncomputable abbrev lG(rows:List (List D)):D:= .lst (rows.map D.lst)
abbrev bF(rows:LI):D:=lG (gI rows)
noncomputable def pD(p:Int×Int):D:= .tup [.int p.1,.int p.2]
abbrev gP(b:LP):List (List D):=b.map λr=>r.map pD
abbrev bD(b:LP):D:=lG (gP b)
def Shp{α:Type}(r c:Nat)(m:List (List α)):Prop:=m.length=r/\∀row∈m,row.length=c
noncomputable def tot(rows:LI):Int:=(rows.map Rl).sum
theorem aX(h:n<=1000):n<=Pe:=Px h (by decide)
theorem rD:∀r:List Int,noLs (r.map D.int)=OV
 |[]=>rfl
 |x::r=>by
  show(noL (.int x)&&noLs (r.map D.int))=OV;rw[rD r];rfl
theorem pk:∀r:List (Int×Int),noLs (r.map pD)=OV
 |[]=>rfl
 |x::r=>by
  show(noL (pD x)&&noLs (r.map pD))=OV;rw[pk r];rfl
theorem Me(b:LP):(gP b).all noLs=OV:=by
 rw[Rp];intro x a;obtain⟨r,_,rfl⟩:=Pp.mp a;exact pk r
theorem Shp.map{α a:Type}{f:α->a}{r c:Nat}{m:List (List α)}(h:Shp r c m):Shp r c (m.map λx=>x.map f):=⟨by rw[OS,h.1],λrow b=>by
 obtain⟨x,d,rfl⟩:=Pp.mp b;rw[OS];exact h.2 x d⟩
theorem Shp.set{α:Type}{r c i j:Nat}{m:List (List α)}{row:List α}{v:α}(h:Shp r c m)(b:m[i]?=on row):Shp r c (m.set i (row.set j v)):=⟨by rw[Qi,h.1],λx a=>by
 rcases Ri a with a|rfl
 ·exact h.2 x a
 ·rw[Qi];exact h.2 row (PD b)⟩
theorem Shp.at{α:Type}{r c i:Nat}{m:List (List α)}(h:Shp r c m)(b:i<r):∃row,m[i]?=on row/\row.length=c:=by
 have a:i<m.length:=by rw[h.1];exact b
 exact⟨m[i],O0 a,h.2 _ (Qh a)⟩
theorem Jp{α:Type}{l:List α}(h:i<l.length):∃x,l[i]?=on x:=⟨l[i],O0 h⟩
theorem qm:∀{xs:List Int} {j:Nat} {x v:Int},xs[j]?=on x->(xs.set j v).sum=xs.sum-x+v
 |[],j,x,v,h=>by simp at h
 |y::xs,0,x,v,h=>by
  simp at h;subst h;simp only[Rt,PQ];omega
 |y::xs,j+1,x,v,h=>by
  have h':xs[j]?=on x:=by simpa using h
  simp only[Rr,PQ,qm h'];omega
theorem JK{rows:LI}{row:List Int}(a:rows[i]?=on row)(b:row[j]?=on x):tot (rows.set i (row.set j v))=tot rows-x+v:=by
 unfold tot;rw[Ua,qm (x:=row.sum) (by rw[O4,a];rfl),qm b];omega
theorem Mf{rows:LI}{row:List Int}(h:∀r∈rows,∀x∈r,0<=x)(c:rows[i]?=on row)(d:0<=v):∀r∈rows.set i (row.set j v),∀x∈r,0<=x:=λr a x b=>by
 rcases Ri a with a|rfl
 ·exact h r a x b
 ·rcases Ri b with b|rfl
  ·exact h row (PD c) x b
  ·exact d
theorem kS:∀{xs:List Int},(∀x∈xs,0<=x)->0<=xs.sum
 |[],_=>by simp
 |y::xs,h=>by
  have:=kS (xs:=xs) λx a=>h x (OY _ a);have:=h y O5;simp only[PQ];omega
theorem uI:∀{xs:List Int},(∀x∈xs,0<=x)->∀x∈xs,x<=xs.sum
 |[],_,x,hx=>by cases hx
 |y::xs,h,x,hx=>by
  have:=kS (xs:=xs) λx hx=>h x (OY _ hx);have:=h y O5;rcases Pq.mp hx with rfl|hx
  ·simp only[PQ];omega
  ·have:=uI (xs:=xs) (λx hx=>h x (OY _ hx)) x hx
   simp only[PQ];omega
theorem Mn(h:∀r∈rows,∀x∈r,0<=x):∀r∈rows,∀x∈r,x<=tot rows:=λr a x b=>by
 have d:=uI (h r a) x b;have e:=uI (xs:=rows.map Rl) (λs hs=>by
  obtain⟨q,c,rfl⟩:=Pp.mp hs;exact kS (h q c)) r.sum (Pp.mpr ⟨r,a,rfl⟩)
 unfold tot;omega
structure Tab (r c:Nat) (rows:LI):Prop where
 shp:Shp r c rows
 nn:∀row∈rows,∀x∈row,0<=x
 tot:tot rows<=40
 r0:1<=r
 r1:r<=4
 c0:1<=c
 c1:c<=6
theorem eD(ns:List Int):gn [.lst (ns.map D.int)]=on (.int ns.sum):=by
 show((ef (ns.map D.int)).map λl=>D.int l.sum)=_;have:∀ns:List Int,ef (ns.map D.int)=on ns:=λns=>by
  induction ns with
  |nil=>rfl
  |cons n ns ih=>simp[ef,ih]
 rw[this];rfl
theorem rg1{n:Int}(a:0<=n)(h:n<=10^9):dm [.int n]=on (aU 0 n.toNat):=by
 have q:(decide (-(2^62)<=n)&&decide (n<2^62))=OV:=by
  simp only[PU,P3];omega
 show(if(decide (-(2^62)<=n)&&decide (n<2^62))=OV then on (aU 0 n.toNat)else OR)=_;rw[O8 q]
theorem IC(h:(aU 0 n)[k]?=on d):k<n/\d= .int (k:Int):=by
 unfold aU at h;have a:k<n:=by
  have:=(Pc.mp h).1;simpa using this
 rw[O4,Qz a]at h;exact⟨a,by cases h;simp⟩
theorem ue(n:Nat):(aU 0 n).length=n:=by simp[aU]
theorem aT{α:Type}(xs:List α)(u v:α->D)(a:it δ β=on (.ok (xs.map u),β))
  (b:∀x∈xs,∃δ1,tg (u x) (cSt nv caps δ)=on δ1/\f δ1 β=on (.ok (v x),β)) (c:xs.length<=Pe):bM nv caps it tg (λ_=>M.ret OV) (cEm f) δ β=on (.ok (.lst (xs.map v)),β):=by
 refine qQ a ?_ (by rw[OS];exact c);have gen:∀xs:List α,(∀x∈xs,∃δ1,tg (u x) (cSt nv caps δ)=on δ1/\f δ1 β=on (.ok (v x),β))->cLp tg (λ_=>M.ret OV) (cEm f) (xs.map u) (cSt nv caps δ) β=on (.ok (xs.map v),β):=by
  intro xs
  induction xs with
  |nil=>intro _;rfl
  |cons x xs ih=>
   intro h;obtain⟨δ1,d,e⟩:=h x O5;have g:=ih λy i=>h y (OY _ i);rw[Ph,cLp];simp only[d,M.bind,M.ret,reduceIte,cEm,e,g,Ph,QT,QH]
 exact gen xs b
theorem rR{α:Type}(xs:List α)(u:α->D)(v:α->List D)(a:it δ β=on (.ok (xs.map u),β))
  (b:∀x∈xs,∃δ1,tg (u x) (cSt nv caps δ)=on δ1/\f δ1 β=on (.ok (v x),β)) (c:xs.length<=Pe):iS nv caps it tg (λ_=>M.ret OV) (vh f) δ β=on (.ok (xs.map v),β):=by
 have gen:∀xs:List α,(∀x∈xs,∃δ1,tg (u x) (cSt nv caps δ)=on δ1/\f δ1 β=on (.ok (v x),β))->oq tg (λ_=>M.ret OV) (vh f) (xs.map u) (cSt nv caps δ) β=on (.ok (xs.map v),β):=by
  intro xs
  induction xs with
  |nil=>intro _;rfl
  |cons x xs ih=>
   intro h;obtain⟨δ1,d,e⟩:=h x O5;have g:=ih λy i=>h y (OY _ i);rw[Ph,oq];simp only[d,M.bind,M.ret,reduceIte,vh,e,g,Ph,QT,QH]
 unfold iS;simp only[a,gen xs b,OS,c,Qb]
theorem BB{α:Type}(xs:List α)(u:α->D)(v:α->D)(a:it δ β=on (.ok (xs.map u),β))
  (b:∀x∈xs,∃δ1,tg (u x) (cSt nv caps δ)=on δ1/\f δ1 β=on (.ok (v x),β)) (c:xs.length<=Pe):gH nv caps it tg (λ_=>M.ret OV) (cEm f) δ β=on (.ok (xs.map v),β):=by
 have gen:∀xs:List α,(∀x∈xs,∃δ1,tg (u x) (cSt nv caps δ)=on δ1/\f δ1 β=on (.ok (v x),β))->cLp tg (λ_=>M.ret OV) (cEm f) (xs.map u) (cSt nv caps δ) β=on (.ok (xs.map v),β):=by
  intro xs
  induction xs with
  |nil=>intro _;rfl
  |cons x xs ih=>
   intro h;obtain⟨δ1,d,e⟩:=h x O5;have g:=ih λy i=>h y (OY _ i);rw[Ph,cLp];simp only[d,M.bind,M.ret,reduceIte,cEm,e,g,Ph,QT,QH]
 unfold gH;simp only[a,gen xs b,OS,c,Qb]
theorem LC{ds:List D}(a:ds.length<=Pe)(b:ds.length*c<=Pe)(d:c<=1000000):ug ds (.int (c:Int))=on (Pi c ds).flatten:=by
 have q:(decide (-(2^63)<=(c:Int))&&decide ((c:Int)<2^63)&&decide (ds.length<=Pe)&&decide (ds.length*(c:Int).toNat<=Pe))=OV:=by
  simp only[PU,P3];exact⟨⟨⟨by omega,by omega⟩,a⟩,by rw[QL];exact b⟩
 unfold ug;simp only[q,Qb];rw[QL]
theorem uV{α:Type}(x:α):∀c:Nat,(Pi c [x]).flatten=Pi c x
 |0=>rfl
 |c+1=>by rw[P6,RV,uV x c];rfl
theorem Ol(b:f δ β=on (.ok x,β))(d:g δ β=on (.ok (.int (c:Int)),β))(e:c<=1000):DI (aa f aq) g δ β=on (.ok (Pi c x),β):=by
 have a:[x].length<=Pe:=by rw[Qg];decide
 have h:[x].length*c<=Pe:=by rw[Qg,Nat.one_mul];exact aX e
 have r:=LC (ds:=[x]) (c:=c) a h (by omega);rw[uV]at r;have s:szL [x]=on [x]:=by
  unfold szL;rw[O8 a]
 have i:aa f aq δ β=on (.ok [x],β):=ac b rfl;unfold DI;rw[M.bind_ok i,s,M.bind_some,M.bind_ok d,r];rfl
theorem BL(bs:List Bool):dS (bs.map D.bl)=on bs:=by
 induction bs with
 |nil=>rfl
 |cons b bs ih=>simp[dS,ih]
theorem any_map{α:Type}(xs:List α)(p:α->Bool):yr [.lst (xs.map λx=>D.bl (p x))]=on (.bl (xs.any p)):=by
 show(dS _).map _=_;rw[show(xs.map λx=>D.bl (p x))=(xs.map p).map D.bl by rw[Pd];rfl,BL];simp only[Qu,List.any_map];rfl
theorem cu{α:Type}(r:Nat)(x:α):(O6 r).map (λ_=>x)=Pi r x:=by rw[List.map_const',Pr]
theorem db{xs:List D}(h:xs.length=r):cJ [.lst xs]=on (.int (r:Int)):=by subst h;rfl
theorem uH{rows:List (List D)}(h:rows.length=r):cJ [lG rows]=on (.int (r:Int)):=db (by rw[OS,h])
theorem pE{rows:List (List D)}{k:Nat}{row:List D}(h:rows[k]?=on row):ixD (lG rows) (.int (k:Int))=on (.lst row):=z9 (by omega) (by rw[QL,O4,h];rfl)
theorem dD{xs:List D}{k:Nat}{d:D}(h:xs[k]?=on d):ixD (.lst xs) (.int (k:Int))=on d:=z9 (by omega) (by rw[QL];exact h)
theorem gc:cj [x,y]=on (.tup [x,y]):=by
 unfold cj;rw[O8 (show[x,y].length<=Pe by rw[Pg,Qg];decide)]
theorem DQ:eG []=on (.lst []):=by
 unfold eG;rw[O8 (show([]:List D).length<=Pe by rw[RC];decide)]
theorem lJ:eG [x]=on (.lst [x]):=by
 unfold eG;rw[O8 (show[x].length<=Pe by rw[Qg];decide)]
theorem xG:uy [.int x,.int y]=on (.int (Sz x y)):=by
 unfold uy;simp only;congr 2;split<;>omega
theorem Mi:xI [.int x,.int y]=on (.int (YI x y)):=by
 unfold xI;simp only;congr 2;split<;>omega
theorem eq_int:f6 (.int x) (.int y)=on (.bl (decide (x=y))):=by rw[kB]
theorem ne_int:d8 (.int x) (.int y)=on (.bl (!decide (x=y))):=by rw[kA]
theorem qK{xs:List D}{i:Nat}{d:D}(h:(cK 0 xs)[i]?=on d):∃x,xs[i]?=on x/\d= .tup [.int (i:Int),x]:=by
 obtain⟨x,b,a⟩:=lU h;rw[Rz]at a;exact⟨x,b,a⟩
theorem bV{α a:Type}{f:α->a}{xs:List α}{i:Nat}{d:a}(h:(xs.map f)[i]?=on d):∃x,xs[i]?=on x/\d=f x:=by
 rw[O4]at h;cases q:xs[i]? with
 |none=>rw[q]at h;cases h
 |some x=>rw[q]at h;exact⟨x,rfl,by cases h;rfl⟩
noncomputable abbrev fm(r c:Nat):LP:=Pi r (Pi c (0,40))
theorem AM(r c:Nat):Shp r c (fm r c):=⟨by simp,λrow h=>by rw[(QN.mp h).2];simp⟩
noncomputable def at2{α:Type}(m:List (List α))(i j:Nat):Option α:=(m[i]?).bind λrow=>row[j]?
theorem at2_set{α:Type}{m:List (List α)}{i j k l:Nat}{row:List α}{v x:α}(a:m[i]?=on row)(h:at2 (m.set i (row.set j v)) k l=on x):(k=i/\l=j/\x=v)\/(at2 m k l=on x/\¬(k=i/\l=j)):=by
 unfold at2 at h⊢;rw[Qq]at h;by_cases q:i=k
 ·subst q
  rw[O8 rfl]at h;split at h
  ·simp only[Qt]at h
   rw[Qq]at h;by_cases w:j=l
   ·subst w
    rw[O8 rfl]at h;split at h
    ·exact .inl ⟨rfl,rfl,(PR h).symm⟩
    ·cases h
   ·rw[O3 w]at h
    exact .inr ⟨by rw[a];exact h,λz=>w z.2.symm⟩
  ·cases h
 ·rw[O3 q]at h
  exact .inr ⟨h,λz=>q z.1.symm⟩
theorem wW{α:Type}{m:List (List α)}{i j:Nat}{x:α}(h:at2 m i j=on x):∃row∈m,x∈row:=by
 unfold at2 at h;cases q:m[i]? with
 |none=>rw[q]at h;cases h
 |some row=>rw[q]at h;exact⟨row,PD q,PD h⟩
theorem vi{α:Type}{m:List (List α)}{i j:Nat}{row:List α}{x:α}(a:m[i]?=on row)(b:row[j]?=on x):at2 m i j=on x:=by unfold at2;rw[a];exact b
structure PairOk (p:Int×Int):Prop where
 l:0<=p.1
 m:p.1<=p.2
 h:p.2<=40
noncomputable def pairB(p:Int×Int):Bool:=decide (0<=p.1)&&decide (p.1<=p.2)&&decide (p.2<=40)
theorem lB:pairB p=OV↔PairOk p:=by
 unfold pairB;simp only[PU,P3];exact⟨λ⟨⟨a,b⟩,c⟩=>⟨a,b,c⟩,λ⟨a,b,c⟩=>⟨⟨a,b⟩,c⟩⟩
def Kp(rows:LI)(b:LP):Prop:=∀i j x p,at2 rows i j=on x->at2 b i j=on p->p.1<=x/\x<=p.2
def sU(b:LP)(r c:Nat):Bool:=decide (b.length=r)&&b.all λrow=>decide (row.length=c)&&row.all pairB
structure Bnd (r c:Nat) (b:LP):Prop where
 shp:Shp r c b
 ok:∀row∈b,∀p∈row,PairOk p
theorem je:sU b r c=OV↔Bnd r c b:=by
 unfold sU;simp only[PU,P3,Rp,lB];exact⟨λ⟨e,d⟩=>⟨⟨e,λrow a=>(d row a).1⟩,λrow a=>(d row a).2⟩,λ⟨⟨e,d⟩,f⟩=>⟨e,λrow a=>⟨d row a,f row a⟩⟩⟩
theorem Bnd.set{b:LP}{row:List (Int×Int)}(h:Bnd r c b)(e:b[i]?=on row)(f:PairOk p):Bnd r c (b.set i (row.set j p)):=⟨h.shp.set e,λq d x a=>by
 rcases Ri d with d|rfl
 ·exact h.ok q d x a
 ·rcases Ri a with a|rfl
  ·exact h.ok row (PD e) x a
  ·exact f⟩
theorem Bnd.free(r c:Nat):Bnd r c (fm r c):=⟨AM r c,λrow b p a=>by
 rw[(QN.mp b).2]at a;rw[(QN.mp a).2];exact⟨by decide,by decide,by decide⟩⟩
theorem Tab.le40(t:Tab r c rows):∀row∈rows,∀x∈row,0<=x/\x<=40:=λrow a x b=>⟨t.nn row a x b,by
 have:=Mn t.nn row a x b;have:=t.tot;omega⟩
theorem Kp.free(t:Tab r c rows):Kp rows (fm r c):=λi j x p d e=>by
 obtain⟨row,f,b⟩:=wW d;obtain⟨q,g,a⟩:=wW e;rw[(QN.mp g).2]at a;rw[(QN.mp a).2];exact t.le40 row f x b
theorem Kp.set{b:LP}{row:List (Int×Int)}{p:Int×Int}(h:Kp rows b)(d:b[i]?=on row)(e:at2 rows i j=on x)(f:p.1<=x)(g:x<=p.2):Kp rows (b.set i (row.set j p)):=λk l y q a c=>by
 rcases at2_set d c with⟨rfl,rfl,rfl⟩|⟨c,_⟩
 ·rw[e]at a
  cases a;exact⟨f,g⟩
 ·exact h k l y q a c
theorem KU{α:Type}(xs:List α)(u:α->D)(o:α->List D)(a:it δ β=on (.ok (xs.map u),β))
  (c:∀x∈xs,∃δ1,tg (u x) (cSt nv caps δ)=on δ1/\b δ1 β=on (.ok (o x),β)) (d:(xs.flatMap o).length<=Pe):bM nv caps it tg (λ_=>M.ret OV) b δ β=on (.ok (.lst (xs.flatMap o)),β):=by
 refine qQ a ?_ d;have gen:∀xs:List α,(∀x∈xs,∃δ1,tg (u x) (cSt nv caps δ)=on δ1/\b δ1 β=on (.ok (o x),β))->cLp tg (λ_=>M.ret OV) b (xs.map u) (cSt nv caps δ) β=on (.ok (xs.flatMap o),β):=by
  intro xs
  induction xs with
  |nil=>intro _;rfl
  |cons x xs ih=>
   intro h;obtain⟨δ1,e,f⟩:=h x O5;have g:=ih λy i=>h y (OY _ i);rw[Ph,cLp];simp only[e,M.bind,M.ret,reduceIte,f,g,Qp]
 exact gen xs c
theorem zG{α:Type}(xs:List α)(u v:α->D)(a:it δ β=on (.ok (xs.map u),β))
  (b:∀x∈xs,∃δ1,tg (u x) δ=on δ1/\f δ1 β=on (.ok (v x),β)):cNx it tg (λ_=>M.ret OV) (cEm f) δ β=on (.ok (xs.map v),β):=by
 have gen:∀xs:List α,(∀x∈xs,∃δ1,tg (u x) δ=on δ1/\f δ1 β=on (.ok (v x),β))->cLp tg (λ_=>M.ret OV) (cEm f) (xs.map u) δ β=on (.ok (xs.map v),β):=by
  intro xs
  induction xs with
  |nil=>intro _;rfl
  |cons x xs ih=>
   intro h;obtain⟨δ1,c,d⟩:=h x O5;have e:=ih λy g=>h y (OY _ g);rw[Ph,cLp];simp only[c,M.bind,M.ret,reduceIte,cEm,d,e,Ph,QT,QH]
 unfold cNx;rw[M.bind_ok a];exact gen xs b
theorem iB{α a:Type}(u:α->D)(v:a->D):∀(xs:List α) (ys:List a),dA (xs.map u) (ys.map v)=(xs.zip ys).map λp=>D.tup [u p.1,v p.2]
 |[],ys=>by simp[dA]
 |x::xs,[]=>by simp[dA]
 |x::xs,y::ys=>by simp[dA,iB u v xs ys]
theorem u9{xs:List D}{k:Nat}:n9 xs (on (k:Int)) OR=xs.drop k:=by
 unfold n9;rw[HT.sIx_none,HT.sIx_nat];by_cases h:k<=xs.length
 ·rw[show Sz k xs.length=k by omega]
  rw[RI (by rw[List.length_drop];omega)]
 ·rw[Sa (by omega),Sa (by omega)]
  simp
theorem qW(a:f δ β=on (.ok (.lst xs),β))(b:g δ β=on (.ok (.int k),β)):fSl f (on g) OR δ β=on (.ok (.lst (n9 xs (on k) OR)),β):=by
 unfold fSl sX;simp only[M.bind,a,b,M.ret,M.ofO,BO,slD]
theorem m5{xs ys:List D}(h:xs.length+ys.length<=1000):kG (.lst xs) (.lst ys)=on (.lst (xs++ys)):=by
 unfold kG;simp only;rw[O8 (aX h)]
def jP:List D->List OX->Prop
 |[],[]=>True
 | .int i::ds,.int j _::vs=>i=j/\jP ds vs
 | .str x::ds,.str y _::vs=>x=y/\jP ds vs
 | .bl x::ds,.bool y::vs=>x=y/\jP ds vs
 | .non::ds,.none::vs=>jP ds vs
 |_,_=>False
theorem gF{K:Po}:∀{ds:List D} {vs:List OX},jP ds vs->∃xs,ao xs vs/\∀F H,DenL K F H ds xs
 |[],[],_=>⟨[],.nil,λ_ _=>DenL.nil⟩
 | .int i::ds,.int j t::vs,h=>by
  obtain⟨e,h⟩:=h;subst e;obtain⟨xs,a,b⟩:=gF (K:=K) h;exact⟨.int i::xs,.cons ⟨t,rfl⟩ a,λF H=>DenL.cons rfl (b F H)⟩
 | .str i::ds,.str j t::vs,h=>by
  obtain⟨e,h⟩:=h;subst e;obtain⟨xs,a,b⟩:=gF (K:=K) h;exact⟨.str i::xs,.cons ⟨t,rfl⟩ a,λF H=>DenL.cons rfl (b F H)⟩
 | .bl i::ds,.bool j::vs,h=>by
  obtain⟨e,h⟩:=h;subst e;obtain⟨xs,a,b⟩:=gF (K:=K) h;exact⟨.bl i::xs,.cons rfl a,λF H=>DenL.cons rfl (b F H)⟩
 | .non::ds,.none::vs,h=>by
  obtain⟨xs,a,b⟩:=gF (K:=K) (ds:=ds) (vs:=vs) h;exact⟨.non::xs,.cons rfl a,λF H=>DenL.cons rfl (b F H)⟩
def VIs(K:Po)(d:D)(u:OX):Prop:=∃v,aG v u/\∀F H,Den K F H d v
theorem me{K:Po}:VIs K (.int i) (.int i t):=⟨.int i,⟨t,rfl⟩,λ_ _=>rfl⟩
theorem JD{K:Po}:VIs K .non .none:=⟨.non,rfl,λ_ _=>rfl⟩
theorem JC{K:Po}{q3:Array OX}(a:K.lookup p=on ⟨q1,q2,.seq q3 q4,q5⟩)(b:q1= .type "tuple")(c:q3.size<=Pe)(d:jP ds q3.toList):VIs K (.tup ds) (.ref p):=by
 obtain⟨xs,e,f⟩:=gF (K:=K) d;exact⟨.ref p,rfl,λF H=>⟨p,xs,rfl,.inr ⟨_,q3,q4,a,b,rfl,c,e⟩,f F H⟩⟩
theorem pW{K:Po}(h:mg x=on u)(v:VIs K d u):m6 K mg x d:=let ⟨w,h1,h2⟩:=v;⟨u,w,h,h1,h2⟩
theorem AZ{K:Po}{ps:List PY}{us:List OX}(n:Nat)(e:ps.length=n+us.length)(b:∀(s:O7) (vs:List OX),K.In s.heap->vs.length=n->VP s fd ⟨vs,[]⟩ (ps.zip (vs++us)))(h:∃vs,ao vs us/\∀F H,DenL K F H dd vs):fq K fd ps dd:=
 let ⟨vs,h1,h2⟩:=h
 ⟨us,vs,λs a c d=>b s a c (by rw[Pn]at d;omega),h1,h2⟩
theorem AV{K:Po}:∃vs,ao vs []/\∀F H,DenL K F H [] vs:=⟨[],.nil,λ_ _=>DenL.nil⟩
theorem wM{K:Po}(v:VIs K d u)(h:∃vs,ao vs us/\∀F H,DenL K F H ds vs):∃vs,ao vs (u::us)/\∀F H,DenL K F H (d::ds) vs:=by
 obtain⟨w,a,b⟩:=v;obtain⟨vs,c,e⟩:=h;exact⟨w::vs,.cons a c,λF H=>DenL.cons (b F H) (e F H)⟩
inductive KSr (K:Po):List (Sr D)->List (Sr OX)->Prop where
 |nil:KSr K [] []
 |kw {j:Nat} {a:List (Sr D)} {c:List (Sr OX)}:KSr K a c->KSr K (.kw j::a) (.kw j::c)
 |df {x:D} {y:OX} {a:List (Sr D)} {c:List (Sr OX)}:VIs K x y->KSr K a c->KSr K (.df x::a) (.df y::c)
theorem KSr.mid{K:Po}:∀{a:List (Sr D)} {c:List (Sr OX)},KSr K a c->∃b:List (Sr V),SrR aG b c/\SrR (λd v=>∀F H,Den K F H d v) a b
 |_,_,.nil=>⟨[],.nil,.nil⟩
 |_,_,.kw (j:=j) h=>let ⟨b,h1,h2⟩:=KSr.mid h;⟨.kw j::b,.kw h1,.kw h2⟩
 |_,_,.df v h=>let ⟨b,h1,h2⟩:=KSr.mid h;let ⟨w,g1,g2⟩:=v;⟨.df w::b,.df g1 h1,.df g2 h2⟩
theorem Oy{K:Po}{ps ks:List PY}{src:List (Sr D)}{sv:List (Sr OX)}(h:KSr K src sv)(c:ps.length=n+src.length)(d:0<ps.length)(b:∀(s:O7) (us a:List OX),K.In s.heap->us.length=n->a.length=ks.length->VP s fd ⟨us,ks.zip a⟩ (ps.zip (us++sv.map (Sr.pick .none a)))):KwOk K fd ps ks n src:=
 ⟨let ⟨sx,h1,h2⟩:=h.mid;⟨sv,sx,h1,h2,b⟩,c,d⟩
section
variable{X:Cx}{E:St->XK}{K:Po}{st:QF}
end
section
variable{h:G}{δ:Ds}{β β1 β2 β3:Bg}{Q:Out->Bg->Prop}{i:Nat}{fa fb fv:FD}{fl:FL}{d d0 d1:D}{ds:List D}{op:D->D->Option D}
end
theorem NP(a:t δ β=on (.ok OV,β1))(b:f δ β1=on r):fIf t f g δ β=on r:=by
 unfold fIf M.bind;rw[a];exact b
theorem NQ(a:t δ β=on (.ok OW,β1))(b:g δ β1=on r):fIf t f g δ β=on r:=by
 unfold fIf M.bind;rw[a];exact b
theorem ox{δ:Dn}(e:δ.getD n OR=on d):ae n δ β=on (.ok d,β):=by unfold ae;rw[e];rfl
section
variable{β β1 β2:Bg}{f g h:FD}{δ:Dn}{x y z:Int}
end
theorem pA{K:Po}:∀{ns:List PY} {ds:List D} {xs:List V},DenL K F H ds xs->(ns.zip ds).lookup f=on d->∃v,(ns.zip xs).lookup f=on v/\Den K F H d v
 |[],ds,xs,h,e=>by simp at e
 |n::ns,[],xs,h,e=>by simp at e
 |n::ns,c::ds,xs,h,e=>by
  obtain⟨x,r,q,a,b⟩:=h;subst q;rw[Sb,SL]at e⊢;split at e
  ·rename_i z
   cases e;exact⟨x,rfl,a⟩
  ·rename_i z
   exact pA b e
theorem rE{α:Type}:∀{ns:List PY} {xs:List α},m∉ns->(ns.zip xs).lookup m=OR
 |[],xs,_=>by simp
 |n::ns,[],_=>by simp
 |n::ns,x::xs,h=>by
  rw[Sb,SL];have a:m≠n:=λz=>h (by rw[z];exact O5);have b:m∉ns:=λz=>h (OY _ z);rw[show(m==n)=OW by simpa using a];exact rE b
theorem fq.nil{K:Po}(b:aA K fd ps []):fq K fd ps []:=⟨[],[],b,.nil,λ_ _=>DenL.nil⟩
section
variable{X:Cx}{E:St->XK}{o e:Expr}{es:List Expr}{pos p apos kpos:Tz}{x m:PY}{k n:Nat}{f C:OZ}{fd:PL}{ps ks:List PY}{kws:List Uz}
noncomputable def yb(C:OZ)(f:PY):D->Option D
 | .obj C' ns ds=>if C'=C then(ns.zip ds).lookup f else OR
 |_=>OR
theorem ia{f:PY}(c:Cls X.K C)(n:dQ X.K C f)(j:PE X e (tV X.K g E))(l:Tl e f X.env (Qo e X.env)=Qo e X.env:=by rfl):PE X (.Attribute e f pos) (tV X.K (f1 (yb C f) g) E):=
 (LX j l).imp λJ H Q i=>ex6 i λF δ β fr q h=>⟨F,δ,β,fr,q,(run.bind (R:=Den X.K F) h).mono λv r i=>by
  obtain⟨d,β1,t,hd,r1⟩:=i;obtain⟨d3,b,k⟩:=run.ofO r1;cases d<;>first|cases b|skip
  rename_i u ns ds;unfold yb at b;simp only at b;split at b
  ·rename_i z
   subst z;unfold Den at hd;obtain⟨a,dx,xs,rfl,L,y,N,A⟩:=hd;obtain⟨w,B,I⟩:=pA A b;exact⟨a,u,dx,_,w,rfl,y,c,n,B,k w r (To.refl t.fr) I⟩
  ·cases b⟩
def pQ(C:OZ)(m:PY)(a:List D->M D)(b:FD)(g:FL)(dd:List D):FD:=λδ=>M.bind (b δ) λd=>match d with
 | .obj C' ns _=>if C'=C/\m∉ns then M.bind (g δ) λas=>a (d::(as++dd))else M.fail
 |_=>M.fail
theorem uz{dd:List D}{K:Po}(J:∀vs H Q E,spF K n mf vs H Q E->R vs H Q E)(rd:∀F H,DenL K F H dd dvs)(hn:∀δ β r b,g δ β=on (.ok r,b)->r.length+dd.length+1=n)(h:tV K (pQ C m mf fo g dd) E σ H Q):xh C m R dvs E (tV K fo E) (tVA K g E) σ H Q:=by
 obtain⟨F,δ,β,fr,w,h⟩:=h;refine⟨F,δ,β,fr,w,(run.bind (R:=Den K F) h).mono λv L N=>ex5 N λd β1 t hd r1=>?_⟩;have fail:∀{i:M D},i=M.fail->run (Den K F) F E σ i L Q β1->False:=λ{i} e r=>by
  obtain⟨r,b,y,_⟩:=r;rw[e]at y;cases y
 cases d<;>first|exact(fail rfl r1).elim|skip
 rename_i W ns ds;simp only at r1;split at r1
 ·rename_i z
  obtain⟨rfl,hm⟩:=z;have j:=hd;unfold Den at hd;obtain⟨a,dx,xs,rfl,Y,O,Z,h4⟩:=hd;refine⟨a,dx,_,rfl,O,rE hm,F,δ,β1,t.fr,w.tr (t.tr fr),?_⟩;obtain⟨r0,l,A,B⟩:=run.bind (R:=DenL K F) r1;refine⟨r0,l,A,?_⟩;cases r0 with
  |error C=>exact B
  |ok as=>
   intro vs q P c;obtain⟨d',β2,I,u,r3⟩:=B vs q P c;have T:=hn _ _ _ _ A;have U:=(rd F q).length;refine J _ _ _ _ ⟨by rw[Pg,Pn,←c.length,←U,T],F,_::(d'++dd),β2,I.fr,DenL.cons (Den.tr (I.tr t.fr) _ _ j) (DenL.append u (rd F q)),run.toE r3⟩
 ·exact(fail rfl r1).elim
theorem K5{dd:List D}(c:Cls X.K C)(hm:Meth X.K C m f)(G:FnOk X.prog X.w X.K X.mg X.base (CXE X.prog X.w) k f fd ps (spF X.K n mf))(j:Room k X.A)(l:fq X.K fd ps dd)(q:bz (CXE X.prog X.w) X E)
  (t:PE X o (tV X.K fo E)) (ha:PA X (e::es) (tVA X.K g E)) (hn:∀δ β r i,g δ β=on (.ok r,i)->r.length+dd.length+1=n)
  (a:Pb (e::es) X.env=(OW,Qo e X.env)::Pb es X.env:=by rfl) (d:(Q5 pos (Pb es X.env)).any (·.1)=OW:=by rfl)
  (u:Qo (.Call (.Attribute o m apos) (e::es) [] pos) X.env=(do
   let ov ←Qo o X.env
   Sw apos.atName
   let (f,first) ←Te [ov] (UI ov m pl)
   Wp pos f first (Q5 pos (Pb (e::es) X.env)) (R1 pos (Q6 [] X.env))):=by rfl):
  PE X (.Call (.Attribute o m apos) (e::es) [] pos) (tV X.K (pQ C m mf fo g dd) E):=by
 obtain⟨ds,v,b,y,rd⟩:=l;exact(Kb (pl:=pl) t c hm G j b y q ha a d u).imp λB H Q h=>uz (λ_ _ _ _ z=>z) rd hn h
theorem vI{dd:List D}(c:Cls X.K C)(hm:Meth X.K C m f)(G:FnOk X.prog X.w X.K X.mg X.base (CXE X.prog X.w) k f fd ps (spF X.K n mf))(g:Room k X.A)(i:fq X.K fd ps dd)(j:bz (CXE X.prog X.w) X E)
  (l:PE X o (tV X.K fo E)) (hn:dd.length+1=n)
  (q:Qo (.Call (.Attribute o m apos) [] [] pos) X.env=(do
   let ov ←Qo o X.env
   Sw apos.atName
   let (f,first) ←Te [ov] (UI ov m pl)
   Wp pos f first (Q5 pos (Pb [] X.env)) (R1 pos (Q6 [] X.env))):=by rfl):
  PE X (.Call (.Attribute o m apos) [] [] pos) (tV X.K (pQ C m mf fo aq dd) E):=by
 obtain⟨ds,t,b,u,rd⟩:=i;refine(DB (pl:=pl) l c hm G g b u j q).imp λP H Q h=>?_;obtain⟨F,δ,β,fr,y,h⟩:=uz (λ_ _ _ _ z=>z) rd (λδ β r B e=>by cases e;simpa using hn) h;refine⟨F,δ,β,fr,y,h.mono λv R ⟨a,dx,fs,I,ha,J,T,L,β2,d,N,O⟩=>⟨a,dx,fs,I,ha,J,?_⟩⟩;exact run.ret d O DenL.nil
end
structure ToX (F:Fx) (x:OZ) (H H':Hp) (β':Bg):Prop where
 kp:∀a o,a≠x->H a=on o->(∀b l,F.bg=on (b,l)->a≠b/\a≠l)->H' a=on o
 fr:Fr F H' β'
def spI(K:Po)(C:OZ)(ns:List PY)(n:Nat)(d:List D->M (List D)):Sp:=λvs H Q E=>∃x rest F ds β dx,vs= .ref x::rest/\rest.length=n/\Fr F H β/\F.A x/\(∀b l,F.bg=on (b,l)->x≠b/\x≠l)/\H x=on (.ins C dx [])/\DenL K F H ds rest/\
 ∃r a,d ds β=on (r,a)/\match r with
  | .ok es=>∀c xs,ToX F x H c a->c x=on (.ins C dx (ns.zip xs))->ns.length=xs.length->DenL K F c es xs->Q .non c
  | .error Ce=>∀c,ToX F x H c a->E (.ref Ce) OR c
section
variable{X:Cx}{E:St->XK}{e:Expr}{es:List Expr}{pos p kpos:Tz}{x:PY}{k n:Nat}{f C:OZ}{fd:PL}{ps ks ns:List PY}{kws:List Uz}
def yd(C:OZ)(ns:List PY)(a:List D->M (List D))(g:FL)(dd:List D):FD:=λδ=>M.bind (g δ) λas=>M.bind (a (as++dd)) λfs=>M.ret (.obj C ns fs)
theorem uA{K:Po}{vs:List V}(fr:Fr F H2 β2)(L:vs.length=n)(hd:DenL K F H2 ds vs)(r:run (Den K F) F E σ (M.bind (mi ds) λfs=>M.ret (.obj C ns fs)) H2 Q β2):
  ∀x dx,H2 x=OR->H2 dx=OR->dx≠x->spI K C ns n mi (.ref x::vs) (upd (upd H2 dx (.own x)) x (.ins C dx [])) (λv N=>v= .non/\Q (.ref x) N) (E σ):=by
 intro x dx w y ne;have B:¬F.A x:=fr.fresh w;have same:bE H2 (upd (upd H2 dx (.own x)) x (.ins C dx [])):=λa o h=>by
  rw[upd_ne (ne_of_none h w),upd_ne (ne_of_none h y)];exact h
 have t:=fr.same same;have H:Fr (F.but x) (upd (upd H2 dx (.own x)) x (.ins C dx [])) β2:=⟨λa ha z=>(by
  rcases ha with ha|ha
  ·exact t.fr.occ a ha z
  ·subst ha;rw[ah]at z;cases z),λb l q=>let ⟨z1,z2,z3⟩:=fr.bgA b l q;⟨.inl z1,.inl z2,z3⟩,t.fr.bag⟩
 have O:∀b l,F.bg=on (b,l)->x≠b/\x≠l:=λb l q=>⟨λz=>B (z▸(fr.bgA b l q).1),λz=>B (z▸(fr.bgA b l q).2.1)⟩;have I:Tr F H2 (F.but x) (upd (upd H2 dx (.own x)) x (.ins C dx [])):=⟨λa P R z=>by
  rcases z with z|z
  ·exact P z
  ·subst z;exact R w,λa o _ h=>same a o h,rfl⟩
 obtain⟨T,c,d,h⟩:=r;refine⟨x,vs,F.but x,ds,β2,dx,rfl,L,H,.inr rfl,O,ah,DenL.tr I _ _ hd,?_⟩;have j:∀{g:Hp} {c:Bg},ToX (F.but x) x (upd (upd H2 dx (.own x)) x (.ins C dx [])) g c->To F H2 g c:=λ{g c} i=>⟨λa o ha n=>i.kp a o (ne_of_none ha w) (same a o ha) n,⟨λa ha=>i.fr.occ a (.inl ha),fr.bgA,i.fr.bag⟩⟩;cases q:mi ds β2 with
 |none=>unfold M.bind at d;rw[q]at d;cases d
 |some z=>
  obtain⟨r1,β1⟩:=z;refine⟨r1,β1,rfl,?_⟩;cases r1 with
  |error U=>
   rw[M.bind_err q]at d;cases d;exact λg i=>h g (j i)
  |ok fs=>
   rw[M.bind_ok q]at d;cases d;refine λg xs i J m u=>⟨rfl,h (.ref x) g (j i) ⟨x,dx,xs,rfl,B,J,m,DenL.tr Fx.tr_of _ _ u⟩⟩
theorem K6{dd:List D}(o:Mk X.K C f)(G:FnOk X.prog X.w X.K X.mg X.base (CXE X.prog X.w) k f fd ps (spI X.K C ns n mi))(q:Room (k+1) X.A)(u:Gl X x)(hm:X.mg x=on (.ref C))(v:fq X.K fd ps dd)(y:bz (CXE X.prog X.w) X E)
  (ha:PA X (e::es) (tVA X.K g E)) (hn:∀δ β r d,g δ β=on (.ok r,d)->r.length+dd.length=n) (a:(x==("__debug__":PY))=OW:=by decide) (B:Pb (e::es) X.env=(OW,Qo e X.env)::Pb es X.env:=by rfl) (c:(Q5 pos (Pb es X.env)).any (·.1)=OW:=by rfl):
  PE X (.Call (.Name x p) (e::es) [] pos) (tV X.K (yd C ns mi g dd) E):=by
 obtain⟨ds,I,b,J,rd⟩:=v;refine(Kc o G q u hm b J y ha a B c).imp λU H Q L=>ex6 L λF δ β fr N r=>⟨F,δ,β,fr,N,?_⟩;obtain⟨r0,h,l,m⟩:=run.bind (R:=DenL X.K F) r;refine⟨r0,h,l,?_⟩;cases r0 with
 |error C=>exact m
 |ok as=>
  intro vs i t hd;obtain⟨d',β1,O,j,r1⟩:=m vs i t hd;have P:=hn _ _ _ _ l;have T:=(rd F i).length;exact uA O.fr (by rw[Pn,←hd.length,←T,P]) (DenL.append j (rd F i)) r1
def pR(C:OZ)(ns:List PY)(a:List D->M (List D))(g b:FL)(src:List (Sr D)):FD:=λδ=>M.bind (g δ) λas=>M.bind (b δ) λks=>M.bind (a (as++src.map (Sr.pick .non ks))) λfs=>M.ret (.obj C ns fs)
def Ld(C:OZ)(sp:Sp)(c:List V->List V->List V)(E:St->XK)(t d:TA):TE:=λa H Q=>t a H λvs g=>d a g λh b=>∀x dx,b x=OR->b dx=OR->dx≠x->
 sp (c (.ref x::vs) h) (upd (upd b dx (.own x)) x (.ins C dx [])) (λv i=>v= .non/\Q (.ref x) i) (E a)
theorem DC(M:Mk X.K C f)(F:FnOk X.prog X.w X.K X.mg X.base CX k f fd ps sp)(P:Room (k+1) X.A)(R:Gl X x)(hm:X.mg x=on (.ref C))(L:KBinds X.K fd ps ks g gV)(T:bz CX X E)
  (ha:PA X (e::es) t) (o:PK X kws tk) (i:(R1 pos (Q6 kws X.env)).all (·.1.isSome)=OV:=by rfl) (y:(R1 pos (Q6 kws X.env)).filterMap (·.1)=ks:=by rfl)
  (B:(x==("__debug__":PY))=OW:=by decide) (U:Pb (e::es) X.env=(OW,Qo e X.env)::Pb es X.env:=by rfl)
  (J:((Q5 pos (Pb (e::es) X.env)).any (·.1)||(R1 pos (Q6 kws X.env)).any (·.1.isNone))=OW:=by rfl):
  PE X (.Call (.Name x p) (e::es) kws pos) (Ld C sp gV E t tk):=by
 intro a s l H Q I h;refine Sx (iw I R hm ?_ B);refine PySem.W.callWith_KW (h₀:=X.base) I.ok.mod.kin M.kp i (thn (ha pos a s l H _ I h) λus Y ⟨vs,Z,I1,r,q⟩=>?_) J U;refine thn (o pos a Y l Z _ I1 q) λd c ⟨zs,H2,j,rz,q2⟩=>⟨j.kIn,?_⟩;rw[y];have N:=q2 (c.heap.objs.size+1) c.heap.objs.size (j.hok.fresh (Tk _)) (j.hok.fresh (O9 _)) (Qa (UY _));have m:=Inv.made (C:=C) j;have O:=L.rel (.cons (show aG (V.ref (c.heap.objs.size+1)) (Pj (c.heap.objs.size+1))from rfl) r) rz;have hl:(g (Pj (c.heap.objs.size+1)::us) d).length=ps.length:=by rw[←O.length];exact F.len _ _ _ _ N
 refine T9 (uB (f:=f) j.kIn M.makes M.init (beq_iff_eq.mp M.fn) (Sv (F.run _ X.stack _ _ ⟨Pj (c.heap.objs.size+1)::us,ks.zip d⟩ (g (Pj (c.heap.objs.size+1)::us) d) _ _ (E l) (P.make C us (ks.zip d))
  (m.env0.make C us (ks.zip d)) (L.to _ (Pj (c.heap.objs.size+1)::us) d m.kIn hl) O N) λr s' b=>?_))
 cases r with
 |error e=>exact T a l _ _ e s' m b
 |ok fl=>
  cases fl with
  |ret u=>
   obtain⟨v,H',I4,rv,ev,q4⟩:=m.after b;subst ev;exact⟨rv,⟨V.ref (c.heap.objs.size+1),H',I4,rfl,q4⟩⟩
  |next=>exact QX b
  |brk=>exact QX b
  |cont=>exact QX b
theorem qh{src:List (Sr D)}(Z:Mk X.K C f)(G:FnOk X.prog X.w X.K X.mg X.base (CXE X.prog X.w) k f fd ps (spI X.K C ns n mi))(hr:Room (k+1) X.A)(hg:Gl X x)(hm:X.mg x=on (.ref C))(hb:KwOk X.K fd ps ks (n1+1) src)(hx:bz (CXE X.prog X.w) X E)
  (ha:PA X (e::es) (tVA X.K g E)) (c:PK X kws (tVA X.K gk E)) (hn:∀δ β r a,g δ β=on (.ok r,a)->r.length=n1) (d:∀δ β r a,gk δ β=on (.ok r,a)->r.length=ks.length) (h3:n1+src.length=n)
  (b:(R1 pos (Q6 kws X.env)).all (·.1.isSome)=OV:=by rfl) (h:(R1 pos (Q6 kws X.env)).filterMap (·.1)=ks:=by rfl)
  (i:(x==("__debug__":PY))=OW:=by decide) (he:Pb (e::es) X.env=(OW,Qo e X.env)::Pb es X.env:=by rfl)
  (j:((Q5 pos (Pb (e::es) X.env)).any (·.1)||(R1 pos (Q6 kws X.env)).any (·.1.isNone))=OW:=by rfl):
  PE X (.Call (.Name x p) (e::es) kws pos) (tV X.K (pR C ns mi g gk src) E):=by
 obtain⟨sv,B,rd,kb⟩:=hb.kb;refine(DC Z G hr hg hm kb hx ha c b h i he j).imp λσ H Q h_=>ex6 h_ λF δ β fr I r=>⟨F,δ,β,fr,I,?_⟩;obtain⟨r0,l,J,L⟩:=run.bind (R:=DenL X.K F) r;refine⟨r0,l,J,?_⟩;cases r0 with
 |error C=>exact L
 |ok as=>
  intro vs H1 t hd;obtain⟨d',β1,m,o,r1⟩:=L vs H1 t hd;refine⟨F,δ,β1,m.fr,I.tr (m.tr fr),?_⟩;obtain⟨N,β2,O,P⟩:=run.bind (R:=DenL X.K F) r1;refine⟨N,β2,O,?_⟩;cases N with
  |error C=>exact P
  |ok bs=>
   intro q T t2 U;obtain⟨d2,β3,W,u,r3⟩:=P q T t2 U;have Y:=hn _ _ _ _ J;have l2:=d _ _ _ _ O;have v:DenL X.K F T d' vs:=DenL.tr (W.tr m.fr) _ _ o;intro y dx;have g1:gK V.non (n1+1) ks.length B (.ref y::vs) q= .ref y::(vs++B.map (Sr.pick .non q)):=O8 ⟨by rw[Pg,←hd.length,Y],by rw[←U.length,l2]⟩;rw[g1];exact uA W.fr (by rw[Pn,OS,←hd.length,Y,←rd.len,h3]) (DenL.append v (SrR.den u rd)) r3 y dx
end
abbrev IP:=Ds->List D->Bg->Option (Except OZ (List D)×Bg)
noncomputable def IS:IP:=λ_ done β=>on (.ok done,β)
noncomputable def mH(g:G)(a:IP):IP:=λδ done β=>match g δ β with
 |some (.nx δ1,β1)=>match δ[0]?,δ1[0]? with
  |some (on (Sl.sh (D.adr x))),on (on (Sl.sh (D.adr y)))=>if x=y then a δ1 done β1 else OR
  |_,_=>OR
 |some (.ex C _,β1)=>on (.error C,β1)
 |_=>OR
def jd(f:FD)(a:IP):IP:=λδ done β=>match f (vw δ) β with
 |some (.ok d,β1)=>a δ (done++[d]) β1
 |some (.error C,β1)=>on (.error C,β1)
 |none=>OR
structure StpX (x:OZ) (B:Ow) (H:Hp) (B':Ow) (H':Hp):Prop where
 kp:∀a o,a≠x->H a=on o->(B a=OR\/B a=on 0)->H' a=on o
 tg:∀a,B a=on 0\/B a=on 1->B' a=B a
 nn:∀a o,a≠x->H a=on o->B a=OR->B' a=OR
 al:∀a,H a≠OR->H' a≠OR
theorem Stp.x{x:OZ}{B b:Ow}{H c:Hp}(s:Stp B H b c):StpX x B H b c:=⟨λa o _=>s.kp a o,s.tg,λa o _=>s.nn a o,s.al⟩
theorem StpX.trans(a:StpX x B H B1 H1)(b:StpX x B1 H1 B2 H2):StpX x B H B2 H2:=by
 refine⟨λc o ne h n=>b.kp c o ne (a.kp c o ne h n) ?_,λc h=>?_,λc o ne h n=>b.nn c o ne (a.kp c o ne h (.inl n)) (a.nn c o ne h n),λc h=>b.al c (a.al c h)⟩
 ·rcases n with n|n
  ·exact .inl (a.nn c o ne h n)
  ·exact .inr ((a.tg c (.inl n)).trans n)
 ·have e:=a.tg c h
  rw[←e]at h;exact(b.tg c h).trans e
def jQ(K:Po)(bg:Option (OZ×OZ))(E:St->XK)(Dn:Ends)(B:Ow)(H:Hp)(x C dx:OZ)(all:List PY)(r:Except OZ (List D))(d:Bg):Prop:=match r with
 | .ok ds=>∀b c a vs,StpX x B H c a->Fr (FxB c bg) a d->a x=on (.ins C dx (all.zip vs))->all.length=vs.length->DenL K (FxB c bg) a ds vs->Dn.nx b a
 | .error Ce=>∀b c a,StpX x B H c a->Fr (FxB c bg) a d->E b (.ref Ce) OR a
theorem jQ.pre{K:Po}{E:St->XK}{Dn:Ends}(s:StpX x B H B1 H1)(h:jQ K bg E Dn B H x C dx all r β'):jQ K bg E Dn B1 H1 x C dx all r β':=by
 cases r with
 |ok ds=>exact λa b c vs t=>h a b c vs (s.trans t)
 |error d=>exact λa b c t=>h a b c (s.trans t)
def tI(K:Po)(H₀:Hp)(C:OZ)(a names:List PY)(e:IP)(E:St->XK):TS:=λDn f H=>∃B bg δ β x dx b c r d,SOk K H₀ B bg H δ β f/\δ[0]?=on (on (.sh (.adr x)))/\B x=on 0/\H x=on (.ins C dx (a.zip b))/\a.length=b.length/\DenL K (FxB B bg) H c b/\e δ c β=on (r,d)/\jQ K bg E Dn B H x C dx (a++names) r d
theorem rB:∀{ns:List PY} {vs:List V},ns.length=vs.length->f∉ns->dC f y (ns.zip vs)=(ns++[f]).zip (vs++[y])
 |[],[],_,_=>rfl
 |n::ns,v::vs,h,hf=>by
  have a:¬n=f:=λz=>hf (by rw[z];exact O5);show(if n=f then(n,y)::ns.zip vs else(n,v)::dC f y (ns.zip vs))=_;rw[O3 a,rB (by simpa using h) λz=>hf (OY _ z)];rfl
 |[],_::_,h,_=>by simp at h
 |_::_,[],h,_=>by simp at h
theorem SOk.upd0{K:Po}(ok:SOk K H₀ B bg H δ β σ)(g:B x=on 0):SOk K H₀ B bg (upd H x o) δ β σ/\StpX x B H B (upd H x o):=by
 have al:∀c,H c≠OR->upd H x o c≠OR:=λc f=>by
  by_cases z:c=x
  ·subst z;rw[ah];simp
  ·rw[upd_ne z];exact f
 have t:∀b l,bg=on (b,l)->b≠x/\l≠x:=λb l e=>by
  obtain⟨b1,b2⟩:=ok.bgt b l e;exact⟨λz=>(by rw[z,g]at b1;cases b1),λz=>(by rw[z,g]at b2;cases b2)⟩
 have tr:Tr (FxB B bg) H (FxB B bg) (upd H x o):=⟨λ_ h _=>h,λc u f e=>by
  rw[upd_ne]
  ·exact e
  ·intro z;subst z;exact f (by show B c≠OR;rw[g];simp),rfl⟩
 refine⟨⟨⟨λc f=>al c (ok.fr.occ c f),ok.fr.bgA,λb l e=>?_⟩,ok.bgt,ok.len,λc f=>al c (ok.cov c f),ok.new,λc k f=>?_,λi s e=>?_⟩,λc u ne h _=>by rw[upd_ne ne];exact h,λ_ _=>rfl,λ_ _ _ _ n=>n,al⟩
 ·obtain⟨w,y⟩:=ok.fr.bag b l e
  obtain⟨A,C⟩:=t b l e;exact⟨by rw[upd_ne A];exact w,by rw[upd_ne C];exact y⟩
 ·obtain⟨xs,h⟩:=ok.lst c k f
  exact⟨xs,by rw[upd_ne];exact h;intro z;subst z;rw[g]at f;cases f⟩
 ·obtain⟨v,F,j⟩:=ok.tell i s e
  refine⟨v,F,?_⟩;cases s with
  |sh d=>exact Den.tr tr _ _ j
  |own ds=>
   obtain⟨a,xs,rfl,hB,ha,hd⟩:=j;exact⟨a,xs,rfl,hB,(by rw[upd_ne];exact ha;intro z;subst z;rw[g]at hB;cases hB),DenL.tr tr _ _ hd⟩
  |grd rows=>
   obtain⟨a,rs,rfl,hB,ha,nd,I⟩:=j;refine⟨a,rs,rfl,hB,(by rw[upd_ne];exact ha;intro z;subst z;rw[g]at hB;cases hB),nd,RowL.tr tr I λr xs _ p q=>⟨p,?_⟩⟩;rw[upd_ne]
   ·exact q
   ·intro z;subst z
    have m:B r=on (i+2):=p;rw[g]at m;cases m
section
variable{X:Cx}{E:St->XK}{st:QF}{sts:List QF}{C:OZ}{ns0 names:List PY}{ip:IP}
theorem OD:PSs X [] (tI X.K X.H₀ C ns0 [] IS E):=qu.imp λDn b H c=>by
 obtain⟨B,bg,δ,β,x,dx,a,d,r,f,ok,i,j,g,h,hd,e,k⟩:=c;cases e;rw[PN]at k;exact k b B H a (Stp.refl B H).x ok.fr g h hd
theorem IT(m:PS X st (tG X.K X.H₀ g E))(n:PSs X sts (tI X.K X.H₀ C ns0 names ip E)):PSs X (st::sts) (tI X.K X.H₀ C ns0 names (mH g ip) E):=(cA m n).imp λDn v H o=>by
 obtain⟨B,bg,δ,β,x,dx,c,d,r,f,ok,p,h,q,t,hd,e,k⟩:=o;unfold mH at e;split at e
 ·rename_i δ1 β1 i
  split at e
  ·rename_i w y q1 q2
   split at e
   ·rename_i z
    subst z;rw[p]at q1;cases q1;refine⟨B,bg,δ,β,.nx δ1,β1,ok,i,λb j l s a=>?_⟩;exact⟨j,bg,δ1,β1,x,dx,c,d,r,f,a,q2,(s.tg x (.inl h)).trans h,s.kp x _ q (.inr h),t,DenL.tr s.tr _ _ hd,e,jQ.pre s.x k⟩
   ·cases e
  ·cases e
 ·rename_i u δ1 β1 i
  cases e;exact⟨B,bg,δ,β,.ex u δ1,_,ok,i,λb j l s a=>k b j l s.x a.fr⟩
 ·cases e
theorem sS(c:Cls X.K C)(n:dQ X.K C f)(N:f∉ns0)(I:ns0.length<1000)(O:PS X st (Ls X.K (ql 0) (tV X.K fv E) f))(P:PSs X sts (tI X.K X.H₀ C (ns0++[f]) names ip E)):PSs X (st::sts) (tI X.K X.H₀ C ns0 (f::names) (jd fv ip) E):=(cA O P).imp λDn Q H R=>by
 obtain⟨B,bg,δ,β,x,dx,g,p,r,q,ok,J,l,T,L,hd,e,k⟩:=R;refine⟨FxB B bg,vw δ,β,ok.fr,ok.view,?_⟩;unfold jd at e;split at e
 ·rename_i d β1 t
  refine⟨.ok d,β1,t,λy m w U=>?_⟩;obtain⟨b,i⟩:=ok.to rfl w;obtain⟨v,W,Y⟩:=b.tell 0 _ J;have Z:v= .ref x:=Y;subst Z;have A:=i.kp x _ T (.inr l);refine⟨_,W,x,C,dx,_,rfl,A,c,n,?_,?_⟩
  ·rw[Tc];omega
  obtain⟨F,s2⟩:=b.upd0 (o:= .ins C dx (dC f y (ns0.zip g))) l;have j:Tr (FxB B bg) m (FxB B bg) (upd m x (.ins C dx (dC f y (ns0.zip g)))):=⟨λ_ h _=>h,λa u ha e=>by
   rw[upd_ne]
   ·exact e
   ·intro z;subst z;exact ha (by show B a≠OR;rw[l];simp),rfl⟩
  refine⟨B,bg,δ,β1,x,dx,g++[y],p++[d],r,q,F,J,l,by rw[ah,rB L N],by simp[L],DenL.append (DenL.tr j _ _ (DenL.tr i.tr _ _ hd)) (DenL.cons (Den.tr j _ _ U) DenL.nil),e,?_⟩;rw[Qv];exact jQ.pre (i.x.trans s2) k
 ·rename_i Ce β1 t
  cases e;refine⟨.error Ce,_,t,λm w=>?_⟩;obtain⟨b,i⟩:=ok.to rfl w;exact k Q B m i.x b.fr
 ·cases e
end
open Classical in
def mI(m:Nat)(a:IP):List D->M (List D):=λds β=>if h:∃r,∀x,a (stD m (.adr x::ds)) [] β=on r then on h.choose else OR
theorem EL(h:∀x,ip (stD m (.adr x::ds)) [] β=on r):mI m ip ds β=on r:=by
 have a:∃r,∀x,ip (stD m (.adr x::ds)) [] β=on r:=⟨r,h⟩;unfold mI;rw[dif_pos a];have:=a.choose_spec 0;rw[h 0]at this;exact this.symm
theorem AH(h:mI m ip ds β=on r):∀x,ip (stD m (.adr x::ds)) [] β=on r:=by
 unfold mI at h;split at h
 ·rename_i a
  have:=a.choose_spec;cases h;exact this
 ·cases h
section
variable{P:Pt}{w:PV}{K:Po}{mg:PY->Option OX}{base:P7}
theorem KN{st:QF}{N ps names:List PY}(n m:Nat)(ip:IP)(F:FunD K x qual st f fd)(S:FnScope N ps (af st))(O:ps.length=n+1)(R:N.length=m)
  (p:∀(i:OX) (A:Qn) (outer:List Wc) (s:O7) (H:Hp) (E:XK),Room k (A.deeper (TM qual (af st) s.heap.objs.size f i))->
   PSs (dy (CXE P w) P w K mg base N qual (af st) f i A outer s H E) (cw st) (tI K H C [] names ip (λ_=>E))):FnOk P w K mg base (CXE P w) (k+1) f fd ps (spI K C names n (mI m ip)):=by
 subst R;refine F.okE S (λvs H Q E h=>?_) λi A outer s H vs Q E hr h=>?_
 ·obtain⟨y,rest,j,ds,β,dx,rfl,hl,_⟩:=h
  rw[Pg,hl,O]
 obtain⟨y,rest,j,ds,β,dx,rfl,hl,fr,T,nb,hH,hd,r,d,e,h⟩:=h;refine⟨_,p i A outer s H E hr,?_⟩;have U:DenL K j H (.adr y::ds) (.ref y::rest):=DenL.cons rfl hd;obtain⟨B,ok,L,h1,hn⟩:=tM (N:=N) fr U;have hy:B y=on 0:=by
  rcases L y T with z|z
  ·exact z
  ·obtain⟨b,l,q,w⟩:=h1 y z
   obtain⟨W,X⟩:=nb b l q;rcases w with w|w
   ·exact PF w W
   ·exact PF w X
 have v:∀{u:Ow} {g:Hp} {d:Bg},StpX y B H u g->Fr (FxB u j.bg) g d->ToX j y H g d/\Tr (FxB u j.bg) g j g:=λ{u g d} s c=>by
  have hs:∀a,j.A a->u a≠OR:=λa ha=>by
   rw[s.tg a (L a ha)];rcases L a ha with z|z<;>rw[z]<;>simp
  refine⟨⟨λa o ne ha n=>s.kp a o ne ha ?_,λa ha=>c.occ a (hs a ha),λb l e=>fr.bgA b l e,c.bag⟩,λa ha _ z=>ha (hs a z),λ_ _ _ h=>h,rfl⟩;cases q:B a with
  |none=>exact .inl rfl
  |some t=>
   have:=L a (hn a (by rw[q];simp));rcases this with z|z
   ·rw[q]at z;exact .inr z
   ·obtain⟨b,l,e,w⟩:=h1 a z
    obtain⟨W,X⟩:=n b l e;rcases w with w|w
    ·exact PF w W
    ·exact PF w X
 refine⟨B,j.bg,stD N.length (.adr y::ds),β,y,dx,[],[],r,d,ok,rfl,hy,hH,rfl,DenL.nil,AH e y,?_⟩;cases r with
 |ok es=>
  intro Y u g vs s c Z I J;obtain⟨t1,t2⟩:=v s c;exact h g vs t1 Z I (DenL.tr t2 _ _ J)
 |error Ce=>
  intro Y u g s c;exact h g (v s c).1
end
section
variable{X:Cx}{E:St->XK}{K:Po}{st:QF}
end
section
variable{h:G}{δ:Ds}{β β1:Bg}{Q:Out->Bg->Prop}{i:Nat}{f:FD}
end
section
variable{C Ce:OZ}{m:PY}{ns:List PY}{mf:List D->M D}{mi:List D->M (List D)}{fo:FD}{g gk:FL}{dd fs as ks:List D}{src:List (Sr D)}{δ:Dn}{β β1 β2 β3:Bg}{r:Except OZ D×Bg}{d:D}{f:PY}{h:G}{Q:Out->Bg->Prop}{i:Nat}{δs:Ds}
theorem tB(a:fo δ β=on (.ok (.obj C ns fs),β1))(b:g δ β1=on (.ok as,β2))(c:mf (.obj C ns fs::(as++dd)) β2=on r)(hm:m∉ns:=by decide):pQ C m mf fo g dd δ β=on r:=by
 unfold pQ;rw[M.bind_ok a];simp only[hm,not_false_eq_true,and_self,Qb];rw[M.bind_ok b];exact c
theorem K4(a:g δ β=on (.ok as,β1))(b:mi (as++dd) β1=on (.ok fs,β2)):yd C ns mi g dd δ β=on (.ok (.obj C ns fs),β2):=by
 unfold yd;rw[M.bind_ok a,M.bind_ok b];rfl
theorem h9(a:x δ β=on (.ok (.obj C ns fs),β1))(b:(ns.zip fs).lookup f=on d):f1 (yb C f) x δ β=on (.ok d,β1):=by
 refine x_1 a ?_;unfold yb;simp only[Qb];exact b
theorem AD{g:G}{δ δ1:Ds}{r:Except OZ (List D)×Bg}(e:g δ β=on (.nx δ1,β1))(a:δ[0]?=on (on (.sh (.adr x))))(b:δ1[0]?=on (on (.sh (.adr x))))(k:ip δ1 done β1=on r):mH g ip δ done β=on r:=by
 unfold mH;simp only[e,a,b,Qb];exact k
theorem pI{f:FD}{δ:Ds}{d:D}{r:Except OZ (List D)×Bg}(e:f (vw δ) β=on (.ok d,β1))(k:ip δ (done++[d]) β1=on r):jd f ip δ done β=on r:=by
 unfold jd;rw[e];exact k
end
noncomputable def tpA{α:Type}(d:α)(c:Nat)(rows:List (List α)):List (List α):=(O6 c).map λj=>rows.map λrow=>row.getD j d
abbrev tp(c:Nat)(rows:LI):LI:=tpA 0 c rows
theorem vK{α:Type}{d:α}{r c:Nat}{rows:List (List α)}(h:rows.length=r):Shp c r (tpA d c rows):=⟨by simp[tpA],λrow a=>by
 obtain⟨j,_,rfl⟩:=Pp.mp a;rw[OS,h]⟩
theorem xv:∀(row:List Int),(O6 row.length).map (λj=>row.getD j d)=row:=λrow=>by
 refine YN λi=>?_;rw[O4];by_cases h:i<row.length
 ·rw[Qz h]
  show on (row.getD i d)=_;rw[O1,O0 h];rfl
 ·rw[Tx (by simpa using h),Tx (by omega)];rfl
theorem qo{α:Type}(f g:α->Int):∀l:List α,(l.map λx=>f x+g x).sum=(l.map f).sum+(l.map g).sum
 |[]=>by simp
 |x::l=>by
  simp only[Ph,PQ,qo f g l];omega
theorem nC{α:Type}:∀l:List α,(l.map λ_=>(0:Int)).sum=0
 |[]=>rfl
 |x::l=>by simp only[Ph,PQ,nC l];rfl
theorem yM:∀{rows:LI},(∀row∈rows,row.length=c)->tot (tp c rows)=tot rows
 |[],_=>by
  show((tpA 0 c []).map Rl).sum=0;unfold tpA;rw[Pd];exact nC (O6 c)
 |row::rows,h=>by
  have ih:=yM (c:=c) (rows:=rows) λx b=>h x (OY _ b);have a:=h row O5;unfold tot tp tpA at ih⊢;rw[Pd]at ih⊢;have e:(λj=>(Rl ((row::rows).map λrow=>row.getD j 0)))=λj=>row.getD j 0+(rows.map λrow=>row.getD j 0).sum:=by
   funext j;rw[Ph,PQ]
  show((O6 c).map λj=>(Rl ((row::rows).map λrow=>row.getD j 0))).sum=_;rw[e,qo,←a,xv,a,Ph,PQ];congr 1
theorem NZ(h:∀row∈rows,∀x∈row,0<=x):∀row∈tp c rows,∀x∈row,0<=x:=λrow a x b=>by
 obtain⟨j,_,rfl⟩:=Pp.mp a;obtain⟨q,d,rfl⟩:=Pp.mp b;rw[O1];cases e:q[j]? with
 |none=>exact XX 0
 |some y=>exact h q d y (PD e)
end L2.Pu
namespace L2.Pu
open PySem PySem.Spec PyProof PyProof.Rows
section
variable{X:Cx}
end
section
variable{prog:Pt}{w:PV}{A:Qn}{E:OX->O7->Prop}{s:O7}{l:OZ}{xs:Array (Int×Tok)}
end
section
variable{X:Cx}{K:Po}
end
end L2.Pu
namespace L2
open PySem PySem.Spec PyProof.Rows
end L2
namespace L2.Pu
open PySem PySem.Spec PyProof.Rows
section
variable{X:Cx}{E:St->XK}{K:Po}{elt target iter:Expr}{ifs:List Expr}{rest:List Q1}{scope:Scope}{pos:Tz}{Nc vars:List PY}{caps:List Nat}{g:TG}{tb:OZ->TB}
end
section
variable{X:Cx}{E:St->XK}{K:Po}{st:QF}{H₀:Hp}{B:Ow}{bg:Option (OZ×OZ)}{H H':Hp}{δ:Ds}{β β':Bg}{σ:St}
end
theorem lU1{us:List OX}(h:us.length=1):∃a0,us=[a0]:=Tq.mp h
theorem lU2{us:List OX}(h:us.length=2):∃a0 a1,us=[a0,a1]:=by
 obtain⟨a,l,rfl⟩:=SI h;obtain⟨b,rfl⟩:=lU1 (us:=l) (by simpa using h);exact⟨_,_,rfl⟩
theorem lU3{us:List OX}(h:us.length=3):∃a0 a1 a2,us=[a0,a1,a2]:=by
 obtain⟨a,l,rfl⟩:=SI h;obtain⟨b,c,rfl⟩:=lU2 (us:=l) (by simpa using h);exact⟨_,_,_,rfl⟩
theorem lU4{us:List OX}(h:us.length=4):∃a0 a1 a2 a3,us=[a0,a1,a2,a3]:=by
 obtain⟨a,l,rfl⟩:=SI h;obtain⟨b,c,d,rfl⟩:=lU3 (us:=l) (by simpa using h);exact⟨_,_,_,_,rfl⟩
section
variable{X:Cx}{E:St->XK}{e e1 e2 e3 e4 e5:Expr}{es:List Expr}{pos p:Tz}{f1 f2 f3 f4 f5:FD}{g:FL}{k j n:Nat}{f:OZ}{fd:PL}{ps:List PY}{x:PY}{op:List D->Option D}{r:List V->Hp->VK->Prop}{id T:String}
theorem vv(i:Nat){x:PY}(b:X.N[i]?=on x:=by rfl)(c:Vis X.env.scope x:=by first|exact RB rfl|exact S6 (RB rfl)|exact S6 (S6 rfl))(hd:(x==("__debug__":PY))=OW:=by decide)
  (a:(x==("__classdict__":PY))=OW:=by decide):PE X (.Name x pos) (tV X.K (ae i) E):=NU i (pv i b c hd a)
theorem va1(a:PE X e1 (tV X.K f1 E))(b:Pb [e1] X.env=(OW,Qo e1 X.env)::Pb [] X.env:=by rfl):PA X [e1] (tVA X.K (aa f1 aq) E):=ir a gv b
theorem va2(a:PE X e1 (tV X.K f1 E))(b:PE X e2 (tV X.K f2 E))(c:Pb [e1,e2] X.env=(OW,Qo e1 X.env)::Pb [e2] X.env:=by rfl)(d:Pb [e2] X.env=(OW,Qo e2 X.env)::Pb [] X.env:=by rfl):PA X [e1,e2] (tVA X.K (aa f1 (aa f2 aq)) E):=ir a (va1 b d) c
theorem va3(a:PE X e1 (tV X.K f1 E))(b:PE X e2 (tV X.K f2 E))(c:PE X e3 (tV X.K f3 E))(d:Pb [e1,e2,e3] X.env=(OW,Qo e1 X.env)::Pb [e2,e3] X.env:=by rfl)(h:Pb [e2,e3] X.env=(OW,Qo e2 X.env)::Pb [e3] X.env:=by rfl)(i:Pb [e3] X.env=(OW,Qo e3 X.env)::Pb [] X.env:=by rfl):PA X [e1,e2,e3] (tVA X.K (aa f1 (aa f2 (aa f3 aq))) E):=ir a (va2 b c h i) d
theorem va4(a:PE X e1 (tV X.K f1 E))(b:PE X e2 (tV X.K f2 E))(c:PE X e3 (tV X.K f3 E))(d:PE X e4 (tV X.K f4 E))(h:Pb [e1,e2,e3,e4] X.env=(OW,Qo e1 X.env)::Pb [e2,e3,e4] X.env:=by rfl)(i:Pb [e2,e3,e4] X.env=(OW,Qo e2 X.env)::Pb [e3,e4] X.env:=by rfl)(l:Pb [e3,e4] X.env=(OW,Qo e3 X.env)::Pb [e4] X.env:=by rfl)(m:Pb [e4] X.env=(OW,Qo e4 X.env)::Pb [] X.env:=by rfl):PA X [e1,e2,e3,e4] (tVA X.K (aa f1 (aa f2 (aa f3 (aa f4 aq)))) E):=ir a (va3 b c d i l m) h
theorem aN0(δ:Dn)(β:Bg)(r:List D)(a:Bg)(h:aq δ β=on (.ok r,a)):r.length=0:=HE h
structure FB (P:Pt) (w:PV) (K:Po) (mg:PY->Option OX) (base:P7) (k:Nat) (x:PY) (f:OZ) (fd:PL) (ps:List PY) (n:Nat) (m:List D->M D):Prop where
 ok:FnOk P w K mg base (CXE P w) k f fd ps (spF K n m)
 m:mg x=on (.ref f)
 kp:UQ K (.ref f)=OV
 b:aA K fd ps []
theorem vc(G:FB X.prog X.w X.K X.mg X.base j x f fd ps n m)(h:Room k X.A)(ha:PA X (e::es) (tVA X.K g E))(i:j<=k:=by decide)(l:bz (CXE X.prog X.w) X E:=by first|exact dg|exact dW|assumption)(o:Gl X x:=by rfl)
  (hn:∀δ β r d,g δ β=on (.ok r,d)->r.length=n:=by repeat (first|exact aN0|apply aF)) (a:(x==("__debug__":PY))=OW:=by decide) (q:Pb (e::es) X.env=(OW,Qo e X.env)::Pb es X.env:=by rfl) (c:(Q5 pos (Pb es X.env)).any (·.1)=OW:=by rfl):
  PE X (.Call (.Name x p) (e::es) [] pos) (tV X.K (ck m g) E):=yF G.ok (h.mono i) o G.m G.kp G.b l ha hn a q c
theorem cY(hm:X.mg "len"=OR)(ha:PA X (e::es) (tVA X.K g E))(b:Gl X "len":=by rfl)(c:Pb (e::es) X.env=(OW,Qo e X.env)::Pb es X.env:=by rfl)(a:(Q5 pos (Pb es X.env)).any (·.1)=OW:=by rfl):PE X (.Call (.Name "len" p) (e::es) [] pos) (tV X.K (az cJ g) E):=bT lY Ou b hm PySem.boot_len ha (by decide) (by decide) c a
theorem fS(hm:X.mg "sum"=OR)(ha:PA X (e::es) (tVA X.K g E))(b:Gl X "sum":=by rfl)(c:X.calm=OV:=by rfl)(d:Pb (e::es) X.env=(OW,Qo e X.env)::Pb es X.env:=by rfl)(a:(Q5 pos (Pb es X.env)).any (·.1)=OW:=by rfl):PE X (.Call (.Name "sum" p) (e::es) [] pos) (tV X.K (az gn g) E):=bT (BF c) Mq b hm PyProof.Rows.Boot.«sum» ha (by decide) (by decide) d a
theorem kN(hm:X.mg "isinstance"=OR)(ha:PA X (e::es) (tVA X.K g E))(b:Gl X "isinstance":=by rfl)(c:Pb (e::es) X.env=(OW,Qo e X.env)::Pb es X.env:=by rfl)(a:(Q5 pos (Pb es X.env)).any (·.1)=OW:=by rfl):PE X (.Call (.Name "isinstance" p) (e::es) [] pos) (tV X.K (az cD g) E):=bT BH Ov b hm PyProof.Rows.Boot.«isinstance» ha (by decide) (by decide) c a
theorem cso{scope:Scope}(a vars:List PY)(caps:List Nat)(k:scope.kind= .function:=by rfl)(nd:(scope.names.map (·.1)).Nodup:=by decide +kernel)
  (fr:(scope.names.all λy=>y.2 != .free||(X.env.scope.names.lookup y.1==on .cell||X.env.scope.names.lookup y.1==on .free))=OV:=by rfl) (nm:a=vars++caps.map (λj=>X.N.getD j Ss):=by rfl)
  (b:(caps.all λj=>decide (j<X.N.length)&&scope.names.lookup (X.N.getD j Ss)==on .free)=OV:=by rfl):CmpScope X scope a vars caps:=CmpScope.ofB k nd fr nm b
theorem ndc{a:List PY}(h:a.Nodup:=by decide +kernel):(aC X a scope cl C fp s H).N.Nodup:=h
theorem pgN(i:Nat){x:PY}(a:X.N.Nodup)(b:X.N[i]?=on x:=by rfl)(c:Loc X.env.scope x:=by first|exact RB rfl|exact S6 rfl)(d:X.fn x=OV\/X.env.scope.names.lookup x=on .local:=by first|exact .inl rfl|exact .inr rfl|assumption):PG X (.Name x pos) (fj i):=wb a b c d
theorem psS(i:Nat){x:PY}{e:Expr}{pos a:Tz}(b:X.N.Nodup)(c:PE X e te)(d:X.N[i]?=on x:=by rfl)(h:Loc X.env.scope x:=by first|exact RB rfl|exact S6 rfl)(hs:Tw e (on (.Name x a)) pos.line X.env=Ro OW:=by rfl)(l:X.fn x=OV\/X.env.scope.names.lookup x=on .local:=by first|exact .inl rfl|exact .inr rfl|assumption):PS X (.Assign [.Name x a] e pos) (jp te (fj i)):=o6 b d h c hs l
end
theorem bA1{Q:List OX->Prop}(h:∀a,Q [a])(us:List OX)(b:us.length=1):Q us:=by obtain⟨_,rfl⟩:=lU1 b;exact h _
theorem bA2{Q:List OX->Prop}(h:∀a b,Q [a,b])(us:List OX)(c:us.length=2):Q us:=by obtain⟨_,_,rfl⟩:=lU2 c;exact h _ _
theorem bA3{Q:List OX->Prop}(h:∀a b c,Q [a,b,c])(us:List OX)(d:us.length=3):Q us:=by obtain⟨_,_,_,rfl⟩:=lU3 d;exact h _ _ _
theorem bA4{Q:List OX->Prop}(h:∀a b c d,Q [a,b,c,d])(us:List OX)(e:us.length=4):Q us:=by obtain⟨_,_,_,_,rfl⟩:=lU4 e;exact h _ _ _ _
theorem fsc{N Q:List PY}{c:Scope}(a:c.kind= .function:=by rfl)(b:c.isCoroutine=OW:=by rfl)(g:c.isGenerator=OW:=by rfl)(d:N.Nodup:=by decide +kernel)(e:N.take Q.length=Q:=by rfl)(f:∀x∈Q,c.names.lookup x=on .local\/c.names.lookup x=on .cell:=by decide +kernel)(h:∀y∈c.names,y.2≠ .free:=by decide +kernel):FnScope N Q c:=⟨a,b,g,d,e,f,h⟩
end L2.Pu
namespace L2
open PySem PySem.Spec PyProof.Rows
section
variable{prog:Pt}{w:PV}{A:Qn}{E:OX->O7->Prop}{s:O7}{K:Po}
end
section
variable{X:Cx}
end
namespace Pu
section
variable{X:Cx}{E:St->XK}
end
end Pu
end L2
namespace L2.Pu
open PySem PySem.Spec PyProof.Rows
section
variable{X:Cx}{E:St->XK}{a b:Expr}{pos:Tz}{k:Nat}{f C:OZ}{fd:PL}{ps:List PY}{K:Po}
noncomputable def IK:D->D->Option D
 | .bl a,.bl b=>on (.bl (!decide (a=b)))
 |_,_=>OR
def LE(g:Bool->Bool->Bool):R2:=λx y H Q=>∃p q,x= .bl p/\y= .bl q/\Q (.bl (g p q)) H
theorem FG(p q:Bool):(UZ p==UZ q)=decide (p=q):=by cases p<;>cases q<;>rfl
theorem mz:OpR X (QC .IsNot) (LE λp q=>!decide (p=q)):=by
 intro c s g H x y v u Q I d e h;obtain⟨p,q,rfl,rfl,h⟩:=h;cases d;cases e;exact wpAny_isNot_plain rfl ⟨_,H,I,by rw[FG];exact rfl,h⟩
theorem pC:aV K (LE λp q=>!decide (p=q)) IK:=λF H β Q d1 d2 d h i fr c g e k=>by
 unfold IK at e;split at e
 ·cases e
  exact⟨_,_,c,g,k _ H (To.refl fr) rfl⟩
 ·cases e
structure IsC (K:Po) (C:OZ):Prop where
 cl:Cls K C
 ha:RA K (.ref C) "__class__"=on (on (.builtin "object.__class__"))
 hn:specialIn K (.builtin "object.__class__") "__get__"=on (on (.builtin "getset_descriptor.__get__"))
 htk:Yz K (.builtin "object.__class__")=on OV
 hm:mroIn K C (.type "object")=on OV
def IG(K:Po):List V->Hp->VK->Prop:=λxs H Q=>∃x c t b,xs=[x,.ref c]/\TyG K H x t/\Ur K t (.ref c)=on b/\Q (.bl b) H
theorem BG:cX X (.builtin "isinstance") (IG X.K):=by
 intro j s m H xs us Q I r h;obtain⟨x,c,t,b,rfl,ty,e,q⟩:=h;cases r with
 |cons r1 d=>
  cases d with
  |cons d r3=>
   cases r3;cases d;rcases ty with ty|⟨a,ys,rfl,sq,rfl⟩|⟨a,ys,rfl,sq,rfl⟩
   ·exact rH I r1 ty e λl=>⟨.bl b,H,I.tok _,rfl,q⟩
   ·cases r1
    obtain⟨its,_,pl,_⟩:=I.list sq;obtain⟨o,g,i,_⟩:=pl.isList;exact Ub Vm I.kIn ⟨o,g,i⟩ e (λz=>nomatch z) λl=>⟨.bl b,H,I.tok _,rfl,q⟩
   ·cases r1
    obtain⟨its,_,pl,_⟩:=I.tuple sq;obtain⟨o,g,i,_⟩:=pl;exact Ub V8 I.kIn ⟨o,g,i⟩ e (λz=>nomatch z) λl=>⟨.bl b,H,I.tok _,rfl,q⟩
noncomputable def xX(K:Po)(C:OZ):List D->Option D
 |[.obj C' _ _,.adr c]=>if C'=C then(Ur K (.ref C') (.ref c)).map D.bl else OR
 |[x,.adr c]=>(tyD x).bind λt=>(Ur K (.type t) (.ref c)).map D.bl
 |_=>OR
theorem Mr(g:IsC K C):dO K (IG K) (xX K C):=λF H β Q ds d vs fr h e k=>by
 unfold xX at e;split at e
 ·rename_i l ns fs c
  split at e
  ·rename_i z
   subst z;cases q2:Ur K (.ref l) (.ref c)with
   |none=>rw[q2]at e;cases e
   |some b=>
    rw[q2]at e;cases e;obtain⟨v,w,rfl,i,j⟩:=DenL.two h;cases(show w=V.ref c from j);unfold Den at i;obtain⟨a,dx,xs,rfl,_,m,_⟩:=i;exact⟨_,c,_,b,rfl,.inl (.ins m g.cl g.ha g.hn g.htk g.hm),q2,k _ H (To.refl fr) rfl⟩
  ·cases e
 ·rename_i x c _
  cases q:tyD x with
  |none=>rw[q]at e;cases e
  |some t=>
   rw[q]at e;simp only[Qt]at e;cases q2:Ur K (.type t) (.ref c)with
   |none=>rw[q2]at e;cases e
   |some b=>
    rw[q2]at e;cases e;obtain⟨v,w,rfl,i,j⟩:=DenL.two h;cases(show w=V.ref c from j);exact⟨v,c,_,b,rfl,tF q i,q2,k _ H (To.refl fr) rfl⟩
 ·cases e
theorem NY(d:Gl X x)(hm:X.mg x=on (.ref c))(hd:(x==("__debug__":PY))=OW:=by decide):PE X (.Name x pos) (tV X.K (fC (.adr c)) E):=v_c (wc (v:= .ref c) d hm rfl hd) (λ_ _=>rfl)
def uZ(C:OZ)(c:List D->M D)(d e:FD):FD:=λδ=>M.bind (d δ) λx=>M.bind (e δ) λy=>match x,y with
 | .obj C1 _ _,.obj C2 _ _=>if C1=C/\C2=C then c [x,y]else M.fail
 | .obj C1 _ _,.lst _=>if C1=C then c [x,y]else M.fail
 |_,_=>M.fail
def tEqO(K:Po)(C:OZ)(sp:Sp)(E:St->XK)(i j:TE):TE:=λe H Q=>i e H λx m=>j e m λy d=>∃l dx fs,x= .ref l/\d l=on (.ins C dx fs)/\((∃c g h,y= .ref c/\d c=on (.ins C g h))\/∃c ys,y= .ref c/\SqL K d c ys)/\sp [x,y] d Q (E e)
theorem CP{h:P7}{o:PP}{M:WV}(e:h.get? l=on o)(c:o.cls=t):RH M h (YX (.ref l)) t:=by
 have:=(Vl (M:=M) (part:=on headPart) e);exact this.andThen (by rw[c];exact .now)
theorem LD(r:aG v u):u≠ .notImplemented:=by
 rintro rfl;cases v<;>first|(obtain⟨_,q⟩:=r;cases q;done)|(cases r;done)
theorem yh(h:u≠ .notImplemented)(q:Q u s):Yv Q u s:=by
 cases u<;>first|exact q|exact PF rfl h
theorem LY(hm:Meth X.K C "__eq__" f)(G:FnOk X.prog X.w X.K X.mg X.base (CXE X.prog X.w) k f fd ps sp)(r:Room k X.A)(L:aA X.K fd ps [])(N:bz (CXE X.prog X.w) X E)(P:subIn X.K (.type "list") (.ref C)=on OW)
  (ha:PE X a ta) (g:PE X b tb) (i:SD .Eq b=OW):PE X (.Compare a [.Eq] [b] pos) (tEqO X.K C sp E ta tb):=by
 intro d s R H Q I h;refine wpAny_Compare1 (yq ha g I h λv u T x y H2 c U j q=>?_) i;obtain⟨l,dx,fs,rfl,n,Y,q⟩:=q;cases U;obtain⟨mA,O,_⟩:=gj c.hok n;obtain⟨od,J,_⟩:=O.look;obtain⟨m,F⟩:=c.fr;have e:Pf (Py X.prog X.w) X.A (UM (.ref f) [.ref l,u]) (Yv (EP X d R Q)) X.xe T:=by
  refine Qc (li (us:=[.ref l,u]) (vs:=[.ref l,y]) G r L .nil N c (.cons rfl (.cons j .nil)) q) (λw s3 z=>?_) λ_ _ z=>z;obtain⟨Z,H',I',t,q'⟩:=z;exact yh (LD t) ⟨Z,H',I',t,q'⟩
 have B:X.A.units<UL:=by have:=r.un;omega
 refine PySem.W.cmp_ofEq ?_;rcases Y with⟨l2,dx2,fs2,rfl,p⟩|⟨l2,ys,rfl,sq⟩
 ·cases j
  obtain⟨mA2,O2,_⟩:=gj c.hok p;obtain⟨od2,J2,_⟩:=O2.look;exact PySem.W.cmp_K B F c.ok.mod.kin J J2.type (by unfold Yg;rw[QZ,Bool.true_or]) hm.at_ hm.fn e
 ·cases j
  obtain⟨its,_,pl,_⟩:=c.list sq;obtain⟨o,ho,hc,_⟩:=pl.isList;exact PySem.W.cmp_K B F c.ok.mod.kin J (CP ho hc) (by unfold Yg;rw[P];exact U1 _) hm.at_ hm.fn e
theorem jS(hm:Meth X.K C "__eq__" f)(G:FnOk X.prog X.w X.K X.mg X.base (CXE X.prog X.w) k f fd ps (spF X.K 2 mf))(Y:Room k X.A)(Z:aA X.K fd ps [])(hx:bz (CXE X.prog X.w) X E)(hl:subIn X.K (.type "list") (.ref C)=on OW)
  (ha:PE X a (tV X.K fa E)) (o:PE X b (tV X.K fb E)) (p:SD .Eq b=OW:=by first|exact pi _|rfl):PE X (.Compare a [.Eq] [b] pos) (tV X.K (uZ C mf fa fb) E):=by
 refine(LY hm G Y Z hx hl ha o p).imp λq H Q h=>?_;obtain⟨F,δ,β,fr,P,h⟩:=h;refine⟨F,δ,β,fr,P,(run.bind (R:=Den X.K F) h).mono λv H1 u=>ex5 u λd β1 t hd r1=>⟨F,δ,β1,t.fr,P.tr (t.tr fr),(run.bind (R:=Den X.K F) r1).mono λv2 y u=>ex5 u λd2 β2 T g c=>?_⟩⟩;have fail:∀{B:M D},B=M.fail->run (Den X.K F) F E q B y Q β2->False:=λ{B} e r=>by
  obtain⟨r,β',U,_⟩:=r;rw[e]at U;cases U
 have i:=Den.tr (T.tr t.fr) _ _ hd;have j:∀{r3:M D},run (Den X.K F) F E q (mf [d,d2]) y Q β2->spF X.K 2 mf [v,v2] y Q (E q):=λr=>⟨rfl,F,[d,d2],β2,T.fr,DenL.cons i (DenL.cons g DenL.nil),run.toE r⟩;cases d with
 |obj C1 ns ds=>
  cases d2 with
  |lst xs=>
   simp only at c;split at c
   ·rename_i z
    subst z;have m:=i;unfold Den at m;obtain⟨l,dx,ys,I,_,J,_⟩:=m;obtain⟨L,n,N,sq,_⟩:=Den.sqL g;exact⟨l,dx,_,I,J,.inr ⟨L,n,N,sq⟩,j (r3:=M.fail) c⟩
   ·exact(fail rfl c).elim
  |obj C2 ns2 ds2=>
   simp only at c;split at c
   ·rename_i z
    obtain⟨rfl,rfl⟩:=z;have m:=i;unfold Den at m;obtain⟨l,dx,ys,I,_,J,_⟩:=m;have W:=g;unfold Den at W;obtain⟨L,O,n,N,_,h4,_⟩:=W;exact⟨l,dx,_,I,J,.inl ⟨L,O,_,N,h4⟩,j (r3:=M.fail) c⟩
   ·exact(fail rfl c).elim
  |_=>exact(fail rfl c).elim
 |_=>exact(fail (by cases d2<;>rfl) c).elim
theorem oA(c:fa δ β=on (.ok (.obj C ns fs),β1))(d:fb δ β1=on (.ok (.obj C ms gs),β2))(e:mf [.obj C ns fs,.obj C ms gs] β2=on r):uZ C mf fa fb δ β=on r:=by
 unfold uZ;rw[M.bind_ok c,M.bind_ok d];show(if C=C/\C=C then mf _ else M.fail) β2=_;rw[O8 ⟨rfl,rfl⟩];exact e
theorem yA(c:fa δ β=on (.ok (.obj C ns fs),β1))(d:fb δ β1=on (.ok (.lst gs),β2))(e:mf [.obj C ns fs,.lst gs] β2=on r):uZ C mf fa fb δ β=on r:=by
 unfold uZ;rw[M.bind_ok c,M.bind_ok d];show(if C=C then mf _ else M.fail) β2=_;rw[O8 rfl];exact e
theorem ED(C:OZ):Ur K (.ref C) (.ref C)=on OV:=by unfold Ur;rw[O8 (QZ _)]
theorem EJ:xX K C [.obj C ns fs,.adr C]=on (.bl OV):=by
 show(if C=C then(Ur K (.ref C) (.ref C)).map D.bl else OR)=_;rw[O8 rfl,ED];rfl
end
section
variable{X:Cx}{E:St->XK}{a:Expr}{p1 p2 pos1 pos2:Tz}{K:Po}
end
noncomputable def S(n:Nat)(f:Nat->Int):Int:=((O6 n).map f).sum
theorem NJ(f:Nat->Int):S 0 f=0:=rfl
theorem f8(n:Nat)(f:Nat->Int):S (n+1) f=S n f+f n:=by
 unfold S;rw[Sj,P4,Wh];simp
theorem dF(h:∀i<n,f i=g i):S n f=S n g:=by
 unfold S;rw[P0 λi a=>h i (Pw.mp a)]
theorem tj(n:Nat)(f g:Nat->Int):S n (λi=>f i+g i)=S n f+S n g:=qo f g _
theorem l6(n:Nat):S n (λ_=>0)=0:=nC _
theorem OQ(n:Nat)(f:Nat->Int):S n (λi=>-f i)=-S n f:=by
 induction n with
 |zero=>rfl
 |succ n ih=>rw[f8,f8,ih];omega
theorem BR(n m:Nat)(h:Nat->Nat->Int):S n (λi=>S m (λj=>h i j))=S m (λj=>S n (λi=>h i j)):=by
 induction n with
 |zero=>rw[NJ];exact(l6 m).symm
 |succ n ih=>
  rw[f8,ih,←tj];exact dF λj _=>(f8 n _).symm
theorem nE{g:Nat->Int}:∀{l L:List Nat},l.Sublist L->L.Nodup->(l.map g).sum=(L.map λx=>if x∈l then g x else 0).sum
 |_,_,.slnil,_=>rfl
 |l,_,.cons a (l₂:=L) h,nd=>by
  have b:=(Qj.mp nd);have ha:a∉l:=λz=>b.1 (h.subset z);rw[Ph,PQ,O3 ha,nE h b.2,Ts]
 |_,_,.cons₂ a (l₁:=l) (l₂:=L) h,nd=>by
  have b:=(Qj.mp nd);rw[Ph,Ph,PQ,PQ,O8 O5,nE h b.2];congr 2;refine P0 λx d=>?_;have c:x≠a:=λz=>b.1 (z▸d);by_cases q:x∈l
  ·rw[O8 q,O8 (OY _ q)]
  ·rw[O3 q,O3 λz=>(Pq.mp z).elim c q]
theorem ml{l:List Nat}(h:l.Sublist (O6 n)):(l.map g).sum=S n λx=>if x∈l then g x else 0:=nE h V0
theorem wJ{p:Nat->Bool}{g:Nat->Int}:∀l:List Nat,((l.filter p).map g).sum=(l.map λx=>if p x=OV then g x else 0).sum
 |[]=>rfl
 |x::l=>by
  rw[VZ,Ph,PQ,←wJ l];by_cases q:p x=OV
  ·rw[O8 q,O8 q,Ph,PQ]
  ·rw[O3 q,O3 q,Ts]
noncomputable abbrev nI(l:List Nat):List Int:=l.map λ(i:Nat)=>(i:Int)
noncomputable abbrev nL(l:List Nat):D:= .lst ((nI l).map D.int)
theorem wD:∀xs:List Int,inB (.int i) (xs.map D.int)=decide (i∈xs)
 |[]=>rfl
 |x::xs=>by
  have ih:=wD (i:=i) xs;unfold inB at ih⊢;rw[Ph,TK,ih];show(decide (x=i)||_)=_;rw[U9];simp only[Bool.or_eq_true,P3,Pq];constructor
  ·rintro(h|h)
   ·exact .inl h.symm
   ·exact .inr h
  ·rintro(h|h)
   ·exact .inl h.symm
   ·exact .inr h
theorem rN:∀xs:List Int,(xs.map D.int).all dM=OV
 |[]=>rfl
 |_::xs=>rN xs
theorem Mv{xs:List Int}{neg:Bool}:inD neg (.int i) (.lst (xs.map D.int))=on (.bl (if neg then !decide (i∈xs)else decide (i∈xs))):=by
 show(if(dM (.int i)&&(xs.map D.int).all dM)=OV then _ else _)=_;rw[rN,Bool.and_true,O8 (show dM (.int i)=OV from rfl),wD]
theorem Mh{i:Nat}{l:List Nat}:((i:Int)∈nI l)↔i∈l:=by
 constructor
 ·intro h
  obtain⟨j,a,e⟩:=Pp.mp h;exact(Int.ofNat.inj e)▸a
 ·intro h
  exact Pp.mpr ⟨i,h,rfl⟩
theorem uQ{i:Nat}{l:List Nat}{neg:Bool}:inD neg (.int (i:Int)) (nL l)=on (.bl (if neg then !decide (i∈l)else decide (i∈l))):=by
 rw[Mv];simp only[Mh]
theorem kD{α:Type}(xs:List α)(u v:α->D)(p:α->Bool)(d:it δ β=on (.ok (xs.map u),β))
  (e:∀x∈xs,∃δ1,tg (u x) (cSt nv caps δ)=on δ1/\tt δ1 β=on (.ok (p x),β)/\(p x=OV->f δ1 β=on (.ok (v x),β))) (g:xs.length<=Pe):bM nv caps it tg tt (cEm f) δ β=on (.ok (.lst ((xs.filter p).map v)),β):=by
 refine qQ d ?_ (by rw[OS];exact Px (List.length_filter_le _ _) g);have gen:∀xs:List α,(∀x∈xs,∃δ1,tg (u x) (cSt nv caps δ)=on δ1/\tt δ1 β=on (.ok (p x),β)/\(p x=OV->f δ1 β=on (.ok (v x),β)))->cLp tg tt (cEm f) (xs.map u) (cSt nv caps δ) β=on (.ok ((xs.filter p).map v),β):=by
  intro xs
  induction xs with
  |nil=>intro _;rfl
  |cons x xs ih=>
   intro h;obtain⟨δ1,b,a,i⟩:=h x O5;have c:=ih λy j=>h y (OY _ j);rw[Ph,cLp,VZ];cases q:p x with
   |true=>
    rw[q]at a;simp only[b,M.bind,M.ret,a,cEm,i q,c,O8,Ph,QT,QH]
   |false=>
    rw[q]at a;simp only[b,M.bind,M.ret,a,c,Pk,Qe,QH]
 exact gen xs e
theorem ny:∀(n:Nat) (xs:List D),cK n xs=(O6 xs.length).map λ(i:Nat)=>D.tup [.int ((n+i:Nat):Int),xs.getD i .non]
 |n,[]=>rfl
 |n,x::xs=>by
  rw[cK,ny (n+1) xs,Pg,U3,Ph,Pd];congr 1;refine P0 λi _=>?_;simp only[Uh];rw[show n+1+i=n+(i+1) by omega];rfl
noncomputable abbrev bI(b:LP)(i j:Nat):Int×Int:=(b.getD i []).getD j (0,0)
theorem Shp.getD{α:Type}{m:List (List α)}(h:Shp r c m)(a:i<r):m[i]?=on (m.getD i [])/\(m.getD i []).length=c:=by
 obtain⟨row,e,l⟩:=h.at a;have:m.getD i []=row:=by rw[O1,e];rfl
 rw[this];exact⟨e,l⟩
theorem m4{α:Type}{l:List α}{i:Nat}{d:α}(h:i<l.length):l[i]?=on (l.getD i d):=by
 rw[O1,O0 h];rfl
theorem IQ{xs:List Int}(h:i<xs.length):ixD (.lst (xs.map D.int)) (.int (i:Int))=on (.int (xs.getD i 0)):=dD (by rw[O4,m4 h];rfl)
theorem uM{b:LP}(sh:Shp r c b)(a:i<r)(f:j<c):ixD (bD b) (.int (i:Int))=on (.lst ((b.getD i []).map pD))/\ixD (.lst ((b.getD i []).map pD)) (.int (j:Int))=on (pD (bI b i j)):=by
 obtain⟨e,l⟩:=sh.getD a;refine⟨pE (by rw[O4,e];rfl),dD ?_⟩;rw[O4,m4 (d:=(0,0)) (by omega)];rfl
noncomputable def pw(rs:List Int)(a:List Nat):Int:=(a.map λi=>rs.getD i 0).sum
def eJ(cs:List Int)(b:LP)(r:Nat)(a:List Nat)(j:Nat):Int:=cs.getD j 0-S r λi=>if i∈a then 0 else(bI b i j).1
def fN(b:LP)(a:List Nat)(j:Nat):Int:=(a.map λi=>(bI b i j).2).sum
def sL(cs:List Int)(b:LP)(r c:Nat)(a d:List Nat):Int:=S c λj=>if j∈d then eJ cs b r a j else fN b a j
def hF(b:LP)(a c:List Nat)(i j:Nat):Int:=(if i∈a/\j∉c then(bI b i j).2 else 0)-(if i∉a/\j∈c then(bI b i j).1 else 0)
theorem J0{a d:List Nat}(f:a.Sublist (O6 r))(e:d.Sublist (O6 c)):
  sL cs b r c a d=pw cs d+S r λi=>S c λj=>hF b a d i j:=by
 unfold sL pw;rw[ml e,BR,←tj];refine dF λj g=>?_;by_cases q:j∈d
 ·rw[O8 q,O8 q]
  unfold eJ;rw[Int.sub_eq_add_neg,←OQ];congr 1;refine dF λi e=>?_;unfold hF;by_cases z:i∈a
  ·simp[z,q]
  ·simp[z,q]
 ·rw[O3 q,O3 q,Ts]
  unfold fN;rw[ml f];refine dF λi e=>?_;unfold hF;by_cases z:i∈a
  ·simp[z,q]
  ·simp[z,q]
section
variable{X:Cx}{E:St->XK}{o e:Expr}{es:List Expr}{pos p apos:Tz}{x m:PY}{k n:Nat}{f C:OZ}{fd:PL}{ps ks ns:List PY}{kws:List Uz}{st:QF}{sts:List QF}
variable{ns0 names:List PY}{ip:IP}
end
section
variable{P:Pt}{w:PV}{K:Po}{mg:PY->Option OX}{base:P7}
end
section
variable{X:Cx}{E:St->XK}{o:Expr}{pos apos:Tz}{m:PY}{k:Nat}{f C:OZ}{fd:PL}{ps:List PY}
end
section
variable{δ:Dn}{β β1 β2:Bg}
end
end L2.Pu
namespace L2.Pu
open PySem PySem.Spec PyProof PyProof.Rows
section
variable{X:Cx}{K:Po}
end
section
variable{X:Cx}{K:Po}{E:St->XK}{o e:Expr}{apos cpos:Tz}
end
end L2.Pu
namespace L2.Pu
open PySem PySem.Spec PyProof.Rows
section
variable{prog:Pt}{w:PV}{A:Qn}{E:OX->O7->Prop}{s:O7}{l:OZ}{xs:Array (Int×Tok)}
theorem CG(f:A.handled=OR)(c:s.heap.IsTuple l (Xx xs))
  (h:∀h' d t',(∀b o,s.heap.get? b=on o->h'.get? b=on o)->Q (.int (preSum (numAt xs) xs.size) t') {s with heap:=h',toks:=d}):
  Pf (Py prog w) A (UM (.builtin "sum") [.ref l]) Q E s:=by
 have a:l<s.heap.objs.size:=by obtain⟨_,e,_⟩:=c;exact Pz e
 refine call_sum_walkG (Wa c ⟨_,_,_,_,_,_,numAt xs,rfl,Walks.tuple (A:=A.in1) f _ l (Qa a) (Xx xs),⟨⟨_,Pl _ rfl,rfl,rfl⟩,c.at λo e=>OU _ e⟩,λb hb=>?_,(λ_ _=>intItems_at),λh' d t' g=>?_⟩)
 ·show b<(s.heap.push _).objs.size
  rw[QD];rcases Pq.mp hb with rfl|hb
  ·exact UY _
  ·rcases Pq.mp hb with rfl|hb
   ·exact UH a
   ·cases hb
 ·have:=h h' d t' λb o e=>g b o (λhm=>by
   rcases Pq.mp hm with i|hm
   ·exact PF (i▸Pz e) (Qk _)
   ·cases hm) (OU _ e)
  simpa[Xx]using this
end
section
variable{X:Cx}{K:Po}
abbrev IE(K:Po):List V->Hp->VK->Prop:=λxs H Q=>∃(p:OZ) (ns:List Int),xs=[.ref p]/\(SqL K H p (ns.map V.int)\/SqT K H p (ns.map V.int))/\Q (.int ns.sum) H
theorem BE(b:X.calm=OV):cX X (.builtin "sum") (IE X.K):=by
 intro a s f H xs us Q I r h;obtain⟨p,ns,rfl,hq|hq,q⟩:=h
 ·exact rT b a s f H _ us Q I r ⟨p,ns,rfl,hq,q⟩
 ·obtain⟨u,rfl,g⟩:=jR r
  cases g;obtain⟨its,i,pl,l⟩:=I.tuple hq;have c:=pK i;obtain⟨xs,ex⟩:=c.allInts.items;have d:=c.numsOf;have j:its=(Xx xs).toList:=by rw[←ex]
  rw[j,nums_intItems]at d;rw[ex]at pl;refine CG (I.ok.hd b) pl λh' m t' k=>?_;have e:preSum (numAt xs) xs.size=ns.sum:=by rw[preSum_eq,RI (by simp),d]
  rw[e];exact⟨.int ns.sum,H,I.kept k,⟨_,rfl⟩,q⟩
def oK:List D->Option D
 |[.lst xs]=>(ef xs).map λns=> .int ns.sum
 |[.tup xs]=>(ef xs).map λns=> .int ns.sum
 |_=>OR
theorem Mp:dO K (IE K) oK:=λF H β Q ds d vs fr h e k=>by
 unfold oK at e;split at e
 ·rename_i xs
  obtain⟨ns,q,rfl⟩:=UV.mp e;obtain⟨v,rfl,g⟩:=DenL.one h;obtain⟨a,ys,rfl,r,b⟩:=Den.sqL g;rw[intsOf_eq q]at b;have c:=DenL.ints ns b;subst c;exact⟨a,ns,rfl,.inl r,k _ H (To.refl fr) rfl⟩
 ·rename_i xs
  obtain⟨ns,q,rfl⟩:=UV.mp e;obtain⟨v,rfl,g⟩:=DenL.one h;obtain⟨a,ys,rfl,r,b⟩:=Den.sqT g;rw[intsOf_eq q]at b;have c:=DenL.ints ns b;subst c;exact⟨a,ns,rfl,.inr r,k _ H (To.refl fr) rfl⟩
 ·cases e
theorem Lk(ns:List Int):oK [.lst (ns.map D.int)]=on (.int ns.sum):=eD ns
theorem Lj(ns:List Int):oK [.tup (ns.map D.int)]=on (.int ns.sum):=eD ns
end
section
variable{X:Cx}{E:St->XK}{o e e1 e2:Expr}{es:List Expr}{pos p apos:Tz}{x m:PY}{k n:Nat}{f C:OZ}{fd:PL}{ps ks ns:List PY}{kws:List Uz}
end
noncomputable def MD:G:=λ_ _=>OR
theorem vT{st:QF}{K:Po}{E:St->XK}:PS X st (tG K H MD E):=λ_ _ _ _ _ _ h=>by
 obtain⟨_,_,_,_,_,_,_,e,_⟩:=h;cases e
end L2.Pu
namespace L2.Pu
open PySem
noncomputable def facN:Nat->Nat
 |0=>1
 |n+1=>facN n*(n+1)
noncomputable def pr(l:List Nat):Nat:=l.foldr (·*·) 1
theorem LK:pr []=1:=rfl
theorem zo(l m:List Nat):pr (l++m)=pr l*pr m:=by
 induction l with
 |nil=>simp[pr]
 |cons x l ih=>
  show x*pr (l++m)=x*pr l*pr m;rw[ih,TW]
theorem JL{α:Type}{l:List α}{i:Nat}{x:α}(h:l[i]?=on x):l.take (i+1)=l.take i++[x]:=by
 rw[List.take_succ,h];rfl
theorem mv{α:Type}{f:α->Nat}{l:List α}{i:Nat}{x:α}(h:l[i]?=on x):pr ((l.take (i+1)).map f)=pr ((l.take i).map f)*f x:=by
 rw[JL h,P4,zo];simp[pr]
theorem mP:∀n,0<facN n
 |0=>by decide
 |n+1=>Nat.mul_pos (mP n) (by omega)
theorem uX:∀{n m:Nat},n<=m->facN n<=facN m:=by
 intro n m h
 induction h with
 |refl=>exact O9 _
 |step h ih=>exact Px ih (UX _ (by omega))
theorem OL:facN 40<=2^160:=by decide +kernel
theorem uY(h:n<=40):facN n<=2^160:=Px (uX h) OL
theorem zn(h:∀x∈l,0<x):0<pr l:=by
 induction l with
 |nil=>decide
 |cons x l ih=>exact Nat.mul_pos (h x O5) (ih λy a=>h y (OY _ a))
theorem jL{l:List Nat}(h:x∈l):x<=l.sum:=by
 induction l with
 |nil=>cases h
 |cons y l ih=>
  rw[PQ];rcases Pq.mp h with rfl|h
  ·omega
  ·have:=ih h;omega
theorem lI(h:t<=2^m)(hm:m<=999):t<2^1000:=Rw (Px h (X6 (by decide) hm)) (Nat.pow_lt_pow_right (by decide) (by decide))
theorem DM{t n:Nat}(a:t<2^1000)(b:n<2^1000):DN (.int (t:Int)) (.int (n:Int))=on (.int ((t*n:Nat):Int)):=by
 have c:gy (t:Int)=OV:=PH (by rw[VG];exact a);have d:gy (n:Int)=OV:=PH (by rw[VG];exact b);show(if(gy (t:Int)&&gy (n:Int))=OV then _ else _)=_;simp only[c,d,TF,Qb];rfl
theorem OK{t g:Nat}(d:0<g)(a:g<2^1000):IX (.int (t:Int)) (.int (g:Int))=on (.int ((t/g:Nat):Int)):=by
 have b:decide ((0:Int)<(g:Int))=OV:=PH (by omega);have c:decide (((g:Int)).natAbs.log2<9000)=OV:=PH (by
  rw[VG];have:=(X5 (n:=g) (k:=1000) (by omega)).mpr a;omega)
 show(if(decide ((0:Int)<(g:Int))&&decide (((g:Int)).natAbs.log2<9000))=OV then _ else _)=_;simp only[b,c,TF,Qb];rfl
theorem jI(l:List Nat):(nI l).sum=((l.sum:Nat):Int):=by
 induction l with
 |nil=>rfl
 |cons x l ih=>
  show(x:Int)+(nI l).sum=_;rw[ih,PQ,Vg]
theorem sP{l:List Nat}{i:Nat}{d:D}(h:((nI l).map D.int)[i]?=on d):∃n,l[i]?=on n/\d= .int (n:Int):=by
 obtain⟨x,a,rfl⟩:=bV h;obtain⟨n,hn,rfl⟩:=bV a;exact⟨n,hn,rfl⟩
theorem zO(l:List Nat):((nI l).map D.int).length=l.length:=by rw[OS,OS]
def Sq(l:List Nat)(d:D):Prop:=d=nL l\/d= .tup ((nI l).map D.int)
theorem Sq.seq(h:Sq l d):dT d=on ((nI l).map D.int):=by rcases h with rfl|rfl<;>rfl
theorem rg2'(a:0<=i)(b:i<=10^9)(c:0<=j)(d:j<=10^9):nN [.int i,.int j]=on (aU i (j-i).toNat):=by
 have q:(decide (-(2^62)<=i)&&decide (i<2^62)&&decide (-(2^62)<=j)&&decide (j<2^62))=OV:=by
  simp only[PU,P3];omega
 show(if(decide (-(2^62)<=i)&&decide (i<2^62)&&decide (-(2^62)<=j)&&decide (j<2^62))=OV then on (aU i (j-i).toNat)else OR)=_;rw[O8 q]
theorem rg2{n:Nat}(h:n<=1000):nN [.int 2,.int ((n:Int)+1)]=on (aU 2 (n-1)):=by
 rw[rg2' (by decide) (by decide) (by omega) (by omega),show((n:Int)+1-2).toNat=n-1 by omega]
end L2.Pu
namespace L2.Pu
theorem BS(h:∀i<n,f i<=g i):S n f<=S n g:=by
 induction n with
 |zero=>exact XX _
 |succ n ih=>
  rw[f8,f8];have a:=ih λi b=>h i (by omega);have c:=h n (by omega);omega
theorem Jr(n:Nat)(f g:Nat->Int):S n (λi=>f i-g i)=S n f-S n g:=by
 induction n with
 |zero=>rfl
 |succ n ih=>rw[f8,f8,f8,ih];omega
noncomputable def fl(x y:Bool)(l h:Int):Int:=(if x=OV/\y=OW then h else 0)-(if x=OW/\y=OV then l else 0)
def slk(rs cs:Nat->Int)(lo a:Nat->Nat->Int)(r c:Nat)(X Y:Nat->Bool):Int:=
 S c (λj=>if Y j=OV then cs j else 0)-S r (λi=>if X i=OV then rs i else 0)+S r λi=>S c λj=>fl (X i) (Y j) (lo i j) (a i j)
section
variable{rs cs:Nat->Int}{lo hi:Nat->Nat->Int}{r c:Nat}
theorem JS{g:Nat->Nat->Int}(h:∀i<r,∀j<c,lo i j<=g i j/\g i j<=hi i j)(d:∀i<r,rs i=S c (g i))(e:∀j<c,cs j=S r λi=>g i j)(X Y:Nat->Bool):0<=slk rs cs lo hi r c X Y:=by
 have f:S c (λj=>if Y j=OV then cs j else 0)=S r λi=>S c λj=>if Y j=OV then g i j else 0:=by
  rw[BR];refine dF λj a=>?_;cases q:Y j with
  |true=>simp only[O8];exact e j a
  |false=>simp only[Pk,Qe];exact(l6 r).symm
 have k:S r (λi=>if X i=OV then rs i else 0)=S r λi=>S c λj=>if X i=OV then g i j else 0:=by
  refine dF λi hi=>?_;cases q:X i with
  |true=>simp only[O8];exact d i hi
  |false=>simp only[Pk,Qe];exact(l6 c).symm
 unfold slk;rw[f,k,←Jr,←tj];refine Int.le_trans (Int.le_of_eq (l6 r).symm) (BS λi b=>?_);rw[←Jr,←tj];refine Int.le_trans (Int.le_of_eq (l6 c).symm) (BS λj a=>?_);have:=h i b j a;unfold fl;cases X i<;>cases Y j<;>simp<;>omega
end
noncomputable def chF:Nat->List (List Nat)
 |0=>[[]]
 |n+1=>chF n++(chF n).map (·++[n])
theorem iA:∀(n:Nat) (l:List Nat),l∈chF n->l.Sublist (O6 n)
 |0,l,h=>by rw[Qd.mp h];exact .slnil
 |n+1,l,h=>by
  rw[Sj];rcases QY.mp h with h|h
  ·exact(iA n l h).trans (List.sublist_append_left _ _)
  ·obtain⟨a,h',rfl⟩:=Pp.mp h
   exact(iA n a h').append (Vh _)
theorem wU:∀n:Nat,(chF n).length=2^n
 |0=>rfl
 |n+1=>by
  rw[chF,Pn,OS,wU n,Nat.pow_succ];omega
section
variable{rs cs:List Int}{b:LP}{r c:Nat}
abbrev slB(rs cs:List Int)(b:LP)(r c:Nat)(X Y:Nat->Bool):Int:=slk (λi=>rs.getD i 0) (λj=>cs.getD j 0) (λi j=>(bI b i j).1) (λi j=>(bI b i j).2) r c X Y
theorem Lo{a d:List Nat}(e:a.Sublist (O6 r))(f:d.Sublist (O6 c)):sL cs b r c a d-pw rs a=slB rs cs b r c (λi=>decide (i∈a)) (λj=>decide (j∈d)):=by
 rw[J0 e f];unfold pw slB slk;rw[ml f,ml e];have h:∀(n:Nat) (l:List Nat) (g:Nat->Int),S n (λj=>if decide (j∈l)=OV then g j else 0)=S n (λj=>if j∈l then g j else 0):=λn l g=>dF λj _=>by simp
 rw[h,h];have k:(S r λi=>S c λj=>hF b a d i j)=S r λi=>S c λj=>fl (decide (i∈a)) (decide (j∈d)) (bI b i j).1 (bI b i j).2:=by
  refine dF λi _=>dF λj _=>?_;unfold hF fl;simp
 simp only[k];omega
def uv(cs:List Int)(b:LP)(r c:Nat)(a:List Nat):List Nat:=(O6 c).filter λj=>decide (eJ cs b r a j<fN b a j)
end
end L2.Pu
namespace L2.Pu
open PySem PySem.W
section
variable{tb:String->Option Builtin}{p:Pt}{w:PV}{n₀:Nat}{ann:Option OX}{env:Wc}{q:Tz}
theorem kx(k:Nat){b:List QF}(h:segRun tb p w n₀ ann 1 n s (piecesOf (b.take k) env c pos [XB q])=on (.next,s',c,p'))
  (a:topRun tb p w n₀ ann N s' (restOf (b.drop k) env c p' [XB q])=on r):topRun tb p w n₀ ann (n+N) s (restOf b env c pos [XB q])=on r:=by
 have:=piece_app h a;rwa[RP]at this
theorem EO(e:b=[])(k:topRun tb p w n₀ ann N s ⟨doneF .next,c,pos,[XB q]⟩=on r):topRun tb p w n₀ ann N s (restOf b env c pos [XB q])=on r:=by
 subst e;exact piece_nil k
end
end L2.Pu
namespace L2.Hs
open PySem PySem.SetTable
def Rs(xs:Array Nat):Prop:=∀i k x y:Nat,i<k->xs[i]?=on x->xs[k]?=on y->x<y
theorem ou{xs:Array Nat}(r:Rs xs):∀(fuel lo c:Nat),lo<=c->c<=xs.size->c-lo<=fuel->(∀i x,i<lo->xs[i]?=on x->x<j)->(∀i x,c<=i->xs[i]?=on x->j<=x)->
  below.go xs j fuel lo c<=xs.size/\(∀i x,i<below.go xs j fuel lo c->xs[i]?=on x->x<j)/\∀i x,below.go xs j fuel lo c<=i->xs[i]?=on x->j<=x
 |0,lo,c,h1,h2,h3,a,b=>by
  have:lo=c:=by omega
  subst this;exact⟨h2,a,b⟩
 |fuel+1,lo,c,h1,h2,h3,a,b=>by
  unfold below.go;by_cases q:lo<c
  ·rw[O8 q]
   simp only;have hm:(lo+c)/2<xs.size:=by omega
   have e:xs[(lo+c)/2]?=on (xs.getD ((lo+c)/2) j):=by simp[RX,hm]
   by_cases z:xs.getD ((lo+c)/2) j<j
   ·rw[O8 z]
    refine ou r fuel _ _ (by omega) h2 (by omega) (λi x f d=>?_) b;by_cases w:i=(lo+c)/2
    ·subst w
     rw[e]at d;cases d;exact z
    ·exact Ud (r i ((lo+c)/2) x _ (by omega) d e) z
   ·rw[O3 z]
    refine ou r fuel _ _ (by omega) (by omega) (by omega) a (λi x f d=>?_);by_cases w:i=(lo+c)/2
    ·subst w
     rw[e]at d;cases d;omega
    ·have:=r ((lo+c)/2) i _ x (by omega) e d
     omega
  ·rw[O3 q]
   have:lo=c:=by omega
   subst this;exact⟨h2,a,b⟩
theorem iT{xs:Array Nat}(r:Rs xs):below xs j<=xs.size/\(∀i x,i<below xs j->xs[i]?=on x->x<j)/\∀i x,below xs j<=i->xs[i]?=on x->j<=x:=
 ou r xs.size 0 xs.size (QW _) (O9 _) (by omega) (λi x h=>PF h (RE i)) (λi x h e=>by
  have:=(Qx.mp e).1;omega)
theorem FH(r:Rs xs)(h:xs[i]?=on j):below xs j=i:=by
 obtain⟨c,a,b⟩:=iT (j:=j) r;rcases Sy (below xs j) i with q|q|q
 ·have d:=(Qx.mp h).1
  have e:xs[below xs j]?=on xs[below xs j]:=getElem?_pos xs _ (by omega);have:=b _ _ (O9 _) e;have:=r _ _ _ _ q e h;omega
 ·exact q
 ·have:=a _ _ q h
  omega
theorem rh{t:Qm}(r:Rs t.place)(h:t.place[i]?=on j):t.slot j= .live i:=by
 unfold slot;simp only[FH r h,h,QZ,Qb]
theorem xm{t:Qm}(d:t.dummies=#[])(h:∀i:Nat,t.place[i]?≠on j):t.slot j= .empty:=by
 unfold slot;have a:(t.place[below t.place j]?==on j)=OW:=by
  rw[W2];exact h _
 have b:has t.dummies j=OW:=by unfold has;rw[d];rfl
 simp only[a,b,Pk,Qe]
noncomputable def itr(t:Qm):Nat->Probe->Probe
 |0,p=>p
 |n+1,p=>itr t n (t.advance p)
theorem nY(t:Qm):∀(n:Nat) (p:Probe),itr t (n+1) p=t.advance (itr t n p)
 |0,p=>rfl
 |n+1,p=>by
  show itr t (n+1) (t.advance p)=t.advance (itr t n (t.advance p));exact nY t n (t.advance p)
theorem mF(t:Qm):∀(n m:Nat) (p:Probe),itr t (n+m) p=itr t m (itr t n p)
 |0,m,p=>by rw[Rz];rfl
 |n+1,m,p=>by
  rw[show n+1+m=(n+m)+1 by omega];exact mF t n m (t.advance p)
structure Pv (t:Qm) (p:Probe):Prop where
 j:p.j+p.more<=t.mask
 more:p.more<=9
 i:p.i<=t.mask
 pt:p.perturb<2^64
 du:p.dummy=OR
theorem rA{mask i:Nat}(h:i<=mask):i<=runEnd mask i/\runEnd mask i<=mask/\runEnd mask i-i<=9:=by
 unfold runEnd;by_cases q:i+9<=mask
 ·rw[O8 q];omega
 ·rw[O3 q];omega
noncomputable def blk(t:Qm)(i pt:Nat):Probe:={j:=i,more:=runEnd t.mask i-i,i,perturb:=pt,dummy:=OR}
theorem p8{t:Qm}(h:i<=t.mask)(a:pt<2^64):Pv t (blk t i pt):=by
 obtain⟨c,d,b⟩:=rA h;refine⟨?_,b,h,a,rfl⟩;show i+(runEnd t.mask i-i)<=t.mask;omega
theorem rc(t:Qm)(h:Int):t.probeStart h=blk t (bits h % (t.mask+1)) (bits h):=rfl
theorem m3(h:Int):bits h<2^64:=by
 unfold bits;have:=Um h (show(0:Int)<2^64 by decide);have:=T1 h (show(2^64:Int)≠0 by decide);omega
theorem nG(t:Qm)(h:Int):Pv t (t.probeStart h):=by
 rw[rc];exact p8 (by have:=WK (bits h) (show t.mask+1>0 by omega);omega) (m3 h)
noncomputable abbrev lpI(mask i pt:Nat):Nat:=(i*5+1+pt/32) % (mask+1)
theorem BQ{t:Qm}{p:Probe}(h:0<p.more):t.advance p={p with j:=p.j+1,more:=p.more-1}:=by
 unfold advance;rw[O8 h]
theorem wX{t:Qm}{p:Probe}(h:p.more=0)(hd:p.dummy=OR):t.advance p=blk t (lpI t.mask p.i p.perturb) (p.perturb/32):=by
 unfold advance;rw[O3 (by omega)];unfold leap blk;simp only[hd]
theorem xN(mask i pt:Nat):lpI mask i pt<=mask:=by
 have:=WK (i*5+1+pt/32) (show mask+1>0 by omega);unfold lpI;omega
theorem BP{t:Qm}(v:Pv t p):Pv t (t.advance p):=by
 by_cases q:0<p.more
 ·rw[BQ q]
  exact⟨by have:=v.j;show p.j+1+(p.more-1)<=t.mask;omega,by have:=v.more;show p.more-1<=9;omega,v.i,v.pt,v.du⟩
 ·rw[wX (by omega) v.du]
  exact p8 (xN _ _ _) (Rw (Wn _ _) v.pt)
theorem lO:∀(n:Nat) {p:Probe},Pv t p->Pv t (itr t n p)
 |0,_,v=>v
 |n+1,_,v=>lO n (BP v)
theorem qB:∀(k:Nat) {p:Probe},Pv t p->k<=p.more->itr t k p={p with j:=p.j+k,more:=p.more-k}
 |0,p,v,h=>by cases p;rfl
 |k+1,p,v,h=>by
  rw[nY,qB k v (by omega)];rw[BQ (show 0<p.more-k by omega)];simp only[Probe.mk.injEq,and_true,true_and];omega
theorem nZ{t:Qm}{p:Probe}(v:Pv t p):itr t (p.more+1) p=blk t (lpI t.mask p.i p.perturb) (p.perturb/32):=by
 rw[nY,qB _ v (O9 _)];exact wX (RM _) v.du
def cc(mask:Nat):Nat->Nat×Nat->Nat×Nat
 |0,x=>x
 |k+1,x=>cc mask k (lpI mask x.1 x.2,x.2/32)
theorem i6(mask:Nat):∀(k:Nat) (x:Nat×Nat),cc mask (k+1) x=(lpI mask (cc mask k x).1 (cc mask k x).2,(cc mask k x).2/32)
 |0,x=>rfl
 |k+1,x=>i6 mask k _
theorem uN{t:Qm}:∀(k:Nat) {p:Probe},Pv t p->∃n,n<=10*(k+1)/\itr t n p=blk t (cc t.mask (k+1) (p.i,p.perturb)).1 (cc t.mask (k+1) (p.i,p.perturb)).2
 |0,p,v=>⟨p.more+1,by have:=v.more;omega,nZ v⟩
 |k+1,p,v=>by
  obtain⟨n,hn,e⟩:=uN k v;have a:=lO n v;rw[e]at a;refine⟨n+((blk t (cc t.mask (k+1) (p.i,p.perturb)).1 (cc t.mask (k+1) (p.i,p.perturb)).2).more+1),by have:=a.more;omega,?_⟩;rw[mF,e,nZ a,i6 t.mask (k+1)];rfl
def Mk(mask:Nat):Prop:=mask=7\/mask=31\/mask=127
noncomputable def orb(mask:Nat):Nat->Nat->Nat
 |0,i=>i
 |k+1,i=>orb mask k ((i*5+1) % (mask+1))
theorem my(mask:Nat):∀(a b i:Nat),orb mask (a+b) i=orb mask b (orb mask a i)
 |0,b,i=>by rw[Rz];rfl
 |a+1,b,i=>by
  rw[show a+1+b=(a+b)+1 by omega];exact my mask a b _
def IJ(mask:Nat):Bool:=(orb mask (mask+1) 0==0)&&(O6 (mask+1)).all λj=>(O6 (mask+1)).any λk=>orb mask k 0==j
theorem L0{mask:Nat}(h:Mk mask):IJ mask=OV:=by
 rcases h with rfl|rfl|rfl<;>decide +kernel
theorem we{mask i j:Nat}(h:Mk mask)(l:i<=mask)(m:j<=mask):∃k,k<=mask/\orb mask k i=j:=by
 have o:=L0 h;unfold IJ at o;rw[PU,R5,Rp]at o;obtain⟨g,ha⟩:=o;obtain⟨a,e,c⟩:=List.any_eq_true.mp (ha i (Pw.mpr (by omega)));obtain⟨b,f,d⟩:=List.any_eq_true.mp (ha j (Pw.mpr (by omega)));rw[R5]at c d;have:=Pw.mp e;have:=Pw.mp f;by_cases q:a<=b
 ·refine⟨b-a,by omega,?_⟩
  rw[←c,←my,show a+(b-a)=b by omega,d]
 ·refine⟨b+(mask+1)-a,by omega,?_⟩
  rw[←c,←my,show a+(b+(mask+1)-a)=(mask+1)+b by omega,my,g,d]
theorem lh(mask:Nat):∀(k i:Nat),cc mask k (i,0)=(orb mask k i,0)
 |0,i=>rfl
 |k+1,i=>by
  show cc mask k (lpI mask i 0,0/32)=_;rw[show(0/32:Nat)=0 from rfl,lh mask k];rfl
theorem nM(mask:Nat):∀(a b:Nat) (x:Nat×Nat),cc mask (a+b) x=cc mask b (cc mask a x)
 |0,b,x=>by rw[Rz];rfl
 |a+1,b,x=>by
  rw[show a+1+b=(a+b)+1 by omega];exact nM mask a b _
theorem nK(mask:Nat):∀(k:Nat) (x:Nat×Nat),(cc mask k x).2=x.2/32^k
 |0,x=>by simp[cc]
 |k+1,x=>by
  rw[i6,nK mask k x,Xl,Nat.pow_succ]
theorem vY(mask:Nat):∀(k:Nat) (x:Nat×Nat),x.1<=mask->(cc mask k x).1<=mask
 |0,x,h=>h
 |k+1,x,h=>by rw[i6];exact xN _ _ _
theorem OO{t:Qm}(h:Mk t.mask)(v:Pv t p)(a:j<=t.mask):∃n,n<10*turns t.mask/\(itr t n p).j=j:=by
 have z:(cc t.mask 13 (p.i,p.perturb)).2=0:=by
  rw[nK];exact Nat.div_eq_of_lt (PM v.pt (by decide))
 have l:=vY t.mask 13 (p.i,p.perturb) v.i;obtain⟨k,c,e⟩:=we h l a;obtain⟨n,hn,b⟩:=uN (12+k) v;refine⟨n,by unfold turns;omega,?_⟩;rw[b];show(cc t.mask (12+k+1) (p.i,p.perturb)).1=j;rw[show 12+k+1=13+k by omega,nM,show cc t.mask 13 (p.i,p.perturb)=((cc t.mask 13 (p.i,p.perturb)).1,0)from S7 rfl z,lh];exact e
abbrev Lv(t:Qm)(j:Nat):Prop:=∃k:Nat,t.place[k]?=on j
structure Tb (t:Qm) (hs:List Int):Prop where
 km:Mk t.mask
 sz:t.place.size=hs.length
 rs:Rs t.place
 le:∀i j:Nat,t.place[i]?=on j->j<=t.mask
 du:t.dummies=#[]
 nf:t.place.size*5<t.mask*3
 rch:∀(i:Nat) (h:Int) (j:Nat),hs[i]?=on h->t.place[i]?=on j->∃n,(itr t n (t.probeStart h)).j=j/\∀m<n,Lv t (itr t m (t.probeStart h)).j
theorem Mk.odd(h:Mk m):m % 2=1/\7<=m/\m<=127:=by
 rcases h with rfl|rfl|rfl<;>decide
theorem gap{xs:Array Nat}(r:Rs xs):∀n,n<=xs.size->(∀i:Nat,i<n->xs[i]?=on i)\/∃j,j<n/\∀i:Nat,xs[i]?≠on j
 |0,_=> .inl λi h=>PF h (RE i)
 |n+1,h=>by
  rcases gap r n (by omega)with q|⟨j,c,b⟩
  ·have e:xs[n]?=on xs[n]:=getElem?_pos xs n (by omega)
   by_cases z:xs[n]=n
   ·refine .inl λi d=>?_
    by_cases w:i=n
    ·subst w;rw[e,z]
    ·exact q i (by omega)
   ·have lt:n<=xs[n]:=by
     cases n with
     |zero=>omega
     |succ m=>
      have:=r m (m+1) _ _ (by omega) (q m (by omega)) e;omega
    refine .inr ⟨n,by omega,λi a=>?_⟩;rcases Sy i n with w|w|w
    ·rw[q i w]at a;cases a;omega
    ·subst w;rw[e]at a;exact z (PR a)
    ·have:=r n i _ _ w e a
     omega
  ·exact .inr ⟨j,by omega,b⟩
theorem Mz{xs:Array Nat}(r:Rs xs):∃j,j<=xs.size/\∀i:Nat,xs[i]?≠on j:=by
 rcases gap r xs.size (O9 _)with q|⟨j,c,a⟩
 ·refine⟨xs.size,O9 _,λi e=>?_⟩
  have b:=(Qx.mp e).1;rw[q i b]at e;cases e;omega
 ·exact⟨j,by omega,a⟩
theorem IV{t:Qm}(r:Rs t.place)(d:t.dummies=#[]):∀(fuel:Nat) (p:Probe) (e:Nat),Pv t p->e<fuel->¬Lv t (itr t e p).j->
  ∃m,m<=e/\(∀a<m,∃i,t.place[i]?=on (itr t a p).j/\hashAt i≠h)/\
   ((¬Lv t (itr t m p).j/\probe.go t hashAt h fuel p=on (.empty (itr t m p).j OR))\/∃i,t.place[i]?=on (itr t m p).j/\hashAt i=h/\probe.go t hashAt h fuel p=on (.candidate (itr t m p).j i (itr t (m+1) p)))
 |0,_,_,_,h,_=>PF h (RE _)
 |fuel+1,p,e,v,hf,he=>by
  unfold probe.go;by_cases q:Lv t p.j
  ·obtain⟨i,b⟩:=q
   rw[rh r b];simp only;by_cases z:hashAt i=h
   ·refine⟨0,QW _,λa hm=>PF hm (RE _),.inr ⟨i,b,z,?_⟩⟩
    rw[O8 (by rw[R5];exact z)];rfl
   ·rw[O3 (by rw[R5];exact z)]
    cases e with
    |zero=>exact PF ⟨i,b⟩ he
    |succ e=>
     obtain⟨m,hm,ha,c⟩:=IV r d fuel (t.advance p) e (BP v) (by omega) he;refine⟨m+1,by omega,λa f=>?_,c⟩;cases a with
     |zero=>exact⟨i,b,z⟩
     |succ a=>exact ha a (by omega)
  ·rw[xm d (λi b=>q ⟨i,b⟩)]
   refine⟨0,QW _,λa hm=>PF hm (RE _),.inl ⟨q,?_⟩⟩;simp only[v.du];rfl
theorem Tb.free{t:Qm}(T:Tb t hs)(v:Pv t p):∃e,e<10*turns t.mask/\¬Lv t (itr t e p).j:=by
 obtain⟨j,f,a⟩:=Mz T.rs;have:=T.nf;have:=T.km.odd;obtain⟨e,b,c⟩:=OO T.km v (show j<=t.mask by omega);exact⟨e,b,λ⟨k,d⟩=>a k (by rw[←c];exact d)⟩
theorem AG{α:Type}{xs:Array α}{p:Nat}{x:α}(b:p<=xs.size)(i:Nat):(insertAt xs p x)[i]?=if i<p then xs[i]? else if i=p then on x else xs[i-1]?:=by
 unfold insertAt;rw[Array.getElem?_append];have a:((xs.extract 0 p).push x).size=p+1:=by simp;omega
 rw[a];by_cases q:i<p
 ·rw[O8 (by omega),O8 q,XE,XR]
  rw[O3 (by omega),WZ];simp;omega
 ·by_cases z:i=p
  ·subst z
   rw[O8 (by omega),O3 (by omega),O8 rfl,XE,XR];rw[O8 (by omega)]
  ·rw[O3 (by omega),O3 q,O3 z,WZ]
   by_cases w:i-1<xs.size
   ·rw[O8 (by omega)]
    congr 1;omega
   ·rw[O3 (by omega),R8 (by omega)]
theorem fX{α:Type}{xs:Array α}{p:Nat}{x:α}(a:p<=xs.size):(insertAt xs p x).size=xs.size+1:=by
 unfold insertAt;simp;omega
theorem Tb.put{t:Qm}{hs:List Int}(T:Tb t hs)(B:¬Lv t j)(hn:(itr t n (t.probeStart h)).j=j)(ha:∀m<n,Lv t (itr t m (t.probeStart h)).j)(nf:(t.place.size+1)*5<t.mask*3):
  (t.put j).1.dummies=#[]/\(t.put j).1.mask=t.mask/\(t.put j).1.place.size=t.place.size+1/\(t.put j).2<=t.place.size/\Tb (t.put j).1 (hs.take (t.put j).2++h::hs.drop (t.put j).2):=by
 obtain⟨b1,b2,b3⟩:=iT (j:=j) T.rs;have hd:has t.dummies j=OW:=by unfold has;rw[T.du];rfl
 have w:(t.put j).1.dummies=#[]:=by
  show(if has t.dummies j=OV then _ else t.dummies)=#[];rw[hd,O3 Pa,T.du]
 have ep:(t.put j).1.place=insertAt t.place (below t.place j) j:=rfl;have g:=λi=>AG (x:=j) b1 i;have A:∀x,Lv t x->Lv (t.put j).1 x:=λx ⟨k,l⟩=>by
  by_cases q:k<below t.place j
  ·exact⟨k,by rw[ep,g,O8 q];exact l⟩
  ·exact⟨k+1,by rw[ep,g,O3 (by omega),O3 (by omega)];exact l⟩
 have it:∀m p,itr (t.put j).1 m p=itr t m p:=λm=>by
  induction m with
  |zero=>intro p;rfl
  |succ m ih=>intro p;exact ih (t.advance p)
 refine⟨w,rfl,by rw[ep,fX b1],b1,⟨T.km,?_,?_,?_,w,?_,?_⟩⟩
 ·rw[ep,fX b1,T.sz]
  have:(t.put j).2<=hs.length:=by rw[←T.sz];exact b1
  simp;omega
 ·intro i k x y r c e
  rw[ep,g]at c e;have C:∀k,t.place[k]?≠on j:=λk l=>B ⟨k,l⟩;by_cases q1:i<below t.place j
  ·rw[O8 q1]at c
   by_cases q2:k<below t.place j
   ·rw[O8 q2]at e
    exact T.rs i k x y r c e
   ·rw[O3 q2]at e
    by_cases q3:k=below t.place j
    ·rw[O8 q3]at e;cases e
     exact b2 i x q1 c
    ·rw[O3 q3]at e
     exact T.rs i (k-1) x y (by omega) c e
  ·rw[O3 q1]at c
   rw[O3 (by omega),O3 (by omega)]at e;by_cases q3:i=below t.place j
   ·rw[O8 q3]at c;cases c
    have J:=b3 (k-1) y (by omega) e;have:y≠j:=λz=>C (k-1) (by rw[e,z]);omega
   ·rw[O3 q3]at c
    exact T.rs (i-1) (k-1) x y (by omega) c e
 ·intro i x c
  rw[ep,g]at c;by_cases q1:i<below t.place j
  ·rw[O8 q1]at c;exact T.le i x c
  ·rw[O3 q1]at c
   by_cases q3:i=below t.place j
   ·rw[O8 q3]at c;cases c
    have v:=lO n (nG t h);have:=v.j;show j<=t.mask;omega
   ·rw[O3 q3]at c;exact T.le _ x c
 ·rw[ep,fX b1];exact nf
 ·intro i h' x F c
  have L:(t.put j).2<=hs.length:=by rw[←T.sz];exact b1
  have u:(t.put j).2=below t.place j:=rfl;rw[ep,g]at c;have d:(if i<below t.place j then hs[i]? else if i=below t.place j then on h else hs[i-1]?)=on h':=by
   rw[←F,u];by_cases q1:i<below t.place j
   ·rw[O8 q1,SO (by rw[Rq];omega),WU q1]
   ·rw[O3 q1,Re (by rw[Rq];omega),Rq,Nat.min_eq_left (by omega)]
    by_cases q3:i=below t.place j
    ·rw[O8 q3,q3,RM];rfl
    ·rw[O3 q3,show i-below t.place j=(i-1-below t.place j)+1 by omega,W1,Yq]
     congr 1;omega
  have f:∀o,hs[o]?=on h'->t.place[o]?=on x->∃n,(itr (t.put j).1 n ((t.put j).1.probeStart h')).j=x/\∀m<n,Lv (t.put j).1 (itr (t.put j).1 m ((t.put j).1.probeStart h')).j:=λo a b=>by
   obtain⟨H,I,u⟩:=T.rch o h' x a b;refine⟨H,by rw[it];exact I,λm hm=>?_⟩;rw[it];exact A _ (u m hm)
  by_cases q1:i<below t.place j
  ·rw[O8 q1]at c d
   exact f i d c
  ·rw[O3 q1]at c d
   by_cases q3:i=below t.place j
   ·rw[O8 q3]at c d
    cases c;cases d;refine⟨n,by rw[it];exact hn,λm hm=>?_⟩;rw[it];exact A _ (ha m hm)
   ·rw[O3 q3]at c d
    exact f (i-1) d c
theorem uO{t u:Qm}(h:t.mask=u.mask):∀(n:Nat) (p:Probe),itr t n p=itr u n p
 |0,p=>rfl
 |n+1,p=>by
  show itr t n (t.advance p)=itr u n (u.advance p);have:t.advance p=u.advance p:=by unfold advance;rw[h]
  rw[this];exact uO h n _
theorem xk{t u:Qm}(h:t.mask=u.mask)(x:Int):t.probeStart x=u.probeStart x:=by unfold probeStart;rw[h]
noncomputable abbrev tm(mask:Nat):Qm:={mask,place:=#[],dummies:=#[],finger:=0,led:=OV,moves:=0,plain:=OV}
noncomputable abbrev fr(owner:Array (Option Nat))(j:Nat):Bool:=(owner.getD j (on 0)).isNone
theorem mM{mask:Nat}{owner:Array (Option Nat)}:∀(fuel i pt:Nat),i<=mask->pt<2^64->(∃b,b<fuel/\fr owner (cc mask b (i,pt)).1=OV)->
  ∃n,layClean.free mask owner fuel i pt=on (itr (tm mask) n (blk (tm mask) i pt)).j/\fr owner (itr (tm mask) n (blk (tm mask) i pt)).j=OV/\∀m<n,fr owner (itr (tm mask) m (blk (tm mask) i pt)).j=OW
 |0,_,_,_,_,⟨b,h,_⟩=>PF h (RE b)
 |fuel+1,i,pt,hi,hp,⟨b,hb,hf⟩=>by
  have v:=p8 (t:=tm mask) hi hp;obtain⟨r1,A,r3⟩:=rA hi;have f:(blk (tm mask) i pt).more=runEnd mask i-i:=rfl;have d:∀k,k<=runEnd mask i-i->(itr (tm mask) k (blk (tm mask) i pt)).j=i+k:=λk c=>by
   rw[qB k v c];rfl
  unfold layClean.free;split
  ·rename_i k c
   obtain⟨g,l,o⟩:=List.find?_range_eq_some.mp c;have:=Pw.mp l;refine⟨k,by rw[d k (by omega)],by rw[d k (by omega)];exact g,λm hm=>?_⟩;rw[d m (by omega)];have:=o m hm;simpa using this
  ·rename_i c
   have hn:∀k,k<=runEnd mask i-i->fr owner (i+k)=OW:=λk p=>by
    have:=List.find?_range_eq_none.mp c k (by omega);simpa using this
   cases b with
   |zero=>
    have r:=hn 0 (by omega);exact PF hf (by rw[show(cc mask 0 (i,pt)).1=i+0 from rfl,r];exact Pa)
   |succ b=>
    obtain⟨n,u,w,y⟩:=mM fuel (lpI mask i pt) (pt/32) (xN _ _ _) (Rw (Wn _ _) hp) ⟨b,by omega,hf⟩;have a:∀m,itr (tm mask) (runEnd mask i-i+1+m) (blk (tm mask) i pt)=itr (tm mask) m (blk (tm mask) (lpI mask i pt) (pt/32)):=λm=>by
     rw[mF,←f,nZ v];rfl
    refine⟨runEnd mask i-i+1+n,by rw[a];exact u,by rw[a];exact w,λm hm=>?_⟩;by_cases q:m<=runEnd mask i-i
    ·rw[d m q];exact hn m q
    ·obtain⟨e,rfl⟩:∃e,m=runEnd mask i-i+1+e:=⟨m-(runEnd mask i-i+1),by omega⟩
     rw[a];exact y e (by omega)
structure Ow (mask:Nat) (owner:Array (Option Nat)) (hs:List Int):Prop where
 sz:owner.size=mask+1
 lt:∀j k:Nat,owner[j]?=on (on k)->k<hs.length
 un:∀j j' k:Nat,owner[j]?=on (on k)->owner[j']?=on (on k)->j=j'
 cn:owner.toList.countP (·.isSome)=hs.length
 ex:∀(k:Nat) (h:Int),hs[k]?=on h->∃j n:Nat,owner[j]?=on (on k)/\(itr (tm mask) n ((tm mask).probeStart h)).j=j/\∀m<n,∃k':Nat,owner[(itr (tm mask) m ((tm mask).probeStart h)).j]?=on (on k')
theorem x9{mask:Nat}{owner:Array (Option Nat)}(hs:owner.size=mask+1){j:Nat}(b:j<=mask):(fr owner j=OV↔owner[j]?=on OR)/\(fr owner j=OW↔∃k:Nat,owner[j]?=on (on k)):=by
 have e:owner[j]?=on owner[j]:=getElem?_pos owner j (by omega);have a:owner.getD j (on 0)=owner[j]:=by simp[RX,show j<owner.size by omega]
 unfold fr;rw[a,e];cases owner[j]<;>simp
theorem Ow.step{mask:Nat}{owner:Array (Option Nat)}{hs:List Int}(O:Ow mask owner hs)(h:Int)(hm:Mk mask)(U:hs.length<=mask):
  ∃j,layClean.free mask owner (turns mask) (bits h % (mask+1)) (bits h)=on j/\Ow mask (owner.setIfInBounds j (on hs.length)) (hs++[h]):=by
 have u:bits h % (mask+1)<=mask:=by have:=WK (bits h) (show mask+1>0 by omega);omega
 have⟨v,h1,h2⟩:∃v,v<=mask/\fr owner v=OV:=by
  refine T0 λz=>?_;have all:∀a∈owner.toList,Option.isSome a=OV:=λa ha=>by
   obtain⟨i,g,e⟩:=SU ha;have L:i<owner.size:=by simpa using g
   have N:fr owner i=OW:=by
    cases q:fr owner i with
    |false=>rfl
    |true=>exact PF ⟨i,by have:=O.sz;omega,q⟩ z
   obtain⟨k,A⟩:=(x9 O.sz (show i<=mask by have:=O.sz;omega)).2.mp N;have:owner[i]?=on a:=by rw[←Sk,O0 g,e]
   rw[this]at A;cases A;rfl
  have:=List.countP_eq_length.mpr all;rw[O.cn]at this;have:=O.sz;simp at*;omega
 have z:(cc mask 13 (bits h % (mask+1),bits h)).2=0:=by
  rw[nK];exact Nat.div_eq_of_lt (PM (m3 h) (by decide))
 have l:=vY mask 13 (bits h % (mask+1),bits h) u;obtain⟨k,A,e⟩:=we hm l h1;have P:fr owner (cc mask (13+k) (bits h % (mask+1),bits h)).1=OV:=by
  rw[nM,show cc mask 13 (bits h % (mask+1),bits h)=((cc mask 13 (bits h % (mask+1),bits h)).1,0)from S7 rfl z,lh];show fr owner (orb mask k _)=OV;rw[e];exact h2
 obtain⟨n,F,H,Q⟩:=mM (owner:=owner) (turns mask) (bits h % (mask+1)) (bits h) u (m3 h) ⟨13+k,by unfold turns;omega,P⟩;have I:∀m,(itr (tm mask) m (blk (tm mask) (bits h % (mask+1)) (bits h))).j<=mask:=λm=>by
  have:=(lO m (p8 (t:=tm mask) u (m3 h))).j;show _<=(tm mask).mask;omega
 generalize J:(itr (tm mask) n (blk (tm mask) (bits h % (mask+1)) (bits h))).j=j at F H;have R:j<=mask:=by rw[←J];exact I n
 have o:owner[j]?=on OR:=(x9 O.sz R).1.mp H;have p:j<owner.size:=by have:=O.sz;omega
 have set:∀x:Nat,(owner.setIfInBounds j (on hs.length))[x]?=if j=x then on (on hs.length)else owner[x]?:=λx=>by
  rw[Array.getElem?_setIfInBounds];by_cases q:j=x
  ·rw[O8 q,O8 q,O8 p]
  ·rw[O3 q,O3 q]
 refine⟨j,F,⟨by rw[Array.size_setIfInBounds];exact O.sz,λx k c=>?_,λx y k c f=>?_,?_,λk h' d=>?_⟩⟩
 ·rw[set]at c
  rw[Pn];by_cases q:j=x
  ·rw[O8 q]at c;cases c;simp
  ·rw[O3 q]at c
   have:=O.lt x k c;omega
 ·rw[set]at c f
  by_cases q:j=x
  ·rw[O8 q]at c;cases c
   by_cases r:j=y
   ·omega
   ·rw[O3 r]at f
    exact PF (O.lt y _ f) (Qk _)
  ·rw[O3 q]at c
   by_cases r:j=y
   ·rw[O8 r]at f;cases f
    exact PF (O.lt x _ c) (Qk _)
   ·rw[O3 r]at f
    exact O.un x y k c f
 ·rw[Array.toList_setIfInBounds,List.countP_set (by simpa using p),O.cn]
  have:owner.toList[j]'(by simpa using p)=OR:=by
   have e:=getElem?_pos owner j p;rw[o]at e;rw[TD];exact(PR e).symm
  rw[this];simp
 ·by_cases q:k<hs.length
  ·rw[SO q]at d
   obtain⟨x,T,a1,a2,a3⟩:=O.ex k h' d;refine⟨x,T,?_,a2,λm hm=>?_⟩
   ·rw[set,O3 (λw=>by subst w;rw[o]at a1;cases a1)];exact a1
   ·obtain⟨B,b⟩:=a3 m hm
    exact⟨B,by rw[set,O3 (λw=>by rw[←w,o]at b;cases b)];exact b⟩
  ·have C:=(Pc.mp d).1
   rw[Pn,Qg]at C;have:k=hs.length:=by omega
   subst this;rw[Re (O9 _),RM]at d;cases d;refine⟨j,n,by rw[set,O8 rfl],J,λm hm=>?_⟩;obtain⟨B,b⟩:=(x9 O.sz (I m)).2.mp (Q m hm);exact⟨B,by rw[rc,set,O3 (λw=>by rw[←w,o]at b;cases b)];exact b⟩
theorem Ow.nil(mask:Nat):Ow mask (Array.replicate (mask+1) OR) []:=by
 have g:∀x:Nat,(Array.replicate (mask+1) (OR:Option Nat))[x]?=if x<mask+1 then on OR else OR:=λx=>Array.getElem?_replicate;refine⟨by simp,λj k h=>?_,λj b k h=>?_,by simp,λk h a=>by simp at a⟩
 ·rw[g]at h
  split at h<;>cases h
 ·rw[g]at h
  split at h<;>cases h
theorem uJ{mask:Nat}(hm:Mk mask):∀(l:List Int) (owner:Array (Option Nat)) (hs:List Int),Ow mask owner hs->hs.length+l.length<=mask+1->∃a,l.foldl (λ(acc:Option (Array (Option Nat)×Nat)) h=>do
   let (owner,k) ←acc
   let j ←layClean.free mask owner (turns mask) (bits h % (mask+1)) (bits h)
   Ro (owner.setIfInBounds j (on k),k+1)) (on (owner,hs.length))=on (a,hs.length+l.length)/\Ow mask a (hs++l)
 |[],owner,hs,O,_=>⟨owner,rfl,by rw[PN];exact O⟩
 |h::l,owner,hs,O,hl=>by
  rw[Pg]at hl;obtain⟨j,e,d⟩:=O.step h hm (by omega);obtain⟨f,b,c⟩:=uJ hm l _ (hs++[h]) d (by rw[Pn,Qg];omega);refine⟨f,?_,by rw[Qv]at c;exact c⟩;rw[List.foldl_cons];simp only[Option.bind_eq_bind,Qt,e];rw[Pn,Qg]at b;rw[Pg,show hs.length+(l.length+1)=hs.length+1+l.length by omega];exact b
theorem Mo{mask:Nat}(hm:Mk mask)(hs:Array Int)(b:hs.size<=mask+1):∃owner,layClean mask hs=on owner/\Ow mask owner hs.toList:=by
 obtain⟨o,e,O⟩:=uJ hm hs.toList _ [] (Ow.nil mask) (by simpa using b);refine⟨o,?_,O⟩;unfold layClean;rw[←Array.foldl_toList];have a:=e;simp only[RC]at a;exact(Qr (Option.map (·.1)) a).trans rfl
theorem uT{α β:Type}{f:α->Option β}{g:α->β}:∀{l:List α},(∀a∈l,f a=on (g a))->l.filterMap f=l.map g
 |[],_=>rfl
 |a::l,h=>by
  rw[QU,h a O5,Ph,uT λb c=>h b (OY a c)]
noncomputable def bW(mask:Nat)(owner:Array (Option Nat)):List (Nat×Nat):=(O6 (mask+1)).filterMap λj=>(owner.getD j OR).map (j,·)
theorem DU{mask:Nat}{owner:Array (Option Nat)}(hs:owner.size=mask+1){j k:Nat}:(j,k)∈bW mask owner↔owner[j]?=on (on k):=by
 unfold bW;rw[Ui];constructor
 ·rintro⟨x,c,e⟩
  have d:=Pw.mp c;have a:owner.getD x OR=owner[x]:=by simp[RX,show x<owner.size by omega]
  rw[a]at e;cases q:owner[x]with
  |none=>rw[q]at e;cases e
  |some f=>
   rw[q]at e;simp only[Qu,WW,Prod.mk.injEq]at e;obtain⟨rfl,rfl⟩:=e;rw[getElem?_pos owner x (by omega),q]
 ·intro e
  have b:=(Qx.mp e).1;refine⟨j,Pw.mpr (by omega),?_⟩;have a:owner.getD j OR=owner[j]:=by simp[RX,b]
  rw[getElem?_pos owner j b]at e;rw[a,PR e];rfl
theorem zX(mask:Nat)(owner:Array (Option Nat)):(bW mask owner).Pairwise λa b=>a.1<b.1:=by
 unfold bW;refine List.Pairwise.filterMap _ (λa f h b d g c=>?_) List.pairwise_lt_range;cases q:owner.getD a OR with
 |none=>rw[q]at d;cases d
 |some k=>
  rw[q]at d;cases e:owner.getD f OR with
  |none=>rw[e]at c;cases c
  |some i=>
   rw[e]at c;cases d;cases c;exact h
theorem zh{t:Qm}{hs:Array Int}(hm:Mk (sizeAbove wanted-1))(nf:hs.size*5<(sizeAbove wanted-1)*3):
  ∃(t':Qm) (c:Array Nat),t.relaid hs wanted=on (t',c)/\c.toList.Perm (O6 hs.size)/\Tb t' (c.toList.map λk=>hs.getD k 0)/\t'.led=t.led/\t'.plain=t.plain:=by
 have ho:=hm.odd;obtain⟨owner,e,O⟩:=Mo hm hs (by omega);generalize P:sizeAbove wanted-1=mask at*;have d:hs.toList.length=hs.size:=by simp
 have f:=zX mask owner;have g:∀{j k:Nat},(j,k)∈bW mask owner↔owner[j]?=on (on k):=DU O.sz;have Q:t.relaid hs wanted=on ({mask,place:=((bW mask owner).map (·.1)).toArray,dummies:=#[],finger:=t.finger,led:=t.led,moves:=t.movedTo mask,plain:=t.plain},((bW mask owner).map (·.2)).toArray):=by
  unfold relaid laid;rw[P,e];rfl
 have perm:((bW mask owner).map (·.2)).Perm (O6 hs.size):=by
  refine(List.perm_ext_iff_of_nodup ?_ V0).mpr λk=>?_
  ·unfold List.Nodup
   rw[UA];refine List.Pairwise.imp_of_mem (R:=λa b=>a.1<b.1) (λ{a b} ha A h z=>?_) f;obtain⟨j,k⟩:=a;obtain⟨r,v⟩:=b;have T:k=v:=z;subst T;have:=O.un j r k (g.mp ha) (g.mp A);have h':j<r:=h;omega
  ·rw[Pp,Pw]
   constructor
   ·rintro⟨⟨j,v⟩,h,rfl⟩
    have:=O.lt j v (g.mp h);rwa[d]at this
   ·intro w
    obtain⟨j,n,B,_⟩:=O.ex k _ (O0 (by rw[d];exact w));exact⟨(j,k),g.mpr B,rfl⟩
 have l:(bW mask owner).length=hs.size:=by
  have:=perm.length_eq;rwa[OS,Pr]at this
 refine⟨_,_,Q,by simpa using perm,?_,rfl,rfl⟩;have pg:∀{i:Nat} {x:Nat},(((bW mask owner).map (·.1)).toArray)[i]?=on x->∃k,(bW mask owner)[i]?=on (x,k):=λ{i x} h=>by
  rw[Vi,O4]at h;cases q:(bW mask owner)[i]? with
  |none=>rw[q]at h;cases h
  |some a=>
   rw[q]at h;cases h;exact⟨a.2,rfl⟩
 have C:∀{j k:Nat},owner[j]?=on (on k)->∃i:Nat,(((bW mask owner).map (·.1)).toArray)[i]?=on j:=λ{j k} h=>by
  obtain⟨i,U,W⟩:=SU (g.mpr h);exact⟨i,by rw[Vi,O4,O0 U,W];rfl⟩
 refine⟨hm,?_,?_,?_,rfl,?_,?_⟩
 ·show(((bW mask owner).map (·.1)).toArray).size=_
  simp
 ·intro i k x y F X Y
  obtain⟨a,ha⟩:=pg X;obtain⟨b,A⟩:=pg Y;obtain⟨B,H⟩:=Pc.mp ha;obtain⟨Z,e2⟩:=Pc.mp A;have:=RT.mp f i k B Z F;rw[H,e2]at this;exact this
 ·intro i j h
  obtain⟨a,ha⟩:=pg h;have:=(Qx.mp (g.mp (PD ha))).1;have:=O.sz;show j<=mask;omega
 ·show(((bW mask owner).map (·.1)).toArray).size*5<mask*3
  have:(((bW mask owner).map (·.1)).toArray).size=hs.size:=by simp[l]
  omega
 ·intro i h j I hj
  obtain⟨k,w⟩:=pg hj;have o:=g.mp (PD w);have eh:hs.toList[k]?=on h:=by
   rw[O4]at I;have H:((bW mask owner).map (·.2)).toArray.toList[i]?=on k:=by
    show((bW mask owner).map (·.2))[i]?=_;rw[O4,w];rfl
   rw[H]at I;have L:k<hs.size:=by have:=O.lt j k o;rwa[d]at this
   have:hs.getD k 0=h:=PR I;rw[Sk,getElem?_pos hs k L,←this];simp[RX,L]
  obtain⟨r,n,a1,a2,a3⟩:=O.ex k h eh;have:=O.un j r k o a1;subst this;have tr:∀(u:Qm),u.mask=mask->∀m,itr u m (u.probeStart h)=itr (tm mask) m ((tm mask).probeStart h):=λu N m=>by
   rw[xk (u:=tm mask) N,uO (u:=tm mask) N]
  refine⟨n,by rw[tr _ rfl];exact a2,λm J=>?_⟩;rw[tr _ rfl];obtain⟨v,p⟩:=a3 m J;exact C p
theorem rC{t:Qm}(a:t.probe f h p=r)(T:Tb t hs)(v:Pv t p)(b:e<10*turns t.mask)(c:¬Lv t (itr t e p).j):
  ∃m,m<=e/\(∀d<m,∃i,t.place[i]?=on (itr t d p).j/\f i≠h)/\
   ((¬Lv t (itr t m p).j/\r=on (.empty (itr t m p).j OR))\/∃i,t.place[i]?=on (itr t m p).j/\f i=h/\r=on (.candidate (itr t m p).j i (itr t (m+1) p))):=by
 subst a;exact IV T.rs T.du _ p e v b c
section
variable{prog:Pt}{w:PV}{A:Qn}{E:OX->O7->Prop}{s:O7}
noncomputable abbrev IKd(prog:Pt)(w:PV):HeapKind prog w (List Int):=tupleKind (Vv prog w)
noncomputable abbrev hsh(prog:Pt)(w:PV)(k:List Int):Int:=(IKd prog w).hash k
theorem Tb.fits{t:Qm}{hs:List Int}(T:Tb t hs)(hn:hs.length=n):t.fits n=OV:=by
 have:=T.nf;have:=T.sz;have:=T.km.odd;unfold Wk SetTable.fill;rw[T.du];simp;omega
theorem items_int(h:ItemsAre (Vv prog w) ks vs):∀v∈vs,∃n t,v=SE n t:=by
 induction h with
 |nil=>intro v hv;cases hv
 |@cons k v' ks vs h1 _ ih=>
  intro v hv;rcases Pq.mp hv with rfl|hv
  ·obtain⟨t,e⟩:=VI h1
   exact⟨_,t,e⟩
  ·exact ih v hv
theorem yH{M:WV}{o:PP}(b:s.heap.get? a=on o)(h:Q o.cls s):Pf M A (YX (.ref a)) Q E s:=by
 show Pf M A (loadPart a _>>=_) Q E s;exact My (XD b (OT h))
theorem ut(f:(IKd prog w).is s.heap k x)(h:Q OW s):Pf (Py prog w) A (Wu 8 (.ref x)) Q E s:=by
 obtain⟨o,b,n,e,g,hd,i⟩:=f;unfold Wu;refine My (yH e ?_);rw[g];simp only[QZ,Qb];refine My (OT ?_);simp only[QK,Pk,Qe];refine My (Q9 e hd ?_);refine My ?_;show Pf _ _ (forIn b _ _) _ _ s;rw[←S9];refine Vn _ (λrest r s'=>r.1=OR/\s'=s/\∀v∈rest,∃n t,v=SE n t) _ ?_ ?_ _ _ ⟨rfl,rfl,items_int i⟩
 ·rintro v rest r s' ⟨c,rfl,a⟩
  obtain⟨n,t,rfl⟩:=a v O5;unfold Wu;refine My (OT ?_);simp only[Pk,Qe];exact OT ⟨rfl,rfl,λu d=>a u (OY _ d)⟩
 ·rintro⟨r1,j⟩ s' ⟨c,rfl,_⟩
  simp only at c;subst c;exact OT h
theorem FE(e:(IKd prog w).is s.heap k x)(h:Q OV s):Pf (Py prog w) A (hashByValue 8 (.ref x)) Q E s:=by
 have f:=W0 (s:=s) e;obtain⟨o,b,n,g,j,hd,i⟩:=e;unfold hashByValue;refine My (SA f F.slot_tuple_hash.lookup ?_);simp only;refine My (Q9 g hd ?_);refine My ?_;show Pf _ _ (forIn b _ _) _ _ s;rw[←S9];refine Vn _ (λrest r s'=>r.1=OR/\s'=s/\∀v∈rest,∃n t,v=SE n t) _ ?_ ?_ _ _ ⟨rfl,rfl,items_int i⟩
 ·rintro v rest r s' ⟨c,rfl,a⟩
  obtain⟨n,t,rfl⟩:=a v O5;unfold hashByValue;refine My (OT ?_);simp only[QK,Pk,Qe];exact OT ⟨rfl,rfl,λu d=>a u (OY _ d)⟩
 ·rintro⟨r1,l⟩ s' ⟨c,rfl,_⟩
  simp only at c;subst c;exact OT h
theorem Ko(f:(IKd prog w).is s.heap k x):∀(l:List (List Int×OZ)) {Q:Bool->O7->Prop},(∀y∈l,(IKd prog w).is s.heap y.1 y.2)->Q OW s->Pf (Py prog w) A (Ww (.ref x) (l.map λy=>Pj y.2)) Q E s:=by
 intro l Q h i;unfold Ww;refine My ?_;refine Vn _ (λrest r s'=>r.1=OR/\s'=s/\∃b:List (List Int×OZ),rest=b.map (λy=>Pj y.2)/\∀y∈b,(IKd prog w).is s.heap y.1 y.2) _ ?_ ?_ _ _ ⟨rfl,rfl,l,rfl,h⟩
 ·rintro v rest r s' ⟨d,rfl,b,e,a⟩
  cases b with
  |nil=>cases e
  |cons y b=>
   cases e;have g:=a y O5;have nxt:(OR:Option Bool)=OR/\s'=s'/\∃c:List (List Int×OZ),b.map (λy=>Pj y.2)=c.map (λy=>Pj y.2)/\∀y∈c,(IKd prog w).is s'.heap y.1 y.2:=⟨rfl,rfl,b,rfl,λu j=>a u (OY y j)⟩;by_cases q:x==y.2
   ·simp only[q,Bool.true_or,Qb]
    exact OT nxt
   ·simp only[q,Bool.false_or,carriedByValue,Uf,Pk,Qe]
    refine My ((IKd prog w).quiet f ?_);simp only[QK,Pk,Qe];refine My ((IKd prog w).quiet g ?_);simp only[QK,Pk,Qe];refine My (ut f ?_);simp only[Pk,Qe];refine My (ut g ?_);simp only[Pk,Qe];exact OT nxt
 ·rintro⟨r1,m⟩ s' ⟨d,rfl,_⟩
  simp only at d;subst d;exact OT i
theorem y6{o:PP}{es:Array (Int×OX)}{t:Qm}{xs:List (List Int×OZ)}(hu:A.units<UL)(ho:s.heap.get? a=on o)(hd:o.data= .set es ep t)
  (H:es.toList=xs.map λx=>(hsh prog w x.1,Pj x.2)) (hx:∀x∈xs,(IKd prog w).is s.heap x.1 x.2) (T:Tb t (xs.map λx=>hsh prog w x.1)) (hk:(IKd prog w).is s.heap k b)
  (he:e<10*turns t.mask) (R:¬Lv t (itr t e (t.probeStart (hsh prog w k))).j) (ha:∀m<e,Lv t (itr t m (t.probeStart (hsh prog w k))).j)
  (q1:k∈xs.map (·.1)->Q (.there OR) s) (q2:k∉xs.map (·.1)->Q (.free (itr t e (t.probeStart (hsh prog w k))).j OW) s):
  ∀(n c m:Nat) (st:Option Probe),e=m+n->n<c->st.getD (t.probeStart (hsh prog w k))=itr t m (t.probeStart (hsh prog w k))->(∀g<m,∀(i:Nat) x,t.place[i]?=on (itr t g (t.probeStart (hsh prog w k))).j->xs[i]?=on x->x.1≠k)->
   Pf (Py prog w) A (setSearchFrom a (.ref b) (hsh prog w k) OV c st) Q E s:=by
 have hsz:es.size=xs.length:=by rw[←PZ,H,OS]
 have U:t.fits es.size=OV:=T.fits (by rw[OS,hsz]);have l:∀i:Nat,es[i]?=(xs[i]?).map λx=>(hsh prog w x.1,Pj x.2):=λi=>by rw[←Sk,H,O4]
 have gw:t.gaveWay=OW:=by
  have:=T.km.odd;unfold SetTable.gaveWay;rw[W2];omega
 intro n
 induction n using Nat.strongRecOn with
 |_ n ih=>
  intro c m st em hfu hst p;cases c with
  |zero=>omega
  |succ c=>
   unfold setSearchFrom;refine My (Q7 ho hd U ?_)
   dsimp only
   rw[hst,gw];simp only[Pk,Qe];have v:=lO m (nG t (hsh prog w k));have it:∀n',itr t n' (itr t m (t.probeStart (hsh prog w k)))=itr t (m+n') (t.probeStart (hsh prog w k)):=λn'=>(mF t m n' _).symm;have same:∀{i O j:Nat},t.place[i]?=on j->t.place[O]?=on j->i=O:=λ{i O j} u C=>by
    rcases Sy i O with q|q|q
    ·exact PF (T.rs i O j j q u C) (Qk j)
    ·exact q
    ·exact PF (T.rs O i j j q C u) (Qk j)
   split
   ·rename_i W heq
    obtain⟨g,hm',r,d⟩:=rC heq T v (e:=n) (by omega) (by rw[it,←em];exact R);rcases d with⟨X,I⟩|⟨i,P,hfi,I⟩
    ·cases I
     have Y:g=n:=by
      rcases VW g n with q|q
      ·rw[it]at X
       exact PF (ha (m+g) (by omega)) X
      ·omega
     subst Y;refine OT ?_;rw[it,←em];refine q2 λZ=>?_;obtain⟨x,hx1,J⟩:=Pp.mp Z;obtain⟨B,hi0,ei0⟩:=SU hx1;have h:xs[B]?=on x:=by rw[O0 hi0,ei0]
     have L:B<t.place.size:=by have:=T.sz;rw[OS]at this;omega
     obtain⟨F,a1,a2⟩:=T.rch B (hsh prog w k) t.place[B] (by rw[O4,h,←J];rfl) (getElem?_pos t.place B L);have hlt:F<e:=by
      rcases Sy F e with q|q|q
      ·exact q
      ·subst q
       exact PF ⟨B,by rw[a1];exact getElem?_pos t.place B L⟩ R
      ·exact PF (a2 e q) R
     have hp0:t.place[B]?=on (itr t F (t.probeStart (hsh prog w k))).j:=by rw[a1];exact getElem?_pos t.place B L
     by_cases q:F<m
     ·exact p F q B x hp0 h J
     ·obtain⟨i,u,C⟩:=r (F-m) (by omega)
      rw[it,show m+(F-m)=F by omega]at u;have:=same u hp0;subst this;refine C ?_;show(es[i]?.map (·.1)).getD 0=_;rw[l,h,←J];rfl
    ·cases I
     have N:i<xs.length:=by
      have u:=(Qx.mp P).1;have:=T.sz;rw[OS]at this;omega
     have h:xs[i]?=on xs[i]:=O0 N;have hei:es[i]?=on (hsh prog w xs[i].1,Pj xs[i].2):=by rw[l,h];rfl
     have hxk:=hx xs[i] (Qh N);rw[it]at P;simp only;have el:(Rk (λx=>x.snd) (Array.filter (λx=>x.fst==hsh prog w k) es).toList)=(xs.filter λy=>hsh prog w y.1==hsh prog w k).map λy=>Pj y.2:=by
      rw[Array.toList_filter,H,Wf,Pd];rfl
     rw[el];have seen:∀{Q':Bool->O7->Prop},Q' OW s->Pf (Py prog w) A (Ww (.ref b) ((xs.filter λy=>hsh prog w y.1==hsh prog w k).map λy=>Pj y.2)) Q' E s:=λhq=>Ko hk _ (λy hy=>hx y (Vb.mp hy).1) hq;have sm:t.sameMemory t.moves t.mask=on OV:=by unfold sameMemory;simp
     have sl:t.slot (itr t (m+g) (t.probeStart (hsh prog w k))).j= .live i:=rh T.rs P;cases hled:t.led
     all_goals simp only[RN,QK,Pk,Qb,Qe,it,hei]
     all_goals try refine My (seen ?_)
     all_goals try simp only[Pk,Qe]
     all_goals
      refine My (QO ((IKd prog w).eqBool hu hxk hk (My (Q7 ho hd U ?_))));simp only[Sm];by_cases q:xs[i].1=k
      ·rw[O8 (PH q)]
       exact OT (q1 (Pp.mpr ⟨xs[i],Qh N,q⟩))
      ·rw[O3 (by simpa using q)]
       simp only[sm,Qb,sl,hei];refine My ?_;unfold isSame;simp only[QZ,Qb];refine OT (My (OT ?_));simp only[Qb];rw[O3 (by simpa using q)];have Y:g<n:=by
        rcases VW g n with z|z
        ·exact z
        ·obtain rfl:g=n:=by omega
         rw[←em]at P;exact PF ⟨i,P⟩ R
       refine ih (n-(g+1)) (by omega) c (m+g+1) _ (by omega) (by omega) rfl λm2 hm2 i2 x2 u C z=>?_;by_cases q1:m2<m
       ·exact p m2 q1 i2 x2 u C z
       ·by_cases q2:m2=m+g
        ·subst q2
         have:=same P u;subst this;rw[h]at C;cases C;exact q z
        ·obtain⟨i3,h3,h4⟩:=r (m2-m) (by omega)
         rw[it,show m+(m2-m)=m2 by omega]at h3;have:=same h3 u;subst this;refine h4 ?_;show(es[i3]?.map (·.1)).getD 0=_;rw[l,C,←z];rfl
   ·rename_i hno
    have key:∀f:Nat->Int,(∀W,t.probe f (hsh prog w k) (itr t m (t.probeStart (hsh prog w k)))=on W->False)->False:=λf U=>by
     obtain⟨g,hm',r,d⟩:=rC (f:=f) rfl T v (e:=n) (by omega) (by rw[it,←em];exact R);rcases d with⟨_,I⟩|⟨i,_,_,I⟩
     ·exact U _ I
     ·exact U _ I
    exact(key _ hno).elim
end
theorem Op{P:Nat->Prop}:∀n,P n->∃m,m<=n/\P m/\∀k<m,¬P k:=by
 intro n
 induction n using Nat.strongRecOn with
 |_ n ih=>
  intro h;by_cases q:∃k,k<n/\P k
  ·obtain⟨k,a,b⟩:=q
   obtain⟨m,d,c⟩:=ih k a b;exact⟨m,by omega,c⟩
  ·exact⟨n,O9 n,h,λk a b=>q ⟨k,a,b⟩⟩
section
variable{prog:Pt}{w:PV}{A:Qn}{E:OX->O7->Prop}{s:O7}
def qU(prog:Pt)(w:PV)(h:P7)(a:OZ)(xs:List (List Int×OZ)):Prop:=
 ∃o es ep t,h.get? a=on o/\o.ExactSet/\o.data= .set es ep t/\(es.toList=xs.map λx=>(hsh prog w x.1,Pj x.2))/\(xs.map (·.1)).Nodup/\(∀x∈xs,(IKd prog w).is h x.1 x.2)/\(Tb t (xs.map λx=>hsh prog w x.1))/\t.plain=OV/\t.led=!(w.params.followText "set-order")
theorem ow{h h':P7}{o:PP}{es ep t}(x:(IKd prog w).is h k b)(i:h.get? a=on o)(hd:o.data= .set es ep t)(hs:PX a h h'):(IKd prog w).is h' k b:=by
 obtain⟨g,c,n,e,j,d,l⟩:=x;have f:b≠a:=by
  rintro rfl;obtain rfl:g=o:=PR (e.symm.trans i);rw[hd]at d;exact nomatch d
 exact⟨g,c,n,(hs.2 b f).trans e,j,d,l⟩
theorem rb{h:P7}{o:PP}(c:h.get? a=on o)(hd:o.data= .set es ep t)(b:Array (Int×OX))(t':Qm):(h.update a (Vd b t')).get? a=on {o with data:= .set b (ep+1) t'}:=by
 have:=Rj (Vd b t') c (by rw[putSet_of b t' hd];rfl);rw[putSet_of b t' hd]at this;exact this
theorem LH{t:Qm}(T:Tb t hs)(j:Nat):(t.put j).1.dummies=#[]/\(t.put j).1.place.size=t.place.size+1/\(t.put j).2<=t.place.size:=by
 obtain⟨b1,b2,b3⟩:=iT (j:=j) T.rs;have hd:has t.dummies j=OW:=by unfold has;rw[T.du];rfl
 refine⟨?_,fX b1,b1⟩;show(if has t.dummies j=OV then _ else t.dummies)=#[];rw[hd,O3 Pa,T.du]
theorem KI{α β:Type}{xs:List α}{ys:Array β}{f:α->β}(e:ys.toList=xs.map f){p:Nat}(c:p<=ys.size)(x:α):(insertAt ys p (f x)).toList=(xs.take p++x::xs.drop p).map f:=by
 unfold insertAt;simp only[Array.toList_append,Yn,Array.toList_extract];have a:(ys.toList.extract 0 p)=ys.toList.take p:=by simp[List.extract]
 have b:(ys.toList.extract p ys.size)=ys.toList.drop p:=by
  simp only[List.extract];rw[RI (by simp)]
 rw[a,b,e,P4,Ph,VA,TL,Qv];rfl
theorem NG{xs:List (List Int×OZ)}(hu:A.units<UL)(S:qU prog w s.heap a xs)(hk:(IKd prog w).is s.heap k b)(hn:xs.length<63)
  (h:∀h' q,PX a s.heap h'->qU prog w h' a q->(k∈xs.map (·.1)->q=xs)->(k∉xs.map (·.1)->q.Perm ((k,b)::xs))->Q (decide (k∉xs.map (·.1))) {s with heap:=h'}):
  Pf (Py prog w) A (setAddHashed a (.ref b) (hsh prog w k)) Q E s:=by
 have S0:=S;obtain⟨o,es,ep,t,U,X,hd,W,hnd,hx,T,hp,J⟩:=S;have F:es.size=xs.length:=by rw[←PZ,W,OS]
 have hf:t.fits es.size=OV:=T.fits (by rw[OS,F]);have Y:t.place.size=xs.length:=by rw[T.sz,OS]
 obtain⟨e0,he0,hl0⟩:=T.free (nG t (hsh prog w k));obtain⟨e,hee,hl,Z⟩:=Op (P:=λe=>¬Lv t (itr t e (t.probeStart (hsh prog w k))).j) e0 hl0;have ha:∀m<e,Lv t (itr t m (t.probeStart (hsh prog w k))).j:=λm hm=>Classical.not_not.mp (Z m hm);have hmk:=T.km.odd;unfold setAddHashed setAddHashedIn;refine QO (My (Q7 U hd hf ?_));have hb:byScan (Pj b) es=OW:=rfl;simp only[hb,Pk,Qe];refine My ?_;unfold setSearch;refine y6 (e:=e) hu U hd W hx T hk (by omega) hl ha (λhm=>?_) (λhm=>?_) e 100000 0 OR (by omega) (by unfold turns at he0;omega) rfl (λm' hm'=>PF hm' (RE _))
 ·refine OT ?_
  have:=h s.heap xs (PX.refl a s.heap) S0 (λ_=>rfl) (λz=>PF hm z);rw[Qw (λz=>z hm)]at this;exact this
 ·have hQ:∀h' q,PX a s.heap h'->qU prog w h' a q->q.Perm ((k,b)::xs)->Q OV {s with heap:=h'}:=λh' q h1 h2 h3=>by
   have:=h h' q h1 h2 (λz=>PF z hm) (λ_=>h3);rwa[PH hm]at this
  simp only;refine My (Q7 U hd hf ?_);generalize hj:(itr t e (t.probeStart (hsh prog w k))).j=j at hl;obtain⟨pd,ps,pl⟩:=LH T j;generalize y:t.put j=tp at pd ps pl;obtain⟨u,p⟩:=tp;simp only at pd ps pl⊢;have l:u.plain=OV:=by
   have:(t.put j).1.plain=t.plain:=rfl;rw[y]at this;rw[this,hp]
  have L:u.led=t.led:=by
   have:(t.put j).1.led=t.led:=rfl;rw[y]at this;exact this
  have v:u.mask=t.mask:=by
   have:(t.put j).1.mask=t.mask:=rfl;rw[y]at this;exact this
  rw[l];simp only[Qb];refine My (FE hk ?_);simp only[Qb];have N:=KI (f:=λx:List Int×OZ=>(hsh prog w x.1,Pj x.2)) W (p:=p) (by omega) (k,b);have B:(insertAt es p (hsh prog w k,Pj b)).size=es.size+1:=fX (by omega);have d:(xs.take p++(k,b)::xs.drop p).Perm ((k,b)::xs):=by
   have:=List.perm_middle (a:=(k,b)) (l₁:=xs.take p) (l₂:=xs.drop p);rwa[RP]at this
  have nd1:((xs.take p++(k,b)::xs.drop p).map (·.1)).Nodup:=by
   refine(d.map (·.1)).nodup_iff.mpr ?_;rw[Ph,Qj];exact⟨hm,hnd⟩
  refine My (wpAny_storeSet_of U hd ?_ (by rw[B,Rv];omega));have H:=QM s.heap a (Vd (insertAt es p (hsh prog w k,Pj b)) u);have g1:=rb U hd (insertAt es p (hsh prog w k,Pj b)) u;have hx1:∀x∈xs.take p++(k,b)::xs.drop p,(IKd prog w).is (s.heap.update a (Vd (insertAt es p (hsh prog w k,Pj b)) u)) x.1 x.2:=λx hx'=>by
   rcases Pq.mp (d.mem_iff.mp hx')with rfl|hx'
   ·exact ow hk U hd H
   ·exact ow (hx x hx') U hd H
  by_cases r:u.tooFull=OV
  ·simp only[r,RN,TF,Qb]
   have fu:u.fill*5≥u.mask*3:=by unfold tooFull at r;exact Ut r
   have fe:u.fill=xs.length+1:=by unfold fill;rw[pd,ps,Y];rfl
   have nf0:=T.nf;have f1:u.fits (insertAt es p (hsh prog w k,Pj b)).size=OV:=by
    unfold Wk;rw[B,fe,ps,Y,F,v];simp;omega
   have wm:Mk (sizeAbove (grown (es.size+1))-1)/\(es.size+1)*5<(sizeAbove (grown (es.size+1))-1)*3/\sizeAbove (grown (es.size+1))<=128:=by
    rw[fe,v]at fu;rw[F];rcases T.km with z|z|z
    ·have:xs.length=4:=by omega
     rw[this];exact⟨.inr (.inl (by decide)),by decide,by decide⟩
    ·have:xs.length=18:=by omega
     rw[this];exact⟨.inr (.inr (by decide)),by decide,by decide⟩
    ·omega
   have C:(Array.map (λx=>x.fst) (insertAt es p (hsh prog w k,Pj b))).size=es.size+1:=by rw[Array.size_map,B]
   obtain⟨t2,c,er,op,T2,led2,I⟩:=zh (t:=u) (hs:=(insertAt es p (hsh prog w k,Pj b)).map (·.1)) (wanted:=grown (es.size+1)) wm.1 (by rw[C];exact wm.2.1);refine My ?_;unfold setRelay;refine My (Q7 g1 rfl f1 ?_);simp only;rw[O3 (by rw[Rv];omega)];rw[er];generalize hE1:insertAt es p (hsh prog w k,Pj b)=es1 at*;generalize hX1:xs.take p++(k,b)::xs.drop p=xs1 at*;have l1:xs1.length=es.size+1:=by rw[d.length_eq,Pg,F]
   have O:∀i,i<xs1.length->es1[i]?=on (hsh prog w (xs1.getD i (k,b)).1,Pj (xs1.getD i (k,b)).2):=λi R=>by
    rw[←Sk,N,O4,O0 R,O1,O0 R];rfl
   have om:∀i∈c.toList,i<xs1.length:=λi R=>by
    have:=Pw.mp (op.mem_iff.mp R);rw[C]at this;omega
   have efl:(c.filterMap λx=>es1[x]?).toList=(c.toList.map λi=>xs1.getD i (k,b)).map λx=>(hsh prog w x.1,Pj x.2):=by
    rw[Array.toList_filterMap,uT (g:=λi=>(hsh prog w (xs1.getD i (k,b)).1,Pj (xs1.getD i (k,b)).2)) λi R=>O i (om i R),Pd];rfl
   have n:(c.toList.map λi=>xs1.getD i (k,b)).Perm xs1:=by
    refine(op.map _).trans (VH ?_);rw[C,←l1];refine SJ (by simp) λi h1 h2=>?_;rw[SK,Tf,O1,O0 h2];rfl
   have fsz:(c.filterMap λx=>es1[x]?).size=es1.size:=by
    rw[←PZ,efl,OS,n.length_eq,l1,B]
   refine My ?_;show Pf _ _ (if((c.filterMap λx=>es1[x]?).size !=es1.size)=OV then _ else _) _ _ _;rw[O3 (by rw[fsz];simp)];refine OT ?_;refine wpAny_storeSet_of g1 rfl ?_ (by rw[fsz,B,Rv];omega);have sb2:=QM (s.heap.update a (Vd es1 u)) a (Vd (c.filterMap λx=>es1[x]?) t2);have g2:=rb g1 rfl (c.filterMap λx=>es1[x]?) t2;refine OT (hQ _ (c.toList.map λi=>xs1.getD i (k,b)) (H.trans sb2) ⟨_,_,_,t2,g2,X,rfl,efl,?_,λx hx'=>?_,?_,by rw[I,l],by rw[led2,L,J]⟩ (n.trans d))
   ·exact(n.map (·.1)).nodup_iff.mpr nd1
   ·exact ow (hx1 x (n.mem_iff.mp hx')) g1 rfl sb2
   ·have eh:(c.toList.map λi=>xs1.getD i (k,b)).map (λx=>hsh prog w x.1)=c.toList.map λi=>(es1.map (·.1)).getD i 0:=by
     rw[Pd];refine P0 λi R=>?_;have h1:=O i (om i R);have h2:(es1.map (·.1))[i]?=on (hsh prog w (xs1.getD i (k,b)).1):=by rw[Array.getElem?_map,h1];rfl
     have h3:=(Qx.mp h2);obtain⟨h4,h5⟩:=h3;simp only[Uh];rw[←h5];simp[RX,h4];omega
    rw[eh];exact T2
  ·simp only[r,RN,Bool.and_false,Qe,Sm,Pk]
   refine OT (hQ _ (xs.take p++(k,b)::xs.drop p) H ⟨_,_,_,u,g1,X,rfl,N,nd1,hx1,?_,l,by rw[L,J]⟩ d);have nf:(t.place.size+1)*5<t.mask*3:=by
    have:¬(u.fill*5≥u.mask*3):=by
     intro z;exact r (by unfold tooFull;exact PH z)
    unfold fill at this;rw[pd,ps,v]at this;simp at this;omega
   have:=(T.put (h:=hsh prog w k) hl hj (by exact ha) nf).2.2.2.2;rw[y]at this;rw[P4,Ph,VA,TL];exact this
end
namespace F2
theorem si_next:Slot "set_iterator" "__next__" "set_iterator.__next__":= .of (owner:="set_iterator") (n:="__next__") (by rw[W5,VB];kernel_rfl) (by decide +kernel) (by decide +kernel) (by decide +kernel)
  (by first|exact .inl (by decide +kernel)|exact .inr (by decide +kernel)) (by rw[UP];kernel_rfl)
theorem si_iter:Slot "set_iterator" "__iter__" "set_iterator.__iter__":= .of (owner:="set_iterator") (n:="__iter__") (by rw[W5,VB];kernel_rfl) (by decide +kernel) (by decide +kernel) (by decide +kernel)
  (by first|exact .inl (by decide +kernel)|exact .inr (by decide +kernel)) (by rw[UP];kernel_rfl)
theorem ent_next:entryFor table "set_iterator.__next__"=on Builtin.«set_iterator.__next__»:=entryFor_of_tree (by kernel_rfl)
theorem ent_iter:entryFor table "set_iterator.__iter__"=on Builtin.«dict_keyiterator.__iter__»:=Xw (id':="dict_keyiterator.__iter__") (by kernel_rfl) rfl (by decide +kernel) (by kernel_rfl)
theorem ent_set_iter:entryFor table "set.__iter__"=on Builtin.«frozenset.__iter__»:=Xw (id':="frozenset.__iter__") (by kernel_rfl) rfl (by decide +kernel) (by kernel_rfl)
theorem args_next(a:OX):argsOk "set_iterator.__next__" ⟨[a],[]⟩:=by unfold argsOk;kernel_rfl
theorem args_iter(a:OX):argsOk "set_iterator.__iter__" ⟨[a],[]⟩:=by unfold argsOk;kernel_rfl
end F2
theorem pS{α:Type}:∀{l:List α} {i:Nat} (h:i<l.length),(l[i]::l.eraseIdx i).Perm l
 |[],i,h=>PF h (RE i)
 |a::l,0,h=> .refl _
 |a::l,i+1,h=>by
  show(l[i]'(by simpa using h)::a::l.eraseIdx i).Perm (a::l);exact(List.Perm.swap _ _ _).trans ((pS (by simpa using h)).cons a)
theorem wa{α:Type}(next:Nat->Nat):∀(fuel k:Nat) (left:List α) (a:Array α),left.length<=fuel->(Wv next fuel k left a).toList.Perm (a.toList++left)
 |0,k,left,a,h=>by
  have:left=[]:=UT.mp (by omega);subst this;unfold Wv;rw[PN]
 |fuel+1,k,left,a,h=>by
  unfold Wv;cases left with
  |nil=>simp
  |cons c d=>
   have b:next k % (c::d).length<(c::d).length:=WK _ (by simp)
   rw[O0 b];simp only;refine(wa next fuel (k+1) _ _ (by rw[List.length_eraseIdx_of_lt b];omega)).trans ?_
   rw[Yn,Qv];exact List.Perm.append_left _ (pS b)
theorem zr{α:Type}(next:Nat->Nat)(xs:Array α):(WQ next xs).toList.Perm xs.toList:=by
 unfold WQ;refine(wa next xs.size 0 xs.toList #[] (by simp)).trans ?_
 simp
section
variable{prog:Pt}{w:PV}{A:Qn}{E:OX->O7->Prop}{s:O7}
noncomputable def dI(w:PV)(a:OZ)(ep:Nat)(es:Array (Int×OX)):Array (Int×OX):=if w.params.followText "set-order"=OV then WQ (w.params.setOrder a ep) es else es
theorem j9(w:PV)(a:OZ)(ep:Nat)(es:Array (Int×OX)):(dI w a ep es).toList.Perm es.toList:=by
 unfold dI;split
 ·exact zr _ _
 ·exact .refl _
structure SIt (w:PV) (h:P7) (I a:OZ) (es:Array (Int×OX)) (ep:Nat) (t:Qm) (i:Nat):Prop where
 st:∃o,h.get? a=on o/\o.data= .set es ep t
 it:∃(o:PP) (sl:Nat),h.get? I=on o/\o.cls= .type "set_iterator"/\o.data= .fields #[.int sl 0,.int i 0,.ref a,.int es.size 0,.int ep 0]/\(w.params.followText "set-order"=OW->below t.place sl=i)
theorem l3{M:WV}(h:Q (M.w.params.followText "set-order") s):Pf M A setsByText Q E s:=by
 unfold setsByText;exact My (T8 (OT h))
theorem zI{es:Array (Int×OX)}{t:Qm}{e:Int×OX}(T:Tb t hs)(h:t.fits es.size=OV)(H:t.plain=OV)(J:t.led=!(w.params.followText "set-order"))(x:SIt w s.heap I a es ep t i)(k:I≠a)(l:(dI w a ep es)[i]?=on e)
  (L:∀h',SIt w h' I a es ep t (i+1)->PX I s.heap h'->Q (on e.2) {s with heap:=h'}):Pf (Py prog w) A (TR (.ref I)) Q E s:=by
 obtain⟨⟨N,b,c⟩,o,R,n,u,hd,p⟩:=id x;have y:s.TypeIs (.ref I) "set_iterator":=⟨o,n,u⟩;unfold TR;refine My (Uc (wpAny_callSpecial?_slot (name:=P5 "__next__") y F2.si_next (Ql F2.si_next y F2.ent_next ?_ (F2.args_next _))));unfold Builtin.«set_iterator.__next__»;refine My (OT ?_);refine My (VL n hd ?_);simp only;refine My (VY b c h ?_);simp only[Sn,Pk,Qe];refine My ?_;simp only[QL]
 have d:∀nx:Nat,(w.params.followText "set-order"=OW->below t.place nx=i+1)->Pf (Py prog w) A.in1 (do
    XA (Pj I) 0 (TU nx)
    XA (Pj I) 1 (TU (i+1))
    ret e.2) (λd s'=>∃v,d=Fin.done (Flow.ret v)/\Pf (Py prog w) A (Ro (on v)) Q E s') (λe s'=>Pf (Py prog w) A (do
     if(←UO e (RY "StopIteration"))=OV then Ro OR else throw e) Q E s') s:=λnx r=>by
  refine My (S4 n hd (by simp) ?_);have B:(s.heap.update I (Obj.mapFields (·.setIfInBounds 0 (TU nx)))).get? I=on _:=Rj _ n (Vk (Rx hd _));refine My (S4 B (Rx hd _) (by simp) ?_);refine OT ⟨_,rfl,OT (L _ ⟨⟨N,?_,c⟩,⟨_,nx,Rj _ B (Vk (Rx (Rx hd _) _)),?_,?_,r⟩⟩ ((QM ..).trans (QM ..)))⟩
  ·rw[RZ _ _ _ _ (Ne.symm k),RZ _ _ _ _ (Ne.symm k)];exact b
  ·rw[VX,VX];exact u
  ·rw[Rx (Rx hd _)];simp[TU]
 unfold setNext;refine My (Q7 b c h (My (l3 ?_)));have C:(Py prog w).w=w:=rfl;rw[C];cases q:w.params.followText "set-order"
 ·have f:dI w a ep es=es:=by unfold dI;rw[q];rfl
  rw[f]at l;have O:=p q;have U:=(Qx.mp l).1;simp only[Pk,Qe];have P:t.place.size=es.size:=by
   unfold Wk at h;simp only[PU,R5,P3]at h;exact h.1
  rw[O3 (λz=>by
   have F:(!t.plain&&decide (es.size>1))=OV:=z;rw[H]at F;cases F)]
  refine My ?_;show Pf _ _ (if(!t.led&&!es.isEmpty)=OV then _ else _) _ _ _;rw[O3 (by rw[J,q];exact Pa)];refine OT (OT ?_);have g:t.place[i]?=on t.place[i]:=getElem?_pos t.place i (by omega);rw[O,l,g];simp only;refine d _ λ_=>?_;obtain⟨b1,b2,b3⟩:=iT (j:=t.place[i]+1) T.rs;rcases Sy (below t.place (t.place[i]+1)) (i+1)with z|z|z
  ·have:=b3 i _ (by omega) g
   omega
  ·exact z
  ·have m:t.place[i+1]?=on t.place[i+1]:=getElem?_pos t.place (i+1) (by omega)
   have W:=b2 (i+1) _ z m;have X:=T.rs i (i+1) _ _ (by omega) g m;omega
 ·have f:dI w a ep es=WQ (w.params.setOrder a ep) es:=by unfold dI;rw[q];rfl
  rw[f]at l;simp only[Qb,Sn,Pk,Qe];refine My ?_;unfold setWalk;refine My (Q7 b c h (My (l3 ?_)));rw[C,q];simp only[Qb];refine My (T8 (OT ?_));refine OT ?_;rw[show((Py prog w).w.params.setOrder a ep)=w.params.setOrder a ep from rfl,l];simp only[Qu];exact d _ λz=>by rw[q]at z;cases z
theorem DL{es:Array (Int×OX)}{t:Qm}(r:A.handled=OR)(T:Tb t hs)(g:t.fits es.size=OV)(u:t.plain=OV)(y:t.led=!(w.params.followText "set-order"))(x:SIt w s.heap I a es ep t es.size)
  (B:∀h',V4 I s.heap h'->Q OR {s with heap:=h'}):Pf (Py prog w) A (TR (.ref I)) Q E s:=by
 obtain⟨⟨F,d,f⟩,o,H,h,C,hd,i⟩:=id x;have l:s.TypeIs (.ref I) "set_iterator":=⟨o,h,C⟩;unfold TR;refine My (Uc (wpAny_callSpecial?_slot (name:=P5 "__next__") l F2.si_next (Ql F2.si_next l F2.ent_next ?_ (F2.args_next _))));unfold Builtin.«set_iterator.__next__»;refine My (OT ?_);refine My (VL h hd ?_);simp only;refine My (VY d f g ?_);simp only[Sn,Pk,Qe];refine My ?_;simp only[QL]
 have c:Pf (Py prog w) A.in1 (do
    XA (Pj I) 2 Qs
    let e ←YV (RY "StopIteration") []
    (raiseNew e:Sem Fin)) (λc s'=>∃v,c=Fin.done (Flow.ret v)/\Pf (Py prog w) A (Ro (on v)) Q E s') (λe s'=>Pf (Py prog w) A (do
     if(←UO e (RY "StopIteration"))=OV then Ro OR else throw e) Q E s') s:=by
  refine My (S4 h hd (by simp) ?_);refine My ?_;simp only[YV,newTuple];refine My (QE ?_ (by size_fits));refine My (m:=TN _ _) (SZ (a:=Qs) (by first|rfl|(simp only[TN];rfl)) ?_)
  refine QE ?_ (by size_fits);simp only[raiseNew];refine My (Ym ?_);rw[show A.in1.handled=OR from r];refine My (OT (wpAny_throw ?_));refine My (RQ (T:="StopIteration") (b:=OV) ⟨_,Pl _ rfl,rfl⟩ Xy ?_);exact OT (B _ (((QM ..).extBut.push _).push _))
 unfold setNext;refine My (Q7 d f g (My (l3 ?_)));have n:(Py prog w).w=w:=rfl;rw[n];have j:(dI w a ep es).size=es.size:=by rw[←PZ,(j9 w a ep es).length_eq,PZ]
 cases q:w.params.followText "set-order"
 ·simp only[Pk,Qe]
  rw[O3 (λz=>by
   have p:(!t.plain&&decide (es.size>1))=OV:=z;rw[u]at p;cases p)]
  refine My ?_;show Pf _ _ (if(!t.led&&!es.isEmpty)=OV then _ else _) _ _ _;rw[O3 (by rw[y,q];exact Pa)];refine OT (OT ?_);rw[i q,R8 (O9 _)];exact c
 ·have k:dI w a ep es=WQ (w.params.setOrder a ep) es:=by unfold dI;rw[q];rfl
  simp only[Qb,Sn,Pk,Qe];refine My ?_;unfold setWalk;refine My (Q7 d f g (My (l3 ?_)));rw[n,q];simp only[Qb];refine My (T8 (OT ?_));refine OT ?_;rw[show((Py prog w).w.params.setOrder a ep)=w.params.setOrder a ep from rfl,←k,R8 (by rw[j];exact O9 _)];exact c
theorem SIt.at{h h':P7}(x:SIt w h I a es ep t i)(k:∀b,b=I\/b=a->∀o,h.get? b=on o->h'.get? b=on o):SIt w h' I a es ep t i:=by
 obtain⟨⟨e,c,d⟩,o,f,g,r⟩:=x;exact⟨⟨e,k a (.inr rfl) e c,d⟩,o,f,k I (.inl rfl) o g,r⟩
theorem BX(q:A.handled=OR){es:Array (Int×OX)}{t:Qm}(T:Tb t hs)(l:t.fits es.size=OV)(m:t.plain=OV)(n:t.led=!(w.params.followText "set-order"))(f:I≠a):
  Walks prog w A I [I,a] [I] es.size (λi v=>∃e,(dI w a ep es)[i]?=on e/\v=e.2) (λi h=>SIt w h I a es ep t i) where
 sub:=λb c=>by simp at c;simp[c]
 frame:=λ_ _ _ st r=>st.at λb c o e=>r b (by simpa using c) o e
 item:=λi s Q E L st d=>by
  have u:(dI w a ep es).size=es.size:=by rw[←PZ,(j9 w a ep es).length_eq,PZ]
  have p:(dI w a ep es)[i]?=on (dI w a ep es)[i]:=getElem?_pos _ i (by omega);exact zI T l m n st f p λh' g y=>d _ h' s.toks ⟨_,p,rfl⟩ g λb o c e=>y.extBut b o (λh=>c (by simp[h])) e
 done:=λs Q E st d=>DL q T l m n st λh' j=>d h' s.toks λb o c e=>j b o (λh=>c (by simp[h])) e
 self:=λi s Q E st d=>by
  obtain⟨⟨N,B,C⟩,o,O,F,H,hd,J⟩:=st;have k:s.TypeIs (.ref I) "set_iterator":=⟨o,F,H⟩;refine U8 k F2.si_iter (Ql F2.si_iter k F2.ent_iter ?_ (F2.args_iter _));show Pf _ _ (ret (.ref I)) _ _ s;exact OT ⟨_,rfl,"set_iterator",_,k,F2.si_next.lookup,d⟩
end
end L2.Hs
namespace L2.Hs
open PySem PySem.SetTable PyProof.Rows
section
variable{prog:Pt}{w:PV}{A:Qn}{E:OX->O7->Prop}{s:O7}
theorem EF{o:PP}{es:Array (Int×OX)}{t:Qm}(b:s.heap.get? a=on o)(f:o.cls= .type "set")(hd:o.data= .set es ep t)(c:t.fits es.size=OV)(g:t.plain=OV)
  (h:Q (.ref s.heap.objs.size) {s with heap:=s.heap.push {cls:= .type "set_iterator",data:= .fields #[.int (0:Nat) 0,.int (0:Nat) 0,.ref a,.int es.size 0,.int ep 0]}}):Pf (Py prog w) A (VJ (.ref a)) Q E s:=by
 have d:s.TypeIs (.ref a) "set":=⟨o,b,f⟩;refine U8 d F.slot_set_iter (Ql F.slot_set_iter d F2.ent_set_iter ?_ (F.args_set_iter_1 _));unfold Builtin.«frozenset.__iter__»;refine My (SZ (a:=a) rfl ?_);refine My (My (VY b hd c (OT ?_)));refine My ?_;unfold setDrawn;refine My (Q7 b hd c (My (l3 (OT ?_))));rw[O3 (λz=>by
  have e:(!((Py prog w).w.params.followText "set-order")&&(!t.plain&&decide (es.size>1)))=OV:=z;rw[g]at e;simp at e)]
 refine My (OT ?_);refine My (wpAny_setEpoch_of b hd c ?_);unfold newFields;refine My (QE (OT ⟨_,rfl,"set_iterator",_,⟨_,Pl _ rfl,rfl⟩,F2.si_next.lookup,?_⟩));exact h
theorem vy{o:PP}{es:Array (Int×OX)}{t:Qm}(hh:A.handled=OR)(R:s.heap.get? a=on o)(B:o.cls= .type "set")(hd:o.data= .set es ep t)(T:Tb t hs)(U:t.fits es.size=OV)(X:t.plain=OV)(hl:t.led=!(w.params.followText "set-order"))
  (hsz:es.size<=1000)
  (hQ:∀h' Y vs,(∀b o,s.heap.get? b=on o->h'.get? b=on o)->s.heap.objs.size<=h'.objs.size->s.toks<=Y->vs.Perm (es.toList.map (·.2))->Q vs {s with heap:=h',toks:=Y}):Pf (Py prog w) A (collect (.ref a)) Q E s:=by
 unfold collect;refine My (wpAny_runValue (W3 F.entry_proto_collect ?_));rw[W9 F.plain_proto_collect _];show Pf _ A.in1 (newList []>>=λl=>WY (.builtin "list.__iadd__" ⟨[l,.ref a],[]⟩)) _ _ s;refine My (QE ?_);refine OT ⟨plainId_quiet F.plain_list_iadd _,W3 F.entry_list_iadd ?_⟩;rw[W9 F.plain_list_iadd _];have ha:=Pz R;have g:(s.heap.push {cls:= .type "list",data:= .seq ([]:List OX).toArray}).get? a=on o:=OU _ R;have C:(s.heap.push {cls:= .type "list",data:= .seq ([]:List OX).toArray}).get? s.heap.objs.size=on {cls:= .type "list",data:= .seq ([]:List OX).toArray}:=Pl _ rfl;have r:s.heap.objs.size≠a:=RK ha;have y:VQ (.ref s.heap.objs.size) (.ref a)=OW:=by simp[VQ,r]
 have H:(⟨s.heap.push {cls:= .type "list",data:= .seq ([]:List OX).toArray},s.gens,s.drawn,s.toks,s.os⟩:O7).TypeIs (.ref a) "set":=⟨o,g,B⟩;show Pf _ A.in1 (Vz (.ref s.heap.objs.size) (.ref a) (.ref s.heap.objs.size)) _ _ _;unfold Vz;refine My (wpAny_typeOf H ?_);rw[O3 (by rw[y];decide)];refine My (EF g B hd U X ?_);refine My (QO ?_);unfold Builtin.List.listLengthHint;have n:(⟨(s.heap.push {cls:= .type "list",data:= .seq ([]:List OX).toArray}).push {cls:= .type "set_iterator",data:= .fields #[.int (0:Nat) 0,.int (0:Nat) 0,.ref a,.int es.size 0,.int ep 0]},s.gens,s.drawn,s.toks,s.os⟩:O7).TypeIs (.ref a) "set":=⟨o,OU _ g,B⟩;refine My (SA n F.slot_set_len.lookup ?_)
 (generalize u:("set.__len__":String)=id0;wp_delta;rw[show splitId id0=on ("set","__len__")from by subst u;decide +kernel];subst u)
 refine My (RQ (b:=OV) n (by rw[UP];kernel_rfl) ?_);rw[O3 (by decide)];show Pf _ _ (if _ then _ else _) _ _ _;rw[O8 (by decide)];refine My (wpAny_typeOf n ?_);refine OT ?_;rw[O8 (by decide)];refine My (S3 ?_);have Z:(s.heap.push {cls:= .type "list",data:= .seq ([]:List OX).toArray}).objs.size=s.heap.objs.size+1:=by rw[size_push']
 generalize h:(s.heap.push {cls:= .type "list",data:= .seq ([]:List OX).toArray}).push {cls:= .type "set_iterator",data:= .fields #[.int (0:Nat) 0,.int (0:Nat) 0,.ref a,.int es.size 0,.int ep 0]}=d;have gS:d.get? s.heap.objs.size=on (SG "list" #[] 0):=by rw[←h];exact OU _ C
 have gI:d.get? (s.heap.objs.size+1)=on {cls:= .type "set_iterator",data:= .fields #[.int (0:Nat) 0,.int (0:Nat) 0,.ref a,.int es.size 0,.int ep 0]}:=by rw[←h,←Z];exact Pl _ rfl
 have ga:d.get? a=on o:=by rw[←h];exact OU _ g
 have p:∀b f,s.heap.get? b=on f->d.get? b=on f:=λb f e=>by rw[←h];exact OU _ (OU _ e)
 unfold Builtin.List.listTouch;refine My (My (Ve gS rfl ?_ (by show 0<=_;omega) (by show 1<=_;omega)));obtain⟨e1,g1⟩:∃e1,(d.update s.heap.objs.size (Q2 λxs=>xs.push Qs)).get? s.heap.objs.size=on (SG "list" #[Qs] e1):=⟨_,get?_update_seq gS λxs=>xs.push Qs⟩;refine Ve g1 rfl ?_ (by show 1<=Pe;decide) (by show 0<=_;omega);obtain⟨J,g2⟩:∃J,((d.update s.heap.objs.size (Q2 λxs=>xs.push Qs)).update s.heap.objs.size (Q2 λxs=>xs.pop)).get? s.heap.objs.size=on (SG "list" #[] J):=⟨_,get?_update_seq g1 λxs=>xs.pop⟩;have c:∀b f,b≠s.heap.objs.size->d.get? b=on f->((d.update s.heap.objs.size (Q2 λxs=>xs.push Qs)).update s.heap.objs.size (Q2 λxs=>xs.pop)).get? b=on f:=λb f q e=>by
  rw[RZ _ _ _ _ q,RZ _ _ _ _ q];exact e
 generalize (d.update s.heap.objs.size (Q2 λxs=>xs.push Qs)).update s.heap.objs.size (Q2 λxs=>xs.pop)=h4 at g2 c;have L:s.heap.objs.size+1≠a:=RK (UH ha);have st:SIt w h4 (s.heap.objs.size+1) a es ep t 0:=⟨⟨o,c a o (Ne.symm r) ga,hd⟩,_,0,c _ _ (by omega) gI,rfl,rfl,λ_=>by
  have:=iT (j:=0) T.rs;rcases Nat.eq_zero_or_pos (below t.place 0)with z|z
  ·exact z
  ·have e:=getElem?_pos t.place 0 (by omega)
   have:=this.2.1 0 _ z e;omega⟩
 have W:=BX (prog:=prog) (w:=w) (A:=A.in1) (I:=s.heap.objs.size+1) (a:=a) (ep:=ep) hh T U X hl L;show Pf _ _ (WY _) _ _ _;rw[Z];refine OT ⟨plainId_quiet F.plain_extend_loop _,codeAny_extend_loopS W.toS (by rw[Rv];omega) s.heap.objs.size (by simp;omega) _ es.size 0 _ #[] J rfl (QW _) st g2 (ItemsOf.nil _) λs' k c' hm v m=>?_⟩;show Pf _ A (load s.heap.objs.size>>=_) _ _ s';refine My (wpAny_load v ?_);refine OT ?_;have N:s'={s with heap:=s'.heap,toks:=s'.toks}:=by
  have y:=hm.gens;have d:=hm.drawn;have h3:=hm.os;obtain⟨a1,a2,a3,a4,a5⟩:=s';simp only at y d h3;subst y d h3;rfl
 rw[N];refine hQ _ _ _ (λb f e=>?_) (Vc (Pz v)) hm.toks ?_
 ·have q:=Pz e
  exact hm.heap b f (by simp only[Pq,QI,Tv,not_or];exact⟨Qa q,Qa (UH q)⟩) (c b f (Qa q) (p b f e))
 ·refine List.Perm.trans (VH ?_) ((j9 w a ep es).map (·.2))
  have O:(dI w a ep es).size=es.size:=by rw[←PZ,(j9 w a ep es).length_eq,PZ]
  refine SJ (by rw[PZ,OS,PZ,O,m.1]) λi q1 q2=>?_;have P:i<k.size:=by simpa using q1
  obtain⟨e,he,hv⟩:=m.2 i _ (getElem?_pos k i P);rw[TD,hv,SK,TD];have:=Qx.mp he;obtain⟨z1,z2⟩:=this;rw[z2]
end
end L2.Hs
namespace L2.Hs
open PySem PySem.W PyProof.Rows
section
variable{α β:Type}{lt:Nat->Nat->Bool}{n:Nat}
def Rn(lt:Nat->Nat->Bool)(n:Nat):KasT α->(α->Prop)->Prop
 | .ret a,Φ=>Φ a
 | .ask i j k,Φ=>i<n/\j<n/\Rn lt n (k (lt i j)) Φ
theorem Rn.bind{Φ:β->Prop}:∀{t:KasT α},Rn lt n t (λa=>Rn lt n (f a) Φ)->Rn lt n (t.bind f) Φ
 | .ret a,h=>h
 | .ask i j k,⟨h1,h2,h3⟩=>⟨h1,h2,Rn.bind h3⟩
theorem Rn.mono{Φ Ψ:α->Prop}(b:∀a,Φ a->Ψ a):∀{t:KasT α},Rn lt n t Φ->Rn lt n t Ψ
 | .ret a,h=>b a h
 | .ask i j k,⟨h1,h2,h3⟩=>⟨h1,h2,Rn.mono b h3⟩
theorem Rn.wp{Φ:α->Prop}(b:∀i j,i<n->j<n->∀C:Bool->O7->Prop,C (lt i j) s->cmp i j C s)(c:∀a,Φ a->Q a s):∀{t:KasT α},Rn lt n t Φ->t.kasWp cmp Q s
 | .ret a,h=>c a h
 | .ask i j k,⟨h1,h2,h3⟩=>b i j h1 h2 _ (Rn.wp b c h3)
end
section
variable{rk:Nat->Nat}{n:Nat}
noncomputable abbrev ltR(rk:Nat->Nat)(i j:Nat):Bool:=decide (rk i<rk j)
noncomputable abbrev ky(rk:Nat->Nat)(p:Array Nat)(i:Nat):Nat:=rk (p.getD i 0)
structure Pm (rk:Nat->Nat) (n:Nat) (p:Array Nat):Prop where
 perm:p.toList.Perm (O6 n)
 inj:∀i j,i<n->j<n->rk i=rk j->i=j
theorem Pm.sz{p:Array Nat}(h:Pm rk n p):p.size=n:=by have:=h.perm.length_eq;simpa using this
theorem Pm.lt{p:Array Nat}(h:Pm rk n p)(a:i<n):p.getD i 0<n:=by
 have hs:=h.sz;have e:p.getD i 0=p[i]:=by simp[RX,show i<p.size by omega]
 rw[e];exact Pw.mp (h.perm.mem_iff.mp (by simp))
theorem Pm.ne(h:Pm rk n p)(a:i<j)(b:j<n):ky rk p i≠ky rk p j:=λz=>by
 have hs:=h.sz;have:=h.inj _ _ (h.lt (show i<n by omega)) (h.lt b) z;have nd:p.toList.Nodup:=h.perm.nodup_iff.mpr V0;have c:p.getD i 0=p.toList[i]'(by simp;omega):=by simp[RX,show i<p.size by omega]
 have d:p.getD j 0=p.toList[j]'(by simp;omega):=by simp[RX,show j<p.size by omega]
 rw[c,d]at this;exact PF this (RT.mp nd i j (by simp;omega) (by simp;omega) a)
theorem Pm.of{p q:Array Nat}(h:Pm rk n p)(a:q.Perm p):Pm rk n q:=⟨(Array.perm_iff_toList_perm.mp a).trans h.perm,h.inj⟩
def So(rk:Nat->Nat)(p:Array Nat)(k:Nat):Prop:=∀i j,i<j->j<k->ky rk p i<ky rk p j
def De(rk:Nat->Nat)(p:Array Nat)(k:Nat):Prop:=∀i j,i<j->j<k->ky rk p j<ky rk p i
theorem So.succ(h:So rk p k)(c:1<=k)(b:ky rk p (k-1)<ky rk p k):So rk p (k+1):=λi j a d=>by
 by_cases q:j=k
 ·subst q
  by_cases z:i=j-1
  ·subst z;exact b
  ·exact Ud (h i (j-1) (by omega) (by omega)) b
 ·exact h i j a (by omega)
theorem De.succ(h:De rk p k)(c:1<=k)(b:ky rk p k<ky rk p (k-1)):De rk p (k+1):=λi j a d=>by
 by_cases q:j=k
 ·subst q
  by_cases z:i=j-1
  ·subst z;exact b
  ·exact Ud b (h i (j-1) (by omega) (by omega))
 ·exact h i j a (by omega)
theorem vj(P:Pm rk n p):∀(f k:Nat),1<=k->k+f<=n->So rk p k->Rn (ltR rk) n (kas_asc p f k) λm=>k<=m/\m<=k+f/\So rk p m/\(m=k+f\/ky rk p m<ky rk p (m-1))
 |0,k,_,_,h=>⟨O9 k,O9 _,h,.inl rfl⟩
 |f+1,k,h1,h2,h=>by
  refine⟨P.lt (by omega),P.lt (by omega),?_⟩;by_cases q:ky rk p k<ky rk p (k-1)
  ·rw[show ltR rk (p.getD k 0) (p.getD (k-1) 0)=OV from PH q];dsimp only;rw[O8 rfl]
   exact⟨O9 k,by omega,h,.inr q⟩
  ·rw[show ltR rk (p.getD k 0) (p.getD (k-1) 0)=OW from Qw q];dsimp only;rw[O3 Pa]
   have:=P.ne (show k-1<k by omega) (show k<n by omega);refine Rn.mono (λm hm=>?_) (vj P f (k+1) (by omega) (by omega) (h.succ h1 (by omega)));exact⟨by omega,by omega,hm.2.2.1,by rcases hm.2.2.2 with z|z;exact .inl (by omega);exact .inr z⟩
theorem wN(P:Pm rk n p):∀(f k:Nat),1<=k->k+f<=n->De rk p k->Rn (ltR rk) n (kas_desc f p k 0) λr=>r.1=p/\r.2.2=0/\k<=r.2.1/\r.2.1<=k+f/\De rk p r.2.1
 |0,k,_,_,h=>⟨rfl,rfl,O9 k,O9 _,h⟩
 |f+1,k,h1,h2,h=>by
  refine⟨P.lt (by omega),P.lt (by omega),?_⟩;by_cases q:ky rk p k<ky rk p (k-1)
  ·rw[show ltR rk (p.getD k 0) (p.getD (k-1) 0)=OV from PH q];dsimp only;rw[O8 rfl,O3 (Qk 0)]
   refine Rn.mono (λm hm=>?_) (wN P f (k+1) (by omega) (by omega) (h.succ h1 q));exact⟨hm.1,hm.2.1,by have:=hm.2.2.1;omega,by have:=hm.2.2.2.1;omega,hm.2.2.2.2⟩
  ·rw[show ltR rk (p.getD k 0) (p.getD (k-1) 0)=OW from Qw q];dsimp only;rw[O3 Pa]
   have:=P.ne (show k-1<k by omega) (show k<n by omega);refine⟨P.lt (by omega),P.lt (by omega),?_⟩;rw[show ltR rk (p.getD (k-1) 0) (p.getD k 0)=OV from PH (show ky rk p (k-1)<ky rk p k by omega)];dsimp only;rw[O8 rfl];exact⟨rfl,rfl,O9 k,by show k<=_;omega,h⟩
theorem wI{p q:Array Nat}(h:p[i]?=q[j]?):p.getD i 0=q.getD j 0:=by
 have a:∀(r:Array Nat) (x:Nat),r.getD x 0=(r[x]?).getD 0:=λr x=>by
  by_cases b:x<r.size
  ·simp[RX,b]
  ·simp[RX,b]
 rw[a,a,h]
theorem LA{p:Array Nat}(a:k<=p.size)(h:De rk p k):So rk (kas_rev p 0 k) k:=λi j b c=>by
 have g:∀x,x<k->(kas_rev p 0 k).getD x 0=p.getD (k-1-x) 0:=λx d=>by
  refine wI ?_;unfold kas_rev;rw[getElem?_mirror_all a,O8 (by omega)];congr 1;omega
 show rk _<rk _;rw[g i (by omega),g j c];exact h (k-1-j) (k-1-i) (by omega) (by omega)
theorem CB(P:Pm rk n p)(b:1<=k)(c:k<=n)(h:De rk p k):Rn (ltR rk) n (kas_tail3 k n p) λr=>Pm rk n r.2/\1<=r.1/\r.1<=n/\So rk r.2 r.1:=by
 have a:Pm rk n (kas_rev p 0 k):=P.of (mirror_perm _ _ _ _);unfold kas_tail3;refine Rn.bind (Rn.mono (λm hm=>?_) (vj a (n-k) k b (by omega) (LA (by rw[P.sz];exact c) h)));exact⟨a,by omega,by omega,hm.2.2.1⟩
theorem EY(P:Pm rk n p)(d:1<=n):Rn (ltR rk) n (kas_count n p) λr=>Pm rk n r.2/\1<=r.1/\r.1<=n/\So rk r.2 r.1:=by
 unfold kas_count;refine Rn.bind (Rn.mono (λm hm=>?_) (vj P (n-1) 1 (O9 1) (by omega) λi j a b=>by omega));obtain⟨a1,a2,a3,a4⟩:=hm;by_cases q:m=n
 ·rw[O8 (by rw[R5];exact q)]
  exact⟨P,by omega,by omega,a3⟩
 ·rw[O3 (by rw[R5];exact q)]
  have hd:ky rk p m<ky rk p (m-1):=by
   rcases a4 with z|z
   ·omega
   ·exact z
  by_cases q1:m>1
  ·rw[O8 q1]
   refine⟨P.lt (by omega),P.lt (by omega),?_⟩;rw[show ltR rk (p.getD 0 0) (p.getD (m-1) 0)=OV from PH (a3 0 (m-1) (by omega) (by omega))];dsimp only;rw[O8 rfl];exact⟨P,by omega,by omega,a3⟩
  ·rw[O3 q1]
   obtain rfl:m=1:=by omega
   unfold kas_descPart;refine Rn.bind (Rn.mono (λr c=>?_) (wN P (n-(1+1)) (1+1) (by omega) (by omega) λi j a b=>by
    obtain rfl:j=1:=by omega
    obtain rfl:i=0:=by omega
    exact hd))
   obtain⟨rfl,b2,b3,b4,b5⟩:=c;rw[O3 (by omega)];exact CB P (by omega) (by omega) b5
theorem nR(P:Pm rk n p)(a:k<n):∀(f l r:Nat),l<=r->r<=k->r-l<=f->(∀i,i<l->ky rk p i<ky rk p k)->(∀i,r<=i->i<k->ky rk p k<ky rk p i)->So rk p k->
  Rn (ltR rk) n (kas_place p k f l r) λm=>m<=k/\(∀i,i<m->ky rk p i<ky rk p k)/\∀i,m<=i->i<k->ky rk p k<ky rk p i
 |0,l,r,h1,h2,h3,ha,hb,_=>by
  obtain rfl:l=r:=by omega
  exact⟨h2,ha,hb⟩
 |f+1,l,r,h1,h2,h3,ha,hb,so=>by
  unfold kas_place;by_cases q:l≥r
  ·rw[O8 q]
   obtain rfl:l=r:=by omega
   exact⟨h2,ha,hb⟩
  ·rw[O3 q]
   refine⟨P.lt (by omega),P.lt (by omega),?_⟩;by_cases z:ky rk p k<ky rk p ((l+r)/2)
   ·rw[show ltR rk (p.getD k 0) (p.getD ((l+r)/2) 0)=OV from PH z];dsimp only;rw[O8 rfl]
    refine nR P a f l ((l+r)/2) (by omega) (by omega) (by omega) ha (λi c b=>?_) so;by_cases w:i=(l+r)/2
    ·subst w;exact z
    ·exact Ud z (so _ i (by omega) b)
   ·rw[show ltR rk (p.getD k 0) (p.getD ((l+r)/2) 0)=OW from Qw z];dsimp only;rw[O3 Pa]
    have d:=P.ne (show(l+r)/2<k by omega) a;refine nR P a f ((l+r)/2+1) r (by omega) h2 (by omega) (λi c=>?_) hb so;by_cases w:i=(l+r)/2
    ·subst w;omega
    ·exact Ud (so i ((l+r)/2) (by omega) (by omega)) (by omega)
theorem BM:∀(f:Nat) {p:Array Nat} {k:Nat},Pm rk n p->k+f=n->So rk p k->Rn (ltR rk) n (kas_bin f p k) λb=>Pm rk n b/\So rk b n
 |0,p,k,P,hk,so=>⟨P,by rw[←hk];exact so⟩
 |f+1,p,k,P,hk,so=>by
  unfold kas_bin;refine Rn.bind (Rn.mono (λm hm=>?_) (nR P (by omega) k 0 k (QW _) (O9 _) (by omega) (λi h=>PF h (RE i)) (λi l c=>by omega) so));obtain⟨l,c,o⟩:=hm;have r:Pm rk n (bubble p k (k-m)):=P.of (bubble_perm _ _ _);refine BM f r (by omega) λi j a t=>?_;have ks:k<p.size:=by rw[P.sz];omega
  have g:∀x:Nat,(bubble p k (k-m)).getD x 0=p.getD (if x=m then k else if m<x/\x<=k then x-1 else x) 0:=λx=>by
   refine wI ?_;rw[getElem?_bubble ks (k-m) (by omega)];by_cases q:x=m
   ·rw[O8 (by omega),O8 q]
   ·rw[O3 (by omega),O3 q]
    by_cases q2:m<x/\x<=k
    ·rw[O8 (by omega),O8 q2]
    ·rw[O3 (by omega),O3 q2]
  show rk _<rk _;rw[g i,g j];by_cases q1:i=m
  ·rw[O8 q1,O3 (by omega),O8 (by omega)]
   exact o (j-1) (by omega) (by omega)
  ·rw[O3 q1]
   by_cases q2:j=m
   ·rw[O8 q2,O3 (by omega)]
    exact c i (by omega)
   ·rw[O3 q2]
    by_cases d:m<i/\i<=k
    ·rw[O8 d,O8 (by omega)]
     exact so (i-1) (j-1) (by omega) (by omega)
    ·rw[O3 d]
     by_cases e:m<j/\j<=k
     ·rw[O8 e]
      exact so i (j-1) (by omega) (by omega)
     ·rw[O3 e]
      exact so i j a (by omega)
theorem JR(a:1<=n)(inj:∀i j,i<n->j<n->rk i=rk j->i=j):Rn (ltR rk) n (kas_sort n) λp=>Pm rk n p/\So rk p n:=by
 unfold kas_sort;have P:Pm rk n (List.toArray (O6 n)):=⟨.refl _,inj⟩;refine Rn.bind (Rn.mono (λr b=>?_) (EY P a));obtain⟨a1,a2,a3,a4⟩:=b;by_cases q:r.1<n
 ·rw[O8 q,Nat.max_eq_left a2]
  exact BM _ a1 (by omega) a4
 ·rw[O3 q]
  obtain rfl:r.1=n:=by omega
  exact⟨a1,a4⟩
end
noncomputable def cQ:List Int->List Int->Bool
 |[],[]=>OW
 |[],_::_=>OV
 |_::_,[]=>OW
 |a::as,b::bs=>if a=b then cQ as bs else decide (a<b)
theorem iu:∀x,cQ x x=OW
 |[]=>rfl
 |a::as=>by unfold cQ;rw[O8 rfl];exact iu as
theorem pB:∀{x y z},cQ x y=OV->cQ y z=OV->cQ x z=OV
 |[],[],_,h,_=>by cases h
 |[],_::_,[],_,h=>by cases h
 |[],_::_,_::_,_,_=>rfl
 |_::_,[],_,h,_=>by cases h
 |_::_,_::_,[],_,h=>by cases h
 |a::as,b::bs,c::cs,h1,h2=>by
  unfold cQ at h1 h2⊢;by_cases q1:a=b
  ·rw[O8 q1]at h1
   by_cases q2:b=c
   ·rw[O8 q2]at h2
    rw[O8 (q1.trans q2)];exact pB h1 h2
   ·rw[O3 q2]at h2
    rw[O3 (by rw[q1];exact q2),q1];exact h2
  ·rw[O3 q1]at h1
   have d:=Ut h1;by_cases q2:b=c
   ·rw[O3 (by rw[←q2];exact q1),←q2];exact h1
   ·rw[O3 q2]at h2
    have e:=Ut h2;rw[O3 (by omega)];exact PH (by omega)
theorem mD:∀{x y},cQ x y=OW->cQ y x=OW->x=y
 |[],[],_,_=>rfl
 |[],_::_,h,_=>by cases h
 |_::_,[],_,h=>by cases h
 |a::as,b::bs,h1,h2=>by
  unfold cQ at h1 h2;by_cases q:a=b
  ·rw[O8 q]at h1
   rw[O8 q.symm]at h2;rw[q,mD h1 h2]
  ·rw[O3 q]at h1
   rw[O3 (Ne.symm q)]at h2;have:=of_decide_eq_false h1;have:=of_decide_eq_false h2;omega
theorem va:∀{L:List Nat},(∀l∈L,p l=OV->q l=OV)->∀{i},i∈L->p i=OW->q i=OV->L.countP p<L.countP q
 |[],_,i,h,_,_=>by cases h
 |a::L,hpq,i,hi,h1,h2=>by
  have le:L.countP p<=L.countP q:=List.countP_mono_left λl b=>hpq l (OY a b);rcases Pq.mp hi with rfl|hi
  ·rw[List.countP_cons_of_neg (by rw[h1];exact Pa),List.countP_cons_of_pos h2]
   omega
  ·have ih:=va (λl b=>hpq l (OY a b)) hi h1 h2
   rw[List.countP_cons,List.countP_cons];have:(if p a=OV then 1 else 0)<=(if q a=OV then 1 else 0):=by
    by_cases z:p a=OV
    ·rw[O8 z,O8 (hpq a O5 z)];exact O9 1
    ·rw[O3 z];exact QW _
   omega
def gT(ks:LI)(i:Nat):Nat:=(O6 ks.length).countP λj=>cQ (ks.getD j []) (ks.getD i [])
theorem sM{ks:LI}(a:i<ks.length)(h:cQ (ks.getD i []) (ks.getD j [])=OV):gT ks i<gT ks j:=
 va (λl _ b=>pB b h) (Pw.mpr a) (iu _) h
theorem zf{ks:LI}(b:i<ks.length)(c:j<ks.length):decide (gT ks i<gT ks j)=cQ (ks.getD i []) (ks.getD j []):=by
 cases h:cQ (ks.getD i []) (ks.getD j [])with
 |true=>exact PH (sM b h)
 |false=>
  refine Qw λz=>?_;cases a:cQ (ks.getD j []) (ks.getD i [])with
  |true=>have:=sM c a;omega
  |false=>
   have e:=mD h a;unfold gT at z;rw[e]at z;exact Qk _ z
theorem Lx{ks:LI}(nd:ks.Nodup)(a:i<ks.length)(b:j<ks.length)(h:gT ks i=gT ks j):i=j:=by
 have e:ks.getD i []=ks.getD j []:=by
  refine mD ?_ ?_
  ·cases z:cQ (ks.getD i []) (ks.getD j [])with
   |false=>rfl
   |true=>have:=sM a z;omega
  ·cases z:cQ (ks.getD j []) (ks.getD i [])with
   |false=>rfl
   |true=>have:=sM b z;omega
 rw[O1,O1,O0 a,O0 b]at e;have c:ks[i]=ks[j]:=e;rcases Sy i j with z|z|z
 ·exact PF c (RT.mp nd i j a b z)
 ·exact z
 ·exact PF c.symm (RT.mp nd j i b a z)
abbrev Up(l:LI):Prop:=l.Pairwise λa b=>cQ a b=OV
theorem w9:∀{l m:LI},Up l->Up m->(∀x,x∈l↔x∈m)->l=m
 |[],[],_,_,_=>rfl
 |[],b::m,_,_,h=>by have:=(h b).mpr O5;cases this
 |a::l,[],_,_,h=>by have:=(h a).mp O5;cases this
 |a::l,b::m,h1,h2,h=>by
  obtain⟨d,f⟩:=Tg.mp h1;obtain⟨q1,q2⟩:=Tg.mp h2;have e:a=b:=by
   rcases Pq.mp ((h a).mp O5)with z|z
   ·exact z
   ·rcases Pq.mp ((h b).mpr O5)with w|w
    ·exact w.symm
    ·have:=pB (q1 a z) (d b w)
     rw[iu]at this;cases this
  subst e;congr 1;refine w9 f q2 λx=>⟨λc=>?_,λc=>?_⟩
  ·rcases Pq.mp ((h x).mp (OY a c))with rfl|z
   ·have:=d x c;rw[iu]at this;cases this
   ·exact z
  ·rcases Pq.mp ((h x).mpr (OY a c))with rfl|z
   ·have:=q1 x c;rw[iu]at this;cases this
   ·exact z
section
variable{prog:Pt}{w:PV}{A:Qn}{E:OX->O7->Prop}{s:O7}
theorem wt{b:Bool}:∀{xs ys:List Int} {us vs:List OX} (i:Nat),ItemsAre (Vv prog w) xs us->ItemsAre (Vv prog w) ys vs->∀n m:Nat,(decide (n+us.length<m+vs.length)=decide (xs.length<ys.length))->Q (cQ xs ys) s->KatLex prog w A OV (decide (n+us.length<m+vs.length)) Q (us.zip vs) i s
 |[],ys,us,vs,i,hx,hy,n,m,e,q=>by
  cases hx;cases hy with
  |nil=>rw[VU];exact kat_nil (by rw[e];exact q)
  |cons c d=>rw[VU];exact kat_nil (by rw[e];exact q)
 |x::xs,ys,us,vs,i,hx,hy,n,m,e,q=>by
  cases hx with
  |@cons _ u _ us' c d=>
   cases hy with
   |nil=>rw[List.zip_nil_right];exact kat_nil (by rw[e];exact q)
   |@cons y v ys' vs' h3 h4=>
    obtain⟨g,rfl⟩:=VI c;obtain⟨h,rfl⟩:=VI h3;rw[Sb];refine kat_cons (wpAny_eqBool_int ?_);unfold cQ at q;by_cases z:x=y
    ·rw[O8 z]at q
     rw[show(x==y)=OV by rw[R5];exact z];refine kat_yes ?_;have f:∀k l:Nat,decide (k+(us'.length+1)<l+(vs'.length+1))=decide (k+1+us'.length<l+1+vs'.length):=λk l=>decide_eq_decide.mpr (by omega);rw[Pg,Pg,f];refine wt (b:=b) (i+1) d h4 (n+1) (m+1) ?_ q;rw[←f,←Pg (a:=SE x g),←Pg (a:=SE y h),e,Pg,Pg];exact decide_eq_decide.mpr (by omega)
    ·rw[O3 z]at q
     rw[show(x==y)=OW by rw[W2];exact z];refine kat_no ?_;cases j:(OV&&i==0)with
     |true=>exact oneLt_int q
     |false=>exact kat_one _ _ (lt_int (show PySem.W.BoolBack Q (.bool _) s from q))
theorem Mj(i:(IKd prog w).is s.heap xs x)(j:(IKd prog w).is s.heap ys y)(h:Q (cQ xs ys) s):Pf (Py prog w) A (keyLt' (tuples' OV) (.ref x) (.ref y)) Q E s:=by
 obtain⟨m,n,o,d,k,e,a⟩:=i;obtain⟨o2,p,q,f,l,g,c⟩:=j;refine kat_lt d e f g ?_;have:=wt (A:=A) (b:=OV) (Q:=Q) (s:=s) 0 a c 0 0 (by rw[Rz,Rz,a.length,c.length]) h;rw[Rz,Rz,PZ,PZ]at this;exact this
theorem vJ:∀{ks:List (List Int×OZ)},(∀k∈ks,(IKd prog w).is s.heap k.1 k.2/\1<=k.1.length)->∃fs:List OX,KatTups s.heap (ks.map λk=>Pj k.2) fs/\fs.length=ks.length/\∀v∈fs,∃n t,v=SE n t
 |[],_=>⟨[],trivial,rfl,λv hv=>by cases hv⟩
 |k::ks,h=>by
  obtain⟨fs,c,d,f⟩:=vJ λg i=>h g (OY k i);obtain⟨⟨o,its,n,j,l,hd,b⟩,p⟩:=h k O5;have a:=b.length;have m:0<its.size:=by rw[←PZ,←a];omega
  have e:=getElem?_pos its 0 m;refine⟨its[0]::fs,KatTups.cons j l hd e c,by rw[Pg,Pg,d],λv hv=>?_⟩;rcases Pq.mp hv with rfl|hv
  ·exact items_int b _ (by rw[←TD];exact Qh _)
  ·exact f v hv
theorem yX{ks:List (List Int×OZ)}(L:s.heap.get? a=on (SG "list" (ks.map λk=>Pj k.2).toArray n))(hk:∀k∈ks,(IKd prog w).is s.heap k.1 k.2/\1<=k.1.length)(nd:(ks.map (·.1)).Nodup)(h64:ks.length<64)
  (h:∀(h':P7) (l:List (List Int×OZ)) (n':Nat),l.Perm ks->Up (l.map (·.1))->h'.get? a=on (SG "list" (l.map λk=>Pj k.2).toArray n')->(∀b o,b≠a->s.heap.get? b=on o->h'.get? b=on o)->P (.done (.ret .none)) {s with heap:=h'}):
  Pf (Py prog w) A (Builtin.«list.sort» ⟨[.ref a],[]⟩) P E s:=by
 have ha:a<s.heap.objs.size:=Pz L;rw[list_sort_plain];refine My (listItems_at L rfl ?_);refine My (Ve L rfl ?_ (by simp[Rv];omega) (by simp));obtain⟨F,N⟩:∃F,(s.heap.update a (Q2 λ_=>#[])).get? a=on (SG "list" #[] F):=⟨_,get?_update_seq L (λ_=>#[])⟩;refine My (seqEpoch_at N rfl ?_);refine My (VN ?_ (by simp[Rv];omega));refine My (wpAny_newList ?_ (QW _));refine QO ?_;generalize q:(ks.map λk=>Pj k.2)=vs at*;have u:vs.length=ks.length:=by rw[←q,OS]
 have d:(((s.heap.update a (Q2 λ_=>#[])).push (SG "tuple" vs.toArray 0)).push (SG "list" #[] 0)).get? a=on (SG "list" #[] F):=by
  rw[YM _ _ _ (by rw[size_push',Heap.size_update];exact Qa (UH ha)),YM _ _ _ (by rw[Heap.size_update];exact Qa ha)];exact N
 have keep:∀b o,b≠a->s.heap.get? b=on o->(((s.heap.update a (Q2 λ_=>#[])).push (SG "tuple" vs.toArray 0)).push (SG "list" #[] 0)).get? b=on o:=λb o X e=>by
  refine OU _ (OU _ ?_);rw[RZ _ _ _ _ X];exact e
 show Pf (Py prog w) A _ P E {s with heap:=((s.heap.update a (Q2 λ_=>#[])).push (SG "tuple" vs.toArray 0)).push (SG "list" #[] 0)};generalize hh6:((s.heap.update a (Q2 λ_=>#[])).push (SG "tuple" vs.toArray 0)).push (SG "list" #[] 0)=h6 at d keep
 dsimp only
 have O:∀(l:List (List Int×OZ)) (y:Array OX),l.Perm ks->Up (l.map (·.1))->y=(l.map λk=>Pj k.2).toArray->P (.done (.ret .none)) {s with heap:=h6.update a (Q2 λ_=>y)}:=λl y p1 p2 e=>by
  refine h _ l _ p1 p2 (by rw[←e];exact get?_update_seq d λ_=>y) λb o X Y=>?_;rw[RZ _ _ _ _ X];exact keep b o X Y
 by_cases I:vs.toArray.size<2
 ·rw[O8 I,O8 I]
  refine My (OT ?_);rw[StateT.run_pure];refine My (OT ?_)
  dsimp only
  refine My (seqEpoch_at d rfl ?_);have Z:((arrOf (SortSt.mk' general' (vs.toArray.zip vs.toArray) #[] 7 OR)).map (·.2))=vs.toArray:=by
   show(vs.toArray.zip vs.toArray).map (·.2)=_;apply Array.toList_inj.mp;rw[Array.toList_map,Array.toList_zip];exact List.map_snd_zip (O9 _)
  rw[Z];refine My (Ve d rfl ?_ (by simp) (by simp[Rv];omega));simp only[Sn,Pk,Qe];refine OT (O ks _ (.refl _) ?_ (by rw[q]));have R:ks.length<2:=by rw[←u];simpa using I
  match ks,R with
  |[],_=>exact Va
  |[k],_=>exact UU _ _
  |_::_::_,R=>simp at R;omega
 ·rw[O3 I,O3 I]
  have h2':2<=ks.length:=by rw[←u];simp at I;omega
  have H:∀k∈ks,(IKd prog w).is h6 k.1 k.2/\1<=k.1.length:=λk hk'=>by
   obtain⟨⟨o,its,m,h1,h3,h4,h5⟩,R⟩:=hk k hk';refine⟨⟨o,its,m,keep _ _ (λz=>?_) h1,h3,h4,h5⟩,R⟩;rw[z,L]at h1;cases h1;exact PF (RY.inj h3) (by decide)
  obtain⟨fs,t1,t2,t3⟩:=vJ (s:={s with heap:=h6}) H;rw[q]at t1;refine My (kat_kind (T:= .type "int") t1 (by omega) (λv hv=>?_) rfl ?_)
  ·obtain⟨x,t,rfl⟩:=t3 v hv
   exact Looks.of_pure rfl
  show Pf _ _ (StateT.run sortRuns' (SortSt.mk' (tuples' OV) (vs.toArray.zip vs.toArray) #[] 7 OR)>>=_) _ _ _;have J:(ks.map (·.1)).length=vs.length:=by rw[OS,u]
  have at_:∀i,i<vs.length->∃k∈ks,vs.getD i Qs= .ref k.2/\(ks.map (·.1)).getD i []=k.1/\ks[i]?=on k:=λi c=>by
   have f:i<ks.length:=by omega
   refine⟨ks[i],Qh f,?_,?_,O0 f⟩
   ·rw[←q,O1,O4,O0 f];rfl
   ·rw[O1,O4,O0 f];rfl
  refine My (Qc (kat_run (κ:=tuples' OV) (ks:=vs) (vs:=vs) (Q:=λg s'=>s'={s with heap:=h6}/\failedOf g=OR/\∃p:Array Nat,Pm (gT (ks.map (·.1))) vs.length p/\So (gT (ks.map (·.1))) p vs.length/\arrOf g=p.map (kas_item (vs.toArray.zip vs.toArray)))
   (G:=λp s'=>s'={s with heap:=h6}/\Pm (gT (ks.map (·.1))) vs.length p/\So (gT (ks.map (·.1))) p vs.length) rfl (by omega) (by omega) (λp g s' a1 a2 a3 a4=>⟨a4.1,a3,p,a4.2.1,a4.2.2,a2⟩)
   (Rn.wp (lt:=ltR (gT (ks.map (·.1)))) (n:=vs.length) (λi j c B C hC=>?_) (λp hp=>⟨rfl,hp⟩) (JR (by omega) λi j c B hr=>Lx nd (by rw[J];exact c) (by rw[J];exact B) hr))) (λr s' hr=>?_) λ_ _ e=>e)
  ·obtain⟨k1,m1,F,f1,_⟩:=at_ i c
   obtain⟨k2,m2,e2,f2,_⟩:=at_ j B;unfold kas_ask;rw[F,e2];refine Mj (H k1 m1).1 (H k2 m2).1 ?_;have:=zf (ks:=ks.map (·.1)) (i:=i) (j:=j) (by rw[J];exact c) (by rw[J];exact B);rw[f1,f2]at this;rw[←this];exact hC
  ·obtain⟨⟨⟩,g⟩:=r
   obtain⟨rfl,hf,p,P1,so,har⟩:=hr
   dsimp only
   have Z:(arrOf g).map (·.2)=(p.toList.map λi=>vs.getD i Qs).toArray:=kat_snds rfl har;have U:=P1.sz;rw[Z];refine My (seqEpoch_at d rfl ?_);refine My (Ve d rfl ?_ (by simp) (by simp[Rv];omega));rw[hf];simp only[Sn,Pk,Qe];have W:∀i∈p.toList,i<vs.length:=λi c=>Pw.mp (P1.perm.mem_iff.mp c);refine OT (O (p.toList.map λi=>ks.getD i ([],0)) _ ?_ ?_ ?_)
   ·refine(P1.perm.map _).trans (VH ?_)
    rw[u];refine SJ (by simp) λi q1 q2=>?_;rw[SK,Tf,O1,O0 q2];rfl
   ·rw[Pd]
    unfold Up;rw[UA];refine RT.mpr λi j c B hij=>?_;have f:i<vs.length:=by simpa[U]using c
    have hj':j<vs.length:=by simpa[U]using B
    have gd:∀x (hx:x<p.toList.length),p.getD x 0=p.toList[x]:=λx hx=>by
     have:x<p.size:=by simpa using hx
     simp[RX,this]
    have z:=so i j hij hj';unfold ky at z;rw[gd i c,gd j B]at z;obtain⟨k1,m1,F,f1,g1⟩:=at_ p.toList[i] (W _ (Qh c));obtain⟨k2,m2,e2,f2,g2⟩:=at_ p.toList[j] (W _ (Qh B));have:=zf (ks:=ks.map (·.1)) (i:=p.toList[i]) (j:=p.toList[j]) (by rw[J];exact W _ (Qh c)) (by rw[J];exact W _ (Qh B));rw[PH z,f1,f2]at this;simp only[Uh];rw[O1,O1,g1,g2];exact this.symm
   ·rw[Pd]
    congr 1;refine P0 λi c=>?_;obtain⟨k1,m1,F,f1,g1⟩:=at_ i (W i c);rw[F];simp only[Uh];rw[O1,g1];rfl
end
theorem CZ{α β:Type}{f:α->β}{vs g:List β}(p:vs.Perm g):∀{xs:List α},g=xs.map f->∃ks:List α,ks.Perm xs/\vs=ks.map f:=by
 induction p with
 |nil=>
  intro xs e;cases xs with
  |nil=>exact⟨[],.refl _,rfl⟩
  |cons _ _=>cases e
 |cons x _ ih=>
  intro xs e;cases xs with
  |nil=>cases e
  |cons a xs=>
   cases e;obtain⟨ks,c,d⟩:=ih rfl;exact⟨a::ks,c.cons a,by rw[d];rfl⟩
 |swap x y l=>
  intro xs e
  match xs,e with
  |[],e=>cases e
  |[_],e=>cases e
  |a::b::xs,e=>
   cases e;exact⟨b::a::xs,.swap _ _ _,rfl⟩
 |trans _ _ ih1 ih2=>
  intro xs e;obtain⟨ks,c,d⟩:=ih2 e;obtain⟨h,i,j⟩:=ih1 d;exact⟨h,i.trans c,j⟩
section
variable{prog:Pt}{w:PV}{A:Qn}{E:OX->O7->Prop}{s:O7}
theorem xl{xs:List (List Int×OZ)}(F:A.handled=OR)(S:qU prog w s.heap a xs)(H:∀x∈xs,1<=x.1.length)(I:xs.length<64)
  (h:∀(l:OZ) (h':P7) (f u:Nat) (g:List (List Int×OZ)),g.Perm xs->Up (g.map (·.1))->h'.get? l=on (SG "list" (g.map λk=>Pj k.2).toArray u)->s.heap.objs.size<=l->(∀b o,s.heap.get? b=on o->h'.get? b=on o)->s.toks<=f->Q (.ref l) {s with heap:=h',toks:=f}):
  Pf (Py prog w) A (UM (.builtin "sorted") [.ref a]) Q E s:=by
 obtain⟨o,es,ep,t,J,v,hd,i,y,L,T,N,j⟩:=S;have B:es.size=xs.length:=by rw[←PZ,i,OS]
 have O:t.fits es.size=OV:=T.fits (by rw[OS,B]);refine Calls.call_function_entry kind_sorted plain_sorted entry_sorted (args_sorted1 _) ?_;unfold Builtin.«sorted»;refine My (m:=checkCount "sorted" 1 1 _) (OT ?_);refine My (vy F J v.1 hd T O N j (by omega) λn f vs keep p htk pv=>?_);rw[i,Pd]at pv;obtain⟨ks,q,rfl⟩:=CZ pv rfl;have P:ks.length=xs.length:=q.length_eq;refine My (wpAny_newList ?_ (by rw[OS,Rv];omega));have c:∀b d,s.heap.get? b=on d->(n.push (SG "list" (ks.map λk=>Pj k.2).toArray 0)).get? b=on d:=λb d e=>OU _ (keep b d e);have r:(n.push (SG "list" (ks.map λk=>Pj k.2).toArray 0)).get? n.objs.size=on (SG "list" (ks.map λk=>Pj k.2).toArray 0):=Pl _ rfl;show Pf _ _ _ _ _ {s with heap:=n.push (SG "list" (ks.map λk=>Pj k.2).toArray 0),toks:=f};refine My (QO (Ql slot_list_sort ⟨_,r,rfl⟩ entry_list_sort (yX r (λk C=>⟨?_,H k (q.mem_iff.mp C)⟩) ((q.map (·.1)).nodup_iff.mpr y) (by omega) λh' g u q1 q2 q3 q4=>⟨_,rfl,?_⟩) (args_list_sort _)))
 ·obtain⟨R,its,m,U,W,X,Y⟩:=L k (q.mem_iff.mp C)
  exact⟨R,its,m,c _ _ U,W,X,Y⟩
 ·refine OT ⟨_,rfl,h n.objs.size h' f u g (q1.trans q) q2 q3 p (λb d e=>q4 b d (λz=>?_) (c b d e)) htk⟩
  have:=Pz e;exact PF (z▸this) (Nat.not_lt.mpr p)
end
end L2.Hs
namespace L2.Hs
open PySem PySem.Spec PyProof.Rows
section
variable{prog:Pt}{w:PV}
def qV(prog:Pt)(w:PV)(a:OZ)(xs:List (List Int×OZ))(h:P7):Prop:=
 ∃o es ep t,h.get? a=on o/\o.ExactSet/\o.data= .set es ep t/\(es.toList=xs.map λx=>(hsh prog w x.1,Pj x.2))/\(xs.map (·.1)).Nodup/\(Tb t (xs.map λx=>hsh prog w x.1))/\t.plain=OV/\t.led=!(w.params.followText "set-order")
noncomputable def l5(prog:Pt)(w:PV)(a:OZ)(xs:List (List Int×OZ)):HO:= .ext (qV prog w a xs)
theorem qV.to(S:qV prog w a xs h)(b:∀x∈xs,(IKd prog w).is h x.1 x.2):qU prog w h a xs:=by
 obtain⟨o,es,ep,t,c,d,e,f,g,i⟩:=S;exact⟨o,es,ep,t,c,d,e,f,g,b,i⟩
theorem vR(S:qV prog w a xs h):bu prog w H h a (l5 prog w a xs):=by
 refine⟨S,?_,λb c z k=>?_⟩
 ·obtain⟨o,_,_,_,e,_⟩:=S
  exact⟨o,e⟩
 ·obtain⟨o,es,ep,t,e,r⟩:=z
  exact⟨o,es,ep,t,k _ e,r⟩
theorem EG{k:List Int}:∀{its:List OX},ao (k.map V.int) its->ItemsAre (Vv prog w) k its:=by
 induction k with
 |nil=>intro its h;cases h;exact .nil
 |cons i k ih=>
  intro its h;cases h with
  |cons a b=>
   obtain⟨t,rfl⟩:=a;exact .cons (by simp[Vv,Xp]) (ih b)
end
section
variable{X:Cx}
theorem mG{s:O7}{k:List Int}(I:Inv X pins σ H s)(h:SqT X.K H b (k.map V.int)):(IKd X.prog X.w).is s.heap k b:=by
 obtain⟨its,a,⟨o,e,c,n,hd⟩,_⟩:=I.tuple h;exact⟨o,its.toArray,n,e,c,hd,EG a⟩
theorem tb0{b:Bool}:Tb (.fresh 0 0 b) []:=⟨.inl rfl,rfl,λi j a b h=>by simp[YC]at*,λi j h=>by simp[YC]at h,rfl,by show 0*5<7*3;decide,λi h j c=>by simp at c⟩
theorem qX:∀a:List (List Int×OZ),ao (a.map λz=>V.ref z.2) (a.map λk=>Pj k.2)
 |[]=> .nil
 |_::a=> .cons rfl (qX a)
theorem Kr:Mks X (newSet (.type "set")) λD=>l5 X.prog X.w D []:=λa s c H E Q I h=>by
 unfold newSet setsByText;refine My (My (T8 (OT ?_)))
 dsimp only
 simp only[newObj];refine My (wpAny_alloc (OT (h _ (I.laid (t':=s.toks) (λ_ _ q=>OU _ q) (O9 _) (vR ?_)) λb o e=>OU _ e)));exact⟨_,#[],0,_,Pl _ rfl,⟨rfl,rfl,rfl⟩,rfl,rfl,.nil,tb0,rfl,rfl⟩
def BI(P:Pt)(w:PV)(K:Po)(D:OZ)(e:TE):TB:=λd H Q=>e d H λv c=>∃xs k b,c D=on (l5 P w D xs)/\v= .ref b/\SqT K c b (k.map V.int)/\(∀x∈xs,SqT K c x.2 (x.1.map V.int))/\xs.length<63/\
 ∀a,(k∈xs.map (·.1)->a=xs)->(k∉xs.map (·.1)->a.Perm ((k,b)::xs))->Q d (upd c D (l5 P w D a))
theorem uq{D:OZ}(p:X.A.units+1<UL)(L:gens[d+1]?=OR)(N:PE X elt te)(j:X.xe=λ_ _=>False):PB X (.S elt) gens scope pos d D (BI X.prog X.w X.K D te):=by
 intro a s y H Q I h k Q' E' O;unfold gL;rw[L];show Pf _ _ ((do let v ←Qo elt X.env;Sw elt.pos;let _ ←UM (.builtin "set.add") [.ref D,v])>>=λ_=>k) _ _ _
 have c:=N a s y H _ I h;rw[j]at c;refine My (My (Qc c (λu g l=>?_) λ_ _ f=>f.elim));obtain⟨v,H1,i,r,xs,P,b,B,rfl,C,J,hn,q⟩:=l;cases r;have S:qV X.prog X.w D xs g.heap:=(i.hok D _ B).1;have R:qU X.prog X.w g.heap D xs:=S.to λx h=>mG i (J x h);obtain⟨o,es,ep,t,T,U,_⟩:=S;refine My (Rh (My (Ql F.slot_set_add ⟨o,T,U.1⟩ F.entry_set_add ?_ (F.args_set_add_2 _ _))));unfold Builtin.«set.add» Builtin.Frozenset.oneOther;simp only[List.isEmpty_nil,bind_assoc];unfold Builtin.Frozenset.addrOf setAdd;refine My (OT ?_)
 try dsimp only
 refine My (OT ?_)
 try dsimp only
 refine My (QO (My ((IKd X.prog X.w).pyHash p (mG i C) ?_)));refine NG (s:={g with toks:=g.toks+(IKd X.prog X.w).draws P}) p R (mG (s:=g) i C) hn λh' m W Y c1 c2=>?_;show Pf _ _ (ret Qs) _ _ _;refine OT ⟨_,rfl,OT (O _ y _ (i.write (by rw[B];trivial) (.inl rfl) (λb u n e=>(W.2 b n).trans e) ?_ (vR ?_)) (q m c1 c2))⟩
 all_goals obtain⟨o,es,ep,t,c,l,Z,h4,h5,J,h6⟩:=Y
 ·exact⟨o,c⟩
 ·exact⟨o,es,ep,t,c,l,Z,h4,h5,h6⟩
def kO(c:OZ->HO)(vars:List PY)(caps:List Nat)(d:TI)(e:OZ->It->TB):TE:=λa H Q=>d a H λJ b=>∀D,b D=OR->e D J (jN vars caps a) (upd b D (c D)) λ_ f=>Q (.ref D) f
theorem Ka{d a b:Expr}{f:List Expr}{rest:List Q1}{scope:Scope}{pos:Tz}{j vars:List PY}{caps:List Nat}{g:TG}{tt:TT}{o:OZ->TB}{p:TI}(r:X.calm=OV)(S:CmpScope X scope j vars caps)(t:PI X a b p)
  (u:∀(cl:List (PY×OZ)) (C:OZ) (k:List OZ) (s:O7) (H:Hp),PG (aC X j scope cl C k s H) a g/\dG (aC X j scope cl C k s H) f tt/\∀D,PB (aC X j scope cl C k s H) (.S d) (⟨a,b,f,0⟩::rest) scope pos 0 D (o D))
  (hs:∀x,Qf b X.env x=Ro x:=by intro _;rfl):PE X (.SetComp d (⟨a,b,f,0⟩::rest) scope pos) (kO (λD=>l5 X.prog X.w D []) vars caps p λD J=>cV J g tt (o D)):=by
 intro i s y H Q I h;refine R6 (use:=OR) rfl hs (S.clo I.ok) S.kind S.loc (Qc (t i s y H _ I h) (λv W B=>Qc B (λF Y L=>?_) λ_ _ x=>x) λ_ _ x=>x);obtain⟨it,k,Z,J,H2,e,N,T,l,f2,q⟩:=L;subst e;refine gJ (c:= .S d) Kr (RR:=λacc C=>Xv (Py X.prog X.w) X.A X.xe OR _ acc C) r S u N T l f2 q λD C s' O m P ns R U=>?_;exact⟨m,ns,λh' n=>⟨.ref D,O,P.letgo R n,rfl,U⟩⟩
def vZ(P:Pt)(w:PV)(K:Po):List V->Hp->VK->Prop:=λxs H Q=>∃a ys,xs=[.ref a]/\H a=on (l5 P w a ys)/\(∀x∈ys,SqT K H x.2 (x.1.map V.int)/\1<=x.1.length)/\ys.length<64/\
 ∀(l:OZ) (b:List (List Int×OZ)),H l=OR->b.Perm ys->Up (b.map (·.1))->Q (.ref l) (upd H l (.lst (b.map λz=>V.ref z.2)))
theorem vA(e:X.calm=OV):cX X (.builtin "sorted") (vZ X.prog X.w X.K):=by
 intro c s m H xs us Q I r h;obtain⟨a,ys,rfl,ha,d,hn,q⟩:=h;obtain⟨u,rfl,rfl⟩:=jR r;have S:qV X.prog X.w a ys s.heap:=(I.hok a _ ha).1;refine xl (I.ok.hd e) (S.to λx h=>mG I (d x h).1) (λx h=>(d x h).2) hn λl h' f g b p i j hs keep n=>?_;refine⟨.ref l,_,I.laid (t':=f) (o:= .lst (b.map λz=>V.ref z.2)) keep hs ⟨?_,b.map λk=>Pj k.2,g,?_,j⟩,rfl,q l b (I.hok.fresh hs) p i⟩
 ·rw[OS,p.length_eq,Rv];omega
 ·exact qX b
end
end L2.Hs
namespace L2.Pu
open PySem PySem.Spec PyProof.Rows L2.Hs
def gG(nv:Nat)(caps:List Nat)(it:FL)(tg:TgF)(tt:Dn->M Bool)(b:FL)(a:List D->Option D):FD:=λδ β=>match it δ β with
 |none=>OR
 |some (.error C,β1)=>on (.error C,β1)
 |some (.ok ds,β1)=>match cLp tg tt b ds (cSt nv caps δ) β1 with
  |some (.ok os,β2)=>(a os).map λd=>(.ok d,β2)
  |_=>OR
section
variable{K:Po}{E:St->XK}
theorem q8{R:AR}{p:OZ->HO}{c:List D->Option D}{vars:List PY}{caps:List Nat}{it:FL}{g:TG}{tg:TgF}{tt:Dn->M Bool}{P:OZ->TB}{b:FL}(hg:cz K g tg)(sg:dE tg)(hb:∀D,eA K R D (P D) b)
  (r0:∀F H D,R.R F (upd H D (p D)) D []) (hp:∀os d,c os=on d->R.Z os) {T:St} {H:Hp} {Q U:VK} (h:tV K (gG vars.length caps it tg tt b c) E T H U)
  (k:∀F B f D os d,Fr F B f->¬F.A D->R.R F B D os->c os=on d->(∀v j,To F B j f->Den K F j d v->U v j)->Q (.ref D) B):
  kO p vars caps (iV K it E) (λD J=>cV J g (tVT K tt E0) (P D)) T H Q:=by
 obtain⟨F,δ,β,fr,W,r,f,e,h⟩:=h;unfold gG at e;refine⟨F,δ,β,fr,W,?_⟩;split at e
 ·cases e
 ·rename_i C β1 q
  cases e;exact⟨.error C,_,q,h⟩
 ·rename_i ds β1 q
  split at e
  ·rename_i os β2 q2
   cases hd:c os with
   |none=>rw[hd]at e;cases e
   |some d=>
    rw[hd]at e;cases e;refine⟨.ok ds,β1,q,λJ I t hJ D m=>?_⟩;have i:¬F.A D:=t.fr.fresh m;have nb:∀b l,F.bg=on (b,l)->D≠b/\D≠l:=λb l z=>⟨λw=>i (w▸(fr.bgA b l z).1),λw=>i (w▸(fr.bgA b l z).2.1)⟩;have X:=t.fr.upd (p D) m;have L:Fr ⟨λa=>F.A a\/a=D,F.bg⟩ (upd I D (p D)) β1:=by
     refine⟨λa ha z=>?_,λb l z=>let ⟨x,y,w⟩:=fr.bgA b l z;⟨.inl x,.inl y,w⟩,X.fr.bag⟩
     rcases ha with ha|ha
     ·exact X.fr.occ a ha z
     ·subst ha;rw[ah]at z;cases z
    have u:Tr F I ⟨λa=>F.A a\/a=D,F.bg⟩ (upd I D (p D)):=⟨λa ha hs z=>by
     rcases z with z|z
     ·exact ha z
     ·subst z;exact hs m,λa o ha z=>by rw[upd_ne (ne_of_none z m)];exact z,rfl⟩
    refine mE (R:=R) (D:=D) (as:=[]) (os:=os) hg sg (hb D) L (.inr rfl) nb (pZ (W.tr ((t.tr fr).trans u))) (r0 _ _ _) (hJ.tr u) q2 (hp os d hd) λσ1 j N vk3 O=>?_;have Y:To F I j f:=by
     refine⟨λa o z n=>N.kp a o (by rw[upd_ne (ne_of_none z m)];exact z) (ne_of_none z m) n,λa ha z=>N.fr.occ a (RB ha) z,fr.bgA,N.fr.bag⟩
    exact k F j f D os d Y.fr i (R.tr (F:=⟨λa=>F.A a\/a=D,F.bg⟩) O (λ_ z=>z) ⟨λa ha _ z=>ha (RB z),λa o _ z=>z,rfl⟩) hd λv H3 t4 hv=>h v H3 ((t.trans Y).trans t4) hv
  ·cases e
noncomputable abbrev tpI(k:List Int):D:= .tup (k.map .int)
theorem qP{k:List Int}(h:Den K F H (tpI k) v):∃b,v= .ref b/\SqT K H b (k.map V.int):=by
 obtain⟨a,xs,rfl,sq,c⟩:=Den.sqT h;cases DenL.ints k c;exact⟨a,rfl,sq⟩
theorem ge(h:tpI k=tpI l):k=l:=by
 injection h with h
 exact VF (λa b z=>by injection z)|>.mp h
theorem lE{α:Type} [BEq α] [LawfulBEq α]:∀{l m:List α},l.Nodup->(∀x∈l,x∈m)->l.length<=m.length
 |[],_,_,_=>QW _
 |a::l,m,nd,h=>by
  obtain⟨c,d⟩:=Qj.mp nd;have:=lE (m:=m.erase a) d λx b=>(List.mem_erase_of_ne (λ(z:x=a)=>c (z▸b))).mpr (h x (OY a b));rw[List.length_erase_of_mem (h a O5)]at this;have:=List.length_pos_of_mem (h a O5);rw[Pg];omega
noncomputable def RS(P:Pt)(w:PV)(K:Po):AR where
 R:=λF H D as=>∃xs,H D=on (l5 P w D xs)/\(xs.map (·.1)).Nodup/\(∀x∈xs,Den K F H (tpI x.1) (.ref x.2)/\tpI x.1∈as)/\∀d∈as,∃k∈xs.map (·.1),d=tpI k
 Z:=λl=>∃ks:LI,ks.length<63/\∀d∈l,∃k∈ks,d=tpI k
 tr:=λh k t=>by
  obtain⟨xs,a,b,c,f⟩:=h;exact⟨xs,k _ a,b,λx e=>⟨Den.tr t _ _ (c x e).1,(c x e).2⟩,f⟩
 zp:=λh=>by
  obtain⟨ks,a,b⟩:=h;exact⟨ks,a,λd hd=>b d (RW _ hd)⟩
theorem DX{D:OZ}:eA K (RS P w K) D (BI P w K D (tV K f E0)) (cEm f):=λF H δ β u R as os Q fr T A J U e W k=>by
 obtain⟨xs,X,nd,j,ha⟩:=U;obtain⟨d,β1,Y,Z⟩:=M.bind_inv e;cases Z;refine⟨F,δ,β,fr,J,E0.run Y λv B t L=>?_⟩;have C:=t.kp D _ X A;obtain⟨ks,z1,N⟩:=W;obtain⟨r,hk',rfl⟩:=N d (P8 _ O5);obtain⟨b,rfl,sq⟩:=qP L;have c:∀x∈xs,Den K F B (tpI x.1) (.ref x.2):=λx h=>Den.tr (t.tr fr) _ _ (j x h).1;have g:xs.length<63:=by
  have:=lE (m:=ks) nd λx I=>by
   obtain⟨y,hy,rfl⟩:=Pp.mp I;obtain⟨l,hl,e⟩:=N _ (RW _ (j y hy).2);rw[ge e];exact hl
  rw[OS]at this;omega
 refine⟨xs,r,b,C,rfl,sq,λx h=>?_,g,λi c1 c2=>?_⟩
 ·obtain⟨b',e,q⟩:=qP (c x h)
  cases e;exact q
 have O:ToD F D B (upd B D (l5 P w D i)) u:=by
  refine⟨λa o h n _=>by rw[upd_ne n];exact h,λa h q=>?_,fr.bgA,λb l q=>?_⟩
  ·by_cases z:a=D
   ·subst z;rw[ah]at q;cases q
   ·rw[upd_ne z]at q;exact t.fr.occ a h q
  ·rw[upd_ne (A b l q).1.symm,upd_ne (A b l q).2.symm]
   exact t.fr.bag b l q
 have tt:=O.tr t.fr T;refine k R _ ((t.toD D).trans O) (J.tr ((t.tr fr).trans tt)) ⟨i,ah,?_⟩;by_cases hm:r∈xs.map (·.1)
 ·cases c1 hm
  refine⟨nd,λx h=>⟨Den.tr tt _ _ (c x h),RW _ (j x h).2⟩,λd hd=>?_⟩;rcases QY.mp hd with hd|hd
  ·exact ha d hd
  ·exact⟨r,hm,Qd.mp hd⟩
 ·have p:=c2 hm
  refine⟨(p.map (·.1)).nodup_iff.mpr (Qj.mpr ⟨hm,nd⟩),λx h=>?_,λd hd=>?_⟩
  ·rcases Pq.mp (p.mem_iff.mp h)with rfl|h
   ·exact⟨Den.tr tt _ _ L,P8 _ O5⟩
   ·exact⟨Den.tr tt _ _ (c x h),RW _ (j x h).2⟩
  ·rcases QY.mp hd with hd|hd
   ·obtain⟨k2,h2,e⟩:=ha d hd
    exact⟨k2,(p.map (·.1)).mem_iff.mpr (OY _ h2),e⟩
   ·exact⟨r,(p.map (·.1)).mem_iff.mpr O5,Qd.mp hd⟩
def Srt(ks:LI)(os:List D):Prop:=Up ks/\ks.length<63/\(∀k∈ks,1<=k.length/\tpI k∈os)/\∀d∈os,∃k∈ks,d=tpI k
theorem Srt.eq{os:List D}(a:Srt ks os)(b:Srt ls os):ks=ls:=w9 a.1 b.1 λx=>⟨λh=>by
 obtain⟨l,c,e⟩:=b.2.2.2 _ (a.2.2.1 x h).2;rw[ge e];exact c,λh=>by
 obtain⟨l,c,e⟩:=a.2.2.2 _ (b.2.2.1 x h).2;rw[ge e];exact c⟩
open Classical in
def jX(os:List D):Option D:=if h:∃ks,Srt ks os then on (.lst (h.choose.map tpI))else OR
theorem CJ{ks:LI}{os:List D}(h:Srt ks os):jX os=on (.lst (ks.map tpI)):=by
 have q:∃ks,Srt ks os:=⟨ks,h⟩;unfold jX;rw[dif_pos q,q.choose_spec.eq h]
theorem re{os:List D}(h:jX os=on d):∃ks,Srt ks os/\d= .lst (ks.map tpI):=by
 unfold jX at h;split at h
 ·rename_i q
  cases h;exact⟨_,q.choose_spec,rfl⟩
 ·cases h
theorem rP:∀{a:List (List Int×OZ)},(∀z∈a,Den K F H (tpI z.1) (.ref z.2))->DenL K F H ((a.map (·.1)).map tpI) (a.map λz=>V.ref z.2)
 |[],_=>DenL.nil
 |z::a,h=>DenL.cons (h z O5) (rP λx b=>h x (OY z b))
end
section
variable{X:Cx}{E:St->XK}{elt target iter:Expr}{ifs:List Expr}{rest:List Q1}{scope:Scope}{pos p pos':Tz}{Nc vars:List PY}{caps:List Nat}{g:TG}{tb:OZ->TB}
theorem BZ(i:Gl X "sorted")(hm:X.mg "sorted"=OR)(o:X.calm=OV)(S:CmpScope X scope Nc vars caps)(r:PI X target iter (iV X.K it E))
  (t:∀(cl:List (PY×OZ)) (C:OZ) (j:List OZ) (s:O7) (H:Hp),PG (aC X Nc scope cl C j s H) target g/\dG (aC X Nc scope cl C j s H) ifs (tVT X.K tt E0)/\∀D,PB (aC X Nc scope cl C j s H) (.S elt) (⟨target,iter,ifs,0⟩::rest) scope pos 0 D (tb D))
  (u:cz X.K g tg) (A:dE tg) (B:∀D,eA X.K (RS X.prog X.w X.K) D (tb D) b) (hs:∀x,Qf iter X.env x=Ro x:=by intro _;rfl):
  PE X (.Call (.Name "sorted" p) [.SetComp elt (⟨target,iter,ifs,0⟩::rest) scope pos] [] pos') (tV X.K (gG vars.length caps it tg tt b jX) E):=
 (j6 (vA o) i hm (by kernel_rfl) (bt (Ka o S r t hs) d7)).imp λY H Q h=>by
  refine q8 (Q:=λv I=>vZ X.prog X.w X.K [v] I Q) u A B (λF H D=>⟨[],ah,.nil,λx a=>PF a (by simp),λd hd=>PF hd (by simp)⟩) (λos d e=>?_) h λF Z J D os d fr L N e q=>?_
  ·obtain⟨ks,s,_⟩:=re e
   exact⟨ks,s.2.1,s.2.2.2⟩
  ·obtain⟨ks,s,rfl⟩:=re e
   obtain⟨xs,O,nd,a,ha⟩:=N;have k:∀x∈xs,x.1∈ks:=λx h=>by
    obtain⟨l,f,e⟩:=s.2.2.2 _ (a x h).2;rw[ge e];exact f
   have hn:xs.length<64:=by
    have:=lE (m:=ks) nd λy c=>by
     obtain⟨x,h,rfl⟩:=Pp.mp c;exact k x h
    rw[OS]at this;have:=s.2.1;omega
   refine⟨D,xs,rfl,O,λx h=>?_,hn,λl P f n R=>?_⟩
   ·obtain⟨b',e,q⟩:=qP (a x h).1
    cases e;exact⟨q,(s.2.2.1 _ (k x h)).1⟩
   ·have T:ks=P.map (·.1):=w9 s.1 R λy=>by
     refine⟨λc=>?_,λc=>?_⟩
     ·obtain⟨k2,U,e⟩:=ha _ (s.2.2.1 y c).2
      rw[ge e];exact(n.map (·.1)).mem_iff.mpr U
     ·obtain⟨x,h,rfl⟩:=Pp.mp ((n.map (·.1)).mem_iff.mp c)
      exact k x h
    rw[T]at q;exact q _ _ (fr.upd _ f) (Den.newL fr f (rP λz W=>(a z (n.mem_iff.mp W)).1))
end
end L2.Pu
namespace L2.Hs
open PySem PySem.Spec PyProof.Rows
section
variable{prog:Pt}{w:PV}{A:Qn}{E:OX->O7->Prop}{s:O7}
def IsP(prog:Pt)(w:PV)(h:P7)(k:KyD)(a:OZ):Prop:=∃o n t b,h.get? a=on o/\o.cls= .type "tuple"/\o.data= .seq #[.int k.1 t,.ref b] n/\(IKd prog w).is h k.2 b
theorem IsP.ty(x:IsP prog w s.heap k a):s.TypeIs (.ref a) "tuple":=let ⟨o,_,_,_,ho,hc,_⟩:=x;⟨o,ho,hc⟩
theorem IsP.inj(f:IsP prog w h x a)(g:IsP prog w h y a):x=y:=by
 obtain⟨o,n,t,b,i,_,hd,j⟩:=f;obtain⟨k,p,t',q,d,_,c,e⟩:=g;obtain rfl:o=k:=PR (i.symm.trans d);rw[hd]at c;simp only[Data.seq.injEq,Array.mk.injEq,SH,SE.injEq,Pj.injEq]at c;obtain⟨⟨⟨l,_⟩,m,_⟩,_⟩:=c;subst m;exact S7 l ((IKd prog w).inj j e)
theorem Mw(k:List Int):hsh prog w k=hI k:=by unfold hsh hI;show tupleKeyHash _ _=_;unfold tupleKeyHash;rfl
theorem Mx{k:KyD}(g:A.units+1<UL)(f:IsP prog w s.heap k a)(h:Q (hB OV k) {s with toks:=s.toks+(k.2.length+3)}):Pf (Py prog w) A (pyHash (.ref a)) Q E s:=by
 have c:=f.ty;obtain⟨o,n,t,b,i,_,hd,j⟩:=f;unfold pyHash
 first|unfold pyHashByItsType|skip
 refine My (wpAny_cRoomFor_or (.inr (by omega)) ?_);refine My (SA c F.slot_tuple_hash.lookup ?_);show Pf _ _ (if(on (Value.builtin "tuple.__hash__")==on Qs)=OV then _ else _) Q E s;rw[O3 (by rw[beq_builtin_none];exact Pa)];refine My (SA c F.slot_tuple_hash.lookup ?_);show Pf _ _ (callSpecialIfBoundUnlessNone? (.ref a) "__hash__" _>>=_) Q E s;refine My (wpAny_callSpecialIfBoundUnlessNone?_slot c F.slot_tuple_hash (Ql F.slot_tuple_hash c F.entry_tuple_hash ?_ (F.args_tuple_hash_1 _)));show Pf _ _ (Builtin.Tuple.tupleItemsOf (.ref a)>>=_) _ _ s;refine My (Wb i hd ?_);refine My ?_;rw[←S9];simp only[Si,SB];refine My (My (wpAny_pyHash_int ?_));refine OT (My (My ((IKd prog w).pyHash g j ?_)));refine OT (OT ?_);have h':Q (hB OV k) {s with toks:=s.toks+1+(k.2.length+1)+1}:=by
  have e:s.toks+1+(k.2.length+1)+1=s.toks+(k.2.length+3):=by omega
  rw[e];exact h
 refine wpAny_ret_mkInt ?_;generalize l:TH _=z;have m:hB OV k=reduceHash z:=by rw[←l,show(IKd prog w).hash k.2=hI k.2 from Mw k.2];rfl
 rw[m]at h';show Pf _ _ (if(decide (-(2:Int)^63<=z)&&decide (z<2^63))=OV then _ else _) Q E _;unfold reduceHash at h';by_cases d:(decide (-(2:Int)^63<=z)&&decide (z<2^63))=OV
 ·rw[O8 d]
  rw[O8 d]at h';exact OT h'
 ·rw[O3 d]
  rw[O3 d]at h';exact My (S3 (OT h'))
theorem eq_p(q:A.units+1<UL)(d:IsP prog w s.heap x a)(f:IsP prog w s.heap y b)(h:Q (decide (x=y)) s):Pf (Py prog w) A (eqBool (.ref a) (.ref b)) Q E s:=by
 unfold eqBool
 try with_reducible refine QO ?_
 show Pf _ _ (if(Pj a==Pj b)=OV then _ else _) Q E s;by_cases c:(Pj a==Pj b)=OV
 ·rw[O8 c]
  have e:a=b:=by have:=eq_of_beq c;injection this
  subst e;obtain rfl:=d.inj f;exact My (S3 (OT (by simpa using h)))
 ·rw[O3 c]
  refine My (wpAny_richCompare_same_room (op:= .Eq) d.ty f.ty F.slot_tuple_eq
   (Ql F.slot_tuple_eq d.ty F.entry_tuple_eq ?_ (F.args_tuple_eq_2 _ _)) (by omega))
  have j:=f.ty;obtain⟨r,t,u,v,k,_,l,m⟩:=d;obtain⟨B,C,H,I,n,_,o,p⟩:=f;show Pf _ _ (UO (.ref b) (.type "tuple")>>=_) _ _ s;refine My (RQ j VC ?_);simp only[QK,Pk,Qe];refine My (Wb k l ?_);refine My (Wb n o ?_);refine My ?_;simp only[Sb,VU,Si,SB];refine My (My ((Vv prog w).eqBool (a:=x.1) (b:=y.1) (by simp[Vv,Xp]) (by simp[Vv,Xp]) ?_));by_cases g:x.1=y.1
  ·rw[PH g]
   refine OT (My (My ((IKd prog w).eqBool q m p ?_)));by_cases i:x.2=y.2
   ·rw[PH i]
    rw[PH (S7 g i)]at h;exact OT (OT (OT ⟨_,rfl,(λe=>nomatch e),QP h⟩))
   ·rw[Qw i]
    rw[Qw (λe=>i (Qr _ e))]at h;exact My (OT (OT (OT (OT ⟨_,rfl,(λe=>nomatch e),QP h⟩))))
  ·rw[Qw g]
   rw[Qw (λe=>g (Qr _ e))]at h;exact My (OT (OT (OT (OT ⟨_,rfl,(λe=>nomatch e),QP h⟩))))
theorem J3(f:(IKd prog w).is s.heap k a)(h:Q OV s):Pf (Py prog w) A (YF (m+1) (.ref a)) Q E s:=by
 have g:=W0 f;obtain⟨o,c,n,i,_,hd,j⟩:=f;unfold YF;refine My (SA g F.slot_tuple_eq.lookup ?_);show Pf _ _ (UO (.ref a) (.type "tuple")>>=_) _ _ s;refine My (RQ g VC ?_);simp only[QK,Pk,Qe];refine My (Q9 i hd ?_);refine My ?_;show Pf _ _ (forIn c _ _) _ _ s;rw[←S9];refine Vn _ (λrest r s'=>r.1=OR/\s'=s/\∀v∈rest,carriedByValue v=OV) _ ?_ ?_ _ _ ⟨rfl,rfl,j.byValue⟩
 ·rintro v rest r s' ⟨d,rfl,b⟩
  rw[eqIsQuiet_byValue _ (b v O5)];refine My (OT ?_);simp only[QK,Pk,Qe];exact OT ⟨rfl,rfl,λu e=>b u (OY _ e)⟩
 ·rintro⟨r1,l⟩ s' ⟨d,rfl,_⟩
  simp only at d;subst d;exact OT h
theorem J4(c:IsP prog w s.heap k a)(h:Q OV s):Pf (Py prog w) A (YF 8 (.ref a)) Q E s:=by
 have d:=c.ty;obtain⟨o,n,t,b,e,_,hd,f⟩:=c;unfold YF;refine My (SA d F.slot_tuple_eq.lookup ?_);show Pf _ _ (UO (.ref a) (.type "tuple")>>=_) _ _ s;refine My (RQ d VC ?_);simp only[QK,Pk,Qe];refine My (Q9 e hd ?_);refine My ?_;show Pf _ _ (forIn #[SE k.1 t,Pj b] _ _) _ _ s;rw[←S9];simp only[Si,SB];rw[eqIsQuiet_byValue _ (v:= .int k.1 t) rfl];exact My (My (OT (OT (My (My (J3 (m:=6) f (OT (OT (OT h)))))))))
def PKd(prog:Pt)(w:PV):HeapKind prog w KyD where
 is:=IsP prog w
 hash:=hB OV
 draws:=λk=>k.2.length+3
 room:=λA=>A.units+1<UL
 inj:=λd e=>d.inj e
 keeps:=λx i hd hs=>by
  obtain⟨j,n,t,b,c,l,a,m⟩:=x;refine⟨j,n,t,b,(hs.2 _ ?_).trans c,l,a,(IKd prog w).keeps m i hd hs⟩;rintro rfl;obtain rfl:=PR (c.symm.trans i);rw[hd]at a;exact nomatch a
 pyHash:=λf g h=>Mx f g h
 eqBool:=λf d e h=>eq_p f d e h
 quiet:=λg h=>J4 g h
end
section
variable{prog:Pt}{w:PV}
def FKd(prog:Pt)(w:PV):HeapKind prog w KyD where
 is:=λh k a=>k.1=0/\(IKd prog w).is h k.2 a
 hash:=hB OW
 draws:=λk=>k.2.length+1
 room:=λA=>A.units+1<UL
 inj:=λc d=>S7 (c.1.trans d.1.symm) ((IKd prog w).inj c.2 d.2)
 keeps:=λx i hd hs=>⟨x.1,(IKd prog w).keeps x.2 i hd hs⟩
 pyHash:=λf g h=>(IKd prog w).pyHash (Nat.lt_of_succ_lt f) g.2 h
 eqBool:=λ{A E s x y a b Q} f c d h=>(IKd prog w).eqBool (Nat.lt_of_succ_lt f) c.2 d.2 (by
  have e:decide (x.2=y.2)=decide (x=y):=by
   by_cases q:x.2=y.2
   ·rw[PH q,PH (S7 (c.1.trans d.1.symm) q)]
   ·rw[Qw q,Qw (λz=>q (Qr _ z))]
  rw[e];exact h)
 quiet:=λg h=>(IKd prog w).quiet g.2 h
def KB(prog:Pt)(w:PV):Bool->HeapKind prog w KyD
 |true=>PKd prog w
 |false=>FKd prog w
theorem wx{b:Bool}:(KB prog w b).hash=hB b:=by cases b<;>rfl
theorem qA{b:Bool}{A:Qn}(h:A.units+1<UL):(KB prog w b).room A:=by cases b<;>exact h
def KyS(K:Po)(H:Hp):Bool->KyD->OZ->Prop
 |true,k,c=>∃e,SqT K H c [.int k.1,.ref e]/\SqT K H e (k.2.map V.int)
 |false,k,c=>k.1=0/\SqT K H c (k.2.map V.int)
abbrev XY(x:KyD×OZ×V)(y:KyD×OZ×OX):Prop:=x.1=y.1/\x.2.1=y.2.1/\aG x.2.2 y.2.2
theorem qd:∀{xs:List (KyD×OZ×V)} {ys:List (KyD×OZ×OX)},V6 XY xs ys->xs.map (·.1)=ys.map (·.1)
 |_,_,.nil=>rfl
 |_,_,.cons h t=>by rw[Ph,Ph,h.1,qd t]
theorem yy:∀{xs:List (KyD×OZ×V)} {ys:List (KyD×OZ×OX)},V6 XY xs ys->∀y∈ys,∃x∈xs,XY x y
 |_,_,.nil,y,h=>by cases h
 |_,_,.cons (a:=a) h t,y,hy=>by
  rcases Pq.mp hy with rfl|hy
  ·exact⟨a,O5,h⟩
  ·obtain⟨x,b,e⟩:=yy t y hy
   exact⟨x,OY _ b,e⟩
noncomputable def lkV(xs:List (KyD×OZ×V))(k:KyD):Option V:=(xs.find? λx=>decide (x.1=k)).map (·.2.2)
theorem qe:∀{xs:List (KyD×OZ×V)} {ys:List (KyD×OZ×OX)},V6 XY xs ys->g9 (lkV xs k) ((Xq ys k).map (·.2))
 |_,_,.nil=>by simp[lkV,Xq,g9]
 |_,_,.cons (a:=a) (b:=b) h t=>by
  have ih:=qe (k:=k) t;unfold lkV Xq at ih⊢;rw[TZ,TZ,←h.1];by_cases q:a.1=k
  ·rw[PH q];exact h.2.2
  ·rw[Qw q];exact ih
theorem vC(h:XY x y):∀{xs:List (KyD×OZ×V)} {ys:List (KyD×OZ×OX)},V6 XY xs ys->V6 XY (xs++[x]) (ys++[y])
 |_,_,.nil=> .cons h .nil
 |_,_,.cons h' t=> .cons h' (vC h t)
end
section
variable{X:Cx}{pins:List (OZ×PP)}{σ:St}{H:Hp}{s:O7}
theorem sR{b:Bool}(I:Inv X pins σ H s)(h:KyS X.K H b k c):(KB X.prog X.w b).is s.heap k c:=by
 cases b with
 |true=>
  obtain⟨e,a,d⟩:=h;obtain⟨its,f,⟨o,g,i,n,hd⟩,_⟩:=I.tuple a;obtain⟨j,l,rfl,⟨t,rfl⟩,rfl⟩:=sF f;exact⟨o,n,t,e,g,i,hd,mG I d⟩
 |false=>exact⟨h.1,mG I h.2⟩
theorem big{pins:List (OZ×PP)}{σ:St}{H:Hp}{s:O7}(I:Inv X pins σ H s):V9<s.heap.objs.size:=Ud (by decide) (show Ru<s.heap.objs.size from(I.mod.glob.keeps I.bk).lt)
theorem pU{b:Bool}(I:Inv X pins σ H s)(d:H a=on (dP a b ep xs))(e:∀x∈xs,KyS X.K H b x.1 x.2.1):∃ys,s.heap.DictOfH (KB X.prog X.w b) a ys/\V6 XY xs ys/\ys.length<=Pe/\(a==V9)=OW:=by
 obtain⟨o,es,ys,f,g,h,i,j,k,l,c⟩:yv a b ep xs s.heap:=(I.hok a _ d).1;refine⟨ys,⟨o,es,ep,f,g,h,?_,λy m=>?_,j⟩,c,l,k⟩
 ·rw[i];unfold entryOfKey;rw[wx]
 ·obtain⟨x,n,p,q,_⟩:=yy c y m
  rw[←p,←q];exact sR I (e x n)
def LF(K:Po):R2:=λx y H Q=>∃a b ep xs k c v,x= .ref a/\y= .ref c/\H a=on (dP a b ep xs)/\(∀x∈xs,KyS K H b x.1 x.2.1)/\KyS K H b k c/\lkV xs k=on v/\Q v H
theorem AA(l:X.A.units+2<UL):IxR X (LF X.K):=by
 intro g i pins s σ H x y v u Q I m n h hs;obtain⟨a,b,ep,xs,k,c,o,rfl,rfl,t,w,B,C,q⟩:=h;cases m;cases n;obtain⟨ys,d,p,_,_⟩:=pU I t w;have f:=qe (k:=k) p;rw[C]at f;cases e:Xq ys k with
 |none=>rw[e]at f;exact f.elim
 |some r=>
  rw[e]at f;exact Vw (x:=r.2) d.typeIs PySem.F.slot_dict_getitem.lookup (wpAny_getItem_heap (Q:=λj s'=>j=r.2/\EP X pins σ Q j s') (qA l) (sR I B) d e ⟨rfl,o,H,I.tok _,f,q⟩) hs
theorem ux{b:Bool}:Mks X newDict λD=>dP D b 0 []:=λpins s σ H E Q I h=>QE (h _ (I.laid (t':=s.toks) (λ_ _ q=>OU _ q) (O9 _) (wQ ⟨_,#[],[],Pl _ rfl,⟨rfl,rfl,rfl⟩,rfl,rfl,.nil,beq_eq_false_iff_ne.mpr (Ne.symm (Qa (big I))),QW _,.nil⟩)) λb o e=>OU _ e)
def BJ(K:Po)(b:Bool)(D:OZ)(e f:TE):TB:=λσ H Q=>e σ H λx g=>f σ g λy a=>∃ep xs k c,x= .ref c/\a D=on (dP D b ep xs)/\(∀x∈xs,KyS K a b x.1 x.2.1)/\KyS K a b k c/\k∉xs.map (·.1)/\xs.length<Pe/\∀d,Q σ (upd a D (dP D b d (xs++[(k,c,y)])))
theorem j7{D:OZ}{b:Bool}(J:X.A.units+1<UL)(L:gens[d+1]?=OR)(N:PE X ke tk)(O:PE X ve tv)(a:X.xe=λ_ _=>False):PB X (.D ke ve) gens scope pos d D (BJ X.K b D tk tv):=by
 intro pins s σ H Q I h k Q' E' P;unfold gL;rw[L];show Pf _ _ (emC (.D ke ve) (.ref D) X.env>>=λ_=>k) _ _ _;unfold emC;have t:=N pins s σ H _ I h;rw[a]at t;refine My (My (Qc t (λu R T=>?_) λ_ _ f=>f.elim));obtain⟨v,U,W,r,q1⟩:=T;have w:=O pins R σ U _ W q1;rw[a]at w;refine My (QO (Qc w (λu2 s2 Y=>?_) λ_ _ f=>f.elim));obtain⟨v2,H2,i,Z,ep0,xs,j,c,rfl,B,hx,hc,hn,hl,q⟩:=Y;cases r;obtain⟨ys,dd,p,hz,l⟩:=pU i B hx;have C:=qd p;have e0:Xq ys j=OR:=by
  cases e:Xq ys j with
  |none=>rfl
  |some r=>
   exfalso
   unfold Xq at e;cases m:ys.find? (λx=>decide (x.1=j))with
   |none=>rw[m]at e;cases e
   |some y=>
    have:=List.find?_some m;exact hn (by rw[C];exact Pp.mpr ⟨y,List.mem_of_find?_eq_some m,Ut this⟩)
 refine My (Rh (QO (wpAny_dictSet_heap (qA J) (sR i hc) dd (λh' d' sb=>?_) hz)));rw[storedH_new e0]at d';obtain⟨o,es,ep,F,g2,g3,g4,g5,g6⟩:=d';have g:ys.length=xs.length:=by rw[←OS (f:=(·.1)),←C,OS]
 refine P _ σ _ (i.write (by rw[B];trivial) (.inl rfl) (λb u n e=>(sb.2 b n).trans e) ⟨o,F⟩ (wQ ⟨o,es,_,F,g2,g3,?_,g6,l,?_,vC ⟨rfl,rfl,Z⟩ p⟩)) (q ep)
 ·rw[g4];unfold entryOfKey;rw[wx]
 ·rw[Pn,g,Qg];omega
theorem DE{b:Bool}{k l a d:Expr}{f:List Expr}{rest:List Q1}{scope:Scope}{pos:Tz}{i vars:List PY}{caps:List Nat}{g:TG}{tt:TT}{p:OZ->TB}{r:TI}(t:X.calm=OV)(S:CmpScope X scope i vars caps)(u:PI X a d r)
  (y:∀(cl:List (PY×OZ)) (C:OZ) (j:List OZ) (s:O7) (H:Hp),PG (aC X i scope cl C j s H) a g/\dG (aC X i scope cl C j s H) f tt/\∀D,PB (aC X i scope cl C j s H) (.D k l) (⟨a,d,f,0⟩::rest) scope pos 0 D (p D))
  (hs:∀x,Qf d X.env x=Ro x:=by intro _;rfl):PE X (.DictComp k l (⟨a,d,f,0⟩::rest) scope pos) (kO (λD=>dP D b 0 []) vars caps r λD J=>cV J g tt (p D)):=by
 intro pins s σ H Q I h;refine R6 (use:=OR) rfl hs (S.clo I.ok) S.kind S.loc (Qc (u pins s σ H _ I h) (λv W B=>Qc B (λF Y L=>?_) λ_ _ x=>x) λ_ _ x=>x);obtain⟨it,j,Z,J,H2,e,N,T,n,f2,q⟩:=L;subst e;refine gJ (c:= .D k l) ux (RR:=λacc C=>Xv (Py X.prog X.w) X.A X.xe OR _ acc C) t S y N T n f2 q λD C s' O m P ns R U=>?_;exact⟨m,ns,λh' o=>⟨.ref D,O,P.letgo R o,rfl,U⟩⟩
end
end L2.Hs
namespace L2.Pu
open PySem PySem.Spec PyProof.Rows L2.Hs
def dK:Bool->KyD->D
 |true,k=> .tup [.int k.1,tpI k.2]
 |false,k=>tpI k.2
def KyZ(b:Bool)(k:KyD):Prop:=b=OW->k.1=0
theorem MJ{b:Bool}(a:KyZ b k)(c:KyZ b l)(h:dK b k=dK b l):k=l:=by
 cases b with
 |true=>
  simp only[dK,D.tup.injEq,SH,D.int.injEq,and_true]at h;exact S7 h.1 (ge (Qr D.tup h.2))
 |false=>exact S7 ((a rfl).trans (c rfl).symm) (ge h)
section
variable{K:Po}{F:Fx}{H:Hp}{E:St->XK}
theorem u6(h:Den K F H (.tup ds) v):∃a xs,v= .ref a/\TQ K F H a xs/\DenL K F H ds xs:=by
 unfold Den at h;exact h
theorem oG(h:TQ K F H a xs)(hd:DenL K F H ds xs):Den K F H (.tup ds) (.ref a):=by
 unfold Den;exact⟨a,xs,rfl,h,hd⟩
theorem TQ.sq(h:TQ K F H c xs):SqT K H c xs:=h.imp (·.2) id
theorem hG.s{b:Bool}(h:hG K F H b k c):KyS K H b k c:=by
 cases b with
 |true=>
  obtain⟨e,a,d⟩:=h;exact⟨e,a.sq,d.sq⟩
 |false=>exact⟨h.1,h.2.sq⟩
theorem hG.z{b:Bool}(h:hG K F H b k c):KyZ b k:=λe=>by subst e;exact h.1
theorem xS{b:Bool}(g:KyZ b k)(h:Den K F H (dK b k) v):∃c,v= .ref c/\hG K F H b k c:=by
 cases b with
 |true=>
  obtain⟨a,xs,rfl,q,d⟩:=u6 h;obtain⟨i,j,rfl,d1,d2⟩:=DenL.two d;cases d1.int;obtain⟨e,ys,rfl,q2,f⟩:=u6 d2;cases DenL.ints k.2 f;exact⟨a,rfl,e,q,q2⟩
 |false=>
  obtain⟨a,xs,rfl,q,d⟩:=u6 h;cases DenL.ints k.2 d;exact⟨a,rfl,g rfl,q⟩
theorem Oi{b:Bool}(h:hG K F H b k c):Den K F H (dK b k) (.ref c):=by
 cases b with
 |true=>
  obtain⟨e,a,d⟩:=h;exact oG a (DenL.cons rfl (DenL.cons (oG d (DenL.ofInts k.2)) DenL.nil))
 |false=>exact oG h.2 (DenL.ofInts k.2)
abbrev pKD(b:Bool)(p:KyD×D):D:= .tup [dK b p.1,p.2]
def Dk(b:Bool)(kvs:List (KyD×D))(os:List D):Prop:=os=kvs.map (pKD b)/\(kvs.map (·.1)).Nodup/\kvs.length<=Pe/\∀p∈kvs,KyZ b p.1
theorem Kh{b:Bool}{p q:KyD×D}(a:KyZ b p.1)(c:KyZ b q.1)(h:pKD b p=pKD b q):p=q:=by
 simp only[pKD,D.tup.injEq,SH,and_true]at h;exact S7 (MJ a c h.1) h.2
theorem j8{b:Bool}:∀{l m:List (KyD×D)},(∀p∈l,KyZ b p.1)->(∀p∈m,KyZ b p.1)->l.map (pKD b)=m.map (pKD b)->l=m
 |[],[],_,_,_=>rfl
 |[],_::_,_,_,h=>by cases h
 |_::_,[],_,_,h=>by cases h
 |p::l,q::m,hl,hm,h=>by
  rw[Ph,Ph,SH]at h;rw[Kh (hl p O5) (hm q O5) h.1,j8 (λx a=>hl x (OY _ a)) (λx a=>hm x (OY _ a)) h.2]
theorem Dk.eq{b:Bool}{os:List D}(x:Dk b l os)(y:Dk b m os):l=m:=j8 x.2.2.2 y.2.2.2 (x.1.symm.trans y.1)
open Classical in
def kC(b:Bool)(os:List D):Option D:=if h:∃kvs,Dk b kvs os then on (.dct b (h.choose.map (·.1)) (h.choose.map (·.2)))else OR
theorem wR{b:Bool}{kvs:List (KyD×D)}{os:List D}(h:Dk b kvs os):kC b os=on (.dct b (kvs.map (·.1)) (kvs.map (·.2))):=by
 have q:∃kvs,Dk b kvs os:=⟨kvs,h⟩;unfold kC;rw[dif_pos q,q.choose_spec.eq h]
theorem u8{b:Bool}{os:List D}(h:kC b os=on d):∃kvs,Dk b kvs os/\d= .dct b (kvs.map (·.1)) (kvs.map (·.2)):=by
 unfold kC at h;split at h
 ·rename_i q
  cases h;exact⟨_,q.choose_spec,rfl⟩
 ·cases h
noncomputable def RD(K:Po)(b:Bool):AR where
 R:=λF H D as=>∃ep,∃a:List ((KyD×Pu.D)×OZ×V),as=a.map (λz=>pKD b z.1)/\H D=on (dP D b ep (a.map λz=>(z.1.1,z.2)))/\∀z∈a,hG K F H b z.1.1 z.2.1/\Den K F H z.1.2 z.2.2
 Z:=λl=>∃kvs more,Dk b kvs (l++more)
 tr:=λh k t=>by
  obtain⟨ep,a,e,f,c⟩:=h;exact⟨ep,a,e,k _ f,λz d=>⟨(c z d).1.tr t,Den.tr t _ _ (c z d).2⟩⟩
 zp:=λh=>by
  obtain⟨kvs,more,h⟩:=h;exact⟨kvs,_,by rw[←Qv];exact h⟩
def FC(f g:FD):FL:=λδ=>M.bind (f δ) λk=>M.bind (g δ) λv=>M.ret [.tup [k,v]]
theorem nW{b:Bool}{D:OZ}:eA K (RD K b) D (BJ K b D (tV K f E0) (tV K g E0)) (FC f g):=λF H δ β C σ as os Q fr hA A I hR e hz k=>by
 obtain⟨ep,d,rfl,hD,B⟩:=hR;obtain⟨T,β1,e1,e2⟩:=M.bind_inv e;obtain⟨U,β2,e3,e4⟩:=M.bind_inv e2;cases e4;obtain⟨kvs,more,J,W,z3,X⟩:=hz;have L:∀p∈d.map (·.1),KyZ b p.1:=λp r=>by
  obtain⟨z,h,rfl⟩:=Pp.mp r;exact(B z h).1.z
 have N:d.length<kvs.length:=by
  have:=Qr Vq J;simp at this;omega
 have ez:(d.map (·.1)).map (pKD b)=(kvs.take d.length).map (pKD b):=by
  rw[VA,←J,Qv,List.take_append_of_le_length (by simp),RI (by simp),Pd];rfl
 have ek:=j8 L (λp r=>X p (List.mem_of_mem_take r)) ez;have O:pKD b kvs[d.length]= .tup [T,U]:=by
  have Y:(kvs.map (pKD b))[d.length]?=on (.tup [T,U]):=by
   rw[←J,Qv,Re (by simp)];simp
  rw[O4,O0 N]at Y;exact PR Y
 have u:=X _ (Qh N);generalize r:kvs[d.length]=p at O u;obtain⟨j,vv⟩:=p;simp only[pKD,Pu.D.tup.injEq,SH,and_true]at O;obtain⟨rfl,rfl⟩:=O;have w:j∉d.map (·.1.1):=λhm=>by
  have h2:kvs.take d.length++(j,vv)::kvs.drop (d.length+1)=kvs:=by
   rw[←r,←QB N,RP]
  rw[←h2,←ek,P4,Ph,VT]at W;refine W.2.2 j ?_ j O5 rfl;rw[Pd];exact hm
 refine⟨F,δ,β,fr,I,E0.run e1 λv H1 t hv=>⟨F,δ,β1,t.fr,I.tr (t.tr fr),E0.run e3 λZ H2 m P=>?_⟩⟩;have R:=Den.tr (m.tr t.fr) _ _ hv;obtain⟨c,rfl,kc⟩:=xS u R;have i:=(t.tr fr).trans (m.tr t.fr);refine⟨ep,_,j,c,rfl,m.kp D _ (t.kp D _ hD A) A,λx h=>?_,kc.s,?_,?_,λy=>?_⟩
 ·obtain⟨z,h',rfl⟩:=Pp.mp h
  exact((B z h').1.tr i).s
 ·rw[Pd];exact w
 ·rw[OS];omega
 have tD:ToD F D H2 (upd H2 D (dP D b y ((d.map λz=>(z.1.1,z.2))++[(j,c,Z)]))) C:=by
  refine⟨λa o h n _=>by rw[upd_ne n];exact h,λa h q=>?_,fr.bgA,λb l q=>?_⟩
  ·by_cases z:a=D
   ·subst z;rw[ah]at q;cases q
   ·rw[upd_ne z]at q;exact m.fr.occ a h q
  ·rw[upd_ne (A b l q).1.symm,upd_ne (A b l q).2.symm]
   exact m.fr.bag b l q
 have tt:=tD.tr m.fr hA;refine k σ _ (((t.trans m).toD D).trans tD) (I.tr (i.trans tt)) ⟨y,d++[((j,vv),c,Z)],by rw[P4];rfl,by rw[P4];exact ah,λz h=>?_⟩;rcases QY.mp h with h|h
 ·exact⟨(B z h).1.tr (i.trans tt),Den.tr (i.trans tt) _ _ (B z h).2⟩
 ·cases Qd.mp h
  exact⟨kc.tr tt,Den.tr tt _ _ P⟩
theorem u7{F:Fx}{H:Hp}{α:Type}{f:α->D}{g:α->V}:∀{a:List α},(∀z∈a,Den K F H (f z) (g z))->DenL K F H (a.map f) (a.map g)
 |[],_=>DenL.nil
 |z::a,h=>DenL.cons (h z O5) (u7 λx b=>h x (OY z b))
end
theorem u5{K:Po}{E:St->XK}{kb:Bool}{vars:List PY}{caps:List Nat}{g:TG}{f:OZ->TB}{it:FL}{tg:TgF}{tt:Dn->M Bool}{b:FL}(j:cz K g tg)(k:dE tg)(l:∀D,eA K (RD K kb) D (f D) b){i:St}{H:Hp}{Q:VK}(h:tV K (gG vars.length caps it tg tt b (kC kb)) E i H Q):
  kO (λD=>dP D kb 0 []) vars caps (iV K it E) (λD J=>cV J g (tVT K tt E0) (f D)) i H Q:=by
 refine q8 j k l (λF H D=>⟨0,[],rfl,ah,λx a=>PF a (by simp)⟩) (λos d e=>?_) h λF v m D os d fr c n e q=>?_
 ·obtain⟨kvs,s,_⟩:=u8 e
  exact⟨kvs,[],by rw[PN];exact s⟩
 ·obtain⟨kvs,s,rfl⟩:=u8 e
  obtain⟨ep,o,rfl,r,a⟩:=n;have t:kvs=o.map (·.1):=j8 s.2.2.2 (λp u=>by
   obtain⟨z,h,rfl⟩:=Pp.mp u;exact(a z h).1.z) (by rw[←s.1,Pd];rfl)
  refine q _ _ (To.refl fr) ?_;unfold Den;subst t;refine⟨D,ep,_,rfl,⟨c,r⟩,by simp,λx h=>?_,?_⟩
  ·obtain⟨z,h',rfl⟩:=Pp.mp h
   exact(a z h').1
  ·rw[Pd,Pd]
   exact u7 λz h=>(a z h).2
section
variable{X:Cx}{E:St->XK}{ke ve target iter:Expr}{ifs:List Expr}{rest:List Q1}{scope:Scope}{pos:Tz}{Nc vars:List PY}{caps:List Nat}{g:TG}{tb:OZ->TB}
theorem JH{kb:Bool}(c:X.calm=OV)(S:CmpScope X scope Nc vars caps)(d:PI X target iter (iV X.K it E))
  (e:∀(cl:List (PY×OZ)) (C:OZ) (a:List OZ) (s:O7) (H:Hp),PG (aC X Nc scope cl C a s H) target g/\dG (aC X Nc scope cl C a s H) ifs (tVT X.K tt E0)/\∀D,PB (aC X Nc scope cl C a s H) (.D ke ve) (⟨target,iter,ifs,0⟩::rest) scope pos 0 D (tb D))
  (f:cz X.K g tg) (i:dE tg) (j:∀D,eA X.K (RD X.K kb) D (tb D) b) (hs:∀x,Qf iter X.env x=Ro x:=by intro _;rfl):
  PE X (.DictComp ke ve (⟨target,iter,ifs,0⟩::rest) scope pos) (tV X.K (gG vars.length caps it tg tt b (kC kb)) E):=
 (DE (b:=kb) c S d e hs).imp λk H Q h=>u5 f i j h
end
noncomputable def gO:List D->Option (List Int)
 |[]=>on []
 | .int i::r=>(gO r).map (i::·)
 |_=>OR
def kn:Bool->D->Option KyD
 |false,.tup ds=>(gO ds).map λl=>(0,l)
 |true,.tup [.int i,.tup ds]=>(gO ds).map λl=>(i,l)
 |_,_=>OR
theorem qj:∀(l:List Int),gO (l.map .int)=on l
 |[]=>rfl
 |i::l=>by show(gO (l.map .int)).map _=_;rw[qj l];rfl
theorem tupI_inv:∀{ds:List D} {l:List Int},gO ds=on l->ds=l.map .int
 |[],l,h=>by cases h;rfl
 | .int i::r,l,h=>by
  have h':(gO r).map (i::·)=on l:=h;cases q:gO r with
  |none=>rw[q]at h';cases h'
  |some m=>rw[q]at h';cases h';rw[tupI_inv q];rfl
 | .non::_,_,h=>by cases h
 | .bl _::_,_,h=>by cases h
 | .str _::_,_,h=>by cases h
 | .ty _::_,_,h=>by cases h
 | .txt::_,_,h=>by cases h
 | .lst _::_,_,h=>by cases h
 | .tup _::_,_,h=>by cases h
 | .scr _::_,_,h=>by cases h
 | .obj _ _ _::_,_,h=>by cases h
 | .bag::_,_,h=>by cases h
 | .adr _::_,_,h=>by cases h
 | .dct _ _ _::_,_,h=>by cases h
theorem ww{b:Bool}(h:KyZ b k):kn b (dK b k)=on k:=by
 cases b with
 |true=>show(gO _).map _=_;rw[qj];rfl
 |false=>show(gO _).map _=_;rw[qj];exact Qr on (S7 (h rfl).symm rfl)
theorem uL{b:Bool}(h:kn b d=on k):KyZ b k/\d=dK b k:=by
 unfold kn at h;split at h
 ·rename_i ds
  cases q:gO ds with
  |none=>rw[q]at h;cases h
  |some l=>rw[q]at h;cases h;exact⟨λ_=>rfl,by rw[tupI_inv q];rfl⟩
 ·rename_i i ds
  cases q:gO ds with
  |none=>rw[q]at h;cases h
  |some l=>rw[q]at h;cases h;exact⟨λz=>(by cases z),by rw[tupI_inv q];rfl⟩
 ·cases h
noncomputable def lkD(ks:List KyD)(vs:List D)(k:KyD):Option D:=((ks.zip vs).find? λp=>decide (p.1=k)).map (·.2)
section
variable{K:Po}{F:Fx}{H:Hp}{E:St->XK}
def RelD(K:Po)(F:Fx)(H:Hp):Option D->Option V->Prop
 |none,v=>v=OR
 |some d,v=>∃u,v=on u/\Den K F H d u
theorem uF:∀{xs:List (KyD×OZ×V)} {vs:List D},DenL K F H vs (xs.map (·.2.2))->RelD K F H (lkD (xs.map (·.1)) vs k) (lkV xs k)
 |[],vs,_=>by unfold lkD lkV;rfl
 |x::xs,vs,h=>by
  cases vs with
  |nil=>cases h
  |cons d vs=>
   obtain⟨u,r,e,a,b⟩:=h;rw[Ph,SH]at e;obtain⟨rfl,rfl⟩:=e;have ih:=uF (k:=k) b;unfold lkD lkV at ih⊢;rw[Ph,Sb,TZ,TZ];by_cases q:x.1=k
   ·rw[PH q];exact⟨_,rfl,a⟩
   ·rw[Qw q];exact ih
def EX:D->D->Option D
 | .dct b ks vs,y=>(kn b y).bind (lkD ks vs)
 |_,_=>OR
theorem Ox:aV K (LF K) EX:=λF H β Q d1 d2 d v w fr g h e k=>by
 unfold EX at e;split at e
 ·rename_i b ks vs
  cases q:kn b d2 with
  |none=>rw[q]at e;cases e
  |some f=>
   rw[q]at e;have i:lkD ks vs f=on d:=e;obtain⟨j,rfl⟩:=uL q;obtain⟨c,rfl,l⟩:=xS j h;unfold Den at g;obtain⟨a,ep,xs,rfl,m,rfl,n,o⟩:=g;have:=uF (k:=f) o;rw[i]at this;obtain⟨u,p,r⟩:=this;exact⟨a,b,ep,xs,f,c,u,rfl,rfl,m.2,λx t=>(n x t).s,l.s,p,k u H (To.refl fr) r⟩
 ·cases e
def Ob(K:Po):V->List V->Hp->VK->Prop:=λx ys H Q=>∃a b ep xs k c z,x= .ref a/\ys=[.ref c,z]/\H a=on (dP a b ep xs)/\(∀x∈xs,KyS K H b x.1 x.2.1)/\KyS K H b k c/\Q ((lkV xs k).getD z) H
end
section
variable{X:Cx}{E:St->XK}{o e:Expr}{es:List Expr}{apos cpos:Tz}
theorem Kq(m:X.A.units+2<UL):MtR X "dict.get" (Ob X.K):=by
 intro j s L H x xs v us Q I n r h;obtain⟨a,b,ep,ys,k,c,z,rfl,rfl,t,u,B,q⟩:=h;cases n;obtain⟨N,C,rfl,r1,J⟩:=sF r;cases r1;obtain⟨i,d,p,_,hs⟩:=pU I t u;have f:=qe (k:=k) p;refine call_meetsIn WX d.typeIs PySem.F.entry_dict_get (PySem.F.args_dict_get_3 _ _ _) (meetsH_dict_get_default (KB X.prog X.w b) a c hs C) ⟨qA m,k,i,sR I B,d,_,H,I.tok _,?_,q⟩;cases l:lkV ys k with
 |none=>
  rw[l]at f;cases g:(Xq i k).map (·.2)with
  |none=>exact J
  |some w=>rw[g]at f;exact f.elim
 |some y=>
  rw[l]at f;cases g:(Xq i k).map (·.2)with
  |none=>rw[g]at f;exact f.elim
  |some w=>rw[g]at f;exact f
def ES(f:FD)(g:FL):FD:=λδ=>M.bind (f δ) λd=>match d with
 | .dct b ks vs=>M.bind (g δ) λas=>M.ofO (match as with
  |[k,z]=>(kn b k).map λk=>(lkD ks vs k).getD z
  |_=>OR)
 |_=>M.fail
theorem NX(hu:X.A.units+2<UL)(ho:PE X o (tV X.K f E))(ha:PA X (e::es) (tVA X.K g E))
  (n:Tl o "get" X.env (Qo o X.env)=Qo o X.env:=by rfl)
  (y:((Q5 cpos (Pb (e::es) X.env)).all (λx=>!x.1)&&(R1 cpos (Q6 [] X.env)).all (λx=>x.1.isSome)
   &&decide ((e::es).length+([]:List Uz).length+(if([]:List Uz).isEmpty then 0 else 1)<30))=OV:=by rfl)
  (p:(apos.endLine==cpos.line)=OV:=by rfl) (hs:Pb (e::es) X.env=(OW,Qo e X.env)::Pb es X.env:=by rfl) (m:(Q5 cpos (Pb es X.env)).any (·.1)=OW:=by rfl):
  PE X (.Call (.Attribute o "get" apos) (e::es) [] cpos) (tV X.K (ES f g) E):=by
 intro j s C H Q I h;obtain⟨F,δ,β,fr,vk,h⟩:=h;refine YY n y p rfl (thn (ho j s C H _ I ⟨F,δ,β,fr,vk,(run.bind (R:=Den X.K F) h)⟩) λv s1 h1=>?_);obtain⟨x,H1,I1,r1,d,β1,t,hd,q1⟩:=h1;have fail:∀{L:M D},L=M.fail->run (Den X.K F) F E C L H1 Q β1->False:=λ{L} e r=>by
  obtain⟨r,β',e',_⟩:=r;rw[e]at e';cases e'
 cases d<;>first|exact(fail rfl q1).elim|skip
 rename_i b ks vs;have B:=hd;unfold Den at B;obtain⟨a,ep,xs,rfl,N,rfl,hk,dl⟩:=B;cases r1;obtain⟨ys,dd,_,_,_⟩:=pU I1 N.2 λx O=>(hk x O).s;refine⟨"dict","dict.get",WE,WX,PySem.F.type_dict_get,dd.typeIs,λb e=>?_,?_⟩
 ·cases e
  obtain⟨ob,_,_,g1,g2,_⟩:=dd;exact⟨ob,g1,g2.2.1⟩
 have hA:=ha cpos j s1 C H1 _ I1 ⟨F,δ,β1,t.fr,vk.tr (t.tr fr),run.bind (R:=DenL X.K F) q1⟩;rw[hs]at hA⊢;refine UW (by show(OW||(Q5 cpos (Pb es X.env)).any (·.1))=OW;rw[m]<;>rfl) (Xh (thn hA λus s2 h2=>?_))
 obtain⟨ws,J,I2,r2,as,β2,t2,P,q2⟩:=h2;obtain⟨z,w,kf⟩:=run.ofO q2;have tt:=t2.tr t.fr;split at w
 ·rename_i k zz
  cases T:kn b k with
  |none=>rw[T]at w;cases w
  |some i=>
   rw[T]at w;cases w;obtain⟨hz,rfl⟩:=uL T;obtain⟨w1,U,rfl,W,Y⟩:=DenL.two P;obtain⟨c,rfl,kc⟩:=xS hz W;have Z:=DenL.tr tt _ _ dl;have hk2:∀x∈xs,KyS X.K J b x.1 x.2.1:=λx O=>((hk x O).tr tt).s;refine Kq hu j s2 C J (.ref a) [.ref c,U] (.ref a) us Q I2 rfl r2 ⟨a,b,ep,xs,i,c,U,rfl,rfl,tt.kp a _ N.1 N.2,hk2,kc.s,?_⟩;refine kf _ J (To.refl t2.fr) ?_;show Den X.K F J ((lkD (xs.map (·.1)) vs i).getD zz) ((lkV xs i).getD U);have l:=uF (k:=i) Z;cases q:lkD (xs.map (·.1)) vs i with
   |none=>
    rw[q]at l;have l':lkV xs i=OR:=l;rw[l'];exact Y
   |some d=>
    rw[q]at l;obtain⟨u,l',hu'⟩:=l;rw[l'];exact hu'
 ·cases w
end
end L2.Pu
namespace L2.Hs
open PySem PySem.Spec PyProof.Rows
section
variable{prog:Pt}{w:PV}{A:Qn}{E:OX->O7->Prop}{s:O7}{d it v:OZ}{od:PP}{es:Array Ta}{ep i:Nat}{ok ov:OX}
theorem yn(a:s.TypeIs (.ref d) "dict")(hd:(d==V9)=OW)(h:Q (.ref s.heap.objs.size) {s with heap:=s.heap.push {cls:= .type "dict_items",data:= .fields #[.ref d]}}):Pf (Py prog w) A (UM (.builtin "dict.items") [.ref d]) Q E s:=by
 refine Ql F.slot_dict_items a F.entry_dict_items ?_ (F.args_dict_items_1 _);unfold Builtin.«dict.items»;refine My ?_;unfold Builtin.Dict.noArgs;refine My (wpAny_notOrdered_dict a ?_);show Pf _ _ (Ro d) _ _ s;refine OT ?_;show Pf _ _ (V3 d>>=_) _ _ s;unfold V3;rw[O3 (by rw[hd];exact Pa)];exact My (OT (My (QE (OT ⟨_,rfl,h⟩))))
theorem xV(a:s.heap.IsItemsView v d)(e:s.heap.get? d=on od)(hd:od.data= .dict es ep)
  (h:Q (.ref s.heap.objs.size) {s with heap:=s.heap.push {cls:= .type "dict_itemiterator",data:= .fields #[.none,.bool OW,.ref d,.int 0 0,.int es.size 0,.int ep 0,.none,.none]}}):Pf (Py prog w) A (VJ (.ref v)) Q E s:=by
 obtain⟨o,b,f,c⟩:=id a;refine U8 a.typeIs XW (Ql XW a.typeIs F.entry_dict_items_iter ?_ (F.args_dict_items_iter_1 _));unfold Builtin.«dict_items.__iter__»;refine My (OT (My ?_));unfold Builtin.Dict_items.dictOf;refine My (QJ b c (x:= .ref d) rfl (OT (My ?_)));unfold Builtin.Dict_items.newIterator;refine My (Wz e hd (My (W6 e hd ?_)));simp only[show S5 "dict_itemiterator"=OV from by decide,Qb];refine QE (OT ⟨_,rfl,"dict_itemiterator",_,⟨_,Pl _ rfl,rfl⟩,Q4.lookup,?_⟩)
  (by simp only[sizeOk,Uk,Ps,Pn,Pg,RC,Rv];omega)
 simpa[TU,Uk]using h
theorem xT(a:UJ s.heap it d i es.size ep ok ov)(h:Q (.ref it) s):Pf (Py prog w) A (VJ (.ref it)) Q E s:=by
 have c:s.TypeIs (.ref it) "dict_itemiterator":=⟨_,a,rfl⟩;refine U8 c WB (Ql WB c (b:=Builtin.«dict_keyiterator.__iter__») (Xw (id':="dict_keyiterator.__iter__") (by kernel_rfl) rfl (by decide +kernel) (by kernel_rfl)) ?_ (F.args_dict_itemiterator_iter_1 _));show Pf _ _ (ret (.ref it)) _ _ s;exact OT ⟨_,rfl,"dict_itemiterator",_,c,Q4.lookup,h⟩
theorem xU{e:Ta}(m:UJ s.heap it d i es.size ep ok ov)(ho:s.heap.get? d=on od)(hd:od.data= .dict es ep)(X:es[i]?=on e)
  (hQ:∀h',IsItemIterOut h' it d (i+1) es.size ep e.key e.val s.heap.objs.size->h'.get? s.heap.objs.size=on {cls:= .type "tuple",data:= .seq #[e.key,e.val]}->h'.objs.size=s.heap.objs.size+1->
   (∀b o,b≠it->s.heap.get? b=on o->h'.get? b=on o)->Q (on (.ref s.heap.objs.size)) {s with heap:=h'}):Pf (Py prog w) A (TR (.ref it)) Q E s:=by
 obtain⟨n,g,R,T,os⟩:=s;have u:Shared.TypeIs ⟨n,g,R,T,os⟩ (.ref it) "dict_itemiterator":=⟨_,m,rfl⟩;have U:i<es.size:=by
  rcases VW i es.size with h|h
  ·exact h
  ·simp[R8 h]at X
 obtain rfl:es[i]=e:=by rw[Uj U]at X;exact PR X
 unfold TR;refine My (Uc (wpAny_callSpecial?_slot (name:=P5 "__next__") u Q4
  (Ql Q4 u Wm ?_ (Wd _))))
 refine My (OT (My (My ?_)))
 first|refine My (Sh u (OT ?_))|refine My (Th u (OT ?_))
 refine My (VL m rfl ?_);simp only[show S5 "dict_itemiterator"=OV from by decide,Qb];show Pf _ _ (if(Pj d==Qs)=OV then _ else _) _ _ _;rw[O3 (show ¬((Pj d==Qs)=OV)from Pa)];refine My (OT (My (Wz ho hd ?_)));rw[O3 (by simp)];refine My (OT (My (W6 ho hd ?_)));rw[O3 (by simp)];refine OT ?_;simp only[show ¬((i:Int)<0)from by omega,Qe,QL,Uj U];refine My ?_
 first|refine My (Sh u (OT ?_))|refine My (Th u (OT ?_))
 refine My (Vx u ?_);show Pf _ _ (XA (.ref it) 3 (TU ((i:Int)+1))>>=_) _ _ ⟨n,g,R,T,os⟩;refine My (QS m (by simp) λa c f=>?_)
 replace f:PX it n a:=f
 replace c:UJ a it d (i+1) es.size ep ok ov:=by
  have e:((i+1:Nat):Int)=(i:Int)+1:=by omega
  unfold UJ;rw[e];simpa[TU]using c
 have l:Shared.TypeIs ⟨a,g,R,T,os⟩ (.ref it) "dict_itemiterator":=⟨_,c,rfl⟩;refine My (QO (My (Vx l (My (Vx l ?_)))));show Pf _ _ (UE (.ref it) 6 es[i].key es[i].val) _ _ ⟨a,g,R,T,os⟩;unfold UE;refine My (VN ?_);have j:UJ (a.push {cls:= .type "tuple",data:= .seq #[es[i].key,es[i].val]}) it d (i+1) es.size ep ok ov:=OU _ c;have k:a.objs.size=n.objs.size:=f.1;have Y:it≠n.objs.size:=Qa (Pz m);have y:(a.push {cls:= .type "tuple",data:= .seq #[es[i].key,es[i].val]}).get? n.objs.size=on {cls:= .type "tuple",data:= .seq #[es[i].key,es[i].val]}:=by rw[←k];exact Pl _ rfl
 have B:(a.push {cls:= .type "tuple",data:= .seq #[es[i].key,es[i].val]}).objs.size=n.objs.size+1:=by rw[QD,k]
 have C:∀b o,b≠it->n.get? b=on o->(a.push {cls:= .type "tuple",data:= .seq #[es[i].key,es[i].val]}).get? b=on o:=λb o W e=>OU _ (f.extBut b o W e);generalize a.push {cls:= .type "tuple",data:= .seq #[es[i].key,es[i].val]}=h₂ at*;show Pf _ _ (Ul (.ref it)>>=_) _ _ ⟨h₂,g,R,T,os⟩;rw[k];refine My ?_;unfold Ul;refine My (QJ j rfl (x:= .none) rfl (OT ?_));simp only[Qb];refine My (QJ j rfl (x:=ok) rfl (My (QJ j rfl (x:=ov) rfl ?_)));refine My (QS j (by simp) λp F H=>?_);refine My (QS F (by simp) λq I J=>?_);refine My (QS I (by simp) λr L N=>?_);refine My (QS L (by simp) λt O P=>?_);have Z:=((show PX it h₂ p from H).trans (show PX it p q from J)).trans ((show PX it q r from N).trans (show PX it r t from P));exact My (VM (OT (OT ⟨_,rfl,OT (hQ t O (Z.extBut _ _ Y.symm y) (by rw[Z.1,B]) λb o W e=>Z.extBut b o W (C b o W e))⟩)))
theorem AB(g:A.handled=OR)(c:UJ s.heap it d i es.size ep ok ov)(f:s.heap.get? d=on od)(hd:od.data= .dict es ep)(h:es.size<=i)
  (j:∀h',V4 it s.heap h'->Q OR {s with heap:=h'}):Pf (Py prog w) A (TR (.ref it)) Q E s:=by
 have e:s.TypeIs (.ref it) "dict_itemiterator":=⟨_,c,rfl⟩;unfold TR;refine My (Uc (wpAny_callSpecial?_slot (name:=P5 "__next__") e Q4
  (Ql Q4 e Wm ?_ (Wd _))))
 refine My (OT (My (My ?_)))
 first|refine My (Sh e (OT ?_))|refine My (Th e (OT ?_))
 refine My (VL c rfl ?_);simp only[show S5 "dict_itemiterator"=OV from by decide,Qb];show Pf _ _ (if(Pj d==Qs)=OV then _ else _) _ _ s;rw[O3 (show ¬((Pj d==Qs)=OV)from Pa)];refine My (OT (My (Wz f hd ?_)));rw[O3 (by simp)];refine My (OT (My (W6 f hd ?_)));rw[O3 (by simp)];refine OT ?_;simp only[show ¬((i:Int)<0)from by omega,Qe,QL,R8 h];refine My ?_
 first|refine My (Sh e (OT ?_))|refine My (Th e (OT ?_))
 show Pf _ _ (XA (.ref it) 2 .none>>=_) _ _ s;refine My (S4 c rfl (by simp) ?_);show Pf _ _ (YV (.type "StopIteration") []>>=_) _ _ _;refine My ?_;simp only[YV,newTuple];refine My (QE ?_ (by size_fits));refine My (m:=TN _ _) (SZ (a:=Qs) (by first|rfl|(simp only[TN];rfl)) ?_)
 refine QE ?_ (by size_fits);simp only[raiseNew];refine My (Ym ?_);rw[show A.in1.handled=OR from g];refine My (OT (wpAny_throw ?_));refine My (RQ (T:="StopIteration") (b:=OV) ⟨_,Pl _ rfl,rfl⟩ Xy ?_);exact OT (j _ (((QM ..).extBut.push _).push _))
end
end L2.Hs
namespace L2.Pu
open PySem PySem.Spec PyProof.Rows L2.Hs
noncomputable def Iti(a:OZ)(ep n:Nat):It:=
 ⟨λi H=>∃b xs,H a=on (dP a b ep xs)/\xs.length=n/\i<n,
  λi H v c=>∃p x,H p=OR/\v= .ref p/\c=upd H p (.tup [.ref x.1,x.2])/\∀b xs,H a=on (dP a b ep xs)->(xs[i]?).map (·.2)=on x,
  λi H=>∃b xs,H a=on (dP a b ep xs)/\xs.length=n/\i=n⟩
theorem HK:∀{xs:List (KyD×OZ×V)} {ys:List (KyD×OZ×OX)} {i:Nat} {y:KyD×OZ×OX},V6 XY xs ys->ys[i]?=on y->∃x,xs[i]?=on x/\XY x y
 |_,_,0,_,.cons h t,e=>by cases e;exact⟨_,rfl,h⟩
 |_,_,i+1,_,.cons h t,e=>HK (i:=i) t e
 |_,_,0,_,.nil,e=>by cases e
 |_,_,_+1,_,.nil,e=>by cases e
section
variable{X:Cx}{pins:List (OZ×PP)}{σ:St}{H:Hp}{s:O7}{a:OZ}{b:Bool}{ep i:Nat}{xs:List (KyD×OZ×V)}
theorem pV(I:Inv X pins σ H s)(h:H a=on (dP a b ep xs)):∃(o:PP) (es:Array Ta),s.heap.get? a=on o/\o.data= .dict es ep/\es.size=xs.length/\o.ExactDict/\(a==V9)=OW/\∀(i:Nat) (e:Ta),es[i]?=on e->∃x,xs[i]?=on x/\e.key= .ref x.2.1/\aG x.2.2 e.val:=by
 obtain⟨o,es,ys,j,k,l,d,u,m,v,g⟩:yv a b ep xs s.heap:=(I.hok a _ h).1;have n:ys.length=xs.length:=by rw[←OS (f:=(·.1)),←qd g,OS]
 refine⟨o,es,j,l,by rw[←PZ,d,OS,n],k,m,λi e c=>?_⟩;rw[←Sk,d,O4]at c;cases q:ys[i]? with
 |none=>rw[q]at c;cases c
 |some y=>
  rw[q]at c;cases c;obtain⟨x,p,_,r,t⟩:=HK g q;exact⟨x,p,by rw[r],t⟩
theorem xf{K:Po}{x1}(a it:OZ)(n ep:Nat):
  Turn P w K (.Tuple elts x1 pos) (Iti a ep n) [it] it (λi h=>∃ok d,UJ h it a i n ep ok d) where
 mem:=by simp
 obj:=λi h st b c=>by
  obtain⟨ok,d,e⟩:=st;cases Qd.mp c;exact⟨_,e,λv q=>by cases q⟩
 keep:=λi h h' st k=>by
  obtain⟨ok,d,e⟩:=st;exact⟨ok,d,k it (by simp) _ e⟩
 item:=by
  intro X m p r J i pins s σ H E I f st t;subst m p r;obtain⟨ok,d,e⟩:=st;obtain⟨b,xs,A,W,L⟩:=t;obtain⟨o,es,g,j,Y,h4,h5,Z⟩:=pV I A;have hn:n=es.size:=by omega
  subst hn;have B:es[i]?=on es[i]:=Uj L;refine xU e g j B λh' io gt sz kp=>⟨_,rfl,wpAny_letOwnedTupleGo_items (s:={s with heap:=h'}) io λC ei N=>?_⟩;obtain⟨x,ex,O,Q⟩:=Z i _ B;have R:s.heap.objs.size≠it:=RK (Pz e);have I2:Inv X pins σ (upd H s.heap.objs.size (.tup [.ref x.2.1,x.2.2])) {s with heap:=C,toks:=s.toks}:=
   Inv.turnNew I f (λb u c q=>N.extBut b u (λz=>c (by rw[z];simp)) (kp b u (λz=>c (by rw[z];simp)) q)) (O9 _) ⟨by show 2<=Pe;decide,[es[i].key,es[i].val],.cons O (.cons Q .nil),_,N.extBut _ _ R gt,rfl,_,rfl⟩
  refine⟨.ref s.heap.objs.size,_,I2,rfl,⟨s.heap.objs.size,x.2,I.hok.fresh (O9 _),rfl,rfl,λb' xs' F=>?_⟩,⟨_,_,ei⟩,λb c=>?_⟩
  ·obtain⟨o',es',T,U,_,_,_,g6⟩:=pV I F
   rw[g]at T;cases T;rw[j]at U;cases U;obtain⟨y,ey,l,fv⟩:=g6 i _ B;rw[ey];rw[O]at l
   injection l with l
   exact Qr on (S7 l.symm (aG.inj fv Q))
  ·cases Qd.mp c
   rw[upd_ne R.symm];exact(f _ c).1
 done:=by
  intro X m p r J i pins s σ H E I f st t;subst m p r;obtain⟨ok,d,e⟩:=st;obtain⟨b,xs,A,W,L⟩:=t;obtain⟨o,es,g,j,Y,_⟩:=pV I A;have hn:n=es.size:=by omega
  subst hn;refine AB (I.ok.hd J) e g j (by omega) λh' kp=>⟨rfl,Inv.turnL (t':=s.toks) I f λb o c q=>kp b o (λz=>c (by rw[z];simp)) q⟩
 self:=λ_ _ _ _ _ st h=>by
  obtain⟨ok,d,e⟩:=st;exact xT (es:=(Pi n (⟨0,.none,.none⟩:Ta)).toArray) (by rw[Ps,QV];exact e) h
end
section
variable{X:Cx}{E:St->XK}{K:Po}{o:Expr}{apos cpos tpos:Tz}{elts:List Expr}{x1:Nat}
def iItm(to:TE):TI:=λd H R=>to d H λx c=>∃a b ep xs,x= .ref a/\c a=on (dP a b ep xs)/\R (Iti a ep xs.length) c
theorem CY(r:PE X o to)(d:Tl o "items" X.env (Qo o X.env)=Qo o X.env:=by rfl)(f:(apos.endLine==cpos.line)=OV:=by rfl):PI X (.Tuple elts x1 tpos) (.Call (.Attribute o "items" apos) [] [] cpos) (iItm to):=by
 intro c s m H R I h;refine wpAny_Call_method0_late d f (thn (r c s m H _ I h) λv g i=>?_);obtain⟨x,n,p,r1,a,b,ep,xs,rfl,t,q⟩:=i;cases r1;obtain⟨j,es,i,u,w,k,y,_⟩:=pV p t;refine⟨"dict","dict.items",WE,PySem.F.slot_dict_items,PySem.F.type_dict_items,⟨j,i,k.1⟩,λb e=>?_,?_⟩
 ·cases e;exact⟨j,i,k.2.1⟩
 refine UW rfl (PySem.evalArgs_none (yn ⟨j,i,k.1⟩ y ?_));have l:Inv X c m n {g with heap:=g.heap.push {cls:= .type "dict_items",data:= .fields #[.ref a]},toks:=g.toks}:=p.kept λb o e=>OU _ e;refine xV (s:={g with heap:=g.heap.push {cls:= .type "dict_items",data:= .fields #[.ref a]}}) ⟨_,Pl _ rfl,rfl,rfl⟩ (OU _ i) u ?_;rw[w];exact⟨_,[_],_,_,n,rfl,l.kept (t':=g.toks) λb o e=>OU _ e,xf a _ _ ep,⟨_,_,Pl _ rfl⟩,λb A=>by
  cases Qd.mp A;exact l.fpOk (O9 _) (l.hok.fresh (O9 _)),q⟩
def itmD:D->Option (List D)
 | .dct b ks vs=>on (U4 (λk v=> .tup [dK b k,v]) ks vs)
 |_=>OR
theorem AC{F:Fx}{b:Bool}{xs:List (KyD×OZ×V)}(B:¬F.A a)(C:H a=on (dP a b ep xs))(g:ks=xs.map (·.1))(I:∀x∈xs,hG K F H b x.1 x.2.1)(h:DenL K F H vs (xs.map (·.2.2))):ItD K (Iti a ep xs.length) F H (U4 (λk v=> .tup [dK b k,v]) ks vs):=λQ j β2 t fr i=>by
 have J:vs.length=xs.length:=by rw[h.length,OS]
 have L:ks.length=xs.length:=by rw[g,OS]
 have c:=t.kp a _ B C;refine⟨λd hd=>?_,λe=>⟨b,xs,c,rfl,by rw[e,X3,L,J,Nat.min_self]⟩⟩;have e:i<xs.length:=by
  have:=(Pc.mp hd).1;rw[X3]at this;omega
 refine⟨⟨b,xs,c,rfl,e⟩,λy R N=>?_⟩;obtain⟨p,x,l,rfl,rfl,O⟩:=N;have m:=O b xs c;rw[O0 e]at m;have f:xs[i].2=x:=PR m;subst f;have n:bE j (upd j p (.tup [.ref xs[i].2.1,xs[i].2.2])):=bE.upd l;obtain⟨v,q⟩:∃v,vs[i]?=on v:=⟨_,O0 (by omega)⟩;have P:ks[i]?=on xs[i].1:=by rw[g,O4,O0 e];rfl
 rw[List.getElem?_zipWith,P,q]at hd;cases hd;have d2:=DenL.tr t _ _ h;obtain⟨u,r,du⟩:=d2.get q;rw[O4,O0 e]at r;cases r;have w:=(fr.same n).tr fr;exact⟨n,oG (.inl ⟨fr.fresh l,.inl ah⟩) (DenL.cons (Den.tr w _ _ (Oi ((I _ (Qh e)).tr t))) (DenL.cons (Den.tr w _ _ du) DenL.nil))⟩
def nItm(f:FD):FL:=λδ=>M.bind (f δ) λd=>M.ofO (itmD d)
theorem wE(j:PE X o (tV X.K f E))(b:Tl o "items" X.env (Qo o X.env)=Qo o X.env:=by rfl)(c:(apos.endLine==cpos.line)=OV:=by rfl):PI X (.Tuple elts x1 tpos) (.Call (.Attribute o "items" apos) [] [] cpos) (iV X.K (nItm f) E):=
 (CY j b c).imp λr H R g=>ex6 g λF δ β fr l h=>⟨F,δ,β,fr,l,(run.bind (R:=Den X.K F) h).mono λv m g=>by
  obtain⟨d,β1,t,hd,r1⟩:=g;obtain⟨ds,e,k⟩:=run.ofO r1;cases d<;>first|(cases e;done)|skip
  cases e;unfold Den at hd;obtain⟨a,ep,xs,rfl,i,n,p,q⟩:=hd;exact⟨a,_,ep,xs,rfl,i.2,k _ m (To.refl t.fr) (AC i.1 i.2 n p q)⟩⟩
end
end L2.Pu
namespace L2.Hs
open PySem PySem.Spec PyProof.Rows
theorem wo:mroOf (.type "reversed")=Ro [.type "reversed",.type "object"]:=by rw[mroOf_type];kernel_rfl
theorem DS:typeLookup (.type "reversed") "__new__"=Ro (on (.builtin "reversed.__new__")):=by rw[W5,VB];kernel_rfl
theorem DO:Bind.madeBy (.type "reversed")=Ro (on "reversed.__new__"):=madeBy_type wo DS (by decide +kernel)
theorem JP:isSubtype (.type "reversed") (.type "reversed")=Ro OV:=by rw[UP];kernel_rfl
theorem CI:isSubtype (.type "range_iterator") (.type "reversed")=Ro OW:=by rw[UP];kernel_rfl
theorem KR:entryFor table "reversed.__new__"=on Builtin.«reversed.__new__»:=entryFor_of_tree (by kernel_rfl)
section
variable{prog:Pt}{w:PV}{A:Qn}{E:OX->O7->Prop}{s:O7}
theorem EZ(a:IsRange s.heap r 0 n 1 t u v)(j:0<=n)(g:n<2^62)
  (h:Q (.ref s.heap.objs.size) {s with heap:=s.heap.push {cls:= .type "range_iterator",data:= .fields #[TU (n-1),TU n,TU (-1)]}}):Pf (Py prog w) A (UM (.type "reversed") [.ref r]) Q E s:=by
 refine T9 (W4 ?_);show Pf _ _ (callAny (.type "reversed") _) _ _ _;refine OT ⟨VE _ (by decide +kernel),W3 F.entry_type_call ?_⟩;rw[Around.under_plain (weight_type_call_type "reversed" [.ref r] []) (units_type_call_type "reversed" [.ref r] [])];have g:(RY "reversed"==RY "type")=OW:=by decide +kernel
 have k:((Yr "reversed").bind (·.mro.findSome? λt=>(Yr t).bind λb=>if b.noNew then on OV else if b.attrs.any (·.1=="__new__")then on OW else OR)).getD OW=OW:=by decide +kernel
 have e:=wo;have c:=DO;have i:checkTypeCall "reversed" ⟨[.ref r],[]⟩=Ro ():=by kernel_rfl
 repeat (any_goals (first|assumption|wp_step))
 refine Ue (by decide +kernel) KR (SZ (show WO "reversed.__new__" ⟨[.type "reversed",.ref r],[]⟩=Ro () by kernel_rfl) ?_);have f:s.TypeIs (.ref r) "range":=⟨_,a,rfl⟩;unfold Builtin.«reversed.__new__»
 repeat (any_goals (first|assumption|wp_step))
 refine SZ JP (OT ?_);refine My (m:=Uy _ _ _) ?_;refine SZ (show Uy "reversed" (RY "reversed") ⟨[.type "reversed",.ref r],[]⟩=Ro ()from rfl) ?_;refine My (m:=checkCount "reversed" 1 1 _) (OT ?_);show Pf _ _ (specialOf (.ref r) (P5 "__reversed__")>>=_) _ _ s;refine My (SA f F.slot_range_reversed.lookup ?_);show Pf _ _ (bindSpecial (.builtin "range.__reversed__") (.ref r)>>=_) _ _ s;refine My (SZ (F.slot_range_reversed.bind _) ?_);show Pf _ _ (rule "reversed.__new__.own-method">>=_) _ _ s;refine My (S3 (My (wpAny_runValue (Ue F.slot_range_reversed.plain F.entry_range_reversed (F.slot_range_reversed.check _ _ _ _ _ _ _ _ f (F.args_range_reversed_1 _) ?_)))));unfold Builtin.«range.__reversed__»;refine My (m:=selfOnly "range.__reversed__" _) (OT (My ?_));unfold Builtin.Range.rangeFields;refine My (QJ a rfl (x:= .int 0 t) rfl (My (m:=asInt? _) (OT ?_)));refine My (QJ a rfl (x:= .int n u) rfl (My (m:=asInt? _) (OT ?_)));refine My (QJ a rfl (x:= .int 1 v) rfl (My (m:=asInt? _) (OT (OT ?_))));have hn:VR 0 n 1=n:=by rw[rangeSize_one];split<;>omega
 simp only[hn];have d:(QA 0&&QA n&&QA 1&&QA (-1)&&QA (0-1)&&QA n)=OV:=by
  have:QA n=OV:=by unfold QA;simp;omega
  rw[this];decide
 simp only[d,Qb,QK,Pk,Qe];rw[show(0:Int)+(n-1)*1=n-1 by omega];refine My (QE (OT (OT ?_)));exact My (RQ (T:="range_iterator") (b:=OW) ⟨_,Pl _ rfl,rfl⟩ CI (My (S3 (OT h))))
end
end L2.Hs
namespace L2.Pu
open PySem PySem.Spec PyProof.Rows L2.Hs
noncomputable def Itd(n:Nat):It:=⟨λi _=>i<n,λi H v a=>v= .int ((n:Int)-1-i)/\a=H,λi _=>n<=i⟩
theorem vn{K:Po}(it:OZ)(n:Nat):Turn P w K tg (Itd n) [it] it (λi h=>WT h it ((n:Int)-1+(i:Nat)*-1) ((n:Int)-(i:Nat)) (-1)) where
 mem:=by simp
 obj:=λi h st b c=>by
  cases Qd.mp c;exact⟨_,st,λv z=>by
   have C:Data.fields _=Data.cell v:=z;cases C⟩
 keep:=λi h h' st k=>k it (by simp) _ st
 item:=by
  intro X g j l m i a s A H E I f st p;subst g j l;obtain⟨q,f1,f2,r,u,y⟩:=f it (by simp);refine(Walks.range (prog:=X.prog) (w:=X.w) (I.ok.hd m) it ((n:Int)-1) (-1) n).item i s _ _ p st λv h' B F d J=>?_;obtain⟨t,rfl⟩:=F;have L:Inv X a A H {s with heap:=h',toks:=B}:=I.turned (λb o c e=>J b o (by simpa using c) e) q f1 r u y;exact⟨_,rfl,sV (s:={s with heap:=h',toks:=B}) (n:="range_iterator") d rfl rfl (by decide) ⟨.int ((n:Int)-1-i),H,L,⟨t,by rw[show(n:Int)-1+(i:Int)*-1=(n:Int)-1-i by omega]⟩,⟨rfl,rfl⟩,d,λb c=>(f b c).1⟩⟩
 done:=by
  intro X g j l m i a s A H E I f st p;subst g j l;obtain⟨q,f1,f2,r,u,y⟩:=f it (by simp);exact YZ (I.ok.hd m) st (by have:n<=i:=p;omega) λh' N=>⟨rfl,I.turned (t':=s.toks) (λb o c e=>N b o c e) q f1 r u y⟩
 self:=λ_ _ _ _ _ st h=>Vy st h
section
variable{X:Cx}{E:St->XK}{K:Po}{tg:Expr}
def OG(a:TA):TI:=λb H R=>a b H λvs c=>∃j:Int,vs=[.int j]/\0<=j/\j<2^62/\R (Itd j.toNat) c
theorem zt(f:Gl X "reversed")(g:X.mg "reversed"=OR)(n:Gl X "range")(hm:X.mg "range"=OR)(ha:PA X [a] ta)(hs:Pb [a] X.env=[(OW,Qo a X.env)]:=by rfl)
  (i:Pb [.Call (.Name "range" p) [a] [] pos] X.env=[(OW,Qo (.Call (.Name "range" p) [a] [] pos) X.env)]:=by rfl):PI X tg (.Call (.Name "reversed" p2) [.Call (.Name "range" p) [a] [] pos] [] pos2) (OG ta):=by
 intro c s l H R I h;refine Call_ (eW I f g PyProof.Rows.Boot.«reversed» (QR ?_ i rfl));refine XU (Call_ (eW I n hm boot_range (QR (thn (ha pos c s l H _ I h) λus d r=>?_) hs rfl)));obtain⟨vs,m,v,r1,j,rfl,q1,q2,q⟩:=r;obtain⟨u,rfl,t,rfl⟩:=jR r1;refine call_range_1 (Yo (EZ (IsRange.new ..) q1 q2 (Vy (x:=j-1) (left:=j) (step:=-1) (Pl _ rfl) ?_)));have k:Inv X c l m {d with heap:=d.heap.push {cls:= .type "range",data:= .fields #[.int 0 d.toks,.int j t,.int 1 (d.toks+1)]},toks:=d.toks+1+1}:=v.kept λb o e=>OU _ e;refine⟨_,[_],_,_,m,rfl,k.kept (t':=d.toks+1+1) λb o e=>OU _ e,vn _ j.toNat,?_,λb w=>?_,q⟩
 ·show WT _ _ (((j.toNat:Nat):Int)-1+((0:Nat):Int)*-1) (((j.toNat:Nat):Int)-((0:Nat):Int)) (-1)
  rw[show((j.toNat:Nat):Int)-1+((0:Nat):Int)*-1=j-1 by omega,show((j.toNat:Nat):Int)-((0:Nat):Int)=j by omega];exact Pl _ rfl
 ·cases Qd.mp w
  exact k.fpOk (O9 _) (k.hok.fresh (O9 _))
noncomputable def ig(n:Nat):List D:=(O6 n).map λ(i:Nat)=> .int ((n:Int)-1-i)
theorem xW:ItD K (Itd n) F H (ig n):=λe f β2 t fr i=>by
 refine⟨λd hd=>?_,λa=>?_⟩
 ·unfold ig at hd
  have a:i<n:=by
   have:=(Pc.mp hd).1;simpa using this
  rw[O4,Qz a]at hd;cases hd;exact⟨a,λx g ⟨b,c⟩=>by subst b c;exact⟨bE.refl _,rfl⟩⟩
 ·show n<=i
  rw[a];simp[ig]
def sK:List D->Option (List D)
 |[.int j]=>if(decide (0<=j)&&decide (j<2^62))=OV then on (ig j.toNat)else OR
 |_=>OR
theorem EM(b:Gl X "reversed")(c:X.mg "reversed"=OR)(j:Gl X "range")(hm:X.mg "range"=OR)(ha:PA X [a] (tVA X.K g E))(hs:Pb [a] X.env=[(OW,Qo a X.env)]:=by rfl)
  (d:Pb [.Call (.Name "range" p) [a] [] pos] X.env=[(OW,Qo (.Call (.Name "range" p) [a] [] pos) X.env)]:=by rfl):PI X tg (.Call (.Name "reversed" p2) [.Call (.Name "range" p) [a] [] pos] [] pos2) (iV X.K (bj sK g) E):=
 (zt b c j hm ha hs d).imp λq H R f=>ex6 f λF δ β fr m h=>⟨F,δ,β,fr,m,(run.bind (R:=DenL X.K F) h).mono λvs n f=>by
  obtain⟨ds,β1,t,hd,r1⟩:=f;obtain⟨l,e,k⟩:=run.ofO r1;unfold sK at e;split at e
  ·split at e
   ·rename_i i
    cases e;simp only[PU,P3]at i;obtain⟨v,rfl,o⟩:=DenL.one hd;cases o.int;exact⟨_,rfl,i.1,i.2,k _ n (To.refl t.fr) xW⟩
   ·cases e
  ·cases e⟩
end
section
variable{X:Cx}{E:St->XK}{K:Po}{e m:Expr}{te tm:TE}{pos p2:Tz}
theorem CW(a:List OX):YJ a.toArray OR OR (on (-1))=a.reverse.toArray:=by
 have b:SY OR OR (on (-1)) a.toArray.size=((a.length:Int)-1,-1,-1):=by simp[SY]
 unfold YJ;rw[b];refine Qr _ ?_;have c:sliceRange ((a.length:Int)-1) (-1) (-1)=(O6 a.length).map λk=>a.length-1-k:=by
  unfold sliceRange;have d:(if(-1:Int)>0 then(if(a.length:Int)-1< -1 then(-1-((a.length:Int)-1)+-1-1)/ -1 else 0)else(if(a.length:Int)-1>-1 then((a.length:Int)-1- -1- -1-1)/(- -1)else 0)).toNat=a.length:=by
   rw[O3 (by decide)];split
   ·rw[show(- -1:Int)=1 by decide,Int.ediv_one];omega
   ·omega
  simp only[d];exact P0 λk _=>by omega
 show(sliceRange ((a.length:Int)-1) (-1) (-1)).filterMap _=_;rw[c,List.filterMap_map];rcases a with _|⟨x,r⟩
 ·rfl
 generalize j:x::r=a;rw[uT (g:=λk=>a.getD (a.length-1-k) x) λk f=>by
  have:k<a.length:=Pw.mp f;simp only[Uh,Vi];rw[O1,O0 (by omega)];rfl]
 refine SJ (by simp) λi h l=>?_;have n:i<a.length:=by simpa using h
 rw[SK,Tf,XJ,O1,O0 (by omega)];rfl
def tRev(K:Po)(te tm:TE):TE:=λc H Q=>te c H λx d=>tm c d λy b=>∃a xs,x= .ref a/\y= .int (-1)/\SqL K b a xs/\∀p,b p=OR->Q (.ref p) (upd b p (.lst xs.reverse))
theorem LU(l:PE X e te)(hm:PE X m tm):PE X (.Subscript e (.Slice OR OR (on m) p2) pos) (tRev X.K te tm):=by
 intro c s f H Q I h;refine Subscript_ (thn (l c s f H _ I h) λv n o=>?_);obtain⟨x,p,r,r1,q1⟩:=o;refine wpAny_Slice ?_;rw[Yi];refine OT (OT ?_);rw[evalPart_some];refine thn (hm c n f p _ r q1) λu d B=>?_;obtain⟨y,C,g,F,a,xs,rfl,rfl,sq,q⟩:=B;cases r1;obtain⟨t,rfl⟩:=F;obtain⟨its,i,pl,j⟩:=g.list sq;have k:Inv X c f C {d with heap:=d.heap.push {cls:= .type "slice",data:= .fields #[.none,.none,.int (-1) t]}}:=g.kept (t':=d.toks) λb J q=>OU _ q;show Pf (Py X.prog X.w) X.A (Yk e (.Slice OR OR (on m) p2) (.ref a) (.ref d.heap.objs.size)) (EP X c f Q) X.xe {d with heap:=d.heap.push {cls:= .type "slice",data:= .fields #[.none,.none,.int (-1) t]}};refine tail_any (ops:=[.ref a,.ref d.heap.objs.size]) (pl.isList.push _).typeIs slot_list_getitem.lookup (Yl (pl.isList.push _) (We ..) .none .none (.int (-1) t) (by simp) ?_ (by rw[Ps,←i.length];exact j)) (by with_unfolding_all rfl)
 rw[CW];exact⟨.ref _,_,k.lnew (t':=d.toks) (its:=its.reverse) (ys:=xs.reverse) i.reverse (by rw[X2];exact j),rfl,q _ (k.hok.fresh (O9 _))⟩
noncomputable def LB:D->D->Option D
 | .lst ds,.int (-1)=>on (.lst ds.reverse)
 |_,_=>OR
theorem DenL.reverse:∀{ds:List D} {xs:List V},DenL K F H ds xs->DenL K F H ds.reverse xs.reverse
 |[],xs,h=>by have q:xs=[]:=h;subst q;exact DenL.nil
 |d::ds,xs,h=>by
  obtain⟨x,r,rfl,a,b⟩:=h;rw[UB,UB];exact DenL.append (DenL.reverse b) (DenL.cons a DenL.nil)
theorem NW(o:PE X e (tV X.K f E))(hm:PE X m (tV X.K g E)):PE X (.Subscript e (.Slice OR OR (on m) p2) pos) (tV X.K (f2 LB f g) E):=
 (LU o hm).imp λu H Q b=>ex6 b λF δ β fr l h=>⟨F,δ,β,fr,l,(run.bind (R:=Den X.K F) h).mono λv w b=>ex5 b λd β1 t hd r1=>⟨F,δ,β1,t.fr,l.tr (t.tr fr),(run.bind (R:=Den X.K F) r1).mono λy A b=>ex5 b λd2 β2 i j q=>by
  obtain⟨z,c,k⟩:=run.ofO q;unfold LB at c;split at c
  ·cases c
   obtain⟨a,xs,rfl,sq,r⟩:=Den.sqL (Den.tr (i.tr t.fr) _ _ hd);cases j.int;exact⟨a,xs,rfl,rfl,sq,λp n=>k _ _ (i.fr.upd _ n) (Den.newL i.fr n (DenL.reverse r))⟩
  ·cases c⟩⟩
end
end L2.Pu
namespace L2.Pu
open PySem
theorem hu2{A:Qn}(a:Room k A):A.units+2<UL:=Rw (Ys (by decide:2<=64) _) a.units
open PySem.Spec PyProof.Rows L2.Hs
section
variable{X:Cx}{E:St->XK}{ke ve target iter:Expr}{ifs:List Expr}{rest:List Q1}{scope:Scope}{pos:Tz}{Nc vars:List PY}{caps:List Nat}{g:TG}{tb:OZ->TB}
theorem J5{kb:Bool}{b d:Tz}(y:X.N.Nodup)(k:X.N[i]?=on x)(B:Loc X.env.scope x)(F:X.calm=OV)(S:CmpScope X scope Nc vars caps)(L:PI X target iter wi)
  (O:∀(cl:List (PY×OZ)) (C:OZ) (j:List OZ) (s:O7) (H:Hp),PG (aC X Nc scope cl C j s H) target g/\dG (aC X Nc scope cl C j s H) ifs tt/\∀D,PB (aC X Nc scope cl C j s H) (.D ke ve) (⟨target,iter,ifs,0⟩::rest) scope pos 0 D (tb D))
  (l:Tw (.DictComp ke ve (⟨target,iter,ifs,0⟩::rest) scope pos) (on (.Name x b)) d.line X.env=Ro OV:=by rfl)
  (hs:∀x,Qf iter X.env x=Ro x:=by intro _;rfl) (P:X.fn x=OV\/X.env.scope.names.lookup x=on .local:=by first|exact .inl rfl|exact .inr rfl|assumption):
  PS X (.Assign [.Name x b] (.DictComp ke ve (⟨target,iter,ifs,0⟩::rest) scope pos) d) (jp (kO (λD=>dP D kb 0 []) vars caps wi λD J=>cV J g tt (tb D)) (fj i)):=by
 intro f s R H D I h;rw[exec_Assign_Name_used _ _ _ _ l];refine My (Rh (My ?_));show Pf _ X.A (do let _ ←comprehension (.DictComp ke ve (⟨target,iter,ifs,0⟩::rest) scope pos) scope X.env _ newDict OW (Qo iter X.env) (on (Uq (.Name x b) X.env))) _ _ s
 refine My (Qc (R6 (use:=on (Uq (.Name x b) X.env)) (Q:=λ_ s'=>SP X f D .next s') rfl hs (S.clo I.ok) S.kind S.loc
  (Qc (L f s R H _ I h) (λv s1 U=>Qc U (λW Y n=>?_) λ_ _ e=>e) λ_ _ e=>e)) (λ_ s' Z=>OT (OT Z)) λ_ _ e=>e)
 obtain⟨it,j,tn,J,H2,e,o,T,p,f2,q⟩:=n;subst e;refine gJ (c:= .D ke ve) ux (RR:=λacc C=>Xv (Py X.prog X.w) X.A X.xe (on (Uq (.Name x b) X.env)) _ acc C) F S O o T p f2 q λA C s' H' m I' ns r q'=>?_;show Pf _ X.A (Uq (.Name x b) X.env (.ref A)) _ _ s';refine Wx (kT I' y k B (v:= .ref A) rfl (λY o n=>?_) P);obtain⟨a,sb,ha⟩:=n;have t:C≠a:=by
  rcases ha with rfl|ha
  ·exact r.2.1
  ·exact λz=>r.2.2.2.1 x a ha z.symm
 exact⟨m,ns.sameBut sb t,λh' u=>⟨_,H',o.letgo r u,q'⟩⟩
theorem zb{kb:Bool}{a c:Tz}(j:X.N.Nodup)(d:X.N[i]?=on x)(k:Loc X.env.scope x)(l:X.calm=OV)(S:CmpScope X scope Nc vars caps)(m:PI X target iter (iV X.K it E))
  (n:∀(cl:List (PY×OZ)) (C:OZ) (f:List OZ) (s:O7) (H:Hp),PG (aC X Nc scope cl C f s H) target g/\dG (aC X Nc scope cl C f s H) ifs (tVT X.K tt E0)/\∀D,PB (aC X Nc scope cl C f s H) (.D ke ve) (⟨target,iter,ifs,0⟩::rest) scope pos 0 D (tb D))
  (o:cz X.K g tg) (p:dE tg) (q:∀D,eA X.K (RD X.K kb) D (tb D) b)
  (e:Tw (.DictComp ke ve (⟨target,iter,ifs,0⟩::rest) scope pos) (on (.Name x a)) c.line X.env=Ro OV:=by rfl)
  (hs:∀x,Qf iter X.env x=Ro x:=by intro _;rfl) (r:X.fn x=OV\/X.env.scope.names.lookup x=on .local:=by first|exact .inl rfl|exact .inr rfl|assumption):
  PS X (.Assign [.Name x a] (.DictComp ke ve (⟨target,iter,ifs,0⟩::rest) scope pos) c) (tG X.K X.H₀ (fY i (gG vars.length caps it tg tt b (kC kb))) E):=
 aN ((J5 (kb:=kb) j d k l S m n e hs r).imp λD t H h=>u5 o p q h)
end
end L2.Pu
namespace L2.Pu
open PySem L2.Hs
def kt(k:List Int):LI->LI
 |[]=>[k]
 |x::l=>if cQ k x=OV then k::x::l else if k=x then x::l else x::kt k l
theorem insU_mem:∀{l:LI},y∈kt k l↔y=k\/y∈l
 |[]=>by simp[kt]
 |x::l=>by
  unfold kt;split
  ·simp
  ·split
   ·rename_i h
    subst h;simp
   ·rw[Pq,insU_mem,Pq]
    exact or_left_comm
theorem wA:∀{l:LI},Up l->Up (kt k l)
 |[],_=>by unfold kt;exact UU _ _
 |x::l,h=>by
  obtain⟨a,b⟩:=Tg.mp h;unfold kt;split
  ·rename_i q
   refine Tg.mpr ⟨λy hy=>?_,h⟩;rcases Pq.mp hy with rfl|hy
   ·exact q
   ·exact pB q (a y hy)
  ·split
   ·exact h
   ·rename_i q1 q2
    refine Tg.mpr ⟨λy hy=>?_,wA b⟩;rcases insU_mem.mp hy with rfl|hy
    ·cases q:cQ x y with
     |true=>rfl
     |false=>exact PF (mD (by simpa using q1) q) q2
    ·exact a y hy
def kU(ks:LI):LI:=ks.foldr kt []
theorem mn:∀ks,Up (kU ks)
 |[]=> .nil
 |k::ks=>wA (mn ks)
theorem dY:∀{ks:LI},y∈kU ks↔y∈ks
 |[]=>by simp[kU]
 |k::ks=>by
  show y∈kt k (kU ks)↔_;rw[insU_mem,dY,Pq]
theorem HU{l:LI}(h:Up l):l.Nodup:=h.imp λ{a b} q e=>by
 subst e;rw[iu]at q;cases q
theorem Lm{ks:LI}(b:∀k∈ks,1<=k.length){m:LI}(hm:m.length<63)(c:∀k∈ks,k∈m):jX (ks.map tpI)=on (.lst ((kU ks).map tpI)):=by
 refine CJ ⟨mn ks,Rw (lE (HU (mn ks)) λx e=>c x (dY.mp e)) hm,λk a=>⟨b k (dY.mp a),Pp.mpr ⟨k,dY.mp a,rfl⟩⟩,λd hd=>?_⟩;obtain⟨k,a,rfl⟩:=Pp.mp hd;exact⟨k,dY.mpr a,rfl⟩
end L2.Pu
namespace L2.Nt
noncomputable def sm{α:Type}(l:List α)(f:α->Nat):Nat:=(l.map f).sum
section
variable{α β:Type}
theorem yY{f:α->Nat}:sm [] f=0:=rfl
theorem bX{a:α}{l:List α}{f:α->Nat}:sm (a::l) f=f a+sm l f:=by unfold sm;rw[Ph,PQ]
theorem tT{l m:List α}{f:α->Nat}:sm (l++m) f=sm l f+sm m f:=by unfold sm;rw[P4,Wh]
theorem di:∀{l:List α},(∀a∈l,f a=g a)->sm l f=sm l g
 |[],_=>rfl
 |a::l,h=>by rw[bX,bX,h a O5,di λb c=>h b (OY a c)]
theorem oO{g:β->α}{f:α->Nat}{l:List β}:sm (l.map g) f=sm l λb=>f (g b):=by unfold sm;rw[Pd];rfl
theorem mq{g:β->List α}{f:α->Nat}:∀{l:List β},sm (l.flatMap g) f=sm l λb=>sm (g b) f
 |[]=>rfl
 |b::l=>by rw[Qp,tT,bX,mq]
theorem vP:∀{l:List α},(sm l λ_=>0)=0
 |[]=>rfl
 |a::l=>by rw[bX,vP]
theorem yZ:∀{l:List α},(sm l λa=>f a+g a)=sm l f+sm l g
 |[]=>rfl
 |a::l=>by rw[bX,bX,bX,yZ];omega
theorem oN:∀{l:List α},(sm l λa=>c*f a)=c*sm l f
 |[]=>rfl
 |a::l=>by rw[bX,bX,oN,Nat.mul_add]
end
theorem HZ:∀{n:Nat},m<=n->sm (O6 (m+1)) f=sm (O6 (n+1)) λa=>if a<=m then f a else 0
 |0,h=>by
  obtain rfl:m=0:=by omega
  exact di λa ha=>by
   have:=Pw.mp ha;rw[O8 (by omega)]
 |n+1,h=>by
  rcases VW m (n+1)with q|q
  ·rw[Sj (n:=n+1),tT,←HZ (by omega:m<=n),bX,yY,O3 (by omega)]
   omega
  ·obtain rfl:m=n+1:=by omega
   exact di λa ha=>by
    have:=Pw.mp ha;rw[O8 (by omega)]
noncomputable def cm:List Nat->Nat->List (List Nat)
 |[],0=>[[]]
 |[],_+1=>[]
 |x::r,c=>(O6 (Sz x c+1)).flatMap λa=>(cm r (c-a)).map (a::·)
noncomputable def less(r v:List Nat):List Nat:=U4 (·-·) r v
theorem yE:sm (cm (x::r) c) f=sm (O6 (Sz x c+1)) λa=>sm (cm r (c-a)) λv=>f (a::v):=by
 show sm ((O6 (Sz x c+1)).flatMap λa=>(cm r (c-a)).map (a::·)) f=_;rw[mq];exact di λa _=>oO
end L2.Nt
namespace L2.Nt
open L2.Pu
noncomputable def ch:Nat->Nat->Nat
 |_,0=>1
 |0,_+1=>0
 |n+1,k+1=>ch n k+ch n (k+1)
theorem pX:∀{n k:Nat},n<k->ch n k=0
 |0,k+1,_=>by simp[ch]
 |n+1,k+1,h=>by
  show ch n k+ch n (k+1)=0;rw[pX (by omega),pX (by omega)]
theorem qS(n:Nat):ch n 0=1:=by cases n<;>rfl
theorem wT:∀n,ch n n=1
 |0=>rfl
 |n+1=>by
  show ch n n+ch n (n+1)=1;rw[wT n,pX (by omega)]
theorem yc(n:Nat):facN (n+1)=(n+1)*facN n:=Sf (facN n) (n+1)
theorem lX:∀n a b:Nat,a+b=n->ch (a+b) a*(facN a*facN b)=facN (a+b)
 |n,0,b,_=>by rw[qS];simp[facN]
 |n,a+1,0,_=>by rw[Nat.add_zero,wT];simp[facN]
 |0,a+1,b+1,h=>by omega
 |n+1,a+1,b+1,h=>by
  have c:=lX n a (b+1) (by omega);have d:=lX n (a+1) b (by omega);have e:a+1+(b+1)=(a+b+1)+1:=by omega
  have f:a+(b+1)=a+b+1:=by omega
  have g:a+1+b=a+b+1:=by omega
  rw[f]at c;rw[g]at d;rw[e];show(ch (a+b+1) a+ch (a+b+1) (a+1))*(facN (a+1)*facN (b+1))=facN (a+b+1+1);rw[yc (a+b+1),X4];have i:ch (a+b+1) a*(facN (a+1)*facN (b+1))=(a+1)*facN (a+b+1):=by
   rw[←c,yc a];simp only[TW,Tt,Sf]
  have j:ch (a+b+1) (a+1)*(facN (a+1)*facN (b+1))=(b+1)*facN (a+b+1):=by
   rw[←d,yc b];simp only[TW,Tt,Sf]
  rw[i,j,←X4,show a+1+(b+1)=a+b+1+1 by omega]
theorem mo:sm (O6 (n+1)) f=f 0+sm (O6 n) λa=>f (a+1):=by
 rw[U3,bX,oO]
theorem BY:∀(x y c:Nat),(sm (O6 (c+1)) λa=>ch x a*ch y (c-a))=ch (x+y) c
 |0,y,c=>by
  rw[mo,qS,Nat.one_mul,Nat.sub_zero,Rz];have:(sm (O6 c) λa=>ch 0 (a+1)*ch y (c-(a+1)))=0:=(di λa _=>by rw[pX (by omega),Xn]).trans vP;rw[this];rfl
 |x+1,y,0=>by rw[mo];simp[qS,yY]
 |x+1,y,c+1=>by
  have b:=BY x y (c+1);have d:=BY x y c;rw[mo]at b;rw[mo];have e:(sm (O6 (c+1)) λa=>ch (x+1) (a+1)*ch y (c+1-(a+1)))=(sm (O6 (c+1)) λa=>ch x a*ch y (c-a))+sm (O6 (c+1)) λa=>ch x (a+1)*ch y (c+1-(a+1)):=by
   rw[←yZ];refine di λa _=>?_;show(ch x a+ch x (a+1))*_=_;rw[X4,Nat.add_sub_add_right]
  rw[e,d];have f:x+1+y=x+y+1:=by omega
  rw[f];show _=ch (x+y) c+ch (x+y) (c+1);rw[←b,qS,qS];omega
theorem vdm(x y c:Nat):(sm (O6 (Sz x c+1)) λa=>ch x a*ch y (c-a))=ch (x+y) c:=by
 rw[HZ (Nat.min_le_right x c),←BY];refine di λa ha=>?_;have:=Pw.mp ha;by_cases q:a<=x
 ·rw[O8 (by omega)]
 ·rw[O3 (by omega),pX (by omega),Xn]
def pc:List Nat->List Nat->Nat
 |x::r,a::v=>ch x a*pc r v
 |_,_=>1
theorem zy:∀(r:List Nat) (c:Nat),sm (cm r c) (pc r)=ch r.sum c
 |[],0=>rfl
 |[],c+1=>rfl
 |x::r,c=>by
  rw[yE,PQ,←vdm];exact di λa _=>by rw[←zy r (c-a),←oN];rfl
theorem iC:∀{r:List Nat} {c:Nat} {v:List Nat},v∈cm r c->v.sum=c/\(less r v).sum+c=r.sum/\v.length=r.length/\pr (r.map facN)=pc r v*(pr (v.map facN)*pr ((less r v).map facN))
 |[],0,v,h=>by cases Qd.mp h;exact⟨rfl,rfl,rfl,rfl⟩
 |[],c+1,v,h=>by cases h
 |x::r,c,v,h=>by
  have h':v∈(O6 (Sz x c+1)).flatMap λa=>(cm r (c-a)).map (a::·):=h;obtain⟨a,ha,d⟩:=Rb.mp h';obtain⟨u,e,rfl⟩:=Pp.mp d;have f:=Pw.mp ha;obtain⟨g,i,j,k⟩:=iC e;refine⟨by rw[PQ,g];omega,?_,by rw[Pg,j,Pg],?_⟩
  ·show((x-a)::less r u).sum+c=_
   rw[PQ,PQ,←i];omega
  ·show facN x*pr (r.map facN)=(ch x a*pc r u)*((facN a*pr (u.map facN))*(facN (x-a)*pr ((less r u).map facN)))
   have b:=lX x a (x-a) (by omega);rw[show a+(x-a)=x by omega]at b;rw[k,←b];simp only[TW,Tt,Sf]
def mu:List Nat->Nat
 |[]=>1
 |x::r=>ch (x+r.sum) x*mu r
theorem iP:∀r:List Nat,mu r*pr (r.map facN)=facN r.sum
 |[]=>rfl
 |x::r=>by
  show(ch (x+r.sum) x*mu r)*(facN x*pr (r.map facN))=facN (x::r).sum;rw[PQ,←lX _ x r.sum rfl,←iP r];simp only[TW,Tt,Sf]
theorem qv(r:List Nat):0<pr (r.map facN):=zn λx a=>by
 obtain⟨n,_,rfl⟩:=Pp.mp a;exact mP n
theorem Mg(r:List Nat):facN r.sum/pr (r.map facN)=mu r:=by rw[←iP,Nat.mul_div_cancel _ (qv r)]
def dls:List Nat->List Nat->Nat
 |_,[]=>1
 |r,c::cs=>sm (cm r c) λv=>mu v*dls (less r v) cs
theorem HJ:∀{r:List Nat},r.sum=0->mu r=1
 |[],_=>rfl
 |x::r,h=>by
  rw[PQ]at h;obtain rfl:x=0:=by omega
  show ch _ 0*mu r=1;rw[qS,HJ (by omega)]
theorem pT:∀(cs r:List Nat),r.sum=cs.sum->dls r cs=mu r
 |[],r,h=>(HJ h).symm
 |c::cs,r,h=>by
  rw[PQ]at h;refine Nat.eq_of_mul_eq_mul_right (qv r) ?_;rw[iP];show sm (cm r c) (λv=>mu v*dls (less r v) cs)*_=_;rw[Sf,←oN];have e:(sm (cm r c) λv=>pr (r.map facN)*(mu v*dls (less r v) cs))=sm (cm r c) λv=>(facN c*facN (r.sum-c))*pc r v:=by
   refine di λv a=>?_;obtain⟨b,f,g,d⟩:=iC a;rw[pT cs (less r v) (by omega),d];have m1:=iP v;have m2:=iP (less r v);rw[b]at m1;rw[show(less r v).sum=r.sum-c by omega]at m2;rw[←m1,←m2];simp only[TW,Tt,Sf]
  rw[e,oN,zy,Sf];have:=lX r.sum c (r.sum-c) (by omega);rw[show c+(r.sum-c)=r.sum by omega]at this;exact this
def LeN:List Nat->List Nat->Prop
 |[],[]=>True
 |a::v,x::r=>a<=x/\LeN v r
 |_,_=>False
theorem LeN.refl:∀r,LeN r r
 |[]=>trivial
 |_::r=>⟨O9 _,LeN.refl r⟩
theorem LeN.tr:∀{u v r:List Nat},LeN u v->LeN v r->LeN u r
 |[],[],[],_,_=>trivial
 |_::_,_::_,_::_,h,q=>⟨Px h.1 q.1,h.2.tr q.2⟩
 |[],_::_,_,h,_=>h.elim
 |_::_,[],_,h,_=>h.elim
 |[],[],_::_,_,q=>q.elim
 |_::_,_::_,[],_,q=>q.elim
theorem LeN.len:∀{v r:List Nat},LeN v r->v.length=r.length
 |[],[],_=>rfl
 |_::_,_::_,h=>Qr (·+1) h.2.len
 |[],_::_,h=>h.elim
 |_::_,[],h=>h.elim
theorem LeN.less:∀{v r:List Nat},LeN v r->LeN (less r v) r
 |[],[],_=>trivial
 |a::v,x::r,h=>⟨Nat.sub_le x a,h.2.less⟩
 |[],_::_,h=>h.elim
 |_::_,[],h=>h.elim
theorem LeN.pr:∀{v r:List Nat},LeN v r->L2.Pu.pr (v.map (·+1))<=L2.Pu.pr (r.map (·+1))
 |[],[],_=>O9 _
 |_::_,_::_,h=>Nat.mul_le_mul (Nat.succ_le_succ h.1) h.2.pr
 |[],_::_,h=>h.elim
 |_::_,[],h=>h.elim
theorem LeN.sum:∀{v r:List Nat},LeN v r->v.sum<=r.sum
 |[],[],_=>O9 _
 |_::_,_::_,h=>by rw[PQ,PQ];exact WJ h.1 h.2.sum
 |[],_::_,h=>h.elim
 |_::_,[],h=>h.elim
theorem fF:∀{r:List Nat} {c:Nat} {v:List Nat},v∈cm r c->LeN v r
 |[],0,v,h=>by cases Qd.mp h;exact trivial
 |[],c+1,v,h=>by cases h
 |x::r,c,v,h=>by
  have h':v∈(O6 (Sz x c+1)).flatMap λa=>(cm r (c-a)).map (a::·):=h;obtain⟨a,ha,b⟩:=Rb.mp h';obtain⟨u,d,rfl⟩:=Pp.mp b;have e:=Pw.mp ha;exact⟨by omega,fF d⟩
theorem nU:∀{r v:List Nat},LeN v r->v∈cm r v.sum
 |[],[],_=>Qd.mpr rfl
 |x::r,a::v,h=>by
  refine Rb.mpr ⟨a,Pw.mpr (by rw[PQ];have:=h.1;omega),Pp.mpr ⟨v,?_,rfl⟩⟩;rw[PQ,Xg];exact nU h.2
 |[],_::_,h=>h.elim
 |_::_,[],h=>h.elim
theorem gm{α a:Type}{f:α->List a}{n:Nat}:∀{l:List α},(∀x∈l,(f x).length<=n)->(l.flatMap f).length<=l.length*n
 |[],_=>by simp
 |x::l,h=>by
  rw[Qp,Pn,Pg,Nat.succ_mul,Xk];exact WJ (gm λy b=>h y (OY _ b)) (h x O5)
theorem nA:∀(r:List Nat) (c:Nat),(cm r c).length<=pr (r.dropLast.map (·+1))
 |[],0=>O9 _
 |[],_+1=>QW _
 |[x],c=>by
  have h:cm [x] c=(O6 (Sz x c+1)).flatMap λa=>(cm [] (c-a)).map (a::·):=rfl;rw[h,Sj,Rf,Pn];have e:((O6 (Sz x c)).flatMap λa=>(cm [] (c-a)).map (a::·))=[]:=by
   refine Ti.mpr λa ha=>?_;have:=Pw.mp ha;obtain⟨n,hn⟩:∃n,c-a=n+1:=⟨c-a-1,by omega⟩;rw[hn];rfl
  rw[e];cases q:c-Sz x c<;>simp[cm,q,pr]
 |x::y::r,c=>by
  have h:=gm (l:=O6 (Sz x c+1)) (f:=λa=>(cm (y::r) (c-a)).map (a::·)) (n:=pr ((y::r).dropLast.map (·+1))) λa _=>by rw[OS];exact nA (y::r) (c-a)
  rw[Pr]at h;refine Px h ?_;show _<=(x+1)*pr ((y::r).dropLast.map (·+1));exact TX _ (by omega)
theorem pP{α β a:Type}{f:α->List β}{g:β->List a}(l:List α):(l.flatMap f).flatMap g=l.flatMap λx=>(f x).flatMap g:=List.flatMap_assoc
theorem xA(r:List Nat)(k:Nat):pr ((r.take k).map (·+1))<=pr (r.map (·+1)):=by
 conv=>rhs;rw[←RP k r,P4,zo]
 exact UX _ (zn λx a=>by
  obtain⟨n,_,rfl⟩:=Pp.mp a;omega)
theorem sO(l:List Nat):(nI l).map Int.toNat=l:=by
 rw[Pd];exact(P0 λx _=>rfl).trans (V5 l)
theorem jJ(h:nI l=nI m):l=m:=by rw[←sO l,h,sO]
theorem zL{α a:Type}{f:α->a}{l:List α}(h:(l.map f).Nodup):l.Nodup:=(UA.mp h).imp λq e=>q (Qr f e)
theorem zM{α c:Type}{f:α->c}(inj:∀a b,f a=f b->a=b){l:List α}(h:l.Nodup):(l.map f).Nodup:=UA.mpr (h.imp λq e=>q (inj _ _ e))
theorem ji{cs:List Nat}(h:k<cs.length):cs.drop k=cs.getD k 0::cs.drop (k+1):=by
 rw[QB h,O1,O0 h];rfl
noncomputable def okB:List (Nat×Nat)->List Nat->Bool
 |p::ps,a::v=>decide (p.1<=a)&&decide (a<=p.2)&&okB ps v
 |_,_=>OV
def vB(ps:List (Nat×Nat))(r:List Nat)(c:Nat):List (List Nat):=(cm r c).filter (okB ps)
theorem K8(h:v∈vB ps r c):v∈cm r c:=(Vb.mp h).1
theorem qi{p:Nat×Nat}:vB (p::ps) (x::r) c=(O6 (Sz x c+1)).flatMap λa=>if p.1<=a/\a<=p.2 then(vB ps r (c-a)).map (a::·)else[]:=by
 show((O6 (Sz x c+1)).flatMap λa=>(cm r (c-a)).map (a::·)).filter (okB (p::ps))=_;rw[XZ];refine Qr (Xd · _) (funext λa=>?_);rw[Wf];by_cases q:p.1<=a/\a<=p.2
 ·rw[O8 q]
  refine Qr (Rk (a::·)) (YO λv _=>?_);show(decide (p.1<=a)&&decide (a<=p.2)&&okB ps v)=okB ps v;rw[PH q.1,PH q.2];rfl
 ·rw[O3 q,Xc.mpr,Q0]
  intro v _ h;have h:(decide (p.1<=a)&&decide (a<=p.2)&&okB ps v)=OV:=h;simp only[PU,P3]at h;exact q h.1
noncomputable def tps:List (Nat×Nat)->List Nat->List Nat
 |p::ps,x::r=>Sz x p.2::tps ps r
 |_,_=>[]
noncomputable def los(ps:List (Nat×Nat)):List Nat:=ps.map (·.1)
theorem HS:∀{ps:List (Nat×Nat)} {r:List Nat} {c:Nat} {v:List Nat},ps.length=r.length->v∈vB ps r c->(los ps).sum<=c/\c<=(tps ps r).sum
 |[],[],c,v,_,h=>by
  have:=iC (K8 h);simp at this;simp[los,tps];omega
 |p::ps,x::r,c,v,e,h=>by
  rw[qi]at h;obtain⟨a,ha,h⟩:=Rb.mp h;by_cases q:p.1<=a/\a<=p.2
  ·rw[O8 q]at h
   obtain⟨u,b,rfl⟩:=Pp.mp h;have i:=HS (by simpa using e) b;have:=Pw.mp ha;simp only[los,tps,Ph,PQ]at i⊢;omega
  ·rw[O3 q]at h;cases h
noncomputable def nxB(x:Nat)(p:Nat×Nat)(few a:Nat)(b:List Nat×Nat):List (List Nat×Nat):=(O6 (Sz (Sz x p.2+few) b.2+1-few-YI p.1 (b.2-a))).map λi=>(b.1++[YI p.1 (b.2-a)+i],b.2-(YI p.1 (b.2-a)+i))
def stB(ps:List (Nat×Nat))(r:List Nat)(c:Nat):Nat->List (List Nat×Nat)
 |0=>[([],c)]
 |k+1=>(stB ps r c k).flatMap (nxB (r.getD k 0) (ps.getD k (0,0)) ((los ps).drop (k+1)).sum ((tps ps r).drop (k+1)).sum)
theorem lS{b:Type}{f:Nat->List b}{lo n N:Nat}(h:∀a<N,f a≠[]->lo<=a/\a<n)(hn:n<=N):(O6 N).flatMap f=(O6 (n-lo)).flatMap λi=>f (lo+i):=by
 have e:∀{a},a<N->¬(lo<=a/\a<n)->f a=[]:=λ{a} ha q=>T0 λz=>q (h a ha z);obtain⟨d,rfl⟩:∃d,N=n+d:=⟨N-n,by omega⟩;have z:(O6 d).flatMap (λa=>f (n+a))=[]:=Ti.mpr λa ha=>e (by have:=Pw.mp ha;omega) (by omega);rw[List.range_add,Rf,UR,z,PN];rcases Nat.le_total lo n with q|q
 ·obtain⟨m,rfl⟩:∃m,n=lo+m:=⟨n-lo,by omega⟩
  rw[List.range_add,Rf,Ti.mpr λa ha=>e (by have:=Pw.mp ha;omega) (by have:=Pw.mp ha;omega),QH,UR,Xg]
 ·rw[show n-lo=0 by omega,Ti.mpr λa ha=>e (by have:=Pw.mp ha;omega) (by have:=Pw.mp ha;omega)];rfl
theorem tH:∀{ps:List (Nat×Nat)} {r:List Nat} (k:Nat),tps (ps.drop k) (r.drop k)=(tps ps r).drop k
 |_,_,0=>rfl
 |[],r,k+1=>by simp[tps]
 |p::ps,[],k+1=>by cases h:(ps.drop k)<;>simp[tps,h]
 |p::ps,x::r,k+1=>tH k
theorem gl{α:Type}{l:List α}{k:Nat}{d:α}(h:k<l.length):l.getD k d=l[k]:=by rw[O1,O0 h];rfl
theorem eL{α a:Type}{f g:α->List a}:∀{l:List α},(∀x∈l,f x=g x)->l.flatMap f=l.flatMap g
 |[],_=>rfl
 |x::l,h=>by rw[Qp,Qp,h x O5,eL λy b=>h y (OY _ b)]
theorem vO{ps:List (Nat×Nat)}{r:List Nat}(e:ps.length=r.length)(c:Nat):∀k,k<=r.length->((stB ps r c k).flatMap λb=>(vB (ps.drop k) (r.drop k) b.2).map (b.1++·))=vB ps r c
 |0,_=>by simp[stB]
 |k+1,h=>by
  rw[←vO e c k (by omega)];show((stB ps r c k).flatMap _).flatMap _=_;rw[pP];refine Qr (Xd · (stB ps r c k)) (funext λb=>?_);have g:k<r.length:=by omega
  have j:k<ps.length:=by omega
  rw[QB g,QB j,gl g,gl j,qi,Ra];rw[lS (f:=λa=>(if ps[k].1<=a/\a<=ps[k].2 then(vB (ps.drop (k+1)) (r.drop (k+1)) (b.2-a)).map (a::·)else[]).map (b.1++·)) (N:=Sz r[k] b.2+1) (lo:=YI ps[k].1 (b.2-((tps ps r).drop (k+1)).sum)) (n:=Sz (Sz r[k] b.2+1) (Sz (Sz r[k] ps[k].2+((los ps).drop (k+1)).sum) b.2+1-((los ps).drop (k+1)).sum)) (λa o ha=>?_) (Nat.min_le_left _ _)]
  ·unfold nxB
   rw[UR,show Sz (Sz r[k] b.2+1) (Sz (Sz r[k] ps[k].2+((los ps).drop (k+1)).sum) b.2+1-((los ps).drop (k+1)).sum)=Sz (Sz r[k] ps[k].2+((los ps).drop (k+1)).sum) b.2+1-((los ps).drop (k+1)).sum by omega];refine eL λi l=>?_;have:=Pw.mp l;rw[O8 (by omega),Pd];exact P0 λv _=>by simp
  ·by_cases q:ps[k].1<=a/\a<=ps[k].2
   ·rw[O8 q]at ha
    obtain⟨w,d⟩:=List.exists_mem_of_ne_nil _ ha;obtain⟨w,d,_⟩:=Pp.mp d;obtain⟨v,m,_⟩:=Pp.mp d;have:=HS (by simp[e]) m;rw[tH]at this;unfold los at this⊢;rw[TL]at this;omega
   ·rw[O3 q]at ha;exact PF rfl ha
theorem K7(c:Nat):vB [] [] c=if(c:Int)=0 then[[]]else[]:=by
 cases c with
 |zero=>rfl
 |succ n=>rw[O3 (by omega)];rfl
theorem JQ{ps:List (Nat×Nat)}{r:List Nat}(a:ps.length=r.length)(c:Nat):((stB ps r c r.length).filter λb=>decide ((b.2:Int)=0)).map (·.1)=vB ps r c:=by
 rw[←vO a c r.length (O9 _),TC,←a,TC,a];generalize stB ps r c r.length=l
 induction l with
 |nil=>rfl
 |cons b l ih=>
  rw[Qp,VZ,←ih,K7];by_cases q:(b.2:Int)=0
  ·rw[O8 q,O8 (PH q)];simp
  ·rw[O3 q,O3 (by simp;omega)];rfl
theorem vN{r:List Nat}(c:Nat):∀k,k<=r.length->(stB ps r c k).length<=pr ((r.take k).map (·+1))
 |0,_=>O9 _
 |k+1,h=>by
  have e:r[k]?=on r[k]:=O0 (by omega);rw[mv e];refine Px (gm (n:=r[k]+1) λb _=>?_) (TX _ (vN c k (by omega)));unfold nxB;rw[OS,Pr,gl (show k<r.length by omega)];omega
theorem yW(ps:List (Nat×Nat))(r:List Nat)(c:Nat):∀k,∀b∈stB ps r c k,b.2<=c/\b.1.length=k
 |0,b,h=>by cases Qd.mp h;exact⟨O9 _,rfl⟩
 |k+1,b,h=>by
  obtain⟨d,hd,a⟩:=Rb.mp (show b∈(stB ps r c k).flatMap _ from h);obtain⟨i,_,rfl⟩:=Pp.mp a;obtain⟨q1,q2⟩:=yW ps r c k d hd;exact⟨by show d.2-_<=c;omega,by rw[Pn,q2];rfl⟩
theorem yK:∀{ps:List (Nat×Nat)} {r:List Nat},(tps ps r).sum<=r.sum
 |[],r=>QW _
 |_::_,[]=>O9 _
 |p::ps,x::r=>by
  have:=yK (ps:=ps) (r:=r);simp only[tps,PQ];omega
abbrev Wy:=Nat->List Nat->List (List Nat)
def WOk(cs:List Nat)(W:Wy):Prop:=∀k r,(W k r).Sublist (cm r (cs.getD k 0))
def nwI(W:Wy)(L:List (List Nat))(k:Nat):LI:=L.flatMap λr=>(W k r).map λv=>nI (less r v)
def nwL(W:Wy)(L:List (List Nat))(k:Nat):List (List Nat):=(kU (nwI W L k)).map λk=>k.map Int.toNat
section
variable{W:Wy}{cs rs:List Nat}
theorem jH:y∈nwI W L k↔∃r∈L,∃v∈W k r,y=nI (less r v):=by
 unfold nwI;constructor
 ·intro h
  obtain⟨r,a,h⟩:=Rb.mp h;obtain⟨v,b,rfl⟩:=Pp.mp h;exact⟨r,a,v,b,rfl⟩
 ·rintro⟨r,a,v,b,rfl⟩
  exact Rb.mpr ⟨r,a,Pp.mpr ⟨v,b,rfl⟩⟩
theorem xE(L:List (List Nat))(k:Nat):(nwL W L k).map nI=kU (nwI W L k):=by
 unfold nwL;rw[Pd];refine(P0 λy a=>?_).trans (V5 _);obtain⟨r,_,v,_,rfl⟩:=jH.mp (dY.mp a);show nI ((nI _).map Int.toNat)=_;rw[sO];rfl
theorem qy:u∈nwL W L k↔∃r∈L,∃v∈W k r,u=less r v:=by
 constructor
 ·intro h
  have:nI u∈kU (nwI W L k):=by rw[←xE];exact Pp.mpr ⟨u,h,rfl⟩
  obtain⟨r,a,v,b,e⟩:=jH.mp (dY.mp this);exact⟨r,a,v,b,jJ e⟩
 ·rintro⟨r,a,v,b,rfl⟩
  exact Pp.mpr ⟨nI (less r v),dY.mpr (jH.mpr ⟨r,a,v,b,rfl⟩),sO _⟩
def lvW(W:Wy)(rs:List Nat):Nat->List (List Nat)
 |0=>[rs]
 |k+1=>nwL W (lvW W rs k) k
theorem uD:∀k,(lvW W rs k).Nodup
 |0=>UU _ _
 |k+1=>zL (f:=nI) (by show(Rk nI (nwL _ _ _)).Nodup;rw[xE];exact HU (mn _))
theorem jK(b:WOk cs W)(hs:rs.sum=cs.sum):∀k,k<=cs.length->∀r∈lvW W rs k,LeN r rs/\r.sum=(cs.drop k).sum
 |0,_,r,h=>by cases Qd.mp h;exact⟨LeN.refl _,hs⟩
 |k+1,hk,u,h=>by
  obtain⟨r,c,v,a,rfl⟩:=qy.mp (show u∈nwL W (lvW W rs k) k from h);have a:=(b k r).subset a;obtain⟨q1,q2⟩:=jK b hs k (by omega) r c;have q3:=(iC a).2.1;rw[q2,ji (by omega),PQ]at q3;exact⟨(fF a).less.tr q1,by omega⟩
theorem Ks(a:WOk cs W)(hs:rs.sum=cs.sum)(b:k<=cs.length):(lvW W rs k).length<=pr (rs.dropLast.map (·+1)):=
 Px (lE (uD k) (m:=cm rs (cs.drop k).sum) λr c=>by
  obtain⟨d,e⟩:=jK a hs k b r c;rw[←e];exact nU d) (nA _ _)
theorem Kn(a:WOk cs W)(hs:rs.sum=cs.sum)(e:1<=rs.length)(f:pr (rs.dropLast.map (·+1))<63)(g:k<cs.length):jX ((nwI W (lvW W rs k) k).map tpI)=on (.lst ((lvW W rs (k+1)).map λr=>tpI (nI r))):=by
 refine(Lm (m:=(cm rs (cs.drop (k+1)).sum).map nI) ?_ (by rw[OS];exact Rw (nA _ _) f) ?_).trans ?_
 ·intro x b
  obtain⟨r,c,v,d,rfl⟩:=jH.mp b;rw[OS,((fF ((a k r).subset d)).less.tr (jK a hs k (by omega) r c).1).len];exact e
 ·intro x b
  obtain⟨r,c,v,d,rfl⟩:=jH.mp b;obtain⟨q1,q2⟩:=jK a hs (k+1) g (less r v) (qy.mpr ⟨r,c,v,d,rfl⟩);exact Pp.mpr ⟨less r v,by rw[←q2];exact nU q1,rfl⟩
 ·rw[←xE,Pd];rfl
def kyW(W:Wy)(rs:List Nat)(n:Nat):List (Int×List Int):=(O6 n).flatMap λk=>(lvW W rs k).map λr=>((k:Int),nI r)
theorem z7:∀n,(kyW W rs n).Nodup
 |0=>List.nodup_nil
 |n+1=>by
  unfold kyW;rw[Sj,Rf,Qp,US,PN];refine VT.mpr ⟨z7 n,zM (λr s e=>jJ (U5.mp e).2) (uD n),λx a y b e=>?_⟩;subst e;obtain⟨k,c,h⟩:=Rb.mp a;obtain⟨r,_,rfl⟩:=Pp.mp h;obtain⟨s,_,e⟩:=Pp.mp b;have:=(U5.mp e).1;have d:=Pw.mp c;simp only at this;omega
def tbW(W:Wy):Nat->Nat->List Nat->Nat
 |0,_,_=>1
 |j+1,k,r=>sm (W k r) λv=>tbW W j (k+1) (less r v)
def dlW(W:Wy):Nat->Nat->List Nat->Nat
 |0,_,_=>1
 |j+1,k,r=>sm (W k r) λv=>mu v*dlW W j (k+1) (less r v)
theorem oM{α:Type}{f g:α->Nat}{l m:List α}(h:l.Sublist m)(q:∀a∈m,f a<=g a):sm l f<=sm m g:=by
 induction h with
 |slnil=>exact O9 _
 |cons a _ ih=>rw[bX];exact Px (ih λx b=>q x (OY _ b)) (Nat.le_add_left _ _)
 |cons_cons a _ ih=>rw[bX,bX];exact WJ (q a O5) (ih λx b=>q x (OY _ b))
theorem AW(a:WOk cs W):∀(j k:Nat) (r:List Nat),k+j=cs.length->dlW W j k r<=dls r (cs.drop k)
 |0,k,r,h=>by rw[show k=cs.length by omega,TC];exact O9 _
 |j+1,k,r,h=>by
  rw[ji (by omega)];exact oM (a k r) λv _=>Nat.mul_le_mul_left _ (AW a j (k+1) (less r v) (by omega))
end
noncomputable def box:List (Nat×Nat)->List Nat->List (List Nat)
 |p::ps,x::r=>(O6 (Sz p.2 x+1-p.1)).flatMap λi=>(box ps r).map ((p.1+i)::·)
 |_,_=>[[]]
theorem BK:∀{ps:List (Nat×Nat)} {r:List Nat} {c:Nat},ps.length=r.length->(box ps r).filter (λv=>decide (v.sum=c))=vB ps r c
 |[],[],c,_=>by cases c<;>rfl
 |p::ps,x::r,c,h=>by
  have h':ps.length=r.length:=by simpa using h
  rw[qi,lS (lo:=p.1) (n:=Sz (Sz x c+1) (Sz p.2 x+1)) (N:=Sz x c+1) (λa d ha=>?_) (Nat.min_le_left _ _)]
  ·show((O6 (Sz p.2 x+1-p.1)).flatMap λi=>(box ps r).map ((p.1+i)::·)).filter _=_
   rw[XZ];have e:∀i,List.filter (λv=>decide (v.sum=c)) ((box ps r).map ((p.1+i)::·))=if p.1+i<=c then(vB ps r (c-(p.1+i))).map ((p.1+i)::·)else[]:=λi=>by
    rw[Wf];by_cases q:p.1+i<=c
    ·rw[O8 q,←BK h']
     refine Qr (Rk _) (YO λv _=>?_);show decide (((p.1+i)::v).sum=c)=_;rw[PQ];exact decide_eq_decide.mpr (by omega)
    ·rw[O3 q,Xc.mpr,Q0]
     intro v _ z;have z:decide (((p.1+i)::v).sum=c)=OV:=z;rw[PQ,P3]at z;omega
   rw[eL λi _=>e i];rw[lS (f:=λi=>if p.1+i<=c then(vB ps r (c-(p.1+i))).map ((p.1+i)::·)else[]) (lo:=0) (n:=Sz (Sz x c+1) (Sz p.2 x+1)-p.1) (N:=Sz p.2 x+1-p.1) (λa ha q=>⟨QW _,?_⟩) (by omega),Nat.sub_zero]
   ·refine eL λi b=>?_
    have:=Pw.mp b;rw[Rz,O8 (by omega),O8 (by omega)]
   ·by_cases z:p.1+a<=c
    ·omega
    ·rw[O3 z]at q;exact PF rfl q
  ·by_cases q:p.1<=a/\a<=p.2
   ·omega
   ·rw[O3 q]at ha;exact PF rfl ha
noncomputable def gro(ps:List (Nat×Nat))(r:List Nat):Nat->List (List Nat)
 |0=>[[]]
 |k+1=>(gro ps r k).flatMap λu=>(O6 (Sz (ps.getD k (0,0)).2 (r.getD k 0)+1-(ps.getD k (0,0)).1)).map λi=>u++[(ps.getD k (0,0)).1+i]
theorem wH{ps:List (Nat×Nat)}{r:List Nat}(c:ps.length=r.length):∀k,k<=r.length->((gro ps r k).flatMap λu=>(box (ps.drop k) (r.drop k)).map (u++·))=box ps r
 |0,_=>by simp[gro]
 |k+1,h=>by
  rw[←wH c k (by omega)];show((gro ps r k).flatMap _).flatMap _=_;rw[pP];refine eL λu _=>?_;have a:k<r.length:=by omega
  have b:k<ps.length:=by omega
  rw[QB a,QB b,gl a,gl b];show _=((O6 (Sz ps[k].2 r[k]+1-ps[k].1)).flatMap λi=>(box (ps.drop (k+1)) (r.drop (k+1))).map ((ps[k].1+i)::·)).map (u++·);rw[Ra,UR];refine eL λi _=>?_;rw[Pd];exact P0 λv _=>by simp
theorem wG{ps:List (Nat×Nat)}{r:List Nat}(a:ps.length=r.length):gro ps r r.length=box ps r:=by
 rw[←wH a r.length (O9 _),TC,←a,TC];show _=(gro ps r ps.length).flatMap λu=>[u++[]];generalize gro ps r ps.length=l
 induction l with
 |nil=>rfl
 |cons x l ih=>rw[Qp,←ih,PN];rfl
theorem wF{r:List Nat}:∀k,k<=r.length->(gro ps r k).length<=pr ((r.take k).map (·+1))
 |0,_=>O9 _
 |k+1,h=>by
  have e:r[k]?=on r[k]:=O0 (by omega);rw[mv e];refine Px (gm (n:=r[k]+1) λb _=>?_) (TX _ (wF k (by omega)));rw[OS,Pr,gl (show k<r.length by omega)];omega
theorem AK:∀k,∀u∈gro ps r k,u.length=k
 |0,b,h=>by cases Qd.mp h;rfl
 |k+1,b,h=>by
  obtain⟨d,hd,a⟩:=Rb.mp (show b∈(gro ps r k).flatMap _ from h);obtain⟨i,_,rfl⟩:=Pp.mp a;rw[Pn,AK k d hd];rfl
def lst(W:Wy)(rs:List Nat):Nat->List (List (List Nat)×List Nat)
 |0=>[([],rs)]
 |k+1=>(lst W rs k).flatMap λq=>(W k q.2).map λv=>(q.1++[v],less q.2 v)
section
variable{W:Wy}{rs cs:List Nat}
theorem zR(m:Nat):∀k,k<=m->(sm (lst W rs k) λq=>tbW W (m-k) k q.2)=tbW W m 0 rs
 |0,_=>by show tbW W (m-0) 0 rs+0=_;rfl
 |k+1,h=>by
  rw[←zR m k (by omega)];show sm ((lst W rs k).flatMap _) _=_;rw[mq];refine di λq _=>?_;rw[oO,show m-k=m-(k+1)+1 by omega];rfl
theorem tR{α:Type}:∀l:List α,(sm l λ_=>1)=l.length
 |[]=>rfl
 |x::l=>by rw[bX,tR l,Pg,Xk]
theorem Ku(m:Nat):(lst W rs m).length=tbW W m 0 rs:=by
 rw[←zR m m (O9 _),RM];exact(tR _).symm
theorem zP(r:List Nat):0<mu r:=Nat.pos_of_ne_zero λz=>by
 have:=iP r;rw[z,Xn]at this;have:=mP r.sum;omega
theorem uE(b:WOk cs W)(hs:rs.sum=cs.sum):∀k,k<=cs.length->∀q∈lst W rs k,LeN q.2 rs/\q.2.sum=(cs.drop k).sum/\q.1.length=k
 |0,_,q,h=>by cases Qd.mp h;exact⟨LeN.refl _,hs,rfl⟩
 |k+1,hk,u,h=>by
  obtain⟨q,c,d⟩:=Rb.mp (show u∈(lst W rs k).flatMap _ from h);obtain⟨v,a,rfl⟩:=Pp.mp d;have a:=(b k q.2).subset a;obtain⟨q1,q2,q3⟩:=uE b hs k (by omega) q c;have q4:=(iC a).2.1;rw[q2,ji (by omega),PQ]at q4;exact⟨(fF a).less.tr q1,by show(less q.2 v).sum=_;omega,by rw[Pn,q3];rfl⟩
theorem zS(a:WOk cs W):∀k,k<=cs.length->(sm (lst W rs k) λq=>dls q.2 (cs.drop k))<=dls rs cs
 |0,_=>O9 _
 |k+1,h=>by
  refine Px ?_ (zS a k (by omega));show sm ((lst W rs k).flatMap _) _<=_;rw[mq];refine oM (Vh _) λq _=>?_;rw[oO,ji (k:=k) (by omega)];exact oM (a k q.2) λv _=>Nat.le_mul_of_pos_left _ (zP v)
theorem Kt(a:WOk cs W)(hs:rs.sum=cs.sum)(b:k<=cs.length):(lst W rs k).length<=mu rs:=by
 rw[←pT cs rs hs,←tR];refine Px (oM (Vh _) λq c=>?_) (zS a k b);rw[pT _ _ (uE a hs k b q c).2.1];exact zP _
end
end L2.Nt
namespace Law
open PySem L2 L2.Pu
open L2.Hs (uq AA j7)
noncomputable def top(i:Nat):QF:=PySem.Challenge.pw_edgetally_k23_nets_alike.main.body.getD i (.Pass ⟨0,0,0,0⟩)
abbrev zd:QF:=top 13
abbrev k6:QF:=top 14
abbrev k7:QF:=top 15
abbrev iF:QF:=top 16
abbrev nc:QF:=top 18
abbrev za:QF:=top 19
abbrev oV:QF:=top 20
abbrev rn:QF:=top 22
abbrev kH:QF:=top 23
abbrev kI:QF:=top 24
abbrev rm:QF:=top 25
abbrev m7:QF:=top 26
abbrev rq:QF:=top 27
abbrev ng:QF:=top 28
abbrev k4:QF:=top 31
abbrev hX:QF:=top 32
abbrev hZ:QF:=top 33
abbrev jC:QF:=top 34
abbrev iG:QF:=top 35
abbrev kJ:QF:=top 36
abbrev iZ:QF:=top 37
abbrev kZ:QF:=top 38
abbrev vW:QF:=top 41
abbrev t8:QF:=top 42
abbrev tZ:QF:=top 43
abbrev ub:QF:=top 44
abbrev rp:QF:=top 45
abbrev oR:QF:=top 46
abbrev m8:QF:=top 47
abbrev jD:QF:=top 48
abbrev uc:QF:=top 49
abbrev oU:QF:=top 50
abbrev oS:QF:=top 51
abbrev vV:QF:=top 52
abbrev ua:QF:=top 53
abbrev m9:QF:=top 54
abbrev vX:QF:=top 55
abbrev vU:QF:=top 56
abbrev jE:QF:=aB (top 39) 0
abbrev k9:QF:=aB (top 39) 1
abbrev k8:QF:=aB (top 39) 7
abbrev i5:QF:=aB (top 39) 6
abbrev nh:QF:=aB (top 39) 10
abbrev mt:QF:=top 57
abbrev kP:QF:=aB (top 2) 0
abbrev oJ:QF:=aB (top 3) 0
abbrev kR:QF:=aB (top 4) 0
abbrev kQ:QF:=aB (top 7) 0
set_option genSizeOf false in
set_option genInjectivity false in
structure Ad where
 Aa:OZ
 Ab:OZ
 Ac:PL
 Ae:OZ
 Af:OZ
 Ag:PL
 Ah:OZ
 Ai:OZ
 Aj:PL
 Ak:OZ
 Al:OZ
 Am:PL
 An:OZ
 Ao:OZ
 Aq:PL
 Ar:OZ
 As:PL
 At:OZ
 Au:PL
 Av:OZ
 Aw:PL
 Ax:OZ
 Ay:PL
 Az:OZ
 A0:PL
 A1:OZ
 A2:PL
 A3:OZ
 A4:PL
 A5:OZ
 A6:PL
 A7:OZ
 A8:PL
 A9:OZ
 Ba:PL
 Bb:OZ
 Bc:PL
 Bd:OZ
 Be:PL
 Bf:OZ
 Bh:PL
 Bi:OZ
 Bj:PL
 Bk:OZ
 Bl:PL
 Bm:OZ
 Bn:PL
 Bo:OZ
 Bp:PL
 Bq:OZ
 Br:PL
 Bs:OZ
 Bt:PL
 Bu:OZ
 Bv:PL
 Bw:OZ
 Bx:PL
 By:OZ
 Bz:PL
 B3:OZ
 B4:PL
 B5:OZ
 B7:PL
 B8:OZ
 Ca:PL
 Cb:OZ
 Cc:PL
 Cd:OZ
 Cf:PL
 Cg:OZ
 Ch:PL
 Ci:OZ
 Cj:PL
 Ck:OZ
 Cl:PL
 Cm:OZ
 Cn:PL
 Co:OZ
 Cp:PL
 Cq:OZ
 Cr:PL
 Cs:OZ
 Ct:PL
 Cu:OZ
 Cv:PL
 Cw:OZ
 Cy:PL
 Cz:OZ
 C0:PL
 C3:OZ
 C4:PL
 C5:OZ
 C6:PL
 C7:OZ
 C8:PL
 C9:OZ
 Da:PL
 Db:OZ
 Dd:PL
 Df:OZ
 Dg:PL
structure Fns (K:Po) (mg:PY->Option OX) (a:Ad):Prop where
 Dh:mg "ValueError"=OR
 Di:mg "abs"=OR
 Dj:mg "any"=OR
 Dl:mg "bool"=OR
 Dm:mg "enumerate"=OR
 Do:mg "int"=OR
 Dp:mg "isinstance"=OR
 Dq:mg "len"=OR
 Dr:mg "list"=OR
 Dt:mg "max"=OR
 Du:mg "min"=OR
 Dv:mg "range"=OR
 Dw:mg "reversed"=OR
 Dx:mg "sorted"=OR
 Dy:mg "str"=OR
 Dz:mg "sum"=OR
 D0:mg "tuple"=OR
 D3:mg "zip"=OR
 D4:m6 K mg "MOST" (.int 40)
 D5:m6 K mg "MOST_COLUMNS" (.int 6)
 D6:m6 K mg "MOST_ROWS" (.int 4)
 D7:m6 K mg "WIDE" (.int 500)
 D8:FunD K "free" "free" zd a.Ao a.Aq
 D9:mg "free"=on (.ref a.Ao)
 Ea:fq K a.Aq ["rows","columns","pair"] [.tup [.int 0,.int 40]]
 Eb:FunD K "check_sums" "check_sums" k6 a.Ar a.As
 Ec:mg "check_sums"=on (.ref a.Ar)
 Ed:aA K a.As ["rowsums","columnsums"] []
 Ee:FunD K "check_pair" "check_pair" k7 a.At a.Au
 Ef:mg "check_pair"=on (.ref a.At)
 Eg:aA K a.Au ["pair"] []
 Eh:FunD K "settled_bounds" "settled_bounds" iF a.Av a.Aw
 Ei:mg "settled_bounds"=on (.ref a.Av)
 Ej:aA K a.Aw ["bounds","rows","columns"] []
 Ek:FunD K "factorial" "factorial" nc a.Ax a.Ay
 El:mg "factorial"=on (.ref a.Ax)
 Em:aA K a.Ay ["number"] []
 En:FunD K "ways" "ways" za a.Az a.A0
 Eo:mg "ways"=on (.ref a.Az)
 Ep:aA K a.A0 ["parts"] []
 Er:FunD K "fillings" "fillings" oV a.A1 a.A2
 Es:mg "fillings"=on (.ref a.A1)
 Et:aA K a.A2 ["rests","many","pairs"] []
 Eu:FunD K "need_of" "need_of" rn a.A3 a.A4
 Ev:mg "need_of"=on (.ref a.A3)
 Ew:aA K a.A4 ["rowsums","over"] []
 Ex:FunD K "room_inside" "room_inside" kH a.A5 a.A6
 Ey:mg "room_inside"=on (.ref a.A5)
 Ez:aA K a.A6 ["columnsums","bounds","over","column"] []
 E2:FunD K "room_beside" "room_beside" kI a.A7 a.A8
 E3:mg "room_beside"=on (.ref a.A7)
 E4:aA K a.A8 ["bounds","over","column"] []
 E5:FunD K "room_of" "room_of" rm a.A9 a.Ba
 E6:mg "room_of"=on (.ref a.A9)
 E7:aA K a.Ba ["columnsums","bounds","over","into"] []
 E8:FunD K "narrowest" "narrowest" m7 a.Bb a.Bc
 E9:mg "narrowest"=on (.ref a.Bb)
 Fa:aA K a.Bc ["columnsums","bounds","over"] []
 Fb:FunD K "choices" "choices" rq a.Bd a.Be
 Fc:mg "choices"=on (.ref a.Bd)
 Fd:aA K a.Be ["many"] []
 Fe:FunD K "check_fit" "check_fit" ng a.Bf a.Bh
 Ff:mg "check_fit"=on (.ref a.Bf)
 Fg:aA K a.Bh ["rowsums","columnsums","bounds"] []
 Fh:FunD K "check_wide" "check_wide" k4 a.Bi a.Bj
 Fi:mg "check_wide"=on (.ref a.Bi)
 Fj:aA K a.Bj ["rowsums"] []
 Fk:FunD K "settled_for_net" "settled_for_net" hX a.Bk a.Bl
 Fl:mg "settled_for_net"=on (.ref a.Bk)
 Fm:aA K a.Bl ["rowsums","columnsums","bounds"] []
 Fn:FunD K "column_fillings" "column_fillings" hZ a.Bm a.Bn
 Fo:mg "column_fillings"=on (.ref a.Bm)
 Fp:aA K a.Bn ["rests","columnsums","bounds","column"] []
 Fq:FunD K "rests_behind" "rests_behind" jC a.Bo a.Bp
 Fs:mg "rests_behind"=on (.ref a.Bo)
 Ft:aA K a.Bp ["rests","counts"] []
 Fu:FunD K "nodes_by_level" "nodes_by_level" iG a.Bq a.Br
 Fw:mg "nodes_by_level"=on (.ref a.Bq)
 Fy:aA K a.Br ["rowsums","columnsums","bounds"] []
 Fz:FunD K "node_counts" "node_counts" kJ a.Bs a.Bt
 F4:mg "node_counts"=on (.ref a.Bs)
 F5:aA K a.Bt ["rests","filled","behind"] []
 F6:FunD K "counted_nodes" "counted_nodes" iZ a.Bu a.Bv
 F7:mg "counted_nodes"=on (.ref a.Bu)
 F8:aA K a.Bv ["rowsums","columnsums","bounds"] []
 F9:FunD K "paper_rows" "paper_rows" kZ a.Bw a.Bx
 Ga:mg "paper_rows"=on (.ref a.Bw)
 Gb:aA K a.Bx ["counted"] []
 Gc:FunD K "_law_bag" "_law_bag" vW a.By a.Bz
 Gd:mg "_law_bag"=on (.ref a.By)
 Ge:aA K a.Bz ["_law_script"] []
 Gf:FunD K "_law_pull" "_law_pull" t8 a.B3 a.B4
 Gg:mg "_law_pull"=on (.ref a.B3)
 Gi:aA K a.B4 ["_law_bag_here","_law_lot"] []
 Gj:FunD K "_law_same" "_law_same" tZ a.B5 a.B7
 Gk:mg "_law_same"=on (.ref a.B5)
 Gm:aA K a.B7 ["_law_found","_law_due"] []
 Gn:FunD K "_law_grid" "_law_grid" ub a.B8 a.Ca
 Go:mg "_law_grid"=on (.ref a.B8)
 Gp:aA K a.Ca ["_law_bag_here","_law_block","_law_columns","_law_things"] []
 Gq:FunD K "_law_small" "_law_small" rp a.Cb a.Cc
 Gr:mg "_law_small"=on (.ref a.Cb)
 Gs:aA K a.Cc ["_law_bag_here"] []
 Gu:FunD K "_law_turned" "_law_turned" oR a.Cd a.Cf
 Gv:mg "_law_turned"=on (.ref a.Cd)
 Gx:aA K a.Cf ["_law_block"] []
 Gy:FunD K "_law_rowsums" "_law_rowsums" m8 a.Cg a.Ch
 Gz:mg "_law_rowsums"=on (.ref a.Cg)
 G0:aA K a.Ch ["_law_grid_here"] []
 G1:FunD K "_law_columnsums" "_law_columnsums" jD a.Ci a.Cj
 G2:mg "_law_columnsums"=on (.ref a.Ci)
 G3:aA K a.Cj ["_law_grid_here"] []
 G4:FunD K "_law_free" "_law_free" uc a.Ck a.Cl
 G5:mg "_law_free"=on (.ref a.Ck)
 G6:aA K a.Cl ["_law_block","_law_columns"] []
 G7:FunD K "_law_bounds" "_law_bounds" oU a.Cm a.Cn
 G8:mg "_law_bounds"=on (.ref a.Cm)
 G9:aA K a.Cn ["_law_bag_here","_law_grid_here"] []
 Ha:FunD K "_law_copied" "_law_copied" oS a.Co a.Cp
 Hb:mg "_law_copied"=on (.ref a.Co)
 Hc:aA K a.Cp ["_law_block"] []
 Hd:FunD K "_law_fit" "_law_fit" vV a.Cq a.Cr
 He:mg "_law_fit"=on (.ref a.Cq)
 Hf:aA K a.Cr ["_law_rests","_law_lot","_law_pairs"] []
 Hg:FunD K "_law_less" "_law_less" ua a.Cs a.Ct
 Hh:mg "_law_less"=on (.ref a.Cs)
 Hi:aA K a.Ct ["_law_rests","_law_column"] []
 Hj:FunD K "_law_listing" "_law_listing" m9 a.Cu a.Cv
 Hk:mg "_law_listing"=on (.ref a.Cu)
 Hl:aA K a.Cv ["_law_rowsums_here","_law_columnsums_here","_law_limits"] []
 Hm:FunD K "_law_all" "_law_all" vX a.Cw a.Cy
 Hn:mg "_law_all"=on (.ref a.Cw)
 Ho:aA K a.Cy ["_law_grid_here","_law_limits"] []
 Hq:FunD K "_law_net" "_law_net" vU a.Cz a.C0
 Hr:mg "_law_net"=on (.ref a.Cz)
 Ht:aA K a.C0 ["_law_grid_here","_law_limits"] []
 Hu:FunD K "__init__" "Net.__init__" jE a.C3 a.C4
 Hv:Mk K a.An a.C3
 Hw:KwOk K a.C4 ["self","rowsums","columnsums","bounds"] ["bounds"] 3 [.kw 0]
 Hx:fq K a.C4 ["self","rowsums","columnsums","bounds"] [.non]
 Hy:FunD K "__eq__" "Net.__eq__" k9 a.C5 a.C6
 Hz:Meth K a.An "__eq__" a.C5
 Ia:aA K a.C6 ["self","other"] []
 Ib:FunD K "tables" "Net.tables" k8 a.C7 a.C8
 Id:Meth K a.An "tables" a.C7
 Ie:aA K a.C8 ["self"] []
 Ig:FunD K "counts_at" "Net.counts_at" i5 a.C9 a.Da
 Ih:Meth K a.An "counts_at" a.C9
 Ii:aA K a.Da ["self","level","rests"] []
 Ij:FunD K "paper" "Net.paper" nh a.Db a.Dd
 Ik:Meth K a.An "paper" a.Db
 Il:aA K a.Dd ["self"] []
 Im:Cls K a.An
 Io:mg "Net"=on (.ref a.An)
 Ip:IsC K a.An
 Iq:subIn K (.type "list") (.ref a.An)=on OW
 Ir:dQ K a.An "column_list"
 Iu:dQ K a.An "counted"
 Iw:dQ K a.An "pairs"
 Ix:dQ K a.An "row_list"
 Iy:FunD K "__init__" "EdgeError.__init__" kP a.Ab a.Ac
 Iz:aA K a.Ac ["self","word","why"] []
 I0:mg "EdgeError"=on (.ref a.Aa)
 I9:FunD K "__init__" "BadSums.__init__" oJ a.Af a.Ag
 Ja:aA K a.Ag ["self","why"] []
 Jb:mg "BadSums"=on (.ref a.Ae)
 Jc:XMk K a.Ae a.Af
 Jd:RA K (.ref a.Ae) "word"=on OR
 Je:FunD K "__init__" "BadBounds.__init__" kR a.Ai a.Aj
 Jf:aA K a.Aj ["self","why"] []
 Jg:mg "BadBounds"=on (.ref a.Ah)
 Jh:XMk K a.Ah a.Ai
 Ji:RA K (.ref a.Ah) "word"=on OR
 Jj:FunD K "__init__" "BadNumber.__init__" kQ a.Al a.Am
 Jk:aA K a.Am ["self","why"] []
 Jl:mg "BadNumber"=on (.ref a.Ak)
 Jm:XMk K a.Ak a.Al
 Jn:RA K (.ref a.Ak) "word"=on OR
 Jo:ClsFn K a.Aa "__init__" a.Ab
section
variable(P:Pt)(w:PV){K:Po}{mg:PY->Option OX}(base:P7){a:Ad}
def Ln(K:Po):Sp:=λvs H Q _=>∃(x C:OZ) (wd y:V),vs=[.ref x,wd,y]/\H x=on (dN C x OR)/\XC K C/\RA K (.ref C) "word"=on OR/\∀(d:OZ) (c:Hp),c x=on (dN C x (on d))->(∀b o,H b=on o->b≠x->c b=on o)->Q .non c
theorem sf:FnScope ["self","word","why"] ["self","word","why"] (af kP):=fsc
theorem qx(N:Fns K mg a):FnOk P w K mg base (CXE P w) 1 a.Ab a.Ac ["self","word","why"] (Ln K):=by
 refine N.Iy.ok sf (λvs H Q E h=>?_) (λj A outer s H vs Q E n h=>?_)
 ·obtain⟨x,C,wd,y,rfl,_⟩:=h
  rfl
 ·obtain⟨x,C,wd,y,rfl,l,c,m,k⟩:=h
  refine⟨_,cA (c9 (DA rfl N.Dh (bt (pv 0) (bt (pv 2) d7)))) (fK (CU (pv 0) (pv 1) rfl)),?_⟩;refine⟨_,rfl,_,rfl,x,C,OR,_,rfl,(by show 1<=Pe;decide),l,c,?_⟩;refine⟨_,rfl,_,rfl,x,C,rfl,ah,c,m,λd hd f=>?_⟩;refine k d _ ah λb o e i=>?_;have g:H d=OR:=by rw[upd_ne f]at hd;exact hd
  rw[upd_ne i,upd_ne (ne_of_none e g),upd_ne i];exact e
theorem vo:FnScope ["self","why"] ["self","why"] (af oJ):=fsc
theorem vt(N:Fns K mg a):FnOk P w K mg base (CXE P w) 2 a.Af a.Ag ["self","why"] (sH a.Ae 1):=by
 have c:=qx P w base N;refine N.I9.ok vo (λvs H Q E h=>?_) (λe A outer s H vs Q E f h=>?_)
 ·obtain⟨x,rest,rfl,b,_⟩:=h
  show rest.length+1=2;rw[b]
 ·obtain⟨x,rest,rfl,b,g,k⟩:=h
  obtain⟨y,rfl⟩:∃y,rest=[y]:=Tq.mp b;refine⟨_,fK (c9 (j5 N.Jo c f rfl N.I0 N.Iz .nil dW (bt (pv 0) (bt o8 (bt (pv 1) d7))))),?_⟩;exact⟨_,rfl,_,rfl,x,a.Ae,_,y,rfl,g,N.Jc.xc,N.Jd,λd i j l=>k _ i j l⟩
theorem sk:FnScope ["self","why"] ["self","why"] (af kR):=fsc
theorem kK(N:Fns K mg a):FnOk P w K mg base (CXE P w) 2 a.Ai a.Aj ["self","why"] (sH a.Ah 1):=by
 have c:=qx P w base N;refine N.Je.ok sk (λvs H Q E h=>?_) (λe A outer s H vs Q E f h=>?_)
 ·obtain⟨x,rest,rfl,b,_⟩:=h
  show rest.length+1=2;rw[b]
 ·obtain⟨x,rest,rfl,b,g,k⟩:=h
  obtain⟨y,rfl⟩:∃y,rest=[y]:=Tq.mp b;refine⟨_,fK (c9 (j5 N.Jo c f rfl N.I0 N.Iz .nil dW (bt (pv 0) (bt o8 (bt (pv 1) d7))))),?_⟩;exact⟨_,rfl,_,rfl,x,a.Ah,_,y,rfl,g,N.Jh.xc,N.Ji,λd i j l=>k _ i j l⟩
theorem sj:FnScope ["self","why"] ["self","why"] (af kQ):=fsc
theorem sB(N:Fns K mg a):FnOk P w K mg base (CXE P w) 2 a.Al a.Am ["self","why"] (sH a.Ak 1):=by
 have c:=qx P w base N;refine N.Jj.ok sj (λvs H Q E h=>?_) (λe A outer s H vs Q E f h=>?_)
 ·obtain⟨x,rest,rfl,b,_⟩:=h
  show rest.length+1=2;rw[b]
 ·obtain⟨x,rest,rfl,b,g,k⟩:=h
  obtain⟨y,rfl⟩:∃y,rest=[y]:=Tq.mp b;refine⟨_,fK (c9 (j5 N.Jo c f rfl N.I0 N.Iz .nil dW (bt (pv 0) (bt o8 (bt (pv 1) d7))))),?_⟩;exact⟨_,rfl,_,rfl,x,a.Ak,_,y,rfl,g,N.Jm.xc,N.Jn,λd i j l=>k _ i j l⟩
theorem iX:FnScope ["_law_bag_here","_law_lot","_law_cells","_law_at","_law_cell"] ["_law_bag_here","_law_lot"] (af t8):=fsc
theorem zC(N:Fns K mg a):FnOk P w K mg base (CXE P w) 2 a.B3 a.B4 ["_law_bag_here","_law_lot"] (spF K 2 kg):=by
 refine N.Gf.ok (k:=1) iX (λvs H Q E h=>h.1) (λY A outer s H vs Q E hr h=>?_);obtain⟨_,F,ds,β,fr,hd,r,Z,e,k⟩:=h;obtain⟨lot,rfl,ok,I,h1,rfl,rfl⟩:=zQ e;obtain⟨v,w',rfl,d1,d2⟩:=DenL.two hd;unfold Den at d1;obtain⟨b,l,d,rfl⟩:=d1;cases d2.int;obtain⟨t,J⟩:=fr.bag b l d;obtain⟨ab,al,m⟩:=fr.bgA b l d;obtain⟨W,L,hc0,X⟩:=ok.at;obtain⟨_,_,hcp,_⟩:=v5 ok I;have len:((β.cells.map V.int).length:Int)=(β.cells.length:Int):=by rw[OS]
 have O:atI (β.cells.map V.int) (β.pos:Int)=on (.int β.cell):=K3 (by rw[O4,L];rfl);refine⟨_,cA (o6 (i:=2) iX.nd rfl (RB rfl) (gr dR (pv 0) bL (λ_ _=>rfl)))
  (cA (o6 (i:=3) iX.nd rfl (RB rfl) (dH lD (gr dR (pv 0) bL (λ_ _=>rfl)) (j6 lY (by rfl) N.Dq PySem.boot_len (bt (pv 2) d7))))
  (cA (o6 (i:=4) iX.nd rfl (RB rfl) (gr dR (pv 2) (pv 3) (λ_ _=>rfl)))
  (cA (II (v6 Og (pv 4) (dH L6 bL bL) (pi _))
   (cA (gB (dH wf (pv 4) (pv 1)) (jG (pv 2) (pv 3) gf)) (fK (ay (dH lD (pv 4) (pv 1))))) qu)
  (cA (gB (dH pf (gr dR (pv 0) bL (λ_ _=>rfl)) bL) (jG (pv 0) bL gf))
  (cA (gB (dH lD (dH L8 (dH pf (dH pf (gr dR (pv 0) bL (λ_ _=>rfl)) (dH lD (pv 4) bL)) bL) bL) bL) (jG (pv 0) bL gf))
  (fK (ay (dH lD (dH wf (gr dR (pv 0) bL (λ_ _=>rfl)) bL) (pv 1))))))))),?_⟩
 refine⟨_,rfl,b,_,_,_,rfl,rfl,SqL.of t,rfl,?_⟩;refine⟨_,rfl,b,_,_,_,rfl,rfl,SqL.of t,rfl,_,rfl,l,_,rfl,.inl (SqL.of J),_,_,rfl,rfl,?_,?_⟩
 ·have:=W
  rw[len];omega
 refine⟨_,rfl,_,rfl,l,_,_,_,rfl,rfl,SqL.of J,by rw[len,X];exact O,?_⟩;refine⟨_,rfl,_,_,rfl,rfl,⟨by decide,by decide,by decide⟩,_,_,rfl,rfl,_,rfl,?_⟩;have occ:∀{R:Hp} {p:OZ} {o:HO},(∀c,F.A c->R c≠OR)->∀c,F.A c->upd R p o c≠OR:=λ{R p o} f c u z=>by
  by_cases q:c=p
  ·subst q;rw[ah]at z;cases z
  ·rw[upd_ne q]at z;exact f c u z
 refine ite2 (λg=>?_) (λg=>?_)
 ·have big:(10:Int)^18<=β.cell:=Ut g
  refine⟨_,rfl,_,rfl,_,_,rfl,rfl,⟨I,h1⟩,_,rfl,_,rfl,l,_,_,β.pos,rfl,rfl,J,?_,?_⟩
  ·rw[len,X,OS]
   exact KD W
  refine⟨_,rfl,_,rfl,_,_,rfl,rfl,I,?_⟩;have T:i8 β lot=β.cell % lot:=O8 big;have U:j4 β lot=⟨β.cells.set β.pos (β.cell/lot),β.i,β.j⟩:=O8 big;rw[T,U]at k;refine k _ _ ⟨λc o u n=>by rw[upd_ne (n b l d).2];exact u,occ fr.occ,fr.bgA,λb' l' y=>?_⟩ rfl;rw[d]at y;cases y;exact⟨by rw[upd_ne m];exact t,by rw[ah,Ua]⟩
 ·have big:¬(10:Int)^18<=β.cell:=λq=>g (PH q)
  refine⟨_,rfl,b,_,_,_,rfl,rfl,SqL.of t,rfl,_,_,rfl,rfl,_,rfl,b,_,_,1,rfl,rfl,t,rfl,?_⟩;have B:(upd H b (.lst [.ref l,.int (β.i+1),.int β.j])) b=on (.lst [.ref l,.int (β.i+1),.int β.j]):=ah;refine⟨_,rfl,b,_,_,_,rfl,rfl,SqL.of B,rfl,_,rfl,_,_,rfl,rfl,(by show(0:Int)<2147483629;decide),_,_,rfl,rfl,_,_,rfl,rfl,_,_,rfl,rfl,.inr ⟨by decide,by decide⟩,_,_,rfl,rfl,(by show(0:Int)<2147483629;decide),_,rfl,b,_,_,2,rfl,rfl,B,rfl,?_⟩;have C:(upd (upd H b (.lst [.ref l,.int (β.i+1),.int β.j])) b (.lst [.ref l,.int (β.i+1),.int β.nxt])) b=on (.lst [.ref l,.int (β.i+1),.int β.nxt]):=ah;refine⟨_,rfl,b,_,_,_,rfl,rfl,SqL.of C,rfl,_,_,rfl,rfl,⟨by decide,by decide⟩,_,rfl,_,_,rfl,rfl,I,?_⟩;have T:i8 β lot=β.nxt/64 % lot:=O3 big;have U:j4 β lot=⟨β.cells,β.i+1,β.nxt⟩:=O3 big;rw[T,U]at k;refine k _ _ ⟨λc o u n=>by rw[upd_ne (n b l d).1,upd_ne (n b l d).1];exact u,occ (occ fr.occ),fr.bgA,λb' l' y=>?_⟩ rfl;rw[d]at y;cases y;exact⟨C,by rw[upd_ne m.symm,upd_ne m.symm];exact J⟩
theorem CM:FnScope ["_law_script"] ["_law_script"] (af vW):=fsc
theorem nd1:(["_law_cell"]:List PY).Nodup:=by decide +kernel
theorem DH(N:Fns K mg a):FnOk P w K mg base (CXE P w) 1 a.By a.Bz ["_law_script"] (N6 K):=by
 refine N.Gc.ok CM (λvs H Q E h=>?_) (λX A outer s H vs Q E hr h=>?_)
 ·obtain⟨a,ns,rfl,_⟩:=h
  rfl
 ·obtain⟨a,ns,rfl,Y,k⟩:=h
  refine⟨_,fK (ay (gC (bt (dH Ma (mw rfl (vars:=["_law_cell"]) (CmpScope.plain rfl (by decide +kernel) (by decide +kernel)) (J8 (uo vQ (pv 0) v9 (v8 bL)))
   (λcl C fp s H=>⟨wb (i:=0) nd1 rfl (RB rfl),um,λD=>aJ rfl (j6 FA (by rfl) N.Di PyProof.Rows.Boot.«abs» (bt (pv 0) d7)) rfl⟩)) (gC (bt bL d7))) (bt bL (bt bL d7))))),?_⟩
  obtain⟨q,I,Z⟩:=ON ns;refine⟨_,rfl,63,rfl,a,_,rfl,Y,λp hp=>?_⟩;rw[I];have L:bE H (upd H p (.lst (q.map V.int))):=bE.upd hp;refine⟨p,rfl,⟨_,SqL.of ah⟩,λD B=>?_⟩;have r:D≠p:=λz=>by subst z;rw[ah]at B;cases B
  refine yj (xs:=q.map V.int) (λi F g=>∃cs:List Int,(∃v,F=[v])/\cs.length=i/\(∀c∈cs,0<=c)/\g D=on (.lst (cs.map V.int))/\g p=on (.lst (q.map V.int))/\bE H g) ⟨[],⟨_,rfl⟩,rfl,(λ_ h=>nomatch h),ah,by rw[upd_ne r.symm,ah],L.trans (bE.upd B)⟩
   (λi F g _ ⟨_,_,_,_,_,e,_⟩=>SqL.of e) ?_ ?_
  ·rintro i x F g n ⟨cs,⟨v,rfl⟩,l,m,d,t,u⟩
   have hil:i<q.length:=by have:=(Pc.mp n).1;rwa[OS]at this
   obtain⟨z,rfl⟩:∃z,x=V.int z:=by
    rw[O4]at n;cases e:q[i]? with
    |none=>rw[e]at n;cases n
    |some z=>rw[e]at n;exact⟨z,(PR n).symm⟩
   unfold fj Lf;refine iteT ?_;refine⟨_,rfl,_,rfl,cs.map V.int,d,by rw[OS];exact rf (by omega),cs++[if z<0 then -z else z],⟨_,rfl⟩,by rw[Pn,l];rfl,λc hc=>?_,by rw[ah,P4];rfl,by rw[upd_ne r.symm];exact t,λb o e=>?_⟩
   ·rcases QY.mp hc with hc|hc
    ·exact m c hc
    ·obtain rfl:c=_:=by simpa using hc
     split<;>omega
   ·rw[upd_ne (ne_of_none e (L.free B))]
    exact u b o e
  ·rintro F g ⟨cs,⟨v,rfl⟩,l,m,d,t,u⟩
   rw[OS]at l;refine⟨by decide,λO j=>⟨D,O,_,_,rfl,rfl,by rw[upd_ne (ne_of_none d j)];exact d,ah,by rw[OS];exact Vc (rf (by simp;omega)),λR y=>⟨(by show 3<=Pe;decide),λT f=>?_⟩⟩⟩;have U:bE g (upd g O (.lst [V.int 1])):=bE.upd j;have W:=U.trans (bE.upd (o:= .lst (cs.map V.int++[V.int 1])) y);have J:R≠T:=λz=>by subst z;rw[ah]at f;cases f
   refine k T R _ ((u.trans W).free f) ((u.trans U).free y) ⟨cs++[1],0,0,ah,by rw[upd_ne J,ah,P4];rfl,by simp,by rw[Pn];simp;omega,λc hc=>?_,by decide⟩ ((u.trans W).trans (bE.upd f));rcases QY.mp hc with hc|hc
   ·exact m c hc
   ·obtain rfl:c=1:=by simpa using hc
    decide
theorem jg(N:Fns K mg a):FB P w K mg base 2 "_law_pull" a.B3 a.B4 ["_law_bag_here","_law_lot"] 2 kg:=⟨zC P w base N,N.Gg,N.Gf.kp,N.Gi⟩
theorem JX:FnScope ["rows","columns","pair"] ["rows","columns","pair"] (af zd):=fsc
def ul(K:Po)(a:Ad):{m:List D->M D//∀(P:Pt) (w:PV) {mg:PY->Option OX} (base:P7) (N:Fns K mg a),FnOk P w K mg base (CXE P w) 2 a.Ao a.Aq ["rows","columns","pair"] (spF K 3 m)}:=⟨_,λP w mg base N=>by
 exact bh (k:=1) 3 3 _ N.D8 JX rfl rfl λb A outer s H E d=>ai (aE (ay (aW rfl (cso ["row","pair","columns"] ["row"] [2,1]) (bS (by rfl) N.Dv (va1 (vv 0))) (λcl C c s H=>⟨(pgN 0 ndc),aQ,λD=>aJ rfl (aW rfl (cso ["column","pair"] ["column"] [1]) (bS (by rfl) N.Dv (va1 (vv 2))) (λcl C c s H=>⟨(pgN 0 ndc),aQ,λD=>aJ rfl (vv 1) rfl⟩) ak au (λD=>aP)) rfl⟩) ak au (λD=>aP))))⟩
theorem su:FnScope ["rowsums","columnsums"] ["rowsums","columnsums"] (af k6):=fsc
def iI(K:Po)(a:Ad):{m:List D->M D//∀(P:Pt) (w:PV) {mg:PY->Option OX} (base:P7) (N:Fns K mg a),FB P w K mg base 4 "check_sums" a.Ar a.As ["rowsums","columnsums"] 2 m}:=⟨_,λP w mg base N=>⟨by
 have b:=vt P w base N
 exact bh (k:=3) 2 2 _ N.Eb su rfl rfl λe A outer s H E d=>ag (bQ (mj (vL kd kd nX nX (aw) (cY N.Dq (va1 (vv 0))) (gx N.D6))) (ai (fJ N.Jc.xc (aF aN0) (by decide) (d6 d.hd (gD N.Jc b (d.mono (by decide)) rfl N.Jb N.Ja .nil dW (va1 (iD (c:=((P5 "there are 1 to ").length+(1921+((P5 " row sums, not ").length+(1921+0))))) (dL (ff (gx N.D6) (dL (ff (cY N.Dq (va1 (vv 0))) (kr))))) (by decide +kernel))))))) (br))
   (ag (bQ (mj (vL kd kd nX nX (aw) (cY N.Dq (va1 (vv 1))) (gx N.D5))) (ai (fJ N.Jc.xc (aF aN0) (by decide) (d6 d.hd (gD N.Jc b (d.mono (by decide)) rfl N.Jb N.Ja .nil dW (va1 (iD (c:=((P5 "there are 1 to ").length+(1921+((P5 " column sums, not ").length+(1921+0))))) (dL (ff (gx N.D5) (dL (ff (cY N.Dq (va1 (vv 1))) (kr))))) (by decide +kernel))))))) (br))
   (ag (bQ (jz (qf (jW (bT (lZ rfl) xR (by rfl) N.Dj PyProof.Rows.Boot.«any» (va1 (aW rfl (cso ["many"] ["many"] []) (bf (vv 0)) (λcl C f s H=>⟨(pgN 0 ndc),aQ,λD=>aJ rfl (eC o9 uK (vv 0) (aw)) rfl⟩) ak au (λD=>aP))))) (md (jW (bT (lZ rfl) xR (by rfl) N.Dj PyProof.Rows.Boot.«any» (va1 (aW rfl (cso ["many"] ["many"] []) (bf (vv 1)) (λcl C f s H=>⟨(pgN 0 ndc),aQ,λD=>aJ rfl (eC o9 uK (vv 0) (aw)) rfl⟩) ak au (λD=>aP)))))))) (ai (fJ N.Jc.xc (aF aN0) (by decide) (d6 d.hd (gD N.Jc b (d.mono (by decide)) rfl N.Jb N.Ja .nil dW (va1 (NV)))))) (br))
   (ag (bQ (bo (gE d) jc (fS N.Dz (va1 (vv 0))) (fS N.Dz (va1 (vv 1)))) (ai (fJ N.Jc.xc (aF aN0) (by decide) (d6 d.hd (gD N.Jc b (d.mono (by decide)) rfl N.Jb N.Ja .nil dW (va1 (iD (c:=((P5 "the rows have ").length+(1921+((P5 " things, the columns ").length+(1921+0))))) (dL (ff (fS N.Dz (va1 (vv 0))) (dL (ff (fS N.Dz (va1 (vv 1))) (kr))))) (by decide +kernel))))))) (br))
   (ai (bQ (bo xB EC (fS N.Dz (va1 (vv 0))) (gx N.D4)) (ai (fJ N.Jc.xc (aF aN0) (by decide) (d6 d.hd (gD N.Jc b (d.mono (by decide)) rfl N.Jb N.Ja .nil dW (va1 (iD (c:=((P5 "a table has at most ").length+(1921+((P5 " things").length+0)))) (dL (ff (gx N.D4) (dL (kr)))) (by decide +kernel))))))) (br)))))),N.Ec,N.Eb.kp,N.Ed⟩⟩
theorem gR:FnScope ["pair","low","high"] ["pair"] (af k7):=fsc
def iJ(K:Po)(a:Ad):{m:List D->M D//∀(P:Pt) (w:PV) {mg:PY->Option OX} (base:P7) (N:Fns K mg a),FB P w K mg base 4 "check_pair" a.At a.Au ["pair"] 1 m}:=⟨_,λP w mg base N=>⟨by
 have b:=kK P w base N
 exact bh (k:=3) 1 3 _ N.Ee gR rfl rfl λe A outer s H E d=>ag (IB (iR (bR aR (bR aR gh)) (bO (bO ft))) (gB (vv 0) (bx rfl (ax (pgN 1 gR.nd) (ax (pgN 2 gR.nd) bi)))))
   (ai (bQ (mj (CC kd kd kd nX nX nX (aw) (vv 1) (vv 2) (gx N.D4))) (ai (fJ N.Jh.xc (aF aN0) (by decide) (d6 d.hd (gD N.Jh b (d.mono (by decide)) rfl N.Jg N.Jf .nil dW (va1 (iD (c:=((P5 "a cell has no bounds from ").length+(1921+((P5 " to ").length+(1921+0))))) (dL (ff (vv 1) (dL (ff (vv 2) (kr))))) (by decide +kernel))))))) (br))),N.Ef,N.Ee.kp,N.Eg⟩⟩
theorem eP:FnScope ["bounds","rows","columns","pairs","pair"] ["bounds","rows","columns"] (af iF):=fsc
def bH(K:Po)(a:Ad):{m:List D->M D//∀(P:Pt) (w:PV) {mg:PY->Option OX} (base:P7) (N:Fns K mg a),FB P w K mg base 5 "settled_bounds" a.Av a.Aw ["bounds","rows","columns"] 3 m}:=⟨_,λP w mg base N=>⟨by
 have e:=(ul K a).2 P w base N;have b:=(iJ K a).2 P w base N;have d:=kK P w base N
 exact bh (k:=4) 3 5 _ N.Eh eP rfl rfl λi A outer s H E f=>ag (bQ (bo ur xQ (vv 0) (sG)) (ai (aE (ay (JI e (f.mono (by decide)) (by rfl) N.D9 N.D8.kp N.Ea dg (va2 (vv 1) (vv 2)) (λδ β r g h=>by rw[(aF (aF aN0)) δ β r g h];rfl))))) (br))
   (ag (bQ (jz (qf (bo (gE f) jc (cY N.Dq (va1 (vv 0))) (vv 1)) (md (jW (bT (lZ rfl) xR (by rfl) N.Dj PyProof.Rows.Boot.«any» (va1 (aW rfl (cso ["pairs","columns"] ["pairs"] [2]) (bf (vv 0)) (λcl C j s H=>⟨(pgN 0 ndc),aQ,λD=>aJ rfl (eC (gE f) jc (cY N.Dq (va1 (vv 0))) (vv 1)) rfl⟩) ak au (λD=>aP)))))))) (ai (fJ N.Jh.xc (aF aN0) (by decide) (d6 f.hd (gD N.Jh d (f.mono (by decide)) rfl N.Jg N.Jf .nil dW (va1 (iD (c:=((P5 "these are no bounds of ").length+(1921+((P5 " rows and ").length+(1921+((P5 " columns").length+0)))))) (dL (ff (vv 1) (dL (ff (vv 2) (dL (kr)))))) (by decide +kernel))))))) (br))
   (ag (ci aR (bC dn rfl (bf (vv 0)) (pgN 3 eP.nd) (ai (ci aR (bC dn rfl (bf (vv 3)) (pgN 4 eP.nd) (ai (oW (c9 (vc b f (va1 (vv 4)))))))))))
   (ai (aE (ay (aW rfl (cso ["pairs"] ["pairs"] []) (bf (vv 0)) (λcl C j s H=>⟨(pgN 0 ndc),aQ,λD=>aJ rfl (bN bw d9 (by rfl) N.Dr PyProof.Rows.Boot.«list» (va1 (vv 0))) rfl⟩) ak au (λD=>aP))))))),N.Ei,N.Eh.kp,N.Ej⟩⟩
theorem fU:FnScope ["number","product","factor"] ["number"] (af nc):=fsc
def jt(K:Po)(a:Ad):{m:List D->M D//∀(P:Pt) (w:PV) {mg:PY->Option OX} (base:P7) (N:Fns K mg a),FB P w K mg base 2 "factorial" a.Ax a.Ay ["number"] 1 m}:=⟨_,λP w mg base N=>⟨by
 exact bh (k:=1) 1 3 _ N.Ek fU rfl rfl λb A outer s H E c=>ag (aN (psS 1 fU.nd (aw)))
   (ag (ci aR (bC dn rfl (n5 (by rfl) N.Dv (va2 (aw) (bB aY cU (vv 0) (aw)))) (pgN 2 fU.nd) (ai (oX wu (lz (i:=1) fU.nd rfl (by first|exact RB rfl|exact S6 rfl) (vv 2) wz)))))
   (ai (aE (ay (vv 1))))),N.El,N.Ek.kp,N.Em⟩⟩
theorem jA:FnScope ["parts","part","told"] ["parts"] (af za):=fsc
def uj(K:Po)(a:Ad):{m:List D->M D//∀(P:Pt) (w:PV) {mg:PY->Option OX} (base:P7) (N:Fns K mg a),FB P w K mg base 4 "ways" a.Az a.A0 ["parts"] 1 m}:=⟨_,λP w mg base N=>⟨by
 have b:=(jt K a).2 P w base N;have d:=sB P w base N
 exact bh (k:=3) 1 3 _ N.En jA rfl rfl λf A outer s H E e=>ag (ci aR (bC dn rfl (bf (vv 0)) (pgN 1 jA.nd) (ai (bQ (bo o9 uK (vv 1) (aw)) (ai (fJ N.Jm.xc (aF aN0) (by decide) (d6 e.hd (gD N.Jm d (e.mono (by decide)) rfl N.Jl N.Jk .nil dW (va1 (iD (c:=((P5 "a part of ").length+(1921+((P5 " is below nought").length+0)))) (dL (ff (vv 1) (dL (kr)))) (by decide +kernel))))))) (br)))))
   (ag (aN (psS 2 jA.nd (vc b e (va1 (bT (BE rfl) Mp (by rfl) N.Dz PyProof.Rows.Boot.«sum» (va1 (vv 0)))))))
   (ag (ci aR (bC dn rfl (bf (vv 0)) (pgN 1 jA.nd) (ai (oX EA (lz (i:=2) jA.nd rfl (by first|exact RB rfl|exact S6 rfl) (vc b e (va1 (vv 1))) KG)))))
   (ai (aE (ay (vv 2)))))),N.Eo,N.En.kp,N.Ep⟩⟩
theorem cL:FnScope ["rests","many","pairs","lows","tops","begun","row","fewest_behind","most_behind"] ["rests","many","pairs"] (af oV):=fsc
def j3(K:Po)(a:Ad):{m:List D->M D//∀(P:Pt) (w:PV) {mg:PY->Option OX} (base:P7) (N:Fns K mg a),FB P w K mg base 2 "fillings" a.A1 a.A2 ["rests","many","pairs"] 3 m}:=⟨_,λP w mg base N=>⟨by
 exact bh (k:=1) 3 9 _ N.Er cL rfl rfl λc A outer s H E d=>ag (aN (psS 3 cL.nd (aW rfl (cso ["low","high"] ["low","high"] []) (bf (vv 2)) (λcl C b s H=>⟨(bx rfl (ax (pgN 0 ndc) (ax (pgN 1 ndc) bi))),aQ,λD=>aJ rfl (vv 0) rfl⟩) (cP (aM ak (aM ak cf)) (aK (aK bG))) (cM (aL au (aL au bY))) (λD=>aP))))
   (ag (aN (psS 4 cL.nd (aW rfl (cso ["rest","low","high"] ["rest","low","high"] []) (pL (by rfl) N.D3 (va2 (vv 0) (vv 2))) (λcl C b s H=>⟨(bx rfl (ax (pgN 0 ndc) (ax (bx rfl (ax (pgN 1 ndc) (ax (pgN 2 ndc) bi))) bi))),aQ,λD=>aJ rfl (bT (jj rfl) sQ (by rfl) N.Du PyProof.Rows.Boot.«min» (va2 (vv 0) (vv 2))) rfl⟩) (cP (aM ak (aM (cP (aM ak (aM ak cf)) (aK (aK bG))) cf)) (aK (aK bG))) (cM (aL au (aL (cM (aL au (aL au bY))) bY))) (λD=>aP))))
   (ag (aN (psS 5 cL.nd (fR (va1 (cT (va2 (cT (gv)) (vv 1)))))))
   (ag (ci aR (bC dn rfl (bS (by rfl) N.Dv (va1 (cY N.Dq (va1 (vv 0))))) (pgN 6 cL.nd) (ag (aN (psS 7 cL.nd (fS N.Dz (va1 (vH (vv 3) (zE (bB aY cU (vv 6) (aw))) (zF))))))
   (ag (aN (psS 8 cL.nd (fS N.Dz (va1 (vH (vv 4) (zE (bB aY cU (vv 6) (aw))) (zF))))))
   (ai (zc (i:=5) cL.nd rfl (by first|exact RB rfl|exact S6 rfl) rfl (cso ["counts","left","count","lows","row","most_behind","tops","fewest_behind"] ["counts","left","count"] [3,6,8,4,7]) (bf (vv 5)) (λcl C b s H=>⟨(bx rfl (ax (pgN 0 ndc) (ax (pgN 1 ndc) bi))),aQ,λD=>qw rfl rfl rfl (n5 (by rfl) N.Dv (va2 (bT (rV rfl) IN (by rfl) N.Dt PyProof.Rows.Boot.«max» (va2 (cI bc cR (vv 3) (vv 4)) (bB iK kj (vv 1) (vv 5)))) (bB aY cU (bT (jj rfl) sQ (by rfl) N.Du PyProof.Rows.Boot.«min» (va2 (cI bc cR (vv 6) (vv 4)) (bB iK kj (vv 1) (vv 7)))) (aw)))) (pgN 2 ndc) (aQ) (aJ rfl (cT (va2 (bB aY cU (vv 0) (cT (va1 (vv 2)))) (bB iK kj (vv 1) (vv 2)))) rfl)⟩) (cP (aM ak (aM ak cf)) (aK (aK bG))) (cM (aL au (aL au bY))) (λD=>Ky ak au (aP))))))))
   (ai (aE (ay (aW rfl (cso ["counts","left"] ["counts","left"] []) (bf (vv 5)) (λcl C b s H=>⟨(bx rfl (ax (pgN 0 ndc) (ax (pgN 1 ndc) bi))),sW (bo (cr d) dh (vv 1) (aw)),λD=>aJ rfl (vv 0) rfl⟩) (cP (aM ak (aM ak cf)) (aK (aK bG))) (cM (aL au (aL au bY))) (λD=>aP)))))))),N.Es,N.Er.kp,N.Et⟩⟩
theorem xt:FnScope ["rowsums","over"] ["rowsums","over"] (af rn):=fsc
def lw(K:Po)(a:Ad):{m:List D->M D//∀(P:Pt) (w:PV) {mg:PY->Option OX} (base:P7) (N:Fns K mg a),FB P w K mg base 2 "need_of" a.A3 a.A4 ["rowsums","over"] 2 m}:=⟨_,λP w mg base N=>⟨by
 exact bh (k:=1) 2 2 _ N.Eu xt rfl rfl λb A outer s H E c=>ai (aE (ay (fS N.Dz (va1 (aW rfl (cso ["row","rowsums"] ["row"] [0]) (bf (vv 1)) (λcl C d s H=>⟨(pgN 0 ndc),aQ,λD=>aJ rfl (cI bc cR (vv 1) (vv 0)) rfl⟩) ak au (λD=>aP)))))),N.Ev,N.Eu.kp,N.Ew⟩⟩
theorem jB:FnScope ["columnsums","bounds","over","column","lows"] ["columnsums","bounds","over","column"] (af kH):=fsc
def c7(K:Po)(a:Ad):{m:List D->M D//∀(P:Pt) (w:PV) {mg:PY->Option OX} (base:P7) (N:Fns K mg a),FB P w K mg base 2 "room_inside" a.A5 a.A6 ["columnsums","bounds","over","column"] 4 m}:=⟨_,λP w mg base N=>⟨by
 exact bh (k:=1) 4 5 _ N.Ex jB rfl rfl λb A outer s H E c=>ag (zc (i:=4) jB.nd rfl (by first|exact RB rfl|exact S6 rfl) rfl (cso ["row","pairs","over","column"] ["row","pairs"] [2,3]) (lP (by rfl) N.Dm (va1 (vv 1))) (λcl C d s H=>⟨(bx rfl (ax (pgN 0 ndc) (ax (pgN 1 ndc) bi))),sW (bo lC (EB (neg:=OV)) (vv 0) (vv 2)),λD=>aJ rfl (cI bc cR (cI bc cR (vv 1) (vv 3)) (aw)) rfl⟩) (cP (aM ak (aM ak cf)) (aK (aK bG))) (cM (aL au (aL au bY))) (λD=>aP))
   (ai (aE (ay (bB iK kj (cI bc cR (vv 0) (vv 3)) (fS N.Dz (va1 (vv 4))))))),N.Ey,N.Ex.kp,N.Ez⟩⟩
theorem qp:FnScope ["bounds","over","column"] ["bounds","over","column"] (af kI):=fsc
def c8(K:Po)(a:Ad):{m:List D->M D//∀(P:Pt) (w:PV) {mg:PY->Option OX} (base:P7) (N:Fns K mg a),FB P w K mg base 2 "room_beside" a.A7 a.A8 ["bounds","over","column"] 3 m}:=⟨_,λP w mg base N=>⟨by
 exact bh (k:=1) 3 3 _ N.E2 qp rfl rfl λb A outer s H E c=>ai (aE (ay (fS N.Dz (va1 (aW rfl (cso ["row","bounds","column"] ["row"] [0,2]) (bf (vv 1)) (λcl C d s H=>⟨(pgN 0 ndc),aQ,λD=>aJ rfl (cI bc cR (cI bc cR (cI bc cR (vv 1) (vv 0)) (vv 2)) (aw)) rfl⟩) ak au (λD=>aP)))))),N.E3,N.E2.kp,N.E4⟩⟩
theorem xq:FnScope ["columnsums","bounds","over","into"] ["columnsums","bounds","over","into"] (af rm):=fsc
def lj(K:Po)(a:Ad):{m:List D->M D//∀(P:Pt) (w:PV) {mg:PY->Option OX} (base:P7) (N:Fns K mg a),FB P w K mg base 3 "room_of" a.A9 a.Ba ["columnsums","bounds","over","into"] 4 m}:=⟨_,λP w mg base N=>⟨by
 have b:=(c7 K a).2 P w base N;have c:=(c8 K a).2 P w base N;exact bh (k:=2) 4 4 _ N.E5 xq rfl rfl λe A outer s H E d=>ai (aE (ay (fS N.Dz (va1 (aW rfl (cso ["column","into","columnsums","bounds","over"] ["column"] [3,0,1,2]) (bS (by rfl) N.Dv (va1 (cY N.Dq (va1 (vv 0))))) (λcl C f s H=>⟨(pgN 0 ndc),aQ,λD=>aJ rfl (v_if (bo zA (EB (neg:=OW)) (vv 0) (vv 1)) (vc b d (va4 (vv 2) (vv 3) (vv 4) (vv 0))) (vc c d (va3 (vv 3) (vv 4) (vv 0)))) rfl⟩) ak au (λD=>aP)))))),N.E6,N.E5.kp,N.E7⟩⟩
theorem tW:FnScope ["columnsums","bounds","over"] ["columnsums","bounds","over"] (af m7):=fsc
def jq(K:Po)(a:Ad):{m:List D->M D//∀(P:Pt) (w:PV) {mg:PY->Option OX} (base:P7) (N:Fns K mg a),FB P w K mg base 3 "narrowest" a.Bb a.Bc ["columnsums","bounds","over"] 3 m}:=⟨_,λP w mg base N=>⟨by
 have b:=(c7 K a).2 P w base N;have c:=(c8 K a).2 P w base N;exact bh (k:=2) 3 3 _ N.E8 tW rfl rfl λe A outer s H E d=>ai (aE (ay (aW rfl (cso ["column","columnsums","bounds","over"] ["column"] [0,1,2]) (bS (by rfl) N.Dv (va1 (cY N.Dq (va1 (vv 0))))) (λcl C f s H=>⟨(pgN 0 ndc),sW (bo o9 uK (vc b d (va4 (vv 1) (vv 2) (vv 3) (vv 0))) (vc c d (va3 (vv 2) (vv 3) (vv 0)))),λD=>aJ rfl (vv 0) rfl⟩) ak au (λD=>aP)))),N.E9,N.E8.kp,N.Fa⟩⟩
theorem ie:FnScope ["many","told","number"] ["many"] (af rq):=fsc
def lx(K:Po)(a:Ad):{m:List D->M D//∀(P:Pt) (w:PV) {mg:PY->Option OX} (base:P7) (N:Fns K mg a),FB P w K mg base 2 "choices" a.Bd a.Be ["many"] 1 m}:=⟨_,λP w mg base N=>⟨by
 exact bh (k:=1) 1 3 _ N.Fb ie rfl rfl λb A outer s H E c=>ag (aN (psS 1 ie.nd (fR (va1 (fR (gv))))))
   (ag (ci aR (bC dn rfl (bS (by rfl) N.Dv (va1 (vv 0))) (pgN 2 ie.nd) (ai (aN (psS 1 ie.nd (bB aY cU (vv 1) (aW rfl (cso ["chosen","number"] ["chosen"] [2]) (bf (vv 1)) (λcl C d s H=>⟨(pgN 0 ndc),aQ,λD=>aJ rfl (bB aY cU (vv 0) (fR (va1 (vv 1)))) rfl⟩) ak au (λD=>aP))))))))
   (ai (aE (ay (vv 1))))),N.Fc,N.Fb.kp,N.Fd⟩⟩
theorem iE:FnScope ["rowsums","columnsums","bounds","over","into"] ["rowsums","columnsums","bounds"] (af ng):=fsc
def eV(K:Po)(a:Ad):{m:List D->M D//∀(P:Pt) (w:PV) {mg:PY->Option OX} (base:P7) (N:Fns K mg a),FB P w K mg base 4 "check_fit" a.Bf a.Bh ["rowsums","columnsums","bounds"] 3 m}:=⟨_,λP w mg base N=>⟨by
 have c:=(lx K a).2 P w base N;have b:=(jq K a).2 P w base N;have d:=(lw K a).2 P w base N;have e:=(lj K a).2 P w base N
 exact bh (k:=3) 3 5 _ N.Fe iE rfl rfl λg A outer s H E f=>ai (ci aR (bC dn rfl (bf (vc c f (va1 (cY N.Dq (va1 (vv 0)))))) (pgN 3 iE.nd) (ag (aN (psS 4 iE.nd (vc b f (va3 (vv 1) (vv 2) (vv 3)))))
   (ai (bQ (bo xB EC (vc d f (va2 (vv 0) (vv 3))) (vc e f (va4 (vv 1) (vv 2) (vv 3) (vv 4)))) (ai (vT)) (br)))))),N.Ff,N.Fe.kp,N.Fg⟩⟩
theorem e9:FnScope ["rowsums","wide","many"] ["rowsums"] (af k4):=fsc
def iH(K:Po)(a:Ad):{m:List D->M D//∀(P:Pt) (w:PV) {mg:PY->Option OX} (base:P7) (N:Fns K mg a),FB P w K mg base 2 "check_wide" a.Bi a.Bj ["rowsums"] 1 m}:=⟨_,λP w mg base N=>⟨by
 exact bh (k:=1) 1 3 _ N.Fh e9 rfl rfl λb A outer s H E c=>ag (aN (psS 1 e9.nd (aw)))
   (ag (ci aR (bC dn rfl (bf (vv 0)) (pgN 2 e9.nd) (ai (oX wu (lz (i:=1) e9.nd rfl (by first|exact RB rfl|exact S6 rfl) (bB aY cU (vv 2) (aw)) wz)))))
   (ai (bQ (bo xB EC (vv 1) (gx N.D7)) (ai (vT)) (br)))),N.Fi,N.Fh.kp,N.Fj⟩⟩
theorem gz:FnScope ["rowsums","columnsums","bounds","settled"] ["rowsums","columnsums","bounds"] (af hX):=fsc
def dz(K:Po)(a:Ad):{m:List D->M D//∀(P:Pt) (w:PV) {mg:PY->Option OX} (base:P7) (N:Fns K mg a),FB P w K mg base 6 "settled_for_net" a.Bk a.Bl ["rowsums","columnsums","bounds"] 3 m}:=⟨_,λP w mg base N=>⟨by
 have c:=(iI K a).2 P w base N;have b:=(bH K a).2 P w base N;have d:=(iH K a).2 P w base N
 exact bh (k:=5) 3 4 _ N.Fk gz rfl rfl λf A outer s H E e=>ag (oW (c9 (vc c e (va2 (vv 0) (vv 1)))))
   (ag (aN (psS 3 gz.nd (vc b e (va3 (vv 2) (cY N.Dq (va1 (vv 0))) (cY N.Dq (va1 (vv 1)))))))
   (ag (oW (c9 (vc d e (va1 (vv 0)))))
   (ai (aE (ay (vv 3)))))),N.Fl,N.Fk.kp,N.Fm⟩⟩
theorem kY:FnScope ["rests","columnsums","bounds","column"] ["rests","columnsums","bounds","column"] (af hZ):=fsc
def cE(K:Po)(a:Ad):{m:List D->M D//∀(P:Pt) (w:PV) {mg:PY->Option OX} (base:P7) (N:Fns K mg a),FB P w K mg base 3 "column_fillings" a.Bm a.Bn ["rests","columnsums","bounds","column"] 4 m}:=⟨_,λP w mg base N=>⟨by
 have b:=(j3 K a).2 P w base N;exact bh (k:=2) 4 4 _ N.Fn kY rfl rfl λc A outer s H E d=>ai (aE (ay (vc b d (va3 (vv 0) (cI bc cR (vv 1) (vv 3)) (aW rfl (cso ["pairs","column"] ["pairs"] [3]) (bf (vv 2)) (λcl C e s H=>⟨(pgN 0 ndc),aQ,λD=>aJ rfl (cI bc cR (vv 0) (vv 1)) rfl⟩) ak au (λD=>aP)))))),N.Fo,N.Fn.kp,N.Fp⟩⟩
theorem oP:FnScope ["rests","counts"] ["rests","counts"] (af jC):=fsc
def eE(K:Po)(a:Ad):{m:List D->M D//∀(P:Pt) (w:PV) {mg:PY->Option OX} (base:P7) (N:Fns K mg a),FB P w K mg base 2 "rests_behind" a.Bo a.Bp ["rests","counts"] 2 m}:=⟨_,λP w mg base N=>⟨by
 exact bh (k:=1) 2 2 _ N.Fq oP rfl rfl λb A outer s H E c=>ai (aE (ay (bN g0 qz (by rfl) N.D0 PyProof.Rows.Boot.«tuple» (va1 (aW rfl (cso ["rest","count"] ["rest","count"] []) (pL (by rfl) N.D3 (va2 (vv 0) (vv 1))) (λcl C d s H=>⟨(bx rfl (ax (pgN 0 ndc) (ax (pgN 1 ndc) bi))),aQ,λD=>aJ rfl (bB iK kj (vv 0) (vv 1)) rfl⟩) (cP (aM ak (aM ak cf)) (aK (aK bG))) (cM (aL au (aL au bY))) (λD=>aP)))))),N.Fs,N.Fq.kp,N.Ft⟩⟩
theorem bU:FnScope ["rowsums","columnsums","bounds","here","told","column","behind"] ["rowsums","columnsums","bounds"] (af iG):=fsc
def fA(K:Po)(a:Ad):{m:List D->M D//∀(P:Pt) (w:PV) {mg:PY->Option OX} (base:P7) (N:Fns K mg a),FB P w K mg base 4 "nodes_by_level" a.Bq a.Br ["rowsums","columnsums","bounds"] 3 m}:=⟨_,λP w mg base N=>⟨by
 have c:=(eE K a).2 P w base N;have b:=(cE K a).2 P w base N
 exact bh (k:=3) 3 7 _ N.Fu bU rfl rfl λe A outer s H E d=>ag (aN (psS 3 bU.nd (fR (va1 (bN g0 qz (by rfl) N.D0 PyProof.Rows.Boot.«tuple» (va1 (vv 0)))))))
   (ag (sI (psS 4 bU.nd (gC (va1 (vv 3)))))
   (ag (ci aR (bC dn rfl (bS (by rfl) N.Dv (va1 (cY N.Dq (va1 (vv 1))))) (pgN 5 bU.nd) (ag (aN (psS 6 bU.nd (BZ (by rfl) N.Dx rfl (cso ["rests","counts","columnsums","bounds","column"] ["rests","counts"] [1,2,5]) (bf (vv 3)) (λcl C f s H=>⟨(pgN 0 ndc),aQ,λD=>qw rfl rfl rfl (bf (vc b d (va4 (vv 0) (vv 2) (vv 3) (vv 4)))) (pgN 1 ndc) (aQ) (uq (sT d) rfl (vc c d (va2 (vv 0) (vv 1))) rfl)⟩) ak au (λD=>nV ak au (DX)))))
   (ag (sJ (c9 (sN S8 SR SS i9 (pv 4) (va1 (vv 6)))))
   (ai (aN (psS 3 bU.nd (vv 6))))))))
   (ai (aE (ay (vv 4)))))),N.Fw,N.Fu.kp,N.Fy⟩⟩
theorem bJ:FnScope ["rests","filled","behind","tables","dealings","counts","tables_behind","dealings_behind"] ["rests","filled","behind"] (af kJ):=fsc
def gU(K:Po)(a:Ad):{m:List D->M D//∀(P:Pt) (w:PV) {mg:PY->Option OX} (base:P7) (N:Fns K mg a),FB P w K mg base 5 "node_counts" a.Bs a.Bt ["rests","filled","behind"] 3 m}:=⟨_,λP w mg base N=>⟨by
 have b:=(eE K a).2 P w base N;have c:=(uj K a).2 P w base N
 exact bh (k:=4) 3 8 _ N.Fz bJ rfl rfl λe A outer s H E d=>ag (aN (psS 3 bJ.nd (aw)))
   (ag (aN (psS 4 bJ.nd (aw)))
   (ag (ci aR (bC dn rfl (bf (vv 1)) (pgN 5 bJ.nd) (ag (IB (iR (bR aR (bR aR gh)) (bO (bO ft))) (gB (cI (AA (hu2 d)) Ox (vv 2) (vc b d (va2 (vv 0) (vv 5)))) (bx rfl (ax (pgN 6 bJ.nd) (ax (pgN 7 bJ.nd) bi)))))
   (ag (oX wv (lz (i:=3) bJ.nd rfl (by first|exact RB rfl|exact S6 rfl) (vv 6) AE))
   (ai (oX wv (lz (i:=4) bJ.nd rfl (by first|exact RB rfl|exact S6 rfl) (bB Ki Ot (vc c d (va1 (vv 5))) (vv 7)) AE)))))))
   (ai (aE (ay (cT (va2 (vv 3) (vv 4)))))))),N.F4,N.Fz.kp,N.F5⟩⟩
theorem bv:FnScope ["rowsums","columnsums","bounds","levels","last","here","told","level","behind"] ["rowsums","columnsums","bounds"] (af iZ):=fsc
def dU(K:Po)(a:Ad):{m:List D->M D//∀(P:Pt) (w:PV) {mg:PY->Option OX} (base:P7) (N:Fns K mg a),FB P w K mg base 6 "counted_nodes" a.Bu a.Bv ["rowsums","columnsums","bounds"] 3 m}:=⟨_,λP w mg base N=>⟨by
 have d:=(fA K a).2 P w base N;have c:=(cE K a).2 P w base N;have e:=(gU K a).2 P w base N
 exact bh (k:=5) 3 9 _ N.F6 bv rfl rfl λh A outer s H E f=>ag (aN (psS 3 bv.nd (vc d f (va3 (vv 0) (vv 1) (vv 2)))))
   (ag (aN (psS 4 bv.nd (cY N.Dq (va1 (vv 1)))))
   (ag (zb (kb:=OW) (i:=5) bv.nd rfl (by first|exact RB rfl|exact S6 rfl) rfl (cso ["rests"] ["rests"] []) (bf (cI bc cR (vv 3) (vv 4))) (λcl C g s H=>⟨(pgN 0 ndc),aQ,λD=>j7 (b:=OW) (sT f) rfl (vv 0) (cT (va2 (aw) (aw))) rfl⟩) ak au (λD=>nW))
   (ag (sI (psS 6 bv.nd (gC (va1 (vv 5)))))
   (ag (ci aR (bC dn rfl (EM (by rfl) N.Dw (by rfl) N.Dv (va1 (vv 4))) (pgN 7 bv.nd) (ag (aN (psS 8 bv.nd (vv 5)))
   (ag (zb (kb:=OW) (i:=5) bv.nd rfl (by first|exact RB rfl|exact S6 rfl) rfl (cso ["rests","columnsums","bounds","level","behind"] ["rests"] [1,2,7,8]) (bf (cI bc cR (vv 3) (vv 7))) (λcl C g s H=>⟨(pgN 0 ndc),aQ,λD=>j7 (b:=OW) (sT f) rfl (vv 0) (vc e f (va3 (vv 0) (vc c f (va4 (vv 0) (vv 1) (vv 2) (vv 3))) (vv 4))) rfl⟩) ak au (λD=>nW))
   (ai (sJ (c9 (sN S8 SR SS i9 (pv 6) (va1 (vv 5))))))))))
   (ai (aE (ay (JH (kb:=OV) rfl (cso ["level","nodes","rests","counts"] ["level","nodes","rests","counts"] []) (lP (by rfl) N.Dm (va1 (NW (vv 6) (v_un K9 Os (aw))))) (λcl C g s H=>⟨(bx rfl (ax (pgN 0 ndc) (ax (pgN 1 ndc) bi))),aQ,λD=>qw rfl rfl rfl (wE (vv 1)) (bx rfl (ax (pgN 2 ndc) (ax (pgN 3 ndc) bi))) (aQ) (j7 (b:=OV) (sT f) rfl (cT (va2 (vv 0) (vv 2))) (vv 3) rfl)⟩) (cP (aM ak (aM ak cf)) (aK (aK bG))) (cM (aL au (aL au bY))) (λD=>nV (cP (aM ak (aM ak cf)) (aK (aK bG))) (cM (aL au (aL au bY))) (nW)))))))))),N.F7,N.F6.kp,N.F8⟩⟩
theorem sr:FnScope ["counted"] ["counted"] (af kZ):=fsc
def uk(K:Po)(a:Ad):{m:List D->M D//∀(P:Pt) (w:PV) {mg:PY->Option OX} (base:P7) (N:Fns K mg a),FB P w K mg base 2 "paper_rows" a.Bw a.Bx ["counted"] 1 m}:=⟨_,λP w mg base N=>⟨by
 exact bh (k:=1) 1 1 _ N.F9 sr rfl rfl λb A outer s H E c=>ai (aE (ay (aW rfl (cso ["level","rests","tables","dealings"] ["level","rests","tables","dealings"] []) (wE (vv 0)) (λcl C d s H=>⟨(bx rfl (ax (bx rfl (ax (pgN 0 ndc) (ax (pgN 1 ndc) bi))) (ax (bx rfl (ax (pgN 2 ndc) (ax (pgN 3 ndc) bi))) bi))),aQ,λD=>aJ rfl (cT (va4 (vv 0) (vv 1) (vv 2) (vv 3))) rfl⟩) (cP (aM (cP (aM ak (aM ak cf)) (aK (aK bG))) (aM (cP (aM ak (aM ak cf)) (aK (aK bG))) cf)) (aK (aK bG))) (cM (aL (cM (aL au (aL au bY))) (aL (cM (aL au (aL au bY))) bY))) (λD=>aP)))),N.Ga,N.F9.kp,N.Gb⟩⟩
theorem y8:FnScope ["_law_found","_law_due"] ["_law_found","_law_due"] (af tZ):=fsc
def n6(K:Po)(a:Ad)(rec:List D->M D):G:=
  aD (gIf (gY (az fi (aa (ae 1) (aa (az cj (aa (fC (.ty "list")) (aa (fC (.ty "tuple")) (aq)))) (aq))))) (aD (gIf (eS (fB (f2 (d8) (az cD (aa (ae 1) (aa (fC (.ty "list")) (aq)))) (az cD (aa (ae 0) (aa (fC (.ty "list")) (aq)))))) (fB (f2 (d8) (az cD (aa (ae 1) (aa (fC (.ty "tuple")) (aq)))) (az cD (aa (ae 0) (aa (fC (.ty "tuple")) (aq))))))) (cZ (fC (.bl OW))) (gNil))
  (aD (gIf (fB (f2 (d8) (az cJ (aa (ae 0) (aq))) (az cJ (aa (ae 1) (aq))))) (cZ (fC (.bl OW))) (gNil))
  (cZ (f2 (inD OV) (fC (.bl OW)) (bM 2 [] (iO (aa (ae 0) (aa (ae 1) (aq)))) (tgT (dB (tgC 0) (dB (tgC 1) gQ))) (λ_=>M.ret OV) (cEm (ck rec (aa (ae 0) (aa (ae 1) (aq)))))))))) (gNil))
  (aD (gIf (fB (f2 (gX) (ae 1) (fC .non))) (cZ (f2 (gX) (ae 0) (fC .non))) (gNil))
  (aD (gIf (eS (fB (f2 (d8) (az cD (aa (ae 1) (aa (fC (.ty "str")) (aq)))) (az cD (aa (ae 0) (aa (fC (.ty "str")) (aq)))))) (fB (f2 (d8) (az cD (aa (ae 1) (aa (fC (.ty "bool")) (aq)))) (az cD (aa (ae 0) (aa (fC (.ty "bool")) (aq))))))) (cZ (fC (.bl OW))) (gNil))
  (cZ (fZ (az fi (aa (ae 0) (aa (az cj (aa (fC (.ty "int")) (aa (fC (.ty "str")) (aq)))) (aq)))) (f2 (f6) (ae 0) (ae 1))))))
def dJ(K:Po)(a:Ad):Nat->List D->M D
 |0=>λ_=>M.fail
 |n+1=>cW 2 (n6 K a (dJ K a n))
theorem ph(N:Fns K mg a):∀n,FnOk P w K mg base (CXE P w) (n+1) a.B5 a.B7 ["_law_found","_law_due"] (spF K 2 (dJ K a n))
 |0=>⟨λvs H Q E h=>h.1,λA outer s H args us vs Q E b f g r h=>by
  obtain⟨_,F,ds,β,_,_,i,β1,e,_⟩:=h;cases e⟩
 |n+1=>by
  have c:=ph N n;unfold dJ;exact bh (k:=n+1) 2 2 (n6 K a (dJ K a n)) N.Gj y8 rfl rfl λd A outer s H E b=>ag (bQ (jW (bT pY z6 (by rfl) N.Dp PyProof.Rows.Boot.«isinstance» (va2 (vv 1) (cT (va2 (v_c (da (v:= .ty "list") (by rfl) N.Dr PyProof.Rows.Boot.«list» rfl) (λ_ _=>rfl)) (v_c (da (v:= .ty "tuple") (by rfl) N.D0 PyProof.Rows.Boot.«tuple» rfl) (λ_ _=>rfl))))))) (ag (bQ (jz (qf (bo (gE b) jc (kN N.Dp (va2 (vv 1) (v_c (da (v:= .ty "list") (by rfl) N.Dr PyProof.Rows.Boot.«list» rfl) (λ_ _=>rfl)))) (kN N.Dp (va2 (vv 0) (v_c (da (v:= .ty "list") (by rfl) N.Dr PyProof.Rows.Boot.«list» rfl) (λ_ _=>rfl))))) (md (bo (gE b) jc (kN N.Dp (va2 (vv 1) (v_c (da (v:= .ty "tuple") (by rfl) N.D0 PyProof.Rows.Boot.«tuple» rfl) (λ_ _=>rfl)))) (kN N.Dp (va2 (vv 0) (v_c (da (v:= .ty "tuple") (by rfl) N.D0 PyProof.Rows.Boot.«tuple» rfl) (λ_ _=>rfl)))))))) (ai (aE (ay (f9)))) (br))
   (ag (bQ (bo (gE b) jc (cY N.Dq (va1 (vv 0))) (cY N.Dq (va1 (vv 1)))) (ai (aE (ay (f9)))) (br))
   (ai (aE (ay (eC lC (EB (neg:=OV)) (f9) (aW rfl (cso ["_law_one","_law_other"] ["_law_one","_law_other"] []) (pL (by rfl) N.D3 (va2 (vv 0) (vv 1))) (λcl C j s H=>⟨(bx rfl (ax (pgN 0 ndc) (ax (pgN 1 ndc) bi))),aQ,λD=>aJ rfl (yF c (b.mono (O9 _)) (by rfl) N.Gk N.Gj.kp N.Gm dW (va2 (vv 0) (vv 1)) (aF (aF aN0))) rfl⟩) (cP (aM ak (aM ak cf)) (aK (aK bG))) (cM (aL au (aL au bY))) (λD=>aP)))))))) (br))
   (ag (bQ (bo ur xQ (vv 1) (sG)) (ai (aE (ay (eC ur xQ (vv 0) (sG))))) (br))
   (ag (bQ (jz (qf (bo (gE b) jc (kN N.Dp (va2 (vv 1) (v_c (da (v:= .ty "str") (by rfl) N.Dy PyProof.Rows.Boot.«str» rfl) (λ_ _=>rfl)))) (kN N.Dp (va2 (vv 0) (v_c (da (v:= .ty "str") (by rfl) N.Dy PyProof.Rows.Boot.«str» rfl) (λ_ _=>rfl))))) (md (bo (gE b) jc (kN N.Dp (va2 (vv 1) (v_c (da (v:= .ty "bool") (by rfl) N.Dl PyProof.Rows.Boot.«bool» rfl) (λ_ _=>rfl)))) (kN N.Dp (va2 (vv 0) (v_c (da (v:= .ty "bool") (by rfl) N.Dl PyProof.Rows.Boot.«bool» rfl) (λ_ _=>rfl)))))))) (ai (aE (ay (f9)))) (br))
   (ai (aE (ay (mh (bT pY z6 (by rfl) N.Dp PyProof.Rows.Boot.«isinstance» (va2 (vv 0) (cT (va2 (v_c (da (v:= .ty "int") (by rfl) N.Do PyProof.Rows.Boot.«int» rfl) (λ_ _=>rfl)) (v_c (da (v:= .ty "str") (by rfl) N.Dy PyProof.Rows.Boot.«str» rfl) (λ_ _=>rfl)))))) (w8 (eC (cr b) dh (vv 0) (vv 1)))))))))
theorem zB(N:Fns K mg a):FB P w K mg base 7 "_law_same" a.B5 a.B7 ["_law_found","_law_due"] 2 (dJ K a 5):=⟨(ph P w base N 5).mono (by decide),N.Gk,N.Gj.kp,N.Gm⟩
theorem gA:FnScope ["_law_bag_here","_law_block","_law_columns","_law_things","_law_grid_here","_law_thing","_law_at","_law_to"] ["_law_bag_here","_law_block","_law_columns","_law_things"] (af ub):=fsc
def jZ(K:Po)(a:Ad):{m:List D->M D//∀(P:Pt) (w:PV) {mg:PY->Option OX} (base:P7) (N:Fns K mg a),FB P w K mg base 3 "_law_grid" a.B8 a.Ca ["_law_bag_here","_law_block","_law_columns","_law_things"] 4 m}:=⟨_,λP w mg base N=>⟨by
 have b:=jg P w base N
 exact bh (k:=2) 4 8 _ N.Gn gA rfl rfl λd A outer s H E c=>ag (Lp (i:=4) gA.nd rfl (by first|exact RB rfl|exact S6 rfl) rfl (cso ["_law_row","_law_columns"] ["_law_row"] [2]) (bS (by rfl) N.Dv (va1 (vv 1))) (λcl C e s H=>⟨(pgN 0 ndc),aQ,λD=>aJ rfl (Oj (va1 (aw)) (vv 1)) rfl⟩) ak au (λD=>wq))
   (ag (ci aR (bC dn rfl (bS (by rfl) N.Dv (va1 (vv 3))) (pgN 5 gA.nd) (ag (aN (psS 6 gA.nd (vc b c (va2 (vv 0) (vv 1)))))
   (ag (aN (psS 7 gA.nd (vc b c (va2 (vv 0) (vv 2)))))
   (ai (ud (gB (bB aY cU (cI bc cR (cI bc cR (vv 4) (vv 6)) (vv 7)) (aw)) (jG (gr dR (pv 4) (vv 6) (λ_ _=>rfl)) (vv 7) gf))))))))
   (ai (aE (ay (vv 4))))),N.Go,N.Gn.kp,N.Gp⟩⟩
theorem ib:FnScope ["_law_bag_here","_law_way","_law_block","_law_columns"] ["_law_bag_here"] (af rp):=fsc
def i7(K:Po)(a:Ad):{m:List D->M D//∀(P:Pt) (w:PV) {mg:PY->Option OX} (base:P7) (N:Fns K mg a),FB P w K mg base 4 "_law_small" a.Cb a.Cc ["_law_bag_here"] 1 m}:=⟨_,λP w mg base N=>⟨by
 have b:=jg P w base N;have c:=(jZ K a).2 P w base N
 exact bh (k:=3) 1 4 _ N.Gq ib rfl rfl λe A outer s H E d=>ag (aN (psS 1 ib.nd (vc b d (va2 (vv 0) (aw)))))
   (ag (bQ (bo (cr d) dh (vv 1) (aw)) (ai (aE (ay (vc c d (va4 (vv 0) (aw) (aw) (vc b d (va2 (vv 0) (aw)))))))) (br))
   (ag (bQ (bo (cr d) dh (vv 1) (aw)) (ai (aE (ay (vc c d (va4 (vv 0) (aw) (bB aY cU (aw) (vc b d (va2 (vv 0) (aw)))) (vc b d (va2 (vv 0) (aw)))))))) (br))
   (ag (bQ (bo (cr d) dh (vv 1) (aw)) (ai (aE (ay (vc c d (va4 (vv 0) (bB aY cU (aw) (vc b d (va2 (vv 0) (aw)))) (aw) (vc b d (va2 (vv 0) (aw)))))))) (br))
   (ag (aN (psS 2 ib.nd (bB aY cU (aw) (vc b d (va2 (vv 0) (aw))))))
   (ag (aN (psS 3 ib.nd (bB aY cU (aw) (vc b d (va2 (vv 0) (aw))))))
   (ai (aE (ay (vc c d (va4 (vv 0) (vv 2) (vv 3) (vc b d (va2 (vv 0) (aw))))))))))))),N.Gr,N.Gq.kp,N.Gs⟩⟩
theorem vp:FnScope ["_law_block"] ["_law_block"] (af oR):=fsc
def o3(K:Po)(a:Ad):{m:List D->M D//∀(P:Pt) (w:PV) {mg:PY->Option OX} (base:P7) (N:Fns K mg a),FB P w K mg base 2 "_law_turned" a.Cd a.Cf ["_law_block"] 1 m}:=⟨_,λP w mg base N=>⟨by
 exact bh (k:=1) 1 1 _ N.Gu vp rfl rfl λb A outer s H E d=>ai (aE (ay (aW rfl (cso ["_law_to","_law_block"] ["_law_to"] [0]) (bS (by rfl) N.Dv (va1 (cY N.Dq (va1 (cI bc cR (vv 0) (aw)))))) (λcl C c s H=>⟨(pgN 0 ndc),aQ,λD=>aJ rfl (aW rfl (cso ["_law_row","_law_to"] ["_law_row"] [0]) (bf (vv 1)) (λcl C c s H=>⟨(pgN 0 ndc),aQ,λD=>aJ rfl (cI bc cR (vv 0) (vv 1)) rfl⟩) ak au (λD=>aP)) rfl⟩) ak au (λD=>aP)))),N.Gv,N.Gu.kp,N.Gx⟩⟩
theorem tX:FnScope ["_law_grid_here"] ["_law_grid_here"] (af m8):=fsc
def gq(K:Po)(a:Ad):{m:List D->M D//∀(P:Pt) (w:PV) {mg:PY->Option OX} (base:P7) (N:Fns K mg a),FB P w K mg base 2 "_law_rowsums" a.Cg a.Ch ["_law_grid_here"] 1 m}:=⟨_,λP w mg base N=>⟨by
 exact bh (k:=1) 1 1 _ N.Gy tX rfl rfl λb A outer s H E c=>ai (aE (ay (aW rfl (cso ["_law_row"] ["_law_row"] []) (bf (vv 0)) (λcl C d s H=>⟨(pgN 0 ndc),aQ,λD=>aJ rfl (fS N.Dz (va1 (vv 0))) rfl⟩) ak au (λD=>aP)))),N.Gz,N.Gy.kp,N.G0⟩⟩
theorem oQ:FnScope ["_law_grid_here"] ["_law_grid_here"] (af jD):=fsc
def eF(K:Po)(a:Ad):{m:List D->M D//∀(P:Pt) (w:PV) {mg:PY->Option OX} (base:P7) (N:Fns K mg a),FB P w K mg base 3 "_law_columnsums" a.Ci a.Cj ["_law_grid_here"] 1 m}:=⟨_,λP w mg base N=>⟨by
 have b:=(o3 K a).2 P w base N;exact bh (k:=2) 1 1 _ N.G1 oQ rfl rfl λc A outer s H E d=>ai (aE (ay (aW rfl (cso ["_law_column"] ["_law_column"] []) (bf (vc b d (va1 (vv 0)))) (λcl C e s H=>⟨(pgN 0 ndc),aQ,λD=>aJ rfl (fS N.Dz (va1 (vv 0))) rfl⟩) ak au (λD=>aP)))),N.G2,N.G1.kp,N.G3⟩⟩
theorem rj:FnScope ["_law_block","_law_columns"] ["_law_block","_law_columns"] (af uc):=fsc
def nQ(K:Po)(a:Ad):{m:List D->M D//∀(P:Pt) (w:PV) {mg:PY->Option OX} (base:P7) (N:Fns K mg a),FB P w K mg base 2 "_law_free" a.Ck a.Cl ["_law_block","_law_columns"] 2 m}:=⟨_,λP w mg base N=>⟨by
 exact bh (k:=1) 2 2 _ N.G4 rj rfl rfl λb A outer s H E d=>ai (aE (ay (aW rfl (cso ["_law_at","_law_columns"] ["_law_at"] [1]) (bS (by rfl) N.Dv (va1 (vv 0))) (λcl C c s H=>⟨(pgN 0 ndc),aQ,λD=>aJ rfl (aW rfl (cso ["_law_to"] ["_law_to"] []) (bS (by rfl) N.Dv (va1 (vv 1))) (λcl C c s H=>⟨(pgN 0 ndc),aQ,λD=>aJ rfl (cT (va2 (aw) (aw))) rfl⟩) ak au (λD=>aP)) rfl⟩) ak au (λD=>aP)))),N.G5,N.G4.kp,N.G6⟩⟩
def rK(K:Po)(a:Ad):G:=
  lR (iS 1 [1] (bj dm (aa (ae 0) (aq))) (tgC 0) (λ_=>M.ret OV) (vh (gH 1 [] (bj dm (aa (ae 1) (aq))) (tgC 0) (λ_=>M.ret OV) (cEm (az cj (aa (fC (.int 0)) (aa (fC (.int 40)) (aq))))))))
def lH(K:Po)(a:Ad):List D->M (List (List D)):=mZ 2 (rK K a)
theorem xD(N:Fns K mg a):FnOk P w K mg base (CXE P w) 2 a.Ck a.Cl ["_law_block","_law_columns"] (spG K 2 (lH K a)):=by
 unfold lH;exact KO (k:=1) 2 2 (rK K a) N.G4 rj rfl rfl λb A outer s H E d=>ai (JY (ay (MA rfl (cso ["_law_at","_law_columns"] ["_law_at"] [1]) (bS (by rfl) N.Dv (va1 (vv 0))) (λcl C c s H=>⟨(pgN 0 ndc),aQ,λD=>aJ rfl (Md rfl (cso ["_law_to"] ["_law_to"] []) (bS (by rfl) N.Dv (va1 (vv 1))) (λcl C c s H=>⟨(pgN 0 ndc),aQ,λD=>aJ rfl (cT (va2 (aw) (aw))) rfl⟩) ak au (λD=>aP)) rfl⟩) ak au (λD=>wq))))
theorem dj:FnScope ["_law_bag_here","_law_grid_here","_law_told","_law_at","_law_row","_law_to","_law_count","_law_way"] ["_law_bag_here","_law_grid_here"] (af oU):=fsc
def ii(K:Po)(a:Ad):{m:List D->M D//∀(P:Pt) (w:PV) {mg:PY->Option OX} (base:P7) (N:Fns K mg a),FB P w K mg base 3 "_law_bounds" a.Cm a.Cn ["_law_bag_here","_law_grid_here"] 2 m}:=⟨_,λP w mg base N=>⟨by
 have c:=xD P w base N;have b:=jg P w base N
 exact bh (k:=2) 2 8 _ N.G7 dj rfl rfl λe A outer s H E d=>ag (IA (psS 2 dj.nd (MB c (d.mono (by decide)) (by rfl) N.G5 N.G4.kp N.G6 dg (va2 (cY N.Dq (va1 (vv 1))) (cY N.Dq (va1 (cI bc cR (vv 1) (aw))))) (aF (aF aN0)))))
   (ag (bQ (bo (cr d) dh (vc b d (va2 (vv 0) (aw))) (aw)) (ai (aE (ay (vv 2)))) (br))
   (ag (ci (iR (bR aR (bR aR gh)) (bO (bO ft))) (bC dn rfl (lP (by rfl) N.Dm (va1 (vv 1))) (bx rfl (ax (pgN 3 dj.nd) (ax (pgN 4 dj.nd) bi))) (ai (ci (iR (bR aR (bR aR gh)) (bO (bO ft))) (bC dn rfl (lP (by rfl) N.Dm (va1 (vv 4))) (bx rfl (ax (pgN 5 dj.nd) (ax (pgN 6 dj.nd) bi))) (ag (aN (psS 7 dj.nd (vc b d (va2 (vv 0) (aw)))))
   (ag (bQ (bo (cr d) dh (vv 7) (aw)) (ai (ud (gB (cT (va2 (bB iK kj (vv 6) (vc b d (va2 (vv 0) (bB aY cU (vv 6) (aw))))) (bT (jj rfl) sQ (by rfl) N.Du PyProof.Rows.Boot.«min» (va2 (aw) (bB aY cU (vv 6) (vc b d (va2 (vv 0) (aw)))))))) (jG (gr dR (pv 2) (vv 3) (λ_ _=>rfl)) (vv 5) gf)))) (br))
   (ai (bQ (bo (cr d) dh (vv 7) (aw)) (ai (ud (gB (cT (va2 (aw) (bT (rV rfl) IN (by rfl) N.Dt PyProof.Rows.Boot.«max» (va2 (vv 6) (vc b d (va2 (vv 0) (aw))))))) (jG (gr dR (pv 2) (vv 3) (λ_ _=>rfl)) (vv 5) gf)))) (br))))))))))
   (ai (aE (ay (vv 2)))))),N.G8,N.G7.kp,N.G9⟩⟩
theorem vq:FnScope ["_law_block"] ["_law_block"] (af oS):=fsc
def o4(K:Po)(a:Ad):{m:List D->M D//∀(P:Pt) (w:PV) {mg:PY->Option OX} (base:P7) (N:Fns K mg a),FB P w K mg base 2 "_law_copied" a.Co a.Cp ["_law_block"] 1 m}:=⟨_,λP w mg base N=>⟨by
 exact bh (k:=1) 1 1 _ N.Ha vq rfl rfl λb A outer s H E c=>ai (aE (ay (aW rfl (cso ["_law_row"] ["_law_row"] []) (bf (vv 0)) (λcl C d s H=>⟨(pgN 0 ndc),aQ,λD=>aJ rfl (bN bw d9 (by rfl) N.Dr PyProof.Rows.Boot.«list» (va1 (vv 0))) rfl⟩) ak au (λD=>aP)))),N.Hb,N.Ha.kp,N.Hc⟩⟩
theorem dZ:FnScope ["_law_rests","_law_lot","_law_pairs","_law_found","_law_rest","_law_duo","_law_longer","_law_one","_law_count"] ["_law_rests","_law_lot","_law_pairs"] (af vV):=fsc
def qt(K:Po)(a:Ad):{m:List D->M D//∀(P:Pt) (w:PV) {mg:PY->Option OX} (base:P7) (N:Fns K mg a),FB P w K mg base 2 "_law_fit" a.Cq a.Cr ["_law_rests","_law_lot","_law_pairs"] 3 m}:=⟨_,λP w mg base N=>⟨by
 exact bh (k:=1) 3 9 _ N.Hd dZ rfl rfl λb A outer s H E c=>ag (aN (psS 3 dZ.nd (fR (va1 (fR (gv))))))
   (ag (ci (iR (bR aR (bR aR gh)) (bO (bO ft))) (bC dn rfl (pL (by rfl) N.D3 (va2 (vv 0) (vv 2))) (bx rfl (ax (pgN 4 dZ.nd) (ax (pgN 5 dZ.nd) bi))) (ag (sI (psS 6 dZ.nd (gC (gv))))
   (ag (ci aR (bC dn rfl (bf (vv 3)) (pgN 7 dZ.nd) (ai (ci aR (bC dn rfl (n5 (by rfl) N.Dv (va2 (cI bc cR (vv 5) (aw)) (bB aY cU (bT (jj rfl) sQ (by rfl) N.Du PyProof.Rows.Boot.«min» (va2 (cI bc cR (vv 5) (aw)) (vv 4))) (aw)))) (pgN 8 dZ.nd) (ai (sJ (c9 (sN S8 SR SS i9 (pv 6) (va1 (bB aY cU (vv 7) (fR (va1 (vv 8))))))))))))))
   (Lq 6 (ai (aN (psS 3 dZ.nd (vv 6)))))))))
   (ai (aE (ay (aW rfl (cso ["_law_one","_law_lot"] ["_law_one"] [1]) (bf (vv 3)) (λcl C d s H=>⟨(pgN 0 ndc),sW (bo (cr c) dh (fS N.Dz (va1 (vv 0))) (vv 1)),λD=>aJ rfl (vv 0) rfl⟩) ak au (λD=>aP)))))),N.He,N.Hd.kp,N.Hf⟩⟩
theorem y9:FnScope ["_law_rests","_law_column"] ["_law_rests","_law_column"] (af ua):=fsc
def nP(K:Po)(a:Ad):{m:List D->M D//∀(P:Pt) (w:PV) {mg:PY->Option OX} (base:P7) (N:Fns K mg a),FB P w K mg base 2 "_law_less" a.Cs a.Ct ["_law_rests","_law_column"] 2 m}:=⟨_,λP w mg base N=>⟨by
 exact bh (k:=1) 2 2 _ N.Hg y9 rfl rfl λb A outer s H E c=>ai (aE (ay (aW rfl (cso ["_law_rest","_law_count"] ["_law_rest","_law_count"] []) (pL (by rfl) N.D3 (va2 (vv 0) (vv 1))) (λcl C d s H=>⟨(bx rfl (ax (pgN 0 ndc) (ax (pgN 1 ndc) bi))),aQ,λD=>aJ rfl (bB iK kj (vv 0) (vv 1)) rfl⟩) (cP (aM ak (aM ak cf)) (aK (aK bG))) (cM (aL au (aL au bY))) (λD=>aP)))),N.Hh,N.Hg.kp,N.Hi⟩⟩
theorem bP:FnScope ["_law_rowsums_here","_law_columnsums_here","_law_limits","_law_found","_law_to","_law_lot","_law_longer","_law_told","_law_rests","_law_column"] ["_law_rowsums_here","_law_columnsums_here","_law_limits"] (af m9):=fsc
def jr(K:Po)(a:Ad):{m:List D->M D//∀(P:Pt) (w:PV) {mg:PY->Option OX} (base:P7) (N:Fns K mg a),FB P w K mg base 3 "_law_listing" a.Cu a.Cv ["_law_rowsums_here","_law_columnsums_here","_law_limits"] 3 m}:=⟨_,λP w mg base N=>⟨by
 have c:=(qt K a).2 P w base N;have b:=(nP K a).2 P w base N
 exact bh (k:=2) 3 10 _ N.Hj bP rfl rfl λe A outer s H E d=>ag (aN (psS 3 bP.nd (fR (va1 (cT (va2 (fR (gv)) (bN bw d9 (by rfl) N.Dr PyProof.Rows.Boot.«list» (va1 (vv 0)))))))))
   (ag (ci (iR (bR aR (bR aR gh)) (bO (bO ft))) (bC dn rfl (lP (by rfl) N.Dm (va1 (vv 1))) (bx rfl (ax (pgN 4 bP.nd) (ax (pgN 5 bP.nd) bi))) (ag (sI (psS 6 bP.nd (gC (gv))))
   (ag (ci (iR (bR aR (bR aR gh)) (bO (bO ft))) (bC dn rfl (bf (vv 3)) (bx rfl (ax (pgN 7 bP.nd) (ax (pgN 8 bP.nd) bi))) (ai (ci aR (bC dn rfl (bf (vc c d (va3 (vv 8) (vv 5) (aW rfl (cso ["_law_row","_law_to"] ["_law_row"] [4]) (bf (vv 2)) (λcl C f s H=>⟨(pgN 0 ndc),aQ,λD=>aJ rfl (cI bc cR (vv 0) (vv 1)) rfl⟩) ak au (λD=>aP))))) (pgN 9 bP.nd) (ai (sJ (c9 (sN S8 SR SS i9 (pv 6) (va1 (cT (va2 (bB aY cU (vv 7) (fR (va1 (vv 9)))) (vc b d (va2 (vv 8) (vv 9)))))))))))))))
   (Lq 6 (ai (aN (psS 3 bP.nd (vv 6)))))))))
   (ai (aE (ay (aW rfl (cso ["_law_told","_law_rests"] ["_law_told","_law_rests"] []) (bf (vv 3)) (λcl C f s H=>⟨(bx rfl (ax (pgN 0 ndc) (ax (pgN 1 ndc) bi))),aQ,λD=>aJ rfl (vv 0) rfl⟩) (cP (aM ak (aM ak cf)) (aK (aK bG))) (cM (aL au (aL au bY))) (λD=>aP)))))),N.Hk,N.Hj.kp,N.Hl⟩⟩
theorem CN:FnScope ["_law_grid_here","_law_limits"] ["_law_grid_here","_law_limits"] (af vX):=fsc
def v4(K:Po)(a:Ad):{m:List D->M D//∀(P:Pt) (w:PV) {mg:PY->Option OX} (base:P7) (N:Fns K mg a),FB P w K mg base 4 "_law_all" a.Cw a.Cy ["_law_grid_here","_law_limits"] 2 m}:=⟨_,λP w mg base N=>⟨by
 have c:=(gq K a).2 P w base N;have b:=(eF K a).2 P w base N;have d:=(jr K a).2 P w base N;exact bh (k:=3) 2 2 _ N.Hm CN rfl rfl λf A outer s H E e=>ai (aE (ay (vc d e (va3 (vc c e (va1 (vv 0))) (vc b e (va1 (vv 0))) (vv 1))))),N.Hn,N.Hm.kp,N.Ho⟩⟩
theorem iY:FnScope ["self","rowsums","columnsums","bounds","settled"] ["self","rowsums","columnsums","bounds"] (af jE):=fsc
def uP(K:Po)(a:Ad):IP:=
  mH (fY 4 (ck (dz K a).1 (aa (ae 1) (aa (ae 2) (aa (ae 3) (aq))))))
  (mH (eK (ck (eV K a).1 (aa (ae 1) (aa (ae 2) (aa (ae 4) (aq))))))
  (jd (az mC (aa (ae 1) (aq)))
  (jd (az mC (aa (ae 2) (aq)))
  (jd (ae 4)
  (jd (ck (dU K a).1 (aa (ae 1) (aa (ae 2) (aa (ae 4) (aq)))))
  (IS))))))
def lF(K:Po)(a:Ad):List D->M (List D):=mI 5 (uP K a)
theorem wg(N:Fns K mg a):FnOk P w K mg base (CXE P w) 7 a.C3 a.C4 ["self","rowsums","columnsums","bounds"] (spI K a.An ["row_list","column_list","pairs","counted"] 3 (lF K a)):=by
 have c:=(dU K a).2 P w base N;have d:=(eV K a).2 P w base N;have b:=(dz K a).2 P w base N;unfold lF
 exact KN (k:=6) 3 5 (uP K a) N.Hu iY rfl rfl λf A outer s H E e=>IT (aN (psS 4 iY.nd (vc b e (va3 (vv 1) (vv 2) (vv 3)))))
   (IT (oW (c9 (vc d e (va3 (vv 1) (vv 2) (vv 4)))))
   (sS N.Im N.Ix (by decide) (by decide) (o7 (pv 0) (bN bw d9 (by rfl) N.Dr PyProof.Rows.Boot.«list» (va1 (vv 1))) rfl)
   (sS N.Im N.Ir (by decide) (by decide) (o7 (pv 0) (bN bw d9 (by rfl) N.Dr PyProof.Rows.Boot.«list» (va1 (vv 2))) rfl)
   (sS N.Im N.Iw (by decide) (by decide) (o7 (pv 0) (vv 4) rfl)
   (sS N.Im N.Iu (by decide) (by decide) (o7 (pv 0) (vc c e (va3 (vv 1) (vv 2) (vv 4))) rfl)
   (OD))))))
theorem CL:FnScope ["_law_grid_here","_law_limits"] ["_law_grid_here","_law_limits"] (af vU):=fsc
def qr(K:Po)(a:Ad):{m:List D->M D//∀(P:Pt) (w:PV) {mg:PY->Option OX} (base:P7) (N:Fns K mg a),FB P w K mg base 9 "_law_net" a.Cz a.C0 ["_law_grid_here","_law_limits"] 2 m}:=⟨_,λP w mg base N=>⟨by
 have c:=(gq K a).2 P w base N;have b:=(eF K a).2 P w base N;have e:=wg P w base N;have d:=(o4 K a).2 P w base N;exact bh (k:=8) 2 2 _ N.Hq CL rfl rfl λg A outer s H E f=>ai (aE (ay (qh N.Hv e (f.mono (by decide)) (by rfl) N.Io N.Hw dg (va2 (vc c f (va1 (vv 0))) (vc b f (va1 (vv 0)))) (qg (vc d f (va1 (vv 1))) (tE)) (aF (aF aN0)) (aF aN0) rfl))),N.Hr,N.Hq.kp,N.Ht⟩⟩
theorem sy:FnScope ["self","other"] ["self","other"] (af k9):=fsc
def fW(K:Po)(a:Ad):{m:List D->M D//∀(P:Pt) (w:PV) {mg:PY->Option OX} (base:P7) (N:Fns K mg a),FnOk P w K mg base (CXE P w) 2 a.C5 a.C6 ["self","other"] (spF K 2 m)}:=⟨_,λP w mg base N=>by
 exact bh (k:=1) 2 2 _ N.Hy sy rfl rfl λc A outer s H E b=>ai (aE (ay (mh (bT BG (Mr N.Ip) (by rfl) N.Dp PyProof.Rows.Boot.«isinstance» (ir (vv 1) (ir (NY (by rfl) N.Io) gv))) (mh (eC (cr b) dh (ia N.Im N.Ix (vv 0)) (ia N.Im N.Ix (vv 1))) (mh (eC (cr b) dh (ia N.Im N.Ir (vv 0)) (ia N.Im N.Ir (vv 1))) (w8 (eC (cr b) dh (ia N.Im N.Iw (vv 0)) (ia N.Im N.Iw (vv 1)))))))))⟩
theorem nJ:FnScope ["self","level","rests"] ["self","level","rests"] (af i5):=fsc
def fV(K:Po)(a:Ad):{m:List D->M D//∀(P:Pt) (w:PV) {mg:PY->Option OX} (base:P7) (N:Fns K mg a),FnOk P w K mg base (CXE P w) 2 a.C9 a.Da ["self","level","rests"] (spF K 3 m)}:=⟨_,λP w mg base N=>by
 exact bh (k:=1) 3 3 _ N.Ig nJ rfl rfl λb A outer s H E c=>ai (aE (ay (NX (hu2 c) (ia N.Im N.Iu (vv 0)) (va2 (cT (va2 (vv 1) (vv 2))) (cT (va2 (aw) (aw)))))))⟩
theorem sw:FnScope ["self"] ["self"] (af k8):=fsc
def ly(K:Po)(a:Ad):{m:List D->M D//∀(P:Pt) (w:PV) {mg:PY->Option OX} (base:P7) (N:Fns K mg a),FnOk P w K mg base (CXE P w) 3 a.C7 a.C8 ["self"] (spF K 1 m)}:=⟨_,λP w mg base N=>by
 have b:=(fV K a).2 P w base N;exact bh (k:=2) 1 1 _ N.Ib sw rfl rfl λd A outer s H E e=>ai (aE (ay (cI bc cR (K5 N.Im N.Ih b (e.mono (by decide)) (fq.nil N.Ii) dg (vv 0) (va2 (aw) (bN g0 qz (by rfl) N.D0 PyProof.Rows.Boot.«tuple» (va1 (ia N.Im N.Ix (vv 0))))) (λδ β r c h=>by rw[(aF (aF aN0)) δ β r c h];rfl)) (aw))))⟩
theorem tY:FnScope ["self"] ["self"] (af nh):=fsc
def nk(K:Po)(a:Ad):{m:List D->M D//∀(P:Pt) (w:PV) {mg:PY->Option OX} (base:P7) (N:Fns K mg a),FnOk P w K mg base (CXE P w) 3 a.Db a.Dd ["self"] (spF K 1 m)}:=⟨_,λP w mg base N=>by
 have b:=(uk K a).2 P w base N;exact bh (k:=2) 1 1 _ N.Ij tY rfl rfl λc A outer s H E d=>ai (aE (ay (vc b d (va1 (ia N.Im N.Iu (vv 0))))))⟩
theorem cq:FnScope ["_law_script","_law_bag_here","_law_grid_here","_law_other","_law_limits","_law_pairs","_law_way","_law_one","_law_two","_law_rowsums_here","_law_columnsums_here","_law_alike","_law_plain","_law_loose"] ["_law_script"] (af mt):=fsc
def oZ(K:Po)(a:Ad):{g:G//∀(P:Pt) (w:PV) {mg:PY->Option OX} (base:P7) (N:Fns K mg a) (f:OZ) (u:OX) (A:Qn) (outer:List Wc) (s:O7) (H:Hp) (E:XK),Room 9 (A.deeper (PyProof.Rows.envOfC "law" (af mt) s.heap.objs.size f u))->PSs (dy (CXE P w) P w K mg base ["_law_script","_law_bag_here","_law_grid_here","_law_other","_law_limits","_law_pairs","_law_way","_law_one","_law_two","_law_rowsums_here","_law_columnsums_here","_law_alike","_law_plain","_law_loose"] "law" (af mt) f u A outer s H E) (cw mt).tail (tG K H g (λ_=>E))}:=⟨_,λP w mg base N f u A outer s H E d=>by
 have k:=(i7 K a).2 P w base N;have e:=(ii K a).2 P w base N;have p:=jg P w base N;have o:=(qr K a).2 P w base N;have j:=(gq K a).2 P w base N;have c:=(eF K a).2 P w base N;have b:=(fW K a).2 P w base N;have i:=zB P w base N;have m:=(nk K a).2 P w base N;have n:=wg P w base N;have q:=(nQ K a).2 P w base N;have l:=(ly K a).2 P w base N;have t:=(v4 K a).2 P w base N
 exact ag (aN (psS 2 cq.nd (vc k d (va1 (vv 1)))))
   (ag (aN (psS 3 cq.nd (vc k d (va1 (vv 1)))))
   (ag (aN (psS 4 cq.nd (vc e d (va2 (vv 1) (vv 2)))))
   (ag (aN (psS 5 cq.nd (vc e d (va2 (vv 1) (vv 3)))))
   (ag (aN (psS 6 cq.nd (vc p d (va2 (vv 1) (aw)))))
   (ag (bQ (bo o9 uK (vv 6) (aw)) (ag (aN (psS 3 cq.nd (vv 2)))
   (ai (aN (psS 5 cq.nd (vc e d (va2 (vv 1) (vv 2))))))) (br))
   (ag (bQ (bo (cr d) dh (vv 6) (aw)) (ai (aN (psS 5 cq.nd (vv 4)))) (br))
   (ag (aN (psS 7 cq.nd (vc o d (va2 (vv 2) (vv 4)))))
   (ag (aN (psS 8 cq.nd (vc o d (va2 (vv 3) (vv 5)))))
   (ag (aN (psS 9 cq.nd (vc j d (va1 (vv 2)))))
   (ag (aN (psS 10 cq.nd (vc c d (va1 (vv 2)))))
   (ag (aN (psS 11 cq.nd (mh (eC (cr d) dh (vv 9) (vc j d (va1 (vv 3)))) (mh (eC (cr d) dh (vv 10) (vc c d (va1 (vv 3)))) (w8 (eC (cr d) dh (vv 4) (vv 5)))))))
   (ag (bQ (jz (qf (mj (jW (vc i d (va2 (jS N.Hz b (d.mono (by decide)) N.Ia dg N.Iq (vv 7) (vv 8)) (vv 11))))) (md (mj (jW (vc i d (va2 (jS N.Hz b (d.mono (by decide)) N.Ia dg N.Iq (vv 8) (vv 7)) (vv 11)))))))) (ai (aE (ay (f9)))) (br))
   (ag (bQ (jz (qf (bo mz pC (jS N.Hz b (d.mono (by decide)) N.Ia dg N.Iq (vv 7) (vv 9)) (f9)) (md (bo mz pC (jS N.Hz b (d.mono (by decide)) N.Ia dg N.Iq (vv 7) (vI N.Im N.Ik m (d.mono (by decide)) (fq.nil N.Il) dg (vv 7) rfl)) (f9))))) (ai (aE (ay (f9)))) (br))
   (ag (aN (psS 12 cq.nd (K6 N.Hv n (d.mono (by decide)) (by rfl) N.Io N.Hx dg (va2 (bN bw d9 (by rfl) N.Dr PyProof.Rows.Boot.«list» (va1 (vv 9))) (bN bw d9 (by rfl) N.Dr PyProof.Rows.Boot.«list» (va1 (vv 10)))) (λδ β r v h=>by rw[(aF (aF aN0)) δ β r v h];rfl))))
   (ag (aN (psS 13 cq.nd (vc q d (va2 (cY N.Dq (va1 (vv 2))) (cY N.Dq (va1 (cI bc cR (vv 2) (aw))))))))
   (ag (bQ (mj (jW (vc i d (va2 (jS N.Hz b (d.mono (by decide)) N.Ia dg N.Iq (vv 12) (vv 7)) (eC (cr d) dh (vv 4) (vv 13)))))) (ai (aE (ay (f9)))) (br))
   (ag (bQ (bo mz pC (jS N.Hz b (d.mono (by decide)) N.Ia dg N.Iq (vv 12) (qh N.Hv n (d.mono (by decide)) (by rfl) N.Io N.Hw dg (va2 (bN bw d9 (by rfl) N.Dr PyProof.Rows.Boot.«list» (va1 (vv 9))) (bN bw d9 (by rfl) N.Dr PyProof.Rows.Boot.«list» (va1 (vv 10)))) (qg (sG) (tE)) (aF (aF aN0)) (aF aN0) rfl)) (f9)) (ai (aE (ay (f9)))) (br))
   (ag (bQ (bo mz pC (jS N.Hz b (d.mono (by decide)) N.Ia dg N.Iq (vv 12) (qh N.Hv n (d.mono (by decide)) (by rfl) N.Io N.Hw dg (va2 (bN bw d9 (by rfl) N.Dr PyProof.Rows.Boot.«list» (va1 (vv 9))) (bN bw d9 (by rfl) N.Dr PyProof.Rows.Boot.«list» (va1 (vv 10)))) (qg (vv 13) (tE)) (aF (aF aN0)) (aF aN0) rfl)) (f9)) (ai (aE (ay (f9)))) (br))
   (ai (aE (ay (vc i d (va2 (vI N.Im N.Id l (d.mono (by decide)) (fq.nil N.Ie) dg (vv 7) rfl) (cY N.Dq (va1 (vc t d (va2 (vv 2) (vv 4))))))))))))))))))))))))))))⟩
theorem Mc{f:OZ}{o:PL}(F:FunD K "law" "law" mt f o)(N:Fns K mg a)(T:∀β:Bg,β.ok->∃d,(oZ K a).1 [OR,on (.sh .bag),OR,OR,OR,OR,OR,OR,OR,OR,OR,OR,OR,OR] β=on (.rt (.bl OV),d)):
  FnOk P w K mg base (CXE P w) 10 f o ["_law_script"] (HX K):=by
 have c:=DH P w base N;refine F.okE (k:=9) cq (λvs H Q E h=>?_) (λg A outer s H vs Q E p h=>?_)
 ·obtain⟨a,ns,rfl,_⟩:=h
  rfl
 ·obtain⟨a1,ns,rfl,r,q,k⟩:=h
  have rest:=(oZ K a).2 P w base N f g A outer s H E p;refine⟨_,cA (rest:=(cw mt).tail) (psS 1 cq.nd (mx c (p.mono (by decide)) rfl N.Gd N.Gc.kp N.Ge .nil dW (bt (pv 0) d7))) rest,?_⟩;refine⟨_,rfl,a1,ns,rfl,r,λb l C i j t u=>?_⟩;obtain⟨β,ok,m⟩:=K1 (K:=K) (a:=a1) (n:=["_law_script","_law_bag_here","_law_grid_here","_law_other","_law_limits","_law_pairs","_law_way","_law_one","_law_two","_law_rowsums_here","_law_columnsums_here","_law_alike","_law_plain","_law_loose"].length-2) u i j t;obtain⟨d,e⟩:=T β ok;exact⟨_,_,_,β,_,d,m,e,λv I y s fr B=>by cases B.bl;exact k y⟩
end
end Law
namespace Law
open PySem L2 L2.Pu L2.Nt
section
variable{K:Po}{a:Ad}{β:Bg}
abbrev tN(l:List Nat):D:=tpI (nI l)
abbrev eN(b:List Nat×Nat):D:= .tup [tN b.1,.int (b.2:Int)]
abbrev pN(p:Nat×Nat):D:=pD ((p.1:Int),(p.2:Int))
def Nrw(r:List Nat):Prop:=1<=r.length/\r.length<=4/\r.sum<=40/\pr (r.map (·+1))<=500
theorem oz{f g:FD}{δ:Dn}{x y:D}{ds es:List D}(b:f δ β=on (.ok x,β))(c:g δ β=on (.ok y,β))(d:dT x=on ds)(e:dT y=on es):iO (aa f (aa g aq)) δ β=on (.ok (dA ds es),β):=bq (ac b (ac c rfl)) (by
 unfold tz;simp only[d,e,Qt,Qu])
theorem Lz{lo:Nat}{h:Int}(b:-1000<=h)(c:h<=1000)(d:lo<=1000):nN [.int (lo:Int),.int h]=on ((O6 (h-lo).toNat).map λi=>D.int ((lo+i:Nat):Int)):=by
 have e:nN [.int (lo:Int),.int h]=on (aU lo (h-lo).toNat):=by
  simp only[nN];rw[O8 (by simp only[PU,P3];omega)]
 rw[e];exact Qr on (P0 λi _=>by congr 1)
theorem addT{l:List Nat}{c:Nat}(h:l.length<=100):kG (tN l) (.tup [.int (c:Int)])=on (tN (l++[c])):=by
 cases l with
 |nil=>rfl
 |cons x l=>
  show(if _ then _ else _)=_;rw[O8 (aX (by simp at h⊢;omega))];simp[tpI]
theorem yU(l:List Nat)(k:Nat):gn [.lst (((nI l).map D.int).drop k)]=on (.int (((l.drop k).sum:Nat):Int)):=by
 rw[←TL,←TL];exact(eD _).trans (by rw[←jI])
theorem yN:∀{r:List Nat} {ps:List (Nat×Nat)},(r.zip ps).map (λq=>D.int (Sz (q.1:Int) (q.2.2:Int)))=(nI (tps ps r)).map D.int
 |[],_=>by cases ‹List (Nat×Nat)›<;>rfl
 |_::_,[]=>rfl
 |x::r,p::ps=>by
  have e:=yN (r:=r) (ps:=ps);show _::_=D.int ((Sz x p.2:Nat):Int)::(nI (tps ps r)).map D.int;rw[←e];show D.int (Sz (x:Int) (p.2:Int))::_=_;rw[show Sz (x:Int) (p.2:Int)=((Sz x p.2:Nat):Int) by omega];rfl
theorem yL:∀{ps:List (Nat×Nat)} {r:List Nat} {k:Nat} (b:k<ps.length) (c:k<r.length),(tps ps r)[k]?=on (Sz r[k] ps[k].2)
 |p::ps,x::r,0,_,_=>rfl
 |p::ps,x::r,k+1,b,c=>yL (k:=k) (by simpa using b) (by simpa using c)
abbrev uW(ps:List (Nat×Nat))(r:List Nat)(c:Nat)(st:D)(b d e:Option Sl):Ds:=[on (.sh (tN r)),on (.sh (.int (c:Int))),on (.sh (.lst (ps.map pN))),on (.sh (.lst ((nI (los ps)).map .int))),on (.sh (.lst ((nI (tps ps r)).map .int))),on (.sh st),b,d,e]
theorem MF{ps:List (Nat×Nat)}{r:List Nat}{c:Nat}(F:Nrw r)(v:ps.length=r.length)(w:∀p∈ps,p.1<=40/\p.2<=40)(P:c<=40):(j3 K a).1 [tN r,.int (c:Int),.lst (ps.map pN)] β=on (.ok (.lst ((vB ps r c).map tN)),β):=by
 obtain⟨_,Q,hs,R⟩:=F;have H:r.length<=Pe:=aX (by omega);have o:∀k,k<=r.length->(stB ps r c k).length<=Pe:=λk m=>aX (Px (vN c k m) (Px (xA r k) (by omega)));unfold j3
 dsimp only
 refine aO ?_;refine aI (d:= .lst ((nI (los ps)).map .int)) (β1:=β) ?_ ?_
 ·have:=aT (nv:=2) (caps:=[]) (it:=cB (ae 2)) (tg:=tgT (dB (tgC 0) (dB (tgC 1) gQ))) (f:=ae 0) (δ:=vw (uW ps r c .non OR OR OR)) (β:=β) ps pN (λp=> .int (p.1:Int)) rfl (λx _=>⟨[on (.int (x.1:Int)),on (.int (x.2:Int))],rfl,rfl⟩) (by rw[v];exact H)
  refine Eq.trans this ?_;unfold los;rw[Pd,Pd];rfl
 refine aI (d:= .lst ((nI (tps ps r)).map .int)) (β1:=β) ?_ ?_
 ·rw[←yN]
  exact aT (nv:=3) (caps:=[]) (it:=iO (aa (ae 0) (aa (ae 2) (aq)))) (tg:=tgT (dB (tgC 0) (dB (tgT (dB (tgC 1) (dB (tgC 2) gQ))) gQ))) (f:=az uy (aa (ae 0) (aa (ae 2) (aq)))) (δ:=vw (uW ps r c .non OR OR OR)) (β:=β) (r.zip ps) (λq=>D.tup [.int (q.1:Int),pN q.2]) _ (by
   rw[←iB (λx:Nat=>D.int (x:Int)) pN];refine oz (x:=tN r) (y:= .lst (ps.map pN)) rfl rfl ?_ rfl;show on _=on _;rw[Pd];rfl) (λq _=>⟨[on (.int (q.1:Int)),on (.int (q.2.1:Int)),on (.int (q.2.2:Int))],rfl,aj rfl xG⟩) (aX (by rw[Tc];omega))
 refine aI (d:= .lst ((stB ps r c 0).map eN)) (β1:=β) (aj (ac (aj (ac (aj rfl rfl) (ac rfl rfl)) gc) rfl) lJ) ?_;refine cg (ds:=aU 0 r.length) (β1:=β) (bq (ac (aj (z:= .int (r.length:Int)) rfl (by show on (D.int _)=_;rw[OS,OS])) rfl) (rg1 (by omega) (by omega))) (λk δ B=>β=B/\∃A t u,δ=uW ps r c (.lst ((stB ps r c k).map eN)) A t u) ⟨rfl,OR,OR,OR,rfl⟩ ?_ ?_
 ·rintro k d δ _ hd ⟨rfl,A,t,u,rfl⟩
  obtain⟨m,rfl⟩:=IC hd;have j:k<ps.length:=by omega
  have I:ps[k]?=on ps[k]:=O0 j;have b40:=w _ (Qh j);have T:(los ps).sum<=160:=by
   have g:∀l:List (Nat×Nat),(∀p∈l,p.1<=40/\p.2<=40)->(los l).sum<=40*l.length:=λl=>by
    induction l with
    |nil=>intro _;exact O9 _
    |cons p l ih=>
     intro h;have:=ih λq v=>h q (OY _ v);have:=(h p O5).1;simp only[los,Ph,PQ,Pg]at*;omega
   have:=g ps w;omega
  have C:∀(l:List Nat) (n:Nat),(l.drop n).sum<=l.sum:=λl n=>by
   conv=>rhs;rw[←RP n l,Wh]
   omega
  have J:=C (los ps) (k+1);have L:=Px (C (tps ps r) (k+1)) yK;refine⟨uW ps r c (.lst ((stB ps r c k).map eN)) (on (.sh (.int (k:Int)))) t u,rfl,?_⟩;refine aI (d:= .int ((((los ps).drop (k+1)).sum:Nat):Int)) (β1:=β) (aj (ac (qW rfl (x_2 rfl rfl rfl)) rfl) ((Qr (λl=>gn [.lst l]) (u9 (k:=k+1))).trans (yU _ _))) ?_;refine aI (d:= .int ((((tps ps r).drop (k+1)).sum:Nat):Int)) (β1:=β) (aj (ac (qW rfl (x_2 rfl rfl rfl)) rfl) ((Qr (λl=>gn [.lst l]) (u9 (k:=k+1))).trans (yU _ _))) ?_;refine ar (aI (d:= .lst ((stB ps r c (k+1)).map eN)) (β1:=β) ?_ (bn ⟨rfl,_,_,_,rfl⟩));have e:(stB ps r c (k+1)).map eN=(stB ps r c k).flatMap λb=>(nxB r[k] ps[k] ((los ps).drop (k+1)).sum ((tps ps r).drop (k+1)).sum b).map eN:=by
   show((stB ps r c k).flatMap _).map eN=_;rw[Ra,gl m,gl j]
  rw[e];refine KU (stB ps r c k) eN _ rfl (λb w=>⟨[on (tN b.1),on (.int (b.2:Int)),OR,on (.lst ((nI (los ps)).map .int)),on (.int (k:Int)),on (.int ((((tps ps r).drop (k+1)).sum:Nat):Int)),on (.lst ((nI (tps ps r)).map .int)),on (.int ((((los ps).drop (k+1)).sum:Nat):Int))],rfl,?_⟩) (by
   rw[←e,OS];exact o (k+1) m)
  obtain⟨b2,b1⟩:=yW ps r c k b w;have U:=jL (Qh m);unfold nxB;generalize ((los ps).drop (k+1)).sum=few at*;generalize ((tps ps r).drop (k+1)).sum=most at*;refine(zG (O6 (Sz (Sz r[k] ps[k].2+few) b.2+1-few-YI ps[k].1 (b.2-most))) (λi=>D.int ((YI ps[k].1 (b.2-most)+i:Nat):Int)) (λi=>eN (b.1++[YI ps[k].1 (b.2-most)+i],b.2-(YI ps[k].1 (b.2-most)+i))) ?_ ?_).trans (by rw[Pd];rfl)
  ·refine bq (as:=[.int ((YI ps[k].1 (b.2-most):Nat):Int),.int (Sz ((Sz r[k] ps[k].2:Nat):Int) ((b.2:Int)-few)+1)]) (ac (aj (ac (x_2 rfl rfl (dD (d:= .int (ps[k].1:Int)) ?_)) (ac (x_2 rfl rfl rfl) rfl)) (Mi.trans ?_)) (ac (x_2 (aj (ac (x_2 rfl rfl (dD (d:= .int ((Sz r[k] ps[k].2:Nat):Int)) ?_)) (ac (x_2 rfl rfl rfl) rfl)) xG) rfl rfl) rfl)) ((Lz (by omega) (by omega) (by omega)).trans ?_)
   ·unfold los
    rw[O4,O4,O4,I];rfl
   ·rw[show YI (ps[k].1:Int) ((b.2:Int)-(most:Int))=((YI ps[k].1 (b.2-most):Nat):Int) by omega]
   ·rw[O4,O4,yL j m];rfl
   ·rw[show(Sz ((Sz r[k] ps[k].2:Nat):Int) ((b.2:Int)-few)+1-((YI ps[k].1 (b.2-most):Nat):Int)).toNat=Sz (Sz r[k] ps[k].2+few) b.2+1-few-YI ps[k].1 (b.2-most) by omega]
  ·refine λi N=>⟨[on (tN b.1),on (.int (b.2:Int)),on (.int ((YI ps[k].1 (b.2-most)+i:Nat):Int)),on (.lst ((nI (los ps)).map .int)),on (.int (k:Int)),on (.int (most:Int)),on (.lst ((nI (tps ps r)).map .int)),on (.int (few:Int))],rfl,aj (ac (x_2 rfl (aj rfl rfl) (addT (l:=b.1) (c:=YI ps[k].1 (b.2-most)+i) (by omega))) (ac (x_2 rfl rfl rfl) rfl)) (gc.trans ?_)⟩
   have O:=Pw.mp N;show on (D.tup [_,.int _])=on (D.tup [_,.int _]);rw[show(b.2:Int)-((YI ps[k].1 (b.2-most)+i:Nat):Int)=((b.2-(YI ps[k].1 (b.2-most)+i):Nat):Int) by omega]
 ·rintro δ _ ⟨rfl,A,t,u,rfl⟩
  rw[ue];have h:=kD (nv:=2) (caps:=[]) (it:=cB (ae 5)) (tg:=tgT (dB (tgC 0) (dB (tgC 1) gQ))) (tt:=fB (f2 (f6) (ae 1) (fC (.int 0)))) (f:=ae 0) (δ:=vwA (uW ps r c (.lst ((stB ps r c r.length).map eN)) A t u)) (β:=β) (stB ps r c r.length) eN (λb=>tN b.1) (λb=>decide ((b.2:Int)=0)) rfl (λb _=>⟨[on (tN b.1),on (.int (b.2:Int))],rfl,x_B (x_2 rfl rfl eq_int),λ_=>rfl⟩) (o _ (O9 _));refine ar (aS h ⟨rfl,?_⟩);rw[←JQ v,Pd];rfl
end
end Law
namespace Law
open PySem L2 L2.Pu L2.Nt
section
variable{K:Po}{a:Ad}{β:Bg}
theorem vg{α:Type}{tg:TgF}{b:FL}{δ:Dn}{β:Bg}(u:α->D)(o:α->List D):∀(xs:List α),(∀x∈xs,∃δ1,tg (u x) δ=on δ1/\b δ1 β=on (.ok (o x),β))->cLp tg (λ_=>M.ret OV) b (xs.map u) δ β=on (.ok (xs.flatMap o),β)
 |[],_=>rfl
 |x::xs,h=>by
  obtain⟨δ1,c,d⟩:=h x O5;have e:=vg u o xs λy f=>h y (OY _ f);rw[Ph,cLp];simp only[c,M.bind,M.ret,reduceIte,d,e,Qp]
theorem kE{α:Type}{nv:Nat}{caps:List Nat}{it:FL}{tg:TgF}{b:FL}{c:List D->Option D}{δ:Dn}{β:Bg}{d:D}(xs:List α)(u:α->D)(o:α->List D)(e:it δ β=on (.ok (xs.map u),β))
  (f:∀x∈xs,∃δ1,tg (u x) (cSt nv caps δ)=on δ1/\b δ1 β=on (.ok (o x),β)) (g:c (xs.flatMap o)=on d):gG nv caps it tg (λ_=>M.ret OV) b c δ β=on (.ok d,β):=by
 unfold gG;rw[e];simp only[vg u o xs f,g,Qu]
theorem Om{α:Type}{it:FL}{tg:TgF}{b:FL}{δ:Dn}{β:Bg}(xs:List α)(u:α->D)(o:α->List D)(c:it δ β=on (.ok (xs.map u),β))(d:∀x∈xs,∃δ1,tg (u x) δ=on δ1/\b δ1 β=on (.ok (o x),β)):cNx it tg (λ_=>M.ret OV) b δ β=on (.ok (xs.flatMap o),β):=by
 unfold cNx M.bind;rw[c];exact vg u o xs d
noncomputable abbrev aZ(B:List (List (Nat×Nat))):LP:=B.map λrow=>row.map λp=>((p.1:Int),(p.2:Int))
abbrev bDN(B:List (List (Nat×Nat))):D:=bD (aZ B)
noncomputable def oh(B:List (List (Nat×Nat)))(k:Nat):List (Nat×Nat):=B.map λrow=>row.getD k (0,0)
def BOk(r c:Nat)(B:List (List (Nat×Nat))):Prop:=Shp r c B/\∀row∈B,∀p∈row,p.1<=p.2/\p.2<=40
def wB(B:List (List (Nat×Nat)))(cs:List Nat):Wy:=λk r=>vB (oh B k) r (cs.getD k 0)
theorem HR(B:List (List (Nat×Nat)))(cs:List Nat):WOk cs (wB B cs):=λk r=>X0
theorem BOk.col{r c k:Nat}{B:List (List (Nat×Nat))}(h:BOk r c B)(e:k<c):(oh B k).length=r/\∀p∈oh B k,p.1<=40/\p.2<=40:=by
 refine⟨by unfold oh;rw[OS,h.1.1],λp d=>?_⟩;obtain⟨row,b,rfl⟩:=Pp.mp d;have l:=h.1.2 row b;rw[gl (by omega)];have:=h.2 row b _ (Qh (show k<row.length by omega));omega
theorem KW{r cs:List Nat}{B:List (List (Nat×Nat))}{k:Nat}(c:Nrw r)(hB:BOk r.length cs.length B)(i:cs.sum<=40)(e:k<cs.length):(cE K a).1 [tN r,nL cs,bDN B,.int (k:Int)] β=on (.ok (.lst ((wB B cs k r).map tN)),β):=by
 have g:cs[k]?=on (cs.getD k 0):=by rw[O1,O0 e];rfl
 obtain⟨l,q⟩:=hB.col e;unfold cE
 dsimp only
 refine aO (ar (aS (am (ac rfl (ac (x_2 rfl rfl (dD (d:= .int (cs.getD k 0:Int)) (by rw[O4,O4,g];rfl))) (ac ?_ rfl))) (MF c l q (Px (jL (PD g)) i))) ⟨rfl,rfl⟩));have h:=aT (nv:=1) (caps:=[3]) (it:=cB (ae 2)) (tg:=tgC 0) (f:=f2 ixD (ae 0) (ae 1)) (δ:=[on (tN r),on (nL cs),on (bDN B),on (.int (k:Int))]) (β:=β) B (λrow=>D.lst (row.map pN)) (λrow=>pN (row.getD k (0,0))) (dX rfl (by
  show on _=on _;rw[Pd,Pd];exact Qr on (P0 λrow _=>Qr D.lst (by show Rk pD (Rk _ row)=_;rw[Pd];rfl)))) (λrow b=>⟨[on (D.lst (row.map pN)),on (.int (k:Int))],rfl,x_2 rfl rfl (dD (by
   have l:=hB.1.2 row b;rw[O4,gl (by omega),O0 (by omega)];rfl))⟩) (aX (by rw[hB.1.1];have:=c.2.1;omega))
 refine h.trans ?_;unfold oh;rw[Pd];rfl
theorem uG:∀{r v:List Nat},LeN v r->(r.zip v).map (λp=>D.int ((p.1:Int)-(p.2:Int)))=(nI (less r v)).map D.int
 |[],[],_=>rfl
 |x::r,y::v,h=>by
  have e:=uG h.2;have b:=h.1;show _::_=D.int ((x-y:Nat):Int)::(nI (less r v)).map D.int;rw[←e];show D.int ((x:Int)-(y:Int))::_=_;rw[show(x:Int)-(y:Int)=((x-y:Nat):Int) by omega];rfl
 |[],_::_,h=>h.elim
 |_::_,[],h=>h.elim
theorem ID{r v:List Nat}(h:LeN v r)(b:r.length<=4):(eE K a).1 [tN r,tN v] β=on (.ok (tN (less r v)),β):=by
 unfold eE
 dsimp only
 refine aO (ar (aS (aj (ac (x:= .lst ((nI (less r v)).map D.int)) ?_ rfl) rfl) ⟨rfl,rfl⟩));rw[←uG h];refine aT (r.zip v) (λp=>D.tup [.int (p.1:Int),.int (p.2:Int)]) _ ?_ (λp _=>⟨[on (.int (p.1:Int)),on (.int (p.2:Int))],rfl,rfl⟩) (aX (by rw[Tc];omega));rw[←iB (λx:Nat=>D.int (x:Int)) (λx:Nat=>D.int (x:Int))];refine oz (x:=tN r) (y:=tN v) rfl rfl ?_ ?_
 ·show on _=on _
  rw[Pd];rfl
 ·show on _=on _
  rw[Pd];rfl
structure Nt0 (rs cs:List Nat):Prop where
 nr:Nrw rs
 wd:pr (rs.dropLast.map (·+1))<63
 sm:rs.sum=cs.sum
 c1:1<=cs.length
 c6:cs.length<=6
structure Nt1 (K:Po) (a:Ad) (rs cs:List Nat) (W:Wy) (bd:D):Prop extends Nt0 rs cs where
 ok:WOk cs W
 fl:∀{β:Bg} {k:Nat} {r:List Nat},k<cs.length->Nrw r->r.length=rs.length->(cE K a).1 [tN r,nL cs,bd,.int (k:Int)] β=on (.ok (.lst ((W k r).map tN)),β)
theorem Nt1.at{rs cs r:List Nat}{k:Nat}{W:Wy}{b:D}(h:Nt1 K a rs cs W b)(c:k<=cs.length)(d:r∈lvW W rs k):Nrw r/\r.length=rs.length/\r.sum<=40:=by
 have q:=(jK h.ok h.sm k c r d).1;obtain⟨e,f,g,i⟩:=h.nr;have q1:=q.len;have q2:=q.sum;have q3:=q.pr;exact⟨⟨by omega,by omega,by omega,by omega⟩,q1,by omega⟩
abbrev lvD(W:Wy)(rs:List Nat)(k:Nat):D:= .lst ((lvW W rs k).map tN)
theorem DK{rs cs:List Nat}{W:Wy}{b:D}(h:Nt1 K a rs cs W b):(fA K a).1 [nL rs,nL cs,b] β=on (.ok (.lst ((O6 (cs.length+1)).map (lvD W rs))),β):=by
 have c6:=h.c6;unfold fA
 dsimp only
 refine aO ?_;refine aI (d:=lvD W rs 0) (β1:=β) (aj (ac (aj rfl rfl) rfl) lJ) ?_;refine sD (ds:=[lvD W rs 0]) (β1:=β) rfl (show 1<=Pe by decide) ?_;refine cg (ds:=aU 0 cs.length) (β1:=β) (bq (ac (aj rfl (db (r:=cs.length) (by rw[OS,OS]))) rfl) (rg1 (by omega) (by omega))) (λk δ c=>β=c/\∃e f,δ=[on (.sh (nL rs)),on (.sh (nL cs)),on (.sh (b)),on (.sh (lvD W rs k)),on (.own ((O6 (k+1)).map (lvD W rs))),e,f]) ⟨rfl,OR,OR,rfl⟩ ?_ ?_
 ·rintro k d δ _ hd ⟨rfl,e,f,rfl⟩
  obtain⟨g,rfl⟩:=IC hd;refine⟨_,rfl,aI (d:=lvD W rs (k+1)) (β1:=β) ?_ (sE (cs:=(O6 (k+1)).map (lvD W rs)) (d:=lvD W rs (k+1)) rfl rfl (PM (show _<1000 by rw[OS,Pr];omega) (by decide)) (ar (aI (d:=lvD W rs (k+1)) (β1:=β) rfl (bn ⟨rfl,on (.sh (.int (k:Int))),on (.sh (lvD W rs (k+1))),?_⟩))))⟩
  ·refine kE (lvW W rs k) tN (λr=>(W k r).map λv=>tN (less r v)) rfl (λr j=>⟨[on (tN r),OR,on (nL cs),on (b),on (.int (k:Int))],rfl,?_⟩) ?_
   ·obtain⟨i,l,_⟩:=h.at (by omega) j
    exact zG _ tN _ (dX (am rfl (h.fl g i l)) rfl) (λv m=>⟨[on (tN r),on (tN v),on (nL cs),on (b),on (.int (k:Int))],rfl,am rfl (ID (fF ((h.ok k r).subset m)) i.2.1)⟩)
   ·rw[←Kn h.ok h.sm h.nr.1 h.wd g]
    unfold nwI;rw[Ra];simp only[Pd];rfl
  ·rw[Sj (n:=k+1),P4];rfl
 ·rintro δ _ ⟨rfl,e,f,rfl⟩
  rw[ue];exact ar (aS rfl ⟨rfl,rfl⟩)
end
end Law
namespace Law
open PySem L2 L2.Pu L2.Nt
section
variable{K:Po}{a:Ad}{β:Bg}
theorem oF{i:Nat}{op:D->D->Option D}{f:FD}{c d z:D}{h:G}{δ:Ds}{β β1:Bg}{Q:Out->Bg->Prop}(b:(vw δ).getD i OR=on c)(e:f (vw δ) β=on (.ok d,β1))(g:op c d=on z)(k:Gw h (δ.set i (on (.sh z))) β1 Q):Gw (aD (jw i op f) h) δ β Q:=fP (by unfold jw;simp only[b,e,g,Qu]) k
theorem Ly{m i:Nat}{d:D}(h:(aU 2 m)[i]?=on d):i<m/\d= .int ((i+2:Nat):Int):=by
 obtain⟨x,b,rfl⟩:=bV (f:=λ(i:Nat)=>D.int (2+(i:Int))) (xs:=O6 m) h;have c:=(Pc.mp b).1;rw[Pr]at c;rw[Qz c]at b;cases b;exact⟨c,by congr 1;omega⟩
theorem Lw(lo:Int)(m:Nat):(aU lo m).length=m:=by unfold aU;rw[OS,Pr]
theorem smN{n:Nat}(h:n<=2^11):n<2^1000:=lI h (by decide)
theorem KP(n:Nat):facN (n-1+1)=facN n:=by cases n<;>rfl
theorem wK{n:Nat}(h:n<=40):(jt K a).1 [.int (n:Int)] β=on (.ok (.int ((facN n:Nat):Int)),β):=by
 unfold jt
 dsimp only
 refine aO ?_;refine aI (d:= .int 1) (β1:=β) rfl ?_;refine cg (ds:=aU 2 (n-1)) (β1:=β) (bq (ac rfl (ac (x_2 rfl rfl rfl) rfl)) (rg2 (by omega))) (λi δ b=>β=b/\∃c,δ=[on (.sh (.int (n:Int))),on (.sh (.int ((facN (i+1):Nat):Int))),c]) ⟨rfl,OR,rfl⟩ ?_ ?_
 ·rintro i d δ _ hd ⟨rfl,c,rfl⟩
  obtain⟨e,rfl⟩:=Ly hd;exact⟨_,rfl,ar (oF rfl rfl (DM (lI (uY (by omega)) (by decide)) (smN (by omega))) (bn ⟨rfl,_,rfl⟩))⟩
 ·rintro δ _ ⟨rfl,c,rfl⟩
  rw[Lw,KP];exact ar (aS rfl ⟨rfl,rfl⟩)
def wayN(l:List Nat):Nat:=facN l.sum/pr (l.map facN)
theorem NI{l:List Nat}{d:D}(h:Sq l d):oK [d]=on (.int ((l.sum:Nat):Int)):=by
 rw[←jI];rcases h with rfl|rfl
 ·exact Lk _
 ·exact Lj _
theorem pz(l:List Nat):gn [nL l]=on (.int ((l.sum:Nat):Int)):=by rw[←jI];exact eD _
theorem Jq{l:List Nat}{i n:Nat}(h:l.sum<=40)(hn:l[i]?=on n):n<=40:=Px (jL (PD hn)) h
theorem Jy{l:List Nat}{cd:D}(hs:Sq l cd)(h:l.sum<=40):(uj K a).1 [cd] β=on (.ok (.int ((wayN l:Nat):Int)),β):=by
 unfold uj
 dsimp only
 refine aO ?_;refine cg (ds:=(nI l).map D.int) (β1:=β) (dX rfl hs.seq) (λi δ c=>β=c/\∃b,δ=[on (.sh cd),b,OR]) ⟨rfl,OR,rfl⟩ ?_ ?_
 ·rintro i d δ _ hd ⟨rfl,b,rfl⟩
  obtain⟨n,hn,rfl⟩:=sP hd;exact⟨_,rfl,ar (fQ (β1:=β) (x_B (x_2 rfl rfl (by show on (D.bl (decide ((n:Int)<0)))=_;rw[Qw (by omega)]))) (bA (bn ⟨rfl,_,rfl⟩)))⟩
 rintro δ _ ⟨rfl,b,rfl⟩;refine aI (d:= .int ((facN l.sum:Nat):Int)) (β1:=β) (am (ac (aj rfl (NI hs)) rfl) (wK h)) ?_;refine cg (ds:=(nI l).map D.int) (β1:=β) (dX rfl hs.seq) (λi δ c=>β=c/\∃b,δ=[on (.sh cd),b,on (.sh (.int ((facN l.sum/pr ((l.take i).map facN):Nat):Int)))]) ⟨rfl,b,by rw[WC,Q0,LK,Nat.div_one];rfl⟩ ?_ ?_
 ·rintro i d δ _ hd ⟨rfl,b,rfl⟩
  obtain⟨n,hn,rfl⟩:=sP hd;refine⟨_,rfl,ar (oF rfl (am rfl (wK (Jq h hn))) (OK (mP n) (lI (uY (Jq h hn)) (by decide))) (bn ⟨rfl,on (.sh (.int (n:Int))),?_⟩))⟩;rw[mv hn,Xl];rfl
 ·rintro δ _ ⟨rfl,b,rfl⟩
  rw[zO,SM];exact ar (aS rfl ⟨rfl,rfl⟩)
theorem yC{l:List Nat}(h:l.sum<=40):wayN l<=2^160:=Px (Wn _ _) (uY h)
theorem yB(l:List Nat):wayN l=mu l:=Mg l
theorem Oo{l:List Nat}(h:l.sum<=40):mu l<=2^160:=by rw[←yB];exact yC h
theorem HY{α:Type}{l:List α}{i:Nat}{x:α}(f:α->Nat)(h:l[i]?=on x):L2.Nt.sm (l.take (i+1)) f=L2.Nt.sm (l.take i) f+f x:=by
 rw[YQ,h,tT];rfl
abbrev cv(W:Wy)(m k:Nat)(r:List Nat):D:= .tup [.int ((tbW W (m-k) k r:Nat):Int),.int ((dlW W (m-k) k r:Nat):Int)]
abbrev dcL(W:Wy)(rs:List Nat)(m k:Nat):D:= .dct OW ((lvW W rs k).map λr=>((0:Int),nI r)) ((lvW W rs k).map (cv W m k))
theorem zW{f:List Nat->D}{u:List Nat}:∀{L:List (List Nat)},u∈L->lkD (L.map λr=>((0:Int),nI r)) (L.map f) (0,nI u)=on (f u)
 |r::L,h=>by
  unfold lkD;rw[Ph,Ph,Sb,TZ];by_cases q:r=u
  ·rw[q,PH rfl];rfl
  ·rw[Qw λe=>q (jJ (U5.mp e).2)]
   exact zW ((Pq.mp h).resolve_left λe=>q e.symm)
theorem MI{W:Wy}{rs u:List Nat}{m k:Nat}(h:u∈lvW W rs k):EX (dcL W rs m k) (tN u)=on (cv W m k u):=by
 show(kn OW (dK OW (0,nI u))).bind _=_;rw[ww λ_=>rfl];exact zW h
theorem xF{rs cs r:List Nat}{W:Wy}{q:D}{k:Nat}(h:Nt1 K a rs cs W q)(o:k<cs.length)(p:r∈lvW W rs k):(gU K a).1 [tN r,.lst ((W k r).map tN),dcL W rs cs.length (k+1)] β=on (.ok (cv W cs.length k r),β):=by
 obtain⟨t,w,u⟩:=h.at (by omega) p;unfold gU
 dsimp only
 refine aO ?_;refine aI (d:= .int 0) (β1:=β) rfl (aI (d:= .int 0) (β1:=β) rfl ?_);refine cg (ds:=(W k r).map tN) (β1:=β) rfl (λi δ e=>β=e/\∃f g j,δ=[on (.sh (tN r)),on (.sh (.lst ((W k r).map tN))),on (.sh (dcL W rs cs.length (k+1))),on (.sh (.int ((L2.Nt.sm ((W k r).take i) λv=>tbW W (cs.length-(k+1)) (k+1) (less r v):Nat):Int))),on (.sh (.int ((L2.Nt.sm ((W k r).take i) λv=>mu v*dlW W (cs.length-(k+1)) (k+1) (less r v):Nat):Int))),f,g,j]) ⟨rfl,OR,OR,OR,rfl⟩ ?_ ?_
 ·rintro i d δ _ hd ⟨rfl,f,g,j,rfl⟩
  obtain⟨v,l,rfl⟩:=bV hd;have hm:=PD l;have m:less r v∈lvW W rs (k+1):=qy.mpr ⟨r,p,v,hm,rfl⟩;have b:=(h.ok k r).subset hm;have hs:=(jK h.ok h.sm (k+1) o _ m).2;have c:v.sum<=40:=Px (fF b).sum u;have n:=(h.at o m).2.2;refine⟨_,rfl,HQ (d:=cv W cs.length (k+1) (less r v)) (β1:=β) (x_2 rfl (am rfl (ID (fF b) t.2.1)) (MI m)) rfl (oF rfl rfl rfl (ar (oF rfl (x_2 (am rfl (Jy (.inr rfl) c)) rfl (DM (lI (yC c) (by decide)) (lI (Px (AW h.ok _ _ _ (by omega)) (by rw[pT _ _ hs];exact Oo n)) (by decide)))) rfl (bn ⟨rfl,on (.sh (tN v)),on (.sh (.int ((tbW W (cs.length-(k+1)) (k+1) (less r v):Nat):Int))),on (.sh (.int ((dlW W (cs.length-(k+1)) (k+1) (less r v):Nat):Int))),?_⟩))))⟩;rw[HY _ l,HY _ l,yB,Vg,Vg];rfl
 ·rintro δ _ ⟨rfl,f,g,j,rfl⟩
  rw[OS,SM];refine ar (aS (aj rfl gc) ⟨rfl,?_⟩);show Rc (D.tup [.int ((tbW W (cs.length-k) k r:Nat):Int),.int ((dlW W (cs.length-k) k r:Nat):Int)])=_;rw[show cs.length-k=cs.length-(k+1)+1 by omega];rfl
theorem w6{f g:FD}{δ:Dn}{k v:D}(b:f δ β=on (.ok k,β))(c:g δ β=on (.ok v,β)):FC f g δ β=on (.ok [.tup [k,v]],β):=by
 unfold FC M.bind;rw[b];simp only[c,M.ret]
theorem uU{α b:Type}(f:α->b)(l:List α):(l.flatMap λx=>[f x])=l.map f:=by
 induction l with
 |nil=>rfl
 |cons x l ih=>rw[Qp,ih];rfl
theorem uC{rs cs:List Nat}{W:Wy}{b:D}(h:Nt1 K a rs cs W b){k:Nat}(c:k<=cs.length):(lvW W rs k).length<=62:=by
 have:=Ks h.ok h.sm c;have:=h.wd;omega
theorem dk0{rs cs:List Nat}{W:Wy}{b:D}(h:Nt1 K a rs cs W b){k:Nat}(c:k<=cs.length){os:List D}(e:os=(lvW W rs k).map λr=> .tup [tN r,cv W cs.length k r]):kC OW os=on (dcL W rs cs.length k):=by
 refine(wR (kvs:=(lvW W rs k).map λr=>(((0:Int),nI r),cv W cs.length k r)) ⟨?_,?_,?_,?_⟩).trans ?_
 ·rw[e,Pd];rfl
 ·rw[Pd];exact zM (λx y q=>jJ (U5.mp q).2) (uD k)
 ·rw[OS];exact aX (by have:=uC h c;omega)
 ·rintro p d _
  obtain⟨r,_,rfl⟩:=Pp.mp d;rfl
 ·rw[Pd,Pd];rfl
theorem N8{n:Nat}(h:n<=1000):sK [.int (n:Int)]=on (ig n):=by
 simp only[sK];rw[O8 (by simp only[PU,P3];omega),QL]
theorem N9{n i:Nat}{d:D}(h:(ig n)[i]?=on d):i<n/\d= .int ((n-1-i:Nat):Int):=by
 obtain⟨x,b,rfl⟩:=bV (f:=λ(i:Nat)=>D.int ((n:Int)-1-i)) (xs:=O6 n) h;have c:=(Pc.mp b).1;rw[Pr]at c;rw[Qz c]at b;cases b;exact⟨c,by congr 1;omega⟩
theorem zg{f:Nat->D}{n k:Nat}(h:k<n):((O6 n).map f)[k]?=on (f k):=by rw[O4,Qz h];rfl
theorem AU{f:Nat->D}:∀n j,cK j ((List.range' j n).map f)=(List.range' j n).map λk=> .tup [.int (k:Int),f k]
 |0,_=>rfl
 |n+1,j=>by
  rw[List.range'_succ,Ph,Ph,←AU n (j+1)];rfl
theorem J1{f:Nat->D}(m:Nat):((O6 (m+1)).map λj=>f (m-j)).reverse=(O6 (m+1)).map f:=SJ (by simp) λi b c=>by
 simp only[X2,OS,Pr]at b;simp only[XJ,SK,Tf,OS,Pr];congr 1;omega
abbrev yt(W:Wy)(rs:List Nat)(m:Nat):List D:=(O6 (m+1)).flatMap λk=>(lvW W rs k).map (cv W m k)
abbrev yg(W:Wy)(rs:List Nat)(m:Nat):D:= .dct OV (kyW W rs (m+1)) (yt W rs m)
theorem dk1{rs cs:List Nat}{W:Wy}{b:D}(h:Nt1 K a rs cs W b){os:List D}(e:os=(O6 (cs.length+1)).flatMap λ(k:Nat)=>(lvW W rs k).map λr=> .tup [.tup [.int (k:Int),tN r],cv W cs.length k r]):kC OV os=on (yg W rs cs.length):=by
 refine(wR (kvs:=(O6 (cs.length+1)).flatMap λ(k:Nat)=>(lvW W rs k).map λr=>(((k:Int),nI r),cv W cs.length k r)) ⟨?_,?_,?_,?_⟩).trans ?_
 ·rw[e,Ra];simp only[Pd];rfl
 ·have:=z7 (W:=W) (rs:=rs) (cs.length+1)
  unfold kyW at this;rw[Ra];simp only[Pd];exact this
 ·refine aX (Px (gm (n:=62) λk c=>?_) (by have:=h.c6;rw[Pr];omega))
  have:=Pw.mp c;rw[OS];exact uC h (by omega)
 ·rintro p _ q
  cases q
 ·unfold yg kyW
  rw[Ra,Ra];simp only[Pd];rfl
theorem yf{rs cs:List Nat}{W:Wy}{b:D}(h:Nt1 K a rs cs W b):(dU K a).1 [nL rs,nL cs,b] β=on (.ok (yg W rs cs.length),β):=by
 have c6:=h.c6;unfold dU
 dsimp only
 refine aO ?_;refine aI (d:= .lst ((O6 (cs.length+1)).map (lvD W rs))) (β1:=β) (am rfl (DK h)) ?_;refine aI (d:= .int (cs.length:Int)) (β1:=β) (aj rfl (db (by rw[OS,OS]))) ?_;refine aI (d:=dcL W rs cs.length cs.length) (β1:=β) (kE (lvW W rs cs.length) tN (λr=>[.tup [tN r,.tup [.int 1,.int 1]]]) (dX (x_2 rfl rfl (dD (zg (by omega)))) rfl) (λr _=>⟨[on (tN r)],rfl,w6 rfl (aj rfl gc)⟩) (dk0 h (O9 _) (by rw[uU];simp only[cv,RM];rfl))) ?_;refine sD (ds:=[dcL W rs cs.length cs.length]) (β1:=β) rfl (show 1<=Pe by decide) ?_;refine cg (ds:=ig cs.length) (β1:=β) (bq rfl (N8 (by omega))) (λi δ c=>β=c/\∃e f,δ=[on (.sh (nL rs)),on (.sh (nL cs)),on (.sh (b)),on (.sh (.lst ((O6 (cs.length+1)).map (lvD W rs)))),on (.sh (.int (cs.length:Int))),on (.sh (dcL W rs cs.length (cs.length-i))),on (.own ((O6 (i+1)).map λj=>dcL W rs cs.length (cs.length-j))),e,f]) ⟨rfl,OR,OR,rfl⟩ ?_ ?_
 ·rintro i d δ _ hd ⟨rfl,e,f,rfl⟩
  obtain⟨p,rfl⟩:=N9 hd;have l:cs.length-1-i<cs.length:=by omega
  have o:cs.length-i=(cs.length-1-i)+1:=by omega
  have m:cs.length-(i+1)=cs.length-1-i:=by omega
  rw[o];refine⟨_,rfl,aI (d:=dcL W rs cs.length (cs.length-1-i+1)) (β1:=β) rfl (aI (d:=dcL W rs cs.length (cs.length-1-i)) (β1:=β) (kE (lvW W rs (cs.length-1-i)) tN (λr=>[.tup [tN r,cv W cs.length (cs.length-1-i) r]]) (dX (x_2 rfl rfl (dD (zg (by omega)))) rfl) (λr g=>⟨[on (tN r),on (nL cs),on (b),on (.int ((cs.length-1-i:Nat):Int)),on (dcL W rs cs.length (cs.length-1-i+1))],rfl,w6 rfl (am (ac rfl (ac (am rfl (h.fl l (h.at (by omega) g).1 (h.at (by omega) g).2.1)) rfl)) (xF h l g))⟩) (dk0 h (by omega) (uU _ _))) (ar (sE (cs:=(O6 (i+1)).map λj=>dcL W rs cs.length (cs.length-j)) (d:=dcL W rs cs.length (cs.length-1-i)) rfl rfl (PM (show _<1000 by rw[OS,Pr];omega) (by decide)) (bn ⟨rfl,on (.sh (.int ((cs.length-1-i:Nat):Int))),on (.sh (dcL W rs cs.length (cs.length-1-i+1))),?_⟩))))⟩;rw[Sj (n:=i+1),P4,m];show _=[_,_,_,_,_,_,on (Sl.own (_++[dcL W rs cs.length (cs.length-(i+1))])),_,_];rw[m];rfl
 ·rintro δ _ ⟨rfl,e,f,rfl⟩
  rw[show(ig cs.length).length=cs.length by unfold ig;rw[OS,Pr]];refine ar (aS (kE (O6 (cs.length+1)) (λk=> .tup [.int (k:Int),dcL W rs cs.length k]) (λ(k:Nat)=>(lvW W rs k).map λr=> .tup [.tup [.int (k:Int),tN r],cv W cs.length k r]) (bq (ac (x_2 (y:= .int (-1)) rfl rfl rfl) rfl) ?_) (λk _=>⟨[on (.int (k:Int)),on (dcL W rs cs.length k),OR,OR],rfl,?_⟩) (dk1 h rfl)) ⟨rfl,rfl⟩)
  ·show on (cK 0 _)=_
   rw[J1,List.range_eq_range',AU]
  ·refine(Om (lvW W rs k) (λr=> .tup [tN r,cv W cs.length k r]) (λr=>[.tup [.tup [.int (k:Int),tN r],cv W cs.length k r]]) ?_ (λr _=>⟨[on (.int (k:Int)),on (dcL W rs cs.length k),on (tN r),on (cv W cs.length k r)],rfl,w6 (aj rfl gc) rfl⟩)).trans (by rw[uU])
   show on (Rc (U4 _ _ _),β)=_;rw[Xj,Xf,YR];rfl
end
end Law
namespace Law
open PySem L2 L2.Pu L2.Nt
section
variable{K:Po}{a:Ad}{β:Bg}
theorem tp_e{r c:Nat}{rows:LI}(sh:Shp r c rows)(r0:1<=r)(r1:r<=30)(c1:c<=30){δ:Dn}(h:δ.getD 0 OR=on (bF rows)):bM 1 [0] (bj dm (aa (az cJ (aa (f2 ixD (ae 0) (fC (.int 0))) (aq))) (aq))) (tgC 0) (λ_=>M.ret OV) (cEm (bM 1 [0] (cB (ae 1)) (tgC 0) (λ_=>M.ret OV) (cEm (f2 ixD (ae 0) (ae 1))))) δ β=on (.ok (bF (tp c rows)),β):=by
 obtain⟨b,d,g⟩:=sh.at (i:=0) (by omega);have k:(gI rows)[0]?=on (b.map D.int):=by rw[O4,d];rfl
 have o:az cJ (aa (f2 ixD (ae 0) (fC (.int 0))) (aq)) δ β=on (.ok (.int (c:Int)),β):=aj (ac (x:= .lst (b.map D.int)) (x_2 (x:=bF rows) (ox h) rfl (pE k)) rfl) (db (by rw[OS,g]));have e:=aT (nv:=1) (caps:=[0]) (it:=bj dm (aa (az cJ (aa (f2 ixD (ae 0) (fC (.int 0))) (aq))) (aq))) (tg:=tgC 0) (f:=bM 1 [0] (cB (ae 1)) (tgC 0) (λ_=>M.ret OV) (cEm (f2 ixD (ae 0) (ae 1)))) (δ:=δ) (β:=β) (O6 c) (λi=>D.int (0+(i:Int))) (λj=>D.lst (rows.map λrow=>D.int (row.getD j 0))) (bq (ds:=aU 0 c) (ac o rfl) (rg1 (by omega) (by omega))) ?_ (aX (by rw[Pr];omega))
 ·rw[e]
  unfold tp tpA;show _=on (Rc (D.lst (Rk D.lst (Rk _ (Rk _ _)))),β);rw[Pd,Pd];congr 4;refine P0 λj _=>?_;show _=D.lst ((rows.map λrow=>row.getD j 0).map D.int);rw[Pd];rfl
 ·intro j p
  have q:=Pw.mp p;have m:cSt 1 [0] δ=[OR,on (bF rows)]:=by
   unfold cSt;simp only[Ph,Q0,h];rfl
  refine⟨[on (.int (0+(j:Int))),on (bF rows)],by rw[m];rfl,?_⟩;have hm:(gI rows).map D.lst=rows.map λrow=>D.lst (row.map D.int):=by rw[Pd];rfl
  refine aT (nv:=1) (caps:=[0]) rows (λrow=>D.lst (row.map D.int)) _ (by show on (Rc ((gI rows).map D.lst),β)=_;rw[hm]) (λrow t=>⟨_,rfl,x_2 (x:= .lst (row.map D.int)) (y:= .int (0+(j:Int))) rfl rfl ?_⟩) (aX (by rw[sh.1];omega));have u:=sh.2 row t;obtain⟨x,n⟩:=Jp (l:=row) (i:=j) (by omega);rw[Ts];refine dD ?_;rw[O4,n,O1,n];rfl
theorem xM{r c:Nat}{rows:LI}(sh:Shp r c rows)(r0:1<=r)(r1:r<=30)(c1:c<=30):(o3 K a).1 [bF rows] β=on (.ok (bF (tp c rows)),β):=
 aO (ar (aS (tp_e sh r0 r1 c1 rfl) ⟨rfl,rfl⟩))
noncomputable abbrev iL(xs:List Int):D:= .lst (xs.map D.int)
theorem yT{rows:LI}(h:rows.length<=1000){f:FD}{δ:Dn}(e:f δ β=on (.ok (bF rows),β)):bM 1 [] (cB f) (tgC 0) (λ_=>M.ret OV) (cEm (az gn (aa (ae 0) (aq)))) δ β=on (.ok (iL (rows.map Rl)),β):=by
 have hm:(gI rows).map D.lst=rows.map λrow=>D.lst (row.map D.int):=by rw[Pd];rfl
 have:=aT (nv:=1) (caps:=[]) (it:=cB f) (tg:=tgC 0) (f:=az gn (aa (ae 0) (aq))) (δ:=δ) (β:=β) rows (λrow=>D.lst (row.map D.int)) (λrow=>D.int row.sum) (by rw[←hm];exact dX e rfl) (λrow _=>⟨_,rfl,aj rfl (eD row)⟩) (aX h);rw[this];show _=on (Rc (D.lst ((rows.map Rl).map D.int)),β);rw[Pd];rfl
theorem jY{rows:LI}(h:rows.length<=1000):(gq K a).1 [bF rows] β=on (.ok (iL (rows.map Rl)),β):=
 aO (ar (aS (yT h rfl) ⟨rfl,rfl⟩))
theorem gZ{r c:Nat}{rows:LI}(sh:Shp r c rows)(r0:1<=r)(r1:r<=30)(c1:c<=30):(eF K a).1 [bF rows] β=on (.ok (iL ((tp c rows).map Rl)),β):=
 aO (ar (aS (yT (by rw[(vK (d:=(0:Int)) (c:=c) sh.1).1];omega) (am rfl (xM sh r0 r1 c1))) ⟨rfl,rfl⟩))
end
section
noncomputable def gp(G:LI)(i j:Nat):Int:=(G.getD i []).getD j 0
theorem OJ{G:LI}{i j:Nat}{row:List Int}{x:Int}(a:G[i]?=on row)(b:row[j]?=on x):gp G i j=x:=by
 unfold gp;simp only[O1,a,b,Yu]
theorem AL{G:LI}{i j:Nat}{row:List Int}(a:G[i]?=on row):row.getD j 0=gp G i j:=by
 unfold gp;rw[O1 (l:=G),a];rfl
theorem BT:∀(xs:List Int),S xs.length (λj=>xs.getD j 0)=xs.sum:=λxs=>by
 unfold S;congr 1;refine SJ (by simp) λi b a=>?_;rw[SK,Tf,O1,O0 a];rfl
theorem NK{r c i:Nat}{A:LI}(b:Shp r c A)(d:i<r):S c (gp A i)=(A.map Rl).getD i 0:=by
 obtain⟨e,a,f⟩:=b.at d;rw[O1,O4,a];show _=e.sum;rw[←BT,f];exact dF λj _=>(AL a).symm
theorem NL{r c j:Nat}{A:LI}(a:Shp r c A)(d:j<c):S r (λp=>gp A p j)=((tp c A).map Rl).getD j 0:=by
 have e:(tp c A)[j]?=on (A.map λrow=>row.getD j 0):=by
  show((O6 c).map λj=>A.map λrow=>row.getD j 0)[j]?=_;rw[O4,Qz d];rfl
 rw[O1,O4,e];show _=(A.map λrow=>row.getD j 0).sum;rw[←BT,OS,a.1];refine dF λp f=>?_;obtain⟨g,b,h⟩:=a.at f;rw[O1 (l:=A.map _),O4,b];exact(AL b).symm
end
section
variable{K:Po}{a:Ad}{β:Bg}
theorem mM{r c:Nat}{d:D}(e:r<=1000)(g:c<=1000):(ul K a).1 [.int (r:Int),.int (c:Int),d] β=on (.ok (lG (Pi r (Pi c d))),β):=by
 have b:∀x:Nat,bM 1 [1] (bj dm (aa (ae 2) (aq))) (tgC 0) (λ_=>M.ret OV) (cEm (ae 1)) [on (.int (0+(x:Int))),on d,on (.int (c:Int))] β=on (.ok (.lst (Pi c d)),β):=λx=>by
  have h:=aT (nv:=1) (caps:=[1]) (it:=bj dm (aa (ae 2) (aq))) (tg:=tgC 0) (f:=ae 1) (δ:=[on (.int (0+(x:Int))),on d,on (.int (c:Int))]) (β:=β) (O6 c) (λi=>D.int (0+(i:Int))) (λ_=>d)
   (bq rfl (rg1 (by omega) (by omega))) (λx _=>⟨_,rfl,rfl⟩) (aX (by rw[Pr];omega))
  rw[cu]at h;exact h
 have h:=aT (nv:=1) (caps:=[2,1]) (it:=bj dm (aa (ae 0) (aq))) (tg:=tgC 0) (f:=bM 1 [1] (bj dm (aa (ae 2) (aq))) (tgC 0) (λ_=>M.ret OV) (cEm (ae 1))) (δ:=[on (.int (r:Int)),on (.int (c:Int)),on d]) (β:=β) (O6 r) (λi=>D.int (0+(i:Int))) (λ_=> .lst (Pi c d))
  (bq rfl (rg1 (by omega) (by omega))) (λx _=>⟨_,rfl,b x⟩) (aX (by rw[Pr];omega))
 rw[cu]at h;unfold ul
 dsimp only
 refine aO (ar (aS h ⟨rfl,?_⟩));simp only[lG,Qy]
def PB(b:LP):Prop:=∀row∈b,∀p∈row,-1000<=p.1/\p.1<=1000/\-1000<=p.2/\p.2<=1000
theorem Bnd.pb{r c:Nat}{b:LP}(h:Bnd r c b):PB b:=λrow d p e=>by
 obtain⟨f,g,i⟩:=h.ok row d p e;omega
theorem Kg{p:Int×Int}(e:-1000<=p.1/\p.1<=1000/\-1000<=p.2/\p.2<=1000):(iJ K a).1 [pD p] β=on (if pairB p=OV then .ok .non else .error a.Ah,β):=by
 unfold iJ
 dsimp only
 refine aO ?_;refine HQ (d:=pD p) (β1:=β) rfl rfl (ar ?_);refine gN (c:=!(decide (0<=p.1)&&decide (p.1<=p.2)&&decide (p.2<=40))) (β1:=β) (ma (x_B (BW rfl rfl rfl rfl))) ?_;have b:pairB p=(decide (0<=p.1)&&decide (p.1<=p.2)&&decide (p.2<=40)):=rfl;rw[←b];cases pairB p with
 |true=>
  exact bA (bn ⟨rfl,rfl⟩)
 |false=>
  exact vG (ac (yz (w5 rfl (by omega) (by omega) (w5 rfl (by omega) (by omega) rfl))) rfl) ⟨rfl,rfl⟩
theorem xo{r c:Nat}{b:LP}(t:r<=1000)(v:c<=1000)(P:b.length<=1000)(A:PB b):(bH K a).1 [bD b,.int (r:Int),.int (c:Int)] β=on (if sU b r c=OV then .ok (bD b)else .error a.Ah,β):=by
 unfold bH
 dsimp only
 refine aO ?_;refine fQ (β1:=β) (x_B (x_2 rfl rfl rfl)) (bA ?_);have Q:bM 1 [2] (cB (ae 0)) (tgC 0) (λ_=>M.ret OV) (cEm (f2 (d8) (az cJ (aa (ae 0) (aq))) (ae 1))) [on (bD b),on (.int (r:Int)),on (.int (c:Int)),OR,OR] β=on (.ok (.lst (b.map λrow=>D.bl (!decide ((row.length:Int)=(c:Int))))),β):=
  aT (nv:=1) (caps:=[2]) b (λrow=>D.lst (row.map pD)) _ (by show on _=_;rw[Pd];rfl) (λrow _=>⟨_,rfl,x_2 (aj rfl (db (r:=row.length) (by rw[OS]))) rfl ne_int⟩) (aX P)
 refine gN (c:=(!decide ((b.length:Int)=(r:Int)))||b.any λrow=>!decide ((row.length:Int)=(c:Int))) (β1:=β) (NO (x_B (x_2 (aj rfl (uH (r:=b.length) (by rw[OS]))) rfl ne_int)) (oy (aj (ac Q rfl) (any_map b _)) rfl)) ?_;have B:((!decide ((b.length:Int)=(r:Int)))||b.any λrow=>!decide ((row.length:Int)=(c:Int)))=OW↔Shp r c b:=by
  simp only[Bool.or_eq_false_iff,Bool.not_eq_false',P3,VS,YK,decide_eq_false_iff_not,Decidable.not_not];exact⟨λ⟨R,L⟩=>⟨by omega,λrow t=>by have:=L row t;omega⟩,λ⟨R,L⟩=>⟨by omega,λrow t=>by have:=L row t;omega⟩⟩
 cases q:((!decide ((b.length:Int)=(r:Int)))||b.any λrow=>!decide ((row.length:Int)=(c:Int)))with
 |true=>
  rw[O8 rfl];refine vG (ac (yz (w5 rfl (by omega) (by omega) (w5 rfl (by omega) (by omega) rfl))) rfl) ⟨rfl,?_⟩;rw[O3];intro z;rw[B.mpr (je.mp z).shp]at q;cases q
 |false=>
  rw[O3 Pa];have sh:=B.mp q;refine bA ?_;refine cg (ds:=(gP b).map D.lst) (β1:=β) rfl (λi δ m=>β=m/\(∃N h,δ=[on (.sh (bD b)),on (.sh (.int (r:Int))),on (.sh (.int (c:Int))),N,h])/\∀k<i,∀row,b[k]?=on row->row.all pairB=OV) ⟨rfl,⟨OR,OR,rfl⟩,λk u=>by omega⟩ ?_ ?_
  ·rintro i d δ _ hd ⟨rfl,⟨N,h,rfl⟩,u⟩
   obtain⟨y,T,rfl⟩:=bV hd;obtain⟨row,l,rfl⟩:=bV T;have C:=PD l;refine⟨_,rfl,ar ?_⟩;refine cg (ds:=row.map pD) (β1:=β) rfl (λj δ m=>β=m/\(∃h,δ=[on (.sh (bD b)),on (.sh (.int (r:Int))),on (.sh (.int (c:Int))),on (.sh (.lst (row.map pD))),h])/\∀k<j,∀p,row[k]?=on p->pairB p=OV) ⟨rfl,⟨h,rfl⟩,λk u=>by omega⟩ ?_ ?_
   ·rintro j d δ _ hd ⟨rfl,⟨h,rfl⟩,g⟩
    obtain⟨p,F,rfl⟩:=bV hd;have H:=PD F;have v:=Kg (K:=K) (a:=a) (β:=β) (A row C p H);refine⟨_,rfl,ar ?_⟩;cases z:pairB p with
    |true=>
     rw[z,O8 rfl]at v;refine oC (am rfl v) (bn ⟨rfl,⟨_,rfl⟩,λk O U n=>?_⟩);by_cases w:k=j
     ·subst w
      rw[F]at n;cases n;exact z
     ·exact g k (by omega) U n
    |false=>
     rw[z,O3 Pa]at v;refine JA (am rfl v) ⟨rfl,?_⟩;rw[O3];intro w;have:=lB.mpr ((je.mp w).ok row C p H);rw[z]at this;cases this
   ·rintro δ _ ⟨rfl,⟨h,rfl⟩,g⟩
    rw[OS]at g;refine bn ⟨rfl,⟨_,_,rfl⟩,λk O I o=>?_⟩;by_cases z:k=i
    ·subst z
     rw[l]at o;cases o;rw[Rp];intro p A;obtain⟨k,f,e⟩:=SU A;exact g k f p (Pc.mpr ⟨f,e⟩)
    ·exact u k (by omega) I o
  ·rintro δ _ ⟨rfl,⟨N,h,rfl⟩,u⟩
   rw[OS,OS]at u;have J:sU b r c=OV:=je.mpr ⟨sh,λrow t p A=>by
    obtain⟨k,f,e⟩:=SU t;have:=u k f row (Pc.mpr ⟨f,e⟩);rw[Rp]at this;exact lB.mp (this p A)⟩
   refine ar (aS (aT (nv:=1) (caps:=[]) (gP b) D.lst D.lst rfl (λx _=>⟨_,rfl,rfl⟩) (aX (by rw[OS];exact P))) ⟨rfl,?_⟩);rw[O8 J]
theorem zK{rs:List Int}{b:List Nat}(c:∀i∈b,i<rs.length)(d:b.length<=1000):(lw K a).1 [iL rs,nL b] β=on (.ok (.int (pw rs b)),β):=by
 unfold lw
 dsimp only
 refine aO (ar (aS (aj (ac (x:=iL (b.map λi=>rs.getD i 0)) ?_ rfl) (eD _)) ⟨rfl,rfl⟩));have:=aT (nv:=1) (caps:=[0]) (it:=cB (ae 1)) (tg:=tgC 0) (f:=f2 ixD (ae 1) (ae 0)) (δ:=[on (iL rs),on (nL b)]) (β:=β) b (λi=>D.int (i:Int)) (λi=>D.int (rs.getD i 0)) (by show on (Rc ((nI b).map D.int),β)=_;rw[Pd];rfl) (λi e=>⟨_,rfl,x_2 rfl rfl (IQ (c i e))⟩) (aX d);refine this.trans ?_;show _=on (Rc (D.lst ((b.map λi=>rs.getD i 0).map D.int)),β);rw[Pd];rfl
theorem rJ{r c j:Nat}{cs:List Int}{b:LP}{g:List Nat}(sh:Shp r c b)(n:cs.length=c)(k:r<=1000)(l:j<c):(c7 K a).1 [iL cs,bD b,nL g,.int (j:Int)] β=on (.ok (.int (eJ cs b r g j)),β):=by
 unfold c7
 dsimp only
 refine aO ?_;refine aI (d:=iL (((O6 r).filter λi=>!decide (i∈g)).map λi=>(bI b i j).1)) (β1:=β) ?_ ?_
 ·have m:((gP b).map D.lst).length=r:=by rw[OS,OS,sh.1]
  have:=kD (nv:=2) (caps:=[2,3]) (it:=IL (aa (ae 1) aq)) (tg:=tgT (dB (tgC 0) (dB (tgC 1) gQ))) (tt:=fB (f2 (inD OV) (ae 0) (ae 2))) (f:=f2 ixD (f2 ixD (ae 1) (ae 3)) (fC (.int 0))) (δ:=[on (iL cs),on (bD b),on (nL g),on (.int (j:Int)),OR]) (β:=β) (O6 r) (λi=>D.tup [.int (i:Int),.lst ((b.getD i []).map pD)]) (λi=>D.int (bI b i j).1) (λi=>!decide (i∈g)) ?_ (λi h=>⟨_,rfl,x_B (x_2 rfl rfl uQ),λ_=>x_2 (x_2 rfl rfl (uM sh (Pw.mp h) l).2) rfl EE⟩) (aX (by rw[Pr];exact k))
  ·refine this.trans ?_
   show _=on (Rc (D.lst ((((O6 r).filter λi=>!decide (i∈g)).map λi=>(bI b i j).1).map D.int)),β);rw[Pd];rfl
  ·show on (Rc (cK 0 ((gP b).map D.lst)),β)=_
   rw[ny,m];congr 3;refine P0 λi h=>?_;rw[Rz];congr 3;obtain⟨e,_⟩:=sh.getD (Pw.mp h);rw[O1,O4,O4,e];rfl
 refine ar (aS (x_2 (x:= .int (cs.getD j 0)) (x_2 rfl rfl (IQ (by omega))) (aj rfl (eD _)) rfl) ⟨rfl,?_⟩);have e:(O6 r).map (λi=>if i∈g then(0:Int)else(bI b i j).1)=(O6 r).map (λx=>if(!decide (x∈g))=OV then(bI b x j).1 else 0):=P0 λi _=>by by_cases q:i∈g<;>simp[q]
 unfold eJ S;rw[wJ,e]
theorem sd{r c j:Nat}{b:LP}{d:List Nat}(sh:Shp r c b)(e:∀i∈d,i<r)(k:d.length<=1000)(g:j<c):(c8 K a).1 [bD b,nL d,.int (j:Int)] β=on (.ok (.int (fN b d j)),β):=by
 unfold c8
 dsimp only
 refine aO (ar (aS (aj (ac (x:=iL (d.map λi=>(bI b i j).2)) ?_ rfl) (eD _)) ⟨rfl,rfl⟩));have:=aT (nv:=1) (caps:=[0,2]) (it:=cB (ae 1)) (tg:=tgC 0) (f:=f2 ixD (f2 ixD (f2 ixD (ae 1) (ae 0)) (ae 2)) (fC (.int 1))) (δ:=[on (bD b),on (nL d),on (.int (j:Int))]) (β:=β) d (λi=>D.int (i:Int)) (λi=>D.int (bI b i j).2) (by show on (Rc ((nI d).map D.int),β)=_;rw[Pd];rfl) (λi h=>⟨_,rfl,x_2 (x_2 (x_2 rfl rfl (uM sh (e i h) g).1) rfl (uM sh (e i h) g).2) rfl Ms⟩) (aX k);refine this.trans ?_;show _=on (Rc (D.lst ((d.map λi=>(bI b i j).2).map D.int)),β);rw[Pd];rfl
theorem ze{r c:Nat}{cs:List Int}{b:LP}{d e:List Nat}(sh:Shp r c b)(k:cs.length=c)(l:r<=1000)(h:c<=1000)(m:∀i∈d,i<r)(n:d.length<=1000):(lj K a).1 [iL cs,bD b,nL d,nL e] β=on (.ok (.int (sL cs b r c d e)),β):=by
 unfold lj
 dsimp only
 refine aO (ar (aS (aj (ac (x:=iL ((O6 c).map λj=>if j∈e then eJ cs b r d j else fN b d j)) ?_ rfl) (eD _)) ⟨rfl,rfl⟩));have:=aT (nv:=1) (caps:=[3,0,1,2]) (it:=bj dm (aa (az cJ (aa (ae 0) (aq))) (aq))) (tg:=tgC 0) (f:=fIf (fB (f2 (inD OW) (ae 0) (ae 1))) (ck (c7 K a).1 (aa (ae 2) (aa (ae 3) (aa (ae 4) (aa (ae 0) (aq)))))) (ck (c8 K a).1 (aa (ae 3) (aa (ae 4) (aa (ae 0) (aq)))))) (δ:=[on (iL cs),on (bD b),on (nL d),on (nL e)]) (β:=β) (O6 c) (λj=>D.int (0+(j:Int))) (λj=>D.int (if j∈e then eJ cs b r d j else fN b d j)) (bq (ds:=aU 0 c) (ac (aj rfl (db (by rw[OS,k]))) rfl) (rg1 (by omega) (by omega))) (λj o=>⟨[on (.int (j:Int)),on (nL e),on (iL cs),on (bD b),on (nL d)],by rw[Ts];rfl,?_⟩) (aX (by rw[Pr];exact h))
 ·refine this.trans ?_
  show _=on (Rc (D.lst (((O6 c).map λj=>if j∈e then eJ cs b r d j else fN b d j).map D.int)),β);rw[Pd];rfl
 ·have g:=Pw.mp o
  by_cases q:j∈e
  ·rw[O8 q]
   exact NP (x_B (x_2 rfl rfl (by rw[uQ];simp[q]))) (am rfl (rJ sh k l g))
  ·rw[O3 q]
   exact NQ (x_B (x_2 rfl rfl (by rw[uQ];simp[q]))) (am rfl (sd sh m n g))
theorem zN{r c:Nat}{cs:List Int}{b:LP}{d:List Nat}(sh:Shp r c b)(g:cs.length=c)(l:r<=1000)(e:c<=1000)(m:∀i∈d,i<r)(n:d.length<=1000):(jq K a).1 [iL cs,bD b,nL d] β=on (.ok (nL (uv cs b r c d)),β):=by
 unfold jq
 dsimp only
 refine aO ?_;have h:=kD (nv:=1) (caps:=[0,1,2]) (it:=bj dm (aa (az cJ (aa (ae 0) (aq))) (aq))) (tg:=tgC 0) (tt:=fB (f2 (ltD) (ck (c7 K a).1 (aa (ae 1) (aa (ae 2) (aa (ae 3) (aa (ae 0) (aq)))))) (ck (c8 K a).1 (aa (ae 2) (aa (ae 3) (aa (ae 0) (aq))))))) (f:=ae 0) (δ:=[on (iL cs),on (bD b),on (nL d)]) (β:=β) (O6 c) (λj=>D.int (0+(j:Int))) (λj=>D.int (j:Int)) (λj=>decide (eJ cs b r d j<fN b d j))
  (bq (ds:=aU 0 c) (ac (aj rfl (db (by rw[OS,g]))) rfl) (rg1 (by omega) (by omega)))
  (λj k=>⟨[on (.int (j:Int)),on (iL cs),on (bD b),on (nL d)],by rw[Ts];rfl,x_B (x_2 (am rfl (rJ sh g l (Pw.mp k))) (am rfl (sd sh m n (Pw.mp k))) rfl),λ_=>rfl⟩) (aX (by rw[Pr];exact e))
 refine ar (aS h ⟨rfl,?_⟩);show Rc (D.lst ((nI (uv cs b r c d)).map D.int))=_;rw[Pd];rfl
theorem Lu{n i:Nat}{d:D}(h:(aU 0 n)[i]?=on d):i<n/\d= .int (i:Int):=by
 obtain⟨x,b,rfl⟩:=bV (f:=λ(i:Nat)=>D.int (0+(i:Int))) (xs:=O6 n) h;have c:=(Pc.mp b).1;rw[Pr]at c;rw[Qz c]at b;cases b;exact⟨c,by rw[Ts]⟩
theorem yk{n:Nat}(hn:n<=6):(lx K a).1 [.int (n:Int)] β=on (.ok (.lst ((chF n).map nL)),β):=by
 unfold lx
 dsimp only
 refine aO ?_;refine aI (d:= .lst [.lst []]) (β1:=β) (aj (ac (aj rfl DQ) rfl) lJ) ?_;refine cg (ds:=aU 0 n) (β1:=β) (bq rfl (rg1 (by omega) (by omega))) (λi δ b=>β=b/\∃c,δ=[on (.sh (.int (n:Int))),on (.sh (.lst ((chF i).map nL))),c]) ⟨rfl,OR,rfl⟩ ?_ ?_
 ·rintro i d δ _ hd ⟨rfl,c,rfl⟩
  obtain⟨g,rfl⟩:=Lu hd;have j:(chF i).length<=64:=by rw[wU];exact Px (X6 (by decide) (show i<=6 by omega)) (by decide)
  refine⟨[on (.sh (.int (n:Int))),on (.sh (.lst ((chF i).map nL))),on (.sh (.int (i:Int)))],rfl,ar (aI (d:= .lst ((chF (i+1)).map nL)) (β1:=β) ?_ (bn ⟨rfl,_,rfl⟩))⟩;have h:=aT (nv:=1) (caps:=[2]) (it:=cB (ae 1)) (tg:=tgC 0) (f:=f2 kG (ae 0) (az eG (aa (ae 1) (aq)))) (δ:=vw [on (.sh (.int (n:Int))),on (.sh (.lst ((chF i).map nL))),on (.sh (.int (i:Int)))]) (β:=β) (chF i) nL (λl=>nL (l++[i])) rfl (λl e=>⟨[on (nL l),on (.int (i:Int))],rfl,by
   have k:l.length<=i:=by have:=(iA i l e).length_le;rwa[Pr]at this
   refine x_2 rfl (aj rfl lJ) ((m5 ?_).trans ?_)
   ·rw[OS,OS,Qg];omega
   ·simp only[nL,nI,P4,Ph,Q0]⟩) (aX (by omega))
  refine x_2 rfl h ((m5 ?_).trans ?_)
  ·rw[OS,OS];omega
  ·rw[chF,P4,Pd];rfl
 ·rintro δ _ ⟨rfl,c,rfl⟩
  rw[show(aU 0 n).length=n by unfold aU;rw[OS,Pr]];exact ar (aS rfl ⟨rfl,rfl⟩)
theorem MK{r:Nat}{b:List Nat}(h:b∈chF r):(∀i∈b,i<r)/\b.length<=r:=⟨λi c=>Pw.mp ((iA r b h).subset c),by have:=(iA r b h).length_le;rwa[Pr]at this⟩
theorem ME{r c:Nat}{rs cs:List Int}{b:LP}(sh:Shp r c b)(l:rs.length=r)(m:cs.length=c)(n:r<=6)(p:c<=6)(ok:∀X Y,0<=slB rs cs b r c X Y):(eV K a).1 [iL rs,iL cs,bD b] β=on (.ok .non,β):=by
 unfold eV
 dsimp only
 refine aO (ar (cg (ds:=(chF r).map nL) (β1:=β) (dX (am (ac (aj rfl (db (r:=r) (by rw[OS,l]))) rfl) (yk n)) rfl) (λi δ f=>β=f/\∃g h,δ=[on (.sh (iL rs)),on (.sh (iL cs)),on (.sh (bD b)),g,h]) ⟨rfl,OR,OR,rfl⟩ ?_ ?_))
 ·rintro i d δ _ hd ⟨rfl,g,h,rfl⟩
  obtain⟨e,q,rfl⟩:=bV hd;have hm:=PD q;obtain⟨k,t⟩:=MK hm;refine⟨_,rfl,aI (d:=nL (uv cs b r c e)) (β1:=β) (am rfl (zN sh m (by omega) (by omega) k (by omega))) ?_⟩;refine ar (fQ (x_B (x_2 (am rfl (zK (by rw[l];exact k) (by omega))) (am rfl (ze sh m (by omega) (by omega) k (by omega))) ?_)) (bA (bn ⟨rfl,_,_,rfl⟩)));have o:=ok (λi=>decide (i∈e)) (λj=>decide (j∈uv cs b r c e));have sub:(uv cs b r c e).Sublist (O6 c):=X0;rw[←Lo (iA r e hm) sub]at o;show on (D.bl (decide _))=_;rw[Qw (by omega)]
 ·rintro δ _ ⟨rfl,g,h,rfl⟩
  exact bn ⟨rfl,rfl⟩
end
section
variable{K:Po}{a:Ad}
theorem JN{r c:Nat}{rows:LI}{b:LP}(sh:Shp r c rows)(m:Shp r c b)(kp:Kp rows b)(X Y:Nat->Bool):0<=slB (rows.map Rl) ((tp c rows).map Rl) b r c X Y:=by
 refine JS (g:=gp rows) (λi f j h=>?_) (λi f=>(NK sh f).symm) (λj h=>(NL sh h).symm) X Y;obtain⟨row,k,n⟩:=sh.at f;have ex:=m4 (l:=row) (i:=j) (d:=0) (by omega);obtain⟨e,l⟩:=m.getD f;have ep:=m4 (l:=b.getD i []) (i:=j) (d:=((0,0):Int×Int)) (by omega);rw[OJ k ex];exact kp i j _ _ (vi k ex) (vi e ep)
end
end Law
namespace Law
open PySem L2 L2.Pu L2.Nt
section
variable{K:Po}{a:Ad}{β:Bg}{rs cs:List Nat}
theorem IU{g:G}{δ:Ds}{o:Out}(h:Gw g δ β (λc b=>c=o/\b=β)):g δ β=on (o,β):=by
 obtain⟨c,b,e,rfl,rfl⟩:=h;exact e
theorem oB{t:Dn->M Bool}{d b h:G}{δ:Ds}{β1:Bg}{c:Bool}{Q:Out->Bg->Prop}(e:t (vwA δ) β=on (.ok c,β1))(f:c=OW)(k:Gw (aD b h) δ β1 Q):Gw (aD (gIf t d b) h) δ β Q:=by
 subst f;exact fQ e k
theorem zH(l:List Nat){n:Nat}{δ:Dn}(b:l.length<=1000)(e:δ.getD n OR=on (nL l)):gY (az yr (aa (bM 1 [] (cB (ae n)) (tgC 0) (λ_=>M.ret OV) (cEm (f2 (ltD) (ae 0) (fC (.int 0))))) (aq))) δ β=on (.ok OW,β):=by
 have c:=aT (nv:=1) (caps:=[]) (it:=cB (ae n)) (tg:=tgC 0) (f:=f2 (ltD) (ae 0) (fC (.int 0))) (δ:=δ) (β:=β) (nI l) D.int (λx=>D.bl (decide (x<0))) (dX (ox e) rfl) (λx _=>⟨_,rfl,rfl⟩) (aX (by rw[OS];exact b));refine oy (aj (ac c rfl) (any_map _ _)) (Qr on (VS.mpr λx d=>?_));obtain⟨n,_,rfl⟩:=Pp.mp d;simp
theorem xP(l:List Nat):cJ [nL l]=on (.int (l.length:Int)):=db (by rw[OS,OS])
theorem KS(h:Nt0 rs cs):(iI K a).1 [nL rs,nL cs] β=on (.ok .non,β):=by
 obtain⟨b,c,d,e⟩:=h.nr;have c1:=h.c1;have c6:=h.c6;unfold iI
 dsimp only
 refine aO ?_;refine oB (ma (x_B (vF rfl (aj rfl (xP rs)) rfl))) (by simp;omega) (bA ?_);refine oB (ma (x_B (vF rfl (aj rfl (xP cs)) rfl))) (by simp;omega) (bA ?_);refine fQ (w4 (zH rs (by omega) rfl) (zH cs (by omega) rfl)) (bA ?_);refine oB (x_B (x_2 (aj rfl (pz rs)) (aj rfl (pz cs)) ne_int)) (by rw[h.sm];simp) (bA ?_);exact ar (oB (x_B (x_2 (aj rfl (pz rs)) rfl gt_int)) (by simp;omega) (bA (bn ⟨rfl,rfl⟩)))
noncomputable abbrev frN(r c:Nat):List (List (Nat×Nat)):=Pi r (Pi c (0,40))
theorem ya(r c:Nat):aZ (frN r c)=fm r c:=by
 unfold aZ frN fm;rw[Qy,Qy];rfl
theorem JV(h:Nt0 rs cs):(bH K a).1 [.non,.int (rs.length:Int),.int (cs.length:Int)] β=on (.ok (bDN (frN rs.length cs.length)),β):=by
 have b:=h.nr.2.1;have c6:=h.c6;unfold bH
 dsimp only
 refine aO ?_;refine NS (x_B (x_2 rfl rfl rfl)) (aS (Jw rfl (mM (by omega) (by omega))) ⟨rfl,?_⟩);show Rc (lG (gP _))=_;rw[ya];unfold fm gP;rw[Qy,Qy];rfl
theorem Jx(h:Nrw rs):(iH K a).1 [nL rs] β=on (.ok .non,β):=by
 obtain⟨g,j,k,e⟩:=h;unfold iH
 dsimp only
 refine aO ?_;refine aI (d:= .int 1) (β1:=β) rfl ?_;refine cg (ds:=(nI rs).map D.int) (β1:=β) rfl (λi δ b=>β=b/\∃c,δ=[on (.sh (nL rs)),on (.sh (.int ((pr ((rs.take i).map (·+1)):Nat):Int))),c]) ⟨rfl,OR,rfl⟩ ?_ ?_
 ·rintro i d δ _ hd ⟨rfl,c,rfl⟩
  obtain⟨n,hn,rfl⟩:=sP hd;have f:=jL (PD hn);have l:=Px (xA rs i) e;refine⟨_,rfl,ar (oF rfl (x_2 (z:= .int ((n+1:Nat):Int)) rfl rfl rfl) (DM (smN (by omega)) (smN (by omega))) (bn ⟨rfl,on (.sh (.int (n:Int))),?_⟩))⟩;rw[mv hn];rfl
 ·rintro δ _ ⟨rfl,c,rfl⟩
  rw[zO,SM];exact ar (oB (x_B (x_2 rfl rfl gt_int)) (by simp;omega) (bA (bn ⟨rfl,rfl⟩)))
structure NtB (rows:LI) (B:List (List (Nat×Nat))) (rs cs:List Nat):Prop extends Nt0 rs cs where
 shp:Shp rs.length cs.length rows
 rw1:rows.map Rl=nI rs
 cl1:(tp cs.length rows).map Rl=nI cs
 bok:BOk rs.length cs.length B
 kp:Kp rows (aZ B)
theorem jl{r c:Nat}{B:List (List (Nat×Nat))}(h:Shp r c B):Shp r c (aZ B):=h.map
theorem BOk.bnd{r c:Nat}{B:List (List (Nat×Nat))}(h:BOk r c B):Bnd r c (aZ B):=⟨jl h.1,λrow e p f=>by
 obtain⟨b,g,rfl⟩:=Pp.mp e;obtain⟨d,i,rfl⟩:=Pp.mp f;have:=h.2 b g d i;exact⟨by show(0:Int)<=(d.1:Int);omega,by show(d.1:Int)<=(d.2:Int);omega,by show(d.2:Int)<=40;omega⟩⟩
theorem NtB.nt{rows:LI}{B:List (List (Nat×Nat))}(h:NtB rows B rs cs):Nt1 K a rs cs (wB B cs) (bDN B):=⟨h.toNt0,HR B cs,λ{β k r} b c e=>KW c (by rw[e];exact h.bok) (by rw[←h.sm];exact h.nr.2.2.1) b⟩
theorem NtB.fit{rows:LI}{B:List (List (Nat×Nat))}(h:NtB rows B rs cs):(eV K a).1 [nL rs,nL cs,bDN B] β=on (.ok .non,β):=by
 have b:=h.nr.2.1;have c6:=h.c6;refine ME (jl h.bok.1) (OS _) (OS _) (by omega) (by omega) λX Y=>?_;rw[←h.rw1,←h.cl1];exact JN h.shp (jl h.bok.1) h.kp X Y
theorem JU{rows:LI}{B:List (List (Nat×Nat))}(h:NtB rows B rs cs):(bH K a).1 [bDN B,.int (rs.length:Int),.int (cs.length:Int)] β=on (.ok (bDN B),β):=by
 have e:=h.nr.2.1;have c6:=h.c6;have d:=h.bok.bnd;have:=xo (K:=K) (a:=a) (β:=β) (r:=rs.length) (c:=cs.length) (b:=aZ B) (by omega) (by omega) (by rw[d.shp.1];omega) (Law.Bnd.pb d);rw[O8 (je.mpr d)]at this;exact this
abbrev nFs(B:List (List (Nat×Nat)))(rs cs:List Nat):List D:=[nL rs,nL cs,bDN B,yg (wB B cs) rs cs.length]
abbrev iN(a:Ad)(B:List (List (Nat×Nat)))(rs cs:List Nat):D:= .obj a.An ["row_list","column_list","pairs","counted"] (nFs B rs cs)
theorem IM{rows:LI}{B:List (List (Nat×Nat))}{d:D}(h:NtB rows B rs cs)(hd:∀{β:Bg},(bH K a).1 [d,.int (rs.length:Int),.int (cs.length:Int)] β=on (.ok (bDN B),β)):lF K a [nL rs,nL cs,d] β=on (.ok (nFs B rs cs),β):=EL λx=>by
 have sn:(dz K a).1 [nL rs,nL cs,d] β=on (.ok (bDN B),β):=by
  unfold dz
  dsimp only
  refine aO ?_;exact oC (am rfl (KS h.toNt0)) (aI (am (ac rfl (ac (aj rfl (xP rs)) (ac (aj rfl (xP cs)) rfl))) hd) (oC (am rfl (Jx h.nr)) (ar (aS rfl ⟨rfl,rfl⟩))))
 unfold uP;refine AD (g:=fY 4 _) (δ1:=[on (.sh (.adr x)),on (.sh (nL rs)),on (.sh (nL cs)),on (.sh d),on (.sh (bDN B))]) (β1:=β) (IU (ar (aI (am rfl sn) (bn ⟨rfl,rfl⟩)))) rfl rfl ?_;refine AD (δ1:=[on (.sh (.adr x)),on (.sh (nL rs)),on (.sh (nL cs)),on (.sh d),on (.sh (bDN B))]) (β1:=β) (IU (ar (oC (am rfl h.fit) (bn ⟨rfl,rfl⟩)))) rfl rfl ?_;exact pI (aj rfl rfl) (pI (aj rfl rfl) (pI rfl (pI (am rfl (yf h.nt)) rfl)))
theorem zJ{rows:LI}{B:List (List (Nat×Nat))}(h:NtB rows B rs cs):lF K a [nL rs,nL cs,bDN B] β=on (.ok (nFs B rs cs),β):=IM h (JU h)
theorem wk{rows:LI}(h:NtB rows (frN rs.length cs.length) rs cs):lF K a [nL rs,nL cs,.non] β=on (.ok (nFs (frN rs.length cs.length) rs cs),β):=IM h (JV h.toNt0)
theorem NR{f:FD}{g:FL}{δ:Dn}{b:Bool}{ks:List KyD}{vs:List D}{k z d:D}{y:KyD}(c:f δ β=on (.ok (.dct b ks vs),β))(e:g δ β=on (.ok [k,z],β))(h:kn b k=on y)(i:lkD ks vs y=on d):ES f g δ β=on (.ok d,β):=by
 unfold ES;rw[M.bind_ok c];simp only;rw[M.bind_ok e];simp only[h,i,Qu,Yu,M.ofO]
theorem KY{B:List (List (Nat×Nat))}:(fV K a).1 [iN a B rs cs,.int 0,tN rs] β=on (.ok (cv (wB B cs) cs.length 0 rs),β):=by
 unfold fV
 dsimp only
 refine aO (ar (aS (NR (h9 rfl rfl) (ac (aj rfl gc) (ac (aj rfl gc) rfl)) (ww (b:=OV) (k:=(0,nI rs)) λe=>(by cases e)) ?_) ⟨rfl,rfl⟩));unfold kyW lkD yt;rw[U3,Qp,Qp];show Option.map _ (List.find? _ (_::_))=_;rw[List.find?_cons_of_pos]
 ·rfl
 ·exact PH rfl
theorem JM{B:List (List (Nat×Nat))}:(ly K a).1 [iN a B rs cs] β=on (.ok (.int ((tbW (wB B cs) cs.length 0 rs:Nat):Int)),β):=
 aO (ar (aS (x_2 (tB rfl (ac rfl (ac (aj (ac (h9 rfl rfl) rfl) rfl) rfl)) KY) rfl EE) ⟨rfl,rfl⟩))
end
end Law
namespace Law
open PySem L2 L2.Pu L2.Nt
section
theorem eqI(i j:Int):R7 (.int i) (.int j)=decide (i=j):=by unfold R7;exact Bool.beq_eq_decide_eq i j
theorem jh{α:Type} [DecidableEq α]{f:α->Xo}(a:∀x y,R7 (f x) (f y)=decide (x=y)):∀xs ys:List α,Sg (xs.map f) (ys.map f)=decide (xs=ys)
 |[],[]=>by simp[Sg]
 |[],y::ys=>by simp[Sg]
 |x::xs,[]=>by simp[Sg]
 |x::xs,y::ys=>by
  rw[Ph,Ph,Sg,a,jh a xs ys];by_cases h:x=y<;>by_cases q:xs=ys<;>simp[h,q]
theorem jU{α:Type}{f:α->D}{g:α->Xo}(h:∀x,toP (f x)=on (g x)):∀l:List α,toPs (l.map f)=on (l.map g)
 |[]=>by simp[toPs]
 |x::l=>by
  rw[Ph,toPs,h x,jU h l];rfl
theorem rO{x y:D}{p q:Xo}(e:eqS x y=OR)(c:toP x=on p)(d:toP y=on q)(a:kF x=OV)(b:kF y=OV):f6 x y=on (.bl (R7 p q)):=by
 unfold f6 lW;unfold kF at a b;rw[c]at a;rw[d]at b;simp only[e,c,d,a,b,TF,Qb,Qu]
theorem BC(xs:List Int):kF (iL xs)=OV:=vd 1 (λx a=>by
 obtain⟨i,_,rfl⟩:=Pp.mp a;trivial) (by decide)
theorem wS(b:LP):kF (bD b)=OV:=vd 3 (λx a=>by
 obtain⟨y,c,rfl⟩:=Pp.mp a;obtain⟨row,e,rfl⟩:=Pp.mp c;intro z d;obtain⟨p,_,rfl⟩:=Pp.mp d;intro w hw;rcases Pq.mp hw with rfl|hw
 ·trivial
 ·obtain rfl:w= .int p.2:=by simpa using hw
  trivial) (by decide)
theorem sY(xs ys:List Int):f6 (iL xs) (iL ys)=on (.bl (decide (xs=ys))):=by
 have t:∀l:List Int,toP (iL l)=on (.list (l.map .int)):=λl=>by
  unfold iL toP;rw[jU (g:=PyData.int) λx=>rfl];rfl
 rw[rO rfl (t xs) (t ys) (BC xs) (BC ys),R7,jh eqI]
theorem ye(b a:LP):f6 (bD b) (bD a)=on (.bl (decide (b=a))):=by
 have tp:∀p:Int×Int,toP (pD p)=on (.tuple [.int p.1,.int p.2]):=λp=>rfl;have tr:∀row:List (Int×Int),toP (.lst (row.map pD))=on (.list (row.map λp=> .tuple [.int p.1,.int p.2])):=λrow=>by
  unfold toP;rw[jU tp];rfl
 have t:∀l:LP,toP (bD l)=on (.list (l.map λrow=> .list (row.map λp=> .tuple [.int p.1,.int p.2]))):=λl=>by
  unfold bD lG gP toP;rw[Pd,jU (f:=D.lst∘λ(r:List (Int×Int))=>r.map pD) tr];rfl
 have c:∀p q:Int×Int,R7 (.tuple [.int p.1,.int p.2]) (.tuple [.int q.1,.int q.2])=decide (p=q):=λp q=>by
  rw[R7,Sg,Sg,Sg,eqI,eqI];by_cases d:p.1=q.1<;>by_cases e:p.2=q.2<;>simp[U5,d,e]
 rw[rO rfl (t b) (t a) (wS b) (wS a),R7,jh λr1 g=>by rw[R7,jh c]]
end
end Law
namespace Law
open PySem L2 L2.Pu L2.Nt
section
variable{K:Po}{a:Ad}{β:Bg}
theorem OP{l:List Nat}{c:Nat}(h:l.length<=100):kG (nL l) (.lst [.int (c:Int)])=on (nL (l++[c])):=by
 refine(m5 (by rw[OS,OS,Qg];omega)).trans ?_;show _=on (D.lst (Rk D.int (Rk _ (l++[c]))));rw[P4,P4];rfl
abbrev fiS(ps:List (Nat×Nat))(r:List Nat)(c:Nat)(f:D)(b d e g h:Option Sl):Ds:=[on (.sh (nL r)),on (.sh (.int (c:Int))),on (.sh (.lst (ps.map pN))),on (.sh f),b,d,e,g,h]
theorem Oa{lo:Nat}{n i:Nat}{d:D}(h:((O6 n).map λi=>D.int ((lo+i:Nat):Int))[i]?=on d):i<n/\d= .int ((lo+i:Nat):Int):=by
 obtain⟨x,b,rfl⟩:=bV h;have c:=(Pc.mp b).1;rw[Pr]at c;rw[Qz c]at b;cases b;exact⟨c,rfl⟩
theorem jy{α:Type}{l:List α}{i:Nat}{x:α}(h:l[i]?=on x):l.take (i+1)=l.take i++[x]:=by rw[YQ,h];rfl
theorem Kw{ps:List (Nat×Nat)}{r:List Nat}{c:Nat}(I:Nrw r)(w:ps.length=r.length)(J:∀p∈ps,p.1<=40/\p.2<=40):(qt K a).1 [nL r,.int (c:Int),.lst (ps.map pN)] β=on (.ok (.lst ((vB ps r c).map nL)),β):=by
 obtain⟨_,Q,hs,L⟩:=I;have n:∀k,k<=r.length->(gro ps r k).length<=500:=λk A=>Px (wF k A) (Px (xA r k) L);unfold qt
 dsimp only
 refine aO ?_;refine aI (d:= .lst ((gro ps r 0).map nL)) (β1:=β) (aj (ac (aj rfl DQ) rfl) lJ) ?_;refine cg (ds:=(r.zip ps).map λq=> .tup [.int (q.1:Int),pN q.2]) (β1:=β) ?_ (λk δ g=>β=g/\∃B C o m b,δ=fiS ps r c (.lst ((gro ps r k).map nL)) B C o m b) ⟨rfl,OR,OR,OR,OR,OR,rfl⟩ ?_ ?_
 ·rw[←iB (λx:Nat=>D.int (x:Int)) pN]
  refine oz (x:=nL r) (y:= .lst (ps.map pN)) rfl rfl ?_ rfl;show on _=on _;rw[Pd];rfl
 ·rintro k d δ _ hd ⟨rfl,B,C,o,m,b,rfl⟩
  obtain⟨q,H,rfl⟩:=bV hd;have A:k<r.length:=by
   have:=(Pc.mp H).1;rw[Tc]at this;omega
  have t:k<ps.length:=by omega
  obtain rfl:q=(r[k],ps[k]):=by
   have:=(Pc.mp H).2;rw[List.getElem_zip]at this;exact this.symm
  have b40:=J _ (Qh t);have N:=jL (Qh A);refine⟨fiS ps r c (.lst ((gro ps r k).map nL)) (on (.sh (.int (r[k]:Int)))) (on (.sh (pN ps[k]))) o m b,rfl,?_⟩;refine sD (ds:=[]) (β1:=β) rfl (QW _) ?_;have step:∀u:List Nat,((O6 (Sz ps[k].2 r[k]+1-ps[k].1)).map λi=>u++[ps[k].1+i]).length<=41:=λu=>by rw[OS,Pr];omega
  refine cg (ds:=(gro ps r k).map nL) (β1:=β) rfl (λi δ g=>β=g/\∃m b,δ=fiS ps r c (.lst ((gro ps r k).map nL)) (on (.sh (.int (r[k]:Int)))) (on (.sh (pN ps[k]))) (on (.own ((((gro ps r k).take i).flatMap λu=>(O6 (Sz ps[k].2 r[k]+1-ps[k].1)).map λj=>u++[ps[k].1+j]).map nL))) m b) ⟨rfl,m,b,rfl⟩ ?_ ?_
  ·rintro i d δ _ hd ⟨rfl,m,b,rfl⟩
   obtain⟨u,F,rfl⟩:=bV hd;have R:=AK k u (PD F);have T:=(Pc.mp F).1;have U:=n k (by omega);have W:(((gro ps r k).take i).flatMap λu=>(O6 (Sz ps[k].2 r[k]+1-ps[k].1)).map λj=>u++[ps[k].1+j]).length<=500*41:=Px (gm λu _=>step u) (TX _ (by rw[Rq];omega));refine⟨_,rfl,ar (cg (ds:=(O6 (Sz ps[k].2 r[k]+1-ps[k].1)).map λj=>D.int ((ps[k].1+j:Nat):Int)) (β1:=β) (bq (as:=[.int (ps[k].1:Int),.int ((Sz ps[k].2 r[k]:Nat)+1)]) (ac (x_2 rfl rfl EE) (ac (x_2 (x:= .int ((Sz ps[k].2 r[k]:Nat):Int)) (aj (ac (x_2 rfl rfl Ms) (ac rfl rfl)) (xG.trans ?_)) rfl rfl) rfl)) ((Lz (by omega) (by omega) (by omega)).trans ?_)) (λj δ g=>β=g/\∃b,δ=fiS ps r c (.lst ((gro ps r k).map nL)) (on (.sh (.int (r[k]:Int)))) (on (.sh (pN ps[k]))) (on (.own ((((gro ps r k).take i).flatMap λu=>(O6 (Sz ps[k].2 r[k]+1-ps[k].1)).map λj=>u++[ps[k].1+j]).map nL++((O6 (Sz ps[k].2 r[k]+1-ps[k].1)).take j).map λj=>nL (u++[ps[k].1+j])))) (on (.sh (nL u))) b) ⟨rfl,b,by rw[WC,Q0,PN];rfl⟩ ?_ ?_)⟩
   ·rw[show Sz (ps[k].2:Int) (r[k]:Int)=((Sz ps[k].2 r[k]:Nat):Int) by omega]
   ·rw[show((Sz ps[k].2 r[k]:Nat)+1-(ps[k].1:Int):Int).toNat=Sz ps[k].2 r[k]+1-ps[k].1 by omega]
   ·rintro j d δ _ hd ⟨rfl,b,rfl⟩
    obtain⟨O,rfl⟩:=Oa hd;have e:(O6 (Sz ps[k].2 r[k]+1-ps[k].1))[j]?=on j:=Qz O;refine⟨_,rfl,ar (sE (d:=nL (u++[ps[k].1+j])) rfl (ac (x_2 rfl (aj rfl lJ) (OP (by omega))) rfl) (PM (show _<50000 by rw[Pn,OS,OS,Rq,Pr];omega) (by decide)) (bn ⟨rfl,on (.sh (.int ((ps[k].1+j:Nat):Int))),?_⟩))⟩;rw[jy e,P4];show[_,_,_,_,_,_,on (Sl.own (_++_++[_])),_,_]=[_,_,_,_,_,_,on (Sl.own (_++(_++[_]))),_,_];rw[Qv]
   ·rintro δ _ ⟨rfl,b,rfl⟩
    rw[OS,Pr];refine bn ⟨rfl,on (.sh (nL u)),b,?_⟩;rw[jy F,Rf,P4,Qp,US,PN,Pd,RI (l:=O6 (Sz ps[k].2 r[k]+1-ps[k].1)) (by rw[Pr];exact O9 _)];rfl
  ·rintro δ _ ⟨rfl,m,b,rfl⟩
   rw[OS,SM];refine HP (ar (aI (d:= .lst ((gro ps r (k+1)).map nL)) (β1:=β) ?_ (bn ⟨rfl,_,_,_,_,_,rfl⟩)));have P:gro ps r (k+1)=(gro ps r k).flatMap λu=>(O6 (Sz ps[k].2 r[k]+1-ps[k].1)).map λi=>u++[ps[k].1+i]:=by
    show Xd _ _=_;rw[gl A,gl t]
   rw[P];rfl
 ·rintro δ _ ⟨rfl,B,C,o,m,b,rfl⟩
  rw[OS,Tc,w,Nat.min_self,wG w];have h:=kD (nv:=1) (caps:=[1]) (it:=cB (ae 3)) (tg:=tgC 0) (tt:=fB (f2 (f6) (az gn (aa (ae 0) (aq))) (ae 1))) (f:=ae 0) (δ:=vwA (fiS ps r c (.lst ((box ps r).map nL)) B C o m b)) (β:=β) (box ps r) nL nL (λv=>decide (v.sum=c)) rfl (λv _=>⟨[on (nL v),on (.int (c:Int))],rfl,x_B (x_2 (aj rfl (pz v)) rfl (eq_int.trans (by rw[decide_eq_decide.mpr (show((v.sum:Nat):Int)=(c:Int)↔v.sum=c by omega)]))),λ_=>rfl⟩) (aX (by rw[←wG w];have:=n r.length (O9 _);omega));refine ar (aS h ⟨rfl,?_⟩);rw[BK w]
theorem DT{r v:List Nat}(h:LeN v r)(b:r.length<=4):(nP K a).1 [nL r,nL v] β=on (.ok (nL (less r v)),β):=by
 unfold nP
 dsimp only
 refine aO (ar (aS ?_ ⟨rfl,rfl⟩));unfold nL;rw[←uG h];refine aT (r.zip v) (λp=>D.tup [.int (p.1:Int),.int (p.2:Int)]) _ ?_ (λp _=>⟨[on (.int (p.1:Int)),on (.int (p.2:Int))],rfl,rfl⟩) (aX (by rw[Tc];omega));rw[←iB (λx:Nat=>D.int (x:Int)) (λx:Nat=>D.int (x:Int))];refine oz (x:=nL r) (y:=nL v) rfl rfl ?_ ?_
 ·show on _=on _
  rw[Pd];rfl
 ·show on _=on _
  rw[Pd];rfl
end
end Law
namespace Law
open PySem L2 L2.Pu L2.Nt
section
variable{K:Po}{a:Ad}{β:Bg}
theorem KV{r c k n:Nat}{B:List (List (Nat×Nat))}(hB:BOk r c B)(g:r<=4)(i:k<c){δ:Dn}(d:δ.getD 2 OR=on (bDN B))(e:cSt 1 [n] δ=[OR,on (.int (k:Int))]):bM 1 [n] (cB (ae 2)) (tgC 0) (λ_=>M.ret OV) (cEm (f2 ixD (ae 0) (ae 1))) δ β=on (.ok (.lst ((oh B k).map pN)),β):=by
 have h:=aT (nv:=1) (caps:=[n]) (it:=cB (ae 2)) (tg:=tgC 0) (f:=f2 ixD (ae 0) (ae 1)) (δ:=δ) (β:=β) B (λrow=>D.lst (row.map pN)) (λrow=>pN (row.getD k (0,0))) (dX (ox d) (by
  show on _=on _;rw[Pd,Pd];exact Qr on (P0 λrow _=>Qr D.lst (by show Rk pD (Rk _ row)=_;rw[Pd];rfl)))) (λrow b=>⟨[on (D.lst (row.map pN)),on (.int (k:Int))],by rw[e];rfl,x_2 rfl rfl (dD (by
   have l:=hB.1.2 row b;rw[O4,gl (by omega),O0 (by omega)];rfl))⟩) (aX (by rw[hB.1.1];omega))
 refine h.trans ?_;unfold oh;rw[Pd];rfl
theorem mu_8{rs:List Nat}(h:rs.sum<=8):mu rs<=40320:=by
 have b:mu rs<=facN rs.sum:=by
  rw[←iP];exact UX _ (qv rs)
 exact Px b (Px (uX h) (by decide))
noncomputable abbrev eQ(q:List (List Nat)×List Nat):D:= .tup [.lst (q.1.map nL),nL q.2]
abbrev liS(rs cs:List Nat)(B:List (List (Nat×Nat)))(f:D)(b c d e g h:Option Sl):Ds:=[on (.sh (nL rs)),on (.sh (nL cs)),on (.sh (bDN B)),on (.sh f),b,c,d,e,g,h]
abbrev nxQ(W:Wy)(k:Nat)(q:List (List Nat)×List Nat):List (List (List Nat)×List Nat):=(W k q.2).map λv=>(q.1++[v],less q.2 v)
theorem xO{rs cs:List Nat}{B:List (List (Nat×Nat))}(h:Nt0 rs cs)(C:rs.sum<=8)(hB:BOk rs.length cs.length B):(jr K a).1 [nL rs,nL cs,bDN B] β=on (.ok (.lst ((lst (wB B cs) rs cs.length).map λq=> .lst (q.1.map nL))),β):=by
 have c6:=h.c6;obtain⟨O,F,P,Q⟩:=h.nr;have o:=HR B cs;have l:∀k,k<=cs.length->(lst (wB B cs) rs k).length<=40320:=λk m=>Px (Kt o h.sm m) (mu_8 C);unfold jr
 dsimp only
 refine aO ?_;refine aI (d:= .lst ((lst (wB B cs) rs 0).map eQ)) (β1:=β) (aj (ac (aj (ac (aj rfl DQ) (ac (aj rfl rfl) rfl)) gc) rfl) lJ) ?_;refine cg (ds:=cK 0 ((nI cs).map D.int)) (β1:=β) (bq rfl rfl) (λk δ e=>β=e/\∃p r t f g b,δ=liS rs cs B (.lst ((lst (wB B cs) rs k).map eQ)) p r t f g b) ⟨rfl,OR,OR,OR,OR,OR,OR,rfl⟩ ?_ ?_
 ·rintro k d δ _ hd ⟨rfl,p,r,t,f,g,b,rfl⟩
  obtain⟨x,H,rfl⟩:=qK hd;obtain⟨n,hn,rfl⟩:=sP H;have m:=(Pc.mp hn).1;have I:cs.getD k 0=n:=by rw[O1,hn];rfl
  obtain⟨cl,J⟩:=hB.col m;refine⟨_,rfl,sD (ds:=[]) (β1:=β) rfl (QW _) ?_⟩;have y:∀i,(((lst (wB B cs) rs k).take i).flatMap (nxQ (wB B cs) k)).length<=40320:=λi=>by
   refine Px ?_ (l (k+1) m);show _<=((lst (wB B cs) rs k).flatMap (nxQ (wB B cs) k)).length
   conv=>rhs;rw[←RP i (lst (wB B cs) rs k),Rf,Pn]
   exact SQ _ _
  refine cg (ds:=(lst (wB B cs) rs k).map eQ) (β1:=β) rfl (λi δ e=>β=e/\∃f g b,δ=liS rs cs B (.lst ((lst (wB B cs) rs k).map eQ)) (on (.sh (.int (k:Int)))) (on (.sh (.int (n:Int)))) (on (.own ((((lst (wB B cs) rs k).take i).flatMap (nxQ (wB B cs) k)).map eQ))) f g b) ⟨rfl,f,g,b,rfl⟩ ?_ ?_
  ·rintro i d δ _ hd ⟨rfl,f,g,b,rfl⟩
   obtain⟨q,u,rfl⟩:=bV hd;have hm:=PD u;obtain⟨q1,q2,q3⟩:=uE o h.sm k (by omega) q hm;have L:=q1.len;have sq:=q1.sum;have R:=q1.pr;have N:Nrw q.2:=⟨by omega,by omega,by omega,by omega⟩;have T:(wB B cs k q.2).length<=40320:=by
    have:=y (i+1);rw[jy u,Rf,Qp,US,PN,Pn,OS]at this;omega
   refine⟨_,rfl,ar (cg (ds:=(wB B cs k q.2).map nL) (β1:=β) (dX (am (ac rfl (ac rfl (ac (KV hB F m rfl rfl) rfl))) (Kw (c:=n) N (by rw[cl,L]) J)) (by unfold wB;rw[I];rfl)) (λj δ e=>β=e/\∃b,δ=liS rs cs B (.lst ((lst (wB B cs) rs k).map eQ)) (on (.sh (.int (k:Int)))) (on (.sh (.int (n:Int)))) (on (.own ((((lst (wB B cs) rs k).take i).flatMap (nxQ (wB B cs) k)).map eQ++((wB B cs k q.2).take j).map λv=>eQ (q.1++[v],less q.2 v)))) (on (.sh (.lst (q.1.map nL)))) (on (.sh (nL q.2))) b) ⟨rfl,b,by rw[WC,Q0,PN];rfl⟩ ?_ ?_)⟩
   ·rintro j d δ _ hd ⟨rfl,b,rfl⟩
    obtain⟨v,A,rfl⟩:=bV hd;have w:=(o k q.2).subset (PD A);have U:=y i;refine⟨_,rfl,ar (sE (d:=eQ (q.1++[v],less q.2 v)) rfl (ac (aj (ac (x_2 rfl (aj rfl lJ) ((m5 (by rw[OS,Qg];omega)).trans ?_)) (ac (am rfl (DT (fF w) (by omega))) rfl)) gc) rfl) (PM (show _<100000 by rw[Pn,OS,OS,Rq];omega) (by decide)) (bn ⟨rfl,on (.sh (nL v)),?_⟩))⟩
    ·rw[P4];rfl
    ·rw[jy A,P4]
     show[_,_,_,_,_,_,on (Sl.own (_++_++[_])),_,_,_]=[_,_,_,_,_,_,on (Sl.own (_++(_++[_]))),_,_,_];rw[Qv]
   ·rintro δ _ ⟨rfl,b,rfl⟩
    rw[OS,SM];refine bn ⟨rfl,on (.sh (.lst (q.1.map nL))),on (.sh (nL q.2)),b,?_⟩;rw[jy u,Rf,P4,Qp,US,PN,Pd];rfl
  ·rintro δ _ ⟨rfl,f,g,b,rfl⟩
   rw[OS,SM];exact HP (ar (aI (d:= .lst ((lst (wB B cs) rs (k+1)).map eQ)) (β1:=β) rfl (bn ⟨rfl,_,_,_,_,_,_,rfl⟩)))
 ·rintro δ _ ⟨rfl,p,r,t,f,g,b,rfl⟩
  rw[lT,OS,OS];exact ar (aS (aT (lst (wB B cs) rs cs.length) eQ (λq=> .lst (q.1.map nL)) rfl (λq _=>⟨[on (.lst (q.1.map nL)),on (nL q.2)],rfl,rfl⟩) (Px (l _ (O9 _)) (by decide))) ⟨rfl,rfl⟩)
theorem DG{rs cs:List Nat}{B:List (List (Nat×Nat))}(h:Nt1 K a rs cs (wB B cs) (bDN B)):∃l,(nk K a).1 [iN a B rs cs] β=on (.ok (.lst l),β):=by
 refine⟨_,aO (ar (aS (am (ac (h9 rfl rfl) rfl) (aO (ar (aS (aT ((O6 (cs.length+1)).flatMap λ(k:Nat)=>(lvW (wB B cs) rs k).map λr=>(k,r)) (λp=> .tup [.tup [.int (p.1:Int),tN p.2],cv (wB B cs) cs.length p.1 p.2]) (λp=> .tup [.int (p.1:Int),tN p.2,.int ((tbW (wB B cs) (cs.length-p.1) p.1 p.2:Nat):Int),.int ((dlW (wB B cs) (cs.length-p.1) p.1 p.2:Nat):Int)]) ?_ (λp _=>⟨[on (.int (p.1:Int)),on (tN p.2),on (.int ((tbW (wB B cs) (cs.length-p.1) p.1 p.2:Nat):Int)),on (.int ((dlW (wB B cs) (cs.length-p.1) p.1 p.2:Nat):Int))],rfl,aj rfl rfl⟩) ?_) ⟨rfl,rfl⟩)))) ⟨rfl,rfl⟩))⟩
 ·show on (Rc (U4 _ _ _),β)=_
  have b:kyW (wB B cs) rs (cs.length+1)=((O6 (cs.length+1)).flatMap λ(k:Nat)=>(lvW (wB B cs) rs k).map λr=>(k,r)).map λp=>((p.1:Int),nI p.2):=by
   unfold kyW;rw[Ra];simp only[Pd];rfl
  have c:yt (wB B cs) rs cs.length=((O6 (cs.length+1)).flatMap λ(k:Nat)=>(lvW (wB B cs) rs k).map λr=>(k,r)).map λp=>cv (wB B cs) cs.length p.1 p.2:=by
   unfold yt;rw[Ra];simp only[Pd];rfl
  rw[b,c,Xj,Xf,YR];rfl
 ·refine aX (Px (gm (n:=62) λk d=>?_) (by have:=h.c6;rw[Pr];omega))
  have:=Pw.mp d;rw[OS];exact uC h (by omega)
end
end Law
namespace Law
open PySem L2 L2.Pu L2.Nt
section
variable{K:Po}{a:Ad}{β:Bg}
theorem BA{rows:List (List D)}(h:rows.length<=1000):(o4 K a).1 [lG rows] β=on (.ok (lG rows),β):=
 aO (ar (aS (aT rows D.lst D.lst rfl (λx _=>⟨_,rfl,rfl⟩) (aX h)) ⟨rfl,rfl⟩))
theorem z0{c:Nat}(b:c<=1000){δ:Dn}{n:Nat}(e:δ.getD n OR=on (.int (c:Int))):bM 1 [] (bj dm (aa (ae n) (aq))) (tgC 0) (λ_=>M.ret OV) (cEm (az cj (aa (fC (.int 0)) (aa (fC (.int 40)) (aq))))) δ β=on (.ok (.lst ((Pi c ((0:Int),(40:Int))).map pD)),β):=by
 have h:=aT (nv:=1) (caps:=[]) (it:=bj dm (aa (ae n) (aq))) (tg:=tgC 0) (f:=az cj (aa (fC (.int 0)) (aa (fC (.int 40)) (aq)))) (δ:=δ) (β:=β) (O6 c) (λi=>D.int (0+(i:Int))) (λ_=>pD (0,40))
  (bq (as:=[.int (c:Int)]) (ac (x:= .int (c:Int)) (β1:=β) (by unfold ae;rw[e];rfl) rfl) (rg1 (by omega) (by omega))) (λx _=>⟨_,rfl,aj rfl gc⟩) (aX (by rw[Pr];omega))
 rw[cu]at h;rw[Qy];exact h
theorem DV{r c:Nat}(d:r<=1000)(b:c<=1000):(nQ K a).1 [.int (r:Int),.int (c:Int)] β=on (.ok (bD (fm r c)),β):=by
 have h:=aT (nv:=1) (caps:=[1]) (it:=bj dm (aa (ae 0) (aq))) (tg:=tgC 0) (f:=bM 1 [] (bj dm (aa (ae 1) (aq))) (tgC 0) (λ_=>M.ret OV) (cEm (az cj (aa (fC (.int 0)) (aa (fC (.int 40)) (aq)))))) (δ:=[on (.int (r:Int)),on (.int (c:Int))]) (β:=β) (O6 r) (λi=>D.int (0+(i:Int))) (λ_=> .lst ((Pi c ((0:Int),(40:Int))).map pD))
  (bq rfl (rg1 (by omega) (by omega))) (λx _=>⟨_,rfl,z0 b rfl⟩) (aX (by rw[Pr];omega))
 rw[cu]at h;unfold nQ
 dsimp only
 refine aO (ar (aS h ⟨rfl,?_⟩));simp only[bD,gP,fm,lG,Qy]
theorem z5{r c:Nat}(d:r<=1000)(e:c<=1000):lH K a [.int (r:Int),.int (c:Int)] β=on (.ok (gP (fm r c)),β):=by
 have b:∀x:Nat,gH 1 [] (bj dm (aa (ae 1) (aq))) (tgC 0) (λ_=>M.ret OV) (cEm (az cj (aa (fC (.int 0)) (aa (fC (.int 40)) (aq))))) [on (.int (0+(x:Int))),on (.int (c:Int))] β=on (.ok ((Pi c ((0:Int),(40:Int))).map pD),β):=λx=>by
  have h:=BB (nv:=1) (caps:=[]) (it:=bj dm (aa (ae 1) (aq))) (tg:=tgC 0) (f:=az cj (aa (fC (.int 0)) (aa (fC (.int 40)) (aq)))) (δ:=[on (.int (0+(x:Int))),on (.int (c:Int))]) (β:=β) (O6 c) (λi=>D.int (0+(i:Int))) (λ_=>pD (0,40))
   (bq rfl (rg1 (by omega) (by omega))) (λx _=>⟨_,rfl,aj rfl gc⟩) (aX (by rw[Pr];omega))
  rw[cu]at h;rw[Qy];exact h
 have h:=rR (nv:=1) (caps:=[1]) (it:=bj dm (aa (ae 0) (aq))) (tg:=tgC 0) (f:=gH 1 [] (bj dm (aa (ae 1) (aq))) (tgC 0) (λ_=>M.ret OV) (cEm (az cj (aa (fC (.int 0)) (aa (fC (.int 40)) (aq)))))) (δ:=[on (.int (r:Int)),on (.int (c:Int))]) (β:=β) (O6 r) (λi=>D.int (0+(i:Int))) (λ_=>(Pi c ((0:Int),(40:Int))).map pD)
  (bq rfl (rg1 (by omega) (by omega))) (λx _=>⟨_,rfl,b x⟩) (aX (by rw[Pr];omega))
 rw[cu]at h;refine K0 (ar (Jz h ⟨rfl,?_⟩));show gP (fm r c)=_;show Rk _ _=_;rw[Qy]
abbrev bdS(rows:LI)(b:LP)(c d e f g:Option Sl):Ds:=[on (.sh .bag),on (.sh (bF rows)),on (.grd (gP b)),c,d,e,f,g]
def BdI(r c:Nat)(rows:LI)(d e:Option Sl)(δ:Ds)(β:Bg):Prop:=β.ok/\∃(b:LP) (f g h:Option Sl),δ=bdS rows b d e f g h/\Bnd r c b/\Kp rows b
theorem ki{r c:Nat}{rows:LI}(t:Tab r c rows)(ok:β.ok):∃(b:LP) (f:Bg),(ii K a).1 [.bag,bF rows] β=on (.ok (bD b),f)/\Bnd r c b/\Kp rows b/\f.ok:=by
 suffices h:∃g f,(ii K a).1 [.bag,bF rows] β=on (g,f)/\(∃(b:LP),g= .ok (bD b)/\Bnd r c b/\Kp rows b/\f.ok) by
  obtain⟨g,f,e,b,rfl,Y,Z⟩:=h;exact⟨b,f,e,Y,Z⟩
 have r1:=t.r1;have c1:=t.c1;have c0:=t.c0;have r0:=t.r0;obtain⟨F,H,I⟩:=t.shp.at (i:=0) (by omega);have hr0:(gI rows)[0]?=on (F.map D.int):=by rw[O4,H];rfl
 unfold ii
 dsimp only
 refine p7 ?_;refine HN (β1:=β) (Jv (as:=[.int (r:Int),.int (c:Int)]) (β1:=β) (ac (aj rfl (uH (by rw[OS,t.shp.1]))) (ac (aj (ac (x:= .lst (F.map D.int)) (x_2 rfl rfl (pE hr0)) rfl) (db (by rw[OS,I]))) rfl)) (z5 (by omega) (by omega))) (Me _) ?_;obtain⟨w0,β1,p1,a0,a1,P⟩:=bK ok (lot:=3) (by decide) (by decide);refine gN (c:=decide (w0=0)) (β1:=β1) (x_B (x_2 (am rfl p1) rfl eq_int)) ?_;by_cases hw:w0=0
 ·rw[O8 (by simpa using hw)]
  exact aS rfl ⟨_,rfl,Bnd.free r c,Kp.free t,P⟩
 rw[O3 (by simpa using hw)];refine bA ?_;refine cg (ds:=cK 0 ((gI rows).map D.lst)) (β1:=β1) rfl (λ_ δ β=>∃s3 s4,BdI r c rows s3 s4 δ β) ⟨OR,OR,P,fm r c,OR,OR,OR,rfl,Bnd.free r c,Kp.free t⟩ ?_ ?_
 ·rintro i d δ β2 hd ⟨s3,s4,J,b,W,X,R,rfl,o,B⟩
  obtain⟨x,hx,rfl⟩:=qK hd;obtain⟨y,hy,rfl⟩:=bV hx;obtain⟨row,m,rfl⟩:=bV hy;have hi:i<r:=by rw[←t.shp.1];exact(Pc.mp m).1
  have T:row.length=c:=t.shp.2 row (PD m);refine⟨bdS rows b (on (.sh (.int i))) (on (.sh (.lst (row.map D.int)))) W X R,rfl,ar ?_⟩;refine cg (ds:=cK 0 (row.map D.int)) (β1:=β2) rfl (λ_=>BdI r c rows (on (.sh (.int i))) (on (.sh (.lst (row.map D.int))))) ⟨J,b,W,X,R,rfl,o,B⟩ ?_ (λδ β h=>bn ⟨_,_,h⟩);rintro j d δ β3 hd ⟨ok3,b,W,X,R,rfl,o,B⟩;obtain⟨x,hx,rfl⟩:=qK hd;obtain⟨n,hn,rfl⟩:=bV hx;have hj:j<c:=by rw[←T];exact(Pc.mp hn).1
  have hn40:=t.le40 row (PD m) n (PD hn);obtain⟨q,l,L⟩:=o.shp.at hi;refine⟨bdS rows b (on (.sh (.int i))) (on (.sh (.lst (row.map D.int)))) (on (.sh (.int j))) (on (.sh (.int n))) R,rfl,?_⟩;obtain⟨w,A,p4,w0,w1,N⟩:=bK ok3 (lot:=4) (by decide) (by decide);refine aI (d:= .int w) (β1:=A) (am rfl p4) ?_
  have put:∀(p:Int×Int) (δ:Ds),PairOk p->p.1<=n->n<=p.2->∀{β5:Bg} {fv:FD} {h:G} {Q:Out->Bg->Prop},fv (vwA (bdS rows b (on (.sh (.int i))) (on (.sh (.lst (row.map D.int)))) (on (.sh (.int j))) (on (.sh (.int n))) (on (.sh (.int w))))) A=on (.ok (pD p),β5)->
    (∀b,Bnd r c b->Kp rows b->Gw h (bdS rows b (on (.sh (.int i))) (on (.sh (.lst (row.map D.int)))) (on (.sh (.int j))) (on (.sh (.int n))) (on (.sh (.int w)))) β5 Q)->
    Gw (aD (pO 2 (ae 3) (ae 5) fv) h) (bdS rows b (on (.sh (.int i))) (on (.sh (.lst (row.map D.int)))) (on (.sh (.int j))) (on (.sh (.int n))) (on (.sh (.int w)))) A Q:=λp δ hp Y Z β5 fv h Q e k=>by
   refine HM (d:=pD p) (rows:=gP b) (ds:=q.map pD) (ka:=i) (kb:=j) (ja:=i) (jb:=j) e rfl rfl rfl ?_ ?_ ?_ rfl ?_
   ·rw[OS,o.shp.1];exact lN (by omega) (by omega)
   ·rw[O4,l];rfl
   ·rw[OS,L];exact lN (by omega) (by omega)
   ·have U:(gP b).set i ((q.map pD).set j (pD p))=gP (b.set i (q.set j p)):=by
     show _=Rk _ _;rw[Ua,Ua]
    rw[U];exact k _ (o.set l hp) (B.set l (vi m hn) Y Z)
  refine gN (c:=decide (w=0)) (β1:=A) (x_B (x_2 rfl rfl eq_int)) ?_;by_cases q0:w=0
  ·rw[O8 (by simpa using q0)]
   obtain⟨u,β5,p5,u0,u1,ok5⟩:=bK N (lot:=n+1) (by omega) (by omega);obtain⟨v,C,p6,v0,v1,O⟩:=bK ok5 (lot:=3) (by decide) (by decide);refine put (n-u,Sz 40 (n+v)) [] ⟨by show 0<=n-u;omega,by show n-u<=Sz 40 (n+v);omega,by show Sz 40 (n+v)<=40;omega⟩ (by show n-u<=n;omega) (by show n<=Sz 40 (n+v);omega) (β5:=C) ?_ λb o B=>?_
   ·exact aj (ac (x_2 rfl (am (ac rfl (ac (x_2 rfl rfl rfl) rfl)) p5) rfl) (ac (aj (ac rfl (ac (x_2 rfl (am rfl p6) rfl) rfl)) xG) rfl)) gc
   ·refine ar (fQ (β1:=C) ?_ (bA (bn ⟨O,b,_,_,_,rfl,o,B⟩)))
    rw[show(OW:Bool)=decide (w=1) by rw[q0];rfl];exact x_B (x_2 rfl rfl eq_int)
  ·rw[O3 (by simpa using q0)]
   refine bA (ar (gN (c:=decide (w=1)) (β1:=A) (x_B (x_2 rfl rfl eq_int)) ?_));by_cases q1:w=1
   ·rw[O8 (by simpa using q1)]
    obtain⟨v,C,p6,v0,v1,O⟩:=bK N (lot:=3) (by decide) (by decide);refine put (0,YI n v) [] ⟨by show(0:Int)<=0;omega,by show 0<=YI n v;omega,by show YI n v<=40;omega⟩ (by show 0<=n;omega) (by show n<=YI n v;omega) (β5:=C) ?_ λb o B=>bn ⟨O,b,_,_,_,rfl,o,B⟩;exact aj (ac rfl (ac (aj (ac rfl (ac (am rfl p6) rfl)) Mi) rfl)) gc
   ·rw[O3 (by simpa using q1)]
    exact bA (bn ⟨N,b,_,_,_,rfl,o,B⟩)
 ·rintro δ β2 ⟨s3,s4,J,b,W,X,R,rfl,o,B⟩
  exact ar (aS rfl ⟨b,rfl,o,B,J⟩)
theorem vS(n:Nat):dJ K a n=fc n:=by
 induction n with
 |zero=>rfl
 |succ n ih=>
  show cW 2 (n6 K a (dJ K a n))=cW 2 (jf (fc n));rw[ih];rfl
theorem N7{i:Int}:dJ K a 5 [.int i,.int i] β=on (.ok (.bl OV),β):=by
 rw[vS];exact mr 4 (.int i) β trivial
theorem xu{i:Bool}:dJ K a 5 [.bl i,.bl i] β=on (.ok (.bl OV),β):=by
 rw[vS];exact mr 4 (.bl i) β trivial
theorem tJ:∀{xs:List Int},(∀x∈xs,0<=x)->∃l:List Nat,xs=nI l
 |[],_=>⟨[],rfl⟩
 |x::xs,h=>by
  obtain⟨l,e⟩:=tJ λy b=>h y (OY _ b);have:=h x O5;exact⟨x.toNat::l,by rw[e];show _=((x.toNat:Nat):Int)::_;rw[Int.toNat_of_nonneg this]⟩
abbrev gdS(r c t:Nat)(rows:LI)(b d e:Option Sl):Ds:=[on (.sh .bag),on (.sh (.int (r:Int))),on (.sh (.int (c:Int))),on (.sh (.int (t:Int))),on (.grd (gI rows)),b,d,e]
theorem mJ{r c t:Nat}(ok:β.ok)(r0:1<=r)(r1:r<=4)(c1:1<=c)(c6:c<=6)(C:t<=40):∃(rows:LI) (j:Bg),(jZ K a).1 [.bag,.int (r:Int),.int (c:Int),.int (t:Int)] β=on (.ok (bF rows),j)/\(Tab r c rows/\tot rows=(t:Int))/\j.ok:=by
 suffices h:∃g j,(jZ K a).1 [.bag,.int (r:Int),.int (c:Int),.int (t:Int)] β=on (g,j)/\(∃(rows:LI),g= .ok (bF rows)/\(Tab r c rows/\tot rows=(t:Int))/\j.ok) by
  obtain⟨g,j,e,rows,rfl,F,H⟩:=h;exact⟨rows,j,e,F,H⟩
 unfold jZ
 dsimp only
 refine p7 ?_;refine HN (rows:=(O6 r).map λ_=>Pi c (D.int 0)) (β1:=β) (rR (O6 r) (λi=>D.int (0+(i:Int))) _ (bq (ds:=aU 0 r) rfl (rg1 (by omega) (by omega))) (λx _=>⟨_,rfl,Ol (x:= .int 0) (c:=c) rfl rfl (by omega)⟩) (aX (by rw[Pr];omega))) ?_ ?_
 ·rw[Rp]
  intro x k;obtain⟨_,_,rfl⟩:=Pp.mp k;rw[←Qy (f:=D.int)];exact rD _
 have I:(O6 r).map (λ_=>Pi c (D.int 0))=gI (Pi r (Pi c 0)):=by
  show _=Rk _ _;rw[Qy,List.map_const',Qy,Pr]
 rw[I];refine cg (ds:=aU 0 t) (β1:=β) (bq rfl (rg1 (by omega) (by omega))) (λi δ β=>β.ok/\∃rows p q w,δ=gdS r c t rows p q w/\Shp r c rows/\(∀row∈rows,∀x∈row,0<=x)/\tot rows=(i:Int)) ⟨ok,Pi r (Pi c 0),OR,OR,OR,rfl,⟨by simp,λrow h=>?_⟩,λrow h x k=>?_,?_⟩ ?_ ?_
 ·rw[(QN.mp h).2];simp
 ·rw[(QN.mp h).2]at k
  rw[(QN.mp k).2];exact XX _
 ·unfold tot
  rw[Qy];have z:∀n:Nat,(Pi n (0:Int)).sum=0:=λn=>by
   induction n with
   |zero=>rfl
   |succ n ih=>rw[P6,PQ,ih];rfl
  rw[z,z];rfl
 ·rintro i d δ j hd ⟨m,rows,p,q,w,rfl,sh,nn,C⟩
  obtain⟨v,β1,J,N,O,y⟩:=bK m (lot:=(r:Int)) (by omega) (by omega);obtain⟨u,β2,L,P,Q,A⟩:=bK y (lot:=(c:Int)) (by omega) (by omega);obtain⟨v,rfl⟩:∃n:Nat,v=(n:Int):=⟨v.toNat,by omega⟩;obtain⟨u,rfl⟩:∃n:Nat,u=(n:Int):=⟨u.toNat,by omega⟩;obtain⟨row,b,o⟩:=sh.at (i:=v) (by omega);obtain⟨x,k⟩:=Jp (l:=row) (i:=u) (by omega);refine⟨_,rfl,aI (am rfl J) (aI (am rfl L) (ar (HM (d:= .int (x+1)) (β1:=β2) (β2:=β2) (β3:=β2) (rows:=gI rows) (ds:=row.map D.int) (ka:=v) (kb:=u) (ja:=v) (jb:=u) (x_2 (x_2 (x_2 rfl rfl (pE (row:=row.map D.int) ?_)) rfl (dD (d:= .int x) ?_)) rfl rfl) rfl rfl rfl ?_ ?_ ?_ rfl (bn ⟨A,rows.set v (row.set u (x+1)),on (.sh d),on (.sh (.int (v:Int))),on (.sh (.int (u:Int))),?_,sh.set b,Mf nn b ?_,?_⟩))))⟩
  ·rw[O4,b];rfl
  ·rw[O4,k];rfl
  ·rw[OS,sh.1];exact lN (by omega) (by omega)
  ·rw[O4,b];rfl
  ·rw[OS,o];exact lN (by omega) (by omega)
  ·show[_,_,_,_,on (Sl.grd ((gI rows).set v ((row.map D.int).set u (.int (x+1))))),_,_,_]=_
   rw[show(gI rows).set v ((row.map D.int).set u (.int (x+1)))=gI (rows.set v (row.set u (x+1))) by show _=Rk _ _;rw[Ua,Ua]]
  ·have:=nn row (PD b) x (PD k)
   omega
  ·have:=JK (v:=x+1) b k
   omega
 ·rintro δ j ⟨m,rows,p,q,w,rfl,sh,nn,B⟩
  rw[ue]at B;exact ar (aS rfl ⟨rows,rfl,⟨⟨sh,nn,by omega,r0,r1,c1,c6⟩,B⟩,m⟩)
def Sml(r c:Nat)(rows:LI):Prop:=Tab r c rows/\tot rows<=7
theorem tQ(ok:β.ok):∃(rows:LI) (r c:Nat) (b:Bg),(i7 K a).1 [.bag] β=on (.ok (bF rows),b)/\Sml r c rows/\b.ok:=by
 suffices h:∃g b,(i7 K a).1 [.bag] β=on (g,b)/\(∃(rows:LI) (r c:Nat),g= .ok (bF rows)/\Sml r c rows/\b.ok) by
  obtain⟨g,b,e,rows,r,c,rfl,u,v⟩:=h;exact⟨rows,r,c,b,e,u,v⟩
 unfold i7
 dsimp only
 refine p7 ?_;have p:∀(k n:Nat),kG (.int (k:Int)) (.int (n:Int))=on (.int ((k+n:Nat):Int)):=λk n=>by show on (D.int _)=_;rw[Vg]
 obtain⟨y,β1,w,a0,a1,j⟩:=bK ok (lot:=8) (by decide) (by decide);refine aI (am rfl w) ?_;refine gN (β1:=β1) (x_B (x_2 rfl rfl eq_int)) ?_;by_cases q1:y=0
 ·rw[O8 (PH q1)]
  obtain⟨t,β2,l,b0,b1,d⟩:=bK j (lot:=5) (by decide) (by decide);obtain⟨t,rfl⟩:∃n:Nat,t=(n:Int):=⟨t.toNat,by omega⟩;obtain⟨rows,β3,e,g,f⟩:=mJ (K:=K) (a:=a) (r:=4) (c:=6) (t:=t) d (by decide) (by decide) (by decide) (by decide) (by omega);exact aS (am (ac rfl (ac rfl (ac rfl (ac (am rfl l) rfl)))) e) ⟨rows,4,6,rfl,⟨g.1,by omega⟩,f⟩
 rw[O3 (by simp[q1])];refine bA ?_;refine gN (β1:=β1) (x_B (x_2 rfl rfl eq_int)) ?_;by_cases q2:y=1
 ·rw[O8 (PH q2)]
  obtain⟨c,β2,l,b0,b1,d⟩:=bK j (lot:=6) (by decide) (by decide);obtain⟨t,β3,m,c0,c1,f⟩:=bK d (lot:=8) (by decide) (by decide);obtain⟨c,rfl⟩:∃n:Nat,c=(n:Int):=⟨c.toNat,by omega⟩;obtain⟨t,rfl⟩:∃n:Nat,t=(n:Int):=⟨t.toNat,by omega⟩;obtain⟨rows,o,e,g,i⟩:=mJ (K:=K) (a:=a) (r:=1) (c:=1+c) (t:=t) f (by decide) (by decide) (by omega) (by omega) (by omega);exact aS (am (ac rfl (ac rfl (ac (x_2 rfl (am rfl l) (p 1 c)) (ac (am rfl m) rfl)))) e) ⟨rows,1,1+c,rfl,⟨g.1,by omega⟩,i⟩
 rw[O3 (by simp[q2])];refine bA ?_;refine gN (β1:=β1) (x_B (x_2 rfl rfl eq_int)) ?_;by_cases q3:y=2
 ·rw[O8 (PH q3)]
  obtain⟨c,β2,l,b0,b1,d⟩:=bK j (lot:=4) (by decide) (by decide);obtain⟨t,β3,m,c0,c1,f⟩:=bK d (lot:=8) (by decide) (by decide);obtain⟨c,rfl⟩:∃n:Nat,c=(n:Int):=⟨c.toNat,by omega⟩;obtain⟨t,rfl⟩:∃n:Nat,t=(n:Int):=⟨t.toNat,by omega⟩;obtain⟨rows,o,e,g,i⟩:=mJ (K:=K) (a:=a) (r:=1+c) (c:=1) (t:=t) f (by omega) (by omega) (by decide) (by decide) (by omega);exact aS (am (ac rfl (ac (x_2 rfl (am rfl l) (p 1 c)) (ac rfl (ac (am rfl m) rfl)))) e) ⟨rows,1+c,1,rfl,⟨g.1,by omega⟩,i⟩
 rw[O3 (by simp[q3])];refine bA ?_;obtain⟨r,β2,l,b0,b1,d⟩:=bK j (lot:=2) (by decide) (by decide);obtain⟨c,β3,m,c0,c1,f⟩:=bK d (lot:=3) (by decide) (by decide);obtain⟨t,o,A,B,d1,i⟩:=bK f (lot:=8) (by decide) (by decide);obtain⟨r,rfl⟩:∃n:Nat,r=(n:Int):=⟨r.toNat,by omega⟩;obtain⟨c,rfl⟩:∃n:Nat,c=(n:Int):=⟨c.toNat,by omega⟩;obtain⟨t,rfl⟩:∃n:Nat,t=(n:Int):=⟨t.toNat,by omega⟩;obtain⟨rows,β5,e,g,q⟩:=mJ (K:=K) (a:=a) (r:=2+r) (c:=2+c) (t:=t) i (by omega) (by omega) (by omega) (by omega) (by omega);refine aI (x_2 rfl (am rfl l) (p 2 r)) (aI (x_2 rfl (am rfl m) (p 2 c)) ?_);exact ar (aS (am (ac rfl (ac rfl (ac rfl (ac (am rfl A) rfl)))) e) ⟨rows,2+r,2+c,rfl,⟨g.1,by omega⟩,q⟩)
theorem few1:∀x<9,(x+1)*1<=500/\1<63:=by decide
theorem few2:∀x<9,∀y<9-x,(x+1)*((y+1)*1)<=500/\(x+1)*1<63:=by decide
theorem few3:∀x<9,∀y<9-x,∀z<9-x-y,(x+1)*((y+1)*((z+1)*1))<=500/\(x+1)*((y+1)*1)<63:=by decide
theorem few4:∀x<9,∀y<9-x,∀z<9-x-y,∀w<9-x-y-z,(x+1)*((y+1)*((z+1)*((w+1)*1)))<=500/\(x+1)*((y+1)*((z+1)*1))<63:=by decide
theorem few:∀{rs:List Nat},1<=rs.length->rs.length<=4->rs.sum<=8->Nrw rs/\pr (rs.dropLast.map (·+1))<63
 |[x],_,l,h=>by
  have q:=few1 x (by simp at h;omega);exact⟨⟨by show 1<=1;decide,l,by omega,q.1⟩,q.2⟩
 |[x,y],_,l,h=>by
  have q:=few2 x (by simp at h;omega) y (by simp at h;omega);exact⟨⟨by show 1<=2;decide,l,by omega,q.1⟩,q.2⟩
 |[x,y,z],_,l,h=>by
  have q:=few3 x (by simp at h;omega) y (by simp at h;omega) z (by simp at h;omega);exact⟨⟨by show 1<=3;decide,l,by omega,q.1⟩,q.2⟩
 |[x,y,z,w],_,l,h=>by
  have q:=few4 x (by simp at h;omega) y (by simp at h;omega) z (by simp at h;omega) w (by simp at h;omega);exact⟨⟨by show 1<=4;decide,l,by omega,q.1⟩,q.2⟩
 |[],h,_,_=>by simp at h
 |_::_::_::_::_::_,_,h,_=>by simp at h
theorem toB{r c:Nat}{b:LP}(h:Bnd r c b):∃B,b=aZ B/\BOk r c B:=by
 have e:b=aZ (b.map λrow=>row.map λp=>(p.1.toNat,p.2.toNat)):=by
  unfold aZ;rw[Pd];refine(V5 b).symm.trans (P0 λrow g=>?_);show row=Rk _ (Rk _ row);rw[Pd];refine(V5 row).symm.trans (P0 λp i=>?_);obtain⟨a1,a2,a3⟩:=h.ok row g p i;exact S7 (show p.1=((p.1.toNat:Nat):Int) by omega) (show p.2=((p.2.toNat:Nat):Int) by omega)
 refine⟨_,e,h.shp.map,λrow g p i=>?_⟩;obtain⟨d,j,rfl⟩:=Pp.mp g;obtain⟨f,k,rfl⟩:=Pp.mp i;obtain⟨a1,a2,a3⟩:=h.ok d j f k;show f.1.toNat<=f.2.toNat/\f.2.toNat<=40;omega
theorem tP{r c:Nat}{rows:LI}{b:LP}(s:Sml r c rows)(k:Bnd r c b)(kp:Kp rows b):∃B rs cs,b=aZ B/\NtB rows B rs cs/\rs.length=r/\cs.length=c/\rs.sum<=8:=by
 obtain⟨t,l⟩:=s;obtain⟨B,rfl,ok⟩:=toB k;obtain⟨rs,e⟩:=tJ (xs:=rows.map Rl) λx f=>by
  obtain⟨row,g,rfl⟩:=Pp.mp f;exact kS (t.nn row g)
 obtain⟨cs,i⟩:=tJ (xs:=(tp c rows).map Rl) λx f=>by
  obtain⟨row,g,rfl⟩:=Pp.mp f;exact kS (NZ t.nn row g)
 have m:rs.length=r:=by rw[←t.shp.1,←OS (as:=rows) Rl,e,OS]
 have n:cs.length=c:=by rw[←(vK (d:=(0:Int)) (c:=c) t.shp.1).1,←OS (as:=tpA 0 c rows) Rl];exact(Qr Vq i).symm▸(OS _).symm
 have j:rs.sum<=8:=by
  have h:(rows.map Rl).sum<=7:=l;rw[e,jI]at h;omega
 have o:rs.sum=cs.sum:=by
  have h:tot (tp c rows)=tot rows:=yM t.shp.2;unfold tot at h;rw[i,e,jI,jI]at h;omega
 have r0:=t.r0;have r1:=t.r1;have c0:=t.c0;have c1:=t.c1;obtain⟨q1,q2⟩:=few (rs:=rs) (by omega) (by omega) j;subst m n;exact⟨B,rs,cs,rfl,⟨⟨q1,q2,o,c0,c1⟩,t.shp,e,i,ok,kp⟩,rfl,rfl,j⟩
theorem wr{rows:LI}{B:List (List (Nat×Nat))}{rs cs:List Nat}(h:NtB rows B rs cs):(qr K a).1 [bF rows,bDN B] β=on (.ok (iN a B rs cs),β):=by
 obtain⟨e,g,_,_⟩:=h.nr;have c6:=h.c6;have b:=jY (K:=K) (a:=a) (β:=β) (rows:=rows) (by rw[h.shp.1];omega);have c:=gZ (K:=K) (a:=a) (β:=β) h.shp e (by omega) (by omega);rw[h.rw1]at b;rw[h.cl1]at c;have f:=BA (K:=K) (a:=a) (β:=β) (rows:=gP (aZ B)) (by rw[OS,(jl h.bok.1).1];omega);unfold qr
 dsimp only
 refine aO (ar (aS (d:=iN a B rs cs) (β1:=β) ?_ ⟨rfl,rfl⟩));unfold pR;rw[M.bind_ok (ac (am rfl b) (ac (am rfl c) rfl)),M.bind_ok (ac (am rfl f) rfl)];exact(M.bind_ok (zJ h)).trans rfl
theorem pp{B d:List (List (Nat×Nat))}{rs cs b c:List Nat}:(fW K a).1 [iN a B rs cs,iN a d b c] β=on (.ok (.bl (decide (nI rs=nI b)&&(decide (nI cs=nI c)&&decide (aZ B=aZ d)))),β):=
 aO (ar (aS (vD (aj rfl EJ) (l8 (x_2 (h9 rfl rfl) (h9 rfl rfl) (sY _ _)) (l8 (x_2 (h9 rfl rfl) (h9 rfl rfl) (sY _ _)) (x_2 (h9 rfl rfl) (h9 rfl rfl) (ye _ _))))) ⟨rfl,rfl⟩))
theorem wn(b:Ur K (.type "list") (.ref a.An)=on OW){B:List (List (Nat×Nat))}{rs cs:List Nat}{ds:List D}:(fW K a).1 [iN a B rs cs,.lst ds] β=on (.ok (.bl OW),β):=
 aO (ar (aS (vE (aj (z:= .bl OW) rfl (by
  show(Ur K (.type "list") (.ref a.An)).map D.bl=_;rw[b];rfl))) ⟨rfl,rfl⟩))
noncomputable abbrev l23(g o l p:D)(f h i j b c d e:Option Sl):Ds:=[OR,on (.sh .bag),on (.sh g),on (.sh o),on (.sh l),on (.sh p),f,h,i,j,b,c,d,e]
theorem Kz{r c:Nat}{rows:LI}(t:Tab r c rows):Kp rows (aZ (frN r c)):=by rw[ya];exact Kp.free t
theorem DY(hK:Ur K (.type "list") (.ref a.An)=on OW)(β:Bg)(ok:β.ok):∃C,(oZ K a).1 [OR,on (.sh .bag),OR,OR,OR,OR,OR,OR,OR,OR,OR,OR,OR,OR] β=on (.rt (.bl OV),C):=by
 suffices h:Gw (oZ K a).1 [OR,on (.sh .bag),OR,OR,OR,OR,OR,OR,OR,OR,OR,OR,OR,OR] β (λo _=>o= .rt (.bl OV)) by
  obtain⟨o,C,e,rfl⟩:=h;exact⟨C,e⟩
 obtain⟨g,r,c,β1,e1,t,U⟩:=tQ (K:=K) (a:=a) ok;obtain⟨o,F,H,β2,e2,w,W⟩:=tQ (K:=K) (a:=a) U;obtain⟨l,β3,e3,bl,kl,X⟩:=ki (K:=K) (a:=a) t.1 W;obtain⟨p,β4,e4,L,kp,Y⟩:=ki (K:=K) (a:=a) w.1 X;obtain⟨y,β5,p5,y0,y1,N⟩:=bK Y (lot:=4) (by decide) (by decide);unfold oZ
 dsimp only
 refine aI (am rfl e1) (aI (am rfl e2) (aI (am rfl e3) (aI (am rfl e4) (aI (am rfl p5) ?_))));refine HL (λδ β=>β.ok/\∃o F H p,δ=l23 (bF g) (bF o) (bD l) (bD p) (on (.sh (.int y))) OR OR OR OR OR OR OR/\Sml F H o/\Bnd F H p/\Kp o p/\(y<3->o=g/\F=r/\H=c)) ?_ ?_
 ·refine ar (gN (β1:=β5) (x_B (x_2 rfl rfl lt_int)) ?_)
  by_cases q:y<3
  ·rw[O8 (PH q)]
   obtain⟨p2,O,e6,Z,kp2,A⟩:=ki (K:=K) (a:=a) t.1 N;exact JB (aI rfl (aI (am rfl e6) (oE ⟨A,g,r,c,p2,rfl,t,Z,kp2,λ_=>⟨rfl,rfl,rfl⟩⟩)))
  ·rw[O3 (by simp[q])]
   exact bA (oE ⟨N,o,F,H,p,rfl,w,L,kp,λz=>PF z q⟩)
 rintro δ O ⟨A,o,F,H,p,rfl,w,L,kp,hy⟩;refine HL (λδ β=>β.ok/\∃p,δ=l23 (bF g) (bF o) (bD l) (bD p) (on (.sh (.int y))) OR OR OR OR OR OR OR/\Bnd F H p/\Kp o p) ?_ ?_
 ·refine ar (gN (β1:=O) (x_B (x_2 rfl rfl eq_int)) ?_)
  by_cases q:y=1
  ·rw[O8 (PH q)]
   obtain⟨rfl,rfl,rfl⟩:=hy (by omega);exact aI rfl (oE ⟨A,l,rfl,bl,kl⟩)
  ·rw[O3 (by simp[q])]
   exact bA (oE ⟨A,p,rfl,L,kp⟩)
 rintro δ j ⟨ok7,p,rfl,L,kp⟩;obtain⟨B,rs,cs,rfl,nt,lr,T,s8⟩:=tP t bl kl;obtain⟨J,u,v,rfl,I,lr',lc',s8'⟩:=tP w L kp;obtain⟨B0,f,b,e0,P,lr0,lc0,_⟩:=tP t (Bnd.free r c) (Kp.free t.1);have r1:=t.1.r1;have r0:=t.1.r0;have c1:=t.1.c1;have c0:=t.1.c0;have x1:=jY (K:=K) (a:=a) (β:=j) (rows:=g) (by rw[t.1.shp.1];omega);have x2:=gZ (K:=K) (a:=a) (β:=j) t.1.shp r0 (by omega) (by omega);have x3:=jY (K:=K) (a:=a) (β:=j) (rows:=o) (by rw[w.1.shp.1];have:=w.1.r1;omega);have x4:=gZ (K:=K) (a:=a) (β:=j) w.1.shp w.1.r0 (by have:=w.1.r1;omega) (by have:=w.1.c1;omega);rw[nt.rw1]at x1;rw[←T,nt.cl1]at x2;rw[I.rw1]at x3;rw[←lc',I.cl1]at x4;have i1:f=rs:=jJ (P.rw1.symm.trans nt.rw1);have i2:b=cs:=jJ (P.cl1.symm.trans (by rw[lc0,←T];exact nt.cl1));subst i1 i2;have nf:NtB g (frN f.length b.length) f b:=⟨nt.toNt0,nt.shp,nt.rw1,nt.cl1,⟨⟨by simp,λrow h=>by rw[(QN.mp h).2];simp⟩,λrow h q hq=>by
  rw[(QN.mp h).2]at hq;rw[(QN.mp hq).2];decide⟩,by rw[lr,T];exact Kz t.1⟩
 have fe:fm r c=aZ (frN f.length b.length):=by rw[ya,lr,T]
 have lf:=DV (K:=K) (a:=a) (β:=j) (r:=r) (c:=c) (by omega) (by omega);rw[fe]at lf;have hl:cJ [bF g]=on (.int (r:Int)):=uH (by rw[OS,t.1.shp.1]);obtain⟨row,Q,R⟩:=t.1.shp.at (i:=0) (by omega);have hx:ixD (bF g) (.int 0)=on (.lst (row.map D.int)):=pE (k:=0) (by rw[O4,Q];rfl);have hc:cJ [.lst (row.map D.int)]=on (.int (c:Int)):=db (by rw[OS,R]);have nl:∀{δ:Dn} {n m:Nat},δ.getD n OR=on (nL f)->δ.getD m OR=on (nL b)->aa (az mC (aa (ae n) aq)) (aa (az mC (aa (ae m) aq)) aq) δ j=on (.ok [nL f,nL b],j):=λ{δ n m} z1 z2=>ac (aj (ac (ox z1) rfl) rfl) (ac (aj (ac (ox z2) rfl) rfl) rfl);refine aI (am rfl (wr nt)) (aI (am rfl (wr I)) (aI (am rfl x1) (aI (am rfl x2) ?_)));refine aI (d:= .bl (decide (nI f=nI u)&&(decide (nI b=nI v)&&decide (aZ B=aZ J)))) (β1:=j) (l8 (x_2 rfl (am rfl x3) (sY _ _)) (l8 (x_2 rfl (am rfl x4) (sY _ _)) (x_2 rfl rfl (ye _ _)))) ?_;refine fQ (w4 (ma (c:=OV) (oy (am (ac (oA rfl rfl pp) rfl) xu) rfl)) (ma (c:=OV) (oy (am (as:=[.bl (decide (nI u=nI f)&&(decide (nI v=nI b)&&decide (aZ J=aZ B))),.bl (decide (nI f=nI u)&&(decide (nI b=nI v)&&decide (aZ B=aZ J)))]) (β1:=j) (ac (oA rfl rfl pp) rfl) (r:=(.ok (.bl OV),j)) ?_) rfl))) (bA ?_)
 ·rw[show(decide (nI u=nI f)&&(decide (nI v=nI b)&&decide (aZ J=aZ B)))=(decide (nI f=nI u)&&(decide (nI b=nI v)&&decide (aZ B=aZ J))) by rw[decide_eq_decide.mpr (eq_comm (a:=nI u)),decide_eq_decide.mpr (eq_comm (a:=nI v)),decide_eq_decide.mpr (eq_comm (a:=aZ J))]]
  exact xu
 obtain⟨pl,pe⟩:=DG (K:=K) (a:=a) (β:=j) nt.nt;refine fQ (w4 (x_B (x_2 (yA rfl rfl (wn hK)) rfl rfl)) (x_B (x_2 (yA rfl (tB rfl rfl pe) (wn hK)) rfl rfl))) (bA ?_);refine aI (d:=iN a (frN f.length b.length) f b) (β1:=j) (K4 (nl rfl rfl) (wk nf)) ?_;refine aI (d:=bDN (frN f.length b.length)) (β1:=j) (am (ac (aj rfl hl) (ac (aj (ac (x_2 rfl rfl hx) rfl) hc) rfl)) lf) ?_;refine fQ (ma (c:=OV) (oy (am (as:=[.bl (decide (nI f=nI f)&&(decide (nI b=nI b)&&decide (aZ (frN f.length b.length)=aZ B))),.bl (decide (aZ B=aZ (frN f.length b.length)))]) (β1:=j) (ac (oA rfl rfl pp) (ac (x_2 rfl rfl (ye _ _)) rfl)) (r:=(.ok (.bl OV),j)) ?_) rfl)) (bA ?_)
 ·rw[PH (rfl:nI f=nI f),PH (rfl:nI b=nI b),Sm,Sm,decide_eq_decide.mpr (eq_comm (a:=aZ (frN f.length b.length)))]
  exact xu
 have self:∀{β:Bg},(fW K a).1 [iN a (frN f.length b.length) f b,iN a (frN f.length b.length) f b] β=on (.ok (.bl OV),β):=λ{β}=>by
  rw[pp,PH (rfl:nI f=nI f),PH (rfl:nI b=nI b),PH (rfl:aZ (frN f.length b.length)=_)];rfl
 refine fQ (x_B (x_2 (oA (β1:=j) (β2:=j) rfl ?_ (self (β:=j))) rfl rfl)) (bA ?_)
 ·unfold pR
  rw[M.bind_ok (nl rfl rfl),M.bind_ok (ac rfl rfl)];exact(M.bind_ok (wk nf)).trans rfl
 refine fQ (x_B (x_2 (oA (β1:=j) (β2:=j) rfl ?_ (self (β:=j))) rfl rfl)) (bA ?_)
 ·unfold pR
  rw[M.bind_ok (nl rfl rfl),M.bind_ok (ac rfl rfl)];exact(M.bind_ok (zJ nf)).trans rfl
 have la:(v4 K a).1 [bF g,bDN B] j=on (.ok (.lst ((lst (wB B b) f b.length).map λq=> .lst (q.1.map nL))),j):=aO (ar (aS (am (ac (am rfl x1) (ac (am rfl x2) rfl)) (xO nt.toNt0 s8 nt.bok)) ⟨rfl,rfl⟩));refine ar (aS (am (ac (tB rfl rfl JM) (ac (aj (ac (am rfl la) rfl) (db (by rw[OS,Ku]))) rfl)) N7) rfl)
end
noncomputable abbrev E(P:WL)(n:String)(t:Nat)(v:OX):Ta:=⟨PyData.keyHash P (P5 n),.str (P5 n) t,v⟩
noncomputable abbrev FN(x q:PY)(s:QF)(b c a d:OX)(e:Option OZ)(cd ct:OX):PL:=Tj x q (iz s) (cw s) (af s) b c a d e cd ct
noncomputable abbrev fO(f:PL):PP:=⟨.type "function",OR,.func f,#[]⟩
noncomputable abbrev tO(l:List OX):PP:=⟨.type "tuple",OR,.seq l.toArray 0,#[]⟩
noncomputable abbrev cO(l:List OX):PP:=⟨.type "code",OR,.fields l.toArray,#[]⟩
noncomputable abbrev eB(P:WL)(n:String)(t:Nat):Ta:=E P n t (.builtin n)
noncomputable abbrev eT(P:WL)(n:String)(t:Nat):Ta:=E P n t (.type n)
noncomputable abbrev eR(P:WL)(n:String)(t r:Nat):Ta:=E P n t (.ref r)
noncomputable abbrev nO(l:List OX):PP:=⟨.none,OR,.fields l.toArray,#[]⟩
noncomputable abbrev fB(x q:PY)(s:QF):PP:=⟨.none,OR,.func ⟨x,q,iz s,.stmts (cw s),af s,0,[],.none,.none,.none,.none,OR,.none,.none,0⟩,#[]⟩
noncomputable abbrev cC(n q:PY)(t l a po c fl r:Nat)(b:Bool)(d e:Nat)(x y z w:OX)(u f v:Nat):PP:=cO [.str n t,.str q (t+1),.str "/claim/cut.py" (t+2),.int l 0,.int a 0,.int po 0,.int c 0,.int fl 0,.ref r,.bool b,.int d 0,.ref e,x,y,z,w,.int u 0,.int f 0,.str "/claim/cut.py" v]
noncomputable abbrev cF(n:PY)(t l a b r c u:Nat):PP:=cC n n t l a 0 b 3 r OV c (r+1) .none .none .none (.ref (r+2)) u l (u+1)
noncomputable abbrev cG(n:PY)(t l a b r c u:Nat):PP:=cC n n t l a 0 b 3 r OV c (r+1) .none (.ref (r+2)) (.ref (r+3)) (.ref (r+4)) u l (u+1)
noncomputable abbrev fM(m:PY)(t:Nat)(x:PY)(i c:Nat):PP:=fO (FN x x (top i) .none .none .none (.str m t) OR (.ref c) .none)
noncomputable abbrev tx0:OX:= .str "edgetally.errors" 194
noncomputable abbrev tx1:OX:= .str "edgetally.net" 464
noncomputable abbrev tx2:OX:= .str "__main__" 164
noncomputable abbrev fL(x q:PY)(i c:Nat):PP:=fO (FN x q (top i) .none .none .none (.str "law_edgetally_k23_nets_alike" 642) OR (.ref c) .none)
noncomputable def trL:List Nat->List OX
 |a::b::c::l=> .int a 0:: .int b 0:: .ref c::trL l
 |_=>[]
noncomputable abbrev nT(l:List Nat):PP:=nO (trL l)
noncomputable def stL:Nat->List PY->List OX
 |_,[]=>[]
 |t,x::l=> .str x t::stL (t+1) l
noncomputable abbrev tS(t:Nat)(l:List PY):PP:=tO (stL t l)
noncomputable def fD(o:PP):PL:=match o.data with
 | .func f=>f
 |_=>FN "" "" (top 0) .none .none .none .none OR .none .none
section
variable(P:WL)
def b0:PP:=⟨(.type "dict"),OR,(.dict #[(E P "__name__" 1 (.str "builtins" 160)),(E P "__doc__" 2 (.builtin "builtins.__doc__:str#opaque")),(E P "__package__" 3 (.builtin "builtins.__package__:str#opaque")),(E P "__loader__" 4 (.builtin "builtins.__loader__:shared#opaque")),(E P "__spec__" 5 (.builtin "builtins.__spec__#opaque")),(eB P "__build_class__" 6),(eB P "__import__" 7),(eB P "abs" 8),(eB P "all" 9),(eB P "any" 10),(eB P "ascii" 11),(eB P "bin" 12),(eB P "breakpoint" 13),(eB P "callable" 14),(eB P "chr" 15),(eB P "compile" 16),(eB P "delattr" 17),(eB P "dir" 18),(eB P "divmod" 19),(eB P "eval" 20),(eB P "exec" 21),(eB P "format" 22),(eB P "getattr" 23),(eB P "globals" 24),(eB P "hasattr" 25),(eB P "hash" 26),(eB P "hex" 27),(eB P "id" 28),(eB P "input" 29),(eB P "isinstance" 30),(eB P "issubclass" 31),(eB P "iter" 32),(eB P "aiter" 33),(eB P "len" 34),(eB P "locals" 35),(eB P "max" 36),(eB P "min" 37),(eB P "next" 38),(eB P "anext" 39),(eB P "oct" 40),(eB P "ord" 41),(eB P "pow" 42),(eB P "print" 43),(eB P "repr" 44),(eB P "round" 45),(eB P "setattr" 46),(eB P "sorted" 47),(eB P "sum" 48),(eB P "vars" 49),(E P "None" 50 .none),(E P "Ellipsis" 51 .ellipsis),(E P "NotImplemented" 52 .notImplemented),(E P "False" 53 (.bool OW)),(E P "True" 54 (.bool OV)),(eT P "bool" 55),(eT P "memoryview" 56),(eT P "bytearray" 57),(eT P "bytes" 58),(eT P "classmethod" 59),(eT P "complex" 60),(eT P "dict" 61),(eT P "enumerate" 62),(eT P "filter" 63),(eT P "float" 64),(eT P "frozenset" 65),(eT P "property" 66),(eT P "int" 67),(eT P "list" 68),(eT P "map" 69),(eT P "object" 70),(eT P "range" 71),(eT P "reversed" 72),(eT P "set" 73),(eT P "slice" 74),(eT P "staticmethod" 75),(eT P "str" 76),(eT P "super" 77),(eT P "tuple" 78),(eT P "type" 79),(eT P "zip" 80),(E P "__debug__" 81 (.bool OV)),(eT P "BaseException" 82),(eT P "BaseExceptionGroup" 83),(eT P "Exception" 84),(eT P "GeneratorExit" 85),(eT P "KeyboardInterrupt" 86),(eT P "SystemExit" 87),(eT P "ArithmeticError" 88),(eT P "AssertionError" 89),(eT P "AttributeError" 90),(eT P "BufferError" 91),(eT P "EOFError" 92),(eT P "ImportError" 93),(eT P "LookupError" 94),(eT P "MemoryError" 95),(eT P "NameError" 96),(eT P "OSError" 97),(eT P "ReferenceError" 98),(eT P "RuntimeError" 99),(eT P "StopAsyncIteration" 100),(eT P "StopIteration" 101),(eT P "SyntaxError" 102),(eT P "SystemError" 103),(eT P "TypeError" 104),(eT P "ValueError" 105),(eT P "Warning" 106),(eT P "FloatingPointError" 107),(eT P "OverflowError" 108),(eT P "ZeroDivisionError" 109),(eT P "BytesWarning" 110),(eT P "DeprecationWarning" 111),(eT P "EncodingWarning" 112),(eT P "FutureWarning" 113),(eT P "ImportWarning" 114),(eT P "PendingDeprecationWarning" 115),(eT P "ResourceWarning" 116),(eT P "RuntimeWarning" 117),(eT P "SyntaxWarning" 118),(eT P "UnicodeWarning" 119),(eT P "UserWarning" 120),(eT P "BlockingIOError" 121),(eT P "ChildProcessError" 122),(eT P "ConnectionError" 123),(eT P "FileExistsError" 124),(eT P "FileNotFoundError" 125),(eT P "InterruptedError" 126),(eT P "IsADirectoryError" 127),(eT P "NotADirectoryError" 128),(eT P "PermissionError" 129),(eT P "ProcessLookupError" 130),(eT P "TimeoutError" 131),(eT P "IndentationError" 132),(eT P "_IncompleteInputError" 133),(eT P "IndexError" 134),(eT P "KeyError" 135),(eT P "ModuleNotFoundError" 136),(eT P "NotImplementedError" 137),(eT P "PythonFinalizationError" 138),(eT P "RecursionError" 139),(eT P "UnboundLocalError" 140),(eT P "UnicodeError" 141),(eT P "BrokenPipeError" 142),(eT P "ConnectionAbortedError" 143),(eT P "ConnectionRefusedError" 144),(eT P "ConnectionResetError" 145),(eT P "TabError" 146),(eT P "UnicodeDecodeError" 147),(eT P "UnicodeEncodeError" 148),(eT P "UnicodeTranslateError" 149),(eT P "ExceptionGroup" 150),(E P "EnvironmentError" 151 (.type "OSError")),(E P "IOError" 152 (.type "OSError")),(eB P "open" 153),(E P "quit" 154 (.builtin "builtins.quit#opaque")),(E P "exit" 155 (.builtin "builtins.exit#opaque")),(E P "copyright" 156 (.builtin "builtins.copyright#opaque")),(E P "credits" 157 (.builtin "builtins.credits#opaque")),(E P "license" 158 (.builtin "builtins.license#opaque")),(E P "help" 159 (.builtin "builtins.help#opaque"))] 159),#[]⟩
def b1:PP:=⟨(.type "dict"),OR,(.dict #[(eR P "builtins" 162 4),(eR P "__main__" 163 5)] 2),#[]⟩
noncomputable def b2:PP:=⟨.none,OR,(.dict #[] 0),#[]⟩
def mL:List Ta:=[(E P "__name__" 165 (.str "law_edgetally_k23_nets_alike" 642)),(E P "__doc__" 166 .none),(E P "__package__" 167 .none),(E P "__loader__" 168 (.builtin "__main__.__loader__#opaque")),(E P "__spec__" 169 .none),(eR P "__annotations__" 170 6),(eR P "__builtins__" 171 4),(E P "__file__" 173 (.str "/claim/cut.py" 172)),(E P "__cached__" 174 .none),(eR P "_wall" 193 21),(eR P "EdgeError" 223 38),(eR P "BadSums" 248 59),(eR P "BadBounds" 273 79),(eR P "TooWide" 298 98),(eR P "Barred" 325 117),(eR P "BadNumber" 350 137),(E P "MOST" 354 (.int 40 353)),(E P "MOST_ROWS" 356 (.int 4 355)),(E P "MOST_COLUMNS" 358 (.int 6 357)),(eR P "FREE" 360 140),(eR P "free" 367 146),(eR P "check_sums" 373 151),(eR P "check_pair" 382 158),(eR P "settled_bounds" 388 163),(eR P "factorial" 399 170),(eR P "ways" 408 177),(eR P "fillings" 414 182),(eR P "need_of" 422 187),(eR P "room_inside" 428 192),(eR P "room_beside" 434 197),(eR P "room_of" 440 202),(eR P "narrowest" 446 207),(eR P "choices" 452 212),(eR P "check_fit" 463 219),(E P "WIDE" 467 (.int 500 466)),(eR P "check_wide" 476 226),(eR P "settled_for_net" 486 233),(eR P "column_fillings" 492 238),(eR P "rests_behind" 498 243),(eR P "nodes_by_level" 504 248),(eR P "node_counts" 518 255),(eR P "counted_nodes" 524 260),(eR P "paper_rows" 530 265),(eR P "Net" 641 351),(eR P "_law_bag" 649 360),(eR P "_law_pull" 660 367),(eR P "_law_same" 666 372),(eR P "_law_grid" 672 377),(eR P "_law_small" 682 384),(eR P "_law_turned" 688 389),(eR P "_law_rowsums" 694 394),(eR P "_law_columnsums" 700 399),(eR P "_law_free" 706 404),(eR P "_law_bounds" 720 411),(eR P "_law_copied" 726 416),(eR P "_law_fit" 732 421),(eR P "_law_less" 738 426),(eR P "_law_listing" 744 431),(eR P "_law_all" 752 438),(eR P "_law_net" 760 445),(eR P "law" 780 452)]
noncomputable def b3:PP:=⟨(.type "dict"),OR,(.dict (mL P).toArray 61),#[]⟩
noncomputable def b4:PP:=⟨(.type "module"),(on 0),.plain,#[]⟩
noncomputable def b5:PP:=⟨(.type "module"),(on 3),.plain,#[]⟩
noncomputable def b6:PP:=⟨(.type "dict"),OR,(.dict #[] 0),#[]⟩
def b7:PP:=tO []
def b8:PP:=nO []
def b9:PP:=cC "<module>" "<module>" 176 1 0 0 0 0 7 OW 175 8 .none .none .none .none 179 1 180
def b10:PP:=⟨(.type "frame"),OR,.plain,#[(on (.ref 9)),(on (.ref 3)),(on (.ref 3)),OR,(on tx2),OR,(on (.ref 0))]⟩
def b12:PP:=nT [1,0,20,5,0,27,10,0,47,14,0,67,18,0,87,23,0,106,29,0,125,38,0,145,40,0,150,51,0,157,55,0,162,65,0,169,70,0,176,78,0,181,88,0,186,90,0,191,93,0,196,95,0,201,97,0,206,99,0,211,104,0,218,111,0,225,117,0,232,122,0,237,124,0,242,126,0,247,134,0,254,142,0,259,152,0,264,154,0,271,194,0,359,196,0,366,206,0,371,218,0,376,225,0,383,236,0,388,238,0,393,240,0,398,242,0,403,244,0,410,256,0,415,258,0,420,267,0,425,269,0,430,278,0,437,280,0,444,282,0,451]
def b13:PP:=cC "<module>" "<module>" 182 1 0 0 0 0 11 OW 181 12 .none .none .none .none 185 1 186
def b14:PP:=⟨(.type "frame"),OR,.plain,#[(on (.ref 13)),(on (.ref 3)),(on (.ref 3)),OR,(on tx2),OR,(on (.ref 0))]⟩
def b17:PP:=tS 190 ["k"]
def b19:PP:=fB "_wall" "_wall" (top 0)
def b20:PP:=cG "_wall" 187 1 1 0 15 181 191
def b21:PP:=fM "__main__" 164 "_wall" 0 20
def b22:PP:=tO [(.type "ValueError")]
noncomputable def b23:PP:=⟨(.type "builtin_function_or_method"),OR,(.fields #[(.builtin "type.__prepare__"),(.type "type")]),#[]⟩
def b24:PP:=⟨(.type "dict"),OR,(.dict #[(E P "__module__" 203 tx0),(E P "__qualname__" 205 (.str "EdgeError" 204)),(E P "__firstlineno__" 207 (.int 5 206)),(eR P "__init__" 216 35),(eR P "__static_attributes__" 218 36)] 5),#[]⟩
def b26:PP:=nT [7,4,34]
def b27:PP:=cC "EdgeError" "EdgeError" 198 5 0 0 0 0 25 OW 181 26 .none .none .none .none 201 5 202
def b28:PP:=⟨(.type "frame"),OR,.plain,#[(on (.ref 27)),(on (.ref 3)),(on (.ref 24)),OR,(on tx0),OR,(on (.ref 0))]⟩
def b31:PP:=tS 211 ["self","word","why"]
def b33:PP:=fB "__init__" "EdgeError.__init__" (aB (top 2) 0)
def b34:PP:=cC "__init__" "EdgeError.__init__" 208 7 3 0 0 3 29 OV 181 30 .none (.ref 31) (.ref 32) (.ref 33) 214 7 215
def b35:PP:=fO (FN "__init__" "EdgeError.__init__" (aB (top 2) 0) .none .none .none tx0 OR (.ref 34) .none)
def b36:PP:=tS 217 ["word"]
def b37:PP:=⟨(.type "dict"),OR,(.dict #[(E P "__module__" 203 tx0),(E P "__firstlineno__" 207 (.int 5 206)),(eR P "__init__" 216 35),(eR P "__static_attributes__" 218 36),(eR P "__weakref__" 220 39),(E P "__doc__" 221 .none)] 3),#[]⟩
noncomputable def b38:PP:=⟨(.type "type"),OR,(.cls ⟨"EdgeError",[(.type "ValueError")],[(.ref 38),(.type "ValueError"),(.type "Exception"),(.type "BaseException"),(.type "object")],37,"EdgeError",OV,[],[(.ref 59),(.ref 79),(.ref 98),(.ref 117),(.ref 137)],OW,OR,OW⟩),#[(on (.ref 22)),OR,(on (.str "EdgeError" 196)),(on (.str "EdgeError" 204)),(on (.builtin "ValueError.__new__")),(on (.bool OV))]⟩
noncomputable def b39:PP:=⟨(.type "getset_descriptor"),OR,(.fields #[(.str "__weakref__" 219),(.ref 38),(.builtin "ExceptionGroup.__weakref__"),.none]),#[]⟩
noncomputable def b40:PP:=⟨(.type "super"),OR,(.fields #[(.ref 38),(.ref 38),(.ref 38)]),#[]⟩
noncomputable def b41:PP:=⟨(.type "builtin_function_or_method"),OR,(.fields #[(.builtin "object.__init_subclass__"),(.ref 38)]),#[]⟩
def b42:PP:=tO [(.ref 38)]
def b44:PP:=⟨(.type "dict"),OR,(.dict #[(E P "__module__" 231 tx0),(E P "__qualname__" 233 (.str "BadSums" 232)),(E P "__firstlineno__" 235 (.int 10 234)),(eR P "__init__" 244 56),(eR P "__static_attributes__" 245 57)] 5),#[]⟩
def b46:PP:=nT [12,4,55]
def b47:PP:=cC "BadSums" "BadSums" 226 10 0 0 0 0 45 OW 181 46 .none .none .none .none 229 10 230
def b48:PP:=⟨(.type "frame"),OR,.plain,#[(on (.ref 47)),(on (.ref 3)),(on (.ref 44)),OR,(on tx0),OR,(on (.ref 0))]⟩
def b49:PP:=tS 236 ["these sums are no table's"]
def b52:PP:=tS 240 ["self","why"]
def b54:PP:=fB "__init__" "BadSums.__init__" (aB (top 3) 0)
def b55:PP:=cC "__init__" "BadSums.__init__" 237 12 2 0 0 3 50 OV 181 51 .none (.ref 52) (.ref 53) (.ref 54) 242 12 243
def b56:PP:=fO (FN "__init__" "BadSums.__init__" (aB (top 3) 0) (.ref 49) .none .none tx0 OR (.ref 55) .none)
def b58:PP:=⟨(.type "dict"),OR,(.dict #[(E P "__module__" 231 tx0),(E P "__firstlineno__" 235 (.int 10 234)),(eR P "__init__" 244 56),(eR P "__static_attributes__" 245 57),(E P "__doc__" 246 .none)] 2),#[]⟩
noncomputable def b59:PP:=⟨(.type "type"),OR,(.cls ⟨"BadSums",[(.ref 38)],[(.ref 59),(.ref 38),(.type "ValueError"),(.type "Exception"),(.type "BaseException"),(.type "object")],58,"BadSums",OV,[],[],OW,OR,OW⟩),#[(on (.ref 42)),OR,(on (.str "BadSums" 224)),(on (.str "BadSums" 232)),(on (.builtin "ValueError.__new__")),(on (.bool OV))]⟩
noncomputable def b60:PP:=⟨(.type "super"),OR,(.fields #[(.ref 59),(.ref 59),(.ref 59)]),#[]⟩
noncomputable def b61:PP:=⟨(.type "builtin_function_or_method"),OR,(.fields #[(.builtin "object.__init_subclass__"),(.ref 59)]),#[]⟩
def b64:PP:=⟨(.type "dict"),OR,(.dict #[(E P "__module__" 256 tx0),(E P "__qualname__" 258 (.str "BadBounds" 257)),(E P "__firstlineno__" 260 (.int 14 259)),(eR P "__init__" 269 76),(eR P "__static_attributes__" 270 77)] 5),#[]⟩
def b66:PP:=nT [16,4,75]
def b67:PP:=cC "BadBounds" "BadBounds" 251 14 0 0 0 0 65 OW 181 66 .none .none .none .none 254 14 255
def b68:PP:=⟨(.type "frame"),OR,.plain,#[(on (.ref 67)),(on (.ref 3)),(on (.ref 64)),OR,(on tx0),OR,(on (.ref 0))]⟩
def b69:PP:=tS 261 ["these bounds are no table's"]
def b72:PP:=tS 265 ["self","why"]
def b74:PP:=fB "__init__" "BadBounds.__init__" (aB (top 4) 0)
def b75:PP:=cC "__init__" "BadBounds.__init__" 262 16 2 0 0 3 70 OV 181 71 .none (.ref 72) (.ref 73) (.ref 74) 267 16 268
def b76:PP:=fO (FN "__init__" "BadBounds.__init__" (aB (top 4) 0) (.ref 69) .none .none tx0 OR (.ref 75) .none)
def b78:PP:=⟨(.type "dict"),OR,(.dict #[(E P "__module__" 256 tx0),(E P "__firstlineno__" 260 (.int 14 259)),(eR P "__init__" 269 76),(eR P "__static_attributes__" 270 77),(E P "__doc__" 271 .none)] 2),#[]⟩
noncomputable def b79:PP:=⟨(.type "type"),OR,(.cls ⟨"BadBounds",[(.ref 38)],[(.ref 79),(.ref 38),(.type "ValueError"),(.type "Exception"),(.type "BaseException"),(.type "object")],78,"BadBounds",OV,[],[],OW,OR,OW⟩),#[(on (.ref 62)),OR,(on (.str "BadBounds" 249)),(on (.str "BadBounds" 257)),(on (.builtin "ValueError.__new__")),(on (.bool OV))]⟩
noncomputable def b80:PP:=⟨(.type "super"),OR,(.fields #[(.ref 79),(.ref 79),(.ref 79)]),#[]⟩
noncomputable def b81:PP:=⟨(.type "builtin_function_or_method"),OR,(.fields #[(.builtin "object.__init_subclass__"),(.ref 79)]),#[]⟩
def b84:PP:=⟨(.type "dict"),OR,(.dict #[(E P "__module__" 281 tx0),(E P "__qualname__" 283 (.str "TooWide" 282)),(E P "__firstlineno__" 285 (.int 18 284)),(eR P "__init__" 293 95),(eR P "__static_attributes__" 295 96)] 5),#[]⟩
def b86:PP:=nT [20,4,94]
def b87:PP:=cC "TooWide" "TooWide" 276 18 0 0 0 0 85 OW 181 86 .none .none .none .none 279 18 280
def b88:PP:=⟨(.type "frame"),OR,.plain,#[(on (.ref 87)),(on (.ref 3)),(on (.ref 84)),OR,(on tx0),OR,(on (.ref 0))]⟩
def b91:PP:=tS 289 ["self","wide"]
def b93:PP:=fB "__init__" "TooWide.__init__" (aB (top 5) 0)
def b94:PP:=cC "__init__" "TooWide.__init__" 286 20 2 0 0 3 89 OV 181 90 .none (.ref 91) (.ref 92) (.ref 93) 291 20 292
def b95:PP:=fO (FN "__init__" "TooWide.__init__" (aB (top 5) 0) .none .none .none tx0 OR (.ref 94) .none)
def b96:PP:=tS 294 ["wide"]
def b97:PP:=⟨(.type "dict"),OR,(.dict #[(E P "__module__" 281 tx0),(E P "__firstlineno__" 285 (.int 18 284)),(eR P "__init__" 293 95),(eR P "__static_attributes__" 295 96),(E P "__doc__" 296 .none)] 2),#[]⟩
noncomputable def b98:PP:=⟨(.type "type"),OR,(.cls ⟨"TooWide",[(.ref 38)],[(.ref 98),(.ref 38),(.type "ValueError"),(.type "Exception"),(.type "BaseException"),(.type "object")],97,"TooWide",OV,[],[],OW,OR,OW⟩),#[(on (.ref 82)),OR,(on (.str "TooWide" 274)),(on (.str "TooWide" 282)),(on (.builtin "ValueError.__new__")),(on (.bool OV))]⟩
noncomputable def b99:PP:=⟨(.type "super"),OR,(.fields #[(.ref 98),(.ref 98),(.ref 98)]),#[]⟩
noncomputable def b100:PP:=⟨(.type "builtin_function_or_method"),OR,(.fields #[(.builtin "object.__init_subclass__"),(.ref 98)]),#[]⟩
def b103:PP:=⟨(.type "dict"),OR,(.dict #[(E P "__module__" 306 tx0),(E P "__qualname__" 308 (.str "Barred" 307)),(E P "__firstlineno__" 310 (.int 23 309)),(eR P "__init__" 319 114),(eR P "__static_attributes__" 322 115)] 5),#[]⟩
def b105:PP:=nT [25,4,113]
def b106:PP:=cC "Barred" "Barred" 301 23 0 0 0 0 104 OW 181 105 .none .none .none .none 304 23 305
def b107:PP:=⟨(.type "frame"),OR,.plain,#[(on (.ref 106)),(on (.ref 3)),(on (.ref 103)),OR,(on tx0),OR,(on (.ref 0))]⟩
def b110:PP:=tS 314 ["self","over","into"]
def b112:PP:=fB "__init__" "Barred.__init__" (aB (top 6) 0)
def b113:PP:=cC "__init__" "Barred.__init__" 311 25 3 0 0 3 108 OV 181 109 .none (.ref 110) (.ref 111) (.ref 112) 317 25 318
def b114:PP:=fO (FN "__init__" "Barred.__init__" (aB (top 6) 0) .none .none .none tx0 OR (.ref 113) .none)
def b115:PP:=tS 320 ["into","over"]
def b116:PP:=⟨(.type "dict"),OR,(.dict #[(E P "__module__" 306 tx0),(E P "__firstlineno__" 310 (.int 23 309)),(eR P "__init__" 319 114),(eR P "__static_attributes__" 322 115),(E P "__doc__" 323 .none)] 2),#[]⟩
noncomputable def b117:PP:=⟨(.type "type"),OR,(.cls ⟨"Barred",[(.ref 38)],[(.ref 117),(.ref 38),(.type "ValueError"),(.type "Exception"),(.type "BaseException"),(.type "object")],116,"Barred",OV,[],[],OW,OR,OW⟩),#[(on (.ref 101)),OR,(on (.str "Barred" 299)),(on (.str "Barred" 307)),(on (.builtin "ValueError.__new__")),(on (.bool OV))]⟩
noncomputable def b118:PP:=⟨(.type "super"),OR,(.fields #[(.ref 117),(.ref 117),(.ref 117)]),#[]⟩
noncomputable def b119:PP:=⟨(.type "builtin_function_or_method"),OR,(.fields #[(.builtin "object.__init_subclass__"),(.ref 117)]),#[]⟩
def b122:PP:=⟨(.type "dict"),OR,(.dict #[(E P "__module__" 333 tx0),(E P "__qualname__" 335 (.str "BadNumber" 334)),(E P "__firstlineno__" 337 (.int 29 336)),(eR P "__init__" 346 134),(eR P "__static_attributes__" 347 135)] 5),#[]⟩
def b124:PP:=nT [31,4,133]
def b125:PP:=cC "BadNumber" "BadNumber" 328 29 0 0 0 0 123 OW 181 124 .none .none .none .none 331 29 332
def b126:PP:=⟨(.type "frame"),OR,.plain,#[(on (.ref 125)),(on (.ref 3)),(on (.ref 122)),OR,(on tx0),OR,(on (.ref 0))]⟩
def NF:PP:=tS 338 ["this number is out of its bounds"]
def b130:PP:=tS 342 ["self","why"]
def b132:PP:=fB "__init__" "BadNumber.__init__" (aB (top 7) 0)
def NE:PP:=cC "__init__" "BadNumber.__init__" 339 31 2 0 0 3 128 OV 181 129 .none (.ref 130) (.ref 131) (.ref 132) 344 31 345
def HD:PP:=fO (FN "__init__" "BadNumber.__init__" (aB (top 7) 0) (.ref 127) .none .none tx0 OR (.ref 133) .none)
def ND:PP:=⟨(.type "dict"),OR,(.dict #[(E P "__module__" 333 tx0),(E P "__firstlineno__" 337 (.int 29 336)),(eR P "__init__" 346 134),(eR P "__static_attributes__" 347 135),(E P "__doc__" 348 .none)] 2),#[]⟩
noncomputable def NC:PP:=⟨(.type "type"),OR,(.cls ⟨"BadNumber",[(.ref 38)],[(.ref 137),(.ref 38),(.type "ValueError"),(.type "Exception"),(.type "BaseException"),(.type "object")],136,"BadNumber",OV,[],[],OW,OR,OW⟩),#[(on (.ref 120)),OR,(on (.str "BadNumber" 326)),(on (.str "BadNumber" 334)),(on (.builtin "ValueError.__new__")),(on (.bool OV))]⟩
noncomputable def b138:PP:=⟨(.type "super"),OR,(.fields #[(.ref 137),(.ref 137),(.ref 137)]),#[]⟩
noncomputable def b139:PP:=⟨(.type "builtin_function_or_method"),OR,(.fields #[(.builtin "object.__init_subclass__"),(.ref 137)]),#[]⟩
def NB:PP:=tO [(.int 0 359),(.int 40 353)]
def NA:PP:=⟨(.type "dict"),OR,(.dict #[(eR P "pair" 361 140)] 1),#[]⟩
def b144:PP:=fB "free" "free" (top 13)
def Nz:PP:=cF "free" 362 38 2 1 142 181 365
def HC:PP:=fO (FN "free" "free" (top 13) .none (.ref 141) .none (.str "edgetally.bounds" 351) OR (.ref 145) .none)
def b149:PP:=fB "check_sums" "check_sums" (top 14)
def Ny:PP:=cF "check_sums" 368 40 2 0 147 181 371
def HB:PP:=fM "edgetally.bounds" 351 "check_sums" 14 150
def b154:PP:=tS 377 ["pair","low","high"]
def b156:PP:=fB "check_pair" "check_pair" (top 15)
def Nx:PP:=cG "check_pair" 374 51 1 0 152 181 380
def HA:PP:=fM "edgetally.bounds" 351 "check_pair" 15 157
def b161:PP:=fB "settled_bounds" "settled_bounds" (top 16)
def Nw:PP:=cF "settled_bounds" 383 55 3 0 159 181 386
def GZ:PP:=fM "edgetally.bounds" 351 "settled_bounds" 16 162
def b166:PP:=tS 394 ["number","product","factor"]
def b168:PP:=fB "factorial" "factorial" (top 18)
def Nv:PP:=cG "factorial" 391 65 1 0 164 181 397
def GY:PP:=fM "edgetally.counts" 389 "factorial" 18 169
def b173:PP:=tS 403 ["parts","part","told"]
def b175:PP:=fB "ways" "ways" (top 19)
def Nu:PP:=cG "ways" 400 70 1 0 171 181 406
def GX:PP:=fM "edgetally.counts" 389 "ways" 19 176
def b180:PP:=fB "fillings" "fillings" (top 20)
def Nr:PP:=cF "fillings" 409 78 3 0 178 181 412
def GW:PP:=fM "edgetally.counts" 389 "fillings" 20 181
def b185:PP:=fB "need_of" "need_of" (top 22)
def Nq:PP:=cF "need_of" 417 88 2 0 183 181 420
def GV:PP:=fM "edgetally.fits" 415 "need_of" 22 186
def b190:PP:=fB "room_inside" "room_inside" (top 23)
def Np:PP:=cF "room_inside" 423 90 4 0 188 181 426
def GU:PP:=fM "edgetally.fits" 415 "room_inside" 23 191
def b195:PP:=fB "room_beside" "room_beside" (top 24)
def No:PP:=cF "room_beside" 429 93 3 0 193 181 432
def GT:PP:=fM "edgetally.fits" 415 "room_beside" 24 196
def b200:PP:=fB "room_of" "room_of" (top 25)
def Nn:PP:=cF "room_of" 435 95 4 0 198 181 438
def GS:PP:=fM "edgetally.fits" 415 "room_of" 25 201
def b205:PP:=fB "narrowest" "narrowest" (top 26)
def Nm:PP:=cF "narrowest" 441 97 3 0 203 181 444
def GR:PP:=fM "edgetally.fits" 415 "narrowest" 26 206
def b210:PP:=fB "choices" "choices" (top 27)
def Nl:PP:=cF "choices" 447 99 1 0 208 181 450
def GQ:PP:=fM "edgetally.fits" 415 "choices" 27 211
def b215:PP:=tS 456 ["rowsums","columnsums","bounds","over","into"]
def b217:PP:=fB "check_fit" "check_fit" (top 28)
def Nk:PP:=cG "check_fit" 453 104 3 0 213 181 461
def GP:PP:=fM "edgetally.fits" 415 "check_fit" 28 218
def b222:PP:=tS 471 ["rowsums","wide","many"]
def b224:PP:=fB "check_wide" "check_wide" (top 31)
def Nj:PP:=cG "check_wide" 468 111 1 0 220 181 474
def GO:PP:=fM "edgetally.net" 464 "check_wide" 31 225
def b229:PP:=tS 480 ["rowsums","columnsums","bounds","settled"]
def b231:PP:=fB "settled_for_net" "settled_for_net" (top 32)
def Ni:PP:=cG "settled_for_net" 477 117 3 0 227 181 484
def GN:PP:=fM "edgetally.net" 464 "settled_for_net" 32 232
def b236:PP:=fB "column_fillings" "column_fillings" (top 33)
def Nh:PP:=cF "column_fillings" 487 122 4 0 234 181 490
def GM:PP:=fM "edgetally.net" 464 "column_fillings" 33 237
def b241:PP:=fB "rests_behind" "rests_behind" (top 34)
def Ng:PP:=cF "rests_behind" 493 124 2 0 239 181 496
def GL:PP:=fM "edgetally.net" 464 "rests_behind" 34 242
def b246:PP:=fB "nodes_by_level" "nodes_by_level" (top 35)
def Nf:PP:=cF "nodes_by_level" 499 126 3 0 244 181 502
def GK:PP:=fM "edgetally.net" 464 "nodes_by_level" 35 247
def b251:PP:=tS 508 ["rests","filled","behind","tables","dealings","counts","tables_behind","dealings_behind"]
def b253:PP:=fB "node_counts" "node_counts" (top 36)
def Nd:PP:=cG "node_counts" 505 134 3 0 249 181 516
def GJ:PP:=fM "edgetally.net" 464 "node_counts" 36 254
def b258:PP:=fB "counted_nodes" "counted_nodes" (top 37)
def Nb:PP:=cF "counted_nodes" 519 142 3 0 256 181 522
def GI:PP:=fM "edgetally.net" 464 "counted_nodes" 37 259
def b263:PP:=fB "paper_rows" "paper_rows" (top 38)
def Na:PP:=cF "paper_rows" 525 152 1 0 261 181 528
def GH:PP:=fM "edgetally.net" 464 "paper_rows" 38 264
def b268:PP:=⟨(.type "dict"),OR,(.dict #[(E P "__module__" 538 tx1),(E P "__qualname__" 540 (.str "Net" 539)),(E P "__firstlineno__" 542 (.int 154 541)),(eR P "__init__" 554 280),(eR P "__eq__" 562 287),(eR P "__len__" 569 294),(eR P "rowsums" 576 301),(eR P "columnsums" 583 308),(eR P "bounds" 589 313),(eR P "counts_at" 598 320),(eR P "tables" 605 327),(eR P "dealings" 612 334),(eR P "steps" 621 341),(eR P "paper" 628 348),(eR P "__static_attributes__" 633 349)] 15),#[]⟩
def b270:PP:=nT [156,4,279,164,4,286,167,4,293,170,4,300,173,4,307,176,4,312,179,4,319,182,4,326,185,4,333,188,4,340,191,4,347]
def b271:PP:=cC "Net" "Net" 533 154 0 0 0 0 269 OW 181 270 .none .none .none .none 536 154 537
def b272:PP:=⟨(.type "frame"),OR,.plain,#[(on (.ref 271)),(on (.ref 3)),(on (.ref 268)),OR,(on tx1),OR,(on (.ref 0))]⟩
def M9:PP:=⟨(.type "dict"),OR,(.dict #[(E P "bounds" 543 .none)] 1),#[]⟩
def b276:PP:=tS 547 ["self","rowsums","columnsums","bounds","settled"]
def b278:PP:=fB "__init__" "Net.__init__" (aB (top 39) 0)
def M8:PP:=cC "__init__" "Net.__init__" 544 156 3 0 1 3 274 OV 181 275 .none (.ref 276) (.ref 277) (.ref 278) 552 156 553
def GG:PP:=fO (FN "__init__" "Net.__init__" (aB (top 39) 0) .none (.ref 273) .none tx1 OR (.ref 279) .none)
def b283:PP:=tS 558 ["self","other"]
def b285:PP:=fB "__eq__" "Net.__eq__" (aB (top 39) 1)
def M7:PP:=cC "__eq__" "Net.__eq__" 555 164 2 0 0 3 281 OV 181 282 .none (.ref 283) (.ref 284) (.ref 285) 560 164 561
def GF:PP:=fO (FN "__eq__" "Net.__eq__" (aB (top 39) 1) .none .none .none tx1 OR (.ref 286) .none)
def b290:PP:=tS 566 ["self"]
def b292:PP:=fB "__len__" "Net.__len__" (aB (top 39) 2)
def b293:PP:=cC "__len__" "Net.__len__" 563 167 1 0 0 3 288 OV 181 289 .none (.ref 290) (.ref 291) (.ref 292) 567 167 568
def b294:PP:=fO (FN "__len__" "Net.__len__" (aB (top 39) 2) .none .none .none tx1 OR (.ref 293) .none)
def b297:PP:=tS 573 ["self"]
def b299:PP:=fB "rowsums" "Net.rowsums" (aB (top 39) 3)
def b300:PP:=cC "rowsums" "Net.rowsums" 570 170 1 0 0 3 295 OV 181 296 .none (.ref 297) (.ref 298) (.ref 299) 574 170 575
def b301:PP:=fO (FN "rowsums" "Net.rowsums" (aB (top 39) 3) .none .none .none tx1 OR (.ref 300) .none)
def b304:PP:=tS 580 ["self"]
def b306:PP:=fB "columnsums" "Net.columnsums" (aB (top 39) 4)
def b307:PP:=cC "columnsums" "Net.columnsums" 577 173 1 0 0 3 302 OV 181 303 .none (.ref 304) (.ref 305) (.ref 306) 581 173 582
def b308:PP:=fO (FN "columnsums" "Net.columnsums" (aB (top 39) 4) .none .none .none tx1 OR (.ref 307) .none)
def b311:PP:=fB "bounds" "Net.bounds" (aB (top 39) 5)
def b312:PP:=cC "bounds" "Net.bounds" 584 176 1 0 0 3 309 OV 181 310 .none .none .none (.ref 311) 587 176 588
def b313:PP:=fO (FN "bounds" "Net.bounds" (aB (top 39) 5) .none .none .none tx1 OR (.ref 312) .none)
def b316:PP:=tS 593 ["self","level","rests"]
def b318:PP:=fB "counts_at" "Net.counts_at" (aB (top 39) 6)
def M6:PP:=cC "counts_at" "Net.counts_at" 590 179 3 0 0 3 314 OV 181 315 .none (.ref 316) (.ref 317) (.ref 318) 596 179 597
def GD:PP:=fO (FN "counts_at" "Net.counts_at" (aB (top 39) 6) .none .none .none tx1 OR (.ref 319) .none)
def b323:PP:=tS 602 ["self"]
def b325:PP:=fB "tables" "Net.tables" (aB (top 39) 7)
def M5:PP:=cC "tables" "Net.tables" 599 182 1 0 0 3 321 OV 181 322 .none (.ref 323) (.ref 324) (.ref 325) 603 182 604
def GC:PP:=fO (FN "tables" "Net.tables" (aB (top 39) 7) .none .none .none tx1 OR (.ref 326) .none)
def b330:PP:=tS 609 ["self"]
def b332:PP:=fB "dealings" "Net.dealings" (aB (top 39) 8)
def b333:PP:=cC "dealings" "Net.dealings" 606 185 1 0 0 3 328 OV 181 329 .none (.ref 330) (.ref 331) (.ref 332) 610 185 611
def b334:PP:=fO (FN "dealings" "Net.dealings" (aB (top 39) 8) .none .none .none tx1 OR (.ref 333) .none)
def b337:PP:=tS 616 ["self","level","rests"]
def b339:PP:=fB "steps" "Net.steps" (aB (top 39) 9)
def b340:PP:=cC "steps" "Net.steps" 613 188 3 0 0 3 335 OV 181 336 .none (.ref 337) (.ref 338) (.ref 339) 619 188 620
def b341:PP:=fO (FN "steps" "Net.steps" (aB (top 39) 9) .none .none .none tx1 OR (.ref 340) .none)
def b344:PP:=tS 625 ["self"]
def b346:PP:=fB "paper" "Net.paper" (aB (top 39) 10)
def M4:PP:=cC "paper" "Net.paper" 622 191 1 0 0 3 342 OV 181 343 .none (.ref 344) (.ref 345) (.ref 346) 626 191 627
def GB:PP:=fO (FN "paper" "Net.paper" (aB (top 39) 10) .none .none .none tx1 OR (.ref 347) .none)
def b349:PP:=tS 629 ["column_list","counted","pairs","row_list"]
def M3:PP:=⟨(.type "dict"),OR,(.dict #[(E P "__module__" 538 tx1),(E P "__firstlineno__" 542 (.int 154 541)),(eR P "__init__" 554 280),(eR P "__eq__" 562 287),(eR P "__len__" 569 294),(eR P "rowsums" 576 301),(eR P "columnsums" 583 308),(eR P "bounds" 589 313),(eR P "counts_at" 598 320),(eR P "tables" 605 327),(eR P "dealings" 612 334),(eR P "steps" 621 341),(eR P "paper" 628 348),(eR P "__static_attributes__" 633 349),(eR P "__dict__" 635 352),(eR P "__weakref__" 637 353),(E P "__doc__" 638 .none),(E P "__hash__" 639 .none)] 5),#[]⟩
noncomputable def M2:PP:=⟨(.type "type"),OR,(.cls ⟨"Net",[(.type "object")],[(.ref 351),(.type "object")],350,"Net",OV,[],[],OW,OR,OW⟩),#[OR,OR,(on (.str "Net" 531)),(on (.str "Net" 539)),(on (.builtin "object.__new__")),(on (.bool OV))]⟩
noncomputable def b352:PP:=⟨(.type "getset_descriptor"),OR,(.fields #[(.str "__dict__" 634),(.ref 351),(.builtin "function.__dict__"),(.builtin "function.__dict__#set")]),#[]⟩
noncomputable def b353:PP:=⟨(.type "getset_descriptor"),OR,(.fields #[(.str "__weakref__" 636),(.ref 351),(.builtin "ExceptionGroup.__weakref__"),.none]),#[]⟩
noncomputable def b354:PP:=⟨(.type "super"),OR,(.fields #[(.ref 351),(.ref 351),(.ref 351)]),#[]⟩
noncomputable def b355:PP:=⟨(.type "builtin_function_or_method"),OR,(.fields #[(.builtin "object.__init_subclass__"),(.ref 351)]),#[]⟩
def b358:PP:=fB "_law_bag" "_law_bag" (top 41)
def M1:PP:=cF "_law_bag" 644 194 1 0 356 181 647
def GA:PP:=fL "_law_bag" "_law_bag" 41 359
def b363:PP:=tS 653 ["_law_bag_here","_law_lot","_law_cells","_law_at","_law_cell"]
def b365:PP:=fB "_law_pull" "_law_pull" (top 42)
def M0:PP:=cG "_law_pull" 650 196 2 0 361 181 658
def FZ:PP:=fL "_law_pull" "_law_pull" 42 366
def b370:PP:=fB "_law_same" "_law_same" (top 43)
def MZ:PP:=cF "_law_same" 661 206 2 0 368 181 664
def FY:PP:=fL "_law_same" "_law_same" 43 371
def b375:PP:=fB "_law_grid" "_law_grid" (top 44)
def MY:PP:=cF "_law_grid" 667 218 4 0 373 181 670
def FX:PP:=fL "_law_grid" "_law_grid" 44 376
def b380:PP:=tS 676 ["_law_bag_here","_law_way","_law_block","_law_columns"]
def b382:PP:=fB "_law_small" "_law_small" (top 45)
def MX:PP:=cG "_law_small" 673 225 1 0 378 181 680
def FW:PP:=fL "_law_small" "_law_small" 45 383
def b387:PP:=fB "_law_turned" "_law_turned" (top 46)
def MW:PP:=cF "_law_turned" 683 236 1 0 385 181 686
def FV:PP:=fL "_law_turned" "_law_turned" 46 388
def b392:PP:=fB "_law_rowsums" "_law_rowsums" (top 47)
def MV:PP:=cF "_law_rowsums" 689 238 1 0 390 181 692
def FU:PP:=fL "_law_rowsums" "_law_rowsums" 47 393
def b397:PP:=fB "_law_columnsums" "_law_columnsums" (top 48)
def MU:PP:=cF "_law_columnsums" 695 240 1 0 395 181 698
def FT:PP:=fL "_law_columnsums" "_law_columnsums" 48 398
def b402:PP:=fB "_law_free" "_law_free" (top 49)
def MT:PP:=cF "_law_free" 701 242 2 0 400 181 704
def FS:PP:=fL "_law_free" "_law_free" 49 403
def b407:PP:=tS 710 ["_law_bag_here","_law_grid_here","_law_told","_law_at","_law_row","_law_to","_law_count","_law_way"]
def b409:PP:=fB "_law_bounds" "_law_bounds" (top 50)
def MS:PP:=cG "_law_bounds" 707 244 2 0 405 181 718
def FR:PP:=fL "_law_bounds" "_law_bounds" 50 410
def b414:PP:=fB "_law_copied" "_law_copied" (top 51)
def MR:PP:=cF "_law_copied" 721 256 1 0 412 181 724
def FQ:PP:=fL "_law_copied" "_law_copied" 51 415
def b419:PP:=fB "_law_fit" "_law_fit" (top 52)
def MQ:PP:=cF "_law_fit" 727 258 3 0 417 181 730
def FP:PP:=fL "_law_fit" "_law_fit" 52 420
def b424:PP:=fB "_law_less" "_law_less" (top 53)
def MP:PP:=cF "_law_less" 733 267 2 0 422 181 736
def FO:PP:=fL "_law_less" "_law_less" 53 425
def b429:PP:=fB "_law_listing" "_law_listing" (top 54)
def MO:PP:=cF "_law_listing" 739 269 3 0 427 181 742
def FM:PP:=fL "_law_listing" "_law_listing" 54 430
def b434:PP:=tS 748 ["_law_grid_here","_law_limits"]
def b436:PP:=fB "_law_all" "_law_all" (top 55)
def MN:PP:=cG "_law_all" 745 278 2 0 432 181 750
def FK:PP:=fL "_law_all" "_law_all" 55 437
def b441:PP:=tS 756 ["_law_grid_here","_law_limits"]
def b443:PP:=fB "_law_net" "_law_net" (top 56)
def MM:PP:=cG "_law_net" 753 280 2 0 439 181 758
def FJ:PP:=fL "_law_net" "_law_net" 56 444
def b448:PP:=tS 764 ["_law_script","_law_bag_here","_law_grid_here","_law_other","_law_limits","_law_pairs","_law_way","_law_one","_law_two","_law_rowsums_here","_law_columnsums_here","_law_alike","_law_plain","_law_loose"]
def b450:PP:=fB "law" "law" (top 57)
def ML:PP:=cG "law" 761 282 1 0 446 181 778
def FI:PP:=fL "law" "law" 57 451
def h0_3:PP:=⟨(.type "dict"),OR,(.dict (((mL P).take 9).set 0 (E P "__name__" 165 tx2)).toArray 9),#[]⟩
def OI:PP:=nO []
def h1_3:PP:=⟨(.type "dict"),OR,(.dict (((mL P).take 9).set 0 (E P "__name__" 165 tx2)).toArray 9),#[]⟩
def OC:PP:=nT [1,0,20,5,0,27,10,0,47,14,0,67,18,0,87]
def k1_3:PP:=⟨(.type "dict"),OR,(.dict (((mL P).take 14).set 0 (E P "__name__" 165 tx0)).toArray 14),#[]⟩
noncomputable def OB:PP:=⟨(.type "type"),OR,(.cls ⟨"EdgeError",[(.type "ValueError")],[(.ref 38),(.type "ValueError"),(.type "Exception"),(.type "BaseException"),(.type "object")],37,"EdgeError",OV,[],[(.ref 59),(.ref 79),(.ref 98)],OW,OR,OW⟩),#[(on (.ref 22)),OR,(on (.str "EdgeError" 196)),(on (.str "EdgeError" 204)),(on (.builtin "ValueError.__new__")),(on (.bool OV))]⟩
def OA:PP:=nT [1,0,20,5,0,27,10,0,47,14,0,67,18,0,87,23,0,106,29,0,125,38,0,145,40,0,150,51,0,157,55,0,162,65,0,169,70,0,176,78,0,181,88,0,186,90,0,191,93,0,196,95,0,201,97,0,206,99,0,211,104,0,218]
def k2_3:PP:=⟨(.type "dict"),OR,(.dict (((mL P).take 35).set 0 (E P "__name__" 165 tx1)).toArray 35),#[]⟩
def Oz:PP:=nT [1,0,20,5,0,27,10,0,47,14,0,67,18,0,87,23,0,106,29,0,125,38,0,145,40,0,150,51,0,157,55,0,162,65,0,169,70,0,176,78,0,181,88,0,186,90,0,191,93,0,196,95,0,201,97,0,206,99,0,211,104,0,218,111,0,225,117,0,232,122,0,237,124,0,242,126,0,247,134,0,254,142,0,259,152,0,264,154,0,271,194,0,359,196,0,366,206,0,371,218,0,376,225,0,383,236,0,388,238,0,393]
noncomputable def k3_3:PP:=⟨(.type "dict"),OR,(.dict ((mL P).take 51).toArray 51),#[]⟩
def kL:List PP:=[b0 P,b1 P,b2,b3 P,b4,b5,b6,b7,b8,b9,b10,b7,b12,b13,b14,b7,b8,b17,b7,b19,b20,b21,b22,b23,b24 P,b7,b26,b27,b28,b7,b8,b31,b7,b33,b34,b35,b36,b37 P,b38,b39,b40,b41,b42,b23,b44 P,b7,b46,b47,b48,b49,b7,b8,b52,b7,b54,b55,b56,b7,b58 P,b59,b60,b61,b42,b23,b64 P,b7,b66,b67,b68,b69,b7,b8,b72,b7,b74,b75,b76,b7,b78 P,b79,b80,b81,b42,b23,b84 P,b7,b86,b87,b88,b7,b8,b91,b7,b93,b94,b95,b96,b97 P,b98,b99,b100,b42,b23,b103 P,b7,b105,b106,b107,b7,b8,b110,b7,b112,b113,b114,b115,b116 P,b117,b118,b119,b42,b23,b122 P,b7,b124,b125,b126,NF,b7,b8,b130,b7,b132,NE,HD,b7,ND P,NC,b138,b139,NB,NA P,b7,b8,b144,Nz,HC,b7,b8,b149,Ny,HB,b7,b8,b154,b7,b156,Nx,HA,b7,b8,b161,Nw,GZ,b7,b8,b166,b7,b168,Nv,GY,b7,b8,b173,b7,b175,Nu,GX,b7,b8,b180,Nr,GW,b7,b8,b185,Nq,GV,b7,b8,b190,Np,GU,b7,b8,b195,No,GT,b7,b8,b200,Nn,GS,b7,b8,b205,Nm,GR,b7,b8,b210,Nl,GQ,b7,b8,b215,b7,b217,Nk,GP,b7,b8,b222,b7,b224,Nj,GO,b7,b8,b229,b7,b231,Ni,GN,b7,b8,b236,Nh,GM,b7,b8,b241,Ng,GL,b7,b8,b246,Nf,GK,b7,b8,b251,b7,b253,Nd,GJ,b7,b8,b258,Nb,GI,b7,b8,b263,Na,GH,b7,b23,b268 P,b7,b270,b271,b272,M9 P,b7,b8,b276,b7,b278,M8,GG,b7,b8,b283,b7,b285,M7,GF,b7,b8,b290,b7,b292,b293,b294,b7,b8,b297,b7,b299,b300,b301,b7,b8,b304,b7,b306,b307,b308,b7,b8,b311,b312,b313,b7,b8,b316,b7,b318,M6,GD,b7,b8,b323,b7,b325,M5,GC,b7,b8,b330,b7,b332,b333,b334,b7,b8,b337,b7,b339,b340,b341,b7,b8,b344,b7,b346,M4,GB,b349,M3 P,M2,b352,b353,b354,b355,b7,b8,b358,M1,GA,b7,b8,b363,b7,b365,M0,FZ,b7,b8,b370,MZ,FY,b7,b8,b375,MY,FX,b7,b8,b380,b7,b382,MX,FW,b7,b8,b387,MW,FV,b7,b8,b392,MV,FU,b7,b8,b397,MU,FT,b7,b8,b402,MT,FS,b7,b8,b407,b7,b409,MS,FR,b7,b8,b414,MR,FQ,b7,b8,b419,MQ,FP,b7,b8,b424,MP,FO,b7,b8,b429,MO,FM,b7,b8,b434,b7,b436,MN,FK,b7,b8,b441,b7,b443,MM,FJ,b7,b8,b448,b7,b450,ML,FI]
def h0H:P7:=⟨⟨((kL P).take 11).set 3 (h0_3 P)⟩,{}⟩
def h1H:P7:=⟨⟨(((kL P).take 15).set 3 (h1_3 P)).set 12 (OI)⟩,{}⟩
def k1H:P7:=⟨⟨((((kL P).take 101).set 3 (k1_3 P)).set 12 (OC)).set 38 (OB)⟩,{}⟩
def k2H:P7:=⟨⟨(((kL P).take 220).set 3 (k2_3 P)).set 12 (OA)⟩,{}⟩
def k3H:P7:=⟨⟨(((kL P).take 395).set 3 (k3_3 P)).set 12 (Oz)⟩,{}⟩
noncomputable def k4H:P7:=⟨⟨kL P⟩,{}⟩
end
def KH:WL->Po:=λP=>
[(2,b2),(3,b3 P),(34,b34),(35,b35),(37,b37 P),(38,b38),(49,b49),(55,b55),(56,b56),(58,b58 P),(59,b59),(69,b69),(75,b75),(76,b76),(78,b78 P),(79,b79),(127,NF),(133,NE),(134,HD),(136,ND P),(137,NC),(140,NB),(141,NA P),(145,Nz),(146,HC),(150,Ny),(151,HB),(157,Nx),(158,HA),(162,Nw),(163,GZ),(169,Nv),(170,GY),(176,Nu),(177,GX),(181,Nr),(182,GW),(186,Nq),(187,GV),(191,Np),(192,GU),(196,No),(197,GT),(201,Nn),(202,GS),(206,Nm),(207,GR),(211,Nl),(212,GQ),(218,Nk),(219,GP),(225,Nj),(226,GO),(232,Ni),(233,GN),(237,Nh),(238,GM),(242,Ng),(243,GL),(247,Nf),(248,GK),(254,Nd),(255,GJ),(259,Nb),(260,GI),(264,Na),(265,GH),(273,M9 P),(279,M8),(280,GG),(286,M7),(287,GF),(319,M6),(320,GD),(326,M5),(327,GC),(347,M4),(348,GB),(350,M3 P),(351,M2),(359,M1),(360,GA),(366,M0),(367,FZ),(371,MZ),(372,FY),(376,MY),(377,FX),(383,MX),(384,FW),(388,MW),(389,FV),(393,MV),(394,FU),(398,MU),(399,FT),(403,MT),(404,FS),(410,MS),(411,FR),(415,MR),(416,FQ),(420,MQ),(421,FP),(425,MP),(426,FO),(430,MO),(431,FM),(437,MN),(438,FK),(444,MM),(445,FJ),(451,ML),(452,FI)]
noncomputable def aH:List OZ:=[2,3,34,35,37,38,49,55,56,58,59,69,75,76,78,79,127,133,134,136,137,140,141,145,146,150,151,157,158,162,163,169,170,176,177,181,182,186,187,191,192,196,197,201,202,206,207,211,212,218,219,225,226,232,233,237,238,242,243,247,248,254,255,259,260,264,265,273,279,280,286,287,319,320,326,327,347,348,350,351,359,360,366,367,371,372,376,377,383,384,388,389,393,394,398,399,403,404,410,411,415,416,420,421,425,426,430,431,437,438,444,445,451,452]
theorem eH:∀P,aH=(KH P).map (·.1):=λ_=>by kernel_rfl
noncomputable def qH:Pt:={PySem.Challenge.pw_edgetally_k23_nets_alike with main:={PySem.Challenge.pw_edgetally_k23_nets_alike.main with body:=[top 0,top 2,top 3,top 4,top 5,top 6,top 7,top 9,top 10,top 11,top 12,top 14,top 15,top 16,top 18,top 19,top 20,top 22,top 23,top 24,top 25,top 26,top 27,top 28,top 30,top 31,top 32,top 33,top 34,top 35,top 36,top 37,top 38,top 39,top 41,top 42,top 43,top 44,top 45,top 46,top 47,top 48,top 49,top 50,top 51,top 52,top 53,top 54,top 55,top 56,top 57]}}
noncomputable abbrev lvH:List (PY×PySem.W.WData):=[("FREE",PySem.W.WData.tuple [WF 0,WF 40])]
noncomputable abbrev loH:List PY:=["BadSums","BadBounds","BadNumber","FREE","free","Net"]
abbrev hkH:=PySem.W.kHook KH aH eH
def xtH(s:O7):Bool:=PySem.W.xlAt qH lvH s&&PySem.W.recOk (PySem.W.RowW.records (Ry (RO P9))) s
noncomputable abbrev pH:Pt:=WM (Ry (RO P9))
noncomputable def bdH:List QF:=PySem.W.behindTheImports pH
noncomputable def evH:Wc:={scope:=pH.main.scope,locals:=mainNs,globals:=mainNs,cells:=[],code:=(.ref 13),frame:=(on 14)}
def cH:Code:= .body bdH evH
noncomputable abbrev tpH:List Frame:=[PySem.W.topFrame ⟨0,0,0,0⟩]
theorem opH(w:PV):(PySem.W.fencedOpening Rg pH w 6612).map (λs=>(s.heap,s.gens,s.drawn,s.toks))=on (h0H w.params,#[],{},181):=by kernel_rfl
theorem szH(w:PV):((h0H w.params).isNs Ru&&(#[]:Array GenState).size==0,(h0H w.params).objs.size,(h0H w.params).nsMap Ru "__annotations__")=(OV,11,(on (.ref 6))):=by kernel_rfl
theorem r1H(w:PV)(os:Vt):PySem.W.topGo Rg pH w 11 (on (.ref 6)) 12 ⟨h0H w.params,#[],{},181,os⟩ (YA pH)=on (⟨h1H w.params,#[],{},187,os⟩,⟨denote Rg (.body bdH evH),cH,⟨0,0,0,0⟩,tpH⟩):=by kernel_rfl
theorem r2H(w:PV)(os:Vt):T4 Rg pH w 11 (on (.ref 6)) 1 1 ⟨h1H w.params,#[],{},187,os⟩ (PySem.W.blockOf bdH evH cH ⟨0,0,0,0⟩ tpH)=on (.next,⟨h1H w.params,#[],{},187,os⟩,cH,⟨0,0,0,0⟩):=by kernel_rfl
theorem c1H(w:PV)(os:Vt):T4 Rg pH w 11 (on (.ref 6)) 1 995 ⟨h1H w.params,#[],{},187,os⟩ (UD (bdH.take 6) evH cH ⟨0,0,0,0⟩ tpH)=on (.next,⟨k1H w.params,#[],{},299,os⟩,cH,⟨18,0,22,24⟩):=by kernel_rfl
theorem c2H(w:PV)(os:Vt):T4 Rg pH w 11 (on (.ref 6)) 1 972 ⟨k1H w.params,#[],{},299,os⟩ (UD ((bdH.drop 6).take 25) evH cH ⟨18,0,22,24⟩ tpH)=on (.next,⟨k2H w.params,#[],{},468,os⟩,cH,⟨110,0,110,4⟩):=by kernel_rfl
theorem c3H(w:PV)(os:Vt):T4 Rg pH w 11 (on (.ref 6)) 1 985 ⟨k2H w.params,#[],{},468,os⟩ (UD (((bdH.drop 6).drop 25).take 17) evH cH ⟨110,0,110,4⟩ tpH)=on (.next,⟨k3H w.params,#[],{},695,os⟩,cH,⟨238,0,239,57⟩):=by kernel_rfl
theorem c4H(w:PV)(os:Vt):T4 Rg pH w 11 (on (.ref 6)) 1 295 ⟨k3H w.params,#[],{},695,os⟩ (UD ((((bdH.drop 6).drop 25).drop 17).take 10) evH cH ⟨238,0,239,57⟩ tpH)=on (.next,⟨k4H w.params,#[],{},781,os⟩,cH,⟨282,0,311,83⟩):=by kernel_rfl
theorem e0H:((((bdH.drop 6).drop 25).drop 17).drop 10)=[]:=by kernel_rfl
theorem r9H(w:PV)(os:Vt):YT Rg pH w 11 (on (.ref 6)) 2 ⟨k4H w.params,#[],{},781,os⟩ ⟨PySem.W.doneF .next,cH,⟨282,0,311,83⟩,tpH⟩=on ⟨k4H w.params,#[],{},781,os⟩:=by kernel_rfl
theorem rnH(w:PV)(os:Vt):YT Rg pH w 11 (on (.ref 6)) (12+(1+(995+(972+(985+(295+2)))))) ⟨h0H w.params,#[],{},181,os⟩ (YA pH)=on ⟨k4H w.params,#[],{},781,os⟩:=PySem.W.go_top (r1H w os) (PySem.W.piece_block (r2H w os) (kx 6 (c1H w os) (kx 25 (c2H w os) (kx 17 (c3H w os) (kx 10 (c4H w os) (EO e0H (r9H w os)))))))
theorem hlH:PySem.W.LeftO pH qH loH xtH (PySem.W.Hook.obs hkH) (PySem.W.Hook.val hkH) 6612:=PySem.W.LeftO.of_pieces (H₀:=h0H) (H₁:=k4H) opH szH rnH (by decide +kernel) λw=>by kernel_rfl
theorem wsH:PySem.W.OpenLaw.wellSaid P9=OV:=by decide +kernel
theorem okH:(PySem.W.chainsOk qH&&PySem.W.opensWell (WM (Ry (RO P9)))&&(PySem.W.frees (Ry (RO P9))&&(PySem.W.RowW.within (Ry (RO P9))).isEmpty))=OV:=by decide +kernel
abbrev adH:Ad:={Aa:=38,Ab:=35,Ac:=fD b35,Ae:=59,Af:=56,Ag:=fD b56,Ah:=79,Ai:=76,Aj:=fD b76,Ak:=137,Al:=134,Am:=fD HD,An:=351,Ao:=146,Aq:=fD HC,Ar:=151,As:=fD HB,At:=158,Au:=fD HA,Av:=163,Aw:=fD GZ,Ax:=170,Ay:=fD GY,Az:=177,A0:=fD GX,A1:=182,A2:=fD GW,A3:=187,A4:=fD GV,A5:=192,A6:=fD GU,A7:=197,A8:=fD GT,A9:=202,Ba:=fD GS,Bb:=207,Bc:=fD GR,Bd:=212,Be:=fD GQ,Bf:=219,Bh:=fD GP,Bi:=226,Bj:=fD GO,Bk:=233,Bl:=fD GN,Bm:=238,Bn:=fD GM,Bo:=243,Bp:=fD GL,Bq:=248,Br:=fD GK,Bs:=255,Bt:=fD GJ,Bu:=260,Bv:=fD GI,Bw:=265,Bx:=fD GH,By:=360,Bz:=fD GA,B3:=367,B4:=fD FZ,B5:=372,B7:=fD FY,B8:=377,Ca:=fD FX,Cb:=384,Cc:=fD FW,Cd:=389,Cf:=fD FV,Cg:=394,Ch:=fD FU,Ci:=399,Cj:=fD FT,Ck:=404,Cl:=fD FS,Cm:=411,Cn:=fD FR,Co:=416,Cp:=fD FQ,Cq:=421,Cr:=fD FP,Cs:=426,Ct:=fD FO,Cu:=431,Cv:=fD FM,Cw:=438,Cy:=fD FK,Cz:=445,C0:=fD FJ,C3:=280,C4:=fD GG,C5:=287,C6:=fD GF,C7:=327,C8:=fD GC,C9:=320,Da:=fD GD,Db:=348,Dd:=fD GB,Df:=452,Dg:=fD FI}
section
variable{P:WL}{h:P7}{mg:PY->Option OX}
theorem fH{x q:PY}{s:QF}{f:OZ}{a b d e cd ct:OX}{g:Option OZ}(l:(KH P).lookup f=on (fO (FN x q s a b d e g cd ct)):=by kernel_rfl)(c:T3 (KH P) cd q=OV:=by kernel_rfl)(k:UQ (KH P) (.ref f)=OV:=by kernel_rfl):FunD (KH P) x q s f (FN x q s a b d e g cd ct):=KK l c k
theorem mO(X:(KH P).In h)(G:h.Ns Ru mg){n:PY}{v:OX}(e:PySem.W.nsIn (KH P) Ru n=on (on v):=by kernel_rfl):mg n=on v:=mg_of X G e
theorem mN(X:(KH P).In h)(G:h.Ns Ru mg){n:PY}(e:PySem.W.nsIn (KH P) Ru n=on OR:=by kernel_rfl):mg n=OR:=PySem.W.mg_none_of X G e
theorem nH(X:(KH P).In h)(G:h.Ns Ru mg):Fns (KH P) mg adH where
 Dh:=mN X G
 Di:=mN X G
 Dj:=mN X G
 Dl:=mN X G
 Dm:=mN X G
 Do:=mN X G
 Dp:=mN X G
 Dq:=mN X G
 Dr:=mN X G
 Dt:=mN X G
 Du:=mN X G
 Dv:=mN X G
 Dw:=mN X G
 Dx:=mN X G
 Dy:=mN X G
 Dz:=mN X G
 D0:=mN X G
 D3:=mN X G
 D4:=pW (u:=(.int 40 353)) (mO X G) me
 D5:=pW (u:=(.int 6 357)) (mO X G) me
 D6:=pW (u:=(.int 4 355)) (mO X G) me
 D7:=pW (u:=(.int 500 466)) (mO X G) me
 D8:=fH
 D9:=mO X G
 Ea:=AZ (us:=[(.ref 140)]) 2 rfl (λs us b a=>by obtain⟨c,d,rfl⟩:=lU2 a;exact Ye b λS=>by kernel_rfl) (wM (JC (p:=140) (q1:=(.type "tuple")) (q2:=OR) (q3:=#[(.int 0 359),(.int 40 353)]) (q4:=0) (q5:=#[]) (by kernel_rfl) rfl (by decide) (by repeat (first|exact trivial|refine⟨rfl,?_⟩))) AV)
 Eb:=fH
 Ec:=mO X G
 Ed:= .all (bA2 λ_ _=>rfl)
 Ee:=fH
 Ef:=mO X G
 Eg:= .all (bA1 λ_=>rfl)
 Eh:=fH
 Ei:=mO X G
 Ej:= .all (bA3 λ_ _ _=>rfl)
 Ek:=fH
 El:=mO X G
 Em:= .all (bA1 λ_=>rfl)
 En:=fH
 Eo:=mO X G
 Ep:= .all (bA1 λ_=>rfl)
 Er:=fH
 Es:=mO X G
 Et:= .all (bA3 λ_ _ _=>rfl)
 Eu:=fH
 Ev:=mO X G
 Ew:= .all (bA2 λ_ _=>rfl)
 Ex:=fH
 Ey:=mO X G
 Ez:= .all (bA4 λ_ _ _ _=>rfl)
 E2:=fH
 E3:=mO X G
 E4:= .all (bA3 λ_ _ _=>rfl)
 E5:=fH
 E6:=mO X G
 E7:= .all (bA4 λ_ _ _ _=>rfl)
 E8:=fH
 E9:=mO X G
 Fa:= .all (bA3 λ_ _ _=>rfl)
 Fb:=fH
 Fc:=mO X G
 Fd:= .all (bA1 λ_=>rfl)
 Fe:=fH
 Ff:=mO X G
 Fg:= .all (bA3 λ_ _ _=>rfl)
 Fh:=fH
 Fi:=mO X G
 Fj:= .all (bA1 λ_=>rfl)
 Fk:=fH
 Fl:=mO X G
 Fm:= .all (bA3 λ_ _ _=>rfl)
 Fn:=fH
 Fo:=mO X G
 Fp:= .all (bA4 λ_ _ _ _=>rfl)
 Fq:=fH
 Fs:=mO X G
 Ft:= .all (bA2 λ_ _=>rfl)
 Fu:=fH
 Fw:=mO X G
 Fy:= .all (bA3 λ_ _ _=>rfl)
 Fz:=fH
 F4:=mO X G
 F5:= .all (bA3 λ_ _ _=>rfl)
 F6:=fH
 F7:=mO X G
 F8:= .all (bA3 λ_ _ _=>rfl)
 F9:=fH
 Ga:=mO X G
 Gb:= .all (bA1 λ_=>rfl)
 Gc:=fH
 Gd:=mO X G
 Ge:= .all (bA1 λ_=>rfl)
 Gf:=fH
 Gg:=mO X G
 Gi:= .all (bA2 λ_ _=>rfl)
 Gj:=fH
 Gk:=mO X G
 Gm:= .all (bA2 λ_ _=>rfl)
 Gn:=fH
 Go:=mO X G
 Gp:= .all (bA4 λ_ _ _ _=>rfl)
 Gq:=fH
 Gr:=mO X G
 Gs:= .all (bA1 λ_=>rfl)
 Gu:=fH
 Gv:=mO X G
 Gx:= .all (bA1 λ_=>rfl)
 Gy:=fH
 Gz:=mO X G
 G0:= .all (bA1 λ_=>rfl)
 G1:=fH
 G2:=mO X G
 G3:= .all (bA1 λ_=>rfl)
 G4:=fH
 G5:=mO X G
 G6:= .all (bA2 λ_ _=>rfl)
 G7:=fH
 G8:=mO X G
 G9:= .all (bA2 λ_ _=>rfl)
 Ha:=fH
 Hb:=mO X G
 Hc:= .all (bA1 λ_=>rfl)
 Hd:=fH
 He:=mO X G
 Hf:= .all (bA3 λ_ _ _=>rfl)
 Hg:=fH
 Hh:=mO X G
 Hi:= .all (bA2 λ_ _=>rfl)
 Hj:=fH
 Hk:=mO X G
 Hl:= .all (bA3 λ_ _ _=>rfl)
 Hm:=fH
 Hn:=mO X G
 Ho:= .all (bA2 λ_ _=>rfl)
 Hq:=fH
 Hr:=mO X G
 Ht:= .all (bA2 λ_ _=>rfl)
 Hu:=fH
 Hv:=⟨by kernel_rfl,by kernel_rfl,by kernel_rfl,by kernel_rfl⟩
 Hw:=Oy (sv:=[.kw 0]) (.kw .nil) rfl (by decide) λs us i b e f=>by obtain⟨c,d,g,rfl⟩:=lU3 e;obtain⟨j,rfl⟩:=lU1 f;exact .of_eq rfl
 Hx:=AZ (us:=[.none]) 3 rfl (λs us b a=>by obtain⟨c,d,g,rfl⟩:=lU3 a;exact Ye b λS=>by kernel_rfl) (wM JD AV)
 Hy:=fH
 Hz:=⟨by kernel_rfl,by kernel_rfl,by kernel_rfl⟩
 Ia:= .all (bA2 λ_ _=>rfl)
 Ib:=fH
 Id:=⟨by kernel_rfl,by kernel_rfl,by kernel_rfl⟩
 Ie:= .all (bA1 λ_=>rfl)
 Ig:=fH
 Ih:=⟨by kernel_rfl,by kernel_rfl,by kernel_rfl⟩
 Ii:= .all (bA3 λ_ _ _=>rfl)
 Ij:=fH
 Ik:=⟨by kernel_rfl,by kernel_rfl,by kernel_rfl⟩
 Il:= .all (bA1 λ_=>rfl)
 Im:=⟨by kernel_rfl,by kernel_rfl,by kernel_rfl,by kernel_rfl⟩
 Io:=mO X G
 Ip:=⟨⟨by kernel_rfl,by kernel_rfl,by kernel_rfl,by kernel_rfl⟩,by kernel_rfl,by kernel_rfl,by kernel_rfl,by kernel_rfl⟩
 Iq:=by kernel_rfl
 Ir:=show RA (KH P) _ _=_ by kernel_rfl
 Iu:=show RA (KH P) _ _=_ by kernel_rfl
 Iw:=show RA (KH P) _ _=_ by kernel_rfl
 Ix:=show RA (KH P) _ _=_ by kernel_rfl
 Iy:=fH
 Iz:= .all (bA3 λ_ _ _=>rfl)
 I0:=mO X G
 I9:=fH
 Ja:=λs us b a=>by rw[PN]at a;obtain⟨_,_,rfl⟩:=lU2 a;exact Vj (T:=49) rfl (b _ _ (show(KH P).lookup 49=on (tS 236 ["these sums are no table's"]) by kernel_rfl)) rfl rfl rfl
 Jb:=mO X G
 Jc:=⟨wZ (N:=58) (nm:="BadSums") (q:="BadSums") (bs:=[(.ref 38)]) (bm:=[(.ref 38),(.type "ValueError"),(.type "Exception"),(.type "BaseException"),(.type "object")]) (hdct:=OV) (sn:=[]) (sub:=[]) (ab:=OW) (col:=OR) (dd:=OR) (k0:=(on (.ref 42))) (k1:=OR) (k2:=(on (.str "BadSums" 224))) (k3:=(on (.str "BadSums" 232))) (k5:=(on (.bool OV))) (cd:=⟨"BadSums",[(.ref 38)],[(.ref 59),(.ref 38),(.type "ValueError"),(.type "Exception"),(.type "BaseException"),(.type "object")],58,"BadSums",OV,[],[],OW,OR,OW⟩) (by kernel_rfl) (by kernel_rfl) (by kernel_rfl) (by kernel_rfl),by kernel_rfl,by kernel_rfl,by kernel_rfl⟩
 Jd:=by kernel_rfl
 Je:=fH
 Jf:=λs us b a=>by rw[PN]at a;obtain⟨_,_,rfl⟩:=lU2 a;exact Vj (T:=69) rfl (b _ _ (show(KH P).lookup 69=on (tS 261 ["these bounds are no table's"]) by kernel_rfl)) rfl rfl rfl
 Jg:=mO X G
 Jh:=⟨wZ (N:=78) (nm:="BadBounds") (q:="BadBounds") (bs:=[(.ref 38)]) (bm:=[(.ref 38),(.type "ValueError"),(.type "Exception"),(.type "BaseException"),(.type "object")]) (hdct:=OV) (sn:=[]) (sub:=[]) (ab:=OW) (col:=OR) (dd:=OR) (k0:=(on (.ref 62))) (k1:=OR) (k2:=(on (.str "BadBounds" 249))) (k3:=(on (.str "BadBounds" 257))) (k5:=(on (.bool OV))) (cd:=⟨"BadBounds",[(.ref 38)],[(.ref 79),(.ref 38),(.type "ValueError"),(.type "Exception"),(.type "BaseException"),(.type "object")],78,"BadBounds",OV,[],[],OW,OR,OW⟩) (by kernel_rfl) (by kernel_rfl) (by kernel_rfl) (by kernel_rfl),by kernel_rfl,by kernel_rfl,by kernel_rfl⟩
 Ji:=by kernel_rfl
 Jj:=fH
 Jk:=λs us b a=>by rw[PN]at a;obtain⟨_,_,rfl⟩:=lU2 a;exact Vj (T:=127) rfl (b _ _ (show(KH P).lookup 127=on (tS 338 ["this number is out of its bounds"]) by kernel_rfl)) rfl rfl rfl
 Jl:=mO X G
 Jm:=⟨wZ (N:=136) (nm:="BadNumber") (q:="BadNumber") (bs:=[(.ref 38)]) (bm:=[(.ref 38),(.type "ValueError"),(.type "Exception"),(.type "BaseException"),(.type "object")]) (hdct:=OV) (sn:=[]) (sub:=[]) (ab:=OW) (col:=OR) (dd:=OR) (k0:=(on (.ref 120))) (k1:=OR) (k2:=(on (.str "BadNumber" 326))) (k3:=(on (.str "BadNumber" 334))) (k5:=(on (.bool OV))) (cd:=⟨"BadNumber",[(.ref 38)],[(.ref 137),(.ref 38),(.type "ValueError"),(.type "Exception"),(.type "BaseException"),(.type "object")],136,"BadNumber",OV,[],[],OW,OR,OW⟩) (by kernel_rfl) (by kernel_rfl) (by kernel_rfl) (by kernel_rfl),by kernel_rfl,by kernel_rfl,by kernel_rfl⟩
 Jn:=by kernel_rfl
 Jo:=⟨by kernel_rfl,by kernel_rfl,by kernel_rfl,by kernel_rfl⟩
end
theorem wlkH:PySem.W.WalkO qH loH (PySem.W.XL qH lvH) (PySem.W.Hook.says hkH) (Ry (RO P9)) (Option.get (PySem.W.defOf qH "law") rfl).1 [] (λf vs=>Yh f vs):=
 L2.walk_of (n:=63) (k:=10) (x:="_law_script") (CX:=λw=>CXE _ w) (sp:=λw=>HX (KH w.params)) rfl (by decide) rfl ⟨rfl,by decide,by decide,rfl⟩ (λw h Y=>PySem.W.kIn_of Y) (λw mg i h c G b=>by
  have e:=b.symm.trans (mg_of c G (v:= .ref 452) (by kernel_rfl));cases e;exact⟨FN "law" "law" (top 57) .none .none .none (.str "law_edgetally_k23_nets_alike" 642) OR (.ref 451) .none,λs v=> .of_eq rfl,λbase _ _=>Mc _ _ _ (a:=adH) (fH (by kernel_rfl) (by kernel_rfl) (by kernel_rfl)) (nH c G) λβ ok=>DY (K:=KH w.params) (a:=adH) (by kernel_rfl) β ok⟩) (λ_ _ a ns d _ g=>⟨a,ns,rfl,g,d,λ_=>rfl⟩) λ_ _ _ _ _ h=>by obtain⟨x,C,j,_,fl⟩:=h;obtain⟨_,_,z⟩:=fl.wish;all_goals exact z
end Law
open PySem PySem.W PyProof.Rows
set_option maxHeartbeats 0 in
theorem PySem.Challenge.cw_edgetally_k23_nets_alike_holds : PySem.Challenge.rw_edgetally_k23_nets_alike.Holds := by
 w_on
 refine holds_law Law.wsH λsaid=>?_;refine holds_open (q:=Law.qH) (loose:=Law.loH) (Xt:=Law.xtH) (XP:=XL Law.qH Law.lvH) (Yf:=Hook.obs Law.hkH) (Ya:=Hook.val Law.hkH) (YP:=Hook.says Law.hkH) (N:=6612) Law.hlH (Hook.of Law.hkH) (Hook.keeps Law.hkH) (λs e=>xl_of s (XF.mp e).1) XL.keeps (by rfl) (by rfl) (by rfl) (λs e=>recFacts_of (XF.mp e).2) (by rfl) said Law.okH ⟨rfl,rfl,rfl,rfl,rfl,by decide +kernel⟩ ?hw ?hc
 case hw=>w_witness2
 exact Law.wlkH
