import PyProof.Rows.All
import Wide.All
import OpenK.AllK
import Wide.FinOn
import Lean
import PyProof.EqAt
import PyProof.EqKinds
import PyProof.TupleCall
import PyProof.NsDelKeeps
import PyProof.ListRange
import PyProof.ExcArgsOwn
import PySem.Challenge.RW_edgetally_k52_whole_thinned
set_option Elab.async false
set_option linter.all false
set_option genSizeOf false
set_option compiler.extract_closed false
set_option bootstrap.genMatcherCode false
set_option maxHeartbeats 8000000
set_option maxRecDepth 100000
noncomputable section
open And renaming intro→XQ
open Array renaming length_toList→Qw,getElem?_eq_some_iff→Q3,getD→SA,getElem?_eq_none→SN,getElem?_toList→S3,forIn_toList→TH,getElem_toList→Ui,getElem?_eq_getElem→UQ,getElem?_extract→XF,getElem?_push→Yl,append_assoc→Ys,size_extract→Yt,toList_push→YO
open Bool renaming true→Pt,false→Pz,false_ne_true→PQ,false_eq_true→Qh,and_eq_true→Qq,not_true→Sd,and_self→Uj,true_and→U7,eq_iff_iff→Vx,false_and→VM,or_true→Wo,not_false→Xc,and_eq_true_iff→Ym
open Classical renaming byContradiction→S7
open Except renaming ok→RM
open False renaming elim→RQ
open ForInStep renaming yield→U9
open Function renaming comp→UO
open Int renaming toNat_natCast→Rp,zero_add→Tp,emod_nonneg→Uy,emod_lt_of_pos→UT,fdiv_eq_ediv_of_nonneg→UU,natCast_add→VG,natAbs_natCast→Wc,le_refl→Yz
open List renaming length_map→Pp,mem_cons_of_mem→Ps,getElem?_eq_getElem→Pw,getD_eq_getElem?_getD→Px,getElem?_map→Py,mem_cons_self→PF,range→PR,getElem?_eq_some_iff→PU,map_map→PV,mem_cons→PZ,map_cons→P3,replicate→P5,mem_map→P8,size_toArray→Qa,mem_of_getElem?→Qb,length_cons→Qd,sum_cons→Qe,length_append→Qf,mem_range→Qg,length_range→Qp,map_congr_left→Qs,mem_singleton→Qt,append_nil→Qx,map_append→Qy,length_set→QB,nodup_cons→QC,mem_append_right→QE,getElem_mem→QL,drop_eq_getElem_cons→QX,getElem?_set→Q2,length_singleton→Q4,append_assoc→Ra,map→Rb,getElem?_range→Ri,replicate_succ→Rj,mem_append→Rk,not_mem_nil→Rl,flatMap_cons→Ro,sum→Rt,ext_getElem→Rv,filterMap_cons→Rw,map_replicate→Rx,drop_eq_nil_of_le→Rz,length_replicate→RE,getElem?_replicate→RO,getElem?_append_right→RT,mem_replicate→RW,zip_cons_cons→RX,map_set→R4,mem_filter→R9,take_of_length_le→Sb,length_take→Sf,mem_flatMap→Sg,take_append_drop→Sj,pairwise_iff_getElem→Sn,range_succ→Su,flatten_cons→Sy,mem_append_left→Sz,all_eq_true→SE,flatMap_eq_nil_iff→SG,getElem_map→SH,map_flatMap→SI,pairwise_singleton→SJ,take_length→SK,contains_cons→SO,getElem_range→SQ,length_eq_one_iff→SR,find?_cons→SX,forIn_cons→SY,nil_append→SZ,forIn_nil→Ta,drop_length→Tg,exists_cons_of_length_eq_add_one→Th,lookup_cons→Ti,zipWith→Tj,getElem?_append_left→Tq,mem_or_eq_of_mem_set→Ts,flatMap_append→Tu,pairwise_cons→TV,map_nil→T7,take_add_one→T8,getElem?_eq_none→Uf,cons_append→Ug,map_drop→Ul,lookup→Ut,sum_append→Ux,filter_sublist→Uz,mem_filterMap→UP,getElem?_eq_none_iff→UY,nodup_append→U3,pairwise_map→U4,reverse_cons→U5,any_cons→Va,filter_cons→Vn,length_eq_zero_iff→Vo,getElem?_toArray→VH,getElem?_append→VO,getElem?_set_ne→VP,length→VQ,getElem_of_mem→V0,length_zipWith→V1,all_cons→V4,map_take→V5,map_inj_right→Wb,zip_nil_left→Wr,flatMap_map→Wz,length_drop→WA,nodup_range→WB,length_nil→WQ,length_zip→WR,map_const'→WS,of_mem_zip→WT,getElem?_take_of_lt→Xy,getElem?_cons_succ→XH,getElem?_set_self→XU,range_succ_eq_map→XV,getElem?_zipWith→X0,getElem_reverse→Yp,mem_of_mem_take→Yq,getElem_set_ne→YA,length_reverse→YB,foldl→YR,getElem?_drop→YS,any_eq_false→Zf,ext_getElem?→Zg
open List.Pairwise renaming nil→Vy
open List.Perm renaming of_eq→Wd
open List.cons renaming injEq→Tf
open Min renaming min→Ve
open Nat renaming le_refl→PN,le_trans→Qc,lt_of_lt_of_le→Qm,mul_assoc→QG,mul_left_comm→QJ,ne_of_lt→QK,mul_comm→QP,lt_irrefl→QS,zero_le→Q5,zero_add→Rc,lt_of_le_of_lt→Ry,gcd→R5,not_lt_zero→Sa,ne_of_gt→Se,lt_trichotomy→S8,eq_of_mul_eq_mul_right→Td,le_add_right→Tt,gcd_pos_of_pos_right→TL,add_sub_cancel_left→T0,le_succ→T1,mul_div_cancel_left→T3,mul_pos→Uu,pow_le_pow_right→Uv,div_le_self→UA,add_comm→UK,lt_trans→UL,lt_succ_of_lt→Vb,lt_succ_self→Vr,le_of_lt→Vz,lt_or_ge→VA,sub_self→VB,add_le_add→VT,add_mul→VU,mul_le_mul_left→V6,mod_lt→We,pos_of_ne_zero→Wf,gcd_dvd_right→Wt,zero_mul→Wu,gcd_dvd_left→WG,strongRecOn→WY,coprime_div_gcd_div_gcd→Xf,div_eq_of_eq_mul_right→Xl,mul_le_mul→Xm,eq_of_mul_eq_mul_left→Xz,le_mul_of_pos_right→XW,div_div_eq_div_mul→X3,le_of_eq→X4,pow_succ→X5,succ_mul→X6,mul_add→YC,mul_le_mul_right→YD,one_mul→YE,add_le_add_left→YU,eq_zero_or_pos→Zh
open Option renaming some→My,none→Po,map_some→RG,bind_some→Vc,map_eq_some_iff→Vp,isSome_iff_exists→Xg,getD_none→YV,getD_some→YW
open Option.some renaming inj→Qo,injEq→XA
open Or renaming inl→RI,inr→Sk
open Prod renaming ext→T9,ext_iff→UG
open Pure renaming pure→R6
open PyProof renaming noPylong_of_log2→WZ
open PyProof.Rows renaming callWith_type1→Rr,seqObj→Te,envOfC→Um,AllBare→U1,listUpdate_at→VE,callWith_builtin1→VR,subscriptTail_builtinR→VX,IntsAre→XT,subscriptTail→YL
open PySem renaming wpAny_bind→Pn,wpAny_pure→Pq,Addr→PD,Value→PH,Shared→PM,starEach→PX,wpAny→PY,sizeLine→P0,FuncData→Qi,model→Qk,Obj→Qn,Program→Qu,Str→Qz,World→QH,wpAny_mono→QN,wpAny_call_entry→QO,foldedSetIterable→QR,SetTable→QT,Around→QU,eval→QW,Heap→Q0,Stmt→Q6,compareOp→Q8,wpAny_newObj_type→Re,wpAny_truthy_bool→Rf,mem_of_lookup→Rg,wpAny_holding→Rh,wpAny_field→Rm,wpAny_setField_rec→Ru,Comprehension→RA,cellsFrom→RC,treeTable→RH,wpAny_setState_of→RJ,wpAny_seqItems→RN,backTo→RP,mainGlobals→RY,sizeLine_eq→RZ,wpAny_standAt→R8,wpAny_loadPart_at→Sc,wpAny_isInstance→Sm,binaryOp→Sx,wpAny_specialOf→SC,wpAny_comprehension_free→SM,codeAny→SU,IsPair→SV,wpAny_typeNameOfWhole_itemiter→SW,wpAny_passesOwn→S9,standAt→Tk,NameKind→Tw,sliceBounds→Tx,wpAny_of_eq→Tz,wpAny_rule→TC,wpAny_setField→TD,DictEntry→TK,bootBuiltins→TN,codeAny_mono→TR,holding→TU,wpAny_typeNameOf_itemiter→TX,attributeBase→T5,wpAny_Call_Name_kw→Uc,keywordEach→Ud,swapsWith→Ue,Pos→Uh,firstArgMember→Uo,pyNext→Uq,rawInt→Ur,Within→UC,wpAny_askSetting→UF,behindInMarks→UI,wpAny_attempt→UJ,codeAny_call_builtin→UM,assign→UW,letOwnedTupleGo→UX,wpAny_isSubtype_exc→UZ,getMethod→Vd,IsItemIter→Vf,cLine→Vh,evalEach→Vi,isInstance→Vj,isSubtype_type→Vk,wpAny_call→Vm,IsZip→Vs,Keyword→Vt,OsState→Vu,wpAny_pyIter_list→Vv,wpAny_pyIter_slot→Vw,call→VD,wpAny_onRaise→VF,backToKw→VJ,wpAny_forIn_list→VL,Fin→VS,assignEach→VV,intKind→VW,wpAny_isOneOf_itemiter→VY,wpAny_pyIter_rangeiter→VZ,wpAny_execs_nil→V2,builtinLookup_eq_fast→V7,isSubtype_tuple_tuple→V8,pyIter→Wh,wpAny_fieldsOf→Wj,wpAny_letGo→Wl,wpAny_newTuple→Wm,wpAny_updateSeq_pair→Wn,wpAny_setEntries_of→Wx,Paired→WH,PyData→WI,sysModules→WK,wpAny_pyIter_tuple→WL,wpAny_tupleItemsOf→WM,Env→WN,callWith→W2,callerA→W3,ofAClassStatement→W7,searchCouldBeSeen→W9,wpAny_assign_Name→Xa,wpAny_dictEntries→Xb,plainObj_wpAny_Assign_Attribute→Xj,Params→Xn,checkBuiltinCall→Xr,noFill_tuple_add→Xs,pickOrder→Xu,Draws→Xv,IsRangeIter→Xx,again→XD,atKey→XE,codeAny_builtin→XJ,codeAny_of_tree→XM,typeLookup_type→XN,wpAny_dictEpoch→XO,Model→X2,builtinsNs→X8,call_meets→X9,compPost→Yc,entryFor_alias→Yd,intItems→Ye,isSubtype_stop→Yg,newFunctionEnv→Yh,setField→Yi,wpAny_loadPart→Yk,call→YI,evalPart_none→YJ,seq_tuple_add→YK,wpAny_getItem_list_slice→YM,wpAny_handled→YN,PassesOwn→YX,list_append→Y3,bindC→Y6,bindL→Y7,eqIsQuiet→Y8,field→Y9,lastMarks→Za,slicePick→Zb,BindsTo→Zc,newExc→Zj,seqIndex_neg→Zk,wpAny_Call_method_late→Zl,wpAny_pyNext_range_end→Zm
open PySem.Around renaming under→V9,under_plainId→XR
open PySem.BindsTo renaming of_defaults→Us
open PySem.Builtin.BaseException renaming bexcPut→Yu
open PySem.Builtin.Dict renaming showsAll→WE
open PySem.Builtin.Dict_items renaming ownsTuple→TF,ownedTupleFields→UR,ownedTupleIsFree→US,pairFromOwner→U8
open PySem.Builtin.Int renaming intBits→Xd
open PySem.Builtin.List renaming listTooLong→Uw,listExtendWith→V3,listSameRef→Wp
open PySem.Builtin.Range renaming rangeFitsLong→Q7,rangeSize→Wq
open PySem.Builtin.SmallTypes renaming nextOf→RK,ownedTupleIsFree→RV,ownedTupleHandOut→UN,refuseKeywords→U2
open PySem.Builtin.Tuple renaming tupleHashOf→Uk
open PySem.Calls renaming callWith_builtin→Vq,Name_function_global→WW,evalArgs_plain→XX,Constant_str→Yv,spliced_cons→Yw,spliced_nil→YQ
open PySem.Challenge renaming rw_edgetally_k52_whole_thinned→QA
open PySem.Code renaming quiet_builtin→Wa,isFrame→XS
open PySem.Draws renaming list→Yx
open PySem.F renaming slot_dict_itemiterator_next→RF,slot_list_append→Sv,type_list_append→Sw,plainAttrs_list→SB,excBase_ValueError→S6,slot_tuple_iterator_next→Tl,args_tuple_add_2→UV,entry_tuple_add→U6,slot_tuple_add→Vg,slot_zip_next→VN,args_dict_itemiterator_next_1→WO,entry_dict_itemiterator_next→WX,slot_dict_itemiterator_iter→Xe,plainAttrs_dict→Xh,args_tuple_iterator_next_1→Xk,entry_tuple_iterator_next→Xw,slot_dict_get→XB,slot_dict_items_iter→Yy,args_list_append_2→Zd
open PySem.Heap renaming get?_push_of_some→Pr,get?_push_size→P4,lt_size→Qj,SameBut→Qr,size_push→Q9,get?_update_self→RU,get?_update_ne→SD,get?_update_other→T6,ExtBut→WF,get?_none_of_le→Yn,get?_push_ne→Ze
open PySem.Heap.IsSliceOf renaming new→WP
open PySem.Heap.Ns1 renaming of_empty→XZ
open PySem.Heap.SameBut renaming update→Rq
open PySem.IntMulOk renaming of_bits→Yo
open PySem.IsTupleKey renaming typeIs→XG
open PySem.Manifest renaming find?→YT
open PySem.NameKind renaming free→Ss,cell→WU
open PySem.Obj renaming mapSeq→RB,data_mapFields→R0,putSet→VC,isFreed_of_fields→VI,cls_mapFields→Wv
open PySem.P renaming add_list→YF
open PySem.PyData renaming eqv→Sh,depth→Tc,eqvAll→Tv,canLayAll0→T4,canLay0→UH,depthAll→WC
open PySem.SeqAt renaming shaped→UD
open PySem.SetTable renaming fits→WV,fresh→Y4
open PySem.Str renaming ofString→Qv,empty→S5
open PySem.Value renaming ref→P7,none→QZ,type→TM,int→TW,isInt_shape→Wg,bool→W1,isInt→X7
open PySem.W renaming Frag→P6,findIn→R3,Looks→SS,fnOf→TY,segRun→TZ,piecesOf→Ua,codeIn→UB,emptyDict→UE,keepIn→Vl,instObj→Ws,methodCall_KW→WD,callWith_K→WJ,hideAll→W4,hideAll_none→W5,looks_findIn→W6,cellsFrom_some→Yb,topFrame→Yj,plainOver→Yr,handedIn→YG,kp_binds→YH,bind_fn→YY,findCls→YZ,makesIn→Y0,takesIn→Y1,topStub→Y2,topRun→Zi
open PySem.W.Looks renaming here→W0,ld→Xo
open PySem.W.OpenLaw renaming row→Si
open PySem.W.OpenRow renaming toRowW→R1
open PySem.W.RowW renaming prog→Xp
open PySem.W.WData renaming int→Xi
open PySem.Within renaming cons→Xq
open PySem.pickOrder renaming go→W8
open True renaming intro→Y5
abbrev PL:=@if_neg
abbrev PP:=@if_pos
abbrev P9:=@decide_eq_true
abbrev Ql:=@absurd
abbrev QD:=@decide_eq_false
abbrev QI:=@decide_eq_true_eq
abbrev QV:=@congrArg
abbrev QY:=@if_true
abbrev Q1:=@if_false
abbrev R7:=@of_decide_eq_true
abbrev SL:=@beq_iff_eq
abbrev S4:=@bne_self_eq_false
abbrev Ub:=@or_false
abbrev Ww:=@beq_self_eq_true
abbrev XI:=@beq_eq_false_iff_ne
open PySem.W (Frag instObj methodObj hideAll hideAll_get of_hideAll hideAll_none lookIn plainGet hasDictIn findIn plainGet_of isFn takerIn looks_clsIn emptyDict looks_findIn keepIn specialIn mroIn callWith_K methodCall_KW cellsFrom_some mg_of clsIn)
abbrev LI:=List (List Int)
abbrev LP:=List (List (Int×Int))
--CHANGE:your row's module here,as the last of these rows
namespace L2
open PySem PySem.Spec PyProof.Rows
inductive V where
 |non|bl (b:Bool)|int (i:Int)|str (x:Qz)|ref (a:PD)|ty (n:String)
 deriving DecidableEq
def aK:V->PH->Prop
 | .non,u=>u=QZ
 | .bl b,u=>u=W1 b
 | .int i,u=>∃t,u=TW i t
 | .str x,u=>∃t,u=Value.str x t
 | .ref a,u=>u=P7 a
 | .ty n,u=>u=TM n
abbrev ar:List V->List PH->Prop:=WH aK
theorem ar.length{xs:List V}{us:List PH}(r:ar xs us):xs.length=us.length:=Paired.length r
theorem ar.get:∀{xs:List V} {us:List PH} {i:Nat} {x:V},ar xs us->xs[i]?=My x->∃u,us[i]?=My u/\aK x u
 |_,_,_,_,.nil,e=>by simp at e
 |_,_,0,_,.cons r _,e=>by simp at e;subst e;exact⟨_,rfl,r⟩
 |_,_,i+1,x,.cons _ t,e=>by
  obtain⟨u,a,b⟩:=ar.get (i:=i) (x:=x) t (by simpa using e);exact⟨u,by simpa using a,b⟩
theorem ar.set(r:aK x u):∀{xs:List V} {us:List PH} (i:Nat),ar xs us->ar (xs.set i x) (us.set i u)
 |_,_,_,.nil=> .nil
 |_,_,0,.cons _ t=> .cons r t
 |_,_,i+1,.cons q t=> .cons q (ar.set r i t)
theorem ar.append:∀{xs ys:List V} {us a:List PH},ar xs us->ar ys a->ar (xs++ys) (us++a)
 |_,_,_,_,.nil,s=>s
 |_,_,_,_,.cons r t,s=> .cons r (ar.append t s)
theorem ar.take:∀{xs:List V} {us:List PH} (n:Nat),ar xs us->ar (xs.take n) (us.take n)
 |_,_,0,_=> .nil
 |_,_,_+1,.nil=> .nil
 |_,_,n+1,.cons r t=> .cons r (ar.take n t)
theorem ar.drop:∀{xs:List V} {us:List PH} (n:Nat),ar xs us->ar (xs.drop n) (us.drop n)
 |_,_,0,r=>r
 |_,_,_+1,.nil=> .nil
 |_,_,n+1,.cons _ t=>ar.drop n t
def h9:Option V->Option PH->Prop
 |some v,My u=>aK v u
 |none,Po=>True
 |_,_=>False
inductive HO where
 |lst (xs:List V)
 |tup (xs:List V)
 |ins (C dx:PD) (fs:List (Qz×V))
 |own (x:PD)
 |xd (fs:List (Qz×V))
 |met (f x:PD)
 |rng (lo hi:Int)
 |frz (o:Qn) (u:HO)
 |tbl (ps:Array PH)
 |ext (φ:Q0->Prop)
abbrev Hp:=PD->Option HO
noncomputable def upd(H:Hp)(a:PD)(o:HO):Hp:=λb=>if b=a then My o else H b
theorem af:upd H a o a=My o:=by unfold upd;rw[PP rfl]
theorem upd_ne(h:b≠a):upd H a o b=H b:=by unfold upd;rw[PL h]
theorem OK{H:Hp}{a b:PD}{o u:HO}(h:H a=My o)(h':H b=My u)(d:o≠u):a≠b:=by
 intro e;subst e;rw[h]at h';exact d (Qo h')
theorem ne_of_none{H:Hp}{a b:PD}{o:HO}(h:H a=My o)(h':H b=Po):a≠b:=by
 intro e;subst e;rw[h]at h';cases h'
section
variable(P:Qu)(w:QH)
def bP(P:Qu)(w:QH)(H:Hp)(h:Q0)(a:PD):HO->Prop
 | .lst xs=>xs.length<=P0/\∃(its:List PH) (n:Nat),ar xs its/\h.get? a=My {cls:= .type "list",data:= .seq its.toArray n}
 | .tup xs=>xs.length<=P0/\∃its:List PH,ar xs its/\IsTup h a its.toArray
 | .ins C dx fs=>H dx=My (.own a)/\fs.length<=1000/\dx≠a/\h.get? a=My (Ws C dx)/\
   ∃b,h.Ns1 dx b/\(∀f,h9 (fs.lookup f) (b f))/\UC b (fs.map (·.1))
 | .own _=>∃o,h.get? a=My o
 | .xd fs=>∃b,h.Ns1 a b/\∀f,h9 (fs.lookup f) (b f)
 | .rng lo hi=>∃t u v,h.get? a=My {cls:= .type "range",data:= .fields #[.int lo t,.int hi u,.int 1 v]}
 | .frz o u=>h.get? a=My o/\bP P w H h a u
 | .tbl ps=>h.get? a=My {cls:= .none,data:= .fields ps}
 | .met f x=>h.get? a=My (methodObj (.ref f) (.ref x))
 | .ext φ=>φ h/\(∃o,h.get? a=My o)/\∀c d:Q0,φ c->(∀o,c.get? a=My o->d.get? a=My o)->φ d
def HOk(H:Hp)(h:Q0):Prop:=∀a o,H a=My o->bP P w H h a o
end
section
variable{P:Qu}{w:QH}{H H':Hp}{h h':Q0}{a:PD}{o:HO}
theorem bP.lt(x:bP P w H h a o):a<h.objs.size:=by
 cases o with
 |lst xs=>obtain⟨_,_,_,_,e⟩:=x;exact Qj e
 |tup xs=>obtain⟨_,_,_,p⟩:=x;exact p.lt
 |ins C dx fs=>obtain⟨_,_,_,e,_⟩:=x;exact Qj e
 |own y=>obtain⟨_,e⟩:=x;exact Qj e
 |xd fs=>obtain⟨_,⟨_,_,_,e,_⟩,_⟩:=x;exact Qj e
 |rng lo hi=>obtain⟨_,_,_,e⟩:=x;exact Qj e
 |frz ob u=>obtain⟨e,_⟩:=x;exact Qj e
 |tbl ps=>exact Qj (show h.get? a=My _ from x)
 |met f y=>exact Qj (show h.get? a=My _ from x)
 |ext φ=>obtain⟨_,⟨_,e⟩,_⟩:=x;exact Qj e
theorem bP.stay(x:bP P w H h a o)(k:∀b u,(b=a\/H b=My (.own a))->h.get? b=My u->h'.get? b=My u)
  (l:∀b,H b=My (.own a)->H' b=My (.own a)) (A:∀b xs,H b=My (.tup xs)->H' b=My (.tup xs)):bP P w H' h' a o:=by
 induction o with
 |lst xs=>obtain⟨z,its,n,r,e⟩:=x;exact⟨z,its,n,r,k _ _ (.inl rfl) e⟩
 |tup xs=>obtain⟨z,its,r,g,e,c⟩:=x;exact⟨z,its,r,g,k _ _ (.inl rfl) e,c⟩
 |ins C dx fs=>
  obtain⟨d,z,ne,e,i,⟨j,es,ep,m,c⟩,r⟩:=x;exact⟨l _ d,z,ne,k _ _ (.inl rfl) e,i,⟨j,es,ep,k _ _ (.inr d) m,c⟩,r⟩
 |own y=>obtain⟨g,e⟩:=x;exact⟨g,k _ _ (.inl rfl) e⟩
 |xd fs=>obtain⟨i,⟨j,es,ep,e,c⟩,r⟩:=x;exact⟨i,⟨j,es,ep,k _ _ (.inl rfl) e,c⟩,r⟩
 |rng lo hi=>obtain⟨t,u,v,e⟩:=x;exact⟨t,u,v,k _ _ (.inl rfl) e⟩
 |frz g u ih=>obtain⟨e,q⟩:=x;exact⟨k _ _ (.inl rfl) e,ih q⟩
 |tbl ps=>
  have e:h.get? a=My {cls:= .none,data:= .fields ps}:=x;show h'.get? a=My {cls:= .none,data:= .fields ps};exact k a _ (.inl rfl) e
 |met f y=>
  have e:h.get? a=My (methodObj (.ref f) (.ref y)):=x;show h'.get? a=My (methodObj (.ref f) (.ref y));exact k a _ (.inl rfl) e
 |ext φ=>obtain⟨p,⟨o,e⟩,st⟩:=x;exact⟨st _ _ p λo q=>k _ _ (.inl rfl) q,⟨o,k _ _ (.inl rfl) e⟩,st⟩
theorem HOk.lt(x:HOk P w H h)(e:H a=My o):a<h.objs.size:=(x a o e).lt
theorem HOk.fresh(x:HOk P w H h)(e:h.objs.size<=a):H a=Po:=by
 cases q:H a with
 |none=>rfl
 |some u=>exact Ql (Qm (x.lt q) e) (QS _)
theorem HOk.kept(x:HOk P w H h)(k:∀b u,h.get? b=My u->h'.get? b=My u):HOk P w H h':=λa o e=>
 (x a o e).stay (λb u _ q=>k b u q) (λ_ q=>q) λ_ _ q=>q
theorem HOk.laid(x:HOk P w H h)(k:∀b u,h.get? b=My u->h'.get? b=My u)(f:h.objs.size<=a)(new:bP P w (upd H a o) h' a o):HOk P w (upd H a o) h':=λb u e=>by
 have hn:=x.fresh f;by_cases d:b=a
 ·subst d;rw[af]at e;cases e;exact new
 ·rw[upd_ne d]at e
  exact(x b u e).stay (λc v _ q=>k c v q) (λc q=>by rw[upd_ne (ne_of_none q hn)];exact q) λc xs q=>by rw[upd_ne (ne_of_none q hn)];exact q
end
def Rd(H:Hp)(a:PD)(u:HO):Prop:=H a=My u\/∃o,H a=My (.frz o u)
theorem Rd.ok(r:Rd H a u)(x:HOk P w H h):bP P w H h a u:=by
 rcases r with r|⟨o,r⟩
 ·exact x a u r
 ·obtain⟨_,q⟩:=x a _ r
  exact q
def Mut:Option HO->Prop
 |some (.lst _)=>True
 |some (.ins _ _ _)=>True
 |some (.ext _)=>True
 |_=>False
section
variable{P:Qu}{w:QH}{H:Hp}{h h':Q0}{x e:PD}{o':HO}
theorem HOk.write(ok:HOk P w H h)(mu:Mut (H x))(j:e=x\/H e=My (.own x))(k:∀b u,b≠e->h.get? b=My u->h'.get? b=My u)(i:∃u,h'.get? e=My u)
  (new:bP P w (upd H x o') h' x o'):HOk P w (upd H x o') h':=λb u q=>by
 have d:∀c y,H c=My (.own y)->c≠x:=λc y r z=>by subst z;rw[r]at mu;exact mu
 have f:∀c xs,H c=My (.tup xs)->c≠x:=λc xs r z=>by subst z;rw[r]at mu;exact mu
 by_cases g:b=x
 ·subst g;rw[af]at q;cases q;exact new
 ·rw[upd_ne g]at q
  by_cases a:b=e
  ·have q':H b=My (.own x):=by
    rcases j with z|z
    ·exact Ql (a.trans z) g
    ·rw[a];exact z
   rw[q]at q';cases q';obtain⟨v,l⟩:=i;exact⟨v,by rw[a];exact l⟩
  ·refine(ok b u q).stay (λc v hc r=>k c v ?_ r) (λc r=>by rw[upd_ne (d c b r)];exact r) λc xs r=>by rw[upd_ne (f c xs r)];exact r
   rcases hc with rfl|hc
   ·exact a
   ·rintro rfl
    rcases j with z|z
    ·exact d c b hc z
    ·rw[hc]at z;cases z;exact g rfl
end
structure Un (fs ex:List PD) (H H':Hp) (h h':Q0):Prop where
 keep:∀b o,h.get? b=My o->H b=Po->b∉fs->b∉ex->h'.get? b=My o
 slot:∀b o,h.get? b=My o->H b=Po->b∈fs->b∉ex->∃sl,h'.get? b=My {o with slots:=sl}
 free:∀b o,h.get? b=My o->H b=Po->b∉ex->H' b=Po
 there:∀b o,h.get? b=My o->b∉ex->∃o',h'.get? b=My o'
 tups:∀b xs,H b=My (.tup xs)->H' b=My (.tup xs)
 frzs:∀b o u,H b=My (.frz o u)->H' b=My (.frz o u)
 tbls:∀b ps,H b=My (.tbl ps)->∃more,H' b=My (.tbl (ps++more))
section
variable{fs fs' ex ex':List PD}{H H1 H2:Hp}{h h1 h2 h':Q0}{a x e:PD}{o:HO}
theorem Un.any(u:Un fs ex H H1 h h1)(q:h.get? b=My ob)(n:H b=Po)(c:b∉ex):∃f,h1.get? b=My {ob with slots:=f}:=by
 by_cases d:b∈fs
 ·exact u.slot b ob q n d c
 ·exact⟨ob.slots,u.keep b ob q n d c⟩
theorem Un.trans(a:Un fs ex H H1 h h1)(b:Un fs ex H1 H2 h1 h2):Un fs ex H H2 h h2 where
 keep:=λc d q n i f=>b.keep c d (a.keep c d q n i f) (a.free c d q n f) i f
 slot:=λc d q n i f=>by
  obtain⟨m,g⟩:=a.slot c d q n i f;obtain⟨j,k⟩:=b.slot c _ g (a.free c d q n f) i f;exact⟨j,k⟩
 free:=λc d q n f=>by
  obtain⟨l,g⟩:=a.there c d q f;exact b.free c l g (a.free c d q n f) f
 there:=λc d q f=>by
  obtain⟨l,g⟩:=a.there c d q f;exact b.there c l g f
 tups:=λc xs q=>b.tups c xs (a.tups c xs q)
 frzs:=λc d xs q=>b.frzs c d xs (a.frzs c d xs q)
 tbls:=λc ps q=>by
  obtain⟨m1,g⟩:=a.tbls c ps q;obtain⟨m2,k⟩:=b.tbls c _ g;exact⟨m1++m2,by rw[k,Ys]⟩
theorem Un.kept(k:∀b u,h.get? b=My u->h'.get? b=My u):Un fs ex H H h h':=
 ⟨λb c q _ _ _=>k b c q,λb c q _ _ _=>⟨c.slots,k b c q⟩,λ_ _ _ n _=>n,λb c q _=>⟨c,k b c q⟩,λ_ _ q=>q,λ_ _ _ q=>q,λ_ ps q=>⟨#[],by rw[q];simp⟩⟩
theorem Un.refl:Un fs ex H H h h:=Un.kept λ_ _ q=>q
theorem Un.laid(k:∀b u,h.get? b=My u->h'.get? b=My u)(c:h.objs.size<=a)(hn:H a=Po):Un fs ex H (upd H a o) h h' where
 keep:=λb u q _ _ _=>k b u q
 slot:=λb u q _ _ _=>⟨u.slots,k b u q⟩
 free:=λb u q n _=>by rw[upd_ne (QK (Qm (Qj q) c))];exact n
 there:=λb u q _=>⟨u,k b u q⟩
 tups:=λb xs q=>by rw[upd_ne (ne_of_none q hn)];exact q
 frzs:=λb u xs q=>by rw[upd_ne (ne_of_none q hn)];exact q
 tbls:=λb ps q=>⟨#[],by rw[upd_ne (ne_of_none q hn),q];simp⟩
theorem Un.write(mu:Mut (H x))(i:e=x\/H e=My (.own x))(k:∀b u,b≠e->h.get? b=My u->h'.get? b=My u)(d:∃u,h'.get? e=My u):Un fs ex H (upd H x o) h h':=by
 have f:∀b,H b=Po->b≠x:=λb n z=>by subst z;rw[n]at mu;exact mu
 have g:∀b,H b=Po->b≠e:=λb n z=>by
  subst z;rcases i with r|r
  ·exact f b n r
  ·rw[n]at r;cases r
 have hm:∀b u,H b=My u->¬Mut (My u)->b≠x:=λb u q nm z=>by subst z;rw[q]at mu;exact nm mu
 refine⟨λb u q n _ _=>k b u (g b n) q,λb u q n _ _=>⟨u.slots,k b u (g b n) q⟩,λb u q n _=>by rw[upd_ne (f b n)];exact n,λb u q _=>?_,
  λb xs q=>by rw[upd_ne (hm b _ q λz=>z)];exact q,λb u xs q=>by rw[upd_ne (hm b _ q λz=>z)];exact q,λb ps q=>⟨#[],by rw[upd_ne (hm b _ q λz=>z),q];simp⟩⟩
 by_cases c:b=e
 ·subst c;exact d
 ·exact⟨u,k b u c q⟩
theorem Un.mono(u:Un fs ex H H1 h h1)(hs:∀b∈fs,b∈fs')(f:∀b∈ex,b∈ex'):Un fs' ex' H H1 h h1:=
 ⟨λb d q n g c=>u.keep b d q n (λz=>g (hs b z)) λz=>c (f b z),λ_ _ q n _ c=>u.any q n λz=>c (f _ z),λb d q n c=>u.free b d q n λz=>c (f b z),λb d q c=>u.there b d q λz=>c (f b z),u.tups,u.frzs,u.tbls⟩
end
noncomputable def trk(h:Q0)(H:Hp):List PD:=(PR h.objs.size).filter λa=>(H a).isSome
noncomputable def kF(h:Q0)(H:Hp):Q0:=W4 h (trk h H)
theorem z0(h:Q0)(H:Hp):(kF h H).objs.size=h.objs.size:=PySem.W.hideAll_size _ _
theorem DY{h:Q0}(e:h.get? b=My o)(n:H b=Po):(kF h H).get? b=My o:=
 hideAll_get _ e λhm=>by
  have q:(H b).isSome=Pt:=(R9.mp hm).2;rw[n]at q;simp at q
theorem Kw{h:Q0}(e:(kF h H).get? b=My o):h.get? b=My o/\H b=Po:=by
 have a:h.get? b=My o:=of_hideAll (trk h H) e;refine⟨a,?_⟩;cases q:H b with
 |none=>rfl
 |some x=>
  have hm:b∈trk h H:=R9.mpr ⟨Qg.mpr (Qj a),by simp[q]⟩;have z:(kF h H).get? b=Po:=W5 (trk h H) hm;rw[z]at e;cases e
structure Mod (K:P6) (mg:Qz->Option PH) (base:Q0):Prop where
 kin:K.In base
 glob:base.Ns RY mg
 blt:∃mb,base.Ns X8 mb/\∀x:Qz,x≠"__name__"->mb x=TN x
 nolimit:base.NoLimit
structure Cx where
 prog:Qu
 w:QH
 K:P6
 mg:Qz->Option PH
 base:Q0
 A:QU
 N:List Qz
 s₀:PM
 H₀:Hp
 env:WN
 outer:List WN
 stack:List WN
 ex:List PD
 fn:Qz->Bool
 calm:Bool
 pn:List (PD×Qn)
 xe:PH->PM->Prop
noncomputable def frs(l:List WN):List PD:=l.filterMap (·.frame)
noncomputable abbrev Cx.fs(X:Cx):List PD:=frs X.outer
def Vis(a:Scope)(x:Qz):Prop:=a.names.lookup x=My .local\/a.names.lookup x=My .cell\/a.names.lookup x=My .free
def Loc(a:Scope)(x:Qz):Prop:=a.names.lookup x=My .local\/a.names.lookup x=My .cell
def Look(env:WN)(h:Q0)(m:Qz->Option PH)(x:Qz)(u:PH):Prop:=
 (env.kindOf x=My .local/\m x=My u)\/((env.kindOf x=My .cell\/env.kindOf x=My .free)/\∃c,env.cells.lookup x=My c/\h.IsCell c (My u))
structure Cx.Ok (X:Cx):Prop where
 mod:Mod X.K X.mg X.base
 kind:X.env.scope.kind= .function
 glob:X.env.globals=RY
 blt:X.env.builtins=X8
 above:X.s₀.heap.objs.size<=X.env.locals
 inj:∀x y c,X.env.cells.lookup x=My c->X.env.cells.lookup y=My c->x=y
 has:∀x,(X.env.kindOf x=My .cell\/X.env.kindOf x=My .free)->∃c,X.env.cells.lookup x=My c
 cab:∀x c,X.fn x=Pt->X.env.cells.lookup x=My c->X.s₀.heap.objs.size<=c
 hd:X.calm=Pt->X.A.handled=Po
 frames:X.A.frames=My X.stack
 stk:X.stack=X.outer\/(X.stack=X.env::X.outer/\X.env.frame=My X.env.locals)
 exf:∀b∈X.ex,b≠X.env.locals/\∀x c,X.env.cells.lookup x=My c->c≠b
 bs:∀b o,X.base.get? b=My o->X.s₀.heap.get? b=My o/\X.H₀ b=Po
 bsz:X.base.objs.size<=X.s₀.heap.objs.size
 noex:∀b o,X.base.get? b=My o->b∉X.ex
 exfs:∀b∈X.ex,b∉X.fs
 funs:X.s₀.heap.FunFrames X.base X.outer
 frf:∀b∈X.fs,X.H₀ b=Po
structure Inv (X:Cx) (pins:List (PD×Qn)) (σ:List (Option V)) (H:Hp) (s:PM):Prop where
 ok:X.Ok
 os:s.os=X.s₀.os
 bare:U1 s.gens
 base:Un X.fs X.ex X.H₀ H X.s₀.heap s.heap
 loc:∃m,s.heap.Ns X.env.locals m/\∀(i:Nat) (x:Qz) (v:V),X.N[i]?=My x->σ[i]?=My (My v)->Vis X.env.scope x->∃u,aK v u/\Look X.env s.heap m x u
 cell:∀x c,X.env.cells.lookup x=My c->∃v,s.heap.IsCell c v
 free:H X.env.locals=Po
 freeC:∀x c,X.env.cells.lookup x=My c->H c=Po
 pin:∀p∈X.pn++pins,s.heap.get? p.1=My p.2/\H p.1=Po/\p.1≠X.env.locals/\p.1∉X.fs/\∀v,p.2.data≠ .cell v
 hok:HOk X.prog X.w H s.heap
 len:σ.length=X.N.length
section
variable{X:Cx}{pins:List (PD×Qn)}{σ:List (Option V)}{H H':Hp}{s:PM}{h':Q0}
theorem Cx.Ok.nofr(ok:X.Ok)(e:X.base.get? b=My o):b∉X.fs:=λa=>by
 have:=(ok.funs.mem a).1;rw[e]at this;cases this
theorem Inv.bs(I:Inv X pins σ H s):∀b o,X.base.get? b=My o->s.heap.get? b=My o/\H b=Po:=λb o e=>
 ⟨I.base.keep b o (I.ok.bs b o e).1 (I.ok.bs b o e).2 (I.ok.nofr e) (I.ok.noex b o e),I.base.free b o (I.ok.bs b o e).1 (I.ok.bs b o e).2 (I.ok.noex b o e)⟩
theorem Inv.bk(I:Inv X pins σ H s):∀b o,X.base.get? b=My o->s.heap.get? b=My o:=λb o e=>(I.bs b o e).1
theorem Inv.mod(I:Inv X pins σ H s):Mod X.K X.mg X.base:=I.ok.mod
theorem Inv.kIn(I:Inv X pins σ H s):X.K.In s.heap:=I.ok.mod.kin.keeps I.bk
theorem Inv.fr(I:Inv X pins σ H s):∃m,Fr X.base X.env.locals s.heap m:=
 let ⟨m,hn,_⟩:=I.loc
 ⟨m,hn,I.bk,Qc I.ok.bsz I.ok.above⟩
theorem Inv.lt(I:Inv X pins σ H s):X.env.locals<s.heap.objs.size:=let ⟨_,hn,_⟩:=I.loc;hn.lt
theorem Inv.sz(I:Inv X pins σ H s):X.s₀.heap.objs.size<=s.heap.objs.size:=Qc I.ok.above (Vz I.lt)
theorem Inv.nofs(I:Inv X pins σ H s){a:PD}(h:s.heap.objs.size<=a):a∉X.fs:=λb=>by
 obtain⟨_,o,c,_⟩:=I.ok.funs.mem b;exact Ql (Qm (Qj c) (Qc I.sz h)) (QS _)
theorem Inv.cne(I:Inv X pins σ H s):∀x c,X.env.cells.lookup x=My c->c≠X.env.locals:=λx c e z=>by
 obtain⟨v,o,d,hd⟩:=I.cell x c e;obtain⟨m,⟨f,es,ep,a,b,_⟩,_⟩:=I.loc;rw[z,a]at d;cases d;rw[b]at hd;cases hd
theorem Inv.funs(I:Inv X pins σ H s):s.heap.FunFrames X.base X.outer:=by
 have all:∀(l:List WN),(∀b∈frs l,b∈X.fs)->X.s₀.heap.FunFrames X.base l->s.heap.FunFrames X.base l:=by
  intro l
  induction l with
  |nil=>intro _ _;trivial
  |cons env r ih=>
   intro hs f;obtain⟨g,⟨L,o,a,hn,h,hd⟩,i⟩:=f;have c:L∈X.fs:=hs L (by unfold frs;rw[Rw,a];exact PF);obtain⟨j,e⟩:=I.base.slot L o h (I.ok.frf L c) c λz=>I.ok.exfs L z c;exact⟨g,⟨L,_,a,hn,e,hd⟩,ih (λb d=>hs b (by unfold frs;rw[Rw,a];exact Ps _ d)) i⟩
 exact all X.outer (λ_ d=>d) I.ok.funs
theorem Inv.stack(I:Inv X pins σ H s):s.heap.FunFrames X.base X.stack:=by
 rcases I.ok.stk with e|⟨e,a⟩
 ·rw[e];exact I.funs
 ·rw[e]
  obtain⟨m,hn,_⟩:=I.loc;refine .cons (by rw[I.ok.kind];decide) a hn ?_ I.funs;exact Yn (Qc I.ok.bsz I.ok.above)
theorem Inv.stkSub(I:Inv X pins σ H s):∀b∈frs X.stack,b∈X.env.locals::X.fs:=λb a=>by
 rcases I.ok.stk with e|⟨e,c⟩
 ·rw[e]at a;exact Ps _ a
 ·rw[e]at a
  unfold frs at a;rw[Rw,c]at a;exact a
theorem Inv.stkFree(I:Inv X pins σ H s):∀b∈frs X.stack,H b=Po:=λb hb=>by
 rcases PZ.mp (I.stkSub b hb)with e|hb
 ·rw[e];exact I.free
 ·obtain⟨_,o,a,_⟩:=I.ok.funs.mem hb
  exact I.base.free b o a (I.ok.frf b hb) λz=>I.ok.exfs b z hb
theorem Inv.step{ch:List PD}(I:Inv X pins σ H s)
  (f:∀b∈ch,(b∈X.ex\/X.s₀.heap.objs.size<=b)/\b≠X.env.locals/\(∀x c,X.env.cells.lookup x=My c->c≠b)/\∀p∈X.pn++pins,p.1≠b)
  (keep:∀b o,b≠X.env.locals->b∉X.fs->b∉ch->s.heap.get? b=My o->H b=Po->h'.get? b=My o)
  (slot:∀b o,b≠X.env.locals->b∈X.fs->b∉ch->s.heap.get? b=My o->H b=Po->∃J,h'.get? b=My {o with slots:=J}) (free:∀b o,b∉ch->s.heap.get? b=My o->H b=Po->H' b=Po)
  (there:∀b o,b∉ch->s.heap.get? b=My o->∃B,h'.get? b=My B)
  (tups:∀b xs,H b=My (.tup xs)->H' b=My (.tup xs)) (frzs:∀b o u,H b=My (.frz o u)->H' b=My (.frz o u)) (tbls:∀b ps,H b=My (.tbl ps)->∃more,H' b=My (.tbl (ps++more)))
  (ns:∀m,s.heap.Ns X.env.locals m->h'.Ns X.env.locals m) (hok:HOk X.prog X.w H' h') (P:U1 g'):
  Inv X pins σ H' {s with heap:=h',gens:=g',drawn:=d',toks:=t'}:=by
 have C:∀b o,X.s₀.heap.get? b=My o->b≠X.env.locals:=λb o e=>QK (Qm (Qj e) I.ok.above);have j:∀b o,X.s₀.heap.get? b=My o->b∉X.ex->b∉ch:=λb o e a y=>by
  rcases(f b y).1 with z|z
  ·exact a z
  ·exact Ql (Qm (Qj e) z) (QS _)
 have g:∀x c,X.env.cells.lookup x=My c->∀v,s.heap.IsCell c v->h'.IsCell c v:=λx c e v ⟨o,A,hd⟩=>by
  have h:c∉ch:=λz=>(f c z).2.2.1 x c e rfl;by_cases N:c∈X.fs
  ·obtain⟨J,q⟩:=slot c o (I.cne x c e) N h A (I.freeC x c e)
   exact⟨_,q,hd⟩
  ·exact⟨o,keep c o (I.cne x c e) N h A (I.freeC x c e),hd⟩
 refine⟨I.ok,I.os,P,⟨λb o e n y a=>?_,λb o e n y a=>?_,λb o e n a=>?_,λb o e a=>?_,λb xs e=>tups b xs (I.base.tups b xs e),λb o xs e=>frzs b o xs (I.base.frzs b o xs e),λb ps e=>?_⟩,?_,λx c e=>?_,?_,λx c e=>?_,λp O=>?_,hok,I.len⟩
 ·exact keep b o (C b o e) y (j b o e a) (I.base.keep b o e n y a) (I.base.free b o e n a)
 ·obtain⟨J,t⟩:=I.base.slot b o e n y a
  obtain⟨L,F⟩:=slot b _ (C b o e) y (j b o e a) t (I.base.free b o e n a);exact⟨L,F⟩
 ·obtain⟨B,t⟩:=I.base.there b o e a
  exact free b B (j b o e a) t (I.base.free b o e n a)
 ·obtain⟨B,t⟩:=I.base.there b o e a
  exact there b B (j b o e a) t
 ·obtain⟨m1,t⟩:=I.base.tbls b ps e
  obtain⟨m2,F⟩:=tbls b _ t;exact⟨m1++m2,by rw[F,Ys]⟩
 ·obtain⟨m,hn,Q⟩:=I.loc
  refine⟨m,ns m hn,λi x v t F R=>?_⟩;obtain⟨u,r,l⟩:=Q i x v t F R;refine⟨u,r,?_⟩;rcases l with l|⟨k,c,e,z⟩
  ·exact .inl l
  ·exact .inr ⟨k,c,e,g x c e _ z⟩
 ·obtain⟨v,z⟩:=I.cell x c e
  exact⟨v,g x c e v z⟩
 ·obtain⟨m,⟨o,_,_,A,_⟩,_⟩:=I.loc
  exact free _ o (λz=>(f _ z).2.1 rfl) A I.free
 ·obtain⟨v,o,A,hd⟩:=I.cell x c e
  exact free c o (λz=>(f c z).2.2.1 x c e rfl) A (I.freeC x c e)
 ·obtain⟨e,n,ne,nf,d⟩:=I.pin p O
  have h:p.1∉ch:=λz=>(f p.1 z).2.2.2 p O rfl;exact⟨keep p.1 p.2 ne nf h e n,free p.1 p.2 h e n,ne,nf,d⟩
theorem Inv.un(I:Inv X pins σ H s)(u:Un X.fs [] H H' s.heap h')(hok:HOk X.prog X.w H' h'):Inv X pins σ H' {s with heap:=h',toks:=t'}:=by
 obtain⟨m,⟨o,es,ep,g,r⟩,_⟩:=id I.loc;obtain⟨j,h⟩:=u.any g I.free (by simp);exact I.step (g':=s.gens) (d':=s.drawn) (ch:=[]) (λ_ z=>nomatch z) (λb o _ c _ e n=>u.keep b o e n c (by simp)) (λb o _ c _ e n=>u.slot b o e n c (by simp)) (λb o _ e n=>u.free b o e n (by simp)) (λb o _ e=>u.there b o e (by simp)) u.tups u.frzs u.tbls (λk hm=>by
  obtain⟨l,d,f,a,i⟩:=hm;rw[g]at a;cases a;exact⟨_,d,f,h,i⟩) hok I.bare
theorem Inv.call{ch:List PD}(I:Inv X pins σ H s)(u:Un (frs X.stack) ch H H' s.heap h')(hok:HOk X.prog X.w H' h')(k:U1 g')
  (d:∀b∈ch,(b∈X.ex\/X.s₀.heap.objs.size<=b)/\b≠X.env.locals/\(∀x c,X.env.cells.lookup x=My c->c≠b)/\∀p∈X.pn++pins,p.1≠b):
  Inv X pins σ H' {s with heap:=h',gens:=g',drawn:=d',toks:=t'}:=by
 obtain⟨m,⟨o,es,ep,j,r⟩,_⟩:=id I.loc;obtain⟨t,g⟩:=u.any j I.free λz=>(d _ z).2.1 rfl;exact I.step (ch:=ch) d (λb o g l a e n=>u.keep b o e n (λz=>(PZ.mp (I.stkSub b z)).elim g l) a) (λb o _ _ a e n=>u.any e n a) (λb o a e n=>u.free b o e n a) (λb o a e=>u.there b o e a) u.tups u.frzs u.tbls (λv hm=>by
  obtain⟨y,h,i,f,q⟩:=hm;rw[j]at f;cases f;exact⟨_,h,i,g,q⟩) hok k
theorem Inv.turned(I:Inv X pins σ H s)(k:∀b o,b≠it->s.heap.get? b=My o->h'.get? b=My o)(hn:H it=Po)(f:it≠X.env.locals)
  (g:it∈X.ex\/X.s₀.heap.objs.size<=it) (h:∀x c,X.env.cells.lookup x=My c->c≠it) (i:∀p∈X.pn++pins,p.1≠it):Inv X pins σ H {s with heap:=h',toks:=t'}:=by
 have d:∀b u,H b=My u->b≠it:=λb u e z=>by rw[z,hn]at e;cases e
 refine I.step (g':=s.gens) (d':=s.drawn) (ch:=[it]) (λb j=>?_) (λb o _ _ a e _=>k b o (λz=>a (by simp[z])) e) (λb o _ _ a e _=>⟨o.slots,k b o (λz=>a (by simp[z])) e⟩) (λ_ _ _ _ n=>n)
  (λb o a e=>⟨o,k b o (λz=>a (by simp[z])) e⟩) (λ_ _ e=>e) (λ_ _ _ e=>e) (λb ps e=>⟨#[],by rw[e];simp⟩) (λm hm=>?_) (λb u e=>?_) I.bare
 ·have e:b=it:=by simpa using j
  subst e;exact⟨g,f,h,i⟩
 ·obtain⟨o,es,ep,l,r⟩:=hm
  exact⟨o,es,ep,k _ o (Ne.symm f) l,r⟩
 ·refine(I.hok b u e).stay (λc v a q=>k c v ?_ q) (λ_ q=>q) λ_ _ q=>q
  rcases a with z|z
  ·rw[z];exact d b u e
  ·exact d c _ z
theorem Inv.tok(I:Inv X pins σ H s)(t:Nat):Inv X pins σ H {s with toks:=t}:=I.un (h':=s.heap) (t':=t) Un.refl I.hok
theorem Inv.kept(I:Inv X pins σ H s)(k:∀b u,s.heap.get? b=My u->h'.get? b=My u):Inv X pins σ H {s with heap:=h',toks:=t'}:=I.un (Un.kept k) (I.hok.kept k)
theorem Inv.laid{a:PD}{o:HO}{t':Nat}(I:Inv X pins σ H s)(k:∀b u,s.heap.get? b=My u->h'.get? b=My u)(c:s.heap.objs.size<=a)(new:bP X.prog X.w (upd H a o) h' a o):
  Inv X pins σ (upd H a o) {s with heap:=h',toks:=t'}:=I.un (Un.laid k c (I.hok.fresh c)) (I.hok.laid k c new)
theorem Inv.write(I:Inv X pins σ H s)(mu:Mut (H x))(c:e=x\/H e=My (.own x))(k:∀b u,b≠e->s.heap.get? b=My u->h'.get? b=My u)(a:∃u,h'.get? e=My u)
  (new:bP X.prog X.w (upd H x o) h' x o):Inv X pins σ (upd H x o) {s with heap:=h',toks:=t'}:=I.un (Un.write mu c k a) (I.hok.write mu c k a new)
theorem Inv.pins_of(I:Inv X pins σ H s)(h:∀p∈pins',s.heap.get? p.1=My p.2/\H p.1=Po/\p.1≠X.env.locals/\p.1∉X.fs/\∀v,p.2.data≠ .cell v):Inv X pins' σ H s:=
 ⟨I.ok,I.os,I.bare,I.base,I.loc,I.cell,I.free,I.freeC,λp a=>(Rk.mp a).elim (λz=>I.pin p (Sz _ z)) (h p),I.hok,I.len⟩
theorem uq{N:List Qz}(c:N.Nodup){i j:Nat}{x:Qz}(a:N[i]?=My x)(b:N[j]?=My x):i=j:=by
 obtain⟨f,d⟩:=PU.mp a;obtain⟨g,e⟩:=PU.mp b;exact(List.getElem_inj c).mp (d.trans e.symm)
theorem k8{M:X2}{E:PH->PM->Prop}(I:Inv X pins σ H s)(hN:X.N.Nodup)(O:X.N[i]?=My x)(l:Loc X.env.scope x)(r:aK v u)
  (h:∀s',Inv X pins (σ.set i (My v)) H s'->(∃a,Qr a s.heap s'.heap/\(a=X.env.locals\/X.env.cells.lookup x=My a))->Q () s') (hf:X.fn x=Pt\/X.env.scope.names.lookup x=My .local:=by first|exact .inl rfl|exact .inr rfl|assumption):PY M A (storeName X.env x u) Q E s:=by
 obtain⟨m,hn,hl⟩:=id I.loc;have P:(X.env.scope.kind== .class||(X.env.scope.kind== .module&&X.env.locals !=X.env.globals))=Pz:=by rw[I.ok.kind];rfl
 have C:i<σ.length:=by rw[I.len];exact(PU.mp O).1
 have cne:=I.cne;have f:∀{a:PD} {h':Q0},(∃o,s.heap.get? a=My o/\H a=Po)->Qr a s.heap h'->HOk X.prog X.w H h':=λ{a h'} ha hs b ob e=>by
  obtain⟨_,_,t⟩:=ha;refine(I.hok b ob e).stay (λc Y hc q=>(hs.2 c ?_).trans q) (λ_ q=>q) λ_ _ q=>q;rintro rfl;rcases hc with rfl|hc
  ·rw[t]at e;cases e
  ·rw[t]at hc;cases hc
 rcases l with hk|hk
 ·refine wpAny_storeName_local hk hn (λh' hn' hs=>?_) P
  obtain⟨oL,_,_,hoL,_⟩:=id hn;refine h _ ⟨I.ok,I.os,I.bare,⟨λb o e n F l=>?_,λb o e n F l=>?_,I.base.free,λb o e l=>?_,I.base.tups,I.base.frzs,I.base.tbls⟩,⟨_,hn',λj y v' g B e3=>?_⟩,λy c e=>?_,I.free,I.freeC,λp hp=>?_,f ⟨oL,hoL,I.free⟩ hs,by simpa using I.len⟩ ⟨_,hs,.inl rfl⟩
  ·exact(hs.2 b (QK (Qm (Qj e) I.ok.above))).trans (I.base.keep b o e n F l)
  ·obtain⟨sl,g⟩:=I.base.slot b o e n F l
   exact⟨sl,(hs.2 b (QK (Qm (Qj e) I.ok.above))).trans g⟩
  ·obtain⟨o',g⟩:=I.base.there b o e l
   exact⟨o',(hs.2 b (QK (Qm (Qj e) I.ok.above))).trans g⟩
  ·by_cases J:j=i
   ·subst J
    rw[O]at g;cases g;rw[XU C]at B;cases B;exact⟨u,r,.inl ⟨hk,by simp⟩⟩
   ·rw[VP (Ne.symm J)]at B
    obtain⟨u',r',q⟩:=hl j y v' g B e3;refine⟨u',r',?_⟩;rcases q with⟨k,e⟩|⟨k,c,e,z⟩
    ·refine .inl ⟨k,?_⟩
     have:y≠x:=λe=>J (uq hN g (e▸O));simp[this,e]
    ·exact .inr ⟨k,c,e,z.sameBut hs (cne y c e)⟩
  ·obtain⟨Y,z⟩:=I.cell y c e
   exact⟨Y,z.sameBut hs (cne y c e)⟩
  ·obtain⟨e,n,ne,nf,d⟩:=I.pin p hp
   exact⟨(hs.2 p.1 ne).trans e,n,ne,nf,d⟩
 ·have L:X.fn x=Pt:=by
   rcases hf with z|z
   ·exact z
   ·rw[z]at hk;cases hk
  obtain⟨c,hc⟩:=I.ok.has x (.inl hk);obtain⟨Y,z⟩:=I.cell x c hc;refine wpAny_storeName_cell I.ok.kind hk hc z (λh' R hs=>?_);obtain⟨oc,T,U⟩:=id z;refine h {s with heap:=h'} ⟨I.ok,I.os,I.bare,⟨λb o e n F l=>?_,λb o e n F l=>?_,I.base.free,λb o e l=>?_,I.base.tups,I.base.frzs,I.base.tbls⟩,⟨m,hn.sameBut hs (Ne.symm (cne x c hc)),λj y v' g B e3=>?_⟩,λy Z e=>?_,I.free,I.freeC,λp hp=>?_,f ⟨oc,T,I.freeC x c hc⟩ hs,by simpa using I.len⟩ ⟨c,hs,.inr hc⟩
  ·exact(hs.2 b (QK (Qm (Qj e) (I.ok.cab x c L hc)))).trans (I.base.keep b o e n F l)
  ·obtain⟨sl,g⟩:=I.base.slot b o e n F l
   exact⟨sl,(hs.2 b (QK (Qm (Qj e) (I.ok.cab x c L hc)))).trans g⟩
  ·obtain⟨o',g⟩:=I.base.there b o e l
   exact⟨o',(hs.2 b (QK (Qm (Qj e) (I.ok.cab x c L hc)))).trans g⟩
  ·by_cases J:j=i
   ·subst J
    rw[O]at g;cases g;rw[XU C]at B;cases B;exact⟨u,r,.inr ⟨.inl hk,c,hc,R⟩⟩
   ·rw[VP (Ne.symm J)]at B
    obtain⟨u',r',q⟩:=hl j y v' g B e3;refine⟨u',r',?_⟩;rcases q with q|⟨k,Z,e,z'⟩
    ·exact .inl q
    ·refine .inr ⟨k,Z,e,z'.sameBut hs ?_⟩
     rintro rfl;exact J (uq hN g (I.ok.inj _ _ _ e hc▸O))
  ·by_cases W:Z=c
   ·subst W;exact⟨_,R⟩
   ·obtain⟨w2,z2⟩:=I.cell y Z e
    exact⟨w2,z2.sameBut hs W⟩
  ·obtain⟨e,n,ne,nf,d⟩:=I.pin p hp
   refine⟨(hs.2 p.1 ?_).trans e,n,ne,nf,d⟩;intro q;rw[q,T]at e;have q':oc=p.2:=Qo e;exact d Y (by rw[←q'];exact U)
theorem nA{M:X2}{E:PH->PM->Prop}(I:Inv X pins σ H s)(a:X.N.Nodup)(b:X.N[i]?=My x)(c:Loc X.env.scope x)(r:aK v u)
  (h:∀s',Inv X pins (σ.set i (My v)) H s'->Q () s') (d:X.fn x=Pt\/X.env.scope.names.lookup x=My .local:=by first|exact .inl rfl|exact .inr rfl|assumption):PY M A (storeName X.env x u) Q E s:=
 k8 I a b c r (λs' e _=>h s' e) d
theorem Inv.call'{s':PM}{ch:List PD}(I:Inv X pins σ H s)(d:s'.os=s.os)(u:Un (frs X.stack) ch H H' s.heap s'.heap)(hok:HOk X.prog X.w H' s'.heap)(f:U1 s'.gens)
  (a:∀b∈ch,(b∈X.ex\/X.s₀.heap.objs.size<=b)/\b≠X.env.locals/\(∀x c,X.env.cells.lookup x=My c->c≠b)/\∀p∈X.pn++pins,p.1≠b):Inv X pins σ H' s':=by
 obtain⟨h',g',d',t',g⟩:=s';have e:g=s.os:=d;subst e;exact I.call (g':=g') (t':=t') (d':=d') u hok f a
end
abbrev XK:=PH->Option PD->Hp->Prop
abbrev St:=List (Option V)
abbrev VK:=V->Hp->Prop
abbrev TE:=St->Hp->VK->Prop
abbrev TT:=St->Hp->(Bool->Hp->Prop)->Prop
abbrev TA:=St->Hp->(List V->Hp->Prop)->Prop
structure Ends where
 nx:St->Hp->Prop
 rt:VK
 bk:St->Hp->Prop:=λ_ _=>False
 ct:St->Hp->Prop:=λ_ _=>False
abbrev TS:=Ends->St->Hp->Prop
def EP(X:Cx)(a:List (PD×Qn))(c:St)(Q:VK)(u:PH)(s':PM):Prop:=∃v b,Inv X a c b s'/\aK v u/\Q v b
def TP(X:Cx)(a:List (PD×Qn))(d:St)(Q:Bool->Hp->Prop)(b:Bool)(s':PM):Prop:=∃c,Inv X a d c s'/\Q b c
def AP(X:Cx)(a:List (PD×Qn))(c:St)(Q:List V->Hp->Prop)(us:List PH)(s':PM):Prop:=∃vs b,Inv X a c b s'/\ar vs us/\Q vs b
def SP(X:Cx)(b:List (PD×Qn))(D:Ends)(f:Flow)(s':PM):Prop:=
 match f with
 | .next=>∃a c,Inv X b a c s'/\D.nx a c
 | .brk=>∃a c,Inv X b a c s'/\D.bk a c
 | .cont=>∃a c,Inv X b a c s'/\D.ct a c
 | .ret u=>∃v a c,Inv X b a c s'/\aK v u/\D.rt v c
def PE(X:Cx)(e:Expr)(t:TE):Prop:=
 ∀(a:List (PD×Qn)) (s:PM) (b:St) (H:Hp) (Q:VK),Inv X a b H s->t b H Q->PY (Qk X.prog X.w) X.A (QW e X.env) (EP X a b Q) X.xe s
def PT(X:Cx)(e:Expr)(t:TT):Prop:=
 ∀(a:List (PD×Qn)) (s:PM) (b:St) (H:Hp) (Q:Bool->Hp->Prop),Inv X a b H s->t b H Q->PY (Qk X.prog X.w) X.A (isTrue e X.env (QW e X.env)) (TP X a b Q) X.xe s
def PW(X:Cx)(e:Expr)(t:TT):Prop:=
 ∀(b:Sem PH) (a:List (PD×Qn)) (s:PM) (c:St) (H:Hp) (Q:Bool->Hp->Prop),Inv X a c H s->t c H Q->PY (Qk X.prog X.w) X.A (isTrue e X.env b) (TP X a c Q) X.xe s
theorem PW.pt(h:PW X e t):PT X e t:=h _
def PA(X:Cx)(es:List Expr)(t:TA):Prop:=
 ∀(pos:Uh) (a:List (PD×Qn)) (s:PM) (b:St) (H:Hp) (Q:List V->Hp->Prop),Inv X a b H s->t b H Q->PY (Qk X.prog X.w) X.A (spliced (RP pos (PX es X.env))) (AP X a b Q) X.xe s
def PS(X:Cx)(st:Q6)(t:TS):Prop:=
 ∀(a:List (PD×Qn)) (s:PM) (b:St) (H:Hp) (D:Ends),Inv X a b H s->t D b H->PY (Qk X.prog X.w) X.A (exec st X.env) (SP X a D) X.xe s
def PSs(X:Cx)(st:List Q6)(t:TS):Prop:=
 ∀(a:List (PD×Qn)) (s:PM) (b:St) (H:Hp) (D:Ends),Inv X a b H s->t D b H->PY (Qk X.prog X.w) X.A (execs st X.env) (SP X a D) X.xe s
theorem thn{α:Type}{t:Sem α}{Q b:α->PM->Prop}{M:X2}{A:QU}{E:PH->PM->Prop}{s:PM}(h:PY M A t Q E s)(c:∀a s,Q a s->b a s):PY M A t b E s:=QN h c λ_ _ x=>x
section
variable{X:Cx}
def kY(i:Nat):TE:=λa H Q=>∃v,a[i]?=My (My v)/\Q v H
def tC(v:V):TE:=λ_ H Q=>Q v H
theorem L0(j:X.N[i]?=My x)(k:Vis X.env.scope x)(hd:(x==("__debug__":Qz))=Pz:=by decide)(f:(x==("__classdict__":Qz))=Pz:=by decide):PE X (.Name x pos) (kY i):=by
 intro d s n H Q I h;obtain⟨v,e,h⟩:=h;obtain⟨m,hn,o⟩:=I.loc;obtain⟨u,r,l⟩:=o i x v j e k;have b:EP X d n Q u s:=⟨v,H,I,r,h⟩;rcases l with⟨hk,hm⟩|⟨hk,c,g,a⟩
 ·exact wpAny_Name (wpAny_loadName_local I.ok.kind hk hn hm b) hd
 ·rcases hk with hk|hk
  ·exact wpAny_Name (wpAny_loadName_cell I.ok.kind hk g a b) hd
  ·exact wpAny_Name (wpAny_loadName_free I.ok.kind hk g a b f) hd
theorem bG{i j pos}:PE X (.Constant (.int i) j pos) (tC (.int i)):=λ_ _ _ H _ I h=>wpAny_Constant_int ⟨.int i,H,I.tok _,⟨_,rfl⟩,h⟩
theorem L7{j pos}:PE X (.Constant .none j pos) (tC .non):=λ_ _ _ H _ I h=>Constant_none ⟨.non,H,I,rfl,h⟩
theorem lF{x j pos}:PE X (.Constant (.str x) j pos) (tC (.str x)):=λ_ _ _ H _ I h=>Yv ⟨.str x,H,I.tok _,⟨_,rfl⟩,h⟩
def Gl(X:Cx)(x:Qz):Prop:=X.env.kindOf x=My .globalImplicit
theorem j3{E:PH->PM->Prop}(I:Inv X pins σ H s)(a:Gl X x)(hm:X.mg x=My u)(h:Q u s)
  (hd:(x==("__debug__":Qz))=Pz:=by decide):PY (Qk X.prog X.w) X.A (QW (.Name x pos) X.env) Q E s:=
 WW I.ok.kind a (Calls.loadGlobal_global (by rw[I.ok.glob];exact I.mod.glob.keeps I.bk) hm h) hd
theorem f8{E:PH->PM->Prop}(I:Inv X pins σ H s)(a:Gl X x)(hm:X.mg x=Po)(b:TN x=My u)(h:Q u s)
  (hn:x≠"__name__":=by decide) (hd:(x==("__debug__":Qz))=Pz:=by decide):PY (Qk X.prog X.w) X.A (QW (.Name x pos) X.env) Q E s:=by
 obtain⟨mb,c,d⟩:=I.mod.blt;exact WW I.ok.kind a (Calls.loadGlobal_builtin (by rw[I.ok.glob];exact I.mod.glob.keeps I.bk) hm (by rw[I.ok.blt];exact c.keeps I.bk) ((d x hn).trans b) h) hd
theorem Kn(a:Gl X x)(hm:X.mg x=My u)(r:aK v u)(hd:(x==("__debug__":Qz))=Pz:=by decide):PE X (.Name x pos) (tC v):=
 λ_ _ _ H _ I h=>j3 I a hm ⟨v,H,I,r,h⟩ hd
variable{a b:Expr}{ta tb:TE}{pos:Uh}
variable{tA tB':TT}{rest:List Expr}
def tOr(t u:TT):TT:=λd H Q=>t d H λc e=>if c=Pt then Q Pt e else u d e Q
def tNot(t:TT):TT:=λd H Q=>t d H λc e=>Q (!c) e
theorem LS(ha:PT X a tA):PW X (.BoolOp .Or [a] pos) tA:=by
 intro g d s f H Q I h;refine isTrue_or (thn (ha d s f H Q I h) λc i e=>?_);cases c with
 |false=>exact isTrue_or_nil e
 |true=>exact e
theorem OA(ha:PT X a tA)(i:PW X (.BoolOp .Or (b::rest) pos) tB'):PW X (.BoolOp .Or (a::b::rest) pos) (tOr tA tB'):=by
 intro j d s e H Q I h;refine isTrue_or (thn (ha d s e H _ I h) λc k ⟨f,g,q1⟩=>?_);cases c with
 |true=>exact⟨f,g,q1⟩
 |false=>exact i j d k e f Q g q1
theorem LU(ha:PT X a tA):PT X (.UnaryOp .Not a pos) (tNot tA):=by
 intro d s e H Q I h;exact isTrue_not (ha d s e H (λc f=>Q (!c) f) I h)
def tIf(t:TT)(ta tb:TE):TE:=λd H Q=>t d H λc e=>if c=Pt then ta d e Q else tb d e Q
theorem CT(k:PT X c tA)(ha:PE X a ta)(l:PE X b tb):PE X (.IfExp c a b pos) (tIf tA ta tb):=by
 intro e s f H Q I h;refine wpAny_IfExp (thn (k e s f H _ I h) λd g ⟨i,j,q1⟩=>?_);cases d with
 |true=>exact ha e g f i Q j q1
 |false=>exact l e g f i Q j q1
end
def SqL(K:P6)(H:Hp)(a:PD)(xs:List V):Prop:=
 Rd H a (.lst xs)\/
  ∃(o:Qn) (its:Array PH) (n:Nat),K.lookup a=My o/\o.cls= .type "list"/\o.dict=Po/\o.data= .seq its n/\its.size<=P0/\ar xs its.toList
def SqT(K:P6)(H:Hp)(a:PD)(xs:List V):Prop:=
 Rd H a (.tup xs)\/
  ∃(o:Qn) (its:Array PH) (n:Nat),K.lookup a=My o/\o.cls= .type "tuple"/\o.data= .seq its n/\its.size<=P0/\ar xs its.toList
noncomputable def absV:PH->Option V
 | .none=>My .non
 | .bool b=>My (.bl b)
 | .int i _=>My (.int i)
 | .str x _=>My (.str x)
 | .ref a=>My (.ref a)
 | .type n=>My (.ty n)
 |_=>Po
theorem aK.abs(r:aK x u):absV u=My x:=by
 cases x with
 |non=>cases r;rfl
 |bl _=>cases r;rfl
 |int _=>obtain⟨t,rfl⟩:=r;rfl
 |str _=>obtain⟨t,rfl⟩:=r;rfl
 |ref _=>cases r;rfl
 |ty _=>cases r;rfl
theorem aK.inj(r:aK x u)(q:aK y u):x=y:=Qo (r.abs.symm.trans q.abs)
theorem ar.inj:∀{xs ys:List V} {us:List PH},ar xs us->ar ys us->xs=ys
 |_,_,_,.nil,.nil=>rfl
 |_,_,_,.cons r t,.cons r' t'=>by rw[r.inj r',ar.inj t t']
section
variable{X:Cx}{pins:List (PD×Qn)}{σ:St}{H:Hp}{s:PM}{a:PD}{xs ys:List V}
theorem SqL.of{K:P6}(h:H a=My (.lst xs)):SqL K H a xs:= .inl (.inl h)
theorem Inv.list(I:Inv X pins σ H s)(h:SqL X.K H a xs):∃its:List PH,ar xs its/\PlainL s.heap a its.toArray/\xs.length<=P0:=by
 rcases h with h|⟨o,its,n,b,c,hd,hs,d,r⟩
 ·obtain⟨z,its,n,r,e⟩:=h.ok I.hok
  exact⟨its,r,⟨_,n,e,rfl,rfl,rfl⟩,z⟩
 ·refine⟨its.toList,r,⟨o,n,I.kIn a o b,c,hd,by simpa using hs⟩,?_⟩
  have e:=r.length;simp only[Qw]at e;omega
theorem Inv.tuple(I:Inv X pins σ H s)(h:SqT X.K H a xs):∃its:List PH,ar xs its/\IsTup s.heap a its.toArray/\xs.length<=P0:=by
 rcases h with h|⟨o,its,n,b,c,hs,d,r⟩
 ·obtain⟨z,its,r,p⟩:=h.ok I.hok
  exact⟨its,r,p,z⟩
 ·refine⟨its.toList,r,⟨o,I.kIn a o b,c,n,by simpa using hs⟩,?_⟩
  have e:=r.length;simp only[Qw]at e;omega
theorem Inv.list_inj(I:Inv X pins σ H s)(h:SqL X.K H a xs)(h':SqL X.K H a ys):xs=ys:=by
 obtain⟨its,r,⟨o,n,e,_,_,d⟩,_⟩:=I.list h;obtain⟨its',c,⟨f,g,b,_,_,d'⟩,_⟩:=I.list h';rw[e]at b;cases b;rw[d]at d'
 injection d' with d1 _
 have:its=its':=by simpa using QV Array.toList d1
 subst this;exact r.inj c
theorem Inv.tuple_inj(I:Inv X pins σ H s)(h:SqT X.K H a xs)(h':SqT X.K H a ys):xs=ys:=by
 obtain⟨its,r,⟨o,e,_,n,d⟩,_⟩:=I.tuple h;obtain⟨its',c,⟨f,b,_,g,d'⟩,_⟩:=I.tuple h';rw[e]at b;cases b;rw[d]at d'
 injection d' with d1 _
 have:its=its':=by simpa using QV Array.toList d1
 subst this;exact r.inj c
end
noncomputable abbrev Cx.wish(X:Cx)(E:PH->PM->Prop):Cx:={X with xe:=E}
noncomputable abbrev Cx.nox(X:Cx):Cx:=X.wish λ_ _=>False
theorem Cx.Ok.wish{X:Cx}(ok:X.Ok)(E:PH->PM->Prop):(X.wish E).Ok:=
 ⟨ok.mod,ok.kind,ok.glob,ok.blt,ok.above,ok.inj,ok.has,ok.cab,ok.hd,ok.frames,ok.stk,ok.exf,ok.bs,ok.bsz,ok.noex,ok.exfs,ok.funs,ok.frf⟩
theorem Cx.Ok.unwish{X:Cx}{E:PH->PM->Prop}(ok:(X.wish E).Ok):X.Ok:=
 ⟨ok.mod,ok.kind,ok.glob,ok.blt,ok.above,ok.inj,ok.has,ok.cab,ok.hd,ok.frames,ok.stk,ok.exf,ok.bs,ok.bsz,ok.noex,ok.exfs,ok.funs,ok.frf⟩
section
variable{X:Cx}{pins:List (PD×Qn)}{σ:St}{H:Hp}{s:PM}{E:PH->PM->Prop}
theorem Inv.wish(I:Inv X pins σ H s)(E:PH->PM->Prop):Inv (X.wish E) pins σ H s:=⟨I.ok.wish E,I.os,I.bare,I.base,I.loc,I.cell,I.free,I.freeC,I.pin,I.hok,I.len⟩
theorem Inv.unwish(I:Inv (X.wish E) pins σ H s):Inv X pins σ H s:=⟨I.ok.unwish,I.os,I.bare,I.base,I.loc,I.cell,I.free,I.freeC,I.pin,I.hok,I.len⟩
theorem SP.unwish{D:Ends}(h:SP (X.wish E) pins D f s'):SP X pins D f s':=by
 cases f with
 |next=>obtain⟨a,b,I,q⟩:=h;exact⟨a,b,I.unwish,q⟩
 |brk=>obtain⟨a,b,I,q⟩:=h;exact⟨a,b,I.unwish,q⟩
 |cont=>obtain⟨a,b,I,q⟩:=h;exact⟨a,b,I.unwish,q⟩
 |ret u=>obtain⟨v,a,b,I,r,q⟩:=h;exact⟨v,a,b,I.unwish,r,q⟩
theorem PSs.nox{st:List Q6}(h:PSs X.nox st t):PSs X st t:=λpins s σ H D I a=>
 QN (h pins s σ H D (I.wish _) a) (λ_ _ q=>q.unwish) λ_ _ z=>RQ z
end
section
variable{X:Cx}{st:Q6}{rest:List Q6}{t u:TS}{e:Expr}{te:TE}{pos:Uh}
noncomputable def Os:TS:=λD a H=>D.nx a H
def tSeq(t u:TS):TS:=λD a H=>t {D with nx:=u D} a H
theorem qd:PSs X [] Os:=λ_ _ a H _ I h=>V2 ⟨a,H,I,h⟩
theorem cf(c:PS X st t)(d:PSs X rest u):PSs X (st::rest) (tSeq t u):=by
 intro a s g H D I h;refine wpAny_execs_cons (thn (c a s g H {D with nx:=u D} I h) λf i q=>?_);cases f with
 |next=>
  obtain⟨b,j,k,q⟩:=q;exact d a i b j D k q
 |ret v=>exact q
 |brk=>exact q
 |cont=>exact q
theorem eK(b:PS X st t):PSs X [st] t:=by
 intro a s c H D I h;refine wpAny_execs_cons (thn (b a s c H D I h) λf d q=>?_);cases f with
 |next=>exact V2 q
 |ret v=>exact q
 |brk=>exact q
 |cont=>exact q
theorem Inv.quiet(I:Inv X pins σ H s):interactive X.env=Pz:=by simp[interactive,I.ok.kind]
def su(te:TE):TS:=λD a H=>te a H λ_ b=>D.nx a b
theorem bW(c:PE X e te)(hs:Ue e Po pos.line X.env=R6 Pz:=by rfl):PS X (.Expr e pos) (su te):=by
 intro a s b H D I h;exact wpAny_Expr_any (thn (c a s b H _ I h) λv g ⟨x,d,f,r1,q1⟩=>⟨b,d,f,q1⟩) I.quiet hs
def wT(te:TE):TS:=λD a H=>te a H D.rt
theorem az(c:PE X e te):PS X (.Return (My e) pos) (wT te):=by
 intro a s b H D I h;exact wpAny_Return_some (thn (c a s b H _ I h) λv g ⟨x,d,f,r1,q1⟩=>⟨x,b,d,f,r1,q1⟩)
def tIfS(c:TT)(t u:TS):TS:=λD a H=>c a H λb d=>if b=Pt then t D a d else u D a d
theorem ID(l:PT X c tc)(ha:PSs X a t)(m:PSs X b u):PS X (.If c a b pos) (tIfS tc t u):=by
 intro f s g H D I h;refine wpAny_If (thn (l f s g H _ I h) λd i ⟨j,k,q1⟩=>?_);cases d with
 |true=>exact ha f i g j D k q1
 |false=>exact m f i g j D k q1
end
abbrev TG:=V->St->Hp->(St->Hp->Prop)->Prop
abbrev TGs:=List V->St->Hp->(St->Hp->Prop)->Prop
def PG(X:Cx)(a:Expr)(t:TG):Prop:=
 ∀(b:List (PD×Qn)) (s:PM) (d:St) (H:Hp) (v:V) (u:PH) (Q:St->Hp->Prop),Inv X b d H s->aK v u->t v d H Q->
  PY (Qk X.prog X.w) X.A (UW a X.env u) (λ_ s'=>∃c e,Inv X b c e s'/\Q c e) X.xe s
def PGs(X:Cx)(e:List Expr)(t:TGs):Prop:=
 ∀(a:List (PD×Qn)) (s:PM) (c:St) (H:Hp) (vs:List V) (us:List PH) (Q:St->Hp->Prop),Inv X a c H s->ar vs us->t vs c H Q->
  PY (Qk X.prog X.w) X.A (assignInOrder ((VV e X.env).map (·.2)) us) (λ_ s'=>∃b d,Inv X a b d s'/\Q b d) X.xe s
abbrev HB:=V->V->V->Hp->(Hp->Prop)->Prop
def Oa(X:Cx)(t:HB):Prop:=
 ∀(a:List (PD×Qn)) (s:PM) (b:St) (H:Hp) (o i v:V) (c d u:PH) (Q:Hp->Prop),Inv X a b H s->aK o c->aK i d->aK v u->t o i v H Q->
  PY (Qk X.prog X.w) X.A (setItem c d u) (λ_ s'=>∃e,Inv X a b e s'/\Q e) X.xe s
abbrev TIp:=V->V->Hp->VK->Prop
def PIp(X:Cx)(op:Operator)(t:TIp):Prop:=
 ∀(a:List (PD×Qn)) (s:PM) (b:St) (H:Hp) (x y:V) (v u:PH) (Q:VK),Inv X a b H s->aK x v->aK y u->t x y H Q->
  PY (Qk X.prog X.w) X.A (inplaceOp op v u) (EP X a b Q) X.xe s
section
variable{X:Cx}{pos:Uh}
noncomputable def eQ(i:Nat):TG:=λv a H Q=>Q (a.set i (My v)) H
theorem vY(b:X.N.Nodup)(c:X.N[i]?=My x)(d:Loc X.env.scope x)(e:X.fn x=Pt\/X.env.scope.names.lookup x=My .local:=by first|exact .inl rfl|exact .inr rfl|assumption):PG X (.Name x pos) (eQ i):=by
 intro a s g H v u Q I r h;exact Xa (nA I b c d r (λs' f=>⟨_,H,f,h⟩) e)
noncomputable def gNil:TGs:=λvs a H Q=>vs=[]/\Q a H
def xO(t:TG)(u:TGs):TGs:=λvs b H Q=>∃v r,vs=v::r/\t v b H λa c=>u r a c Q
theorem bz:PGs X [] gNil:=by
 intro a s b H vs us Q I r h;obtain⟨e,h⟩:=h;subst e;cases r;exact assignInOrder_nil ⟨b,H,I,h⟩
theorem ay(c:PG X e t)(d:PGs X es u)
  (hs:(VV (e::es) X.env).map (·.2)=UW e X.env::(VV es X.env).map (·.2):=by rfl):PGs X (e::es) (xO t u):=by
 intro a s f H vs us Q I r h;obtain⟨v,m,g,h⟩:=h;subst g;cases r with
 |cons r i=>
  rw[hs];refine assignInOrder_cons (thn (c a s f H _ _ _ I r h) λ_ j ⟨b,k,l,q1⟩=>?_);exact d a j b k _ _ Q l i q1
def EB(K:P6)(n:Nat)(t:TGs):TG:=λv b H Q=>∃a xs,v= .ref a/\SqT K H a xs/\xs.length=n/\t xs b H Q
theorem bK(j:X.calm=Pt)(h:PGs X es t)
  (hn:(VV es X.env).length=n:=by rfl) (d:(VV es X.env).findIdx? (·.1)=Po:=by rfl):PG X (.Tuple es k pos) (EB X.K n t):=by
 intro c s g H v u Q I r f;obtain⟨a,xs,l,m,p,f⟩:=f;subst l;cases r;obtain⟨its,i,q,A⟩:=I.tuple m;refine assign_Tuple_tuple (I.ok.hd j) q (by simp[hn,←p,i.length]) d λh' w=>?_;have y:Inv X c g H {s with heap:=h'}:=I.kept (t':=s.toks) λb o e=>w b o (QK (Qj e)) e;exact h c _ g H xs _ Q y (by simpa using i) f
def MM(to b:TE)(t:HB):TG:=λv a H Q=>to a H λo c=>b a c λi d=>t o i v d λe=>Q a e
theorem jX(e:PE X o to)(f:PE X i ti)(hs:Oa X t)
  (ha:∀v,UW (.Subscript o i pos) X.env v=(do
   let b ←TU [v] (QW o X.env)
   let c ←TU [v,b] (QW i X.env)
   Tk pos
   TU [v,b,c] (setItem b c v)
   release [v,b,c] []):=by intro _;rfl):PG X (.Subscript o i pos) (MM to ti t):=by
 intro a s d H v u Q I r h;rw[ha];refine Pn (Rh (thn (e a s d H _ I h) λb g ⟨x,j,k,r1,q1⟩=>?_));refine Pn (Rh (thn (f a g d j _ k q1) λc l ⟨y,m,n,p,q2⟩=>?_));refine Pn (R8 (Pn (Rh (thn (hs a l d m x y v b c u _ n r1 p r q2) λ_ A ⟨q,w,q3⟩=>?_))));exact wpAny_release ⟨d,q,w,q3⟩
def jC(b:TE)(g:TG):TS:=λD a H=>b a H λx c=>g x a c D.nx
theorem d8(c:PE X e te)(d:PG X tg g)(hs:swapsWithSole [tg] e pos.line X.env=R6 Pz:=by rfl)(f:swappedStores [tg] e X.env=R6 Po:=by rfl)
  (i:(VV [tg] X.env).map (·.2)=[UW tg X.env]:=by rfl):PS X (.Assign [tg] e pos) (jC te g):=by
 intro a s b H D I h;refine wpAny_Assign_stores (thn (c a s b H _ I h) λv j ⟨x,k,l,r1,q1⟩=>?_) hs f;rw[i];exact thn (d a j b k x v _ l r1 q1) λ_ m q=>q
theorem oX(b:X.N.Nodup)(c:X.N[i]?=My x)(d:Loc X.env.scope x)(f:PE X e te)(hs:Ue e (My (.Name x pos')) pos.line X.env=R6 Pz:=by rfl)(g:X.fn x=Pt\/X.env.scope.names.lookup x=My .local:=by first|exact .inl rfl|exact .inr rfl|assumption):
  PS X (.Assign [.Name x pos'] e pos) (jC te (eQ i)):=by
 intro a s j H D I h;refine wpAny_Assign_Name (thn (f a s j H _ I h) λv n ⟨y,k,l,r1,q1⟩=>?_) hs;exact nA l b c d r1 (λo m=>⟨_,k,m,q1⟩) g
def Lq(i:Nat)(b:TE)(c:TIp):TS:=λD a H=>∃x,a[i]?=My (My x)/\b a H λy d=>c x y d λz e=>D.nx (a.set i (My z)) e
theorem d7(p:X.N.Nodup)(n:X.N[i]?=My x)(g:Loc X.env.scope x)(q:PE X e te)(t:PIp X op ti)(B:X.fn x=Pt\/X.env.scope.names.lookup x=My .local:=by first|exact .inl rfl|exact .inr rfl|assumption):
  PS X (.AugAssign (.Name x pos') op e pos) (Lq i te ti):=by
 intro a s o H D I h;obtain⟨v,C,h⟩:=h;obtain⟨m,hn,F⟩:=I.loc;have j:Vis X.env.scope x:=by rcases g with k|k;exact .inl k;exact .inr (.inl k)
 obtain⟨u,r,l⟩:=F i x v n C j;refine wpAny_AugAssign_Name ?_;have go:PY (Qk X.prog X.w) X.A (QW e X.env) (λw d=>PY (Qk X.prog X.w) X.A (inplaceOp op u w) (λr f=>PY (Qk X.prog X.w) X.A (storeName X.env x r) (λ_=>SP X a D .next) X.xe f) X.xe d) X.xe s:=by
  refine thn (q a s o H _ I h) λw J ⟨y,L,O,r1,q1⟩=>?_;refine thn (t a J o L v y u w _ O r r1 q1) λz W ⟨Y,P,Q,R,q2⟩=>?_;exact nA Q p n g R (λZ T=>⟨_,P,T,q2⟩) B
 rcases l with⟨hk,hm⟩|⟨hk,c,U,b⟩
 ·exact wpAny_loadName_local I.ok.kind hk hn hm go
 ·rcases hk with hk|hk
  ·exact wpAny_loadName_cell I.ok.kind hk U b go
  ·rcases g with k|k
   ·have:X.env.scope.names.lookup x=My .free:=hk
    rw[k]at this;cases this
   ·have:X.env.scope.names.lookup x=My .free:=hk
    rw[k]at this;cases this
def ipI(f:Int->Int->Int):TIp:=λx y H Q=>∃i j,x= .int i/\y= .int j/\Q (.int (f i j)) H
theorem j5:PIp X .Add (ipI λi j=>i+j):=by
 intro a s e H x y v u Q I r1 b h;obtain⟨i,j,c,d,q⟩:=h;subst c;subst d;obtain⟨t,rfl⟩:=r1;obtain⟨t',rfl⟩:=b;exact iadd_int ⟨.int _,H,I.tok _,⟨_,rfl⟩,q⟩
theorem ME:PIp X .Sub (ipI λi j=>i-j):=by
 intro a s e H x y v u Q I r1 b h;obtain⟨i,j,c,d,q⟩:=h;subst c;subst d;obtain⟨t,rfl⟩:=r1;obtain⟨t',rfl⟩:=b;exact isub_int ⟨.int _,H,I.tok _,⟨_,rfl⟩,q⟩
def Lk(c:TT)(h:TS):TS:=λD a H=>∃W:Nat->St->Hp->Prop,(∃m,W m a H)/\∀m a H,W m a H->
 c a H λb e=>if b=Pt then ∃N:St->Hp->Prop,(∀d f,N d f->∃g,g<m/\W g d f)/\h {D with nx:=N,ct:=N,bk:=D.nx} a e else D.nx a e
theorem CK(p:YX (Qk X.prog X.w) X.A X.env X.xe)(B:PT X c tc)(C:PSs X body tb):PS X (.While c body [] pos) (Lk tc tb):=by
 intro a s F H D I h;obtain⟨W,⟨J,L⟩,g⟩:=h;refine wpAny_While (codeAny_whileLoop (λn s'=>∃i q,Inv X a i q s'/\W n i q) ?_ J ⟨F,H,I,L⟩);rintro n O ⟨e,r,P,Q⟩;refine S9 p (thn (B a O e r _ P (g n e r Q)) λb R ⟨t,u,q2⟩=>?_);cases b with
 |true=>
  obtain⟨N,y,q2⟩:=q2;rw[PP rfl];refine S9 p (thn (C a R e t _ u q2) λf T q3=>?_);cases f with
  |next=>
   obtain⟨d,j,k,l⟩:=q3;obtain⟨m,hm,o⟩:=y d j l;exact⟨m,hm,d,j,k,o⟩
  |cont=>
   obtain⟨d,j,k,l⟩:=q3;obtain⟨m,hm,o⟩:=y d j l;exact⟨m,hm,d,j,k,o⟩
  |brk=>exact q3
  |ret v=>exact q3
 |false=>
  rw[PL PQ];exact V2 ⟨e,t,u,q2⟩
end
structure It where
 go:Nat->Hp->Prop
 yld:Nat->Hp->V->Hp->Prop
 stop:Nat->Hp->Prop
def eW(X:Cx)(a:List (PD×Qn))(H:Hp)(b:PD):Prop:=
 H b=Po/\b≠X.env.locals/\b∉X.fs/\(b∈X.ex\/X.s₀.heap.objs.size<=b)/\(∀x c,X.env.cells.lookup x=My c->c≠b)/\∀p∈X.pn++a,p.1≠b
theorem Inv.fpOk{X:Cx}{a:List (PD×Qn)}{g:St}{H f:Hp}{s:PM}{b:PD}(I:Inv X a g H s)(d:s.heap.objs.size<=b)(hn:f b=Po):eW X a f b:=by
 refine⟨hn,Se (Qm I.lt d),I.nofs d,.inr (Qc I.sz d),λx c e z=>?_,λp h z=>?_⟩
 ·obtain⟨v,q⟩:=I.cell x c e
  exact Ql (Qm q.lt (by rw[z];exact d)) (QS _)
 ·exact Ql (Qm (Qj (I.pin p h).1) (by rw[z];exact d)) (QS _)
structure Turn (P:Qu) (w:QH) (K:P6) (tg:Expr) (J:It) (fp:List PD) (it:PD) (tn:Nat->Q0->Prop):Prop where
 mem:it∈fp
 obj:∀i h,tn i h->∀b∈fp,∃o,h.get? b=My o/\∀v,o.data≠ .cell v
 keep:∀i h h',tn i h->(∀b∈fp,∀o,h.get? b=My o->h'.get? b=My o)->tn i h'
 item:∀(X:Cx),X.prog=P->X.w=w->X.K=K->X.calm=Pt->∀(i:Nat) (pins:List (PD×Qn)) (s:PM) (σ:St) (H:Hp) (E:PH->PM->Prop),Inv X pins σ H s->(∀b∈fp,eW X pins H b)->tn i s.heap->J.go i H->
  PY (Qk P w) X.A (Uq (.ref it)) (λr s1=>∃u,r=My u/\
   PY (Qk P w) X.A (UX tg (.ref it) u) (λ_ s2=>∃x H',Inv X pins σ H' s2/\aK x u/\J.yld i H x H'/\tn (i+1) s2.heap/\∀b∈fp,H' b=Po) E s1) E s
 done:∀(X:Cx),X.prog=P->X.w=w->X.K=K->X.calm=Pt->∀(i:Nat) (pins:List (PD×Qn)) (s:PM) (σ:St) (H:Hp) (E:PH->PM->Prop),Inv X pins σ H s->(∀b∈fp,eW X pins H b)->tn i s.heap->J.stop i H->
  PY (Qk P w) X.A (Uq (.ref it)) (λr s1=>r=Po/\Inv X pins σ H s1) E s
 self:∀(A:QU) (i:Nat) (s:PM) (Q:PH->PM->Prop) (E:PH->PM->Prop),tn i s.heap->Q (.ref it) s->PY (Qk P w) A (Wh (.ref it)) Q E s
abbrev TI:=St->Hp->(It->Hp->Prop)->Prop
def PIE(X:Cx)(a:List (PD×Qn))(h:St)(tg:Expr)(R:It->Hp->Prop)(c:PH)(e:PM):Prop:=
 ∃(it:PD) (f:List PD) (g:Nat->Q0->Prop) (J:It) (d:Hp),c= .ref it/\Inv X a h d e/\Turn X.prog X.w X.K tg J f it g/\g 0 e.heap/\(∀b∈f,eW X a d b)/\R J d
def PI(X:Cx)(tg b:Expr)(d:TI):Prop:=
 ∀(a:List (PD×Qn)) (s:PM) (c:St) (H:Hp) (R:It->Hp->Prop),Inv X a c H s->d c H R->
  PY (Qk X.prog X.w) X.A (QW b X.env) (λv e=>PY (Qk X.prog X.w) X.A (Wh v) (PIE X a c tg R) X.xe e) X.xe s
theorem sM{M:X2}{E:PH->PM->Prop}{s:PM}{o:Qn}(b:s.heap.get? it=My o)(c:o.cls= .type n)(hd:o.data= .fields vs)
  (hn:["enumerate","zip","dict_itemiterator","dict_reverseitemiterator","odict_iterator","itertools.zip_longest","itertools.pairwise"].contains n=Pz) (a:Q () s):PY M A (UX tg (.ref it) u) Q E s:=by
 unfold UX;cases tg<;>first
  |exact Pq a
  |(cases u<;>first
   |exact Pq a
   |(refine Pn (wpAny_load b ?_)
     rw[c,hd];show PY M A (if(["enumerate","zip","dict_itemiterator","dict_reverseitemiterator","odict_iterator","itertools.zip_longest","itertools.pairwise"].contains n&&vs[0]?==My (Ur _))=Pt then _ else _) Q E s;rw[PL (by intro h;rw[hn,VM]at h;cases h)];exact Pq a))
noncomputable def Itl(K:P6)(a:PD):It:=
 ⟨λi H=>∃xs x,SqL K H a xs/\xs[i]?=My x,λi H x b=>b=H/\∀xs,SqL K H a xs->xs[i]?=My x,λi H=>∃xs,SqL K H a xs/\xs.length<=i⟩
noncomputable def Itt(K:P6)(a:PD):It:=
 ⟨λi H=>∃xs x,SqT K H a xs/\xs[i]?=My x,λi H x b=>b=H/\∀xs,SqT K H a xs->xs[i]?=My x,λi H=>∃xs,SqT K H a xs/\xs.length<=i⟩
noncomputable def Itr(lo:Int)(n:Nat):It:=⟨λi _=>i<n,λi H x a=>a=H/\x= .int (lo+i),λi _=>n<=i⟩
theorem qM{K:P6}(a it:PD):Turn P w K tg (Itl K a) [it] it (λi h=>h.IsListIter it a i) where
 mem:=by simp
 obj:=λi h st b g=>by
  have e:b=it:=by simpa using g
  subst e;obtain⟨o,e,c,d⟩:=st;exact⟨o,e,λv z=>by rw[d]at z;cases z⟩
 keep:=λi h h' st k=>st.at λo e=>k it (by simp) o e
 item:=by
  intro X n q r L i f s N H E I l st t;subst n q r;obtain⟨xs,x,m,y⟩:=t;obtain⟨its,A,p,O⟩:=I.list m;obtain⟨u,Q,R⟩:=A.get y;obtain⟨B,f1,f2,C,F,J⟩:=l it (by simp);refine wpAny_pyNext_list_item st p.isList (x:=u) (by simpa using Q) λh' j T=>?_;have U:Inv X f N H {s with heap:=h'}:=I.turned (t':=s.toks) (λb o g e=>(T.2 b g).trans e) B f1 C F J;obtain⟨o,e,c,d⟩:=id j;exact⟨u,rfl,sM (s:={s with heap:=h'}) e c d (by decide) ⟨x,H,U,R,⟨rfl,λys W=>by rw[I.list_inj W m];exact y⟩,j,λb g=>(l b g).1⟩⟩
 done:=by
  intro X n q r L i f s N H E I l st t;subst n q r;obtain⟨xs,m,y⟩:=t;obtain⟨its,A,p,O⟩:=I.list m;obtain⟨B,f1,f2,C,F,J⟩:=l it (by simp);have Z:=A.length;exact wpAny_pyNext_list_end (I.ok.hd L) st p.isList (by simp;omega) λh' Y=>⟨rfl,I.turned (t':=s.toks) (λb o g e=>Y b o g e) B f1 C F J⟩
 self:=λ_ _ _ _ _ st h=>wpAny_pyIter_listiter st h
theorem wP{K:P6}(a it:PD):Turn P w K tg (Itt K a) [it] it (λi h=>h.IsTupleIter it a i) where
 mem:=by simp
 obj:=λi h st b g=>by
  have e:b=it:=by simpa using g
  subst e;obtain⟨o,e,c,d⟩:=st;exact⟨o,e,λv z=>by rw[d]at z;cases z⟩
 keep:=λi h h' st k=>st.at λo e=>k it (by simp) o e
 item:=by
  intro X n q r L i f s N H E I l st t;subst n q r;obtain⟨xs,x,m,y⟩:=t;obtain⟨its,A,p,O⟩:=I.tuple m;obtain⟨u,Q,R⟩:=A.get y;obtain⟨B,f1,f2,C,F,J⟩:=l it (by simp);refine wpAny_pyNext_tuple_item st (show s.heap.IsTuple a its.toArray from p) (x:=u) (by simpa using Q) λh' j T=>?_;have U:Inv X f N H {s with heap:=h'}:=I.turned (t':=s.toks) (λb o g e=>(T.2 b g).trans e) B f1 C F J;obtain⟨o,e,c,d⟩:=id j;exact⟨u,rfl,sM (s:={s with heap:=h'}) e c d (by decide) ⟨x,H,U,R,⟨rfl,λys W=>by rw[I.tuple_inj W m];exact y⟩,j,λb g=>(l b g).1⟩⟩
 done:=by
  intro X n q r L i f s N H E I l st t;subst n q r;obtain⟨xs,m,y⟩:=t;obtain⟨its,A,p,O⟩:=I.tuple m;obtain⟨B,f1,f2,C,F,J⟩:=l it (by simp);have Z:=A.length;exact wpAny_pyNext_tuple_end (I.ok.hd L) st (show s.heap.IsTuple a its.toArray from p) (by simp;omega) λh' Y=>⟨rfl,I.turned (t':=s.toks) (λb o g e=>Y b o g e) B f1 C F J⟩
 self:=λ_ _ _ _ _ st h=>wpAny_pyIter_tupleiter st h
theorem wQ{K:P6}(it:PD)(lo:Int)(n:Nat):Turn P w K tg (Itr lo n) [it] it (λi h=>Xx h it (lo+(i:Nat)*1) ((n:Int)-(i:Nat)) 1) where
 mem:=by simp
 obj:=λi h st b c=>by
  have e:b=it:=by simpa using c
  subst e;exact⟨_,st,λv z=>by
   have C:Data.fields _=Data.cell v:=z;cases C⟩
 keep:=λi h h' st k=>k it (by simp) _ st
 item:=by
  intro X g j l m i a s A H E I f st p;subst g j l;obtain⟨q,f1,f2,r,u,y⟩:=f it (by simp);have W:=Walks.range (prog:=X.prog) (w:=X.w) (I.ok.hd m) it lo 1 n;refine W.item i s _ _ p st λv h' B F d J=>?_;obtain⟨t,rfl⟩:=F;have L:Inv X a A H {s with heap:=h',toks:=B}:=I.turned (λb o c e=>J b o (by simpa using c) e) q f1 r u y;refine⟨_,rfl,sM (s:={s with heap:=h',toks:=B}) (n:="range_iterator") d rfl rfl (by decide) ⟨.int (lo+i),H,L,⟨t,?_⟩,⟨rfl,rfl⟩,d,λb c=>(f b c).1⟩⟩;rw[Int.mul_one]
 done:=by
  intro X g j l m i a s A H E I f st p;subst g j l;obtain⟨q,f1,f2,r,u,y⟩:=f it (by simp);exact Zm (I.ok.hd m) st (by have:n<=i:=p;omega) λh' N=>⟨rfl,I.turned (t':=s.toks) (λb o c e=>N b o c e) q f1 r u y⟩
 self:=λ_ _ _ _ _ st h=>VZ st h
section
variable{X:Cx}{tg:Expr}
def O7(K:P6)(c:TE):TI:=λd H R=>c d H λx b=>∃a,x= .ref a/\(∃xs,SqL K b a xs)/\R (Itl K a) b
theorem Ki(g:PE X l tl):PI X tg l (O7 X.K tl):=by
 intro c s i H R I h;refine thn (g c s i H _ I h) λv d ⟨x,j,f,r1,q1⟩=>?_;obtain⟨a,e,⟨xs,k⟩,q⟩:=q1;subst e;cases r1;obtain⟨its,n,p,r⟩:=f.list k;refine Vv p.isList ?_;refine⟨d.heap.objs.size,[d.heap.objs.size],_,_,j,rfl,f.kept (t':=d.toks) λb o e=>Pr _ e,qM a _,⟨_,P4 _ rfl,rfl,rfl⟩,λb m=>?_,q⟩;have e:b=d.heap.objs.size:=by simpa using m
 subst e;exact f.fpOk (PN _) (f.hok.fresh (PN _))
theorem t8{s:PM}{E:PH->PM->Prop}{lo a:Int}(I:Inv X pins σ H s)(d:-(2^62)<=lo)(f:lo<2^62)(g:-(2^62)<=a)(h:a<2^62)
  (q:R (Itr lo (a-lo).toNat) H):PY (Qk X.prog X.w) X.A (Wh (.ref s.heap.objs.size)) (PIE X pins σ tg R) E {s with heap:=s.heap.push {cls:= .type "range",data:= .fields #[.int lo t,.int a u,.int 1 v]},toks:=tk}:=by
 refine wpAny_pyIter_range (IsRange.new ..) (small_one d f g h) ?_;have c:Inv X pins σ H {s with heap:=s.heap.push {cls:= .type "range",data:= .fields #[.int lo t,.int a u,.int 1 v]},toks:=tk}:=I.kept λb o e=>Pr _ e;refine⟨(s.heap.push {cls:= .type "range",data:= .fields #[.int lo t,.int a u,.int 1 v]}).objs.size,[(s.heap.push {cls:= .type "range",data:= .fields #[.int lo t,.int a u,.int 1 v]}).objs.size],_,_,H,rfl,
  c.kept (t':=tk) λb o e=>Pr _ e,wQ _ lo (a-lo).toNat,?_,λb i=>?_,q⟩
 ·have j:lo+((0:Nat):Int)*1=lo:=by simp
  have k:(((a-lo).toNat:Nat):Int)-((0:Nat):Int)=Wq lo a 1:=by rw[rangeSize_one];split<;>omega
  show Xx _ _ (lo+((0:Nat):Int)*1) ((((a-lo).toNat:Nat):Int)-((0:Nat):Int)) 1;rw[j,k];exact P4 _ rfl
 ·have e:b=(s.heap.push {cls:= .type "range",data:= .fields #[.int lo t,.int a u,.int 1 v]}).objs.size:=by simpa using i
  subst e;exact c.fpOk (PN _) (c.hok.fresh (PN _))
def O5(a:TA):TI:=λb H R=>a b H λvs c=>∃j:Int,vs=[.int j]/\-(2^62)<=j/\j<2^62/\R (Itr 0 j.toNat) c
def O4(a:TA):TI:=λb H R=>a b H λvs c=>∃i j:Int,vs=[.int i,.int j]/\(-(2^62)<=i/\i<2^62/\-(2^62)<=j/\j<2^62)/\R (Itr i (j-i).toNat) c
theorem zi(c:Gl X "range")(hm:X.mg "range"=Po)(ha:PA X [a] ta)(hs:PX [a] X.env=[(Pz,QW a X.env)]:=by rfl):PI X tg (.Call (.Name "range" p) [a] [] pos) (O5 ta):=by
 intro b s d H R I h;refine Call_ (f8 I c hm boot_range (Rr (thn (ha pos b s d H _ I h) λus i ⟨vs,k,f,r1,q1⟩=>?_) hs rfl));obtain⟨j,e,q1,q2,q⟩:=q1;subst e;cases r1 with
 |cons r g=>
  cases g;obtain⟨t,rfl⟩:=r;exact call_range_1 (t8 f (by omega) (by omega) q1 q2 (by simpa using q))
theorem zh(g:Gl X "range")(hm:X.mg "range"=Po)(ha:PA X [a,b] ta)(hs:PX [a,b] X.env=[(Pz,QW a X.env),(Pz,QW b X.env)]:=by rfl)(c:PX [b] X.env=[(Pz,QW b X.env)]:=by rfl):
  PI X tg (.Call (.Name "range" p) [a,b] [] pos) (O4 ta):=by
 intro d s k H R I h;refine Call_ (f8 I g hm boot_range (Rr (thn (ha pos d s k H _ I h) λus n ⟨vs,o,l,r1,q1⟩=>?_) (by rw[hs,c]) (by rw[c];rfl)));obtain⟨i,j,e,⟨q1,q2,q3,q4⟩,q⟩:=q1;subst e;cases r1 with
 |cons r f=>
  cases f with
  |cons m f=>
   cases f;obtain⟨t,rfl⟩:=r;obtain⟨t',rfl⟩:=m;exact call_range_2 (t8 l q1 q2 q3 q4 q)
def Lo(f:TI)(g:TG)(h:TS):TS:=λD a H=>f a H λJ j=>∃W:Nat->Nat->St->Hp->Prop,(∃m,W 0 m a j)/\∀i m a H,W i m a H->
 (J.stop i H/\D.nx a H)\/(J.go i H/\∃N:St->Hp->Prop,(∀b c,N b c->∃e,e<m/\W (i+1) e b c)/\∀x c,J.yld i H x c->g x a c λd k=>h {D with nx:=N,ct:=N,bk:=D.nx} d k)
noncomputable def lE(a:List PD)(h:Q0):List (PD×Qn):=a.filterMap λb=>(h.get? b).map λo=>(b,o)
theorem iu{h:Q0}(a:b∈fp)(e:h.get? b=My o):(b,o)∈lE fp h:=UP.mpr ⟨b,a,by rw[e];rfl⟩
theorem zn{h:Q0}{p:PD×Qn}(a:p∈lE fp h):p.1∈fp/\h.get? p.1=My p.2:=by
 obtain⟨b,c,e⟩:=UP.mp a;cases q:h.get? b with
 |none=>rw[q]at e;cases e
 |some o=>
  rw[q]at e;have d:(b,o)=p:=Qo e;subst d;exact⟨c,q⟩
theorem Inv.pinned{s:PM}(I:Inv X pins σ H s)(f:∀b∈fp,eW X pins H b)(g:∀b∈fp,∃o,s.heap.get? b=My o/\∀v,o.data≠ .cell v):Inv X (pins++lE fp s.heap) σ H s:=
 I.pins_of λp h=>(Rk.mp h).elim (λz=>I.pin p (QE _ z)) λz=>by
  obtain⟨a,e⟩:=zn z;obtain⟨i,f1,f2,_⟩:=f p.1 a;obtain⟨o,c,d⟩:=g p.1 a;rw[e]at c;cases c;exact⟨e,i,f1,f2,d⟩
theorem Inv.unpinned(I:Inv X (pins++pl) σ H s):Inv X pins σ H s:=I.pins_of λp a=>I.pin p (QE _ (Sz _ a))
theorem bF(F:YX (Qk X.prog X.w) X.A X.env X.xe)(hc:X.calm=Pt)(hi:PI X tg iter wi)(hg:PG X tg g)(j:PSs X body tb)
  (hs:∀x,QR iter X.env x=R6 x:=by intro _;rfl):PS X (.For tg iter body [] pos) (Lo wi g tb):=by
 intro a s σ H D I h;refine wpAny_For (thn (hi a s σ H _ I h) λv s1 h1=>thn h1 λitv s2 h2=>?_) hs;obtain⟨it,L,tn,J,H2,e,I2,T,Y,f2,W,⟨m0,w0⟩,O⟩:=h2;subst e
 --what stays Pt of the iterator's objects through the loop
 have k:∀{y:Hp},(∀b∈L,y b=Po)->∀b∈L,eW X a y b:=λhn b j=>⟨hn b j,(f2 b j).2⟩;refine codeAny_forLoop_any (λn s'=>∃i l y,Inv X a l y s'/\tn i s'.heap/\(∀b∈L,y b=Po)/\W i n l y) ?_ m0 ⟨0,σ,H2,I2,Y,λb j=>(f2 b j).1,w0⟩;rintro n s3 ⟨i,p,U,I3,P,Q,w3⟩;rcases O i n p U w3 with⟨stop,qn⟩|⟨go,N,hN,step⟩
 ·refine S9 F (thn (T.done X rfl rfl rfl hc i a s3 p U X.xe I3 (k Q) P stop) λr s4 ⟨Z,I4⟩=>?_)
  subst Z;exact V2 ⟨p,U,I4,qn⟩
 ·refine S9 F (thn (T.item X rfl rfl rfl hc i a s3 p U X.xe I3 (k Q) P go) λr s4 ⟨u,Z,h4⟩=>?_)
  subst Z;refine S9 F (thn h4 λ_ s5 ⟨x,H5,I5,r5,y5,C,fr5⟩=>?_);have I5':=I5.pinned (k fr5) (T.obj _ _ C);refine S9 F (thn (hg _ s5 p H5 x u _ I5' r5 (step x H5 y5)) λ_ s6 ⟨σ6,H6,I6,q6⟩=>?_);refine S9 F (thn (j _ s6 σ6 H6 _ I6 q6) λf s7 B=>?_);have XD:∀{c:St} {q:Hp},Inv X (a++lE L s5.heap) c q s7->N c q->∃m,m<n/\∃i l y,Inv X a l y s7/\tn i s7.heap/\(∀b∈L,y b=Po)/\W i m l y:=λ{c q} t R=>by
   obtain⟨m',hm,w7⟩:=hN c q R;refine⟨m',hm,i+1,c,q,t.unpinned,T.keep _ _ _ C λb j o e=>(t.pin (b,o) (QE _ (QE _ (iu j e)))).1,λb j=>?_,w7⟩;obtain⟨o,e,d⟩:=T.obj _ _ C b j;exact(t.pin (b,o) (QE _ (QE _ (iu j e)))).2.1
  cases f with
  |next=>obtain⟨c,q,t,R⟩:=B;exact XD t R
  |cont=>obtain⟨c,q,t,R⟩:=B;exact XD t R
  |brk=>obtain⟨c,q,t,B⟩:=B;exact⟨c,q,t.unpinned,B⟩
  |ret v=>obtain⟨x7,c,q,t,r7,B⟩:=B;exact⟨x7,c,q,t.unpinned,r7,B⟩
end
abbrev R2:=V->V->Hp->VK->Prop
def OpR(X:Cx)(f:PH->PH->Sem PH)(r:R2):Prop:=
 ∀(a:List (PD×Qn)) (s:PM) (b:St) (H:Hp) (x y:V) (v u:PH) (Q:VK),Inv X a b H s->aK x v->aK y u->r x y H Q->
  PY (Qk X.prog X.w) X.A (f v u) (EP X a b Q) X.xe s
def UnR(X:Cx)(f:PH->Sem PH)(r:V->Hp->VK->Prop):Prop:=
 ∀(a:List (PD×Qn)) (s:PM) (b:St) (H:Hp) (x:V) (v:PH) (Q:VK),Inv X a b H s->aK x v->r x H Q->
  PY (Qk X.prog X.w) X.A (f v) (EP X a b Q) X.xe s
def db(X:Cx)(f:PH)(r:List V->Hp->VK->Prop):Prop:=
 ∀(a:List (PD×Qn)) (s:PM) (b:St) (H:Hp) (xs:List V) (us:List PH) (Q:VK),Inv X a b H s->ar xs us->r xs H Q->
  PY (Qk X.prog X.w) X.A (VD f us) (EP X a b Q) X.xe s
def TruR(X:Cx)(r:V->Hp->(Bool->Hp->Prop)->Prop):Prop:=
 ∀(a:List (PD×Qn)) (s:PM) (b:St) (H:Hp) (x:V) (v:PH) (Q:Bool->Hp->Prop),Inv X a b H s->aK x v->r x H Q->
  PY (Qk X.prog X.w) X.A (truthy v) (TP X a b Q) X.xe s
def tOp(r:R2)(b c:TE):TE:=λa H Q=>b a H λx d=>c a d λy e=>r x y e Q
def tUn(r:V->Hp->VK->Prop)(a:TE):TE:=λb H Q=>a b H λx c=>r x c Q
def rI(C:Int->Int->Prop)(g:Int->Int->V):R2:=λx y H Q=>∃i j,x= .int i/\y= .int j/\C i j/\Q (g i j) H
def rI0(g:Int->Int->V):R2:=λx y H Q=>∃i j,x= .int i/\y= .int j/\Q (g i j) H
def rU(g:Int->V):V->Hp->VK->Prop:=λx H Q=>∃i,x= .int i/\Q (g i) H
section
variable{X:Cx}{a b c:Expr}{ta tb tc:TE}{pos:Uh}
theorem ES(ha:PE X a ta)(m:PE X b tb){d:List (PD×Qn)}{s:PM}{e:St}{H:Hp}{R:V->V->Hp->Prop}(I:Inv X d e H s)
  (h:ta e H λx l=>tb e l λy g=>R x y g) {Q:PH->PM->Prop} {f:PH->PH->Sem PH}
  (n:∀v u k x y g,Inv X d e g k->aK x v->aK y u->R x y g->PY (Qk X.prog X.w) X.A (f v u) Q X.xe k):
  PY (Qk X.prog X.w) X.A (QW a X.env) (λv i=>PY (Qk X.prog X.w) X.A (QW b X.env) (λu j=>PY (Qk X.prog X.w) X.A (f v u) Q X.xe j) X.xe i) X.xe s:=by
 refine thn (ha d s e H _ I h) λv o ⟨x,l,p,r1,q1⟩=>?_;refine thn (m d o e l _ p q1) λu k ⟨y,g,q,r,q2⟩=>?_;exact n v u k x y g q r1 r q2
theorem dB(e:OpR X (Sx op) r)(ha:PE X a ta)(f:PE X b tb):PE X (.BinOp a op b pos) (tOp r ta tb):=by
 intro d s g H Q I h;exact wpAny_BinOp (ES ha f I h λv u i x y j k l m q=>e d i g j x y v u Q k l m q)
theorem OC(f:UnR X (unaryOp op) r)(ha:PE X a ta):PE X (.UnaryOp op a pos) (tUn r ta):=by
 intro d s e H Q I h;exact UnaryOp_ (thn (ha d s e H _ I h) λv g ⟨x,i,j,r1,q1⟩=>f d g e i x v Q j r1 q1)
theorem opI{f:PH->PH->Sem PH}{C:Int->Int->Prop}{g:Int->Int->Int}
  (d:∀(i j:Int) (t u:Tok) (s:PM) (Q:PH->PM->Prop) (E:PH->PM->Prop),C i j->Q (.int (g i j) s.toks) {s with toks:=s.toks+1}->PY (Qk X.prog X.w) X.A (f (.int i t) (.int j u)) Q E s):
  OpR X f (rI C λi j=> .int (g i j)):=by
 intro e s n H x y v u Q I k l h;obtain⟨i,j,rfl,rfl,m,q⟩:=h;obtain⟨t,rfl⟩:=k;obtain⟨t',rfl⟩:=l;exact d i j t t' s _ _ m ⟨.int (g i j),H,I.tok _,⟨_,rfl⟩,q⟩
theorem Mh{f:PH->PH->Sem PH}{g:Int->Int->Int}
  (d:∀(i j:Int) (t u:Tok) (s:PM) (Q:PH->PM->Prop) (E:PH->PM->Prop),Q (.int (g i j) s.toks) {s with toks:=s.toks+1}->PY (Qk X.prog X.w) X.A (f (.int i t) (.int j u)) Q E s):
  OpR X f (rI0 λi j=> .int (g i j)):=by
 intro e s m H x y v u Q I k l h;obtain⟨i,j,rfl,rfl,q⟩:=h;obtain⟨t,rfl⟩:=k;obtain⟨t',rfl⟩:=l;exact d i j t t' s _ _ ⟨.int (g i j),H,I.tok _,⟨_,rfl⟩,q⟩
theorem xj{f:PH->PH->Sem PH}{g:Int->Int->Bool}
  (d:∀(i j:Int) (t u:Tok) (s:PM) (Q:PH->PM->Prop) (E:PH->PM->Prop),Q (.bool (g i j)) s->PY (Qk X.prog X.w) X.A (f (.int i t) (.int j u)) Q E s):
  OpR X f (rI0 λi j=> .bl (g i j)):=by
 intro e s m H x y v u Q I k l h;obtain⟨i,j,rfl,rfl,q⟩:=h;obtain⟨t,rfl⟩:=k;obtain⟨t',rfl⟩:=l;exact d i j t t' s _ _ ⟨.bl (g i j),H,I,rfl,q⟩
def CDiv(i j:Int):Prop:=0<j/\j<1073741824
def CPow(i j:Int):Prop:=0<=j/\j<=1000000/\i.natAbs<2^64
def HD(i j:Int):Prop:=(-(2^64)<i/\i<2^64)\/(-(2^64)<j/\j<2^64)
theorem HD.ok(h:HD i j):IntMulOk i j:=by
 rcases h with⟨d,e⟩|⟨d,e⟩
 ·exact .of_left (intBits_le_64 d e)
 ·exact .of_right (intBits_le_64 d e)
theorem o4:OpR X (Sx .Add) (rI0 λi j=> .int (i+j)):=Mh λ_ _ _ _ _ _ _ q=>add_int q
theorem gK:OpR X (Sx .Sub) (rI0 λi j=> .int (i-j)):=Mh λ_ _ _ _ _ _ _ q=>sub_int q
theorem Md:OpR X (Sx .Mult) (rI HD λi j=> .int (i*j)):=opI λ_ _ _ _ _ _ _ d q=>mul_int q d.ok
theorem v4:OpR X (Sx .FloorDiv) (rI CDiv λi j=> .int (i/j)):=opI λi j _ _ _ _ _ d q=>by
 have e:(0:Int)<j:=d.1;have f:j<1073741824:=d.2;exact floordiv_int (by omega) (by rw[UU i (by omega)];exact q) (.inl (PyProof.noPylong_small (by omega)))
theorem jY:OpR X (Sx .Mod) (rI (λ_ j=>0<j) λi j=> .int (i % j)):=opI λi j _ _ _ _ _ d q=>by
 have e:(0:Int)<j:=d;exact mod_int' (by omega) (by rw[Int.fmod_eq_emod_of_nonneg i (by omega)];exact q)
theorem Mb:OpR X (Sx .Pow) (rI CPow λi j=> .int (i^j.toNat)):=opI λ_ _ _ _ _ _ _ d q=>pow_int_small d.1 d.2.1 d.2.2 q
theorem unI{f:PH->Sem PH}{g:Int->Int}
  (d:∀(i:Int) (t:Tok) (s:PM) (Q:PH->PM->Prop) (E:PH->PM->Prop),Q (.int (g i) s.toks) {s with toks:=s.toks+1}->PY (Qk X.prog X.w) X.A (f (.int i t)) Q E s):
  UnR X f (rU λi=> .int (g i)):=by
 intro e s k H x v Q I j h;obtain⟨i,rfl,q⟩:=h;obtain⟨t,rfl⟩:=j;exact d i t s _ _ ⟨.int (g i),H,I.tok _,⟨_,rfl⟩,q⟩
theorem yu:UnR X (unaryOp .USub) (rU λi=> .int (-i)):=unI λ_ _ _ _ _ q=>neg_int q
end
noncomputable def CC:V->V->Bool
 | .non,.non=>Pt| .non,.int _=>Pt| .int _,.non=>Pt| .non,.bl _=>Pt| .bl _,.non=>Pt| .non,.str _=>Pt| .str _,.non=>Pt
 | .int _,.int _=>Pt| .bl _,.bl _=>Pt| .str _,.str _=>Pt
 | .int _,.str _=>Pt| .str _,.int _=>Pt| .bl _,.str _=>Pt| .str _,.bl _=>Pt
 |_,_=>Pz
noncomputable def rEq:R2:=λx y H Q=>CC x y=Pt/\Q (.bl (decide (x=y))) H
noncomputable def rNe:R2:=λx y H Q=>CC x y=Pt/\Q (.bl (!decide (x=y))) H
theorem ww:decide (V.int i=V.int j)=(i==j):=by
 rw[Vx];simp
theorem dec_bl{i j:Bool}:decide (V.bl i=V.bl j)=(i==j):=by
 rw[Vx];simp
theorem wv:decide (V.str i=V.str j)=(i==j):=by
 rw[Vx];simp
section
variable{X:Cx}{a b c:Expr}{ta tb tc:TE}{pos:Uh}
theorem fin_bl{k d:Bool}(I:Inv X pins σ H s)(q:Q (.bl k) H)(e:k=d):EP X pins σ Q (.bool d) s:=by
 subst e;exact⟨.bl k,H,I,rfl,q⟩
theorem OE:OpR X (Q8 .Eq) rEq:=by
 intro f s g H x y v u Q I e d h;obtain⟨hs,q⟩:=h;cases x with
 |non=>
  cases e;cases y with
  |non=>cases d;exact PySem.EqNone.eq_none_none (fin_bl I q (by simp))
  |bl j=>cases d;exact PySem.EqNone.eq_none_bool (fin_bl I q (by simp))
  |int j=>obtain⟨t',rfl⟩:=d;exact PySem.EqNone.eq_none_int (fin_bl I q (by simp))
  |str j=>obtain⟨t',rfl⟩:=d;exact PySem.EqNone.eq_none_str (fin_bl I q (by simp))
  |_=>exact Ql (show Pz=Pt from hs) PQ
 |bl i=>
  cases e;cases y with
  |non=>cases d;exact PySem.EqNone.eq_bool_none (fin_bl I q (by simp))
  |bl j=>cases d;exact eq_bool (fin_bl I q dec_bl)
  |str j=>obtain⟨t',rfl⟩:=d;exact PySem.EqMixed.eq_bool_str (fin_bl I q (by simp))
  |_=>exact Ql (show Pz=Pt from hs) PQ
 |int i=>
  obtain⟨t,rfl⟩:=e;cases y with
  |non=>cases d;exact PySem.EqNone.eq_int_none (fin_bl I q (by simp))
  |int j=>obtain⟨t',rfl⟩:=d;exact eq_int (fin_bl I q ww)
  |str j=>obtain⟨t',rfl⟩:=d;exact PySem.EqMixed.eq_int_str (fin_bl I q (by simp))
  |_=>exact Ql (show Pz=Pt from hs) PQ
 |str i=>
  obtain⟨t,rfl⟩:=e;cases y with
  |non=>cases d;exact PySem.EqNone.eq_str_none (fin_bl I q (by simp))
  |bl j=>cases d;exact PySem.EqMixed.eq_str_bool (fin_bl I q (by simp))
  |int j=>obtain⟨t',rfl⟩:=d;exact PySem.EqMixed.eq_str_int (fin_bl I q (by simp))
  |str j=>obtain⟨t',rfl⟩:=d;exact eq_str (fin_bl I q wv)
  |_=>exact Ql (show Pz=Pt from hs) PQ
 |_=>cases y<;>exact Ql (show Pz=Pt from hs) PQ
theorem OD:OpR X (Q8 .NotEq) rNe:=by
 intro f s g H x y v u Q I e d h;obtain⟨hs,q⟩:=h;cases x with
 |non=>
  cases e;cases y with
  |non=>cases d;exact PySem.EqNone.ne_none_none (fin_bl I q (by simp))
  |bl j=>cases d;exact PySem.EqNone.ne_none_bool (fin_bl I q (by simp))
  |int j=>obtain⟨t',rfl⟩:=d;exact PySem.EqNone.ne_none_int (fin_bl I q (by simp))
  |str j=>obtain⟨t',rfl⟩:=d;exact PySem.EqNone.ne_none_str (fin_bl I q (by simp))
  |_=>exact Ql (show Pz=Pt from hs) PQ
 |bl i=>
  cases e;cases y with
  |non=>cases d;exact PySem.EqNone.ne_bool_none (fin_bl I q (by simp))
  |bl j=>cases d;exact ne_bool (fin_bl I q (QV not dec_bl))
  |str j=>obtain⟨t',rfl⟩:=d;exact PySem.EqMixed.ne_bool_str (fin_bl I q (by simp))
  |_=>exact Ql (show Pz=Pt from hs) PQ
 |int i=>
  obtain⟨t,rfl⟩:=e;cases y with
  |non=>cases d;exact PySem.EqNone.ne_int_none (fin_bl I q (by simp))
  |int j=>obtain⟨t',rfl⟩:=d;exact ne_int (fin_bl I q (QV not ww))
  |str j=>obtain⟨t',rfl⟩:=d;exact PySem.EqMixed.ne_int_str (fin_bl I q (by simp))
  |_=>exact Ql (show Pz=Pt from hs) PQ
 |str i=>
  obtain⟨t,rfl⟩:=e;cases y with
  |non=>cases d;exact PySem.EqNone.ne_str_none (fin_bl I q (by simp))
  |bl j=>cases d;exact PySem.EqMixed.ne_str_bool (fin_bl I q (by simp))
  |int j=>obtain⟨t',rfl⟩:=d;exact PySem.EqMixed.ne_str_int (fin_bl I q (by simp))
  |str j=>obtain⟨t',rfl⟩:=d;exact ne_str (fin_bl I q (QV not wv))
  |_=>exact Ql (show Pz=Pt from hs) PQ
 |_=>cases y<;>exact Ql (show Pz=Pt from hs) PQ
theorem o3:OpR X (Q8 .Lt) (rI0 λi j=> .bl (decide (i<j))):=xj λ_ _ _ _ _ _ _ q=>lt_int q
theorem jt:OpR X (Q8 .LtE) (rI0 λi j=> .bl (decide (i<=j))):=xj λ_ _ _ _ _ _ _ q=>le_int q
theorem my:OpR X (Q8 .Gt) (rI0 λi j=> .bl (decide (j<i))):=xj λ_ _ _ _ _ _ _ q=>gt_int q
theorem IF:OpR X (Q8 .GtE) (rI0 λi j=> .bl (decide (j<=i))):=xj λ_ _ _ _ _ _ _ q=>ge_int q
theorem Me:OpR X (Q8 .Is) (λx y H Q=>y= .non/\Q (.bl (decide (x= .non))) H):=by
 intro d s g H x y v u Q I e f h;obtain⟨rfl,q⟩:=h;cases f;refine is_none_gen (fin_bl I q ?_);cases x<;>first
  |(cases e;rfl)
  |(obtain⟨t,rfl⟩:=e;rfl)
theorem OpR.or(h:OpR X f r)(h':OpR X f r'):OpR X f (λx y H Q=>r x y H Q\/r' x y H Q):=by
 intro d s e H x y v u Q I g i q;rcases q with q|q
 ·exact h d s e H x y v u Q I g i q
 ·exact h' d s e H x y v u Q I g i q
theorem uo(b:Expr)(h:op≠ .In:=by decide)(d:op≠ .NotIn:=by decide):UI op b=Pz:=by
 have e:(op==CmpOp.In)=Pz:=by cases op<;>first|rfl|exact Ql rfl h
 have f:(op==CmpOp.NotIn)=Pz:=by cases op<;>first|rfl|exact Ql rfl d
 cases b<;>simp[UI,e,f]
theorem Kq(e:OpR X (Q8 op) r)(ha:PE X a ta)(f:PE X b tb)(hm:UI op b=Pz):PE X (.Compare a [op] [b] pos) (tOp r ta tb):=by
 intro d s g H Q I h;exact wpAny_Compare1 (ES ha f I h λv u i x y j k l m q=>e d i g j x y v u Q k l m q) hm
def wS(t:TE):TT:=λd H Q=>t d H λx e=>∃k,x= .bl k/\Q k e
theorem vT(g:OpR X (Q8 op) r)(ha:PE X a ta)(i:PE X b tb)(hm:UI op b=Pz):PT X (.Compare a [op] [b] pos) (wS (tOp r ta tb)):=by
 intro d s f H Q I h;refine wpAny_isTrue_Compare1 (thn (ha d s f H _ I h) λv j ⟨x,l,m,r1,q1⟩=>thn (i d j f l _ m q1) λu n ⟨y,o,p,q,q2⟩=>
  thn (g d n f o x y v u _ p r1 q q2) λc B ⟨z,t,w,A,k,e,q3⟩=>?_) hm
 subst e;cases A;exact Rf ⟨t,w,q3⟩
def yF(r f:R2)(ta tb tc:TE):TE:=λd H Q=>ta d H λx g=>tb d g λy h=>r x y h λz e=>∃k,z= .bl k/\
 (if k=Pt then tc d e λi j=>f y i j Q else Q (.bl Pz) e)
theorem CJ(n:OpR X (Q8 op) r)(i:OpR X (Q8 op') r')(ha:PE X a ta)(o:PE X b tb)(p:PE X c tc)
  (hm:Za [op,op'] [b,c]=Pz:=by with_unfolding_all rfl):PT X (.Compare a [op,op'] [b,c] pos) (wS (yF r r' ta tb tc)):=by
 intro f s g H Q I h;refine isTrue_chain (thn (ha f s g H _ I h) λv q ⟨x,t,w,r1,q1⟩=>test_link (thn (o f q g t _ w q1) λu A ⟨y,B,C,j,q2⟩=>
  thn (n f A g B x y v u _ C r1 j q2) λd F ⟨z,l,m,J,k,e,q3⟩=>?_)) hm
 subst e;cases J;refine Rf ?_;cases k with
 |false=>
  obtain⟨k',L,q'⟩:=q3;cases L;exact ite_ff ⟨l,m,q'⟩
 |true=>
  refine ite_tt (test_last (thn (p f F g l _ m q3) λN O ⟨P,R,T,U,q4⟩=>thn (i f O g R y P u N _ T j U q4) λd' s5 ⟨z2,W,Y,Z,k2,e2,q5⟩=>?_));subst e2;cases Z;exact Rf ⟨W,Y,q5⟩
def HA(K:P6)(x:V)(H:Hp)(k:Bool):Prop:=
 match x with
 | .non=>k=Pz
 | .bl b=>k=b
 | .int i=>k=(i !=0)
 | .str y=>y.length<=P0/\k=((y.length:Int) !=0)
 | .ref p=>(∃xs,SqL K H p xs/\k=!xs.isEmpty)\/∃xs,SqT K H p xs/\k=!xs.isEmpty
 |_=>False
theorem pp(r:ar xs its):(!its.toArray.isEmpty)=!xs.isEmpty:=by
 cases r<;>simp
theorem lM:(P0:Nat)<2^63:=by rw[RZ];decide
theorem Lg:TruR X (λx H Q=>∃k,HA X.K x H k/\Q k H):=by
 intro l s n H x v Q I f h;obtain⟨k,e,q⟩:=h;have o:=lM;have hs:P0=16777216:=RZ;cases x with
 |non=>
  cases f;have d:k=Pz:=e;subst d;exact truthy_none ⟨H,I,q⟩
 |bl b=>
  cases f;have d:k=b:=e;subst d;exact Rf ⟨H,I,q⟩
 |int i=>
  obtain⟨t,rfl⟩:=f;have d:k=(i !=0):=e;subst d;exact PySem.P.truthy_int ⟨H,I,q⟩
 |str y=>
  obtain⟨t,rfl⟩:=f;obtain⟨u,d⟩:y.length<=P0/\k=((y.length:Int) !=0):=e;subst d;exact PySem.P.truthy_str (by omega) ⟨H,I.tok _,q⟩
 |ref p=>
  cases f;have d:(∃xs,SqL X.K H p xs/\k=!xs.isEmpty)\/∃xs,SqT X.K H p xs/\k=!xs.isEmpty:=e;rcases d with⟨xs,j,d⟩|⟨xs,j,d⟩
  ·subst d
   obtain⟨its,r,pl,m⟩:=I.list j;have g:=r.length;exact wpAny_truthy_list pl.isList (by simp only[Qa];omega) ⟨H,I.tok _,by rw[pp r];exact q⟩
  ·subst d
   obtain⟨its,r,pl,m⟩:=I.tuple j;have g:=r.length;exact truthy_tuple pl (by simp only[Qa];omega) ⟨H,I.tok _,by rw[pp r];exact q⟩
 |_=>exact(show False from e).elim
theorem CI(ha:PE X a ta)(i:∀d,isTrue a X.env d=(do let v ←d;Tk a.pos;TU [v] (truthy v))):
  PT X a (λf H Q=>ta f H λx g=>∃k,HA X.K x g k/\Q k g):=by
 intro e s f H Q I h;exact isTrue_plain (thn (ha e s f H _ I h) λv j ⟨x,l,m,r1,q1⟩=>Lg e j f l x v Q m r1 q1) (i _)
theorem kh(r:ar [x] us):∃u,us=[u]/\aK x u:=by
 cases r with
 |cons r1 d=>cases d;exact⟨_,rfl,r1⟩
theorem sk(r:ar [x,y] us):∃u d,us=[u,d]/\aK x u/\aK y d:=by
 cases r with
 |cons r1 e=>
  cases e with
  |cons f g=>cases g;exact⟨_,_,rfl,r1,f⟩
theorem u5:db X (.builtin "abs") (λxs H Q=>∃i,xs=[.int i]/\Q (.int (if i<0 then -i else i)) H):=by
 intro d s e H xs us Q I r h;obtain⟨i,rfl,q⟩:=h;obtain⟨u,rfl,t,rfl⟩:=kh r;exact call_abs_int λu f=>⟨.int (if i<0 then -i else i),H,I.tok _,⟨_,rfl⟩,q⟩
theorem AU(f:X.calm=Pt):db X (.builtin "max") (λxs H Q=>∃i j,xs=[.int i,.int j]/\Q (.int (if j>i then j else i)) H):=by
 intro e s g H xs us Q I r h;obtain⟨i,j,rfl,q⟩:=h;obtain⟨u,l,rfl,⟨t,rfl⟩,⟨t',rfl⟩⟩:=sk r;refine max_two_ints (I.ok.hd f) λh' m k=>⟨_,H,I.kept k,?_,q⟩;by_cases d:j>i
 ·rw[PP d,PP d];exact⟨_,rfl⟩
 ·rw[PL d,PL d];exact⟨_,rfl⟩
theorem rG(f:X.calm=Pt):db X (.builtin "min") (λxs H Q=>∃i j,xs=[.int i,.int j]/\Q (.int (if j<i then j else i)) H):=by
 intro e s g H xs us Q I r h;obtain⟨i,j,rfl,q⟩:=h;obtain⟨u,l,rfl,⟨t,rfl⟩,⟨t',rfl⟩⟩:=sk r;refine min_two_ints (I.ok.hd f) λh' m k=>⟨_,H,I.kept k,?_,q⟩;by_cases d:j<i
 ·rw[PP d,PP d];exact⟨_,rfl⟩
 ·rw[PL d,PL d];exact⟨_,rfl⟩
end
structure ObjM (h:Q0) (x dx C:PD) (mA:Qz->Option PH):Prop where
 obj:h.get? x=My (Ws C dx)
 ns:h.Ns1 dx mA
 ne:dx≠x
theorem zH{h:Q0}(n:h.Ns1 dx mA):∃c,h.get? dx=My c/\∀name,lookIn name c=My (mA name):=by
 obtain⟨o,es,ep,d,hd,f,_,hm⟩:=n;refine⟨o,d,λname=>?_⟩;have e:=hm name;unfold nsFind findBy at e;rw[←Array.find?_toList]at e;unfold lookIn;rw[hd]
 dsimp only
 split
 ·rename_i y q
  rw[q]at e;exact QV My e
 ·rename_i q
  rw[q]at e;have a:es.toList.any (·.refKey)=Pz:=by
   rw[Zf];intro y g;obtain⟨z,t,b⟩:=f y (Array.mem_toList_iff.mp g);simp[DictEntry.refKey,b]
  have i:¬es.toList.any (·.refKey)=Pt:=by rw[a];exact PQ
  rw[PL i];exact QV My e
theorem ObjM.look(I:ObjM h x dx C mA):∃a,PySem.W.InstAt h x (Ws C dx) C (My a)/\∀name,lookIn name a=My (mA name):=
 let ⟨a,ho,hl⟩:=zH I.ns
 ⟨a,⟨I.obj,rfl,rfl,ho⟩,hl⟩
section
variable{prog:Qu}{w:QH}{A:QU}{E:PH->PM->Prop}{s:PM}{K:P6}{x dx C f:PD}{mA:Qz->Option PH}{name:Qz}{v:PH}
theorem KS{a:Bool}(X:K.In s.heap)(I:ObjM s.heap x dx C mA)(c:plainGet K C name=Pt)(d:hasDictIn K C=Pt)
  (ha:R3 K (.ref C) name=My Po) (e:mA name=My v) (b:YG v=Pt) (h:Q v {s with toks:=s.toks+1}):
  PY (Qk prog w) A (getAttr (.ref x) name a) Q E s:=by
 obtain⟨i,J,g⟩:=I.look;exact PySem.W.get_value X J (plainGet_of c).1 (PySem.W.findObj_own d ha rfl (by rw[g,e])) b h
theorem EA(X:K.In s.heap)(I:ObjM s.heap x dx C mA)(a:plainGet K C name=Pt)
  (b:R3 K (.ref C) name=My (My (.ref f))) (c:isFn K (.ref f)=Pt) (d:mA name=Po) (h:Q (.ref f,[.ref x]) s):
  PY (Qk prog w) A (Vd (.ref x) name pl) Q E s:=by
 obtain⟨e,J,g⟩:=I.look;exact PySem.W.method_fn X J (plainGet_of a).1 (plainGet_of a).2 b (beq_iff_eq.mp c) (by show(lookIn name e).map (·.isSome)=My Pz;rw[g,d];rfl) h
theorem JU{ns:List Qz}(X:K.In s.heap)(I:ObjM s.heap x dx C mA)
  (hs:R3 K (.ref C) "__setattr__"=My (My (.builtin "object.__setattr__"))) (k:Yr K C=Pt) (l:takerIn K C name=My Po) (m:hasDictIn K C=Pt)
  (n:UC mA ns) (o:ns.length<=P0)
  (h:∀h',ObjM h' x dx C (λy=>if y=name then My v else mA y)->Qr dx s.heap h'->Q () {s with heap:=h',toks:=s.toks+2}):
  PY (Qk prog w) A (setAttr (.ref x) name v) Q E s:=by
 obtain⟨B,J,F⟩:=I.look;refine PySem.W.set_plain X J hs (PySem.W.osa_open (s:={s with toks:=s.toks+1}) (r:=Po) X J k l λb=>?_);obtain⟨cd,p,e⟩:=PySem.W.any_some m;have q:s.heap.get? x=My ⟨.ref C,My dx,.plain,#[]⟩:=I.obj;refine Pn (Pq (Pn (Pn (Yk q (Pn (W0 (s:={s with toks:=s.toks+1}) (looks_clsIn X p) ?_))))));rw[e];refine Pq (a:=My dx) (Pn (Pq (Pn ?_)));refine wpAny_nsSet1 (s:={s with toks:=s.toks+1}) I.ns λh' c d=>?_;obtain⟨H,t,u,g,i,j⟩:=c.count (Xq name v n);refine Pn (wpAny_lookBehind g (by rw[i];exact pastItsLine_dict (Qc j (by rw[Qd];omega))) ?_);exact Pq (h _ ⟨(d.2 _ (Ne.symm I.ne)).trans I.obj,c,I.ne⟩ d)
theorem DG(X:K.In s.heap)(hm:Y0 K C=Pt)
  (a:R3 K (.ref C) "__init__"=My (My (.ref f))) (b:PySem.W.typeIn K (.ref f)=My (.type "function"))
  (h:SU (Qk prog w) (A.under (.builtin "type.__call__" ⟨.ref C::vs,kw⟩)) (.call (.ref f) ⟨.ref (s.heap.objs.size+1)::vs,kw⟩) (PySem.W.InitBack (s.heap.objs.size+1) R)
   {s with heap:=(s.heap.push UE).push (Ws C s.heap.objs.size)}):
  SU (Qk prog w) A (.call (.ref C) ⟨vs,kw⟩) R s:=by
 obtain⟨c,g,d,t,os⟩:=s;exact PySem.W.make_core (PySem.W.makes_of X hm) (W6 X a) (λself=>YY X self b) (.inl rfl) h
end
noncomputable def dj(f:Qz)(v:V):List (Qz×V)->List (Qz×V)
 |[]=>[(f,v)]
 |(g,x)::r=>if g=f then(g,v)::r else(g,x)::dj f v r
theorem ng(f g:Qz)(v:V):∀fs:List (Qz×V),(dj f v fs).lookup g=if g=f then My v else fs.lookup g
 |[]=>by
  show Ut g [(f,v)]=_;by_cases h:g=f
  ·have a:(g==f)=Pt:=beq_iff_eq.mpr h
   simp only[Ut,a,PP h]
  ·have a:(g==f)=Pz:=beq_eq_false_iff_ne.mpr h
   simp only[Ut,a,PL h]
 |(k,x)::r=>by
  have ih:=ng f g v r;rw[show dj f v ((k,x)::r)=(if k=f then(k,v)::r else(k,x)::dj f v r)from rfl];by_cases b:k=f
  ·rw[PP b]
   by_cases h:g=k
   ·have a:(g==k)=Pt:=beq_iff_eq.mpr h
    simp only[Ut,a,PP (h.trans b)]
   ·have a:(g==k)=Pz:=beq_eq_false_iff_ne.mpr h
    simp only[Ut,a,PL (λe:g=f=>h (e.trans b.symm))]
  ·rw[PL b]
   by_cases h:g=k
   ·have a:(g==k)=Pt:=beq_iff_eq.mpr h
    simp only[Ut,a,PL (λe:g=f=>b (h.symm.trans e))]
   ·have a:(g==k)=Pz:=beq_eq_false_iff_ne.mpr h
    simp only[Ut,a];exact ih
theorem lQ(f:Qz)(v:V):∀fs:List (Qz×V),f∈(dj f v fs).map (·.1)/\∀g,g∈fs.map (·.1)->g∈(dj f v fs).map (·.1)
 |[]=>⟨by simp[dj],λg h=>by simp at h⟩
 |(k,x)::r=>by
  obtain⟨b,c⟩:=lQ f v r;rw[show dj f v ((k,x)::r)=(if k=f then(k,v)::r else(k,x)::dj f v r)from rfl];by_cases a:k=f
  ·rw[PP a]
   subst a;exact⟨by simp,λg h=>by simpa using h⟩
  ·rw[PL a]
   refine⟨?_,λg h=>?_⟩
   ·rw[P3]
    exact Ps _ b
   ·rw[P3]at h⊢
    rcases PZ.mp h with e|e
    ·exact PZ.mpr (.inl e)
    ·exact Ps _ (c g e)
theorem nh(f:Qz)(v:V):∀fs:List (Qz×V),(dj f v fs).length<=fs.length+1
 |[]=>by simp[dj]
 |(k,x)::r=>by
  have ih:=nh f v r;rw[show dj f v ((k,x)::r)=(if k=f then(k,v)::r else(k,x)::dj f v r)from rfl];by_cases a:k=f
  ·rw[PP a,Qd,Qd];omega
  ·rw[PL a,Qd,Qd];omega
theorem h9.some_of(r:h9 (My v) o):∃u,o=My u/\aK v u:=by
 cases o with
 |none=>exact(show False from r).elim
 |some u=>exact⟨u,rfl,r⟩
theorem h9.none_of(r:h9 Po o):o=Po:=by
 cases o with
 |none=>rfl
 |some u=>exact(show False from r).elim
theorem z5(r:aK v u):YG u=Pt:=by
 cases v with
 |non=>cases(show u=QZ from r);rfl
 |bl b=>cases(show u=W1 b from r);rfl
 |int i=>obtain⟨t,e⟩:=(show ∃t,u=TW i t from r);cases e;rfl
 |str x=>obtain⟨t,e⟩:=(show ∃t,u=Value.str x t from r);cases e;rfl
 |ref a=>cases(show u=P7 a from r);rfl
 |ty n=>cases(show u=TM n from r);rfl
section
variable{P:Qu}{w:QH}{H H':Hp}{h h':Q0}{a C dx:PD}{fs fs':List (Qz×V)}
theorem qt(hok:HOk P w H h)(e:H a=My (.ins C dx fs)):∃b,ObjM h a dx C b/\(∀f,h9 (fs.lookup f) (b f))/\UC b (fs.map (·.1))/\fs.length<=1000/\H dx=My (.own a):=by
 obtain⟨d,z,ne,c,b,n,r,q⟩:=(show bP P w H h a (.ins C dx fs)from hok a _ e);exact⟨b,⟨c,n,ne⟩,r,q,z,d⟩
end
structure Cls (K:P6) (C:PD):Prop where
 pg:plainGet K C S5=Pt
 hd:hasDictIn K C=Pt
 po:Yr K C=Pt
 sa:R3 K (.ref C) "__setattr__"=My (My (.builtin "object.__setattr__"))
theorem Cls.get{K:P6}(c:Cls K C)(f:Qz):plainGet K C f=Pt:=c.pg
def dM(K:P6)(C:PD)(f:Qz):Prop:=R3 K (.ref C) f=My Po
theorem dM.taker{K:P6}(n:dM K C f):takerIn K C f=My Po:=by
 unfold takerIn;rw[show R3 K (.ref C) f=My Po from n];rfl
structure Meth (K:P6) (C:PD) (m:Qz) (f:PD):Prop where
 at_:R3 K (.ref C) m=My (My (.ref f))
 fn:isFn K (.ref f)=Pt
 kp:Vl K (.ref f)=Pt
section
variable{X:Cx}{pins:List (PD×Qn)}{σ:St}{H:Hp}{s:PM}{a C dx:PD}{fs:List (Qz×V)}{f:Qz}{v:V}{A:QU}{E:PH->PM->Prop}
theorem xL{b:Bool}(I:Inv X pins σ H s)(e:H a=My (.ins C dx fs))(c:Cls X.K C)(n:dM X.K C f)(l:fs.lookup f=My v)
  (h:∀u s',Inv X pins σ H s'->aK v u->Q u s'):PY (Qk X.prog X.w) A (getAttr (.ref a) f b) Q E s:=by
 obtain⟨g,O,r,_,_,_⟩:=qt I.hok e;obtain⟨u,i,d⟩:=h9.some_of (v:=v) (o:=g f) (by rw[←l];exact r f);exact KS I.kIn O (c.get f) c.hd n i (z5 d) (h u _ (I.tok _) d)
theorem pA(I:Inv X pins σ H s)(e:H a=My (.ins C dx fs))(c:Cls X.K C)(k:Meth X.K C m g)(l:fs.lookup m=Po)
  (h:Q (.ref g,[.ref a]) s):PY (Qk X.prog X.w) A (Vd (.ref a) m pl) Q E s:=by
 obtain⟨b,O,r,_,_,_⟩:=qt I.hok e;have hn:b m=Po:=h9.none_of (by rw[←l];exact r m);exact EA I.kIn O (c.get m) k.at_ k.fn hn h
theorem w4(I:Inv X pins σ H s)(e:H a=My (.ins C dx fs))(c:Cls X.K C)(n:dM X.K C f)(F:fs.length<1000)(l:aK y u)
  (h:∀s',Inv X pins σ (upd H a (.ins C dx (dj f y fs))) s'->Q () s'):PY (Qk X.prog X.w) A (setAttr (.ref a) f u) Q E s:=by
 obtain⟨i,O,r,j,_,k⟩:=qt I.hok e;have m:(fs.map (·.1)).length<=P0:=by rw[Pp,RZ];omega
 refine JU I.kIn O c.sa c.po n.taker c.hd j m λh' d p=>h _ ?_;have hd:∃o,h'.get? dx=My o:=let ⟨o,_,_,e',_⟩:=d.ns;⟨o,e'⟩
 refine I.write (x:=a) (e:=dx) (by rw[e];exact Y5) (.inr k) (λb q t z=>(p.2 b t).trans z) hd ?_;refine⟨by rw[upd_ne O.ne];exact k,?_,O.ne,d.obj,_,d.ns,λg=>?_,λg B=>?_⟩
 ·have:=nh f y fs;omega
 ·show h9 ((dj f y fs).lookup g) (if g=f then My u else i g)
  rw[ng];by_cases q:g=f
  ·rw[PP q,PP q];exact l
  ·rw[PL q,PL q];exact r g
 ·by_cases q:g=f
  ·rw[q];exact(lQ f y fs).1
  ·refine(lQ f y fs).2 g (j g λz=>B ?_)
   show(if g=f then My u else i g)=Po;rw[PL q];exact z
theorem Inv.made(I:Inv X pins σ H s):Inv X pins σ (upd (upd H s.heap.objs.size (.own (s.heap.objs.size+1))) (s.heap.objs.size+1) (.ins C s.heap.objs.size []))
  {s with heap:=(s.heap.push UE).push (Ws C s.heap.objs.size)}:=by
 have c:(s.heap.push UE).get? s.heap.objs.size=My UE:=P4 s.heap rfl;have d:((s.heap.push UE).push (Ws C s.heap.objs.size)).get? (s.heap.objs.size+1)=My (Ws C s.heap.objs.size):=by
  have:=P4 (s.heap.push UE) (o:=Ws C s.heap.objs.size) rfl;rwa[Q9]at this
 have g:(s.heap.push UE).Ns s.heap.objs.size (λ_=>Po):=⟨UE,#[],_,c,rfl,(λe h=>Ql h (by simp)),λ_=>rfl⟩;have i:=I.laid (a:=s.heap.objs.size) (o:= .own (s.heap.objs.size+1)) (h':=s.heap.push UE) (t':=s.toks) (λb u q=>Pr _ q) (PN _) ⟨_,c⟩;refine i.laid (a:=s.heap.objs.size+1) (o:= .ins C s.heap.objs.size []) (t':=s.toks) (λb u q=>Pr _ q) (X4 (Q9 _ _)) ?_;have ne:s.heap.objs.size≠s.heap.objs.size+1:=QK (Vr _);refine⟨by rw[upd_ne ne,af],Q5 _,ne,d,λ_=>Po,(XZ g).at λo q=>Pr _ q,λ_=>Y5,λy j=>Ql rfl j⟩
theorem K8{f:Qz}{s:PM}(c:T5 e f env (QW e env)=QW e env)
  (h:PY (Qk prog w) A (QW e env) (λo b=>PY (Qk prog w) A (getAttr o f Pt) Q E b) E s):PY (Qk prog w) A (QW (.Attribute e f pos) env) Q E s:=
 Attribute_any_ h (by rw[arm_eval_Attribute,c])
end
def tFld(K:P6)(c:TE)(f:Qz):TE:=λd H Q=>c d H λx b=>∃a C dx fs v,x= .ref a/\b a=My (.ins C dx fs)/\Cls K C/\dM K C f/\fs.lookup f=My v/\Q v b
def LF(K:P6)(d e:TE)(f:Qz):TS:=λD b H=>e b H λy g=>d b g λx c=>∃a C dx fs,x= .ref a/\c a=My (.ins C dx fs)/\Cls K C/\dM K C f/\fs.length<1000/\
 D.nx b (upd c a (.ins C dx (dj f y fs)))
section
variable{X:Cx}{o e value:Expr}{f:Qz}{pos pos' tpos:Uh}{ta tv:TE}
theorem L8(d:PE X e ta)(g:T5 e f X.env (QW e X.env)=QW e X.env):PE X (.Attribute e f pos) (tFld X.K ta f):=by
 intro b s i H Q I h;refine K8 g (thn (d b s i H _ I h) λu w ⟨x,j,k,m,a,C,dx,fs,v,ex,p,c,n,l,q⟩=>?_);subst ex;obtain rfl:u=P7 a:=m;exact xL k p c n l λy A r t=>⟨v,j,r,t,q⟩
theorem oY(ha:PE X o ta)(g:PE X value tv)(hs:Ue value (My (.Attribute o f pos')) pos.line X.env=R6 Pz):PS X (.Assign [.Attribute o f pos'] value pos) (LF X.K ta tv f):=by
 intro b s d H D I h;refine Xj (thn (g b s d H _ I h) λu i ⟨y,j,k,m,q⟩=>thn (ha b i d j _ k q) λp A ⟨x,B,r,t,a,C,dx,fs,ex,v,c,n,l,q2⟩=>?_) hs;subst ex;obtain rfl:p=P7 a:=t;exact w4 r v c n l m λF w=>⟨d,_,w,q2⟩
end
section
variable{X:Cx}{pins:List (PD×Qn)}{σ:St}{H:Hp}{s:PM}{A:QU}{E:PH->PM->Prop}{Q:PH->PM->Prop}{c:PH}{b:Bool}
inductive TyOf (K:P6) (H:Hp):V->PH->Prop where
 |non:TyOf K H .non (.type "NoneType")
 |bl (x:Bool):TyOf K H (.bl x) (.type "bool")
 |int (i:Int):TyOf K H (.int i) (.type "int")
 |str (x:Qz):TyOf K H (.str x) (.type "str")
 |lst {a:PD} {xs:List V} (e:H a=My (.lst xs)):TyOf K H (.ref a) (.type "list")
 |frz {a:PD} {o:Qn} {xs:List V} (e:H a=My (.frz o (.lst xs))):TyOf K H (.ref a) (.type "list")
 |tup {a:PD} {xs:List V} (e:H a=My (.tup xs)):TyOf K H (.ref a) (.type "tuple")
 |ins {a C dx:PD} {fs:List (Qz×V)} (e:H a=My (.ins C dx fs)) (cl:Cls K C) (ha:R3 K (.ref C) "__class__"=My (My (.builtin "object.__class__")))
  (hn:specialIn K (.builtin "object.__class__") "__get__"=My (My (.builtin "getset_descriptor.__get__"))) (htk:Y1 K (.builtin "object.__class__")=My Pt)
  (hm:mroIn K C (.type "object")=My Pt):TyOf K H (.ref a) (.ref C)
end
structure Room (k:Nat) (A:QU):Prop where
 hd:A.handled=Po
 dp:A.depth+3*k+5<recursionLimit
 un:A.units+16*k+200<Vh
 gd:A.guards=My []
theorem Room.mono(r:Room k A)(h:j<=k):Room j A:=⟨r.hd,by have:=r.dp;omega,by have:=r.un;omega,r.gd⟩
theorem Room.deeper{A:QU}(r:Room (k+1) A)(env:WN):Room k (A.deeper env):=
 ⟨r.hd,by have:=r.dp;show A.depth+1+3*k+5<_;omega,by have:=r.un;show A.units+3+16*k+200<_;omega,r.gd⟩
theorem xA{A:QU}:(A.under (.builtin "type.__call__" ⟨.ref C::us,kw⟩)).depth=A.depth+1:=by
 first|rfl|simp[V9,Code.weight,Code.isCreation,Code.isGuard,Code.isCaller,Code.frames,XS,guardIds]
theorem xy{A:QU}:(A.under (.builtin "type.__call__" ⟨.ref C::us,kw⟩)).units=A.units+1:=by
 first|rfl|simp[V9,Code.cUnits,Code.frames,XS]
theorem Room.make{A:QU}(r:Room (k+1) A)(C:PD)(us:List PH)(a:List (Qz×PH)):Room k (A.under (.builtin "type.__call__" ⟨.ref C::us,a⟩)):=
 ⟨r.hd,by have:=r.dp;rw[xA];omega,by have:=r.un;rw[xy];omega,by first|exact r.gd|simp[V9,Code.guards,Code.isGuard,guardIds,pushGuards,r.gd]⟩
theorem Room.depth{A:QU}(r:Room k A):A.depth<recursionLimit:=by have:=r.dp;omega
theorem Room.units{A:QU}(r:Room k A):A.units+64<Vh:=by have:=r.un;omega
noncomputable def BU:TA:=λ_ H Q=>Q [] H
def HV(b:TE)(tr:TA):TA:=λa H Q=>b a H λx c=>tr a c λxs d=>Q (x::xs) d
section
variable{X:Cx}{e:Expr}{es:List Expr}{te:TE}{t:TA}{pos:Uh}
theorem cW:PA X [] BU:=λ_ _ _ _ H Q I h=>YQ ⟨[],H,I,.nil,h⟩
theorem aW(ha:PE X e te)(c:PA X es t)(hs:PX (e::es) X.env=(Pz,QW e X.env)::PX es X.env:=by rfl):PA X (e::es) (HV te t):=by
 intro pos a s b H Q I h;rw[hs];show PY _ _ (spliced ((Pz,QW e X.env)::RP pos (PX es X.env))) _ _ s;refine Yw (thn (ha a s b H _ I h) λu d ⟨x,f,g,r1,q1⟩=>?_);exact thn (c pos a d b f _ g q1) λus l ⟨xs,i,j,k,q2⟩=>⟨x::xs,i,j,.cons r1 k,q2⟩
def tTup(t:TA):TE:=λb H Q=>t b H λxs a=>xs.length<=P0/\∀p,a p=Po->Q (.ref p) (upd a p (.tup xs))
def Lm(t:TA):TE:=λb H Q=>t b H λxs a=>xs.length<=P0/\∀p,a p=Po->Q (.ref p) (upd a p (.lst xs))
theorem L5{x1}(h:PA X es t):PE X (.Tuple es x1 pos) (tTup t):=by
 intro a s g H Q I i;refine wpAny_Tuple_spliced (thn (h pos a s g H _ I i) λus c ⟨xs,d,f,r,z,q⟩=>⟨by rw[←r.length];exact z,?_⟩);have j:d c.heap.objs.size=Po:=f.hok.fresh (PN _);refine⟨.ref c.heap.objs.size,upd d c.heap.objs.size (.tup xs),f.laid (t':=c.toks) (λb u e=>Pr _ e) (PN _) ?_,rfl,q _ j⟩;exact⟨z,us,r,⟨_,P4 _ rfl,rfl,_,rfl⟩⟩
theorem e8(h:PA X es t):PE X (.List es pos) (Lm t):=by
 intro a s g H Q I i;refine wpAny_List_spliced (thn (h pos a s g H _ I i) λus c ⟨xs,d,f,r,z,q⟩=>⟨by rw[←r.length];exact z,?_⟩);have j:d c.heap.objs.size=Po:=f.hok.fresh (PN _);refine⟨.ref c.heap.objs.size,upd d c.heap.objs.size (.lst xs),f.laid (t':=c.toks) (λb u e=>Pr _ e) (PN _) ?_,rfl,q _ j⟩;exact⟨z,us,0,r,P4 _ rfl⟩
end
abbrev Sp:=List V->Hp->VK->XK->Prop
abbrev CXT:=List WN->Hp->PM->XK->PH->PM->Prop
structure Env0 (P:Qu) (w:QH) (K:P6) (mg:Qz->Option PH) (base:Q0) (A:QU) (outer:List WN) (s:PM) (H:Hp):Prop where
 frames:A.frames=My outer
 mod:Mod K mg base
 bs:∀b o,base.get? b=My o->s.heap.get? b=My o/\H b=Po
 bsz:base.objs.size<=s.heap.objs.size
 funs:s.heap.FunFrames base outer
 frf:∀b∈frs outer,H b=Po
 hok:HOk P w H s.heap
 bare:U1 s.gens
def CE(outer:List WN)(P:Qu)(w:QH)(H:Hp)(s:PM)(Q:VK)(u:PH)(s':PM):Prop:=
 ∃v a,s'.os=s.os/\U1 s'.gens/\Un (frs outer) [] H a s.heap s'.heap/\HOk P w a s'.heap/\aK v u/\Q v a
def CR(CX:CXT)(outer:List WN)(P:Qu)(w:QH)(H:Hp)(s:PM)(Q:VK)(E:XK)(r:Result)(s':PM):Prop:=
 match r with
 | .ok (.ret u)=>CE outer P w H s Q u s'
 | .ok _=>False
 | .error e=>CX outer H s E e s'
structure FnOk (P:Qu) (w:QH) (K:P6) (mg:Qz->Option PH) (base:Q0) (CX:CXT) (k:Nat) (f:PD) (fd:Qi) (ps:List Qz) (sp:Sp):Prop where
 len:∀vs H Q E,sp vs H Q E->vs.length=ps.length
 run:∀(A:QU) (outer:List WN) (s:PM) (H:Hp) (args:Args) (us:List PH) (vs:List V) (Q:VK) (E:XK),Room k A->Env0 P w K mg base A outer s H->Zc s fd args (ps.zip us)->ar vs us->sp vs H Q E->
  SU (Qk P w) A (.call (.ref f) args) (CR CX outer P w H s Q E) s
theorem Env0.make{K:P6}{A:QU}(e:Env0 P w K mg base A outer s H)(C:PD)(us:List PH)(a:List (Qz×PH)):
  Env0 P w K mg base (A.under (.builtin "type.__call__" ⟨.ref C::us,a⟩)) outer s H:=⟨by first|exact e.frames|(simpa[V9,Code.envs,XS,pushEnvs]using e.frames),e.mod,e.bs,e.bsz,e.funs,e.frf,e.hok,e.bare⟩
section
variable{X:Cx}{pins:List (PD×Qn)}{σ:St}{H:Hp}{s s':PM}
theorem Inv.env0(I:Inv X pins σ H s):Env0 X.prog X.w X.K X.mg X.base X.A X.stack s H:=
 ⟨I.ok.frames,I.ok.mod,I.bs,Qc I.ok.bsz I.sz,I.stack,I.stkFree,I.hok,I.bare⟩
theorem Inv.after(I:Inv X pins σ H s)(h:CE X.stack X.prog X.w H s Q u s'):EP X pins σ Q u s':=by
 obtain⟨v,c,os,bare,un,hok,r,q⟩:=h;obtain⟨e,g,d,t,a⟩:=s';obtain rfl:a=s.os:=os;exact⟨v,c,I.call (h':=e) (g':=g) (d':=d) (t':=t) (ch:=[]) un hok bare (λb z=>Ql z (by simp)),r,q⟩
end
def HW(sp:Sp)(a:List V)(E:St->XK)(t:TA):TE:=λb H Q=>t b H λvs c=>sp (vs++a) c Q (E b)
def wU(C:PD)(m:Qz)(sp:Sp)(b:List V)(E:St->XK)(e:TE)(t:TA):TE:=λc H Q=>e c H λx d=>∃a dx fs,x= .ref a/\d a=My (.ins C dx fs)/\fs.lookup m=Po/\
 t c d λvs f=>sp (x::(vs++b)) f Q (E c)
def Ot(C:PD)(sp:Sp)(a:List V)(E:St->XK)(t:TA):TE:=λc H Q=>t c H λvs b=>∀x dx,b x=Po->b dx=Po->dx≠x->
 sp (.ref x::(vs++a)) (upd (upd b dx (.own x)) x (.ins C dx [])) (λv d=>v= .non/\Q (.ref x) d) (E c)
def ax(K:P6)(a:Qi)(ps:List Qz)(ds:List PH):Prop:=
 ∀(s:PM) (us:List PH),K.In s.heap->(us++ds).length=ps.length->Zc s a ⟨us,[]⟩ (ps.zip (us++ds))
theorem ax.all{K:P6}{ps:List Qz}(h:∀us:List PH,us.length=ps.length->bindArgs fd ⟨us,[]⟩=R6 (ps.zip us)):ax K fd ps []:=λs us _ a=>by
 rw[Qx]at a⊢;exact .of_eq (h us a)
def bS(CX:CXT)(X:Cx)(E:St->XK):Prop:=∀(a:List (PD×Qn)) (b:St) (H:Hp) (s:PM) (e:PH) (s':PM),Inv X a b H s->CX X.stack H s (E b) e s'->X.xe e s'
section
variable{X:Cx}{CX:CXT}{k:Nat}{f C:PD}{fd:Qi}{ps:List Qz}{sp:Sp}{dvs:List V}{ds:List PH}{E:St->XK}{x m:Qz}{p pos apos:Uh}{e o:Expr}{es:List Expr}{ta:TE}{t:TA}
theorem oP(F:FnOk X.prog X.w X.K X.mg X.base CX k f fd ps sp)(c:Room k X.A)(d:ax X.K fd ps ds)(hd:ar dvs ds)(g:bS CX X E)
  (I:Inv X pins σ H s) (r:ar vs us) (h:sp (vs++dvs) H Q (E σ)):PY (Qk X.prog X.w) X.A (VD (.ref f) us) (EP X pins σ Q) X.xe s:=by
 have b:ar (vs++dvs) (us++ds):=r.append hd;have i:(us++ds).length=ps.length:=by rw[←b.length];exact F.len _ _ _ _ h
 refine Vm (TR (F.run X.A X.stack s H ⟨us,[]⟩ (us++ds) (vs++dvs) Q (E σ) c I.env0 (d s us I.kIn i) b h) λr s' a=>?_);cases r with
 |error e=>exact g pins σ H s e s' I a
 |ok fl=>
  cases fl with
  |ret u=>exact I.after a
  |next=>exact RQ a
  |brk=>exact RQ a
  |cont=>exact RQ a
theorem mw(F:FnOk X.prog X.w X.K X.mg X.base CX k f fd ps sp)(g:Room k X.A)(i:Gl X x)(hm:X.mg x=My (.ref f))(j:Vl X.K (.ref f)=Pt)(l:ax X.K fd ps ds)(hd:ar dvs ds)(n:bS CX X E)
  (ha:PA X (e::es) t) (b:(x==("__debug__":Qz))=Pz:=by decide) (u:PX (e::es) X.env=(Pz,QW e X.env)::PX es X.env:=by rfl) (c:(RP pos (PX es X.env)).any (·.1)=Pz:=by rfl):
  PE X (.Call (.Name x p) (e::es) [] pos) (HW sp dvs E t):=by
 intro a s v H Q I h;refine Uc (j3 I i hm ?_ b);refine WJ (h₀:=X.base) I.ok.mod.kin j (thn (ha pos a s v H _ I h) λus y ⟨vs,B,d,r,q⟩=>⟨d.kIn,?_⟩) u c;exact oP F g l hd n d r q
theorem Kl(v:PE X o ta)(c:Cls X.K C)(hm:Meth X.K C m f)(F:FnOk X.prog X.w X.K X.mg X.base CX k f fd ps sp)(y:Room k X.A)(B:ax X.K fd ps ds)(hd:ar dvs ds)(J:bS CX X E)(ha:PA X (e::es) t)
  (d:PX (e::es) X.env=(Pz,QW e X.env)::PX es X.env:=by rfl) (g:(RP pos (PX es X.env)).any (·.1)=Pz:=by rfl)
  (L:QW (.Call (.Attribute o m apos) (e::es) [] pos) X.env=(do
   let ov ←QW o X.env
   Tk apos.atName
   let (f,first) ←TU [ov] (Vd ov m pl)
   W2 pos f first (RP pos (PX (e::es) X.env)) (VJ pos (Ud [] X.env))):=by rfl):
  PE X (.Call (.Attribute o m apos) (e::es) [] pos) (wU C m sp dvs E ta t):=by
 intro b s i H Q I h;refine WD (pl:=pl) (thn (v b s i H _ I h) λu N ⟨x,O,j,P,a,dx,fs,ex,R,l,q⟩=>?_) L;subst ex;obtain rfl:u=P7 a:=P;refine pA j R c hm l ?_;refine WJ (first:=[.ref a]) (h₀:=X.base) I.ok.mod.kin hm.kp (thn (ha pos b N i O _ j q) λus T ⟨vs,U,n,r,q2⟩=>⟨n.kIn,?_⟩) d g
 exact oP (us:= .ref a::us) (vs:= .ref a::vs) F y B hd J n (.cons rfl r) q2
theorem CS(g:PE X o ta)(c:Cls X.K C)(hm:Meth X.K C m f)(F:FnOk X.prog X.w X.K X.mg X.base CX k f fd ps sp)(i:Room k X.A)(j:ax X.K fd ps ds)(hd:ar dvs ds)(n:bS CX X E)
  (r:QW (.Call (.Attribute o m apos) [] [] pos) X.env=(do
   let ov ←QW o X.env
   Tk apos.atName
   let (f,first) ←TU [ov] (Vd ov m pl)
   W2 pos f first (RP pos (PX [] X.env)) (VJ pos (Ud [] X.env))):=by rfl):
  PE X (.Call (.Attribute o m apos) [] [] pos) (wU C m sp dvs E ta BU):=by
 intro b s v H Q I h;refine WD (pl:=pl) (thn (g b s v H _ I h) λu J ⟨x,L,d,y,a,dx,fs,ex,B,l,q⟩=>?_) r;subst ex;obtain rfl:u=P7 a:=y;refine pA d B c hm l ?_;exact PySem.W.callWith_K0 (first:=[.ref a]) d.kIn hm.kp (oP (us:=[.ref a]) (vs:=[.ref a]) F i j hd n d (.cons rfl .nil) q)
structure Mk (K:P6) (C f:PD):Prop where
 makes:Y0 K C=Pt
 init:R3 K (.ref C) "__init__"=My (My (.ref f))
 fn:isFn K (.ref f)=Pt
 kp:Vl K (.ref C)=Pt
theorem CG(M:Mk X.K C f)(F:FnOk X.prog X.w X.K X.mg X.base CX k f fd ps sp)(g:Room (k+1) X.A)(i:ax X.K fd ps ds)(hd:ar dvs ds)
  (j:bS CX X E) (I:Inv X pins σ H s) (r:ar vs us)
  (h:∀x dx,H x=Po->H dx=Po->dx≠x->sp (.ref x::(vs++dvs)) (upd (upd H dx (.own x)) x (.ins C dx [])) (λv l=>v= .non/\Q (.ref x) l) (E σ)):
  PY (Qk X.prog X.w) X.A (VD (.ref C) us) (EP X pins σ Q) X.xe s:=by
 have c:=h (s.heap.objs.size+1) s.heap.objs.size (I.hok.fresh (T1 _)) (I.hok.fresh (PN _)) (QK (Vr _));have b:=Inv.made (C:=C) I;have d:ar (V.ref (s.heap.objs.size+1)::(vs++dvs)) (P7 (s.heap.objs.size+1)::(us++ds)):= .cons rfl (r.append hd);have n:(P7 (s.heap.objs.size+1)::us++ds).length=ps.length:=by
  have e:=d.length;rw[F.len _ _ _ _ c]at e;exact e.symm
 refine Vm (DG (f:=f) I.kIn M.makes M.init (beq_iff_eq.mp M.fn) (TR (F.run _ X.stack _ _ ⟨P7 (s.heap.objs.size+1)::us,[]⟩ (P7 (s.heap.objs.size+1)::(us++ds)) _ _ (E σ) (g.make C us [])
  (b.env0.make C us []) (i _ (P7 (s.heap.objs.size+1)::us) b.kIn n) d c) λr s' a=>?_))
 cases r with
 |error e=>exact j pins σ _ _ e s' b a
 |ok fl=>
  cases fl with
  |ret u=>
   obtain⟨v,q,y,B,J,q3⟩:=b.after a;subst J;exact⟨B,⟨V.ref (s.heap.objs.size+1),q,y,rfl,q3⟩⟩
  |next=>exact RQ a
  |brk=>exact RQ a
  |cont=>exact RQ a
theorem Km(M:Mk X.K C f)(F:FnOk X.prog X.w X.K X.mg X.base CX k f fd ps sp)(g:Room (k+1) X.A)(i:Gl X x)(hm:X.mg x=My (.ref C))(j:ax X.K fd ps ds)(hd:ar dvs ds)(l:bS CX X E)
  (ha:PA X (e::es) t) (b:(x==("__debug__":Qz))=Pz:=by decide) (n:PX (e::es) X.env=(Pz,QW e X.env)::PX es X.env:=by rfl) (c:(RP pos (PX es X.env)).any (·.1)=Pz:=by rfl):
  PE X (.Call (.Name x p) (e::es) [] pos) (Ot C sp dvs E t):=by
 intro a s u H Q I h;refine Uc (j3 I i hm ?_ b);refine WJ (h₀:=X.base) I.ok.mod.kin M.kp (thn (ha pos a s u H _ I h) λus v ⟨vs,y,d,r,q⟩=>⟨d.kIn,?_⟩) n c;exact CG M F g j hd l d r q
end
section
variable{X:Cx}{CX:CXT}{k:Nat}{f C:PD}{fd:Qi}{ps ks:List Qz}{sp:Sp}{E:St->XK}{x m:Qz}{p pos apos kpos:Uh}{e o:Expr}{es:List Expr}{kws:List Vt}{te ta:TE}{t tk:TA}{nm:Option Qz}
variable{g:List PH->List PH->List PH}{gV:List V->List V->List V}
end
structure FnScope (N P:List Qz) (sc:Scope):Prop where
 kind:sc.kind= .function
 co:sc.isCoroutine=Pz
 gen:sc.isGenerator=Pz
 nd:N.Nodup
 pre:N.take P.length=P
 par:∀x∈P,sc.names.lookup x=My .local\/sc.names.lookup x=My .cell
 nofree:∀y∈sc.names,y.2≠ .free
theorem rH{b:Qz->Option Tw}{x:Qz}:∀{a:List (Qz×PH)} {m:Qz->Option PH},(∀v,(x,v)∉a)->Y7 b a m x=m x
 |[],_,_=>rfl
 |(n,v)::r,m,h=>by
  unfold Y7;rw[rH λw c=>h w (Ps _ c)];split
  ·have:x≠n:=by rintro rfl;exact h v PF
   simp[this]
  ·rfl
theorem rK{b:Qz->Option Tw}{x:Qz}:∀{a:List (Qz×PH)} {m:Qz->Option PH},(∀v,(x,v)∉a)->Y6 b a m x=m x
 |[],_,_=>rfl
 |(n,v)::r,m,h=>by
  unfold Y6;rw[rK λw c=>h w (Ps _ c)];split
  ·rfl
  ·have:x≠n:=by rintro rfl;exact h v PF
   simp[this]
theorem rJ{a:Qz->Option Tw}{x:Qz}{v:PH}:∀{P:List Qz} {vs:List PH} {i:Nat} {m:Qz->Option PH},P.Nodup->P[i]?=My x->vs[i]?=My v->a x=My .local->
  Y7 a (P.zip vs) m x=My v
 |[],_,_,_,_,h,_,_=>by simp at h
 |_::_,[],_,_,_,_,h,_=>by simp at h
 |p::P,w::vs,0,m,nd,h1,h2,hk=>by
  simp at h1 h2;subst h1;subst h2;show Y7 a ((p,w)::P.zip vs) m p=_;unfold Y7;rw[rH λv b=>(QC.mp nd).1 (WT b).1,PP hk];simp
 |p::P,w::vs,i+1,m,nd,h1,h2,hk=>by
  show Y7 a ((p,w)::P.zip vs) m x=_;unfold Y7;exact rJ (i:=i) (QC.mp nd).2 (by simpa using h1) (by simpa using h2) hk
theorem rL{a:Qz->Option Tw}{x:Qz}{v:PH}:∀{P:List Qz} {vs:List PH} {i:Nat} {m:Qz->Option PH},P.Nodup->P[i]?=My x->vs[i]?=My v->a x≠My .local->
  Y6 a (P.zip vs) m x=My v
 |[],_,_,_,_,h,_,_=>by simp at h
 |_::_,[],_,_,_,_,h,_=>by simp at h
 |p::P,w::vs,0,m,nd,h1,h2,hk=>by
  simp at h1 h2;subst h1;subst h2;show Y6 a ((p,w)::P.zip vs) m p=_;unfold Y6;rw[rK λv b=>(QC.mp nd).1 (WT b).1,PL hk];simp
 |p::P,w::vs,i+1,m,nd,h1,h2,hk=>by
  show Y6 a ((p,w)::P.zip vs) m x=_;unfold Y6;exact rL (i:=i) (QC.mp nd).2 (by simpa using h1) (by simpa using h2) hk
noncomputable def fi(N:List Qz)(vs:List V):St:=vs.map My++P5 (N.length-vs.length) Po
noncomputable def c7(CX:CXT)(P:Qu)(w:QH)(K:P6)(mg:Qz->Option PH)(base:Q0)(N:List Qz)(a:Qz)(scope:Scope)(f:PD)(cd:PH)(A:QU)(outer:List WN)(s:PM)(H:Hp)(E:XK):Cx where
 prog:=P
 w:=w
 K:=K
 mg:=mg
 base:=base
 A:=A.deeper (Um a scope s.heap.objs.size f cd)
 N:=N
 s₀:=s
 H₀:=H
 env:=Um a scope s.heap.objs.size f cd
 outer:=outer
 stack:=Um a scope s.heap.objs.size f cd::outer
 ex:=[]
 calm:=Pt
 fn:=λ_=>Pt
 pn:=[]
 xe:=λe s'=>PY (Qk P w) (A.deeper (Um a scope s.heap.objs.size f cd)) (leaving (Um a scope s.heap.objs.size f cd) e) (λ_ b=>CX outer H s E e b) (λc b=>CX outer H s E c b) s'
theorem u4{a:Scope}(h:a.names.lookup x=My .cell):∃c,(RC n a.names []).lookup x=My c:=by
 have q:=Yb a.names n [] (.inl h);exact Xg.mp q
theorem zX{K:P6}{N ps:List Qz}{scope:Scope}{A:QU}{s B:PM}{E:XK}{vs:List V}
  (S:FnScope N ps scope) (hd:A.handled=Po) (g:Env0 P w K mg base A outer s H) (L:vs.length=ps.length) (r:ar vs us)
  (x:InCallC s s.heap.objs.size (Y7 (Um qual scope s.heap.objs.size f cd).kindOf (ps.zip us) λ_=>Po) (RC (s.heap.objs.size+1) scope.names []) (Y6 (Um qual scope s.heap.objs.size f cd).kindOf (ps.zip us) λ_=>Po) B):
  Inv (c7 CX P w K mg base N qual scope f cd A outer s H E) [] (fi N vs) H B:=by
 have I:ps.length<=N.length:=by have:=QV VQ S.pre;rw[Sf]at this;omega
 obtain⟨o,O,rfl,C⟩:=x.done;have j:∀b:PD,b∉(c7 CX P w K mg base N qual scope f cd A outer s H E).ex:=λb z=>Ql (show b∈([]:List PD)from z) (by simp);refine⟨⟨g.mod,S.kind,rfl,rfl,PN _,λy z c o d=>?_,λy hy=>?_,λy c _ h=>?_,λ_=>hd,Around.frames_deeper g.frames,.inr ⟨rfl,rfl⟩,λb z=>Ql z (j b),g.bs,g.bsz,λb _ _=>j b,λb z=>Ql z (j b),g.funs,g.frf⟩,
  rfl,g.bare,Un.kept C,⟨_,x.toInCall.ns,λi y v o d Q=>?_⟩,λy c h=>⟨_,x.cell y c h⟩,g.hok.fresh (PN _),λy c h=>?_,λp l=>Ql (show p∈([]:List (PD×Qn))from l) (by simp),g.hok.kept C,?_⟩
 ·exact name_of_addr x.apart (Rg o) (Rg d)
 ·have hy:scope.names.lookup y=My .cell\/scope.names.lookup y=My .free:=hy
  rcases hy with hy|hy
  ·exact u4 hy
  ·exact Ql rfl (S.nofree _ (Rg hy))
 ·exact Vz (x.above y c (Rg h))
 ·have t:i<vs.length:=by
   unfold fi at d;by_cases t:i<vs.length
   ·exact t
   ·rw[RT (by simpa using t)]at d
    rw[RO]at d;split at d<;>cases d
  have ha:vs[i]?=My v:=by
   unfold fi at d;rw[Tq (by simpa using t),Py]at d;cases e:vs[i]? with
   |none=>rw[e]at d;cases d
   |some a=>rw[e]at d;cases d;rfl
  obtain⟨u,F,J⟩:=r.get ha;have l:ps[i]?=My y:=by
   rw[←S.pre,Xy (by omega)];exact o
  have m:ps.Nodup:=by rw[←S.pre];exact S.nd.sublist (List.take_sublist _ _)
  refine⟨u,J,?_⟩;rcases S.par y (Qb l)with k|k
  ·exact .inl ⟨k,rJ m l F k⟩
  ·obtain⟨c,e⟩:=u4 (n:=s.heap.objs.size+1) k
   refine .inr ⟨.inl k,c,e,?_⟩;have q:=x.cell y c e;rw[rL m l F (by show scope.names.lookup y≠_;rw[k];decide)]at q;exact q
 ·exact g.hok.fresh (Vz (x.above y c (Rg h)))
 ·unfold fi
  show _=N.length;rw[Qf,Pp,RE];omega
theorem IV{K:P6}
  {N ps:List Qz} (L:K.lookup f=My ⟨oc,od,.func (TY name qual params body scope dV kV doc pm an cdv ct),osl⟩) (l:UB K cdv qual=Pt) (S:FnScope N ps scope)
  (len:∀vs H Q E,sp vs H Q E->vs.length=ps.length)
  (d:∀(A:QU) (outer:List WN) (s:PM) (H:Hp) (vs:List V) (Q:VK) (E:XK),Room k (A.deeper (Um qual scope s.heap.objs.size f cdv))->sp vs H Q E->
   ∃t,PSs (c7 CX P w K mg base N qual scope f cdv A outer s H E) body t/\t {nx:=λ_ c=>Q .non c,rt:=Q} (fi N vs) H):
  FnOk P w K mg base CX (k+1) f (TY name qual params body scope dV kV doc pm an cdv ct) ps sp:=by
 refine⟨len,λA outer s H args us vs Q E m h O r i=>?_⟩;have R:=len _ _ _ _ i;have C:K.In s.heap:=h.mod.kin.keeps λb o e=>(h.bs b o e).1;have p:s.heap.NoLimit:=h.mod.nolimit.keeps λb o e=>(h.bs b o e).1;have g:∀y∈ps.zip us,scope.names.lookup y.1=My .local\/(scope.names.lookup y.1=My .cell/\((RC (s.heap.objs.size+1) scope.names []).lookup y.1).isSome=Pt):=λ⟨n,v⟩ T=>by
  rcases S.par n (WT T).1 with q|q
  ·exact .inl q
  ·exact .inr ⟨q,Yb _ _ _ (.inl q)⟩
 refine codeAny_call_function m.depth (C _ _ L) rfl S.co S.gen rfl (PySem.W.codeRec_of C l) (O _ _ _ _ ?_);refine wpAny_newFunctionEnv_cells S.kind g λenv U F x=>?_;subst U;refine⟨p.keeps x.toInCall.keep,codeAny_func ?_⟩;obtain⟨t,X,Y⟩:=d A outer s H vs Q E (m.deeper _) i;have I:Inv (c7 CX P w K mg base N qual scope f cdv A outer s H E) [] (fi N vs) H F:=zX S m.hd h R r x;refine QN (X [] F (fi N vs) H _ I Y) (λfl s' hs=>?_) λe s' hs=>hs;have j:∀{a:St} {c:Hp} {v:V} {u:PH},Inv (c7 CX P w K mg base N qual scope f cdv A outer s H E) [] a c s'->aK v u->Q v c->CE outer P w H s Q u s':=
  λ{a c v u} J B q=>⟨v,c,J.os,J.bare,J.base,J.hok,B,q⟩
 cases fl with
 |ret u=>
  obtain⟨v,a,c,J,B,q⟩:=hs;exact j J B q
 |next=>
  obtain⟨a,c,J,q⟩:=hs;exact j (v:=V.non) (u:=QZ) J rfl q
 |brk=>
  obtain⟨_,_,_,q⟩:=hs;exact RQ q
 |cont=>
  obtain⟨_,_,_,q⟩:=hs;exact RQ q
section
variable{X:Cx}{x:Qz}{p pos:Uh}{e:Expr}{es:List Expr}{t:TA}{id T:String}{r:List V->Hp->VK->Prop}
def tCB(r:List V->Hp->VK->Prop)(t:TA):TE:=λa H Q=>t a H λvs b=>r vs b Q
theorem kx(f:db X (.builtin id) r)(g:Gl X x)(hm:X.mg x=Po)(i:TN x=My (.builtin id))(ha:PA X (e::es) t)(hn:x≠"__name__":=by decide)(b:(x==("__debug__":Qz))=Pz:=by decide)
  (j:PX (e::es) X.env=(Pz,QW e X.env)::PX es X.env:=by rfl) (c:(RP pos (PX es X.env)).any (·.1)=Pz:=by rfl):PE X (.Call (.Name x p) (e::es) [] pos) (tCB r t):=by
 intro a s d H Q I h;refine Uc (f8 I g hm i ?_ hn b);exact VR (thn (ha pos a s d H _ I h) λus k ⟨vs,l,m,r1,q1⟩=>f a k d l vs us Q m r1 q1) j c
theorem rc(f:db X (.type T) r)(g:Gl X x)(hm:X.mg x=Po)(i:TN x=My (.type T))(ha:PA X (e::es) t)(hn:x≠"__name__":=by decide)(b:(x==("__debug__":Qz))=Pz:=by decide)
  (j:PX (e::es) X.env=(Pz,QW e X.env)::PX es X.env:=by rfl) (c:(RP pos (PX es X.env)).any (·.1)=Pz:=by rfl):PE X (.Call (.Name x p) (e::es) [] pos) (tCB r t):=by
 intro a s d H Q I h;refine Uc (f8 I g hm i ?_ hn b);exact Rr (thn (ha pos a s d H _ I h) λus k ⟨vs,l,m,r1,q1⟩=>f a k d l vs us Q m r1 q1) j c
end
end L2
namespace HT
open PySem PyProof.Rows
section
open PySem.SeqAt
open PySem.AutoSeq1 (wpAny_loadPart')
open PySem.MeetsSeq PySem.MeetsSeq2 PySem.MeetsSeq3
end
section
variable{prog:Qu}{w:QH}{A:QU}{E:PH->PM->Prop}{s:PM}
theorem cat_tup{vs a:List PH}(u:IsTup s.heap t vs.toArray)(v:IsTup s.heap b a.toArray)(m:vs≠[])
  (y:a=[]->Q (.ref t) s) (B:a≠[]->Q (.ref s.heap.objs.size) {s with heap:=s.heap.push {cls:= .type "tuple",data:= .seq (vs++a).toArray}})
  (k:vs.length+a.length<=P0):PY (Qk prog w) A (Sx .Add (.ref t) (.ref b)) Q E s:=by
 obtain⟨⟨cls,dd,data,o⟩,i,p,n,hd⟩:=id u;obtain⟨⟨q,d,l,f⟩,c,g,r,h⟩:=id v;simp only at p hd g h;subst p hd g h;have e:vs.toArray++a.toArray=(vs++a).toArray:=by simp
 by_cases j:a=[]
 ·exact concat_meets ⟨_,i,rfl⟩ ⟨_,c,rfl⟩ Xs YK Vg U6 (UV _ _)
   (tuple_addW1 t b vs.toArray a.toArray n r dd d o f (by simpa using m) (by simp[j])) ⟨i,c,y j⟩
 ·refine concat_meets ⟨_,i,rfl⟩ ⟨_,c,rfl⟩ Xs YK Vg U6 (UV _ _)
   (tuple_addW2 t b vs.toArray a.toArray n r dd d o f (by simpa using m) (by simpa using j) (by rw[Qa,Qa];exact k)) ⟨i,c,?_⟩
  rw[e];exact B j
noncomputable def sIx(n d:Nat):Option Int->Nat
 |none=>d
 |some v=>if v<0 then(v+(n:Int)).toNat else Ve v.toNat n
theorem sIx_none(n d:Nat):sIx n d Po=d:=rfl
theorem sIx_nat(n d k:Nat):sIx n d (My (k:Int))=Ve k n:=by
 show(if(k:Int)<0 then((k:Int)+(n:Int)).toNat else Ve (k:Int).toNat n)=Ve k n;rw[PL (by omega),Rp]
end
end HT
namespace L2
open PySem PySem.Spec PyProof.Rows
abbrev TO:=St->Hp->(Option Int->Hp->Prop)->Prop
def PO(X:Cx)(e:Option Expr)(t:TO):Prop:=
 ∀(a:List (PD×Qn)) (s:PM) (b:St) (H:Hp) (Q:Option Int->Hp->Prop),Inv X a b H s->t b H Q->
  PY (Qk X.prog X.w) X.A (evalPart e X.env) (λu s'=>∃o c,Inv X a b c s'/\IsPart u o/\Q o c) X.xe s
noncomputable def JP:TO:=λ_ H Q=>Q Po H
def Oq(t:TE):TO:=λa H Q=>t a H λx b=>∃i,x= .int i/\Q (My i) b
theorem pz{ns:List Int}:∀{us:List PH},ar (ns.map V.int) us->XT us ns:=by
 induction ns with
 |nil=>intro us r;rw[T7]at r;cases r;exact .nil
 |cons n ns ih=>
  intro us r;rw[P3]at r;cases r with
  |cons r1 a=>
   obtain⟨t,e⟩:=r1;subst e;exact .cons n t (ih a)
section
variable{X:Cx}{e:Expr}{te:TE}{lo hi:Option Expr}{tl th:TO}{pos p2:Uh}
theorem vW:PO X Po JP:=by
 intro a s b H Q I h;rw[YJ];exact Pq ⟨Po,H,I,.none,h⟩
theorem vV(h:PE X e te):PO X (My e) (Oq te):=by
 intro a s b H Q I c;rw[evalPart_some];refine thn (h a s b H _ I c) λu g ⟨x,d,f,r1,q1⟩=>?_;obtain⟨i,rfl,q⟩:=q1;obtain⟨t,rfl⟩:=r1;exact⟨My i,d,f,.int i t,q⟩
def SlR(X:Cx)(r:V->Option Int->Option Int->Hp->VK->Prop):Prop:=
 ∀(a:List (PD×Qn)) (s:PM) (b:St) (H:Hp) (x:V) (v c d:PH) (lo hi:Option Int) (f:PD) (Q:VK),Inv X a b H s->aK x v->s.heap.IsSliceOf f c d .none->IsPart c lo->IsPart d hi->r x lo hi H Q->
  ∃T g,typeLookup (.type T) "__getitem__"=R6 (My (.builtin g))/\s.TypeIs v T/\PY (Qk X.prog X.w) X.A (getItem v (.ref f)) (EP X a b Q) X.xe s
def tSl(r:V->Option Int->Option Int->Hp->VK->Prop)(te:TE)(tl th:TO):TE:=λa H Q=>te a H λx b=>tl a b λl c=>th a c λu d=>r x l u d Q
theorem ug(j:SlR X r)(k:PE X e te)(m:PO X lo tl)(n:PO X hi th):PE X (.Subscript e (.Slice lo hi Po p2) pos) (tSl r te tl th):=by
 intro a s d H Q I h;refine Subscript_ (thn (k a s d H _ I h) λv o ⟨x,p,t,r1,q1⟩=>?_);refine wpAny_Slice (thn (m a o d p _ t q1) λf y ⟨l,B,C,pl,q2⟩=>thn (n a y d B _ C q2) λg c ⟨u,i,F,J,q3⟩=>?_);rw[YJ];refine Pq ?_;have L:Inv X a d i {c with heap:=c.heap.push {cls:= .type "slice",data:= .fields #[f,g,.none]}}:=F.kept (t':=c.toks) λb R q=>Pr _ q;obtain⟨T,U,N,O,P⟩:=j a {c with heap:=c.heap.push {cls:= .type "slice",data:= .fields #[f,g,.none]}} d i x v f g l u c.heap.objs.size Q L r1 (WP ..) pl J q3;show PY (Qk X.prog X.w) X.A (YL e (.Slice lo hi Po p2) v (.ref c.heap.objs.size)) (EP X a d Q) X.xe {c with heap:=c.heap.push {cls:= .type "slice",data:= .fields #[f,g,.none]}};exact tail_any (ops:=[.ref c.heap.objs.size,v]) O N P (by with_unfolding_all rfl)
noncomputable def lY(xs:List V)(lo hi:Option Int):List V:=(xs.drop (HT.sIx xs.length 0 lo)).take (HT.sIx xs.length xs.length hi-HT.sIx xs.length 0 lo)
theorem vj(xs:List V)(lo hi:Option Int):(lY xs lo hi).length<=xs.length:=by
 unfold lY;rw[Sf,WA];omega
def xf(K:P6):R2:=λx y H Q=>∃a b xs ys,x= .ref a/\y= .ref b/\SqT K H a xs/\SqT K H b ys/\xs≠[]/\xs.length+ys.length<=P0/\
 (ys=[]->Q (.ref a) H)/\(ys≠[]->∀p,H p=Po->Q (.ref p) (upd H p (.tup (xs++ys))))
theorem ar.nil_iff(r:ar xs us):us=[]↔xs=[]:=by
 cases r with
 |nil=>simp
 |cons _ _=>simp
theorem Kt:OpR X (Sx .Add) (xf X.K):=by
 intro d s n H x y v u Q I i j h;obtain⟨a,b,xs,ys,rfl,rfl,ha,k,l,f,q1,q2⟩:=h;cases i;cases j;obtain⟨its,r1,m,_⟩:=I.tuple ha;obtain⟨g,c,p2,_⟩:=I.tuple k;refine HT.cat_tup m p2 (λz=>l (r1.nil_iff.mp z)) (λz=>⟨.ref a,H,I,rfl,q1 (c.nil_iff.mp z)⟩) (λz=>?_) (by rw[←r1.length,←c.length];exact f);refine⟨.ref s.heap.objs.size,_,I.laid (t':=s.toks) (o:= .tup (xs++ys)) (λb p q=>Pr _ q) (PN _) ?_,rfl,q2 (λw=>z (c.nil_iff.mpr w)) _ (I.hok.fresh (PN _))⟩;exact⟨by rw[Qf];exact f,_,r1.append c,IsTup.new _ _⟩
end
noncomputable def ixN(n:Nat)(i:Int):Option Nat:=if 0<=i then(if i<n then My i.toNat else Po)else if -(n:Int)<=i then My (i+n).toNat else Po
def atI{α:Type}(xs:List α)(i:Int):Option α:=(ixN xs.length i).bind λj=>xs[j]?
theorem wf(h:ixN n i=My j):seqIndex? i n=My j/\j<n/\-(n:Int)<=i/\i<n:=by
 unfold ixN at h;by_cases b:0<=i
 ·rw[PP b]at h
  by_cases a:i<n
  ·rw[PP a]at h
   have e:i.toNat=j:=Qo h;exact⟨by rw[seqIndex_of b a,e],by omega,by omega,a⟩
  ·rw[PL a]at h;cases h
 ·rw[PL b]at h
  by_cases a:-(n:Int)<=i
  ·rw[PP a]at h
   have e:(i+n).toNat=j:=Qo h;exact⟨by rw[Zk (by omega) a,e],by omega,a,by omega⟩
  ·rw[PL a]at h;cases h
theorem wD{α:Type}{xs:List α}{i:Int}{v:α}(h:atI xs i=My v):∃j,seqIndex? i xs.length=My j/\xs[j]?=My v/\j<xs.length/\-(xs.length:Int)<=i/\i<xs.length:=by
 unfold atI at h;cases e:ixN xs.length i with
 |none=>rw[e]at h;cases h
 |some j=>
  rw[e]at h;obtain⟨a,b,c,d⟩:=wf e;exact⟨j,a,h,b,c,d⟩
theorem K9{α:Type}{xs:List α}{j:Nat}{v:α}(h:xs[j]?=My v):atI xs (j:Int)=My v:=by
 have a:j<xs.length:=(PU.mp h).1;have e:ixN xs.length (j:Int)=My j:=by
  unfold ixN;rw[PP (by omega),PP (by omega)];simp
 unfold atI;rw[e];exact h
def qI(b:Expr):Prop:=∀o i,subscripted b Pz o i=operate [o,i] (getItem o i)
def IxR(X:Cx)(r:R2):Prop:=
 ∀(c a:Expr) (b:List (PD×Qn)) (s:PM) (d:St) (H:Hp) (x y:V) (v u:PH) (Q:VK),Inv X b d H s->aK x v->aK y u->r x y H Q->
  subscripted a Pz v u=operate [v,u] (getItem v u)->PY (Qk X.prog X.w) X.A (YL c a v u) (EP X b d Q) X.xe s
def MtR(X:Cx)(c:String)(r:V->List V->Hp->VK->Prop):Prop:=
 ∀(a:List (PD×Qn)) (s:PM) (b:St) (H:Hp) (x:V) (xs:List V) (v:PH) (us:List PH) (Q:VK),Inv X a b H s->aK x v->ar xs us->r x xs H Q->
  PY (Qk X.prog X.w) X.A (VD (.builtin c) (v::us)) (EP X a b Q) X.xe s
section
variable{X:Cx}{a b:Expr}{ta tb:TE}{pos:Uh}
theorem IxR.or(h:IxR X r)(h':IxR X r'):IxR X (λx y H Q=>r x y H Q\/r' x y H Q):=by
 intro c d e s f H x y v u Q I g i q hs;rcases q with q|q
 ·exact h c d e s f H x y v u Q I g i q hs
 ·exact h' c d e s f H x y v u Q I g i q hs
theorem gC(d:IxR X r)(ha:PE X a ta)(e:PE X b tb)(hs:qI b):PE X (.Subscript a b pos) (tOp r ta tb):=by
 intro c s f H Q I h;exact Subscript_ (ES ha e I h λv u g x y i j k l q=>d a b c g f i x y v u Q j k l q (hs _ _))
def xb(K:P6):R2:=λx y H Q=>∃p xs i v,x= .ref p/\y= .int i/\SqL K H p xs/\atI xs i=My v/\Q v H
def CH(K:P6):R2:=λx y H Q=>∃p xs i v,x= .ref p/\y= .int i/\SqT K H p xs/\atI xs i=My v/\Q v H
theorem dQ:IxR X (xb X.K):=by
 intro f g c s m H x y v u Q I A B h hs;obtain⟨p,xs,i,z,rfl,rfl,C,F,q⟩:=h;cases A;obtain⟨t,rfl⟩:=B;obtain⟨its,r,pl,P⟩:=I.list C;obtain⟨j,e,J,R,L,N⟩:=wD F;obtain⟨w,n,k⟩:=r.get J;have O:=r.length;have hn:=lM;have d:EP X c m Q w s:=⟨z,H,I,k,q⟩;by_cases o:0<=i
 ·have l:i.toNat=j:=by
   rw[seqIndex_of o N]at e;exact Qo e
  exact item_listR pl.isList o (by omega) (by rw[l];simpa using n) d hs
 ·have l:(i+(its.toArray.size:Int)).toNat=j:=by
   rw[Zk (by omega) L]at e;rw[Qa,←O];exact Qo e
  exact VX (x:=w) pl.isList.typeIs slot_list_getitem.lookup
   (wpAny_getItem_list_neg (Q:=λr s'=>r=w/\EP X c m Q r s') pl.isList (by omega) (by rw[Qa]<;>omega) (by omega) (by rw[l];simpa using n) ⟨rfl,d⟩) hs
theorem MB:IxR X (CH X.K):=by
 intro d e c s k H x y v u Q I l m h hs;obtain⟨p,xs,i,z,rfl,rfl,n,o,q⟩:=h;cases l;obtain⟨t,rfl⟩:=m;obtain⟨its,r,pl,J⟩:=I.tuple n;obtain⟨j,A,B,L,N,O⟩:=wD o;obtain⟨w,C,f⟩:=r.get B;have F:=r.length;have hn:=lM;have g:EP X c k Q w s:=⟨z,H,I,f,q⟩;exact VX (x:=w) pl.typeIs slot_tuple_getitem.lookup
  (getItem_tuple (j:=j) (Q:=λr s'=>r=w/\EP X c k Q r s') pl (by omega) (by omega) (by rw[Qa,←F];exact A) (by simpa using C) ⟨rfl,g⟩) hs
theorem xx(its:List PH)(n j:Nat)(u:PH):RB (·.setIfInBounds j u) {cls:= .type "list",data:= .seq its.toArray n}={cls:= .type "list",data:= .seq (its.set j u).toArray n}:=by
 simp[RB]
theorem Inv.lst{s:PM}{xs:List V}(I:Inv X pins σ H s)(h:H p=My (.lst xs)):
  ∃(its:List PH) (n:Nat),ar xs its/\s.heap.get? p=My {cls:= .type "list",data:= .seq its.toArray n}/\xs.length<=P0:=by
 obtain⟨z,its,n,r,e⟩:=I.hok p _ h;exact⟨its,n,r,e,z⟩
theorem Inv.lstUpd{s:PM}{xs ys:List V}{its its':List PH}(I:Inv X pins σ H s)(h:H p=My (.lst xs))
  (d:s.heap.get? p=My {cls:= .type "list",data:= .seq its.toArray n}) (c:f {cls:= .type "list",data:= .seq its.toArray n}={cls:= .type "list",data:= .seq its'.toArray n'}) (r:ar ys its') (g:ys.length<=P0) (t:Nat):
  Inv X pins σ (upd H p (.lst ys)) {s with heap:=s.heap.update p f,toks:=t}:=by
 have e:(s.heap.update p f).get? p=My {cls:= .type "list",data:= .seq its'.toArray n'}:=by
  rw[RU f d (by rw[c]<;>rfl),c]
 refine I.write (x:=p) (e:=p) (by rw[h];trivial) (.inl rfl) (λb u i q=>(T6 _ _ (Ne.symm i)).trans q) ⟨_,e⟩ ?_;exact⟨g,its',n',r,e⟩
def IC:V->V->V->Hp->(Hp->Prop)->Prop:=λo i v H Q=>∃p xs k j,o= .ref p/\i= .int k/\H p=My (.lst xs)/\ixN xs.length k=My j/\Q (upd H p (.lst (xs.set j v)))
theorem gn:Oa X IC:=by
 intro c s B H o i v O P u Q I C F J h;obtain⟨p,xs,k,j,rfl,rfl,l,L,q⟩:=h;cases C;obtain⟨t,rfl⟩:=F;obtain⟨its,n,r,e,N⟩:=I.lst l;obtain⟨d,R,m,w⟩:=wf L;have f:=r.length;have hn:=lM;have y:Inv X c B (upd H p (.lst (xs.set j v))) {s with heap:=s.heap.update p (RB (·.setIfInBounds j u))}:=
  I.lstUpd l e (xx its n j u) (r.set J j) (by rw[QB];exact N) s.toks
 by_cases A:0<=k
 ·have g:k.toNat=j:=by
   rw[seqIndex_of A w]at d;exact Qo d
  exact PySem.W.ki_setAt e A (by omega) (by rw[Qa,←f];exact w) (by rw[g];exact⟨_,y,q⟩)
 ·have g:(k+(its.toArray.size:Int)).toNat=j:=by
   rw[Zk (by omega) m]at d;rw[Qa,←f];exact Qo d
  exact PySem.W.ki_setBack e (by omega) (by rw[Qa,←f];exact m) (by omega) (by rw[g];exact⟨_,y,q⟩)
theorem tJ(lo c:Option Int)(n:Nat):(Tx lo c Po n).1=((HT.sIx n 0 lo:Nat):Int)/\(Tx lo c Po n).2.1=((HT.sIx n n c:Nat):Int)/\(Tx lo c Po n).2.2=1:=by
 refine⟨?_,?_,rfl⟩
 ·cases lo with
  |none=>simp[Tx,HT.sIx]
  |some i=>
   simp only[Tx,HT.sIx,YV,show(1:Int)>0 by decide,QY];by_cases h:i<0
   ·simp only[h,QY]<;>omega
   ·simp only[h,Q1]<;>omega
 ·cases c with
  |none=>simp[Tx,HT.sIx]
  |some i=>
   simp only[Tx,HT.sIx,YV,show(1:Int)>0 by decide,QY];by_cases h:i<0
   ·simp only[h,QY]<;>omega
   ·simp only[h,Q1]<;>omega
theorem rO(its:List PH)(lo c:Option Int):Zb its.toArray lo c Po=((its.drop (HT.sIx its.length 0 lo)).take (HT.sIx its.length its.length c-HT.sIx its.length 0 lo)).toArray:=by
 obtain⟨d,e,f⟩:=tJ lo c its.toArray.size;unfold Zb;rw[d,e,f];simp only[sliceRange_one,pick_run,Qa]<;>rfl
def rSlL(K:P6):V->Option Int->Option Int->Hp->VK->Prop:=λx lo c H Q=>∃a xs,x= .ref a/\SqL K H a xs/\∀p,H p=Po->Q (.ref p) (upd H p (.lst (lY xs lo c)))
theorem vI:SlR X (rSlL X.K):=by
 intro e s l H x v m n lo d p Q I g hs pl i h;obtain⟨a,xs,rfl,j,q⟩:=h;cases g;obtain⟨its,r,f,k⟩:=I.list j;have c:=r.length;refine⟨"list",_,slot_list_getitem.lookup,f.isList.typeIs,?_⟩;refine YM f.isList hs pl i .none (by simp) ?_ (by rw[Qa]<;>omega)
 rw[rO,←c];refine⟨.ref s.heap.objs.size,_,I.laid (t':=s.toks) (o:= .lst (lY xs lo d)) (λb t q=>Pr _ q) (PN _) ?_,rfl,q _ (I.hok.fresh (PN _))⟩;exact⟨Qc (vj xs lo d) k,_,0,(r.drop (HT.sIx xs.length 0 lo)).take (HT.sIx xs.length xs.length d-HT.sIx xs.length 0 lo),P4 _ rfl⟩
noncomputable def gD:V->Bool
 | .non=>Pt
 | .bl _=>Pt
 | .int _=>Pt
 | .str _=>Pt
 |_=>Pz
noncomputable def eqV:V->V->Bool
 | .non,.non=>Pt
 | .bl a,.bl b=>a==b
 | .bl a,.int b=>(if a then 1 else 0)==b
 | .int a,.bl b=>a==(if b then 1 else 0)
 | .int a,.int b=>a==b
 | .str a,.str b=>a==b
 |_,_=>Pz
theorem MT(d:aK y u)(c:aK x v)(f:gD y=Pt)(e:gD x=Pt):SeqAt.EqAt A s u v (eqV y x):=by
 cases y with
 |non=>
  cases d;cases x with
  |non=>cases c;exact SeqAt.EqAt.same _
  |bl b=>cases c;exact SeqAt.EqAt.none_bool b
  |int b=>obtain⟨t,rfl⟩:=c;exact SeqAt.EqAt.none_int b t
  |str b=>obtain⟨t,rfl⟩:=c;exact SeqAt.EqAt.none_str b t
  |_=>exact Ql (show Pz=Pt from e) PQ
 |bl a=>
  cases d;cases x with
  |non=>cases c;exact SeqAt.EqAt.bool_none a
  |bl b=>cases c;exact SeqAt.EqAt.bool_bool a b
  |int b=>obtain⟨t,rfl⟩:=c;exact SeqAt.EqAt.bool_int a b t
  |str b=>obtain⟨t,rfl⟩:=c;exact SeqAt.EqAt.bool_str a b t
  |_=>exact Ql (show Pz=Pt from e) PQ
 |int a=>
  obtain⟨t',rfl⟩:=d;cases x with
  |non=>cases c;exact SeqAt.EqAt.int_none a t'
  |bl b=>cases c;exact SeqAt.EqAt.int_bool a t' b
  |int b=>obtain⟨t,rfl⟩:=c;exact SeqAt.EqAt.int_int a t' b t
  |str b=>obtain⟨t,rfl⟩:=c;exact SeqAt.EqAt.int_str a t' b t
  |_=>exact Ql (show Pz=Pt from e) PQ
 |str a=>
  obtain⟨t',rfl⟩:=d;cases x with
  |non=>cases c;exact SeqAt.EqAt.str_none a t'
  |bl b=>cases c;exact SeqAt.EqAt.str_bool a t' b
  |int b=>obtain⟨t,rfl⟩:=c;exact SeqAt.EqAt.str_int a t' b t
  |str b=>obtain⟨t,rfl⟩:=c;exact SeqAt.EqAt.str_str a t' b t
  |_=>exact Ql (show Pz=Pt from e) PQ
 |_=>exact Ql (show Pz=Pt from f) PQ
def eqU(x:V)(u:PH):Bool:=match u with
 | .none=>eqV .non x
 | .bool b=>eqV (.bl b) x
 | .int i _=>eqV (.int i) x
 | .str z _=>eqV (.str z) x
 |_=>Pz
theorem AE(r:aK y u)(f:gD y=Pt):eqU x u=eqV y x:=by
 cases y with
 |non=>cases r;rfl
 |bl b=>cases r;rfl
 |int i=>obtain⟨t,rfl⟩:=r;rfl
 |str z=>obtain⟨t,rfl⟩:=r;rfl
 |_=>exact Ql (show Pz=Pt from f) PQ
theorem j9:∀{xs:List V} {us:List PH},ar xs us->xs.all gD=Pt->us.any (eqU x)=xs.any λy=>eqV y x
 |_,_,.nil,_=>rfl
 |y::xs,u::us,.cons r t,f=>by
  rw[V4,Qq]at f;rw[Va,Va,AE r f.1,j9 t f.2]
theorem i5(c:aK x v)(d:gD x=Pt):∀{xs:List V} {us:List PH},ar xs us->xs.all gD=Pt->∀u∈us,SeqAt.EqAt A s u v (eqU x u)
 |_,_,.nil,_=>λu hu=>by cases hu
 |y::xs,u::us,.cons r t,f=>λe hu=>by
  rw[V4,Qq]at f;rcases PZ.mp hu with rfl|hu
  ·rw[AE r f.1];exact MT r c f.1 d
  ·exact i5 c d t f.2 e hu
def inV(x:V)(xs:List V):Bool:=xs.any λy=>eqV y x
def rIn(K:P6)(neg:Bool):R2:=λx y H Q=>∃p xs,y= .ref p/\(SqL K H p xs\/SqT K H p xs)/\gD x=Pt/\xs.all gD=Pt/\Q (.bl (if neg then !inV x xs else inV x xs)) H
theorem zk:OpR X (Q8 .In) (rIn X.K Pz):=by
 intro d s j H x y v u Q I e g h;obtain⟨p,xs,rfl,hq,f,fs,q⟩:=h;cases g;rcases hq with hq|hq
 ·obtain⟨its,r,pl,i⟩:=I.list hq
  refine SeqAt.in_listAt (eqU x) pl.isList (λw c=>i5 e f r fs w (by simpa using c)) ⟨.bl _,H,I,rfl,?_⟩;rw[show its.toArray.any (eqU x)=its.any (eqU x) by simp,j9 r fs];exact q
 ·obtain⟨its,r,pl,i⟩:=I.tuple hq
  refine SeqAt.in_tupleAt (eqU x) pl (λw c=>i5 e f r fs w (by simpa using c)) ⟨.bl _,H,I,rfl,?_⟩;rw[show its.toArray.any (eqU x)=its.any (eqU x) by simp,j9 r fs];exact q
theorem ui:OpR X (Q8 .NotIn) (rIn X.K Pt):=by
 intro d s j H x y v u Q I e g h;obtain⟨p,xs,rfl,hq,f,fs,q⟩:=h;cases g;rcases hq with hq|hq
 ·obtain⟨its,r,pl,i⟩:=I.list hq
  refine SeqAt.notIn_listAt (eqU x) pl.isList (λw c=>i5 e f r fs w (by simpa using c)) ⟨.bl _,H,I,rfl,?_⟩;rw[show its.toArray.any (eqU x)=its.any (eqU x) by simp,j9 r fs];exact q
 ·obtain⟨its,r,pl,i⟩:=I.tuple hq
  refine SeqAt.notIn_tupleAt (eqU x) pl (λw c=>i5 e f r fs w (by simpa using c)) ⟨.bl _,H,I,rfl,?_⟩;rw[show its.toArray.any (eqU x)=its.any (eqU x) by simp,j9 r fs];exact q
theorem l3:db X (.builtin "len") (λxs H Q=>∃p ys,xs=[.ref p]/\(SqL X.K H p ys\/SqT X.K H p ys)/\Q (.int ys.length) H):=by
 intro e s i H xs us Q I r h;obtain⟨p,ys,rfl,hq,q⟩:=h;obtain⟨u,rfl,f⟩:=kh r;cases f;have hn:=lM;rcases hq with hq|hq
 ·obtain⟨its,d,pl,g⟩:=I.list hq
  have c:=d.length;exact Calls.call_len_list pl.isList (by simp only[Qa]<;>omega) ⟨.int ys.length,H,I.tok _,⟨s.toks+1,by rw[Qa,c]⟩,q⟩
 ·obtain⟨its,d,pl,g⟩:=I.tuple hq
  have c:=d.length;exact len_tuple pl (by simp only[Qa]<;>omega) ⟨.int ys.length,H,I.tok _,⟨s.toks+1,by rw[Qa,c]⟩,q⟩
theorem bv:db X (.type "list") (λxs H Q=>∃p ys,xs=[.ref p]/\(SqL X.K H p ys\/SqT X.K H p ys)/\∀l,H l=Po->Q (.ref l) (upd H l (.lst ys))):=by
 intro f s v H xs us Q I r h;obtain⟨p,ys,rfl,hq,q⟩:=h;obtain⟨u,rfl,y⟩:=kh r;cases y
 have g:∀(its:List PH),ar ys its->ys.length<=P0->∀(h':Q0) (c:Nat),(∀b t,s.heap.get? b=My t->h'.get? b=My t)->
   h'.get? s.heap.objs.size=My {cls:= .type "list",dict:=Po,data:= .seq its.toArray c,slots:=#[]}->EP X f v Q (.ref s.heap.objs.size) {s with heap:=h'}:=λits d i h' c kp e=>
  ⟨.ref s.heap.objs.size,_,I.laid (t':=s.toks) kp (PN _) (show bP X.prog X.w _ h' _ (.lst ys)from⟨i,its,c,d,e⟩),rfl,q _ (I.hok.fresh (PN _))⟩
 rcases hq with hq|hq
 ·obtain⟨its,d,pl,i⟩:=I.list hq
  have j:=d.length;obtain⟨o,k,m,n,hd⟩:=pl.isList;exact call_list_seq p (.inl rfl) k m hd (λh' c kp e=>g its d i h' c kp e) (by simp only[Qa]<;>omega)
 ·obtain⟨its,d,pl,i⟩:=I.tuple hq
  have j:=d.length;obtain⟨o,k,m,n,hd⟩:=pl;exact call_list_seq p (.inr rfl) k m hd (λh' c kp e=>g its d i h' c kp e) (by simp only[Qa]<;>omega)
theorem ci:db X (.type "tuple") (λxs H Q=>∃p ys,xs=[.ref p]/\((SqL X.K H p ys/\∀l,H l=Po->Q (.ref l) (upd H l (.tup ys)))\/(SqT X.K H p ys/\Q (.ref p) H))):=by
 intro c s g H xs us Q I r h;obtain⟨p,ys,rfl,h⟩:=h;obtain⟨u,rfl,m⟩:=kh r;cases m;rcases h with⟨d,q⟩|⟨d,q⟩
 ·obtain⟨its,f,pl,i⟩:=I.list d
  have j:=f.length;refine call_tuple_list pl.isList (λh' kp=>?_) (by simp only[Qa]<;>omega)
  have k:Inv X c g H {s with heap:=h'}:=I.kept (t':=s.toks) kp;have n:Inv X c g (upd H h'.objs.size (.tup ys)) {s with heap:=h'.push {cls:= .type "tuple",data:= .seq its.toArray}}:=
   k.laid (t':=s.toks) (λb o e=>Pr _ e) (PN _) (show bP X.prog X.w _ _ _ (.tup ys)from⟨i,its,f,IsTup.new _ _⟩)
  exact⟨.ref h'.objs.size,_,n,rfl,q _ (k.hok.fresh (PN _))⟩
 ·obtain⟨its,f,pl,i⟩:=I.tuple d
  exact call_tuple_same pl ⟨.ref p,H,I,rfl,q⟩
def tyV(K:P6)(T:String)(x:V)(H:Hp):Prop:=match x with
 | .str _=>T="str"
 | .int _=>T="int"
 | .ref p=>(T="list"/\∃xs,SqL K H p xs)\/(T="tuple"/\∃o,K.lookup p=My o/\o.cls= .type "tuple"/\o.dict=Po)
 |_=>False
theorem Lf{s:PM}(I:Inv X pins σ H s)(r:aK x v)(ty:tyV X.K T x H):
  s.TypeIs v T/\∀a,v= .ref a->∃d,s.heap.get? a=My d/\d.dict=Po:=by
 cases x with
 |str z=>
  obtain⟨t,rfl⟩:=r;cases(show T="str"from ty);exact⟨typeIs_str s z t,λ_ e=>nomatch e⟩
 |int i=>
  obtain⟨t,rfl⟩:=r;cases(show T="int"from ty);exact⟨typeIs_int s i t,λ_ e=>nomatch e⟩
 |ref p=>
  cases r;rcases ty with⟨rfl,xs,g⟩|⟨rfl,o,f,h,hd⟩
  ·obtain⟨its,_,pl,_⟩:=I.list g
   refine⟨pl.isList.typeIs,λa e=>?_⟩;cases e;obtain⟨o,n,e,c,hd,_⟩:=pl;exact⟨o,e,hd⟩
  ·refine⟨⟨o,I.kIn p o f,h⟩,λa e=>?_⟩
   cases e;exact⟨o,I.kIn _ o f,hd⟩
 |_=>exact RQ ty
def tBM(K:P6)(T:String)(r:V->List V->Hp->VK->Prop)(to:TE)(t:TA):TE:=λc H Q=>to c H λx d=>tyV K T x d/\t c d λxs e=>r x xs e Q
variable{o e:Expr}{es:List Expr}{to:TE}{t:TA}{name:Qz}{apos cpos:Uh}{T id:String}{r:V->List V->Hp->VK->Prop}
theorem oZ(n:PlainAttrs T)(slot:Slot T name id)(j:typeOf (.builtin id)=R6 (.type "method_descriptor"))(hm:MtR X id r)(p:PE X o to)(ha:PA X (e::es) t)
  (f:T5 o name X.env (QW o X.env)=QW o X.env:=by rfl)
  (i:((RP cpos (PX (e::es) X.env)).all (λx=>!x.1)&&(VJ cpos (Ud [] X.env)).all (λx=>x.1.isSome)
   &&decide ((e::es).length+([]:List Vt).length+(if([]:List Vt).isEmpty then 0 else 1)<30))=Pt:=by rfl)
  (g:(apos.endLine==cpos.line)=Pt:=by rfl) (hs:PX (e::es) X.env=(Pz,QW e X.env)::PX es X.env:=by rfl) (d:(RP cpos (PX es X.env)).any (·.1)=Pz:=by rfl):
  PE X (.Call (.Attribute o name apos) (e::es) [] cpos) (tBM X.K T r to t):=by
 intro c s k H Q I h;refine Zl f i g rfl (thn (p c s k H _ I h) λv q ⟨x,u,l,r1,ty,q1⟩=>?_);obtain⟨w,y⟩:=Lf l r1 ty;refine⟨T,id,n,slot,j,w,y,?_⟩;have m:=ha cpos c q k u _ l q1;rw[hs]at m⊢;refine Vq (by show(Pz||(RP cpos (PX es X.env)).any (·.1))=Pz;rw[d]<;>rfl) (XX ?_)
 exact thn m λus A ⟨vs,B,C,F,q2⟩=>hm c A k B x vs v us Q C r1 F q2
end
def MtM(X:Cx)(c:String)(r:V->List V->Hp->VK->Prop):Prop:=
 ∀(a:List (PD×Qn)) (s:PM) (b:St) (H:Hp) (x:V) (xs:List V) (v:PH) (us:List PH) (Q:VK),Inv X a b H s->aK x v->ar xs us->r x xs H Q->
  PY (Qk X.prog X.w) X.A (VD (.builtin c) (v::us)) (EP X a b Q) X.xe s
theorem ar.one:∀{x:V} {us:List PH},ar [x] us->∃u,us=[u]/\aK x u
 |_,_,.cons r .nil=>⟨_,rfl,r⟩
theorem ar.reverse{xs:List V}{us:List PH}(h:ar xs us):ar xs.reverse us.reverse:=by
 induction h with
 |nil=>exact .nil
 |cons r t ih=>rw[U5,U5];exact ar.append ih (.cons r .nil)
theorem ar.rep(h:ar xs us):∀k:Nat,ar (P5 k xs).flatten (P5 k us).flatten
 |0=> .nil
 |k+1=>by
  rw[Rj,Rj,Sy,Sy];exact ar.append h (ar.rep h k)
theorem rp(its:List PH):∀(k:Nat) (acc:List PH),
  YR (λa b=>a++b) acc.toArray (P5 k its.toArray)=(acc++(P5 k its).flatten).toArray
 |0,acc=>by simp
 |k+1,acc=>by
  have e:acc.toArray++its.toArray=(acc++its).toArray:=by simp
  have c:(acc++its)++(P5 k its).flatten=acc++(P5 (k+1) its).flatten:=by
   rw[Rj,Sy,Ra]
  rw[←c,←rp its k (acc++its),←e,Rj,List.foldl_cons]
section
variable{X:Cx}{pins:List (PD×Qn)}{σ:St}{H:Hp}{s:PM}{l b:PD}{xs ys zs:List V}
theorem Inv.lset{its its':List PH}(I:Inv X pins σ H s)(a:H l=My (.lst xs))
  (e:s.heap.get? l=My {cls:= .type "list",data:= .seq its.toArray n}) (c:f its.toArray=its'.toArray) (d:ar ys its') (g:ys.length<=P0):
  Inv X pins σ (upd H l (.lst ys)) {s with heap:=s.heap.update l (RB f),toks:=t'}:=by
 have q:=PySem.IsL.update e f;rw[c]at q;refine I.write (x:=l) (e:=l) (by rw[a];exact trivial) (.inl rfl) (λj u h i=>(T6 s.heap (RB f) (Ne.symm h)).trans i) ⟨_,q⟩ ?_;exact⟨g,its',_,d,q⟩
theorem Inv.lnew{its:List PH}(I:Inv X pins σ H s)(a:ar ys its)(c:ys.length<=P0):
  Inv X pins σ (upd H s.heap.objs.size (.lst ys)) {s with heap:=s.heap.push {cls:= .type "list",data:= .seq its.toArray},toks:=t'}:=
 I.laid (λ_ _ q=>Pr _ q) (PN _) ⟨c,its,0,a,P4 _ rfl⟩
theorem Inv.fresh(I:Inv X pins σ H s):H s.heap.objs.size=Po:=I.hok.fresh (PN _)
theorem Inv.lstM(I:Inv X pins σ H s)(a:H l=My (.lst xs)):xs.length<=P0/\∃(its:List PH) (n:Nat),ar xs its/\xs.length=its.length/\s.heap.get? l=My {cls:= .type "list",data:= .seq its.toArray n}:=by
 obtain⟨z,its,n,r,e⟩:=I.hok l _ a;exact⟨z,its,n,r,r.length,e⟩
theorem CZ(h:n<=P0):Uw n=Pz:=by
 unfold Uw;exact QD (by omega)
end
section
variable{X:Cx}
def qb:V->List V->Hp->VK->Prop:=λx vs H Q=>∃l xs y,x= .ref l/\vs=[y]/\H l=My (.lst xs)/\xs.length<P0/\Q .non (upd H l (.lst (xs++[y])))
theorem gM:MtM X "list.append" qb:=by
 intro a s g H x vs v us Q I c d h;obtain⟨l,xs,y,rfl,rfl,b,i,q⟩:=h;cases c;obtain⟨u,rfl,f⟩:=d.one;obtain⟨z,its,n,r,j,e⟩:=I.lstM b;refine X9 F.slot_list_append ⟨_,e,rfl⟩ F.entry_list_append (Zd _ _) (Y3 l its.toArray n u (by rw[Qa];omega)) ⟨e,?_⟩;refine⟨.non,_,I.lset (its':=its++[u]) b e (by simp) (r.append (.cons f .nil)) ?_,rfl,q⟩;rw[Qf,Q4];omega
noncomputable def rCat:R2:=λx y H Q=>∃l b xs a,x= .ref l/\y= .ref b/\H l=My (.lst xs)/\H b=My (.lst a)/\xs.length+a.length<=P0/\∀p,H p=Po->Q (.ref p) (upd H p (.lst (xs++a)))
theorem Mg:OpR X (Sx .Add) rCat:=by
 intro c s o H x y v u Q I d f h;obtain⟨l,b,xs,p,rfl,rfl,g,hB,t,q⟩:=h;cases d;cases f;obtain⟨z,its,n,r,w,e⟩:=I.lstM g;obtain⟨A,a,B,i,j,k⟩:=I.lstM hB;refine YF e k ?_ (by rw[Qa,Qa];omega);have m:its.toArray++a.toArray=(its++a).toArray:=by simp
 rw[m];exact⟨.ref _,_,I.lnew (t':=s.toks) (r.append i) (by rw[Qf];omega),rfl,q _ I.fresh⟩
noncomputable def rRep:R2:=λx y H Q=>∃l k xs,x= .ref l/\y= .int k/\H l=My (.lst xs)/\-(2^63)<=k/\k<2^63/\xs.length*k.toNat<=P0/\
 ∀p,H p=Po->Q (.ref p) (upd H p (.lst (P5 k.toNat xs).flatten))
theorem KG{α:Type}(xs:List α)(k:Nat):(P5 k xs).flatten.length=k*xs.length:=by
 induction k with
 |zero=>simp
 |succ k ih=>rw[Rj,Sy,Qf,ih,X6,UK]
theorem Ma:OpR X (Sx .Mult) rRep:=by
 intro o s O H x y v u Q I w A h;obtain⟨l,k,xs,rfl,rfl,B,C,J,p,q⟩:=h;cases w;obtain⟨t,rfl⟩:=A;obtain⟨z,its,n,r,L,e⟩:=I.lstM B;have c:its.toArray.size*k.toNat<=P0:=by rw[Qa,←L];exact p
 have d:¬its.toArray.size*k.toNat>(2^63-1)/8:=by
  have:(P0:Nat)<=(2^63-1)/8:=by decide
  omega
 have f:¬(!Builtin.List.listFitsIndex k)=Pt:=by
  rw[fitsIndex_both C J];exact PQ
 have b:¬Uw (its.toArray.size*k.toNat)=Pt:=by
  rw[CZ c];exact PQ
 have g:YR (λi j=>i++j) #[] (P5 (if its.toArray.isEmpty=Pt then 0 else k.toNat) its.toArray)=(P5 k.toNat its).flatten.toArray:=by
  have N:∀m:Nat,YR (λi j=>i++j) #[] (P5 m its.toArray)=(P5 m its).flatten.toArray:=λm=>by
   have:=rp its m [];rw[SZ]at this;exact this
  rw[N];cases its with
  |nil=>simp
  |cons a P=>rw[PL (by simp)]
 refine wpAny_binaryOp_repeat_ref (T:="list") (U:="int") (by decide) ⟨_,e,rfl⟩ (λs'=>typeIs_int s' k t) noFill_list_mul F.fills_int_mul F.slot_int_rmul repeat_list F.slot_int_index.lookup
  (X9 F.slot_int_rmul (typeIs_int s k t) F.entry_int_rmul (F.args_int_rmul_2 _ _) (int___rmul___int_list k t l its.toArray n)
   ⟨e,rfl,⟨_,e,rfl⟩,X9 F.slot_list_mul ⟨_,e,rfl⟩ F.entry_list_mul (F.args_list_mul_2 _ _) (AutoListH.list___mul___list_int_3 l its.toArray n k t f d b) ⟨e,?_⟩⟩)
 rw[g];exact⟨.ref _,_,I.lnew (t':=s.toks) (r.rep k.toNat) (by rw[KG,QP];exact p),rfl,q _ I.fresh⟩
end
section
variable{prog:Qu}{w:QH}{A:QU}{E:PH->PM->Prop}{s:PM}
end
section
variable{X:Cx}
end
end L2
namespace Att
open PySem PySem.W PySem.Calls PyProof.Rows
theorem pw:∀(ns:List Int) (vs:List PH),WellAll P h vs (ns.map WData.int)->XT vs ns:=by
 intro ns
 induction ns with
 |nil=>
  intro vs w;rw[T7]at w;cases w;exact .nil
 |cons n ns ih=>
  intro vs w;rw[P3]at w;cases w with
  |cons a b=>
   cases a;exact .cons _ _ (ih _ b)
theorem yT{l:OpenLaw}(hn:l.most=My n){h:Q0}
  (b:l.row.toRowW.claim.pre args=Pt) (g:WellAll P h vals args):
  ∃a vs ns,vals=[P7 a]/\args=[WData.list (ns.map WData.int)]/\h.get? a=My {cls:= .type "list",data:= .seq vs.toArray}/\XT vs ns/\ns.length<=n:=by
 have hsh:WShape.hasAll [] args [.list .int]=Pt:=(pre_splitW b).1;have i:l.pre.holds [] {args:=args}=Pt:=(pre_splitW b).2;obtain⟨d,r,rfl,j,k⟩:=hasAllW_cons hsh;obtain rfl:=hasAllW_nil k;obtain⟨xs,rfl,m⟩:=hasW_list j;obtain⟨ns,rfl⟩:=items_int m;have c:ns.length<=n:=by
  unfold OpenLaw.pre at i;have e:(WTm.not (.lt (.lit (.int (n:Int))) (.len (.arg 0)))).holds [] {args:=[.list (ns.map .int)]}=Pt:=by
   have e:=(holds_andW i).1;rw[hn]at e;exact e
  have f:=condW_of e (w_not (w_lt w_lit (w_len_list (w_arg rfl))));rw[Pp]at f;refine Nat.le_of_not_lt λq=>?_;have q':(n:Int)<((ns.length:Nat):Int):=by omega
  first
   |(rw[P9 q']at f;exact Ql f (by decide))
   |(simp at f;omega)
 cases g with
 |cons o p=>
  cases p;cases o with
  |list ho hall=>exact⟨_,_,ns,rfl,rfl,ho,pw ns _ hall,c⟩
theorem ze(l:OpenLaw)(args:List WData):l.row.toRowW.claim.post args (.bool Pt) args=Pt:=
 postW_of (r:=l.row.toRowW) (X:=(Pt==Pt))
  (show WShape.has [] (.bool Pt) .bool=Pt by first|rfl|decide|simp[WShape.has,WShape.arms,WShape.armsAll])
  (show(WTm.eq .res (.lit (.bool Pt))).value [] {args:=args,res:=My (.bool Pt),after:=args}=My (.bool (Pt==Pt))from w_eq_bool (w_res rfl) w_lit) rfl
theorem attach_call{l:OpenLaw}{d:DefRec}
  (hn:l.most=My n) (k:d.params.defaults=[])
  (VD:∀(w:QH) (s₀ b:PM) (mg mb:Qz->Option PH) (g:PD) (o:Qn) (m cd c:PH) (a:PD) (vs:List PH) (ns:List Int),
   Ground q loose [] XP w s₀ mg mb b.heap->YP w b.heap->
   b.heap.get? g=My o->o.data= .func (docDef d.name d.params d.body d.scope m cd c)->b.heap.CodeRec cd d.name->mg d.name=My (.ref g)->
   b.heap.get? a=My {cls:= .type "list",data:= .seq vs.toArray}->XT vs ns->ns.length<=n->b.gens=#[]->
   SU (Qk l.prog w) W3 (.call (.ref g) ⟨[.ref a],[]⟩) (λr s'=>r= .ok (.ret (.bool Pt))/\OldK b.heap s'.heap/\s'.os=b.os/\U1 s'.gens) b):
  WalkO q loose XP YP l.row.toRowW d [] (λf vs=>YI f vs):=by
 intro w s₀ b mg mb G Y g o m cd c B C F hd p v t H args y as h A I u J;obtain rfl:B= .none:=Dflts.none v k;obtain rfl:C= .none:=Dflts.noKw v;obtain⟨a,vs,ns,rfl,rfl,i,e,j⟩:=yT hn h u;refine enter_call (TR (VD w s₀ b mg mb g o m cd c a vs ns G Y F (fd_plain hd) p t i e j H) λr s' L=>?_);obtain⟨rfl,N,O,P⟩:=L;exact⟨.inl ⟨.bool Pt,.bool Pt,[],rfl,λ_=>rfl,.bool Pt,ze l _,λ_=>⟨Vy,λ_ hm=>(nomatch hm)⟩⟩,N,O,P⟩
section
variable{prog:Qu}{w:QH}{A:QU}{E:PH->PM->Prop}{s:PM}{K:P6}
end
end Att
namespace L2
open PySem PySem.Spec PyProof.Rows
theorem qL:∀{vs:List PH} {ns:List Int},XT vs ns->ar (ns.map V.int) vs
 |_,_,.nil=> .nil
 |_,_,.cons n t h=> .cons ⟨t,rfl⟩ (qL h)
def HC(H:Hp):Prop:=∀b,H b=Po\/∃o xs,H b=My (.frz o (.lst xs))
theorem DP{K:P6}{mg mb:Qz->Option PH}{c:PM}{vs:List PH}{ns:List Int}
  (R:K.In c.heap) (p:c.heap.Ns RY mg) (g:c.heap.Ns X8 mb) (I:∀x:Qz,x≠"__name__"->mb x=TN x) (t:c.heap.NoLimit) (hg:c.gens=#[])
  (ha:c.heap.get? a=My {cls:= .type "list",data:= .seq vs.toArray}) (T:XT vs ns) (U:ns.length<=P0) (hr:Room k W3)
  (F:∀base:Q0,K.In base->base.Ns RY mg->FnOk P w K mg base CX k fa fd [x] sp) (l:∀(s:PM) (u:PH),Zc s fd ⟨[u],[]⟩ [(x,u)])
  (J:∀H:Hp,HC H->SqL K H a (ns.map V.int)->sp [.ref a] H (λv _=>v= .bl Pt) λ_ _ _=>False)
  (L:∀H e s',CX [] H c (λ_ _ _=>False) e s'->False):
  SU (Qk P w) W3 (.call (.ref fa) ⟨[.ref a],[]⟩) (λr s'=>r= .ok (.ret (.bool Pt))/\OldK c.heap s'.heap/\s'.os=c.os/\U1 s'.gens) c:=by
 have W:=qL T;have y:=T.length
 --from an abstract heap in which nothing but the script may be tracked
 have j:∀H:Hp,HC H->SqL K H a (ns.map V.int)->HOk P w H c.heap->(∀b,H b≠Po->b=a)->(H a≠Po->K.lookup a=Po)->
   SU (Qk P w) W3 (.call (.ref fa) ⟨[.ref a],[]⟩) (λr s'=>r= .ok (.ret (.bool Pt))/\OldK c.heap s'.heap/\s'.os=c.os/\U1 s'.gens) c:=by
  intro H X hS hok Y hK;have f:∀{b:PD} {o:Qn},c.heap.get? b=My o->H b=Po->(kF c.heap H).get? b=My o:=λe n=>DY e n;have N:∀{b:PD} {o:Qn} {es:Array TK} {ep:Nat},c.heap.get? b=My o->o.data= .dict es ep->H b=Po:=λ{b o es ep} e d=>by
   cases q:H b with
   |none=>rfl
   |some u=>
    have O:b=a:=Y b (by rw[q];simp);subst O;rw[ha]at e;cases e;have d':Data.seq vs.toArray _=Data.dict es ep:=d;cases d'
  have i:∀{b:PD} {m:Qz->Option PH},c.heap.Ns b m->(kF c.heap H).Ns b m:=λ{b m} ⟨o,es,ep,e,d,r⟩=>⟨o,es,ep,f e (N e d),d,r⟩;have A:K.In (kF c.heap H):=λb o e=>f (R b o e) (by
   cases q:H b with
   |none=>rfl
   |some u=>
    have O:b=a:=Y b (by rw[q];simp);subst O;rw[hK (by rw[q];simp)]at e;cases e)
  have hM:Mod K mg (kF c.heap H):=⟨A,i p,⟨mb,i g,I⟩,let ⟨mc,h1,h2⟩:=t;⟨mc,i h1,h2⟩⟩
  have e0:Env0 P w K mg (kF c.heap H) W3 [] c H:=⟨rfl,hM,λb o e=>Kw e,X4 (z0 _ _),trivial,λb g=>Ql (show b∈([]:List PD)from g) (by simp),hok,.of_eq hg⟩;refine TR ((F _ A (i p)).run W3 [] c H ⟨[.ref a],[]⟩ [.ref a] [.ref a] _ _ hr e0 (l c (.ref a)) (.cons rfl .nil) (J H X hS)) λr s' h=>?_;cases r with
  |error e=>exact(L H e s' h).elim
  |ok fl=>
   cases fl with
   |next=>exact RQ h
   |brk=>exact RQ h
   |cont=>exact RQ h
   |ret u=>
    obtain⟨v,H',os,bare,un,B,r',q⟩:=h;have q':v= .bl Pt:=q;subst q';obtain rfl:u=W1 Pt:=r';refine⟨rfl,OldK.of_keep λb o e=>?_,os,bare⟩;cases q:H b with
    |none=>exact un.keep b o e q (by intro z;exact Ql (show b∈([]:List PD)from z) (by simp)) (by simp)
    |some u=>
     rcases X b with z|⟨ob,xs,z⟩
     ·rw[q]at z;cases z
     ·have z2:=un.frzs b ob _ z
      obtain⟨Z,_⟩:=hok b _ z;obtain⟨e2,_⟩:=B b _ z2;rw[e]at Z;cases Z;exact e2
 cases Q:K.lookup a with
 |some o=>
  --the script is one of the module's own objects
  have e:=R a o Q;rw[ha]at e;cases e;refine j (λ_=>Po) (λ_=> .inl rfl) (.inr ⟨_,vs.toArray,_,Q,rfl,rfl,rfl,by rw[Qa,y];exact U,by simpa using W⟩) (λb u z=>by have C:(Po:Option HO)=My u:=z;cases C) (λb z=>Ql rfl z) λz=>Ql rfl z
 |none=>
  refine j (λb=>if b=a then My (.frz {cls:= .type "list",data:= .seq vs.toArray} (.lst (ns.map V.int)))else Po) (λb=>?_) (.inl (.inr ⟨{cls:= .type "list",data:= .seq vs.toArray},PP rfl⟩)) (λb u z=>?_) (λb z=>?_) λ_=>Q
  ·by_cases g:b=a
   ·exact .inr ⟨_,_,PP g⟩
   ·exact .inl (PL g)
  ·by_cases g:b=a
   ·have C:=(PP g).symm.trans z
    cases C;subst g;exact⟨ha,by rw[Pp];exact U,vs,_,W,ha⟩
   ·have C:=(PL g).symm.trans z
    cases C
  ·by_cases g:b=a
   ·exact g
   ·exact Ql (PL g) z
theorem walk_of{l:PySem.W.OpenLaw}{n k:Nat}{q:Qu}{loose:List Qz}{XP:(Qz->Option PH)->Q0->Prop}{YP:QH->Q0->Prop}{d:DefRec}{K:Xn->P6}{CX:QH->CXT}{sp:QH->Sp}{x:Qz}
  (hn:l.most=My n) (r:n<=P0) (t:d.params.defaults=[]) (J:Room k W3)
  (L:∀(w:QH) (h:Q0),YP w h->(K w.params).In h)
  (F:∀(w:QH) (mg:Qz->Option PH) (p:PD) (h:Q0),(K w.params).In h->h.Ns RY mg->mg d.name=My (.ref p)->
   ∃B:Qi,(∀(s:PM) (u:PH),Zc s B ⟨[u],[]⟩ [(x,u)])/\
    ∀base:Q0,(K w.params).In base->base.Ns RY mg->FnOk l.prog w (K w.params) mg base (CX w) k p B [x] (sp w))
  (y:∀(w:QH) (H:Hp) (a:PD) (ns:List Int),ns.length<=n->HC H->SqL (K w.params) H a (ns.map V.int)->sp w [.ref a] H (λv _=>v= .bl Pt) λ_ _ _=>False)
  (A:∀(w:QH) (H:Hp) (s:PM) (e:PH) (s':PM),CX w [] H s (λ_ _ _=>False) e s'->False):
  PySem.W.WalkO q loose XP YP l.row.toRowW d [] (λf vs=>YI f vs):=by
 refine Att.attach_call hn t λw s₀ j mg mb p o X cd N a vs ns G Y Z hd O C m i c P=>?_;have I:=L w _ Y;obtain⟨B,Q,hF⟩:=F w mg p _ I G.T.g C;exact DP I G.T.g G.T.b G.T.builtins G.T.nolimit P m i (Qc c r) J hF Q (λH R U=>y w H a ns c R U) λH e s'=>A w H j e s'
noncomputable def aw(s:Q6)(j:Nat):Q6:=match s with
 | .ClassDef _ _ _ body _ _ _ _ _ _ _=>body.getD j (.Pass ⟨0,0,0,0⟩)
 |_=> .Pass ⟨0,0,0,0⟩
noncomputable def iK(s:Q6):Arguments:=match s with
 | .FunctionDef _ a _ _ _ _ _ _ _ _=>a
 |_=>{posonlyargs:=[],args:=[],vararg:=Po,kwonlyargs:=[],kw_defaults:=[],kwarg:=Po,defaults:=[]}
noncomputable def cc(s:Q6):List Q6:=match s with
 | .FunctionDef _ _ b _ _ _ _ _ _ _=>b
 |_=>[]
noncomputable def ae(s:Q6):Scope:=match s with
 | .FunctionDef _ _ _ _ _ _ sc _ _ _=>sc
 |_=>{kind:= .function,names:=[],isGenerator:=Pz,isCoroutine:=Pz}
abbrev E0:St->XK:=λ_ _ _ _=>False
structure Fun (K:P6) (x qual:Qz) (st:Q6) (f:PD) (fd:Qi):Prop where
 ex:∃(oc:PH) (od:Option PD) (kV doc pm:PH) (an:Option PD) (cdv ct:PH) (osl:Array (Option PH)),
  fd=TY x qual (iK st) (cc st) (ae st) .none kV doc pm an cdv ct/\K.lookup f=My ⟨oc,od,.func fd,osl⟩/\UB K cdv qual=Pt
 kp:Vl K (.ref f)=Pt
section
variable{P:Qu}{w:QH}{K:P6}{mg:Qz->Option PH}{base:Q0}
end
theorem sL{A:QU}(a:Room k A):A.units+1<Vh:=Ry (YU (by decide:1<=64) _) a.units
theorem qS(h:n<=1000):n<P0:=Ry h (by decide)
section
variable{X:Cx}
theorem pv(i:Nat)(b:X.N[i]?=My x:=by rfl)(c:Vis X.env.scope x:=by first|exact RI rfl|exact Sk (RI rfl)|exact Sk (Sk rfl))(hd:(x==("__debug__":Qz))=Pz:=by decide)
  (a:(x==("__classdict__":Qz))=Pz:=by decide):PE X (.Name x pos) (kY i):=L0 b c hd a
end
theorem iteT{A B:Prop}(h:A):if Pt=Pt then A else B:=by
 rw[PP rfl];exact h
theorem ite2{c A B:Prop} [Decidable c](a:c->A)(b:¬c->B):if c then A else B:=by
 by_cases h:c
 ·rw[PP h]
  exact a h
 ·rw[PL h]
  exact b h
def bB(H a:Hp):Prop:=∀b o,H b=My o->a b=My o
theorem bB.refl(H:Hp):bB H H:=λ_ _ h=>h
theorem bB.trans(a:bB H H1)(b:bB H1 H2):bB H H2:=λc o h=>b c o (a c o h)
theorem bB.free(e:bB H H')(h:H' l=Option.none):H l=Option.none:=by
 cases q:H l with
 |none=>rfl
 |some o=>
  rw[e l o q]at h;cases h
theorem cU:∀(names:List (Qz×Tw)) (n:Nat) (acc:List (Qz×PD)),RC n names acc=RC n names []++acc
 |[],_,_=>rfl
 |(x,k)::r,n,acc=>by
  unfold RC;split
  ·rw[cU r (n+1) ((x,n)::acc),cU r (n+1) [(x,n)],Ra]
   rfl
  ·exact cU r n acc
theorem hX:∀{names:List (Qz×Tw)} {n:Nat} {x:Qz} {c:PD},(x,c)∈RC n names []->(x,WU)∈names
 |[],_,_,_,h=>by cases h
 |(y,k)::r,n,x,c,h=>by
  unfold RC at h;split at h
  ·rename_i a
   rw[cU]at h;rcases Rk.mp h with h|h
   ·exact Ps _ (hX h)
   ·obtain⟨rfl,_⟩:x=y/\c=n:=by simpa using h
    obtain rfl:k= .cell:=by simpa using a
    exact PF
  ·exact Ps _ (hX h)
noncomputable def cQ(cells:List (Qz×PD)):List (Qz×Tw)->List (Qz×PD)->List (Qz×PD)
 |[],acc=>acc
 |(x,k)::r,acc=>if k== .free then cQ cells r ((x,(cells.lookup x).getD 0)::acc)else cQ cells r acc
theorem mem_cloF{cells:List (Qz×PD)}:∀{names:List (Qz×Tw)} {acc:List (Qz×PD)} {x:Qz} {c:PD},(x,c)∈cQ cells names acc->(x,c)∈acc\/((x,Ss)∈names/\c=(cells.lookup x).getD 0)
 |[],_,_,_,h=> .inl h
 |(y,k)::r,acc,x,c,h=>by
  unfold cQ at h;split at h
  ·rename_i a
   obtain rfl:k= .free:=by simpa using a
   rcases mem_cloF h with h|⟨h,e⟩
   ·rcases PZ.mp h with h|h
    ·cases h
     exact .inr ⟨PF,rfl⟩
    ·exact .inl h
   ·exact .inr ⟨Ps _ h,e⟩
  ·rcases mem_cloF h with h|⟨h,e⟩
   ·exact .inl h
   ·exact .inr ⟨Ps _ h,e⟩
theorem nZ:∀{names:List (Qz×Tw)} {acc:List (Qz×PD)} {p:Qz×PD},p∈acc->p∈cQ cells names acc
 |[],_,_,h=>h
 |(y,k)::r,acc,p,h=>by
  unfold cQ;split
  ·exact nZ (Ps _ h)
  ·exact nZ h
theorem nY{cells:List (Qz×PD)}:∀{names:List (Qz×Tw)} {acc:List (Qz×PD)} {x:Qz},(x,Ss)∈names->(x,(cells.lookup x).getD 0)∈cQ cells names acc
 |[],_,_,h=>by cases h
 |(y,k)::r,acc,x,h=>by
  unfold cQ;rcases PZ.mp h with h|h
  ·cases h
   rw[PP (by decide)];exact nZ PF
  ·split
   ·exact nY h
   ·exact nY h
theorem kT{α:Type}:∀{l:List (Qz×α)} {x:Qz} {c:α},(x,c)∈l->∃d,l.lookup x=My d
 |[],_,_,h=>by cases h
 |(y,d)::r,x,c,h=>by
  rw[Ti];cases a:x==y with
  |true=>exact⟨d,rfl⟩
  |false=>
   rcases PZ.mp h with h|h
   ·cases h
    simp at a
   ·exact kT h
theorem cA{α:Type}:∀{l:List (Qz×α)} {x:Qz} {c:α},(l.map (·.1)).Nodup->(x,c)∈l->l.lookup x=My c
 |[],_,_,_,h=>by cases h
 |(y,d)::r,x,c,nd,h=>by
  rw[P3]at nd;obtain⟨a,b⟩:=QC.mp nd;rw[Ti];rcases PZ.mp h with h|h
  ·cases h
   simp
  ·have:x≠y:=λe=>a (e▸List.mem_map_of_mem (f:=(·.1)) h)
   rw[beq_eq_false_iff_ne.mpr this];exact cA b h
theorem qC{env:WN}(f:Qz×Tw->List (Qz×PD)->Sem (ForInStep (List (Qz×PD))))
  (g:∀name kind cs,f (name,kind) cs=if kind== .free then(do let a ←cellOf env name;R6 (.yield ((name,a)::cs)))else R6 (.yield cs)):
  ∀(names:List (Qz×Tw)) (acc:List (Qz×PD)),(∀y∈names,y.2= .free->∃c,env.cells.lookup y.1=My c)->forIn names acc f=R6 (cQ env.cells names acc)
 |[],_,_=>by rw[Ta];rfl
 |(x,k)::r,acc,h=>by
  rw[SY,g];unfold cQ;have i:∀y∈r,y.2= .free->∃c,env.cells.lookup y.1=My c:=λy j=>h y (Ps _ j);by_cases b:(k==Ss)=Pt
  ·rw[PP b,PP b]
   obtain⟨c,l⟩:=h (x,k) PF (by simpa using b);have d:env.cells.lookup x=My c:=l;have e:cellOf env x=R6 c:=by unfold cellOf;rw[d]
   rw[e,d];simp only[pure_bind];exact qC f g r _ i
  ·rw[PL b,PL b]
   simp only[pure_bind];exact qC f g r _ i
theorem x6{scope:Scope}{env:WN}(h:∀y∈scope.names,y.2= .free->∃c,env.cells.lookup y.1=My c):closureFor scope env=R6 (cQ env.cells scope.names []):=by
 simp only[closureFor];rw[qC (env:=env) _ (λname kind cs=>by cases a:kind==Ss<;>simp[a]) scope.names [] h]
 rfl
theorem EJ{M:X2}{E:PH->PM->Prop}{s:PM}{scope:Scope}
  (f:∀h':Q0,h'.Ns s.heap.objs.size (λ_=>Po)->(∀b o,s.heap.get? b=My o->h'.get? b=My o)->
   (∀n c,(n,c)∈RC (s.heap.objs.size+1) scope.names []->h'.IsCell c Po/\s.heap.objs.size+1<=c)->
   ((RC (s.heap.objs.size+1) scope.names []).Pairwise λx y=>x.2≠y.2)->
   Q (newEnv scope s.heap.objs.size globals (RC (s.heap.objs.size+1) scope.names cl) qual Po .none (My env) X8) {s with heap:=h'}):
  PY M A (Yh scope globals cl [] qual Po .none (My env)) Q E s:=by
 simp only[Yh,Option.isSome_some,QY];refine Pn (wpAny_alloc ?_);refine Pn (wpAny_layCells _ (λname kind cells=>by cases a:kind==WU<;>simp[a]) _ _ _ _ ?_)
 have ok:=cellsFrom_ok scope.names (s.heap.push {cls:= .type "dict",data:= .dict #[]}) (s.heap.objs.size+1) [] ⟨λ_ _ hm=>(nomatch hm),Vy⟩ (by rw[Q9];exact PN _);rw[Q9]at ok;rw[show({s with heap:=s.heap.push {cls:= .type "dict",data:= .dict #[]}}:PM).heap.objs.size=s.heap.objs.size+1 from Q9 ..];have d:=f (pushCells (s.heap.push {cls:= .type "dict",data:= .dict #[]}) scope.names) ((Heap.Ns.new s.heap (.type "dict")).keeps (pushCells_keeps _ _)) (λb o e=>pushCells_keeps _ _ b o (Pr _ e)) ok.empty ok.apart;exact Pn (Pq (Pq d))
noncomputable abbrev aE(X:Cx)(a:List Qz)(scope:Scope)(cl:List (Qz×PD))(C:PD)(b:List PD)(s:PM)(H:Hp):Cx:=
 {X with N:=a,s₀:=s,H₀:=H,env:=compEnvC scope cl C X.env,outer:=X.stack,stack:=X.stack,ex:=b,fn:=λx=>scope.names.lookup x !=My .free,pn:=[],xe:=λ_ _=>False}
theorem mem_relabel{scope:Scope}{y:Qz×Tw}(h:y∈(relabel scope env).names):y∈scope.names\/(y.2= .cell/\(y.1,Ss)∈scope.names):=by
 obtain⟨⟨n,k⟩,hm,e⟩:=P8.mp h
 dsimp only at e
 split at e
 ·rename_i a
  cases e;simp only[Qq,SL]at a;obtain⟨⟨a,_⟩,_⟩:=a;subst a;exact .inr ⟨rfl,hm⟩
 ·cases e
  exact .inl hm
theorem DV{X:Cx}{P:St}{s:PM}{Nc vars:List Qz}{caps:List Nat}{scope:Scope}{h':Q0}(I:Inv X pins P H s)
  (hk:scope.kind= .function) (g:(scope.names.map (·.1)).Nodup) (f:∀y∈scope.names,y.2= .free->X.env.kindOf y.1=My .cell\/X.env.kindOf y.1=My .free)
  (Q:Nc=vars++caps.map (λj=>X.N.getD j S5)) (R:∀j∈caps,j<X.N.length/\scope.names.lookup (X.N.getD j S5)=My .free)
  (C:∀b∈fp,eW X pins H b) (T:∀b∈fp,∃o,s.heap.get? b=My o) (ns:h'.Ns s.heap.objs.size λ_=>Po) (keep:∀b o,s.heap.get? b=My o->h'.get? b=My o)
  (L:∀n c,(n,c)∈RC (s.heap.objs.size+1) scope.names []->h'.IsCell c Po/\s.heap.objs.size+1<=c) (ca:(RC (s.heap.objs.size+1) scope.names []).Pairwise λx y=>x.2≠y.2):
  Inv (aE X Nc scope (RC (s.heap.objs.size+1) scope.names (cQ X.env.cells scope.names [])) s.heap.objs.size fp s H) [] (P5 vars.length Po++caps.map (λj=>P.getD j Po)) H {s with heap:=h'}:=by
 --the cells
 have old:∀{x:Qz} {c:PD},(x,c)∈cQ X.env.cells scope.names []->X.env.cells.lookup x=My c/\(x,Ss)∈scope.names:=λ{x c} h=>by
  rcases mem_cloF h with h|⟨hm,e⟩
  ·cases h
  ·obtain⟨d,hd⟩:=I.ok.has x (f _ hm rfl)
   rw[hd]at e;exact⟨by rw[hd,e];rfl,hm⟩
 have a:∀{x:Qz} {c:PD},(RC (s.heap.objs.size+1) scope.names (cQ X.env.cells scope.names [])).lookup x=My c->
   (x,c)∈RC (s.heap.objs.size+1) scope.names []\/(X.env.cells.lookup x=My c/\(x,Ss)∈scope.names):=λ{x c} h=>by
  have h:=Rg h;rw[cU]at h;rcases Rk.mp h with h|h
  ·exact .inl h
  ·exact .inr (old h)
 have freeC:∀{x:Qz},(x,Ss)∈scope.names->∃c,X.env.cells.lookup x=My c/\(RC (s.heap.objs.size+1) scope.names (cQ X.env.cells scope.names [])).lookup x=My c:=λ{x} hm=>by
  obtain⟨d,hd⟩:=I.ok.has x (f _ hm rfl);have e:=nY (cells:=X.env.cells) (acc:=[]) hm;obtain⟨c,O⟩:=kT (l:=RC (s.heap.objs.size+1) scope.names (cQ X.env.cells scope.names [])) (x:=x) (c:=(X.env.cells.lookup x).getD 0) (by rw[cU];exact QE _ e);rcases a O with z|⟨z,_⟩
  ·have A:=cA g (hX z)
   rw[cA g hm]at A;cases A
  ·exact⟨c,z,O⟩
 have k:∀{x:Qz} {c:PD},X.env.cells.lookup x=My c->c<s.heap.objs.size:=λ{x c} h=>let ⟨v,q⟩:=I.cell x c h;q.lt
 have nofr:H s.heap.objs.size=Po:=I.hok.fresh (PN _);have U:∀b∈frs X.stack,b∈X.env.locals::X.fs:=I.stkSub;refine⟨⟨I.ok.mod,hk,I.ok.glob,I.ok.blt,PN _,λx y c h1 h2=>?_,λx hx=>?_,λx c hf h=>?_,I.ok.hd,I.ok.frames,.inl rfl,λb F=>⟨?_,λx c h e=>?_⟩,I.bs,Qc I.ok.bsz I.sz,λb o e F=>?_,λb F hf=>?_,I.stack,I.stkFree⟩,
  rfl,I.bare,Un.kept keep,⟨_,ns,λi x v e1 w e3=>?_⟩,λx c h=>?_,nofr,λx c h=>?_,λp hp=>Ql hp (by simp),I.hok.kept keep,?_⟩
 ·rcases a h1 with A|⟨A,_⟩<;>rcases a h2 with W|⟨W,_⟩
  ·exact name_of_addr ca A W
  ·exact Ql (Qm (k W) (Qc (T1 _) (L _ _ A).2)) (QS _)
  ·exact Ql (Qm (k A) (Qc (T1 _) (L _ _ W).2)) (QS _)
  ·exact I.ok.inj _ _ _ A W
 ·--has
  have hx:(relabel scope X.env).names.lookup x=My .cell\/(relabel scope X.env).names.lookup x=My .free:=hx;have hm:(x,WU)∈scope.names\/(x,Ss)∈scope.names:=by
   rcases hx with hx|hx
   ·rcases mem_relabel (Rg hx)with z|⟨_,z⟩
    ·exact .inl z
    ·exact .inr z
   ·rcases mem_relabel (Rg hx)with z|⟨_,z⟩
    ·exact .inr z
    ·exact .inr z
  rcases hm with hm|hm
  ·have q:=Yb scope.names (s.heap.objs.size+1) (cQ X.env.cells scope.names []) (x:=x) (.inl (cA g hm))
   exact Xg.mp q
  ·obtain⟨c,_,O⟩:=freeC hm
   exact⟨c,O⟩
 ·--cab
  rcases a h with z|⟨_,z⟩
  ·exact Qc (T1 _) (L _ _ z).2
  ·have z':(scope.names.lookup x !=My .free)=Pt:=hf
   rw[cA g z]at z';exact Ql z' (by decide)
 ·obtain⟨o,e⟩:=T b F
  exact QK (Qj e)
 ·rcases a h with z|⟨z,_⟩
  ·obtain⟨o,e'⟩:=T b F
   subst e;exact Ql (Qm (Qj e') (Qc (T1 _) (L _ _ z).2)) (QS _)
  ·exact(C b F).2.2.2.2.1 x c z e
 ·obtain⟨_,_,_,h4,_⟩:=C b F
  rcases h4 with z|z
  ·exact I.ok.noex b o e z
  ·exact Ql (Qm (Qj (I.ok.bs b o e).1) z) (QS _)
 ·obtain⟨_,h2,h3,_⟩:=C b F
  rcases PZ.mp (U b hf)with z|z
  ·exact h2 z
  ·exact h3 z
 ·--the names' values
  have hi:¬i<vars.length:=λhi=>by
   rw[Tq (by simpa using hi),RO]at w;split at w<;>cases w
  have J:(vars++caps.map (λj=>X.N.getD j S5))[i]?=My x:=by rw[←Q];exact e1
  rw[RT (by omega)]at J;rw[RT (by simpa using hi)]at w;rw[RE]at w;cases q:caps[i-vars.length]? with
  |none=>rw[Py,q]at w;cases w
  |some j=>
   rw[Py,q]at J w;have B:X.N.getD j S5=x:=Qo J;have Y:P.getD j Po=My v:=Qo w;obtain⟨hj,t⟩:=R j (Qb q);rw[B]at t;obtain⟨c,O,hc'⟩:=freeC (Rg t);have hNj:X.N[j]?=My x:=by
    rw[←B,Px,Pw hj];rfl
   have Z:P[j]?=My (My v):=by
    have hl:j<P.length:=by rw[I.len];exact hj
    rw[Px,Pw hl]at Y;rw[Pw hl];exact QV My Y
   have hkx:=f _ (Rg t) rfl;obtain⟨m,hn,hl⟩:=I.loc;obtain⟨u,r,l⟩:=hl j x v hNj Z (hkx.elim (λz=> .inr (.inl z)) λz=> .inr (.inr z));refine⟨u,r,.inr ⟨?_,c,hc',?_⟩⟩
   ·rcases e3 with z|z|z
    ·exfalso
     rcases mem_relabel (Rg z)with y|⟨y,_⟩
     ·rw[cA g y]at t;cases t
     ·cases y
    ·exact .inl z
    ·exact .inr z
   ·rcases l with⟨l,_⟩|⟨_,c',e,z⟩
    ·exfalso
     rcases hkx with y|y
     ·have y':X.env.kindOf x=My .cell:=y
      rw[l]at y';cases y'
     ·have y':X.env.kindOf x=My .free:=y
      rw[l]at y';cases y'
    ·rw[O]at e
     cases e;exact z.keeps keep
 ·rcases a h with z|⟨z,_⟩
  ·exact⟨Po,(L _ _ z).1⟩
  ·obtain⟨v,q⟩:=I.cell x c z
   exact⟨v,q.keeps keep⟩
 ·rcases a h with z|⟨z,_⟩
  ·exact I.hok.fresh (Qc (T1 _) (L _ _ z).2)
  ·exact I.freeC x c z
 ·show _=Nc.length
  rw[Q,Qf,Qf,RE,Pp,Pp]
abbrev TB:=St->Hp->(St->Hp->Prop)->Prop
inductive CKd where
 |L (e:Expr)|S (e:Expr)|D (k v:Expr)
instance:Coe Expr CKd:=⟨.L⟩
noncomputable def mkC(c:CKd)(gens:List RA)(scope:Scope)(pos:Uh):Expr:=match c with
 | .L e=> .ListComp e gens scope pos
 | .S e=> .SetComp e gens scope pos
 | .D k v=> .DictComp k v gens scope pos
noncomputable def emC(c:CKd)(acc:PH)(env:WN):Sem Unit:=match c with
 | .L e=>do let _ ←VD (.builtin "list.append") [acc,←QW e env]
 | .S e=>do let v ←QW e env;Tk e.pos;let _ ←VD (.builtin "set.add") [acc,v]
 | .D k v=>do
   let kv ←QW k env
   let vv ←TU [kv] (QW v env)
   match acc with
   | .ref d=>do
    Tk {k.pos with endLine:=v.pos.endLine,endCol:=v.pos.endCol}
    TU [kv,vv] (dictSet d kv vv)
   |_=>unsupported "internal:dictcomp"
noncomputable def gW(c:CKd)(gens:List RA)(scope:Scope)(pos:Uh)(d:Nat)(acc:PH)(env:WN)(k:Sem VS):Sem VS:=
 match gens[d+1]? with
 |some g'=>do
  let x ←QW g'.iter env
  Tk g'.iter.pos
  let x ←if g'.is_async !=0 then foldedIterable g'.iter x else QR g'.iter env x
  let _ ←runOwn (.compStart (mkC c gens scope pos) (d+1) (←TU [x] (if g'.is_async !=0 then asyncIter x else Wh x)) acc env) env
  k
 |none=>do
  emC c acc env
  k
theorem uZ{a b:Expr}(e:gens[d]?=My ⟨a,b,ifs,0⟩):
  compTurn (mkC c gens scope pos) d it acc env=(do
   Tk b.pos
   match ←Uq it with
   |none=>R6 (.done .next)
   |some v=>
    UX a it v
    UW a env v
    let mut ok:=Pt
    for y in ifs do
     if ok then ok ←isTrue y env (QW y env)
    if ok then gW c gens scope pos d acc env (XD (.compLoop (mkC c gens scope pos) d it acc env))
    else XD (.compLoop (mkC c gens scope pos) d it acc env)):=by
 cases c<;>(
  unfold compTurn gW mkC emC
  dsimp only
  rw[e]
  dsimp only
  cases gens[d+1]?<;>rfl)
section
variable{prog:Qu}{w:QH}{A:QU}{R:Result->PM->Prop}{s:PM}
theorem DJ(F:gens[d]?=My ⟨target,iter,ifs,0⟩)(I:Nat->PM->Prop)
  (q:∀n s,I n s->PY (Qk prog w) A (Uq it) (λr a=>match r with
   |none=>R (.ok .next) a
   |some v=>PY (Qk prog w) A (UX target it v) (λ_ b=>PY (Qk prog w) A (UW target env v) (λ_ j=>
    PY (Qk prog w) A (forIn ifs Pt λy r=>if r=Pt then do let ok ←isTrue y env (QW y env);R6 (U9 ok)else R6 (U9 r)) (λok g=>
     if ok=Pt then ∀(k:Sem VS) (B:VS->PM->Prop) (C:PH->PM->Prop),(∀i m,m<n->I m i->PY (Qk prog w) A k B C i)->PY (Qk prog w) A (gW c gens scope pos d acc env k) B C g
     else ∃m,m<n/\I m g) (λ_ _=>False) j) (λ_ _=>False) b) (λ_ _=>False) a) (λ_ _=>False) s)
  (n:Nat) (h:I n s):
  SU (Qk prog w) A (.compLoop (mkC c gens scope pos) d it acc env) R s:=by
 refine codeAny_loop rfl I (λn s hI=>?_) n h
 suffices z:PY (Qk prog w) A ((compTurn (mkC c gens scope pos) d it acc env).onRaise (λx=>do noteFrame x env;theTreesLotGoes x)) (λu s'=>match u with
   |Fin.done f=>R (RM f) s'
   |Fin.again c'=>c'=Code.compLoop (mkC c gens scope pos) d it acc env/\∃m,m<n/\I m s') (λe s'=>R (Except.error e) s') s by cases c<;>exact z
 refine wpAny_noted ?_;rw[uZ F];refine Pn (R8 (Pn (QN (q n s hI) (λr a l=>?_) λ_ _ h'=>h'.elim)));cases r with
 |none=>exact Pq l
 |some v=>
  refine Pn (QN l (λ_ b p=>?_) λ_ _ h'=>h'.elim);refine Pn (QN p (λ_ j t=>Pn (QN t (λok g o=>?_) λ_ _ h'=>h'.elim)) λ_ _ h'=>h'.elim);cases ok with
  |false=>exact Pq ⟨rfl,o⟩
  |true=>exact o _ _ _ λi m hm hI=>Pq ⟨rfl,m,hm,hI⟩
theorem yK(j:gens[d]?=My ⟨target,iter,ifs,0⟩)
  (i:SU (Qk prog w) A (.compLoop (mkC c gens scope pos) d it acc env) R s)
  (h:PY (Qk prog w) A (Wh it) (λa s'=>SU (Qk prog w) A (.compLoop (mkC c gens scope pos) d a acc env) R s') (λ_ _=>False) s):
  SU (Qk prog w) A (.compStart (mkC c gens scope pos) d it acc env) R s:=by
 refine XM ?_
 suffices z:PY (Qk prog w) A ((compStart (mkC c gens scope pos) d it acc env).onRaise (λx=>do noteFrame x env;Tk theWindowsPlace)) (λg s'=>match g with
   |Fin.done f=>R (RM f) s'
   |Fin.again c'=>c'.quiet=Pt/\SU (Qk prog w) A c' R s') (λe s'=>R (Except.error e) s') s by cases c<;>exact z
 refine wpAny_notedAt ?_;unfold compStart;have b:(clausesOf (mkC c gens scope pos))[d]?=My ⟨target,iter,ifs,0⟩:=by cases c<;>exact j
 generalize (clausesOf (mkC c gens scope pos))[d]?=og at b⊢;subst b;show PY _ _ (ask>>=_) _ _ s;refine Pn (UF (wpAny_ite ?_));split
 ·first
   |exact Pn (Pq (Pq (XQ rfl i)))
   |exact Pq (XQ rfl i)
 ·first
   |exact Pn (TC (Pn (R8 (Pn (QN h (λa s' h'=>Pq (XQ rfl h')) λ_ _ x=>x.elim)))))
   |(refine Pn (TC ?_);show PY _ _ (Tk iter.pos>>=_) _ _ s;exact Pn (R8 (Pn (QN h (λa s' h'=>Pq (XQ rfl h')) λ_ _ x=>x.elim))))
end
def dG(X:Cx)(b:List Expr)(t:TT):Prop:=
 ∀(a:List (PD×Qn)) (s:PM) (d:St) (H:Hp) (Q:Bool->Hp->Prop),Inv X a d H s->t d H Q->
  PY (Qk X.prog X.w) X.A (forIn b Pt λc r=>if r=Pt then do let ok ←isTrue c X.env (QW c X.env);R6 (U9 ok)else R6 (U9 r)) (TP X a d Q) X.xe s
noncomputable def Ln:TT:=λ_ H Q=>Q Pt H
theorem ue:dG X [] Ln:=λ_ _ _ H _ I h=>Pq ⟨H,I,h⟩
theorem CM(d:PT X c t):dG X [c] t:=λa s e H Q I h=>by
 simp only[SY,Ta,QY];exact Pn (Pn (QN (d a s e H Q I h) (λb s' f=>Pq (Pq f)) λ_ _ x=>x))
def PB(X:Cx)(c:CKd)(gens:List RA)(scope:Scope)(pos:Uh)(d:Nat)(D:PD)(t:TB):Prop:=
 ∀(a:List (PD×Qn)) (s:PM) (e:St) (H:Hp) (Q:St->Hp->Prop),Inv X a e H s->t e H Q->
  ∀(k:Sem VS) (f:VS->PM->Prop) (g:PH->PM->Prop),(∀s' b h,Inv X a b h s'->Q b h->PY (Qk X.prog X.w) X.A k f g s')->PY (Qk X.prog X.w) X.A (gW c gens scope pos d (.ref D) X.env k) f g s
def cY(J:It)(g:TG)(tt:TT)(j:TB):TB:=λc H Q=>∃W:Nat->Nat->St->Hp->Prop,(∃m,W 0 m c H)/\∀i m c H,W i m c H->
 (J.stop i H/\Q c H)\/(J.go i H/\∃N:St->Hp->Prop,(∀d e,N d e->∃f,f<m/\W (i+1) f d e)/\∀x e,J.yld i H x e->g x c e λa k=>tt a k λb h=>if b=Pt then j a h N else N a h)
def yd(D:PD)(c:TE):TB:=λa H Q=>c a H λv b=>∃xs,b D=My (.lst xs)/\xs.length<P0/\Q a (upd b D (.lst (xs++[v])))
def yc(b:TI)(c:It->TB):TB:=λa H Q=>b a H λJ d=>c J a d Q
section
variable{X:Cx}{c:CKd}{elt target iter:Expr}{ifs:List Expr}{gens:List RA}{scope:Scope}{pos:Uh}{d:Nat}{D:PD}
theorem rC(hg:gens[d]?=My ⟨target,iter,ifs,0⟩)(hc:X.calm=Pt)(F:X.xe=λ_ _=>False)(Z:PG X target g)(hts:dG X ifs tt)(j:PB X c gens scope pos d D tb)
  {s:PM}
  (I:Inv X pins σ H s) (T:Turn X.prog X.w X.K target J fp it tn) (st:tn 0 s.heap) (hf:∀b∈fp,eW X pins H b) (h:cY J g tt tb σ H Q):
  SU (Qk X.prog X.w) X.A (.compStart (mkC c gens scope pos) d (.ref it) (.ref D) X.env) (λr s'=>r= .ok .next/\∃a f,Inv X pins a f s'/\Q a f) s:=by
 obtain⟨W,⟨m0,w0⟩,L⟩:=h;have l:∀{f:Hp},(∀b∈fp,f b=Po)->∀b∈fp,eW X pins f b:=λhn b j=>⟨hn b j,(hf b j).2⟩;have t:SU (Qk X.prog X.w) X.A (.compLoop (mkC c gens scope pos) d (.ref it) (.ref D) X.env) (λr s'=>r= .ok .next/\∃a f,Inv X pins a f s'/\Q a f) s:=by
  refine DJ hg (λn s'=>∃i a f,Inv X pins a f s'/\tn i s'.heap/\(∀b∈fp,f b=Po)/\W i n a f) ?_ m0 ⟨0,σ,H,I,st,λb j=>(hf b j).1,w0⟩;rintro n s3 ⟨i,p,U,I3,O,P,w3⟩;rcases L i n p U w3 with⟨stop,qn⟩|⟨go,N,hN,step⟩
  ·refine thn (T.done X rfl rfl rfl hc i pins s3 p U _ I3 (l P) O stop) λr s4 ⟨hr,I4⟩=>?_
   subst hr;exact⟨rfl,p,U,I4,qn⟩
  ·refine thn (T.item X rfl rfl rfl hc i pins s3 p U _ I3 (l P) O go) λr s4 ⟨u,hr,h4⟩=>?_
   subst hr;refine thn h4 λ_ s5 ⟨x,H5,I5,r5,y5,v,fr5⟩=>?_;have I5':=I5.pinned (l fr5) (T.obj _ _ v);have XD:∀{q:St} {y:Hp} {B:PM},Inv X (pins++lE fp s5.heap) q y B->N q y->∃m,m<n/\∃i a f,Inv X pins a f B/\tn i B.heap/\(∀b∈fp,f b=Po)/\W i m a f:=λ{q y B} C n7=>by
    obtain⟨m',hm,w7⟩:=hN q y n7;refine⟨m',hm,i+1,q,y,C.unpinned,T.keep _ _ _ v λb j o e=>(C.pin (b,o) (QE _ (QE _ (iu j e)))).1,λb j=>?_,w7⟩;obtain⟨o,e,d⟩:=T.obj _ _ v b j;exact(C.pin (b,o) (QE _ (QE _ (iu j e)))).2.1
   have h6:=Z _ s5 p H5 x u _ I5' r5 (step x H5 y5);rw[F]at h6;refine thn h6 λ_ s6 ⟨R,H6,I6,q6⟩=>?_;have h7:=hts _ s6 R H6 _ I6 q6;rw[F]at h7;refine thn h7 λb B ⟨y,C,Y⟩=>?_;cases b with
   |true=>
    rw[PP rfl]at Y⊢;intro k Q' E' hk;refine j _ B R y N C Y k Q' E' λs8 σ8 H8 I8 n8=>?_;obtain⟨m,hm,z⟩:=XD I8 n8;exact hk s8 m hm z
   |false=>
    rw[PL PQ]at Y⊢;exact XD C Y
 exact yK hg t (T.self X.A 0 s _ _ st t)
theorem aJ(m:gens[d+1]?=Po)(o:PE X elt te)(b:X.xe=λ_ _=>False):PB X elt gens scope pos d D (yd D te):=by
 intro a s g H Q I h k w y p;unfold gW;rw[m];show PY _ _ ((do let _ ←VD (.builtin "list.append") [.ref D,←QW elt X.env])>>=λ_=>k) _ _ _
 have i:=o a s g H _ I h;rw[b]at i;refine Pn (Pn (QN i (λu A ⟨v,B,j,r,xs,l,C,q⟩=>?_) λ_ _ f=>f.elim));obtain⟨z,its,n,t,J,e⟩:=j.lstM l;refine Pn (X9 F.slot_list_append ⟨_,e,rfl⟩ F.entry_list_append (Zd _ _) (Y3 D its.toArray n u (by rw[Qa];omega)) ⟨e,?_⟩);refine Pq (p _ g _ (j.lset (its':=its++[u]) l e (by simp) (t.append (.cons r .nil)) ?_) q);rw[Qf,Q4];omega
theorem qg(o:gens[d+1]?=My ⟨target',iter',ifs',0⟩)(p:X.calm=Pt)(a:X.xe=λ_ _=>False)(t:PI X target' iter' wi)
  (j:PG X target' g) (l:dG X ifs' tt) (u:PB X c gens scope pos (d+1) D tb) (hs:∀x,QR iter' X.env x=R6 x:=by intro _;rfl):PB X c gens scope pos d D (yc wi λJ=>cY J g tt tb):=by
 intro b s w H Q I h k O P y;unfold gW;rw[o];have i:=t b s w H _ I h;rw[a]at i;refine Pn (QN i (λv R i=>Pn (R8 ?_)) λ_ _ f=>f.elim);show PY _ _ (QR iter' X.env v>>=_) _ _ _;refine Pn (Tz (hs v) ?_);show PY _ _ (TU [v] (Wh v)>>=_) _ _ _;refine Pn (Rh (QN i (λA U B=>?_) λ_ _ f=>f.elim));obtain⟨it,W,Y,J,Z,e,C,T,m,f2,q⟩:=B;subst e;refine Pn (wpAny_runOwn (TR (rC o p a j l u C T m f2 q) λr s' ⟨F,z⟩=>?_));subst F;obtain⟨n,L,N,q'⟩:=z;exact y s' n L N q'
end
noncomputable def j8(vars:List Qz)(caps:List Nat)(a:St):St:=P5 vars.length Po++caps.map (λj=>a.getD j Po)
def Mks(X:Cx)(mk:Sem PH)(e:PD->HO):Prop:=∀(a:List (PD×Qn)) (s:PM) (d:St) (H:Hp) (E:PH->PM->Prop) (Q:PH->PM->Prop),Inv X a d H s->
 (∀c:PM,Inv X a d (upd H s.heap.objs.size (e s.heap.objs.size)) c->(∀b o,s.heap.get? b=My o->c.heap.get? b=My o)->Q (.ref s.heap.objs.size) c)->PY (Qk X.prog X.w) X.A mk Q E s
theorem uu:Mks X (newList []) λ_=> .lst []:=λa s c H E Q I h=>Re (h _ (I.lnew (t':=s.toks) .nil (Q5 _)) λb o e=>Pr _ e)
def sv(vars:List Qz)(caps:List Nat)(c:TI)(d:PD->It->TB):TE:=λa H Q=>c a H λJ b=>∀D,b D=Po->d D J (j8 vars caps a) (upd b D (.lst [])) λ_ e=>Q (.ref D) e
structure CmpScope (X:Cx) (scope:Scope) (Nc vars:List Qz) (caps:List Nat):Prop where
 kind:scope.kind= .function
 nd:(scope.names.map (·.1)).Nodup
 free:∀y∈scope.names,y.2= .free->X.env.kindOf y.1=My .cell\/X.env.kindOf y.1=My .free
 names:Nc=vars++caps.map (λj=>X.N.getD j S5)
 cap:∀j∈caps,j<X.N.length/\scope.names.lookup (X.N.getD j S5)=My .free
section
variable{X:Cx}{elt target iter:Expr}{ifs:List Expr}{rest:List RA}{scope:Scope}{pos:Uh}{Nc vars:List Qz}{caps:List Nat}{g:TG}{tt:TT}{tb:PD->TB}{wi:TI}
def Ob(X:Cx)(a:List (PD×Qn))(H:Hp)(C:PD):Prop:=H C=Po/\C≠X.env.locals/\X.s₀.heap.objs.size<=C/\(∀x c,X.env.cells.lookup x=My c->c≠C)/\∀p∈X.pn++a,p.1≠C
theorem gU{c:CKd}{mk:Sem PH}{B:PD->HO}(O:Mks X mk B){f:List (PD×Qn)}{F:St}{H:Hp}{s:PM}{it:PD}{h:List PD}{P:Nat->Q0->Prop}{J:It}{E:PH->PM->Prop}{QQ:PD->Hp->Prop}{RR:PH->PD->Result->PM->Prop}
  (hc:X.calm=Pt) (S:CmpScope X scope Nc vars caps)
  (L:∀(cl:List (Qz×PD)) (C:PD) (h:List PD) (s:PM) (H:Hp),PG (aE X Nc scope cl C h s H) target g/\dG (aE X Nc scope cl C h s H) ifs tt/\∀D,PB (aE X Nc scope cl C h s H) c (⟨target,iter,ifs,0⟩::rest) scope pos 0 D (tb D))
  (I:Inv X f F H s) (T:Turn X.prog X.w X.K target J h it P) (st:P 0 s.heap) (Q:∀b∈h,eW X f H b)
  (q:∀D,H D=Po->cY J g tt (tb D) (j8 vars caps F) (upd H D (B D)) λ_ k=>QQ D k)
  (R:∀(D C:PD) (s':PM) (k:Hp) (m:Qz->Option PH),Inv X f F k s'->s'.heap.Ns C m->Ob X f k C->QQ D k->RR (.ref D) C (.ok .next) s'):
  PY (Qk X.prog X.w) X.A mk (λacc t=>PY (Qk X.prog X.w) X.A (Yh scope X.env.globals (cQ X.env.cells scope.names []) [] X.env.qual Po .none (My X.env)) (λj u=>
   SU (Qk X.prog X.w) X.A (.compStart (mkC c (⟨target,iter,ifs,0⟩::rest) scope pos) 0 (.ref it) acc {j with scope:=relabel scope X.env}) (RR acc j.locals) u) E t) E s:=by
 refine O f s F H _ _ I λi l y=>?_;have hD:H s.heap.objs.size=Po:=I.fresh;have q3:=q s.heap.objs.size hD;have U:∀b∈h,∃o,i.heap.get? b=My o:=λb L=>let ⟨o,e,_⟩:=T.obj _ _ st b L;⟨o,y b o e⟩
 have W:∀b∈h,eW X f (upd H s.heap.objs.size (B s.heap.objs.size)) b:=λb a=>⟨by
  rw[upd_ne]
  ·exact(Q b a).1
  ·obtain⟨o,e,_⟩:=T.obj _ _ st b a
   exact QK (Qj e),(Q b a).2⟩
 generalize Y:upd H s.heap.objs.size (B s.heap.objs.size)=H3 at l q3 W;generalize s.heap.objs.size=D at hD Y q3⊢;refine EJ λh' ns keep ce ca=>?_;have N:=DV l S.kind S.nd S.free S.names S.cap W U ns keep ce ca;obtain⟨b1,b2,b3⟩:=L (RC (i.heap.objs.size+1) scope.names (cQ X.env.cells scope.names [])) i.heap.objs.size h i H3;have Z:P 0 h':=T.keep _ _ _ st λb L o e=>keep b o (y b o e);have f4:∀b∈h,eW (aE X Nc scope (RC (i.heap.objs.size+1) scope.names (cQ X.env.cells scope.names [])) i.heap.objs.size h i H3) [] H3 b:=λb a=>
  ⟨(W b a).1,(N.ok.exf b a).1,N.ok.exfs b a,.inl a,(N.ok.exf b a).2,λp hp=>Ql hp (by simp)⟩
 refine TR (rC (X:=aE X Nc scope (RC (i.heap.objs.size+1) scope.names (cQ X.env.cells scope.names [])) i.heap.objs.size h i H3) (gens:=⟨target,iter,ifs,0⟩::rest) (d:=0) rfl hc rfl b1 b2 (b3 D) N T Z f4 q3) λr s' ⟨hr,σ',k,n,q'⟩=>?_;subst hr;obtain⟨m,hm,_⟩:=n.loc;have C1:X.env.locals<i.heap.objs.size:=l.lt;refine R D _ s' k m (l.call' (ch:=h) n.os n.base n.hok n.bare λb a=>?_) hm ⟨n.free,Se C1,l.sz,λx c e z=>?_,λp hp z=>?_⟩ q'
 ·obtain⟨_,h2,h3,h4,h5,h6⟩:=Q b a
  exact⟨h4,h2,h5,h6⟩
 ·obtain⟨v,e'⟩:=l.cell x c e
  exact Ql (z▸e'.lt) (QS _)
 ·have:=Qj (l.pin p hp).1
  rw[z]at this;exact Ql this (QS _)
theorem Inv.letgo{s:PM}(I:Inv X pins σ H s)(o:Ob X pins H C)(hs:Qr C s.heap h'):Inv X pins σ H {s with heap:=h'}:=
 I.turned (t':=s.toks) (λb c a e=>(hs.2 b a).trans e) o.1 (Ne.symm (Ne.symm o.2.1)) (.inr o.2.2.1) o.2.2.2.1 o.2.2.2.2
theorem CmpScope.clo(S:CmpScope X scope Nc vars caps)(ok:X.Ok):closureFor scope X.env=R6 (cQ X.env.cells scope.names []):=x6 λy a b=>ok.has y.1 (S.free y a b)
theorem CmpScope.loc(S:CmpScope X scope Nc vars caps):∀x∈scope.names,x.2= .local->scope.names.lookup x.1=My .local:=λx a b=>cA S.nd (by rw[←b];exact a)
theorem qf(i:X.calm=Pt)(S:CmpScope X scope Nc vars caps)(j:PI X target iter wi)
  (k:∀(cl:List (Qz×PD)) (C:PD) (b:List PD) (s:PM) (H:Hp),PG (aE X Nc scope cl C b s H) target g/\dG (aE X Nc scope cl C b s H) ifs tt/\∀D,PB (aE X Nc scope cl C b s H) elt (⟨target,iter,ifs,0⟩::rest) scope pos 0 D (tb D))
  (hs:∀x,QR iter X.env x=R6 x:=by intro _;rfl):PE X (.ListComp elt (⟨target,iter,ifs,0⟩::rest) scope pos) (sv vars caps wi λD J=>cY J g tt (tb D)):=by
 intro a s l H Q I h;rw[eval_ListComp];refine SM (use:=Po) rfl hs (S.clo I.ok) S.kind S.loc (QN (j a s l H _ I h) (λv B n=>QN n (λo F p=>?_) λ_ _ x=>x) λ_ _ x=>x);obtain⟨it,b,N,J,O,e,r,T,d,f2,q⟩:=p;subst e;refine gU (c:= .L elt) uu (RR:=λacc C=>Yc (Qk X.prog X.w) X.A X.xe Po _ acc C) i S k r T d f2 q λD C s' t m u ns y q'=>?_;exact⟨m,ns,λh' f=>⟨.ref D,t,u.letgo y f,rfl,q'⟩⟩
theorem vU{b d:Uh}(u:X.N.Nodup)(k:X.N[i]?=My x)(y:Loc X.env.scope x)(B:X.calm=Pt)(S:CmpScope X scope Nc vars caps)(F:PI X target iter wi)
  (O:∀(cl:List (Qz×PD)) (C:PD) (j:List PD) (s:PM) (H:Hp),PG (aE X Nc scope cl C j s H) target g/\dG (aE X Nc scope cl C j s H) ifs tt/\∀D,PB (aE X Nc scope cl C j s H) elt (⟨target,iter,ifs,0⟩::rest) scope pos 0 D (tb D))
  (l:Ue (.ListComp elt (⟨target,iter,ifs,0⟩::rest) scope pos) (My (.Name x b)) d.line X.env=R6 Pt:=by rfl)
  (hs:∀x,QR iter X.env x=R6 x:=by intro _;rfl) (P:X.fn x=Pt\/X.env.scope.names.lookup x=My .local:=by first|exact .inl rfl|exact .inr rfl|assumption):
  PS X (.Assign [.Name x b] (.ListComp elt (⟨target,iter,ifs,0⟩::rest) scope pos) d) (jC (sv vars caps wi λD J=>cY J g tt (tb D)) (eQ i)):=by
 intro f s R H D I h;rw[exec_Assign_Name_used _ _ _ _ l];refine Pn (R8 (Pn ?_));show PY _ X.A (do let _ ←comprehension (.ListComp elt (⟨target,iter,ifs,0⟩::rest) scope pos) scope X.env _ (newList []) Pz (QW iter X.env) (My (UW (.Name x b) X.env))) _ _ s
 refine Pn (QN (SM (use:=My (UW (.Name x b) X.env)) (Q:=λ_ s'=>SP X f D .next s') rfl hs (S.clo I.ok) S.kind S.loc
  (QN (F f s R H _ I h) (λv s1 U=>QN U (λW Y Z=>?_) λ_ _ e=>e) λ_ _ e=>e)) (λ_ s' hq=>Pq (Pq hq)) λ_ _ e=>e)
 obtain⟨it,j,tn,J,H2,e,n,T,o,f2,q⟩:=Z;subst e;refine gU (c:= .L elt) uu (RR:=λacc C=>Yc (Qk X.prog X.w) X.A X.xe (My (UW (.Name x b) X.env)) _ acc C) B S O n T o f2 q λA C s' H' m I' ns p q'=>?_;show PY _ X.A (UW (.Name x b) X.env (.ref A)) _ _ s';refine Xa (k8 I' u k y (v:= .ref A) rfl (λY n ⟨a,sb,ha⟩=>?_) P);have r:C≠a:=by
  rcases ha with rfl|ha
  ·exact p.2.1
  ·exact λz=>p.2.2.2.1 x a ha z.symm
 exact⟨m,ns.sameBut sb r,λh' t=>⟨_,H',n.letgo p t,q'⟩⟩
end
end L2
namespace L2
open PySem PySem.Spec
open Sem (wp)
open Builtin Builtin.ObjectAttr
noncomputable abbrev cD(C:PD)(dx:Option PD)(t:PD):Qn:={cls:= .ref C,dict:=dx,data:= .fields #[.ref t,.none,.none,.none,.bool Pz,.none]}
structure XShape (h:Q0) (C:PD) (bm:List PH):Prop where
 at_:∃(nm q:Qz) (N:PD) (bs:List PH) (hdct:Bool) (sn:List Qz) (sub:List PH) (ab:Bool) (col:Option Bool) (dd:Option PD) (k0 k1 k2 k3 k5:Option PH),
  h.get? C=My (excClassObj nm q C N bs bm hdct sn sub ab col dd k0 k1 k2 k3 k5 "ValueError.__new__")
 val:bm.contains (.type "ValueError")=Pt
 bas:bm.contains (.type "BaseException")=Pt
 att:bm.contains (.type "AttributeError")=Pz
 nam:bm.contains (.type "NameError")=Pz
section
variable{prog:Qu}{w:QH}{A:QU}{E:PH->PM->Prop}{h:Q0}{g:Array GenState}{d:Drawn}{t:Nat}{os:Vu}{C:PD}{bm rest:List PH}
theorem K0(S:XShape h C bm)
  (l:R (.ok (.ret (.ref (h.objs.size+1)))) ⟨(h.push {cls:= .type "tuple",data:= .seq rest.toArray}).push (cD C Po h.objs.size),g,d,t,os⟩) (b:rest.length<=P0):
  SU (Qk prog w) A (.builtin "ValueError.__new__" ⟨.ref C::rest,[]⟩) R ⟨h,g,d,t,os⟩:=by
 obtain⟨⟨nm,q,N,bs,hdct,sn,sub,ab,col,dd,k0,k1,k2,k3,k5,c⟩,m,hB,n,o⟩:=S;have a:=S6;have e:=a.ends;have f:(P7 C::bm).contains (.type "ValueError")=Pt:=by rw[SO,m,Wo]
 have i:(P7 C::bm).contains (.type "AttributeError")=Pz:=by rw[SO,n];rfl
 have j:(P7 C::bm).contains (.type "NameError")=Pz:=by rw[SO,o];rfl
 refine codeAny_builtinAt a.entry ?_;unfold Builtin.«BaseException.__new__»;refine wpAt_bind ?_;show wpAt _ _ _ (stack>>=_) _ _ _;refine wpAt_bind (wpAt_stack λp k=>wpAt_of_wpAny ?_)
 wp_walk
 refine wpAt_of_wpAny ?_;rw[a.owner]
 repeat (first|with_reducible refine wpAny_madeHere_exc a.canon c ?_|with_reducible refine Sc c ?_|(with_reducible refine UZ c ?_;first|rw[f]|rw[i]|rw[j])|wp_step)
 show R _ _;rw[Q9];exact l
theorem rV{K:P6}(X:K.In h)(S:XShape h C bm)(m:R3 K (.ref C) "__init__"=My (My (.ref fI)))(n:isFn K (.ref fI)=Pt)(a:rest.length<=P0)
  (p:PY (Qk prog w) A (VD (.ref fI) (.ref (h.objs.size+1)::rest)) (λr s'=>r= .none/\Q (.done (.ret (.ref (h.objs.size+1)))) s') E
   ⟨(h.push {cls:= .type "tuple",data:= .seq rest.toArray}).push {cls:= .ref C,data:= .fields #[.ref h.objs.size,.none,.none,.none,.bool Pz,.none]},g,d,t,os⟩):
  PY (Qk prog w) A (Builtin.«type.__call__» ⟨.ref C::rest,[]⟩) Q E ⟨h,g,d,t,os⟩:=by
 have u:=S;obtain⟨⟨nm,q,N,bs,hdct,sn,sub,ab,col,dd,k0,k1,k2,k3,k5,f⟩,v,hB,F,H⟩:=S;have k:=S6
 repeat (first|with_reducible refine Sc f ?_|with_reducible refine wpAny_madeBy_exc f ?_|wp_step)
 refine codeAny_call_builtin_code (Wa _ k.quiet) (wpAny_check_new_subU k v (OwnTail.base (bmB:=bm)) f ?_);refine K0 u ?_ a;show PY _ _ _ _ _ _;have keep:∀b o,h.get? b=My o->((h.push {cls:= .type "tuple",data:= .seq rest.toArray}).push {cls:= .ref C,data:= .fields #[.ref h.objs.size,.none,.none,.none,.bool Pz,.none]}).get? b=My o:=λb o e=>Pr _ (Pr _ e);have i:=keep _ _ f;have l:=X.keeps keep;have c:((h.push {cls:= .type "tuple",data:= .seq rest.toArray}).push {cls:= .ref C,data:= .fields #[.ref h.objs.size,.none,.none,.none,.bool Pz,.none]}).get? (h.objs.size+1)=My {cls:= .ref C,data:= .fields #[.ref h.objs.size,.none,.none,.none,.bool Pz,.none]}:=by heap_get
 have j:(P7 C::bm).contains (.ref C)=Pt:=by simp
 unfold Vj
 repeat (first|with_reducible refine Sc c ?_|(with_reducible refine UZ i ?_;rw[j])|wp_step)
 show PY _ _ (typeLookup (.ref C) _) _ _ _;refine(W6 l m).here ?_;refine Rh (Pn ((YY l (.ref (h.objs.size+1)) (beq_iff_eq.mp n)).here ?_));refine Pn (QN p (λr s' y=>?_) λ_ _ x=>x);obtain⟨rfl,B⟩:=y
 wp_walk
 exact B
theorem EH{K:P6}(X:K.In h)(S:XShape h C bm)(c:R3 K (.ref C) "__init__"=My (My (.ref fI)))(e:isFn K (.ref fI)=Pt)(a:rest.length<=P0)
  (f:PY (Qk prog w) (A.under (.builtin "type.__call__" ⟨.ref C::rest,[]⟩)) (VD (.ref fI) (.ref (h.objs.size+1)::rest)) (λr s'=>r= .none/\Q (.ref (h.objs.size+1)) s') E
   ⟨(h.push {cls:= .type "tuple",data:= .seq rest.toArray}).push {cls:= .ref C,data:= .fields #[.ref h.objs.size,.none,.none,.none,.bool Pz,.none]},g,d,t,os⟩):
  PY (Qk prog w) A (VD (.ref C) rest) Q E ⟨h,g,d,t,os⟩:=by
 have i:=S;obtain⟨⟨nm,q,N,bs,hdct,sn,sub,ab,col,dd,k0,k1,k2,k3,k5,b⟩,j,hB,k,l⟩:=S;have f1:=tc_lookup;have f2:=tc_bind (.ref C);have m:(⟨h,g,d,t,os⟩:PM).TypeIs (.ref C) "type":=⟨_,b,rfl⟩;refine Vm (XM ?_);show PY _ _ (callAny (.ref C) _) _ _ _
 repeat (any_goals (first|assumption|with_reducible refine Sc b ?_|wp_step))
 refine⟨rfl,?_⟩;exact codeAny_call_builtin_at (Wa _ (by decide +kernel)) entry_typeCall (wpAny_check_type_call_sub b (rV X i c e a f))
theorem qw{l:Qn}{M:X2}(S:XShape h C bm)(o:h.get? e=My l)(c:l.cls= .ref C)(p:Q () ⟨h,g,d,t,os⟩):
  PY M A (Xr "ValueError.__init__" ⟨.ref e::rest,[]⟩) Q E ⟨h,g,d,t,os⟩:=by
 obtain⟨⟨nm,q,N,bs,hdct,sn,sub,ab,col,dd,k0,k1,k2,k3,k5,m⟩,r,hB,u,v⟩:=S;have i:=S6;have k:(P7 C::bm).contains (.type "ValueError")=Pt:=by rw[SO,r,Wo]
 have j:=i.noStar;simp only[Xr,i.initKind,i.initSplit,i.initRow]
 repeat (first|(with_reducible refine Sc o ?_;rw[c])|with_reducible refine Sc m ?_|(with_reducible refine UZ m ?_;rw[k])|wp_step)
 refine VF ?_;have f:∀(a b:String) (n:Nat),Bind.check ⟨.positional,"*","ValueError",.self,[⟨"args",.varPos,Pz⟩]⟩ a b n (Rb (λx=>x.fst) ({pos:=P7 e::rest}:Args).kw)=R6 ():=λa b n=>check_star_args _ _ _ _ _ _;rw[f];exact Pq p
theorem AA(S:XShape h C bm)(f:h.get? e=My (cD C dx t0))(a:rest.length<=P0)
  (j:∀h':Q0,h'.get? e=My (cD C dx h.objs.size)->(∀b o,b≠e->h.get? b=My o->h'.get? b=My o)->Q .none ⟨h',g,d,t,os⟩):
  PY (Qk prog w) A (VD (.builtin "ValueError.__init__") (.ref e::rest)) Q E ⟨h,g,d,t,os⟩:=by
 have i:=S6;refine Vm (UM i.init.plain i.initEntry (qw S f rfl ?_));have c:=Pr {cls:= .type "tuple",data:= .seq rest.toArray} f;unfold Builtin.«BaseException.__init__»
 dsimp only
 refine Pn ?_;refine Wm ?_ a;unfold Yu;refine Pn (Pn (Rm c rfl (x:= .ref t0) rfl ?_));refine Pn (TD c rfl (by simp) ?_)
 dsimp only
 refine Wl (Pq ?_);refine j _ ?_ λb o k l=>?_
 ·rw[RU _ c rfl]
  rfl
 ·rw[T6 _ _ (Ne.symm k)]
  exact Pr _ l
end
noncomputable def eS:List PH->Bool
 |[.type a,.type b,.type c,.type d]=>a=="ValueError"&&b=="Exception"&&c=="BaseException"&&d=="object"
 | .ref _::r=>eS r
 |_=>Pz
theorem t7(self:PH):refuseLoop self "__setattr__" [.type "ValueError",.type "Exception",.type "BaseException",.type "object"]=R6 ():=by kernel_rfl
theorem oS(self:PH):∀{l:List PH},eS l=Pt->refuseLoop self "__setattr__" l=R6 ()
 |[.type a,.type b,.type c,.type d],e=>by
  simp only[eS,Qq,SL]at e;obtain⟨⟨⟨rfl,rfl⟩,rfl⟩,rfl⟩:=e;exact t7 self
 | .ref c::r,e=>by rw[refuseLoop_ref];exact oS self (by cases r<;>exact e)
theorem wr:∀{l:List PH},eS l=Pt->l.contains (.type "object")=Pt
 |[.type a,.type b,.type c,.type d],e=>by
  simp only[eS,Qq,SL]at e;obtain⟨⟨⟨rfl,rfl⟩,rfl⟩,rfl⟩:=e;decide
 | .ref c::r,e=>by rw[SO,wr (l:=r) (by cases r<;>exact e),Wo]
section
variable{prog:Qu}{w:QH}{A:QU}{E:PH->PM->Prop}{s:PM}{C e:PD}{K:P6}{cd:ClassData}{name:Qz}{v:PH}
theorem EG{i:Qn}(X:K.In s.heap)(k:s.heap.get? e=My i)(a:i.cls= .ref C)(j:clsIn K C=My cd)(d:eS cd.mro=Pt)(l:R3 K (.ref C) name=My Po)
  (h:∀b,PY (Qk prog w) A.in1 (storeInOwnDict (.ref e) (.ref C) (.str name tk) name v b)
   (λg s'=>match g with| .done f=>R (.ok f) s'| .again c'=>c'.quiet=Pt/\SU (Qk prog w) A c' R s') (λx s'=>R (.error x) s') s):
  SU (Qk prog w) A (.call (.builtin "object.__setattr__") ⟨[.ref e,.str name tk,v],[]⟩) R s:=by
 have c:=PySem.F.store_object;have tp:SS (Qk prog w) s.heap (typeOf (.ref e)) (.ref C):=by
  have:=(Xo (M:=Qk prog w) (part:=My headPart) k);exact this.andThen (by rw[a];exact .now)
 have ne:cd.mro.isEmpty=Pz:=by cases q:cd.mro with|nil=>rw[q]at d;cases d|cons _ _=>rfl
 have sub:SS (Qk prog w) s.heap (Vj (.ref e) (.type "object")) Pt:=tp.andThen (PySem.W.looks_mroIn X (by unfold mroIn;rw[j,Vc,PL (by rw[ne];decide),wr d]));refine UM c.slot.plain c.entry (@PySem.W.check_slot (Qk prog w) _ _ s "object.__setattr__" "object" "__setattr__" (.ref e) [.str name tk,v] [] _ c.kind c.split sub (c.args (.ref e) (.str name tk) v) ?_);have hm:SS (Qk prog w) s.heap (mroOf (.ref C)) cd.mro:=(looks_clsIn X j).andThen .now;rw[PySem.W.osa_eq,refuse_eq];refine Pn (Pn (tp.here (Pn (hm.here ?_))));rw[oS _ d];refine Pq (Pn (tp.here (Pn ((W6 X l).here (Pn (Pq ?_))))));exact h _
theorem AC{b:Qn}(X:K.In s.heap)(c:s.heap.get? e=My b)(a:b.cls= .ref C)(hs:R3 K (.ref C) "__setattr__"=My (My (.builtin "object.__setattr__")))
  (h:SU (Qk prog w) A (.call (.builtin "object.__setattr__") ⟨[.ref e,.str name s.toks,v],[]⟩) (λr s'=>match r with| .ok (.ret _)=>Q () s'| .ok _=>False| .error x=>E x s') {s with toks:=s.toks+1}):
  PY (Qk prog w) A (setAttr (.ref e) name v) Q E s:=by
 have tp:SS (Qk prog w) s.heap (typeOf (.ref e)) (.ref C):=by
  have:=(Xo (M:=Qk prog w) (part:=My headPart) c);exact this.andThen (by rw[a];exact .now)
 refine Pn (wpAny_mkText (Pn (Pn (Pn (tp _ _ _ _ (λ_ _ e=>e) (W6 X hs _ _ _ _ (λ_ _ e=>e) (Rh ?_)))))));rw[PySem.F.store_object.slot.bind];refine Pn (Pq (Pn (Vm (TR h λr s' z=>?_))));rcases r with x|(v|_|_|_)<;>first|exact z|exact Pq (Pq z)
theorem EF(X:K.In s.heap)(a:s.heap.get? e=My (cD C Po t0))
  (hs:R3 K (.ref C) "__setattr__"=My (My (.builtin "object.__setattr__"))) (l:clsIn K C=My cd) (hd:cd.hasDict=Pt) (n:eS cd.mro=Pt) (p:R3 K (.ref C) name=My Po)
  (q:∀h':Q0,h'.get? e=My (cD C (My s.heap.objs.size) t0)->h'.Ns1 s.heap.objs.size (λy=>if y=name then My v else Po)->
   (∀b o,b≠e->s.heap.get? b=My o->h'.get? b=My o)->Q () {s with heap:=h',toks:=s.toks+2}):
  PY (Qk prog w) A (setAttr (.ref e) name v) Q E s:=by
 refine AC X a rfl hs (EG (s:={s with toks:=s.toks+1}) X a rfl l n p λb=>?_);refine Pn (Pq (Pn (Pn (Yk a (Pn (W0 (s:={s with toks:=s.toks+1}) (looks_clsIn X l) ?_))))));rw[hd];refine Pn (wpAny_alloc ?_);have c:=Pr {cls:= .type "dict",data:= .dict #[]} a;refine Pn (wpAny_update c (Pq ?_));have r:((s.heap.push {cls:= .type "dict",data:= .dict #[]}).update e λo=>{o with dict:=My s.heap.objs.size}).get? e=My (cD C (My s.heap.objs.size) t0):=RU _ c rfl;have d:s.heap.objs.size≠e:=Se (Qj a);have hn:((s.heap.push {cls:= .type "dict",data:= .dict #[]}).update e λo=>{o with dict:=My s.heap.objs.size}).Ns1 s.heap.objs.size λ_=>Po:=by
  refine XZ ((Heap.Ns.new s.heap (.type "dict")).sameBut (Rq ..) d)
 refine Pn (Pq (Pn ?_));refine wpAny_nsSet1 hn λh' f g=>?_;obtain⟨F,t,u,h,i,j⟩:=f.count (Xq name v UC.nil);refine Pn (wpAny_lookBehind h (by rw[i];exact pastItsLine_dict (Qc j (by show 1<=P0+1;decide))) ?_);refine Pq (q h' ((g.2 _ (Ne.symm d)).trans r) f λb o B m=>?_);have k:b≠s.heap.objs.size:=QK (Qj m);refine(g.2 _ k).trans ?_;rw[T6 _ _ (Ne.symm B)];exact Pr _ m
theorem AB{bm:List PH}{dx:Option PD}{t0:PD}{env:WN}{M:X2}{x:Sem PH}{Q:Flow->PM->Prop}(j:A.handled=Po)
  (h:PY M A x (λv a=>∃e t0 dx C bm,v= .ref e/\XShape a.heap C bm/\a.heap.get? e=My (cD C dx t0)/\E (.ref e) a) E s):PY M A (raiseStmt env (My x) Po) Q E s:=by
 unfold raiseStmt;refine Pn (QN h (λv a b=>?_) λ_ _ x=>x);obtain⟨e,t0,dx,C,bm,rfl,S,k,l⟩:=b;obtain⟨⟨nm,q,N,bs,hdct,sn,sub,ab,col,dd,k0,k1,k2,k3,k5,i⟩,m,hB,n,o⟩:=S;have c:(P7 C::bm).contains (.type "BaseException")=Pt:=by rw[SO,hB,Wo]
 have f:a.heap.get? e=My {cls:= .ref C,dict:=dx,data:= .fields #[.ref t0,.none,.none,.none,.bool Pz,.none]}:=k;obtain⟨p,g,d,r,os⟩:=a
 repeat (first|with_reducible refine Sc f ?_|with_reducible refine Sc i ?_|(with_reducible refine UZ i ?_;rw[c])|wp_step)
 exact wpAny_raiseNew_none j l
end
end L2
namespace L2
open PySem PySem.Spec PyProof.Rows
noncomputable def dE(C x:PD)(dx:Option PD):HO:= .ext λh=>∃t,h.get? x=My (cD C dx t)
theorem bP.there{h:Q0}(x:bP P w H h a o):∃b,h.get? a=My b:=by
 cases o with
 |lst xs=>obtain⟨_,_,_,_,e⟩:=x;exact⟨_,e⟩
 |tup xs=>obtain⟨_,_,_,_,e,_⟩:=x;exact⟨_,e⟩
 |ins C dx fs=>obtain⟨_,_,_,e,_⟩:=x;exact⟨_,e⟩
 |own y=>exact x
 |xd fs=>obtain⟨_,⟨_,_,_,e,_⟩,_⟩:=x;exact⟨_,e⟩
 |rng lo hi=>obtain⟨_,_,_,e⟩:=x;exact⟨_,e⟩
 |frz b u=>obtain⟨e,_⟩:=x;exact⟨_,e⟩
 |tbl ps=>exact⟨_,(show h.get? a=My _ from x)⟩
 |met f y=>exact⟨_,(show h.get? a=My _ from x)⟩
 |ext φ=>obtain⟨_,e,_⟩:=x;exact e
theorem qx{h:Q0}(e:h.get? x=My (cD C dx t)):bP P w H h x (dE C x dx):=
 ⟨⟨t,e⟩,⟨_,e⟩,λ_ _ ⟨t,a⟩ k=>⟨t,k _ a⟩⟩
theorem kH{h:Q0}(q:bP P w H h x (dE C x dx)):∃t,h.get? x=My (cD C dx t):=q.1
noncomputable def fK(H:Hp)(x:PD):Hp:=λb=>if b=x then Po else H b
theorem AK:fK H x x=Po:=by unfold fK;rw[PP rfl]
theorem iJ(h:b≠x):fK H x b=H b:=by unfold fK;rw[PL h]
theorem AJ(h:fK H x b=My o):b≠x/\H b=My o:=by
 unfold fK at h;split at h
 ·cases h
 ·exact⟨by assumption,h⟩
structure Flown (P:Qu) (w:QH) (outer:List WN) (H:Hp) (s:PM) (E:XK) (x C:PD) (H':Hp) (s':PM):Prop where
 os:s'.os=s.os
 bare:U1 s'.gens
 un:Un (frs outer) [] H H' s.heap s'.heap
 hok:HOk P w H' s'.heap
 tr:∃(oe:Qn) (vs:Array PH) (T:PD) (oT:Qn) (ts:Array PH) (a0:PH),s'.heap.get? x=My oe/\(oe.cls= .ref C/\vs[0]?=My a0)/\oe.data= .fields vs/\vs[1]?=My (.ref T)/\T≠x/\s'.heap.get? T=My oT/\oT.data= .fields ts/\ts[3]?=My .none/\H' T=Po/\s.heap.get? T=Po
 xn:H' x=Po
 xs:s.heap.get? x=Po
 wish:E (.ref C) Po H'
def CXE(P:Qu)(w:QH):CXT:=λouter H s E e s'=>∃x C a,e= .ref x/\Flown P w outer H s E x C a s'
theorem rf{X:Cx}{s s':PM}{E:XK}(I:Inv X pins σ H s)(g:X.stack=X.env::X.outer)(i:X.env.frame=My X.env.locals)(R:X.ex=[])
  (os:s'.os=X.s₀.os) (bare:U1 s'.gens) (d:Un (frs X.stack) [] X.H₀ H' X.s₀.heap s'.heap) (hok:HOk X.prog X.w H' s'.heap) (y:∀b∈frs X.stack,H' b=Po)
  (c:∀b∈ext,X.s₀.heap.get? b=Po/\H' b=Po) (O:x∈ext) (wish:E (.ref C) Po H')
  (L:Heap.LeftW (W4 s'.heap (ext++frs X.stack)) (X.env::X.outer) x (.ref C) a0 s'.heap h'):Flown X.prog X.w X.outer X.H₀ X.s₀ E x C H' {s' with heap:=h'}:=by
 obtain⟨U,L2,W,Y⟩:=L;have j:∀b∈frs X.outer,b∈frs X.stack:=λb hb=>by
  rw[g];unfold frs;rw[Rw,i];exact Ps _ hb
 have h:∀b∈frs X.stack,b=X.env.locals\/b∈frs X.outer:=λb hb=>by
  rw[g]at hb;unfold frs at hb;rw[Rw,i]at hb;exact PZ.mp hb
 have A:∀b o,X.s₀.heap.get? b=My o->b≠X.env.locals:=λb o e=>QK (Qm (Qj e) I.ok.above);have stay:∀b o,s'.heap.get? b=My o->b∉ext->b∉frs X.stack->h'.get? b=My o:=λb o e B Z=>
  U b o (hideAll_get _ e λhm=>(Rk.mp hm).elim B Z)
 have k:∀b o,X.s₀.heap.get? b=My o->b∉ext:=λb o e hb=>by rw[(c b hb).1]at e;cases e
 have f:∀b∈frs X.stack,∃o,h'.get? b=My o/\∀vs,o.data≠ .fields vs:=λb hb=>(L2.mem (by rw[←g];exact hb)).2;obtain⟨oe,vs,T,oT,P,he,hc,hd,B,l,F,Q,m,h3⟩:=W;have p:H' T=Po/\X.s₀.heap.get? T=Po:=by
  by_cases hm:T∈ext++frs X.stack
  ·rcases Rk.mp hm with hm|hm
   ·exact⟨(c T hm).2,(c T hm).1⟩
   ·obtain⟨o,e,nf⟩:=f T hm
    rw[Q]at e;cases e;exact Ql m (nf P)
  ·have hs:s'.heap.get? T=Po:=by
    cases q:s'.heap.get? T with
    |none=>rfl
    |some o=>rw[hideAll_get _ q hm]at l;cases l
   constructor
   ·cases q:H' T with
    |none=>rfl
    |some o=>obtain⟨ob,e⟩:=(hok T o q).there;rw[hs]at e;cases e
   ·cases q:X.s₀.heap.get? T with
    |none=>rfl
    |some o=>obtain⟨ob,e⟩:=d.there T o q (by simp);rw[hs]at e;cases e
 refine⟨os,bare,⟨λb o e n hb _=>?_,λb o e n hb _=>?_,λb o e n hb=>d.free b o e n hb,λb o e _=>?_,d.tups,d.frzs,d.tbls⟩,λa o e=>?_,⟨oe,vs,T,oT,P,a0,he,hc,hd,B,F,Q,m,h3,p.1,p.2⟩,(c x O).2,(c x O).1,wish⟩
 ·have nf:b∉frs X.stack:=λz=>(h b z).elim (A b o e) hb
  exact stay b o (d.keep b o e n nf (by simp)) (k b o e) nf
 ·obtain⟨sl,r⟩:=d.slot b o e n (j b hb) (by simp)
  obtain⟨_,J,v,nf⟩:=I.ok.funs.mem hb;rw[e]at v;cases v;obtain⟨N,e3⟩:=Y b _ r nf;exact⟨N,e3⟩
 ·obtain⟨J,r⟩:=d.there b o e (by simp)
  by_cases hb:b∈frs X.stack
  ·obtain⟨o2,v,_⟩:=f b hb
   exact⟨o2,v⟩
  ·exact⟨J,stay b J r (k b o e) hb⟩
 ·refine(hok a o e).stay (λb u hb r=>?_) (λ_ q=>q) λ_ _ q=>q
  have t:H' b≠Po:=by
   rcases hb with rfl|hb
   ·rw[e];simp
   ·rw[hb];simp
  exact stay b u r (λz=>t (c b z).2) λz=>t (y b z)
theorem rn{h base:Q0}(d:h.FunFrames base l)(c:∀b∈frs l,b∈as):h.FunFrames (W4 h as) l:=
 PySem.W.funFrames_hide d λenv e a ha=>c a (by unfold frs;exact UP.mpr ⟨env,e,ha⟩)
theorem Kr{X:Cx}{E F:XK}(a:X.stack=X.env::X.outer)(d:X.env.frame=My X.env.locals)(f:X.ex=[])(Q:∀cls dx H,F cls dx H->E cls dx H)
  (I:Inv X pins σ H s) (h:CXE X.prog X.w X.stack H s F e s'):
  PY (Qk X.prog X.w) X.A (leaving X.env e) (λ_ j=>CXE X.prog X.w X.outer X.H₀ X.s₀ E e j) E1 s':=by
 obtain⟨x,C,J,rfl,os,bare,un,hok,⟨R,vs,T,U,W,a0,Y,Z,hd,h1,k,hT,m,h3,n,p⟩,xn,xs,wish⟩:=h;have nofs:∀b∈X.fs,b∈frs X.stack:=λb hb=>by
  rw[a];unfold frs;rw[Rw,d];exact Ps _ hb
 have N:Un (frs X.stack) [] X.H₀ H X.s₀.heap s.heap:=by
  have b:=I.base;rw[f]at b;exact b.mono nofs λ_ z=>z
 have U0:=N.trans un;have g:∀b,s.heap.get? b=Po->X.s₀.heap.get? b=Po:=λb e=>by
  cases q:X.s₀.heap.get? b with
  |none=>rfl
  |some o=>obtain⟨o',O⟩:=N.there b o q (by simp);rw[e]at O;cases O
 have c:=I.stack;have i:s'.heap.FunFrames X.base X.stack:=by
  have all:∀(l:List WN),(∀b∈frs l,b∈frs X.stack)->s.heap.FunFrames X.base l->s'.heap.FunFrames X.base l:=by
   intro l
   induction l with
   |nil=>intro _ _;trivial
   |cons env r ih=>
    intro hs hl;obtain⟨hk,⟨L,o,t,hn,u,v⟩,hr⟩:=hl;have P:L∈frs X.stack:=hs L (by unfold frs;rw[Rw,t];exact PF);obtain⟨sl,e⟩:=un.slot L o u (I.stkFree L P) P (by simp);exact⟨hk,⟨L,_,t,hn,e,v⟩,ih (λb hb=>hs b (by unfold frs;rw[Rw,t];exact Ps _ hb)) hr⟩
  exact all X.stack (λ_ hb=>hb) c
 have y:∀b∈frs X.stack,J b=Po:=λb hb=>by
  obtain⟨_,o,u,_⟩:=c.mem hb;exact un.free b o u (I.stkFree b hb) (by simp)
 have B:∀b∈frs X.stack,b∈[x,T]++frs X.stack:=λb hb=>QE _ hb;have hF:s'.heap.FunFrames (W4 s'.heap ([x,T]++frs X.stack)) (X.env::X.outer):=by
  have z:=rn i B;rw[a]at z⊢;exact z
 refine wpAny_leaving_nextW (base:=W4 s'.heap ([x,T]++frs X.stack)) (by rw[←a];exact I.ok.frames) hF d ⟨R,vs,T,U,W,Y,Z,hd,h1,W5 _ (by simp),k,hT,m,h3⟩ (λb o q=>of_hideAll _ q) (W5 _ (by simp)) λh' L=>?_;refine⟨x,C,J,rfl,rf I a d f (os.trans I.os) bare U0 hok y (λb hb=>?_) (by simp) (Q _ _ _ wish) L⟩;rcases PZ.mp hb with rfl|hb
 ·exact⟨g _ xs,xn⟩
 ·obtain rfl:b=T:=by simpa using hb
  exact⟨g _ p,n⟩
theorem CV{X:Cx}{E:XK}(c:X.stack=X.env::X.outer)(g:X.env.frame=My X.env.locals)(h:X.ex=[])
  (I:Inv X pins σ H s) (j:H x=My (dE C x dx)) (m:X.H₀ x=Po) (wish:E (.ref C) Po (fK H x)):
  PY (Qk X.prog X.w) X.A (leaving X.env (.ref x)) (λ_ k=>CXE X.prog X.w X.outer X.H₀ X.s₀ E (.ref x) k) E1 s:=by
 obtain⟨t,p⟩:=kH (I.hok x _ j);have nofs:∀b∈X.fs,b∈frs X.stack:=λb d=>by
  rw[c];unfold frs;rw[Rw,g];exact Ps _ d
 have f:Un (frs X.stack) [] X.H₀ H X.s₀.heap s.heap:=by
  have b:=I.base;rw[h]at b;exact b.mono nofs λ_ z=>z
 have xs:X.s₀.heap.get? x=Po:=by
  cases q:X.s₀.heap.get? x with
  |none=>rfl
  |some o=>have:=f.free x o q m (by simp);rw[j]at this;cases this
 have ne:∀b o,H b=My o->(∀r,o≠ .ext r)->b≠x:=λb o e hn z=>by subst z;rw[j]at e;cases e;exact hn _ rfl
 have v:Un (frs X.stack) [] X.H₀ (fK H x) X.s₀.heap s.heap:=by
  refine⟨f.keep,f.slot,λb o e n d=>?_,f.there,λb ys q=>?_,λb o u q=>?_,λb ps q=>?_⟩
  ·unfold fK;split
   ·rfl
   ·exact f.free b o e n d
  ·have:=f.tups b ys q
   rw[iJ (ne b _ this λ_ z=>by cases z)];exact this
  ·have:=f.frzs b o u q
   rw[iJ (ne b _ this λ_ z=>by cases z)];exact this
  ·obtain⟨more,this⟩:=f.tbls b ps q
   exact⟨more,by rw[iJ (ne b _ this λ_ z=>by cases z)];exact this⟩
 have hok:HOk X.prog X.w (fK H x) s.heap:=λa o e=>by
  obtain⟨B,y⟩:=AJ e;refine(I.hok a o y).stay (λ_ _ _ q=>q) (λb q=>?_) λb ys q=>?_
  ·rw[iJ (ne b _ q λ_ z=>by cases z)];exact q
  ·rw[iJ (ne b _ q λ_ z=>by cases z)];exact q
 have i:=I.stack;have l:∀b∈frs X.stack,fK H x b=Po:=λb d=>by
  unfold fK;split
  ·rfl
  ·exact I.stkFree b d
 have hF:s.heap.FunFrames (W4 s.heap ([x]++frs X.stack)) (X.env::X.outer):=by
  have z:=rn i (as:=[x]++frs X.stack) λb d=>QE _ d;rw[c]at z⊢;exact z
 refine wpAny_leaving_firstW (base:=W4 s.heap ([x]++frs X.stack)) (a0:= .ref t) (by rw[←c];exact I.ok.frames) hF g p (λb o q=>of_hideAll _ q) (W5 _ (by simp)) rfl rfl rfl λh' L=>?_;refine⟨x,C,fK H x,rfl,rf (ext:=[x]) I c g h I.os I.bare v hok l (λb d=>?_) (by simp) wish L⟩;obtain rfl:b=x:=by simpa using d
 exact⟨xs,AK⟩
section
variable{X:Cx}{pins:List (PD×Qn)}{σ:St}{H H':Hp}{s s':PM}{E:XK}{x C:PD}
end
section
variable{X:Cx}
end
structure XC (K:P6) (C:PD):Prop where
 sh:∃bm,∀h:Q0,K.In h->XShape h C bm
 sa:R3 K (.ref C) "__setattr__"=My (My (.builtin "object.__setattr__"))
 cd:∃cd,clsIn K C=My cd/\cd.hasDict=Pt/\eS cd.mro=Pt
theorem rX{K:P6}{bs bm:List PH}{hdct:Bool}{ab:Bool}{cd:ClassData}
  (l:K.lookup C=My (excClassObj nm q C N bs bm hdct sn sub ab col dd k0 k1 k2 k3 k5 "ValueError.__new__")) (sa:R3 K (.ref C) "__setattr__"=My (My (.builtin "object.__setattr__"))) (c:clsIn K C=My cd)
  (g:(bm.contains (.type "ValueError")&&bm.contains (.type "BaseException")&&!bm.contains (.type "AttributeError")&&!bm.contains (.type "NameError")&&cd.hasDict&&eS cd.mro)=Pt):XC K C:=by
 simp only[Qq,Bool.not_eq_true']at g;obtain⟨⟨⟨⟨⟨a,b⟩,i⟩,d⟩,e⟩,f⟩:=g;exact⟨⟨bm,λh X=>⟨⟨nm,q,N,bs,hdct,sn,sub,ab,col,dd,k0,k1,k2,k3,k5,X _ _ l⟩,a,b,i,d⟩⟩,sa,cd,c,e,f⟩
structure XMk (K:P6) (C f:PD):Prop where
 xc:XC K C
 init:R3 K (.ref C) "__init__"=My (My (.ref f))
 fn:isFn K (.ref f)=Pt
 kp:Vl K (.ref C)=Pt
section
variable{X:Cx}{CX:CXT}{k:Nat}{f C:PD}{fd:Qi}{ps:List Qz}{sp:Sp}{dvs:List V}{ds:List PH}{E:St->XK}{x m:Qz}{p pos apos:Uh}{e o:Expr}{es:List Expr}{ta:TE}{t:TA}
def Lp(C:PD)(sp:Sp)(dvs:List V)(E:St->XK)(t:TA):TE:=λa H Q=>t a H λvs b=>vs.length<=P0/\∀x,b x=Po->
 sp (.ref x::(vs++dvs)) (upd b x (dE C x Po)) (λv c=>v= .non/\Q (.ref x) c) (E a)
theorem JX{vs:List V}(M:XMk X.K C f)(F:FnOk X.prog X.w X.K X.mg X.base CX k f fd ps sp)(y:Room (k+1) X.A)(B:ax X.K fd ps ds)(hd:ar dvs ds)
  (J:bS CX X E) (I:Inv X pins σ H s) (r:ar vs us) (L:vs.length<=P0)
  (h:∀x,H x=Po->sp (.ref x::(vs++dvs)) (upd H x (dE C x Po)) (λv N=>v= .non/\Q (.ref x) N) (E σ)):
  PY (Qk X.prog X.w) X.A (VD (.ref C) us) (EP X pins σ Q) X.xe s:=by
 have l:=h (s.heap.objs.size+1) (I.hok.fresh (T1 _));obtain⟨bm,sh⟩:=M.xc.sh;have O:Inv X pins σ H {s with heap:=s.heap.push {cls:= .type "tuple",data:= .seq us.toArray}}:=I.kept (t':=s.toks) λb o q=>Pr _ q;have P:((s.heap.push {cls:= .type "tuple",data:= .seq us.toArray}).push (cD C Po s.heap.objs.size)).get? (s.heap.objs.size+1)=My (cD C Po s.heap.objs.size):=by
  have:=P4 (s.heap.push {cls:= .type "tuple",data:= .seq us.toArray}) (o:=cD C Po s.heap.objs.size) rfl;rwa[Q9]at this
 have j:Inv X pins σ (upd H (s.heap.objs.size+1) (dE C (s.heap.objs.size+1) Po)) {s with heap:=(s.heap.push {cls:= .type "tuple",data:= .seq us.toArray}).push (cD C Po s.heap.objs.size)}:=
  O.laid (a:=s.heap.objs.size+1) (o:=dE C (s.heap.objs.size+1) Po) (t':=s.toks) (λb u q=>Pr _ q) (X4 (Q9 _ _)) (qx P)
 have n:ar (V.ref (s.heap.objs.size+1)::(vs++dvs)) (P7 (s.heap.objs.size+1)::(us++ds)):= .cons rfl (r.append hd);have R:(P7 (s.heap.objs.size+1)::us++ds).length=ps.length:=by
  have e:=n.length;rw[F.len _ _ _ _ l]at e;exact e.symm
 have i:PY (Qk X.prog X.w) (X.A.under (.builtin "type.__call__" ⟨.ref C::us,[]⟩)) (VD (.ref f) (.ref (s.heap.objs.size+1)::us)) (λr s'=>r= .none/\EP X pins σ Q (.ref (s.heap.objs.size+1)) s') X.xe
   {s with heap:=(s.heap.push {cls:= .type "tuple",data:= .seq us.toArray}).push (cD C Po s.heap.objs.size)}:=by
  refine Vm (TR (F.run _ X.stack _ _ ⟨P7 (s.heap.objs.size+1)::us,[]⟩ (P7 (s.heap.objs.size+1)::(us++ds)) _ _ (E σ) (y.make C us [])
   (j.env0.make C us []) (B _ (P7 (s.heap.objs.size+1)::us) j.kIn R) n l) λr s' c=>?_)
  cases r with
  |error e=>exact J pins σ _ _ e s' j c
  |ok fl=>
   cases fl with
   |ret u=>
    obtain⟨v,T,U,W,Y,q3⟩:=j.after c;subst Y;exact⟨W,⟨V.ref (s.heap.objs.size+1),T,U,rfl,q3⟩⟩
   |next=>exact RQ c
   |brk=>exact RQ c
   |cont=>exact RQ c
 obtain⟨Z,g,d,tk,os⟩:=s;exact EH I.kIn (sh _ I.kIn) M.init M.fn (by rw[←r.length];exact L) i
theorem d9(M:XMk X.K C f)(F:FnOk X.prog X.w X.K X.mg X.base CX k f fd ps sp)(g:Room (k+1) X.A)(i:Gl X x)(hm:X.mg x=My (.ref C))(j:ax X.K fd ps ds)(hd:ar dvs ds)(l:bS CX X E)
  (ha:PA X (e::es) t) (b:(x==("__debug__":Qz))=Pz:=by decide) (n:PX (e::es) X.env=(Pz,QW e X.env)::PX es X.env:=by rfl) (c:(RP pos (PX es X.env)).any (·.1)=Pz:=by rfl):
  PE X (.Call (.Name x p) (e::es) [] pos) (Lp C sp dvs E t):=by
 intro a s u H Q I h;refine Uc (j3 I i hm ?_ b);refine WJ (h₀:=X.base) I.ok.mod.kin M.kp (thn (ha pos a s u H _ I h) λus y ⟨vs,B,d,r,v,q⟩=>⟨d.kIn,?_⟩) n c;exact JX M F g j hd l d r v q
structure ClsFn (K:P6) (D:PD) (m:Qz) (f:PD):Prop where
 ga:specialIn K (.ref D) "__getattribute__"=My (My (.builtin "type.__getattribute__"))
 rd:PySem.W.readsIn K D (.type "type")=Pt
 fnd:YZ K (.ref D) (.type "type") m=My (.val (.ref f))
 kp:Vl K (.ref f)=Pt
theorem iq{D:PD}(c:ClsFn X.K D m f)(F:FnOk X.prog X.w X.K X.mg X.base CX k f fd ps sp)(j:Room k X.A)(l:Gl X x)(hm:X.mg x=My (.ref D))(n:ax X.K fd ps ds)(hd:ar dvs ds)(q:bS CX X E)
  (ha:PA X (e::es) t) (b:(x==("__debug__":Qz))=Pz:=by decide) (d:PX (e::es) X.env=(Pz,QW e X.env)::PX es X.env:=by rfl) (g:(RP pos (PX es X.env)).any (·.1)=Pz:=by rfl)
  (u:QW (.Call (.Attribute (.Name x p) m apos) (e::es) [] pos) X.env=(do
   let ov ←QW (.Name x p) X.env
   Tk apos.atName
   let (f,first) ←TU [ov] (Vd ov m pl)
   W2 pos f first (RP pos (PX (e::es) X.env)) (VJ pos (Ud [] X.env))):=by rfl):
  PE X (.Call (.Attribute (.Name x p) m apos) (e::es) [] pos) (HW sp dvs E t):=by
 intro a s v H Q I h;refine WD (pl:=pl) (j3 I l hm ?_ b) u;refine PySem.W.method_cls I.kIn c.ga (PySem.W.cls_value I.kIn c.rd c.fnd rfl ?_);have y:=I.tok (s.toks+1);refine WJ (first:=[]) (h₀:=X.base) I.ok.mod.kin c.kp (thn (ha pos a _ v H _ y h) λus B ⟨vs,J,i,r,q2⟩=>⟨i.kIn,?_⟩) d g
 exact oP F j n hd q i r q2
def tVin(K:P6)(t:TA):TE:=λb H Q=>t b H λvs a=>∃x C dx rest,vs= .ref x::rest/\rest.length<=P0/\a x=My (dE C x dx)/\XC K C/\Q .non (upd a x (dE C x dx))
theorem ya(I:Inv X pins σ H s)(r:ar vs us)
  (h:∃x C dx rest,vs= .ref x::rest/\rest.length<=P0/\H x=My (dE C x dx)/\XC X.K C/\Q .non (upd H x (dE C x dx))):PY (Qk X.prog X.w) X.A (VD (.builtin "ValueError.__init__") us) (EP X pins σ Q) X.xe s:=by
 obtain⟨x,C,dx,rest,rfl,l,a,c,q⟩:=h;cases r with
 |cons r1 n=>
  cases r1;obtain⟨t0,v⟩:=kH (I.hok x _ a);obtain⟨bm,sh⟩:=c.sh;obtain⟨F,g,d,i,os⟩:=s;refine AA (sh _ I.kIn) v (by rw[←n.length];exact l) λh' j keep=>?_;have y:Inv X pins σ (upd H x (dE C x dx)) ⟨h',g,d,i,os⟩:=I.write (t':=i) (x:=x) (e:=x) (by rw[a];exact Y5) (.inl rfl) (λb u B q=>keep b u B q) ⟨_,j⟩ (qx j);exact⟨.non,_,y,rfl,q⟩
theorem JH:typeOf (.type "ValueError")=R6 (.type "type"):=by kernel_rfl
theorem JI:Manifest.isStub "ValueError"=Pz:=by decide +kernel
theorem JJ{K:P6}:YZ K (.type "ValueError") (.type "type") "__init__"=My (.val (.builtin "ValueError.__init__")):=by kernel_rfl
set_option maxHeartbeats 4000000 in
theorem CQ(d:Gl X "ValueError")(hm:X.mg "ValueError"=Po)(ha:PA X (e::es) t)(b:PX (e::es) X.env=(Pz,QW e X.env)::PX es X.env:=by rfl)(c:(RP pos (PX es X.env)).any (·.1)=Pz:=by rfl)
  (g:QW (.Call (.Attribute (.Name "ValueError" p) "__init__" apos) (e::es) [] pos) X.env=(do
   let ov ←QW (.Name "ValueError" p) X.env
   Tk apos.atName
   let (f,first) ←TU [ov] (Vd ov "__init__" pl)
   W2 pos f first (RP pos (PX (e::es) X.env)) (VJ pos (Ud [] X.env))):=by rfl):
  PE X (.Call (.Attribute (.Name "ValueError" p) "__init__" apos) (e::es) [] pos) (tVin X.K t):=by
 intro a s i H Q I h;obtain⟨m,F⟩:=I.fr;refine WD (pl:=pl) (f8 I d hm PyProof.Rows.Boot.«ValueError» ?_) g;refine PySem.W.method_type (v:= .builtin "ValueError.__init__") F I.mod.kin JH JI JJ rfl ?_;have j:=I.tok (s.toks+1);exact VR (thn (ha pos a _ i H _ j h) λus n ⟨vs,q,l,r1,q1⟩=>ya l r1 q1) b c
def LE(K:P6)(ta g:TE)(f:Qz):TS:=λD b H=>g b H λy h=>ta b h λx c=>∃a C,x= .ref a/\c a=My (dE C a Po)/\XC K C/\R3 K (.ref C) f=My Po/\
 ∀d,c d=Po->d≠a->D.nx b (upd (upd c d (.xd [(f,y)])) a (dE C a (My d)))
theorem CL{o d:Expr}{f:Qz}(ha:PE X o ta)(R:PE X d tv)(hs:Ue d (My (.Attribute o f pos')) pos.line X.env=R6 Pz):PS X (.Assign [.Attribute o f pos'] d pos) (LE X.K ta tv f):=by
 intro l s B H D I h;refine Xj (thn (R l s B H _ I h) λu T F=>?_) hs;obtain⟨y,U,W,Y,q⟩:=F;refine thn (ha l T B U _ W q) λZ r h_=>?_;obtain⟨x,L,w,rx,a,C,ex,A,c,n,q2⟩:=h_;subst ex;obtain rfl:Z=P7 a:=rx;obtain⟨t0,N⟩:=kH (w.hok a _ A);obtain⟨cd,c1,c2,c3⟩:=c.cd;refine EF w.kIn N c.sa c1 c2 c3 n λh' O P keep=>?_;have hd:L r.heap.objs.size=Po:=w.fresh;have J:r.heap.objs.size≠a:=Se (Qj N);have od:∃o,h'.get? r.heap.objs.size=My o:=let ⟨o,_,_,e,_⟩:=P;⟨o,e⟩
 have i:∀b o,L b=My o->(∀φ,o≠ .ext φ)->b≠a:=λb o e hn z=>by subst z;rw[A]at e;cases e;exact hn _ rfl
 refine⟨B,_,w.un (h':=h') (t':=r.toks+2) ⟨λb o e j _ _=>keep b o (λz=>by subst z;rw[A]at j;cases j) e,λb o e j _ _=>⟨o.slots,keep b o (λz=>by subst z;rw[A]at j;cases j) e⟩,λb o e j _=>?_,λb o e _=>?_,λb ys e=>?_,λb o ys e=>?_,λb ys e=>?_⟩ λb o e=>?_,q2 _ hd J⟩
 ·rw[upd_ne (λz=>by subst z;rw[A]at j;cases j),upd_ne (QK (Qj e))];exact j
 ·by_cases z:b=a
  ·subst z;exact⟨_,O⟩
  ·exact⟨o,keep b o z e⟩
 ·rw[upd_ne (i b _ e λ_ z=>by cases z),upd_ne (ne_of_none e hd)];exact e
 ·rw[upd_ne (i b _ e λ_ z=>by cases z),upd_ne (ne_of_none e hd)];exact e
 ·exact⟨#[],by rw[upd_ne (i b _ e λ_ z=>by cases z),upd_ne (ne_of_none e hd),e];simp⟩
 ·by_cases z:b=a
  ·subst z
   rw[af]at e;cases e;exact qx O
  ·rw[upd_ne z]at e
   by_cases Q:b=r.heap.objs.size
   ·subst Q
    rw[af]at e;cases e;refine⟨_,P,λg=>?_⟩;by_cases q:g=f
    ·subst q
     simp only[Ti,Ww,QY];exact Y
    ·have hb:(g==f)=Pz:=beq_eq_false_iff_ne.mpr q
     simp only[Ti,hb,List.lookup_nil,PL q];trivial
   ·rw[upd_ne Q]at e
    refine(w.hok b o e).stay (λc v hc q=>keep c v ?_ q) (λc q=>?_) λc ys q=>?_
    ·rcases hc with rfl|hc
     ·exact z
     ·exact i c _ hc λ_ z=>by cases z
    ·rw[upd_ne (i c _ q λ_ z=>by cases z),upd_ne (ne_of_none q hd)];exact q
    ·rw[upd_ne (i c _ q λ_ z=>by cases z),upd_ne (ne_of_none q hd)];exact q
end
def yD(H₀:Hp)(K:P6)(E:XK)(b:TE):TS:=λ_ c H=>b c H λv a=>∃x C dx,v= .ref x/\a x=My (dE C x dx)/\H₀ x=Po/\XC K C/\E (.ref C) Po (fK a x)
section
variable{P:Qu}{w:QH}{K:P6}{mg:Qz->Option PH}{base:Q0}{N:List Qz}{qual:Qz}{scope:Scope}{f:PD}{cd:PH}{A:QU}{outer:List WN}{s:PM}{H:Hp}{E:XK}
theorem bO:bS (CXE P w) (c7 (CXE P w) P w K mg base N qual scope f cd A outer s H E) (λ_=>E):=λa b c d e s' I h=>Kr (X:=c7 (CXE P w) P w K mg base N qual scope f cd A outer s H E) rfl rfl rfl (λ_ _ _ z=>z) I h
theorem cK:bS (CXE P w) X E0:=λ_ _ _ _ _ _ _ h=>by
 obtain⟨_,_,_,_,F⟩:=h;exact F.wish.elim
theorem cP:YX (Qk P w) (A.deeper (Um qual scope s.heap.objs.size f cd)) (Um qual scope s.heap.objs.size f cd) (c7 (CXE P w) P w K mg base N qual scope f cd A outer s H E).xe:=PassesOwn.leaving
theorem cz(hd:A.handled=Po)(g:PE (c7 (CXE P w) P w K mg base N qual scope f cd A outer s H E) e te):PS (c7 (CXE P w) P w K mg base N qual scope f cd A outer s H E) (.Raise (My e) Po pos) (yD H K E te):=by
 intro a i j k D I h;rw[arm_exec_Raise];refine Pn (R8 ?_);refine AB (env:=(c7 (CXE P w) P w K mg base N qual scope f cd A outer s H E).env) (bm:=[]) (dx:=Po) (t0:=0) hd ?_;refine Pn (thn (g a i j k _ I h) λu o l=>?_);obtain⟨v,p,b,r,x,C,dx,m,ex,n,c,q⟩:=l;refine Pn (R8 (Pq ?_));subst m;obtain rfl:u=P7 x:=r;obtain⟨t0,d⟩:=kH (b.hok x _ ex);obtain⟨bm,sh⟩:=c.sh;exact⟨x,t0,dx,C,bm,rfl,sh _ b.kIn,d,CV (X:=c7 (CXE P w) P w K mg base N qual scope f cd A outer s H E) rfl rfl rfl b ex n q⟩
end
structure FunD (K:P6) (x qual:Qz) (st:Q6) (f:PD) (fd:Qi):Prop where
 ex:∃(oc:PH) (od:Option PD) (dV kV doc pm:PH) (an:Option PD) (cdv ct:PH) (osl:Array (Option PH)),
  fd=TY x qual (iK st) (cc st) (ae st) dV kV doc pm an cdv ct/\K.lookup f=My ⟨oc,od,.func fd,osl⟩/\UB K cdv qual=Pt
 kp:Vl K (.ref f)=Pt
theorem KV{K:P6}{st:Q6}(l:K.lookup f=My ⟨oc,od,.func (TY x qual (iK st) (cc st) (ae st) dV kV doc pm an cdv ct),osl⟩)
  (c:UB K cdv qual=Pt) (k:Vl K (.ref f)=Pt):FunD K x qual st f (TY x qual (iK st) (cc st) (ae st) dV kV doc pm an cdv ct):=⟨⟨oc,od,dV,kV,doc,pm,an,cdv,ct,osl,rfl,l,c⟩,k⟩
section
variable{P:Qu}{w:QH}{K:P6}{mg:Qz->Option PH}{base:Q0}
theorem FunD.okE{st:Q6}{N ps:List Qz}(F:FunD K x qual st f fd)(S:FnScope N ps (ae st))(len:∀vs H Q E,sp vs H Q E->vs.length=ps.length)
  (b:∀(a:PH) (A:QU) (outer:List WN) (s:PM) (H:Hp) (vs:List V) (Q:VK) (E:XK),Room k (A.deeper (Um qual (ae st) s.heap.objs.size f a))->sp vs H Q E->
   ∃t,PSs (c7 (CXE P w) P w K mg base N qual (ae st) f a A outer s H E) (cc st) t/\t {nx:=λ_ e=>Q .non e,rt:=Q} (fi N vs) H):FnOk P w K mg base (CXE P w) (k+1) f fd ps sp:=by
 obtain⟨l,m,n,o,g,p,q,a,ct,h,rfl,i,c⟩:=F.ex;exact IV i c S len λA outer s H vs Q E j d=>b a A outer s H vs Q E j d
theorem FunD.ok{st:Q6}{N ps:List Qz}(F:FunD K x qual st f fd)(S:FnScope N ps (ae st))(len:∀vs H Q E,sp vs H Q E->vs.length=ps.length)
  (b:∀(a:PH) (A:QU) (outer:List WN) (s:PM) (H:Hp) (vs:List V) (Q:VK) (E:XK),Room k (A.deeper (Um qual (ae st) s.heap.objs.size f a))->sp vs H Q E->
   ∃t,PSs (c7 (CXE P w) P w K mg base N qual (ae st) f a A outer s H E).nox (cc st) t/\t {nx:=λ_ e=>Q .non e,rt:=Q} (fi N vs) H):FnOk P w K mg base (CXE P w) (k+1) f fd ps sp:=by
 obtain⟨m,n,o,p,g,r,u,a,ct,i,rfl,j,c⟩:=F.ex;refine IV j c S len λA outer s H vs Q E l d=>?_;obtain⟨t,h,q⟩:=b a A outer s H vs Q E l d;exact⟨t,h.nox,q⟩
end
abbrev TJ:=St->Hp->Nat->(Nat->Hp->Prop)->Prop
def PJ(X:Cx)(es:List Expr)(t:TJ):Prop:=
 ∀(a:List (PD×Qn)) (s:PM) (b:St) (H:Hp) (acc:Qz) (Q:VK),Inv X a b H s->acc.length<=P0->(t b H acc.length λn c=>n<=P0/\∀z:Qz,z.length<=n->Q (.str z) c)->
  PY (Qk X.prog X.w) X.A (joinParts acc (Vi es X.env)) (EP X a b Q) X.xe s
noncomputable def jNil:TJ:=λ_ H n Q=>Q n H
def jStr(m:Nat)(t:TJ):TJ:=λa H n Q=>n+m<=P0/\t a H (n+m) Q
def jInt(b:TE)(t:TJ):TJ:=λa H n Q=>b a H λv c=>∃i,v= .int i/\i.natAbs.log2<1920/\n+1921<=P0/\∀m,m<=n+1921->t a c m Q
def Ou(t:TJ):TE:=λa H Q=>t a H 0 λn b=>n<=P0/\∀z:Qz,z.length<=n->Q (.str z) b
section
variable{X:Cx}{es:List Expr}{t:TJ}{pos:Uh}
theorem LW:PJ X [] jNil:=λa s c H acc Q I b h=>joinParts_nil ⟨.str acc,H,I.tok _,⟨_,rfl⟩,h.2 acc (PN _)⟩ b
theorem LV{x:Qz}(h:PJ X es t)(c:Vi (.Constant (.str x) j p::es) X.env=QW (.Constant (.str x) j p) X.env::Vi es X.env:=by rfl):PJ X (.Constant (.str x) j p::es) (jStr x.length t):=by
 intro a s d H acc Q I i f;rw[c];obtain⟨b,g⟩:=f;refine joinParts_cons (Yv ?_);have e:(acc++x).length=acc.length+x.length:=strLen_append acc x;exact⟨by rw[e];exact b,h a _ d H (acc++x) Q (I.tok _) (by rw[e];exact b) (by rw[e];exact g)⟩
theorem LX(f:PE X v te)(h:PJ X es t)(g:Vi (.FormattedValue v (-1) Po p::es) X.env=QW (.FormattedValue v (-1) Po p) X.env::Vi es X.env:=by rfl):PJ X (.FormattedValue v (-1) Po p::es) (jInt te t):=by
 intro a s c H acc Q I n j;rw[g];refine joinParts_cons (FormattedValue_plain (thn (f a s c H _ I j) λu o ⟨y,k,l,r,i,m,d,w,q⟩=>?_));subst m;obtain⟨A,rfl⟩:=r;refine wpAny_formatField_int d ?_;have e:(acc++Qv (toString i)).length=acc.length+(Qv (toString i)).length:=strLen_append acc _;have B:=int_text_len_1921 d;have b:(acc++Qv (toString i)).length<=P0:=by rw[e];omega
 refine⟨b,h a _ c k _ Q (l.tok _) b ?_⟩;rw[e];exact q _ (by omega)
theorem Ko(h:PJ X (v1::v2::rest) t):PE X (.JoinedStr (v1::v2::rest) pos) (Ou t):=λa s b H Q I c=>
 JoinedStr_many (h a s b H S5 Q I (by decide) c)
end
section
variable{X:Cx}
theorem rF(g:X.calm=Pt):db X (.builtin "sum") (λxs H Q=>∃(a:PD) (ns:List Int),xs=[.ref a]/\SqL X.K H a (ns.map V.int)/\Q (.int ns.sum) H):=by
 intro b s n H xs us Q I r h;obtain⟨a,ns,rfl,i,q⟩:=h;cases r with
 |cons r1 j=>
  cases r1;cases j;obtain⟨its,k,p,o⟩:=I.list i;have c:=pz k;obtain⟨xs,ex⟩:=c.allInts.items;have d:=p.isList;rw[ex]at d;refine sum_intListG (I.ok.hd g) d λh' t t' l=>?_;have e:preSum (numAt xs) xs.size=ns.sum:=by
   have f:=c.numsOf;have m:its=(Ye xs).toList:=by rw[←ex]
   rw[m,nums_intItems]at f;rw[preSum_eq,Sb (by simp),f]
  rw[e];exact⟨.int ns.sum,H,I.kept l,⟨_,rfl⟩,q⟩
def sW(i j:Int):Prop:=0<j/\j.natAbs.log2<9000
theorem uj:OpR X (Sx .FloorDiv) (rI sW λi j=> .int (i/j)):=opI λi j _ _ _ _ _ a q=>by
 have b:(0:Int)<j:=a.1;refine floordiv_int (by omega) ?_ (.inl (WZ a.2));rw[UU _ (by omega)];exact q
def ipC(C:Int->Int->Prop)(f:Int->Int->Int):TIp:=λx y H Q=>∃i j,x= .int i/\y= .int j/\C i j/\Q (.int (f i j)) H
theorem KO:PIp X .FloorDiv (ipC sW λi j=>i/j):=by
 intro a s d H x y v u Q I r1 b h;obtain⟨i,j,rfl,rfl,c,q⟩:=h;obtain⟨t,rfl⟩:=r1;obtain⟨t',rfl⟩:=b;have e:(0:Int)<j:=c.1;refine ifloordiv_int (by omega) ?_ (.inl (WZ c.2));rw[UU _ (by omega)];exact⟨.int _,H,I.tok _,⟨_,rfl⟩,q⟩
end
section
variable{K:P6}
end
theorem x8{K:P6}{xs:List V}(Pv:Nat->St->Hp->Prop)(r:Pv 0 c H)(j:∀i c H,i<=xs.length->Pv i c H->SqL K H a xs)
  (f:∀i x c H,xs[i]?=My x->Pv i c H->g x c H λd t=>tt d t λb p=>if b=Pt then tb d p (Pv (i+1))else Pv (i+1) d p) (k:∀c H,Pv xs.length c H->Q c H):cY (Itl K a) g tt tb c H Q:=by
 refine⟨λi m c H=>i<=xs.length/\m+i=xs.length/\Pv i c H,⟨xs.length,Q5 _,by omega,r⟩,λi m c H ⟨l,hm,h⟩=>?_⟩;by_cases n:i<xs.length
 ·refine .inr ⟨⟨xs,xs[i],j i c H l h,Pw n⟩,Pv (i+1),λu o q=>⟨m-1,by omega,by omega,by omega,q⟩,λx o ⟨e,v⟩=>?_⟩
  subst e;exact f i x c o (v xs (j i c o l h)) h
 ·obtain rfl:i=xs.length:=by omega
  exact .inl ⟨⟨xs,j _ c H l h,PN _⟩,k c H h⟩
theorem CmpScope.plain{scope:Scope}(k:scope.kind= .function)(nd:(scope.names.map (·.1)).Nodup)(f:∀y∈scope.names,y.2≠ .free):CmpScope X scope vars vars []:=
 ⟨k,nd,λy a e=>Ql e (f y a),by simp,λj b=>Ql b (by simp)⟩
def sV(i j:Int):Prop:=i.natAbs<2^1000/\j.natAbs<2^1000
theorem jB{k:Int}(h:k.natAbs<2^1000):Xd k<=2^20:=by
 unfold Xd;split
 ·exact Q5 _
 ·rename_i a
  have b:k.natAbs≠0:=by
   intro z;have:k=0:=Int.natAbs_eq_zero.mp z;subst this;simp at a
  have:=(Nat.log2_lt b).mpr h;have e:(2:Nat)^20=1048576:=by decide
  omega
theorem cT:OpR X (Sx .Mult) (rI sV λi j=> .int (i*j)):=opI λ_ _ _ _ _ _ _ a q=>mul_int q (Yo (jB a.1) (jB a.2))
theorem bB.upd(h:H a=Po):bB H (upd H a o):=λb u e=>by rw[upd_ne (ne_of_none e h)];exact e
abbrev KyD:=Int×List Int
noncomputable def hI(k:List Int):Int:=reduceHash (Uk (k.map hashInt))
def hB:Bool->KyD->Int
 |true,k=>reduceHash (Uk [hashInt k.1,hI k.2])
 |false,k=>hI k.2
def yh(a:PD)(b:Bool)(ep:Nat)(xs:List (KyD×PD×V))(h:Q0):Prop:=
 ∃o es,∃ys:List (KyD×PD×PH),h.get? a=My o/\o.ExactDict/\o.data= .dict es ep/\es.toList=ys.map (λy=>⟨hB b y.1,.ref y.2.1,y.2.2⟩)/\(ys.map (·.1)).Nodup/\(a==WK)=Pz/\ys.length<=P0/\
  WH (λ(x:KyD×PD×V) (y:KyD×PD×PH)=>x.1=y.1/\x.2.1=y.2.1/\aK x.2.2 y.2.2) xs ys
noncomputable def dy(a:PD)(b:Bool)(ep:Nat)(xs:List (KyD×PD×V)):HO:= .ext (yh a b ep xs)
theorem wx{b:Bool}(S:yh a b ep xs h):bP P w H h a (dy a b ep xs):=by
 refine⟨S,?_,λc d z k=>?_⟩
 ·obtain⟨o,_,_,e,_⟩:=S
  exact⟨o,e⟩
 ·obtain⟨o,es,ys,e,r⟩:=z
  exact⟨o,es,ys,k _ e,r⟩
end L2
namespace L2.Pu
open PySem PySem.Spec PyProof.Rows
theorem ex6{α d e:Sort _}{P Q R:α->d->e->Prop}{C:Prop}(h:∃a b c,P a b c/\Q a b c/\R a b c)(k:∀a b c,P a b c->Q a b c->R a b c->C):C:=by
 obtain⟨a,b,c,x,y,z⟩:=h;exact k a b c x y z
theorem ex5{α c:Sort _}{P Q R:α->c->Prop}{C:Prop}(h:∃a b,P a b/\Q a b/\R a b)(k:∀a b,P a b->Q a b->R a b->C):C:=by
 obtain⟨a,b,x,y,z⟩:=h;exact k a b x y z
inductive D where
 |non|bl (b:Bool)|int (i:Int)|str (x:Qz)|ty (n:String)|txt
 |lst (xs:List D)|tup (xs:List D)|scr (xs:List Int)|obj (C:PD) (ns:List Qz) (xs:List D)|bag|adr (a:PD)|dct (b:Bool) (ks:List KyD) (vs:List D)
structure Bg where
 cells:List Int
 i:Int
 j:Int
structure Fx where
 A:PD->Prop
 bg:Option (PD×PD)
def KL(K:P6)(a:PD)(xs:List V):Prop:=
 ∃(o:Qn) (its:Array PH) (n:Nat),K.lookup a=My o/\o.cls= .type "list"/\o.dict=Po/\o.data= .seq its n/\its.size<=P0/\ar xs its.toList
def KT(K:P6)(a:PD)(xs:List V):Prop:=
 ∃(o:Qn) (its:Array PH) (n:Nat),K.lookup a=My o/\o.cls= .type "tuple"/\o.data= .seq its n/\its.size<=P0/\ar xs its.toList
def TQ(K:P6)(F:Fx)(H:Hp)(c:PD)(xs:List V):Prop:=(¬F.A c/\Rd H c (.tup xs))\/KT K c xs
def ia(K:P6)(F:Fx)(H:Hp):Bool->KyD->PD->Prop
 |true,k,c=>∃e,TQ K F H c [.int k.1,.ref e]/\TQ K F H e (k.2.map V.int)
 |false,k,c=>k.1=0/\TQ K F H c (k.2.map V.int)
mutual
noncomputable def Den(K:P6)(F:Fx)(H:Hp):D->V->Prop
 | .non,v=>v= .non
 | .bl b,v=>v= .bl b
 | .int i,v=>v= .int i
 | .str x,v=>v= .str x
 | .ty n,v=>v= .ty n
 | .txt,v=>∃z,v= .str z
 | .lst ds,v=>∃a xs,v= .ref a/\(¬F.A a/\Rd H a (.lst xs))/\DenL K F H ds xs
 | .scr ns,v=>∃a,v= .ref a/\((¬F.A a/\Rd H a (.lst (ns.map V.int)))\/KL K a (ns.map V.int))
 | .tup ds,v=>∃a xs,v= .ref a/\((¬F.A a/\Rd H a (.tup xs))\/KT K a xs)/\DenL K F H ds xs
 | .obj C ns ds,v=>∃a dx xs,v= .ref a/\¬F.A a/\H a=My (.ins C dx (ns.zip xs))/\ns.length=xs.length/\DenL K F H ds xs
 | .bag,v=>∃b l,F.bg=My (b,l)/\v= .ref b
 | .adr a,v=>v= .ref a
 | .dct b ks vs,v=>∃a ep xs,v= .ref a/\(¬F.A a/\H a=My (dy a b ep xs))/\ks=xs.map (·.1)/\(∀x∈xs,ia K F H b x.1 x.2.1)/\DenL K F H vs (xs.map (·.2.2))
noncomputable def DenL(K:P6)(F:Fx)(H:Hp):List D->List V->Prop
 |[],xs=>xs=[]
 |d::ds,xs=>∃x r,xs=x::r/\Den K F H d x/\DenL K F H ds r
end
structure Tr (F:Fx) (H:Hp) (F2:Fx) (H2:Hp):Prop where
 av:∀a,¬F.A a->H a≠Po->¬F2.A a
 kp:∀a o,¬F.A a->H a=My o->H2 a=My o
 bg:F2.bg=F.bg
theorem Tr.refl(F:Fx)(H:Hp):Tr F H F H:=⟨λ_ h _=>h,λ_ _ _ h=>h,rfl⟩
theorem Tr.trans(a:Tr F H F1 H1)(b:Tr F1 H1 F2 H2):Tr F H F2 H2:=
 ⟨λx c d=>b.av x (a.av x c d) (by
   cases q:H x with
   |none=>exact Ql q d
   |some o=>rw[a.kp x o c q];simp),
  λx o c d=>b.kp x o (a.av x c (by rw[d];simp)) (a.kp x o c d),b.bg.trans a.bg⟩
theorem Rd.tr{F b:Fx}(t:Tr F H b H2)(h:¬F.A a)(r:Rd H a u):¬b.A a/\Rd H2 a u:=by
 rcases r with r|⟨o,r⟩
 ·exact⟨t.av a h (by rw[r];simp),.inl (t.kp a _ h r)⟩
 ·exact⟨t.av a h (by rw[r];simp),.inr ⟨o,t.kp a _ h r⟩⟩
theorem TQ.tr{K:P6}(t:Tr F H F2 H2)(h:TQ K F H c xs):TQ K F2 H2 c xs:=h.imp (λh=>Rd.tr t h.1 h.2) id
theorem ia.tr{K:P6}{b:Bool}(t:Tr F H F2 H2)(h:ia K F H b k c):ia K F2 H2 b k c:=by
 cases b with
 |true=>
  obtain⟨e,a,d⟩:=h;exact⟨e,a.tr t,d.tr t⟩
 |false=>exact⟨h.1,h.2.tr t⟩
mutual
theorem Den.tr{K:P6}(t:Tr F H F2 H2):∀(d:D) (v:V),Den K F H d v->Den K F2 H2 d v
 | .non,v,h=>h
 | .bl b,v,h=>h
 | .int i,v,h=>h
 | .str x,v,h=>h
 | .ty n,v,h=>h
 | .txt,v,h=>h
 | .lst ds,v,h=>by
  unfold Den at h⊢;obtain⟨a,xs,e,c,f⟩:=h;exact⟨a,xs,e,Rd.tr t c.1 c.2,DenL.tr t ds xs f⟩
 | .scr ns,v,h=>by
  unfold Den at h⊢;obtain⟨a,e,c⟩:=h;exact⟨a,e,c.imp (λ⟨p,q⟩=>Rd.tr t p q) id⟩
 | .tup ds,v,h=>by
  unfold Den at h⊢;obtain⟨a,xs,e,c,f⟩:=h;exact⟨a,xs,e,c.imp (λ⟨p,q⟩=>Rd.tr t p q) id,DenL.tr t ds xs f⟩
 | .obj C ns ds,v,h=>by
  unfold Den at h⊢;obtain⟨a,dx,xs,e,c,f,g,j⟩:=h;exact⟨a,dx,xs,e,t.av a c (by rw[f];simp),t.kp a _ c f,g,DenL.tr t ds xs j⟩
 | .bag,v,h=>by
  unfold Den at h⊢;rw[t.bg];exact h
 | .adr a,v,h=>by
  unfold Den at h⊢;exact h
 | .dct b ks vs,v,h=>by
  unfold Den at h⊢;obtain⟨a,ep,xs,e,c,f,g,j⟩:=h;exact⟨a,ep,xs,e,⟨t.av a c.1 (by rw[c.2];simp),t.kp a _ c.1 c.2⟩,f,λx k=>(g x k).tr t,DenL.tr t vs _ j⟩
theorem DenL.tr{K:P6}(t:Tr F H F2 H2):∀(ds:List D) (xs:List V),DenL K F H ds xs->DenL K F2 H2 ds xs
 |[],xs,h=>h
 |d::ds,xs,h=>by
  unfold DenL at h⊢;obtain⟨x,r,e,a,b⟩:=h;exact⟨x,r,e,Den.tr t d x a,DenL.tr t ds r b⟩
end
section
variable{K:P6}{F:Fx}{H:Hp}
theorem DenL.nil:DenL K F H [] []:=rfl
theorem DenL.cons(h:Den K F H d x)(t:DenL K F H ds xs):DenL K F H (d::ds) (x::xs):=⟨x,xs,rfl,h,t⟩
theorem DenL.length:∀{ds:List D} {xs:List V},DenL K F H ds xs->ds.length=xs.length
 |[],xs,h=>by have e:xs=[]:=h;subst e;rfl
 |d::ds,xs,h=>by
  obtain⟨x,r,e,_,a⟩:=h;subst e;rw[Qd,Qd,DenL.length a]
theorem DenL.get:∀{ds:List D} {xs:List V} {i:Nat} {d:D},DenL K F H ds xs->ds[i]?=My d->∃x,xs[i]?=My x/\Den K F H d x
 |[],_,_,_,_,e=>by simp at e
 |c::ds,xs,0,d,h,e=>by
  obtain⟨x,r,q,a,b⟩:=h;subst q;simp at e;subst e;exact⟨x,rfl,a⟩
 |c::ds,xs,i+1,d,h,e=>by
  obtain⟨x,r,q,a,b⟩:=h;subst q;obtain⟨y,f,g⟩:=DenL.get (i:=i) (d:=d) b (by simpa using e);exact⟨y,by simpa using f,g⟩
theorem DenL.getV:∀{ds:List D} {xs:List V} {i:Nat} {x:V},DenL K F H ds xs->xs[i]?=My x->∃d,ds[i]?=My d/\Den K F H d x
 |[],xs,_,_,h,e=>by have q:xs=[]:=h;subst q;simp at e
 |c::ds,xs,0,d,h,e=>by
  obtain⟨x,r,q,a,b⟩:=h;subst q;simp at e;subst e;exact⟨c,rfl,a⟩
 |c::ds,xs,i+1,d,h,e=>by
  obtain⟨x,r,q,a,b⟩:=h;subst q;obtain⟨y,f,g⟩:=DenL.getV (i:=i) (x:=d) b (by simpa using e);exact⟨y,by simpa using f,g⟩
theorem DenL.append:∀{ds es:List D} {xs ys:List V},DenL K F H ds xs->DenL K F H es ys->DenL K F H (ds++es) (xs++ys)
 |[],_,xs,_,h,h'=>by have q:xs=[]:=h;subst q;exact h'
 |c::ds,es,xs,ys,h,h'=>by
  obtain⟨x,r,q,a,b⟩:=h;subst q;exact⟨x,r++ys,rfl,a,DenL.append b h'⟩
theorem DenL.take:∀{ds:List D} {xs:List V} (n:Nat),DenL K F H ds xs->DenL K F H (ds.take n) (xs.take n)
 |[],xs,n,h=>by have q:xs=[]:=h;subst q;simp;rfl
 |c::ds,xs,0,h=>by simp;rfl
 |c::ds,xs,n+1,h=>by
  obtain⟨x,r,q,a,b⟩:=h;subst q;exact⟨x,r.take n,rfl,a,DenL.take n b⟩
theorem DenL.drop:∀{ds:List D} {xs:List V} (n:Nat),DenL K F H ds xs->DenL K F H (ds.drop n) (xs.drop n)
 |[],xs,n,h=>by have q:xs=[]:=h;subst q;simp;rfl
 |c::ds,xs,0,h=>h
 |c::ds,xs,n+1,h=>by
  obtain⟨x,r,q,b,a⟩:=h;subst q;exact DenL.drop n a
theorem DenL.set:∀{ds:List D} {xs:List V} (i:Nat) {d:D} {x:V},DenL K F H ds xs->Den K F H d x->DenL K F H (ds.set i d) (xs.set i x)
 |[],xs,i,_,_,h,_=>by have q:xs=[]:=h;subst q;simp;rfl
 |c::ds,xs,0,d,x,h,hd=>by
  obtain⟨y,r,q,b,a⟩:=h;subst q;exact⟨x,r,rfl,hd,a⟩
 |c::ds,xs,i+1,d,x,h,hd=>by
  obtain⟨y,r,q,b,a⟩:=h;subst q;exact⟨y,r.set i x,rfl,b,DenL.set i a hd⟩
theorem Den.sqL(h:Den K F H (.lst ds) v):∃a xs,v= .ref a/\SqL K H a xs/\DenL K F H ds xs:=by
 unfold Den at h;obtain⟨a,xs,e,b,c⟩:=h;exact⟨a,xs,e,.inl b.2,c⟩
theorem Den.rdL(h:Den K F H (.lst ds) v):∃a xs,v= .ref a/\Rd H a (.lst xs)/\DenL K F H ds xs:=by
 unfold Den at h;obtain⟨a,xs,e,b,c⟩:=h;exact⟨a,xs,e,b.2,c⟩
theorem Den.scr{ns:List Int}(h:Den K F H (.scr ns) v):∃a,v= .ref a/\SqL K H a (ns.map V.int):=by
 unfold Den at h;obtain⟨a,e,b⟩:=h;exact⟨a,e,b.imp (λp=>p.2) id⟩
theorem Den.sqT(h:Den K F H (.tup ds) v):∃a xs,v= .ref a/\SqT K H a xs/\DenL K F H ds xs:=by
 unfold Den at h;obtain⟨a,xs,e,b,c⟩:=h;exact⟨a,xs,e,b.imp (λp=>p.2) id,c⟩
theorem Den.int(h:Den K F H (.int i) v):v= .int i:=h
theorem Den.bl{i:Bool}(h:Den K F H (.bl i) v):v= .bl i:=h
theorem Den.str(h:Den K F H (.str i) v):v= .str i:=h
theorem Den.non(h:Den K F H .non v):v= .non:=h
theorem Den.ty(h:Den K F H (.ty n) v):v= .ty n:=h
theorem DenL.ints:∀(ns:List Int) {xs:List V},DenL K F H (ns.map D.int) xs->xs=ns.map V.int
 |[],xs,h=>h
 |n::ns,xs,h=>by
  obtain⟨x,r,e,a,b⟩:=h;rw[e,DenL.ints ns b];have q:x= .int n:=a;rw[q];rfl
theorem DenL.ofInts:∀(ns:List Int),DenL K F H (ns.map D.int) (ns.map V.int)
 |[]=>rfl
 |n::ns=>⟨.int n,ns.map V.int,rfl,rfl,DenL.ofInts ns⟩
end
structure Fr (F:Fx) (H:Hp) (β:Bg):Prop where
 occ:∀a,F.A a->H a≠Po
 bgA:∀b l,F.bg=My (b,l)->F.A b/\F.A l/\b≠l
 bag:∀b l,F.bg=My (b,l)->H b=My (.lst [.ref l,.int β.i,.int β.j])/\H l=My (.lst (β.cells.map V.int))
structure To (F:Fx) (H H':Hp) (β':Bg):Prop where
 kp:∀a o,H a=My o->(∀b l,F.bg=My (b,l)->a≠b/\a≠l)->H' a=My o
 fr:Fr F H' β'
theorem To.refl(fr:Fr F H β):To F H H β:=⟨λ_ _ h _=>h,fr⟩
theorem To.trans(a:To F H H1 β1)(b:To F H1 H2 β2):To F H H2 β2:=⟨λx o h n=>b.kp x o (a.kp x o h n) n,b.fr⟩
theorem Fr.same(fr:Fr F H β)(s:bB H H'):To F H H' β:=
 ⟨λa o h _=>s a o h,⟨λa h q=>(by
  cases e:H a with
  |none=>exact fr.occ a h e
  |some o=>exact Ql ((s a o e).symm.trans q) (by simp)),fr.bgA,λb l e=>⟨s _ _ (fr.bag b l e).1,s _ _ (fr.bag b l e).2⟩⟩⟩
theorem Fr.upd(fr:Fr F H β)(o:HO)(h:H p=Po):To F H (upd H p o) β:=fr.same (bB.upd h)
theorem Fr.fresh{F:Fx}(fr:Fr F H β)(h:H p=Po):¬F.A p:=λq=>fr.occ p q h
theorem To.tr(fr:Fr F H β)(t:To F H H' β'):Tr F H F H':=
 ⟨λ_ h _=>h,λa o h e=>t.kp a o e λb l q=>⟨λz=>h (z▸(fr.bgA b l q).1),λz=>h (z▸(fr.bgA b l q).2.1)⟩,rfl⟩
abbrev Dn:=List (Option D)
structure VOk (K:P6) (F:Fx) (H:Hp) (δ:Dn) (σ:St):Prop where
 len:δ.length=σ.length
 tell:∀(i:Nat) (d:D),δ[i]?=My (My d)->∃v,σ[i]?=My (My v)/\Den K F H d v
theorem VOk.tr{K:P6}(t:Tr F H F2 H2)(h:VOk K F H δ σ):VOk K F2 H2 δ σ:=⟨h.len,λi d e=>let ⟨v,h1,h2⟩:=h.tell i d e;⟨v,h1,Den.tr t d v h2⟩⟩
theorem VOk.set{K:P6}{δ:Dn}{a:St}(h:VOk K F H δ a)(hd:Den K F H d v):VOk K F H (δ.set i (My d)) (a.set i (My v)):=by
 refine⟨by rw[QB,QB,h.len],λj c e=>?_⟩;rw[Q2]at e;rw[Q2];by_cases q:i=j
 ·subst q
  rw[PP rfl]at e⊢;split at e
  ·rename_i b
   cases e;rw[PP (by rw[←h.len];exact b)];exact⟨v,rfl,hd⟩
  ·cases e
 ·rw[PL q]at e⊢
  exact h.tell j c e
def Sub(δ δ1:Dn):Prop:=∀(i:Nat) (d:D),δ[i]?=My (My d)->δ1[i]?=My (My d)
theorem VOk.sub{K:P6}{δ δ1:Dn}(h:VOk K F H δ1 σ)(s:Sub δ δ1)(l:δ.length=δ1.length):VOk K F H δ σ:=⟨l.trans h.len,λi d e=>h.tell i d (s i d e)⟩
abbrev M(α:Type):=Bg->Option (Except PD α×Bg)
noncomputable def M.ret{α:Type}(a:α):M α:=λβ=>My (.ok a,β)
noncomputable def M.bind{α b:Type}(m:M α)(k:α->M b):M b:=λβ=>match m β with
 |none=>Po
 |some (.error C,β1)=>My (.error C,β1)
 |some (.ok a,β1)=>k a β1
noncomputable def M.ofO{α:Type}(o:Option α):M α:=λβ=>match o with
 |some a=>My (.ok a,β)
 |none=>Po
noncomputable def M.fail{α:Type}:M α:=λ_=>Po
theorem M.bind_some{α b:Type}(a:α)(k:α->M b):M.bind (M.ofO (My a)) k=k a:=rfl
theorem M.bind_ok{α b:Type}{m:M α}{k:α->M b}{β β1:Bg}{a:α}(h:m β=My (.ok a,β1)):M.bind m k β=k a β1:=by unfold M.bind;rw[h]
theorem M.bind_err{α a:Type}{m:M α}{k:α->M a}{β β1:Bg}{C:PD}(h:m β=My (.error C,β1)):M.bind m k β=My (.error C,β1):=by unfold M.bind;rw[h]
def run{α c:Type}(R:Hp->α->c->Prop)(F:Fx)(E:St->XK)(e:St)(m:M α)(H:Hp)(Q:c->Hp->Prop)(β:Bg):Prop:=
 ∃r a,m β=My (r,a)/\match r with
  | .ok d=>∀v b,To F H b a->R b d v->Q v b
  | .error C=>∀b,To F H b a->E e (.ref C) Po b
theorem run.mono{α c:Type}{R:Hp->α->c->Prop}{F:Fx}{E:St->XK}{g:St}{m:M α}{H:Hp}{Q i:c->Hp->Prop}{β:Bg}(h:run R F E g m H Q β)(f:∀v a,Q v a->i v a):run R F E g m H i β:=by
 obtain⟨r,b,e,h⟩:=h;refine⟨r,b,e,?_⟩;cases r with
 |ok d=>exact λv a t q=>f v a (h v a t q)
 |error C=>exact h
theorem run.bind{α l i j:Type}{R:Hp->α->l->Prop}{R2:Hp->i->j->Prop}{F:Fx}{E:St->XK}{b:St}{m:M α}{k:α->M i}{H:Hp}{Q:j->Hp->Prop}{β:Bg}(h:run R2 F E b (M.bind m k) H Q β):
  run R F E b m H (λv a=>∃d β1,To F H a β1/\R a d v/\run R2 F E b (k d) a Q β1) β:=by
 obtain⟨r,c,e,h⟩:=h;cases q:m β with
 |none=>unfold M.bind at e;rw[q]at e;cases e
 |some z=>
  obtain⟨r1,β1⟩:=z;refine⟨r1,β1,q,?_⟩;cases r1 with
  |error C=>
   rw[M.bind_err q]at e;cases e;exact h
  |ok d=>
   rw[M.bind_ok q]at e;intro v a t hd;refine⟨d,β1,t,hd,r,c,e,?_⟩;cases r with
   |ok d2=>exact λn f g o=>h n f (t.trans g) o
   |error C=>exact λf g=>h f (t.trans g)
theorem run.ret{α b:Type}{R:Hp->α->b->Prop}{F:Fx}{E:St->XK}{c:St}{a:α}{v:b}{H:Hp}{Q:b->Hp->Prop}{β:Bg}(fr:Fr F H β)(h:run R F E c (M.ret a) H Q β)(r:R H a v):Q v H:=by
 obtain⟨_,_,e,h⟩:=h;cases e;exact h v H (To.refl fr) r
theorem run.ofO{α c:Type}{R:Hp->α->c->Prop}{F:Fx}{E:St->XK}{d:St}{o:Option α}{H:Hp}{Q:c->Hp->Prop}{β:Bg}(h:run R F E d (M.ofO o) H Q β):∃a,o=My a/\∀v b,To F H b β->R b a v->Q v b:=by
 obtain⟨_,_,e,h⟩:=h;cases o with
 |none=>cases e
 |some a=>cases e;exact⟨a,rfl,h⟩
abbrev FD:=Dn->M D
abbrev FL:=Dn->M (List D)
def tV(K:P6)(f:FD)(E:St->XK):TE:=λa H Q=>∃F δ β,Fr F H β/\VOk K F H δ a/\run (Den K F) F E a (f δ) H Q β
def tVA(K:P6)(f:FL)(E:St->XK):TA:=λa H Q=>∃F δ β,Fr F H β/\VOk K F H δ a/\run (DenL K F) F E a (f δ) H Q β
def tVT(K:P6)(f:Dn->M Bool)(E:St->XK):TT:=λc H Q=>∃F δ β,Fr F H β/\VOk K F H δ c/\run (λ_ (a b:Bool)=>b=a) F E c (f δ) H Q β
theorem _root_.L2.PE.imp(h:PE X e t)(f:∀a H Q,t' a H Q->t a H Q):PE X e t':=λb s a H Q I q=>h b s a H Q I (f a H Q q)
theorem _root_.L2.PT.imp(h:PT X e t)(f:∀a H Q,t' a H Q->t a H Q):PT X e t':=λb s a H Q I q=>h b s a H Q I (f a H Q q)
theorem _root_.L2.PW.imp(h:PW X e t)(f:∀a H Q,t' a H Q->t a H Q):PW X e t':=λc b s a H Q I q=>h c b s a H Q I (f a H Q q)
theorem _root_.L2.PA.imp(h:PA X e t)(f:∀a H Q,t' a H Q->t a H Q):PA X e t':=λpos b s a H Q I q=>h pos b s a H Q I (f a H Q q)
def ag(i:Nat):FD:=λδ=>M.ofO (δ.getD i Po)
def fC(d:D):FD:=λ_=>M.ret d
def f1(op:D->Option D)(f:FD):FD:=λδ=>M.bind (f δ) λa=>M.ofO (op a)
def f2(op:D->D->Option D)(f g:FD):FD:=λδ=>M.bind (f δ) λa=>M.bind (g δ) λb=>M.ofO (op a b)
noncomputable def aB:FL:=λ_=>M.ret []
def ac(f:FD)(g:FL):FL:=λδ=>M.bind (f δ) λa=>M.bind (g δ) λas=>M.ret (a::as)
def bp(op:List D->Option D)(g:FL):FD:=λδ=>M.bind (g δ) λas=>M.ofO (op as)
def bH(m:List D->M D)(g:FL):FD:=λδ=>M.bind (g δ) λas=>m as
section
variable{X:Cx}{E:St->XK}{e a b:Expr}{es:List Expr}{pos:Uh}
theorem Oj(i:Nat)(h:PE X (.Name x pos) (kY i)):PE X (.Name x pos) (tV X.K (ag i) E):=h.imp λl H Q c=>by
 obtain⟨F,δ,β,fr,f,r⟩:=c;obtain⟨d,e,r⟩:=run.ofO r;have g:δ[i]?=My (My d):=by
  rw[Px]at e;cases q:δ[i]? with
  |none=>rw[q]at e;cases e
  |some z=>rw[q]at e;simp at e;rw[e]
 obtain⟨v,j,k⟩:=f.tell i d g;exact⟨v,j,r v H (To.refl fr) k⟩
theorem v_c(h:PE X e (tC v))(hd:∀F H,Den X.K F H d v):PE X e (tV X.K (fC d) E):=h.imp λf H Q c=>by obtain⟨F,δ,β,fr,g,r⟩:=c;exact run.ret fr r (hd F H)
theorem ah{i j pos}:PE X (.Constant (.int i) j pos) (tV X.K (fC (.int i)) E):=v_c bG λ_ _=>rfl
theorem Om{j pos}:PE X (.Constant .none j pos) (tV X.K (fC .non) E):=v_c L7 λ_ _=>rfl
theorem HM{i j pos}:PE X (.Constant (.str i) j pos) (tV X.K (fC (.str i)) E):=v_c lF λ_ _=>rfl
theorem iO:PA X [] (tVA X.K aB E):=cW.imp λd H Q c=>by obtain⟨F,δ,β,fr,f,r⟩:=c;exact run.ret fr r DenL.nil
theorem dN(ha:PE X e (tV X.K f E))(k:PA X es (tVA X.K g E))(hs:PX (e::es) X.env=(Pz,QW e X.env)::PX es X.env:=by rfl):PA X (e::es) (tVA X.K (ac f g) E):=
 (aW ha k hs).imp λm H Q c=>ex6 c λF δ β fr i r=>⟨F,δ,β,fr,i,(run.bind (R:=Den X.K F) r).mono λv n ⟨d,β1,t,hd,r1⟩=>
  ⟨F,δ,β1,t.fr,i.tr (t.tr fr),(run.bind (R:=DenL X.K F) r1).mono λvs o c=>ex5 c λds β2 j h l=>run.ret j.fr l (DenL.cons (Den.tr (j.tr t.fr) _ _ hd) h)⟩⟩
def aP(K:P6)(r:R2)(op:D->D->Option D):Prop:=∀(F:Fx) (H:Hp) (β:Bg) (Q:VK) (d1 d2 d:D) (f g:V),Fr F H β->Den K F H d1 f->Den K F H d2 g->op d1 d2=My d->
 (∀v c,To F H c β->Den K F c d v->Q v c)->r f g H Q
def JB(K:P6)(r:V->Hp->VK->Prop)(op:D->Option D):Prop:=∀(F:Fx) (H:Hp) (β:Bg) (Q:VK) (d1 d:D) (f:V),Fr F H β->Den K F H d1 f->op d1=My d->
 (∀v c,To F H c β->Den K F c d v->Q v c)->r f H Q
def eU(K:P6)(r:List V->Hp->VK->Prop)(op:List D->Option D):Prop:=∀(F:Fx) (H:Hp) (β:Bg) (Q:VK) (ds:List D) (d:D) (vs:List V),Fr F H β->DenL K F H ds vs->op ds=My d->
 (∀v c,To F H c β->Den K F c d v->Q v c)->r vs H Q
theorem ox{K:P6}(l:aP K r op)(h:tV K (f2 op f g) E σ H Q):tOp r (tV K f E) (tV K g E) σ H Q:=by
 obtain⟨F,δ,β,fr,j,h⟩:=h;refine⟨F,δ,β,fr,j,(run.bind (R:=Den K F) h).mono λv u c=>ex5 c λd β1 t hd r1=>⟨F,δ,β1,t.fr,j.tr (t.tr fr),(run.bind (R:=Den K F) r1).mono λn o c=>ex5 c λd2 β2 m i p=>?_⟩⟩;obtain⟨d3,q,k⟩:=run.ofO p;exact l F o β2 Q d d2 d3 v n m.fr (Den.tr (m.tr t.fr) _ _ hd) i q k
theorem aL(c:OpR X (Sx op) r)(l:aP X.K r o)(ha:PE X a (tV X.K f E))(d:PE X b (tV X.K g E)):PE X (.BinOp a op b pos) (tV X.K (f2 o f g) E):=
 (dB c ha d).imp λ_ _ _=>ox l
theorem oo(c:OpR X (Q8 op) r)(l:aP X.K r o)(ha:PE X a (tV X.K f E))(d:PE X b (tV X.K g E))(hm:UI op b=Pz:=by first|exact uo _|rfl):PE X (.Compare a [op] [b] pos) (tV X.K (f2 o f g) E):=
 (Kq c ha d hm).imp λ_ _ _=>ox l
theorem Lb(g:UnR X (unaryOp op) r)(l:JB X.K r o)(ha:PE X a (tV X.K f E)):PE X (.UnaryOp op a pos) (tV X.K (f1 o f) E):=
 (OC g ha).imp λm H Q c=>ex6 c λF δ β fr i h=>⟨F,δ,β,fr,i,(run.bind (R:=Den X.K F) h).mono λv j c=>ex5 c λd β1 t hd r1=>let ⟨d3,e3,k⟩:=run.ofO r1;l F j β1 Q d d3 v t.fr hd e3 k⟩
theorem bc(c:IxR X r)(l:aP X.K r o)(ha:PE X a (tV X.K f E))(d:PE X b (tV X.K g E))(hs:qI b:=by exact λ_ _=>rfl):PE X (.Subscript a b pos) (tV X.K (f2 o f g) E):=
 (gC c ha d hs).imp λ_ _ _=>ox l
theorem yG{K:P6}(l:eU K r op)(h:tV K (bp op g) E σ H Q):tCB r (tVA K g E) σ H Q:=by
 obtain⟨F,δ,β,fr,c,h⟩:=h;refine⟨F,δ,β,fr,c,(run.bind (R:=DenL K F) h).mono λv f i=>ex5 i λd β1 t hd r1=>?_⟩;obtain⟨d3,j,k⟩:=run.ofO r1;exact l F f β1 Q d d3 v t.fr hd j k
theorem dg{f:String}(h:db X (.builtin f) r)(l:eU X.K r op)(i:Gl X x)(hm:X.mg x=Po)(j:TN x=My (.builtin f))(ha:PA X (e::es) (tVA X.K g E))(hn:x≠"__name__":=by decide)(c:(x==("__debug__":Qz))=Pz:=by decide)
  (k:PX (e::es) X.env=(Pz,QW e X.env)::PX es X.env:=by rfl) (d:(RP pos (PX es X.env)).any (·.1)=Pz:=by rfl):PE X (.Call (.Name x p) (e::es) [] pos) (tV X.K (bp op g) E):=
 (kx h i hm j ha hn c k d).imp λ_ _ _=>yG l
theorem br(f:db X (.type T) r)(l:eU X.K r op)(h:Gl X x)(hm:X.mg x=Po)(i:TN x=My (.type T))(ha:PA X (e::es) (tVA X.K g E))(hn:x≠"__name__":=by decide)(c:(x==("__debug__":Qz))=Pz:=by decide)
  (j:PX (e::es) X.env=(Pz,QW e X.env)::PX es X.env:=by rfl) (d:(RP pos (PX es X.env)).any (·.1)=Pz:=by rfl):PE X (.Call (.Name x p) (e::es) [] pos) (tV X.K (bp op g) E):=
 (rc f h hm i ha hn c j d).imp λ_ _ _=>yG l
noncomputable def mz(ds:List D):Option D:=if ds.length<=P0 then My (.tup ds)else Po
noncomputable def dY(ds:List D):Option D:=if ds.length<=P0 then My (.lst ds)else Po
theorem Den.newT{K:P6}(fr:Fr F H β)(h:H p=Po)(hd:DenL K F H ds xs):Den K F (upd H p (.tup xs)) (.tup ds) (.ref p):=
 ⟨p,xs,rfl,.inl ⟨fr.fresh h,.inl af⟩,DenL.tr ((fr.upd _ h).tr fr) _ _ hd⟩
theorem Den.newL{K:P6}(fr:Fr F H β)(h:H p=Po)(hd:DenL K F H ds xs):Den K F (upd H p (.lst xs)) (.lst ds) (.ref p):=
 ⟨p,xs,rfl,⟨fr.fresh h,.inl af⟩,DenL.tr ((fr.upd _ h).tr fr) _ _ hd⟩
theorem cJ{x1}(h:PA X es (tVA X.K g E)):PE X (.Tuple es x1 pos) (tV X.K (bp mz g) E):=
 (L5 h).imp λj H Q d=>ex6 d λF δ β fr i r=>⟨F,δ,β,fr,i,(run.bind (R:=DenL X.K F) r).mono λvs l d=>by
  obtain⟨ds,β1,t,hd,r1⟩:=d;obtain⟨d3,c,k⟩:=run.ofO r1;unfold mz at c;split at c
  ·cases c
   exact⟨by rw[←hd.length];assumption,λp f=>k _ _ (t.fr.upd _ f) (Den.newT t.fr f hd)⟩
  ·cases c⟩
theorem eG(h:PA X es (tVA X.K g E)):PE X (.List es pos) (tV X.K (bp dY g) E):=
 (e8 h).imp λj H Q d=>ex6 d λF δ β fr i r=>⟨F,δ,β,fr,i,(run.bind (R:=DenL X.K F) r).mono λvs l d=>by
  obtain⟨ds,β1,t,hd,r1⟩:=d;obtain⟨d3,c,k⟩:=run.ofO r1;unfold dY at c;split at c
  ·cases c
   exact⟨by rw[←hd.length];assumption,λp f=>k _ _ (t.fr.upd _ f) (Den.newL t.fr f hd)⟩
  ·cases c⟩
end
def spF(K:P6)(n:Nat)(m:List D->M D):Sp:=λvs H Q E=>vs.length=n/\∃F ds β,Fr F H β/\DenL K F H ds vs/\run (Den K F) F (λ_=>E) [] (m ds) H Q β
section
variable{X:Cx}{E:St->XK}{e:Expr}{es:List Expr}{pos p:Uh}{x:Qz}{k n:Nat}{f:PD}{fd:Qi}{ps:List Qz}
theorem run.toE{α a:Type}{R:Hp->α->a->Prop}{F:Fx}{E:St->XK}{b:St}{m:M α}{H:Hp}{Q:a->Hp->Prop}{β:Bg}(h:run R F E b m H Q β):run R F (λ_=>E b) [] m H Q β:=h
theorem Lc(G:FnOk X.prog X.w X.K X.mg X.base (CXE X.prog X.w) k f fd ps (spF X.K n m))(l:Room k X.A)(o:Gl X x)(hm:X.mg x=My (.ref f))(q:Vl X.K (.ref f)=Pt)(u:ax X.K fd ps [])(v:bS (CXE X.prog X.w) X E)
  (ha:PA X (e::es) (tVA X.K g E)) (hn:∀δ β r c,g δ β=My (.ok r,c)->r.length=n) (a:(x==("__debug__":Qz))=Pz:=by decide) (y:PX (e::es) X.env=(Pz,QW e X.env)::PX es X.env:=by rfl) (b:(RP pos (PX es X.env)).any (·.1)=Pz:=by rfl):
  PE X (.Call (.Name x p) (e::es) [] pos) (tV X.K (bH m g) E):=
 (mw G l o hm q u .nil v ha a y b).imp λO H Q B=>ex6 B λF δ β fr I r=>⟨F,δ,β,fr,I,by
  obtain⟨r0,d,i,j⟩:=run.bind (R:=DenL X.K F) r;refine⟨r0,d,i,?_⟩;cases r0 with
  |error C=>exact j
  |ok ds=>
   intro vs J t hd;obtain⟨d',β1,L,h,r1⟩:=j vs J t hd;have N:=hn _ _ _ _ i;refine⟨by rw[Qx,←hd.length,N],F,d',β1,L.fr,by rw[Qx];exact h,run.toE r1⟩⟩
end
theorem GZ{r:List D}(h:aB δ β=My (.ok r,β')):r.length=0:=by cases h;rfl
theorem aq(b:∀δ β r a,g δ β=My (.ok r,a)->r.length=n):∀δ β r a,ac f g δ β=My (.ok r,a)->r.length=n+1:=by
 intro δ β r a h;unfold ac M.bind at h;split at h
 ·cases h
 ·cases h
 ·dsimp only at h
  split at h
  ·cases h
  ·cases h
  ·rename_i as _ c
   cases h;rw[Qd,b _ _ _ _ c]
section
variable{X:Cx}{K:P6}
noncomputable def opI(g:Int->Int->Option D):D->D->Option D
 | .int i,.int j=>g i j
 |_,_=>Po
theorem gs(h:opI g a b=My d):∃i j,a= .int i/\b= .int j/\g i j=My d:=by
 cases a<;>cases b<;>first|(exact⟨_,_,rfl,rfl,h⟩)|(cases h)
theorem zM{g:Int->Int->Int}:aP K (rI0 λi j=> .int (g i j)) (opI λi j=>My (.int (g i j))):=λF H β Q d1 d2 d c f fr a b e k=>by
 obtain⟨i,j,rfl,rfl,e⟩:=gs e;cases e;exact⟨i,j,a,b,k _ H (To.refl fr) rfl⟩
theorem iw{g:Int->Int->Bool}:aP K (rI0 λi j=> .bl (g i j)) (opI λi j=>My (.bl (g i j))):=λF H β Q d1 d2 d c f fr a b e k=>by
 obtain⟨i,j,rfl,rfl,e⟩:=gs e;cases e;exact⟨i,j,a,b,k _ H (To.refl fr) rfl⟩
theorem lN{C:Int->Int->Prop}{c:Int->Int->Bool}{g:Int->Int->Int}(b:∀i j,c i j=Pt->C i j):aP K (rI C λi j=> .int (g i j)) (opI λi j=>if c i j=Pt then My (.int (g i j))else Po):=λF H β Q d1 d2 d l m fr f h e k=>by
 obtain⟨i,j,rfl,rfl,a⟩:=gs e;split at a
 ·cases a
  exact⟨i,j,f,h,b _ _ (by assumption),k _ H (To.refl fr) rfl⟩
 ·cases a
noncomputable def gG(i:Int):Bool:=decide (i.natAbs<2^1000)
def BY:D->D->Option D:=opI λi j=>My (.int (i-j))
def xW:D->D->Option D:=opI λi j=>if(decide (0<j)&&decide (j.natAbs.log2<9000))=Pt then My (.int (i/j))else Po
def modD:D->D->Option D:=opI λi j=>if decide (0<j)=Pt then My (.int (i % j))else Po
def ltD:D->D->Option D:=opI λi j=>My (.bl (decide (i<j)))
def leD:D->D->Option D:=opI λi j=>My (.bl (decide (i<=j)))
def gtD:D->D->Option D:=opI λi j=>My (.bl (decide (j<i)))
def geD:D->D->Option D:=opI λi j=>My (.bl (decide (j<=i)))
theorem jv:aP K (rI0 λi j=> .int (i-j)) BY:=zM
theorem uC:aP K (rI0 λi j=> .bl (decide (i<j))) ltD:=iw
theorem lP:aP K (rI0 λi j=> .bl (decide (i<=j))) leD:=iw
theorem qo:aP K (rI0 λi j=> .bl (decide (j<i))) gtD:=iw
theorem l_ge:aP K (rI0 λi j=> .bl (decide (j<=i))) geD:=iw
theorem zP:aP K (rI sW λi j=> .int (i/j)) xW:=lN λi j h=>by
 simp only[Qq,QI]at h;exact h
theorem OP:aP K (rI (λ_ j=>0<j) λi j=> .int (i % j)) modD:=lN λi j h=>R7 h
noncomputable def xg:R2:=λx y H Q=>∃l b xs a,x= .ref l/\y= .ref b/\Rd H l (.lst xs)/\Rd H b (.lst a)/\xs.length+a.length<=P0/\∀p,H p=Po->Q (.ref p) (upd H p (.lst (xs++a)))
theorem Ku:OpR X (Sx .Add) xg:=by
 intro c s k H x y v u Q I f g h;obtain⟨l,b,xs,m,rfl,rfl,i,hB,o,q⟩:=h;cases f;cases g;obtain⟨z,its,n,r,e⟩:=i.ok I.hok;obtain⟨p,a,t,d,j⟩:=hB.ok I.hok;have l1:=r.length;have w:=d.length;refine YF e j ?_ (by simp only[Qa];omega);rw[show its.toArray++a.toArray=(its++a).toArray by simp];exact⟨.ref _,_,I.lnew (t':=s.toks) (r.append d) (by rw[Qf];omega),rfl,q _ I.fresh⟩
def xh(K:P6):R2:=λx y H Q=>∃a b ys,x= .ref a/\y= .ref b/\SqT K H a []/\SqT K H b ys/\Q (.ref b) H
theorem Kv:OpR X (Sx .Add) (xh X.K):=by
 intro i s C H x y v u Q I m o h;obtain⟨a,b,ys,rfl,rfl,ha,p,q⟩:=h;cases m;cases o;obtain⟨its,r1,r,_⟩:=I.tuple ha;obtain⟨j,F,t,_⟩:=I.tuple p;cases r1;obtain⟨⟨c1,d1,w,f⟩,k,l,n,hd⟩:=r;obtain⟨⟨c2,d2,A,g⟩,c,d,B,e⟩:=t;simp only at l hd d e;subst l hd d e;exact PySem.concat_meets ⟨_,k,rfl⟩ ⟨_,c,rfl⟩ Xs YK Vg U6 (UV _ _) (tuple_addW0 a b _ _ n B d1 d2 f g (by simp)) ⟨k,c,⟨.ref b,H,I,rfl,q⟩⟩
noncomputable def gz:D->D->Option D
 | .int i,.int j=>My (.int (i+j))
 | .tup [],.tup b=>My (.tup b)
 | .lst a,.lst b=>if a.length+b.length<=P0 then My (.lst (a++b))else Po
 | .tup (c::a),.tup b=>if(c::a).length+b.length<=P0 then My (.tup (c::a++b))else Po
 |_,_=>Po
theorem cL:aP K (λx y H Q=>(rI0 λi j=> .int (i+j)) x y H Q\/xg x y H Q\/xf K x y H Q\/xh K x y H Q) gz:=λF H β Q d1 d2 d t u fr g h e k=>by
 unfold gz at e;split at e
 ·cases e
  exact .inl ⟨_,_,g,h,k _ H (To.refl fr) rfl⟩
 ·cases e
  obtain⟨a,xs,rfl,r1,c⟩:=Den.sqT g;obtain⟨b,ys,rfl,l,f⟩:=Den.sqT h;have q:xs=[]:=c;subst q;exact .inr (.inr (.inr ⟨a,b,ys,rfl,rfl,r1,l,k _ H (To.refl fr) h⟩))
 ·split at e
  ·cases e
   obtain⟨a,xs,rfl,r1,c⟩:=Den.rdL g;obtain⟨b,ys,rfl,l,f⟩:=Den.rdL h;exact .inr (.inl ⟨a,b,xs,ys,rfl,rfl,r1,l,by rw[←c.length,←f.length];assumption,λp m=>k _ _ (fr.upd _ m) (Den.newL fr m (c.append f))⟩)
  ·cases e
 ·split at e
  ·cases e
   obtain⟨a,xs,rfl,r1,c⟩:=Den.sqT g;obtain⟨b,ys,rfl,l,f⟩:=Den.sqT h;have n:=c.length;have o:=f.length;refine .inr (.inr (.inl ⟨a,b,xs,ys,rfl,rfl,r1,l,(λz=>by subst z;cases n),by rw[←n,←o];assumption,λz=>?_,λ_ p m=>k _ _ (fr.upd _ m) (Den.newT fr m (c.append f))⟩));subst z;have r:=Vo.mp o;subst r;rw[Qx]at k;exact k _ H (To.refl fr) g
  ·cases e
 ·cases e
theorem aY:OpR X (Sx .Add) (λx y H Q=>(rI0 λi j=> .int (i+j)) x y H Q\/xg x y H Q\/xf X.K x y H Q\/xh X.K x y H Q):=o4.or (Ku.or (Kt.or Kv))
def DE:D->D->Option D:=opI λi j=>if(gG i&&gG j)=Pt then My (.int (i*j))else Po
theorem fq:aP K (rI sV λi j=> .int (i*j)) DE:=lN λi j h=>by
 simp only[Qq,gG,QI]at h;exact h
noncomputable def eqS:D->D->Option Bool
 | .non,.non=>My Pt
 | .int i,.int j=>My (decide (i=j))
 | .bl i,.bl j=>My (decide (i=j))
 | .str i,.str j=>My (decide (i=j))
 | .int _,.str _=>My Pz
 | .str _,.int _=>My Pz
 | .bl _,.str _=>My Pz
 | .str _,.bl _=>My Pz
 | .non,.int _=>My Pz
 | .int _,.non=>My Pz
 | .non,.str _=>My Pz
 | .str _,.non=>My Pz
 |_,_=>Po
theorem AF{c:Bool}(h:eqS a b=My c)(d:Den K F H a v)(e:Den K F H b w):CC v w=Pt/\decide (v=w)=c:=by
 unfold eqS at h;split at h<;>first
  |(cases h;cases d.int;cases e.int;exact⟨rfl,by simp⟩)
  |(cases h;cases d.bl;cases e.bl;exact⟨rfl,by simp⟩)
  |(cases h;cases d.str;cases e.str;exact⟨rfl,by simp⟩)
  |(cases h;cases d.non;cases e.non;exact⟨rfl,by simp⟩)
  |(cases h;cases d.int;cases e.str;exact⟨rfl,rfl⟩)
  |(cases h;cases d.str;cases e.int;exact⟨rfl,rfl⟩)
  |(cases h;cases d.bl;cases e.str;exact⟨rfl,rfl⟩)
  |(cases h;cases d.str;cases e.bl;exact⟨rfl,rfl⟩)
  |(cases h;cases d.non;cases e.int;exact⟨rfl,rfl⟩)
  |(cases h;cases d.int;cases e.non;exact⟨rfl,rfl⟩)
  |(cases h;cases d.non;cases e.str;exact⟨rfl,rfl⟩)
  |(cases h;cases d.str;cases e.non;exact⟨rfl,rfl⟩)
  |cases h
noncomputable def isN:D->Bool
 | .non=>Pt
 |_=>Pz
theorem MC(h:Den K F H d v):decide (v= .non)=isN d:=by
 cases d with
 |non=>cases h.non;rfl
 |bl b=>cases h.bl;rfl
 |int b=>cases h.int;rfl
 |str b=>cases h.str;rfl
 |ty b=>cases h.ty;rfl
 |txt=>unfold Den at h;obtain⟨z,rfl⟩:=h;rfl
 |lst ds=>obtain⟨a,xs,rfl,_⟩:=Den.sqL h;rfl
 |tup ds=>obtain⟨a,xs,rfl,_⟩:=Den.sqT h;rfl
 |scr ds=>obtain⟨a,rfl,_⟩:=Den.scr h;rfl
 |obj C ns ds=>
  unfold Den at h;obtain⟨a,_,_,rfl,_⟩:=h;rfl
 |bag=>
  unfold Den at h;obtain⟨a,_,_,rfl⟩:=h;rfl
 |adr a=>
  unfold Den at h;obtain rfl:=h;rfl
 |dct b ks vs=>
  unfold Den at h;obtain⟨a,_,xs,rfl,_⟩:=h;rfl
noncomputable def MD:D->D->Option D
 |a,.non=>My (.bl (isN a))
 |_,_=>Po
theorem OS:aP K (λx y H Q=>y= .non/\Q (.bl (decide (x= .non))) H) MD:=λF H β Q d1 d2 d c f fr a b e k=>by
 unfold MD at e;split at e
 ·cases e
  exact⟨b,by rw[MC a];exact k _ H (To.refl fr) rfl⟩
 ·cases e
noncomputable def ge:D->Bool
 | .int _=>Pt| .bl _=>Pt| .str _=>Pt| .non=>Pt|_=>Pz
noncomputable def eqF:D->D->Bool
 | .non,.non=>Pt
 | .bl a,.bl b=>a==b
 | .bl a,.int b=>(if a then 1 else 0)==b
 | .int a,.bl b=>a==(if b then 1 else 0)
 | .int a,.int b=>a==b
 | .str a,.str b=>a==b
 |_,_=>Pz
noncomputable def fj:D->Option (List D)
 | .lst a=>My a
 | .tup a=>My a
 |_=>Po
def inB(x:D)(ys:List D):Bool:=ys.any λy=>eqF y x
def inD(neg:Bool)(x y:D):Option D:=(fj y).bind λys=>if(ge x&&ys.all ge)=Pt then My (.bl (if neg then !inB x ys else inB x ys))else Po
theorem qv(f:ge d=Pt)(h:Den K F H d v):gD v=Pt:=by
 cases d<;>first|(cases h.int;rfl)|(cases h.bl;rfl)|(cases h.str;rfl)|(cases h.non;rfl)|cases f
theorem MS(e:ge a=Pt)(f:ge b=Pt)(c:Den K F H a v)(d:Den K F H b w):eqV v w=eqF a b:=by
 cases a<;>first
  |(exfalso;exact PQ e)
  |(cases b<;>first
   |(exfalso;exact PQ f)
   |(cases c.int;cases d.int;rfl)|(cases c.int;cases d.bl;rfl)|(cases c.int;cases d.str;rfl)|(cases c.int;cases d.non;rfl)
   |(cases c.bl;cases d.int;rfl)|(cases c.bl;cases d.bl;rfl)|(cases c.bl;cases d.str;rfl)|(cases c.bl;cases d.non;rfl)
   |(cases c.str;cases d.int;rfl)|(cases c.str;cases d.bl;rfl)|(cases c.str;cases d.str;rfl)|(cases c.str;cases d.non;rfl)
   |(cases c.non;cases d.int;rfl)|(cases c.non;cases d.bl;rfl)|(cases c.non;cases d.str;rfl)|(cases c.non;cases d.non;rfl))
theorem uI(a:ge x=Pt)(b:Den K F H x v):∀{ds:List D} {vs:List V},ds.all ge=Pt->DenL K F H ds vs->vs.all gD=Pt/\inV v vs=inB x ds
 |[],vs,_,h=>by have q:vs=[]:=h;subst q;exact⟨rfl,rfl⟩
 |d::ds,vs,f,h=>by
  obtain⟨y,r,q,c,g⟩:=h;subst q;rw[V4,Qq]at f;obtain⟨i,e⟩:=uI a b f.2 g;refine⟨by rw[V4,qv f.1 c,i];rfl,?_⟩;unfold inV inB at e⊢;rw[Va,Va,e,MS f.1 a c b]
theorem Mz{neg:Bool}:aP K (rIn K neg) (inD neg):=λF H β Q d1 d2 d i j fr c h e k=>by
 unfold inD at e;cases q:fj d2 with
 |none=>rw[q]at e;cases e
 |some ys=>
  rw[q]at e;simp only[Vc]at e;split at e
  ·rename_i b
   rw[Qq]at b;cases e;cases d2<;>first|(cases q;obtain⟨a,xs,rfl,r1,dl⟩:=Den.sqL h;obtain⟨f,g⟩:=uI b.1 c b.2 dl;exact⟨a,xs,rfl,.inl r1,qv b.1 c,f,by rw[g];exact k _ H (To.refl fr) rfl⟩)|(cases q;obtain⟨a,xs,rfl,r1,dl⟩:=Den.sqT h;obtain⟨f,g⟩:=uI b.1 c b.2 dl;exact⟨a,xs,rfl,.inr r1,qv b.1 c,f,by rw[g];exact k _ H (To.refl fr) rfl⟩)|cases q
  ·cases e
def ixD:D->D->Option D
 | .lst xs,.int i=>atI xs i
 | .tup xs,.int i=>atI xs i
 |_,_=>Po
theorem BA(h:DenL K F H ds vs)(e:atI ds i=My d):∃v,atI vs i=My v/\Den K F H d v:=by
 unfold atI at e⊢;rw[←h.length];cases q:ixN ds.length i with
 |none=>rw[q]at e;cases e
 |some j=>
  rw[q]at e;exact h.get e
theorem bh:aP K (λx y H Q=>xb K x y H Q\/CH K x y H Q) ixD:=λF H β Q d1 d2 d g h fr c f e k=>by
 unfold ixD at e;split at e
 ·obtain⟨a,xs,rfl,r1,dl⟩:=Den.sqL c
  obtain⟨v,b,hd⟩:=BA dl e;exact .inl ⟨a,xs,_,v,rfl,f,r1,b,k _ H (To.refl fr) hd⟩
 ·obtain⟨a,xs,rfl,r1,dl⟩:=Den.sqT c
  obtain⟨v,b,hd⟩:=BA dl e;exact .inr ⟨a,xs,_,v,rfl,f,r1,b,k _ H (To.refl fr) hd⟩
 ·cases e
theorem aC:IxR X (λx y H Q=>xb X.K x y H Q\/CH X.K x y H Q):=dQ.or MB
noncomputable def gv:List D->Option D
 |[.lst xs]=>My (.int xs.length)
 |[.tup xs]=>My (.int xs.length)
 |_=>Po
theorem DenL.one(h:DenL K F H [d] vs):∃v,vs=[v]/\Den K F H d v:=by
 obtain⟨x,r,e,a,b⟩:=h;have q:r=[]:=b;subst q;exact⟨x,e,a⟩
theorem DenL.two(h:DenL K F H [d,c] vs):∃v w,vs=[v,w]/\Den K F H d v/\Den K F H c w:=by
 obtain⟨x,r,e,a,b⟩:=h;obtain⟨y,rfl,f⟩:=DenL.one b;exact⟨x,y,e,a,f⟩
theorem OR:eU K (λxs H Q=>∃p ys,xs=[.ref p]/\(SqL K H p ys\/SqT K H p ys)/\Q (.int ys.length) H) gv:=λF H β Q ds d vs fr h e k=>by
 unfold gv at e;split at e
 ·cases e
  obtain⟨v,rfl,g⟩:=DenL.one h;obtain⟨a,xs,rfl,r,dl⟩:=Den.sqL g;exact⟨a,xs,rfl,.inl r,by rw[←dl.length];exact k _ H (To.refl fr) rfl⟩
 ·cases e
  obtain⟨v,rfl,g⟩:=DenL.one h;obtain⟨a,xs,rfl,r,dl⟩:=Den.sqT g;exact⟨a,xs,rfl,.inr r,by rw[←dl.length];exact k _ H (To.refl fr) rfl⟩
 ·cases e
noncomputable def N5:List D->Option D
 |[.int i]=>My (.int (if i<0 then -i else i))
 |_=>Po
theorem OU:eU K (λxs H Q=>∃i,xs=[.int i]/\Q (.int (if i<0 then -i else i)) H) N5:=λF H β Q ds d vs fr h e k=>by
 unfold N5 at e;split at e
 ·cases e
  obtain⟨v,rfl,g⟩:=DenL.one h;cases g.int;exact⟨_,rfl,k _ H (To.refl fr) rfl⟩
 ·cases e
noncomputable def uw:List D->Option D
 |[.int i,.int j]=>My (.int (if j<i then j else i))
 |_=>Po
noncomputable def xw:List D->Option D
 |[.int i,.int j]=>My (.int (if j>i then j else i))
 |_=>Po
theorem IK:eU K (λxs H Q=>∃i j,xs=[.int i,.int j]/\Q (.int (if j<i then j else i)) H) uw:=λF H β Q ds d vs fr h e k=>by
 unfold uw at e;split at e
 ·cases e
  obtain⟨v,w,rfl,g,g'⟩:=DenL.two h;cases g.int;cases g'.int;exact⟨_,_,rfl,k _ H (To.refl fr) rfl⟩
 ·cases e
theorem OQ:eU K (λxs H Q=>∃i j,xs=[.int i,.int j]/\Q (.int (if j>i then j else i)) H) xw:=λF H β Q ds d vs fr h e k=>by
 unfold xw at e;split at e
 ·cases e
  obtain⟨v,w,rfl,g,g'⟩:=DenL.two h;cases g.int;cases g'.int;exact⟨_,_,rfl,k _ H (To.refl fr) rfl⟩
 ·cases e
noncomputable def eC:List D->Option (List Int)
 |[]=>My []
 | .int i::r=>(eC r).map (i::·)
 |_=>Po
theorem intsOf_eq:∀{ds:List D} {ns:List Int},eC ds=My ns->ds=ns.map D.int
 |[],ns,h=>by cases h;rfl
 |d::ds,ns,h=>by
  cases d with
  |int i=>
   unfold eC at h;cases q:eC ds with
   |none=>rw[q]at h;cases h
   |some a=>rw[q]at h;cases h;rw[intsOf_eq q];rfl
  |_=>cases h
def BW:List D->Option D
 |[.lst xs]=>(eC xs).map λns=> .int ns.sum
 |_=>Po
theorem ON:eU K (λxs H Q=>∃(a:PD) (ns:List Int),xs=[.ref a]/\SqL K H a (ns.map V.int)/\Q (.int ns.sum) H) BW:=λF H β Q ds d vs fr h e k=>by
 unfold BW at e;split at e
 ·rename_i xs
  cases q:eC xs with
  |none=>rw[q]at e;cases e
  |some ns=>
   rw[q]at e;cases e;obtain⟨v,rfl,g⟩:=DenL.one h;obtain⟨a,ys,rfl,r,dl⟩:=Den.sqL g;rw[intsOf_eq q]at dl;have b:=DenL.ints ns dl;subst b;exact⟨a,ns,rfl,r,k _ H (To.refl fr) rfl⟩
 ·cases e
noncomputable def sH:List D->Option D
 |[.lst xs]=>My (.lst xs)
 |[.tup xs]=>My (.lst xs)
 |_=>Po
theorem ff:eU K (λxs H Q=>∃p ys,xs=[.ref p]/\(SqL K H p ys\/SqT K H p ys)/\∀l,H l=Po->Q (.ref l) (upd H l (.lst ys))) sH:=λF H β Q ds d vs fr h e k=>by
 unfold sH at e;split at e
 ·cases e
  obtain⟨v,rfl,g⟩:=DenL.one h;obtain⟨a,xs,rfl,r,dl⟩:=Den.sqL g;exact⟨a,xs,rfl,.inl r,λl b=>k _ _ (fr.upd _ b) (Den.newL fr b dl)⟩
 ·cases e
  obtain⟨v,rfl,g⟩:=DenL.one h;obtain⟨a,xs,rfl,r,dl⟩:=Den.sqT g;exact⟨a,xs,rfl,.inr r,λl b=>k _ _ (fr.upd _ b) (Den.newL fr b dl)⟩
 ·cases e
noncomputable def tj:List D->Option D
 |[.lst xs]=>My (.tup xs)
 |[.tup xs]=>My (.tup xs)
 |_=>Po
theorem gx:eU K (λxs H Q=>∃p ys,xs=[.ref p]/\((SqL K H p ys/\∀l,H l=Po->Q (.ref l) (upd H l (.tup ys)))\/(SqT K H p ys/\Q (.ref p) H))) tj:=λF H β Q ds d vs fr h e k=>by
 unfold tj at e;split at e
 ·cases e
  obtain⟨v,rfl,g⟩:=DenL.one h;obtain⟨a,xs,rfl,r,dl⟩:=Den.sqL g;exact⟨a,xs,rfl,.inl ⟨r,λl b=>k _ _ (fr.upd _ b) (Den.newT fr b dl)⟩⟩
 ·cases e
  obtain⟨v,rfl,g⟩:=DenL.one h;obtain⟨a,xs,rfl,r,dl⟩:=Den.sqT g;exact⟨a,xs,rfl,.inr ⟨r,k _ H (To.refl fr) g⟩⟩
 ·cases e
end
noncomputable def asB:D->Option Bool
 | .bl b=>My b
 |_=>Po
theorem jd{b:Bool}(h:asB d=My b):d= .bl b:=by cases d<;>first|(cases h;rfl)|cases h
noncomputable def BR:D->Option Bool
 | .non=>My Pz
 | .bl b=>My b
 | .int i=>My (i !=0)
 | .lst xs=>My (!xs.isEmpty)
 | .tup xs=>My (!xs.isEmpty)
 |_=>Po
def fB(f:FD):Dn->M Bool:=λδ=>M.bind (f δ) λd=>M.ofO (asB d)
def xX(f:FD):Dn->M Bool:=λδ=>M.bind (f δ) λd=>M.ofO (BR d)
def xY(f g:Dn->M Bool):Dn->M Bool:=λδ=>M.bind (f δ) λc=>if c=Pt then M.ret Pt else g δ
def xZ(f:Dn->M Bool):Dn->M Bool:=λδ=>M.bind (f δ) λc=>M.ret (!c)
def fIf(t:Dn->M Bool)(f g:FD):FD:=λδ=>M.bind (t δ) λc=>if c=Pt then f δ else g δ
def j7(o d:D->D->Option D)(f g h:FD):FD:=λδ=>M.bind (f δ) λa=>M.bind (g δ) λb=>M.bind (M.ofO (o a b)) λz=>M.bind (M.ofO (asB z)) λc=>if c=Pt then M.bind (h δ) (λw=>M.ofO (d b w))else M.ret (.bl Pz)
section
variable{X:Cx}{E:St->XK}{a b c:Expr}{rest:List Expr}{pos:Uh}{K:P6}
theorem M.ofO_bind{α d:Type}{o:Option α}{k:α->M d}{β:Bg}{z:Except PD d×Bg}(h:M.bind (M.ofO o) k β=My z):∃a,o=My a/\k a β=My z:=by
 cases o with
 |none=>cases h
 |some a=>exact⟨a,rfl,h⟩
theorem run.ofO_bind{α f g:Type}{R:Hp->f->g->Prop}{F:Fx}{i:St}{o:Option α}{k:α->M f}{H:Hp}{Q:g->Hp->Prop}{β:Bg}(h:run R F E i (M.bind (M.ofO o) k) H Q β):∃a,o=My a/\run R F E i (k a) H Q β:=by
 obtain⟨r,d,e,h⟩:=h;obtain⟨a,q,e⟩:=M.ofO_bind e;exact⟨a,q,r,d,e,h⟩
theorem run.bOk(fr:Fr F H β)(hd:Den K F H d v)(h:run (λ_ (a b:Bool)=>b=a) F E σ (M.ofO (asB d)) H Q β):∃k,v= .bl k/\Q k H:=by
 obtain⟨b,e,k⟩:=run.ofO h;rw[jd e]at hd;exact⟨b,hd,k b H (To.refl fr) rfl⟩
theorem nu(h:tVT K (fB f) E σ H Q):tV K f E σ H λx e=>∃k,x= .bl k/\Q k e:=by
 obtain⟨F,δ,β,fr,g,h⟩:=h;exact⟨F,δ,β,fr,g,(run.bind (R:=Den K F) h).mono λv j i=>ex5 i λd β1 t hd r1=>run.bOk t.fr hd r1⟩
theorem bJ(d:OpR X (Q8 op) r)(l:aP X.K r o)(ha:PE X a (tV X.K f E))(e:PE X b (tV X.K g E))(hm:UI op b=Pz:=by first|exact uo _|rfl):PT X (.Compare a [op] [b] pos) (tVT X.K (fB (f2 o f g)) E):=
 (vT d ha e hm).imp λi H Q h=>ox l (nu h)
theorem yE(l:aP K r o)(U:aP K r' o')(y:tV K (j7 o o' f g h) E σ H Q):yF r r' (tV K f E) (tV K g E) (tV K h E) σ H Q:=by
 obtain⟨F,δ,β,fr,A,y⟩:=y;refine⟨F,δ,β,fr,A,(run.bind (R:=Den K F) y).mono λv H1 j=>ex5 j λd β1 t hd r1=>⟨F,δ,β1,t.fr,A.tr (t.tr fr),(run.bind (R:=Den K F) r1).mono λN W j=>ex5 j λd2 β2 m n Y=>?_⟩⟩;obtain⟨z,O,Z⟩:=run.ofO_bind Y;obtain⟨c,ec,u⟩:=run.ofO_bind Z;rw[jd ec]at O;refine l F W β2 _ d d2 _ v N m.fr (Den.tr (m.tr t.fr) _ _ hd) n O λvz P i hz=>⟨c,hz,?_⟩;cases c with
 |true=>
  rw[PP rfl]at u;refine⟨F,δ,β2,i.fr,A.tr ((t.tr fr).trans ((m.tr t.fr).trans (i.tr m.fr))),?_⟩;have r5:run (Den K F) F E σ (M.bind (h δ) λw=>M.ofO (o' d2 w)) P Q β2:=by
   obtain⟨B,p,e,q⟩:=u;refine⟨B,p,e,?_⟩;cases B with
   |ok d=>exact λv I tt=>q v I (i.trans tt)
   |error C=>exact λI tt=>q I (i.trans tt)
  refine(run.bind (R:=Den K F) r5).mono λw H4 j=>ex5 j λdw J T L r6=>?_;obtain⟨d3,e3,k⟩:=run.ofO r6;exact U F H4 J Q d2 dw d3 N w T.fr (Den.tr ((i.tr m.fr).trans (T.tr i.fr)) _ _ n) L e3 k
 |false=>
  rw[PL PQ]at u;obtain⟨B,p,e,q⟩:=u;cases e;exact q _ P i rfl
theorem pZ(e:OpR X (Q8 op) r)(d:OpR X (Q8 op') r')(l:aP X.K r o)(i:aP X.K r' o')(ha:PE X a (tV X.K f E))(j:PE X b (tV X.K g E))(k:PE X c (tV X.K h E))(hm:Za [op,op'] [b,c]=Pz:=by with_unfolding_all rfl):
  PT X (.Compare a [op,op'] [b,c] pos) (tVT X.K (fB (j7 o o' f g h)) E):=(CJ e d ha j k hm).imp λm H Q q=>yE l i (nu q)
theorem JM{k:Bool}(h:BR d=My k)(hd:Den K F H d v):HA K v H k:=by
 cases d with
 |non=>cases h;cases hd.non;rfl
 |bl b=>cases h;cases hd.bl;rfl
 |int i=>cases h;cases hd.int;rfl
 |lst xs=>
  cases h;obtain⟨a,ys,rfl,r,dl⟩:=Den.sqL hd;refine .inl ⟨ys,r,?_⟩;have:=dl.length;cases xs<;>cases ys<;>first|rfl|(simp at this)
 |tup xs=>
  cases h;obtain⟨a,ys,rfl,r,dl⟩:=Den.sqT hd;refine .inr ⟨ys,r,?_⟩;have:=dl.length;cases xs<;>cases ys<;>first|rfl|(simp at this)
 |_=>cases h
theorem sr(ha:PE X a (tV X.K f E))(j:∀g,isTrue a X.env g=(do let v ←g;Tk a.pos;TU [v] (truthy v)):=by intro _;rfl):PT X a (tVT X.K (xX f) E):=
 (CI ha j).imp λn H Q i=>ex6 i λF δ β fr l h=>⟨F,δ,β,fr,l,(run.bind (R:=Den X.K F) h).mono λv m i=>by
  obtain⟨d,β1,t,hd,r1⟩:=i;obtain⟨k,e,q⟩:=run.ofO r1;exact⟨k,JM e hd,q k m (To.refl t.fr) rfl⟩⟩
theorem ss(ha:PT X a (tVT X.K f E)):PT X (.UnaryOp .Not a pos) (tVT X.K (xZ f) E):=
 (LU ha).imp λi H Q e=>ex6 e λF δ β fr g h=>⟨F,δ,β,fr,g,(run.bind (R:=λ_ (a b:Bool)=>b=a) h).mono λv j e=>by
  obtain⟨d,β1,t,hd,r1⟩:=e;subst hd;exact run.ret t.fr r1 rfl⟩
theorem Ll(h:tVT K (xY f g) E σ H Q):tOr (tVT K f E) (tVT K g E) σ H Q:=by
 obtain⟨F,δ,β,fr,e,h⟩:=h;refine⟨F,δ,β,fr,e,(run.bind (R:=λ_ (a b:Bool)=>b=a) h).mono λv j i=>ex5 i λd β1 t hd r1=>?_⟩;subst hd;cases v with
 |false=>rw[PL PQ]at r1⊢;exact⟨F,δ,β1,t.fr,e.tr (t.tr fr),r1⟩
 |true=>rw[PP rfl]at r1⊢;exact run.ret t.fr r1 rfl
theorem rZ(ha:PT X a (tVT X.K f E)):PW X (.BoolOp .Or [a] pos) (tVT X.K f E):=LS ha
theorem wK(ha:PT X a (tVT X.K f E))(d:PW X (.BoolOp .Or (b::rest) pos) (tVT X.K g E)):PW X (.BoolOp .Or (a::b::rest) pos) (tVT X.K (xY f g) E):=(OA ha d).imp λ_ _ _=>Ll
theorem ow(h:PW X e (tVT X.K f E)):PT X e (tVT X.K f E):=PW.pt h
theorem run.asB(hd:Den K F H d v)(h:run (Den K F) F E σ (M.bind (M.ofO (asB d)) k) H Q β):∃c,v= .bl c/\run (Den K F) F E σ (k c) H Q β:=by
 obtain⟨c,e,h⟩:=run.ofO_bind h;rw[jd e]at hd;exact⟨c,hd,h⟩
theorem v_if(j:PT X c (tVT X.K t E))(ha:PE X a (tV X.K f E))(k:PE X b (tV X.K g E)):PE X (.IfExp c a b pos) (tV X.K (fIf t f g) E):=
 (CT j ha k).imp λl H Q e=>ex6 e λF δ β fr i h=>⟨F,δ,β,fr,i,(run.bind (R:=λ_ (a b:Bool)=>b=a) h).mono λv m e=>by
  obtain⟨d,β1,t,hd,r1⟩:=e;subst hd;cases v with
  |true=>rw[PP rfl]at r1⊢;exact⟨F,δ,β1,t.fr,i.tr (t.tr fr),r1⟩
  |false=>rw[PL PQ]at r1⊢;exact⟨F,δ,β1,t.fr,i.tr (t.tr fr),r1⟩⟩
end
def ItD(K:P6)(J:It)(F:Fx)(H:Hp)(ds:List D):Prop:=∀(b:Fx) (a:Hp) (β2:Bg),Tr F H b a->Fr b a β2->∀i,(∀d,ds[i]?=My d->J.go i a/\∀x c,J.yld i a x c->bB a c/\Den K b c d x)/\(i=ds.length->J.stop i a)
theorem ItD.tr{K:P6}(t:Tr F H F2 H2)(h:ItD K J F H ds):ItD K J F2 H2 ds:=λa b β3 c fr=>h a b β3 (t.trans c) fr
def iV(K:P6)(f:FL)(E:St->XK):TI:=λa H R=>∃F δ β,Fr F H β/\VOk K F H δ a/\run (λb (ds:List D) (J:It)=>ItD K J F b ds) F E a (f δ) H R β
theorem _root_.L2.PI.imp(h:PI X tg e t)(f:∀a H Q,t' a H Q->t a H Q):PI X tg e t':=λb s a H Q I q=>h b s a H Q I (f a H Q q)
section
variable{X:Cx}{E:St->XK}{tg:Expr}{K:P6}
def iSeq(K:P6)(c:TE):TI:=λd H R=>c d H λx b=>(∃a,x= .ref a/\(∃xs,SqL K b a xs)/\R (Itl K a) b)\/(∃a,x= .ref a/\(∃xs,SqT K b a xs)/\R (Itt K a) b)
theorem LZ(k:PE X l tl):PI X tg l (iSeq X.K tl):=by
 intro d s m H R I h;refine thn (k d s m H _ I h) λv c ⟨x,i,f,r1,q1⟩=>?_;have g:∀b∈[c.heap.objs.size],eW X d i b:=λb n=>by
  obtain rfl:b=c.heap.objs.size:=by simpa using n
  exact f.fpOk (PN _) (f.hok.fresh (PN _))
 rcases q1 with⟨a,e,⟨xs,j⟩,q⟩|⟨a,e,⟨xs,j⟩,q⟩
 ·subst e
  cases r1;obtain⟨its,r,p,t⟩:=f.list j;exact Vv p.isList ⟨c.heap.objs.size,[c.heap.objs.size],_,_,i,rfl,f.kept (t':=c.toks) λb o e=>Pr _ e,qM a _,⟨_,P4 _ rfl,rfl,rfl⟩,g,q⟩
 ·subst e
  cases r1;obtain⟨its,r,p,t⟩:=f.tuple j;exact WL (show c.heap.IsTuple a its.toArray from p) ⟨c.heap.objs.size,[c.heap.objs.size],_,_,i,rfl,f.kept (t':=c.toks) λb o e=>Pr _ e,wP a _,⟨_,P4 _ rfl,rfl,rfl⟩,g,q⟩
theorem DT(h:Den K F H (.lst ds) (.ref a)):ItD K (Itl K a) F H ds:=λl m β2 t fr i=>by
 have g:=Den.tr t _ _ h;obtain⟨n,xs,e,sq,dl⟩:=Den.sqL g;cases e;refine⟨λd hd=>?_,λj=>⟨xs,sq,by rw[←dl.length,j];exact PN _⟩⟩;obtain⟨x,k,_⟩:=dl.get hd;refine⟨⟨xs,x,sq,k⟩,λy o b=>?_⟩;obtain⟨rfl,b⟩:=b;obtain⟨d',f,c⟩:=dl.getV (b xs sq);rw[hd]at f;cases f;exact⟨bB.refl _,c⟩
theorem KN(h:Den K F H (.tup ds) (.ref a)):ItD K (Itt K a) F H ds:=λl m β2 t fr i=>by
 have g:=Den.tr t _ _ h;obtain⟨n,xs,e,sq,dl⟩:=Den.sqT g;cases e;refine⟨λd hd=>?_,λj=>⟨xs,sq,by rw[←dl.length,j];exact PN _⟩⟩;obtain⟨x,k,_⟩:=dl.get hd;refine⟨⟨xs,x,sq,k⟩,λy o b=>?_⟩;obtain⟨rfl,b⟩:=b;obtain⟨d',f,c⟩:=dl.getV (b xs sq);rw[hd]at f;cases f;exact⟨bB.refl _,c⟩
def dD(f:FD):FL:=λδ=>M.bind (f δ) λd=>M.ofO (fj d)
theorem aS(g:PE X l (tV X.K f E)):PI X tg l (iV X.K (dD f) E):=
 (LZ g).imp λj H R b=>ex6 b λF δ β fr i h=>⟨F,δ,β,fr,i,(run.bind (R:=Den X.K F) h).mono λv c b=>by
  obtain⟨d,β1,t,hd,r1⟩:=b;obtain⟨ds,e,k⟩:=run.ofO r1;cases d<;>first
   |(cases e;obtain⟨a,xs,rfl,sq,dl⟩:=Den.sqL hd;exact .inl ⟨a,rfl,⟨xs,sq⟩,k _ c (To.refl t.fr) (DT hd)⟩)
   |(cases e;obtain⟨a,xs,rfl,sq,dl⟩:=Den.sqT hd;exact .inr ⟨a,rfl,⟨xs,sq⟩,k _ c (To.refl t.fr) (KN hd)⟩)
   |cases e⟩
noncomputable def aR(lo:Int)(n:Nat):List D:=(PR n).map λ(i:Nat)=> .int (lo+(i:Int))
theorem rh{lo:Int}:ItD K (Itr lo n) F H (aR lo n):=λe f β2 t fr i=>by
 refine⟨λd hd=>?_,λa=>?_⟩
 ·unfold aR at hd
  have a:i<n:=by
   have:=(PU.mp hd).1;simpa using this
  rw[Py,Ri a]at hd;cases hd;exact⟨a,λx g ⟨b,c⟩=>by subst b c;exact⟨bB.refl _,rfl⟩⟩
 ·show n<=i
  rw[a];simp[aR]
def gq:List D->Option (List D)
 |[.int j]=>if(decide (-(2^62)<=j)&&decide (j<2^62))=Pt then My (aR 0 j.toNat)else Po
 |_=>Po
def nJ:List D->Option (List D)
 |[.int i,.int j]=>if(decide (-(2^62)<=i)&&decide (i<2^62)&&decide (-(2^62)<=j)&&decide (j<2^62))=Pt then My (aR i (j-i).toNat)else Po
 |_=>Po
def cX(op:List D->Option (List D))(g:FL):FL:=λδ=>M.bind (g δ) λas=>M.ofO (op as)
theorem cg(d:Gl X "range")(hm:X.mg "range"=Po)(ha:PA X [a] (tVA X.K g E))(hs:PX [a] X.env=[(Pz,QW a X.env)]:=by rfl):PI X tg (.Call (.Name "range" p) [a] [] pos) (iV X.K (cX gq g) E):=
 (zi d hm ha hs).imp λm H R b=>ex6 b λF δ β fr f h=>⟨F,δ,β,fr,f,(run.bind (R:=DenL X.K F) h).mono λvs i b=>by
  obtain⟨ds,β1,t,hd,r1⟩:=b;obtain⟨l,e,k⟩:=run.ofO r1;unfold gq at e;split at e
  ·split at e
   ·rename_i c
    cases e;simp only[Qq,QI]at c;obtain⟨v,rfl,j⟩:=DenL.one hd;cases j.int;exact⟨_,rfl,c.1,c.2,k _ i (To.refl t.fr) rh⟩
   ·cases e
  ·cases e⟩
theorem uJ(i:Gl X "range")(hm:X.mg "range"=Po)(ha:PA X [a,b] (tVA X.K g E))(hs:PX [a,b] X.env=[(Pz,QW a X.env),(Pz,QW b X.env)]:=by rfl)(d:PX [b] X.env=[(Pz,QW b X.env)]:=by rfl):PI X tg (.Call (.Name "range" p) [a,b] [] pos) (iV X.K (cX nJ g) E):=
 (zh i hm ha hs d).imp λq H R f=>ex6 f λF δ β fr j h=>⟨F,δ,β,fr,j,(run.bind (R:=DenL X.K F) h).mono λvs m f=>by
  obtain⟨ds,β1,t,hd,r1⟩:=f;obtain⟨l,e,k⟩:=run.ofO r1;unfold nJ at e;split at e
  ·split at e
   ·rename_i c
    cases e;simp only[Qq,QI]at c;obtain⟨v,w,rfl,n,o⟩:=DenL.two hd;cases n.int;cases o.int;exact⟨_,_,rfl,⟨c.1.1.1,c.1.1.2,c.1.2,c.2⟩,k _ m (To.refl t.fr) rh⟩
   ·cases e
  ·cases e⟩
abbrev TgF:=D->Dn->Option Dn
abbrev je:=List D->Dn->Option Dn
def cM(K:P6)(g:TG)(tg:TgF):Prop:=∀(F:Fx) (H:Hp) (δ δ1:Dn) (b:St) (d:D) (v:V) (Q:St->Hp->Prop),VOk K F H δ b->Den K F H d v->tg d δ=My δ1->(∀a,VOk K F H δ1 a->Q a H)->g v b H Q
def pU(K:P6)(g:TGs)(tg:je):Prop:=∀(F:Fx) (H:Hp) (δ δ1:Dn) (b:St) (ds:List D) (vs:List V) (Q:St->Hp->Prop),VOk K F H δ b->DenL K F H ds vs->tg ds δ=My δ1->(∀a,VOk K F H δ1 a->Q a H)->g vs b H Q
noncomputable def tgC(i:Nat):TgF:=λd δ=>if(δ.getD i (My .non)).isNone then My (δ.set i (My d))else Po
noncomputable def kX:je:=λds δ=>match ds with
 |[]=>My δ
 |_=>Po
noncomputable def gm(t:TgF)(u:je):je:=λds δ=>match ds with
 |[]=>Po
 |d::r=>(t d δ).bind λδ1=>u r δ1
noncomputable def tgT(t:je):TgF:=λd δ=>match d with
 | .tup ds=>t ds δ
 |_=>Po
theorem tw{δ δ1:Dn}(h:tgC i d δ=My δ1):δ[i]?=My Po/\δ1=δ.set i (My d):=by
 unfold tgC at h;split at h
 ·rename_i q
  cases h;refine⟨?_,rfl⟩;rw[Px]at q;cases e:δ[i]? with
  |none=>rw[e]at q;cases q
  |some z=>
   rw[e]at q;cases z with
   |none=>rfl
   |some w=>cases q
 ·cases h
theorem ao:cM K (eQ i) (tgC i):=λF H δ δ1 b d v Q a hd e k=>by
 obtain⟨_,rfl⟩:=tw e;exact k _ (a.set hd)
theorem dP:pU K gNil kX:=λF H δ δ1 b ds vs Q a hd e k=>by
 cases ds with
 |nil=>cases e;exact⟨hd,k _ a⟩
 |cons _ _=>cases e
theorem aV(h:cM K t tf)(i:pU K u uf):pU K (xO t u) (gm tf uf):=λF H δ δ1 j ds vs Q l hd e k=>by
 cases ds with
 |nil=>cases e
 |cons d r=>
  obtain⟨x,g,rfl,m,n⟩:=hd;have b:(tf d δ).bind (λδ1=>uf r δ1)=My δ1:=e;cases q:tf d δ with
  |none=>rw[q]at b;cases b
  |some a=>
   rw[q]at b;exact⟨x,g,rfl,h F H δ a j d x _ l m q λc f=>i F H a δ1 c r g Q f n b k⟩
theorem e9(h:pU K t tf)(hn:∀ds δ δ1,tf ds δ=My δ1->ds.length=n):cM K (EB K n t) (tgT tf):=λF H δ δ1 b d v Q c hd e k=>by
 cases d<;>first
  |(obtain⟨a,xs,rfl,sq,dl⟩:=Den.sqT hd;exact⟨a,xs,rfl,sq,by rw[←dl.length];exact hn _ _ _ e,h F H δ δ1 b _ xs Q c dl e k⟩)
  |cases e
theorem cZ:∀ds δ δ1,kX ds δ=My δ1->ds.length=0:=λds δ δ1 h=>by
 cases ds with
 |nil=>rfl
 |cons _ _=>cases h
theorem aT(h:∀ds δ δ1,u ds δ=My δ1->ds.length=n):∀ds δ δ1,gm t u ds δ=My δ1->ds.length=n+1:=λds δ δ1 e=>by
 cases ds with
 |nil=>cases e
 |cons d r=>
  have a:(t d δ).bind (λδ1=>u r δ1)=My δ1:=e;cases q:t d δ with
  |none=>rw[q]at a;cases a
  |some b=>rw[q]at a;rw[Qd,h _ _ _ a]
def dT(tg:TgF):Prop:=∀d δ δ1,tg d δ=My δ1->Sub δ δ1/\δ.length=δ1.length
def sS(tg:je):Prop:=∀d δ δ1,tg d δ=My δ1->Sub δ δ1/\δ.length=δ1.length
theorem au:dT (tgC i):=λd δ δ1 e=>by
 obtain⟨q,rfl⟩:=tw e;refine⟨λj c a=>?_,by rw[QB]⟩;rw[Q2];by_cases z:i=j
 ·subst z;rw[q]at a;cases a
 ·rw[PL z];exact a
theorem dO:sS kX:=λds δ δ1 e=>by
 cases ds with
 |nil=>cases e;exact⟨λ_ _ h=>h,rfl⟩
 |cons _ _=>cases e
theorem aU(b:dT t)(f:sS u):sS (gm t u):=λds δ δ1 e=>by
 cases ds with
 |nil=>cases e
 |cons d r=>
  have a:(t d δ).bind (λδ1=>u r δ1)=My δ1:=e;cases q:t d δ with
  |none=>rw[q]at a;cases a
  |some g=>
   rw[q]at a;obtain⟨a1,a2⟩:=b _ _ _ q;obtain⟨b1,b2⟩:=f _ _ _ a;exact⟨λi c h=>b1 i c (a1 i c h),a2.trans b2⟩
theorem eY(h:sS t):dT (tgT t):=λd δ δ1 e=>by
 cases d<;>first|exact h _ _ _ e|cases e
structure ToD (F:Fx) (D:PD) (H H':Hp) (β':Bg):Prop where
 kp:∀a o,H a=My o->a≠D->(∀b l,F.bg=My (b,l)->a≠b/\a≠l)->H' a=My o
 fr:Fr F H' β'
theorem ToD.trans{D:PD}(a:ToD F D H H1 β1)(b:ToD F D H1 H2 β2):ToD F D H H2 β2:=⟨λx o h n m=>b.kp x o (a.kp x o h n m) n m,b.fr⟩
theorem To.toD(t:To F H H' β')(D:PD):ToD F D H H' β':=⟨λa o h _ m=>t.kp a o h m,t.fr⟩
theorem ToD.tr{F:Fx}{D:PD}(fr:Fr F H β)(c:F.A D)(t:ToD F D H H' β'):Tr F H F H':=
 ⟨λ_ h _=>h,λa o h e=>t.kp a o e (λz=>h (z▸c)) λb l q=>⟨λz=>h (z▸(fr.bgA b l q).1),λz=>h (z▸(fr.bgA b l q).2.1)⟩,rfl⟩
structure AR where
 R:Fx->Hp->PD->List Pu.D->Prop
 Z:List Pu.D->Prop
 tr:∀{F F2:Fx} {H H':Hp} {D:PD} {as:List Pu.D},R F H D as->(∀o,H D=My o->H' D=My o)->Tr F H F2 H'->R F2 H' D as
 zp:∀{as os:List Pu.D},Z (as++os)->Z as
noncomputable def RL(K:P6):AR where
 R:=λF H D as=>∃acc,H D=My (.lst acc)/\DenL K F H as acc
 Z:=λl=>l.length<=P0
 tr:=λh k t=>by
  obtain⟨acc,a,b⟩:=h;exact⟨acc,k _ a,DenL.tr t _ _ b⟩
 zp:=λh=>by rw[Qf]at h;omega
def eE(K:P6)(R:AR)(D:PD)(g:TB)(f:Dn->M (List Pu.D)):Prop:=∀(F:Fx) (H:Hp) (δ:Dn) (β a:Bg) (e:St) (as os:List Pu.D) (Q:St->Hp->Prop),Fr F H β->F.A D->(∀b l,F.bg=My (b,l)->D≠b/\D≠l)->VOk K F H δ e->R.R F H D as->
 f δ β=My (.ok os,a)->R.Z (as++os)->(∀c d,ToD F D H d a->VOk K F d δ c->R.R F d D (as++os)->Q c d)->g e H Q
abbrev mV(K:P6):=eE K (RL K)
def cEm(f:Dn->M Pu.D):Dn->M (List Pu.D):=λδ=>M.bind (f δ) λd=>M.ret [d]
theorem M.bind_inv{α c:Type}{m:M α}{k:α->M c}{β b:Bg}{r:c}(h:M.bind m k β=My (.ok r,b)):∃a β1,m β=My (.ok a,β1)/\k a β1=My (.ok r,b):=by
 unfold M.bind at h;split at h
 ·cases h
 ·cases h
 ·rename_i a β1 e
  exact⟨a,β1,e,h⟩
theorem E0.run{α d:Type}{R:Hp->α->d->Prop}{F:Fx}{f:St}{m:M α}{H:Hp}{Q:d->Hp->Prop}{β b:Bg}{a:α}(e:m β=My (.ok a,b))(h:∀v c,To F H c b->R c a v->Q v c):run R F E0 f m H Q β:=⟨.ok a,b,e,h⟩
theorem aM{D:PD}:mV K D (yd D (tV K f E0)) (cEm f):=λF H δ β c r as os Q fr u g j w e y k=>by
 obtain⟨acc,A,hd⟩:=w;obtain⟨d,β1,B,C⟩:=M.bind_inv e;cases C;refine⟨F,δ,β,fr,j,E0.run B λv m t I=>?_⟩;have i:=t.kp D _ A g;have dl:=DenL.tr (t.tr fr) _ _ hd;refine⟨acc,i,by rw[←hd.length];have:=(show(as++[d]).length<=P0 from y);simp at this;omega,?_⟩;have p:ToD F D m (upd m D (.lst (acc++[v]))) c:=by
  refine⟨λa o h n _=>by rw[upd_ne n];exact h,λa h q=>?_,fr.bgA,λb l q=>?_⟩
  ·by_cases z:a=D
   ·subst z;rw[af]at q;cases q
   ·rw[upd_ne z]at q;exact t.fr.occ a h q
  ·rw[upd_ne (g b l q).1.symm,upd_ne (g b l q).2.symm]
   exact t.fr.bag b l q
 have tt:=p.tr t.fr u;exact k r _ ((t.toD D).trans p) (j.tr ((t.tr fr).trans tt)) ⟨_,af,DenL.append (DenL.tr tt _ _ dl) ⟨v,[],rfl,Den.tr tt _ _ I,rfl⟩⟩
def cLp(tg:TgF)(tt:Dn->M Bool)(b:Dn->M (List Pu.D)):List Pu.D->Dn->M (List Pu.D)
 |[],_=>M.ret []
 |d::ds,δ=>match tg d δ with
  |none=>M.fail
  |some δ1=>M.bind (tt δ1) λc=>M.bind (if c=Pt then b δ1 else M.ret []) λo=>M.bind (cLp tg tt b ds δ) λos=>M.ret (o++os)
theorem ql{R:AR}{D:PD}{tg:TgF}(hg:cM K g tg)(sg:dT tg)(hb:eE K R D tb b){F:Fx}{as os ds:List Pu.D}(fr:Fr F H β)(hA:F.A D)(hn:∀b l,F.bg=My (b,l)->D≠b/\D≠l)(vk:VOk K F H δ σ)(hR:R.R F H D as)
  (it:ItD K J F H ds) (e:cLp tg tt b ds δ β=My (.ok os,β')) (hz:R.Z (as++os)) (k:∀a j,ToD F D H j β'->VOk K F j δ a->R.R F j D (as++os)->Q a j):cY J g (tVT K tt E0) tb σ H Q:=by
 refine⟨λi m a j=>m+i=ds.length/\∃β1 f p,ToD F D H j β1/\VOk K F j δ a/\R.R F j D f/\cLp tg tt b (ds.drop i) δ β1=My (.ok p,β')/\f++p=as++os,
  ⟨ds.length,by omega,β,as,os,⟨λ_ _ h _ _=>h,fr⟩,vk,hR,e,rfl⟩,?_⟩
 rintro i m a j ⟨hm,β1,f,p,u,v,w,n,W⟩;have Y:=u.tr fr hA;obtain⟨iy,is⟩:=it F j β1 Y u.fr i;cases L:ds[i]? with
 |none=>
  have N:ds.length<=i:=UY.mp L;rw[Rz N]at n;cases n;refine .inl ⟨is (by omega),k a j u v ?_⟩;rw[←W,Qx];exact w
 |some d=>
  have N:i<ds.length:=(PU.mp L).1;obtain⟨go,yl⟩:=iy d L;have ed:ds.drop i=d::ds.drop (i+1):=by
   rw[QX N];congr 1;exact Qo ((Pw N).symm.trans L)
  rw[ed]at n;unfold cLp at n;cases q:tg d δ with
  |none=>rw[q]at n;cases n
  |some δ1=>
   rw[q]at n;obtain⟨c,β2,e2,e3⟩:=M.bind_inv n;obtain⟨o,β3,O,e5⟩:=M.bind_inv e3;obtain⟨os2,β4,e6,e7⟩:=M.bind_inv e5;cases e7;obtain⟨s1,s2⟩:=sg _ _ _ q;refine .inr ⟨go,λy P=>ToD F D H P β3/\VOk K F P δ y/\R.R F P D (f++o),?_,λx H2 hy=>?_⟩
   ·rintro y P ⟨t9,vk9,hR9⟩
    exact⟨m-1,by omega,by omega,β3,f++o,os2,t9,vk9,hR9,e6,by rw[Ra];exact W⟩
   ·obtain⟨sm,dx⟩:=yl x H2 hy
    have T:To F j H2 β1:=u.fr.same sm;have B:=T.tr u.fr;refine hg F H2 δ δ1 a d x _ (v.tr B) dx q λσ2 r=>⟨F,δ1,β1,T.fr,r,E0.run e2 λc' H3 U ec=>?_⟩;subst ec;have t:=U.tr T.fr;have C:=R.tr w (λo z=>U.kp D o (sm _ _ z) hn) (B.trans t);have I:ToD F D H H3 β2:=u.trans ((T.trans U).toD D);have hle:R.Z (f++o):=by
     rw[←W,←Ra]at hz;exact R.zp hz
    cases c' with
    |true=>
     rw[PP rfl]at O⊢;refine hb F H3 δ1 β2 β3 σ2 f o _ U.fr hA hn (r.tr t) C O hle λσ4 H4 t4 vk4 hR4=>?_;exact⟨I.trans t4,vk4.sub s1 s2,hR4⟩
    |false=>
     rw[PL PQ]at O⊢;cases O;exact⟨I,(r.tr t).sub s1 s2,by rw[Qx];exact C⟩
def cNx(it:Dn->M (List Pu.D))(tg:TgF)(tt:Dn->M Bool)(b:Dn->M (List Pu.D)):Dn->M (List Pu.D):=λδ=>M.bind (it δ) λds=>cLp tg tt b ds δ
theorem nM{D:PD}{tg:TgF}(f:cM K g tg)(h:dT tg)(i:eE K R D tb b):eE K R D (yc (iV K it E0) λJ=>cY J g (tVT K tt E0) tb) (cNx it tg tt b):=λF H δ β j v as os Q fr l hn c m e n k=>by
 obtain⟨ds,β1,p,q⟩:=M.bind_inv e;refine⟨F,δ,β,fr,c,E0.run p λJ d t r=>?_⟩;exact ql f h i t.fr l hn (c.tr (t.tr fr)) (R.tr m (λo z=>t.kp D o z hn) (t.tr fr)) r q n λa d u=>k a d ((t.toD D).trans u)
theorem KI{D:PD}{tg:TgF}(a:cM K g tg)(c:dT tg)(d:mV K D tb b):mV K D (yc (iV K it E0) λJ=>cY J g (tVT K tt E0) tb) (cNx it tg tt b):=nM a c d
noncomputable def cSt(nv:Nat)(caps:List Nat)(δ:Dn):Dn:=P5 nv Po++caps.map λj=>δ.getD j Po
def da(nv:Nat)(caps:List Nat)(it:Dn->M (List Pu.D))(tg:TgF)(tt:Dn->M Bool)(b:Dn->M (List Pu.D)):Dn->M Pu.D:=λδ β=>match it δ β with
 |none=>Po
 |some (.error C,β1)=>My (.error C,β1)
 |some (.ok ds,β1)=>match cLp tg tt b ds (cSt nv caps δ) β1 with
  |some (.ok os,β2)=>if os.length<=P0 then My (.ok (.lst os),β2)else Po
  |_=>Po
theorem u6{vars:List Qz}(b:VOk K F H δ σ):VOk K F H (cSt vars.length caps δ) (j8 vars caps σ):=by
 refine⟨by simp[cSt,j8],λi d e=>?_⟩;unfold cSt at e;unfold j8;rw[VO]at e⊢;rw[RE]at e⊢;by_cases a:i<vars.length
 ·rw[PP a,RO,PP a]at e
  cases e
 ·rw[PL a,Py]at e⊢
  cases q:caps[i-vars.length]? with
  |none=>rw[q]at e;cases e
  |some j=>
   rw[q]at e;simp only[RG,XA]at e⊢;rw[Px]at e;cases z:δ[j]? with
   |none=>rw[z]at e;cases e
   |some w=>
    rw[z]at e;have c:w=My d:=e;subst c;obtain⟨v,f,g⟩:=b.tell j d z;exact⟨v,by rw[Px,f];rfl,g⟩
theorem tz{vars:List Qz}{caps:List Nat}{it:Dn->M (List Pu.D)}{g:TG}{tg:TgF}{tt:Dn->M Bool}{I:PD->TB}{b:Dn->M (List Pu.D)}(T:cM K g tg)(U:dT tg)(W:∀D,mV K D (I D) b){L:St}{H:Hp}{Q:VK}(h:tV K (da vars.length caps it tg tt b) E L H Q):
  sv vars caps (iV K it E) (λD J=>cY J g (tVT K tt E0) (I D)) L H Q:=by
 obtain⟨F,δ,β,fr,N,r,k,e,h⟩:=h;unfold da at e;refine⟨F,δ,β,fr,N,?_⟩;split at e
 ·cases e
 ·rename_i C β1 q
  cases e;exact⟨.error C,_,q,h⟩
 ·rename_i ds β1 q
  split at e
  ·rename_i os β2 q2
   split at e
   ·rename_i Y
    cases e;refine⟨.ok ds,β1,q,λJ j t Z D d=>?_⟩;have c:¬F.A D:=t.fr.fresh d;have nb:∀b l,F.bg=My (b,l)->D≠b/\D≠l:=λb l z=>⟨λw=>c (w▸(fr.bgA b l z).1),λw=>c (w▸(fr.bgA b l z).2.1)⟩;have O:=t.fr.upd (.lst []) d;have m:Fr ⟨λa=>F.A a\/a=D,F.bg⟩ (upd j D (.lst [])) β1:=by
     refine⟨λa ha z=>?_,λb l z=>let ⟨x,y,w⟩:=fr.bgA b l z;⟨.inl x,.inl y,w⟩,O.fr.bag⟩
     rcases ha with ha|ha
     ·exact O.fr.occ a ha z
     ·subst ha;rw[af]at z;cases z
    have f:Tr F j ⟨λa=>F.A a\/a=D,F.bg⟩ (upd j D (.lst [])):=⟨λa ha hs z=>by
     rcases z with z|z
     ·exact ha z
     ·subst z;exact hs d,λa o ha z=>by rw[upd_ne (ne_of_none z d)];exact z,rfl⟩
    refine ql (R:=RL K) (D:=D) (as:=[]) (os:=os) T U (W D) m (.inr rfl) nb (u6 (N.tr ((t.tr fr).trans f))) ⟨[],af,rfl⟩ (Z.tr f) q2 (show os.length<=P0 from Y) λσ1 P p vk3 u=>?_;obtain⟨i,v,B⟩:=u;have tf:To F j P k:=by
     refine⟨λa o z n=>p.kp a o (by rw[upd_ne (ne_of_none z d)];exact z) (ne_of_none z d) n,λa ha z=>p.fr.occ a (RI ha) z,fr.bgA,p.fr.bag⟩
    refine h _ P (t.trans tf) ⟨D,i,rfl,⟨c,.inl v⟩,DenL.tr (F:=⟨λa=>F.A a\/a=D,F.bg⟩) ⟨λa ha _ z=>ha (RI z),λa o _ z=>z,rfl⟩ _ _ B⟩
   ·cases e
  ·cases e
end
inductive Sl where
 |sh (d:D)|own (ds:List D)|grd (rows:List (List D))
abbrev Ds:=List (Option Sl)
inductive Out where
 |nx (δ:Ds)|rt (d:D)|bk (δ:Ds)|ct (δ:Ds)|ex (C:PD) (δ:Ds)|rg (rows:List (List D))
abbrev G:=Ds->Bg->Option (Out×Bg)
abbrev Ow:=PD->Option Nat
noncomputable def FxB(B:Ow)(bg:Option (PD×PD)):Fx:=⟨λa=>B a≠Po,bg⟩
noncomputable def FxA(B:Ow)(bg:Option (PD×PD)):Fx:=⟨λa=>B a=My 0\/B a=My 1,bg⟩
def RowL(K:P6)(F:Fx)(H:Hp)(P:PD->Prop):List (List D)->List PD->Prop
 |[],[]=>True
 |ds::rows,r::rs=>P r/\(∃xs,H r=My (.lst xs)/\DenL K F H ds xs)/\RowL K F H P rows rs
 |_,_=>False
theorem RowL.tr{K:P6}(t:Tr F H F2 H2):∀{rows:List (List D)} {rs:List PD},RowL K F H P rows rs->(∀r xs,r∈rs->P r->H r=My (.lst xs)->P2 r/\H2 r=My (.lst xs))->RowL K F2 H2 P2 rows rs
 |[],[],_,_=>trivial
 |ds::rows,r::rs,h,f=>by
  obtain⟨b,⟨xs,c,d⟩,e⟩:=h;obtain⟨p,q⟩:=f r xs PF b c;exact⟨p,⟨xs,q,DenL.tr t _ _ d⟩,RowL.tr t e λg a i=>f g a (Ps _ i)⟩
 |[],_::_,h,_=>h.elim
 |_::_,[],h,_=>h.elim
theorem RowL.all{K:P6}:∀{rows:List (List D)} {rs:List PD},RowL K F H P rows rs->∀r∈rs,P r/\∃xs,H r=My (.lst xs)
 |[],[],_,r,hr=>by cases hr
 |ds::rows,r0::rs,h,r,hr=>by
  obtain⟨a,⟨xs,b,d⟩,c⟩:=h;rcases PZ.mp hr with rfl|hr
  ·exact⟨a,xs,b⟩
  ·exact RowL.all c r hr
 |[],_::_,h,_,_=>h.elim
 |_::_,[],h,_,_=>h.elim
theorem RowL.den{K:P6}{F a:Fx}(t:Tr F H a H):∀{rows:List (List D)} {rs:List PD},RowL K F H P rows rs->(∀r,r∈rs->P r->¬a.A r)->DenL K a H (rows.map D.lst) (rs.map V.ref)
 |[],[],_,_=>rfl
 |ds::rows,r::rs,h,f=>by
  obtain⟨b,⟨xs,c,d⟩,e⟩:=h;exact DenL.cons ⟨r,xs,rfl,⟨f r PF b,.inl c⟩,DenL.tr t _ _ d⟩ (RowL.den t e λg i=>f g (Ps _ i))
 |[],_::_,h,_=>h.elim
 |_::_,[],h,_=>h.elim
theorem RowL.len{K:P6}:∀{rows:List (List D)} {rs:List PD},RowL K F H P rows rs->rows.length=rs.length
 |[],[],_=>rfl
 |ds::rows,r::rs,h=>by simp[RowL.len h.2.2]
 |[],_::_,h=>h.elim
 |_::_,[],h=>h.elim
def gX(K:P6)(F:Fx)(H0 H:Hp)(rows:List (List D))(v:V):Prop:=∃a rs,v= .ref a/\H0 a=Po/\H a=My (.lst (rs.map V.ref))/\(a::rs).Nodup/\RowL K F H (λr=>H0 r=Po) rows rs
def DenS(K:P6)(B:Ow)(bg:Option (PD×PD))(H:Hp)(i:Nat):Sl->V->Prop
 | .sh d,v=>Den K (FxB B bg) H d v
 | .own ds,v=>∃a xs,v= .ref a/\B a=My (i+2)/\H a=My (.lst xs)/\DenL K (FxB B bg) H ds xs
 | .grd rows,v=>∃a rs,v= .ref a/\B a=My (i+2)/\H a=My (.lst (rs.map V.ref))/\(a::rs).Nodup/\RowL K (FxB B bg) H (λr=>B r=My (i+2)) rows rs
structure SOk (K:P6) (H₀:Hp) (B:Ow) (bg:Option (PD×PD)) (H:Hp) (δ:Ds) (β:Bg) (σ:St):Prop where
 fr:Fr (FxB B bg) H β
 bgt:∀b l,bg=My (b,l)->B b=My 1/\B l=My 1
 len:δ.length=σ.length
 cov:∀a,H₀ a≠Po->H a≠Po
 new:∀a k,B a=My (k+2)->H₀ a=Po
 lst:∀a k,B a=My (k+2)->∃xs,H a=My (.lst xs)
 tell:∀(i:Nat) (s:Sl),δ[i]?=My (My s)->∃v,σ[i]?=My (My v)/\DenS K B bg H i s v
structure Stp (B:Ow) (H:Hp) (B':Ow) (H':Hp):Prop where
 kp:∀a o,H a=My o->(B a=Po\/B a=My 0)->H' a=My o
 tg:∀a,B a=My 0\/B a=My 1->B' a=B a
 nn:∀a o,H a=My o->B a=Po->B' a=Po
 al:∀a,H a≠Po->H' a≠Po
theorem Stp.refl(B:Ow)(H:Hp):Stp B H B H:=⟨λ_ _ h _=>h,λ_ _=>rfl,λ_ _ _ h=>h,λ_ h=>h⟩
theorem Stp.trans(a:Stp B H B1 H1)(b:Stp B1 H1 B2 H2):Stp B H B2 H2:=by
 refine⟨λx o h n=>b.kp x o (a.kp x o h n) ?_,λx h=>?_,λx o h n=>b.nn x o (a.kp x o h (.inl n)) (a.nn x o h n),λx h=>b.al x (a.al x h)⟩
 ·rcases n with n|n
  ·exact .inl (a.nn x o h n)
  ·exact .inr ((a.tg x (.inl n)).trans n)
 ·have e:=a.tg x h
  rw[←e]at h;exact(b.tg x h).trans e
def gE(K:P6)(H₀:Hp)(bg:Option (PD×PD))(E:St->XK)(Dn:Ends)(B:Ow)(H:Hp)(o:Out)(e:Bg):Prop:=match o with
 | .nx δ'=>∀b c a,Stp B H c a->SOk K H₀ c bg a δ' e b->Dn.nx b a
 | .bk δ'=>∀b c a,Stp B H c a->SOk K H₀ c bg a δ' e b->Dn.bk b a
 | .ct δ'=>∀b c a,Stp B H c a->SOk K H₀ c bg a δ' e b->Dn.ct b a
 | .rt d=>∀v c a,Stp B H c a->Fr (FxB c bg) a e->Den K (FxB c bg) a d v->Dn.rt v a
 | .rg rows=>∀v c a,Stp B H c a->Fr (FxB c bg) a e->gX K (FxB c bg) H₀ a rows v->Dn.rt v a
 | .ex C δ'=>∀b c a,Stp B H c a->SOk K H₀ c bg a δ' e b->E b (.ref C) Po a
theorem gE.pre{K:P6}{E:St->XK}{Dn:Ends}(s:Stp B H B1 H1)(h:gE K H₀ bg E Dn B H o β'):gE K H₀ bg E Dn B1 H1 o β':=by
 cases o with
 |nx δ=>exact λa b c t=>h a b c (s.trans t)
 |bk δ=>exact λa b c t=>h a b c (s.trans t)
 |ct δ=>exact λa b c t=>h a b c (s.trans t)
 |rt d=>exact λv b c t=>h v b c (s.trans t)
 |rg d=>exact λv b c t=>h v b c (s.trans t)
 |ex C δ=>exact λa b c t=>h a b c (s.trans t)
def tG(K:P6)(H₀:Hp)(g:G)(E:St->XK):TS:=λDn b H=>∃B bg δ β o a,SOk K H₀ B bg H δ β b/\g δ β=My (o,a)/\gE K H₀ bg E Dn B H o a
theorem _root_.L2.PS.imp(h:PS X e t)(f:∀D a H,t' D a H->t D a H):PS X e t':=λb s a H D I q=>h b s a H D I (f D a H q)
theorem _root_.L2.PSs.imp(h:PSs X e t)(f:∀D a H,t' D a H->t D a H):PSs X e t':=λb s a H D I q=>h b s a H D I (f D a H q)
noncomputable def vw(δ:Ds):Dn:=δ.map λs=>match s with
 |some (.sh d)=>My d
 |_=>Po
noncomputable def vwA(δ:Ds):Dn:=δ.map λs=>match s with
 |some (.sh d)=>My d
 |some (.own ds)=>My (.lst ds)
 |some (.grd rows)=>My (.lst (rows.map D.lst))
 |none=>Po
section
variable{K:P6}{H₀:Hp}{B:Ow}{bg:Option (PD×PD)}{H H':Hp}{δ:Ds}{β β':Bg}{σ:St}
theorem Oi{i:Nat}{d:D}(e:(vw δ)[i]?=My (My d)):δ[i]?=My (My (.sh d)):=by
 unfold vw at e;rw[Py]at e;cases q:δ[i]? with
 |none=>rw[q]at e;cases e
 |some z=>
  rw[q]at e;cases z with
  |none=>cases e
  |some s=>
   cases s with
   |sh c=>cases e;rfl
   |own ds=>cases e
   |grd rows=>cases e
theorem SOk.view(h:SOk K H₀ B bg H δ β σ):VOk K (FxB B bg) H (vw δ) σ:=⟨by unfold vw;rw[Pp,h.len],λi d e=>h.tell i _ (Oi e)⟩
theorem trA:Tr (FxB B bg) H (FxA B bg) H:=⟨λa h _ z=>by
 have h':¬(B a≠Po):=h;rcases z with z|z
 ·exact h' (by rw[z];simp)
 ·exact h' (by rw[z];simp),λ_ _ _ h=>h,rfl⟩
theorem SOk.frA(h:SOk K H₀ B bg H δ β σ):Fr (FxA B bg) H β:=⟨λa ha=>h.fr.occ a (by
 show B a≠Po;rcases ha with z|z<;>rw[z]<;>simp),λb l e=>⟨.inr (h.bgt b l e).1,.inr (h.bgt b l e).2,(h.fr.bgA b l e).2.2⟩,h.fr.bag⟩
theorem SOk.viewA(h:SOk K H₀ B bg H δ β σ):VOk K (FxA B bg) H (vwA δ) σ:=by
 refine⟨by unfold vwA;rw[Pp,h.len],λi d e=>?_⟩;unfold vwA at e;rw[Py]at e;cases q:δ[i]? with
 |none=>rw[q]at e;cases e
 |some z=>
  rw[q]at e;cases z with
  |none=>cases e
  |some s=>
   obtain⟨v,b,f⟩:=h.tell i s q;cases s with
   |sh c=>cases e;exact⟨v,b,Den.tr trA _ _ f⟩
   |own ds=>
    cases e;obtain⟨a,xs,g,j,k,l⟩:=f;refine⟨v,b,a,xs,g,⟨λz=>?_,.inl k⟩,DenL.tr trA _ _ l⟩;have z':B a=My 0\/B a=My 1:=z;rw[j]at z';rcases z' with z'|z'<;>cases z'
   |grd rows=>
    cases e;obtain⟨a,rs,g,j,k,l,n⟩:=f;have m:∀c,B c=My (i+2)->¬(FxA B bg).A c:=λc o z=>by
     have z':B c=My 0\/B c=My 1:=z;rw[o]at z';rcases z' with z'|z'<;>cases z'
    exact⟨v,b,a,_,g,⟨m a j,.inl k⟩,RowL.den trA n λr _ p=>m r p⟩
theorem SOk.to{F:Fx}(h:SOk K H₀ B bg H δ β σ)(hF:F.bg=bg)(t:To F H H' β'):SOk K H₀ B bg H' δ β' σ/\Stp B H B H':=by
 have I:∀a,B a≠My 1->∀b l,F.bg=My (b,l)->a≠b/\a≠l:=λa ha b l e=>by
  rw[hF]at e;exact⟨λz=>ha (z▸(h.bgt b l e).1),λz=>ha (z▸(h.bgt b l e).2)⟩
 have kp:∀a o,H a=My o->B a≠My 1->H' a=My o:=λa o e n=>t.kp a o e (I a n);have fr:Fr (FxB B bg) H' β':=⟨λa ha z=>(by
  by_cases J:B a=My 1
  ·by_cases d:∃b l,bg=My (b,l)/\(a=b\/a=l)
   ·obtain⟨b,l,e,q⟩:=d
    obtain⟨g,j⟩:=t.fr.bag b l (hF.trans e);rcases q with rfl|rfl
    ·rw[g]at z;cases z
    ·rw[j]at z;cases z
   ·cases q:H a with
    |none=>exact h.fr.occ a ha q
    |some o=>
     rw[t.kp a o q λb l e=>⟨λw=>d ⟨b,l,hF.symm.trans e,.inl w⟩,λw=>d ⟨b,l,hF.symm.trans e,.inr w⟩⟩]at z;cases z
  ·cases q:H a with
   |none=>exact h.fr.occ a ha q
   |some o=>rw[kp a o q J]at z;cases z),h.fr.bgA,λb l e=>t.fr.bag b l (hF.trans e)⟩
 have tr:Tr (FxB B bg) H (FxB B bg) H':=⟨λ_ n _=>n,λa o n e=>kp a o e (λz=>n (by show B a≠Po;rw[z];simp)),rfl⟩;have al:∀a,H a≠Po->H' a≠Po:=λa ha z=>by
  by_cases d:∃b l,bg=My (b,l)/\(a=b\/a=l)
  ·obtain⟨b,l,e,q⟩:=d
   obtain⟨g,j⟩:=t.fr.bag b l (hF.trans e);rcases q with rfl|rfl
   ·rw[g]at z;cases z
   ·rw[j]at z;cases z
  ·cases q:H a with
   |none=>exact ha q
   |some o=>
    rw[t.kp a o q λb l e=>⟨λw=>d ⟨b,l,hF.symm.trans e,.inl w⟩,λw=>d ⟨b,l,hF.symm.trans e,.inr w⟩⟩]at z;cases z
 refine⟨⟨fr,h.bgt,h.len,λa ha=>al a (h.cov a ha),h.new,λc k C=>(let ⟨xs,z⟩:=h.lst c k C;⟨xs,kp c _ z (by rw[C];intro z;cases z)⟩),λi s e=>?_⟩,λa o e n=>kp a o e (by rcases n with n|n<;>rw[n]<;>simp),λ_ _=>rfl,λ_ _ _ n=>n,al⟩
 obtain⟨v,L,m⟩:=h.tell i s e;refine⟨v,L,?_⟩;cases s with
 |sh c=>exact Den.tr tr _ _ m
 |own ds=>
  obtain⟨a,xs,u,f,y,A⟩:=m;exact⟨a,xs,u,f,kp a _ y (by rw[f];intro z;cases z),DenL.tr tr _ _ A⟩
 |grd rows=>
  obtain⟨a,rs,u,f,y,A,N⟩:=m;exact⟨a,rs,u,f,kp a _ y (by rw[f];intro z;cases z),A,RowL.tr tr N λr xs _ p q=>⟨p,kp r _ q (by rw[p];intro z;cases z)⟩⟩
theorem SOk.set(h:SOk K H₀ B bg H δ β σ)(hd:Den K (FxB B bg) H d v):SOk K H₀ B bg H (δ.set i (My (.sh d))) β (σ.set i (My v)):=by
 refine⟨h.fr,h.bgt,by rw[QB,QB,h.len],h.cov,h.new,h.lst,λj c e=>?_⟩;rw[Q2]at e;rw[Q2];by_cases q:i=j
 ·subst q
  rw[PP rfl]at e⊢;split at e
  ·rename_i a
   cases e;rw[PP (by rw[←h.len];exact a)];exact⟨v,rfl,hd⟩
  ·cases e
 ·rw[PL q]at e⊢
  exact h.tell j c e
end
noncomputable def gNil:G:=λδ β=>My (.nx δ,β)
noncomputable def aI(g h:G):G:=λδ β=>match g δ β with
 |some (.nx δ1,β1)=>h δ1 β1
 |r=>r
def gb(i:Nat)(f:FD):G:=λδ β=>match f (vw δ) β with
 |some (.ok d,β1)=>My (.nx (δ.set i (My (.sh d))),β1)
 |some (.error C,β1)=>My (.ex C δ,β1)
 |none=>Po
noncomputable def pC(f:FD):G:=λδ β=>match f (vwA δ) β with
 |some (.ok _,β1)=>My (.nx δ,β1)
 |some (.error C,β1)=>My (.ex C δ,β1)
 |none=>Po
noncomputable def xM(f:FD):G:=λδ β=>match f (vwA δ) β with
 |some (.ok d,β1)=>My (.rt d,β1)
 |some (.error C,β1)=>My (.ex C δ,β1)
 |none=>Po
noncomputable def gIf(t:Dn->M Bool)(g h:G):G:=λδ β=>match t (vwA δ) β with
 |some (.ok Pt,β1)=>g δ β1
 |some (.ok Pz,β1)=>h δ β1
 |some (.error C,β1)=>My (.ex C δ,β1)
 |none=>Po
section
variable{X:Cx}{E:St->XK}{e:Expr}{st:Q6}{sts:List Q6}{pos:Uh}
theorem bZ:PSs X [] (tG X.K X.H₀ gNil E):=qd.imp λD a H b=>by
 obtain⟨B,bg,δ,β,o,c,ok,e,h⟩:=b;cases e;exact h a B H (Stp.refl B H) ok
theorem ad(c:PS X st (tG X.K X.H₀ g E))(d:PSs X sts (tG X.K X.H₀ h E)):PSs X (st::sts) (tG X.K X.H₀ (aI g h) E):=(cf c d).imp λD m H f=>by
 obtain⟨B,bg,δ,β,o,a,ok,e,q⟩:=f;unfold aI at e;split at e
 ·rename_i δ1 β1 i
  refine⟨B,bg,δ,β,.nx δ1,β1,ok,i,λj k n s b=>⟨k,bg,δ1,β1,o,a,b,e,gE.pre s ?_⟩⟩;exact q
 ·rename_i r l
  refine⟨B,bg,δ,β,o,a,ok,e,?_⟩;cases o with
  |nx δ1=>exact Ql e (l δ1 a)
  |_=>exact q
theorem aj(a:PS X st (tG X.K X.H₀ g E)):PSs X [st] (tG X.K X.H₀ g E):=eK a
theorem aD(h:PS X (.Assign [.Name x pos'] e pos) (jC (tV X.K f E) (eQ i))):PS X (.Assign [.Name x pos'] e pos) (tG X.K X.H₀ (gb i f) E):=h.imp λD l H j=>by
 obtain⟨B,bg,δ,β,o,k,ok,e,q⟩:=j;refine⟨FxB B bg,vw δ,β,ok.fr,ok.view,?_⟩;unfold gb at e;split at e
 ·rename_i d β1 b
  cases e;refine⟨.ok d,_,b,λv c t hd=>?_⟩;obtain⟨a,g⟩:=ok.to rfl t;exact q _ B c g (a.set hd)
 ·rename_i C β1 b
  cases e;refine⟨.error C,_,b,λc t=>?_⟩;obtain⟨a,g⟩:=ok.to rfl t;exact q _ B c g a
 ·cases e
theorem lh(h:PS X (.Expr e pos) (su (tV X.K f E))):PS X (.Expr e pos) (tG X.K X.H₀ (pC f) E):=h.imp λD k H i=>by
 obtain⟨B,bg,δ,β,o,j,ok,e,q⟩:=i;refine⟨FxA B bg,vwA δ,β,ok.frA,ok.viewA,?_⟩;unfold pC at e;split at e
 ·rename_i d β1 b
  cases e;refine⟨.ok d,_,b,λv c t hd=>?_⟩;obtain⟨a,g⟩:=ok.to rfl t;exact q _ B c g a
 ·rename_i C β1 b
  cases e;refine⟨.error C,_,b,λc t=>?_⟩;obtain⟨a,g⟩:=ok.to rfl t;exact q _ B c g a
 ·cases e
noncomputable def gu(B:Ow):Ow:=λa=>if B a=My 0\/B a=My 1 then B a else Po
theorem Mt:Tr (FxA B bg) H (FxB (gu B) bg) H:=⟨λa h _ z=>by
 have b:gu B a≠Po:=z;unfold gu at b;split at b
 ·rename_i q;exact h q
 ·exact b rfl,λ_ _ _ h=>h,rfl⟩
theorem DM:Stp B H (gu B) H:=⟨λ_ _ h _=>h,λa h=>by unfold gu;rw[PP h],λa o h n=>by unfold gu;rw[n];simp,λ_ h=>h⟩
theorem aO(h:PS X (.Return (My e) pos) (wT (tV X.K f E))):PS X (.Return (My e) pos) (tG X.K X.H₀ (xM f) E):=h.imp λD p H m=>by
 obtain⟨B,bg,δ,β,o,n,ok,e,q⟩:=m;refine⟨FxA B bg,vwA δ,β,ok.frA,ok.viewA,?_⟩;unfold xM at e;split at e
 ·rename_i d β1 i
  cases e;refine⟨.ok d,_,i,λv j t hd=>?_⟩;obtain⟨c,k⟩:=ok.to rfl t;refine q _ (gu B) j (k.trans DM) ⟨λa ha=>c.fr.occ a ?_,λb l e=>?_,c.fr.bag⟩ (Den.tr Mt _ _ hd)
  ·have g:gu B a≠Po:=ha
   show B a≠Po;unfold gu at g;split at g
   ·exact g
   ·exact Ql rfl g
  ·refine⟨?_,?_,(c.fr.bgA b l e).2.2⟩
   ·show gu B b≠Po
    unfold gu;rw[PP (.inr (ok.bgt b l e).1),(ok.bgt b l e).1];simp
   ·show gu B l≠Po
    unfold gu;rw[PP (.inr (ok.bgt b l e).2),(ok.bgt b l e).2];simp
 ·rename_i C β1 i
  cases e;refine⟨.error C,_,i,λj t=>?_⟩;obtain⟨c,k⟩:=ok.to rfl t;exact q _ B j k c
 ·cases e
theorem di(l:PT X c (tVT X.K t E))(ha:PSs X a (tG X.K X.H₀ g E))(m:PSs X b (tG X.K X.H₀ h E)):PS X (.If c a b pos) (tG X.K X.H₀ (gIf t g h) E):=(ID l ha m).imp λD p H n=>by
 obtain⟨B,bg,δ,β,o,f,ok,e,q⟩:=n;refine⟨FxA B bg,vwA δ,β,ok.frA,ok.viewA,?_⟩;unfold gIf at e;split at e
 ·rename_i β1 i
  refine⟨.ok Pt,_,i,λv k t hd=>?_⟩;subst hd;obtain⟨d,j⟩:=ok.to rfl t;rw[PP rfl];exact⟨B,bg,δ,β1,o,f,d,e,gE.pre j q⟩
 ·rename_i β1 i
  refine⟨.ok Pz,_,i,λv k t hd=>?_⟩;subst hd;obtain⟨d,j⟩:=ok.to rfl t;rw[PL PQ];exact⟨B,bg,δ,β1,o,f,d,e,gE.pre j q⟩
 ·rename_i C β1 i
  cases e;refine⟨.error C,_,i,λk t=>?_⟩;obtain⟨d,j⟩:=ok.to rfl t;exact q _ B k j d
 ·cases e
abbrev TgS:=D->Ds->Option Ds
abbrev l7:=List D->Ds->Option Ds
def pS(K:P6)(g:TG)(tg:TgS):Prop:=∀(H₀:Hp) (B:Ow) (bg:Option (PD×PD)) (H:Hp) (δ δ1:Ds) (β:Bg) (b:St) (d:D) (v:V) (Q:St->Hp->Prop),SOk K H₀ B bg H δ β b->Den K (FxB B bg) H d v->tg d δ=My δ1->(∀a,SOk K H₀ B bg H δ1 β a->Q a H)->g v b H Q
def pR(K:P6)(g:TGs)(tg:l7):Prop:=∀(H₀:Hp) (B:Ow) (bg:Option (PD×PD)) (H:Hp) (δ δ1:Ds) (β:Bg) (b:St) (ds:List D) (vs:List V) (Q:St->Hp->Prop),SOk K H₀ B bg H δ β b->DenL K (FxB B bg) H ds vs->tg ds δ=My δ1->(∀a,SOk K H₀ B bg H δ1 β a->Q a H)->g vs b H Q
noncomputable def sgN(i:Nat):TgS:=λd δ=>My (δ.set i (My (.sh d)))
noncomputable def LB:l7:=λds δ=>match ds with
 |[]=>My δ
 |_=>Po
noncomputable def LA(t:TgS)(u:l7):l7:=λds δ=>match ds with
 |[]=>Po
 |d::r=>(t d δ).bind λδ1=>u r δ1
noncomputable def sgT(t:l7):TgS:=λd δ=>match d with
 | .tup ds=>t ds δ
 |_=>Po
variable{K:P6}
theorem aF:pS K (eQ i) (sgN i):=λH₀ B bg H δ δ1 β a d v Q ok hd e k=>by
 cases e;exact k _ (ok.set hd)
theorem eL:pR K L2.gNil LB:=λH₀ B bg H δ δ1 β a ds vs Q ok hd e k=>by
 cases ds with
 |nil=>cases e;exact⟨hd,k _ ok⟩
 |cons _ _=>cases e
theorem bo(h:pS K t tf)(i:pR K u uf):pR K (xO t u) (LA tf uf):=λH₀ B bg H δ δ1 β j ds vs Q ok hd e k=>by
 cases ds with
 |nil=>cases e
 |cons d r=>
  obtain⟨x,g,rfl,l,m⟩:=hd;have b:(tf d δ).bind (λδ1=>uf r δ1)=My δ1:=e;cases q:tf d δ with
  |none=>rw[q]at b;cases b
  |some a=>
   rw[q]at b;exact⟨x,g,rfl,h H₀ B bg H δ a β j d x _ ok l q λc f=>i H₀ B bg H a δ1 β c r g Q f m b k⟩
theorem dz:∀ds δ δ1,LB ds δ=My δ1->ds.length=0:=λds δ δ1 h=>by
 cases ds with
 |nil=>rfl
 |cons _ _=>cases h
theorem bn(h:∀ds δ δ1,u ds δ=My δ1->ds.length=n):∀ds δ δ1,LA t u ds δ=My δ1->ds.length=n+1:=λds δ δ1 e=>by
 cases ds with
 |nil=>cases e
 |cons d r=>
  have a:(t d δ).bind (λδ1=>u r δ1)=My δ1:=e;cases q:t d δ with
  |none=>rw[q]at a;cases a
  |some b=>rw[q]at a;rw[Qd,h _ _ _ a]
theorem f7(h:pR K t tf)(hn:∀ds δ δ1,tf ds δ=My δ1->ds.length=n):pS K (EB K n t) (sgT tf):=λH₀ B bg H δ δ1 β b d v Q ok hd e k=>by
 cases d<;>first
  |(obtain⟨a,xs,rfl,sq,dl⟩:=Den.sqT hd;exact⟨a,xs,rfl,sq,by rw[←dl.length];exact hn _ _ _ e,h H₀ B bg H δ δ1 β b _ xs Q ok dl e k⟩)
  |cases e
def xQ(f:FD)(tg:TgS):G:=λδ β=>match f (vw δ) β with
 |some (.ok d,β1)=>(tg d δ).map λδ1=>(.nx δ1,β1)
 |some (.error C,β1)=>My (.ex C δ,β1)
 |none=>Po
theorem oO(l:pS X.K g tg)(h:PS X (.Assign [tgt] e pos) (jC (tV X.K f E) g)):PS X (.Assign [tgt] e pos) (tG X.K X.H₀ (xQ f tg) E):=h.imp λD m H n=>by
 obtain⟨B,bg,δ,β,o,p,ok,e,q⟩:=n;refine⟨FxB B bg,vw δ,β,ok.fr,ok.view,?_⟩;unfold xQ at e;split at e
 ·rename_i d β1 c
  cases q1:tg d δ with
  |none=>rw[q1]at e;cases e
  |some δ1=>
   rw[q1]at e;cases e;refine⟨.ok d,_,c,λv b t hd=>?_⟩;obtain⟨a,i⟩:=ok.to rfl t;exact l X.H₀ B bg b δ δ1 _ m d v _ a hd q1 λj k=>q j B b i k
 ·rename_i C β1 c
  cases e;refine⟨.error C,_,c,λb t=>?_⟩;obtain⟨a,i⟩:=ok.to rfl t;exact q _ B b i a
 ·cases e
def xP(i:Nat)(op:D->D->Option D)(f:FD):G:=λδ β=>match(vw δ).getD i Po with
 |none=>Po
 |some c=>match f (vw δ) β with
  |some (.ok d,β1)=>(op c d).map λz=>(.nx (δ.set i (My (.sh z))),β1)
  |some (.error C,β1)=>My (.ex C δ,β1)
  |none=>Po
theorem fW(l:aP X.K ti op)(h:PS X st (Lq i (tV X.K f E) ti)):PS X st (tG X.K X.H₀ (xP i op f) E):=h.imp λD N H r=>by
 obtain⟨B,bg,δ,β,o,g,ok,e,q⟩:=r;unfold xP at e;split at e
 ·cases e
 ·rename_i c b
  have j:(vw δ)[i]?=My (My c):=by
   rw[Px]at b;cases z:(vw δ)[i]? with
   |none=>rw[z]at b;cases b
   |some w=>rw[z]at b;simp at b;rw[b]
  obtain⟨v,y,A⟩:=ok.view.tell i c j;refine⟨v,y,FxB B bg,vw δ,β,ok.fr,ok.view,?_⟩;split at e
  ·rename_i d β1 k
   cases q1:op c d with
   |none=>rw[q1]at e;cases e
   |some z=>
    rw[q1]at e;cases e;refine⟨.ok d,_,k,λw m t hd=>?_⟩;obtain⟨a,n⟩:=ok.to rfl t;refine l (FxB B bg) m g _ c d z v w t.fr (Den.tr (t.tr ok.fr) _ _ A) hd q1 λu F I J=>?_;obtain⟨p,L⟩:=a.to rfl I;exact q _ B F (n.trans L) (p.set J)
  ·rename_i C β1 k
   cases e;refine⟨.error C,_,k,λm t=>?_⟩;obtain⟨a,n⟩:=ok.to rfl t;exact q _ B m n a
  ·cases e
end
theorem Stp.tr(s:Stp B H B' H'):Tr (FxB B bg) H (FxB B' bg) H':=
 ⟨λa h hs z=>by
  have hn:B a=Po:=by
   cases q:B a with
   |none=>rfl
   |some t=>exact Ql (show B a≠Po by rw[q];simp) h
  cases q:H a with
  |none=>exact hs q
  |some o=>exact z (s.nn a o q hn),λa o h e=>s.kp a o e (.inl (by
  cases q:B a with
  |none=>rfl
  |some t=>exact Ql (show B a≠Po by rw[q];simp) h)),rfl⟩
def bL(t:Dn->M Bool)(g:G):Nat->G
 |0,_,_=>Po
 |n+1,δ,β=>match t (vwA δ) β with
  |some (.ok Pt,β1)=>match g δ β1 with
   |some (.nx δ1,β2)=>bL t g n δ1 β2
   |some (.ct δ1,β2)=>bL t g n δ1 β2
   |some (.bk δ1,β2)=>My (.nx δ1,β2)
   |r=>r
  |some (.ok Pz,β1)=>My (.nx δ,β1)
  |some (.error C,β1)=>My (.ex C δ,β1)
  |none=>Po
theorem lV:∀{n:Nat} {δ:Ds} {β:Bg} {r:Out×Bg},bL t g n δ β=My r->bL t g (n+1) δ β=My r
 |0,_,_,_,h=>by cases h
 |n+1,δ,β,r,h=>by
  have e:∀m,bL t g (m+1) δ β=match t (vwA δ) β with
    |some (.ok Pt,β1)=>match g δ β1 with
     |some (.nx δ1,β2)=>bL t g m δ1 β2
     |some (.ct δ1,β2)=>bL t g m δ1 β2
     |some (.bk δ1,β2)=>My (.nx δ1,β2)
     |r=>r
    |some (.ok Pz,β1)=>My (.nx δ,β1)
    |some (.error C,β1)=>My (.ex C δ,β1)
    |none=>Po:=λm=>rfl
  rw[e]at h⊢;cases q:t (vwA δ) β with
  |none=>rw[q]at h;cases h
  |some z=>
   obtain⟨b,β1⟩:=z;rw[q]at h;cases b with
   |error C=>exact h
   |ok b=>
    cases b with
    |false=>exact h
    |true=>
     dsimp only at h⊢
     cases q2:g δ β1 with
     |none=>rw[q2]at h;cases h
     |some y=>
      obtain⟨o,β2⟩:=y;rw[q2]at h;cases o with
      |nx δ1=>exact lV h
      |ct δ1=>exact lV h
      |bk δ1=>exact h
      |rt d=>exact h
      |rg d=>exact h
      |ex C δ1=>exact h
theorem rm(h:bL t g n δ β=My r)(l:n<=m):bL t g m δ β=My r:=by
 induction m with
 |zero=>
  obtain rfl:n=0:=by omega
  exact h
 |succ m ih=>
  by_cases q:n=m+1
  ·subst q;exact h
  ·exact lV (ih (by omega))
open Classical in
def gWh(t:Dn->M Bool)(g:G):G:=λδ β=>if h:∃r n,bL t g n δ β=My r then My h.choose else Po
theorem ML(h:bL t g n δ β=My r):gWh t g δ β=My r:=by
 have a:∃r n,bL t g n δ β=My r:=⟨r,n,h⟩;unfold gWh;rw[dif_pos a];obtain⟨m,hm⟩:=a.choose_spec;have c:=rm h (Nat.le_max_left n m);have b:=rm hm (Nat.le_max_right n m);rw[c]at b;rw[←Qo b]
theorem KU(h:gWh t g δ β=My r):∃n,bL t g n δ β=My r:=by
 unfold gWh at h;split at h
 ·rename_i a
  obtain⟨m,hm⟩:=a.choose_spec;cases h;exact⟨m,hm⟩
 ·cases h
section
variable{X:Cx}{E:St->XK}{e:Expr}{st:Q6}{sts:List Q6}{pos:Uh}{K:P6}
theorem vL(T:YX (Qk X.prog X.w) X.A X.env X.xe)(U:PT X c (tVT X.K t E))(W:PSs X body (tG X.K X.H₀ g E)):PS X (.While c body [] pos) (tG X.K X.H₀ (gWh t g) E):=(CK T U W).imp λD σ H Y=>by
 obtain⟨B,bg,δ,β,o,l,ok,e,q⟩:=Y;obtain⟨n,e⟩:=KU e;refine⟨λm u P=>∃j δ1 β1,Stp B H j P/\SOk X.K X.H₀ j bg P δ1 β1 u/\bL t g m δ1 β1=My (o,l),⟨n,B,δ,β,Stp.refl B H,ok,e⟩,?_⟩;rintro m u P ⟨j,δ1,β1,r,h,f⟩;refine⟨FxA j bg,vwA δ1,β1,h.frA,h.viewA,?_⟩;cases m with
 |zero=>cases f
 |succ m=>
  unfold bL at f;split at f
  ·rename_i β2 y
   refine⟨.ok Pt,_,y,λv N tt hd=>?_⟩;subst hd;obtain⟨b,k⟩:=h.to rfl tt;rw[PP rfl];refine⟨λF Q=>∃O a β3,Stp B H O Q/\SOk X.K X.H₀ O bg Q a β3 F/\bL t g m a β3=My (o,l),λF Q ⟨O,a,β3,z⟩=>⟨m,Vr m,O,a,β3,z⟩,?_⟩;split at f
   ·rename_i a β3 I
    exact⟨j,bg,δ1,β2,.nx a,β3,b,I,λp J R L i=>⟨J,a,β3,r.trans (k.trans L),i,f⟩⟩
   ·rename_i a β3 I
    exact⟨j,bg,δ1,β2,.ct a,β3,b,I,λp J R L i=>⟨J,a,β3,r.trans (k.trans L),i,f⟩⟩
   ·rename_i a β3 I
    cases f;exact⟨j,bg,δ1,β2,.bk a,_,b,I,λp J R L i=>q p J R (r.trans (k.trans L)) i⟩
   ·rename_i x Z h2 h3
    refine⟨j,bg,δ1,β2,o,l,b,f,?_⟩;have q2:=gE.pre (r.trans k) q;cases o with
    |nx a=>exact Ql f (Z _ _)
    |ct a=>exact Ql f (h2 _ _)
    |bk a=>exact Ql f (h3 _ _)
    |rt d=>exact q2
    |rg d=>exact q2
    |ex C a=>exact q2
  ·rename_i β2 y
   cases f;refine⟨.ok Pz,_,y,λv N tt hd=>?_⟩;subst hd;obtain⟨b,k⟩:=h.to rfl tt;rw[PL PQ];exact q _ j N (r.trans k) b
  ·rename_i C β2 y
   cases f;refine⟨.error C,_,y,λN tt=>?_⟩;obtain⟨b,k⟩:=h.to rfl tt;exact q _ j N (r.trans k) b
  ·cases f
noncomputable def gLp(tg:TgS)(g:G):List D->G
 |[],δ,β=>My (.nx δ,β)
 |d::ds,δ,β=>match tg d δ with
  |none=>Po
  |some δ1=>match g δ1 β with
   |some (.nx δ2,β2)=>gLp tg g ds δ2 β2
   |some (.ct δ2,β2)=>gLp tg g ds δ2 β2
   |some (.bk δ2,β2)=>My (.nx δ2,β2)
   |r=>r
def qu(it:FL)(tg:TgS)(g:G):G:=λδ β=>match it (vw δ) β with
 |some (.ok ds,β1)=>gLp tg g ds δ β1
 |some (.error C,β1)=>My (.ex C δ,β1)
 |none=>Po
theorem cb(l:pS X.K tgg tg)(h:PS X (.For tgt iter body [] pos) (Lo (iV X.K it E) tgg (tG X.K X.H₀ g E))):PS X (.For tgt iter body [] pos) (tG X.K X.H₀ (qu it tg g) E):=h.imp λD σ H h_=>by
 obtain⟨B,bg,δ,β,o,A,ok,e,q⟩:=h_;refine⟨FxB B bg,vw δ,β,ok.fr,ok.view,?_⟩;unfold qu at e;split at e
 ·rename_i ds β1 W
  refine⟨.ok ds,_,W,λJ Y t hJ=>?_⟩;obtain⟨Z,s1⟩:=ok.to rfl t;refine⟨λi m p I=>m+i=ds.length/\∃n r β2,Stp B Y n I/\SOk X.K X.H₀ n bg I r β2 p/\gLp tg g (ds.drop i) r β2=My (o,A),⟨ds.length,by omega,B,δ,β1,Stp.refl B Y,Z,e⟩,?_⟩;rintro i m p I ⟨hm,n,r,β2,L,c,b⟩;obtain⟨iy,is⟩:=hJ (FxB n bg) I β2 L.tr c.fr i;cases R:ds[i]? with
  |none=>
   have T:ds.length<=i:=UY.mp R;rw[Rz T]at b;cases b;exact .inl ⟨is (by omega),q p n I (s1.trans L) c⟩
  |some d=>
   have T:i<ds.length:=(PU.mp R).1;obtain⟨go,yl⟩:=iy d R;have ed:ds.drop i=d::ds.drop (i+1):=by
    rw[QX T];congr 1;exact Qo ((Pw T).symm.trans R)
   rw[ed]at b;unfold gLp at b;split at b
   ·cases b
   ·rename_i j e3
    refine .inr ⟨go,λN H9=>∃U u v,Stp B Y U H9/\SOk X.K X.H₀ U bg H9 u v N/\gLp tg g (ds.drop (i+1)) u v=My (o,A),λN H9 ⟨U,u,v,z1,z2,z3⟩=>⟨m-1,by omega,by omega,U,u,v,z1,z2,z3⟩,λx H3 hy=>?_⟩;obtain⟨sm,dx⟩:=yl x H3 hy;obtain⟨ok3,s3⟩:=c.to rfl (c.fr.same sm);refine l X.H₀ n bg H3 r j β2 p d x _ ok3 dx e3 λσ4 w=>?_;have y:=L.trans s3;split at b
    ·rename_i a f O
     exact⟨n,bg,j,β2,.nx a,f,w,O,λF P H6 Q k=>⟨P,a,f,y.trans Q,k,b⟩⟩
    ·rename_i a f O
     exact⟨n,bg,j,β2,.ct a,f,w,O,λF P H6 Q k=>⟨P,a,f,y.trans Q,k,b⟩⟩
    ·rename_i a f O
     cases b;exact⟨n,bg,j,β2,.bk a,_,w,O,λF P H6 Q k=>q F P H6 (s1.trans (y.trans Q)) k⟩
    ·rename_i x h1 h2 h3
     refine⟨n,bg,j,β2,o,A,w,b,?_⟩;have q2:=gE.pre (s1.trans y) q;cases o with
     |nx a=>exact Ql b (h1 _ _)
     |ct a=>exact Ql b (h2 _ _)
     |bk a=>exact Ql b (h3 _ _)
     |rt d=>exact q2
     |rg d=>exact q2
     |ex C a=>exact q2
 ·rename_i C β1 W
  cases e;refine⟨.error C,_,W,λH' t=>?_⟩;obtain⟨c,L⟩:=ok.to rfl t;exact q _ B H' L c
 ·cases e
theorem SOk.newOwn{δ:Ds}{Q:St}(ok:SOk K H₀ B bg H δ β Q)(g:H p=Po)(hd:DenL K (FxB B bg) H ds xs):
  SOk K H₀ (λa=>if a=p then My (i+2)else B a) bg (upd H p (.lst xs)) (δ.set i (My (.own ds))) β (Q.set i (My (.ref p)))/\Stp B H (λa=>if a=p then My (i+2)else B a) (upd H p (.lst xs)):=by
 have hB:B p=Po:=by
  cases q:B p with
  |none=>rfl
  |some t=>exact Ql g (ok.fr.occ p (by show B p≠Po;rw[q];simp))
 have m:Stp B H (λa=>if a=p then My (i+2)else B a) (upd H p (.lst xs)):=by
  refine⟨λa o h _=>by rw[upd_ne (ne_of_none h g)];exact h,λa h=>?_,λa o h n=>?_,?_⟩
  ·have:a≠p:=λz=>by subst z;rw[hB]at h;rcases h with h|h<;>cases h
   simp only[PL this]
  ·simp only[PL (ne_of_none h g)];exact n
  ·exact λa ha=>by
    by_cases z:a=p
    ·subst z;rw[af];simp
    ·rw[upd_ne z];exact ha
 have tr:Tr (FxB B bg) H (FxB (λa=>if a=p then My (i+2)else B a) bg) (upd H p (.lst xs)):=m.tr;have I:∀b l,bg=My (b,l)->b≠p/\l≠p:=λb l e=>by
  obtain⟨b1,b2⟩:=ok.bgt b l e;exact⟨λz=>(by subst z;rw[hB]at b1;cases b1),λz=>(by subst z;rw[hB]at b2;cases b2)⟩
 refine⟨⟨⟨λa ha z=>?_,λb l e=>?_,λb l e=>?_⟩,λb l e=>?_,by rw[QB,QB,ok.len],λa ha=>m.al a (ok.cov a ha),λc k J=>(by
  have f:(if c=p then My (i+2)else B c)=My (k+2):=J;by_cases z:c=p
  ·cases w:H₀ c with
   |none=>rfl
   |some o=>exact Ql (z▸g) (ok.cov c (by rw[w];simp))
  ·rw[PL z]at f;exact ok.new c k f),λc k J=>(by
  have f:(if c=p then My (i+2)else B c)=My (k+2):=J;by_cases z:c=p
  ·subst z;exact⟨xs,af⟩
  ·rw[PL z]at f;rw[upd_ne z];exact ok.lst c k f),λj s e=>?_⟩,m⟩
 ·by_cases q:a=p
  ·subst q;rw[af]at z;cases z
  ·rw[upd_ne q]at z
   have u:(if a=p then My (i+2)else B a)≠Po:=ha;rw[PL q]at u;exact ok.fr.occ a u z
 ·obtain⟨y,A⟩:=I b l e
  obtain⟨b1,b2⟩:=ok.bgt b l e;refine⟨?_,?_,(ok.fr.bgA b l e).2.2⟩
  ·show(if b=p then My (i+2)else B b)≠Po
   rw[PL y,b1];simp
  ·show(if l=p then My (i+2)else B l)≠Po
   rw[PL A,b2];simp
 ·obtain⟨y,A⟩:=I b l e
  rw[upd_ne y,upd_ne A];exact ok.fr.bag b l e
 ·obtain⟨y,A⟩:=I b l e
  simp only[PL y,PL A];exact ok.bgt b l e
 ·rw[Q2]at e
  rw[Q2];by_cases q:i=j
  ·subst q
   rw[PP rfl]at e⊢;split at e
   ·rename_i R
    cases e;rw[PP (by rw[←ok.len];exact R)];exact⟨_,rfl,p,xs,rfl,PP rfl,af,DenL.tr tr _ _ hd⟩
   ·cases e
  ·rw[PL q]at e⊢
   obtain⟨v,T,L⟩:=ok.tell j s e;refine⟨v,T,?_⟩;cases s with
   |sh d=>exact Den.tr tr _ _ L
   |own cs=>
    obtain⟨a,ys,N,O,C,P⟩:=L;have F:=ne_of_none C g;exact⟨a,ys,N,by simp only[PL F];exact O,by rw[upd_ne F];exact C,DenL.tr tr _ _ P⟩
   |grd rows=>
    obtain⟨a,rs,N,O,C,P,U⟩:=L;have F:=ne_of_none C g;exact⟨a,rs,N,by simp only[PL F];exact O,by rw[upd_ne F];exact C,P,RowL.tr tr U λr W _ p q=>⟨by simp only[PL (ne_of_none q g)];exact p,by rw[upd_ne (ne_of_none q g)];exact q⟩⟩
theorem SOk.writeOwn{δ:Ds}(ok:SOk K H₀ B bg H δ β σ)(hs:σ[i]?=My (My (.ref a)))(hB:B a=My (i+2))(ha:H a=My (.lst ys))(hd:DenL K (FxB B bg) H ds xs):
  SOk K H₀ B bg (upd H a (.lst xs)) (δ.set i (My (.own ds))) β σ/\Stp B H B (upd H a (.lst xs)):=by
 have g:Stp B H B (upd H a (.lst xs)):=by
  refine⟨λc o h n=>?_,λ_ _=>rfl,λ_ _ _ n=>n,λc m=>?_⟩
  ·rw[upd_ne]
   ·exact h
   ·intro z;subst z;rw[hB]at n;rcases n with n|n<;>cases n
  ·by_cases z:c=a
   ·subst z;rw[af];simp
   ·rw[upd_ne z];exact m
 have tr:Tr (FxB B bg) H (FxB B bg) (upd H a (.lst xs)):=g.tr;refine⟨⟨⟨λc m z=>?_,ok.fr.bgA,λb l e=>?_⟩,ok.bgt,by rw[QB,ok.len],λa ha=>g.al a (ok.cov a ha),ok.new,λc k m=>(by
  by_cases z:c=a
  ·subst z;exact⟨xs,af⟩
  ·rw[upd_ne z];exact ok.lst c k m),λj s e=>?_⟩,g⟩
 ·by_cases q:c=a
  ·subst q;rw[af]at z;cases z
  ·rw[upd_ne q]at z;exact ok.fr.occ c m z
 ·obtain⟨b1,b2⟩:=ok.bgt b l e
  rw[upd_ne (λz=>by subst z;rw[hB]at b1;cases b1),upd_ne (λz=>by subst z;rw[hB]at b2;cases b2)];exact ok.fr.bag b l e
 ·rw[Q2]at e
  by_cases q:i=j
  ·subst q
   rw[PP rfl]at e;split at e
   ·cases e
    exact⟨_,hs,a,xs,rfl,hB,af,DenL.tr tr _ _ hd⟩
   ·cases e
  ·rw[PL q]at e
   obtain⟨v,F,u⟩:=ok.tell j s e;refine⟨v,F,?_⟩;cases s with
   |sh d=>exact Den.tr tr _ _ u
   |own cs=>
    obtain⟨c,C,w,f,y,A⟩:=u;have t:c≠a:=λz=>by subst z;rw[hB]at f;cases f;exact q rfl
    exact⟨c,C,w,f,by rw[upd_ne t];exact y,DenL.tr tr _ _ A⟩
   |grd rows=>
    obtain⟨c,rs,w,f,y,A,I⟩:=u;have t:∀c,B c=My (j+2)->c≠a:=λc f z=>by subst z;rw[hB]at f;cases f;exact q rfl
    exact⟨c,rs,w,f,by rw[upd_ne (t c f)];exact y,A,RowL.tr tr I λr C _ p q=>⟨p,by rw[upd_ne (t r p)];exact q⟩⟩
def xN(i:Nat)(f:FL):G:=λδ β=>match f (vw δ) β with
 |some (.ok ds,β1)=>if ds.length<=P0 then My (.nx (δ.set i (My (.own ds))),β1)else Po
 |some (.error C,β1)=>My (.ex C δ,β1)
 |none=>Po
theorem sw(h:PS X st (jC (Lm (tVA X.K f E)) (eQ i))):PS X st (tG X.K X.H₀ (xN i f) E):=h.imp λD r H j=>by
 obtain⟨B,bg,δ,β,o,k,ok,e,q⟩:=j;refine⟨FxB B bg,vw δ,β,ok.fr,ok.view,?_⟩;unfold xN at e;split at e
 ·rename_i ds β1 b
  split at e
  ·rename_i l
   cases e;refine⟨.ok ds,_,b,λvs g t hd=>⟨by rw[←hd.length];exact l,λp m=>?_⟩⟩;obtain⟨a,c⟩:=ok.to rfl t;obtain⟨d,n⟩:=a.newOwn (i:=i) m hd;exact q _ _ _ (c.trans n) d
  ·cases e
 ·rename_i C β1 b
  cases e;refine⟨.error C,_,b,λg t=>?_⟩;obtain⟨a,c⟩:=ok.to rfl t;exact q _ B g c a
 ·cases e
def xR(i:Nat)(f:FL):G:=λδ β=>match δ.getD i Po with
 |some (.own cs)=>match f (vw δ) β with
  |some (.ok [d],β1)=>if cs.length<P0 then My (.nx (δ.set i (My (.own (cs++[d])))),β1)else Po
  |some (.error C,β1)=>My (.ex C δ,β1)
  |_=>Po
 |_=>Po
theorem getD_some{α:Type}{δ:List (Option α)}{i:Nat}{s:α}(h:δ.getD i Po=My s):δ[i]?=My (My s):=by
 rw[Px]at h;cases z:δ[i]? with
 |none=>rw[z]at h;cases h
 |some w=>rw[z]at h;simp at h;rw[h]
theorem sy(h:PS X st (su (tBM X.K "list" qb (kY i) (tVA X.K f E)))):PS X st (tG X.K X.H₀ (xR i f) E):=h.imp λD P H y=>by
 obtain⟨B,bg,δ,β,o,A,ok,e,q⟩:=y;unfold xR at e;split at e
 ·rename_i cs u
  obtain⟨v,l,a,ys,rfl,F,I,Q⟩:=ok.tell i _ (getD_some u);refine⟨_,l,.inl ⟨rfl,ys,SqL.of I⟩,FxB B bg,vw δ,β,ok.fr,ok.view,?_⟩;split at e
  ·rename_i d β1 m
   split at e
   ·rename_i J
    cases e;refine⟨.ok [d],_,m,λvs w t hd=>?_⟩;obtain⟨b,n⟩:=ok.to rfl t;obtain⟨v,rfl,L⟩:=DenL.one hd;obtain⟨R,c,T,g,p,N,j,k⟩:=b.tell i _ (getD_some u);rw[l]at c;cases c;cases p;refine⟨a,g,v,rfl,rfl,j,by rw[←k.length];exact J,?_⟩;obtain⟨r,O⟩:=b.writeOwn (ds:=cs++[d]) (xs:=g++[v]) l F j (DenL.append k (DenL.cons L DenL.nil));exact q _ _ _ (n.trans O) r
   ·cases e
  ·rename_i C β1 m
   cases e;refine⟨.error C,_,m,λw t=>?_⟩;obtain⟨b,n⟩:=ok.to rfl t;exact q _ B w n b
  ·cases e
 ·cases e
noncomputable def fz(i:Nat)(δ:Ds):Ds:=match δ.getD i Po with
 |some (.own ds)=>δ.set i (My (.sh (.lst ds)))
 |some (.grd rows)=>δ.set i (My (.sh (.lst (rows.map D.lst))))
 |_=>δ
theorem SOk.freeze(i:Nat)(ok:SOk K H₀ B bg H δ β σ):∃U,SOk K H₀ U bg H (fz i δ) β σ/\Stp B H U H:=by
 unfold fz;split
 ·rename_i ds L
  obtain⟨v,N,a,ys,O,t,P,Y⟩:=ok.tell i _ (getD_some L);have g:Stp B H (λc=>if c=a then Po else B c) H:=by
   refine⟨λ_ _ h _=>h,λc hc=>?_,λc o h n=>?_,λ_ h=>h⟩
   ·have:c≠a:=λz=>by subst z;rw[t]at hc;rcases hc with hc|hc<;>cases hc
    simp only[PL this]
   ·by_cases z:c=a
    ·simp only[PP z]
    ·simp only[PL z];exact n
  have tr:Tr (FxB B bg) H (FxB (λc=>if c=a then Po else B c) bg) H:=g.tr;have F:∀b l,bg=My (b,l)->b≠a/\l≠a:=λb l e=>by
   obtain⟨b1,b2⟩:=ok.bgt b l e;exact⟨λz=>(by subst z;rw[t]at b1;cases b1),λz=>(by subst z;rw[t]at b2;cases b2)⟩
  refine⟨λc=>if c=a then Po else B c,⟨⟨λc hc=>ok.fr.occ c ?_,λb l e=>?_,ok.fr.bag⟩,λb l e=>?_,by rw[QB,ok.len],ok.cov,λc k hc=>(by
   have f:(if c=a then Po else B c)=My (k+2):=hc;split at f
   ·cases f
   ·exact ok.new c k f),λc k hc=>(by
   have f:(if c=a then Po else B c)=My (k+2):=hc;split at f
   ·cases f
   ·exact ok.lst c k f),λj s e=>?_⟩,g⟩
  ·have f:(if c=a then Po else B c)≠Po:=hc
   split at f
   ·exact Ql rfl f
   ·exact f
  ·obtain⟨u,w⟩:=F b l e
   obtain⟨b1,b2⟩:=ok.bgt b l e;refine⟨?_,?_,(ok.fr.bgA b l e).2.2⟩
   ·show(if b=a then Po else B b)≠Po
    rw[PL u,b1];simp
   ·show(if l=a then Po else B l)≠Po
    rw[PL w,b2];simp
  ·obtain⟨u,w⟩:=F b l e
   simp only[PL u,PL w];exact ok.bgt b l e
  ·rw[Q2]at e
   by_cases q:i=j
   ·subst q
    rw[PP rfl]at e;split at e
    ·cases e
     refine⟨_,N,a,ys,O,⟨λz=>?_,.inl P⟩,DenL.tr tr _ _ Y⟩;have I:(if a=a then Po else B a)≠Po:=z;rw[PP rfl]at I;exact I rfl
    ·cases e
   ·rw[PL q]at e
    obtain⟨Q,R,y⟩:=ok.tell j s e;refine⟨Q,R,?_⟩;cases s with
    |sh d=>exact Den.tr tr _ _ y
    |own cs=>
     obtain⟨c,J,d1,d2,d3,C⟩:=y;have m:c≠a:=λz=>by subst z;rw[t]at d2;cases d2;exact q rfl
     exact⟨c,J,d1,by simp only[PL m];exact d2,d3,DenL.tr tr _ _ C⟩
    |grd rows=>
     obtain⟨c,rs,d1,d2,d3,C,T⟩:=y;have m:∀c,B c=My (j+2)->c≠a:=λc d2 z=>by subst z;rw[t]at d2;cases d2;exact q rfl
     exact⟨c,rs,d1,by simp only[PL (m c d2)];exact d2,d3,C,RowL.tr tr T λr J _ p q=>⟨by simp only[PL (m r p)];exact p,q⟩⟩
 ·rename_i rows L
  classical
  obtain⟨v,N,a,rs,O,t,P,nd,W⟩:=ok.tell i _ (getD_some L);have own:∀c,c=a\/c∈rs->B c=My (i+2):=λc hc=>by
   rcases hc with rfl|hc
   ·exact t
   ·exact(W.all c hc).1
  have g:Stp B H (λc=>if c=a\/c∈rs then Po else B c) H:=by
   refine⟨λ_ _ h _=>h,λc hc=>?_,λc o h n=>?_,λ_ h=>h⟩
   ·have:¬(c=a\/c∈rs):=λz=>by rw[own c z]at hc;rcases hc with hc|hc<;>cases hc
    simp only[PL this]
   ·by_cases z:c=a\/c∈rs
    ·simp only[PP z]
    ·simp only[PL z];exact n
  have tr:Tr (FxB B bg) H (FxB (λc=>if c=a\/c∈rs then Po else B c) bg) H:=g.tr;have F:∀b l,bg=My (b,l)->¬(b=a\/b∈rs)/\¬(l=a\/l∈rs):=λb l e=>by
   obtain⟨b1,b2⟩:=ok.bgt b l e;exact⟨λz=>(by rw[own b z]at b1;cases b1),λz=>(by rw[own l z]at b2;cases b2)⟩
  have free:∀c,c=a\/c∈rs->¬(FxB (λc=>if c=a\/c∈rs then Po else B c) bg).A c:=λc hc z=>by
   have I:(if c=a\/c∈rs then Po else B c)≠Po:=z;rw[PP hc]at I;exact I rfl
  refine⟨λc=>if c=a\/c∈rs then Po else B c,⟨⟨λc hc=>ok.fr.occ c ?_,λb l e=>?_,ok.fr.bag⟩,λb l e=>?_,by rw[QB,ok.len],ok.cov,λc k hc=>(by
   have f:(if c=a\/c∈rs then Po else B c)=My (k+2):=hc;split at f
   ·cases f
   ·exact ok.new c k f),λc k hc=>(by
   have f:(if c=a\/c∈rs then Po else B c)=My (k+2):=hc;split at f
   ·cases f
   ·exact ok.lst c k f),λj s e=>?_⟩,g⟩
  ·have f:(if c=a\/c∈rs then Po else B c)≠Po:=hc
   split at f
   ·exact Ql rfl f
   ·exact f
  ·obtain⟨u,w⟩:=F b l e
   obtain⟨b1,b2⟩:=ok.bgt b l e;refine⟨?_,?_,(ok.fr.bgA b l e).2.2⟩
   ·show(if b=a\/b∈rs then Po else B b)≠Po
    rw[PL u,b1];simp
   ·show(if l=a\/l∈rs then Po else B l)≠Po
    rw[PL w,b2];simp
  ·obtain⟨u,w⟩:=F b l e
   simp only[PL u,PL w];exact ok.bgt b l e
  ·rw[Q2]at e
   by_cases q:i=j
   ·subst q
    rw[PP rfl]at e;split at e
    ·cases e
     exact⟨_,N,a,_,O,⟨free a (.inl rfl),.inl P⟩,RowL.den tr W λr Z _=>free r (.inr Z)⟩
    ·cases e
   ·rw[PL q]at e
    obtain⟨Q,R,y⟩:=ok.tell j s e;refine⟨Q,R,?_⟩;have m:∀c,B c=My (j+2)->¬(c=a\/c∈rs):=λc d2 z=>by rw[own c z]at d2;cases d2;exact q rfl
    cases s with
    |sh d=>exact Den.tr tr _ _ y
    |own cs=>
     obtain⟨c,J,d1,d2,d3,C⟩:=y;exact⟨c,J,d1,by simp only[PL (m c d2)];exact d2,d3,DenL.tr tr _ _ C⟩
    |grd rows2=>
     obtain⟨c,qs,d1,d2,d3,C,T⟩:=y;exact⟨c,qs,d1,by simp only[PL (m c d2)];exact d2,d3,C,RowL.tr tr T λr J _ p q=>⟨by simp only[PL (m r p)];exact p,q⟩⟩
 ·exact⟨B,ok,Stp.refl B H⟩
noncomputable def fzG(i:Nat)(g:G):G:=λδ β=>g (fz i δ) β
theorem CF(i:Nat)(h:PSs X sts (tG X.K X.H₀ g E)):PSs X sts (tG X.K X.H₀ (fzG i g) E):=h.imp λD f H c=>by
 obtain⟨B,bg,δ,β,o,a,ok,e,q⟩:=c;obtain⟨d,b,s⟩:=ok.freeze i;exact⟨d,bg,fz i δ,β,o,a,b,e,gE.pre s q⟩
noncomputable def stD(n:Nat)(ds:List D):Ds:=ds.map (λd=>My (Sl.sh d))++P5 (n-ds.length) Po
def jA(n:Nat)(g:G):List D->M D:=λds β=>match g (stD n ds) β with
 |some (.rt d,β')=>My (.ok d,β')
 |some (.nx _,β')=>My (.ok .non,β')
 |some (.ex C _,β')=>My (.error C,β')
 |_=>Po
theorem tE{F:Fx}{N:List Qz}(fr:Fr F H β)(hd:DenL K F H ds vs):∃B,SOk K H B F.bg H (stD N.length ds) β (fi N vs)/\(∀a,F.A a->B a=My 0\/B a=My 1)/\(∀a,B a=My 1->∃b l,F.bg=My (b,l)/\(a=b\/a=l))/\(∀a,B a≠Po->F.A a):=by
 classical
 refine⟨λa=>if F.A a then(if ∃b l,F.bg=My (b,l)/\(a=b\/a=l)then My 1 else My 0)else Po,⟨⟨λa ha=>fr.occ a ?_,λb l e=>?_,fr.bag⟩,λb l e=>?_,?_,λ_ h=>h,λc k m=>(by
  have f:(if F.A c then(if ∃b l,F.bg=My (b,l)/\(c=b\/c=l)then My 1 else My 0)else Po)=My (k+2):=m;split at f
  ·split at f<;>cases f
  ·cases f),λc k m=>(by
  have f:(if F.A c then(if ∃b l,F.bg=My (b,l)/\(c=b\/c=l)then My 1 else My 0)else Po)=My (k+2):=m;split at f
  ·split at f<;>cases f
  ·cases f),λi s e=>?_⟩,λa ha=>?_,λa ha=>?_,λa ha=>?_⟩
 ·have g:(if F.A a then(if ∃b l,F.bg=My (b,l)/\(a=b\/a=l)then My 1 else My 0)else Po)≠(Po:Option Nat):=ha
  split at g
  ·assumption
  ·exact Ql rfl g
 ·obtain⟨a1,a2,a3⟩:=fr.bgA b l e
  refine⟨?_,?_,a3⟩
  ·show(if F.A b then(if ∃j l,F.bg=My (j,l)/\(b=j\/b=l)then My 1 else My 0)else Po)≠(Po:Option Nat)
   rw[PP a1];split<;>simp
  ·show(if F.A l then(if ∃j p,F.bg=My (j,p)/\(l=j\/l=p)then My 1 else My 0)else Po)≠(Po:Option Nat)
   rw[PP a2];split<;>simp
 ·obtain⟨a1,a2,a3⟩:=fr.bgA b l e
  exact⟨by rw[PP a1,PP ⟨b,l,e,.inl rfl⟩],by rw[PP a2,PP ⟨b,l,e,.inr rfl⟩]⟩
 ·unfold stD fi
  rw[Qf,Qf,Pp,Pp,RE,RE,hd.length]
 ·unfold stD at e
  unfold fi;rw[VO,Pp]at e;rw[VO,Pp,←hd.length];by_cases n:i<ds.length
  ·rw[PP n,Py]at e
   rw[PP n,Py];cases z:ds[i]? with
   |none=>rw[z]at e;cases e
   |some d=>
    rw[z]at e;cases e;obtain⟨v,r,t⟩:=hd.get z;refine⟨v,by rw[r];rfl,?_⟩;have o:Tr F H (FxB (λa=>if F.A a then(if ∃b l,F.bg=My (b,l)/\(a=b\/a=l)then My 1 else My 0)else Po) F.bg) H:=by
     refine⟨λa ha _ u=>?_,λ_ _ _ h=>h,rfl⟩;have q:(if F.A a then(if ∃b l,F.bg=My (b,l)/\(a=b\/a=l)then My 1 else My 0)else Po)≠(Po:Option Nat):=u;rw[PL ha]at q;exact q rfl
    exact Den.tr o _ _ t
  ·rw[PL n,RO]at e
   split at e<;>cases e
 ·simp only[PP ha]
  split
  ·exact .inr rfl
  ·exact .inl rfl
 ·simp only at ha
  split at ha
  ·split at ha
   ·assumption
   ·cases ha
  ·cases ha
 ·simp only at ha
  split at ha
  ·assumption
  ·exact Ql rfl ha
end
section
variable{P:Qu}{w:QH}{K:P6}{mg:Qz->Option PH}{base:Q0}
theorem KW{st:Q6}{N ps:List Qz}(F:FunD K x qual st f fd)(S:FnScope N ps (ae st))
  (y:∀(j:PH) (A:QU) (outer:List WN) (s:PM) (H:Hp) (E:XK),Room k (A.deeper (Um qual (ae st) s.heap.objs.size f j))->
   PSs (c7 (CXE P w) P w K mg base N qual (ae st) f j A outer s H E) (cc st) (tG K H g (λ_=>E))):FnOk P w K mg base (CXE P w) (k+1) f fd ps (spF K ps.length (jA N.length g)):=by
 refine F.okE S (λvs H Q E h=>h.1) λj A outer s H vs Q E X h=>?_;obtain⟨hl,p,ds,β,fr,hd,r,i,e,h⟩:=h;refine⟨_,y j A outer s H E X,?_⟩;obtain⟨B,ok,T,Y,hn⟩:=tE (N:=N) fr hd;have I:∀{u:Ow} {c:Hp},Stp B H u c->Fr (FxB u p.bg) c i->To p H c i/\Tr (FxB u p.bg) c p c:=λ{u c} s m=>by
  have hs:∀a,p.A a->u a≠Po:=λa ha=>by
   rw[s.tg a (T a ha)];rcases T a ha with z|z<;>rw[z]<;>simp
  refine⟨⟨λa o ha n=>s.kp a o ha ?_,λa ha=>m.occ a (hs a ha),λb l e=>fr.bgA b l e,m.bag⟩,λa ha _ z=>ha (hs a z),λ_ _ _ h=>h,rfl⟩;cases q:B a with
  |none=>exact .inl rfl
  |some t=>
   have:=T a (hn a (by rw[q];simp));rcases this with z|z
   ·rw[q]at z;exact .inr z
   ·obtain⟨b,l,e,w⟩:=Y a z
    obtain⟨Z,n2⟩:=n b l e;rcases w with w|w
    ·exact Ql w Z
    ·exact Ql w n2
 unfold jA at e;split at e
 ·rename_i d β1 O
  cases e;refine⟨B,p.bg,stD N.length ds,β,.rt d,i,ok,O,λv u c s m hv=>?_⟩;obtain⟨R,U⟩:=I s m;exact h v c R (Den.tr U _ _ hv)
 ·rename_i J β1 O
  cases e;refine⟨B,p.bg,stD N.length ds,β,.nx J,i,ok,O,λW u c s L=>?_⟩;obtain⟨R,U⟩:=I s L.fr;exact h _ c R rfl
 ·rename_i C J β1 O
  cases e;refine⟨B,p.bg,stD N.length ds,β,.ex C J,i,ok,O,λW u c s L=>?_⟩;obtain⟨R,U⟩:=I s L.fr;exact h c R
 ·cases e
end
section
variable{prog:Qu}{w:QH}{A:QU}
theorem Pi(l:A.handled=Po)(it t:PD)(ne:t≠it)(b:Array PH):Xv prog w A it [it,t] b.size (λi v=>b[i]?=My v) (λi h=>h.IsTupleIter it t i/\h.IsTuple t b) where
 live:=λ_ _ st=>let ⟨o,e,_⟩:=st.1;⟨o,e⟩
 frame:=λ_ _ _ st k=>⟨st.1.at λo e=>k it (by simp) o e,by
  obtain⟨o,e,r⟩:=st.2;exact⟨o,k t (by simp) o e,r⟩⟩
 item:=λi s Q E p st q=>by
  obtain⟨o,d,co,c⟩:=id st.1;obtain⟨n,f,_,nt,g⟩:=st.2;have j:b[i]?=My b[i]:=by simp[p]
  unfold RK;refine Pn (wpAny_callSpecial?_slot (name:=Qv "__next__") st.1.typeIs Tl (QO Tl st.1.typeIs Xw ?_ (Xk _)));show PY _ _ (Y9 (.ref it) 0>>=_) _ _ _;refine Pn (Rm d c (x:= .ref t) rfl ?_);show PY _ _ (if(P7 t==QZ)=Pt then _ else _) _ _ _;rw[PL (show ¬((P7 t==QZ)=Pt)from PQ)];show PY _ _ (Y9 (.ref it) 1>>=_) _ _ _;refine Pn (Rm d c (x:= .int i 0) rfl ?_);show PY _ _ (seqItems? (.ref t)>>=_) _ _ _;refine Pn (RN f g ?_);simp only[Rp,j];refine Pn (TD d c (by simp) (Pq ⟨b[i],rfl,Pq (q _ _ s.toks j ⟨?_,?_⟩ (Rq ..))⟩))
  ·exact⟨_,RU _ d (VI (R0 c _)),(Wv ..).trans co,by rw[R0 c];simp[Ur]⟩
  ·exact⟨n,(Rq ..).extBut _ _ ne f,by assumption,nt,g⟩
 done:=λs Q E st u=>by
  obtain⟨o,d,co,c⟩:=id st.1;obtain⟨n,f,_,nt,g⟩:=st.2;have j:b[b.size]?=Po:=by simp
  unfold RK;refine Pn (wpAny_callSpecial?_slot (name:=Qv "__next__") st.1.typeIs Tl (QO Tl st.1.typeIs Xw ?_ (Xk _)));show PY _ _ (Y9 (.ref it) 0>>=_) _ _ _;refine Pn (Rm d c (x:= .ref t) rfl ?_);show PY _ _ (if(P7 t==QZ)=Pt then _ else _) _ _ _;rw[PL (show ¬((P7 t==QZ)=Pt)from PQ)];show PY _ _ (Y9 (.ref it) 1>>=_) _ _ _;refine Pn (Rm d c (x:= .int b.size 0) rfl ?_);show PY _ _ (seqItems? (.ref t)>>=_) _ _ _;refine Pn (RN f g ?_);simp only[Rp,j];refine Pn (TC (Pn (TD d c (by simp) ?_)));show PY _ _ (Zj (.type "StopIteration") []>>=_) _ _ _;refine Pn ?_;simp only[Zj,newTuple];refine Pn (Re ?_ (by size_fits));refine Pn (m:=Uo _ _) (Tz (a:=QZ) (by first|rfl|(simp only[Uo];rfl)) ?_);refine Re ?_ (by size_fits)
  simp only[raiseNew];refine Pn (YN ?_)
  first|rw[show A.in1.handled=Po from l]|rw[l];skip
  refine Pn (Pq (wpAny_throw ?_));exact u _ _ (((Rq ..).extBut.push _).push _) ⟨_,P4 _ rfl,rfl⟩
end
structure Ap (z TI TO i1 i2:PD) (f1 f2:List PD):Prop where
 a1:TI≠z
 a2:TO≠z
 a3:i1≠z
 a4:i2≠z
 a5:TI≠TO
 a6:TI≠i1
 a7:TI≠i2
 a8:TO≠i1
 a9:TO≠i2
 b1:i1≠i2
 c1:z∉f1
 c2:TO∉f1
 c3:i2∉f1
 d1:z∉f2
 d2:TO∉f2
 d3:i1∉f2
 m1:i1∈f1
 m2:i2∈f2
section
variable{prog:Qu}{w:QH}{A:QU}{E:PH->PM->Prop}{s:PM}
theorem bU{it:PD}{f:List PD}{h h':Q0}(a:Qr it h h')(n:it∉f):∀b∈f,∀o,h.get? b=My o->h'.get? b=My o:=λb c o e=>a.extBut b o (λq=>n (q▸c)) e
theorem yj{z TI TO r t:PD}{f1 f2:List PD}{u B k:Nat}{P1 P2:Nat->PH->Prop}{W X:Nat->Q0->Prop}{a b:PH}{Q:PH->PM->Prop}(L:Xv prog w A r f1 u P1 W)(N:Xv prog w A t f2 B P2 X)(d:Ap z TI TO r t f1 f2)
  (P:Vs s.heap z TI TO .none) (eI:SV s.heap TI (.ref r) (.ref t)) (eO:SV s.heap TO a b) (s1:W k s.heap) (s2:X k s.heap) (k1:k<u) (k2:k<B)
  (hQ:∀h' tk x y,P1 k x->P2 k y->Vs h' z TI TO (Ur s.heap.objs.size)->SV h' TO x y->W (k+1) h'->X (k+1) h'->SV h' s.heap.objs.size x y->h'.objs.size=s.heap.objs.size+1->(∀c o,c≠z->c≠TO->c≠r->c≠t->s.heap.get? c=My o->h'.get? c=My o)->Q (.ref s.heap.objs.size) {s with heap:=h',toks:=tk}):
  PY (Qk prog w) A (Builtin.«zip.__next__» ⟨[.ref z],[]⟩) (λZ s'=>∃v,Z= .done (.ret v)/\Q v s') E s:=by
 obtain⟨hp,gg,dd,tk0,os⟩:=s;show PY _ _ (Y9 (.ref z) 2>>=_) _ _ _;refine Pn (Rm P rfl (x:= .bool Pz) rfl ?_);show PY _ _ (Y9 (.ref z) 3>>=_) _ _ _;refine Pn (Rm P rfl (x:= .ref TI) rfl ?_);refine Pn (RN eI rfl ?_);show PY _ _ (RV (.ref z)>>=_) _ _ _;refine Pn ?_;unfold RV;refine Pn (Rm P rfl (x:= .none) rfl (Pq ?_));simp only[QY];refine Pn (TC ?_);refine Pn (Rm P rfl (x:= .ref TO) rfl ?_);refine Pn (Ru P (by simp) λg1 C g=>?_)
 replace C:Vs g1 z TI TO .ellipsis:=C
 replace g:Qr z hp g1:=g
 refine Pn ?_;simp only[List.zipIdx_cons,List.zipIdx_nil,SY,Ta];refine Pn (Pn (VF ?_));show PY _ _ (RK (.ref r)>>=_) _ _ _;refine Pn (L.item k _ _ _ k1 (L.frame _ _ _ s1 (bU g d.c1)) λx g2 tk2 px st2 h=>Pq ?_)
 replace h:Qr r g1 g2:=h
 have R:SV g2 TO a b:=h.extBut _ _ d.a8 (g.extBut _ _ d.a2 eO);refine Pn (RN R rfl ?_);refine Pn (Wn R λg3 F i=>?_)
 replace F:SV g3 TO x b:=F
 replace i:Qr TO g2 g3:=i
 refine Pn (Wl (Pq ?_));refine Pn (Pn (VF ?_));show PY _ _ (RK (.ref t)>>=_) _ _ _;refine Pn (N.item k _ _ _ k2 (N.frame _ _ _ (N.frame _ _ _ (N.frame _ _ _ s2 (bU g d.d1)) (bU h d.d3)) (bU i d.d2)) λy g4 tk4 py st4 j=>Pq ?_)
 replace j:Qr t g3 g4:=j
 have T:SV g4 TO x b:=j.extBut _ _ d.a9 F;refine Pn (RN T rfl ?_);refine Pn (Wn T λf m l=>?_)
 replace m:SV f TO x y:=m
 replace l:Qr TO g4 f:=l
 refine Pn (Wl (Pq (Pq ?_)));refine Pn (RN m rfl ?_);refine Pn (Wm ?_);have zs:f.objs.size=hp.objs.size:=by rw[l.1,j.1,i.1,h.1,g.1]
 have U:Vs f z TI TO .ellipsis:=l.extBut _ _ d.a2.symm (j.extBut _ _ d.a4.symm (i.extBut _ _ d.a2.symm (h.extBut _ _ d.a3.symm C)));have kp5:∀c o,c≠z->c≠TO->c≠r->c≠t->hp.get? c=My o->f.get? c=My o:=λc o u B n3 n4 e=>l.extBut _ _ B (j.extBut _ _ n4 (i.extBut _ _ B (h.extBut _ _ n3 (g.extBut _ _ u e))));have st1:W (k+1) f:=L.frame _ _ _ (L.frame _ _ _ (L.frame _ _ _ st2 (bU i d.c2)) (bU j d.c3)) (bU l d.c2);have st5:X (k+1) f:=N.frame _ _ _ st4 (bU l d.d2);have zl:z<f.objs.size:=Qj U;show PY _ _ (UN (.ref z) (.ref f.objs.size)>>=_) _ _ _;refine Pn ?_;unfold UN;have ez6:Vs (f.push {cls:= .type "tuple",data:= .seq #[x,y]}) z TI TO .ellipsis:=Pr _ U;refine Pn (Ru ez6 (by simp) λg7 H I=>?_)
 replace H:Vs g7 z TI TO (Ur f.objs.size):=H
 refine Ru H (by simp) λO p J=>?_
 replace p:Vs O z TI TO (Ur f.objs.size):=p
 have Y:∀c o,c≠z->f.get? c=My o->O.get? c=My o:=λc o n e=>J.extBut _ _ n (I.extBut _ _ n (Pr _ e));have eT:SV O f.objs.size x y:=J.extBut _ _ (Se zl) (I.extBut _ _ (Se zl) (P4 _ rfl));have z8:O.objs.size=f.objs.size+1:=by rw[J.1,I.1,Q9]
 rw[zs]at p eT z8;refine Pq ⟨_,rfl,?_⟩;show Q (.ref f.objs.size) ⟨O,gg,dd,_,os⟩;rw[zs];exact hQ O _ x y px py p (Y _ _ d.a2 m) (L.frame _ _ _ st1 λb hb o e=>Y b o (λq=>d.c1 (q▸hb)) e) (N.frame _ _ _ st5 λb hb o e=>Y b o (λq=>d.d1 (q▸hb)) e) eT z8 λc o u B n3 n4 e=>Y c o u (kp5 c o u B n3 n4 e)
theorem BK{z TI TO n r:PD}{f1 f2:List PD}(H:Xv prog w A n f1 m P1 S1)(I:Xv prog w A r f2 R P2 S2)(i:Ap z TI TO n r f1 f2)
  (u:Vs s.heap z TI TO .none) (X:SV s.heap TI (.ref n) (.ref r)) (Y:SV s.heap TO a b) (T:S1 k s.heap) (Z:S2 k s.heap) (k1:k=m\/(k<m/\k=R))
  (U:∀h' e tk,(∀c o,c≠z->c≠TO->c≠n->c≠r->s.heap.get? c=My o->h'.get? c=My o)->(∃o,h'.get? e=My o/\o.cls= .type "StopIteration")->E (.ref e) {s with heap:=h',toks:=tk}):
  PY (Qk prog w) A (Builtin.«zip.__next__» ⟨[.ref z],[]⟩) Q E s:=by
 obtain⟨hp,gg,dd,tk0,os⟩:=s;show PY _ _ (Y9 (.ref z) 2>>=_) _ _ _;refine Pn (Rm u rfl (x:= .bool Pz) rfl ?_);show PY _ _ (Y9 (.ref z) 3>>=_) _ _ _;refine Pn (Rm u rfl (x:= .ref TI) rfl ?_);refine Pn (RN X rfl ?_);show PY _ _ (RV (.ref z)>>=_) _ _ _;refine Pn ?_;unfold RV;refine Pn (Rm u rfl (x:= .none) rfl (Pq ?_));simp only[QY];refine Pn (TC ?_);refine Pn (Rm u rfl (x:= .ref TO) rfl ?_);refine Pn (Ru u (by simp) λJ j f=>?_)
 replace j:Vs J z TI TO .ellipsis:=j
 replace f:Qr z hp J:=f
 refine Pn ?_;simp only[List.zipIdx_cons,List.zipIdx_nil,SY,Ta];refine Pn (Pn (VF ?_));show PY _ _ (RK (.ref n)>>=_) _ _ _;rcases k1 with rfl|⟨k1,rfl⟩
 ·refine Pn (H.done _ _ _ (H.frame _ _ _ T (bU f i.c1)) λt e d N=>?_)
  replace d:WF n J t:=d
  obtain⟨O,h,v⟩:=N;have y:Vs t z TI TO .ellipsis:=d _ _ i.a3.symm j;have p:e≠z:=λq=>by subst q;rw[y]at h;cases h;simp at v
  exact Ru y (by simp) λL _ g=>U L e _ (λc o m _ P _ q=>g.extBut _ _ m (d _ _ P (f.extBut _ _ m q))) ⟨O,g.extBut _ _ p h,v⟩
 ·refine Pn (H.item k _ _ _ k1 (H.frame _ _ _ T (bU f i.c1)) λx t tk2 px st2 d=>Pq ?_)
  replace d:Qr n J t:=d
  have B:SV t TO a b:=d.extBut _ _ i.a8 (f.extBut _ _ i.a2 Y);refine Pn (RN B rfl ?_);refine Pn (Wn B λL eO3 g=>?_)
  replace g:Qr TO t L:=g
  refine Pn (Wl (Pq ?_));refine Pn (Pn (VF ?_));show PY _ _ (RK (.ref r)>>=_) _ _ _;refine Pn (I.done _ _ _ (I.frame _ _ _ (I.frame _ _ _ (I.frame _ _ _ Z (bU f i.d1)) (bU d i.d3)) (bU g i.d2)) λW e l N=>?_)
  replace l:WF r L W:=l
  obtain⟨O,h,v⟩:=N;have C:Vs W z TI TO .ellipsis:=l _ _ i.a4.symm (g.extBut _ _ i.a2.symm (d.extBut _ _ i.a3.symm j));have p:e≠z:=λq=>by subst q;rw[C]at h;cases h;simp at v
  exact Ru C (by simp) λg5 _ F=>U g5 e _ (λc o m R P n4 q=>F.extBut _ _ m (l _ _ n4 (g.extBut _ _ R (d.extBut _ _ P (f.extBut _ _ m q))))) ⟨O,F.extBut _ _ p h,v⟩
theorem yi{z TI TO e f:PD}{f1 f2:List PD}(i:∀d:QU,d.handled=A.handled->Xv prog w d e f1 n1 P1 S1)(j:∀d:QU,d.handled=A.handled->Xv prog w d f f2 n2 P2 S2)(l:Ap z TI TO e f f1 f2)
  (h:Vs s.heap z TI TO .none) (m:SV s.heap TI (.ref e) (.ref f)) (n:SV s.heap TO a b) (p:S1 k s.heap) (q:S2 k s.heap) (k1:k<n1) (k2:k<n2)
  (r:∀h' g x y,P1 k x->P2 k y->Vs h' z TI TO (Ur s.heap.objs.size)->SV h' TO x y->S1 (k+1) h'->S2 (k+1) h'->SV h' s.heap.objs.size x y->h'.objs.size=s.heap.objs.size+1->(∀c o,c≠z->c≠TO->c≠e->c≠f->s.heap.get? c=My o->h'.get? c=My o)->Q (My (.ref s.heap.objs.size)) {s with heap:=h',toks:=g}):
  PY (Qk prog w) A (Uq (.ref z)) Q E s:=by
 have ty:s.TypeIs (.ref z) "zip":=⟨_,h,rfl⟩;unfold Uq;exact Pn (UJ (wpAny_callSpecial?_slot (name:=Qv "__next__") ty VN (QO VN ty F.entry_zip_next (yj (i _ rfl) (j _ rfl) l h m n p q k1 k2 λh' g x y a1 a2 a3 a4 a5 a6 a7 a8 a9=>Pq (r h' g x y a1 a2 a3 a4 a5 a6 a7 a8 a9)) (F.args_zip_next_1 _))))
theorem BJ{z TI TO f g:PD}{f1 f2:List PD}(j:∀d:QU,d.handled=A.handled->Xv prog w d f f1 n1 P1 S1)(l:∀d:QU,d.handled=A.handled->Xv prog w d g f2 n2 P2 S2)(m:Ap z TI TO f g f1 f2)
  (h:Vs s.heap z TI TO .none) (n:SV s.heap TI (.ref f) (.ref g)) (p:SV s.heap TO a b) (q:S1 k s.heap) (r:S2 k s.heap) (k1:k=n1\/(k<n1/\k=n2))
  (t:∀h' i,(∀c o,c≠z->c≠TO->c≠f->c≠g->s.heap.get? c=My o->h'.get? c=My o)->Q Po {s with heap:=h',toks:=i}):PY (Qk prog w) A (Uq (.ref z)) Q E s:=by
 have ty:s.TypeIs (.ref z) "zip":=⟨_,h,rfl⟩;unfold Uq;refine Pn (UJ (wpAny_callSpecial?_slot (name:=Qv "__next__") ty VN (QO VN ty F.entry_zip_next (BK (j _ rfl) (l _ rfl) m h n p q r k1 λh' e i u v=>?_) (F.args_zip_next_1 _))));obtain⟨o,y,B⟩:=v;refine Pn (Sm (T:="StopIteration") (b:=Pt) ⟨o,y,B⟩ Yg ?_);exact Pq (t _ _ u)
end
def Src(b:Bool)(h:Q0)(a:PD)(its:Array PH):Prop:=if b=Pt then h.IsList a its else h.IsTuple a its
noncomputable def IN(b:Bool):String:=if b=Pt then "list_iterator"else "tuple_iterator"
noncomputable abbrev pk(b:Bool)(a:PD):Qn:={cls:= .type (IN b),data:= .fields #[.ref a,.int 0 0]}
def gh(b:Bool)(h:Q0)(it a:PD)(k:Nat):Prop:=if b=Pt then h.IsListIter it a k else h.IsTupleIter it a k
section
variable{prog:Qu}{w:QH}{A:QU}{E:PH->PM->Prop}{s:PM}
theorem Src.keep{b:Bool}{h h':Q0}(x:Src b h a its)(k:∀o,h.get? a=My o->h'.get? a=My o):Src b h' a its:=by
 unfold Src at x⊢;split at x
 ·rename_i q;rw[PP q];exact x.at λo e=>k o e
 ·rename_i q;rw[PL q]
  obtain⟨o,e,r⟩:=x;exact⟨o,k o e,r⟩
theorem oW{b:Bool}(x:Src b s.heap a its)(h:Q (.ref s.heap.objs.size) {s with heap:=s.heap.push (pk b a)}):PY (Qk prog w) A (Wh (.ref a)) Q E s:=by
 cases b with
 |true=>exact Vv (show s.heap.IsList a its from x) h
 |false=>exact WL (show s.heap.IsTuple a its from x) h
theorem sQ(b:Bool)(c:A.handled=Po)(it a:PD)(ne:a≠it)(its:Array PH):Xv prog w A it [it,a] its.size (λi v=>its[i]?=My v) (λi h=>gh b h it a i/\Src b h a its):=by
 cases b with
 |true=>exact Yx c it a ne its
 |false=>exact Pi c it a ne its
abbrev zH1(b1:Bool)(h:Q0)(l1:PD):Q0:=h.push (pk b1 l1)
abbrev zH2(b1 b2:Bool)(h:Q0)(l1 a:PD):Q0:=(zH1 b1 h l1).push (pk b2 a)
abbrev zH3(b1 b2:Bool)(h:Q0)(l1 a:PD):Q0:=(zH2 b1 b2 h l1 a).push {cls:= .type "tuple",data:= .seq #[.ref h.objs.size,.ref (zH1 b1 h l1).objs.size]}
abbrev zH4(b1 b2:Bool)(h:Q0)(l1 a:PD):Q0:=(zH3 b1 b2 h l1 a).push {cls:= .type "tuple",data:= .seq #[.none,.none]}
abbrev zH5(b1 b2:Bool)(h:Q0)(l1 a:PD):Q0:=(zH4 b1 b2 h l1 a).push {cls:= .type "zip",data:= .fields #[.none,.bool Pz,.bool Pz,.ref (zH2 b1 b2 h l1 a).objs.size,.ref (zH3 b1 b2 h l1 a).objs.size]}
theorem xv(b1 b2:Bool)(l1 a:PD)(xs ys:Array PH):
  Meets (Builtin.«zip.__new__» ⟨[.type "zip",.ref l1,.ref a],[]⟩) (λ_ R s=>Src b1 s.heap l1 xs/\Src b2 s.heap a ys/\R (.ok (.ret (.ref (zH4 b1 b2 s.heap l1 a).objs.size))) {s with heap:=zH5 b1 b2 s.heap l1 a}):=
 .of_wp λprog w A R s h=>by
  obtain⟨b,g,d,c,os⟩:=s;obtain⟨i,j,q⟩:=h;have f:=sub_zip;have k:Src b1 (Shared.heap ⟨b,g,d,c,os⟩) l1 xs:=i;have l:Src b2 (Shared.heap ⟨b.push (pk b1 l1),g,d,c,os⟩) a ys:=j.keep λo e=>Pr _ e
  wp_walk using oW k,oW l
  exact⟨_,rfl,q⟩
theorem AQ{b1 b2:Bool}(q:Src b1 s.heap l1 xs)(r:Src b2 s.heap l2 ys)
  (h:∀h',Vs h' (s.heap.objs.size+4) (s.heap.objs.size+2) (s.heap.objs.size+3) .none->SV h' (s.heap.objs.size+2) (.ref s.heap.objs.size) (.ref (s.heap.objs.size+1))->SV h' (s.heap.objs.size+3) .none .none->gh b1 h' s.heap.objs.size l1 0->gh b2 h' (s.heap.objs.size+1) l2 0->h'.objs.size=s.heap.objs.size+5->(∀c o,s.heap.get? c=My o->h'.get? c=My o)->Q (.ref (s.heap.objs.size+4)) {s with heap:=h'}):
  PY (Qk prog w) A (VD (.type "zip") [.ref l1,.ref l2]) Q E s:=by
 refine callType_new F.called_zip (by decide) (F.typeCall_zip_2 _ _) (F.newCall_zip_2 _ _) (λobj=>F.args_object_init_3 obj _ _) F.entry_zip_new (xv b1 b2 l1 l2 xs ys) ⟨q,r,?_⟩;have f:(zH1 b1 s.heap l1).objs.size=s.heap.objs.size+1:=Q9 ..;have g:(zH2 b1 b2 s.heap l1 l2).objs.size=s.heap.objs.size+2:=by rw[Q9,f]
 have i:(zH3 b1 b2 s.heap l1 l2).objs.size=s.heap.objs.size+3:=by rw[Q9,g]
 have j:(zH4 b1 b2 s.heap l1 l2).objs.size=s.heap.objs.size+4:=by rw[Q9,i]
 have t:(zH5 b1 b2 s.heap l1 l2).objs.size=s.heap.objs.size+5:=by rw[Q9,j]
 have k:(zH5 b1 b2 s.heap l1 l2).get? (zH4 b1 b2 s.heap l1 l2).objs.size=My _:=P4 _ rfl;have l:(zH5 b1 b2 s.heap l1 l2).get? (zH3 b1 b2 s.heap l1 l2).objs.size=My _:=Pr _ (P4 _ rfl);have m:(zH5 b1 b2 s.heap l1 l2).get? (zH2 b1 b2 s.heap l1 l2).objs.size=My _:=Pr _ (Pr _ (P4 _ rfl));have n:(zH5 b1 b2 s.heap l1 l2).get? (zH1 b1 s.heap l1).objs.size=My _:=Pr _ (Pr _ (Pr _ (P4 _ rfl)));have u:(zH5 b1 b2 s.heap l1 l2).get? s.heap.objs.size=My _:=Pr _ (Pr _ (Pr _ (Pr _ (P4 _ rfl))));show _/\_;rw[g,i,j]at k;rw[f,g]at m;rw[i]at l;rw[f]at n;rw[j];have d:∀(b:Bool) (h':Q0) (p a:PD),h'.get? p=My (pk b a)->gh b h' p a 0:=λb h' p a e=>by
  cases b with
  |true=>exact⟨_,e,rfl,rfl⟩
  |false=>exact⟨_,e,rfl,rfl⟩
 exact⟨⟨_,k,rfl⟩,h _ k m l (d _ _ _ _ u) (d _ _ _ _ n) t λc o x=>Pr _ (Pr _ (Pr _ (Pr _ (Pr _ x))))⟩
end
def SqS(b:Bool)(K:P6)(H:Hp)(a:PD)(xs:List V):Prop:=if b=Pt then SqL K H a xs else SqT K H a xs
noncomputable def Itz(b1 b2:Bool)(K:P6)(l1 a:PD):It:=
 ⟨λi H=>∃xs ys x y,SqS b1 K H l1 xs/\SqS b2 K H a ys/\xs[i]?=My x/\ys[i]?=My y,
  λi H v b=>∃p x y,H p=Po/\v= .ref p/\b=upd H p (.tup [x,y])/\∀xs ys,SqS b1 K H l1 xs->SqS b2 K H a ys->xs[i]?=My x/\ys[i]?=My y,
  λi H=>∃xs ys,SqS b1 K H l1 xs/\SqS b2 K H a ys/\(xs.length=i\/(i<xs.length/\ys.length=i))⟩
section
variable{X:Cx}{pins:List (PD×Qn)}{σ:St}{H:Hp}{s:PM}
theorem Inv.src{b:Bool}(I:Inv X pins σ H s)(h:SqS b X.K H a xs):∃its:List PH,ar xs its/\Src b s.heap a its.toArray:=by
 cases b with
 |true=>
  obtain⟨its,r,p,_⟩:=I.list (show SqL X.K H a xs from h);exact⟨its,r,p.isList⟩
 |false=>
  obtain⟨its,r,p,_⟩:=I.tuple (show SqT X.K H a xs from h);exact⟨its,r,p⟩
theorem Inv.src_inj{b:Bool}(I:Inv X pins σ H s)(h:SqS b X.K H a xs)(h':SqS b X.K H a ys):xs=ys:=by
 cases b with
 |true=>exact I.list_inj (show SqL X.K H a xs from h) h'
 |false=>exact I.tuple_inj (show SqT X.K H a xs from h) h'
theorem gh.get{b:Bool}{h:Q0}(x:gh b h it a k):∃o,h.get? it=My o/\o.cls= .type (IN b)/\∃fs,o.data= .fields fs:=by
 cases b with
 |true=>obtain⟨o,e,c,d⟩:=(show h.IsListIter it a k from x);exact⟨o,e,c,_,d⟩
 |false=>obtain⟨o,e,c,d⟩:=(show h.IsTupleIter it a k from x);exact⟨o,e,c,_,d⟩
theorem gh.keep{b:Bool}{h h':Q0}(x:gh b h it a k)(q:∀o,h.get? it=My o->h'.get? it=My o):gh b h' it a k:=by
 cases b with
 |true=>exact(show h.IsListIter it a k from x).at λo e=>q o e
 |false=>exact(show h.IsTupleIter it a k from x).at λo e=>q o e
theorem Inv.turnNew{h':Q0}{t':Nat}{ch:List PD}{p:PD}{o:HO}(I:Inv X pins σ H s)(a:∀b∈ch,eW X pins H b)(k:∀b u,b∉ch->s.heap.get? b=My u->h'.get? b=My u)(d:s.heap.objs.size<=p)(new:bP X.prog X.w (upd H p o) h' p o):Inv X pins σ (upd H p o) {s with heap:=h',toks:=t'}:=by
 have hn:H p=Po:=I.hok.fresh d;have nt:∀b u,H b=My u->b∉ch:=λb u e z=>by rw[(a b z).1]at e;cases e
 refine I.call' (s':={s with heap:=h',toks:=t'}) (ch:=ch) rfl ⟨λb u e _ _ hc=>k b u hc e,λb u e _ _ hc=>⟨u.slots,k b u hc e⟩,λb u e z hc=>?_,λb u e hc=>⟨u,k b u hc e⟩,λb ys e=>?_,λb u ys e=>?_,λb ys e=>⟨#[],?_⟩⟩ (λb u e=>?_) I.bare λb f=>?_
 ·rw[upd_ne (QK (Qm (Qj e) d))];exact z
 ·rw[upd_ne (ne_of_none e hn)];exact e
 ·rw[upd_ne (ne_of_none e hn)];exact e
 ·rw[upd_ne (ne_of_none e hn),e];simp
 ·by_cases z:b=p
  ·subst z;rw[af]at e;cases e;exact new
  ·rw[upd_ne z]at e
   refine(I.hok b u e).stay (λc v hc q=>k c v ?_ q) (λc q=>by rw[upd_ne (ne_of_none q hn)];exact q) λc xs q=>by rw[upd_ne (ne_of_none q hn)];exact q
   rcases hc with rfl|hc
   ·exact nt _ _ e
   ·exact nt _ _ hc
 ·obtain⟨j,f1,f2,g,h,i⟩:=a b f
  exact⟨g,f1,h,i⟩
theorem Inv.turnL{h':Q0}{ch:List PD}(I:Inv X pins σ H s)(a:∀b∈ch,eW X pins H b)(k:∀b u,b∉ch->s.heap.get? b=My u->h'.get? b=My u):Inv X pins σ H {s with heap:=h',toks:=t'}:=by
 have nt:∀b u,H b=My u->b∉ch:=λb u e z=>by rw[(a b z).1]at e;cases e
 refine I.call' (s':={s with heap:=h',toks:=t'}) (ch:=ch) rfl ⟨λb u e _ _ hc=>k b u hc e,λb u e _ _ hc=>⟨u.slots,k b u hc e⟩,λb u e z hc=>z,λb u e hc=>⟨u,k b u hc e⟩,λb ys e=>e,λb u ys e=>e,λb ys e=>⟨#[],by rw[e];simp⟩⟩ (λb u e=>?_) I.bare λb d=>?_
 ·refine(I.hok b u e).stay (λc v hc q=>k c v ?_ q) (λc q=>q) λc xs q=>q
  rcases hc with rfl|hc
  ·exact nt _ _ e
  ·exact nt _ _ hc
 ·obtain⟨i,f1,f2,f,g,h⟩:=a b d
  exact⟨f,f1,g,h⟩
theorem Inv.src_ne{b:Bool}(I:Inv X pins σ H s)(h:SqS b X.K H a xs)(f:eW X pins H c):a≠c:=by
 obtain⟨i,f1,f2,f3,j,k⟩:=f;have d:∀o,X.K.lookup a=My o->a≠c:=λo e z=>by
  have g:=I.ok.mod.kin a o e;subst z;rcases f3 with f3|f3
  ·exact I.ok.noex a o g f3
  ·exact Ql (Qm (Qj (I.ok.bs a o g).1) f3) (QS _)
 have rd:∀u,Rd H a u->a≠c:=λu r z=>by
  subst z;rcases r with r|⟨_,r⟩<;>rw[i]at r<;>cases r
 cases b with
 |true=>
  rcases(show SqL X.K H a xs from h)with h|⟨o,_,_,e,_⟩
  ·exact rd _ h
  ·exact d o e
 |false=>
  rcases(show SqT X.K H a xs from h)with h|⟨o,_,_,e,_⟩
  ·exact rd _ h
  ·exact d o e
end
theorem BQ{K:P6}{x1}(b1 b2:Bool)(l1 B z TI TO f g:PD)(nd:[z,TI,TO,f,g].Nodup):
  Turn P w K (.Tuple elts x1 pos) (Itz b1 b2 K l1 B) [z,TI,TO,f,g] z (λi h=>Vs h z TI TO .none/\SV h TI (.ref f) (.ref g)/\(∃a b,SV h TO a b)/\gh b1 h f l1 i/\gh b2 h g B i) where
 mem:=by simp
 obj:=λi h st b j=>by
  obtain⟨p,r,⟨a,b',C⟩,F,J⟩:=st;simp only[PZ,Rl,Ub]at j;rcases j with rfl|rfl|rfl|rfl|rfl
  ·exact⟨_,p,λv q=>by cases q⟩
  ·exact⟨_,r,λv q=>by cases q⟩
  ·exact⟨_,C,λv q=>by cases q⟩
  ·obtain⟨o,e,_,fs,d⟩:=F.get
   exact⟨o,e,λv q=>by rw[d]at q;cases q⟩
  ·obtain⟨o,e,_,fs,d⟩:=J.get
   exact⟨o,e,λv q=>by rw[d]at q;cases q⟩
 keep:=λi h h' st k=>by
  obtain⟨p,r,⟨a,b',C⟩,F,J⟩:=st;exact⟨k z (by simp) _ p,k TI (by simp) _ r,⟨a,b',k TO (by simp) _ C⟩,F.keep λo e=>k f (by simp) o e,J.keep λo e=>k g (by simp) o e⟩
 item:=by
  intro X hP hw hK n i L s σ H E I N st hg;subst hP hw hK;obtain⟨xs,ys,x,y,q1,q2,hx,hy⟩:=hg;obtain⟨p,r,⟨a,b',C⟩,F,J⟩:=st;obtain⟨l,r1,p1⟩:=Inv.src I q1;obtain⟨m,r2,p2⟩:=Inv.src I q2;have hd:=I.ok.hd n;simp only[QC,PZ,Rl,Ub,not_or]at nd;obtain⟨⟨W,z2,T,U⟩,⟨t1,t2,t3⟩,⟨Y,o2⟩,Q,_⟩:=nd;have t:∀c∈[z,TI,TO,f,g],l1≠c:=λc n=>Inv.src_ne I q1 (N c n);have A:∀c∈[z,TI,TO,f,g],B≠c:=λc n=>Inv.src_ne I q2 (N c n);have ap:Ap z TI TO f g [f,l1] [g,B]:=⟨Ne.symm W,Ne.symm z2,Ne.symm T,Ne.symm U,t1,t2,t3,Y,o2,Q,by simp[T,(t z (by simp)).symm],by simp[Y,(t TO (by simp)).symm],by simp[Ne.symm Q,(t g (by simp)).symm],by simp[U,(A z (by simp)).symm],by simp[o2,(A TO (by simp)).symm],by simp[Q,(A f (by simp)).symm],by simp,by simp⟩;have k1:i<l.toArray.size:=by
   rw[Qa,←r1.length];exact(PU.mp hx).1
  have k2:i<m.toArray.size:=by
   rw[Qa,←r2.length];exact(PU.mp hy).1
  refine yi (λA' h'=>sQ b1 (h'.trans hd) f l1 (t f (by simp)) l.toArray) (λA' h'=>sQ b2 (h'.trans hd) g B (A g (by simp)) m.toArray) ap p r C ⟨F,p1⟩ ⟨J,p2⟩ k1 k2 λh' tk u v pu pv fz fO f1 f2 fT sz kp=>?_;refine⟨_,rfl,wpAny_letOwnedTupleGo_zip (s:={s with heap:=h',toks:=tk}) fz λR Z O=>?_⟩
  replace O:Qr z h' R:=O
  have zT:s.heap.objs.size≠z:=Se (Qj p);obtain⟨u',hu,ru⟩:=r1.get hx;obtain⟨v',hv,rv⟩:=r2.get hy;have eu:u=u':=by
   have:l[i]?=My u:=by simpa using pu
   rw[this]at hu;exact Qo hu
  have ev:v=v':=by
   have:m[i]?=My v:=by simpa using pv
   rw[this]at hv;exact Qo hv
  subst eu ev;have kk:∀b o,b∉[z,TI,TO,f,g]->s.heap.get? b=My o->R.get? b=My o:=λb o j e=>by
   simp only[PZ,Rl,Ub,not_or]at j;exact O.extBut b o j.1 (kp b o j.1 j.2.2.1 j.2.2.2.1 j.2.2.2.2 e)
  have I2:Inv X L σ (upd H s.heap.objs.size (.tup [x,y])) {s with heap:=R,toks:=tk}:=by
   refine Inv.turnNew I N kk (PN _) ⟨by show 2<=P0;decide,[u,v],.cons ru (.cons rv .nil),_,O.extBut _ _ zT fT,rfl,_,rfl⟩
  refine⟨.ref s.heap.objs.size,_,I2,rfl,⟨s.heap.objs.size,x,y,I.hok.fresh (PN _),rfl,rfl,λas bs h1 h2=>⟨by rw[Inv.src_inj I h1 q1];exact hx,by rw[Inv.src_inj I h2 q2];exact hy⟩⟩,⟨Z,?_,⟨u,v,?_⟩,?_,?_⟩,λb j=>?_⟩
  ·exact O.extBut _ _ (Ne.symm W) (kp TI _ (Ne.symm W) t1 t2 t3 r)
  ·exact O.extBut _ _ (Ne.symm z2) fO
  ·exact f1.1.keep λo e=>O.extBut _ _ (Ne.symm T) e
  ·exact f2.1.keep λo e=>O.extBut _ _ (Ne.symm U) e
  ·rw[upd_ne]
   ·exact(N b j).1
   ·intro q
    have ol:∃o,s.heap.get? b=My o:=by
     simp only[PZ,Rl,Ub]at j;rcases j with rfl|rfl|rfl|rfl|rfl
     ·exact⟨_,p⟩
     ·exact⟨_,r⟩
     ·exact⟨_,C⟩
     ·obtain⟨o,e,_⟩:=F.get;exact⟨o,e⟩
     ·obtain⟨o,e,_⟩:=J.get;exact⟨o,e⟩
    obtain⟨o,e⟩:=ol;exact Ql (Qj e) (by rw[q];exact QS _)
 done:=by
  intro X hP hw hK n i L s σ H E I N st hg;subst hP hw hK;obtain⟨xs,ys,q1,q2,hl⟩:=hg;obtain⟨p,r,⟨a,b',C⟩,F,J⟩:=st;obtain⟨l,r1,p1⟩:=Inv.src I q1;obtain⟨m,r2,p2⟩:=Inv.src I q2;have hd:=I.ok.hd n;simp only[QC,PZ,Rl,Ub,not_or]at nd;obtain⟨⟨W,z2,T,U⟩,⟨t1,t2,t3⟩,⟨Y,o2⟩,Q,_⟩:=nd;have t:∀c∈[z,TI,TO,f,g],l1≠c:=λc n=>Inv.src_ne I q1 (N c n);have A:∀c∈[z,TI,TO,f,g],B≠c:=λc n=>Inv.src_ne I q2 (N c n);have ap:Ap z TI TO f g [f,l1] [g,B]:=⟨Ne.symm W,Ne.symm z2,Ne.symm T,Ne.symm U,t1,t2,t3,Y,o2,Q,by simp[T,(t z (by simp)).symm],by simp[Y,(t TO (by simp)).symm],by simp[Ne.symm Q,(t g (by simp)).symm],by simp[U,(A z (by simp)).symm],by simp[o2,(A TO (by simp)).symm],by simp[Q,(A f (by simp)).symm],by simp,by simp⟩;have g1:l.toArray.size=xs.length:=by rw[Qa,←r1.length]
  have g2:m.toArray.size=ys.length:=by rw[Qa,←r2.length]
  refine BJ (λA' h'=>sQ b1 (h'.trans hd) f l1 (t f (by simp)) l.toArray) (λA' h'=>sQ b2 (h'.trans hd) g B (A g (by simp)) m.toArray) ap p r C ⟨F,p1⟩ ⟨J,p2⟩ ?_ λh' tk kp=>⟨rfl,Inv.turnL I N λb o j e=>?_⟩
  ·rw[g1,g2]
   rcases hl with hl|⟨h1,h2⟩
   ·exact .inl hl.symm
   ·exact .inr ⟨h1,h2.symm⟩
  ·simp only[PZ,Rl,Ub,not_or]at j
   exact kp b o j.1 j.2.2.1 j.2.2.2.1 j.2.2.2.2 e
 self:=λ_ _ _ _ _ st h=>wpAny_pyIter_zip st.1 h
section
variable{X:Cx}{E:St->XK}{K:P6}
def iZp(K:P6)(c:TA):TI:=λd H R=>c d H λvs a=>∃b1 b2 l1 b xs ys,vs=[.ref l1,.ref b]/\SqS b1 K a l1 xs/\SqS b2 K a b ys/\R (Itz b1 b2 K l1 b) a
theorem LY{x1}(w:Gl X "zip")(hm:X.mg "zip"=Po)(ha:PA X [a,b] ta)(hs:PX [a,b] X.env=[(Pz,QW a X.env),(Pz,QW b X.env)]:=by rfl)(g:PX [b] X.env=[(Pz,QW b X.env)]:=by rfl):
  PI X (.Tuple elts x1 tpos) (.Call (.Name "zip" p) [a,b] [] pos) (iZp X.K ta):=by
 intro f s n H R I h;refine Call_ (f8 I w hm PyProof.Rows.Boot.«zip» (Rr (thn (ha pos f s n H _ I h) λus d ⟨vs,o,i,r1,q1⟩=>?_) (by rw[hs,g]) (by rw[g];rfl)));obtain⟨b1,b2,l1,t,xs,ys,e,q1,q2,q⟩:=q1;subst e;cases r1 with
 |cons r k=>
  cases k with
  |cons y k=>
   cases k;cases r;cases y;obtain⟨A,O,B⟩:=Inv.src i q1;obtain⟨C,P,F⟩:=Inv.src i q2;refine AQ B F λh' u J L l m sz kp=>?_;refine wpAny_pyIter_zip (s:={d with heap:=h'}) u ?_;have N:Inv X f n o {d with heap:=h'}:=i.kept (t':=d.toks) kp;refine⟨_,[d.heap.objs.size+4,d.heap.objs.size+2,d.heap.objs.size+3,d.heap.objs.size,d.heap.objs.size+1],_,Itz b1 b2 X.K l1 t,o,rfl,N,BQ b1 b2 l1 t (d.heap.objs.size+4) (d.heap.objs.size+2) (d.heap.objs.size+3) d.heap.objs.size (d.heap.objs.size+1) (by simp),⟨u,J,⟨_,_,L⟩,l,m⟩,λc v=>?_,q⟩;have j:d.heap.objs.size<=c:=by
    simp only[PZ,Rl,Ub]at v;rcases v with rfl|rfl|rfl|rfl|rfl
    ·exact Tt _ _
    ·exact Tt _ _
    ·exact Tt _ _
    ·exact PN _
    ·exact Tt _ _
   exact i.fpOk j (i.hok.fresh j)
noncomputable def dS:List D->List D->List D
 |x::xs,y::ys=> .tup [x,y]::dS xs ys
 |_,_=>[]
theorem sY:∀(xs ys:List D),(dS xs ys).length=Ve xs.length ys.length
 |[],ys=>by simp[dS]
 |x::xs,[]=>by simp[dS]
 |x::xs,y::ys=>by
  show(dS xs ys).length+1=_;rw[sY xs ys,Qd,Qd];omega
theorem sZ:∀{xs ys:List D} {i:Nat} {d:D},(dS xs ys)[i]?=My d->∃x y,xs[i]?=My x/\ys[i]?=My y/\d= .tup [x,y]
 |[],ys,i,d,h=>by simp[dS]at h
 |x::xs,[],i,d,h=>by simp[dS]at h
 |x::xs,y::ys,0,d,h=>by
  simp[dS]at h;exact⟨x,y,rfl,rfl,h.symm⟩
 |x::xs,y::ys,i+1,d,h=>by
  have h':(dS xs ys)[i]?=My d:=by simpa[dS]using h
  obtain⟨a,b,c,e,f⟩:=sZ h';exact⟨a,b,by simpa using c,by simpa using e,f⟩
def BL:List D->Option (List D)
 |[a,b]=>(fj a).bind λxs=>(fj b).map λys=>dS xs ys
 |_=>Po
theorem Den.sqS(h:Den K F H d v)(e:fj d=My ds):∃b a,v= .ref a/\∀f c,Tr F H f c->∃xs,SqS b K c a xs/\DenL K f c ds xs:=by
 cases d<;>first
  |(cases e;obtain⟨a,xs,rfl,_⟩:=Den.sqL h;refine⟨Pt,a,rfl,λf c t=>?_⟩;obtain⟨i,ys,g,sq,dl⟩:=Den.sqL (Den.tr t _ _ h);cases g;exact⟨ys,sq,dl⟩)
  |(cases e;obtain⟨a,xs,rfl,_⟩:=Den.sqT h;refine⟨Pz,a,rfl,λf c t=>?_⟩;obtain⟨i,ys,g,sq,dl⟩:=Den.sqT (Den.tr t _ _ h);cases g;exact⟨ys,sq,dl⟩)
  |cases e
theorem KM{b1 b2:Bool}(n:∀b a,Tr F H b a->∃xs,SqS b1 K a l1 xs/\DenL K b a ds xs)(o:∀b a,Tr F H b a->∃xs,SqS b2 K a l2 xs/\DenL K b a es xs):ItD K (Itz b1 b2 K l1 l2) F H (dS ds es):=λb a β2 t fr i=>by
 obtain⟨xs,c,d1⟩:=n b a t;obtain⟨ys,e,d2⟩:=o b a t;refine⟨λd hd=>?_,λq=>?_⟩
 ·obtain⟨x,y,f,g,rfl⟩:=sZ hd
  obtain⟨u,h,du⟩:=d1.get f;obtain⟨v,j,r⟩:=d2.get g;refine⟨⟨xs,ys,u,v,c,e,h,j⟩,λz B w=>?_⟩;obtain⟨p,C,I,k,rfl,rfl,A⟩:=w;obtain⟨l,m⟩:=A xs ys c e;rw[h]at l;rw[j]at m;cases l;cases m;exact⟨bB.upd k,Den.newT fr k (DenL.cons du (DenL.cons r DenL.nil))⟩
 ·rw[sY]at q
  have f:=d1.length;have g:=d2.length;refine⟨xs,ys,c,e,?_⟩;rw[←f,←g];omega
def DD(g:FL):FL:=cX BL g
theorem IQ{x1}(o:Gl X "zip")(hm:X.mg "zip"=Po)(ha:PA X [a,b] (tVA X.K g E))(hs:PX [a,b] X.env=[(Pz,QW a X.env),(Pz,QW b X.env)]:=by rfl)(i:PX [b] X.env=[(Pz,QW b X.env)]:=by rfl):
  PI X (.Tuple elts x1 tpos) (.Call (.Name "zip" p) [a,b] [] pos) (iV X.K (DD g) E):=
 (LY o hm ha hs i).imp λC H R j=>ex6 j λF δ β fr q h=>⟨F,δ,β,fr,q,(run.bind (R:=DenL X.K F) h).mono λvs f j=>by
  obtain⟨ds,β1,t,hd,r1⟩:=j;obtain⟨l,e,k⟩:=run.ofO r1;unfold BL at e;split at e
  ·rename_i c d
   obtain⟨v,I,rfl,r,u⟩:=DenL.two hd;cases q1:fj c with
   |none=>rw[q1]at e;cases e
   |some xs=>
    cases q2:fj d with
    |none=>rw[q1,q2]at e;cases e
    |some ys=>
     rw[q1,q2]at e;cases e;obtain⟨b1,l1,rfl,m⟩:=Den.sqS r q1;obtain⟨b2,w,rfl,n⟩:=Den.sqS u q2;obtain⟨us,y,_⟩:=m F f (Tr.refl F f);obtain⟨A,B,_⟩:=n F f (Tr.refl F f);exact⟨b1,b2,l1,w,us,A,rfl,y,B,k _ f (To.refl t.fr) (KM m n)⟩
  ·cases e⟩
end
def jV(K:P6)(f:Dn->M Unit)(c:Nat)(E:St->XK):TJ:=λa H n Q=>n+c<=P0/\∃F δ β,Fr F H β/\VOk K F H δ a/\run (λ_ (_:Unit) (m:Nat)=>m<=n+c) F E a (f δ) H Q β
theorem _root_.L2.PJ.imp(h:PJ X es t)(f:∀a H n Q,t' a H n Q->t a H n Q):PJ X es t':=λb s a H acc Q I c d=>h b s a H acc Q I c (f a H _ _ d)
def O0:Dn->M Unit:=λ_=>M.ret ()
def O1(f:FD)(g:Dn->M Unit):Dn->M Unit:=λδ=>M.bind (f δ) λd=>match d with
 | .int i=>if i.natAbs.log2<1920 then g δ else M.fail
 |_=>M.fail
section
variable{X:Cx}{E:St->XK}{es:List Expr}{K:P6}
theorem iz:PJ X [] (jV X.K O0 0 E):=LW.imp λb H n Q a=>by obtain⟨_,F,δ,β,fr,c,r⟩:=a;exact run.ret fr r (PN _)
theorem cm{x:Qz}(h:PJ X es (jV X.K g c E))(b:Vi (.Constant (.str x) j p::es) X.env=QW (.Constant (.str x) j p) X.env::Vi es X.env:=by rfl):PJ X (.Constant (.str x) j p::es) (jV X.K g (x.length+c) E):=
 (LV h b).imp λl H n Q d=>by
  obtain⟨o,F,δ,β,fr,f,r,a,e,k⟩:=d;exact⟨by omega,by omega,F,δ,β,fr,f,r,a,e,by
   cases r with
   |ok u=>exact λm i t hm=>k m i t (by omega)
   |error C=>exact k⟩
theorem c9(l:PE X v (tV X.K f E))(h:PJ X es (jV X.K g c E))(o:Vi (.FormattedValue v (-1) Po p::es) X.env=QW (.FormattedValue v (-1) Po p) X.env::Vi es X.env:=by rfl):PJ X (.FormattedValue v (-1) Po p::es) (jV X.K (O1 f g) (1921+c) E):=
 (LX l h o).imp λI H n Q ⟨J,F,δ,β,fr,j,r⟩=>⟨F,δ,β,fr,j,(run.bind (R:=Den X.K F) r).mono λv L w=>by
  obtain⟨d,β1,t,hd,r1⟩:=w;cases d with
  |int i=>
   by_cases q:i.natAbs.log2<1920
   ·simp only[PP q]at r1
    refine⟨i,hd,q,by omega,λm hm=>⟨by omega,F,δ,β1,t.fr,j.tr (t.tr fr),?_⟩⟩;obtain⟨b,a,e,k⟩:=r1;refine⟨b,a,e,?_⟩;cases b with
    |ok u=>exact λy A t' B=>k y A t' (by omega)
    |error C=>exact k
   ·simp only[PL q]at r1
    obtain⟨b,a,e,k⟩:=r1;cases e
  |_=>obtain⟨b,a,e,k⟩:=r1;cases e⟩
def Pd(f:Dn->M Unit):FD:=λδ=>M.bind (f δ) λ_=>M.ret .txt
theorem fU(h:PJ X (v1::v2::rest) (jV X.K f c E))(e:c<=P0):PE X (.JoinedStr (v1::v2::rest) pos) (tV X.K (Pd f) E):=
 (Ko h).imp λg H Q a=>ex6 a λF δ β fr b r=>⟨by omega,F,δ,β,fr,b,(run.bind (R:=λ_ (_:Unit) (m:Nat)=>m<=0+c) r).mono λm i a=>ex5 a λd β1 t hd r1=>⟨by omega,λz j=>run.ret t.fr r1 ⟨z,rfl⟩⟩⟩
def oB(C:PD)(n:Nat):Sp:=λvs H Q _=>∃(x:PD) (rest:List V),vs= .ref x::rest/\rest.length=n/\H x=My (dE C x Po)/\
 ∀(dx:Option PD) (a:Hp),a x=My (dE C x dx)->(∀b o,H b=My o->b≠x->a b=My o)->Q .non a
noncomputable def z7(C:PD)(f:FL):G:=λδ β=>match f (vwA δ) β with
 |some (.ok _,β1)=>My (.ex C δ,β1)
 |some (.error C',β1)=>My (.ex C' δ,β1)
 |none=>Po
end
section
variable{P:Qu}{w:QH}{K:P6}{mg:Qz->Option PH}{base:Q0}{N:List Qz}{qual:Qz}{scope:Scope}{f:PD}{cd:PH}{A:QU}{outer:List WN}{s:PM}{H:Hp}{E:XK}
theorem dh(xc:XC K C)(hn:∀δ β r c,g δ β=My (.ok r,c)->r.length=n)(v:n<=P0)
  (h:PS (c7 (CXE P w) P w K mg base N qual scope f cd A outer s H E) (.Raise (My e) Po pos) (yD H K E (Lp C (oB C n) [] E' (tVA K g (λ_=>E))))):
  PS (c7 (CXE P w) P w K mg base N qual scope f cd A outer s H E) (.Raise (My e) Po pos) (tG K H (z7 C g) (λ_=>E)):=h.imp λD y T F=>by
 obtain⟨B,bg,δ,β,o,c,ok,e,q⟩:=F;refine⟨FxA B bg,vwA δ,β,ok.frA,ok.viewA,?_⟩;unfold z7 at e;split at e
 ·rename_i ds β1 d
  cases e;refine⟨.ok ds,_,d,λvs I t hd=>?_⟩;obtain⟨a,i⟩:=ok.to rfl t;have m:vs.length=n:=by rw[←hd.length];exact hn _ _ _ _ d
  refine⟨by rw[m];exact v,λx p=>⟨x,vs++[],rfl,by rw[Qx];exact m,af,λdx j J L=>⟨rfl,x,C,dx,rfl,J,?_,xc,?_⟩⟩⟩
  ·cases O:H x with
   |none=>rfl
   |some o=>exact Ql p (a.cov x (by rw[O];simp))
  ·have sm:∀b o,I b=My o->fK j x b=My o:=λb o u=>by
    have k:b≠x:=ne_of_none u p;rw[iJ k];exact L b o (by rw[upd_ne k];exact u) k
   obtain⟨l,Q⟩:=a.to rfl (a.fr.same sm);exact q y B _ (i.trans Q) l
 ·rename_i R β1 d
  cases e;refine⟨.error R,_,d,λj t=>?_⟩;obtain⟨a,i⟩:=ok.to rfl t;exact q _ B j i a
 ·cases e
end
section
variable{X:Cx}{E:St->XK}{K:P6}
end
section
variable{X:Cx}{E:St->XK}{K:P6}{elt target iter:Expr}{ifs:List Expr}{rest:List RA}{scope:Scope}{pos:Uh}{Nc vars:List Qz}{caps:List Nat}{g:TG}{tb:PD->TB}
theorem aN:dG X [] (tVT X.K (λ_=>M.ret Pt) E0):=λa s b H Q I c=>by obtain⟨F,δ,β,fr,d,r⟩:=c;exact ue a s b H Q I (run.ret fr r rfl)
theorem sO(a:PT X c (tVT X.K t E0)):dG X [c] (tVT X.K t E0):=CM a
theorem bi(c:X.calm=Pt)(S:CmpScope X scope Nc vars caps)(d:PI X target iter (iV X.K it E))
  (e:∀(cl:List (Qz×PD)) (C:PD) (a:List PD) (s:PM) (H:Hp),PG (aE X Nc scope cl C a s H) target g/\dG (aE X Nc scope cl C a s H) ifs (tVT X.K tt E0)/\∀D,PB (aE X Nc scope cl C a s H) elt (⟨target,iter,ifs,0⟩::rest) scope pos 0 D (tb D))
  (f:cM X.K g tg) (i:dT tg) (j:∀D,mV X.K D (tb D) b) (hs:∀x,QR iter X.env x=R6 x:=by intro _;rfl):PE X (.ListComp elt (⟨target,iter,ifs,0⟩::rest) scope pos) (tV X.K (da vars.length caps it tg tt b) E):=
 (qf c S d e hs).imp λk H Q h=>tz f i j h
theorem tQ{a c:Uh}(j:X.N.Nodup)(d:X.N[i]?=My x)(k:Loc X.env.scope x)(l:X.calm=Pt)(S:CmpScope X scope Nc vars caps)(m:PI X target iter (iV X.K it E))
  (n:∀(cl:List (Qz×PD)) (C:PD) (f:List PD) (s:PM) (H:Hp),PG (aE X Nc scope cl C f s H) target g/\dG (aE X Nc scope cl C f s H) ifs (tVT X.K tt E0)/\∀D,PB (aE X Nc scope cl C f s H) elt (⟨target,iter,ifs,0⟩::rest) scope pos 0 D (tb D))
  (o:cM X.K g tg) (p:dT tg) (q:∀D,mV X.K D (tb D) b)
  (e:Ue (.ListComp elt (⟨target,iter,ifs,0⟩::rest) scope pos) (My (.Name x a)) c.line X.env=R6 Pt:=by rfl)
  (hs:∀x,QR iter X.env x=R6 x:=by intro _;rfl) (r:X.fn x=Pt\/X.env.scope.names.lookup x=My .local:=by first|exact .inl rfl|exact .inr rfl|assumption):
  PS X (.Assign [.Name x a] (.ListComp elt (⟨target,iter,ifs,0⟩::rest) scope pos) c) (tG X.K X.H₀ (gb i (da vars.length caps it tg tt b)) E):=
 aD ((vU j d k l S m n e hs r).imp λD t H h=>tz o p q h)
noncomputable def negD:D->Option D
 | .int i=>My (.int (-i))
 |_=>Po
theorem IJ:JB K (rU λi=> .int (-i)) negD:=λF H β Q d1 d b fr a e k=>by
 cases d1<;>first|(cases e;exact⟨_,a,k _ H (To.refl fr) rfl⟩)|cases e
noncomputable def BC:D->Option Int
 | .int i=>My i
 |_=>Po
noncomputable def nW(xs:List D)(lo a:Option Int):List D:=(xs.drop (HT.sIx xs.length 0 lo)).take (HT.sIx xs.length xs.length a-HT.sIx xs.length 0 lo)
def slD:D->Option Int->Option Int->Option D
 | .lst xs,lo,hi=>My (.lst (nW xs lo hi))
 | .scr ns,lo,hi=>My (.lst (nW (ns.map D.int) lo hi))
 |_,_,_=>Po
def sP(f:Option (FD)):Dn->M (Option Int):=λδ=>match f with
 |none=>M.ret Po
 |some g=>M.bind (g δ) λd=>M.bind (M.ofO (BC d)) λi=>M.ret (My i)
def fSl(f:FD)(lo a:Option (FD)):FD:=λδ=>M.bind (f δ) λd=>M.bind (sP lo δ) λl=>M.bind (sP a δ) λh=>M.ofO (slD d l h)
def yg(X:Cx)(e:Option Expr)(f:Option (FD))(E:St->XK):Prop:=PO X e (λc H Q=>∃F δ β,Fr F H β/\VOk X.K F H δ c/\run (λ_ (a b:Option Int)=>b=a) F E c (sP f δ) H Q β)
theorem zq:yg X Po Po E:=λa s b H Q I c=>by obtain⟨F,δ,β,fr,d,r⟩:=c;exact vW a s b H Q I (run.ret fr r rfl)
theorem zo(h:PE X e (tV X.K f E)):yg X (My e) (My f) E:=λa s c H Q I b=>ex6 b λF δ β fr j r=>vV h a s c H Q I ⟨F,δ,β,fr,j,(run.bind (R:=Den X.K F) r).mono λv l b=>by
  obtain⟨d,β1,t,hd,r1⟩:=b;obtain⟨i,e,k⟩:=run.ofO_bind r1;cases d<;>first|(cases e;exact⟨_,hd,run.ret t.fr k rfl⟩)|cases e⟩
theorem DenL.cut(h:DenL K F H ds vs)(lo a:Option Int):DenL K F H (nW ds lo a) (lY vs lo a):=by
 unfold nW lY;rw[h.length];exact(h.drop _).take _
theorem vt{lo y:Option Expr}{fl A:Option (FD)}(B:PE X e (tV X.K f E))(C:yg X lo fl E)(I:yg X y A E):PE X (.Subscript e (.Slice lo y Po p2) pos) (tV X.K (fSl f fl A) E):=
 (ug vI B C I).imp λN H Q o=>ex6 o λF δ β fr q r=>⟨F,δ,β,fr,q,(run.bind (R:=Den X.K F) r).mono λv O ⟨d,β1,t,hd,r1⟩=>
  ⟨F,δ,β1,t.fr,q.tr (t.tr fr),(run.bind (R:=λ_ (a b:Option Int)=>b=a) r1).mono λl P ⟨T,β2,n,u,J⟩=>
   ⟨F,δ,β2,n.fr,q.tr ((t.tr fr).trans (n.tr t.fr)),(run.bind (R:=λ_ (a b:Option Int)=>b=a) J).mono λh U o=>by
    obtain⟨h',β3,i,w,L⟩:=o;subst u w;obtain⟨c,e,k⟩:=run.ofO L;have j:=Den.tr ((n.tr t.fr).trans (i.tr n.fr)) _ _ hd;cases d<;>first
     |(cases e;obtain⟨a,xs,rfl,sq,dl⟩:=Den.sqL j;exact⟨a,xs,rfl,sq,λp m=>k _ _ (i.fr.upd _ m) (Den.newL i.fr m (dl.cut l h))⟩)
     |(cases e;obtain⟨a,rfl,sq⟩:=Den.scr j;exact⟨a,_,rfl,sq,λp m=>k _ _ (i.fr.upd _ m) (Den.newL i.fr m ((DenL.ofInts _).cut l h))⟩)
     |cases e⟩⟩⟩
end
def Bg.ok(β:Bg):Prop:=β.cells≠[]/\β.cells.length<=64/\(∀c∈β.cells,0<=c)/\0<=β.j
noncomputable def Bg.pos(β:Bg):Nat:=(β.i % (β.cells.length:Int)).toNat
def Bg.cell(β:Bg):Int:=β.cells.getD β.pos 0
noncomputable def Bg.nxt(β:Bg):Int:=(β.j+β.cell % 2147483629+77)*48271 % 2147483629
noncomputable def jr(β:Bg)(lot:Int):Int:=if 10^18<=β.cell then β.cell % lot else β.nxt/64 % lot
noncomputable def ku(β:Bg)(lot:Int):Bg:=if 10^18<=β.cell then⟨β.cells.set β.pos (β.cell/lot),β.i,β.j⟩else⟨β.cells,β.i+1,β.nxt⟩
open Classical in
def bX:List D->M D:=λds β=>match ds with
 |[.bag,.int lot]=>if β.ok/\0<lot/\lot<1073741824 then My (RM (D.int (jr β lot)),ku β lot)else Po
 |_=>Po
theorem DI{β:Bg}(h:β.ok)(a:0<lot)(b:lot<1073741824):bX [.bag,.int lot] β=My (.ok (.int (jr β lot)),ku β lot):=by
 unfold bX;exact PP ⟨h,a,b⟩
theorem zD{β:Bg}(h:bX ds β=My (r,β')):∃lot,ds=[.bag,.int lot]/\β.ok/\0<lot/\lot<1073741824/\r= .ok (.int (jr β lot))/\β'=ku β lot:=by
 unfold bX at h;split at h
 ·split at h
  ·rename_i lot q
   cases h;exact⟨lot,rfl,q.1,q.2.1,q.2.2,rfl,rfl⟩
  ·cases h
 ·cases h
theorem Bg.ok.at{β:Bg}(h:β.ok):β.pos<β.cells.length/\β.cells[β.pos]?=My β.cell/\0<=β.cell/\β.i % (β.cells.length:Int)=(β.pos:Int):=by
 obtain⟨c1,c2,c3,b⟩:=id h;have c:0<β.cells.length:=List.length_pos_iff.mpr c1;have a1:0<=β.i % (β.cells.length:Int):=Uy _ (by omega);have a2:β.i % (β.cells.length:Int)<β.cells.length:=UT _ (by omega);have a:β.pos<β.cells.length:=by unfold Bg.pos;omega
 have e:β.cell=β.cells[β.pos]:=by
  unfold Bg.cell;rw[Px,Pw a];rfl
 refine⟨a,by rw[e];exact Pw a,by rw[e];exact c3 _ (QL a),?_⟩;unfold Bg.pos;omega
theorem vS{β:Bg}(h:β.ok)(b:0<lot):0<=jr β lot/\jr β lot<lot/\(ku β lot).ok:=by
 obtain⟨f,_,d,_⟩:=h.at;obtain⟨c1,c2,c3,e⟩:=id h;unfold jr ku;split
 ·refine⟨Uy _ (by omega),UT _ b,?_,by rw[QB];exact c2,λc a=>?_,e⟩
  ·intro z
   have:=QV VQ z;rw[QB]at this;exact c1 (Vo.mp this)
  ·rcases Ts a with a|rfl
   ·exact c3 c a
   ·exact Int.ediv_nonneg d (by omega)
 ·exact⟨Uy _ (by omega),UT _ b,c1,c2,c3,Uy _ (by decide)⟩
end L2.Pu
namespace L2
open PySem PySem.Spec PyProof.Rows
end L2
namespace L2.Pu
open PySem PySem.Spec PyProof.Rows
section
variable{X:Cx}{E:St->XK}{K:P6}
def mW(K:P6)(mg:Qz->Option PH)(x:Qz)(d:D):Prop:=∃u v,mg x=My u/\aK v u/\∀F H,Den K F H d v
theorem gF(c:mW X.K X.mg x d)(a:Gl X x:=by rfl)(hd:(x==("__debug__":Qz))=Pz:=by decide):PE X (.Name x pos) (tV X.K (fC d) E):=by
 obtain⟨u,v,b,e,f⟩:=c;exact v_c (Kn a b e hd) f
mutual
noncomputable def toP:D->Option WI
 | .non=>My .none
 | .bl b=>My (.bool b)
 | .int i=>My (.int i)
 | .str x=>My (.str x)
 | .lst xs=>(toPs xs).map PyData.list
 | .tup xs=>(toPs xs).map PyData.tuple
 |_=>Po
noncomputable def toPs:List D->Option (List WI)
 |[]=>My []
 |x::xs=>match toP x,toPs xs with
  |some p,My ps=>My (p::ps)
  |_,_=>Po
end
mutual
theorem jT{s:PM}(I:Inv X pins σ H s):∀(d:D) (v:V) (u:PH) (p:WI),Den X.K F H d v->toP d=My p->aK v u->∃as,Reads s.heap u p as
 | .non,v,u,p,h,e,r=>by cases e;cases h.non;cases r;exact⟨_,.none⟩
 | .bl b,v,u,p,h,e,r=>by cases e;cases h.bl;cases r;exact⟨_,.bool b⟩
 | .int i,v,u,p,h,e,r=>by cases e;cases h.int;obtain⟨t,rfl⟩:=r;exact⟨_,.int i t⟩
 | .str x,v,u,p,h,e,r=>by cases e;cases h.str;obtain⟨t,rfl⟩:=r;exact⟨_,.str x t⟩
 | .lst xs,v,u,p,h,e,r=>by
  unfold toP at e;cases q:toPs xs with
  |none=>rw[q]at e;cases e
  |some ps=>
   rw[q]at e;cases e;obtain⟨a,ys,rfl,sq,dl⟩:=Den.sqL h;cases r;obtain⟨its,c,pl,_⟩:=I.list sq;obtain⟨as,f⟩:=reads_L I xs ys its ps dl q c;obtain⟨o,g,j,n,hd⟩:=pl.isList;exact⟨_,.list g j hd (by simpa using f)⟩
 | .tup xs,v,u,p,h,e,r=>by
  unfold toP at e;cases q:toPs xs with
  |none=>rw[q]at e;cases e
  |some ps=>
   rw[q]at e;cases e;obtain⟨a,ys,rfl,sq,dl⟩:=Den.sqT h;cases r;obtain⟨its,c,pl,_⟩:=I.tuple sq;obtain⟨as,f⟩:=reads_L I xs ys its ps dl q c;obtain⟨o,g,j,n,hd⟩:=pl;exact⟨_,.tuple g j hd (by simpa using f)⟩
 | .ty _,_,_,_,_,e,_=>by cases e
 | .txt,_,_,_,_,e,_=>by cases e
 | .scr _,_,_,_,_,e,_=>by cases e
 | .obj _ _ _,_,_,_,_,e,_=>by cases e
 | .bag,_,_,_,_,e,_=>by cases e
 | .adr _,_,_,_,_,e,_=>by cases e
 | .dct _ _ _,_,_,_,_,e,_=>by cases e
theorem reads_L{s:PM}(I:Inv X pins σ H s):∀(ds:List D) (vs:List V) (us:List PH) (ps:List WI),DenL X.K F H ds vs->toPs ds=My ps->ar vs us->∃as,ReadsAll s.heap us ps as
 |[],vs,us,ps,h,e,r=>by
  have q:vs=[]:=h;subst q;cases e;cases r;exact⟨_,.nil⟩
 |d::ds,vs,us,ps,h,e,r=>by
  obtain⟨x,a,rfl,b,c⟩:=h;unfold toPs at e;split at e
  ·rename_i p pr f g
   cases e;cases r with
   |cons r1 i=>
    obtain⟨as,j⟩:=jT I d x _ p b f r1;obtain⟨bs,k⟩:=reads_L I ds a _ pr c g i;exact⟨_,.cons j k⟩
  ·cases e
end
def jJ(a b:D):Option Bool:=match toP a,toP b with
 |some p,My q=>if(UD p&&UD q)=Pt then My (Sh p q)else Po
 |_,_=>Po
def fJ(a b:D):Option D:=match eqS a b with
 |some c=>My (.bl c)
 |none=>(jJ a b).map D.bl
def qj(a b:D):Option D:=match eqS a b with
 |some c=>My (.bl (!c))
 |none=>(jJ a b).map λc=>D.bl (!c)
def qa(X:Cx)(g:Bool->Bool):R2:=λx y H Q=>∃(F:Fx) (a b:D) (c:Bool),Den X.K F H a x/\Den X.K F H b y/\jJ a b=My c/\Q (.bl (g c)) H
theorem rE{c:Bool}(h:jJ a b=My c):∃p q,toP a=My p/\toP b=My q/\UD p=Pt/\UD q=Pt/\c=Sh p q:=by
 unfold jJ at h;split at h
 ·rename_i p q d e
  split at h
  ·rename_i hs
   rw[Qq]at hs;cases h;exact⟨p,q,d,e,hs.1,hs.2,rfl⟩
  ·cases h
 ·cases h
theorem Mf(f:Room k X.A):OpR X (Q8 .Eq) (qa X id):=by
 intro d s r H x y v u Q I g i h;obtain⟨F,a,b,c,d1,d2,e,q⟩:=h;obtain⟨p,p',j,l,m,n,rfl⟩:=rE e;obtain⟨as,r1⟩:=jT I a x v p d1 j g;obtain⟨bs,o⟩:=jT I b y u p' d2 l i;exact eq_dataH r1 o m n f.units ⟨.bl _,H,I,rfl,q⟩
theorem Mc(f:Room k X.A):OpR X (Q8 .NotEq) (qa X not):=by
 intro d s r H x y v u Q I g i h;obtain⟨F,a,b,c,d1,d2,e,q⟩:=h;obtain⟨p,p',j,l,m,n,rfl⟩:=rE e;obtain⟨as,r1⟩:=jT I a x v p d1 j g;obtain⟨bs,o⟩:=jT I b y u p' d2 l i;exact ne_dataH r1 o m n f.units ⟨.bl _,H,I,rfl,q⟩
theorem gL(a:Room k X.A):OpR X (Q8 .Eq) (λx y H Q=>rEq x y H Q\/qa X id x y H Q):=OE.or (Mf a)
theorem lH(a:Room k X.A):OpR X (Q8 .NotEq) (λx y H Q=>rNe x y H Q\/qa X not x y H Q):=OD.or (Mc a)
theorem jw:aP X.K (λx y H Q=>rEq x y H Q\/qa X id x y H Q) fJ:=λF H β Q d1 d2 d h i fr a b e k=>by
 unfold fJ at e;split at e
 ·rename_i c q
  cases e;obtain⟨f,g⟩:=AF q a b;exact .inl ⟨f,by rw[g];exact k _ H (To.refl fr) rfl⟩
 ·cases q:jJ d1 d2 with
  |none=>rw[q]at e;cases e
  |some c=>rw[q]at e;cases e;exact .inr ⟨F,d1,d2,c,a,b,q,k _ H (To.refl fr) rfl⟩
theorem pf:aP X.K (λx y H Q=>rNe x y H Q\/qa X not x y H Q) qj:=λF H β Q d1 d2 d h i fr a b e k=>by
 unfold qj at e;split at e
 ·rename_i c q
  cases e;obtain⟨f,g⟩:=AF q a b;exact .inl ⟨f,by rw[g];exact k _ H (To.refl fr) rfl⟩
 ·cases q:jJ d1 d2 with
  |none=>rw[q]at e;cases e
  |some c=>rw[q]at e;cases e;exact .inr ⟨F,d1,d2,c,a,b,q,k _ H (To.refl fr) rfl⟩
theorem Ph(i j:Int):fJ (.int i) (.int j)=My (.bl (decide (i=j))):=rfl
theorem Pg(i j:Int):qj (.int i) (.int j)=My (.bl (!decide (i=j))):=rfl
mutual
theorem uR:∀p:WI,p.canLay0=Pt->Sh p p=Pt
 | .none,_=>rfl
 | .bool b,_=>by simp[Sh]
 | .int b,_=>by simp[Sh]
 | .str b,_=>by simp[Sh]
 | .list xs,h=>by
  unfold Sh;exact eqv_reflL xs (by simpa[UH]using h)
 | .tuple xs,h=>by
  unfold Sh;exact eqv_reflL xs (by simpa[UH]using h)
 | .dict _,h=>by simp[UH]at h
theorem eqv_reflL:∀ps:List WI,T4 ps=Pt->Tv ps ps=Pt
 |[],_=>rfl
 |p::ps,h=>by
  have h':p.canLay0=Pt/\T4 ps=Pt:=by simpa[T4]using h
  unfold Tv;rw[uR p h'.1,eqv_reflL ps h'.2];rfl
end
def iA(d:D):Bool:=match toP d with
 |some p=>UD p
 |none=>Pz
theorem AN(h:iA d=Pt):jJ d d=My Pt:=by
 unfold iA at h;unfold jJ;cases q:toP d with
 |none=>rw[q]at h;cases h
 |some p=>
  rw[q]at h;simp only[h,Uj,QY];rw[uR p (SeqAt.canLay_of_shaped h)]
theorem EI{c:Bool}(h:eqS d d=My c):c=Pt:=by
 cases d<;>first|(cases h;simp)|(cases h;rfl)|cases h
theorem K1(h:iA d=Pt):fJ d d=My (.bl Pt):=by
 unfold fJ;cases q:eqS d d with
 |none=>simp only[AN h];rfl
 |some c=>rw[EI q]
theorem IL{C:Int->Int->Prop}{c:Int->Int->Bool}{g:Int->Int->Int}(b:∀i j,c i j=Pt->C i j):aP K (ipC C g) (opI λi j=>if c i j=Pt then My (.int (g i j))else Po):=λF H β Q d1 d2 d l m fr f h e k=>by
 obtain⟨i,j,rfl,rfl,a⟩:=gs e;split at a
 ·cases a
  exact⟨i,j,f,h,b _ _ (by assumption),k _ H (To.refl fr) rfl⟩
 ·cases a
def addI:D->D->Option D:=opI λi j=>My (.int (i+j))
theorem iH:aP K (ipI λi j=>i+j) addI:=λF H β Q d1 d2 d f g fr a b e k=>by
 obtain⟨i,j,rfl,rfl,c⟩:=gs e;cases c;exact⟨i,j,a,b,k _ H (To.refl fr) rfl⟩
theorem KJ:aP K (ipI λi j=>i-j) BY:=λF H β Q d1 d2 d f g fr a b e k=>by
 obtain⟨i,j,rfl,rfl,c⟩:=gs e;cases c;exact⟨i,j,a,b,k _ H (To.refl fr) rfl⟩
theorem qr:PIp X .Mult (ipC sV λi j=>i*j):=by
 intro a s e H x y v u Q I b d h;obtain⟨i,j,rfl,rfl,c,q⟩:=h;obtain⟨t,rfl⟩:=b;obtain⟨t',rfl⟩:=d;exact imul_int ⟨.int _,H,I.tok _,⟨_,rfl⟩,q⟩ (Yo (jB c.1) (jB c.2))
theorem qm:aP K (ipC sV λi j=>i*j) DE:=IL λi j h=>by
 simp only[Qq,gG,QI]at h;exact h
theorem DQ:aP K (ipC sW λi j=>i/j) xW:=IL λi j h=>by
 simp only[Qq,QI]at h;exact h
abbrev ii:=BW
theorem AT(b:X.calm=Pt):db X (.builtin "sum") (λxs H Q=>∃(a:PD) (ns:List Int),xs=[.ref a]/\SqL X.K H a (ns.map V.int)/\Q (.int ns.sum) H):=rF b
theorem Mx:eU K (λxs H Q=>∃(a:PD) (ns:List Int),xs=[.ref a]/\SqL K H a (ns.map V.int)/\Q (.int ns.sum) H) ii:=ON
def JC(H:Hp)(b l:PD):Prop:=∃(cells:List Int) (i j:Int),H b=My (.lst [.ref l,.int i,.int j])/\H l=My (.lst (cells.map V.int))/\cells≠[]/\cells.length<=64/\(∀c∈cells,0<=c)/\0<=j
theorem KK(h:k<n):ixN n (k:Int)=My k:=by
 unfold ixN;rw[PP (by omega),PP (by omega)];simp
theorem Pj(ns:List Int):∃a:List Int,lY (ns.map V.int) Po (My 63)=a.map V.int/\a.length<=63:=by
 refine⟨(ns.drop (HT.sIx ns.length 0 Po)).take (HT.sIx ns.length ns.length (My 63)-HT.sIx ns.length 0 Po),?_,?_⟩
 ·unfold lY
  rw[Pp,V5,Ul]
 ·rw[Sf]
  have:HT.sIx ns.length ns.length (My 63)<=63:=by
   unfold HT.sIx;simp;omega
  omega
def Ov(K:P6):Sp:=λvs H Q _=>∃(a:PD) (ns:List Int),vs=[.ref a]/\SqL K H a (ns.map V.int)/\∀(b l:PD) (c:Hp),H b=Po->H l=Po->JC c b l->bB H c->Q (.ref b) c
def HY(K:P6):Sp:=λvs H Q _=>∃(a:PD) (ns:List Int),vs=[.ref a]/\SqL K H a (ns.map V.int)/\ns.length<=63/\∀b,Q (.bl Pt) b
theorem K7(sm:bB H₀ H)(A:H₀ b=Po)(C:H₀ l=Po)(B:JC H b l):∃β,β.ok/\SOk K H₀ (λc=>if c=b\/c=l then My 1 else Po) (My (b,l)) H (Po::My (.sh .bag)::P5 n Po) β (My (.ref a)::My (.ref b)::P5 n Po):=by
 obtain⟨cells,i,j,g,h,p,v,w,y⟩:=B;have m:b≠l:=OK g h (by
  intro z;cases cells with
  |nil=>exact p rfl
  |cons c r=>simp at z)
 refine⟨⟨cells,i,j⟩,⟨p,v,w,y⟩,⟨⟨λc f=>?_,λt u e=>?_,λt u e=>?_⟩,λt u e=>?_,by simp,λc f=>?_,λc k f=>(by
  have d:(if c=b\/c=l then My 1 else Po)=My (k+2):=f;split at d<;>cases d),λc k f=>(by
  have d:(if c=b\/c=l then My 1 else Po)=My (k+2):=f;split at d<;>cases d),λk s e=>?_⟩⟩
 ·have d:(if c=b\/c=l then My 1 else Po)≠(Po:Option Nat):=f
  split at d
  ·rename_i q
   rcases q with rfl|rfl
   ·rw[g];simp
   ·rw[h];simp
  ·exact Ql rfl d
 ·cases e
  refine⟨?_,?_,m⟩
  ·show(if b=b\/b=l then My 1 else Po)≠(Po:Option Nat)
   rw[PP (.inl rfl)];simp
  ·show(if l=b\/l=l then My 1 else Po)≠(Po:Option Nat)
   rw[PP (.inr rfl)];simp
 ·cases e
  exact⟨g,h⟩
 ·cases e
  exact⟨PP (.inl rfl),PP (.inr rfl)⟩
 ·cases q:H₀ c with
  |none=>exact Ql q f
  |some o=>rw[sm c o q];simp
 ·match k with
  |0=>simp at e
  |1=>
   simp at e;subst e;exact⟨.ref b,rfl,b,l,rfl,rfl⟩
  |k+2=>
   simp only[XH,RO]at e;split at e<;>cases e
end
section
variable{P:Qu}{w:QH}{K:P6}{mg:Qz->Option PH}{base:Q0}
theorem aX{st:Q6}{N ps:List Qz}(n m:Nat)(g:G)(F:FunD K x qual st f fd)(S:FnScope N ps (ae st))(hn:ps.length=n)(hm:N.length=m)
  (a:∀(b:PH) (A:QU) (outer:List WN) (s:PM) (H:Hp) (E:XK),Room k (A.deeper (Um qual (ae st) s.heap.objs.size f b))->
   PSs (c7 (CXE P w) P w K mg base N qual (ae st) f b A outer s H E) (cc st) (tG K H g (λ_=>E))):FnOk P w K mg base (CXE P w) (k+1) f fd ps (spF K n (jA m g)):=by
 subst hn hm;exact KW F S a
end
end L2.Pu
namespace L2
open PySem PySem.Spec PyProof.Rows
theorem CmpScope.ofB{X:Cx}{scope:Scope}{caps:List Nat}(k:scope.kind= .function)(nd:(scope.names.map (·.1)).Nodup)
  (fr:(scope.names.all λy=>y.2 != .free||(X.env.scope.names.lookup y.1==My .cell||X.env.scope.names.lookup y.1==My .free))=Pt) (nm:Nc=vars++caps.map (λj=>X.N.getD j S5))
  (a:(caps.all λj=>decide (j<X.N.length)&&scope.names.lookup (X.N.getD j S5)==My .free)=Pt):CmpScope X scope Nc vars caps:=by
 refine⟨k,nd,λy b e=>?_,nm,λj c=>?_⟩
 ·have:=SE.mp fr y b
  rw[e]at this;simp only[S4,Bool.false_or,Bool.or_eq_true,SL]at this;exact this
 ·have:=SE.mp a j c
  simp only[Qq,QI,SL]at this;exact this
end L2
namespace L2.Pu
end L2.Pu
namespace L2.Pu
open PySem PySem.Spec
theorem qA{ds os:List D}(a:it δ β=My (.ok ds,β1))(c:cLp tg tt b ds (cSt nv caps δ) β1=My (.ok os,β2))(d:os.length<=P0):da nv caps it tg tt b δ β=My (.ok (.lst os),β2):=by
 unfold da;simp only[a,c,d,QY]
def plD:Nat->D->Prop
 |_,.int _=>True
 |_,.bl _=>True
 |_,.non=>True
 |n+1,.lst xs=>∀x∈xs,plD n x
 |n+1,.tup xs=>∀x∈xs,plD n x
 |_,_=>False
theorem Kh:∀(n:Nat) (d:D),plD n d->∃p,toP d=My p/\p.canLay0=Pt/\p.depth<=n+1:=by
 have a:∀(n:Nat) (xs:List D),(∀x∈xs,∃p,toP x=My p/\p.canLay0=Pt/\p.depth<=n)->∃ps,toPs xs=My ps/\T4 ps=Pt/\WC ps<=n:=by
  intro n xs
  induction xs with
  |nil=>intro _;exact⟨[],rfl,rfl,by simp[WC]⟩
  |cons x xs ih=>
   intro h;obtain⟨p,g,j,l⟩:=h x PF;obtain⟨ps,b,c,f⟩:=ih λy k=>h y (Ps _ k);refine⟨p::ps,?_,?_,?_⟩
   ·unfold toPs;simp only[g,b]
   ·simp[T4,j,c]
   ·simp only[WC];omega
 intro n
 induction n with
 |zero=>
  intro d h;cases d with
  |int i=>exact⟨.int i,rfl,rfl,by simp[Tc]⟩
  |bl i=>exact⟨.bool i,rfl,rfl,by simp[Tc]⟩
  |non=>exact⟨.none,rfl,rfl,by simp[Tc]⟩
  |_=>exact h.elim
 |succ n ih=>
  intro d h;cases d with
  |int i=>exact⟨.int i,rfl,rfl,by simp[Tc]⟩
  |bl i=>exact⟨.bool i,rfl,rfl,by simp[Tc]⟩
  |non=>exact⟨.none,rfl,rfl,by simp[Tc]⟩
  |lst xs=>
   obtain⟨ps,b,c,f⟩:=a (n+1) xs λx e=>ih x (h x e);exact⟨.list ps,by unfold toP;simp[b],by simp[UH,c],by simp only[Tc];omega⟩
  |tup xs=>
   obtain⟨ps,b,c,f⟩:=a (n+1) xs λx e=>ih x (h x e);exact⟨.tuple ps,by unfold toP;simp[b],by simp[UH,c],by simp only[Tc];omega⟩
  |_=>exact h.elim
theorem u3(n:Nat)(h:plD n d)(hn:n<=60):iA d=Pt:=by
 obtain⟨p,a,b,c⟩:=Kh n d h;unfold iA;simp only[a,UD,b,U7,QI];omega
end L2.Pu
namespace L2.Pu
open PySem PySem.Spec PyProof.Rows
section
variable{X:Cx}{E:St->XK}{K:P6}{a b:Expr}{es:List Expr}{pos:Uh}
theorem To.none(t:To F H H1 β1)(h:H1 p=Po):H p=Po:=by
 cases q:H p with
 |none=>rfl
 |some o=>
  have:H1 p=My o:=t.kp p o q λb l e=>by
   obtain⟨c,d⟩:=t.fr.bag b l e;exact⟨λw=>(by subst w;rw[c]at h;cases h),λw=>(by subst w;rw[d]at h;cases h)⟩
  rw[this]at h;cases h
noncomputable def Fx.but(F:Fx)(a:PD):Fx:=⟨λc=>F.A c\/c=a,F.bg⟩
theorem Fx.tr_but{F:Fx}(fr:Fr F H β1)(d:H p=Po)(hs:∀c o,H c=My o->H1 c=My o):Tr F H (F.but p) H1:=⟨λc e f z=>by
 rcases z with z|z
 ·exact e z
 ·subst z;exact f d,λc o _ h=>hs c o h,rfl⟩
theorem Fx.tr_of{F:Fx}:Tr (F.but p) H F H:=⟨λc h _ z=>h (RI z),λ_ _ _ h=>h,rfl⟩
def gj(K:P6)(F:Fx)(H0 H:Hp)(ds:List D)(v:V):Prop:=∃a xs,v= .ref a/\H0 a=Po/\H a=My (.lst xs)/\DenL K (F.but a) H ds xs
def tVO(K:P6)(f:FL)(E:St->XK):TE:=λc H Q=>∃F δ β,Fr F H β/\VOk K F H δ c/\run (gj K F H) F E c (f δ) H Q β
def tVG(K:P6)(f:Dn->M (List (List D)))(E:St->XK):TE:=λc H Q=>∃F δ β,Fr F H β/\VOk K F H δ c/\run (gX K F H) F E c (f δ) H Q β
noncomputable def szL(ds:List D):Option (List D):=if ds.length<=P0 then My ds else Po
def kC(op:List D->Option (List D))(g:FL):FL:=λδ=>M.bind (g δ) λds=>M.ofO (op ds)
theorem gj.new(t:To F H H1 β1)(d:H1 p=Po)(hd:DenL K F H1 ds xs):gj K F H (upd H1 p (.lst xs)) ds (.ref p):=
 ⟨p,xs,rfl,t.none d,af,DenL.tr (Fx.tr_but t.fr d λc o h=>by rw[upd_ne (ne_of_none h d)];exact h) _ _ hd⟩
theorem OH(h:PA X es (tVA X.K g E)):PE X (.List es pos) (tVO X.K (kC szL g) E):=
 (e8 h).imp λi H Q d=>ex6 d λF δ β fr f r=>⟨F,δ,β,fr,f,(run.bind (R:=DenL X.K F) r).mono λvs j d=>by
  obtain⟨ds,β1,t,hd,r1⟩:=d;obtain⟨d3,c,k⟩:=run.ofO r1;unfold szL at c;split at c
  ·cases c
   exact⟨by rw[←hd.length];assumption,λp e=>k _ _ (t.fr.upd _ e) (gj.new t e hd)⟩
  ·cases c⟩
def JA(K:P6)(r:List V->Hp->VK->Prop)(op:List D->Option (List D)):Prop:=∀(F:Fx) (H0 H:Hp) (β:Bg) (Q:VK) (ds os:List D) (vs:List V),To F H0 H β->DenL K F H ds vs->op ds=My os->
 (∀v c,To F H c β->gj K F H0 c os v->Q v c)->r vs H Q
theorem CY(i:db X (.type T) r)(l:JA X.K r op)(j:Gl X x)(hm:X.mg x=Po)(m:TN x=My (.type T))(ha:PA X (e::es) (tVA X.K g E))(hn:x≠"__name__":=by decide)(c:(x==("__debug__":Qz))=Pz:=by decide)
  (n:PX (e::es) X.env=(Pz,QW e X.env)::PX es X.env:=by rfl) (d:(RP pos (PX es X.env)).any (·.1)=Pz:=by rfl):PE X (.Call (.Name x p) (e::es) [] pos) (tVO X.K (kC op g) E):=
 (rc i j hm m ha hn c n d).imp λv H Q f=>ex6 f λF δ β fr o h=>⟨F,δ,β,fr,o,(run.bind (R:=DenL X.K F) h).mono λvs q f=>by
  obtain⟨ds,β1,t,hd,r1⟩:=f;obtain⟨d3,u,k⟩:=run.ofO r1;exact l F H q β1 Q ds d3 vs t hd u k⟩
def sG:List D->Option (List D)
 |[.lst xs]=>My xs
 |[.tup xs]=>My xs
 |_=>Po
theorem KE:JA K (λxs H Q=>∃p ys,xs=[.ref p]/\(SqL K H p ys\/SqT K H p ys)/\∀l,H l=Po->Q (.ref l) (upd H l (.lst ys))) sG:=λF H0 H β Q ds os vs t h e k=>by
 unfold sG at e;split at e
 ·cases e
  obtain⟨v,rfl,g⟩:=DenL.one h;obtain⟨a,xs,rfl,r,dl⟩:=Den.sqL g;exact⟨a,xs,rfl,.inl r,λl c=>k _ _ (t.fr.upd _ c) (gj.new t c dl)⟩
 ·cases e
  obtain⟨v,rfl,g⟩:=DenL.one h;obtain⟨a,xs,rfl,r,dl⟩:=Den.sqT g;exact⟨a,xs,rfl,.inr r,λl c=>k _ _ (t.fr.upd _ c) (gj.new t c dl)⟩
 ·cases e
theorem DenL.rep(h:DenL K F H ds xs):∀n:Nat,DenL K F H (P5 n ds).flatten (P5 n xs).flatten
 |0=>rfl
 |n+1=>by
  rw[Rj,Sy,Rj,Sy];exact DenL.append h (DenL.rep h n)
noncomputable def tZ(ds:List D)(d:D):Option (List D):=match d with
 | .int k=>if(decide (-(2^63)<=k)&&decide (k<2^63)&&decide (ds.length<=P0)&&decide (ds.length*k.toNat<=P0))=Pt then My (P5 k.toNat ds).flatten else Po
 |_=>Po
def xm(g:FL)(f:FD):FL:=λδ=>M.bind (g δ) λds=>M.bind (M.ofO (szL ds)) λds=>M.bind (f δ) λd=>M.ofO (tZ ds d)
theorem OG(ha:PA X es (tVA X.K g E))(O:PE X b (tV X.K f E)):PE X (.BinOp (.List es pos') .Mult b pos) (tVO X.K (xm g f) E):=
 (dB Ma (e8 ha) O).imp λP H Q j=>ex6 j λF δ β fr B r=>⟨F,δ,β,fr,B,(run.bind (R:=DenL X.K F) r).mono λvs T j=>by
  obtain⟨ds,β1,t,hd,r1⟩:=j;obtain⟨U,n,W⟩:=run.ofO_bind r1;unfold szL at n;split at n
  ·rename_i Y
   cases n;refine⟨by rw[←hd.length];exact Y,λp I=>?_⟩;have m:=t.fr.upd (.lst vs) I;have J:=t.fr.fresh I;refine⟨F,δ,β1,m.fr,(B.tr (t.tr fr)).tr (m.tr t.fr),?_⟩;obtain⟨L,β2,e,h⟩:=W;have u:run (gj X.K F H) F E P (M.bind (f δ) λd=>M.ofO (tZ ds d)) (upd T p (.lst vs)) Q β1:=by
    refine⟨L,β2,e,?_⟩;cases L with
    |ok d=>exact λv y c=>h v y (m.trans c)
    |error C=>exact λy c=>h y (m.trans c)
   refine(run.bind (R:=Den X.K F) u).mono λw Z j=>ex5 j λd β3 c hw r3=>?_;obtain⟨os,i,k⟩:=run.ofO r3;unfold tZ at i;split at i
   ·split at i
    ·rename_i kk o
     cases i;simp only[Qq,QI]at o;cases hw;have A:Z p=My (.lst vs):=c.kp p _ af λb l q=>⟨λz=>J (z▸(fr.bgA b l q).1),λz=>J (z▸(fr.bgA b l q).2.1)⟩;have tt:=m.trans c;exact⟨p,_,vs,rfl,rfl,A,o.1.1.1,o.1.1.2,by rw[←hd.length];exact o.2,λq N=>k _ _ (c.fr.upd _ N) (gj.new (t.trans tt) N ((DenL.tr (tt.tr t.fr) _ _ hd).rep _))⟩
    ·cases i
   ·cases i
  ·cases n⟩
def n5(tg:TgF)(tt:Dn->M Bool)(b:Dn->M (List (List Pu.D))):List Pu.D->Dn->M (List (List Pu.D))
 |[],_=>M.ret []
 |d::ds,δ=>match tg d δ with
  |none=>M.fail
  |some δ1=>M.bind (tt δ1) λc=>M.bind (if c=Pt then b δ1 else M.ret []) λo=>M.bind (n5 tg tt b ds δ) λos=>M.ret (o++os)
def RwA(K:P6)(F:Fx)(D:PD)(H0 H:Hp)(as:List (List Pu.D))(acc:List V):Prop:=(∀c,H0 c≠Po->H c≠Po)/\∃rs,acc=rs.map V.ref/\(D::rs).Nodup/\RowL K F H (λr=>H0 r=Po) as rs
theorem RwA.mono{F:Fx}{D:PD}(g:F.A D)(i:∀b l,F.bg=My (b,l)->H0 b≠Po/\H0 l≠Po)(fr:Fr F H β)(t:ToD F D H H1 β1)(h:RwA K F D H0 H as acc):RwA K F D H0 H1 as acc:=by
 obtain⟨cv,rs,e,nd,j⟩:=h;refine⟨λc k z=>?_,rs,e,nd,RowL.tr (t.tr fr g) j λr xs m p q=>⟨p,t.kp r _ q (λz=>?_) λb l w=>⟨λz=>?_,λz=>?_⟩⟩⟩
 ·cases q:H c with
  |none=>exact cv c k q
  |some o=>
   by_cases hd:c=D
   ·subst hd;exact t.fr.occ _ g z
   ·by_cases d:∃b l,F.bg=My (b,l)/\(c=b\/c=l)
    ·obtain⟨b,l,w,f⟩:=d
     rcases f with rfl|rfl
     ·exact t.fr.occ _ (fr.bgA _ _ w).1 z
     ·exact t.fr.occ _ (fr.bgA _ _ w).2.1 z
    ·rw[t.kp c o q hd λb l w=>⟨λy=>d ⟨b,l,w,.inl y⟩,λy=>d ⟨b,l,w,.inr y⟩⟩]at z
     cases z
 ·subst z;exact(QC.mp nd).1 m
 ·subst z;exact(i _ _ w).1 p
 ·subst z;exact(i _ _ w).2 p
def pT(K:P6)(D:PD)(i:TB)(f:Dn->M (List (List Pu.D))):Prop:=∀(F:Fx) (H0 H:Hp) (δ:Dn) (β d:Bg) (h:St) (acc:List V) (as os:List (List Pu.D)) (Q:St->Hp->Prop),Fr F H β->F.A D->(∀b l,F.bg=My (b,l)->D≠b/\D≠l)->(∀b l,F.bg=My (b,l)->H0 b≠Po/\H0 l≠Po)->VOk K F H δ h->H D=My (.lst acc)->RwA K F D H0 H as acc->
 f δ β=My (.ok os,d)->as.length+os.length<=P0->(∀e g c,ToD F D H g d->VOk K F g δ e->g D=My (.lst c)->RwA K F D H0 g (as++os) c->Q e g)->i h H Q
def qE(f:Dn->M (List Pu.D)):Dn->M (List (List Pu.D)):=λδ=>M.bind (f δ) λd=>M.ret [d]
theorem RowL.snoc(p:P r)(c:H r=My (.lst xs))(d:DenL K F H ds xs):∀{rows:List (List Pu.D)} {rs:List PD},RowL K F H P rows rs->RowL K F H P (rows++[ds]) (rs++[r])
 |[],[],_=>⟨p,⟨xs,c,d⟩,trivial⟩
 |_::_,_::_,h=>⟨h.1,h.2.1,RowL.snoc p c d h.2.2⟩
 |[],_::_,h=>h.elim
 |_::_,[],h=>h.elim
theorem wa{D:PD}:pT K D (yd D (tVO K f E0)) (qE f):=λF H0 H δ β j Y acc as os Q fr m p P R T hd e Z k=>by
 obtain⟨d,β1,e1,e2⟩:=M.bind_inv e;cases e2;refine⟨F,δ,β,fr,R,E0.run e1 λv U t hv=>?_⟩;have u:=t.kp D _ T p;have w:=hd.mono m P fr (t.toD D);obtain⟨r,xs,rfl,g,n1,n2⟩:=hv;obtain⟨cv,rs,A,nd,W⟩:=w;obtain⟨B,c,C,I,J⟩:=hd;have i:acc.length=as.length:=by rw[A,Pp,W.len]
 have L:c=rs:=by
  have:c.map V.ref=rs.map V.ref:=C.symm.trans A;exact Wb (λa b q=>by cases q;rfl)|>.mp this
 subst L;have nD:r≠D:=λz=>by subst z;rw[T]at g;cases g
 have nr:r∉c:=λz=>by
  obtain⟨_,ys,q⟩:=J.all r z;rw[q]at g;cases g
 have N:H0 r=Po:=by
  cases q:H0 r with
  |none=>rfl
  |some o=>exact Ql g (B r (by rw[q];simp))
 refine⟨acc,u,by rw[i];simp at Z;omega,?_⟩;have O:ToD F D U (upd U D (.lst (acc++[.ref r]))) j:=by
  refine⟨λa o h n _=>by rw[upd_ne n];exact h,λa h q=>?_,fr.bgA,λb l q=>?_⟩
  ·by_cases z:a=D
   ·subst z;rw[af]at q;cases q
   ·rw[upd_ne z]at q;exact t.fr.occ a h q
  ·rw[upd_ne (p b l q).1.symm,upd_ne (p b l q).2.symm]
   exact t.fr.bag b l q
 have tt:=O.tr t.fr m;refine k Y _ _ ((t.toD D).trans O) (R.tr ((t.tr fr).trans tt)) af (RwA.mono m P t.fr O ⟨cv,c++[r],by rw[A,Qy];rfl,?_,RowL.snoc N n1 (DenL.tr Fx.tr_of _ _ n2) W⟩);rw[←Ug,U3];refine⟨I,by simp,λx hx y hy=>?_⟩;obtain rfl:y=r:=by simpa using hy
 rcases PZ.mp hx with rfl|hx
 ·exact nD.symm
 ·exact λz=>nr (z▸hx)
end
section
variable{X:Cx}{E:St->XK}{K:P6}
theorem KD{D:PD}(hg:cM K g tg)(sg:dT tg)(hb:pT K D tb b){F:Fx}{as os:List (List Pu.D)}(fr:Fr F H β)(W:F.A D)(hn:∀b l,F.bg=My (b,l)->D≠b/\D≠l)(h0:∀b l,F.bg=My (b,l)->H0 b≠Po/\H0 l≠Po)(vk:VOk K F H δ σ)(hD:H D=My (.lst acc))(hd:RwA K F D H0 H as acc)
  (it:ItD K J F H ds) (e:n5 tg tt b ds δ β=My (.ok os,β')) (hz:as.length+os.length<=P0) (k:∀f n a,ToD F D H n β'->VOk K F n δ f->n D=My (.lst a)->RwA K F D H0 n (as++os) a->Q f n):cY J g (tVT K tt E0) tb σ H Q:=by
 refine⟨λi m f n=>m+i=ds.length/\∃β1 a j t,ToD F D H n β1/\VOk K F n δ f/\n D=My (.lst a)/\RwA K F D H0 n j a/\n5 tg tt b (ds.drop i) δ β1=My (.ok t,β')/\j++t=as++os,
  ⟨ds.length,by omega,β,acc,as,os,⟨λ_ _ h _ _=>h,fr⟩,vk,hD,hd,e,rfl⟩,?_⟩
 rintro i m f n ⟨hm,β1,a,j,t,u,y,B,C,r,ea⟩;have tr1:=u.tr fr W;obtain⟨iy,is⟩:=it F n β1 tr1 u.fr i;cases Y:ds[i]? with
 |none=>
  have Z:ds.length<=i:=UY.mp Y;rw[Rz Z]at r;cases r;refine .inl ⟨is (by omega),k f n a u y B ?_⟩;rw[←ea,Qx];exact C
 |some d=>
  have Z:i<ds.length:=(PU.mp Y).1;obtain⟨go,yl⟩:=iy d Y;have ed:ds.drop i=d::ds.drop (i+1):=by
   rw[QX Z];congr 1;exact Qo ((Pw Z).symm.trans Y)
  rw[ed]at r;unfold n5 at r;cases q:tg d δ with
  |none=>rw[q]at r;cases r
  |some δ1=>
   rw[q]at r;obtain⟨c,β2,e2,e3⟩:=M.bind_inv r;obtain⟨o,β3,e4,e5⟩:=M.bind_inv e3;obtain⟨I,β4,e6,e7⟩:=M.bind_inv e5;cases e7;obtain⟨s1,s2⟩:=sg _ _ _ q;refine .inr ⟨go,λL N=>∃p,ToD F D H N β3/\VOk K F N δ L/\N D=My (.lst p)/\RwA K F D H0 N (j++o) p,?_,λx H2 hy=>?_⟩
   ·rintro L N ⟨p,t9,vk9,hD9,hd9⟩
    exact⟨m-1,by omega,by omega,β3,p,j++o,I,t9,vk9,hD9,hd9,e6,by rw[Ra];exact ea⟩
   ·obtain⟨sm,dx⟩:=yl x H2 hy
    have w:To F n H2 β1:=u.fr.same sm;have tr2:=w.tr u.fr;refine hg F H2 δ δ1 f d x _ (y.tr tr2) dx q λσ2 v=>⟨F,δ1,β1,w.fr,v,E0.run e2 λc' H3 O ec=>?_⟩;subst ec;have hD2:=sm _ _ B;have P:=O.kp D _ hD2 hn;have R:=O.tr w.fr;have d3:=(C.mono W h0 u.fr (w.toD D)).mono W h0 w.fr (O.toD D);have T:ToD F D H H3 β2:=u.trans ((w.trans O).toD D);have hle:j.length+(o++I).length<=P0:=by
     have:=QV VQ ea;simp only[Qf]at this⊢;omega
    cases c' with
    |true=>
     rw[PP rfl]at e4⊢;refine hb F H0 H3 δ1 β2 β3 σ2 a j o _ O.fr W hn h0 (v.tr R) P d3 e4 (by rw[Qf]at hle;omega) λσ4 H4 U t4 vk4 hD4 hd4=>?_;exact⟨U,T.trans t4,vk4.sub s1 s2,hD4,hd4⟩
    |false=>
     rw[PL PQ]at e4⊢;cases e4;exact⟨a,T,(v.tr R).sub s1 s2,P,by rw[Qx];exact d3⟩
def gR(nv:Nat)(caps:List Nat)(it:Dn->M (List Pu.D))(tg:TgF)(tt:Dn->M Bool)(b:Dn->M (List (List Pu.D))):Dn->M (List (List Pu.D)):=λδ β=>match it δ β with
 |none=>Po
 |some (.error C,β1)=>My (.error C,β1)
 |some (.ok ds,β1)=>match n5 tg tt b ds (cSt nv caps δ) β1 with
  |some (.ok os,β2)=>if os.length<=P0 then My (.ok os,β2)else Po
  |_=>Po
theorem qO{vars:List Qz}{caps:List Nat}{it:Dn->M (List Pu.D)}{g:TG}{tg:TgF}{tt:Dn->M Bool}{I:PD->TB}{b:Dn->M (List (List Pu.D))}(T:cM K g tg)(U:dT tg)(W:∀D,pT K D (I D) b){L:St}{H:Hp}{Q:VK}(h:tVG K (gR vars.length caps it tg tt b) E L H Q):
  sv vars caps (iV K it E) (λD J=>cY J g (tVT K tt E0) (I D)) L H Q:=by
 obtain⟨F,δ,β,fr,N,r,k,e,h⟩:=h;unfold gR at e;refine⟨F,δ,β,fr,N,?_⟩;split at e
 ·cases e
 ·rename_i C β1 q
  cases e;exact⟨.error C,_,q,h⟩
 ·rename_i ds β1 q
  split at e
  ·rename_i os β2 q2
   split at e
   ·rename_i Y
    cases e;refine⟨.ok ds,β1,q,λJ f t Z D d=>?_⟩;have i:¬F.A D:=t.fr.fresh d;have nb:∀b l,F.bg=My (b,l)->D≠b/\D≠l:=λb l z=>⟨λw=>i (w▸(fr.bgA b l z).1),λw=>i (w▸(fr.bgA b l z).2.1)⟩;have O:=t.fr.upd (.lst []) d;have m:Fr ⟨λa=>F.A a\/a=D,F.bg⟩ (upd f D (.lst [])) β1:=by
     refine⟨λa ha z=>?_,λb l z=>let ⟨x,y,w⟩:=fr.bgA b l z;⟨.inl x,.inl y,w⟩,O.fr.bag⟩
     rcases ha with ha|ha
     ·exact O.fr.occ a ha z
     ·subst ha;rw[af]at z;cases z
    have j:Tr F f ⟨λa=>F.A a\/a=D,F.bg⟩ (upd f D (.lst [])):=⟨λa ha hs z=>by
     rcases z with z|z
     ·exact ha z
     ·subst z;exact hs d,λa o ha z=>by rw[upd_ne (ne_of_none z d)];exact z,rfl⟩
    have cv:∀c,H c≠Po->upd f D (.lst []) c≠Po:=λc hc z=>by
     by_cases w:c=D
     ·subst w;rw[af]at z;cases z
     ·rw[upd_ne w]at z;exact hc (t.none z)
    refine KD (D:=D) (H0:=H) (as:=[]) (os:=os) T U (W D) m (.inr rfl) nb (λb l z=>⟨fr.occ _ (fr.bgA b l z).1,fr.occ _ (fr.bgA b l z).2.1⟩) (u6 (N.tr ((t.tr fr).trans j))) af ⟨cv,[],rfl,by simp,trivial⟩ (Z.tr j) q2 (by simpa using Y) λσ1 P R u vk3 v B=>?_;have tf:To F f P k:=by
     refine⟨λa o z n=>u.kp a o (by rw[upd_ne (ne_of_none z d)];exact z) (ne_of_none z d) n,λa ha z=>u.fr.occ a (RI ha) z,fr.bgA,u.fr.bag⟩
    obtain⟨_,rs,ea,nd,rl⟩:=B;subst ea;exact h _ P (t.trans tf) ⟨D,rs,rfl,t.none d,v,nd,RowL.tr (F:=⟨λa=>F.A a\/a=D,F.bg⟩) ⟨λa ha _ z=>ha (RI z),λa o _ z=>z,rfl⟩ rl λr xs _ p q=>⟨p,q⟩⟩
   ·cases e
  ·cases e
section
variable{elt target iter:Expr}{ifs:List Expr}{rest:List RA}{scope:Scope}{pos:Uh}{Nc vars:List Qz}{caps:List Nat}{g:TG}{tb:PD->TB}
theorem MK(c:X.calm=Pt)(S:CmpScope X scope Nc vars caps)(d:PI X target iter (iV X.K it E))
  (e:∀(cl:List (Qz×PD)) (C:PD) (a:List PD) (s:PM) (H:Hp),PG (aE X Nc scope cl C a s H) target g/\dG (aE X Nc scope cl C a s H) ifs (tVT X.K tt E0)/\∀D,PB (aE X Nc scope cl C a s H) elt (⟨target,iter,ifs,0⟩::rest) scope pos 0 D (tb D))
  (f:cM X.K g tg) (i:dT tg) (j:∀D,pT X.K D (tb D) b) (hs:∀x,QR iter X.env x=R6 x:=by intro _;rfl):PE X (.ListComp elt (⟨target,iter,ifs,0⟩::rest) scope pos) (tVG X.K (gR vars.length caps it tg tt b) E):=
 (qf c S d e hs).imp λk H Q h=>qO f i j h
end
mutual
noncomputable def noL:D->Bool
 | .int _=>Pt
 | .bl _=>Pt
 | .str _=>Pt
 | .non=>Pt
 | .tup ds=>noLs ds
 |_=>Pz
noncomputable def noLs:List D->Bool
 |[]=>Pt
 |d::ds=>noL d&&noLs ds
end
mutual
theorem v6{F b:Fx}(hF:∀c,b.A c->F.A c\/∃xs,H c=My (.lst xs)):∀(d:D) (v:V),noL d=Pt->Den K F H d v->Den K b H d v
 | .int i,v,_,h=>h
 | .bl i,v,_,h=>h
 | .str i,v,_,h=>h
 | .non,v,_,h=>h
 | .tup ds,v,n,h=>by
  obtain⟨a,xs,e,h1,f⟩:=h;refine⟨a,xs,e,?_,noLs_den hF ds xs (by simpa[noL]using n) f⟩;rcases h1 with⟨h1,r⟩|h1
  ·refine .inl ⟨λz=>?_,r⟩
   rcases hF a z with z|⟨ys,z⟩
   ·exact h1 z
   ·rcases r with r|⟨o,r⟩<;>rw[z]at r<;>cases r
  ·exact .inr h1
 | .lst _,_,n,_=>by simp[noL]at n
 | .scr _,_,n,_=>by simp[noL]at n
 | .ty _,_,n,_=>by simp[noL]at n
 | .txt,_,n,_=>by simp[noL]at n
 | .obj _ _ _,_,n,_=>by simp[noL]at n
 | .bag,_,n,_=>by simp[noL]at n
 | .adr _,_,n,_=>by simp[noL]at n
 | .dct _ _ _,_,n,_=>by simp[noL]at n
theorem noLs_den{F a:Fx}(hF:∀c,a.A c->F.A c\/∃xs,H c=My (.lst xs)):∀(ds:List D) (xs:List V),noLs ds=Pt->DenL K F H ds xs->DenL K a H ds xs
 |[],xs,_,h=>h
 |d::ds,xs,n,h=>by
  have b:noL d=Pt/\noLs ds=Pt:=by simpa[noLs]using n
  obtain⟨x,f,e,g,i⟩:=h;exact⟨x,f,e,v6 hF d x b.1 g,noLs_den hF ds f b.2 i⟩
end
theorem RowL.noL{F b:Fx}(hF:∀c,b.A c->F.A c\/∃xs,H c=My (.lst xs)):∀{rows:List (List D)} {rs:List PD},(∀ds∈rows,noLs ds=Pt)->RowL K F H P rows rs->(∀r∈rs,P2 r)->RowL K b H P2 rows rs
 |[],[],_,_,_=>trivial
 |ds::rows,r::rs,n,h,p=>by
  obtain⟨g,⟨xs,d,e⟩,f⟩:=h;exact⟨p r PF,⟨xs,d,noLs_den hF _ _ (n ds PF) e⟩,RowL.noL hF (λx a=>n x (Ps _ a)) f λx a=>p x (Ps _ a)⟩
 |[],_::_,_,h,_=>h.elim
 |_::_,[],_,h,_=>h.elim
theorem SOk.newGrd{δ:Ds}{U:St}(ok:SOk K H₀ B bg H δ β U)(t:To (FxB B bg) H H' β')(hn:∀ds∈rows,noLs ds=Pt)(hv:gX K (FxB B bg) H H' rows v):
  ∃W,SOk K H₀ W bg H' (δ.set i (My (.grd rows))) β' (U.set i (My v))/\Stp B H W H':=by
 classical
 obtain⟨a,rs,rfl,n0,L,nd,I⟩:=hv;have g:∀c,c=a\/c∈rs->H c=Po:=λc hc=>by
  rcases hc with rfl|hc
  ·exact n0
  ·exact(I.all c hc).1
 have hB:∀c,c=a\/c∈rs->B c=Po:=λc hc=>S7 λz=>ok.fr.occ c z (g c hc);have X:∀b l,bg=My (b,l)->¬(b=a\/b∈rs)/\¬(l=a\/l∈rs):=λb l e=>by
  obtain⟨b1,b2⟩:=ok.bgt b l e;exact⟨λz=>(by rw[hB b z]at b1;cases b1),λz=>(by rw[hB l z]at b2;cases b2)⟩
 obtain⟨m,Y⟩:=ok.to rfl t;have J:Stp B H (λc=>if c=a\/c∈rs then My (i+2)else B c) H':=by
  refine⟨Y.kp,λc hc=>?_,λc o h n=>?_,Y.al⟩
  ·have:¬(c=a\/c∈rs):=λz=>by rw[hB c z]at hc;rcases hc with hc|hc<;>cases hc
   simp only[PL this]
  ·have:¬(c=a\/c∈rs):=λz=>by rw[g c z]at h;cases h
   simp only[PL this];exact n
 have tr:Tr (FxB B bg) H (FxB (λc=>if c=a\/c∈rs then My (i+2)else B c) bg) H':=J.tr;refine⟨λc=>if c=a\/c∈rs then My (i+2)else B c,⟨⟨λc hc z=>?_,λb l e=>?_,m.fr.bag⟩,λb l e=>?_,by rw[QB,QB,ok.len],m.cov,λc k hc=>(by
  have f:(if c=a\/c∈rs then My (i+2)else B c)=My (k+2):=hc;by_cases z:c=a\/c∈rs
  ·cases w:H₀ c with
   |none=>rfl
   |some o=>exact Ql (g c z) (ok.cov c (by rw[w];simp))
  ·rw[PL z]at f;exact ok.new c k f),λc k hc=>(by
  have f:(if c=a\/c∈rs then My (i+2)else B c)=My (k+2):=hc;by_cases z:c=a\/c∈rs
  ·rcases z with rfl|z
   ·exact⟨_,L⟩
   ·exact(I.all c z).2
  ·rw[PL z]at f;exact m.lst c k f),λj s e=>?_⟩,J⟩
 ·by_cases q:c=a\/c∈rs
  ·rcases q with rfl|q
   ·rw[L]at z;cases z
   ·obtain⟨_,xs,w⟩:=I.all c q
    rw[w]at z;cases z
  ·have f:(if c=a\/c∈rs then My (i+2)else B c)≠Po:=hc
   rw[PL q]at f;exact m.fr.occ c f z
 ·obtain⟨O,P⟩:=X b l e
  obtain⟨b1,b2⟩:=ok.bgt b l e;refine⟨?_,?_,(ok.fr.bgA b l e).2.2⟩
  ·show(if b=a\/b∈rs then My (i+2)else B b)≠Po
   rw[PL O,b1];simp
  ·show(if l=a\/l∈rs then My (i+2)else B l)≠Po
   rw[PL P,b2];simp
 ·obtain⟨O,P⟩:=X b l e
  simp only[PL O,PL P];exact ok.bgt b l e
 ·rw[Q2]at e
  rw[Q2];by_cases q:i=j
  ·subst q
   rw[PP rfl]at e⊢;split at e
   ·rename_i hl
    cases e;rw[PP (by rw[←ok.len];exact hl)];refine⟨_,rfl,a,rs,rfl,PP (.inl rfl),L,nd,RowL.noL (F:=FxB B bg) (λc hc=>?_) hn I λr hr=>PP (.inr hr)⟩;have f:(if c=a\/c∈rs then My (i+2)else B c)≠Po:=hc;by_cases w:c=a\/c∈rs
    ·rcases w with rfl|w
     ·exact .inr ⟨_,L⟩
     ·exact .inr (I.all c w).2
    ·rw[PL w]at f
     exact .inl f
   ·cases e
  ·rw[PL q]at e⊢
   obtain⟨w,Q,u⟩:=ok.tell j s e;refine⟨w,Q,?_⟩;cases s with
   |sh d=>exact Den.tr tr _ _ u
   |own cs=>
    obtain⟨c,ys,R,A,C,T⟩:=u;have N:¬(c=a\/c∈rs):=λz=>by rw[g c z]at C;cases C
    exact⟨c,ys,R,by simp only[PL N];exact A,t.kp c _ C (λb l z=>⟨λy=>(by subst y;rw[(ok.bgt _ _ z).1]at A;cases A),λy=>(by subst y;rw[(ok.bgt _ _ z).2]at A;cases A)⟩),DenL.tr tr _ _ T⟩
   |grd rows2=>
    obtain⟨c,qs,R,A,C,T,e5⟩:=u;have N:∀c,H c≠Po->¬(c=a\/c∈rs):=λc hc z=>hc (g c z);have Z:∀c o,H c=My o->B c=My (j+2)->H' c=My o:=λc o Q u=>t.kp c o Q (λb l z=>⟨λy=>(by subst y;rw[(ok.bgt _ _ z).1]at u;cases u),λy=>(by subst y;rw[(ok.bgt _ _ z).2]at u;cases u)⟩);exact⟨c,qs,R,by simp only[PL (N c (by rw[C];simp))];exact A,Z c _ C A,T,RowL.tr tr e5 λr xs _ p y=>⟨by simp only[PL (N r (by rw[y];simp))];exact p,Z r _ y p⟩⟩
end
section
variable{X:Cx}{E:St->XK}{K:P6}{st:Q6}{H₀:Hp}{B:Ow}{bg:Option (PD×PD)}{H H':Hp}{δ:Ds}{β β':Bg}{σ:St}
def nV(i:Nat)(f:Dn->M (List (List D))):G:=λδ β=>match f (vw δ) β with
 |some (.ok rows,β1)=>if(rows.all noLs)=Pt then My (.nx (δ.set i (My (.grd rows))),β1)else Po
 |some (.error C,β1)=>My (.ex C δ,β1)
 |none=>Po
theorem sx(h:PS X st (jC (tVG X.K f E) (eQ i))):PS X st (tG X.K X.H₀ (nV i f) E):=h.imp λD σ H g=>by
 obtain⟨B,bg,δ,β,o,β',ok,e,q⟩:=g;refine⟨FxB B bg,vw δ,β,ok.fr,ok.view,?_⟩;unfold nV at e;split at e
 ·rename_i rows β1 b
  split at e
  ·rename_i hn
   cases e;refine⟨.ok rows,_,b,λv H' t hd=>?_⟩;obtain⟨j,a,c⟩:=ok.newGrd (i:=i) t (λds d=>SE.mp hn ds d) hd;exact q _ _ _ c a
  ·cases e
 ·rename_i C β1 b
  cases e;refine⟨.error C,_,b,λH' t=>?_⟩;obtain⟨a,c⟩:=ok.to rfl t;exact q _ B H' c a
 ·cases e
theorem RowL.put{H:Hp}(t:Tr F H F (upd H r (.lst xs)))(hd:DenL K F (upd H r (.lst xs)) ds xs):∀{rows:List (List D)} {rs:List PD} (j:Nat),RowL K F H P rows rs->rs.Nodup->rs[j]?=My r->RowL K F (upd H r (.lst xs)) P (rows.set j ds) rs
 |d0::rows,r0::rs,0,h,nd,e=>by
  obtain rfl:r0=r:=by simpa using e
  have ne:∀a∈rs,a≠r0:=λa b z=>(QC.mp nd).1 (z▸b);exact⟨h.1,⟨xs,af,hd⟩,RowL.tr t h.2.2 λa ys b p q=>⟨p,by rw[upd_ne (ne a b)];exact q⟩⟩
 |d0::rows,r0::rs,j+1,h,nd,e=>by
  have c:rs[j]?=My r:=by simpa using e
  obtain⟨d,⟨ys,f,g⟩,i⟩:=h;have ne:r0≠r:=λz=>(QC.mp nd).1 (z▸Qb c);exact⟨d,⟨ys,by rw[upd_ne ne];exact f,DenL.tr t _ _ g⟩,RowL.put t hd j i (QC.mp nd).2 c⟩
 |[],[],_,_,_,e=>by simp at e
 |[],_::_,_,h,_,_=>h.elim
 |_::_,[],_,h,_,_=>h.elim
theorem RowL.at{H:Hp}:∀{rows:List (List D)} {rs:List PD} {j:Nat} {ds:List D},RowL K F H P rows rs->rows[j]?=My ds->∃r xs,rs[j]?=My r/\P r/\H r=My (.lst xs)/\DenL K F H ds xs
 |d0::rows,r0::rs,0,ds,h,e=>by
  obtain rfl:d0=ds:=by simpa using e
  obtain⟨a,⟨ys,b,c⟩,g⟩:=h;exact⟨r0,ys,rfl,a,b,c⟩
 |d0::rows,r0::rs,j+1,ds,h,e=>by
  obtain⟨r,xs,d,f⟩:=RowL.at h.2.2 (j:=j) (ds:=ds) (by simpa using e);exact⟨r,xs,by simpa using d,f⟩
 |[],[],_,_,_,e=>by simp at e
 |[],_::_,_,_,h,_=>h.elim
 |_::_,[],_,_,h,_=>h.elim
theorem SOk.writeRow{rs:List PD}{rows:List (List D)}(ok:SOk K H₀ B bg H δ β σ)(hs:σ[i]?=My (My (.ref a)))(hB:B a=My (i+2))(ha:H a=My (.lst (rs.map V.ref)))(nd:(a::rs).Nodup)(J:RowL K (FxB B bg) H (λr=>B r=My (i+2)) rows rs)(L:rs[j]?=My r)(R:H r=My (.lst ys))(hd:DenL K (FxB B bg) H ds xs):
  SOk K H₀ B bg (upd H r (.lst xs)) (δ.set i (My (.grd (rows.set j ds)))) β σ/\Stp B H B (upd H r (.lst xs)):=by
 have t:r∈rs:=Qb L;have f:B r=My (i+2):=(J.all r t).1;have m:Stp B H B (upd H r (.lst xs)):=by
  refine⟨λc o h n=>?_,λ_ _=>rfl,λ_ _ _ n=>n,λc u=>?_⟩
  ·rw[upd_ne]
   ·exact h
   ·intro z;subst z;rw[f]at n;rcases n with n|n<;>cases n
  ·by_cases z:c=r
   ·subst z;rw[af];simp
   ·rw[upd_ne z];exact u
 have tr:Tr (FxB B bg) H (FxB B bg) (upd H r (.lst xs)):=m.tr;refine⟨⟨⟨λc u z=>?_,ok.fr.bgA,λb l e=>?_⟩,ok.bgt,by rw[QB,ok.len],λa ha=>m.al a (ok.cov a ha),ok.new,λc k u=>(by
  by_cases z:c=r
  ·subst z;exact⟨xs,af⟩
  ·rw[upd_ne z];exact ok.lst c k u),λk s e=>?_⟩,m⟩
 ·by_cases q:c=r
  ·subst q;rw[af]at z;cases z
  ·rw[upd_ne q]at z;exact ok.fr.occ c u z
 ·obtain⟨b1,b2⟩:=ok.bgt b l e
  rw[upd_ne (λz=>by subst z;rw[f]at b1;cases b1),upd_ne (λz=>by subst z;rw[f]at b2;cases b2)];exact ok.fr.bag b l e
 ·rw[Q2]at e
  by_cases q:i=k
  ·subst q
   rw[PP rfl]at e;split at e
   ·cases e
    have w:a≠r:=λz=>(QC.mp nd).1 (z▸t);exact⟨_,hs,a,rs,rfl,hB,by rw[upd_ne w];exact ha,nd,RowL.put tr (DenL.tr tr _ _ hd) j J (QC.mp nd).2 L⟩
   ·cases e
  ·rw[PL q]at e
   obtain⟨v,O,y⟩:=ok.tell k s e;refine⟨v,O,?_⟩;have A:∀c,B c=My (k+2)->c≠r:=λc g z=>by subst z;rw[f]at g;cases g;exact q rfl
   cases s with
   |sh d=>exact Den.tr tr _ _ y
   |own cs=>
    obtain⟨c,N,C,g,F,I⟩:=y;exact⟨c,N,C,g,by rw[upd_ne (A c g)];exact F,DenL.tr tr _ _ I⟩
   |grd rows2=>
    obtain⟨c,P,C,g,F,I,Q⟩:=y;exact⟨c,P,C,g,by rw[upd_ne (A c g)];exact F,I,RowL.tr tr Q λr N _ p q=>⟨p,by rw[upd_ne (A r p)];exact q⟩⟩
def mK(i:Nat):G:=λδ β=>match δ.getD i Po with
 |some (.grd rows)=>My (.rg rows,β)
 |_=>Po
theorem yW(h:PS X (.Return (My e) pos) (wT (kY i))):PS X (.Return (My e) pos) (tG X.K X.H₀ (mK i) E):=h.imp λD σ H b=>by
 obtain⟨B,bg,δ,β,o,β',ok,e,q⟩:=b;unfold mK at e;split at e
 ·rename_i rows c
  cases e;obtain⟨v,d,a,rs,rfl,hB,ha,nd,f⟩:=ok.tell i _ (getD_some c);exact⟨_,d,q _ B H (Stp.refl B H) ok.fr ⟨a,rs,rfl,ok.new a i hB,ha,nd,RowL.tr (Tr.refl _ _) f λr xs _ p y=>⟨ok.new r i p,y⟩⟩⟩
 ·cases e
def gc(f:Dn->M (List (List D))):G:=λδ β=>match f (vw δ) β with
 |some (.ok rows,β1)=>My (.rg rows,β1)
 |some (.error C,β1)=>My (.ex C δ,β1)
 |none=>Po
theorem jN(h:PS X (.Return (My e) pos) (wT (tVG X.K f E))):PS X (.Return (My e) pos) (tG X.K X.H₀ (gc f) E):=h.imp λD σ H j=>by
 obtain⟨B,bg,δ,β,o,β',ok,e,q⟩:=j;refine⟨FxB B bg,vw δ,β,ok.fr,ok.view,?_⟩;unfold gc at e;split at e
 ·rename_i rows β1 d
  cases e;refine⟨.ok rows,_,d,λv H' t hd=>?_⟩;obtain⟨b,g⟩:=ok.to rfl t;have i:∀c,H c=Po->X.H₀ c=Po:=λc k=>by
   cases w:X.H₀ c with
   |none=>rfl
   |some o=>exact Ql k (ok.cov c (by rw[w];simp))
  obtain⟨a,rs,rfl,l,m,nd,n⟩:=hd;exact q _ B H' g b.fr ⟨a,rs,rfl,i a l,m,nd,RowL.tr (Tr.refl _ _) n λr xs _ p y=>⟨i r p,y⟩⟩
 ·rename_i C β1 d
  cases e;refine⟨.error C,_,d,λH' t=>?_⟩;obtain⟨b,g⟩:=ok.to rfl t;exact q _ B H' g b
 ·cases e
end
def spG(K:P6)(n:Nat)(m:List D->M (List (List D))):Sp:=λvs H Q E=>vs.length=n/\∃F ds β,Fr F H β/\DenL K F H ds vs/\run (gX K F H) F (λ_=>E) [] (m ds) H Q β
def iB(n:Nat)(g:G):List D->M (List (List D)):=λds β=>match g (stD n ds) β with
 |some (.rg rows,β')=>My (.ok rows,β')
 |some (.ex C _,β')=>My (.error C,β')
 |_=>Po
section
variable{P:Qu}{w:QH}{K:P6}{mg:Qz->Option PH}{base:Q0}
theorem mP{st:Q6}{N ps:List Qz}(n m:Nat)(g:G)(F:FunD K x qual st f fd)(S:FnScope N ps (ae st))(R:ps.length=n)(T:N.length=m)
  (I:∀(i:PH) (A:QU) (outer:List WN) (s:PM) (H:Hp) (E:XK),Room k (A.deeper (Um qual (ae st) s.heap.objs.size f i))->
   PSs (c7 (CXE P w) P w K mg base N qual (ae st) f i A outer s H E) (cc st) (tG K H g (λ_=>E))):FnOk P w K mg base (CXE P w) (k+1) f fd ps (spG K n (iB m g)):=by
 subst R T;refine F.okE S (λvs H Q E h=>h.1) λi A outer s H vs Q E hr h=>?_;obtain⟨hl,J,ds,β,fr,hd,r,j,e,h⟩:=h;refine⟨_,I i A outer s H E hr,?_⟩;obtain⟨B,ok,U,h1,hn⟩:=tE (N:=N) fr hd;have O:∀{L:Ow} {c:Hp},Stp B H L c->Fr (FxB L J.bg) c j->To J H c j/\Tr (FxB L J.bg) c J c:=λ{L c} s u=>by
  have hs:∀a,J.A a->L a≠Po:=λa ha=>by
   rw[s.tg a (U a ha)];rcases U a ha with z|z<;>rw[z]<;>simp
  refine⟨⟨λa o ha n=>s.kp a o ha ?_,λa ha=>u.occ a (hs a ha),λb l e=>fr.bgA b l e,u.bag⟩,λa ha _ z=>ha (hs a z),λ_ _ _ h=>h,rfl⟩;cases q:B a with
  |none=>exact .inl rfl
  |some t=>
   have:=U a (hn a (by rw[q];simp));rcases this with z|z
   ·rw[q]at z;exact .inr z
   ·obtain⟨b,l,e,w⟩:=h1 a z
    obtain⟨W,n2⟩:=n b l e;rcases w with w|w
    ·exact Ql w W
    ·exact Ql w n2
 unfold iB at e;split at e
 ·rename_i d β1 X
  cases e;refine⟨B,J.bg,stD N.length ds,β,.rg d,j,ok,X,λv L c s u hv=>?_⟩;obtain⟨Y,t2⟩:=O s u;obtain⟨a,rs,ev,n0,W,nd,rl⟩:=hv;exact h v c Y ⟨a,rs,ev,n0,W,nd,RowL.tr t2 rl λr xs _ p y=>⟨p,y⟩⟩
 ·rename_i C Z β1 X
  cases e;refine⟨B,J.bg,stD N.length ds,β,.ex C Z,j,ok,X,λσ' L c s ok'=>?_⟩;obtain⟨Y,t2⟩:=O s ok'.fr;exact h c Y
 ·cases e
end
section
variable{X:Cx}{E:St->XK}{e:Expr}{es:List Expr}{pos p:Uh}{x:Qz}{k n:Nat}{f:PD}{fd:Qi}{ps:List Qz}
def i9(m:List D->M (List (List D)))(g:FL):Dn->M (List (List D)):=λδ=>M.bind (g δ) λas=>m as
theorem gX.pre{K:P6}(t:To F H H1 β1)(h:gX K F H1 H' rows v):gX K F H H' rows v:=by
 obtain⟨a,rs,b,c,d,nd,g⟩:=h;exact⟨a,rs,b,t.none c,d,nd,RowL.tr (Tr.refl _ _) g λr xs _ p y=>⟨t.none p,y⟩⟩
theorem j6(G:FnOk X.prog X.w X.K X.mg X.base (CXE X.prog X.w) k f fd ps (spG X.K n m))(u:Room k X.A)(y:Gl X x)(hm:X.mg x=My (.ref f))(B:Vl X.K (.ref f)=Pt)(I:ax X.K fd ps [])(J:bS (CXE X.prog X.w) X E)
  (ha:PA X (e::es) (tVA X.K g E)) (hn:∀δ β r c,g δ β=My (.ok r,c)->r.length=n) (a:(x==("__debug__":Qz))=Pz:=by decide) (L:PX (e::es) X.env=(Pz,QW e X.env)::PX es X.env:=by rfl) (b:(RP pos (PX es X.env)).any (·.1)=Pz:=by rfl):
  PE X (.Call (.Name x p) (e::es) [] pos) (tVG X.K (i9 m g) E):=
 (mw G u y hm B I .nil J ha a L b).imp λσ H Q N=>ex6 N λF δ β fr O r=>⟨F,δ,β,fr,O,by
  obtain⟨r0,d,i,j⟩:=run.bind (R:=DenL X.K F) r;refine⟨r0,d,i,?_⟩;cases r0 with
  |error C=>exact j
  |ok ds=>
   intro vs P t hd;obtain⟨d',β1,l,h,r1⟩:=j vs P t hd;have T:=hn _ _ _ _ i;refine⟨by rw[Qx,←hd.length,T],F,d',β1,l.fr,by rw[Qx];exact h,?_⟩;obtain⟨o,β2,U,q⟩:=r1;refine⟨o,β2,U,?_⟩;cases o with
   |ok rows=>exact λv W Y Z=>q v W Y (gX.pre l Z)
   |error C=>exact q⟩
end
section
variable{X:Cx}{E:St->XK}{K:P6}{elt target iter:Expr}{ifs:List Expr}{rest:List RA}{scope:Scope}{pos:Uh}{Nc vars:List Qz}{caps:List Nat}{g:TG}{tb:PD->TB}
theorem LC{a c:Uh}(j:X.N.Nodup)(d:X.N[i]?=My x)(k:Loc X.env.scope x)(l:X.calm=Pt)(S:CmpScope X scope Nc vars caps)(m:PI X target iter (iV X.K it E))
  (n:∀(cl:List (Qz×PD)) (C:PD) (f:List PD) (s:PM) (H:Hp),PG (aE X Nc scope cl C f s H) target g/\dG (aE X Nc scope cl C f s H) ifs (tVT X.K tt E0)/\∀D,PB (aE X Nc scope cl C f s H) elt (⟨target,iter,ifs,0⟩::rest) scope pos 0 D (tb D))
  (o:cM X.K g tg) (p:dT tg) (q:∀D,pT X.K D (tb D) b)
  (e:Ue (.ListComp elt (⟨target,iter,ifs,0⟩::rest) scope pos) (My (.Name x a)) c.line X.env=R6 Pt:=by rfl)
  (hs:∀x,QR iter X.env x=R6 x:=by intro _;rfl) (r:X.fn x=Pt\/X.env.scope.names.lookup x=My .local:=by first|exact .inl rfl|exact .inr rfl|assumption):
  PS X (.Assign [.Name x a] (.ListComp elt (⟨target,iter,ifs,0⟩::rest) scope pos) c) (tG X.K X.H₀ (nV i (gR vars.length caps it tg tt b)) E):=
 sx ((vU j d k l S m n e hs r).imp λD t H h=>qO o p q h)
end
end L2.Pu
namespace L2
open PySem PySem.Spec PyProof.Rows
section
variable{X:Cx}
theorem ER{bs:List Bool}{its:List PH}(r:ar (bs.map V.bl) its){i:Nat}{v:PH}(h:its.toArray[i]?=My v):v= .bool (bs.getD i Pz):=by
 have h':its[i]?=My v:=by simpa using h
 have a:=r.length;rw[Pp]at a;have b:i<bs.length:=by rw[a];exact(PU.mp h').1
 obtain⟨u,c,d⟩:=r.get (i:=i) (x:=V.bl bs[i]) (by rw[Py,Pw b];rfl);rw[h']at c;cases c;rw[Px,Pw b];exact d
theorem y9{α:Type}(f:Bool->Bool)(bs:List Bool):(PR bs.length).map (λi=>bs.getD i Pz)=bs:=by
 apply Zg;intro i;rw[Py];by_cases h:i<bs.length
 ·rw[Ri h,Pw h]
  simp[Px,Pw h]
 ·rw[Uf (by simpa using h),Uf (by omega)];rfl
theorem za(bs:List Bool):((PR bs.length).any λi=>bs.getD i Pz)=bs.any id:=by
 conv=>rhs;rw[←y9 (α:=Bool) id bs]
 rw[List.any_map];rfl
theorem jz(l:X.calm=Pt):db X (.builtin "any") (λxs H Q=>∃(a:PD) (bs:List Bool),xs=[.ref a]/\SqL X.K H a (bs.map V.bl)/\Q (.bl (bs.any id)) H):=by
 intro j s y H xs us Q I r h;obtain⟨a,bs,rfl,m,q⟩:=h;cases r with
 |cons r1 n=>
  cases r1;cases n;obtain⟨its,k,p,B⟩:=I.list m;have f:=p.isList;have c:its.toArray.size=bs.length:=by rw[Qa,←k.length,Pp]
  have d:∀b o,s.heap.get? b=My o->b≠s.heap.objs.size:=λb o e z=>by
   rw[z,Yn (PN _)]at e;cases e
  have g:a≠s.heap.objs.size:=by
   obtain⟨o,e,_⟩:=f;exact d a o e
  have W:=Walks.list (prog:=X.prog) (w:=X.w) (A:=X.A.in1) (show X.A.in1.handled=Po from I.ok.hd l) s.heap.objs.size a g its.toArray;refine call_any_walk (Vv f ⟨s.heap.objs.size,[s.heap.objs.size,a],[s.heap.objs.size],its.toArray.size,_,_,λi=>bs.getD i Pz,rfl,W,⟨⟨_,P4 s.heap rfl,rfl,rfl⟩,f.push _⟩,λi v s' C F t q'=>?_,λh' J u=>?_⟩)
  ·rw[ER k t]
   exact Rf q'
  ·rw[c,za]
   exact⟨.bl (bs.any id),H,I.kept λb o e=>u b o (λz=>d b o e (by simpa using z)) (Pr _ e),rfl,q⟩
end
end L2
namespace L2.Pu
open PySem PySem.Spec PyProof.Rows
noncomputable def dR:List D->Option (List Bool)
 |[]=>My []
 | .bl b::r=>(dR r).map (b::·)
 |_=>Po
theorem np{K:P6}:∀{ds:List D} {xs:List V} {bs:List Bool},dR ds=My bs->DenL K F H ds xs->xs=bs.map V.bl
 |[],xs,bs,e,h=>by
  cases e;cases h;rfl
 |d::ds,xs,bs,e,h=>by
  obtain⟨x,f,rfl,a,c⟩:=h;cases d<;>first
   |(rename_i b
     cases q:dR ds with
     |none=>simp[dR,q]at e
     |some r=>
     simp[dR,q]at e;subst e;cases a.bl;rw[np q c];rfl)
   |simp[dR]at e
def yf:List D->Option D
 |[.lst ds]=>(dR ds).map λbs=> .bl (bs.any id)
 |_=>Po
variable{K:P6}
theorem sI:eU K (λxs H Q=>∃(a:PD) (bs:List Bool),xs=[.ref a]/\SqL K H a (bs.map V.bl)/\Q (.bl (bs.any id)) H) yf:=λF H β Q ds d vs fr h e k=>by
 unfold yf at e;split at e
 ·obtain⟨v,rfl,g⟩:=DenL.one h
  obtain⟨a,xs,rfl,r,dl⟩:=Den.sqL g;obtain⟨bs,q,e⟩:=Vp.mp e;subst e;rw[np q dl]at r;exact⟨a,bs,rfl,r,k _ H (To.refl fr) rfl⟩
 ·cases e
end L2.Pu
namespace L2
open PySem PySem.Spec PyProof.Rows
section
variable{X:Cx}{a b c d:Expr}{ta tb tc td:TE}{pos:Uh}
def Op(i e:R2)(tc td:TE)(y:V):TE:=λf H Q=>tc f H λw j=>i y w j λk g=>∃h,k= .bl h/\(if h=Pt then td f g λl m=>e w l m Q else Q (.bl Pz) g)
def vD(r h e:R2)(ta tb tc td:TE):TE:=λf H Q=>ta f H λx i=>tb f i λy j=>r x y j λz g=>∃k,z= .bl k/\(if k=Pt then Op h e tc td y f g Q else Q (.bl Pz) g)
theorem zb(C:OpR X (Q8 op) r)(l:OpR X (Q8 op') r')(i:OpR X (Q8 op'') r'')(ha:PE X a ta)(F:PE X b tb)(J:PE X c tc)(hd:PE X d td)
  (hm:Za [op,op',op''] [b,c,d]=Pz:=by with_unfolding_all rfl):PT X (.Compare a [op,op',op''] [b,c,d] pos) (wS (vD r r' r'' ta tb tc td)):=by
 intro f s g H Q I h;refine isTrue_chain (thn (ha f s g H _ I h) λv L ⟨x,N,O,r1,q1⟩=>test_link (thn (F f L g N _ O q1) λu P ⟨y,R,T,n,q2⟩=>
  thn (C f P g R x y v u _ T r1 n q2) λdd U ⟨z,o,p,W,k,e,q3⟩=>?_)) hm
 subst e;cases W;refine Rf ?_;cases k with
 |false=>
  obtain⟨m,j,q'⟩:=q3;cases j;exact ite_ff ⟨o,p,q'⟩
 |true=>
  refine ite_tt (test_link (thn (J f U g o _ p q3) λq Y ⟨t,Z,I4,w,q4⟩=>thn (l f Y g Z y t u q _ I4 n w q4) λdd s5 ⟨z',A,B,r5,m,j,q5⟩=>?_));subst j;cases r5;refine Rf ?_;cases m with
  |false=>
   obtain⟨m,j,q'⟩:=q5;cases j;exact ite_ff ⟨A,B,q'⟩
  |true=>
   refine ite_tt (test_last (thn (hd f s5 g A _ B q5) λw' s6 ⟨z2,H6,I6,r6,q6⟩=>thn (i f s6 g H6 t z2 q w' _ I6 w r6 q6) λd' s7 ⟨z3,H7,I7,r7,k3,e3,q7⟩=>?_));subst e3;cases r7;exact Rf ⟨H7,I7,q7⟩
end
end L2
namespace L2.Pu
open PySem PySem.Spec PyProof.Rows
section
variable{X:Cx}{E:St->XK}{a b c d:Expr}{pos:Uh}{K:P6}
def Pc(f e:D->D->Option D)(h i:FD)(y:D):FD:=λδ=>M.bind (h δ) λw=>M.bind (M.ofO (f y w)) λz=>M.bind (M.ofO (asB z)) λc=>if c=Pt then M.bind (i δ) (λg=>M.ofO (e w g))else M.ret (.bl Pz)
def wq(o j e:D->D->Option D)(f g h i:FD):FD:=λδ=>M.bind (f δ) λa=>M.bind (g δ) λb=>M.bind (M.ofO (o a b)) λz=>M.bind (M.ofO (asB z)) λc=>if c=Pt then Pc j e h i b δ else M.ret (.bl Pz)
theorem run.later{α i:Type}{R:Hp->α->i->Prop}{F:Fx}{j:St}{m:M α}{H k:Hp}{Q:i->Hp->Prop}{β:Bg}(t:To F H k β)(h:run R F E j m H Q β):run R F E j m k Q β:=by
 obtain⟨l,f,e,q⟩:=h;refine⟨l,f,e,?_⟩;cases l with
 |ok d=>exact λv g tt=>q v g (t.trans tt)
 |error C=>exact λg tt=>q g (t.trans tt)
theorem wV(l:aP K r o)(l':aP K r' o')(O:aP K r'' o'')(P:tV K (wq o o' o'' f g h i) E σ H Q):vD r r' r'' (tV K f E) (tV K g E) (tV K h E) (tV K i E) σ H Q:=by
 obtain⟨F,δ,β,fr,T,P⟩:=P;refine⟨F,δ,β,fr,T,(run.bind (R:=Den K F) P).mono λv H1 n=>ex5 n λd β1 t hd r1=>⟨F,δ,β1,t.fr,T.tr (t.tr fr),(run.bind (R:=Den K F) r1).mono λv2 H2 n=>ex5 n λd2 β2 p u r2=>?_⟩⟩;obtain⟨z,ez,r3⟩:=run.ofO_bind r2;obtain⟨c,ec,L⟩:=run.ofO_bind r3;rw[jd ec]at ez;have U:=T.tr ((t.tr fr).trans (p.tr t.fr));refine l F H2 β2 _ d d2 _ v v2 p.fr (Den.tr (p.tr t.fr) _ _ hd) u ez λvz H3 j hz=>⟨c,hz,?_⟩;cases c with
 |true=>
  rw[PP rfl]at L;have W:=Den.tr (j.tr p.fr) _ _ u;have y:=U.tr (j.tr p.fr);have r5:=run.later j L;refine⟨F,δ,β2,j.fr,y,(run.bind (R:=Den K F) r5).mono λw H4 n=>ex5 n λdw A B C r6=>?_⟩;obtain⟨z',I,r7⟩:=run.ofO_bind r6;obtain⟨c',Y,N⟩:=run.ofO_bind r7;rw[jd Y]at I;refine l' F H4 A _ d2 dw _ v2 w B.fr (Den.tr (B.tr j.fr) _ _ W) C I λvz' H5 m Z=>⟨c',Z,?_⟩;cases c' with
  |true=>
   rw[PP rfl]at N;refine⟨F,δ,A,m.fr,y.tr ((B.tr j.fr).trans (m.tr B.fr)),(run.bind (R:=Den K F) (run.later m N)).mono λw' H6 ⟨dw',β6,t6,J,r9⟩=>?_⟩;obtain⟨d3,e3,k⟩:=run.ofO r9;exact O F H6 β6 Q dw dw' d3 w w' t6.fr (Den.tr ((m.tr B.fr).trans (t6.tr m.fr)) _ _ C) J e3 k
  |false=>
   rw[PL PQ]at N;obtain⟨rr,β',e,q⟩:=N;cases e;exact q _ H5 m rfl
 |false=>
  rw[PL PQ]at L;obtain⟨rr,β',e,q⟩:=L;cases e;exact q _ H3 j rfl
theorem BT(m:OpR X (Q8 op) r)(j:OpR X (Q8 op') r')(e:OpR X (Q8 op'') r'')(l:aP X.K r o)(n:aP X.K r' o')(k:aP X.K r'' o'')(ha:PE X a (tV X.K f E))(p:PE X b (tV X.K g E))(t:PE X c (tV X.K h E))(hd:PE X d (tV X.K i E))(hm:Za [op,op',op''] [b,c,d]=Pz:=by with_unfolding_all rfl):
  PT X (.Compare a [op,op',op''] [b,c,d] pos) (tVT X.K (fB (wq o o' o'' f g h i)) E):=(zb m j e ha p t hd hm).imp λu H Q q=>wV l n k (nu q)
end
section
variable{X:Cx}{E:St->XK}{K:P6}{st:Q6}{H₀:Hp}{B:Ow}{bg:Option (PD×PD)}{H H':Hp}{δ:Ds}{β β':Bg}{σ:St}
theorem mem_set_or{α:Type}{x y:α}:∀{l:List α} {j:Nat},x∈l.set j y->x=y\/x∈l
 |[],_,h=>by cases h
 |a::l,0,h=>by
  rcases PZ.mp h with rfl|h
  ·exact .inl rfl
  ·exact .inr (Ps _ h)
 |a::l,j+1,h=>by
  rcases PZ.mp h with rfl|h
  ·exact .inr PF
  ·rcases mem_set_or h with z|z
   ·exact .inl z
   ·exact .inr (Ps _ z)
theorem SOk.AtoB(ok:SOk K H₀ B bg H δ β σ):∀c,(FxB B bg).A c->(FxA B bg).A c\/∃xs,H c=My (.lst xs):=λc b=>by
 have a:B c≠Po:=b;cases q:B c with
 |none=>exact Ql q a
 |some k=>
  match k,q with
  |0,q=>exact .inl (.inl q)
  |1,q=>exact .inl (.inr q)
  |k+2,q=>exact .inr (ok.lst c k q)
theorem SOk.noB(ok:SOk K H₀ B bg H δ β σ)(hn:noL d=Pt)(h:Den K (FxA B bg) H d v):Den K (FxB B bg) H d v:=v6 ok.AtoB d v hn h
def pB(i:Nat)(a b c:FD):G:=λδ β=>match c (vwA δ) β with
 |some (.ok d,β1)=>match a (vwA δ) β1 with
  |some (.ok (.int ka),β2)=>match b (vwA δ) β2 with
   |some (.ok (.int kb),β3)=>match δ.getD i Po with
    |some (.grd rows)=>match ixN rows.length ka with
     |some ja=>match rows[ja]? with
      |some ds=>match ixN ds.length kb with
       |some jb=>if noL d=Pt then My (.nx (δ.set i (My (.grd (rows.set ja (ds.set jb d))))),β3)else Po
       |none=>Po
      |none=>Po
     |none=>Po
    |_=>Po
   |_=>Po
  |_=>Po
 |_=>Po
theorem tW(h:PS X st (jC (tV X.K fv E) (MM (tOp (xb X.K) (kY i) (tV X.K fa E)) (tV X.K fb E) IC))):PS X st (tG X.K X.H₀ (pB i fa fb fv) E):=h.imp λD σ H h_=>by
 obtain⟨B,bg,δ,β,o,β',ok,e,q⟩:=h_;refine⟨FxA B bg,vwA δ,β,ok.frA,ok.viewA,?_⟩;unfold pB at e;split at e
 ·rename_i d β1 e1
  refine⟨.ok d,_,e1,λv H1 t1 hd=>?_⟩;obtain⟨c,s1⟩:=ok.to rfl t1;split at e
  ·rename_i ka β2 e2
   split at e
   ·rename_i kb β3 e3
    split at e
    ·rename_i rows N
     split at e
     ·rename_i ja ea
      split at e
      ·rename_i ds Z
       split at e
       ·rename_i jb eb
        split at e
        ·rename_i O
         cases e;have hd:=c.noB O hd;obtain⟨w,L,a,rs,rfl,hB,ha,nd,rl⟩:=c.tell i _ (getD_some N);refine⟨_,L,FxA B bg,vwA δ,β1,c.frA,c.viewA,.ok (.int ka),β2,e2,λy H2 t2 hy=>?_⟩;cases hy;obtain⟨g,s2⟩:=c.to (F:=FxA B bg) rfl t2;obtain⟨w2,h2,a2,f,ew,j,k,nd2,m⟩:=g.tell i _ (getD_some N);rw[L]at h2;cases h2;cases ew;obtain⟨r,xs,P,hp,hx,dl⟩:=m.at Z;refine⟨a,f.map V.ref,ka,.ref r,rfl,rfl,SqL.of k,?_,?_⟩
         ·unfold atI
          rw[Pp,←m.len,ea];show(f.map V.ref)[ja]?=_;rw[Py,P];rfl
         ·refine⟨FxA B bg,vwA δ,β2,g.frA,g.viewA,.ok (.int kb),_,e3,λz H3 t3 hz=>?_⟩
          cases hz;obtain⟨n,s3⟩:=g.to (F:=FxA B bg) rfl t3;obtain⟨w3,h3,a3,p,Q,R,t,T,u⟩:=n.tell i _ (getD_some N);rw[L]at h3;cases h3;cases Q;have U:f=p:=by
           have k1:H3 a=My (.lst (f.map V.ref)):=t3.kp a _ k (λb l y=>⟨λw=>(by subst w;rw[(ok.bgt _ _ y).1]at j;cases j),λw=>(by subst w;rw[(ok.bgt _ _ y).2]at j;cases j)⟩);rw[t]at k1;have k2:p.map V.ref=f.map V.ref:=by injection k1 with k1;injection k1
           exact(Wb (λa b q=>by cases q;rfl)|>.mp k2).symm
          subst U;obtain⟨r',A,C,hp',I,J⟩:=u.at Z;rw[P]at C;cases C;have W:Den X.K (FxB B bg) H3 d v:=Den.tr (s3.tr) _ _ (Den.tr (s2.tr) _ _ hd);refine⟨r,A,kb,jb,rfl,rfl,I,by rw[←J.length];exact eb,?_⟩;obtain⟨Y,s4⟩:=n.writeRow (ds:=ds.set jb d) (xs:=A.set jb v) L R t T u P I (DenL.set jb J W);exact q _ _ _ (s1.trans (s2.trans (s3.trans s4))) Y
        ·cases e
       ·cases e
      ·cases e
     ·cases e
    ·cases e
   ·cases e
  ·cases e
 ·cases e
end
section
variable{X:Cx}{E:St->XK}{K:P6}{a b e:Expr}{es:List Expr}{pos:Uh}
def o2(op:D->D->Option (List D))(f g:FD):FL:=λδ=>M.bind (f δ) λa=>M.bind (g δ) λb=>M.ofO (op a b)
end
noncomputable def Ite(K:P6)(l:PD):It:=
 ⟨λi H=>∃xs x,SqL K H l xs/\xs[i]?=My x,
  λi H v a=>∃p x,H p=Po/\v= .ref p/\a=upd H p (.tup [.int (i:Int),x])/\∀xs,SqL K H l xs->xs[i]?=My x,
  λi H=>∃xs,SqL K H l xs/\xs.length=i⟩
theorem yw{K:P6}{x1}(l e it:PD)(p:e≠it):
  Turn P w K (.Tuple elts x1 pos) (Ite K l) [e,it] e (λi h=>(∃a,IsEnum h e it (i:Int) a)/\h.IsListIter it l i) where
 mem:=by simp
 obj:=λi h st b f=>by
  obtain⟨⟨a,g⟩,j⟩:=st;simp only[PZ,Rl,Ub]at f;rcases f with rfl|rfl
  ·exact⟨_,g,λv q=>by cases q⟩
  ·obtain⟨o,q,_,d⟩:=j
   exact⟨o,q,λv z=>by rw[d]at z;cases z⟩
 keep:=λi h h' st k=>by
  obtain⟨⟨a,g⟩,j⟩:=st;exact⟨⟨a,k e (by simp) _ g⟩,j.at λo q=>k it (by simp) o q⟩
 item:=by
  intro X C F J L i m s U H E I r st N;subst C F J;obtain⟨xs,x,q1,O⟩:=N;obtain⟨⟨a,g⟩,j⟩:=st;obtain⟨c,r1,Q⟩:=Inv.src (b:=Pt) I q1;have hd:=I.ok.hd L;have ne:l≠e:=Inv.src_ne (b:=Pt) I q1 (r e (by simp));have R:l≠it:=Inv.src_ne (b:=Pt) I q1 (r it (by simp));have k1:i<c.toArray.size:=by
   rw[Qa,←r1.length];exact(PU.mp O).1
  refine wpAny_pyNext_enum_itemD (Yx (show(X.A.in1).handled=Po from hd) it l R c.toArray) g ⟨j,Q⟩ k1 p (by simp[p,ne.symm]) λu h' T Y Z f1 fT sz kp=>?_;refine⟨_,rfl,wpAny_letOwnedTupleGo_enum (s:={s with heap:=h',toks:=T+1}) Z λt y B=>?_⟩
  replace B:Qr e h' t:=B
  have zT:s.heap.objs.size≠e:=Se (Qj g);obtain⟨u',W,ru⟩:=r1.get O;have eu:u=u':=by
   have:c[i]?=My u:=by simpa using Y
   rw[this]at W;exact Qo W
  subst eu;have kk:∀b o,b∉[e,it]->s.heap.get? b=My o->t.get? b=My o:=λb o f q=>by
   simp only[PZ,Rl,Ub,not_or]at f;exact B.extBut b o f.1 (kp b o f.1 f.2 q)
  have I2:Inv X m U (upd H s.heap.objs.size (.tup [.int (i:Int),x])) {s with heap:=t,toks:=T+1}:=by
   refine Inv.turnNew I r kk (PN _) ⟨by show 2<=P0;decide,[.int i T,u],.cons ⟨_,rfl⟩ (.cons ru .nil),_,B.extBut _ _ zT fT,rfl,_,rfl⟩
  refine⟨.ref s.heap.objs.size,_,I2,rfl,⟨s.heap.objs.size,x,I.hok.fresh (PN _),rfl,rfl,λas h1=>by rw[Inv.src_inj (b:=Pt) I h1 q1];exact O⟩,⟨⟨_,by simpa using y⟩,?_⟩,λb f=>?_⟩
  ·exact f1.1.at λo q=>B.extBut _ _ p.symm q
  ·rw[upd_ne]
   ·exact(r b f).1
   ·intro q
    have ol:∃o,s.heap.get? b=My o:=by
     simp only[PZ,Rl,Ub]at f;rcases f with rfl|rfl
     ·exact⟨_,g⟩
     ·obtain⟨o,z,_⟩:=j;exact⟨o,z⟩
    obtain⟨o,z⟩:=ol;exact Ql (Qj z) (by rw[q];exact QS _)
 done:=by
  intro X C F J L i m s U H E I r st N;subst C F J;obtain⟨xs,q1,hl⟩:=N;obtain⟨⟨a,g⟩,j⟩:=st;obtain⟨c,r1,Q⟩:=Inv.src (b:=Pt) I q1;have hd:=I.ok.hd L;have R:l≠it:=Inv.src_ne (b:=Pt) I q1 (r it (by simp));have g1:c.toArray.size=i:=by rw[Qa,←r1.length,hl]
  refine wpAny_pyNext_enum_endD (n:=c.toArray.size) (Yx (show(X.A.in1).handled=Po from hd) it l R c.toArray) g (by rw[g1];exact⟨j,Q⟩) λh' kp=>⟨rfl,?_⟩;refine Inv.turnL (t':=s.toks) I r λb o f q=>?_;simp only[PZ,Rl,Ub,not_or]at f;exact kp b o f.2 q
 self:=λ_ _ _ _ _ st h=>by
  obtain⟨⟨a,g⟩,j⟩:=st;exact wpAny_pyIter_enum g h
section
variable{X:Cx}{E:St->XK}{K:P6}
def iEn(K:P6)(b:TA):TI:=λc H R=>b c H λvs a=>∃l xs,vs=[.ref l]/\SqL K a l xs/\R (Ite K l) a
theorem Kj{x1}(o:Gl X "enumerate")(hm:X.mg "enumerate"=Po)(ha:PA X [a] ta)(hs:PX [a] X.env=[(Pz,QW a X.env)]:=by rfl):
  PI X (.Tuple elts x1 tpos) (.Call (.Name "enumerate" p) [a] [] pos) (iEn X.K ta):=by
 intro d s j H R I h;refine Call_ (f8 I o hm PyProof.Rows.Boot.«enumerate» (Rr (thn (ha pos d s j H _ I h) λus f ⟨vs,k,i,r1,q1⟩=>?_) (by rw[hs];rfl) (by rfl)));obtain⟨l,xs,e,q1,q⟩:=q1;subst e;cases r1 with
 |cons r t=>
  cases t;cases r;obtain⟨u,A,v⟩:=Inv.src (b:=Pt) i q1;refine call_enumerate_list v λh' m w sz kp=>?_;refine wpAny_pyIter_enum (s:={f with heap:=h'}) m ?_;have y:Inv X d j k {f with heap:=h'}:=i.kept (t':=f.toks) kp;refine⟨_,[f.heap.objs.size+1,f.heap.objs.size],_,Ite X.K l,k,rfl,y,yw l (f.heap.objs.size+1) f.heap.objs.size (Nat.succ_ne_self _),⟨⟨_,m⟩,w⟩,λc n=>?_,q⟩;have g:f.heap.objs.size<=c:=by
   simp only[PZ,Rl,Ub]at n;rcases n with rfl|rfl
   ·exact Tt _ _
   ·exact PN _
  exact i.fpOk g (i.hok.fresh g)
noncomputable def cq:Nat->List D->List D
 |_,[]=>[]
 |n,x::xs=> .tup [.int (n:Int),x]::cq (n+1) xs
theorem gT:∀(n:Nat) (xs:List D),(cq n xs).length=xs.length
 |_,[]=>rfl
 |n,x::xs=>by
  show(cq (n+1) xs).length+1=xs.length+1;rw[gT (n+1) xs]
theorem lW:∀{n:Nat} {xs:List D} {i:Nat} {d:D},(cq n xs)[i]?=My d->∃x,xs[i]?=My x/\d= .tup [.int ((n+i:Nat):Int),x]
 |n,[],i,d,h=>by simp[cq]at h
 |n,x::xs,0,d,h=>by
  simp[cq]at h;exact⟨x,rfl,by rw[←h];simp⟩
 |n,x::xs,i+1,d,h=>by
  have h':(cq (n+1) xs)[i]?=My d:=by simpa[cq]using h
  obtain⟨a,b,c⟩:=lW h';exact⟨a,by simpa using b,by rw[c,show n+1+i=n+(i+1) by omega]⟩
def IW:List D->Option (List D)
 |[.lst xs]=>My (cq 0 xs)
 |_=>Po
theorem DU(j:∀b a,Tr F H b a->∃xs,SqL K a l xs/\DenL K b a ds xs):ItD K (Ite K l) F H (cq 0 ds):=λb a β2 t fr i=>by
 obtain⟨xs,c,d1⟩:=j b a t;refine⟨λd hd=>?_,λe=>?_⟩
 ·obtain⟨x,k,rfl⟩:=lW hd
  obtain⟨u,f,du⟩:=d1.get k;refine⟨⟨xs,u,c,f⟩,λz o m=>?_⟩;obtain⟨p,q,g,rfl,rfl,n⟩:=m;have h:=n xs c;rw[f]at h;cases h;rw[Rc];exact⟨bB.upd g,Den.newT fr g (DenL.cons rfl (DenL.cons du DenL.nil))⟩
 ·rw[gT]at e
  exact⟨xs,c,by rw[←d1.length,e]⟩
def IH(g:FL):FL:=cX IW g
theorem lS{x1}(m:Gl X "enumerate")(hm:X.mg "enumerate"=Po)(ha:PA X [a] (tVA X.K g E))(hs:PX [a] X.env=[(Pz,QW a X.env)]:=by rfl):
  PI X (.Tuple elts x1 tpos) (.Call (.Name "enumerate" p) [a] [] pos) (iV X.K (IH g) E):=
 (Kj m hm ha hs).imp λu H R d=>ex6 d λF δ β fr n h=>⟨F,δ,β,fr,n,(run.bind (R:=DenL X.K F) h).mono λvs b d=>by
  obtain⟨ds,β1,t,hd,r1⟩:=d;obtain⟨l,e,k⟩:=run.ofO r1;unfold IW at e;split at e
  ·rename_i xs
   cases e;obtain⟨v,rfl,j⟩:=DenL.one hd;have z:∃a,v= .ref a/\∀f c,Tr F b f c->∃ys,SqL X.K c a ys/\DenL X.K f c xs ys:=by
    obtain⟨a,ys,rfl,_⟩:=Den.sqL j;refine⟨a,rfl,λf c o=>?_⟩;obtain⟨w,i,q,sq,dl⟩:=Den.sqL (Den.tr o _ _ j);cases q;exact⟨i,sq,dl⟩
   obtain⟨a,rfl,z⟩:=z;obtain⟨us,r,_⟩:=z F b (Tr.refl F b);exact⟨a,us,rfl,r,k _ b (To.refl t.fr) (DU z)⟩
  ·cases e⟩
end
def bQ(K:P6)(b:Qi)(ps:List Qz)(dd:List D):Prop:=∃ds a,ax K b ps ds/\ar a ds/\∀F H,DenL K F H dd a
inductive Sr (α:Type) where
 |kw (j:Nat)|df (a:α)
section
variable{X:Cx}{E:St->XK}{e:Expr}{es:List Expr}{pos p kpos:Uh}{x:Qz}{k n:Nat}{f:PD}{fd:Qi}{ps ks:List Qz}{kws:List Vt}{nm:Option Qz}
def uQ(m:List D->M D)(g:FL)(dd:List D):FD:=λδ=>M.bind (g δ) λas=>m (as++dd)
theorem JL{dd:List D}(G:FnOk X.prog X.w X.K X.mg X.base (CXE X.prog X.w) k f fd ps (spF X.K n m))(q:Room k X.A)(u:Gl X x)(hm:X.mg x=My (.ref f))(v:Vl X.K (.ref f)=Pt)(y:bQ X.K fd ps dd)(B:bS (CXE X.prog X.w) X E)
  (ha:PA X (e::es) (tVA X.K g E)) (hn:∀δ β r d,g δ β=My (.ok r,d)->r.length+dd.length=n) (a:(x==("__debug__":Qz))=Pz:=by decide) (I:PX (e::es) X.env=(Pz,QW e X.env)::PX es X.env:=by rfl) (c:(RP pos (PX es X.env)).any (·.1)=Pz:=by rfl):
  PE X (.Call (.Name x p) (e::es) [] pos) (tV X.K (uQ m g dd) E):=by
 obtain⟨ds,J,b,L,rd⟩:=y;refine(mw G q u hm v b L B ha a I c).imp λW H Q N=>ex6 N λF δ β fr O r=>⟨F,δ,β,fr,O,?_⟩;obtain⟨r0,h,l,o⟩:=run.bind (R:=DenL X.K F) r;refine⟨r0,h,l,?_⟩;cases r0 with
 |error C=>exact o
 |ok as=>
  intro vs i t hd;obtain⟨d',β1,P,j,r1⟩:=o vs i t hd;have T:=hn _ _ _ _ l;have U:=(rd F i).length;refine⟨by rw[Qf,←hd.length,←U,T],F,d'++dd,β1,P.fr,DenL.append j (rd F i),run.toE r1⟩
end
section
variable{X:Cx}{E:St->XK}{e:Expr}{es:List Expr}{pos p kpos:Uh}{x:Qz}{k n:Nat}{f:PD}{fd:Qi}{ps ks:List Qz}
end
section
variable{X:Cx}{E:St->XK}{K:P6}{st:Q6}
end
def Gw(g:G)(δ:Ds)(β:Bg)(Q:Out->Bg->Prop):Prop:=∃o a,g δ β=My (o,a)/\Q o a
section
variable{g h a b g1 g2:G}{δ δ1:Ds}{β β1 β2 β3:Bg}{Q R:Out->Bg->Prop}{i:Nat}{f fa fb fv:FD}{fl:FL}{fg:Dn->M (List (List D))}{d x y z:D}{ds as:List D}{t:Dn->M Bool}{c:Bool}{C:PD}{K:P6}
theorem Gw.mono(k:Gw g δ β R)(q:∀o β,R o β->Q o β):Gw g δ β Q:=let ⟨o,β',e,r⟩:=k;⟨o,β',e,q _ _ r⟩
theorem vK:aI g gNil=g:=by
 funext δ β;unfold aI gNil;split
 ·rename_i δ1 β1 e;exact e.symm
 ·rfl
theorem ak(k:Gw (aI g gNil) δ β Q):Gw g δ β Q:=by rw[vK]at k;exact k
theorem bq(q:Q (.nx δ) β):Gw gNil δ β Q:=⟨_,_,rfl,q⟩
theorem eF(e:g δ β=My (.nx δ1,β1))(k:Gw h δ1 β1 Q):Gw (aI g h) δ β Q:=by
 obtain⟨o,j,l,q⟩:=k;exact⟨o,j,by unfold aI;rw[e];exact l,q⟩
theorem cE(k:Gw h δ β Q):Gw (aI gNil h) δ β Q:=eF rfl k
theorem wM(k:Gw g (fz i δ) β Q):Gw (fzG i g) δ β Q:=k
theorem aA(e:f (vw δ) β=My (.ok d,β1))(k:Gw h (δ.set i (My (.sh d))) β1 Q):Gw (aI (gb i f) h) δ β Q:=eF (by unfold gb;rw[e]) k
theorem oj(e:f (vwA δ) β=My (.ok d,β1))(k:Gw h δ β1 Q):Gw (aI (pC f) h) δ β Q:=eF (by unfold pC;rw[e]) k
theorem kU(e:t (vwA δ) β=My (.ok c,β1))(k:Gw (aI (if c=Pt then g1 else g2) h) δ β1 Q):Gw (aI (gIf t g1 g2) h) δ β Q:=by
 obtain⟨o,j,l,q⟩:=k;refine⟨o,j,?_,q⟩;rw[←l];unfold aI gIf;rw[e];cases c<;>rfl
theorem Oh(e:t (vwA δ) β=My (.ok Pt,β1))(k:Gw (aI g1 h) δ β1 Q):Gw (aI (gIf t g1 g2) h) δ β Q:=kU e k
theorem sd(e:t (vwA δ) β=My (.ok Pz,β1))(k:Gw (aI g2 h) δ β1 Q):Gw (aI (gIf t g1 g2) h) δ β Q:=kU e k
theorem aQ(e:f (vwA δ) β=My (.ok d,β1))(q:Q (.rt d) β1):Gw (aI (xM f) h) δ β Q:=⟨_,_,by unfold aI xM;rw[e],q⟩
theorem yp(e:δ.getD i Po=My (.grd rows))(q:Q (.rg rows) β):Gw (aI (mK i) h) δ β Q:=⟨_,_,by unfold aI mK;rw[e],q⟩
theorem jK(e:fg (vw δ) β=My (.ok rows,β1))(q:Q (.rg rows) β1):Gw (aI (gc fg) h) δ β Q:=⟨_,_,by unfold aI gc;rw[e],q⟩
theorem se{rows:List (List D)}(e:fg (vw δ) β=My (.ok rows,β1))(hn:rows.all noLs=Pt)(k:Gw h (δ.set i (My (.grd rows))) β1 Q):Gw (aI (nV i fg) h) δ β Q:=eF (by unfold nV;simp only[e,hn,QY]) k
theorem wL{rows:List (List D)}(e:fv (vwA δ) β=My (.ok d,β1))(j:fa (vwA δ) β1=My (.ok (.int ka),β2))(l:fb (vwA δ) β2=My (.ok (.int kb),β3))(m:δ.getD i Po=My (.grd rows))
  (n:ixN rows.length ka=My ja) (o:rows[ja]?=My ds) (p:ixN ds.length kb=My jb) (hn:noL d=Pt) (k:Gw h (δ.set i (My (.grd (rows.set ja (ds.set jb d))))) β3 Q):Gw (aI (pB i fa fb fv) h) δ β Q:=
 eF (by unfold pB;simp only[e,j,l,m,n,o,p,hn,QY]) k
theorem rY(e:fl (vw δ) β=My (.ok ds,β1))(j:ds.length<=P0)(k:Gw h (δ.set i (My (.own ds))) β1 Q):Gw (aI (xN i fl) h) δ β Q:=eF (by unfold xN;simp only[e,j,QY]) k
theorem sj{cs:List D}(j:δ.getD i Po=My (.own cs))(e:fl (vw δ) β=My (.ok [d],β1))(l:cs.length<P0)(k:Gw h (δ.set i (My (.own (cs++[d])))) β1 Q):Gw (aI (xR i fl) h) δ β Q:=
 eF (by unfold xR;simp only[j,e,l,QY]) k
theorem sf(e:f (vw δ) β=My (.ok d,β1))(j:tg d δ=My δ1)(k:Gw h δ1 β1 Q):Gw (aI (xQ f tg) h) δ β Q:=eF (by unfold xQ;simp only[e,j,RG]) k
def Tn(I:Ds->Bg->Prop)(h:G)(Q:Out->Bg->Prop):Out->Bg->Prop:=λo β=>match o with
 | .nx δ=>I δ β
 | .ct δ=>I δ β
 | .bk δ=>Gw h δ β Q
 |o=>Q o β
theorem cI(e:it (vw δ) β=My (.ok ds,β1))(u:Nat->Ds->Bg->Prop)(L:u 0 δ β1)(step:∀i d δ β,ds[i]?=My d->u i δ β->∃δ1,tg d δ=My δ1/\Gw g δ1 β (Tn (u (i+1)) h Q))(k:∀δ β,u ds.length δ β->Gw h δ β Q):
  Gw (aI (qu it tg g) h) δ β Q:=by
 have gen:∀(es:List D) (j:Nat) (δ:Ds) (β:Bg),es=ds.drop j->j+es.length=ds.length->u j δ β->Gw (aI (gLp tg g es) h) δ β Q:=by
  intro es
  induction es with
  |nil=>
   intro j δ β _ A B;simp at A;exact eF (g:=gLp tg g []) rfl (k δ β (A▸B))
  |cons d es ih=>
   intro j δ β J A B;have N:ds[j]?=My d:=by
    have:=QV (λl=>l[0]?) J;simpa[YS]using this.symm
   obtain⟨δ1,v,o,β2,w,q⟩:=step j d δ β N B;have F:es=ds.drop (j+1):=by
    have:=QV List.tail J;simpa[List.tail_drop]using this
   have go:∀m,u (j+1) m β2->Gw (aI (gLp tg g es) h) m β2 Q:=λm H=>ih (j+1) m β2 F (by simp at A;omega) H;have n:∀{r:G} {m:Ds},Gw (aI r h) m β2 Q->gLp tg g (d::es) δ β=r m β2->Gw (aI (gLp tg g (d::es)) h) δ β Q:=λ{r m} ⟨O,p,I,q'⟩ P=>⟨O,p,by rw[←I];unfold aI;rw[P],q'⟩;cases o with
   |nx m=>exact n (r:=gLp tg g es) (go m q) (by rw[gLp];simp only[v,w])
   |ct m=>exact n (r:=gLp tg g es) (go m q) (by rw[gLp];simp only[v,w])
   |bk m=>exact n (r:=gNil) (cE q) (by rw[gLp];simp only[v,w];rfl)
   |rt d'=>exact⟨_,β2,by unfold aI;rw[gLp];simp only[v,w],q⟩
   |rg d'=>exact⟨_,β2,by unfold aI;rw[gLp];simp only[v,w],q⟩
   |ex C m=>exact⟨_,β2,by unfold aI;rw[gLp];simp only[v,w],q⟩
 obtain⟨o,p,I,q⟩:=gen ds 0 δ β1 (by simp) (by simp) L;refine⟨o,p,?_,q⟩;rw[←I];unfold aI qu;rw[e]
theorem AY{S:Except PD D->Bg->Prop}(k:Gw g (stD n ds) β (λo j=>match o with| .rt d=>S (.ok d) j| .nx _=>S (.ok .non) j| .ex C _=>S (.error C) j|_=>False)):∃r j,jA n g ds β=My (r,j)/\S r j:=by
 obtain⟨o,j,e,q⟩:=k;cases o with
 |rt d=>exact⟨.ok d,j,by unfold jA;rw[e],q⟩
 |nx δ=>exact⟨.ok .non,j,by unfold jA;rw[e],q⟩
 |ex C δ=>exact⟨.error C,j,by unfold jA;rw[e],q⟩
 |_=>exact q.elim
theorem mS{S:List (List D)->Bg->Prop}(k:Gw g (stD n ds) β (λo j=>match o with| .rg d=>S d j|_=>False)):∃r j,iB n g ds β=My (.ok r,j)/\S r j:=by
 obtain⟨o,j,e,q⟩:=k;cases o with
 |rg d=>exact⟨d,j,by unfold iB;rw[e],q⟩
 |_=>exact q.elim
theorem aG(k:Gw g (stD n ds) β (λo j=>j=β/\(match o with| .rt d=>r= .ok d| .nx _=>r= .ok .non| .ex C _=>r= .error C|_=>False))):jA n g ds β=My (r,β):=by
 obtain⟨l,j,e,q1,q2⟩:=AY (S:=λl j=>j=β/\r=l) (n:=n) (ds:=ds) (β:=β) (k.mono λo j h=>by
  cases o<;>first|exact h|exact h.2)
 subst q1 q2;exact e
theorem K6(k:Gw g (stD n ds) β (λo j=>j=β/\(match o with| .rg d=>r=d|_=>False))):iB n g ds β=My (.ok r,β):=by
 obtain⟨l,j,e,q1,q2⟩:=mS (S:=λl j=>j=β/\r=l) (n:=n) (ds:=ds) (β:=β) (k.mono λo j h=>by
  cases o<;>first|exact h|exact h.2)
 subst q1 q2;exact e
theorem am{δ:Dn}(e:fl δ β=My (.ok as,β1))(j:m as β1=My r):bH m fl δ β=My r:=by unfold bH M.bind;rw[e];exact j
theorem JD{δ:Dn}(e:fl δ β=My (.ok as,β1))(j:m (as++dd) β1=My r):uQ m fl dd δ β=My r:=by unfold uQ M.bind;rw[e];exact j
theorem iC{δ:Dn}(e:fl δ β=My (.ok as,β1))(j:m as β1=My r):i9 m fl δ β=My r:=by unfold i9 M.bind;rw[e];exact j
theorem x_2{δ:Dn}(e:fa δ β=My (.ok x,β1))(j:fb δ β1=My (.ok y,β2))(k:op x y=My z):f2 op fa fb δ β=My (.ok z,β2):=by unfold f2 M.bind;rw[e];simp only[j,M.ofO,k]
theorem x_1{δ:Dn}(e:fa δ β=My (.ok x,β1))(j:op x=My z):f1 op fa δ β=My (.ok z,β1):=by unfold f1 M.bind;rw[e];simp only[M.ofO,j]
theorem ai{δ:Dn}(e:fl δ β=My (.ok as,β1))(j:op as=My z):bp op fl δ β=My (.ok z,β1):=by unfold bp M.bind;rw[e];simp only[M.ofO,j]
theorem aa{δ:Dn}(e:fa δ β=My (.ok x,β1))(j:fl δ β1=My (.ok as,β2)):ac fa fl δ β=My (.ok (x::as),β2):=by unfold ac M.bind;rw[e];simp only[j,M.ret]
theorem bw{δ:Dn}(e:fl δ β=My (.ok as,β1))(j:op as=My ds):cX op fl δ β=My (.ok ds,β1):=by unfold cX M.bind;rw[e];simp only[j,M.ofO]
theorem cj{δ:Dn}(e:fa δ β=My (.ok x,β1))(j:fj x=My ds):dD fa δ β=My (.ok ds,β1):=by unfold dD M.bind;rw[e];simp only[j,M.ofO]
theorem x_B{δ:Dn}(e:fa δ β=My (.ok (.bl c),β1)):fB fa δ β=My (.ok c,β1):=by unfold fB M.bind;rw[e];rfl
theorem HH{δ:Dn}(e:fa δ β=My (.ok x,β1))(j:BR x=My c):xX fa δ β=My (.ok c,β1):=by unfold xX M.bind;rw[e];simp only[M.ofO,j]
theorem wI{δ:Dn}(e:t δ β=My (.ok c,β1)):xZ t δ β=My (.ok (!c),β1):=by unfold xZ M.bind;rw[e];rfl
theorem iF(ok:β.ok)(k:0<lot)(l:lot<1073741824):∃v e,bX [.bag,.int lot] β=My (.ok (.int v),e)/\0<=v/\v<lot/\e.ok:=by
 obtain⟨a0,a1,j⟩:=vS ok k;exact⟨_,_,DI ok k l,a0,a1,j⟩
theorem j4{n:Nat}{k:Int}(e:0<=k)(j:k<n):ixN n k=My k.toNat:=by unfold ixN;rw[PP e,PP j]
theorem zR{k:Int}{d:D}(e:0<=k)(h:xs[k.toNat]?=My d):ixD (.lst xs) (.int k)=My d:=by
 have j:k.toNat<xs.length:=(PU.mp h).1;show atI xs k=My d;unfold atI;rw[j4 e (by omega)];exact h
theorem nQ{x y:D}:ixD (.tup [x,y]) (.int 0)=My x:=rfl
theorem i7{x y:D}:ixD (.tup [x,y]) (.int 1)=My y:=rfl
end
section
variable{β β1 β2:Bg}{f g h i:FD}{t u:Dn->M Bool}{δ:Dn}{c e:Bool}{x y z w:Int}{d:D}
theorem wH(a:t δ β=My (.ok Pz,β1))(b:u δ β1=My (.ok e,β2)):xY t u δ β=My (.ok e,β2):=by
 unfold xY M.bind;rw[a];simp[b]
theorem le_int:leD (.int x) (.int y)=My (.bl (decide (x<=y))):=rfl
theorem lt_int:ltD (.int x) (.int y)=My (.bl (decide (x<y))):=rfl
theorem gt_int:gtD (.int x) (.int y)=My (.bl (decide (y<x))):=rfl
theorem ge_int:geD (.int x) (.int y)=My (.bl (decide (y<=x))):=rfl
theorem vp(a:f δ β=My (.ok (.int x),β))(b:g δ β=My (.ok (.int y),β))(j:h δ β=My (.ok (.int z),β)):j7 leD leD f g h δ β=My (.ok (.bl (decide (x<=y)&&decide (y<=z))),β):=by
 unfold j7 M.bind;rw[a];simp only[b,le_int,M.ofO,asB];by_cases q:x<=y
 ·simp only[q,decide_true,QY,j,le_int,U7]
 ·simp only[q,decide_false,Qh,Q1,M.ret,VM]
end
theorem Og(P:Ds->Bg->Prop)(k1:Gw g δ β (λo β1=>∃δ1,o= .nx δ1/\P δ1 β1))(k2:∀δ1 β1,P δ1 β1->Gw h δ1 β1 Q):Gw (aI g h) δ β Q:=by
 obtain⟨o,β1,e,δ1,rfl,p⟩:=k1;exact eF e (k2 δ1 β1 p)
theorem yq{δ:Ds}{β:Bg}{P:Ds->Bg->Prop}(p:P δ β):Gw gNil δ β (λo β1=>∃δ1,o= .nx δ1/\P δ1 β1):=bq ⟨_,rfl,p⟩
noncomputable abbrev gI(rows:LI):List (List D):=rows.map λr=>r.map D.int
noncomputable abbrev lG(rows:List (List D)):D:= .lst (rows.map D.lst)
abbrev gridD(rows:LI):D:=lG (gI rows)
noncomputable def pD(p:Int×Int):D:= .tup [.int p.1,.int p.2]
abbrev gP(b:LP):List (List D):=b.map λr=>r.map pD
abbrev gf(b:LP):D:=lG (gP b)
def Shp{α:Type}(r c:Nat)(m:List (List α)):Prop:=m.length=r/\∀row∈m,row.length=c
noncomputable def tot(rows:LI):Int:=(rows.map Rt).sum
theorem aZ(h:n<=1000):n<=P0:=Qc h (by decide)
theorem lI:∀r:List Int,noLs (r.map D.int)=Pt
 |[]=>rfl
 |x::r=>by
  show(noL (.int x)&&noLs (r.map D.int))=Pt;rw[lI r];rfl
theorem Shp.map{α a:Type}{f:α->a}{r c:Nat}{m:List (List α)}(h:Shp r c m):Shp r c (m.map λx=>x.map f):=⟨by rw[Pp,h.1],λrow b=>by
 obtain⟨x,d,rfl⟩:=P8.mp b;rw[Pp];exact h.2 x d⟩
theorem Shp.set{α:Type}{r c i j:Nat}{m:List (List α)}{row:List α}{v:α}(h:Shp r c m)(b:m[i]?=My row):Shp r c (m.set i (row.set j v)):=⟨by rw[QB,h.1],λx a=>by
 rcases Ts a with a|rfl
 ·exact h.2 x a
 ·rw[QB];exact h.2 row (Qb b)⟩
theorem Shp.at{α:Type}{r c i:Nat}{m:List (List α)}(h:Shp r c m)(b:i<r):∃row,m[i]?=My row/\row.length=c:=by
 have a:i<m.length:=by rw[h.1];exact b
 exact⟨m[i],Pw a,h.2 _ (QL a)⟩
theorem ye{α:Type}{l:List α}(h:i<l.length):∃x,l[i]?=My x:=⟨l[i],Pw h⟩
theorem iD:∀{xs:List Int} {j:Nat} {x v:Int},xs[j]?=My x->(xs.set j v).sum=xs.sum-x+v
 |[],j,x,v,h=>by simp at h
 |y::xs,0,x,v,h=>by
  simp at h;subst h;simp only[List.set_cons_zero,Qe];omega
 |y::xs,j+1,x,v,h=>by
  have h':xs[j]?=My x:=by simpa using h
  simp only[List.set_cons_succ,Qe,iD h'];omega
theorem pY{rows:LI}{row:List Int}(a:rows[i]?=My row)(b:row[j]?=My x):tot (rows.set i (row.set j v))=tot rows-x+v:=by
 unfold tot;rw[R4,iD (x:=row.sum) (by rw[Py,a];rfl),iD b];omega
theorem ur{rows:LI}{row:List Int}(h:∀r∈rows,∀x∈r,0<=x)(c:rows[i]?=My row)(d:0<=v):∀r∈rows.set i (row.set j v),∀x∈r,0<=x:=λr a x b=>by
 rcases Ts a with a|rfl
 ·exact h r a x b
 ·rcases Ts b with b|rfl
  ·exact h row (Qb c) x b
  ·exact d
theorem iP:∀{xs:List Int},(∀x∈xs,0<=x)->0<=xs.sum
 |[],_=>by simp
 |y::xs,h=>by
  have:=iP (xs:=xs) λx a=>h x (Ps _ a);have:=h y PF;simp only[Qe];omega
theorem uA:∀{xs:List Int},(∀x∈xs,0<=x)->∀x∈xs,x<=xs.sum
 |[],_,x,hx=>by cases hx
 |y::xs,h,x,hx=>by
  have:=iP (xs:=xs) λx hx=>h x (Ps _ hx);have:=h y PF;rcases PZ.mp hx with rfl|hx
  ·simp only[Qe];omega
  ·have:=uA (xs:=xs) (λx hx=>h x (Ps _ hx)) x hx
   simp only[Qe];omega
theorem Mu(h:∀r∈rows,∀x∈r,0<=x):∀r∈rows,∀x∈r,x<=tot rows:=λr a x b=>by
 have d:=uA (h r a) x b;have e:=uA (xs:=rows.map Rt) (λs hs=>by
  obtain⟨q,c,rfl⟩:=P8.mp hs;exact iP (h q c)) r.sum (P8.mpr ⟨r,a,rfl⟩)
 unfold tot;omega
structure Tab (r c:Nat) (rows:LI):Prop where
 shp:Shp r c rows
 nn:∀row∈rows,∀x∈row,0<=x
 tot:tot rows<=40
 r0:1<=r
 r1:r<=4
 c0:1<=c
 c1:c<=6
theorem eJ(ns:List Int):ii [.lst (ns.map D.int)]=My (.int ns.sum):=by
 show((eC (ns.map D.int)).map λl=>D.int l.sum)=_;have:∀ns:List Int,eC (ns.map D.int)=My ns:=λns=>by
  induction ns with
  |nil=>rfl
  |cons n ns ih=>simp[eC,ih]
 rw[this];rfl
theorem rg1{n:Int}(a:0<=n)(h:n<=10^9):gq [.int n]=My (aR 0 n.toNat):=by
 have q:(decide (-(2^62)<=n)&&decide (n<2^62))=Pt:=by
  simp only[Qq,QI];omega
 show(if(decide (-(2^62)<=n)&&decide (n<2^62))=Pt then My (aR 0 n.toNat)else Po)=_;rw[PP q]
theorem w9(h:(aR 0 n)[k]?=My d):k<n/\d= .int (k:Int):=by
 unfold aR at h;have a:k<n:=by
  have:=(PU.mp h).1;simpa using this
 rw[Py,Ri a]at h;exact⟨a,by cases h;simp⟩
theorem oR(n:Nat):(aR 0 n).length=n:=by simp[aR]
theorem bf{α:Type}(xs:List α)(u v:α->D)(a:it δ β=My (.ok (xs.map u),β))
  (b:∀x∈xs,∃δ1,tg (u x) (cSt nv caps δ)=My δ1/\f δ1 β=My (.ok (v x),β)) (c:xs.length<=P0):da nv caps it tg (λ_=>M.ret Pt) (cEm f) δ β=My (.ok (.lst (xs.map v)),β):=by
 refine qA a ?_ (by rw[Pp];exact c);have gen:∀xs:List α,(∀x∈xs,∃δ1,tg (u x) (cSt nv caps δ)=My δ1/\f δ1 β=My (.ok (v x),β))->cLp tg (λ_=>M.ret Pt) (cEm f) (xs.map u) (cSt nv caps δ) β=My (.ok (xs.map v),β):=by
  intro xs
  induction xs with
  |nil=>intro _;rfl
  |cons x xs ih=>
   intro h;obtain⟨δ1,d,e⟩:=h x PF;have g:=ih λy i=>h y (Ps _ i);rw[P3,cLp];simp only[d,M.bind,M.ret,reduceIte,cEm,e,g,P3,Ug,SZ]
 exact gen xs b
theorem rD{α:Type}(xs:List α)(u:α->D)(v:α->List D)(a:it δ β=My (.ok (xs.map u),β))
  (b:∀x∈xs,∃δ1,tg (u x) (cSt nv caps δ)=My δ1/\f δ1 β=My (.ok (v x),β)) (c:xs.length<=P0):gR nv caps it tg (λ_=>M.ret Pt) (qE f) δ β=My (.ok (xs.map v),β):=by
 have gen:∀xs:List α,(∀x∈xs,∃δ1,tg (u x) (cSt nv caps δ)=My δ1/\f δ1 β=My (.ok (v x),β))->n5 tg (λ_=>M.ret Pt) (qE f) (xs.map u) (cSt nv caps δ) β=My (.ok (xs.map v),β):=by
  intro xs
  induction xs with
  |nil=>intro _;rfl
  |cons x xs ih=>
   intro h;obtain⟨δ1,d,e⟩:=h x PF;have g:=ih λy i=>h y (Ps _ i);rw[P3,n5];simp only[d,M.bind,M.ret,reduceIte,qE,e,g,P3,Ug,SZ]
 unfold gR;simp only[a,gen xs b,Pp,c,QY]
theorem LO{ds:List D}(a:ds.length<=P0)(b:ds.length*c<=P0)(d:c<=1000000):tZ ds (.int (c:Int))=My (P5 c ds).flatten:=by
 have q:(decide (-(2^63)<=(c:Int))&&decide ((c:Int)<2^63)&&decide (ds.length<=P0)&&decide (ds.length*(c:Int).toNat<=P0))=Pt:=by
  simp only[Qq,QI];exact⟨⟨⟨by omega,by omega⟩,a⟩,by rw[Rp];exact b⟩
 unfold tZ;simp only[q,QY];rw[Rp]
theorem uM{α:Type}(x:α):∀c:Nat,(P5 c [x]).flatten=P5 c x
 |0=>rfl
 |c+1=>by rw[Rj,Sy,uM x c];rfl
theorem OI(a:f δ β=My (.ok x,β))(b:g δ β=My (.ok (.int (c:Int)),β))(d:c<=1000):xm (ac f aB) g δ β=My (.ok (P5 c x),β):=by
 have l1:[x].length<=P0:=by rw[Q4];decide
 have e:[x].length*c<=P0:=by rw[Q4,YE];exact aZ d
 have r:=LO (ds:=[x]) (c:=c) l1 e (by omega);rw[uM]at r;have s:szL [x]=My [x]:=by
  unfold szL;rw[PP l1]
 have h:ac f aB δ β=My (.ok [x],β):=aa a rfl;unfold xm;rw[M.bind_ok h,s,M.bind_some,M.bind_ok b,r];rfl
theorem AX(bs:List Bool):dR (bs.map D.bl)=My bs:=by
 induction bs with
 |nil=>rfl
 |cons b bs ih=>simp[dR,ih]
theorem any_map{α:Type}(xs:List α)(p:α->Bool):yf [.lst (xs.map λx=>D.bl (p x))]=My (.bl (xs.any p)):=by
 show(dR _).map _=_;rw[show(xs.map λx=>D.bl (p x))=(xs.map p).map D.bl by rw[PV];rfl,AX];simp only[RG,List.any_map];rfl
theorem ju{α:Type}(r:Nat)(x:α):(PR r).map (λ_=>x)=P5 r x:=by rw[WS,Qp]
theorem eM{xs:List D}(h:xs.length=r):gv [.lst xs]=My (.int (r:Int)):=by subst h;rfl
theorem xG{rows:List (List D)}{k:Nat}{row:List D}(h:rows[k]?=My row):ixD (lG rows) (.int (k:Int))=My (.lst row):=zR (by omega) (by rw[Rp,Py,h];rfl)
theorem bA{xs:List D}{k:Nat}{d:D}(h:xs[k]?=My d):ixD (.lst xs) (.int (k:Int))=My d:=zR (by omega) (by rw[Rp];exact h)
theorem fA:mz [x,y]=My (.tup [x,y]):=by
 unfold mz;rw[PP (show[x,y].length<=P0 by rw[Qd,Q4];decide)]
theorem lst0:dY []=My (.lst []):=by
 unfold dY;rw[PP (show([]:List D).length<=P0 by rw[WQ];decide)]
theorem xC:dY [x]=My (.lst [x]):=by
 unfold dY;rw[PP (show[x].length<=P0 by rw[Q4];decide)]
theorem Mo:uw [.int x,.int y]=My (.int (Ve x y)):=by
 unfold uw;simp only;congr 2;split<;>omega
theorem max2:xw [.int x,.int y]=My (.int (max x y)):=by
 unfold xw;simp only;congr 2;split<;>omega
theorem eq_int:fJ (.int x) (.int y)=My (.bl (decide (x=y))):=by rw[Ph]
theorem ne_int:qj (.int x) (.int y)=My (.bl (!decide (x=y))):=by rw[Pg]
theorem qy{xs:List D}{i:Nat}{d:D}(h:(cq 0 xs)[i]?=My d):∃x,xs[i]?=My x/\d= .tup [.int (i:Int),x]:=by
 obtain⟨x,b,a⟩:=lW h;rw[Rc]at a;exact⟨x,b,a⟩
theorem dJ{α a:Type}{f:α->a}{xs:List α}{i:Nat}{d:a}(h:(xs.map f)[i]?=My d):∃x,xs[i]?=My x/\d=f x:=by
 rw[Py]at h;cases q:xs[i]? with
 |none=>rw[q]at h;cases h
 |some x=>rw[q]at h;exact⟨x,rfl,by cases h;rfl⟩
noncomputable abbrev sN(r c:Nat):LP:=P5 r (P5 c (0,40))
noncomputable def at2{α:Type}(m:List (List α))(i j:Nat):Option α:=(m[i]?).bind λrow=>row[j]?
theorem wE{α:Type}{m:List (List α)}{i j:Nat}{x:α}(h:at2 m i j=My x):∃row∈m,x∈row:=by
 unfold at2 at h;cases q:m[i]? with
 |none=>rw[q]at h;cases h
 |some row=>rw[q]at h;exact⟨row,Qb q,Qb h⟩
theorem BB{α:Type}{m:List (List α)}{i j:Nat}{row:List α}{x:α}(a:m[i]?=My row)(b:row[j]?=My x):at2 m i j=My x:=by unfold at2;rw[a];exact b
structure PairOk (p:Int×Int):Prop where
 l:0<=p.1
 m:p.1<=p.2
 h:p.2<=40
def Kp(rows:LI)(b:LP):Prop:=∀i j x p,at2 rows i j=My x->at2 b i j=My p->p.1<=x/\x<=p.2
theorem Tab.le40(t:Tab r c rows):∀row∈rows,∀x∈row,0<=x/\x<=40:=λrow a x b=>⟨t.nn row a x b,by
 have:=Mu t.nn row a x b;have:=t.tot;omega⟩
theorem Kp.free(t:Tab r c rows):Kp rows (sN r c):=λi j x p d e=>by
 obtain⟨row,f,b⟩:=wE d;obtain⟨q,g,a⟩:=wE e;rw[(RW.mp g).2]at a;rw[(RW.mp a).2];exact t.le40 row f x b
theorem K4{α:Type}(xs:List α)(u:α->D)(o:α->List D)(a:it δ β=My (.ok (xs.map u),β))
  (c:∀x∈xs,∃δ1,tg (u x) (cSt nv caps δ)=My δ1/\b δ1 β=My (.ok (o x),β)) (d:(xs.flatMap o).length<=P0):da nv caps it tg (λ_=>M.ret Pt) b δ β=My (.ok (.lst (xs.flatMap o)),β):=by
 refine qA a ?_ d;have gen:∀xs:List α,(∀x∈xs,∃δ1,tg (u x) (cSt nv caps δ)=My δ1/\b δ1 β=My (.ok (o x),β))->cLp tg (λ_=>M.ret Pt) b (xs.map u) (cSt nv caps δ) β=My (.ok (xs.flatMap o),β):=by
  intro xs
  induction xs with
  |nil=>intro _;rfl
  |cons x xs ih=>
   intro h;obtain⟨δ1,e,f⟩:=h x PF;have g:=ih λy i=>h y (Ps _ i);rw[P3,cLp];simp only[e,M.bind,M.ret,reduceIte,f,g,Ro]
 exact gen xs c
theorem zr{α:Type}(xs:List α)(u v:α->D)(a:it δ β=My (.ok (xs.map u),β))
  (b:∀x∈xs,∃δ1,tg (u x) δ=My δ1/\f δ1 β=My (.ok (v x),β)):cNx it tg (λ_=>M.ret Pt) (cEm f) δ β=My (.ok (xs.map v),β):=by
 have gen:∀xs:List α,(∀x∈xs,∃δ1,tg (u x) δ=My δ1/\f δ1 β=My (.ok (v x),β))->cLp tg (λ_=>M.ret Pt) (cEm f) (xs.map u) δ β=My (.ok (xs.map v),β):=by
  intro xs
  induction xs with
  |nil=>intro _;rfl
  |cons x xs ih=>
   intro h;obtain⟨δ1,c,d⟩:=h x PF;have e:=ih λy g=>h y (Ps _ g);rw[P3,cLp];simp only[c,M.bind,M.ret,reduceIte,cEm,d,e,P3,Ug,SZ]
 unfold cNx;rw[M.bind_ok a];exact gen xs b
theorem nq{α a:Type}(u:α->D)(v:a->D):∀(xs:List α) (ys:List a),dS (xs.map u) (ys.map v)=(xs.zip ys).map λp=>D.tup [u p.1,v p.2]
 |[],ys=>by simp[dS]
 |x::xs,[]=>by simp[dS]
 |x::xs,y::ys=>by simp[dS,nq u v xs ys]
theorem uX{xs:List D}{k:Nat}:nW xs (My (k:Int)) Po=xs.drop k:=by
 unfold nW;rw[HT.sIx_none,HT.sIx_nat];by_cases h:k<=xs.length
 ·rw[show Ve k xs.length=k by omega]
  rw[Sb (by rw[WA];omega)]
 ·rw[Rz (by omega),Rz (by omega)]
  simp
theorem qJ(a:f δ β=My (.ok (.lst xs),β))(b:g δ β=My (.ok (.int k),β)):fSl f (My g) Po δ β=My (.ok (.lst (nW xs (My k) Po)),β):=by
 unfold fSl sP;simp only[M.bind,a,b,M.ret,M.ofO,BC,slD]
theorem wG{xs ys:List D}(h:xs.length+ys.length<=1000):gz (.lst xs) (.lst ys)=My (.lst (xs++ys)):=by
 unfold gz;simp only;rw[PP (aZ h)]
def kd:List D->List PH->Prop
 |[],[]=>True
 | .int i::ds,.int j _::vs=>i=j/\kd ds vs
 | .str x::ds,.str y _::vs=>x=y/\kd ds vs
 | .bl x::ds,.bool y::vs=>x=y/\kd ds vs
 | .non::ds,.none::vs=>kd ds vs
 |_,_=>False
theorem gO{K:P6}:∀{ds:List D} {vs:List PH},kd ds vs->∃xs,ar xs vs/\∀F H,DenL K F H ds xs
 |[],[],_=>⟨[],.nil,λ_ _=>DenL.nil⟩
 | .int i::ds,.int j t::vs,h=>by
  obtain⟨e,h⟩:=h;subst e;obtain⟨xs,a,b⟩:=gO (K:=K) h;exact⟨.int i::xs,.cons ⟨t,rfl⟩ a,λF H=>DenL.cons rfl (b F H)⟩
 | .str i::ds,.str j t::vs,h=>by
  obtain⟨e,h⟩:=h;subst e;obtain⟨xs,a,b⟩:=gO (K:=K) h;exact⟨.str i::xs,.cons ⟨t,rfl⟩ a,λF H=>DenL.cons rfl (b F H)⟩
 | .bl i::ds,.bool j::vs,h=>by
  obtain⟨e,h⟩:=h;subst e;obtain⟨xs,a,b⟩:=gO (K:=K) h;exact⟨.bl i::xs,.cons rfl a,λF H=>DenL.cons rfl (b F H)⟩
 | .non::ds,.none::vs,h=>by
  obtain⟨xs,a,b⟩:=gO (K:=K) (ds:=ds) (vs:=vs) h;exact⟨.non::xs,.cons rfl a,λF H=>DenL.cons rfl (b F H)⟩
def VIs(K:P6)(d:D)(u:PH):Prop:=∃v,aK v u/\∀F H,Den K F H d v
theorem mh{K:P6}:VIs K (.int i) (.int i t):=⟨.int i,⟨t,rfl⟩,λ_ _=>rfl⟩
theorem JG{K:P6}:VIs K .non .none:=⟨.non,rfl,λ_ _=>rfl⟩
theorem JF{K:P6}{q3:Array PH}(a:K.lookup p=My ⟨q1,q2,.seq q3 q4,q5⟩)(b:q1= .type "tuple")(c:q3.size<=P0)(d:kd ds q3.toList):VIs K (.tup ds) (.ref p):=by
 obtain⟨xs,e,f⟩:=gO (K:=K) d;exact⟨.ref p,rfl,λF H=>⟨p,xs,rfl,.inr ⟨_,q3,q4,a,b,rfl,c,e⟩,f F H⟩⟩
theorem pL{K:P6}(h:mg x=My u)(v:VIs K d u):mW K mg x d:=let ⟨w,h1,h2⟩:=v;⟨u,w,h,h1,h2⟩
theorem AL{K:P6}{ps:List Qz}{us:List PH}(n:Nat)(e:ps.length=n+us.length)(b:∀(s:PM) (vs:List PH),K.In s.heap->vs.length=n->Zc s fd ⟨vs,[]⟩ (ps.zip (vs++us)))(h:∃vs,ar vs us/\∀F H,DenL K F H dd vs):bQ K fd ps dd:=
 let ⟨vs,h1,h2⟩:=h
 ⟨us,vs,λs a c d=>b s a c (by rw[Qf]at d;omega),h1,h2⟩
theorem AH{K:P6}:∃vs,ar vs []/\∀F H,DenL K F H [] vs:=⟨[],.nil,λ_ _=>DenL.nil⟩
theorem wt{K:P6}(v:VIs K d u)(h:∃vs,ar vs us/\∀F H,DenL K F H ds vs):∃vs,ar vs (u::us)/\∀F H,DenL K F H (d::ds) vs:=by
 obtain⟨w,a,b⟩:=v;obtain⟨vs,c,e⟩:=h;exact⟨w::vs,.cons a c,λF H=>DenL.cons (b F H) (e F H)⟩
section
variable{X:Cx}{E:St->XK}{K:P6}{st:Q6}
end
section
variable{h:G}{δ:Ds}{β β1 β2 β3:Bg}{Q:Out->Bg->Prop}{i:Nat}{fa fb fv:FD}{fl:FL}{d d0 d1:D}{ds:List D}{op:D->D->Option D}
end
theorem Oc(a:t δ β=My (.ok Pt,β1))(b:f δ β1=My r):fIf t f g δ β=My r:=by
 unfold fIf M.bind;rw[a];exact b
theorem Od(a:t δ β=My (.ok Pz,β1))(b:g δ β1=My r):fIf t f g δ β=My r:=by
 unfold fIf M.bind;rw[a];exact b
theorem HG{δ:Dn}(e:δ.getD n Po=My d):ag n δ β=My (.ok d,β):=by unfold ag;rw[e];rfl
section
variable{β β1 β2:Bg}{f g h:FD}{δ:Dn}{x y z:Int}
theorem yo(a:f δ β=My (.ok (.int x),β))(b:g δ β=My (.ok (.int y),β))(c:h δ β=My (.ok (.int z),β)):j7 leD ltD f g h δ β=My (.ok (.bl (decide (x<=y)&&decide (y<z))),β):=by
 unfold j7 M.bind;rw[a];simp only[b,le_int,M.ofO,asB];by_cases q:x<=y
 ·simp only[q,decide_true,QY,c,lt_int,U7]
 ·simp only[q,decide_false,Qh,Q1,M.ret,VM]
end
theorem o9{K:P6}:∀{ns:List Qz} {ds:List D} {xs:List V},DenL K F H ds xs->(ns.zip ds).lookup f=My d->∃v,(ns.zip xs).lookup f=My v/\Den K F H d v
 |[],ds,xs,h,e=>by simp at e
 |n::ns,[],xs,h,e=>by simp at e
 |n::ns,c::ds,xs,h,e=>by
  obtain⟨x,r,q,a,b⟩:=h;subst q;rw[RX,Ti]at e⊢;split at e
  ·rename_i z
   cases e;exact⟨x,rfl,a⟩
  ·rename_i z
   exact o9 b e
theorem re{α:Type}:∀{ns:List Qz} {xs:List α},m∉ns->(ns.zip xs).lookup m=Po
 |[],xs,_=>by simp
 |n::ns,[],_=>by simp
 |n::ns,x::xs,h=>by
  rw[RX,Ti];have a:m≠n:=λz=>h (by rw[z];exact PF);have b:m∉ns:=λz=>h (Ps _ z);rw[show(m==n)=Pz by simpa using a];exact re b
theorem bQ.nil{K:P6}(b:ax K fd ps []):bQ K fd ps []:=⟨[],[],b,.nil,λ_ _=>DenL.nil⟩
section
variable{X:Cx}{E:St->XK}{o e:Expr}{es:List Expr}{pos p apos kpos:Uh}{x m:Qz}{k n:Nat}{f C:PD}{fd:Qi}{ps ks:List Qz}{kws:List Vt}
noncomputable def xT(C:PD)(f:Qz):D->Option D
 | .obj C' ns ds=>if C'=C then(ns.zip ds).lookup f else Po
 |_=>Po
theorem ig{f:Qz}(c:Cls X.K C)(n:dM X.K C f)(j:PE X e (tV X.K g E))(l:T5 e f X.env (QW e X.env)=QW e X.env:=by rfl):PE X (.Attribute e f pos) (tV X.K (f1 (xT C f) g) E):=
 (L8 j l).imp λJ H Q i=>ex6 i λF δ β fr q h=>⟨F,δ,β,fr,q,(run.bind (R:=Den X.K F) h).mono λv r i=>by
  obtain⟨d,β1,t,hd,r1⟩:=i;obtain⟨d3,b,k⟩:=run.ofO r1;cases d<;>first|cases b|skip
  rename_i u ns ds;unfold xT at b;simp only at b;split at b
  ·rename_i z
   subst z;unfold Den at hd;obtain⟨a,dx,xs,rfl,L,y,N,A⟩:=hd;obtain⟨w,B,I⟩:=o9 A b;exact⟨a,u,dx,_,w,rfl,y,c,n,B,k w r (To.refl t.fr) I⟩
  ·cases b⟩
def mR(C:PD)(m:Qz)(a:List D->M D)(b:FD)(g:FL)(dd:List D):FD:=λδ=>M.bind (b δ) λd=>match d with
 | .obj C' ns _=>if C'=C/\m∉ns then M.bind (g δ) λas=>a (d::(as++dd))else M.fail
 |_=>M.fail
theorem ux{dd:List D}{K:P6}(J:∀vs H Q E,spF K n mf vs H Q E->R vs H Q E)(rd:∀F H,DenL K F H dd dvs)(hn:∀δ β r b,g δ β=My (.ok r,b)->r.length+dd.length+1=n)(h:tV K (mR C m mf fo g dd) E σ H Q):wU C m R dvs E (tV K fo E) (tVA K g E) σ H Q:=by
 obtain⟨F,δ,β,fr,w,h⟩:=h;refine⟨F,δ,β,fr,w,(run.bind (R:=Den K F) h).mono λv L N=>ex5 N λd β1 t hd r1=>?_⟩;have fail:∀{i:M D},i=M.fail->run (Den K F) F E σ i L Q β1->False:=λ{i} e r=>by
  obtain⟨r,b,y,_⟩:=r;rw[e]at y;cases y
 cases d<;>first|exact(fail rfl r1).elim|skip
 rename_i Y ns ds;simp only at r1;split at r1
 ·rename_i z
  obtain⟨rfl,hm⟩:=z;have j:=hd;unfold Den at hd;obtain⟨a,dx,xs,rfl,Z,O,h3,h4⟩:=hd;refine⟨a,dx,_,rfl,O,re hm,F,δ,β1,t.fr,w.tr (t.tr fr),?_⟩;obtain⟨r0,l,A,B⟩:=run.bind (R:=DenL K F) r1;refine⟨r0,l,A,?_⟩;cases r0 with
  |error C=>exact B
  |ok as=>
   intro vs q P c;obtain⟨d',β2,I,u,T⟩:=B vs q P c;have U:=hn _ _ _ _ A;have W:=(rd F q).length;refine J _ _ _ _ ⟨by rw[Qd,Qf,←c.length,←W,U],F,_::(d'++dd),β2,I.fr,DenL.cons (Den.tr (I.tr t.fr) _ _ j) (DenL.append u (rd F q)),run.toE T⟩
 ·exact(fail rfl r1).elim
theorem kW{dd:List D}(c:Cls X.K C)(hm:Meth X.K C m f)(G:FnOk X.prog X.w X.K X.mg X.base (CXE X.prog X.w) k f fd ps (spF X.K n mf))(j:Room k X.A)(l:bQ X.K fd ps dd)(q:bS (CXE X.prog X.w) X E)
  (t:PE X o (tV X.K fo E)) (ha:PA X (e::es) (tVA X.K g E)) (hn:∀δ β r i,g δ β=My (.ok r,i)->r.length+dd.length+1=n)
  (a:PX (e::es) X.env=(Pz,QW e X.env)::PX es X.env:=by rfl) (d:(RP pos (PX es X.env)).any (·.1)=Pz:=by rfl)
  (u:QW (.Call (.Attribute o m apos) (e::es) [] pos) X.env=(do
   let ov ←QW o X.env
   Tk apos.atName
   let (f,first) ←TU [ov] (Vd ov m pl)
   W2 pos f first (RP pos (PX (e::es) X.env)) (VJ pos (Ud [] X.env))):=by rfl):
  PE X (.Call (.Attribute o m apos) (e::es) [] pos) (tV X.K (mR C m mf fo g dd) E):=by
 obtain⟨ds,v,b,y,rd⟩:=l;exact(Kl (pl:=pl) t c hm G j b y q ha a d u).imp λB H Q h=>ux (λ_ _ _ _ z=>z) rd hn h
theorem fN{dd:List D}(c:Cls X.K C)(hm:Meth X.K C m f)(G:FnOk X.prog X.w X.K X.mg X.base (CXE X.prog X.w) k f fd ps (spF X.K n mf))(g:Room k X.A)(i:bQ X.K fd ps dd)(j:bS (CXE X.prog X.w) X E)
  (l:PE X o (tV X.K fo E)) (hn:dd.length+1=n)
  (q:QW (.Call (.Attribute o m apos) [] [] pos) X.env=(do
   let ov ←QW o X.env
   Tk apos.atName
   let (f,first) ←TU [ov] (Vd ov m pl)
   W2 pos f first (RP pos (PX [] X.env)) (VJ pos (Ud [] X.env))):=by rfl):
  PE X (.Call (.Attribute o m apos) [] [] pos) (tV X.K (mR C m mf fo aB dd) E):=by
 obtain⟨ds,t,b,u,rd⟩:=i;refine(CS (pl:=pl) l c hm G g b u j q).imp λP H Q h=>?_;obtain⟨F,δ,β,fr,y,h⟩:=ux (λ_ _ _ _ z=>z) rd (λδ β r B e=>by cases e;simpa using hn) h;refine⟨F,δ,β,fr,y,h.mono λv R ⟨a,dx,fs,I,ha,J,T,L,β2,d,N,O⟩=>⟨a,dx,fs,I,ha,J,?_⟩⟩;exact run.ret d O DenL.nil
end
structure ToX (F:Fx) (x:PD) (H H':Hp) (β':Bg):Prop where
 kp:∀a o,a≠x->H a=My o->(∀b l,F.bg=My (b,l)->a≠b/\a≠l)->H' a=My o
 fr:Fr F H' β'
def spI(K:P6)(C:PD)(ns:List Qz)(n:Nat)(d:List D->M (List D)):Sp:=λvs H Q E=>∃x rest F ds β dx,vs= .ref x::rest/\rest.length=n/\Fr F H β/\F.A x/\(∀b l,F.bg=My (b,l)->x≠b/\x≠l)/\H x=My (.ins C dx [])/\DenL K F H ds rest/\
 ∃r a,d ds β=My (r,a)/\match r with
  | .ok es=>∀c xs,ToX F x H c a->c x=My (.ins C dx (ns.zip xs))->ns.length=xs.length->DenL K F c es xs->Q .non c
  | .error Ce=>∀c,ToX F x H c a->E (.ref Ce) Po c
section
variable{X:Cx}{E:St->XK}{e:Expr}{es:List Expr}{pos p kpos:Uh}{x:Qz}{k n:Nat}{f C:PD}{fd:Qi}{ps ks ns:List Qz}{kws:List Vt}
def x3(C:PD)(ns:List Qz)(a:List D->M (List D))(g:FL)(dd:List D):FD:=λδ=>M.bind (g δ) λas=>M.bind (a (as++dd)) λfs=>M.ret (.obj C ns fs)
theorem DF{K:P6}{vs:List V}(fr:Fr F H2 β2)(L:vs.length=n)(hd:DenL K F H2 ds vs)(r:run (Den K F) F E σ (M.bind (mi ds) λfs=>M.ret (.obj C ns fs)) H2 Q β2):
  ∀x dx,H2 x=Po->H2 dx=Po->dx≠x->spI K C ns n mi (.ref x::vs) (upd (upd H2 dx (.own x)) x (.ins C dx [])) (λv N=>v= .non/\Q (.ref x) N) (E σ):=by
 intro x dx w y ne;have B:¬F.A x:=fr.fresh w;have same:bB H2 (upd (upd H2 dx (.own x)) x (.ins C dx [])):=λa o h=>by
  rw[upd_ne (ne_of_none h w),upd_ne (ne_of_none h y)];exact h
 have t:=fr.same same;have H:Fr (F.but x) (upd (upd H2 dx (.own x)) x (.ins C dx [])) β2:=⟨λa ha z=>(by
  rcases ha with ha|ha
  ·exact t.fr.occ a ha z
  ·subst ha;rw[af]at z;cases z),λb l q=>let ⟨z1,z2,z3⟩:=fr.bgA b l q;⟨.inl z1,.inl z2,z3⟩,t.fr.bag⟩
 have O:∀b l,F.bg=My (b,l)->x≠b/\x≠l:=λb l q=>⟨λz=>B (z▸(fr.bgA b l q).1),λz=>B (z▸(fr.bgA b l q).2.1)⟩;have I:Tr F H2 (F.but x) (upd (upd H2 dx (.own x)) x (.ins C dx [])):=⟨λa P R z=>by
  rcases z with z|z
  ·exact P z
  ·subst z;exact R w,λa o _ h=>same a o h,rfl⟩
 obtain⟨T,c,d,h⟩:=r;refine⟨x,vs,F.but x,ds,β2,dx,rfl,L,H,.inr rfl,O,af,DenL.tr I _ _ hd,?_⟩;have j:∀{g:Hp} {c:Bg},ToX (F.but x) x (upd (upd H2 dx (.own x)) x (.ins C dx [])) g c->To F H2 g c:=λ{g c} i=>⟨λa o ha n=>i.kp a o (ne_of_none ha w) (same a o ha) n,⟨λa ha=>i.fr.occ a (.inl ha),fr.bgA,i.fr.bag⟩⟩;cases q:mi ds β2 with
 |none=>unfold M.bind at d;rw[q]at d;cases d
 |some z=>
  obtain⟨r1,β1⟩:=z;refine⟨r1,β1,rfl,?_⟩;cases r1 with
  |error U=>
   rw[M.bind_err q]at d;cases d;exact λg i=>h g (j i)
  |ok fs=>
   rw[M.bind_ok q]at d;cases d;refine λg xs i J m u=>⟨rfl,h (.ref x) g (j i) ⟨x,dx,xs,rfl,B,J,m,DenL.tr Fx.tr_of _ _ u⟩⟩
theorem yt{dd:List D}(o:Mk X.K C f)(G:FnOk X.prog X.w X.K X.mg X.base (CXE X.prog X.w) k f fd ps (spI X.K C ns n mi))(q:Room (k+1) X.A)(u:Gl X x)(hm:X.mg x=My (.ref C))(v:bQ X.K fd ps dd)(y:bS (CXE X.prog X.w) X E)
  (ha:PA X (e::es) (tVA X.K g E)) (hn:∀δ β r d,g δ β=My (.ok r,d)->r.length+dd.length=n) (a:(x==("__debug__":Qz))=Pz:=by decide) (B:PX (e::es) X.env=(Pz,QW e X.env)::PX es X.env:=by rfl) (c:(RP pos (PX es X.env)).any (·.1)=Pz:=by rfl):
  PE X (.Call (.Name x p) (e::es) [] pos) (tV X.K (x3 C ns mi g dd) E):=by
 obtain⟨ds,I,b,J,rd⟩:=v;refine(Km o G q u hm b J y ha a B c).imp λU H Q L=>ex6 L λF δ β fr N r=>⟨F,δ,β,fr,N,?_⟩;obtain⟨r0,h,l,m⟩:=run.bind (R:=DenL X.K F) r;refine⟨r0,h,l,?_⟩;cases r0 with
 |error C=>exact m
 |ok as=>
  intro vs i t hd;obtain⟨d',β1,O,j,r1⟩:=m vs i t hd;have P:=hn _ _ _ _ l;have T:=(rd F i).length;exact DF O.fr (by rw[Qf,←hd.length,←T,P]) (DenL.append j (rd F i)) r1
end
abbrev IP:=Ds->List D->Bg->Option (Except PD (List D)×Bg)
noncomputable def IO:IP:=λ_ done β=>My (.ok done,β)
noncomputable def mI(g:G)(a:IP):IP:=λδ done β=>match g δ β with
 |some (.nx δ1,β1)=>match δ[0]?,δ1[0]? with
  |some (My (Sl.sh (D.adr x))),My (My (Sl.sh (D.adr y)))=>if x=y then a δ1 done β1 else Po
  |_,_=>Po
 |some (.ex C _,β1)=>My (.error C,β1)
 |_=>Po
def jx(f:FD)(a:IP):IP:=λδ done β=>match f (vw δ) β with
 |some (.ok d,β1)=>a δ (done++[d]) β1
 |some (.error C,β1)=>My (.error C,β1)
 |none=>Po
structure StpX (x:PD) (B:Ow) (H:Hp) (B':Ow) (H':Hp):Prop where
 kp:∀a o,a≠x->H a=My o->(B a=Po\/B a=My 0)->H' a=My o
 tg:∀a,B a=My 0\/B a=My 1->B' a=B a
 nn:∀a o,a≠x->H a=My o->B a=Po->B' a=Po
 al:∀a,H a≠Po->H' a≠Po
theorem Stp.x{x:PD}{B b:Ow}{H c:Hp}(s:Stp B H b c):StpX x B H b c:=⟨λa o _=>s.kp a o,s.tg,λa o _=>s.nn a o,s.al⟩
theorem StpX.trans(a:StpX x B H B1 H1)(b:StpX x B1 H1 B2 H2):StpX x B H B2 H2:=by
 refine⟨λc o ne h n=>b.kp c o ne (a.kp c o ne h n) ?_,λc h=>?_,λc o ne h n=>b.nn c o ne (a.kp c o ne h (.inl n)) (a.nn c o ne h n),λc h=>b.al c (a.al c h)⟩
 ·rcases n with n|n
  ·exact .inl (a.nn c o ne h n)
  ·exact .inr ((a.tg c (.inl n)).trans n)
 ·have e:=a.tg c h
  rw[←e]at h;exact(b.tg c h).trans e
def kg(K:P6)(bg:Option (PD×PD))(E:St->XK)(Dn:Ends)(B:Ow)(H:Hp)(x C dx:PD)(all:List Qz)(r:Except PD (List D))(d:Bg):Prop:=match r with
 | .ok ds=>∀b c a vs,StpX x B H c a->Fr (FxB c bg) a d->a x=My (.ins C dx (all.zip vs))->all.length=vs.length->DenL K (FxB c bg) a ds vs->Dn.nx b a
 | .error Ce=>∀b c a,StpX x B H c a->Fr (FxB c bg) a d->E b (.ref Ce) Po a
theorem kg.pre{K:P6}{E:St->XK}{Dn:Ends}(s:StpX x B H B1 H1)(h:kg K bg E Dn B H x C dx all r β'):kg K bg E Dn B1 H1 x C dx all r β':=by
 cases r with
 |ok ds=>exact λa b c vs t=>h a b c vs (s.trans t)
 |error d=>exact λa b c t=>h a b c (s.trans t)
def tI(K:P6)(H₀:Hp)(C:PD)(a names:List Qz)(e:IP)(E:St->XK):TS:=λDn f H=>∃B bg δ β x dx b c r d,SOk K H₀ B bg H δ β f/\δ[0]?=My (My (.sh (.adr x)))/\B x=My 0/\H x=My (.ins C dx (a.zip b))/\a.length=b.length/\DenL K (FxB B bg) H c b/\e δ c β=My (r,d)/\kg K bg E Dn B H x C dx (a++names) r d
theorem q9:∀{ns:List Qz} {vs:List V},ns.length=vs.length->f∉ns->dj f y (ns.zip vs)=(ns++[f]).zip (vs++[y])
 |[],[],_,_=>rfl
 |n::ns,v::vs,h,hf=>by
  have a:¬n=f:=λz=>hf (by rw[z];exact PF);show(if n=f then(n,y)::ns.zip vs else(n,v)::dj f y (ns.zip vs))=_;rw[PL a,q9 (by simpa using h) λz=>hf (Ps _ z)];rfl
 |[],_::_,h,_=>by simp at h
 |_::_,[],h,_=>by simp at h
theorem SOk.upd0{K:P6}(ok:SOk K H₀ B bg H δ β σ)(g:B x=My 0):SOk K H₀ B bg (upd H x o) δ β σ/\StpX x B H B (upd H x o):=by
 have al:∀c,H c≠Po->upd H x o c≠Po:=λc f=>by
  by_cases z:c=x
  ·subst z;rw[af];simp
  ·rw[upd_ne z];exact f
 have m:∀b l,bg=My (b,l)->b≠x/\l≠x:=λb l e=>by
  obtain⟨b1,b2⟩:=ok.bgt b l e;exact⟨λz=>(by rw[z,g]at b1;cases b1),λz=>(by rw[z,g]at b2;cases b2)⟩
 have tr:Tr (FxB B bg) H (FxB B bg) (upd H x o):=⟨λ_ h _=>h,λc u f e=>by
  rw[upd_ne]
  ·exact e
  ·intro z;subst z;exact f (by show B c≠Po;rw[g];simp),rfl⟩
 refine⟨⟨⟨λc f=>al c (ok.fr.occ c f),ok.fr.bgA,λb l e=>?_⟩,ok.bgt,ok.len,λc f=>al c (ok.cov c f),ok.new,λc k f=>?_,λi s e=>?_⟩,λc u ne h _=>by rw[upd_ne ne];exact h,λ_ _=>rfl,λ_ _ _ _ n=>n,al⟩
 ·obtain⟨t,w⟩:=ok.fr.bag b l e
  obtain⟨y,A⟩:=m b l e;exact⟨by rw[upd_ne y];exact t,by rw[upd_ne A];exact w⟩
 ·obtain⟨xs,h⟩:=ok.lst c k f
  exact⟨xs,by rw[upd_ne];exact h;intro z;subst z;rw[g]at f;cases f⟩
 ·obtain⟨v,C,j⟩:=ok.tell i s e
  refine⟨v,C,?_⟩;cases s with
  |sh d=>exact Den.tr tr _ _ j
  |own ds=>
   obtain⟨a,xs,rfl,hB,ha,hd⟩:=j;exact⟨a,xs,rfl,hB,(by rw[upd_ne];exact ha;intro z;subst z;rw[g]at hB;cases hB),DenL.tr tr _ _ hd⟩
  |grd rows=>
   obtain⟨a,rs,rfl,hB,ha,nd,F⟩:=j;refine⟨a,rs,rfl,hB,(by rw[upd_ne];exact ha;intro z;subst z;rw[g]at hB;cases hB),nd,RowL.tr tr F λr xs _ p q=>⟨p,?_⟩⟩;rw[upd_ne]
   ·exact q
   ·intro z;subst z
    have p':B r=My (i+2):=p;rw[g]at p';cases p'
section
variable{X:Cx}{E:St->XK}{st:Q6}{sts:List Q6}{C:PD}{ns0 names:List Qz}{ip:IP}
theorem O3:PSs X [] (tI X.K X.H₀ C ns0 [] IO E):=qd.imp λDn b H c=>by
 obtain⟨B,bg,δ,β,x,dx,a,d,r,f,ok,i,j,g,h,hd,e,k⟩:=c;cases e;rw[Qx]at k;exact k b B H a (Stp.refl B H).x ok.fr g h hd
theorem IR(m:PS X st (tG X.K X.H₀ g E))(n:PSs X sts (tI X.K X.H₀ C ns0 names ip E)):PSs X (st::sts) (tI X.K X.H₀ C ns0 names (mI g ip) E):=(cf m n).imp λDn v H o=>by
 obtain⟨B,bg,δ,β,x,dx,c,d,r,f,ok,p,h,q,t,hd,e,k⟩:=o;unfold mI at e;split at e
 ·rename_i δ1 β1 i
  split at e
  ·rename_i w y q1 q2
   split at e
   ·rename_i z
    subst z;rw[p]at q1;cases q1;refine⟨B,bg,δ,β,.nx δ1,β1,ok,i,λb j l s a=>?_⟩;exact⟨j,bg,δ1,β1,x,dx,c,d,r,f,a,q2,(s.tg x (.inl h)).trans h,s.kp x _ q (.inr h),t,DenL.tr s.tr _ _ hd,e,kg.pre s.x k⟩
   ·cases e
  ·cases e
 ·rename_i u δ1 β1 i
  cases e;exact⟨B,bg,δ,β,.ex u δ1,_,ok,i,λb j l s a=>k b j l s.x a.fr⟩
 ·cases e
theorem sK(c:Cls X.K C)(n:dM X.K C f)(N:f∉ns0)(I:ns0.length<1000)(O:PS X st (LF X.K (kY 0) (tV X.K fv E) f))(P:PSs X sts (tI X.K X.H₀ C (ns0++[f]) names ip E)):PSs X (st::sts) (tI X.K X.H₀ C ns0 (f::names) (jx fv ip) E):=(cf O P).imp λDn Q H R=>by
 obtain⟨B,bg,δ,β,x,dx,g,p,r,q,ok,J,l,T,L,hd,e,k⟩:=R;refine⟨FxB B bg,vw δ,β,ok.fr,ok.view,?_⟩;unfold jx at e;split at e
 ·rename_i d β1 t
  refine⟨.ok d,β1,t,λy m w U=>?_⟩;obtain⟨b,i⟩:=ok.to rfl w;obtain⟨v,W,Y⟩:=b.tell 0 _ J;have Z:v= .ref x:=Y;subst Z;have A:=i.kp x _ T (.inr l);refine⟨_,W,x,C,dx,_,rfl,A,c,n,?_,?_⟩
  ·rw[WR];omega
  obtain⟨F,s2⟩:=b.upd0 (o:= .ins C dx (dj f y (ns0.zip g))) l;have j:Tr (FxB B bg) m (FxB B bg) (upd m x (.ins C dx (dj f y (ns0.zip g)))):=⟨λ_ h _=>h,λa u ha e=>by
   rw[upd_ne]
   ·exact e
   ·intro z;subst z;exact ha (by show B a≠Po;rw[l];simp),rfl⟩
  refine⟨B,bg,δ,β1,x,dx,g++[y],p++[d],r,q,F,J,l,by rw[af,q9 L N],by simp[L],DenL.append (DenL.tr j _ _ (DenL.tr i.tr _ _ hd)) (DenL.cons (Den.tr j _ _ U) DenL.nil),e,?_⟩;rw[Ra];exact kg.pre (i.x.trans s2) k
 ·rename_i Ce β1 t
  cases e;refine⟨.error Ce,_,t,λm w=>?_⟩;obtain⟨b,i⟩:=ok.to rfl w;exact k Q B m i.x b.fr
 ·cases e
end
open Classical in
def mJ(m:Nat)(a:IP):List D->M (List D):=λds β=>if h:∃r,∀x,a (stD m (.adr x::ds)) [] β=My r then My h.choose else Po
theorem DW(h:∀x,ip (stD m (.adr x::ds)) [] β=My r):mJ m ip ds β=My r:=by
 have a:∃r,∀x,ip (stD m (.adr x::ds)) [] β=My r:=⟨r,h⟩;unfold mJ;rw[dif_pos a];have:=a.choose_spec 0;rw[h 0]at this;exact this.symm
theorem zZ(h:mJ m ip ds β=My r):∀x,ip (stD m (.adr x::ds)) [] β=My r:=by
 unfold mJ at h;split at h
 ·rename_i a
  have:=a.choose_spec;cases h;exact this
 ·cases h
section
variable{P:Qu}{w:QH}{K:P6}{mg:Qz->Option PH}{base:Q0}
theorem KY{st:Q6}{N ps names:List Qz}(n m:Nat)(ip:IP)(F:FunD K x qual st f fd)(S:FnScope N ps (ae st))(O:ps.length=n+1)(R:N.length=m)
  (p:∀(i:PH) (A:QU) (outer:List WN) (s:PM) (H:Hp) (E:XK),Room k (A.deeper (Um qual (ae st) s.heap.objs.size f i))->
   PSs (c7 (CXE P w) P w K mg base N qual (ae st) f i A outer s H E) (cc st) (tI K H C [] names ip (λ_=>E))):FnOk P w K mg base (CXE P w) (k+1) f fd ps (spI K C names n (mJ m ip)):=by
 subst R;refine F.okE S (λvs H Q E h=>?_) λi A outer s H vs Q E hr h=>?_
 ·obtain⟨y,rest,j,ds,β,dx,rfl,hl,_⟩:=h
  rw[Qd,hl,O]
 obtain⟨y,rest,j,ds,β,dx,rfl,hl,fr,T,nb,hH,hd,r,d,e,h⟩:=h;refine⟨_,p i A outer s H E hr,?_⟩;have U:DenL K j H (.adr y::ds) (.ref y::rest):=DenL.cons rfl hd;obtain⟨B,ok,L,h1,hn⟩:=tE (N:=N) fr U;have hy:B y=My 0:=by
  rcases L y T with z|z
  ·exact z
  ·obtain⟨b,l,q,w⟩:=h1 y z
   obtain⟨W,X⟩:=nb b l q;rcases w with w|w
   ·exact Ql w W
   ·exact Ql w X
 have v:∀{u:Ow} {g:Hp} {d:Bg},StpX y B H u g->Fr (FxB u j.bg) g d->ToX j y H g d/\Tr (FxB u j.bg) g j g:=λ{u g d} s c=>by
  have hs:∀a,j.A a->u a≠Po:=λa ha=>by
   rw[s.tg a (L a ha)];rcases L a ha with z|z<;>rw[z]<;>simp
  refine⟨⟨λa o ne ha n=>s.kp a o ne ha ?_,λa ha=>c.occ a (hs a ha),λb l e=>fr.bgA b l e,c.bag⟩,λa ha _ z=>ha (hs a z),λ_ _ _ h=>h,rfl⟩;cases q:B a with
  |none=>exact .inl rfl
  |some t=>
   have:=L a (hn a (by rw[q];simp));rcases this with z|z
   ·rw[q]at z;exact .inr z
   ·obtain⟨b,l,e,w⟩:=h1 a z
    obtain⟨W,X⟩:=n b l e;rcases w with w|w
    ·exact Ql w W
    ·exact Ql w X
 refine⟨B,j.bg,stD N.length (.adr y::ds),β,y,dx,[],[],r,d,ok,rfl,hy,hH,rfl,DenL.nil,zZ e y,?_⟩;cases r with
 |ok es=>
  intro Y u g vs s c Z I J;obtain⟨t1,t2⟩:=v s c;exact h g vs t1 Z I (DenL.tr t2 _ _ J)
 |error Ce=>
  intro Y u g s c;exact h g (v s c).1
end
section
variable{X:Cx}{E:St->XK}{K:P6}{st:Q6}
end
section
variable{h:G}{δ:Ds}{β β1:Bg}{Q:Out->Bg->Prop}{i:Nat}{f:FD}
end
section
variable{C Ce:PD}{m:Qz}{ns:List Qz}{mf:List D->M D}{mi:List D->M (List D)}{fo:FD}{g gk:FL}{dd fs as ks:List D}{src:List (Sr D)}{δ:Dn}{β β1 β2 β3:Bg}{r:Except PD D×Bg}{d:D}{f:Qz}{h:G}{Q:Out->Bg->Prop}{i:Nat}{δs:Ds}
theorem de(a:fo δ β=My (.ok (.obj C ns fs),β1))(b:g δ β1=My (.ok as,β2))(c:mf (.obj C ns fs::(as++dd)) β2=My r)(hm:m∉ns:=by decide):mR C m mf fo g dd δ β=My r:=by
 unfold mR;rw[M.bind_ok a];simp only[hm,not_false_eq_true,and_self,QY];rw[M.bind_ok b];exact c
theorem yn(a:g δ β=My (.ok as,β1))(b:mi (as++dd) β1=My (.ok fs,β2)):x3 C ns mi g dd δ β=My (.ok (.obj C ns fs),β2):=by
 unfold x3;rw[M.bind_ok a,M.bind_ok b];rfl
theorem ie(a:x δ β=My (.ok (.obj C ns fs),β1))(b:(ns.zip fs).lookup f=My d):f1 (xT C f) x δ β=My (.ok d,β1):=by
 refine x_1 a ?_;unfold xT;simp only[QY];exact b
theorem zW{g:G}{δ δ1:Ds}{r:Except PD (List D)×Bg}(e:g δ β=My (.nx δ1,β1))(a:δ[0]?=My (My (.sh (.adr x))))(b:δ1[0]?=My (My (.sh (.adr x))))(k:ip δ1 done β1=My r):mI g ip δ done β=My r:=by
 unfold mI;simp only[e,a,b,QY];exact k
theorem pq{f:FD}{δ:Ds}{d:D}{r:Except PD (List D)×Bg}(e:f (vw δ) β=My (.ok d,β1))(k:ip δ (done++[d]) β1=My r):jx f ip δ done β=My r:=by
 unfold jx;rw[e];exact k
end
noncomputable def tpA{α:Type}(d:α)(c:Nat)(rows:List (List α)):List (List α):=(PR c).map λj=>rows.map λrow=>row.getD j d
abbrev tp(c:Nat)(rows:LI):LI:=tpA 0 c rows
theorem mj{α:Type}{d:α}{r c:Nat}{rows:List (List α)}(h:rows.length=r):Shp c r (tpA d c rows):=⟨by simp[tpA],λrow a=>by
 obtain⟨j,_,rfl⟩:=P8.mp a;rw[Pp,h]⟩
theorem Lj{α:Type}{d:α}{c j:Nat}{rows:List (List α)}(h:j<c):(tpA d c rows)[j]?=My (rows.map λrow=>row.getD j d):=by
 unfold tpA;rw[Py,Ri h];rfl
theorem xa:∀(row:List Int),(PR row.length).map (λj=>row.getD j d)=row:=λrow=>by
 refine Zg λi=>?_;rw[Py];by_cases h:i<row.length
 ·rw[Ri h]
  show My (row.getD i d)=_;rw[Px,Pw h];rfl
 ·rw[Uf (by simpa using h),Uf (by omega)];rfl
theorem p0{α:Type}(f g:α->Int):∀l:List α,(l.map λx=>f x+g x).sum=(l.map f).sum+(l.map g).sum
 |[]=>by simp
 |x::l=>by
  simp only[P3,Qe,p0 f g l];omega
theorem ny{α:Type}:∀l:List α,(l.map λ_=>(0:Int)).sum=0
 |[]=>rfl
 |x::l=>by simp only[P3,Qe,ny l];rfl
theorem yA:∀{rows:LI},(∀row∈rows,row.length=c)->tot (tp c rows)=tot rows
 |[],_=>by
  show((tpA 0 c []).map Rt).sum=0;unfold tpA;rw[PV];exact ny (PR c)
 |row::rows,h=>by
  have ih:=yA (c:=c) (rows:=rows) λx b=>h x (Ps _ b);have a:=h row PF;unfold tot tp tpA at ih⊢;rw[PV]at ih⊢;have e:(λj=>(Rt ((row::rows).map λrow=>row.getD j 0)))=λj=>row.getD j 0+(rows.map λrow=>row.getD j 0).sum:=by
   funext j;rw[P3,Qe]
  show((PR c).map λj=>(Rt ((row::rows).map λrow=>row.getD j 0))).sum=_;rw[e,p0,←a,xa,a,P3,Qe];congr 1
theorem HR(h:∀row∈rows,∀x∈row,0<=x):∀row∈tp c rows,∀x∈row,0<=x:=λrow a x b=>by
 obtain⟨j,_,rfl⟩:=P8.mp a;obtain⟨q,d,rfl⟩:=P8.mp b;rw[Px];cases e:q[j]? with
 |none=>exact Yz 0
 |some y=>exact h q d y (Qb e)
end L2.Pu
namespace L2.Pu
open PySem PySem.Spec PyProof PyProof.Rows
section
variable{X:Cx}
end
section
variable{prog:Qu}{w:QH}{A:QU}{E:PH->PM->Prop}{s:PM}{l:PD}{xs:Array (Int×Tok)}
end
section
variable{X:Cx}{K:P6}
end
end L2.Pu
namespace L2
open PySem PySem.Spec PyProof.Rows
end L2
namespace L2.Pu
open PySem PySem.Spec PyProof.Rows
section
variable{X:Cx}{E:St->XK}{K:P6}{elt target iter:Expr}{ifs:List Expr}{rest:List RA}{scope:Scope}{pos:Uh}{Nc vars:List Qz}{caps:List Nat}{g:TG}{tb:PD->TB}
end
section
variable{X:Cx}{E:St->XK}{K:P6}{st:Q6}{H₀:Hp}{B:Ow}{bg:Option (PD×PD)}{H H':Hp}{δ:Ds}{β β':Bg}{σ:St}
end
theorem lU1{us:List PH}(h:us.length=1):∃a0,us=[a0]:=SR.mp h
theorem lU2{us:List PH}(h:us.length=2):∃a0 a1,us=[a0,a1]:=by
 obtain⟨a,l,rfl⟩:=Th h;obtain⟨b,rfl⟩:=lU1 (us:=l) (by simpa using h);exact⟨_,_,rfl⟩
theorem lU3{us:List PH}(h:us.length=3):∃a0 a1 a2,us=[a0,a1,a2]:=by
 obtain⟨a,l,rfl⟩:=Th h;obtain⟨b,c,rfl⟩:=lU2 (us:=l) (by simpa using h);exact⟨_,_,_,rfl⟩
theorem lU4{us:List PH}(h:us.length=4):∃a0 a1 a2 a3,us=[a0,a1,a2,a3]:=by
 obtain⟨a,l,rfl⟩:=Th h;obtain⟨b,c,d,rfl⟩:=lU3 (us:=l) (by simpa using h);exact⟨_,_,_,_,rfl⟩
section
variable{X:Cx}{E:St->XK}{e e1 e2 e3 e4 e5:Expr}{es:List Expr}{pos p:Uh}{f1 f2 f3 f4 f5:FD}{g:FL}{k j n:Nat}{f:PD}{fd:Qi}{ps:List Qz}{x:Qz}{op:List D->Option D}{r:List V->Hp->VK->Prop}{id T:String}
theorem vv(i:Nat){x:Qz}(b:X.N[i]?=My x:=by rfl)(c:Vis X.env.scope x:=by first|exact RI rfl|exact Sk (RI rfl)|exact Sk (Sk rfl))(hd:(x==("__debug__":Qz))=Pz:=by decide)
  (a:(x==("__classdict__":Qz))=Pz:=by decide):PE X (.Name x pos) (tV X.K (ag i) E):=Oj i (pv i b c hd a)
theorem va1(a:PE X e1 (tV X.K f1 E))(b:PX [e1] X.env=(Pz,QW e1 X.env)::PX [] X.env:=by rfl):PA X [e1] (tVA X.K (ac f1 aB) E):=dN a iO b
theorem va2(a:PE X e1 (tV X.K f1 E))(b:PE X e2 (tV X.K f2 E))(c:PX [e1,e2] X.env=(Pz,QW e1 X.env)::PX [e2] X.env:=by rfl)(d:PX [e2] X.env=(Pz,QW e2 X.env)::PX [] X.env:=by rfl):PA X [e1,e2] (tVA X.K (ac f1 (ac f2 aB)) E):=dN a (va1 b d) c
theorem va3(a:PE X e1 (tV X.K f1 E))(b:PE X e2 (tV X.K f2 E))(c:PE X e3 (tV X.K f3 E))(d:PX [e1,e2,e3] X.env=(Pz,QW e1 X.env)::PX [e2,e3] X.env:=by rfl)(h:PX [e2,e3] X.env=(Pz,QW e2 X.env)::PX [e3] X.env:=by rfl)(i:PX [e3] X.env=(Pz,QW e3 X.env)::PX [] X.env:=by rfl):PA X [e1,e2,e3] (tVA X.K (ac f1 (ac f2 (ac f3 aB))) E):=dN a (va2 b c h i) d
theorem va4(a:PE X e1 (tV X.K f1 E))(b:PE X e2 (tV X.K f2 E))(c:PE X e3 (tV X.K f3 E))(d:PE X e4 (tV X.K f4 E))(h:PX [e1,e2,e3,e4] X.env=(Pz,QW e1 X.env)::PX [e2,e3,e4] X.env:=by rfl)(i:PX [e2,e3,e4] X.env=(Pz,QW e2 X.env)::PX [e3,e4] X.env:=by rfl)(l:PX [e3,e4] X.env=(Pz,QW e3 X.env)::PX [e4] X.env:=by rfl)(m:PX [e4] X.env=(Pz,QW e4 X.env)::PX [] X.env:=by rfl):PA X [e1,e2,e3,e4] (tVA X.K (ac f1 (ac f2 (ac f3 (ac f4 aB)))) E):=dN a (va3 b c d i l m) h
theorem aN0(δ:Dn)(β:Bg)(r:List D)(a:Bg)(h:aB δ β=My (.ok r,a)):r.length=0:=GZ h
structure FB (P:Qu) (w:QH) (K:P6) (mg:Qz->Option PH) (base:Q0) (k:Nat) (x:Qz) (f:PD) (fd:Qi) (ps:List Qz) (n:Nat) (m:List D->M D):Prop where
 ok:FnOk P w K mg base (CXE P w) k f fd ps (spF K n m)
 m:mg x=My (.ref f)
 kp:Vl K (.ref f)=Pt
 b:ax K fd ps []
theorem vc(G:FB X.prog X.w X.K X.mg X.base j x f fd ps n m)(h:Room k X.A)(ha:PA X (e::es) (tVA X.K g E))(i:j<=k:=by decide)(l:bS (CXE X.prog X.w) X E:=by first|exact bO|exact cK|assumption)(o:Gl X x:=by rfl)
  (hn:∀δ β r d,g δ β=My (.ok r,d)->r.length=n:=by repeat (first|exact aN0|apply aq)) (a:(x==("__debug__":Qz))=Pz:=by decide) (q:PX (e::es) X.env=(Pz,QW e X.env)::PX es X.env:=by rfl) (c:(RP pos (PX es X.env)).any (·.1)=Pz:=by rfl):
  PE X (.Call (.Name x p) (e::es) [] pos) (tV X.K (bH m g) E):=Lc G.ok (h.mono i) o G.m G.kp G.b l ha hn a q c
theorem cN(hm:X.mg "len"=Po)(ha:PA X (e::es) (tVA X.K g E))(b:Gl X "len":=by rfl)(c:PX (e::es) X.env=(Pz,QW e X.env)::PX es X.env:=by rfl)(a:(RP pos (PX es X.env)).any (·.1)=Pz:=by rfl):PE X (.Call (.Name "len" p) (e::es) [] pos) (tV X.K (bp gv g) E):=dg l3 OR b hm PySem.boot_len ha (by decide) (by decide) c a
theorem ft(hm:X.mg "sum"=Po)(ha:PA X (e::es) (tVA X.K g E))(b:Gl X "sum":=by rfl)(c:X.calm=Pt:=by rfl)(d:PX (e::es) X.env=(Pz,QW e X.env)::PX es X.env:=by rfl)(a:(RP pos (PX es X.env)).any (·.1)=Pz:=by rfl):PE X (.Call (.Name "sum" p) (e::es) [] pos) (tV X.K (bp ii g) E):=dg (AT c) Mx b hm PyProof.Rows.Boot.«sum» ha (by decide) (by decide) d a
theorem cso{scope:Scope}(a vars:List Qz)(caps:List Nat)(k:scope.kind= .function:=by rfl)(nd:(scope.names.map (·.1)).Nodup:=by decide +kernel)
  (fr:(scope.names.all λy=>y.2 != .free||(X.env.scope.names.lookup y.1==My .cell||X.env.scope.names.lookup y.1==My .free))=Pt:=by rfl) (nm:a=vars++caps.map (λj=>X.N.getD j S5):=by rfl)
  (b:(caps.all λj=>decide (j<X.N.length)&&scope.names.lookup (X.N.getD j S5)==My .free)=Pt:=by rfl):CmpScope X scope a vars caps:=CmpScope.ofB k nd fr nm b
theorem ndc{a:List Qz}(h:a.Nodup:=by decide +kernel):(aE X a scope cl C fp s H).N.Nodup:=h
theorem pgN(i:Nat){x:Qz}(a:X.N.Nodup)(b:X.N[i]?=My x:=by rfl)(c:Loc X.env.scope x:=by first|exact RI rfl|exact Sk rfl)(d:X.fn x=Pt\/X.env.scope.names.lookup x=My .local:=by first|exact .inl rfl|exact .inr rfl|assumption):PG X (.Name x pos) (eQ i):=vY a b c d
theorem psS(i:Nat){x:Qz}{e:Expr}{pos a:Uh}(b:X.N.Nodup)(c:PE X e te)(d:X.N[i]?=My x:=by rfl)(h:Loc X.env.scope x:=by first|exact RI rfl|exact Sk rfl)(hs:Ue e (My (.Name x a)) pos.line X.env=R6 Pz:=by rfl)(l:X.fn x=Pt\/X.env.scope.names.lookup x=My .local:=by first|exact .inl rfl|exact .inr rfl|assumption):PS X (.Assign [.Name x a] e pos) (jC te (eQ i)):=oX b d h c hs l
end
theorem bA1{Q:List PH->Prop}(h:∀a,Q [a])(us:List PH)(b:us.length=1):Q us:=by obtain⟨_,rfl⟩:=lU1 b;exact h _
theorem bA2{Q:List PH->Prop}(h:∀a b,Q [a,b])(us:List PH)(c:us.length=2):Q us:=by obtain⟨_,_,rfl⟩:=lU2 c;exact h _ _
theorem bA3{Q:List PH->Prop}(h:∀a b c,Q [a,b,c])(us:List PH)(d:us.length=3):Q us:=by obtain⟨_,_,_,rfl⟩:=lU3 d;exact h _ _ _
theorem bA4{Q:List PH->Prop}(h:∀a b c d,Q [a,b,c,d])(us:List PH)(e:us.length=4):Q us:=by obtain⟨_,_,_,_,rfl⟩:=lU4 e;exact h _ _ _ _
theorem fsc{N Q:List Qz}{c:Scope}(a:c.kind= .function:=by rfl)(b:c.isCoroutine=Pz:=by rfl)(g:c.isGenerator=Pz:=by rfl)(d:N.Nodup:=by decide +kernel)(e:N.take Q.length=Q:=by rfl)(f:∀x∈Q,c.names.lookup x=My .local\/c.names.lookup x=My .cell:=by decide +kernel)(h:∀y∈c.names,y.2≠ .free:=by decide +kernel):FnScope N Q c:=⟨a,b,g,d,e,f,h⟩
end L2.Pu
namespace L2
open PySem PySem.Spec PyProof.Rows
section
variable{prog:Qu}{w:QH}{A:QU}{E:PH->PM->Prop}{s:PM}{K:P6}
end
section
variable{X:Cx}
end
namespace Pu
section
variable{X:Cx}{E:St->XK}
end
end Pu
end L2
namespace L2.Pu
open PySem PySem.Spec PyProof.Rows
section
variable{X:Cx}{E:St->XK}{a b:Expr}{pos:Uh}{k:Nat}{f C:PD}{fd:Qi}{ps:List Qz}{K:P6}
structure IsC (K:P6) (C:PD):Prop where
 cl:Cls K C
 ha:R3 K (.ref C) "__class__"=My (My (.builtin "object.__class__"))
 hn:specialIn K (.builtin "object.__class__") "__get__"=My (My (.builtin "getset_descriptor.__get__"))
 htk:Y1 K (.builtin "object.__class__")=My Pt
 hm:mroIn K C (.type "object")=My Pt
end
theorem HQ{r c:Nat}{rows:LI}(sh:Shp r c rows):tp r (tp c rows)=rows:=by
 obtain⟨b,d⟩:=sh;refine Rv (by simp[tpA,b]) λi h a=>?_;have e:rows[i].length=c:=d _ (QL a);refine Rv (by simp[tpA,e]) λj k f=>?_;have g:j<c:=by omega
 simp[tpA,Px,g,a,f]
section
variable{X:Cx}{E:St->XK}{a:Expr}{p1 p2 pos1 pos2:Uh}{K:P6}
end
noncomputable def S(n:Nat)(f:Nat->Int):Int:=((PR n).map f).sum
theorem N7(f:Nat->Int):S 0 f=0:=rfl
theorem gi(n:Nat)(f:Nat->Int):S (n+1) f=S n f+f n:=by
 unfold S;rw[Su,Qy,Ux];simp
theorem dn(h:∀i<n,f i=g i):S n f=S n g:=by
 unfold S;rw[Qs λi a=>h i (Qg.mp a)]
theorem sU(n:Nat)(f g:Nat->Int):S n (λi=>f i+g i)=S n f+S n g:=p0 f g _
theorem ma(n:Nat):S n (λ_=>0)=0:=ny _
theorem Pl(n:Nat)(f:Nat->Int):S n (λi=>-f i)=-S n f:=by
 induction n with
 |zero=>rfl
 |succ n ih=>rw[gi,gi,ih];omega
theorem BG(n m:Nat)(h:Nat->Nat->Int):S n (λi=>S m (λj=>h i j))=S m (λj=>S n (λi=>h i j)):=by
 induction n with
 |zero=>rw[N7];exact(ma m).symm
 |succ n ih=>
  rw[gi,ih,←sU];exact dn λj _=>(gi n _).symm
theorem nz{g:Nat->Int}:∀{l L:List Nat},l.Sublist L->L.Nodup->(l.map g).sum=(L.map λx=>if x∈l then g x else 0).sum
 |_,_,.slnil,_=>rfl
 |l,_,.cons a (l₂:=L) h,nd=>by
  have b:=(QC.mp nd);have ha:a∉l:=λz=>b.1 (h.subset z);rw[P3,Qe,PL ha,nz h b.2,Tp]
 |_,_,.cons₂ a (l₁:=l) (l₂:=L) h,nd=>by
  have b:=(QC.mp nd);rw[P3,P3,Qe,Qe,PP PF,nz h b.2];congr 2;refine Qs λx d=>?_;have c:x≠a:=λz=>b.1 (z▸d);by_cases q:x∈l
  ·rw[PP q,PP (Ps _ q)]
  ·rw[PL q,PL λz=>(PZ.mp z).elim c q]
theorem ml{l:List Nat}(h:l.Sublist (PR n)):(l.map g).sum=S n λx=>if x∈l then g x else 0:=nz h WB
theorem wn{p:Nat->Bool}{g:Nat->Int}:∀l:List Nat,((l.filter p).map g).sum=(l.map λx=>if p x=Pt then g x else 0).sum
 |[]=>rfl
 |x::l=>by
  rw[Vn,P3,Qe,←wn l];by_cases q:p x=Pt
  ·rw[PP q,PP q,P3,Qe]
  ·rw[PL q,PL q,Tp]
noncomputable abbrev nI(l:List Nat):List Int:=l.map λ(i:Nat)=>(i:Int)
noncomputable abbrev nL(l:List Nat):D:= .lst ((nI l).map D.int)
theorem wj:∀xs:List Int,inB (.int i) (xs.map D.int)=decide (i∈xs)
 |[]=>rfl
 |x::xs=>by
  have ih:=wj (i:=i) xs;unfold inB at ih⊢;rw[P3,Va,ih];show(decide (x=i)||_)=_;rw[Vx];simp only[Bool.or_eq_true,QI,PZ];constructor
  ·rintro(h|h)
   ·exact .inl h.symm
   ·exact .inr h
  ·rintro(h|h)
   ·exact .inl h.symm
   ·exact .inr h
theorem rq:∀xs:List Int,(xs.map D.int).all ge=Pt
 |[]=>rfl
 |_::xs=>rq xs
theorem MF{xs:List Int}{neg:Bool}:inD neg (.int i) (.lst (xs.map D.int))=My (.bl (if neg then !decide (i∈xs)else decide (i∈xs))):=by
 show(if(ge (.int i)&&(xs.map D.int).all ge)=Pt then _ else _)=_;rw[rq,Bool.and_true,PP (show ge (.int i)=Pt from rfl),wj]
theorem Mp{i:Nat}{l:List Nat}:((i:Int)∈nI l)↔i∈l:=by
 constructor
 ·intro h
  obtain⟨j,a,e⟩:=P8.mp h;exact(Int.ofNat.inj e)▸a
 ·intro h
  exact P8.mpr ⟨i,h,rfl⟩
theorem uH{i:Nat}{l:List Nat}{neg:Bool}:inD neg (.int (i:Int)) (nL l)=My (.bl (if neg then !decide (i∈l)else decide (i∈l))):=by
 rw[MF];simp only[Mp]
theorem kJ{α:Type}(xs:List α)(u v:α->D)(p:α->Bool)(d:it δ β=My (.ok (xs.map u),β))
  (e:∀x∈xs,∃δ1,tg (u x) (cSt nv caps δ)=My δ1/\tt δ1 β=My (.ok (p x),β)/\(p x=Pt->f δ1 β=My (.ok (v x),β))) (g:xs.length<=P0):da nv caps it tg tt (cEm f) δ β=My (.ok (.lst ((xs.filter p).map v)),β):=by
 refine qA d ?_ (by rw[Pp];exact Qc (List.length_filter_le _ _) g);have gen:∀xs:List α,(∀x∈xs,∃δ1,tg (u x) (cSt nv caps δ)=My δ1/\tt δ1 β=My (.ok (p x),β)/\(p x=Pt->f δ1 β=My (.ok (v x),β)))->cLp tg tt (cEm f) (xs.map u) (cSt nv caps δ) β=My (.ok ((xs.filter p).map v),β):=by
  intro xs
  induction xs with
  |nil=>intro _;rfl
  |cons x xs ih=>
   intro h;obtain⟨δ1,b,a,i⟩:=h x PF;have c:=ih λy j=>h y (Ps _ j);rw[P3,cLp,Vn];cases q:p x with
   |true=>
    rw[q]at a;simp only[b,M.bind,M.ret,a,cEm,i q,c,PP,P3,Ug,SZ]
   |false=>
    rw[q]at a;simp only[b,M.bind,M.ret,a,c,Qh,Q1,SZ]
 exact gen xs e
theorem nl:∀(n:Nat) (xs:List D),cq n xs=(PR xs.length).map λ(i:Nat)=>D.tup [.int ((n+i:Nat):Int),xs.getD i .non]
 |n,[]=>rfl
 |n,x::xs=>by
  rw[cq,nl (n+1) xs,Qd,XV,P3,PV];congr 1;refine Qs λi _=>?_;simp only[UO];rw[show n+1+i=n+(i+1) by omega];rfl
noncomputable abbrev bI(b:LP)(i j:Nat):Int×Int:=(b.getD i []).getD j (0,0)
theorem Shp.getD{α:Type}{m:List (List α)}(h:Shp r c m)(a:i<r):m[i]?=My (m.getD i [])/\(m.getD i []).length=c:=by
 obtain⟨row,e,l⟩:=h.at a;have:m.getD i []=row:=by rw[Px,e];rfl
 rw[this];exact⟨e,l⟩
theorem mU{α:Type}{l:List α}{i:Nat}{d:α}(h:i<l.length):l[i]?=My (l.getD i d):=by
 rw[Px,Pw h];rfl
theorem IM{xs:List Int}(h:i<xs.length):ixD (.lst (xs.map D.int)) (.int (i:Int))=My (.int (xs.getD i 0)):=bA (by rw[Py,mU h];rfl)
theorem uD{b:LP}(sh:Shp r c b)(a:i<r)(f:j<c):ixD (gf b) (.int (i:Int))=My (.lst ((b.getD i []).map pD))/\ixD (.lst ((b.getD i []).map pD)) (.int (j:Int))=My (pD (bI b i j)):=by
 obtain⟨e,l⟩:=sh.getD a;refine⟨xG (by rw[Py,e];rfl),bA ?_⟩;rw[Py,mU (d:=(0,0)) (by omega)];rfl
noncomputable def o5(rs:List Int)(a:List Nat):Int:=(a.map λi=>rs.getD i 0).sum
def eP(cs:List Int)(b:LP)(r:Nat)(a:List Nat)(j:Nat):Int:=cs.getD j 0-S r λi=>if i∈a then 0 else(bI b i j).1
def fR(b:LP)(a:List Nat)(j:Nat):Int:=(a.map λi=>(bI b i j).2).sum
def sC(cs:List Int)(b:LP)(r c:Nat)(a d:List Nat):Int:=S c λj=>if j∈d then eP cs b r a j else fR b a j
def hF(b:LP)(a c:List Nat)(i j:Nat):Int:=(if i∈a/\j∉c then(bI b i j).2 else 0)-(if i∉a/\j∈c then(bI b i j).1 else 0)
theorem JY{a d:List Nat}(f:a.Sublist (PR r))(e:d.Sublist (PR c)):
  sC cs b r c a d=o5 cs d+S r λi=>S c λj=>hF b a d i j:=by
 unfold sC o5;rw[ml e,BG,←sU];refine dn λj g=>?_;by_cases q:j∈d
 ·rw[PP q,PP q]
  unfold eP;rw[Int.sub_eq_add_neg,←Pl];congr 1;refine dn λi e=>?_;unfold hF;by_cases z:i∈a
  ·simp[z,q]
  ·simp[z,q]
 ·rw[PL q,PL q,Tp]
  unfold fR;rw[ml f];refine dn λi e=>?_;unfold hF;by_cases z:i∈a
  ·simp[z,q]
  ·simp[z,q]
section
variable{X:Cx}{E:St->XK}{o e:Expr}{es:List Expr}{pos p apos:Uh}{x m:Qz}{k n:Nat}{f C:PD}{fd:Qi}{ps ks ns:List Qz}{kws:List Vt}{st:Q6}{sts:List Q6}
variable{ns0 names:List Qz}{ip:IP}
end
section
variable{P:Qu}{w:QH}{K:P6}{mg:Qz->Option PH}{base:Q0}
end
section
variable{X:Cx}{E:St->XK}{o:Expr}{pos apos:Uh}{m:Qz}{k:Nat}{f C:PD}{fd:Qi}{ps:List Qz}
end
section
variable{δ:Dn}{β β1 β2:Bg}
end
end L2.Pu
namespace L2.Pu
open PySem PySem.Spec PyProof PyProof.Rows
section
variable{X:Cx}{K:P6}
end
section
variable{X:Cx}{K:P6}{E:St->XK}{o e:Expr}{apos cpos:Uh}
end
theorem vq(c:Nat->Ds->Bg->Prop)
  (step:∀n δ β,c n δ β->(∃β1,t (vwA δ) β=My (.ok Pz,β1)/\Gw h δ β1 Q)\/∃β1,t (vwA δ) β=My (.ok Pt,β1)/\Gw g δ β1 (λo β2=>∃δ1,o= .nx δ1/\∃m,m<n/\c m δ1 β2)):
  ∀(n:Nat) (δ:Ds) (β:Bg),c n δ β->Gw (aI (gWh t g) h) δ β Q:=by
 have gen:∀(n:Nat) (δ:Ds) (β:Bg),c n δ β->∃k a b,bL t g k δ β=My (.nx a,b)/\Gw h a b Q:=by
  intro n
  induction n using WY with
  |_ n ih=>
   intro δ β hI;rcases step n δ β hI with⟨β1,e,k⟩|⟨β1,e,k⟩
   ·exact⟨1,δ,β1,by unfold bL;simp only[e],k⟩
   ·obtain⟨o,β2,f,δ1,rfl,m,hm,d⟩:=k
    obtain⟨k,a,b,i,j⟩:=ih m hm δ1 β2 d;exact⟨k+1,a,b,by unfold bL;simp only[e,f,i],j⟩
 intro n δ β hI;obtain⟨k,a,b,e,l⟩:=gen n δ β hI;exact eF (ML e) l
end L2.Pu
namespace L2.Pu
open PySem PySem.Spec PyProof.Rows
section
variable{prog:Qu}{w:QH}{A:QU}{E:PH->PM->Prop}{s:PM}{l:PD}{xs:Array (Int×Tok)}
theorem BV(f:A.handled=Po)(c:s.heap.IsTuple l (Ye xs))
  (h:∀h' d t',(∀b o,s.heap.get? b=My o->h'.get? b=My o)->Q (.int (preSum (numAt xs) xs.size) t') {s with heap:=h',toks:=d}):
  PY (Qk prog w) A (VD (.builtin "sum") [.ref l]) Q E s:=by
 have a:l<s.heap.objs.size:=by obtain⟨_,e,_⟩:=c;exact Qj e
 refine call_sum_walkG (WL c ⟨_,_,_,_,_,_,numAt xs,rfl,Walks.tuple (A:=A.in1) f _ l (QK a) (Ye xs),⟨⟨_,P4 _ rfl,rfl,rfl⟩,c.at λo e=>Pr _ e⟩,λb hb=>?_,(λ_ _=>intItems_at),λh' d t' g=>?_⟩)
 ·show b<(s.heap.push _).objs.size
  rw[Q9];rcases PZ.mp hb with rfl|hb
  ·exact Vr _
  ·rcases PZ.mp hb with rfl|hb
   ·exact Vb a
   ·cases hb
 ·have:=h h' d t' λb o e=>g b o (λhm=>by
   rcases PZ.mp hm with i|hm
   ·exact Ql (i▸Qj e) (QS _)
   ·cases hm) (Pr _ e)
  simpa[Ye]using this
end
section
variable{X:Cx}{K:P6}
abbrev IB(K:P6):List V->Hp->VK->Prop:=λxs H Q=>∃(p:PD) (ns:List Int),xs=[.ref p]/\(SqL K H p (ns.map V.int)\/SqT K H p (ns.map V.int))/\Q (.int ns.sum) H
theorem AS(b:X.calm=Pt):db X (.builtin "sum") (IB X.K):=by
 intro a s f H xs us Q I r h;obtain⟨p,ns,rfl,hq|hq,q⟩:=h
 ·exact rF b a s f H _ us Q I r ⟨p,ns,rfl,hq,q⟩
 ·obtain⟨u,rfl,g⟩:=kh r
  cases g;obtain⟨its,i,pl,l⟩:=I.tuple hq;have c:=pz i;obtain⟨xs,ex⟩:=c.allInts.items;have d:=c.numsOf;have j:its=(Ye xs).toList:=by rw[←ex]
  rw[j,nums_intItems]at d;rw[ex]at pl;refine BV (I.ok.hd b) pl λh' m t' k=>?_;have e:preSum (numAt xs) xs.size=ns.sum:=by rw[preSum_eq,Sb (by simp),d]
  rw[e];exact⟨.int ns.sum,H,I.kept k,⟨_,rfl⟩,q⟩
def oA:List D->Option D
 |[.lst xs]=>(eC xs).map λns=> .int ns.sum
 |[.tup xs]=>(eC xs).map λns=> .int ns.sum
 |_=>Po
theorem Mw:eU K (IB K) oA:=λF H β Q ds d vs fr h e k=>by
 unfold oA at e;split at e
 ·rename_i xs
  obtain⟨ns,q,rfl⟩:=Vp.mp e;obtain⟨v,rfl,g⟩:=DenL.one h;obtain⟨a,ys,rfl,r,dl⟩:=Den.sqL g;rw[intsOf_eq q]at dl;have b:=DenL.ints ns dl;subst b;exact⟨a,ns,rfl,.inl r,k _ H (To.refl fr) rfl⟩
 ·rename_i xs
  obtain⟨ns,q,rfl⟩:=Vp.mp e;obtain⟨v,rfl,g⟩:=DenL.one h;obtain⟨a,ys,rfl,r,dl⟩:=Den.sqT g;rw[intsOf_eq q]at dl;have b:=DenL.ints ns dl;subst b;exact⟨a,ns,rfl,.inr r,k _ H (To.refl fr) rfl⟩
 ·cases e
theorem Ls(ns:List Int):oA [.lst (ns.map D.int)]=My (.int ns.sum):=eJ ns
theorem Lr(ns:List Int):oA [.tup (ns.map D.int)]=My (.int ns.sum):=eJ ns
end
section
variable{X:Cx}{E:St->XK}{o e e1 e2:Expr}{es:List Expr}{pos p apos:Uh}{x m:Qz}{k n:Nat}{f C:PD}{fd:Qi}{ps ks ns:List Qz}{kws:List Vt}
end
noncomputable def MN:G:=λ_ _=>Po
theorem vM{st:Q6}{K:P6}{E:St->XK}:PS X st (tG K H MN E):=λ_ _ _ _ _ _ h=>by
 obtain⟨_,_,_,_,_,_,_,e,_⟩:=h;cases e
end L2.Pu
namespace L2.Pu
open PySem
noncomputable def facN:Nat->Nat
 |0=>1
 |n+1=>facN n*(n+1)
noncomputable def pr(l:List Nat):Nat:=l.foldr (·*·) 1
theorem zd:pr []=1:=rfl
theorem ud(l m:List Nat):pr (l++m)=pr l*pr m:=by
 induction l with
 |nil=>simp[pr]
 |cons x l ih=>
  show x*pr (l++m)=x*pr l*pr m;rw[ih,QG]
theorem JN{α:Type}{l:List α}{i:Nat}{x:α}(h:l[i]?=My x):l.take (i+1)=l.take i++[x]:=by
 rw[List.take_succ,h];rfl
theorem qe{α:Type}{f:α->Nat}{l:List α}{i:Nat}{x:α}(h:l[i]?=My x):pr ((l.take (i+1)).map f)=pr ((l.take i).map f)*f x:=by
 rw[JN h,Qy,ud];simp[pr]
theorem iI:∀n,0<facN n
 |0=>by decide
 |n+1=>Uu (iI n) (by omega)
theorem ED:∀{n m:Nat},n<=m->facN n<=facN m:=by
 intro n m h
 induction h with
 |refl=>exact PN _
 |step h ih=>exact Qc ih (XW _ (by omega))
theorem Pb:facN 40<=2^160:=by decide +kernel
theorem uP(h:n<=40):facN n<=2^160:=Qc (ED h) Pb
theorem zc(h:∀x∈l,0<x):0<pr l:=by
 induction l with
 |nil=>decide
 |cons x l ih=>exact Uu (h x PF) (ih λy a=>h y (Ps _ a))
theorem OB{l:List Nat}(h:∀x∈l,x<=2^m):pr l<=2^(m*l.length):=by
 induction l with
 |nil=>exact Nat.one_le_two_pow
 |cons x l ih=>
  show x*pr l<=_;rw[Qd,Nat.mul_succ,UK,Nat.pow_add];exact Xm (h x PF) (ih λy a=>h y (Ps _ a))
theorem fQ{l:List Nat}(h:x∈l):x<=l.sum:=by
 induction l with
 |nil=>cases h
 |cons y l ih=>
  rw[Qe];rcases PZ.mp h with rfl|h
  ·omega
  ·have:=ih h;omega
theorem dL(h:t<=2^m)(hm:m<=999):t<2^1000:=Ry (Qc h (Uv (by decide) hm)) (Nat.pow_lt_pow_right (by decide) (by decide))
theorem fG{t n:Nat}(a:t<2^1000)(b:n<2^1000):DE (.int (t:Int)) (.int (n:Int))=My (.int ((t*n:Nat):Int)):=by
 have c:gG (t:Int)=Pt:=P9 (by rw[Wc];exact a);have d:gG (n:Int)=Pt:=P9 (by rw[Wc];exact b);show(if(gG (t:Int)&&gG (n:Int))=Pt then _ else _)=_;simp only[c,d,Uj,QY];rfl
theorem xV{t g:Nat}(d:0<g)(a:g<2^1000):xW (.int (t:Int)) (.int (g:Int))=My (.int ((t/g:Nat):Int)):=by
 have b:decide ((0:Int)<(g:Int))=Pt:=P9 (by omega);have c:decide (((g:Int)).natAbs.log2<9000)=Pt:=P9 (by
  rw[Wc];have:=(Nat.log2_lt (n:=g) (k:=1000) (by omega)).mpr a;omega)
 show(if(decide ((0:Int)<(g:Int))&&decide (((g:Int)).natAbs.log2<9000))=Pt then _ else _)=_;simp only[b,c,Uj,QY];rfl
theorem fZ(l:List Nat):(nI l).sum=((l.sum:Nat):Int):=by
 induction l with
 |nil=>rfl
 |cons x l ih=>
  show(x:Int)+(nI l).sum=_;rw[ih,Qe,VG]
theorem o7{l:List Nat}{i:Nat}{d:D}(h:((nI l).map D.int)[i]?=My d):∃n,l[i]?=My n/\d= .int (n:Int):=by
 obtain⟨x,a,rfl⟩:=dJ h;obtain⟨n,hn,rfl⟩:=dJ a;exact⟨n,hn,rfl⟩
theorem o6(l:List Nat):((nI l).map D.int).length=l.length:=by rw[Pp,Pp]
def Sq(l:List Nat)(d:D):Prop:=d=nL l\/d= .tup ((nI l).map D.int)
theorem Sq.seq(h:Sq l d):fj d=My ((nI l).map D.int):=by rcases h with rfl|rfl<;>rfl
theorem rg2'(a:0<=i)(b:i<=10^9)(c:0<=j)(d:j<=10^9):nJ [.int i,.int j]=My (aR i (j-i).toNat):=by
 have q:(decide (-(2^62)<=i)&&decide (i<2^62)&&decide (-(2^62)<=j)&&decide (j<2^62))=Pt:=by
  simp only[Qq,QI];omega
 show(if(decide (-(2^62)<=i)&&decide (i<2^62)&&decide (-(2^62)<=j)&&decide (j<2^62))=Pt then My (aR i (j-i).toNat)else Po)=_;rw[PP q]
theorem rg2{n:Nat}(h:n<=1000):nJ [.int 2,.int ((n:Int)+1)]=My (aR 2 (n-1)):=by
 rw[rg2' (by decide) (by decide) (by omega) (by omega),show((n:Int)+1-2).toNat=n-1 by omega]
end L2.Pu
namespace L2.Pu
theorem BH(h:∀i<n,f i<=g i):S n f<=S n g:=by
 induction n with
 |zero=>exact Yz _
 |succ n ih=>
  rw[gi,gi];have a:=ih λi b=>h i (by omega);have c:=h n (by omega);omega
theorem IZ(n:Nat)(f g:Nat->Int):S n (λi=>f i-g i)=S n f-S n g:=by
 induction n with
 |zero=>rfl
 |succ n ih=>rw[gi,gi,gi,ih];omega
noncomputable def fl(x y:Bool)(l h:Int):Int:=(if x=Pt/\y=Pz then h else 0)-(if x=Pz/\y=Pt then l else 0)
def slk(rs cs:Nat->Int)(lo a:Nat->Nat->Int)(r c:Nat)(X Y:Nat->Bool):Int:=
 S c (λj=>if Y j=Pt then cs j else 0)-S r (λi=>if X i=Pt then rs i else 0)+S r λi=>S c λj=>fl (X i) (Y j) (lo i j) (a i j)
section
variable{rs cs:Nat->Int}{lo hi:Nat->Nat->Int}{r c:Nat}
theorem JT{g:Nat->Nat->Int}(h:∀i<r,∀j<c,lo i j<=g i j/\g i j<=hi i j)(d:∀i<r,rs i=S c (g i))(e:∀j<c,cs j=S r λi=>g i j)(X Y:Nat->Bool):0<=slk rs cs lo hi r c X Y:=by
 have f:S c (λj=>if Y j=Pt then cs j else 0)=S r λi=>S c λj=>if Y j=Pt then g i j else 0:=by
  rw[BG];refine dn λj a=>?_;cases q:Y j with
  |true=>simp only[PP];exact e j a
  |false=>simp only[Qh,Q1];exact(ma r).symm
 have k:S r (λi=>if X i=Pt then rs i else 0)=S r λi=>S c λj=>if X i=Pt then g i j else 0:=by
  refine dn λi hi=>?_;cases q:X i with
  |true=>simp only[PP];exact d i hi
  |false=>simp only[Qh,Q1];exact(ma c).symm
 unfold slk;rw[f,k,←IZ,←sU];refine Int.le_trans (Int.le_of_eq (ma r).symm) (BH λi b=>?_);rw[←IZ,←sU];refine Int.le_trans (Int.le_of_eq (ma c).symm) (BH λj a=>?_);have:=h i b j a;unfold fl;cases X i<;>cases Y j<;>simp<;>omega
end
noncomputable def chF:Nat->List (List Nat)
 |0=>[[]]
 |n+1=>chF n++(chF n).map (·++[n])
theorem iM:∀(n:Nat) (l:List Nat),l∈chF n->l.Sublist (PR n)
 |0,l,h=>by rw[Qt.mp h];exact .slnil
 |n+1,l,h=>by
  rw[Su];rcases Rk.mp h with h|h
  ·exact(iM n l h).trans (List.sublist_append_left _ _)
  ·obtain⟨a,h',rfl⟩:=P8.mp h
   exact(iM n a h').append (List.Sublist.refl _)
theorem wA:∀n:Nat,(chF n).length=2^n
 |0=>rfl
 |n+1=>by
  rw[chF,Qf,Pp,wA n,X5];omega
section
variable{rs cs:List Int}{b:LP}{r c:Nat}
abbrev slB(rs cs:List Int)(b:LP)(r c:Nat)(X Y:Nat->Bool):Int:=slk (λi=>rs.getD i 0) (λj=>cs.getD j 0) (λi j=>(bI b i j).1) (λi j=>(bI b i j).2) r c X Y
theorem Lz{a d:List Nat}(e:a.Sublist (PR r))(f:d.Sublist (PR c)):sC cs b r c a d-o5 rs a=slB rs cs b r c (λi=>decide (i∈a)) (λj=>decide (j∈d)):=by
 rw[JY e f];unfold o5 slB slk;rw[ml f,ml e];have h:∀(n:Nat) (l:List Nat) (g:Nat->Int),S n (λj=>if decide (j∈l)=Pt then g j else 0)=S n (λj=>if j∈l then g j else 0):=λn l g=>dn λj _=>by simp
 rw[h,h];have k:(S r λi=>S c λj=>hF b a d i j)=S r λi=>S c λj=>fl (decide (i∈a)) (decide (j∈d)) (bI b i j).1 (bI b i j).2:=by
  refine dn λi _=>dn λj _=>?_;unfold hF fl;simp
 simp only[k];omega
def ut(cs:List Int)(b:LP)(r c:Nat)(a:List Nat):List Nat:=(PR c).filter λj=>decide (eP cs b r a j<fR b a j)
end
end L2.Pu
namespace L2.Pu
open PySem PySem.W
section
variable{tb:String->Option Builtin}{p:Qu}{w:QH}{n₀:Nat}{ann:Option PH}{env:WN}{q:Uh}
theorem i8(k:Nat){b:List Q6}(h:segRun tb p w n₀ ann 1 n s (piecesOf (b.take k) env c pos [Yj q])=My (.next,s',c,p'))
  (a:topRun tb p w n₀ ann N s' (restOf (b.drop k) env c p' [Yj q])=My r):topRun tb p w n₀ ann (n+N) s (restOf b env c pos [Yj q])=My r:=by
 have:=piece_app h a;rwa[Sj]at this
theorem DZ(e:b=[])(k:topRun tb p w n₀ ann N s ⟨doneF .next,c,pos,[Yj q]⟩=My r):topRun tb p w n₀ ann N s (restOf b env c pos [Yj q])=My r:=by
 subst e;exact piece_nil k
end
end L2.Pu
namespace L2.Hs
open PySem PySem.SetTable
def Rs(xs:Array Nat):Prop:=∀i k x y:Nat,i<k->xs[i]?=My x->xs[k]?=My y->x<y
theorem n6{xs:Array Nat}(r:Rs xs):∀(fuel lo c:Nat),lo<=c->c<=xs.size->c-lo<=fuel->(∀i x,i<lo->xs[i]?=My x->x<j)->(∀i x,c<=i->xs[i]?=My x->j<=x)->
  below.go xs j fuel lo c<=xs.size/\(∀i x,i<below.go xs j fuel lo c->xs[i]?=My x->x<j)/\∀i x,below.go xs j fuel lo c<=i->xs[i]?=My x->j<=x
 |0,lo,c,h1,h2,h3,a,b=>by
  have:lo=c:=by omega
  subst this;exact⟨h2,a,b⟩
 |fuel+1,lo,c,h1,h2,h3,a,b=>by
  unfold below.go;by_cases q:lo<c
  ·rw[PP q]
   simp only;have hm:(lo+c)/2<xs.size:=by omega
   have e:xs[(lo+c)/2]?=My (xs.getD ((lo+c)/2) j):=by simp[SA,hm]
   by_cases z:xs.getD ((lo+c)/2) j<j
   ·rw[PP z]
    refine n6 r fuel _ _ (by omega) h2 (by omega) (λi x f d=>?_) b;by_cases w:i=(lo+c)/2
    ·subst w
     rw[e]at d;cases d;exact z
    ·exact UL (r i ((lo+c)/2) x _ (by omega) d e) z
   ·rw[PL z]
    refine n6 r fuel _ _ (by omega) (by omega) (by omega) a (λi x f d=>?_);by_cases w:i=(lo+c)/2
    ·subst w
     rw[e]at d;cases d;omega
    ·have:=r ((lo+c)/2) i _ x (by omega) e d
     omega
  ·rw[PL q]
   have:lo=c:=by omega
   subst this;exact⟨h2,a,b⟩
theorem jc{xs:Array Nat}(r:Rs xs):below xs j<=xs.size/\(∀i x,i<below xs j->xs[i]?=My x->x<j)/\∀i x,below xs j<=i->xs[i]?=My x->j<=x:=
 n6 r xs.size 0 xs.size (Q5 _) (PN _) (by omega) (λi x h=>Ql h (Sa i)) (λi x h e=>by
  have:=(Q3.mp e).1;omega)
theorem ET(r:Rs xs)(h:xs[i]?=My j):below xs j=i:=by
 obtain⟨c,a,b⟩:=jc (j:=j) r;rcases S8 (below xs j) i with q|q|q
 ·have d:=(Q3.mp h).1
  have e:xs[below xs j]?=My xs[below xs j]:=getElem?_pos xs _ (by omega);have:=b _ _ (PN _) e;have:=r _ _ _ _ q e h;omega
 ·exact q
 ·have:=a _ _ q h
  omega
theorem qT{t:QT}(r:Rs t.place)(h:t.place[i]?=My j):t.slot j= .live i:=by
 unfold slot;simp only[ET r h,h,Ww,QY]
theorem wZ{t:QT}(d:t.dummies=#[])(h:∀i:Nat,t.place[i]?≠My j):t.slot j= .empty:=by
 unfold slot;have a:(t.place[below t.place j]?==My j)=Pz:=by
  rw[XI];exact h _
 have b:has t.dummies j=Pz:=by unfold has;rw[d];rfl
 simp only[a,b,Qh,Q1]
noncomputable def itr(t:QT):Nat->Probe->Probe
 |0,p=>p
 |n+1,p=>itr t n (t.advance p)
theorem nR(t:QT):∀(n:Nat) (p:Probe),itr t (n+1) p=t.advance (itr t n p)
 |0,p=>rfl
 |n+1,p=>by
  show itr t (n+1) (t.advance p)=t.advance (itr t n (t.advance p));exact nR t n (t.advance p)
theorem mG(t:QT):∀(n m:Nat) (p:Probe),itr t (n+m) p=itr t m (itr t n p)
 |0,m,p=>by rw[Rc];rfl
 |n+1,m,p=>by
  rw[show n+1+m=(n+m)+1 by omega];exact mG t n m (t.advance p)
structure Pv (t:QT) (p:Probe):Prop where
 j:p.j+p.more<=t.mask
 more:p.more<=9
 i:p.i<=t.mask
 pt:p.perturb<2^64
 du:p.dummy=Po
theorem q8{mask i:Nat}(h:i<=mask):i<=runEnd mask i/\runEnd mask i<=mask/\runEnd mask i-i<=9:=by
 unfold runEnd;by_cases q:i+9<=mask
 ·rw[PP q];omega
 ·rw[PL q];omega
noncomputable def blk(t:QT)(i pt:Nat):Probe:={j:=i,more:=runEnd t.mask i-i,i,perturb:=pt,dummy:=Po}
theorem pP{t:QT}(h:i<=t.mask)(a:pt<2^64):Pv t (blk t i pt):=by
 obtain⟨c,d,b⟩:=q8 h;refine⟨?_,b,h,a,rfl⟩;show i+(runEnd t.mask i-i)<=t.mask;omega
theorem qQ(t:QT)(h:Int):t.probeStart h=blk t (bits h % (t.mask+1)) (bits h):=rfl
theorem mT(h:Int):bits h<2^64:=by
 unfold bits;have:=UT h (show(0:Int)<2^64 by decide);have:=Uy h (show(2^64:Int)≠0 by decide);omega
theorem nB(t:QT)(h:Int):Pv t (t.probeStart h):=by
 rw[qQ];exact pP (by have:=We (bits h) (show t.mask+1>0 by omega);omega) (mT h)
noncomputable abbrev lpI(mask i pt:Nat):Nat:=(i*5+1+pt/32) % (mask+1)
theorem BF{t:QT}{p:Probe}(h:0<p.more):t.advance p={p with j:=p.j+1,more:=p.more-1}:=by
 unfold advance;rw[PP h]
theorem wF{t:QT}{p:Probe}(h:p.more=0)(hd:p.dummy=Po):t.advance p=blk t (lpI t.mask p.i p.perturb) (p.perturb/32):=by
 unfold advance;rw[PL (by omega)];unfold leap blk;simp only[hd]
theorem xD(mask i pt:Nat):lpI mask i pt<=mask:=by
 have:=We (i*5+1+pt/32) (show mask+1>0 by omega);unfold lpI;omega
theorem BE{t:QT}(v:Pv t p):Pv t (t.advance p):=by
 by_cases q:0<p.more
 ·rw[BF q]
  exact⟨by have:=v.j;show p.j+1+(p.more-1)<=t.mask;omega,by have:=v.more;show p.more-1<=9;omega,v.i,v.pt,v.du⟩
 ·rw[wF (by omega) v.du]
  exact pP (xD _ _ _) (Ry (UA _ _) v.pt)
theorem lR:∀(n:Nat) {p:Probe},Pv t p->Pv t (itr t n p)
 |0,_,v=>v
 |n+1,_,v=>lR n (BE v)
theorem qq:∀(k:Nat) {p:Probe},Pv t p->k<=p.more->itr t k p={p with j:=p.j+k,more:=p.more-k}
 |0,p,v,h=>by cases p;rfl
 |k+1,p,v,h=>by
  rw[nR,qq k v (by omega)];rw[BF (show 0<p.more-k by omega)];simp only[Probe.mk.injEq,and_true,true_and];omega
theorem nS{t:QT}{p:Probe}(v:Pv t p):itr t (p.more+1) p=blk t (lpI t.mask p.i p.perturb) (p.perturb/32):=by
 rw[nR,qq _ v (PN _)];exact wF (VB _) v.du
def bV(mask:Nat):Nat->Nat×Nat->Nat×Nat
 |0,x=>x
 |k+1,x=>bV mask k (lpI mask x.1 x.2,x.2/32)
theorem jq(mask:Nat):∀(k:Nat) (x:Nat×Nat),bV mask (k+1) x=(lpI mask (bV mask k x).1 (bV mask k x).2,(bV mask k x).2/32)
 |0,x=>rfl
 |k+1,x=>jq mask k _
theorem uE{t:QT}:∀(k:Nat) {p:Probe},Pv t p->∃n,n<=10*(k+1)/\itr t n p=blk t (bV t.mask (k+1) (p.i,p.perturb)).1 (bV t.mask (k+1) (p.i,p.perturb)).2
 |0,p,v=>⟨p.more+1,by have:=v.more;omega,nS v⟩
 |k+1,p,v=>by
  obtain⟨n,hn,e⟩:=uE k v;have a:=lR n v;rw[e]at a;refine⟨n+((blk t (bV t.mask (k+1) (p.i,p.perturb)).1 (bV t.mask (k+1) (p.i,p.perturb)).2).more+1),by have:=a.more;omega,?_⟩;rw[mG,e,nS a,jq t.mask (k+1)];rfl
def Mk(mask:Nat):Prop:=mask=7\/mask=31\/mask=127
noncomputable def orb(mask:Nat):Nat->Nat->Nat
 |0,i=>i
 |k+1,i=>orb mask k ((i*5+1) % (mask+1))
theorem mx(mask:Nat):∀(a b i:Nat),orb mask (a+b) i=orb mask b (orb mask a i)
 |0,b,i=>by rw[Rc];rfl
 |a+1,b,i=>by
  rw[show a+1+b=(a+b)+1 by omega];exact mx mask a b _
def IE(mask:Nat):Bool:=(orb mask (mask+1) 0==0)&&(PR (mask+1)).all λj=>(PR (mask+1)).any λk=>orb mask k 0==j
theorem L9{mask:Nat}(h:Mk mask):IE mask=Pt:=by
 rcases h with rfl|rfl|rfl<;>decide +kernel
theorem vZ{mask i j:Nat}(h:Mk mask)(l:i<=mask)(m:j<=mask):∃k,k<=mask/\orb mask k i=j:=by
 have o:=L9 h;unfold IE at o;rw[Qq,SL,SE]at o;obtain⟨g,ha⟩:=o;obtain⟨a,e,c⟩:=List.any_eq_true.mp (ha i (Qg.mpr (by omega)));obtain⟨b,f,d⟩:=List.any_eq_true.mp (ha j (Qg.mpr (by omega)));rw[SL]at c d;have:=Qg.mp e;have:=Qg.mp f;by_cases q:a<=b
 ·refine⟨b-a,by omega,?_⟩
  rw[←c,←mx,show a+(b-a)=b by omega,d]
 ·refine⟨b+(mask+1)-a,by omega,?_⟩
  rw[←c,←mx,show a+(b+(mask+1)-a)=(mask+1)+b by omega,mx,g,d]
theorem lx(mask:Nat):∀(k i:Nat),bV mask k (i,0)=(orb mask k i,0)
 |0,i=>rfl
 |k+1,i=>by
  show bV mask k (lpI mask i 0,0/32)=_;rw[show(0/32:Nat)=0 from rfl,lx mask k];rfl
theorem nG(mask:Nat):∀(a b:Nat) (x:Nat×Nat),bV mask (a+b) x=bV mask b (bV mask a x)
 |0,b,x=>by rw[Rc];rfl
 |a+1,b,x=>by
  rw[show a+1+b=(a+b)+1 by omega];exact nG mask a b _
theorem nF(mask:Nat):∀(k:Nat) (x:Nat×Nat),(bV mask k x).2=x.2/32^k
 |0,x=>by simp[bV]
 |k+1,x=>by
  rw[jq,nF mask k x,X3,X5]
theorem vP(mask:Nat):∀(k:Nat) (x:Nat×Nat),x.1<=mask->(bV mask k x).1<=mask
 |0,x,h=>h
 |k+1,x,h=>by rw[jq];exact xD _ _ _
theorem Pk{t:QT}(h:Mk t.mask)(v:Pv t p)(a:j<=t.mask):∃n,n<10*turns t.mask/\(itr t n p).j=j:=by
 have z:(bV t.mask 13 (p.i,p.perturb)).2=0:=by
  rw[nF];exact Nat.div_eq_of_lt (Qm v.pt (by decide))
 have l:=vP t.mask 13 (p.i,p.perturb) v.i;obtain⟨k,c,e⟩:=vZ h l a;obtain⟨n,hn,b⟩:=uE (12+k) v;refine⟨n,by unfold turns;omega,?_⟩;rw[b];show(bV t.mask (12+k+1) (p.i,p.perturb)).1=j;rw[show 12+k+1=13+k by omega,nG,show bV t.mask 13 (p.i,p.perturb)=((bV t.mask 13 (p.i,p.perturb)).1,0)from T9 rfl z,lx];exact e
abbrev Lv(t:QT)(j:Nat):Prop:=∃k:Nat,t.place[k]?=My j
structure Tb (t:QT) (hs:List Int):Prop where
 km:Mk t.mask
 sz:t.place.size=hs.length
 rs:Rs t.place
 le:∀i j:Nat,t.place[i]?=My j->j<=t.mask
 du:t.dummies=#[]
 nf:t.place.size*5<t.mask*3
 rch:∀(i:Nat) (h:Int) (j:Nat),hs[i]?=My h->t.place[i]?=My j->∃n,(itr t n (t.probeStart h)).j=j/\∀m<n,Lv t (itr t m (t.probeStart h)).j
theorem Mk.odd(h:Mk m):m % 2=1/\7<=m/\m<=127:=by
 rcases h with rfl|rfl|rfl<;>decide
theorem gap{xs:Array Nat}(r:Rs xs):∀n,n<=xs.size->(∀i:Nat,i<n->xs[i]?=My i)\/∃j,j<n/\∀i:Nat,xs[i]?≠My j
 |0,_=> .inl λi h=>Ql h (Sa i)
 |n+1,h=>by
  rcases gap r n (by omega)with q|⟨j,c,b⟩
  ·have e:xs[n]?=My xs[n]:=getElem?_pos xs n (by omega)
   by_cases z:xs[n]=n
   ·refine .inl λi d=>?_
    by_cases w:i=n
    ·subst w;rw[e,z]
    ·exact q i (by omega)
   ·have lt:n<=xs[n]:=by
     cases n with
     |zero=>omega
     |succ m=>
      have:=r m (m+1) _ _ (by omega) (q m (by omega)) e;omega
    refine .inr ⟨n,by omega,λi a=>?_⟩;rcases S8 i n with w|w|w
    ·rw[q i w]at a;cases a;omega
    ·subst w;rw[e]at a;exact z (Qo a)
    ·have:=r n i _ _ w e a
     omega
  ·exact .inr ⟨j,by omega,b⟩
theorem MJ{xs:Array Nat}(r:Rs xs):∃j,j<=xs.size/\∀i:Nat,xs[i]?≠My j:=by
 rcases gap r xs.size (PN _)with q|⟨j,c,a⟩
 ·refine⟨xs.size,PN _,λi e=>?_⟩
  have b:=(Q3.mp e).1;rw[q i b]at e;cases e;omega
 ·exact⟨j,by omega,a⟩
theorem IT{t:QT}(r:Rs t.place)(d:t.dummies=#[]):∀(fuel:Nat) (p:Probe) (e:Nat),Pv t p->e<fuel->¬Lv t (itr t e p).j->
  ∃m,m<=e/\(∀a<m,∃i,t.place[i]?=My (itr t a p).j/\hashAt i≠h)/\
   ((¬Lv t (itr t m p).j/\probe.go t hashAt h fuel p=My (.empty (itr t m p).j Po))\/∃i,t.place[i]?=My (itr t m p).j/\hashAt i=h/\probe.go t hashAt h fuel p=My (.candidate (itr t m p).j i (itr t (m+1) p)))
 |0,_,_,_,h,_=>Ql h (Sa _)
 |fuel+1,p,e,v,hf,he=>by
  unfold probe.go;by_cases q:Lv t p.j
  ·obtain⟨i,b⟩:=q
   rw[qT r b];simp only;by_cases z:hashAt i=h
   ·refine⟨0,Q5 _,λa hm=>Ql hm (Sa _),.inr ⟨i,b,z,?_⟩⟩
    rw[PP (by rw[SL];exact z)];rfl
   ·rw[PL (by rw[SL];exact z)]
    cases e with
    |zero=>exact Ql ⟨i,b⟩ he
    |succ e=>
     obtain⟨m,hm,ha,c⟩:=IT r d fuel (t.advance p) e (BE v) (by omega) he;refine⟨m+1,by omega,λa f=>?_,c⟩;cases a with
     |zero=>exact⟨i,b,z⟩
     |succ a=>exact ha a (by omega)
  ·rw[wZ d (λi b=>q ⟨i,b⟩)]
   refine⟨0,Q5 _,λa hm=>Ql hm (Sa _),.inl ⟨q,?_⟩⟩;simp only[v.du];rfl
theorem Tb.free{t:QT}(T:Tb t hs)(v:Pv t p):∃e,e<10*turns t.mask/\¬Lv t (itr t e p).j:=by
 obtain⟨j,f,a⟩:=MJ T.rs;have:=T.nf;have:=T.km.odd;obtain⟨e,b,c⟩:=Pk T.km v (show j<=t.mask by omega);exact⟨e,b,λ⟨k,d⟩=>a k (by rw[←c];exact d)⟩
theorem zY{α:Type}{xs:Array α}{p:Nat}{x:α}(b:p<=xs.size)(i:Nat):(insertAt xs p x)[i]?=if i<p then xs[i]? else if i=p then My x else xs[i-1]?:=by
 unfold insertAt;rw[Array.getElem?_append];have a:((xs.extract 0 p).push x).size=p+1:=by simp;omega
 rw[a];by_cases q:i<p
 ·rw[PP (by omega),PP q,Yl,Yt]
  rw[PL (by omega),XF];simp;omega
 ·by_cases z:i=p
  ·subst z
   rw[PP (by omega),PL (by omega),PP rfl,Yl,Yt];rw[PP (by omega)]
  ·rw[PL (by omega),PL q,PL z,XF]
   by_cases w:i-1<xs.size
   ·rw[PP (by omega)]
    congr 1;omega
   ·rw[PL (by omega),SN (by omega)]
theorem f9{α:Type}{xs:Array α}{p:Nat}{x:α}(a:p<=xs.size):(insertAt xs p x).size=xs.size+1:=by
 unfold insertAt;simp;omega
theorem Tb.put{t:QT}{hs:List Int}(T:Tb t hs)(B:¬Lv t j)(hn:(itr t n (t.probeStart h)).j=j)(ha:∀m<n,Lv t (itr t m (t.probeStart h)).j)(nf:(t.place.size+1)*5<t.mask*3):
  (t.put j).1.dummies=#[]/\(t.put j).1.mask=t.mask/\(t.put j).1.place.size=t.place.size+1/\(t.put j).2<=t.place.size/\Tb (t.put j).1 (hs.take (t.put j).2++h::hs.drop (t.put j).2):=by
 obtain⟨b1,b2,b3⟩:=jc (j:=j) T.rs;have hd:has t.dummies j=Pz:=by unfold has;rw[T.du];rfl
 have w:(t.put j).1.dummies=#[]:=by
  show(if has t.dummies j=Pt then _ else t.dummies)=#[];rw[hd,PL PQ,T.du]
 have ep:(t.put j).1.place=insertAt t.place (below t.place j) j:=rfl;have g:=λi=>zY (x:=j) b1 i;have A:∀x,Lv t x->Lv (t.put j).1 x:=λx ⟨k,l⟩=>by
  by_cases q:k<below t.place j
  ·exact⟨k,by rw[ep,g,PP q];exact l⟩
  ·exact⟨k+1,by rw[ep,g,PL (by omega),PL (by omega)];exact l⟩
 have it:∀m p,itr (t.put j).1 m p=itr t m p:=λm=>by
  induction m with
  |zero=>intro p;rfl
  |succ m ih=>intro p;exact ih (t.advance p)
 refine⟨w,rfl,by rw[ep,f9 b1],b1,⟨T.km,?_,?_,?_,w,?_,?_⟩⟩
 ·rw[ep,f9 b1,T.sz]
  have:(t.put j).2<=hs.length:=by rw[←T.sz];exact b1
  simp;omega
 ·intro i k x y r c e
  rw[ep,g]at c e;have C:∀k,t.place[k]?≠My j:=λk l=>B ⟨k,l⟩;by_cases q1:i<below t.place j
  ·rw[PP q1]at c
   by_cases q2:k<below t.place j
   ·rw[PP q2]at e
    exact T.rs i k x y r c e
   ·rw[PL q2]at e
    by_cases q3:k=below t.place j
    ·rw[PP q3]at e;cases e
     exact b2 i x q1 c
    ·rw[PL q3]at e
     exact T.rs i (k-1) x y (by omega) c e
  ·rw[PL q1]at c
   rw[PL (by omega),PL (by omega)]at e;by_cases q3:i=below t.place j
   ·rw[PP q3]at c;cases c
    have J:=b3 (k-1) y (by omega) e;have:y≠j:=λz=>C (k-1) (by rw[e,z]);omega
   ·rw[PL q3]at c
    exact T.rs (i-1) (k-1) x y (by omega) c e
 ·intro i x c
  rw[ep,g]at c;by_cases q1:i<below t.place j
  ·rw[PP q1]at c;exact T.le i x c
  ·rw[PL q1]at c
   by_cases q3:i=below t.place j
   ·rw[PP q3]at c;cases c
    have v:=lR n (nB t h);have:=v.j;show j<=t.mask;omega
   ·rw[PL q3]at c;exact T.le _ x c
 ·rw[ep,f9 b1];exact nf
 ·intro i h' x F c
  have L:(t.put j).2<=hs.length:=by rw[←T.sz];exact b1
  have u:(t.put j).2=below t.place j:=rfl;rw[ep,g]at c;have d:(if i<below t.place j then hs[i]? else if i=below t.place j then My h else hs[i-1]?)=My h':=by
   rw[←F,u];by_cases q1:i<below t.place j
   ·rw[PP q1,Tq (by rw[Sf];omega),Xy q1]
   ·rw[PL q1,RT (by rw[Sf];omega),Sf,Nat.min_eq_left (by omega)]
    by_cases q3:i=below t.place j
    ·rw[PP q3,q3,VB];rfl
    ·rw[PL q3,show i-below t.place j=(i-1-below t.place j)+1 by omega,XH,YS]
     congr 1;omega
  have f:∀o,hs[o]?=My h'->t.place[o]?=My x->∃n,(itr (t.put j).1 n ((t.put j).1.probeStart h')).j=x/\∀m<n,Lv (t.put j).1 (itr (t.put j).1 m ((t.put j).1.probeStart h')).j:=λo a b=>by
   obtain⟨H,I,u⟩:=T.rch o h' x a b;refine⟨H,by rw[it];exact I,λm hm=>?_⟩;rw[it];exact A _ (u m hm)
  by_cases q1:i<below t.place j
  ·rw[PP q1]at c d
   exact f i d c
  ·rw[PL q1]at c d
   by_cases q3:i=below t.place j
   ·rw[PP q3]at c d
    cases c;cases d;refine⟨n,by rw[it];exact hn,λm hm=>?_⟩;rw[it];exact A _ (ha m hm)
   ·rw[PL q3]at c d
    exact f (i-1) d c
theorem uF{t u:QT}(h:t.mask=u.mask):∀(n:Nat) (p:Probe),itr t n p=itr u n p
 |0,p=>rfl
 |n+1,p=>by
  show itr t n (t.advance p)=itr u n (u.advance p);have:t.advance p=u.advance p:=by unfold advance;rw[h]
  rw[this];exact uF h n _
theorem wW{t u:QT}(h:t.mask=u.mask)(x:Int):t.probeStart x=u.probeStart x:=by unfold probeStart;rw[h]
noncomputable abbrev tm(mask:Nat):QT:={mask,place:=#[],dummies:=#[],finger:=0,led:=Pt,moves:=0,plain:=Pt}
noncomputable abbrev fr(owner:Array (Option Nat))(j:Nat):Bool:=(owner.getD j (My 0)).isNone
theorem mM{mask:Nat}{owner:Array (Option Nat)}:∀(fuel i pt:Nat),i<=mask->pt<2^64->(∃b,b<fuel/\fr owner (bV mask b (i,pt)).1=Pt)->
  ∃n,layClean.free mask owner fuel i pt=My (itr (tm mask) n (blk (tm mask) i pt)).j/\fr owner (itr (tm mask) n (blk (tm mask) i pt)).j=Pt/\∀m<n,fr owner (itr (tm mask) m (blk (tm mask) i pt)).j=Pz
 |0,_,_,_,_,⟨b,h,_⟩=>Ql h (Sa b)
 |fuel+1,i,pt,hi,hp,⟨b,hb,hf⟩=>by
  have v:=pP (t:=tm mask) hi hp;obtain⟨r1,A,B⟩:=q8 hi;have f:(blk (tm mask) i pt).more=runEnd mask i-i:=rfl;have d:∀k,k<=runEnd mask i-i->(itr (tm mask) k (blk (tm mask) i pt)).j=i+k:=λk c=>by
   rw[qq k v c];rfl
  unfold layClean.free;split
  ·rename_i k c
   obtain⟨g,l,o⟩:=List.find?_range_eq_some.mp c;have:=Qg.mp l;refine⟨k,by rw[d k (by omega)],by rw[d k (by omega)];exact g,λm hm=>?_⟩;rw[d m (by omega)];have:=o m hm;simpa using this
  ·rename_i c
   have hn:∀k,k<=runEnd mask i-i->fr owner (i+k)=Pz:=λk p=>by
    have:=List.find?_range_eq_none.mp c k (by omega);simpa using this
   cases b with
   |zero=>
    have r:=hn 0 (by omega);exact Ql hf (by rw[show(bV mask 0 (i,pt)).1=i+0 from rfl,r];exact PQ)
   |succ b=>
    obtain⟨n,u,w,y⟩:=mM fuel (lpI mask i pt) (pt/32) (xD _ _ _) (Ry (UA _ _) hp) ⟨b,by omega,hf⟩;have a:∀m,itr (tm mask) (runEnd mask i-i+1+m) (blk (tm mask) i pt)=itr (tm mask) m (blk (tm mask) (lpI mask i pt) (pt/32)):=λm=>by
     rw[mG,←f,nS v];rfl
    refine⟨runEnd mask i-i+1+n,by rw[a];exact u,by rw[a];exact w,λm hm=>?_⟩;by_cases q:m<=runEnd mask i-i
    ·rw[d m q];exact hn m q
    ·obtain⟨e,rfl⟩:∃e,m=runEnd mask i-i+1+e:=⟨m-(runEnd mask i-i+1),by omega⟩
     rw[a];exact y e (by omega)
structure Ow (mask:Nat) (owner:Array (Option Nat)) (hs:List Int):Prop where
 sz:owner.size=mask+1
 lt:∀j k:Nat,owner[j]?=My (My k)->k<hs.length
 un:∀j j' k:Nat,owner[j]?=My (My k)->owner[j']?=My (My k)->j=j'
 cn:owner.toList.countP (·.isSome)=hs.length
 ex:∀(k:Nat) (h:Int),hs[k]?=My h->∃j n:Nat,owner[j]?=My (My k)/\(itr (tm mask) n ((tm mask).probeStart h)).j=j/\∀m<n,∃k':Nat,owner[(itr (tm mask) m ((tm mask).probeStart h)).j]?=My (My k')
theorem xS{mask:Nat}{owner:Array (Option Nat)}(hs:owner.size=mask+1){j:Nat}(b:j<=mask):(fr owner j=Pt↔owner[j]?=My Po)/\(fr owner j=Pz↔∃k:Nat,owner[j]?=My (My k)):=by
 have e:owner[j]?=My owner[j]:=getElem?_pos owner j (by omega);have a:owner.getD j (My 0)=owner[j]:=by simp[SA,show j<owner.size by omega]
 unfold fr;rw[a,e];cases owner[j]<;>simp
theorem Ow.step{mask:Nat}{owner:Array (Option Nat)}{hs:List Int}(O:Ow mask owner hs)(h:Int)(hm:Mk mask)(T:hs.length<=mask):
  ∃j,layClean.free mask owner (turns mask) (bits h % (mask+1)) (bits h)=My j/\Ow mask (owner.setIfInBounds j (My hs.length)) (hs++[h]):=by
 have r:bits h % (mask+1)<=mask:=by have:=We (bits h) (show mask+1>0 by omega);omega
 have⟨u,h1,h2⟩:∃u,u<=mask/\fr owner u=Pt:=by
  refine S7 λz=>?_;have all:∀a∈owner.toList,Option.isSome a=Pt:=λa ha=>by
   obtain⟨i,g,e⟩:=V0 ha;have J:i<owner.size:=by simpa using g
   have L:fr owner i=Pz:=by
    cases q:fr owner i with
    |false=>rfl
    |true=>exact Ql ⟨i,by have:=O.sz;omega,q⟩ z
   obtain⟨k,v⟩:=(xS O.sz (show i<=mask by have:=O.sz;omega)).2.mp L;have:owner[i]?=My a:=by rw[←S3,Pw g,e]
   rw[this]at v;cases v;rfl
  have:=List.countP_eq_length.mpr all;rw[O.cn]at this;have:=O.sz;simp at*;omega
 have z:(bV mask 13 (bits h % (mask+1),bits h)).2=0:=by
  rw[nF];exact Nat.div_eq_of_lt (Qm (mT h) (by decide))
 have l:=vP mask 13 (bits h % (mask+1),bits h) r;obtain⟨k,v,e⟩:=vZ hm l h1;have N:fr owner (bV mask (13+k) (bits h % (mask+1),bits h)).1=Pt:=by
  rw[nG,show bV mask 13 (bits h % (mask+1),bits h)=((bV mask 13 (bits h % (mask+1),bits h)).1,0)from T9 rfl z,lx];show fr owner (orb mask k _)=Pt;rw[e];exact h2
 obtain⟨n,C,F,P⟩:=mM (owner:=owner) (turns mask) (bits h % (mask+1)) (bits h) r (mT h) ⟨13+k,by unfold turns;omega,N⟩;have H:∀m,(itr (tm mask) m (blk (tm mask) (bits h % (mask+1)) (bits h))).j<=mask:=λm=>by
  have:=(lR m (pP (t:=tm mask) r (mT h))).j;show _<=(tm mask).mask;omega
 generalize I:(itr (tm mask) n (blk (tm mask) (bits h % (mask+1)) (bits h))).j=j at C F;have Q:j<=mask:=by rw[←I];exact H n
 have o:owner[j]?=My Po:=(xS O.sz Q).1.mp F;have p:j<owner.size:=by have:=O.sz;omega
 have set:∀x:Nat,(owner.setIfInBounds j (My hs.length))[x]?=if j=x then My (My hs.length)else owner[x]?:=λx=>by
  rw[Array.getElem?_setIfInBounds];by_cases q:j=x
  ·rw[PP q,PP q,PP p]
  ·rw[PL q,PL q]
 refine⟨j,C,⟨by rw[Array.size_setIfInBounds];exact O.sz,λx k c=>?_,λx y k c f=>?_,?_,λk h' d=>?_⟩⟩
 ·rw[set]at c
  rw[Qf];by_cases q:j=x
  ·rw[PP q]at c;cases c;simp
  ·rw[PL q]at c
   have:=O.lt x k c;omega
 ·rw[set]at c f
  by_cases q:j=x
  ·rw[PP q]at c;cases c
   by_cases q':j=y
   ·omega
   ·rw[PL q']at f
    exact Ql (O.lt y _ f) (QS _)
  ·rw[PL q]at c
   by_cases q':j=y
   ·rw[PP q']at f;cases f
    exact Ql (O.lt x _ c) (QS _)
   ·rw[PL q']at f
    exact O.un x y k c f
 ·rw[Array.toList_setIfInBounds,List.countP_set (by simpa using p),O.cn]
  have:owner.toList[j]'(by simpa using p)=Po:=by
   have e:=getElem?_pos owner j p;rw[o]at e;rw[Ui];exact(Qo e).symm
  rw[this];simp
 ·by_cases q:k<hs.length
  ·rw[Tq q]at d
   obtain⟨x,R,a1,a2,a3⟩:=O.ex k h' d;refine⟨x,R,?_,a2,λm hm=>?_⟩
   ·rw[set,PL (λw=>by subst w;rw[o]at a1;cases a1)];exact a1
   ·obtain⟨A,b⟩:=a3 m hm
    exact⟨A,by rw[set,PL (λw=>by rw[←w,o]at b;cases b)];exact b⟩
  ·have B:=(PU.mp d).1
   rw[Qf,Q4]at B;have:k=hs.length:=by omega
   subst this;rw[RT (PN _),VB]at d;cases d;refine⟨j,n,by rw[set,PP rfl],I,λm hm=>?_⟩;obtain⟨A,b⟩:=(xS O.sz (H m)).2.mp (P m hm);exact⟨A,by rw[qQ,set,PL (λw=>by rw[←w,o]at b;cases b)];exact b⟩
theorem Ow.nil(mask:Nat):Ow mask (Array.replicate (mask+1) Po) []:=by
 have g:∀x:Nat,(Array.replicate (mask+1) (Po:Option Nat))[x]?=if x<mask+1 then My Po else Po:=λx=>Array.getElem?_replicate;refine⟨by simp,λj k h=>?_,λj b k h=>?_,by simp,λk h a=>by simp at a⟩
 ·rw[g]at h
  split at h<;>cases h
 ·rw[g]at h
  split at h<;>cases h
theorem uB{mask:Nat}(hm:Mk mask):∀(l:List Int) (owner:Array (Option Nat)) (hs:List Int),Ow mask owner hs->hs.length+l.length<=mask+1->∃a,l.foldl (λ(acc:Option (Array (Option Nat)×Nat)) h=>do
   let (owner,k) ←acc
   let j ←layClean.free mask owner (turns mask) (bits h % (mask+1)) (bits h)
   R6 (owner.setIfInBounds j (My k),k+1)) (My (owner,hs.length))=My (a,hs.length+l.length)/\Ow mask a (hs++l)
 |[],owner,hs,O,_=>⟨owner,rfl,by rw[Qx];exact O⟩
 |h::l,owner,hs,O,hl=>by
  rw[Qd]at hl;obtain⟨j,e,d⟩:=O.step h hm (by omega);obtain⟨f,b,c⟩:=uB hm l _ (hs++[h]) d (by rw[Qf,Q4];omega);refine⟨f,?_,by rw[Ra]at c;exact c⟩;rw[List.foldl_cons];simp only[Option.bind_eq_bind,Vc,e];rw[Qf,Q4]at b;rw[Qd,show hs.length+(l.length+1)=hs.length+1+l.length by omega];exact b
theorem Mv{mask:Nat}(hm:Mk mask)(hs:Array Int)(b:hs.size<=mask+1):∃owner,layClean mask hs=My owner/\Ow mask owner hs.toList:=by
 obtain⟨o,e,O⟩:=uB hm hs.toList _ [] (Ow.nil mask) (by simpa using b);refine⟨o,?_,O⟩;unfold layClean;rw[←Array.foldl_toList];have a:=e;simp only[WQ]at a;exact(QV (Option.map (·.1)) a).trans rfl
theorem uK{α β:Type}{f:α->Option β}{g:α->β}:∀{l:List α},(∀a∈l,f a=My (g a))->l.filterMap f=l.map g
 |[],_=>rfl
 |a::l,h=>by
  rw[Rw,h a PF,P3,uK λb c=>h b (Ps a c)]
noncomputable def bR(mask:Nat)(owner:Array (Option Nat)):List (Nat×Nat):=(PR (mask+1)).filterMap λj=>(owner.getD j Po).map (j,·)
theorem DL{mask:Nat}{owner:Array (Option Nat)}(hs:owner.size=mask+1){j k:Nat}:(j,k)∈bR mask owner↔owner[j]?=My (My k):=by
 unfold bR;rw[UP];constructor
 ·rintro⟨x,c,e⟩
  have d:=Qg.mp c;have a:owner.getD x Po=owner[x]:=by simp[SA,show x<owner.size by omega]
  rw[a]at e;cases q:owner[x]with
  |none=>rw[q]at e;cases e
  |some f=>
   rw[q]at e;simp only[RG,XA,Prod.mk.injEq]at e;obtain⟨rfl,rfl⟩:=e;rw[getElem?_pos owner x (by omega),q]
 ·intro e
  have b:=(Q3.mp e).1;refine⟨j,Qg.mpr (by omega),?_⟩;have a:owner.getD j Po=owner[j]:=by simp[SA,b]
  rw[getElem?_pos owner j b]at e;rw[a,Qo e];rfl
theorem zL(mask:Nat)(owner:Array (Option Nat)):(bR mask owner).Pairwise λa b=>a.1<b.1:=by
 unfold bR;refine List.Pairwise.filterMap _ (λa e h b d f c=>?_) List.pairwise_lt_range;cases q:owner.getD a Po with
 |none=>rw[q]at d;cases d
 |some k=>
  rw[q]at d;cases q':owner.getD e Po with
  |none=>rw[q']at c;cases c
  |some g=>
   rw[q']at c;cases d;cases c;exact h
theorem y8{t:QT}{hs:Array Int}(hm:Mk (sizeAbove wanted-1))(nf:hs.size*5<(sizeAbove wanted-1)*3):
  ∃(t':QT) (c:Array Nat),t.relaid hs wanted=My (t',c)/\c.toList.Perm (PR hs.size)/\Tb t' (c.toList.map λk=>hs.getD k 0)/\t'.led=t.led/\t'.plain=t.plain:=by
 have ho:=hm.odd;obtain⟨owner,e,O⟩:=Mv hm hs (by omega);generalize P:sizeAbove wanted-1=mask at*;have d:hs.toList.length=hs.size:=by simp
 have f:=zL mask owner;have g:∀{j k:Nat},(j,k)∈bR mask owner↔owner[j]?=My (My k):=DL O.sz;have Q:t.relaid hs wanted=My ({mask,place:=((bR mask owner).map (·.1)).toArray,dummies:=#[],finger:=t.finger,led:=t.led,moves:=t.movedTo mask,plain:=t.plain},((bR mask owner).map (·.2)).toArray):=by
  unfold relaid laid;rw[P,e];rfl
 have perm:((bR mask owner).map (·.2)).Perm (PR hs.size):=by
  refine(List.perm_ext_iff_of_nodup ?_ WB).mpr λk=>?_
  ·unfold List.Nodup
   rw[U4];refine List.Pairwise.imp_of_mem (R:=λa b=>a.1<b.1) (λ{a b} ha A h z=>?_) f;obtain⟨j,k⟩:=a;obtain⟨r,v⟩:=b;have T:k=v:=z;subst T;have:=O.un j r k (g.mp ha) (g.mp A);have h':j<r:=h;omega
  ·rw[P8,Qg]
   constructor
   ·rintro⟨⟨j,v⟩,h,rfl⟩
    have:=O.lt j v (g.mp h);rwa[d]at this
   ·intro w
    obtain⟨j,n,B,_⟩:=O.ex k _ (Pw (by rw[d];exact w));exact⟨(j,k),g.mpr B,rfl⟩
 have l:(bR mask owner).length=hs.size:=by
  have:=perm.length_eq;rwa[Pp,Qp]at this
 refine⟨_,_,Q,by simpa using perm,?_,rfl,rfl⟩;have pg:∀{i:Nat} {x:Nat},(((bR mask owner).map (·.1)).toArray)[i]?=My x->∃k,(bR mask owner)[i]?=My (x,k):=λ{i x} h=>by
  rw[VH,Py]at h;cases q:(bR mask owner)[i]? with
  |none=>rw[q]at h;cases h
  |some a=>
   rw[q]at h;cases h;exact⟨a.2,rfl⟩
 have C:∀{j k:Nat},owner[j]?=My (My k)->∃i:Nat,(((bR mask owner).map (·.1)).toArray)[i]?=My j:=λ{j k} h=>by
  obtain⟨i,U,W⟩:=V0 (g.mpr h);exact⟨i,by rw[VH,Py,Pw U,W];rfl⟩
 refine⟨hm,?_,?_,?_,rfl,?_,?_⟩
 ·show(((bR mask owner).map (·.1)).toArray).size=_
  simp
 ·intro i k x y F X Y
  obtain⟨a,ha⟩:=pg X;obtain⟨b,A⟩:=pg Y;obtain⟨B,H⟩:=PU.mp ha;obtain⟨Z,e2⟩:=PU.mp A;have:=Sn.mp f i k B Z F;rw[H,e2]at this;exact this
 ·intro i j h
  obtain⟨a,ha⟩:=pg h;have:=(Q3.mp (g.mp (Qb ha))).1;have:=O.sz;show j<=mask;omega
 ·show(((bR mask owner).map (·.1)).toArray).size*5<mask*3
  have:(((bR mask owner).map (·.1)).toArray).size=hs.size:=by simp[l]
  omega
 ·intro i h j I hj
  obtain⟨k,w⟩:=pg hj;have o:=g.mp (Qb w);have eh:hs.toList[k]?=My h:=by
   rw[Py]at I;have H:((bR mask owner).map (·.2)).toArray.toList[i]?=My k:=by
    show((bR mask owner).map (·.2))[i]?=_;rw[Py,w];rfl
   rw[H]at I;have L:k<hs.size:=by have:=O.lt j k o;rwa[d]at this
   have:hs.getD k 0=h:=Qo I;rw[S3,getElem?_pos hs k L,←this];simp[SA,L]
  obtain⟨r,n,a1,a2,a3⟩:=O.ex k h eh;have:=O.un j r k o a1;subst this;have tr:∀(u:QT),u.mask=mask->∀m,itr u m (u.probeStart h)=itr (tm mask) m ((tm mask).probeStart h):=λu N m=>by
   rw[wW (u:=tm mask) N,uF (u:=tm mask) N]
  refine⟨n,by rw[tr _ rfl];exact a2,λm J=>?_⟩;rw[tr _ rfl];obtain⟨v,p⟩:=a3 m J;exact C p
theorem rb{t:QT}(a:t.probe f h p=r)(T:Tb t hs)(v:Pv t p)(b:e<10*turns t.mask)(c:¬Lv t (itr t e p).j):
  ∃m,m<=e/\(∀d<m,∃i,t.place[i]?=My (itr t d p).j/\f i≠h)/\
   ((¬Lv t (itr t m p).j/\r=My (.empty (itr t m p).j Po))\/∃i,t.place[i]?=My (itr t m p).j/\f i=h/\r=My (.candidate (itr t m p).j i (itr t (m+1) p))):=by
 subst a;exact IT T.rs T.du _ p e v b c
section
variable{prog:Qu}{w:QH}{A:QU}{E:PH->PM->Prop}{s:PM}
noncomputable abbrev IKd(prog:Qu)(w:QH):HeapKind prog w (List Int):=tupleKind (VW prog w)
noncomputable abbrev hsh(prog:Qu)(w:QH)(k:List Int):Int:=(IKd prog w).hash k
theorem Tb.fits{t:QT}{hs:List Int}(T:Tb t hs)(hn:hs.length=n):t.fits n=Pt:=by
 have:=T.nf;have:=T.sz;have:=T.km.odd;unfold WV SetTable.fill;rw[T.du];simp;omega
theorem items_int(h:ItemsAre (VW prog w) ks vs):∀v∈vs,∃n t,v=TW n t:=by
 induction h with
 |nil=>intro v hv;cases hv
 |@cons k v' ks vs h1 _ ih=>
  intro v hv;rcases PZ.mp hv with rfl|hv
  ·obtain⟨t,e⟩:=Wg h1
   exact⟨_,t,e⟩
  ·exact ih v hv
theorem yv{M:X2}{o:Qn}(b:s.heap.get? a=My o)(h:Q o.cls s):PY M A (typeOf (.ref a)) Q E s:=by
 show PY M A (loadPart a _>>=_) Q E s;exact Pn (Yk b (Pq h))
theorem um(f:(IKd prog w).is s.heap k x)(h:Q Pz s):PY (Qk prog w) A (W7 8 (.ref x)) Q E s:=by
 obtain⟨o,b,n,e,g,hd,i⟩:=f;unfold W7;refine Pn (yv e ?_);rw[g];simp only[Ww,QY];refine Pn (Pq ?_);simp only[Sd,Qh,Q1];refine Pn (RN e hd ?_);refine Pn ?_;show PY _ _ (forIn b _ _) _ _ s;rw[←TH];refine VL _ (λrest r s'=>r.1=Po/\s'=s/\∀v∈rest,∃n t,v=TW n t) _ ?_ ?_ _ _ ⟨rfl,rfl,items_int i⟩
 ·rintro v rest r s' ⟨c,rfl,a⟩
  obtain⟨n,t,rfl⟩:=a v PF;unfold W7;refine Pn (Pq ?_);simp only[Qh,Q1];exact Pq ⟨rfl,rfl,λu d=>a u (Ps _ d)⟩
 ·rintro⟨r1,j⟩ s' ⟨c,rfl,_⟩
  simp only at c;subst c;exact Pq h
theorem EQ(e:(IKd prog w).is s.heap k x)(h:Q Pt s):PY (Qk prog w) A (hashByValue 8 (.ref x)) Q E s:=by
 have f:=XG (s:=s) e;obtain⟨o,b,n,g,j,hd,i⟩:=e;unfold hashByValue;refine Pn (SC f F.slot_tuple_hash.lookup ?_);simp only;refine Pn (RN g hd ?_);refine Pn ?_;show PY _ _ (forIn b _ _) _ _ s;rw[←TH];refine VL _ (λrest r s'=>r.1=Po/\s'=s/\∀v∈rest,∃n t,v=TW n t) _ ?_ ?_ _ _ ⟨rfl,rfl,items_int i⟩
 ·rintro v rest r s' ⟨c,rfl,a⟩
  obtain⟨n,t,rfl⟩:=a v PF;unfold hashByValue;refine Pn (Pq ?_);simp only[Sd,Qh,Q1];exact Pq ⟨rfl,rfl,λu d=>a u (Ps _ d)⟩
 ·rintro⟨r1,l⟩ s' ⟨c,rfl,_⟩
  simp only at c;subst c;exact Pq h
theorem Ky(f:(IKd prog w).is s.heap k x):∀(l:List (List Int×PD)) {Q:Bool->PM->Prop},(∀y∈l,(IKd prog w).is s.heap y.1 y.2)->Q Pz s->PY (Qk prog w) A (W9 (.ref x) (l.map λy=>P7 y.2)) Q E s:=by
 intro l Q h i;unfold W9;refine Pn ?_;refine VL _ (λrest r s'=>r.1=Po/\s'=s/\∃b:List (List Int×PD),rest=b.map (λy=>P7 y.2)/\∀y∈b,(IKd prog w).is s.heap y.1 y.2) _ ?_ ?_ _ _ ⟨rfl,rfl,l,rfl,h⟩
 ·rintro v rest r s' ⟨d,rfl,b,e,a⟩
  cases b with
  |nil=>cases e
  |cons y b=>
   cases e;have g:=a y PF;have nxt:(Po:Option Bool)=Po/\s'=s'/\∃c:List (List Int×PD),b.map (λy=>P7 y.2)=c.map (λy=>P7 y.2)/\∀y∈c,(IKd prog w).is s'.heap y.1 y.2:=⟨rfl,rfl,b,rfl,λu j=>a u (Ps y j)⟩;by_cases q:x==y.2
   ·simp only[q,Bool.true_or,QY]
    exact Pq nxt
   ·simp only[q,Bool.false_or,carriedByValue,VM,Qh,Q1]
    refine Pn ((IKd prog w).quiet f ?_);simp only[Sd,Qh,Q1];refine Pn ((IKd prog w).quiet g ?_);simp only[Sd,Qh,Q1];refine Pn (um f ?_);simp only[Qh,Q1];refine Pn (um g ?_);simp only[Qh,Q1];exact Pq nxt
 ·rintro⟨r1,m⟩ s' ⟨d,rfl,_⟩
  simp only at d;subst d;exact Pq i
theorem yS{o:Qn}{es:Array (Int×PH)}{t:QT}{xs:List (List Int×PD)}(hu:A.units<Vh)(ho:s.heap.get? a=My o)(hd:o.data= .set es ep t)
  (H:es.toList=xs.map λx=>(hsh prog w x.1,P7 x.2)) (hx:∀x∈xs,(IKd prog w).is s.heap x.1 x.2) (T:Tb t (xs.map λx=>hsh prog w x.1)) (hk:(IKd prog w).is s.heap k b)
  (he:e<10*turns t.mask) (R:¬Lv t (itr t e (t.probeStart (hsh prog w k))).j) (ha:∀m<e,Lv t (itr t m (t.probeStart (hsh prog w k))).j)
  (q1:k∈xs.map (·.1)->Q (.there Po) s) (q2:k∉xs.map (·.1)->Q (.free (itr t e (t.probeStart (hsh prog w k))).j Pz) s):
  ∀(n c m:Nat) (st:Option Probe),e=m+n->n<c->st.getD (t.probeStart (hsh prog w k))=itr t m (t.probeStart (hsh prog w k))->(∀g<m,∀(i:Nat) x,t.place[i]?=My (itr t g (t.probeStart (hsh prog w k))).j->xs[i]?=My x->x.1≠k)->
   PY (Qk prog w) A (setSearchFrom a (.ref b) (hsh prog w k) Pt c st) Q E s:=by
 have hsz:es.size=xs.length:=by rw[←Qw,H,Pp]
 have U:t.fits es.size=Pt:=T.fits (by rw[Pp,hsz]);have l:∀i:Nat,es[i]?=(xs[i]?).map λx=>(hsh prog w x.1,P7 x.2):=λi=>by rw[←S3,H,Py]
 have gw:t.gaveWay=Pz:=by
  have:=T.km.odd;unfold SetTable.gaveWay;rw[XI];omega
 intro n
 induction n using WY with
 |_ n ih=>
  intro c m st em hfu hst p;cases c with
  |zero=>omega
  |succ c=>
   unfold setSearchFrom;refine Pn (RJ ho hd U ?_)
   dsimp only
   rw[hst,gw];simp only[Qh,Q1];have v:=lR m (nB t (hsh prog w k));have it:∀n',itr t n' (itr t m (t.probeStart (hsh prog w k)))=itr t (m+n') (t.probeStart (hsh prog w k)):=λn'=>(mG t m n' _).symm;have same:∀{i O j:Nat},t.place[i]?=My j->t.place[O]?=My j->i=O:=λ{i O j} u C=>by
    rcases S8 i O with q|q|q
    ·exact Ql (T.rs i O j j q u C) (QS j)
    ·exact q
    ·exact Ql (T.rs O i j j q C u) (QS j)
   split
   ·rename_i W heq
    obtain⟨g,hm',r,d⟩:=rb heq T v (e:=n) (by omega) (by rw[it,←em];exact R);rcases d with⟨X,I⟩|⟨i,P,hfi,I⟩
    ·cases I
     have Y:g=n:=by
      rcases VA g n with q|q
      ·rw[it]at X
       exact Ql (ha (m+g) (by omega)) X
      ·omega
     subst Y;refine Pq ?_;rw[it,←em];refine q2 λZ=>?_;obtain⟨x,hx1,J⟩:=P8.mp Z;obtain⟨B,hi0,ei0⟩:=V0 hx1;have h:xs[B]?=My x:=by rw[Pw hi0,ei0]
     have L:B<t.place.size:=by have:=T.sz;rw[Pp]at this;omega
     obtain⟨F,a1,a2⟩:=T.rch B (hsh prog w k) t.place[B] (by rw[Py,h,←J];rfl) (getElem?_pos t.place B L);have hlt:F<e:=by
      rcases S8 F e with q|q|q
      ·exact q
      ·subst q
       exact Ql ⟨B,by rw[a1];exact getElem?_pos t.place B L⟩ R
      ·exact Ql (a2 e q) R
     have hp0:t.place[B]?=My (itr t F (t.probeStart (hsh prog w k))).j:=by rw[a1];exact getElem?_pos t.place B L
     by_cases q:F<m
     ·exact p F q B x hp0 h J
     ·obtain⟨i,u,C⟩:=r (F-m) (by omega)
      rw[it,show m+(F-m)=F by omega]at u;have:=same u hp0;subst this;refine C ?_;show(es[i]?.map (·.1)).getD 0=_;rw[l,h,←J];rfl
    ·cases I
     have N:i<xs.length:=by
      have u:=(Q3.mp P).1;have:=T.sz;rw[Pp]at this;omega
     have h:xs[i]?=My xs[i]:=Pw N;have hei:es[i]?=My (hsh prog w xs[i].1,P7 xs[i].2):=by rw[l,h];rfl
     have hxk:=hx xs[i] (QL N);rw[it]at P;simp only;have el:(Rb (λx=>x.snd) (Array.filter (λx=>x.fst==hsh prog w k) es).toList)=(xs.filter λy=>hsh prog w y.1==hsh prog w k).map λy=>P7 y.2:=by
      rw[Array.toList_filter,H,List.filter_map,PV];rfl
     rw[el];have seen:∀{Q':Bool->PM->Prop},Q' Pz s->PY (Qk prog w) A (W9 (.ref b) ((xs.filter λy=>hsh prog w y.1==hsh prog w k).map λy=>P7 y.2)) Q' E s:=λhq=>Ky hk _ (λy hy=>hx y (R9.mp hy).1) hq;have sm:t.sameMemory t.moves t.mask=My Pt:=by unfold sameMemory;simp
     have sl:t.slot (itr t (m+g) (t.probeStart (hsh prog w k))).j= .live i:=qT T.rs P;cases hled:t.led
     all_goals simp only[Xc,Sd,Qh,QY,Q1,it,hei]
     all_goals try refine Pn (seen ?_)
     all_goals try simp only[Qh,Q1]
     all_goals
      refine Pn (Rh ((IKd prog w).eqBool hu hxk hk (Pn (RJ ho hd U ?_))));simp only[U7];by_cases q:xs[i].1=k
      ·rw[PP (P9 q)]
       exact Pq (q1 (P8.mpr ⟨xs[i],QL N,q⟩))
      ·rw[PL (by simpa using q)]
       simp only[sm,QY,sl,hei];refine Pn ?_;unfold isSame;simp only[Ww,QY];refine Pq (Pn (Pq ?_));simp only[QY];rw[PL (by simpa using q)];have Y:g<n:=by
        rcases VA g n with z|z
        ·exact z
        ·obtain rfl:g=n:=by omega
         rw[←em]at P;exact Ql ⟨i,P⟩ R
       refine ih (n-(g+1)) (by omega) c (m+g+1) _ (by omega) (by omega) rfl λm2 hm2 i2 x2 u C z=>?_;by_cases q1:m2<m
       ·exact p m2 q1 i2 x2 u C z
       ·by_cases q2:m2=m+g
        ·subst q2
         have:=same P u;subst this;rw[h]at C;cases C;exact q z
        ·obtain⟨i3,h3,h4⟩:=r (m2-m) (by omega)
         rw[it,show m+(m2-m)=m2 by omega]at h3;have:=same h3 u;subst this;refine h4 ?_;show(es[i3]?.map (·.1)).getD 0=_;rw[l,C,←z];rfl
   ·rename_i hno
    have key:∀f:Nat->Int,(∀W,t.probe f (hsh prog w k) (itr t m (t.probeStart (hsh prog w k)))=My W->False)->False:=λf U=>by
     obtain⟨g,hm',r,d⟩:=rb (f:=f) rfl T v (e:=n) (by omega) (by rw[it,←em];exact R);rcases d with⟨_,I⟩|⟨i,_,_,I⟩
     ·exact U _ I
     ·exact U _ I
    exact(key _ hno).elim
end
theorem OM{P:Nat->Prop}:∀n,P n->∃m,m<=n/\P m/\∀k<m,¬P k:=by
 intro n
 induction n using WY with
 |_ n ih=>
  intro h;by_cases q:∃k,k<n/\P k
  ·obtain⟨k,a,b⟩:=q
   obtain⟨m,d,c⟩:=ih k a b;exact⟨m,by omega,c⟩
  ·exact⟨n,PN n,h,λk a b=>q ⟨k,a,b⟩⟩
section
variable{prog:Qu}{w:QH}{A:QU}{E:PH->PM->Prop}{s:PM}
def qF(prog:Qu)(w:QH)(h:Q0)(a:PD)(xs:List (List Int×PD)):Prop:=
 ∃o es ep t,h.get? a=My o/\o.ExactSet/\o.data= .set es ep t/\(es.toList=xs.map λx=>(hsh prog w x.1,P7 x.2))/\(xs.map (·.1)).Nodup/\(∀x∈xs,(IKd prog w).is h x.1 x.2)/\(Tb t (xs.map λx=>hsh prog w x.1))/\t.plain=Pt/\t.led=!(w.params.followText "set-order")
theorem n9{h h':Q0}{o:Qn}{es ep t}(x:(IKd prog w).is h k b)(i:h.get? a=My o)(hd:o.data= .set es ep t)(hs:Qr a h h'):(IKd prog w).is h' k b:=by
 obtain⟨g,c,n,e,j,d,l⟩:=x;have f:b≠a:=by
  rintro rfl;obtain rfl:g=o:=Qo (e.symm.trans i);rw[hd]at d;exact nomatch d
 exact⟨g,c,n,(hs.2 b f).trans e,j,d,l⟩
theorem qP{h:Q0}{o:Qn}(c:h.get? a=My o)(hd:o.data= .set es ep t)(b:Array (Int×PH))(t':QT):(h.update a (VC b t')).get? a=My {o with data:= .set b (ep+1) t'}:=by
 have:=RU (VC b t') c (by rw[putSet_of b t' hd];rfl);rw[putSet_of b t' hd]at this;exact this
theorem LT{t:QT}(T:Tb t hs)(j:Nat):(t.put j).1.dummies=#[]/\(t.put j).1.place.size=t.place.size+1/\(t.put j).2<=t.place.size:=by
 obtain⟨b1,b2,b3⟩:=jc (j:=j) T.rs;have hd:has t.dummies j=Pz:=by unfold has;rw[T.du];rfl
 refine⟨?_,f9 b1,b1⟩;show(if has t.dummies j=Pt then _ else t.dummies)=#[];rw[hd,PL PQ,T.du]
theorem KP{α β:Type}{xs:List α}{ys:Array β}{f:α->β}(e:ys.toList=xs.map f){p:Nat}(c:p<=ys.size)(x:α):(insertAt ys p (f x)).toList=(xs.take p++x::xs.drop p).map f:=by
 unfold insertAt;simp only[Array.toList_append,YO,Array.toList_extract];have a:(ys.toList.extract 0 p)=ys.toList.take p:=by simp[List.extract]
 have b:(ys.toList.extract p ys.size)=ys.toList.drop p:=by
  simp only[List.extract];rw[Sb (by simp)]
 rw[a,b,e,Qy,P3,V5,Ul,Ra];rfl
theorem N4{xs:List (List Int×PD)}(hu:A.units<Vh)(S:qF prog w s.heap a xs)(hk:(IKd prog w).is s.heap k b)(hn:xs.length<63)
  (h:∀h' q,Qr a s.heap h'->qF prog w h' a q->(k∈xs.map (·.1)->q=xs)->(k∉xs.map (·.1)->q.Perm ((k,b)::xs))->Q (decide (k∉xs.map (·.1))) {s with heap:=h'}):
  PY (Qk prog w) A (setAddHashed a (.ref b) (hsh prog w k)) Q E s:=by
 have S0:=S;obtain⟨o,es,ep,t,U,X,hd,W,hnd,hx,T,hp,J⟩:=S;have F:es.size=xs.length:=by rw[←Qw,W,Pp]
 have hf:t.fits es.size=Pt:=T.fits (by rw[Pp,F]);have Y:t.place.size=xs.length:=by rw[T.sz,Pp]
 obtain⟨e0,he0,hl0⟩:=T.free (nB t (hsh prog w k));obtain⟨e,hee,hl,Z⟩:=OM (P:=λe=>¬Lv t (itr t e (t.probeStart (hsh prog w k))).j) e0 hl0;have ha:∀m<e,Lv t (itr t m (t.probeStart (hsh prog w k))).j:=λm hm=>Classical.not_not.mp (Z m hm);have hmk:=T.km.odd;unfold setAddHashed setAddHashedIn;refine Rh (Pn (RJ U hd hf ?_));have hb:byScan (P7 b) es=Pz:=rfl;simp only[hb,Qh,Q1];refine Pn ?_;unfold setSearch;refine yS (e:=e) hu U hd W hx T hk (by omega) hl ha (λhm=>?_) (λhm=>?_) e 100000 0 Po (by omega) (by unfold turns at he0;omega) rfl (λm' hm'=>Ql hm' (Sa _))
 ·refine Pq ?_
  have:=h s.heap xs (Qr.refl a s.heap) S0 (λ_=>rfl) (λz=>Ql hm z);rw[QD (λz=>z hm)]at this;exact this
 ·have hQ:∀h' q,Qr a s.heap h'->qF prog w h' a q->q.Perm ((k,b)::xs)->Q Pt {s with heap:=h'}:=λh' q h1 h2 h3=>by
   have:=h h' q h1 h2 (λz=>Ql z hm) (λ_=>h3);rwa[P9 hm]at this
  simp only;refine Pn (RJ U hd hf ?_);generalize hj:(itr t e (t.probeStart (hsh prog w k))).j=j at hl;obtain⟨pd,ps,pl⟩:=LT T j;generalize y:t.put j=tp at pd ps pl;obtain⟨u,p⟩:=tp;simp only at pd ps pl⊢;have l:u.plain=Pt:=by
   have:(t.put j).1.plain=t.plain:=rfl;rw[y]at this;rw[this,hp]
  have L:u.led=t.led:=by
   have:(t.put j).1.led=t.led:=rfl;rw[y]at this;exact this
  have v:u.mask=t.mask:=by
   have:(t.put j).1.mask=t.mask:=rfl;rw[y]at this;exact this
  rw[l];simp only[QY];refine Pn (EQ hk ?_);simp only[QY];have N:=KP (f:=λx:List Int×PD=>(hsh prog w x.1,P7 x.2)) W (p:=p) (by omega) (k,b);have B:(insertAt es p (hsh prog w k,P7 b)).size=es.size+1:=f9 (by omega);have d:(xs.take p++(k,b)::xs.drop p).Perm ((k,b)::xs):=by
   have:=List.perm_middle (a:=(k,b)) (l₁:=xs.take p) (l₂:=xs.drop p);rwa[Sj]at this
  have nd1:((xs.take p++(k,b)::xs.drop p).map (·.1)).Nodup:=by
   refine(d.map (·.1)).nodup_iff.mpr ?_;rw[P3,QC];exact⟨hm,hnd⟩
  refine Pn (wpAny_storeSet_of U hd ?_ (by rw[B,RZ];omega));have H:=Rq s.heap a (VC (insertAt es p (hsh prog w k,P7 b)) u);have g1:=qP U hd (insertAt es p (hsh prog w k,P7 b)) u;have hx1:∀x∈xs.take p++(k,b)::xs.drop p,(IKd prog w).is (s.heap.update a (VC (insertAt es p (hsh prog w k,P7 b)) u)) x.1 x.2:=λx hx'=>by
   rcases PZ.mp (d.mem_iff.mp hx')with rfl|hx'
   ·exact n9 hk U hd H
   ·exact n9 (hx x hx') U hd H
  by_cases r:u.tooFull=Pt
  ·simp only[r,Xc,Uj,QY]
   have fu:u.fill*5≥u.mask*3:=by unfold tooFull at r;exact R7 r
   have fe:u.fill=xs.length+1:=by unfold fill;rw[pd,ps,Y];rfl
   have nf0:=T.nf;have f1:u.fits (insertAt es p (hsh prog w k,P7 b)).size=Pt:=by
    unfold WV;rw[B,fe,ps,Y,F,v];simp;omega
   have wm:Mk (sizeAbove (grown (es.size+1))-1)/\(es.size+1)*5<(sizeAbove (grown (es.size+1))-1)*3/\sizeAbove (grown (es.size+1))<=128:=by
    rw[fe,v]at fu;rw[F];rcases T.km with z|z|z
    ·have:xs.length=4:=by omega
     rw[this];exact⟨.inr (.inl (by decide)),by decide,by decide⟩
    ·have:xs.length=18:=by omega
     rw[this];exact⟨.inr (.inr (by decide)),by decide,by decide⟩
    ·omega
   have C:(Array.map (λx=>x.fst) (insertAt es p (hsh prog w k,P7 b))).size=es.size+1:=by rw[Array.size_map,B]
   obtain⟨t2,c,er,op,T2,led2,I⟩:=y8 (t:=u) (hs:=(insertAt es p (hsh prog w k,P7 b)).map (·.1)) (wanted:=grown (es.size+1)) wm.1 (by rw[C];exact wm.2.1);refine Pn ?_;unfold setRelay;refine Pn (RJ g1 rfl f1 ?_);simp only;rw[PL (by rw[RZ];omega)];rw[er];generalize hE1:insertAt es p (hsh prog w k,P7 b)=es1 at*;generalize hX1:xs.take p++(k,b)::xs.drop p=xs1 at*;have l1:xs1.length=es.size+1:=by rw[d.length_eq,Qd,F]
   have O:∀i,i<xs1.length->es1[i]?=My (hsh prog w (xs1.getD i (k,b)).1,P7 (xs1.getD i (k,b)).2):=λi R=>by
    rw[←S3,N,Py,Pw R,Px,Pw R];rfl
   have om:∀i∈c.toList,i<xs1.length:=λi R=>by
    have:=Qg.mp (op.mem_iff.mp R);rw[C]at this;omega
   have efl:(c.filterMap λx=>es1[x]?).toList=(c.toList.map λi=>xs1.getD i (k,b)).map λx=>(hsh prog w x.1,P7 x.2):=by
    rw[Array.toList_filterMap,uK (g:=λi=>(hsh prog w (xs1.getD i (k,b)).1,P7 (xs1.getD i (k,b)).2)) λi R=>O i (om i R),PV];rfl
   have n:(c.toList.map λi=>xs1.getD i (k,b)).Perm xs1:=by
    refine(op.map _).trans (Wd ?_);rw[C,←l1];refine Rv (by simp) λi h1 h2=>?_;rw[SH,SQ,Px,Pw h2];rfl
   have fsz:(c.filterMap λx=>es1[x]?).size=es1.size:=by
    rw[←Qw,efl,Pp,n.length_eq,l1,B]
   refine Pn ?_;show PY _ _ (if((c.filterMap λx=>es1[x]?).size !=es1.size)=Pt then _ else _) _ _ _;rw[PL (by rw[fsz];simp)];refine Pq ?_;refine wpAny_storeSet_of g1 rfl ?_ (by rw[fsz,B,RZ];omega);have sb2:=Rq (s.heap.update a (VC es1 u)) a (VC (c.filterMap λx=>es1[x]?) t2);have g2:=qP g1 rfl (c.filterMap λx=>es1[x]?) t2;refine Pq (hQ _ (c.toList.map λi=>xs1.getD i (k,b)) (H.trans sb2) ⟨_,_,_,t2,g2,X,rfl,efl,?_,λx hx'=>?_,?_,by rw[I,l],by rw[led2,L,J]⟩ (n.trans d))
   ·exact(n.map (·.1)).nodup_iff.mpr nd1
   ·exact n9 (hx1 x (n.mem_iff.mp hx')) g1 rfl sb2
   ·have eh:(c.toList.map λi=>xs1.getD i (k,b)).map (λx=>hsh prog w x.1)=c.toList.map λi=>(es1.map (·.1)).getD i 0:=by
     rw[PV];refine Qs λi R=>?_;have h1:=O i (om i R);have h2:(es1.map (·.1))[i]?=My (hsh prog w (xs1.getD i (k,b)).1):=by rw[Array.getElem?_map,h1];rfl
     have h3:=(Q3.mp h2);obtain⟨h4,h5⟩:=h3;simp only[UO];rw[←h5];simp[SA,h4];omega
    rw[eh];exact T2
  ·simp only[r,Xc,Bool.and_false,Q1,U7,Qh]
   refine Pq (hQ _ (xs.take p++(k,b)::xs.drop p) H ⟨_,_,_,u,g1,X,rfl,N,nd1,hx1,?_,l,by rw[L,J]⟩ d);have nf:(t.place.size+1)*5<t.mask*3:=by
    have:¬(u.fill*5≥u.mask*3):=by
     intro z;exact r (by unfold tooFull;exact P9 z)
    unfold fill at this;rw[pd,ps,v]at this;simp at this;omega
   have:=(T.put (h:=hsh prog w k) hl hj (by exact ha) nf).2.2.2.2;rw[y]at this;rw[Qy,P3,V5,Ul];exact this
end
namespace F2
theorem si_next:Slot "set_iterator" "__next__" "set_iterator.__next__":= .of (owner:="set_iterator") (n:="__next__") (by rw[XN,V7];kernel_rfl) (by decide +kernel) (by decide +kernel) (by decide +kernel)
  (by first|exact .inl (by decide +kernel)|exact .inr (by decide +kernel)) (by rw[Vk];kernel_rfl)
theorem si_iter:Slot "set_iterator" "__iter__" "set_iterator.__iter__":= .of (owner:="set_iterator") (n:="__iter__") (by rw[XN,V7];kernel_rfl) (by decide +kernel) (by decide +kernel) (by decide +kernel)
  (by first|exact .inl (by decide +kernel)|exact .inr (by decide +kernel)) (by rw[Vk];kernel_rfl)
theorem ent_next:entryFor table "set_iterator.__next__"=My Builtin.«set_iterator.__next__»:=entryFor_of_tree (by kernel_rfl)
theorem ent_iter:entryFor table "set_iterator.__iter__"=My Builtin.«dict_keyiterator.__iter__»:=Yd (id':="dict_keyiterator.__iter__") (by kernel_rfl) rfl (by decide +kernel) (by kernel_rfl)
theorem ent_set_iter:entryFor table "set.__iter__"=My Builtin.«frozenset.__iter__»:=Yd (id':="frozenset.__iter__") (by kernel_rfl) rfl (by decide +kernel) (by kernel_rfl)
theorem args_next(a:PH):argsOk "set_iterator.__next__" ⟨[a],[]⟩:=by unfold argsOk;kernel_rfl
theorem args_iter(a:PH):argsOk "set_iterator.__iter__" ⟨[a],[]⟩:=by unfold argsOk;kernel_rfl
end F2
theorem pI{α:Type}:∀{l:List α} {i:Nat} (h:i<l.length),(l[i]::l.eraseIdx i).Perm l
 |[],i,h=>Ql h (Sa i)
 |a::l,0,h=> .refl _
 |a::l,i+1,h=>by
  show(l[i]'(by simpa using h)::a::l.eraseIdx i).Perm (a::l);exact(List.Perm.swap _ _ _).trans ((pI (by simpa using h)).cons a)
theorem vX{α:Type}(next:Nat->Nat):∀(fuel k:Nat) (left:List α) (a:Array α),left.length<=fuel->(W8 next fuel k left a).toList.Perm (a.toList++left)
 |0,k,left,a,h=>by
  have:left=[]:=Vo.mp (by omega);subst this;unfold W8;rw[Qx]
 |fuel+1,k,left,a,h=>by
  unfold W8;cases left with
  |nil=>simp
  |cons c d=>
   have b:next k % (c::d).length<(c::d).length:=We _ (by simp)
   rw[Pw b];simp only;refine(vX next fuel (k+1) _ _ (by rw[List.length_eraseIdx_of_lt b];omega)).trans ?_
   rw[YO,Ra];exact List.Perm.append_left _ (pI b)
theorem zf{α:Type}(next:Nat->Nat)(xs:Array α):(Xu next xs).toList.Perm xs.toList:=by
 unfold Xu;refine(vX next xs.size 0 xs.toList #[] (by simp)).trans ?_
 simp
section
variable{prog:Qu}{w:QH}{A:QU}{E:PH->PM->Prop}{s:PM}
noncomputable def dC(w:QH)(a:PD)(ep:Nat)(es:Array (Int×PH)):Array (Int×PH):=if w.params.followText "set-order"=Pt then Xu (w.params.setOrder a ep) es else es
theorem kB(w:QH)(a:PD)(ep:Nat)(es:Array (Int×PH)):(dC w a ep es).toList.Perm es.toList:=by
 unfold dC;split
 ·exact zf _ _
 ·exact .refl _
structure SIt (w:QH) (h:Q0) (I a:PD) (es:Array (Int×PH)) (ep:Nat) (t:QT) (i:Nat):Prop where
 st:∃o,h.get? a=My o/\o.data= .set es ep t
 it:∃(o:Qn) (sl:Nat),h.get? I=My o/\o.cls= .type "set_iterator"/\o.data= .fields #[.int sl 0,.int i 0,.ref a,.int es.size 0,.int ep 0]/\(w.params.followText "set-order"=Pz->below t.place sl=i)
theorem l4{M:X2}(h:Q (M.w.params.followText "set-order") s):PY M A setsByText Q E s:=by
 unfold setsByText;exact Pn (UF (Pq h))
theorem zu{es:Array (Int×PH)}{t:QT}{e:Int×PH}(T:Tb t hs)(h:t.fits es.size=Pt)(H:t.plain=Pt)(J:t.led=!(w.params.followText "set-order"))(x:SIt w s.heap I a es ep t i)(k:I≠a)(l:(dC w a ep es)[i]?=My e)
  (L:∀h',SIt w h' I a es ep t (i+1)->Qr I s.heap h'->Q (My e.2) {s with heap:=h'}):PY (Qk prog w) A (Uq (.ref I)) Q E s:=by
 obtain⟨⟨N,b,c⟩,o,R,n,u,hd,p⟩:=id x;have y:s.TypeIs (.ref I) "set_iterator":=⟨o,n,u⟩;unfold Uq;refine Pn (UJ (wpAny_callSpecial?_slot (name:=Qv "__next__") y F2.si_next (QO F2.si_next y F2.ent_next ?_ (F2.args_next _))));unfold Builtin.«set_iterator.__next__»;refine Pn (Pq ?_);refine Pn (Wj n hd ?_);simp only;refine Pn (Wx b c h ?_);simp only[S4,Qh,Q1];refine Pn ?_;simp only[Rp]
 have d:∀nx:Nat,(w.params.followText "set-order"=Pz->below t.place nx=i+1)->PY (Qk prog w) A.in1 (do
    Yi (P7 I) 0 (Ur nx)
    Yi (P7 I) 1 (Ur (i+1))
    ret e.2) (λd s'=>∃v,d=Fin.done (Flow.ret v)/\PY (Qk prog w) A (R6 (My v)) Q E s') (λe s'=>PY (Qk prog w) A (do
     if(←Vj e (TM "StopIteration"))=Pt then R6 Po else throw e) Q E s') s:=λnx r=>by
  refine Pn (TD n hd (by simp) ?_);have B:(s.heap.update I (Obj.mapFields (·.setIfInBounds 0 (Ur nx)))).get? I=My _:=RU _ n (VI (R0 hd _));refine Pn (TD B (R0 hd _) (by simp) ?_);refine Pq ⟨_,rfl,Pq (L _ ⟨⟨N,?_,c⟩,⟨_,nx,RU _ B (VI (R0 (R0 hd _) _)),?_,?_,r⟩⟩ ((Rq ..).trans (Rq ..)))⟩
  ·rw[SD _ _ _ _ (Ne.symm k),SD _ _ _ _ (Ne.symm k)];exact b
  ·rw[Wv,Wv];exact u
  ·rw[R0 (R0 hd _)];simp[Ur]
 unfold setNext;refine Pn (RJ b c h (Pn (l4 ?_)));have C:(Qk prog w).w=w:=rfl;rw[C];cases q:w.params.followText "set-order"
 ·have f:dC w a ep es=es:=by unfold dC;rw[q];rfl
  rw[f]at l;have O:=p q;have U:=(Q3.mp l).1;simp only[Qh,Q1];have P:t.place.size=es.size:=by
   unfold WV at h;simp only[Qq,SL,QI]at h;exact h.1
  rw[PL (λz=>by
   have F:(!t.plain&&decide (es.size>1))=Pt:=z;rw[H]at F;cases F)]
  refine Pn ?_;show PY _ _ (if(!t.led&&!es.isEmpty)=Pt then _ else _) _ _ _;rw[PL (by rw[J,q];exact PQ)];refine Pq (Pq ?_);have g:t.place[i]?=My t.place[i]:=getElem?_pos t.place i (by omega);rw[O,l,g];simp only;refine d _ λ_=>?_;obtain⟨b1,b2,b3⟩:=jc (j:=t.place[i]+1) T.rs;rcases S8 (below t.place (t.place[i]+1)) (i+1)with z|z|z
  ·have:=b3 i _ (by omega) g
   omega
  ·exact z
  ·have m:t.place[i+1]?=My t.place[i+1]:=getElem?_pos t.place (i+1) (by omega)
   have W:=b2 (i+1) _ z m;have X:=T.rs i (i+1) _ _ (by omega) g m;omega
 ·have f:dC w a ep es=Xu (w.params.setOrder a ep) es:=by unfold dC;rw[q];rfl
  rw[f]at l;simp only[QY,S4,Qh,Q1];refine Pn ?_;unfold setWalk;refine Pn (RJ b c h (Pn (l4 ?_)));rw[C,q];simp only[QY];refine Pn (UF (Pq ?_));refine Pq ?_;rw[show((Qk prog w).w.params.setOrder a ep)=w.params.setOrder a ep from rfl,l];simp only[RG];exact d _ λz=>by rw[q]at z;cases z
theorem DC{es:Array (Int×PH)}{t:QT}(r:A.handled=Po)(T:Tb t hs)(g:t.fits es.size=Pt)(u:t.plain=Pt)(y:t.led=!(w.params.followText "set-order"))(x:SIt w s.heap I a es ep t es.size)
  (B:∀h',WF I s.heap h'->Q Po {s with heap:=h'}):PY (Qk prog w) A (Uq (.ref I)) Q E s:=by
 obtain⟨⟨F,d,f⟩,o,H,h,C,hd,i⟩:=id x;have l:s.TypeIs (.ref I) "set_iterator":=⟨o,h,C⟩;unfold Uq;refine Pn (UJ (wpAny_callSpecial?_slot (name:=Qv "__next__") l F2.si_next (QO F2.si_next l F2.ent_next ?_ (F2.args_next _))));unfold Builtin.«set_iterator.__next__»;refine Pn (Pq ?_);refine Pn (Wj h hd ?_);simp only;refine Pn (Wx d f g ?_);simp only[S4,Qh,Q1];refine Pn ?_;simp only[Rp]
 have c:PY (Qk prog w) A.in1 (do
    Yi (P7 I) 2 QZ
    let e ←Zj (TM "StopIteration") []
    (raiseNew e:Sem Fin)) (λc s'=>∃v,c=Fin.done (Flow.ret v)/\PY (Qk prog w) A (R6 (My v)) Q E s') (λe s'=>PY (Qk prog w) A (do
     if(←Vj e (TM "StopIteration"))=Pt then R6 Po else throw e) Q E s') s:=by
  refine Pn (TD h hd (by simp) ?_);refine Pn ?_;simp only[Zj,newTuple];refine Pn (Re ?_ (by size_fits));refine Pn (m:=Uo _ _) (Tz (a:=QZ) (by first|rfl|(simp only[Uo];rfl)) ?_)
  refine Re ?_ (by size_fits);simp only[raiseNew];refine Pn (YN ?_);rw[show A.in1.handled=Po from r];refine Pn (Pq (wpAny_throw ?_));refine Pn (Sm (T:="StopIteration") (b:=Pt) ⟨_,P4 _ rfl,rfl⟩ Yg ?_);exact Pq (B _ (((Rq ..).extBut.push _).push _))
 unfold setNext;refine Pn (RJ d f g (Pn (l4 ?_)));have n:(Qk prog w).w=w:=rfl;rw[n];have j:(dC w a ep es).size=es.size:=by rw[←Qw,(kB w a ep es).length_eq,Qw]
 cases q:w.params.followText "set-order"
 ·simp only[Qh,Q1]
  rw[PL (λz=>by
   have p:(!t.plain&&decide (es.size>1))=Pt:=z;rw[u]at p;cases p)]
  refine Pn ?_;show PY _ _ (if(!t.led&&!es.isEmpty)=Pt then _ else _) _ _ _;rw[PL (by rw[y,q];exact PQ)];refine Pq (Pq ?_);rw[i q,SN (PN _)];exact c
 ·have k:dC w a ep es=Xu (w.params.setOrder a ep) es:=by unfold dC;rw[q];rfl
  simp only[QY,S4,Qh,Q1];refine Pn ?_;unfold setWalk;refine Pn (RJ d f g (Pn (l4 ?_)));rw[n,q];simp only[QY];refine Pn (UF (Pq ?_));refine Pq ?_;rw[show((Qk prog w).w.params.setOrder a ep)=w.params.setOrder a ep from rfl,←k,SN (by rw[j];exact PN _)];exact c
theorem SIt.at{h h':Q0}(x:SIt w h I a es ep t i)(k:∀b,b=I\/b=a->∀o,h.get? b=My o->h'.get? b=My o):SIt w h' I a es ep t i:=by
 obtain⟨⟨e,c,d⟩,o,f,g,r⟩:=x;exact⟨⟨e,k a (.inr rfl) e c,d⟩,o,f,k I (.inl rfl) o g,r⟩
theorem BM(q:A.handled=Po){es:Array (Int×PH)}{t:QT}(T:Tb t hs)(l:t.fits es.size=Pt)(m:t.plain=Pt)(n:t.led=!(w.params.followText "set-order"))(f:I≠a):
  Walks prog w A I [I,a] [I] es.size (λi v=>∃e,(dC w a ep es)[i]?=My e/\v=e.2) (λi h=>SIt w h I a es ep t i) where
 sub:=λb c=>by simp at c;simp[c]
 frame:=λ_ _ _ st r=>st.at λb c o e=>r b (by simpa using c) o e
 item:=λi s Q E L st d=>by
  have u:(dC w a ep es).size=es.size:=by rw[←Qw,(kB w a ep es).length_eq,Qw]
  have p:(dC w a ep es)[i]?=My (dC w a ep es)[i]:=getElem?_pos _ i (by omega);exact zu T l m n st f p λh' g y=>d _ h' s.toks ⟨_,p,rfl⟩ g λb o c e=>y.extBut b o (λh=>c (by simp[h])) e
 done:=λs Q E st d=>DC q T l m n st λh' j=>d h' s.toks λb o c e=>j b o (λh=>c (by simp[h])) e
 self:=λi s Q E st d=>by
  obtain⟨⟨N,B,C⟩,o,O,F,H,hd,J⟩:=st;have k:s.TypeIs (.ref I) "set_iterator":=⟨o,F,H⟩;refine Vw k F2.si_iter (QO F2.si_iter k F2.ent_iter ?_ (F2.args_iter _));show PY _ _ (ret (.ref I)) _ _ s;exact Pq ⟨_,rfl,"set_iterator",_,k,F2.si_next.lookup,d⟩
end
end L2.Hs
namespace L2.Hs
open PySem PySem.SetTable PyProof.Rows
section
variable{prog:Qu}{w:QH}{A:QU}{E:PH->PM->Prop}{s:PM}
theorem DR{o:Qn}{es:Array (Int×PH)}{t:QT}(b:s.heap.get? a=My o)(f:o.cls= .type "set")(hd:o.data= .set es ep t)(c:t.fits es.size=Pt)(g:t.plain=Pt)
  (h:Q (.ref s.heap.objs.size) {s with heap:=s.heap.push {cls:= .type "set_iterator",data:= .fields #[.int (0:Nat) 0,.int (0:Nat) 0,.ref a,.int es.size 0,.int ep 0]}}):PY (Qk prog w) A (Wh (.ref a)) Q E s:=by
 have d:s.TypeIs (.ref a) "set":=⟨o,b,f⟩;refine Vw d F.slot_set_iter (QO F.slot_set_iter d F2.ent_set_iter ?_ (F.args_set_iter_1 _));unfold Builtin.«frozenset.__iter__»;refine Pn (Tz (a:=a) rfl ?_);refine Pn (Pn (Wx b hd c (Pq ?_)));refine Pn ?_;unfold setDrawn;refine Pn (RJ b hd c (Pn (l4 (Pq ?_))));rw[PL (λz=>by
  have e:(!((Qk prog w).w.params.followText "set-order")&&(!t.plain&&decide (es.size>1)))=Pt:=z;rw[g]at e;simp at e)]
 refine Pn (Pq ?_);refine Pn (wpAny_setEpoch_of b hd c ?_);unfold newFields;refine Pn (Re (Pq ⟨_,rfl,"set_iterator",_,⟨_,P4 _ rfl,rfl⟩,F2.si_next.lookup,?_⟩));exact h
theorem vm{o:Qn}{es:Array (Int×PH)}{t:QT}(hh:A.handled=Po)(R:s.heap.get? a=My o)(B:o.cls= .type "set")(hd:o.data= .set es ep t)(T:Tb t hs)(U:t.fits es.size=Pt)(X:t.plain=Pt)(hl:t.led=!(w.params.followText "set-order"))
  (hsz:es.size<=1000)
  (hQ:∀h' Y vs,(∀b o,s.heap.get? b=My o->h'.get? b=My o)->s.heap.objs.size<=h'.objs.size->s.toks<=Y->vs.Perm (es.toList.map (·.2))->Q vs {s with heap:=h',toks:=Y}):PY (Qk prog w) A (collect (.ref a)) Q E s:=by
 unfold collect;refine Pn (wpAny_runValue (XJ F.entry_proto_collect ?_));rw[XR F.plain_proto_collect _];show PY _ A.in1 (newList []>>=λl=>XD (.builtin "list.__iadd__" ⟨[l,.ref a],[]⟩)) _ _ s;refine Pn (Re ?_);refine Pq ⟨plainId_quiet F.plain_list_iadd _,XJ F.entry_list_iadd ?_⟩;rw[XR F.plain_list_iadd _];have ha:=Qj R;have g:(s.heap.push {cls:= .type "list",data:= .seq ([]:List PH).toArray}).get? a=My o:=Pr _ R;have C:(s.heap.push {cls:= .type "list",data:= .seq ([]:List PH).toArray}).get? s.heap.objs.size=My {cls:= .type "list",data:= .seq ([]:List PH).toArray}:=P4 _ rfl;have r:s.heap.objs.size≠a:=Se ha;have y:Wp (.ref s.heap.objs.size) (.ref a)=Pz:=by simp[Wp,r]
 have H:(⟨s.heap.push {cls:= .type "list",data:= .seq ([]:List PH).toArray},s.gens,s.drawn,s.toks,s.os⟩:PM).TypeIs (.ref a) "set":=⟨o,g,B⟩;show PY _ A.in1 (V3 (.ref s.heap.objs.size) (.ref a) (.ref s.heap.objs.size)) _ _ _;unfold V3;refine Pn (wpAny_typeOf H ?_);rw[PL (by rw[y];decide)];refine Pn (DR g B hd U X ?_);refine Pn (Rh ?_);unfold Builtin.List.listLengthHint;have n:(⟨(s.heap.push {cls:= .type "list",data:= .seq ([]:List PH).toArray}).push {cls:= .type "set_iterator",data:= .fields #[.int (0:Nat) 0,.int (0:Nat) 0,.ref a,.int es.size 0,.int ep 0]},s.gens,s.drawn,s.toks,s.os⟩:PM).TypeIs (.ref a) "set":=⟨o,Pr _ g,B⟩;refine Pn (SC n F.slot_set_len.lookup ?_)
 (generalize u:("set.__len__":String)=id0;wp_delta;rw[show splitId id0=My ("set","__len__")from by subst u;decide +kernel];subst u)
 refine Pn (Sm (b:=Pt) n (by rw[Vk];kernel_rfl) ?_);rw[PL (by decide)];show PY _ _ (if _ then _ else _) _ _ _;rw[PP (by decide)];refine Pn (wpAny_typeOf n ?_);refine Pq ?_;rw[PP (by decide)];refine Pn (TC ?_);have Z:(s.heap.push {cls:= .type "list",data:= .seq ([]:List PH).toArray}).objs.size=s.heap.objs.size+1:=by rw[size_push']
 generalize h:(s.heap.push {cls:= .type "list",data:= .seq ([]:List PH).toArray}).push {cls:= .type "set_iterator",data:= .fields #[.int (0:Nat) 0,.int (0:Nat) 0,.ref a,.int es.size 0,.int ep 0]}=d;have gS:d.get? s.heap.objs.size=My (Te "list" #[] 0):=by rw[←h];exact Pr _ C
 have gI:d.get? (s.heap.objs.size+1)=My {cls:= .type "set_iterator",data:= .fields #[.int (0:Nat) 0,.int (0:Nat) 0,.ref a,.int es.size 0,.int ep 0]}:=by rw[←h,←Z];exact P4 _ rfl
 have ga:d.get? a=My o:=by rw[←h];exact Pr _ g
 have p:∀b f,s.heap.get? b=My f->d.get? b=My f:=λb f e=>by rw[←h];exact Pr _ (Pr _ e)
 unfold Builtin.List.listTouch;refine Pn (Pn (VE gS rfl ?_ (by show 0<=_;omega) (by show 1<=_;omega)));obtain⟨e1,g1⟩:∃e1,(d.update s.heap.objs.size (RB λxs=>xs.push QZ)).get? s.heap.objs.size=My (Te "list" #[QZ] e1):=⟨_,get?_update_seq gS λxs=>xs.push QZ⟩;refine VE g1 rfl ?_ (by show 1<=P0;decide) (by show 0<=_;omega);obtain⟨J,g2⟩:∃J,((d.update s.heap.objs.size (RB λxs=>xs.push QZ)).update s.heap.objs.size (RB λxs=>xs.pop)).get? s.heap.objs.size=My (Te "list" #[] J):=⟨_,get?_update_seq g1 λxs=>xs.pop⟩;have c:∀b f,b≠s.heap.objs.size->d.get? b=My f->((d.update s.heap.objs.size (RB λxs=>xs.push QZ)).update s.heap.objs.size (RB λxs=>xs.pop)).get? b=My f:=λb f q e=>by
  rw[SD _ _ _ _ q,SD _ _ _ _ q];exact e
 generalize (d.update s.heap.objs.size (RB λxs=>xs.push QZ)).update s.heap.objs.size (RB λxs=>xs.pop)=h4 at g2 c;have L:s.heap.objs.size+1≠a:=Se (Vb ha);have st:SIt w h4 (s.heap.objs.size+1) a es ep t 0:=⟨⟨o,c a o (Ne.symm r) ga,hd⟩,_,0,c _ _ (by omega) gI,rfl,rfl,λ_=>by
  have:=jc (j:=0) T.rs;rcases Zh (below t.place 0)with z|z
  ·exact z
  ·have e:=getElem?_pos t.place 0 (by omega)
   have:=this.2.1 0 _ z e;omega⟩
 have W:=BM (prog:=prog) (w:=w) (A:=A.in1) (I:=s.heap.objs.size+1) (a:=a) (ep:=ep) hh T U X hl L;show PY _ _ (XD _) _ _ _;rw[Z];refine Pq ⟨plainId_quiet F.plain_extend_loop _,codeAny_extend_loopS W.toS (by rw[RZ];omega) s.heap.objs.size (by simp;omega) _ es.size 0 _ #[] J rfl (Q5 _) st g2 (ItemsOf.nil _) λs' k c' hm v m=>?_⟩;show PY _ A (load s.heap.objs.size>>=_) _ _ s';refine Pn (wpAny_load v ?_);refine Pq ?_;have N:s'={s with heap:=s'.heap,toks:=s'.toks}:=by
  have y:=hm.gens;have d:=hm.drawn;have h3:=hm.os;obtain⟨a1,a2,a3,a4,a5⟩:=s';simp only at y d h3;subst y d h3;rfl
 rw[N];refine hQ _ _ _ (λb f e=>?_) (Vz (Qj v)) hm.toks ?_
 ·have q:=Qj e
  exact hm.heap b f (by simp only[PZ,Rl,Ub,not_or];exact⟨QK q,QK (Vb q)⟩) (c b f (QK q) (p b f e))
 ·refine List.Perm.trans (Wd ?_) ((kB w a ep es).map (·.2))
  have O:(dC w a ep es).size=es.size:=by rw[←Qw,(kB w a ep es).length_eq,Qw]
  refine Rv (by rw[Qw,Pp,Qw,O,m.1]) λi q1 q2=>?_;have P:i<k.size:=by simpa using q1
  obtain⟨e,he,hv⟩:=m.2 i _ (getElem?_pos k i P);rw[Ui,hv,SH,Ui];have:=Q3.mp he;obtain⟨z1,z2⟩:=this;rw[z2]
end
end L2.Hs
namespace L2.Hs
open PySem PySem.W PyProof.Rows
section
variable{α β:Type}{lt:Nat->Nat->Bool}{n:Nat}
def Rn(lt:Nat->Nat->Bool)(n:Nat):KasT α->(α->Prop)->Prop
 | .ret a,Φ=>Φ a
 | .ask i j k,Φ=>i<n/\j<n/\Rn lt n (k (lt i j)) Φ
theorem Rn.bind{Φ:β->Prop}:∀{t:KasT α},Rn lt n t (λa=>Rn lt n (f a) Φ)->Rn lt n (t.bind f) Φ
 | .ret a,h=>h
 | .ask i j k,⟨h1,h2,h3⟩=>⟨h1,h2,Rn.bind h3⟩
theorem Rn.mono{Φ Ψ:α->Prop}(b:∀a,Φ a->Ψ a):∀{t:KasT α},Rn lt n t Φ->Rn lt n t Ψ
 | .ret a,h=>b a h
 | .ask i j k,⟨h1,h2,h3⟩=>⟨h1,h2,Rn.mono b h3⟩
theorem Rn.wp{Φ:α->Prop}(b:∀i j,i<n->j<n->∀C:Bool->PM->Prop,C (lt i j) s->cmp i j C s)(c:∀a,Φ a->Q a s):∀{t:KasT α},Rn lt n t Φ->t.kasWp cmp Q s
 | .ret a,h=>c a h
 | .ask i j k,⟨h1,h2,h3⟩=>b i j h1 h2 _ (Rn.wp b c h3)
end
section
variable{rk:Nat->Nat}{n:Nat}
noncomputable abbrev ltR(rk:Nat->Nat)(i j:Nat):Bool:=decide (rk i<rk j)
noncomputable abbrev ky(rk:Nat->Nat)(p:Array Nat)(i:Nat):Nat:=rk (p.getD i 0)
structure Pm (rk:Nat->Nat) (n:Nat) (p:Array Nat):Prop where
 perm:p.toList.Perm (PR n)
 inj:∀i j,i<n->j<n->rk i=rk j->i=j
theorem Pm.sz{p:Array Nat}(h:Pm rk n p):p.size=n:=by have:=h.perm.length_eq;simpa using this
theorem Pm.lt{p:Array Nat}(h:Pm rk n p)(a:i<n):p.getD i 0<n:=by
 have hs:=h.sz;have e:p.getD i 0=p[i]:=by simp[SA,show i<p.size by omega]
 rw[e];exact Qg.mp (h.perm.mem_iff.mp (by simp))
theorem Pm.ne(h:Pm rk n p)(a:i<j)(b:j<n):ky rk p i≠ky rk p j:=λz=>by
 have hs:=h.sz;have:=h.inj _ _ (h.lt (show i<n by omega)) (h.lt b) z;have nd:p.toList.Nodup:=h.perm.nodup_iff.mpr WB;have c:p.getD i 0=p.toList[i]'(by simp;omega):=by simp[SA,show i<p.size by omega]
 have d:p.getD j 0=p.toList[j]'(by simp;omega):=by simp[SA,show j<p.size by omega]
 rw[c,d]at this;exact Ql this (Sn.mp nd i j (by simp;omega) (by simp;omega) a)
theorem Pm.of{p q:Array Nat}(h:Pm rk n p)(a:q.Perm p):Pm rk n q:=⟨(Array.perm_iff_toList_perm.mp a).trans h.perm,h.inj⟩
def So(rk:Nat->Nat)(p:Array Nat)(k:Nat):Prop:=∀i j,i<j->j<k->ky rk p i<ky rk p j
def De(rk:Nat->Nat)(p:Array Nat)(k:Nat):Prop:=∀i j,i<j->j<k->ky rk p j<ky rk p i
theorem So.succ(h:So rk p k)(c:1<=k)(b:ky rk p (k-1)<ky rk p k):So rk p (k+1):=λi j a d=>by
 by_cases q:j=k
 ·subst q
  by_cases z:i=j-1
  ·subst z;exact b
  ·exact UL (h i (j-1) (by omega) (by omega)) b
 ·exact h i j a (by omega)
theorem De.succ(h:De rk p k)(c:1<=k)(b:ky rk p k<ky rk p (k-1)):De rk p (k+1):=λi j a d=>by
 by_cases q:j=k
 ·subst q
  by_cases z:i=j-1
  ·subst z;exact b
  ·exact UL b (h i (j-1) (by omega) (by omega))
 ·exact h i j a (by omega)
theorem u8(P:Pm rk n p):∀(f k:Nat),1<=k->k+f<=n->So rk p k->Rn (ltR rk) n (kas_asc p f k) λm=>k<=m/\m<=k+f/\So rk p m/\(m=k+f\/ky rk p m<ky rk p (m-1))
 |0,k,_,_,h=>⟨PN k,PN _,h,.inl rfl⟩
 |f+1,k,h1,h2,h=>by
  refine⟨P.lt (by omega),P.lt (by omega),?_⟩;by_cases q:ky rk p k<ky rk p (k-1)
  ·rw[show ltR rk (p.getD k 0) (p.getD (k-1) 0)=Pt from P9 q];dsimp only;rw[PP rfl]
   exact⟨PN k,by omega,h,.inr q⟩
  ·rw[show ltR rk (p.getD k 0) (p.getD (k-1) 0)=Pz from QD q];dsimp only;rw[PL PQ]
   have:=P.ne (show k-1<k by omega) (show k<n by omega);refine Rn.mono (λm hm=>?_) (u8 P f (k+1) (by omega) (by omega) (h.succ h1 (by omega)));exact⟨by omega,by omega,hm.2.2.1,by rcases hm.2.2.2 with z|z;exact .inl (by omega);exact .inr z⟩
theorem wu(P:Pm rk n p):∀(f k:Nat),1<=k->k+f<=n->De rk p k->Rn (ltR rk) n (kas_desc f p k 0) λr=>r.1=p/\r.2.2=0/\k<=r.2.1/\r.2.1<=k+f/\De rk p r.2.1
 |0,k,_,_,h=>⟨rfl,rfl,PN k,PN _,h⟩
 |f+1,k,h1,h2,h=>by
  refine⟨P.lt (by omega),P.lt (by omega),?_⟩;by_cases q:ky rk p k<ky rk p (k-1)
  ·rw[show ltR rk (p.getD k 0) (p.getD (k-1) 0)=Pt from P9 q];dsimp only;rw[PP rfl,PL (QS 0)]
   refine Rn.mono (λm hm=>?_) (wu P f (k+1) (by omega) (by omega) (h.succ h1 q));exact⟨hm.1,hm.2.1,by have:=hm.2.2.1;omega,by have:=hm.2.2.2.1;omega,hm.2.2.2.2⟩
  ·rw[show ltR rk (p.getD k 0) (p.getD (k-1) 0)=Pz from QD q];dsimp only;rw[PL PQ]
   have:=P.ne (show k-1<k by omega) (show k<n by omega);refine⟨P.lt (by omega),P.lt (by omega),?_⟩;rw[show ltR rk (p.getD (k-1) 0) (p.getD k 0)=Pt from P9 (show ky rk p (k-1)<ky rk p k by omega)];dsimp only;rw[PP rfl];exact⟨rfl,rfl,PN k,by show k<=_;omega,h⟩
theorem wl{p q:Array Nat}(h:p[i]?=q[j]?):p.getD i 0=q.getD j 0:=by
 have a:∀(r:Array Nat) (x:Nat),r.getD x 0=(r[x]?).getD 0:=λr x=>by
  by_cases b:x<r.size
  ·simp[SA,b]
  ·simp[SA,b]
 rw[a,a,h]
theorem LM{p:Array Nat}(a:k<=p.size)(h:De rk p k):So rk (kas_rev p 0 k) k:=λi j b c=>by
 have g:∀x,x<k->(kas_rev p 0 k).getD x 0=p.getD (k-1-x) 0:=λx d=>by
  refine wl ?_;unfold kas_rev;rw[getElem?_mirror_all a,PP (by omega)];congr 1;omega
 show rk _<rk _;rw[g i (by omega),g j c];exact h (k-1-j) (k-1-i) (by omega) (by omega)
theorem BS(P:Pm rk n p)(b:1<=k)(c:k<=n)(h:De rk p k):Rn (ltR rk) n (kas_tail3 k n p) λr=>Pm rk n r.2/\1<=r.1/\r.1<=n/\So rk r.2 r.1:=by
 have a:Pm rk n (kas_rev p 0 k):=P.of (mirror_perm _ _ _ _);unfold kas_tail3;refine Rn.bind (Rn.mono (λm hm=>?_) (u8 a (n-k) k b (by omega) (LM (by rw[P.sz];exact c) h)));exact⟨a,by omega,by omega,hm.2.2.1⟩
theorem EM(P:Pm rk n p)(d:1<=n):Rn (ltR rk) n (kas_count n p) λr=>Pm rk n r.2/\1<=r.1/\r.1<=n/\So rk r.2 r.1:=by
 unfold kas_count;refine Rn.bind (Rn.mono (λm hm=>?_) (u8 P (n-1) 1 (PN 1) (by omega) λi j a b=>by omega));obtain⟨a1,a2,a3,a4⟩:=hm;by_cases q:m=n
 ·rw[PP (by rw[SL];exact q)]
  exact⟨P,by omega,by omega,a3⟩
 ·rw[PL (by rw[SL];exact q)]
  have hd:ky rk p m<ky rk p (m-1):=by
   rcases a4 with z|z
   ·omega
   ·exact z
  by_cases q1:m>1
  ·rw[PP q1]
   refine⟨P.lt (by omega),P.lt (by omega),?_⟩;rw[show ltR rk (p.getD 0 0) (p.getD (m-1) 0)=Pt from P9 (a3 0 (m-1) (by omega) (by omega))];dsimp only;rw[PP rfl];exact⟨P,by omega,by omega,a3⟩
  ·rw[PL q1]
   obtain rfl:m=1:=by omega
   unfold kas_descPart;refine Rn.bind (Rn.mono (λr c=>?_) (wu P (n-(1+1)) (1+1) (by omega) (by omega) λi j a b=>by
    obtain rfl:j=1:=by omega
    obtain rfl:i=0:=by omega
    exact hd))
   obtain⟨rfl,b2,b3,b4,b5⟩:=c;rw[PL (by omega)];exact BS P (by omega) (by omega) b5
theorem nK(P:Pm rk n p)(a:k<n):∀(f l r:Nat),l<=r->r<=k->r-l<=f->(∀i,i<l->ky rk p i<ky rk p k)->(∀i,r<=i->i<k->ky rk p k<ky rk p i)->So rk p k->
  Rn (ltR rk) n (kas_place p k f l r) λm=>m<=k/\(∀i,i<m->ky rk p i<ky rk p k)/\∀i,m<=i->i<k->ky rk p k<ky rk p i
 |0,l,r,h1,h2,h3,ha,hb,_=>by
  obtain rfl:l=r:=by omega
  exact⟨h2,ha,hb⟩
 |f+1,l,r,h1,h2,h3,ha,hb,so=>by
  unfold kas_place;by_cases q:l≥r
  ·rw[PP q]
   obtain rfl:l=r:=by omega
   exact⟨h2,ha,hb⟩
  ·rw[PL q]
   refine⟨P.lt (by omega),P.lt (by omega),?_⟩;by_cases z:ky rk p k<ky rk p ((l+r)/2)
   ·rw[show ltR rk (p.getD k 0) (p.getD ((l+r)/2) 0)=Pt from P9 z];dsimp only;rw[PP rfl]
    refine nK P a f l ((l+r)/2) (by omega) (by omega) (by omega) ha (λi c b=>?_) so;by_cases w:i=(l+r)/2
    ·subst w;exact z
    ·exact UL z (so _ i (by omega) b)
   ·rw[show ltR rk (p.getD k 0) (p.getD ((l+r)/2) 0)=Pz from QD z];dsimp only;rw[PL PQ]
    have d:=P.ne (show(l+r)/2<k by omega) a;refine nK P a f ((l+r)/2+1) r (by omega) h2 (by omega) (λi c=>?_) hb so;by_cases w:i=(l+r)/2
    ·subst w;omega
    ·exact UL (so i ((l+r)/2) (by omega) (by omega)) (by omega)
theorem AZ:∀(f:Nat) {p:Array Nat} {k:Nat},Pm rk n p->k+f=n->So rk p k->Rn (ltR rk) n (kas_bin f p k) λp'=>Pm rk n p'/\So rk p' n
 |0,p,k,P,hk,so=>⟨P,by rw[←hk];exact so⟩
 |f+1,p,k,P,hk,so=>by
  unfold kas_bin;refine Rn.bind (Rn.mono (λm hm=>?_) (nK P (by omega) k 0 k (Q5 _) (PN _) (by omega) (λi e=>Ql e (Sa i)) (λi h b=>by omega) so));obtain⟨h,b,l⟩:=hm;have o:Pm rk n (bubble p k (k-m)):=P.of (bubble_perm _ _ _);refine AZ f o (by omega) λi j a r=>?_;have ks:k<p.size:=by rw[P.sz];omega
  have g:∀x:Nat,(bubble p k (k-m)).getD x 0=p.getD (if x=m then k else if m<x/\x<=k then x-1 else x) 0:=λx=>by
   refine wl ?_;rw[getElem?_bubble ks (k-m) (by omega)];by_cases q:x=m
   ·rw[PP (by omega),PP q]
   ·rw[PL (by omega),PL q]
    by_cases q2:m<x/\x<=k
    ·rw[PP (by omega),PP q2]
    ·rw[PL (by omega),PL q2]
  show rk _<rk _;rw[g i,g j];by_cases q1:i=m
  ·rw[PP q1,PL (by omega),PP (by omega)]
   exact l (j-1) (by omega) (by omega)
  ·rw[PL q1]
   by_cases q2:j=m
   ·rw[PP q2,PL (by omega)]
    exact b i (by omega)
   ·rw[PL q2]
    by_cases c:m<i/\i<=k
    ·rw[PP c,PP (by omega)]
     exact so (i-1) (j-1) (by omega) (by omega)
    ·rw[PL c]
     by_cases d:m<j/\j<=k
     ·rw[PP d]
      exact so i (j-1) (by omega) (by omega)
     ·rw[PL d]
      exact so i j a (by omega)
theorem JS(a:1<=n)(inj:∀i j,i<n->j<n->rk i=rk j->i=j):Rn (ltR rk) n (kas_sort n) λp=>Pm rk n p/\So rk p n:=by
 unfold kas_sort;have P:Pm rk n (List.toArray (PR n)):=⟨.refl _,inj⟩;refine Rn.bind (Rn.mono (λr b=>?_) (EM P a));obtain⟨a1,a2,a3,a4⟩:=b;by_cases q:r.1<n
 ·rw[PP q,Nat.max_eq_left a2]
  exact AZ _ a1 (by omega) a4
 ·rw[PL q]
  obtain rfl:r.1=n:=by omega
  exact⟨a1,a4⟩
end
noncomputable def cB:List Int->List Int->Bool
 |[],[]=>Pz
 |[],_::_=>Pt
 |_::_,[]=>Pz
 |a::as,b::bs=>if a=b then cB as bs else decide (a<b)
theorem iG:∀x,cB x x=Pz
 |[]=>rfl
 |a::as=>by unfold cB;rw[PP rfl];exact iG as
theorem pe:∀{x y z},cB x y=Pt->cB y z=Pt->cB x z=Pt
 |[],[],_,h,_=>by cases h
 |[],_::_,[],_,h=>by cases h
 |[],_::_,_::_,_,_=>rfl
 |_::_,[],_,h,_=>by cases h
 |_::_,_::_,[],_,h=>by cases h
 |a::as,b::bs,c::cs,h1,h2=>by
  unfold cB at h1 h2⊢;by_cases q1:a=b
  ·rw[PP q1]at h1
   by_cases q2:b=c
   ·rw[PP q2]at h2
    rw[PP (q1.trans q2)];exact pe h1 h2
   ·rw[PL q2]at h2
    rw[PL (by rw[q1];exact q2),q1];exact h2
  ·rw[PL q1]at h1
   have l1:=R7 h1;by_cases q2:b=c
   ·rw[PL (by rw[←q2];exact q1),←q2];exact h1
   ·rw[PL q2]at h2
    have d:=R7 h2;rw[PL (by omega)];exact P9 (by omega)
theorem mE:∀{x y},cB x y=Pz->cB y x=Pz->x=y
 |[],[],_,_=>rfl
 |[],_::_,h,_=>by cases h
 |_::_,[],_,h=>by cases h
 |a::as,b::bs,h1,h2=>by
  unfold cB at h1 h2;by_cases q:a=b
  ·rw[PP q]at h1
   rw[PP q.symm]at h2;rw[q,mE h1 h2]
  ·rw[PL q]at h1
   rw[PL (Ne.symm q)]at h2;have:=of_decide_eq_false h1;have:=of_decide_eq_false h2;omega
theorem uY:∀{L:List Nat},(∀l∈L,p l=Pt->q l=Pt)->∀{i},i∈L->p i=Pz->q i=Pt->L.countP p<L.countP q
 |[],_,i,h,_,_=>by cases h
 |a::L,hpq,i,hi,h1,h2=>by
  have le:L.countP p<=L.countP q:=List.countP_mono_left λl b=>hpq l (Ps a b);rcases PZ.mp hi with rfl|hi
  ·rw[List.countP_cons_of_neg (by rw[h1];exact PQ),List.countP_cons_of_pos h2]
   omega
  ·have ih:=uY (λl b=>hpq l (Ps a b)) hi h1 h2
   rw[List.countP_cons,List.countP_cons];have:(if p a=Pt then 1 else 0)<=(if q a=Pt then 1 else 0):=by
    by_cases z:p a=Pt
    ·rw[PP z,PP (hpq a PF z)];exact PN 1
    ·rw[PL z];exact Q5 _
   omega
def g9(ks:LI)(i:Nat):Nat:=(PR ks.length).countP λj=>cB (ks.getD j []) (ks.getD i [])
theorem sD{ks:LI}(a:i<ks.length)(h:cB (ks.getD i []) (ks.getD j [])=Pt):g9 ks i<g9 ks j:=
 uY (λl _ b=>pe b h) (Qg.mpr a) (iG _) h
theorem y6{ks:LI}(b:i<ks.length)(c:j<ks.length):decide (g9 ks i<g9 ks j)=cB (ks.getD i []) (ks.getD j []):=by
 cases h:cB (ks.getD i []) (ks.getD j [])with
 |true=>exact P9 (sD b h)
 |false=>
  refine QD λz=>?_;cases a:cB (ks.getD j []) (ks.getD i [])with
  |true=>have:=sD c a;omega
  |false=>
   have e:=mE h a;unfold g9 at z;rw[e]at z;exact QS _ z
theorem LK{ks:LI}(nd:ks.Nodup)(a:i<ks.length)(b:j<ks.length)(h:g9 ks i=g9 ks j):i=j:=by
 have e:ks.getD i []=ks.getD j []:=by
  refine mE ?_ ?_
  ·cases z:cB (ks.getD i []) (ks.getD j [])with
   |false=>rfl
   |true=>have:=sD a z;omega
  ·cases z:cB (ks.getD j []) (ks.getD i [])with
   |false=>rfl
   |true=>have:=sD b z;omega
 rw[Px,Px,Pw a,Pw b]at e;have c:ks[i]=ks[j]:=e;rcases S8 i j with z|z|z
 ·exact Ql c (Sn.mp nd i j a b z)
 ·exact z
 ·exact Ql c.symm (Sn.mp nd j i b a z)
abbrev Up(l:LI):Prop:=l.Pairwise λa b=>cB a b=Pt
theorem wO:∀{l m:LI},Up l->Up m->(∀x,x∈l↔x∈m)->l=m
 |[],[],_,_,_=>rfl
 |[],b::m,_,_,h=>by have:=(h b).mpr PF;cases this
 |a::l,[],_,_,h=>by have:=(h a).mp PF;cases this
 |a::l,b::m,h1,h2,h=>by
  obtain⟨d,f⟩:=TV.mp h1;obtain⟨q1,q2⟩:=TV.mp h2;have e:a=b:=by
   rcases PZ.mp ((h a).mp PF)with z|z
   ·exact z
   ·rcases PZ.mp ((h b).mpr PF)with w|w
    ·exact w.symm
    ·have:=pe (q1 a z) (d b w)
     rw[iG]at this;cases this
  subst e;congr 1;refine wO f q2 λx=>⟨λc=>?_,λc=>?_⟩
  ·rcases PZ.mp ((h x).mp (Ps a c))with rfl|z
   ·have:=d x c;rw[iG]at this;cases this
   ·exact z
  ·rcases PZ.mp ((h x).mpr (Ps a c))with rfl|z
   ·have:=q1 x c;rw[iG]at this;cases this
   ·exact z
section
variable{prog:Qu}{w:QH}{A:QU}{E:PH->PM->Prop}{s:PM}
theorem wc{b:Bool}:∀{xs ys:List Int} {us vs:List PH} (i:Nat),ItemsAre (VW prog w) xs us->ItemsAre (VW prog w) ys vs->∀n m:Nat,(decide (n+us.length<m+vs.length)=decide (xs.length<ys.length))->Q (cB xs ys) s->KatLex prog w A Pt (decide (n+us.length<m+vs.length)) Q (us.zip vs) i s
 |[],ys,us,vs,i,hx,hy,n,m,e,q=>by
  cases hx;cases hy with
  |nil=>rw[Wr];exact kat_nil (by rw[e];exact q)
  |cons c d=>rw[Wr];exact kat_nil (by rw[e];exact q)
 |x::xs,ys,us,vs,i,hx,hy,n,m,e,q=>by
  cases hx with
  |@cons _ u _ us' c d=>
   cases hy with
   |nil=>rw[List.zip_nil_right];exact kat_nil (by rw[e];exact q)
   |@cons y v ys' vs' h3 h4=>
    obtain⟨g,rfl⟩:=Wg c;obtain⟨h,rfl⟩:=Wg h3;rw[RX];refine kat_cons (wpAny_eqBool_int ?_);unfold cB at q;by_cases z:x=y
    ·rw[PP z]at q
     rw[show(x==y)=Pt by rw[SL];exact z];refine kat_yes ?_;have f:∀k l:Nat,decide (k+(us'.length+1)<l+(vs'.length+1))=decide (k+1+us'.length<l+1+vs'.length):=λk l=>decide_eq_decide.mpr (by omega);rw[Qd,Qd,f];refine wc (b:=b) (i+1) d h4 (n+1) (m+1) ?_ q;rw[←f,←Qd (a:=TW x g),←Qd (a:=TW y h),e,Qd,Qd];exact decide_eq_decide.mpr (by omega)
    ·rw[PL z]at q
     rw[show(x==y)=Pz by rw[XI];exact z];refine kat_no ?_;cases j:(Pt&&i==0)with
     |true=>exact oneLt_int q
     |false=>exact kat_one _ _ (lt_int (show PySem.W.BoolBack Q (.bool _) s from q))
theorem Mq(i:(IKd prog w).is s.heap xs x)(j:(IKd prog w).is s.heap ys y)(h:Q (cB xs ys) s):PY (Qk prog w) A (keyLt' (tuples' Pt) (.ref x) (.ref y)) Q E s:=by
 obtain⟨m,n,o,d,k,e,a⟩:=i;obtain⟨o2,p,q,f,l,g,c⟩:=j;refine kat_lt d e f g ?_;have:=wc (A:=A) (b:=Pt) (Q:=Q) (s:=s) 0 a c 0 0 (by rw[Rc,Rc,a.length,c.length]) h;rw[Rc,Rc,Qw,Qw]at this;exact this
theorem vy:∀{ks:List (List Int×PD)},(∀k∈ks,(IKd prog w).is s.heap k.1 k.2/\1<=k.1.length)->∃fs:List PH,KatTups s.heap (ks.map λk=>P7 k.2) fs/\fs.length=ks.length/\∀v∈fs,∃n t,v=TW n t
 |[],_=>⟨[],trivial,rfl,λv hv=>by cases hv⟩
 |k::ks,h=>by
  obtain⟨fs,c,d,f⟩:=vy λg i=>h g (Ps k i);obtain⟨⟨o,its,n,j,l,hd,b⟩,p⟩:=h k PF;have a:=b.length;have m:0<its.size:=by rw[←Qw,←a];omega
  have e:=getElem?_pos its 0 m;refine⟨its[0]::fs,KatTups.cons j l hd e c,by rw[Qd,Qd,d],λv hv=>?_⟩;rcases PZ.mp hv with rfl|hv
  ·exact items_int b _ (by rw[←Ui];exact QL _)
  ·exact f v hv
theorem yN{ks:List (List Int×PD)}(L:s.heap.get? a=My (Te "list" (ks.map λk=>P7 k.2).toArray n))(hk:∀k∈ks,(IKd prog w).is s.heap k.1 k.2/\1<=k.1.length)(nd:(ks.map (·.1)).Nodup)(h64:ks.length<64)
  (h:∀(h':Q0) (l:List (List Int×PD)) (n':Nat),l.Perm ks->Up (l.map (·.1))->h'.get? a=My (Te "list" (l.map λk=>P7 k.2).toArray n')->(∀b o,b≠a->s.heap.get? b=My o->h'.get? b=My o)->P (.done (.ret .none)) {s with heap:=h'}):
  PY (Qk prog w) A (Builtin.«list.sort» ⟨[.ref a],[]⟩) P E s:=by
 have ha:a<s.heap.objs.size:=Qj L;rw[list_sort_plain];refine Pn (listItems_at L rfl ?_);refine Pn (VE L rfl ?_ (by simp[RZ];omega) (by simp));obtain⟨F,N⟩:∃F,(s.heap.update a (RB λ_=>#[])).get? a=My (Te "list" #[] F):=⟨_,get?_update_seq L (λ_=>#[])⟩;refine Pn (seqEpoch_at N rfl ?_);refine Pn (Wm ?_ (by simp[RZ];omega));refine Pn (wpAny_newList ?_ (Q5 _));refine Rh ?_;generalize q:(ks.map λk=>P7 k.2)=vs at*;have u:vs.length=ks.length:=by rw[←q,Pp]
 have d:(((s.heap.update a (RB λ_=>#[])).push (Te "tuple" vs.toArray 0)).push (Te "list" #[] 0)).get? a=My (Te "list" #[] F):=by
  rw[Ze _ _ _ (by rw[size_push',Heap.size_update];exact QK (Vb ha)),Ze _ _ _ (by rw[Heap.size_update];exact QK ha)];exact N
 have keep:∀b o,b≠a->s.heap.get? b=My o->(((s.heap.update a (RB λ_=>#[])).push (Te "tuple" vs.toArray 0)).push (Te "list" #[] 0)).get? b=My o:=λb o X e=>by
  refine Pr _ (Pr _ ?_);rw[SD _ _ _ _ X];exact e
 show PY (Qk prog w) A _ P E {s with heap:=((s.heap.update a (RB λ_=>#[])).push (Te "tuple" vs.toArray 0)).push (Te "list" #[] 0)};generalize hh6:((s.heap.update a (RB λ_=>#[])).push (Te "tuple" vs.toArray 0)).push (Te "list" #[] 0)=h6 at d keep
 dsimp only
 have O:∀(l:List (List Int×PD)) (y:Array PH),l.Perm ks->Up (l.map (·.1))->y=(l.map λk=>P7 k.2).toArray->P (.done (.ret .none)) {s with heap:=h6.update a (RB λ_=>y)}:=λl y p1 p2 e=>by
  refine h _ l _ p1 p2 (by rw[←e];exact get?_update_seq d λ_=>y) λb o X Y=>?_;rw[SD _ _ _ _ X];exact keep b o X Y
 by_cases I:vs.toArray.size<2
 ·rw[PP I,PP I]
  refine Pn (Pq ?_);rw[StateT.run_pure];refine Pn (Pq ?_)
  dsimp only
  refine Pn (seqEpoch_at d rfl ?_);have Z:((arrOf (SortSt.mk' general' (vs.toArray.zip vs.toArray) #[] 7 Po)).map (·.2))=vs.toArray:=by
   show(vs.toArray.zip vs.toArray).map (·.2)=_;apply Array.toList_inj.mp;rw[Array.toList_map,Array.toList_zip];exact List.map_snd_zip (PN _)
  rw[Z];refine Pn (VE d rfl ?_ (by simp) (by simp[RZ];omega));simp only[S4,Qh,Q1];refine Pq (O ks _ (.refl _) ?_ (by rw[q]));have R:ks.length<2:=by rw[←u];simpa using I
  match ks,R with
  |[],_=>exact Vy
  |[k],_=>exact SJ _ _
  |_::_::_,R=>simp at R;omega
 ·rw[PL I,PL I]
  have h2':2<=ks.length:=by rw[←u];simp at I;omega
  have H:∀k∈ks,(IKd prog w).is h6 k.1 k.2/\1<=k.1.length:=λk hk'=>by
   obtain⟨⟨o,its,m,h1,h3,h4,h5⟩,R⟩:=hk k hk';refine⟨⟨o,its,m,keep _ _ (λz=>?_) h1,h3,h4,h5⟩,R⟩;rw[z,L]at h1;cases h1;exact Ql (TM.inj h3) (by decide)
  obtain⟨fs,t1,t2,t3⟩:=vy (s:={s with heap:=h6}) H;rw[q]at t1;refine Pn (kat_kind (T:= .type "int") t1 (by omega) (λv hv=>?_) rfl ?_)
  ·obtain⟨x,t,rfl⟩:=t3 v hv
   exact Looks.of_pure rfl
  show PY _ _ (StateT.run sortRuns' (SortSt.mk' (tuples' Pt) (vs.toArray.zip vs.toArray) #[] 7 Po)>>=_) _ _ _;have J:(ks.map (·.1)).length=vs.length:=by rw[Pp,u]
  have at_:∀i,i<vs.length->∃k∈ks,vs.getD i QZ= .ref k.2/\(ks.map (·.1)).getD i []=k.1/\ks[i]?=My k:=λi c=>by
   have f:i<ks.length:=by omega
   refine⟨ks[i],QL f,?_,?_,Pw f⟩
   ·rw[←q,Px,Py,Pw f];rfl
   ·rw[Px,Py,Pw f];rfl
  refine Pn (QN (kat_run (κ:=tuples' Pt) (ks:=vs) (vs:=vs) (Q:=λg s'=>s'={s with heap:=h6}/\failedOf g=Po/\∃p:Array Nat,Pm (g9 (ks.map (·.1))) vs.length p/\So (g9 (ks.map (·.1))) p vs.length/\arrOf g=p.map (kas_item (vs.toArray.zip vs.toArray)))
   (G:=λp s'=>s'={s with heap:=h6}/\Pm (g9 (ks.map (·.1))) vs.length p/\So (g9 (ks.map (·.1))) p vs.length) rfl (by omega) (by omega) (λp g s' a1 a2 a3 a4=>⟨a4.1,a3,p,a4.2.1,a4.2.2,a2⟩)
   (Rn.wp (lt:=ltR (g9 (ks.map (·.1)))) (n:=vs.length) (λi j c B C hC=>?_) (λp hp=>⟨rfl,hp⟩) (JS (by omega) λi j c B hr=>LK nd (by rw[J];exact c) (by rw[J];exact B) hr))) (λr s' hr=>?_) λ_ _ e=>e)
  ·obtain⟨k1,m1,F,f1,_⟩:=at_ i c
   obtain⟨k2,m2,e2,f2,_⟩:=at_ j B;unfold kas_ask;rw[F,e2];refine Mq (H k1 m1).1 (H k2 m2).1 ?_;have:=y6 (ks:=ks.map (·.1)) (i:=i) (j:=j) (by rw[J];exact c) (by rw[J];exact B);rw[f1,f2]at this;rw[←this];exact hC
  ·obtain⟨⟨⟩,g⟩:=r
   obtain⟨rfl,hf,p,P1,so,har⟩:=hr
   dsimp only
   have Z:(arrOf g).map (·.2)=(p.toList.map λi=>vs.getD i QZ).toArray:=kat_snds rfl har;have U:=P1.sz;rw[Z];refine Pn (seqEpoch_at d rfl ?_);refine Pn (VE d rfl ?_ (by simp) (by simp[RZ];omega));rw[hf];simp only[S4,Qh,Q1];have W:∀i∈p.toList,i<vs.length:=λi c=>Qg.mp (P1.perm.mem_iff.mp c);refine Pq (O (p.toList.map λi=>ks.getD i ([],0)) _ ?_ ?_ ?_)
   ·refine(P1.perm.map _).trans (Wd ?_)
    rw[u];refine Rv (by simp) λi q1 q2=>?_;rw[SH,SQ,Px,Pw q2];rfl
   ·rw[PV]
    unfold Up;rw[U4];refine Sn.mpr λi j c B hij=>?_;have f:i<vs.length:=by simpa[U]using c
    have hj':j<vs.length:=by simpa[U]using B
    have gd:∀x (hx:x<p.toList.length),p.getD x 0=p.toList[x]:=λx hx=>by
     have:x<p.size:=by simpa using hx
     simp[SA,this]
    have z:=so i j hij hj';unfold ky at z;rw[gd i c,gd j B]at z;obtain⟨k1,m1,F,f1,g1⟩:=at_ p.toList[i] (W _ (QL c));obtain⟨k2,m2,e2,f2,g2⟩:=at_ p.toList[j] (W _ (QL B));have:=y6 (ks:=ks.map (·.1)) (i:=p.toList[i]) (j:=p.toList[j]) (by rw[J];exact W _ (QL c)) (by rw[J];exact W _ (QL B));rw[P9 z,f1,f2]at this;simp only[UO];rw[Px,Px,g1,g2];exact this.symm
   ·rw[PV]
    congr 1;refine Qs λi c=>?_;obtain⟨k1,m1,F,f1,g1⟩:=at_ i (W i c);rw[F];simp only[UO];rw[Px,g1];rfl
end
theorem CP{α β:Type}{f:α->β}{vs g:List β}(p:vs.Perm g):∀{xs:List α},g=xs.map f->∃ks:List α,ks.Perm xs/\vs=ks.map f:=by
 induction p with
 |nil=>
  intro xs e;cases xs with
  |nil=>exact⟨[],.refl _,rfl⟩
  |cons _ _=>cases e
 |cons x _ ih=>
  intro xs e;cases xs with
  |nil=>cases e
  |cons a xs=>
   cases e;obtain⟨ks,c,d⟩:=ih rfl;exact⟨a::ks,c.cons a,by rw[d];rfl⟩
 |swap x y l=>
  intro xs e
  match xs,e with
  |[],e=>cases e
  |[_],e=>cases e
  |a::b::xs,e=>
   cases e;exact⟨b::a::xs,.swap _ _ _,rfl⟩
 |trans _ _ ih1 ih2=>
  intro xs e;obtain⟨ks,c,d⟩:=ih2 e;obtain⟨h,i,j⟩:=ih1 d;exact⟨h,i.trans c,j⟩
section
variable{prog:Qu}{w:QH}{A:QU}{E:PH->PM->Prop}{s:PM}
theorem wX{xs:List (List Int×PD)}(F:A.handled=Po)(S:qF prog w s.heap a xs)(H:∀x∈xs,1<=x.1.length)(I:xs.length<64)
  (h:∀(l:PD) (h':Q0) (f u:Nat) (g:List (List Int×PD)),g.Perm xs->Up (g.map (·.1))->h'.get? l=My (Te "list" (g.map λk=>P7 k.2).toArray u)->s.heap.objs.size<=l->(∀b o,s.heap.get? b=My o->h'.get? b=My o)->s.toks<=f->Q (.ref l) {s with heap:=h',toks:=f}):
  PY (Qk prog w) A (VD (.builtin "sorted") [.ref a]) Q E s:=by
 obtain⟨o,es,ep,t,J,v,hd,i,y,L,T,N,j⟩:=S;have B:es.size=xs.length:=by rw[←Qw,i,Pp]
 have O:t.fits es.size=Pt:=T.fits (by rw[Pp,B]);refine Calls.call_function_entry kind_sorted plain_sorted entry_sorted (args_sorted1 _) ?_;unfold Builtin.«sorted»;refine Pn (m:=checkCount "sorted" 1 1 _) (Pq ?_);refine Pn (vm F J v.1 hd T O N j (by omega) λn f vs keep p htk pv=>?_);rw[i,PV]at pv;obtain⟨ks,q,rfl⟩:=CP pv rfl;have P:ks.length=xs.length:=q.length_eq;refine Pn (wpAny_newList ?_ (by rw[Pp,RZ];omega));have c:∀b d,s.heap.get? b=My d->(n.push (Te "list" (ks.map λk=>P7 k.2).toArray 0)).get? b=My d:=λb d e=>Pr _ (keep b d e);have r:(n.push (Te "list" (ks.map λk=>P7 k.2).toArray 0)).get? n.objs.size=My (Te "list" (ks.map λk=>P7 k.2).toArray 0):=P4 _ rfl;show PY _ _ _ _ _ {s with heap:=n.push (Te "list" (ks.map λk=>P7 k.2).toArray 0),toks:=f};refine Pn (Rh (QO slot_list_sort ⟨_,r,rfl⟩ entry_list_sort (yN r (λk C=>⟨?_,H k (q.mem_iff.mp C)⟩) ((q.map (·.1)).nodup_iff.mpr y) (by omega) λh' g u q1 q2 q3 q4=>⟨_,rfl,?_⟩) (args_list_sort _)))
 ·obtain⟨R,its,m,U,W,X,Y⟩:=L k (q.mem_iff.mp C)
  exact⟨R,its,m,c _ _ U,W,X,Y⟩
 ·refine Pq ⟨_,rfl,h n.objs.size h' f u g (q1.trans q) q2 q3 p (λb d e=>q4 b d (λz=>?_) (c b d e)) htk⟩
  have:=Qj e;exact Ql (z▸this) (Nat.not_lt.mpr p)
end
end L2.Hs
namespace L2.Hs
open PySem PySem.Spec PyProof.Rows
section
variable{prog:Qu}{w:QH}
def qG(prog:Qu)(w:QH)(a:PD)(xs:List (List Int×PD))(h:Q0):Prop:=
 ∃o es ep t,h.get? a=My o/\o.ExactSet/\o.data= .set es ep t/\(es.toList=xs.map λx=>(hsh prog w x.1,P7 x.2))/\(xs.map (·.1)).Nodup/\(Tb t (xs.map λx=>hsh prog w x.1))/\t.plain=Pt/\t.led=!(w.params.followText "set-order")
noncomputable def l8(prog:Qu)(w:QH)(a:PD)(xs:List (List Int×PD)):HO:= .ext (qG prog w a xs)
theorem qG.to(S:qG prog w a xs h)(b:∀x∈xs,(IKd prog w).is h x.1 x.2):qF prog w h a xs:=by
 obtain⟨o,es,ep,t,c,d,e,f,g,i⟩:=S;exact⟨o,es,ep,t,c,d,e,f,g,b,i⟩
theorem vJ(S:qG prog w a xs h):bP prog w H h a (l8 prog w a xs):=by
 refine⟨S,?_,λb c z k=>?_⟩
 ·obtain⟨o,_,_,_,e,_⟩:=S
  exact⟨o,e⟩
 ·obtain⟨o,es,ep,t,e,r⟩:=z
  exact⟨o,es,ep,t,k _ e,r⟩
theorem DS{k:List Int}:∀{its:List PH},ar (k.map V.int) its->ItemsAre (VW prog w) k its:=by
 induction k with
 |nil=>intro its h;cases h;exact .nil
 |cons i k ih=>
  intro its h;cases h with
  |cons a b=>
   obtain⟨t,rfl⟩:=a;exact .cons (by simp[VW,X7]) (ih b)
end
section
variable{X:Cx}
theorem mH{s:PM}{k:List Int}(I:Inv X pins σ H s)(h:SqT X.K H b (k.map V.int)):(IKd X.prog X.w).is s.heap k b:=by
 obtain⟨its,a,⟨o,e,c,n,hd⟩,_⟩:=I.tuple h;exact⟨o,its.toArray,n,e,c,hd,DS a⟩
theorem tb0{b:Bool}:Tb (.fresh 0 0 b) []:=⟨.inl rfl,rfl,λi j a b h=>by simp[Y4]at*,λi j h=>by simp[Y4]at h,rfl,by show 0*5<7*3;decide,λi h j c=>by simp at c⟩
theorem qK:∀a:List (List Int×PD),ar (a.map λz=>V.ref z.2) (a.map λk=>P7 k.2)
 |[]=> .nil
 |_::a=> .cons rfl (qK a)
theorem KA:Mks X (newSet (.type "set")) λD=>l8 X.prog X.w D []:=λa s c H E Q I h=>by
 unfold newSet setsByText;refine Pn (Pn (UF (Pq ?_)))
 dsimp only
 simp only[newObj];refine Pn (wpAny_alloc (Pq (h _ (I.laid (t':=s.toks) (λ_ _ q=>Pr _ q) (PN _) (vJ ?_)) λb o e=>Pr _ e)));exact⟨_,#[],0,_,P4 _ rfl,⟨rfl,rfl,rfl⟩,rfl,rfl,.nil,tb0,rfl,rfl⟩
def AV(P:Qu)(w:QH)(K:P6)(D:PD)(e:TE):TB:=λd H Q=>e d H λv c=>∃xs k b,c D=My (l8 P w D xs)/\v= .ref b/\SqT K c b (k.map V.int)/\(∀x∈xs,SqT K c x.2 (x.1.map V.int))/\xs.length<63/\
 ∀a,(k∈xs.map (·.1)->a=xs)->(k∉xs.map (·.1)->a.Perm ((k,b)::xs))->Q d (upd c D (l8 P w D a))
theorem uh{D:PD}(p:X.A.units+1<Vh)(L:gens[d+1]?=Po)(N:PE X elt te)(j:X.xe=λ_ _=>False):PB X (.S elt) gens scope pos d D (AV X.prog X.w X.K D te):=by
 intro a s y H Q I h k Q' E' O;unfold gW;rw[L];show PY _ _ ((do let v ←QW elt X.env;Tk elt.pos;let _ ←VD (.builtin "set.add") [.ref D,v])>>=λ_=>k) _ _ _
 have c:=N a s y H _ I h;rw[j]at c;refine Pn (Pn (QN c (λu g l=>?_) λ_ _ f=>f.elim));obtain⟨v,H1,i,r,xs,P,b,B,rfl,C,J,hn,q⟩:=l;cases r;have S:qG X.prog X.w D xs g.heap:=(i.hok D _ B).1;have R:qF X.prog X.w g.heap D xs:=S.to λx h=>mH i (J x h);obtain⟨o,es,ep,t,T,U,_⟩:=S;refine Pn (R8 (Pn (QO F.slot_set_add ⟨o,T,U.1⟩ F.entry_set_add ?_ (F.args_set_add_2 _ _))));unfold Builtin.«set.add» Builtin.Frozenset.oneOther;simp only[List.isEmpty_nil,bind_assoc];unfold Builtin.Frozenset.addrOf setAdd;refine Pn (Pq ?_)
 try dsimp only
 refine Pn (Pq ?_)
 try dsimp only
 refine Pn (Rh (Pn ((IKd X.prog X.w).pyHash p (mH i C) ?_)));refine N4 (s:={g with toks:=g.toks+(IKd X.prog X.w).draws P}) p R (mH (s:=g) i C) hn λh' m W Y c1 c2=>?_;show PY _ _ (ret QZ) _ _ _;refine Pq ⟨_,rfl,Pq (O _ y _ (i.write (by rw[B];trivial) (.inl rfl) (λb u n e=>(W.2 b n).trans e) ?_ (vJ ?_)) (q m c1 c2))⟩
 all_goals obtain⟨o,es,ep,t,c,l,Z,h4,h5,J,h6⟩:=Y
 ·exact⟨o,c⟩
 ·exact⟨o,es,ep,t,c,l,Z,h4,h5,h6⟩
def kZ(c:PD->HO)(vars:List Qz)(caps:List Nat)(d:TI)(e:PD->It->TB):TE:=λa H Q=>d a H λJ b=>∀D,b D=Po->e D J (j8 vars caps a) (upd b D (c D)) λ_ f=>Q (.ref D) f
theorem Kk{d a b:Expr}{f:List Expr}{rest:List RA}{scope:Scope}{pos:Uh}{j vars:List Qz}{caps:List Nat}{g:TG}{tt:TT}{o:PD->TB}{p:TI}(r:X.calm=Pt)(S:CmpScope X scope j vars caps)(t:PI X a b p)
  (u:∀(cl:List (Qz×PD)) (C:PD) (k:List PD) (s:PM) (H:Hp),PG (aE X j scope cl C k s H) a g/\dG (aE X j scope cl C k s H) f tt/\∀D,PB (aE X j scope cl C k s H) (.S d) (⟨a,b,f,0⟩::rest) scope pos 0 D (o D))
  (hs:∀x,QR b X.env x=R6 x:=by intro _;rfl):PE X (.SetComp d (⟨a,b,f,0⟩::rest) scope pos) (kZ (λD=>l8 X.prog X.w D []) vars caps p λD J=>cY J g tt (o D)):=by
 intro i s y H Q I h;refine SM (use:=Po) rfl hs (S.clo I.ok) S.kind S.loc (QN (t i s y H _ I h) (λv U B=>QN B (λF W L=>?_) λ_ _ x=>x) λ_ _ x=>x);obtain⟨it,k,Y,J,Z,e,N,T,l,f2,q⟩:=L;subst e;refine gU (c:= .S d) KA (RR:=λacc C=>Yc (Qk X.prog X.w) X.A X.xe Po _ acc C) r S u N T l f2 q λD C s' O m P ns R q'=>?_;exact⟨m,ns,λh' n=>⟨.ref D,O,P.letgo R n,rfl,q'⟩⟩
def vR(P:Qu)(w:QH)(K:P6):List V->Hp->VK->Prop:=λxs H Q=>∃a ys,xs=[.ref a]/\H a=My (l8 P w a ys)/\(∀x∈ys,SqT K H x.2 (x.1.map V.int)/\1<=x.1.length)/\ys.length<64/\
 ∀(l:PD) (b:List (List Int×PD)),H l=Po->b.Perm ys->Up (b.map (·.1))->Q (.ref l) (upd H l (.lst (b.map λz=>V.ref z.2)))
theorem vn(e:X.calm=Pt):db X (.builtin "sorted") (vR X.prog X.w X.K):=by
 intro c s m H xs us Q I r h;obtain⟨a,ys,rfl,ha,d,hn,q⟩:=h;obtain⟨u,rfl,rfl⟩:=kh r;have S:qG X.prog X.w a ys s.heap:=(I.hok a _ ha).1;refine wX (I.ok.hd e) (S.to λx h=>mH I (d x h).1) (λx h=>(d x h).2) hn λl h' f g b p i j hs keep n=>?_;refine⟨.ref l,_,I.laid (t':=f) (o:= .lst (b.map λz=>V.ref z.2)) keep hs ⟨?_,b.map λk=>P7 k.2,g,?_,j⟩,rfl,q l b (I.hok.fresh hs) p i⟩
 ·rw[Pp,p.length_eq,RZ];omega
 ·exact qK b
end
end L2.Hs
namespace L2.Pu
open PySem PySem.Spec PyProof.Rows L2.Hs
def gQ(nv:Nat)(caps:List Nat)(it:FL)(tg:TgF)(tt:Dn->M Bool)(b:FL)(a:List D->Option D):FD:=λδ β=>match it δ β with
 |none=>Po
 |some (.error C,β1)=>My (.error C,β1)
 |some (.ok ds,β1)=>match cLp tg tt b ds (cSt nv caps δ) β1 with
  |some (.ok os,β2)=>(a os).map λd=>(.ok d,β2)
  |_=>Po
section
variable{K:P6}{E:St->XK}
theorem qN{R:AR}{p:PD->HO}{c:List D->Option D}{vars:List Qz}{caps:List Nat}{it:FL}{g:TG}{tg:TgF}{tt:Dn->M Bool}{P:PD->TB}{b:FL}(hg:cM K g tg)(sg:dT tg)(hb:∀D,eE K R D (P D) b)
  (r0:∀F H D,R.R F (upd H D (p D)) D []) (hp:∀os d,c os=My d->R.Z os) {T:St} {H:Hp} {Q U:VK} (h:tV K (gQ vars.length caps it tg tt b c) E T H U)
  (k:∀F B f D os d,Fr F B f->¬F.A D->R.R F B D os->c os=My d->(∀v j,To F B j f->Den K F j d v->U v j)->Q (.ref D) B):
  kZ p vars caps (iV K it E) (λD J=>cY J g (tVT K tt E0) (P D)) T H Q:=by
 obtain⟨F,δ,β,fr,W,r,f,e,h⟩:=h;unfold gQ at e;refine⟨F,δ,β,fr,W,?_⟩;split at e
 ·cases e
 ·rename_i C β1 q
  cases e;exact⟨.error C,_,q,h⟩
 ·rename_i ds β1 q
  split at e
  ·rename_i os β2 q2
   cases hd:c os with
   |none=>rw[hd]at e;cases e
   |some d=>
    rw[hd]at e;cases e;refine⟨.ok ds,β1,q,λJ I t hJ D m=>?_⟩;have i:¬F.A D:=t.fr.fresh m;have nb:∀b l,F.bg=My (b,l)->D≠b/\D≠l:=λb l z=>⟨λw=>i (w▸(fr.bgA b l z).1),λw=>i (w▸(fr.bgA b l z).2.1)⟩;have X:=t.fr.upd (p D) m;have L:Fr ⟨λa=>F.A a\/a=D,F.bg⟩ (upd I D (p D)) β1:=by
     refine⟨λa ha z=>?_,λb l z=>let ⟨x,y,w⟩:=fr.bgA b l z;⟨.inl x,.inl y,w⟩,X.fr.bag⟩
     rcases ha with ha|ha
     ·exact X.fr.occ a ha z
     ·subst ha;rw[af]at z;cases z
    have u:Tr F I ⟨λa=>F.A a\/a=D,F.bg⟩ (upd I D (p D)):=⟨λa ha hs z=>by
     rcases z with z|z
     ·exact ha z
     ·subst z;exact hs m,λa o ha z=>by rw[upd_ne (ne_of_none z m)];exact z,rfl⟩
    refine ql (R:=R) (D:=D) (as:=[]) (os:=os) hg sg (hb D) L (.inr rfl) nb (u6 (W.tr ((t.tr fr).trans u))) (r0 _ _ _) (hJ.tr u) q2 (hp os d hd) λσ1 j N vk3 O=>?_;have Y:To F I j f:=by
     refine⟨λa o z n=>N.kp a o (by rw[upd_ne (ne_of_none z m)];exact z) (ne_of_none z m) n,λa ha z=>N.fr.occ a (RI ha) z,fr.bgA,N.fr.bag⟩
    exact k F j f D os d Y.fr i (R.tr (F:=⟨λa=>F.A a\/a=D,F.bg⟩) O (λ_ z=>z) ⟨λa ha _ z=>ha (RI z),λa o _ z=>z,rfl⟩) hd λv H3 t4 hv=>h v H3 ((t.trans Y).trans t4) hv
  ·cases e
noncomputable abbrev tpI(k:List Int):D:= .tup (k.map .int)
theorem qz{k:List Int}(h:Den K F H (tpI k) v):∃b,v= .ref b/\SqT K H b (k.map V.int):=by
 obtain⟨a,xs,rfl,sq,dl⟩:=Den.sqT h;cases DenL.ints k dl;exact⟨a,rfl,sq⟩
theorem gl(h:tpI k=tpI l):k=l:=by
 injection h with h
 exact Wb (λa b z=>by injection z)|>.mp h
theorem lJ{α:Type} [BEq α] [LawfulBEq α]:∀{l m:List α},l.Nodup->(∀x∈l,x∈m)->l.length<=m.length
 |[],_,_,_=>Q5 _
 |a::l,m,nd,h=>by
  obtain⟨c,d⟩:=QC.mp nd;have:=lJ (m:=m.erase a) d λx b=>(List.mem_erase_of_ne (λ(z:x=a)=>c (z▸b))).mpr (h x (Ps a b));rw[List.length_erase_of_mem (h a PF)]at this;have:=List.length_pos_of_mem (h a PF);rw[Qd];omega
noncomputable def RS(P:Qu)(w:QH)(K:P6):AR where
 R:=λF H D as=>∃xs,H D=My (l8 P w D xs)/\(xs.map (·.1)).Nodup/\(∀x∈xs,Den K F H (tpI x.1) (.ref x.2)/\tpI x.1∈as)/\∀d∈as,∃k∈xs.map (·.1),d=tpI k
 Z:=λl=>∃ks:LI,ks.length<63/\∀d∈l,∃k∈ks,d=tpI k
 tr:=λh k t=>by
  obtain⟨xs,a,b,c,f⟩:=h;exact⟨xs,k _ a,b,λx e=>⟨Den.tr t _ _ (c x e).1,(c x e).2⟩,f⟩
 zp:=λh=>by
  obtain⟨ks,a,b⟩:=h;exact⟨ks,a,λd hd=>b d (Sz _ hd)⟩
theorem DN{D:PD}:eE K (RS P w K) D (AV P w K D (tV K f E0)) (cEm f):=λF H δ β u R as os Q fr T A J U e W k=>by
 obtain⟨xs,X,nd,j,ha⟩:=U;obtain⟨d,β1,Y,Z⟩:=M.bind_inv e;cases Z;refine⟨F,δ,β,fr,J,E0.run Y λv B t L=>?_⟩;have C:=t.kp D _ X A;obtain⟨ks,z1,N⟩:=W;obtain⟨r,hk',rfl⟩:=N d (QE _ PF);obtain⟨b,rfl,sq⟩:=qz L;have c:∀x∈xs,Den K F B (tpI x.1) (.ref x.2):=λx h=>Den.tr (t.tr fr) _ _ (j x h).1;have g:xs.length<63:=by
  have:=lJ (m:=ks) nd λx I=>by
   obtain⟨y,hy,rfl⟩:=P8.mp I;obtain⟨l,hl,e⟩:=N _ (Sz _ (j y hy).2);rw[gl e];exact hl
  rw[Pp]at this;omega
 refine⟨xs,r,b,C,rfl,sq,λx h=>?_,g,λi c1 c2=>?_⟩
 ·obtain⟨b',e,q⟩:=qz (c x h)
  cases e;exact q
 have O:ToD F D B (upd B D (l8 P w D i)) u:=by
  refine⟨λa o h n _=>by rw[upd_ne n];exact h,λa h q=>?_,fr.bgA,λb l q=>?_⟩
  ·by_cases z:a=D
   ·subst z;rw[af]at q;cases q
   ·rw[upd_ne z]at q;exact t.fr.occ a h q
  ·rw[upd_ne (A b l q).1.symm,upd_ne (A b l q).2.symm]
   exact t.fr.bag b l q
 have tt:=O.tr t.fr T;refine k R _ ((t.toD D).trans O) (J.tr ((t.tr fr).trans tt)) ⟨i,af,?_⟩;by_cases hm:r∈xs.map (·.1)
 ·cases c1 hm
  refine⟨nd,λx h=>⟨Den.tr tt _ _ (c x h),Sz _ (j x h).2⟩,λd hd=>?_⟩;rcases Rk.mp hd with hd|hd
  ·exact ha d hd
  ·exact⟨r,hm,Qt.mp hd⟩
 ·have p:=c2 hm
  refine⟨(p.map (·.1)).nodup_iff.mpr (QC.mpr ⟨hm,nd⟩),λx h=>?_,λd hd=>?_⟩
  ·rcases PZ.mp (p.mem_iff.mp h)with rfl|h
   ·exact⟨Den.tr tt _ _ L,QE _ PF⟩
   ·exact⟨Den.tr tt _ _ (c x h),Sz _ (j x h).2⟩
  ·rcases Rk.mp hd with hd|hd
   ·obtain⟨k2,h2,e⟩:=ha d hd
    exact⟨k2,(p.map (·.1)).mem_iff.mpr (Ps _ h2),e⟩
   ·exact⟨r,(p.map (·.1)).mem_iff.mpr PF,Qt.mp hd⟩
def Srt(ks:LI)(os:List D):Prop:=Up ks/\ks.length<63/\(∀k∈ks,1<=k.length/\tpI k∈os)/\∀d∈os,∃k∈ks,d=tpI k
theorem Srt.eq{os:List D}(a:Srt ks os)(b:Srt ls os):ks=ls:=wO a.1 b.1 λx=>⟨λh=>by
 obtain⟨l,c,e⟩:=b.2.2.2 _ (a.2.2.1 x h).2;rw[gl e];exact c,λh=>by
 obtain⟨l,c,e⟩:=a.2.2.2 _ (b.2.2.1 x h).2;rw[gl e];exact c⟩
open Classical in
def ki(os:List D):Option D:=if h:∃ks,Srt ks os then My (.lst (h.choose.map tpI))else Po
theorem CA{ks:LI}{os:List D}(h:Srt ks os):ki os=My (.lst (ks.map tpI)):=by
 have q:∃ks,Srt ks os:=⟨ks,h⟩;unfold ki;rw[dif_pos q,q.choose_spec.eq h]
theorem qR{os:List D}(h:ki os=My d):∃ks,Srt ks os/\d= .lst (ks.map tpI):=by
 unfold ki at h;split at h
 ·rename_i q
  cases h;exact⟨_,q.choose_spec,rfl⟩
 ·cases h
theorem rA:∀{a:List (List Int×PD)},(∀z∈a,Den K F H (tpI z.1) (.ref z.2))->DenL K F H ((a.map (·.1)).map tpI) (a.map λz=>V.ref z.2)
 |[],_=>DenL.nil
 |z::a,h=>DenL.cons (h z PF) (rA λx b=>h x (Ps z b))
end
section
variable{X:Cx}{E:St->XK}{elt target iter:Expr}{ifs:List Expr}{rest:List RA}{scope:Scope}{pos p pos':Uh}{Nc vars:List Qz}{caps:List Nat}{g:TG}{tb:PD->TB}
theorem BP(i:Gl X "sorted")(hm:X.mg "sorted"=Po)(o:X.calm=Pt)(S:CmpScope X scope Nc vars caps)(r:PI X target iter (iV X.K it E))
  (t:∀(cl:List (Qz×PD)) (C:PD) (j:List PD) (s:PM) (H:Hp),PG (aE X Nc scope cl C j s H) target g/\dG (aE X Nc scope cl C j s H) ifs (tVT X.K tt E0)/\∀D,PB (aE X Nc scope cl C j s H) (.S elt) (⟨target,iter,ifs,0⟩::rest) scope pos 0 D (tb D))
  (u:cM X.K g tg) (A:dT tg) (B:∀D,eE X.K (RS X.prog X.w X.K) D (tb D) b) (hs:∀x,QR iter X.env x=R6 x:=by intro _;rfl):
  PE X (.Call (.Name "sorted" p) [.SetComp elt (⟨target,iter,ifs,0⟩::rest) scope pos] [] pos') (tV X.K (gQ vars.length caps it tg tt b ki) E):=
 (kx (vn o) i hm (by kernel_rfl) (aW (Kk o S r t hs) cW)).imp λY H Q h=>by
  refine qN (Q:=λv I=>vR X.prog X.w X.K [v] I Q) u A B (λF H D=>⟨[],af,.nil,λx a=>Ql a (by simp),λd hd=>Ql hd (by simp)⟩) (λos d e=>?_) h λF Z J D os d fr L N e q=>?_
  ·obtain⟨ks,s,_⟩:=qR e
   exact⟨ks,s.2.1,s.2.2.2⟩
  ·obtain⟨ks,s,rfl⟩:=qR e
   obtain⟨xs,O,nd,a,ha⟩:=N;have k:∀x∈xs,x.1∈ks:=λx h=>by
    obtain⟨l,f,e⟩:=s.2.2.2 _ (a x h).2;rw[gl e];exact f
   have hn:xs.length<64:=by
    have:=lJ (m:=ks) nd λy c=>by
     obtain⟨x,h,rfl⟩:=P8.mp c;exact k x h
    rw[Pp]at this;have:=s.2.1;omega
   refine⟨D,xs,rfl,O,λx h=>?_,hn,λl P f n R=>?_⟩
   ·obtain⟨b',e,q⟩:=qz (a x h).1
    cases e;exact⟨q,(s.2.2.1 _ (k x h)).1⟩
   ·have T:ks=P.map (·.1):=wO s.1 R λy=>by
     refine⟨λc=>?_,λc=>?_⟩
     ·obtain⟨k2,U,e⟩:=ha _ (s.2.2.1 y c).2
      rw[gl e];exact(n.map (·.1)).mem_iff.mpr U
     ·obtain⟨x,h,rfl⟩:=P8.mp ((n.map (·.1)).mem_iff.mp c)
      exact k x h
    rw[T]at q;exact q _ _ (fr.upd _ f) (Den.newL fr f (rA λz W=>(a z (n.mem_iff.mp W)).1))
end
end L2.Pu
namespace L2.Hs
open PySem PySem.Spec PyProof.Rows
section
variable{prog:Qu}{w:QH}{A:QU}{E:PH->PM->Prop}{s:PM}
def IsP(prog:Qu)(w:QH)(h:Q0)(k:KyD)(a:PD):Prop:=∃o n t b,h.get? a=My o/\o.cls= .type "tuple"/\o.data= .seq #[.int k.1 t,.ref b] n/\(IKd prog w).is h k.2 b
theorem IsP.ty(x:IsP prog w s.heap k a):s.TypeIs (.ref a) "tuple":=let ⟨o,_,_,_,ho,hc,_⟩:=x;⟨o,ho,hc⟩
theorem IsP.inj(f:IsP prog w h x a)(g:IsP prog w h y a):x=y:=by
 obtain⟨o,n,t,b,i,_,hd,j⟩:=f;obtain⟨k,p,t',q,d,_,c,e⟩:=g;obtain rfl:o=k:=Qo (i.symm.trans d);rw[hd]at c;simp only[Data.seq.injEq,Array.mk.injEq,Tf,TW.injEq,P7.injEq]at c;obtain⟨⟨⟨l,_⟩,m,_⟩,_⟩:=c;subst m;exact T9 l ((IKd prog w).inj j e)
theorem MG(k:List Int):hsh prog w k=hI k:=by unfold hsh hI;show tupleKeyHash _ _=_;unfold tupleKeyHash;rfl
theorem MH{k:KyD}(g:A.units+1<Vh)(f:IsP prog w s.heap k a)(h:Q (hB Pt k) {s with toks:=s.toks+(k.2.length+3)}):PY (Qk prog w) A (pyHash (.ref a)) Q E s:=by
 have c:=f.ty;obtain⟨o,n,t,b,i,_,hd,j⟩:=f;unfold pyHash
 first|unfold pyHashByItsType|skip
 refine Pn (wpAny_cRoomFor_or (.inr (by omega)) ?_);refine Pn (SC c F.slot_tuple_hash.lookup ?_);show PY _ _ (if(My (Value.builtin "tuple.__hash__")==My QZ)=Pt then _ else _) Q E s;rw[PL (by rw[beq_builtin_none];exact PQ)];refine Pn (SC c F.slot_tuple_hash.lookup ?_);show PY _ _ (callSpecialIfBoundUnlessNone? (.ref a) "__hash__" _>>=_) Q E s;refine Pn (wpAny_callSpecialIfBoundUnlessNone?_slot c F.slot_tuple_hash (QO F.slot_tuple_hash c F.entry_tuple_hash ?_ (F.args_tuple_hash_1 _)));show PY _ _ (Builtin.Tuple.tupleItemsOf (.ref a)>>=_) _ _ s;refine Pn (WM i hd ?_);refine Pn ?_;rw[←TH];simp only[SY,Ta];refine Pn (Pn (wpAny_pyHash_int ?_));refine Pq (Pn (Pn ((IKd prog w).pyHash g j ?_)));refine Pq (Pq ?_);have h':Q (hB Pt k) {s with toks:=s.toks+1+(k.2.length+1)+1}:=by
  have e:s.toks+1+(k.2.length+1)+1=s.toks+(k.2.length+3):=by omega
  rw[e];exact h
 refine wpAny_ret_mkInt ?_;generalize l:Uk _=z;have m:hB Pt k=reduceHash z:=by rw[←l,show(IKd prog w).hash k.2=hI k.2 from MG k.2];rfl
 rw[m]at h';show PY _ _ (if(decide (-(2:Int)^63<=z)&&decide (z<2^63))=Pt then _ else _) Q E _;unfold reduceHash at h';by_cases d:(decide (-(2:Int)^63<=z)&&decide (z<2^63))=Pt
 ·rw[PP d]
  rw[PP d]at h';exact Pq h'
 ·rw[PL d]
  rw[PL d]at h';exact Pn (TC (Pq h'))
theorem eq_p(q:A.units+1<Vh)(d:IsP prog w s.heap x a)(f:IsP prog w s.heap y b)(h:Q (decide (x=y)) s):PY (Qk prog w) A (eqBool (.ref a) (.ref b)) Q E s:=by
 unfold eqBool
 try with_reducible refine Rh ?_
 show PY _ _ (if(P7 a==P7 b)=Pt then _ else _) Q E s;by_cases c:(P7 a==P7 b)=Pt
 ·rw[PP c]
  have e:a=b:=by have:=eq_of_beq c;injection this
  subst e;obtain rfl:=d.inj f;exact Pn (TC (Pq (by simpa using h)))
 ·rw[PL c]
  refine Pn (wpAny_richCompare_same_room (op:= .Eq) d.ty f.ty F.slot_tuple_eq
   (QO F.slot_tuple_eq d.ty F.entry_tuple_eq ?_ (F.args_tuple_eq_2 _ _)) (by omega))
  have j:=f.ty;obtain⟨r,t,u,v,k,_,l,m⟩:=d;obtain⟨B,C,H,I,n,_,o,p⟩:=f;show PY _ _ (Vj (.ref b) (.type "tuple")>>=_) _ _ s;refine Pn (Sm j V8 ?_);simp only[Sd,Qh,Q1];refine Pn (WM k l ?_);refine Pn (WM n o ?_);refine Pn ?_;simp only[RX,Wr,SY,Ta];refine Pn (Pn ((VW prog w).eqBool (a:=x.1) (b:=y.1) (by simp[VW,X7]) (by simp[VW,X7]) ?_));by_cases g:x.1=y.1
  ·rw[P9 g]
   refine Pq (Pn (Pn ((IKd prog w).eqBool q m p ?_)));by_cases i:x.2=y.2
   ·rw[P9 i]
    rw[P9 (T9 g i)]at h;exact Pq (Pq (Pq ⟨_,rfl,(λe=>nomatch e),Rf h⟩))
   ·rw[QD i]
    rw[QD (λe=>i (QV _ e))]at h;exact Pn (Pq (Pq (Pq (Pq ⟨_,rfl,(λe=>nomatch e),Rf h⟩))))
  ·rw[QD g]
   rw[QD (λe=>g (QV _ e))]at h;exact Pn (Pq (Pq (Pq (Pq ⟨_,rfl,(λe=>nomatch e),Rf h⟩))))
theorem Ke(f:(IKd prog w).is s.heap k a)(h:Q Pt s):PY (Qk prog w) A (Y8 (m+1) (.ref a)) Q E s:=by
 have g:=XG f;obtain⟨o,c,n,i,_,hd,j⟩:=f;unfold Y8;refine Pn (SC g F.slot_tuple_eq.lookup ?_);show PY _ _ (Vj (.ref a) (.type "tuple")>>=_) _ _ s;refine Pn (Sm g V8 ?_);simp only[Sd,Qh,Q1];refine Pn (RN i hd ?_);refine Pn ?_;show PY _ _ (forIn c _ _) _ _ s;rw[←TH];refine VL _ (λrest r s'=>r.1=Po/\s'=s/\∀v∈rest,carriedByValue v=Pt) _ ?_ ?_ _ _ ⟨rfl,rfl,j.byValue⟩
 ·rintro v rest r s' ⟨d,rfl,b⟩
  rw[eqIsQuiet_byValue _ (b v PF)];refine Pn (Pq ?_);simp only[Sd,Qh,Q1];exact Pq ⟨rfl,rfl,λu e=>b u (Ps _ e)⟩
 ·rintro⟨r1,l⟩ s' ⟨d,rfl,_⟩
  simp only at d;subst d;exact Pq h
theorem Kf(c:IsP prog w s.heap k a)(h:Q Pt s):PY (Qk prog w) A (Y8 8 (.ref a)) Q E s:=by
 have d:=c.ty;obtain⟨o,n,t,b,e,_,hd,f⟩:=c;unfold Y8;refine Pn (SC d F.slot_tuple_eq.lookup ?_);show PY _ _ (Vj (.ref a) (.type "tuple")>>=_) _ _ s;refine Pn (Sm d V8 ?_);simp only[Sd,Qh,Q1];refine Pn (RN e hd ?_);refine Pn ?_;show PY _ _ (forIn #[TW k.1 t,P7 b] _ _) _ _ s;rw[←TH];simp only[SY,Ta];rw[eqIsQuiet_byValue _ (v:= .int k.1 t) rfl];exact Pn (Pn (Pq (Pq (Pn (Pn (Ke (m:=6) f (Pq (Pq (Pq h)))))))))
def PKd(prog:Qu)(w:QH):HeapKind prog w KyD where
 is:=IsP prog w
 hash:=hB Pt
 draws:=λk=>k.2.length+3
 room:=λA=>A.units+1<Vh
 inj:=λd e=>d.inj e
 keeps:=λx i hd hs=>by
  obtain⟨j,n,t,b,c,l,a,m⟩:=x;refine⟨j,n,t,b,(hs.2 _ ?_).trans c,l,a,(IKd prog w).keeps m i hd hs⟩;rintro rfl;obtain rfl:=Qo (c.symm.trans i);rw[hd]at a;exact nomatch a
 pyHash:=λf g h=>MH f g h
 eqBool:=λf d e h=>eq_p f d e h
 quiet:=λg h=>Kf g h
end
section
variable{prog:Qu}{w:QH}
def FKd(prog:Qu)(w:QH):HeapKind prog w KyD where
 is:=λh k a=>k.1=0/\(IKd prog w).is h k.2 a
 hash:=hB Pz
 draws:=λk=>k.2.length+1
 room:=λA=>A.units+1<Vh
 inj:=λc d=>T9 (c.1.trans d.1.symm) ((IKd prog w).inj c.2 d.2)
 keeps:=λx i hd hs=>⟨x.1,(IKd prog w).keeps x.2 i hd hs⟩
 pyHash:=λf g h=>(IKd prog w).pyHash (Nat.lt_of_succ_lt f) g.2 h
 eqBool:=λ{A E s x y a b Q} f c d h=>(IKd prog w).eqBool (Nat.lt_of_succ_lt f) c.2 d.2 (by
  have e:decide (x.2=y.2)=decide (x=y):=by
   by_cases q:x.2=y.2
   ·rw[P9 q,P9 (T9 (c.1.trans d.1.symm) q)]
   ·rw[QD q,QD (λz=>q (QV _ z))]
  rw[e];exact h)
 quiet:=λg h=>(IKd prog w).quiet g.2 h
def KB(prog:Qu)(w:QH):Bool->HeapKind prog w KyD
 |true=>PKd prog w
 |false=>FKd prog w
theorem we{b:Bool}:(KB prog w b).hash=hB b:=by cases b<;>rfl
theorem mF{b:Bool}{A:QU}(h:A.units+1<Vh):(KB prog w b).room A:=by cases b<;>exact h
def KyS(K:P6)(H:Hp):Bool->KyD->PD->Prop
 |true,k,c=>∃e,SqT K H c [.int k.1,.ref e]/\SqT K H e (k.2.map V.int)
 |false,k,c=>k.1=0/\SqT K H c (k.2.map V.int)
abbrev XY(x:KyD×PD×V)(y:KyD×PD×PH):Prop:=x.1=y.1/\x.2.1=y.2.1/\aK x.2.2 y.2.2
theorem pV:∀{xs:List (KyD×PD×V)} {ys:List (KyD×PD×PH)},WH XY xs ys->xs.map (·.1)=ys.map (·.1)
 |_,_,.nil=>rfl
 |_,_,.cons h t=>by rw[P3,P3,h.1,pV t]
theorem yk:∀{xs:List (KyD×PD×V)} {ys:List (KyD×PD×PH)},WH XY xs ys->∀y∈ys,∃x∈xs,XY x y
 |_,_,.nil,y,h=>by cases h
 |_,_,.cons (a:=a) h t,y,hy=>by
  rcases PZ.mp hy with rfl|hy
  ·exact⟨a,PF,h⟩
  ·obtain⟨x,b,e⟩:=yk t y hy
   exact⟨x,Ps _ b,e⟩
noncomputable def lkV(xs:List (KyD×PD×V))(k:KyD):Option V:=(xs.find? λx=>decide (x.1=k)).map (·.2.2)
theorem md:∀{xs:List (KyD×PD×V)} {ys:List (KyD×PD×PH)},WH XY xs ys->h9 (lkV xs k) ((XE ys k).map (·.2))
 |_,_,.nil=>by simp[lkV,XE,h9]
 |_,_,.cons (a:=a) (b:=b) h t=>by
  have ih:=md (k:=k) t;unfold lkV XE at ih⊢;rw[SX,SX,←h.1];by_cases q:a.1=k
  ·rw[P9 q];exact h.2.2
  ·rw[QD q];exact ih
theorem vo(h:XY x y):∀{xs:List (KyD×PD×V)} {ys:List (KyD×PD×PH)},WH XY xs ys->WH XY (xs++[x]) (ys++[y])
 |_,_,.nil=> .cons h .nil
 |_,_,.cons h' t=> .cons h' (vo h t)
end
section
variable{X:Cx}{pins:List (PD×Qn)}{σ:St}{H:Hp}{s:PM}
theorem ph{b:Bool}(I:Inv X pins σ H s)(h:KyS X.K H b k c):(KB X.prog X.w b).is s.heap k c:=by
 cases b with
 |true=>
  obtain⟨e,a,d⟩:=h;obtain⟨its,f,⟨o,g,i,n,hd⟩,_⟩:=I.tuple a;obtain⟨j,l,rfl,⟨t,rfl⟩,rfl⟩:=sk f;exact⟨o,n,t,e,g,i,hd,mH I d⟩
 |false=>exact⟨h.1,mH I h.2⟩
theorem big{pins:List (PD×Qn)}{σ:St}{H:Hp}{s:PM}(I:Inv X pins σ H s):WK<s.heap.objs.size:=UL (by decide) (show RY<s.heap.objs.size from(I.mod.glob.keeps I.bk).lt)
theorem lX{b:Bool}(I:Inv X pins σ H s)(d:H a=My (dy a b ep xs))(e:∀x∈xs,KyS X.K H b x.1 x.2.1):∃ys,s.heap.DictOfH (KB X.prog X.w b) a ys/\WH XY xs ys/\ys.length<=P0/\(a==WK)=Pz:=by
 obtain⟨o,es,ys,f,g,h,i,j,k,l,c⟩:yh a b ep xs s.heap:=(I.hok a _ d).1;refine⟨ys,⟨o,es,ep,f,g,h,?_,λy m=>?_,j⟩,c,l,k⟩
 ·rw[i];unfold entryOfKey;rw[we]
 ·obtain⟨x,n,p,q,_⟩:=yk c y m
  rw[←p,←q];exact ph I (e x n)
def LR(K:P6):R2:=λx y H Q=>∃a b ep xs k c v,x= .ref a/\y= .ref c/\H a=My (dy a b ep xs)/\(∀x∈xs,KyS K H b x.1 x.2.1)/\KyS K H b k c/\lkV xs k=My v/\Q v H
theorem zS(l:X.A.units+2<Vh):IxR X (LR X.K):=by
 intro g i pins s σ H x y v u Q I m n h hs;obtain⟨a,b,ep,xs,k,c,o,rfl,rfl,t,w,B,C,q⟩:=h;cases m;cases n;obtain⟨ys,d,p,_,_⟩:=lX I t w;have f:=md (k:=k) p;rw[C]at f;cases e:XE ys k with
 |none=>rw[e]at f;exact f.elim
 |some r=>
  rw[e]at f;exact VX (x:=r.2) d.typeIs PySem.F.slot_dict_getitem.lookup (wpAny_getItem_heap (Q:=λj s'=>j=r.2/\EP X pins σ Q j s') (mF l) (ph I B) d e ⟨rfl,o,H,I.tok _,f,q⟩) hs
theorem uv{b:Bool}:Mks X newDict λD=>dy D b 0 []:=λpins s σ H E Q I h=>Re (h _ (I.laid (t':=s.toks) (λ_ _ q=>Pr _ q) (PN _) (wx ⟨_,#[],[],P4 _ rfl,⟨rfl,rfl,rfl⟩,rfl,rfl,.nil,beq_eq_false_iff_ne.mpr (Ne.symm (QK (big I))),Q5 _,.nil⟩)) λb o e=>Pr _ e)
def AW(K:P6)(b:Bool)(D:PD)(e f:TE):TB:=λσ H Q=>e σ H λx g=>f σ g λy a=>∃ep xs k c,x= .ref c/\a D=My (dy D b ep xs)/\(∀x∈xs,KyS K a b x.1 x.2.1)/\KyS K a b k c/\k∉xs.map (·.1)/\xs.length<P0/\∀d,Q σ (upd a D (dy D b d (xs++[(k,c,y)])))
theorem kz{D:PD}{b:Bool}(J:X.A.units+1<Vh)(L:gens[d+1]?=Po)(N:PE X ke tk)(O:PE X ve tv)(a:X.xe=λ_ _=>False):PB X (.D ke ve) gens scope pos d D (AW X.K b D tk tv):=by
 intro pins s σ H Q I h k Q' E' P;unfold gW;rw[L];show PY _ _ (emC (.D ke ve) (.ref D) X.env>>=λ_=>k) _ _ _;unfold emC;have t:=N pins s σ H _ I h;rw[a]at t;refine Pn (Pn (QN t (λu R T=>?_) λ_ _ f=>f.elim));obtain⟨v,U,W,r,q1⟩:=T;have w:=O pins R σ U _ W q1;rw[a]at w;refine Pn (Rh (QN w (λu2 s2 Y=>?_) λ_ _ f=>f.elim));obtain⟨v2,H2,i,Z,ep0,xs,j,c,rfl,B,hx,hc,hn,hl,q⟩:=Y;cases r;obtain⟨ys,dd,p,hz,l⟩:=lX i B hx;have C:=pV p;have e0:XE ys j=Po:=by
  cases e:XE ys j with
  |none=>rfl
  |some r=>
   exfalso
   unfold XE at e;cases m:ys.find? (λx=>decide (x.1=j))with
   |none=>rw[m]at e;cases e
   |some y=>
    have:=List.find?_some m;exact hn (by rw[C];exact P8.mpr ⟨y,List.mem_of_find?_eq_some m,R7 this⟩)
 refine Pn (R8 (Rh (wpAny_dictSet_heap (mF J) (ph i hc) dd (λh' d' sb=>?_) hz)));rw[storedH_new e0]at d';obtain⟨o,es,ep,F,g2,g3,g4,g5,g6⟩:=d';have g:ys.length=xs.length:=by rw[←Pp (f:=(·.1)),←C,Pp]
 refine P _ σ _ (i.write (by rw[B];trivial) (.inl rfl) (λb u n e=>(sb.2 b n).trans e) ⟨o,F⟩ (wx ⟨o,es,_,F,g2,g3,?_,g6,l,?_,vo ⟨rfl,rfl,Z⟩ p⟩)) (q ep)
 ·rw[g4];unfold entryOfKey;rw[we]
 ·rw[Qf,g,Q4];omega
theorem CU{b:Bool}{k l a d:Expr}{f:List Expr}{rest:List RA}{scope:Scope}{pos:Uh}{i vars:List Qz}{caps:List Nat}{g:TG}{tt:TT}{p:PD->TB}{r:TI}(t:X.calm=Pt)(S:CmpScope X scope i vars caps)(u:PI X a d r)
  (y:∀(cl:List (Qz×PD)) (C:PD) (j:List PD) (s:PM) (H:Hp),PG (aE X i scope cl C j s H) a g/\dG (aE X i scope cl C j s H) f tt/\∀D,PB (aE X i scope cl C j s H) (.D k l) (⟨a,d,f,0⟩::rest) scope pos 0 D (p D))
  (hs:∀x,QR d X.env x=R6 x:=by intro _;rfl):PE X (.DictComp k l (⟨a,d,f,0⟩::rest) scope pos) (kZ (λD=>dy D b 0 []) vars caps r λD J=>cY J g tt (p D)):=by
 intro pins s σ H Q I h;refine SM (use:=Po) rfl hs (S.clo I.ok) S.kind S.loc (QN (u pins s σ H _ I h) (λv U B=>QN B (λF W L=>?_) λ_ _ x=>x) λ_ _ x=>x);obtain⟨it,j,Y,J,Z,e,N,T,n,f2,q⟩:=L;subst e;refine gU (c:= .D k l) uv (RR:=λacc C=>Yc (Qk X.prog X.w) X.A X.xe Po _ acc C) t S y N T n f2 q λD C s' O m P ns R q'=>?_;exact⟨m,ns,λh' o=>⟨.ref D,O,P.letgo R o,rfl,q'⟩⟩
end
end L2.Hs
namespace L2.Pu
open PySem PySem.Spec PyProof.Rows L2.Hs
def dK:Bool->KyD->D
 |true,k=> .tup [.int k.1,tpI k.2]
 |false,k=>tpI k.2
def KyZ(b:Bool)(k:KyD):Prop:=b=Pz->k.1=0
theorem MV{b:Bool}(a:KyZ b k)(c:KyZ b l)(h:dK b k=dK b l):k=l:=by
 cases b with
 |true=>
  simp only[dK,D.tup.injEq,Tf,D.int.injEq,and_true]at h;exact T9 h.1 (gl (QV D.tup h.2))
 |false=>exact T9 ((a rfl).trans (c rfl).symm) (gl h)
section
variable{K:P6}{F:Fx}{H:Hp}{E:St->XK}
theorem uU(h:Den K F H (.tup ds) v):∃a xs,v= .ref a/\TQ K F H a xs/\DenL K F H ds xs:=by
 unfold Den at h;exact h
theorem oq(h:TQ K F H a xs)(hd:DenL K F H ds xs):Den K F H (.tup ds) (.ref a):=by
 unfold Den;exact⟨a,xs,rfl,h,hd⟩
theorem TQ.sq(h:TQ K F H c xs):SqT K H c xs:=h.imp (·.2) id
theorem ia.s{b:Bool}(h:ia K F H b k c):KyS K H b k c:=by
 cases b with
 |true=>
  obtain⟨e,a,d⟩:=h;exact⟨e,a.sq,d.sq⟩
 |false=>exact⟨h.1,h.2.sq⟩
theorem ia.z{b:Bool}(h:ia K F H b k c):KyZ b k:=λe=>by subst e;exact h.1
theorem sJ{b:Bool}(f:KyZ b k)(h:Den K F H (dK b k) v):∃c,v= .ref c/\ia K F H b k c:=by
 cases b with
 |true=>
  obtain⟨a,xs,rfl,q,dl⟩:=uU h;obtain⟨g,i,rfl,d1,d2⟩:=DenL.two dl;cases d1.int;obtain⟨e,ys,rfl,q2,d⟩:=uU d2;cases DenL.ints k.2 d;exact⟨a,rfl,e,q,q2⟩
 |false=>
  obtain⟨a,xs,rfl,q,dl⟩:=uU h;cases DenL.ints k.2 dl;exact⟨a,rfl,f rfl,q⟩
theorem OF{b:Bool}(h:ia K F H b k c):Den K F H (dK b k) (.ref c):=by
 cases b with
 |true=>
  obtain⟨e,a,d⟩:=h;exact oq a (DenL.cons rfl (DenL.cons (oq d (DenL.ofInts k.2)) DenL.nil))
 |false=>exact oq h.2 (DenL.ofInts k.2)
abbrev pKD(b:Bool)(p:KyD×D):D:= .tup [dK b p.1,p.2]
def Dk(b:Bool)(kvs:List (KyD×D))(os:List D):Prop:=os=kvs.map (pKD b)/\(kvs.map (·.1)).Nodup/\kvs.length<=P0/\∀p∈kvs,KyZ b p.1
theorem Ks{b:Bool}{p q:KyD×D}(a:KyZ b p.1)(c:KyZ b q.1)(h:pKD b p=pKD b q):p=q:=by
 simp only[pKD,D.tup.injEq,Tf,and_true]at h;exact T9 (MV a c h.1) h.2
theorem kA{b:Bool}:∀{l m:List (KyD×D)},(∀p∈l,KyZ b p.1)->(∀p∈m,KyZ b p.1)->l.map (pKD b)=m.map (pKD b)->l=m
 |[],[],_,_,_=>rfl
 |[],_::_,_,_,h=>by cases h
 |_::_,[],_,_,h=>by cases h
 |p::l,q::m,hl,hm,h=>by
  rw[P3,P3,Tf]at h;rw[Ks (hl p PF) (hm q PF) h.1,kA (λx a=>hl x (Ps _ a)) (λx a=>hm x (Ps _ a)) h.2]
theorem Dk.eq{b:Bool}{os:List D}(x:Dk b l os)(y:Dk b m os):l=m:=kA x.2.2.2 y.2.2.2 (x.1.symm.trans y.1)
open Classical in
def kI(b:Bool)(os:List D):Option D:=if h:∃kvs,Dk b kvs os then My (.dct b (h.choose.map (·.1)) (h.choose.map (·.2)))else Po
theorem wy{b:Bool}{kvs:List (KyD×D)}{os:List D}(h:Dk b kvs os):kI b os=My (.dct b (kvs.map (·.1)) (kvs.map (·.2))):=by
 have q:∃kvs,Dk b kvs os:=⟨kvs,h⟩;unfold kI;rw[dif_pos q,q.choose_spec.eq h]
theorem uW{b:Bool}{os:List D}(h:kI b os=My d):∃kvs,Dk b kvs os/\d= .dct b (kvs.map (·.1)) (kvs.map (·.2)):=by
 unfold kI at h;split at h
 ·rename_i q
  cases h;exact⟨_,q.choose_spec,rfl⟩
 ·cases h
noncomputable def RD(K:P6)(b:Bool):AR where
 R:=λF H D as=>∃ep,∃a:List ((KyD×Pu.D)×PD×V),as=a.map (λz=>pKD b z.1)/\H D=My (dy D b ep (a.map λz=>(z.1.1,z.2)))/\∀z∈a,ia K F H b z.1.1 z.2.1/\Den K F H z.1.2 z.2.2
 Z:=λl=>∃kvs more,Dk b kvs (l++more)
 tr:=λh k t=>by
  obtain⟨ep,a,e,f,c⟩:=h;exact⟨ep,a,e,k _ f,λz d=>⟨(c z d).1.tr t,Den.tr t _ _ (c z d).2⟩⟩
 zp:=λh=>by
  obtain⟨kvs,more,h⟩:=h;exact⟨kvs,_,by rw[←Ra];exact h⟩
def EO(f g:FD):FL:=λδ=>M.bind (f δ) λk=>M.bind (g δ) λv=>M.ret [.tup [k,v]]
theorem nN{b:Bool}{D:PD}:eE K (RD K b) D (AW K b D (tV K f E0) (tV K g E0)) (EO f g):=λF H δ β C σ as os Q fr hA A I hR e hz k=>by
 obtain⟨ep,d,rfl,hD,B⟩:=hR;obtain⟨R,β1,e1,e2⟩:=M.bind_inv e;obtain⟨T,β2,e3,e4⟩:=M.bind_inv e2;cases e4;obtain⟨kvs,more,J,U,z3,W⟩:=hz;have L:∀p∈d.map (·.1),KyZ b p.1:=λp r=>by
  obtain⟨z,h,rfl⟩:=P8.mp r;exact(B z h).1.z
 have l1:d.length<kvs.length:=by
  have:=QV VQ J;simp at this;omega
 have ez:(d.map (·.1)).map (pKD b)=(kvs.take d.length).map (pKD b):=by
  rw[V5,←J,Ra,List.take_append_of_le_length (by simp),Sb (by simp),PV];rfl
 have ek:=kA L (λp r=>W p (Yq r)) ez;have N:pKD b kvs[d.length]= .tup [R,T]:=by
  have X:(kvs.map (pKD b))[d.length]?=My (.tup [R,T]):=by
   rw[←J,Ra,RT (by simp)];simp
  rw[Py,Pw l1]at X;exact Qo X
 have u:=W _ (QL l1);generalize r:kvs[d.length]=p at N u;obtain⟨j,vv⟩:=p;simp only[pKD,Pu.D.tup.injEq,Tf,and_true]at N;obtain⟨rfl,rfl⟩:=N;have w:j∉d.map (·.1.1):=λhm=>by
  have h2:kvs.take d.length++(j,vv)::kvs.drop (d.length+1)=kvs:=by
   rw[←r,←QX l1,Sj]
  rw[←h2,←ek,Qy,P3,U3]at U;refine U.2.2 j ?_ j PF rfl;rw[PV];exact hm
 refine⟨F,δ,β,fr,I,E0.run e1 λv H1 t hv=>⟨F,δ,β1,t.fr,I.tr (t.tr fr),E0.run e3 λY Z m O=>?_⟩⟩;have P:=Den.tr (m.tr t.fr) _ _ hv;obtain⟨c,rfl,kc⟩:=sJ u P;have i:=(t.tr fr).trans (m.tr t.fr);refine⟨ep,_,j,c,rfl,m.kp D _ (t.kp D _ hD A) A,λx h=>?_,kc.s,?_,?_,λy=>?_⟩
 ·obtain⟨z,h',rfl⟩:=P8.mp h
  exact((B z h').1.tr i).s
 ·rw[PV];exact w
 ·rw[Pp];omega
 have tD:ToD F D Z (upd Z D (dy D b y ((d.map λz=>(z.1.1,z.2))++[(j,c,Y)]))) C:=by
  refine⟨λa o h n _=>by rw[upd_ne n];exact h,λa h q=>?_,fr.bgA,λb l q=>?_⟩
  ·by_cases z:a=D
   ·subst z;rw[af]at q;cases q
   ·rw[upd_ne z]at q;exact m.fr.occ a h q
  ·rw[upd_ne (A b l q).1.symm,upd_ne (A b l q).2.symm]
   exact m.fr.bag b l q
 have tt:=tD.tr m.fr hA;refine k σ _ (((t.trans m).toD D).trans tD) (I.tr (i.trans tt)) ⟨y,d++[((j,vv),c,Y)],by rw[Qy];rfl,by rw[Qy];exact af,λz h=>?_⟩;rcases Rk.mp h with h|h
 ·exact⟨(B z h).1.tr (i.trans tt),Den.tr (i.trans tt) _ _ (B z h).2⟩
 ·cases Qt.mp h
  exact⟨kc.tr tt,Den.tr tt _ _ O⟩
theorem uV{F:Fx}{H:Hp}{α:Type}{f:α->D}{g:α->V}:∀{a:List α},(∀z∈a,Den K F H (f z) (g z))->DenL K F H (a.map f) (a.map g)
 |[],_=>DenL.nil
 |z::a,h=>DenL.cons (h z PF) (uV λx b=>h x (Ps z b))
end
theorem uT{K:P6}{E:St->XK}{kb:Bool}{vars:List Qz}{caps:List Nat}{g:TG}{f:PD->TB}{it:FL}{tg:TgF}{tt:Dn->M Bool}{b:FL}(j:cM K g tg)(k:dT tg)(l:∀D,eE K (RD K kb) D (f D) b){i:St}{H:Hp}{Q:VK}(h:tV K (gQ vars.length caps it tg tt b (kI kb)) E i H Q):
  kZ (λD=>dy D kb 0 []) vars caps (iV K it E) (λD J=>cY J g (tVT K tt E0) (f D)) i H Q:=by
 refine qN j k l (λF H D=>⟨0,[],rfl,af,λx a=>Ql a (by simp)⟩) (λos d e=>?_) h λF v m D os d fr c n e q=>?_
 ·obtain⟨kvs,s,_⟩:=uW e
  exact⟨kvs,[],by rw[Qx];exact s⟩
 ·obtain⟨kvs,s,rfl⟩:=uW e
  obtain⟨ep,o,rfl,r,a⟩:=n;have t:kvs=o.map (·.1):=kA s.2.2.2 (λp u=>by
   obtain⟨z,h,rfl⟩:=P8.mp u;exact(a z h).1.z) (by rw[←s.1,PV];rfl)
  refine q _ _ (To.refl fr) ?_;unfold Den;subst t;refine⟨D,ep,_,rfl,⟨c,r⟩,by simp,λx h=>?_,?_⟩
  ·obtain⟨z,h',rfl⟩:=P8.mp h
   exact(a z h').1
  ·rw[PV,PV]
   exact uV λz h=>(a z h).2
section
variable{X:Cx}{E:St->XK}{ke ve target iter:Expr}{ifs:List Expr}{rest:List RA}{scope:Scope}{pos:Uh}{Nc vars:List Qz}{caps:List Nat}{g:TG}{tb:PD->TB}
theorem JK{kb:Bool}(c:X.calm=Pt)(S:CmpScope X scope Nc vars caps)(d:PI X target iter (iV X.K it E))
  (e:∀(cl:List (Qz×PD)) (C:PD) (a:List PD) (s:PM) (H:Hp),PG (aE X Nc scope cl C a s H) target g/\dG (aE X Nc scope cl C a s H) ifs (tVT X.K tt E0)/\∀D,PB (aE X Nc scope cl C a s H) (.D ke ve) (⟨target,iter,ifs,0⟩::rest) scope pos 0 D (tb D))
  (f:cM X.K g tg) (i:dT tg) (j:∀D,eE X.K (RD X.K kb) D (tb D) b) (hs:∀x,QR iter X.env x=R6 x:=by intro _;rfl):
  PE X (.DictComp ke ve (⟨target,iter,ifs,0⟩::rest) scope pos) (tV X.K (gQ vars.length caps it tg tt b (kI kb)) E):=
 (CU (b:=kb) c S d e hs).imp λk H Q h=>uT f i j h
end
noncomputable def gY:List D->Option (List Int)
 |[]=>My []
 | .int i::r=>(gY r).map (i::·)
 |_=>Po
def hZ:Bool->D->Option KyD
 |false,.tup ds=>(gY ds).map λl=>(0,l)
 |true,.tup [.int i,.tup ds]=>(gY ds).map λl=>(i,l)
 |_,_=>Po
theorem pX:∀(l:List Int),gY (l.map .int)=My l
 |[]=>rfl
 |i::l=>by show(gY (l.map .int)).map _=_;rw[pX l];rfl
theorem tupI_inv:∀{ds:List D} {l:List Int},gY ds=My l->ds=l.map .int
 |[],l,h=>by cases h;rfl
 | .int i::r,l,h=>by
  have h':(gY r).map (i::·)=My l:=h;cases q:gY r with
  |none=>rw[q]at h';cases h'
  |some m=>rw[q]at h';cases h';rw[tupI_inv q];rfl
 | .non::_,_,h=>by cases h
 | .bl _::_,_,h=>by cases h
 | .str _::_,_,h=>by cases h
 | .ty _::_,_,h=>by cases h
 | .txt::_,_,h=>by cases h
 | .lst _::_,_,h=>by cases h
 | .tup _::_,_,h=>by cases h
 | .scr _::_,_,h=>by cases h
 | .obj _ _ _::_,_,h=>by cases h
 | .bag::_,_,h=>by cases h
 | .adr _::_,_,h=>by cases h
 | .dct _ _ _::_,_,h=>by cases h
theorem qp{b:Bool}(h:KyZ b k):hZ b (dK b k)=My k:=by
 cases b with
 |true=>show(gY _).map _=_;rw[pX];rfl
 |false=>show(gY _).map _=_;rw[pX];exact QV My (T9 (h rfl).symm rfl)
theorem nP{b:Bool}(h:hZ b d=My k):KyZ b k/\d=dK b k:=by
 unfold hZ at h;split at h
 ·rename_i ds
  cases q:gY ds with
  |none=>rw[q]at h;cases h
  |some l=>rw[q]at h;cases h;exact⟨λ_=>rfl,by rw[tupI_inv q];rfl⟩
 ·rename_i i ds
  cases q:gY ds with
  |none=>rw[q]at h;cases h
  |some l=>rw[q]at h;cases h;exact⟨λz=>(by cases z),by rw[tupI_inv q];rfl⟩
 ·cases h
noncomputable def lkD(ks:List KyD)(vs:List D)(k:KyD):Option D:=((ks.zip vs).find? λp=>decide (p.1=k)).map (·.2)
section
variable{K:P6}{F:Fx}{H:Hp}{E:St->XK}
def RelD(K:P6)(F:Fx)(H:Hp):Option D->Option V->Prop
 |none,v=>v=Po
 |some d,v=>∃u,v=My u/\Den K F H d u
theorem pb:∀{xs:List (KyD×PD×V)} {vs:List D},DenL K F H vs (xs.map (·.2.2))->RelD K F H (lkD (xs.map (·.1)) vs k) (lkV xs k)
 |[],vs,_=>by unfold lkD lkV;rfl
 |x::xs,vs,h=>by
  cases vs with
  |nil=>cases h
  |cons d vs=>
   obtain⟨u,r,e,a,b⟩:=h;rw[P3,Tf]at e;obtain⟨rfl,rfl⟩:=e;have ih:=pb (k:=k) b;unfold lkD lkV at ih⊢;rw[P3,RX,SX,SX];by_cases q:x.1=k
   ·rw[P9 q];exact⟨_,rfl,a⟩
   ·rw[QD q];exact ih
def EK:D->D->Option D
 | .dct b ks vs,y=>(hZ b y).bind (lkD ks vs)
 |_,_=>Po
theorem OT:aP K (LR K) EK:=λF H β Q d1 d2 d t v fr g h e k=>by
 unfold EK at e;split at e
 ·rename_i b ks vs
  cases q:hZ b d2 with
  |none=>rw[q]at e;cases e
  |some f=>
   rw[q]at e;have i:lkD ks vs f=My d:=e;obtain⟨j,rfl⟩:=nP q;obtain⟨c,rfl,l⟩:=sJ j h;unfold Den at g;obtain⟨a,ep,xs,rfl,m,rfl,n,dl⟩:=g;have:=pb (k:=f) dl;rw[i]at this;obtain⟨u,o,p⟩:=this;exact⟨a,b,ep,xs,f,c,u,rfl,rfl,m.2,λx r=>(n x r).s,l.s,o,k u H (To.refl fr) p⟩
 ·cases e
def Oz(K:P6):V->List V->Hp->VK->Prop:=λx ys H Q=>∃a b ep xs k c z,x= .ref a/\ys=[.ref c,z]/\H a=My (dy a b ep xs)/\(∀x∈xs,KyS K H b x.1 x.2.1)/\KyS K H b k c/\Q ((lkV xs k).getD z) H
end
section
variable{X:Cx}{E:St->XK}{o e:Expr}{es:List Expr}{apos cpos:Uh}
theorem Kz(m:X.A.units+2<Vh):MtR X "dict.get" (Oz X.K):=by
 intro j s L H x xs v us Q I n r h;obtain⟨a,b,ep,ys,k,c,z,rfl,rfl,t,u,B,q⟩:=h;cases n;obtain⟨N,C,rfl,r1,J⟩:=sk r;cases r1;obtain⟨i,d,p,_,hs⟩:=lX I t u;have f:=md (k:=k) p;refine call_meetsIn XB d.typeIs PySem.F.entry_dict_get (PySem.F.args_dict_get_3 _ _ _) (meetsH_dict_get_default (KB X.prog X.w b) a c hs C) ⟨mF m,k,i,ph I B,d,_,H,I.tok _,?_,q⟩;cases l:lkV ys k with
 |none=>
  rw[l]at f;cases g:(XE i k).map (·.2)with
  |none=>exact J
  |some w=>rw[g]at f;exact f.elim
 |some y=>
  rw[l]at f;cases g:(XE i k).map (·.2)with
  |none=>rw[g]at f;exact f.elim
  |some w=>rw[g]at f;exact f
def EE(f:FD)(g:FL):FD:=λδ=>M.bind (f δ) λd=>match d with
 | .dct b ks vs=>M.bind (g δ) λas=>M.ofO (match as with
  |[k,z]=>(hZ b k).map λk=>(lkD ks vs k).getD z
  |_=>Po)
 |_=>M.fail
theorem Oo(hu:X.A.units+2<Vh)(ho:PE X o (tV X.K f E))(ha:PA X (e::es) (tVA X.K g E))
  (n:T5 o "get" X.env (QW o X.env)=QW o X.env:=by rfl)
  (y:((RP cpos (PX (e::es) X.env)).all (λx=>!x.1)&&(VJ cpos (Ud [] X.env)).all (λx=>x.1.isSome)
   &&decide ((e::es).length+([]:List Vt).length+(if([]:List Vt).isEmpty then 0 else 1)<30))=Pt:=by rfl)
  (p:(apos.endLine==cpos.line)=Pt:=by rfl) (hs:PX (e::es) X.env=(Pz,QW e X.env)::PX es X.env:=by rfl) (m:(RP cpos (PX es X.env)).any (·.1)=Pz:=by rfl):
  PE X (.Call (.Attribute o "get" apos) (e::es) [] cpos) (tV X.K (EE f g) E):=by
 intro j s C H Q I h;obtain⟨F,δ,β,fr,vk,h⟩:=h;refine Zl n y p rfl (thn (ho j s C H _ I ⟨F,δ,β,fr,vk,(run.bind (R:=Den X.K F) h)⟩) λv s1 h1=>?_);obtain⟨x,H1,I1,r1,d,β1,t,hd,q1⟩:=h1;have fail:∀{L:M D},L=M.fail->run (Den X.K F) F E C L H1 Q β1->False:=λ{L} e r=>by
  obtain⟨r,β',e',_⟩:=r;rw[e]at e';cases e'
 cases d<;>first|exact(fail rfl q1).elim|skip
 rename_i b ks vs;have B:=hd;unfold Den at B;obtain⟨a,ep,xs,rfl,N,rfl,hk,dl⟩:=B;cases r1;obtain⟨ys,dd,_,_,_⟩:=lX I1 N.2 λx O=>(hk x O).s;refine⟨"dict","dict.get",Xh,XB,PySem.F.type_dict_get,dd.typeIs,λb e=>?_,?_⟩
 ·cases e
  obtain⟨ob,_,_,g1,g2,_⟩:=dd;exact⟨ob,g1,g2.2.1⟩
 have hA:=ha cpos j s1 C H1 _ I1 ⟨F,δ,β1,t.fr,vk.tr (t.tr fr),run.bind (R:=DenL X.K F) q1⟩;rw[hs]at hA⊢;refine Vq (by show(Pz||(RP cpos (PX es X.env)).any (·.1))=Pz;rw[m]<;>rfl) (XX (thn hA λus s2 h2=>?_))
 obtain⟨ws,J,I2,r2,as,β2,t2,P,q2⟩:=h2;obtain⟨z,w,kf⟩:=run.ofO q2;have tt:=t2.tr t.fr;split at w
 ·rename_i k zz
  cases T:hZ b k with
  |none=>rw[T]at w;cases w
  |some i=>
   rw[T]at w;cases w;obtain⟨hz,rfl⟩:=nP T;obtain⟨w1,U,rfl,W,Y⟩:=DenL.two P;obtain⟨c,rfl,kc⟩:=sJ hz W;have Z:=DenL.tr tt _ _ dl;have hk2:∀x∈xs,KyS X.K J b x.1 x.2.1:=λx O=>((hk x O).tr tt).s;refine Kz hu j s2 C J (.ref a) [.ref c,U] (.ref a) us Q I2 rfl r2 ⟨a,b,ep,xs,i,c,U,rfl,rfl,tt.kp a _ N.1 N.2,hk2,kc.s,?_⟩;refine kf _ J (To.refl t2.fr) ?_;show Den X.K F J ((lkD (xs.map (·.1)) vs i).getD zz) ((lkV xs i).getD U);have l:=pb (k:=i) Z;cases q:lkD (xs.map (·.1)) vs i with
   |none=>
    rw[q]at l;have l':lkV xs i=Po:=l;rw[l'];exact Y
   |some d=>
    rw[q]at l;obtain⟨u,l',hu'⟩:=l;rw[l'];exact hu'
 ·cases w
end
end L2.Pu
namespace L2.Hs
open PySem PySem.Spec PyProof.Rows
section
variable{prog:Qu}{w:QH}{A:QU}{E:PH->PM->Prop}{s:PM}{d it v:PD}{od:Qn}{es:Array TK}{ep i:Nat}{ok ov:PH}
theorem yb(a:s.TypeIs (.ref d) "dict")(hd:(d==WK)=Pz)(h:Q (.ref s.heap.objs.size) {s with heap:=s.heap.push {cls:= .type "dict_items",data:= .fields #[.ref d]}}):PY (Qk prog w) A (VD (.builtin "dict.items") [.ref d]) Q E s:=by
 refine QO F.slot_dict_items a F.entry_dict_items ?_ (F.args_dict_items_1 _);unfold Builtin.«dict.items»;refine Pn ?_;unfold Builtin.Dict.noArgs;refine Pn (wpAny_notOrdered_dict a ?_);show PY _ _ (R6 d) _ _ s;refine Pq ?_;show PY _ _ (WE d>>=_) _ _ s;unfold WE;rw[PL (by rw[hd];exact PQ)];exact Pn (Pq (Pn (Re (Pq ⟨_,rfl,h⟩))))
theorem xJ(a:s.heap.IsItemsView v d)(e:s.heap.get? d=My od)(hd:od.data= .dict es ep)
  (h:Q (.ref s.heap.objs.size) {s with heap:=s.heap.push {cls:= .type "dict_itemiterator",data:= .fields #[.none,.bool Pz,.ref d,.int 0 0,.int es.size 0,.int ep 0,.none,.none]}}):PY (Qk prog w) A (Wh (.ref v)) Q E s:=by
 obtain⟨o,b,f,c⟩:=id a;refine Vw a.typeIs Yy (QO Yy a.typeIs F.entry_dict_items_iter ?_ (F.args_dict_items_iter_1 _));unfold Builtin.«dict_items.__iter__»;refine Pn (Pq (Pn ?_));unfold Builtin.Dict_items.dictOf;refine Pn (Rm b c (x:= .ref d) rfl (Pq (Pn ?_)));unfold Builtin.Dict_items.newIterator;refine Pn (Xb e hd (Pn (XO e hd ?_)));simp only[show TF "dict_itemiterator"=Pt from by decide,QY];refine Re (Pq ⟨_,rfl,"dict_itemiterator",_,⟨_,P4 _ rfl,rfl⟩,RF.lookup,?_⟩)
  (by simp only[sizeOk,UR,Qa,Qf,Qd,WQ,RZ];omega)
 simpa[Ur,UR]using h
theorem xH(a:Vf s.heap it d i es.size ep ok ov)(h:Q (.ref it) s):PY (Qk prog w) A (Wh (.ref it)) Q E s:=by
 have c:s.TypeIs (.ref it) "dict_itemiterator":=⟨_,a,rfl⟩;refine Vw c Xe (QO Xe c (b:=Builtin.«dict_keyiterator.__iter__») (Yd (id':="dict_keyiterator.__iter__") (by kernel_rfl) rfl (by decide +kernel) (by kernel_rfl)) ?_ (F.args_dict_itemiterator_iter_1 _));show PY _ _ (ret (.ref it)) _ _ s;exact Pq ⟨_,rfl,"dict_itemiterator",_,c,RF.lookup,h⟩
theorem xI{e:TK}(m:Vf s.heap it d i es.size ep ok ov)(ho:s.heap.get? d=My od)(hd:od.data= .dict es ep)(X:es[i]?=My e)
  (hQ:∀h',IsItemIterOut h' it d (i+1) es.size ep e.key e.val s.heap.objs.size->h'.get? s.heap.objs.size=My {cls:= .type "tuple",data:= .seq #[e.key,e.val]}->h'.objs.size=s.heap.objs.size+1->
   (∀b o,b≠it->s.heap.get? b=My o->h'.get? b=My o)->Q (My (.ref s.heap.objs.size)) {s with heap:=h'}):PY (Qk prog w) A (Uq (.ref it)) Q E s:=by
 obtain⟨n,g,R,T,os⟩:=s;have u:Shared.TypeIs ⟨n,g,R,T,os⟩ (.ref it) "dict_itemiterator":=⟨_,m,rfl⟩;have U:i<es.size:=by
  rcases VA i es.size with h|h
  ·exact h
  ·simp[SN h]at X
 obtain rfl:es[i]=e:=by rw[UQ U]at X;exact Qo X
 unfold Uq;refine Pn (UJ (wpAny_callSpecial?_slot (name:=Qv "__next__") u RF
  (QO RF u WX ?_ (WO _))))
 refine Pn (Pq (Pn (Pn ?_)))
 first|refine Pn (SW u (Pq ?_))|refine Pn (TX u (Pq ?_))
 refine Pn (Wj m rfl ?_);simp only[show TF "dict_itemiterator"=Pt from by decide,QY];show PY _ _ (if(P7 d==QZ)=Pt then _ else _) _ _ _;rw[PL (show ¬((P7 d==QZ)=Pt)from PQ)];refine Pn (Pq (Pn (Xb ho hd ?_)));rw[PL (by simp)];refine Pn (Pq (Pn (XO ho hd ?_)));rw[PL (by simp)];refine Pq ?_;simp only[show ¬((i:Int)<0)from by omega,Q1,Rp,UQ U];refine Pn ?_
 first|refine Pn (SW u (Pq ?_))|refine Pn (TX u (Pq ?_))
 refine Pn (VY u ?_);show PY _ _ (Yi (.ref it) 3 (Ur ((i:Int)+1))>>=_) _ _ ⟨n,g,R,T,os⟩;refine Pn (Ru m (by simp) λa c f=>?_)
 replace f:Qr it n a:=f
 replace c:Vf a it d (i+1) es.size ep ok ov:=by
  have e:((i+1:Nat):Int)=(i:Int)+1:=by omega
  unfold Vf;rw[e];simpa[Ur]using c
 have l:Shared.TypeIs ⟨a,g,R,T,os⟩ (.ref it) "dict_itemiterator":=⟨_,c,rfl⟩;refine Pn (Rh (Pn (VY l (Pn (VY l ?_)))));show PY _ _ (U8 (.ref it) 6 es[i].key es[i].val) _ _ ⟨a,g,R,T,os⟩;unfold U8;refine Pn (Wm ?_);have j:Vf (a.push {cls:= .type "tuple",data:= .seq #[es[i].key,es[i].val]}) it d (i+1) es.size ep ok ov:=Pr _ c;have k:a.objs.size=n.objs.size:=f.1;have Y:it≠n.objs.size:=QK (Qj m);have y:(a.push {cls:= .type "tuple",data:= .seq #[es[i].key,es[i].val]}).get? n.objs.size=My {cls:= .type "tuple",data:= .seq #[es[i].key,es[i].val]}:=by rw[←k];exact P4 _ rfl
 have B:(a.push {cls:= .type "tuple",data:= .seq #[es[i].key,es[i].val]}).objs.size=n.objs.size+1:=by rw[Q9,k]
 have C:∀b o,b≠it->n.get? b=My o->(a.push {cls:= .type "tuple",data:= .seq #[es[i].key,es[i].val]}).get? b=My o:=λb o W e=>Pr _ (f.extBut b o W e);generalize a.push {cls:= .type "tuple",data:= .seq #[es[i].key,es[i].val]}=h₂ at*;show PY _ _ (US (.ref it)>>=_) _ _ ⟨h₂,g,R,T,os⟩;rw[k];refine Pn ?_;unfold US;refine Pn (Rm j rfl (x:= .none) rfl (Pq ?_));simp only[QY];refine Pn (Rm j rfl (x:=ok) rfl (Pn (Rm j rfl (x:=ov) rfl ?_)));refine Pn (Ru j (by simp) λp F H=>?_);refine Pn (Ru F (by simp) λq I J=>?_);refine Pn (Ru I (by simp) λr L N=>?_);refine Pn (Ru L (by simp) λt O P=>?_);have Z:=((show Qr it h₂ p from H).trans (show Qr it p q from J)).trans ((show Qr it q r from N).trans (show Qr it r t from P));exact Pn (Wl (Pq (Pq ⟨_,rfl,Pq (hQ t O (Z.extBut _ _ Y.symm y) (by rw[Z.1,B]) λb o W e=>Z.extBut b o W (C b o W e))⟩)))
theorem zU(g:A.handled=Po)(c:Vf s.heap it d i es.size ep ok ov)(f:s.heap.get? d=My od)(hd:od.data= .dict es ep)(h:es.size<=i)
  (j:∀h',WF it s.heap h'->Q Po {s with heap:=h'}):PY (Qk prog w) A (Uq (.ref it)) Q E s:=by
 have e:s.TypeIs (.ref it) "dict_itemiterator":=⟨_,c,rfl⟩;unfold Uq;refine Pn (UJ (wpAny_callSpecial?_slot (name:=Qv "__next__") e RF
  (QO RF e WX ?_ (WO _))))
 refine Pn (Pq (Pn (Pn ?_)))
 first|refine Pn (SW e (Pq ?_))|refine Pn (TX e (Pq ?_))
 refine Pn (Wj c rfl ?_);simp only[show TF "dict_itemiterator"=Pt from by decide,QY];show PY _ _ (if(P7 d==QZ)=Pt then _ else _) _ _ s;rw[PL (show ¬((P7 d==QZ)=Pt)from PQ)];refine Pn (Pq (Pn (Xb f hd ?_)));rw[PL (by simp)];refine Pn (Pq (Pn (XO f hd ?_)));rw[PL (by simp)];refine Pq ?_;simp only[show ¬((i:Int)<0)from by omega,Q1,Rp,SN h];refine Pn ?_
 first|refine Pn (SW e (Pq ?_))|refine Pn (TX e (Pq ?_))
 show PY _ _ (Yi (.ref it) 2 .none>>=_) _ _ s;refine Pn (TD c rfl (by simp) ?_);show PY _ _ (Zj (.type "StopIteration") []>>=_) _ _ _;refine Pn ?_;simp only[Zj,newTuple];refine Pn (Re ?_ (by size_fits));refine Pn (m:=Uo _ _) (Tz (a:=QZ) (by first|rfl|(simp only[Uo];rfl)) ?_)
 refine Re ?_ (by size_fits);simp only[raiseNew];refine Pn (YN ?_);rw[show A.in1.handled=Po from g];refine Pn (Pq (wpAny_throw ?_));refine Pn (Sm (T:="StopIteration") (b:=Pt) ⟨_,P4 _ rfl,rfl⟩ Yg ?_);exact Pq (j _ (((Rq ..).extBut.push _).push _))
end
end L2.Hs
namespace L2.Pu
open PySem PySem.Spec PyProof.Rows L2.Hs
noncomputable def Iti(a:PD)(ep n:Nat):It:=
 ⟨λi H=>∃b xs,H a=My (dy a b ep xs)/\xs.length=n/\i<n,
  λi H v c=>∃p x,H p=Po/\v= .ref p/\c=upd H p (.tup [.ref x.1,x.2])/\∀b xs,H a=My (dy a b ep xs)->(xs[i]?).map (·.2)=My x,
  λi H=>∃b xs,H a=My (dy a b ep xs)/\xs.length=n/\i=n⟩
theorem HF:∀{xs:List (KyD×PD×V)} {ys:List (KyD×PD×PH)} {i:Nat} {y:KyD×PD×PH},WH XY xs ys->ys[i]?=My y->∃x,xs[i]?=My x/\XY x y
 |_,_,0,_,.cons h t,e=>by cases e;exact⟨_,rfl,h⟩
 |_,_,i+1,_,.cons h t,e=>HF (i:=i) t e
 |_,_,0,_,.nil,e=>by cases e
 |_,_,_+1,_,.nil,e=>by cases e
section
variable{X:Cx}{pins:List (PD×Qn)}{σ:St}{H:Hp}{s:PM}{a:PD}{b:Bool}{ep i:Nat}{xs:List (KyD×PD×V)}
theorem pK(I:Inv X pins σ H s)(h:H a=My (dy a b ep xs)):∃(o:Qn) (es:Array TK),s.heap.get? a=My o/\o.data= .dict es ep/\es.size=xs.length/\o.ExactDict/\(a==WK)=Pz/\∀(i:Nat) (e:TK),es[i]?=My e->∃x,xs[i]?=My x/\e.key= .ref x.2.1/\aK x.2.2 e.val:=by
 obtain⟨o,es,ys,j,k,l,d,u,m,v,g⟩:yh a b ep xs s.heap:=(I.hok a _ h).1;have n:ys.length=xs.length:=by rw[←Pp (f:=(·.1)),←pV g,Pp]
 refine⟨o,es,j,l,by rw[←Qw,d,Pp,n],k,m,λi e c=>?_⟩;rw[←S3,d,Py]at c;cases q:ys[i]? with
 |none=>rw[q]at c;cases c
 |some y=>
  rw[q]at c;cases c;obtain⟨x,p,_,r,t⟩:=HF g q;exact⟨x,p,by rw[r],t⟩
theorem wR{K:P6}{x1}(a it:PD)(n ep:Nat):
  Turn P w K (.Tuple elts x1 pos) (Iti a ep n) [it] it (λi h=>∃ok d,Vf h it a i n ep ok d) where
 mem:=by simp
 obj:=λi h st b c=>by
  obtain⟨ok,d,e⟩:=st;cases Qt.mp c;exact⟨_,e,λv q=>by cases q⟩
 keep:=λi h h' st k=>by
  obtain⟨ok,d,e⟩:=st;exact⟨ok,d,k it (by simp) _ e⟩
 item:=by
  intro X m p r J i pins s σ H E I f st t;subst m p r;obtain⟨ok,d,e⟩:=st;obtain⟨b,xs,A,W,L⟩:=t;obtain⟨o,es,g,j,Y,h4,h5,Z⟩:=pK I A;have hn:n=es.size:=by omega
  subst hn;have B:es[i]?=My es[i]:=UQ L;refine xI e g j B λh' io gt sz kp=>⟨_,rfl,wpAny_letOwnedTupleGo_items (s:={s with heap:=h'}) io λC ei N=>?_⟩;obtain⟨x,ex,O,Q⟩:=Z i _ B;have R:s.heap.objs.size≠it:=Se (Qj e);have I2:Inv X pins σ (upd H s.heap.objs.size (.tup [.ref x.2.1,x.2.2])) {s with heap:=C,toks:=s.toks}:=
   Inv.turnNew I f (λb u c q=>N.extBut b u (λz=>c (by rw[z];simp)) (kp b u (λz=>c (by rw[z];simp)) q)) (PN _) ⟨by show 2<=P0;decide,[es[i].key,es[i].val],.cons O (.cons Q .nil),_,N.extBut _ _ R gt,rfl,_,rfl⟩
  refine⟨.ref s.heap.objs.size,_,I2,rfl,⟨s.heap.objs.size,x.2,I.hok.fresh (PN _),rfl,rfl,λb' xs' F=>?_⟩,⟨_,_,ei⟩,λb c=>?_⟩
  ·obtain⟨o',es',T,U,_,_,_,g6⟩:=pK I F
   rw[g]at T;cases T;rw[j]at U;cases U;obtain⟨y,ey,l,fv⟩:=g6 i _ B;rw[ey];rw[O]at l
   injection l with l
   exact QV My (T9 l.symm (aK.inj fv Q))
  ·cases Qt.mp c
   rw[upd_ne R.symm];exact(f _ c).1
 done:=by
  intro X m p r J i pins s σ H E I f st t;subst m p r;obtain⟨ok,d,e⟩:=st;obtain⟨b,xs,A,W,L⟩:=t;obtain⟨o,es,g,j,Y,_⟩:=pK I A;have hn:n=es.size:=by omega
  subst hn;refine zU (I.ok.hd J) e g j (by omega) λh' kp=>⟨rfl,Inv.turnL (t':=s.toks) I f λb o c q=>kp b o (λz=>c (by rw[z];simp)) q⟩
 self:=λ_ _ _ _ _ st h=>by
  obtain⟨ok,d,e⟩:=st;exact xH (es:=(P5 n (⟨0,.none,.none⟩:TK)).toArray) (by rw[Qa,RE];exact e) h
end
section
variable{X:Cx}{E:St->XK}{K:P6}{o:Expr}{apos cpos tpos:Uh}{elts:List Expr}{x1:Nat}
def iItm(to:TE):TI:=λd H R=>to d H λx c=>∃a b ep xs,x= .ref a/\c a=My (dy a b ep xs)/\R (Iti a ep xs.length) c
theorem CO(r:PE X o to)(d:T5 o "items" X.env (QW o X.env)=QW o X.env:=by rfl)(f:(apos.endLine==cpos.line)=Pt:=by rfl):PI X (.Tuple elts x1 tpos) (.Call (.Attribute o "items" apos) [] [] cpos) (iItm to):=by
 intro c s m H R I h;refine wpAny_Call_method0_late d f (thn (r c s m H _ I h) λv g i=>?_);obtain⟨x,n,p,r1,a,b,ep,xs,rfl,t,q⟩:=i;cases r1;obtain⟨j,es,i,u,w,k,y,_⟩:=pK p t;refine⟨"dict","dict.items",Xh,PySem.F.slot_dict_items,PySem.F.type_dict_items,⟨j,i,k.1⟩,λb e=>?_,?_⟩
 ·cases e;exact⟨j,i,k.2.1⟩
 refine Vq rfl (PySem.evalArgs_none (yb ⟨j,i,k.1⟩ y ?_));have l:Inv X c m n {g with heap:=g.heap.push {cls:= .type "dict_items",data:= .fields #[.ref a]},toks:=g.toks}:=p.kept λb o e=>Pr _ e;refine xJ (s:={g with heap:=g.heap.push {cls:= .type "dict_items",data:= .fields #[.ref a]}}) ⟨_,P4 _ rfl,rfl,rfl⟩ (Pr _ i) u ?_;rw[w];exact⟨_,[_],_,_,n,rfl,l.kept (t':=g.toks) λb o e=>Pr _ e,wR a _ _ ep,⟨_,_,P4 _ rfl⟩,λb A=>by
  cases Qt.mp A;exact l.fpOk (PN _) (l.hok.fresh (PN _)),q⟩
def itmD:D->Option (List D)
 | .dct b ks vs=>My (Tj (λk v=> .tup [dK b k,v]) ks vs)
 |_=>Po
theorem zV{F:Fx}{b:Bool}{xs:List (KyD×PD×V)}(w:¬F.A a)(B:H a=My (dy a b ep xs))(g:ks=xs.map (·.1))(C:∀x∈xs,ia K F H b x.1 x.2.1)(dl:DenL K F H vs (xs.map (·.2.2))):ItD K (Iti a ep xs.length) F H (Tj (λk v=> .tup [dK b k,v]) ks vs):=λP h β2 t fr i=>by
 have I:vs.length=xs.length:=by rw[dl.length,Pp]
 have J:ks.length=xs.length:=by rw[g,Pp]
 have c:=t.kp a _ w B;refine⟨λd hd=>?_,λe=>⟨b,xs,c,rfl,by rw[e,V1,J,I,Nat.min_self]⟩⟩;have e:i<xs.length:=by
  have:=(PU.mp hd).1;rw[V1]at this;omega
 refine⟨⟨b,xs,c,rfl,e⟩,λy Q L=>?_⟩;obtain⟨p,x,j,rfl,rfl,N⟩:=L;have l:=N b xs c;rw[Pw e]at l;have f:xs[i].2=x:=Qo l;subst f;have m:bB h (upd h p (.tup [.ref xs[i].2.1,xs[i].2.2])):=bB.upd j;obtain⟨v,n⟩:∃v,vs[i]?=My v:=⟨_,Pw (by omega)⟩;have O:ks[i]?=My xs[i].1:=by rw[g,Py,Pw e];rfl
 rw[X0,O,n]at hd;cases hd;have d2:=DenL.tr t _ _ dl;obtain⟨u,q,du⟩:=d2.get n;rw[Py,Pw e]at q;cases q;have r:=(fr.same m).tr fr;exact⟨m,oq (.inl ⟨fr.fresh j,.inl af⟩) (DenL.cons (Den.tr r _ _ (OF ((C _ (QL e)).tr t))) (DenL.cons (Den.tr r _ _ du) DenL.nil))⟩
def nItm(f:FD):FL:=λδ=>M.bind (f δ) λd=>M.ofO (itmD d)
theorem KQ(j:PE X o (tV X.K f E))(b:T5 o "items" X.env (QW o X.env)=QW o X.env:=by rfl)(c:(apos.endLine==cpos.line)=Pt:=by rfl):PI X (.Tuple elts x1 tpos) (.Call (.Attribute o "items" apos) [] [] cpos) (iV X.K (nItm f) E):=
 (CO j b c).imp λq H R g=>ex6 g λF δ β fr l h=>⟨F,δ,β,fr,l,(run.bind (R:=Den X.K F) h).mono λv m g=>by
  obtain⟨d,β1,t,hd,r1⟩:=g;obtain⟨ds,e,k⟩:=run.ofO r1;cases d<;>first|(cases e;done)|skip
  cases e;unfold Den at hd;obtain⟨a,ep,xs,rfl,i,n,p,dl⟩:=hd;exact⟨a,_,ep,xs,rfl,i.2,k _ m (To.refl t.fr) (zV i.1 i.2 n p dl)⟩⟩
end
end L2.Pu
namespace L2.Hs
open PySem PySem.Spec PyProof.Rows
theorem v9:mroOf (.type "reversed")=R6 [.type "reversed",.type "object"]:=by rw[mroOf_type];kernel_rfl
theorem DK:typeLookup (.type "reversed") "__new__"=R6 (My (.builtin "reversed.__new__")):=by rw[XN,V7];kernel_rfl
theorem DH:Bind.madeBy (.type "reversed")=R6 (My "reversed.__new__"):=madeBy_type v9 DK (by decide +kernel)
theorem JQ:isSubtype (.type "reversed") (.type "reversed")=R6 Pt:=by rw[Vk];kernel_rfl
theorem BX:isSubtype (.type "range_iterator") (.type "reversed")=R6 Pz:=by rw[Vk];kernel_rfl
theorem K2:entryFor table "reversed.__new__"=My Builtin.«reversed.__new__»:=entryFor_of_tree (by kernel_rfl)
section
variable{prog:Qu}{w:QH}{A:QU}{E:PH->PM->Prop}{s:PM}
theorem EN(a:IsRange s.heap r 0 n 1 t u v)(j:0<=n)(g:n<2^62)
  (h:Q (.ref s.heap.objs.size) {s with heap:=s.heap.push {cls:= .type "range_iterator",data:= .fields #[Ur (n-1),Ur n,Ur (-1)]}}):PY (Qk prog w) A (VD (.type "reversed") [.ref r]) Q E s:=by
 refine Vm (XM ?_);show PY _ _ (callAny (.type "reversed") _) _ _ _;refine Pq ⟨Wa _ (by decide +kernel),XJ F.entry_type_call ?_⟩;rw[Around.under_plain (weight_type_call_type "reversed" [.ref r] []) (units_type_call_type "reversed" [.ref r] [])];have g:(TM "reversed"==TM "type")=Pz:=by decide +kernel
 have k:((YT "reversed").bind (·.mro.findSome? λt=>(YT t).bind λb=>if b.noNew then My Pt else if b.attrs.any (·.1=="__new__")then My Pz else Po)).getD Pz=Pz:=by decide +kernel
 have e:=v9;have c:=DH;have i:checkTypeCall "reversed" ⟨[.ref r],[]⟩=R6 ():=by kernel_rfl
 repeat (any_goals (first|assumption|wp_step))
 refine UM (by decide +kernel) K2 (Tz (show Xr "reversed.__new__" ⟨[.type "reversed",.ref r],[]⟩=R6 () by kernel_rfl) ?_);have f:s.TypeIs (.ref r) "range":=⟨_,a,rfl⟩;unfold Builtin.«reversed.__new__»
 repeat (any_goals (first|assumption|wp_step))
 refine Tz JQ (Pq ?_);refine Pn (m:=U2 _ _ _) ?_;refine Tz (show U2 "reversed" (TM "reversed") ⟨[.type "reversed",.ref r],[]⟩=R6 ()from rfl) ?_;refine Pn (m:=checkCount "reversed" 1 1 _) (Pq ?_);show PY _ _ (specialOf (.ref r) (Qv "__reversed__")>>=_) _ _ s;refine Pn (SC f F.slot_range_reversed.lookup ?_);show PY _ _ (bindSpecial (.builtin "range.__reversed__") (.ref r)>>=_) _ _ s;refine Pn (Tz (F.slot_range_reversed.bind _) ?_);show PY _ _ (rule "reversed.__new__.own-method">>=_) _ _ s;refine Pn (TC (Pn (wpAny_runValue (UM F.slot_range_reversed.plain F.entry_range_reversed (F.slot_range_reversed.check _ _ _ _ _ _ _ _ f (F.args_range_reversed_1 _) ?_)))));unfold Builtin.«range.__reversed__»;refine Pn (m:=selfOnly "range.__reversed__" _) (Pq (Pn ?_));unfold Builtin.Range.rangeFields;refine Pn (Rm a rfl (x:= .int 0 t) rfl (Pn (m:=asInt? _) (Pq ?_)));refine Pn (Rm a rfl (x:= .int n u) rfl (Pn (m:=asInt? _) (Pq ?_)));refine Pn (Rm a rfl (x:= .int 1 v) rfl (Pn (m:=asInt? _) (Pq (Pq ?_))));have hn:Wq 0 n 1=n:=by rw[rangeSize_one];split<;>omega
 simp only[hn];have d:(Q7 0&&Q7 n&&Q7 1&&Q7 (-1)&&Q7 (0-1)&&Q7 n)=Pt:=by
  have:Q7 n=Pt:=by unfold Q7;simp;omega
  rw[this];decide
 simp only[d,QY,Sd,Qh,Q1];rw[show(0:Int)+(n-1)*1=n-1 by omega];refine Pn (Re (Pq (Pq ?_)));exact Pn (Sm (T:="range_iterator") (b:=Pz) ⟨_,P4 _ rfl,rfl⟩ BX (Pn (TC (Pq h))))
end
end L2.Hs
namespace L2.Pu
open PySem PySem.Spec PyProof.Rows L2.Hs
noncomputable def Itd(n:Nat):It:=⟨λi _=>i<n,λi H v a=>v= .int ((n:Int)-1-i)/\a=H,λi _=>n<=i⟩
theorem vb{K:P6}(it:PD)(n:Nat):Turn P w K tg (Itd n) [it] it (λi h=>Xx h it ((n:Int)-1+(i:Nat)*-1) ((n:Int)-(i:Nat)) (-1)) where
 mem:=by simp
 obj:=λi h st b c=>by
  cases Qt.mp c;exact⟨_,st,λv z=>by
   have C:Data.fields _=Data.cell v:=z;cases C⟩
 keep:=λi h h' st k=>k it (by simp) _ st
 item:=by
  intro X g j l m i a s A H E I f st p;subst g j l;obtain⟨q,f1,f2,r,u,y⟩:=f it (by simp);refine(Walks.range (prog:=X.prog) (w:=X.w) (I.ok.hd m) it ((n:Int)-1) (-1) n).item i s _ _ p st λv h' B F d J=>?_;obtain⟨t,rfl⟩:=F;have L:Inv X a A H {s with heap:=h',toks:=B}:=I.turned (λb o c e=>J b o (by simpa using c) e) q f1 r u y;exact⟨_,rfl,sM (s:={s with heap:=h',toks:=B}) (n:="range_iterator") d rfl rfl (by decide) ⟨.int ((n:Int)-1-i),H,L,⟨t,by rw[show(n:Int)-1+(i:Int)*-1=(n:Int)-1-i by omega]⟩,⟨rfl,rfl⟩,d,λb c=>(f b c).1⟩⟩
 done:=by
  intro X g j l m i a s A H E I f st p;subst g j l;obtain⟨q,f1,f2,r,u,y⟩:=f it (by simp);exact Zm (I.ok.hd m) st (by have:n<=i:=p;omega) λh' N=>⟨rfl,I.turned (t':=s.toks) (λb o c e=>N b o c e) q f1 r u y⟩
 self:=λ_ _ _ _ _ st h=>VZ st h
section
variable{X:Cx}{E:St->XK}{K:P6}{tg:Expr}
def O6(a:TA):TI:=λb H R=>a b H λvs c=>∃j:Int,vs=[.int j]/\0<=j/\j<2^62/\R (Itd j.toNat) c
theorem zg(f:Gl X "reversed")(g:X.mg "reversed"=Po)(n:Gl X "range")(hm:X.mg "range"=Po)(ha:PA X [a] ta)(hs:PX [a] X.env=[(Pz,QW a X.env)]:=by rfl)
  (i:PX [.Call (.Name "range" p) [a] [] pos] X.env=[(Pz,QW (.Call (.Name "range" p) [a] [] pos) X.env)]:=by rfl):PI X tg (.Call (.Name "reversed" p2) [.Call (.Name "range" p) [a] [] pos] [] pos2) (O6 ta):=by
 intro c s l H R I h;refine Call_ (f8 I f g PyProof.Rows.Boot.«reversed» (Rr ?_ i rfl));refine Yw (Call_ (f8 I n hm boot_range (Rr (thn (ha pos c s l H _ I h) λus d r=>?_) hs rfl)));obtain⟨vs,m,v,r1,j,rfl,q1,q2,q⟩:=r;obtain⟨u,rfl,t,rfl⟩:=kh r1;refine call_range_1 (YQ (EN (IsRange.new ..) q1 q2 (VZ (x:=j-1) (left:=j) (step:=-1) (P4 _ rfl) ?_)));have k:Inv X c l m {d with heap:=d.heap.push {cls:= .type "range",data:= .fields #[.int 0 d.toks,.int j t,.int 1 (d.toks+1)]},toks:=d.toks+1+1}:=v.kept λb o e=>Pr _ e;refine⟨_,[_],_,_,m,rfl,k.kept (t':=d.toks+1+1) λb o e=>Pr _ e,vb _ j.toNat,?_,λb w=>?_,q⟩
 ·show Xx _ _ (((j.toNat:Nat):Int)-1+((0:Nat):Int)*-1) (((j.toNat:Nat):Int)-((0:Nat):Int)) (-1)
  rw[show((j.toNat:Nat):Int)-1+((0:Nat):Int)*-1=j-1 by omega,show((j.toNat:Nat):Int)-((0:Nat):Int)=j by omega];exact P4 _ rfl
 ·cases Qt.mp w
  exact k.fpOk (PN _) (k.hok.fresh (PN _))
noncomputable def im(n:Nat):List D:=(PR n).map λ(i:Nat)=> .int ((n:Int)-1-i)
theorem xK:ItD K (Itd n) F H (im n):=λe f β2 t fr i=>by
 refine⟨λd hd=>?_,λa=>?_⟩
 ·unfold im at hd
  have a:i<n:=by
   have:=(PU.mp hd).1;simpa using this
  rw[Py,Ri a]at hd;cases hd;exact⟨a,λx g ⟨b,c⟩=>by subst b c;exact⟨bB.refl _,rfl⟩⟩
 ·show n<=i
  rw[a];simp[im]
def sB:List D->Option (List D)
 |[.int j]=>if(decide (0<=j)&&decide (j<2^62))=Pt then My (im j.toNat)else Po
 |_=>Po
theorem DX(b:Gl X "reversed")(c:X.mg "reversed"=Po)(j:Gl X "range")(hm:X.mg "range"=Po)(ha:PA X [a] (tVA X.K g E))(hs:PX [a] X.env=[(Pz,QW a X.env)]:=by rfl)
  (d:PX [.Call (.Name "range" p) [a] [] pos] X.env=[(Pz,QW (.Call (.Name "range" p) [a] [] pos) X.env)]:=by rfl):PI X tg (.Call (.Name "reversed" p2) [.Call (.Name "range" p) [a] [] pos] [] pos2) (iV X.K (cX sB g) E):=
 (zg b c j hm ha hs d).imp λq H R f=>ex6 f λF δ β fr m h=>⟨F,δ,β,fr,m,(run.bind (R:=DenL X.K F) h).mono λvs n f=>by
  obtain⟨ds,β1,t,hd,r1⟩:=f;obtain⟨l,e,k⟩:=run.ofO r1;unfold sB at e;split at e
  ·split at e
   ·rename_i i
    cases e;simp only[Qq,QI]at i;obtain⟨v,rfl,o⟩:=DenL.one hd;cases o.int;exact⟨_,rfl,i.1,i.2,k _ n (To.refl t.fr) xK⟩
   ·cases e
  ·cases e⟩
end
section
variable{X:Cx}{E:St->XK}{K:P6}{e m:Expr}{te tm:TE}{pos p2:Uh}
theorem CN(a:List PH):Zb a.toArray Po Po (My (-1))=a.reverse.toArray:=by
 have b:Tx Po Po (My (-1)) a.toArray.size=((a.length:Int)-1,-1,-1):=by simp[Tx]
 unfold Zb;rw[b];refine QV _ ?_;have c:sliceRange ((a.length:Int)-1) (-1) (-1)=(PR a.length).map λk=>a.length-1-k:=by
  unfold sliceRange;have d:(if(-1:Int)>0 then(if(a.length:Int)-1< -1 then(-1-((a.length:Int)-1)+-1-1)/ -1 else 0)else(if(a.length:Int)-1>-1 then((a.length:Int)-1- -1- -1-1)/(- -1)else 0)).toNat=a.length:=by
   rw[PL (by decide)];split
   ·rw[show(- -1:Int)=1 by decide,Int.ediv_one];omega
   ·omega
  simp only[d];exact Qs λk _=>by omega
 show(sliceRange ((a.length:Int)-1) (-1) (-1)).filterMap _=_;rw[c,List.filterMap_map];rcases a with _|⟨x,r⟩
 ·rfl
 generalize j:x::r=a;rw[uK (g:=λk=>a.getD (a.length-1-k) x) λk f=>by
  have:k<a.length:=Qg.mp f;simp only[UO,VH];rw[Px,Pw (by omega)];rfl]
 refine Rv (by simp) λi h l=>?_;have n:i<a.length:=by simpa using h
 rw[SH,SQ,Yp,Px,Pw (by omega)];rfl
def tRev(K:P6)(te tm:TE):TE:=λc H Q=>te c H λx d=>tm c d λy b=>∃a xs,x= .ref a/\y= .int (-1)/\SqL K b a xs/\∀p,b p=Po->Q (.ref p) (upd b p (.lst xs.reverse))
theorem L6(l:PE X e te)(hm:PE X m tm):PE X (.Subscript e (.Slice Po Po (My m) p2) pos) (tRev X.K te tm):=by
 intro c s f H Q I h;refine Subscript_ (thn (l c s f H _ I h) λv n o=>?_);obtain⟨x,p,r,r1,q1⟩:=o;refine wpAny_Slice ?_;rw[YJ];refine Pq (Pq ?_);rw[evalPart_some];refine thn (hm c n f p _ r q1) λu d B=>?_;obtain⟨y,C,g,F,a,xs,rfl,rfl,sq,q⟩:=B;cases r1;obtain⟨t,rfl⟩:=F;obtain⟨its,i,pl,j⟩:=g.list sq;have k:Inv X c f C {d with heap:=d.heap.push {cls:= .type "slice",data:= .fields #[.none,.none,.int (-1) t]}}:=g.kept (t':=d.toks) λb J q=>Pr _ q;show PY (Qk X.prog X.w) X.A (YL e (.Slice Po Po (My m) p2) (.ref a) (.ref d.heap.objs.size)) (EP X c f Q) X.xe {d with heap:=d.heap.push {cls:= .type "slice",data:= .fields #[.none,.none,.int (-1) t]}};refine tail_any (ops:=[.ref a,.ref d.heap.objs.size]) (pl.isList.push _).typeIs slot_list_getitem.lookup (YM (pl.isList.push _) (WP ..) .none .none (.int (-1) t) (by simp) ?_ (by rw[Qa,←i.length];exact j)) (by with_unfolding_all rfl)
 rw[CN];exact⟨.ref _,_,k.lnew (t':=d.toks) (its:=its.reverse) (ys:=xs.reverse) i.reverse (by rw[YB];exact j),rfl,q _ (k.hok.fresh (PN _))⟩
noncomputable def LN:D->D->Option D
 | .lst ds,.int (-1)=>My (.lst ds.reverse)
 |_,_=>Po
theorem DenL.reverse:∀{ds:List D} {xs:List V},DenL K F H ds xs->DenL K F H ds.reverse xs.reverse
 |[],xs,h=>by have q:xs=[]:=h;subst q;exact DenL.nil
 |d::ds,xs,h=>by
  obtain⟨x,r,rfl,a,b⟩:=h;rw[U5,U5];exact DenL.append (DenL.reverse b) (DenL.cons a DenL.nil)
theorem Ol(o:PE X e (tV X.K f E))(hm:PE X m (tV X.K g E)):PE X (.Subscript e (.Slice Po Po (My m) p2) pos) (tV X.K (f2 LN f g) E):=
 (L6 o hm).imp λr H Q b=>ex6 b λF δ β fr l h=>⟨F,δ,β,fr,l,(run.bind (R:=Den X.K F) h).mono λv u b=>ex5 b λd β1 t hd r1=>⟨F,δ,β1,t.fr,l.tr (t.tr fr),(run.bind (R:=Den X.K F) r1).mono λw y b=>ex5 b λd2 β2 i j q=>by
  obtain⟨z,c,k⟩:=run.ofO q;unfold LN at c;split at c
  ·cases c
   obtain⟨a,xs,rfl,sq,dl⟩:=Den.sqL (Den.tr (i.tr t.fr) _ _ hd);cases j.int;exact⟨a,xs,rfl,rfl,sq,λp n=>k _ _ (i.fr.upd _ n) (Den.newL i.fr n (DenL.reverse dl))⟩
  ·cases c⟩⟩
end
end L2.Pu
namespace L2.Pu
open PySem
theorem hu2{A:QU}(a:Room k A):A.units+2<Vh:=Ry (YU (by decide:2<=64) _) a.units
open PySem.Spec PyProof.Rows L2.Hs
section
variable{X:Cx}{E:St->XK}{ke ve target iter:Expr}{ifs:List Expr}{rest:List RA}{scope:Scope}{pos:Uh}{Nc vars:List Qz}{caps:List Nat}{g:TG}{tb:PD->TB}
theorem Kg{kb:Bool}{b d:Uh}(y:X.N.Nodup)(k:X.N[i]?=My x)(B:Loc X.env.scope x)(F:X.calm=Pt)(S:CmpScope X scope Nc vars caps)(L:PI X target iter wi)
  (O:∀(cl:List (Qz×PD)) (C:PD) (j:List PD) (s:PM) (H:Hp),PG (aE X Nc scope cl C j s H) target g/\dG (aE X Nc scope cl C j s H) ifs tt/\∀D,PB (aE X Nc scope cl C j s H) (.D ke ve) (⟨target,iter,ifs,0⟩::rest) scope pos 0 D (tb D))
  (l:Ue (.DictComp ke ve (⟨target,iter,ifs,0⟩::rest) scope pos) (My (.Name x b)) d.line X.env=R6 Pt:=by rfl)
  (hs:∀x,QR iter X.env x=R6 x:=by intro _;rfl) (P:X.fn x=Pt\/X.env.scope.names.lookup x=My .local:=by first|exact .inl rfl|exact .inr rfl|assumption):
  PS X (.Assign [.Name x b] (.DictComp ke ve (⟨target,iter,ifs,0⟩::rest) scope pos) d) (jC (kZ (λD=>dy D kb 0 []) vars caps wi λD J=>cY J g tt (tb D)) (eQ i)):=by
 intro f s R H D I h;rw[exec_Assign_Name_used _ _ _ _ l];refine Pn (R8 (Pn ?_));show PY _ X.A (do let _ ←comprehension (.DictComp ke ve (⟨target,iter,ifs,0⟩::rest) scope pos) scope X.env _ newDict Pz (QW iter X.env) (My (UW (.Name x b) X.env))) _ _ s
 refine Pn (QN (SM (use:=My (UW (.Name x b) X.env)) (Q:=λ_ s'=>SP X f D .next s') rfl hs (S.clo I.ok) S.kind S.loc
  (QN (L f s R H _ I h) (λv s1 U=>QN U (λW Y n=>?_) λ_ _ e=>e) λ_ _ e=>e)) (λ_ s' Z=>Pq (Pq Z)) λ_ _ e=>e)
 obtain⟨it,j,tn,J,H2,e,o,T,p,f2,q⟩:=n;subst e;refine gU (c:= .D ke ve) uv (RR:=λacc C=>Yc (Qk X.prog X.w) X.A X.xe (My (UW (.Name x b) X.env)) _ acc C) F S O o T p f2 q λA C s' H' m I' ns r q'=>?_;show PY _ X.A (UW (.Name x b) X.env (.ref A)) _ _ s';refine Xa (k8 I' y k B (v:= .ref A) rfl (λY o n=>?_) P);obtain⟨a,sb,ha⟩:=n;have t:C≠a:=by
  rcases ha with rfl|ha
  ·exact r.2.1
  ·exact λz=>r.2.2.2.1 x a ha z.symm
 exact⟨m,ns.sameBut sb t,λh' u=>⟨_,H',o.letgo r u,q'⟩⟩
theorem yV{kb:Bool}{a c:Uh}(j:X.N.Nodup)(d:X.N[i]?=My x)(k:Loc X.env.scope x)(l:X.calm=Pt)(S:CmpScope X scope Nc vars caps)(m:PI X target iter (iV X.K it E))
  (n:∀(cl:List (Qz×PD)) (C:PD) (f:List PD) (s:PM) (H:Hp),PG (aE X Nc scope cl C f s H) target g/\dG (aE X Nc scope cl C f s H) ifs (tVT X.K tt E0)/\∀D,PB (aE X Nc scope cl C f s H) (.D ke ve) (⟨target,iter,ifs,0⟩::rest) scope pos 0 D (tb D))
  (o:cM X.K g tg) (p:dT tg) (q:∀D,eE X.K (RD X.K kb) D (tb D) b)
  (e:Ue (.DictComp ke ve (⟨target,iter,ifs,0⟩::rest) scope pos) (My (.Name x a)) c.line X.env=R6 Pt:=by rfl)
  (hs:∀x,QR iter X.env x=R6 x:=by intro _;rfl) (r:X.fn x=Pt\/X.env.scope.names.lookup x=My .local:=by first|exact .inl rfl|exact .inr rfl|assumption):
  PS X (.Assign [.Name x a] (.DictComp ke ve (⟨target,iter,ifs,0⟩::rest) scope pos) c) (tG X.K X.H₀ (gb i (gQ vars.length caps it tg tt b (kI kb))) E):=
 aD ((Kg (kb:=kb) j d k l S m n e hs r).imp λD t H h=>uT o p q h)
end
theorem On{X:Cx}{E:St->XK}(ha:PE X e1 (tV X.K f E))(a:PE X e2 (tV X.K g E))(hs:qI e2:=by exact λ_ _=>rfl):PE X (.Subscript e1 e2 pos) (tV X.K (f2 ixD f g) E):=bc aC bh ha a hs
end L2.Pu
namespace L2.Hs
open PySem PySem.Spec PyProof.Rows
section
variable{X:Cx}
def LQ(K:P6):R2:=λx y H Q=>∃a b ep xs k c,x= .ref c/\y= .ref a/\H a=My (dy a b ep xs)/\(∀x∈xs,KyS K H b x.1 x.2.1)/\KyS K H b k c/\Q (.bl (lkV xs k).isNone) H
theorem v3(i:X.A.units+2<Vh):OpR X (Q8 .NotIn) (LQ X.K):=by
 intro c s t H x y v u Q I j l h;obtain⟨d,b,ep,xs,k,a,rfl,rfl,m,n,o,q⟩:=h;cases j;cases l;obtain⟨ys,hm,p,_,hd⟩:=lX I m n;have f:=md (k:=k) p;show PY _ _ (do return W1 (!(←contains (.ref d) (.ref a)))) _ _ s
 refine Pn ?_;unfold contains
 try with_reducible refine Rh ?_
 refine Pn (SC hm.typeIs slot_dict_contains.lookup ?_);show PY _ _ (if(My (Value.builtin "dict.__contains__")==My QZ)=Pt then _ else _) _ _ s;rw[PL (by rw[beq_builtin_none];exact PQ)];refine Pn (wpAny_callSpecialUnlessNone?_slot (name:=Qv "__contains__") hm.typeIs slot_dict_contains
  (QO slot_dict_contains hm.typeIs entry_dict_contains ?_ (args_dict_contains _ _)))
 show PY _ _ (dictGet d (.ref a)>>=_) _ _ s;refine Pn (wpAny_dictGet_heap (mF i) (ph I o) hm ?_);cases g:XE ys k with
 |some r=>
  rw[g]at f;cases e:lkV xs k with
  |none=>rw[e]at f;exact f.elim
  |some z=>
   rw[e]at q;show PY _ _ (ret (.bool Pt)) _ _ _;exact Pq ⟨_,rfl,Rf (Pq ⟨.bl _,H,I.tok _,rfl,q⟩)⟩
 |none=>
  rw[g]at f;cases e:lkV xs k with
  |some z=>rw[e]at f;exact f.elim
  |none=>
   rw[e]at q;show PY _ _ (Builtin.Dict.pendingKey? d (.ref a)>>=_) _ _ _;exact Pn (wpAny_pendingKey_other hd (Pq ⟨_,rfl,Rf (Pq ⟨.bl _,H,I.tok _,rfl,q⟩)⟩))
end
end L2.Hs
namespace L2.Pu
open PySem PySem.Spec PyProof.Rows L2.Hs
section
variable{K:P6}
def DB:D->D->Option D
 |y,.dct b ks vs=>(hZ b y).map λk=> .bl (lkD ks vs k).isNone
 |_,_=>Po
theorem OO:aP K (LQ K) DB:=λF H β Q d1 d2 d o p fr h g e k=>by
 unfold DB at e;split at e
 ·rename_i b ks vs
  cases q:hZ b d1 with
  |none=>rw[q]at e;cases e
  |some f=>
   rw[q]at e;cases e;obtain⟨i,rfl⟩:=nP q;obtain⟨c,rfl,j⟩:=sJ i h;unfold Den at g;obtain⟨a,ep,xs,rfl,l,rfl,m,dl⟩:=g;refine⟨a,b,ep,xs,f,c,rfl,rfl,l.2,λx n=>(m x n).s,j.s,?_⟩;have:=pb (k:=f) dl
   dsimp only at k
   cases q2:lkD (xs.map (·.1)) vs f with
   |none=>
    rw[q2]at this k;have t:lkV xs f=Po:=this;rw[t];exact k _ H (To.refl fr) rfl
   |some z=>
    rw[q2]at this k;obtain⟨u,t,_⟩:=this;rw[t];exact k _ H (To.refl fr) rfl
 ·cases e
end
end L2.Pu
namespace L2.Pu
open PySem PySem.Spec PyProof.Rows
section
variable{X:Cx}{E:St->XK}{K:P6}{st:Q6}{H₀:Hp}{B:Ow}{bg:Option (PD×PD)}{H H':Hp}{δ:Ds}{β β':Bg}{σ:St}
theorem mem_snoc{α:Type}{x y:α}{l:List α}(h:x∈l++[y]):x=y\/x∈l:=(Rk.mp h).elim .inr λz=> .inl (Qt.mp z)
theorem xp{rs:List PD}(h:rs.Nodup)(n:r∉rs):(rs++[r]).Nodup:=U3.mpr ⟨h,SJ _ _,λx a y b e=>n (by rw[←Qt.mp b,←e];exact a)⟩
theorem SOk.addRow{rs:List PD}(ok:SOk K H₀ B bg H δ β σ)(g:SOk K H₀ B bg H2 δ β2 σ)(s2:Stp B H B H2)(kk:∀c o,H c=My o->B c≠My 1->H2 c=My o)
  (hs:σ[i]?=My (My (.ref a))) (hB:B a=My (i+2)) (ha:H2 a=My (.lst (rs.map V.ref))) (N:H a=My (.lst (rs.map V.ref))) (nd:(a::rs).Nodup) (rl:RowL K (FxB B bg) H2 (λr=>B r=My (i+2)) rows rs) (r0:H r=Po) (L:H2 r=My (.lst xs)) (hn:noLs ds=Pt) (hd:DenL K (FxB B bg) H2 ds xs) (u:∀c∈rs,H c≠Po) (O:∀w∈rows,noLs w=Pt):
  ∃B',SOk K H₀ B' bg (upd H2 a (.lst (rs.map V.ref++[.ref r]))) (δ.set i (My (.grd (rows++[ds])))) β2 σ/\Stp B H B' (upd H2 a (.lst (rs.map V.ref++[.ref r]))):=by
 classical
 have t:B r=Po:=S7 λz=>ok.fr.occ r z r0;have j:a≠r:=λz=>by rw[←z,N]at r0;cases r0
 have Q:r∉rs:=λz=>u r z r0;have own:∀c,c∈rs->B c=My (i+2):=λc hc=>(rl.all c hc).1;have nb:∀b l,bg=My (b,l)->b≠r/\l≠r:=λb l e=>by
  obtain⟨b1,b2⟩:=ok.bgt b l e;exact⟨λz=>(by rw[z,t]at b1;cases b1),λz=>(by rw[z,t]at b2;cases b2)⟩
 have R:∀b l,bg=My (b,l)->b≠a/\l≠a:=λb l e=>by
  obtain⟨b1,b2⟩:=ok.bgt b l e;exact⟨λz=>(by rw[z,hB]at b1;cases b1),λz=>(by rw[z,hB]at b2;cases b2)⟩
 have A:Stp B H (λc=>if c=r then My (i+2)else B c) (upd H2 a (.lst (rs.map V.ref++[.ref r]))):=by
  refine⟨λc o h n=>?_,λc hc=>?_,λc o h n=>?_,λc hc=>?_⟩
  ·rw[upd_ne (λz=>by subst z;rw[hB]at n;rcases n with n|n<;>cases n)]
   exact s2.kp c o h n
  ·have:c≠r:=λz=>by rw[z,t]at hc;rcases hc with hc|hc<;>cases hc
   simp only[PL this]
  ·have:c≠r:=λz=>by rw[z,r0]at h;cases h
   simp only[PL this];exact n
  ·by_cases z:c=a
   ·subst z;rw[af];simp
   ·rw[upd_ne z];exact s2.al c hc
 have tr:Tr (FxB B bg) H (FxB (λc=>if c=r then My (i+2)else B c) bg) (upd H2 a (.lst (rs.map V.ref++[.ref r]))):=A.tr;refine⟨λc=>if c=r then My (i+2)else B c,⟨⟨λc hc z=>?_,λb l e=>?_,λb l e=>?_⟩,λb l e=>?_,by rw[QB,ok.len],λc hc=>?_,λc k hc=>?_,λc k hc=>(by
  have f:(if c=r then My (i+2)else B c)=My (k+2):=hc;by_cases w:c=a
  ·subst w;exact⟨_,af⟩
  ·rw[upd_ne w]
   by_cases z:c=r
   ·subst z;exact⟨xs,L⟩
   ·rw[PL z]at f;exact g.lst c k f),λk s e=>?_⟩,A⟩
 ·by_cases q:c=a
  ·subst q;rw[af]at z;cases z
  ·rw[upd_ne q]at z
   by_cases w:c=r
   ·subst w;rw[L]at z;cases z
   ·have f:(if c=r then My (i+2)else B c)≠Po:=hc
    rw[PL w]at f;exact g.fr.occ c f z
 ·obtain⟨C,I⟩:=nb b l e
  obtain⟨b1,b2⟩:=ok.bgt b l e;refine⟨?_,?_,(ok.fr.bgA b l e).2.2⟩
  ·show(if b=r then My (i+2)else B b)≠Po
   rw[PL C,b1];simp
  ·show(if l=r then My (i+2)else B l)≠Po
   rw[PL I,b2];simp
 ·obtain⟨C,I⟩:=R b l e
  rw[upd_ne C,upd_ne I];exact g.fr.bag b l e
 ·obtain⟨C,I⟩:=nb b l e
  simp only[PL C,PL I];exact ok.bgt b l e
 ·by_cases z:c=a
  ·subst z;rw[af];simp
  ·rw[upd_ne z];exact g.cov c hc
 ·have f:(if c=r then My (i+2)else B c)=My (k+2):=hc
  by_cases z:c=r
  ·cases w:H₀ c with
   |none=>rfl
   |some o=>exact Ql (z▸r0) (ok.cov c (by rw[w];simp))
  ·rw[PL z]at f;exact ok.new c k f
 ·rw[Q2]at e
  by_cases q:i=k
  ·subst q
   rw[PP rfl]at e;split at e
   ·cases e
    have T:=RowL.snoc (P:=λc=>c=r\/B c=My (i+2)) (.inl rfl) L hd (RowL.tr (Tr.refl _ _) rl λc ys _ p y=>⟨.inr p,y⟩);have U:RowL K (FxB B bg) (upd H2 a (.lst (rs.map V.ref++[.ref r]))) (λc=>c=r\/B c=My (i+2)) (rows++[ds]) (rs++[r]):=RowL.tr (⟨λ_ n _=>n,λc o n h=>by rw[upd_ne (λz=>n (by subst z;show B c≠Po;rw[hB];simp))];exact h,rfl⟩) T λc ys hc p y=>⟨p,by
     rw[upd_ne (λz=>by
      subst z;rcases mem_snoc hc with w|w
      ·exact j w
      ·exact(QC.mp nd).1 w)]
     exact y⟩
    have W:∀c∈rs++[r],(if c=r then My (i+2)else B c)=My (i+2):=λc hc=>by
     rcases mem_snoc hc with w|w
     ·rw[PP w]
     ·split
      ·rfl
      ·exact own c w
    refine⟨_,hs,a,rs++[r],rfl,by simp only[PL j];exact hB,by rw[af,Qy];rfl,QC.mpr ⟨λz=>?_,xp (QC.mp nd).2 Q⟩,RowL.noL (F:=FxB B bg) (λc hc=>?_) (λw hw=>?_) U W⟩
    ·rcases mem_snoc z with w|w
     ·exact j w
     ·exact(QC.mp nd).1 w
    ·have f:(if c=r then My (i+2)else B c)≠Po:=hc
     by_cases w:c=r
     ·subst w;exact .inr ⟨xs,by rw[upd_ne j.symm];exact L⟩
     ·rw[PL w]at f;exact .inl f
    ·rcases mem_snoc hw with w|w
     ·subst w;exact hn
     ·exact O _ w
   ·cases e
  ·rw[PL q]at e
   obtain⟨v,h1,Y⟩:=ok.tell k s e;refine⟨v,h1,?_⟩;have na:∀c,B c=My (k+2)->c≠a:=λc m z=>by subst z;rw[hB]at m;cases m;exact q rfl
   have nr:∀c,H c≠Po->c≠r:=λc hc z=>hc (z▸r0);have k3:∀c o,H c=My o->B c=My (k+2)->upd H2 a (.lst (rs.map V.ref++[.ref r])) c=My o:=λc o h h'=>by
    rw[upd_ne (na c h')];exact kk c o h (by rw[h'];intro z;cases z)
   cases s with
   |sh d=>exact Den.tr tr _ _ Y
   |own cs=>
    obtain⟨c,zs,Z,m,J,e4⟩:=Y;exact⟨c,zs,Z,by simp only[PL (nr c (by rw[J];simp))];exact m,k3 c _ J m,DenL.tr tr _ _ e4⟩
   |grd rows2=>
    obtain⟨c,qs,Z,m,J,e4,e5⟩:=Y;exact⟨c,qs,Z,by simp only[PL (nr c (by rw[J];simp))];exact m,k3 c _ J m,e4,RowL.tr tr e5 λr' zs _ p y=>⟨by simp only[PL (nr r' (by rw[y];simp))];exact p,k3 r' _ y p⟩⟩
def pE(i:Nat)(f:FL):G:=λδ β=>match δ.getD i Po with
 |some (.grd rows)=>match f (vw δ) β with
  |some (.ok ds,β1)=>if(noLs ds&&rows.all noLs&&decide (rows.length<P0))=Pt then My (.nx (δ.set i (My (.grd (rows++[ds])))),β1)else Po
  |_=>Po
 |_=>Po
theorem LD(h:PS X st (su (tBM X.K "list" qb (kY i) (HV (tVO X.K f E) BU)))):PS X st (tG X.K X.H₀ (pE i f) E):=h.imp λD σ H O=>by
 obtain⟨B,bg,δ,β,o,β',ok,e,q⟩:=O;unfold pE at e;split at e
 ·rename_i rows P
  split at e
  ·rename_i ds β1 Q
   split at e
   ·rename_i hn
    cases e;rw[Qq,Qq]at hn;obtain⟨w,C,a,rs,rfl,hB,ha,nd,F⟩:=ok.tell i _ (getD_some P);refine⟨_,C,.inl ⟨rfl,_,SqL.of ha⟩,FxB B bg,vw δ,β,ok.fr,ok.view,.ok ds,_,Q,λv I J R=>?_⟩;obtain⟨r,xs,rfl,r0,k,dl⟩:=R;obtain⟨m,L⟩:=ok.to rfl J;have t:∀c,B c≠My 1->∀b l,bg=My (b,l)->c≠b/\c≠l:=λc j b l e=>⟨λz=>j (z▸(ok.bgt b l e).1),λz=>j (z▸(ok.bgt b l e).2)⟩;have u:∀c o,H c=My o->B c≠My 1->I c=My o:=λc o h n=>J.kp c o h (t c n);have N:∀c,B c=My (i+2)->B c≠My 1:=λc h=>by rw[h];intro z;cases z
    have d:=u a _ ha (N a hB);have g:RowL X.K (FxB B bg) I (λr=>B r=My (i+2)) rows rs:=RowL.tr L.tr F λc ys _ p y=>⟨p,u c _ y (N c p)⟩;refine⟨a,rs.map V.ref,.ref r,rfl,rfl,d,by rw[Pp,←g.len];exact R7 hn.2,?_⟩;obtain⟨W,A,T⟩:=SOk.addRow (i:=i) (r:=r) (ds:=ds) ok m L u C hB d ha nd g r0 k hn.1.1 (DenL.tr Fx.tr_of _ _ dl) (λc j z=>by
     obtain⟨_,ys,y⟩:=F.all c j;rw[y]at z;cases z) (λw U=>SE.mp hn.1.2 w U)
    exact q _ _ _ T A
   ·cases e
  ·cases e
 ·cases e
def MO:Dn->M (List (List D)):=λ_=>M.ret []
theorem Pa:PE X (.List [] pos) (tVG X.K MO E):=(e8 cW).imp λσ H Q b=>by
 obtain⟨F,δ,β,fr,c,_,_,e,k⟩:=b;cases e;exact⟨Q5 _,λp a=>k _ _ (fr.upd _ a) ⟨p,[],rfl,a,af,SJ _ _,trivial⟩⟩
end
end L2.Pu
namespace L2.Pu
open PySem L2.Hs
def kE(k:List Int):LI->LI
 |[]=>[k]
 |x::l=>if cB k x=Pt then k::x::l else if k=x then x::l else x::kE k l
theorem insU_mem:∀{l:LI},y∈kE k l↔y=k\/y∈l
 |[]=>by simp[kE]
 |x::l=>by
  unfold kE;split
  ·simp
  ·split
   ·rename_i h
    subst h;simp
   ·rw[PZ,insU_mem,PZ]
    exact or_left_comm
theorem wg:∀{l:LI},Up l->Up (kE k l)
 |[],_=>by unfold kE;exact SJ _ _
 |x::l,h=>by
  obtain⟨a,b⟩:=TV.mp h;unfold kE;split
  ·rename_i q
   refine TV.mpr ⟨λy hy=>?_,h⟩;rcases PZ.mp hy with rfl|hy
   ·exact q
   ·exact pe q (a y hy)
  ·split
   ·exact h
   ·rename_i q1 q2
    refine TV.mpr ⟨λy hy=>?_,wg b⟩;rcases insU_mem.mp hy with rfl|hy
    ·cases q:cB x y with
     |true=>rfl
     |false=>exact Ql (mE (by simpa using q1) q) q2
    ·exact a y hy
def k9(ks:LI):LI:=ks.foldr kE []
theorem mo:∀ks,Up (k9 ks)
 |[]=> .nil
 |k::ks=>wg (mo ks)
theorem d6:∀{ks:LI},y∈k9 ks↔y∈ks
 |[]=>by simp[k9]
 |k::ks=>by
  show y∈kE k (k9 ks)↔_;rw[insU_mem,d6,PZ]
theorem HP{l:LI}(h:Up l):l.Nodup:=h.imp λ{a b} q e=>by
 subst e;rw[iG]at q;cases q
theorem Lx{ks:LI}(b:∀k∈ks,1<=k.length){m:LI}(hm:m.length<63)(c:∀k∈ks,k∈m):ki (ks.map tpI)=My (.lst ((k9 ks).map tpI)):=by
 refine CA ⟨mo ks,Ry (lJ (HP (mo ks)) λx e=>c x (d6.mp e)) hm,λk a=>⟨b k (d6.mp a),P8.mpr ⟨k,d6.mp a,rfl⟩⟩,λd hd=>?_⟩;obtain⟨k,a,rfl⟩:=P8.mp hd;exact⟨k,d6.mpr a,rfl⟩
end L2.Pu
namespace L2.Nt
noncomputable def sm{α:Type}(l:List α)(f:α->Nat):Nat:=(l.map f).sum
section
variable{α β:Type}
theorem yP{f:α->Nat}:sm [] f=0:=rfl
theorem bj{a:α}{l:List α}{f:α->Nat}:sm (a::l) f=f a+sm l f:=by unfold sm;rw[P3,Qe]
theorem tH{l m:List α}{f:α->Nat}:sm (l++m) f=sm l f+sm m f:=by unfold sm;rw[Qy,Ux]
theorem c5:∀{l:List α},(∀a∈l,f a=g a)->sm l f=sm l g
 |[],_=>rfl
 |a::l,h=>by rw[bj,bj,h a PF,c5 λb c=>h b (Ps a c)]
theorem yQ{g:β->α}{f:α->Nat}{l:List β}:sm (l.map g) f=sm l λb=>f (g b):=by unfold sm;rw[PV];rfl
theorem vH{g:β->List α}{f:α->Nat}:∀{l:List β},sm (l.flatMap g) f=sm l λb=>sm (g b) f
 |[]=>rfl
 |b::l=>by rw[Ro,tH,bj,vH]
theorem vG:∀{l:List α},(sm l λ_=>0)=0
 |[]=>rfl
 |a::l=>by rw[bj,vG]
theorem yR:∀{l:List α},(sm l λa=>f a+g a)=sm l f+sm l g
 |[]=>rfl
 |a::l=>by rw[bj,bj,bj,yR];omega
theorem oC:∀{l:List α},(sm l λa=>c*f a)=c*sm l f
 |[]=>rfl
 |a::l=>by rw[bj,bj,oC,YC]
end
theorem IA:∀{n:Nat},m<=n->sm (PR (m+1)) f=sm (PR (n+1)) λa=>if a<=m then f a else 0
 |0,h=>by
  obtain rfl:m=0:=by omega
  exact c5 λa ha=>by
   have:=Qg.mp ha;rw[PP (by omega)]
 |n+1,h=>by
  rcases VA m (n+1)with q|q
  ·rw[Su (n:=n+1),tH,←IA (by omega:m<=n),bj,yP,PL (by omega)]
   omega
  ·obtain rfl:m=n+1:=by omega
   exact c5 λa ha=>by
    have:=Qg.mp ha;rw[PP (by omega)]
noncomputable def bx:List Nat->Nat->List (List Nat)
 |[],0=>[[]]
 |[],_+1=>[]
 |x::r,c=>(PR (Ve x c+1)).flatMap λa=>(bx r (c-a)).map (a::·)
noncomputable def less(r v:List Nat):List Nat:=Tj (·-·) r v
theorem yr:sm (bx (x::r) c) f=sm (PR (Ve x c+1)) λa=>sm (bx r (c-a)) λv=>f (a::v):=by
 show sm ((PR (Ve x c+1)).flatMap λa=>(bx r (c-a)).map (a::·)) f=_;rw[vH];exact c5 λa _=>yQ
end L2.Nt
namespace L2.Nt
open L2.Pu
noncomputable def ch:Nat->Nat->Nat
 |_,0=>1
 |0,_+1=>0
 |n+1,k+1=>ch n k+ch n (k+1)
theorem pM:∀{n k:Nat},n<k->ch n k=0
 |0,k+1,_=>by simp[ch]
 |n+1,k+1,h=>by
  show ch n k+ch n (k+1)=0;rw[pM (by omega),pM (by omega)]
theorem qD(n:Nat):ch n 0=1:=by cases n<;>rfl
theorem wz:∀n,ch n n=1
 |0=>rfl
 |n+1=>by
  show ch n n+ch n (n+1)=1;rw[wz n,pM (by omega)]
theorem pG(n:Nat):facN (n+1)=(n+1)*facN n:=QP (facN n) (n+1)
theorem lZ:∀n a b:Nat,a+b=n->ch (a+b) a*(facN a*facN b)=facN (a+b)
 |n,0,b,_=>by rw[qD];simp[facN]
 |n,a+1,0,_=>by rw[Nat.add_zero,wz];simp[facN]
 |0,a+1,b+1,h=>by omega
 |n+1,a+1,b+1,h=>by
  have c:=lZ n a (b+1) (by omega);have d:=lZ n (a+1) b (by omega);have e:a+1+(b+1)=(a+b+1)+1:=by omega
  have f:a+(b+1)=a+b+1:=by omega
  have g:a+1+b=a+b+1:=by omega
  rw[f]at c;rw[g]at d;rw[e];show(ch (a+b+1) a+ch (a+b+1) (a+1))*(facN (a+1)*facN (b+1))=facN (a+b+1+1);rw[pG (a+b+1),VU];have i:ch (a+b+1) a*(facN (a+1)*facN (b+1))=(a+1)*facN (a+b+1):=by
   rw[←c,pG a];simp only[QG,QJ,QP]
  have j:ch (a+b+1) (a+1)*(facN (a+1)*facN (b+1))=(b+1)*facN (a+b+1):=by
   rw[←d,pG b];simp only[QG,QJ,QP]
  rw[i,j,←VU,show a+1+(b+1)=a+b+1+1 by omega]
theorem mq:sm (PR (n+1)) f=f 0+sm (PR n) λa=>f (a+1):=by
 rw[XV,bj,yQ]
theorem BO:∀(x y c:Nat),(sm (PR (c+1)) λa=>ch x a*ch y (c-a))=ch (x+y) c
 |0,y,c=>by
  rw[mq,qD,YE,Nat.sub_zero,Rc];have:(sm (PR c) λa=>ch 0 (a+1)*ch y (c-(a+1)))=0:=(c5 λa _=>by rw[pM (by omega),Wu]).trans vG;rw[this];rfl
 |x+1,y,0=>by rw[mq];simp[qD,yP]
 |x+1,y,c+1=>by
  have b:=BO x y (c+1);have d:=BO x y c;rw[mq]at b;rw[mq];have e:(sm (PR (c+1)) λa=>ch (x+1) (a+1)*ch y (c+1-(a+1)))=(sm (PR (c+1)) λa=>ch x a*ch y (c-a))+sm (PR (c+1)) λa=>ch x (a+1)*ch y (c+1-(a+1)):=by
   rw[←yR];refine c5 λa _=>?_;show(ch x a+ch x (a+1))*_=_;rw[VU,Nat.add_sub_add_right]
  rw[e,d];have f:x+1+y=x+y+1:=by omega
  rw[f];show _=ch (x+y) c+ch (x+y) (c+1);rw[←b,qD,qD];omega
theorem vdm(x y c:Nat):(sm (PR (Ve x c+1)) λa=>ch x a*ch y (c-a))=ch (x+y) c:=by
 rw[IA (Nat.min_le_right x c),←BO];refine c5 λa ha=>?_;have:=Qg.mp ha;by_cases q:a<=x
 ·rw[PP (by omega)]
 ·rw[PL (by omega),pM (by omega),Wu]
def pc:List Nat->List Nat->Nat
 |x::r,a::v=>ch x a*pc r v
 |_,_=>1
theorem zj:∀(r:List Nat) (c:Nat),sm (bx r c) (pc r)=ch r.sum c
 |[],0=>rfl
 |[],c+1=>rfl
 |x::r,c=>by
  rw[yr,Qe,←vdm];exact c5 λa _=>by rw[←zj r (c-a),←oC];rfl
theorem dZ:∀{r:List Nat} {c:Nat} {v:List Nat},v∈bx r c->v.sum=c/\(less r v).sum+c=r.sum/\v.length=r.length/\pr (r.map facN)=pc r v*(pr (v.map facN)*pr ((less r v).map facN))
 |[],0,v,h=>by cases Qt.mp h;exact⟨rfl,rfl,rfl,rfl⟩
 |[],c+1,v,h=>by cases h
 |x::r,c,v,h=>by
  have h':v∈(PR (Ve x c+1)).flatMap λa=>(bx r (c-a)).map (a::·):=h;obtain⟨a,ha,d⟩:=Sg.mp h';obtain⟨u,e,rfl⟩:=P8.mp d;have f:=Qg.mp ha;obtain⟨g,i,j,k⟩:=dZ e;refine⟨by rw[Qe,g];omega,?_,by rw[Qd,j,Qd],?_⟩
  ·show((x-a)::less r u).sum+c=_
   rw[Qe,Qe,←i];omega
  ·show facN x*pr (r.map facN)=(ch x a*pc r u)*((facN a*pr (u.map facN))*(facN (x-a)*pr ((less r u).map facN)))
   have b:=lZ x a (x-a) (by omega);rw[show a+(x-a)=x by omega]at b;rw[k,←b];simp only[QG,QJ,QP]
def mu:List Nat->Nat
 |[]=>1
 |x::r=>ch (x+r.sum) x*mu r
theorem f6:∀r:List Nat,mu r*pr (r.map facN)=facN r.sum
 |[]=>rfl
 |x::r=>by
  show(ch (x+r.sum) x*mu r)*(facN x*pr (r.map facN))=facN (x::r).sum;rw[Qe,←lZ _ x r.sum rfl,←f6 r];simp only[QG,QJ,QP]
theorem mv(r:List Nat):0<pr (r.map facN):=zc λx a=>by
 obtain⟨n,_,rfl⟩:=P8.mp a;exact iI n
theorem Mn(r:List Nat):facN r.sum/pr (r.map facN)=mu r:=by rw[←f6,Nat.mul_div_cancel _ (mv r)]
def dls:List Nat->List Nat->Nat
 |_,[]=>1
 |r,c::cs=>sm (bx r c) λv=>mu v*dls (less r v) cs
theorem HE:∀{r:List Nat},r.sum=0->mu r=1
 |[],_=>rfl
 |x::r,h=>by
  rw[Qe]at h;obtain rfl:x=0:=by omega
  show ch _ 0*mu r=1;rw[qD,HE (by omega)]
theorem pJ:∀(cs r:List Nat),r.sum=cs.sum->dls r cs=mu r
 |[],r,h=>(HE h).symm
 |c::cs,r,h=>by
  rw[Qe]at h;refine Td (mv r) ?_;rw[f6];show sm (bx r c) (λv=>mu v*dls (less r v) cs)*_=_;rw[QP,←oC];have e:(sm (bx r c) λv=>pr (r.map facN)*(mu v*dls (less r v) cs))=sm (bx r c) λv=>(facN c*facN (r.sum-c))*pc r v:=by
   refine c5 λv a=>?_;obtain⟨b,f,g,d⟩:=dZ a;rw[pJ cs (less r v) (by omega),d];have m1:=f6 v;have m2:=f6 (less r v);rw[b]at m1;rw[show(less r v).sum=r.sum-c by omega]at m2;rw[←m1,←m2];simp only[QG,QJ,QP]
  rw[e,oC,zj,QP];have:=lZ r.sum c (r.sum-c) (by omega);rw[show c+(r.sum-c)=r.sum by omega]at this;exact this
def LeN:List Nat->List Nat->Prop
 |[],[]=>True
 |a::v,x::r=>a<=x/\LeN v r
 |_,_=>False
theorem LeN.refl:∀r,LeN r r
 |[]=>trivial
 |_::r=>⟨PN _,LeN.refl r⟩
theorem LeN.tr:∀{u v r:List Nat},LeN u v->LeN v r->LeN u r
 |[],[],[],_,_=>trivial
 |_::_,_::_,_::_,h,q=>⟨Qc h.1 q.1,h.2.tr q.2⟩
 |[],_::_,_,h,_=>h.elim
 |_::_,[],_,h,_=>h.elim
 |[],[],_::_,_,q=>q.elim
 |_::_,_::_,[],_,q=>q.elim
theorem LeN.len:∀{v r:List Nat},LeN v r->v.length=r.length
 |[],[],_=>rfl
 |_::_,_::_,h=>QV (·+1) h.2.len
 |[],_::_,h=>h.elim
 |_::_,[],h=>h.elim
theorem LeN.less:∀{v r:List Nat},LeN v r->LeN (less r v) r
 |[],[],_=>trivial
 |a::v,x::r,h=>⟨Nat.sub_le x a,h.2.less⟩
 |[],_::_,h=>h.elim
 |_::_,[],h=>h.elim
theorem LeN.pr:∀{v r:List Nat},LeN v r->L2.Pu.pr (v.map (·+1))<=L2.Pu.pr (r.map (·+1))
 |[],[],_=>PN _
 |_::_,_::_,h=>Xm (Nat.succ_le_succ h.1) h.2.pr
 |[],_::_,h=>h.elim
 |_::_,[],h=>h.elim
theorem LeN.sum:∀{v r:List Nat},LeN v r->v.sum<=r.sum
 |[],[],_=>PN _
 |_::_,_::_,h=>by rw[Qe,Qe];exact VT h.1 h.2.sum
 |[],_::_,h=>h.elim
 |_::_,[],h=>h.elim
theorem bT:∀{r:List Nat} {c:Nat} {v:List Nat},v∈bx r c->LeN v r
 |[],0,v,h=>by cases Qt.mp h;exact trivial
 |[],c+1,v,h=>by cases h
 |x::r,c,v,h=>by
  have h':v∈(PR (Ve x c+1)).flatMap λa=>(bx r (c-a)).map (a::·):=h;obtain⟨a,ha,b⟩:=Sg.mp h';obtain⟨u,d,rfl⟩:=P8.mp b;have e:=Qg.mp ha;exact⟨by omega,bT d⟩
theorem kD:∀{r v:List Nat},LeN v r->v∈bx r v.sum
 |[],[],_=>Qt.mpr rfl
 |x::r,a::v,h=>by
  refine Sg.mpr ⟨a,Qg.mpr (by rw[Qe];have:=h.1;omega),P8.mpr ⟨v,?_,rfl⟩⟩;rw[Qe,T0];exact kD h.2
 |[],_::_,h=>h.elim
 |_::_,[],h=>h.elim
theorem mQ{α a:Type}{f:α->List a}{n:Nat}:∀{l:List α},(∀x∈l,(f x).length<=n)->(l.flatMap f).length<=l.length*n
 |[],_=>by simp
 |x::l,h=>by
  rw[Ro,Qf,Qd,X6,UK];exact VT (mQ λy b=>h y (Ps _ b)) (h x PF)
theorem iN:∀(r:List Nat) (c:Nat),(bx r c).length<=pr (r.dropLast.map (·+1))
 |[],0=>PN _
 |[],_+1=>Q5 _
 |[x],c=>by
  have h:bx [x] c=(PR (Ve x c+1)).flatMap λa=>(bx [] (c-a)).map (a::·):=rfl;rw[h,Su,Tu,Qf];have e:((PR (Ve x c)).flatMap λa=>(bx [] (c-a)).map (a::·))=[]:=by
   refine SG.mpr λa ha=>?_;have:=Qg.mp ha;obtain⟨n,hn⟩:∃n,c-a=n+1:=⟨c-a-1,by omega⟩;rw[hn];rfl
  rw[e];cases q:c-Ve x c<;>simp[bx,q,pr]
 |x::y::r,c=>by
  have h:=mQ (l:=PR (Ve x c+1)) (f:=λa=>(bx (y::r) (c-a)).map (a::·)) (n:=pr ((y::r).dropLast.map (·+1))) λa _=>by rw[Pp];exact iN (y::r) (c-a)
  rw[Qp]at h;refine Qc h ?_;show _<=(x+1)*pr ((y::r).dropLast.map (·+1));exact YD _ (by omega)
theorem BN{r:List Nat}(h:r.sum<m):bx r m=[]:=List.eq_nil_iff_forall_not_mem.mpr λv a=>by
 have:=dZ a;omega
theorem xU{α β a:Type}{f:α->List β}{g:β->List a}(l:List α):(l.flatMap f).flatMap g=l.flatMap λx=>(f x).flatMap g:=List.flatMap_assoc
theorem xi(r:List Nat)(k:Nat):pr ((r.take k).map (·+1))<=pr (r.map (·+1)):=by
 conv=>rhs;rw[←Sj k r,Qy,ud]
 exact XW _ (zc λx a=>by
  obtain⟨n,_,rfl⟩:=P8.mp a;omega)
theorem sE(l:List Nat):(nI l).map Int.toNat=l:=by
 rw[PV];exact(Qs λx _=>rfl).trans (List.map_id l)
theorem iZ(h:nI l=nI m):l=m:=by rw[←sE l,h,sE]
theorem zx{α a:Type}{f:α->a}{l:List α}(h:(l.map f).Nodup):l.Nodup:=(U4.mp h).imp λq e=>q (QV f e)
theorem zy{α c:Type}{f:α->c}(inj:∀a b,f a=f b->a=b){l:List α}(h:l.Nodup):(l.map f).Nodup:=U4.mpr (h.imp λq e=>q (inj _ _ e))
theorem eD{cs:List Nat}(h:k<cs.length):cs.drop k=cs.getD k 0::cs.drop (k+1):=by
 rw[QX h,Px,Pw h];rfl
noncomputable def okB:List (Nat×Nat)->List Nat->Bool
 |p::ps,a::v=>decide (p.1<=a)&&decide (a<=p.2)&&okB ps v
 |_,_=>Pt
def vB(ps:List (Nat×Nat))(r:List Nat)(c:Nat):List (List Nat):=(bx r c).filter (okB ps)
theorem Le(h:v∈vB ps r c):v∈bx r c:=(R9.mp h).1
theorem vx{p:Nat×Nat}:vB (p::ps) (x::r) c=(PR (Ve x c+1)).flatMap λa=>if p.1<=a/\a<=p.2 then(vB ps r (c-a)).map (a::·)else[]:=by
 show((PR (Ve x c+1)).flatMap λa=>(bx r (c-a)).map (a::·)).filter (okB (p::ps))=_;rw[List.filter_flatMap];refine QV (List.flatMap · _) (funext λa=>?_);rw[List.filter_map];by_cases q:p.1<=a/\a<=p.2
 ·rw[PP q]
  refine QV (Rb (a::·)) (List.filter_congr λv _=>?_);show(decide (p.1<=a)&&decide (a<=p.2)&&okB ps v)=okB ps v;rw[P9 q.1,P9 q.2];rfl
 ·rw[PL q,List.filter_eq_nil_iff.mpr,T7]
  intro v _ h;have h:(decide (p.1<=a)&&decide (a<=p.2)&&okB ps v)=Pt:=h;simp only[Qq,QI]at h;exact q h.1
noncomputable def tps:List (Nat×Nat)->List Nat->List Nat
 |p::ps,x::r=>Ve x p.2::tps ps r
 |_,_=>[]
noncomputable def los(ps:List (Nat×Nat)):List Nat:=ps.map (·.1)
theorem HN:∀{ps:List (Nat×Nat)} {r:List Nat} {c:Nat} {v:List Nat},ps.length=r.length->v∈vB ps r c->(los ps).sum<=c/\c<=(tps ps r).sum
 |[],[],c,v,_,h=>by
  have:=dZ (Le h);simp at this;simp[los,tps];omega
 |p::ps,x::r,c,v,e,h=>by
  rw[vx]at h;obtain⟨a,ha,h⟩:=Sg.mp h;by_cases q:p.1<=a/\a<=p.2
  ·rw[PP q]at h
   obtain⟨u,b,rfl⟩:=P8.mp h;have i:=HN (by simpa using e) b;have:=Qg.mp ha;simp only[los,tps,P3,Qe]at i⊢;omega
  ·rw[PL q]at h;cases h
noncomputable def nxB(x:Nat)(p:Nat×Nat)(few a:Nat)(b:List Nat×Nat):List (List Nat×Nat):=(PR (Ve (Ve x p.2+few) b.2+1-few-max p.1 (b.2-a))).map λi=>(b.1++[max p.1 (b.2-a)+i],b.2-(max p.1 (b.2-a)+i))
def stB(ps:List (Nat×Nat))(r:List Nat)(c:Nat):Nat->List (List Nat×Nat)
 |0=>[([],c)]
 |k+1=>(stB ps r c k).flatMap (nxB (r.getD k 0) (ps.getD k (0,0)) ((los ps).drop (k+1)).sum ((tps ps r).drop (k+1)).sum)
theorem z9{b:Type}{f:Nat->List b}{lo n N:Nat}(h:∀a<N,f a≠[]->lo<=a/\a<n)(hn:n<=N):(PR N).flatMap f=(PR (n-lo)).flatMap λi=>f (lo+i):=by
 have e:∀{a},a<N->¬(lo<=a/\a<n)->f a=[]:=λ{a} ha q=>S7 λz=>q (h a ha z);obtain⟨d,rfl⟩:∃d,N=n+d:=⟨N-n,by omega⟩;have z:(PR d).flatMap (λa=>f (n+a))=[]:=SG.mpr λa ha=>e (by have:=Qg.mp ha;omega) (by omega);rw[List.range_add,Tu,Wz,z,Qx];rcases Nat.le_total lo n with q|q
 ·obtain⟨m,rfl⟩:∃m,n=lo+m:=⟨n-lo,by omega⟩
  rw[List.range_add,Tu,SG.mpr λa ha=>e (by have:=Qg.mp ha;omega) (by have:=Qg.mp ha;omega),SZ,Wz,T0]
 ·rw[show n-lo=0 by omega,SG.mpr λa ha=>e (by have:=Qg.mp ha;omega) (by have:=Qg.mp ha;omega)];rfl
theorem tq:∀{ps:List (Nat×Nat)} {r:List Nat} (k:Nat),tps (ps.drop k) (r.drop k)=(tps ps r).drop k
 |_,_,0=>rfl
 |[],r,k+1=>by simp[tps]
 |p::ps,[],k+1=>by cases h:(ps.drop k)<;>simp[tps,h]
 |p::ps,x::r,k+1=>tq k
theorem gy{α:Type}{l:List α}{k:Nat}{d:α}(h:k<l.length):l.getD k d=l[k]:=by rw[Px,Pw h];rfl
theorem pF{α a:Type}{f g:α->List a}:∀{l:List α},(∀x∈l,f x=g x)->l.flatMap f=l.flatMap g
 |[],_=>rfl
 |x::l,h=>by rw[Ro,Ro,h x PF,pF λy b=>h y (Ps _ b)]
theorem vF{ps:List (Nat×Nat)}{r:List Nat}(e:ps.length=r.length)(c:Nat):∀k,k<=r.length->((stB ps r c k).flatMap λb=>(vB (ps.drop k) (r.drop k) b.2).map (b.1++·))=vB ps r c
 |0,_=>by simp[stB]
 |k+1,h=>by
  rw[←vF e c k (by omega)];show((stB ps r c k).flatMap _).flatMap _=_;rw[xU];refine QV (List.flatMap · (stB ps r c k)) (funext λb=>?_);have g:k<r.length:=by omega
  have j:k<ps.length:=by omega
  rw[QX g,QX j,gy g,gy j,vx,SI];rw[z9 (f:=λa=>(if ps[k].1<=a/\a<=ps[k].2 then(vB (ps.drop (k+1)) (r.drop (k+1)) (b.2-a)).map (a::·)else[]).map (b.1++·)) (N:=Ve r[k] b.2+1) (lo:=max ps[k].1 (b.2-((tps ps r).drop (k+1)).sum)) (n:=Ve (Ve r[k] b.2+1) (Ve (Ve r[k] ps[k].2+((los ps).drop (k+1)).sum) b.2+1-((los ps).drop (k+1)).sum)) (λa o ha=>?_) (Nat.min_le_left _ _)]
  ·unfold nxB
   rw[Wz,show Ve (Ve r[k] b.2+1) (Ve (Ve r[k] ps[k].2+((los ps).drop (k+1)).sum) b.2+1-((los ps).drop (k+1)).sum)=Ve (Ve r[k] ps[k].2+((los ps).drop (k+1)).sum) b.2+1-((los ps).drop (k+1)).sum by omega];refine pF λi l=>?_;have:=Qg.mp l;rw[PP (by omega),PV];exact Qs λv _=>by simp
  ·by_cases q:ps[k].1<=a/\a<=ps[k].2
   ·rw[PP q]at ha
    obtain⟨w,d⟩:=List.exists_mem_of_ne_nil _ ha;obtain⟨w,d,_⟩:=P8.mp d;obtain⟨v,m,_⟩:=P8.mp d;have:=HN (by simp[e]) m;rw[tq]at this;unfold los at this⊢;rw[Ul]at this;omega
   ·rw[PL q]at ha;exact Ql rfl ha
theorem Ld(c:Nat):vB [] [] c=if(c:Int)=0 then[[]]else[]:=by
 cases c with
 |zero=>rfl
 |succ n=>rw[PL (by omega)];rfl
theorem JR{ps:List (Nat×Nat)}{r:List Nat}(a:ps.length=r.length)(c:Nat):((stB ps r c r.length).filter λb=>decide ((b.2:Int)=0)).map (·.1)=vB ps r c:=by
 rw[←vF a c r.length (PN _),Tg,←a,Tg,a];generalize stB ps r c r.length=l
 induction l with
 |nil=>rfl
 |cons b l ih=>
  rw[Ro,Vn,←ih,Ld];by_cases q:(b.2:Int)=0
  ·rw[PP q,PP (P9 q)];simp
  ·rw[PL q,PL (by simp;omega)];rfl
theorem vE{r:List Nat}(c:Nat):∀k,k<=r.length->(stB ps r c k).length<=pr ((r.take k).map (·+1))
 |0,_=>PN _
 |k+1,h=>by
  have e:r[k]?=My r[k]:=Pw (by omega);rw[qe e];refine Qc (mQ (n:=r[k]+1) λb _=>?_) (YD _ (vE c k (by omega)));unfold nxB;rw[Pp,Qp,gy (show k<r.length by omega)];omega
theorem yM(ps:List (Nat×Nat))(r:List Nat)(c:Nat):∀k,∀b∈stB ps r c k,b.2<=c/\b.1.length=k
 |0,b,h=>by cases Qt.mp h;exact⟨PN _,rfl⟩
 |k+1,b,h=>by
  obtain⟨d,hd,a⟩:=Sg.mp (show b∈(stB ps r c k).flatMap _ from h);obtain⟨i,_,rfl⟩:=P8.mp a;obtain⟨q1,q2⟩:=yM ps r c k d hd;exact⟨by show d.2-_<=c;omega,by rw[Qf,q2];rfl⟩
theorem yy:∀{ps:List (Nat×Nat)} {r:List Nat},(tps ps r).sum<=r.sum
 |[],r=>Q5 _
 |_::_,[]=>PN _
 |p::ps,x::r=>by
  have:=yy (ps:=ps) (r:=r);simp only[tps,Qe];omega
theorem ul:∀{r v:List Nat} {c:Nat},r.sum<=c->LeN v r->okB (r.map λ_=>(0,c)) v=Pt
 |[],[],_,_,_=>rfl
 |x::r,a::v,c,h,q=>by
  rw[Qe]at h;show(decide (0<=a)&&decide (a<=c)&&okB (r.map λ_=>(0,c)) v)=Pt;rw[ul (by omega) q.2,P9 (Q5 a),P9 (by have:=q.1;omega)];rfl
 |[],_::_,_,_,h=>h.elim
 |_::_,[],_,_,h=>h.elim
abbrev Wy:=Nat->List Nat->List (List Nat)
def WOk(cs:List Nat)(W:Wy):Prop:=∀k r,(W k r).Sublist (bx r (cs.getD k 0))
def nwI(W:Wy)(L:List (List Nat))(k:Nat):LI:=L.flatMap λr=>(W k r).map λv=>nI (less r v)
def nwL(W:Wy)(L:List (List Nat))(k:Nat):List (List Nat):=(k9 (nwI W L k)).map λk=>k.map Int.toNat
section
variable{W:Wy}{cs rs:List Nat}
theorem jZ:y∈nwI W L k↔∃r∈L,∃v∈W k r,y=nI (less r v):=by
 unfold nwI;constructor
 ·intro h
  obtain⟨r,a,h⟩:=Sg.mp h;obtain⟨v,b,rfl⟩:=P8.mp h;exact⟨r,a,v,b,rfl⟩
 ·rintro⟨r,a,v,b,rfl⟩
  exact Sg.mpr ⟨r,a,P8.mpr ⟨v,b,rfl⟩⟩
theorem xo(L:List (List Nat))(k:Nat):(nwL W L k).map nI=k9 (nwI W L k):=by
 unfold nwL;rw[PV];refine(Qs λy a=>?_).trans (List.map_id _);obtain⟨r,_,v,_,rfl⟩:=jZ.mp (d6.mp a);show nI ((nI _).map Int.toNat)=_;rw[sE];rfl
theorem mD:u∈nwL W L k↔∃r∈L,∃v∈W k r,u=less r v:=by
 constructor
 ·intro h
  have:nI u∈k9 (nwI W L k):=by rw[←xo];exact P8.mpr ⟨u,h,rfl⟩
  obtain⟨r,a,v,b,e⟩:=jZ.mp (d6.mp this);exact⟨r,a,v,b,iZ e⟩
 ·rintro⟨r,a,v,b,rfl⟩
  exact P8.mpr ⟨nI (less r v),d6.mpr (jZ.mpr ⟨r,a,v,b,rfl⟩),sE _⟩
def lvW(W:Wy)(rs:List Nat):Nat->List (List Nat)
 |0=>[rs]
 |k+1=>nwL W (lvW W rs k) k
theorem uy:∀k,(lvW W rs k).Nodup
 |0=>SJ _ _
 |k+1=>zx (f:=nI) (by show(Rb nI (nwL _ _ _)).Nodup;rw[xo];exact HP (mo _))
theorem i6(b:WOk cs W)(hs:rs.sum=cs.sum):∀k,k<=cs.length->∀r∈lvW W rs k,LeN r rs/\r.sum=(cs.drop k).sum
 |0,_,r,h=>by cases Qt.mp h;exact⟨LeN.refl _,hs⟩
 |k+1,hk,u,h=>by
  obtain⟨r,c,v,a,rfl⟩:=mD.mp (show u∈nwL W (lvW W rs k) k from h);have a:=(b k r).subset a;obtain⟨q1,q2⟩:=i6 b hs k (by omega) r c;have q3:=(dZ a).2.1;rw[q2,eD (by omega),Qe]at q3;exact⟨(bT a).less.tr q1,by omega⟩
theorem KC(a:WOk cs W)(hs:rs.sum=cs.sum)(b:k<=cs.length):(lvW W rs k).length<=pr (rs.dropLast.map (·+1)):=
 Qc (lJ (uy k) (m:=bx rs (cs.drop k).sum) λr c=>by
  obtain⟨d,e⟩:=i6 a hs k b r c;rw[←e];exact kD d) (iN _ _)
theorem Kx(a:WOk cs W)(hs:rs.sum=cs.sum)(e:1<=rs.length)(f:pr (rs.dropLast.map (·+1))<63)(g:k<cs.length):ki ((nwI W (lvW W rs k) k).map tpI)=My (.lst ((lvW W rs (k+1)).map λr=>tpI (nI r))):=by
 refine(Lx (m:=(bx rs (cs.drop (k+1)).sum).map nI) ?_ (by rw[Pp];exact Ry (iN _ _) f) ?_).trans ?_
 ·intro x b
  obtain⟨r,c,v,d,rfl⟩:=jZ.mp b;rw[Pp,((bT ((a k r).subset d)).less.tr (i6 a hs k (by omega) r c).1).len];exact e
 ·intro x b
  obtain⟨r,c,v,d,rfl⟩:=jZ.mp b;obtain⟨q1,q2⟩:=i6 a hs (k+1) g (less r v) (mD.mpr ⟨r,c,v,d,rfl⟩);exact P8.mpr ⟨less r v,by rw[←q2];exact kD q1,rfl⟩
 ·rw[←xo,PV];rfl
def kyW(W:Wy)(rs:List Nat)(n:Nat):List (Int×List Int):=(PR n).flatMap λk=>(lvW W rs k).map λr=>((k:Int),nI r)
theorem zQ:∀n,(kyW W rs n).Nodup
 |0=>List.nodup_nil
 |n+1=>by
  unfold kyW;rw[Su,Tu,Ro,List.flatMap_nil,Qx];refine U3.mpr ⟨zQ n,zy (λr s e=>iZ (UG.mp e).2) (uy n),λx a y b e=>?_⟩;subst e;obtain⟨k,c,h⟩:=Sg.mp a;obtain⟨r,_,rfl⟩:=P8.mp h;obtain⟨s,_,e⟩:=P8.mp b;have:=(UG.mp e).1;have d:=Qg.mp c;simp only at this;omega
def tbW(W:Wy):Nat->Nat->List Nat->Nat
 |0,_,_=>1
 |j+1,k,r=>sm (W k r) λv=>tbW W j (k+1) (less r v)
def dlW(W:Wy):Nat->Nat->List Nat->Nat
 |0,_,_=>1
 |j+1,k,r=>sm (W k r) λv=>mu v*dlW W j (k+1) (less r v)
theorem yO{α:Type}{f g:α->Nat}{l m:List α}(h:l.Sublist m)(q:∀a∈m,f a<=g a):sm l f<=sm m g:=by
 induction h with
 |slnil=>exact PN _
 |cons a _ ih=>rw[bj];exact Qc (ih λx b=>q x (Ps _ b)) (Nat.le_add_left _ _)
 |cons_cons a _ ih=>rw[bj,bj];exact VT (q a PF) (ih λx b=>q x (Ps _ b))
theorem uS(a:WOk cs W):∀(j k:Nat) (r:List Nat),k+j=cs.length->dlW W j k r<=dls r (cs.drop k)
 |0,k,r,h=>by rw[show k=cs.length by omega,Tg];exact PN _
 |j+1,k,r,h=>by
  rw[eD (by omega)];exact yO (a k r) λv _=>V6 _ (uS a j (k+1) (less r v) (by omega))
end
section
variable{W:Wy}{rs cs:List Nat}
end
def stW(W:Wy)(j k:Nat)(r:List Nat):List (List Nat):=(W k r).filter λv=>decide ((0:Int)<((tbW W j (k+1) (less r v):Nat):Int))
def fal(f:List Nat->Nat):List (List Nat)->Nat->List Nat×Nat
 |[],n=>([],n)
 |v::l,n=>if n<f v then(v,n)else fal f l (n-f v)
theorem uO:∀{l:List (List Nat)} {n:Nat},n<sm l f->(fal f l n).1∈l/\(fal f l n).2<f (fal f l n).1
 |[],n,h=>by cases h
 |v::l,n,h=>by
  unfold fal;rw[bj]at h;by_cases q:n<f v
  ·rw[PP q];exact⟨PF,q⟩
  ·rw[PL q]
   obtain⟨a,b⟩:=uO (f:=f) (l:=l) (n:=n-f v) (by omega);exact⟨Ps _ a,b⟩
def ktW(W:Wy):Nat->Nat->List Nat->Nat->List (List Nat)
 |0,_,_,_=>[]
 |j+1,k,r,n=>(fal (λv=>tbW W j (k+1) (less r v)) (stW W j k r) n).1::ktW W j (k+1) (less r (fal (λv=>tbW W j (k+1) (less r v)) (stW W j k r) n).1) (fal (λv=>tbW W j (k+1) (less r v)) (stW W j k r) n).2
def Wk(W:Wy):Nat->List Nat->List (List Nat)->Prop
 |_,_,[]=>True
 |k,r,v::vs=>v∈W k r/\Wk W (k+1) (less r v) vs
section
variable{W:Wy}{cs:List Nat}
theorem tF{α:Type}{f:α->Nat}:∀{l:List α},sm (l.filter λv=>decide ((0:Int)<((f v:Nat):Int))) f=sm l f
 |[]=>rfl
 |v::l=>by
  rw[Vn];by_cases q:(0:Int)<((f v:Nat):Int)
  ·rw[PP (P9 q),bj,bj,tF]
  ·rw[PL (λz=>q (R7 z)),bj,tF];omega
theorem yL(j k:Nat)(r:List Nat):(sm (stW W j k r) λv=>tbW W j (k+1) (less r v))=tbW W (j+1) k r:=tF
theorem pi:∀{j k n:Nat} {r:List Nat},(ktW W j k r n).length=j
 |0,_,_,_=>rfl
 |j+1,k,n,r=>by unfold ktW;rw[Qd,pi]
theorem xF:∀{j k n:Nat} {r:List Nat},n<tbW W j k r->Wk W k r (ktW W j k r n)
 |0,_,_,_,_=>trivial
 |j+1,k,n,r,h=>by
  rw[←yL]at h;obtain⟨a,b⟩:=uO h;exact⟨(R9.mp a).1,xF b⟩
theorem xE{α:Type}{f:α->Nat}{a:α}:∀{l:List α},a∈l->f a<=sm l f
 |b::l,h=>by
  rw[bj];rcases PZ.mp h with rfl|h
  ·omega
  ·have:=xE (f:=f) h;omega
theorem s0:∀{j k:Nat} {r:List Nat} {vs:List (List Nat)},Wk W k r vs->vs.length=j->0<tbW W j k r
 |_,_,_,[],_,rfl=>Nat.one_pos
 |_,k,r,v::vs,h,rfl=>Qm (s0 h.2 rfl) (xE (f:=λv=>tbW W vs.length (k+1) (less r v)) h.1)
theorem Of{vs:List (List Nat)}(h:Wk W k r (v::vs))(e:vs.length=j):v∈stW W j k r:=R9.mpr ⟨h.1,P9 (by have:=s0 h.2 e;omega)⟩
def ahW(f:List Nat->Nat)(v:List Nat):List (List Nat)->Nat
 |[]=>0
 |u::l=>if u=v then 0 else f u+ahW f v l
def frW(W:Wy):Nat->List Nat->List (List Nat)->Nat
 |_,_,[]=>0
 |k,r,v::vs=>ahW (λu=>mu u*dlW W vs.length (k+1) (less r u)) v (stW W vs.length k r)+mu v*frW W (k+1) (less r v) vs
def dF(u v:List Nat):List Nat:=Tj (·+·) u v
def rsm(n:Nat):List (List Nat)->List Nat
 |[]=>P5 n 0
 |v::vs=>dF v (rsm n vs)
theorem uz:∀{v r:List Nat},v.length=r.length->less (dF v r) v=r/\LeN v (dF v r)
 |[],[],_=>⟨rfl,trivial⟩
 |x::v,y::r,h=>by
  obtain⟨a,b⟩:=uz (v:=v) (r:=r) (by simpa using h);refine⟨?_,Tt _ _,b⟩;show(x+y-x)::less (dF v r) v=_;rw[a,T0]
theorem u9:∀{v r:List Nat},LeN v r->dF v (less r v)=r
 |[],[],_=>rfl
 |x::v,y::r,h=>by
  show(x+(y-x))::dF v (less r v)=_;rw[u9 h.2,Nat.add_sub_cancel' h.1]
 |[],_::_,h=>h.elim
 |_::_,[],h=>h.elim
theorem fP:∀{vs:List (List Nat)},(∀v∈vs,v.length=n)->(rsm n vs).length=n
 |[],_=>RE
 |v::vs,h=>by
  show(Tj _ _ _).length=n;rw[V1,h v PF,fP λu a=>h u (Ps _ a),Nat.min_self]
theorem Lu:∀{r:List Nat},r.sum=0->r=P5 r.length 0
 |[],_=>rfl
 |x::r,h=>by
  rw[Qe]at h;obtain rfl:x=0:=by omega
  rw[Qd,Rj,←Lu (r:=r) (by omega)]
theorem me(a:WOk cs W):∀{vs:List (List Nat)} {k:Nat} {r:List Nat},Wk W k r vs->k+vs.length=cs.length->r.sum=(cs.drop k).sum->vs.map Rt=cs.drop k/\r=rsm r.length vs/\∀v∈vs,v.length=r.length
 |[],k,r,_,e,s=>by
  have f:cs.drop k=[]:=Rz (by simpa using e▸PN _);rw[f]at s⊢;exact⟨rfl,Lu s,λ_ h=>by cases h⟩
 |v::vs,k,r,h,e,s=>by
  rw[Qd]at e;have b:=(a k r).subset h.1;obtain⟨q1,q2,q3,_⟩:=dZ b;have le:=bT b;rw[eD (by omega),Qe]at s;obtain⟨g,c,d⟩:=me a h.2 (by omega) (by omega);have i:=le.less.len;rw[i]at c d;refine⟨by rw[eD (by omega),P3,g,q1],?_,λu hu=>?_⟩
  ·show r=dF v (rsm r.length vs)
   rw[←c,u9 le]
  ·rcases PZ.mp hu with rfl|hu
   ·exact q3
   ·exact d u hu
theorem HJ:∀{vs:List (List Nat)} {k:Nat},(∀v∈vs,v.length=n)->(∀i r v,vs[i]?=My v->LeN v r->v∈W (k+i) r)->Wk W k (rsm n vs) vs
 |[],_,_,_=>trivial
 |v::vs,k,h,hw=>by
  have b:∀u∈vs,u.length=n:=λu a=>h u (Ps _ a);obtain⟨c,d⟩:=uz (v:=v) (r:=rsm n vs) (by rw[h v PF,fP b]);refine⟨hw 0 _ v rfl d,?_⟩;show Wk W (k+1) (less (dF v (rsm n vs)) v) vs;rw[c];exact HJ b λi r u a le=>by
   have:=hw (i+1) r u a le;rwa[show k+(i+1)=k+1+i by omega]at this
end
theorem uc:∀{l:List Nat} {i x y:Nat},l[i]?=My x->pr (l.set i y)*x=pr l*y
 |a::l,0,x,y,h=>by
  cases h;show y*pr l*a=a*pr l*y;rw[QP y,QG,QP y a,←QG,QP (pr l) a]
 |a::l,i+1,x,y,h=>by
  have:=uc (l:=l) (i:=i) (x:=x) (y:=y) h;show a*pr (l.set i y)*x=a*pr l*y;rw[QG,this,QG]
theorem iD:∀{l:List Nat} {i x y:Nat},l[i]?=My x->(l.set i y).sum+x=l.sum+y
 |a::l,0,x,y,h=>by
  cases h;show(y::l).sum+a=(a::l).sum+y;rw[Qe,Qe];omega
 |a::l,i+1,x,y,h=>by
  have:=iD (l:=l) (i:=i) (x:=x) (y:=y) h;show(a::l.set i y).sum+x=(a::l).sum+y;rw[Qe,Qe];omega
theorem zC{v:List Nat}(h:v[i]?=My (x+1)):mu (v.set i x)*v.sum=mu v*(x+1):=by
 have s:=iD (y:=x) h;obtain⟨m,hm⟩:∃m,v.sum=m+1:=⟨v.sum-1,by omega⟩;have f1:=f6 v;have f2:=f6 (v.set i x);rw[show(v.set i x).sum=m by omega,R4]at f2;rw[hm,pG]at f1;have p:=uc (l:=v.map facN) (i:=i) (y:=facN x) (by rw[Py,h];rfl);rw[pG]at p;rw[hm];have z:=mv v;refine Td (mv v) ?_;have a:=iI x;refine Td a ?_;have g:pr ((v.map facN).set i (facN x))*((x+1)*facN x)=pr (v.map facN)*facN x:=p
 calc mu (v.set i x)*(m+1)*pr (v.map facN)*facN x=mu (v.set i x)*(m+1)*(pr (v.map facN)*facN x):=QG _ _ _
  _=mu (v.set i x)*(m+1)*(pr ((v.map facN).set i (facN x))*((x+1)*facN x)):=by rw[g]
  _=(mu (v.set i x)*pr ((v.map facN).set i (facN x)))*((m+1)*((x+1)*facN x)):=by simp only[QG,QJ,QP]
  _=facN m*((m+1)*((x+1)*facN x)):=by rw[f2]
  _=((m+1)*facN m)*((x+1)*facN x):=by simp only[QG,QJ,QP]
  _=(mu v*pr (v.map facN))*((x+1)*facN x):=by rw[f1]
  _=mu v*(x+1)*pr (v.map facN)*facN x:=by simp only[QG,QJ,QP]
theorem HL:∀(r:List Nat),(bx r r.sum).length<=1
 |[]=>PN _
 |x::r=>by
  have h:bx (x::r) (x::r).sum=(PR (Ve x (x+r.sum)+1)).flatMap λa=>(bx r (x+r.sum-a)).map (a::·):=by rw[Qe];rfl
  rw[h,show Ve x (x+r.sum)=x by omega,Su,Tu,Qf];have e:((PR x).flatMap λa=>(bx r (x+r.sum-a)).map (a::·))=[]:=by
   refine SG.mpr λa ha=>?_;have:=Qg.mp ha;rw[BN (by omega)];rfl
  rw[e,Ro,List.flatMap_nil,Qx,Pp,T0];have:=HL r;simpa using this
theorem LeN.dl:∀{u v:List Nat},LeN u v->LeN u.dropLast v.dropLast
 |[],[],_=>trivial
 |[_],[_],_=>trivial
 |_::_::_,_::_::_,h=>⟨h.1,h.2.dl⟩
 |[_],_::_::_,h=>h.2.elim
 |_::_::_,[_],h=>h.2.elim
 |[],_::_,h=>h.elim
 |_::_,[],h=>h.elim
theorem wY{α:Type}{f:α->Nat}{n:Nat}:∀{l:List α},(∀a∈l,f a<=n)->sm l f<=l.length*n
 |[],_=>Q5 _
 |a::l,h=>by
  rw[bj,Qd,X6,UK];exact VT (wY λb c=>h b (Ps _ c)) (h a PF)
theorem HU{cs rs:List Nat}(a:WOk cs W)(b:pr (rs.dropLast.map (·+1))<63):∀(j k:Nat) (r:List Nat),k+(j+1)=cs.length->r.sum=(cs.drop k).sum->LeN r rs->tbW W (j+1) k r<=62^j
 |0,k,r,e,s,_=>by
  rw[eD (by omega),Rz (by omega)]at s;have s':r.sum=cs.getD k 0:=by simpa using s
  refine Qc (wY (n:=1) λ_ _=>PN _) ?_;have:=(a k r).length_le;rw[←s']at this;have:=HL r;omega
 |j+1,k,r,e,s,le=>by
  refine Qc (wY (n:=62^j) λv c=>?_) ?_
  ·have hm:=(a k r).subset c
   have q:=(dZ hm).2.1;rw[eD (by omega),Qe]at s;exact HU a b j (k+1) (less r v) (by omega) (by omega) ((bT hm).less.tr le)
  ·rw[X5,QP]
   refine V6 _ ?_;have:=(a k r).length_le;have:=iN r (cs.getD k 0);have:=le.dl.pr;omega
theorem AI{cs:List Nat}(a:∀k r,k<cs.length->r.length=n->r.sum<=40->W k r=bx r (cs.getD k 0)):∀(j k:Nat) (r:List Nat),k+j=cs.length->r.length=n->r.sum<=40->dlW W j k r=dls r (cs.drop k)
 |0,k,r,e,_,_=>by rw[show k=cs.length by omega,Tg];rfl
 |j+1,k,r,e,l,s=>by
  rw[eD (by omega)];show sm (W k r) _=sm (bx r (cs.getD k 0)) _;rw[a k r (by omega) l s];refine c5 λv b=>?_;have q:=(dZ b).2.1;rw[AI a j (k+1) (less r v) (by omega) (by rw[(bT b).less.len,l]) (by omega)]
theorem sX{f:Nat->Nat->Nat}{x y:Nat}:∀{l m:List Nat} {i:Nat},m[i]?=My y->Tj f (l.set i x) m=(Tj f l m).set i (f x y)
 |[],_,_,_=>rfl
 |a::l,b::m,0,h=>by cases h;rfl
 |a::l,b::m,i+1,h=>QV (f a b::·) (sX (l:=l) (m:=m) (i:=i) h)
theorem l5:∀(u v:List Nat),dF u v=dF v u
 |[],[]=>rfl
 |[],_::_=>rfl
 |_::_,[]=>rfl
 |a::u,b::v=>by show(a+b)::dF u v=(b+a)::dF v u;rw[l5 u v,UK]
theorem va{u v:List Nat}{i x y:Nat}(a:u[i]?=My x)(b:v[i]?=My y):(dF u v)[i]?=My (x+y):=by
 unfold dF;rw[X0,a,b]
theorem vQ:∀{vs:List (List Nat)} {i j x:Nat} {v:List Nat},(∀v∈vs,v.length=n)->vs[j]?=My v->v[i]?=My (x+1)->∃y,(rsm n vs)[i]?=My (y+1)/\rsm n (vs.set j (v.set i x))=(rsm n vs).set i y
 |u::vs,i,0,x,v,h,h1,h2=>by
  cases h1;have a:∀w∈vs,w.length=n:=λw b=>h w (Ps _ b);have c:i<(rsm n vs).length:=by rw[fP a,←h u PF];exact(PU.mp h2).1
  have e:=Pw c;refine⟨x+(rsm n vs)[i],(va h2 e).trans (by congr 1;omega),sX e⟩
 |u::vs,i,j+1,x,v,h,h1,h2=>by
  have a:∀w∈vs,w.length=n:=λw b=>h w (Ps _ b);obtain⟨y,q1,q2⟩:=vQ (vs:=vs) (i:=i) (j:=j) (x:=x) (v:=v) a h1 h2;have c:i<u.length:=by
   have:=(PU.mp q1).1;rw[fP a]at this;rw[h u PF];exact this
  have e:=Pw c;refine⟨u[i]+y,(va e q1).trans (by congr 1),?_⟩;show dF u (rsm n (vs.set j (v.set i x)))=(dF u (rsm n vs)).set i _;rw[q2,l5,l5 u,UK];exact sX e
theorem p9:∀{vs:List (List Nat)},(∀v∈vs,v.length=n)->(rsm n vs).sum=(vs.map Rt).sum
 |[],_=>by
  have z:∀m,(P5 m 0).sum=0:=λm=>by
   induction m with
   |zero=>rfl
   |succ m ih=>rw[Rj,Qe,ih]
  exact z n
 |v::vs,h=>by
  have c:∀w∈vs,w.length=n:=λw d=>h w (Ps _ d);have s:∀{u w:List Nat},u.length=w.length->(dF u w).sum=u.sum+w.sum:=λ{u}=>by
   induction u with
   |nil=>intro w q;cases w with
    |nil=>rfl
    |cons=>simp at q
   |cons a u ih=>intro w q;cases w with
    |nil=>simp at q
    |cons b w=>
     show((a+b)::dF u w).sum=_;rw[Qe,Qe,Qe,ih (by simpa using q)];omega
  rw[P3,Qe,←p9 c];exact s (by rw[h v PF,fP c])
theorem tY:∀{vs:List (List Nat)},(∀v∈vs,v.length=n)->i<n->(rsm n vs).getD i 0=(vs.map λv=>v.getD i 0).sum
 |[],_,hi=>by
  show(P5 n 0).getD i 0=0;rw[Px,RO,PP hi];rfl
 |v::vs,h,hi=>by
  have a:∀w∈vs,w.length=n:=λw b=>h w (Ps _ b);have c:=h v PF;have d:=fP a;rw[P3,Qe,←tY a hi];show(dF v (rsm n vs)).getD i 0=_;rw[Px,va (Pw (by omega)) (Pw (by omega)),gy (by omega),gy (by omega)];rfl
theorem Mr(i:0<q)(j:0<q')(h:p*q'=p'*q):p/R5 p q=p'/R5 p' q'/\q/R5 p q=q'/R5 p' q':=by
 have d:0<R5 p q:=TL _ i;have f:0<R5 p' q':=TL _ j;have c0:=Xf d;have c1:=Xf f;obtain⟨b,n⟩:=Wt p q;obtain⟨a,o⟩:=WG p q;obtain⟨c,k⟩:=Wt p' q';obtain⟨l,m⟩:=WG p' q';generalize R5 p q=g at*;generalize R5 p' q'=g' at*;subst o n m k;rw[T3 _ d,T3 _ d]at*;rw[T3 _ f,T3 _ f]at*;have x:a*c=l*b:=by
  refine Xz (Uu d f) ?_
  calc g*g'*(a*c)=g*a*(g'*c):=by simp only[QG,QJ,QP]
   _=g'*l*(g*b):=h
   _=g*g'*(l*b):=by simp only[QG,QJ,QP]
 have d1:b∣c:=(c0.symm).dvd_of_dvd_mul_left (by rw[x];exact Nat.dvd_mul_left _ _);have d2:c∣b:=(c1.symm).dvd_of_dvd_mul_left (by rw[←x];exact Nat.dvd_mul_left _ _);have e:=Nat.dvd_antisymm d1 d2;subst e;have r:0<b:=Wf λz=>by rw[z]at i;simp at i
 exact⟨Td r x,rfl⟩
theorem thin{A b M a N S T U x c r:Nat}(d:b*c=A*x)(e:a*N=M*r)(f:T*(M*N)=A*S*U):(T*a*N*N+b*(r*c)*U)*(M*N)=A*(S+x)*(U*a*N*N):=by
 have k1:T*a*N*N*(M*N)=A*S*(U*a*N*N):=by
  calc T*a*N*N*(M*N)=T*(M*N)*(a*N*N):=by simp only[QG,QJ,QP]
   _=A*S*U*(a*N*N):=by rw[f]
   _=_:=by simp only[QG]
 have k2:b*(r*c)*U*(M*N)=A*x*(U*a*N*N):=by
  calc b*(r*c)*U*(M*N)=(b*c)*((M*r)*(U*N)):=by simp only[QG,QJ,QP]
   _=(A*x)*((a*N)*(U*N)):=by rw[d,e]
   _=_:=by simp only[QG,QJ,QP]
 rw[VU,k1,k2,YC,VU]
theorem HK:∀{j k:Nat} {r:List Nat} {vs:List (List Nat)},Wk W k r vs->vs.length=j->pr (vs.map mu)<=dlW W j k r
 |_,_,_,[],_,rfl=>PN _
 |_,k,r,v::vs,h,rfl=>Qc (V6 (mu v) (HK h.2 rfl)) (xE (f:=λv=>mu v*dlW W vs.length (k+1) (less r v)) h.1)
theorem LeN.set:∀{r:List Nat} {i y:Nat},r[i]?=My (y+1)->LeN (r.set i y) r
 |x::r,0,y,h=>by cases h;exact⟨T1 _,LeN.refl r⟩
 |x::r,i+1,y,h=>⟨PN _,LeN.set (r:=r) (i:=i) h⟩
theorem Lh{M:LI}{col:List Int}(e:∀c∈M,c.length=n)(d:M[j]?=My col)(f:i<n):tp n (M.set j (col.set i x))=(tp n M).set i ((M.map λc=>c.getD i 0).set j x):=by
 have g:=e col (Qb d);obtain⟨h,a⟩:=PU.mp d;refine Rv (by simp[tpA]) λk m r=>?_;have t:k<n:=by simpa[tpA]using m
 rw[List.getElem_set];by_cases q:i=k
 ·subst q
  rw[PP rfl];refine Rv (by simp[tpA]) λl b o=>?_;have p:l<M.length:=by simpa[tpA]using b
  by_cases z:j=l
  ·subst z
   simp[tpA,Px,g,f]
  ·simp[tpA,YA z]
 ·rw[PL q]
  refine Rv (by simp[tpA]) λl b o=>?_;have p:l<M.length:=by simpa[tpA]using b
  by_cases z:j=l
  ·subst z
   simp[tpA,Px,VP q,a]
  ·simp[tpA,YA z]
theorem mb(c:x<=2^a)(d:y<=2^b):x*y<=2^(a+b):=by rw[Nat.pow_add];exact Xm c d
end L2.Nt
namespace Law
open PySem L2 L2.Pu
open L2.Hs (uh zS kz v3)
noncomputable def top(i:Nat):Q6:=PySem.Challenge.pw_edgetally_k52_whole_thinned.main.body.getD i (.Pass ⟨0,0,0,0⟩)
abbrev yX:Q6:=top 14
abbrev lq:Q6:=top 15
abbrev lu:Q6:=top 16
abbrev iS:Q6:=top 17
abbrev kM:Q6:=top 18
abbrev m7:Q6:=top 20
abbrev yU:Q6:=top 21
abbrev oM:Q6:=top 22
abbrev qW:Q6:=top 24
abbrev kN:Q6:=top 25
abbrev kO:Q6:=top 26
abbrev qV:Q6:=top 27
abbrev m3:Q6:=top 28
abbrev qZ:Q6:=top 29
abbrev m8:Q6:=top 30
abbrev li:Q6:=top 33
abbrev ib:Q6:=top 34
abbrev ic:Q6:=top 35
abbrev jO:Q6:=top 36
abbrev iT:Q6:=top 37
abbrev kP:Q6:=top 38
abbrev jk:Q6:=top 39
abbrev jQ:Q6:=top 42
abbrev jj:Q6:=top 43
abbrev oN:Q6:=top 44
abbrev m6:Q6:=top 45
abbrev jo:Q6:=top 46
abbrev jl:Q6:=top 47
abbrev qU:Q6:=top 48
abbrev vO:Q6:=top 50
abbrev tT:Q6:=top 51
abbrev tU:Q6:=top 52
abbrev tR:Q6:=top 53
abbrev qY:Q6:=top 54
abbrev oI:Q6:=top 55
abbrev m4:Q6:=top 56
abbrev jP:Q6:=top 57
abbrev oK:Q6:=top 58
abbrev vN:Q6:=top 59
abbrev oJ:Q6:=top 60
abbrev qX:Q6:=top 61
abbrev jS:Q6:=aw (top 40) 0
abbrev lw:Q6:=aw (top 40) 7
abbrev jp:Q6:=aw (top 40) 6
abbrev kQ:Q6:=aw (top 40) 3
abbrev iU:Q6:=aw (top 40) 4
abbrev m9:Q6:=aw (top 40) 9
abbrev jR:Q6:=aw (top 40) 8
abbrev mr:Q6:=top 62
abbrev k4:Q6:=aw (top 2) 0
abbrev oz:Q6:=aw (top 3) 0
abbrev k7:Q6:=aw (top 4) 0
abbrev k6:Q6:=aw (top 7) 0
abbrev oy:Q6:=aw (top 8) 0
set_option genSizeOf false in
set_option genInjectivity false in
structure Ad where
 Aa:PD
 Ab:PD
 Ac:Qi
 Ae:PD
 Af:PD
 Ag:Qi
 Ah:PD
 Ai:PD
 Aj:Qi
 Ak:PD
 Al:PD
 Am:Qi
 An:PD
 Ao:PD
 Aq:Qi
 Ar:PD
 As:PD
 At:Qi
 Au:PD
 Av:Qi
 Aw:PD
 Ax:Qi
 Ay:PD
 Az:Qi
 A0:PD
 A1:Qi
 A2:PD
 A3:Qi
 A4:PD
 A5:Qi
 A6:PD
 A7:Qi
 A8:PD
 A9:Qi
 Ba:PD
 Bb:Qi
 Bc:PD
 Bd:Qi
 Be:PD
 Bf:Qi
 Bh:PD
 Bi:Qi
 Bj:PD
 Bk:Qi
 Bl:PD
 Bm:Qi
 Bn:PD
 Bo:Qi
 Bp:PD
 Bq:Qi
 Br:PD
 Bs:Qi
 Bt:PD
 Bu:Qi
 Bv:PD
 Bw:Qi
 Bx:PD
 By:Qi
 Bz:PD
 B0:Qi
 B5:PD
 B7:Qi
 B8:PD
 Ca:Qi
 Cb:PD
 Cc:Qi
 Cd:PD
 Cf:Qi
 Cg:PD
 Ch:Qi
 Ci:PD
 Cj:Qi
 Ck:PD
 Cl:Qi
 Cm:PD
 Cn:Qi
 Co:PD
 Cp:Qi
 Cq:PD
 Cr:Qi
 Cs:PD
 Ct:Qi
 Cu:PD
 Cv:Qi
 Cw:PD
 Cy:Qi
 Cz:PD
 C0:Qi
 C2:PD
 C3:Qi
 C4:PD
 C5:Qi
 C6:PD
 C7:Qi
 C8:PD
 C9:Qi
 Da:PD
 Db:Qi
 Dc:PD
 Dd:Qi
 Df:PD
 Dg:Qi
 Dh:PD
 Di:Qi
 Dj:PD
 Dl:Qi
 Dm:PD
 Do:Qi
 Dp:PD
 Dq:Qi
 Dr:PD
 Dt:Qi
 Du:PD
 Dv:Qi
structure Fns (K:P6) (mg:Qz->Option PH) (a:Ad):Prop where
 Dw:mg "ValueError"=Po
 Dx:mg "abs"=Po
 Dy:mg "any"=Po
 Dz:mg "enumerate"=Po
 D0:mg "isinstance"=Po
 D3:mg "len"=Po
 D4:mg "list"=Po
 D5:mg "max"=Po
 D6:mg "min"=Po
 D7:mg "range"=Po
 D8:mg "reversed"=Po
 D9:mg "sorted"=Po
 Ea:mg "sum"=Po
 Eb:mg "tuple"=Po
 Ec:mg "zip"=Po
 Ed:mW K mg "MOST" (.int 40)
 Ee:mW K mg "MOST_COLUMNS" (.int 6)
 Ef:mW K mg "MOST_ROWS" (.int 4)
 Eg:mW K mg "WIDE" (.int 500)
 Eh:FunD K "free" "free" yX a.As a.At
 Ei:mg "free"=My (.ref a.As)
 Ej:bQ K a.At ["rows","columns","pair"] [.tup [.int 0,.int 40]]
 Ek:FunD K "check_sums" "check_sums" lq a.Au a.Av
 El:mg "check_sums"=My (.ref a.Au)
 Em:ax K a.Av ["rowsums","columnsums"] []
 En:FunD K "check_pair" "check_pair" lu a.Aw a.Ax
 Eo:mg "check_pair"=My (.ref a.Aw)
 Ep:ax K a.Ax ["pair"] []
 Er:FunD K "settled_bounds" "settled_bounds" iS a.Ay a.Az
 Es:mg "settled_bounds"=My (.ref a.Ay)
 Et:ax K a.Az ["bounds","rows","columns"] []
 Eu:FunD K "rows_turned" "rows_turned" kM a.A0 a.A1
 Ev:mg "rows_turned"=My (.ref a.A0)
 Ew:ax K a.A1 ["rows"] []
 Ex:FunD K "factorial" "factorial" m7 a.A2 a.A3
 Ey:mg "factorial"=My (.ref a.A2)
 Ez:ax K a.A3 ["number"] []
 E2:FunD K "ways" "ways" yU a.A4 a.A5
 E3:mg "ways"=My (.ref a.A4)
 E4:ax K a.A5 ["parts"] []
 E5:FunD K "fillings" "fillings" oM a.A6 a.A7
 E6:mg "fillings"=My (.ref a.A6)
 E7:ax K a.A7 ["rests","many","pairs"] []
 E8:FunD K "need_of" "need_of" qW a.A8 a.A9
 E9:mg "need_of"=My (.ref a.A8)
 Fa:ax K a.A9 ["rowsums","over"] []
 Fb:FunD K "room_inside" "room_inside" kN a.Ba a.Bb
 Fc:mg "room_inside"=My (.ref a.Ba)
 Fd:ax K a.Bb ["columnsums","bounds","over","column"] []
 Fe:FunD K "room_beside" "room_beside" kO a.Bc a.Bd
 Ff:mg "room_beside"=My (.ref a.Bc)
 Fg:ax K a.Bd ["bounds","over","column"] []
 Fh:FunD K "room_of" "room_of" qV a.Be a.Bf
 Fi:mg "room_of"=My (.ref a.Be)
 Fj:ax K a.Bf ["columnsums","bounds","over","into"] []
 Fk:FunD K "narrowest" "narrowest" m3 a.Bh a.Bi
 Fl:mg "narrowest"=My (.ref a.Bh)
 Fm:ax K a.Bi ["columnsums","bounds","over"] []
 Fn:FunD K "choices" "choices" qZ a.Bj a.Bk
 Fo:mg "choices"=My (.ref a.Bj)
 Fp:ax K a.Bk ["many"] []
 Fq:FunD K "check_fit" "check_fit" m8 a.Bl a.Bm
 Fs:mg "check_fit"=My (.ref a.Bl)
 Ft:ax K a.Bm ["rowsums","columnsums","bounds"] []
 Fu:FunD K "check_wide" "check_wide" li a.Bn a.Bo
 Fw:mg "check_wide"=My (.ref a.Bn)
 Fy:ax K a.Bo ["rowsums"] []
 Fz:FunD K "settled_for_net" "settled_for_net" ib a.Bp a.Bq
 F4:mg "settled_for_net"=My (.ref a.Bp)
 F5:ax K a.Bq ["rowsums","columnsums","bounds"] []
 F6:FunD K "column_fillings" "column_fillings" ic a.Br a.Bs
 F7:mg "column_fillings"=My (.ref a.Br)
 F8:ax K a.Bs ["rests","columnsums","bounds","column"] []
 F9:FunD K "rests_behind" "rests_behind" jO a.Bt a.Bu
 Ga:mg "rests_behind"=My (.ref a.Bt)
 Gb:ax K a.Bu ["rests","counts"] []
 Gc:FunD K "nodes_by_level" "nodes_by_level" iT a.Bv a.Bw
 Gd:mg "nodes_by_level"=My (.ref a.Bv)
 Ge:ax K a.Bw ["rowsums","columnsums","bounds"] []
 Gf:FunD K "node_counts" "node_counts" kP a.Bx a.By
 Gg:mg "node_counts"=My (.ref a.Bx)
 Gh:ax K a.By ["rests","filled","behind"] []
 Gi:FunD K "counted_nodes" "counted_nodes" jk a.Bz a.B0
 Gj:mg "counted_nodes"=My (.ref a.Bz)
 Gk:ax K a.B0 ["rowsums","columnsums","bounds"] []
 Gm:FunD K "check_number" "check_number" jQ a.B5 a.B7
 Gn:mg "check_number"=My (.ref a.B5)
 Go:ax K a.B7 ["k","many"] []
 Gp:FunD K "steps_counted" "steps_counted" jj a.B8 a.Ca
 Gq:mg "steps_counted"=My (.ref a.B8)
 Gr:ax K a.Ca ["net","level","rests"] []
 Gs:FunD K "falls_to" "falls_to" oN a.Cb a.Cc
 Gu:mg "falls_to"=My (.ref a.Cb)
 Gv:ax K a.Cc ["numbered","k"] []
 Gx:FunD K "kth_table" "kth_table" m6 a.Cd a.Cf
 Gy:mg "kth_table"=My (.ref a.Cd)
 Gz:ax K a.Cf ["net","k"] []
 G0:FunD K "columns_asked" "columns_asked" jo a.Cg a.Ch
 G1:mg "columns_asked"=My (.ref a.Cg)
 G2:ax K a.Ch ["net","rows"] []
 G3:FunD K "counted_ahead" "counted_ahead" jl a.Ci a.Cj
 G4:mg "counted_ahead"=My (.ref a.Ci)
 G5:ax K a.Cj ["net","level","rests","filling"] []
 G6:FunD K "stretch" "stretch" qU a.Ck a.Cl
 G7:mg "stretch"=My (.ref a.Ck)
 G8:ax K a.Cl ["net","rows"] []
 G9:FunD K "_law_bag" "_law_bag" vO a.Cm a.Cn
 Ha:mg "_law_bag"=My (.ref a.Cm)
 Hb:ax K a.Cn ["_law_script"] []
 Hc:FunD K "_law_pull" "_law_pull" tT a.Co a.Cp
 Hd:mg "_law_pull"=My (.ref a.Co)
 He:ax K a.Cp ["_law_bag_here","_law_lot"] []
 Hf:FunD K "_law_grid" "_law_grid" tU a.Cq a.Cr
 Hg:mg "_law_grid"=My (.ref a.Cq)
 Hh:ax K a.Cr ["_law_bag_here","_law_block","_law_columns","_law_things"] []
 Hi:FunD K "_law_wide" "_law_wide" tR a.Cs a.Ct
 Hj:mg "_law_wide"=My (.ref a.Cs)
 Hk:ax K a.Ct ["_law_bag_here"] []
 Hl:FunD K "_law_large" "_law_large" qY a.Cu a.Cv
 Hm:mg "_law_large"=My (.ref a.Cu)
 Hn:ax K a.Cv ["_law_bag_here"] []
 Ho:FunD K "_law_turned" "_law_turned" oI a.Cw a.Cy
 Hq:mg "_law_turned"=My (.ref a.Cw)
 Hr:ax K a.Cy ["_law_block"] []
 Ht:FunD K "_law_rowsums" "_law_rowsums" m4 a.Cz a.C0
 Hu:mg "_law_rowsums"=My (.ref a.Cz)
 Hv:ax K a.C0 ["_law_grid_here"] []
 Hw:FunD K "_law_columnsums" "_law_columnsums" jP a.C2 a.C3
 Hx:mg "_law_columnsums"=My (.ref a.C2)
 Hy:ax K a.C3 ["_law_grid_here"] []
 Hz:FunD K "_law_copied" "_law_copied" oK a.C4 a.C5
 Ia:mg "_law_copied"=My (.ref a.C4)
 Ib:ax K a.C5 ["_law_block"] []
 Id:FunD K "_law_gcd" "_law_gcd" vN a.C6 a.C7
 Ie:mg "_law_gcd"=My (.ref a.C6)
 Ig:ax K a.C7 ["_law_one","_law_other"] []
 Ih:FunD K "_law_lowest" "_law_lowest" oJ a.C8 a.C9
 Ii:mg "_law_lowest"=My (.ref a.C8)
 Ij:ax K a.C9 ["_law_top","_law_under"] []
 Ik:FunD K "_law_share" "_law_share" qX a.Da a.Db
 Il:mg "_law_share"=My (.ref a.Da)
 Im:ax K a.Db ["_law_rowsums_here","_law_columnsums_here","_law_block"] []
 Io:FunD K "__init__" "Net.__init__" jS a.Dc a.Dd
 Ip:Mk K a.Ar a.Dc
 Iq:bQ K a.Dd ["self","rowsums","columnsums","bounds"] [.non]
 Ir:FunD K "tables" "Net.tables" lw a.Df a.Dg
 Iu:Meth K a.Ar "tables" a.Df
 Iw:ax K a.Dg ["self"] []
 Ix:FunD K "counts_at" "Net.counts_at" jp a.Dh a.Di
 Iy:Meth K a.Ar "counts_at" a.Dh
 Iz:ax K a.Di ["self","level","rests"] []
 I0:FunD K "rowsums" "Net.rowsums" kQ a.Dj a.Dl
 I9:Meth K a.Ar "rowsums" a.Dj
 Ja:ax K a.Dl ["self"] []
 Jb:FunD K "columnsums" "Net.columnsums" iU a.Dm a.Do
 Jc:Meth K a.Ar "columnsums" a.Dm
 Jd:ax K a.Do ["self"] []
 Je:FunD K "steps" "Net.steps" m9 a.Dp a.Dq
 Jf:Meth K a.Ar "steps" a.Dp
 Jg:ax K a.Dq ["self","level","rests"] []
 Jh:FunD K "dealings" "Net.dealings" jR a.Dr a.Dt
 Ji:Meth K a.Ar "dealings" a.Dr
 Jj:ax K a.Dt ["self"] []
 Jk:Cls K a.Ar
 Jl:mg "Net"=My (.ref a.Ar)
 Jm:dM K a.Ar "column_list"
 Jn:dM K a.Ar "counted"
 Jo:dM K a.Ar "pairs"
 Jp:dM K a.Ar "row_list"
 Jq:FunD K "__init__" "EdgeError.__init__" k4 a.Ab a.Ac
 Jr:ax K a.Ac ["self","word","why"] []
 Js:mg "EdgeError"=My (.ref a.Aa)
 Jt:FunD K "__init__" "BadSums.__init__" oz a.Af a.Ag
 Ju:ax K a.Ag ["self","why"] []
 Jv:mg "BadSums"=My (.ref a.Ae)
 Jw:XMk K a.Ae a.Af
 Jx:R3 K (.ref a.Ae) "word"=My Po
 Jy:FunD K "__init__" "BadBounds.__init__" k7 a.Ai a.Aj
 Jz:ax K a.Aj ["self","why"] []
 J0:mg "BadBounds"=My (.ref a.Ah)
 J1:XMk K a.Ah a.Ai
 J2:R3 K (.ref a.Ah) "word"=My Po
 J3:FunD K "__init__" "BadNumber.__init__" k6 a.Al a.Am
 J4:ax K a.Am ["self","why"] []
 J5:mg "BadNumber"=My (.ref a.Ak)
 J6:XMk K a.Ak a.Al
 J7:R3 K (.ref a.Ak) "word"=My Po
 J8:FunD K "__init__" "NoTable.__init__" oy a.Ao a.Aq
 J9:ax K a.Aq ["self","why"] []
 Ka:mg "NoTable"=My (.ref a.An)
 Kb:XMk K a.An a.Ao
 Kc:R3 K (.ref a.An) "word"=My Po
 Kd:ClsFn K a.Aa "__init__" a.Ab
section
variable(P:Qu)(w:QH){K:P6}{mg:Qz->Option PH}(base:Q0){a:Ad}
def Ly(K:P6):Sp:=λvs H Q _=>∃(x C:PD) (wd y:V),vs=[.ref x,wd,y]/\H x=My (dE C x Po)/\XC K C/\R3 K (.ref C) "word"=My Po/\∀(d:PD) (c:Hp),c x=My (dE C x (My d))->(∀b o,H b=My o->b≠x->c b=My o)->Q .non c
theorem rP:FnScope ["self","word","why"] ["self","word","why"] (ae k4):=fsc
theorem mC(N:Fns K mg a):FnOk P w K mg base (CXE P w) 1 a.Ab a.Ac ["self","word","why"] (Ly K):=by
 refine N.Jq.ok rP (λvs H Q E h=>?_) (λj A outer s H vs Q E n h=>?_)
 ·obtain⟨x,C,wd,y,rfl,_⟩:=h
  rfl
 ·obtain⟨x,C,wd,y,rfl,l,c,m,k⟩:=h
  refine⟨_,cf (bW (CQ rfl N.Dw (aW (pv 0) (aW (pv 2) cW)))) (eK (CL (pv 0) (pv 1) rfl)),?_⟩;refine⟨_,rfl,_,rfl,x,C,Po,_,rfl,(by show 1<=P0;decide),l,c,?_⟩;refine⟨_,rfl,_,rfl,x,C,rfl,af,c,m,λd hd f=>?_⟩;refine k d _ af λb o e i=>?_;have g:H d=Po:=by rw[upd_ne f]at hd;exact hd
  rw[upd_ne i,upd_ne (ne_of_none e g),upd_ne i];exact e
theorem vf:FnScope ["self","why"] ["self","why"] (ae oz):=fsc
theorem vh(N:Fns K mg a):FnOk P w K mg base (CXE P w) 2 a.Af a.Ag ["self","why"] (oB a.Ae 1):=by
 have c:=mC P w base N;refine N.Jt.ok vf (λvs H Q E h=>?_) (λe A outer s H vs Q E f h=>?_)
 ·obtain⟨x,rest,rfl,b,_⟩:=h
  show rest.length+1=2;rw[b]
 ·obtain⟨x,rest,rfl,b,g,k⟩:=h
  obtain⟨y,rfl⟩:∃y,rest=[y]:=SR.mp b;refine⟨_,eK (bW (iq N.Kd c f rfl N.Js N.Jr .nil cK (aW (pv 0) (aW lF (aW (pv 1) cW))))),?_⟩;exact⟨_,rfl,_,rfl,x,a.Ae,_,y,rfl,g,N.Jw.xc,N.Jx,λd i j l=>k _ i j l⟩
theorem rR:FnScope ["self","why"] ["self","why"] (ae k7):=fsc
theorem kS(N:Fns K mg a):FnOk P w K mg base (CXE P w) 2 a.Ai a.Aj ["self","why"] (oB a.Ah 1):=by
 have c:=mC P w base N;refine N.Jy.ok rR (λvs H Q E h=>?_) (λe A outer s H vs Q E f h=>?_)
 ·obtain⟨x,rest,rfl,b,_⟩:=h
  show rest.length+1=2;rw[b]
 ·obtain⟨x,rest,rfl,b,g,k⟩:=h
  obtain⟨y,rfl⟩:∃y,rest=[y]:=SR.mp b;refine⟨_,eK (bW (iq N.Kd c f rfl N.Js N.Jr .nil cK (aW (pv 0) (aW lF (aW (pv 1) cW))))),?_⟩;exact⟨_,rfl,_,rfl,x,a.Ah,_,y,rfl,g,N.J1.xc,N.J2,λd i j l=>k _ i j l⟩
theorem rQ:FnScope ["self","why"] ["self","why"] (ae k6):=fsc
theorem kR(N:Fns K mg a):FnOk P w K mg base (CXE P w) 2 a.Al a.Am ["self","why"] (oB a.Ak 1):=by
 have c:=mC P w base N;refine N.J3.ok rQ (λvs H Q E h=>?_) (λe A outer s H vs Q E f h=>?_)
 ·obtain⟨x,rest,rfl,b,_⟩:=h
  show rest.length+1=2;rw[b]
 ·obtain⟨x,rest,rfl,b,g,k⟩:=h
  obtain⟨y,rfl⟩:∃y,rest=[y]:=SR.mp b;refine⟨_,eK (bW (iq N.Kd c f rfl N.Js N.Jr .nil cK (aW (pv 0) (aW lF (aW (pv 1) cW))))),?_⟩;exact⟨_,rfl,_,rfl,x,a.Ak,_,y,rfl,g,N.J6.xc,N.J7,λd i j l=>k _ i j l⟩
theorem vd:FnScope ["self","why"] ["self","why"] (ae oy):=fsc
theorem nc(N:Fns K mg a):FnOk P w K mg base (CXE P w) 2 a.Ao a.Aq ["self","why"] (oB a.An 1):=by
 have c:=mC P w base N;refine N.J8.ok vd (λvs H Q E h=>?_) (λe A outer s H vs Q E f h=>?_)
 ·obtain⟨x,rest,rfl,b,_⟩:=h
  show rest.length+1=2;rw[b]
 ·obtain⟨x,rest,rfl,b,g,k⟩:=h
  obtain⟨y,rfl⟩:∃y,rest=[y]:=SR.mp b;refine⟨_,eK (bW (iq N.Kd c f rfl N.Js N.Jr .nil cK (aW (pv 0) (aW lF (aW (pv 1) cW))))),?_⟩;exact⟨_,rfl,_,rfl,x,a.An,_,y,rfl,g,N.Kb.xc,N.Kc,λd i j l=>k _ i j l⟩
theorem jh:FnScope ["_law_bag_here","_law_lot","_law_cells","_law_at","_law_cell"] ["_law_bag_here","_law_lot"] (ae tT):=fsc
theorem zm(N:Fns K mg a):FnOk P w K mg base (CXE P w) 2 a.Co a.Cp ["_law_bag_here","_law_lot"] (spF K 2 bX):=by
 refine N.Hc.ok (k:=1) jh (λvs H Q E h=>h.1) (λY A outer s H vs Q E hr h=>?_);obtain⟨_,F,ds,β,fr,hd,r,Z,e,k⟩:=h;obtain⟨lot,rfl,ok,I,h1,rfl,rfl⟩:=zD e;obtain⟨v,w',rfl,d1,d2⟩:=DenL.two hd;unfold Den at d1;obtain⟨b,l,d,rfl⟩:=d1;cases d2.int;obtain⟨t,J⟩:=fr.bag b l d;obtain⟨ab,al,m⟩:=fr.bgA b l d;obtain⟨W,L,hc0,X⟩:=ok.at;obtain⟨_,_,hcp,_⟩:=vS ok I;have len:((β.cells.map V.int).length:Int)=(β.cells.length:Int):=by rw[Pp]
 have O:atI (β.cells.map V.int) (β.pos:Int)=My (.int β.cell):=K9 (by rw[Py,L];rfl);refine⟨_,cf (oX (i:=2) jh.nd rfl (RI rfl) (gC dQ (pv 0) bG (λ_ _=>rfl)))
  (cf (oX (i:=3) jh.nd rfl (RI rfl) (dB jY (gC dQ (pv 0) bG (λ_ _=>rfl)) (kx l3 (by rfl) N.D3 PySem.boot_len (aW (pv 2) cW))))
  (cf (oX (i:=4) jh.nd rfl (RI rfl) (gC dQ (pv 2) (pv 3) (λ_ _=>rfl)))
  (cf (ID (vT IF (pv 4) (dB Mb bG bG) (uo _))
   (cf (d8 (dB v4 (pv 4) (pv 1)) (jX (pv 2) (pv 3) gn)) (eK (az (dB jY (pv 4) (pv 1))))) qd)
  (cf (d8 (dB o4 (gC dQ (pv 0) bG (λ_ _=>rfl)) bG) (jX (pv 0) bG gn))
  (cf (d8 (dB jY (dB Md (dB o4 (dB o4 (gC dQ (pv 0) bG (λ_ _=>rfl)) (dB jY (pv 4) bG)) bG) bG) bG) (jX (pv 0) bG gn))
  (eK (az (dB jY (dB v4 (gC dQ (pv 0) bG (λ_ _=>rfl)) bG) (pv 1))))))))),?_⟩
 refine⟨_,rfl,b,_,_,_,rfl,rfl,SqL.of t,rfl,?_⟩;refine⟨_,rfl,b,_,_,_,rfl,rfl,SqL.of t,rfl,_,rfl,l,_,rfl,.inl (SqL.of J),_,_,rfl,rfl,?_,?_⟩
 ·have:=W
  rw[len];omega
 refine⟨_,rfl,_,rfl,l,_,_,_,rfl,rfl,SqL.of J,by rw[len,X];exact O,?_⟩;refine⟨_,rfl,_,_,rfl,rfl,⟨by decide,by decide,by decide⟩,_,_,rfl,rfl,_,rfl,?_⟩;have occ:∀{R:Hp} {p:PD} {o:HO},(∀c,F.A c->R c≠Po)->∀c,F.A c->upd R p o c≠Po:=λ{R p o} f c u z=>by
  by_cases q:c=p
  ·subst q;rw[af]at z;cases z
  ·rw[upd_ne q]at z;exact f c u z
 refine ite2 (λg=>?_) (λg=>?_)
 ·have big:(10:Int)^18<=β.cell:=R7 g
  refine⟨_,rfl,_,rfl,_,_,rfl,rfl,⟨I,h1⟩,_,rfl,_,rfl,l,_,_,β.pos,rfl,rfl,J,?_,?_⟩
  ·rw[len,X,Pp]
   exact KK W
  refine⟨_,rfl,_,rfl,_,_,rfl,rfl,I,?_⟩;have T:jr β lot=β.cell % lot:=PP big;have U:ku β lot=⟨β.cells.set β.pos (β.cell/lot),β.i,β.j⟩:=PP big;rw[T,U]at k;refine k _ _ ⟨λc o u n=>by rw[upd_ne (n b l d).2];exact u,occ fr.occ,fr.bgA,λb' l' y=>?_⟩ rfl;rw[d]at y;cases y;exact⟨by rw[upd_ne m];exact t,by rw[af,R4]⟩
 ·have big:¬(10:Int)^18<=β.cell:=λq=>g (P9 q)
  refine⟨_,rfl,b,_,_,_,rfl,rfl,SqL.of t,rfl,_,_,rfl,rfl,_,rfl,b,_,_,1,rfl,rfl,t,rfl,?_⟩;have B:(upd H b (.lst [.ref l,.int (β.i+1),.int β.j])) b=My (.lst [.ref l,.int (β.i+1),.int β.j]):=af;refine⟨_,rfl,b,_,_,_,rfl,rfl,SqL.of B,rfl,_,rfl,_,_,rfl,rfl,(by show(0:Int)<2147483629;decide),_,_,rfl,rfl,_,_,rfl,rfl,_,_,rfl,rfl,.inr ⟨by decide,by decide⟩,_,_,rfl,rfl,(by show(0:Int)<2147483629;decide),_,rfl,b,_,_,2,rfl,rfl,B,rfl,?_⟩;have C:(upd (upd H b (.lst [.ref l,.int (β.i+1),.int β.j])) b (.lst [.ref l,.int (β.i+1),.int β.nxt])) b=My (.lst [.ref l,.int (β.i+1),.int β.nxt]):=af;refine⟨_,rfl,b,_,_,_,rfl,rfl,SqL.of C,rfl,_,_,rfl,rfl,⟨by decide,by decide⟩,_,rfl,_,_,rfl,rfl,I,?_⟩;have T:jr β lot=β.nxt/64 % lot:=PL big;have U:ku β lot=⟨β.cells,β.i+1,β.nxt⟩:=PL big;rw[T,U]at k;refine k _ _ ⟨λc o u n=>by rw[upd_ne (n b l d).1,upd_ne (n b l d).1];exact u,occ (occ fr.occ),fr.bgA,λb' l' y=>?_⟩ rfl;rw[d]at y;cases y;exact⟨C,by rw[upd_ne m.symm,upd_ne m.symm];exact J⟩
theorem CD:FnScope ["_law_script"] ["_law_script"] (ae vO):=fsc
theorem nd1:(["_law_cell"]:List Qz).Nodup:=by decide +kernel
theorem CW(N:Fns K mg a):FnOk P w K mg base (CXE P w) 1 a.Cm a.Cn ["_law_script"] (Ov K):=by
 refine N.G9.ok CD (λvs H Q E h=>?_) (λX A outer s H vs Q E hr h=>?_)
 ·obtain⟨a,ns,rfl,_⟩:=h
  rfl
 ·obtain⟨a,ns,rfl,Y,k⟩:=h
  refine⟨_,eK (az (e8 (aW (dB Mg (qf rfl (vars:=["_law_cell"]) (CmpScope.plain rfl (by decide +kernel) (by decide +kernel)) (Ki (ug vI (pv 0) vW (vV bG)))
   (λcl C fp s H=>⟨vY (i:=0) nd1 rfl (RI rfl),ue,λD=>aJ rfl (kx u5 (by rfl) N.Dx PyProof.Rows.Boot.«abs» (aW (pv 0) cW)) rfl⟩)) (e8 (aW bG cW))) (aW bG (aW bG cW))))),?_⟩
  obtain⟨q,I,Z⟩:=Pj ns;refine⟨_,rfl,63,rfl,a,_,rfl,Y,λp hp=>?_⟩;rw[I];have L:bB H (upd H p (.lst (q.map V.int))):=bB.upd hp;refine⟨p,rfl,⟨_,SqL.of af⟩,λD B=>?_⟩;have r:D≠p:=λz=>by subst z;rw[af]at B;cases B
  refine x8 (xs:=q.map V.int) (λi F g=>∃cs:List Int,(∃v,F=[v])/\cs.length=i/\(∀c∈cs,0<=c)/\g D=My (.lst (cs.map V.int))/\g p=My (.lst (q.map V.int))/\bB H g) ⟨[],⟨_,rfl⟩,rfl,(λ_ h=>nomatch h),af,by rw[upd_ne r.symm,af],L.trans (bB.upd B)⟩
   (λi F g _ ⟨_,_,_,_,_,e,_⟩=>SqL.of e) ?_ ?_
  ·rintro i x F g n ⟨cs,⟨v,rfl⟩,l,m,d,t,u⟩
   have hil:i<q.length:=by have:=(PU.mp n).1;rwa[Pp]at this
   obtain⟨z,rfl⟩:∃z,x=V.int z:=by
    rw[Py]at n;cases e:q[i]? with
    |none=>rw[e]at n;cases n
    |some z=>rw[e]at n;exact⟨z,(Qo n).symm⟩
   unfold eQ Ln;refine iteT ?_;refine⟨_,rfl,_,rfl,cs.map V.int,d,by rw[Pp];exact qS (by omega),cs++[if z<0 then -z else z],⟨_,rfl⟩,by rw[Qf,l];rfl,λc hc=>?_,by rw[af,Qy];rfl,by rw[upd_ne r.symm];exact t,λb o e=>?_⟩
   ·rcases Rk.mp hc with hc|hc
    ·exact m c hc
    ·obtain rfl:c=_:=by simpa using hc
     split<;>omega
   ·rw[upd_ne (ne_of_none e (L.free B))]
    exact u b o e
  ·rintro F g ⟨cs,⟨v,rfl⟩,l,m,d,t,u⟩
   rw[Pp]at l;refine⟨by decide,λO j=>⟨D,O,_,_,rfl,rfl,by rw[upd_ne (ne_of_none d j)];exact d,af,by rw[Pp];exact Vz (qS (by simp;omega)),λR y=>⟨(by show 3<=P0;decide),λT f=>?_⟩⟩⟩;have U:bB g (upd g O (.lst [V.int 1])):=bB.upd j;have W:=U.trans (bB.upd (o:= .lst (cs.map V.int++[V.int 1])) y);have J:R≠T:=λz=>by subst z;rw[af]at f;cases f
   refine k T R _ ((u.trans W).free f) ((u.trans U).free y) ⟨cs++[1],0,0,af,by rw[upd_ne J,af,Qy];rfl,by simp,by rw[Qf];simp;omega,λc hc=>?_,by decide⟩ ((u.trans W).trans (bB.upd f));rcases Rk.mp hc with hc|hc
   ·exact m c hc
   ·obtain rfl:c=1:=by simpa using hc
    decide
theorem jy(N:Fns K mg a):FB P w K mg base 2 "_law_pull" a.Co a.Cp ["_law_bag_here","_law_lot"] 2 bX:=⟨zm P w base N,N.Hd,N.Hc.kp,N.He⟩
abbrev QF(K:P6)(a:Ad)(k:Nat)(x:Qz)(f:PD)(d:Qi)(ps:List Qz)(n:Nat):={m:List D->M D//∀(P:Qu) (w:QH) {mg:Qz->Option PH} (base:Q0) (N:Fns K mg a),FB P w K mg base k x f d ps n m}
abbrev QM(K:P6)(a:Ad)(k:Nat)(f:PD)(d:Qi)(ps:List Qz)(n:Nat):={m:List D->M D//∀(P:Qu) (w:QH) {mg:Qz->Option PH} (base:Q0) (N:Fns K mg a),FnOk P w K mg base (CXE P w) k f d ps (spF K n m)}
theorem JW:FnScope ["rows","columns","pair"] ["rows","columns","pair"] (ae yX):=fsc
def ua(K:P6)(a:Ad):QM K a 2 a.As a.At ["rows","columns","pair"] 3:=⟨_,λP w mg base N=>by
 exact aX (k:=1) 3 3 _ N.Eh JW rfl rfl λb A outer s H E d=>aj (aO (az (bi rfl (cso ["row","pair","columns"] ["row"] [2,1]) (cg (by rfl) N.D7 (va1 (vv 0))) (λcl C c s H=>⟨(pgN 0 ndc),aN,λD=>aJ rfl (bi rfl (cso ["column","pair"] ["column"] [1]) (cg (by rfl) N.D7 (va1 (vv 2))) (λcl C c s H=>⟨(pgN 0 ndc),aN,λD=>aJ rfl (vv 1) rfl⟩) ao au (λD=>aM)) rfl⟩) ao au (λD=>aM))))⟩
theorem rS:FnScope ["rowsums","columnsums"] ["rowsums","columnsums"] (ae lq):=fsc
def iX(K:P6)(a:Ad):QF K a 4 "check_sums" a.Au a.Av ["rowsums","columnsums"] 2:=⟨_,λP w mg base N=>⟨by
 have b:=vh P w base N
 exact aX (k:=3) 2 2 _ N.Ek rS rfl rfl λe A outer s H E d=>ad (di (ss (pZ jt jt lP lP (ah) (cN N.D3 (va1 (vv 0))) (gF N.Ef))) (aj (dh N.Jw.xc (aq aN0) (by decide) (cz d.hd (d9 N.Jw b (d.mono (by decide)) rfl N.Jv N.Ju .nil cK (va1 (fU (c:=((Qv "there are 1 to ").length+(1921+((Qv " row sums, not ").length+(1921+0))))) (cm (c9 (gF N.Ef) (cm (c9 (cN N.D3 (va1 (vv 0))) (iz))))) (by decide +kernel))))))) (bZ))
   (ad (di (ss (pZ jt jt lP lP (ah) (cN N.D3 (va1 (vv 1))) (gF N.Ee))) (aj (dh N.Jw.xc (aq aN0) (by decide) (cz d.hd (d9 N.Jw b (d.mono (by decide)) rfl N.Jv N.Ju .nil cK (va1 (fU (c:=((Qv "there are 1 to ").length+(1921+((Qv " column sums, not ").length+(1921+0))))) (cm (c9 (gF N.Ee) (cm (c9 (cN N.D3 (va1 (vv 1))) (iz))))) (by decide +kernel))))))) (bZ))
   (ad (di (ow (wK (sr (dg (jz rfl) sI (by rfl) N.Dy PyProof.Rows.Boot.«any» (va1 (bi rfl (cso ["many"] ["many"] []) (aS (vv 0)) (λcl C f s H=>⟨(pgN 0 ndc),aN,λD=>aJ rfl (oo o3 uC (vv 0) (ah)) rfl⟩) ao au (λD=>aM))))) (rZ (sr (dg (jz rfl) sI (by rfl) N.Dy PyProof.Rows.Boot.«any» (va1 (bi rfl (cso ["many"] ["many"] []) (aS (vv 1)) (λcl C f s H=>⟨(pgN 0 ndc),aN,λD=>aJ rfl (oo o3 uC (vv 0) (ah)) rfl⟩) ao au (λD=>aM)))))))) (aj (dh N.Jw.xc (aq aN0) (by decide) (cz d.hd (d9 N.Jw b (d.mono (by decide)) rfl N.Jv N.Ju .nil cK (va1 (HM)))))) (bZ))
   (ad (di (bJ (lH d) pf (ft N.Ea (va1 (vv 0))) (ft N.Ea (va1 (vv 1)))) (aj (dh N.Jw.xc (aq aN0) (by decide) (cz d.hd (d9 N.Jw b (d.mono (by decide)) rfl N.Jv N.Ju .nil cK (va1 (fU (c:=((Qv "the rows have ").length+(1921+((Qv " things, the columns ").length+(1921+0))))) (cm (c9 (ft N.Ea (va1 (vv 0))) (cm (c9 (ft N.Ea (va1 (vv 1))) (iz))))) (by decide +kernel))))))) (bZ))
   (aj (di (bJ my qo (ft N.Ea (va1 (vv 0))) (gF N.Ed)) (aj (dh N.Jw.xc (aq aN0) (by decide) (cz d.hd (d9 N.Jw b (d.mono (by decide)) rfl N.Jv N.Ju .nil cK (va1 (fU (c:=((Qv "a table has at most ").length+(1921+((Qv " things").length+0)))) (cm (c9 (gF N.Ed) (cm (iz)))) (by decide +kernel))))))) (bZ)))))),N.El,N.Ek.kp,N.Em⟩⟩
theorem gZ:FnScope ["pair","low","high"] ["pair"] (ae lu):=fsc
def ub(K:P6)(a:Ad):QF K a 4 "check_pair" a.Aw a.Ax ["pair"] 1:=⟨_,λP w mg base N=>⟨by
 have b:=kS P w base N
 exact aX (k:=3) 1 3 _ N.En gZ rfl rfl λe A outer s H E d=>ad (oO (f7 (bo aF (bo aF eL)) (bn (bn dz))) (d8 (vv 0) (bK rfl (ay (pgN 1 gZ.nd) (ay (pgN 2 gZ.nd) bz)))))
   (aj (di (ss (BT jt jt jt lP lP lP (ah) (vv 1) (vv 2) (gF N.Ed))) (aj (dh N.J1.xc (aq aN0) (by decide) (cz d.hd (d9 N.J1 b (d.mono (by decide)) rfl N.J0 N.Jz .nil cK (va1 (fU (c:=((Qv "a cell has no bounds from ").length+(1921+((Qv " to ").length+(1921+0))))) (cm (c9 (vv 1) (cm (c9 (vv 2) (iz))))) (by decide +kernel))))))) (bZ))),N.Eo,N.En.kp,N.Ep⟩⟩
theorem eV:FnScope ["bounds","rows","columns","pairs","pair"] ["bounds","rows","columns"] (ae iS):=fsc
def dA(K:P6)(a:Ad):QF K a 5 "settled_bounds" a.Ay a.Az ["bounds","rows","columns"] 3:=⟨_,λP w mg base N=>⟨by
 have e:=(ua K a).2 P w base N;have b:=(ub K a).2 P w base N;have d:=kS P w base N
 exact aX (k:=4) 3 5 _ N.Er eV rfl rfl λi A outer s H E f=>ad (di (bJ Me OS (vv 0) (Om)) (aj (aO (az (JL e (f.mono (by decide)) (by rfl) N.Ei N.Eh.kp N.Ej bO (va2 (vv 1) (vv 2)) (λδ β r g h=>by rw[(aq (aq aN0)) δ β r g h];rfl))))) (bZ))
   (ad (di (ow (wK (bJ (lH f) pf (cN N.D3 (va1 (vv 0))) (vv 1)) (rZ (sr (dg (jz rfl) sI (by rfl) N.Dy PyProof.Rows.Boot.«any» (va1 (bi rfl (cso ["pairs","columns"] ["pairs"] [2]) (aS (vv 0)) (λcl C j s H=>⟨(pgN 0 ndc),aN,λD=>aJ rfl (oo (lH f) pf (cN N.D3 (va1 (vv 0))) (vv 1)) rfl⟩) ao au (λD=>aM)))))))) (aj (dh N.J1.xc (aq aN0) (by decide) (cz f.hd (d9 N.J1 d (f.mono (by decide)) rfl N.J0 N.Jz .nil cK (va1 (fU (c:=((Qv "these are no bounds of ").length+(1921+((Qv " rows and ").length+(1921+((Qv " columns").length+0)))))) (cm (c9 (vv 1) (cm (c9 (vv 2) (cm (iz)))))) (by decide +kernel))))))) (bZ))
   (ad (cb aF (bF cP rfl (aS (vv 0)) (pgN 3 eV.nd) (aj (cb aF (bF cP rfl (aS (vv 3)) (pgN 4 eV.nd) (aj (lh (bW (vc b f (va1 (vv 4)))))))))))
   (aj (aO (az (bi rfl (cso ["pairs"] ["pairs"] []) (aS (vv 0)) (λcl C j s H=>⟨(pgN 0 ndc),aN,λD=>aJ rfl (br bv ff (by rfl) N.D4 PyProof.Rows.Boot.«list» (va1 (vv 0))) rfl⟩) ao au (λD=>aM))))))),N.Es,N.Er.kp,N.Et⟩⟩
theorem p6:FnScope ["rows"] ["rows"] (ae kM):=fsc
def dH(K:P6)(a:Ad):QF K a 2 "rows_turned" a.A0 a.A1 ["rows"] 1:=⟨_,λP w mg base N=>⟨by
 exact aX (k:=1) 1 1 _ N.Eu p6 rfl rfl λb A outer s H E d=>aj (aO (az (bi rfl (cso ["column","rows"] ["column"] [0]) (cg (by rfl) N.D7 (va1 (cN N.D3 (va1 (bc aC bh (vv 0) (ah)))))) (λcl C c s H=>⟨(pgN 0 ndc),aN,λD=>aJ rfl (bi rfl (cso ["cells","column"] ["cells"] [0]) (aS (vv 1)) (λcl C c s H=>⟨(pgN 0 ndc),aN,λD=>aJ rfl (bc aC bh (vv 0) (vv 1)) rfl⟩) ao au (λD=>aM)) rfl⟩) ao au (λD=>aM)))),N.Ev,N.Eu.kp,N.Ew⟩⟩
theorem fV:FnScope ["number","product","factor"] ["number"] (ae m7):=fsc
def jF(K:P6)(a:Ad):QF K a 2 "factorial" a.A2 a.A3 ["number"] 1:=⟨_,λP w mg base N=>⟨by
 exact aX (k:=1) 1 3 _ N.Ex fV rfl rfl λb A outer s H E c=>ad (aD (psS 1 fV.nd (ah)))
   (ad (cb aF (bF cP rfl (uJ (by rfl) N.D7 (va2 (ah) (aL aY cL (vv 0) (ah)))) (pgN 2 fV.nd) (aj (fW qm (d7 (i:=1) fV.nd rfl (by first|exact RI rfl|exact Sk rfl) (vv 2) qr)))))
   (aj (aO (az (vv 1))))),N.Ey,N.Ex.kp,N.Ez⟩⟩
theorem jL:FnScope ["parts","part","told"] ["parts"] (ae yU):=fsc
def ly(K:P6)(a:Ad):QF K a 4 "ways" a.A4 a.A5 ["parts"] 1:=⟨_,λP w mg base N=>⟨by
 have b:=(jF K a).2 P w base N;have d:=kR P w base N
 exact aX (k:=3) 1 3 _ N.E2 jL rfl rfl λf A outer s H E e=>ad (cb aF (bF cP rfl (aS (vv 0)) (pgN 1 jL.nd) (aj (di (bJ o3 uC (vv 1) (ah)) (aj (dh N.J6.xc (aq aN0) (by decide) (cz e.hd (d9 N.J6 d (e.mono (by decide)) rfl N.J5 N.J4 .nil cK (va1 (fU (c:=((Qv "a part of ").length+(1921+((Qv " is below nought").length+0)))) (cm (c9 (vv 1) (cm (iz)))) (by decide +kernel))))))) (bZ)))))
   (ad (aD (psS 2 jL.nd (vc b e (va1 (dg (AS rfl) Mw (by rfl) N.Ea PyProof.Rows.Boot.«sum» (va1 (vv 0)))))))
   (ad (cb aF (bF cP rfl (aS (vv 0)) (pgN 1 jL.nd) (aj (fW DQ (d7 (i:=2) jL.nd rfl (by first|exact RI rfl|exact Sk rfl) (vc b e (va1 (vv 1))) KO)))))
   (aj (aO (az (vv 2)))))),N.E3,N.E2.kp,N.E4⟩⟩
theorem cr:FnScope ["rests","many","pairs","lows","tops","begun","row","fewest_behind","most_behind"] ["rests","many","pairs"] (ae oM):=fsc
def kr(K:P6)(a:Ad):QF K a 2 "fillings" a.A6 a.A7 ["rests","many","pairs"] 3:=⟨_,λP w mg base N=>⟨by
 exact aX (k:=1) 3 9 _ N.E5 cr rfl rfl λc A outer s H E d=>ad (aD (psS 3 cr.nd (bi rfl (cso ["low","high"] ["low","high"] []) (aS (vv 2)) (λcl C b s H=>⟨(bK rfl (ay (pgN 0 ndc) (ay (pgN 1 ndc) bz))),aN,λD=>aJ rfl (vv 0) rfl⟩) (e9 (aV ao (aV ao dP)) (aT (aT cZ))) (eY (aU au (aU au dO))) (λD=>aM))))
   (ad (aD (psS 4 cr.nd (bi rfl (cso ["rest","low","high"] ["rest","low","high"] []) (IQ (by rfl) N.Ec (va2 (vv 0) (vv 2))) (λcl C b s H=>⟨(bK rfl (ay (pgN 0 ndc) (ay (bK rfl (ay (pgN 1 ndc) (ay (pgN 2 ndc) bz))) bz))),aN,λD=>aJ rfl (dg (rG rfl) IK (by rfl) N.D6 PyProof.Rows.Boot.«min» (va2 (vv 0) (vv 2))) rfl⟩) (e9 (aV ao (aV (e9 (aV ao (aV ao dP)) (aT (aT cZ))) dP)) (aT (aT cZ))) (eY (aU au (aU (eY (aU au (aU au dO))) dO))) (λD=>aM))))
   (ad (aD (psS 5 cr.nd (eG (va1 (cJ (va2 (cJ (iO)) (vv 1)))))))
   (ad (cb aF (bF cP rfl (cg (by rfl) N.D7 (va1 (cN N.D3 (va1 (vv 0))))) (pgN 6 cr.nd) (ad (aD (psS 7 cr.nd (ft N.Ea (va1 (vt (vv 3) (zo (aL aY cL (vv 6) (ah))) (zq))))))
   (ad (aD (psS 8 cr.nd (ft N.Ea (va1 (vt (vv 4) (zo (aL aY cL (vv 6) (ah))) (zq))))))
   (aj (tQ (i:=5) cr.nd rfl (by first|exact RI rfl|exact Sk rfl) rfl (cso ["counts","left","count","lows","row","most_behind","tops","fewest_behind"] ["counts","left","count"] [3,6,8,4,7]) (aS (vv 5)) (λcl C b s H=>⟨(bK rfl (ay (pgN 0 ndc) (ay (pgN 1 ndc) bz))),aN,λD=>qg rfl rfl rfl (uJ (by rfl) N.D7 (va2 (dg (AU rfl) OQ (by rfl) N.D5 PyProof.Rows.Boot.«max» (va2 (bc aC bh (vv 3) (vv 4)) (aL gK jv (vv 1) (vv 5)))) (aL aY cL (dg (rG rfl) IK (by rfl) N.D6 PyProof.Rows.Boot.«min» (va2 (bc aC bh (vv 6) (vv 4)) (aL gK jv (vv 1) (vv 7)))) (ah)))) (pgN 2 ndc) (aN) (aJ rfl (cJ (va2 (aL aY cL (vv 0) (cJ (va1 (vv 2)))) (aL gK jv (vv 1) (vv 2)))) rfl)⟩) (e9 (aV ao (aV ao dP)) (aT (aT cZ))) (eY (aU au (aU au dO))) (λD=>KI ao au (aM))))))))
   (aj (aO (az (bi rfl (cso ["counts","left"] ["counts","left"] []) (aS (vv 5)) (λcl C b s H=>⟨(bK rfl (ay (pgN 0 ndc) (ay (pgN 1 ndc) bz))),sO (bJ (gL d) jw (vv 1) (ah)),λD=>aJ rfl (vv 0) rfl⟩) (e9 (aV ao (aV ao dP)) (aT (aT cZ))) (eY (aU au (aU au dO))) (λD=>aM)))))))),N.E6,N.E5.kp,N.E7⟩⟩
theorem w6:FnScope ["rowsums","over"] ["rowsums","over"] (ae qW):=fsc
def lB(K:P6)(a:Ad):QF K a 2 "need_of" a.A8 a.A9 ["rowsums","over"] 2:=⟨_,λP w mg base N=>⟨by
 exact aX (k:=1) 2 2 _ N.E8 w6 rfl rfl λb A outer s H E c=>aj (aO (az (ft N.Ea (va1 (bi rfl (cso ["row","rowsums"] ["row"] [0]) (aS (vv 1)) (λcl C d s H=>⟨(pgN 0 ndc),aN,λD=>aJ rfl (bc aC bh (vv 1) (vv 0)) rfl⟩) ao au (λD=>aM)))))),N.E9,N.E8.kp,N.Fa⟩⟩
theorem jM:FnScope ["columnsums","bounds","over","column","lows"] ["columnsums","bounds","over","column"] (ae kN):=fsc
def cR(K:P6)(a:Ad):QF K a 2 "room_inside" a.Ba a.Bb ["columnsums","bounds","over","column"] 4:=⟨_,λP w mg base N=>⟨by
 exact aX (k:=1) 4 5 _ N.Fb jM rfl rfl λb A outer s H E c=>ad (tQ (i:=4) jM.nd rfl (by first|exact RI rfl|exact Sk rfl) rfl (cso ["row","pairs","over","column"] ["row","pairs"] [2,3]) (lS (by rfl) N.Dz (va1 (vv 1))) (λcl C d s H=>⟨(bK rfl (ay (pgN 0 ndc) (ay (pgN 1 ndc) bz))),sO (bJ ui (Mz (neg:=Pt)) (vv 0) (vv 2)),λD=>aJ rfl (bc aC bh (bc aC bh (vv 1) (vv 3)) (ah)) rfl⟩) (e9 (aV ao (aV ao dP)) (aT (aT cZ))) (eY (aU au (aU au dO))) (λD=>aM))
   (aj (aO (az (aL gK jv (bc aC bh (vv 0) (vv 3)) (ft N.Ea (va1 (vv 4))))))),N.Fc,N.Fb.kp,N.Fd⟩⟩
theorem p7:FnScope ["bounds","over","column"] ["bounds","over","column"] (ae kO):=fsc
def cS(K:P6)(a:Ad):QF K a 2 "room_beside" a.Bc a.Bd ["bounds","over","column"] 3:=⟨_,λP w mg base N=>⟨by
 exact aX (k:=1) 3 3 _ N.Fe p7 rfl rfl λb A outer s H E c=>aj (aO (az (ft N.Ea (va1 (bi rfl (cso ["row","bounds","column"] ["row"] [0,2]) (aS (vv 1)) (λcl C d s H=>⟨(pgN 0 ndc),aN,λD=>aJ rfl (bc aC bh (bc aC bh (bc aC bh (vv 1) (vv 0)) (vv 2)) (ah)) rfl⟩) ao au (λD=>aM)))))),N.Ff,N.Fe.kp,N.Fg⟩⟩
theorem w5:FnScope ["columnsums","bounds","over","into"] ["columnsums","bounds","over","into"] (ae qV):=fsc
def lA(K:P6)(a:Ad):QF K a 3 "room_of" a.Be a.Bf ["columnsums","bounds","over","into"] 4:=⟨_,λP w mg base N=>⟨by
 have b:=(cR K a).2 P w base N;have c:=(cS K a).2 P w base N;exact aX (k:=2) 4 4 _ N.Fh w5 rfl rfl λe A outer s H E d=>aj (aO (az (ft N.Ea (va1 (bi rfl (cso ["column","into","columnsums","bounds","over"] ["column"] [3,0,1,2]) (cg (by rfl) N.D7 (va1 (cN N.D3 (va1 (vv 0))))) (λcl C f s H=>⟨(pgN 0 ndc),aN,λD=>aJ rfl (v_if (bJ zk (Mz (neg:=Pz)) (vv 0) (vv 1)) (vc b d (va4 (vv 2) (vv 3) (vv 4) (vv 0))) (vc c d (va3 (vv 3) (vv 4) (vv 0)))) rfl⟩) ao au (λD=>aM)))))),N.Fi,N.Fh.kp,N.Fj⟩⟩
theorem tL:FnScope ["columnsums","bounds","over"] ["columnsums","bounds","over"] (ae m3):=fsc
def jD(K:P6)(a:Ad):QF K a 3 "narrowest" a.Bh a.Bi ["columnsums","bounds","over"] 3:=⟨_,λP w mg base N=>⟨by
 have b:=(cR K a).2 P w base N;have c:=(cS K a).2 P w base N;exact aX (k:=2) 3 3 _ N.Fk tL rfl rfl λe A outer s H E d=>aj (aO (az (bi rfl (cso ["column","columnsums","bounds","over"] ["column"] [0,1,2]) (cg (by rfl) N.D7 (va1 (cN N.D3 (va1 (vv 0))))) (λcl C f s H=>⟨(pgN 0 ndc),sO (bJ o3 uC (vc b d (va4 (vv 1) (vv 2) (vv 3) (vv 0))) (vc c d (va3 (vv 2) (vv 3) (vv 0)))),λD=>aJ rfl (vv 0) rfl⟩) ao au (λD=>aM)))),N.Fl,N.Fk.kp,N.Fm⟩⟩
theorem il:FnScope ["many","told","number"] ["many"] (ae qZ):=fsc
def lD(K:P6)(a:Ad):QF K a 2 "choices" a.Bj a.Bk ["many"] 1:=⟨_,λP w mg base N=>⟨by
 exact aX (k:=1) 1 3 _ N.Fn il rfl rfl λb A outer s H E c=>ad (aD (psS 1 il.nd (eG (va1 (eG (iO))))))
   (ad (cb aF (bF cP rfl (cg (by rfl) N.D7 (va1 (vv 0))) (pgN 2 il.nd) (aj (aD (psS 1 il.nd (aL aY cL (vv 1) (bi rfl (cso ["chosen","number"] ["chosen"] [2]) (aS (vv 1)) (λcl C d s H=>⟨(pgN 0 ndc),aN,λD=>aJ rfl (aL aY cL (vv 0) (eG (va1 (vv 1)))) rfl⟩) ao au (λD=>aM))))))))
   (aj (aO (az (vv 1))))),N.Fo,N.Fn.kp,N.Fp⟩⟩
theorem iR:FnScope ["rowsums","columnsums","bounds","over","into"] ["rowsums","columnsums","bounds"] (ae m8):=fsc
def eZ(K:P6)(a:Ad):QF K a 4 "check_fit" a.Bl a.Bm ["rowsums","columnsums","bounds"] 3:=⟨_,λP w mg base N=>⟨by
 have c:=(lD K a).2 P w base N;have b:=(jD K a).2 P w base N;have d:=(lB K a).2 P w base N;have e:=(lA K a).2 P w base N
 exact aX (k:=3) 3 5 _ N.Fq iR rfl rfl λg A outer s H E f=>aj (cb aF (bF cP rfl (aS (vc c f (va1 (cN N.D3 (va1 (vv 0)))))) (pgN 3 iR.nd) (ad (aD (psS 4 iR.nd (vc b f (va3 (vv 1) (vv 2) (vv 3)))))
   (aj (di (bJ my qo (vc d f (va2 (vv 0) (vv 3))) (vc e f (va4 (vv 1) (vv 2) (vv 3) (vv 4)))) (aj (vM)) (bZ)))))),N.Fs,N.Fq.kp,N.Ft⟩⟩
theorem fm:FnScope ["rowsums","wide","many"] ["rowsums"] (ae li):=fsc
def iW(K:P6)(a:Ad):QF K a 2 "check_wide" a.Bn a.Bo ["rowsums"] 1:=⟨_,λP w mg base N=>⟨by
 exact aX (k:=1) 1 3 _ N.Fu fm rfl rfl λb A outer s H E c=>ad (aD (psS 1 fm.nd (ah)))
   (ad (cb aF (bF cP rfl (aS (vv 0)) (pgN 2 fm.nd) (aj (fW qm (d7 (i:=1) fm.nd rfl (by first|exact RI rfl|exact Sk rfl) (aL aY cL (vv 2) (ah)) qr)))))
   (aj (di (bJ my qo (vv 1) (gF N.Eg)) (aj (vM)) (bZ)))),N.Fw,N.Fu.kp,N.Fy⟩⟩
theorem gH:FnScope ["rowsums","columnsums","bounds","settled"] ["rowsums","columnsums","bounds"] (ae ib):=fsc
def c8(K:P6)(a:Ad):QF K a 6 "settled_for_net" a.Bp a.Bq ["rowsums","columnsums","bounds"] 3:=⟨_,λP w mg base N=>⟨by
 have c:=(iX K a).2 P w base N;have b:=(dA K a).2 P w base N;have d:=(iW K a).2 P w base N
 exact aX (k:=5) 3 4 _ N.Fz gH rfl rfl λf A outer s H E e=>ad (lh (bW (vc c e (va2 (vv 0) (vv 1)))))
   (ad (aD (psS 3 gH.nd (vc b e (va3 (vv 2) (cN N.D3 (va1 (vv 0))) (cN N.D3 (va1 (vv 1)))))))
   (ad (lh (bW (vc d e (va1 (vv 0)))))
   (aj (aO (az (vv 3)))))),N.F4,N.Fz.kp,N.F5⟩⟩
theorem lf:FnScope ["rests","columnsums","bounds","column"] ["rests","columnsums","bounds","column"] (ae ic):=fsc
def bN(K:P6)(a:Ad):QF K a 3 "column_fillings" a.Br a.Bs ["rests","columnsums","bounds","column"] 4:=⟨_,λP w mg base N=>⟨by
 have b:=(kr K a).2 P w base N;exact aX (k:=2) 4 4 _ N.F6 lf rfl rfl λc A outer s H E d=>aj (aO (az (vc b d (va3 (vv 0) (bc aC bh (vv 1) (vv 3)) (bi rfl (cso ["pairs","column"] ["pairs"] [3]) (aS (vv 2)) (λcl C e s H=>⟨(pgN 0 ndc),aN,λD=>aJ rfl (bc aC bh (vv 0) (vv 1)) rfl⟩) ao au (λD=>aM)))))),N.F7,N.F6.kp,N.F8⟩⟩
theorem oE:FnScope ["rests","counts"] ["rests","counts"] (ae jO):=fsc
def bE(K:P6)(a:Ad):QF K a 2 "rests_behind" a.Bt a.Bu ["rests","counts"] 2:=⟨_,λP w mg base N=>⟨by
 exact aX (k:=1) 2 2 _ N.F9 oE rfl rfl λb A outer s H E c=>aj (aO (az (br ci gx (by rfl) N.Eb PyProof.Rows.Boot.«tuple» (va1 (bi rfl (cso ["rest","count"] ["rest","count"] []) (IQ (by rfl) N.Ec (va2 (vv 0) (vv 1))) (λcl C d s H=>⟨(bK rfl (ay (pgN 0 ndc) (ay (pgN 1 ndc) bz))),aN,λD=>aJ rfl (aL gK jv (vv 0) (vv 1)) rfl⟩) (e9 (aV ao (aV ao dP)) (aT (aT cZ))) (eY (aU au (aU au dO))) (λD=>aM)))))),N.Ga,N.F9.kp,N.Gb⟩⟩
theorem bM:FnScope ["rowsums","columnsums","bounds","here","told","column","behind"] ["rowsums","columnsums","bounds"] (ae iT):=fsc
def fE(K:P6)(a:Ad):QF K a 4 "nodes_by_level" a.Bv a.Bw ["rowsums","columnsums","bounds"] 3:=⟨_,λP w mg base N=>⟨by
 have c:=(bE K a).2 P w base N;have b:=(bN K a).2 P w base N
 exact aX (k:=3) 3 7 _ N.Gc bM rfl rfl λe A outer s H E d=>ad (aD (psS 3 bM.nd (eG (va1 (br ci gx (by rfl) N.Eb PyProof.Rows.Boot.«tuple» (va1 (vv 0)))))))
   (ad (sw (psS 4 bM.nd (e8 (va1 (vv 3)))))
   (ad (cb aF (bF cP rfl (cg (by rfl) N.D7 (va1 (cN N.D3 (va1 (vv 1))))) (pgN 5 bM.nd) (ad (aD (psS 6 bM.nd (BP (by rfl) N.D9 rfl (cso ["rests","counts","columnsums","bounds","column"] ["rests","counts"] [1,2,5]) (aS (vv 3)) (λcl C f s H=>⟨(pgN 0 ndc),aN,λD=>qg rfl rfl rfl (aS (vc b d (va4 (vv 0) (vv 2) (vv 3) (vv 4)))) (pgN 1 ndc) (aN) (uh (sL d) rfl (vc c d (va2 (vv 0) (vv 1))) rfl)⟩) ao au (λD=>nM ao au (DN)))))
   (ad (sy (bW (oZ SB Sv Sw gM (pv 4) (va1 (vv 6)))))
   (aj (aD (psS 3 bM.nd (vv 6))))))))
   (aj (aO (az (vv 4)))))),N.Gd,N.Gc.kp,N.Ge⟩⟩
theorem bC:FnScope ["rests","filled","behind","tables","dealings","counts","tables_behind","dealings_behind"] ["rests","filled","behind"] (ae kP):=fsc
def hG(K:P6)(a:Ad):QF K a 5 "node_counts" a.Bx a.By ["rests","filled","behind"] 3:=⟨_,λP w mg base N=>⟨by
 have b:=(bE K a).2 P w base N;have c:=(ly K a).2 P w base N
 exact aX (k:=4) 3 8 _ N.Gf bC rfl rfl λe A outer s H E d=>ad (aD (psS 3 bC.nd (ah)))
   (ad (aD (psS 4 bC.nd (ah)))
   (ad (cb aF (bF cP rfl (aS (vv 1)) (pgN 5 bC.nd) (ad (oO (f7 (bo aF (bo aF eL)) (bn (bn dz))) (d8 (bc (zS (hu2 d)) OT (vv 2) (vc b d (va2 (vv 0) (vv 5)))) (bK rfl (ay (pgN 6 bC.nd) (ay (pgN 7 bC.nd) bz)))))
   (ad (fW iH (d7 (i:=3) bC.nd rfl (by first|exact RI rfl|exact Sk rfl) (vv 6) j5))
   (aj (fW iH (d7 (i:=4) bC.nd rfl (by first|exact RI rfl|exact Sk rfl) (aL cT fq (vc c d (va1 (vv 5))) (vv 7)) j5)))))))
   (aj (aO (az (cJ (va2 (vv 3) (vv 4)))))))),N.Gg,N.Gf.kp,N.Gh⟩⟩
theorem bt:FnScope ["rowsums","columnsums","bounds","levels","last","here","told","level","behind"] ["rowsums","columnsums","bounds"] (ae jk):=fsc
def dW(K:P6)(a:Ad):QF K a 6 "counted_nodes" a.Bz a.B0 ["rowsums","columnsums","bounds"] 3:=⟨_,λP w mg base N=>⟨by
 have d:=(fE K a).2 P w base N;have c:=(bN K a).2 P w base N;have e:=(hG K a).2 P w base N
 exact aX (k:=5) 3 9 _ N.Gi bt rfl rfl λh A outer s H E f=>ad (aD (psS 3 bt.nd (vc d f (va3 (vv 0) (vv 1) (vv 2)))))
   (ad (aD (psS 4 bt.nd (cN N.D3 (va1 (vv 1)))))
   (ad (yV (kb:=Pz) (i:=5) bt.nd rfl (by first|exact RI rfl|exact Sk rfl) rfl (cso ["rests"] ["rests"] []) (aS (bc aC bh (vv 3) (vv 4))) (λcl C g s H=>⟨(pgN 0 ndc),aN,λD=>kz (b:=Pz) (sL f) rfl (vv 0) (cJ (va2 (ah) (ah))) rfl⟩) ao au (λD=>nN))
   (ad (sw (psS 6 bt.nd (e8 (va1 (vv 5)))))
   (ad (cb aF (bF cP rfl (DX (by rfl) N.D8 (by rfl) N.D7 (va1 (vv 4))) (pgN 7 bt.nd) (ad (aD (psS 8 bt.nd (vv 5)))
   (ad (yV (kb:=Pz) (i:=5) bt.nd rfl (by first|exact RI rfl|exact Sk rfl) rfl (cso ["rests","columnsums","bounds","level","behind"] ["rests"] [1,2,7,8]) (aS (bc aC bh (vv 3) (vv 7))) (λcl C g s H=>⟨(pgN 0 ndc),aN,λD=>kz (b:=Pz) (sL f) rfl (vv 0) (vc e f (va3 (vv 0) (vc c f (va4 (vv 0) (vv 1) (vv 2) (vv 3))) (vv 4))) rfl⟩) ao au (λD=>nN))
   (aj (sy (bW (oZ SB Sv Sw gM (pv 6) (va1 (vv 5))))))))))
   (aj (aO (az (JK (kb:=Pt) rfl (cso ["level","nodes","rests","counts"] ["level","nodes","rests","counts"] []) (lS (by rfl) N.Dz (va1 (Ol (vv 6) (Lb yu IJ (ah))))) (λcl C g s H=>⟨(bK rfl (ay (pgN 0 ndc) (ay (pgN 1 ndc) bz))),aN,λD=>qg rfl rfl rfl (KQ (vv 1)) (bK rfl (ay (pgN 2 ndc) (ay (pgN 3 ndc) bz))) (aN) (kz (b:=Pt) (sL f) rfl (cJ (va2 (vv 0) (vv 2))) (vv 3) rfl)⟩) (e9 (aV ao (aV ao dP)) (aT (aT cZ))) (eY (aU au (aU au dO))) (λD=>nM (e9 (aV ao (aV ao dP)) (aT (aT cZ))) (eY (aU au (aU au dO))) (nN)))))))))),N.Gj,N.Gi.kp,N.Gk⟩⟩
theorem oG:FnScope ["k","many"] ["k","many"] (ae jQ):=fsc
def jU(K:P6)(a:Ad):QF K a 4 "check_number" a.B5 a.B7 ["k","many"] 2:=⟨_,λP w mg base N=>⟨by
 have b:=kR P w base N;exact aX (k:=3) 2 2 _ N.Gm oG rfl rfl λe A outer s H E d=>aj (di (ss (pZ jt o3 lP uC (ah) (vv 0) (vv 1))) (aj (dh N.J6.xc (aq aN0) (by decide) (cz d.hd (d9 N.J6 b (d.mono (by decide)) rfl N.J5 N.J4 .nil cK (va1 (fU (c:=((Qv "there is no number ").length+(1921+((Qv " among ").length+(1921+0))))) (cm (c9 (vv 0) (cm (c9 (vv 1) (iz))))) (by decide +kernel))))))) (bZ)),N.Gn,N.Gm.kp,N.Go⟩⟩
theorem nC:FnScope ["self","level","rests"] ["self","level","rests"] (ae jp):=fsc
def cV(K:P6)(a:Ad):QM K a 2 a.Dh a.Di ["self","level","rests"] 3:=⟨_,λP w mg base N=>by
 exact aX (k:=1) 3 3 _ N.Ix nC rfl rfl λb A outer s H E c=>aj (aO (az (Oo (hu2 c) (ig N.Jk N.Jn (vv 0)) (va2 (cJ (va2 (vv 1) (vv 2))) (cJ (va2 (ah) (ah)))))))⟩
theorem tP:FnScope ["self","level","rests"] ["self","level","rests"] (ae m9):=fsc
def jG(K:P6)(a:Ad):QM K a 4 a.Dp a.Dq ["self","level","rests"] 3:=⟨_,λP w mg base N=>by
 have b:=(bN K a).2 P w base N;have d:=(bE K a).2 P w base N;have c:=(cV K a).2 P w base N
 exact aX (k:=3) 3 3 _ N.Je tP rfl rfl λg A outer s H E e=>ad (di (ow (wK (bJ (v3 (hu2 e)) OO (cJ (va2 (vv 1) (vv 2))) (ig N.Jk N.Jn (vv 0))) (rZ (bJ (gL e) jw (vv 1) (cN N.D3 (va1 (ig N.Jk N.Jm (vv 0)))))))) (aj (aO (az (eG (iO))))) (bZ))
   (aj (aO (az (bi rfl (cso ["counts","self","level","rests"] ["counts"] [0,1,2]) (aS (vc b e (va4 (vv 2) (ig N.Jk N.Jm (vv 0)) (ig N.Jk N.Jo (vv 0)) (vv 1)))) (λcl C i s H=>⟨(pgN 0 ndc),sO (bJ my qo (bc aC bh (kW N.Jk N.Iy c (e.mono (by decide)) (bQ.nil N.Iz) cK (vv 1) (va2 (aL aY cL (vv 2) (ah)) (vc d e (va2 (vv 3) (vv 0)))) (λδ β r f h=>by rw[(aq (aq aN0)) δ β r f h];rfl)) (ah)) (ah)),λD=>aJ rfl (vv 0) rfl⟩) ao au (λD=>aM)))))⟩
theorem cw:FnScope ["net","level","rests","told","counts","tables","dealings"] ["net","level","rests"] (ae jj):=fsc
def dU(K:P6)(a:Ad):QF K a 5 "steps_counted" a.B8 a.Ca ["net","level","rests"] 3:=⟨_,λP w mg base N=>⟨by
 have d:=(jG K a).2 P w base N;have c:=(bE K a).2 P w base N;have b:=(cV K a).2 P w base N;have e:=(ly K a).2 P w base N
 exact aX (k:=4) 3 7 _ N.Gp cw rfl rfl λi A outer s H E g=>ad (sw (psS 3 cw.nd (e8 (iO))))
   (ad (cb aF (bF cP rfl (aS (kW N.Jk N.Jf d (g.mono (by decide)) (bQ.nil N.Jg) bO (vv 0) (va2 (vv 1) (vv 2)) (λδ β r f h=>by rw[(aq (aq aN0)) δ β r f h];rfl))) (pgN 4 cw.nd) (ad (oO (f7 (bo aF (bo aF eL)) (bn (bn dz))) (d8 (kW N.Jk N.Iy b (g.mono (by decide)) (bQ.nil N.Iz) bO (vv 0) (va2 (aL aY cL (vv 1) (ah)) (vc c g (va2 (vv 2) (vv 4)))) (λδ β r f h=>by rw[(aq (aq aN0)) δ β r f h];rfl)) (bK rfl (ay (pgN 5 cw.nd) (ay (pgN 6 cw.nd) bz)))))
   (aj (sy (bW (oZ SB Sv Sw gM (pv 3) (va1 (cJ (va3 (vv 4) (vv 5) (aL cT fq (vc e g (va1 (vv 4))) (vv 6))))))))))))
   (aj (aO (az (vv 3))))),N.Gq,N.Gp.kp,N.Gr⟩⟩
theorem gA:FnScope ["numbered","k","at"] ["numbered","k"] (ae oN):=fsc
def kt(K:P6)(a:Ad):QF K a 2 "falls_to" a.Cb a.Cc ["numbered","k"] 2:=⟨_,λP w mg base N=>⟨by
 exact aX (k:=1) 2 3 _ N.Gs gA rfl rfl λb A outer s H E c=>ad (aD (psS 2 gA.nd (ah)))
   (ad (vL cP (bJ IF l_ge (vv 1) (bc aC bh (bc aC bh (vv 0) (vv 2)) (ah))) (ad (fW KJ (d7 (i:=1) gA.nd rfl (by first|exact RI rfl|exact Sk rfl) (bc aC bh (bc aC bh (vv 0) (vv 2)) (ah)) ME))
   (aj (fW iH (d7 (i:=2) gA.nd rfl (by first|exact RI rfl|exact Sk rfl) (ah) j5)))))
   (aj (aO (az (cJ (va2 (bc aC bh (bc aC bh (vv 0) (vv 2)) (ah)) (vv 1))))))),N.Gu,N.Gs.kp,N.Gv⟩⟩
theorem rT:FnScope ["self"] ["self"] (ae lw):=fsc
def iY(K:P6)(a:Ad):QM K a 3 a.Df a.Dg ["self"] 1:=⟨_,λP w mg base N=>by
 have b:=(cV K a).2 P w base N;exact aX (k:=2) 1 1 _ N.Ir rT rfl rfl λd A outer s H E e=>aj (aO (az (bc aC bh (kW N.Jk N.Iy b (e.mono (by decide)) (bQ.nil N.Iz) bO (vv 0) (va2 (ah) (br ci gx (by rfl) N.Eb PyProof.Rows.Boot.«tuple» (va1 (ig N.Jk N.Jp (vv 0))))) (λδ β r c h=>by rw[(aq (aq aN0)) δ β r c h];rfl)) (ah))))⟩
theorem p8:FnScope ["self"] ["self"] (ae kQ):=fsc
def dI(K:P6)(a:Ad):QM K a 2 a.Dj a.Dl ["self"] 1:=⟨_,λP w mg base N=>by
 exact aX (k:=1) 1 1 _ N.I0 p8 rfl rfl λb A outer s H E c=>aj (aO (az (br bv ff (by rfl) N.D4 PyProof.Rows.Boot.«list» (va1 (ig N.Jk N.Jp (vv 0))))))⟩
theorem mX:FnScope ["self"] ["self"] (ae iU):=fsc
def fF(K:P6)(a:Ad):QM K a 2 a.Dm a.Do ["self"] 1:=⟨_,λP w mg base N=>by
 exact aX (k:=1) 1 1 _ N.Jb mX rfl rfl λb A outer s H E c=>aj (aO (az (br bv ff (by rfl) N.D4 PyProof.Rows.Boot.«list» (va1 (ig N.Jk N.Jm (vv 0))))))⟩
theorem bY:FnScope ["net","k","rests","columns","level","numbered","filling"] ["net","k"] (ae m6):=fsc
def gB(K:P6)(a:Ad):QF K a 6 "kth_table" a.Cd a.Cf ["net","k"] 2:=⟨_,λP w mg base N=>⟨by
 have h:=(iY K a).2 P w base N;have d:=(jU K a).2 P w base N;have f:=(dI K a).2 P w base N;have b:=(fF K a).2 P w base N;have c:=(dU K a).2 P w base N;have j:=(kt K a).2 P w base N;have e:=(bE K a).2 P w base N;have g:=(dH K a).2 P w base N
 exact aX (k:=5) 2 7 _ N.Gx bY rfl rfl λm A outer s H E l=>ad (lh (bW (vc d l (va2 (vv 1) (fN N.Jk N.Iu h (l.mono (by decide)) (bQ.nil N.Iw) bO (vv 0) rfl)))))
   (ad (aD (psS 2 bY.nd (br ci gx (by rfl) N.Eb PyProof.Rows.Boot.«tuple» (va1 (fN N.Jk N.I9 f (l.mono (by decide)) (bQ.nil N.Ja) bO (vv 0) rfl)))))
   (ad (sw (psS 3 bY.nd (e8 (iO))))
   (ad (cb aF (bF cP rfl (cg (by rfl) N.D7 (va1 (cN N.D3 (va1 (fN N.Jk N.Jc b (l.mono (by decide)) (bQ.nil N.Jd) bO (vv 0) rfl))))) (pgN 4 bY.nd) (ad (tQ (i:=5) bY.nd rfl (by first|exact RI rfl|exact Sk rfl) rfl (cso ["counts","tables","dealings"] ["counts","tables","dealings"] []) (aS (vc c l (va3 (vv 0) (vv 4) (vv 2)))) (λcl C n s H=>⟨(bK rfl (ay (pgN 0 ndc) (ay (pgN 1 ndc) (ay (pgN 2 ndc) bz)))),aN,λD=>aJ rfl (cJ (va2 (vv 0) (vv 1))) rfl⟩) (e9 (aV ao (aV ao (aV ao dP))) (aT (aT (aT cZ)))) (eY (aU au (aU au (aU au dO)))) (λD=>aM))
   (ad (oO (f7 (bo aF (bo aF eL)) (bn (bn dz))) (d8 (vc j l (va2 (vv 5) (vv 1))) (bK rfl (ay (pgN 6 bY.nd) (ay (pgN 1 bY.nd) bz)))))
   (ad (sy (bW (oZ SB Sv Sw gM (pv 3) (va1 (vv 6)))))
   (aj (aD (psS 2 bY.nd (vc e l (va2 (vv 2) (vv 6)))))))))))
   (aj (aO (az (vc g l (va1 (vv 3))))))))),N.Gy,N.Gx.kp,N.Gz⟩⟩
theorem iQ:FnScope ["net","rows","many"] ["net","rows"] (ae jo):=fsc
def fX(K:P6)(a:Ad):QF K a 4 "columns_asked" a.Cg a.Ch ["net","rows"] 2:=⟨_,λP w mg base N=>⟨by
 have b:=(fF K a).2 P w base N;have c:=(dI K a).2 P w base N;have d:=(dH K a).2 P w base N;have e:=nc P w base N
 exact aX (k:=3) 2 3 _ N.G0 iQ rfl rfl λg A outer s H E f=>ad (aD (psS 2 iQ.nd (cN N.D3 (va1 (fN N.Jk N.Jc b (f.mono (by decide)) (bQ.nil N.Jd) bO (vv 0) rfl)))))
   (ad (di (ow (wK (bJ (lH f) pf (cN N.D3 (va1 (vv 1))) (cN N.D3 (va1 (fN N.Jk N.I9 c (f.mono (by decide)) (bQ.nil N.Ja) bO (vv 0) rfl)))) (rZ (sr (dg (jz rfl) sI (by rfl) N.Dy PyProof.Rows.Boot.«any» (va1 (bi rfl (cso ["counts","many"] ["counts"] [2]) (aS (vv 1)) (λcl C h s H=>⟨(pgN 0 ndc),aN,λD=>aJ rfl (oo (lH f) pf (cN N.D3 (va1 (vv 0))) (vv 1)) rfl⟩) ao au (λD=>aM)))))))) (aj (dh N.Kb.xc (aq aN0) (by decide) (cz f.hd (d9 N.Kb e (f.mono (by decide)) rfl N.Ka N.J9 .nil cK (va1 (HM)))))) (bZ))
   (aj (aO (az (bi rfl (cso ["counts"] ["counts"] []) (aS (vc d f (va1 (vv 1)))) (λcl C h s H=>⟨(pgN 0 ndc),aN,λD=>aJ rfl (br ci gx (by rfl) N.Eb PyProof.Rows.Boot.«tuple» (va1 (vv 0))) rfl⟩) ao au (λD=>aM)))))),N.G1,N.G0.kp,N.G2⟩⟩
theorem bu:FnScope ["net","level","rests","filling","tables_ahead","dealings_ahead","counts","tables","dealings"] ["net","level","rests","filling"] (ae jl):=fsc
def dX(K:P6)(a:Ad):QF K a 6 "counted_ahead" a.Ci a.Cj ["net","level","rests","filling"] 4:=⟨_,λP w mg base N=>⟨by
 have b:=(dU K a).2 P w base N;have d:=nc P w base N
 exact aX (k:=5) 4 9 _ N.G3 bu rfl rfl λf A outer s H E e=>ad (aD (psS 4 bu.nd (ah)))
   (ad (aD (psS 5 bu.nd (ah)))
   (ad (cb (f7 (bo aF (bo aF (bo aF eL))) (bn (bn (bn dz)))) (bF cP rfl (aS (vc b e (va3 (vv 0) (vv 1) (vv 2)))) (bK rfl (ay (pgN 6 bu.nd) (ay (pgN 7 bu.nd) (ay (pgN 8 bu.nd) bz)))) (ad (di (bJ (gL e) jw (vv 6) (vv 3)) (aj (aO (az (cJ (va2 (vv 4) (vv 5)))))) (bZ))
   (ad (fW iH (d7 (i:=4) bu.nd rfl (by first|exact RI rfl|exact Sk rfl) (vv 7) j5))
   (aj (fW iH (d7 (i:=5) bu.nd rfl (by first|exact RI rfl|exact Sk rfl) (vv 8) j5)))))))
   (aj (dh N.Kb.xc (aq aN0) (by decide) (cz e.hd (d9 N.Kb d (e.mono (by decide)) rfl N.Ka N.J9 .nil cK (va1 (fU (c:=((Qv "no table of the net goes on with ").length+(1921+((Qv " in column ").length+(1921+0))))) (cm (c9 (vv 3) (cm (c9 (vv 1) (iz))))) (by decide +kernel))))))))),N.G4,N.G3.kp,N.G5⟩⟩
theorem ck:FnScope ["net","rows","rests","first","many","level","filling"] ["net","rows"] (ae qU):=fsc
def lz(K:P6)(a:Ad):QF K a 7 "stretch" a.Ck a.Cl ["net","rows"] 2:=⟨_,λP w mg base N=>⟨by
 have e:=(dI K a).2 P w base N;have b:=(fX K a).2 P w base N;have c:=(dX K a).2 P w base N;have f:=(ly K a).2 P w base N;have d:=(bE K a).2 P w base N
 exact aX (k:=6) 2 7 _ N.G6 ck rfl rfl λh A outer s H E g=>ad (aD (psS 2 ck.nd (br ci gx (by rfl) N.Eb PyProof.Rows.Boot.«tuple» (va1 (fN N.Jk N.I9 e (g.mono (by decide)) (bQ.nil N.Ja) bO (vv 0) rfl)))))
   (ad (aD (psS 3 ck.nd (ah)))
   (ad (aD (psS 4 ck.nd (ah)))
   (ad (cb (f7 (bo aF (bo aF eL)) (bn (bn dz))) (bF cP rfl (lS (by rfl) N.Dz (va1 (vc b g (va2 (vv 0) (vv 1))))) (bK rfl (ay (pgN 5 ck.nd) (ay (pgN 6 ck.nd) bz))) (ad (fW iH (d7 (i:=3) ck.nd rfl (by first|exact RI rfl|exact Sk rfl) (aL cT fq (vv 4) (bc aC bh (vc c g (va4 (vv 0) (vv 5) (vv 2) (vv 6))) (ah))) j5))
   (ad (fW qm (d7 (i:=4) ck.nd rfl (by first|exact RI rfl|exact Sk rfl) (vc f g (va1 (vv 6))) qr))
   (aj (aD (psS 2 ck.nd (vc d g (va2 (vv 2) (vv 6))))))))))
   (aj (aO (az (cJ (va2 (vv 3) (aL aY cL (vv 3) (vv 4)))))))))),N.G7,N.G6.kp,N.G8⟩⟩
theorem gJ:FnScope ["_law_bag_here","_law_block","_law_columns","_law_things","_law_grid_here","_law_thing","_law_at","_law_to"] ["_law_bag_here","_law_block","_law_columns","_law_things"] (ae tU):=fsc
def lU(K:P6)(a:Ad):G:=
  aI (nV 4 (gR 1 [2] (cX gq (ac (ag 1) (aB))) (tgC 0) (λ_=>M.ret Pt) (qE (xm (ac (fC (.int 0)) (aB)) (ag 1)))))
  (aI (qu (cX gq (ac (ag 3) (aB))) (sgN 5) (aI (gb 6 (bH bX (ac (ag 0) (ac (ag 1) (aB)))))
  (aI (gb 7 (bH bX (ac (ag 0) (ac (ag 2) (aB)))))
  (pB 4 (ag 6) (ag 7) (f2 gz (f2 ixD (f2 ixD (ag 4) (ag 6)) (ag 7)) (fC (.int 1)))))))
  (mK 4))
def eA(K:P6)(a:Ad):List D->M (List (List D)):=iB 8 (lU K a)
theorem xl(N:Fns K mg a):FnOk P w K mg base (CXE P w) 3 a.Cq a.Cr ["_law_bag_here","_law_block","_law_columns","_law_things"] (spG K 4 (eA K a)):=by
 have b:=jy P w base N;unfold eA
 exact mP (k:=2) 4 8 (lU K a) N.Hf gJ rfl rfl λd A outer s H E c=>ad (LC (i:=4) gJ.nd rfl (by first|exact RI rfl|exact Sk rfl) rfl (cso ["_law_row","_law_columns"] ["_law_row"] [2]) (cg (by rfl) N.D7 (va1 (vv 1))) (λcl C e s H=>⟨(pgN 0 ndc),aN,λD=>aJ rfl (OG (va1 (ah)) (vv 1)) rfl⟩) ao au (λD=>wa))
   (ad (cb aF (bF cP rfl (cg (by rfl) N.D7 (va1 (vv 3))) (pgN 5 gJ.nd) (ad (aD (psS 6 gJ.nd (vc b c (va2 (vv 0) (vv 1)))))
   (ad (aD (psS 7 gJ.nd (vc b c (va2 (vv 0) (vv 2)))))
   (aj (tW (d8 (aL aY cL (bc aC bh (bc aC bh (vv 4) (vv 6)) (vv 7)) (ah)) (jX (gC dQ (pv 4) (vv 6) (λ_ _=>rfl)) (vv 7) gn))))))))
   (aj (yW (az (pv 4)))))
theorem jg:FnScope ["_law_bag_here","_law_grid_here","_law_lot","_law_first"] ["_law_bag_here"] (ae tR):=fsc
def lT(K:P6)(a:Ad):G:=
  aI (nV 1 MO)
  (aI (qu (dD (f2 ixD (bp dY (ac (bp dY (ac (fC (.int 40)) (aB))) (ac (bp dY (ac (fC (.int 39)) (ac (fC (.int 1)) (aB)))) (ac (bp dY (ac (fC (.int 30)) (ac (fC (.int 10)) (aB)))) (ac (bp dY (ac (fC (.int 20)) (ac (fC (.int 20)) (aB)))) (ac (bp dY (ac (fC (.int 24)) (ac (fC (.int 15)) (aB)))) (ac (bp dY (ac (fC (.int 13)) (ac (fC (.int 27)) (aB)))) (aB)))))))) (bH bX (ac (ag 0) (ac (fC (.int 6)) (aB)))))) (sgN 2) (aI (gb 3 (bH bX (ac (ag 0) (ac (f2 gz (ag 2) (fC (.int 1))) (aB)))))
  (pE 1 (kC szL (ac (ag 3) (ac (f2 BY (ag 2) (ag 3)) (aB)))))))
  (mK 1))
def gN(K:P6)(a:Ad):List D->M (List (List D)):=iB 4 (lT K a)
theorem xk(N:Fns K mg a):FnOk P w K mg base (CXE P w) 3 a.Cs a.Ct ["_law_bag_here"] (spG K 1 (gN K a)):=by
 have b:=jy P w base N;unfold gN;refine mP (k:=2) 1 4 (lT K a) N.Hi jg rfl rfl λe A outer s H E c=>?_;refine ad (sx (psS 1 jg.nd Pa)) ?_;refine ad ?_ ?_
 rotate_left
 exact(aj (yW (az (pv 1))));refine cb (tgg:=eQ 2) ?_ ?_;exact aF;generalize d:Expr.Subscript _ _ _=q;refine bF cP rfl ?_ (pgN 2 jg.nd) ?_ ?_;subst d;refine aS ?_;refine On ?_ ?_;refine eG ?_;refine dN ?_ ?_;refine eG ?_;exact va1 ah;refine dN ?_ ?_;refine eG ?_;exact va2 ah ah;refine dN ?_ ?_;refine eG ?_;exact va2 ah ah;refine dN ?_ ?_;refine eG ?_;exact va2 ah ah;refine dN ?_ ?_;refine eG ?_;exact va2 ah ah;refine dN ?_ ?_;refine eG ?_;exact va2 ah ah;exact iO;exact(vc b c (va2 (vv 0) (ah)));exact ad (aD (psS 3 jg.nd (vc b c (va2 (vv 0) (aL aY cL (vv 2) (ah)))))) (aj (LD (bW (oZ SB Sv Sw gM (pv 1) (aW (OH (va2 (vv 3) (aL gK jv (vv 2) (vv 3)))) cW)))));subst d;intro _;rfl
theorem ik:FnScope ["_law_bag_here","_law_way","_law_block","_law_columns"] ["_law_bag_here"] (ae qY):=fsc
def kG(K:P6)(a:Ad):G:=
  aI (gIf (fB (f2 (fJ) (bH bX (ac (ag 0) (ac (fC (.int 6)) (aB)))) (fC (.int 0)))) (gc (i9 (gN K a) (ac (ag 0) (aB)))) (gNil))
  (aI (gb 1 (bH bX (ac (ag 0) (ac (fC (.int 5)) (aB)))))
  (aI (gIf (fB (f2 (fJ) (ag 1) (fC (.int 0)))) (gc (i9 (eA K a) (ac (ag 0) (ac (fC (.int 2)) (ac (f2 gz (fC (.int 2)) (bH bX (ac (ag 0) (ac (fC (.int 5)) (aB))))) (ac (bH bX (ac (ag 0) (ac (fC (.int 25)) (aB)))) (aB))))))) (gNil))
  (aI (gIf (fB (f2 (fJ) (ag 1) (fC (.int 1)))) (gc (i9 (eA K a) (ac (ag 0) (ac (fC (.int 4)) (ac (f2 gz (fC (.int 2)) (bH bX (ac (ag 0) (ac (fC (.int 2)) (aB))))) (ac (bH bX (ac (ag 0) (ac (fC (.int 9)) (aB)))) (aB))))))) (gNil))
  (aI (gb 2 (f2 gz (fC (.int 2)) (bH bX (ac (ag 0) (ac (fC (.int 2)) (aB))))))
  (aI (gb 3 (f2 gz (fC (.int 2)) (bH bX (ac (ag 0) (ac (fC (.int 3)) (aB))))))
  (gc (i9 (eA K a) (ac (ag 0) (ac (ag 2) (ac (ag 3) (ac (bH bX (ac (ag 0) (ac (fC (.int 12)) (aB)))) (aB))))))))))))
def ir(K:P6)(a:Ad):List D->M (List (List D)):=iB 4 (kG K a)
theorem vi(N:Fns K mg a):FnOk P w K mg base (CXE P w) 4 a.Cu a.Cv ["_law_bag_here"] (spG K 1 (ir K a)):=by
 have b:=jy P w base N;have e:=xk P w base N;have c:=xl P w base N;unfold ir
 exact mP (k:=3) 1 4 (kG K a) N.Hl ik rfl rfl λf A outer s H E d=>ad (di (bJ (gL d) jw (vc b d (va2 (vv 0) (ah))) (ah)) (aj (jN (az (j6 e (d.mono (by decide)) (by rfl) N.Hj N.Hi.kp N.Hk bO (va1 (vv 0)) (aq aN0))))) (bZ))
   (ad (aD (psS 1 ik.nd (vc b d (va2 (vv 0) (ah)))))
   (ad (di (bJ (gL d) jw (vv 1) (ah)) (aj (jN (az (j6 c (d.mono (by decide)) (by rfl) N.Hg N.Hf.kp N.Hh bO (va4 (vv 0) (ah) (aL aY cL (ah) (vc b d (va2 (vv 0) (ah)))) (vc b d (va2 (vv 0) (ah)))) (aq (aq (aq (aq aN0)))))))) (bZ))
   (ad (di (bJ (gL d) jw (vv 1) (ah)) (aj (jN (az (j6 c (d.mono (by decide)) (by rfl) N.Hg N.Hf.kp N.Hh bO (va4 (vv 0) (ah) (aL aY cL (ah) (vc b d (va2 (vv 0) (ah)))) (vc b d (va2 (vv 0) (ah)))) (aq (aq (aq (aq aN0)))))))) (bZ))
   (ad (aD (psS 2 ik.nd (aL aY cL (ah) (vc b d (va2 (vv 0) (ah))))))
   (ad (aD (psS 3 ik.nd (aL aY cL (ah) (vc b d (va2 (vv 0) (ah))))))
   (aj (jN (az (j6 c (d.mono (by decide)) (by rfl) N.Hg N.Hf.kp N.Hh bO (va4 (vv 0) (vv 2) (vv 3) (vc b d (va2 (vv 0) (ah)))) (aq (aq (aq (aq aN0)))))))))))))
theorem vg:FnScope ["_law_block"] ["_law_block"] (ae oI):=fsc
def oV(K:P6)(a:Ad):QF K a 2 "_law_turned" a.Cw a.Cy ["_law_block"] 1:=⟨_,λP w mg base N=>⟨by
 exact aX (k:=1) 1 1 _ N.Ho vg rfl rfl λb A outer s H E d=>aj (aO (az (bi rfl (cso ["_law_to","_law_block"] ["_law_to"] [0]) (cg (by rfl) N.D7 (va1 (cN N.D3 (va1 (bc aC bh (vv 0) (ah)))))) (λcl C c s H=>⟨(pgN 0 ndc),aN,λD=>aJ rfl (bi rfl (cso ["_law_row","_law_to"] ["_law_row"] [0]) (aS (vv 1)) (λcl C c s H=>⟨(pgN 0 ndc),aN,λD=>aJ rfl (bc aC bh (vv 0) (vv 1)) rfl⟩) ao au (λD=>aM)) rfl⟩) ao au (λD=>aM)))),N.Hq,N.Ho.kp,N.Hr⟩⟩
theorem tM:FnScope ["_law_grid_here"] ["_law_grid_here"] (ae m4):=fsc
def jE(K:P6)(a:Ad):QF K a 2 "_law_rowsums" a.Cz a.C0 ["_law_grid_here"] 1:=⟨_,λP w mg base N=>⟨by
 exact aX (k:=1) 1 1 _ N.Ht tM rfl rfl λb A outer s H E c=>aj (aO (az (bi rfl (cso ["_law_row"] ["_law_row"] []) (aS (vv 0)) (λcl C d s H=>⟨(pgN 0 ndc),aN,λD=>aJ rfl (ft N.Ea (va1 (vv 0))) rfl⟩) ao au (λD=>aM)))),N.Hu,N.Ht.kp,N.Hv⟩⟩
theorem oF:FnScope ["_law_grid_here"] ["_law_grid_here"] (ae jP):=fsc
def gr(K:P6)(a:Ad):QF K a 3 "_law_columnsums" a.C2 a.C3 ["_law_grid_here"] 1:=⟨_,λP w mg base N=>⟨by
 have b:=(oV K a).2 P w base N;exact aX (k:=2) 1 1 _ N.Hw oF rfl rfl λc A outer s H E d=>aj (aO (az (bi rfl (cso ["_law_column"] ["_law_column"] []) (aS (vc b d (va1 (vv 0)))) (λcl C e s H=>⟨(pgN 0 ndc),aN,λD=>aJ rfl (ft N.Ea (va1 (vv 0))) rfl⟩) ao au (λD=>aM)))),N.Hx,N.Hw.kp,N.Hy⟩⟩
theorem mZ:FnScope ["_law_block"] ["_law_block"] (ae oK):=fsc
def kq(K:P6)(a:Ad):QF K a 2 "_law_copied" a.C4 a.C5 ["_law_block"] 1:=⟨_,λP w mg base N=>⟨by
 exact aX (k:=1) 1 1 _ N.Hz mZ rfl rfl λb A outer s H E c=>aj (aO (az (bi rfl (cso ["_law_row"] ["_law_row"] []) (aS (vv 0)) (λcl C d s H=>⟨(pgN 0 ndc),aN,λD=>aJ rfl (br bv ff (by rfl) N.D4 PyProof.Rows.Boot.«list» (va1 (vv 0))) rfl⟩) ao au (λD=>aM)))),N.Ia,N.Hz.kp,N.Ib⟩⟩
def nk(K:P6)(a:Ad):G:=
  gc (gR 1 [] (dD (ag 0)) (tgC 0) (λ_=>M.ret Pt) (qE (kC sG (ac (ag 0) (aB)))))
def jH(K:P6)(a:Ad):List D->M (List (List D)):=iB 1 (nk K a)
theorem uk(N:Fns K mg a):FnOk P w K mg base (CXE P w) 2 a.C4 a.C5 ["_law_block"] (spG K 1 (jH K a)):=by
 unfold jH;exact mP (k:=1) 1 1 (nk K a) N.Hz mZ rfl rfl λb A outer s H E c=>aj (jN (az (MK rfl (cso ["_law_row"] ["_law_row"] []) (aS (vv 0)) (λcl C d s H=>⟨(pgN 0 ndc),aN,λD=>aJ rfl (CY bv KE (by rfl) N.D4 PyProof.Rows.Boot.«list» (va1 (vv 0))) rfl⟩) ao au (λD=>wa))))
theorem kj:FnScope ["_law_one","_law_other","_law_kept"] ["_law_one","_law_other"] (ae vN):=fsc
def qc(K:P6)(a:Ad):QF K a 2 "_law_gcd" a.C6 a.C7 ["_law_one","_law_other"] 2:=⟨_,λP w mg base N=>⟨by
 exact aX (k:=1) 2 3 _ N.Id kj rfl rfl λb A outer s H E c=>ad (vL cP (bJ my qo (vv 1) (ah)) (ad (aD (psS 2 kj.nd (aL jY OP (vv 0) (vv 1))))
   (ad (aD (psS 0 kj.nd (vv 1)))
   (aj (aD (psS 1 kj.nd (vv 2)))))))
   (aj (aO (az (vv 0)))),N.Ie,N.Id.kp,N.Ig⟩⟩
theorem mY:FnScope ["_law_top","_law_under","_law_both"] ["_law_top","_law_under"] (ae oJ):=fsc
def kn(K:P6)(a:Ad):QF K a 3 "_law_lowest" a.C8 a.C9 ["_law_top","_law_under"] 2:=⟨_,λP w mg base N=>⟨by
 have b:=(qc K a).2 P w base N
 exact aX (k:=2) 2 3 _ N.Ih mY rfl rfl λc A outer s H E d=>ad (aD (psS 2 mY.nd (vc b d (va2 (dg u5 OU (by rfl) N.Dx PyProof.Rows.Boot.«abs» (va1 (vv 0))) (vv 1)))))
   (aj (aO (az (cJ (va2 (aL uj zP (vv 0) (vv 2)) (aL uj zP (vv 1) (vv 2))))))),N.Ii,N.Ih.kp,N.Ij⟩⟩
theorem ji:FnScope ["self","rowsums","columnsums","bounds","settled"] ["self","rowsums","columnsums","bounds"] (ae jS):=fsc
def uG(K:P6)(a:Ad):IP:=
  mI (gb 4 (bH (c8 K a).1 (ac (ag 1) (ac (ag 2) (ac (ag 3) (aB))))))
  (mI (pC (bH (eZ K a).1 (ac (ag 1) (ac (ag 2) (ac (ag 4) (aB))))))
  (jx (bp sH (ac (ag 1) (aB)))
  (jx (bp sH (ac (ag 2) (aB)))
  (jx (ag 4)
  (jx (bH (dW K a).1 (ac (ag 1) (ac (ag 2) (ac (ag 4) (aB)))))
  (IO))))))
def o8(K:P6)(a:Ad):List D->M (List D):=mJ 5 (uG K a)
theorem v5(N:Fns K mg a):FnOk P w K mg base (CXE P w) 7 a.Dc a.Dd ["self","rowsums","columnsums","bounds"] (spI K a.Ar ["row_list","column_list","pairs","counted"] 3 (o8 K a)):=by
 have c:=(dW K a).2 P w base N;have d:=(eZ K a).2 P w base N;have b:=(c8 K a).2 P w base N;unfold o8
 exact KY (k:=6) 3 5 (uG K a) N.Io ji rfl rfl λf A outer s H E e=>IR (aD (psS 4 ji.nd (vc b e (va3 (vv 1) (vv 2) (vv 3)))))
   (IR (lh (bW (vc d e (va3 (vv 1) (vv 2) (vv 4)))))
   (sK N.Jk N.Jp (by decide) (by decide) (oY (pv 0) (br bv ff (by rfl) N.D4 PyProof.Rows.Boot.«list» (va1 (vv 1))) rfl)
   (sK N.Jk N.Jm (by decide) (by decide) (oY (pv 0) (br bv ff (by rfl) N.D4 PyProof.Rows.Boot.«list» (va1 (vv 2))) rfl)
   (sK N.Jk N.Jo (by decide) (by decide) (oY (pv 0) (vv 4) rfl)
   (sK N.Jk N.Jn (by decide) (by decide) (oY (pv 0) (vc c e (va3 (vv 1) (vv 2) (vv 4))) rfl)
   (O3))))))
theorem oH:FnScope ["self"] ["self"] (ae jR):=fsc
def jW(K:P6)(a:Ad):QM K a 3 a.Dr a.Dt ["self"] 1:=⟨_,λP w mg base N=>by
 have b:=(cV K a).2 P w base N;exact aX (k:=2) 1 1 _ N.Jh oH rfl rfl λd A outer s H E e=>aj (aO (az (bc aC bh (kW N.Jk N.Iy b (e.mono (by decide)) (bQ.nil N.Iz) bO (vv 0) (va2 (ah) (br ci gx (by rfl) N.Eb PyProof.Rows.Boot.«tuple» (va1 (ig N.Jk N.Jp (vv 0))))) (λδ β r c h=>by rw[(aq (aq aN0)) δ β r c h];rfl)) (ah))))⟩
theorem ij:FnScope ["_law_rowsums_here","_law_columnsums_here","_law_block","_law_net","_law_first","_law_behind"] ["_law_rowsums_here","_law_columnsums_here","_law_block"] (ae qX):=fsc
def lC(K:P6)(a:Ad):QF K a 9 "_law_share" a.Da a.Db ["_law_rowsums_here","_law_columnsums_here","_law_block"] 3:=⟨_,λP w mg base N=>⟨by
 have e:=v5 P w base N;have c:=(kq K a).2 P w base N;have d:=(lz K a).2 P w base N;have b:=(jW K a).2 P w base N
 exact aX (k:=8) 3 6 _ N.Ik ij rfl rfl λi A outer s H E f=>ad (aD (psS 3 ij.nd (yt N.Ip e (f.mono (by decide)) (by rfl) N.Jl N.Iq bO (va2 (br bv ff (by rfl) N.D4 PyProof.Rows.Boot.«list» (va1 (vv 0))) (br bv ff (by rfl) N.D4 PyProof.Rows.Boot.«list» (va1 (vv 1)))) (λδ β r g h=>by rw[(aq (aq aN0)) δ β r g h];rfl))))
   (ad (oO (f7 (bo aF (bo aF eL)) (bn (bn dz))) (d8 (vc d f (va2 (vv 3) (vc c f (va1 (vv 2))))) (bK rfl (ay (pgN 4 ij.nd) (ay (pgN 5 ij.nd) bz)))))
   (aj (aO (az (cJ (va2 (aL gK jv (vv 5) (vv 4)) (fN N.Jk N.Ji b (f.mono (by decide)) (bQ.nil N.Jj) bO (vv 3) rfl))))))),N.Il,N.Ik.kp,N.Im⟩⟩
theorem bD:FnScope ["_law_script","_law_bag_here","_law_grid_here","_law_rowsums_here","_law_columnsums_here","_law_things","_law_net","_law_block","_law_due","_law_total","_law_at","_law_row","_law_to","_law_count","_law_less","_law_part","_law_heavy","_law_top"] ["_law_script"] (ae mr):=fsc
def oU(K:P6)(a:Ad):{g:G//∀(P:Qu) (w:QH) {mg:Qz->Option PH} (base:Q0) (N:Fns K mg a) (f:PD) (q:PH) (A:QU) (outer:List WN) (s:PM) (H:Hp) (E:XK),Room 9 (A.deeper (PyProof.Rows.envOfC "law" (ae mr) s.heap.objs.size f q))->PSs (c7 (CXE P w) P w K mg base ["_law_script","_law_bag_here","_law_grid_here","_law_rowsums_here","_law_columnsums_here","_law_things","_law_net","_law_block","_law_due","_law_total","_law_at","_law_row","_law_to","_law_count","_law_less","_law_part","_law_heavy","_law_top"] "law" (ae mr) f q A outer s H E) (cc mr).tail (tG K H g (λ_=>E))}:=⟨_,λP w mg base N f q A outer s H E l=>by
 have m:=vi P w base N;have b:=(jE K a).2 P w base N;have c:=(gr K a).2 P w base N;have p:=v5 P w base N;have i:=(iY K a).2 P w base N;have o:=jy P w base N;have j:=(gB K a).2 P w base N;have e:=(lC K a).2 P w base N;have n:=(kq K a).2 P w base N;have k:=uk P w base N;have d:=(kn K a).2 P w base N
 exact ad (sx (psS 2 bD.nd (j6 m (l.mono (by decide)) (by rfl) N.Hm N.Hl.kp N.Hn bO (va1 (vv 1)) (aq aN0))))
   (ad (di (bJ (gL l) jw (ft N.Ea (va1 (vc b l (va1 (vv 2))))) (ah)) (aj (tW (d8 (ah) (jX (gC dQ (pv 2) (Lb yu IJ (ah)) (λ_ _=>rfl)) (ah) gn)))) (bZ))
   (CF 2 (ad (aD (psS 3 bD.nd (vc b l (va1 (vv 2)))))
   (CF 2 (ad (aD (psS 4 bD.nd (vc c l (va1 (vv 2)))))
   (ad (aD (psS 5 bD.nd (ft N.Ea (va1 (vv 3)))))
   (ad (aD (psS 6 bD.nd (yt N.Ip p (l.mono (by decide)) (by rfl) N.Jl N.Iq bO (va2 (br bv ff (by rfl) N.D4 PyProof.Rows.Boot.«list» (va1 (vv 3))) (br bv ff (by rfl) N.D4 PyProof.Rows.Boot.«list» (va1 (vv 4)))) (λδ β r t h=>by rw[(aq (aq aN0)) δ β r t h];rfl))))
   (ad (aD (psS 7 bD.nd (vc j l (va2 (vv 6) (vc o l (va2 (vv 1) (fN N.Jk N.Iu i (l.mono (by decide)) (bQ.nil N.Iw) bO (vv 6) rfl)))))))
   (ad (aD (psS 8 bD.nd (vc e l (va3 (vv 3) (vv 4) (vv 7)))))
   (ad (aD (psS 9 bD.nd (cJ (va2 (ah) (ah)))))
   (ad (cb (f7 (bo aF (bo aF eL)) (bn (bn dz))) (bF cP rfl (lS (by rfl) N.Dz (va1 (vc n l (va1 (vv 7))))) (bK rfl (ay (pgN 10 bD.nd) (ay (pgN 11 bD.nd) bz))) (aj (cb (f7 (bo aF (bo aF eL)) (bn (bn dz))) (bF cP rfl (lS (by rfl) N.Dz (va1 (vv 11))) (bK rfl (ay (pgN 12 bD.nd) (ay (pgN 13 bD.nd) bz))) (aj (di (bJ my qo (vv 13) (ah)) (ad (sx (psS 14 bD.nd (j6 k (l.mono (by decide)) (by rfl) N.Ia N.Hz.kp N.Ib bO (va1 (vv 7)) (aq aN0))))
   (ad (tW (d8 (aL gK jv (vv 13) (ah)) (jX (gC dQ (pv 14) (vv 10) (λ_ _=>rfl)) (vv 12) gn)))
   (CF 14 (ad (aD (psS 15 bD.nd (vc e l (va3 (vc b l (va1 (vv 14))) (vc c l (va1 (vv 14))) (vv 14)))))
   (ad (aD (psS 16 bD.nd (aL cT fq (bc aC bh (vv 3) (vv 10)) (bc aC bh (vv 4) (vv 12)))))
   (ad (aD (psS 17 bD.nd (aL cT fq (aL cT fq (aL cT fq (bc aC bh (vv 9) (ah)) (bc aC bh (vv 15) (ah))) (vv 5)) (vv 5))))
   (ad (aD (psS 17 bD.nd (aL aY cL (vv 17) (aL cT fq (aL cT fq (bc aC bh (vv 15) (ah)) (vv 16)) (bc aC bh (vv 9) (ah))))))
   (aj (aD (psS 9 bD.nd (vc d l (va2 (vv 17) (aL cT fq (aL cT fq (aL cT fq (bc aC bh (vv 9) (ah)) (bc aC bh (vv 15) (ah))) (vv 5)) (vv 5)))))))))))))) (bZ))))))))
   (aj (aO (az (oo (gL l) jw (vv 9) (vc d l (va2 (bc aC bh (vv 8) (ah)) (bc aC bh (vv 8) (ah)))))))))))))))))))⟩
theorem Mi{f:PD}{o:Qi}(F:FunD K "law" "law" mr f o)(N:Fns K mg a)(T:∀β:Bg,β.ok->∃d,(oU K a).1 [Po,My (.sh .bag),Po,Po,Po,Po,Po,Po,Po,Po,Po,Po,Po,Po,Po,Po,Po,Po] β=My (.rt (.bl Pt),d)):
  FnOk P w K mg base (CXE P w) 10 f o ["_law_script"] (HY K):=by
 have c:=CW P w base N;refine F.okE (k:=9) bD (λvs H Q E h=>?_) (λg A outer s H vs Q E p h=>?_)
 ·obtain⟨a,ns,rfl,_⟩:=h
  rfl
 ·obtain⟨a1,ns,rfl,r,q,k⟩:=h
  have rest:=(oU K a).2 P w base N f g A outer s H E p;refine⟨_,cf (rest:=(cc mr).tail) (psS 1 bD.nd (mw c (p.mono (by decide)) rfl N.Ha N.G9.kp N.Hb .nil cK (aW (pv 0) cW))) rest,?_⟩;refine⟨_,rfl,a1,ns,rfl,r,λb l C i j t u=>?_⟩;obtain⟨β,ok,m⟩:=K7 (K:=K) (a:=a1) (n:=["_law_script","_law_bag_here","_law_grid_here","_law_rowsums_here","_law_columnsums_here","_law_things","_law_net","_law_block","_law_due","_law_total","_law_at","_law_row","_law_to","_law_count","_law_less","_law_part","_law_heavy","_law_top"].length-2) u i j t;obtain⟨d,e⟩:=T β ok;exact⟨_,_,_,β,_,d,m,e,λv I y s fr B=>by cases B.bl;exact k y⟩
end
end Law
namespace Law
open PySem L2 L2.Pu L2.Nt
section
variable{K:P6}{a:Ad}{β:Bg}
abbrev tN(l:List Nat):D:=tpI (nI l)
abbrev eN(b:List Nat×Nat):D:= .tup [tN b.1,.int (b.2:Int)]
abbrev pN(p:Nat×Nat):D:=pD ((p.1:Int),(p.2:Int))
def Nrw(r:List Nat):Prop:=1<=r.length/\r.length<=4/\r.sum<=40/\pr (r.map (·+1))<=500
theorem ym{f g:FD}{δ:Dn}{x y:D}{ds es:List D}(b:f δ β=My (.ok x,β))(c:g δ β=My (.ok y,β))(d:fj x=My ds)(e:fj y=My es):DD (ac f (ac g aB)) δ β=My (.ok (dS ds es),β):=bw (aa b (aa c rfl)) (by
 unfold BL;simp only[d,e,Vc,RG])
theorem rg2I{lo:Nat}{h:Int}(b:-1000<=h)(c:h<=1000)(d:lo<=1000):nJ [.int (lo:Int),.int h]=My ((PR (h-lo).toNat).map λi=>D.int ((lo+i:Nat):Int)):=by
 have e:nJ [.int (lo:Int),.int h]=My (aR lo (h-lo).toNat):=by
  simp only[nJ];rw[PP (by simp only[Qq,QI];omega)]
 rw[e];exact QV My (Qs λi _=>by congr 1)
theorem addT{l:List Nat}{c:Nat}(h:l.length<=100):gz (tN l) (.tup [.int (c:Int)])=My (tN (l++[c])):=by
 cases l with
 |nil=>rfl
 |cons x l=>
  show(if _ then _ else _)=_;rw[PP (aZ (by simp at h⊢;omega))];simp[tpI]
theorem yI(l:List Nat)(k:Nat):ii [.lst (((nI l).map D.int).drop k)]=My (.int (((l.drop k).sum:Nat):Int)):=by
 rw[←Ul,←Ul];exact(eJ _).trans (by rw[←fZ])
theorem yB:∀{r:List Nat} {ps:List (Nat×Nat)},(r.zip ps).map (λq=>D.int (Ve (q.1:Int) (q.2.2:Int)))=(nI (tps ps r)).map D.int
 |[],_=>by cases ‹List (Nat×Nat)›<;>rfl
 |_::_,[]=>rfl
 |x::r,p::ps=>by
  have e:=yB (r:=r) (ps:=ps);show _::_=D.int ((Ve x p.2:Nat):Int)::(nI (tps ps r)).map D.int;rw[←e];show D.int (Ve (x:Int) (p.2:Int))::_=_;rw[show Ve (x:Int) (p.2:Int)=((Ve x p.2:Nat):Int) by omega];rfl
theorem yz:∀{ps:List (Nat×Nat)} {r:List Nat} {k:Nat} (b:k<ps.length) (c:k<r.length),(tps ps r)[k]?=My (Ve r[k] ps[k].2)
 |p::ps,x::r,0,_,_=>rfl
 |p::ps,x::r,k+1,b,c=>yz (k:=k) (by simpa using b) (by simpa using c)
abbrev uN(ps:List (Nat×Nat))(r:List Nat)(c:Nat)(st:D)(b d e:Option Sl):Ds:=[My (.sh (tN r)),My (.sh (.int (c:Int))),My (.sh (.lst (ps.map pN))),My (.sh (.lst ((nI (los ps)).map .int))),My (.sh (.lst ((nI (tps ps r)).map .int))),My (.sh st),b,d,e]
theorem MQ{ps:List (Nat×Nat)}{r:List Nat}{c:Nat}(F:Nrw r)(v:ps.length=r.length)(w:∀p∈ps,p.1<=40/\p.2<=40)(P:c<=40):(kr K a).1 [tN r,.int (c:Int),.lst (ps.map pN)] β=My (.ok (.lst ((vB ps r c).map tN)),β):=by
 obtain⟨_,Q,hs,R⟩:=F;have H:r.length<=P0:=aZ (by omega);have o:∀k,k<=r.length->(stB ps r c k).length<=P0:=λk m=>aZ (Qc (vE c k m) (Qc (xi r k) (by omega)));unfold kr
 dsimp only
 refine aG ?_;refine aA (d:= .lst ((nI (los ps)).map .int)) (β1:=β) ?_ ?_
 ·have:=bf (nv:=2) (caps:=[]) (it:=dD (ag 2)) (tg:=tgT (gm (tgC 0) (gm (tgC 1) kX))) (f:=ag 0) (δ:=vw (uN ps r c .non Po Po Po)) (β:=β) ps pN (λp=> .int (p.1:Int)) rfl (λx _=>⟨[My (.int (x.1:Int)),My (.int (x.2:Int))],rfl,rfl⟩) (by rw[v];exact H)
  refine Eq.trans this ?_;unfold los;rw[PV,PV];rfl
 refine aA (d:= .lst ((nI (tps ps r)).map .int)) (β1:=β) ?_ ?_
 ·rw[←yB]
  exact bf (nv:=3) (caps:=[]) (it:=DD (ac (ag 0) (ac (ag 2) (aB)))) (tg:=tgT (gm (tgC 0) (gm (tgT (gm (tgC 1) (gm (tgC 2) kX))) kX))) (f:=bp uw (ac (ag 0) (ac (ag 2) (aB)))) (δ:=vw (uN ps r c .non Po Po Po)) (β:=β) (r.zip ps) (λq=>D.tup [.int (q.1:Int),pN q.2]) _ (by
   rw[←nq (λx:Nat=>D.int (x:Int)) pN];refine ym (x:=tN r) (y:= .lst (ps.map pN)) rfl rfl ?_ rfl;show My _=My _;rw[PV];rfl) (λq _=>⟨[My (.int (q.1:Int)),My (.int (q.2.1:Int)),My (.int (q.2.2:Int))],rfl,ai rfl Mo⟩) (aZ (by rw[WR];omega))
 refine aA (d:= .lst ((stB ps r c 0).map eN)) (β1:=β) (ai (aa (ai (aa (ai rfl rfl) (aa rfl rfl)) fA) rfl) xC) ?_;refine cI (ds:=aR 0 r.length) (β1:=β) (bw (aa (ai (z:= .int (r.length:Int)) rfl (by show My (D.int _)=_;rw[Pp,Pp])) rfl) (rg1 (by omega) (by omega))) (λk δ B=>β=B/\∃A t u,δ=uN ps r c (.lst ((stB ps r c k).map eN)) A t u) ⟨rfl,Po,Po,Po,rfl⟩ ?_ ?_
 ·rintro k d δ _ hd ⟨rfl,A,t,u,rfl⟩
  obtain⟨m,rfl⟩:=w9 hd;have j:k<ps.length:=by omega
  have I:ps[k]?=My ps[k]:=Pw j;have b40:=w _ (QL j);have T:(los ps).sum<=160:=by
   have g:∀l:List (Nat×Nat),(∀p∈l,p.1<=40/\p.2<=40)->(los l).sum<=40*l.length:=λl=>by
    induction l with
    |nil=>intro _;exact PN _
    |cons p l ih=>
     intro h;have:=ih λq v=>h q (Ps _ v);have:=(h p PF).1;simp only[los,P3,Qe,Qd]at*;omega
   have:=g ps w;omega
  have C:∀(l:List Nat) (n:Nat),(l.drop n).sum<=l.sum:=λl n=>by
   conv=>rhs;rw[←Sj n l,Ux]
   omega
  have J:=C (los ps) (k+1);have L:=Qc (C (tps ps r) (k+1)) yy;refine⟨uN ps r c (.lst ((stB ps r c k).map eN)) (My (.sh (.int (k:Int)))) t u,rfl,?_⟩;refine aA (d:= .int ((((los ps).drop (k+1)).sum:Nat):Int)) (β1:=β) (ai (aa (qJ rfl (x_2 rfl rfl rfl)) rfl) ((QV (λl=>ii [.lst l]) (uX (k:=k+1))).trans (yI _ _))) ?_;refine aA (d:= .int ((((tps ps r).drop (k+1)).sum:Nat):Int)) (β1:=β) (ai (aa (qJ rfl (x_2 rfl rfl rfl)) rfl) ((QV (λl=>ii [.lst l]) (uX (k:=k+1))).trans (yI _ _))) ?_;refine ak (aA (d:= .lst ((stB ps r c (k+1)).map eN)) (β1:=β) ?_ (bq ⟨rfl,_,_,_,rfl⟩));have e:(stB ps r c (k+1)).map eN=(stB ps r c k).flatMap λb=>(nxB r[k] ps[k] ((los ps).drop (k+1)).sum ((tps ps r).drop (k+1)).sum b).map eN:=by
   show((stB ps r c k).flatMap _).map eN=_;rw[SI,gy m,gy j]
  rw[e];refine K4 (stB ps r c k) eN _ rfl (λb w=>⟨[My (tN b.1),My (.int (b.2:Int)),Po,My (.lst ((nI (los ps)).map .int)),My (.int (k:Int)),My (.int ((((tps ps r).drop (k+1)).sum:Nat):Int)),My (.lst ((nI (tps ps r)).map .int)),My (.int ((((los ps).drop (k+1)).sum:Nat):Int))],rfl,?_⟩) (by
   rw[←e,Pp];exact o (k+1) m)
  obtain⟨b2,b1⟩:=yM ps r c k b w;have U:=fQ (QL m);unfold nxB;generalize ((los ps).drop (k+1)).sum=few at*;generalize ((tps ps r).drop (k+1)).sum=most at*;refine(zr (PR (Ve (Ve r[k] ps[k].2+few) b.2+1-few-max ps[k].1 (b.2-most))) (λi=>D.int ((max ps[k].1 (b.2-most)+i:Nat):Int)) (λi=>eN (b.1++[max ps[k].1 (b.2-most)+i],b.2-(max ps[k].1 (b.2-most)+i))) ?_ ?_).trans (by rw[PV];rfl)
  ·refine bw (as:=[.int ((max ps[k].1 (b.2-most):Nat):Int),.int (Ve ((Ve r[k] ps[k].2:Nat):Int) ((b.2:Int)-few)+1)]) (aa (ai (aa (x_2 rfl rfl (bA (d:= .int (ps[k].1:Int)) ?_)) (aa (x_2 rfl rfl rfl) rfl)) (max2.trans ?_)) (aa (x_2 (ai (aa (x_2 rfl rfl (bA (d:= .int ((Ve r[k] ps[k].2:Nat):Int)) ?_)) (aa (x_2 rfl rfl rfl) rfl)) Mo) rfl rfl) rfl)) ((rg2I (by omega) (by omega) (by omega)).trans ?_)
   ·unfold los
    rw[Py,Py,Py,I];rfl
   ·rw[show max (ps[k].1:Int) ((b.2:Int)-(most:Int))=((max ps[k].1 (b.2-most):Nat):Int) by omega]
   ·rw[Py,Py,yz j m];rfl
   ·rw[show(Ve ((Ve r[k] ps[k].2:Nat):Int) ((b.2:Int)-few)+1-((max ps[k].1 (b.2-most):Nat):Int)).toNat=Ve (Ve r[k] ps[k].2+few) b.2+1-few-max ps[k].1 (b.2-most) by omega]
  ·refine λi N=>⟨[My (tN b.1),My (.int (b.2:Int)),My (.int ((max ps[k].1 (b.2-most)+i:Nat):Int)),My (.lst ((nI (los ps)).map .int)),My (.int (k:Int)),My (.int (most:Int)),My (.lst ((nI (tps ps r)).map .int)),My (.int (few:Int))],rfl,ai (aa (x_2 rfl (ai rfl rfl) (addT (l:=b.1) (c:=max ps[k].1 (b.2-most)+i) (by omega))) (aa (x_2 rfl rfl rfl) rfl)) (fA.trans ?_)⟩
   have O:=Qg.mp N;show My (D.tup [_,.int _])=My (D.tup [_,.int _]);rw[show(b.2:Int)-((max ps[k].1 (b.2-most)+i:Nat):Int)=((b.2-(max ps[k].1 (b.2-most)+i):Nat):Int) by omega]
 ·rintro δ _ ⟨rfl,A,t,u,rfl⟩
  rw[oR];have h:=kJ (nv:=2) (caps:=[]) (it:=dD (ag 5)) (tg:=tgT (gm (tgC 0) (gm (tgC 1) kX))) (tt:=fB (f2 (fJ) (ag 1) (fC (.int 0)))) (f:=ag 0) (δ:=vwA (uN ps r c (.lst ((stB ps r c r.length).map eN)) A t u)) (β:=β) (stB ps r c r.length) eN (λb=>tN b.1) (λb=>decide ((b.2:Int)=0)) rfl (λb _=>⟨[My (tN b.1),My (.int (b.2:Int))],rfl,x_B (x_2 rfl rfl eq_int),λ_=>rfl⟩) (o _ (PN _));refine ak (aQ h ⟨rfl,?_⟩);rw[←JR v,PV];rfl
theorem u7{α:Type}{tg:TgF}{b:FL}{δ:Dn}{β:Bg}(u:α->D)(o:α->List D):∀(xs:List α),(∀x∈xs,∃δ1,tg (u x) δ=My δ1/\b δ1 β=My (.ok (o x),β))->cLp tg (λ_=>M.ret Pt) b (xs.map u) δ β=My (.ok (xs.flatMap o),β)
 |[],_=>rfl
 |x::xs,h=>by
  obtain⟨δ1,c,d⟩:=h x PF;have e:=u7 u o xs λy f=>h y (Ps _ f);rw[P3,cLp];simp only[c,M.bind,M.ret,reduceIte,d,e,Ro]
theorem kK{α:Type}{nv:Nat}{caps:List Nat}{it:FL}{tg:TgF}{b:FL}{c:List D->Option D}{δ:Dn}{β:Bg}{d:D}(xs:List α)(u:α->D)(o:α->List D)(e:it δ β=My (.ok (xs.map u),β))
  (f:∀x∈xs,∃δ1,tg (u x) (cSt nv caps δ)=My δ1/\b δ1 β=My (.ok (o x),β)) (g:c (xs.flatMap o)=My d):gQ nv caps it tg (λ_=>M.ret Pt) b c δ β=My (.ok d,β):=by
 unfold gQ;rw[e];simp only[u7 u o xs f,g,RG]
theorem OJ{α:Type}{it:FL}{tg:TgF}{b:FL}{δ:Dn}{β:Bg}(xs:List α)(u:α->D)(o:α->List D)(c:it δ β=My (.ok (xs.map u),β))(d:∀x∈xs,∃δ1,tg (u x) δ=My δ1/\b δ1 β=My (.ok (o x),β)):cNx it tg (λ_=>M.ret Pt) b δ β=My (.ok (xs.flatMap o),β):=by
 unfold cNx M.bind;rw[c];exact u7 u o xs d
noncomputable abbrev pQ(B:List (List (Nat×Nat))):LP:=B.map λrow=>row.map λp=>((p.1:Int),(p.2:Int))
abbrev bDN(B:List (List (Nat×Nat))):D:=gf (pQ B)
noncomputable def nX(B:List (List (Nat×Nat)))(k:Nat):List (Nat×Nat):=B.map λrow=>row.getD k (0,0)
def BOk(r c:Nat)(B:List (List (Nat×Nat))):Prop:=Shp r c B/\∀row∈B,∀p∈row,p.1<=p.2/\p.2<=40
def wB(B:List (List (Nat×Nat)))(cs:List Nat):Wy:=λk r=>vB (nX B k) r (cs.getD k 0)
theorem wN(B:List (List (Nat×Nat)))(cs:List Nat):WOk cs (wB B cs):=λk r=>Uz
theorem BOk.col{r c k:Nat}{B:List (List (Nat×Nat))}(h:BOk r c B)(e:k<c):(nX B k).length=r/\∀p∈nX B k,p.1<=40/\p.2<=40:=by
 refine⟨by unfold nX;rw[Pp,h.1.1],λp d=>?_⟩;obtain⟨row,b,rfl⟩:=P8.mp d;have l:=h.1.2 row b;rw[gy (by omega)];have:=h.2 row b _ (QL (show k<row.length by omega));omega
theorem K5{r cs:List Nat}{B:List (List (Nat×Nat))}{k:Nat}(c:Nrw r)(hB:BOk r.length cs.length B)(i:cs.sum<=40)(e:k<cs.length):(bN K a).1 [tN r,nL cs,bDN B,.int (k:Int)] β=My (.ok (.lst ((wB B cs k r).map tN)),β):=by
 have g:cs[k]?=My (cs.getD k 0):=by rw[Px,Pw e];rfl
 obtain⟨l,q⟩:=hB.col e;unfold bN
 dsimp only
 refine aG (ak (aQ (am (aa rfl (aa (x_2 rfl rfl (bA (d:= .int (cs.getD k 0:Int)) (by rw[Py,Py,g];rfl))) (aa ?_ rfl))) (MQ c l q (Qc (fQ (Qb g)) i))) ⟨rfl,rfl⟩));have h:=bf (nv:=1) (caps:=[3]) (it:=dD (ag 2)) (tg:=tgC 0) (f:=f2 ixD (ag 0) (ag 1)) (δ:=[My (tN r),My (nL cs),My (bDN B),My (.int (k:Int))]) (β:=β) B (λrow=>D.lst (row.map pN)) (λrow=>pN (row.getD k (0,0))) (cj rfl (by
  show My _=My _;rw[PV,PV];exact QV My (Qs λrow _=>QV D.lst (by show Rb pD (Rb _ row)=_;rw[PV];rfl)))) (λrow b=>⟨[My (D.lst (row.map pN)),My (.int (k:Int))],rfl,x_2 rfl rfl (bA (by
   have l:=hB.1.2 row b;rw[Py,gy (by omega),Pw (by omega)];rfl))⟩) (aZ (by rw[hB.1.1];have:=c.2.1;omega))
 refine h.trans ?_;unfold nX;rw[PV];rfl
theorem zN:∀{r v:List Nat},LeN v r->(r.zip v).map (λp=>D.int ((p.1:Int)-(p.2:Int)))=(nI (less r v)).map D.int
 |[],[],_=>rfl
 |x::r,y::v,h=>by
  have e:=zN h.2;have b:=h.1;show _::_=D.int ((x-y:Nat):Int)::(nI (less r v)).map D.int;rw[←e];show D.int ((x:Int)-(y:Int))::_=_;rw[show(x:Int)-(y:Int)=((x-y:Nat):Int) by omega];rfl
 |[],_::_,h=>h.elim
 |_::_,[],h=>h.elim
theorem mt{r v:List Nat}(h:LeN v r)(b:r.length<=4):(bE K a).1 [tN r,tN v] β=My (.ok (tN (less r v)),β):=by
 unfold bE
 dsimp only
 refine aG (ak (aQ (ai (aa (x:= .lst ((nI (less r v)).map D.int)) ?_ rfl) rfl) ⟨rfl,rfl⟩));rw[←zN h];refine bf (r.zip v) (λp=>D.tup [.int (p.1:Int),.int (p.2:Int)]) _ ?_ (λp _=>⟨[My (.int (p.1:Int)),My (.int (p.2:Int))],rfl,rfl⟩) (aZ (by rw[WR];omega));rw[←nq (λx:Nat=>D.int (x:Int)) (λx:Nat=>D.int (x:Int))];refine ym (x:=tN r) (y:=tN v) rfl rfl ?_ ?_
 ·show My _=My _
  rw[PV];rfl
 ·show My _=My _
  rw[PV];rfl
structure Nt0 (rs cs:List Nat):Prop where
 nr:Nrw rs
 wd:pr (rs.dropLast.map (·+1))<63
 sm:rs.sum=cs.sum
 c1:1<=cs.length
 c6:cs.length<=6
structure Nt1 (K:P6) (a:Ad) (rs cs:List Nat) (W:Wy) (bd:D):Prop extends Nt0 rs cs where
 ok:WOk cs W
 fl:∀{β:Bg} {k:Nat} {r:List Nat},k<cs.length->Nrw r->r.length=rs.length->(bN K a).1 [tN r,nL cs,bd,.int (k:Int)] β=My (.ok (.lst ((W k r).map tN)),β)
theorem Nt1.at{rs cs r:List Nat}{k:Nat}{W:Wy}{b:D}(h:Nt1 K a rs cs W b)(c:k<=cs.length)(d:r∈lvW W rs k):Nrw r/\r.length=rs.length/\r.sum<=40:=by
 have q:=(i6 h.ok h.sm k c r d).1;obtain⟨e,f,g,i⟩:=h.nr;have q1:=q.len;have q2:=q.sum;have q3:=q.pr;exact⟨⟨by omega,by omega,by omega,by omega⟩,q1,by omega⟩
abbrev lvD(W:Wy)(rs:List Nat)(k:Nat):D:= .lst ((lvW W rs k).map tN)
theorem DA{rs cs:List Nat}{W:Wy}{b:D}(h:Nt1 K a rs cs W b):(fE K a).1 [nL rs,nL cs,b] β=My (.ok (.lst ((PR (cs.length+1)).map (lvD W rs))),β):=by
 have c6:=h.c6;unfold fE
 dsimp only
 refine aG ?_;refine aA (d:=lvD W rs 0) (β1:=β) (ai (aa (ai rfl rfl) rfl) xC) ?_;refine rY (ds:=[lvD W rs 0]) (β1:=β) rfl (show 1<=P0 by decide) ?_;refine cI (ds:=aR 0 cs.length) (β1:=β) (bw (aa (ai rfl (eM (r:=cs.length) (by rw[Pp,Pp]))) rfl) (rg1 (by omega) (by omega))) (λk δ c=>β=c/\∃e f,δ=[My (.sh (nL rs)),My (.sh (nL cs)),My (.sh (b)),My (.sh (lvD W rs k)),My (.own ((PR (k+1)).map (lvD W rs))),e,f]) ⟨rfl,Po,Po,rfl⟩ ?_ ?_
 ·rintro k d δ _ hd ⟨rfl,e,f,rfl⟩
  obtain⟨g,rfl⟩:=w9 hd;refine⟨_,rfl,aA (d:=lvD W rs (k+1)) (β1:=β) ?_ (sj (cs:=(PR (k+1)).map (lvD W rs)) (d:=lvD W rs (k+1)) rfl rfl (Qm (show _<1000 by rw[Pp,Qp];omega) (by decide)) (ak (aA (d:=lvD W rs (k+1)) (β1:=β) rfl (bq ⟨rfl,My (.sh (.int (k:Int))),My (.sh (lvD W rs (k+1))),?_⟩))))⟩
  ·refine kK (lvW W rs k) tN (λr=>(W k r).map λv=>tN (less r v)) rfl (λr j=>⟨[My (tN r),Po,My (nL cs),My (b),My (.int (k:Int))],rfl,?_⟩) ?_
   ·obtain⟨i,l,_⟩:=h.at (by omega) j
    exact zr _ tN _ (cj (am rfl (h.fl g i l)) rfl) (λv m=>⟨[My (tN r),My (tN v),My (nL cs),My (b),My (.int (k:Int))],rfl,am rfl (mt (bT ((h.ok k r).subset m)) i.2.1)⟩)
   ·rw[←Kx h.ok h.sm h.nr.1 h.wd g]
    unfold nwI;rw[SI];simp only[PV];rfl
  ·rw[Su (n:=k+1),Qy];rfl
 ·rintro δ _ ⟨rfl,e,f,rfl⟩
  rw[oR];exact ak (aQ rfl ⟨rfl,rfl⟩)
theorem fS{i:Nat}{op:D->D->Option D}{f:FD}{c d z:D}{h:G}{δ:Ds}{β β1:Bg}{Q:Out->Bg->Prop}(b:(vw δ).getD i Po=My c)(e:f (vw δ) β=My (.ok d,β1))(g:op c d=My z)(k:Gw h (δ.set i (My (.sh z))) β1 Q):Gw (aI (xP i op f) h) δ β Q:=eF (by unfold xP;simp only[b,e,g,RG]) k
theorem LL{m i:Nat}{d:D}(h:(aR 2 m)[i]?=My d):i<m/\d= .int ((i+2:Nat):Int):=by
 obtain⟨x,b,rfl⟩:=dJ (f:=λ(i:Nat)=>D.int (2+(i:Int))) (xs:=PR m) h;have c:=(PU.mp b).1;rw[Qp]at c;rw[Ri c]at b;cases b;exact⟨c,by congr 1;omega⟩
theorem LJ(lo:Int)(m:Nat):(aR lo m).length=m:=by unfold aR;rw[Pp,Qp]
theorem smN{n:Nat}(h:n<=2^11):n<2^1000:=dL h (by decide)
theorem KZ(n:Nat):facN (n-1+1)=facN n:=by cases n<;>rfl
theorem wo{n:Nat}(h:n<=40):(jF K a).1 [.int (n:Int)] β=My (.ok (.int ((facN n:Nat):Int)),β):=by
 unfold jF
 dsimp only
 refine aG ?_;refine aA (d:= .int 1) (β1:=β) rfl ?_;refine cI (ds:=aR 2 (n-1)) (β1:=β) (bw (aa rfl (aa (x_2 rfl rfl rfl) rfl)) (rg2 (by omega))) (λi δ b=>β=b/\∃c,δ=[My (.sh (.int (n:Int))),My (.sh (.int ((facN (i+1):Nat):Int))),c]) ⟨rfl,Po,rfl⟩ ?_ ?_
 ·rintro i d δ _ hd ⟨rfl,c,rfl⟩
  obtain⟨e,rfl⟩:=LL hd;exact⟨_,rfl,ak (fS rfl rfl (fG (dL (uP (by omega)) (by decide)) (smN (by omega))) (bq ⟨rfl,_,rfl⟩))⟩
 ·rintro δ _ ⟨rfl,c,rfl⟩
  rw[LJ,KZ];exact ak (aQ rfl ⟨rfl,rfl⟩)
def wayN(l:List Nat):Nat:=facN l.sum/pr (l.map facN)
theorem N6{l:List Nat}{d:D}(h:Sq l d):oA [d]=My (.int ((l.sum:Nat):Int)):=by
 rw[←fZ];rcases h with rfl|rfl
 ·exact Ls _
 ·exact Lr _
theorem lL(l:List Nat):ii [nL l]=My (.int ((l.sum:Nat):Int)):=by rw[←fZ];exact eJ _
theorem IY{l:List Nat}{i n:Nat}(h:l.sum<=40)(hn:l[i]?=My n):n<=40:=Qc (fQ (Qb hn)) h
theorem pW{l:List Nat}{cd:D}(hs:Sq l cd)(h:l.sum<=40):(ly K a).1 [cd] β=My (.ok (.int ((wayN l:Nat):Int)),β):=by
 unfold ly
 dsimp only
 refine aG ?_;refine cI (ds:=(nI l).map D.int) (β1:=β) (cj rfl hs.seq) (λi δ c=>β=c/\∃b,δ=[My (.sh cd),b,Po]) ⟨rfl,Po,rfl⟩ ?_ ?_
 ·rintro i d δ _ hd ⟨rfl,b,rfl⟩
  obtain⟨n,hn,rfl⟩:=o7 hd;exact⟨_,rfl,ak (sd (β1:=β) (x_B (x_2 rfl rfl (by show My (D.bl (decide ((n:Int)<0)))=_;rw[QD (by omega)]))) (cE (bq ⟨rfl,_,rfl⟩)))⟩
 rintro δ _ ⟨rfl,b,rfl⟩;refine aA (d:= .int ((facN l.sum:Nat):Int)) (β1:=β) (am (aa (ai rfl (N6 hs)) rfl) (wo h)) ?_;refine cI (ds:=(nI l).map D.int) (β1:=β) (cj rfl hs.seq) (λi δ c=>β=c/\∃b,δ=[My (.sh cd),b,My (.sh (.int ((facN l.sum/pr ((l.take i).map facN):Nat):Int)))]) ⟨rfl,b,by rw[List.take_zero,T7,zd,Nat.div_one];rfl⟩ ?_ ?_
 ·rintro i d δ _ hd ⟨rfl,b,rfl⟩
  obtain⟨n,hn,rfl⟩:=o7 hd;refine⟨_,rfl,ak (fS rfl (am rfl (wo (IY h hn))) (xV (iI n) (dL (uP (IY h hn)) (by decide))) (bq ⟨rfl,My (.sh (.int (n:Int))),?_⟩))⟩;rw[qe hn,X3];rfl
 ·rintro δ _ ⟨rfl,b,rfl⟩
  rw[o6,SK];exact ak (aQ rfl ⟨rfl,rfl⟩)
theorem oi{l:List Nat}(h:l.sum<=40):wayN l<=2^160:=Qc (UA _ _) (uP h)
theorem oh(l:List Nat):wayN l=mu l:=Mn l
theorem sF{l:List Nat}(h:l.sum<=40):mu l<=2^160:=by rw[←oh];exact oi h
theorem HZ{α:Type}{l:List α}{i:Nat}{x:α}(f:α->Nat)(h:l[i]?=My x):L2.Nt.sm (l.take (i+1)) f=L2.Nt.sm (l.take i) f+f x:=by
 rw[T8,h,tH];rfl
abbrev cv(W:Wy)(m k:Nat)(r:List Nat):D:= .tup [.int ((tbW W (m-k) k r:Nat):Int),.int ((dlW W (m-k) k r:Nat):Int)]
abbrev dcL(W:Wy)(rs:List Nat)(m k:Nat):D:= .dct Pz ((lvW W rs k).map λr=>((0:Int),nI r)) ((lvW W rs k).map (cv W m k))
theorem zJ{f:List Nat->D}{u:List Nat}:∀{L:List (List Nat)},u∈L->lkD (L.map λr=>((0:Int),nI r)) (L.map f) (0,nI u)=My (f u)
 |r::L,h=>by
  unfold lkD;rw[P3,P3,RX,SX];by_cases q:r=u
  ·rw[q,P9 rfl];rfl
  ·rw[QD λe=>q (iZ (UG.mp e).2)]
   exact zJ ((PZ.mp h).resolve_left λe=>q e.symm)
theorem MU{W:Wy}{rs u:List Nat}{m k:Nat}(h:u∈lvW W rs k):EK (dcL W rs m k) (tN u)=My (cv W m k u):=by
 show(hZ Pz (dK Pz (0,nI u))).bind _=_;rw[qp λ_=>rfl];exact zJ h
theorem xq{rs cs r:List Nat}{W:Wy}{q:D}{k:Nat}(h:Nt1 K a rs cs W q)(o:k<cs.length)(p:r∈lvW W rs k):(hG K a).1 [tN r,.lst ((W k r).map tN),dcL W rs cs.length (k+1)] β=My (.ok (cv W cs.length k r),β):=by
 obtain⟨t,w,u⟩:=h.at (by omega) p;unfold hG
 dsimp only
 refine aG ?_;refine aA (d:= .int 0) (β1:=β) rfl (aA (d:= .int 0) (β1:=β) rfl ?_);refine cI (ds:=(W k r).map tN) (β1:=β) rfl (λi δ e=>β=e/\∃f g j,δ=[My (.sh (tN r)),My (.sh (.lst ((W k r).map tN))),My (.sh (dcL W rs cs.length (k+1))),My (.sh (.int ((L2.Nt.sm ((W k r).take i) λv=>tbW W (cs.length-(k+1)) (k+1) (less r v):Nat):Int))),My (.sh (.int ((L2.Nt.sm ((W k r).take i) λv=>mu v*dlW W (cs.length-(k+1)) (k+1) (less r v):Nat):Int))),f,g,j]) ⟨rfl,Po,Po,Po,rfl⟩ ?_ ?_
 ·rintro i d δ _ hd ⟨rfl,f,g,j,rfl⟩
  obtain⟨v,l,rfl⟩:=dJ hd;have hm:=Qb l;have m:less r v∈lvW W rs (k+1):=mD.mpr ⟨r,p,v,hm,rfl⟩;have b:=(h.ok k r).subset hm;have hs:=(i6 h.ok h.sm (k+1) o _ m).2;have c:v.sum<=40:=Qc (bT b).sum u;have n:=(h.at o m).2.2;refine⟨_,rfl,sf (d:=cv W cs.length (k+1) (less r v)) (β1:=β) (x_2 rfl (am rfl (mt (bT b) t.2.1)) (MU m)) rfl (fS rfl rfl rfl (ak (fS rfl (x_2 (am rfl (pW (.inr rfl) c)) rfl (fG (dL (oi c) (by decide)) (dL (Qc (uS h.ok _ _ _ (by omega)) (by rw[pJ _ _ hs];exact sF n)) (by decide)))) rfl (bq ⟨rfl,My (.sh (tN v)),My (.sh (.int ((tbW W (cs.length-(k+1)) (k+1) (less r v):Nat):Int))),My (.sh (.int ((dlW W (cs.length-(k+1)) (k+1) (less r v):Nat):Int))),?_⟩))))⟩;rw[HZ _ l,HZ _ l,oh,VG,VG];rfl
 ·rintro δ _ ⟨rfl,f,g,j,rfl⟩
  rw[Pp,SK];refine ak (aQ (ai rfl fA) ⟨rfl,?_⟩);show RM (D.tup [.int ((tbW W (cs.length-k) k r:Nat):Int),.int ((dlW W (cs.length-k) k r:Nat):Int)])=_;rw[show cs.length-k=cs.length-(k+1)+1 by omega];rfl
theorem wJ{f g:FD}{δ:Dn}{k v:D}(b:f δ β=My (.ok k,β))(c:g δ β=My (.ok v,β)):EO f g δ β=My (.ok [.tup [k,v]],β):=by
 unfold EO M.bind;rw[b];simp only[c,M.ret]
theorem uL{α b:Type}(f:α->b)(l:List α):(l.flatMap λx=>[f x])=l.map f:=by
 induction l with
 |nil=>rfl
 |cons x l ih=>rw[Ro,ih];rfl
theorem zF{rs cs:List Nat}{W:Wy}{b:D}(h:Nt1 K a rs cs W b){k:Nat}(c:k<=cs.length):(lvW W rs k).length<=62:=by
 have:=KC h.ok h.sm c;have:=h.wd;omega
theorem dk0{rs cs:List Nat}{W:Wy}{b:D}(h:Nt1 K a rs cs W b){k:Nat}(c:k<=cs.length){os:List D}(e:os=(lvW W rs k).map λr=> .tup [tN r,cv W cs.length k r]):kI Pz os=My (dcL W rs cs.length k):=by
 refine(wy (kvs:=(lvW W rs k).map λr=>(((0:Int),nI r),cv W cs.length k r)) ⟨?_,?_,?_,?_⟩).trans ?_
 ·rw[e,PV];rfl
 ·rw[PV];exact zy (λx y q=>iZ (UG.mp q).2) (uy k)
 ·rw[Pp];exact aZ (by have:=zF h c;omega)
 ·rintro p d _
  obtain⟨r,_,rfl⟩:=P8.mp d;rfl
 ·rw[PV,PV];rfl
theorem Ox{n:Nat}(h:n<=1000):sB [.int (n:Int)]=My (im n):=by
 simp only[sB];rw[PP (by simp only[Qq,QI];omega),Rp]
theorem Oy{n i:Nat}{d:D}(h:(im n)[i]?=My d):i<n/\d= .int ((n-1-i:Nat):Int):=by
 obtain⟨x,b,rfl⟩:=dJ (f:=λ(i:Nat)=>D.int ((n:Int)-1-i)) (xs:=PR n) h;have c:=(PU.mp b).1;rw[Qp]at c;rw[Ri c]at b;cases b;exact⟨c,by congr 1;omega⟩
theorem y7{f:Nat->D}{n k:Nat}(h:k<n):((PR n).map f)[k]?=My (f k):=by rw[Py,Ri h];rfl
theorem AG{f:Nat->D}:∀n j,cq j ((List.range' j n).map f)=(List.range' j n).map λk=> .tup [.int (k:Int),f k]
 |0,_=>rfl
 |n+1,j=>by
  rw[List.range'_succ,P3,P3,←AG n (j+1)];rfl
theorem JZ{f:Nat->D}(m:Nat):((PR (m+1)).map λj=>f (m-j)).reverse=(PR (m+1)).map f:=Rv (by simp) λi b c=>by
 simp only[YB,Pp,Qp]at b;simp only[Yp,SH,SQ,Pp,Qp];congr 1;omega
abbrev N2(W:Wy)(rs:List Nat)(m:Nat):List D:=(PR (m+1)).flatMap λk=>(lvW W rs k).map (cv W m k)
abbrev qB(W:Wy)(rs:List Nat)(m:Nat):D:= .dct Pt (kyW W rs (m+1)) (N2 W rs m)
theorem dk1{rs cs:List Nat}{W:Wy}{b:D}(h:Nt1 K a rs cs W b){os:List D}(e:os=(PR (cs.length+1)).flatMap λ(k:Nat)=>(lvW W rs k).map λr=> .tup [.tup [.int (k:Int),tN r],cv W cs.length k r]):kI Pt os=My (qB W rs cs.length):=by
 refine(wy (kvs:=(PR (cs.length+1)).flatMap λ(k:Nat)=>(lvW W rs k).map λr=>(((k:Int),nI r),cv W cs.length k r)) ⟨?_,?_,?_,?_⟩).trans ?_
 ·rw[e,SI];simp only[PV];rfl
 ·have:=zQ (W:=W) (rs:=rs) (cs.length+1)
  unfold kyW at this;rw[SI];simp only[PV];exact this
 ·refine aZ (Qc (mQ (n:=62) λk c=>?_) (by have:=h.c6;rw[Qp];omega))
  have:=Qg.mp c;rw[Pp];exact zF h (by omega)
 ·rintro p _ q
  cases q
 ·unfold qB kyW
  rw[SI,SI];simp only[PV];rfl
theorem x4{rs cs:List Nat}{W:Wy}{b:D}(h:Nt1 K a rs cs W b):(dW K a).1 [nL rs,nL cs,b] β=My (.ok (qB W rs cs.length),β):=by
 have c6:=h.c6;unfold dW
 dsimp only
 refine aG ?_;refine aA (d:= .lst ((PR (cs.length+1)).map (lvD W rs))) (β1:=β) (am rfl (DA h)) ?_;refine aA (d:= .int (cs.length:Int)) (β1:=β) (ai rfl (eM (by rw[Pp,Pp]))) ?_;refine aA (d:=dcL W rs cs.length cs.length) (β1:=β) (kK (lvW W rs cs.length) tN (λr=>[.tup [tN r,.tup [.int 1,.int 1]]]) (cj (x_2 rfl rfl (bA (y7 (by omega)))) rfl) (λr _=>⟨[My (tN r)],rfl,wJ rfl (ai rfl fA)⟩) (dk0 h (PN _) (by rw[uL];simp only[cv,VB];rfl))) ?_;refine rY (ds:=[dcL W rs cs.length cs.length]) (β1:=β) rfl (show 1<=P0 by decide) ?_;refine cI (ds:=im cs.length) (β1:=β) (bw rfl (Ox (by omega))) (λi δ c=>β=c/\∃e f,δ=[My (.sh (nL rs)),My (.sh (nL cs)),My (.sh (b)),My (.sh (.lst ((PR (cs.length+1)).map (lvD W rs)))),My (.sh (.int (cs.length:Int))),My (.sh (dcL W rs cs.length (cs.length-i))),My (.own ((PR (i+1)).map λj=>dcL W rs cs.length (cs.length-j))),e,f]) ⟨rfl,Po,Po,rfl⟩ ?_ ?_
 ·rintro i d δ _ hd ⟨rfl,e,f,rfl⟩
  obtain⟨p,rfl⟩:=Oy hd;have l:cs.length-1-i<cs.length:=by omega
  have o:cs.length-i=(cs.length-1-i)+1:=by omega
  have m:cs.length-(i+1)=cs.length-1-i:=by omega
  rw[o];refine⟨_,rfl,aA (d:=dcL W rs cs.length (cs.length-1-i+1)) (β1:=β) rfl (aA (d:=dcL W rs cs.length (cs.length-1-i)) (β1:=β) (kK (lvW W rs (cs.length-1-i)) tN (λr=>[.tup [tN r,cv W cs.length (cs.length-1-i) r]]) (cj (x_2 rfl rfl (bA (y7 (by omega)))) rfl) (λr g=>⟨[My (tN r),My (nL cs),My (b),My (.int ((cs.length-1-i:Nat):Int)),My (dcL W rs cs.length (cs.length-1-i+1))],rfl,wJ rfl (am (aa rfl (aa (am rfl (h.fl l (h.at (by omega) g).1 (h.at (by omega) g).2.1)) rfl)) (xq h l g))⟩) (dk0 h (by omega) (uL _ _))) (ak (sj (cs:=(PR (i+1)).map λj=>dcL W rs cs.length (cs.length-j)) (d:=dcL W rs cs.length (cs.length-1-i)) rfl rfl (Qm (show _<1000 by rw[Pp,Qp];omega) (by decide)) (bq ⟨rfl,My (.sh (.int ((cs.length-1-i:Nat):Int))),My (.sh (dcL W rs cs.length (cs.length-1-i+1))),?_⟩))))⟩;rw[Su (n:=i+1),Qy,m];show _=[_,_,_,_,_,_,My (Sl.own (_++[dcL W rs cs.length (cs.length-(i+1))])),_,_];rw[m];rfl
 ·rintro δ _ ⟨rfl,e,f,rfl⟩
  rw[show(im cs.length).length=cs.length by unfold im;rw[Pp,Qp]];refine ak (aQ (kK (PR (cs.length+1)) (λk=> .tup [.int (k:Int),dcL W rs cs.length k]) (λ(k:Nat)=>(lvW W rs k).map λr=> .tup [.tup [.int (k:Int),tN r],cv W cs.length k r]) (bw (aa (x_2 (y:= .int (-1)) rfl rfl rfl) rfl) ?_) (λk _=>⟨[My (.int (k:Int)),My (dcL W rs cs.length k),Po,Po],rfl,?_⟩) (dk1 h rfl)) ⟨rfl,rfl⟩)
  ·show My (cq 0 _)=_
   rw[JZ,List.range_eq_range',AG]
  ·refine(OJ (lvW W rs k) (λr=> .tup [tN r,cv W cs.length k r]) (λr=>[.tup [.tup [.int (k:Int),tN r],cv W cs.length k r]]) ?_ (λr _=>⟨[My (.int (k:Int)),My (dcL W rs cs.length k),My (tN r),My (cv W cs.length k r)],rfl,wJ (ai rfl fA) rfl⟩)).trans (by rw[uL])
   show My (RM (Tj _ _ _),β)=_;rw[List.zipWith_map_left,List.zipWith_map_right,List.zipWith_self];rfl
theorem Li{r c:Nat}{rows:LI}(sh:Shp r c rows)(r0:1<=r)(r1:r<=30)(c1:c<=30){δ:Dn}(h:δ.getD 0 Po=My (gridD rows)):da 1 [0] (cX gq (ac (bp gv (ac (f2 ixD (ag 0) (fC (.int 0))) (aB))) (aB))) (tgC 0) (λ_=>M.ret Pt) (cEm (da 1 [0] (dD (ag 1)) (tgC 0) (λ_=>M.ret Pt) (cEm (f2 ixD (ag 0) (ag 1))))) δ β=My (.ok (gridD (tp c rows)),β):=by
 obtain⟨b,d,g⟩:=sh.at (i:=0) (by omega);have k:(gI rows)[0]?=My (b.map D.int):=by rw[Py,d];rfl
 have o:bp gv (ac (f2 ixD (ag 0) (fC (.int 0))) (aB)) δ β=My (.ok (.int (c:Int)),β):=ai (aa (x:= .lst (b.map D.int)) (x_2 (x:=gridD rows) (HG h) rfl (xG k)) rfl) (eM (by rw[Pp,g]));have e:=bf (nv:=1) (caps:=[0]) (it:=cX gq (ac (bp gv (ac (f2 ixD (ag 0) (fC (.int 0))) (aB))) (aB))) (tg:=tgC 0) (f:=da 1 [0] (dD (ag 1)) (tgC 0) (λ_=>M.ret Pt) (cEm (f2 ixD (ag 0) (ag 1)))) (δ:=δ) (β:=β) (PR c) (λi=>D.int (0+(i:Int))) (λj=>D.lst (rows.map λrow=>D.int (row.getD j 0))) (bw (ds:=aR 0 c) (aa o rfl) (rg1 (by omega) (by omega))) ?_ (aZ (by rw[Qp];omega))
 ·rw[e]
  unfold tp tpA;show _=My (RM (D.lst (Rb D.lst (Rb _ (Rb _ _)))),β);rw[PV,PV];congr 4;refine Qs λj _=>?_;show _=D.lst ((rows.map λrow=>row.getD j 0).map D.int);rw[PV];rfl
 ·intro j p
  have q:=Qg.mp p;have m:cSt 1 [0] δ=[Po,My (gridD rows)]:=by
   unfold cSt;simp only[P3,T7,h];rfl
  refine⟨[My (.int (0+(j:Int))),My (gridD rows)],by rw[m];rfl,?_⟩;have hm:(gI rows).map D.lst=rows.map λrow=>D.lst (row.map D.int):=by rw[PV];rfl
  refine bf (nv:=1) (caps:=[0]) rows (λrow=>D.lst (row.map D.int)) _ (by show My (RM ((gI rows).map D.lst),β)=_;rw[hm]) (λrow t=>⟨_,rfl,x_2 (x:= .lst (row.map D.int)) (y:= .int (0+(j:Int))) rfl rfl ?_⟩) (aZ (by rw[sh.1];omega));have u:=sh.2 row t;obtain⟨x,n⟩:=ye (l:=row) (i:=j) (by omega);rw[Tp];refine bA ?_;rw[Py,n,Px,n];rfl
theorem xB{r c:Nat}{rows:LI}(sh:Shp r c rows)(r0:1<=r)(r1:r<=30)(c1:c<=30):(oV K a).1 [gridD rows] β=My (.ok (gridD (tp c rows)),β):=
 aG (ak (aQ (Li sh r0 r1 c1 rfl) ⟨rfl,rfl⟩))
noncomputable abbrev iL(xs:List Int):D:= .lst (xs.map D.int)
theorem yH{rows:LI}(h:rows.length<=1000){f:FD}{δ:Dn}(e:f δ β=My (.ok (gridD rows),β)):da 1 [] (dD f) (tgC 0) (λ_=>M.ret Pt) (cEm (bp ii (ac (ag 0) (aB)))) δ β=My (.ok (iL (rows.map Rt)),β):=by
 have hm:(gI rows).map D.lst=rows.map λrow=>D.lst (row.map D.int):=by rw[PV];rfl
 have:=bf (nv:=1) (caps:=[]) (it:=dD f) (tg:=tgC 0) (f:=bp ii (ac (ag 0) (aB))) (δ:=δ) (β:=β) rows (λrow=>D.lst (row.map D.int)) (λrow=>D.int row.sum) (by rw[←hm];exact cj e rfl) (λrow _=>⟨_,rfl,ai rfl (eJ row)⟩) (aZ h);rw[this];show _=My (RM (D.lst ((rows.map Rt).map D.int)),β);rw[PV];rfl
theorem oQ{rows:LI}(h:rows.length<=1000):(jE K a).1 [gridD rows] β=My (.ok (iL (rows.map Rt)),β):=
 aG (ak (aQ (yH h rfl) ⟨rfl,rfl⟩))
theorem rW{r c:Nat}{rows:LI}(sh:Shp r c rows)(r0:1<=r)(r1:r<=30)(c1:c<=30):(gr K a).1 [gridD rows] β=My (.ok (iL ((tp c rows).map Rt)),β):=
 aG (ak (aQ (yH (by rw[(mj (d:=(0:Int)) (c:=c) sh.1).1];omega) (am rfl (xB sh r0 r1 c1))) ⟨rfl,rfl⟩))
end
section
noncomputable def gp(G:LI)(i j:Nat):Int:=(G.getD i []).getD j 0
theorem O9{G:LI}{i j:Nat}{row:List Int}{x:Int}(a:G[i]?=My row)(b:row[j]?=My x):gp G i j=x:=by
 unfold gp;simp only[Px,a,b,YW]
theorem z6{G:LI}{i j:Nat}{row:List Int}(a:G[i]?=My row):row.getD j 0=gp G i j:=by
 unfold gp;rw[Px (l:=G),a];rfl
theorem BI:∀(xs:List Int),S xs.length (λj=>xs.getD j 0)=xs.sum:=λxs=>by
 unfold S;congr 1;refine Rv (by simp) λi b a=>?_;rw[SH,SQ,Px,Pw a];rfl
theorem N8{r c i:Nat}{A:LI}(b:Shp r c A)(d:i<r):S c (gp A i)=(A.map Rt).getD i 0:=by
 obtain⟨e,a,f⟩:=b.at d;rw[Px,Py,a];show _=e.sum;rw[←BI,f];exact dn λj _=>(z6 a).symm
theorem N9{r c j:Nat}{A:LI}(a:Shp r c A)(d:j<c):S r (λp=>gp A p j)=((tp c A).map Rt).getD j 0:=by
 have e:(tp c A)[j]?=My (A.map λrow=>row.getD j 0):=by
  show((PR c).map λj=>A.map λrow=>row.getD j 0)[j]?=_;rw[Py,Ri d];rfl
 rw[Px,Py,e];show _=(A.map λrow=>row.getD j 0).sum;rw[←BI,Pp,a.1];refine dn λp f=>?_;obtain⟨g,b,h⟩:=a.at f;rw[Px (l:=A.map _),Py,b];exact(z6 b).symm
end
section
variable{K:P6}{a:Ad}{β:Bg}
theorem mM{r c:Nat}{d:D}(e:r<=1000)(g:c<=1000):(ua K a).1 [.int (r:Int),.int (c:Int),d] β=My (.ok (lG (P5 r (P5 c d))),β):=by
 have b:∀x:Nat,da 1 [1] (cX gq (ac (ag 2) (aB))) (tgC 0) (λ_=>M.ret Pt) (cEm (ag 1)) [My (.int (0+(x:Int))),My d,My (.int (c:Int))] β=My (.ok (.lst (P5 c d)),β):=λx=>by
  have h:=bf (nv:=1) (caps:=[1]) (it:=cX gq (ac (ag 2) (aB))) (tg:=tgC 0) (f:=ag 1) (δ:=[My (.int (0+(x:Int))),My d,My (.int (c:Int))]) (β:=β) (PR c) (λi=>D.int (0+(i:Int))) (λ_=>d)
   (bw rfl (rg1 (by omega) (by omega))) (λx _=>⟨_,rfl,rfl⟩) (aZ (by rw[Qp];omega))
  rw[ju]at h;exact h
 have h:=bf (nv:=1) (caps:=[2,1]) (it:=cX gq (ac (ag 0) (aB))) (tg:=tgC 0) (f:=da 1 [1] (cX gq (ac (ag 2) (aB))) (tgC 0) (λ_=>M.ret Pt) (cEm (ag 1))) (δ:=[My (.int (r:Int)),My (.int (c:Int)),My d]) (β:=β) (PR r) (λi=>D.int (0+(i:Int))) (λ_=> .lst (P5 c d))
  (bw rfl (rg1 (by omega) (by omega))) (λx _=>⟨_,rfl,b x⟩) (aZ (by rw[Qp];omega))
 rw[ju]at h;unfold ua
 dsimp only
 refine aG (ak (aQ h ⟨rfl,?_⟩));simp only[lG,Rx]
theorem zw{rs:List Int}{b:List Nat}(c:∀i∈b,i<rs.length)(d:b.length<=1000):(lB K a).1 [iL rs,nL b] β=My (.ok (.int (o5 rs b)),β):=by
 unfold lB
 dsimp only
 refine aG (ak (aQ (ai (aa (x:=iL (b.map λi=>rs.getD i 0)) ?_ rfl) (eJ _)) ⟨rfl,rfl⟩));have:=bf (nv:=1) (caps:=[0]) (it:=dD (ag 1)) (tg:=tgC 0) (f:=f2 ixD (ag 1) (ag 0)) (δ:=[My (iL rs),My (nL b)]) (β:=β) b (λi=>D.int (i:Int)) (λi=>D.int (rs.getD i 0)) (by show My (RM ((nI b).map D.int),β)=_;rw[PV];rfl) (λi e=>⟨_,rfl,x_2 rfl rfl (IM (c i e))⟩) (aZ d);refine this.trans ?_;show _=My (RM (D.lst ((b.map λi=>rs.getD i 0).map D.int)),β);rw[PV];rfl
theorem rj{r c j:Nat}{cs:List Int}{b:LP}{g:List Nat}(sh:Shp r c b)(n:cs.length=c)(k:r<=1000)(l:j<c):(cR K a).1 [iL cs,gf b,nL g,.int (j:Int)] β=My (.ok (.int (eP cs b r g j)),β):=by
 unfold cR
 dsimp only
 refine aG ?_;refine aA (d:=iL (((PR r).filter λi=>!decide (i∈g)).map λi=>(bI b i j).1)) (β1:=β) ?_ ?_
 ·have m:((gP b).map D.lst).length=r:=by rw[Pp,Pp,sh.1]
  have:=kJ (nv:=2) (caps:=[2,3]) (it:=IH (ac (ag 1) aB)) (tg:=tgT (gm (tgC 0) (gm (tgC 1) kX))) (tt:=fB (f2 (inD Pt) (ag 0) (ag 2))) (f:=f2 ixD (f2 ixD (ag 1) (ag 3)) (fC (.int 0))) (δ:=[My (iL cs),My (gf b),My (nL g),My (.int (j:Int)),Po]) (β:=β) (PR r) (λi=>D.tup [.int (i:Int),.lst ((b.getD i []).map pD)]) (λi=>D.int (bI b i j).1) (λi=>!decide (i∈g)) ?_ (λi h=>⟨_,rfl,x_B (x_2 rfl rfl uH),λ_=>x_2 (x_2 rfl rfl (uD sh (Qg.mp h) l).2) rfl nQ⟩) (aZ (by rw[Qp];exact k))
  ·refine this.trans ?_
   show _=My (RM (D.lst ((((PR r).filter λi=>!decide (i∈g)).map λi=>(bI b i j).1).map D.int)),β);rw[PV];rfl
  ·show My (RM (cq 0 ((gP b).map D.lst)),β)=_
   rw[nl,m];congr 3;refine Qs λi h=>?_;rw[Rc];congr 3;obtain⟨e,_⟩:=sh.getD (Qg.mp h);rw[Px,Py,Py,e];rfl
 refine ak (aQ (x_2 (x:= .int (cs.getD j 0)) (x_2 rfl rfl (IM (by omega))) (ai rfl (eJ _)) rfl) ⟨rfl,?_⟩);have e:(PR r).map (λi=>if i∈g then(0:Int)else(bI b i j).1)=(PR r).map (λx=>if(!decide (x∈g))=Pt then(bI b x j).1 else 0):=Qs λi _=>by by_cases q:i∈g<;>simp[q]
 unfold eP S;rw[wn,e]
theorem rM{r c j:Nat}{b:LP}{d:List Nat}(sh:Shp r c b)(e:∀i∈d,i<r)(k:d.length<=1000)(g:j<c):(cS K a).1 [gf b,nL d,.int (j:Int)] β=My (.ok (.int (fR b d j)),β):=by
 unfold cS
 dsimp only
 refine aG (ak (aQ (ai (aa (x:=iL (d.map λi=>(bI b i j).2)) ?_ rfl) (eJ _)) ⟨rfl,rfl⟩));have:=bf (nv:=1) (caps:=[0,2]) (it:=dD (ag 1)) (tg:=tgC 0) (f:=f2 ixD (f2 ixD (f2 ixD (ag 1) (ag 0)) (ag 2)) (fC (.int 1))) (δ:=[My (gf b),My (nL d),My (.int (j:Int))]) (β:=β) d (λi=>D.int (i:Int)) (λi=>D.int (bI b i j).2) (by show My (RM ((nI d).map D.int),β)=_;rw[PV];rfl) (λi h=>⟨_,rfl,x_2 (x_2 (x_2 rfl rfl (uD sh (e i h) g).1) rfl (uD sh (e i h) g).2) rfl i7⟩) (aZ k);refine this.trans ?_;show _=My (RM (D.lst ((d.map λi=>(bI b i j).2).map D.int)),β);rw[PV];rfl
theorem y0{r c:Nat}{cs:List Int}{b:LP}{d e:List Nat}(sh:Shp r c b)(k:cs.length=c)(l:r<=1000)(h:c<=1000)(m:∀i∈d,i<r)(n:d.length<=1000):(lA K a).1 [iL cs,gf b,nL d,nL e] β=My (.ok (.int (sC cs b r c d e)),β):=by
 unfold lA
 dsimp only
 refine aG (ak (aQ (ai (aa (x:=iL ((PR c).map λj=>if j∈e then eP cs b r d j else fR b d j)) ?_ rfl) (eJ _)) ⟨rfl,rfl⟩));have:=bf (nv:=1) (caps:=[3,0,1,2]) (it:=cX gq (ac (bp gv (ac (ag 0) (aB))) (aB))) (tg:=tgC 0) (f:=fIf (fB (f2 (inD Pz) (ag 0) (ag 1))) (bH (cR K a).1 (ac (ag 2) (ac (ag 3) (ac (ag 4) (ac (ag 0) (aB)))))) (bH (cS K a).1 (ac (ag 3) (ac (ag 4) (ac (ag 0) (aB)))))) (δ:=[My (iL cs),My (gf b),My (nL d),My (nL e)]) (β:=β) (PR c) (λj=>D.int (0+(j:Int))) (λj=>D.int (if j∈e then eP cs b r d j else fR b d j)) (bw (ds:=aR 0 c) (aa (ai rfl (eM (by rw[Pp,k]))) rfl) (rg1 (by omega) (by omega))) (λj o=>⟨[My (.int (j:Int)),My (nL e),My (iL cs),My (gf b),My (nL d)],by rw[Tp];rfl,?_⟩) (aZ (by rw[Qp];exact h))
 ·refine this.trans ?_
  show _=My (RM (D.lst (((PR c).map λj=>if j∈e then eP cs b r d j else fR b d j).map D.int)),β);rw[PV];rfl
 ·have g:=Qg.mp o
  by_cases q:j∈e
  ·rw[PP q]
   exact Oc (x_B (x_2 rfl rfl (by rw[uH];simp[q]))) (am rfl (rj sh k l g))
  ·rw[PL q]
   exact Od (x_B (x_2 rfl rfl (by rw[uH];simp[q]))) (am rfl (rM sh m n g))
theorem zA{r c:Nat}{cs:List Int}{b:LP}{d:List Nat}(sh:Shp r c b)(g:cs.length=c)(l:r<=1000)(e:c<=1000)(m:∀i∈d,i<r)(n:d.length<=1000):(jD K a).1 [iL cs,gf b,nL d] β=My (.ok (nL (ut cs b r c d)),β):=by
 unfold jD
 dsimp only
 refine aG ?_;have h:=kJ (nv:=1) (caps:=[0,1,2]) (it:=cX gq (ac (bp gv (ac (ag 0) (aB))) (aB))) (tg:=tgC 0) (tt:=fB (f2 (ltD) (bH (cR K a).1 (ac (ag 1) (ac (ag 2) (ac (ag 3) (ac (ag 0) (aB)))))) (bH (cS K a).1 (ac (ag 2) (ac (ag 3) (ac (ag 0) (aB))))))) (f:=ag 0) (δ:=[My (iL cs),My (gf b),My (nL d)]) (β:=β) (PR c) (λj=>D.int (0+(j:Int))) (λj=>D.int (j:Int)) (λj=>decide (eP cs b r d j<fR b d j))
  (bw (ds:=aR 0 c) (aa (ai rfl (eM (by rw[Pp,g]))) rfl) (rg1 (by omega) (by omega)))
  (λj k=>⟨[My (.int (j:Int)),My (iL cs),My (gf b),My (nL d)],by rw[Tp];rfl,x_B (x_2 (am rfl (rj sh g l (Qg.mp k))) (am rfl (rM sh m n (Qg.mp k))) rfl),λ_=>rfl⟩) (aZ (by rw[Qp];exact e))
 refine ak (aQ h ⟨rfl,?_⟩);show RM (D.lst ((nI (ut cs b r c d)).map D.int))=_;rw[PV];rfl
theorem LH{n i:Nat}{d:D}(h:(aR 0 n)[i]?=My d):i<n/\d= .int (i:Int):=by
 obtain⟨x,b,rfl⟩:=dJ (f:=λ(i:Nat)=>D.int (0+(i:Int))) (xs:=PR n) h;have c:=(PU.mp b).1;rw[Qp]at c;rw[Ri c]at b;cases b;exact⟨c,by rw[Tp]⟩
theorem x9{n:Nat}(hn:n<=6):(lD K a).1 [.int (n:Int)] β=My (.ok (.lst ((chF n).map nL)),β):=by
 unfold lD
 dsimp only
 refine aG ?_;refine aA (d:= .lst [.lst []]) (β1:=β) (ai (aa (ai rfl lst0) rfl) xC) ?_;refine cI (ds:=aR 0 n) (β1:=β) (bw rfl (rg1 (by omega) (by omega))) (λi δ b=>β=b/\∃c,δ=[My (.sh (.int (n:Int))),My (.sh (.lst ((chF i).map nL))),c]) ⟨rfl,Po,rfl⟩ ?_ ?_
 ·rintro i d δ _ hd ⟨rfl,c,rfl⟩
  obtain⟨g,rfl⟩:=LH hd;have j:(chF i).length<=64:=by rw[wA];exact Qc (Uv (by decide) (show i<=6 by omega)) (by decide)
  refine⟨[My (.sh (.int (n:Int))),My (.sh (.lst ((chF i).map nL))),My (.sh (.int (i:Int)))],rfl,ak (aA (d:= .lst ((chF (i+1)).map nL)) (β1:=β) ?_ (bq ⟨rfl,_,rfl⟩))⟩;have h:=bf (nv:=1) (caps:=[2]) (it:=dD (ag 1)) (tg:=tgC 0) (f:=f2 gz (ag 0) (bp dY (ac (ag 1) (aB)))) (δ:=vw [My (.sh (.int (n:Int))),My (.sh (.lst ((chF i).map nL))),My (.sh (.int (i:Int)))]) (β:=β) (chF i) nL (λl=>nL (l++[i])) rfl (λl e=>⟨[My (nL l),My (.int (i:Int))],rfl,by
   have k:l.length<=i:=by have:=(iM i l e).length_le;rwa[Qp]at this
   refine x_2 rfl (ai rfl xC) ((wG ?_).trans ?_)
   ·rw[Pp,Pp,Q4];omega
   ·simp only[nL,nI,Qy,P3,T7]⟩) (aZ (by omega))
  refine x_2 rfl h ((wG ?_).trans ?_)
  ·rw[Pp,Pp];omega
  ·rw[chF,Qy,PV];rfl
 ·rintro δ _ ⟨rfl,c,rfl⟩
  rw[show(aR 0 n).length=n by unfold aR;rw[Pp,Qp]];exact ak (aQ rfl ⟨rfl,rfl⟩)
theorem MX{r:Nat}{b:List Nat}(h:b∈chF r):(∀i∈b,i<r)/\b.length<=r:=⟨λi c=>Qg.mp ((iM r b h).subset c),by have:=(iM r b h).length_le;rwa[Qp]at this⟩
theorem MP{r c:Nat}{rs cs:List Int}{b:LP}(sh:Shp r c b)(l:rs.length=r)(m:cs.length=c)(n:r<=6)(p:c<=6)(ok:∀X Y,0<=slB rs cs b r c X Y):(eZ K a).1 [iL rs,iL cs,gf b] β=My (.ok .non,β):=by
 unfold eZ
 dsimp only
 refine aG (ak (cI (ds:=(chF r).map nL) (β1:=β) (cj (am (aa (ai rfl (eM (r:=r) (by rw[Pp,l]))) rfl) (x9 n)) rfl) (λi δ f=>β=f/\∃g h,δ=[My (.sh (iL rs)),My (.sh (iL cs)),My (.sh (gf b)),g,h]) ⟨rfl,Po,Po,rfl⟩ ?_ ?_))
 ·rintro i d δ _ hd ⟨rfl,g,h,rfl⟩
  obtain⟨e,q,rfl⟩:=dJ hd;have hm:=Qb q;obtain⟨k,t⟩:=MX hm;refine⟨_,rfl,aA (d:=nL (ut cs b r c e)) (β1:=β) (am rfl (zA sh m (by omega) (by omega) k (by omega))) ?_⟩;refine ak (sd (x_B (x_2 (am rfl (zw (by rw[l];exact k) (by omega))) (am rfl (y0 sh m (by omega) (by omega) k (by omega))) ?_)) (cE (bq ⟨rfl,_,_,rfl⟩)));have o:=ok (λi=>decide (i∈e)) (λj=>decide (j∈ut cs b r c e));have sub:(ut cs b r c e).Sublist (PR c):=Uz;rw[←Lz (iM r e hm) sub]at o;show My (D.bl (decide _))=_;rw[QD (by omega)]
 ·rintro δ _ ⟨rfl,g,h,rfl⟩
  exact bq ⟨rfl,rfl⟩
end
section
variable{K:P6}{a:Ad}
theorem JO{r c:Nat}{rows:LI}{b:LP}(sh:Shp r c rows)(m:Shp r c b)(kp:Kp rows b)(X Y:Nat->Bool):0<=slB (rows.map Rt) ((tp c rows).map Rt) b r c X Y:=by
 refine JT (g:=gp rows) (λi f j h=>?_) (λi f=>(N8 sh f).symm) (λj h=>(N9 sh h).symm) X Y;obtain⟨row,k,n⟩:=sh.at f;have ex:=mU (l:=row) (i:=j) (d:=0) (by omega);obtain⟨e,l⟩:=m.getD f;have ep:=mU (l:=b.getD i []) (i:=j) (d:=((0,0):Int×Int)) (by omega);rw[O9 k ex];exact kp i j _ _ (BB k ex) (BB e ep)
end
section
variable{K:P6}{a:Ad}{β:Bg}{rs cs:List Nat}
theorem IS{g:G}{δ:Ds}{o:Out}(h:Gw g δ β (λc b=>c=o/\b=β)):g δ β=My (o,β):=by
 obtain⟨c,b,e,rfl,rfl⟩:=h;exact e
theorem jf{t:Dn->M Bool}{d b h:G}{δ:Ds}{β1:Bg}{c:Bool}{Q:Out->Bg->Prop}(e:t (vwA δ) β=My (.ok c,β1))(f:c=Pz)(k:Gw (aI b h) δ β1 Q):Gw (aI (gIf t d b) h) δ β Q:=by
 subst f;exact sd e k
theorem zt(l:List Nat){n:Nat}{δ:Dn}(b:l.length<=1000)(e:δ.getD n Po=My (nL l)):xX (bp yf (ac (da 1 [] (dD (ag n)) (tgC 0) (λ_=>M.ret Pt) (cEm (f2 (ltD) (ag 0) (fC (.int 0))))) (aB))) δ β=My (.ok Pz,β):=by
 have c:=bf (nv:=1) (caps:=[]) (it:=dD (ag n)) (tg:=tgC 0) (f:=f2 (ltD) (ag 0) (fC (.int 0))) (δ:=δ) (β:=β) (nI l) D.int (λx=>D.bl (decide (x<0))) (cj (HG e) rfl) (λx _=>⟨_,rfl,rfl⟩) (aZ (by rw[Pp];exact b));refine HH (ai (aa c rfl) (any_map _ _)) (QV My (Zf.mpr λx d=>?_));obtain⟨n,_,rfl⟩:=P8.mp d;simp
theorem lO(l:List Nat):gv [nL l]=My (.int (l.length:Int)):=eM (by rw[Pp,Pp])
theorem K3(h:Nt0 rs cs):(iX K a).1 [nL rs,nL cs] β=My (.ok .non,β):=by
 obtain⟨b,c,d,e⟩:=h.nr;have c1:=h.c1;have c6:=h.c6;unfold iX
 dsimp only
 refine aG ?_;refine jf (wI (x_B (vp rfl (ai rfl (lO rs)) rfl))) (by simp;omega) (cE ?_);refine jf (wI (x_B (vp rfl (ai rfl (lO cs)) rfl))) (by simp;omega) (cE ?_);refine sd (wH (zt rs (by omega) rfl) (zt cs (by omega) rfl)) (cE ?_);refine jf (x_B (x_2 (ai rfl (lL rs)) (ai rfl (lL cs)) ne_int)) (by rw[h.sm];simp) (cE ?_);exact ak (jf (x_B (x_2 (ai rfl (lL rs)) rfl gt_int)) (by simp;omega) (cE (bq ⟨rfl,rfl⟩)))
noncomputable abbrev frN(r c:Nat):List (List (Nat×Nat)):=P5 r (P5 c (0,40))
theorem IU(r c:Nat):pQ (frN r c)=sN r c:=by
 unfold pQ frN sN;rw[Rx,Rx];rfl
theorem JV(h:Nt0 rs cs):(dA K a).1 [.non,.int (rs.length:Int),.int (cs.length:Int)] β=My (.ok (bDN (frN rs.length cs.length)),β):=by
 have b:=h.nr.2.1;have c6:=h.c6;unfold dA
 dsimp only
 refine aG ?_;refine Oh (x_B (x_2 rfl rfl rfl)) (aQ (JD rfl (mM (by omega) (by omega))) ⟨rfl,?_⟩);show RM (lG (gP _))=_;rw[IU];unfold sN gP;rw[Rx,Rx];rfl
theorem JE(h:Nrw rs):(iW K a).1 [nL rs] β=My (.ok .non,β):=by
 obtain⟨g,j,k,e⟩:=h;unfold iW
 dsimp only
 refine aG ?_;refine aA (d:= .int 1) (β1:=β) rfl ?_;refine cI (ds:=(nI rs).map D.int) (β1:=β) rfl (λi δ b=>β=b/\∃c,δ=[My (.sh (nL rs)),My (.sh (.int ((pr ((rs.take i).map (·+1)):Nat):Int))),c]) ⟨rfl,Po,rfl⟩ ?_ ?_
 ·rintro i d δ _ hd ⟨rfl,c,rfl⟩
  obtain⟨n,hn,rfl⟩:=o7 hd;have f:=fQ (Qb hn);have l:=Qc (xi rs i) e;refine⟨_,rfl,ak (fS rfl (x_2 (z:= .int ((n+1:Nat):Int)) rfl rfl rfl) (fG (smN (by omega)) (smN (by omega))) (bq ⟨rfl,My (.sh (.int (n:Int))),?_⟩))⟩;rw[qe hn];rfl
 ·rintro δ _ ⟨rfl,c,rfl⟩
  rw[o6,SK];exact ak (jf (x_B (x_2 rfl rfl gt_int)) (by simp;omega) (cE (bq ⟨rfl,rfl⟩)))
structure NtB (rows:LI) (B:List (List (Nat×Nat))) (rs cs:List Nat):Prop extends Nt0 rs cs where
 shp:Shp rs.length cs.length rows
 rw1:rows.map Rt=nI rs
 cl1:(tp cs.length rows).map Rt=nI cs
 bok:BOk rs.length cs.length B
 kp:Kp rows (pQ B)
theorem rN{r c:Nat}{B:List (List (Nat×Nat))}(h:Shp r c B):Shp r c (pQ B):=h.map
theorem NtB.nt{rows:LI}{B:List (List (Nat×Nat))}(h:NtB rows B rs cs):Nt1 K a rs cs (wB B cs) (bDN B):=⟨h.toNt0,wN B cs,λ{β k r} b c e=>K5 c (by rw[e];exact h.bok) (by rw[←h.sm];exact h.nr.2.2.1) b⟩
theorem NtB.fit{rows:LI}{B:List (List (Nat×Nat))}(h:NtB rows B rs cs):(eZ K a).1 [nL rs,nL cs,bDN B] β=My (.ok .non,β):=by
 have b:=h.nr.2.1;have c6:=h.c6;refine MP (rN h.bok.1) (Pp _) (Pp _) (by omega) (by omega) λX Y=>?_;rw[←h.rw1,←h.cl1];exact JO h.shp (rN h.bok.1) h.kp X Y
abbrev nFs(B:List (List (Nat×Nat)))(rs cs:List Nat):List D:=[nL rs,nL cs,bDN B,qB (wB B cs) rs cs.length]
theorem OL{rows:LI}{B:List (List (Nat×Nat))}{d:D}(h:NtB rows B rs cs)(hd:∀{β:Bg},(dA K a).1 [d,.int (rs.length:Int),.int (cs.length:Int)] β=My (.ok (bDN B),β)):o8 K a [nL rs,nL cs,d] β=My (.ok (nFs B rs cs),β):=DW λx=>by
 have sn:(c8 K a).1 [nL rs,nL cs,d] β=My (.ok (bDN B),β):=by
  unfold c8
  dsimp only
  refine aG ?_;exact oj (am rfl (K3 h.toNt0)) (aA (am (aa rfl (aa (ai rfl (lO rs)) (aa (ai rfl (lO cs)) rfl))) hd) (oj (am rfl (JE h.nr)) (ak (aQ rfl ⟨rfl,rfl⟩))))
 unfold uG;refine zW (g:=gb 4 _) (δ1:=[My (.sh (.adr x)),My (.sh (nL rs)),My (.sh (nL cs)),My (.sh d),My (.sh (bDN B))]) (β1:=β) (IS (ak (aA (am rfl sn) (bq ⟨rfl,rfl⟩)))) rfl rfl ?_;refine zW (δ1:=[My (.sh (.adr x)),My (.sh (nL rs)),My (.sh (nL cs)),My (.sh d),My (.sh (bDN B))]) (β1:=β) (IS (ak (oj (am rfl h.fit) (bq ⟨rfl,rfl⟩)))) rfl rfl ?_;exact pq (ai rfl rfl) (pq (ai rfl rfl) (pq rfl (pq (am rfl (x4 h.nt)) rfl)))
theorem v7{rows:LI}(h:NtB rows (frN rs.length cs.length) rs cs):o8 K a [nL rs,nL cs,.non] β=My (.ok (nFs (frN rs.length cs.length) rs cs),β):=OL h (JV h.toNt0)
theorem Oe{f:FD}{g:FL}{δ:Dn}{b:Bool}{ks:List KyD}{vs:List D}{k z d:D}{y:KyD}(c:f δ β=My (.ok (.dct b ks vs),β))(e:g δ β=My (.ok [k,z],β))(h:hZ b k=My y)(i:lkD ks vs y=My d):EE f g δ β=My (.ok d,β):=by
 unfold EE;rw[M.bind_ok c];simp only;rw[M.bind_ok e];simp only[h,i,RG,YW,M.ofO]
end
section
variable{K:P6}{a:Ad}{β:Bg}{rs cs:List Nat}{W:Wy}{bd:D}
abbrev sT(W:Wy)(cs:List Nat)(k:Nat)(r:List Nat):List (List Nat):=stW W (cs.length-(k+1)) k r
abbrev tB(W:Wy)(cs:List Nat)(k:Nat)(r v:List Nat):Nat:=tbW W (cs.length-(k+1)) (k+1) (less r v)
abbrev mB(W:Wy)(cs:List Nat)(k:Nat)(r v:List Nat):Nat:=mu v*dlW W (cs.length-(k+1)) (k+1) (less r v)
abbrev dm(a:Ad)(W:Wy)(bd:D)(rs cs:List Nat):D:= .obj a.Ar ["row_list","column_list","pairs","counted"] [nL rs,nL cs,bd,qB W rs cs.length]
theorem KF{k1 k2:List KyD}{b c:List D}{y:KyD}(h:k1.length=b.length):lkD (k1++k2) (b++c) y=(lkD k1 b y).or (lkD k2 c y):=by
 unfold lkD;rw[List.zip_append h,List.find?_append];cases(k1.zip b).find? λp=>decide (p.1=y)<;>rfl
theorem II{f:List Nat->D}{u:List Nat}{k:Int}:∀{L:List (List Nat)},u∈L->lkD (L.map λr=>(k,nI r)) (L.map f) (k,nI u)=My (f u)
 |r::L,h=>by
  unfold lkD;rw[P3,P3,RX,SX];by_cases q:r=u
  ·rw[q,P9 rfl];rfl
  ·rw[QD λe=>q (iZ (UG.mp e).2)]
   exact II ((PZ.mp h).resolve_left λe=>q e.symm)
theorem zI{f:List Nat->D}{y:KyD}{k:Int}(h:k≠y.1):∀{L:List (List Nat)},lkD (L.map λr=>(k,nI r)) (L.map f) y=Po
 |[]=>rfl
 |r::L=>by
  have ih:=zI (f:=f) h (L:=L);unfold lkD at ih⊢;rw[P3,P3,RX,SX,QD λe=>h (UG.mp e).1];exact ih
theorem zK{m k:Nat}{u:List Nat}(b:u∈lvW W rs k):∀{L:List Nat},k∈L->lkD (L.flatMap λk=>(lvW W rs k).map λr=>((k:Int),nI r)) (L.flatMap λk=>(lvW W rs k).map (cv W m k)) ((k:Int),nI u)=My (cv W m k u)
 |j::L,h=>by
  rw[Ro,Ro,KF (by rw[Pp,Pp])];by_cases q:j=k
  ·subst q
   rw[II b];rfl
  ·rw[zI (by show(j:Int)≠(k:Int);omega),Option.none_or]
   exact zK b ((PZ.mp h).resolve_left λe=>q e.symm)
theorem lk_net{k:Nat}{u:List Nat}(c:k<=cs.length)(b:u∈lvW W rs k):lkD (kyW W rs (cs.length+1)) (N2 W rs cs.length) ((k:Int),nI u)=My (cv W cs.length k u):=zK b (Qg.mpr (by omega))
theorem pO{k:Nat}{u:List Nat}(c:k<=cs.length)(d:u∈lvW W rs k):(cV K a).1 [dm a W bd rs cs,.int (k:Int),tN u] β=My (.ok (cv W cs.length k u),β):=
 aG (ak (aQ (Oe (ie rfl rfl) (aa (ai rfl fA) (aa (ai rfl fA) rfl)) (qp (b:=Pt) (k:=((k:Int),nI u)) λe=>(by cases e)) (lk_net c d)) ⟨rfl,rfl⟩))
theorem Ml{k:Nat}{u:List Nat}(b:k<=cs.length)(c:u∈lvW W rs k):DB (.tup [.int (k:Int),tN u]) (qB W rs cs.length)=My (.bl Pz):=by
 show(hZ Pt (dK Pt ((k:Int),nI u))).map _=_;rw[qp λe=>(by cases e),RG,lk_net b c];rfl
theorem Nt1.nx{k:Nat}{r v:List Nat}(h:Nt1 K a rs cs W bd)(b:r∈lvW W rs k)(c:v∈W k r):less r v∈lvW W rs (k+1):=mD.mpr ⟨r,b,v,c,rfl⟩
theorem HI{k:Nat}{r:List Nat}(h:Nt1 K a rs cs W bd)(b:Nrw r):(W k r).length<=500:=by
 have:=(h.ok k r).length_le;have:=iN r (cs.getD k 0);have:=xi r (r.length-1);rw[←List.dropLast_eq_take]at this;have:=b.2.2.2;omega
theorem HX{k:Nat}{r:List Nat}(h:Nt1 K a rs cs W bd)(b:Nrw r):(sT W cs k r).length<=500:=Qc Uz.length_le (HI h b)
theorem BZ{k:Nat}{r:List Nat}(h:Nt1 K a rs cs W bd)(d:k<cs.length)(b:r∈lvW W rs k):(jG K a).1 [dm a W bd rs cs,.int (k:Int),tN r] β=My (.ok (.lst ((sT W cs k r).map tN)),β):=by
 obtain⟨c,f,g⟩:=h.at (by omega) b;unfold jG
 dsimp only
 refine aG ?_;refine jf (wH (x_B (x_2 (ai rfl fA) (ie rfl rfl) (Ml (by omega) b))) (x_B (x_2 rfl (ai (aa (ie rfl rfl) rfl) (lO cs)) eq_int))) (by simp;omega) (cE ?_);refine ak (aQ (kJ (W k r) tN tN (λv=>decide ((0:Int)<((tB W cs k r v:Nat):Int))) (cj (am (aa rfl (aa (ie rfl rfl) (aa (ie rfl rfl) (aa rfl rfl)))) (h.fl d c f)) rfl) (λv e=>⟨[My (tN v),My (dm a W bd rs cs),My (.int (k:Int)),My (tN r)],rfl,?_,λ_=>rfl⟩) (aZ ?_)) ⟨rfl,rfl⟩)
 ·exact x_B (x_2 (x_2 (de rfl (aa (x:= .int ((k+1:Nat):Int)) (x_2 rfl rfl rfl) (aa (am rfl (mt (bT ((h.ok k r).subset e)) c.2.1)) rfl)) (pO d (h.nx b e))) rfl nQ) rfl gt_int)
 ·have:=HI (k:=k) h c
  omega
abbrev scD(W:Wy)(j k:Nat)(r v:List Nat):D:= .tup [tN v,.int ((tbW W j (k+1) (less r v):Nat):Int),.int ((mu v*dlW W j (k+1) (less r v):Nat):Int)]
theorem tup3{x y z:D}:mz [x,y,z]=My (.tup [x,y,z]):=by
 unfold mz;rw[PP (aZ (by show 3<=1000;decide))]
theorem IX{k:Nat}{r:List Nat}(h:Nt1 K a rs cs W bd)(b:k<=cs.length)(c:r∈lvW W rs k):dlW W (cs.length-k) k r<=2^160:=by
 refine Qc (uS h.ok _ _ _ (by omega)) ?_;rw[pJ _ _ (i6 h.ok h.sm k b r c).2];exact sF (h.at b c).2.2
theorem yJ{k:Nat}{r:List Nat}(h:Nt1 K a rs cs W bd)(c:k<cs.length)(e:r∈lvW W rs k):(dU K a).1 [dm a W bd rs cs,.int (k:Int),tN r] β=My (.ok (.lst ((sT W cs k r).map (scD W (cs.length-(k+1)) k r))),β):=by
 obtain⟨m,p,o⟩:=h.at (by omega) e;have q:=HX (k:=k) h m;unfold dU
 dsimp only
 refine aG ?_;refine rY (ds:=[]) (β1:=β) rfl (Q5 _) ?_;refine cI (ds:=(sT W cs k r).map tN) (β1:=β) (cj (de rfl rfl (BZ h c e)) rfl) (λi δ f=>β=f/\∃g j l,δ=[My (.sh (dm a W bd rs cs)),My (.sh (.int (k:Int))),My (.sh (tN r)),My (.own (((sT W cs k r).take i).map (scD W (cs.length-(k+1)) k r))),g,j,l]) ⟨rfl,Po,Po,Po,rfl⟩ ?_ ?_
 ·rintro i d δ _ hd ⟨rfl,g,j,l,rfl⟩
  obtain⟨v,n,rfl⟩:=dJ hd;have hm:=(R9.mp (Qb n)).1;have hn:=h.nx e hm;have b:v.sum<=40:=Qc (bT ((h.ok k r).subset hm)).sum o;refine⟨_,rfl,sf (d:=cv W cs.length (k+1) (less r v)) (β1:=β) (de rfl (aa (x:= .int ((k+1:Nat):Int)) (x_2 rfl rfl rfl) (aa (am rfl (mt (bT ((h.ok k r).subset hm)) m.2.1)) rfl)) (pO c hn)) rfl (ak (sj (cs:=((sT W cs k r).take i).map (scD W (cs.length-(k+1)) k r)) (d:=scD W (cs.length-(k+1)) k r v) rfl (aa (ai (aa rfl (aa rfl (aa (x_2 (am rfl (pW (.inr rfl) b)) rfl (fG (dL (oi b) (by decide)) (dL (IX h c hn) (by decide)))) rfl))) (tup3.trans (by rw[oh]))) rfl) (Qm (show _<1000 by rw[Pp,Sf];omega) (by decide)) (bq ⟨rfl,My (.sh (tN v)),My (.sh (.int ((tB W cs k r v:Nat):Int))),My (.sh (.int ((dlW W (cs.length-(k+1)) (k+1) (less r v):Nat):Int))),?_⟩)))⟩;rw[T8,n,Qy];rfl
 ·rintro δ _ ⟨rfl,g,j,l,rfl⟩
  rw[Pp,SK];exact ak (aQ rfl ⟨rfl,rfl⟩)
theorem EC(f:List Nat->Nat)(l:List (List Nat)){n:Nat}(hn:n<L2.Nt.sm l f):(kt K a).1 [.lst (l.map λv=> .tup [tN v,.int ((f v:Nat):Int)]),.int (n:Int)] β=My (.ok (.tup [tN (fal f l n).1,.int (((fal f l n).2:Nat):Int)]),β):=by
 unfold kt
 dsimp only
 refine aG ?_;refine aA (d:= .int 0) (β1:=β) rfl ?_;refine vq (λq δ g=>β=g/\∃i b:Nat,δ=[My (.sh (.lst (l.map λv=> .tup [tN v,.int ((f v:Nat):Int)]))),My (.sh (.int (b:Int))),My (.sh (.int (i:Int)))]/\q=l.length-i/\fal f (l.drop i) b=fal f l n/\b<L2.Nt.sm (l.drop i) f) ?_ l.length _ β ⟨rfl,0,n,rfl,rfl,rfl,hn⟩;rintro q δ _ ⟨rfl,i,b,rfl,rfl,e,hs⟩;have h:i<l.length:=by
  rcases VA i l.length with z|z
  ·exact z
  ·rw[Rz z]at hs;cases hs
 have c:(l.map λv=>D.tup [tN v,.int ((f v:Nat):Int)])[i]?=My (.tup [tN l[i],.int ((f l[i]:Nat):Int)]):=by rw[Py,Pw h];rfl
 rw[QX h]at e hs;rw[bj]at hs;have j:∀v l n,fal f (v::l) n=if n<f v then(v,n)else fal f l (n-f v):=λ_ _ _=>rfl;rw[j]at e;by_cases z:b<f l[i]
 ·rw[PP z]at e
  refine .inl ⟨β,?_,?_⟩
  ·exact(x_B (x_2 rfl (x_2 (x_2 rfl rfl (bA c)) rfl i7) ge_int)).trans (by rw[QD (by omega)])
  ·rw[←e]
   exact ak (aQ (ai (aa (x_2 (x_2 rfl rfl (bA c)) rfl nQ) (aa rfl rfl)) fA) ⟨rfl,rfl⟩)
 ·rw[PL z]at e
  refine .inr ⟨β,?_,?_⟩
  ·exact(x_B (x_2 rfl (x_2 (x_2 rfl rfl (bA c)) rfl i7) ge_int)).trans (by rw[P9 (by omega)])
  ·refine fS (z:= .int ((b-f l[i]:Nat):Int)) rfl (x_2 (x_2 rfl rfl (bA c)) rfl i7) (by show My (D.int _)=_;rw[Int.ofNat_sub (by omega)]) (ak (fS (z:= .int ((i+1:Nat):Int)) rfl rfl rfl (bq ⟨_,rfl,l.length-(i+1),by omega,rfl,i+1,b-f l[i],rfl,rfl,e,by omega⟩)))
theorem LG{n:Nat}{vs:List (List Nat)}(g:1<=vs.length)(l:vs.length<=30)(hn:n<=30)(b:∀v∈vs,v.length=n):(dH K a).1 [.lst (vs.map tN)] β=My (.ok (gridD (tp n (vs.map nI))),β):=by
 have c:(vs.map tN)[0]?=My (tN vs[0]):=by rw[Py,Pw (by omega)];rfl
 unfold dH
 dsimp only
 refine aG (ak (aQ (d:= .lst ((PR n).map λj=>D.lst (vs.map λv=> .int ((v.getD j 0:Nat):Int)))) (β1:=β) ?_ ⟨rfl,?_⟩))
 ·refine bf (PR n) (λi=>D.int (0+(i:Int))) _ (bw (ds:=aR 0 n) (aa (ai (z:= .int (n:Int)) (aa (x_2 rfl rfl (bA (k:=0) c)) rfl) ?_) rfl) (rg1 (by omega) (by omega))) (λj e=>⟨[My (.int (0+(j:Int))),My (.lst (vs.map tN))],rfl,?_⟩) (aZ (by rw[Qp];omega))
  ·show My (D.int _)=_
   rw[Pp,Pp,b _ (QL _)]
  ·have f:=Qg.mp e
   refine bf (nv:=1) (caps:=[0]) vs tN _ rfl (λv h=>⟨[My (tN v),My (.int (0+(j:Int)))],rfl,x_2 rfl rfl ?_⟩) (aZ (by omega));rw[Tp];have m:=b v h;refine bA (xs:=(nI v).map D.int) ?_;rw[Py,Py,gy (by omega),Pw (by omega)];rfl
 ·unfold tp tpA
  show RM (D.lst (Rb D.lst (Rb _ (Rb _ _))))=_;rw[PV,PV];congr 2;refine Qs λj _=>?_;show D.lst (((vs.map nI).map λrow=>row.getD j 0).map D.int)=_;rw[PV,PV];congr 1;refine Qs λv _=>?_;show D.int ((nI v).getD j 0)=_;rw[Px,Px,Py];cases v[j]?<;>rfl
end
section
theorem eqI(i j:Int):Sh (.int i) (.int j)=decide (i=j):=by unfold Sh;exact Bool.beq_eq_decide_eq i j
theorem rz{α:Type} [DecidableEq α]{f:α->WI}(a:∀x y,Sh (f x) (f y)=decide (x=y)):∀xs ys:List α,Tv (xs.map f) (ys.map f)=decide (xs=ys)
 |[],[]=>by simp[Tv]
 |[],y::ys=>by simp[Tv]
 |x::xs,[]=>by simp[Tv]
 |x::xs,y::ys=>by
  rw[P3,P3,Tv,a,rz a xs ys];by_cases h:x=y<;>by_cases q:xs=ys<;>simp[h,q]
theorem tu{α:Type}{f:α->D}{g:α->WI}(h:∀x,toP (f x)=My (g x)):∀l:List α,toPs (l.map f)=My (l.map g)
 |[]=>by simp[toPs]
 |x::l=>by
  rw[P3,toPs,h x,tu h l];rfl
theorem AD{x y:D}{p q:WI}(e:eqS x y=Po)(c:toP x=My p)(d:toP y=My q)(a:iA x=Pt)(b:iA y=Pt):fJ x y=My (.bl (Sh p q)):=by
 unfold fJ jJ;unfold iA at a b;rw[c]at a;rw[d]at b;simp only[e,c,d,a,b,Uj,QY,RG]
end
section
theorem Pf(xs ys:List Int):fJ (tpI xs) (tpI ys)=My (.bl (decide (xs=ys))):=by
 have t:∀l:List Int,toP (tpI l)=My (.tuple (l.map .int)):=λl=>by
  unfold tpI toP;rw[tu (g:=PyData.int) λx=>rfl];rfl
 have c:∀l:List Int,iA (tpI l)=Pt:=λl=>u3 1 (λx a=>by
  obtain⟨i,_,rfl⟩:=P8.mp a;trivial) (by decide)
 rw[AD rfl (t xs) (t ys) (c xs) (c ys),Sh,rz eqI]
theorem Pe(u v:List Nat):fJ (tN u) (tN v)=My (.bl (decide (u=v))):=by
 rw[Pf];by_cases q:u=v
 ·rw[q,P9 rfl,P9 rfl]
 ·rw[QD q,QD λe=>q (iZ e)]
end
section
variable{K:P6}{a:Ad}{β:Bg}{rs cs:List Nat}{W:Wy}{bd:D}
theorem vC:(iY K a).1 [dm a W bd rs cs] β=My (.ok (.int ((tbW W cs.length 0 rs:Nat):Int)),β):=
 aG (ak (aQ (x_2 (de rfl (aa rfl (aa (ai (aa (ie rfl rfl) rfl) rfl) rfl)) (pO (k:=0) (Q5 _) (Qt.mpr rfl))) rfl nQ) ⟨rfl,rfl⟩))
theorem qh:(dI K a).1 [dm a W bd rs cs] β=My (.ok (nL rs),β):=aG (ak (aQ (ai (aa (ie rfl rfl) rfl) rfl) ⟨rfl,rfl⟩))
theorem v8:(fF K a).1 [dm a W bd rs cs] β=My (.ok (nL cs),β):=aG (ak (aQ (ai (aa (ie rfl rfl) rfl) rfl) ⟨rfl,rfl⟩))
theorem MW{n m:Nat}(h:n<m):(jU K a).1 [.int (n:Int),.int (m:Int)] β=My (.ok .non,β):=
 aG (ak (jf (wI (x_B (yo rfl rfl rfl))) (by simp;omega) (cE (bq ⟨rfl,rfl⟩))))
theorem yx(l:List Nat):tj [nL l]=My (tN l):=rfl
theorem MA{b:Nat}(h:Nt1 K a rs cs W bd)(hn:b<tbW W cs.length 0 rs):(gB K a).1 [dm a W bd rs cs,.int (b:Int)] β=My (.ok (gridD (tp rs.length ((ktW W cs.length 0 rs b).map nI))),β):=by
 have c1:=h.c1;have c6:=h.c6;have B:=h.nr.2.1;unfold gB
 dsimp only
 refine aG ?_;refine oj (am (aa rfl (aa (de rfl rfl vC) rfl)) (MW hn)) ?_;refine aA (d:=tN rs) (β1:=β) (ai (aa (de rfl rfl qh) rfl) (yx rs)) ?_;refine rY (ds:=[]) (β1:=β) rfl (Q5 _) ?_;refine cI (ds:=aR 0 cs.length) (β1:=β) (bw (aa (ai (aa (de rfl rfl v8) rfl) (lO cs)) rfl) (rg1 (by omega) (by omega))) (λi δ g=>β=g/\∃vs r,∃n:Nat,∃j l m,δ=[My (.sh (dm a W bd rs cs)),My (.sh (.int (n:Int))),My (.sh (tN r)),My (.own (vs.map tN)),j,l,m]/\vs.length=i/\r∈lvW W rs i/\n<tbW W (cs.length-i) i r/\vs++ktW W (cs.length-i) i r n=ktW W cs.length 0 rs b) ⟨rfl,[],rs,b,Po,Po,Po,rfl,rfl,Qt.mpr rfl,hn,rfl⟩ ?_ ?_
 ·rintro i d δ _ hd ⟨rfl,vs,r,n,j,l,m,rfl,o,f,hn,c⟩
  obtain⟨w,rfl⟩:=w9 hd;have p:cs.length-i=(cs.length-(i+1))+1:=by omega
  rw[p,←yL]at hn;rw[p]at c;obtain⟨y,A⟩:=uO hn;have q:=(R9.mp y).1;have le:=bT ((h.ok i r).subset q);have t:=(h.at (by omega) f).1;have C:=HX (k:=i) h t;refine⟨_,rfl,aA (d:= .lst ((sT W cs i r).map λv=> .tup [tN v,.int ((tB W cs i r v:Nat):Int)])) (β1:=β) (bf (sT W cs i r) (scD W (cs.length-(i+1)) i r) _ (cj (am rfl (yJ h w f)) rfl) (λv _=>⟨[My (tN v),My (.int ((tB W cs i r v:Nat):Int)),My (.int ((mB W cs i r v:Nat):Int))],rfl,ai rfl fA⟩) (aZ (by omega))) ?_⟩;refine sf (am rfl (EC (tB W cs i r) (sT W cs i r) hn)) rfl ?_;refine sj (cs:=vs.map tN) rfl rfl (Qm (show _<1000 by rw[Pp];omega) (by decide)) (ak (aA (am rfl (mt le t.2.1)) (bq ⟨rfl,vs++[(fal (tB W cs i r) (sT W cs i r) n).1],less r (fal (tB W cs i r) (sT W cs i r) n).1,(fal (tB W cs i r) (sT W cs i r) n).2,_,_,_,by rw[Qy];rfl,by rw[Qf,o];rfl,h.nx f q,A,by rw[Ra];exact c⟩)))
 ·rintro δ _ ⟨rfl,vs,r,n,j,l,m,rfl,o,f,_,c⟩
  rw[oR]at o c;rw[VB]at c;have e:vs=ktW W cs.length 0 rs b:=by rw[←c];exact(Qx vs).symm
  rw[←e];have u:=(me h.ok (xF hn) (by rw[pi,Rc]) h.sm).2.2;rw[←e]at u;exact ak (aQ (am rfl (LG (by omega) (by omega) (by omega) u)) ⟨rfl,rfl⟩)
theorem w8{r c:Nat}{rows:LI}(sh:Shp r c rows)(r0:1<=r)(r1:r<=30)(c1:c<=30):(dH K a).1 [gridD rows] β=My (.ok (gridD (tp c rows)),β):=
 aG (ak (aQ (Li sh r0 r1 c1 rfl) ⟨rfl,rfl⟩))
theorem GY{rows:LI}(h:Nt0 rs cs)(sh:Shp rs.length cs.length rows):(fX K a).1 [dm a W bd rs cs,gridD rows] β=My (.ok (.lst ((tp cs.length rows).map tpI)),β):=by
 obtain⟨b,j,_,_⟩:=h.nr;have c1:=h.c1;have c6:=h.c6;unfold fX
 dsimp only
 refine aG ?_;refine aA (d:= .int (cs.length:Int)) (β1:=β) (ai (aa (de rfl rfl v8) rfl) (lO cs)) ?_;have e:f2 qj (bp gv (ac (ag 1) aB)) (bp gv (ac (mR a.Ar "rowsums" (dI K a).1 (ag 0) aB []) aB)) (vwA [My (.sh (dm a W bd rs cs)),My (.sh (gridD rows)),My (.sh (.int (cs.length:Int)))]) β=My (.ok (.bl Pz),β):=x_2 (ai rfl (eM (r:=rs.length) (by rw[Pp,Pp];exact sh.1))) (ai (aa (de rfl rfl qh) rfl) (lO rs)) (ne_int.trans (by rw[P9 rfl];rfl));have g:=bf (nv:=1) (caps:=[2]) (it:=dD (ag 1)) (tg:=tgC 0) (f:=f2 qj (bp gv (ac (ag 0) aB)) (ag 1)) (δ:=vwA [My (.sh (dm a W bd rs cs)),My (.sh (gridD rows)),My (.sh (.int (cs.length:Int)))]) (β:=β) rows (λrow=>D.lst (row.map D.int)) (λ_=>D.bl Pz) (cj rfl (by show My _=My _;rw[PV];rfl)) (λrow i=>⟨[My (D.lst (row.map D.int)),My (.int (cs.length:Int))],rfl,x_2 (ai rfl (eM (r:=cs.length) (by rw[Pp];exact sh.2 row i))) rfl (ne_int.trans (by rw[P9 rfl];rfl))⟩) (aZ (by rw[sh.1];omega));refine jf (wH (x_B e) (HH (ai (aa g rfl) (any_map rows λ_=>Pz)) rfl)) (by simp) (cE ?_);refine ak (aQ (bf (tp cs.length rows) (λcol=>D.lst (col.map D.int)) tpI (cj (am rfl (w8 sh b (by omega) (by omega))) (by show My _=My _;rw[PV];rfl)) (λcol _=>⟨[My (D.lst (col.map D.int))],rfl,rfl⟩) (aZ (by rw[(mj (d:=(0:Int)) (c:=cs.length) sh.1).1];omega))) ⟨rfl,rfl⟩)
theorem N3{k:Nat}{r v:List Nat}(h:Nt1 K a rs cs W bd)(n:k<cs.length)(o:r∈lvW W rs k)(p:v∈sT W cs k r):∃x,(dX K a).1 [dm a W bd rs cs,.int (k:Int),tN r,tN v] β=My (.ok (.tup [x,.int ((ahW (mB W cs k r) v (sT W cs k r):Nat):Int)]),β):=by
 suffices q:∃g b,(dX K a).1 [dm a W bd rs cs,.int (k:Int),tN r,tN v] β=My (g,b)/\β=b/\∃x,g= .ok (.tup [x,.int ((ahW (mB W cs k r) v (sT W cs k r):Nat):Int)]) by
  obtain⟨g,_,e,rfl,x,rfl⟩:=q;exact⟨x,e⟩
 unfold dX
 dsimp only
 refine AY ?_;refine aA (d:= .int 0) (β1:=β) rfl (aA (d:= .int 0) (β1:=β) rfl ?_);generalize w:(mB W cs k r)=f;refine cI (ds:=(sT W cs k r).map (scD W (cs.length-(k+1)) k r)) (β1:=β) (cj (am rfl (yJ h n o)) rfl) (λi δ b=>β=b/\∃t d:Nat,∃c j m,δ=[My (.sh (dm a W bd rs cs)),My (.sh (.int (k:Int))),My (.sh (tN r)),My (.sh (tN v)),My (.sh (.int (t:Int))),My (.sh (.int (d:Int))),c,j,m]/\d+ahW f v ((sT W cs k r).drop i)=ahW f v (sT W cs k r)/\v∈(sT W cs k r).drop i) ⟨rfl,0,0,Po,Po,Po,rfl,Rc _,p⟩ ?_ ?_
 ·rintro i _ δ _ hd ⟨rfl,t,d,c,j,m,rfl,e,hm⟩
  obtain⟨u,A,rfl⟩:=dJ hd;obtain⟨B,rfl⟩:=PU.mp A;rw[QX B]at e hm;have C:∀u l,ahW f v (u::l)=if u=v then 0 else f u+ahW f v l:=λ_ _=>rfl;rw[C]at e;refine⟨_,rfl,kU (β1:=β) (x_B (x_2 rfl rfl (Pe _ v))) ?_⟩;by_cases z:(sT W cs k r)[i]=v
  ·rw[PP z]at e
   rw[PP (P9 z)];exact aQ (ai rfl fA) ⟨rfl,.int (t:Int),by rw[←e];rfl⟩
  ·rw[PL z]at e
   rw[PL (λy=>z (R7 y))];refine cE (fS (z:= .int ((t+tB W cs k r (sT W cs k r)[i]:Nat):Int)) rfl rfl rfl (ak (fS (z:= .int ((d+f (sT W cs k r)[i]:Nat):Int)) rfl rfl (by rw[←w];rfl) (bq ⟨rfl,_,_,_,_,_,rfl,by omega,(PZ.mp hm).resolve_left λy=>z y.symm⟩))))
 ·rintro δ _ ⟨rfl,t,d,c,j,m,rfl,e,hm⟩
  rw[Pp,Tg]at hm;cases hm
theorem BD{f:List Nat->Nat}{v:List Nat}:∀{l:List (List Nat)},ahW f v l<=L2.Nt.sm l f
 |[]=>PN _
 |u::l=>by
  rw[bj];show(if u=v then 0 else f u+ahW f v l)<=_;have:=BD (f:=f) (v:=v) (l:=l);split<;>omega
theorem Lw{rows:LI}{vs:List (List Nat)}(h:Nt1 K a rs cs W bd)(sh:Shp rs.length cs.length rows)(B:tp cs.length rows=vs.map nI)(u:Wk W 0 rs vs)(w:vs.length=cs.length):(lz K a).1 [dm a W bd rs cs,gridD rows] β=My (.ok (.tup [.int ((frW W 0 rs vs:Nat):Int),.int ((frW W 0 rs vs+pr (vs.map mu):Nat):Int)]),β):=by
 have c6:=h.c6;have f:∀v∈vs,v.sum<=40:=λv c=>by
  have:=(me h.ok u (by rw[w,Rc]) h.sm).1;rw[List.drop_zero]at this;have q:v.sum∈cs:=by rw[←this];exact P8.mpr ⟨v,c,rfl⟩
  have:=fQ q;have:=h.sm;have:=h.nr.2.2.1;omega
 have mb:∀i,pr ((vs.take i).map mu)<2^1000:=λi=>dL (m:=160*6) (Qc (OB (m:=160) λx l=>by
  obtain⟨v,c,rfl⟩:=P8.mp l;exact sF (f v (Yq c))) (Uv (by decide) (by rw[Pp,Sf];omega))) (by decide)
 unfold lz
 dsimp only
 refine aG ?_;refine aA (d:=tN rs) (β1:=β) (ai (aa (de rfl rfl qh) rfl) (yx rs)) ?_;refine aA (d:= .int 0) (β1:=β) rfl (aA (d:= .int 1) (β1:=β) rfl ?_);refine cI (ds:=cq 0 (vs.map tN)) (β1:=β) (bw (aa (am rfl (GY h.toNt0 sh)) rfl) (by rw[B,PV];rfl)) (λi δ n=>β=n/\∃r,∃fs:Nat,∃o p,δ=[My (.sh (dm a W bd rs cs)),My (.sh (gridD rows)),My (.sh (tN r)),My (.sh (.int (fs:Int))),My (.sh (.int ((pr ((vs.take i).map mu):Nat):Int))),o,p]/\r∈lvW W rs i/\Wk W i r (vs.drop i)/\fs+pr ((vs.take i).map mu)*frW W i r (vs.drop i)=frW W 0 rs vs) ⟨rfl,rs,0,Po,Po,rfl,Qt.mpr rfl,u,by rw[List.take_zero,T7,zd,YE,Rc];rfl⟩ ?_ ?_
 ·rintro i _ δ _ hd ⟨rfl,r,fs,o,p,rfl,j,b,e⟩
  obtain⟨_,l,rfl⟩:=qy hd;obtain⟨v,c,rfl⟩:=dJ l;obtain⟨y,rfl⟩:=PU.mp c;rw[QX y]at e b;have A:(vs.drop (i+1)).length=cs.length-(i+1):=by rw[WA,w]
  have t:=Of b A;obtain⟨x,ha⟩:=N3 (β:=β) h (by omega) j t;have C:=(h.at (by omega) j).1;have le:=bT ((h.ok i r).subset b.1);have k:=f _ (QL y);have ab:ahW (mB W cs i r) vs[i] (sT W cs i r)<=2^160:=Qc BD (Qc (yO (g:=mB W cs i r) Uz λ_ _=>PN _) (by
   have:=IX h (by omega) j;rw[show cs.length-i=(cs.length-(i+1))+1 by omega]at this;exact this))
  have F:frW W i r (vs[i]::vs.drop (i+1))=ahW (mB W cs i r) vs[i] (sT W cs i r)+mu vs[i]*frW W (i+1) (less r vs[i]) (vs.drop (i+1)):=by
   unfold mB sT;rw[←A];rfl
  rw[F]at e;have pt:pr ((vs.take (i+1)).map mu)=pr ((vs.take i).map mu)*mu vs[i]:=by
   rw[T8,c,Qy,ud];show _*(mu vs[i]*1)=_;rw[Nat.mul_one]
  refine⟨_,rfl,fS rfl (x_2 rfl (x_2 (am rfl ha) rfl i7) (fG (mb i) (dL ab (by decide)))) rfl (fS rfl (am rfl (pW (.inr rfl) k)) (fG (mb i) (dL (oi k) (by decide))) (ak (aA (am rfl (mt le C.2.1)) (bq ⟨rfl,less r vs[i],fs+pr ((vs.take i).map mu)*ahW (mB W cs i r) vs[i] (sT W cs i r),My (.sh (.int (i:Int))),My (.sh (tN vs[i])),?_,h.nx j b.1,b.2,?_⟩))))⟩
  ·rw[pt,oh];rfl
  ·rw[pt,←e,YC,QG,Nat.add_assoc]
 ·rintro δ _ ⟨rfl,r,fs,o,p,rfl,j,_,e⟩
  rw[gT,Pp,Tg,SK]at*;have z:frW W vs.length r []=0:=rfl;rw[z,Nat.mul_zero,Nat.add_zero]at e;subst e;exact ak (aQ (ai (aa rfl (aa (x_2 rfl rfl rfl) rfl)) fA) ⟨rfl,rfl⟩)
end
section
variable{K:P6}{a:Ad}{β:Bg}
theorem rB{rows:List (List D)}(h:rows.length<=1000):(kq K a).1 [lG rows] β=My (.ok (lG rows),β):=
 aG (ak (aQ (bf rows D.lst D.lst rfl (λx _=>⟨_,rfl,rfl⟩) (aZ h)) ⟨rfl,rfl⟩))
theorem x5{rows:List (List D)}(h:rows.length<=1000):jH K a [lG rows] β=My (.ok rows,β):=by
 have e:=rD (nv:=1) (caps:=[]) (it:=dD (ag 0)) (tg:=tgC 0) (f:=kC sG (ac (ag 0) (aB))) (δ:=[My (lG rows)]) (β:=β) rows D.lst (λx=>x) rfl (λx _=>⟨_,rfl,rfl⟩) (aZ h);rw[List.map_id']at e;exact K6 (ak (jK e ⟨rfl,rfl⟩))
end
section
variable{K:P6}{a:Ad}{β:Bg}{n:Nat}{vs:List (List Nat)}
structure Clm (n:Nat) (vs:List (List Nat)):Prop where
 l1:1<=vs.length
 l6:vs.length<=6
 ln:∀v∈vs,v.length=n
 nr:Nrw (rsm n vs)
 wd:pr ((rsm n vs).dropLast.map (·+1))<63
abbrev csC(vs:List (List Nat)):List Nat:=vs.map Rt
abbrev rwC(n:Nat)(vs:List (List Nat)):LI:=tp n (vs.map nI)
theorem xt(v:List Nat)(j:Nat):(nI v).getD j 0=((v.getD j 0:Nat):Int):=by
 rw[Px,Px,Py];cases v[j]?<;>rfl
theorem Clm.len(h:Clm n vs):(rsm n vs).length=n:=fP h.ln
theorem nE(c:∀v∈vs,v.length=n):(rwC n vs).map Rt=nI (rsm n vs):=by
 have e:rsm n vs=(PR n).map λj=>(rsm n vs).getD j 0:=Rv (by rw[fP c,Pp,Qp]) λi d f=>by
  rw[SH,SQ,gy d]
 rw[e];unfold rwC tp tpA;show Rb _ (Rb _ _)=Rb _ (Rb _ _);rw[PV,PV];refine Qs λj b=>?_;have b:=Qg.mp b;show((vs.map nI).map λrow=>row.getD j 0).sum=(((rsm n vs).getD j 0:Nat):Int);rw[tY c b,←fZ,PV];show _=(Rb _ (Rb _ _)).sum;rw[PV];exact QV Rt (Qs λv _=>xt v j)
theorem CB(b:∀v∈vs,v.length=n):Shp vs.length n (vs.map nI):=⟨Pp _,λrow c=>by
 obtain⟨v,d,rfl⟩:=P8.mp c;rw[Pp];exact b v d⟩
theorem tX(b:∀v∈vs,v.length=n):tp vs.length (rwC n vs)=vs.map nI:=HQ (CB b)
theorem iE:Shp n vs.length (rwC n vs):=mj (Pp _)
theorem xu(vs:List (List Nat)):(vs.map nI).map Rt=nI (csC vs):=by
 show _=Rb _ (Rb _ _);rw[PV,PV];exact Qs λv _=>fZ v
theorem Clm.nt0(h:Clm n vs):Nt0 (rsm n vs) (csC vs):=⟨h.nr,h.wd,p9 h.ln,by rw[Pp];exact h.l1,by rw[Pp];exact h.l6⟩
theorem Clm.tab(h:Clm n vs):Tab n vs.length (rwC n vs):=by
 obtain⟨d,e,f,_⟩:=h.nr;have l:=h.len;refine⟨iE,HR λrow b x c=>?_,?_,by omega,by omega,h.l1,h.l6⟩
 ·obtain⟨v,_,rfl⟩:=P8.mp b
  obtain⟨y,_,rfl⟩:=P8.mp c;omega
 ·rw[yA (CB h.ln).2]
  unfold tot;rw[xu,fZ,←p9 h.ln];omega
theorem Clm.ntb(h:Clm n vs):NtB (rwC n vs) (frN (rsm n vs).length (csC vs).length) (rsm n vs) (csC vs):=by
 have l:=h.len;have b:(csC vs).length=vs.length:=Pp _;refine⟨h.nt0,?_,nE h.ln,?_,⟨⟨by simp,λrow h=>by rw[(RW.mp h).2];simp⟩,λrow h q c=>by
  rw[(RW.mp h).2]at c;rw[(RW.mp c).2];decide⟩,?_⟩
 ·rw[l,b];exact iE
 ·rw[b,tX h.ln,xu]
 ·rw[l,b,IU];exact Kp.free h.tab
abbrev wC(n:Nat)(vs:List (List Nat)):Wy:=wB (frN (rsm n vs).length (csC vs).length) (csC vs)
theorem AM{r c k:Nat}(b:k<c):nX (frN r c) k=P5 r (0,40):=by
 unfold nX frN;rw[Rx,Px,RO,PP b];rfl
theorem IG{r v:List Nat}{m:Nat}(e:r.length=m)(s:r.sum<=40)(le:LeN v r):okB (P5 m (0,40)) v=Pt:=by
 have:=ul s le;rw[WS,e]at this;exact this
theorem Clm.s40(h:Clm n vs){v:List Nat}(b:v∈vs):v.sum<=40:=by
 have q:v.sum∈csC vs:=P8.mpr ⟨v,b,rfl⟩;have:=fQ q;have:=h.nt0.sm;have:=h.nr.2.2.1;omega
theorem Clm.wk(h:Clm n vs):Wk (wC n vs) 0 (rsm n vs) vs:=HJ h.ln λi r v b le=>by
 rw[Rc];have c:=(PU.mp b).1;have hm:=Qb b;refine R9.mpr ⟨?_,?_⟩
 ·have e:(csC vs).getD i 0=v.sum:=by rw[Px,Py,b];rfl
  rw[e];exact kD le
 ·rw[AM (by rw[Pp];exact c)]
  exact IG (by rw[h.ln v hm,h.len]) (h.s40 hm) (LeN.refl v)
theorem Clm.vec(h:Clm n vs){k:Nat}{r:List Nat}(b:k<(csC vs).length)(e:r.length=n)(s:r.sum<=40):wC n vs k r=bx r ((csC vs).getD k 0):=List.filter_eq_self.mpr λv c=>by
 rw[AM b];exact IG (e.trans h.len.symm) s (bT c)
theorem Clm.dl(h:Clm n vs):dlW (wC n vs) (csC vs).length 0 (rsm n vs)=mu (rsm n vs):=by
 rw[AI (λk r b e s=>h.vec b e s) _ 0 _ (Rc _) h.len h.nr.2.2.1,List.drop_zero,pJ _ _ h.nt0.sm]
abbrev ntC(a:Ad)(n:Nat)(vs:List (List Nat)):D:=dm a (wC n vs) (bDN (frN (rsm n vs).length (csC vs).length)) (rsm n vs) (csC vs)
theorem EL{W:Wy}{b:D}{rs cs:List Nat}:(jW K a).1 [dm a W b rs cs] β=My (.ok (.int ((dlW W cs.length 0 rs:Nat):Int)),β):=
 aG (ak (aQ (x_2 (de rfl (aa rfl (aa (ai (aa (ie rfl rfl) rfl) rfl) rfl)) (pO (k:=0) (Q5 _) (Qt.mpr rfl))) rfl i7) ⟨rfl,rfl⟩))
theorem tK(h:Clm n vs):(lC K a).1 [nL (rsm n vs),nL (csC vs),gridD (rwC n vs)] β=My (.ok (.tup [.int ((pr (vs.map mu):Nat):Int),.int ((mu (rsm n vs):Nat):Int)]),β):=by
 have b:(csC vs).length=vs.length:=Pp _;unfold lC
 dsimp only
 refine aG ?_;refine aA (d:=ntC a n vs) (β1:=β) (yn (aa (ai rfl rfl) (aa (ai rfl rfl) rfl)) (v7 h.ntb)) ?_;refine sf (am (aa rfl (aa (am rfl (rB (by rw[Pp,iE.1];have:=h.tab.r1;omega))) rfl)) (Lw h.ntb.nt h.ntb.shp (by rw[b,tX h.ln]) h.wk b.symm)) rfl ?_;refine ak (aQ (ai (aa (x_2 (z:= .int ((pr (vs.map mu):Nat):Int)) rfl rfl ?_) (aa (de rfl rfl EL) rfl)) fA) ⟨rfl,by rw[h.dl]⟩);show My (D.int _)=My (D.int _);rw[VG,show ∀x y:Int,x+y-x=y from λx y=>by omega]
end
section
variable{K:P6}{a:Ad}{β:Bg}
theorem MI(x y:Nat):(qc K a).1 [.int (x:Int),.int (y:Int)] β=My (.ok (.int ((R5 x y:Nat):Int)),β):=by
 unfold qc
 dsimp only
 refine aG ?_;refine vq (λq δ f=>β=f/\∃c b:Nat,∃g,δ=[My (.sh (.int (c:Int))),My (.sh (.int (b:Int))),g]/\b=q/\R5 c b=R5 x y) ?_ y _ β ⟨rfl,x,y,Po,rfl,rfl,rfl⟩;rintro q δ _ ⟨rfl,c,b,g,rfl,rfl,e⟩;by_cases z:b=0
 ·subst z
  exact .inl ⟨β,(x_B (x_2 rfl rfl gt_int)).trans (by rw[QD (by omega)]),ak (aQ rfl ⟨rfl,by rw[←e,Nat.gcd_zero_right]⟩)⟩
 ·refine .inr ⟨β,(x_B (x_2 rfl rfl gt_int)).trans (by rw[P9 (by omega)]),aA (d:= .int ((c % b:Nat):Int)) (β1:=β) (x_2 rfl rfl ?_) (aA (β1:=β) rfl (ak (aA (β1:=β) rfl (bq ⟨_,rfl,c % b,We _ (by omega),rfl,b,c % b,My (.sh (.int ((c % b:Nat):Int))),rfl,rfl,?_⟩))))⟩
  ·show(if decide ((0:Int)<(b:Int))=Pt then _ else _)=_
   rw[PP (P9 (by omega))];rfl
  ·rw[←e,Nat.gcd_comm c b,Nat.gcd_rec b c,Nat.gcd_comm]
abbrev jI(p q:Nat):D:= .tup [.int ((p/R5 p q:Nat):Int),.int ((q/R5 p q:Nat):Int)]
theorem zG{p q:Nat}(b:0<q)(h:q<2^1000):(kn K a).1 [.int (p:Int),.int (q:Int)] β=My (.ok (jI p q),β):=by
 have c:0<R5 p q:=TL _ b;have e:R5 p q<2^1000:=Ry (Nat.gcd_le_right _ b) h;unfold kn
 dsimp only
 refine aG ?_;exact aA (d:= .int ((R5 p q:Nat):Int)) (β1:=β) (am (aa (ai (z:= .int (p:Int)) rfl rfl) (aa rfl rfl)) (MI p q)) (ak (aQ (ai (aa (x_2 rfl rfl (xV c e)) (aa (x_2 rfl rfl (xV c e)) rfl)) fA) ⟨rfl,rfl⟩))
theorem fY(ok:β.ok){lot:Nat}(d:0<lot)(e:lot<1073741824):∃(v:Nat) (b:Bg),bX [.bag,.int (lot:Int)] β=My (.ok (.int (v:Int)),b)/\v<lot/\b.ok:=by
 obtain⟨v,b,p,f,g,c⟩:=iF ok (lot:=(lot:Int)) (by omega) (by omega);obtain⟨v,rfl⟩:∃n:Nat,v=(n:Int):=⟨v.toNat,by omega⟩;exact⟨v,b,p,by omega,c⟩
theorem sR(b c:Nat):gz (.int (b:Int)) (.int (c:Int))=My (.int ((b+c:Nat):Int)):=rfl
theorem x_oA{op:List D->Option (List D)}{g:FL}{δ:Dn}{β1:Bg}{as b:List D}(c:g δ β=My (.ok as,β1))(d:op as=My b):kC op g δ β=My (.ok b,β1):=by
 unfold kC;rw[M.bind_ok c,d];rfl
theorem La{i:Nat}{f:FL}{rows:List (List D)}{ds:List D}{δ:Ds}{β1:Bg}{h:G}{Q:Out->Bg->Prop}(b:δ.getD i Po=My (.grd rows))(e:f (vw δ) β=My (.ok ds,β1))(c:noLs ds=Pt)(d:rows.all noLs=Pt)(g:rows.length<P0)(k:Gw h (δ.set i (My (.grd (rows++[ds])))) β1 Q):Gw (aI (pE i f) h) δ β Q:=
 eF (by unfold pE;simp only[b,e,c,d,P9 g,Uj,QY]) k
theorem qi(rows:LI):(gI rows).all noLs=Pt:=SE.mpr λx b=>by
 obtain⟨r,_,rfl⟩:=P8.mp b;exact lI r
structure GrW (rows:LI) (c:Nat) (rs:List Nat):Prop where
 shp:Shp rs.length c rows
 nn:∀row∈rows,∀x∈row,0<=x
 sm:rows.map Rt=nI rs
 c1:1<=c
 c6:c<=6
 nr:Nrw rs
 wd:pr (rs.dropLast.map (·+1))<63
theorem ou:∀{xs:List Int},(∀x∈xs,0<=x)->∃l:List Nat,xs=nI l
 |[],_=>⟨[],rfl⟩
 |x::xs,h=>by
  obtain⟨l,e⟩:=ou λy b=>h y (Ps _ b);have:=h x PF;exact⟨x.toNat::l,by rw[e];show _=((x.toNat:Nat):Int)::_;rw[Int.toNat_of_nonneg this]⟩
theorem few2:∀x<41,∀y<41-x,(x+1)*((y+1)*1)<=500/\(x+1)*1<63:=by decide
theorem few3:∀x<12,∀y<12-x,∀z<12-x-y,(x+1)*((y+1)*((z+1)*1))<=500/\(x+1)*((y+1)*1)<63:=by decide
theorem few4:∀x<9,∀y<9-x,∀z<9-x-y,∀w<9-x-y-z,(x+1)*((y+1)*((z+1)*((w+1)*1)))<=500/\(x+1)*((y+1)*((z+1)*1))<63:=by decide
theorem few:∀{rs:List Nat},(rs.length=1/\rs.sum<=40)\/(rs.length=2/\rs.sum<=40)\/(rs.length=3/\rs.sum<=11)\/(rs.length=4/\rs.sum<=8)->Nrw rs/\pr (rs.dropLast.map (·+1))<63
 |[x],h=>by
  have q:x<=40:=by simp at h;omega
  exact⟨⟨by show 1<=1;decide,by show 1<=4;decide,by simp at h⊢;omega,by show(x+1)*1<=500;omega⟩,by show 1<63;decide⟩
 |[x,y],h=>by
  have q:=few2 x (by simp at h;omega) y (by simp at h;omega);exact⟨⟨by show 1<=2;decide,by show 2<=4;decide,by simp at h⊢;omega,q.1⟩,q.2⟩
 |[x,y,z],h=>by
  have q:=few3 x (by simp at h;omega) y (by simp at h;omega) z (by simp at h;omega);exact⟨⟨by show 1<=3;decide,by show 3<=4;decide,by simp at h⊢;omega,q.1⟩,q.2⟩
 |[x,y,z,w],h=>by
  have q:=few4 x (by simp at h;omega) y (by simp at h;omega) z (by simp at h;omega) w (by simp at h;omega);exact⟨⟨by show 1<=4;decide,by show 4<=4;decide,by simp at h⊢;omega,q.1⟩,q.2⟩
 |[],h=>by simp at h
 |_::_::_::_::_::_,h=>by simp at h
abbrev gdS(r c t:Nat)(rows:LI)(b d e:Option Sl):Ds:=[My (.sh .bag),My (.sh (.int (r:Int))),My (.sh (.int (c:Int))),My (.sh (.int (t:Int))),My (.grd (gI rows)),b,d,e]
theorem nU{r c t:Nat}(ok:β.ok)(r0:1<=r)(r1:r<=4)(c1:1<=c)(c6:c<=6)(B:(r=2/\t<=40)\/(r=3/\t<=11)\/(r=4/\t<=8)):∃(rows:LI) (rs:List Nat) (j:Bg),eA K a [.bag,.int (r:Int),.int (c:Int),.int (t:Int)] β=My (.ok (gI rows),j)/\GrW rows c rs/\j.ok:=by
 suffices h:∃g j,eA K a [.bag,.int (r:Int),.int (c:Int),.int (t:Int)] β=My (.ok g,j)/\(∃(rows:LI) (rs:List Nat),g=gI rows/\GrW rows c rs/\j.ok) by
  obtain⟨g,j,e,rows,rs,rfl,F,H⟩:=h;exact⟨rows,rs,j,e,F,H⟩
 refine mS ?_;unfold lU;refine se (rows:=(PR r).map λ_=>P5 c (D.int 0)) (β1:=β) (rD (PR r) (λi=>D.int (0+(i:Int))) _ (bw (ds:=aR 0 r) rfl (rg1 (by omega) (by omega))) (λx _=>⟨_,rfl,OI (x:= .int 0) (c:=c) rfl rfl (by omega)⟩) (aZ (by rw[Qp];omega))) ?_ ?_
 ·rw[SE]
  intro x k;obtain⟨_,_,rfl⟩:=P8.mp k;rw[←Rx (f:=D.int)];exact lI _
 have I:(PR r).map (λ_=>P5 c (D.int 0))=gI (P5 r (P5 c 0)):=by
  show _=Rb _ _;rw[Rx,WS,Rx,Qp]
 rw[I];refine cI (ds:=aR 0 t) (β1:=β) (bw rfl (rg1 (by omega) (by omega))) (λi δ β=>β.ok/\∃rows p q w,δ=gdS r c t rows p q w/\Shp r c rows/\(∀row∈rows,∀x∈row,0<=x)/\tot rows=(i:Int)) ⟨ok,P5 r (P5 c 0),Po,Po,Po,rfl,⟨by simp,λrow h=>?_⟩,λrow h x k=>?_,?_⟩ ?_ ?_
 ·rw[(RW.mp h).2];simp
 ·rw[(RW.mp h).2]at k
  rw[(RW.mp k).2];exact Yz _
 ·unfold tot
  rw[Rx];have z:∀n:Nat,(P5 n (0:Int)).sum=0:=λn=>by
   induction n with
   |zero=>rfl
   |succ n ih=>rw[Rj,Qe,ih];rfl
  rw[z,z];rfl
 ·rintro i d δ j hd ⟨m,rows,p,q,w,rfl,sh,nn,B⟩
  obtain⟨v,β1,J,O,y⟩:=fY m (lot:=r) (by omega) (by omega);obtain⟨u,β2,L,P,A⟩:=fY y (lot:=c) (by omega) (by omega);obtain⟨row,b,o⟩:=sh.at (i:=v) (by omega);obtain⟨x,k⟩:=ye (l:=row) (i:=u) (by omega);refine⟨_,rfl,aA (am rfl J) (aA (am rfl L) (ak (wL (d:= .int (x+1)) (β1:=β2) (β2:=β2) (β3:=β2) (rows:=gI rows) (ds:=row.map D.int) (ka:=v) (kb:=u) (ja:=v) (jb:=u) (x_2 (x_2 (x_2 rfl rfl (xG (row:=row.map D.int) ?_)) rfl (bA (d:= .int x) ?_)) rfl rfl) rfl rfl rfl ?_ ?_ ?_ rfl (bq ⟨A,rows.set v (row.set u (x+1)),My (.sh d),My (.sh (.int (v:Int))),My (.sh (.int (u:Int))),?_,sh.set b,ur nn b ?_,?_⟩))))⟩
  ·rw[Py,b];rfl
  ·rw[Py,k];rfl
  ·rw[Pp,sh.1];exact j4 (by omega) (by omega)
  ·rw[Py,b];rfl
  ·rw[Pp,o];exact j4 (by omega) (by omega)
  ·show[_,_,_,_,My (Sl.grd ((gI rows).set v ((row.map D.int).set u (.int (x+1))))),_,_,_]=_
   rw[show(gI rows).set v ((row.map D.int).set u (.int (x+1)))=gI (rows.set v (row.set u (x+1))) by show _=Rb _ _;rw[R4,R4]]
  ·have:=nn row (Qb b) x (Qb k)
   omega
  ·have:=pY (v:=x+1) b k
   omega
 ·rintro δ j ⟨m,rows,p,q,w,rfl,sh,nn,C⟩
  rw[oR]at C;obtain⟨rs,e⟩:=ou (xs:=rows.map Rt) λx k=>by
   obtain⟨row,N,rfl⟩:=P8.mp k;exact iP (nn row N)
  have l:rs.length=r:=by rw[←sh.1,←Pp (as:=rows) Rt,e,Pp]
  have s:rs.sum=t:=by
   have h:(rows.map Rt).sum=(t:Int):=C;rw[e,fZ]at h;omega
  obtain⟨q1,q2⟩:=few (rs:=rs) (by rw[l,s];exact .inr B);exact ak (yp rfl ⟨rows,rs,rfl,⟨by rw[l];exact sh,nn,e,c1,c6,q1,q2⟩,m⟩)
theorem zE(ok:β.ok):∃(rows:LI) (rs:List Nat) (b:Bg),gN K a [.bag] β=My (.ok (gI rows),b)/\GrW rows 2 rs/\b.ok:=by
 suffices h:∃g b,gN K a [.bag] β=My (.ok g,b)/\(∃(rows:LI) (rs:List Nat),g=gI rows/\GrW rows 2 rs/\b.ok) by
  obtain⟨g,b,e,rows,rs,rfl,t,u⟩:=h;exact⟨rows,rs,b,e,t,u⟩
 refine mS ?_;unfold lT;refine se (rows:=[]) (β1:=β) rfl rfl ?_;obtain⟨c,β1,w,a0,a1,m⟩:=iF ok (lot:=6) (by decide) (by decide);have o:∃l:List Nat,ixD (.lst [nL [40],nL [39,1],nL [30,10],nL [20,20],nL [24,15],nL [13,27]]) (.int c)=My (nL l)/\(1<=l.length/\l.length<=4/\l.sum<=40/\pr (l.map (·+1))<=500)/\pr (l.dropLast.map (·+1))<63/\l.length<=2/\∀x∈l,x<=40:=by
  obtain rfl|rfl|rfl|rfl|rfl|rfl:c=0\/c=1\/c=2\/c=3\/c=4\/c=5:=by omega
  ·exact⟨[40],rfl,by decide⟩
  ·exact⟨[39,1],rfl,by decide⟩
  ·exact⟨[30,10],rfl,by decide⟩
  ·exact⟨[20,20],rfl,by decide⟩
  ·exact⟨[24,15],rfl,by decide⟩
  ·exact⟨[13,27],rfl,by decide⟩
 obtain⟨l,o,q1,q2,q3,q4⟩:=o;refine cI (ds:=(nI l).map D.int) (β1:=β1) (cj (x_2 (ai rfl rfl) (am rfl w) o) rfl) (λi δ β=>β.ok/\∃rows p q,δ=[My (.sh .bag),My (.grd (gI rows)),p,q]/\rows.length=i/\(∀row∈rows,row.length=2/\∀x∈row,0<=x)/\rows.map Rt=nI (l.take i)) ⟨m,[],Po,Po,rfl,rfl,λ_ h=>(by cases h),rfl⟩ ?_ ?_
 ·rintro i d δ b hd ⟨f,rows,p,q,rfl,j,k,hs⟩
  obtain⟨n,hn,rfl⟩:=o7 hd;have y:=q4 n (Qb hn);have C:=(PU.mp hn).1;obtain⟨v,β2,A,F,H,r⟩:=iF f (lot:=(n:Int)+1) (by omega) (by omega);refine⟨_,rfl,aA (am (aa rfl (aa (x_2 rfl rfl rfl) rfl)) A) (ak (La (rows:=gI rows) (ds:=[.int v,.int ((n:Int)-v)]) rfl (x_oA (aa rfl (aa (x_2 rfl rfl rfl) rfl)) (PP (aZ (by show 2<=1000;decide)))) rfl (qi rows) (Qm (show _<1000 by rw[Pp];omega) (by decide)) (bq ⟨r,rows++[[v,(n:Int)-v]],My (.sh (.int (n:Int))),My (.sh (.int v)),?_,by rw[Qf,j];rfl,λrow h=>?_,?_⟩)))⟩
  ·show _=[_,My (Sl.grd (Rb _ (rows++_))),_,_]
   rw[Qy];rfl
  ·rcases Rk.mp h with h|h
   ·exact k row h
   ·cases Qt.mp h
    refine⟨rfl,λx B=>?_⟩;simp at B;omega
  ·rw[Qy,hs,T8,hn]
   show _=Rb _ (_++_);rw[Qy];congr 1;simp;omega
 ·rintro δ b ⟨f,rows,p,q,rfl,j,k,hs⟩
  rw[o6]at j;rw[o6,SK]at hs;exact ak (yp rfl ⟨rows,l,rfl,⟨⟨j,λrow h=>(k row h).1⟩,λrow h=>(k row h).2,hs,by decide,by decide,q1,q2⟩,f⟩)
theorem zO(ok:β.ok):∃(rows:LI) (c:Nat) (rs:List Nat) (b:Bg),ir K a [.bag] β=My (.ok (gI rows),b)/\GrW rows c rs/\b.ok:=by
 suffices h:∃g b,ir K a [.bag] β=My (.ok g,b)/\(∃(rows:LI) (c:Nat) (rs:List Nat),g=gI rows/\GrW rows c rs/\b.ok) by
  obtain⟨g,b,e,rows,c,rs,rfl,v,w⟩:=h;exact⟨rows,c,rs,b,e,v,w⟩
 refine mS ?_;unfold kG;obtain⟨u,β1,A,a0,a1,k⟩:=iF ok (lot:=6) (by decide) (by decide);refine kU (x_B (x_2 (am rfl A) rfl eq_int)) ?_;by_cases q:u=0
 ·obtain⟨rows,rs,β2,e,g,d⟩:=zE (K:=K) (a:=a) k
  rw[PP (P9 q)];exact jK (iC rfl e) ⟨rows,2,rs,rfl,g,d⟩
 rw[PL (by simp[q])];refine cE ?_;obtain⟨y,β2,B,b0,b1,d⟩:=iF k (lot:=5) (by decide) (by decide);refine aA (am rfl B) ?_;refine kU (β1:=β2) (x_B (x_2 rfl rfl eq_int)) ?_;by_cases q2:y=0
 ·rw[PP (P9 q2)]
  obtain⟨c,β3,l,c1,f⟩:=fY d (lot:=5) (by decide) (by decide);obtain⟨t,m,n,d1,i⟩:=fY f (lot:=25) (by decide) (by decide);obtain⟨rows,rs,o,e,g,j⟩:=nU (K:=K) (a:=a) (r:=2) (c:=2+c) (t:=t) i (by decide) (by decide) (by omega) (by omega) (by omega);exact jK (iC (aa rfl (aa rfl (aa (x_2 rfl (am rfl l) (sR 2 _)) (aa (am rfl n) rfl)))) e) ⟨rows,2+c,rs,rfl,g,j⟩
 rw[PL (by simp[q2])];refine cE ?_;refine kU (β1:=β2) (x_B (x_2 rfl rfl eq_int)) ?_;by_cases q3:y=1
 ·rw[PP (P9 q3)]
  obtain⟨c,β3,l,c1,f⟩:=fY d (lot:=2) (by decide) (by decide);obtain⟨t,m,n,d1,i⟩:=fY f (lot:=9) (by decide) (by decide);obtain⟨rows,rs,o,e,g,j⟩:=nU (K:=K) (a:=a) (r:=4) (c:=2+c) (t:=t) i (by decide) (by decide) (by omega) (by omega) (by omega);exact jK (iC (aa rfl (aa rfl (aa (x_2 rfl (am rfl l) (sR 2 _)) (aa (am rfl n) rfl)))) e) ⟨rows,2+c,rs,rfl,g,j⟩
 rw[PL (by simp[q3])];refine cE ?_;obtain⟨r,β3,l,c1,f⟩:=fY d (lot:=2) (by decide) (by decide);obtain⟨c,m,n,d1,i⟩:=fY f (lot:=3) (by decide) (by decide);obtain⟨t,o,C,H,j⟩:=fY i (lot:=12) (by decide) (by decide);obtain⟨rows,rs,F,e,g,p⟩:=nU (K:=K) (a:=a) (r:=2+r) (c:=2+c) (t:=t) j (by omega) (by omega) (by omega) (by omega) (by omega);refine aA (x_2 rfl (am rfl l) (sR 2 _)) ?_;refine aA (x_2 rfl (am rfl n) (sR 2 _)) ?_;exact ak (jK (iC (aa rfl (aa rfl (aa rfl (aa (am rfl C) rfl)))) e) ⟨rows,2+c,rs,rfl,g,p⟩)
end
section
variable{K:P6}{a:Ad}{β:Bg}{n:Nat}{vs:List (List Nat)}
theorem vA:∀{xs:LI},(∀row∈xs,∀x∈row,0<=x)->∃l:List (List Nat),xs=l.map nI
 |[],_=>⟨[],rfl⟩
 |x::xs,h=>by
  obtain⟨l,e⟩:=vA λy b=>h y (Ps _ b);obtain⟨m,c⟩:=ou (h x PF);exact⟨m::l,by rw[e,c];rfl⟩
theorem GrW.cols{rows:LI}{c:Nat}{rs:List Nat}(g:GrW rows c rs):∃vs,rows=rwC rs.length vs/\rs=rsm rs.length vs/\vs.length=c/\Clm rs.length vs:=by
 obtain⟨vs,e⟩:=vA (HR (c:=c) g.nn);have sh:=mj (d:=(0:Int)) (c:=c) g.shp.1;have b:vs.length=c:=by rw[←Pp (f:=nI),←e];exact sh.1
 have ln:∀v∈vs,v.length=rs.length:=λv j=>by
  rw[←Pp (f:=λ(i:Nat)=>(i:Int))];refine sh.2 (nI v) ?_;show nI v∈tp c rows;rw[e];exact P8.mpr ⟨v,j,rfl⟩
 have h:rows=rwC rs.length vs:=by rw[←HQ g.shp,e]
 have es:rs=rsm rs.length vs:=iZ (by rw[←nE ln,←h,g.sm]);exact⟨vs,h,es,b,by rw[b];exact g.c1,by rw[b];exact g.c6,ln,by rw[←es];exact g.nr,by rw[←es];exact g.wd⟩
theorem yZ(h:Clm n vs):(jE K a).1 [gridD (rwC n vs)] β=My (.ok (nL (rsm n vs)),β):=by
 have:=oQ (K:=K) (a:=a) (β:=β) (rows:=rwC n vs) (by rw[iE.1];have:=h.tab.r1;omega);rw[nE h.ln]at this;exact this
theorem AO(h:Clm n vs):(gr K a).1 [gridD (rwC n vs)] β=My (.ok (nL (csC vs)),β):=by
 have t:=h.tab;have:=rW (K:=K) (a:=a) (β:=β) (rows:=rwC n vs) iE t.r0 (by have:=t.r1;omega) (by have:=t.c1;omega);rw[tX h.ln,xu]at this;exact this
theorem Mj{r rs:List Nat}(h:Nrw rs)(q:LeN r rs):Nrw r:=by
 obtain⟨b,c,d,e⟩:=h;have q1:=q.len;have q2:=q.sum;have q3:=q.pr;exact⟨by omega,by omega,by omega,by omega⟩
theorem yY{i:Nat}(b:i<n):(rwC n vs)[i]?=My (nI (vs.map λv=>v.getD i 0)):=by
 rw[Lj b];congr 1;show _=Rb _ (Rb _ _);rw[PV,PV];exact Qs λv _=>xt v i
theorem Clm.less1{i j x:Nat}{v:List Nat}(h:Clm n vs)(c:vs[j]?=My v)(e:v[i]?=My (x+1)):∃b y,Clm n b/\rwC n b=(rwC n vs).set i ((nI (vs.map λv=>v.getD i 0)).set j (x:Int))/\(rsm n vs)[i]?=My (y+1)/\pr (b.map mu)*v.sum=pr (vs.map mu)*(x+1)/\mu (rsm n b)*(rsm n vs).sum=mu (rsm n vs)*(y+1):=by
 have g:=h.ln v (Qb c);have m:i<n:=by rw[←g];exact(PU.mp e).1
 obtain⟨y,f,k⟩:=vQ h.ln c e;have le:LeN (rsm n (vs.set j (v.set i x))) (rsm n vs):=by rw[k];exact LeN.set f
 refine⟨vs.set j (v.set i x),y,⟨by rw[QB];exact h.l1,by rw[QB];exact h.l6,λu o=>?_,Mj h.nr le,Ry le.dl.pr h.wd⟩,?_,f,?_,?_⟩
 ·rcases mem_set_or o with z|z
  ·rw[z,QB,g]
  ·exact h.ln u z
 ·have q:=Lh (n:=n) (i:=i) (j:=j) (M:=vs.map nI) (col:=nI v) (x:=(x:Int)) (CB h.ln).2 (by rw[Py,c];rfl) m
  show tp n ((vs.set j (v.set i x)).map nI)=_;rw[R4];show tp n ((vs.map nI).set j (Rb _ (v.set i x)))=_;rw[R4];refine q.trans ?_;congr 2;show _=Rb _ (Rb _ _);rw[PV,PV];exact Qs λu _=>xt u i
 ·have p:=uc (l:=vs.map mu) (i:=j) (x:=mu v) (y:=mu (v.set i x)) (by rw[Py,c];rfl)
  have d:=zC e;have r:0<mu v:=Wf λz=>by
   have:=f6 v;rw[z,Wu]at this;have:=iI v.sum;omega
  rw[R4];refine Xz r ?_
  calc mu v*(pr ((vs.map mu).set j (mu (v.set i x)))*v.sum)=pr ((vs.map mu).set j (mu (v.set i x)))*mu v*v.sum:=by simp only[QG,QJ,QP]
   _=pr (vs.map mu)*mu (v.set i x)*v.sum:=by rw[p]
   _=pr (vs.map mu)*(mu (v.set i x)*v.sum):=QG _ _ _
   _=pr (vs.map mu)*(mu v*(x+1)):=by rw[d]
   _=mu v*(pr (vs.map mu)*(x+1)):=QJ _ _ _
 ·rw[k];exact zC f
theorem Clm.big(h:Clm n vs):pr (vs.map mu)<=mu (rsm n vs)/\mu (rsm n vs)<=2^160:=⟨by rw[←h.dl];exact HK h.wk (Pp _).symm,sF h.nr.2.2.1⟩
abbrev l52(j k l m o p q r b c d e f g h i:Option Sl):Ds:=[Po,My (.sh .bag),j,k,l,m,o,p,q,r,b,c,d,e,f,g,h,i]
theorem zB(r:List Nat):0<mu r:=Wf λz=>by
 have:=f6 r;rw[z,Wu]at this;have:=iI r.sum;omega
theorem Ms{p q:Nat}:p/R5 p q*q=p*(q/R5 p q):=by
 obtain⟨b,d⟩:=Wt p q;obtain⟨c,e⟩:=WG p q;rcases Zh (R5 p q)with z|z
 ·rw[z];simp
 ·have f:p/R5 p q=c:=Xl z e
  have g:q/R5 p q=b:=Xl z d;rw[f,g]
  conv=>lhs;rw[d]
  conv=>rhs;rw[e]
  simp only[QG,QJ,QP]
theorem wb{p q p' q':Nat}(c:0<q)(b:0<q')(h:p*q'=p'*q):jI p q=jI p' q':=by
 obtain⟨d,e⟩:=Mr c b h;unfold jI;rw[d,e]
theorem KR{rows:LI}{c:Nat}{rs:List Nat}(g:GrW rows c rs)(m:rs.sum=0):∃row b,rows[rs.length-1]?=My row/\GrW (rows.set (rs.length-1) (row.set 0 1)) c b/\0<b.sum:=by
 have r1:=g.nr.1;have q:=g.nr.2.1;have c1:=g.c1;obtain⟨row,d,r⟩:=g.shp.at (i:=rs.length-1) (by omega);obtain⟨x,f⟩:=ye (l:=row) (i:=0) (by omega);have sh:=g.shp.set (j:=0) (v:=(1:Int)) d;have nn:=ur (j:=0) (v:=(1:Int)) g.nn d (by decide);obtain⟨b,e⟩:=ou (xs:=(rows.set (rs.length-1) (row.set 0 1)).map Rt) λy h=>by
  obtain⟨w,k,rfl⟩:=P8.mp h;exact iP (nn w k)
 have l:b.length=rs.length:=by
  have:=QV VQ e;rw[Pp,Pp,sh.1]at this;exact this.symm
 have t0:tot rows=0:=by unfold tot;rw[g.sm,fZ,m];rfl
 have t:=g.nn row (Qb d) x (Qb f);have o:=pY (v:=(1:Int)) d f;have s:(b.sum:Int)=0-x+1:=by rw[←fZ,←e,←t0];exact o
 have u:b.sum<=1:=by omega
 have A:x=0:=by
  have:=pY (v:=(0:Int)) d f;have p:=ur (j:=0) (v:=(0:Int)) g.nn d (by decide);have:0<=tot (rows.set (rs.length-1) (row.set 0 0)):=iP λy h=>by
   obtain⟨w,k,rfl⟩:=P8.mp h;exact iP (p w k)
  omega
 obtain⟨q1,q2⟩:=few (rs:=b) (by rw[l];omega);exact⟨row,b,d,⟨by rw[l];exact sh,nn,e,g.c1,g.c6,q1,q2⟩,by omega⟩
end
section
variable{K:P6}{a:Ad}{β:Bg}
theorem yC{l:List Nat}{i x:Nat}(h:l[i]?=My x):(l.take (i+1)).sum=(l.take i).sum+x:=by
 rw[T8,h,Ux];simp
theorem HS(l:List Nat)(i:Nat):(l.take i).sum<=l.sum:=by
 conv=>rhs;rw[←Sj i l,Ux]
 omega
theorem MR(p q:Nat):fJ (jI p q) (jI p q)=My (.bl Pt):=K1 (u3 1 (λx hx=>by
 rcases PZ.mp hx with rfl|hx
 ·trivial
 ·cases Qt.mp hx
  trivial) (by decide))
theorem DO(β:Bg)(ok:β.ok):∃b,(oU K a).1 [Po,My (.sh .bag),Po,Po,Po,Po,Po,Po,Po,Po,Po,Po,Po,Po,Po,Po,Po,Po] β=My (.rt (.bl Pt),b):=by
 suffices h:Gw (oU K a).1 [Po,My (.sh .bag),Po,Po,Po,Po,Po,Po,Po,Po,Po,Po,Po,Po,Po,Po,Po,Po] β (λo _=>o= .rt (.bl Pt)) by
  obtain⟨o,b,e,rfl⟩:=h;exact⟨b,e⟩
 obtain⟨rows,c,rs,β1,e0,g,ok1⟩:=zO (K:=K) (a:=a) ok;unfold oU
 dsimp only
 refine se (rows:=gI rows) (β1:=β1) (iC rfl e0) (qi rows) ?_;refine Og (λδ β=>β1=β/\∃rows rs,δ=l52 (My (.grd (gI rows))) Po Po Po Po Po Po Po Po Po Po Po Po Po Po Po/\GrW rows c rs/\0<rs.sum) ?_ ?_
 ·have e1:=oQ (K:=K) (a:=a) (β:=β1) (rows:=rows) (by rw[g.shp.1];have:=g.nr.2.1;omega)
  rw[g.sm]at e1;refine ak (kU (β1:=β1) (x_B (x_2 (ai (aa (am rfl e1) rfl) (lL rs)) rfl eq_int)) ?_);by_cases q:rs.sum=0
  ·rw[PP (P9 (by omega))]
   obtain⟨row,rs',hr,g',hs⟩:=KR g q;have r1:=g.nr.1;have lr:=g.shp.2 row (Qb hr);have c1:=g.c1;refine wL (d:= .int 1) (β1:=β1) (β2:=β1) (β3:=β1) (rows:=gI rows) (ds:=row.map D.int) (ka:=-1) (kb:=0) (ja:=rs.length-1) (jb:=0) rfl (x_1 rfl rfl) rfl rfl ?_ ?_ ?_ rfl (yq ⟨rfl,rows.set (rs.length-1) (row.set 0 1),rs',?_,g',hs⟩)
   ·rw[Pp,g.shp.1]
    unfold ixN;rw[PL (by decide),PP (by omega)];congr 1;omega
   ·rw[Py,hr];rfl
   ·rw[Pp,lr];exact j4 (by decide) (by omega)
   ·show l52 (My (.grd ((gI rows).set (rs.length-1) ((row.map D.int).set 0 (.int 1))))) Po Po Po Po Po Po Po Po Po Po Po Po Po Po Po=_
    rw[show(gI rows).set (rs.length-1) ((row.map D.int).set 0 (.int 1))=gI (rows.set (rs.length-1) (row.set 0 1)) by show _=Rb _ _;rw[R4,R4]]
  ·rw[PL (by simp;omega)]
   exact cE (yq ⟨rfl,rows,rs,rfl,g,by omega⟩)
 rintro δ _ ⟨rfl,rows,rs,rfl,g,hs⟩;obtain⟨vs,er,es,lv,cl⟩:=g.cols;generalize rs.length=n at er es cl;subst er es;have cn:=cl.nt0;have wd:=cl.wd;refine wM (aA (am rfl (yZ cl)) (wM (aA (am rfl (AO cl)) (aA (ai rfl (lL _)) (aA (d:=ntC a n vs) (β1:=β1) (yn (aa (ai rfl rfl) (aa (ai rfl rfl) rfl)) (v7 cl.ntb)) ?_)))));have tp0:0<tbW (wC n vs) (csC vs).length 0 (rsm n vs):=s0 cl.wk (Pp _).symm;have tp1:tbW (wC n vs) (csC vs).length 0 (rsm n vs)<=62^5:=by
  obtain⟨m,hm⟩:∃m,(csC vs).length=m+1:=⟨vs.length-1,by rw[Pp];have:=cl.l1;omega⟩;have m5:m<=5:=by
   have:=cl.l6;rw[Pp]at hm;omega
  have:=HU (wN (frN (rsm n vs).length (csC vs).length) (csC vs)) wd m 0 (rsm n vs) (by rw[hm,Rc]) cn.sm (LeN.refl _);rw[hm];exact Qc this (Uv (by decide) m5)
 have p5:(62:Nat)^5<1073741824:=by decide
 obtain⟨u,β2,pu,u0,u1,ok2⟩:=iF ok1 (lot:=((tbW (wC n vs) (csC vs).length 0 (rsm n vs):Nat):Int)) (by omega) (by omega);obtain⟨u,rfl⟩:∃k:Nat,u=(k:Int):=⟨u.toNat,by omega⟩;have hu:u<tbW (wC n vs) (csC vs).length 0 (rsm n vs):=by omega
 have ek:(gB K a).1 [ntC a n vs,.int (u:Int)] β2=My (.ok (gridD (rwC n (ktW (wC n vs) (csC vs).length 0 (rsm n vs) u))),β2):=(MA cl.ntb.nt hu).trans (QV (λk=>My (RM (gridD (tp k _)),β2)) cl.len);obtain⟨Z,N,i3⟩:=me (wN _ _) (xF hu) (by rw[pi,Rc]) cn.sm;have lk:(ktW (wC n vs) (csC vs).length 0 (rsm n vs) u).length=(csC vs).length:=pi
 replace N:rsm n vs=rsm n (ktW (wC n vs) (csC vs).length 0 (rsm n vs) u):=N.trans (QV (rsm · _) cl.len)
 replace i3:∀v∈ktW (wC n vs) (csC vs).length 0 (rsm n vs) u,v.length=n:=λv J=>(i3 v J).trans cl.len
 replace Z:csC (ktW (wC n vs) (csC vs).length 0 (rsm n vs) u)=csC vs:=Z
 refine aA (am (aa rfl (aa (am (aa rfl (aa (de rfl rfl vC) rfl)) pu) rfl)) ek) ?_;generalize ktW (wC n vs) (csC vs).length 0 (rsm n vs) u=ts at*;have ct:Clm n ts:=⟨by rw[lk];exact cn.c1,by rw[lk];exact cn.c6,i3,by rw[←N];exact cl.nr,by rw[←N];exact wd⟩;show Gw _ (l52 (My (.sh (gridD (rwC n vs)))) (My (.sh (nL (rsm n vs)))) (My (.sh (nL (csC vs)))) (My (.sh (.int (((rsm n vs).sum:Nat):Int)))) (My (.sh (ntC a n vs))) (My (.sh (gridD (rwC n ts)))) Po Po Po Po Po Po Po Po Po Po) β2 _;generalize My (Sl.sh (gridD (rwC n vs)))=s2;generalize My (Sl.sh (ntC a n vs))=s6;rw[N,←Z];rw[N]at hs
 clear pu u1 hu ek tp0 tp1 lk Z N i3 cn wd cl g e0
 obtain⟨b1,b2⟩:=ct.big;have n40:=ct.nr.2.2.1;have m0:=zB (rsm n ts);have R:0<mu (rsm n ts)*(rsm n ts).sum:=Uu m0 hs;refine aA (am rfl (tK ct)) (aA (d:=jI (pr (ts.map mu)*0) (mu (rsm n ts)*(rsm n ts).sum)) (β1:=β2) ((ai rfl fA).trans ?_) ?_)
 ·unfold jI
  rw[Nat.mul_zero,Nat.gcd_zero_left,Nat.zero_div,Nat.div_self R];rfl
 have T:(rwC n ts).length=n:=iE.1;refine cI (ds:=cq 0 ((gI (rwC n ts)).map D.lst)) (β1:=β2) (bw (aa (am rfl (rB (by rw[Pp,T];have:=ct.tab.r1;omega))) rfl) rfl) (λi δ b=>β2=b/\∃O P l w A B C F,δ=l52 s2 (My (.sh (nL (rsm n ts)))) (My (.sh (nL (csC ts)))) (My (.sh (.int (((rsm n ts).sum:Nat):Int)))) s6 (My (.sh (gridD (rwC n ts)))) (My (.sh (.tup [.int ((pr (ts.map mu):Nat):Int),.int ((mu (rsm n ts):Nat):Int)]))) (My (.sh (jI (pr (ts.map mu)*((rsm n ts).take i).sum) (mu (rsm n ts)*(rsm n ts).sum)))) O P l w A B C F) ⟨rfl,_,_,_,_,_,_,_,_,rfl⟩ ?_ ?_
 ·rintro i _ δ _ hd ⟨rfl,O,P,l,w,A,B,C,F,rfl⟩
  obtain⟨_,Q,rfl⟩:=qy hd;obtain⟨_,hx1,rfl⟩:=dJ (f:=D.lst) (xs:=gI (rwC n ts)) Q;obtain⟨row,H,rfl⟩:=dJ (f:=λr:List Int=>r.map D.int) (xs:=rwC n ts) hx1;have hi:i<n:=by rw[←T];exact(PU.mp H).1
  rw[yY hi]at H;cases H;have U:(rsm n ts)[i]?=My ((ts.map λv=>v.getD i 0).sum):=by
   rw[←tY ct.ln hi,gy (by rw[ct.len];exact hi)];exact Pw _
  refine⟨_,rfl,ak (cI (ds:=cq 0 ((nI (ts.map λv=>v.getD i 0)).map D.int)) (β1:=β2) rfl (λj δ b=>β2=b/\∃l w A B C F,δ=l52 s2 (My (.sh (nL (rsm n ts)))) (My (.sh (nL (csC ts)))) (My (.sh (.int (((rsm n ts).sum:Nat):Int)))) s6 (My (.sh (gridD (rwC n ts)))) (My (.sh (.tup [.int ((pr (ts.map mu):Nat):Int),.int ((mu (rsm n ts):Nat):Int)]))) (My (.sh (jI (pr (ts.map mu)*(((rsm n ts).take i).sum+((ts.map λv=>v.getD i 0).take j).sum)) (mu (rsm n ts)*(rsm n ts).sum)))) (My (.sh (.int (i:Int)))) (My (.sh (.lst ((nI (ts.map λv=>v.getD i 0)).map D.int)))) l w A B C F) ⟨rfl,_,_,_,_,_,_,rfl⟩ ?_ ?_)⟩
  ·rintro j _ δ _ hd ⟨rfl,l,w,A,B,C,F,rfl⟩
   obtain⟨_,Q,rfl⟩:=qy hd;obtain⟨x,W,rfl⟩:=o7 Q;have H:=W;rw[Py]at H;cases J:ts[j]? with
   |none=>rw[J]at H;cases H
   |some v=>
    rw[J]at H;have H:v.getD i 0=x:=Qo H;refine⟨_,rfl,ak (kU (β1:=β2) (x_B (x_2 rfl rfl gt_int)) ?_)⟩;rw[yC W,←Nat.add_assoc];cases x with
    |zero=>
     rw[PL (by simp)];exact cE (bq ⟨rfl,_,_,_,_,_,_,rfl⟩)
    |succ x=>
     rw[PP (P9 (by omega))];have lvn:=ct.ln v (Qb J);have hvi:v[i]?=My (x+1):=by
      rw[gy (by omega)]at H;rw[←H];exact Pw _
     obtain⟨us,y,cu,ru,ey,k1,k2⟩:=ct.less1 J hvi;obtain⟨d1,d2⟩:=cu.big;have ej:(csC ts)[j]?=My v.sum:=by rw[Py,J];rfl
     have X:(gI (rwC n ts))[i]?=My ((nI (ts.map λv=>v.getD i 0)).map D.int):=by rw[Py,yY hi];rfl
     rw[vK];refine se (rows:=gI (rwC n ts)) (β1:=β2) (iC rfl (x5 (by rw[Pp,T];have:=ct.tab.r1;omega))) (qi _) ?_;have hjl:j<ts.length:=(PU.mp J).1;refine wL (d:= .int (x:Int)) (β1:=β2) (β2:=β2) (β3:=β2) (rows:=gI (rwC n ts)) (ds:=(nI (ts.map λv=>v.getD i 0)).map D.int) (ka:=i) (kb:=j) (ja:=i) (jb:=j) (x_2 rfl rfl ?_) rfl rfl rfl ?_ X ?_ rfl ?_
     ·show My (D.int _)=_
      rw[show(((x+1:Nat):Int)-1)=(x:Int) by omega]
     ·rw[Pp,T];exact j4 (by omega) (by omega)
     ·rw[Pp,Pp,Pp];exact j4 (by omega) (by omega)
     have hR:(gI (rwC n ts)).set i (((nI (ts.map λv=>v.getD i 0)).map D.int).set j (.int (x:Int)))=gI (rwC n us):=by
      rw[ru];show _=Rb _ _;rw[R4,R4]
     refine wM ?_;rw[hR];generalize hS:((rsm n ts).take i).sum+((ts.map λv=>v.getD i 0).take j).sum=S;have hS:S<=2^7:=by
      have:=HS (rsm n ts) i;have:=HS (ts.map λv=>v.getD i 0) j;have:=fQ (Qb U);omega
     have I:(rsm n ts).sum<=2^6:=by omega
     have q0:=Ms (p:=pr (ts.map mu)*S) (q:=mu (rsm n ts)*(rsm n ts).sum);have hU0:=Nat.div_pos (Nat.gcd_le_right (pr (ts.map mu)*S) R) (TL (pr (ts.map mu)*S) R);have hT:=Qc (UA (pr (ts.map mu)*S) (R5 (pr (ts.map mu)*S) (mu (rsm n ts)*(rsm n ts).sum))) (mb (Qc b1 b2) hS);have Y:=Qc (UA (mu (rsm n ts)*(rsm n ts).sum) (R5 (pr (ts.map mu)*S) (mu (rsm n ts)*(rsm n ts).sum))) (mb b2 I);have hy:y+1<=2^6:=Qc (fQ (Qb ey)) I;have hc:v.sum<=2^6:=Qc (ct.s40 (Qb J)) (by decide);have hA:=Qc d1 d2;have L:∀{t m:Nat},t<=2^m->m<=999->t<2^1000:=λh q=>dL h q;refine aA (am (aa (am rfl (yZ cu)) (aa (am rfl (AO cu)) (aa rfl rfl))) (tK cu)) ?_;refine aA (x_2 (x_2 rfl rfl (bA (d:= .int ((y+1:Nat):Int)) (by rw[Py,Py,ey];rfl))) (x_2 rfl rfl (bA (d:= .int ((v.sum:Nat):Int)) (by rw[Py,Py,ej];rfl))) (fG (L hy (by decide)) (L hc (by decide)))) ?_;refine aA (x_2 (x_2 (x_2 (x_2 rfl rfl nQ) (x_2 rfl rfl i7) (fG (L hT (by decide)) (L d2 (by decide)))) rfl (fG (L (mb hT d2) (by decide)) (L I (by decide)))) rfl (fG (L (mb (mb hT d2) I) (by decide)) (L I (by decide)))) ?_;refine aA (x_2 rfl (x_2 (x_2 (x_2 rfl rfl nQ) rfl (fG (L hA (by decide)) (L (mb hy hc) (by decide)))) (x_2 rfl rfl i7) (fG (L (mb hA (mb hy hc)) (by decide)) (L Y (by decide)))) rfl) ?_;have hq:=Uu (Uu (Uu hU0 (zB (rsm n us))) hs) hs;have le:=wb hq R (thin k1 k2 q0);rw[←le];exact ak (aA (am (aa rfl (aa (x_2 (x_2 (x_2 (x_2 rfl rfl i7) (x_2 rfl rfl i7) (fG (L Y (by decide)) (L d2 (by decide)))) rfl (fG (L (mb Y d2) (by decide)) (L I (by decide)))) rfl (fG (L (mb (mb Y d2) I) (by decide)) (L I (by decide)))) rfl)) (zG hq (L (mb (mb (mb Y d2) I) I) (by decide)))) (bq ⟨rfl,_,_,_,_,_,_,rfl⟩))
  ·rintro δ _ ⟨rfl,l,w,A,B,C,F,rfl⟩
   rw[gT,Pp,Pp,SK];exact bq ⟨rfl,_,_,_,_,_,_,_,_,by rw[yC U]⟩
 ·rintro δ _ ⟨rfl,O,P,l,w,A,B,C,F,rfl⟩
  rw[gT,Pp,Pp,T,Sb (by rw[ct.len];exact PN _),wb (p':=pr (ts.map mu)) (q':=mu (rsm n ts)) R m0 (by simp only[QG,QJ,QP])];exact ak (aQ (x_2 rfl (am (aa (x_2 rfl rfl nQ) (aa (x_2 rfl rfl i7) rfl)) (zG m0 (dL b2 (by decide)))) (MR _ _)) rfl)
end
noncomputable abbrev E(P:Xn)(n:String)(t:Nat)(v:PH):TK:=⟨PyData.keyHash P (Qv n),.str (Qv n) t,v⟩
noncomputable abbrev FN(x q:Qz)(s:Q6)(b c a d:PH)(e:Option PD)(cd ct:PH):Qi:=TY x q (iK s) (cc s) (ae s) b c a d e cd ct
noncomputable abbrev fO(f:Qi):Qn:=⟨.type "function",Po,.func f,#[]⟩
noncomputable abbrev tO(l:List PH):Qn:=⟨.type "tuple",Po,.seq l.toArray 0,#[]⟩
noncomputable abbrev cO(l:List PH):Qn:=⟨.type "code",Po,.fields l.toArray,#[]⟩
noncomputable abbrev eB(P:Xn)(n:String)(t:Nat):TK:=E P n t (.builtin n)
noncomputable abbrev eT(P:Xn)(n:String)(t:Nat):TK:=E P n t (.type n)
noncomputable abbrev eR(P:Xn)(n:String)(t r:Nat):TK:=E P n t (.ref r)
noncomputable abbrev nO(l:List PH):Qn:=⟨.none,Po,.fields l.toArray,#[]⟩
noncomputable abbrev fB(x q:Qz)(s:Q6):Qn:=⟨.none,Po,.func ⟨x,q,iK s,.stmts (cc s),ae s,0,[],.none,.none,.none,.none,Po,.none,.none,0⟩,#[]⟩
noncomputable abbrev cC(n q:Qz)(t l a po c fl r:Nat)(b:Bool)(d e:Nat)(x y z w:PH)(u f v:Nat):Qn:=cO [.str n t,.str q (t+1),.str "/claim/cut.py" (t+2),.int l 0,.int a 0,.int po 0,.int c 0,.int fl 0,.ref r,.bool b,.int d 0,.ref e,x,y,z,w,.int u 0,.int f 0,.str "/claim/cut.py" v]
noncomputable abbrev cF(n:Qz)(t l a b r c u:Nat):Qn:=cC n n t l a 0 b 3 r Pt c (r+1) .none .none .none (.ref (r+2)) u l (u+1)
noncomputable abbrev cG(n:Qz)(t l a b r c u:Nat):Qn:=cC n n t l a 0 b 3 r Pt c (r+1) .none (.ref (r+2)) (.ref (r+3)) (.ref (r+4)) u l (u+1)
noncomputable abbrev fM(m:Qz)(t:Nat)(x:Qz)(i c:Nat):Qn:=fO (FN x x (top i) .none .none .none (.str m t) Po (.ref c) .none)
noncomputable abbrev tx0:PH:= .str "edgetally.errors" 194
noncomputable abbrev tx1:PH:= .str "edgetally.net" 495
noncomputable abbrev tx2:PH:= .str "__main__" 164
noncomputable abbrev fL(x q:Qz)(i c:Nat):Qn:=fO (FN x q (top i) .none .none .none (.str "law_edgetally_k52_whole_thinned" 736) Po (.ref c) .none)
noncomputable def trL:List Nat->List PH
 |a::b::c::l=> .int a 0:: .int b 0:: .ref c::trL l
 |_=>[]
noncomputable abbrev nT(l:List Nat):Qn:=nO (trL l)
noncomputable def stL:Nat->List Qz->List PH
 |_,[]=>[]
 |t,x::l=> .str x t::stL (t+1) l
noncomputable abbrev tS(t:Nat)(l:List Qz):Qn:=tO (stL t l)
noncomputable def fD(o:Qn):Qi:=match o.data with
 | .func f=>f
 |_=>FN "" "" (top 0) .none .none .none .none Po .none .none
section
variable(P:Xn)
def b0:Qn:=⟨(.type "dict"),Po,(.dict #[(E P "__name__" 1 (.str "builtins" 160)),(E P "__doc__" 2 (.builtin "builtins.__doc__:str#opaque")),(E P "__package__" 3 (.builtin "builtins.__package__:str#opaque")),(E P "__loader__" 4 (.builtin "builtins.__loader__:shared#opaque")),(E P "__spec__" 5 (.builtin "builtins.__spec__#opaque")),(eB P "__build_class__" 6),(eB P "__import__" 7),(eB P "abs" 8),(eB P "all" 9),(eB P "any" 10),(eB P "ascii" 11),(eB P "bin" 12),(eB P "breakpoint" 13),(eB P "callable" 14),(eB P "chr" 15),(eB P "compile" 16),(eB P "delattr" 17),(eB P "dir" 18),(eB P "divmod" 19),(eB P "eval" 20),(eB P "exec" 21),(eB P "format" 22),(eB P "getattr" 23),(eB P "globals" 24),(eB P "hasattr" 25),(eB P "hash" 26),(eB P "hex" 27),(eB P "id" 28),(eB P "input" 29),(eB P "isinstance" 30),(eB P "issubclass" 31),(eB P "iter" 32),(eB P "aiter" 33),(eB P "len" 34),(eB P "locals" 35),(eB P "max" 36),(eB P "min" 37),(eB P "next" 38),(eB P "anext" 39),(eB P "oct" 40),(eB P "ord" 41),(eB P "pow" 42),(eB P "print" 43),(eB P "repr" 44),(eB P "round" 45),(eB P "setattr" 46),(eB P "sorted" 47),(eB P "sum" 48),(eB P "vars" 49),(E P "None" 50 .none),(E P "Ellipsis" 51 .ellipsis),(E P "NotImplemented" 52 .notImplemented),(E P "False" 53 (.bool Pz)),(E P "True" 54 (.bool Pt)),(eT P "bool" 55),(eT P "memoryview" 56),(eT P "bytearray" 57),(eT P "bytes" 58),(eT P "classmethod" 59),(eT P "complex" 60),(eT P "dict" 61),(eT P "enumerate" 62),(eT P "filter" 63),(eT P "float" 64),(eT P "frozenset" 65),(eT P "property" 66),(eT P "int" 67),(eT P "list" 68),(eT P "map" 69),(eT P "object" 70),(eT P "range" 71),(eT P "reversed" 72),(eT P "set" 73),(eT P "slice" 74),(eT P "staticmethod" 75),(eT P "str" 76),(eT P "super" 77),(eT P "tuple" 78),(eT P "type" 79),(eT P "zip" 80),(E P "__debug__" 81 (.bool Pt)),(eT P "BaseException" 82),(eT P "BaseExceptionGroup" 83),(eT P "Exception" 84),(eT P "GeneratorExit" 85),(eT P "KeyboardInterrupt" 86),(eT P "SystemExit" 87),(eT P "ArithmeticError" 88),(eT P "AssertionError" 89),(eT P "AttributeError" 90),(eT P "BufferError" 91),(eT P "EOFError" 92),(eT P "ImportError" 93),(eT P "LookupError" 94),(eT P "MemoryError" 95),(eT P "NameError" 96),(eT P "OSError" 97),(eT P "ReferenceError" 98),(eT P "RuntimeError" 99),(eT P "StopAsyncIteration" 100),(eT P "StopIteration" 101),(eT P "SyntaxError" 102),(eT P "SystemError" 103),(eT P "TypeError" 104),(eT P "ValueError" 105),(eT P "Warning" 106),(eT P "FloatingPointError" 107),(eT P "OverflowError" 108),(eT P "ZeroDivisionError" 109),(eT P "BytesWarning" 110),(eT P "DeprecationWarning" 111),(eT P "EncodingWarning" 112),(eT P "FutureWarning" 113),(eT P "ImportWarning" 114),(eT P "PendingDeprecationWarning" 115),(eT P "ResourceWarning" 116),(eT P "RuntimeWarning" 117),(eT P "SyntaxWarning" 118),(eT P "UnicodeWarning" 119),(eT P "UserWarning" 120),(eT P "BlockingIOError" 121),(eT P "ChildProcessError" 122),(eT P "ConnectionError" 123),(eT P "FileExistsError" 124),(eT P "FileNotFoundError" 125),(eT P "InterruptedError" 126),(eT P "IsADirectoryError" 127),(eT P "NotADirectoryError" 128),(eT P "PermissionError" 129),(eT P "ProcessLookupError" 130),(eT P "TimeoutError" 131),(eT P "IndentationError" 132),(eT P "_IncompleteInputError" 133),(eT P "IndexError" 134),(eT P "KeyError" 135),(eT P "ModuleNotFoundError" 136),(eT P "NotImplementedError" 137),(eT P "PythonFinalizationError" 138),(eT P "RecursionError" 139),(eT P "UnboundLocalError" 140),(eT P "UnicodeError" 141),(eT P "BrokenPipeError" 142),(eT P "ConnectionAbortedError" 143),(eT P "ConnectionRefusedError" 144),(eT P "ConnectionResetError" 145),(eT P "TabError" 146),(eT P "UnicodeDecodeError" 147),(eT P "UnicodeEncodeError" 148),(eT P "UnicodeTranslateError" 149),(eT P "ExceptionGroup" 150),(E P "EnvironmentError" 151 (.type "OSError")),(E P "IOError" 152 (.type "OSError")),(eB P "open" 153),(E P "quit" 154 (.builtin "builtins.quit#opaque")),(E P "exit" 155 (.builtin "builtins.exit#opaque")),(E P "copyright" 156 (.builtin "builtins.copyright#opaque")),(E P "credits" 157 (.builtin "builtins.credits#opaque")),(E P "license" 158 (.builtin "builtins.license#opaque")),(E P "help" 159 (.builtin "builtins.help#opaque"))] 159),#[]⟩
def b1:Qn:=⟨(.type "dict"),Po,(.dict #[(eR P "builtins" 162 4),(eR P "__main__" 163 5)] 2),#[]⟩
noncomputable def b2:Qn:=⟨.none,Po,(.dict #[] 0),#[]⟩
def mL:List TK:=[(E P "__name__" 165 (.str "law_edgetally_k52_whole_thinned" 736)),(E P "__doc__" 166 .none),(E P "__package__" 167 .none),(E P "__loader__" 168 (.builtin "__main__.__loader__#opaque")),(E P "__spec__" 169 .none),(eR P "__annotations__" 170 6),(eR P "__builtins__" 171 4),(E P "__file__" 173 (.str "/claim/cut.py" 172)),(E P "__cached__" 174 .none),(eR P "_wall" 193 21),(eR P "EdgeError" 223 38),(eR P "BadSums" 248 59),(eR P "BadBounds" 273 79),(eR P "TooWide" 298 98),(eR P "Barred" 325 117),(eR P "BadNumber" 350 137),(eR P "NoTable" 375 157),(E P "MOST" 379 (.int 40 378)),(E P "MOST_ROWS" 381 (.int 4 380)),(E P "MOST_COLUMNS" 383 (.int 6 382)),(eR P "FREE" 385 160),(eR P "free" 392 166),(eR P "check_sums" 398 171),(eR P "check_pair" 407 178),(eR P "settled_bounds" 413 183),(eR P "rows_turned" 419 188),(eR P "factorial" 430 195),(eR P "ways" 439 202),(eR P "fillings" 445 207),(eR P "need_of" 453 212),(eR P "room_inside" 459 217),(eR P "room_beside" 465 222),(eR P "room_of" 471 227),(eR P "narrowest" 477 232),(eR P "choices" 483 237),(eR P "check_fit" 494 244),(E P "WIDE" 498 (.int 500 497)),(eR P "check_wide" 507 251),(eR P "settled_for_net" 517 258),(eR P "column_fillings" 523 263),(eR P "rests_behind" 529 268),(eR P "nodes_by_level" 535 273),(eR P "node_counts" 549 280),(eR P "counted_nodes" 555 285),(eR P "Net" 663 369),(eR P "check_number" 673 380),(eR P "steps_counted" 686 387),(eR P "falls_to" 695 394),(eR P "kth_table" 701 399),(eR P "columns_asked" 707 404),(eR P "counted_ahead" 722 411),(eR P "stretch" 735 418),(eR P "_law_bag" 743 423),(eR P "_law_pull" 754 430),(eR P "_law_grid" 760 435),(eR P "_law_wide" 770 442),(eR P "_law_large" 780 449),(eR P "_law_turned" 786 454),(eR P "_law_rowsums" 792 459),(eR P "_law_columnsums" 798 464),(eR P "_law_copied" 804 469),(eR P "_law_gcd" 813 476),(eR P "_law_lowest" 822 483),(eR P "_law_share" 834 490),(eR P "law" 858 497)]
noncomputable def b3:Qn:=⟨(.type "dict"),Po,(.dict (mL P).toArray 65),#[]⟩
noncomputable def b4:Qn:=⟨(.type "module"),(My 0),.plain,#[]⟩
noncomputable def b5:Qn:=⟨(.type "module"),(My 3),.plain,#[]⟩
noncomputable def b6:Qn:=⟨(.type "dict"),Po,(.dict #[] 0),#[]⟩
def b7:Qn:=tO []
def b8:Qn:=nO []
def b9:Qn:=cC "<module>" "<module>" 176 1 0 0 0 0 7 Pz 175 8 .none .none .none .none 179 1 180
def b10:Qn:=⟨(.type "frame"),Po,.plain,#[(My (.ref 9)),(My (.ref 3)),(My (.ref 3)),Po,(My tx2),Po,(My (.ref 0))]⟩
def b12:Qn:=nT [1,0,20,5,0,27,10,0,47,14,0,67,18,0,87,23,0,106,29,0,125,33,0,145,42,0,165,44,0,170,55,0,177,59,0,182,68,0,187,71,0,194,76,0,201,84,0,206,94,0,211,96,0,216,99,0,221,101,0,226,103,0,231,105,0,236,110,0,243,117,0,250,123,0,257,128,0,262,130,0,267,132,0,272,140,0,279,148,0,284,158,0,291,200,0,379,203,0,386,209,0,393,215,0,398,225,0,403,230,0,410,239,0,417,249,0,422,251,0,429,261,0,434,268,0,441,274,0,448,285,0,453,287,0,458,289,0,463,291,0,468,293,0,475,299,0,482,302,0,489,306,0,496]
def b13:Qn:=cC "<module>" "<module>" 182 1 0 0 0 0 11 Pz 181 12 .none .none .none .none 185 1 186
def b14:Qn:=⟨(.type "frame"),Po,.plain,#[(My (.ref 13)),(My (.ref 3)),(My (.ref 3)),Po,(My tx2),Po,(My (.ref 0))]⟩
def b17:Qn:=tS 190 ["k"]
def b19:Qn:=fB "_wall" "_wall" (top 0)
def b20:Qn:=cG "_wall" 187 1 1 0 15 181 191
def b21:Qn:=fM "__main__" 164 "_wall" 0 20
def b22:Qn:=tO [(.type "ValueError")]
noncomputable def b23:Qn:=⟨(.type "builtin_function_or_method"),Po,(.fields #[(.builtin "type.__prepare__"),(.type "type")]),#[]⟩
def b24:Qn:=⟨(.type "dict"),Po,(.dict #[(E P "__module__" 203 tx0),(E P "__qualname__" 205 (.str "EdgeError" 204)),(E P "__firstlineno__" 207 (.int 5 206)),(eR P "__init__" 216 35),(eR P "__static_attributes__" 218 36)] 5),#[]⟩
def b26:Qn:=nT [7,4,34]
def b27:Qn:=cC "EdgeError" "EdgeError" 198 5 0 0 0 0 25 Pz 181 26 .none .none .none .none 201 5 202
def b28:Qn:=⟨(.type "frame"),Po,.plain,#[(My (.ref 27)),(My (.ref 3)),(My (.ref 24)),Po,(My tx0),Po,(My (.ref 0))]⟩
def b31:Qn:=tS 211 ["self","word","why"]
def b33:Qn:=fB "__init__" "EdgeError.__init__" (aw (top 2) 0)
def b34:Qn:=cC "__init__" "EdgeError.__init__" 208 7 3 0 0 3 29 Pt 181 30 .none (.ref 31) (.ref 32) (.ref 33) 214 7 215
def b35:Qn:=fO (FN "__init__" "EdgeError.__init__" (aw (top 2) 0) .none .none .none tx0 Po (.ref 34) .none)
def b36:Qn:=tS 217 ["word"]
def b37:Qn:=⟨(.type "dict"),Po,(.dict #[(E P "__module__" 203 tx0),(E P "__firstlineno__" 207 (.int 5 206)),(eR P "__init__" 216 35),(eR P "__static_attributes__" 218 36),(eR P "__weakref__" 220 39),(E P "__doc__" 221 .none)] 3),#[]⟩
noncomputable def b38:Qn:=⟨(.type "type"),Po,(.cls ⟨"EdgeError",[(.type "ValueError")],[(.ref 38),(.type "ValueError"),(.type "Exception"),(.type "BaseException"),(.type "object")],37,"EdgeError",Pt,[],[(.ref 59),(.ref 79),(.ref 98),(.ref 117),(.ref 137),(.ref 157)],Pz,Po,Pz⟩),#[(My (.ref 22)),Po,(My (.str "EdgeError" 196)),(My (.str "EdgeError" 204)),(My (.builtin "ValueError.__new__")),(My (.bool Pt))]⟩
noncomputable def b39:Qn:=⟨(.type "getset_descriptor"),Po,(.fields #[(.str "__weakref__" 219),(.ref 38),(.builtin "ExceptionGroup.__weakref__"),.none]),#[]⟩
noncomputable def b40:Qn:=⟨(.type "super"),Po,(.fields #[(.ref 38),(.ref 38),(.ref 38)]),#[]⟩
noncomputable def b41:Qn:=⟨(.type "builtin_function_or_method"),Po,(.fields #[(.builtin "object.__init_subclass__"),(.ref 38)]),#[]⟩
def b42:Qn:=tO [(.ref 38)]
def b44:Qn:=⟨(.type "dict"),Po,(.dict #[(E P "__module__" 231 tx0),(E P "__qualname__" 233 (.str "BadSums" 232)),(E P "__firstlineno__" 235 (.int 10 234)),(eR P "__init__" 244 56),(eR P "__static_attributes__" 245 57)] 5),#[]⟩
def b46:Qn:=nT [12,4,55]
def b47:Qn:=cC "BadSums" "BadSums" 226 10 0 0 0 0 45 Pz 181 46 .none .none .none .none 229 10 230
def b48:Qn:=⟨(.type "frame"),Po,.plain,#[(My (.ref 47)),(My (.ref 3)),(My (.ref 44)),Po,(My tx0),Po,(My (.ref 0))]⟩
def b49:Qn:=tS 236 ["these sums are no table's"]
def b52:Qn:=tS 240 ["self","why"]
def b54:Qn:=fB "__init__" "BadSums.__init__" (aw (top 3) 0)
def b55:Qn:=cC "__init__" "BadSums.__init__" 237 12 2 0 0 3 50 Pt 181 51 .none (.ref 52) (.ref 53) (.ref 54) 242 12 243
def b56:Qn:=fO (FN "__init__" "BadSums.__init__" (aw (top 3) 0) (.ref 49) .none .none tx0 Po (.ref 55) .none)
def b58:Qn:=⟨(.type "dict"),Po,(.dict #[(E P "__module__" 231 tx0),(E P "__firstlineno__" 235 (.int 10 234)),(eR P "__init__" 244 56),(eR P "__static_attributes__" 245 57),(E P "__doc__" 246 .none)] 2),#[]⟩
noncomputable def b59:Qn:=⟨(.type "type"),Po,(.cls ⟨"BadSums",[(.ref 38)],[(.ref 59),(.ref 38),(.type "ValueError"),(.type "Exception"),(.type "BaseException"),(.type "object")],58,"BadSums",Pt,[],[],Pz,Po,Pz⟩),#[(My (.ref 42)),Po,(My (.str "BadSums" 224)),(My (.str "BadSums" 232)),(My (.builtin "ValueError.__new__")),(My (.bool Pt))]⟩
noncomputable def b60:Qn:=⟨(.type "super"),Po,(.fields #[(.ref 59),(.ref 59),(.ref 59)]),#[]⟩
noncomputable def b61:Qn:=⟨(.type "builtin_function_or_method"),Po,(.fields #[(.builtin "object.__init_subclass__"),(.ref 59)]),#[]⟩
def b64:Qn:=⟨(.type "dict"),Po,(.dict #[(E P "__module__" 256 tx0),(E P "__qualname__" 258 (.str "BadBounds" 257)),(E P "__firstlineno__" 260 (.int 14 259)),(eR P "__init__" 269 76),(eR P "__static_attributes__" 270 77)] 5),#[]⟩
def b66:Qn:=nT [16,4,75]
def b67:Qn:=cC "BadBounds" "BadBounds" 251 14 0 0 0 0 65 Pz 181 66 .none .none .none .none 254 14 255
def b68:Qn:=⟨(.type "frame"),Po,.plain,#[(My (.ref 67)),(My (.ref 3)),(My (.ref 64)),Po,(My tx0),Po,(My (.ref 0))]⟩
def b69:Qn:=tS 261 ["these bounds are no table's"]
def b72:Qn:=tS 265 ["self","why"]
def b74:Qn:=fB "__init__" "BadBounds.__init__" (aw (top 4) 0)
def b75:Qn:=cC "__init__" "BadBounds.__init__" 262 16 2 0 0 3 70 Pt 181 71 .none (.ref 72) (.ref 73) (.ref 74) 267 16 268
def b76:Qn:=fO (FN "__init__" "BadBounds.__init__" (aw (top 4) 0) (.ref 69) .none .none tx0 Po (.ref 75) .none)
def b78:Qn:=⟨(.type "dict"),Po,(.dict #[(E P "__module__" 256 tx0),(E P "__firstlineno__" 260 (.int 14 259)),(eR P "__init__" 269 76),(eR P "__static_attributes__" 270 77),(E P "__doc__" 271 .none)] 2),#[]⟩
noncomputable def b79:Qn:=⟨(.type "type"),Po,(.cls ⟨"BadBounds",[(.ref 38)],[(.ref 79),(.ref 38),(.type "ValueError"),(.type "Exception"),(.type "BaseException"),(.type "object")],78,"BadBounds",Pt,[],[],Pz,Po,Pz⟩),#[(My (.ref 62)),Po,(My (.str "BadBounds" 249)),(My (.str "BadBounds" 257)),(My (.builtin "ValueError.__new__")),(My (.bool Pt))]⟩
noncomputable def b80:Qn:=⟨(.type "super"),Po,(.fields #[(.ref 79),(.ref 79),(.ref 79)]),#[]⟩
noncomputable def b81:Qn:=⟨(.type "builtin_function_or_method"),Po,(.fields #[(.builtin "object.__init_subclass__"),(.ref 79)]),#[]⟩
def b84:Qn:=⟨(.type "dict"),Po,(.dict #[(E P "__module__" 281 tx0),(E P "__qualname__" 283 (.str "TooWide" 282)),(E P "__firstlineno__" 285 (.int 18 284)),(eR P "__init__" 293 95),(eR P "__static_attributes__" 295 96)] 5),#[]⟩
def b86:Qn:=nT [20,4,94]
def b87:Qn:=cC "TooWide" "TooWide" 276 18 0 0 0 0 85 Pz 181 86 .none .none .none .none 279 18 280
def b88:Qn:=⟨(.type "frame"),Po,.plain,#[(My (.ref 87)),(My (.ref 3)),(My (.ref 84)),Po,(My tx0),Po,(My (.ref 0))]⟩
def b91:Qn:=tS 289 ["self","wide"]
def b93:Qn:=fB "__init__" "TooWide.__init__" (aw (top 5) 0)
def b94:Qn:=cC "__init__" "TooWide.__init__" 286 20 2 0 0 3 89 Pt 181 90 .none (.ref 91) (.ref 92) (.ref 93) 291 20 292
def b95:Qn:=fO (FN "__init__" "TooWide.__init__" (aw (top 5) 0) .none .none .none tx0 Po (.ref 94) .none)
def b96:Qn:=tS 294 ["wide"]
def b97:Qn:=⟨(.type "dict"),Po,(.dict #[(E P "__module__" 281 tx0),(E P "__firstlineno__" 285 (.int 18 284)),(eR P "__init__" 293 95),(eR P "__static_attributes__" 295 96),(E P "__doc__" 296 .none)] 2),#[]⟩
noncomputable def b98:Qn:=⟨(.type "type"),Po,(.cls ⟨"TooWide",[(.ref 38)],[(.ref 98),(.ref 38),(.type "ValueError"),(.type "Exception"),(.type "BaseException"),(.type "object")],97,"TooWide",Pt,[],[],Pz,Po,Pz⟩),#[(My (.ref 82)),Po,(My (.str "TooWide" 274)),(My (.str "TooWide" 282)),(My (.builtin "ValueError.__new__")),(My (.bool Pt))]⟩
noncomputable def b99:Qn:=⟨(.type "super"),Po,(.fields #[(.ref 98),(.ref 98),(.ref 98)]),#[]⟩
noncomputable def b100:Qn:=⟨(.type "builtin_function_or_method"),Po,(.fields #[(.builtin "object.__init_subclass__"),(.ref 98)]),#[]⟩
def b103:Qn:=⟨(.type "dict"),Po,(.dict #[(E P "__module__" 306 tx0),(E P "__qualname__" 308 (.str "Barred" 307)),(E P "__firstlineno__" 310 (.int 23 309)),(eR P "__init__" 319 114),(eR P "__static_attributes__" 322 115)] 5),#[]⟩
def b105:Qn:=nT [25,4,113]
def b106:Qn:=cC "Barred" "Barred" 301 23 0 0 0 0 104 Pz 181 105 .none .none .none .none 304 23 305
def b107:Qn:=⟨(.type "frame"),Po,.plain,#[(My (.ref 106)),(My (.ref 3)),(My (.ref 103)),Po,(My tx0),Po,(My (.ref 0))]⟩
def b110:Qn:=tS 314 ["self","over","into"]
def b112:Qn:=fB "__init__" "Barred.__init__" (aw (top 6) 0)
def b113:Qn:=cC "__init__" "Barred.__init__" 311 25 3 0 0 3 108 Pt 181 109 .none (.ref 110) (.ref 111) (.ref 112) 317 25 318
def b114:Qn:=fO (FN "__init__" "Barred.__init__" (aw (top 6) 0) .none .none .none tx0 Po (.ref 113) .none)
def b115:Qn:=tS 320 ["into","over"]
def b116:Qn:=⟨(.type "dict"),Po,(.dict #[(E P "__module__" 306 tx0),(E P "__firstlineno__" 310 (.int 23 309)),(eR P "__init__" 319 114),(eR P "__static_attributes__" 322 115),(E P "__doc__" 323 .none)] 2),#[]⟩
noncomputable def b117:Qn:=⟨(.type "type"),Po,(.cls ⟨"Barred",[(.ref 38)],[(.ref 117),(.ref 38),(.type "ValueError"),(.type "Exception"),(.type "BaseException"),(.type "object")],116,"Barred",Pt,[],[],Pz,Po,Pz⟩),#[(My (.ref 101)),Po,(My (.str "Barred" 299)),(My (.str "Barred" 307)),(My (.builtin "ValueError.__new__")),(My (.bool Pt))]⟩
noncomputable def b118:Qn:=⟨(.type "super"),Po,(.fields #[(.ref 117),(.ref 117),(.ref 117)]),#[]⟩
noncomputable def b119:Qn:=⟨(.type "builtin_function_or_method"),Po,(.fields #[(.builtin "object.__init_subclass__"),(.ref 117)]),#[]⟩
def b122:Qn:=⟨(.type "dict"),Po,(.dict #[(E P "__module__" 333 tx0),(E P "__qualname__" 335 (.str "BadNumber" 334)),(E P "__firstlineno__" 337 (.int 29 336)),(eR P "__init__" 346 134),(eR P "__static_attributes__" 347 135)] 5),#[]⟩
def b124:Qn:=nT [31,4,133]
def b125:Qn:=cC "BadNumber" "BadNumber" 328 29 0 0 0 0 123 Pz 181 124 .none .none .none .none 331 29 332
def b126:Qn:=⟨(.type "frame"),Po,.plain,#[(My (.ref 125)),(My (.ref 3)),(My (.ref 122)),Po,(My tx0),Po,(My (.ref 0))]⟩
def N1:Qn:=tS 338 ["this number is out of its bounds"]
def b130:Qn:=tS 342 ["self","why"]
def b132:Qn:=fB "__init__" "BadNumber.__init__" (aw (top 7) 0)
def N0:Qn:=cC "__init__" "BadNumber.__init__" 339 31 2 0 0 3 128 Pt 181 129 .none (.ref 130) (.ref 131) (.ref 132) 344 31 345
def GX:Qn:=fO (FN "__init__" "BadNumber.__init__" (aw (top 7) 0) (.ref 127) .none .none tx0 Po (.ref 133) .none)
def NZ:Qn:=⟨(.type "dict"),Po,(.dict #[(E P "__module__" 333 tx0),(E P "__firstlineno__" 337 (.int 29 336)),(eR P "__init__" 346 134),(eR P "__static_attributes__" 347 135),(E P "__doc__" 348 .none)] 2),#[]⟩
noncomputable def NY:Qn:=⟨(.type "type"),Po,(.cls ⟨"BadNumber",[(.ref 38)],[(.ref 137),(.ref 38),(.type "ValueError"),(.type "Exception"),(.type "BaseException"),(.type "object")],136,"BadNumber",Pt,[],[],Pz,Po,Pz⟩),#[(My (.ref 120)),Po,(My (.str "BadNumber" 326)),(My (.str "BadNumber" 334)),(My (.builtin "ValueError.__new__")),(My (.bool Pt))]⟩
noncomputable def b138:Qn:=⟨(.type "super"),Po,(.fields #[(.ref 137),(.ref 137),(.ref 137)]),#[]⟩
noncomputable def b139:Qn:=⟨(.type "builtin_function_or_method"),Po,(.fields #[(.builtin "object.__init_subclass__"),(.ref 137)]),#[]⟩
def b142:Qn:=⟨(.type "dict"),Po,(.dict #[(E P "__module__" 358 tx0),(E P "__qualname__" 360 (.str "NoTable" 359)),(E P "__firstlineno__" 362 (.int 33 361)),(eR P "__init__" 371 154),(eR P "__static_attributes__" 372 155)] 5),#[]⟩
def b144:Qn:=nT [35,4,153]
def b145:Qn:=cC "NoTable" "NoTable" 353 33 0 0 0 0 143 Pz 181 144 .none .none .none .none 356 33 357
def b146:Qn:=⟨(.type "frame"),Po,.plain,#[(My (.ref 145)),(My (.ref 3)),(My (.ref 142)),Po,(My tx0),Po,(My (.ref 0))]⟩
def NX:Qn:=tS 363 ["the net has no such table"]
def b150:Qn:=tS 367 ["self","why"]
def b152:Qn:=fB "__init__" "NoTable.__init__" (aw (top 8) 0)
def NW:Qn:=cC "__init__" "NoTable.__init__" 364 35 2 0 0 3 148 Pt 181 149 .none (.ref 150) (.ref 151) (.ref 152) 369 35 370
def GW:Qn:=fO (FN "__init__" "NoTable.__init__" (aw (top 8) 0) (.ref 147) .none .none tx0 Po (.ref 153) .none)
def NV:Qn:=⟨(.type "dict"),Po,(.dict #[(E P "__module__" 358 tx0),(E P "__firstlineno__" 362 (.int 33 361)),(eR P "__init__" 371 154),(eR P "__static_attributes__" 372 155),(E P "__doc__" 373 .none)] 2),#[]⟩
noncomputable def NU:Qn:=⟨(.type "type"),Po,(.cls ⟨"NoTable",[(.ref 38)],[(.ref 157),(.ref 38),(.type "ValueError"),(.type "Exception"),(.type "BaseException"),(.type "object")],156,"NoTable",Pt,[],[],Pz,Po,Pz⟩),#[(My (.ref 140)),Po,(My (.str "NoTable" 351)),(My (.str "NoTable" 359)),(My (.builtin "ValueError.__new__")),(My (.bool Pt))]⟩
noncomputable def b158:Qn:=⟨(.type "super"),Po,(.fields #[(.ref 157),(.ref 157),(.ref 157)]),#[]⟩
noncomputable def b159:Qn:=⟨(.type "builtin_function_or_method"),Po,(.fields #[(.builtin "object.__init_subclass__"),(.ref 157)]),#[]⟩
def NT:Qn:=tO [(.int 0 384),(.int 40 378)]
def NS:Qn:=⟨(.type "dict"),Po,(.dict #[(eR P "pair" 386 160)] 1),#[]⟩
def b164:Qn:=fB "free" "free" (top 14)
def NR:Qn:=cF "free" 387 42 2 1 162 181 390
def GV:Qn:=fO (FN "free" "free" (top 14) .none (.ref 161) .none (.str "edgetally.bounds" 376) Po (.ref 165) .none)
def b169:Qn:=fB "check_sums" "check_sums" (top 15)
def NQ:Qn:=cF "check_sums" 393 44 2 0 167 181 396
def GU:Qn:=fM "edgetally.bounds" 376 "check_sums" 15 170
def b174:Qn:=tS 402 ["pair","low","high"]
def b176:Qn:=fB "check_pair" "check_pair" (top 16)
def NP:Qn:=cG "check_pair" 399 55 1 0 172 181 405
def GT:Qn:=fM "edgetally.bounds" 376 "check_pair" 16 177
def b181:Qn:=fB "settled_bounds" "settled_bounds" (top 17)
def NO:Qn:=cF "settled_bounds" 408 59 3 0 179 181 411
def GS:Qn:=fM "edgetally.bounds" 376 "settled_bounds" 17 182
def b186:Qn:=fB "rows_turned" "rows_turned" (top 18)
def NN:Qn:=cF "rows_turned" 414 68 1 0 184 181 417
def GR:Qn:=fM "edgetally.bounds" 376 "rows_turned" 18 187
def b191:Qn:=tS 425 ["number","product","factor"]
def b193:Qn:=fB "factorial" "factorial" (top 20)
def NM:Qn:=cG "factorial" 422 71 1 0 189 181 428
def GQ:Qn:=fM "edgetally.counts" 420 "factorial" 20 194
def b198:Qn:=tS 434 ["parts","part","told"]
def b200:Qn:=fB "ways" "ways" (top 21)
def NL:Qn:=cG "ways" 431 76 1 0 196 181 437
def GP:Qn:=fM "edgetally.counts" 420 "ways" 21 201
def b205:Qn:=fB "fillings" "fillings" (top 22)
def NK:Qn:=cF "fillings" 440 84 3 0 203 181 443
def GO:Qn:=fM "edgetally.counts" 420 "fillings" 22 206
def b210:Qn:=fB "need_of" "need_of" (top 24)
def NJ:Qn:=cF "need_of" 448 94 2 0 208 181 451
def GN:Qn:=fM "edgetally.fits" 446 "need_of" 24 211
def b215:Qn:=fB "room_inside" "room_inside" (top 25)
def NI:Qn:=cF "room_inside" 454 96 4 0 213 181 457
def GM:Qn:=fM "edgetally.fits" 446 "room_inside" 25 216
def b220:Qn:=fB "room_beside" "room_beside" (top 26)
def NH:Qn:=cF "room_beside" 460 99 3 0 218 181 463
def GL:Qn:=fM "edgetally.fits" 446 "room_beside" 26 221
def b225:Qn:=fB "room_of" "room_of" (top 27)
def NG:Qn:=cF "room_of" 466 101 4 0 223 181 469
def GK:Qn:=fM "edgetally.fits" 446 "room_of" 27 226
def b230:Qn:=fB "narrowest" "narrowest" (top 28)
def NF:Qn:=cF "narrowest" 472 103 3 0 228 181 475
def GJ:Qn:=fM "edgetally.fits" 446 "narrowest" 28 231
def b235:Qn:=fB "choices" "choices" (top 29)
def NE:Qn:=cF "choices" 478 105 1 0 233 181 481
def GI:Qn:=fM "edgetally.fits" 446 "choices" 29 236
def b240:Qn:=tS 487 ["rowsums","columnsums","bounds","over","into"]
def b242:Qn:=fB "check_fit" "check_fit" (top 30)
def ND:Qn:=cG "check_fit" 484 110 3 0 238 181 492
def GH:Qn:=fM "edgetally.fits" 446 "check_fit" 30 243
def b247:Qn:=tS 502 ["rowsums","wide","many"]
def b249:Qn:=fB "check_wide" "check_wide" (top 33)
def NC:Qn:=cG "check_wide" 499 117 1 0 245 181 505
def GG:Qn:=fM "edgetally.net" 495 "check_wide" 33 250
def b254:Qn:=tS 511 ["rowsums","columnsums","bounds","settled"]
def b256:Qn:=fB "settled_for_net" "settled_for_net" (top 34)
def NB:Qn:=cG "settled_for_net" 508 123 3 0 252 181 515
def GF:Qn:=fM "edgetally.net" 495 "settled_for_net" 34 257
def b261:Qn:=fB "column_fillings" "column_fillings" (top 35)
def NA:Qn:=cF "column_fillings" 518 128 4 0 259 181 521
def GD:Qn:=fM "edgetally.net" 495 "column_fillings" 35 262
def b266:Qn:=fB "rests_behind" "rests_behind" (top 36)
def Nz:Qn:=cF "rests_behind" 524 130 2 0 264 181 527
def GC:Qn:=fM "edgetally.net" 495 "rests_behind" 36 267
def b271:Qn:=fB "nodes_by_level" "nodes_by_level" (top 37)
def Ny:Qn:=cF "nodes_by_level" 530 132 3 0 269 181 533
def GB:Qn:=fM "edgetally.net" 495 "nodes_by_level" 37 272
def b276:Qn:=tS 539 ["rests","filled","behind","tables","dealings","counts","tables_behind","dealings_behind"]
def b278:Qn:=fB "node_counts" "node_counts" (top 38)
def Nx:Qn:=cG "node_counts" 536 140 3 0 274 181 547
def GA:Qn:=fM "edgetally.net" 495 "node_counts" 38 279
def b283:Qn:=fB "counted_nodes" "counted_nodes" (top 39)
def Nw:Qn:=cF "counted_nodes" 550 148 3 0 281 181 553
def FZ:Qn:=fM "edgetally.net" 495 "counted_nodes" 39 284
def b288:Qn:=⟨(.type "dict"),Po,(.dict #[(E P "__module__" 563 tx1),(E P "__qualname__" 565 (.str "Net" 564)),(E P "__firstlineno__" 567 (.int 158 566)),(eR P "__init__" 579 300),(eR P "__eq__" 587 307),(eR P "__len__" 594 314),(eR P "rowsums" 601 321),(eR P "columnsums" 608 328),(eR P "bounds" 614 333),(eR P "counts_at" 623 340),(eR P "tables" 630 347),(eR P "dealings" 637 354),(eR P "steps" 643 359),(eR P "paper" 650 366),(eR P "__static_attributes__" 655 367)] 15),#[]⟩
def b290:Qn:=nT [160,4,299,168,4,306,171,4,313,174,4,320,177,4,327,180,4,332,183,4,339,186,4,346,189,4,353,192,4,358,197,4,365]
def b291:Qn:=cC "Net" "Net" 558 158 0 0 0 0 289 Pz 181 290 .none .none .none .none 561 158 562
def b292:Qn:=⟨(.type "frame"),Po,.plain,#[(My (.ref 291)),(My (.ref 3)),(My (.ref 288)),Po,(My tx1),Po,(My (.ref 0))]⟩
def Nv:Qn:=⟨(.type "dict"),Po,(.dict #[(E P "bounds" 568 .none)] 1),#[]⟩
def b296:Qn:=tS 572 ["self","rowsums","columnsums","bounds","settled"]
def b298:Qn:=fB "__init__" "Net.__init__" (aw (top 40) 0)
def Nu:Qn:=cC "__init__" "Net.__init__" 569 160 3 0 1 3 294 Pt 181 295 .none (.ref 296) (.ref 297) (.ref 298) 577 160 578
def FY:Qn:=fO (FN "__init__" "Net.__init__" (aw (top 40) 0) .none (.ref 293) .none tx1 Po (.ref 299) .none)
def b303:Qn:=tS 583 ["self","other"]
def b305:Qn:=fB "__eq__" "Net.__eq__" (aw (top 40) 1)
def b306:Qn:=cC "__eq__" "Net.__eq__" 580 168 2 0 0 3 301 Pt 181 302 .none (.ref 303) (.ref 304) (.ref 305) 585 168 586
def b307:Qn:=fO (FN "__eq__" "Net.__eq__" (aw (top 40) 1) .none .none .none tx1 Po (.ref 306) .none)
def b310:Qn:=tS 591 ["self"]
def b312:Qn:=fB "__len__" "Net.__len__" (aw (top 40) 2)
def b313:Qn:=cC "__len__" "Net.__len__" 588 171 1 0 0 3 308 Pt 181 309 .none (.ref 310) (.ref 311) (.ref 312) 592 171 593
def b314:Qn:=fO (FN "__len__" "Net.__len__" (aw (top 40) 2) .none .none .none tx1 Po (.ref 313) .none)
def b317:Qn:=tS 598 ["self"]
def b319:Qn:=fB "rowsums" "Net.rowsums" (aw (top 40) 3)
def Nr:Qn:=cC "rowsums" "Net.rowsums" 595 174 1 0 0 3 315 Pt 181 316 .none (.ref 317) (.ref 318) (.ref 319) 599 174 600
def FX:Qn:=fO (FN "rowsums" "Net.rowsums" (aw (top 40) 3) .none .none .none tx1 Po (.ref 320) .none)
def b324:Qn:=tS 605 ["self"]
def b326:Qn:=fB "columnsums" "Net.columnsums" (aw (top 40) 4)
def Nq:Qn:=cC "columnsums" "Net.columnsums" 602 177 1 0 0 3 322 Pt 181 323 .none (.ref 324) (.ref 325) (.ref 326) 606 177 607
def FW:Qn:=fO (FN "columnsums" "Net.columnsums" (aw (top 40) 4) .none .none .none tx1 Po (.ref 327) .none)
def b331:Qn:=fB "bounds" "Net.bounds" (aw (top 40) 5)
def b332:Qn:=cC "bounds" "Net.bounds" 609 180 1 0 0 3 329 Pt 181 330 .none .none .none (.ref 331) 612 180 613
def b333:Qn:=fO (FN "bounds" "Net.bounds" (aw (top 40) 5) .none .none .none tx1 Po (.ref 332) .none)
def b336:Qn:=tS 618 ["self","level","rests"]
def b338:Qn:=fB "counts_at" "Net.counts_at" (aw (top 40) 6)
def Np:Qn:=cC "counts_at" "Net.counts_at" 615 183 3 0 0 3 334 Pt 181 335 .none (.ref 336) (.ref 337) (.ref 338) 621 183 622
def FV:Qn:=fO (FN "counts_at" "Net.counts_at" (aw (top 40) 6) .none .none .none tx1 Po (.ref 339) .none)
def b343:Qn:=tS 627 ["self"]
def b345:Qn:=fB "tables" "Net.tables" (aw (top 40) 7)
def No:Qn:=cC "tables" "Net.tables" 624 186 1 0 0 3 341 Pt 181 342 .none (.ref 343) (.ref 344) (.ref 345) 628 186 629
def FU:Qn:=fO (FN "tables" "Net.tables" (aw (top 40) 7) .none .none .none tx1 Po (.ref 346) .none)
def b350:Qn:=tS 634 ["self"]
def b352:Qn:=fB "dealings" "Net.dealings" (aw (top 40) 8)
def Nn:Qn:=cC "dealings" "Net.dealings" 631 189 1 0 0 3 348 Pt 181 349 .none (.ref 350) (.ref 351) (.ref 352) 635 189 636
def FT:Qn:=fO (FN "dealings" "Net.dealings" (aw (top 40) 8) .none .none .none tx1 Po (.ref 353) .none)
def b357:Qn:=fB "steps" "Net.steps" (aw (top 40) 9)
def Nm:Qn:=cC "steps" "Net.steps" 638 192 3 0 0 3 355 Pt 181 356 .none .none .none (.ref 357) 641 192 642
def FS:Qn:=fO (FN "steps" "Net.steps" (aw (top 40) 9) .none .none .none tx1 Po (.ref 358) .none)
def b362:Qn:=tS 647 ["self"]
def b364:Qn:=fB "paper" "Net.paper" (aw (top 40) 10)
def b365:Qn:=cC "paper" "Net.paper" 644 197 1 0 0 3 360 Pt 181 361 .none (.ref 362) (.ref 363) (.ref 364) 648 197 649
def b366:Qn:=fO (FN "paper" "Net.paper" (aw (top 40) 10) .none .none .none tx1 Po (.ref 365) .none)
def b367:Qn:=tS 651 ["column_list","counted","pairs","row_list"]
def Nl:Qn:=⟨(.type "dict"),Po,(.dict #[(E P "__module__" 563 tx1),(E P "__firstlineno__" 567 (.int 158 566)),(eR P "__init__" 579 300),(eR P "__eq__" 587 307),(eR P "__len__" 594 314),(eR P "rowsums" 601 321),(eR P "columnsums" 608 328),(eR P "bounds" 614 333),(eR P "counts_at" 623 340),(eR P "tables" 630 347),(eR P "dealings" 637 354),(eR P "steps" 643 359),(eR P "paper" 650 366),(eR P "__static_attributes__" 655 367),(eR P "__dict__" 657 370),(eR P "__weakref__" 659 371),(E P "__doc__" 660 .none),(E P "__hash__" 661 .none)] 5),#[]⟩
noncomputable def Nk:Qn:=⟨(.type "type"),Po,(.cls ⟨"Net",[(.type "object")],[(.ref 369),(.type "object")],368,"Net",Pt,[],[],Pz,Po,Pz⟩),#[Po,Po,(My (.str "Net" 556)),(My (.str "Net" 564)),(My (.builtin "object.__new__")),(My (.bool Pt))]⟩
noncomputable def b370:Qn:=⟨(.type "getset_descriptor"),Po,(.fields #[(.str "__dict__" 656),(.ref 369),(.builtin "function.__dict__"),(.builtin "function.__dict__#set")]),#[]⟩
noncomputable def b371:Qn:=⟨(.type "getset_descriptor"),Po,(.fields #[(.str "__weakref__" 658),(.ref 369),(.builtin "ExceptionGroup.__weakref__"),.none]),#[]⟩
noncomputable def b372:Qn:=⟨(.type "super"),Po,(.fields #[(.ref 369),(.ref 369),(.ref 369)]),#[]⟩
noncomputable def b373:Qn:=⟨(.type "builtin_function_or_method"),Po,(.fields #[(.builtin "object.__init_subclass__"),(.ref 369)]),#[]⟩
def b376:Qn:=tS 669 ["k","many"]
def b378:Qn:=fB "check_number" "check_number" (top 42)
def Nj:Qn:=cG "check_number" 666 200 2 0 374 181 671
def FR:Qn:=fM "edgetally.order" 664 "check_number" 42 379
def b383:Qn:=tS 677 ["net","level","rests","told","counts","tables","dealings"]
def b385:Qn:=fB "steps_counted" "steps_counted" (top 43)
def Ni:Qn:=cG "steps_counted" 674 203 3 0 381 181 684
def FQ:Qn:=fM "edgetally.order" 664 "steps_counted" 43 386
def b390:Qn:=tS 690 ["numbered","k","at"]
def b392:Qn:=fB "falls_to" "falls_to" (top 44)
def Nh:Qn:=cG "falls_to" 687 209 2 0 388 181 693
def FP:Qn:=fM "edgetally.order" 664 "falls_to" 44 393
def b397:Qn:=fB "kth_table" "kth_table" (top 45)
def Ng:Qn:=cF "kth_table" 696 215 2 0 395 181 699
def FO:Qn:=fM "edgetally.order" 664 "kth_table" 45 398
def b402:Qn:=fB "columns_asked" "columns_asked" (top 46)
def Nf:Qn:=cF "columns_asked" 702 225 2 0 400 181 705
def FM:Qn:=fM "edgetally.order" 664 "columns_asked" 46 403
def b407:Qn:=tS 711 ["net","level","rests","filling","tables_ahead","dealings_ahead","counts","tables","dealings"]
def b409:Qn:=fB "counted_ahead" "counted_ahead" (top 47)
def Nd:Qn:=cG "counted_ahead" 708 230 4 0 405 181 720
def FK:Qn:=fM "edgetally.order" 664 "counted_ahead" 47 410
def b414:Qn:=tS 726 ["net","rows","rests","first","many","level","filling"]
def b416:Qn:=fB "stretch" "stretch" (top 48)
def Nb:Qn:=cG "stretch" 723 239 2 0 412 181 733
def FJ:Qn:=fM "edgetally.order" 664 "stretch" 48 417
def b421:Qn:=fB "_law_bag" "_law_bag" (top 50)
def Na:Qn:=cF "_law_bag" 738 249 1 0 419 181 741
def FI:Qn:=fL "_law_bag" "_law_bag" 50 422
def b426:Qn:=tS 747 ["_law_bag_here","_law_lot","_law_cells","_law_at","_law_cell"]
def b428:Qn:=fB "_law_pull" "_law_pull" (top 51)
def M9:Qn:=cG "_law_pull" 744 251 2 0 424 181 752
def FH:Qn:=fL "_law_pull" "_law_pull" 51 429
def b433:Qn:=fB "_law_grid" "_law_grid" (top 52)
def M8:Qn:=cF "_law_grid" 755 261 4 0 431 181 758
def FG:Qn:=fL "_law_grid" "_law_grid" 52 434
def b438:Qn:=tS 764 ["_law_bag_here","_law_grid_here","_law_lot","_law_first"]
def b440:Qn:=fB "_law_wide" "_law_wide" (top 53)
def M7:Qn:=cG "_law_wide" 761 268 1 0 436 181 768
def FF:Qn:=fL "_law_wide" "_law_wide" 53 441
def b445:Qn:=tS 774 ["_law_bag_here","_law_way","_law_block","_law_columns"]
def b447:Qn:=fB "_law_large" "_law_large" (top 54)
def M6:Qn:=cG "_law_large" 771 274 1 0 443 181 778
def FE:Qn:=fL "_law_large" "_law_large" 54 448
def b452:Qn:=fB "_law_turned" "_law_turned" (top 55)
def M5:Qn:=cF "_law_turned" 781 285 1 0 450 181 784
def FC:Qn:=fL "_law_turned" "_law_turned" 55 453
def b457:Qn:=fB "_law_rowsums" "_law_rowsums" (top 56)
def M4:Qn:=cF "_law_rowsums" 787 287 1 0 455 181 790
def FA:Qn:=fL "_law_rowsums" "_law_rowsums" 56 458
def b462:Qn:=fB "_law_columnsums" "_law_columnsums" (top 57)
def M3:Qn:=cF "_law_columnsums" 793 289 1 0 460 181 796
def EZ:Qn:=fL "_law_columnsums" "_law_columnsums" 57 463
def b467:Qn:=fB "_law_copied" "_law_copied" (top 58)
def M2:Qn:=cF "_law_copied" 799 291 1 0 465 181 802
def EY:Qn:=fL "_law_copied" "_law_copied" 58 468
def b472:Qn:=tS 808 ["_law_one","_law_other","_law_kept"]
def b474:Qn:=fB "_law_gcd" "_law_gcd" (top 59)
def M1:Qn:=cG "_law_gcd" 805 293 2 0 470 181 811
def EX:Qn:=fL "_law_gcd" "_law_gcd" 59 475
def b479:Qn:=tS 817 ["_law_top","_law_under","_law_both"]
def b481:Qn:=fB "_law_lowest" "_law_lowest" (top 60)
def M0:Qn:=cG "_law_lowest" 814 299 2 0 477 181 820
def EW:Qn:=fL "_law_lowest" "_law_lowest" 60 482
def b486:Qn:=tS 826 ["_law_rowsums_here","_law_columnsums_here","_law_block","_law_net","_law_first","_law_behind"]
def b488:Qn:=fB "_law_share" "_law_share" (top 61)
def MZ:Qn:=cG "_law_share" 823 302 3 0 484 181 832
def EV:Qn:=fL "_law_share" "_law_share" 61 489
def b493:Qn:=tS 838 ["_law_script","_law_bag_here","_law_grid_here","_law_rowsums_here","_law_columnsums_here","_law_things","_law_net","_law_block","_law_due","_law_total","_law_at","_law_row","_law_to","_law_count","_law_less","_law_part","_law_heavy","_law_top"]
def b495:Qn:=fB "law" "law" (top 62)
def MY:Qn:=cG "law" 835 306 1 0 491 181 856
def EU:Qn:=fL "law" "law" 62 496
def h0_3:Qn:=⟨(.type "dict"),Po,(.dict (((mL P).take 9).set 0 (E P "__name__" 165 tx2)).toArray 9),#[]⟩
def O8:Qn:=nO []
def h1_3:Qn:=⟨(.type "dict"),Po,(.dict (((mL P).take 9).set 0 (E P "__name__" 165 tx2)).toArray 9),#[]⟩
def OZ:Qn:=nT [1,0,20,5,0,27,10,0,47,14,0,67,18,0,87]
def k1_3:Qn:=⟨(.type "dict"),Po,(.dict (((mL P).take 14).set 0 (E P "__name__" 165 tx0)).toArray 14),#[]⟩
noncomputable def OY:Qn:=⟨(.type "type"),Po,(.cls ⟨"EdgeError",[(.type "ValueError")],[(.ref 38),(.type "ValueError"),(.type "Exception"),(.type "BaseException"),(.type "object")],37,"EdgeError",Pt,[],[(.ref 59),(.ref 79),(.ref 98)],Pz,Po,Pz⟩),#[(My (.ref 22)),Po,(My (.str "EdgeError" 196)),(My (.str "EdgeError" 204)),(My (.builtin "ValueError.__new__")),(My (.bool Pt))]⟩
def OX:Qn:=nT [1,0,20,5,0,27,10,0,47,14,0,67,18,0,87,23,0,106,29,0,125,33,0,145,42,0,165,44,0,170,55,0,177,59,0,182,68,0,187,71,0,194]
def k2_3:Qn:=⟨(.type "dict"),Po,(.dict (((mL P).take 27).set 0 (E P "__name__" 165 (.str "edgetally.counts" 420))).toArray 27),#[]⟩
def OW:Qn:=nT [1,0,20,5,0,27,10,0,47,14,0,67,18,0,87,23,0,106,29,0,125,33,0,145,42,0,165,44,0,170,55,0,177,59,0,182,68,0,187,71,0,194,76,0,201,84,0,206,94,0,211,96,0,216,99,0,221,101,0,226,103,0,231,105,0,236,110,0,243,117,0,250,123,0,257,128,0,262,130,0,267,132,0,272,140,0,279,148,0,284]
def k3_3:Qn:=⟨(.type "dict"),Po,(.dict (((mL P).take 44).set 0 (E P "__name__" 165 tx1)).toArray 44),#[]⟩
def OV:Qn:=nT [1,0,20,5,0,27,10,0,47,14,0,67,18,0,87,23,0,106,29,0,125,33,0,145,42,0,165,44,0,170,55,0,177,59,0,182,68,0,187,71,0,194,76,0,201,84,0,206,94,0,211,96,0,216,99,0,221,101,0,226,103,0,231,105,0,236,110,0,243,117,0,250,123,0,257,128,0,262,130,0,267,132,0,272,140,0,279,148,0,284,158,0,291,200,0,379,203,0,386,209,0,393,215,0,398,225,0,403,230,0,410,239,0,417,249,0,422,251,0,429,261,0,434,268,0,441,274,0,448,285,0,453,287,0,458]
noncomputable def k4_3:Qn:=⟨(.type "dict"),Po,(.dict ((mL P).take 59).toArray 59),#[]⟩
def kL:List Qn:=[b0 P,b1 P,b2,b3 P,b4,b5,b6,b7,b8,b9,b10,b7,b12,b13,b14,b7,b8,b17,b7,b19,b20,b21,b22,b23,b24 P,b7,b26,b27,b28,b7,b8,b31,b7,b33,b34,b35,b36,b37 P,b38,b39,b40,b41,b42,b23,b44 P,b7,b46,b47,b48,b49,b7,b8,b52,b7,b54,b55,b56,b7,b58 P,b59,b60,b61,b42,b23,b64 P,b7,b66,b67,b68,b69,b7,b8,b72,b7,b74,b75,b76,b7,b78 P,b79,b80,b81,b42,b23,b84 P,b7,b86,b87,b88,b7,b8,b91,b7,b93,b94,b95,b96,b97 P,b98,b99,b100,b42,b23,b103 P,b7,b105,b106,b107,b7,b8,b110,b7,b112,b113,b114,b115,b116 P,b117,b118,b119,b42,b23,b122 P,b7,b124,b125,b126,N1,b7,b8,b130,b7,b132,N0,GX,b7,NZ P,NY,b138,b139,b42,b23,b142 P,b7,b144,b145,b146,NX,b7,b8,b150,b7,b152,NW,GW,b7,NV P,NU,b158,b159,NT,NS P,b7,b8,b164,NR,GV,b7,b8,b169,NQ,GU,b7,b8,b174,b7,b176,NP,GT,b7,b8,b181,NO,GS,b7,b8,b186,NN,GR,b7,b8,b191,b7,b193,NM,GQ,b7,b8,b198,b7,b200,NL,GP,b7,b8,b205,NK,GO,b7,b8,b210,NJ,GN,b7,b8,b215,NI,GM,b7,b8,b220,NH,GL,b7,b8,b225,NG,GK,b7,b8,b230,NF,GJ,b7,b8,b235,NE,GI,b7,b8,b240,b7,b242,ND,GH,b7,b8,b247,b7,b249,NC,GG,b7,b8,b254,b7,b256,NB,GF,b7,b8,b261,NA,GD,b7,b8,b266,Nz,GC,b7,b8,b271,Ny,GB,b7,b8,b276,b7,b278,Nx,GA,b7,b8,b283,Nw,FZ,b7,b23,b288 P,b7,b290,b291,b292,Nv P,b7,b8,b296,b7,b298,Nu,FY,b7,b8,b303,b7,b305,b306,b307,b7,b8,b310,b7,b312,b313,b314,b7,b8,b317,b7,b319,Nr,FX,b7,b8,b324,b7,b326,Nq,FW,b7,b8,b331,b332,b333,b7,b8,b336,b7,b338,Np,FV,b7,b8,b343,b7,b345,No,FU,b7,b8,b350,b7,b352,Nn,FT,b7,b8,b357,Nm,FS,b7,b8,b362,b7,b364,b365,b366,b367,Nl P,Nk,b370,b371,b372,b373,b7,b8,b376,b7,b378,Nj,FR,b7,b8,b383,b7,b385,Ni,FQ,b7,b8,b390,b7,b392,Nh,FP,b7,b8,b397,Ng,FO,b7,b8,b402,Nf,FM,b7,b8,b407,b7,b409,Nd,FK,b7,b8,b414,b7,b416,Nb,FJ,b7,b8,b421,Na,FI,b7,b8,b426,b7,b428,M9,FH,b7,b8,b433,M8,FG,b7,b8,b438,b7,b440,M7,FF,b7,b8,b445,b7,b447,M6,FE,b7,b8,b452,M5,FC,b7,b8,b457,M4,FA,b7,b8,b462,M3,EZ,b7,b8,b467,M2,EY,b7,b8,b472,b7,b474,M1,EX,b7,b8,b479,b7,b481,M0,EW,b7,b8,b486,b7,b488,MZ,EV,b7,b8,b493,b7,b495,MY,EU]
def h0H:Q0:=⟨⟨((kL P).take 11).set 3 (h0_3 P)⟩,{}⟩
def h1H:Q0:=⟨⟨(((kL P).take 15).set 3 (h1_3 P)).set 12 (O8)⟩,{}⟩
def k1H:Q0:=⟨⟨((((kL P).take 101).set 3 (k1_3 P)).set 12 (OZ)).set 38 (OY)⟩,{}⟩
def k2H:Q0:=⟨⟨(((kL P).take 196).set 3 (k2_3 P)).set 12 (OX)⟩,{}⟩
def k3H:Q0:=⟨⟨(((kL P).take 286).set 3 (k3_3 P)).set 12 (OW)⟩,{}⟩
def k4H:Q0:=⟨⟨(((kL P).take 460).set 3 (k4_3 P)).set 12 (OV)⟩,{}⟩
noncomputable def k5H:Q0:=⟨⟨kL P⟩,{}⟩
end
def KH:Xn->P6:=λP=>
[(2,b2),(3,b3 P),(34,b34),(35,b35),(37,b37 P),(38,b38),(49,b49),(55,b55),(56,b56),(58,b58 P),(59,b59),(69,b69),(75,b75),(76,b76),(78,b78 P),(79,b79),(127,N1),(133,N0),(134,GX),(136,NZ P),(137,NY),(147,NX),(153,NW),(154,GW),(156,NV P),(157,NU),(160,NT),(161,NS P),(165,NR),(166,GV),(170,NQ),(171,GU),(177,NP),(178,GT),(182,NO),(183,GS),(187,NN),(188,GR),(194,NM),(195,GQ),(201,NL),(202,GP),(206,NK),(207,GO),(211,NJ),(212,GN),(216,NI),(217,GM),(221,NH),(222,GL),(226,NG),(227,GK),(231,NF),(232,GJ),(236,NE),(237,GI),(243,ND),(244,GH),(250,NC),(251,GG),(257,NB),(258,GF),(262,NA),(263,GD),(267,Nz),(268,GC),(272,Ny),(273,GB),(279,Nx),(280,GA),(284,Nw),(285,FZ),(293,Nv P),(299,Nu),(300,FY),(320,Nr),(321,FX),(327,Nq),(328,FW),(339,Np),(340,FV),(346,No),(347,FU),(353,Nn),(354,FT),(358,Nm),(359,FS),(368,Nl P),(369,Nk),(379,Nj),(380,FR),(386,Ni),(387,FQ),(393,Nh),(394,FP),(398,Ng),(399,FO),(403,Nf),(404,FM),(410,Nd),(411,FK),(417,Nb),(418,FJ),(422,Na),(423,FI),(429,M9),(430,FH),(434,M8),(435,FG),(441,M7),(442,FF),(448,M6),(449,FE),(453,M5),(454,FC),(458,M4),(459,FA),(463,M3),(464,EZ),(468,M2),(469,EY),(475,M1),(476,EX),(482,M0),(483,EW),(489,MZ),(490,EV),(496,MY),(497,EU)]
noncomputable def aH:List PD:=[2,3,34,35,37,38,49,55,56,58,59,69,75,76,78,79,127,133,134,136,137,147,153,154,156,157,160,161,165,166,170,171,177,178,182,183,187,188,194,195,201,202,206,207,211,212,216,217,221,222,226,227,231,232,236,237,243,244,250,251,257,258,262,263,267,268,272,273,279,280,284,285,293,299,300,320,321,327,328,339,340,346,347,353,354,358,359,368,369,379,380,386,387,393,394,398,399,403,404,410,411,417,418,422,423,429,430,434,435,441,442,448,449,453,454,458,459,463,464,468,469,475,476,482,483,489,490,496,497]
theorem eH:∀P,aH=(KH P).map (·.1):=λ_=>by kernel_rfl
noncomputable def qH:Qu:={PySem.Challenge.pw_edgetally_k52_whole_thinned with main:={PySem.Challenge.pw_edgetally_k52_whole_thinned.main with body:=[top 0,top 2,top 3,top 4,top 5,top 6,top 7,top 8,top 10,top 11,top 12,top 13,top 15,top 16,top 17,top 18,top 20,top 21,top 22,top 24,top 25,top 26,top 27,top 28,top 29,top 30,top 32,top 33,top 34,top 35,top 36,top 37,top 38,top 39,top 40,top 42,top 43,top 44,top 45,top 46,top 47,top 48,top 50,top 51,top 52,top 53,top 54,top 55,top 56,top 57,top 58,top 59,top 60,top 61,top 62]}}
noncomputable abbrev lvH:List (Qz×PySem.W.WData):=[("FREE",PySem.W.WData.tuple [Xi 0,Xi 40])]
noncomputable abbrev loH:List Qz:=["BadSums","BadBounds","BadNumber","NoTable","FREE","free","Net"]
abbrev hkH:=PySem.W.kHook KH aH eH
def xtH(s:PM):Bool:=PySem.W.xlAt qH lvH s&&PySem.W.recOk (PySem.W.RowW.records (R1 (Si QA))) s
noncomputable abbrev pH:Qu:=Xp (R1 (Si QA))
noncomputable def bdH:List Q6:=PySem.W.behindTheImports pH
noncomputable def evH:WN:={scope:=pH.main.scope,locals:=mainNs,globals:=mainNs,cells:=[],code:=(.ref 13),frame:=(My 14)}
def cH:Code:= .body bdH evH
noncomputable abbrev tpH:List Frame:=[PySem.W.topFrame ⟨0,0,0,0⟩]
theorem opH(w:QH):(PySem.W.fencedOpening RH pH w 7364).map (λs=>(s.heap,s.gens,s.drawn,s.toks))=My (h0H w.params,#[],{},181):=by kernel_rfl
theorem szH(w:QH):((h0H w.params).isNs RY&&(#[]:Array GenState).size==0,(h0H w.params).objs.size,(h0H w.params).nsMap RY "__annotations__")=(Pt,11,(My (.ref 6))):=by kernel_rfl
theorem r1H(w:QH)(os:Vu):PySem.W.topGo RH pH w 11 (My (.ref 6)) 12 ⟨h0H w.params,#[],{},181,os⟩ (Y2 pH)=My (⟨h1H w.params,#[],{},187,os⟩,⟨denote RH (.body bdH evH),cH,⟨0,0,0,0⟩,tpH⟩):=by kernel_rfl
theorem r2H(w:QH)(os:Vu):TZ RH pH w 11 (My (.ref 6)) 1 1 ⟨h1H w.params,#[],{},187,os⟩ (PySem.W.blockOf bdH evH cH ⟨0,0,0,0⟩ tpH)=My (.next,⟨h1H w.params,#[],{},187,os⟩,cH,⟨0,0,0,0⟩):=by kernel_rfl
theorem c1H(w:QH)(os:Vu):TZ RH pH w 11 (My (.ref 6)) 1 995 ⟨h1H w.params,#[],{},187,os⟩ (Ua (bdH.take 6) evH cH ⟨0,0,0,0⟩ tpH)=My (.next,⟨k1H w.params,#[],{},299,os⟩,cH,⟨18,0,22,24⟩):=by kernel_rfl
theorem c2H(w:QH)(os:Vu):TZ RH pH w 11 (My (.ref 6)) 1 971 ⟨k1H w.params,#[],{},299,os⟩ (Ua ((bdH.drop 6).take 15) evH cH ⟨18,0,22,24⟩ tpH)=My (.next,⟨k2H w.params,#[],{},431,os⟩,cH,⟨71,0,75,18⟩):=by kernel_rfl
theorem c3H(w:QH)(os:Vu):TZ RH pH w 11 (My (.ref 6)) 1 477 ⟨k2H w.params,#[],{},431,os⟩ (Ua (((bdH.drop 6).drop 15).take 19) evH cH ⟨71,0,75,18⟩ tpH)=My (.next,⟨k3H w.params,#[],{},556,os⟩,cH,⟨148,0,157,112⟩):=by kernel_rfl
theorem c4H(w:QH)(os:Vu):TZ RH pH w 11 (My (.ref 6)) 1 986 ⟨k3H w.params,#[],{},556,os⟩ (Ua ((((bdH.drop 6).drop 15).drop 19).take 17) evH cH ⟨148,0,157,112⟩ tpH)=My (.next,⟨k4H w.params,#[],{},793,os⟩,cH,⟨287,0,288,57⟩):=by kernel_rfl
theorem c5H(w:QH)(os:Vu):TZ RH pH w 11 (My (.ref 6)) 1 195 ⟨k4H w.params,#[],{},793,os⟩ (Ua (((((bdH.drop 6).drop 15).drop 19).drop 17).take 6) evH cH ⟨287,0,288,57⟩ tpH)=My (.next,⟨k5H w.params,#[],{},859,os⟩,cH,⟨306,0,328,62⟩):=by kernel_rfl
theorem e0H:(((((bdH.drop 6).drop 15).drop 19).drop 17).drop 6)=[]:=by kernel_rfl
theorem r9H(w:QH)(os:Vu):Zi RH pH w 11 (My (.ref 6)) 2 ⟨k5H w.params,#[],{},859,os⟩ ⟨PySem.W.doneF .next,cH,⟨306,0,328,62⟩,tpH⟩=My ⟨k5H w.params,#[],{},859,os⟩:=by kernel_rfl
theorem rnH(w:QH)(os:Vu):Zi RH pH w 11 (My (.ref 6)) (12+(1+(995+(971+(477+(986+(195+2))))))) ⟨h0H w.params,#[],{},181,os⟩ (Y2 pH)=My ⟨k5H w.params,#[],{},859,os⟩:=PySem.W.go_top (r1H w os) (PySem.W.piece_block (r2H w os) (i8 6 (c1H w os) (i8 15 (c2H w os) (i8 19 (c3H w os) (i8 17 (c4H w os) (i8 6 (c5H w os) (DZ e0H (r9H w os))))))))
theorem hlH:PySem.W.LeftO pH qH loH xtH (PySem.W.Hook.obs hkH) (PySem.W.Hook.val hkH) 7364:=PySem.W.LeftO.of_pieces (H₀:=h0H) (H₁:=k5H) opH szH rnH (by decide +kernel) λw=>by kernel_rfl
theorem wsH:PySem.W.OpenLaw.wellSaid QA=Pt:=by decide +kernel
theorem okH:(PySem.W.chainsOk qH&&PySem.W.opensWell (Xp (R1 (Si QA)))&&(PySem.W.frees (R1 (Si QA))&&(PySem.W.RowW.within (R1 (Si QA))).isEmpty))=Pt:=by decide +kernel
abbrev adH:Ad:={Aa:=38,Ab:=35,Ac:=fD b35,Ae:=59,Af:=56,Ag:=fD b56,Ah:=79,Ai:=76,Aj:=fD b76,Ak:=137,Al:=134,Am:=fD GX,An:=157,Ao:=154,Aq:=fD GW,Ar:=369,As:=166,At:=fD GV,Au:=171,Av:=fD GU,Aw:=178,Ax:=fD GT,Ay:=183,Az:=fD GS,A0:=188,A1:=fD GR,A2:=195,A3:=fD GQ,A4:=202,A5:=fD GP,A6:=207,A7:=fD GO,A8:=212,A9:=fD GN,Ba:=217,Bb:=fD GM,Bc:=222,Bd:=fD GL,Be:=227,Bf:=fD GK,Bh:=232,Bi:=fD GJ,Bj:=237,Bk:=fD GI,Bl:=244,Bm:=fD GH,Bn:=251,Bo:=fD GG,Bp:=258,Bq:=fD GF,Br:=263,Bs:=fD GD,Bt:=268,Bu:=fD GC,Bv:=273,Bw:=fD GB,Bx:=280,By:=fD GA,Bz:=285,B0:=fD FZ,B5:=380,B7:=fD FR,B8:=387,Ca:=fD FQ,Cb:=394,Cc:=fD FP,Cd:=399,Cf:=fD FO,Cg:=404,Ch:=fD FM,Ci:=411,Cj:=fD FK,Ck:=418,Cl:=fD FJ,Cm:=423,Cn:=fD FI,Co:=430,Cp:=fD FH,Cq:=435,Cr:=fD FG,Cs:=442,Ct:=fD FF,Cu:=449,Cv:=fD FE,Cw:=454,Cy:=fD FC,Cz:=459,C0:=fD FA,C2:=464,C3:=fD EZ,C4:=469,C5:=fD EY,C6:=476,C7:=fD EX,C8:=483,C9:=fD EW,Da:=490,Db:=fD EV,Dc:=300,Dd:=fD FY,Df:=347,Dg:=fD FU,Dh:=340,Di:=fD FV,Dj:=321,Dl:=fD FX,Dm:=328,Do:=fD FW,Dp:=359,Dq:=fD FS,Dr:=354,Dt:=fD FT,Du:=497,Dv:=fD EU}
section
variable{P:Xn}{h:Q0}{mg:Qz->Option PH}
theorem fH{x q:Qz}{s:Q6}{f:PD}{a b d e cd ct:PH}{g:Option PD}(l:(KH P).lookup f=My (fO (FN x q s a b d e g cd ct)):=by kernel_rfl)(c:UB (KH P) cd q=Pt:=by kernel_rfl)(k:Vl (KH P) (.ref f)=Pt:=by kernel_rfl):FunD (KH P) x q s f (FN x q s a b d e g cd ct):=KV l c k
theorem mO(X:(KH P).In h)(G:h.Ns RY mg){n:Qz}{v:PH}(e:PySem.W.nsIn (KH P) RY n=My (My v):=by kernel_rfl):mg n=My v:=mg_of X G e
theorem mN(X:(KH P).In h)(G:h.Ns RY mg){n:Qz}(e:PySem.W.nsIn (KH P) RY n=My Po:=by kernel_rfl):mg n=Po:=PySem.W.mg_none_of X G e
theorem nH(X:(KH P).In h)(G:h.Ns RY mg):Fns (KH P) mg adH where
 Dw:=mN X G
 Dx:=mN X G
 Dy:=mN X G
 Dz:=mN X G
 D0:=mN X G
 D3:=mN X G
 D4:=mN X G
 D5:=mN X G
 D6:=mN X G
 D7:=mN X G
 D8:=mN X G
 D9:=mN X G
 Ea:=mN X G
 Eb:=mN X G
 Ec:=mN X G
 Ed:=pL (u:=(.int 40 378)) (mO X G) mh
 Ee:=pL (u:=(.int 6 382)) (mO X G) mh
 Ef:=pL (u:=(.int 4 380)) (mO X G) mh
 Eg:=pL (u:=(.int 500 497)) (mO X G) mh
 Eh:=fH
 Ei:=mO X G
 Ej:=AL (us:=[(.ref 160)]) 2 rfl (λs us b a=>by obtain⟨c,d,rfl⟩:=lU2 a;exact YH b λS=>by kernel_rfl) (wt (JF (p:=160) (q1:=(.type "tuple")) (q2:=Po) (q3:=#[(.int 0 384),(.int 40 378)]) (q4:=0) (q5:=#[]) (by kernel_rfl) rfl (by decide) (by repeat (first|exact trivial|refine⟨rfl,?_⟩))) AH)
 Ek:=fH
 El:=mO X G
 Em:= .all (bA2 λ_ _=>rfl)
 En:=fH
 Eo:=mO X G
 Ep:= .all (bA1 λ_=>rfl)
 Er:=fH
 Es:=mO X G
 Et:= .all (bA3 λ_ _ _=>rfl)
 Eu:=fH
 Ev:=mO X G
 Ew:= .all (bA1 λ_=>rfl)
 Ex:=fH
 Ey:=mO X G
 Ez:= .all (bA1 λ_=>rfl)
 E2:=fH
 E3:=mO X G
 E4:= .all (bA1 λ_=>rfl)
 E5:=fH
 E6:=mO X G
 E7:= .all (bA3 λ_ _ _=>rfl)
 E8:=fH
 E9:=mO X G
 Fa:= .all (bA2 λ_ _=>rfl)
 Fb:=fH
 Fc:=mO X G
 Fd:= .all (bA4 λ_ _ _ _=>rfl)
 Fe:=fH
 Ff:=mO X G
 Fg:= .all (bA3 λ_ _ _=>rfl)
 Fh:=fH
 Fi:=mO X G
 Fj:= .all (bA4 λ_ _ _ _=>rfl)
 Fk:=fH
 Fl:=mO X G
 Fm:= .all (bA3 λ_ _ _=>rfl)
 Fn:=fH
 Fo:=mO X G
 Fp:= .all (bA1 λ_=>rfl)
 Fq:=fH
 Fs:=mO X G
 Ft:= .all (bA3 λ_ _ _=>rfl)
 Fu:=fH
 Fw:=mO X G
 Fy:= .all (bA1 λ_=>rfl)
 Fz:=fH
 F4:=mO X G
 F5:= .all (bA3 λ_ _ _=>rfl)
 F6:=fH
 F7:=mO X G
 F8:= .all (bA4 λ_ _ _ _=>rfl)
 F9:=fH
 Ga:=mO X G
 Gb:= .all (bA2 λ_ _=>rfl)
 Gc:=fH
 Gd:=mO X G
 Ge:= .all (bA3 λ_ _ _=>rfl)
 Gf:=fH
 Gg:=mO X G
 Gh:= .all (bA3 λ_ _ _=>rfl)
 Gi:=fH
 Gj:=mO X G
 Gk:= .all (bA3 λ_ _ _=>rfl)
 Gm:=fH
 Gn:=mO X G
 Go:= .all (bA2 λ_ _=>rfl)
 Gp:=fH
 Gq:=mO X G
 Gr:= .all (bA3 λ_ _ _=>rfl)
 Gs:=fH
 Gu:=mO X G
 Gv:= .all (bA2 λ_ _=>rfl)
 Gx:=fH
 Gy:=mO X G
 Gz:= .all (bA2 λ_ _=>rfl)
 G0:=fH
 G1:=mO X G
 G2:= .all (bA2 λ_ _=>rfl)
 G3:=fH
 G4:=mO X G
 G5:= .all (bA4 λ_ _ _ _=>rfl)
 G6:=fH
 G7:=mO X G
 G8:= .all (bA2 λ_ _=>rfl)
 G9:=fH
 Ha:=mO X G
 Hb:= .all (bA1 λ_=>rfl)
 Hc:=fH
 Hd:=mO X G
 He:= .all (bA2 λ_ _=>rfl)
 Hf:=fH
 Hg:=mO X G
 Hh:= .all (bA4 λ_ _ _ _=>rfl)
 Hi:=fH
 Hj:=mO X G
 Hk:= .all (bA1 λ_=>rfl)
 Hl:=fH
 Hm:=mO X G
 Hn:= .all (bA1 λ_=>rfl)
 Ho:=fH
 Hq:=mO X G
 Hr:= .all (bA1 λ_=>rfl)
 Ht:=fH
 Hu:=mO X G
 Hv:= .all (bA1 λ_=>rfl)
 Hw:=fH
 Hx:=mO X G
 Hy:= .all (bA1 λ_=>rfl)
 Hz:=fH
 Ia:=mO X G
 Ib:= .all (bA1 λ_=>rfl)
 Id:=fH
 Ie:=mO X G
 Ig:= .all (bA2 λ_ _=>rfl)
 Ih:=fH
 Ii:=mO X G
 Ij:= .all (bA2 λ_ _=>rfl)
 Ik:=fH
 Il:=mO X G
 Im:= .all (bA3 λ_ _ _=>rfl)
 Io:=fH
 Ip:=⟨by kernel_rfl,by kernel_rfl,by kernel_rfl,by kernel_rfl⟩
 Iq:=AL (us:=[.none]) 3 rfl (λs us b a=>by obtain⟨c,d,e,rfl⟩:=lU3 a;exact YH b λS=>by kernel_rfl) (wt JG AH)
 Ir:=fH
 Iu:=⟨by kernel_rfl,by kernel_rfl,by kernel_rfl⟩
 Iw:= .all (bA1 λ_=>rfl)
 Ix:=fH
 Iy:=⟨by kernel_rfl,by kernel_rfl,by kernel_rfl⟩
 Iz:= .all (bA3 λ_ _ _=>rfl)
 I0:=fH
 I9:=⟨by kernel_rfl,by kernel_rfl,by kernel_rfl⟩
 Ja:= .all (bA1 λ_=>rfl)
 Jb:=fH
 Jc:=⟨by kernel_rfl,by kernel_rfl,by kernel_rfl⟩
 Jd:= .all (bA1 λ_=>rfl)
 Je:=fH
 Jf:=⟨by kernel_rfl,by kernel_rfl,by kernel_rfl⟩
 Jg:= .all (bA3 λ_ _ _=>rfl)
 Jh:=fH
 Ji:=⟨by kernel_rfl,by kernel_rfl,by kernel_rfl⟩
 Jj:= .all (bA1 λ_=>rfl)
 Jk:=⟨by kernel_rfl,by kernel_rfl,by kernel_rfl,by kernel_rfl⟩
 Jl:=mO X G
 Jm:=show R3 (KH P) _ _=_ by kernel_rfl
 Jn:=show R3 (KH P) _ _=_ by kernel_rfl
 Jo:=show R3 (KH P) _ _=_ by kernel_rfl
 Jp:=show R3 (KH P) _ _=_ by kernel_rfl
 Jq:=fH
 Jr:= .all (bA3 λ_ _ _=>rfl)
 Js:=mO X G
 Jt:=fH
 Ju:=λs us b a=>by rw[Qx]at a;obtain⟨_,_,rfl⟩:=lU2 a;exact Us (T:=49) rfl (b _ _ (show(KH P).lookup 49=My (tS 236 ["these sums are no table's"]) by kernel_rfl)) rfl rfl rfl
 Jv:=mO X G
 Jw:=⟨rX (N:=58) (nm:="BadSums") (q:="BadSums") (bs:=[(.ref 38)]) (bm:=[(.ref 38),(.type "ValueError"),(.type "Exception"),(.type "BaseException"),(.type "object")]) (hdct:=Pt) (sn:=[]) (sub:=[]) (ab:=Pz) (col:=Po) (dd:=Po) (k0:=(My (.ref 42))) (k1:=Po) (k2:=(My (.str "BadSums" 224))) (k3:=(My (.str "BadSums" 232))) (k5:=(My (.bool Pt))) (cd:=⟨"BadSums",[(.ref 38)],[(.ref 59),(.ref 38),(.type "ValueError"),(.type "Exception"),(.type "BaseException"),(.type "object")],58,"BadSums",Pt,[],[],Pz,Po,Pz⟩) (by kernel_rfl) (by kernel_rfl) (by kernel_rfl) (by kernel_rfl),by kernel_rfl,by kernel_rfl,by kernel_rfl⟩
 Jx:=by kernel_rfl
 Jy:=fH
 Jz:=λs us b a=>by rw[Qx]at a;obtain⟨_,_,rfl⟩:=lU2 a;exact Us (T:=69) rfl (b _ _ (show(KH P).lookup 69=My (tS 261 ["these bounds are no table's"]) by kernel_rfl)) rfl rfl rfl
 J0:=mO X G
 J1:=⟨rX (N:=78) (nm:="BadBounds") (q:="BadBounds") (bs:=[(.ref 38)]) (bm:=[(.ref 38),(.type "ValueError"),(.type "Exception"),(.type "BaseException"),(.type "object")]) (hdct:=Pt) (sn:=[]) (sub:=[]) (ab:=Pz) (col:=Po) (dd:=Po) (k0:=(My (.ref 62))) (k1:=Po) (k2:=(My (.str "BadBounds" 249))) (k3:=(My (.str "BadBounds" 257))) (k5:=(My (.bool Pt))) (cd:=⟨"BadBounds",[(.ref 38)],[(.ref 79),(.ref 38),(.type "ValueError"),(.type "Exception"),(.type "BaseException"),(.type "object")],78,"BadBounds",Pt,[],[],Pz,Po,Pz⟩) (by kernel_rfl) (by kernel_rfl) (by kernel_rfl) (by kernel_rfl),by kernel_rfl,by kernel_rfl,by kernel_rfl⟩
 J2:=by kernel_rfl
 J3:=fH
 J4:=λs us b a=>by rw[Qx]at a;obtain⟨_,_,rfl⟩:=lU2 a;exact Us (T:=127) rfl (b _ _ (show(KH P).lookup 127=My (tS 338 ["this number is out of its bounds"]) by kernel_rfl)) rfl rfl rfl
 J5:=mO X G
 J6:=⟨rX (N:=136) (nm:="BadNumber") (q:="BadNumber") (bs:=[(.ref 38)]) (bm:=[(.ref 38),(.type "ValueError"),(.type "Exception"),(.type "BaseException"),(.type "object")]) (hdct:=Pt) (sn:=[]) (sub:=[]) (ab:=Pz) (col:=Po) (dd:=Po) (k0:=(My (.ref 120))) (k1:=Po) (k2:=(My (.str "BadNumber" 326))) (k3:=(My (.str "BadNumber" 334))) (k5:=(My (.bool Pt))) (cd:=⟨"BadNumber",[(.ref 38)],[(.ref 137),(.ref 38),(.type "ValueError"),(.type "Exception"),(.type "BaseException"),(.type "object")],136,"BadNumber",Pt,[],[],Pz,Po,Pz⟩) (by kernel_rfl) (by kernel_rfl) (by kernel_rfl) (by kernel_rfl),by kernel_rfl,by kernel_rfl,by kernel_rfl⟩
 J7:=by kernel_rfl
 J8:=fH
 J9:=λs us b a=>by rw[Qx]at a;obtain⟨_,_,rfl⟩:=lU2 a;exact Us (T:=147) rfl (b _ _ (show(KH P).lookup 147=My (tS 363 ["the net has no such table"]) by kernel_rfl)) rfl rfl rfl
 Ka:=mO X G
 Kb:=⟨rX (N:=156) (nm:="NoTable") (q:="NoTable") (bs:=[(.ref 38)]) (bm:=[(.ref 38),(.type "ValueError"),(.type "Exception"),(.type "BaseException"),(.type "object")]) (hdct:=Pt) (sn:=[]) (sub:=[]) (ab:=Pz) (col:=Po) (dd:=Po) (k0:=(My (.ref 140))) (k1:=Po) (k2:=(My (.str "NoTable" 351))) (k3:=(My (.str "NoTable" 359))) (k5:=(My (.bool Pt))) (cd:=⟨"NoTable",[(.ref 38)],[(.ref 157),(.ref 38),(.type "ValueError"),(.type "Exception"),(.type "BaseException"),(.type "object")],156,"NoTable",Pt,[],[],Pz,Po,Pz⟩) (by kernel_rfl) (by kernel_rfl) (by kernel_rfl) (by kernel_rfl),by kernel_rfl,by kernel_rfl,by kernel_rfl⟩
 Kc:=by kernel_rfl
 Kd:=⟨by kernel_rfl,by kernel_rfl,by kernel_rfl,by kernel_rfl⟩
end
theorem wlkH:PySem.W.WalkO qH loH (PySem.W.XL qH lvH) (PySem.W.Hook.says hkH) (R1 (Si QA)) (Option.get (PySem.W.defOf qH "law") rfl).1 [] (λf vs=>YI f vs):=
 L2.walk_of (n:=63) (k:=10) (x:="_law_script") (CX:=λw=>CXE _ w) (sp:=λw=>HY (KH w.params)) rfl (by decide) rfl ⟨rfl,by decide,by decide,rfl⟩ (λw h Y=>PySem.W.kIn_of Y) (λw mg i h c G b=>by
  have e:=b.symm.trans (mg_of c G (v:= .ref 497) (by kernel_rfl));cases e;exact⟨FN "law" "law" (top 62) .none .none .none (.str "law_edgetally_k52_whole_thinned" 736) Po (.ref 496) .none,λs v=> .of_eq rfl,λbase _ _=>Mi _ _ _ (a:=adH) (fH (by kernel_rfl) (by kernel_rfl) (by kernel_rfl)) (nH c G) λβ ok=>DO (K:=KH w.params) (a:=adH)  β ok⟩) (λ_ _ a ns d _ g=>⟨a,ns,rfl,g,d,λ_=>rfl⟩) λ_ _ _ _ _ h=>by obtain⟨x,C,j,_,fl⟩:=h;obtain⟨_,_,z⟩:=fl.wish;all_goals exact z
end Law
open PySem PySem.W PyProof.Rows
set_option maxHeartbeats 0 in
theorem PySem.Challenge.cw_edgetally_k52_whole_thinned_holds : PySem.Challenge.rw_edgetally_k52_whole_thinned.Holds := by
 w_on
 refine holds_law Law.wsH λsaid=>?_;refine holds_open (q:=Law.qH) (loose:=Law.loH) (Xt:=Law.xtH) (XP:=XL Law.qH Law.lvH) (Yf:=Hook.obs Law.hkH) (Ya:=Hook.val Law.hkH) (YP:=Hook.says Law.hkH) (N:=7364) Law.hlH (Hook.of Law.hkH) (Hook.keeps Law.hkH) (λs e=>xl_of s (Ym.mp e).1) XL.keeps (by rfl) (by rfl) (by rfl) (λs e=>recFacts_of (Ym.mp e).2) (by rfl) said Law.okH ⟨rfl,rfl,rfl,rfl,rfl,by decide +kernel⟩ ?hw ?hc
 case hw=>w_witness2
 exact Law.wlkH
