import PyProof.Rows.All
import Wide.All
import OpenK.AllK
import Wide.FinOn
import Lean
import PyProof.EqAt
import PyProof.EqKinds
import PyProof.TupleCall
import PyProof.NsDelKeeps
import PyProof.ListRange
import PyProof.ExcArgsOwn
import PySem.Challenge.RW_edgetally_k26_dealings_by_number
set_option Elab.async false
set_option linter.all false
set_option genSizeOf false
set_option compiler.extract_closed false
set_option bootstrap.genMatcherCode false
set_option maxHeartbeats 8000000
set_option maxRecDepth 100000
noncomputable section
open And renaming intro→XB
open Array renaming length_toList→QK,getElem?_eq_some_iff→Ri,getD→SV,getElem?_eq_none→S9,getElem?_toList→Tj,forIn_toList→T5,getElem_toList→Ut,getElem?_eq_getElem→U3,getElem?_extract→Xu,getElem?_push→Yd,append_assoc→Yn,size_extract→Yo,toList_push→YK
open Bool renaming true→PP,false→PU,false_ne_true→P8,false_eq_true→Qd,and_eq_true→QI,not_true→Ry,not_false→SH,true_and→T1,false_and→Ui,and_self→Uu,eq_iff_iff→VL,and_eq_true_iff→Ye
open Classical renaming byContradiction→UI
open Except renaming ok→R6
open False renaming elim→SG
open ForInStep renaming yield→Vk
open Function renaming comp→U1
open Int renaming toNat_natCast→Rz,zero_add→TN,emod_nonneg→UJ,emod_lt_of_pos→U6,fdiv_eq_ediv_of_nonneg→U7,natCast_add→VQ,natAbs_natCast→Wf,le_refl→Ys
open List renaming length_map→PF,getElem?_eq_getElem→PM,mem_cons_of_mem→PN,getD_eq_getElem?_getD→PR,getElem?_map→PV,mem_cons_self→PZ,map_map→P3,range→P4,getElem?_eq_some_iff→P9,length_cons→Qa,map_cons→Qb,mem_map→Qc,mem_cons→Qf,length_append→Qh,mem_of_getElem?→Ql,replicate→Qm,size_toArray→Qo,mem_range→Qq,length_range→Qr,sum_cons→Qw,map_congr_left→Qx,append_nil→QC,map_append→QG,mem_singleton→QH,replicate_succ→QL,getElem_mem→QO,drop_eq_getElem_cons→QT,length_singleton→QU,mem_append_right→QV,nodup_cons→QW,flatMap_cons→QZ,map→Q2,length_set→Q3,append_assoc→Q9,getElem?_set→Ra,getElem?_range→Rf,length_take→Rp,nil_append→Rq,length_replicate→Ru,not_mem_nil→Rx,take_of_length_le→RA,cons_append→RF,map_nil→RG,getElem?_append_right→RK,sum→RM,mem_append→RN,mem_flatMap→RO,take_length→RP,filterMap_cons→RU,drop_eq_nil_of_le→R3,flatMap_append→R4,mem_or_eq_of_mem_set→R5,ext_getElem→Sa,map_flatMap→Sb,mem_replicate→Sc,set_cons_succ→Sd,set_cons_zero→Se,zip_cons_cons→Sf,getElem?_replicate→Sw,length_nil→Sx,mem_filter→Sy,getD_cons_succ→SC,getD_cons_zero→SD,take_append_drop→SJ,getElem?_append_left→SM,pairwise_iff_getElem→SN,flatten_cons→SS,mem_append_left→SU,replicate_zero→SZ,drop_length→S3,filter_cons→S4,getElem_map→S5,length_eq_zero_iff→S6,getElem_range→Ta,map_replicate→Tc,find?_cons→Tg,forIn_cons→Th,range_succ→Ti,forIn_nil→Tv,mem_of_mem_take→Tw,all_eq_true→TH,exists_cons_of_length_eq_add_one→TL,length_zip→T7,pairwise_cons→Ub,flatMap_eq_nil_iff→Ud,pairwise_singleton→Ue,take_add_one→Uj,getElem?_eq_none→Ur,flatMap_map→Us,any_cons→Uw,map_drop→Ux,map_take→Uy,lookup→UF,filter_sublist→UK,map_set→UR,zipWith→US,mem_filterMap→U2,getElem?_eq_none_iff→Vb,pairwise_map→Vf,reverse_cons→Vg,all_cons→Vl,flatMap_nil→Vv,lookup_cons→Vw,nodup_range→Vx,getElem?_toArray→VS,drop_zero→VW,getElem?_append→VX,length→VY,map_id→VZ,take_zero→V0,getElem_of_mem→V6,length_zipWith→V7,map_inj_right→We,nodup_append→Wr,zip_nil_left→Ws,length_drop→WB,take_append_of_le_length→WG,filter_map→WO,of_mem_zip→WP,sum_append→WQ,getElem?_take_of_lt→Xm,getElem?_cons_succ→Xw,filter_eq_nil_iff→XH,flatMap→XI,getElem?_set_self→XJ,range_succ_eq_map→XM,getElem?_zipWith→XO,getElem?_set_ne→Yi,getElem_reverse→Yj,filter_flatMap→Yt,length_reverse→Yu,foldl→YN,getElem?_drop→YO,any_eq_false→Za,ext_getElem?→Zb,filter_congr→Zc
open List.Pairwise renaming nil→VM
open List.Perm renaming of_eq→Wg
open List.Sublist renaming refl→VR
open List.cons renaming injEq→TK,inj→YM
open Max renaming max→Y6
open Min renaming min→Tq
open Nat renaming le_refl→P5,le_trans→Qg,lt_of_lt_of_le→Qv,lt_irrefl→Q4,ne_of_lt→Q5,zero_add→Q6,zero_le→Rr,lt_of_le_of_lt→Sj,mul_comm→Sn,sub_self→Ss,not_lt_zero→Sz,le_add_right→S7,ne_of_gt→Te,lt_trichotomy→Ts,pow_le_pow_right→TC,mul_assoc→T8,mul_left_comm→Ul,mul_le_mul_right→UG,lt_or_ge→UX,lt_trans→UY,le_succ→Vm,lt_succ_of_lt→Vn,add_sub_cancel_left→VA,le_mul_of_pos_right→VB,lt_succ_self→VC,le_of_lt→VN,add_comm→Ww,sub_zero→Wx,add_mul→WS,div_le_self→WX,strongRecOn→WY,add_le_add→Xd,mod_lt→Xe,add_zero→XQ,div_div_eq_div_mul→XR,min_self→XS,zero_mul→XT,div_lt_of_lt_mul→Yv,mul_add→Yw,one_mul→Yx,add_le_add_left→YR,mul_le_mul_left→YS
open Option renaming some→on,none→PH,map_some→Rb,bind_some→Rw,map_none→TW,map_eq_some_iff→Vy,isSome_iff_exists→W9,getD_none→YT,getD_some→YU
open Option.some renaming inj→QB,injEq→Xn
open Or renaming inl→RT,inr→SF
open Prod renaming ext→T4,ext_iff→UT
open Pure renaming pure→SB
open PyProof renaming noPylong_of_log2→WZ
open PyProof.Rows renaming callWith_type1→RB,seqObj→TF,envOfC→Uz,AllBare→Vd,listUpdate_at→VP,subscriptTail_builtinR→V3,IntsAre→XG,subscriptTail→YH
open PySem renaming wpAny_bind→My,wpAny_pure→PL,Addr→PX,Value→PY,Shared→P7,starEach→Qe,wpAny→Qi,sizeLine→Qk,FuncData→Qt,Obj→Qy,model→QA,Program→QD,Str→QN,World→QS,foldedSetIterable→Q0,wpAny_call_entry→Q1,wpAny_mono→Q7,SetTable→Q8,Around→Rg,Stmt→Rh,wpAny_truthy_bool→Rj,eval→Rk,Heap→Rl,compareOp→Ro,wpAny_newObj_type→Rt,mem_of_lookup→Rv,wpAny_field→RC,wpAny_setField_rec→RE,wpAny_holding→RH,Comprehension→RQ,cellsFrom→RW,treeTable→RY,wpAny_setState_of→RZ,wpAny_seqItems→R1,keywordEach→Sg,mainGlobals→Sh,sizeLine_eq→Si,backTo→SA,wpAny_standAt→SK,wpAny_isInstance→SL,binaryOp→SR,wpAny_specialOf→SX,wpAny_comprehension_free→S8,IsPair→Td,wpAny_typeNameOfWhole_itemiter→Tf,backToKw→Tt,wpAny_passesOwn→Tu,NameKind→TV,sliceBounds→TY,wpAny_of_eq→TZ,wpAny_rule→T0,DictEntry→T6,bootBuiltins→T9,standAt→Ua,wpAny_typeNameOf_itemiter→Uc,attributeBase→Uh,codeAny→Uk,firstArgMember→UA,holding→UB,pyNext→UC,rawInt→UD,wpAny_setField→UE,Pos→UL,swapsWith→UP,wpAny_askSetting→UQ,behindInMarks→UV,wpAny_attempt→UW,assign→U9,letOwnedTupleGo→Va,codeAny_mono→Vi,IsItemIter→Vo,Fin→Vq,cLine→Vr,isSubtype_type→Vs,wpAny_Call_Name_kw→Vu,IsZip→VD,Keyword→VE,OsState→VF,wpAny_pyIter_list→VI,wpAny_pyIter_slot→VJ,wpAny_forIn_list→VU,assignEach→V1,intKind→V2,wpAny_isOneOf_itemiter→V4,wpAny_pyIter_rangeiter→V5,wpAny_execs_nil→V8,builtinLookup_eq_fast→Wb,isSubtype_tuple_tuple→Wc,Within→Wh,pyIter→Wl,wpAny_fieldsOf→Wm,wpAny_updateSeq_pair→Wn,BindsTo→Wo,getMethod→Wt,wpAny_setEntries_of→WA,wpAny_onRaise→WD,Paired→WH,isInstance→WI,sysModules→WJ,wpAny_pyIter_tuple→WK,wpAny_tupleItemsOf→WL,Env→WV,call→W0,callerA→W1,ofAClassStatement→W2,searchCouldBeSeen→W4,wpAny_assign_Name→W5,wpAny_dictEntries→W6,Params→Xf,noFill_tuple_add→Xh,pickOrder→Xi,Draws→Xj,IsRangeIter→Xl,again→Xq,atKey→Xr,wpAny_letGo→Xs,codeAny_builtin→Xy,typeLookup_type→Xz,wpAny_dictEpoch→XA,PyData→XU,builtinsNs→XZ,call_meets→X0,compPost→X2,entryFor_alias→X3,intItems→X4,isSubtype_stop→X5,newFunctionEnv→X7,setField→X9,wpAny_newTuple→Yc,call→YE,evalPart_none→YF,seq_tuple_add→YG,wpAny_getItem_list_slice→YI,wpAny_handled→YJ,PassesOwn→YV,list_append→YZ,bindC→Y1,bindL→Y2,eqIsQuiet→Y3,field→Y4,lastMarks→Y5,slicePick→Y7,newExc→Zi,seqIndex_neg→Zj,wpAny_Call_method_late→Zk,wpAny_pyNext_range_end→Zl
open PySem.Around renaming under→Wd,under_plainId→XD
open PySem.Builtin.Dict renaming showsAll→WE
open PySem.Builtin.Dict_items renaming ownsTuple→T3,ownedTupleFields→U4,ownedTupleIsFree→U5,pairFromOwner→Vj
open PySem.Builtin.Int renaming intBits→W7
open PySem.Builtin.List renaming listTooLong→UH,listExtendWith→V9,listSameRef→Wp
open PySem.Builtin.Range renaming rangeFitsLong→Rm,rangeSize→Wq
open PySem.Builtin.SmallTypes renaming nextOf→R0,ownedTupleIsFree→R7,ownedTupleHandOut→UZ,refuseKeywords→Ve
open PySem.Builtin.Tuple renaming tupleHashOf→Uv
open PySem.Calls renaming callWith_builtin→Vz,Name_function_global→WU,evalArgs_plain→XN,spliced_cons→Yp,spliced_nil→YL
open PySem.Challenge renaming rw_edgetally_k26_dealings_by_number→QJ
open PySem.Code renaming isFrame→XE
open PySem.Draws renaming list→Yq
open PySem.F renaming slot_dict_itemiterator_next→RX,slot_list_append→R8,type_list_append→R9,plainAttrs_list→Sv,slot_tuple_iterator_next→TM,args_tuple_add_2→U8,entry_tuple_add→Vh,slot_tuple_add→Vp,slot_zip_next→VV,args_dict_itemiterator_next_1→WM,entry_dict_itemiterator_next→WW,slot_dict_itemiterator_iter→W8,plainAttrs_dict→Xa,args_tuple_iterator_next_1→Xc,entry_tuple_iterator_next→Xk,slot_dict_get→Xo,slot_dict_items_iter→Yr,args_list_append_2→Y8
open PySem.Heap renaming get?_push_of_some→PQ,get?_push_size→Qj,lt_size→Qz,SameBut→QE,size_push→RJ,get?_update_ne→SY,get?_update_self→Tp,ExtBut→WF,get?_update_other→XF,get?_none_of_le→Yg,get?_push_ne→Y9
open PySem.Heap.IsSliceOf renaming new→WN
open PySem.Heap.SameBut renaming update→RI
open PySem.IntMulOk renaming of_bits→Yh
open PySem.IsTupleKey renaming typeIs→Xv
open PySem.Manifest renaming find?→YQ
open PySem.NameKind renaming free→SO,cell→WR
open PySem.Obj renaming mapSeq→RV,data_mapFields→Sk,putSet→VO,isFreed_of_fields→VT,cls_mapFields→Wz
open PySem.P renaming add_list→Yz
open PySem.PyData renaming depth→Tx,eqv→UU,eqvAll→Vc,depthAll→WC,canLayAll0→Yy
open PySem.SeqAt renaming shaped→UN
open PySem.SetTable renaming fits→WT,fresh→Y0
open PySem.Str renaming ofString→Su,empty→TR
open PySem.Value renaming ref→Qs,none→Rc,type→SW,int→TD,bool→Wa,isInt_shape→Wj,isInt→XX,str→Zf
open PySem.W renaming Frag→Qp,fnOf→Uf,segRun→Ug,piecesOf→Um,findIn→Uo,codeIn→UM,emptyDict→UO,keepIn→Vt,kia_one→VG,kia_tup→VH,instObj→Wu,kitx_list→Wv,methodCall_KW→Xp,callWith_K→XV,of_hideAll→XW,cellsFrom_some→X1,kitx_tuple→X6,topFrame→Yb,kitx_bool→Yk,kitx_none→Yl,plainOver→Ym,handedIn→YA,kitx_int→YB,kitx_own→YC,kitx_str→YD,makesIn→YW,takesIn→YX,topStub→YY,kitAny→Zd,topRun→Ze,hideAll→Zg,hideAll_none→Zh
open PySem.W.OpenLaw renaming row→SI
open PySem.W.OpenRow renaming toRowW→Sm
open PySem.W.RowW renaming prog→Xg
open PySem.W.WData renaming int→Xb
open PySem.pickOrder renaming go→W3
open True renaming intro→Tz
abbrev P0:=@if_neg
abbrev P6:=@if_pos
abbrev Qn:=@decide_eq_true
abbrev Qu:=@absurd
abbrev QP:=@decide_eq_false
abbrev QR:=@decide_eq_true_eq
abbrev QX:=@if_false
abbrev QY:=@if_true
abbrev Re:=@congrArg
abbrev SE:=@beq_self_eq_true
abbrev SQ:=@of_decide_eq_true
abbrev Tk:=@bne_self_eq_false
abbrev Tl:=@decide_false
abbrev TU:=@decide_true
abbrev TX:=@beq_iff_eq
abbrev Uq:=@or_false
abbrev Xx:=@beq_eq_false_iff_ne
abbrev X8:=@of_decide_eq_false
open PySem.W (Frag instObj methodObj hideAll hideAll_get hideAll_none lookIn plainGet hasDictIn findIn plainGet_of isFn takerIn emptyDict keepIn specialIn kitOne kia_one kitx_list kitx_tuple cellsFrom_some mg_of kia_tup)
abbrev LI:=List (List Int)
abbrev LP:=List (List (Int×Int))
--CHANGE:your row's module here,as the last of these rows
namespace L2
open PySem PySem.Spec PyProof.Rows
inductive V where
 |non|bl (b:Bool)|int (i:Int)|str (x:QN)|ref (a:PX)|ty (n:String)
 deriving DecidableEq
def aN:V->PY->Prop
 | .non,u=>u=Rc
 | .bl b,u=>u=Wa b
 | .int i,u=>∃t,u=TD i t
 | .str x,u=>∃t,u=Zf x t
 | .ref a,u=>u=Qs a
 | .ty n,u=>u=SW n
abbrev az:List V->List PY->Prop:=WH aN
theorem az.length{xs:List V}{us:List PY}(r:az xs us):xs.length=us.length:=Paired.length r
theorem az.get:∀{xs:List V} {us:List PY} {i:Nat} {x:V},az xs us->xs[i]?=on x->∃u,us[i]?=on u/\aN x u
 |_,_,_,_,.nil,e=>by simp at e
 |_,_,0,_,.cons r _,e=>by simp at e;subst e;exact⟨_,rfl,r⟩
 |_,_,i+1,x,.cons _ t,e=>by
  obtain⟨u,a,b⟩:=az.get (i:=i) (x:=x) t (by simpa using e);exact⟨u,by simpa using a,b⟩
theorem az.set(r:aN x u):∀{xs:List V} {us:List PY} (i:Nat),az xs us->az (xs.set i x) (us.set i u)
 |_,_,_,.nil=> .nil
 |_,_,0,.cons _ t=> .cons r t
 |_,_,i+1,.cons q t=> .cons q (az.set r i t)
theorem az.append:∀{xs ys:List V} {us a:List PY},az xs us->az ys a->az (xs++ys) (us++a)
 |_,_,_,_,.nil,s=>s
 |_,_,_,_,.cons r t,s=> .cons r (az.append t s)
theorem az.take:∀{xs:List V} {us:List PY} (n:Nat),az xs us->az (xs.take n) (us.take n)
 |_,_,0,_=> .nil
 |_,_,_+1,.nil=> .nil
 |_,_,n+1,.cons r t=> .cons r (az.take n t)
theorem az.drop:∀{xs:List V} {us:List PY} (n:Nat),az xs us->az (xs.drop n) (us.drop n)
 |_,_,0,r=>r
 |_,_,_+1,.nil=> .nil
 |_,_,n+1,.cons _ t=>az.drop n t
def ij:Option V->Option PY->Prop
 |some v,on u=>aN v u
 |none,PH=>True
 |_,_=>False
inductive HO where
 |lst (xs:List V)
 |tup (xs:List V)
 |ins (C dx:PX) (fs:List (QN×V))
 |own (x:PX)
 |xd (fs:List (QN×V))
 |met (f x:PX)
 |rng (lo hi:Int)
 |frz (o:Qy) (u:HO)
 |tbl (ps:Array PY)
 |ext (φ:Rl->Prop)
abbrev Hp:=PX->Option HO
noncomputable def upd(H:Hp)(a:PX)(o:HO):Hp:=λb=>if b=a then on o else H b
theorem aq:upd H a o a=on o:=by unfold upd;rw[P6 rfl]
theorem upd_ne(h:b≠a):upd H a o b=H b:=by unfold upd;rw[P0 h]
theorem O4{H:Hp}{a b:PX}{o u:HO}(h:H a=on o)(h':H b=on u)(d:o≠u):a≠b:=by
 intro e;subst e;rw[h]at h';exact d (QB h')
theorem aA{H:Hp}{a b:PX}{o:HO}(h:H a=on o)(h':H b=PH):a≠b:=by
 intro e;subst e;rw[h]at h';cases h'
section
variable(P:QD)(w:QS)
def bH(P:QD)(w:QS)(H:Hp)(h:Rl)(a:PX):HO->Prop
 | .lst xs=>xs.length<=Qk/\∃(its:List PY) (n:Nat),az xs its/\h.get? a=on {cls:= .type "list",data:= .seq its.toArray n}
 | .tup xs=>xs.length<=Qk/\∃its:List PY,az xs its/\IsTup h a its.toArray
 | .ins C dx fs=>H dx=on (.own a)/\fs.length<=1000/\dx≠a/\h.get? a=on (Wu C dx)/\
   ∃b,h.Ns1 dx b/\(∀f,ij (fs.lookup f) (b f))/\Wh b (fs.map (·.1))
 | .own _=>∃o,h.get? a=on o
 | .xd fs=>∃b,h.Ns1 a b/\∀f,ij (fs.lookup f) (b f)
 | .rng lo hi=>∃t u v,h.get? a=on {cls:= .type "range",data:= .fields #[.int lo t,.int hi u,.int 1 v]}
 | .frz o u=>h.get? a=on o/\bH P w H h a u
 | .tbl ps=>h.get? a=on {cls:= .none,data:= .fields ps}
 | .met f x=>h.get? a=on (methodObj (.ref f) (.ref x))
 | .ext φ=>φ h/\(∃o,h.get? a=on o)/\∀c d:Rl,φ c->(∀o,c.get? a=on o->d.get? a=on o)->φ d
def HOk(H:Hp)(h:Rl):Prop:=∀a o,H a=on o->bH P w H h a o
end
section
variable{P:QD}{w:QS}{H H':Hp}{h h':Rl}{a:PX}{o:HO}
theorem bH.lt(x:bH P w H h a o):a<h.objs.size:=by
 cases o with
 |lst xs=>obtain⟨_,_,_,_,e⟩:=x;exact Qz e
 |tup xs=>obtain⟨_,_,_,p⟩:=x;exact p.lt
 |ins C dx fs=>obtain⟨_,_,_,e,_⟩:=x;exact Qz e
 |own y=>obtain⟨_,e⟩:=x;exact Qz e
 |xd fs=>obtain⟨_,⟨_,_,_,e,_⟩,_⟩:=x;exact Qz e
 |rng lo hi=>obtain⟨_,_,_,e⟩:=x;exact Qz e
 |frz ob u=>obtain⟨e,_⟩:=x;exact Qz e
 |tbl ps=>exact Qz (show h.get? a=on _ from x)
 |met f y=>exact Qz (show h.get? a=on _ from x)
 |ext φ=>obtain⟨_,⟨_,e⟩,_⟩:=x;exact Qz e
theorem bH.stay(x:bH P w H h a o)(k:∀b u,(b=a\/H b=on (.own a))->h.get? b=on u->h'.get? b=on u)
  (l:∀b,H b=on (.own a)->H' b=on (.own a)) (A:∀b xs,H b=on (.tup xs)->H' b=on (.tup xs)):bH P w H' h' a o:=by
 induction o with
 |lst xs=>obtain⟨z,its,n,r,e⟩:=x;exact⟨z,its,n,r,k _ _ (.inl rfl) e⟩
 |tup xs=>obtain⟨z,its,r,g,e,c⟩:=x;exact⟨z,its,r,g,k _ _ (.inl rfl) e,c⟩
 |ins C dx fs=>
  obtain⟨d,z,ne,e,i,⟨j,es,ep,m,c⟩,r⟩:=x;exact⟨l _ d,z,ne,k _ _ (.inl rfl) e,i,⟨j,es,ep,k _ _ (.inr d) m,c⟩,r⟩
 |own y=>obtain⟨g,e⟩:=x;exact⟨g,k _ _ (.inl rfl) e⟩
 |xd fs=>obtain⟨i,⟨j,es,ep,e,c⟩,r⟩:=x;exact⟨i,⟨j,es,ep,k _ _ (.inl rfl) e,c⟩,r⟩
 |rng lo hi=>obtain⟨t,u,v,e⟩:=x;exact⟨t,u,v,k _ _ (.inl rfl) e⟩
 |frz g u ih=>obtain⟨e,q⟩:=x;exact⟨k _ _ (.inl rfl) e,ih q⟩
 |tbl ps=>
  have e:h.get? a=on {cls:= .none,data:= .fields ps}:=x;show h'.get? a=on {cls:= .none,data:= .fields ps};exact k a _ (.inl rfl) e
 |met f y=>
  have e:h.get? a=on (methodObj (.ref f) (.ref y)):=x;show h'.get? a=on (methodObj (.ref f) (.ref y));exact k a _ (.inl rfl) e
 |ext φ=>obtain⟨p,⟨o,e⟩,st⟩:=x;exact⟨st _ _ p λo q=>k _ _ (.inl rfl) q,⟨o,k _ _ (.inl rfl) e⟩,st⟩
theorem HOk.lt(x:HOk P w H h)(e:H a=on o):a<h.objs.size:=(x a o e).lt
theorem HOk.fresh(x:HOk P w H h)(e:h.objs.size<=a):H a=PH:=by
 cases q:H a with
 |none=>rfl
 |some u=>exact Qu (Qv (x.lt q) e) (Q4 _)
theorem HOk.kept(x:HOk P w H h)(k:∀b u,h.get? b=on u->h'.get? b=on u):HOk P w H h':=λa o e=>
 (x a o e).stay (λb u _ q=>k b u q) (λ_ q=>q) λ_ _ q=>q
theorem HOk.laid(x:HOk P w H h)(k:∀b u,h.get? b=on u->h'.get? b=on u)(f:h.objs.size<=a)(new:bH P w (upd H a o) h' a o):HOk P w (upd H a o) h':=λb u e=>by
 have hn:=x.fresh f;by_cases d:b=a
 ·subst d;rw[aq]at e;cases e;exact new
 ·rw[upd_ne d]at e
  exact(x b u e).stay (λc v _ q=>k c v q) (λc q=>by rw[upd_ne (aA q hn)];exact q) λc xs q=>by rw[upd_ne (aA q hn)];exact q
def Rd(H:Hp)(a:PX)(u:HO):Prop:=H a=on u\/∃o,H a=on (.frz o u)
theorem Rd.ok{P:QD}{w:QS}{H:Hp}{h:Rl}{a:PX}(r:Rd H a u)(x:HOk P w H h):bH P w H h a u:=by
 rcases r with r|⟨o,r⟩
 ·exact x a u r
 ·obtain⟨_,q⟩:=x a _ r
  exact q
def Mut:Option HO->Prop
 |some (.lst _)=>True
 |some (.ins _ _ _)=>True
 |some (.ext _)=>True
 |_=>False
variable{x e:PX}{o':HO}
theorem HOk.write(ok:HOk P w H h)(mu:Mut (H x))(l:e=x\/H e=on (.own x))(k:∀b u,b≠e->h.get? b=on u->h'.get? b=on u)(j:∃u,h'.get? e=on u)
  (new:bH P w (upd H x o') h' x o'):HOk P w (upd H x o') h':=λb u q=>by
 have f:∀c y,H c=on (.own y)->c≠x:=λc y r z=>by subst z;rw[r]at mu;exact mu
 have g:∀c xs,H c=on (.tup xs)->c≠x:=λc xs r z=>by subst z;rw[r]at mu;exact mu
 by_cases i:b=x
 ·subst i;rw[aq]at q;cases q;exact new
 ·rw[upd_ne i]at q
  by_cases d:b=e
  ·have m:H b=on (.own x):=by
    rcases l with z|z
    ·exact Qu (d.trans z) i
    ·rw[d];exact z
   rw[q]at m;cases m;obtain⟨v,n⟩:=j;exact⟨v,by rw[d];exact n⟩
  ·refine(ok b u q).stay (λc v hc r=>k c v ?_ r) (λc r=>by rw[upd_ne (f c b r)];exact r) λc xs r=>by rw[upd_ne (g c xs r)];exact r
   rcases hc with rfl|hc
   ·exact d
   ·rintro rfl
    rcases l with z|z
    ·exact f c b hc z
    ·rw[hc]at z;cases z;exact i rfl
structure Un (fs ex:List PX) (H H':Hp) (h h':Rl):Prop where
 keep:∀b o,h.get? b=on o->H b=PH->b∉fs->b∉ex->h'.get? b=on o
 slot:∀b o,h.get? b=on o->H b=PH->b∈fs->b∉ex->∃sl,h'.get? b=on {o with slots:=sl}
 free:∀b o,h.get? b=on o->H b=PH->b∉ex->H' b=PH
 there:∀b o,h.get? b=on o->b∉ex->∃o',h'.get? b=on o'
 tups:∀b xs,H b=on (.tup xs)->H' b=on (.tup xs)
 frzs:∀b o u,H b=on (.frz o u)->H' b=on (.frz o u)
 tbls:∀b ps,H b=on (.tbl ps)->∃more,H' b=on (.tbl (ps++more))
variable{fs fs' ex ex':List PX}{H1 H2:Hp}{h1 h2:Rl}
theorem Un.any(u:Un fs ex H H1 h h1)(q:h.get? b=on ob)(n:H b=PH)(c:b∉ex):∃f,h1.get? b=on {ob with slots:=f}:=by
 by_cases d:b∈fs
 ·exact u.slot b ob q n d c
 ·exact⟨ob.slots,u.keep b ob q n d c⟩
theorem Un.trans(a:Un fs ex H H1 h h1)(b:Un fs ex H1 H2 h1 h2):Un fs ex H H2 h h2 where
 keep:=λc d q n i f=>b.keep c d (a.keep c d q n i f) (a.free c d q n f) i f
 slot:=λc d q n i f=>by
  obtain⟨l,g⟩:=a.slot c d q n i f;obtain⟨j,k⟩:=b.slot c _ g (a.free c d q n f) i f;exact⟨j,k⟩
 free:=λc d q n f=>by
  obtain⟨o',g⟩:=a.there c d q f;exact b.free c o' g (a.free c d q n f) f
 there:=λc d q f=>by
  obtain⟨o',g⟩:=a.there c d q f;exact b.there c o' g f
 tups:=λc xs q=>b.tups c xs (a.tups c xs q)
 frzs:=λc d xs q=>b.frzs c d xs (a.frzs c d xs q)
 tbls:=λc ps q=>by
  obtain⟨m1,g⟩:=a.tbls c ps q;obtain⟨m2,k⟩:=b.tbls c _ g;exact⟨m1++m2,by rw[k,Yn]⟩
theorem Un.kept(k:∀b u,h.get? b=on u->h'.get? b=on u):Un fs ex H H h h':=
 ⟨λb c q _ _ _=>k b c q,λb c q _ _ _=>⟨c.slots,k b c q⟩,λ_ _ _ n _=>n,λb c q _=>⟨c,k b c q⟩,λ_ _ q=>q,λ_ _ _ q=>q,λ_ ps q=>⟨#[],by rw[q];simp⟩⟩
theorem Un.refl:Un fs ex H H h h:=Un.kept λ_ _ q=>q
theorem Un.laid(k:∀b u,h.get? b=on u->h'.get? b=on u)(c:h.objs.size<=a)(hn:H a=PH):Un fs ex H (upd H a o) h h' where
 keep:=λb u q _ _ _=>k b u q
 slot:=λb u q _ _ _=>⟨u.slots,k b u q⟩
 free:=λb u q n _=>by rw[upd_ne (Q5 (Qv (Qz q) c))];exact n
 there:=λb u q _=>⟨u,k b u q⟩
 tups:=λb xs q=>by rw[upd_ne (aA q hn)];exact q
 frzs:=λb u xs q=>by rw[upd_ne (aA q hn)];exact q
 tbls:=λb ps q=>⟨#[],by rw[upd_ne (aA q hn),q];simp⟩
theorem Un.write(mu:Mut (H x))(i:e=x\/H e=on (.own x))(k:∀b u,b≠e->h.get? b=on u->h'.get? b=on u)(d:∃u,h'.get? e=on u):Un fs ex H (upd H x o) h h':=by
 have f:∀b,H b=PH->b≠x:=λb n z=>by subst z;rw[n]at mu;exact mu
 have g:∀b,H b=PH->b≠e:=λb n z=>by
  subst z;rcases i with r|r
  ·exact f b n r
  ·rw[n]at r;cases r
 have hm:∀b u,H b=on u->¬Mut (on u)->b≠x:=λb u q j z=>by subst z;rw[q]at mu;exact j mu
 refine⟨λb u q n _ _=>k b u (g b n) q,λb u q n _ _=>⟨u.slots,k b u (g b n) q⟩,λb u q n _=>by rw[upd_ne (f b n)];exact n,λb u q _=>?_,
  λb xs q=>by rw[upd_ne (hm b _ q λz=>z)];exact q,λb u xs q=>by rw[upd_ne (hm b _ q λz=>z)];exact q,λb ps q=>⟨#[],by rw[upd_ne (hm b _ q λz=>z),q];simp⟩⟩
 by_cases c:b=e
 ·subst c;exact d
 ·exact⟨u,k b u c q⟩
theorem Un.mono(u:Un fs ex H H1 h h1)(hs:∀b∈fs,b∈fs')(f:∀b∈ex,b∈ex'):Un fs' ex' H H1 h h1:=
 ⟨λb d q n g c=>u.keep b d q n (λz=>g (hs b z)) λz=>c (f b z),λ_ _ q n _ c=>u.any q n λz=>c (f _ z),λb d q n c=>u.free b d q n λz=>c (f b z),λb d q c=>u.there b d q λz=>c (f b z),u.tups,u.frzs,u.tbls⟩
noncomputable def trk(h:Rl)(H:Hp):List PX:=(P4 h.objs.size).filter λa=>(H a).isSome
noncomputable def li(h:Rl)(H:Hp):Rl:=Zg h (trk h H)
theorem AO(h:Rl)(H:Hp):(li h H).objs.size=h.objs.size:=PySem.W.hideAll_size _ _
theorem EJ{h:Rl}{H:Hp}{o:Qy}(e:h.get? b=on o)(n:H b=PH):(li h H).get? b=on o:=
 hideAll_get _ e λhm=>by
  have q:(H b).isSome=PP:=(Sy.mp hm).2;rw[n]at q;simp at q
theorem KR{h:Rl}{H:Hp}{o:Qy}(e:(li h H).get? b=on o):h.get? b=on o/\H b=PH:=by
 have c:h.get? b=on o:=XW (trk h H) e;refine⟨c,?_⟩;cases q:H b with
 |none=>rfl
 |some x=>
  have hm:b∈trk h H:=Sy.mpr ⟨Qq.mpr (Qz c),by simp[q]⟩;have z:(li h H).get? b=PH:=Zh (trk h H) hm;rw[z]at e;cases e
structure Mod (K:Qp) (mg:QN->Option PY) (base:Rl):Prop where
 kin:K.In base
 glob:base.Ns Sh mg
 blt:∃mb,base.Ns XZ mb/\∀x:QN,x≠"__name__"->mb x=T9 x
 nolimit:base.NoLimit
structure Cx where
 prog:QD
 w:QS
 K:Qp
 mg:QN->Option PY
 base:Rl
 A:Rg
 N:List QN
 s₀:P7
 H₀:Hp
 env:WV
 outer:List WV
 stack:List WV
 ex:List PX
 fn:QN->Bool
 calm:Bool
 pn:List (PX×Qy)
 xe:PY->P7->Prop
noncomputable def frs(l:List WV):List PX:=l.filterMap (·.frame)
end
noncomputable abbrev Cx.fs(X:Cx):List PX:=frs X.outer
def Vis(a:Scope)(x:QN):Prop:=a.names.lookup x=on .local\/a.names.lookup x=on .cell\/a.names.lookup x=on .free
def Loc(a:Scope)(x:QN):Prop:=a.names.lookup x=on .local\/a.names.lookup x=on .cell
def Look(env:WV)(h:Rl)(m:QN->Option PY)(x:QN)(u:PY):Prop:=
 (env.kindOf x=on .local/\m x=on u)\/((env.kindOf x=on .cell\/env.kindOf x=on .free)/\∃c,env.cells.lookup x=on c/\h.IsCell c (on u))
structure Cx.Ok (X:Cx):Prop where
 mod:Mod X.K X.mg X.base
 kind:X.env.scope.kind= .function
 glob:X.env.globals=Sh
 blt:X.env.builtins=XZ
 above:X.s₀.heap.objs.size<=X.env.locals
 inj:∀x y c,X.env.cells.lookup x=on c->X.env.cells.lookup y=on c->x=y
 has:∀x,(X.env.kindOf x=on .cell\/X.env.kindOf x=on .free)->∃c,X.env.cells.lookup x=on c
 cab:∀x c,X.fn x=PP->X.env.cells.lookup x=on c->X.s₀.heap.objs.size<=c
 hd:X.calm=PP->X.A.handled=PH
 frames:X.A.frames=on X.stack
 stk:X.stack=X.outer\/(X.stack=X.env::X.outer/\X.env.frame=on X.env.locals)
 exf:∀b∈X.ex,b≠X.env.locals/\∀x c,X.env.cells.lookup x=on c->c≠b
 bs:∀b o,X.base.get? b=on o->X.s₀.heap.get? b=on o/\X.H₀ b=PH
 bsz:X.base.objs.size<=X.s₀.heap.objs.size
 noex:∀b o,X.base.get? b=on o->b∉X.ex
 exfs:∀b∈X.ex,b∉X.fs
 funs:X.s₀.heap.FunFrames X.base X.outer
 frf:∀b∈X.fs,X.H₀ b=PH
structure Inv (X:Cx) (pins:List (PX×Qy)) (σ:List (Option V)) (H:Hp) (s:P7):Prop where
 ok:X.Ok
 os:s.os=X.s₀.os
 bare:Vd s.gens
 base:Un X.fs X.ex X.H₀ H X.s₀.heap s.heap
 loc:∃m,s.heap.Ns X.env.locals m/\∀(i:Nat) (x:QN) (v:V),X.N[i]?=on x->σ[i]?=on (on v)->Vis X.env.scope x->∃u,aN v u/\Look X.env s.heap m x u
 cell:∀x c,X.env.cells.lookup x=on c->∃v,s.heap.IsCell c v
 free:H X.env.locals=PH
 freeC:∀x c,X.env.cells.lookup x=on c->H c=PH
 pin:∀p∈X.pn++pins,s.heap.get? p.1=on p.2/\H p.1=PH/\p.1≠X.env.locals/\p.1∉X.fs/\∀v,p.2.data≠ .cell v
 hok:HOk X.prog X.w H s.heap
 len:σ.length=X.N.length
section
variable{X:Cx}{pins:List (PX×Qy)}{σ:List (Option V)}{H H':Hp}{s:P7}{h':Rl}
theorem Cx.Ok.nofr(ok:X.Ok)(e:X.base.get? b=on o):b∉X.fs:=λa=>by
 have:=(ok.funs.mem a).1;rw[e]at this;cases this
theorem Inv.bs(I:Inv X pins σ H s):∀b o,X.base.get? b=on o->s.heap.get? b=on o/\H b=PH:=λb o e=>
 ⟨I.base.keep b o (I.ok.bs b o e).1 (I.ok.bs b o e).2 (I.ok.nofr e) (I.ok.noex b o e),I.base.free b o (I.ok.bs b o e).1 (I.ok.bs b o e).2 (I.ok.noex b o e)⟩
theorem Inv.bk(I:Inv X pins σ H s):∀b o,X.base.get? b=on o->s.heap.get? b=on o:=λb o e=>(I.bs b o e).1
theorem Inv.mod(I:Inv X pins σ H s):Mod X.K X.mg X.base:=I.ok.mod
theorem Inv.kIn(I:Inv X pins σ H s):X.K.In s.heap:=I.ok.mod.kin.keeps I.bk
theorem Inv.lt(I:Inv X pins σ H s):X.env.locals<s.heap.objs.size:=let ⟨_,hn,_⟩:=I.loc;hn.lt
theorem Inv.sz(I:Inv X pins σ H s):X.s₀.heap.objs.size<=s.heap.objs.size:=Qg I.ok.above (VN I.lt)
theorem Inv.nofs(I:Inv X pins σ H s){a:PX}(h:s.heap.objs.size<=a):a∉X.fs:=λb=>by
 obtain⟨_,o,c,_⟩:=I.ok.funs.mem b;exact Qu (Qv (Qz c) (Qg I.sz h)) (Q4 _)
theorem Inv.cne(I:Inv X pins σ H s):∀x c,X.env.cells.lookup x=on c->c≠X.env.locals:=λx c e z=>by
 obtain⟨v,o,d,hd⟩:=I.cell x c e;obtain⟨m,⟨f,es,ep,a,b,_⟩,_⟩:=I.loc;rw[z,a]at d;cases d;rw[b]at hd;cases hd
theorem Inv.funs(I:Inv X pins σ H s):s.heap.FunFrames X.base X.outer:=by
 have all:∀(l:List WV),(∀b∈frs l,b∈X.fs)->X.s₀.heap.FunFrames X.base l->s.heap.FunFrames X.base l:=by
  intro l
  induction l with
  |nil=>intro _ _;trivial
  |cons env r ih=>
   intro hs f;obtain⟨g,⟨L,o,a,hn,h,hd⟩,i⟩:=f;have c:L∈X.fs:=hs L (by unfold frs;rw[RU,a];exact PZ);obtain⟨j,e⟩:=I.base.slot L o h (I.ok.frf L c) c λz=>I.ok.exfs L z c;exact⟨g,⟨L,_,a,hn,e,hd⟩,ih (λb d=>hs b (by unfold frs;rw[RU,a];exact PN _ d)) i⟩
 exact all X.outer (λ_ d=>d) I.ok.funs
theorem Inv.stack(I:Inv X pins σ H s):s.heap.FunFrames X.base X.stack:=by
 rcases I.ok.stk with e|⟨e,a⟩
 ·rw[e];exact I.funs
 ·rw[e]
  obtain⟨m,hn,_⟩:=I.loc;refine .cons (by rw[I.ok.kind];decide) a hn ?_ I.funs;exact Yg (Qg I.ok.bsz I.ok.above)
theorem Inv.stkSub(I:Inv X pins σ H s):∀b∈frs X.stack,b∈X.env.locals::X.fs:=λb a=>by
 rcases I.ok.stk with e|⟨e,c⟩
 ·rw[e]at a;exact PN _ a
 ·rw[e]at a
  unfold frs at a;rw[RU,c]at a;exact a
theorem Inv.stkFree(I:Inv X pins σ H s):∀b∈frs X.stack,H b=PH:=λb hb=>by
 rcases Qf.mp (I.stkSub b hb)with e|hb
 ·rw[e];exact I.free
 ·obtain⟨_,o,a,_⟩:=I.ok.funs.mem hb
  exact I.base.free b o a (I.ok.frf b hb) λz=>I.ok.exfs b z hb
theorem Inv.step{ch:List PX}(I:Inv X pins σ H s)
  (f:∀b∈ch,(b∈X.ex\/X.s₀.heap.objs.size<=b)/\b≠X.env.locals/\(∀x c,X.env.cells.lookup x=on c->c≠b)/\∀p∈X.pn++pins,p.1≠b)
  (keep:∀b o,b≠X.env.locals->b∉X.fs->b∉ch->s.heap.get? b=on o->H b=PH->h'.get? b=on o)
  (slot:∀b o,b≠X.env.locals->b∈X.fs->b∉ch->s.heap.get? b=on o->H b=PH->∃J,h'.get? b=on {o with slots:=J}) (free:∀b o,b∉ch->s.heap.get? b=on o->H b=PH->H' b=PH)
  (there:∀b o,b∉ch->s.heap.get? b=on o->∃B,h'.get? b=on B)
  (tups:∀b xs,H b=on (.tup xs)->H' b=on (.tup xs)) (frzs:∀b o u,H b=on (.frz o u)->H' b=on (.frz o u)) (tbls:∀b ps,H b=on (.tbl ps)->∃more,H' b=on (.tbl (ps++more)))
  (ns:∀m,s.heap.Ns X.env.locals m->h'.Ns X.env.locals m) (hok:HOk X.prog X.w H' h') (P:Vd g'):
  Inv X pins σ H' {s with heap:=h',gens:=g',drawn:=d',toks:=t'}:=by
 have C:∀b o,X.s₀.heap.get? b=on o->b≠X.env.locals:=λb o e=>Q5 (Qv (Qz e) I.ok.above);have j:∀b o,X.s₀.heap.get? b=on o->b∉X.ex->b∉ch:=λb o e a y=>by
  rcases(f b y).1 with z|z
  ·exact a z
  ·exact Qu (Qv (Qz e) z) (Q4 _)
 have g:∀x c,X.env.cells.lookup x=on c->∀v,s.heap.IsCell c v->h'.IsCell c v:=λx c e v ⟨o,A,hd⟩=>by
  have h:c∉ch:=λz=>(f c z).2.2.1 x c e rfl;by_cases N:c∈X.fs
  ·obtain⟨J,q⟩:=slot c o (I.cne x c e) N h A (I.freeC x c e)
   exact⟨_,q,hd⟩
  ·exact⟨o,keep c o (I.cne x c e) N h A (I.freeC x c e),hd⟩
 refine⟨I.ok,I.os,P,⟨λb o e n y a=>?_,λb o e n y a=>?_,λb o e n a=>?_,λb o e a=>?_,λb xs e=>tups b xs (I.base.tups b xs e),λb o xs e=>frzs b o xs (I.base.frzs b o xs e),λb ps e=>?_⟩,?_,λx c e=>?_,?_,λx c e=>?_,λp O=>?_,hok,I.len⟩
 ·exact keep b o (C b o e) y (j b o e a) (I.base.keep b o e n y a) (I.base.free b o e n a)
 ·obtain⟨J,t⟩:=I.base.slot b o e n y a
  obtain⟨L,F⟩:=slot b _ (C b o e) y (j b o e a) t (I.base.free b o e n a);exact⟨L,F⟩
 ·obtain⟨B,t⟩:=I.base.there b o e a
  exact free b B (j b o e a) t (I.base.free b o e n a)
 ·obtain⟨B,t⟩:=I.base.there b o e a
  exact there b B (j b o e a) t
 ·obtain⟨m1,t⟩:=I.base.tbls b ps e
  obtain⟨m2,F⟩:=tbls b _ t;exact⟨m1++m2,by rw[F,Yn]⟩
 ·obtain⟨m,hn,Q⟩:=I.loc
  refine⟨m,ns m hn,λi x v t F R=>?_⟩;obtain⟨u,r,l⟩:=Q i x v t F R;refine⟨u,r,?_⟩;rcases l with l|⟨k,c,e,z⟩
  ·exact .inl l
  ·exact .inr ⟨k,c,e,g x c e _ z⟩
 ·obtain⟨v,z⟩:=I.cell x c e
  exact⟨v,g x c e v z⟩
 ·obtain⟨m,⟨o,_,_,A,_⟩,_⟩:=I.loc
  exact free _ o (λz=>(f _ z).2.1 rfl) A I.free
 ·obtain⟨v,o,A,hd⟩:=I.cell x c e
  exact free c o (λz=>(f c z).2.2.1 x c e rfl) A (I.freeC x c e)
 ·obtain⟨e,n,ne,nf,d⟩:=I.pin p O
  have h:p.1∉ch:=λz=>(f p.1 z).2.2.2 p O rfl;exact⟨keep p.1 p.2 ne nf h e n,free p.1 p.2 h e n,ne,nf,d⟩
theorem Inv.un(I:Inv X pins σ H s)(u:Un X.fs [] H H' s.heap h')(hok:HOk X.prog X.w H' h'):Inv X pins σ H' {s with heap:=h',toks:=t'}:=by
 obtain⟨m,⟨o,es,ep,g,r⟩,_⟩:=id I.loc;obtain⟨j,h⟩:=u.any g I.free (by simp);exact I.step (g':=s.gens) (d':=s.drawn) (ch:=[]) (λ_ z=>nomatch z) (λb o _ c _ e n=>u.keep b o e n c (by simp)) (λb o _ c _ e n=>u.slot b o e n c (by simp)) (λb o _ e n=>u.free b o e n (by simp)) (λb o _ e=>u.there b o e (by simp)) u.tups u.frzs u.tbls (λk hm=>by
  obtain⟨l,d,f,a,i⟩:=hm;rw[g]at a;cases a;exact⟨_,d,f,h,i⟩) hok I.bare
theorem Inv.call{ch:List PX}(I:Inv X pins σ H s)(u:Un (frs X.stack) ch H H' s.heap h')(hok:HOk X.prog X.w H' h')(k:Vd g')
  (d:∀b∈ch,(b∈X.ex\/X.s₀.heap.objs.size<=b)/\b≠X.env.locals/\(∀x c,X.env.cells.lookup x=on c->c≠b)/\∀p∈X.pn++pins,p.1≠b):
  Inv X pins σ H' {s with heap:=h',gens:=g',drawn:=d',toks:=t'}:=by
 obtain⟨m,⟨o,es,ep,j,r⟩,_⟩:=id I.loc;obtain⟨t,g⟩:=u.any j I.free λz=>(d _ z).2.1 rfl;exact I.step (ch:=ch) d (λb o g l a e n=>u.keep b o e n (λz=>(Qf.mp (I.stkSub b z)).elim g l) a) (λb o _ _ a e n=>u.any e n a) (λb o a e n=>u.free b o e n a) (λb o a e=>u.there b o e a) u.tups u.frzs u.tbls (λv hm=>by
  obtain⟨y,h,i,f,q⟩:=hm;rw[j]at f;cases f;exact⟨_,h,i,g,q⟩) hok k
theorem Inv.turned(I:Inv X pins σ H s)(k:∀b o,b≠it->s.heap.get? b=on o->h'.get? b=on o)(hn:H it=PH)(f:it≠X.env.locals)
  (g:it∈X.ex\/X.s₀.heap.objs.size<=it) (h:∀x c,X.env.cells.lookup x=on c->c≠it) (i:∀p∈X.pn++pins,p.1≠it):Inv X pins σ H {s with heap:=h',toks:=t'}:=by
 have d:∀b u,H b=on u->b≠it:=λb u e z=>by rw[z,hn]at e;cases e
 refine I.step (g':=s.gens) (d':=s.drawn) (ch:=[it]) (λb j=>?_) (λb o _ _ a e _=>k b o (λz=>a (by simp[z])) e) (λb o _ _ a e _=>⟨o.slots,k b o (λz=>a (by simp[z])) e⟩) (λ_ _ _ _ n=>n)
  (λb o a e=>⟨o,k b o (λz=>a (by simp[z])) e⟩) (λ_ _ e=>e) (λ_ _ _ e=>e) (λb ps e=>⟨#[],by rw[e];simp⟩) (λm hm=>?_) (λb u e=>?_) I.bare
 ·have e:b=it:=by simpa using j
  subst e;exact⟨g,f,h,i⟩
 ·obtain⟨o,es,ep,l,r⟩:=hm
  exact⟨o,es,ep,k _ o (Ne.symm f) l,r⟩
 ·refine(I.hok b u e).stay (λc v a q=>k c v ?_ q) (λ_ q=>q) λ_ _ q=>q
  rcases a with z|z
  ·rw[z];exact d b u e
  ·exact d c _ z
theorem Inv.tok(I:Inv X pins σ H s)(t:Nat):Inv X pins σ H {s with toks:=t}:=I.un (h':=s.heap) (t':=t) Un.refl I.hok
theorem Inv.kept(I:Inv X pins σ H s)(k:∀b u,s.heap.get? b=on u->h'.get? b=on u):Inv X pins σ H {s with heap:=h',toks:=t'}:=I.un (Un.kept k) (I.hok.kept k)
theorem Inv.laid{a:PX}{o:HO}{t':Nat}(I:Inv X pins σ H s)(k:∀b u,s.heap.get? b=on u->h'.get? b=on u)(c:s.heap.objs.size<=a)(new:bH X.prog X.w (upd H a o) h' a o):
  Inv X pins σ (upd H a o) {s with heap:=h',toks:=t'}:=I.un (Un.laid k c (I.hok.fresh c)) (I.hok.laid k c new)
theorem Inv.write(I:Inv X pins σ H s)(mu:Mut (H x))(c:e=x\/H e=on (.own x))(k:∀b u,b≠e->s.heap.get? b=on u->h'.get? b=on u)(a:∃u,h'.get? e=on u)
  (new:bH X.prog X.w (upd H x o) h' x o):Inv X pins σ (upd H x o) {s with heap:=h',toks:=t'}:=I.un (Un.write mu c k a) (I.hok.write mu c k a new)
theorem Inv.pins_of(I:Inv X pins σ H s)(h:∀p∈pins',s.heap.get? p.1=on p.2/\H p.1=PH/\p.1≠X.env.locals/\p.1∉X.fs/\∀v,p.2.data≠ .cell v):Inv X pins' σ H s:=
 ⟨I.ok,I.os,I.bare,I.base,I.loc,I.cell,I.free,I.freeC,λp a=>(RN.mp a).elim (λz=>I.pin p (SU _ z)) (h p),I.hok,I.len⟩
theorem u7{N:List QN}(c:N.Nodup){i j:Nat}{x:QN}(a:N[i]?=on x)(b:N[j]?=on x):i=j:=by
 obtain⟨f,d⟩:=P9.mp a;obtain⟨g,e⟩:=P9.mp b;exact(List.getElem_inj c).mp (d.trans e.symm)
theorem lW{M:Model}{E:PY->P7->Prop}(I:Inv X pins σ H s)(hN:X.N.Nodup)(O:X.N[i]?=on x)(l:Loc X.env.scope x)(r:aN v u)
  (h:∀s',Inv X pins (σ.set i (on v)) H s'->(∃a,QE a s.heap s'.heap/\(a=X.env.locals\/X.env.cells.lookup x=on a))->Q () s') (hf:X.fn x=PP\/X.env.scope.names.lookup x=on .local:=by first|exact .inl rfl|exact .inr rfl|assumption):Qi M A (storeName X.env x u) Q E s:=by
 obtain⟨m,hn,hl⟩:=id I.loc;have P:(X.env.scope.kind== .class||(X.env.scope.kind== .module&&X.env.locals !=X.env.globals))=PU:=by rw[I.ok.kind];rfl
 have C:i<σ.length:=by rw[I.len];exact(P9.mp O).1
 have cne:=I.cne;have f:∀{a:PX} {h':Rl},(∃o,s.heap.get? a=on o/\H a=PH)->QE a s.heap h'->HOk X.prog X.w H h':=λ{a h'} ha hs b ob e=>by
  obtain⟨_,_,t⟩:=ha;refine(I.hok b ob e).stay (λc Y hc q=>(hs.2 c ?_).trans q) (λ_ q=>q) λ_ _ q=>q;rintro rfl;rcases hc with rfl|hc
  ·rw[t]at e;cases e
  ·rw[t]at hc;cases hc
 rcases l with hk|hk
 ·refine wpAny_storeName_local hk hn (λh' hn' hs=>?_) P
  obtain⟨oL,_,_,hoL,_⟩:=id hn;refine h _ ⟨I.ok,I.os,I.bare,⟨λb o e n F l=>?_,λb o e n F l=>?_,I.base.free,λb o e l=>?_,I.base.tups,I.base.frzs,I.base.tbls⟩,⟨_,hn',λj y v' g B e3=>?_⟩,λy c e=>?_,I.free,I.freeC,λp hp=>?_,f ⟨oL,hoL,I.free⟩ hs,by simpa using I.len⟩ ⟨_,hs,.inl rfl⟩
  ·exact(hs.2 b (Q5 (Qv (Qz e) I.ok.above))).trans (I.base.keep b o e n F l)
  ·obtain⟨sl,g⟩:=I.base.slot b o e n F l
   exact⟨sl,(hs.2 b (Q5 (Qv (Qz e) I.ok.above))).trans g⟩
  ·obtain⟨o',g⟩:=I.base.there b o e l
   exact⟨o',(hs.2 b (Q5 (Qv (Qz e) I.ok.above))).trans g⟩
  ·by_cases J:j=i
   ·subst J
    rw[O]at g;cases g;rw[XJ C]at B;cases B;exact⟨u,r,.inl ⟨hk,by simp⟩⟩
   ·rw[Yi (Ne.symm J)]at B
    obtain⟨u',r',q⟩:=hl j y v' g B e3;refine⟨u',r',?_⟩;rcases q with⟨k,e⟩|⟨k,c,e,z⟩
    ·refine .inl ⟨k,?_⟩
     have:y≠x:=λe=>J (u7 hN g (e▸O));simp[this,e]
    ·exact .inr ⟨k,c,e,z.sameBut hs (cne y c e)⟩
  ·obtain⟨Y,z⟩:=I.cell y c e
   exact⟨Y,z.sameBut hs (cne y c e)⟩
  ·obtain⟨e,n,ne,nf,d⟩:=I.pin p hp
   exact⟨(hs.2 p.1 ne).trans e,n,ne,nf,d⟩
 ·have L:X.fn x=PP:=by
   rcases hf with z|z
   ·exact z
   ·rw[z]at hk;cases hk
  obtain⟨c,hc⟩:=I.ok.has x (.inl hk);obtain⟨Y,z⟩:=I.cell x c hc;refine wpAny_storeName_cell I.ok.kind hk hc z (λh' R hs=>?_);obtain⟨oc,T,U⟩:=id z;refine h {s with heap:=h'} ⟨I.ok,I.os,I.bare,⟨λb o e n F l=>?_,λb o e n F l=>?_,I.base.free,λb o e l=>?_,I.base.tups,I.base.frzs,I.base.tbls⟩,⟨m,hn.sameBut hs (Ne.symm (cne x c hc)),λj y v' g B e3=>?_⟩,λy Z e=>?_,I.free,I.freeC,λp hp=>?_,f ⟨oc,T,I.freeC x c hc⟩ hs,by simpa using I.len⟩ ⟨c,hs,.inr hc⟩
  ·exact(hs.2 b (Q5 (Qv (Qz e) (I.ok.cab x c L hc)))).trans (I.base.keep b o e n F l)
  ·obtain⟨sl,g⟩:=I.base.slot b o e n F l
   exact⟨sl,(hs.2 b (Q5 (Qv (Qz e) (I.ok.cab x c L hc)))).trans g⟩
  ·obtain⟨o',g⟩:=I.base.there b o e l
   exact⟨o',(hs.2 b (Q5 (Qv (Qz e) (I.ok.cab x c L hc)))).trans g⟩
  ·by_cases J:j=i
   ·subst J
    rw[O]at g;cases g;rw[XJ C]at B;cases B;exact⟨u,r,.inr ⟨.inl hk,c,hc,R⟩⟩
   ·rw[Yi (Ne.symm J)]at B
    obtain⟨u',r',q⟩:=hl j y v' g B e3;refine⟨u',r',?_⟩;rcases q with q|⟨k,Z,e,z'⟩
    ·exact .inl q
    ·refine .inr ⟨k,Z,e,z'.sameBut hs ?_⟩
     rintro rfl;exact J (u7 hN g (I.ok.inj _ _ _ e hc▸O))
  ·by_cases W:Z=c
   ·subst W;exact⟨_,R⟩
   ·obtain⟨w2,z2⟩:=I.cell y Z e
    exact⟨w2,z2.sameBut hs W⟩
  ·obtain⟨e,n,ne,nf,d⟩:=I.pin p hp
   refine⟨(hs.2 p.1 ?_).trans e,n,ne,nf,d⟩;intro q;rw[q,T]at e;have q':oc=p.2:=QB e;exact d Y (by rw[←q'];exact U)
theorem o4{M:Model}{E:PY->P7->Prop}(I:Inv X pins σ H s)(a:X.N.Nodup)(b:X.N[i]?=on x)(c:Loc X.env.scope x)(r:aN v u)
  (h:∀s',Inv X pins (σ.set i (on v)) H s'->Q () s') (d:X.fn x=PP\/X.env.scope.names.lookup x=on .local:=by first|exact .inl rfl|exact .inr rfl|assumption):Qi M A (storeName X.env x u) Q E s:=
 lW I a b c r (λs' e _=>h s' e) d
theorem Inv.call'{s':P7}{ch:List PX}(I:Inv X pins σ H s)(d:s'.os=s.os)(u:Un (frs X.stack) ch H H' s.heap s'.heap)(hok:HOk X.prog X.w H' s'.heap)(f:Vd s'.gens)
  (a:∀b∈ch,(b∈X.ex\/X.s₀.heap.objs.size<=b)/\b≠X.env.locals/\(∀x c,X.env.cells.lookup x=on c->c≠b)/\∀p∈X.pn++pins,p.1≠b):Inv X pins σ H' s':=by
 obtain⟨h',g',d',t',g⟩:=s';have e:g=s.os:=d;subst e;exact I.call (g':=g') (t':=t') (d':=d') u hok f a
abbrev XK:=PY->Option PX->Hp->Prop
abbrev St:=List (Option V)
abbrev VK:=V->Hp->Prop
abbrev TE:=St->Hp->VK->Prop
abbrev TT:=St->Hp->(Bool->Hp->Prop)->Prop
abbrev TA:=St->Hp->(List V->Hp->Prop)->Prop
structure Ends where
 nx:St->Hp->Prop
 rt:VK
 bk:St->Hp->Prop:=λ_ _=>False
 ct:St->Hp->Prop:=λ_ _=>False
abbrev TS:=Ends->St->Hp->Prop
def EP(X:Cx)(pins:List (PX×Qy))(σ:St)(Q:VK)(u:PY)(s':P7):Prop:=∃v H',Inv X pins σ H' s'/\aN v u/\Q v H'
def TP(X:Cx)(pins:List (PX×Qy))(σ:St)(Q:Bool->Hp->Prop)(b:Bool)(s':P7):Prop:=∃H',Inv X pins σ H' s'/\Q b H'
def AP(X:Cx)(pins:List (PX×Qy))(σ:St)(Q:List V->Hp->Prop)(us:List PY)(s':P7):Prop:=∃vs H',Inv X pins σ H' s'/\az vs us/\Q vs H'
def SP(X:Cx)(pins:List (PX×Qy))(D:Ends)(f:Flow)(s':P7):Prop:=
 match f with
 | .next=>∃a H',Inv X pins a H' s'/\D.nx a H'
 | .brk=>∃a H',Inv X pins a H' s'/\D.bk a H'
 | .cont=>∃a H',Inv X pins a H' s'/\D.ct a H'
 | .ret u=>∃v a H',Inv X pins a H' s'/\aN v u/\D.rt v H'
def PE(X:Cx)(e:Expr)(t:TE):Prop:=
 ∀(pins:List (PX×Qy)) (s:P7) (σ:St) (H:Hp) (Q:VK),Inv X pins σ H s->t σ H Q->Qi (QA X.prog X.w) X.A (Rk e X.env) (EP X pins σ Q) X.xe s
def PT(X:Cx)(e:Expr)(t:TT):Prop:=
 ∀(pins:List (PX×Qy)) (s:P7) (σ:St) (H:Hp) (Q:Bool->Hp->Prop),Inv X pins σ H s->t σ H Q->Qi (QA X.prog X.w) X.A (isTrue e X.env (Rk e X.env)) (TP X pins σ Q) X.xe s
def PW(X:Cx)(e:Expr)(t:TT):Prop:=
 ∀(a:Sem PY) (pins:List (PX×Qy)) (s:P7) (σ:St) (H:Hp) (Q:Bool->Hp->Prop),Inv X pins σ H s->t σ H Q->Qi (QA X.prog X.w) X.A (isTrue e X.env a) (TP X pins σ Q) X.xe s
theorem PW.pt{X:Cx}(h:PW X e t):PT X e t:=h _
def PA(X:Cx)(es:List Expr)(t:TA):Prop:=
 ∀(pos:UL) (pins:List (PX×Qy)) (s:P7) (σ:St) (H:Hp) (Q:List V->Hp->Prop),Inv X pins σ H s->t σ H Q->Qi (QA X.prog X.w) X.A (spliced (SA pos (Qe es X.env))) (AP X pins σ Q) X.xe s
def PS(X:Cx)(st:Rh)(t:TS):Prop:=
 ∀(pins:List (PX×Qy)) (s:P7) (σ:St) (H:Hp) (D:Ends),Inv X pins σ H s->t D σ H->Qi (QA X.prog X.w) X.A (exec st X.env) (SP X pins D) X.xe s
def PSs(X:Cx)(st:List Rh)(t:TS):Prop:=
 ∀(pins:List (PX×Qy)) (s:P7) (σ:St) (H:Hp) (D:Ends),Inv X pins σ H s->t D σ H->Qi (QA X.prog X.w) X.A (execs st X.env) (SP X pins D) X.xe s
theorem thn{α:Type}{t:Sem α}{Q b:α->P7->Prop}{M:Model}{A:Rg}{E:PY->P7->Prop}{s:P7}(h:Qi M A t Q E s)(c:∀a s,Q a s->b a s):Qi M A t b E s:=Q7 h c λ_ _ x=>x
def q8(i:Nat):TE:=λσ H Q=>∃v,σ[i]?=on (on v)/\Q v H
def tC(v:V):TE:=λ_ H Q=>Q v H
theorem Ml(g:X.N[i]?=on x)(j:Vis X.env.scope x)(hd:(x==("__debug__":QN))=PU:=by decide)(d:(x==("__classdict__":QN))=PU:=by decide):PE X (.Name x pos) (q8 i):=by
 intro pins s σ H Q I h;obtain⟨v,e,h⟩:=h;obtain⟨m,hn,k⟩:=I.loc;obtain⟨u,r,l⟩:=k i x v g e j;have b:EP X pins σ Q u s:=⟨v,H,I,r,h⟩;rcases l with⟨hk,hm⟩|⟨hk,c,f,a⟩
 ·exact wpAny_Name (wpAny_loadName_local I.ok.kind hk hn hm b) hd
 ·rcases hk with hk|hk
  ·exact wpAny_Name (wpAny_loadName_cell I.ok.kind hk f a b) hd
  ·exact wpAny_Name (wpAny_loadName_free I.ok.kind hk f a b d) hd
theorem bS{i j pos}:PE X (.Constant (.int i) j pos) (tC (.int i)):=λ_ _ _ H _ I h=>wpAny_Constant_int ⟨.int i,H,I.tok _,⟨_,rfl⟩,h⟩
theorem OV{b j pos}:PE X (.Constant (.bool b) j pos) (tC (.bl b)):=λ_ _ _ H _ I h=>Constant_bool ⟨.bl b,H,I,rfl,h⟩
theorem Mq{j pos}:PE X (.Constant .none j pos) (tC .non):=λ_ _ _ H _ I h=>Constant_none ⟨.non,H,I,rfl,h⟩
def Gl(X:Cx)(x:QN):Prop:=X.env.kindOf x=on .globalImplicit
theorem rD{E:PY->P7->Prop}{pins:List (PX×Qy)}{s:P7}{σ:St}{H:Hp}(I:Inv X pins σ H s)(a:Gl X x)(hm:X.mg x=on u)(h:Q u s)
  (hd:(x==("__debug__":QN))=PU:=by decide):Qi (QA X.prog X.w) X.A (Rk (.Name x pos) X.env) Q E s:=
 WU I.ok.kind a (Calls.loadGlobal_global (by rw[I.ok.glob];exact I.mod.glob.keeps I.bk) hm h) hd
theorem gf{E:PY->P7->Prop}{pins:List (PX×Qy)}{s:P7}{σ:St}{H:Hp}(I:Inv X pins σ H s)(a:Gl X x)(hm:X.mg x=PH)(b:T9 x=on u)(h:Q u s)
  (hn:x≠"__name__":=by decide) (hd:(x==("__debug__":QN))=PU:=by decide):Qi (QA X.prog X.w) X.A (Rk (.Name x pos) X.env) Q E s:=by
 obtain⟨e,c,d⟩:=I.mod.blt;exact WU I.ok.kind a (Calls.loadGlobal_builtin (by rw[I.ok.glob];exact I.mod.glob.keeps I.bk) hm (by rw[I.ok.blt];exact c.keeps I.bk) ((d x hn).trans b) h) hd
theorem KI(a:Gl X x)(hm:X.mg x=on u)(r:aN v u)(hd:(x==("__debug__":QN))=PU:=by decide):PE X (.Name x pos) (tC v):=
 λ_ _ _ H _ I h=>rD I a hm ⟨v,H,I,r,h⟩ hd
theorem dh(a:Gl X x)(hm:X.mg x=PH)(b:T9 x=on u)(r:aN v u)(hn:x≠"__name__":=by decide)(hd:(x==("__debug__":QN))=PU:=by decide):PE X (.Name x pos) (tC v):=
 λ_ _ _ H _ I h=>gf I a hm b ⟨v,H,I,r,h⟩ hn hd
variable{a b:Expr}{ta tb:TE}{pos:UL}
variable{tA tB':TT}{rest:List Expr}
def tOr(t u:TT):TT:=λσ H Q=>t σ H λc d=>if c=PP then Q PP d else u σ d Q
def tNot(t:TT):TT:=λσ H Q=>t σ H λc d=>Q (!c) d
theorem Me(ha:PT X a tA):PW X (.BoolOp .Or [a] pos) tA:=by
 intro d pins s σ H Q I h;refine isTrue_or (thn (ha pins s σ H Q I h) λc f e=>?_);cases c with
 |false=>exact isTrue_or_nil e
 |true=>exact e
theorem OT(ha:PT X a tA)(f:PW X (.BoolOp .Or (b::rest) pos) tB'):PW X (.BoolOp .Or (a::b::rest) pos) (tOr tA tB'):=by
 intro g pins s σ H Q I h;refine isTrue_or (thn (ha pins s σ H _ I h) λc i ⟨d,e,q1⟩=>?_);cases c with
 |true=>exact⟨d,e,q1⟩
 |false=>exact f g pins i σ d Q e q1
theorem Mg(ha:PT X a tA):PT X (.UnaryOp .Not a pos) (tNot tA):=by
 intro pins s σ H Q I h;exact isTrue_not (ha pins s σ H (λc d=>Q (!c) d) I h)
def ON(ta tb:TE):TE:=λσ H Q=>ta σ H λx d=>∃c,x= .bl c/\if c=PP then tb σ d Q else Q (.bl PU) d
theorem Mp{op}(h:PE X a t):PE X (.BoolOp op [a] pos) t:=λpins s σ H Q I c=>BoolOp_one (h pins s σ H Q I c)
theorem Ms(ha:PE X a ta)(f:PE X (.BoolOp .And (b::rest) pos) tb):PE X (.BoolOp .And (a::b::rest) pos) (ON ta tb):=by
 intro pins s σ H Q I h;refine BoolOp_and (thn (ha pins s σ H _ I h) λv g ⟨x,d,e,r1,q1⟩=>?_);obtain⟨c,rfl,q1⟩:=q1;cases r1;refine Rj ?_;cases c with
 |true=>exact f pins g σ d Q e q1
 |false=>exact⟨.bl PU,d,e,rfl,q1⟩
def tIf(t:TT)(ta tb:TE):TE:=λσ H Q=>t σ H λc d=>if c=PP then ta σ d Q else tb σ d Q
theorem DD(i:PT X c tA)(ha:PE X a ta)(j:PE X b tb):PE X (.IfExp c a b pos) (tIf tA ta tb):=by
 intro pins s σ H Q I h;refine wpAny_IfExp (thn (i pins s σ H _ I h) λd e ⟨f,g,q1⟩=>?_);cases d with
 |true=>exact ha pins e σ f Q g q1
 |false=>exact j pins e σ f Q g q1
def SqL(K:Qp)(H:Hp)(a:PX)(xs:List V):Prop:=
 Rd H a (.lst xs)\/
  ∃(o:Qy) (its:Array PY) (n:Nat),K.lookup a=on o/\o.cls= .type "list"/\o.dict=PH/\o.data= .seq its n/\its.size<=Qk/\az xs its.toList
def SqT(K:Qp)(H:Hp)(a:PX)(xs:List V):Prop:=
 Rd H a (.tup xs)\/
  ∃(o:Qy) (its:Array PY) (n:Nat),K.lookup a=on o/\o.cls= .type "tuple"/\o.data= .seq its n/\its.size<=Qk/\az xs its.toList
noncomputable def absV:PY->Option V
 | .none=>on .non
 | .bool b=>on (.bl b)
 | .int i _=>on (.int i)
 | .str x _=>on (.str x)
 | .ref a=>on (.ref a)
 | .type n=>on (.ty n)
 |_=>PH
theorem aN.abs(r:aN x u):absV u=on x:=by
 cases x with
 |non=>cases r;rfl
 |bl _=>cases r;rfl
 |int _=>obtain⟨t,rfl⟩:=r;rfl
 |str _=>obtain⟨t,rfl⟩:=r;rfl
 |ref _=>cases r;rfl
 |ty _=>cases r;rfl
theorem aN.inj(r:aN x u)(q:aN y u):x=y:=QB (r.abs.symm.trans q.abs)
theorem az.inj:∀{xs ys:List V} {us:List PY},az xs us->az ys us->xs=ys
 |_,_,_,.nil,.nil=>rfl
 |_,_,_,.cons r t,.cons r' t'=>by rw[r.inj r',az.inj t t']
end
section
variable{X:Cx}{pins:List (PX×Qy)}{σ:St}{H:Hp}{s:P7}{a:PX}{xs ys:List V}
theorem SqL.of{K:Qp}(h:H a=on (.lst xs)):SqL K H a xs:= .inl (.inl h)
theorem Inv.list(I:Inv X pins σ H s)(h:SqL X.K H a xs):∃its:List PY,az xs its/\PlainL s.heap a its.toArray/\xs.length<=Qk:=by
 rcases h with h|⟨o,its,n,b,c,hd,hs,d,r⟩
 ·obtain⟨z,its,n,r,e⟩:=h.ok I.hok
  exact⟨its,r,⟨_,n,e,rfl,rfl,rfl⟩,z⟩
 ·refine⟨its.toList,r,⟨o,n,I.kIn a o b,c,hd,by simpa using hs⟩,?_⟩
  have e:=r.length;simp only[QK]at e;omega
theorem Inv.tuple(I:Inv X pins σ H s)(h:SqT X.K H a xs):∃its:List PY,az xs its/\IsTup s.heap a its.toArray/\xs.length<=Qk:=by
 rcases h with h|⟨o,its,n,b,c,hs,d,r⟩
 ·obtain⟨z,its,r,p⟩:=h.ok I.hok
  exact⟨its,r,p,z⟩
 ·refine⟨its.toList,r,⟨o,I.kIn a o b,c,n,by simpa using hs⟩,?_⟩
  have e:=r.length;simp only[QK]at e;omega
theorem Inv.list_inj(I:Inv X pins σ H s)(h:SqL X.K H a xs)(h':SqL X.K H a ys):xs=ys:=by
 obtain⟨its,r,⟨o,n,e,_,_,d⟩,_⟩:=I.list h;obtain⟨its',c,⟨f,g,b,_,_,d'⟩,_⟩:=I.list h';rw[e]at b;cases b;rw[d]at d'
 injection d' with d1 _
 have:its=its':=by simpa using Re Array.toList d1
 subst this;exact r.inj c
theorem Inv.tuple_inj(I:Inv X pins σ H s)(h:SqT X.K H a xs)(h':SqT X.K H a ys):xs=ys:=by
 obtain⟨its,r,⟨o,e,_,n,d⟩,_⟩:=I.tuple h;obtain⟨its',c,⟨f,b,_,g,d'⟩,_⟩:=I.tuple h';rw[e]at b;cases b;rw[d]at d'
 injection d' with d1 _
 have:its=its':=by simpa using Re Array.toList d1
 subst this;exact r.inj c
noncomputable abbrev Cx.wish(X:Cx)(E:PY->P7->Prop):Cx:={X with xe:=E}
noncomputable abbrev Cx.nox(X:Cx):Cx:=X.wish λ_ _=>False
theorem Cx.Ok.wish{X:Cx}(ok:X.Ok)(E:PY->P7->Prop):(X.wish E).Ok:=
 ⟨ok.mod,ok.kind,ok.glob,ok.blt,ok.above,ok.inj,ok.has,ok.cab,ok.hd,ok.frames,ok.stk,ok.exf,ok.bs,ok.bsz,ok.noex,ok.exfs,ok.funs,ok.frf⟩
theorem Cx.Ok.unwish{X:Cx}{E:PY->P7->Prop}(ok:(X.wish E).Ok):X.Ok:=
 ⟨ok.mod,ok.kind,ok.glob,ok.blt,ok.above,ok.inj,ok.has,ok.cab,ok.hd,ok.frames,ok.stk,ok.exf,ok.bs,ok.bsz,ok.noex,ok.exfs,ok.funs,ok.frf⟩
variable{E:PY->P7->Prop}
theorem Inv.wish(I:Inv X pins σ H s)(E:PY->P7->Prop):Inv (X.wish E) pins σ H s:=⟨I.ok.wish E,I.os,I.bare,I.base,I.loc,I.cell,I.free,I.freeC,I.pin,I.hok,I.len⟩
theorem Inv.unwish(I:Inv (X.wish E) pins σ H s):Inv X pins σ H s:=⟨I.ok.unwish,I.os,I.bare,I.base,I.loc,I.cell,I.free,I.freeC,I.pin,I.hok,I.len⟩
theorem SP.unwish{D:Ends}(h:SP (X.wish E) pins D f s'):SP X pins D f s':=by
 cases f with
 |next=>obtain⟨b,c,I,q⟩:=h;exact⟨b,c,I.unwish,q⟩
 |brk=>obtain⟨b,c,I,q⟩:=h;exact⟨b,c,I.unwish,q⟩
 |cont=>obtain⟨b,c,I,q⟩:=h;exact⟨b,c,I.unwish,q⟩
 |ret u=>obtain⟨v,b,c,I,r,q⟩:=h;exact⟨v,b,c,I.unwish,r,q⟩
theorem PSs.nox{st:List Rh}(h:PSs X.nox st t):PSs X st t:=λpins s σ H D I b=>
 Q7 (h pins s σ H D (I.wish _) b) (λ_ _ q=>q.unwish) λ_ _ z=>SG z
variable{st:Rh}{rest:List Rh}{t u:TS}{e:Expr}{te:TE}{pos:UL}
noncomputable def OL:TS:=λD σ H=>D.nx σ H
def tSeq(t u:TS):TS:=λD σ H=>t {D with nx:=u D} σ H
theorem rq:PSs X [] OL:=λ_ _ σ H _ I h=>V8 ⟨σ,H,I,h⟩
theorem cX(c:PS X st t)(d:PSs X rest u):PSs X (st::rest) (tSeq t u):=by
 intro pins s σ H D I h;refine wpAny_execs_cons (thn (c pins s σ H {D with nx:=u D} I h) λf g q=>?_);cases f with
 |next=>
  obtain⟨b,i,j,q⟩:=q;exact d pins g b i D j q
 |ret v=>exact q
 |brk=>exact q
 |cont=>exact q
theorem nF(b:PS X st t):PSs X [st] t:=by
 intro pins s σ H D I h;refine wpAny_execs_cons (thn (b pins s σ H D I h) λf c q=>?_);cases f with
 |next=>exact V8 q
 |ret v=>exact q
 |brk=>exact q
 |cont=>exact q
theorem Inv.quiet{pins:List (PX×Qy)}{σ:St}{H:Hp}{s:P7}(I:Inv X pins σ H s):interactive X.env=PU:=by simp[interactive,I.ok.kind]
def xH(te:TE):TS:=λD σ H=>te σ H λ_ b=>D.nx σ b
theorem dJ(b:PE X e te)(hs:UP e PH pos.line X.env=SB PU:=by rfl):PS X (.Expr e pos) (xH te):=by
 intro pins s σ H D I h;exact wpAny_Expr_any (thn (b pins s σ H _ I h) λv f ⟨x,c,d,r1,q1⟩=>⟨σ,c,d,q1⟩) I.quiet hs
def CC(te:TE):TS:=λD σ H=>te σ H D.rt
theorem ax(b:PE X e te):PS X (.Return (on e) pos) (CC te):=by
 intro pins s σ H D I h;exact wpAny_Return_some (thn (b pins s σ H _ I h) λv f ⟨x,c,d,r1,q1⟩=>⟨x,σ,c,d,r1,q1⟩)
def tIfS(c:TT)(t u:TS):TS:=λD σ H=>c σ H λb d=>if b=PP then t D σ d else u D σ d
theorem IN{a b:List Rh}(j:PT X c tc)(ha:PSs X a t)(k:PSs X b u):PS X (.If c a b pos) (tIfS tc t u):=by
 intro pins s σ H D I h;refine wpAny_If (thn (j pins s σ H _ I h) λd f ⟨g,i,q1⟩=>?_);cases d with
 |true=>exact ha pins f σ g D i q1
 |false=>exact k pins f σ g D i q1
abbrev TG:=V->St->Hp->(St->Hp->Prop)->Prop
abbrev TGs:=List V->St->Hp->(St->Hp->Prop)->Prop
def PG(X:Cx)(b:Expr)(t:TG):Prop:=
 ∀(pins:List (PX×Qy)) (s:P7) (σ:St) (H:Hp) (v:V) (u:PY) (Q:St->Hp->Prop),Inv X pins σ H s->aN v u->t v σ H Q->
  Qi (QA X.prog X.w) X.A (U9 b X.env u) (λ_ s'=>∃c d,Inv X pins c d s'/\Q c d) X.xe s
def PGs(X:Cx)(d:List Expr)(t:TGs):Prop:=
 ∀(pins:List (PX×Qy)) (s:P7) (σ:St) (H:Hp) (vs:List V) (us:List PY) (Q:St->Hp->Prop),Inv X pins σ H s->az vs us->t vs σ H Q->
  Qi (QA X.prog X.w) X.A (assignInOrder ((V1 d X.env).map (·.2)) us) (λ_ s'=>∃b c,Inv X pins b c s'/\Q b c) X.xe s
abbrev HM:=V->V->V->Hp->(Hp->Prop)->Prop
def Ox(X:Cx)(t:HM):Prop:=
 ∀(pins:List (PX×Qy)) (s:P7) (σ:St) (H:Hp) (o i v:V) (b c u:PY) (Q:Hp->Prop),Inv X pins σ H s->aN o b->aN i c->aN v u->t o i v H Q->
  Qi (QA X.prog X.w) X.A (setItem b c u) (λ_ s'=>∃d,Inv X pins σ d s'/\Q d) X.xe s
abbrev TIp:=V->V->Hp->VK->Prop
def PIp(X:Cx)(op:Operator)(t:TIp):Prop:=
 ∀(pins:List (PX×Qy)) (s:P7) (σ:St) (H:Hp) (x y:V) (v u:PY) (Q:VK),Inv X pins σ H s->aN x v->aN y u->t x y H Q->
  Qi (QA X.prog X.w) X.A (inplaceOp op v u) (EP X pins σ Q) X.xe s
def fS(i:Nat):TG:=λv σ H Q=>Q (σ.set i (on v)) H
theorem wJ(b:X.N.Nodup)(c:X.N[i]?=on x)(d:Loc X.env.scope x)(f:X.fn x=PP\/X.env.scope.names.lookup x=on .local:=by first|exact .inl rfl|exact .inr rfl|assumption):PG X (.Name x pos) (fS i):=by
 intro pins s σ H v u Q I r h;exact W5 (o4 I b c d r (λs' g=>⟨_,H,g,h⟩) f)
noncomputable def gNil:TGs:=λvs σ H Q=>vs=[]/\Q σ H
def yp(t:TG)(u:TGs):TGs:=λvs σ H Q=>∃v r,vs=v::r/\t v σ H λb c=>u r b c Q
theorem bq:PGs X [] gNil:=by
 intro pins s σ H vs us Q I r h;obtain⟨e,h⟩:=h;subst e;cases r;exact assignInOrder_nil ⟨σ,H,I,h⟩
theorem aw{e:Expr}{t:TG}{u:TGs}(c:PG X e t)(d:PGs X es u)
  (hs:(V1 (e::es) X.env).map (·.2)=U9 e X.env::(V1 es X.env).map (·.2):=by rfl):PGs X (e::es) (yp t u):=by
 intro pins s σ H vs us Q I r h;obtain⟨v,l,f,h⟩:=h;subst f;cases r with
 |cons r g=>
  rw[hs];refine assignInOrder_cons (thn (c pins s σ H _ _ _ I r h) λ_ i ⟨b,j,k,q1⟩=>?_);exact d pins i b j _ _ Q k g q1
def EM(K:Qp)(n:Nat)(t:TGs):TG:=λv σ H Q=>∃a xs,v= .ref a/\SqT K H a xs/\xs.length=n/\t xs σ H Q
theorem bz{t:TGs}(g:X.calm=PP)(h:PGs X es t)
  (hn:(V1 es X.env).length=n:=by rfl) (c:(V1 es X.env).findIdx? (·.1)=PH:=by rfl):PG X (.Tuple es k pos) (EM X.K n t):=by
 intro pins s σ H v u Q I r d;obtain⟨a,xs,i,j,l,d⟩:=d;subst i;cases r;obtain⟨its,f,m,w⟩:=I.tuple j;refine assign_Tuple_tuple (I.ok.hd g) m (by simp[hn,←l,f.length]) c λh' p=>?_;have q:Inv X pins σ H {s with heap:=h'}:=I.kept (t':=s.toks) λb o e=>p b o (Q5 (Qz e)) e;exact h pins _ σ H xs _ Q q (by simpa using f) d
def M5(to b:TE)(t:HM):TG:=λv σ H Q=>to σ H λo c=>b σ c λi d=>t o i v d λf=>Q σ f
theorem kt{t:HM}(d:PE X o to)(f:PE X i ti)(hs:Ox X t)
  (ha:∀v,U9 (.Subscript o i pos) X.env v=(do
   let b ←UB [v] (Rk o X.env)
   let c ←UB [v,b] (Rk i X.env)
   Ua pos
   UB [v,b,c] (setItem b c v)
   release [v,b,c] []):=by intro _;rfl):PG X (.Subscript o i pos) (M5 to ti t):=by
 intro pins s σ H v u Q I r h;rw[ha];refine My (RH (thn (d pins s σ H _ I h) λb g ⟨x,j,k,r1,q1⟩=>?_));refine My (RH (thn (f pins g σ j _ k q1) λc l ⟨y,m,n,p,q2⟩=>?_));refine My (SK (My (RH (thn (hs pins l σ m x y v b c u _ n r1 p r q2) λ_ A ⟨q,w,q3⟩=>?_))));exact wpAny_release ⟨σ,q,w,q3⟩
def jL(te:TE)(g:TG):TS:=λD σ H=>te σ H λx b=>g x σ b D.nx
theorem fE{tg e:Expr}{te:TE}(b:PE X e te)(c:PG X tg g)(hs:swapsWithSole [tg] e pos.line X.env=SB PU:=by rfl)(d:swappedStores [tg] e X.env=SB PH:=by rfl)
  (f:(V1 [tg] X.env).map (·.2)=[U9 tg X.env]:=by rfl):PS X (.Assign [tg] e pos) (jL te g):=by
 intro pins s σ H D I h;refine wpAny_Assign_stores (thn (b pins s σ H _ I h) λv i ⟨x,j,k,r1,q1⟩=>?_) hs d;rw[f];exact thn (c pins i σ j x v _ k r1 q1) λ_ l q=>q
theorem qe{e:Expr}{te:TE}(b:X.N.Nodup)(c:X.N[i]?=on x)(d:Loc X.env.scope x)(f:PE X e te)(hs:UP e (on (.Name x pos')) pos.line X.env=SB PU:=by rfl)(g:X.fn x=PP\/X.env.scope.names.lookup x=on .local:=by first|exact .inl rfl|exact .inr rfl|assumption):
  PS X (.Assign [.Name x pos'] e pos) (jL te (fS i)):=by
 intro pins s σ H D I h;refine wpAny_Assign_Name (thn (f pins s σ H _ I h) λv m ⟨y,j,k,r1,q1⟩=>?_) hs;exact o4 k b c d r1 (λn l=>⟨_,j,l,q1⟩) g
def LN(i:Nat)(te:TE)(b:TIp):TS:=λD σ H=>∃x,σ[i]?=on (on x)/\te σ H λy c=>b x y c λz d=>D.nx (σ.set i (on z)) d
theorem dY{e:Expr}{te:TE}(o:X.N.Nodup)(n:X.N[i]?=on x)(g:Loc X.env.scope x)(p:PE X e te)(q:PIp X op ti)(B:X.fn x=PP\/X.env.scope.names.lookup x=on .local:=by first|exact .inl rfl|exact .inr rfl|assumption):
  PS X (.AugAssign (.Name x pos') op e pos) (LN i te ti):=by
 intro pins s σ H D I h;obtain⟨v,C,h⟩:=h;obtain⟨m,hn,F⟩:=I.loc;have j:Vis X.env.scope x:=by rcases g with k|k;exact .inl k;exact .inr (.inl k)
 obtain⟨u,r,l⟩:=F i x v n C j;refine wpAny_AugAssign_Name ?_;have go:Qi (QA X.prog X.w) X.A (Rk e X.env) (λw d=>Qi (QA X.prog X.w) X.A (inplaceOp op u w) (λr f=>Qi (QA X.prog X.w) X.A (storeName X.env x r) (λ_=>SP X pins D .next) X.xe f) X.xe d) X.xe s:=by
  refine thn (p pins s σ H _ I h) λw J ⟨y,L,O,r1,q1⟩=>?_;refine thn (q pins J σ L v y u w _ O r r1 q1) λz W ⟨Y,P,Q,R,q2⟩=>?_;exact o4 Q o n g R (λZ T=>⟨_,P,T,q2⟩) B
 rcases l with⟨hk,hm⟩|⟨hk,c,U,b⟩
 ·exact wpAny_loadName_local I.ok.kind hk hn hm go
 ·rcases hk with hk|hk
  ·exact wpAny_loadName_cell I.ok.kind hk U b go
  ·rcases g with k|k
   ·have:X.env.scope.names.lookup x=on .free:=hk
    rw[k]at this;cases this
   ·have:X.env.scope.names.lookup x=on .free:=hk
    rw[k]at this;cases this
def ipI(f:Int->Int->Int):TIp:=λx y H Q=>∃i j,x= .int i/\y= .int j/\Q (.int (f i j)) H
theorem kz:PIp X .Add (ipI λi j=>i+j):=by
 intro pins s σ H x y v u Q I r1 b h;obtain⟨i,j,c,d,q⟩:=h;subst c;subst d;obtain⟨t,rfl⟩:=r1;obtain⟨t',rfl⟩:=b;exact iadd_int ⟨.int _,H,I.tok _,⟨_,rfl⟩,q⟩
theorem MX:PIp X .Sub (ipI λi j=>i-j):=by
 intro pins s σ H x y v u Q I r1 b h;obtain⟨i,j,c,d,q⟩:=h;subst c;subst d;obtain⟨t,rfl⟩:=r1;obtain⟨t',rfl⟩:=b;exact isub_int ⟨.int _,H,I.tok _,⟨_,rfl⟩,q⟩
def LG(c:TT)(i:TS):TS:=λD σ H=>∃W:Nat->St->Hp->Prop,(∃m,W m σ H)/\∀m σ H,W m σ H->
 c σ H λb f=>if b=PP then ∃N:St->Hp->Prop,(∀d g,N d g->∃h,h<m/\W h d g)/\i {D with nx:=N,ct:=N,bk:=D.nx} σ f else D.nx σ f
theorem CV(q:YV (QA X.prog X.w) X.A X.env X.xe)(J:PT X c tc)(L:PSs X body tb):PS X (.While c body [] pos) (LG tc tb):=by
 intro pins s σ H D I h;obtain⟨W,⟨O,P⟩,i⟩:=h;refine wpAny_While (codeAny_whileLoop (λn s'=>∃j r,Inv X pins j r s'/\W n j r) ?_ O ⟨σ,H,I,P⟩);rintro n Q ⟨g,y,R,T⟩;refine Tu q (thn (J pins Q g y _ R (i n g y T)) λb U ⟨B,C,q2⟩=>?_);cases b with
 |true=>
  obtain⟨N,F,q2⟩:=q2;rw[P6 rfl];refine Tu q (thn (L pins U g B _ C q2) λf Y q3=>?_);cases f with
  |next=>
   obtain⟨d,k,l,m⟩:=q3;obtain⟨o,hm,p⟩:=F d k m;exact⟨o,hm,d,k,l,p⟩
  |cont=>
   obtain⟨d,k,l,m⟩:=q3;obtain⟨o,hm,p⟩:=F d k m;exact⟨o,hm,d,k,l,p⟩
  |brk=>exact q3
  |ret v=>exact q3
 |false=>
  rw[P0 P8];exact V8 ⟨g,B,C,q2⟩
structure It where
 go:Nat->Hp->Prop
 yld:Nat->Hp->V->Hp->Prop
 stop:Nat->Hp->Prop
def fm(X:Cx)(pins:List (PX×Qy))(H:Hp)(b:PX):Prop:=
 H b=PH/\b≠X.env.locals/\b∉X.fs/\(b∈X.ex\/X.s₀.heap.objs.size<=b)/\(∀x c,X.env.cells.lookup x=on c->c≠b)/\∀p∈X.pn++pins,p.1≠b
theorem Inv.fpOk{X:Cx}{pins:List (PX×Qy)}{σ:St}{H f:Hp}{s:P7}{b:PX}(I:Inv X pins σ H s)(d:s.heap.objs.size<=b)(hn:f b=PH):fm X pins f b:=by
 refine⟨hn,Te (Qv I.lt d),I.nofs d,.inr (Qg I.sz d),λx c e z=>?_,λp g z=>?_⟩
 ·obtain⟨v,q⟩:=I.cell x c e
  exact Qu (Qv q.lt (by rw[z];exact d)) (Q4 _)
 ·exact Qu (Qv (Qz (I.pin p g).1) (by rw[z];exact d)) (Q4 _)
structure Turn (P:QD) (w:QS) (K:Qp) (tg:Expr) (J:It) (fp:List PX) (it:PX) (tn:Nat->Rl->Prop):Prop where
 mem:it∈fp
 obj:∀i h,tn i h->∀b∈fp,∃o,h.get? b=on o/\∀v,o.data≠ .cell v
 keep:∀i h h',tn i h->(∀b∈fp,∀o,h.get? b=on o->h'.get? b=on o)->tn i h'
 item:∀(X:Cx),X.prog=P->X.w=w->X.K=K->X.calm=PP->∀(i:Nat) (pins:List (PX×Qy)) (s:P7) (σ:St) (H:Hp) (E:PY->P7->Prop),Inv X pins σ H s->(∀b∈fp,fm X pins H b)->tn i s.heap->J.go i H->
  Qi (QA P w) X.A (UC (.ref it)) (λr s1=>∃u,r=on u/\
   Qi (QA P w) X.A (Va tg (.ref it) u) (λ_ s2=>∃x H',Inv X pins σ H' s2/\aN x u/\J.yld i H x H'/\tn (i+1) s2.heap/\∀b∈fp,H' b=PH) E s1) E s
 done:∀(X:Cx),X.prog=P->X.w=w->X.K=K->X.calm=PP->∀(i:Nat) (pins:List (PX×Qy)) (s:P7) (σ:St) (H:Hp) (E:PY->P7->Prop),Inv X pins σ H s->(∀b∈fp,fm X pins H b)->tn i s.heap->J.stop i H->
  Qi (QA P w) X.A (UC (.ref it)) (λr s1=>r=PH/\Inv X pins σ H s1) E s
 self:∀(A:Rg) (i:Nat) (s:P7) (Q:PY->P7->Prop) (E:PY->P7->Prop),tn i s.heap->Q (.ref it) s->Qi (QA P w) A (Wl (.ref it)) Q E s
abbrev TI:=St->Hp->(It->Hp->Prop)->Prop
def PIE(X:Cx)(pins:List (PX×Qy))(σ:St)(tg:Expr)(R:It->Hp->Prop)(c:PY)(f:P7):Prop:=
 ∃(it:PX) (g:List PX) (h:Nat->Rl->Prop) (J:It) (d:Hp),c= .ref it/\Inv X pins σ d f/\Turn X.prog X.w X.K tg J g it h/\h 0 f.heap/\(∀b∈g,fm X pins d b)/\R J d
def PI(X:Cx)(tg b:Expr)(c:TI):Prop:=
 ∀(pins:List (PX×Qy)) (s:P7) (σ:St) (H:Hp) (R:It->Hp->Prop),Inv X pins σ H s->c σ H R->
  Qi (QA X.prog X.w) X.A (Rk b X.env) (λv d=>Qi (QA X.prog X.w) X.A (Wl v) (PIE X pins σ tg R) X.xe d) X.xe s
theorem uj{M:Model}{E:PY->P7->Prop}{s:P7}{u:PY}{o:Qy}(c:s.heap.get? it=on o)(d:o.cls= .type n)(hd:o.data= .fields vs)
  (hn:["enumerate","zip","dict_itemiterator","dict_reverseitemiterator","odict_iterator","itertools.zip_longest","itertools.pairwise"].contains n=PU) (b:Q () s):Qi M A (Va tg (.ref it) u) Q E s:=by
 unfold Va;cases tg<;>first
  |exact PL b
  |(cases u<;>first
   |exact PL b
   |(refine My (wpAny_load c ?_)
     rw[d,hd];show Qi M A (if(["enumerate","zip","dict_itemiterator","dict_reverseitemiterator","odict_iterator","itertools.zip_longest","itertools.pairwise"].contains n&&vs[0]?==on (UD _))=PP then _ else _) Q E s;rw[P0 (by intro h;rw[hn,Ui]at h;cases h)];exact PL b))
noncomputable def Itl(K:Qp)(a:PX):It:=
 ⟨λi H=>∃xs x,SqL K H a xs/\xs[i]?=on x,λi H x b=>b=H/\∀xs,SqL K H a xs->xs[i]?=on x,λi H=>∃xs,SqL K H a xs/\xs.length<=i⟩
noncomputable def Itt(K:Qp)(a:PX):It:=
 ⟨λi H=>∃xs x,SqT K H a xs/\xs[i]?=on x,λi H x b=>b=H/\∀xs,SqT K H a xs->xs[i]?=on x,λi H=>∃xs,SqT K H a xs/\xs.length<=i⟩
noncomputable def Itr(lo:Int)(n:Nat):It:=⟨λi _=>i<n,λi H x b=>b=H/\x= .int (lo+i),λi _=>n<=i⟩
theorem sr{K:Qp}(a it:PX):Turn P w K tg (Itl K a) [it] it (λi h=>h.IsListIter it a i) where
 mem:=by simp
 obj:=λi h st b f=>by
  have e:b=it:=by simpa using f
  subst e;obtain⟨o,e,c,d⟩:=st;exact⟨o,e,λv z=>by rw[d]at z;cases z⟩
 keep:=λi h h' st k=>st.at λo e=>k it (by simp) o e
 item:=by
  intro X m n q L i pins s σ H E I j st r;subst m n q;obtain⟨xs,x,l,y⟩:=r;obtain⟨its,A,p,N⟩:=I.list l;obtain⟨u,O,Q⟩:=A.get y;obtain⟨B,f1,f2,C,F,J⟩:=j it (by simp);refine wpAny_pyNext_list_item st p.isList (x:=u) (by simpa using O) λh' g R=>?_;have T:Inv X pins σ H {s with heap:=h'}:=I.turned (t':=s.toks) (λb o f e=>(R.2 b f).trans e) B f1 C F J;obtain⟨o,e,c,d⟩:=id g;exact⟨u,rfl,uj (s:={s with heap:=h'}) e c d (by decide) ⟨x,H,T,Q,⟨rfl,λys U=>by rw[I.list_inj U l];exact y⟩,g,λb f=>(j b f).1⟩⟩
 done:=by
  intro X m n q L i pins s σ H E I j st r;subst m n q;obtain⟨xs,l,y⟩:=r;obtain⟨its,A,p,N⟩:=I.list l;obtain⟨B,f1,f2,C,F,J⟩:=j it (by simp);have Y:=A.length;exact wpAny_pyNext_list_end (I.ok.hd L) st p.isList (by simp;omega) λh' W=>⟨rfl,I.turned (t':=s.toks) (λb o f e=>W b o f e) B f1 C F J⟩
 self:=λ_ _ _ _ _ st h=>wpAny_pyIter_listiter st h
theorem xC{K:Qp}(a it:PX):Turn P w K tg (Itt K a) [it] it (λi h=>h.IsTupleIter it a i) where
 mem:=by simp
 obj:=λi h st b f=>by
  have e:b=it:=by simpa using f
  subst e;obtain⟨o,e,c,d⟩:=st;exact⟨o,e,λv z=>by rw[d]at z;cases z⟩
 keep:=λi h h' st k=>st.at λo e=>k it (by simp) o e
 item:=by
  intro X m n q L i pins s σ H E I j st r;subst m n q;obtain⟨xs,x,l,y⟩:=r;obtain⟨its,A,p,N⟩:=I.tuple l;obtain⟨u,O,Q⟩:=A.get y;obtain⟨B,f1,f2,C,F,J⟩:=j it (by simp);refine wpAny_pyNext_tuple_item st (show s.heap.IsTuple a its.toArray from p) (x:=u) (by simpa using O) λh' g R=>?_;have T:Inv X pins σ H {s with heap:=h'}:=I.turned (t':=s.toks) (λb o f e=>(R.2 b f).trans e) B f1 C F J;obtain⟨o,e,c,d⟩:=id g;exact⟨u,rfl,uj (s:={s with heap:=h'}) e c d (by decide) ⟨x,H,T,Q,⟨rfl,λys U=>by rw[I.tuple_inj U l];exact y⟩,g,λb f=>(j b f).1⟩⟩
 done:=by
  intro X m n q L i pins s σ H E I j st r;subst m n q;obtain⟨xs,l,y⟩:=r;obtain⟨its,A,p,N⟩:=I.tuple l;obtain⟨B,f1,f2,C,F,J⟩:=j it (by simp);have Y:=A.length;exact wpAny_pyNext_tuple_end (I.ok.hd L) st (show s.heap.IsTuple a its.toArray from p) (by simp;omega) λh' W=>⟨rfl,I.turned (t':=s.toks) (λb o f e=>W b o f e) B f1 C F J⟩
 self:=λ_ _ _ _ _ st h=>wpAny_pyIter_tupleiter st h
theorem xD{K:Qp}(it:PX)(lo:Int)(n:Nat):Turn P w K tg (Itr lo n) [it] it (λi h=>Xl h it (lo+(i:Nat)*1) ((n:Int)-(i:Nat)) 1) where
 mem:=by simp
 obj:=λi h st b c=>by
  have e:b=it:=by simpa using c
  subst e;exact⟨_,st,λv z=>by
   have C:Data.fields _=Data.cell v:=z;cases C⟩
 keep:=λi h h' st k=>k it (by simp) _ st
 item:=by
  intro X g j l m i pins s σ H E I f st p;subst g j l;obtain⟨q,f1,f2,r,y,A⟩:=f it (by simp);have W:=Walks.range (prog:=X.prog) (w:=X.w) (I.ok.hd m) it lo 1 n;refine W.item i s _ _ p st λv h' B F d J=>?_;obtain⟨t,rfl⟩:=F;have L:Inv X pins σ H {s with heap:=h',toks:=B}:=I.turned (λb o c e=>J b o (by simpa using c) e) q f1 r y A;refine⟨_,rfl,uj (s:={s with heap:=h',toks:=B}) (n:="range_iterator") d rfl rfl (by decide) ⟨.int (lo+i),H,L,⟨t,?_⟩,⟨rfl,rfl⟩,d,λb c=>(f b c).1⟩⟩;rw[Int.mul_one]
 done:=by
  intro X g j l m i pins s σ H E I f st p;subst g j l;obtain⟨q,f1,f2,r,y,A⟩:=f it (by simp);exact Zl (I.ok.hd m) st (by have:n<=i:=p;omega) λh' N=>⟨rfl,I.turned (t':=s.toks) (λb o c e=>N b o c e) q f1 r y A⟩
 self:=λ_ _ _ _ _ st h=>V5 st h
variable{tg:Expr}
def Pp(K:Qp)(c:TE):TI:=λσ H R=>c σ H λx b=>∃a,x= .ref a/\(∃xs,SqL K b a xs)/\R (Itl K a) b
theorem KD(f:PE X l tl):PI X tg l (Pp X.K tl):=by
 intro pins s σ H R I h;refine thn (f pins s σ H _ I h) λv c ⟨x,g,d,r1,q1⟩=>?_;obtain⟨a,e,⟨xs,i⟩,q⟩:=q1;subst e;cases r1;obtain⟨its,k,p,m⟩:=d.list i;refine VI p.isList ?_;refine⟨c.heap.objs.size,[c.heap.objs.size],_,_,g,rfl,d.kept (t':=c.toks) λb o e=>PQ _ e,sr a _,⟨_,Qj _ rfl,rfl,rfl⟩,λb j=>?_,q⟩;have e:b=c.heap.objs.size:=by simpa using j
 subst e;exact d.fpOk (P5 _) (d.hok.fresh (P5 _))
theorem uT{pins:List (PX×Qy)}{σ:St}{H:Hp}{s:P7}{E:PY->P7->Prop}{lo c:Int}{t u v:Tok}(I:Inv X pins σ H s)(f:-(2^62)<=lo)(g:lo<2^62)(h:-(2^62)<=c)(i:c<2^62)
  (q:R (Itr lo (c-lo).toNat) H):Qi (QA X.prog X.w) X.A (Wl (.ref s.heap.objs.size)) (PIE X pins σ tg R) E {s with heap:=s.heap.push {cls:= .type "range",data:= .fields #[.int lo t,.int c u,.int 1 v]},toks:=tk}:=by
 refine wpAny_pyIter_range (IsRange.new ..) (small_one f g h i) ?_;have d:Inv X pins σ H {s with heap:=s.heap.push {cls:= .type "range",data:= .fields #[.int lo t,.int c u,.int 1 v]},toks:=tk}:=I.kept λb o e=>PQ _ e;refine⟨(s.heap.push {cls:= .type "range",data:= .fields #[.int lo t,.int c u,.int 1 v]}).objs.size,[(s.heap.push {cls:= .type "range",data:= .fields #[.int lo t,.int c u,.int 1 v]}).objs.size],_,_,H,rfl,
  d.kept (t':=tk) λb o e=>PQ _ e,xD _ lo (c-lo).toNat,?_,λb j=>?_,q⟩
 ·have k:lo+((0:Nat):Int)*1=lo:=by simp
  have l:(((c-lo).toNat:Nat):Int)-((0:Nat):Int)=Wq lo c 1:=by rw[rangeSize_one];split<;>omega
  show Xl _ _ (lo+((0:Nat):Int)*1) ((((c-lo).toNat:Nat):Int)-((0:Nat):Int)) 1;rw[k,l];exact Qj _ rfl
 ·have e:b=(s.heap.push {cls:= .type "range",data:= .fields #[.int lo t,.int c u,.int 1 v]}).objs.size:=by simpa using j
  subst e;exact d.fpOk (P5 _) (d.hok.fresh (P5 _))
def Pn(b:TA):TI:=λσ H R=>b σ H λvs c=>∃j:Int,vs=[.int j]/\-(2^62)<=j/\j<2^62/\R (Itr 0 j.toNat) c
def Pl(b:TA):TI:=λσ H R=>b σ H λvs c=>∃i j:Int,vs=[.int i,.int j]/\(-(2^62)<=i/\i<2^62/\-(2^62)<=j/\j<2^62)/\R (Itr i (j-i).toNat) c
theorem zG{a:Expr}{p pos:UL}(b:Gl X "range")(hm:X.mg "range"=PH)(ha:PA X [a] ta)(hs:Qe [a] X.env=[(PU,Rk a X.env)]:=by rfl):PI X tg (.Call (.Name "range" p) [a] [] pos) (Pn ta):=by
 intro pins s σ H R I h;refine Call_ (gf I b hm boot_range (RB (thn (ha pos pins s σ H _ I h) λus f ⟨vs,g,c,r1,q1⟩=>?_) hs rfl));obtain⟨j,e,q1,q2,q⟩:=q1;subst e;cases r1 with
 |cons r d=>
  cases d;obtain⟨t,rfl⟩:=r;exact call_range_1 (uT c (by omega) (by omega) q1 q2 (by simpa using q))
theorem zF{a b:Expr}{p pos:UL}(f:Gl X "range")(hm:X.mg "range"=PH)(ha:PA X [a,b] ta)(hs:Qe [a,b] X.env=[(PU,Rk a X.env),(PU,Rk b X.env)]:=by rfl)(c:Qe [b] X.env=[(PU,Rk b X.env)]:=by rfl):
  PI X tg (.Call (.Name "range" p) [a,b] [] pos) (Pl ta):=by
 intro pins s σ H R I h;refine Call_ (gf I f hm boot_range (RB (thn (ha pos pins s σ H _ I h) λus l ⟨vs,m,g,r1,q1⟩=>?_) (by rw[hs,c]) (by rw[c];rfl)));obtain⟨i,j,e,⟨q1,q2,q3,q4⟩,q⟩:=q1;subst e;cases r1 with
 |cons r d=>
  cases d with
  |cons k d=>
   cases d;obtain⟨t,rfl⟩:=r;obtain⟨t',rfl⟩:=k;exact call_range_2 (uT g q1 q2 q3 q4 q)
def LM(h:TI)(g:TG)(j:TS):TS:=λD σ H=>h σ H λJ k=>∃W:Nat->Nat->St->Hp->Prop,(∃m,W 0 m σ k)/\∀i m σ H,W i m σ H->
 (J.stop i H/\D.nx σ H)\/(J.go i H/\∃N:St->Hp->Prop,(∀b c,N b c->∃f,f<m/\W (i+1) f b c)/\∀x c,J.yld i H x c->g x σ c λd l=>j {D with nx:=N,ct:=N,bk:=D.nx} d l)
noncomputable def ml(c:List PX)(h:Rl):List (PX×Qy):=c.filterMap λb=>(h.get? b).map λo=>(b,o)
theorem iA{h:Rl}(c:b∈fp)(e:h.get? b=on o):(b,o)∈ml fp h:=U2.mpr ⟨b,c,by rw[e];rfl⟩
theorem zN{h:Rl}{p:PX×Qy}(c:p∈ml fp h):p.1∈fp/\h.get? p.1=on p.2:=by
 obtain⟨b,d,e⟩:=U2.mp c;cases q:h.get? b with
 |none=>rw[q]at e;cases e
 |some o=>
  rw[q]at e;have f:(b,o)=p:=QB e;subst f;exact⟨d,q⟩
theorem Inv.pinned{pins:List (PX×Qy)}{σ:St}{H:Hp}{s:P7}(I:Inv X pins σ H s)(g:∀b∈fp,fm X pins H b)(h:∀b∈fp,∃o,s.heap.get? b=on o/\∀v,o.data≠ .cell v):Inv X (pins++ml fp s.heap) σ H s:=
 I.pins_of λp i=>(RN.mp i).elim (λz=>I.pin p (QV _ z)) λz=>by
  obtain⟨c,e⟩:=zN z;obtain⟨j,f1,f2,_⟩:=g p.1 c;obtain⟨o,f,d⟩:=h p.1 c;rw[e]at f;cases f;exact⟨e,j,f1,f2,d⟩
theorem Inv.unpinned{pins pl:List (PX×Qy)}{σ:St}{H:Hp}{s:P7}(I:Inv X (pins++pl) σ H s):Inv X pins σ H s:=I.pins_of λp b=>I.pin p (QV _ (SU _ b))
theorem bp{pos:UL}(L:YV (QA X.prog X.w) X.A X.env X.xe)(hc:X.calm=PP)(hi:PI X tg iter wi)(hg:PG X tg g)(j:PSs X body tb)
  (hs:∀x,Q0 iter X.env x=SB x:=by intro _;rfl):PS X (.For tg iter body [] pos) (LM wi g tb):=by
 intro pins s σ H D I h;refine wpAny_For (thn (hi pins s σ H _ I h) λv s1 h1=>thn h1 λitv s2 h2=>?_) hs;obtain⟨it,O,tn,J,H2,e,I2,T,Z,f2,W,⟨m0,w0⟩,P⟩:=h2;subst e
 --what stays PP of the iterator's objects through the loop
 have k:∀{B:Hp},(∀b∈O,B b=PH)->∀b∈O,fm X pins B b:=λhn b j=>⟨hn b j,(f2 b j).2⟩;refine codeAny_forLoop_any (λn s'=>∃i l B,Inv X pins l B s'/\tn i s'.heap/\(∀b∈O,B b=PH)/\W i n l B) ?_ m0 ⟨0,σ,H2,I2,Z,λb j=>(f2 b j).1,w0⟩;rintro n s3 ⟨i,p,Y,I3,Q,R,w3⟩;rcases P i n p Y w3 with⟨stop,qn⟩|⟨go,N,hN,step⟩
 ·refine Tu L (thn (T.done X rfl rfl rfl hc i pins s3 p Y X.xe I3 (k R) Q stop) λr s4 ⟨hr,I4⟩=>?_)
  subst hr;exact V8 ⟨p,Y,I4,qn⟩
 ·refine Tu L (thn (T.item X rfl rfl rfl hc i pins s3 p Y X.xe I3 (k R) Q go) λr s4 ⟨u,hr,h4⟩=>?_)
  subst hr;refine Tu L (thn h4 λ_ s5 ⟨x,H5,I5,r5,y5,F,fr5⟩=>?_);have I5':=I5.pinned (k fr5) (T.obj _ _ F);refine Tu L (thn (hg _ s5 p H5 x u _ I5' r5 (step x H5 y5)) λ_ s6 ⟨σ6,H6,I6,q6⟩=>?_);refine Tu L (thn (j _ s6 σ6 H6 _ I6 q6) λf s7 C=>?_);have Xq:∀{c:St} {q:Hp},Inv X (pins++ml O s5.heap) c q s7->N c q->∃m,m<n/\∃i l B,Inv X pins l B s7/\tn i s7.heap/\(∀b∈O,B b=PH)/\W i m l B:=λ{c q} y U=>by
   obtain⟨m',hm,w7⟩:=hN c q U;refine⟨m',hm,i+1,c,q,y.unpinned,T.keep _ _ _ F λb j o e=>(y.pin (b,o) (QV _ (QV _ (iA j e)))).1,λb j=>?_,w7⟩;obtain⟨o,e,d⟩:=T.obj _ _ F b j;exact(y.pin (b,o) (QV _ (QV _ (iA j e)))).2.1
  cases f with
  |next=>obtain⟨c,q,y,U⟩:=C;exact Xq y U
  |cont=>obtain⟨c,q,y,U⟩:=C;exact Xq y U
  |brk=>obtain⟨c,q,y,C⟩:=C;exact⟨c,q,y.unpinned,C⟩
  |ret v=>obtain⟨x7,c,q,y,r7,C⟩:=C;exact⟨x7,c,q,y.unpinned,r7,C⟩
abbrev R2:=V->V->Hp->VK->Prop
def OpR(X:Cx)(f:PY->PY->Sem PY)(r:R2):Prop:=
 ∀(pins:List (PX×Qy)) (s:P7) (σ:St) (H:Hp) (x y:V) (v u:PY) (Q:VK),Inv X pins σ H s->aN x v->aN y u->r x y H Q->
  Qi (QA X.prog X.w) X.A (f v u) (EP X pins σ Q) X.xe s
def UnR(X:Cx)(f:PY->Sem PY)(r:V->Hp->VK->Prop):Prop:=
 ∀(pins:List (PX×Qy)) (s:P7) (σ:St) (H:Hp) (x:V) (v:PY) (Q:VK),Inv X pins σ H s->aN x v->r x H Q->
  Qi (QA X.prog X.w) X.A (f v) (EP X pins σ Q) X.xe s
def dA(X:Cx)(f:PY)(r:List V->Hp->VK->Prop):Prop:=
 ∀(pins:List (PX×Qy)) (s:P7) (σ:St) (H:Hp) (xs:List V) (us:List PY) (Q:VK),Inv X pins σ H s->az xs us->r xs H Q->
  Qi (QA X.prog X.w) X.A (W0 f us) (EP X pins σ Q) X.xe s
def TruR(X:Cx)(r:V->Hp->(Bool->Hp->Prop)->Prop):Prop:=
 ∀(pins:List (PX×Qy)) (s:P7) (σ:St) (H:Hp) (x:V) (v:PY) (Q:Bool->Hp->Prop),Inv X pins σ H s->aN x v->r x H Q->
  Qi (QA X.prog X.w) X.A (truthy v) (TP X pins σ Q) X.xe s
def tOp(r:R2)(b c:TE):TE:=λσ H Q=>b σ H λx d=>c σ d λy f=>r x y f Q
def tUn(r:V->Hp->VK->Prop)(b:TE):TE:=λσ H Q=>b σ H λx c=>r x c Q
def rI(C:Int->Int->Prop)(g:Int->Int->V):R2:=λx y H Q=>∃i j,x= .int i/\y= .int j/\C i j/\Q (g i j) H
def rI0(g:Int->Int->V):R2:=λx y H Q=>∃i j,x= .int i/\y= .int j/\Q (g i j) H
def rU(g:Int->V):V->Hp->VK->Prop:=λx H Q=>∃i,x= .int i/\Q (g i) H
end
section
variable{X:Cx}{a b c:Expr}{ta tb tc:TE}{pos:UL}
theorem FA(ha:PE X a ta)(m:PE X b tb){d:List (PX×Qy)}{s:P7}{e:St}{H:Hp}{R:V->V->Hp->Prop}(I:Inv X d e H s)
  (h:ta e H λx l=>tb e l λy g=>R x y g) {Q:PY->P7->Prop} {f:PY->PY->Sem PY}
  (n:∀v u k x y g,Inv X d e g k->aN x v->aN y u->R x y g->Qi (QA X.prog X.w) X.A (f v u) Q X.xe k):
  Qi (QA X.prog X.w) X.A (Rk a X.env) (λv i=>Qi (QA X.prog X.w) X.A (Rk b X.env) (λu j=>Qi (QA X.prog X.w) X.A (f v u) Q X.xe j) X.xe i) X.xe s:=by
 refine thn (ha d s e H _ I h) λv o ⟨x,l,p,r1,q1⟩=>?_;refine thn (m d o e l _ p q1) λu k ⟨y,g,q,r,q2⟩=>?_;exact n v u k x y g q r1 r q2
theorem dR(e:OpR X (SR op) r)(ha:PE X a ta)(f:PE X b tb):PE X (.BinOp a op b pos) (tOp r ta tb):=by
 intro d s g H Q I h;exact wpAny_BinOp (FA ha f I h λv u i x y j k l m q=>e d i g j x y v u Q k l m q)
theorem OU(f:UnR X (unaryOp op) r)(ha:PE X a ta):PE X (.UnaryOp op a pos) (tUn r ta):=by
 intro d s e H Q I h;exact UnaryOp_ (thn (ha d s e H _ I h) λv g ⟨x,i,j,r1,q1⟩=>f d g e i x v Q j r1 q1)
theorem opI{f:PY->PY->Sem PY}{C:Int->Int->Prop}{g:Int->Int->Int}
  (d:∀(i j:Int) (t u:Tok) (s:P7) (Q:PY->P7->Prop) (E:PY->P7->Prop),C i j->Q (.int (g i j) s.toks) {s with toks:=s.toks+1}->Qi (QA X.prog X.w) X.A (f (.int i t) (.int j u)) Q E s):
  OpR X f (rI C λi j=> .int (g i j)):=by
 intro e s n H x y v u Q I k l h;obtain⟨i,j,rfl,rfl,m,q⟩:=h;obtain⟨t,rfl⟩:=k;obtain⟨t',rfl⟩:=l;exact d i j t t' s _ _ m ⟨.int (g i j),H,I.tok _,⟨_,rfl⟩,q⟩
theorem MB{f:PY->PY->Sem PY}{g:Int->Int->Int}
  (d:∀(i j:Int) (t u:Tok) (s:P7) (Q:PY->P7->Prop) (E:PY->P7->Prop),Q (.int (g i j) s.toks) {s with toks:=s.toks+1}->Qi (QA X.prog X.w) X.A (f (.int i t) (.int j u)) Q E s):
  OpR X f (rI0 λi j=> .int (g i j)):=by
 intro e s m H x y v u Q I k l h;obtain⟨i,j,rfl,rfl,q⟩:=h;obtain⟨t,rfl⟩:=k;obtain⟨t',rfl⟩:=l;exact d i j t t' s _ _ ⟨.int (g i j),H,I.tok _,⟨_,rfl⟩,q⟩
theorem xX{f:PY->PY->Sem PY}{g:Int->Int->Bool}
  (d:∀(i j:Int) (t u:Tok) (s:P7) (Q:PY->P7->Prop) (E:PY->P7->Prop),Q (.bool (g i j)) s->Qi (QA X.prog X.w) X.A (f (.int i t) (.int j u)) Q E s):
  OpR X f (rI0 λi j=> .bl (g i j)):=by
 intro e s m H x y v u Q I k l h;obtain⟨i,j,rfl,rfl,q⟩:=h;obtain⟨t,rfl⟩:=k;obtain⟨t',rfl⟩:=l;exact d i j t t' s _ _ ⟨.bl (g i j),H,I,rfl,q⟩
def CDiv(i j:Int):Prop:=0<j/\j<1073741824
def CPow(i j:Int):Prop:=0<=j/\j<=1000000/\i.natAbs<2^64
def HP(i j:Int):Prop:=(-(2^64)<i/\i<2^64)\/(-(2^64)<j/\j<2^64)
theorem HP.ok(h:HP i j):IntMulOk i j:=by
 rcases h with⟨d,e⟩|⟨d,e⟩
 ·exact .of_left (intBits_le_64 d e)
 ·exact .of_right (intBits_le_64 d e)
theorem qi:OpR X (SR .Add) (rI0 λi j=> .int (i+j)):=MB λ_ _ _ _ _ _ _ q=>add_int q
theorem ge:OpR X (SR .Sub) (rI0 λi j=> .int (i-j)):=MB λ_ _ _ _ _ _ _ q=>sub_int q
theorem Mx:OpR X (SR .Mult) (rI HP λi j=> .int (i*j)):=opI λ_ _ _ _ _ _ _ d q=>mul_int q d.ok
theorem wM:OpR X (SR .FloorDiv) (rI CDiv λi j=> .int (i/j)):=opI λi j _ _ _ _ _ d q=>by
 have e:(0:Int)<j:=d.1;have f:j<1073741824:=d.2;exact floordiv_int (by omega) (by rw[U7 i (by omega)];exact q) (.inl (PyProof.noPylong_small (by omega)))
theorem mo:OpR X (SR .Mod) (rI (λ_ j=>0<j) λi j=> .int (i % j)):=opI λi j _ _ _ _ _ d q=>by
 have e:(0:Int)<j:=d;exact mod_int' (by omega) (by rw[Int.fmod_eq_emod_of_nonneg i (by omega)];exact q)
theorem Mv:OpR X (SR .Pow) (rI CPow λi j=> .int (i^j.toNat)):=opI λ_ _ _ _ _ _ _ d q=>pow_int_small d.1 d.2.1 d.2.2 q
theorem unI{f:PY->Sem PY}{g:Int->Int}
  (d:∀(i:Int) (t:Tok) (s:P7) (Q:PY->P7->Prop) (E:PY->P7->Prop),Q (.int (g i) s.toks) {s with toks:=s.toks+1}->Qi (QA X.prog X.w) X.A (f (.int i t)) Q E s):
  UnR X f (rU λi=> .int (g i)):=by
 intro e s k H x v Q I j h;obtain⟨i,rfl,q⟩:=h;obtain⟨t,rfl⟩:=j;exact d i t s _ _ ⟨.int (g i),H,I.tok _,⟨_,rfl⟩,q⟩
theorem LB:UnR X (unaryOp .USub) (rU λi=> .int (-i)):=unI λ_ _ _ _ _ q=>neg_int q
noncomputable def CM:V->V->Bool
 | .non,.non=>PP| .non,.int _=>PP| .int _,.non=>PP| .non,.bl _=>PP| .bl _,.non=>PP| .non,.str _=>PP| .str _,.non=>PP
 | .int _,.int _=>PP| .bl _,.bl _=>PP| .str _,.str _=>PP
 | .int _,.str _=>PP| .str _,.int _=>PP| .bl _,.str _=>PP| .str _,.bl _=>PP
 |_,_=>PU
noncomputable def rEq:R2:=λx y H Q=>CM x y=PP/\Q (.bl (decide (x=y))) H
noncomputable def rNe:R2:=λx y H Q=>CM x y=PP/\Q (.bl (!decide (x=y))) H
theorem xk:decide (V.int i=V.int j)=(i==j):=by
 rw[VL];simp
theorem dec_bl{i j:Bool}:decide (V.bl i=V.bl j)=(i==j):=by
 rw[VL];simp
theorem xj:decide (V.str i=V.str j)=(i==j):=by
 rw[VL];simp
theorem fin_bl{k d:Bool}(I:Inv X pins σ H s)(q:Q (.bl k) H)(e:k=d):EP X pins σ Q (.bool d) s:=by
 subst e;exact⟨.bl k,H,I,rfl,q⟩
theorem OY:OpR X (Ro .Eq) rEq:=by
 intro f s g H x y v u Q I e d h;obtain⟨hs,q⟩:=h;cases x with
 |non=>
  cases e;cases y with
  |non=>cases d;exact PySem.EqNone.eq_none_none (fin_bl I q (by simp))
  |bl j=>cases d;exact PySem.EqNone.eq_none_bool (fin_bl I q (by simp))
  |int j=>obtain⟨t',rfl⟩:=d;exact PySem.EqNone.eq_none_int (fin_bl I q (by simp))
  |str j=>obtain⟨t',rfl⟩:=d;exact PySem.EqNone.eq_none_str (fin_bl I q (by simp))
  |_=>exact Qu (show PU=PP from hs) P8
 |bl i=>
  cases e;cases y with
  |non=>cases d;exact PySem.EqNone.eq_bool_none (fin_bl I q (by simp))
  |bl j=>cases d;exact eq_bool (fin_bl I q dec_bl)
  |str j=>obtain⟨t',rfl⟩:=d;exact PySem.EqMixed.eq_bool_str (fin_bl I q (by simp))
  |_=>exact Qu (show PU=PP from hs) P8
 |int i=>
  obtain⟨t,rfl⟩:=e;cases y with
  |non=>cases d;exact PySem.EqNone.eq_int_none (fin_bl I q (by simp))
  |int j=>obtain⟨t',rfl⟩:=d;exact eq_int (fin_bl I q xk)
  |str j=>obtain⟨t',rfl⟩:=d;exact PySem.EqMixed.eq_int_str (fin_bl I q (by simp))
  |_=>exact Qu (show PU=PP from hs) P8
 |str i=>
  obtain⟨t,rfl⟩:=e;cases y with
  |non=>cases d;exact PySem.EqNone.eq_str_none (fin_bl I q (by simp))
  |bl j=>cases d;exact PySem.EqMixed.eq_str_bool (fin_bl I q (by simp))
  |int j=>obtain⟨t',rfl⟩:=d;exact PySem.EqMixed.eq_str_int (fin_bl I q (by simp))
  |str j=>obtain⟨t',rfl⟩:=d;exact eq_str (fin_bl I q xj)
  |_=>exact Qu (show PU=PP from hs) P8
 |_=>cases y<;>exact Qu (show PU=PP from hs) P8
theorem OX:OpR X (Ro .NotEq) rNe:=by
 intro f s g H x y v u Q I e d h;obtain⟨hs,q⟩:=h;cases x with
 |non=>
  cases e;cases y with
  |non=>cases d;exact PySem.EqNone.ne_none_none (fin_bl I q (by simp))
  |bl j=>cases d;exact PySem.EqNone.ne_none_bool (fin_bl I q (by simp))
  |int j=>obtain⟨t',rfl⟩:=d;exact PySem.EqNone.ne_none_int (fin_bl I q (by simp))
  |str j=>obtain⟨t',rfl⟩:=d;exact PySem.EqNone.ne_none_str (fin_bl I q (by simp))
  |_=>exact Qu (show PU=PP from hs) P8
 |bl i=>
  cases e;cases y with
  |non=>cases d;exact PySem.EqNone.ne_bool_none (fin_bl I q (by simp))
  |bl j=>cases d;exact ne_bool (fin_bl I q (Re not dec_bl))
  |str j=>obtain⟨t',rfl⟩:=d;exact PySem.EqMixed.ne_bool_str (fin_bl I q (by simp))
  |_=>exact Qu (show PU=PP from hs) P8
 |int i=>
  obtain⟨t,rfl⟩:=e;cases y with
  |non=>cases d;exact PySem.EqNone.ne_int_none (fin_bl I q (by simp))
  |int j=>obtain⟨t',rfl⟩:=d;exact ne_int (fin_bl I q (Re not xk))
  |str j=>obtain⟨t',rfl⟩:=d;exact PySem.EqMixed.ne_int_str (fin_bl I q (by simp))
  |_=>exact Qu (show PU=PP from hs) P8
 |str i=>
  obtain⟨t,rfl⟩:=e;cases y with
  |non=>cases d;exact PySem.EqNone.ne_str_none (fin_bl I q (by simp))
  |bl j=>cases d;exact PySem.EqMixed.ne_str_bool (fin_bl I q (by simp))
  |int j=>obtain⟨t',rfl⟩:=d;exact PySem.EqMixed.ne_str_int (fin_bl I q (by simp))
  |str j=>obtain⟨t',rfl⟩:=d;exact ne_str (fin_bl I q (Re not xj))
  |_=>exact Qu (show PU=PP from hs) P8
 |_=>cases y<;>exact Qu (show PU=PP from hs) P8
theorem qh:OpR X (Ro .Lt) (rI0 λi j=> .bl (decide (i<j))):=xX λ_ _ _ _ _ _ _ q=>lt_int q
theorem jA:OpR X (Ro .LtE) (rI0 λi j=> .bl (decide (i<=j))):=xX λ_ _ _ _ _ _ _ q=>le_int q
theorem tZ:OpR X (Ro .Gt) (rI0 λi j=> .bl (decide (j<i))):=xX λ_ _ _ _ _ _ _ q=>gt_int q
theorem IQ:OpR X (Ro .GtE) (rI0 λi j=> .bl (decide (j<=i))):=xX λ_ _ _ _ _ _ _ q=>ge_int q
theorem uZ:OpR X (Ro .Is) (λx y H Q=>y= .non/\Q (.bl (decide (x= .non))) H):=by
 intro d s g H x y v u Q I e f h;obtain⟨rfl,q⟩:=h;cases f;refine is_none_gen (fin_bl I q ?_);cases x<;>first
  |(cases e;rfl)
  |(obtain⟨t,rfl⟩:=e;rfl)
theorem OpR.or(h:OpR X f r)(h':OpR X f r'):OpR X f (λx y H Q=>r x y H Q\/r' x y H Q):=by
 intro d s e H x y v u Q I g i q;rcases q with q|q
 ·exact h d s e H x y v u Q I g i q
 ·exact h' d s e H x y v u Q I g i q
theorem u6(b:Expr)(h:op≠ .In:=by decide)(d:op≠ .NotIn:=by decide):UV op b=PU:=by
 have e:(op==CmpOp.In)=PU:=by cases op<;>first|rfl|exact Qu rfl h
 have f:(op==CmpOp.NotIn)=PU:=by cases op<;>first|rfl|exact Qu rfl d
 cases b<;>simp[UV,e,f]
theorem KJ(e:OpR X (Ro op) r)(ha:PE X a ta)(f:PE X b tb)(hm:UV op b=PU):PE X (.Compare a [op] [b] pos) (tOp r ta tb):=by
 intro d s g H Q I h;exact wpAny_Compare1 (FA ha f I h λv u i x y j k l m q=>e d i g j x y v u Q k l m q) hm
def xF(t:TE):TT:=λd H Q=>t d H λx e=>∃k,x= .bl k/\Q k e
theorem wE(g:OpR X (Ro op) r)(ha:PE X a ta)(i:PE X b tb)(hm:UV op b=PU):PT X (.Compare a [op] [b] pos) (xF (tOp r ta tb)):=by
 intro d s f H Q I h;refine wpAny_isTrue_Compare1 (thn (ha d s f H _ I h) λv j ⟨x,l,m,r1,q1⟩=>thn (i d j f l _ m q1) λu n ⟨y,o,p,q,q2⟩=>
  thn (g d n f o x y v u _ p r1 q q2) λc B ⟨z,t,w,A,k,e,q3⟩=>?_) hm
 subst e;cases A;exact Rj ⟨t,w,q3⟩
def yY(r f:R2)(ta tb tc:TE):TE:=λd H Q=>ta d H λx g=>tb d g λy h=>r x y h λz e=>∃k,z= .bl k/\
 (if k=PP then tc d e λi j=>f y i j Q else Q (.bl PU) e)
theorem CU(n:OpR X (Ro op) r)(i:OpR X (Ro op') r')(ha:PE X a ta)(o:PE X b tb)(p:PE X c tc)
  (hm:Y5 [op,op'] [b,c]=PU:=by with_unfolding_all rfl):PT X (.Compare a [op,op'] [b,c] pos) (xF (yY r r' ta tb tc)):=by
 intro f s g H Q I h;refine isTrue_chain (thn (ha f s g H _ I h) λv q ⟨x,t,w,r1,q1⟩=>test_link (thn (o f q g t _ w q1) λu A ⟨y,B,C,j,q2⟩=>
  thn (n f A g B x y v u _ C r1 j q2) λd F ⟨z,l,m,J,k,e,q3⟩=>?_)) hm
 subst e;cases J;refine Rj ?_;cases k with
 |false=>
  obtain⟨k',L,N⟩:=q3;cases L;exact ite_ff ⟨l,m,N⟩
 |true=>
  refine ite_tt (test_last (thn (p f F g l _ m q3) λO P ⟨R,T,U,W,q4⟩=>thn (i f P g T y R u O _ U j W q4) λd' s5 ⟨z2,Y,Z,r5,k2,e2,q5⟩=>?_));subst e2;cases r5;exact Rj ⟨Y,Z,q5⟩
def HL(K:Qp)(x:V)(H:Hp)(k:Bool):Prop:=
 match x with
 | .non=>k=PU
 | .bl b=>k=b
 | .int i=>k=(i !=0)
 | .str y=>y.length<=Qk/\k=((y.length:Int) !=0)
 | .ref p=>(∃xs,SqL K H p xs/\k=!xs.isEmpty)\/∃xs,SqT K H p xs/\k=!xs.isEmpty
 |_=>False
theorem qy(r:az xs its):(!its.toArray.isEmpty)=!xs.isEmpty:=by
 cases r<;>simp
theorem mw:(Qk:Nat)<2^63:=by rw[Si];decide
theorem LD:TruR X (λx H Q=>∃k,HL X.K x H k/\Q k H):=by
 intro l s n H x v Q I f h;obtain⟨k,e,q⟩:=h;have o:=mw;have hs:Qk=16777216:=Si;cases x with
 |non=>
  cases f;have d:k=PU:=e;subst d;exact truthy_none ⟨H,I,q⟩
 |bl b=>
  cases f;have d:k=b:=e;subst d;exact Rj ⟨H,I,q⟩
 |int i=>
  obtain⟨t,rfl⟩:=f;have d:k=(i !=0):=e;subst d;exact PySem.P.truthy_int ⟨H,I,q⟩
 |str y=>
  obtain⟨t,rfl⟩:=f;obtain⟨u,d⟩:y.length<=Qk/\k=((y.length:Int) !=0):=e;subst d;exact PySem.P.truthy_str (by omega) ⟨H,I.tok _,q⟩
 |ref p=>
  cases f;have d:(∃xs,SqL X.K H p xs/\k=!xs.isEmpty)\/∃xs,SqT X.K H p xs/\k=!xs.isEmpty:=e;rcases d with⟨xs,j,d⟩|⟨xs,j,d⟩
  ·subst d
   obtain⟨its,r,pl,m⟩:=I.list j;have g:=r.length;exact wpAny_truthy_list pl.isList (by simp only[Qo];omega) ⟨H,I.tok _,by rw[qy r];exact q⟩
  ·subst d
   obtain⟨its,r,pl,m⟩:=I.tuple j;have g:=r.length;exact truthy_tuple pl (by simp only[Qo];omega) ⟨H,I.tok _,by rw[qy r];exact q⟩
 |_=>exact(show False from e).elim
theorem CT(ha:PE X a ta)(i:∀d,isTrue a X.env d=(do let v ←d;Ua a.pos;UB [v] (truthy v))):
  PT X a (λf H Q=>ta f H λx g=>∃k,HL X.K x g k/\Q k g):=by
 intro e s f H Q I h;exact isTrue_plain (thn (ha e s f H _ I h) λv j ⟨x,l,m,r1,q1⟩=>LD e j f l x v Q m r1 q1) (i _)
theorem kN(r:az [x] us):∃u,us=[u]/\aN x u:=by
 cases r with
 |cons r1 d=>cases d;exact⟨_,rfl,r1⟩
theorem tQ(r:az [x,y] us):∃u d,us=[u,d]/\aN x u/\aN y d:=by
 cases r with
 |cons r1 e=>
  cases e with
  |cons f g=>cases g;exact⟨_,_,rfl,r1,f⟩
theorem EW:dA X (.builtin "abs") (λxs H Q=>∃i,xs=[.int i]/\Q (.int (if i<0 then -i else i)) H):=by
 intro d s e H xs us Q I r h;obtain⟨i,rfl,q⟩:=h;obtain⟨u,rfl,t,rfl⟩:=kN r;exact call_abs_int λu f=>⟨.int (if i<0 then -i else i),H,I.tok _,⟨_,rfl⟩,q⟩
theorem tw(f:X.calm=PP):dA X (.builtin "max") (λxs H Q=>∃i j,xs=[.int i,.int j]/\Q (.int (if j>i then j else i)) H):=by
 intro e s g H xs us Q I r h;obtain⟨i,j,rfl,q⟩:=h;obtain⟨u,l,rfl,⟨t,rfl⟩,⟨t',rfl⟩⟩:=tQ r;refine max_two_ints (I.ok.hd f) λh' m k=>⟨_,H,I.kept k,?_,q⟩;by_cases d:j>i
 ·rw[P6 d,P6 d];exact⟨_,rfl⟩
 ·rw[P0 d,P0 d];exact⟨_,rfl⟩
theorem jG(f:X.calm=PP):dA X (.builtin "min") (λxs H Q=>∃i j,xs=[.int i,.int j]/\Q (.int (if j<i then j else i)) H):=by
 intro e s g H xs us Q I r h;obtain⟨i,j,rfl,q⟩:=h;obtain⟨u,l,rfl,⟨t,rfl⟩,⟨t',rfl⟩⟩:=tQ r;refine min_two_ints (I.ok.hd f) λh' m k=>⟨_,H,I.kept k,?_,q⟩;by_cases d:j<i
 ·rw[P6 d,P6 d];exact⟨_,rfl⟩
 ·rw[P0 d,P0 d];exact⟨_,rfl⟩
structure ObjM (h:Rl) (x dx C:PX) (mA:QN->Option PY):Prop where
 obj:h.get? x=on (Wu C dx)
 ns:h.Ns1 dx mA
 ne:dx≠x
theorem zY{h:Rl}(n:h.Ns1 dx mA):∃f,h.get? dx=on f/\∀name,lookIn name f=on (mA name):=by
 obtain⟨o,es,ep,g,hd,i,_,hm⟩:=n;refine⟨o,g,λname=>?_⟩;have e:=hm name;unfold nsFind findBy at e;rw[←Array.find?_toList]at e;unfold lookIn;rw[hd]
 dsimp only
 split
 ·rename_i y q
  rw[q]at e;exact Re on e
 ·rename_i q
  rw[q]at e;have a:es.toList.any (·.refKey)=PU:=by
   rw[Za];intro y j;obtain⟨z,t,d⟩:=i y (Array.mem_toList_iff.mp j);simp[DictEntry.refKey,d]
  have k:¬es.toList.any (·.refKey)=PP:=by rw[a];exact P8
  rw[P0 k];exact Re on e
theorem ObjM.look(I:ObjM h x dx C mA):∃d,PySem.W.InstAt h x (Wu C dx) C (on d)/\∀name,lookIn name d=on (mA name):=
 let ⟨d,ho,hl⟩:=zY I.ns
 ⟨d,⟨I.obj,rfl,rfl,ho⟩,hl⟩
variable{prog:QD}{w:QS}{A:Rg}{E:PY->P7->Prop}{s:P7}{K:Qp}{x dx C f:PX}{mA:QN->Option PY}{name:QN}{v:PY}
theorem Le{d:Bool}(X:K.In s.heap)(I:ObjM s.heap x dx C mA)(g:plainGet K C name=PP)(i:hasDictIn K C=PP)
  (ha:Uo K (.ref C) name=on PH) (j:mA name=on v) (e:YA v=PP) (h:Q v {s with toks:=s.toks+1}):
  Qi (QA prog w) A (getAttr (.ref x) name d) Q E s:=by
 obtain⟨l,J,k⟩:=I.look;exact PySem.W.get_value X J (plainGet_of g).1 (PySem.W.findObj_own i ha rfl (by rw[k,j])) e h
theorem EL(X:K.In s.heap)(I:ObjM s.heap x dx C mA)(d:plainGet K C name=PP)
  (e:Uo K (.ref C) name=on (on (.ref f))) (g:isFn K (.ref f)=PP) (i:mA name=PH) (h:Q (.ref f,[.ref x]) s):
  Qi (QA prog w) A (Wt (.ref x) name pl) Q E s:=by
 obtain⟨j,J,k⟩:=I.look;exact PySem.W.method_fn X J (plainGet_of d).1 (plainGet_of d).2 e (beq_iff_eq.mp g) (by show(lookIn name j).map (·.isSome)=on PU;rw[k,i];rfl) h
theorem Km{ns:List QN}(X:K.In s.heap)(I:ObjM s.heap x dx C mA)
  (hs:Uo K (.ref C) "__setattr__"=on (on (.builtin "object.__setattr__"))) (l:Ym K C=PP) (m:takerIn K C name=on PH) (n:hasDictIn K C=PP)
  (o:Wh mA ns) (p:ns.length<=Qk)
  (h:∀h',ObjM h' x dx C (λy=>if y=name then on v else mA y)->QE dx s.heap h'->Q () {s with heap:=h',toks:=s.toks+2}):
  Qi (QA prog w) A (setAttr (.ref x) name v) Q E s:=by
 obtain⟨F,J,H⟩:=I.look;refine PySem.W.set_plain X J hs (PySem.W.osa_open (s:={s with toks:=s.toks+1}) (r:=PH) X J l m λb=>?_);obtain⟨cd,q,g⟩:=PySem.W.any_some n;have t:s.heap.get? x=on ⟨.ref C,on dx,.plain,#[]⟩:=I.obj;refine My (PL (My (My (wpAny_loadPart t (My (PySem.W.Looks.here (s:={s with toks:=s.toks+1}) (PySem.W.looks_clsIn X q) ?_))))));rw[g];refine PL (a:=on dx) (My (PL (My ?_)));refine wpAny_nsSet1 (s:={s with toks:=s.toks+1}) I.ns λh' d e=>?_;obtain⟨L,u,B,i,j,k⟩:=d.count (Wh.cons name v o);refine My (wpAny_lookBehind i (by rw[j];exact pastItsLine_dict (Qg k (by rw[Qa];omega))) ?_);exact PL (h _ ⟨(e.2 _ (Ne.symm I.ne)).trans I.obj,d,I.ne⟩ e)
theorem DO(X:K.In s.heap)(hm:YW K C=PP)
  (e:Uo K (.ref C) "__init__"=on (on (.ref f))) (i:PySem.W.typeIn K (.ref f)=on (.type "function"))
  (h:Uk (QA prog w) (A.under (.builtin "type.__call__" ⟨.ref C::vs,kw⟩)) (.call (.ref f) ⟨.ref (s.heap.objs.size+1)::vs,kw⟩) (PySem.W.InitBack (s.heap.objs.size+1) R)
   {s with heap:=(s.heap.push UO).push (Wu C s.heap.objs.size)}):
  Uk (QA prog w) A (.call (.ref C) ⟨vs,kw⟩) R s:=by
 obtain⟨j,g,d,t,os⟩:=s;exact PySem.W.make_core (PySem.W.makes_of X hm) (PySem.W.looks_findIn X e) (λself=>PySem.W.bind_fn X self i) (.inl rfl) h
noncomputable def dI(f:QN)(v:V):List (QN×V)->List (QN×V)
 |[]=>[(f,v)]
 |(g,x)::r=>if g=f then(g,v)::r else(g,x)::dI f v r
theorem oS(f g:QN)(v:V):∀fs:List (QN×V),(dI f v fs).lookup g=if g=f then on v else fs.lookup g
 |[]=>by
  show UF g [(f,v)]=_;by_cases h:g=f
  ·have d:(g==f)=PP:=beq_iff_eq.mpr h
   simp only[UF,d,P6 h]
  ·have d:(g==f)=PU:=beq_eq_false_iff_ne.mpr h
   simp only[UF,d,P0 h]
 |(k,x)::r=>by
  have ih:=oS f g v r;rw[show dI f v ((k,x)::r)=(if k=f then(k,v)::r else(k,x)::dI f v r)from rfl];by_cases i:k=f
  ·rw[P6 i]
   by_cases h:g=k
   ·have d:(g==k)=PP:=beq_iff_eq.mpr h
    simp only[UF,d,P6 (h.trans i)]
   ·have d:(g==k)=PU:=beq_eq_false_iff_ne.mpr h
    simp only[UF,d,P0 (λe:g=f=>h (e.trans i.symm))]
  ·rw[P0 i]
   by_cases h:g=k
   ·have d:(g==k)=PP:=beq_iff_eq.mpr h
    simp only[UF,d,P0 (λe:g=f=>i (h.symm.trans e))]
   ·have d:(g==k)=PU:=beq_eq_false_iff_ne.mpr h
    simp only[UF,d];exact ih
theorem mz(f:QN)(v:V):∀fs:List (QN×V),f∈(dI f v fs).map (·.1)/\∀g,g∈fs.map (·.1)->g∈(dI f v fs).map (·.1)
 |[]=>⟨by simp[dI],λg h=>by simp at h⟩
 |(k,x)::r=>by
  obtain⟨i,j⟩:=mz f v r;rw[show dI f v ((k,x)::r)=(if k=f then(k,v)::r else(k,x)::dI f v r)from rfl];by_cases d:k=f
  ·rw[P6 d]
   subst d;exact⟨by simp,λg h=>by simpa using h⟩
  ·rw[P0 d]
   refine⟨?_,λg h=>?_⟩
   ·rw[Qb]
    exact PN _ i
   ·rw[Qb]at h⊢
    rcases Qf.mp h with e|e
    ·exact Qf.mpr (.inl e)
    ·exact PN _ (j g e)
theorem oU(f:QN)(v:V):∀fs:List (QN×V),(dI f v fs).length<=fs.length+1
 |[]=>by simp[dI]
 |(k,x)::r=>by
  have ih:=oU f v r;rw[show dI f v ((k,x)::r)=(if k=f then(k,v)::r else(k,x)::dI f v r)from rfl];by_cases d:k=f
  ·rw[P6 d,Qa,Qa];omega
  ·rw[P0 d,Qa,Qa];omega
theorem ij.some_of{v:V}(r:ij (on v) o):∃u,o=on u/\aN v u:=by
 cases o with
 |none=>exact(show False from r).elim
 |some u=>exact⟨u,rfl,r⟩
theorem ij.none_of(r:ij PH o):o=PH:=by
 cases o with
 |none=>rfl
 |some u=>exact(show False from r).elim
theorem AQ{v:V}(r:aN v u):YA u=PP:=by
 cases v with
 |non=>cases(show u=Rc from r);rfl
 |bl b=>cases(show u=Wa b from r);rfl
 |int i=>obtain⟨t,e⟩:=(show ∃t,u=TD i t from r);cases e;rfl
 |str x=>obtain⟨t,e⟩:=(show ∃t,u=Zf x t from r);cases e;rfl
 |ref a=>cases(show u=Qs a from r);rfl
 |ty n=>cases(show u=SW n from r);rfl
end
section
variable{P:QD}{w:QS}{H H':Hp}{h h':Rl}{a C dx:PX}{fs fs':List (QN×V)}
theorem kA(hok:HOk P w H h)(e:H a=on (.ins C dx fs)):∃b,ObjM h a dx C b/\(∀f,ij (fs.lookup f) (b f))/\Wh b (fs.map (·.1))/\fs.length<=1000/\H dx=on (.own a):=by
 obtain⟨d,z,ne,c,b,n,r,q⟩:=(show bH P w H h a (.ins C dx fs)from hok a _ e);exact⟨b,⟨c,n,ne⟩,r,q,z,d⟩
structure Cls (K:Qp) (C:PX):Prop where
 pg:plainGet K C TR=PP
 hd:hasDictIn K C=PP
 po:Ym K C=PP
 sa:Uo K (.ref C) "__setattr__"=on (on (.builtin "object.__setattr__"))
theorem Cls.get{K:Qp}{C:PX}(c:Cls K C)(f:QN):plainGet K C f=PP:=c.pg
def d6(K:Qp)(C:PX)(f:QN):Prop:=Uo K (.ref C) f=on PH
theorem d6.taker{K:Qp}{C:PX}(n:d6 K C f):takerIn K C f=on PH:=by
 unfold takerIn;rw[show Uo K (.ref C) f=on PH from n];rfl
structure Meth (K:Qp) (C:PX) (m:QN) (f:PX):Prop where
 at_:Uo K (.ref C) m=on (on (.ref f))
 fn:isFn K (.ref f)=PP
 kp:Vt K (.ref f)=PP
variable{X:Cx}{pins:List (PX×Qy)}{σ:St}{s:P7}{f:QN}{v:V}{A:Rg}{E:PY->P7->Prop}
theorem ym{b:Bool}(I:Inv X pins σ H s)(e:H a=on (.ins C dx fs))(c:Cls X.K C)(n:d6 X.K C f)(l:fs.lookup f=on v)
  (h:∀u s',Inv X pins σ H s'->aN v u->Q u s'):Qi (QA X.prog X.w) A (getAttr (.ref a) f b) Q E s:=by
 obtain⟨g,O,r,_,_,_⟩:=kA I.hok e;obtain⟨u,i,d⟩:=ij.some_of (v:=v) (o:=g f) (by rw[←l];exact r f);exact Le I.kIn O (c.get f) c.hd n i (AQ d) (h u _ (I.tok _) d)
theorem qD(I:Inv X pins σ H s)(e:H a=on (.ins C dx fs))(c:Cls X.K C)(k:Meth X.K C m g)(l:fs.lookup m=PH)
  (h:Q (.ref g,[.ref a]) s):Qi (QA X.prog X.w) A (Wt (.ref a) m pl) Q E s:=by
 obtain⟨b,O,r,_,_,_⟩:=kA I.hok e;have hn:b m=PH:=ij.none_of (by rw[←l];exact r m);exact EL I.kIn O (c.get m) k.at_ k.fn hn h
theorem xM(I:Inv X pins σ H s)(e:H a=on (.ins C dx fs))(c:Cls X.K C)(n:d6 X.K C f)(F:fs.length<1000)(l:aN y u)
  (h:∀s',Inv X pins σ (upd H a (.ins C dx (dI f y fs))) s'->Q () s'):Qi (QA X.prog X.w) A (setAttr (.ref a) f u) Q E s:=by
 obtain⟨i,O,r,j,_,k⟩:=kA I.hok e;have m:(fs.map (·.1)).length<=Qk:=by rw[PF,Si];omega
 refine Km I.kIn O c.sa c.po n.taker c.hd j m λh' d p=>h _ ?_;have hd:∃o,h'.get? dx=on o:=let ⟨o,_,_,e',_⟩:=d.ns;⟨o,e'⟩
 refine I.write (x:=a) (e:=dx) (by rw[e];exact Tz) (.inr k) (λb q t z=>(p.2 b t).trans z) hd ?_;refine⟨by rw[upd_ne O.ne];exact k,?_,O.ne,d.obj,_,d.ns,λg=>?_,λg B=>?_⟩
 ·have:=oU f y fs;omega
 ·show ij ((dI f y fs).lookup g) (if g=f then on u else i g)
  rw[oS];by_cases q:g=f
  ·rw[P6 q,P6 q];exact l
  ·rw[P0 q,P0 q];exact r g
 ·by_cases q:g=f
  ·rw[q];exact(mz f y fs).1
  ·refine(mz f y fs).2 g (j g λz=>B ?_)
   show(if g=f then on u else i g)=PH;rw[P0 q];exact z
theorem Inv.made(I:Inv X pins σ H s):Inv X pins σ (upd (upd H s.heap.objs.size (.own (s.heap.objs.size+1))) (s.heap.objs.size+1) (.ins C s.heap.objs.size []))
  {s with heap:=(s.heap.push UO).push (Wu C s.heap.objs.size)}:=by
 have c:(s.heap.push UO).get? s.heap.objs.size=on UO:=Qj s.heap rfl;have d:((s.heap.push UO).push (Wu C s.heap.objs.size)).get? (s.heap.objs.size+1)=on (Wu C s.heap.objs.size):=by
  have:=Qj (s.heap.push UO) (o:=Wu C s.heap.objs.size) rfl;rwa[RJ]at this
 have g:(s.heap.push UO).Ns s.heap.objs.size (λ_=>PH):=⟨UO,#[],_,c,rfl,(λe i=>Qu i (by simp)),λ_=>rfl⟩;have j:=I.laid (a:=s.heap.objs.size) (o:= .own (s.heap.objs.size+1)) (h':=s.heap.push UO) (t':=s.toks) (λb u q=>PQ _ q) (P5 _) ⟨_,c⟩;refine j.laid (a:=s.heap.objs.size+1) (o:= .ins C s.heap.objs.size []) (t':=s.toks) (λb u q=>PQ _ q) (Nat.le_of_eq (RJ _ _)) ?_;have ne:s.heap.objs.size≠s.heap.objs.size+1:=Q5 (VC _);refine⟨by rw[upd_ne ne,aq],Rr _,ne,d,λ_=>PH,(Heap.Ns1.of_empty g).at λo q=>PQ _ q,λ_=>Tz,λy k=>Qu rfl k⟩
theorem Lu{w:QS}{f:QN}{s:P7}(c:Uh e f env (Rk e env)=Rk e env)
  (h:Qi (QA prog w) A (Rk e env) (λo b=>Qi (QA prog w) A (getAttr o f PP) Q E b) E s):Qi (QA prog w) A (Rk (.Attribute e f pos) env) Q E s:=
 Attribute_any_ h (by rw[arm_eval_Attribute,c])
def tFld(K:Qp)(c:TE)(f:QN):TE:=λσ H Q=>c σ H λx b=>∃a C dx fs v,x= .ref a/\b a=on (.ins C dx fs)/\Cls K C/\d6 K C f/\fs.lookup f=on v/\Q v b
def LY(K:Qp)(c d:TE)(f:QN):TS:=λD σ H=>d σ H λy e=>c σ e λx b=>∃a C dx fs,x= .ref a/\b a=on (.ins C dx fs)/\Cls K C/\d6 K C f/\fs.length<1000/\
 D.nx σ (upd b a (.ins C dx (dI f y fs)))
variable{o e value:Expr}{pos pos' tpos:UL}{ta tv:TE}
theorem Mr(b:PE X e ta)(d:Uh e f X.env (Rk e X.env)=Rk e X.env):PE X (.Attribute e f pos) (tFld X.K ta f):=by
 intro pins s σ H Q I h;refine Lu d (thn (b pins s σ H _ I h) λu r ⟨x,g,i,j,a,C,dx,fs,v,ex,k,c,n,l,q⟩=>?_);subst ex;obtain rfl:u=Qs a:=j;exact ym i k c n l λt y m p=>⟨v,g,m,p,q⟩
theorem qf(ha:PE X o ta)(b:PE X value tv)(hs:UP value (on (.Attribute o f pos')) pos.line X.env=SB PU):PS X (.Assign [.Attribute o f pos'] value pos) (LY X.K ta tv f):=by
 intro pins s σ H D I h;refine plainObj_wpAny_Assign_Attribute (thn (b pins s σ H _ I h) λu d ⟨y,g,i,j,q⟩=>thn (ha pins d σ g _ i q) λk B ⟨x,F,m,p,a,C,dx,fs,ex,r,c,n,l,q2⟩=>?_) hs;subst ex;obtain rfl:k=Qs a:=p;exact xM m r c n l j λJ t=>⟨σ,_,t,q2⟩
variable{Q:PY->P7->Prop}{c:PY}{b:Bool}
inductive TyOf (K:Qp) (H:Hp):V->PY->Prop where
 |non:TyOf K H .non (.type "NoneType")
 |bl (x:Bool):TyOf K H (.bl x) (.type "bool")
 |int (i:Int):TyOf K H (.int i) (.type "int")
 |str (x:QN):TyOf K H (.str x) (.type "str")
 |lst {a:PX} {xs:List V} (e:H a=on (.lst xs)):TyOf K H (.ref a) (.type "list")
 |frz {a:PX} {o:Qy} {xs:List V} (e:H a=on (.frz o (.lst xs))):TyOf K H (.ref a) (.type "list")
 |tup {a:PX} {xs:List V} (e:H a=on (.tup xs)):TyOf K H (.ref a) (.type "tuple")
 |ins {a C dx:PX} {fs:List (QN×V)} (e:H a=on (.ins C dx fs)) (cl:Cls K C) (ha:Uo K (.ref C) "__class__"=on (on (.builtin "object.__class__")))
  (hn:specialIn K (.builtin "object.__class__") "__get__"=on (on (.builtin "getset_descriptor.__get__"))) (htk:YX K (.builtin "object.__class__")=on PP)
  (hm:PySem.W.mroIn K C (.type "object")=on PP):TyOf K H (.ref a) (.ref C)
theorem AJ(I:Inv X pins σ H s)(d:aN x u)(ty:TyOf X.K H x t)(e:kitOne X.K t c=on b)(h:∀j,Q (.bool b) {s with toks:=j}):
  Qi (QA X.prog X.w) A (W0 (.builtin "isinstance") [u,c]) Q E s:=by
 cases ty with
 |non=>cases(show u=Rc from d);exact VG Yl I.kIn Tz e (λz=>nomatch z) h
 |bl y=>cases(show u=Wa y from d);exact VG Yk I.kIn Tz e (λz=>nomatch z) h
 |int i=>obtain⟨t,q⟩:=(show ∃t,u=TD i t from d);cases q;exact VG YB I.kIn Tz e (λz=>nomatch z) h
 |str y=>obtain⟨t,q⟩:=(show ∃t,u=Zf y t from d);cases q;exact VG YD I.kIn Tz e (λz=>nomatch z) h
 |@lst a xs ea=>
  cases(show u=Qs a from d);obtain⟨_,_,n,_,g⟩:=(show bH X.prog X.w H s.heap a (.lst xs)from I.hok a _ ea);exact VG Wv I.kIn ⟨_,g,rfl⟩ e (λz=>nomatch z) h
 |@frz a ob xs ea=>
  cases(show u=Qs a from d);obtain⟨_,_,_,n,_,g⟩:=(show bH X.prog X.w H s.heap a (.frz ob (.lst xs))from I.hok a _ ea);exact VG Wv I.kIn ⟨_,g,rfl⟩ e (λz=>nomatch z) h
 |@tup a xs ea=>
  cases(show u=Qs a from d);obtain⟨_,_,_,p⟩:=(show bH X.prog X.w H s.heap a (.tup xs)from I.hok a _ ea);obtain⟨o,g,k,_⟩:=p;exact VG X6 I.kIn ⟨o,g,k⟩ e (λz=>nomatch z) h
 |@ins a C dx fs ea cl ha hn htk hm=>
  cases(show u=Qs a from d);obtain⟨l,O,_⟩:=kA I.hok ea;obtain⟨m,J,_⟩:=O.look;exact VG (YC (cl.get _) cl.hd ha hn htk hm) I.kIn J e (λz=>nomatch z) h
structure Room (k:Nat) (A:Rg):Prop where
 hd:A.handled=PH
 dp:A.depth+3*k+5<recursionLimit
 un:A.units+16*k+200<Vr
 gd:A.guards=on []
theorem Room.mono{A:Rg}(r:Room k A)(h:j<=k):Room j A:=⟨r.hd,by have:=r.dp;omega,by have:=r.un;omega,r.gd⟩
theorem Room.deeper{A:Rg}(r:Room (k+1) A)(env:WV):Room k (A.deeper env):=
 ⟨r.hd,by have:=r.dp;show A.depth+1+3*k+5<_;omega,by have:=r.un;show A.units+3+16*k+200<_;omega,r.gd⟩
theorem ya{A:Rg}{C:PX}:(A.under (.builtin "type.__call__" ⟨.ref C::us,kw⟩)).depth=A.depth+1:=by
 first|rfl|simp[Wd,Code.weight,Code.isCreation,Code.isGuard,Code.isCaller,Code.frames,XE,guardIds]
theorem x9{A:Rg}{C:PX}:(A.under (.builtin "type.__call__" ⟨.ref C::us,kw⟩)).units=A.units+1:=by
 first|rfl|simp[Wd,Code.cUnits,Code.frames,XE]
theorem Room.make{A:Rg}(r:Room (k+1) A)(C:PX)(us:List PY)(d:List (QN×PY)):Room k (A.under (.builtin "type.__call__" ⟨.ref C::us,d⟩)):=
 ⟨r.hd,by have:=r.dp;rw[ya];omega,by have:=r.un;rw[x9];omega,by first|exact r.gd|simp[Wd,Code.guards,Code.isGuard,guardIds,pushGuards,r.gd]⟩
theorem Room.depth{A:Rg}(r:Room k A):A.depth<recursionLimit:=by have:=r.dp;omega
theorem Room.units{A:Rg}(r:Room k A):A.units+64<Vr:=by have:=r.un;omega
noncomputable def CD:TA:=λ_ H Q=>Q [] H
def IC(ta:TE)(tr:TA):TA:=λσ H Q=>ta σ H λx d=>tr σ d λxs g=>Q (x::xs) g
variable{es:List Expr}{te:TE}{t:TA}
theorem iZ:PA X [] CD:=λ_ _ _ _ H Q I h=>YL ⟨[],H,I,.nil,h⟩
theorem ff(ha:PE X e te)(d:PA X es t)(hs:Qe (e::es) X.env=(PU,Rk e X.env)::Qe es X.env:=by rfl):PA X (e::es) (IC te t):=by
 intro pos pins s σ H Q I h;rw[hs];show Qi _ _ (spliced ((PU,Rk e X.env)::SA pos (Qe es X.env))) _ _ s;refine Yp (thn (ha pins s σ H _ I h) λu g ⟨x,i,j,r1,q1⟩=>?_);exact thn (d pos pins g σ i _ j q1) λus n ⟨xs,k,l,m,q2⟩=>⟨x::xs,k,l,.cons r1 m,q2⟩
def tTup(t:TA):TE:=λσ H Q=>t σ H λxs d=>xs.length<=Qk/\∀p,d p=PH->Q (.ref p) (upd d p (.tup xs))
def LK(t:TA):TE:=λσ H Q=>t σ H λxs d=>xs.length<=Qk/\∀p,d p=PH->Q (.ref p) (upd d p (.lst xs))
theorem Mn{x1}(h:PA X es t):PE X (.Tuple es x1 pos) (tTup t):=by
 intro pins s σ H Q I j;refine wpAny_Tuple_spliced (thn (h pos pins s σ H _ I j) λus d ⟨xs,g,i,r,z,q⟩=>⟨by rw[←r.length];exact z,?_⟩);have k:g d.heap.objs.size=PH:=i.hok.fresh (P5 _);refine⟨.ref d.heap.objs.size,upd g d.heap.objs.size (.tup xs),i.laid (t':=d.toks) (λb u e=>PQ _ e) (P5 _) ?_,rfl,q _ k⟩;exact⟨z,us,r,⟨_,Qj _ rfl,rfl,_,rfl⟩⟩
theorem fF(h:PA X es t):PE X (.List es pos) (LK t):=by
 intro pins s σ H Q I j;refine wpAny_List_spliced (thn (h pos pins s σ H _ I j) λus d ⟨xs,g,i,r,z,q⟩=>⟨by rw[←r.length];exact z,?_⟩);have k:g d.heap.objs.size=PH:=i.hok.fresh (P5 _);refine⟨.ref d.heap.objs.size,upd g d.heap.objs.size (.lst xs),i.laid (t':=d.toks) (λb u e=>PQ _ e) (P5 _) ?_,rfl,q _ k⟩;exact⟨z,us,0,r,Qj _ rfl⟩
abbrev Sp:=List V->Hp->VK->XK->Prop
abbrev CXT:=List WV->Hp->P7->XK->PY->P7->Prop
structure Env0 (P:QD) (w:QS) (K:Qp) (mg:QN->Option PY) (base:Rl) (A:Rg) (outer:List WV) (s:P7) (H:Hp):Prop where
 frames:A.frames=on outer
 mod:Mod K mg base
 bs:∀b o,base.get? b=on o->s.heap.get? b=on o/\H b=PH
 bsz:base.objs.size<=s.heap.objs.size
 funs:s.heap.FunFrames base outer
 frf:∀b∈frs outer,H b=PH
 hok:HOk P w H s.heap
 bare:Vd s.gens
def CE(outer:List WV)(P:QD)(w:QS)(H:Hp)(s:P7)(Q:VK)(u:PY)(s':P7):Prop:=
 ∃v H',s'.os=s.os/\Vd s'.gens/\Un (frs outer) [] H H' s.heap s'.heap/\HOk P w H' s'.heap/\aN v u/\Q v H'
def CR(CX:CXT)(outer:List WV)(P:QD)(w:QS)(H:Hp)(s:P7)(Q:VK)(E:XK)(r:Result)(s':P7):Prop:=
 match r with
 | .ok (.ret u)=>CE outer P w H s Q u s'
 | .ok _=>False
 | .error e=>CX outer H s E e s'
structure FnOk (P:QD) (w:QS) (K:Qp) (mg:QN->Option PY) (base:Rl) (CX:CXT) (k:Nat) (f:PX) (fd:Qt) (ps:List QN) (sp:Sp):Prop where
 len:∀vs H Q E,sp vs H Q E->vs.length=ps.length
 run:∀(A:Rg) (outer:List WV) (s:P7) (H:Hp) (args:Args) (us:List PY) (vs:List V) (Q:VK) (E:XK),Room k A->Env0 P w K mg base A outer s H->Wo s fd args (ps.zip us)->az vs us->sp vs H Q E->
  Uk (QA P w) A (.call (.ref f) args) (CR CX outer P w H s Q E) s
theorem FnOk.mono{P:QD}{w:QS}{K:Qp}{f:PX}(F:FnOk P w K mg base CX j f fd ps sp)(h:j<=k):
  FnOk P w K mg base CX k f fd ps sp:=⟨F.len,λA outer s H args us vs Q E d=>F.run A outer s H args us vs Q E (d.mono h)⟩
theorem Env0.make{P:QD}{w:QS}{K:Qp}{A:Rg}{s:P7}{H:Hp}(e:Env0 P w K mg base A outer s H)(C:PX)(us:List PY)(d:List (QN×PY)):
  Env0 P w K mg base (A.under (.builtin "type.__call__" ⟨.ref C::us,d⟩)) outer s H:=⟨by first|exact e.frames|(simpa[Wd,Code.envs,XE,pushEnvs]using e.frames),e.mod,e.bs,e.bsz,e.funs,e.frf,e.hok,e.bare⟩
variable{s':P7}
theorem Inv.env0(I:Inv X pins σ H s):Env0 X.prog X.w X.K X.mg X.base X.A X.stack s H:=
 ⟨I.ok.frames,I.ok.mod,I.bs,Qg I.ok.bsz I.sz,I.stack,I.stkFree,I.hok,I.bare⟩
theorem Inv.after{Q:VK}(I:Inv X pins σ H s)(h:CE X.stack X.prog X.w H s Q u s'):EP X pins σ Q u s':=by
 obtain⟨v,H',os,bare,un,hok,r,q⟩:=h;obtain⟨j,g,d,t,i⟩:=s';obtain rfl:i=s.os:=os;exact⟨v,H',I.call (h':=j) (g':=g) (d':=d) (t':=t) (ch:=[]) un hok bare (λb z=>Qu z (by simp)),r,q⟩
def OM(sp:Sp)(d:List V)(E:St->XK)(t:TA):TE:=λσ H Q=>t σ H λvs g=>sp (vs++d) g Q (E σ)
def xG(C:PX)(m:QN)(sp:Sp)(d:List V)(E:St->XK)(ta:TE)(t:TA):TE:=λσ H Q=>ta σ H λx g=>∃a dx fs,x= .ref a/\g a=on (.ins C dx fs)/\fs.lookup m=PH/\
 t σ g λvs i=>sp (x::(vs++d)) i Q (E σ)
def aD(K:Qp)(d:Qt)(ps:List QN)(ds:List PY):Prop:=
 ∀(s:P7) (us:List PY),K.In s.heap->(us++ds).length=ps.length->Wo s d ⟨us,[]⟩ (ps.zip (us++ds))
theorem aD.all{K:Qp}{ps:List QN}(h:∀us:List PY,us.length=ps.length->bindArgs fd ⟨us,[]⟩=SB (ps.zip us)):aD K fd ps []:=λs us _ d=>by
 rw[QC]at d⊢;exact .of_eq (h us d)
def dy(CX:CXT)(X:Cx)(E:St->XK):Prop:=∀(pins:List (PX×Qy)) (σ:St) (H:Hp) (s:P7) (e:PY) (s':P7),Inv X pins σ H s->CX X.stack H s (E σ) e s'->X.xe e s'
end
section
variable{X:Cx}{CX:CXT}{k:Nat}{f C:PX}{fd:Qt}{ps:List QN}{sp:Sp}{dvs:List V}{ds:List PY}{E:St->XK}{x m:QN}{p pos apos:UL}{e o:Expr}{es:List Expr}{ta:TE}{t:TA}
theorem uR(F:FnOk X.prog X.w X.K X.mg X.base CX k f fd ps sp)(c:Room k X.A)(d:aD X.K fd ps ds)(hd:az dvs ds)(g:dy CX X E)
  (I:Inv X pins σ H s) (r:az vs us) (h:sp (vs++dvs) H Q (E σ)):Qi (QA X.prog X.w) X.A (W0 (.ref f) us) (EP X pins σ Q) X.xe s:=by
 have b:az (vs++dvs) (us++ds):=r.append hd;have i:(us++ds).length=ps.length:=by rw[←b.length];exact F.len _ _ _ _ h
 refine wpAny_call (Vi (F.run X.A X.stack s H ⟨us,[]⟩ (us++ds) (vs++dvs) Q (E σ) c I.env0 (d s us I.kIn i) b h) λr s' a=>?_);cases r with
 |error e=>exact g pins σ H s e s' I a
 |ok fl=>
  cases fl with
  |ret u=>exact I.after a
  |next=>exact SG a
  |brk=>exact SG a
  |cont=>exact SG a
theorem nJ(F:FnOk X.prog X.w X.K X.mg X.base CX k f fd ps sp)(g:Room k X.A)(i:Gl X x)(hm:X.mg x=on (.ref f))(j:Vt X.K (.ref f)=PP)(l:aD X.K fd ps ds)(hd:az dvs ds)(n:dy CX X E)
  (ha:PA X (e::es) t) (b:(x==("__debug__":QN))=PU:=by decide) (u:Qe (e::es) X.env=(PU,Rk e X.env)::Qe es X.env:=by rfl) (c:(SA pos (Qe es X.env)).any (·.1)=PU:=by rfl):
  PE X (.Call (.Name x p) (e::es) [] pos) (OM sp dvs E t):=by
 intro a s v H Q I h;refine Vu (rD I i hm ?_ b);refine XV (h₀:=X.base) I.ok.mod.kin j (thn (ha pos a s v H _ I h) λus y ⟨vs,B,d,r,q⟩=>⟨d.kIn,?_⟩) u c;exact uR F g l hd n d r q
theorem KG(v:PE X o ta)(c:Cls X.K C)(hm:Meth X.K C m f)(F:FnOk X.prog X.w X.K X.mg X.base CX k f fd ps sp)(y:Room k X.A)(B:aD X.K fd ps ds)(hd:az dvs ds)(J:dy CX X E)(ha:PA X (e::es) t)
  (d:Qe (e::es) X.env=(PU,Rk e X.env)::Qe es X.env:=by rfl) (g:(SA pos (Qe es X.env)).any (·.1)=PU:=by rfl)
  (L:Rk (.Call (.Attribute o m apos) (e::es) [] pos) X.env=(do
   let ov ←Rk o X.env
   Ua apos.atName
   let (f,first) ←UB [ov] (Wt ov m pl)
   callWith pos f first (SA pos (Qe (e::es) X.env)) (Tt pos (Sg [] X.env))):=by rfl):
  PE X (.Call (.Attribute o m apos) (e::es) [] pos) (xG C m sp dvs E ta t):=by
 intro b s i H Q I h;refine Xp (pl:=pl) (thn (v b s i H _ I h) λu N ⟨x,O,j,P,a,T,fs,ex,R,l,q⟩=>?_) L;subst ex;obtain rfl:u=Qs a:=P;refine qD j R c hm l ?_;refine XV (first:=[.ref a]) (h₀:=X.base) I.ok.mod.kin hm.kp (thn (ha pos b N i O _ j q) λus U ⟨vs,W,n,r,q2⟩=>⟨n.kIn,?_⟩) d g
 exact uR (us:= .ref a::us) (vs:= .ref a::vs) F y B hd J n (.cons rfl r) q2
theorem DB(g:PE X o ta)(c:Cls X.K C)(hm:Meth X.K C m f)(F:FnOk X.prog X.w X.K X.mg X.base CX k f fd ps sp)(i:Room k X.A)(j:aD X.K fd ps ds)(hd:az dvs ds)(n:dy CX X E)
  (r:Rk (.Call (.Attribute o m apos) [] [] pos) X.env=(do
   let ov ←Rk o X.env
   Ua apos.atName
   let (f,first) ←UB [ov] (Wt ov m pl)
   callWith pos f first (SA pos (Qe [] X.env)) (Tt pos (Sg [] X.env))):=by rfl):
  PE X (.Call (.Attribute o m apos) [] [] pos) (xG C m sp dvs E ta CD):=by
 intro b s v H Q I h;refine Xp (pl:=pl) (thn (g b s v H _ I h) λu J ⟨x,L,d,y,a,N,fs,ex,B,l,q⟩=>?_) r;subst ex;obtain rfl:u=Qs a:=y;refine qD d B c hm l ?_;exact PySem.W.callWith_K0 (first:=[.ref a]) d.kIn hm.kp (uR (us:=[.ref a]) (vs:=[.ref a]) F i j hd n d (.cons rfl .nil) q)
structure Mk (K:Qp) (C f:PX):Prop where
 makes:YW K C=PP
 init:Uo K (.ref C) "__init__"=on (on (.ref f))
 fn:isFn K (.ref f)=PP
 kp:Vt K (.ref C)=PP
def PK(X:Cx)(b:List VE)(t:TA):Prop:=
 ∀(pos:UL) (a:List (PX×Qy)) (s:P7) (c:St) (H:Hp) (Q:List V->Hp->Prop),Inv X a c H s->t c H Q->Qi (QA X.prog X.w) X.A (evalAll ((Tt pos (Sg b X.env)).map (·.2))) (AP X a c Q) X.xe s
variable{ks:List QN}{kpos:UL}{kws:List VE}{te:TE}{tk:TA}{nm:Option QN}
theorem Mh:PK X [] CD:=λ_ _ _ _ H Q I h=>wpAny_evalAll_nil ⟨[],H,I,.nil,h⟩
theorem KC(ha:PE X e te)(c:PK X kws t):PK X (⟨nm,e,kpos⟩::kws) (IC te t):=by
 intro pos a s b H Q I h;show Qi _ _ (evalAll ((do let v ←Rk e X.env;Ua pos;SB v)::(Tt pos (Sg kws X.env)).map (·.2))) _ _ s
 refine wpAny_evalAll_cons (My (thn (ha a s b H _ I h) λu d ⟨x,g,i,r1,q1⟩=>My (SK (PL ?_))));exact thn (c pos a d b g _ i q1) λus q ⟨xs,j,l,n,q2⟩=>⟨x::xs,j,l,.cons r1 n,q2⟩
structure KBinds (K:Qp) (fd:Qt) (ps ks:List QN) (g:List PY->List PY->List PY) (gV:List V->List V->List V):Prop where
 to:∀(s:P7) (us ws:List PY),K.In s.heap->(g us ws).length=ps.length->Wo s fd ⟨us,ks.zip ws⟩ (ps.zip (g us ws))
 rel:∀{vs:List V} {us:List PY} {zs:List V} {ws:List PY},az vs us->az zs ws->az (gV vs zs) (g us ws)
variable{g:List PY->List PY->List PY}{gV:List V->List V->List V}
structure FnScope (N P:List QN) (sc:Scope):Prop where
 kind:sc.kind= .function
 co:sc.isCoroutine=PU
 gen:sc.isGenerator=PU
 nd:N.Nodup
 pre:N.take P.length=P
 par:∀x∈P,sc.names.lookup x=on .local\/sc.names.lookup x=on .cell
 nofree:∀y∈sc.names,y.2≠ .free
theorem tz{b:QN->Option TV}{x:QN}:∀{a:List (QN×PY)} {m:QN->Option PY},(∀v,(x,v)∉a)->Y2 b a m x=m x
 |[],_,_=>rfl
 |(n,v)::r,m,h=>by
  unfold Y2;rw[tz λw c=>h w (PN _ c)];split
  ·have:x≠n:=by rintro rfl;exact h v PZ
   simp[this]
  ·rfl
theorem tF{b:QN->Option TV}{x:QN}:∀{a:List (QN×PY)} {m:QN->Option PY},(∀v,(x,v)∉a)->Y1 b a m x=m x
 |[],_,_=>rfl
 |(n,v)::r,m,h=>by
  unfold Y1;rw[tF λw c=>h w (PN _ c)];split
  ·rfl
  ·have:x≠n:=by rintro rfl;exact h v PZ
   simp[this]
theorem tE{a:QN->Option TV}{x:QN}{v:PY}:∀{P:List QN} {vs:List PY} {i:Nat} {m:QN->Option PY},P.Nodup->P[i]?=on x->vs[i]?=on v->a x=on .local->
  Y2 a (P.zip vs) m x=on v
 |[],_,_,_,_,h,_,_=>by simp at h
 |_::_,[],_,_,_,_,h,_=>by simp at h
 |p::P,w::vs,0,m,nd,h1,h2,hk=>by
  simp at h1 h2;subst h1;subst h2;show Y2 a ((p,w)::P.zip vs) m p=_;unfold Y2;rw[tz λv b=>(QW.mp nd).1 (WP b).1,P6 hk];simp
 |p::P,w::vs,i+1,m,nd,h1,h2,hk=>by
  show Y2 a ((p,w)::P.zip vs) m x=_;unfold Y2;exact tE (i:=i) (QW.mp nd).2 (by simpa using h1) (by simpa using h2) hk
theorem tH{a:QN->Option TV}{x:QN}{v:PY}:∀{P:List QN} {vs:List PY} {i:Nat} {m:QN->Option PY},P.Nodup->P[i]?=on x->vs[i]?=on v->a x≠on .local->
  Y1 a (P.zip vs) m x=on v
 |[],_,_,_,_,h,_,_=>by simp at h
 |_::_,[],_,_,_,_,h,_=>by simp at h
 |p::P,w::vs,0,m,nd,h1,h2,hk=>by
  simp at h1 h2;subst h1;subst h2;show Y1 a ((p,w)::P.zip vs) m p=_;unfold Y1;rw[tF λv b=>(QW.mp nd).1 (WP b).1,P0 hk];simp
 |p::P,w::vs,i+1,m,nd,h1,h2,hk=>by
  show Y1 a ((p,w)::P.zip vs) m x=_;unfold Y1;exact tH (i:=i) (QW.mp nd).2 (by simpa using h1) (by simpa using h2) hk
noncomputable def fK(N:List QN)(vs:List V):St:=vs.map on++Qm (N.length-vs.length) PH
noncomputable def fW(CX:CXT)(P:QD)(w:QS)(K:Qp)(mg:QN->Option PY)(base:Rl)(N:List QN)(a:QN)(scope:Scope)(f:PX)(cd:PY)(A:Rg)(outer:List WV)(s:P7)(H:Hp)(E:XK):Cx where
 prog:=P
 w:=w
 K:=K
 mg:=mg
 base:=base
 A:=A.deeper (Uz a scope s.heap.objs.size f cd)
 N:=N
 s₀:=s
 H₀:=H
 env:=Uz a scope s.heap.objs.size f cd
 outer:=outer
 stack:=Uz a scope s.heap.objs.size f cd::outer
 ex:=[]
 calm:=PP
 fn:=λ_=>PP
 pn:=[]
 xe:=λe s'=>Qi (QA P w) (A.deeper (Uz a scope s.heap.objs.size f cd)) (leaving (Uz a scope s.heap.objs.size f cd) e) (λ_ b=>CX outer H s E e b) (λc b=>CX outer H s E c b) s'
theorem vU{a:Scope}{x:QN}(h:a.names.lookup x=on .cell):∃c,(RW n a.names []).lookup x=on c:=by
 have q:=X1 a.names n [] (.inl h);exact W9.mp q
theorem AL{CX:CXT}{K:Qp}{N ps:List QN}{scope:Scope}{f:PX}{A:Rg}{s L:P7}{E:XK}{vs:List V}
  (S:FnScope N ps scope) (hd:A.handled=PH) (j:Env0 P w K mg base A outer s H) (U:vs.length=ps.length) (r:az vs us)
  (x:InCallC s s.heap.objs.size (Y2 (Uz qual scope s.heap.objs.size f cd).kindOf (ps.zip us) λ_=>PH) (RW (s.heap.objs.size+1) scope.names []) (Y1 (Uz qual scope s.heap.objs.size f cd).kindOf (ps.zip us) λ_=>PH) L):
  Inv (fW CX P w K mg base N qual scope f cd A outer s H E) [] (fK N vs) H L:=by
 have R:ps.length<=N.length:=by have:=Re VY S.pre;rw[Rp]at this;omega
 obtain⟨I,tk,rfl,O⟩:=x.done;have l:∀b:PX,b∉(fW CX P w K mg base N qual scope f cd A outer s H E).ex:=λb z=>Qu (show b∈([]:List PX)from z) (by simp);refine⟨⟨j.mod,S.kind,rfl,rfl,P5 _,λy z c I d=>?_,λy hy=>?_,λy c _ h=>?_,λ_=>hd,Around.frames_deeper j.frames,.inr ⟨rfl,rfl⟩,λb z=>Qu z (l b),j.bs,j.bsz,λb _ _=>l b,λb z=>Qu z (l b),j.funs,j.frf⟩,
  rfl,j.bare,Un.kept O,⟨_,x.toInCall.ns,λi y v I d W=>?_⟩,λy c h=>⟨_,x.cell y c h⟩,j.hok.fresh (P5 _),λy c h=>?_,λp B=>Qu (show p∈([]:List (PX×Qy))from B) (by simp),j.hok.kept O,?_⟩
 ·exact name_of_addr x.apart (Rv I) (Rv d)
 ·have hy:scope.names.lookup y=on .cell\/scope.names.lookup y=on .free:=hy
  rcases hy with hy|hy
  ·exact vU hy
  ·exact Qu rfl (S.nofree _ (Rv hy))
 ·exact VN (x.above y c (Rv h))
 ·have J:i<vs.length:=by
   unfold fK at d;by_cases J:i<vs.length
   ·exact J
   ·rw[RK (by simpa using J)]at d
    rw[Sw]at d;split at d<;>cases d
  have ha:vs[i]?=on v:=by
   unfold fK at d;rw[SM (by simpa using J),PV]at d;cases e:vs[i]? with
   |none=>rw[e]at d;cases d
   |some a=>rw[e]at d;cases d;rfl
  obtain⟨u,Q,T⟩:=r.get ha;have B:ps[i]?=on y:=by
   rw[←S.pre,Xm (by omega)];exact I
  have F:ps.Nodup:=by rw[←S.pre];exact S.nd.sublist (List.take_sublist _ _)
  refine⟨u,T,?_⟩;rcases S.par y (Ql B)with k|k
  ·exact .inl ⟨k,tE F B Q k⟩
  ·obtain⟨c,e⟩:=vU (n:=s.heap.objs.size+1) k
   refine .inr ⟨.inl k,c,e,?_⟩;have q:=x.cell y c e;rw[tH F B Q (by show scope.names.lookup y≠_;rw[k];decide)]at q;exact q
 ·exact j.hok.fresh (VN (x.above y c (Rv h)))
 ·unfold fK
  show _=N.length;rw[Qh,PF,Ru];omega
theorem JF{CX:CXT}{K:Qp}{k:Nat}{f:PX}
  {N ps:List QN} {sp:Sp} (U:K.lookup f=on ⟨oc,od,.func (Uf name qual params body scope dV kV doc pm an cdv ct),osl⟩) (B:UM K cdv qual=PP) (S:FnScope N ps scope)
  (len:∀vs H Q E,sp vs H Q E->vs.length=ps.length)
  (d:∀(A:Rg) (outer:List WV) (s:P7) (H:Hp) (vs:List V) (Q:VK) (E:XK),Room k (A.deeper (Uz qual scope s.heap.objs.size f cdv))->sp vs H Q E->
   ∃t,PSs (fW CX P w K mg base N qual scope f cdv A outer s H E) body t/\t {nx:=λ_ c=>Q .non c,rt:=Q} (fK N vs) H):
  FnOk P w K mg base CX (k+1) f (Uf name qual params body scope dV kV doc pm an cdv ct) ps sp:=by
 refine⟨len,λA outer s H args us vs Q E F i Y r j=>?_⟩;have Z:=len _ _ _ _ j;have R:K.In s.heap:=i.mod.kin.keeps λb o e=>(i.bs b o e).1;have L:s.heap.NoLimit:=i.mod.nolimit.keeps λb o e=>(i.bs b o e).1;have h:∀y∈ps.zip us,scope.names.lookup y.1=on .local\/(scope.names.lookup y.1=on .cell/\((RW (s.heap.objs.size+1) scope.names []).lookup y.1).isSome=PP):=λ⟨n,v⟩ hy=>by
  rcases S.par n (WP hy).1 with q|q
  ·exact .inl q
  ·exact .inr ⟨q,X1 _ _ _ (.inl q)⟩
 refine codeAny_call_function F.depth (R _ _ U) rfl S.co S.gen rfl (PySem.W.codeRec_of R B) (Y _ _ _ _ ?_);refine wpAny_newFunctionEnv_cells S.kind h λenv he T x=>?_;subst he;refine⟨L.keeps x.toInCall.keep,codeAny_func ?_⟩;obtain⟨t,ht,hq⟩:=d A outer s H vs Q E (F.deeper _) j;have I:Inv (fW CX P w K mg base N qual scope f cdv A outer s H E) [] (fK N vs) H T:=AL S F.hd i Z r x;refine Q7 (ht [] T (fK N vs) H _ I hq) (λfl s' hs=>?_) λe s' hs=>hs;have l:∀{a:St} {c:Hp} {v:V} {u:PY},Inv (fW CX P w K mg base N qual scope f cdv A outer s H E) [] a c s'->aN v u->Q v c->CE outer P w H s Q u s':=
  λ{a c v u} J O q=>⟨v,c,J.os,J.bare,J.base,J.hok,O,q⟩
 cases fl with
 |ret u=>
  obtain⟨v,a,c,J,O,q⟩:=hs;exact l J O q
 |next=>
  obtain⟨a,c,J,q⟩:=hs;exact l (v:=V.non) (u:=Rc) J rfl q
 |brk=>
  obtain⟨_,_,_,q⟩:=hs;exact SG q
 |cont=>
  obtain⟨_,_,_,q⟩:=hs;exact SG q
variable{id T:String}{r:List V->Hp->VK->Prop}
def tCB(r:List V->Hp->VK->Prop)(t:TA):TE:=λa H Q=>t a H λvs b=>r vs b Q
theorem kZ(i:dA X (.builtin id) r)(j:Gl X x)(hm:X.mg x=PH)(l:T9 x=on (.builtin id))(ha:PA X (e::es) t)(hn:x≠"__name__":=by decide)(b:(x==("__debug__":QN))=PU:=by decide)
  (n:Qe (e::es) X.env=(PU,Rk e X.env)::Qe es X.env:=by rfl) (c:(SA pos (Qe es X.env)).any (·.1)=PU:=by rfl):PE X (.Call (.Name x p) (e::es) [] pos) (tCB r t):=by
 intro a s d H Q I h;refine Vu (gf I j hm l ?_ hn b);exact PyProof.Rows.callWith_builtin1 (thn (ha pos a s d H _ I h) λus q ⟨vs,u,v,r1,q1⟩=>i a q d u vs us Q v r1 q1) n c
theorem zH(i:dA X (.type T) r)(j:Gl X x)(hm:X.mg x=PH)(l:T9 x=on (.type T))(ha:PA X (e::es) t)(hn:x≠"__name__":=by decide)(b:(x==("__debug__":QN))=PU:=by decide)
  (n:Qe (e::es) X.env=(PU,Rk e X.env)::Qe es X.env:=by rfl) (c:(SA pos (Qe es X.env)).any (·.1)=PU:=by rfl):PE X (.Call (.Name x p) (e::es) [] pos) (tCB r t):=by
 intro a s d H Q I h;refine Vu (gf I j hm l ?_ hn b);exact RB (thn (ha pos a s d H _ I h) λus q ⟨vs,u,v,r1,q1⟩=>i a q d u vs us Q v r1 q1) n c
end
end L2
namespace HT
open PySem PyProof.Rows
section
open PySem.SeqAt
open PySem.AutoSeq1 (wpAny_loadPart')
open PySem.MeetsSeq PySem.MeetsSeq2 PySem.MeetsSeq3
end
section
variable{prog:QD}{w:QS}{A:Rg}{E:PY->P7->Prop}{s:P7}
theorem cat_tup{vs a:List PY}(v:IsTup s.heap t vs.toArray)(y:IsTup s.heap b a.toArray)(m:vs≠[])
  (B:a=[]->Q (.ref t) s) (C:a≠[]->Q (.ref s.heap.objs.size) {s with heap:=s.heap.push {cls:= .type "tuple",data:= .seq (vs++a).toArray}})
  (k:vs.length+a.length<=Qk):Qi (QA prog w) A (SR .Add (.ref t) (.ref b)) Q E s:=by
 obtain⟨⟨cls,o,data,p⟩,i,q,n,hd⟩:=id v;obtain⟨⟨r,d,l,f⟩,c,g,u,h⟩:=id y;simp only at q hd g h;subst q hd g h;have e:vs.toArray++a.toArray=(vs++a).toArray:=by simp
 by_cases j:a=[]
 ·exact concat_meets ⟨_,i,rfl⟩ ⟨_,c,rfl⟩ Xh YG Vp Vh (U8 _ _)
   (tuple_addW1 t b vs.toArray a.toArray n u o d p f (by simpa using m) (by simp[j])) ⟨i,c,B j⟩
 ·refine concat_meets ⟨_,i,rfl⟩ ⟨_,c,rfl⟩ Xh YG Vp Vh (U8 _ _)
   (tuple_addW2 t b vs.toArray a.toArray n u o d p f (by simpa using m) (by simpa using j) (by rw[Qo,Qo];exact k)) ⟨i,c,?_⟩
  rw[e];exact C j
noncomputable def sIx(n d:Nat):Option Int->Nat
 |none=>d
 |some v=>if v<0 then(v+(n:Int)).toNat else Tq v.toNat n
theorem sIx_none(n d:Nat):sIx n d PH=d:=rfl
theorem sIx_nat(n d k:Nat):sIx n d (on (k:Int))=Tq k n:=by
 show(if(k:Int)<0 then((k:Int)+(n:Int)).toNat else Tq (k:Int).toNat n)=Tq k n;rw[P0 (by omega),Rz]
end
end HT
namespace L2
open PySem PySem.Spec PyProof.Rows
abbrev TO:=St->Hp->(Option Int->Hp->Prop)->Prop
def PO(X:Cx)(e:Option Expr)(t:TO):Prop:=
 ∀(a:List (PX×Qy)) (s:P7) (b:St) (H:Hp) (Q:Option Int->Hp->Prop),Inv X a b H s->t b H Q->
  Qi (QA X.prog X.w) X.A (evalPart e X.env) (λu s'=>∃o c,Inv X a b c s'/\IsPart u o/\Q o c) X.xe s
noncomputable def Kh:TO:=λ_ H Q=>Q PH H
def OK(t:TE):TO:=λa H Q=>t a H λx b=>∃i,x= .int i/\Q (on i) b
theorem qB{ns:List Int}:∀{us:List PY},az (ns.map V.int) us->XG us ns:=by
 induction ns with
 |nil=>intro us r;rw[RG]at r;cases r;exact .nil
 |cons n ns ih=>
  intro us r;rw[Qb]at r;cases r with
  |cons r1 a=>
   obtain⟨t,e⟩:=r1;subst e;exact .cons n t (ih a)
section
variable{X:Cx}{e:Expr}{te:TE}{lo hi:Option Expr}{tl th:TO}{pos p2:UL}
theorem wH:PO X PH Kh:=by
 intro a s b H Q I h;rw[YF];exact PL ⟨PH,H,I,.none,h⟩
theorem wG(h:PE X e te):PO X (on e) (OK te):=by
 intro a s b H Q I c;rw[evalPart_some];refine thn (h a s b H _ I c) λu g ⟨x,d,f,r1,q1⟩=>?_;obtain⟨i,rfl,q⟩:=q1;obtain⟨t,rfl⟩:=r1;exact⟨on i,d,f,.int i t,q⟩
def SlR(X:Cx)(r:V->Option Int->Option Int->Hp->VK->Prop):Prop:=
 ∀(a:List (PX×Qy)) (s:P7) (b:St) (H:Hp) (x:V) (v c d:PY) (lo hi:Option Int) (f:PX) (Q:VK),Inv X a b H s->aN x v->s.heap.IsSliceOf f c d .none->IsPart c lo->IsPart d hi->r x lo hi H Q->
  ∃T g,typeLookup (.type T) "__getitem__"=SB (on (.builtin g))/\s.TypeIs v T/\Qi (QA X.prog X.w) X.A (getItem v (.ref f)) (EP X a b Q) X.xe s
def tSl(r:V->Option Int->Option Int->Hp->VK->Prop)(te:TE)(tl th:TO):TE:=λa H Q=>te a H λx b=>tl a b λl c=>th a c λu d=>r x l u d Q
theorem uX(j:SlR X r)(k:PE X e te)(m:PO X lo tl)(n:PO X hi th):PE X (.Subscript e (.Slice lo hi PH p2) pos) (tSl r te tl th):=by
 intro a s d H Q I h;refine Subscript_ (thn (k a s d H _ I h) λv o ⟨x,p,t,r1,q1⟩=>?_);refine wpAny_Slice (thn (m a o d p _ t q1) λf y ⟨l,B,C,pl,q2⟩=>thn (n a y d B _ C q2) λg c ⟨u,i,F,J,q3⟩=>?_);rw[YF];refine PL ?_;have L:Inv X a d i {c with heap:=c.heap.push {cls:= .type "slice",data:= .fields #[f,g,.none]}}:=F.kept (t':=c.toks) λb R q=>PQ _ q;obtain⟨T,U,N,O,P⟩:=j a {c with heap:=c.heap.push {cls:= .type "slice",data:= .fields #[f,g,.none]}} d i x v f g l u c.heap.objs.size Q L r1 (WN ..) pl J q3;show Qi (QA X.prog X.w) X.A (YH e (.Slice lo hi PH p2) v (.ref c.heap.objs.size)) (EP X a d Q) X.xe {c with heap:=c.heap.push {cls:= .type "slice",data:= .fields #[f,g,.none]}};exact tail_any (ops:=[.ref c.heap.objs.size,v]) O N P (by with_unfolding_all rfl)
noncomputable def mJ(xs:List V)(lo hi:Option Int):List V:=(xs.drop (HT.sIx xs.length 0 lo)).take (HT.sIx xs.length xs.length hi-HT.sIx xs.length 0 lo)
theorem v8(xs:List V)(lo hi:Option Int):(mJ xs lo hi).length<=xs.length:=by
 unfold mJ;rw[Rp,WB];omega
def xT(K:Qp):R2:=λx y H Q=>∃a b xs ys,x= .ref a/\y= .ref b/\SqT K H a xs/\SqT K H b ys/\xs≠[]/\xs.length+ys.length<=Qk/\
 (ys=[]->Q (.ref a) H)/\(ys≠[]->∀p,H p=PH->Q (.ref p) (upd H p (.tup (xs++ys))))
theorem az.nil_iff(r:az xs us):us=[]↔xs=[]:=by
 cases r with
 |nil=>simp
 |cons _ _=>simp
theorem KN:OpR X (SR .Add) (xT X.K):=by
 intro d s n H x y v u Q I i j h;obtain⟨a,b,xs,ys,rfl,rfl,ha,k,l,f,q1,q2⟩:=h;cases i;cases j;obtain⟨its,r1,m,_⟩:=I.tuple ha;obtain⟨g,c,p2,_⟩:=I.tuple k;refine HT.cat_tup m p2 (λz=>l (r1.nil_iff.mp z)) (λz=>⟨.ref a,H,I,rfl,q1 (c.nil_iff.mp z)⟩) (λz=>?_) (by rw[←r1.length,←c.length];exact f);refine⟨.ref s.heap.objs.size,_,I.laid (t':=s.toks) (o:= .tup (xs++ys)) (λb p q=>PQ _ q) (P5 _) ?_,rfl,q2 (λw=>z (c.nil_iff.mpr w)) _ (I.hok.fresh (P5 _))⟩;exact⟨by rw[Qh];exact f,_,r1.append c,IsTup.new _ _⟩
noncomputable def ixN(n:Nat)(i:Int):Option Nat:=if 0<=i then(if i<n then on i.toNat else PH)else if -(n:Int)<=i then on (i+n).toNat else PH
def atI{α:Type}(xs:List α)(i:Int):Option α:=(ixN xs.length i).bind λj=>xs[j]?
theorem wV(h:ixN n i=on j):seqIndex? i n=on j/\j<n/\-(n:Int)<=i/\i<n:=by
 unfold ixN at h;by_cases b:0<=i
 ·rw[P6 b]at h
  by_cases a:i<n
  ·rw[P6 a]at h
   have e:i.toNat=j:=QB h;exact⟨by rw[seqIndex_of b a,e],by omega,by omega,a⟩
  ·rw[P0 a]at h;cases h
 ·rw[P0 b]at h
  by_cases a:-(n:Int)<=i
  ·rw[P6 a]at h
   have e:(i+n).toNat=j:=QB h;exact⟨by rw[Zj (by omega) a,e],by omega,a,by omega⟩
  ·rw[P0 a]at h;cases h
theorem xt{α:Type}{xs:List α}{i:Int}{v:α}(h:atI xs i=on v):∃j,seqIndex? i xs.length=on j/\xs[j]?=on v/\j<xs.length/\-(xs.length:Int)<=i/\i<xs.length:=by
 unfold atI at h;cases e:ixN xs.length i with
 |none=>rw[e]at h;cases h
 |some j=>
  rw[e]at h;obtain⟨a,b,c,d⟩:=wV e;exact⟨j,a,h,b,c,d⟩
theorem Lw{α:Type}{xs:List α}{j:Nat}{v:α}(h:xs[j]?=on v):atI xs (j:Int)=on v:=by
 have a:j<xs.length:=(P9.mp h).1;have e:ixN xs.length (j:Int)=on j:=by
  unfold ixN;rw[P6 (by omega),P6 (by omega)];simp
 unfold atI;rw[e];exact h
def xw(b:Expr):Prop:=∀o i,subscripted b PU o i=operate [o,i] (getItem o i)
def IxR(X:Cx)(r:R2):Prop:=
 ∀(c a:Expr) (b:List (PX×Qy)) (s:P7) (d:St) (H:Hp) (x y:V) (v u:PY) (Q:VK),Inv X b d H s->aN x v->aN y u->r x y H Q->
  subscripted a PU v u=operate [v,u] (getItem v u)->Qi (QA X.prog X.w) X.A (YH c a v u) (EP X b d Q) X.xe s
def MtR(X:Cx)(c:String)(r:V->List V->Hp->VK->Prop):Prop:=
 ∀(a:List (PX×Qy)) (s:P7) (b:St) (H:Hp) (x:V) (xs:List V) (v:PY) (us:List PY) (Q:VK),Inv X a b H s->aN x v->az xs us->r x xs H Q->
  Qi (QA X.prog X.w) X.A (W0 (.builtin c) (v::us)) (EP X a b Q) X.xe s
variable{a b:Expr}{ta tb:TE}
theorem IxR.or(h:IxR X r)(h':IxR X r'):IxR X (λx y H Q=>r x y H Q\/r' x y H Q):=by
 intro c d f s g H x y v u Q I i j q hs;rcases q with q|q
 ·exact h c d f s g H x y v u Q I i j q hs
 ·exact h' c d f s g H x y v u Q I i j q hs
theorem gG(d:IxR X r)(ha:PE X a ta)(f:PE X b tb)(hs:xw b):PE X (.Subscript a b pos) (tOp r ta tb):=by
 intro c s g H Q I h;exact Subscript_ (FA ha f I h λv u i x y j k l m q=>d a b c i g j x y v u Q k l m q (hs _ _))
def xS(K:Qp):R2:=λx y H Q=>∃p xs i v,x= .ref p/\y= .int i/\SqL K H p xs/\atI xs i=on v/\Q v H
def CS(K:Qp):R2:=λx y H Q=>∃p xs i v,x= .ref p/\y= .int i/\SqT K H p xs/\atI xs i=on v/\Q v H
theorem d7:IxR X (xS X.K):=by
 intro g k c s n H x y v u Q I B C h hs;obtain⟨p,xs,i,z,rfl,rfl,F,J,q⟩:=h;cases B;obtain⟨t,rfl⟩:=C;obtain⟨its,r,pl,R⟩:=I.list F;obtain⟨j,f,L,T,N,O⟩:=xt J;obtain⟨w,o,l⟩:=r.get L;have P:=r.length;have hn:=mw;have d:EP X c n Q w s:=⟨z,H,I,l,q⟩;by_cases A:0<=i
 ·have m:i.toNat=j:=by
   rw[seqIndex_of A O]at f;exact QB f
  exact item_listR pl.isList A (by omega) (by rw[m];simpa using o) d hs
 ·have m:(i+(its.toArray.size:Int)).toNat=j:=by
   rw[Zj (by omega) N]at f;rw[Qo,←P];exact QB f
  exact V3 (x:=w) pl.isList.typeIs slot_list_getitem.lookup
   (wpAny_getItem_list_neg (Q:=λr s'=>r=w/\EP X c n Q r s') pl.isList (by omega) (by rw[Qo]<;>omega) (by omega) (by rw[m];simpa using o) ⟨rfl,d⟩) hs
theorem MV:IxR X (CS X.K):=by
 intro d f c s l H x y v u Q I m n h hs;obtain⟨p,xs,i,z,rfl,rfl,o,A,q⟩:=h;cases m;obtain⟨t,rfl⟩:=n;obtain⟨its,r,pl,L⟩:=I.tuple o;obtain⟨j,B,C,N,O,P⟩:=xt A;obtain⟨w,F,g⟩:=r.get C;have J:=r.length;have hn:=mw;have k:EP X c l Q w s:=⟨z,H,I,g,q⟩;exact V3 (x:=w) pl.typeIs slot_tuple_getitem.lookup
  (getItem_tuple (j:=j) (Q:=λr s'=>r=w/\EP X c l Q r s') pl (by omega) (by omega) (by rw[Qo,←J];exact B) (by simpa using F) ⟨rfl,k⟩) hs
theorem x8(its:List PY)(n j:Nat)(u:PY):RV (·.setIfInBounds j u) {cls:= .type "list",data:= .seq its.toArray n}={cls:= .type "list",data:= .seq (its.set j u).toArray n}:=by
 simp[RV]
theorem Inv.lst{s:P7}{xs:List V}(I:Inv X pins σ H s)(h:H p=on (.lst xs)):
  ∃(its:List PY) (n:Nat),az xs its/\s.heap.get? p=on {cls:= .type "list",data:= .seq its.toArray n}/\xs.length<=Qk:=by
 obtain⟨z,its,n,r,e⟩:=I.hok p _ h;exact⟨its,n,r,e,z⟩
theorem Inv.lstUpd{s:P7}{xs ys:List V}{its its':List PY}(I:Inv X pins σ H s)(h:H p=on (.lst xs))
  (d:s.heap.get? p=on {cls:= .type "list",data:= .seq its.toArray n}) (c:f {cls:= .type "list",data:= .seq its.toArray n}={cls:= .type "list",data:= .seq its'.toArray n'}) (r:az ys its') (g:ys.length<=Qk) (t:Nat):
  Inv X pins σ (upd H p (.lst ys)) {s with heap:=s.heap.update p f,toks:=t}:=by
 have e:(s.heap.update p f).get? p=on {cls:= .type "list",data:= .seq its'.toArray n'}:=by
  rw[Tp f d (by rw[c]<;>rfl),c]
 refine I.write (x:=p) (e:=p) (by rw[h];trivial) (.inl rfl) (λb u i q=>(XF _ _ (Ne.symm i)).trans q) ⟨_,e⟩ ?_;exact⟨g,its',n',r,e⟩
def IL:V->V->V->Hp->(Hp->Prop)->Prop:=λo i v H Q=>∃p xs k j,o= .ref p/\i= .int k/\H p=on (.lst xs)/\ixN xs.length k=on j/\Q (upd H p (.lst (xs.set j v)))
theorem gy:Ox X IL:=by
 intro c s C H o i v P R u Q I F J L h;obtain⟨p,xs,k,j,rfl,rfl,m,N,q⟩:=h;cases F;obtain⟨t,rfl⟩:=J;obtain⟨its,n,r,f,O⟩:=I.lst m;obtain⟨d,T,w,y⟩:=wV N;have g:=r.length;have hn:=mw;have A:Inv X c C (upd H p (.lst (xs.set j v))) {s with heap:=s.heap.update p (RV (·.setIfInBounds j u))}:=
  I.lstUpd m f (x8 its n j u) (r.set L j) (by rw[Q3];exact O) s.toks
 by_cases B:0<=k
 ·have l:k.toNat=j:=by
   rw[seqIndex_of B y]at d;exact QB d
  exact PySem.W.ki_setAt f B (by omega) (by rw[Qo,←g];exact y) (by rw[l];exact⟨_,A,q⟩)
 ·have l:(k+(its.toArray.size:Int)).toNat=j:=by
   rw[Zj (by omega) w]at d;rw[Qo,←g];exact QB d
  exact PySem.W.ki_setBack f (by omega) (by rw[Qo,←g];exact w) (by omega) (by rw[l];exact⟨_,A,q⟩)
theorem uF(lo hi:Option Int)(n:Nat):(TY lo hi PH n).1=((HT.sIx n 0 lo:Nat):Int)/\(TY lo hi PH n).2.1=((HT.sIx n n hi:Nat):Int)/\(TY lo hi PH n).2.2=1:=by
 refine⟨?_,?_,rfl⟩
 ·cases lo with
  |none=>simp[TY,HT.sIx]
  |some i=>
   simp only[TY,HT.sIx,YT,show(1:Int)>0 by decide,QY];by_cases h:i<0
   ·simp only[h,QY]<;>omega
   ·simp only[h,QX]<;>omega
 ·cases hi with
  |none=>simp[TY,HT.sIx]
  |some i=>
   simp only[TY,HT.sIx,YT,show(1:Int)>0 by decide,QY];by_cases h:i<0
   ·simp only[h,QY]<;>omega
   ·simp only[h,QX]<;>omega
theorem tK(its:List PY)(lo hi:Option Int):Y7 its.toArray lo hi PH=((its.drop (HT.sIx its.length 0 lo)).take (HT.sIx its.length its.length hi-HT.sIx its.length 0 lo)).toArray:=by
 obtain⟨c,d,f⟩:=uF lo hi its.toArray.size;unfold Y7;rw[c,d,f];simp only[sliceRange_one,pick_run,Qo]<;>rfl
def rSlL(K:Qp):V->Option Int->Option Int->Hp->VK->Prop:=λx lo hi H Q=>∃a xs,x= .ref a/\SqL K H a xs/\∀p,H p=PH->Q (.ref p) (upd H p (.lst (mJ xs lo hi)))
theorem wr:SlR X (rSlL X.K):=by
 intro d s l H x v m n lo hi p Q I g hs pl i h;obtain⟨a,xs,rfl,j,q⟩:=h;cases g;obtain⟨its,r,f,k⟩:=I.list j;have c:=r.length;refine⟨"list",_,slot_list_getitem.lookup,f.isList.typeIs,?_⟩;refine YI f.isList hs pl i .none (by simp) ?_ (by rw[Qo]<;>omega)
 rw[tK,←c];refine⟨.ref s.heap.objs.size,_,I.laid (t':=s.toks) (o:= .lst (mJ xs lo hi)) (λb t q=>PQ _ q) (P5 _) ?_,rfl,q _ (I.hok.fresh (P5 _))⟩;exact⟨Qg (v8 xs lo hi) k,_,0,(r.drop (HT.sIx xs.length 0 lo)).take (HT.sIx xs.length xs.length hi-HT.sIx xs.length 0 lo),Qj _ rfl⟩
noncomputable def gJ:V->Bool
 | .non=>PP
 | .bl _=>PP
 | .int _=>PP
 | .str _=>PP
 |_=>PU
noncomputable def eqV:V->V->Bool
 | .non,.non=>PP
 | .bl a,.bl b=>a==b
 | .bl a,.int b=>(if a then 1 else 0)==b
 | .int a,.bl b=>a==(if b then 1 else 0)
 | .int a,.int b=>a==b
 | .str a,.str b=>a==b
 |_,_=>PU
theorem Nb(d:aN y u)(c:aN x v)(g:gJ y=PP)(f:gJ x=PP):SeqAt.EqAt A s u v (eqV y x):=by
 cases y with
 |non=>
  cases d;cases x with
  |non=>cases c;exact SeqAt.EqAt.same _
  |bl b=>cases c;exact SeqAt.EqAt.none_bool b
  |int b=>obtain⟨t,rfl⟩:=c;exact SeqAt.EqAt.none_int b t
  |str b=>obtain⟨t,rfl⟩:=c;exact SeqAt.EqAt.none_str b t
  |_=>exact Qu (show PU=PP from f) P8
 |bl a=>
  cases d;cases x with
  |non=>cases c;exact SeqAt.EqAt.bool_none a
  |bl b=>cases c;exact SeqAt.EqAt.bool_bool a b
  |int b=>obtain⟨t,rfl⟩:=c;exact SeqAt.EqAt.bool_int a b t
  |str b=>obtain⟨t,rfl⟩:=c;exact SeqAt.EqAt.bool_str a b t
  |_=>exact Qu (show PU=PP from f) P8
 |int a=>
  obtain⟨t',rfl⟩:=d;cases x with
  |non=>cases c;exact SeqAt.EqAt.int_none a t'
  |bl b=>cases c;exact SeqAt.EqAt.int_bool a t' b
  |int b=>obtain⟨t,rfl⟩:=c;exact SeqAt.EqAt.int_int a t' b t
  |str b=>obtain⟨t,rfl⟩:=c;exact SeqAt.EqAt.int_str a t' b t
  |_=>exact Qu (show PU=PP from f) P8
 |str a=>
  obtain⟨t',rfl⟩:=d;cases x with
  |non=>cases c;exact SeqAt.EqAt.str_none a t'
  |bl b=>cases c;exact SeqAt.EqAt.str_bool a t' b
  |int b=>obtain⟨t,rfl⟩:=c;exact SeqAt.EqAt.str_int a t' b t
  |str b=>obtain⟨t,rfl⟩:=c;exact SeqAt.EqAt.str_str a t' b t
  |_=>exact Qu (show PU=PP from f) P8
 |_=>exact Qu (show PU=PP from g) P8
def eqU(x:V)(u:PY):Bool:=match u with
 | .none=>eqV .non x
 | .bool b=>eqV (.bl b) x
 | .int i _=>eqV (.int i) x
 | .str z _=>eqV (.str z) x
 |_=>PU
theorem AZ(r:aN y u)(f:gJ y=PP):eqU x u=eqV y x:=by
 cases y with
 |non=>cases r;rfl
 |bl b=>cases r;rfl
 |int i=>obtain⟨t,rfl⟩:=r;rfl
 |str z=>obtain⟨t,rfl⟩:=r;rfl
 |_=>exact Qu (show PU=PP from f) P8
theorem kI:∀{xs:List V} {us:List PY},az xs us->xs.all gJ=PP->us.any (eqU x)=xs.any λy=>eqV y x
 |_,_,.nil,_=>rfl
 |y::xs,u::us,.cons r t,f=>by
  rw[Vl,QI]at f;rw[Uw,Uw,AZ r f.1,kI t f.2]
theorem i7(c:aN x v)(d:gJ x=PP):∀{xs:List V} {us:List PY},az xs us->xs.all gJ=PP->∀u∈us,SeqAt.EqAt A s u v (eqU x u)
 |_,_,.nil,_=>λu hu=>by cases hu
 |y::xs,u::us,.cons r t,f=>λg hu=>by
  rw[Vl,QI]at f;rcases Qf.mp hu with rfl|hu
  ·rw[AZ r f.1];exact Nb r c f.1 d
  ·exact i7 c d t f.2 g hu
def inV(x:V)(xs:List V):Bool:=xs.any λy=>eqV y x
def rIn(K:Qp)(neg:Bool):R2:=λx y H Q=>∃p xs,y= .ref p/\(SqL K H p xs\/SqT K H p xs)/\gJ x=PP/\xs.all gJ=PP/\Q (.bl (if neg then !inV x xs else inV x xs)) H
theorem zJ:OpR X (Ro .In) (rIn X.K PU):=by
 intro d s k H x y v u Q I f i h;obtain⟨p,xs,rfl,hq,g,fs,q⟩:=h;cases i;rcases hq with hq|hq
 ·obtain⟨its,r,pl,j⟩:=I.list hq
  refine SeqAt.in_listAt (eqU x) pl.isList (λw c=>i7 f g r fs w (by simpa using c)) ⟨.bl _,H,I,rfl,?_⟩;rw[show its.toArray.any (eqU x)=its.any (eqU x) by simp,kI r fs];exact q
 ·obtain⟨its,r,pl,j⟩:=I.tuple hq
  refine SeqAt.in_tupleAt (eqU x) pl (λw c=>i7 f g r fs w (by simpa using c)) ⟨.bl _,H,I,rfl,?_⟩;rw[show its.toArray.any (eqU x)=its.any (eqU x) by simp,kI r fs];exact q
theorem mn:OpR X (Ro .NotIn) (rIn X.K PP):=by
 intro d s k H x y v u Q I f i h;obtain⟨p,xs,rfl,hq,g,fs,q⟩:=h;cases i;rcases hq with hq|hq
 ·obtain⟨its,r,pl,j⟩:=I.list hq
  refine SeqAt.notIn_listAt (eqU x) pl.isList (λw c=>i7 f g r fs w (by simpa using c)) ⟨.bl _,H,I,rfl,?_⟩;rw[show its.toArray.any (eqU x)=its.any (eqU x) by simp,kI r fs];exact q
 ·obtain⟨its,r,pl,j⟩:=I.tuple hq
  refine SeqAt.notIn_tupleAt (eqU x) pl (λw c=>i7 f g r fs w (by simpa using c)) ⟨.bl _,H,I,rfl,?_⟩;rw[show its.toArray.any (eqU x)=its.any (eqU x) by simp,kI r fs];exact q
theorem mQ:dA X (.builtin "len") (λxs H Q=>∃p ys,xs=[.ref p]/\(SqL X.K H p ys\/SqT X.K H p ys)/\Q (.int ys.length) H):=by
 intro f s j H xs us Q I r h;obtain⟨p,ys,rfl,hq,q⟩:=h;obtain⟨u,rfl,g⟩:=kN r;cases g;have hn:=mw;rcases hq with hq|hq
 ·obtain⟨its,d,pl,i⟩:=I.list hq
  have c:=d.length;exact Calls.call_len_list pl.isList (by simp only[Qo]<;>omega) ⟨.int ys.length,H,I.tok _,⟨s.toks+1,by rw[Qo,c]⟩,q⟩
 ·obtain⟨its,d,pl,i⟩:=I.tuple hq
  have c:=d.length;exact len_tuple pl (by simp only[Qo]<;>omega) ⟨.int ys.length,H,I.tok _,⟨s.toks+1,by rw[Qo,c]⟩,q⟩
theorem c5:dA X (.type "list") (λxs H Q=>∃p ys,xs=[.ref p]/\(SqL X.K H p ys\/SqT X.K H p ys)/\∀l,H l=PH->Q (.ref l) (upd H l (.lst ys))):=by
 intro f s v H xs us Q I r h;obtain⟨p,ys,rfl,hq,q⟩:=h;obtain⟨u,rfl,y⟩:=kN r;cases y
 have g:∀(its:List PY),az ys its->ys.length<=Qk->∀(h':Rl) (c:Nat),(∀b t,s.heap.get? b=on t->h'.get? b=on t)->
   h'.get? s.heap.objs.size=on {cls:= .type "list",dict:=PH,data:= .seq its.toArray c,slots:=#[]}->EP X f v Q (.ref s.heap.objs.size) {s with heap:=h'}:=λits d i h' c kp e=>
  ⟨.ref s.heap.objs.size,_,I.laid (t':=s.toks) kp (P5 _) (show bH X.prog X.w _ h' _ (.lst ys)from⟨i,its,c,d,e⟩),rfl,q _ (I.hok.fresh (P5 _))⟩
 rcases hq with hq|hq
 ·obtain⟨its,d,pl,i⟩:=I.list hq
  have j:=d.length;obtain⟨o,k,m,n,hd⟩:=pl.isList;exact call_list_seq p (.inl rfl) k m hd (λh' c kp e=>g its d i h' c kp e) (by simp only[Qo]<;>omega)
 ·obtain⟨its,d,pl,i⟩:=I.tuple hq
  have j:=d.length;obtain⟨o,k,m,n,hd⟩:=pl;exact call_list_seq p (.inr rfl) k m hd (λh' c kp e=>g its d i h' c kp e) (by simp only[Qo]<;>omega)
theorem dj:dA X (.type "tuple") (λxs H Q=>∃p ys,xs=[.ref p]/\((SqL X.K H p ys/\∀l,H l=PH->Q (.ref l) (upd H l (.tup ys)))\/(SqT X.K H p ys/\Q (.ref p) H))):=by
 intro c s g H xs us Q I r h;obtain⟨p,ys,rfl,h⟩:=h;obtain⟨u,rfl,m⟩:=kN r;cases m;rcases h with⟨d,q⟩|⟨d,q⟩
 ·obtain⟨its,f,pl,i⟩:=I.list d
  have j:=f.length;refine call_tuple_list pl.isList (λh' kp=>?_) (by simp only[Qo]<;>omega)
  have k:Inv X c g H {s with heap:=h'}:=I.kept (t':=s.toks) kp;have n:Inv X c g (upd H h'.objs.size (.tup ys)) {s with heap:=h'.push {cls:= .type "tuple",data:= .seq its.toArray}}:=
   k.laid (t':=s.toks) (λb o e=>PQ _ e) (P5 _) (show bH X.prog X.w _ _ _ (.tup ys)from⟨i,its,f,IsTup.new _ _⟩)
  exact⟨.ref h'.objs.size,_,n,rfl,q _ (k.hok.fresh (P5 _))⟩
 ·obtain⟨its,f,pl,i⟩:=I.tuple d
  exact call_tuple_same pl ⟨.ref p,H,I,rfl,q⟩
def tyV(K:Qp)(T:String)(x:V)(H:Hp):Prop:=match x with
 | .str _=>T="str"
 | .int _=>T="int"
 | .ref p=>(T="list"/\∃xs,SqL K H p xs)\/(T="tuple"/\∃o,K.lookup p=on o/\o.cls= .type "tuple"/\o.dict=PH)
 |_=>False
theorem LC{s:P7}(I:Inv X pins σ H s)(r:aN x v)(ty:tyV X.K T x H):
  s.TypeIs v T/\∀a,v= .ref a->∃d,s.heap.get? a=on d/\d.dict=PH:=by
 cases x with
 |str z=>
  obtain⟨t,rfl⟩:=r;cases(show T="str"from ty);exact⟨typeIs_str s z t,λ_ e=>nomatch e⟩
 |int i=>
  obtain⟨t,rfl⟩:=r;cases(show T="int"from ty);exact⟨typeIs_int s i t,λ_ e=>nomatch e⟩
 |ref p=>
  cases r;rcases ty with⟨rfl,xs,g⟩|⟨rfl,o,f,h,hd⟩
  ·obtain⟨its,_,pl,_⟩:=I.list g
   refine⟨pl.isList.typeIs,λa e=>?_⟩;cases e;obtain⟨o,n,e,c,hd,_⟩:=pl;exact⟨o,e,hd⟩
  ·refine⟨⟨o,I.kIn p o f,h⟩,λa e=>?_⟩
   cases e;exact⟨o,I.kIn _ o f,hd⟩
 |_=>exact SG ty
def tBM(K:Qp)(T:String)(r:V->List V->Hp->VK->Prop)(to:TE)(t:TA):TE:=λc H Q=>to c H λx d=>tyV K T x d/\t c d λxs f=>r x xs f Q
variable{o:Expr}{es:List Expr}{to:TE}{t:TA}{name:QN}{apos cpos:UL}{T id:String}{r:V->List V->Hp->VK->Prop}
theorem nK(n:PlainAttrs T)(slot:Slot T name id)(j:typeOf (.builtin id)=SB (.type "method_descriptor"))(hm:MtR X id r)(p:PE X o to)(ha:PA X (e::es) t)
  (f:Uh o name X.env (Rk o X.env)=Rk o X.env:=by rfl)
  (i:((SA cpos (Qe (e::es) X.env)).all (λx=>!x.1)&&(Tt cpos (Sg [] X.env)).all (λx=>x.1.isSome)
   &&decide ((e::es).length+([]:List VE).length+(if([]:List VE).isEmpty then 0 else 1)<30))=PP:=by rfl)
  (g:(apos.endLine==cpos.line)=PP:=by rfl) (hs:Qe (e::es) X.env=(PU,Rk e X.env)::Qe es X.env:=by rfl) (d:(SA cpos (Qe es X.env)).any (·.1)=PU:=by rfl):
  PE X (.Call (.Attribute o name apos) (e::es) [] cpos) (tBM X.K T r to t):=by
 intro c s k H Q I h;refine Zk f i g rfl (thn (p c s k H _ I h) λv q ⟨x,u,l,r1,ty,q1⟩=>?_);obtain⟨w,y⟩:=LC l r1 ty;refine⟨T,id,n,slot,j,w,y,?_⟩;have m:=ha cpos c q k u _ l q1;rw[hs]at m⊢;refine Vz (by show(PU||(SA cpos (Qe es X.env)).any (·.1))=PU;rw[d]<;>rfl) (XN ?_)
 exact thn m λus A ⟨vs,B,C,F,q2⟩=>hm c A k B x vs v us Q C r1 F q2
def MtM(X:Cx)(id:String)(r:V->List V->Hp->VK->Prop):Prop:=
 ∀(c:List (PX×Qy)) (s:P7) (d:St) (H:Hp) (x:V) (xs:List V) (v:PY) (us:List PY) (Q:VK),Inv X c d H s->aN x v->az xs us->r x xs H Q->
  Qi (QA X.prog X.w) X.A (W0 (.builtin id) (v::us)) (EP X c d Q) X.xe s
theorem az.one:∀{x:V} {us:List PY},az [x] us->∃u,us=[u]/\aN x u
 |_,_,.cons r .nil=>⟨_,rfl,r⟩
theorem az.reverse{xs:List V}{us:List PY}(h:az xs us):az xs.reverse us.reverse:=by
 induction h with
 |nil=>exact .nil
 |cons r t ih=>rw[Vg,Vg];exact az.append ih (.cons r .nil)
theorem az.rep(h:az xs us):∀k:Nat,az (Qm k xs).flatten (Qm k us).flatten
 |0=> .nil
 |k+1=>by
  rw[QL,QL,SS,SS];exact az.append h (az.rep h k)
theorem sV(its:List PY):∀(k:Nat) (acc:List PY),
  YN (λc d=>c++d) acc.toArray (Qm k its.toArray)=(acc++(Qm k its).flatten).toArray
 |0,acc=>by simp
 |k+1,acc=>by
  have e:acc.toArray++its.toArray=(acc++its).toArray:=by simp
  have f:(acc++its)++(Qm k its).flatten=acc++(Qm (k+1) its).flatten:=by
   rw[QL,SS,Q9]
  rw[←f,←sV its k (acc++its),←e,QL,List.foldl_cons]
end
section
variable{X:Cx}{pins:List (PX×Qy)}{σ:St}{H:Hp}{s:P7}{l b:PX}{xs ys zs:List V}
theorem Inv.lset{its its':List PY}(I:Inv X pins σ H s)(a:H l=on (.lst xs))
  (e:s.heap.get? l=on {cls:= .type "list",data:= .seq its.toArray n}) (c:f its.toArray=its'.toArray) (d:az ys its') (g:ys.length<=Qk):
  Inv X pins σ (upd H l (.lst ys)) {s with heap:=s.heap.update l (RV f),toks:=t'}:=by
 have q:=PySem.IsL.update e f;rw[c]at q;refine I.write (x:=l) (e:=l) (by rw[a];exact trivial) (.inl rfl) (λj u h i=>(XF s.heap (RV f) (Ne.symm h)).trans i) ⟨_,q⟩ ?_;exact⟨g,its',_,d,q⟩
theorem Inv.lnew{its:List PY}(I:Inv X pins σ H s)(a:az ys its)(c:ys.length<=Qk):
  Inv X pins σ (upd H s.heap.objs.size (.lst ys)) {s with heap:=s.heap.push {cls:= .type "list",data:= .seq its.toArray},toks:=t'}:=
 I.laid (λ_ _ q=>PQ _ q) (P5 _) ⟨c,its,0,a,Qj _ rfl⟩
theorem Inv.fresh(I:Inv X pins σ H s):H s.heap.objs.size=PH:=I.hok.fresh (P5 _)
theorem Inv.lstM(I:Inv X pins σ H s)(a:H l=on (.lst xs)):xs.length<=Qk/\∃(its:List PY) (n:Nat),az xs its/\xs.length=its.length/\s.heap.get? l=on {cls:= .type "list",data:= .seq its.toArray n}:=by
 obtain⟨z,its,n,r,e⟩:=I.hok l _ a;exact⟨z,its,n,r,r.length,e⟩
theorem DI(h:n<=Qk):UH n=PU:=by
 unfold UH;exact QP (by omega)
def wC:V->List V->Hp->VK->Prop:=λx vs H Q=>∃l xs y,x= .ref l/\vs=[y]/\H l=on (.lst xs)/\xs.length<Qk/\Q .non (upd H l (.lst (xs++[y])))
theorem fY:MtM X "list.append" wC:=by
 intro pins s σ H x vs v us Q I c d h;obtain⟨l,xs,y,rfl,rfl,a,g,q⟩:=h;cases c;obtain⟨u,rfl,f⟩:=d.one;obtain⟨z,its,n,r,i,e⟩:=I.lstM a;refine X0 F.slot_list_append ⟨_,e,rfl⟩ F.entry_list_append (Y8 _ _) (YZ l its.toArray n u (by rw[Qo];omega)) ⟨e,?_⟩;refine⟨.non,_,I.lset (its':=its++[u]) a e (by simp) (r.append (.cons f .nil)) ?_,rfl,q⟩;rw[Qh,QU];omega
noncomputable def rCat:R2:=λx y H Q=>∃l b xs zs,x= .ref l/\y= .ref b/\H l=on (.lst xs)/\H b=on (.lst zs)/\xs.length+zs.length<=Qk/\∀p,H p=PH->Q (.ref p) (upd H p (.lst (xs++zs)))
theorem MA:OpR X (SR .Add) rCat:=by
 intro pins s σ H x y v u Q I c d h;obtain⟨l,b,xs,zs,rfl,rfl,f,hB,m,q⟩:=h;cases c;cases d;obtain⟨z,its,n,r,o,e⟩:=I.lstM f;obtain⟨p,a,t,g,i,j⟩:=I.lstM hB;refine Yz e j ?_ (by rw[Qo,Qo];omega);have k:its.toArray++a.toArray=(its++a).toArray:=by simp
 rw[k];exact⟨.ref _,_,I.lnew (t':=s.toks) (r.append g) (by rw[Qh];omega),rfl,q _ I.fresh⟩
noncomputable def rRep:R2:=λx y H Q=>∃l k xs,x= .ref l/\y= .int k/\H l=on (.lst xs)/\-(2^63)<=k/\k<2^63/\xs.length*k.toNat<=Qk/\
 ∀p,H p=PH->Q (.ref p) (upd H p (.lst (Qm k.toNat xs).flatten))
theorem K3{α:Type}(xs:List α)(k:Nat):(Qm k xs).flatten.length=k*xs.length:=by
 induction k with
 |zero=>simp
 |succ k ih=>rw[QL,SS,Qh,ih,Nat.succ_mul,Ww]
theorem Mu:OpR X (SR .Mult) rRep:=by
 intro pins s σ H x y v u Q I w A h;obtain⟨l,k,xs,rfl,rfl,B,C,J,p,q⟩:=h;cases w;obtain⟨t,rfl⟩:=A;obtain⟨z,its,n,r,L,e⟩:=I.lstM B;have d:its.toArray.size*k.toNat<=Qk:=by rw[Qo,←L];exact p
 have f:¬its.toArray.size*k.toNat>(2^63-1)/8:=by
  have:(Qk:Nat)<=(2^63-1)/8:=by decide
  omega
 have g:¬(!Builtin.List.listFitsIndex k)=PP:=by
  rw[fitsIndex_both C J];exact P8
 have c:¬UH (its.toArray.size*k.toNat)=PP:=by
  rw[DI d];exact P8
 have i:YN (λj o=>j++o) #[] (Qm (if its.toArray.isEmpty=PP then 0 else k.toNat) its.toArray)=(Qm k.toNat its).flatten.toArray:=by
  have N:∀m:Nat,YN (λj o=>j++o) #[] (Qm m its.toArray)=(Qm m its).flatten.toArray:=λm=>by
   have:=sV its m [];rw[Rq]at this;exact this
  rw[N];cases its with
  |nil=>simp
  |cons a O=>rw[P0 (by simp)]
 refine wpAny_binaryOp_repeat_ref (T:="list") (U:="int") (by decide) ⟨_,e,rfl⟩ (λs'=>typeIs_int s' k t) noFill_list_mul F.fills_int_mul F.slot_int_rmul repeat_list F.slot_int_index.lookup
  (X0 F.slot_int_rmul (typeIs_int s k t) F.entry_int_rmul (F.args_int_rmul_2 _ _) (int___rmul___int_list k t l its.toArray n)
   ⟨e,rfl,⟨_,e,rfl⟩,X0 F.slot_list_mul ⟨_,e,rfl⟩ F.entry_list_mul (F.args_list_mul_2 _ _) (AutoListH.list___mul___list_int_3 l its.toArray n k t g f c) ⟨e,?_⟩⟩)
 rw[i];exact⟨.ref _,_,I.lnew (t':=s.toks) (r.rep k.toNat) (by rw[K3,Sn];exact p),rfl,q _ I.fresh⟩
variable{prog:QD}{w:QS}{A:Rg}{E:PY->P7->Prop}
end
end L2
namespace Att
open PySem PySem.W PySem.Calls PyProof.Rows
theorem qA:∀(ns:List Int) (vs:List PY),WellAll P h vs (ns.map WData.int)->XG vs ns:=by
 intro ns
 induction ns with
 |nil=>
  intro vs w;rw[RG]at w;cases w;exact .nil
 |cons n ns ih=>
  intro vs w;rw[Qb]at w;cases w with
  |cons a b=>
   cases a;exact .cons _ _ (ih _ b)
theorem ze{l:OpenLaw}(hn:l.most=on n){h:Rl}
  (b:l.row.toRowW.claim.pre args=PP) (g:WellAll P h vals args):
  ∃a vs ns,vals=[Qs a]/\args=[WData.list (ns.map WData.int)]/\h.get? a=on {cls:= .type "list",data:= .seq vs.toArray}/\XG vs ns/\ns.length<=n:=by
 have hsh:WShape.hasAll [] args [.list .int]=PP:=(pre_splitW b).1;have i:l.pre.holds [] {args:=args}=PP:=(pre_splitW b).2;obtain⟨d,r,rfl,j,k⟩:=hasAllW_cons hsh;obtain rfl:=hasAllW_nil k;obtain⟨xs,rfl,m⟩:=hasW_list j;obtain⟨ns,rfl⟩:=items_int m;have c:ns.length<=n:=by
  unfold OpenLaw.pre at i;have e:(WTm.not (.lt (.lit (.int (n:Int))) (.len (.arg 0)))).holds [] {args:=[.list (ns.map .int)]}=PP:=by
   have e:=(holds_andW i).1;rw[hn]at e;exact e
  have f:=condW_of e (w_not (w_lt w_lit (w_len_list (w_arg rfl))));rw[PF]at f;refine Nat.le_of_not_lt λq=>?_;have o:(n:Int)<((ns.length:Nat):Int):=by omega
  first
   |(rw[Qn o]at f;exact Qu f (by decide))
   |(simp at f;omega)
 cases g with
 |cons p t=>
  cases t;cases p with
  |list ho hall=>exact⟨_,_,ns,rfl,rfl,ho,qA ns _ hall,c⟩
theorem zC(l:OpenLaw)(args:List WData):l.row.toRowW.claim.post args (.bool PP) args=PP:=
 postW_of (r:=l.row.toRowW) (X:=(PP==PP))
  (show WShape.has [] (.bool PP) .bool=PP by first|rfl|decide|simp[WShape.has,WShape.arms,WShape.armsAll])
  (show(WTm.eq .res (.lit (.bool PP))).value [] {args:=args,res:=on (.bool PP),after:=args}=on (.bool (PP==PP))from w_eq_bool (w_res rfl) w_lit) rfl
theorem attach_call{l:OpenLaw}{d:DefRec}
  (hn:l.most=on n) (k:d.params.defaults=[])
  (W0:∀(w:QS) (s₀ b:P7) (mg m:QN->Option PY) (g:PX) (o:Qy) (p cd c:PY) (a:PX) (vs:List PY) (ns:List Int),
   Ground q loose [] XP w s₀ mg m b.heap->YP w b.heap->
   b.heap.get? g=on o->o.data= .func (docDef d.name d.params d.body d.scope p cd c)->b.heap.CodeRec cd d.name->mg d.name=on (.ref g)->
   b.heap.get? a=on {cls:= .type "list",data:= .seq vs.toArray}->XG vs ns->ns.length<=n->b.gens=#[]->
   Uk (QA l.prog w) W1 (.call (.ref g) ⟨[.ref a],[]⟩) (λr s'=>r= .ok (.ret (.bool PP))/\OldK b.heap s'.heap/\s'.os=b.os/\Vd s'.gens) b):
  WalkO q loose XP YP l.row.toRowW d [] (λf vs=>YE f vs):=by
 intro w s₀ b mg m G Y g o p cd c B C F hd t y u H args vals as h A I v J;obtain rfl:B= .none:=Dflts.none y k;obtain rfl:C= .none:=Dflts.noKw y;obtain⟨a,vs,ns,rfl,rfl,i,e,j⟩:=ze hn h v;refine enter_call (Vi (W0 w s₀ b mg m g o p cd c a vs ns G Y F (fd_plain hd) t u i e j H) λr s' L=>?_);obtain⟨rfl,N,O,P⟩:=L;exact⟨.inl ⟨.bool PP,.bool PP,[],rfl,λ_=>rfl,.bool PP,zC l _,λ_=>⟨VM,λ_ hm=>(nomatch hm)⟩⟩,N,O,P⟩
section
variable{prog:QD}{w:QS}{A:Rg}{E:PY->P7->Prop}{s:P7}{K:Qp}
end
end Att
namespace L2
open PySem PySem.Spec PyProof.Rows
theorem sk:∀{vs:List PY} {ns:List Int},XG vs ns->az (ns.map V.int) vs
 |_,_,.nil=> .nil
 |_,_,.cons n t h=> .cons ⟨t,rfl⟩ (sk h)
def HN(H:Hp):Prop:=∀b,H b=PH\/∃o xs,H b=on (.frz o (.lst xs))
theorem EA{K:Qp}{c:P7}{vs:List PY}{ns:List Int}
  (R:K.In c.heap) (p:c.heap.Ns Sh mg) (g:c.heap.Ns XZ mb) (I:∀x:QN,x≠"__name__"->mb x=T9 x) (t:c.heap.NoLimit) (hg:c.gens=#[])
  (ha:c.heap.get? a=on {cls:= .type "list",data:= .seq vs.toArray}) (T:XG vs ns) (U:ns.length<=Qk) (hr:Room k W1)
  (F:∀base:Rl,K.In base->base.Ns Sh mg->FnOk P w K mg base CX k fa fd [x] sp) (l:∀(s:P7) (u:PY),Wo s fd ⟨[u],[]⟩ [(x,u)])
  (J:∀H:Hp,HN H->SqL K H a (ns.map V.int)->sp [.ref a] H (λv _=>v= .bl PP) λ_ _ _=>False)
  (L:∀H e s',CX [] H c (λ_ _ _=>False) e s'->False):
  Uk (QA P w) W1 (.call (.ref fa) ⟨[.ref a],[]⟩) (λr s'=>r= .ok (.ret (.bool PP))/\OldK c.heap s'.heap/\s'.os=c.os/\Vd s'.gens) c:=by
 have W:=sk T;have y:=T.length
 --from an abstract heap in which nothing but the script may be tracked
 have j:∀H:Hp,HN H->SqL K H a (ns.map V.int)->HOk P w H c.heap->(∀b,H b≠PH->b=a)->(H a≠PH->K.lookup a=PH)->
   Uk (QA P w) W1 (.call (.ref fa) ⟨[.ref a],[]⟩) (λr s'=>r= .ok (.ret (.bool PP))/\OldK c.heap s'.heap/\s'.os=c.os/\Vd s'.gens) c:=by
  intro H X hS hok Y hK;have f:∀{b:PX} {o:Qy},c.heap.get? b=on o->H b=PH->(li c.heap H).get? b=on o:=λe n=>EJ e n;have N:∀{b:PX} {o:Qy} {es:Array T6} {ep:Nat},c.heap.get? b=on o->o.data= .dict es ep->H b=PH:=λ{b o es ep} e d=>by
   cases q:H b with
   |none=>rfl
   |some u=>
    have O:b=a:=Y b (by rw[q];simp);subst O;rw[ha]at e;cases e;have d':Data.seq vs.toArray _=Data.dict es ep:=d;cases d'
  have i:∀{b:PX} {m:QN->Option PY},c.heap.Ns b m->(li c.heap H).Ns b m:=λ{b m} ⟨o,es,ep,e,d,r⟩=>⟨o,es,ep,f e (N e d),d,r⟩;have A:K.In (li c.heap H):=λb o e=>f (R b o e) (by
   cases q:H b with
   |none=>rfl
   |some u=>
    have O:b=a:=Y b (by rw[q];simp);subst O;rw[hK (by rw[q];simp)]at e;cases e)
  have hM:Mod K mg (li c.heap H):=⟨A,i p,⟨mb,i g,I⟩,let ⟨mc,h1,h2⟩:=t;⟨mc,i h1,h2⟩⟩
  have e0:Env0 P w K mg (li c.heap H) W1 [] c H:=⟨rfl,hM,λb o e=>KR e,Nat.le_of_eq (AO _ _),trivial,λb g=>Qu (show b∈([]:List PX)from g) (by simp),hok,.of_eq hg⟩;refine Vi ((F _ A (i p)).run W1 [] c H ⟨[.ref a],[]⟩ [.ref a] [.ref a] _ _ hr e0 (l c (.ref a)) (.cons rfl .nil) (J H X hS)) λr s' h=>?_;cases r with
  |error e=>exact(L H e s' h).elim
  |ok fl=>
   cases fl with
   |next=>exact SG h
   |brk=>exact SG h
   |cont=>exact SG h
   |ret u=>
    obtain⟨v,H',os,bare,un,B,r',q⟩:=h;have q':v= .bl PP:=q;subst q';obtain rfl:u=Wa PP:=r';refine⟨rfl,OldK.of_keep λb o e=>?_,os,bare⟩;cases q:H b with
    |none=>exact un.keep b o e q (by intro z;exact Qu (show b∈([]:List PX)from z) (by simp)) (by simp)
    |some u=>
     rcases X b with z|⟨ob,xs,z⟩
     ·rw[q]at z;cases z
     ·have z2:=un.frzs b ob _ z
      obtain⟨Z,_⟩:=hok b _ z;obtain⟨e2,_⟩:=B b _ z2;rw[e]at Z;cases Z;exact e2
 cases Q:K.lookup a with
 |some o=>
  --the script is one of the module's own objects
  have e:=R a o Q;rw[ha]at e;cases e;refine j (λ_=>PH) (λ_=> .inl rfl) (.inr ⟨_,vs.toArray,_,Q,rfl,rfl,rfl,by rw[Qo,y];exact U,by simpa using W⟩) (λb u z=>by have C:(PH:Option HO)=on u:=z;cases C) (λb z=>Qu rfl z) λz=>Qu rfl z
 |none=>
  refine j (λb=>if b=a then on (.frz {cls:= .type "list",data:= .seq vs.toArray} (.lst (ns.map V.int)))else PH) (λb=>?_) (.inl (.inr ⟨{cls:= .type "list",data:= .seq vs.toArray},P6 rfl⟩)) (λb u z=>?_) (λb z=>?_) λ_=>Q
  ·by_cases g:b=a
   ·exact .inr ⟨_,_,P6 g⟩
   ·exact .inl (P0 g)
  ·by_cases g:b=a
   ·have C:=(P6 g).symm.trans z
    cases C;subst g;exact⟨ha,by rw[PF];exact U,vs,_,W,ha⟩
   ·have C:=(P0 g).symm.trans z
    cases C
  ·by_cases g:b=a
   ·exact g
   ·exact Qu (P0 g) z
theorem walk_of{l:PySem.W.OpenLaw}{n k:Nat}{q:QD}{loose:List QN}{XP:(QN->Option PY)->Rl->Prop}{YP:QS->Rl->Prop}{d:DefRec}{K:Xf->Qp}{CX:QS->CXT}{sp:QS->Sp}{x:QN}
  (hn:l.most=on n) (r:n<=Qk) (t:d.params.defaults=[]) (J:Room k W1)
  (L:∀(w:QS) (h:Rl),YP w h->(K w.params).In h)
  (F:∀(w:QS) (mg:QN->Option PY) (p:PX) (h:Rl),(K w.params).In h->h.Ns Sh mg->mg d.name=on (.ref p)->
   ∃B:Qt,(∀(s:P7) (u:PY),Wo s B ⟨[u],[]⟩ [(x,u)])/\
    ∀base:Rl,(K w.params).In base->base.Ns Sh mg->FnOk l.prog w (K w.params) mg base (CX w) k p B [x] (sp w))
  (y:∀(w:QS) (H:Hp) (a:PX) (ns:List Int),ns.length<=n->HN H->SqL (K w.params) H a (ns.map V.int)->sp w [.ref a] H (λv _=>v= .bl PP) λ_ _ _=>False)
  (A:∀(w:QS) (H:Hp) (s:P7) (e:PY) (s':P7),CX w [] H s (λ_ _ _=>False) e s'->False):
  PySem.W.WalkO q loose XP YP l.row.toRowW d [] (λf vs=>YE f vs):=by
 refine Att.attach_call hn t λw s₀ j mg X p o Z cd N a vs ns G Y ho hd O C m i c P=>?_;have I:=L w _ Y;obtain⟨B,Q,hF⟩:=F w mg p _ I G.T.g C;exact EA I G.T.g G.T.b G.T.builtins G.T.nolimit P m i (Qg c r) J hF Q (λH R U=>y w H a ns c R U) λH e s'=>A w H j e s'
noncomputable def aE(s:Rh)(j:Nat):Rh:=match s with
 | .ClassDef _ _ _ body _ _ _ _ _ _ _=>body.getD j (.Pass ⟨0,0,0,0⟩)
 |_=> .Pass ⟨0,0,0,0⟩
noncomputable def iM(s:Rh):Arguments:=match s with
 | .FunctionDef _ a _ _ _ _ _ _ _ _=>a
 |_=>{posonlyargs:=[],args:=[],vararg:=PH,kwonlyargs:=[],kw_defaults:=[],kwarg:=PH,defaults:=[]}
noncomputable def cK(s:Rh):List Rh:=match s with
 | .FunctionDef _ _ b _ _ _ _ _ _ _=>b
 |_=>[]
noncomputable def ag(s:Rh):Scope:=match s with
 | .FunctionDef _ _ _ _ _ _ sc _ _ _=>sc
 |_=>{kind:= .function,names:=[],isGenerator:=PU,isCoroutine:=PU}
abbrev E0:St->XK:=λ_ _ _ _=>False
structure Fun (K:Qp) (x qual:QN) (st:Rh) (f:PX) (fd:Qt):Prop where
 ex:∃(oc:PY) (od:Option PX) (kV doc pm:PY) (an:Option PX) (cdv ct:PY) (osl:Array (Option PY)),
  fd=Uf x qual (iM st) (cK st) (ag st) .none kV doc pm an cdv ct/\K.lookup f=on ⟨oc,od,.func fd,osl⟩/\UM K cdv qual=PP
 kp:Vt K (.ref f)=PP
section
variable{P:QD}{w:QS}{K:Qp}{mg:QN->Option PY}{base:Rl}
theorem ui{A:Rg}(a:Room k A):A.units+1<Vr:=Sj (YR (by decide:1<=64) _) a.units
theorem sD(h:n<=1000):n<Qk:=Sj h (by decide)
variable{X:Cx}
theorem pv(i:Nat)(b:X.N[i]?=on x:=by rfl)(c:Vis X.env.scope x:=by first|exact RT rfl|exact SF (RT rfl)|exact SF (SF rfl))(hd:(x==("__debug__":QN))=PU:=by decide)
  (a:(x==("__classdict__":QN))=PU:=by decide):PE X (.Name x pos) (q8 i):=Ml b c hd a
theorem iteT{A B:Prop}(h:A):if PP=PP then A else B:=by
 rw[P6 rfl];exact h
theorem ite2{c A B:Prop} [Decidable c](a:c->A)(b:¬c->B):if c then A else B:=by
 by_cases h:c
 ·rw[P6 h]
  exact a h
 ·rw[P0 h]
  exact b h
def bL(H a:Hp):Prop:=∀b o,H b=on o->a b=on o
theorem bL.refl(H:Hp):bL H H:=λ_ _ h=>h
theorem bL.trans(a:bL H H1)(b:bL H1 H2):bL H H2:=λc o h=>b c o (a c o h)
theorem bL.free(e:bL H H')(h:H' l=Option.none):H l=Option.none:=by
 cases q:H l with
 |none=>rfl
 |some o=>
  rw[e l o q]at h;cases h
theorem di:∀(names:List (QN×TV)) (n:Nat) (acc:List (QN×PX)),RW n names acc=RW n names []++acc
 |[],_,_=>rfl
 |(x,k)::r,n,acc=>by
  unfold RW;split
  ·rw[di r (n+1) ((x,n)::acc),di r (n+1) [(x,n)],Q9]
   rfl
  ·exact di r n acc
theorem ic:∀{names:List (QN×TV)} {n:Nat} {x:QN} {c:PX},(x,c)∈RW n names []->(x,WR)∈names
 |[],_,_,_,h=>by cases h
 |(y,k)::r,n,x,c,h=>by
  unfold RW at h;split at h
  ·rename_i a
   rw[di]at h;rcases RN.mp h with h|h
   ·exact PN _ (ic h)
   ·obtain⟨rfl,_⟩:x=y/\c=n:=by simpa using h
    obtain rfl:k= .cell:=by simpa using a
    exact PZ
  ·exact PN _ (ic h)
noncomputable def db(cells:List (QN×PX)):List (QN×TV)->List (QN×PX)->List (QN×PX)
 |[],acc=>acc
 |(x,k)::r,acc=>if k== .free then db cells r ((x,(cells.lookup x).getD 0)::acc)else db cells r acc
theorem mem_cloF{cells:List (QN×PX)}:∀{names:List (QN×TV)} {acc:List (QN×PX)} {x:QN} {c:PX},(x,c)∈db cells names acc->(x,c)∈acc\/((x,SO)∈names/\c=(cells.lookup x).getD 0)
 |[],_,_,_,h=> .inl h
 |(y,k)::r,acc,x,c,h=>by
  unfold db at h;split at h
  ·rename_i a
   obtain rfl:k= .free:=by simpa using a
   rcases mem_cloF h with h|⟨h,e⟩
   ·rcases Qf.mp h with h|h
    ·cases h
     exact .inr ⟨PZ,rfl⟩
    ·exact .inl h
   ·exact .inr ⟨PN _ h,e⟩
  ·rcases mem_cloF h with h|⟨h,e⟩
   ·exact .inl h
   ·exact .inr ⟨PN _ h,e⟩
theorem pE:∀{names:List (QN×TV)} {acc:List (QN×PX)} {p:QN×PX},p∈acc->p∈db cells names acc
 |[],_,_,h=>h
 |(y,k)::r,acc,p,h=>by
  unfold db;split
  ·exact pE (PN _ h)
  ·exact pE h
theorem pC{cells:List (QN×PX)}:∀{names:List (QN×TV)} {acc:List (QN×PX)} {x:QN},(x,SO)∈names->(x,(cells.lookup x).getD 0)∈db cells names acc
 |[],_,_,h=>by cases h
 |(y,k)::r,acc,x,h=>by
  unfold db;rcases Qf.mp h with h|h
  ·cases h
   rw[P6 (by decide)];exact pE PZ
  ·split
   ·exact pC h
   ·exact pC h
theorem lM{α:Type}:∀{l:List (QN×α)} {x:QN} {c:α},(x,c)∈l->∃d,l.lookup x=on d
 |[],_,_,h=>by cases h
 |(y,d)::r,x,c,h=>by
  rw[Vw];cases a:x==y with
  |true=>exact⟨d,rfl⟩
  |false=>
   rcases Qf.mp h with h|h
   ·cases h
    simp at a
   ·exact lM h
theorem cY{α:Type}:∀{l:List (QN×α)} {x:QN} {c:α},(l.map (·.1)).Nodup->(x,c)∈l->l.lookup x=on c
 |[],_,_,_,h=>by cases h
 |(y,d)::r,x,c,nd,h=>by
  rw[Qb]at nd;obtain⟨a,b⟩:=QW.mp nd;rw[Vw];rcases Qf.mp h with h|h
  ·cases h
   simp
  ·have:x≠y:=λe=>a (e▸List.mem_map_of_mem (f:=(·.1)) h)
   rw[beq_eq_false_iff_ne.mpr this];exact cY b h
theorem rW{env:WV}(f:QN×TV->List (QN×PX)->Sem (ForInStep (List (QN×PX))))
  (g:∀name kind cs,f (name,kind) cs=if kind== .free then(do let a ←cellOf env name;SB (.yield ((name,a)::cs)))else SB (.yield cs)):
  ∀(names:List (QN×TV)) (acc:List (QN×PX)),(∀y∈names,y.2= .free->∃c,env.cells.lookup y.1=on c)->forIn names acc f=SB (db env.cells names acc)
 |[],_,_=>by rw[Tv];rfl
 |(x,k)::r,acc,h=>by
  rw[Th,g];unfold db;have i:∀y∈r,y.2= .free->∃c,env.cells.lookup y.1=on c:=λy j=>h y (PN _ j);by_cases b:(k==SO)=PP
  ·rw[P6 b,P6 b]
   obtain⟨c,l⟩:=h (x,k) PZ (by simpa using b);have d:env.cells.lookup x=on c:=l;have e:cellOf env x=SB c:=by unfold cellOf;rw[d]
   rw[e,d];simp only[pure_bind];exact rW f g r _ i
  ·rw[P0 b,P0 b]
   simp only[pure_bind];exact rW f g r _ i
theorem yy{scope:Scope}{env:WV}(h:∀y∈scope.names,y.2= .free->∃c,env.cells.lookup y.1=on c):closureFor scope env=SB (db env.cells scope.names []):=by
 simp only[closureFor];rw[rW (env:=env) _ (λname kind cs=>by cases a:kind==SO<;>simp[a]) scope.names [] h]
 rfl
theorem EQ{M:Model}{E:PY->P7->Prop}{s:P7}{scope:Scope}
  (f:∀h':Rl,h'.Ns s.heap.objs.size (λ_=>PH)->(∀b o,s.heap.get? b=on o->h'.get? b=on o)->
   (∀n c,(n,c)∈RW (s.heap.objs.size+1) scope.names []->h'.IsCell c PH/\s.heap.objs.size+1<=c)->
   ((RW (s.heap.objs.size+1) scope.names []).Pairwise λx y=>x.2≠y.2)->
   Q (newEnv scope s.heap.objs.size globals (RW (s.heap.objs.size+1) scope.names cl) qual PH .none (on env) XZ) {s with heap:=h'}):
  Qi M A (X7 scope globals cl [] qual PH .none (on env)) Q E s:=by
 simp only[X7,Option.isSome_some,QY];refine My (wpAny_alloc ?_);refine My (wpAny_layCells _ (λname kind cells=>by cases a:kind==WR<;>simp[a]) _ _ _ _ ?_)
 have ok:=cellsFrom_ok scope.names (s.heap.push {cls:= .type "dict",data:= .dict #[]}) (s.heap.objs.size+1) [] ⟨λ_ _ hm=>(nomatch hm),VM⟩ (by rw[RJ];exact P5 _);rw[RJ]at ok;rw[show({s with heap:=s.heap.push {cls:= .type "dict",data:= .dict #[]}}:P7).heap.objs.size=s.heap.objs.size+1 from RJ ..];have d:=f (pushCells (s.heap.push {cls:= .type "dict",data:= .dict #[]}) scope.names) ((Heap.Ns.new s.heap (.type "dict")).keeps (pushCells_keeps _ _)) (λb o e=>pushCells_keeps _ _ b o (PQ _ e)) ok.empty ok.apart;exact My (PL (PL d))
noncomputable abbrev aJ(X:Cx)(a:List QN)(scope:Scope)(cl:List (QN×PX))(C:PX)(b:List PX)(s:P7)(H:Hp):Cx:=
 {X with N:=a,s₀:=s,H₀:=H,env:=compEnvC scope cl C X.env,outer:=X.stack,stack:=X.stack,ex:=b,fn:=λx=>scope.names.lookup x !=on .free,pn:=[],xe:=λ_ _=>False}
theorem mem_relabel{scope:Scope}{y:QN×TV}(h:y∈(relabel scope env).names):y∈scope.names\/(y.2= .cell/\(y.1,SO)∈scope.names):=by
 obtain⟨⟨n,k⟩,hm,e⟩:=Qc.mp h
 dsimp only at e
 split at e
 ·rename_i a
  cases e;simp only[QI,TX]at a;obtain⟨⟨a,_⟩,_⟩:=a;subst a;exact .inr ⟨rfl,hm⟩
 ·cases e
  exact .inl hm
theorem EG{X:Cx}{R:St}{s:P7}{Nc vars:List QN}{caps:List Nat}{scope:Scope}{h':Rl}(I:Inv X pins R H s)
  (hk:scope.kind= .function) (g:(scope.names.map (·.1)).Nodup) (f:∀y∈scope.names,y.2= .free->X.env.kindOf y.1=on .cell\/X.env.kindOf y.1=on .free)
  (T:Nc=vars++caps.map (λj=>X.N.getD j TR)) (U:∀j∈caps,j<X.N.length/\scope.names.lookup (X.N.getD j TR)=on .free)
  (F:∀b∈fp,fm X pins H b) (W:∀b∈fp,∃o,s.heap.get? b=on o) (ns:h'.Ns s.heap.objs.size λ_=>PH) (keep:∀b o,s.heap.get? b=on o->h'.get? b=on o)
  (O:∀n c,(n,c)∈RW (s.heap.objs.size+1) scope.names []->h'.IsCell c PH/\s.heap.objs.size+1<=c) (ca:(RW (s.heap.objs.size+1) scope.names []).Pairwise λx y=>x.2≠y.2):
  Inv (aJ X Nc scope (RW (s.heap.objs.size+1) scope.names (db X.env.cells scope.names [])) s.heap.objs.size fp s H) [] (Qm vars.length PH++caps.map (λj=>R.getD j PH)) H {s with heap:=h'}:=by
 --the cells
 have old:∀{x:QN} {c:PX},(x,c)∈db X.env.cells scope.names []->X.env.cells.lookup x=on c/\(x,SO)∈scope.names:=λ{x c} h=>by
  rcases mem_cloF h with h|⟨hm,e⟩
  ·cases h
  ·obtain⟨d,hd⟩:=I.ok.has x (f _ hm rfl)
   rw[hd]at e;exact⟨by rw[hd,e];rfl,hm⟩
 have a:∀{x:QN} {c:PX},(RW (s.heap.objs.size+1) scope.names (db X.env.cells scope.names [])).lookup x=on c->
   (x,c)∈RW (s.heap.objs.size+1) scope.names []\/(X.env.cells.lookup x=on c/\(x,SO)∈scope.names):=λ{x c} h=>by
  have h:=Rv h;rw[di]at h;rcases RN.mp h with h|h
  ·exact .inl h
  ·exact .inr (old h)
 have freeC:∀{x:QN},(x,SO)∈scope.names->∃c,X.env.cells.lookup x=on c/\(RW (s.heap.objs.size+1) scope.names (db X.env.cells scope.names [])).lookup x=on c:=λ{x} hm=>by
  obtain⟨d,hd⟩:=I.ok.has x (f _ hm rfl);have e:=pC (cells:=X.env.cells) (acc:=[]) hm;obtain⟨c,Q⟩:=lM (l:=RW (s.heap.objs.size+1) scope.names (db X.env.cells scope.names [])) (x:=x) (c:=(X.env.cells.lookup x).getD 0) (by rw[di];exact QV _ e);rcases a Q with z|⟨z,_⟩
  ·have B:=cY g (ic z)
   rw[cY g hm]at B;cases B
  ·exact⟨c,z,Q⟩
 have k:∀{x:QN} {c:PX},X.env.cells.lookup x=on c->c<s.heap.objs.size:=λ{x c} h=>let ⟨v,q⟩:=I.cell x c h;q.lt
 have nofr:H s.heap.objs.size=PH:=I.hok.fresh (P5 _);have Y:∀b∈frs X.stack,b∈X.env.locals::X.fs:=I.stkSub;refine⟨⟨I.ok.mod,hk,I.ok.glob,I.ok.blt,P5 _,λx y c h1 h2=>?_,λx hx=>?_,λx c hf h=>?_,I.ok.hd,I.ok.frames,.inl rfl,λb J=>⟨?_,λx c h e=>?_⟩,I.bs,Qg I.ok.bsz I.sz,λb o e J=>?_,λb J hf=>?_,I.stack,I.stkFree⟩,
  rfl,I.bare,Un.kept keep,⟨_,ns,λi x v e1 A e3=>?_⟩,λx c h=>?_,nofr,λx c h=>?_,λp hp=>Qu hp (by simp),I.hok.kept keep,?_⟩
 ·rcases a h1 with B|⟨B,_⟩<;>rcases a h2 with Z|⟨Z,_⟩
  ·exact name_of_addr ca B Z
  ·exact Qu (Qv (k Z) (Qg (Vm _) (O _ _ B).2)) (Q4 _)
  ·exact Qu (Qv (k B) (Qg (Vm _) (O _ _ Z).2)) (Q4 _)
  ·exact I.ok.inj _ _ _ B Z
 ·--has
  have hx:(relabel scope X.env).names.lookup x=on .cell\/(relabel scope X.env).names.lookup x=on .free:=hx;have hm:(x,WR)∈scope.names\/(x,SO)∈scope.names:=by
   rcases hx with hx|hx
   ·rcases mem_relabel (Rv hx)with z|⟨_,z⟩
    ·exact .inl z
    ·exact .inr z
   ·rcases mem_relabel (Rv hx)with z|⟨_,z⟩
    ·exact .inr z
    ·exact .inr z
  rcases hm with hm|hm
  ·have q:=X1 scope.names (s.heap.objs.size+1) (db X.env.cells scope.names []) (x:=x) (.inl (cY g hm))
   exact W9.mp q
  ·obtain⟨c,_,Q⟩:=freeC hm
   exact⟨c,Q⟩
 ·--cab
  rcases a h with z|⟨_,z⟩
  ·exact Qg (Vm _) (O _ _ z).2
  ·have z':(scope.names.lookup x !=on .free)=PP:=hf
   rw[cY g z]at z';exact Qu z' (by decide)
 ·obtain⟨o,e⟩:=W b J
  exact Q5 (Qz e)
 ·rcases a h with z|⟨z,_⟩
  ·obtain⟨o,e'⟩:=W b J
   subst e;exact Qu (Qv (Qz e') (Qg (Vm _) (O _ _ z).2)) (Q4 _)
  ·exact(F b J).2.2.2.2.1 x c z e
 ·obtain⟨_,_,_,h4,_⟩:=F b J
  rcases h4 with z|z
  ·exact I.ok.noex b o e z
  ·exact Qu (Qv (Qz (I.ok.bs b o e).1) z) (Q4 _)
 ·obtain⟨_,h2,h3,_⟩:=F b J
  rcases Qf.mp (Y b hf)with z|z
  ·exact h2 z
  ·exact h3 z
 ·--the names' values
  have hi:¬i<vars.length:=λhi=>by
   rw[SM (by simpa using hi),Sw]at A;split at A<;>cases A
  have L:(vars++caps.map (λj=>X.N.getD j TR))[i]?=on x:=by rw[←T];exact e1
  rw[RK (by omega)]at L;rw[RK (by simpa using hi)]at A;rw[Ru]at A;cases q:caps[i-vars.length]? with
  |none=>rw[PV,q]at A;cases A
  |some j=>
   rw[PV,q]at L A;have C:X.N.getD j TR=x:=QB L;have e2':R.getD j PH=on v:=QB A;obtain⟨hj,t⟩:=U j (Ql q);rw[C]at t;obtain⟨c,Q,hc'⟩:=freeC (Rv t);have hNj:X.N[j]?=on x:=by
    rw[←C,PR,PM hj];rfl
   have hσj:R[j]?=on (on v):=by
    have hl:j<R.length:=by rw[I.len];exact hj
    rw[PR,PM hl]at e2';rw[PM hl];exact Re on e2'
   have hkx:=f _ (Rv t) rfl;obtain⟨m,hn,hl⟩:=I.loc;obtain⟨u,r,l⟩:=hl j x v hNj hσj (hkx.elim (λz=> .inr (.inl z)) λz=> .inr (.inr z));refine⟨u,r,.inr ⟨?_,c,hc',?_⟩⟩
   ·rcases e3 with z|z|z
    ·exfalso
     rcases mem_relabel (Rv z)with y|⟨y,_⟩
     ·rw[cY g y]at t;cases t
     ·cases y
    ·exact .inl z
    ·exact .inr z
   ·rcases l with⟨l,_⟩|⟨_,c',e,z⟩
    ·exfalso
     rcases hkx with y|y
     ·have y':X.env.kindOf x=on .cell:=y
      rw[l]at y';cases y'
     ·have y':X.env.kindOf x=on .free:=y
      rw[l]at y';cases y'
    ·rw[Q]at e
     cases e;exact z.keeps keep
 ·rcases a h with z|⟨z,_⟩
  ·exact⟨PH,(O _ _ z).1⟩
  ·obtain⟨v,q⟩:=I.cell x c z
   exact⟨v,q.keeps keep⟩
 ·rcases a h with z|⟨z,_⟩
  ·exact I.hok.fresh (Qg (Vm _) (O _ _ z).2)
  ·exact I.freeC x c z
 ·show _=Nc.length
  rw[T,Qh,Qh,Ru,PF,PF]
abbrev TB:=St->Hp->(St->Hp->Prop)->Prop
inductive CKd where
 |L (e:Expr)|S (e:Expr)|D (k v:Expr)
instance:Coe Expr CKd:=⟨.L⟩
noncomputable def mkC(c:CKd)(gens:List RQ)(scope:Scope)(pos:UL):Expr:=match c with
 | .L e=> .ListComp e gens scope pos
 | .S e=> .SetComp e gens scope pos
 | .D k v=> .DictComp k v gens scope pos
noncomputable def emC(c:CKd)(acc:PY)(env:WV):Sem Unit:=match c with
 | .L e=>do let _ ←W0 (.builtin "list.append") [acc,←Rk e env]
 | .S e=>do let v ←Rk e env;Ua e.pos;let _ ←W0 (.builtin "set.add") [acc,v]
 | .D k v=>do
   let kv ←Rk k env
   let vv ←UB [kv] (Rk v env)
   match acc with
   | .ref d=>do
    Ua {k.pos with endLine:=v.pos.endLine,endCol:=v.pos.endCol}
    UB [kv,vv] (dictSet d kv vv)
   |_=>unsupported "internal:dictcomp"
noncomputable def gZ(c:CKd)(gens:List RQ)(scope:Scope)(pos:UL)(d:Nat)(acc:PY)(env:WV)(k:Sem Vq):Sem Vq:=
 match gens[d+1]? with
 |some g'=>do
  let x ←Rk g'.iter env
  Ua g'.iter.pos
  let x ←if g'.is_async !=0 then foldedIterable g'.iter x else Q0 g'.iter env x
  let _ ←runOwn (.compStart (mkC c gens scope pos) (d+1) (←UB [x] (if g'.is_async !=0 then asyncIter x else Wl x)) acc env) env
  k
 |none=>do
  emC c acc env
  k
theorem vT{a b:Expr}(e:gens[d]?=on ⟨a,b,ifs,0⟩):
  compTurn (mkC c gens scope pos) d it acc env=(do
   Ua b.pos
   match ←UC it with
   |none=>SB (.done .next)
   |some v=>
    Va a it v
    U9 a env v
    let mut ok:=PP
    for y in ifs do
     if ok then ok ←isTrue y env (Rk y env)
    if ok then gZ c gens scope pos d acc env (Xq (.compLoop (mkC c gens scope pos) d it acc env))
    else Xq (.compLoop (mkC c gens scope pos) d it acc env)):=by
 cases c<;>(
  unfold compTurn gZ mkC emC
  dsimp only
  rw[e]
  dsimp only
  cases gens[d+1]?<;>rfl)
variable{prog:QD}{A:Rg}{R:Result->P7->Prop}{s:P7}
theorem DT(F:gens[d]?=on ⟨target,iter,ifs,0⟩)(I:Nat->P7->Prop)
  (q:∀n s,I n s->Qi (QA prog w) A (UC it) (λr a=>match r with
   |none=>R (.ok .next) a
   |some v=>Qi (QA prog w) A (Va target it v) (λ_ b=>Qi (QA prog w) A (U9 target env v) (λ_ j=>
    Qi (QA prog w) A (forIn ifs PP λy r=>if r=PP then do let ok ←isTrue y env (Rk y env);SB (Vk ok)else SB (Vk r)) (λok g=>
     if ok=PP then ∀(k:Sem Vq) (B:Vq->P7->Prop) (C:PY->P7->Prop),(∀i m,m<n->I m i->Qi (QA prog w) A k B C i)->Qi (QA prog w) A (gZ c gens scope pos d acc env k) B C g
     else ∃m,m<n/\I m g) (λ_ _=>False) j) (λ_ _=>False) b) (λ_ _=>False) a) (λ_ _=>False) s)
  (n:Nat) (h:I n s):
  Uk (QA prog w) A (.compLoop (mkC c gens scope pos) d it acc env) R s:=by
 refine codeAny_loop rfl I (λn s hI=>?_) n h
 suffices z:Qi (QA prog w) A ((compTurn (mkC c gens scope pos) d it acc env).onRaise (λx=>do noteFrame x env;theTreesLotGoes x)) (λu s'=>match u with
   |Fin.done f=>R (R6 f) s'
   |Fin.again c'=>c'=Code.compLoop (mkC c gens scope pos) d it acc env/\∃m,m<n/\I m s') (λe s'=>R (Except.error e) s') s by cases c<;>exact z
 refine wpAny_noted ?_;rw[vT F];refine My (SK (My (Q7 (q n s hI) (λr a l=>?_) λ_ _ h'=>h'.elim)));cases r with
 |none=>exact PL l
 |some v=>
  refine My (Q7 l (λ_ b p=>?_) λ_ _ h'=>h'.elim);refine My (Q7 p (λ_ j t=>My (Q7 t (λok g o=>?_) λ_ _ h'=>h'.elim)) λ_ _ h'=>h'.elim);cases ok with
  |false=>exact PL ⟨rfl,o⟩
  |true=>exact o _ _ _ λi m hm hI=>PL ⟨rfl,m,hm,hI⟩
theorem y8(j:gens[d]?=on ⟨target,iter,ifs,0⟩)
  (i:Uk (QA prog w) A (.compLoop (mkC c gens scope pos) d it acc env) R s)
  (h:Qi (QA prog w) A (Wl it) (λa s'=>Uk (QA prog w) A (.compLoop (mkC c gens scope pos) d a acc env) R s') (λ_ _=>False) s):
  Uk (QA prog w) A (.compStart (mkC c gens scope pos) d it acc env) R s:=by
 refine codeAny_of_tree ?_
 suffices z:Qi (QA prog w) A ((compStart (mkC c gens scope pos) d it acc env).onRaise (λx=>do noteFrame x env;Ua theWindowsPlace)) (λg s'=>match g with
   |Fin.done f=>R (R6 f) s'
   |Fin.again c'=>c'.quiet=PP/\Uk (QA prog w) A c' R s') (λe s'=>R (Except.error e) s') s by cases c<;>exact z
 refine wpAny_notedAt ?_;unfold compStart;have b:(clausesOf (mkC c gens scope pos))[d]?=on ⟨target,iter,ifs,0⟩:=by cases c<;>exact j
 generalize (clausesOf (mkC c gens scope pos))[d]?=og at b⊢;subst b;show Qi _ _ (ask>>=_) _ _ s;refine My (UQ (wpAny_ite ?_));split
 ·first
   |exact My (PL (PL (XB rfl i)))
   |exact PL (XB rfl i)
 ·first
   |exact My (T0 (My (SK (My (Q7 h (λa s' h'=>PL (XB rfl h')) λ_ _ x=>x.elim)))))
   |(refine My (T0 ?_);show Qi _ _ (Ua iter.pos>>=_) _ _ s;exact My (SK (My (Q7 h (λa s' h'=>PL (XB rfl h')) λ_ _ x=>x.elim))))
def dP(X:Cx)(b:List Expr)(t:TT):Prop:=
 ∀(a:List (PX×Qy)) (s:P7) (d:St) (H:Hp) (Q:Bool->Hp->Prop),Inv X a d H s->t d H Q->
  Qi (QA X.prog X.w) X.A (forIn b PP λc r=>if r=PP then do let ok ←isTrue c X.env (Rk c X.env);SB (Vk ok)else SB (Vk r)) (TP X a d Q) X.xe s
noncomputable def LL:TT:=λ_ H Q=>Q PP H
theorem uW{X:Cx}:dP X [] LL:=λ_ _ _ H _ I h=>PL ⟨H,I,h⟩
theorem CW{X:Cx}(d:PT X c t):dP X [c] t:=λa s e H Q I h=>by
 simp only[Th,Tv,QY];exact My (My (Q7 (d a s e H Q I h) (λb s' f=>PL (PL f)) λ_ _ x=>x))
def PB(X:Cx)(c:CKd)(gens:List RQ)(scope:Scope)(pos:UL)(d:Nat)(D:PX)(t:TB):Prop:=
 ∀(a:List (PX×Qy)) (s:P7) (e:St) (H:Hp) (Q:St->Hp->Prop),Inv X a e H s->t e H Q->
  ∀(k:Sem Vq) (f:Vq->P7->Prop) (g:PY->P7->Prop),(∀s' b h,Inv X a b h s'->Q b h->Qi (QA X.prog X.w) X.A k f g s')->Qi (QA X.prog X.w) X.A (gZ c gens scope pos d (.ref D) X.env k) f g s
def c7(J:It)(g:TG)(tt:TT)(j:TB):TB:=λc H Q=>∃W:Nat->Nat->St->Hp->Prop,(∃m,W 0 m c H)/\∀i m c H,W i m c H->
 (J.stop i H/\Q c H)\/(J.go i H/\∃N:St->Hp->Prop,(∀d e,N d e->∃f,f<m/\W (i+1) f d e)/\∀x e,J.yld i H x e->g x c e λa k=>tt a k λb h=>if b=PP then j a h N else N a h)
def yD(D:PX)(c:TE):TB:=λa H Q=>c a H λv b=>∃xs,b D=on (.lst xs)/\xs.length<Qk/\Q a (upd b D (.lst (xs++[v])))
def yC(b:TI)(c:It->TB):TB:=λa H Q=>b a H λJ d=>c J a d Q
variable{c:CKd}{elt target iter:Expr}{ifs:List Expr}{gens:List RQ}{scope:Scope}{pos:UL}{d:Nat}{D:PX}
theorem s0(hg:gens[d]?=on ⟨target,iter,ifs,0⟩)(hc:X.calm=PP)(F:X.xe=λ_ _=>False)(hgt:PG X target g)(hts:dP X ifs tt)(j:PB X c gens scope pos d D tb)
  {s:P7}
  (I:Inv X pins σ H s) (T:Turn X.prog X.w X.K target J fp it tn) (st:tn 0 s.heap) (hf:∀b∈fp,fm X pins H b) (h:c7 J g tt tb σ H Q):
  Uk (QA X.prog X.w) X.A (.compStart (mkC c gens scope pos) d (.ref it) (.ref D) X.env) (λr s'=>r= .ok .next/\∃a f,Inv X pins a f s'/\Q a f) s:=by
 obtain⟨W,⟨m0,w0⟩,L⟩:=h;have l:∀{f:Hp},(∀b∈fp,f b=PH)->∀b∈fp,fm X pins f b:=λhn b j=>⟨hn b j,(hf b j).2⟩;have t:Uk (QA X.prog X.w) X.A (.compLoop (mkC c gens scope pos) d (.ref it) (.ref D) X.env) (λr s'=>r= .ok .next/\∃a f,Inv X pins a f s'/\Q a f) s:=by
  refine DT hg (λn s'=>∃i a f,Inv X pins a f s'/\tn i s'.heap/\(∀b∈fp,f b=PH)/\W i n a f) ?_ m0 ⟨0,σ,H,I,st,λb j=>(hf b j).1,w0⟩;rintro n s3 ⟨i,p,Z,I3,O,U,w3⟩;rcases L i n p Z w3 with⟨stop,qn⟩|⟨go,N,hN,step⟩
  ·refine thn (T.done X rfl rfl rfl hc i pins s3 p Z _ I3 (l U) O stop) λr s4 ⟨hr,I4⟩=>?_
   subst hr;exact⟨rfl,p,Z,I4,qn⟩
  ·refine thn (T.item X rfl rfl rfl hc i pins s3 p Z _ I3 (l U) O go) λr s4 ⟨u,hr,h4⟩=>?_
   subst hr;refine thn h4 λ_ s5 ⟨x,H5,I5,r5,y5,v,fr5⟩=>?_;have I5':=I5.pinned (l fr5) (T.obj _ _ v);have Xq:∀{q:St} {y:Hp} {B:P7},Inv X (pins++ml fp s5.heap) q y B->N q y->∃m,m<n/\∃i a f,Inv X pins a f B/\tn i B.heap/\(∀b∈fp,f b=PH)/\W i m a f:=λ{q y B} C n7=>by
    obtain⟨m',hm,w7⟩:=hN q y n7;refine⟨m',hm,i+1,q,y,C.unpinned,T.keep _ _ _ v λb j o e=>(C.pin (b,o) (QV _ (QV _ (iA j e)))).1,λb j=>?_,w7⟩;obtain⟨o,e,d⟩:=T.obj _ _ v b j;exact(C.pin (b,o) (QV _ (QV _ (iA j e)))).2.1
   have h6:=hgt _ s5 p H5 x u _ I5' r5 (step x H5 y5);rw[F]at h6;refine thn h6 λ_ s6 ⟨Y,H6,I6,q6⟩=>?_;have h7:=hts _ s6 Y H6 _ I6 q6;rw[F]at h7;refine thn h7 λb B ⟨y,C,q7⟩=>?_;cases b with
   |true=>
    rw[P6 rfl]at q7⊢;intro k Q' E' hk;refine j _ B Y y N C q7 k Q' E' λs8 σ8 H8 I8 n8=>?_;obtain⟨m,hm,z⟩:=Xq I8 n8;exact hk s8 m hm z
   |false=>
    rw[P0 P8]at q7⊢;exact Xq C q7
 exact y8 hg t (T.self X.A 0 s _ _ st t)
theorem aK(m:gens[d+1]?=PH)(o:PE X elt te)(b:X.xe=λ_ _=>False):PB X elt gens scope pos d D (yD D te):=by
 intro a s g H Q I h k y B p;unfold gZ;rw[m];show Qi _ _ ((do let _ ←W0 (.builtin "list.append") [.ref D,←Rk elt X.env])>>=λ_=>k) _ _ _
 have i:=o a s g H _ I h;rw[b]at i;refine My (My (Q7 i (λu C ⟨v,J,j,r,xs,l,L,q⟩=>?_) λ_ _ f=>f.elim));obtain⟨z,its,n,t,N,e⟩:=j.lstM l;refine My (X0 F.slot_list_append ⟨_,e,rfl⟩ F.entry_list_append (Y8 _ _) (YZ D its.toArray n u (by rw[Qo];omega)) ⟨e,?_⟩);refine PL (p _ g _ (j.lset (its':=its++[u]) l e (by simp) (t.append (.cons r .nil)) ?_) q);rw[Qh,QU];omega
theorem rB(o:gens[d+1]?=on ⟨target',iter',ifs',0⟩)(p:X.calm=PP)(a:X.xe=λ_ _=>False)(t:PI X target' iter' wi)
  (j:PG X target' g) (l:dP X ifs' tt) (u:PB X c gens scope pos (d+1) D tb) (hs:∀x,Q0 iter' X.env x=SB x:=by intro _;rfl):PB X c gens scope pos d D (yC wi λJ=>c7 J g tt tb):=by
 intro b s y H Q I h k Y Z B;unfold gZ;rw[o];have i:=t b s y H _ I h;rw[a]at i;refine My (Q7 i (λv s1 i=>My (SK ?_)) λ_ _ f=>f.elim);show Qi _ _ (Q0 iter' X.env v>>=_) _ _ _;refine My (TZ (hs v) ?_);show Qi _ _ (UB [v] (Wl v)>>=_) _ _ _;refine My (RH (Q7 i (λC s2 F=>?_) λ_ _ f=>f.elim));obtain⟨it,fp,tn,J,H2,e,L,T,m,f2,q⟩:=F;subst e;refine My (wpAny_runOwn (Vi (s0 o p a j l u L T m f2 q) λr s' ⟨N,z⟩=>?_));subst N;obtain⟨n,O,U,W⟩:=z;exact B s' n O U W
noncomputable def kH(vars:List QN)(caps:List Nat)(a:St):St:=Qm vars.length PH++caps.map (λj=>a.getD j PH)
def Mks(X:Cx)(mk:Sem PY)(g:PX->HO):Prop:=∀(a:List (PX×Qy)) (s:P7) (f:St) (H:Hp) (E:PY->P7->Prop) (Q:PY->P7->Prop),Inv X a f H s->
 (∀e:P7,Inv X a f (upd H s.heap.objs.size (g s.heap.objs.size)) e->(∀b o,s.heap.get? b=on o->e.heap.get? b=on o)->Q (.ref s.heap.objs.size) e)->Qi (QA X.prog X.w) X.A mk Q E s
theorem vb{X:Cx}:Mks X (newList []) λ_=> .lst []:=λa s f H E Q I h=>Rt (h _ (I.lnew (t':=s.toks) .nil (Rr _)) λb o e=>PQ _ e)
def pR(vars:List QN)(caps:List Nat)(e:TI)(f:PX->It->TB):TE:=λa H Q=>e a H λJ b=>∀D,b D=PH->f D J (kH vars caps a) (upd b D (.lst [])) λ_ g=>Q (.ref D) g
structure CmpScope (X:Cx) (scope:Scope) (Nc vars:List QN) (caps:List Nat):Prop where
 kind:scope.kind= .function
 nd:(scope.names.map (·.1)).Nodup
 free:∀y∈scope.names,y.2= .free->X.env.kindOf y.1=on .cell\/X.env.kindOf y.1=on .free
 names:Nc=vars++caps.map (λj=>X.N.getD j TR)
 cap:∀j∈caps,j<X.N.length/\scope.names.lookup (X.N.getD j TR)=on .free
variable{rest:List RQ}{Nc vars:List QN}{caps:List Nat}{g:TG}{tt:TT}{tb:PX->TB}{wi:TI}
def Oy(X:Cx)(a:List (PX×Qy))(H:Hp)(C:PX):Prop:=H C=PH/\C≠X.env.locals/\X.s₀.heap.objs.size<=C/\(∀x c,X.env.cells.lookup x=on c->c≠C)/\∀p∈X.pn++a,p.1≠C
theorem gY{c:CKd}{mk:Sem PY}{B:PX->HO}(O:Mks X mk B){f:List (PX×Qy)}{F:St}{H:Hp}{s:P7}{it:PX}{h:List PX}{Q:Nat->Rl->Prop}{J:It}{E:PY->P7->Prop}{QQ:PX->Hp->Prop}{RR:PY->PX->Result->P7->Prop}
  (hc:X.calm=PP) (S:CmpScope X scope Nc vars caps)
  (L:∀(cl:List (QN×PX)) (C:PX) (h:List PX) (s:P7) (H:Hp),PG (aJ X Nc scope cl C h s H) target g/\dP (aJ X Nc scope cl C h s H) ifs tt/\∀D,PB (aJ X Nc scope cl C h s H) c (⟨target,iter,ifs,0⟩::rest) scope pos 0 D (tb D))
  (I:Inv X f F H s) (T:Turn X.prog X.w X.K target J h it Q) (st:Q 0 s.heap) (U:∀b∈h,fm X f H b)
  (q:∀D,H D=PH->c7 J g tt (tb D) (kH vars caps F) (upd H D (B D)) λ_ k=>QQ D k)
  (W:∀(D C:PX) (s':P7) (k:Hp) (m:QN->Option PY),Inv X f F k s'->s'.heap.Ns C m->Oy X f k C->QQ D k->RR (.ref D) C (.ok .next) s'):
  Qi (QA X.prog X.w) X.A mk (λacc t=>Qi (QA X.prog X.w) X.A (X7 scope X.env.globals (db X.env.cells scope.names []) [] X.env.qual PH .none (on X.env)) (λj u=>
   Uk (QA X.prog X.w) X.A (.compStart (mkC c (⟨target,iter,ifs,0⟩::rest) scope pos) 0 (.ref it) acc {j with scope:=relabel scope X.env}) (RR acc j.locals) u) E t) E s:=by
 refine O f s F H _ _ I λi l y=>?_;have hD:H s.heap.objs.size=PH:=I.fresh;have q3:=q s.heap.objs.size hD;have Y:∀b∈h,∃o,i.heap.get? b=on o:=λb L=>let ⟨o,e,_⟩:=T.obj _ _ st b L;⟨o,y b o e⟩
 have Z:∀b∈h,fm X f (upd H s.heap.objs.size (B s.heap.objs.size)) b:=λb a=>⟨by
  rw[upd_ne]
  ·exact(U b a).1
  ·obtain⟨o,e,_⟩:=T.obj _ _ st b a
   exact Q5 (Qz e),(U b a).2⟩
 generalize hH3:upd H s.heap.objs.size (B s.heap.objs.size)=H3 at l q3 Z;generalize s.heap.objs.size=D at hD hH3 q3⊢;refine EQ λh' ns keep ce ca=>?_;have N:=EG l S.kind S.nd S.free S.names S.cap Z Y ns keep ce ca;obtain⟨b1,b2,b3⟩:=L (RW (i.heap.objs.size+1) scope.names (db X.env.cells scope.names [])) i.heap.objs.size h i H3;have st4:Q 0 h':=T.keep _ _ _ st λb L o e=>keep b o (y b o e);have f4:∀b∈h,fm (aJ X Nc scope (RW (i.heap.objs.size+1) scope.names (db X.env.cells scope.names [])) i.heap.objs.size h i H3) [] H3 b:=λb a=>
  ⟨(Z b a).1,(N.ok.exf b a).1,N.ok.exfs b a,.inl a,(N.ok.exf b a).2,λp hp=>Qu hp (by simp)⟩
 refine Vi (s0 (X:=aJ X Nc scope (RW (i.heap.objs.size+1) scope.names (db X.env.cells scope.names [])) i.heap.objs.size h i H3) (gens:=⟨target,iter,ifs,0⟩::rest) (d:=0) rfl hc rfl b1 b2 (b3 D) N T st4 f4 q3) λr s' ⟨hr,σ',k,n,q'⟩=>?_;subst hr;obtain⟨m,hm,_⟩:=n.loc;have C1:X.env.locals<i.heap.objs.size:=l.lt;refine W D _ s' k m (l.call' (ch:=h) n.os n.base n.hok n.bare λb a=>?_) hm ⟨n.free,Te C1,l.sz,λx c e z=>?_,λp hp z=>?_⟩ q'
 ·obtain⟨_,h2,h3,h4,h5,h6⟩:=U b a
  exact⟨h4,h2,h5,h6⟩
 ·obtain⟨v,e'⟩:=l.cell x c e
  exact Qu (z▸e'.lt) (Q4 _)
 ·have:=Qz (l.pin p hp).1
  rw[z]at this;exact Qu this (Q4 _)
theorem Inv.letgo{s:P7}(I:Inv X pins σ H s)(o:Oy X pins H C)(hs:QE C s.heap h'):Inv X pins σ H {s with heap:=h'}:=
 I.turned (t':=s.toks) (λb f a e=>(hs.2 b a).trans e) o.1 (Ne.symm (Ne.symm o.2.1)) (.inr o.2.2.1) o.2.2.2.1 o.2.2.2.2
theorem CmpScope.clo(S:CmpScope X scope Nc vars caps)(ok:X.Ok):closureFor scope X.env=SB (db X.env.cells scope.names []):=yy λy a b=>ok.has y.1 (S.free y a b)
theorem CmpScope.loc(S:CmpScope X scope Nc vars caps):∀x∈scope.names,x.2= .local->scope.names.lookup x.1=on .local:=λx a b=>cY S.nd (by rw[←b];exact a)
theorem nG(j:X.calm=PP)(S:CmpScope X scope Nc vars caps)(k:PI X target iter wi)
  (l:∀(cl:List (QN×PX)) (C:PX) (b:List PX) (s:P7) (H:Hp),PG (aJ X Nc scope cl C b s H) target g/\dP (aJ X Nc scope cl C b s H) ifs tt/\∀D,PB (aJ X Nc scope cl C b s H) elt (⟨target,iter,ifs,0⟩::rest) scope pos 0 D (tb D))
  (hs:∀x,Q0 iter X.env x=SB x:=by intro _;rfl):PE X (.ListComp elt (⟨target,iter,ifs,0⟩::rest) scope pos) (pR vars caps wi λD J=>c7 J g tt (tb D)):=by
 intro a s n H Q I h;rw[eval_ListComp];refine S8 (use:=PH) rfl hs (S.clo I.ok) S.kind S.loc (Q7 (k a s n H _ I h) (λv N o=>Q7 o (λp O r=>?_) λ_ _ x=>x) λ_ _ x=>x);obtain⟨it,b,U,J,W,e,t,T,f,f2,q⟩:=r;subst e;refine gY (c:= .L elt) vb (RR:=λacc C=>X2 (QA X.prog X.w) X.A X.xe PH _ acc C) j S l t T f f2 q λD C s' u m y ns B F=>?_;exact⟨m,ns,λh' i=>⟨.ref D,u,y.letgo B i,rfl,F⟩⟩
theorem wF{b f:UL}(y:X.N.Nodup)(l:X.N[i]?=on x)(B:Loc X.env.scope x)(F:X.calm=PP)(S:CmpScope X scope Nc vars caps)(O:PI X target iter wi)
  (U:∀(cl:List (QN×PX)) (C:PX) (k:List PX) (s:P7) (H:Hp),PG (aJ X Nc scope cl C k s H) target g/\dP (aJ X Nc scope cl C k s H) ifs tt/\∀D,PB (aJ X Nc scope cl C k s H) elt (⟨target,iter,ifs,0⟩::rest) scope pos 0 D (tb D))
  (n:UP (.ListComp elt (⟨target,iter,ifs,0⟩::rest) scope pos) (on (.Name x b)) f.line X.env=SB PP:=by rfl)
  (hs:∀x,Q0 iter X.env x=SB x:=by intro _;rfl) (W:X.fn x=PP\/X.env.scope.names.lookup x=on .local:=by first|exact .inl rfl|exact .inr rfl|assumption):
  PS X (.Assign [.Name x b] (.ListComp elt (⟨target,iter,ifs,0⟩::rest) scope pos) f) (jL (pR vars caps wi λD J=>c7 J g tt (tb D)) (fS i)):=by
 intro j s Y H D I h;rw[exec_Assign_Name_used _ _ _ _ n];refine My (SK (My ?_));show Qi _ X.A (do let _ ←comprehension (.ListComp elt (⟨target,iter,ifs,0⟩::rest) scope pos) scope X.env _ (newList []) PU (Rk iter X.env) (on (U9 (.Name x b) X.env))) _ _ s
 refine My (Q7 (S8 (use:=on (U9 (.Name x b) X.env)) (Q:=λ_ s'=>SP X j D .next s') rfl hs (S.clo I.ok) S.kind S.loc
  (Q7 (O j s Y H _ I h) (λv s1 Z=>Q7 Z (λitv s2 h2=>?_) λ_ _ e=>e) λ_ _ e=>e)) (λ_ s' hq=>PL (PL hq)) λ_ _ e=>e)
 obtain⟨it,k,tn,J,H2,e,o,T,p,f2,q⟩:=h2;subst e;refine gY (c:= .L elt) vb (RR:=λacc C=>X2 (QA X.prog X.w) X.A X.xe (on (U9 (.Name x b) X.env)) _ acc C) F S U o T p f2 q λA C s' H' m I' ns r q'=>?_;show Qi _ X.A (U9 (.Name x b) X.env (.ref A)) _ _ s';refine W5 (lW I' y l B (v:= .ref A) rfl (λs2 o ⟨a,sb,ha⟩=>?_) W);have t:C≠a:=by
  rcases ha with rfl|ha
  ·exact r.2.1
  ·exact λz=>r.2.2.2.1 x a ha z.symm
 exact⟨m,ns.sameBut sb t,λh' u=>⟨_,H',o.letgo r u,q'⟩⟩
end
end L2
namespace L2
open PySem PySem.Spec
open Sem (wp)
open Builtin Builtin.ObjectAttr
structure XShape (h:Rl) (C:PX) (bm:List PY):Prop where
 at_:∃(nm q:QN) (N:PX) (bs:List PY) (hdct:Bool) (sn:List QN) (sub:List PY) (ab:Bool) (col:Option Bool) (dd:Option PX) (k0 k1 k2 k3 k5:Option PY),
  h.get? C=on (excClassObj nm q C N bs bm hdct sn sub ab col dd k0 k1 k2 k3 k5 "ValueError.__new__")
 val:bm.contains (.type "ValueError")=PP
 bas:bm.contains (.type "BaseException")=PP
 att:bm.contains (.type "AttributeError")=PU
 nam:bm.contains (.type "NameError")=PU
section
variable{prog:QD}{w:QS}{A:Rg}{E:PY->P7->Prop}{h:Rl}{g:Array GenState}{d:Drawn}{t:Nat}{os:VF}{C:PX}{bm rest:List PY}
noncomputable def xh:List PY->Bool
 |[.type a,.type b,.type c,.type d]=>a=="ValueError"&&b=="Exception"&&c=="BaseException"&&d=="object"
 | .ref _::r=>xh r
 |_=>PU
variable{s:P7}{e:PX}{K:Qp}{cd:ClassData}{name:QN}{v:PY}
end
end L2
namespace L2
open PySem PySem.Spec PyProof.Rows
theorem bH.there{h:Rl}(x:bH P w H h a o):∃b,h.get? a=on b:=by
 cases o with
 |lst xs=>obtain⟨_,_,_,_,e⟩:=x;exact⟨_,e⟩
 |tup xs=>obtain⟨_,_,_,_,e,_⟩:=x;exact⟨_,e⟩
 |ins C dx fs=>obtain⟨_,_,_,e,_⟩:=x;exact⟨_,e⟩
 |own y=>exact x
 |xd fs=>obtain⟨_,⟨_,_,_,e,_⟩,_⟩:=x;exact⟨_,e⟩
 |rng lo hi=>obtain⟨_,_,_,e⟩:=x;exact⟨_,e⟩
 |frz b u=>obtain⟨e,_⟩:=x;exact⟨_,e⟩
 |tbl ps=>exact⟨_,(show h.get? a=on _ from x)⟩
 |met f y=>exact⟨_,(show h.get? a=on _ from x)⟩
 |ext φ=>obtain⟨_,e,_⟩:=x;exact e
structure Flown (P:QD) (w:QS) (outer:List WV) (H:Hp) (s:P7) (E:XK) (x C:PX) (H':Hp) (s':P7):Prop where
 os:s'.os=s.os
 bare:Vd s'.gens
 un:Un (frs outer) [] H H' s.heap s'.heap
 hok:HOk P w H' s'.heap
 tr:∃(oe:Qy) (vs:Array PY) (T:PX) (oT:Qy) (ts:Array PY) (a0:PY),s'.heap.get? x=on oe/\(oe.cls= .ref C/\vs[0]?=on a0)/\oe.data= .fields vs/\vs[1]?=on (.ref T)/\T≠x/\s'.heap.get? T=on oT/\oT.data= .fields ts/\ts[3]?=on .none/\H' T=PH/\s.heap.get? T=PH
 xn:H' x=PH
 xs:s.heap.get? x=PH
 wish:E (.ref C) PH H'
def CXE(P:QD)(w:QS):CXT:=λouter H s E e s'=>∃x C a,e= .ref x/\Flown P w outer H s E x C a s'
theorem AB{X:Cx}{s s':P7}{E:XK}(I:Inv X pins σ H s)(g:X.stack=X.env::X.outer)(i:X.env.frame=on X.env.locals)(R:X.ex=[])
  (os:s'.os=X.s₀.os) (bare:Vd s'.gens) (d:Un (frs X.stack) [] X.H₀ H' X.s₀.heap s'.heap) (hok:HOk X.prog X.w H' s'.heap) (y:∀b∈frs X.stack,H' b=PH)
  (c:∀b∈ext,X.s₀.heap.get? b=PH/\H' b=PH) (O:x∈ext) (wish:E (.ref C) PH H')
  (L:Heap.LeftW (Zg s'.heap (ext++frs X.stack)) (X.env::X.outer) x (.ref C) a0 s'.heap h'):Flown X.prog X.w X.outer X.H₀ X.s₀ E x C H' {s' with heap:=h'}:=by
 obtain⟨U,L2,W,Y⟩:=L;have j:∀b∈frs X.outer,b∈frs X.stack:=λb hb=>by
  rw[g];unfold frs;rw[RU,i];exact PN _ hb
 have h:∀b∈frs X.stack,b=X.env.locals\/b∈frs X.outer:=λb hb=>by
  rw[g]at hb;unfold frs at hb;rw[RU,i]at hb;exact Qf.mp hb
 have A:∀b o,X.s₀.heap.get? b=on o->b≠X.env.locals:=λb o e=>Q5 (Qv (Qz e) I.ok.above);have stay:∀b o,s'.heap.get? b=on o->b∉ext->b∉frs X.stack->h'.get? b=on o:=λb o e B Z=>
  U b o (hideAll_get _ e λhm=>(RN.mp hm).elim B Z)
 have k:∀b o,X.s₀.heap.get? b=on o->b∉ext:=λb o e hb=>by rw[(c b hb).1]at e;cases e
 have f:∀b∈frs X.stack,∃o,h'.get? b=on o/\∀vs,o.data≠ .fields vs:=λb hb=>(L2.mem (by rw[←g];exact hb)).2;obtain⟨oe,vs,T,oT,P,he,hc,hd,B,l,F,Q,m,h3⟩:=W;have p:H' T=PH/\X.s₀.heap.get? T=PH:=by
  by_cases hm:T∈ext++frs X.stack
  ·rcases RN.mp hm with hm|hm
   ·exact⟨(c T hm).2,(c T hm).1⟩
   ·obtain⟨o,e,nf⟩:=f T hm
    rw[Q]at e;cases e;exact Qu m (nf P)
  ·have hs:s'.heap.get? T=PH:=by
    cases q:s'.heap.get? T with
    |none=>rfl
    |some o=>rw[hideAll_get _ q hm]at l;cases l
   constructor
   ·cases q:H' T with
    |none=>rfl
    |some o=>obtain⟨ob,e⟩:=(hok T o q).there;rw[hs]at e;cases e
   ·cases q:X.s₀.heap.get? T with
    |none=>rfl
    |some o=>obtain⟨ob,e⟩:=d.there T o q (by simp);rw[hs]at e;cases e
 refine⟨os,bare,⟨λb o e n hb _=>?_,λb o e n hb _=>?_,λb o e n hb=>d.free b o e n hb,λb o e _=>?_,d.tups,d.frzs,d.tbls⟩,λa o e=>?_,⟨oe,vs,T,oT,P,a0,he,hc,hd,B,F,Q,m,h3,p.1,p.2⟩,(c x O).2,(c x O).1,wish⟩
 ·have nf:b∉frs X.stack:=λz=>(h b z).elim (A b o e) hb
  exact stay b o (d.keep b o e n nf (by simp)) (k b o e) nf
 ·obtain⟨sl,r⟩:=d.slot b o e n (j b hb) (by simp)
  obtain⟨_,J,v,nf⟩:=I.ok.funs.mem hb;rw[e]at v;cases v;obtain⟨N,e3⟩:=Y b _ r nf;exact⟨N,e3⟩
 ·obtain⟨J,r⟩:=d.there b o e (by simp)
  by_cases hb:b∈frs X.stack
  ·obtain⟨o2,v,_⟩:=f b hb
   exact⟨o2,v⟩
  ·exact⟨J,stay b J r (k b o e) hb⟩
 ·refine(hok a o e).stay (λb u hb r=>?_) (λ_ q=>q) λ_ _ q=>q
  have t:H' b≠PH:=by
   rcases hb with rfl|hb
   ·rw[e];simp
   ·rw[hb];simp
  exact stay b u r (λz=>t (c b z).2) λz=>t (y b z)
theorem AU{h base:Rl}(d:h.FunFrames base l)(c:∀b∈frs l,b∈as):h.FunFrames (Zg h as) l:=
 PySem.W.funFrames_hide d λenv e a ha=>c a (by unfold frs;exact U2.mpr ⟨env,e,ha⟩)
theorem KK{X:Cx}{E F:XK}(a:X.stack=X.env::X.outer)(d:X.env.frame=on X.env.locals)(f:X.ex=[])(R:∀cls J H,F cls J H->E cls J H)
  (I:Inv X pins σ H s) (h:CXE X.prog X.w X.stack H s F e s'):
  Qi (QA X.prog X.w) X.A (leaving X.env e) (λ_ j=>CXE X.prog X.w X.outer X.H₀ X.s₀ E e j) E1 s':=by
 obtain⟨x,C,N,rfl,os,bare,un,hok,⟨U,vs,T,W,Y,a0,Z,hc,hd,h1,k,hT,m,h3,n,p⟩,xn,xs,wish⟩:=h;have nofs:∀b∈X.fs,b∈frs X.stack:=λb hb=>by
  rw[a];unfold frs;rw[RU,d];exact PN _ hb
 have O:Un (frs X.stack) [] X.H₀ H X.s₀.heap s.heap:=by
  have b:=I.base;rw[f]at b;exact b.mono nofs λ_ z=>z
 have U0:=O.trans un;have g:∀b,s.heap.get? b=PH->X.s₀.heap.get? b=PH:=λb e=>by
  cases q:X.s₀.heap.get? b with
  |none=>rfl
  |some o=>obtain⟨o',P⟩:=O.there b o q (by simp);rw[e]at P;cases P
 have c:=I.stack;have i:s'.heap.FunFrames X.base X.stack:=by
  have all:∀(l:List WV),(∀b∈frs l,b∈frs X.stack)->s.heap.FunFrames X.base l->s'.heap.FunFrames X.base l:=by
   intro l
   induction l with
   |nil=>intro _ _;trivial
   |cons env r ih=>
    intro hs hl;obtain⟨hk,⟨L,o,t,hn,u,v⟩,hr⟩:=hl;have Q:L∈frs X.stack:=hs L (by unfold frs;rw[RU,t];exact PZ);obtain⟨sl,e⟩:=un.slot L o u (I.stkFree L Q) Q (by simp);exact⟨hk,⟨L,_,t,hn,e,v⟩,ih (λb hb=>hs b (by unfold frs;rw[RU,t];exact PN _ hb)) hr⟩
  exact all X.stack (λ_ hb=>hb) c
 have y:∀b∈frs X.stack,N b=PH:=λb hb=>by
  obtain⟨_,o,u,_⟩:=c.mem hb;exact un.free b o u (I.stkFree b hb) (by simp)
 have B:∀b∈frs X.stack,b∈[x,T]++frs X.stack:=λb hb=>QV _ hb;have hF:s'.heap.FunFrames (Zg s'.heap ([x,T]++frs X.stack)) (X.env::X.outer):=by
  have z:=AU i B;rw[a]at z⊢;exact z
 refine wpAny_leaving_nextW (base:=Zg s'.heap ([x,T]++frs X.stack)) (by rw[←a];exact I.ok.frames) hF d ⟨U,vs,T,W,Y,Z,hc,hd,h1,Zh _ (by simp),k,hT,m,h3⟩ (λb o q=>XW _ q) (Zh _ (by simp)) λh' L=>?_;refine⟨x,C,N,rfl,AB I a d f (os.trans I.os) bare U0 hok y (λb hb=>?_) (by simp) (R _ _ _ wish) L⟩;rcases Qf.mp hb with rfl|hb
 ·exact⟨g _ xs,xn⟩
 ·obtain rfl:b=T:=by simpa using hb
  exact⟨g _ p,n⟩
section
variable{X:Cx}{pins:List (PX×Qy)}{σ:St}{H H':Hp}{s s':P7}{E:XK}{x C:PX}
structure XC (K:Qp) (C:PX):Prop where
 sh:∃bm,∀h:Rl,K.In h->XShape h C bm
 sa:Uo K (.ref C) "__setattr__"=on (on (.builtin "object.__setattr__"))
 cd:∃cd,PySem.W.clsIn K C=on cd/\cd.hasDict=PP/\xh cd.mro=PP
structure XMk (K:Qp) (C f:PX):Prop where
 xc:XC K C
 init:Uo K (.ref C) "__init__"=on (on (.ref f))
 fn:isFn K (.ref f)=PP
 kp:Vt K (.ref C)=PP
end
section
variable{X:Cx}{CX:CXT}{k:Nat}{f C:PX}{fd:Qt}{ps:List QN}{sp:Sp}{dvs:List V}{ds:List PY}{E:St->XK}{x m:QN}{p pos apos:UL}{e o:Expr}{es:List Expr}{ta:TE}{t:TA}
structure ClsFn (K:Qp) (D:PX) (m:QN) (f:PX):Prop where
 ga:specialIn K (.ref D) "__getattribute__"=on (on (.builtin "type.__getattribute__"))
 rd:PySem.W.readsIn K D (.type "type")=PP
 fnd:PySem.W.findCls K (.ref D) (.type "type") m=on (.val (.ref f))
 kp:Vt K (.ref f)=PP
end
section
variable{P:QD}{w:QS}{K:Qp}{mg:QN->Option PY}{base:Rl}{N:List QN}{qual:QN}{scope:Scope}{f:PX}{cd:PY}{A:Rg}{outer:List WV}{s:P7}{H:Hp}{E:XK}
theorem e9:dy (CXE P w) (fW (CXE P w) P w K mg base N qual scope f cd A outer s H E) (λ_=>E):=λa b c d e s' I h=>KK (X:=fW (CXE P w) P w K mg base N qual scope f cd A outer s H E) rfl rfl rfl (λ_ _ _ z=>z) I h
theorem tY:dy (CXE P w) X E0:=λ_ _ _ _ _ _ _ h=>by
 obtain⟨_,_,_,_,F⟩:=h;exact F.wish.elim
theorem bO:YV (QA P w) (A.deeper (Uz qual scope s.heap.objs.size f cd)) (Uz qual scope s.heap.objs.size f cd) (fW (CXE P w) P w K mg base N qual scope f cd A outer s H E).xe:=PassesOwn.leaving
structure FunD (K:Qp) (x qual:QN) (st:Rh) (f:PX) (fd:Qt):Prop where
 ex:∃(oc:PY) (od:Option PX) (dV kV doc pm:PY) (an:Option PX) (cdv ct:PY) (osl:Array (Option PY)),
  fd=Uf x qual (iM st) (cK st) (ag st) dV kV doc pm an cdv ct/\K.lookup f=on ⟨oc,od,.func fd,osl⟩/\UM K cdv qual=PP
 kp:Vt K (.ref f)=PP
theorem Lg{K:Qp}{x qual:QN}{st:Rh}{f:PX}(l:K.lookup f=on ⟨oc,od,.func (Uf x qual (iM st) (cK st) (ag st) dV kV doc pm an cdv ct),osl⟩)
  (c:UM K cdv qual=PP) (k:Vt K (.ref f)=PP):FunD K x qual st f (Uf x qual (iM st) (cK st) (ag st) dV kV doc pm an cdv ct):=⟨⟨oc,od,dV,kV,doc,pm,an,cdv,ct,osl,rfl,l,c⟩,k⟩
theorem FunD.okE{x qual:QN}{st:Rh}{f:PX}{N ps:List QN}(F:FunD K x qual st f fd)(S:FnScope N ps (ag st))(len:∀vs H Q E,sp vs H Q E->vs.length=ps.length)
  (b:∀(a:PY) (A:Rg) (outer:List WV) (s:P7) (H:Hp) (vs:List V) (Q:VK) (E:XK),Room k (A.deeper (Uz qual (ag st) s.heap.objs.size f a))->sp vs H Q E->
   ∃t,PSs (fW (CXE P w) P w K mg base N qual (ag st) f a A outer s H E) (cK st) t/\t {nx:=λ_ e=>Q .non e,rt:=Q} (fK N vs) H):FnOk P w K mg base (CXE P w) (k+1) f fd ps sp:=by
 obtain⟨l,m,n,o,g,p,q,a,ct,h,rfl,i,c⟩:=F.ex;exact JF i c S len λA outer s H vs Q E j d=>b a A outer s H vs Q E j d
theorem FunD.ok{x qual:QN}{st:Rh}{f:PX}{N ps:List QN}(F:FunD K x qual st f fd)(S:FnScope N ps (ag st))(len:∀vs H Q E,sp vs H Q E->vs.length=ps.length)
  (b:∀(a:PY) (A:Rg) (outer:List WV) (s:P7) (H:Hp) (vs:List V) (Q:VK) (E:XK),Room k (A.deeper (Uz qual (ag st) s.heap.objs.size f a))->sp vs H Q E->
   ∃t,PSs (fW (CXE P w) P w K mg base N qual (ag st) f a A outer s H E).nox (cK st) t/\t {nx:=λ_ e=>Q .non e,rt:=Q} (fK N vs) H):FnOk P w K mg base (CXE P w) (k+1) f fd ps sp:=by
 obtain⟨m,n,o,p,g,r,u,a,ct,i,rfl,j,c⟩:=F.ex;refine JF j c S len λA outer s H vs Q E l d=>?_;obtain⟨t,h,q⟩:=b a A outer s H vs Q E l d;exact⟨t,h.nox,q⟩
abbrev TJ:=St->Hp->Nat->(Nat->Hp->Prop)->Prop
variable{X:Cx}{es:List Expr}{t:TJ}{pos:UL}
theorem tu(i:X.calm=PP):dA X (.builtin "sum") (λxs H Q=>∃(a:PX) (ns:List Int),xs=[.ref a]/\SqL X.K H a (ns.map V.int)/\Q (.int ns.sum) H):=by
 intro b s o H xs us Q I r h;obtain⟨a,ns,rfl,j,q⟩:=h;cases r with
 |cons r1 k=>
  cases r1;cases k;obtain⟨its,l,p,u⟩:=I.list j;have c:=qB l;obtain⟨xs,ex⟩:=c.allInts.items;have d:=p.isList;rw[ex]at d;refine sum_intListG (I.ok.hd i) d λh' v t' m=>?_;have e:preSum (numAt xs) xs.size=ns.sum:=by
   have g:=c.numsOf;have n:its=(X4 xs).toList:=by rw[←ex]
   rw[n,nums_intItems]at g;rw[preSum_eq,RA (by simp),g]
  rw[e];exact⟨.int ns.sum,H,I.kept m,⟨_,rfl⟩,q⟩
def ur(i j:Int):Prop:=0<j/\j.natAbs.log2<9000
theorem DF:OpR X (SR .FloorDiv) (rI ur λi j=> .int (i/j)):=opI λi j _ _ _ _ _ a q=>by
 have b:(0:Int)<j:=a.1;refine floordiv_int (by omega) ?_ (.inl (WZ a.2));rw[U7 _ (by omega)];exact q
def ipC(C:Int->Int->Prop)(f:Int->Int->Int):TIp:=λx y H Q=>∃i j,x= .int i/\y= .int j/\C i j/\Q (.int (f i j)) H
theorem wW:PIp X .FloorDiv (ipC ur λi j=>i/j):=by
 intro a s d H x y v u Q I r1 b h;obtain⟨i,j,rfl,rfl,c,q⟩:=h;obtain⟨t,rfl⟩:=r1;obtain⟨t',rfl⟩:=b;have e:(0:Int)<j:=c.1;refine ifloordiv_int (by omega) ?_ (.inl (WZ c.2));rw[U7 _ (by omega)];exact⟨.int _,H,I.tok _,⟨_,rfl⟩,q⟩
theorem yN:∀{cs:List String} {us:List PY},az (cs.map V.ty) us->us=cs.map SW
 |[],_,r=>by cases r;rfl
 |c::cs,_,r=>by
  cases r with
  |cons r1 a=>
   cases r1;rw[yN a];rfl
theorem yz{K:Qp}{xs:List V}{H:Hp}(Pv:Nat->St->Hp->Prop)(u:Pv 0 c H)(k:∀i c H,i<=xs.length->Pv i c H->SqL K H a xs)
  (h:∀i x c H,xs[i]?=on x->Pv i c H->g x c H λd v=>tt d v λb r=>if b=PP then tb d r (Pv (i+1))else Pv (i+1) d r) (l:∀c H,Pv xs.length c H->Q c H):c7 (Itl K a) g tt tb c H Q:=by
 refine⟨λi m c H=>i<=xs.length/\m+i=xs.length/\Pv i c H,⟨xs.length,Rr _,by omega,u⟩,λi m c H ⟨n,hm,j⟩=>?_⟩;by_cases o:i<xs.length
 ·refine .inr ⟨⟨xs,xs[i],k i c H n j,PM o⟩,Pv (i+1),λy p q=>⟨m-1,by omega,by omega,by omega,q⟩,λx p ⟨e,B⟩=>?_⟩
  subst e;exact h i x c p (B xs (k i c p n j)) j
 ·obtain rfl:i=xs.length:=by omega
  exact .inl ⟨⟨xs,k _ c H n j,P5 _⟩,l c H j⟩
theorem CmpScope.plain{X:Cx}{scope:Scope}(k:scope.kind= .function)(nd:(scope.names.map (·.1)).Nodup)(f:∀y∈scope.names,y.2≠ .free):CmpScope X scope vars vars []:=
 ⟨k,nd,λy a e=>Qu e (f y a),by simp,λj b=>Qu b (by simp)⟩
def uq(i j:Int):Prop:=i.natAbs<2^1000/\j.natAbs<2^1000
theorem jI{k:Int}(h:k.natAbs<2^1000):W7 k<=2^20:=by
 unfold W7;split
 ·exact Rr _
 ·rename_i a
  have b:k.natAbs≠0:=by
   intro z;have:k=0:=Int.natAbs_eq_zero.mp z;subst this;simp at a
  have:=(Nat.log2_lt b).mpr h;have e:(2:Nat)^20=1048576:=by decide
  omega
theorem iG{X:Cx}:OpR X (SR .Mult) (rI uq λi j=> .int (i*j)):=opI λ_ _ _ _ _ _ _ a q=>mul_int q (Yh (jI a.1) (jI a.2))
theorem bL.upd{H:Hp}(h:H a=PH):bL H (upd H a o):=λb u e=>by rw[upd_ne (aA e h)];exact e
abbrev KyD:=Int×List Int
noncomputable def hI(k:List Int):Int:=reduceHash (Uv (k.map hashInt))
def hB:Bool->KyD->Int
 |true,k=>reduceHash (Uv [hashInt k.1,hI k.2])
 |false,k=>hI k.2
def yG(a:PX)(b:Bool)(ep:Nat)(xs:List (KyD×PX×V))(h:Rl):Prop:=
 ∃o es,∃ys:List (KyD×PX×PY),h.get? a=on o/\o.ExactDict/\o.data= .dict es ep/\es.toList=ys.map (λy=>⟨hB b y.1,.ref y.2.1,y.2.2⟩)/\(ys.map (·.1)).Nodup/\(a==WJ)=PU/\ys.length<=Qk/\
  WH (λ(x:KyD×PX×V) (y:KyD×PX×PY)=>x.1=y.1/\x.2.1=y.2.1/\aN x.2.2 y.2.2) xs ys
noncomputable def dQ(a:PX)(b:Bool)(ep:Nat)(xs:List (KyD×PX×V)):HO:= .ext (yG a b ep xs)
theorem xl{P:QD}{w:QS}{b:Bool}{H:Hp}(S:yG a b ep xs h):bH P w H h a (dQ a b ep xs):=by
 refine⟨S,?_,λc d z k=>?_⟩
 ·obtain⟨o,_,_,e,_⟩:=S
  exact⟨o,e⟩
 ·obtain⟨o,es,ys,e,r⟩:=z
  exact⟨o,es,ys,k _ e,r⟩
end
end L2
namespace L2.Pu
open PySem PySem.Spec PyProof.Rows
theorem ex6{α d e:Sort _}{P Q R:α->d->e->Prop}{C:Prop}(h:∃a b c,P a b c/\Q a b c/\R a b c)(k:∀a b c,P a b c->Q a b c->R a b c->C):C:=by
 obtain⟨a,b,c,x,y,z⟩:=h;exact k a b c x y z
theorem ex5{α c:Sort _}{P Q R:α->c->Prop}{C:Prop}(h:∃a b,P a b/\Q a b/\R a b)(k:∀a b,P a b->Q a b->R a b->C):C:=by
 obtain⟨a,b,x,y,z⟩:=h;exact k a b x y z
inductive D where
 |non|bl (b:Bool)|int (i:Int)|str (x:QN)|ty (n:String)|txt
 |lst (xs:List D)|tup (xs:List D)|scr (xs:List Int)|obj (C:PX) (ns:List QN) (xs:List D)|bag|adr (a:PX)|dct (b:Bool) (ks:List KyD) (vs:List D)
structure Bg where
 cells:List Int
 i:Int
 j:Int
structure Fx where
 A:PX->Prop
 bg:Option (PX×PX)
def KL(K:Qp)(a:PX)(xs:List V):Prop:=
 ∃(o:Qy) (its:Array PY) (n:Nat),K.lookup a=on o/\o.cls= .type "list"/\o.dict=PH/\o.data= .seq its n/\its.size<=Qk/\az xs its.toList
def KT(K:Qp)(a:PX)(xs:List V):Prop:=
 ∃(o:Qy) (its:Array PY) (n:Nat),K.lookup a=on o/\o.cls= .type "tuple"/\o.data= .seq its n/\its.size<=Qk/\az xs its.toList
def TQ(K:Qp)(F:Fx)(H:Hp)(c:PX)(xs:List V):Prop:=(¬F.A c/\Rd H c (.tup xs))\/KT K c xs
def ik(K:Qp)(F:Fx)(H:Hp):Bool->KyD->PX->Prop
 |true,k,c=>∃e,TQ K F H c [.int k.1,.ref e]/\TQ K F H e (k.2.map V.int)
 |false,k,c=>k.1=0/\TQ K F H c (k.2.map V.int)
mutual
noncomputable def Den(K:Qp)(F:Fx)(H:Hp):D->V->Prop
 | .non,v=>v= .non
 | .bl b,v=>v= .bl b
 | .int i,v=>v= .int i
 | .str x,v=>v= .str x
 | .ty n,v=>v= .ty n
 | .txt,v=>∃z,v= .str z
 | .lst ds,v=>∃a xs,v= .ref a/\(¬F.A a/\Rd H a (.lst xs))/\DenL K F H ds xs
 | .scr ns,v=>∃a,v= .ref a/\((¬F.A a/\Rd H a (.lst (ns.map V.int)))\/KL K a (ns.map V.int))
 | .tup ds,v=>∃a xs,v= .ref a/\((¬F.A a/\Rd H a (.tup xs))\/KT K a xs)/\DenL K F H ds xs
 | .obj C ns ds,v=>∃a c xs,v= .ref a/\¬F.A a/\H a=on (.ins C c (ns.zip xs))/\ns.length=xs.length/\DenL K F H ds xs
 | .bag,v=>∃b l,F.bg=on (b,l)/\v= .ref b
 | .adr a,v=>v= .ref a
 | .dct b ks vs,v=>∃a ep xs,v= .ref a/\(¬F.A a/\H a=on (dQ a b ep xs))/\ks=xs.map (·.1)/\(∀x∈xs,ik K F H b x.1 x.2.1)/\DenL K F H vs (xs.map (·.2.2))
noncomputable def DenL(K:Qp)(F:Fx)(H:Hp):List D->List V->Prop
 |[],xs=>xs=[]
 |d::ds,xs=>∃x r,xs=x::r/\Den K F H d x/\DenL K F H ds r
end
structure Tr (F:Fx) (H:Hp) (F2:Fx) (H2:Hp):Prop where
 av:∀a,¬F.A a->H a≠PH->¬F2.A a
 kp:∀a o,¬F.A a->H a=on o->H2 a=on o
 bg:F2.bg=F.bg
theorem Tr.refl(F:Fx)(H:Hp):Tr F H F H:=⟨λ_ h _=>h,λ_ _ _ h=>h,rfl⟩
theorem Tr.trans(a:Tr F H F1 H1)(b:Tr F1 H1 F2 H2):Tr F H F2 H2:=
 ⟨λx c d=>b.av x (a.av x c d) (by
   cases q:H x with
   |none=>exact Qu q d
   |some o=>rw[a.kp x o c q];simp),
  λx o c d=>b.kp x o (a.av x c (by rw[d];simp)) (a.kp x o c d),b.bg.trans a.bg⟩
theorem Rd.tr{F b:Fx}(t:Tr F H b H2)(h:¬F.A a)(r:Rd H a u):¬b.A a/\Rd H2 a u:=by
 rcases r with r|⟨o,r⟩
 ·exact⟨t.av a h (by rw[r];simp),.inl (t.kp a _ h r)⟩
 ·exact⟨t.av a h (by rw[r];simp),.inr ⟨o,t.kp a _ h r⟩⟩
theorem TQ.tr{K:Qp}(t:Tr F H F2 H2)(h:TQ K F H c xs):TQ K F2 H2 c xs:=h.imp (λh=>Rd.tr t h.1 h.2) id
theorem ik.tr{K:Qp}{b:Bool}(t:Tr F H F2 H2)(h:ik K F H b k c):ik K F2 H2 b k c:=by
 cases b with
 |true=>
  obtain⟨e,a,d⟩:=h;exact⟨e,a.tr t,d.tr t⟩
 |false=>exact⟨h.1,h.2.tr t⟩
mutual
theorem Den.tr{K:Qp}(t:Tr F H F2 H2):∀(d:D) (v:V),Den K F H d v->Den K F2 H2 d v
 | .non,v,h=>h
 | .bl b,v,h=>h
 | .int i,v,h=>h
 | .str x,v,h=>h
 | .ty n,v,h=>h
 | .txt,v,h=>h
 | .lst ds,v,h=>by
  unfold Den at h⊢;obtain⟨a,xs,e,c,f⟩:=h;exact⟨a,xs,e,Rd.tr t c.1 c.2,DenL.tr t ds xs f⟩
 | .scr ns,v,h=>by
  unfold Den at h⊢;obtain⟨a,e,c⟩:=h;exact⟨a,e,c.imp (λ⟨p,q⟩=>Rd.tr t p q) id⟩
 | .tup ds,v,h=>by
  unfold Den at h⊢;obtain⟨a,xs,e,c,f⟩:=h;exact⟨a,xs,e,c.imp (λ⟨p,q⟩=>Rd.tr t p q) id,DenL.tr t ds xs f⟩
 | .obj C ns ds,v,h=>by
  unfold Den at h⊢;obtain⟨a,k,xs,e,c,f,g,j⟩:=h;exact⟨a,k,xs,e,t.av a c (by rw[f];simp),t.kp a _ c f,g,DenL.tr t ds xs j⟩
 | .bag,v,h=>by
  unfold Den at h⊢;rw[t.bg];exact h
 | .adr a,v,h=>by
  unfold Den at h⊢;exact h
 | .dct b ks vs,v,h=>by
  unfold Den at h⊢;obtain⟨a,ep,xs,e,c,f,g,j⟩:=h;exact⟨a,ep,xs,e,⟨t.av a c.1 (by rw[c.2];simp),t.kp a _ c.1 c.2⟩,f,λx l=>(g x l).tr t,DenL.tr t vs _ j⟩
theorem DenL.tr{K:Qp}(t:Tr F H F2 H2):∀(ds:List D) (xs:List V),DenL K F H ds xs->DenL K F2 H2 ds xs
 |[],xs,h=>h
 |d::ds,xs,h=>by
  unfold DenL at h⊢;obtain⟨x,r,e,a,b⟩:=h;exact⟨x,r,e,Den.tr t d x a,DenL.tr t ds r b⟩
end
section
variable{K:Qp}{F:Fx}{H:Hp}
theorem DenL.nil:DenL K F H [] []:=rfl
theorem DenL.cons(h:Den K F H d x)(t:DenL K F H ds xs):DenL K F H (d::ds) (x::xs):=⟨x,xs,rfl,h,t⟩
theorem DenL.length:∀{ds:List D} {xs:List V},DenL K F H ds xs->ds.length=xs.length
 |[],xs,h=>by have e:xs=[]:=h;subst e;rfl
 |d::ds,xs,h=>by
  obtain⟨x,r,e,_,a⟩:=h;subst e;rw[Qa,Qa,DenL.length a]
theorem DenL.get:∀{ds:List D} {xs:List V} {i:Nat} {d:D},DenL K F H ds xs->ds[i]?=on d->∃x,xs[i]?=on x/\Den K F H d x
 |[],_,_,_,_,e=>by simp at e
 |c::ds,xs,0,d,h,e=>by
  obtain⟨x,r,q,a,b⟩:=h;subst q;simp at e;subst e;exact⟨x,rfl,a⟩
 |c::ds,xs,i+1,d,h,e=>by
  obtain⟨x,r,q,a,b⟩:=h;subst q;obtain⟨y,f,g⟩:=DenL.get (i:=i) (d:=d) b (by simpa using e);exact⟨y,by simpa using f,g⟩
theorem DenL.getV:∀{ds:List D} {xs:List V} {i:Nat} {x:V},DenL K F H ds xs->xs[i]?=on x->∃d,ds[i]?=on d/\Den K F H d x
 |[],xs,_,_,h,e=>by have q:xs=[]:=h;subst q;simp at e
 |c::ds,xs,0,d,h,e=>by
  obtain⟨x,r,q,a,b⟩:=h;subst q;simp at e;subst e;exact⟨c,rfl,a⟩
 |c::ds,xs,i+1,d,h,e=>by
  obtain⟨x,r,q,a,b⟩:=h;subst q;obtain⟨y,f,g⟩:=DenL.getV (i:=i) (x:=d) b (by simpa using e);exact⟨y,by simpa using f,g⟩
theorem DenL.append:∀{ds es:List D} {xs ys:List V},DenL K F H ds xs->DenL K F H es ys->DenL K F H (ds++es) (xs++ys)
 |[],_,xs,_,h,h'=>by have q:xs=[]:=h;subst q;exact h'
 |c::ds,es,xs,ys,h,h'=>by
  obtain⟨x,r,q,a,b⟩:=h;subst q;exact⟨x,r++ys,rfl,a,DenL.append b h'⟩
theorem DenL.take:∀{ds:List D} {xs:List V} (n:Nat),DenL K F H ds xs->DenL K F H (ds.take n) (xs.take n)
 |[],xs,n,h=>by have q:xs=[]:=h;subst q;simp;rfl
 |c::ds,xs,0,h=>by simp;rfl
 |c::ds,xs,n+1,h=>by
  obtain⟨x,r,q,a,b⟩:=h;subst q;exact⟨x,r.take n,rfl,a,DenL.take n b⟩
theorem DenL.drop:∀{ds:List D} {xs:List V} (n:Nat),DenL K F H ds xs->DenL K F H (ds.drop n) (xs.drop n)
 |[],xs,n,h=>by have q:xs=[]:=h;subst q;simp;rfl
 |c::ds,xs,0,h=>h
 |c::ds,xs,n+1,h=>by
  obtain⟨x,r,q,b,a⟩:=h;subst q;exact DenL.drop n a
theorem DenL.set:∀{ds:List D} {xs:List V} (i:Nat) {d:D} {x:V},DenL K F H ds xs->Den K F H d x->DenL K F H (ds.set i d) (xs.set i x)
 |[],xs,i,_,_,h,_=>by have q:xs=[]:=h;subst q;simp;rfl
 |c::ds,xs,0,d,x,h,hd=>by
  obtain⟨y,r,q,b,a⟩:=h;subst q;exact⟨x,r,rfl,hd,a⟩
 |c::ds,xs,i+1,d,x,h,hd=>by
  obtain⟨y,r,q,b,a⟩:=h;subst q;exact⟨y,r.set i x,rfl,b,DenL.set i a hd⟩
theorem Den.sqL(h:Den K F H (.lst ds) v):∃a xs,v= .ref a/\SqL K H a xs/\DenL K F H ds xs:=by
 unfold Den at h;obtain⟨a,xs,e,b,c⟩:=h;exact⟨a,xs,e,.inl b.2,c⟩
theorem Den.rdL(h:Den K F H (.lst ds) v):∃a xs,v= .ref a/\Rd H a (.lst xs)/\DenL K F H ds xs:=by
 unfold Den at h;obtain⟨a,xs,e,b,c⟩:=h;exact⟨a,xs,e,b.2,c⟩
theorem Den.scr{ns:List Int}(h:Den K F H (.scr ns) v):∃a,v= .ref a/\SqL K H a (ns.map V.int):=by
 unfold Den at h;obtain⟨a,e,b⟩:=h;exact⟨a,e,b.imp (λp=>p.2) id⟩
theorem Den.sqT(h:Den K F H (.tup ds) v):∃a xs,v= .ref a/\SqT K H a xs/\DenL K F H ds xs:=by
 unfold Den at h;obtain⟨a,xs,e,b,c⟩:=h;exact⟨a,xs,e,b.imp (λp=>p.2) id,c⟩
theorem Den.int(h:Den K F H (.int i) v):v= .int i:=h
theorem Den.bl{i:Bool}(h:Den K F H (.bl i) v):v= .bl i:=h
theorem Den.str(h:Den K F H (.str i) v):v= .str i:=h
theorem Den.non(h:Den K F H .non v):v= .non:=h
theorem Den.ty(h:Den K F H (.ty n) v):v= .ty n:=h
theorem DenL.ints:∀(ns:List Int) {xs:List V},DenL K F H (ns.map D.int) xs->xs=ns.map V.int
 |[],xs,h=>h
 |n::ns,xs,h=>by
  obtain⟨x,r,e,a,b⟩:=h;rw[e,DenL.ints ns b];have q:x= .int n:=a;rw[q];rfl
theorem DenL.ofInts:∀(ns:List Int),DenL K F H (ns.map D.int) (ns.map V.int)
 |[]=>rfl
 |n::ns=>⟨.int n,ns.map V.int,rfl,rfl,DenL.ofInts ns⟩
structure Fr (F:Fx) (H:Hp) (β:Bg):Prop where
 occ:∀a,F.A a->H a≠PH
 bgA:∀b l,F.bg=on (b,l)->F.A b/\F.A l/\b≠l
 bag:∀b l,F.bg=on (b,l)->H b=on (.lst [.ref l,.int β.i,.int β.j])/\H l=on (.lst (β.cells.map V.int))
structure To (F:Fx) (H H':Hp) (β':Bg):Prop where
 kp:∀a o,H a=on o->(∀b l,F.bg=on (b,l)->a≠b/\a≠l)->H' a=on o
 fr:Fr F H' β'
theorem To.refl{F:Fx}{H:Hp}(fr:Fr F H β):To F H H β:=⟨λ_ _ h _=>h,fr⟩
theorem To.trans{F:Fx}{H c d:Hp}(a:To F H c β1)(b:To F c d β2):To F H d β2:=⟨λx o h n=>b.kp x o (a.kp x o h n) n,b.fr⟩
theorem Fr.same{F:Fx}{H c:Hp}(fr:Fr F H β)(s:bL H c):To F H c β:=
 ⟨λa o h _=>s a o h,⟨λa h q=>(by
  cases e:H a with
  |none=>exact fr.occ a h e
  |some o=>exact Qu ((s a o e).symm.trans q) (by simp)),fr.bgA,λb l e=>⟨s _ _ (fr.bag b l e).1,s _ _ (fr.bag b l e).2⟩⟩⟩
theorem Fr.upd{F:Fx}{H:Hp}(fr:Fr F H β)(o:HO)(h:H p=PH):To F H (upd H p o) β:=fr.same (bL.upd h)
theorem Fr.fresh{F:Fx}{H:Hp}(fr:Fr F H β)(h:H p=PH):¬F.A p:=λq=>fr.occ p q h
theorem To.tr{F:Fx}{H c:Hp}(fr:Fr F H β)(t:To F H c β'):Tr F H F c:=
 ⟨λ_ h _=>h,λa o h e=>t.kp a o e λb l q=>⟨λz=>h (z▸(fr.bgA b l q).1),λz=>h (z▸(fr.bgA b l q).2.1)⟩,rfl⟩
abbrev Dn:=List (Option D)
structure VOk (K:Qp) (F:Fx) (H:Hp) (δ:Dn) (σ:St):Prop where
 len:δ.length=σ.length
 tell:∀(i:Nat) (d:D),δ[i]?=on (on d)->∃v,σ[i]?=on (on v)/\Den K F H d v
theorem VOk.tr{K:Qp}{F a:Fx}{H b:Hp}(t:Tr F H a b)(h:VOk K F H δ σ):VOk K a b δ σ:=⟨h.len,λi d e=>let ⟨v,h1,h2⟩:=h.tell i d e;⟨v,h1,Den.tr t d v h2⟩⟩
theorem VOk.set{K:Qp}{F:Fx}{H:Hp}{δ:Dn}{a:St}(h:VOk K F H δ a)(hd:Den K F H d v):VOk K F H (δ.set i (on d)) (a.set i (on v)):=by
 refine⟨by rw[Q3,Q3,h.len],λj c e=>?_⟩;rw[Ra]at e;rw[Ra];by_cases q:i=j
 ·subst q
  rw[P6 rfl]at e⊢;split at e
  ·rename_i b
   cases e;rw[P6 (by rw[←h.len];exact b)];exact⟨v,rfl,hd⟩
  ·cases e
 ·rw[P0 q]at e⊢
  exact h.tell j c e
def Sub(δ δ1:Dn):Prop:=∀(i:Nat) (d:D),δ[i]?=on (on d)->δ1[i]?=on (on d)
theorem VOk.sub{K:Qp}{F:Fx}{H:Hp}{δ δ1:Dn}(h:VOk K F H δ1 σ)(s:Sub δ δ1)(l:δ.length=δ1.length):VOk K F H δ σ:=⟨l.trans h.len,λi d e=>h.tell i d (s i d e)⟩
abbrev M(α:Type):=Bg->Option (Except PX α×Bg)
noncomputable def M.ret{α:Type}(a:α):M α:=λβ=>on (.ok a,β)
noncomputable def M.bind{α b:Type}(m:M α)(k:α->M b):M b:=λβ=>match m β with
 |none=>PH
 |some (.error C,β1)=>on (.error C,β1)
 |some (.ok a,β1)=>k a β1
noncomputable def M.ofO{α:Type}(o:Option α):M α:=λβ=>match o with
 |some a=>on (.ok a,β)
 |none=>PH
noncomputable def M.fail{α:Type}:M α:=λ_=>PH
theorem M.bind_some{α b:Type}(a:α)(k:α->M b):M.bind (M.ofO (on a)) k=k a:=rfl
theorem M.bind_ok{α b:Type}{m:M α}{k:α->M b}{β β1:Bg}{a:α}(h:m β=on (.ok a,β1)):M.bind m k β=k a β1:=by unfold M.bind;rw[h]
theorem M.bind_err{α a:Type}{m:M α}{k:α->M a}{β β1:Bg}{C:PX}(h:m β=on (.error C,β1)):M.bind m k β=on (.error C,β1):=by unfold M.bind;rw[h]
def run{α c:Type}(R:Hp->α->c->Prop)(F:Fx)(E:St->XK)(e:St)(m:M α)(H:Hp)(Q:c->Hp->Prop)(β:Bg):Prop:=
 ∃r a,m β=on (r,a)/\match r with
  | .ok d=>∀v b,To F H b a->R b d v->Q v b
  | .error C=>∀b,To F H b a->E e (.ref C) PH b
theorem run.mono{α c:Type}{R:Hp->α->c->Prop}{F:Fx}{E:St->XK}{g:St}{m:M α}{H:Hp}{Q i:c->Hp->Prop}{β:Bg}(h:run R F E g m H Q β)(f:∀v a,Q v a->i v a):run R F E g m H i β:=by
 obtain⟨r,b,e,h⟩:=h;refine⟨r,b,e,?_⟩;cases r with
 |ok d=>exact λv a t q=>f v a (h v a t q)
 |error C=>exact h
theorem run.bind{α l i j:Type}{R:Hp->α->l->Prop}{R2:Hp->i->j->Prop}{F:Fx}{E:St->XK}{b:St}{m:M α}{k:α->M i}{H:Hp}{Q:j->Hp->Prop}{β:Bg}(h:run R2 F E b (M.bind m k) H Q β):
  run R F E b m H (λv a=>∃d β1,To F H a β1/\R a d v/\run R2 F E b (k d) a Q β1) β:=by
 obtain⟨r,c,e,h⟩:=h;cases q:m β with
 |none=>unfold M.bind at e;rw[q]at e;cases e
 |some z=>
  obtain⟨r1,β1⟩:=z;refine⟨r1,β1,q,?_⟩;cases r1 with
  |error C=>
   rw[M.bind_err q]at e;cases e;exact h
  |ok d=>
   rw[M.bind_ok q]at e;intro v a t hd;refine⟨d,β1,t,hd,r,c,e,?_⟩;cases r with
   |ok d2=>exact λn f g o=>h n f (t.trans g) o
   |error C=>exact λf g=>h f (t.trans g)
theorem run.ret{α b:Type}{R:Hp->α->b->Prop}{F:Fx}{E:St->XK}{c:St}{a:α}{v:b}{H:Hp}{Q:b->Hp->Prop}{β:Bg}(fr:Fr F H β)(h:run R F E c (M.ret a) H Q β)(r:R H a v):Q v H:=by
 obtain⟨_,_,e,h⟩:=h;cases e;exact h v H (To.refl fr) r
theorem run.ofO{α c:Type}{R:Hp->α->c->Prop}{F:Fx}{E:St->XK}{d:St}{o:Option α}{H:Hp}{Q:c->Hp->Prop}{β:Bg}(h:run R F E d (M.ofO o) H Q β):∃a,o=on a/\∀v b,To F H b β->R b a v->Q v b:=by
 obtain⟨_,_,e,h⟩:=h;cases o with
 |none=>cases e
 |some a=>cases e;exact⟨a,rfl,h⟩
abbrev FD:=Dn->M D
abbrev FL:=Dn->M (List D)
def tV(K:Qp)(f:FD)(E:St->XK):TE:=λa H Q=>∃F δ β,Fr F H β/\VOk K F H δ a/\run (Den K F) F E a (f δ) H Q β
def tVA(K:Qp)(f:FL)(E:St->XK):TA:=λa H Q=>∃F δ β,Fr F H β/\VOk K F H δ a/\run (DenL K F) F E a (f δ) H Q β
def tVT(K:Qp)(f:Dn->M Bool)(E:St->XK):TT:=λc H Q=>∃F δ β,Fr F H β/\VOk K F H δ c/\run (λ_ (a b:Bool)=>b=a) F E c (f δ) H Q β
theorem _root_.L2.PE.imp(h:PE X e t)(f:∀a H Q,t' a H Q->t a H Q):PE X e t':=λb s a H Q I q=>h b s a H Q I (f a H Q q)
theorem _root_.L2.PT.imp(h:PT X e t)(f:∀a H Q,t' a H Q->t a H Q):PT X e t':=λb s a H Q I q=>h b s a H Q I (f a H Q q)
theorem _root_.L2.PW.imp(h:PW X e t)(f:∀a H Q,t' a H Q->t a H Q):PW X e t':=λc b s a H Q I q=>h c b s a H Q I (f a H Q q)
theorem _root_.L2.PA.imp(h:PA X e t)(f:∀a H Q,t' a H Q->t a H Q):PA X e t':=λpos b s a H Q I q=>h pos b s a H Q I (f a H Q q)
def ah(i:Nat):FD:=λδ=>M.ofO (δ.getD i PH)
def fC(d:D):FD:=λ_=>M.ret d
def f1(op:D->Option D)(f:FD):FD:=λδ=>M.bind (f δ) λa=>M.ofO (op a)
def f2(op:D->D->Option D)(f g:FD):FD:=λδ=>M.bind (f δ) λa=>M.bind (g δ) λb=>M.ofO (op a b)
noncomputable def ay:FL:=λ_=>M.ret []
def ae(f:FD)(g:FL):FL:=λδ=>M.bind (f δ) λa=>M.bind (g δ) λas=>M.ret (a::as)
def aB(op:List D->Option D)(g:FL):FD:=λδ=>M.bind (g δ) λas=>M.ofO (op as)
def ci(m:List D->M D)(g:FL):FD:=λδ=>M.bind (g δ) λas=>m as
variable{X:Cx}{E:St->XK}{e a b:Expr}{es:List Expr}{pos:UL}
theorem OE(i:Nat)(h:PE X (.Name x pos) (q8 i)):PE X (.Name x pos) (tV X.K (ah i) E):=h.imp λl H Q c=>by
 obtain⟨F,δ,β,fr,f,r⟩:=c;obtain⟨d,e,r⟩:=run.ofO r;have g:δ[i]?=on (on d):=by
  rw[PR]at e;cases q:δ[i]? with
  |none=>rw[q]at e;cases e
  |some z=>rw[q]at e;simp at e;rw[e]
 obtain⟨v,j,k⟩:=f.tell i d g;exact⟨v,j,r v H (To.refl fr) k⟩
theorem v_c(h:PE X e (tC v))(hd:∀F H,Den X.K F H d v):PE X e (tV X.K (fC d) E):=h.imp λf H Q c=>by obtain⟨F,δ,β,fr,g,r⟩:=c;exact run.ret fr r (hd F H)
theorem ar{i j pos}:PE X (.Constant (.int i) j pos) (tV X.K (fC (.int i)) E):=v_c bS λ_ _=>rfl
theorem oX{i j pos}:PE X (.Constant (.bool i) j pos) (tV X.K (fC (.bl i)) E):=v_c OV λ_ _=>rfl
theorem xA{j pos}:PE X (.Constant .none j pos) (tV X.K (fC .non) E):=v_c Mq λ_ _=>rfl
theorem ft:PA X [] (tVA X.K ay E):=iZ.imp λd H Q c=>by obtain⟨F,δ,β,fr,f,r⟩:=c;exact run.ret fr r DenL.nil
theorem nc(ha:PE X e (tV X.K f E))(k:PA X es (tVA X.K g E))(hs:Qe (e::es) X.env=(PU,Rk e X.env)::Qe es X.env:=by rfl):PA X (e::es) (tVA X.K (ae f g) E):=
 (ff ha k hs).imp λm H Q c=>ex6 c λF δ β fr i r=>⟨F,δ,β,fr,i,(run.bind (R:=Den X.K F) r).mono λv n ⟨d,β1,t,hd,r1⟩=>
  ⟨F,δ,β1,t.fr,i.tr (t.tr fr),(run.bind (R:=DenL X.K F) r1).mono λvs o c=>ex5 c λds β2 j h l=>run.ret j.fr l (DenL.cons (Den.tr (j.tr t.fr) _ _ hd) h)⟩⟩
def bi(K:Qp)(r:R2)(op:D->D->Option D):Prop:=∀(F:Fx) (H:Hp) (β:Bg) (Q:VK) (d1 d2 d:D) (f g:V),Fr F H β->Den K F H d1 f->Den K F H d2 g->op d1 d2=on d->
 (∀v c,To F H c β->Den K F c d v->Q v c)->r f g H Q
def JL(K:Qp)(r:V->Hp->VK->Prop)(op:D->Option D):Prop:=∀(F:Fx) (H:Hp) (β:Bg) (Q:VK) (d1 d:D) (f:V),Fr F H β->Den K F H d1 f->op d1=on d->
 (∀v c,To F H c β->Den K F c d v->Q v c)->r f H Q
def eL(K:Qp)(r:List V->Hp->VK->Prop)(op:List D->Option D):Prop:=∀(F:Fx) (H:Hp) (β:Bg) (Q:VK) (ds:List D) (d:D) (vs:List V),Fr F H β->DenL K F H ds vs->op ds=on d->
 (∀v c,To F H c β->Den K F c d v->Q v c)->r vs H Q
theorem pQ{K:Qp}(l:bi K r op){H:Hp}(h:tV K (f2 op f g) E σ H Q):tOp r (tV K f E) (tV K g E) σ H Q:=by
 obtain⟨F,δ,β,fr,j,h⟩:=h;refine⟨F,δ,β,fr,j,(run.bind (R:=Den K F) h).mono λv u c=>ex5 c λd β1 t hd r1=>⟨F,δ,β1,t.fr,j.tr (t.tr fr),(run.bind (R:=Den K F) r1).mono λn o c=>ex5 c λd2 β2 m i p=>?_⟩⟩;obtain⟨d3,q,k⟩:=run.ofO p;exact l F o β2 Q d d2 d3 v n m.fr (Den.tr (m.tr t.fr) _ _ hd) i q k
theorem aX(c:OpR X (SR op) r)(l:bi X.K r o)(ha:PE X a (tV X.K f E))(d:PE X b (tV X.K g E)):PE X (.BinOp a op b pos) (tV X.K (f2 o f g) E):=
 (dR c ha d).imp λ_ _ _=>pQ l
theorem kO(c:OpR X (Ro op) r)(l:bi X.K r o)(ha:PE X a (tV X.K f E))(d:PE X b (tV X.K g E))(hm:UV op b=PU:=by first|exact u6 _|rfl):PE X (.Compare a [op] [b] pos) (tV X.K (f2 o f g) E):=
 (KJ c ha d hm).imp λ_ _ _=>pQ l
theorem v_un(g:UnR X (unaryOp op) r)(l:JL X.K r o)(ha:PE X a (tV X.K f E)):PE X (.UnaryOp op a pos) (tV X.K (f1 o f) E):=
 (OU g ha).imp λm H Q c=>ex6 c λF δ β fr i h=>⟨F,δ,β,fr,i,(run.bind (R:=Den X.K F) h).mono λv j c=>ex5 c λd β1 t hd r1=>let ⟨d3,e3,k⟩:=run.ofO r1;l F j β1 Q d d3 v t.fr hd e3 k⟩
theorem bB(c:IxR X r)(l:bi X.K r o)(ha:PE X a (tV X.K f E))(d:PE X b (tV X.K g E))(hs:xw b:=by exact λ_ _=>rfl):PE X (.Subscript a b pos) (tV X.K (f2 o f g) E):=
 (gG c ha d hs).imp λ_ _ _=>pQ l
theorem yZ{K:Qp}(l:eL K r op){H:Hp}(h:tV K (aB op g) E σ H Q):tCB r (tVA K g E) σ H Q:=by
 obtain⟨F,δ,β,fr,c,h⟩:=h;refine⟨F,δ,β,fr,c,(run.bind (R:=DenL K F) h).mono λv f i=>ex5 i λd β1 t hd r1=>?_⟩;obtain⟨d3,j,k⟩:=run.ofO r1;exact l F f β1 Q d d3 v t.fr hd j k
theorem bY{f:String}(h:dA X (.builtin f) r)(l:eL X.K r op)(i:Gl X x)(hm:X.mg x=PH)(j:T9 x=on (.builtin f))(ha:PA X (e::es) (tVA X.K g E))(hn:x≠"__name__":=by decide)(c:(x==("__debug__":QN))=PU:=by decide)
  (k:Qe (e::es) X.env=(PU,Rk e X.env)::Qe es X.env:=by rfl) (d:(SA pos (Qe es X.env)).any (·.1)=PU:=by rfl):PE X (.Call (.Name x p) (e::es) [] pos) (tV X.K (aB op g) E):=
 (kZ h i hm j ha hn c k d).imp λ_ _ _=>yZ l
theorem ck(f:dA X (.type T) r)(l:eL X.K r op)(h:Gl X x)(hm:X.mg x=PH)(i:T9 x=on (.type T))(ha:PA X (e::es) (tVA X.K g E))(hn:x≠"__name__":=by decide)(c:(x==("__debug__":QN))=PU:=by decide)
  (j:Qe (e::es) X.env=(PU,Rk e X.env)::Qe es X.env:=by rfl) (d:(SA pos (Qe es X.env)).any (·.1)=PU:=by rfl):PE X (.Call (.Name x p) (e::es) [] pos) (tV X.K (aB op g) E):=
 (zH f h hm i ha hn c j d).imp λ_ _ _=>yZ l
noncomputable def cI(ds:List D):Option D:=if ds.length<=Qk then on (.tup ds)else PH
noncomputable def dm(ds:List D):Option D:=if ds.length<=Qk then on (.lst ds)else PH
theorem Den.newT{K:Qp}{F:Fx}{H:Hp}(fr:Fr F H β)(h:H p=PH)(hd:DenL K F H ds xs):Den K F (upd H p (.tup xs)) (.tup ds) (.ref p):=
 ⟨p,xs,rfl,.inl ⟨fr.fresh h,.inl aq⟩,DenL.tr ((fr.upd _ h).tr fr) _ _ hd⟩
theorem Den.newL{K:Qp}{F:Fx}{H:Hp}(fr:Fr F H β)(h:H p=PH)(hd:DenL K F H ds xs):Den K F (upd H p (.lst xs)) (.lst ds) (.ref p):=
 ⟨p,xs,rfl,⟨fr.fresh h,.inl aq⟩,DenL.tr ((fr.upd _ h).tr fr) _ _ hd⟩
theorem bT{x1}(h:PA X es (tVA X.K g E)):PE X (.Tuple es x1 pos) (tV X.K (aB cI g) E):=
 (Mn h).imp λj H Q d=>ex6 d λF δ β fr i r=>⟨F,δ,β,fr,i,(run.bind (R:=DenL X.K F) r).mono λvs l d=>by
  obtain⟨ds,β1,t,hd,r1⟩:=d;obtain⟨d3,c,k⟩:=run.ofO r1;unfold cI at c;split at c
  ·cases c
   exact⟨by rw[←hd.length];assumption,λp f=>k _ _ (t.fr.upd _ f) (Den.newT t.fr f hd)⟩
  ·cases c⟩
theorem eD(h:PA X es (tVA X.K g E)):PE X (.List es pos) (tV X.K (aB dm g) E):=
 (fF h).imp λj H Q d=>ex6 d λF δ β fr i r=>⟨F,δ,β,fr,i,(run.bind (R:=DenL X.K F) r).mono λvs l d=>by
  obtain⟨ds,β1,t,hd,r1⟩:=d;obtain⟨d3,c,k⟩:=run.ofO r1;unfold dm at c;split at c
  ·cases c
   exact⟨by rw[←hd.length];assumption,λp f=>k _ _ (t.fr.upd _ f) (Den.newL t.fr f hd)⟩
  ·cases c⟩
def spF(K:Qp)(n:Nat)(m:List D->M D):Sp:=λvs H Q E=>vs.length=n/\∃F ds β,Fr F H β/\DenL K F H ds vs/\run (Den K F) F (λ_=>E) [] (m ds) H Q β
variable{p:UL}{x:QN}{k n:Nat}{f:PX}{fd:Qt}{ps:List QN}
theorem run.toE{α c:Type}{R:Hp->α->c->Prop}{F:Fx}{E:St->XK}{d:St}{m:M α}{H:Hp}{Q:c->Hp->Prop}{β:Bg}(h:run R F E d m H Q β):run R F (λ_=>E d) [] m H Q β:=h
theorem yM(G:FnOk X.prog X.w X.K X.mg X.base (CXE X.prog X.w) k f fd ps (spF X.K n m))(q:Room k X.A)(u:Gl X x)(hm:X.mg x=on (.ref f))(v:Vt X.K (.ref f)=PP)(y:aD X.K fd ps [])(B:dy (CXE X.prog X.w) X E)
  (ha:PA X (e::es) (tVA X.K g E)) (hn:∀δ β r h,g δ β=on (.ok r,h)->r.length=n) (c:(x==("__debug__":QN))=PU:=by decide) (I:Qe (e::es) X.env=(PU,Rk e X.env)::Qe es X.env:=by rfl) (d:(SA pos (Qe es X.env)).any (·.1)=PU:=by rfl):
  PE X (.Call (.Name x p) (e::es) [] pos) (tV X.K (ci m g) E):=
 (nJ G q u hm v y .nil B ha c I d).imp λT H Q J=>ex6 J λF δ β fr L r=>⟨F,δ,β,fr,L,by
  obtain⟨r0,i,l,o⟩:=run.bind (R:=DenL X.K F) r;refine⟨r0,i,l,?_⟩;cases r0 with
  |error C=>exact o
  |ok ds=>
   intro vs N t hd;obtain⟨d',β1,O,j,r1⟩:=o vs N t hd;have P:=hn _ _ _ _ l;refine⟨by rw[QC,←hd.length,P],F,d',β1,O.fr,by rw[QC];exact j,run.toE r1⟩⟩
theorem HK{r:List D}(h:ay δ β=on (.ok r,β')):r.length=0:=by cases h;rfl
theorem br{f:FD}{n:Nat}(d:∀δ β r c,g δ β=on (.ok r,c)->r.length=n):∀δ β r c,ae f g δ β=on (.ok r,c)->r.length=n+1:=by
 intro δ β r c h;unfold ae M.bind at h;split at h
 ·cases h
 ·cases h
 ·dsimp only at h
  split at h
  ·cases h
  ·cases h
  ·rename_i as _ i
   cases h;rw[Qa,d _ _ _ _ i]
noncomputable def opI(g:Int->Int->Option D):D->D->Option D
 | .int i,.int j=>g i j
 |_,_=>PH
theorem gB{a b d:D}(h:opI g a b=on d):∃i j,a= .int i/\b= .int j/\g i j=on d:=by
 cases a<;>cases b<;>first|(exact⟨_,_,rfl,rfl,h⟩)|(cases h)
theorem z7{g:Int->Int->Int}:bi K (rI0 λi j=> .int (g i j)) (opI λi j=>on (.int (g i j))):=λF H β Q d1 d2 d l m fr c h e k=>by
 obtain⟨i,j,rfl,rfl,e⟩:=gB e;cases e;exact⟨i,j,c,h,k _ H (To.refl fr) rfl⟩
theorem iB{g:Int->Int->Bool}:bi K (rI0 λi j=> .bl (g i j)) (opI λi j=>on (.bl (g i j))):=λF H β Q d1 d2 d l m fr c h e k=>by
 obtain⟨i,j,rfl,rfl,e⟩:=gB e;cases e;exact⟨i,j,c,h,k _ H (To.refl fr) rfl⟩
theorem sP{C:Int->Int->Prop}{c:Int->Int->Bool}{g:Int->Int->Int}(l:∀i j,c i j=PP->C i j):bi K (rI C λi j=> .int (g i j)) (opI λi j=>if c i j=PP then on (.int (g i j))else PH):=λF H β Q d1 d2 d q r fr m o e k=>by
 obtain⟨i,j,rfl,rfl,h⟩:=gB e;split at h
 ·cases h
  exact⟨i,j,m,o,l _ _ (by assumption),k _ H (To.refl fr) rfl⟩
 ·cases h
noncomputable def gN(i:Int):Bool:=decide (i.natAbs<2^1000)
def CI:D->D->Option D:=opI λi j=>on (.int (i-j))
def yv:D->D->Option D:=opI λi j=>if(decide (0<j)&&decide (j.natAbs.log2<9000))=PP then on (.int (i/j))else PH
def modD:D->D->Option D:=opI λi j=>if decide (0<j)=PP then on (.int (i % j))else PH
def ltD:D->D->Option D:=opI λi j=>on (.bl (decide (i<j)))
def leD:D->D->Option D:=opI λi j=>on (.bl (decide (i<=j)))
def gtD:D->D->Option D:=opI λi j=>on (.bl (decide (j<i)))
def geD:D->D->Option D:=opI λi j=>on (.bl (decide (j<=i)))
theorem iC:bi K (rI0 λi j=> .int (i-j)) CI:=z7
theorem vq:bi K (rI0 λi j=> .bl (decide (i<j))) ltD:=iB
theorem my:bi K (rI0 λi j=> .bl (decide (i<=j))) leD:=iB
theorem yf:bi K (rI0 λi j=> .bl (decide (j<i))) gtD:=iB
theorem l_ge:bi K (rI0 λi j=> .bl (decide (j<=i))) geD:=iB
theorem MT:bi K (rI ur λi j=> .int (i/j)) yv:=sP λi j h=>by
 simp only[QI,QR]at h;exact h
noncomputable def xU:R2:=λx y H Q=>∃l b xs c,x= .ref l/\y= .ref b/\Rd H l (.lst xs)/\Rd H b (.lst c)/\xs.length+c.length<=Qk/\∀p,H p=PH->Q (.ref p) (upd H p (.lst (xs++c)))
theorem KO:OpR X (SR .Add) xU:=by
 intro d s t H x y v u Q I i j h;obtain⟨l,b,xs,w,rfl,rfl,m,hB,A,q⟩:=h;cases i;cases j;obtain⟨z,its,n,r,e⟩:=m.ok I.hok;obtain⟨B,c,C,g,o⟩:=hB.ok I.hok;have J:=r.length;have L:=g.length;refine Yz e o ?_ (by simp only[Qo];omega);rw[show its.toArray++c.toArray=(its++c).toArray by simp];exact⟨.ref _,_,I.lnew (t':=s.toks) (r.append g) (by rw[Qh];omega),rfl,q _ I.fresh⟩
def xV(K:Qp):R2:=λx y H Q=>∃a b ys,x= .ref a/\y= .ref b/\SqT K H a []/\SqT K H b ys/\Q (.ref b) H
theorem KP:OpR X (SR .Add) (xV X.K):=by
 intro l s O H x y v u Q I t w h;obtain⟨a,b,ys,rfl,rfl,ha,A,q⟩:=h;cases t;cases w;obtain⟨its,r1,B,_⟩:=I.tuple ha;obtain⟨m,P,C,_⟩:=I.tuple A;cases r1;obtain⟨⟨c1,d1,J,i⟩,o,r,n,hd⟩:=B;obtain⟨⟨c2,d2,L,j⟩,c,d,N,g⟩:=C;simp only at r hd d g;subst r hd d g;exact PySem.concat_meets ⟨_,o,rfl⟩ ⟨_,c,rfl⟩ Xh YG Vp Vh (U8 _ _) (tuple_addW0 a b _ _ n N d1 d2 i j (by simp)) ⟨o,c,⟨.ref b,H,I,rfl,q⟩⟩
noncomputable def lC:D->D->Option D
 | .int i,.int j=>on (.int (i+j))
 | .tup [],.tup b=>on (.tup b)
 | .lst a,.lst b=>if a.length+b.length<=Qk then on (.lst (a++b))else PH
 | .tup (c::a),.tup b=>if(c::a).length+b.length<=Qk then on (.tup (c::a++b))else PH
 |_,_=>PH
theorem bN:bi K (λx y H Q=>(rI0 λi j=> .int (i+j)) x y H Q\/xU x y H Q\/xT K x y H Q\/xV K x y H Q) lC:=λF H β Q d1 d2 d v w fr h l e k=>by
 unfold lC at e;split at e
 ·cases e
  exact .inl ⟨_,_,h,l,k _ H (To.refl fr) rfl⟩
 ·cases e
  obtain⟨a,xs,rfl,r1,c⟩:=Den.sqT h;obtain⟨b,ys,rfl,m,g⟩:=Den.sqT l;have q:xs=[]:=c;subst q;exact .inr (.inr (.inr ⟨a,b,ys,rfl,rfl,r1,m,k _ H (To.refl fr) l⟩))
 ·split at e
  ·cases e
   obtain⟨a,xs,rfl,r1,c⟩:=Den.rdL h;obtain⟨b,ys,rfl,m,g⟩:=Den.rdL l;exact .inr (.inl ⟨a,b,xs,ys,rfl,rfl,r1,m,by rw[←c.length,←g.length];assumption,λp o=>k _ _ (fr.upd _ o) (Den.newL fr o (c.append g))⟩)
  ·cases e
 ·split at e
  ·cases e
   obtain⟨a,xs,rfl,r1,c⟩:=Den.sqT h;obtain⟨b,ys,rfl,m,g⟩:=Den.sqT l;have r:=c.length;have t:=g.length;refine .inr (.inr (.inl ⟨a,b,xs,ys,rfl,rfl,r1,m,(λz=>by subst z;cases r),by rw[←r,←t];assumption,λz=>?_,λ_ p o=>k _ _ (fr.upd _ o) (Den.newT fr o (c.append g))⟩));subst z;have u:=S6.mp t;subst u;rw[QC]at k;exact k _ H (To.refl fr) h
  ·cases e
 ·cases e
theorem aR:OpR X (SR .Add) (λx y H Q=>(rI0 λi j=> .int (i+j)) x y H Q\/xU x y H Q\/xT X.K x y H Q\/xV X.K x y H Q):=qi.or (KO.or (KN.or KP))
def DM:D->D->Option D:=opI λi j=>if(gN i&&gN j)=PP then on (.int (i*j))else PH
theorem nS:bi K (rI uq λi j=> .int (i*j)) DM:=sP λi j h=>by
 simp only[QI,gN,QR]at h;exact h
noncomputable def eqS:D->D->Option Bool
 | .non,.non=>on PP
 | .int i,.int j=>on (decide (i=j))
 | .bl i,.bl j=>on (decide (i=j))
 | .str i,.str j=>on (decide (i=j))
 | .int _,.str _=>on PU
 | .str _,.int _=>on PU
 | .bl _,.str _=>on PU
 | .str _,.bl _=>on PU
 | .non,.int _=>on PU
 | .int _,.non=>on PU
 | .non,.str _=>on PU
 | .str _,.non=>on PU
 |_,_=>PH
theorem BA{F:Fx}{H:Hp}{a b:D}{c:Bool}(h:eqS a b=on c)(d:Den K F H a v)(g:Den K F H b w):CM v w=PP/\decide (v=w)=c:=by
 unfold eqS at h;split at h<;>first
  |(cases h;cases d.int;cases g.int;exact⟨rfl,by simp⟩)
  |(cases h;cases d.bl;cases g.bl;exact⟨rfl,by simp⟩)
  |(cases h;cases d.str;cases g.str;exact⟨rfl,by simp⟩)
  |(cases h;cases d.non;cases g.non;exact⟨rfl,by simp⟩)
  |(cases h;cases d.int;cases g.str;exact⟨rfl,rfl⟩)
  |(cases h;cases d.str;cases g.int;exact⟨rfl,rfl⟩)
  |(cases h;cases d.bl;cases g.str;exact⟨rfl,rfl⟩)
  |(cases h;cases d.str;cases g.bl;exact⟨rfl,rfl⟩)
  |(cases h;cases d.non;cases g.int;exact⟨rfl,rfl⟩)
  |(cases h;cases d.int;cases g.non;exact⟨rfl,rfl⟩)
  |(cases h;cases d.non;cases g.str;exact⟨rfl,rfl⟩)
  |(cases h;cases d.str;cases g.non;exact⟨rfl,rfl⟩)
  |cases h
noncomputable def isN:D->Bool
 | .non=>PP
 |_=>PU
theorem MW{F:Fx}{H:Hp}(h:Den K F H d v):decide (v= .non)=isN d:=by
 cases d with
 |non=>cases h.non;rfl
 |bl b=>cases h.bl;rfl
 |int b=>cases h.int;rfl
 |str b=>cases h.str;rfl
 |ty b=>cases h.ty;rfl
 |txt=>unfold Den at h;obtain⟨z,rfl⟩:=h;rfl
 |lst ds=>obtain⟨a,xs,rfl,_⟩:=Den.sqL h;rfl
 |tup ds=>obtain⟨a,xs,rfl,_⟩:=Den.sqT h;rfl
 |scr ds=>obtain⟨a,rfl,_⟩:=Den.scr h;rfl
 |obj C ns ds=>
  unfold Den at h;obtain⟨a,_,_,rfl,_⟩:=h;rfl
 |bag=>
  unfold Den at h;obtain⟨a,_,_,rfl⟩:=h;rfl
 |adr a=>
  unfold Den at h;obtain rfl:=h;rfl
 |dct b ks vs=>
  unfold Den at h;obtain⟨a,_,xs,rfl,_⟩:=h;rfl
noncomputable def ig:D->D->Option D
 |a,.non=>on (.bl (isN a))
 |_,_=>PH
noncomputable def nP:D->D->Option D
 |a,.non=>on (.bl (!isN a))
 |_,_=>PH
theorem ye:bi K (λx y H Q=>y= .non/\Q (.bl (decide (x= .non))) H) ig:=λF H β Q d1 d2 d h i fr c g e k=>by
 unfold ig at e;split at e
 ·cases e
  exact⟨g,by rw[MW c];exact k _ H (To.refl fr) rfl⟩
 ·cases e
noncomputable def dU:D->Bool
 | .int _=>PP| .bl _=>PP| .str _=>PP| .non=>PP|_=>PU
noncomputable def eqF:D->D->Bool
 | .non,.non=>PP
 | .bl a,.bl b=>a==b
 | .bl a,.int b=>(if a then 1 else 0)==b
 | .int a,.bl b=>a==(if b then 1 else 0)
 | .int a,.int b=>a==b
 | .str a,.str b=>a==b
 |_,_=>PU
noncomputable def eE:D->Option (List D)
 | .lst a=>on a
 | .tup a=>on a
 |_=>PH
def inB(x:D)(ys:List D):Bool:=ys.any λy=>eqF y x
def inD(neg:Bool)(x y:D):Option D:=(eE y).bind λys=>if(dU x&&ys.all dU)=PP then on (.bl (if neg then !inB x ys else inB x ys))else PH
theorem rM{F:Fx}{H:Hp}(f:dU d=PP)(h:Den K F H d v):gJ v=PP:=by
 cases d<;>first|(cases h.int;rfl)|(cases h.bl;rfl)|(cases h.str;rfl)|(cases h.non;rfl)|cases f
theorem Na{F:Fx}{H:Hp}{a b:D}(g:dU a=PP)(h:dU b=PP)(c:Den K F H a v)(d:Den K F H b w):eqV v w=eqF a b:=by
 cases a<;>first
  |(exfalso;exact P8 g)
  |(cases b<;>first
   |(exfalso;exact P8 h)
   |(cases c.int;cases d.int;rfl)|(cases c.int;cases d.bl;rfl)|(cases c.int;cases d.str;rfl)|(cases c.int;cases d.non;rfl)
   |(cases c.bl;cases d.int;rfl)|(cases c.bl;cases d.bl;rfl)|(cases c.bl;cases d.str;rfl)|(cases c.bl;cases d.non;rfl)
   |(cases c.str;cases d.int;rfl)|(cases c.str;cases d.bl;rfl)|(cases c.str;cases d.str;rfl)|(cases c.str;cases d.non;rfl)
   |(cases c.non;cases d.int;rfl)|(cases c.non;cases d.bl;rfl)|(cases c.non;cases d.str;rfl)|(cases c.non;cases d.non;rfl))
theorem vE{F:Fx}{H:Hp}{x:D}(c:dU x=PP)(g:Den K F H x v):∀{ds:List D} {vs:List V},ds.all dU=PP->DenL K F H ds vs->vs.all gJ=PP/\inV v vs=inB x ds
 |[],vs,_,h=>by have q:vs=[]:=h;subst q;exact⟨rfl,rfl⟩
 |d::ds,vs,f,h=>by
  obtain⟨y,r,q,i,l⟩:=h;subst q;rw[Vl,QI]at f;obtain⟨m,j⟩:=vE c g f.2 l;refine⟨by rw[Vl,rM f.1 i,m];rfl,?_⟩;unfold inV inB at j⊢;rw[Uw,Uw,j,Na f.1 c i g]
theorem EB{neg:Bool}:bi K (rIn K neg) (inD neg):=λF H β Q d1 d2 d m o fr g l e k=>by
 unfold inD at e;cases q:eE d2 with
 |none=>rw[q]at e;cases e
 |some ys=>
  rw[q]at e;simp only[Rw]at e;split at e
  ·rename_i c
   rw[QI]at c;cases e;cases d2<;>first|(cases q;obtain⟨a,xs,rfl,r1,h⟩:=Den.sqL l;obtain⟨i,j⟩:=vE c.1 g c.2 h;exact⟨a,xs,rfl,.inl r1,rM c.1 g,i,by rw[j];exact k _ H (To.refl fr) rfl⟩)|(cases q;obtain⟨a,xs,rfl,r1,h⟩:=Den.sqT l;obtain⟨i,j⟩:=vE c.1 g c.2 h;exact⟨a,xs,rfl,.inr r1,rM c.1 g,i,by rw[j];exact k _ H (To.refl fr) rfl⟩)|cases q
  ·cases e
def ixD:D->D->Option D
 | .lst xs,.int i=>atI xs i
 | .tup xs,.int i=>atI xs i
 |_,_=>PH
theorem BM{F:Fx}{H:Hp}(h:DenL K F H ds vs)(e:atI ds i=on d):∃v,atI vs i=on v/\Den K F H d v:=by
 unfold atI at e⊢;rw[←h.length];cases q:ixN ds.length i with
 |none=>rw[q]at e;cases e
 |some j=>
  rw[q]at e;exact h.get e
theorem bG:bi K (λx y H Q=>xS K x y H Q\/CS K x y H Q) ixD:=λF H β Q d1 d2 d j l fr h i e k=>by
 unfold ixD at e;split at e
 ·obtain⟨a,xs,rfl,r1,c⟩:=Den.sqL h
  obtain⟨v,g,hd⟩:=BM c e;exact .inl ⟨a,xs,_,v,rfl,i,r1,g,k _ H (To.refl fr) hd⟩
 ·obtain⟨a,xs,rfl,r1,c⟩:=Den.sqT h
  obtain⟨v,g,hd⟩:=BM c e;exact .inr ⟨a,xs,_,v,rfl,i,r1,g,k _ H (To.refl fr) hd⟩
 ·cases e
theorem aQ:IxR X (λx y H Q=>xS X.K x y H Q\/CS X.K x y H Q):=d7.or MV
noncomputable def cB:List D->Option D
 |[.lst xs]=>on (.int xs.length)
 |[.tup xs]=>on (.int xs.length)
 |_=>PH
theorem DenL.one{F:Fx}{H:Hp}(h:DenL K F H [d] vs):∃v,vs=[v]/\Den K F H d v:=by
 obtain⟨x,r,e,c,g⟩:=h;have q:r=[]:=g;subst q;exact⟨x,e,c⟩
theorem DenL.two{F:Fx}{H:Hp}(h:DenL K F H [d,c] vs):∃v w,vs=[v,w]/\Den K F H d v/\Den K F H c w:=by
 obtain⟨x,r,e,g,i⟩:=h;obtain⟨y,rfl,j⟩:=DenL.one i;exact⟨x,y,e,g,j⟩
theorem Pb:eL K (λxs H Q=>∃p ys,xs=[.ref p]/\(SqL K H p ys\/SqT K H p ys)/\Q (.int ys.length) H) cB:=λF H β Q ds d vs fr h e k=>by
 unfold cB at e;split at e
 ·cases e
  obtain⟨v,rfl,g⟩:=DenL.one h;obtain⟨a,xs,rfl,r,c⟩:=Den.sqL g;exact⟨a,xs,rfl,.inl r,by rw[←c.length];exact k _ H (To.refl fr) rfl⟩
 ·cases e
  obtain⟨v,rfl,g⟩:=DenL.one h;obtain⟨a,xs,rfl,r,c⟩:=Den.sqT g;exact⟨a,xs,rfl,.inr r,by rw[←c.length];exact k _ H (To.refl fr) rfl⟩
 ·cases e
noncomputable def rY:List D->Option D
 |[.int i]=>on (.int (if i<0 then -i else i))
 |_=>PH
noncomputable def vf:List D->Option D
 |[.int i,.int j]=>on (.int (if j<i then j else i))
 |_=>PH
noncomputable def x6:List D->Option D
 |[.int i,.int j]=>on (.int (if j>i then j else i))
 |_=>PH
theorem uc:eL K (λxs H Q=>∃i j,xs=[.int i,.int j]/\Q (.int (if j<i then j else i)) H) vf:=λF H β Q ds d vs fr h e k=>by
 unfold vf at e;split at e
 ·cases e
  obtain⟨v,w,rfl,g,g'⟩:=DenL.two h;cases g.int;cases g'.int;exact⟨_,_,rfl,k _ H (To.refl fr) rfl⟩
 ·cases e
theorem IW:eL K (λxs H Q=>∃i j,xs=[.int i,.int j]/\Q (.int (if j>i then j else i)) H) x6:=λF H β Q ds d vs fr h e k=>by
 unfold x6 at e;split at e
 ·cases e
  obtain⟨v,w,rfl,g,g'⟩:=DenL.two h;cases g.int;cases g'.int;exact⟨_,_,rfl,k _ H (To.refl fr) rfl⟩
 ·cases e
noncomputable def eX:List D->Option (List Int)
 |[]=>on []
 | .int i::r=>(eX r).map (i::·)
 |_=>PH
theorem intsOf_eq:∀{ds:List D} {ns:List Int},eX ds=on ns->ds=ns.map D.int
 |[],ns,h=>by cases h;rfl
 |d::ds,ns,h=>by
  cases d with
  |int i=>
   unfold eX at h;cases q:eX ds with
   |none=>rw[q]at h;cases h
   |some c=>rw[q]at h;cases h;rw[intsOf_eq q];rfl
  |_=>cases h
def CG:List D->Option D
 |[.lst xs]=>(eX xs).map λns=> .int ns.sum
 |_=>PH
theorem O8:eL K (λxs H Q=>∃(a:PX) (ns:List Int),xs=[.ref a]/\SqL K H a (ns.map V.int)/\Q (.int ns.sum) H) CG:=λF H β Q ds d vs fr h e k=>by
 unfold CG at e;split at e
 ·rename_i xs
  cases q:eX xs with
  |none=>rw[q]at e;cases e
  |some ns=>
   rw[q]at e;cases e;obtain⟨v,rfl,g⟩:=DenL.one h;obtain⟨a,ys,rfl,r,c⟩:=Den.sqL g;rw[intsOf_eq q]at c;have i:=DenL.ints ns c;subst i;exact⟨a,ns,rfl,r,k _ H (To.refl fr) rfl⟩
 ·cases e
noncomputable def ub:List D->Option D
 |[.lst xs]=>on (.lst xs)
 |[.tup xs]=>on (.lst xs)
 |_=>PH
theorem i9:eL K (λxs H Q=>∃p ys,xs=[.ref p]/\(SqL K H p ys\/SqT K H p ys)/\∀l,H l=PH->Q (.ref l) (upd H l (.lst ys))) ub:=λF H β Q ds d vs fr h e k=>by
 unfold ub at e;split at e
 ·cases e
  obtain⟨v,rfl,g⟩:=DenL.one h;obtain⟨a,xs,rfl,r,i⟩:=Den.sqL g;exact⟨a,xs,rfl,.inl r,λl c=>k _ _ (fr.upd _ c) (Den.newL fr c i)⟩
 ·cases e
  obtain⟨v,rfl,g⟩:=DenL.one h;obtain⟨a,xs,rfl,r,i⟩:=Den.sqT g;exact⟨a,xs,rfl,.inr r,λl c=>k _ _ (fr.upd _ c) (Den.newL fr c i)⟩
 ·cases e
noncomputable def ux:List D->Option D
 |[.lst xs]=>on (.tup xs)
 |[.tup xs]=>on (.tup xs)
 |_=>PH
theorem iI:eL K (λxs H Q=>∃p ys,xs=[.ref p]/\((SqL K H p ys/\∀l,H l=PH->Q (.ref l) (upd H l (.tup ys)))\/(SqT K H p ys/\Q (.ref p) H))) ux:=λF H β Q ds d vs fr h e k=>by
 unfold ux at e;split at e
 ·cases e
  obtain⟨v,rfl,g⟩:=DenL.one h;obtain⟨a,xs,rfl,r,c⟩:=Den.sqL g;exact⟨a,xs,rfl,.inl ⟨r,λl i=>k _ _ (fr.upd _ i) (Den.newT fr i c)⟩⟩
 ·cases e
  obtain⟨v,rfl,g⟩:=DenL.one h;obtain⟨a,xs,rfl,r,c⟩:=Den.sqT g;exact⟨a,xs,rfl,.inr ⟨r,k _ H (To.refl fr) g⟩⟩
 ·cases e
noncomputable def asB:D->Option Bool
 | .bl b=>on b
 |_=>PH
theorem jg{b:Bool}(h:asB d=on b):d= .bl b:=by cases d<;>first|(cases h;rfl)|cases h
noncomputable def kP:D->Option Bool
 | .non=>on PU
 | .bl b=>on b
 | .int i=>on (i !=0)
 | .lst xs=>on (!xs.isEmpty)
 | .tup xs=>on (!xs.isEmpty)
 |_=>PH
def fB(f:FD):Dn->M Bool:=λδ=>M.bind (f δ) λd=>M.ofO (asB d)
def ii(f:FD):Dn->M Bool:=λδ=>M.bind (f δ) λd=>M.ofO (kP d)
def oq(f g:Dn->M Bool):Dn->M Bool:=λδ=>M.bind (f δ) λc=>if c=PP then g δ else M.ret PU
def gm(f g:Dn->M Bool):Dn->M Bool:=λδ=>M.bind (f δ) λc=>if c=PP then M.ret PP else g δ
def iD(f:Dn->M Bool):Dn->M Bool:=λδ=>M.bind (f δ) λc=>M.ret (!c)
def lx(f g:FD):FD:=λδ=>M.bind (f δ) λd=>M.bind (M.ofO (asB d)) λc=>if c=PP then g δ else M.ret (.bl PU)
def fOr(f g:FD):FD:=λδ=>M.bind (f δ) λd=>M.bind (M.ofO (asB d)) λc=>if c=PP then M.ret (.bl PP)else g δ
def rN(f:FD):FD:=λδ=>M.bind (f δ) λd=>M.bind (M.ofO (asB d)) λc=>M.ret (.bl (!c))
def fIf(t:Dn->M Bool)(f g:FD):FD:=λδ=>M.bind (t δ) λc=>if c=PP then f δ else g δ
def dZ(o d:D->D->Option D)(f g h:FD):FD:=λδ=>M.bind (f δ) λa=>M.bind (g δ) λb=>M.bind (M.ofO (o a b)) λz=>M.bind (M.ofO (asB z)) λc=>if c=PP then M.bind (h δ) (λw=>M.ofO (d b w))else M.ret (.bl PU)
variable{c:Expr}{rest:List Expr}
theorem M.ofO_bind{α d:Type}{o:Option α}{k:α->M d}{β:Bg}{z:Except PX d×Bg}(h:M.bind (M.ofO o) k β=on z):∃a,o=on a/\k a β=on z:=by
 cases o with
 |none=>cases h
 |some a=>exact⟨a,rfl,h⟩
theorem run.ofO_bind{α g i:Type}{R:Hp->g->i->Prop}{F:Fx}{j:St}{o:Option α}{k:α->M g}{H:Hp}{Q:i->Hp->Prop}{β:Bg}(h:run R F E j (M.bind (M.ofO o) k) H Q β):∃a,o=on a/\run R F E j (k a) H Q β:=by
 obtain⟨r,d,e,h⟩:=h;obtain⟨a,q,e⟩:=M.ofO_bind e;exact⟨a,q,r,d,e,h⟩
theorem run.bOk{F:Fx}{H:Hp}(fr:Fr F H β)(hd:Den K F H d v)(h:run (λ_ (a b:Bool)=>b=a) F E σ (M.ofO (asB d)) H Q β):∃k,v= .bl k/\Q k H:=by
 obtain⟨b,e,k⟩:=run.ofO h;rw[jg e]at hd;exact⟨b,hd,k b H (To.refl fr) rfl⟩
theorem oY{f:FD}{H:Hp}(h:tVT K (fB f) E σ H Q):tV K f E σ H λx g=>∃k,x= .bl k/\Q k g:=by
 obtain⟨F,δ,β,fr,i,h⟩:=h;exact⟨F,δ,β,fr,i,(run.bind (R:=Den K F) h).mono λv l j=>ex5 j λd β1 t hd r1=>run.bOk t.fr hd r1⟩
theorem bv{f g:FD}(d:OpR X (Ro op) r)(l:bi X.K r o)(ha:PE X a (tV X.K f E))(i:PE X b (tV X.K g E))(hm:UV op b=PU:=by first|exact u6 _|rfl):PT X (.Compare a [op] [b] pos) (tVT X.K (fB (f2 o f g)) E):=
 (wE d ha i hm).imp λj H Q h=>pQ l (oY h)
theorem yX{f g h:FD}(l:bi K r o)(Y:bi K r' o'){H:Hp}(B:tV K (dZ o o' f g h) E σ H Q):yY r r' (tV K f E) (tV K g E) (tV K h E) σ H Q:=by
 obtain⟨F,δ,β,fr,I,B⟩:=B;refine⟨F,δ,β,fr,I,(run.bind (R:=Den K F) B).mono λv H1 j=>ex5 j λd β1 t hd r1=>⟨F,δ,β1,t.fr,I.tr (t.tr fr),(run.bind (R:=Den K F) r1).mono λP Z j=>ex5 j λd2 β2 m u r2=>?_⟩⟩;obtain⟨z,T,r3⟩:=run.ofO_bind r2;obtain⟨c,ec,A⟩:=run.ofO_bind r3;rw[jg ec]at T;refine l F Z β2 _ d d2 _ v P m.fr (Den.tr (m.tr t.fr) _ _ hd) u T λvz U i hz=>⟨c,hz,?_⟩;cases c with
 |true=>
  rw[P6 rfl]at A;refine⟨F,δ,β2,i.fr,I.tr ((t.tr fr).trans ((m.tr t.fr).trans (i.tr m.fr))),?_⟩;have r5:run (Den K F) F E σ (M.bind (h δ) λw=>M.ofO (o' d2 w)) U Q β2:=by
   obtain⟨J,y,e,q⟩:=A;refine⟨J,y,e,?_⟩;cases J with
   |ok d=>exact λv L tt=>q v L (i.trans tt)
   |error C=>exact λL tt=>q L (i.trans tt)
  refine(run.bind (R:=Den K F) r5).mono λw H4 j=>ex5 j λdw N W O r6=>?_;obtain⟨d3,e3,k⟩:=run.ofO r6;exact Y F H4 N Q d2 dw d3 P w W.fr (Den.tr ((i.tr m.fr).trans (W.tr i.fr)) _ _ u) O e3 k
 |false=>
  rw[P0 P8]at A;obtain⟨J,y,e,q⟩:=A;cases e;exact q _ U i rfl
theorem qZ{f g h:FD}(i:OpR X (Ro op) r)(d:OpR X (Ro op') r')(l:bi X.K r o)(j:bi X.K r' o')(ha:PE X a (tV X.K f E))(m:PE X b (tV X.K g E))(t:PE X c (tV X.K h E))(hm:Y5 [op,op'] [b,c]=PU:=by with_unfolding_all rfl):
  PT X (.Compare a [op,op'] [b,c] pos) (tVT X.K (fB (dZ o o' f g h)) E):=(CU i d ha m t hm).imp λu H Q q=>yX l j (oY q)
theorem JX{F:Fx}{H:Hp}{k:Bool}(h:kP d=on k)(hd:Den K F H d v):HL K v H k:=by
 cases d with
 |non=>cases h;cases hd.non;rfl
 |bl b=>cases h;cases hd.bl;rfl
 |int i=>cases h;cases hd.int;rfl
 |lst xs=>
  cases h;obtain⟨a,ys,rfl,r,g⟩:=Den.sqL hd;refine .inl ⟨ys,r,?_⟩;have:=g.length;cases xs<;>cases ys<;>first|rfl|(simp at this)
 |tup xs=>
  cases h;obtain⟨a,ys,rfl,r,g⟩:=Den.sqT hd;refine .inr ⟨ys,r,?_⟩;have:=g.length;cases xs<;>cases ys<;>first|rfl|(simp at this)
 |_=>cases h
theorem kQ{f:FD}(ha:PE X a (tV X.K f E))(j:∀g,isTrue a X.env g=(do let v ←g;Ua a.pos;UB [v] (truthy v)):=by intro _;rfl):PT X a (tVT X.K (ii f) E):=
 (CT ha j).imp λo H Q i=>ex6 i λF δ β fr l h=>⟨F,δ,β,fr,l,(run.bind (R:=Den X.K F) h).mono λv m i=>by
  obtain⟨d,β1,t,hd,r1⟩:=i;obtain⟨k,e,q⟩:=run.ofO r1;exact⟨k,JX e hd,q k m (To.refl t.fr) rfl⟩⟩
theorem ng{f:Dn->M Bool}(ha:PT X a (tVT X.K f E)):PT X (.UnaryOp .Not a pos) (tVT X.K (iD f) E):=
 (Mg ha).imp λj H Q g=>ex6 g λF δ β fr i h=>⟨F,δ,β,fr,i,(run.bind (R:=λ_ (a b:Bool)=>b=a) h).mono λv l g=>by
  obtain⟨d,β1,t,hd,r1⟩:=g;subst hd;exact run.ret t.fr r1 rfl⟩
theorem LH{f g:Dn->M Bool}{H:Hp}(h:tVT K (gm f g) E σ H Q):tOr (tVT K f E) (tVT K g E) σ H Q:=by
 obtain⟨F,δ,β,fr,i,h⟩:=h;refine⟨F,δ,β,fr,i,(run.bind (R:=λ_ (a b:Bool)=>b=a) h).mono λv l j=>ex5 j λd β1 t hd r1=>?_⟩;subst hd;cases v with
 |false=>rw[P0 P8]at r1⊢;exact⟨F,δ,β1,t.fr,i.tr (t.tr fr),r1⟩
 |true=>rw[P6 rfl]at r1⊢;exact run.ret t.fr r1 rfl
theorem m6{f:Dn->M Bool}(ha:PT X a (tVT X.K f E)):PW X (.BoolOp .Or [a] pos) (tVT X.K f E):=Me ha
theorem qV{f g:Dn->M Bool}(ha:PT X a (tVT X.K f E))(d:PW X (.BoolOp .Or (b::rest) pos) (tVT X.K g E)):PW X (.BoolOp .Or (a::b::rest) pos) (tVT X.K (gm f g) E):=(OT ha d).imp λ_ _ _=>LH
theorem jZ{e:Expr}{f:Dn->M Bool}(h:PW X e (tVT X.K f E)):PT X e (tVT X.K f E):=PW.pt h
theorem OG{op}{f:FD}(h:PE X a (tV X.K f E)):PE X (.BoolOp op [a] pos) (tV X.K f E):=Mp h
theorem run.asB{F:Fx}{k:Bool->M D}{H:Hp}(hd:Den K F H d v)(h:run (Den K F) F E σ (M.bind (M.ofO (asB d)) k) H Q β):∃c,v= .bl c/\run (Den K F) F E σ (k c) H Q β:=by
 obtain⟨c,e,h⟩:=run.ofO_bind h;rw[jg e]at hd;exact⟨c,hd,h⟩
theorem OI{f g:FD}(ha:PE X a (tV X.K f E))(m:PE X (.BoolOp .And (b::rest) pos) (tV X.K g E)):PE X (.BoolOp .And (a::b::rest) pos) (tV X.K (lx f g) E):=
 (Ms ha m).imp λo H Q j=>ex6 j λF δ β fr l h=>⟨F,δ,β,fr,l,(run.bind (R:=Den X.K F) h).mono λv q j=>by
  obtain⟨d,β1,t,hd,r1⟩:=j;obtain⟨c,e,i⟩:=run.asB hd r1;refine⟨c,e,?_⟩;cases c with
  |true=>rw[P6 rfl]at i⊢;exact⟨F,δ,β1,t.fr,l.tr (t.tr fr),i⟩
  |false=>rw[P0 P8]at i⊢;exact run.ret t.fr i rfl⟩
theorem v_if{f g:FD}(l:PT X c (tVT X.K t E))(ha:PE X a (tV X.K f E))(m:PE X b (tV X.K g E)):PE X (.IfExp c a b pos) (tV X.K (fIf t f g) E):=
 (DD l ha m).imp λo H Q i=>ex6 i λF δ β fr j h=>⟨F,δ,β,fr,j,(run.bind (R:=λ_ (a b:Bool)=>b=a) h).mono λv q i=>by
  obtain⟨d,β1,t,hd,r1⟩:=i;subst hd;cases v with
  |true=>rw[P6 rfl]at r1⊢;exact⟨F,δ,β1,t.fr,j.tr (t.tr fr),r1⟩
  |false=>rw[P0 P8]at r1⊢;exact⟨F,δ,β1,t.fr,j.tr (t.tr fr),r1⟩⟩
noncomputable def tyD:D->Option String
 | .non=>on "NoneType"| .bl _=>on "bool"| .int _=>on "int"| .str _=>on "str"| .lst _=>on "list"| .tup _=>on "tuple"|_=>PH
noncomputable def jS:String->String->Option Bool
 |"int","str"=>on PU|"int","bool"=>on PU|"int","list"=>on PU|"int","tuple"=>on PU|"int","int"=>on PP
 |"bool","str"=>on PU|"bool","bool"=>on PP|"bool","list"=>on PU|"bool","tuple"=>on PU
 |"str","str"=>on PP|"str","bool"=>on PU|"str","list"=>on PU|"str","tuple"=>on PU
 |"NoneType","str"=>on PU|"NoneType","bool"=>on PU|"NoneType","list"=>on PU|"NoneType","tuple"=>on PU
 |"list","list"=>on PP|"list","tuple"=>on PU|"list","str"=>on PU|"list","bool"=>on PU
 |"tuple","list"=>on PU|"tuple","tuple"=>on PP|"tuple","str"=>on PU|"tuple","bool"=>on PU
 |_,_=>PH
noncomputable def jR:String->String->String->Option Bool
 |"int","list","tuple"=>on PU|"bool","list","tuple"=>on PU|"str","list","tuple"=>on PU|"NoneType","list","tuple"=>on PU|"list","list","tuple"=>on PP|"tuple","list","tuple"=>on PP
 |"int","int","str"=>on PP|"bool","int","str"=>on PP|"str","int","str"=>on PP|"NoneType","int","str"=>on PU|"list","int","str"=>on PU|"tuple","int","str"=>on PU
 |_,_,_=>PH
theorem K8{a b:String}{c:Bool}(h:jS a b=on c):kitOne K (.type a) (.type b)=on c:=by
 unfold jS at h;split at h<;>first|(cases h;kernel_rfl)|cases h
theorem K7{a b d:String}{c:Bool}(h:jR a b d=on c):Zd K (.type a) ([b,d].map SW)=on c:=by
 unfold jR at h;split at h<;>first|(cases h;kernel_rfl)|cases h
def TyG(K:Qp)(H:Hp)(x:V)(t:PY):Prop:=TyOf K H x t\/(∃a ys,x= .ref a/\SqL K H a ys/\t= .type "list")\/(∃a ys,x= .ref a/\SqT K H a ys/\t= .type "tuple")
def IM(K:Qp):List V->Hp->VK->Prop:=λxs H Q=>∃x c t b,xs=[x,.ty c]/\TyG K H x t/\kitOne K t (.type c)=on b/\Q (.bl b) H
theorem BG:dA X (.builtin "isinstance") (IM X.K):=by
 intro j s u H xs us Q I r h;obtain⟨x,c,t,b,rfl,ty,e,q⟩:=h;cases r with
 |cons r1 d=>
  cases d with
  |cons d m=>
   cases m;cases d;rcases ty with ty|⟨a,ys,rfl,sq,rfl⟩|⟨a,ys,rfl,sq,rfl⟩
   ·exact AJ I r1 ty e λl=>⟨.bl b,H,I.tok _,rfl,q⟩
   ·cases r1
    obtain⟨its,_,pl,_⟩:=I.list sq;obtain⟨o,g,i,_⟩:=pl.isList;exact VG Wv I.kIn ⟨o,g,i⟩ e (λz=>nomatch z) λl=>⟨.bl b,H,I.tok _,rfl,q⟩
   ·cases r1
    obtain⟨its,_,pl,_⟩:=I.tuple sq;obtain⟨o,g,i,_⟩:=pl;exact VG X6 I.kIn ⟨o,g,i⟩ e (λz=>nomatch z) λl=>⟨.bl b,H,I.tok _,rfl,q⟩
theorem yP{F:Fx}{H:Hp}(h:tyD d=on t)(hd:Den K F H d v):TyG K H v (.type t):=by
 cases d with
 |non=>cases h;cases hd.non;exact .inl .non
 |bl b=>cases h;cases hd.bl;exact .inl (.bl b)
 |int b=>cases h;cases hd.int;exact .inl (.int b)
 |str b=>cases h;cases hd.str;exact .inl (.str b)
 |lst ds=>cases h;obtain⟨a,xs,rfl,sq,_⟩:=Den.sqL hd;exact .inr (.inl ⟨a,xs,rfl,sq,rfl⟩)
 |tup ds=>cases h;obtain⟨a,xs,rfl,sq,_⟩:=Den.sqT hd;exact .inr (.inr ⟨a,xs,rfl,sq,rfl⟩)
 |_=>cases h
def cM:List D->Option D
 |[x,.ty c]=>(tyD x).bind λt=>(jS t c).map D.bl
 |_=>PH
theorem Pc:eL K (IM K) cM:=λF H β Q ds d vs fr h e k=>by
 unfold cM at e;split at e
 ·rename_i x c
  cases q:tyD x with
  |none=>rw[q]at e;cases e
  |some t=>
   rw[q]at e;simp only[Rw]at e;cases q2:jS t c with
   |none=>rw[q2]at e;cases e
   |some b=>
    rw[q2]at e;cases e;obtain⟨v,w,rfl,g,i⟩:=DenL.two h;cases i.ty;exact⟨v,c,_,b,rfl,yP q g,K8 q2,k _ H (To.refl fr) rfl⟩
 ·cases e
def zy(K:Qp):List V->Hp->VK->Prop:=λxs H Q=>∃(x:V) (tp:PX) (cs:List String) (t:PY) (b:Bool),xs=[x,.ref tp]/\SqT K H tp (cs.map V.ty)/\TyG K H x t/\Zd K t (cs.map SW)=on b/\Q (.bl b) H
theorem qN:dA X (.builtin "isinstance") (zy X.K):=by
 intro m s P H xs us Q I r h;obtain⟨x,tp,cs,t,b,rfl,A,ty,e,q⟩:=h;cases r with
 |cons r1 B=>
  cases B with
  |cons B R=>
   cases R;cases B;obtain⟨its,T,⟨⟨oc,U,W,Y⟩,g,u,n,j⟩,_⟩:=I.tuple A;rw[yN T]at j
   dsimp only at u j
   subst u j;have d:∀N,EP X m P Q (.bool b) {s with toks:=N}:=λN=>⟨.bl b,H,I.tok _,rfl,q⟩;rcases ty with ty|⟨a,ys,rfl,sq,rfl⟩|⟨a,ys,rfl,sq,rfl⟩
   ·cases ty with
    |non=>cases r1;exact VH Yl I.kIn Tz g e (λz=>nomatch z) d
    |bl y=>cases r1;exact VH Yk I.kIn Tz g e (λz=>nomatch z) d
    |int i=>obtain⟨t,rfl⟩:=r1;exact VH YB I.kIn Tz g e (λz=>nomatch z) d
    |str y=>obtain⟨t,rfl⟩:=r1;exact VH YD I.kIn Tz g e (λz=>nomatch z) d
    |@lst a xs ea=>
     cases r1;obtain⟨_,_,n,_,v⟩:=(show bH X.prog X.w H s.heap a (.lst xs)from I.hok a _ ea);exact VH Wv I.kIn ⟨_,v,rfl⟩ g e (λz=>nomatch z) d
    |@frz a ob xs ea=>
     cases r1;obtain⟨_,_,_,n,_,v⟩:=(show bH X.prog X.w H s.heap a (.frz ob (.lst xs))from I.hok a _ ea);exact VH Wv I.kIn ⟨_,v,rfl⟩ g e (λz=>nomatch z) d
    |@tup a xs ea=>
     cases r1;obtain⟨_,_,_,p⟩:=(show bH X.prog X.w H s.heap a (.tup xs)from I.hok a _ ea);obtain⟨o,v,Z,_⟩:=p;exact VH X6 I.kIn ⟨o,v,Z⟩ g e (λz=>nomatch z) d
    |@ins a C dx fs ea cl ha hn htk hm=>
     cases r1;obtain⟨mA,O,_⟩:=kA I.hok ea;obtain⟨U,J,_⟩:=O.look;exact VH (YC (cl.get _) cl.hd ha hn htk hm) I.kIn J g e (λz=>nomatch z) d
   ·cases r1
    obtain⟨its,_,pl,_⟩:=I.list sq;obtain⟨o,l,L,_⟩:=pl.isList;exact VH Wv I.kIn ⟨o,l,L⟩ g e (λz=>nomatch z) d
   ·cases r1
    obtain⟨its,_,pl,_⟩:=I.tuple sq;obtain⟨o,l,L,_⟩:=pl;exact VH X6 I.kIn ⟨o,l,L⟩ g e (λz=>nomatch z) d
def fR:List D->Option D
 |[x,.tup [.ty a,.ty b]]=>(tyD x).bind λt=>(jR t a b).map D.bl
 |_=>PH
theorem AC:eL K (zy K) fR:=λF H β Q ds d vs fr h e k=>by
 unfold fR at e;split at e
 ·rename_i x a b
  cases q:tyD x with
  |none=>rw[q]at e;cases e
  |some t=>
   rw[q]at e;simp only[Rw]at e;cases q2:jR t a b with
   |none=>rw[q2]at e;cases e
   |some c=>
    rw[q2]at e;cases e;obtain⟨v,w,rfl,g,i⟩:=DenL.two h;obtain⟨p,xs,rfl,sq,j⟩:=Den.sqT i;obtain⟨y,z,rfl,l,m⟩:=DenL.two j;cases l.ty;cases m.ty;exact⟨v,p,[a,b],_,c,rfl,sq,yP q g,K7 q2,k _ H (To.refl fr) rfl⟩
 ·cases e
def ItD(K:Qp)(J:It)(F:Fx)(H:Hp)(ds:List D):Prop:=∀(h:Fx) (g:Hp) (β2:Bg),Tr F H h g->Fr h g β2->∀i,(∀d,ds[i]?=on d->J.go i g/\∀x j,J.yld i g x j->bL g j/\Den K h j d x)/\(i=ds.length->J.stop i g)
theorem ItD.tr{K:Qp}{F d:Fx}{H g:Hp}(t:Tr F H d g)(h:ItD K J F H ds):ItD K J d g ds:=λi j β3 l fr=>h i j β3 (t.trans l) fr
def iV(K:Qp)(f:FL)(E:St->XK):TI:=λd H R=>∃F δ β,Fr F H β/\VOk K F H δ d/\run (λg (ds:List D) (J:It)=>ItD K J F g ds) F E d (f δ) H R β
theorem _root_.L2.PI.imp{X:Cx}{tg e:Expr}(h:PI X tg e t)(f:∀d H Q,t' d H Q->t d H Q):PI X tg e t':=λg s d H Q I q=>h g s d H Q I (f d H Q q)
variable{tg:Expr}
def iSeq(K:Qp)(g:TE):TI:=λh H R=>g h H λx d=>(∃a,x= .ref a/\(∃xs,SqL K d a xs)/\R (Itl K a) d)\/(∃a,x= .ref a/\(∃xs,SqT K d a xs)/\R (Itt K a) d)
theorem Mj(t:PE X l tl):PI X tg l (iSeq X.K tl):=by
 intro g s u H R I h;refine thn (t g s u H _ I h) λv d ⟨x,m,i,r1,q1⟩=>?_;have j:∀b∈[d.heap.objs.size],fm X g m b:=λb w=>by
  obtain rfl:b=d.heap.objs.size:=by simpa using w
  exact i.fpOk (P5 _) (i.hok.fresh (P5 _))
 rcases q1 with⟨a,e,⟨xs,r⟩,q⟩|⟨a,e,⟨xs,r⟩,q⟩
 ·subst e
  cases r1;obtain⟨its,y,p,A⟩:=i.list r;exact VI p.isList ⟨d.heap.objs.size,[d.heap.objs.size],_,_,m,rfl,i.kept (t':=d.toks) λb o e=>PQ _ e,sr a _,⟨_,Qj _ rfl,rfl,rfl⟩,j,q⟩
 ·subst e
  cases r1;obtain⟨its,y,p,A⟩:=i.tuple r;exact WK (show d.heap.IsTuple a its.toArray from p) ⟨d.heap.objs.size,[d.heap.objs.size],_,_,m,rfl,i.kept (t':=d.toks) λb o e=>PQ _ e,xC a _,⟨_,Qj _ rfl,rfl,rfl⟩,j,q⟩
theorem EE{F:Fx}{H:Hp}{a:PX}(h:Den K F H (.lst ds) (.ref a)):ItD K (Itl K a) F H ds:=λu v β2 t fr i=>by
 have o:=Den.tr t _ _ h;obtain⟨w,xs,e,sq,g⟩:=Den.sqL o;cases e;refine⟨λd hd=>?_,λq=>⟨xs,sq,by rw[←g.length,q];exact P5 _⟩⟩;obtain⟨x,r,_⟩:=g.get hd;refine⟨⟨xs,x,sq,r⟩,λy A j=>?_⟩;obtain⟨rfl,j⟩:=j;obtain⟨d',m,l⟩:=g.getV (j xs sq);rw[hd]at m;cases m;exact⟨bL.refl _,l⟩
theorem Lb{F:Fx}{H:Hp}{a:PX}(h:Den K F H (.tup ds) (.ref a)):ItD K (Itt K a) F H ds:=λu v β2 t fr i=>by
 have o:=Den.tr t _ _ h;obtain⟨w,xs,e,sq,g⟩:=Den.sqT o;cases e;refine⟨λd hd=>?_,λq=>⟨xs,sq,by rw[←g.length,q];exact P5 _⟩⟩;obtain⟨x,r,_⟩:=g.get hd;refine⟨⟨xs,x,sq,r⟩,λy A j=>?_⟩;obtain⟨rfl,j⟩:=j;obtain⟨d',m,l⟩:=g.getV (j xs sq);rw[hd]at m;cases m;exact⟨bL.refl _,l⟩
def cu(f:FD):FL:=λδ=>M.bind (f δ) λd=>M.ofO (eE d)
theorem aS{f:FD}(j:PE X l (tV X.K f E)):PI X tg l (iV X.K (cu f) E):=
 (Mj j).imp λq H R g=>ex6 g λF δ β fr m h=>⟨F,δ,β,fr,m,(run.bind (R:=Den X.K F) h).mono λv i g=>by
  obtain⟨d,β1,t,hd,r1⟩:=g;obtain⟨ds,e,k⟩:=run.ofO r1;cases d<;>first
   |(cases e;obtain⟨a,xs,rfl,sq,o⟩:=Den.sqL hd;exact .inl ⟨a,rfl,⟨xs,sq⟩,k _ i (To.refl t.fr) (EE hd)⟩)
   |(cases e;obtain⟨a,xs,rfl,sq,o⟩:=Den.sqT hd;exact .inr ⟨a,rfl,⟨xs,sq⟩,k _ i (To.refl t.fr) (Lb hd)⟩)
   |cases e⟩
noncomputable def bc(lo:Int)(n:Nat):List D:=(P4 n).map λ(i:Nat)=> .int (lo+(i:Int))
theorem sQ{F:Fx}{H:Hp}{lo:Int}{n:Nat}:ItD K (Itr lo n) F H (bc lo n):=λl m β2 t fr i=>by
 refine⟨λd hd=>?_,λg=>?_⟩
 ·unfold bc at hd
  have g:i<n:=by
   have:=(P9.mp hd).1;simpa using this
  rw[PV,Rf g]at hd;cases hd;exact⟨g,λx o ⟨h,j⟩=>by subst h j;exact⟨bL.refl _,rfl⟩⟩
 ·show n<=i
  rw[g];simp[bc]
def gz:List D->Option (List D)
 |[.int j]=>if(decide (-(2^62)<=j)&&decide (j<2^62))=PP then on (bc 0 j.toNat)else PH
 |_=>PH
def o9:List D->Option (List D)
 |[.int i,.int j]=>if(decide (-(2^62)<=i)&&decide (i<2^62)&&decide (-(2^62)<=j)&&decide (j<2^62))=PP then on (bc i (j-i).toNat)else PH
 |_=>PH
def bV(op:List D->Option (List D))(g:FL):FL:=λδ=>M.bind (g δ) λas=>M.ofO (op as)
theorem bW{a:Expr}{p pos:UL}(j:Gl X "range")(hm:X.mg "range"=PH)(ha:PA X [a] (tVA X.K g E))(hs:Qe [a] X.env=[(PU,Rk a X.env)]:=by rfl):PI X tg (.Call (.Name "range" p) [a] [] pos) (iV X.K (bV gz g) E):=
 (zG j hm ha hs).imp λr H R d=>ex6 d λF δ β fr m h=>⟨F,δ,β,fr,m,(run.bind (R:=DenL X.K F) h).mono λvs o d=>by
  obtain⟨ds,β1,t,hd,r1⟩:=d;obtain⟨l,e,k⟩:=run.ofO r1;unfold gz at e;split at e
  ·split at e
   ·rename_i i
    cases e;simp only[QI,QR]at i;obtain⟨v,rfl,q⟩:=DenL.one hd;cases q.int;exact⟨_,rfl,i.1,i.2,k _ o (To.refl t.fr) sQ⟩
   ·cases e
  ·cases e⟩
theorem lh{a b:Expr}{p pos:UL}(m:Gl X "range")(hm:X.mg "range"=PH)(ha:PA X [a,b] (tVA X.K g E))(hs:Qe [a,b] X.env=[(PU,Rk a X.env),(PU,Rk b X.env)]:=by rfl)(i:Qe [b] X.env=[(PU,Rk b X.env)]:=by rfl):PI X tg (.Call (.Name "range" p) [a,b] [] pos) (iV X.K (bV o9 g) E):=
 (zF m hm ha hs i).imp λy H R j=>ex6 j λF δ β fr o h=>⟨F,δ,β,fr,o,(run.bind (R:=DenL X.K F) h).mono λvs q j=>by
  obtain⟨ds,β1,t,hd,r1⟩:=j;obtain⟨l,e,k⟩:=run.ofO r1;unfold o9 at e;split at e
  ·split at e
   ·rename_i d
    cases e;simp only[QI,QR]at d;obtain⟨v,w,rfl,r,u⟩:=DenL.two hd;cases r.int;cases u.int;exact⟨_,_,rfl,⟨d.1.1.1,d.1.1.2,d.1.2,d.2⟩,k _ q (To.refl t.fr) sQ⟩
   ·cases e
  ·cases e⟩
abbrev TgF:=D->Dn->Option Dn
abbrev ji:=List D->Dn->Option Dn
def cL(K:Qp)(g:TG)(tg:TgF):Prop:=∀(F:Fx) (H:Hp) (δ δ1:Dn) (i:St) (d:D) (v:V) (Q:St->Hp->Prop),VOk K F H δ i->Den K F H d v->tg d δ=on δ1->(∀h,VOk K F H δ1 h->Q h H)->g v i H Q
def qT(K:Qp)(g:TGs)(tg:ji):Prop:=∀(F:Fx) (H:Hp) (δ δ1:Dn) (h:St) (ds:List D) (vs:List V) (Q:St->Hp->Prop),VOk K F H δ h->DenL K F H ds vs->tg ds δ=on δ1->(∀d,VOk K F H δ1 d->Q d H)->g vs h H Q
noncomputable def tgC(i:Nat):TgF:=λd δ=>if(δ.getD i (on .non)).isNone then on (δ.set i (on d))else PH
noncomputable def hV:ji:=λds δ=>match ds with
 |[]=>on δ
 |_=>PH
noncomputable def dG(t:TgF)(u:ji):ji:=λds δ=>match ds with
 |[]=>PH
 |d::r=>(t d δ).bind λδ1=>u r δ1
noncomputable def tgT(t:ji):TgF:=λd δ=>match d with
 | .tup ds=>t ds δ
 |_=>PH
theorem uA{δ δ1:Dn}(h:tgC i d δ=on δ1):δ[i]?=on PH/\δ1=δ.set i (on d):=by
 unfold tgC at h;split at h
 ·rename_i q
  cases h;refine⟨?_,rfl⟩;rw[PR]at q;cases e:δ[i]? with
  |none=>rw[e]at q;cases q
  |some z=>
   rw[e]at q;cases z with
   |none=>rfl
   |some w=>cases q
 ·cases h
theorem ao:cL K (fS i) (tgC i):=λF H δ δ1 h d v Q g hd e k=>by
 obtain⟨_,rfl⟩:=uA e;exact k _ (g.set hd)
theorem cS:qT K gNil hV:=λF H δ δ1 g ds vs Q d hd e k=>by
 cases ds with
 |nil=>cases e;exact⟨hd,k _ d⟩
 |cons _ _=>cases e
theorem aV(m:cL K t tf)(o:qT K u uf):qT K (yp t u) (dG tf uf):=λF H δ δ1 v ds vs Q w hd e k=>by
 cases ds with
 |nil=>cases e
 |cons d r=>
  obtain⟨x,l,rfl,y,A⟩:=hd;have h:(tf d δ).bind (λδ1=>uf r δ1)=on δ1:=e;cases q:tf d δ with
  |none=>rw[q]at h;cases h
  |some g=>
   rw[q]at h;exact⟨x,l,rfl,m F H δ g v d x _ w y q λi j=>o F H g δ1 i r l Q j A h k⟩
theorem dM{n:Nat}(h:qT K t tf)(hn:∀ds δ δ1,tf ds δ=on δ1->ds.length=n):cL K (EM K n t) (tgT tf):=λF H δ δ1 i d v Q j hd e k=>by
 cases d<;>first
  |(obtain⟨a,xs,rfl,sq,g⟩:=Den.sqT hd;exact⟨a,xs,rfl,sq,by rw[←g.length];exact hn _ _ _ e,h F H δ δ1 i _ xs Q j g e k⟩)
  |cases e
theorem cm:∀ds δ δ1,hV ds δ=on δ1->ds.length=0:=λds δ δ1 h=>by
 cases ds with
 |nil=>rfl
 |cons _ _=>cases h
theorem aT{n:Nat}(h:∀ds δ δ1,u ds δ=on δ1->ds.length=n):∀ds δ δ1,dG t u ds δ=on δ1->ds.length=n+1:=λds δ δ1 e=>by
 cases ds with
 |nil=>cases e
 |cons d r=>
  have g:(t d δ).bind (λδ1=>u r δ1)=on δ1:=e;cases q:t d δ with
  |none=>rw[q]at g;cases g
  |some i=>rw[q]at g;rw[Qa,h _ _ _ g]
def dN(tg:TgF):Prop:=∀d δ δ1,tg d δ=on δ1->Sub δ δ1/\δ.length=δ1.length
def um(tg:ji):Prop:=∀d δ δ1,tg d δ=on δ1->Sub δ δ1/\δ.length=δ1.length
theorem au:dN (tgC i):=λd δ δ1 e=>by
 obtain⟨q,rfl⟩:=uA e;refine⟨λj c g=>?_,by rw[Q3]⟩;rw[Ra];by_cases z:i=j
 ·subst z;rw[q]at g;cases g
 ·rw[P0 z];exact g
theorem cQ:um hV:=λds δ δ1 e=>by
 cases ds with
 |nil=>cases e;exact⟨λ_ _ h=>h,rfl⟩
 |cons _ _=>cases e
theorem aU(j:dN t)(l:um u):um (dG t u):=λds δ δ1 e=>by
 cases ds with
 |nil=>cases e
 |cons d r=>
  have g:(t d δ).bind (λδ1=>u r δ1)=on δ1:=e;cases q:t d δ with
  |none=>rw[q]at g;cases g
  |some m=>
   rw[q]at g;obtain⟨a1,a2⟩:=j _ _ _ q;obtain⟨b1,b2⟩:=l _ _ _ g;exact⟨λi c h=>b1 i c (a1 i c h),a2.trans b2⟩
theorem dH(h:um t):dN (tgT t):=λd δ δ1 e=>by
 cases d<;>first|exact h _ _ _ e|cases e
structure ToD (F:Fx) (D:PX) (H H':Hp) (β':Bg):Prop where
 kp:∀a o,H a=on o->a≠D->(∀b l,F.bg=on (b,l)->a≠b/\a≠l)->H' a=on o
 fr:Fr F H' β'
theorem ToD.trans{F:Fx}{D:PX}{H d g:Hp}(a:ToD F D H d β1)(b:ToD F D d g β2):ToD F D H g β2:=⟨λx o h n m=>b.kp x o (a.kp x o h n m) n m,b.fr⟩
theorem To.toD{F:Fx}{H d:Hp}(t:To F H d β')(D:PX):ToD F D H d β':=⟨λa o h _ m=>t.kp a o h m,t.fr⟩
theorem ToD.tr{F:Fx}{D:PX}{H d:Hp}(fr:Fr F H β)(g:F.A D)(t:ToD F D H d β'):Tr F H F d:=
 ⟨λ_ h _=>h,λa o h e=>t.kp a o e (λz=>h (z▸g)) λb l q=>⟨λz=>h (z▸(fr.bgA b l q).1),λz=>h (z▸(fr.bgA b l q).2.1)⟩,rfl⟩
structure AR where
 R:Fx->Hp->PX->List Pu.D->Prop
 Z:List Pu.D->Prop
 tr:∀{F F2:Fx} {H H':Hp} {D:PX} {as:List Pu.D},R F H D as->(∀o,H D=on o->H' D=on o)->Tr F H F2 H'->R F2 H' D as
 zp:∀{as os:List Pu.D},Z (as++os)->Z as
noncomputable def RL(K:Qp):AR where
 R:=λF H D as=>∃acc,H D=on (.lst acc)/\DenL K F H as acc
 Z:=λl=>l.length<=Qk
 tr:=λh k t=>by
  obtain⟨acc,d,g⟩:=h;exact⟨acc,k _ d,DenL.tr t _ _ g⟩
 zp:=λh=>by rw[Qh]at h;omega
def eY(K:Qp)(R:AR)(D:PX)(j:TB)(f:Dn->M (List Pu.D)):Prop:=∀(F:Fx) (H:Hp) (δ:Dn) (β d:Bg) (i:St) (as os:List Pu.D) (Q:St->Hp->Prop),Fr F H β->F.A D->(∀b l,F.bg=on (b,l)->D≠b/\D≠l)->VOk K F H δ i->R.R F H D as->
 f δ β=on (.ok os,d)->R.Z (as++os)->(∀g h,ToD F D H h d->VOk K F h δ g->R.R F h D (as++os)->Q g h)->j i H Q
abbrev jK(K:Qp):=eY K (RL K)
def cEm(f:Dn->M Pu.D):Dn->M (List Pu.D):=λδ=>M.bind (f δ) λd=>M.ret [d]
theorem M.bind_inv{α g:Type}{m:M α}{k:α->M g}{β d:Bg}{r:g}(h:M.bind m k β=on (.ok r,d)):∃a β1,m β=on (.ok a,β1)/\k a β1=on (.ok r,d):=by
 unfold M.bind at h;split at h
 ·cases h
 ·cases h
 ·rename_i a β1 e
  exact⟨a,β1,e,h⟩
theorem E0.run{α i:Type}{R:Hp->α->i->Prop}{F:Fx}{j:St}{m:M α}{H:Hp}{Q:i->Hp->Prop}{β d:Bg}{a:α}(e:m β=on (.ok a,d))(h:∀v g,To F H g d->R g a v->Q v g):run R F E0 j m H Q β:=⟨.ok a,d,e,h⟩
theorem aM{D:PX}{f:Dn->M Pu.D}:jK K D (yD D (tV K f E0)) (cEm f):=λF H δ β g w as os Q fr y i m A e B k=>by
 obtain⟨acc,C,hd⟩:=A;obtain⟨d,β1,I,J⟩:=M.bind_inv e;cases J;refine⟨F,δ,β,fr,m,E0.run I λv r t L=>?_⟩;have j:=t.kp D _ C i;have N:=DenL.tr (t.tr fr) _ _ hd;refine⟨acc,j,by rw[←hd.length];have:=(show(as++[d]).length<=Qk from B);simp at this;omega,?_⟩;have u:ToD F D r (upd r D (.lst (acc++[v]))) g:=by
  refine⟨λa o h n _=>by rw[upd_ne n];exact h,λa h q=>?_,fr.bgA,λb l q=>?_⟩
  ·by_cases z:a=D
   ·subst z;rw[aq]at q;cases q
   ·rw[upd_ne z]at q;exact t.fr.occ a h q
  ·rw[upd_ne (i b l q).1.symm,upd_ne (i b l q).2.symm]
   exact t.fr.bag b l q
 have tt:=u.tr t.fr y;exact k w _ ((t.toD D).trans u) (m.tr ((t.tr fr).trans tt)) ⟨_,aq,DenL.append (DenL.tr tt _ _ N) ⟨v,[],rfl,Den.tr tt _ _ L,rfl⟩⟩
def cLp(tg:TgF)(tt:Dn->M Bool)(b:Dn->M (List Pu.D)):List Pu.D->Dn->M (List Pu.D)
 |[],_=>M.ret []
 |d::ds,δ=>match tg d δ with
  |none=>M.fail
  |some δ1=>M.bind (tt δ1) λc=>M.bind (if c=PP then b δ1 else M.ret []) λo=>M.bind (cLp tg tt b ds δ) λos=>M.ret (o++os)
theorem nR{R:AR}{D:PX}{tg:TgF}{b:Dn->M (List Pu.D)}(hg:cL K g tg)(sg:dN tg)(hb:eY K R D tb b){F:Fx}{H:Hp}{as os ds:List Pu.D}(fr:Fr F H β)(hA:F.A D)(hn:∀b l,F.bg=on (b,l)->D≠b/\D≠l)(vk:VOk K F H δ σ)(hR:R.R F H D as)
  (it:ItD K J F H ds) (e:cLp tg tt b ds δ β=on (.ok os,β')) (hz:R.Z (as++os)) (k:∀j t,ToD F D H t β'->VOk K F t δ j->R.R F t D (as++os)->Q j t):c7 J g (tVT K tt E0) tb σ H Q:=by
 refine⟨λi m j t=>m+i=ds.length/\∃β1 r v,ToD F D H t β1/\VOk K F t δ j/\R.R F t D r/\cLp tg tt b (ds.drop i) δ β1=on (.ok v,β')/\r++v=as++os,
  ⟨ds.length,by omega,β,as,os,⟨λ_ _ h _ _=>h,fr⟩,vk,hR,e,rfl⟩,?_⟩
 rintro i m j t ⟨hm,β1,r,v,B,C,I,u,ea⟩;have tr1:=B.tr fr hA;obtain⟨iy,is⟩:=it F t β1 tr1 B.fr i;cases T:ds[i]? with
 |none=>
  have U:ds.length<=i:=Vb.mp T;rw[R3 U]at u;cases u;refine .inl ⟨is (by omega),k j t B C ?_⟩;rw[←ea,QC];exact I
 |some d=>
  have U:i<ds.length:=(P9.mp T).1;obtain⟨go,yl⟩:=iy d T;have ed:ds.drop i=d::ds.drop (i+1):=by
   rw[QT U];congr 1;exact QB ((PM U).symm.trans T)
  rw[ed]at u;unfold cLp at u;cases q:tg d δ with
  |none=>rw[q]at u;cases u
  |some δ1=>
   rw[q]at u;obtain⟨c,β2,e2,e3⟩:=M.bind_inv u;obtain⟨o,β3,W,e5⟩:=M.bind_inv e3;obtain⟨os2,β4,e6,e7⟩:=M.bind_inv e5;cases e7;obtain⟨s1,s2⟩:=sg _ _ _ q;refine .inr ⟨go,λL Y=>ToD F D H Y β3/\VOk K F Y δ L/\R.R F Y D (r++o),?_,λx H2 hy=>?_⟩
   ·rintro L Y ⟨t9,vk9,hR9⟩
    exact⟨m-1,by omega,by omega,β3,r++o,os2,t9,vk9,hR9,e6,by rw[Q9];exact ea⟩
   ·obtain⟨sm,dx⟩:=yl x H2 hy
    have t2:To F t H2 β1:=B.fr.same sm;have N:=t2.tr B.fr;refine hg F H2 δ δ1 j d x _ (C.tr N) dx q λσ2 w=>⟨F,δ1,β1,t2.fr,w,E0.run e2 λc' H3 t3 ec=>?_⟩;subst ec;have y:=t3.tr t2.fr;have O:=R.tr I (λo z=>t3.kp D o (sm _ _ z) hn) (N.trans y);have P:ToD F D H H3 β2:=B.trans ((t2.trans t3).toD D);have hle:R.Z (r++o):=by
     rw[←ea,←Q9]at hz;exact R.zp hz
    cases c' with
    |true=>
     rw[P6 rfl]at W⊢;refine hb F H3 δ1 β2 β3 σ2 r o _ t3.fr hA hn (w.tr y) O W hle λσ4 H4 t4 vk4 hR4=>?_;exact⟨P.trans t4,vk4.sub s1 s2,hR4⟩
    |false=>
     rw[P0 P8]at W⊢;cases W;exact⟨P,(w.tr y).sub s1 s2,by rw[QC];exact O⟩
def cNx(it:Dn->M (List Pu.D))(tg:TgF)(tt:Dn->M Bool)(b:Dn->M (List Pu.D)):Dn->M (List Pu.D):=λδ=>M.bind (it δ) λds=>cLp tg tt b ds δ
theorem pi{D:PX}{tg:TgF}{b:Dn->M (List Pu.D)}(j:cL K g tg)(l:dN tg)(m:eY K R D tb b):eY K R D (yC (iV K it E0) λJ=>c7 J g (tVT K tt E0) tb) (cNx it tg tt b):=λF H δ β q C as os Q fr r hn h u e v k=>by
 obtain⟨ds,β1,w,y⟩:=M.bind_inv e;refine⟨F,δ,β,fr,h,E0.run w λJ i t A=>?_⟩;exact nR j l m t.fr r hn (h.tr (t.tr fr)) (R.tr u (λo z=>t.kp D o z hn) (t.tr fr)) A y v λd i B=>k d i ((t.toD D).trans B)
theorem K4{D:PX}{tg:TgF}{b:Dn->M (List Pu.D)}(d:cL K g tg)(h:dN tg)(i:jK K D tb b):jK K D (yC (iV K it E0) λJ=>c7 J g (tVT K tt E0) tb) (cNx it tg tt b):=pi d h i
noncomputable def cSt(nv:Nat)(caps:List Nat)(δ:Dn):Dn:=Qm nv PH++caps.map λj=>δ.getD j PH
def cw(nv:Nat)(caps:List Nat)(it:Dn->M (List Pu.D))(tg:TgF)(tt:Dn->M Bool)(b:Dn->M (List Pu.D)):Dn->M Pu.D:=λδ β=>match it δ β with
 |none=>PH
 |some (.error C,β1)=>on (.error C,β1)
 |some (.ok ds,β1)=>match cLp tg tt b ds (cSt nv caps δ) β1 with
  |some (.ok os,β2)=>if os.length<=Qk then on (.ok (.lst os),β2)else PH
  |_=>PH
theorem qO{F:Fx}{H:Hp}{vars:List QN}(h:VOk K F H δ σ):VOk K F H (cSt vars.length caps δ) (kH vars caps σ):=by
 refine⟨by simp[cSt,kH],λi d e=>?_⟩;unfold cSt at e;unfold kH;rw[VX]at e⊢;rw[Ru]at e⊢;by_cases g:i<vars.length
 ·rw[P6 g,Sw,P6 g]at e
  cases e
 ·rw[P0 g,PV]at e⊢
  cases q:caps[i-vars.length]? with
  |none=>rw[q]at e;cases e
  |some j=>
   rw[q]at e;simp only[Rb,Xn]at e⊢;rw[PR]at e;cases z:δ[j]? with
   |none=>rw[z]at e;cases e
   |some w=>
    rw[z]at e;have l:w=on d:=e;subst l;obtain⟨v,m,o⟩:=h.tell j d z;exact⟨v,by rw[PR,m];rfl,o⟩
theorem uB{vars:List QN}{caps:List Nat}{it:Dn->M (List Pu.D)}{g:TG}{tg:TgF}{tt:Dn->M Bool}{P:PX->TB}{b:Dn->M (List Pu.D)}(Z:cL K g tg)(sg:dN tg)(hb:∀D,jK K D (P D) b){T:St}{H:Hp}{Q:VK}(h:tV K (cw vars.length caps it tg tt b) E T H Q):
  pR vars caps (iV K it E) (λD J=>c7 J g (tVT K tt E0) (P D)) T H Q:=by
 obtain⟨F,δ,β,fr,U,r,v,e,h⟩:=h;unfold cw at e;refine⟨F,δ,β,fr,U,?_⟩;split at e
 ·cases e
 ·rename_i C β1 q
  cases e;exact⟨.error C,_,q,h⟩
 ·rename_i ds β1 q
  split at e
  ·rename_i os β2 q2
   split at e
   ·rename_i hz
    cases e;refine⟨.ok ds,β1,q,λJ u t hJ D i=>?_⟩;have d:¬F.A D:=t.fr.fresh i;have nb:∀b l,F.bg=on (b,l)->D≠b/\D≠l:=λb l z=>⟨λw=>d (w▸(fr.bgA b l z).1),λw=>d (w▸(fr.bgA b l z).2.1)⟩;have W:=t.fr.upd (.lst []) i;have B:Fr ⟨λa=>F.A a\/a=D,F.bg⟩ (upd u D (.lst [])) β1:=by
     refine⟨λa ha z=>?_,λb l z=>let ⟨x,y,w⟩:=fr.bgA b l z;⟨.inl x,.inl y,w⟩,W.fr.bag⟩
     rcases ha with ha|ha
     ·exact W.fr.occ a ha z
     ·subst ha;rw[aq]at z;cases z
    have j:Tr F u ⟨λa=>F.A a\/a=D,F.bg⟩ (upd u D (.lst [])):=⟨λa ha hs z=>by
     rcases z with z|z
     ·exact ha z
     ·subst z;exact hs i,λa o ha z=>by rw[upd_ne (aA z i)];exact z,rfl⟩
    refine nR (R:=RL K) (D:=D) (as:=[]) (os:=os) Z sg (hb D) B (.inr rfl) nb (qO (U.tr ((t.tr fr).trans j))) ⟨[],aq,rfl⟩ (hJ.tr j) q2 (show os.length<=Qk from hz) λσ1 Y I vk3 L=>?_;obtain⟨m,N,O⟩:=L;have tf:To F u Y v:=by
     refine⟨λa o z n=>I.kp a o (by rw[upd_ne (aA z i)];exact z) (aA z i) n,λa ha z=>I.fr.occ a (RT ha) z,fr.bgA,I.fr.bag⟩
    refine h _ Y (t.trans tf) ⟨D,m,rfl,⟨d,.inl N⟩,DenL.tr (F:=⟨λa=>F.A a\/a=D,F.bg⟩) ⟨λa ha _ z=>ha (RT z),λa o _ z=>z,rfl⟩ _ _ O⟩
   ·cases e
  ·cases e
inductive Sl where
 |sh (d:D)|own (ds:List D)|grd (rows:List (List D))
abbrev Ds:=List (Option Sl)
inductive Out where
 |nx (δ:Ds)|rt (d:D)|bk (δ:Ds)|ct (δ:Ds)|ex (C:PX) (δ:Ds)|rg (rows:List (List D))
abbrev G:=Ds->Bg->Option (Out×Bg)
abbrev Ow:=PX->Option Nat
noncomputable def FxB(B:Ow)(bg:Option (PX×PX)):Fx:=⟨λa=>B a≠PH,bg⟩
noncomputable def FxA(B:Ow)(bg:Option (PX×PX)):Fx:=⟨λa=>B a=on 0\/B a=on 1,bg⟩
def RowL(K:Qp)(F:Fx)(H:Hp)(P:PX->Prop):List (List D)->List PX->Prop
 |[],[]=>True
 |ds::rows,r::rs=>P r/\(∃xs,H r=on (.lst xs)/\DenL K F H ds xs)/\RowL K F H P rows rs
 |_,_=>False
theorem RowL.tr{K:Qp}{F i:Fx}{H d:Hp}(t:Tr F H i d):∀{rows:List (List D)} {rs:List PX},RowL K F H P rows rs->(∀r xs,r∈rs->P r->H r=on (.lst xs)->P2 r/\d r=on (.lst xs))->RowL K i d P2 rows rs
 |[],[],_,_=>trivial
 |ds::rows,r::rs,h,f=>by
  obtain⟨j,⟨xs,l,m⟩,o⟩:=h;obtain⟨p,q⟩:=f r xs PZ j l;exact⟨p,⟨xs,q,DenL.tr t _ _ m⟩,RowL.tr t o λu g v=>f u g (PN _ v)⟩
 |[],_::_,h,_=>h.elim
 |_::_,[],h,_=>h.elim
theorem RowL.all{K:Qp}{F:Fx}{H:Hp}:∀{rows:List (List D)} {rs:List PX},RowL K F H P rows rs->∀r∈rs,P r/\∃xs,H r=on (.lst xs)
 |[],[],_,r,hr=>by cases hr
 |ds::rows,r0::rs,h,r,hr=>by
  obtain⟨d,⟨xs,g,j⟩,i⟩:=h;rcases Qf.mp hr with rfl|hr
  ·exact⟨d,xs,g⟩
  ·exact RowL.all i r hr
 |[],_::_,h,_,_=>h.elim
 |_::_,[],h,_,_=>h.elim
theorem RowL.den{K:Qp}{F d:Fx}{H:Hp}(t:Tr F H d H):∀{rows:List (List D)} {rs:List PX},RowL K F H P rows rs->(∀r,r∈rs->P r->¬d.A r)->DenL K d H (rows.map D.lst) (rs.map V.ref)
 |[],[],_,_=>rfl
 |ds::rows,r::rs,h,f=>by
  obtain⟨g,⟨xs,i,j⟩,l⟩:=h;exact DenL.cons ⟨r,xs,rfl,⟨f r PZ g,.inl i⟩,DenL.tr t _ _ j⟩ (RowL.den t l λm o=>f m (PN _ o))
 |[],_::_,h,_=>h.elim
 |_::_,[],h,_=>h.elim
theorem RowL.len{K:Qp}{F:Fx}{H:Hp}:∀{rows:List (List D)} {rs:List PX},RowL K F H P rows rs->rows.length=rs.length
 |[],[],_=>rfl
 |ds::rows,r::rs,h=>by simp[RowL.len h.2.2]
 |[],_::_,h=>h.elim
 |_::_,[],h=>h.elim
def g9(K:Qp)(F:Fx)(H0 H:Hp)(rows:List (List D))(v:V):Prop:=∃a rs,v= .ref a/\H0 a=PH/\H a=on (.lst (rs.map V.ref))/\(a::rs).Nodup/\RowL K F H (λr=>H0 r=PH) rows rs
def DenS(K:Qp)(B:Ow)(bg:Option (PX×PX))(H:Hp)(i:Nat):Sl->V->Prop
 | .sh d,v=>Den K (FxB B bg) H d v
 | .own ds,v=>∃a xs,v= .ref a/\B a=on (i+2)/\H a=on (.lst xs)/\DenL K (FxB B bg) H ds xs
 | .grd rows,v=>∃a rs,v= .ref a/\B a=on (i+2)/\H a=on (.lst (rs.map V.ref))/\(a::rs).Nodup/\RowL K (FxB B bg) H (λr=>B r=on (i+2)) rows rs
structure SOk (K:Qp) (H₀:Hp) (B:Ow) (bg:Option (PX×PX)) (H:Hp) (δ:Ds) (β:Bg) (σ:St):Prop where
 fr:Fr (FxB B bg) H β
 bgt:∀b l,bg=on (b,l)->B b=on 1/\B l=on 1
 len:δ.length=σ.length
 cov:∀a,H₀ a≠PH->H a≠PH
 new:∀a k,B a=on (k+2)->H₀ a=PH
 lst:∀a k,B a=on (k+2)->∃xs,H a=on (.lst xs)
 tell:∀(i:Nat) (s:Sl),δ[i]?=on (on s)->∃v,σ[i]?=on (on v)/\DenS K B bg H i s v
structure Stp (B:Ow) (H:Hp) (B':Ow) (H':Hp):Prop where
 kp:∀a o,H a=on o->(B a=PH\/B a=on 0)->H' a=on o
 tg:∀a,B a=on 0\/B a=on 1->B' a=B a
 nn:∀a o,H a=on o->B a=PH->B' a=PH
 al:∀a,H a≠PH->H' a≠PH
theorem Stp.refl(B:Ow)(H:Hp):Stp B H B H:=⟨λ_ _ h _=>h,λ_ _=>rfl,λ_ _ _ h=>h,λ_ h=>h⟩
theorem Stp.trans{H d g:Hp}(a:Stp B H B1 d)(b:Stp B1 d B2 g):Stp B H B2 g:=by
 refine⟨λx o h n=>b.kp x o (a.kp x o h n) ?_,λx h=>?_,λx o h n=>b.nn x o (a.kp x o h (.inl n)) (a.nn x o h n),λx h=>b.al x (a.al x h)⟩
 ·rcases n with n|n
  ·exact .inl (a.nn x o h n)
  ·exact .inr ((a.tg x (.inl n)).trans n)
 ·have e:=a.tg x h
  rw[←e]at h;exact(b.tg x h).trans e
def gM(K:Qp)(H₀:Hp)(bg:Option (PX×PX))(E:St->XK)(Dn:Ends)(B:Ow)(H:Hp)(o:Out)(j:Bg):Prop:=match o with
 | .nx δ'=>∀h i g,Stp B H i g->SOk K H₀ i bg g δ' j h->Dn.nx h g
 | .bk δ'=>∀h i g,Stp B H i g->SOk K H₀ i bg g δ' j h->Dn.bk h g
 | .ct δ'=>∀h i g,Stp B H i g->SOk K H₀ i bg g δ' j h->Dn.ct h g
 | .rt d=>∀v i g,Stp B H i g->Fr (FxB i bg) g j->Den K (FxB i bg) g d v->Dn.rt v g
 | .rg rows=>∀v i g,Stp B H i g->Fr (FxB i bg) g j->g9 K (FxB i bg) H₀ g rows v->Dn.rt v g
 | .ex C δ'=>∀h i g,Stp B H i g->SOk K H₀ i bg g δ' j h->E h (.ref C) PH g
theorem gM.pre{K:Qp}{E:St->XK}{Dn:Ends}{H l:Hp}(s:Stp B H B1 l)(h:gM K H₀ bg E Dn B H o β'):gM K H₀ bg E Dn B1 l o β':=by
 cases o with
 |nx δ=>exact λg i j t=>h g i j (s.trans t)
 |bk δ=>exact λg i j t=>h g i j (s.trans t)
 |ct δ=>exact λg i j t=>h g i j (s.trans t)
 |rt d=>exact λv i j t=>h v i j (s.trans t)
 |rg d=>exact λv i j t=>h v i j (s.trans t)
 |ex C δ=>exact λg i j t=>h g i j (s.trans t)
def tG(K:Qp)(H₀:Hp)(g:G)(E:St->XK):TS:=λDn h H=>∃B bg δ β o d,SOk K H₀ B bg H δ β h/\g δ β=on (o,d)/\gM K H₀ bg E Dn B H o d
theorem _root_.L2.PS.imp{X:Cx}{e:Rh}(h:PS X e t)(f:∀D d H,t' D d H->t D d H):PS X e t':=λg s d H D I q=>h g s d H D I (f D d H q)
theorem _root_.L2.PSs.imp{X:Cx}{e:List Rh}(h:PSs X e t)(f:∀D d H,t' D d H->t D d H):PSs X e t':=λg s d H D I q=>h g s d H D I (f D d H q)
noncomputable def vw(δ:Ds):Dn:=δ.map λs=>match s with
 |some (.sh d)=>on d
 |_=>PH
noncomputable def vwA(δ:Ds):Dn:=δ.map λs=>match s with
 |some (.sh d)=>on d
 |some (.own ds)=>on (.lst ds)
 |some (.grd rows)=>on (.lst (rows.map D.lst))
 |none=>PH
variable{H₀:Hp}{B:Ow}{bg:Option (PX×PX)}{H':Hp}{δ:Ds}{β β':Bg}{σ:St}
theorem OD{i:Nat}{d:D}(e:(vw δ)[i]?=on (on d)):δ[i]?=on (on (.sh d)):=by
 unfold vw at e;rw[PV]at e;cases q:δ[i]? with
 |none=>rw[q]at e;cases e
 |some z=>
  rw[q]at e;cases z with
  |none=>cases e
  |some s=>
   cases s with
   |sh c=>cases e;rfl
   |own ds=>cases e
   |grd rows=>cases e
theorem SOk.view(h:SOk K H₀ B bg H δ β σ):VOk K (FxB B bg) H (vw δ) σ:=⟨by unfold vw;rw[PF,h.len],λi d e=>h.tell i _ (OD e)⟩
theorem trA:Tr (FxB B bg) H (FxA B bg) H:=⟨λa h _ z=>by
 have h':¬(B a≠PH):=h;rcases z with z|z
 ·exact h' (by rw[z];simp)
 ·exact h' (by rw[z];simp),λ_ _ _ h=>h,rfl⟩
theorem SOk.frA(h:SOk K H₀ B bg H δ β σ):Fr (FxA B bg) H β:=⟨λa ha=>h.fr.occ a (by
 show B a≠PH;rcases ha with z|z<;>rw[z]<;>simp),λb l e=>⟨.inr (h.bgt b l e).1,.inr (h.bgt b l e).2,(h.fr.bgA b l e).2.2⟩,h.fr.bag⟩
theorem SOk.viewA(h:SOk K H₀ B bg H δ β σ):VOk K (FxA B bg) H (vwA δ) σ:=by
 refine⟨by unfold vwA;rw[PF,h.len],λi d e=>?_⟩;unfold vwA at e;rw[PV]at e;cases q:δ[i]? with
 |none=>rw[q]at e;cases e
 |some z=>
  rw[q]at e;cases z with
  |none=>cases e
  |some s=>
   obtain⟨v,g,j⟩:=h.tell i s q;cases s with
   |sh c=>cases e;exact⟨v,g,Den.tr trA _ _ j⟩
   |own ds=>
    cases e;obtain⟨a,xs,l,m,o,t⟩:=j;refine⟨v,g,a,xs,l,⟨λz=>?_,.inl o⟩,DenL.tr trA _ _ t⟩;have z':B a=on 0\/B a=on 1:=z;rw[m]at z';rcases z' with z'|z'<;>cases z'
   |grd rows=>
    cases e;obtain⟨a,rs,l,m,o,t,w⟩:=j;have u:∀c,B c=on (i+2)->¬(FxA B bg).A c:=λc y z=>by
     have z':B c=on 0\/B c=on 1:=z;rw[y]at z';rcases z' with z'|z'<;>cases z'
    exact⟨v,g,a,_,l,⟨u a m,.inl o⟩,RowL.den trA w λr _ C=>u r C⟩
theorem SOk.to{F:Fx}(h:SOk K H₀ B bg H δ β σ)(hF:F.bg=bg)(t:To F H H' β'):SOk K H₀ B bg H' δ β' σ/\Stp B H B H':=by
 have J:∀a,B a≠on 1->∀b l,F.bg=on (b,l)->a≠b/\a≠l:=λa ha b l e=>by
  rw[hF]at e;exact⟨λz=>ha (z▸(h.bgt b l e).1),λz=>ha (z▸(h.bgt b l e).2)⟩
 have kp:∀a o,H a=on o->B a≠on 1->H' a=on o:=λa o e n=>t.kp a o e (J a n);have fr:Fr (FxB B bg) H' β':=⟨λa ha z=>(by
  by_cases L:B a=on 1
  ·by_cases d:∃b l,bg=on (b,l)/\(a=b\/a=l)
   ·obtain⟨b,l,e,q⟩:=d
    obtain⟨j,m⟩:=t.fr.bag b l (hF.trans e);rcases q with rfl|rfl
    ·rw[j]at z;cases z
    ·rw[m]at z;cases z
   ·cases q:H a with
    |none=>exact h.fr.occ a ha q
    |some o=>
     rw[t.kp a o q λb l e=>⟨λw=>d ⟨b,l,hF.symm.trans e,.inl w⟩,λw=>d ⟨b,l,hF.symm.trans e,.inr w⟩⟩]at z;cases z
  ·cases q:H a with
   |none=>exact h.fr.occ a ha q
   |some o=>rw[kp a o q L]at z;cases z),h.fr.bgA,λb l e=>t.fr.bag b l (hF.trans e)⟩
 have tr:Tr (FxB B bg) H (FxB B bg) H':=⟨λ_ n _=>n,λa o n e=>kp a o e (λz=>n (by show B a≠PH;rw[z];simp)),rfl⟩;have al:∀a,H a≠PH->H' a≠PH:=λa ha z=>by
  by_cases d:∃b l,bg=on (b,l)/\(a=b\/a=l)
  ·obtain⟨b,l,e,q⟩:=d
   obtain⟨j,m⟩:=t.fr.bag b l (hF.trans e);rcases q with rfl|rfl
   ·rw[j]at z;cases z
   ·rw[m]at z;cases z
  ·cases q:H a with
   |none=>exact ha q
   |some o=>
    rw[t.kp a o q λb l e=>⟨λw=>d ⟨b,l,hF.symm.trans e,.inl w⟩,λw=>d ⟨b,l,hF.symm.trans e,.inr w⟩⟩]at z;cases z
 refine⟨⟨fr,h.bgt,h.len,λa ha=>al a (h.cov a ha),h.new,λc k I=>(let ⟨xs,z⟩:=h.lst c k I;⟨xs,kp c _ z (by rw[I];intro z;cases z)⟩),λi s e=>?_⟩,λa o e n=>kp a o e (by rcases n with n|n<;>rw[n]<;>simp),λ_ _=>rfl,λ_ _ _ n=>n,al⟩
 obtain⟨v,N,u⟩:=h.tell i s e;refine⟨v,N,?_⟩;cases s with
 |sh c=>exact Den.tr tr _ _ u
 |own ds=>
  obtain⟨a,xs,y,g,A,C⟩:=u;exact⟨a,xs,y,g,kp a _ A (by rw[g];intro z;cases z),DenL.tr tr _ _ C⟩
 |grd rows=>
  obtain⟨a,rs,y,g,A,C,O⟩:=u;exact⟨a,rs,y,g,kp a _ A (by rw[g];intro z;cases z),C,RowL.tr tr O λr xs _ p q=>⟨p,kp r _ q (by rw[p];intro z;cases z)⟩⟩
theorem SOk.set(h:SOk K H₀ B bg H δ β σ)(hd:Den K (FxB B bg) H d v):SOk K H₀ B bg H (δ.set i (on (.sh d))) β (σ.set i (on v)):=by
 refine⟨h.fr,h.bgt,by rw[Q3,Q3,h.len],h.cov,h.new,h.lst,λj c e=>?_⟩;rw[Ra]at e;rw[Ra];by_cases q:i=j
 ·subst q
  rw[P6 rfl]at e⊢;split at e
  ·rename_i g
   cases e;rw[P6 (by rw[←h.len];exact g)];exact⟨v,rfl,hd⟩
  ·cases e
 ·rw[P0 q]at e⊢
  exact h.tell j c e
noncomputable def gNil:G:=λδ β=>on (.nx δ,β)
noncomputable def aW(g h:G):G:=λδ β=>match g δ β with
 |some (.nx δ1,β1)=>h δ1 β1
 |r=>r
def gj(i:Nat)(f:FD):G:=λδ β=>match f (vw δ) β with
 |some (.ok d,β1)=>on (.nx (δ.set i (on (.sh d))),β1)
 |some (.error C,β1)=>on (.ex C δ,β1)
 |none=>PH
def n9(i:Nat)(f:FD):G:=λδ β=>match f (vwA δ) β with
 |some (.ok d,β1)=>if dU d=PP then on (.nx (δ.set i (on (.sh d))),β1)else PH
 |some (.error C,β1)=>on (.ex C δ,β1)
 |none=>PH
noncomputable def gl(f:FD):G:=λδ β=>match f (vwA δ) β with
 |some (.ok _,β1)=>on (.nx δ,β1)
 |some (.error C,β1)=>on (.ex C δ,β1)
 |none=>PH
noncomputable def da(f:FD):G:=λδ β=>match f (vwA δ) β with
 |some (.ok d,β1)=>on (.rt d,β1)
 |some (.error C,β1)=>on (.ex C δ,β1)
 |none=>PH
noncomputable def gIf(t:Dn->M Bool)(g h:G):G:=λδ β=>match t (vwA δ) β with
 |some (.ok PP,β1)=>g δ β1
 |some (.ok PU,β1)=>h δ β1
 |some (.error C,β1)=>on (.ex C δ,β1)
 |none=>PH
variable{st:Rh}{sts:List Rh}
theorem bA:PSs X [] (tG X.K X.H₀ gNil E):=rq.imp λD σ H d=>by
 obtain⟨B,bg,δ,β,o,β',ok,e,h⟩:=d;cases e;exact h σ B H (Stp.refl B H) ok
theorem af(i:PS X st (tG X.K X.H₀ g E))(j:PSs X sts (tG X.K X.H₀ h E)):PSs X (st::sts) (tG X.K X.H₀ (aW g h) E):=(cX i j).imp λD σ H l=>by
 obtain⟨B,bg,δ,β,o,β',ok,e,q⟩:=l;unfold aW at e;split at e
 ·rename_i δ1 β1 m
  refine⟨B,bg,δ,β,.nx δ1,β1,ok,m,λt u H' s d=>⟨u,bg,δ1,β1,o,β',d,e,gM.pre s ?_⟩⟩;exact q
 ·rename_i r v
  refine⟨B,bg,δ,β,o,β',ok,e,?_⟩;cases o with
  |nx δ1=>exact Qu e (v δ1 β')
  |_=>exact q
theorem ai(d:PS X st (tG X.K X.H₀ g E)):PSs X [st] (tG X.K X.H₀ g E):=nF d
theorem aI{x:QN}{f:FD}(h:PS X (.Assign [.Name x pos'] e pos) (jL (tV X.K f E) (fS i))):PS X (.Assign [.Name x pos'] e pos) (tG X.K X.H₀ (gj i f) E):=h.imp λD σ H m=>by
 obtain⟨B,bg,δ,β,o,β',ok,e,q⟩:=m;refine⟨FxB B bg,vw δ,β,ok.fr,ok.view,?_⟩;unfold gj at e;split at e
 ·rename_i d β1 j
  cases e;refine⟨.ok d,_,j,λv H' t hd=>?_⟩;obtain⟨g,l⟩:=ok.to rfl t;exact q _ B H' l (g.set hd)
 ·rename_i C β1 j
  cases e;refine⟨.error C,_,j,λH' t=>?_⟩;obtain⟨g,l⟩:=ok.to rfl t;exact q _ B H' l g
 ·cases e
theorem l5{f:FD}(h:PS X (.Expr e pos) (xH (tV X.K f E))):PS X (.Expr e pos) (tG X.K X.H₀ (gl f) E):=h.imp λD σ H l=>by
 obtain⟨B,bg,δ,β,o,β',ok,e,q⟩:=l;refine⟨FxA B bg,vwA δ,β,ok.frA,ok.viewA,?_⟩;unfold gl at e;split at e
 ·rename_i d β1 i
  cases e;refine⟨.ok d,_,i,λv H' t hd=>?_⟩;obtain⟨g,j⟩:=ok.to rfl t;exact q _ B H' j g
 ·rename_i C β1 i
  cases e;refine⟨.error C,_,i,λH' t=>?_⟩;obtain⟨g,j⟩:=ok.to rfl t;exact q _ B H' j g
 ·cases e
noncomputable def gC(B:Ow):Ow:=λa=>if B a=on 0\/B a=on 1 then B a else PH
theorem MO{B:Ow}{bg:Option (PX×PX)}{H:Hp}:Tr (FxA B bg) H (FxB (gC B) bg) H:=⟨λa h _ z=>by
 have d:gC B a≠PH:=z;unfold gC at d;split at d
 ·rename_i q;exact h q
 ·exact d rfl,λ_ _ _ h=>h,rfl⟩
theorem DX{B:Ow}{H:Hp}:Stp B H (gC B) H:=⟨λ_ _ h _=>h,λa h=>by unfold gC;rw[P6 h],λa o h n=>by unfold gC;rw[n];simp,λ_ h=>h⟩
theorem aG{f:FD}(h:PS X (.Return (on e) pos) (CC (tV X.K f E))):PS X (.Return (on e) pos) (tG X.K X.H₀ (da f) E):=h.imp λD σ H r=>by
 obtain⟨B,bg,δ,β,o,β',ok,e,q⟩:=r;refine⟨FxA B bg,vwA δ,β,ok.frA,ok.viewA,?_⟩;unfold da at e;split at e
 ·rename_i d β1 j
  cases e;refine⟨.ok d,_,j,λv H' t hd=>?_⟩;obtain⟨g,m⟩:=ok.to rfl t;refine q _ (gC B) H' (m.trans DX) ⟨λa ha=>g.fr.occ a ?_,λb l e=>?_,g.fr.bag⟩ (Den.tr MO _ _ hd)
  ·have i:gC B a≠PH:=ha
   show B a≠PH;unfold gC at i;split at i
   ·exact i
   ·exact Qu rfl i
  ·refine⟨?_,?_,(g.fr.bgA b l e).2.2⟩
   ·show gC B b≠PH
    unfold gC;rw[P6 (.inr (ok.bgt b l e).1),(ok.bgt b l e).1];simp
   ·show gC B l≠PH
    unfold gC;rw[P6 (.inr (ok.bgt b l e).2),(ok.bgt b l e).2];simp
 ·rename_i C β1 j
  cases e;refine⟨.error C,_,j,λH' t=>?_⟩;obtain⟨g,m⟩:=ok.to rfl t;exact q _ B H' m g
 ·cases e
theorem cg{c:Expr}{a b:List Rh}(l:PT X c (tVT X.K t E))(ha:PSs X a (tG X.K X.H₀ g E))(m:PSs X b (tG X.K X.H₀ h E)):PS X (.If c a b pos) (tG X.K X.H₀ (gIf t g h) E):=(IN l ha m).imp λD σ H r=>by
 obtain⟨B,bg,δ,β,o,β',ok,e,q⟩:=r;refine⟨FxA B bg,vwA δ,β,ok.frA,ok.viewA,?_⟩;unfold gIf at e;split at e
 ·rename_i β1 i
  refine⟨.ok PP,_,i,λv H' t hd=>?_⟩;subst hd;obtain⟨d,j⟩:=ok.to rfl t;rw[P6 rfl];exact⟨B,bg,δ,β1,o,β',d,e,gM.pre j q⟩
 ·rename_i β1 i
  refine⟨.ok PU,_,i,λv H' t hd=>?_⟩;subst hd;obtain⟨d,j⟩:=ok.to rfl t;rw[P0 P8];exact⟨B,bg,δ,β1,o,β',d,e,gM.pre j q⟩
 ·rename_i C β1 i
  cases e;refine⟨.error C,_,i,λH' t=>?_⟩;obtain⟨d,j⟩:=ok.to rfl t;exact q _ B H' j d
 ·cases e
abbrev TgS:=D->Ds->Option Ds
abbrev mU:=List D->Ds->Option Ds
def qR(K:Qp)(g:TG)(tg:TgS):Prop:=∀(H₀:Hp) (B:Ow) (bg:Option (PX×PX)) (H:Hp) (δ δ1:Ds) (β:Bg) (σ:St) (d:D) (v:V) (Q:St->Hp->Prop),SOk K H₀ B bg H δ β σ->Den K (FxB B bg) H d v->tg d δ=on δ1->(∀h,SOk K H₀ B bg H δ1 β h->Q h H)->g v σ H Q
def qQ(K:Qp)(g:TGs)(tg:mU):Prop:=∀(H₀:Hp) (B:Ow) (bg:Option (PX×PX)) (H:Hp) (δ δ1:Ds) (β:Bg) (σ:St) (ds:List D) (vs:List V) (Q:St->Hp->Prop),SOk K H₀ B bg H δ β σ->DenL K (FxB B bg) H ds vs->tg ds δ=on δ1->(∀d,SOk K H₀ B bg H δ1 β d->Q d H)->g vs σ H Q
noncomputable def sgN(i:Nat):TgS:=λd δ=>on (δ.set i (on (.sh d)))
noncomputable def l3:mU:=λds δ=>match ds with
 |[]=>on δ
 |_=>PH
noncomputable def lZ(t:TgS)(u:mU):mU:=λds δ=>match ds with
 |[]=>PH
 |d::r=>(t d δ).bind λδ1=>u r δ1
noncomputable def sgT(t:mU):TgS:=λd δ=>match d with
 | .tup ds=>t ds δ
 |_=>PH
theorem aC:qR K (fS i) (sgN i):=λH₀ B bg H δ δ1 β σ d v Q ok hd e k=>by
 cases e;exact k _ (ok.set hd)
theorem dL:qQ K L2.gNil l3:=λH₀ B bg H δ δ1 β σ ds vs Q ok hd e k=>by
 cases ds with
 |nil=>cases e;exact⟨hd,k _ ok⟩
 |cons _ _=>cases e
theorem bo(m:qR K t tf)(o:qQ K u uf):qQ K (yp t u) (lZ tf uf):=λH₀ B bg H δ δ1 β σ ds vs Q ok hd e k=>by
 cases ds with
 |nil=>cases e
 |cons d r=>
  obtain⟨x,l,rfl,v,w⟩:=hd;have h:(tf d δ).bind (λδ1=>uf r δ1)=on δ1:=e;cases q:tf d δ with
  |none=>rw[q]at h;cases h
  |some g=>
   rw[q]at h;exact⟨x,l,rfl,m H₀ B bg H δ g β σ d x _ ok v q λi j=>o H₀ B bg H g δ1 β i r l Q j w h k⟩
theorem cU:∀ds δ δ1,l3 ds δ=on δ1->ds.length=0:=λds δ δ1 h=>by
 cases ds with
 |nil=>rfl
 |cons _ _=>cases h
theorem bn{n:Nat}(h:∀ds δ δ1,u ds δ=on δ1->ds.length=n):∀ds δ δ1,lZ t u ds δ=on δ1->ds.length=n+1:=λds δ δ1 e=>by
 cases ds with
 |nil=>cases e
 |cons d r=>
  have g:(t d δ).bind (λδ1=>u r δ1)=on δ1:=e;cases q:t d δ with
  |none=>rw[q]at g;cases g
  |some i=>rw[q]at g;rw[Qa,h _ _ _ g]
theorem eW{n:Nat}(h:qQ K t tf)(hn:∀ds δ δ1,tf ds δ=on δ1->ds.length=n):qR K (EM K n t) (sgT tf):=λH₀ B bg H δ δ1 β σ d v Q ok hd e k=>by
 cases d<;>first
  |(obtain⟨a,xs,rfl,sq,g⟩:=Den.sqT hd;exact⟨a,xs,rfl,sq,by rw[←g.length];exact hn _ _ _ e,h H₀ B bg H δ δ1 β σ _ xs Q ok g e k⟩)
  |cases e
def jU(f:FD)(tg:TgS):G:=λδ β=>match f (vw δ) β with
 |some (.ok d,β1)=>(tg d δ).map λδ1=>(.nx δ1,β1)
 |some (.error C,β1)=>on (.ex C δ,β1)
 |none=>PH
theorem tR{f:FD}{tg:TgS}(l:qR X.K g tg)(h:PS X (.Assign [tgt] e pos) (jL (tV X.K f E) g)):PS X (.Assign [tgt] e pos) (tG X.K X.H₀ (jU f tg) E):=h.imp λD σ H w=>by
 obtain⟨B,bg,δ,β,o,β',ok,e,q⟩:=w;refine⟨FxB B bg,vw δ,β,ok.fr,ok.view,?_⟩;unfold jU at e;split at e
 ·rename_i d β1 j
  cases q1:tg d δ with
  |none=>rw[q1]at e;cases e
  |some δ1=>
   rw[q1]at e;cases e;refine⟨.ok d,_,j,λv H' t hd=>?_⟩;obtain⟨i,m⟩:=ok.to rfl t;exact l X.H₀ B bg H' δ δ1 _ σ d v _ i hd q1 λr u=>q r B H' m u
 ·rename_i C β1 j
  cases e;refine⟨.error C,_,j,λH' t=>?_⟩;obtain⟨i,m⟩:=ok.to rfl t;exact q _ B H' m i
 ·cases e
def rL(i j:Nat)(f:FL):G:=λδ β=>match f (vw δ) β with
 |some (.ok [c,d],β1)=>on (.nx ((δ.set i (on (.sh c))).set j (on (.sh d))),β1)
 |some (.error C,β1)=>on (.ex C δ,β1)
 |_=>PH
def jT(i:Nat)(op:D->D->Option D)(f:FD):G:=λδ β=>match(vw δ).getD i PH with
 |none=>PH
 |some c=>match f (vw δ) β with
  |some (.ok d,β1)=>(op c d).map λz=>(.nx (δ.set i (on (.sh z))),β1)
  |some (.error C,β1)=>on (.ex C δ,β1)
  |none=>PH
theorem fP{f:FD}(l:bi X.K ti op)(h:PS X st (LN i (tV X.K f E) ti)):PS X st (tG X.K X.H₀ (jT i op f) E):=h.imp λD σ H I=>by
 obtain⟨B,bg,δ,β,o,β',ok,e,q⟩:=I;unfold jT at e;split at e
 ·cases e
 ·rename_i c j
  have m:(vw δ)[i]?=on (on c):=by
   rw[PR]at j;cases z:(vw δ)[i]? with
   |none=>rw[z]at j;cases j
   |some w=>rw[z]at j;simp at j;rw[j]
  obtain⟨v,J,L⟩:=ok.view.tell i c m;refine⟨v,J,FxB B bg,vw δ,β,ok.fr,ok.view,?_⟩;split at e
  ·rename_i d β1 r
   cases q1:op c d with
   |none=>rw[q1]at e;cases e
   |some z=>
    rw[q1]at e;cases e;refine⟨.ok d,_,r,λw H' t hd=>?_⟩;obtain⟨g,y⟩:=ok.to rfl t;refine l (FxB B bg) H' β' _ c d z v w t.fr (Den.tr (t.tr ok.fr) _ _ L) hd q1 λu N O P=>?_;obtain⟨A,Q⟩:=g.to rfl O;exact q _ B N (y.trans Q) (A.set P)
  ·rename_i C β1 r
   cases e;refine⟨.error C,_,r,λH' t=>?_⟩;obtain⟨g,y⟩:=ok.to rfl t;exact q _ B H' y g
  ·cases e
theorem Stp.tr{B d:Ow}{H H':Hp}{bg:Option (PX×PX)}(s:Stp B H d H'):Tr (FxB B bg) H (FxB d bg) H':=
 ⟨λa h hs z=>by
  have hn:B a=PH:=by
   cases q:B a with
   |none=>rfl
   |some t=>exact Qu (show B a≠PH by rw[q];simp) h
  cases q:H a with
  |none=>exact hs q
  |some o=>exact z (s.nn a o q hn),λa o h e=>s.kp a o e (.inl (by
  cases q:B a with
  |none=>rfl
  |some t=>exact Qu (show B a≠PH by rw[q];simp) h)),rfl⟩
def bX(t:Dn->M Bool)(g:G):Nat->G
 |0,_,_=>PH
 |n+1,δ,β=>match t (vwA δ) β with
  |some (.ok PP,β1)=>match g δ β1 with
   |some (.nx δ1,β2)=>bX t g n δ1 β2
   |some (.ct δ1,β2)=>bX t g n δ1 β2
   |some (.bk δ1,β2)=>on (.nx δ1,β2)
   |r=>r
  |some (.ok PU,β1)=>on (.nx δ,β1)
  |some (.error C,β1)=>on (.ex C δ,β1)
  |none=>PH
theorem mE:∀{n:Nat} {δ:Ds} {β:Bg} {r:Out×Bg},bX t g n δ β=on r->bX t g (n+1) δ β=on r
 |0,_,_,_,h=>by cases h
 |n+1,δ,β,r,h=>by
  have e:∀m,bX t g (m+1) δ β=match t (vwA δ) β with
    |some (.ok PP,β1)=>match g δ β1 with
     |some (.nx δ1,β2)=>bX t g m δ1 β2
     |some (.ct δ1,β2)=>bX t g m δ1 β2
     |some (.bk δ1,β2)=>on (.nx δ1,β2)
     |r=>r
    |some (.ok PU,β1)=>on (.nx δ,β1)
    |some (.error C,β1)=>on (.ex C δ,β1)
    |none=>PH:=λm=>rfl
  rw[e]at h⊢;cases q:t (vwA δ) β with
  |none=>rw[q]at h;cases h
  |some z=>
   obtain⟨b,β1⟩:=z;rw[q]at h;cases b with
   |error C=>exact h
   |ok b=>
    cases b with
    |false=>exact h
    |true=>
     dsimp only at h⊢
     cases q2:g δ β1 with
     |none=>rw[q2]at h;cases h
     |some y=>
      obtain⟨o,β2⟩:=y;rw[q2]at h;cases o with
      |nx δ1=>exact mE h
      |ct δ1=>exact mE h
      |bk δ1=>exact h
      |rt d=>exact h
      |rg d=>exact h
      |ex C δ1=>exact h
theorem sU{n m:Nat}{δ:Ds}{β:Bg}(h:bX t g n δ β=on r)(l:n<=m):bX t g m δ β=on r:=by
 induction m with
 |zero=>
  obtain rfl:n=0:=by omega
  exact h
 |succ m ih=>
  by_cases q:n=m+1
  ·subst q;exact h
  ·exact mE (ih (by omega))
end
open Classical in
def gWh(t:Dn->M Bool)(g:G):G:=λδ β=>if h:∃r n,bX t g n δ β=on r then on h.choose else PH
theorem M4(h:bX t g n δ β=on r):gWh t g δ β=on r:=by
 have a:∃r n,bX t g n δ β=on r:=⟨r,n,h⟩;unfold gWh;rw[dif_pos a];obtain⟨m,hm⟩:=a.choose_spec;have c:=sU h (Nat.le_max_left n m);have b:=sU hm (Nat.le_max_right n m);rw[c]at b;rw[←QB b]
theorem Lf(h:gWh t g δ β=on r):∃n,bX t g n δ β=on r:=by
 unfold gWh at h;split at h
 ·rename_i a
  obtain⟨m,hm⟩:=a.choose_spec;cases h;exact⟨m,hm⟩
 ·cases h
section
variable{X:Cx}{E:St->XK}{e:Expr}{st:Rh}{sts:List Rh}{pos:UL}{K:Qp}
theorem Kt(T:YV (QA X.prog X.w) X.A X.env X.xe)(U:PT X c (tVT X.K t E))(W:PSs X body (tG X.K X.H₀ g E)):PS X (.While c body [] pos) (tG X.K X.H₀ (gWh t g) E):=(CV T U W).imp λD σ H Y=>by
 obtain⟨B,bg,δ,β,o,l,ok,e,q⟩:=Y;obtain⟨n,e⟩:=Lf e;refine⟨λm u P=>∃j δ1 β1,Stp B H j P/\SOk X.K X.H₀ j bg P δ1 β1 u/\bX t g m δ1 β1=on (o,l),⟨n,B,δ,β,Stp.refl B H,ok,e⟩,?_⟩;rintro m u P ⟨j,δ1,β1,r,h,f⟩;refine⟨FxA j bg,vwA δ1,β1,h.frA,h.viewA,?_⟩;cases m with
 |zero=>cases f
 |succ m=>
  unfold bX at f;split at f
  ·rename_i β2 y
   refine⟨.ok PP,_,y,λv N tt hd=>?_⟩;subst hd;obtain⟨b,k⟩:=h.to rfl tt;rw[P6 rfl];refine⟨λF Q=>∃O a β3,Stp B H O Q/\SOk X.K X.H₀ O bg Q a β3 F/\bX t g m a β3=on (o,l),λF Q ⟨O,a,β3,z⟩=>⟨m,VC m,O,a,β3,z⟩,?_⟩;split at f
   ·rename_i a β3 I
    exact⟨j,bg,δ1,β2,.nx a,β3,b,I,λp J R L i=>⟨J,a,β3,r.trans (k.trans L),i,f⟩⟩
   ·rename_i a β3 I
    exact⟨j,bg,δ1,β2,.ct a,β3,b,I,λp J R L i=>⟨J,a,β3,r.trans (k.trans L),i,f⟩⟩
   ·rename_i a β3 I
    cases f;exact⟨j,bg,δ1,β2,.bk a,_,b,I,λp J R L i=>q p J R (r.trans (k.trans L)) i⟩
   ·rename_i x Z h2 h3
    refine⟨j,bg,δ1,β2,o,l,b,f,?_⟩;have q2:=gM.pre (r.trans k) q;cases o with
    |nx a=>exact Qu f (Z _ _)
    |ct a=>exact Qu f (h2 _ _)
    |bk a=>exact Qu f (h3 _ _)
    |rt d=>exact q2
    |rg d=>exact q2
    |ex C a=>exact q2
  ·rename_i β2 y
   cases f;refine⟨.ok PU,_,y,λv N tt hd=>?_⟩;subst hd;obtain⟨b,k⟩:=h.to rfl tt;rw[P0 P8];exact q _ j N (r.trans k) b
  ·rename_i C β2 y
   cases f;refine⟨.error C,_,y,λN tt=>?_⟩;obtain⟨b,k⟩:=h.to rfl tt;exact q _ j N (r.trans k) b
  ·cases f
noncomputable def gLp(tg:TgS)(g:G):List D->G
 |[],δ,β=>on (.nx δ,β)
 |d::ds,δ,β=>match tg d δ with
  |none=>PH
  |some δ1=>match g δ1 β with
   |some (.nx δ2,β2)=>gLp tg g ds δ2 β2
   |some (.ct δ2,β2)=>gLp tg g ds δ2 β2
   |some (.bk δ2,β2)=>on (.nx δ2,β2)
   |r=>r
def yo(it:FL)(tg:TgS)(g:G):G:=λδ β=>match it (vw δ) β with
 |some (.ok ds,β1)=>gLp tg g ds δ β1
 |some (.error C,β1)=>on (.ex C δ,β1)
 |none=>PH
theorem bw(l:qR X.K tgg tg)(h:PS X (.For tgt iter body [] pos) (LM (iV X.K it E) tgg (tG X.K X.H₀ g E))):PS X (.For tgt iter body [] pos) (tG X.K X.H₀ (yo it tg g) E):=h.imp λD σ H h_=>by
 obtain⟨B,bg,δ,β,o,y,ok,e,q⟩:=h_;refine⟨FxB B bg,vw δ,β,ok.fr,ok.view,?_⟩;unfold yo at e;split at e
 ·rename_i ds β1 U
  refine⟨.ok ds,_,U,λJ W t hJ=>?_⟩;obtain⟨Y,Z⟩:=ok.to rfl t;refine⟨λi m n F=>m+i=ds.length/\∃k p β2,Stp B W k F/\SOk X.K X.H₀ k bg F p β2 n/\gLp tg g (ds.drop i) p β2=on (o,y),⟨ds.length,by omega,B,δ,β1,Stp.refl B W,Y,e⟩,?_⟩;rintro i m n F ⟨hm,k,p,β2,I,c,b⟩;obtain⟨iy,is⟩:=hJ (FxB k bg) F β2 I.tr c.fr i;cases Q:ds[i]? with
  |none=>
   have R:ds.length<=i:=Vb.mp Q;rw[R3 R]at b;cases b;exact .inl ⟨is (by omega),q n k F (Z.trans I) c⟩
  |some d=>
   have R:i<ds.length:=(P9.mp Q).1;obtain⟨go,yl⟩:=iy d Q;have ed:ds.drop i=d::ds.drop (i+1):=by
    rw[QT R];congr 1;exact QB ((PM R).symm.trans Q)
   rw[ed]at b;unfold gLp at b;split at b
   ·cases b
   ·rename_i f e3
    refine .inr ⟨go,λL H9=>∃T r u,Stp B W T H9/\SOk X.K X.H₀ T bg H9 r u L/\gLp tg g (ds.drop (i+1)) r u=on (o,y),λL H9 ⟨T,r,u,z1,z2,z3⟩=>⟨m-1,by omega,by omega,T,r,u,z1,z2,z3⟩,λx H3 hy=>?_⟩;obtain⟨sm,dx⟩:=yl x H3 hy;obtain⟨ok3,s3⟩:=c.to rfl (c.fr.same sm);refine l X.H₀ k bg H3 p f β2 n d x _ ok3 dx e3 λσ4 v=>?_;have w:=I.trans s3;split at b
    ·rename_i a β5 N
     exact⟨k,bg,f,β2,.nx a,β5,v,N,λA O H6 P j=>⟨O,a,β5,w.trans P,j,b⟩⟩
    ·rename_i a β5 N
     exact⟨k,bg,f,β2,.ct a,β5,v,N,λA O H6 P j=>⟨O,a,β5,w.trans P,j,b⟩⟩
    ·rename_i a β5 N
     cases b;exact⟨k,bg,f,β2,.bk a,_,v,N,λA O H6 P j=>q A O H6 (Z.trans (w.trans P)) j⟩
    ·rename_i x h1 h2 h3
     refine⟨k,bg,f,β2,o,y,v,b,?_⟩;have q2:=gM.pre (Z.trans w) q;cases o with
     |nx a=>exact Qu b (h1 _ _)
     |ct a=>exact Qu b (h2 _ _)
     |bk a=>exact Qu b (h3 _ _)
     |rt d=>exact q2
     |rg d=>exact q2
     |ex C a=>exact q2
 ·rename_i C β1 U
  cases e;refine⟨.error C,_,U,λH' t=>?_⟩;obtain⟨c,I⟩:=ok.to rfl t;exact q _ B H' I c
 ·cases e
theorem SOk.newOwn{δ:Ds}{Q:St}(ok:SOk K H₀ B bg H δ β Q)(g:H p=PH)(hd:DenL K (FxB B bg) H ds xs):
  SOk K H₀ (λa=>if a=p then on (i+2)else B a) bg (upd H p (.lst xs)) (δ.set i (on (.own ds))) β (Q.set i (on (.ref p)))/\Stp B H (λa=>if a=p then on (i+2)else B a) (upd H p (.lst xs)):=by
 have hB:B p=PH:=by
  cases q:B p with
  |none=>rfl
  |some t=>exact Qu g (ok.fr.occ p (by show B p≠PH;rw[q];simp))
 have m:Stp B H (λa=>if a=p then on (i+2)else B a) (upd H p (.lst xs)):=by
  refine⟨λa o h _=>by rw[upd_ne (aA h g)];exact h,λa h=>?_,λa o h n=>?_,?_⟩
  ·have:a≠p:=λz=>by subst z;rw[hB]at h;rcases h with h|h<;>cases h
   simp only[P0 this]
  ·simp only[P0 (aA h g)];exact n
  ·exact λa ha=>by
    by_cases z:a=p
    ·subst z;rw[aq];simp
    ·rw[upd_ne z];exact ha
 have tr:Tr (FxB B bg) H (FxB (λa=>if a=p then on (i+2)else B a) bg) (upd H p (.lst xs)):=m.tr;have I:∀b l,bg=on (b,l)->b≠p/\l≠p:=λb l e=>by
  obtain⟨b1,b2⟩:=ok.bgt b l e;exact⟨λz=>(by subst z;rw[hB]at b1;cases b1),λz=>(by subst z;rw[hB]at b2;cases b2)⟩
 refine⟨⟨⟨λa ha z=>?_,λb l e=>?_,λb l e=>?_⟩,λb l e=>?_,by rw[Q3,Q3,ok.len],λa ha=>m.al a (ok.cov a ha),λc k J=>(by
  have f:(if c=p then on (i+2)else B c)=on (k+2):=J;by_cases z:c=p
  ·cases w:H₀ c with
   |none=>rfl
   |some o=>exact Qu (z▸g) (ok.cov c (by rw[w];simp))
  ·rw[P0 z]at f;exact ok.new c k f),λc k J=>(by
  have f:(if c=p then on (i+2)else B c)=on (k+2):=J;by_cases z:c=p
  ·subst z;exact⟨xs,aq⟩
  ·rw[P0 z]at f;rw[upd_ne z];exact ok.lst c k f),λj s e=>?_⟩,m⟩
 ·by_cases q:a=p
  ·subst q;rw[aq]at z;cases z
  ·rw[upd_ne q]at z
   have u:(if a=p then on (i+2)else B a)≠PH:=ha;rw[P0 q]at u;exact ok.fr.occ a u z
 ·obtain⟨y,A⟩:=I b l e
  obtain⟨b1,b2⟩:=ok.bgt b l e;refine⟨?_,?_,(ok.fr.bgA b l e).2.2⟩
  ·show(if b=p then on (i+2)else B b)≠PH
   rw[P0 y,b1];simp
  ·show(if l=p then on (i+2)else B l)≠PH
   rw[P0 A,b2];simp
 ·obtain⟨y,A⟩:=I b l e
  rw[upd_ne y,upd_ne A];exact ok.fr.bag b l e
 ·obtain⟨y,A⟩:=I b l e
  simp only[P0 y,P0 A];exact ok.bgt b l e
 ·rw[Ra]at e
  rw[Ra];by_cases q:i=j
  ·subst q
   rw[P6 rfl]at e⊢;split at e
   ·rename_i R
    cases e;rw[P6 (by rw[←ok.len];exact R)];exact⟨_,rfl,p,xs,rfl,P6 rfl,aq,DenL.tr tr _ _ hd⟩
   ·cases e
  ·rw[P0 q]at e⊢
   obtain⟨v,T,L⟩:=ok.tell j s e;refine⟨v,T,?_⟩;cases s with
   |sh d=>exact Den.tr tr _ _ L
   |own cs=>
    obtain⟨a,ys,N,O,C,P⟩:=L;have F:=aA C g;exact⟨a,ys,N,by simp only[P0 F];exact O,by rw[upd_ne F];exact C,DenL.tr tr _ _ P⟩
   |grd rows=>
    obtain⟨a,rs,N,O,C,P,U⟩:=L;have F:=aA C g;exact⟨a,rs,N,by simp only[P0 F];exact O,by rw[upd_ne F];exact C,P,RowL.tr tr U λr W _ p q=>⟨by simp only[P0 (aA q g)];exact p,by rw[upd_ne (aA q g)];exact q⟩⟩
theorem SOk.writeOwn{δ:Ds}(ok:SOk K H₀ B bg H δ β σ)(hs:σ[i]?=on (on (.ref a)))(hB:B a=on (i+2))(ha:H a=on (.lst ys))(hd:DenL K (FxB B bg) H ds xs):
  SOk K H₀ B bg (upd H a (.lst xs)) (δ.set i (on (.own ds))) β σ/\Stp B H B (upd H a (.lst xs)):=by
 have g:Stp B H B (upd H a (.lst xs)):=by
  refine⟨λc o h n=>?_,λ_ _=>rfl,λ_ _ _ n=>n,λc m=>?_⟩
  ·rw[upd_ne]
   ·exact h
   ·intro z;subst z;rw[hB]at n;rcases n with n|n<;>cases n
  ·by_cases z:c=a
   ·subst z;rw[aq];simp
   ·rw[upd_ne z];exact m
 have tr:Tr (FxB B bg) H (FxB B bg) (upd H a (.lst xs)):=g.tr;refine⟨⟨⟨λc m z=>?_,ok.fr.bgA,λb l e=>?_⟩,ok.bgt,by rw[Q3,ok.len],λa ha=>g.al a (ok.cov a ha),ok.new,λc k m=>(by
  by_cases z:c=a
  ·subst z;exact⟨xs,aq⟩
  ·rw[upd_ne z];exact ok.lst c k m),λj s e=>?_⟩,g⟩
 ·by_cases q:c=a
  ·subst q;rw[aq]at z;cases z
  ·rw[upd_ne q]at z;exact ok.fr.occ c m z
 ·obtain⟨b1,b2⟩:=ok.bgt b l e
  rw[upd_ne (λz=>by subst z;rw[hB]at b1;cases b1),upd_ne (λz=>by subst z;rw[hB]at b2;cases b2)];exact ok.fr.bag b l e
 ·rw[Ra]at e
  by_cases q:i=j
  ·subst q
   rw[P6 rfl]at e;split at e
   ·cases e
    exact⟨_,hs,a,xs,rfl,hB,aq,DenL.tr tr _ _ hd⟩
   ·cases e
  ·rw[P0 q]at e
   obtain⟨v,F,u⟩:=ok.tell j s e;refine⟨v,F,?_⟩;cases s with
   |sh d=>exact Den.tr tr _ _ u
   |own cs=>
    obtain⟨c,C,w,f,y,A⟩:=u;have t:c≠a:=λz=>by subst z;rw[hB]at f;cases f;exact q rfl
    exact⟨c,C,w,f,by rw[upd_ne t];exact y,DenL.tr tr _ _ A⟩
   |grd rows=>
    obtain⟨c,rs,w,f,y,A,I⟩:=u;have t:∀c,B c=on (j+2)->c≠a:=λc f z=>by subst z;rw[hB]at f;cases f;exact q rfl
    exact⟨c,rs,w,f,by rw[upd_ne (t c f)];exact y,A,RowL.tr tr I λr C _ p q=>⟨p,by rw[upd_ne (t r p)];exact q⟩⟩
def yn(i:Nat)(f:FL):G:=λδ β=>match f (vw δ) β with
 |some (.ok ds,β1)=>if ds.length<=Qk then on (.nx (δ.set i (on (.own ds))),β1)else PH
 |some (.error C,β1)=>on (.ex C δ,β1)
 |none=>PH
theorem nu(h:PS X st (jL (LK (tVA X.K f E)) (fS i))):PS X st (tG X.K X.H₀ (yn i f) E):=h.imp λD r H j=>by
 obtain⟨B,bg,δ,β,o,k,ok,e,q⟩:=j;refine⟨FxB B bg,vw δ,β,ok.fr,ok.view,?_⟩;unfold yn at e;split at e
 ·rename_i ds β1 b
  split at e
  ·rename_i l
   cases e;refine⟨.ok ds,_,b,λvs g t hd=>⟨by rw[←hd.length];exact l,λp m=>?_⟩⟩;obtain⟨a,c⟩:=ok.to rfl t;obtain⟨d,n⟩:=a.newOwn (i:=i) m hd;exact q _ _ _ (c.trans n) d
  ·cases e
 ·rename_i C β1 b
  cases e;refine⟨.error C,_,b,λg t=>?_⟩;obtain⟨a,c⟩:=ok.to rfl t;exact q _ B g c a
 ·cases e
def yq(i:Nat)(f:FL):G:=λδ β=>match δ.getD i PH with
 |some (.own cs)=>match f (vw δ) β with
  |some (.ok [d],β1)=>if cs.length<Qk then on (.nx (δ.set i (on (.own (cs++[d])))),β1)else PH
  |some (.error C,β1)=>on (.ex C δ,β1)
  |_=>PH
 |_=>PH
theorem getD_some{α:Type}{δ:List (Option α)}{i:Nat}{s:α}(h:δ.getD i PH=on s):δ[i]?=on (on s):=by
 rw[PR]at h;cases z:δ[i]? with
 |none=>rw[z]at h;cases h
 |some w=>rw[z]at h;simp at h;rw[h]
theorem nz(h:PS X st (xH (tBM X.K "list" wC (q8 i) (tVA X.K f E)))):PS X st (tG X.K X.H₀ (yq i f) E):=h.imp λD P H y=>by
 obtain⟨B,bg,δ,β,o,A,ok,e,q⟩:=y;unfold yq at e;split at e
 ·rename_i cs u
  obtain⟨v,l,a,ys,rfl,F,I,Q⟩:=ok.tell i _ (getD_some u);refine⟨_,l,.inl ⟨rfl,ys,SqL.of I⟩,FxB B bg,vw δ,β,ok.fr,ok.view,?_⟩;split at e
  ·rename_i d β1 m
   split at e
   ·rename_i J
    cases e;refine⟨.ok [d],_,m,λvs w t hd=>?_⟩;obtain⟨b,n⟩:=ok.to rfl t;obtain⟨v,rfl,L⟩:=DenL.one hd;obtain⟨R,c,T,g,p,N,j,k⟩:=b.tell i _ (getD_some u);rw[l]at c;cases c;cases p;refine⟨a,g,v,rfl,rfl,j,by rw[←k.length];exact J,?_⟩;obtain⟨r,O⟩:=b.writeOwn (ds:=cs++[d]) (xs:=g++[v]) l F j (DenL.append k (DenL.cons L DenL.nil));exact q _ _ _ (n.trans O) r
   ·cases e
  ·rename_i C β1 m
   cases e;refine⟨.error C,_,m,λw t=>?_⟩;obtain⟨b,n⟩:=ok.to rfl t;exact q _ B w n b
  ·cases e
 ·cases e
noncomputable def fz(i:Nat)(δ:Ds):Ds:=match δ.getD i PH with
 |some (.own ds)=>δ.set i (on (.sh (.lst ds)))
 |some (.grd rows)=>δ.set i (on (.sh (.lst (rows.map D.lst))))
 |_=>δ
theorem SOk.freeze(i:Nat)(ok:SOk K H₀ B bg H δ β σ):∃U,SOk K H₀ U bg H (fz i δ) β σ/\Stp B H U H:=by
 unfold fz;split
 ·rename_i ds L
  obtain⟨v,N,a,ys,O,t,P,Y⟩:=ok.tell i _ (getD_some L);have g:Stp B H (λc=>if c=a then PH else B c) H:=by
   refine⟨λ_ _ h _=>h,λc hc=>?_,λc o h n=>?_,λ_ h=>h⟩
   ·have:c≠a:=λz=>by subst z;rw[t]at hc;rcases hc with hc|hc<;>cases hc
    simp only[P0 this]
   ·by_cases z:c=a
    ·simp only[P6 z]
    ·simp only[P0 z];exact n
  have tr:Tr (FxB B bg) H (FxB (λc=>if c=a then PH else B c) bg) H:=g.tr;have F:∀b l,bg=on (b,l)->b≠a/\l≠a:=λb l e=>by
   obtain⟨b1,b2⟩:=ok.bgt b l e;exact⟨λz=>(by subst z;rw[t]at b1;cases b1),λz=>(by subst z;rw[t]at b2;cases b2)⟩
  refine⟨λc=>if c=a then PH else B c,⟨⟨λc hc=>ok.fr.occ c ?_,λb l e=>?_,ok.fr.bag⟩,λb l e=>?_,by rw[Q3,ok.len],ok.cov,λc k hc=>(by
   have f:(if c=a then PH else B c)=on (k+2):=hc;split at f
   ·cases f
   ·exact ok.new c k f),λc k hc=>(by
   have f:(if c=a then PH else B c)=on (k+2):=hc;split at f
   ·cases f
   ·exact ok.lst c k f),λj s e=>?_⟩,g⟩
  ·have f:(if c=a then PH else B c)≠PH:=hc
   split at f
   ·exact Qu rfl f
   ·exact f
  ·obtain⟨u,w⟩:=F b l e
   obtain⟨b1,b2⟩:=ok.bgt b l e;refine⟨?_,?_,(ok.fr.bgA b l e).2.2⟩
   ·show(if b=a then PH else B b)≠PH
    rw[P0 u,b1];simp
   ·show(if l=a then PH else B l)≠PH
    rw[P0 w,b2];simp
  ·obtain⟨u,w⟩:=F b l e
   simp only[P0 u,P0 w];exact ok.bgt b l e
  ·rw[Ra]at e
   by_cases q:i=j
   ·subst q
    rw[P6 rfl]at e;split at e
    ·cases e
     refine⟨_,N,a,ys,O,⟨λz=>?_,.inl P⟩,DenL.tr tr _ _ Y⟩;have I:(if a=a then PH else B a)≠PH:=z;rw[P6 rfl]at I;exact I rfl
    ·cases e
   ·rw[P0 q]at e
    obtain⟨Q,R,y⟩:=ok.tell j s e;refine⟨Q,R,?_⟩;cases s with
    |sh d=>exact Den.tr tr _ _ y
    |own cs=>
     obtain⟨c,J,d1,d2,d3,C⟩:=y;have m:c≠a:=λz=>by subst z;rw[t]at d2;cases d2;exact q rfl
     exact⟨c,J,d1,by simp only[P0 m];exact d2,d3,DenL.tr tr _ _ C⟩
    |grd rows=>
     obtain⟨c,rs,d1,d2,d3,C,T⟩:=y;have m:∀c,B c=on (j+2)->c≠a:=λc d2 z=>by subst z;rw[t]at d2;cases d2;exact q rfl
     exact⟨c,rs,d1,by simp only[P0 (m c d2)];exact d2,d3,C,RowL.tr tr T λr J _ p q=>⟨by simp only[P0 (m r p)];exact p,q⟩⟩
 ·rename_i rows L
  classical
  obtain⟨v,N,a,rs,O,t,P,nd,W⟩:=ok.tell i _ (getD_some L);have own:∀c,c=a\/c∈rs->B c=on (i+2):=λc hc=>by
   rcases hc with rfl|hc
   ·exact t
   ·exact(W.all c hc).1
  have g:Stp B H (λc=>if c=a\/c∈rs then PH else B c) H:=by
   refine⟨λ_ _ h _=>h,λc hc=>?_,λc o h n=>?_,λ_ h=>h⟩
   ·have:¬(c=a\/c∈rs):=λz=>by rw[own c z]at hc;rcases hc with hc|hc<;>cases hc
    simp only[P0 this]
   ·by_cases z:c=a\/c∈rs
    ·simp only[P6 z]
    ·simp only[P0 z];exact n
  have tr:Tr (FxB B bg) H (FxB (λc=>if c=a\/c∈rs then PH else B c) bg) H:=g.tr;have F:∀b l,bg=on (b,l)->¬(b=a\/b∈rs)/\¬(l=a\/l∈rs):=λb l e=>by
   obtain⟨b1,b2⟩:=ok.bgt b l e;exact⟨λz=>(by rw[own b z]at b1;cases b1),λz=>(by rw[own l z]at b2;cases b2)⟩
  have free:∀c,c=a\/c∈rs->¬(FxB (λc=>if c=a\/c∈rs then PH else B c) bg).A c:=λc hc z=>by
   have I:(if c=a\/c∈rs then PH else B c)≠PH:=z;rw[P6 hc]at I;exact I rfl
  refine⟨λc=>if c=a\/c∈rs then PH else B c,⟨⟨λc hc=>ok.fr.occ c ?_,λb l e=>?_,ok.fr.bag⟩,λb l e=>?_,by rw[Q3,ok.len],ok.cov,λc k hc=>(by
   have f:(if c=a\/c∈rs then PH else B c)=on (k+2):=hc;split at f
   ·cases f
   ·exact ok.new c k f),λc k hc=>(by
   have f:(if c=a\/c∈rs then PH else B c)=on (k+2):=hc;split at f
   ·cases f
   ·exact ok.lst c k f),λj s e=>?_⟩,g⟩
  ·have f:(if c=a\/c∈rs then PH else B c)≠PH:=hc
   split at f
   ·exact Qu rfl f
   ·exact f
  ·obtain⟨u,w⟩:=F b l e
   obtain⟨b1,b2⟩:=ok.bgt b l e;refine⟨?_,?_,(ok.fr.bgA b l e).2.2⟩
   ·show(if b=a\/b∈rs then PH else B b)≠PH
    rw[P0 u,b1];simp
   ·show(if l=a\/l∈rs then PH else B l)≠PH
    rw[P0 w,b2];simp
  ·obtain⟨u,w⟩:=F b l e
   simp only[P0 u,P0 w];exact ok.bgt b l e
  ·rw[Ra]at e
   by_cases q:i=j
   ·subst q
    rw[P6 rfl]at e;split at e
    ·cases e
     exact⟨_,N,a,_,O,⟨free a (.inl rfl),.inl P⟩,RowL.den tr W λr Z _=>free r (.inr Z)⟩
    ·cases e
   ·rw[P0 q]at e
    obtain⟨Q,R,y⟩:=ok.tell j s e;refine⟨Q,R,?_⟩;have m:∀c,B c=on (j+2)->¬(c=a\/c∈rs):=λc d2 z=>by rw[own c z]at d2;cases d2;exact q rfl
    cases s with
    |sh d=>exact Den.tr tr _ _ y
    |own cs=>
     obtain⟨c,J,d1,d2,d3,C⟩:=y;exact⟨c,J,d1,by simp only[P0 (m c d2)];exact d2,d3,DenL.tr tr _ _ C⟩
    |grd rows2=>
     obtain⟨c,qs,d1,d2,d3,C,T⟩:=y;exact⟨c,qs,d1,by simp only[P0 (m c d2)];exact d2,d3,C,RowL.tr tr T λr J _ p q=>⟨by simp only[P0 (m r p)];exact p,q⟩⟩
 ·exact⟨B,ok,Stp.refl B H⟩
noncomputable def fzG(i:Nat)(g:G):G:=λδ β=>g (fz i δ) β
theorem LX(i:Nat)(h:PSs X sts (tG X.K X.H₀ g E)):PSs X sts (tG X.K X.H₀ (fzG i g) E):=h.imp λD f H c=>by
 obtain⟨B,bg,δ,β,o,a,ok,e,q⟩:=c;obtain⟨d,b,s⟩:=ok.freeze i;exact⟨d,bg,fz i δ,β,o,a,b,e,gM.pre s q⟩
noncomputable def stD(n:Nat)(ds:List D):Ds:=ds.map (λd=>on (Sl.sh d))++Qm (n-ds.length) PH
def c8(n:Nat)(g:G):List D->M D:=λds β=>match g (stD n ds) β with
 |some (.rt d,β')=>on (.ok d,β')
 |some (.nx _,β')=>on (.ok .non,β')
 |some (.ex C _,β')=>on (.error C,β')
 |_=>PH
theorem uD{F:Fx}{N:List QN}(fr:Fr F H β)(hd:DenL K F H ds vs):∃B,SOk K H B F.bg H (stD N.length ds) β (fK N vs)/\(∀a,F.A a->B a=on 0\/B a=on 1)/\(∀a,B a=on 1->∃b l,F.bg=on (b,l)/\(a=b\/a=l))/\(∀a,B a≠PH->F.A a):=by
 classical
 refine⟨λa=>if F.A a then(if ∃b l,F.bg=on (b,l)/\(a=b\/a=l)then on 1 else on 0)else PH,⟨⟨λa ha=>fr.occ a ?_,λb l e=>?_,fr.bag⟩,λb l e=>?_,?_,λ_ h=>h,λc k m=>(by
  have f:(if F.A c then(if ∃b l,F.bg=on (b,l)/\(c=b\/c=l)then on 1 else on 0)else PH)=on (k+2):=m;split at f
  ·split at f<;>cases f
  ·cases f),λc k m=>(by
  have f:(if F.A c then(if ∃b l,F.bg=on (b,l)/\(c=b\/c=l)then on 1 else on 0)else PH)=on (k+2):=m;split at f
  ·split at f<;>cases f
  ·cases f),λi s e=>?_⟩,λa ha=>?_,λa ha=>?_,λa ha=>?_⟩
 ·have g:(if F.A a then(if ∃b l,F.bg=on (b,l)/\(a=b\/a=l)then on 1 else on 0)else PH)≠(PH:Option Nat):=ha
  split at g
  ·assumption
  ·exact Qu rfl g
 ·obtain⟨a1,a2,a3⟩:=fr.bgA b l e
  refine⟨?_,?_,a3⟩
  ·show(if F.A b then(if ∃j l,F.bg=on (j,l)/\(b=j\/b=l)then on 1 else on 0)else PH)≠(PH:Option Nat)
   rw[P6 a1];split<;>simp
  ·show(if F.A l then(if ∃j p,F.bg=on (j,p)/\(l=j\/l=p)then on 1 else on 0)else PH)≠(PH:Option Nat)
   rw[P6 a2];split<;>simp
 ·obtain⟨a1,a2,a3⟩:=fr.bgA b l e
  exact⟨by rw[P6 a1,P6 ⟨b,l,e,.inl rfl⟩],by rw[P6 a2,P6 ⟨b,l,e,.inr rfl⟩]⟩
 ·unfold stD fK
  rw[Qh,Qh,PF,PF,Ru,Ru,hd.length]
 ·unfold stD at e
  unfold fK;rw[VX,PF]at e;rw[VX,PF,←hd.length];by_cases n:i<ds.length
  ·rw[P6 n,PV]at e
   rw[P6 n,PV];cases z:ds[i]? with
   |none=>rw[z]at e;cases e
   |some d=>
    rw[z]at e;cases e;obtain⟨v,r,t⟩:=hd.get z;refine⟨v,by rw[r];rfl,?_⟩;have o:Tr F H (FxB (λa=>if F.A a then(if ∃b l,F.bg=on (b,l)/\(a=b\/a=l)then on 1 else on 0)else PH) F.bg) H:=by
     refine⟨λa ha _ u=>?_,λ_ _ _ h=>h,rfl⟩;have q:(if F.A a then(if ∃b l,F.bg=on (b,l)/\(a=b\/a=l)then on 1 else on 0)else PH)≠(PH:Option Nat):=u;rw[P0 ha]at q;exact q rfl
    exact Den.tr o _ _ t
  ·rw[P0 n,Sw]at e
   split at e<;>cases e
 ·simp only[P6 ha]
  split
  ·exact .inr rfl
  ·exact .inl rfl
 ·simp only at ha
  split at ha
  ·split at ha
   ·assumption
   ·cases ha
  ·cases ha
 ·simp only at ha
  split at ha
  ·assumption
  ·exact Qu rfl ha
variable{P:QD}{w:QS}{mg:QN->Option PY}{base:Rl}
theorem Lh{st:Rh}{N ps:List QN}(F:FunD K x qual st f fd)(S:FnScope N ps (ag st))
  (y:∀(j:PY) (A:Rg) (outer:List WV) (s:P7) (H:Hp) (E:XK),Room k (A.deeper (Uz qual (ag st) s.heap.objs.size f j))->
   PSs (fW (CXE P w) P w K mg base N qual (ag st) f j A outer s H E) (cK st) (tG K H g (λ_=>E))):FnOk P w K mg base (CXE P w) (k+1) f fd ps (spF K ps.length (c8 N.length g)):=by
 refine F.okE S (λvs H Q E h=>h.1) λj A outer s H vs Q E Y h=>?_;obtain⟨hl,p,ds,β,fr,hd,r,i,e,h⟩:=h;refine⟨_,y j A outer s H E Y,?_⟩;obtain⟨B,ok,T,Z,hn⟩:=uD (N:=N) fr hd;have I:∀{u:Ow} {c:Hp},Stp B H u c->Fr (FxB u p.bg) c i->To p H c i/\Tr (FxB u p.bg) c p c:=λ{u c} s m=>by
  have hs:∀a,p.A a->u a≠PH:=λa ha=>by
   rw[s.tg a (T a ha)];rcases T a ha with z|z<;>rw[z]<;>simp
  refine⟨⟨λa o ha n=>s.kp a o ha ?_,λa ha=>m.occ a (hs a ha),λb l e=>fr.bgA b l e,m.bag⟩,λa ha _ z=>ha (hs a z),λ_ _ _ h=>h,rfl⟩;cases q:B a with
  |none=>exact .inl rfl
  |some t=>
   have:=T a (hn a (by rw[q];simp));rcases this with z|z
   ·rw[q]at z;exact .inr z
   ·obtain⟨b,l,e,w⟩:=Z a z
    obtain⟨n1,n2⟩:=n b l e;rcases w with w|w
    ·exact Qu w n1
    ·exact Qu w n2
 unfold c8 at e;split at e
 ·rename_i d β1 O
  cases e;refine⟨B,p.bg,stD N.length ds,β,.rt d,i,ok,O,λv u c s m hv=>?_⟩;obtain⟨R,U⟩:=I s m;exact h v c R (Den.tr U _ _ hv)
 ·rename_i J β1 O
  cases e;refine⟨B,p.bg,stD N.length ds,β,.nx J,i,ok,O,λW u c s L=>?_⟩;obtain⟨R,U⟩:=I s L.fr;exact h _ c R rfl
 ·rename_i C J β1 O
  cases e;refine⟨B,p.bg,stD N.length ds,β,.ex C J,i,ok,O,λW u c s L=>?_⟩;obtain⟨R,U⟩:=I s L.fr;exact h c R
 ·cases e
variable{prog:QD}{A:Rg}
theorem Px(l:A.handled=PH)(it t:PX)(ne:t≠it)(b:Array PY):Xj prog w A it [it,t] b.size (λi v=>b[i]?=on v) (λi h=>h.IsTupleIter it t i/\h.IsTuple t b) where
 live:=λ_ _ st=>let ⟨o,e,_⟩:=st.1;⟨o,e⟩
 frame:=λ_ _ _ st k=>⟨st.1.at λo e=>k it (by simp) o e,by
  obtain⟨o,e,r⟩:=st.2;exact⟨o,k t (by simp) o e,r⟩⟩
 item:=λi s Q E p st q=>by
  obtain⟨o,d,co,c⟩:=id st.1;obtain⟨n,f,_,nt,g⟩:=st.2;have j:b[i]?=on b[i]:=by simp[p]
  unfold R0;refine My (wpAny_callSpecial?_slot (name:=Su "__next__") st.1.typeIs TM (Q1 TM st.1.typeIs Xk ?_ (Xc _)));show Qi _ _ (Y4 (.ref it) 0>>=_) _ _ _;refine My (RC d c (x:= .ref t) rfl ?_);show Qi _ _ (if(Qs t==Rc)=PP then _ else _) _ _ _;rw[P0 (show ¬((Qs t==Rc)=PP)from P8)];show Qi _ _ (Y4 (.ref it) 1>>=_) _ _ _;refine My (RC d c (x:= .int i 0) rfl ?_);show Qi _ _ (seqItems? (.ref t)>>=_) _ _ _;refine My (R1 f g ?_);simp only[Rz,j];refine My (UE d c (by simp) (PL ⟨b[i],rfl,PL (q _ _ s.toks j ⟨?_,?_⟩ (RI ..))⟩))
  ·exact⟨_,Tp _ d (VT (Sk c _)),(Wz ..).trans co,by rw[Sk c];simp[UD]⟩
  ·exact⟨n,(RI ..).extBut _ _ ne f,by assumption,nt,g⟩
 done:=λs Q E st u=>by
  obtain⟨o,d,co,c⟩:=id st.1;obtain⟨n,f,_,nt,g⟩:=st.2;have j:b[b.size]?=PH:=by simp
  unfold R0;refine My (wpAny_callSpecial?_slot (name:=Su "__next__") st.1.typeIs TM (Q1 TM st.1.typeIs Xk ?_ (Xc _)));show Qi _ _ (Y4 (.ref it) 0>>=_) _ _ _;refine My (RC d c (x:= .ref t) rfl ?_);show Qi _ _ (if(Qs t==Rc)=PP then _ else _) _ _ _;rw[P0 (show ¬((Qs t==Rc)=PP)from P8)];show Qi _ _ (Y4 (.ref it) 1>>=_) _ _ _;refine My (RC d c (x:= .int b.size 0) rfl ?_);show Qi _ _ (seqItems? (.ref t)>>=_) _ _ _;refine My (R1 f g ?_);simp only[Rz,j];refine My (T0 (My (UE d c (by simp) ?_)));show Qi _ _ (Zi (.type "StopIteration") []>>=_) _ _ _;refine My ?_;simp only[Zi,newTuple];refine My (Rt ?_ (by size_fits));refine My (m:=UA _ _) (TZ (a:=Rc) (by first|rfl|(simp only[UA];rfl)) ?_);refine Rt ?_ (by size_fits)
  simp only[raiseNew];refine My (YJ ?_)
  first|rw[show A.in1.handled=PH from l]|rw[l];skip
  refine My (PL (wpAny_throw ?_));exact u _ _ (((RI ..).extBut.push _).push _) ⟨_,Qj _ rfl,rfl⟩
structure Ap (z TI TO i1 i2:PX) (f1 f2:List PX):Prop where
 a1:TI≠z
 a2:TO≠z
 a3:i1≠z
 a4:i2≠z
 a5:TI≠TO
 a6:TI≠i1
 a7:TI≠i2
 a8:TO≠i1
 a9:TO≠i2
 b1:i1≠i2
 c1:z∉f1
 c2:TO∉f1
 c3:i2∉f1
 d1:z∉f2
 d2:TO∉f2
 d3:i1∉f2
 m1:i1∈f1
 m2:i2∈f2
end
section
variable{prog:QD}{w:QS}{A:Rg}{E:PY->P7->Prop}{s:P7}
theorem cq{it:PX}{f:List PX}{h h':Rl}(a:QE it h h')(n:it∉f):∀b∈f,∀o,h.get? b=on o->h'.get? b=on o:=λb c o e=>a.extBut b o (λq=>n (q▸c)) e
theorem yI{z TI TO r t:PX}{f1 f2:List PX}{u B k:Nat}{P1 P2:Nat->PY->Prop}{W X:Nat->Rl->Prop}{a b:PY}{Q:PY->P7->Prop}(L:Xj prog w A r f1 u P1 W)(N:Xj prog w A t f2 B P2 X)(d:Ap z TI TO r t f1 f2)
  (P:VD s.heap z TI TO .none) (eI:Td s.heap TI (.ref r) (.ref t)) (eO:Td s.heap TO a b) (s1:W k s.heap) (s2:X k s.heap) (k1:k<u) (k2:k<B)
  (hQ:∀h' tk x y,P1 k x->P2 k y->VD h' z TI TO (UD s.heap.objs.size)->Td h' TO x y->W (k+1) h'->X (k+1) h'->Td h' s.heap.objs.size x y->h'.objs.size=s.heap.objs.size+1->(∀c o,c≠z->c≠TO->c≠r->c≠t->s.heap.get? c=on o->h'.get? c=on o)->Q (.ref s.heap.objs.size) {s with heap:=h',toks:=tk}):
  Qi (QA prog w) A (Builtin.«zip.__next__» ⟨[.ref z],[]⟩) (λZ s'=>∃v,Z= .done (.ret v)/\Q v s') E s:=by
 obtain⟨hp,gg,dd,tk0,os⟩:=s;show Qi _ _ (Y4 (.ref z) 2>>=_) _ _ _;refine My (RC P rfl (x:= .bool PU) rfl ?_);show Qi _ _ (Y4 (.ref z) 3>>=_) _ _ _;refine My (RC P rfl (x:= .ref TI) rfl ?_);refine My (R1 eI rfl ?_);show Qi _ _ (R7 (.ref z)>>=_) _ _ _;refine My ?_;unfold R7;refine My (RC P rfl (x:= .none) rfl (PL ?_));simp only[QY];refine My (T0 ?_);refine My (RC P rfl (x:= .ref TO) rfl ?_);refine My (RE P (by simp) λg1 C g=>?_)
 replace C:VD g1 z TI TO .ellipsis:=C
 replace g:QE z hp g1:=g
 refine My ?_;simp only[List.zipIdx_cons,List.zipIdx_nil,Th,Tv];refine My (My (WD ?_));show Qi _ _ (R0 (.ref r)>>=_) _ _ _;refine My (L.item k _ _ _ k1 (L.frame _ _ _ s1 (cq g d.c1)) λx g2 tk2 px st2 h=>PL ?_)
 replace h:QE r g1 g2:=h
 have R:Td g2 TO a b:=h.extBut _ _ d.a8 (g.extBut _ _ d.a2 eO);refine My (R1 R rfl ?_);refine My (Wn R λg3 F i=>?_)
 replace F:Td g3 TO x b:=F
 replace i:QE TO g2 g3:=i
 refine My (Xs (PL ?_));refine My (My (WD ?_));show Qi _ _ (R0 (.ref t)>>=_) _ _ _;refine My (N.item k _ _ _ k2 (N.frame _ _ _ (N.frame _ _ _ (N.frame _ _ _ s2 (cq g d.d1)) (cq h d.d3)) (cq i d.d2)) λy g4 tk4 py st4 j=>PL ?_)
 replace j:QE t g3 g4:=j
 have T:Td g4 TO x b:=j.extBut _ _ d.a9 F;refine My (R1 T rfl ?_);refine My (Wn T λf m l=>?_)
 replace m:Td f TO x y:=m
 replace l:QE TO g4 f:=l
 refine My (Xs (PL (PL ?_)));refine My (R1 m rfl ?_);refine My (Yc ?_);have zs:f.objs.size=hp.objs.size:=by rw[l.1,j.1,i.1,h.1,g.1]
 have U:VD f z TI TO .ellipsis:=l.extBut _ _ d.a2.symm (j.extBut _ _ d.a4.symm (i.extBut _ _ d.a2.symm (h.extBut _ _ d.a3.symm C)));have kp5:∀c o,c≠z->c≠TO->c≠r->c≠t->hp.get? c=on o->f.get? c=on o:=λc o u B n3 n4 e=>l.extBut _ _ B (j.extBut _ _ n4 (i.extBut _ _ B (h.extBut _ _ n3 (g.extBut _ _ u e))));have st1:W (k+1) f:=L.frame _ _ _ (L.frame _ _ _ (L.frame _ _ _ st2 (cq i d.c2)) (cq j d.c3)) (cq l d.c2);have st5:X (k+1) f:=N.frame _ _ _ st4 (cq l d.d2);have zl:z<f.objs.size:=Qz U;show Qi _ _ (UZ (.ref z) (.ref f.objs.size)>>=_) _ _ _;refine My ?_;unfold UZ;have ez6:VD (f.push {cls:= .type "tuple",data:= .seq #[x,y]}) z TI TO .ellipsis:=PQ _ U;refine My (RE ez6 (by simp) λg7 H I=>?_)
 replace H:VD g7 z TI TO (UD f.objs.size):=H
 refine RE H (by simp) λO p J=>?_
 replace p:VD O z TI TO (UD f.objs.size):=p
 have Y:∀c o,c≠z->f.get? c=on o->O.get? c=on o:=λc o n e=>J.extBut _ _ n (I.extBut _ _ n (PQ _ e));have eT:Td O f.objs.size x y:=J.extBut _ _ (Te zl) (I.extBut _ _ (Te zl) (Qj _ rfl));have z8:O.objs.size=f.objs.size+1:=by rw[J.1,I.1,RJ]
 rw[zs]at p eT z8;refine PL ⟨_,rfl,?_⟩;show Q (.ref f.objs.size) ⟨O,gg,dd,_,os⟩;rw[zs];exact hQ O _ x y px py p (Y _ _ d.a2 m) (L.frame _ _ _ st1 λb hb o e=>Y b o (λq=>d.c1 (q▸hb)) e) (N.frame _ _ _ st5 λb hb o e=>Y b o (λq=>d.d1 (q▸hb)) e) eT z8 λc o u B n3 n4 e=>Y c o u (kp5 c o u B n3 n4 e)
theorem BU{z TI TO n r:PX}{f1 f2:List PX}(H:Xj prog w A n f1 m P1 S1)(I:Xj prog w A r f2 T P2 S2)(i:Ap z TI TO n r f1 f2)
  (u:VD s.heap z TI TO .none) (Y:Td s.heap TI (.ref n) (.ref r)) (Z:Td s.heap TO a b) (U:S1 k s.heap) (s2:S2 k s.heap) (N:k=m\/(k<m/\k=T))
  (W:∀h' e tk,(∀c o,c≠z->c≠TO->c≠n->c≠r->s.heap.get? c=on o->h'.get? c=on o)->(∃o,h'.get? e=on o/\o.cls= .type "StopIteration")->E (.ref e) {s with heap:=h',toks:=tk}):
  Qi (QA prog w) A (Builtin.«zip.__next__» ⟨[.ref z],[]⟩) Q E s:=by
 obtain⟨hp,gg,dd,tk0,os⟩:=s;show Qi _ _ (Y4 (.ref z) 2>>=_) _ _ _;refine My (RC u rfl (x:= .bool PU) rfl ?_);show Qi _ _ (Y4 (.ref z) 3>>=_) _ _ _;refine My (RC u rfl (x:= .ref TI) rfl ?_);refine My (R1 Y rfl ?_);show Qi _ _ (R7 (.ref z)>>=_) _ _ _;refine My ?_;unfold R7;refine My (RC u rfl (x:= .none) rfl (PL ?_));simp only[QY];refine My (T0 ?_);refine My (RC u rfl (x:= .ref TO) rfl ?_);refine My (RE u (by simp) λJ j f=>?_)
 replace j:VD J z TI TO .ellipsis:=j
 replace f:QE z hp J:=f
 refine My ?_;simp only[List.zipIdx_cons,List.zipIdx_nil,Th,Tv];refine My (My (WD ?_));show Qi _ _ (R0 (.ref n)>>=_) _ _ _;rcases N with rfl|⟨N,rfl⟩
 ·refine My (H.done _ _ _ (H.frame _ _ _ U (cq f i.c1)) λt e d O=>?_)
  replace d:WF n J t:=d
  obtain⟨P,h,v⟩:=O;have y:VD t z TI TO .ellipsis:=d _ _ i.a3.symm j;have p:e≠z:=λq=>by subst q;rw[y]at h;cases h;simp at v
  exact RE y (by simp) λL _ g=>W L e _ (λc o m _ R _ q=>g.extBut _ _ m (d _ _ R (f.extBut _ _ m q))) ⟨P,g.extBut _ _ p h,v⟩
 ·refine My (H.item k _ _ _ N (H.frame _ _ _ U (cq f i.c1)) λx t tk2 px st2 d=>PL ?_)
  replace d:QE n J t:=d
  have B:Td t TO a b:=d.extBut _ _ i.a8 (f.extBut _ _ i.a2 Z);refine My (R1 B rfl ?_);refine My (Wn B λL eO3 g=>?_)
  replace g:QE TO t L:=g
  refine My (Xs (PL ?_));refine My (My (WD ?_));show Qi _ _ (R0 (.ref r)>>=_) _ _ _;refine My (I.done _ _ _ (I.frame _ _ _ (I.frame _ _ _ (I.frame _ _ _ s2 (cq f i.d1)) (cq d i.d3)) (cq g i.d2)) λX e l O=>?_)
  replace l:WF r L X:=l
  obtain⟨P,h,v⟩:=O;have C:VD X z TI TO .ellipsis:=l _ _ i.a4.symm (g.extBut _ _ i.a2.symm (d.extBut _ _ i.a3.symm j));have p:e≠z:=λq=>by subst q;rw[C]at h;cases h;simp at v
  exact RE C (by simp) λg5 _ F=>W g5 e _ (λc o m T R n4 q=>F.extBut _ _ m (l _ _ n4 (g.extBut _ _ T (d.extBut _ _ R (f.extBut _ _ m q))))) ⟨P,F.extBut _ _ p h,v⟩
theorem yH{z TI TO e f:PX}{f1 f2:List PX}(i:∀d:Rg,d.handled=A.handled->Xj prog w d e f1 n1 P1 S1)(j:∀d:Rg,d.handled=A.handled->Xj prog w d f f2 n2 P2 S2)(l:Ap z TI TO e f f1 f2)
  (h:VD s.heap z TI TO .none) (m:Td s.heap TI (.ref e) (.ref f)) (n:Td s.heap TO a b) (p:S1 k s.heap) (q:S2 k s.heap) (r:k<n1) (t:k<n2)
  (u:∀h' g x y,P1 k x->P2 k y->VD h' z TI TO (UD s.heap.objs.size)->Td h' TO x y->S1 (k+1) h'->S2 (k+1) h'->Td h' s.heap.objs.size x y->h'.objs.size=s.heap.objs.size+1->(∀c o,c≠z->c≠TO->c≠e->c≠f->s.heap.get? c=on o->h'.get? c=on o)->Q (on (.ref s.heap.objs.size)) {s with heap:=h',toks:=g}):
  Qi (QA prog w) A (UC (.ref z)) Q E s:=by
 have ty:s.TypeIs (.ref z) "zip":=⟨_,h,rfl⟩;unfold UC;exact My (UW (wpAny_callSpecial?_slot (name:=Su "__next__") ty VV (Q1 VV ty F.entry_zip_next (yI (i _ rfl) (j _ rfl) l h m n p q r t λh' g x y a1 a2 a3 a4 a5 a6 a7 a8 a9=>PL (u h' g x y a1 a2 a3 a4 a5 a6 a7 a8 a9)) (F.args_zip_next_1 _))))
theorem BT{z TI TO f g:PX}{f1 f2:List PX}(j:∀d:Rg,d.handled=A.handled->Xj prog w d f f1 n1 P1 S1)(l:∀d:Rg,d.handled=A.handled->Xj prog w d g f2 n2 P2 S2)(m:Ap z TI TO f g f1 f2)
  (h:VD s.heap z TI TO .none) (n:Td s.heap TI (.ref f) (.ref g)) (p:Td s.heap TO a b) (q:S1 k s.heap) (r:S2 k s.heap) (t:k=n1\/(k<n1/\k=n2))
  (u:∀h' i,(∀c o,c≠z->c≠TO->c≠f->c≠g->s.heap.get? c=on o->h'.get? c=on o)->Q PH {s with heap:=h',toks:=i}):Qi (QA prog w) A (UC (.ref z)) Q E s:=by
 have ty:s.TypeIs (.ref z) "zip":=⟨_,h,rfl⟩;unfold UC;refine My (UW (wpAny_callSpecial?_slot (name:=Su "__next__") ty VV (Q1 VV ty F.entry_zip_next (BU (j _ rfl) (l _ rfl) m h n p q r t λh' e i v y=>?_) (F.args_zip_next_1 _))));obtain⟨o,B,C⟩:=y;refine My (SL (T:="StopIteration") (b:=PP) ⟨o,B,C⟩ X5 ?_);exact PL (u _ _ v)
def Src(b:Bool)(h:Rl)(a:PX)(its:Array PY):Prop:=if b=PP then h.IsList a its else h.IsTuple a its
noncomputable def JA(b:Bool):String:=if b=PP then "list_iterator"else "tuple_iterator"
noncomputable abbrev qx(b:Bool)(a:PX):Qy:={cls:= .type (JA b),data:= .fields #[.ref a,.int 0 0]}
def gq(b:Bool)(h:Rl)(it a:PX)(k:Nat):Prop:=if b=PP then h.IsListIter it a k else h.IsTupleIter it a k
theorem Src.keep{b:Bool}{h h':Rl}(x:Src b h a its)(k:∀o,h.get? a=on o->h'.get? a=on o):Src b h' a its:=by
 unfold Src at x⊢;split at x
 ·rename_i q;rw[P6 q];exact x.at λo e=>k o e
 ·rename_i q;rw[P0 q]
  obtain⟨o,e,r⟩:=x;exact⟨o,k o e,r⟩
theorem qd{b:Bool}(x:Src b s.heap a its)(h:Q (.ref s.heap.objs.size) {s with heap:=s.heap.push (qx b a)}):Qi (QA prog w) A (Wl (.ref a)) Q E s:=by
 cases b with
 |true=>exact VI (show s.heap.IsList a its from x) h
 |false=>exact WK (show s.heap.IsTuple a its from x) h
theorem uk(b:Bool)(c:A.handled=PH)(it a:PX)(ne:a≠it)(its:Array PY):Xj prog w A it [it,a] its.size (λi v=>its[i]?=on v) (λi h=>gq b h it a i/\Src b h a its):=by
 cases b with
 |true=>exact Yq c it a ne its
 |false=>exact Px c it a ne its
abbrev zH1(b1:Bool)(h:Rl)(a:PX):Rl:=h.push (qx b1 a)
abbrev zH2(b1 b2:Bool)(h:Rl)(a b:PX):Rl:=(zH1 b1 h a).push (qx b2 b)
abbrev zH3(b1 b2:Bool)(h:Rl)(a b:PX):Rl:=(zH2 b1 b2 h a b).push {cls:= .type "tuple",data:= .seq #[.ref h.objs.size,.ref (zH1 b1 h a).objs.size]}
abbrev zH4(b1 b2:Bool)(h:Rl)(a b:PX):Rl:=(zH3 b1 b2 h a b).push {cls:= .type "tuple",data:= .seq #[.none,.none]}
abbrev zH5(b1 b2:Bool)(h:Rl)(a b:PX):Rl:=(zH4 b1 b2 h a b).push {cls:= .type "zip",data:= .fields #[.none,.bool PU,.bool PU,.ref (zH2 b1 b2 h a b).objs.size,.ref (zH3 b1 b2 h a b).objs.size]}
theorem x5(b1 b2:Bool)(a b:PX)(xs ys:Array PY):
  Meets (Builtin.«zip.__new__» ⟨[.type "zip",.ref a,.ref b],[]⟩) (λ_ R s=>Src b1 s.heap a xs/\Src b2 s.heap b ys/\R (.ok (.ret (.ref (zH4 b1 b2 s.heap a b).objs.size))) {s with heap:=zH5 b1 b2 s.heap a b}):=
 .of_wp λprog w A R s h=>by
  obtain⟨c,g,d,f,os⟩:=s;obtain⟨j,k,q⟩:=h;have i:=sub_zip;have l:Src b1 (Shared.heap ⟨c,g,d,f,os⟩) a xs:=j;have m:Src b2 (Shared.heap ⟨c.push (qx b1 a),g,d,f,os⟩) b ys:=k.keep λo e=>PQ _ e
  wp_walk using qd l,qd m
  exact⟨_,rfl,q⟩
theorem BD{b1 b2:Bool}(q:Src b1 s.heap l1 xs)(r:Src b2 s.heap l2 ys)
  (h:∀h',VD h' (s.heap.objs.size+4) (s.heap.objs.size+2) (s.heap.objs.size+3) .none->Td h' (s.heap.objs.size+2) (.ref s.heap.objs.size) (.ref (s.heap.objs.size+1))->Td h' (s.heap.objs.size+3) .none .none->gq b1 h' s.heap.objs.size l1 0->gq b2 h' (s.heap.objs.size+1) l2 0->h'.objs.size=s.heap.objs.size+5->(∀c o,s.heap.get? c=on o->h'.get? c=on o)->Q (.ref (s.heap.objs.size+4)) {s with heap:=h'}):
  Qi (QA prog w) A (W0 (.type "zip") [.ref l1,.ref l2]) Q E s:=by
 refine callType_new F.called_zip (by decide) (F.typeCall_zip_2 _ _) (F.newCall_zip_2 _ _) (λobj=>F.args_object_init_3 obj _ _) F.entry_zip_new (x5 b1 b2 l1 l2 xs ys) ⟨q,r,?_⟩;have f:(zH1 b1 s.heap l1).objs.size=s.heap.objs.size+1:=RJ ..;have g:(zH2 b1 b2 s.heap l1 l2).objs.size=s.heap.objs.size+2:=by rw[RJ,f]
 have i:(zH3 b1 b2 s.heap l1 l2).objs.size=s.heap.objs.size+3:=by rw[RJ,g]
 have j:(zH4 b1 b2 s.heap l1 l2).objs.size=s.heap.objs.size+4:=by rw[RJ,i]
 have t:(zH5 b1 b2 s.heap l1 l2).objs.size=s.heap.objs.size+5:=by rw[RJ,j]
 have k:(zH5 b1 b2 s.heap l1 l2).get? (zH4 b1 b2 s.heap l1 l2).objs.size=on _:=Qj _ rfl;have l:(zH5 b1 b2 s.heap l1 l2).get? (zH3 b1 b2 s.heap l1 l2).objs.size=on _:=PQ _ (Qj _ rfl);have m:(zH5 b1 b2 s.heap l1 l2).get? (zH2 b1 b2 s.heap l1 l2).objs.size=on _:=PQ _ (PQ _ (Qj _ rfl));have n:(zH5 b1 b2 s.heap l1 l2).get? (zH1 b1 s.heap l1).objs.size=on _:=PQ _ (PQ _ (PQ _ (Qj _ rfl)));have u:(zH5 b1 b2 s.heap l1 l2).get? s.heap.objs.size=on _:=PQ _ (PQ _ (PQ _ (PQ _ (Qj _ rfl))));show _/\_;rw[g,i,j]at k;rw[f,g]at m;rw[i]at l;rw[f]at n;rw[j];have d:∀(b:Bool) (h':Rl) (p a:PX),h'.get? p=on (qx b a)->gq b h' p a 0:=λb h' p a e=>by
  cases b with
  |true=>exact⟨_,e,rfl,rfl⟩
  |false=>exact⟨_,e,rfl,rfl⟩
 exact⟨⟨_,k,rfl⟩,h _ k m l (d _ _ _ _ u) (d _ _ _ _ n) t λc o x=>PQ _ (PQ _ (PQ _ (PQ _ (PQ _ x))))⟩
def SqS(b:Bool)(K:Qp)(H:Hp)(a:PX)(xs:List V):Prop:=if b=PP then SqL K H a xs else SqT K H a xs
noncomputable def Itz(b1 b2:Bool)(K:Qp)(a b:PX):It:=
 ⟨λi H=>∃xs ys x y,SqS b1 K H a xs/\SqS b2 K H b ys/\xs[i]?=on x/\ys[i]?=on y,
  λi H v c=>∃p x y,H p=PH/\v= .ref p/\c=upd H p (.tup [x,y])/\∀xs ys,SqS b1 K H a xs->SqS b2 K H b ys->xs[i]?=on x/\ys[i]?=on y,
  λi H=>∃xs ys,SqS b1 K H a xs/\SqS b2 K H b ys/\(xs.length=i\/(i<xs.length/\ys.length=i))⟩
variable{X:Cx}{pins:List (PX×Qy)}{σ:St}{H:Hp}
theorem Inv.src{b:Bool}(I:Inv X pins σ H s)(h:SqS b X.K H a xs):∃its:List PY,az xs its/\Src b s.heap a its.toArray:=by
 cases b with
 |true=>
  obtain⟨its,r,p,_⟩:=I.list (show SqL X.K H a xs from h);exact⟨its,r,p.isList⟩
 |false=>
  obtain⟨its,r,p,_⟩:=I.tuple (show SqT X.K H a xs from h);exact⟨its,r,p⟩
theorem Inv.src_inj{b:Bool}(I:Inv X pins σ H s)(h:SqS b X.K H a xs)(h':SqS b X.K H a ys):xs=ys:=by
 cases b with
 |true=>exact I.list_inj (show SqL X.K H a xs from h) h'
 |false=>exact I.tuple_inj (show SqT X.K H a xs from h) h'
theorem gq.get{b:Bool}{h:Rl}(x:gq b h it a k):∃o,h.get? it=on o/\o.cls= .type (JA b)/\∃fs,o.data= .fields fs:=by
 cases b with
 |true=>obtain⟨o,e,c,d⟩:=(show h.IsListIter it a k from x);exact⟨o,e,c,_,d⟩
 |false=>obtain⟨o,e,c,d⟩:=(show h.IsTupleIter it a k from x);exact⟨o,e,c,_,d⟩
theorem gq.keep{b:Bool}{h h':Rl}(x:gq b h it a k)(q:∀o,h.get? it=on o->h'.get? it=on o):gq b h' it a k:=by
 cases b with
 |true=>exact(show h.IsListIter it a k from x).at λo e=>q o e
 |false=>exact(show h.IsTupleIter it a k from x).at λo e=>q o e
theorem Inv.turnNew{h':Rl}{t':Nat}{ch:List PX}{p:PX}{o:HO}(I:Inv X pins σ H s)(a:∀b∈ch,fm X pins H b)(k:∀b u,b∉ch->s.heap.get? b=on u->h'.get? b=on u)(d:s.heap.objs.size<=p)(new:bH X.prog X.w (upd H p o) h' p o):Inv X pins σ (upd H p o) {s with heap:=h',toks:=t'}:=by
 have hn:H p=PH:=I.hok.fresh d;have nt:∀b u,H b=on u->b∉ch:=λb u e z=>by rw[(a b z).1]at e;cases e
 refine I.call' (s':={s with heap:=h',toks:=t'}) (ch:=ch) rfl ⟨λb u e _ _ hc=>k b u hc e,λb u e _ _ hc=>⟨u.slots,k b u hc e⟩,λb u e z hc=>?_,λb u e hc=>⟨u,k b u hc e⟩,λb ys e=>?_,λb u ys e=>?_,λb ys e=>⟨#[],?_⟩⟩ (λb u e=>?_) I.bare λb f=>?_
 ·rw[upd_ne (Q5 (Qv (Qz e) d))];exact z
 ·rw[upd_ne (aA e hn)];exact e
 ·rw[upd_ne (aA e hn)];exact e
 ·rw[upd_ne (aA e hn),e];simp
 ·by_cases z:b=p
  ·subst z;rw[aq]at e;cases e;exact new
  ·rw[upd_ne z]at e
   refine(I.hok b u e).stay (λc v hc q=>k c v ?_ q) (λc q=>by rw[upd_ne (aA q hn)];exact q) λc xs q=>by rw[upd_ne (aA q hn)];exact q
   rcases hc with rfl|hc
   ·exact nt _ _ e
   ·exact nt _ _ hc
 ·obtain⟨j,f1,f2,g,h,i⟩:=a b f
  exact⟨g,f1,h,i⟩
theorem Inv.turnL{h':Rl}{ch:List PX}(I:Inv X pins σ H s)(a:∀b∈ch,fm X pins H b)(k:∀b u,b∉ch->s.heap.get? b=on u->h'.get? b=on u):Inv X pins σ H {s with heap:=h',toks:=t'}:=by
 have nt:∀b u,H b=on u->b∉ch:=λb u e z=>by rw[(a b z).1]at e;cases e
 refine I.call' (s':={s with heap:=h',toks:=t'}) (ch:=ch) rfl ⟨λb u e _ _ hc=>k b u hc e,λb u e _ _ hc=>⟨u.slots,k b u hc e⟩,λb u e z hc=>z,λb u e hc=>⟨u,k b u hc e⟩,λb ys e=>e,λb u ys e=>e,λb ys e=>⟨#[],by rw[e];simp⟩⟩ (λb u e=>?_) I.bare λb d=>?_
 ·refine(I.hok b u e).stay (λc v hc q=>k c v ?_ q) (λc q=>q) λc xs q=>q
  rcases hc with rfl|hc
  ·exact nt _ _ e
  ·exact nt _ _ hc
 ·obtain⟨i,f1,f2,f,g,h⟩:=a b d
  exact⟨f,f1,g,h⟩
theorem Inv.src_ne{b:Bool}(I:Inv X pins σ H s)(h:SqS b X.K H a xs)(f:fm X pins H c):a≠c:=by
 obtain⟨i,f1,f2,f3,j,k⟩:=f;have d:∀o,X.K.lookup a=on o->a≠c:=λo e z=>by
  have g:=I.ok.mod.kin a o e;subst z;rcases f3 with f3|f3
  ·exact I.ok.noex a o g f3
  ·exact Qu (Qv (Qz (I.ok.bs a o g).1) f3) (Q4 _)
 have rd:∀u,Rd H a u->a≠c:=λu r z=>by
  subst z;rcases r with r|⟨_,r⟩<;>rw[i]at r<;>cases r
 cases b with
 |true=>
  rcases(show SqL X.K H a xs from h)with h|⟨o,_,_,e,_⟩
  ·exact rd _ h
  ·exact d o e
 |false=>
  rcases(show SqT X.K H a xs from h)with h|⟨o,_,_,e,_⟩
  ·exact rd _ h
  ·exact d o e
theorem BZ{w:QS}{K:Qp}{x1}(b1 b2:Bool)(C F z TI TO f g:PX)(nd:[z,TI,TO,f,g].Nodup):
  Turn P w K (.Tuple elts x1 pos) (Itz b1 b2 K C F) [z,TI,TO,f,g] z (λi h=>VD h z TI TO .none/\Td h TI (.ref f) (.ref g)/\(∃a b,Td h TO a b)/\gq b1 h f C i/\gq b2 h g F i) where
 mem:=by simp
 obj:=λi h st b j=>by
  obtain⟨p,r,⟨a,b',J⟩,L,N⟩:=st;simp only[Qf,Rx,Uq]at j;rcases j with rfl|rfl|rfl|rfl|rfl
  ·exact⟨_,p,λv q=>by cases q⟩
  ·exact⟨_,r,λv q=>by cases q⟩
  ·exact⟨_,J,λv q=>by cases q⟩
  ·obtain⟨o,e,_,fs,d⟩:=L.get
   exact⟨o,e,λv q=>by rw[d]at q;cases q⟩
  ·obtain⟨o,e,_,fs,d⟩:=N.get
   exact⟨o,e,λv q=>by rw[d]at q;cases q⟩
 keep:=λi h h' st k=>by
  obtain⟨p,r,⟨a,b',J⟩,L,N⟩:=st;exact⟨k z (by simp) _ p,k TI (by simp) _ r,⟨a,b',k TO (by simp) _ J⟩,L.keep λo e=>k f (by simp) o e,N.keep λo e=>k g (by simp) o e⟩
 item:=by
  intro X hP hw hK n i pins s σ H E I O st hg;subst hP hw hK;obtain⟨xs,ys,x,y,q1,q2,hx,hy⟩:=hg;obtain⟨p,r,⟨a,b',J⟩,L,N⟩:=st;obtain⟨l,r1,p1⟩:=Inv.src I q1;obtain⟨m,r2,p2⟩:=Inv.src I q2;have hd:=I.ok.hd n;simp only[QW,Qf,Rx,Uq,not_or]at nd;obtain⟨⟨Y,z2,U,W⟩,⟨t1,t2,t3⟩,⟨Z,o2⟩,R,_⟩:=nd;have t:∀c∈[z,TI,TO,f,g],C≠c:=λc n=>Inv.src_ne I q1 (O c n);have B:∀c∈[z,TI,TO,f,g],F≠c:=λc n=>Inv.src_ne I q2 (O c n);have ap:Ap z TI TO f g [f,C] [g,F]:=⟨Ne.symm Y,Ne.symm z2,Ne.symm U,Ne.symm W,t1,t2,t3,Z,o2,R,by simp[U,(t z (by simp)).symm],by simp[Z,(t TO (by simp)).symm],by simp[Ne.symm R,(t g (by simp)).symm],by simp[W,(B z (by simp)).symm],by simp[o2,(B TO (by simp)).symm],by simp[R,(B f (by simp)).symm],by simp,by simp⟩;have k1:i<l.toArray.size:=by
   rw[Qo,←r1.length];exact(P9.mp hx).1
  have k2:i<m.toArray.size:=by
   rw[Qo,←r2.length];exact(P9.mp hy).1
  refine yH (λA' h'=>uk b1 (h'.trans hd) f C (t f (by simp)) l.toArray) (λA' h'=>uk b2 (h'.trans hd) g F (B g (by simp)) m.toArray) ap p r J ⟨L,p1⟩ ⟨N,p2⟩ k1 k2 λh' tk u v pu pv fz fO f1 f2 fT sz kp=>?_;refine⟨_,rfl,wpAny_letOwnedTupleGo_zip (s:={s with heap:=h',toks:=tk}) fz λT ez'' Q=>?_⟩
  replace Q:QE z h' T:=Q
  have zT:s.heap.objs.size≠z:=Te (Qz p);obtain⟨u',hu,ru⟩:=r1.get hx;obtain⟨v',hv,rv⟩:=r2.get hy;have eu:u=u':=by
   have:l[i]?=on u:=by simpa using pu
   rw[this]at hu;exact QB hu
  have ev:v=v':=by
   have:m[i]?=on v:=by simpa using pv
   rw[this]at hv;exact QB hv
  subst eu ev;have kk:∀b o,b∉[z,TI,TO,f,g]->s.heap.get? b=on o->T.get? b=on o:=λb o j e=>by
   simp only[Qf,Rx,Uq,not_or]at j;exact Q.extBut b o j.1 (kp b o j.1 j.2.2.1 j.2.2.2.1 j.2.2.2.2 e)
  have I2:Inv X pins σ (upd H s.heap.objs.size (.tup [x,y])) {s with heap:=T,toks:=tk}:=by
   refine Inv.turnNew I O kk (P5 _) ⟨by show 2<=Qk;decide,[u,v],.cons ru (.cons rv .nil),_,Q.extBut _ _ zT fT,rfl,_,rfl⟩
  refine⟨.ref s.heap.objs.size,_,I2,rfl,⟨s.heap.objs.size,x,y,I.hok.fresh (P5 _),rfl,rfl,λas bs h1 h2=>⟨by rw[Inv.src_inj I h1 q1];exact hx,by rw[Inv.src_inj I h2 q2];exact hy⟩⟩,⟨ez'',?_,⟨u,v,?_⟩,?_,?_⟩,λb j=>?_⟩
  ·exact Q.extBut _ _ (Ne.symm Y) (kp TI _ (Ne.symm Y) t1 t2 t3 r)
  ·exact Q.extBut _ _ (Ne.symm z2) fO
  ·exact f1.1.keep λo e=>Q.extBut _ _ (Ne.symm U) e
  ·exact f2.1.keep λo e=>Q.extBut _ _ (Ne.symm W) e
  ·rw[upd_ne]
   ·exact(O b j).1
   ·intro q
    have ol:∃o,s.heap.get? b=on o:=by
     simp only[Qf,Rx,Uq]at j;rcases j with rfl|rfl|rfl|rfl|rfl
     ·exact⟨_,p⟩
     ·exact⟨_,r⟩
     ·exact⟨_,J⟩
     ·obtain⟨o,e,_⟩:=L.get;exact⟨o,e⟩
     ·obtain⟨o,e,_⟩:=N.get;exact⟨o,e⟩
    obtain⟨o,e⟩:=ol;exact Qu (Qz e) (by rw[q];exact Q4 _)
 done:=by
  intro X hP hw hK n i pins s σ H E I O st hg;subst hP hw hK;obtain⟨xs,ys,q1,q2,hl⟩:=hg;obtain⟨p,r,⟨a,b',J⟩,L,N⟩:=st;obtain⟨l,r1,p1⟩:=Inv.src I q1;obtain⟨m,r2,p2⟩:=Inv.src I q2;have hd:=I.ok.hd n;simp only[QW,Qf,Rx,Uq,not_or]at nd;obtain⟨⟨Y,z2,U,W⟩,⟨t1,t2,t3⟩,⟨Z,o2⟩,R,_⟩:=nd;have t:∀c∈[z,TI,TO,f,g],C≠c:=λc n=>Inv.src_ne I q1 (O c n);have B:∀c∈[z,TI,TO,f,g],F≠c:=λc n=>Inv.src_ne I q2 (O c n);have ap:Ap z TI TO f g [f,C] [g,F]:=⟨Ne.symm Y,Ne.symm z2,Ne.symm U,Ne.symm W,t1,t2,t3,Z,o2,R,by simp[U,(t z (by simp)).symm],by simp[Z,(t TO (by simp)).symm],by simp[Ne.symm R,(t g (by simp)).symm],by simp[W,(B z (by simp)).symm],by simp[o2,(B TO (by simp)).symm],by simp[R,(B f (by simp)).symm],by simp,by simp⟩;have g1:l.toArray.size=xs.length:=by rw[Qo,←r1.length]
  have g2:m.toArray.size=ys.length:=by rw[Qo,←r2.length]
  refine BT (λA' h'=>uk b1 (h'.trans hd) f C (t f (by simp)) l.toArray) (λA' h'=>uk b2 (h'.trans hd) g F (B g (by simp)) m.toArray) ap p r J ⟨L,p1⟩ ⟨N,p2⟩ ?_ λh' tk kp=>⟨rfl,Inv.turnL I O λb o j e=>?_⟩
  ·rw[g1,g2]
   rcases hl with hl|⟨h1,h2⟩
   ·exact .inl hl.symm
   ·exact .inr ⟨h1,h2.symm⟩
  ·simp only[Qf,Rx,Uq,not_or]at j
   exact kp b o j.1 j.2.2.1 j.2.2.2.1 j.2.2.2.2 e
 self:=λ_ _ _ _ _ st h=>wpAny_pyIter_zip st.1 h
end
section
variable{X:Cx}{E:St->XK}{K:Qp}
def iZp(K:Qp)(d:TA):TI:=λe H R=>d e H λvs a=>∃b1 b2 b c xs ys,vs=[.ref b,.ref c]/\SqS b1 K a b xs/\SqS b2 K a c ys/\R (Itz b1 b2 K b c) a
theorem Mi{x1}(y:Gl X "zip")(hm:X.mg "zip"=PH)(ha:PA X [a,b] ta)(hs:Qe [a,b] X.env=[(PU,Rk a X.env),(PU,Rk b X.env)]:=by rfl)(g:Qe [b] X.env=[(PU,Rk b X.env)]:=by rfl):
  PI X (.Tuple elts x1 tpos) (.Call (.Name "zip" p) [a,b] [] pos) (iZp X.K ta):=by
 intro f s n H R I h;refine Call_ (gf I y hm PyProof.Rows.Boot.«zip» (RB (thn (ha pos f s n H _ I h) λus d ⟨vs,o,i,r1,q1⟩=>?_) (by rw[hs,g]) (by rw[g];rfl)));obtain⟨b1,b2,t,u,xs,ys,e,q1,q2,q⟩:=q1;subst e;cases r1 with
 |cons r k=>
  cases k with
  |cons A k=>
   cases k;cases r;cases A;obtain⟨B,P,C⟩:=Inv.src i q1;obtain⟨F,Q,J⟩:=Inv.src i q2;refine BD C J λh' v L N l m sz kp=>?_;refine wpAny_pyIter_zip (s:={d with heap:=h'}) v ?_;have O:Inv X f n o {d with heap:=h'}:=i.kept (t':=d.toks) kp;refine⟨_,[d.heap.objs.size+4,d.heap.objs.size+2,d.heap.objs.size+3,d.heap.objs.size,d.heap.objs.size+1],_,Itz b1 b2 X.K t u,o,rfl,O,BZ b1 b2 t u (d.heap.objs.size+4) (d.heap.objs.size+2) (d.heap.objs.size+3) d.heap.objs.size (d.heap.objs.size+1) (by simp),⟨v,L,⟨_,_,N⟩,l,m⟩,λc w=>?_,q⟩;have j:d.heap.objs.size<=c:=by
    simp only[Qf,Rx,Uq]at w;rcases w with rfl|rfl|rfl|rfl|rfl
    ·exact S7 _ _
    ·exact S7 _ _
    ·exact S7 _ _
    ·exact P5 _
    ·exact S7 _ _
   exact i.fpOk j (i.hok.fresh j)
noncomputable def dF:List D->List D->List D
 |x::xs,y::ys=> .tup [x,y]::dF xs ys
 |_,_=>[]
theorem ut:∀(xs ys:List D),(dF xs ys).length=Tq xs.length ys.length
 |[],ys=>by simp[dF]
 |x::xs,[]=>by simp[dF]
 |x::xs,y::ys=>by
  show(dF xs ys).length+1=_;rw[ut xs ys,Qa,Qa];omega
theorem uu:∀{xs ys:List D} {i:Nat} {d:D},(dF xs ys)[i]?=on d->∃x y,xs[i]?=on x/\ys[i]?=on y/\d= .tup [x,y]
 |[],ys,i,d,h=>by simp[dF]at h
 |x::xs,[],i,d,h=>by simp[dF]at h
 |x::xs,y::ys,0,d,h=>by
  simp[dF]at h;exact⟨x,y,rfl,rfl,h.symm⟩
 |x::xs,y::ys,i+1,d,h=>by
  have h':(dF xs ys)[i]?=on d:=by simpa[dF]using h
  obtain⟨a,b,c,e,f⟩:=uu h';exact⟨a,b,by simpa using c,by simpa using e,f⟩
def uv:List D->Option (List D)
 |[a,b]=>(eE a).bind λxs=>(eE b).map λys=>dF xs ys
 |_=>PH
theorem Den.sqS(h:Den K F H d v)(e:eE d=on ds):∃b a,v= .ref a/\∀f c,Tr F H f c->∃xs,SqS b K c a xs/\DenL K f c ds xs:=by
 cases d<;>first
  |(cases e;obtain⟨a,xs,rfl,_⟩:=Den.sqL h;refine⟨PP,a,rfl,λf c t=>?_⟩;obtain⟨j,ys,g,sq,i⟩:=Den.sqL (Den.tr t _ _ h);cases g;exact⟨ys,sq,i⟩)
  |(cases e;obtain⟨a,xs,rfl,_⟩:=Den.sqT h;refine⟨PU,a,rfl,λf c t=>?_⟩;obtain⟨j,ys,g,sq,i⟩:=Den.sqT (Den.tr t _ _ h);cases g;exact⟨ys,sq,i⟩)
  |cases e
theorem La{b1 b2:Bool}(n:∀b a,Tr F H b a->∃xs,SqS b1 K a l1 xs/\DenL K b a ds xs)(o:∀b a,Tr F H b a->∃xs,SqS b2 K a l2 xs/\DenL K b a es xs):ItD K (Itz b1 b2 K l1 l2) F H (dF ds es):=λb a β2 t fr i=>by
 obtain⟨xs,c,d1⟩:=n b a t;obtain⟨ys,e,d2⟩:=o b a t;refine⟨λd hd=>?_,λq=>?_⟩
 ·obtain⟨x,y,f,g,rfl⟩:=uu hd
  obtain⟨u,h,du⟩:=d1.get f;obtain⟨v,j,r⟩:=d2.get g;refine⟨⟨xs,ys,u,v,c,e,h,j⟩,λz B w=>?_⟩;obtain⟨p,C,I,k,rfl,rfl,A⟩:=w;obtain⟨l,m⟩:=A xs ys c e;rw[h]at l;rw[j]at m;cases l;cases m;exact⟨bL.upd k,Den.newT fr k (DenL.cons du (DenL.cons r DenL.nil))⟩
 ·rw[ut]at q
  have f:=d1.length;have g:=d2.length;refine⟨xs,ys,c,e,?_⟩;rw[←f,←g];omega
def i5(g:FL):FL:=bV uv g
theorem qC{x1}(o:Gl X "zip")(hm:X.mg "zip"=PH)(ha:PA X [a,b] (tVA X.K g E))(hs:Qe [a,b] X.env=[(PU,Rk a X.env),(PU,Rk b X.env)]:=by rfl)(i:Qe [b] X.env=[(PU,Rk b X.env)]:=by rfl):
  PI X (.Tuple elts x1 tpos) (.Call (.Name "zip" p) [a,b] [] pos) (iV X.K (i5 g) E):=
 (Mi o hm ha hs i).imp λI H R j=>ex6 j λF δ β fr q h=>⟨F,δ,β,fr,q,(run.bind (R:=DenL X.K F) h).mono λvs f j=>by
  obtain⟨ds,β1,t,hd,r1⟩:=j;obtain⟨l,e,k⟩:=run.ofO r1;unfold uv at e;split at e
  ·rename_i c d
   obtain⟨v,J,rfl,r,u⟩:=DenL.two hd;cases q1:eE c with
   |none=>rw[q1]at e;cases e
   |some xs=>
    cases q2:eE d with
    |none=>rw[q1,q2]at e;cases e
    |some ys=>
     rw[q1,q2]at e;cases e;obtain⟨b1,w,rfl,m⟩:=Den.sqS r q1;obtain⟨b2,y,rfl,n⟩:=Den.sqS u q2;obtain⟨us,A,_⟩:=m F f (Tr.refl F f);obtain⟨B,C,_⟩:=n F f (Tr.refl F f);exact⟨b1,b2,w,y,us,B,rfl,A,C,k _ f (To.refl t.fr) (La m n)⟩
  ·cases e⟩
def nV:Dn->M Unit:=λ_=>M.ret ()
def nW(f:FD)(g:Dn->M Unit):Dn->M Unit:=λδ=>M.bind (f δ) λd=>match d with
 | .int i=>if i.natAbs.log2<1920 then g δ else M.fail
 |_=>M.fail
variable{es:List Expr}
def oj(f:Dn->M Unit):FD:=λδ=>M.bind (f δ) λ_=>M.ret .txt
noncomputable def kC(C:PX)(f:FL):G:=λδ β=>match f (vwA δ) β with
 |some (.ok _,β1)=>on (.ex C δ,β1)
 |some (.error C',β1)=>on (.ex C' δ,β1)
 |none=>PH
end
section
variable{P:QD}{w:QS}{K:Qp}{mg:QN->Option PY}{base:Rl}{N:List QN}{qual:QN}{scope:Scope}{f:PX}{cd:PY}{A:Rg}{outer:List WV}{s:P7}{H:Hp}{E:XK}
end
section
variable{X:Cx}{E:St->XK}{K:Qp}
abbrev Gh:=PX->G
noncomputable def hNo:Gh:=λ_ _ _=>PH
noncomputable def rJ(K:Qp)(a:PX)(g:G)(r:Gh):Gh:=λC δ β=>match PySem.W.exmOne K (.ref C) (.ref a)with
 |some PP=>g δ β
 |some PU=>r C δ β
 |none=>PH
noncomputable def rK(g:G)(h:Gh):G:=λδ β=>match g δ β with
 |some (.ex C δ1,β1)=>h C δ1 β1
 |r=>r
variable{elt target iter:Expr}{ifs:List Expr}{rest:List RQ}{scope:Scope}{pos:UL}{Nc vars:List QN}{caps:List Nat}{g:TG}{tb:PX->TB}
theorem aP:dP X [] (tVT X.K (λ_=>M.ret PP) E0):=λa s b H Q I c=>by obtain⟨F,δ,β,fr,d,r⟩:=c;exact uW a s b H Q I (run.ret fr r rfl)
theorem qF(a:PT X c (tVT X.K t E0)):dP X [c] (tVT X.K t E0):=CW a
theorem bj(c:X.calm=PP)(S:CmpScope X scope Nc vars caps)(d:PI X target iter (iV X.K it E))
  (e:∀(cl:List (QN×PX)) (C:PX) (a:List PX) (s:P7) (H:Hp),PG (aJ X Nc scope cl C a s H) target g/\dP (aJ X Nc scope cl C a s H) ifs (tVT X.K tt E0)/\∀D,PB (aJ X Nc scope cl C a s H) elt (⟨target,iter,ifs,0⟩::rest) scope pos 0 D (tb D))
  (f:cL X.K g tg) (i:dN tg) (j:∀D,jK X.K D (tb D) b) (hs:∀x,Q0 iter X.env x=SB x:=by intro _;rfl):PE X (.ListComp elt (⟨target,iter,ifs,0⟩::rest) scope pos) (tV X.K (cw vars.length caps it tg tt b) E):=
 (nG c S d e hs).imp λk H Q h=>uB f i j h
theorem uJ{a c:UL}(j:X.N.Nodup)(d:X.N[i]?=on x)(k:Loc X.env.scope x)(l:X.calm=PP)(S:CmpScope X scope Nc vars caps)(m:PI X target iter (iV X.K it E))
  (n:∀(cl:List (QN×PX)) (C:PX) (f:List PX) (s:P7) (H:Hp),PG (aJ X Nc scope cl C f s H) target g/\dP (aJ X Nc scope cl C f s H) ifs (tVT X.K tt E0)/\∀D,PB (aJ X Nc scope cl C f s H) elt (⟨target,iter,ifs,0⟩::rest) scope pos 0 D (tb D))
  (o:cL X.K g tg) (p:dN tg) (q:∀D,jK X.K D (tb D) b)
  (e:UP (.ListComp elt (⟨target,iter,ifs,0⟩::rest) scope pos) (on (.Name x a)) c.line X.env=SB PP:=by rfl)
  (hs:∀x,Q0 iter X.env x=SB x:=by intro _;rfl) (r:X.fn x=PP\/X.env.scope.names.lookup x=on .local:=by first|exact .inl rfl|exact .inr rfl|assumption):
  PS X (.Assign [.Name x a] (.ListComp elt (⟨target,iter,ifs,0⟩::rest) scope pos) c) (tG X.K X.H₀ (gj i (cw vars.length caps it tg tt b)) E):=
 aI ((wF j d k l S m n e hs r).imp λD t H h=>uB o p q h)
noncomputable def ph:D->Option D
 | .int i=>on (.int (-i))
 |_=>PH
theorem Pa:JL K (rU λi=> .int (-i)) ph:=λF H β Q d1 d b fr a e k=>by
 cases d1<;>first|(cases e;exact⟨_,a,k _ H (To.refl fr) rfl⟩)|cases e
noncomputable def vZ:D->Option Int
 | .int i=>on i
 |_=>PH
noncomputable def jV(xs:List D)(lo a:Option Int):List D:=(xs.drop (HT.sIx xs.length 0 lo)).take (HT.sIx xs.length xs.length a-HT.sIx xs.length 0 lo)
def slD:D->Option Int->Option Int->Option D
 | .lst xs,lo,hi=>on (.lst (jV xs lo hi))
 | .scr ns,lo,hi=>on (.lst (jV (ns.map D.int) lo hi))
 |_,_,_=>PH
def qG(f:Option (FD)):Dn->M (Option Int):=λδ=>match f with
 |none=>M.ret PH
 |some g=>M.bind (g δ) λd=>M.bind (M.ofO (vZ d)) λi=>M.ret (on i)
def fSl(f:FD)(lo a:Option (FD)):FD:=λδ=>M.bind (f δ) λd=>M.bind (qG lo δ) λl=>M.bind (qG a δ) λh=>M.ofO (slD d l h)
def yF(X:Cx)(e:Option Expr)(f:Option (FD))(E:St->XK):Prop:=PO X e (λc H Q=>∃F δ β,Fr F H β/\VOk X.K F H δ c/\run (λ_ (a b:Option Int)=>b=a) F E c (qG f δ) H Q β)
theorem u4:yF X PH PH E:=λa s b H Q I c=>by obtain⟨F,δ,β,fr,d,r⟩:=c;exact wH a s b H Q I (run.ret fr r rfl)
theorem u3(h:PE X e (tV X.K f E)):yF X (on e) (on f) E:=λa s c H Q I b=>ex6 b λF δ β fr j r=>wG h a s c H Q I ⟨F,δ,β,fr,j,(run.bind (R:=Den X.K F) r).mono λv l b=>by
  obtain⟨d,β1,t,hd,r1⟩:=b;obtain⟨i,e,k⟩:=run.ofO_bind r1;cases d<;>first|(cases e;exact⟨_,hd,run.ret t.fr k rfl⟩)|cases e⟩
theorem DenL.cut(h:DenL K F H ds vs)(lo a:Option Int):DenL K F H (jV ds lo a) (mJ vs lo a):=by
 unfold jV mJ;rw[h.length];exact(h.drop _).take _
theorem qW{lo y:Option Expr}{fl A:Option (FD)}(B:PE X e (tV X.K f E))(C:yF X lo fl E)(I:yF X y A E):PE X (.Subscript e (.Slice lo y PH p2) pos) (tV X.K (fSl f fl A) E):=
 (uX wr B C I).imp λO H Q o=>ex6 o λF δ β fr q r=>⟨F,δ,β,fr,q,(run.bind (R:=Den X.K F) r).mono λv P ⟨d,β1,t,hd,r1⟩=>
  ⟨F,δ,β1,t.fr,q.tr (t.tr fr),(run.bind (R:=λ_ (a b:Option Int)=>b=a) r1).mono λl T ⟨U,β2,n,u,J⟩=>
   ⟨F,δ,β2,n.fr,q.tr ((t.tr fr).trans (n.tr t.fr)),(run.bind (R:=λ_ (a b:Option Int)=>b=a) J).mono λh W o=>by
    obtain⟨h',β3,i,w,L⟩:=o;subst u w;obtain⟨c,e,k⟩:=run.ofO L;have j:=Den.tr ((n.tr t.fr).trans (i.tr n.fr)) _ _ hd;cases d<;>first
     |(cases e;obtain⟨a,xs,rfl,sq,N⟩:=Den.sqL j;exact⟨a,xs,rfl,sq,λp m=>k _ _ (i.fr.upd _ m) (Den.newL i.fr m (N.cut l h))⟩)
     |(cases e;obtain⟨a,rfl,sq⟩:=Den.scr j;exact⟨a,_,rfl,sq,λp m=>k _ _ (i.fr.upd _ m) (Den.newL i.fr m ((DenL.ofInts _).cut l h))⟩)
     |cases e⟩⟩⟩
def Bg.ok(β:Bg):Prop:=β.cells≠[]/\β.cells.length<=64/\(∀c∈β.cells,0<=c)/\0<=β.j
end
noncomputable def Bg.pos(β:Bg):Nat:=(β.i % (β.cells.length:Int)).toNat
def Bg.cell(β:Bg):Int:=β.cells.getD β.pos 0
noncomputable def Bg.nxt(β:Bg):Int:=(β.j+β.cell % 2147483629+77)*48271 % 2147483629
noncomputable def jz(β:Bg)(lot:Int):Int:=if 10^18<=β.cell then β.cell % lot else β.nxt/64 % lot
noncomputable def kY(β:Bg)(lot:Int):Bg:=if 10^18<=β.cell then⟨β.cells.set β.pos (β.cell/lot),β.i,β.j⟩else⟨β.cells,β.i+1,β.nxt⟩
open Classical in
def ld:List D->M D:=λds β=>match ds with
 |[.bag,.int lot]=>if β.ok/\0<lot/\lot<1073741824 then on (R6 (D.int (jz β lot)),kY β lot)else PH
 |_=>PH
theorem DQ{β:Bg}(h:β.ok)(a:0<lot)(b:lot<1073741824):ld [.bag,.int lot] β=on (.ok (.int (jz β lot)),kY β lot):=by
 unfold ld;exact P6 ⟨h,a,b⟩
theorem zV{β:Bg}(h:ld ds β=on (r,β')):∃lot,ds=[.bag,.int lot]/\β.ok/\0<lot/\lot<1073741824/\r= .ok (.int (jz β lot))/\β'=kY β lot:=by
 unfold ld at h;split at h
 ·split at h
  ·rename_i lot q
   cases h;exact⟨lot,rfl,q.1,q.2.1,q.2.2,rfl,rfl⟩
  ·cases h
 ·cases h
theorem Bg.ok.at{β:Bg}(h:β.ok):β.pos<β.cells.length/\β.cells[β.pos]?=on β.cell/\0<=β.cell/\β.i % (β.cells.length:Int)=(β.pos:Int):=by
 obtain⟨c1,c2,c3,b⟩:=id h;have c:0<β.cells.length:=List.length_pos_iff.mpr c1;have a1:0<=β.i % (β.cells.length:Int):=UJ _ (by omega);have a2:β.i % (β.cells.length:Int)<β.cells.length:=U6 _ (by omega);have a:β.pos<β.cells.length:=by unfold Bg.pos;omega
 have e:β.cell=β.cells[β.pos]:=by
  unfold Bg.cell;rw[PR,PM a];rfl
 refine⟨a,by rw[e];exact PM a,by rw[e];exact c3 _ (QO a),?_⟩;unfold Bg.pos;omega
theorem wD{β:Bg}(h:β.ok)(b:0<lot):0<=jz β lot/\jz β lot<lot/\(kY β lot).ok:=by
 obtain⟨f,_,d,_⟩:=h.at;obtain⟨c1,c2,c3,e⟩:=id h;unfold jz kY;split
 ·refine⟨UJ _ (by omega),U6 _ b,?_,by rw[Q3];exact c2,λc a=>?_,e⟩
  ·intro z
   have:=Re VY z;rw[Q3]at this;exact c1 (S6.mp this)
  ·rcases R5 a with a|rfl
   ·exact c3 c a
   ·exact Int.ediv_nonneg d (by omega)
 ·exact⟨UJ _ (by omega),U6 _ b,c1,c2,c3,UJ _ (by decide)⟩
end L2.Pu
namespace L2
open PySem PySem.Spec PyProof.Rows
end L2
namespace L2.Pu
open PySem PySem.Spec PyProof.Rows
section
variable{X:Cx}{E:St->XK}{K:Qp}
def oJ(K:Qp)(mg:QN->Option PY)(x:QN)(d:D):Prop:=∃u v,mg x=on u/\aN v u/\∀F H,Den K F H d v
theorem lS(c:oJ X.K X.mg x d)(a:Gl X x:=by rfl)(hd:(x==("__debug__":QN))=PU:=by decide):PE X (.Name x pos) (tV X.K (fC d) E):=by
 obtain⟨u,v,b,e,f⟩:=c;exact v_c (KI a b e hd) f
mutual
noncomputable def toP:D->Option XU
 | .non=>on .none
 | .bl b=>on (.bool b)
 | .int i=>on (.int i)
 | .str x=>on (.str x)
 | .lst xs=>(toPs xs).map PyData.list
 | .tup xs=>(toPs xs).map PyData.tuple
 |_=>PH
noncomputable def toPs:List D->Option (List XU)
 |[]=>on []
 |x::xs=>match toP x,toPs xs with
  |some p,on ps=>on (p::ps)
  |_,_=>PH
end
mutual
theorem kj{s:P7}(I:Inv X pins σ H s):∀(d:D) (v:V) (u:PY) (p:XU),Den X.K F H d v->toP d=on p->aN v u->∃as,Reads s.heap u p as
 | .non,v,u,p,h,e,r=>by cases e;cases h.non;cases r;exact⟨_,.none⟩
 | .bl b,v,u,p,h,e,r=>by cases e;cases h.bl;cases r;exact⟨_,.bool b⟩
 | .int i,v,u,p,h,e,r=>by cases e;cases h.int;obtain⟨t,rfl⟩:=r;exact⟨_,.int i t⟩
 | .str x,v,u,p,h,e,r=>by cases e;cases h.str;obtain⟨t,rfl⟩:=r;exact⟨_,.str x t⟩
 | .lst xs,v,u,p,h,e,r=>by
  unfold toP at e;cases q:toPs xs with
  |none=>rw[q]at e;cases e
  |some ps=>
   rw[q]at e;cases e;obtain⟨a,ys,rfl,sq,c⟩:=Den.sqL h;cases r;obtain⟨its,f,pl,_⟩:=I.list sq;obtain⟨as,g⟩:=reads_L I xs ys its ps c q f;obtain⟨o,j,k,n,hd⟩:=pl.isList;exact⟨_,.list j k hd (by simpa using g)⟩
 | .tup xs,v,u,p,h,e,r=>by
  unfold toP at e;cases q:toPs xs with
  |none=>rw[q]at e;cases e
  |some ps=>
   rw[q]at e;cases e;obtain⟨a,ys,rfl,sq,c⟩:=Den.sqT h;cases r;obtain⟨its,f,pl,_⟩:=I.tuple sq;obtain⟨as,g⟩:=reads_L I xs ys its ps c q f;obtain⟨o,j,k,n,hd⟩:=pl;exact⟨_,.tuple j k hd (by simpa using g)⟩
 | .ty _,_,_,_,_,e,_=>by cases e
 | .txt,_,_,_,_,e,_=>by cases e
 | .scr _,_,_,_,_,e,_=>by cases e
 | .obj _ _ _,_,_,_,_,e,_=>by cases e
 | .bag,_,_,_,_,e,_=>by cases e
 | .adr _,_,_,_,_,e,_=>by cases e
 | .dct _ _ _,_,_,_,_,e,_=>by cases e
theorem reads_L{s:P7}(I:Inv X pins σ H s):∀(ds:List D) (vs:List V) (us:List PY) (ps:List XU),DenL X.K F H ds vs->toPs ds=on ps->az vs us->∃as,ReadsAll s.heap us ps as
 |[],vs,us,ps,h,e,r=>by
  have q:vs=[]:=h;subst q;cases e;cases r;exact⟨_,.nil⟩
 |d::ds,vs,us,ps,h,e,r=>by
  obtain⟨x,a,rfl,b,c⟩:=h;unfold toPs at e;split at e
  ·rename_i p pr f g
   cases e;cases r with
   |cons r1 i=>
    obtain⟨as,j⟩:=kj I d x _ p b f r1;obtain⟨bs,k⟩:=reads_L I ds a _ pr c g i;exact⟨_,.cons j k⟩
  ·cases e
end
def mM(a b:D):Option Bool:=match toP a,toP b with
 |some p,on q=>if(UN p&&UN q)=PP then on (UU p q)else PH
 |_,_=>PH
def gn(a b:D):Option D:=match eqS a b with
 |some c=>on (.bl c)
 |none=>(mM a b).map D.bl
def dT(a b:D):Option D:=match eqS a b with
 |some c=>on (.bl (!c))
 |none=>(mM a b).map λc=>D.bl (!c)
def rj(X:Cx)(g:Bool->Bool):R2:=λx y H Q=>∃(F:Fx) (a b:D) (c:Bool),Den X.K F H a x/\Den X.K F H b y/\mM a b=on c/\Q (.bl (g c)) H
theorem tq{c:Bool}(h:mM a b=on c):∃p q,toP a=on p/\toP b=on q/\UN p=PP/\UN q=PP/\c=UU p q:=by
 unfold mM at h;split at h
 ·rename_i p q d e
  split at h
  ·rename_i hs
   rw[QI]at hs;cases h;exact⟨p,q,d,e,hs.1,hs.2,rfl⟩
  ·cases h
 ·cases h
theorem Mz(f:Room k X.A):OpR X (Ro .Eq) (rj X id):=by
 intro d s t H x y v u Q I g i h;obtain⟨F,a,b,c,d1,d2,e,q⟩:=h;obtain⟨p,j,l,m,n,o,rfl⟩:=tq e;obtain⟨as,r1⟩:=kj I a x v p d1 l g;obtain⟨bs,r⟩:=kj I b y u j d2 m i;exact eq_dataH r1 r n o f.units ⟨.bl _,H,I,rfl,q⟩
theorem Mw(f:Room k X.A):OpR X (Ro .NotEq) (rj X not):=by
 intro d s t H x y v u Q I g i h;obtain⟨F,a,b,c,d1,d2,e,q⟩:=h;obtain⟨p,j,l,m,n,o,rfl⟩:=tq e;obtain⟨as,r1⟩:=kj I a x v p d1 l g;obtain⟨bs,r⟩:=kj I b y u j d2 m i;exact ne_dataH r1 r n o f.units ⟨.bl _,H,I,rfl,q⟩
theorem eU(a:Room k X.A):OpR X (Ro .Eq) (λx y H Q=>rEq x y H Q\/rj X id x y H Q):=OY.or (Mz a)
theorem fG(a:Room k X.A):OpR X (Ro .NotEq) (λx y H Q=>rNe x y H Q\/rj X not x y H Q):=OX.or (Mw a)
theorem gh:bi X.K (λx y H Q=>rEq x y H Q\/rj X id x y H Q) gn:=λF H β Q d1 d2 d h i fr a b e k=>by
 unfold gn at e;split at e
 ·rename_i c q
  cases e;obtain⟨f,g⟩:=BA q a b;exact .inl ⟨f,by rw[g];exact k _ H (To.refl fr) rfl⟩
 ·cases q:mM d1 d2 with
  |none=>rw[q]at e;cases e
  |some c=>rw[q]at e;cases e;exact .inr ⟨F,d1,d2,c,a,b,q,k _ H (To.refl fr) rfl⟩
theorem gH:bi X.K (λx y H Q=>rNe x y H Q\/rj X not x y H Q) dT:=λF H β Q d1 d2 d h i fr a b e k=>by
 unfold dT at e;split at e
 ·rename_i c q
  cases e;obtain⟨f,g⟩:=BA q a b;exact .inl ⟨f,by rw[g];exact k _ H (To.refl fr) rfl⟩
 ·cases q:mM d1 d2 with
  |none=>rw[q]at e;cases e
  |some c=>rw[q]at e;cases e;exact .inr ⟨F,d1,d2,c,a,b,q,k _ H (To.refl fr) rfl⟩
theorem lz(i j:Int):gn (.int i) (.int j)=on (.bl (decide (i=j))):=rfl
theorem ly(i j:Int):dT (.int i) (.int j)=on (.bl (!decide (i=j))):=rfl
theorem oB(i j:Bool):gn (.bl i) (.bl j)=on (.bl (decide (i=j))):=rfl
theorem oy(i j:Bool):dT (.bl i) (.bl j)=on (.bl (!decide (i=j))):=rfl
theorem oA(i j:QN):gn (.str i) (.str j)=on (.bl (decide (i=j))):=rfl
theorem ox(i j:QN):dT (.str i) (.str j)=on (.bl (!decide (i=j))):=rfl
def oE(d:D):Bool:=match toP d with
 |some p=>UN p
 |none=>PU
theorem IX{C:Int->Int->Prop}{c:Int->Int->Bool}{g:Int->Int->Int}(b:∀i j,c i j=PP->C i j):bi K (ipC C g) (opI λi j=>if c i j=PP then on (.int (g i j))else PH):=λF H β Q d1 d2 d l m fr f h e k=>by
 obtain⟨i,j,rfl,rfl,a⟩:=gB e;split at a
 ·cases a
  exact⟨i,j,f,h,b _ _ (by assumption),k _ H (To.refl fr) rfl⟩
 ·cases a
def Oq:D->D->Option D:=opI λi j=>on (.int (i+j))
theorem iJ:bi K (ipI λi j=>i+j) Oq:=λF H β Q d1 d2 d f g fr a b e k=>by
 obtain⟨i,j,rfl,rfl,c⟩:=gB e;cases c;exact⟨i,j,a,b,k _ H (To.refl fr) rfl⟩
theorem K6:bi K (ipI λi j=>i-j) CI:=λF H β Q d1 d2 d f g fr a b e k=>by
 obtain⟨i,j,rfl,rfl,c⟩:=gB e;cases c;exact⟨i,j,a,b,k _ H (To.refl fr) rfl⟩
theorem rH:PIp X .Mult (ipC uq λi j=>i*j):=by
 intro a s e H x y v u Q I b d h;obtain⟨i,j,rfl,rfl,c,q⟩:=h;obtain⟨t,rfl⟩:=b;obtain⟨t',rfl⟩:=d;exact imul_int ⟨.int _,H,I.tok _,⟨_,rfl⟩,q⟩ (Yh (jI c.1) (jI c.2))
theorem rE:bi K (ipC uq λi j=>i*j) DM:=IX λi j h=>by
 simp only[QI,gN,QR]at h;exact h
theorem vt:bi K (ipC ur λi j=>i/j) yv:=IX λi j h=>by
 simp only[QI,QR]at h;exact h
abbrev fJ:=CG
theorem BF(b:X.calm=PP):dA X (.builtin "sum") (λxs H Q=>∃(a:PX) (ns:List Int),xs=[.ref a]/\SqL X.K H a (ns.map V.int)/\Q (.int ns.sum) H):=tu b
theorem MS:eL K (λxs H Q=>∃(a:PX) (ns:List Int),xs=[.ref a]/\SqL K H a (ns.map V.int)/\Q (.int ns.sum) H) fJ:=O8
def JM(H:Hp)(b l:PX):Prop:=∃(cells:List Int) (i j:Int),H b=on (.lst [.ref l,.int i,.int j])/\H l=on (.lst (cells.map V.int))/\cells≠[]/\cells.length<=64/\(∀c∈cells,0<=c)/\0<=j
theorem K9(h:k<n):ixN n (k:Int)=on k:=by
 unfold ixN;rw[P6 (by omega),P6 (by omega)];simp
theorem Py(ns:List Int):∃a:List Int,mJ (ns.map V.int) PH (on 63)=a.map V.int/\a.length<=63:=by
 refine⟨(ns.drop (HT.sIx ns.length 0 PH)).take (HT.sIx ns.length ns.length (on 63)-HT.sIx ns.length 0 PH),?_,?_⟩
 ·unfold mJ
  rw[PF,Uy,Ux]
 ·rw[Rp]
  have:HT.sIx ns.length ns.length (on 63)<=63:=by
   unfold HT.sIx;simp;omega
  omega
def OO(K:Qp):Sp:=λvs H Q _=>∃(a:PX) (ns:List Int),vs=[.ref a]/\SqL K H a (ns.map V.int)/\∀(b l:PX) (c:Hp),H b=PH->H l=PH->JM c b l->bL H c->Q (.ref b) c
def IF(K:Qp):Sp:=λvs H Q _=>∃(a:PX) (ns:List Int),vs=[.ref a]/\SqL K H a (ns.map V.int)/\ns.length<=63/\∀b,Q (.bl PP) b
theorem Ls(sm:bL H₀ H)(A:H₀ b=PH)(C:H₀ l=PH)(B:JM H b l):∃β,β.ok/\SOk K H₀ (λc=>if c=b\/c=l then on 1 else PH) (on (b,l)) H (PH::on (.sh .bag)::Qm n PH) β (on (.ref a)::on (.ref b)::Qm n PH):=by
 obtain⟨cells,i,j,g,h,p,v,w,y⟩:=B;have m:b≠l:=O4 g h (by
  intro z;cases cells with
  |nil=>exact p rfl
  |cons c r=>simp at z)
 refine⟨⟨cells,i,j⟩,⟨p,v,w,y⟩,⟨⟨λc f=>?_,λt u e=>?_,λt u e=>?_⟩,λt u e=>?_,by simp,λc f=>?_,λc k f=>(by
  have d:(if c=b\/c=l then on 1 else PH)=on (k+2):=f;split at d<;>cases d),λc k f=>(by
  have d:(if c=b\/c=l then on 1 else PH)=on (k+2):=f;split at d<;>cases d),λk s e=>?_⟩⟩
 ·have d:(if c=b\/c=l then on 1 else PH)≠(PH:Option Nat):=f
  split at d
  ·rename_i q
   rcases q with rfl|rfl
   ·rw[g];simp
   ·rw[h];simp
  ·exact Qu rfl d
 ·cases e
  refine⟨?_,?_,m⟩
  ·show(if b=b\/b=l then on 1 else PH)≠(PH:Option Nat)
   rw[P6 (.inl rfl)];simp
  ·show(if l=b\/l=l then on 1 else PH)≠(PH:Option Nat)
   rw[P6 (.inr rfl)];simp
 ·cases e
  exact⟨g,h⟩
 ·cases e
  exact⟨P6 (.inl rfl),P6 (.inr rfl)⟩
 ·cases q:H₀ c with
  |none=>exact Qu q f
  |some o=>rw[sm c o q];simp
 ·match k with
  |0=>simp at e
  |1=>
   simp at e;subst e;exact⟨.ref b,rfl,b,l,rfl,rfl⟩
  |k+2=>
   simp only[Xw,Sw]at e;split at e<;>cases e
variable{P:QD}{w:QS}{mg:QN->Option PY}{base:Rl}
theorem bf{st:Rh}{N ps:List QN}(n m:Nat)(g:G)(F:FunD K x qual st f fd)(S:FnScope N ps (ag st))(hn:ps.length=n)(hm:N.length=m)
  (a:∀(b:PY) (A:Rg) (outer:List WV) (s:P7) (H:Hp) (E:XK),Room k (A.deeper (Uz qual (ag st) s.heap.objs.size f b))->
   PSs (fW (CXE P w) P w K mg base N qual (ag st) f b A outer s H E) (cK st) (tG K H g (λ_=>E))):FnOk P w K mg base (CXE P w) (k+1) f fd ps (spF K n (c8 m g)):=by
 subst hn hm;exact Lh F S a
end
end L2.Pu
namespace L2
open PySem PySem.Spec PyProof.Rows
theorem CmpScope.ofB{X:Cx}{scope:Scope}{caps:List Nat}(k:scope.kind= .function)(nd:(scope.names.map (·.1)).Nodup)
  (fr:(scope.names.all λy=>y.2 != .free||(X.env.scope.names.lookup y.1==on .cell||X.env.scope.names.lookup y.1==on .free))=PP) (a:Nc=vars++caps.map (λj=>X.N.getD j TR))
  (b:(caps.all λj=>decide (j<X.N.length)&&scope.names.lookup (X.N.getD j TR)==on .free)=PP):CmpScope X scope Nc vars caps:=by
 refine⟨k,nd,λy c e=>?_,a,λj d=>?_⟩
 ·have:=TH.mp fr y c
  rw[e]at this;simp only[Tk,Bool.false_or,Bool.or_eq_true,TX]at this;exact this
 ·have:=TH.mp b j d
  simp only[QI,QR,TX]at this;exact this
end L2
namespace L2.Pu
theorem oC(i j:Int):lC (.int i) (.int j)=on (.int (i+j)):=rfl
theorem kF(i j:Int):Oq (.int i) (.int j)=on (.int (i+j)):=rfl
theorem ow(i j:Int):CI (.int i) (.int j)=on (.int (i-j)):=rfl
theorem oz(i j:Int):modD (.int i) (.int j)=if decide (0<j)=PP then on (.int (i % j))else PH:=rfl
theorem rO(i j:Int):ltD (.int i) (.int j)=on (.bl (decide (i<j))):=rfl
theorem rP(i j:Int):leD (.int i) (.int j)=on (.bl (decide (i<=j))):=rfl
theorem rQ(i j:Int):gtD (.int i) (.int j)=on (.bl (decide (j<i))):=rfl
theorem rR(i j:Int):geD (.int i) (.int j)=on (.bl (decide (j<=i))):=rfl
end L2.Pu
namespace L2.Pu
open PySem PySem.Spec
def okD:Nat->D->Prop
 |_,.int _=>True
 |_,.bl _=>True
 |_,.str _=>True
 |_,.non=>True
 |n+1,.lst xs=>xs.length<=Qk/\∀x∈xs,okD n x
 |n+1,.tup xs=>xs.length<=Qk/\∀x∈xs,okD n x
 |_,_=>False
def jD(rec:List D->M D):G:=
  aW (gIf (ii (aB fR (ae (ah 1) (ae (aB cI (ae (fC (.ty "list")) (ae (fC (.ty "tuple")) (ay)))) (ay))))) (aW (gIf (gm (fB (f2 (dT) (aB cM (ae (ah 1) (ae (fC (.ty "list")) (ay)))) (aB cM (ae (ah 0) (ae (fC (.ty "list")) (ay)))))) (fB (f2 (dT) (aB cM (ae (ah 1) (ae (fC (.ty "tuple")) (ay)))) (aB cM (ae (ah 0) (ae (fC (.ty "tuple")) (ay))))))) (da (fC (.bl PU))) (gNil))
  (aW (gIf (fB (f2 (dT) (aB cB (ae (ah 0) (ay))) (aB cB (ae (ah 1) (ay))))) (da (fC (.bl PU))) (gNil))
  (da (f2 (inD PP) (fC (.bl PU)) (cw 2 [] (i5 (ae (ah 0) (ae (ah 1) (ay)))) (tgT (dG (tgC 0) (dG (tgC 1) hV))) (λ_=>M.ret PP) (cEm (ci rec (ae (ah 0) (ae (ah 1) (ay)))))))))) (gNil))
  (aW (gIf (fB (f2 (ig) (ah 1) (fC .non))) (da (f2 (ig) (ah 0) (fC .non))) (gNil))
  (aW (gIf (gm (fB (f2 (dT) (aB cM (ae (ah 1) (ae (fC (.ty "str")) (ay)))) (aB cM (ae (ah 0) (ae (fC (.ty "str")) (ay)))))) (fB (f2 (dT) (aB cM (ae (ah 1) (ae (fC (.ty "bool")) (ay)))) (aB cM (ae (ah 0) (ae (fC (.ty "bool")) (ay))))))) (da (fC (.bl PU))) (gNil))
  (da (lx (aB fR (ae (ah 0) (ae (aB cI (ae (fC (.ty "int")) (ae (fC (.ty "str")) (ay)))) (ay)))) (f2 (gn) (ah 0) (ah 1))))))
def fQ:Nat->List D->M D
 |0=>λ_=>M.fail
 |n+1=>c8 2 (jD (fQ n))
theorem gv:(0:Nat)+1+1<=Qk:=by decide
theorem fX:(2:Nat)<=Qk:=by decide
theorem pF:∀xs:List D,(∀x∈xs,rec [x,x] β=on (.ok (.bl PP),β))->
  cLp (tgT (dG (tgC 0) (dG (tgC 1) hV))) (λ_=>M.ret PP) (cEm (ci rec (ae (ah 0) (ae (ah 1) (ay))))) (dF xs xs) [PH,PH] β=on (.ok (Qm xs.length (.bl PP)),β)
 |[],_=>rfl
 |x::xs,h=>by
  have ih:=pF xs λy a=>h y (PN _ a);have b:=h x PZ;unfold dF cLp;simp only[tgT,dG,hV,tgC,cEm,Option.isNone_none,Option.isNone_some,Rw,Se,Sd,SD,SC,QY,ci,ae,ay,ah,M.bind,M.ret,M.ofO,b,ih,reduceIte];rfl
theorem v3(n:Nat):(Qm n (D.bl PP)).all dU=PP:=by
 induction n with
 |zero=>rfl
 |succ n ih=>rw[QL,Vl,ih];rfl
theorem wY(n:Nat):inB (.bl PU) (Qm n (D.bl PP))=PU:=by
 unfold inB
 induction n with
 |zero=>rfl
 |succ n ih=>rw[QL,Uw,ih];rfl
theorem rh:∀(n:Nat) (d:D) (β:Bg),okD n d->fQ (n+1) [d,d] β=on (.ok (.bl PP),β)
 |n,.int i,β,_=>by
  unfold fQ c8 jD;simp only[aW,gj,n9,gl,da,gIf,Pu.gNil,jU,rL,jT,rK,kC,rJ,hNo,ah,fC,f1,f2,ay,ae,aB,ci,fB,ii,oq,gm,iD,lx,fOr,rN,fIf,dZ,cu,bV,i5,oj,nW,nV,M.bind,M.ret,M.ofO,M.fail,vw,vwA,stD,Qb,RG,Se,Sd,SD,SC,Qa,Sx,SZ,QL,QC,RF,Rq,Ss,Nat.reduceSub,Nat.reduceAdd,Nat.reduceLT,Nat.reduceLeDiff,Int.reduceLT,Int.reduceLE,oC,kF,ow,oz,rO,rP,rQ,rR,lz,ly,oB,oy,oA,ox,SE,asB,kP,ig,nP,isN,ph,cI,dm,sgT,lZ,l3,sgN,Rb,Rw,TW,cB,rY,cM,fR,tyD,jS,jR,QY,QX,reduceIte,Ry,SH,TU,Tl,Qd,fX,gv]
 |n,.bl i,β,_=>by
  unfold fQ c8 jD;simp only[aW,gj,n9,gl,da,gIf,Pu.gNil,jU,rL,jT,rK,kC,rJ,hNo,ah,fC,f1,f2,ay,ae,aB,ci,fB,ii,oq,gm,iD,lx,fOr,rN,fIf,dZ,cu,bV,i5,oj,nW,nV,M.bind,M.ret,M.ofO,M.fail,vw,vwA,stD,Qb,RG,Se,Sd,SD,SC,Qa,Sx,SZ,QL,QC,RF,Rq,Ss,Nat.reduceSub,Nat.reduceAdd,Nat.reduceLT,Nat.reduceLeDiff,Int.reduceLT,Int.reduceLE,oC,kF,ow,oz,rO,rP,rQ,rR,lz,ly,oB,oy,oA,ox,SE,asB,kP,ig,nP,isN,ph,cI,dm,sgT,lZ,l3,sgN,Rb,Rw,TW,cB,rY,cM,fR,tyD,jS,jR,QY,QX,reduceIte,Ry,SH,TU,Tl,Qd,fX,gv]
 |n,.str i,β,_=>by
  unfold fQ c8 jD;simp only[aW,gj,n9,gl,da,gIf,Pu.gNil,jU,rL,jT,rK,kC,rJ,hNo,ah,fC,f1,f2,ay,ae,aB,ci,fB,ii,oq,gm,iD,lx,fOr,rN,fIf,dZ,cu,bV,i5,oj,nW,nV,M.bind,M.ret,M.ofO,M.fail,vw,vwA,stD,Qb,RG,Se,Sd,SD,SC,Qa,Sx,SZ,QL,QC,RF,Rq,Ss,Nat.reduceSub,Nat.reduceAdd,Nat.reduceLT,Nat.reduceLeDiff,Int.reduceLT,Int.reduceLE,oC,kF,ow,oz,rO,rP,rQ,rR,lz,ly,oB,oy,oA,ox,SE,asB,kP,ig,nP,isN,ph,cI,dm,sgT,lZ,l3,sgN,Rb,Rw,TW,cB,rY,cM,fR,tyD,jS,jR,QY,QX,reduceIte,Ry,SH,TU,Tl,Qd,fX,gv]
 |n,.non,β,_=>by
  unfold fQ c8 jD;simp only[aW,gj,n9,gl,da,gIf,Pu.gNil,jU,rL,jT,rK,kC,rJ,hNo,ah,fC,f1,f2,ay,ae,aB,ci,fB,ii,oq,gm,iD,lx,fOr,rN,fIf,dZ,cu,bV,i5,oj,nW,nV,M.bind,M.ret,M.ofO,M.fail,vw,vwA,stD,Qb,RG,Se,Sd,SD,SC,Qa,Sx,SZ,QL,QC,RF,Rq,Ss,Nat.reduceSub,Nat.reduceAdd,Nat.reduceLT,Nat.reduceLeDiff,Int.reduceLT,Int.reduceLE,oC,kF,ow,oz,rO,rP,rQ,rR,lz,ly,oB,oy,oA,ox,SE,asB,kP,ig,nP,isN,ph,cI,dm,sgT,lZ,l3,sgN,Rb,Rw,TW,cB,rY,cM,fR,tyD,jS,jR,QY,QX,reduceIte,Ry,SH,TU,Tl,Qd,fX,gv]
 |n+1,.lst xs,β,h=>by
  have h':xs.length<=Qk/\∀x∈xs,okD n x:=h;have c:=pF (rec:=fQ (n+1)) (β:=β) xs λx a=>rh n x β (h'.2 x a);have b:(Qm xs.length (D.bl PP)).length<=Qk:=by rw[Ru];exact h'.1
  unfold fQ c8 jD;simp only[aW,gj,n9,gl,da,gIf,Pu.gNil,jU,rL,jT,rK,kC,rJ,hNo,ah,fC,f1,f2,ay,ae,aB,ci,fB,ii,oq,gm,iD,lx,fOr,rN,fIf,dZ,cu,bV,i5,oj,nW,nV,M.bind,M.ret,M.ofO,M.fail,vw,vwA,stD,Qb,RG,Se,Sd,SD,SC,Qa,Sx,SZ,QL,QC,RF,Rq,Ss,Nat.reduceSub,Nat.reduceAdd,Nat.reduceLT,Nat.reduceLeDiff,Int.reduceLT,Int.reduceLE,oC,kF,ow,oz,rO,rP,rQ,rR,lz,ly,oB,oy,oA,ox,SE,asB,kP,ig,nP,isN,ph,cI,dm,sgT,lZ,l3,sgN,Rb,Rw,TW,cB,rY,cM,fR,tyD,jS,jR,QY,QX,reduceIte,Ry,SH,TU,Tl,Qd,fX,gv,cw,uv,eE,cSt,c,b,inD,v3,wY,dU,Uu]
 |n+1,.tup xs,β,h=>by
  have h':xs.length<=Qk/\∀x∈xs,okD n x:=h;have c:=pF (rec:=fQ (n+1)) (β:=β) xs λx a=>rh n x β (h'.2 x a);have b:(Qm xs.length (D.bl PP)).length<=Qk:=by rw[Ru];exact h'.1
  unfold fQ c8 jD;simp only[aW,gj,n9,gl,da,gIf,Pu.gNil,jU,rL,jT,rK,kC,rJ,hNo,ah,fC,f1,f2,ay,ae,aB,ci,fB,ii,oq,gm,iD,lx,fOr,rN,fIf,dZ,cu,bV,i5,oj,nW,nV,M.bind,M.ret,M.ofO,M.fail,vw,vwA,stD,Qb,RG,Se,Sd,SD,SC,Qa,Sx,SZ,QL,QC,RF,Rq,Ss,Nat.reduceSub,Nat.reduceAdd,Nat.reduceLT,Nat.reduceLeDiff,Int.reduceLT,Int.reduceLE,oC,kF,ow,oz,rO,rP,rQ,rR,lz,ly,oB,oy,oA,ox,SE,asB,kP,ig,nP,isN,ph,cI,dm,sgT,lZ,l3,sgN,Rb,Rw,TW,cB,rY,cM,fR,tyD,jS,jR,QY,QX,reduceIte,Ry,SH,TU,Tl,Qd,fX,gv,cw,uv,eE,cSt,c,b,inD,v3,wY,dU,Uu]
 |0,.lst _,_,h=>h.elim
 |0,.tup _,_,h=>h.elim
 |_,.ty _,_,h=>by cases ‹Nat›<;>exact h.elim
 |_,.txt,_,h=>by cases ‹Nat›<;>exact h.elim
 |_,.scr _,_,h=>by cases ‹Nat›<;>exact h.elim
 |0,.obj _ _ _,_,h=>h.elim
 |_+1,.obj _ _ _,_,h=>h.elim
 |_,.bag,_,h=>by cases ‹Nat›<;>exact h.elim
 |0,.adr _,_,h=>h.elim
 |_+1,.adr _,_,h=>h.elim
 |0,.dct _ _ _,_,h=>h.elim
 |_+1,.dct _ _ _,_,h=>h.elim
theorem rT{ds os:List D}(a:it δ β=on (.ok ds,β1))(c:cLp tg tt b ds (cSt nv caps δ) β1=on (.ok os,β2))(d:os.length<=Qk):cw nv caps it tg tt b δ β=on (.ok (.lst os),β2):=by
 unfold cw;simp only[a,c,d,QY]
def plD:Nat->D->Prop
 |_,.int _=>True
 |_,.bl _=>True
 |_,.non=>True
 |n+1,.lst xs=>∀x∈xs,plD n x
 |n+1,.tup xs=>∀x∈xs,plD n x
 |_,_=>False
theorem KA:∀(n:Nat) (d:D),plD n d->∃p,toP d=on p/\p.canLay0=PP/\p.depth<=n+1:=by
 have a:∀(n:Nat) (xs:List D),(∀x∈xs,∃p,toP x=on p/\p.canLay0=PP/\p.depth<=n)->∃ps,toPs xs=on ps/\Yy ps=PP/\WC ps<=n:=by
  intro n xs
  induction xs with
  |nil=>intro _;exact⟨[],rfl,rfl,by simp[WC]⟩
  |cons x xs ih=>
   intro h;obtain⟨p,g,j,l⟩:=h x PZ;obtain⟨ps,b,c,f⟩:=ih λy k=>h y (PN _ k);refine⟨p::ps,?_,?_,?_⟩
   ·unfold toPs;simp only[g,b]
   ·simp[Yy,j,c]
   ·simp only[WC];omega
 intro n
 induction n with
 |zero=>
  intro d h;cases d with
  |int i=>exact⟨.int i,rfl,rfl,by simp[Tx]⟩
  |bl i=>exact⟨.bool i,rfl,rfl,by simp[Tx]⟩
  |non=>exact⟨.none,rfl,rfl,by simp[Tx]⟩
  |_=>exact h.elim
 |succ n ih=>
  intro d h;cases d with
  |int i=>exact⟨.int i,rfl,rfl,by simp[Tx]⟩
  |bl i=>exact⟨.bool i,rfl,rfl,by simp[Tx]⟩
  |non=>exact⟨.none,rfl,rfl,by simp[Tx]⟩
  |lst xs=>
   obtain⟨ps,b,c,f⟩:=a (n+1) xs λx e=>ih x (h x e);exact⟨.list ps,by unfold toP;simp[b],by simp[PyData.canLay0,c],by simp only[Tx];omega⟩
  |tup xs=>
   obtain⟨ps,b,c,f⟩:=a (n+1) xs λx e=>ih x (h x e);exact⟨.tuple ps,by unfold toP;simp[b],by simp[PyData.canLay0,c],by simp only[Tx];omega⟩
  |_=>exact h.elim
theorem EU(n:Nat)(h:plD n d)(hn:n<=60):oE d=PP:=by
 obtain⟨p,a,b,c⟩:=KA n d h;unfold oE;simp only[a,UN,b,T1,QR];omega
end L2.Pu
namespace L2.Pu
open PySem PySem.Spec PyProof.Rows
section
variable{X:Cx}{E:St->XK}{K:Qp}{a b:Expr}{es:List Expr}{pos:UL}
theorem To.none(t:To F H H1 β1)(h:H1 p=PH):H p=PH:=by
 cases q:H p with
 |none=>rfl
 |some o=>
  have:H1 p=on o:=t.kp p o q λb l e=>by
   obtain⟨c,d⟩:=t.fr.bag b l e;exact⟨λw=>(by subst w;rw[c]at h;cases h),λw=>(by subst w;rw[d]at h;cases h)⟩
  rw[this]at h;cases h
noncomputable def Fx.but(F:Fx)(a:PX):Fx:=⟨λc=>F.A c\/c=a,F.bg⟩
theorem Fx.tr_but{F:Fx}(fr:Fr F H β1)(d:H p=PH)(hs:∀c o,H c=on o->H1 c=on o):Tr F H (F.but p) H1:=⟨λc e f z=>by
 rcases z with z|z
 ·exact e z
 ·subst z;exact f d,λc o _ h=>hs c o h,rfl⟩
theorem Fx.tr_of{F:Fx}:Tr (F.but p) H F H:=⟨λc h _ z=>h (RT z),λ_ _ _ h=>h,rfl⟩
def mX(K:Qp)(F:Fx)(H0 H:Hp)(ds:List D)(v:V):Prop:=∃a xs,v= .ref a/\H0 a=PH/\H a=on (.lst xs)/\DenL K (F.but a) H ds xs
def tVO(K:Qp)(f:FL)(E:St->XK):TE:=λc H Q=>∃F δ β,Fr F H β/\VOk K F H δ c/\run (mX K F H) F E c (f δ) H Q β
def tVG(K:Qp)(f:Dn->M (List (List D)))(E:St->XK):TE:=λc H Q=>∃F δ β,Fr F H β/\VOk K F H δ c/\run (g9 K F H) F E c (f δ) H Q β
noncomputable def szL(ds:List D):Option (List D):=if ds.length<=Qk then on ds else PH
theorem mX.new(t:To F H H1 β1)(d:H1 p=PH)(hd:DenL K F H1 ds xs):mX K F H (upd H1 p (.lst xs)) ds (.ref p):=
 ⟨p,xs,rfl,t.none d,aq,DenL.tr (Fx.tr_but t.fr d λc o h=>by rw[upd_ne (aA h d)];exact h) _ _ hd⟩
theorem DenL.rep(h:DenL K F H ds xs):∀n:Nat,DenL K F H (Qm n ds).flatten (Qm n xs).flatten
 |0=>rfl
 |n+1=>by
  rw[QL,SS,QL,SS];exact DenL.append h (DenL.rep h n)
noncomputable def uS(ds:List D)(d:D):Option (List D):=match d with
 | .int k=>if(decide (-(2^63)<=k)&&decide (k<2^63)&&decide (ds.length<=Qk)&&decide (ds.length*k.toNat<=Qk))=PP then on (Qm k.toNat ds).flatten else PH
 |_=>PH
def DH(g:FL)(f:FD):FL:=λδ=>M.bind (g δ) λds=>M.bind (M.ofO (szL ds)) λds=>M.bind (f δ) λd=>M.ofO (uS ds d)
theorem O0(ha:PA X es (tVA X.K g E))(O:PE X b (tV X.K f E)):PE X (.BinOp (.List es pos') .Mult b pos) (tVO X.K (DH g f) E):=
 (dR Mu (fF ha) O).imp λT H Q j=>ex6 j λF δ β fr B r=>⟨F,δ,β,fr,B,(run.bind (R:=DenL X.K F) r).mono λvs U j=>by
  obtain⟨ds,β1,t,hd,r1⟩:=j;obtain⟨W,n,Y⟩:=run.ofO_bind r1;unfold szL at n;split at n
  ·rename_i Z
   cases n;refine⟨by rw[←hd.length];exact Z,λp I=>?_⟩;have m:=t.fr.upd (.lst vs) I;have J:=t.fr.fresh I;refine⟨F,δ,β1,m.fr,(B.tr (t.tr fr)).tr (m.tr t.fr),?_⟩;obtain⟨L,β2,e,h⟩:=Y;have u:run (mX X.K F H) F E T (M.bind (f δ) λd=>M.ofO (uS ds d)) (upd U p (.lst vs)) Q β1:=by
    refine⟨L,β2,e,?_⟩;cases L with
    |ok d=>exact λv y c=>h v y (m.trans c)
    |error C=>exact λy c=>h y (m.trans c)
   refine(run.bind (R:=Den X.K F) u).mono λw H2 j=>ex5 j λd β3 c hw r3=>?_;obtain⟨os,i,k⟩:=run.ofO r3;unfold uS at i;split at i
   ·split at i
    ·rename_i kk o
     cases i;simp only[QI,QR]at o;cases hw;have A:H2 p=on (.lst vs):=c.kp p _ aq λb l q=>⟨λz=>J (z▸(fr.bgA b l q).1),λz=>J (z▸(fr.bgA b l q).2.1)⟩;have tt:=m.trans c;exact⟨p,_,vs,rfl,rfl,A,o.1.1.1,o.1.1.2,by rw[←hd.length];exact o.2,λq N=>k _ _ (c.fr.upd _ N) (mX.new (t.trans tt) N ((DenL.tr (tt.tr t.fr) _ _ hd).rep _))⟩
    ·cases i
   ·cases i
  ·cases n⟩
def gX(nv:Nat)(caps:List Nat)(it:Dn->M (List Pu.D))(tg:TgF)(tt:Dn->M Bool)(b:Dn->M (List Pu.D)):Dn->M (List Pu.D):=λδ β=>match it δ β with
 |none=>PH
 |some (.error C,β1)=>on (.error C,β1)
 |some (.ok ds,β1)=>match cLp tg tt b ds (cSt nv caps δ) β1 with
  |some (.ok os,β2)=>if os.length<=Qk then on (.ok os,β2)else PH
  |_=>PH
theorem yW{vars:List QN}{caps:List Nat}{it:Dn->M (List Pu.D)}{g:TG}{tg:TgF}{tt:Dn->M Bool}{I:PX->TB}{b:Dn->M (List Pu.D)}(U:cL K g tg)(W:dN tg)(Y:∀D,jK K D (I D) b){L:St}{H:Hp}{Q:VK}(h:tVO K (gX vars.length caps it tg tt b) E L H Q):
  pR vars caps (iV K it E) (λD J=>c7 J g (tVT K tt E0) (I D)) L H Q:=by
 obtain⟨F,δ,β,fr,N,r,k,e,h⟩:=h;unfold gX at e;refine⟨F,δ,β,fr,N,?_⟩;split at e
 ·cases e
 ·rename_i C β1 q
  cases e;exact⟨.error C,_,q,h⟩
 ·rename_i ds β1 q
  split at e
  ·rename_i os β2 q2
   split at e
   ·rename_i Z
    cases e;refine⟨.ok ds,β1,q,λJ j t hJ D c=>?_⟩;have d:¬F.A D:=t.fr.fresh c;have nb:∀b l,F.bg=on (b,l)->D≠b/\D≠l:=λb l z=>⟨λw=>d (w▸(fr.bgA b l z).1),λw=>d (w▸(fr.bgA b l z).2.1)⟩;have O:=t.fr.upd (.lst []) c;have m:Fr ⟨λa=>F.A a\/a=D,F.bg⟩ (upd j D (.lst [])) β1:=by
     refine⟨λa ha z=>?_,λb l z=>let ⟨x,y,w⟩:=fr.bgA b l z;⟨.inl x,.inl y,w⟩,O.fr.bag⟩
     rcases ha with ha|ha
     ·exact O.fr.occ a ha z
     ·subst ha;rw[aq]at z;cases z
    have f:Tr F j ⟨λa=>F.A a\/a=D,F.bg⟩ (upd j D (.lst [])):=⟨λa ha hs z=>by
     rcases z with z|z
     ·exact ha z
     ·subst z;exact hs c,λa o ha z=>by rw[upd_ne (aA z c)];exact z,rfl⟩
    refine nR (R:=RL K) (D:=D) (as:=[]) (os:=os) U W (Y D) m (.inr rfl) nb (qO (N.tr ((t.tr fr).trans f))) ⟨[],aq,rfl⟩ (hJ.tr f) q2 (show os.length<=Qk from Z) λσ1 T p vk3 u=>?_;obtain⟨i,v,B⟩:=u;have tf:To F j T k:=by
     refine⟨λa o z n=>p.kp a o (by rw[upd_ne (aA z c)];exact z) (aA z c) n,λa ha z=>p.fr.occ a (RT ha) z,fr.bgA,p.fr.bag⟩
    exact h _ T (t.trans tf) ⟨D,i,rfl,t.none c,v,B⟩
   ·cases e
  ·cases e
def pG(tg:TgF)(tt:Dn->M Bool)(b:Dn->M (List (List Pu.D))):List Pu.D->Dn->M (List (List Pu.D))
 |[],_=>M.ret []
 |d::ds,δ=>match tg d δ with
  |none=>M.fail
  |some δ1=>M.bind (tt δ1) λc=>M.bind (if c=PP then b δ1 else M.ret []) λo=>M.bind (pG tg tt b ds δ) λos=>M.ret (o++os)
def RwA(K:Qp)(F:Fx)(D:PX)(H0 H:Hp)(as:List (List Pu.D))(acc:List V):Prop:=(∀c,H0 c≠PH->H c≠PH)/\∃rs,acc=rs.map V.ref/\(D::rs).Nodup/\RowL K F H (λr=>H0 r=PH) as rs
theorem RwA.mono{F:Fx}{D:PX}(g:F.A D)(i:∀b l,F.bg=on (b,l)->H0 b≠PH/\H0 l≠PH)(fr:Fr F H β)(t:ToD F D H H1 β1)(h:RwA K F D H0 H as acc):RwA K F D H0 H1 as acc:=by
 obtain⟨cv,rs,e,nd,j⟩:=h;refine⟨λc k z=>?_,rs,e,nd,RowL.tr (t.tr fr g) j λr xs m p q=>⟨p,t.kp r _ q (λz=>?_) λb l w=>⟨λz=>?_,λz=>?_⟩⟩⟩
 ·cases q:H c with
  |none=>exact cv c k q
  |some o=>
   by_cases hd:c=D
   ·subst hd;exact t.fr.occ _ g z
   ·by_cases d:∃b l,F.bg=on (b,l)/\(c=b\/c=l)
    ·obtain⟨b,l,w,f⟩:=d
     rcases f with rfl|rfl
     ·exact t.fr.occ _ (fr.bgA _ _ w).1 z
     ·exact t.fr.occ _ (fr.bgA _ _ w).2.1 z
    ·rw[t.kp c o q hd λb l w=>⟨λy=>d ⟨b,l,w,.inl y⟩,λy=>d ⟨b,l,w,.inr y⟩⟩]at z
     cases z
 ·subst z;exact(QW.mp nd).1 m
 ·subst z;exact(i _ _ w).1 p
 ·subst z;exact(i _ _ w).2 p
def qS(K:Qp)(D:PX)(i:TB)(f:Dn->M (List (List Pu.D))):Prop:=∀(F:Fx) (H0 H:Hp) (δ:Dn) (β d:Bg) (h:St) (acc:List V) (as os:List (List Pu.D)) (Q:St->Hp->Prop),Fr F H β->F.A D->(∀b l,F.bg=on (b,l)->D≠b/\D≠l)->(∀b l,F.bg=on (b,l)->H0 b≠PH/\H0 l≠PH)->VOk K F H δ h->H D=on (.lst acc)->RwA K F D H0 H as acc->
 f δ β=on (.ok os,d)->as.length+os.length<=Qk->(∀e g c,ToD F D H g d->VOk K F g δ e->g D=on (.lst c)->RwA K F D H0 g (as++os) c->Q e g)->i h H Q
def vX(f:Dn->M (List Pu.D)):Dn->M (List (List Pu.D)):=λδ=>M.bind (f δ) λd=>M.ret [d]
theorem RowL.snoc{P:PX->Prop}(p:P r)(c:H r=on (.lst xs))(d:DenL K F H ds xs):∀{rows:List (List Pu.D)} {rs:List PX},RowL K F H P rows rs->RowL K F H P (rows++[ds]) (rs++[r])
 |[],[],_=>⟨p,⟨xs,c,d⟩,trivial⟩
 |_::_,_::_,h=>⟨h.1,h.2.1,RowL.snoc p c d h.2.2⟩
 |[],_::_,h=>h.elim
 |_::_,[],h=>h.elim
theorem wS{D:PX}:qS K D (yD D (tVO K f E0)) (vX f):=λF H0 H δ β i Z acc as os Q fr j m R T U hd e hz k=>by
 obtain⟨d,β1,e1,e2⟩:=M.bind_inv e;cases e2;refine⟨F,δ,β,fr,T,E0.run e1 λv W t hv=>?_⟩;have p:=t.kp D _ U m;have u:=hd.mono j R fr (t.toD D);obtain⟨r,xs,rfl,n0,n1,n2⟩:=hv;obtain⟨cv,rs,A,nd,Y⟩:=u;obtain⟨B,c,C,I,J⟩:=hd;have g:acc.length=as.length:=by rw[A,PF,Y.len]
 have L:c=rs:=by
  have:c.map V.ref=rs.map V.ref:=C.symm.trans A;exact We (λa b q=>by cases q;rfl)|>.mp this
 subst L;have nD:r≠D:=λz=>by subst z;rw[U]at n0;cases n0
 have nr:r∉c:=λz=>by
  obtain⟨_,ys,q⟩:=J.all r z;rw[q]at n0;cases n0
 have N:H0 r=PH:=by
  cases q:H0 r with
  |none=>rfl
  |some o=>exact Qu n0 (B r (by rw[q];simp))
 refine⟨acc,p,by rw[g];simp at hz;omega,?_⟩;have O:ToD F D W (upd W D (.lst (acc++[.ref r]))) i:=by
  refine⟨λa o h n _=>by rw[upd_ne n];exact h,λa h q=>?_,fr.bgA,λb l q=>?_⟩
  ·by_cases z:a=D
   ·subst z;rw[aq]at q;cases q
   ·rw[upd_ne z]at q;exact t.fr.occ a h q
  ·rw[upd_ne (m b l q).1.symm,upd_ne (m b l q).2.symm]
   exact t.fr.bag b l q
 have tt:=O.tr t.fr j;refine k Z _ _ ((t.toD D).trans O) (T.tr ((t.tr fr).trans tt)) aq (RwA.mono j R t.fr O ⟨cv,c++[r],by rw[A,QG];rfl,?_,RowL.snoc N n1 (DenL.tr Fx.tr_of _ _ n2) Y⟩);rw[←RF,Wr];refine⟨I,by simp,λx hx y hy=>?_⟩;obtain rfl:y=r:=by simpa using hy
 rcases Qf.mp hx with rfl|hx
 ·exact nD.symm
 ·exact λz=>nr (z▸hx)
end
section
variable{X:Cx}{E:St->XK}{K:Qp}
theorem KZ{D:PX}(hg:cL K g tg)(sg:dN tg)(hb:qS K D tb b){F:Fx}{as os:List (List Pu.D)}(fr:Fr F H β)(Z:F.A D)(hn:∀b l,F.bg=on (b,l)->D≠b/\D≠l)(h0:∀b l,F.bg=on (b,l)->H0 b≠PH/\H0 l≠PH)(vk:VOk K F H δ σ)(hD:H D=on (.lst acc))(hd:RwA K F D H0 H as acc)
  (it:ItD K J F H ds) (e:pG tg tt b ds δ β=on (.ok os,β')) (hz:as.length+os.length<=Qk) (k:∀f n a,ToD F D H n β'->VOk K F n δ f->n D=on (.lst a)->RwA K F D H0 n (as++os) a->Q f n):c7 J g (tVT K tt E0) tb σ H Q:=by
 refine⟨λi m f n=>m+i=ds.length/\∃β1 a j t,ToD F D H n β1/\VOk K F n δ f/\n D=on (.lst a)/\RwA K F D H0 n j a/\pG tg tt b (ds.drop i) δ β1=on (.ok t,β')/\j++t=as++os,
  ⟨ds.length,by omega,β,acc,as,os,⟨λ_ _ h _ _=>h,fr⟩,vk,hD,hd,e,rfl⟩,?_⟩
 rintro i m f n ⟨hm,β1,a,j,t,u,B,C,I,r,ea⟩;have tr1:=u.tr fr Z;obtain⟨iy,is⟩:=it F n β1 tr1 u.fr i;cases hi:ds[i]? with
 |none=>
  have hl:ds.length<=i:=Vb.mp hi;rw[R3 hl]at r;cases r;refine .inl ⟨is (by omega),k f n a u B C ?_⟩;rw[←ea,QC];exact I
 |some d=>
  have hl:i<ds.length:=(P9.mp hi).1;obtain⟨go,yl⟩:=iy d hi;have ed:ds.drop i=d::ds.drop (i+1):=by
   rw[QT hl];congr 1;exact QB ((PM hl).symm.trans hi)
  rw[ed]at r;unfold pG at r;cases q:tg d δ with
  |none=>rw[q]at r;cases r
  |some δ1=>
   rw[q]at r;obtain⟨c,β2,e2,e3⟩:=M.bind_inv r;obtain⟨o,β3,e4,e5⟩:=M.bind_inv e3;obtain⟨L,β4,e6,e7⟩:=M.bind_inv e5;cases e7;obtain⟨s1,s2⟩:=sg _ _ _ q;refine .inr ⟨go,λN O=>∃p,ToD F D H O β3/\VOk K F O δ N/\O D=on (.lst p)/\RwA K F D H0 O (j++o) p,?_,λx H2 hy=>?_⟩
   ·rintro N O ⟨p,t9,vk9,hD9,hd9⟩
    exact⟨m-1,by omega,by omega,β3,p,j++o,L,t9,vk9,hD9,hd9,e6,by rw[Q9];exact ea⟩
   ·obtain⟨sm,dx⟩:=yl x H2 hy
    have y:To F n H2 β1:=u.fr.same sm;have tr2:=y.tr u.fr;refine hg F H2 δ δ1 f d x _ (B.tr tr2) dx q λσ2 v=>⟨F,δ1,β1,y.fr,v,E0.run e2 λc' H3 R ec=>?_⟩;subst ec;have hD2:=sm _ _ C;have T:=R.kp D _ hD2 hn;have U:=R.tr y.fr;have d3:=(I.mono Z h0 u.fr (y.toD D)).mono Z h0 y.fr (R.toD D);have W:ToD F D H H3 β2:=u.trans ((y.trans R).toD D);have hle:j.length+(o++L).length<=Qk:=by
     have:=Re VY ea;simp only[Qh]at this⊢;omega
    cases c' with
    |true=>
     rw[P6 rfl]at e4⊢;refine hb F H0 H3 δ1 β2 β3 σ2 a j o _ R.fr Z hn h0 (v.tr U) T d3 e4 (by rw[Qh]at hle;omega) λσ4 H4 Y t4 vk4 hD4 hd4=>?_;exact⟨Y,W.trans t4,vk4.sub s1 s2,hD4,hd4⟩
    |false=>
     rw[P0 P8]at e4⊢;cases e4;exact⟨a,W,(v.tr U).sub s1 s2,T,by rw[QC];exact d3⟩
def jd(nv:Nat)(caps:List Nat)(it:Dn->M (List Pu.D))(tg:TgF)(tt:Dn->M Bool)(b:Dn->M (List (List Pu.D))):Dn->M (List (List Pu.D)):=λδ β=>match it δ β with
 |none=>PH
 |some (.error C,β1)=>on (.error C,β1)
 |some (.ok ds,β1)=>match pG tg tt b ds (cSt nv caps δ) β1 with
  |some (.ok os,β2)=>if os.length<=Qk then on (.ok os,β2)else PH
  |_=>PH
theorem sw{vars:List QN}{caps:List Nat}{it:Dn->M (List Pu.D)}{g:TG}{tg:TgF}{tt:Dn->M Bool}{I:PX->TB}{b:Dn->M (List (List Pu.D))}(U:cL K g tg)(W:dN tg)(Y:∀D,qS K D (I D) b){L:St}{H:Hp}{Q:VK}(h:tVG K (jd vars.length caps it tg tt b) E L H Q):
  pR vars caps (iV K it E) (λD J=>c7 J g (tVT K tt E0) (I D)) L H Q:=by
 obtain⟨F,δ,β,fr,N,r,k,e,h⟩:=h;unfold jd at e;refine⟨F,δ,β,fr,N,?_⟩;split at e
 ·cases e
 ·rename_i C β1 q
  cases e;exact⟨.error C,_,q,h⟩
 ·rename_i ds β1 q
  split at e
  ·rename_i os β2 q2
   split at e
   ·rename_i Z
    cases e;refine⟨.ok ds,β1,q,λJ f t hJ D d=>?_⟩;have i:¬F.A D:=t.fr.fresh d;have nb:∀b l,F.bg=on (b,l)->D≠b/\D≠l:=λb l z=>⟨λw=>i (w▸(fr.bgA b l z).1),λw=>i (w▸(fr.bgA b l z).2.1)⟩;have O:=t.fr.upd (.lst []) d;have m:Fr ⟨λa=>F.A a\/a=D,F.bg⟩ (upd f D (.lst [])) β1:=by
     refine⟨λa ha z=>?_,λb l z=>let ⟨x,y,w⟩:=fr.bgA b l z;⟨.inl x,.inl y,w⟩,O.fr.bag⟩
     rcases ha with ha|ha
     ·exact O.fr.occ a ha z
     ·subst ha;rw[aq]at z;cases z
    have j:Tr F f ⟨λa=>F.A a\/a=D,F.bg⟩ (upd f D (.lst [])):=⟨λa ha hs z=>by
     rcases z with z|z
     ·exact ha z
     ·subst z;exact hs d,λa o ha z=>by rw[upd_ne (aA z d)];exact z,rfl⟩
    have cv:∀c,H c≠PH->upd f D (.lst []) c≠PH:=λc hc z=>by
     by_cases w:c=D
     ·subst w;rw[aq]at z;cases z
     ·rw[upd_ne w]at z;exact hc (t.none z)
    refine KZ (D:=D) (H0:=H) (as:=[]) (os:=os) U W (Y D) m (.inr rfl) nb (λb l z=>⟨fr.occ _ (fr.bgA b l z).1,fr.occ _ (fr.bgA b l z).2.1⟩) (qO (N.tr ((t.tr fr).trans j))) aq ⟨cv,[],rfl,by simp,trivial⟩ (hJ.tr j) q2 (by simpa using Z) λσ1 R T u vk3 v B=>?_;have tf:To F f R k:=by
     refine⟨λa o z n=>u.kp a o (by rw[upd_ne (aA z d)];exact z) (aA z d) n,λa ha z=>u.fr.occ a (RT ha) z,fr.bgA,u.fr.bag⟩
    obtain⟨_,rs,ea,nd,rl⟩:=B;subst ea;exact h _ R (t.trans tf) ⟨D,rs,rfl,t.none d,v,nd,RowL.tr (F:=⟨λa=>F.A a\/a=D,F.bg⟩) ⟨λa ha _ z=>ha (RT z),λa o _ z=>z,rfl⟩ rl λr xs _ p q=>⟨p,q⟩⟩
   ·cases e
  ·cases e
section
variable{elt target iter:Expr}{ifs:List Expr}{rest:List RQ}{scope:Scope}{pos:UL}{Nc vars:List QN}{caps:List Nat}{g:TG}{tb:PX->TB}
theorem MD(c:X.calm=PP)(S:CmpScope X scope Nc vars caps)(d:PI X target iter (iV X.K it E))
  (e:∀(cl:List (QN×PX)) (C:PX) (a:List PX) (s:P7) (H:Hp),PG (aJ X Nc scope cl C a s H) target g/\dP (aJ X Nc scope cl C a s H) ifs (tVT X.K tt E0)/\∀D,PB (aJ X Nc scope cl C a s H) elt (⟨target,iter,ifs,0⟩::rest) scope pos 0 D (tb D))
  (f:cL X.K g tg) (i:dN tg) (j:∀D,jK X.K D (tb D) b) (hs:∀x,Q0 iter X.env x=SB x:=by intro _;rfl):PE X (.ListComp elt (⟨target,iter,ifs,0⟩::rest) scope pos) (tVO X.K (gX vars.length caps it tg tt b) E):=
 (nG c S d e hs).imp λk H Q h=>yW f i j h
theorem M2(c:X.calm=PP)(S:CmpScope X scope Nc vars caps)(d:PI X target iter (iV X.K it E))
  (e:∀(cl:List (QN×PX)) (C:PX) (a:List PX) (s:P7) (H:Hp),PG (aJ X Nc scope cl C a s H) target g/\dP (aJ X Nc scope cl C a s H) ifs (tVT X.K tt E0)/\∀D,PB (aJ X Nc scope cl C a s H) elt (⟨target,iter,ifs,0⟩::rest) scope pos 0 D (tb D))
  (f:cL X.K g tg) (i:dN tg) (j:∀D,qS X.K D (tb D) b) (hs:∀x,Q0 iter X.env x=SB x:=by intro _;rfl):PE X (.ListComp elt (⟨target,iter,ifs,0⟩::rest) scope pos) (tVG X.K (jd vars.length caps it tg tt b) E):=
 (nG c S d e hs).imp λk H Q h=>sw f i j h
end
mutual
noncomputable def noL:D->Bool
 | .int _=>PP
 | .bl _=>PP
 | .str _=>PP
 | .non=>PP
 | .tup ds=>noLs ds
 |_=>PU
noncomputable def noLs:List D->Bool
 |[]=>PP
 |d::ds=>noL d&&noLs ds
end
mutual
theorem wN{F b:Fx}(hF:∀c,b.A c->F.A c\/∃xs,H c=on (.lst xs)):∀(d:D) (v:V),noL d=PP->Den K F H d v->Den K b H d v
 | .int i,v,_,h=>h
 | .bl i,v,_,h=>h
 | .str i,v,_,h=>h
 | .non,v,_,h=>h
 | .tup ds,v,n,h=>by
  obtain⟨a,xs,e,h1,f⟩:=h;refine⟨a,xs,e,?_,noLs_den hF ds xs (by simpa[noL]using n) f⟩;rcases h1 with⟨h1,r⟩|h1
  ·refine .inl ⟨λz=>?_,r⟩
   rcases hF a z with z|⟨ys,z⟩
   ·exact h1 z
   ·rcases r with r|⟨o,r⟩<;>rw[z]at r<;>cases r
  ·exact .inr h1
 | .lst _,_,n,_=>by simp[noL]at n
 | .scr _,_,n,_=>by simp[noL]at n
 | .ty _,_,n,_=>by simp[noL]at n
 | .txt,_,n,_=>by simp[noL]at n
 | .obj _ _ _,_,n,_=>by simp[noL]at n
 | .bag,_,n,_=>by simp[noL]at n
 | .adr _,_,n,_=>by simp[noL]at n
 | .dct _ _ _,_,n,_=>by simp[noL]at n
theorem noLs_den{F a:Fx}(hF:∀c,a.A c->F.A c\/∃xs,H c=on (.lst xs)):∀(ds:List D) (xs:List V),noLs ds=PP->DenL K F H ds xs->DenL K a H ds xs
 |[],xs,_,h=>h
 |d::ds,xs,n,h=>by
  have b:noL d=PP/\noLs ds=PP:=by simpa[noLs]using n
  obtain⟨x,f,e,g,i⟩:=h;exact⟨x,f,e,wN hF d x b.1 g,noLs_den hF ds f b.2 i⟩
end
theorem RowL.noL{F b:Fx}{P d:PX->Prop}(hF:∀c,b.A c->F.A c\/∃xs,H c=on (.lst xs)):∀{rows:List (List D)} {rs:List PX},(∀ds∈rows,noLs ds=PP)->RowL K F H P rows rs->(∀r∈rs,d r)->RowL K b H d rows rs
 |[],[],_,_,_=>trivial
 |ds::rows,r::rs,n,h,p=>by
  obtain⟨i,⟨xs,e,f⟩,g⟩:=h;exact⟨p r PZ,⟨xs,e,noLs_den hF _ _ (n ds PZ) f⟩,RowL.noL hF (λx a=>n x (PN _ a)) g λx a=>p x (PN _ a)⟩
 |[],_::_,_,h,_=>h.elim
 |_::_,[],_,h,_=>h.elim
theorem SOk.newGrd{δ:Ds}{W:St}(ok:SOk K H₀ B bg H δ β W)(t:To (FxB B bg) H H' β')(hn:∀ds∈rows,noLs ds=PP)(hv:g9 K (FxB B bg) H H' rows v):
  ∃X,SOk K H₀ X bg H' (δ.set i (on (.grd rows))) β' (W.set i (on v))/\Stp B H X H':=by
 classical
 obtain⟨a,rs,rfl,n0,L,nd,I⟩:=hv;have g:∀c,c=a\/c∈rs->H c=PH:=λc hc=>by
  rcases hc with rfl|hc
  ·exact n0
  ·exact(I.all c hc).1
 have hB:∀c,c=a\/c∈rs->B c=PH:=λc hc=>UI λz=>ok.fr.occ c z (g c hc);have Y:∀b l,bg=on (b,l)->¬(b=a\/b∈rs)/\¬(l=a\/l∈rs):=λb l e=>by
  obtain⟨b1,b2⟩:=ok.bgt b l e;exact⟨λz=>(by rw[hB b z]at b1;cases b1),λz=>(by rw[hB l z]at b2;cases b2)⟩
 obtain⟨m,Z⟩:=ok.to rfl t;have J:Stp B H (λc=>if c=a\/c∈rs then on (i+2)else B c) H':=by
  refine⟨Z.kp,λc hc=>?_,λc o h n=>?_,Z.al⟩
  ·have:¬(c=a\/c∈rs):=λz=>by rw[hB c z]at hc;rcases hc with hc|hc<;>cases hc
   simp only[P0 this]
  ·have:¬(c=a\/c∈rs):=λz=>by rw[g c z]at h;cases h
   simp only[P0 this];exact n
 have tr:Tr (FxB B bg) H (FxB (λc=>if c=a\/c∈rs then on (i+2)else B c) bg) H':=J.tr;refine⟨λc=>if c=a\/c∈rs then on (i+2)else B c,⟨⟨λc hc z=>?_,λb l e=>?_,m.fr.bag⟩,λb l e=>?_,by rw[Q3,Q3,ok.len],m.cov,λc k hc=>(by
  have f:(if c=a\/c∈rs then on (i+2)else B c)=on (k+2):=hc;by_cases z:c=a\/c∈rs
  ·cases w:H₀ c with
   |none=>rfl
   |some o=>exact Qu (g c z) (ok.cov c (by rw[w];simp))
  ·rw[P0 z]at f;exact ok.new c k f),λc k hc=>(by
  have f:(if c=a\/c∈rs then on (i+2)else B c)=on (k+2):=hc;by_cases z:c=a\/c∈rs
  ·rcases z with rfl|z
   ·exact⟨_,L⟩
   ·exact(I.all c z).2
  ·rw[P0 z]at f;exact m.lst c k f),λj s e=>?_⟩,J⟩
 ·by_cases q:c=a\/c∈rs
  ·rcases q with rfl|q
   ·rw[L]at z;cases z
   ·obtain⟨_,xs,w⟩:=I.all c q
    rw[w]at z;cases z
  ·have f:(if c=a\/c∈rs then on (i+2)else B c)≠PH:=hc
   rw[P0 q]at f;exact m.fr.occ c f z
 ·obtain⟨O,Q⟩:=Y b l e
  obtain⟨b1,b2⟩:=ok.bgt b l e;refine⟨?_,?_,(ok.fr.bgA b l e).2.2⟩
  ·show(if b=a\/b∈rs then on (i+2)else B b)≠PH
   rw[P0 O,b1];simp
  ·show(if l=a\/l∈rs then on (i+2)else B l)≠PH
   rw[P0 Q,b2];simp
 ·obtain⟨O,Q⟩:=Y b l e
  simp only[P0 O,P0 Q];exact ok.bgt b l e
 ·rw[Ra]at e
  rw[Ra];by_cases q:i=j
  ·subst q
   rw[P6 rfl]at e⊢;split at e
   ·rename_i hl
    cases e;rw[P6 (by rw[←ok.len];exact hl)];refine⟨_,rfl,a,rs,rfl,P6 (.inl rfl),L,nd,RowL.noL (F:=FxB B bg) (λc hc=>?_) hn I λr hr=>P6 (.inr hr)⟩;have f:(if c=a\/c∈rs then on (i+2)else B c)≠PH:=hc;by_cases w:c=a\/c∈rs
    ·rcases w with rfl|w
     ·exact .inr ⟨_,L⟩
     ·exact .inr (I.all c w).2
    ·rw[P0 w]at f
     exact .inl f
   ·cases e
  ·rw[P0 q]at e⊢
   obtain⟨w,R,u⟩:=ok.tell j s e;refine⟨w,R,?_⟩;cases s with
   |sh d=>exact Den.tr tr _ _ u
   |own cs=>
    obtain⟨c,ys,T,A,C,U⟩:=u;have N:¬(c=a\/c∈rs):=λz=>by rw[g c z]at C;cases C
    exact⟨c,ys,T,by simp only[P0 N];exact A,t.kp c _ C (λb l z=>⟨λy=>(by subst y;rw[(ok.bgt _ _ z).1]at A;cases A),λy=>(by subst y;rw[(ok.bgt _ _ z).2]at A;cases A)⟩),DenL.tr tr _ _ U⟩
   |grd rows2=>
    obtain⟨c,qs,T,A,C,U,e5⟩:=u;have N:∀c,H c≠PH->¬(c=a\/c∈rs):=λc hc z=>hc (g c z);have kk:∀c o,H c=on o->B c=on (j+2)->H' c=on o:=λc o R u=>t.kp c o R (λb l z=>⟨λy=>(by subst y;rw[(ok.bgt _ _ z).1]at u;cases u),λy=>(by subst y;rw[(ok.bgt _ _ z).2]at u;cases u)⟩);exact⟨c,qs,T,by simp only[P0 (N c (by rw[C];simp))];exact A,kk c _ C A,U,RowL.tr tr e5 λr xs _ p y=>⟨by simp only[P0 (N r (by rw[y];simp))];exact p,kk r _ y p⟩⟩
end
section
variable{X:Cx}{E:St->XK}{K:Qp}{st:Rh}{H₀:Hp}{B:Ow}{bg:Option (PX×PX)}{H H':Hp}{δ:Ds}{β β':Bg}{σ:St}
def vF(i:Nat)(f:Dn->M (List (List D))):G:=λδ β=>match f (vw δ) β with
 |some (.ok rows,β1)=>if(rows.all noLs)=PP then on (.nx (δ.set i (on (.grd rows))),β1)else PH
 |some (.error C,β1)=>on (.ex C δ,β1)
 |none=>PH
theorem IJ(h:PS X st (jL (tVG X.K f E) (fS i))):PS X st (tG X.K X.H₀ (vF i f) E):=h.imp λD σ H g=>by
 obtain⟨B,bg,δ,β,o,β',ok,e,q⟩:=g;refine⟨FxB B bg,vw δ,β,ok.fr,ok.view,?_⟩;unfold vF at e;split at e
 ·rename_i rows β1 b
  split at e
  ·rename_i hn
   cases e;refine⟨.ok rows,_,b,λv H' t hd=>?_⟩;obtain⟨j,a,c⟩:=ok.newGrd (i:=i) t (λds d=>TH.mp hn ds d) hd;exact q _ _ _ c a
  ·cases e
 ·rename_i C β1 b
  cases e;refine⟨.error C,_,b,λH' t=>?_⟩;obtain⟨a,c⟩:=ok.to rfl t;exact q _ B H' c a
 ·cases e
theorem RowL.put{H:Hp}{P:PX->Prop}(t:Tr F H F (upd H r (.lst xs)))(hd:DenL K F (upd H r (.lst xs)) ds xs):∀{rows:List (List D)} {rs:List PX} (j:Nat),RowL K F H P rows rs->rs.Nodup->rs[j]?=on r->RowL K F (upd H r (.lst xs)) P (rows.set j ds) rs
 |d0::rows,r0::rs,0,h,nd,e=>by
  obtain rfl:r0=r:=by simpa using e
  have ne:∀a∈rs,a≠r0:=λa b z=>(QW.mp nd).1 (z▸b);exact⟨h.1,⟨xs,aq,hd⟩,RowL.tr t h.2.2 λa ys b p q=>⟨p,by rw[upd_ne (ne a b)];exact q⟩⟩
 |d0::rows,r0::rs,j+1,h,nd,e=>by
  have c:rs[j]?=on r:=by simpa using e
  obtain⟨d,⟨ys,f,g⟩,i⟩:=h;have ne:r0≠r:=λz=>(QW.mp nd).1 (z▸Ql c);exact⟨d,⟨ys,by rw[upd_ne ne];exact f,DenL.tr t _ _ g⟩,RowL.put t hd j i (QW.mp nd).2 c⟩
 |[],[],_,_,_,e=>by simp at e
 |[],_::_,_,h,_,_=>h.elim
 |_::_,[],_,h,_,_=>h.elim
theorem RowL.at{H:Hp}{P:PX->Prop}:∀{rows:List (List D)} {rs:List PX} {j:Nat} {ds:List D},RowL K F H P rows rs->rows[j]?=on ds->∃r xs,rs[j]?=on r/\P r/\H r=on (.lst xs)/\DenL K F H ds xs
 |d0::rows,r0::rs,0,ds,h,e=>by
  obtain rfl:d0=ds:=by simpa using e
  obtain⟨a,⟨ys,b,c⟩,g⟩:=h;exact⟨r0,ys,rfl,a,b,c⟩
 |d0::rows,r0::rs,j+1,ds,h,e=>by
  obtain⟨r,xs,d,f⟩:=RowL.at h.2.2 (j:=j) (ds:=ds) (by simpa using e);exact⟨r,xs,by simpa using d,f⟩
 |[],[],_,_,_,e=>by simp at e
 |[],_::_,_,_,h,_=>h.elim
 |_::_,[],_,_,h,_=>h.elim
theorem SOk.writeRow{rs:List PX}{rows:List (List D)}(ok:SOk K H₀ B bg H δ β σ)(hs:σ[i]?=on (on (.ref a)))(hB:B a=on (i+2))(ha:H a=on (.lst (rs.map V.ref)))(nd:(a::rs).Nodup)(L:RowL K (FxB B bg) H (λr=>B r=on (i+2)) rows rs)(N:rs[j]?=on r)(U:H r=on (.lst ys))(hd:DenL K (FxB B bg) H ds xs):
  SOk K H₀ B bg (upd H r (.lst xs)) (δ.set i (on (.grd (rows.set j ds)))) β σ/\Stp B H B (upd H r (.lst xs)):=by
 have t:r∈rs:=Ql N;have f:B r=on (i+2):=(L.all r t).1;have m:Stp B H B (upd H r (.lst xs)):=by
  refine⟨λc o h n=>?_,λ_ _=>rfl,λ_ _ _ n=>n,λc u=>?_⟩
  ·rw[upd_ne]
   ·exact h
   ·intro z;subst z;rw[f]at n;rcases n with n|n<;>cases n
  ·by_cases z:c=r
   ·subst z;rw[aq];simp
   ·rw[upd_ne z];exact u
 have tr:Tr (FxB B bg) H (FxB B bg) (upd H r (.lst xs)):=m.tr;refine⟨⟨⟨λc u z=>?_,ok.fr.bgA,λb l e=>?_⟩,ok.bgt,by rw[Q3,ok.len],λa ha=>m.al a (ok.cov a ha),ok.new,λc k u=>(by
  by_cases z:c=r
  ·subst z;exact⟨xs,aq⟩
  ·rw[upd_ne z];exact ok.lst c k u),λk s e=>?_⟩,m⟩
 ·by_cases q:c=r
  ·subst q;rw[aq]at z;cases z
  ·rw[upd_ne q]at z;exact ok.fr.occ c u z
 ·obtain⟨b1,b2⟩:=ok.bgt b l e
  rw[upd_ne (λz=>by subst z;rw[f]at b1;cases b1),upd_ne (λz=>by subst z;rw[f]at b2;cases b2)];exact ok.fr.bag b l e
 ·rw[Ra]at e
  by_cases q:i=k
  ·subst q
   rw[P6 rfl]at e;split at e
   ·cases e
    have y:a≠r:=λz=>(QW.mp nd).1 (z▸t);exact⟨_,hs,a,rs,rfl,hB,by rw[upd_ne y];exact ha,nd,RowL.put tr (DenL.tr tr _ _ hd) j L (QW.mp nd).2 N⟩
   ·cases e
  ·rw[P0 q]at e
   obtain⟨v,Q,A⟩:=ok.tell k s e;refine⟨v,Q,?_⟩;have C:∀c,B c=on (k+2)->c≠r:=λc g z=>by subst z;rw[f]at g;cases g;exact q rfl
   cases s with
   |sh d=>exact Den.tr tr _ _ A
   |own cs=>
    obtain⟨c,O,F,g,I,J⟩:=A;exact⟨c,O,F,g,by rw[upd_ne (C c g)];exact I,DenL.tr tr _ _ J⟩
   |grd rows2=>
    obtain⟨c,R,F,g,I,J,T⟩:=A;exact⟨c,R,F,g,by rw[upd_ne (C c g)];exact I,J,RowL.tr tr T λr O _ p q=>⟨p,by rw[upd_ne (C r p)];exact q⟩⟩
def mF(f:Dn->M (List (List D))):G:=λδ β=>match f (vw δ) β with
 |some (.ok rows,β1)=>on (.rg rows,β1)
 |some (.error C,β1)=>on (.ex C δ,β1)
 |none=>PH
theorem Ku(h:PS X (.Return (on e) pos) (CC (tVG X.K f E))):PS X (.Return (on e) pos) (tG X.K X.H₀ (mF f) E):=h.imp λD σ H j=>by
 obtain⟨B,bg,δ,β,o,β',ok,e,q⟩:=j;refine⟨FxB B bg,vw δ,β,ok.fr,ok.view,?_⟩;unfold mF at e;split at e
 ·rename_i rows β1 d
  cases e;refine⟨.ok rows,_,d,λv H' t hd=>?_⟩;obtain⟨b,g⟩:=ok.to rfl t;have i:∀c,H c=PH->X.H₀ c=PH:=λc k=>by
   cases w:X.H₀ c with
   |none=>rfl
   |some o=>exact Qu k (ok.cov c (by rw[w];simp))
  obtain⟨a,rs,rfl,n0,l,nd,m⟩:=hd;exact q _ B H' g b.fr ⟨a,rs,rfl,i a n0,l,nd,RowL.tr (Tr.refl _ _) m λr xs _ p y=>⟨i r p,y⟩⟩
 ·rename_i C β1 d
  cases e;refine⟨.error C,_,d,λH' t=>?_⟩;obtain⟨b,g⟩:=ok.to rfl t;exact q _ B H' g b
 ·cases e
def spG(K:Qp)(n:Nat)(m:List D->M (List (List D))):Sp:=λvs H Q E=>vs.length=n/\∃F ds β,Fr F H β/\DenL K F H ds vs/\run (g9 K F H) F (λ_=>E) [] (m ds) H Q β
def oF(n:Nat)(g:G):List D->M (List (List D)):=λds β=>match g (stD n ds) β with
 |some (.rg rows,β')=>on (.ok rows,β')
 |some (.ex C _,β')=>on (.error C,β')
 |_=>PH
variable{P:QD}{w:QS}{mg:QN->Option PY}{base:Rl}
theorem Lj{st:Rh}{N ps:List QN}(n m:Nat)(g:G)(F:FunD K x qual st f fd)(S:FnScope N ps (ag st))(L:ps.length=n)(O:N.length=m)
  (j:∀(c:PY) (A:Rg) (outer:List WV) (s:P7) (H:Hp) (E:XK),Room k (A.deeper (Uz qual (ag st) s.heap.objs.size f c))->
   PSs (fW (CXE P w) P w K mg base N qual (ag st) f c A outer s H E) (cK st) (tG K H g (λ_=>E))):FnOk P w K mg base (CXE P w) (k+1) f fd ps (spG K n (oF m g)):=by
 subst L O;refine F.okE S (λvs H Q E h=>h.1) λc A outer s H vs Q E hr h=>?_;obtain⟨hl,u,ds,β,fr,hd,r,β',e,h⟩:=h;refine⟨_,j c A outer s H E hr,?_⟩;obtain⟨B,ok,R,h1,hn⟩:=uD (N:=N) fr hd;have J:∀{I:Ow} {H':Hp},Stp B H I H'->Fr (FxB I u.bg) H' β'->To u H H' β'/\Tr (FxB I u.bg) H' u H':=λ{I H'} s i=>by
  have hs:∀a,u.A a->I a≠PH:=λa ha=>by
   rw[s.tg a (R a ha)];rcases R a ha with z|z<;>rw[z]<;>simp
  refine⟨⟨λa o ha n=>s.kp a o ha ?_,λa ha=>i.occ a (hs a ha),λb l e=>fr.bgA b l e,i.bag⟩,λa ha _ z=>ha (hs a z),λ_ _ _ h=>h,rfl⟩;cases q:B a with
  |none=>exact .inl rfl
  |some t=>
   have:=R a (hn a (by rw[q];simp));rcases this with z|z
   ·rw[q]at z;exact .inr z
   ·obtain⟨b,l,e,w⟩:=h1 a z
    obtain⟨T,n2⟩:=n b l e;rcases w with w|w
    ·exact Qu w T
    ·exact Qu w n2
 unfold oF at e;split at e
 ·rename_i d β1 U
  cases e;refine⟨B,u.bg,stD N.length ds,β,.rg d,β',ok,U,λv I H' s i hv=>?_⟩;obtain⟨W,t2⟩:=J s i;obtain⟨a,rs,ev,n0,T,nd,rl⟩:=hv;exact h v H' W ⟨a,rs,ev,n0,T,nd,RowL.tr t2 rl λr xs _ p y=>⟨p,y⟩⟩
 ·rename_i C Y β1 U
  cases e;refine⟨B,u.bg,stD N.length ds,β,.ex C Y,β',ok,U,λσ' I H' s Z=>?_⟩;obtain⟨W,t2⟩:=J s Z.fr;exact h H' W
 ·cases e
variable{e:Expr}{es:List Expr}{pos p:UL}{x:QN}{k n:Nat}{f:PX}{fd:Qt}{ps:List QN}
def vM(m:List D->M (List (List D)))(g:FL):Dn->M (List (List D)):=λδ=>M.bind (g δ) λas=>m as
theorem g9.pre{K:Qp}{H b H':Hp}(t:To F H b β1)(h:g9 K F b H' rows v):g9 K F H H' rows v:=by
 obtain⟨a,rs,c,n0,d,nd,g⟩:=h;exact⟨a,rs,c,t.none n0,d,nd,RowL.tr (Tr.refl _ _) g λr xs _ p y=>⟨t.none p,y⟩⟩
theorem M3(G:FnOk X.prog X.w X.K X.mg X.base (CXE X.prog X.w) k f fd ps (spG X.K n m))(q:Room k X.A)(u:Gl X x)(hm:X.mg x=on (.ref f))(y:Vt X.K (.ref f)=PP)(I:aD X.K fd ps [])(J:dy (CXE X.prog X.w) X E)
  (ha:PA X (e::es) (tVA X.K g E)) (hn:∀δ β r β',g δ β=on (.ok r,β')->r.length=n) (a:(x==("__debug__":QN))=PU:=by decide) (L:Qe (e::es) X.env=(PU,Rk e X.env)::Qe es X.env:=by rfl) (b:(SA pos (Qe es X.env)).any (·.1)=PU:=by rfl):
  PE X (.Call (.Name x p) (e::es) [] pos) (tVG X.K (vM m g) E):=
 (nJ G q u hm y I .nil J ha a L b).imp λσ H Q N=>ex6 N λF δ β fr O r=>⟨F,δ,β,fr,O,by
  obtain⟨r0,c,h,i⟩:=run.bind (R:=DenL X.K F) r;refine⟨r0,c,h,?_⟩;cases r0 with
  |error C=>exact i
  |ok ds=>
   intro vs T t hd;obtain⟨d',β1,j,d,r1⟩:=i vs T t hd;have U:=hn _ _ _ _ h;refine⟨by rw[QC,←hd.length,U],F,d',β1,j.fr,by rw[QC];exact d,?_⟩;obtain⟨l,β2,W,o⟩:=r1;refine⟨l,β2,W,?_⟩;cases l with
   |ok rows=>exact λv H' Y Z=>o v H' Y (g9.pre j Z)
   |error C=>exact o⟩
variable{elt target iter:Expr}{ifs:List Expr}{rest:List RQ}{scope:Scope}{Nc vars:List QN}{caps:List Nat}{g:TG}{tb:PX->TB}
theorem LW{x:QN}{a c:UL}(m:X.N.Nodup)(d:X.N[i]?=on x)(o:Loc X.env.scope x)(q:X.calm=PP)(S:CmpScope X scope Nc vars caps)(r:PI X target iter (iV X.K it E))
  (t:∀(cl:List (QN×PX)) (C:PX) (l:List PX) (s:P7) (H:Hp),PG (aJ X Nc scope cl C l s H) target g/\dP (aJ X Nc scope cl C l s H) ifs (tVT X.K tt E0)/\∀D,PB (aJ X Nc scope cl C l s H) elt (⟨target,iter,ifs,0⟩::rest) scope pos 0 D (tb D))
  (u:cL X.K g tg) (v:dN tg) (y:∀D,qS X.K D (tb D) b)
  (j:UP (.ListComp elt (⟨target,iter,ifs,0⟩::rest) scope pos) (on (.Name x a)) c.line X.env=SB PP:=by rfl)
  (hs:∀x,Q0 iter X.env x=SB x:=by intro _;rfl) (A:X.fn x=PP\/X.env.scope.names.lookup x=on .local:=by first|exact .inl rfl|exact .inr rfl|assumption):
  PS X (.Assign [.Name x a] (.ListComp elt (⟨target,iter,ifs,0⟩::rest) scope pos) c) (tG X.K X.H₀ (vF i (jd vars.length caps it tg tt b)) E):=
 IJ ((wF m d o q S r t j hs A).imp λD σ H h=>sw u v y h)
end
end L2.Pu
namespace L2
open PySem PySem.Spec PyProof.Rows
section
variable{X:Cx}
theorem EZ{bs:List Bool}{its:List PY}(r:az (bs.map V.bl) its){i:Nat}{v:PY}(h:its.toArray[i]?=on v):v= .bool (bs.getD i PU):=by
 have h':its[i]?=on v:=by simpa using h
 have a:=r.length;rw[PF]at a;have b:i<bs.length:=by rw[a];exact(P9.mp h').1
 obtain⟨u,c,d⟩:=r.get (i:=i) (x:=V.bl bs[i]) (by rw[PV,PM b];rfl);rw[h']at c;cases c;rw[PR,PM b];exact d
theorem zw{α:Type}(f:Bool->Bool)(bs:List Bool):(P4 bs.length).map (λi=>bs.getD i PU)=bs:=by
 apply Zb;intro i;rw[PV];by_cases h:i<bs.length
 ·rw[Rf h,PM h]
  simp[PR,PM h]
 ·rw[Ur (by simpa using h),Ur (by omega)];rfl
theorem zx(bs:List Bool):((P4 bs.length).any λi=>bs.getD i PU)=bs.any id:=by
 conv=>rhs;rw[←zw (α:=Bool) id bs]
 rw[List.any_map];rfl
theorem jH(l:X.calm=PP):dA X (.builtin "any") (λxs H Q=>∃(a:PX) (bs:List Bool),xs=[.ref a]/\SqL X.K H a (bs.map V.bl)/\Q (.bl (bs.any id)) H):=by
 intro j s B H xs us Q I r h;obtain⟨a,bs,rfl,m,q⟩:=h;cases r with
 |cons r1 n=>
  cases r1;cases n;obtain⟨its,k,p,C⟩:=I.list m;have f:=p.isList;have c:its.toArray.size=bs.length:=by rw[Qo,←k.length,PF]
  have d:∀b o,s.heap.get? b=on o->b≠s.heap.objs.size:=λb o e z=>by
   rw[z,Yg (P5 _)]at e;cases e
  have g:a≠s.heap.objs.size:=by
   obtain⟨o,e,_⟩:=f;exact d a o e
  have W:=Walks.list (prog:=X.prog) (w:=X.w) (A:=X.A.in1) (show X.A.in1.handled=PH from I.ok.hd l) s.heap.objs.size a g its.toArray;refine call_any_walk (VI f ⟨s.heap.objs.size,[s.heap.objs.size,a],[s.heap.objs.size],its.toArray.size,_,_,λi=>bs.getD i PU,rfl,W,⟨⟨_,Qj s.heap rfl,rfl,rfl⟩,f.push _⟩,λi v s' F J t u=>?_,λh' L y=>?_⟩)
  ·rw[EZ k t]
   exact Rj u
  ·rw[c,zx]
   exact⟨.bl (bs.any id),H,I.kept λb o e=>y b o (λz=>d b o e (by simpa using z)) (PQ _ e),rfl,q⟩
end
end L2
namespace L2.Pu
open PySem PySem.Spec PyProof.Rows
noncomputable def d9:List D->Option (List Bool)
 |[]=>on []
 | .bl b::r=>(d9 r).map (b::·)
 |_=>PH
theorem oW{K:Qp}:∀{ds:List D} {xs:List V} {bs:List Bool},d9 ds=on bs->DenL K F H ds xs->xs=bs.map V.bl
 |[],xs,bs,e,h=>by
  cases e;cases h;rfl
 |d::ds,xs,bs,e,h=>by
  obtain⟨x,f,rfl,a,c⟩:=h;cases d<;>first
   |(rename_i b
     cases q:d9 ds with
     |none=>simp[d9,q]at e
     |some r=>
     simp[d9,q]at e;subst e;cases a.bl;rw[oW q c];rfl)
   |simp[d9]at e
def yE:List D->Option D
 |[.lst ds]=>(d9 ds).map λbs=> .bl (bs.any id)
 |_=>PH
variable{K:Qp}
theorem ud:eL K (λxs H Q=>∃(a:PX) (bs:List Bool),xs=[.ref a]/\SqL K H a (bs.map V.bl)/\Q (.bl (bs.any id)) H) yE:=λF H β Q ds d vs fr h e k=>by
 unfold yE at e;split at e
 ·obtain⟨v,rfl,g⟩:=DenL.one h
  obtain⟨a,xs,rfl,r,b⟩:=Den.sqL g;obtain⟨bs,q,e⟩:=Vy.mp e;subst e;rw[oW q b]at r;exact⟨a,bs,rfl,r,k _ H (To.refl fr) rfl⟩
 ·cases e
end L2.Pu
namespace L2
open PySem PySem.Spec PyProof.Rows
section
variable{X:Cx}{a b c d:Expr}{ta tb tc td:TE}{pos:UL}
def OJ(i e:R2)(tc td:TE)(y:V):TE:=λf H Q=>tc f H λw j=>i y w j λk g=>∃h,k= .bl h/\(if h=PP then td f g λl m=>e w l m Q else Q (.bl PU) g)
def wj(r h e:R2)(ta tb tc td:TE):TE:=λf H Q=>ta f H λx i=>tb f i λy j=>r x y j λz g=>∃k,z= .bl k/\(if k=PP then OJ h e tc td y f g Q else Q (.bl PU) g)
theorem zA(J:OpR X (Ro op) r)(l:OpR X (Ro op') r')(i:OpR X (Ro op'') r'')(ha:PE X a ta)(L:PE X b tb)(N:PE X c tc)(hd:PE X d td)
  (hm:Y5 [op,op',op''] [b,c,d]=PU:=by with_unfolding_all rfl):PT X (.Compare a [op,op',op''] [b,c,d] pos) (xF (wj r r' r'' ta tb tc td)):=by
 intro f s g H Q I h;refine isTrue_chain (thn (ha f s g H _ I h) λv O ⟨x,R,T,r1,q1⟩=>test_link (thn (L f O g R _ T q1) λu U ⟨y,W,Y,o,q2⟩=>
  thn (J f U g W x y v u _ Y r1 o q2) λZ s3 ⟨z,p,q,r3,k,e,q3⟩=>?_)) hm
 subst e;cases r3;refine Rj ?_;cases k with
 |false=>
  obtain⟨m,j,n⟩:=q3;cases j;exact ite_ff ⟨p,q,n⟩
 |true=>
  refine ite_tt (test_link (thn (N f s3 g p _ q q3) λt s4 ⟨A,H4,I4,B,q4⟩=>thn (l f s4 g H4 y A u t _ I4 o B q4) λZ s5 ⟨z',C,F,r5,m,j,q5⟩=>?_));subst j;cases r5;refine Rj ?_;cases m with
  |false=>
   obtain⟨m,j,n⟩:=q5;cases j;exact ite_ff ⟨C,F,n⟩
  |true=>
   refine ite_tt (test_last (thn (hd f s5 g C _ F q5) λw' s6 ⟨z2,H6,I6,r6,q6⟩=>thn (i f s6 g H6 A z2 t w' _ I6 B r6 q6) λd' s7 ⟨z3,H7,I7,r7,k3,e3,q7⟩=>?_));subst e3;cases r7;exact Rj ⟨H7,I7,q7⟩
end
end L2
namespace L2.Pu
open PySem PySem.Spec PyProof.Rows
section
variable{X:Cx}{E:St->XK}{a b c d:Expr}{pos:UL}{K:Qp}
def JG(f e:D->D->Option D)(h i:FD)(y:D):FD:=λδ=>M.bind (h δ) λw=>M.bind (M.ofO (f y w)) λz=>M.bind (M.ofO (asB z)) λc=>if c=PP then M.bind (i δ) (λg=>M.ofO (e w g))else M.ret (.bl PU)
def oo(o j e:D->D->Option D)(f g h i:FD):FD:=λδ=>M.bind (f δ) λa=>M.bind (g δ) λb=>M.bind (M.ofO (o a b)) λz=>M.bind (M.ofO (asB z)) λc=>if c=PP then JG j e h i b δ else M.ret (.bl PU)
theorem run.later{α i:Type}{R:Hp->α->i->Prop}{F:Fx}{j:St}{m:M α}{H k:Hp}{Q:i->Hp->Prop}{β:Bg}(t:To F H k β)(h:run R F E j m H Q β):run R F E j m k Q β:=by
 obtain⟨l,f,e,q⟩:=h;refine⟨l,f,e,?_⟩;cases l with
 |ok d=>exact λv g tt=>q v g (t.trans tt)
 |error C=>exact λg tt=>q g (t.trans tt)
theorem xI(l:bi K r o)(l':bi K r' o')(O:bi K r'' o'')(T:tV K (oo o o' o'' f g h i) E σ H Q):wj r r' r'' (tV K f E) (tV K g E) (tV K h E) (tV K i E) σ H Q:=by
 obtain⟨F,δ,β,fr,U,T⟩:=T;refine⟨F,δ,β,fr,U,(run.bind (R:=Den K F) T).mono λv H1 n=>ex5 n λd β1 t hd r1=>⟨F,δ,β1,t.fr,U.tr (t.tr fr),(run.bind (R:=Den K F) r1).mono λv2 H2 n=>ex5 n λd2 β2 p u r2=>?_⟩⟩;obtain⟨z,ez,r3⟩:=run.ofO_bind r2;obtain⟨c,ec,L⟩:=run.ofO_bind r3;rw[jg ec]at ez;have W:=U.tr ((t.tr fr).trans (p.tr t.fr));refine l F H2 β2 _ d d2 _ v v2 p.fr (Den.tr (p.tr t.fr) _ _ hd) u ez λvz H3 j hz=>⟨c,hz,?_⟩;cases c with
 |true=>
  rw[P6 rfl]at L;have Y:=Den.tr (j.tr p.fr) _ _ u;have y:=W.tr (j.tr p.fr);have r5:=run.later j L;refine⟨F,δ,β2,j.fr,y,(run.bind (R:=Den K F) r5).mono λw H4 n=>ex5 n λdw A B C r6=>?_⟩;obtain⟨z',I,r7⟩:=run.ofO_bind r6;obtain⟨c',Z,N⟩:=run.ofO_bind r7;rw[jg Z]at I;refine l' F H4 A _ d2 dw _ v2 w B.fr (Den.tr (B.tr j.fr) _ _ Y) C I λvz' H5 m hz'=>⟨c',hz',?_⟩;cases c' with
  |true=>
   rw[P6 rfl]at N;refine⟨F,δ,A,m.fr,y.tr ((B.tr j.fr).trans (m.tr B.fr)),(run.bind (R:=Den K F) (run.later m N)).mono λw' H6 ⟨dw',β6,t6,J,r9⟩=>?_⟩;obtain⟨d3,e3,k⟩:=run.ofO r9;exact O F H6 β6 Q dw dw' d3 w w' t6.fr (Den.tr ((m.tr B.fr).trans (t6.tr m.fr)) _ _ C) J e3 k
  |false=>
   rw[P0 P8]at N;obtain⟨rr,β',e,q⟩:=N;cases e;exact q _ H5 m rfl
 |false=>
  rw[P0 P8]at L;obtain⟨rr,β',e,q⟩:=L;cases e;exact q _ H3 j rfl
theorem CB(m:OpR X (Ro op) r)(j:OpR X (Ro op') r')(e:OpR X (Ro op'') r'')(l:bi X.K r o)(n:bi X.K r' o')(k:bi X.K r'' o'')(ha:PE X a (tV X.K f E))(p:PE X b (tV X.K g E))(t:PE X c (tV X.K h E))(hd:PE X d (tV X.K i E))(hm:Y5 [op,op',op''] [b,c,d]=PU:=by with_unfolding_all rfl):
  PT X (.Compare a [op,op',op''] [b,c,d] pos) (tVT X.K (fB (oo o o' o'' f g h i)) E):=(zA m j e ha p t hd hm).imp λu H Q q=>xI l n k (oY q)
variable{st:Rh}{H₀:Hp}{B:Ow}{bg:Option (PX×PX)}{H H':Hp}{δ:Ds}{β β':Bg}{σ:St}
theorem SOk.AtoB(ok:SOk K H₀ B bg H δ β σ):∀c,(FxB B bg).A c->(FxA B bg).A c\/∃xs,H c=on (.lst xs):=λc f=>by
 have e:B c≠PH:=f;cases q:B c with
 |none=>exact Qu q e
 |some k=>
  match k,q with
  |0,q=>exact .inl (.inl q)
  |1,q=>exact .inl (.inr q)
  |k+2,q=>exact .inr (ok.lst c k q)
theorem SOk.noB{d:D}(ok:SOk K H₀ B bg H δ β σ)(hn:noL d=PP)(h:Den K (FxA B bg) H d v):Den K (FxB B bg) H d v:=wN ok.AtoB d v hn h
def qE(i:Nat)(e f g:FD):G:=λδ β=>match g (vwA δ) β with
 |some (.ok d,β1)=>match e (vwA δ) β1 with
  |some (.ok (.int ka),β2)=>match f (vwA δ) β2 with
   |some (.ok (.int kb),β3)=>match δ.getD i PH with
    |some (.grd rows)=>match ixN rows.length ka with
     |some ja=>match rows[ja]? with
      |some ds=>match ixN ds.length kb with
       |some jb=>if noL d=PP then on (.nx (δ.set i (on (.grd (rows.set ja (ds.set jb d))))),β3)else PH
       |none=>PH
      |none=>PH
     |none=>PH
    |_=>PH
   |_=>PH
  |_=>PH
 |_=>PH
theorem uQ(h:PS X st (jL (tV X.K fv E) (M5 (tOp (xS X.K) (q8 i) (tV X.K fa E)) (tV X.K fb E) IL))):PS X st (tG X.K X.H₀ (qE i fa fb fv) E):=h.imp λD σ H h_=>by
 obtain⟨B,bg,δ,β,o,β',ok,e,q⟩:=h_;refine⟨FxA B bg,vwA δ,β,ok.frA,ok.viewA,?_⟩;unfold qE at e;split at e
 ·rename_i d β1 e1
  refine⟨.ok d,_,e1,λv H1 t1 hd=>?_⟩;obtain⟨f,s1⟩:=ok.to rfl t1;split at e
  ·rename_i ka β2 e2
   split at e
   ·rename_i kb β3 e3
    split at e
    ·rename_i rows Q
     split at e
     ·rename_i ja ea
      split at e
      ·rename_i ds er
       split at e
       ·rename_i jb eb
        split at e
        ·rename_i R
         cases e;have hd:=f.noB R hd;obtain⟨w,N,a,rs,rfl,hB,ha,nd,rl⟩:=f.tell i _ (getD_some Q);refine⟨_,N,FxA B bg,vwA δ,β1,f.frA,f.viewA,.ok (.int ka),β2,e2,λy H2 t2 hy=>?_⟩;cases hy;obtain⟨j,s2⟩:=f.to (F:=FxA B bg) rfl t2;obtain⟨w2,h2,a2,g,ew,k,m,nd2,n⟩:=j.tell i _ (getD_some Q);rw[N]at h2;cases h2;cases ew;obtain⟨r,xs,T,hp,hx,dl⟩:=n.at er;refine⟨a,g.map V.ref,ka,.ref r,rfl,rfl,SqL.of m,?_,?_⟩
         ·unfold atI
          rw[PF,←n.len,ea];show(g.map V.ref)[ja]?=_;rw[PV,T];rfl
         ·refine⟨FxA B bg,vwA δ,β2,j.frA,j.viewA,.ok (.int kb),_,e3,λz H3 t3 hz=>?_⟩
          cases hz;obtain⟨p,s3⟩:=j.to (F:=FxA B bg) rfl t3;obtain⟨w3,h3,a3,t,U,W,u,Y,A⟩:=p.tell i _ (getD_some Q);rw[N]at h3;cases h3;cases U;have Z:g=t:=by
           have O:H3 a=on (.lst (g.map V.ref)):=t3.kp a _ m (λb l y=>⟨λw=>(by subst w;rw[(ok.bgt _ _ y).1]at k;cases k),λw=>(by subst w;rw[(ok.bgt _ _ y).2]at k;cases k)⟩);rw[u]at O;have k2:t.map V.ref=g.map V.ref:=by injection O with O;injection O
           exact(We (λa b q=>by cases q;rfl)|>.mp k2).symm
          subst Z;obtain⟨r',C,I,hp',J,L⟩:=A.at er;rw[T]at I;cases I;have hv3:Den X.K (FxB B bg) H3 d v:=Den.tr (s3.tr) _ _ (Den.tr (s2.tr) _ _ hd);refine⟨r,C,kb,jb,rfl,rfl,J,by rw[←L.length];exact eb,?_⟩;obtain⟨ok4,s4⟩:=p.writeRow (ds:=ds.set jb d) (xs:=C.set jb v) N W u Y A T J (DenL.set jb L hv3);exact q _ _ _ (s1.trans (s2.trans (s3.trans s4))) ok4
        ·cases e
       ·cases e
      ·cases e
     ·cases e
    ·cases e
   ·cases e
  ·cases e
 ·cases e
variable{e:Expr}{es:List Expr}
def o2(op:D->D->Option (List D))(f g:FD):FL:=λδ=>M.bind (f δ) λa=>M.bind (g δ) λb=>M.ofO (op a b)
noncomputable def Ite(K:Qp)(l:PX):It:=
 ⟨λi H=>∃xs x,SqL K H l xs/\xs[i]?=on x,
  λi H v H'=>∃p x,H p=PH/\v= .ref p/\H'=upd H p (.tup [.int (i:Int),x])/\∀xs,SqL K H l xs->xs[i]?=on x,
  λi H=>∃xs,SqL K H l xs/\xs.length=i⟩
theorem yQ{P:QD}{w:QS}{K:Qp}{x1}{pos:UL}(l e it:PX)(t:e≠it):
  Turn P w K (.Tuple elts x1 pos) (Ite K l) [e,it] e (λi h=>(∃f,IsEnum h e it (i:Int) f)/\h.IsListIter it l i) where
 mem:=by simp
 obj:=λi h st b j=>by
  obtain⟨⟨f,m⟩,p⟩:=st;simp only[Qf,Rx,Uq]at j;rcases j with rfl|rfl
  ·exact⟨_,m,λv q=>by cases q⟩
  ·obtain⟨o,q,_,d⟩:=p
   exact⟨o,q,λv z=>by rw[d]at z;cases z⟩
 keep:=λi h h' st k=>by
  obtain⟨⟨f,m⟩,p⟩:=st;exact⟨⟨f,k e (by simp) _ m⟩,p.at λo q=>k it (by simp) o q⟩
 item:=by
  intro X L N O Q i r s σ H E I y st R;subst L N O;obtain⟨xs,x,q1,T⟩:=R;obtain⟨⟨f,m⟩,p⟩:=st;obtain⟨g,r1,U⟩:=Inv.src (b:=PP) I q1;have hd:=I.ok.hd Q;have ne:l≠e:=Inv.src_ne (b:=PP) I q1 (y e (by simp));have W:l≠it:=Inv.src_ne (b:=PP) I q1 (y it (by simp));have k1:i<g.toArray.size:=by
   rw[Qo,←r1.length];exact(P9.mp T).1
  refine wpAny_pyNext_enum_itemD (Yq (show(X.A.in1).handled=PH from hd) it l W g.toArray) m ⟨p,U⟩ k1 t (by simp[t,ne.symm]) λu h' Y pu fo f1 fT sz kp=>?_;refine⟨_,rfl,wpAny_letOwnedTupleGo_enum (s:={s with heap:=h',toks:=Y+1}) fo λC F J=>?_⟩
  replace J:QE e h' C:=J
  have zT:s.heap.objs.size≠e:=Te (Qz m);obtain⟨u',Z,ru⟩:=r1.get T;have eu:u=u':=by
   have:g[i]?=on u:=by simpa using pu
   rw[this]at Z;exact QB Z
  subst eu;have kk:∀b o,b∉[e,it]->s.heap.get? b=on o->C.get? b=on o:=λb o j q=>by
   simp only[Qf,Rx,Uq,not_or]at j;exact J.extBut b o j.1 (kp b o j.1 j.2 q)
  have I2:Inv X r σ (upd H s.heap.objs.size (.tup [.int (i:Int),x])) {s with heap:=C,toks:=Y+1}:=by
   refine Inv.turnNew I y kk (P5 _) ⟨by show 2<=Qk;decide,[.int i Y,u],.cons ⟨_,rfl⟩ (.cons ru .nil),_,J.extBut _ _ zT fT,rfl,_,rfl⟩
  refine⟨.ref s.heap.objs.size,_,I2,rfl,⟨s.heap.objs.size,x,I.hok.fresh (P5 _),rfl,rfl,λas h1=>by rw[Inv.src_inj (b:=PP) I h1 q1];exact T⟩,⟨⟨_,by simpa using F⟩,?_⟩,λb j=>?_⟩
  ·exact f1.1.at λo q=>J.extBut _ _ t.symm q
  ·rw[upd_ne]
   ·exact(y b j).1
   ·intro q
    have ol:∃o,s.heap.get? b=on o:=by
     simp only[Qf,Rx,Uq]at j;rcases j with rfl|rfl
     ·exact⟨_,m⟩
     ·obtain⟨o,z,_⟩:=p;exact⟨o,z⟩
    obtain⟨o,z⟩:=ol;exact Qu (Qz z) (by rw[q];exact Q4 _)
 done:=by
  intro X L N O Q i r s σ H E I y st R;subst L N O;obtain⟨xs,q1,hl⟩:=R;obtain⟨⟨f,m⟩,p⟩:=st;obtain⟨g,r1,U⟩:=Inv.src (b:=PP) I q1;have hd:=I.ok.hd Q;have W:l≠it:=Inv.src_ne (b:=PP) I q1 (y it (by simp));have g1:g.toArray.size=i:=by rw[Qo,←r1.length,hl]
  refine wpAny_pyNext_enum_endD (n:=g.toArray.size) (Yq (show(X.A.in1).handled=PH from hd) it l W g.toArray) m (by rw[g1];exact⟨p,U⟩) λh' kp=>⟨rfl,?_⟩;refine Inv.turnL (t':=s.toks) I y λb o j q=>?_;simp only[Qf,Rx,Uq,not_or]at j;exact kp b o j.2 q
 self:=λ_ _ _ _ _ st h=>by
  obtain⟨⟨f,m⟩,p⟩:=st;exact wpAny_pyIter_enum m h
def iEn(K:Qp)(g:TA):TI:=λσ H R=>g σ H λvs f=>∃l xs,vs=[.ref l]/\SqL K f l xs/\R (Ite K l) f
theorem KE{a:Expr}{p pos:UL}{x1}(o:Gl X "enumerate")(hm:X.mg "enumerate"=PH)(ha:PA X [a] ta)(hs:Qe [a] X.env=[(PU,Rk a X.env)]:=by rfl):
  PI X (.Tuple elts x1 tpos) (.Call (.Name "enumerate" p) [a] [] pos) (iEn X.K ta):=by
 intro f s σ H R I h;refine Call_ (gf I o hm PyProof.Rows.Boot.«enumerate» (RB (thn (ha pos f s σ H _ I h) λus g ⟨vs,k,j,r1,q1⟩=>?_) (by rw[hs];rfl) (by rfl)));obtain⟨l,xs,e,q1,q⟩:=q1;subst e;cases r1 with
 |cons r t=>
  cases t;cases r;obtain⟨u,C,v⟩:=Inv.src (b:=PP) j q1;refine call_enumerate_list v λh' m y sz kp=>?_;refine wpAny_pyIter_enum (s:={g with heap:=h'}) m ?_;have A:Inv X f σ k {g with heap:=h'}:=j.kept (t':=g.toks) kp;refine⟨_,[g.heap.objs.size+1,g.heap.objs.size],_,Ite X.K l,k,rfl,A,yQ l (g.heap.objs.size+1) g.heap.objs.size (Nat.succ_ne_self _),⟨⟨_,m⟩,y⟩,λc n=>?_,q⟩;have i:g.heap.objs.size<=c:=by
   simp only[Qf,Rx,Uq]at n;rcases n with rfl|rfl
   ·exact S7 _ _
   ·exact P5 _
  exact j.fpOk i (j.hok.fresh i)
noncomputable def cJ:Nat->List D->List D
 |_,[]=>[]
 |n,x::xs=> .tup [.int (n:Int),x]::cJ (n+1) xs
theorem jF:∀(n:Nat) (xs:List D),(cJ n xs).length=xs.length
 |_,[]=>rfl
 |n,x::xs=>by
  show(cJ (n+1) xs).length+1=xs.length+1;rw[jF (n+1) xs]
theorem mH:∀{n:Nat} {xs:List D} {i:Nat} {d:D},(cJ n xs)[i]?=on d->∃x,xs[i]?=on x/\d= .tup [.int ((n+i:Nat):Int),x]
 |n,[],i,d,h=>by simp[cJ]at h
 |n,x::xs,0,d,h=>by
  simp[cJ]at h;exact⟨x,rfl,by rw[←h];simp⟩
 |n,x::xs,i+1,d,h=>by
  have h':(cJ (n+1) xs)[i]?=on d:=by simpa[cJ]using h
  obtain⟨a,f,g⟩:=mH h';exact⟨a,by simpa using f,by rw[g,show n+1+i=n+(i+1) by omega]⟩
def JH:List D->Option (List D)
 |[.lst xs]=>on (cJ 0 xs)
 |_=>PH
theorem EF{H:Hp}(o:∀g f,Tr F H g f->∃xs,SqL K f l xs/\DenL K g f ds xs):ItD K (Ite K l) F H (cJ 0 ds):=λg f β2 t fr i=>by
 obtain⟨xs,h,d1⟩:=o g f t;refine⟨λd hd=>?_,λj=>?_⟩
 ·obtain⟨x,q,rfl⟩:=mH hd
  obtain⟨u,k,du⟩:=d1.get q;refine⟨⟨xs,u,h,k⟩,λz y r=>?_⟩;obtain⟨p,A,m,rfl,rfl,v⟩:=r;have n:=v xs h;rw[k]at n;cases n;rw[Q6];exact⟨bL.upd m,Den.newT fr m (DenL.cons rfl (DenL.cons du DenL.nil))⟩
 ·rw[jF]at j
  exact⟨xs,h,by rw[←d1.length,j]⟩
def IS(g:FL):FL:=bV JH g
theorem kB{a:Expr}{p pos:UL}{x1}(q:Gl X "enumerate")(hm:X.mg "enumerate"=PH)(ha:PA X [a] (tVA X.K g E))(hs:Qe [a] X.env=[(PU,Rk a X.env)]:=by rfl):
  PI X (.Tuple elts x1 tpos) (.Call (.Name "enumerate" p) [a] [] pos) (iV X.K (IS g) E):=
 (KE q hm ha hs).imp λσ H R j=>ex6 j λF δ β fr r h=>⟨F,δ,β,fr,r,(run.bind (R:=DenL X.K F) h).mono λvs f j=>by
  obtain⟨ds,β1,t,hd,r1⟩:=j;obtain⟨l,e,k⟩:=run.ofO r1;unfold JH at e;split at e
  ·rename_i xs
   cases e;obtain⟨v,rfl,o⟩:=DenL.one hd;have z:∃a,v= .ref a/\∀m i,Tr F f m i->∃ys,SqL X.K i a ys/\DenL X.K m i xs ys:=by
    obtain⟨a,ys,rfl,_⟩:=Den.sqL o;refine⟨a,rfl,λm i u=>?_⟩;obtain⟨I,n,y,sq,A⟩:=Den.sqL (Den.tr u _ _ o);cases y;exact⟨n,sq,A⟩
   obtain⟨a,rfl,z⟩:=z;obtain⟨us,C,_⟩:=z F f (Tr.refl F f);exact⟨a,us,rfl,C,k _ f (To.refl t.fr) (EF z)⟩
  ·cases e⟩
def dz(K:Qp)(g:Qt)(ps:List QN)(h:List D):Prop:=∃ds f,aD K g ps ds/\az f ds/\∀F H,DenL K F H h f
inductive Sr (α:Type) where
 |kw (j:Nat)|df (a:α)
noncomputable def Sr.pick{α:Type}(z:α)(f:List α):Sr α->α
 | .kw j=>f.getD j z
 | .df a=>a
def gK{α:Type}(z:α)(n k:Nat)(src:List (Sr α))(us f:List α):List α:=if us.length=n/\f.length=k then us++src.map (Sr.pick z f)else[]
inductive SrR {α γ:Type} (R:α->γ->Prop):List (Sr α)->List (Sr γ)->Prop where
 |nil:SrR R [] []
 |kw {j:Nat} {a:List (Sr α)} {c:List (Sr γ)}:SrR R a c->SrR R (.kw j::a) (.kw j::c)
 |df {x:α} {y:γ} {a:List (Sr α)} {c:List (Sr γ)}:R x y->SrR R a c->SrR R (.df x::a) (.df y::c)
theorem az.getD:∀{f:List V} {g:List PY} (j:Nat),az f g->aN (f.getD j .non) (g.getD j .none)
 |_,_,_,.nil=>rfl
 |_,_,0,.cons r _=>r
 |_,_,j+1,.cons _ t=>az.getD j t
theorem SrR.vals(r:az zs ws):∀{a:List (Sr V)} {c:List (Sr PY)},SrR aN a c->az (a.map (Sr.pick .non zs)) (c.map (Sr.pick .none ws))
 |_,_,.nil=> .nil
 |_,_,.kw (j:=j) h=> .cons (az.getD j r) (SrR.vals r h)
 |_,_,.df q h=> .cons q (SrR.vals r h)
theorem DenL.getD{K:Qp}{H:Hp}:∀{ds:List D} {f:List V} (j:Nat),DenL K F H ds f->Den K F H (ds.getD j .non) (f.getD j .non)
 |[],f,j,h=>by have q:f=[]:=h;subst q;rfl
 |d::ds,f,0,h=>by
  obtain⟨x,r,e,g,i⟩:=h;subst e;exact g
 |d::ds,f,j+1,h=>by
  obtain⟨x,r,e,g,i⟩:=h;subst e;exact DenL.getD j i
theorem SrR.den{K:Qp}{H:Hp}(r:DenL K F H ds zs):∀{a:List (Sr D)} {c:List (Sr V)},SrR (λd v=>∀F H,Den K F H d v) a c->DenL K F H (a.map (Sr.pick .non ds)) (c.map (Sr.pick .non zs))
 |_,_,.nil=>DenL.nil
 |_,_,.kw (j:=j) h=>DenL.cons (DenL.getD j r) (SrR.den r h)
 |_,_,.df q h=>DenL.cons (q F H) (SrR.den r h)
theorem SrR.len{α f:Type}{R:α->f->Prop}:∀{a:List (Sr α)} {c:List (Sr f)},SrR R a c->a.length=c.length
 |_,_,.nil=>rfl
 |_,_,.kw h=>by rw[Qa,Qa,SrR.len h]
 |_,_,.df _ h=>by rw[Qa,Qa,SrR.len h]
structure KwOk (K:Qp) (fd:Qt) (ps ks:List QN) (n:Nat) (src:List (Sr D)):Prop where
 ex:∃(sv:List (Sr PY)) (sx:List (Sr V)),SrR aN sx sv/\SrR (λd v=>∀F H,Den K F H d v) src sx/\∀(s:P7) (us ws:List PY),K.In s.heap->us.length=n->ws.length=ks.length->Wo s fd ⟨us,ks.zip ws⟩ (ps.zip (us++sv.map (Sr.pick .none ws)))
 len:ps.length=n+src.length
 pos:0<ps.length
theorem KwOk.kb{K:Qp}{ps ks:List QN}(h:KwOk K fd ps ks n src):∃(sv:List (Sr PY)) (f:List (Sr V)),SrR (λd v=>∀F H,Den K F H d v) src f/\KBinds K fd ps ks (gK .none n ks.length sv) (gK .non n ks.length f):=by
 obtain⟨sv,f,r1,l,b⟩:=h.ex;refine⟨sv,f,l,λs us k m g=>?_,λ{vs us o k} i j=>?_⟩
 ·unfold gK at g⊢
  split at g
  ·rename_i q
   rw[P6 q];exact b s us k m q.1 q.2
  ·exact Qu g (by have:=h.pos;simp;omega)
 ·unfold gK
  by_cases q:vs.length=n/\o.length=ks.length
  ·rw[P6 q,P6 (by rw[←i.length,←j.length];exact q)]
   exact i.append (SrR.vals j r1)
  ·rw[P0 q,P0 (by rw[←i.length,←j.length];exact q)]
   exact .nil
variable{p kpos:UL}{x:QN}{k n:Nat}{f:PX}{fd:Qt}{ps ks:List QN}{kws:List VE}{nm:Option QN}
def M9(m:List D->M D)(g:FL)(h:List D):FD:=λδ=>M.bind (g δ) λas=>m (as++h)
theorem JW{h:List D}(G:FnOk X.prog X.w X.K X.mg X.base (CXE X.prog X.w) k f fd ps (spF X.K n m))(y:Room k X.A)(I:Gl X x)(hm:X.mg x=on (.ref f))(J:Vt X.K (.ref f)=PP)(L:dz X.K fd ps h)(N:dy (CXE X.prog X.w) X E)
  (ha:PA X (e::es) (tVA X.K g E)) (hn:∀δ β r β',g δ β=on (.ok r,β')->r.length+h.length=n) (i:(x==("__debug__":QN))=PU:=by decide) (O:Qe (e::es) X.env=(PU,Rk e X.env)::Qe es X.env:=by rfl) (j:(SA pos (Qe es X.env)).any (·.1)=PU:=by rfl):
  PE X (.Call (.Name x p) (e::es) [] pos) (tV X.K (M9 m g h) E):=by
 obtain⟨ds,T,b,U,rd⟩:=L;refine(nJ G y I hm J b U N ha i O j).imp λσ H Q W=>ex6 W λF δ β fr Y r=>⟨F,δ,β,fr,Y,?_⟩;obtain⟨r0,l,u,v⟩:=run.bind (R:=DenL X.K F) r;refine⟨r0,l,u,?_⟩;cases r0 with
 |error C=>exact v
 |ok as=>
  intro vs o t hd;obtain⟨d',β1,Z,q,r1⟩:=v vs o t hd;have hl:=hn _ _ _ _ u;have hz:=(rd F o).length;refine⟨by rw[Qh,←hd.length,←hz,hl],F,d'++h,β1,Z.fr,DenL.append q (rd F o),run.toE r1⟩
theorem Ly:PK X [] (tVA X.K ay E):=λpos g s σ H Q I h=>by obtain⟨F,δ,β,fr,i,r⟩:=h;exact Mh pos g s σ H Q I (run.ret fr r DenL.nil)
theorem JS{f:FD}(ha:PE X e (tV X.K f E))(m:PK X kws (tVA X.K g E)):PK X (⟨nm,e,kpos⟩::kws) (tVA X.K (ae f g) E):=λpos h s σ H Q I ⟨F,δ,β,fr,j,r⟩=>
 KC ha m pos h s σ H Q I ⟨F,δ,β,fr,j,(run.bind (R:=Den X.K F) r).mono λv u ⟨d,β1,t,hd,r1⟩=>
  ⟨F,δ,β1,t.fr,j.tr (t.tr fr),(run.bind (R:=DenL X.K F) r1).mono λvs y o=>ex5 o λds β2 l i q=>run.ret l.fr q (DenL.cons (Den.tr (l.tr t.fr) _ _ hd) i)⟩⟩
def Gw(g:G)(δ:Ds)(β:Bg)(Q:Out->Bg->Prop):Prop:=∃o β',g δ β=on (o,β')/\Q o β'
end
section
variable{g h a b g1 g2:G}{δ δ1:Ds}{β β1 β2 β3:Bg}{Q R:Out->Bg->Prop}{i:Nat}{f fa fb fv:FD}{fl:FL}{fg:Dn->M (List (List D))}{d x y z:D}{ds as:List D}{t:Dn->M Bool}{c:Bool}{C:PX}{K:Qp}
theorem Gw.mono(k:Gw g δ β R)(q:∀o β,R o β->Q o β):Gw g δ β Q:=let ⟨o,β',e,r⟩:=k;⟨o,β',e,q _ _ r⟩
theorem Kq:aW g gNil=g:=by
 funext δ β;unfold aW gNil;split
 ·rename_i δ1 β1 e;exact e.symm
 ·rfl
theorem am(k:Gw (aW g gNil) δ β Q):Gw g δ β Q:=by rw[Kq]at k;exact k
theorem aY(q:Q (.nx δ) β):Gw gNil δ β Q:=⟨_,_,rfl,q⟩
theorem f8(e:g δ β=on (.nx δ1,β1))(k:Gw h δ1 β1 Q):Gw (aW g h) δ β Q:=by
 obtain⟨o,j,l,q⟩:=k;exact⟨o,j,by unfold aW;rw[e];exact l,q⟩
theorem bM(k:Gw h δ β Q):Gw (aW gNil h) δ β Q:=f8 rfl k
theorem HX(k:Gw g (fz i δ) β Q):Gw (fzG i g) δ β Q:=k
theorem aF(e:f (vw δ) β=on (.ok d,β1))(k:Gw h (δ.set i (on (.sh d))) β1 Q):Gw (aW (gj i f) h) δ β Q:=f8 (by unfold gj;rw[e]) k
theorem lR(e:f (vwA δ) β=on (.ok d,β1))(k:Gw h δ β1 Q):Gw (aW (gl f) h) δ β Q:=f8 (by unfold gl;rw[e]) k
theorem lP(e:t (vwA δ) β=on (.ok c,β1))(k:Gw (aW (if c=PP then g1 else g2) h) δ β1 Q):Gw (aW (gIf t g1 g2) h) δ β Q:=by
 obtain⟨o,j,l,q⟩:=k;refine⟨o,j,?_,q⟩;rw[←l];unfold aW gIf;rw[e];cases c<;>rfl
theorem jk(e:t (vwA δ) β=on (.ok PU,β1))(k:Gw (aW g2 h) δ β1 Q):Gw (aW (gIf t g1 g2) h) δ β Q:=lP e k
theorem aO(e:f (vwA δ) β=on (.ok d,β1))(q:Q (.rt d) β1):Gw (aW (da f) h) δ β Q:=⟨_,_,by unfold aW da;rw[e],q⟩
theorem JR(e:fg (vw δ) β=on (.ok rows,β1))(q:Q (.rg rows) β1):Gw (aW (mF fg) h) δ β Q:=⟨_,_,by unfold aW mF;rw[e],q⟩
theorem HW{rows:List (List D)}(e:fg (vw δ) β=on (.ok rows,β1))(hn:rows.all noLs=PP)(k:Gw h (δ.set i (on (.grd rows))) β1 Q):Gw (aW (vF i fg) h) δ β Q:=f8 (by unfold vF;simp only[e,hn,QY]) k
theorem HV{rows:List (List D)}(e:fv (vwA δ) β=on (.ok d,β1))(j:fa (vwA δ) β1=on (.ok (.int ka),β2))(l:fb (vwA δ) β2=on (.ok (.int kb),β3))(m:δ.getD i PH=on (.grd rows))
  (n:ixN rows.length ka=on ja) (o:rows[ja]?=on ds) (p:ixN ds.length kb=on jb) (hn:noL d=PP) (k:Gw h (δ.set i (on (.grd (rows.set ja (ds.set jb d))))) β3 Q):Gw (aW (qE i fa fb fv) h) δ β Q:=
 f8 (by unfold qE;simp only[e,j,l,m,n,o,p,hn,QY]) k
theorem m5(e:fl (vw δ) β=on (.ok ds,β1))(j:ds.length<=Qk)(k:Gw h (δ.set i (on (.own ds))) β1 Q):Gw (aW (yn i fl) h) δ β Q:=f8 (by unfold yn;simp only[e,j,QY]) k
theorem m7{cs:List D}(j:δ.getD i PH=on (.own cs))(e:fl (vw δ) β=on (.ok [d],β1))(l:cs.length<Qk)(k:Gw h (δ.set i (on (.own (cs++[d])))) β1 Q):Gw (aW (yq i fl) h) δ β Q:=
 f8 (by unfold yq;simp only[j,e,l,QY]) k
theorem tP(e:f (vw δ) β=on (.ok d,β1))(j:tg d δ=on δ1)(k:Gw h δ1 β1 Q):Gw (aW (jU f tg) h) δ β Q:=f8 (by unfold jU;simp only[e,j,Rb]) k
def Tn(I:Ds->Bg->Prop)(h:G)(Q:Out->Bg->Prop):Out->Bg->Prop:=λo β=>match o with
 | .nx δ=>I δ β
 | .ct δ=>I δ β
 | .bk δ=>Gw h δ β Q
 |o=>Q o β
theorem bu(e:it (vw δ) β=on (.ok ds,β1))(u:Nat->Ds->Bg->Prop)(N:u 0 δ β1)(step:∀i d δ β,ds[i]?=on d->u i δ β->∃δ1,tg d δ=on δ1/\Gw g δ1 β (Tn (u (i+1)) h Q))(k:∀δ β,u ds.length δ β->Gw h δ β Q):
  Gw (aW (yo it tg g) h) δ β Q:=by
 have gen:∀(es:List D) (j:Nat) (δ:Ds) (β:Bg),es=ds.drop j->j+es.length=ds.length->u j δ β->Gw (aW (gLp tg g es) h) δ β Q:=by
  intro es
  induction es with
  |nil=>
   intro j δ β _ B F;simp at B;exact f8 (g:=gLp tg g []) rfl (k δ β (B▸F))
  |cons d es ih=>
   intro j δ β L B F;have O:ds[j]?=on d:=by
    have:=Re (λl=>l[0]?) L;simpa[YO]using this.symm
   obtain⟨δ1,v,o,β2,A,q⟩:=step j d δ β O F;have H:es=ds.drop (j+1):=by
    have:=Re List.tail L;simpa[List.tail_drop]using this
   have go:∀m,u (j+1) m β2->Gw (aW (gLp tg g es) h) m β2 Q:=λm I=>ih (j+1) m β2 H (by simp at B;omega) I;have n:∀{r:G} {m:Ds},Gw (aW r h) m β2 Q->gLp tg g (d::es) δ β=r m β2->Gw (aW (gLp tg g (d::es)) h) δ β Q:=λ{r m} ⟨T,p,J,U⟩ W=>⟨T,p,by rw[←J];unfold aW;rw[W],U⟩;cases o with
   |nx m=>exact n (r:=gLp tg g es) (go m q) (by rw[gLp];simp only[v,A])
   |ct m=>exact n (r:=gLp tg g es) (go m q) (by rw[gLp];simp only[v,A])
   |bk m=>exact n (r:=gNil) (bM q) (by rw[gLp];simp only[v,A];rfl)
   |rt d'=>exact⟨_,β2,by unfold aW;rw[gLp];simp only[v,A],q⟩
   |rg d'=>exact⟨_,β2,by unfold aW;rw[gLp];simp only[v,A],q⟩
   |ex C m=>exact⟨_,β2,by unfold aW;rw[gLp];simp only[v,A],q⟩
 obtain⟨o,p,J,q⟩:=gen ds 0 δ β1 (by simp) (by simp) N;refine⟨o,p,?_,q⟩;rw[←J];unfold aW yo;rw[e]
theorem mS{S:Except PX D->Bg->Prop}(k:Gw g (stD n ds) β (λo j=>match o with| .rt d=>S (.ok d) j| .nx _=>S (.ok .non) j| .ex C _=>S (.error C) j|_=>False)):∃r j,c8 n g ds β=on (r,j)/\S r j:=by
 obtain⟨o,j,e,q⟩:=k;cases o with
 |rt d=>exact⟨.ok d,j,by unfold c8;rw[e],q⟩
 |nx δ=>exact⟨.ok .non,j,by unfold c8;rw[e],q⟩
 |ex C δ=>exact⟨.error C,j,by unfold c8;rw[e],q⟩
 |_=>exact q.elim
theorem Lq{S:List (List D)->Bg->Prop}(k:Gw g (stD n ds) β (λo j=>match o with| .rg d=>S d j|_=>False)):∃r j,oF n g ds β=on (.ok r,j)/\S r j:=by
 obtain⟨o,j,e,q⟩:=k;cases o with
 |rg d=>exact⟨d,j,by unfold oF;rw[e],q⟩
 |_=>exact q.elim
theorem aL(k:Gw g (stD n ds) β (λo j=>j=β/\(match o with| .rt d=>r= .ok d| .nx _=>r= .ok .non| .ex C _=>r= .error C|_=>False))):c8 n g ds β=on (r,β):=by
 obtain⟨l,j,e,q1,q2⟩:=mS (S:=λl j=>j=β/\r=l) (n:=n) (ds:=ds) (β:=β) (k.mono λo j h=>by
  cases o<;>first|exact h|exact h.2)
 subst q1 q2;exact e
theorem Lr(k:Gw g (stD n ds) β (λo j=>j=β/\(match o with| .rg d=>r=d|_=>False))):oF n g ds β=on (.ok r,β):=by
 obtain⟨l,j,e,q1,q2⟩:=Lq (S:=λl j=>j=β/\r=l) (n:=n) (ds:=ds) (β:=β) (k.mono λo j h=>by
  cases o<;>first|exact h|exact h.2)
 subst q1 q2;exact e
theorem ak{δ:Dn}(e:fl δ β=on (.ok as,β1))(j:m as β1=on r):ci m fl δ β=on r:=by unfold ci M.bind;rw[e];exact j
theorem JO{δ:Dn}(e:fl δ β=on (.ok as,β1))(j:m as β1=on r):vM m fl δ β=on r:=by unfold vM M.bind;rw[e];exact j
theorem x_2{δ:Dn}(e:fa δ β=on (.ok x,β1))(j:fb δ β1=on (.ok y,β2))(k:op x y=on z):f2 op fa fb δ β=on (.ok z,β2):=by unfold f2 M.bind;rw[e];simp only[j,M.ofO,k]
theorem x_1{δ:Dn}(e:fa δ β=on (.ok x,β1))(j:op x=on z):f1 op fa δ β=on (.ok z,β1):=by unfold f1 M.bind;rw[e];simp only[M.ofO,j]
theorem aj{δ:Dn}(e:fl δ β=on (.ok as,β1))(j:op as=on z):aB op fl δ β=on (.ok z,β1):=by unfold aB M.bind;rw[e];simp only[M.ofO,j]
theorem aa{δ:Dn}(e:fa δ β=on (.ok x,β1))(j:fl δ β1=on (.ok as,β2)):ae fa fl δ β=on (.ok (x::as),β2):=by unfold ae M.bind;rw[e];simp only[j,M.ret]
theorem bx{δ:Dn}(e:fl δ β=on (.ok as,β1))(j:op as=on ds):bV op fl δ β=on (.ok ds,β1):=by unfold bV M.bind;rw[e];simp only[j,M.ofO]
theorem bP{δ:Dn}(e:fa δ β=on (.ok x,β1))(j:eE x=on ds):cu fa δ β=on (.ok ds,β1):=by unfold cu M.bind;rw[e];simp only[j,M.ofO]
theorem x_B{δ:Dn}(e:fa δ β=on (.ok (.bl c),β1)):fB fa δ β=on (.ok c,β1):=by unfold fB M.bind;rw[e];rfl
theorem pK{δ:Dn}(e:fa δ β=on (.ok x,β1))(j:kP x=on c):ii fa δ β=on (.ok c,β1):=by unfold ii M.bind;rw[e];simp only[M.ofO,j]
theorem mZ{δ:Dn}(e:t δ β=on (.ok c,β1)):iD t δ β=on (.ok (!c),β1):=by unfold iD M.bind;rw[e];rfl
theorem bJ(ok:β.ok)(k:0<lot)(l:lot<1073741824):∃v e,ld [.bag,.int lot] β=on (.ok (.int v),e)/\0<=v/\v<lot/\e.ok:=by
 obtain⟨m,a1,j⟩:=wD ok k;exact⟨_,_,DQ ok k l,m,a1,j⟩
theorem mC{n:Nat}{k:Int}(e:0<=k)(j:k<n):ixN n k=on k.toNat:=by unfold ixN;rw[P6 e,P6 j]
theorem AF{k:Int}{d:D}(e:0<=k)(h:xs[k.toNat]?=on d):ixD (.lst xs) (.int k)=on d:=by
 have j:k.toNat<xs.length:=(P9.mp h).1;show atI xs k=on d;unfold atI;rw[mC e (by omega)];exact h
theorem yg{x y:D}:ixD (.tup [x,y]) (.int 0)=on x:=rfl
theorem pw{x y:D}:ixD (.tup [x,y]) (.int 1)=on y:=rfl
end
section
variable{β β1 β2:Bg}{f g h i:FD}{t u:Dn->M Bool}{δ:Dn}{c e:Bool}{x y z w:Int}{d:D}
theorem tM(a:t δ β=on (.ok PU,β1))(b:u δ β1=on (.ok e,β2)):gm t u δ β=on (.ok e,β2):=by
 unfold gm M.bind;rw[a];simp[b]
theorem le_int:leD (.int x) (.int y)=on (.bl (decide (x<=y))):=rfl
theorem lt_int:ltD (.int x) (.int y)=on (.bl (decide (x<y))):=rfl
theorem gt_int:gtD (.int x) (.int y)=on (.bl (decide (y<x))):=rfl
theorem ge_int:geD (.int x) (.int y)=on (.bl (decide (y<=x))):=rfl
theorem wc(a:f δ β=on (.ok (.int x),β))(b:g δ β=on (.ok (.int y),β))(j:h δ β=on (.ok (.int z),β)):dZ leD leD f g h δ β=on (.ok (.bl (decide (x<=y)&&decide (y<=z))),β):=by
 unfold dZ M.bind;rw[a];simp only[b,le_int,M.ofO,asB];by_cases q:x<=y
 ·simp only[q,TU,QY,j,le_int,T1]
 ·simp only[q,Tl,Qd,QX,M.ret,Ui]
theorem BV(a:f δ β=on (.ok (.int x),β))(b:g δ β=on (.ok (.int y),β))(j:h δ β=on (.ok (.int z),β))(k:i δ β=on (.ok (.int w),β)):oo leD leD leD f g h i δ β=on (.ok (.bl (decide (x<=y)&&decide (y<=z)&&decide (z<=w))),β):=by
 unfold oo JG M.bind;rw[a];simp only[b,le_int,M.ofO,asB];by_cases q:x<=y
 ·simp only[q,TU,QY,j,le_int,T1]
  by_cases q2:y<=z
  ·simp only[q2,TU,QY,k,le_int,T1]
  ·simp only[q2,Tl,Qd,QX,M.ret,Ui]
 ·simp only[q,Tl,Qd,QX,M.ret,Ui]
noncomputable abbrev gI(rows:LI):List (List D):=rows.map λr=>r.map D.int
noncomputable abbrev lG(rows:List (List D)):D:= .lst (rows.map D.lst)
abbrev gridD(rows:LI):D:=lG (gI rows)
noncomputable def pD(p:Int×Int):D:= .tup [.int p.1,.int p.2]
abbrev gP(b:LP):List (List D):=b.map λr=>r.map pD
abbrev dD(b:LP):D:=lG (gP b)
def Shp{α:Type}(r c:Nat)(m:List (List α)):Prop:=m.length=r/\∀row∈m,row.length=c
noncomputable def tot(rows:LI):Int:=(rows.map RM).sum
theorem aZ(h:n<=1000):n<=Qk:=Qg h (by decide)
theorem sN:∀r:List Int,noLs (r.map D.int)=PP
 |[]=>rfl
 |x::r=>by
  show(noL (.int x)&&noLs (r.map D.int))=PP;rw[sN r];rfl
theorem ql:∀r:List (Int×Int),noLs (r.map pD)=PP
 |[]=>rfl
 |x::r=>by
  show(noL (pD x)&&noLs (r.map pD))=PP;rw[ql r];rfl
theorem ME(b:LP):(gP b).all noLs=PP:=by
 rw[TH];intro x a;obtain⟨r,_,rfl⟩:=Qc.mp a;exact ql r
theorem Shp.map{α a:Type}{f:α->a}{r c:Nat}{m:List (List α)}(h:Shp r c m):Shp r c (m.map λx=>x.map f):=⟨by rw[PF,h.1],λrow b=>by
 obtain⟨x,j,rfl⟩:=Qc.mp b;rw[PF];exact h.2 x j⟩
theorem Shp.set{α:Type}{r c i j:Nat}{m:List (List α)}{row:List α}{v:α}(h:Shp r c m)(b:m[i]?=on row):Shp r c (m.set i (row.set j v)):=⟨by rw[Q3,h.1],λx a=>by
 rcases R5 a with a|rfl
 ·exact h.2 x a
 ·rw[Q3];exact h.2 row (Ql b)⟩
theorem Shp.at{α:Type}{r c i:Nat}{m:List (List α)}(h:Shp r c m)(b:i<r):∃row,m[i]?=on row/\row.length=c:=by
 have a:i<m.length:=by rw[h.1];exact b
 exact⟨m[i],PM a,h.2 _ (QO a)⟩
theorem JJ{α:Type}{l:List α}{i:Nat}(h:i<l.length):∃x,l[i]?=on x:=⟨l[i],PM h⟩
theorem j3:∀{xs:List Int} {j:Nat} {x v:Int},xs[j]?=on x->(xs.set j v).sum=xs.sum-x+v
 |[],j,x,v,h=>by simp at h
 |y::xs,0,x,v,h=>by
  simp at h;subst h;simp only[Se,Qw];omega
 |y::xs,j+1,x,v,h=>by
  have h':xs[j]?=on x:=by simpa using h
  simp only[Sd,Qw,j3 h'];omega
theorem JY{rows:LI}{i j:Nat}{row:List Int}{x v:Int}(a:rows[i]?=on row)(b:row[j]?=on x):tot (rows.set i (row.set j v))=tot rows-x+v:=by
 unfold tot;rw[UR,j3 (x:=row.sum) (by rw[PV,a];rfl),j3 b];omega
theorem MF{rows:LI}{i j:Nat}{row:List Int}(h:∀r∈rows,∀x∈r,0<=x)(k:rows[i]?=on row)(l:0<=v):∀r∈rows.set i (row.set j v),∀x∈r,0<=x:=λr a x b=>by
 rcases R5 a with a|rfl
 ·exact h r a x b
 ·rcases R5 b with b|rfl
  ·exact h row (Ql k) x b
  ·exact l
theorem lV:∀{xs:List Int},(∀x∈xs,0<=x)->0<=xs.sum
 |[],_=>by simp
 |y::xs,h=>by
  have:=lV (xs:=xs) λx a=>h x (PN _ a);have:=h y PZ;simp only[Qw];omega
theorem vo:∀{xs:List Int},(∀x∈xs,0<=x)->∀x∈xs,x<=xs.sum
 |[],_,x,hx=>by cases hx
 |y::xs,h,x,hx=>by
  have:=lV (xs:=xs) λx hx=>h x (PN _ hx);have:=h y PZ;rcases Qf.mp hx with rfl|hx
  ·simp only[Qw];omega
  ·have:=vo (xs:=xs) (λx hx=>h x (PN _ hx)) x hx
   simp only[Qw];omega
theorem MP(h:∀r∈rows,∀x∈r,0<=x):∀r∈rows,∀x∈r,x<=tot rows:=λr a x b=>by
 have k:=vo (h r a) x b;have l:=vo (xs:=rows.map RM) (λs hs=>by
  obtain⟨q,j,rfl⟩:=Qc.mp hs;exact lV (h q j)) r.sum (Qc.mpr ⟨r,a,rfl⟩)
 unfold tot;omega
structure Tab (r c:Nat) (rows:LI):Prop where
 shp:Shp r c rows
 nn:∀row∈rows,∀x∈row,0<=x
 tot:tot rows<=40
 r0:1<=r
 r1:r<=4
 c0:1<=c
 c1:c<=6
theorem eZ(ns:List Int):fJ [.lst (ns.map D.int)]=on (.int ns.sum):=by
 show((eX (ns.map D.int)).map λl=>D.int l.sum)=_;have:∀ns:List Int,eX (ns.map D.int)=on ns:=λns=>by
  induction ns with
  |nil=>rfl
  |cons n ns ih=>simp[eX,ih]
 rw[this];rfl
theorem rg1{n:Int}(a:0<=n)(h:n<=10^9):gz [.int n]=on (bc 0 n.toNat):=by
 have q:(decide (-(2^62)<=n)&&decide (n<2^62))=PP:=by
  simp only[QI,QR];omega
 show(if(decide (-(2^62)<=n)&&decide (n<2^62))=PP then on (bc 0 n.toNat)else PH)=_;rw[P6 q]
theorem xQ{d:D}(h:(bc 0 n)[k]?=on d):k<n/\d= .int (k:Int):=by
 unfold bc at h;have a:k<n:=by
  have:=(P9.mp h).1;simpa using this
 rw[PV,Rf a]at h;exact⟨a,by cases h;simp⟩
theorem qb(n:Nat):(bc 0 n).length=n:=by simp[bc]
theorem bh{α:Type}{f:FD}{δ:Dn}{β:Bg}(xs:List α)(u v:α->D)(a:it δ β=on (.ok (xs.map u),β))
  (b:∀x∈xs,∃δ1,tg (u x) (cSt nv caps δ)=on δ1/\f δ1 β=on (.ok (v x),β)) (j:xs.length<=Qk):cw nv caps it tg (λ_=>M.ret PP) (cEm f) δ β=on (.ok (.lst (xs.map v)),β):=by
 refine rT a ?_ (by rw[PF];exact j);have gen:∀xs:List α,(∀x∈xs,∃δ1,tg (u x) (cSt nv caps δ)=on δ1/\f δ1 β=on (.ok (v x),β))->cLp tg (λ_=>M.ret PP) (cEm f) (xs.map u) (cSt nv caps δ) β=on (.ok (xs.map v),β):=by
  intro xs
  induction xs with
  |nil=>intro _;rfl
  |cons x xs ih=>
   intro h;obtain⟨δ1,k,l⟩:=h x PZ;have m:=ih λy n=>h y (PN _ n);rw[Qb,cLp];simp only[k,M.bind,M.ret,reduceIte,cEm,l,m,Qb,RF,Rq]
 exact gen xs b
theorem tj{α:Type}{f:FL}{δ:Dn}{β:Bg}(xs:List α)(u:α->D)(v:α->List D)(a:it δ β=on (.ok (xs.map u),β))
  (b:∀x∈xs,∃δ1,tg (u x) (cSt nv caps δ)=on δ1/\f δ1 β=on (.ok (v x),β)) (j:xs.length<=Qk):jd nv caps it tg (λ_=>M.ret PP) (vX f) δ β=on (.ok (xs.map v),β):=by
 have gen:∀xs:List α,(∀x∈xs,∃δ1,tg (u x) (cSt nv caps δ)=on δ1/\f δ1 β=on (.ok (v x),β))->pG tg (λ_=>M.ret PP) (vX f) (xs.map u) (cSt nv caps δ) β=on (.ok (xs.map v),β):=by
  intro xs
  induction xs with
  |nil=>intro _;rfl
  |cons x xs ih=>
   intro h;obtain⟨δ1,k,l⟩:=h x PZ;have m:=ih λy n=>h y (PN _ n);rw[Qb,pG];simp only[k,M.bind,M.ret,reduceIte,vX,l,m,Qb,RF,Rq]
 unfold jd;simp only[a,gen xs b,PF,j,QY]
theorem BC{α:Type}{f:FD}{δ:Dn}{β:Bg}(xs:List α)(u:α->D)(v:α->D)(a:it δ β=on (.ok (xs.map u),β))
  (b:∀x∈xs,∃δ1,tg (u x) (cSt nv caps δ)=on δ1/\f δ1 β=on (.ok (v x),β)) (j:xs.length<=Qk):gX nv caps it tg (λ_=>M.ret PP) (cEm f) δ β=on (.ok (xs.map v),β):=by
 have gen:∀xs:List α,(∀x∈xs,∃δ1,tg (u x) (cSt nv caps δ)=on δ1/\f δ1 β=on (.ok (v x),β))->cLp tg (λ_=>M.ret PP) (cEm f) (xs.map u) (cSt nv caps δ) β=on (.ok (xs.map v),β):=by
  intro xs
  induction xs with
  |nil=>intro _;rfl
  |cons x xs ih=>
   intro h;obtain⟨δ1,k,l⟩:=h x PZ;have m:=ih λy n=>h y (PN _ n);rw[Qb,cLp];simp only[k,M.bind,M.ret,reduceIte,cEm,l,m,Qb,RF,Rq]
 unfold gX;simp only[a,gen xs b,PF,j,QY]
theorem Ma{ds:List D}{c:Nat}(a:ds.length<=Qk)(b:ds.length*c<=Qk)(j:c<=1000000):uS ds (.int (c:Int))=on (Qm c ds).flatten:=by
 have q:(decide (-(2^63)<=(c:Int))&&decide ((c:Int)<2^63)&&decide (ds.length<=Qk)&&decide (ds.length*(c:Int).toNat<=Qk))=PP:=by
  simp only[QI,QR];exact⟨⟨⟨by omega,by omega⟩,a⟩,by rw[Rz];exact b⟩
 unfold uS;simp only[q,QY];rw[Rz]
theorem vI{α:Type}(x:α):∀c:Nat,(Qm c [x]).flatten=Qm c x
 |0=>rfl
 |c+1=>by rw[QL,SS,vI x c];rfl
theorem O1{f:FD}{g:FD}{x:D}{c:Nat}{δ:Dn}{β:Bg}(b:f δ β=on (.ok x,β))(j:g δ β=on (.ok (.int (c:Int)),β))(k:c<=1000):DH (ae f ay) g δ β=on (.ok (Qm c x),β):=by
 have a:[x].length<=Qk:=by rw[QU];decide
 have l:[x].length*c<=Qk:=by rw[QU,Yx];exact aZ k
 have r:=Ma (ds:=[x]) (c:=c) a l (by omega);rw[vI]at r;have s:szL [x]=on [x]:=by
  unfold szL;rw[P6 a]
 have m:ae f ay δ β=on (.ok [x],β):=aa b rfl;unfold DH;rw[M.bind_ok m,s,M.bind_some,M.bind_ok j,r];rfl
theorem BK(bs:List Bool):d9 (bs.map D.bl)=on bs:=by
 induction bs with
 |nil=>rfl
 |cons b bs ih=>simp[d9,ih]
theorem any_map{α:Type}(xs:List α)(p:α->Bool):yE [.lst (xs.map λx=>D.bl (p x))]=on (.bl (xs.any p)):=by
 show(d9 _).map _=_;rw[show(xs.map λx=>D.bl (p x))=(xs.map p).map D.bl by rw[P3];rfl,BK];simp only[Rb,List.any_map];rfl
theorem jB{α:Type}(r:Nat)(x:α):(P4 r).map (λ_=>x)=Qm r x:=by rw[List.map_const',Qr]
theorem cT{xs:List D}(h:xs.length=r):cB [.lst xs]=on (.int (r:Int)):=by subst h;rfl
theorem AA{rows:List (List D)}(h:rows.length=r):cB [lG rows]=on (.int (r:Int)):=cT (by rw[PF,h])
theorem ug{rows:List (List D)}{k:Nat}{row:List D}(h:rows[k]?=on row):ixD (lG rows) (.int (k:Int))=on (.lst row):=AF (by omega) (by rw[Rz,PV,h];rfl)
theorem bK{xs:List D}{k:Nat}{d:D}(h:xs[k]?=on d):ixD (.lst xs) (.int (k:Int))=on d:=AF (by omega) (by rw[Rz];exact h)
theorem eA{x y:D}:cI [x,y]=on (.tup [x,y]):=by
 unfold cI;rw[P6 (show[x,y].length<=Qk by rw[Qa,QU];decide)]
theorem DS:dm []=on (.lst []):=by
 unfold dm;rw[P6 (show([]:List D).length<=Qk by rw[Sx];decide)]
theorem mv{x:D}:dm [x]=on (.lst [x]):=by
 unfold dm;rw[P6 (show[x].length<=Qk by rw[QU];decide)]
theorem x4{x y:Int}:vf [.int x,.int y]=on (.int (Tq x y)):=by
 unfold vf;simp only;congr 2;split<;>omega
theorem MM{x y:Int}:x6 [.int x,.int y]=on (.int (Y6 x y)):=by
 unfold x6;simp only;congr 2;split<;>omega
theorem eq_int{x y:Int}:gn (.int x) (.int y)=on (.bl (decide (x=y))):=by rw[lz]
theorem ne_int{x y:Int}:dT (.int x) (.int y)=on (.bl (!decide (x=y))):=by rw[ly]
theorem ou{i:Nat}{d:D}(h:(cJ 0 xs)[i]?=on d):∃x,xs[i]?=on x/\d= .tup [.int (i:Int),x]:=by
 obtain⟨x,b,a⟩:=mH h;rw[Q6]at a;exact⟨x,b,a⟩
theorem bE{α a:Type}{f:α->a}{xs:List α}{i:Nat}{d:a}(h:(xs.map f)[i]?=on d):∃x,xs[i]?=on x/\d=f x:=by
 rw[PV]at h;cases q:xs[i]? with
 |none=>rw[q]at h;cases h
 |some x=>rw[q]at h;exact⟨x,rfl,by cases h;rfl⟩
noncomputable abbrev oh(r c:Nat):LP:=Qm r (Qm c (0,40))
theorem AV(r c:Nat):Shp r c (oh r c):=⟨by simp,λrow h=>by rw[(Sc.mp h).2];simp⟩
noncomputable def at2{α:Type}(m:List (List α))(i j:Nat):Option α:=(m[i]?).bind λrow=>row[j]?
theorem at2_set{α:Type}{m:List (List α)}{i j k l:Nat}{row:List α}{v x:α}(a:m[i]?=on row)(h:at2 (m.set i (row.set j v)) k l=on x):(k=i/\l=j/\x=v)\/(at2 m k l=on x/\¬(k=i/\l=j)):=by
 unfold at2 at h⊢;rw[Ra]at h;by_cases q:i=k
 ·subst q
  rw[P6 rfl]at h;split at h
  ·simp only[Rw]at h
   rw[Ra]at h;by_cases w:j=l
   ·subst w
    rw[P6 rfl]at h;split at h
    ·exact .inl ⟨rfl,rfl,(QB h).symm⟩
    ·cases h
   ·rw[P0 w]at h
    exact .inr ⟨by rw[a];exact h,λz=>w z.2.symm⟩
  ·cases h
 ·rw[P0 q]at h
  exact .inr ⟨h,λz=>q z.1.symm⟩
theorem xu{α:Type}{m:List (List α)}{i j:Nat}{x:α}(h:at2 m i j=on x):∃row∈m,x∈row:=by
 unfold at2 at h;cases q:m[i]? with
 |none=>rw[q]at h;cases h
 |some row=>rw[q]at h;exact⟨row,Ql q,Ql h⟩
theorem mT{α:Type}{m:List (List α)}{i j:Nat}{row:List α}{x:α}(a:m[i]?=on row)(b:row[j]?=on x):at2 m i j=on x:=by unfold at2;rw[a];exact b
structure PairOk (p:Int×Int):Prop where
 l:0<=p.1
 m:p.1<=p.2
 h:p.2<=40
def Kp(rows:LI)(b:LP):Prop:=∀i j x p,at2 rows i j=on x->at2 b i j=on p->p.1<=x/\x<=p.2
structure Bnd (r c:Nat) (b:LP):Prop where
 shp:Shp r c b
 ok:∀row∈b,∀p∈row,PairOk p
theorem Bnd.set{r c i j:Nat}{b:LP}{row:List (Int×Int)}(h:Bnd r c b)(l:b[i]?=on row)(m:PairOk p):Bnd r c (b.set i (row.set j p)):=⟨h.shp.set l,λq k x a=>by
 rcases R5 k with k|rfl
 ·exact h.ok q k x a
 ·rcases R5 a with a|rfl
  ·exact h.ok row (Ql l) x a
  ·exact m⟩
theorem Bnd.free(r c:Nat):Bnd r c (oh r c):=⟨AV r c,λrow b p a=>by
 rw[(Sc.mp b).2]at a;rw[(Sc.mp a).2];exact⟨by decide,by decide,by decide⟩⟩
theorem Tab.le40{r c:Nat}(t:Tab r c rows):∀row∈rows,∀x∈row,0<=x/\x<=40:=λrow a x b=>⟨t.nn row a x b,by
 have:=MP t.nn row a x b;have:=t.tot;omega⟩
theorem Kp.free{r c:Nat}(t:Tab r c rows):Kp rows (oh r c):=λi j x p k l=>by
 obtain⟨row,m,b⟩:=xu k;obtain⟨q,n,a⟩:=xu l;rw[(Sc.mp n).2]at a;rw[(Sc.mp a).2];exact t.le40 row m x b
theorem Kp.set{b:LP}{i j:Nat}{row:List (Int×Int)}{p:Int×Int}{x:Int}(h:Kp rows b)(n:b[i]?=on row)(o:at2 rows i j=on x)(r:p.1<=x)(v:x<=p.2):Kp rows (b.set i (row.set j p)):=λk l y q a m=>by
 rcases at2_set n m with⟨rfl,rfl,rfl⟩|⟨m,_⟩
 ·rw[o]at a
  cases a;exact⟨r,v⟩
 ·exact h k l y q a m
theorem Ln{α:Type}{δ:Dn}{β:Bg}(xs:List α)(u:α->D)(o:α->List D)(a:it δ β=on (.ok (xs.map u),β))
  (j:∀x∈xs,∃δ1,tg (u x) (cSt nv caps δ)=on δ1/\b δ1 β=on (.ok (o x),β)) (k:(xs.flatMap o).length<=Qk):cw nv caps it tg (λ_=>M.ret PP) b δ β=on (.ok (.lst (xs.flatMap o)),β):=by
 refine rT a ?_ k;have gen:∀xs:List α,(∀x∈xs,∃δ1,tg (u x) (cSt nv caps δ)=on δ1/\b δ1 β=on (.ok (o x),β))->cLp tg (λ_=>M.ret PP) b (xs.map u) (cSt nv caps δ) β=on (.ok (xs.flatMap o),β):=by
  intro xs
  induction xs with
  |nil=>intro _;rfl
  |cons x xs ih=>
   intro h;obtain⟨δ1,l,m⟩:=h x PZ;have n:=ih λy p=>h y (PN _ p);rw[Qb,cLp];simp only[l,M.bind,M.ret,reduceIte,m,n,QZ]
 exact gen xs j
theorem zO{α:Type}{f:FD}{δ:Dn}{β:Bg}(xs:List α)(u v:α->D)(a:it δ β=on (.ok (xs.map u),β))
  (b:∀x∈xs,∃δ1,tg (u x) δ=on δ1/\f δ1 β=on (.ok (v x),β)):cNx it tg (λ_=>M.ret PP) (cEm f) δ β=on (.ok (xs.map v),β):=by
 have gen:∀xs:List α,(∀x∈xs,∃δ1,tg (u x) δ=on δ1/\f δ1 β=on (.ok (v x),β))->cLp tg (λ_=>M.ret PP) (cEm f) (xs.map u) δ β=on (.ok (xs.map v),β):=by
  intro xs
  induction xs with
  |nil=>intro _;rfl
  |cons x xs ih=>
   intro h;obtain⟨δ1,j,k⟩:=h x PZ;have l:=ih λy m=>h y (PN _ m);rw[Qb,cLp];simp only[j,M.bind,M.ret,reduceIte,cEm,k,l,Qb,RF,Rq]
 unfold cNx;rw[M.bind_ok a];exact gen xs b
theorem iO{α a:Type}(u:α->D)(v:a->D):∀(xs:List α) (ys:List a),dF (xs.map u) (ys.map v)=(xs.zip ys).map λp=>D.tup [u p.1,v p.2]
 |[],ys=>by simp[dF]
 |x::xs,[]=>by simp[dF]
 |x::xs,y::ys=>by simp[dF,iO u v xs ys]
theorem Ni{xs:List D}{k:Nat}:jV xs PH (on (k:Int))=xs.take k:=by
 unfold jV;rw[HT.sIx_none,HT.sIx_nat,VW,Wx];by_cases h:k<=xs.length
 ·rw[show Tq k xs.length=k by omega]
 ·rw[RA (by omega),RA (by omega)]
theorem vR{xs:List D}{k:Nat}:jV xs (on (k:Int)) PH=xs.drop k:=by
 unfold jV;rw[HT.sIx_none,HT.sIx_nat];by_cases h:k<=xs.length
 ·rw[show Tq k xs.length=k by omega]
  rw[RA (by rw[WB];omega)]
 ·rw[R3 (by omega),R3 (by omega)]
  simp
theorem JN{f g:FD}{δ:Dn}{β:Bg}(a:f δ β=on (.ok (.lst xs),β))(b:g δ β=on (.ok (.int k),β)):fSl f PH (on g) δ β=on (.ok (.lst (jV xs PH (on k))),β):=by
 unfold fSl qG;simp only[M.bind,a,b,M.ret,M.ofO,vZ,slD]
theorem se{f g:FD}{δ:Dn}{β:Bg}(a:f δ β=on (.ok (.lst xs),β))(b:g δ β=on (.ok (.int k),β)):fSl f (on g) PH δ β=on (.ok (.lst (jV xs (on k) PH)),β):=by
 unfold fSl qG;simp only[M.bind,a,b,M.ret,M.ofO,vZ,slD]
theorem oI{xs ys:List D}(h:xs.length+ys.length<=1000):lC (.lst xs) (.lst ys)=on (.lst (xs++ys)):=by
 unfold lC;simp only;rw[P6 (aZ h)]
def kJ:List D->List PY->Prop
 |[],[]=>True
 | .int i::ds,.int j _::vs=>i=j/\kJ ds vs
 | .str x::ds,.str y _::vs=>x=y/\kJ ds vs
 | .bl x::ds,.bool y::vs=>x=y/\kJ ds vs
 | .non::ds,.none::vs=>kJ ds vs
 |_,_=>False
theorem gU{K:Qp}:∀{ds:List D} {vs:List PY},kJ ds vs->∃xs,az xs vs/\∀F H,DenL K F H ds xs
 |[],[],_=>⟨[],.nil,λ_ _=>DenL.nil⟩
 | .int i::ds,.int j t::vs,h=>by
  obtain⟨e,h⟩:=h;subst e;obtain⟨xs,a,b⟩:=gU (K:=K) h;exact⟨.int i::xs,.cons ⟨t,rfl⟩ a,λF H=>DenL.cons rfl (b F H)⟩
 | .str i::ds,.str j t::vs,h=>by
  obtain⟨e,h⟩:=h;subst e;obtain⟨xs,a,b⟩:=gU (K:=K) h;exact⟨.str i::xs,.cons ⟨t,rfl⟩ a,λF H=>DenL.cons rfl (b F H)⟩
 | .bl i::ds,.bool j::vs,h=>by
  obtain⟨e,h⟩:=h;subst e;obtain⟨xs,a,b⟩:=gU (K:=K) h;exact⟨.bl i::xs,.cons rfl a,λF H=>DenL.cons rfl (b F H)⟩
 | .non::ds,.none::vs,h=>by
  obtain⟨xs,a,b⟩:=gU (K:=K) (ds:=ds) (vs:=vs) h;exact⟨.non::xs,.cons rfl a,λF H=>DenL.cons rfl (b F H)⟩
def VIs(K:Qp)(d:D)(u:PY):Prop:=∃v,aN v u/\∀F H,Den K F H d v
theorem m9{K:Qp}{i:Int}{t:Tok}:VIs K (.int i) (.int i t):=⟨.int i,⟨t,rfl⟩,λ_ _=>rfl⟩
theorem JT{K:Qp}{q3:Array PY}(a:K.lookup p=on ⟨q1,q2,.seq q3 q4,q5⟩)(b:q1= .type "tuple")(j:q3.size<=Qk)(k:kJ ds q3.toList):VIs K (.tup ds) (.ref p):=by
 obtain⟨xs,l,m⟩:=gU (K:=K) k;exact⟨.ref p,rfl,λF H=>⟨p,xs,rfl,.inr ⟨_,q3,q4,a,b,rfl,j,l⟩,m F H⟩⟩
theorem qL{K:Qp}{mg:QN->Option PY}{x:QN}{d:D}{u:PY}(h:mg x=on u)(v:VIs K d u):oJ K mg x d:=let ⟨w,h1,h2⟩:=v;⟨u,w,h,h1,h2⟩
theorem Ng{K:Qp}{ps:List QN}{us:List PY}(n:Nat)(l:ps.length=n+us.length)(b:∀(s:P7) (vs:List PY),K.In s.heap->vs.length=n->Wo s fd ⟨vs,[]⟩ (ps.zip (vs++us)))(h:∃vs,az vs us/\∀F H,DenL K F H dd vs):dz K fd ps dd:=
 let ⟨vs,h1,h2⟩:=h
 ⟨us,vs,λs a j k=>b s a j (by rw[Qh]at k;omega),h1,h2⟩
theorem Nd{K:Qp}:∃vs,az vs []/\∀F H,DenL K F H [] vs:=⟨[],.nil,λ_ _=>DenL.nil⟩
theorem Ll{K:Qp}{d:D}{u:PY}(v:VIs K d u)(h:∃vs,az vs us/\∀F H,DenL K F H ds vs):∃vs,az vs (u::us)/\∀F H,DenL K F H (d::ds) vs:=by
 obtain⟨w,a,b⟩:=v;obtain⟨vs,j,k⟩:=h;exact⟨w::vs,.cons a j,λF H=>DenL.cons (b F H) (k F H)⟩
inductive KSr (K:Qp):List (Sr D)->List (Sr PY)->Prop where
 |nil:KSr K [] []
 |kw {j:Nat} {a:List (Sr D)} {c:List (Sr PY)}:KSr K a c->KSr K (.kw j::a) (.kw j::c)
 |df {x:D} {y:PY} {a:List (Sr D)} {c:List (Sr PY)}:VIs K x y->KSr K a c->KSr K (.df x::a) (.df y::c)
theorem KSr.mid{K:Qp}:∀{a:List (Sr D)} {c:List (Sr PY)},KSr K a c->∃b:List (Sr V),SrR aN b c/\SrR (λd v=>∀F H,Den K F H d v) a b
 |_,_,.nil=>⟨[],.nil,.nil⟩
 |_,_,.kw (j:=j) h=>let ⟨b,h1,h2⟩:=KSr.mid h;⟨.kw j::b,.kw h1,.kw h2⟩
 |_,_,.df v h=>let ⟨b,h1,h2⟩:=KSr.mid h;let ⟨w,g1,g2⟩:=v;⟨.df w::b,.df g1 h1,.df g2 h2⟩
theorem Pe{K:Qp}{ps ks:List QN}{src:List (Sr D)}{sv:List (Sr PY)}(h:KSr K src sv)(j:ps.length=n+src.length)(k:0<ps.length)(b:∀(s:P7) (us a:List PY),K.In s.heap->us.length=n->a.length=ks.length->Wo s fd ⟨us,ks.zip a⟩ (ps.zip (us++sv.map (Sr.pick .none a)))):KwOk K fd ps ks n src:=
 ⟨let ⟨sx,h1,h2⟩:=h.mid;⟨sv,sx,h1,h2,b⟩,j,k⟩
variable{X:Cx}{E:St->XK}{K:Qp}{st:Rh}
end
section
variable{h:G}{δ:Ds}{β β1 β2 β3:Bg}{Q:Out->Bg->Prop}{i:Nat}{fa fb fv:FD}{fl:FL}{d d0 d1:D}{ds:List D}{op:D->D->Option D}
theorem Oz{δ:Dn}{β β1:Bg}(a:t δ β=on (.ok PP,β1))(b:f δ β1=on r):fIf t f g δ β=on r:=by
 unfold fIf M.bind;rw[a];exact b
theorem OA{δ:Dn}{β β1:Bg}(a:t δ β=on (.ok PU,β1))(b:g δ β1=on r):fIf t f g δ β=on r:=by
 unfold fIf M.bind;rw[a];exact b
theorem xx{d:D}{δ:Dn}{β:Bg}(e:δ.getD n PH=on d):ah n δ β=on (.ok d,β):=by unfold ah;rw[e];rfl
end
section
variable{β β1 β2:Bg}{f g h:FD}{δ:Dn}{x y z:Int}
theorem yK(a:f δ β=on (.ok (.int x),β))(b:g δ β=on (.ok (.int y),β))(c:h δ β=on (.ok (.int z),β)):dZ leD ltD f g h δ β=on (.ok (.bl (decide (x<=y)&&decide (y<z))),β):=by
 unfold dZ M.bind;rw[a];simp only[b,le_int,M.ofO,asB];by_cases q:x<=y
 ·simp only[q,TU,QY,c,lt_int,T1]
 ·simp only[q,Tl,Qd,QX,M.ret,Ui]
theorem qt{K:Qp}{f:QN}:∀{ns:List QN} {ds:List D} {xs:List V},DenL K F H ds xs->(ns.zip ds).lookup f=on d->∃v,(ns.zip xs).lookup f=on v/\Den K F H d v
 |[],ds,xs,h,e=>by simp at e
 |n::ns,[],xs,h,e=>by simp at e
 |n::ns,c::ds,xs,h,e=>by
  obtain⟨x,r,q,a,b⟩:=h;subst q;rw[Sf,Vw]at e⊢;split at e
  ·rename_i z
   cases e;exact⟨x,rfl,a⟩
  ·rename_i z
   exact qt b e
theorem sO{α:Type}:∀{ns:List QN} {xs:List α},m∉ns->(ns.zip xs).lookup m=PH
 |[],xs,_=>by simp
 |n::ns,[],_=>by simp
 |n::ns,x::xs,h=>by
  rw[Sf,Vw];have a:m≠n:=λz=>h (by rw[z];exact PZ);have b:m∉ns:=λz=>h (PN _ z);rw[show(m==n)=PU by simpa using a];exact sO b
theorem dz.nil{K:Qp}(b:aD K fd ps []):dz K fd ps []:=⟨[],[],b,.nil,λ_ _=>DenL.nil⟩
end
section
variable{X:Cx}{E:St->XK}{o e:Expr}{es:List Expr}{pos p apos kpos:UL}{x m:QN}{k n:Nat}{f C:PX}{fd:Qt}{ps ks:List QN}{kws:List VE}
noncomputable def yt(C:PX)(f:QN):D->Option D
 | .obj C' ns ds=>if C'=C then(ns.zip ds).lookup f else PH
 |_=>PH
theorem jl{f:QN}(c:Cls X.K C)(n:d6 X.K C f)(j:PE X e (tV X.K g E))(l:Uh e f X.env (Rk e X.env)=Rk e X.env:=by rfl):PE X (.Attribute e f pos) (tV X.K (f1 (yt C f) g) E):=
 (Mr j l).imp λL H Q i=>ex6 i λF δ β fr q h=>⟨F,δ,β,fr,q,(run.bind (R:=Den X.K F) h).mono λv r i=>by
  obtain⟨d,β1,t,hd,r1⟩:=i;obtain⟨d3,b,k⟩:=run.ofO r1;cases d<;>first|cases b|skip
  rename_i u ns ds;unfold yt at b;simp only at b;split at b
  ·rename_i z
   subst z;unfold Den at hd;obtain⟨a,y,xs,rfl,N,A,O,B⟩:=hd;obtain⟨w,I,J⟩:=qt B b;exact⟨a,u,y,_,w,rfl,A,c,n,I,k w r (To.refl t.fr) J⟩
  ·cases b⟩
def oi(C:PX)(m:QN)(a:List D->M D)(b:FD)(g:FL)(c:List D):FD:=λδ=>M.bind (b δ) λd=>match d with
 | .obj C' ns _=>if C'=C/\m∉ns then M.bind (g δ) λas=>a (d::(as++c))else M.fail
 |_=>M.fail
theorem vg{i:List D}{K:Qp}(N:∀vs H Q E,spF K n mf vs H Q E->R vs H Q E)(rd:∀F H,DenL K F H i dvs)(hn:∀δ β r b,g δ β=on (.ok r,b)->r.length+i.length+1=n)(h:tV K (oi C m mf fo g i) E σ H Q):xG C m R dvs E (tV K fo E) (tVA K g E) σ H Q:=by
 obtain⟨F,δ,β,fr,A,h⟩:=h;refine⟨F,δ,β,fr,A,(run.bind (R:=Den K F) h).mono λv O T=>ex5 T λd β1 t hd r1=>?_⟩;have fail:∀{j:M D},j=M.fail->run (Den K F) F E σ j O Q β1->False:=λ{j} e r=>by
  obtain⟨r,b,B,_⟩:=r;rw[e]at B;cases B
 cases d<;>first|exact(fail rfl r1).elim|skip
 rename_i C' ns ds;simp only at r1;split at r1
 ·rename_i z
  obtain⟨rfl,hm⟩:=z;have l:=hd;unfold Den at hd;obtain⟨a,U,xs,rfl,h1,W,h3,h4⟩:=hd;refine⟨a,U,_,rfl,W,sO hm,F,δ,β1,t.fr,A.tr (t.tr fr),?_⟩;obtain⟨r0,q,I,J⟩:=run.bind (R:=DenL K F) r1;refine⟨r0,q,I,?_⟩;cases r0 with
  |error C=>exact J
  |ok as=>
   intro vs u Y c;obtain⟨d',β2,L,y,Z⟩:=J vs u Y c;have hl:=hn _ _ _ _ I;have hz:=(rd F u).length;refine N _ _ _ _ ⟨by rw[Qa,Qh,←c.length,←hz,hl],F,_::(d'++i),β2,L.fr,DenL.cons (Den.tr (L.tr t.fr) _ _ l) (DenL.append y (rd F u)),run.toE Z⟩
 ·exact(fail rfl r1).elim
theorem pM{a:List D}(c:Cls X.K C)(hm:Meth X.K C m f)(G:FnOk X.prog X.w X.K X.mg X.base (CXE X.prog X.w) k f fd ps (spF X.K n mf))(l:Room k X.A)(q:dz X.K fd ps a)(t:dy (CXE X.prog X.w) X E)
  (u:PE X o (tV X.K fo E)) (ha:PA X (e::es) (tVA X.K g E)) (hn:∀δ β r j,g δ β=on (.ok r,j)->r.length+a.length+1=n)
  (d:Qe (e::es) X.env=(PU,Rk e X.env)::Qe es X.env:=by rfl) (i:(SA pos (Qe es X.env)).any (·.1)=PU:=by rfl)
  (v:Rk (.Call (.Attribute o m apos) (e::es) [] pos) X.env=(do
   let ov ←Rk o X.env
   Ua apos.atName
   let (f,first) ←UB [ov] (Wt ov m pl)
   callWith pos f first (SA pos (Qe (e::es) X.env)) (Tt pos (Sg [] X.env))):=by rfl):
  PE X (.Call (.Attribute o m apos) (e::es) [] pos) (tV X.K (oi C m mf fo g a) E):=by
 obtain⟨ds,y,b,B,rd⟩:=q;exact(KG (pl:=pl) u c hm G l b B t ha d i v).imp λF H Q h=>vg (λ_ _ _ _ z=>z) rd hn h
theorem iE{d:List D}(c:Cls X.K C)(hm:Meth X.K C m f)(G:FnOk X.prog X.w X.K X.mg X.base (CXE X.prog X.w) k f fd ps (spF X.K n mf))(i:Room k X.A)(j:dz X.K fd ps d)(l:dy (CXE X.prog X.w) X E)
  (q:PE X o (tV X.K fo E)) (hn:d.length+1=n)
  (t:Rk (.Call (.Attribute o m apos) [] [] pos) X.env=(do
   let ov ←Rk o X.env
   Ua apos.atName
   let (f,first) ←UB [ov] (Wt ov m pl)
   callWith pos f first (SA pos (Qe [] X.env)) (Tt pos (Sg [] X.env))):=by rfl):
  PE X (.Call (.Attribute o m apos) [] [] pos) (tV X.K (oi C m mf fo ay d) E):=by
 obtain⟨ds,u,b,y,rd⟩:=j;refine(DB (pl:=pl) q c hm G i b y l t).imp λU H Q h=>?_;obtain⟨F,δ,β,fr,B,h⟩:=vg (λ_ _ _ _ z=>z) rd (λδ β r I e=>by cases e;simpa using hn) h;refine⟨F,δ,β,fr,B,h.mono λv W ⟨a,J,fs,L,ha,N,Y,O,β2,g,R,T⟩=>⟨a,J,fs,L,ha,N,?_⟩⟩;exact run.ret g T DenL.nil
structure ToX (F:Fx) (x:PX) (H H':Hp) (β':Bg):Prop where
 kp:∀a o,a≠x->H a=on o->(∀b l,F.bg=on (b,l)->a≠b/\a≠l)->H' a=on o
 fr:Fr F H' β'
def spI(K:Qp)(C:PX)(ns:List QN)(n:Nat)(g:List D->M (List D)):Sp:=λvs H Q E=>∃x rest F ds β d,vs= .ref x::rest/\rest.length=n/\Fr F H β/\F.A x/\(∀b l,F.bg=on (b,l)->x≠b/\x≠l)/\H x=on (.ins C d [])/\DenL K F H ds rest/\
 ∃r a,g ds β=on (r,a)/\match r with
  | .ok es=>∀c xs,ToX F x H c a->c x=on (.ins C d (ns.zip xs))->ns.length=xs.length->DenL K F c es xs->Q .non c
  | .error Ce=>∀c,ToX F x H c a->E (.ref Ce) PH c
variable{ns:List QN}
theorem DN{K:Qp}{vs:List V}(fr:Fr F H2 β2)(R:vs.length=n)(hd:DenL K F H2 ds vs)(r:run (Den K F) F E σ (M.bind (mi ds) λfs=>M.ret (.obj C ns fs)) H2 Q β2):
  ∀x c,H2 x=PH->H2 c=PH->c≠x->spI K C ns n mi (.ref x::vs) (upd (upd H2 c (.own x)) x (.ins C c [])) (λv T=>v= .non/\Q (.ref x) T) (E σ):=by
 intro x c H I ne;have J:¬F.A x:=fr.fresh H;have same:bL H2 (upd (upd H2 c (.own x)) x (.ins C c [])):=λa o h=>by
  rw[upd_ne (aA h H),upd_ne (aA h I)];exact h
 have t:=fr.same same;have L:Fr (F.but x) (upd (upd H2 c (.own x)) x (.ins C c [])) β2:=⟨λa ha z=>(by
  rcases ha with ha|ha
  ·exact t.fr.occ a ha z
  ·subst ha;rw[aq]at z;cases z),λb l q=>let ⟨z1,z2,z3⟩:=fr.bgA b l q;⟨.inl z1,.inl z2,z3⟩,t.fr.bag⟩
 have U:∀b l,F.bg=on (b,l)->x≠b/\x≠l:=λb l q=>⟨λz=>J (z▸(fr.bgA b l q).1),λz=>J (z▸(fr.bgA b l q).2.1)⟩;have N:Tr F H2 (F.but x) (upd (upd H2 c (.own x)) x (.ins C c [])):=⟨λa W Y z=>by
  rcases z with z|z
  ·exact W z
  ·subst z;exact Y H,λa o _ h=>same a o h,rfl⟩
 obtain⟨Z,d,g,h⟩:=r;refine⟨x,vs,F.but x,ds,β2,c,rfl,R,L,.inr rfl,U,aq,DenL.tr N _ _ hd,?_⟩;have u:∀{i:Hp} {d:Bg},ToX (F.but x) x (upd (upd H2 c (.own x)) x (.ins C c [])) i d->To F H2 i d:=λ{i d} j=>⟨λa o ha n=>j.kp a o (aA ha H) (same a o ha) n,⟨λa ha=>j.fr.occ a (.inl ha),fr.bgA,j.fr.bag⟩⟩;cases q:mi ds β2 with
 |none=>unfold M.bind at g;rw[q]at g;cases g
 |some z=>
  obtain⟨r1,β1⟩:=z;refine⟨r1,β1,rfl,?_⟩;cases r1 with
  |error Ce=>
   rw[M.bind_err q]at g;cases g;exact λi j=>h i (u j)
  |ok fs=>
   rw[M.bind_ok q]at g;cases g;refine λi xs j O y B=>⟨rfl,h (.ref x) i (u j) ⟨x,c,xs,rfl,J,O,y,DenL.tr Fx.tr_of _ _ B⟩⟩
def AX(C:PX)(ns:List QN)(a:List D->M (List D))(g b:FL)(src:List (Sr D)):FD:=λδ=>M.bind (g δ) λas=>M.bind (b δ) λks=>M.bind (a (as++src.map (Sr.pick .non ks))) λfs=>M.ret (.obj C ns fs)
def LJ(C:PX)(sp:Sp)(d:List V->List V->List V)(E:St->XK)(t g:TA):TE:=λb H Q=>t b H λvs h=>g b h λi c=>∀x a,c x=PH->c a=PH->a≠x->
 sp (d (.ref x::vs) i) (upd (upd c a (.own x)) x (.ins C a [])) (λv j=>v= .non/\Q (.ref x) j) (E b)
theorem DC(M:Mk X.K C f)(F:FnOk X.prog X.w X.K X.mg X.base CX k f fd ps sp)(U:Room (k+1) X.A)(Y:Gl X x)(hm:X.mg x=on (.ref C))(O:KBinds X.K fd ps ks g gV)(Z:dy CX X E)
  (ha:PA X (e::es) t) (B:PK X kws tk) (i:(Tt pos (Sg kws X.env)).all (·.1.isSome)=PP:=by rfl) (J:(Tt pos (Sg kws X.env)).filterMap (·.1)=ks:=by rfl)
  (L:(x==("__debug__":QN))=PU:=by decide) (he:Qe (e::es) X.env=(PU,Rk e X.env)::Qe es X.env:=by rfl)
  (N:((SA pos (Qe (e::es) X.env)).any (·.1)||(Tt pos (Sg kws X.env)).any (·.1.isNone))=PU:=by rfl):
  PE X (.Call (.Name x p) (e::es) kws pos) (LJ C sp gV E t tk):=by
 intro a s l H Q I h;refine Vu (rD I Y hm ?_ L);refine PySem.W.callWith_KW (h₀:=X.base) I.ok.mod.kin M.kp i (thn (ha pos a s l H _ I h) λus s1 ⟨vs,H1,I1,r,q⟩=>?_) N he;refine thn (B pos a s1 l H1 _ I1 q) λd c ⟨zs,H2,j,rz,q2⟩=>⟨j.kIn,?_⟩;rw[J];have R:=q2 (c.heap.objs.size+1) c.heap.objs.size (j.hok.fresh (Vm _)) (j.hok.fresh (P5 _)) (Q5 (VC _));have y:=Inv.made (C:=C) j;have T:=O.rel (.cons (show aN (V.ref (c.heap.objs.size+1)) (Qs (c.heap.objs.size+1))from rfl) r) rz;have hl:(g (Qs (c.heap.objs.size+1)::us) d).length=ps.length:=by rw[←T.length];exact F.len _ _ _ _ R
 refine wpAny_call (DO (f:=f) j.kIn M.makes M.init (beq_iff_eq.mp M.fn) (Vi (F.run _ X.stack _ _ ⟨Qs (c.heap.objs.size+1)::us,ks.zip d⟩ (g (Qs (c.heap.objs.size+1)::us) d) _ _ (E l) (U.make C us (ks.zip d))
  (y.env0.make C us (ks.zip d)) (O.to _ (Qs (c.heap.objs.size+1)::us) d y.kIn hl) T R) λr s' b=>?_))
 cases r with
 |error e=>exact Z a l _ _ e s' y b
 |ok fl=>
  cases fl with
  |ret u=>
   obtain⟨v,H',I4,rv,ev,q4⟩:=y.after b;subst ev;exact⟨rv,⟨V.ref (c.heap.objs.size+1),H',I4,rfl,q4⟩⟩
  |next=>exact SG b
  |brk=>exact SG b
  |cont=>exact SG b
theorem JU{src:List (Sr D)}(Mm:Mk X.K C f)(G:FnOk X.prog X.w X.K X.mg X.base (CXE X.prog X.w) k f fd ps (spI X.K C ns n mi))(hr:Room (k+1) X.A)(hg:Gl X x)(hm:X.mg x=on (.ref C))(hb:KwOk X.K fd ps ks (n1+1) src)(hx:dy (CXE X.prog X.w) X E)
  (ha:PA X (e::es) (tVA X.K g E)) (c:PK X kws (tVA X.K gk E)) (hn:∀δ β r a,g δ β=on (.ok r,a)->r.length=n1) (d:∀δ β r a,gk δ β=on (.ok r,a)->r.length=ks.length) (h3:n1+src.length=n)
  (b:(Tt pos (Sg kws X.env)).all (·.1.isSome)=PP:=by rfl) (h:(Tt pos (Sg kws X.env)).filterMap (·.1)=ks:=by rfl)
  (i:(x==("__debug__":QN))=PU:=by decide) (he:Qe (e::es) X.env=(PU,Rk e X.env)::Qe es X.env:=by rfl)
  (j:((SA pos (Qe (e::es) X.env)).any (·.1)||(Tt pos (Sg kws X.env)).any (·.1.isNone))=PU:=by rfl):
  PE X (.Call (.Name x p) (e::es) kws pos) (tV X.K (AX C ns mi g gk src) E):=by
 obtain⟨sv,J,rd,kb⟩:=hb.kb;refine(DC Mm G hr hg hm kb hx ha c b h i he j).imp λσ H Q h_=>ex6 h_ λF δ β fr L r=>⟨F,δ,β,fr,L,?_⟩;obtain⟨r0,l,N,O⟩:=run.bind (R:=DenL X.K F) r;refine⟨r0,l,N,?_⟩;cases r0 with
 |error C=>exact O
 |ok as=>
  intro vs H1 t hd;obtain⟨d',β1,q,u,r1⟩:=O vs H1 t hd;refine⟨F,δ,β1,q.fr,L.tr (q.tr fr),?_⟩;obtain⟨T,β2,U,W⟩:=run.bind (R:=DenL X.K F) r1;refine⟨T,β2,U,?_⟩;cases T with
  |error C=>exact W
  |ok bs=>
   intro v Y t2 Z;obtain⟨d2,β3,t3,B,r3⟩:=W v Y t2 Z;have l1:=hn _ _ _ _ N;have l2:=d _ _ _ _ U;have I:DenL X.K F Y d' vs:=DenL.tr (t3.tr q.fr) _ _ u;intro y dx;have g1:gK V.non (n1+1) ks.length J (.ref y::vs) v= .ref y::(vs++J.map (Sr.pick .non v)):=P6 ⟨by rw[Qa,←hd.length,l1],by rw[←Z.length,l2]⟩;rw[g1];exact DN t3.fr (by rw[Qh,PF,←hd.length,l1,←rd.len,h3]) (DenL.append I (SrR.den B rd)) r3 y dx
abbrev IP:=Ds->List D->Bg->Option (Except PX (List D)×Bg)
noncomputable def JB:IP:=λ_ done β=>on (.ok done,β)
noncomputable def nZ(g:G)(a:IP):IP:=λδ done β=>match g δ β with
 |some (.nx δ1,β1)=>match δ[0]?,δ1[0]? with
  |some (on (Sl.sh (D.adr x))),on (on (Sl.sh (D.adr y)))=>if x=y then a δ1 done β1 else PH
  |_,_=>PH
 |some (.ex C _,β1)=>on (.error C,β1)
 |_=>PH
def jC(f:FD)(a:IP):IP:=λδ done β=>match f (vw δ) β with
 |some (.ok d,β1)=>a δ (done++[d]) β1
 |some (.error C,β1)=>on (.error C,β1)
 |none=>PH
structure StpX (x:PX) (B:Ow) (H:Hp) (B':Ow) (H':Hp):Prop where
 kp:∀a o,a≠x->H a=on o->(B a=PH\/B a=on 0)->H' a=on o
 tg:∀a,B a=on 0\/B a=on 1->B' a=B a
 nn:∀a o,a≠x->H a=on o->B a=PH->B' a=PH
 al:∀a,H a≠PH->H' a≠PH
end
theorem Stp.x{x:PX}{B b:Ow}{H c:Hp}(s:Stp B H b c):StpX x B H b c:=⟨λa o _=>s.kp a o,s.tg,λa o _=>s.nn a o,s.al⟩
theorem StpX.trans(a:StpX x B H B1 H1)(b:StpX x B1 H1 B2 H2):StpX x B H B2 H2:=by
 refine⟨λc o ne h n=>b.kp c o ne (a.kp c o ne h n) ?_,λc h=>?_,λc o ne h n=>b.nn c o ne (a.kp c o ne h (.inl n)) (a.nn c o ne h n),λc h=>b.al c (a.al c h)⟩
 ·rcases n with n|n
  ·exact .inl (a.nn c o ne h n)
  ·exact .inr ((a.tg c (.inl n)).trans n)
 ·have e:=a.tg c h
  rw[←e]at h;exact(b.tg c h).trans e
def kK(K:Qp)(bg:Option (PX×PX))(E:St->XK)(Dn:Ends)(B:Ow)(H:Hp)(x C e:PX)(all:List QN)(r:Except PX (List D))(d:Bg):Prop:=match r with
 | .ok ds=>∀b c a vs,StpX x B H c a->Fr (FxB c bg) a d->a x=on (.ins C e (all.zip vs))->all.length=vs.length->DenL K (FxB c bg) a ds vs->Dn.nx b a
 | .error Ce=>∀b c a,StpX x B H c a->Fr (FxB c bg) a d->E b (.ref Ce) PH a
theorem kK.pre{K:Qp}{E:St->XK}{Dn:Ends}(s:StpX x B H B1 H1)(h:kK K bg E Dn B H x C dx all r β'):kK K bg E Dn B1 H1 x C dx all r β':=by
 cases r with
 |ok ds=>exact λa b c vs t=>h a b c vs (s.trans t)
 |error d=>exact λa b c t=>h a b c (s.trans t)
def tI(K:Qp)(H₀:Hp)(C:PX)(a names:List QN)(f:IP)(E:St->XK):TS:=λDn g H=>∃B bg δ β x e b c r d,SOk K H₀ B bg H δ β g/\δ[0]?=on (on (.sh (.adr x)))/\B x=on 0/\H x=on (.ins C e (a.zip b))/\a.length=b.length/\DenL K (FxB B bg) H c b/\f δ c β=on (r,d)/\kK K bg E Dn B H x C e (a++names) r d
theorem sL:∀{ns:List QN} {vs:List V},ns.length=vs.length->f∉ns->dI f y (ns.zip vs)=(ns++[f]).zip (vs++[y])
 |[],[],_,_=>rfl
 |n::ns,v::vs,h,hf=>by
  have a:¬n=f:=λz=>hf (by rw[z];exact PZ);show(if n=f then(n,y)::ns.zip vs else(n,v)::dI f y (ns.zip vs))=_;rw[P0 a,sL (by simpa using h) λz=>hf (PN _ z)];rfl
 |[],_::_,h,_=>by simp at h
 |_::_,[],h,_=>by simp at h
theorem SOk.upd0{K:Qp}(ok:SOk K H₀ B bg H δ β σ)(g:B x=on 0):SOk K H₀ B bg (upd H x o) δ β σ/\StpX x B H B (upd H x o):=by
 have al:∀c,H c≠PH->upd H x o c≠PH:=λc f=>by
  by_cases z:c=x
  ·subst z;rw[aq];simp
  ·rw[upd_ne z];exact f
 have t:∀b l,bg=on (b,l)->b≠x/\l≠x:=λb l e=>by
  obtain⟨b1,b2⟩:=ok.bgt b l e;exact⟨λz=>(by rw[z,g]at b1;cases b1),λz=>(by rw[z,g]at b2;cases b2)⟩
 have tr:Tr (FxB B bg) H (FxB B bg) (upd H x o):=⟨λ_ h _=>h,λc u f e=>by
  rw[upd_ne]
  ·exact e
  ·intro z;subst z;exact f (by show B c≠PH;rw[g];simp),rfl⟩
 refine⟨⟨⟨λc f=>al c (ok.fr.occ c f),ok.fr.bgA,λb l e=>?_⟩,ok.bgt,ok.len,λc f=>al c (ok.cov c f),ok.new,λc k f=>?_,λi s e=>?_⟩,λc u ne h _=>by rw[upd_ne ne];exact h,λ_ _=>rfl,λ_ _ _ _ n=>n,al⟩
 ·obtain⟨y,A⟩:=ok.fr.bag b l e
  obtain⟨C,F⟩:=t b l e;exact⟨by rw[upd_ne C];exact y,by rw[upd_ne F];exact A⟩
 ·obtain⟨xs,h⟩:=ok.lst c k f
  exact⟨xs,by rw[upd_ne];exact h;intro z;subst z;rw[g]at f;cases f⟩
 ·obtain⟨v,I,j⟩:=ok.tell i s e
  refine⟨v,I,?_⟩;cases s with
  |sh d=>exact Den.tr tr _ _ j
  |own ds=>
   obtain⟨a,xs,rfl,hB,ha,hd⟩:=j;exact⟨a,xs,rfl,hB,(by rw[upd_ne];exact ha;intro z;subst z;rw[g]at hB;cases hB),DenL.tr tr _ _ hd⟩
  |grd rows=>
   obtain⟨a,rs,rfl,hB,ha,nd,J⟩:=j;refine⟨a,rs,rfl,hB,(by rw[upd_ne];exact ha;intro z;subst z;rw[g]at hB;cases hB),nd,RowL.tr tr J λr xs _ p q=>⟨p,?_⟩⟩;rw[upd_ne]
   ·exact q
   ·intro z;subst z
    have m:B r=on (i+2):=p;rw[g]at m;cases m
section
variable{X:Cx}{E:St->XK}{st:Rh}{sts:List Rh}{C:PX}{ns0 names:List QN}{ip:IP}
theorem Pk:PSs X [] (tI X.K X.H₀ C ns0 [] JB E):=rq.imp λDn b H c=>by
 obtain⟨B,bg,δ,β,x,i,a,d,r,f,ok,j,l,g,h,hd,e,k⟩:=c;cases e;rw[QC]at k;exact k b B H a (Stp.refl B H).x ok.fr g h hd
theorem JC(m:PS X st (tG X.K X.H₀ g E))(n:PSs X sts (tI X.K X.H₀ C ns0 names ip E)):PSs X (st::sts) (tI X.K X.H₀ C ns0 names (nZ g ip) E):=(cX m n).imp λDn y H o=>by
 obtain⟨B,bg,δ,β,x,p,c,d,r,f,ok,q,h,t,u,hd,e,k⟩:=o;unfold nZ at e;split at e
 ·rename_i δ1 β1 i
  split at e
  ·rename_i A F q1 q2
   split at e
   ·rename_i z
    subst z;rw[q]at q1;cases q1;refine⟨B,bg,δ,β,.nx δ1,β1,ok,i,λb j l s a=>?_⟩;exact⟨j,bg,δ1,β1,x,p,c,d,r,f,a,q2,(s.tg x (.inl h)).trans h,s.kp x _ t (.inr h),u,DenL.tr s.tr _ _ hd,e,kK.pre s.x k⟩
   ·cases e
  ·cases e
 ·rename_i v δ1 β1 i
  cases e;exact⟨B,bg,δ,β,.ex v δ1,_,ok,i,λb j l s a=>k b j l s.x a.fr⟩
 ·cases e
theorem uh(c:Cls X.K C)(n:d6 X.K C f)(Q:f∉ns0)(L:ns0.length<1000)(R:PS X st (LY X.K (q8 0) (tV X.K fv E) f))(T:PSs X sts (tI X.K X.H₀ C (ns0++[f]) names ip E)):PSs X (st::sts) (tI X.K X.H₀ C ns0 (f::names) (jC fv ip) E):=(cX R T).imp λDn U H W=>by
 obtain⟨B,bg,δ,β,x,l,g,q,r,t,ok,N,m,Y,O,hd,e,k⟩:=W;refine⟨FxB B bg,vw δ,β,ok.fr,ok.view,?_⟩;unfold jC at e;split at e
 ·rename_i d β1 A
  refine⟨.ok d,β1,A,λy p F Z=>?_⟩;obtain⟨b,i⟩:=ok.to rfl F;obtain⟨v,g1,g2⟩:=b.tell 0 _ N;have hv:v= .ref x:=g2;subst hv;have I:=i.kp x _ Y (.inr m);refine⟨_,g1,x,C,l,_,rfl,I,c,n,?_,?_⟩
  ·rw[T7];omega
  obtain⟨J,s2⟩:=b.upd0 (o:= .ins C l (dI f y (ns0.zip g))) m;have j:Tr (FxB B bg) p (FxB B bg) (upd p x (.ins C l (dI f y (ns0.zip g)))):=⟨λ_ h _=>h,λa u ha e=>by
   rw[upd_ne]
   ·exact e
   ·intro z;subst z;exact ha (by show B a≠PH;rw[m];simp),rfl⟩
  refine⟨B,bg,δ,β1,x,l,g++[y],q++[d],r,t,J,N,m,by rw[aq,sL O Q],by simp[O],DenL.append (DenL.tr j _ _ (DenL.tr i.tr _ _ hd)) (DenL.cons (Den.tr j _ _ Z) DenL.nil),e,?_⟩;rw[Q9];exact kK.pre (i.x.trans s2) k
 ·rename_i Ce β1 A
  cases e;refine⟨.error Ce,_,A,λp F=>?_⟩;obtain⟨b,i⟩:=ok.to rfl F;exact k U B p i.x b.fr
 ·cases e
end
open Classical in
def n5(m:Nat)(a:IP):List D->M (List D):=λds β=>if h:∃r,∀x,a (stD m (.adr x::ds)) [] β=on r then on h.choose else PH
theorem EH(h:∀x,ip (stD m (.adr x::ds)) [] β=on r):n5 m ip ds β=on r:=by
 have a:∃r,∀x,ip (stD m (.adr x::ds)) [] β=on r:=⟨r,h⟩;unfold n5;rw[dif_pos a];have:=a.choose_spec 0;rw[h 0]at this;exact this.symm
theorem AN(h:n5 m ip ds β=on r):∀x,ip (stD m (.adr x::ds)) [] β=on r:=by
 unfold n5 at h;split at h
 ·rename_i a
  have:=a.choose_spec;cases h;exact this
 ·cases h
section
variable{P:QD}{w:QS}{K:Qp}{mg:QN->Option PY}{base:Rl}
theorem Li{st:Rh}{N ps names:List QN}(n m:Nat)(ip:IP)(F:FunD K x qual st f fd)(S:FnScope N ps (ag st))(O:ps.length=n+1)(R:N.length=m)
  (p:∀(i:PY) (A:Rg) (outer:List WV) (s:P7) (H:Hp) (E:XK),Room k (A.deeper (Uz qual (ag st) s.heap.objs.size f i))->
   PSs (fW (CXE P w) P w K mg base N qual (ag st) f i A outer s H E) (cK st) (tI K H C [] names ip (λ_=>E))):FnOk P w K mg base (CXE P w) (k+1) f fd ps (spI K C names n (n5 m ip)):=by
 subst R;refine F.okE S (λvs H Q E h=>?_) λi A outer s H vs Q E hr h=>?_
 ·obtain⟨y,rest,j,ds,β,dx,rfl,hl,_⟩:=h
  rw[Qa,hl,O]
 obtain⟨y,rest,j,ds,β,dx,rfl,hl,fr,T,nb,hH,hd,r,d,e,h⟩:=h;refine⟨_,p i A outer s H E hr,?_⟩;have U:DenL K j H (.adr y::ds) (.ref y::rest):=DenL.cons rfl hd;obtain⟨B,ok,L,h1,hn⟩:=uD (N:=N) fr U;have hy:B y=on 0:=by
  rcases L y T with z|z
  ·exact z
  ·obtain⟨b,l,q,w⟩:=h1 y z
   obtain⟨W,X⟩:=nb b l q;rcases w with w|w
   ·exact Qu w W
   ·exact Qu w X
 have v:∀{u:Ow} {g:Hp} {d:Bg},StpX y B H u g->Fr (FxB u j.bg) g d->ToX j y H g d/\Tr (FxB u j.bg) g j g:=λ{u g d} s c=>by
  have hs:∀a,j.A a->u a≠PH:=λa ha=>by
   rw[s.tg a (L a ha)];rcases L a ha with z|z<;>rw[z]<;>simp
  refine⟨⟨λa o ne ha n=>s.kp a o ne ha ?_,λa ha=>c.occ a (hs a ha),λb l e=>fr.bgA b l e,c.bag⟩,λa ha _ z=>ha (hs a z),λ_ _ _ h=>h,rfl⟩;cases q:B a with
  |none=>exact .inl rfl
  |some t=>
   have:=L a (hn a (by rw[q];simp));rcases this with z|z
   ·rw[q]at z;exact .inr z
   ·obtain⟨b,l,e,w⟩:=h1 a z
    obtain⟨W,X⟩:=n b l e;rcases w with w|w
    ·exact Qu w W
    ·exact Qu w X
 refine⟨B,j.bg,stD N.length (.adr y::ds),β,y,dx,[],[],r,d,ok,rfl,hy,hH,rfl,DenL.nil,AN e y,?_⟩;cases r with
 |ok es=>
  intro Y u g vs s c Z I J;obtain⟨t1,t2⟩:=v s c;exact h g vs t1 Z I (DenL.tr t2 _ _ J)
 |error Ce=>
  intro Y u g s c;exact h g (v s c).1
variable{X:Cx}{E:St->XK}{st:Rh}
variable{h:G}{δ:Ds}{β β1:Bg}{Q:Out->Bg->Prop}{i:Nat}{f:FD}
end
section
variable{C Ce:PX}{m:QN}{ns:List QN}{mf:List D->M D}{mi:List D->M (List D)}{fo:FD}{g gk:FL}{dd fs as ks:List D}{src:List (Sr D)}{δ:Dn}{β β1 β2 β3:Bg}{r:Except PX D×Bg}{d:D}{f:QN}{h:G}{Q:Out->Bg->Prop}{i:Nat}{δs:Ds}
theorem fq(a:fo δ β=on (.ok (.obj C ns fs),β1))(b:g δ β1=on (.ok as,β2))(c:mf (.obj C ns fs::(as++dd)) β2=on r)(hm:m∉ns:=by decide):oi C m mf fo g dd δ β=on r:=by
 unfold oi;rw[M.bind_ok a];simp only[hm,not_false_eq_true,and_self,QY];rw[M.bind_ok b];exact c
theorem jj(a:x δ β=on (.ok (.obj C ns fs),β1))(b:(ns.zip fs).lookup f=on d):f1 (yt C f) x δ β=on (.ok d,β1):=by
 refine x_1 a ?_;unfold yt;simp only[QY];exact b
theorem AK{g:G}{δ δ1:Ds}{r:Except PX (List D)×Bg}(e:g δ β=on (.nx δ1,β1))(a:δ[0]?=on (on (.sh (.adr x))))(b:δ1[0]?=on (on (.sh (.adr x))))(k:ip δ1 done β1=on r):nZ g ip δ done β=on r:=by
 unfold nZ;simp only[e,a,b,QY];exact k
theorem qz{f:FD}{δ:Ds}{d:D}{r:Except PX (List D)×Bg}(e:f (vw δ) β=on (.ok d,β1))(k:ip δ (done++[d]) β1=on r):jC f ip δ done β=on r:=by
 unfold jC;rw[e];exact k
noncomputable def tpA{α:Type}(d:α)(c:Nat)(rows:List (List α)):List (List α):=(P4 c).map λj=>rows.map λrow=>row.getD j d
abbrev tp(c:Nat)(rows:LI):LI:=tpA 0 c rows
theorem jX{α:Type}{d:α}{r c:Nat}{rows:List (List α)}(h:rows.length=r):Shp c r (tpA d c rows):=⟨by simp[tpA],λrow a=>by
 obtain⟨j,_,rfl⟩:=Qc.mp a;rw[PF,h]⟩
theorem LF{α:Type}{d:α}{rows:List (List α)}(h:j<c):(tpA d c rows)[j]?=on (rows.map λrow=>row.getD j d):=by
 unfold tpA;rw[PV,Rf h];rfl
theorem xR{d:Int}:∀(row:List Int),(P4 row.length).map (λj=>row.getD j d)=row:=λrow=>by
 refine Zb λi=>?_;rw[PV];by_cases h:i<row.length
 ·rw[Rf h]
  show on (row.getD i d)=_;rw[PR,PM h];rfl
 ·rw[Ur (by simpa using h),Ur (by omega)];rfl
theorem q9{α:Type}(f g:α->Int):∀l:List α,(l.map λx=>f x+g x).sum=(l.map f).sum+(l.map g).sum
 |[]=>by simp
 |x::l=>by
  simp only[Qb,Qw,q9 f g l];omega
theorem oZ{α:Type}:∀l:List α,(l.map λ_=>(0:Int)).sum=0
 |[]=>rfl
 |x::l=>by simp only[Qb,Qw,oZ l];rfl
theorem yU:∀{rows:LI},(∀row∈rows,row.length=c)->tot (tp c rows)=tot rows
 |[],_=>by
  show((tpA 0 c []).map RM).sum=0;unfold tpA;rw[P3];exact oZ (P4 c)
 |row::rows,h=>by
  have ih:=yU (c:=c) (rows:=rows) λx b=>h x (PN _ b);have a:=h row PZ;unfold tot tp tpA at ih⊢;rw[P3]at ih⊢;have e:(λj=>(RM ((row::rows).map λrow=>row.getD j 0)))=λj=>row.getD j 0+(rows.map λrow=>row.getD j 0).sum:=by
   funext j;rw[Qb,Qw]
  show((P4 c).map λj=>(RM ((row::rows).map λrow=>row.getD j 0))).sum=_;rw[e,q9,←a,xR,a,Qb,Qw];congr 1
theorem IB(h:∀row∈rows,∀x∈row,0<=x):∀row∈tp c rows,∀x∈row,0<=x:=λrow a x b=>by
 obtain⟨j,_,rfl⟩:=Qc.mp a;obtain⟨q,k,rfl⟩:=Qc.mp b;rw[PR];cases e:q[j]? with
 |none=>exact Ys 0
 |some y=>exact h q k y (Ql e)
end
end L2.Pu
namespace L2.Pu
open PySem PySem.Spec PyProof PyProof.Rows
section
variable{X:Cx}
variable{prog:QD}{w:QS}{A:Rg}{E:PY->P7->Prop}{s:P7}{l:PX}{xs:Array (Int×Tok)}
variable{K:Qp}
end
end L2.Pu
namespace L2
open PySem PySem.Spec PyProof.Rows
end L2
namespace L2.Pu
open PySem PySem.Spec PyProof.Rows
section
variable{X:Cx}{E:St->XK}{K:Qp}{elt target iter:Expr}{ifs:List Expr}{rest:List RQ}{scope:Scope}{pos:UL}{Nc vars:List QN}{caps:List Nat}{g:TG}{tb:PX->TB}
variable{st:Rh}{H₀:Hp}{B:Ow}{bg:Option (PX×PX)}{H H':Hp}{δ:Ds}{β β':Bg}{σ:St}
theorem lU1{us:List PY}(h:us.length=1):∃a,us=[a]:=List.length_eq_one_iff.mp h
theorem lU2{us:List PY}(h:us.length=2):∃c a1,us=[c,a1]:=by
 obtain⟨a,l,rfl⟩:=TL h;obtain⟨b,rfl⟩:=lU1 (us:=l) (by simpa using h);exact⟨_,_,rfl⟩
theorem lU3{us:List PY}(h:us.length=3):∃d a1 a2,us=[d,a1,a2]:=by
 obtain⟨a,l,rfl⟩:=TL h;obtain⟨b,c,rfl⟩:=lU2 (us:=l) (by simpa using h);exact⟨_,_,_,rfl⟩
theorem lU4{us:List PY}(h:us.length=4):∃e a1 a2 a3,us=[e,a1,a2,a3]:=by
 obtain⟨a,l,rfl⟩:=TL h;obtain⟨b,c,d,rfl⟩:=lU3 (us:=l) (by simpa using h);exact⟨_,_,_,_,rfl⟩
end
section
variable{X:Cx}{E:St->XK}{e e1 e2 e3 e4 e5:Expr}{es:List Expr}{pos p:UL}{f1 f2 f3 f4 f5:FD}{g:FL}{k j n:Nat}{f:PX}{fd:Qt}{ps:List QN}{x:QN}{op:List D->Option D}{r:List V->Hp->VK->Prop}{id T:String}
theorem vv(i:Nat){x:QN}(b:X.N[i]?=on x:=by rfl)(c:Vis X.env.scope x:=by first|exact RT rfl|exact SF (RT rfl)|exact SF (SF rfl))(hd:(x==("__debug__":QN))=PU:=by decide)
  (a:(x==("__classdict__":QN))=PU:=by decide):PE X (.Name x pos) (tV X.K (ah i) E):=OE i (pv i b c hd a)
theorem va1(a:PE X e1 (tV X.K f1 E))(b:Qe [e1] X.env=(PU,Rk e1 X.env)::Qe [] X.env:=by rfl):PA X [e1] (tVA X.K (ae f1 ay) E):=nc a ft b
theorem va2(a:PE X e1 (tV X.K f1 E))(b:PE X e2 (tV X.K f2 E))(c:Qe [e1,e2] X.env=(PU,Rk e1 X.env)::Qe [e2] X.env:=by rfl)(d:Qe [e2] X.env=(PU,Rk e2 X.env)::Qe [] X.env:=by rfl):PA X [e1,e2] (tVA X.K (ae f1 (ae f2 ay)) E):=nc a (va1 b d) c
theorem va3(a:PE X e1 (tV X.K f1 E))(b:PE X e2 (tV X.K f2 E))(c:PE X e3 (tV X.K f3 E))(d:Qe [e1,e2,e3] X.env=(PU,Rk e1 X.env)::Qe [e2,e3] X.env:=by rfl)(h:Qe [e2,e3] X.env=(PU,Rk e2 X.env)::Qe [e3] X.env:=by rfl)(i:Qe [e3] X.env=(PU,Rk e3 X.env)::Qe [] X.env:=by rfl):PA X [e1,e2,e3] (tVA X.K (ae f1 (ae f2 (ae f3 ay))) E):=nc a (va2 b c h i) d
theorem va4(a:PE X e1 (tV X.K f1 E))(b:PE X e2 (tV X.K f2 E))(c:PE X e3 (tV X.K f3 E))(d:PE X e4 (tV X.K f4 E))(h:Qe [e1,e2,e3,e4] X.env=(PU,Rk e1 X.env)::Qe [e2,e3,e4] X.env:=by rfl)(i:Qe [e2,e3,e4] X.env=(PU,Rk e2 X.env)::Qe [e3,e4] X.env:=by rfl)(l:Qe [e3,e4] X.env=(PU,Rk e3 X.env)::Qe [e4] X.env:=by rfl)(m:Qe [e4] X.env=(PU,Rk e4 X.env)::Qe [] X.env:=by rfl):PA X [e1,e2,e3,e4] (tVA X.K (ae f1 (ae f2 (ae f3 (ae f4 ay)))) E):=nc a (va3 b c d i l m) h
theorem aN0(δ:Dn)(β:Bg)(r:List D)(a:Bg)(h:ay δ β=on (.ok r,a)):r.length=0:=HK h
structure FB (P:QD) (w:QS) (K:Qp) (mg:QN->Option PY) (base:Rl) (k:Nat) (x:QN) (f:PX) (fd:Qt) (ps:List QN) (n:Nat) (m:List D->M D):Prop where
 ok:FnOk P w K mg base (CXE P w) k f fd ps (spF K n m)
 m:mg x=on (.ref f)
 kp:Vt K (.ref f)=PP
 b:aD K fd ps []
theorem vc(G:FB X.prog X.w X.K X.mg X.base j x f fd ps n m)(h:Room k X.A)(ha:PA X (e::es) (tVA X.K g E))(i:j<=k:=by decide)(l:dy (CXE X.prog X.w) X E:=by first|exact e9|exact tY|assumption)(o:Gl X x:=by rfl)
  (hn:∀δ β r d,g δ β=on (.ok r,d)->r.length=n:=by repeat (first|exact aN0|apply br)) (a:(x==("__debug__":QN))=PU:=by decide) (q:Qe (e::es) X.env=(PU,Rk e X.env)::Qe es X.env:=by rfl) (c:(SA pos (Qe es X.env)).any (·.1)=PU:=by rfl):
  PE X (.Call (.Name x p) (e::es) [] pos) (tV X.K (ci m g) E):=yM G.ok (h.mono i) o G.m G.kp G.b l ha hn a q c
theorem cz(hm:X.mg "len"=PH)(ha:PA X (e::es) (tVA X.K g E))(b:Gl X "len":=by rfl)(c:Qe (e::es) X.env=(PU,Rk e X.env)::Qe es X.env:=by rfl)(a:(SA pos (Qe es X.env)).any (·.1)=PU:=by rfl):PE X (.Call (.Name "len" p) (e::es) [] pos) (tV X.K (aB cB g) E):=bY mQ Pb b hm PySem.boot_len ha (by decide) (by decide) c a
theorem f9(hm:X.mg "sum"=PH)(ha:PA X (e::es) (tVA X.K g E))(b:Gl X "sum":=by rfl)(c:X.calm=PP:=by rfl)(d:Qe (e::es) X.env=(PU,Rk e X.env)::Qe es X.env:=by rfl)(a:(SA pos (Qe es X.env)).any (·.1)=PU:=by rfl):PE X (.Call (.Name "sum" p) (e::es) [] pos) (tV X.K (aB fJ g) E):=bY (BF c) MS b hm PyProof.Rows.Boot.«sum» ha (by decide) (by decide) d a
theorem lT(hm:X.mg "isinstance"=PH)(ha:PA X (e::es) (tVA X.K g E))(b:Gl X "isinstance":=by rfl)(c:Qe (e::es) X.env=(PU,Rk e X.env)::Qe es X.env:=by rfl)(a:(SA pos (Qe es X.env)).any (·.1)=PU:=by rfl):PE X (.Call (.Name "isinstance" p) (e::es) [] pos) (tV X.K (aB cM g) E):=bY BG Pc b hm PyProof.Rows.Boot.«isinstance» ha (by decide) (by decide) c a
theorem cso{scope:Scope}(a vars:List QN)(caps:List Nat)(k:scope.kind= .function:=by rfl)(nd:(scope.names.map (·.1)).Nodup:=by decide +kernel)
  (fr:(scope.names.all λy=>y.2 != .free||(X.env.scope.names.lookup y.1==on .cell||X.env.scope.names.lookup y.1==on .free))=PP:=by rfl) (b:a=vars++caps.map (λj=>X.N.getD j TR):=by rfl)
  (c:(caps.all λj=>decide (j<X.N.length)&&scope.names.lookup (X.N.getD j TR)==on .free)=PP:=by rfl):CmpScope X scope a vars caps:=CmpScope.ofB k nd fr b c
theorem ndc{a:List QN}(h:a.Nodup:=by decide +kernel):(aJ X a scope cl C fp s H).N.Nodup:=h
theorem pgN(i:Nat){x:QN}(a:X.N.Nodup)(b:X.N[i]?=on x:=by rfl)(c:Loc X.env.scope x:=by first|exact RT rfl|exact SF rfl)(d:X.fn x=PP\/X.env.scope.names.lookup x=on .local:=by first|exact .inl rfl|exact .inr rfl|assumption):PG X (.Name x pos) (fS i):=wJ a b c d
theorem psS(i:Nat){x:QN}{e:Expr}{pos a:UL}(b:X.N.Nodup)(c:PE X e te)(d:X.N[i]?=on x:=by rfl)(h:Loc X.env.scope x:=by first|exact RT rfl|exact SF rfl)(hs:UP e (on (.Name x a)) pos.line X.env=SB PU:=by rfl)(l:X.fn x=PP\/X.env.scope.names.lookup x=on .local:=by first|exact .inl rfl|exact .inr rfl|assumption):PS X (.Assign [.Name x a] e pos) (jL te (fS i)):=qe b d h c hs l
theorem bA1{Q:List PY->Prop}(h:∀a,Q [a])(us:List PY)(b:us.length=1):Q us:=by obtain⟨_,rfl⟩:=lU1 b;exact h _
theorem bA2{Q:List PY->Prop}(h:∀a b,Q [a,b])(us:List PY)(c:us.length=2):Q us:=by obtain⟨_,_,rfl⟩:=lU2 c;exact h _ _
theorem bA3{Q:List PY->Prop}(h:∀a b c,Q [a,b,c])(us:List PY)(d:us.length=3):Q us:=by obtain⟨_,_,_,rfl⟩:=lU3 d;exact h _ _ _
theorem bA4{Q:List PY->Prop}(h:∀a b c d,Q [a,b,c,d])(us:List PY)(i:us.length=4):Q us:=by obtain⟨_,_,_,_,rfl⟩:=lU4 i;exact h _ _ _ _
theorem fsc{N Q:List QN}{c:Scope}(a:c.kind= .function:=by rfl)(b:c.isCoroutine=PU:=by rfl)(g:c.isGenerator=PU:=by rfl)(d:N.Nodup:=by decide +kernel)(e:N.take Q.length=Q:=by rfl)(f:∀x∈Q,c.names.lookup x=on .local\/c.names.lookup x=on .cell:=by decide +kernel)(h:∀y∈c.names,y.2≠ .free:=by decide +kernel):FnScope N Q c:=⟨a,b,g,d,e,f,h⟩
end
end L2.Pu
namespace L2
open PySem PySem.Spec PyProof.Rows
section
variable{prog:QD}{w:QS}{A:Rg}{E:PY->P7->Prop}{s:P7}{K:Qp}
variable{X:Cx}
end
namespace Pu
section
variable{X:Cx}{E:St->XK}
end
end Pu
end L2
namespace L2.Pu
open PySem PySem.Spec PyProof.Rows
section
variable{X:Cx}{E:St->XK}{a b:Expr}{pos:UL}{k:Nat}{f C:PX}{fd:Qt}{ps:List QN}{K:Qp}
structure IsC (K:Qp) (C:PX):Prop where
 cl:Cls K C
 ha:Uo K (.ref C) "__class__"=on (on (.builtin "object.__class__"))
 hn:specialIn K (.builtin "object.__class__") "__get__"=on (on (.builtin "getset_descriptor.__get__"))
 htk:YX K (.builtin "object.__class__")=on PP
 hm:PySem.W.mroIn K C (.type "object")=on PP
theorem IA{r c:Nat}{rows:LI}(sh:Shp r c rows):tp r (tp c rows)=rows:=by
 obtain⟨e,g⟩:=sh;refine Sa (by simp[tpA,e]) λi n d=>?_;have h:rows[i].length=c:=g _ (QO d);refine Sa (by simp[tpA,h]) λj o l=>?_;have m:j<c:=by omega
 simp[tpA,PR,m,d,l]
theorem lst2:dm [x,y]=on (.lst [x,y]):=by
 unfold dm;rw[P6 (show[x,y].length<=Qk by rw[Qa,QU];decide)]
variable{p1 p2 pos1 pos2:UL}
noncomputable def S(n:Nat)(f:Nat->Int):Int:=((P4 n).map f).sum
theorem Ot(f:Nat->Int):S 0 f=0:=rfl
theorem gr(n:Nat)(f:Nat->Int):S (n+1) f=S n f+f n:=by
 unfold S;rw[Ti,QG,WQ];simp
theorem dO{f g:Nat->Int}(h:∀i<n,f i=g i):S n f=S n g:=by
 unfold S;rw[Qx λi c=>h i (Qq.mp c)]
theorem uo(n:Nat)(f g:Nat->Int):S n (λi=>f i+g i)=S n f+S n g:=q9 f g _
theorem mW(n:Nat):S n (λ_=>0)=0:=oZ _
theorem PD(n:Nat)(f:Nat->Int):S n (λi=>-f i)=-S n f:=by
 induction n with
 |zero=>rfl
 |succ n ih=>rw[gr,gr,ih];omega
theorem BQ(n m:Nat)(h:Nat->Nat->Int):S n (λi=>S m (λj=>h i j))=S m (λj=>S n (λi=>h i j)):=by
 induction n with
 |zero=>rw[Ot];exact(mW m).symm
 |succ n ih=>
  rw[gr,ih,←uo];exact dO λj _=>(gr n _).symm
theorem o3{g:Nat->Int}:∀{l L:List Nat},l.Sublist L->L.Nodup->(l.map g).sum=(L.map λx=>if x∈l then g x else 0).sum
 |_,_,.slnil,_=>rfl
 |l,_,.cons a (l₂:=L) h,nd=>by
  have c:=(QW.mp nd);have ha:a∉l:=λz=>c.1 (h.subset z);rw[Qb,Qw,P0 ha,o3 h c.2,TN]
 |_,_,.cons₂ a (l₁:=l) (l₂:=L) h,nd=>by
  have c:=(QW.mp nd);rw[Qb,Qb,Qw,Qw,P6 PZ,o3 h c.2];congr 2;refine Qx λx e=>?_;have d:x≠a:=λz=>c.1 (z▸e);by_cases q:x∈l
  ·rw[P6 q,P6 (PN _ q)]
  ·rw[P0 q,P0 λz=>(Qf.mp z).elim d q]
theorem nh{l:List Nat}(h:l.Sublist (P4 n)):(l.map g).sum=S n λx=>if x∈l then g x else 0:=o3 h Vx
theorem xa{p:Nat->Bool}{g:Nat->Int}:∀l:List Nat,((l.filter p).map g).sum=(l.map λx=>if p x=PP then g x else 0).sum
 |[]=>rfl
 |x::l=>by
  rw[S4,Qb,Qw,←xa l];by_cases q:p x=PP
  ·rw[P6 q,P6 q,Qb,Qw]
  ·rw[P0 q,P0 q,TN]
noncomputable abbrev nI(l:List Nat):List Int:=l.map λ(i:Nat)=>(i:Int)
noncomputable abbrev nL(l:List Nat):D:= .lst ((nI l).map D.int)
theorem wZ:∀xs:List Int,inB (.int i) (xs.map D.int)=decide (i∈xs)
 |[]=>rfl
 |x::xs=>by
  have ih:=wZ (i:=i) xs;unfold inB at ih⊢;rw[Qb,Uw,ih];show(decide (x=i)||_)=_;rw[VL];simp only[Bool.or_eq_true,QR,Qf];constructor
  ·rintro(h|h)
   ·exact .inl h.symm
   ·exact .inr h
  ·rintro(h|h)
   ·exact .inl h.symm
   ·exact .inr h
theorem sW:∀xs:List Int,(xs.map D.int).all dU=PP
 |[]=>rfl
 |_::xs=>sW xs
theorem MY{xs:List Int}{neg:Bool}:inD neg (.int i) (.lst (xs.map D.int))=on (.bl (if neg then !decide (i∈xs)else decide (i∈xs))):=by
 show(if(dU (.int i)&&(xs.map D.int).all dU)=PP then _ else _)=_;rw[sW,Bool.and_true,P6 (show dU (.int i)=PP from rfl),wZ]
theorem ML{i:Nat}{l:List Nat}:((i:Int)∈nI l)↔i∈l:=by
 constructor
 ·intro h
  obtain⟨j,c,e⟩:=Qc.mp h;exact(Int.ofNat.inj e)▸c
 ·intro h
  exact Qc.mpr ⟨i,h,rfl⟩
theorem vD{i:Nat}{l:List Nat}{neg:Bool}:inD neg (.int (i:Int)) (nL l)=on (.bl (if neg then !decide (i∈l)else decide (i∈l))):=by
 rw[MY];simp only[ML]
theorem je{α:Type}{f:FD}(xs:List α)(u v:α->D)(p:α->Bool)(g:it δ β=on (.ok (xs.map u),β))
  (i:∀x∈xs,∃δ1,tg (u x) (cSt nv caps δ)=on δ1/\tt δ1 β=on (.ok (p x),β)/\(p x=PP->f δ1 β=on (.ok (v x),β))) (j:xs.length<=Qk):cw nv caps it tg tt (cEm f) δ β=on (.ok (.lst ((xs.filter p).map v)),β):=by
 refine rT g ?_ (by rw[PF];exact Qg (List.length_filter_le _ _) j);have gen:∀xs:List α,(∀x∈xs,∃δ1,tg (u x) (cSt nv caps δ)=on δ1/\tt δ1 β=on (.ok (p x),β)/\(p x=PP->f δ1 β=on (.ok (v x),β)))->cLp tg tt (cEm f) (xs.map u) (cSt nv caps δ) β=on (.ok ((xs.filter p).map v),β):=by
  intro xs
  induction xs with
  |nil=>intro _;rfl
  |cons x xs ih=>
   intro h;obtain⟨δ1,d,c,l⟩:=h x PZ;have e:=ih λy m=>h y (PN _ m);rw[Qb,cLp,S4];cases q:p x with
   |true=>
    rw[q]at c;simp only[d,M.bind,M.ret,c,cEm,l q,e,P6,Qb,RF,Rq]
   |false=>
    rw[q]at c;simp only[d,M.bind,M.ret,c,e,Qd,QX,Rq]
 exact gen xs i
theorem oV:∀(n:Nat) (xs:List D),cJ n xs=(P4 xs.length).map λ(i:Nat)=>D.tup [.int ((n+i:Nat):Int),xs.getD i .non]
 |n,[]=>rfl
 |n,x::xs=>by
  rw[cJ,oV (n+1) xs,Qa,XM,Qb,P3];congr 1;refine Qx λi _=>?_;simp only[U1];rw[show n+1+i=n+(i+1) by omega];rfl
noncomputable abbrev bI(b:LP)(i j:Nat):Int×Int:=(b.getD i []).getD j (0,0)
theorem Shp.getD{α:Type}{m:List (List α)}(h:Shp r c m)(d:i<r):m[i]?=on (m.getD i [])/\(m.getD i []).length=c:=by
 obtain⟨row,e,l⟩:=h.at d;have:m.getD i []=row:=by rw[PR,e];rfl
 rw[this];exact⟨e,l⟩
theorem oH{α:Type}{l:List α}{i:Nat}{d:α}(h:i<l.length):l[i]?=on (l.getD i d):=by
 rw[PR,PM h];rfl
theorem IZ{xs:List Int}(h:i<xs.length):ixD (.lst (xs.map D.int)) (.int (i:Int))=on (.int (xs.getD i 0)):=bK (by rw[PV,oH h];rfl)
theorem vx{b:LP}(sh:Shp r c b)(g:i<r)(h:j<c):ixD (dD b) (.int (i:Int))=on (.lst ((b.getD i []).map pD))/\ixD (.lst ((b.getD i []).map pD)) (.int (j:Int))=on (pD (bI b i j)):=by
 obtain⟨e,l⟩:=sh.getD g;refine⟨ug (by rw[PV,e];rfl),bK ?_⟩;rw[PV,oH (d:=(0,0)) (by omega)];rfl
noncomputable def qm(rs:List Int)(c:List Nat):Int:=(c.map λi=>rs.getD i 0).sum
def fi(cs:List Int)(b:LP)(r:Nat)(c:List Nat)(j:Nat):Int:=cs.getD j 0-S r λi=>if i∈c then 0 else(bI b i j).1
def f7(b:LP)(c:List Nat)(j:Nat):Int:=(c.map λi=>(bI b i j).2).sum
def tU(cs:List Int)(b:LP)(r c:Nat)(d e:List Nat):Int:=S c λj=>if j∈e then fi cs b r d j else f7 b d j
def hF(b:LP)(c d:List Nat)(i j:Nat):Int:=(if i∈c/\j∉d then(bI b i j).2 else 0)-(if i∉c/\j∈d then(bI b i j).1 else 0)
theorem Kv{b:LP}{d e:List Nat}(h:d.Sublist (P4 r))(g:e.Sublist (P4 c)):
  tU cs b r c d e=qm cs e+S r λi=>S c λj=>hF b d e i j:=by
 unfold tU qm;rw[nh g,BQ,←uo];refine dO λj l=>?_;by_cases q:j∈e
 ·rw[P6 q,P6 q]
  unfold fi;rw[Int.sub_eq_add_neg,←PD];congr 1;refine dO λi g=>?_;unfold hF;by_cases z:i∈d
  ·simp[z,q]
  ·simp[z,q]
 ·rw[P0 q,P0 q,TN]
  unfold f7;rw[nh h];refine dO λi g=>?_;unfold hF;by_cases z:i∈d
  ·simp[z,q]
  ·simp[z,q]
variable{o e:Expr}{es:List Expr}{p apos:UL}{x m:QN}{n:Nat}{ks ns:List QN}{kws:List VE}{st:Rh}{sts:List Rh}
variable{ns0 names:List QN}{ip:IP}
variable{P:QD}{w:QS}{mg:QN->Option PY}{base:Rl}
variable{δ:Dn}{β β1 β2:Bg}
end
end L2.Pu
namespace L2.Pu
open PySem PySem.Spec PyProof PyProof.Rows
section
variable{X:Cx}{K:Qp}
variable{E:St->XK}{o e:Expr}{apos cpos:UL}
theorem JQ(c:Nat->Ds->Bg->Prop)
  (step:∀n δ β,c n δ β->(∃β1,t (vwA δ) β=on (.ok PU,β1)/\Gw h δ β1 Q)\/∃β1,t (vwA δ) β=on (.ok PP,β1)/\Gw g δ β1 (λo β2=>∃δ1,o= .nx δ1/\∃m,m<n/\c m δ1 β2)):
  ∀(n:Nat) (δ:Ds) (β:Bg),c n δ β->Gw (aW (gWh t g) h) δ β Q:=by
 have gen:∀(n:Nat) (δ:Ds) (β:Bg),c n δ β->∃k a b,bX t g k δ β=on (.nx a,b)/\Gw h a b Q:=by
  intro n
  induction n using WY with
  |_ n ih=>
   intro δ β hI;rcases step n δ β hI with⟨β1,e,k⟩|⟨β1,e,k⟩
   ·exact⟨1,δ,β1,by unfold bX;simp only[e],k⟩
   ·obtain⟨o,β2,f,δ1,rfl,m,hm,d⟩:=k
    obtain⟨k,a,b,i,j⟩:=ih m hm δ1 β2 d;exact⟨k+1,a,b,by unfold bX;simp only[e,f,i],j⟩
 intro n δ β hI;obtain⟨k,a,b,e,l⟩:=gen n δ β hI;exact f8 (M4 e) l
end
end L2.Pu
namespace L2.Pu
open PySem PySem.Spec PyProof.Rows
section
variable{prog:QD}{w:QS}{A:Rg}{E:PY->P7->Prop}{s:P7}{l:PX}{xs:Array (Int×Tok)}
theorem CF(f:A.handled=PH)(c:s.heap.IsTuple l (X4 xs))
  (h:∀h' d t',(∀b o,s.heap.get? b=on o->h'.get? b=on o)->Q (.int (preSum (numAt xs) xs.size) t') {s with heap:=h',toks:=d}):
  Qi (QA prog w) A (W0 (.builtin "sum") [.ref l]) Q E s:=by
 have a:l<s.heap.objs.size:=by obtain⟨_,e,_⟩:=c;exact Qz e
 refine call_sum_walkG (WK c ⟨_,_,_,_,_,_,numAt xs,rfl,Walks.tuple (A:=A.in1) f _ l (Q5 a) (X4 xs),⟨⟨_,Qj _ rfl,rfl,rfl⟩,c.at λo e=>PQ _ e⟩,λb hb=>?_,(λ_ _=>intItems_at),λh' d t' g=>?_⟩)
 ·show b<(s.heap.push _).objs.size
  rw[RJ];rcases Qf.mp hb with rfl|hb
  ·exact VC _
  ·rcases Qf.mp hb with rfl|hb
   ·exact Vn a
   ·cases hb
 ·have:=h h' d t' λb o e=>g b o (λhm=>by
   rcases Qf.mp hm with i|hm
   ·exact Qu (i▸Qz e) (Q4 _)
   ·cases hm) (PQ _ e)
  simpa[X4]using this
variable{X:Cx}{K:Qp}
abbrev IK(K:Qp):List V->Hp->VK->Prop:=λxs H Q=>∃(p:PX) (ns:List Int),xs=[.ref p]/\(SqL K H p (ns.map V.int)\/SqT K H p (ns.map V.int))/\Q (.int ns.sum) H
theorem BE(b:X.calm=PP):dA X (.builtin "sum") (IK X.K):=by
 intro a s f H xs us Q I r h;obtain⟨p,ns,rfl,hq|hq,q⟩:=h
 ·exact tu b a s f H _ us Q I r ⟨p,ns,rfl,hq,q⟩
 ·obtain⟨u,rfl,g⟩:=kN r
  cases g;obtain⟨its,i,pl,m⟩:=I.tuple hq;have c:=qB i;obtain⟨xs,ex⟩:=c.allInts.items;have d:=c.numsOf;have j:its=(X4 xs).toList:=by rw[←ex]
  rw[j,nums_intItems]at d;rw[ex]at pl;refine CF (I.ok.hd b) pl λh' n t' k=>?_;have e:preSum (numAt xs) xs.size=ns.sum:=by rw[preSum_eq,RA (by simp),d]
  rw[e];exact⟨.int ns.sum,H,I.kept k,⟨_,rfl⟩,q⟩
def pS:List D->Option D
 |[.lst xs]=>(eX xs).map λns=> .int ns.sum
 |[.tup xs]=>(eX xs).map λns=> .int ns.sum
 |_=>PH
theorem MR:eL K (IK K) pS:=λF H β Q ds d vs fr h e k=>by
 unfold pS at e;split at e
 ·rename_i xs
  obtain⟨ns,q,rfl⟩:=Vy.mp e;obtain⟨v,rfl,g⟩:=DenL.one h;obtain⟨a,ys,rfl,r,b⟩:=Den.sqL g;rw[intsOf_eq q]at b;have c:=DenL.ints ns b;subst c;exact⟨a,ns,rfl,.inl r,k _ H (To.refl fr) rfl⟩
 ·rename_i xs
  obtain⟨ns,q,rfl⟩:=Vy.mp e;obtain⟨v,rfl,g⟩:=DenL.one h;obtain⟨a,ys,rfl,r,b⟩:=Den.sqT g;rw[intsOf_eq q]at b;have c:=DenL.ints ns b;subst c;exact⟨a,ns,rfl,.inr r,k _ H (To.refl fr) rfl⟩
 ·cases e
theorem LQ(ns:List Int):pS [.lst (ns.map D.int)]=on (.int ns.sum):=eZ ns
theorem LO(ns:List Int):pS [.tup (ns.map D.int)]=on (.int ns.sum):=eZ ns
end
section
variable{X:Cx}{E:St->XK}{o e e1 e2:Expr}{es:List Expr}{pos p apos:UL}{x m:QN}{k n:Nat}{f C:PX}{fd:Qt}{ps ks ns:List QN}{kws:List VE}
noncomputable def M6:G:=λ_ _=>PH
theorem cR{X:Cx}{st:Rh}{K:Qp}{E:St->XK}:PS X st (tG K H M6 E):=λ_ _ _ _ _ _ h=>by
 obtain⟨_,_,_,_,_,_,_,e,_⟩:=h;cases e
end
end L2.Pu
namespace L2.Pu
open PySem
noncomputable def facN:Nat->Nat
 |0=>1
 |n+1=>facN n*(n+1)
noncomputable def pr(l:List Nat):Nat:=l.foldr (·*·) 1
theorem zB:pr []=1:=rfl
theorem uV(l m:List Nat):pr (l++m)=pr l*pr m:=by
 induction l with
 |nil=>simp[pr]
 |cons x l ih=>
  show x*pr (l++m)=x*pr l*pr m;rw[ih,T8]
theorem JZ{α:Type}{l:List α}{i:Nat}{x:α}(h:l[i]?=on x):l.take (i+1)=l.take i++[x]:=by
 rw[List.take_succ,h];rfl
theorem iF{α:Type}{f:α->Nat}{l:List α}{i:Nat}{x:α}(h:l[i]?=on x):pr ((l.take (i+1)).map f)=pr ((l.take i).map f)*f x:=by
 rw[JZ h,QG,uV];simp[pr]
theorem kD:∀n,0<facN n
 |0=>by decide
 |n+1=>Nat.mul_pos (kD n) (by omega)
theorem vL:∀{n m:Nat},n<=m->facN n<=facN m:=by
 intro n m h
 induction h with
 |refl=>exact P5 _
 |step h ih=>exact Qg ih (VB _ (by omega))
theorem Ps:facN 40<=2^160:=by decide +kernel
theorem kE(h:n<=40):facN n<=2^160:=Qg (vL h) Ps
theorem qg(h:∀x∈l,0<x):0<pr l:=by
 induction l with
 |nil=>decide
 |cons x l ih=>exact Nat.mul_pos (h x PZ) (ih λy a=>h y (PN _ a))
theorem xW{l:List Nat}(h:∀x∈l,x<=2^m):pr l<=2^(m*l.length):=by
 induction l with
 |nil=>exact Nat.one_le_two_pow
 |cons x l ih=>
  show x*pr l<=_;rw[Qa,Nat.mul_succ,Ww,Nat.pow_add];exact Nat.mul_le_mul (h x PZ) (ih λy a=>h y (PN _ a))
theorem fZ{l:List Nat}(h:x∈l):x<=l.sum:=by
 induction l with
 |nil=>cases h
 |cons y l ih=>
  rw[Qw];rcases Qf.mp h with rfl|h
  ·omega
  ·have:=ih h;omega
theorem cA(h:t<=2^m)(hm:m<=999):t<2^1000:=Sj (Qg h (TC (by decide) hm)) (Nat.pow_lt_pow_right (by decide) (by decide))
theorem k8{t n:Nat}(a:t<2^1000)(b:n<2^1000):DM (.int (t:Int)) (.int (n:Int))=on (.int ((t*n:Nat):Int)):=by
 have c:gN (t:Int)=PP:=Qn (by rw[Wf];exact a);have d:gN (n:Int)=PP:=Qn (by rw[Wf];exact b);show(if(gN (t:Int)&&gN (n:Int))=PP then _ else _)=_;simp only[c,d,Uu,QY];rfl
theorem yu{t g:Nat}(d:0<g)(a:g<2^1000):yv (.int (t:Int)) (.int (g:Int))=on (.int ((t/g:Nat):Int)):=by
 have b:decide ((0:Int)<(g:Int))=PP:=Qn (by omega);have c:decide (((g:Int)).natAbs.log2<9000)=PP:=Qn (by
  rw[Wf];have:=(Nat.log2_lt (n:=g) (k:=1000) (by omega)).mpr a;omega)
 show(if(decide ((0:Int)<(g:Int))&&decide (((g:Int)).natAbs.log2<9000))=PP then _ else _)=_;simp only[b,c,Uu,QY];rfl
theorem gR(l:List Nat):(nI l).sum=((l.sum:Nat):Int):=by
 induction l with
 |nil=>rfl
 |cons x l ih=>
  show(x:Int)+(nI l).sum=_;rw[ih,Qw,VQ]
theorem qo{l:List Nat}{i:Nat}{d:D}(h:((nI l).map D.int)[i]?=on d):∃n,l[i]?=on n/\d= .int (n:Int):=by
 obtain⟨x,a,rfl⟩:=bE h;obtain⟨n,hn,rfl⟩:=bE a;exact⟨n,hn,rfl⟩
theorem va(l:List Nat):((nI l).map D.int).length=l.length:=by rw[PF,PF]
def Sq(l:List Nat)(d:D):Prop:=d=nL l\/d= .tup ((nI l).map D.int)
theorem Sq.seq(h:Sq l d):eE d=on ((nI l).map D.int):=by rcases h with rfl|rfl<;>rfl
theorem rg2'(a:0<=i)(b:i<=10^9)(c:0<=j)(d:j<=10^9):o9 [.int i,.int j]=on (bc i (j-i).toNat):=by
 have q:(decide (-(2^62)<=i)&&decide (i<2^62)&&decide (-(2^62)<=j)&&decide (j<2^62))=PP:=by
  simp only[QI,QR];omega
 show(if(decide (-(2^62)<=i)&&decide (i<2^62)&&decide (-(2^62)<=j)&&decide (j<2^62))=PP then on (bc i (j-i).toNat)else PH)=_;rw[P6 q]
theorem rg2{n:Nat}(h:n<=1000):o9 [.int 2,.int ((n:Int)+1)]=on (bc 2 (n-1)):=by
 rw[rg2' (by decide) (by decide) (by omega) (by omega),show((n:Int)+1-2).toNat=n-1 by omega]
end L2.Pu
namespace L2.Pu
theorem BR(h:∀i<n,f i<=g i):S n f<=S n g:=by
 induction n with
 |zero=>exact Ys _
 |succ n ih=>
  rw[gr,gr];have a:=ih λi b=>h i (by omega);have c:=h n (by omega);omega
theorem JK(n:Nat)(f g:Nat->Int):S n (λi=>f i-g i)=S n f-S n g:=by
 induction n with
 |zero=>rfl
 |succ n ih=>rw[gr,gr,gr,ih];omega
noncomputable def fl(x y:Bool)(l h:Int):Int:=(if x=PP/\y=PU then h else 0)-(if x=PU/\y=PP then l else 0)
def slk(rs cs:Nat->Int)(lo a:Nat->Nat->Int)(r c:Nat)(X Y:Nat->Bool):Int:=
 S c (λj=>if Y j=PP then cs j else 0)-S r (λi=>if X i=PP then rs i else 0)+S r λi=>S c λj=>fl (X i) (Y j) (lo i j) (a i j)
section
variable{rs cs:Nat->Int}{lo hi:Nat->Nat->Int}{r c:Nat}
theorem Kl{g:Nat->Nat->Int}(h:∀i<r,∀j<c,lo i j<=g i j/\g i j<=hi i j)(d:∀i<r,rs i=S c (g i))(e:∀j<c,cs j=S r λi=>g i j)(X Y:Nat->Bool):0<=slk rs cs lo hi r c X Y:=by
 have f:S c (λj=>if Y j=PP then cs j else 0)=S r λi=>S c λj=>if Y j=PP then g i j else 0:=by
  rw[BQ];refine dO λj a=>?_;cases q:Y j with
  |true=>simp only[P6];exact e j a
  |false=>simp only[Qd,QX];exact(mW r).symm
 have k:S r (λi=>if X i=PP then rs i else 0)=S r λi=>S c λj=>if X i=PP then g i j else 0:=by
  refine dO λi hi=>?_;cases q:X i with
  |true=>simp only[P6];exact d i hi
  |false=>simp only[Qd,QX];exact(mW c).symm
 unfold slk;rw[f,k,←JK,←uo];refine Int.le_trans (Int.le_of_eq (mW r).symm) (BR λi b=>?_);rw[←JK,←uo];refine Int.le_trans (Int.le_of_eq (mW c).symm) (BR λj a=>?_);have:=h i b j a;unfold fl;cases X i<;>cases Y j<;>simp<;>omega
noncomputable def chF:Nat->List (List Nat)
 |0=>[[]]
 |n+1=>chF n++(chF n).map (·++[n])
theorem iN:∀(n:Nat) (l:List Nat),l∈chF n->l.Sublist (P4 n)
 |0,l,h=>by rw[QH.mp h];exact .slnil
 |n+1,l,h=>by
  rw[Ti];rcases RN.mp h with h|h
  ·exact(iN n l h).trans (List.sublist_append_left _ _)
  ·obtain⟨a,h',rfl⟩:=Qc.mp h
   exact(iN n a h').append (VR _)
theorem xp:∀n:Nat,(chF n).length=2^n
 |0=>rfl
 |n+1=>by
  rw[chF,Qh,PF,xp n,Nat.pow_succ];omega
end
section
variable{rs cs:List Int}{b:LP}{r c:Nat}
abbrev slB(rs cs:List Int)(b:LP)(r c:Nat)(X Y:Nat->Bool):Int:=slk (λi=>rs.getD i 0) (λj=>cs.getD j 0) (λi j=>(bI b i j).1) (λi j=>(bI b i j).2) r c X Y
theorem LV{a d:List Nat}(e:a.Sublist (P4 r))(f:d.Sublist (P4 c)):tU cs b r c a d-qm rs a=slB rs cs b r c (λi=>decide (i∈a)) (λj=>decide (j∈d)):=by
 rw[Kv e f];unfold qm slB slk;rw[nh f,nh e];have h:∀(n:Nat) (l:List Nat) (g:Nat->Int),S n (λj=>if decide (j∈l)=PP then g j else 0)=S n (λj=>if j∈l then g j else 0):=λn l g=>dO λj _=>by simp
 rw[h,h];have k:(S r λi=>S c λj=>hF b a d i j)=S r λi=>S c λj=>fl (decide (i∈a)) (decide (j∈d)) (bI b i j).1 (bI b i j).2:=by
  refine dO λi _=>dO λj _=>?_;unfold hF fl;simp
 simp only[k];omega
def u9(cs:List Int)(b:LP)(r c:Nat)(a:List Nat):List Nat:=(P4 c).filter λj=>decide (fi cs b r a j<f7 b a j)
end
end L2.Pu
namespace L2.Pu
open PySem PySem.W
section
variable{tb:String->Option Builtin}{p:QD}{w:QS}{n₀:Nat}{ann:Option PY}{env:WV}{q:UL}
theorem jc(k:Nat){b:List Rh}(h:segRun tb p w n₀ ann 1 n s (piecesOf (b.take k) env c pos [Yb q])=on (.next,s',c,p'))
  (a:topRun tb p w n₀ ann N s' (restOf (b.drop k) env c p' [Yb q])=on r):topRun tb p w n₀ ann (n+N) s (restOf b env c pos [Yb q])=on r:=by
 have:=piece_app h a;rwa[SJ]at this
theorem EK(e:b=[])(k:topRun tb p w n₀ ann N s ⟨doneF .next,c,pos,[Yb q]⟩=on r):topRun tb p w n₀ ann N s (restOf b env c pos [Yb q])=on r:=by
 subst e;exact piece_nil k
end
end L2.Pu
namespace L2.Hs
open PySem PySem.SetTable
def Rs(xs:Array Nat):Prop:=∀i k x y:Nat,i<k->xs[i]?=on x->xs[k]?=on y->x<y
theorem pI{xs:Array Nat}(r:Rs xs):∀(fuel lo c:Nat),lo<=c->c<=xs.size->c-lo<=fuel->(∀i x,i<lo->xs[i]?=on x->x<j)->(∀i x,c<=i->xs[i]?=on x->j<=x)->
  below.go xs j fuel lo c<=xs.size/\(∀i x,i<below.go xs j fuel lo c->xs[i]?=on x->x<j)/\∀i x,below.go xs j fuel lo c<=i->xs[i]?=on x->j<=x
 |0,lo,c,h1,h2,h3,a,b=>by
  have:lo=c:=by omega
  subst this;exact⟨h2,a,b⟩
 |fuel+1,lo,c,h1,h2,h3,a,b=>by
  unfold below.go;by_cases q:lo<c
  ·rw[P6 q]
   simp only;have hm:(lo+c)/2<xs.size:=by omega
   have e:xs[(lo+c)/2]?=on (xs.getD ((lo+c)/2) j):=by simp[SV,hm]
   by_cases z:xs.getD ((lo+c)/2) j<j
   ·rw[P6 z]
    refine pI r fuel _ _ (by omega) h2 (by omega) (λi x f d=>?_) b;by_cases w:i=(lo+c)/2
    ·subst w
     rw[e]at d;cases d;exact z
    ·exact UY (r i ((lo+c)/2) x _ (by omega) d e) z
   ·rw[P0 z]
    refine pI r fuel _ _ (by omega) (by omega) (by omega) a (λi x f d=>?_);by_cases w:i=(lo+c)/2
    ·subst w
     rw[e]at d;cases d;omega
    ·have:=r ((lo+c)/2) i _ x (by omega) e d
     omega
  ·rw[P0 q]
   have:lo=c:=by omega
   subst this;exact⟨h2,a,b⟩
theorem jf{xs:Array Nat}(r:Rs xs):below xs j<=xs.size/\(∀i x,i<below xs j->xs[i]?=on x->x<j)/\∀i x,below xs j<=i->xs[i]?=on x->j<=x:=
 pI r xs.size 0 xs.size (Rr _) (P5 _) (by omega) (λi x h=>Qu h (Sz i)) (λi x h e=>by
  have:=(Ri.mp e).1;omega)
theorem FC(r:Rs xs)(h:xs[i]?=on j):below xs j=i:=by
 obtain⟨c,a,b⟩:=jf (j:=j) r;rcases Ts (below xs j) i with q|q|q
 ·have d:=(Ri.mp h).1
  have e:xs[below xs j]?=on xs[below xs j]:=getElem?_pos xs _ (by omega);have:=b _ _ (P5 _) e;have:=r _ _ _ _ q e h;omega
 ·exact q
 ·have:=a _ _ q h
  omega
theorem sE{t:Q8}(r:Rs t.place)(h:t.place[i]?=on j):t.slot j= .live i:=by
 unfold slot;simp only[FC r h,h,SE,QY]
theorem xL{t:Q8}(d:t.dummies=#[])(h:∀i:Nat,t.place[i]?≠on j):t.slot j= .empty:=by
 unfold slot;have a:(t.place[below t.place j]?==on j)=PU:=by
  rw[Xx];exact h _
 have b:has t.dummies j=PU:=by unfold has;rw[d];rfl
 simp only[a,b,Qd,QX]
noncomputable def itr(t:Q8):Nat->Probe->Probe
 |0,p=>p
 |n+1,p=>itr t n (t.advance p)
theorem pz(t:Q8):∀(n:Nat) (p:Probe),itr t (n+1) p=t.advance (itr t n p)
 |0,p=>rfl
 |n+1,p=>by
  show itr t (n+1) (t.advance p)=t.advance (itr t n (t.advance p));exact pz t n (t.advance p)
theorem nX(t:Q8):∀(n m:Nat) (p:Probe),itr t (n+m) p=itr t m (itr t n p)
 |0,m,p=>by rw[Q6];rfl
 |n+1,m,p=>by
  rw[show n+1+m=(n+m)+1 by omega];exact nX t n m (t.advance p)
structure Pv (t:Q8) (p:Probe):Prop where
 j:p.j+p.more<=t.mask
 more:p.more<=9
 i:p.i<=t.mask
 pt:p.perturb<2^64
 du:p.dummy=PH
theorem sK{mask i:Nat}(h:i<=mask):i<=runEnd mask i/\runEnd mask i<=mask/\runEnd mask i-i<=9:=by
 unfold runEnd;by_cases q:i+9<=mask
 ·rw[P6 q];omega
 ·rw[P0 q];omega
noncomputable def blk(t:Q8)(i pt:Nat):Probe:={j:=i,more:=runEnd t.mask i-i,i,perturb:=pt,dummy:=PH}
theorem qP{t:Q8}(h:i<=t.mask)(a:pt<2^64):Pv t (blk t i pt):=by
 obtain⟨c,d,b⟩:=sK h;refine⟨?_,b,h,a,rfl⟩;show i+(runEnd t.mask i-i)<=t.mask;omega
theorem sB(t:Q8)(h:Int):t.probeStart h=blk t (bits h % (t.mask+1)) (bits h):=rfl
theorem oG(h:Int):bits h<2^64:=by
 unfold bits;have:=U6 h (show(0:Int)<2^64 by decide);have:=UJ h (show(2^64:Int)≠0 by decide);omega
theorem o5(t:Q8)(h:Int):Pv t (t.probeStart h):=by
 rw[sB];exact qP (by have:=Xe (bits h) (show t.mask+1>0 by omega);omega) (oG h)
noncomputable abbrev lpI(mask i pt:Nat):Nat:=(i*5+1+pt/32) % (mask+1)
theorem BP{t:Q8}{p:Probe}(h:0<p.more):t.advance p={p with j:=p.j+1,more:=p.more-1}:=by
 unfold advance;rw[P6 h]
theorem xv{t:Q8}{p:Probe}(h:p.more=0)(hd:p.dummy=PH):t.advance p=blk t (lpI t.mask p.i p.perturb) (p.perturb/32):=by
 unfold advance;rw[P0 (by omega)];unfold leap blk;simp only[hd]
theorem yb(mask i pt:Nat):lpI mask i pt<=mask:=by
 have:=Xe (i*5+1+pt/32) (show mask+1>0 by omega);unfold lpI;omega
theorem BO{t:Q8}(v:Pv t p):Pv t (t.advance p):=by
 by_cases q:0<p.more
 ·rw[BP q]
  exact⟨by have:=v.j;show p.j+1+(p.more-1)<=t.mask;omega,by have:=v.more;show p.more-1<=9;omega,v.i,v.pt,v.du⟩
 ·rw[xv (by omega) v.du]
  exact qP (yb _ _ _) (Sj (WX _ _) v.pt)
theorem mD:∀(n:Nat) {p:Probe},Pv t p->Pv t (itr t n p)
 |0,_,v=>v
 |n+1,_,v=>mD n (BO v)
theorem rG:∀(k:Nat) {p:Probe},Pv t p->k<=p.more->itr t k p={p with j:=p.j+k,more:=p.more-k}
 |0,p,v,h=>by cases p;rfl
 |k+1,p,v,h=>by
  rw[pz,rG k v (by omega)];rw[BP (show 0<p.more-k by omega)];simp only[Probe.mk.injEq,and_true,true_and];omega
theorem pA{t:Q8}{p:Probe}(v:Pv t p):itr t (p.more+1) p=blk t (lpI t.mask p.i p.perturb) (p.perturb/32):=by
 rw[pz,rG _ v (P5 _)];exact xv (Ss _) v.du
def cr(mask:Nat):Nat->Nat×Nat->Nat×Nat
 |0,x=>x
 |k+1,x=>cr mask k (lpI mask x.1 x.2,x.2/32)
theorem jx(mask:Nat):∀(k:Nat) (x:Nat×Nat),cr mask (k+1) x=(lpI mask (cr mask k x).1 (cr mask k x).2,(cr mask k x).2/32)
 |0,x=>rfl
 |k+1,x=>jx mask k _
theorem vy{t:Q8}:∀(k:Nat) {p:Probe},Pv t p->∃n,n<=10*(k+1)/\itr t n p=blk t (cr t.mask (k+1) (p.i,p.perturb)).1 (cr t.mask (k+1) (p.i,p.perturb)).2
 |0,p,v=>⟨p.more+1,by have:=v.more;omega,pA v⟩
 |k+1,p,v=>by
  obtain⟨n,hn,e⟩:=vy k v;have a:=mD n v;rw[e]at a;refine⟨n+((blk t (cr t.mask (k+1) (p.i,p.perturb)).1 (cr t.mask (k+1) (p.i,p.perturb)).2).more+1),by have:=a.more;omega,?_⟩;rw[nX,e,pA a,jx t.mask (k+1)];rfl
def Mk(mask:Nat):Prop:=mask=7\/mask=31\/mask=127
noncomputable def orb(mask:Nat):Nat->Nat->Nat
 |0,i=>i
 |k+1,i=>orb mask k ((i*5+1) % (mask+1))
theorem nM(mask:Nat):∀(a b i:Nat),orb mask (a+b) i=orb mask b (orb mask a i)
 |0,b,i=>by rw[Q6];rfl
 |a+1,b,i=>by
  rw[show a+1+b=(a+b)+1 by omega];exact nM mask a b _
def IO(mask:Nat):Bool:=(orb mask (mask+1) 0==0)&&(P4 (mask+1)).all λj=>(P4 (mask+1)).any λk=>orb mask k 0==j
theorem Mt{mask:Nat}(h:Mk mask):IO mask=PP:=by
 rcases h with rfl|rfl|rfl<;>decide +kernel
theorem wK{mask i j:Nat}(h:Mk mask)(l:i<=mask)(m:j<=mask):∃k,k<=mask/\orb mask k i=j:=by
 have o:=Mt h;unfold IO at o;rw[QI,TX,TH]at o;obtain⟨g,ha⟩:=o;obtain⟨a,e,c⟩:=List.any_eq_true.mp (ha i (Qq.mpr (by omega)));obtain⟨b,f,d⟩:=List.any_eq_true.mp (ha j (Qq.mpr (by omega)));rw[TX]at c d;have:=Qq.mp e;have:=Qq.mp f;by_cases q:a<=b
 ·refine⟨b-a,by omega,?_⟩
  rw[←c,←nM,show a+(b-a)=b by omega,d]
 ·refine⟨b+(mask+1)-a,by omega,?_⟩
  rw[←c,←nM,show a+(b+(mask+1)-a)=(mask+1)+b by omega,nM,g,d]
theorem ma(mask:Nat):∀(k i:Nat),cr mask k (i,0)=(orb mask k i,0)
 |0,i=>rfl
 |k+1,i=>by
  show cr mask k (lpI mask i 0,0/32)=_;rw[show(0/32:Nat)=0 from rfl,ma mask k];rfl
theorem o8(mask:Nat):∀(a b:Nat) (x:Nat×Nat),cr mask (a+b) x=cr mask b (cr mask a x)
 |0,b,x=>by rw[Q6];rfl
 |a+1,b,x=>by
  rw[show a+1+b=(a+b)+1 by omega];exact o8 mask a b _
theorem o7(mask:Nat):∀(k:Nat) (x:Nat×Nat),(cr mask k x).2=x.2/32^k
 |0,x=>by simp[cr]
 |k+1,x=>by
  rw[jx,o7 mask k x,XR,Nat.pow_succ]
theorem wz(mask:Nat):∀(k:Nat) (x:Nat×Nat),x.1<=mask->(cr mask k x).1<=mask
 |0,x,h=>h
 |k+1,x,h=>by rw[jx];exact yb _ _ _
theorem Pz{t:Q8}(h:Mk t.mask)(v:Pv t p)(a:j<=t.mask):∃n,n<10*turns t.mask/\(itr t n p).j=j:=by
 have z:(cr t.mask 13 (p.i,p.perturb)).2=0:=by
  rw[o7];exact Nat.div_eq_of_lt (Qv v.pt (by decide))
 have l:=wz t.mask 13 (p.i,p.perturb) v.i;obtain⟨k,c,e⟩:=wK h l a;obtain⟨n,hn,b⟩:=vy (12+k) v;refine⟨n,by unfold turns;omega,?_⟩;rw[b];show(cr t.mask (12+k+1) (p.i,p.perturb)).1=j;rw[show 12+k+1=13+k by omega,o8,show cr t.mask 13 (p.i,p.perturb)=((cr t.mask 13 (p.i,p.perturb)).1,0)from T4 rfl z,ma];exact e
abbrev Lv(t:Q8)(j:Nat):Prop:=∃k:Nat,t.place[k]?=on j
structure Tb (t:Q8) (hs:List Int):Prop where
 km:Mk t.mask
 sz:t.place.size=hs.length
 rs:Rs t.place
 le:∀i j:Nat,t.place[i]?=on j->j<=t.mask
 du:t.dummies=#[]
 nf:t.place.size*5<t.mask*3
 rch:∀(i:Nat) (h:Int) (j:Nat),hs[i]?=on h->t.place[i]?=on j->∃n,(itr t n (t.probeStart h)).j=j/\∀m<n,Lv t (itr t m (t.probeStart h)).j
theorem Mk.odd(h:Mk m):m % 2=1/\7<=m/\m<=127:=by
 rcases h with rfl|rfl|rfl<;>decide
theorem gap{xs:Array Nat}(r:Rs xs):∀n,n<=xs.size->(∀i:Nat,i<n->xs[i]?=on i)\/∃j,j<n/\∀i:Nat,xs[i]?≠on j
 |0,_=> .inl λi h=>Qu h (Sz i)
 |n+1,h=>by
  rcases gap r n (by omega)with q|⟨j,c,b⟩
  ·have e:xs[n]?=on xs[n]:=getElem?_pos xs n (by omega)
   by_cases z:xs[n]=n
   ·refine .inl λi d=>?_
    by_cases w:i=n
    ·subst w;rw[e,z]
    ·exact q i (by omega)
   ·have lt:n<=xs[n]:=by
     cases n with
     |zero=>omega
     |succ m=>
      have:=r m (m+1) _ _ (by omega) (q m (by omega)) e;omega
    refine .inr ⟨n,by omega,λi a=>?_⟩;rcases Ts i n with w|w|w
    ·rw[q i w]at a;cases a;omega
    ·subst w;rw[e]at a;exact z (QB a)
    ·have:=r n i _ _ w e a
     omega
  ·exact .inr ⟨j,by omega,b⟩
theorem M1{xs:Array Nat}(r:Rs xs):∃j,j<=xs.size/\∀i:Nat,xs[i]?≠on j:=by
 rcases gap r xs.size (P5 _)with q|⟨j,c,a⟩
 ·refine⟨xs.size,P5 _,λi e=>?_⟩
  have b:=(Ri.mp e).1;rw[q i b]at e;cases e;omega
 ·exact⟨j,by omega,a⟩
theorem JE{t:Q8}(r:Rs t.place)(d:t.dummies=#[]):∀(fuel:Nat) (p:Probe) (e:Nat),Pv t p->e<fuel->¬Lv t (itr t e p).j->
  ∃m,m<=e/\(∀a<m,∃i,t.place[i]?=on (itr t a p).j/\hashAt i≠h)/\
   ((¬Lv t (itr t m p).j/\probe.go t hashAt h fuel p=on (.empty (itr t m p).j PH))\/∃i,t.place[i]?=on (itr t m p).j/\hashAt i=h/\probe.go t hashAt h fuel p=on (.candidate (itr t m p).j i (itr t (m+1) p)))
 |0,_,_,_,h,_=>Qu h (Sz _)
 |fuel+1,p,e,v,hf,he=>by
  unfold probe.go;by_cases q:Lv t p.j
  ·obtain⟨i,b⟩:=q
   rw[sE r b];simp only;by_cases z:hashAt i=h
   ·refine⟨0,Rr _,λa hm=>Qu hm (Sz _),.inr ⟨i,b,z,?_⟩⟩
    rw[P6 (by rw[TX];exact z)];rfl
   ·rw[P0 (by rw[TX];exact z)]
    cases e with
    |zero=>exact Qu ⟨i,b⟩ he
    |succ e=>
     obtain⟨m,hm,ha,c⟩:=JE r d fuel (t.advance p) e (BO v) (by omega) he;refine⟨m+1,by omega,λa f=>?_,c⟩;cases a with
     |zero=>exact⟨i,b,z⟩
     |succ a=>exact ha a (by omega)
  ·rw[xL d (λi b=>q ⟨i,b⟩)]
   refine⟨0,Rr _,λa hm=>Qu hm (Sz _),.inl ⟨q,?_⟩⟩;simp only[v.du];rfl
theorem Tb.free{t:Q8}(T:Tb t hs)(v:Pv t p):∃e,e<10*turns t.mask/\¬Lv t (itr t e p).j:=by
 obtain⟨j,f,a⟩:=M1 T.rs;have:=T.nf;have:=T.km.odd;obtain⟨e,b,c⟩:=Pz T.km v (show j<=t.mask by omega);exact⟨e,b,λ⟨k,d⟩=>a k (by rw[←c];exact d)⟩
theorem AM{α:Type}{xs:Array α}{p:Nat}{x:α}(b:p<=xs.size)(i:Nat):(insertAt xs p x)[i]?=if i<p then xs[i]? else if i=p then on x else xs[i-1]?:=by
 unfold insertAt;rw[Array.getElem?_append];have a:((xs.extract 0 p).push x).size=p+1:=by simp;omega
 rw[a];by_cases q:i<p
 ·rw[P6 (by omega),P6 q,Yd,Yo]
  rw[P0 (by omega),Xu];simp;omega
 ·by_cases z:i=p
  ·subst z
   rw[P6 (by omega),P0 (by omega),P6 rfl,Yd,Yo];rw[P6 (by omega)]
  ·rw[P0 (by omega),P0 q,P0 z,Xu]
   by_cases w:i-1<xs.size
   ·rw[P6 (by omega)]
    congr 1;omega
   ·rw[P0 (by omega),S9 (by omega)]
theorem gi{α:Type}{xs:Array α}{p:Nat}{x:α}(a:p<=xs.size):(insertAt xs p x).size=xs.size+1:=by
 unfold insertAt;simp;omega
theorem Tb.put{t:Q8}{hs:List Int}(T:Tb t hs)(C:¬Lv t j)(hn:(itr t n (t.probeStart h)).j=j)(ha:∀m<n,Lv t (itr t m (t.probeStart h)).j)(nf:(t.place.size+1)*5<t.mask*3):
  (t.put j).1.dummies=#[]/\(t.put j).1.mask=t.mask/\(t.put j).1.place.size=t.place.size+1/\(t.put j).2<=t.place.size/\Tb (t.put j).1 (hs.take (t.put j).2++h::hs.drop (t.put j).2):=by
 obtain⟨b1,b2,b3⟩:=jf (j:=j) T.rs;have hd:has t.dummies j=PU:=by unfold has;rw[T.du];rfl
 have A:(t.put j).1.dummies=#[]:=by
  show(if has t.dummies j=PP then _ else t.dummies)=#[];rw[hd,P0 P8,T.du]
 have ep:(t.put j).1.place=insertAt t.place (below t.place j) j:=rfl;have g:=λi=>AM (x:=j) b1 i;have B:∀x,Lv t x->Lv (t.put j).1 x:=λx ⟨k,l⟩=>by
  by_cases q:k<below t.place j
  ·exact⟨k,by rw[ep,g,P6 q];exact l⟩
  ·exact⟨k+1,by rw[ep,g,P0 (by omega),P0 (by omega)];exact l⟩
 have it:∀m p,itr (t.put j).1 m p=itr t m p:=λm=>by
  induction m with
  |zero=>intro p;rfl
  |succ m ih=>intro p;exact ih (t.advance p)
 refine⟨A,rfl,by rw[ep,gi b1],b1,⟨T.km,?_,?_,?_,A,?_,?_⟩⟩
 ·rw[ep,gi b1,T.sz]
  have:(t.put j).2<=hs.length:=by rw[←T.sz];exact b1
  simp;omega
 ·intro i k x y r c e
  rw[ep,g]at c e;have F:∀k,t.place[k]?≠on j:=λk l=>C ⟨k,l⟩;by_cases q1:i<below t.place j
  ·rw[P6 q1]at c
   by_cases q2:k<below t.place j
   ·rw[P6 q2]at e
    exact T.rs i k x y r c e
   ·rw[P0 q2]at e
    by_cases q3:k=below t.place j
    ·rw[P6 q3]at e;cases e
     exact b2 i x q1 c
    ·rw[P0 q3]at e
     exact T.rs i (k-1) x y (by omega) c e
  ·rw[P0 q1]at c
   rw[P0 (by omega),P0 (by omega)]at e;by_cases q3:i=below t.place j
   ·rw[P6 q3]at c;cases c
    have L:=b3 (k-1) y (by omega) e;have:y≠j:=λz=>F (k-1) (by rw[e,z]);omega
   ·rw[P0 q3]at c
    exact T.rs (i-1) (k-1) x y (by omega) c e
 ·intro i x c
  rw[ep,g]at c;by_cases q1:i<below t.place j
  ·rw[P6 q1]at c;exact T.le i x c
  ·rw[P0 q1]at c
   by_cases q3:i=below t.place j
   ·rw[P6 q3]at c;cases c
    have v:=mD n (o5 t h);have:=v.j;show j<=t.mask;omega
   ·rw[P0 q3]at c;exact T.le _ x c
 ·rw[ep,gi b1];exact nf
 ·intro i h' x H c
  have N:(t.put j).2<=hs.length:=by rw[←T.sz];exact b1
  have u:(t.put j).2=below t.place j:=rfl;rw[ep,g]at c;have d:(if i<below t.place j then hs[i]? else if i=below t.place j then on h else hs[i-1]?)=on h':=by
   rw[←H,u];by_cases q1:i<below t.place j
   ·rw[P6 q1,SM (by rw[Rp];omega),Xm q1]
   ·rw[P0 q1,RK (by rw[Rp];omega),Rp,Nat.min_eq_left (by omega)]
    by_cases q3:i=below t.place j
    ·rw[P6 q3,q3,Ss];rfl
    ·rw[P0 q3,show i-below t.place j=(i-1-below t.place j)+1 by omega,Xw,YO]
     congr 1;omega
  have f:∀o,hs[o]?=on h'->t.place[o]?=on x->∃n,(itr (t.put j).1 n ((t.put j).1.probeStart h')).j=x/\∀m<n,Lv (t.put j).1 (itr (t.put j).1 m ((t.put j).1.probeStart h')).j:=λo a b=>by
   obtain⟨I,J,u⟩:=T.rch o h' x a b;refine⟨I,by rw[it];exact J,λm hm=>?_⟩;rw[it];exact B _ (u m hm)
  by_cases q1:i<below t.place j
  ·rw[P6 q1]at c d
   exact f i d c
  ·rw[P0 q1]at c d
   by_cases q3:i=below t.place j
   ·rw[P6 q3]at c d
    cases c;cases d;refine⟨n,by rw[it];exact hn,λm hm=>?_⟩;rw[it];exact B _ (ha m hm)
   ·rw[P0 q3]at c d
    exact f (i-1) d c
theorem vA{t u:Q8}(h:t.mask=u.mask):∀(n:Nat) (p:Probe),itr t n p=itr u n p
 |0,p=>rfl
 |n+1,p=>by
  show itr t n (t.advance p)=itr u n (u.advance p);have:t.advance p=u.advance p:=by unfold advance;rw[h]
  rw[this];exact vA h n _
theorem xJ{t u:Q8}(h:t.mask=u.mask)(x:Int):t.probeStart x=u.probeStart x:=by unfold probeStart;rw[h]
noncomputable abbrev tm(mask:Nat):Q8:={mask,place:=#[],dummies:=#[],finger:=0,led:=PP,moves:=0,plain:=PP}
noncomputable abbrev fr(owner:Array (Option Nat))(j:Nat):Bool:=(owner.getD j (on 0)).isNone
theorem w9{mask:Nat}{owner:Array (Option Nat)}:∀(fuel i pt:Nat),i<=mask->pt<2^64->(∃b,b<fuel/\fr owner (cr mask b (i,pt)).1=PP)->
  ∃n,layClean.free mask owner fuel i pt=on (itr (tm mask) n (blk (tm mask) i pt)).j/\fr owner (itr (tm mask) n (blk (tm mask) i pt)).j=PP/\∀m<n,fr owner (itr (tm mask) m (blk (tm mask) i pt)).j=PU
 |0,_,_,_,_,⟨b,h,_⟩=>Qu h (Sz b)
 |fuel+1,i,pt,hi,hp,⟨b,hb,hf⟩=>by
  have v:=qP (t:=tm mask) hi hp;obtain⟨r1,B,C⟩:=sK hi;have f:(blk (tm mask) i pt).more=runEnd mask i-i:=rfl;have d:∀k,k<=runEnd mask i-i->(itr (tm mask) k (blk (tm mask) i pt)).j=i+k:=λk c=>by
   rw[rG k v c];rfl
  unfold layClean.free;split
  ·rename_i k c
   obtain⟨g,l,o⟩:=List.find?_range_eq_some.mp c;have:=Qq.mp l;refine⟨k,by rw[d k (by omega)],by rw[d k (by omega)];exact g,λm hm=>?_⟩;rw[d m (by omega)];have:=o m hm;simpa using this
  ·rename_i c
   have hn:∀k,k<=runEnd mask i-i->fr owner (i+k)=PU:=λk p=>by
    have:=List.find?_range_eq_none.mp c k (by omega);simpa using this
   cases b with
   |zero=>
    have r:=hn 0 (by omega);exact Qu hf (by rw[show(cr mask 0 (i,pt)).1=i+0 from rfl,r];exact P8)
   |succ b=>
    obtain⟨n,u,y,A⟩:=w9 fuel (lpI mask i pt) (pt/32) (yb _ _ _) (Sj (WX _ _) hp) ⟨b,by omega,hf⟩;have a:∀m,itr (tm mask) (runEnd mask i-i+1+m) (blk (tm mask) i pt)=itr (tm mask) m (blk (tm mask) (lpI mask i pt) (pt/32)):=λm=>by
     rw[nX,←f,pA v];rfl
    refine⟨runEnd mask i-i+1+n,by rw[a];exact u,by rw[a];exact y,λm hm=>?_⟩;by_cases q:m<=runEnd mask i-i
    ·rw[d m q];exact hn m q
    ·obtain⟨e,rfl⟩:∃e,m=runEnd mask i-i+1+e:=⟨m-(runEnd mask i-i+1),by omega⟩
     rw[a];exact A e (by omega)
structure Ow (mask:Nat) (owner:Array (Option Nat)) (hs:List Int):Prop where
 sz:owner.size=mask+1
 lt:∀j k:Nat,owner[j]?=on (on k)->k<hs.length
 un:∀j j' k:Nat,owner[j]?=on (on k)->owner[j']?=on (on k)->j=j'
 cn:owner.toList.countP (·.isSome)=hs.length
 ex:∀(k:Nat) (h:Int),hs[k]?=on h->∃j n:Nat,owner[j]?=on (on k)/\(itr (tm mask) n ((tm mask).probeStart h)).j=j/\∀m<n,∃k':Nat,owner[(itr (tm mask) m ((tm mask).probeStart h)).j]?=on (on k')
theorem yr{mask:Nat}{owner:Array (Option Nat)}(hs:owner.size=mask+1){j:Nat}(b:j<=mask):(fr owner j=PP↔owner[j]?=on PH)/\(fr owner j=PU↔∃k:Nat,owner[j]?=on (on k)):=by
 have e:owner[j]?=on owner[j]:=getElem?_pos owner j (by omega);have a:owner.getD j (on 0)=owner[j]:=by simp[SV,show j<owner.size by omega]
 unfold fr;rw[a,e];cases owner[j]<;>simp
theorem Ow.step{mask:Nat}{owner:Array (Option Nat)}{hs:List Int}(O:Ow mask owner hs)(h:Int)(hm:Mk mask)(W:hs.length<=mask):
  ∃j,layClean.free mask owner (turns mask) (bits h % (mask+1)) (bits h)=on j/\Ow mask (owner.setIfInBounds j (on hs.length)) (hs++[h]):=by
 have u:bits h % (mask+1)<=mask:=by have:=Xe (bits h) (show mask+1>0 by omega);omega
 have⟨v,h1,h2⟩:∃v,v<=mask/\fr owner v=PP:=by
  refine UI λz=>?_;have all:∀a∈owner.toList,Option.isSome a=PP:=λa ha=>by
   obtain⟨i,g,e⟩:=V6 ha;have L:i<owner.size:=by simpa using g
   have N:fr owner i=PU:=by
    cases q:fr owner i with
    |false=>rfl
    |true=>exact Qu ⟨i,by have:=O.sz;omega,q⟩ z
   obtain⟨k,A⟩:=(yr O.sz (show i<=mask by have:=O.sz;omega)).2.mp N;have:owner[i]?=on a:=by rw[←Tj,PM g,e]
   rw[this]at A;cases A;rfl
  have:=List.countP_eq_length.mpr all;rw[O.cn]at this;have:=O.sz;simp at*;omega
 have z:(cr mask 13 (bits h % (mask+1),bits h)).2=0:=by
  rw[o7];exact Nat.div_eq_of_lt (Qv (oG h) (by decide))
 have l:=wz mask 13 (bits h % (mask+1),bits h) u;obtain⟨k,A,e⟩:=wK hm l h1;have Q:fr owner (cr mask (13+k) (bits h % (mask+1),bits h)).1=PP:=by
  rw[o8,show cr mask 13 (bits h % (mask+1),bits h)=((cr mask 13 (bits h % (mask+1),bits h)).1,0)from T4 rfl z,ma];show fr owner (orb mask k _)=PP;rw[e];exact h2
 obtain⟨n,F,H,R⟩:=w9 (owner:=owner) (turns mask) (bits h % (mask+1)) (bits h) u (oG h) ⟨13+k,by unfold turns;omega,Q⟩;have I:∀m,(itr (tm mask) m (blk (tm mask) (bits h % (mask+1)) (bits h))).j<=mask:=λm=>by
  have:=(mD m (qP (t:=tm mask) u (oG h))).j;show _<=(tm mask).mask;omega
 generalize J:(itr (tm mask) n (blk (tm mask) (bits h % (mask+1)) (bits h))).j=j at F H;have T:j<=mask:=by rw[←J];exact I n
 have o:owner[j]?=on PH:=(yr O.sz T).1.mp H;have p:j<owner.size:=by have:=O.sz;omega
 have set:∀x:Nat,(owner.setIfInBounds j (on hs.length))[x]?=if j=x then on (on hs.length)else owner[x]?:=λx=>by
  rw[Array.getElem?_setIfInBounds];by_cases q:j=x
  ·rw[P6 q,P6 q,P6 p]
  ·rw[P0 q,P0 q]
 refine⟨j,F,⟨by rw[Array.size_setIfInBounds];exact O.sz,λx k c=>?_,λx y k c f=>?_,?_,λk h' d=>?_⟩⟩
 ·rw[set]at c
  rw[Qh];by_cases q:j=x
  ·rw[P6 q]at c;cases c;simp
  ·rw[P0 q]at c
   have:=O.lt x k c;omega
 ·rw[set]at c f
  by_cases q:j=x
  ·rw[P6 q]at c;cases c
   by_cases r:j=y
   ·omega
   ·rw[P0 r]at f
    exact Qu (O.lt y _ f) (Q4 _)
  ·rw[P0 q]at c
   by_cases r:j=y
   ·rw[P6 r]at f;cases f
    exact Qu (O.lt x _ c) (Q4 _)
   ·rw[P0 r]at f
    exact O.un x y k c f
 ·rw[Array.toList_setIfInBounds,List.countP_set (by simpa using p),O.cn]
  have:owner.toList[j]'(by simpa using p)=PH:=by
   have e:=getElem?_pos owner j p;rw[o]at e;rw[Ut];exact(QB e).symm
  rw[this];simp
 ·by_cases q:k<hs.length
  ·rw[SM q]at d
   obtain⟨x,U,a1,a2,a3⟩:=O.ex k h' d;refine⟨x,U,?_,a2,λm hm=>?_⟩
   ·rw[set,P0 (λw=>by subst w;rw[o]at a1;cases a1)];exact a1
   ·obtain⟨B,b⟩:=a3 m hm
    exact⟨B,by rw[set,P0 (λw=>by rw[←w,o]at b;cases b)];exact b⟩
  ·have C:=(P9.mp d).1
   rw[Qh,QU]at C;have:k=hs.length:=by omega
   subst this;rw[RK (P5 _),Ss]at d;cases d;refine⟨j,n,by rw[set,P6 rfl],J,λm hm=>?_⟩;obtain⟨B,b⟩:=(yr O.sz (I m)).2.mp (R m hm);exact⟨B,by rw[sB,set,P0 (λw=>by rw[←w,o]at b;cases b)];exact b⟩
theorem Ow.nil(mask:Nat):Ow mask (Array.replicate (mask+1) PH) []:=by
 have g:∀x:Nat,(Array.replicate (mask+1) (PH:Option Nat))[x]?=if x<mask+1 then on PH else PH:=λx=>Array.getElem?_replicate;refine⟨by simp,λj k h=>?_,λj b k h=>?_,by simp,λk h a=>by simp at a⟩
 ·rw[g]at h
  split at h<;>cases h
 ·rw[g]at h
  split at h<;>cases h
theorem vp{mask:Nat}(hm:Mk mask):∀(l:List Int) (owner:Array (Option Nat)) (hs:List Int),Ow mask owner hs->hs.length+l.length<=mask+1->∃a,l.foldl (λ(acc:Option (Array (Option Nat)×Nat)) h=>do
   let (owner,k) ←acc
   let j ←layClean.free mask owner (turns mask) (bits h % (mask+1)) (bits h)
   SB (owner.setIfInBounds j (on k),k+1)) (on (owner,hs.length))=on (a,hs.length+l.length)/\Ow mask a (hs++l)
 |[],owner,hs,O,_=>⟨owner,rfl,by rw[QC];exact O⟩
 |h::l,owner,hs,O,hl=>by
  rw[Qa]at hl;obtain⟨j,e,d⟩:=O.step h hm (by omega);obtain⟨f,b,c⟩:=vp hm l _ (hs++[h]) d (by rw[Qh,QU];omega);refine⟨f,?_,by rw[Q9]at c;exact c⟩;rw[List.foldl_cons];simp only[Option.bind_eq_bind,Rw,e];rw[Qh,QU]at b;rw[Qa,show hs.length+(l.length+1)=hs.length+1+l.length by omega];exact b
theorem MQ{mask:Nat}(hm:Mk mask)(hs:Array Int)(b:hs.size<=mask+1):∃owner,layClean mask hs=on owner/\Ow mask owner hs.toList:=by
 obtain⟨o,e,O⟩:=vp hm hs.toList _ [] (Ow.nil mask) (by simpa using b);refine⟨o,?_,O⟩;unfold layClean;rw[←Array.foldl_toList];have a:=e;simp only[Sx]at a;exact(Re (Option.map (·.1)) a).trans rfl
theorem vG{α β:Type}{f:α->Option β}{g:α->β}:∀{l:List α},(∀a∈l,f a=on (g a))->l.filterMap f=l.map g
 |[],_=>rfl
 |a::l,h=>by
  rw[RU,h a PZ,Qb,vG λb c=>h b (PN a c)]
noncomputable def cj(mask:Nat)(owner:Array (Option Nat)):List (Nat×Nat):=(P4 (mask+1)).filterMap λj=>(owner.getD j PH).map (j,·)
theorem DW{mask:Nat}{owner:Array (Option Nat)}(hs:owner.size=mask+1){j k:Nat}:(j,k)∈cj mask owner↔owner[j]?=on (on k):=by
 unfold cj;rw[U2];constructor
 ·rintro⟨x,c,e⟩
  have d:=Qq.mp c;have a:owner.getD x PH=owner[x]:=by simp[SV,show x<owner.size by omega]
  rw[a]at e;cases q:owner[x]with
  |none=>rw[q]at e;cases e
  |some f=>
   rw[q]at e;simp only[Rb,Xn,Prod.mk.injEq]at e;obtain⟨rfl,rfl⟩:=e;rw[getElem?_pos owner x (by omega),q]
 ·intro e
  have b:=(Ri.mp e).1;refine⟨j,Qq.mpr (by omega),?_⟩;have a:owner.getD j PH=owner[j]:=by simp[SV,b]
  rw[getElem?_pos owner j b]at e;rw[a,QB e];rfl
theorem z6(mask:Nat)(owner:Array (Option Nat)):(cj mask owner).Pairwise λa b=>a.1<b.1:=by
 unfold cj;refine List.Pairwise.filterMap _ (λa f h b d g c=>?_) List.pairwise_lt_range;cases q:owner.getD a PH with
 |none=>rw[q]at d;cases d
 |some k=>
  rw[q]at d;cases e:owner.getD f PH with
  |none=>rw[e]at c;cases c
  |some i=>
   rw[e]at c;cases d;cases c;exact h
theorem zu{t:Q8}{hs:Array Int}(hm:Mk (sizeAbove wanted-1))(nf:hs.size*5<(sizeAbove wanted-1)*3):
  ∃(t':Q8) (c:Array Nat),t.relaid hs wanted=on (t',c)/\c.toList.Perm (P4 hs.size)/\Tb t' (c.toList.map λk=>hs.getD k 0)/\t'.led=t.led/\t'.plain=t.plain:=by
 have ho:=hm.odd;obtain⟨owner,e,O⟩:=MQ hm hs (by omega);generalize T:sizeAbove wanted-1=mask at*;have d:hs.toList.length=hs.size:=by simp
 have f:=z6 mask owner;have g:∀{j k:Nat},(j,k)∈cj mask owner↔owner[j]?=on (on k):=DW O.sz;have U:t.relaid hs wanted=on ({mask,place:=((cj mask owner).map (·.1)).toArray,dummies:=#[],finger:=t.finger,led:=t.led,moves:=t.movedTo mask,plain:=t.plain},((cj mask owner).map (·.2)).toArray):=by
  unfold relaid laid;rw[T,e];rfl
 have perm:((cj mask owner).map (·.2)).Perm (P4 hs.size):=by
  refine(List.perm_ext_iff_of_nodup ?_ Vx).mpr λk=>?_
  ·unfold List.Nodup
   rw[Vf];refine List.Pairwise.imp_of_mem (R:=λa b=>a.1<b.1) (λ{a b} ha B h z=>?_) f;obtain⟨j,k⟩:=a;obtain⟨r,v⟩:=b;have W:k=v:=z;subst W;have:=O.un j r k (g.mp ha) (g.mp B);have h':j<r:=h;omega
  ·rw[Qc,Qq]
   constructor
   ·rintro⟨⟨j,v⟩,h,rfl⟩
    have:=O.lt j v (g.mp h);rwa[d]at this
   ·intro A
    obtain⟨j,n,C,_⟩:=O.ex k _ (PM (by rw[d];exact A));exact⟨(j,k),g.mpr C,rfl⟩
 have l:(cj mask owner).length=hs.size:=by
  have:=perm.length_eq;rwa[PF,Qr]at this
 refine⟨_,_,U,by simpa using perm,?_,rfl,rfl⟩;have pg:∀{i:Nat} {x:Nat},(((cj mask owner).map (·.1)).toArray)[i]?=on x->∃k,(cj mask owner)[i]?=on (x,k):=λ{i x} h=>by
  rw[VS,PV]at h;cases q:(cj mask owner)[i]? with
  |none=>rw[q]at h;cases h
  |some a=>
   rw[q]at h;cases h;exact⟨a.2,rfl⟩
 have F:∀{j k:Nat},owner[j]?=on (on k)->∃i:Nat,(((cj mask owner).map (·.1)).toArray)[i]?=on j:=λ{j k} h=>by
  obtain⟨i,X,Y⟩:=V6 (g.mpr h);exact⟨i,by rw[VS,PV,PM X,Y];rfl⟩
 refine⟨hm,?_,?_,?_,rfl,?_,?_⟩
 ·show(((cj mask owner).map (·.1)).toArray).size=_
  simp
 ·intro i k x y H Z hy
  obtain⟨a,ha⟩:=pg Z;obtain⟨b,B⟩:=pg hy;obtain⟨C,I⟩:=P9.mp ha;obtain⟨h2,e2⟩:=P9.mp B;have:=SN.mp f i k C h2 H;rw[I,e2]at this;exact this
 ·intro i j h
  obtain⟨a,ha⟩:=pg h;have:=(Ri.mp (g.mp (Ql ha))).1;have:=O.sz;show j<=mask;omega
 ·show(((cj mask owner).map (·.1)).toArray).size*5<mask*3
  have:(((cj mask owner).map (·.1)).toArray).size=hs.size:=by simp[l]
  omega
 ·intro i h j J hj
  obtain⟨k,A⟩:=pg hj;have o:=g.mp (Ql A);have eh:hs.toList[k]?=on h:=by
   rw[PV]at J;have I:((cj mask owner).map (·.2)).toArray.toList[i]?=on k:=by
    show((cj mask owner).map (·.2))[i]?=_;rw[PV,A];rfl
   rw[I]at J;have N:k<hs.size:=by have:=O.lt j k o;rwa[d]at this
   have:hs.getD k 0=h:=QB J;rw[Tj,getElem?_pos hs k N,←this];simp[SV,N]
  obtain⟨r,n,a1,a2,a3⟩:=O.ex k h eh;have:=O.un j r k o a1;subst this;have tr:∀(u:Q8),u.mask=mask->∀m,itr u m (u.probeStart h)=itr (tm mask) m ((tm mask).probeStart h):=λu Q m=>by
   rw[xJ (u:=tm mask) Q,vA (u:=tm mask) Q]
  refine⟨n,by rw[tr _ rfl];exact a2,λm L=>?_⟩;rw[tr _ rfl];obtain⟨v,p⟩:=a3 m L;exact F p
theorem sM{t:Q8}(a:t.probe f h p=r)(T:Tb t hs)(v:Pv t p)(b:e<10*turns t.mask)(c:¬Lv t (itr t e p).j):
  ∃m,m<=e/\(∀d<m,∃i,t.place[i]?=on (itr t d p).j/\f i≠h)/\
   ((¬Lv t (itr t m p).j/\r=on (.empty (itr t m p).j PH))\/∃i,t.place[i]?=on (itr t m p).j/\f i=h/\r=on (.candidate (itr t m p).j i (itr t (m+1) p))):=by
 subst a;exact JE T.rs T.du _ p e v b c
section
variable{prog:QD}{w:QS}{A:Rg}{E:PY->P7->Prop}{s:P7}
noncomputable abbrev IKd(prog:QD)(w:QS):HeapKind prog w (List Int):=tupleKind (V2 prog w)
noncomputable abbrev hsh(prog:QD)(w:QS)(k:List Int):Int:=(IKd prog w).hash k
theorem Tb.fits{t:Q8}{hs:List Int}(T:Tb t hs)(hn:hs.length=n):t.fits n=PP:=by
 have:=T.nf;have:=T.sz;have:=T.km.odd;unfold WT SetTable.fill;rw[T.du];simp;omega
theorem items_int(h:ItemsAre (V2 prog w) ks vs):∀v∈vs,∃n t,v=TD n t:=by
 induction h with
 |nil=>intro v hv;cases hv
 |@cons k v' ks vs h1 _ ih=>
  intro v hv;rcases Qf.mp hv with rfl|hv
  ·obtain⟨t,e⟩:=Wj h1
   exact⟨_,t,e⟩
  ·exact ih v hv
theorem yO{M:Model}{o:Qy}(b:s.heap.get? a=on o)(h:Q o.cls s):Qi M A (typeOf (.ref a)) Q E s:=by
 show Qi M A (loadPart a _>>=_) Q E s;exact My (wpAny_loadPart b (PL h))
theorem u5(f:(IKd prog w).is s.heap k x)(h:Q PU s):Qi (QA prog w) A (W2 8 (.ref x)) Q E s:=by
 obtain⟨o,b,n,e,g,hd,i⟩:=f;unfold W2;refine My (yO e ?_);rw[g];simp only[SE,QY];refine My (PL ?_);simp only[Ry,Qd,QX];refine My (R1 e hd ?_);refine My ?_;show Qi _ _ (forIn b _ _) _ _ s;rw[←T5];refine VU _ (λrest r s'=>r.1=PH/\s'=s/\∀v∈rest,∃n t,v=TD n t) _ ?_ ?_ _ _ ⟨rfl,rfl,items_int i⟩
 ·rintro v rest r s' ⟨c,rfl,a⟩
  obtain⟨n,t,rfl⟩:=a v PZ;unfold W2;refine My (PL ?_);simp only[Qd,QX];exact PL ⟨rfl,rfl,λu d=>a u (PN _ d)⟩
 ·rintro⟨r1,j⟩ s' ⟨c,rfl,_⟩
  simp only at c;subst c;exact PL h
theorem EY(e:(IKd prog w).is s.heap k x)(h:Q PP s):Qi (QA prog w) A (hashByValue 8 (.ref x)) Q E s:=by
 have f:=Xv (s:=s) e;obtain⟨o,b,n,g,j,hd,i⟩:=e;unfold hashByValue;refine My (SX f F.slot_tuple_hash.lookup ?_);simp only;refine My (R1 g hd ?_);refine My ?_;show Qi _ _ (forIn b _ _) _ _ s;rw[←T5];refine VU _ (λrest r s'=>r.1=PH/\s'=s/\∀v∈rest,∃n t,v=TD n t) _ ?_ ?_ _ _ ⟨rfl,rfl,items_int i⟩
 ·rintro v rest r s' ⟨c,rfl,a⟩
  obtain⟨n,t,rfl⟩:=a v PZ;unfold hashByValue;refine My (PL ?_);simp only[Ry,Qd,QX];exact PL ⟨rfl,rfl,λu d=>a u (PN _ d)⟩
 ·rintro⟨r1,l⟩ s' ⟨c,rfl,_⟩
  simp only at c;subst c;exact PL h
theorem KU(f:(IKd prog w).is s.heap k x):∀(l:List (List Int×PX)) {Q:Bool->P7->Prop},(∀y∈l,(IKd prog w).is s.heap y.1 y.2)->Q PU s->Qi (QA prog w) A (W4 (.ref x) (l.map λy=>Qs y.2)) Q E s:=by
 intro l Q h i;unfold W4;refine My ?_;refine VU _ (λrest r s'=>r.1=PH/\s'=s/\∃b:List (List Int×PX),rest=b.map (λy=>Qs y.2)/\∀y∈b,(IKd prog w).is s.heap y.1 y.2) _ ?_ ?_ _ _ ⟨rfl,rfl,l,rfl,h⟩
 ·rintro v rest r s' ⟨d,rfl,b,e,a⟩
  cases b with
  |nil=>cases e
  |cons y b=>
   cases e;have g:=a y PZ;have nxt:(PH:Option Bool)=PH/\s'=s'/\∃c:List (List Int×PX),b.map (λy=>Qs y.2)=c.map (λy=>Qs y.2)/\∀y∈c,(IKd prog w).is s'.heap y.1 y.2:=⟨rfl,rfl,b,rfl,λu j=>a u (PN y j)⟩;by_cases q:x==y.2
   ·simp only[q,Bool.true_or,QY]
    exact PL nxt
   ·simp only[q,Bool.false_or,carriedByValue,Ui,Qd,QX]
    refine My ((IKd prog w).quiet f ?_);simp only[Ry,Qd,QX];refine My ((IKd prog w).quiet g ?_);simp only[Ry,Qd,QX];refine My (u5 f ?_);simp only[Qd,QX];refine My (u5 g ?_);simp only[Qd,QX];exact PL nxt
 ·rintro⟨r1,m⟩ s' ⟨d,rfl,_⟩
  simp only at d;subst d;exact PL i
theorem zd{o:Qy}{es:Array (Int×PY)}{t:Q8}{xs:List (List Int×PX)}(hu:A.units<Vr)(ho:s.heap.get? a=on o)(hd:o.data= .set es ep t)
  (F:es.toList=xs.map λx=>(hsh prog w x.1,Qs x.2)) (hx:∀x∈xs,(IKd prog w).is s.heap x.1 x.2) (T:Tb t (xs.map λx=>hsh prog w x.1)) (hk:(IKd prog w).is s.heap k b)
  (he:e<10*turns t.mask) (R:¬Lv t (itr t e (t.probeStart (hsh prog w k))).j) (ha:∀m<e,Lv t (itr t m (t.probeStart (hsh prog w k))).j)
  (q1:k∈xs.map (·.1)->Q (.there PH) s) (q2:k∉xs.map (·.1)->Q (.free (itr t e (t.probeStart (hsh prog w k))).j PU) s):
  ∀(n c m:Nat) (st:Option Probe),e=m+n->n<c->st.getD (t.probeStart (hsh prog w k))=itr t m (t.probeStart (hsh prog w k))->(∀g<m,∀(i:Nat) x,t.place[i]?=on (itr t g (t.probeStart (hsh prog w k))).j->xs[i]?=on x->x.1≠k)->
   Qi (QA prog w) A (setSearchFrom a (.ref b) (hsh prog w k) PP c st) Q E s:=by
 have hsz:es.size=xs.length:=by rw[←QK,F,PF]
 have U:t.fits es.size=PP:=T.fits (by rw[PF,hsz]);have l:∀i:Nat,es[i]?=(xs[i]?).map λx=>(hsh prog w x.1,Qs x.2):=λi=>by rw[←Tj,F,PV]
 have gw:t.gaveWay=PU:=by
  have:=T.km.odd;unfold SetTable.gaveWay;rw[Xx];omega
 intro n
 induction n using WY with
 |_ n ih=>
  intro c m st em hfu hst p;cases c with
  |zero=>omega
  |succ c=>
   unfold setSearchFrom;refine My (RZ ho hd U ?_)
   dsimp only
   rw[hst,gw];simp only[Qd,QX];have v:=mD m (o5 t (hsh prog w k));have it:∀n',itr t n' (itr t m (t.probeStart (hsh prog w k)))=itr t (m+n') (t.probeStart (hsh prog w k)):=λn'=>(nX t m n' _).symm;have same:∀{i N j:Nat},t.place[i]?=on j->t.place[N]?=on j->i=N:=λ{i N j} u C=>by
    rcases Ts i N with q|q|q
    ·exact Qu (T.rs i N j j q u C) (Q4 j)
    ·exact q
    ·exact Qu (T.rs N i j j q C u) (Q4 j)
   split
   ·rename_i W heq
    obtain⟨g,hm',r,d⟩:=sM heq T v (e:=n) (by omega) (by rw[it,←em];exact R);rcases d with⟨X,H⟩|⟨i,O,hfi,H⟩
    ·cases H
     have Y:g=n:=by
      rcases UX g n with q|q
      ·rw[it]at X
       exact Qu (ha (m+g) (by omega)) X
      ·omega
     subst Y;refine PL ?_;rw[it,←em];refine q2 λZ=>?_;obtain⟨x,hx1,I⟩:=Qc.mp Z;obtain⟨B,hi0,ei0⟩:=V6 hx1;have h:xs[B]?=on x:=by rw[PM hi0,ei0]
     have J:B<t.place.size:=by have:=T.sz;rw[PF]at this;omega
     obtain⟨n0,a1,a2⟩:=T.rch B (hsh prog w k) t.place[B] (by rw[PV,h,←I];rfl) (getElem?_pos t.place B J);have hlt:n0<e:=by
      rcases Ts n0 e with q|q|q
      ·exact q
      ·subst q
       exact Qu ⟨B,by rw[a1];exact getElem?_pos t.place B J⟩ R
      ·exact Qu (a2 e q) R
     have hp0:t.place[B]?=on (itr t n0 (t.probeStart (hsh prog w k))).j:=by rw[a1];exact getElem?_pos t.place B J
     by_cases q:n0<m
     ·exact p n0 q B x hp0 h I
     ·obtain⟨i,u,C⟩:=r (n0-m) (by omega)
      rw[it,show m+(n0-m)=n0 by omega]at u;have:=same u hp0;subst this;refine C ?_;show(es[i]?.map (·.1)).getD 0=_;rw[l,h,←I];rfl
    ·cases H
     have L:i<xs.length:=by
      have u:=(Ri.mp O).1;have:=T.sz;rw[PF]at this;omega
     have h:xs[i]?=on xs[i]:=PM L;have hei:es[i]?=on (hsh prog w xs[i].1,Qs xs[i].2):=by rw[l,h];rfl
     have hxk:=hx xs[i] (QO L);rw[it]at O;simp only;have el:(Q2 (λx=>x.snd) (Array.filter (λx=>x.fst==hsh prog w k) es).toList)=(xs.filter λy=>hsh prog w y.1==hsh prog w k).map λy=>Qs y.2:=by
      rw[Array.toList_filter,F,WO,P3];rfl
     rw[el];have seen:∀{Q':Bool->P7->Prop},Q' PU s->Qi (QA prog w) A (W4 (.ref b) ((xs.filter λy=>hsh prog w y.1==hsh prog w k).map λy=>Qs y.2)) Q' E s:=λhq=>KU hk _ (λy hy=>hx y (Sy.mp hy).1) hq;have sm:t.sameMemory t.moves t.mask=on PP:=by unfold sameMemory;simp
     have sl:t.slot (itr t (m+g) (t.probeStart (hsh prog w k))).j= .live i:=sE T.rs O;cases hled:t.led
     all_goals simp only[SH,Ry,Qd,QY,QX,it,hei]
     all_goals try refine My (seen ?_)
     all_goals try simp only[Qd,QX]
     all_goals
      refine My (RH ((IKd prog w).eqBool hu hxk hk (My (RZ ho hd U ?_))));simp only[T1];by_cases q:xs[i].1=k
      ·rw[P6 (Qn q)]
       exact PL (q1 (Qc.mpr ⟨xs[i],QO L,q⟩))
      ·rw[P0 (by simpa using q)]
       simp only[sm,QY,sl,hei];refine My ?_;unfold isSame;simp only[SE,QY];refine PL (My (PL ?_));simp only[QY];rw[P0 (by simpa using q)];have Y:g<n:=by
        rcases UX g n with z|z
        ·exact z
        ·obtain rfl:g=n:=by omega
         rw[←em]at O;exact Qu ⟨i,O⟩ R
       refine ih (n-(g+1)) (by omega) c (m+g+1) _ (by omega) (by omega) rfl λm2 hm2 i2 x2 u C z=>?_;by_cases q1:m2<m
       ·exact p m2 q1 i2 x2 u C z
       ·by_cases q2:m2=m+g
        ·subst q2
         have:=same O u;subst this;rw[h]at C;cases C;exact q z
        ·obtain⟨i3,h3,h4⟩:=r (m2-m) (by omega)
         rw[it,show m+(m2-m)=m2 by omega]at h3;have:=same h3 u;subst this;refine h4 ?_;show(es[i3]?.map (·.1)).getD 0=_;rw[l,C,←z];rfl
   ·rename_i hno
    have key:∀f:Nat->Int,(∀W,t.probe f (hsh prog w k) (itr t m (t.probeStart (hsh prog w k)))=on W->False)->False:=λf U=>by
     obtain⟨g,hm',r,d⟩:=sM (f:=f) rfl T v (e:=n) (by omega) (by rw[it,←em];exact R);rcases d with⟨_,H⟩|⟨i,_,_,H⟩
     ·exact U _ H
     ·exact U _ H
    exact(key _ hno).elim
theorem O7{P:Nat->Prop}:∀n,P n->∃m,m<=n/\P m/\∀k<m,¬P k:=by
 intro n
 induction n using WY with
 |_ n ih=>
  intro h;by_cases q:∃k,k<n/\P k
  ·obtain⟨k,a,b⟩:=q
   obtain⟨m,d,c⟩:=ih k a b;exact⟨m,by omega,c⟩
  ·exact⟨n,P5 n,h,λk a b=>q ⟨k,a,b⟩⟩
def rZ(prog:QD)(w:QS)(h:Rl)(a:PX)(xs:List (List Int×PX)):Prop:=
 ∃o es ep t,h.get? a=on o/\o.ExactSet/\o.data= .set es ep t/\(es.toList=xs.map λx=>(hsh prog w x.1,Qs x.2))/\(xs.map (·.1)).Nodup/\(∀x∈xs,(IKd prog w).is h x.1 x.2)/\(Tb t (xs.map λx=>hsh prog w x.1))/\t.plain=PP/\t.led=!(w.params.followText "set-order")
theorem pJ{h h':Rl}{o:Qy}{es ep t}(x:(IKd prog w).is h k b)(i:h.get? a=on o)(hd:o.data= .set es ep t)(hs:QE a h h'):(IKd prog w).is h' k b:=by
 obtain⟨g,c,n,e,j,d,l⟩:=x;have f:b≠a:=by
  rintro rfl;obtain rfl:g=o:=QB (e.symm.trans i);rw[hd]at d;exact nomatch d
 exact⟨g,c,n,(hs.2 b f).trans e,j,d,l⟩
theorem sy{h:Rl}{o:Qy}(c:h.get? a=on o)(hd:o.data= .set es ep t)(b:Array (Int×PY))(t':Q8):(h.update a (VO b t')).get? a=on {o with data:= .set b (ep+1) t'}:=by
 have:=Tp (VO b t') c (by rw[putSet_of b t' hd];rfl);rw[putSet_of b t' hd]at this;exact this
theorem Mf{t:Q8}(T:Tb t hs)(j:Nat):(t.put j).1.dummies=#[]/\(t.put j).1.place.size=t.place.size+1/\(t.put j).2<=t.place.size:=by
 obtain⟨b1,b2,b3⟩:=jf (j:=j) T.rs;have hd:has t.dummies j=PU:=by unfold has;rw[T.du];rfl
 refine⟨?_,gi b1,b1⟩;show(if has t.dummies j=PP then _ else t.dummies)=#[];rw[hd,P0 P8,T.du]
theorem Lc{α β:Type}{xs:List α}{ys:Array β}{f:α->β}(e:ys.toList=xs.map f){p:Nat}(c:p<=ys.size)(x:α):(insertAt ys p (f x)).toList=(xs.take p++x::xs.drop p).map f:=by
 unfold insertAt;simp only[Array.toList_append,YK,Array.toList_extract];have a:(ys.toList.extract 0 p)=ys.toList.take p:=by simp[List.extract]
 have b:(ys.toList.extract p ys.size)=ys.toList.drop p:=by
  simp only[List.extract];rw[RA (by simp)]
 rw[a,b,e,QG,Qb,Uy,Ux,Q9];rfl
theorem Oo{xs:List (List Int×PX)}(hu:A.units<Vr)(S:rZ prog w s.heap a xs)(hk:(IKd prog w).is s.heap k b)(hn:xs.length<63)
  (h:∀h' q,QE a s.heap h'->rZ prog w h' a q->(k∈xs.map (·.1)->q=xs)->(k∉xs.map (·.1)->q.Perm ((k,b)::xs))->Q (decide (k∉xs.map (·.1))) {s with heap:=h'}):
  Qi (QA prog w) A (setAddHashed a (.ref b) (hsh prog w k)) Q E s:=by
 have S0:=S;obtain⟨o,es,ep,t,U,X,hd,W,hnd,hx,T,hp,J⟩:=S;have F:es.size=xs.length:=by rw[←QK,W,PF]
 have hf:t.fits es.size=PP:=T.fits (by rw[PF,F]);have Y:t.place.size=xs.length:=by rw[T.sz,PF]
 obtain⟨e0,he0,hl0⟩:=T.free (o5 t (hsh prog w k));obtain⟨e,hee,hl,Z⟩:=O7 (P:=λe=>¬Lv t (itr t e (t.probeStart (hsh prog w k))).j) e0 hl0;have ha:∀m<e,Lv t (itr t m (t.probeStart (hsh prog w k))).j:=λm hm=>Classical.not_not.mp (Z m hm);have hmk:=T.km.odd;unfold setAddHashed setAddHashedIn;refine RH (My (RZ U hd hf ?_));have hb:byScan (Qs b) es=PU:=rfl;simp only[hb,Qd,QX];refine My ?_;unfold setSearch;refine zd (e:=e) hu U hd W hx T hk (by omega) hl ha (λhm=>?_) (λhm=>?_) e 100000 0 PH (by omega) (by unfold turns at he0;omega) rfl (λm' hm'=>Qu hm' (Sz _))
 ·refine PL ?_
  have:=h s.heap xs (QE.refl a s.heap) S0 (λ_=>rfl) (λz=>Qu hm z);rw[QP (λz=>z hm)]at this;exact this
 ·have hQ:∀h' q,QE a s.heap h'->rZ prog w h' a q->q.Perm ((k,b)::xs)->Q PP {s with heap:=h'}:=λh' q h1 h2 h3=>by
   have:=h h' q h1 h2 (λz=>Qu z hm) (λ_=>h3);rwa[Qn hm]at this
  simp only;refine My (RZ U hd hf ?_);generalize hj:(itr t e (t.probeStart (hsh prog w k))).j=j at hl;obtain⟨pd,ps,pl⟩:=Mf T j;generalize y:t.put j=tp at pd ps pl;obtain⟨u,p⟩:=tp;simp only at pd ps pl⊢;have l:u.plain=PP:=by
   have:(t.put j).1.plain=t.plain:=rfl;rw[y]at this;rw[this,hp]
  have L:u.led=t.led:=by
   have:(t.put j).1.led=t.led:=rfl;rw[y]at this;exact this
  have v:u.mask=t.mask:=by
   have:(t.put j).1.mask=t.mask:=rfl;rw[y]at this;exact this
  rw[l];simp only[QY];refine My (EY hk ?_);simp only[QY];have N:=Lc (f:=λx:List Int×PX=>(hsh prog w x.1,Qs x.2)) W (p:=p) (by omega) (k,b);have B:(insertAt es p (hsh prog w k,Qs b)).size=es.size+1:=gi (by omega);have d:(xs.take p++(k,b)::xs.drop p).Perm ((k,b)::xs):=by
   have:=List.perm_middle (a:=(k,b)) (l₁:=xs.take p) (l₂:=xs.drop p);rwa[SJ]at this
  have nd1:((xs.take p++(k,b)::xs.drop p).map (·.1)).Nodup:=by
   refine(d.map (·.1)).nodup_iff.mpr ?_;rw[Qb,QW];exact⟨hm,hnd⟩
  refine My (wpAny_storeSet_of U hd ?_ (by rw[B,Si];omega));have H:=RI s.heap a (VO (insertAt es p (hsh prog w k,Qs b)) u);have g1:=sy U hd (insertAt es p (hsh prog w k,Qs b)) u;have hx1:∀x∈xs.take p++(k,b)::xs.drop p,(IKd prog w).is (s.heap.update a (VO (insertAt es p (hsh prog w k,Qs b)) u)) x.1 x.2:=λx hx'=>by
   rcases Qf.mp (d.mem_iff.mp hx')with rfl|hx'
   ·exact pJ hk U hd H
   ·exact pJ (hx x hx') U hd H
  by_cases r:u.tooFull=PP
  ·simp only[r,SH,Uu,QY]
   have fu:u.fill*5≥u.mask*3:=by unfold tooFull at r;exact SQ r
   have fe:u.fill=xs.length+1:=by unfold fill;rw[pd,ps,Y];rfl
   have nf0:=T.nf;have f1:u.fits (insertAt es p (hsh prog w k,Qs b)).size=PP:=by
    unfold WT;rw[B,fe,ps,Y,F,v];simp;omega
   have wm:Mk (sizeAbove (grown (es.size+1))-1)/\(es.size+1)*5<(sizeAbove (grown (es.size+1))-1)*3/\sizeAbove (grown (es.size+1))<=128:=by
    rw[fe,v]at fu;rw[F];rcases T.km with z|z|z
    ·have:xs.length=4:=by omega
     rw[this];exact⟨.inr (.inl (by decide)),by decide,by decide⟩
    ·have:xs.length=18:=by omega
     rw[this];exact⟨.inr (.inr (by decide)),by decide,by decide⟩
    ·omega
   have C:(Array.map (λx=>x.fst) (insertAt es p (hsh prog w k,Qs b))).size=es.size+1:=by rw[Array.size_map,B]
   obtain⟨t2,c,er,op,T2,led2,I⟩:=zu (t:=u) (hs:=(insertAt es p (hsh prog w k,Qs b)).map (·.1)) (wanted:=grown (es.size+1)) wm.1 (by rw[C];exact wm.2.1);refine My ?_;unfold setRelay;refine My (RZ g1 rfl f1 ?_);simp only;rw[P0 (by rw[Si];omega)];rw[er];generalize hE1:insertAt es p (hsh prog w k,Qs b)=es1 at*;generalize hX1:xs.take p++(k,b)::xs.drop p=xs1 at*;have l1:xs1.length=es.size+1:=by rw[d.length_eq,Qa,F]
   have O:∀i,i<xs1.length->es1[i]?=on (hsh prog w (xs1.getD i (k,b)).1,Qs (xs1.getD i (k,b)).2):=λi R=>by
    rw[←Tj,N,PV,PM R,PR,PM R];rfl
   have om:∀i∈c.toList,i<xs1.length:=λi R=>by
    have:=Qq.mp (op.mem_iff.mp R);rw[C]at this;omega
   have efl:(c.filterMap λx=>es1[x]?).toList=(c.toList.map λi=>xs1.getD i (k,b)).map λx=>(hsh prog w x.1,Qs x.2):=by
    rw[Array.toList_filterMap,vG (g:=λi=>(hsh prog w (xs1.getD i (k,b)).1,Qs (xs1.getD i (k,b)).2)) λi R=>O i (om i R),P3];rfl
   have n:(c.toList.map λi=>xs1.getD i (k,b)).Perm xs1:=by
    refine(op.map _).trans (Wg ?_);rw[C,←l1];refine Sa (by simp) λi h1 h2=>?_;rw[S5,Ta,PR,PM h2];rfl
   have fsz:(c.filterMap λx=>es1[x]?).size=es1.size:=by
    rw[←QK,efl,PF,n.length_eq,l1,B]
   refine My ?_;show Qi _ _ (if((c.filterMap λx=>es1[x]?).size !=es1.size)=PP then _ else _) _ _ _;rw[P0 (by rw[fsz];simp)];refine PL ?_;refine wpAny_storeSet_of g1 rfl ?_ (by rw[fsz,B,Si];omega);have sb2:=RI (s.heap.update a (VO es1 u)) a (VO (c.filterMap λx=>es1[x]?) t2);have g2:=sy g1 rfl (c.filterMap λx=>es1[x]?) t2;refine PL (hQ _ (c.toList.map λi=>xs1.getD i (k,b)) (H.trans sb2) ⟨_,_,_,t2,g2,X,rfl,efl,?_,λx hx'=>?_,?_,by rw[I,l],by rw[led2,L,J]⟩ (n.trans d))
   ·exact(n.map (·.1)).nodup_iff.mpr nd1
   ·exact pJ (hx1 x (n.mem_iff.mp hx')) g1 rfl sb2
   ·have eh:(c.toList.map λi=>xs1.getD i (k,b)).map (λx=>hsh prog w x.1)=c.toList.map λi=>(es1.map (·.1)).getD i 0:=by
     rw[P3];refine Qx λi R=>?_;have h1:=O i (om i R);have h2:(es1.map (·.1))[i]?=on (hsh prog w (xs1.getD i (k,b)).1):=by rw[Array.getElem?_map,h1];rfl
     have h3:=(Ri.mp h2);obtain⟨h4,h5⟩:=h3;simp only[U1];rw[←h5];simp[SV,h4];omega
    rw[eh];exact T2
  ·simp only[r,SH,Bool.and_false,QX,T1,Qd]
   refine PL (hQ _ (xs.take p++(k,b)::xs.drop p) H ⟨_,_,_,u,g1,X,rfl,N,nd1,hx1,?_,l,by rw[L,J]⟩ d);have nf:(t.place.size+1)*5<t.mask*3:=by
    have:¬(u.fill*5≥u.mask*3):=by
     intro z;exact r (by unfold tooFull;exact Qn z)
    unfold fill at this;rw[pd,ps,v]at this;simp at this;omega
   have:=(T.put (h:=hsh prog w k) hl hj (by exact ha) nf).2.2.2.2;rw[y]at this;rw[QG,Qb,Uy,Ux];exact this
end
namespace F2
theorem si_next:Slot "set_iterator" "__next__" "set_iterator.__next__":= .of (owner:="set_iterator") (n:="__next__") (by rw[Xz,Wb];kernel_rfl) (by decide +kernel) (by decide +kernel) (by decide +kernel)
  (by first|exact .inl (by decide +kernel)|exact .inr (by decide +kernel)) (by rw[Vs];kernel_rfl)
theorem si_iter:Slot "set_iterator" "__iter__" "set_iterator.__iter__":= .of (owner:="set_iterator") (n:="__iter__") (by rw[Xz,Wb];kernel_rfl) (by decide +kernel) (by decide +kernel) (by decide +kernel)
  (by first|exact .inl (by decide +kernel)|exact .inr (by decide +kernel)) (by rw[Vs];kernel_rfl)
theorem ent_next:entryFor table "set_iterator.__next__"=on Builtin.«set_iterator.__next__»:=entryFor_of_tree (by kernel_rfl)
theorem ent_iter:entryFor table "set_iterator.__iter__"=on Builtin.«dict_keyiterator.__iter__»:=X3 (id':="dict_keyiterator.__iter__") (by kernel_rfl) rfl (by decide +kernel) (by kernel_rfl)
theorem ent_set_iter:entryFor table "set.__iter__"=on Builtin.«frozenset.__iter__»:=X3 (id':="frozenset.__iter__") (by kernel_rfl) rfl (by decide +kernel) (by kernel_rfl)
theorem args_next(a:PY):argsOk "set_iterator.__next__" ⟨[a],[]⟩:=by unfold argsOk;kernel_rfl
theorem args_iter(a:PY):argsOk "set_iterator.__iter__" ⟨[a],[]⟩:=by unfold argsOk;kernel_rfl
end F2
theorem qI{α:Type}:∀{l:List α} {i:Nat} (h:i<l.length),(l[i]::l.eraseIdx i).Perm l
 |[],i,h=>Qu h (Sz i)
 |a::l,0,h=> .refl _
 |a::l,i+1,h=>by
  show(l[i]'(by simpa using h)::a::l.eraseIdx i).Perm (a::l);exact(List.Perm.swap _ _ _).trans ((qI (by simpa using h)).cons a)
theorem wI{α:Type}(next:Nat->Nat):∀(fuel k:Nat) (left:List α) (a:Array α),left.length<=fuel->(W3 next fuel k left a).toList.Perm (a.toList++left)
 |0,k,left,a,h=>by
  have:left=[]:=S6.mp (by omega);subst this;unfold W3;rw[QC]
 |fuel+1,k,left,a,h=>by
  unfold W3;cases left with
  |nil=>simp
  |cons c d=>
   have b:next k % (c::d).length<(c::d).length:=Xe _ (by simp)
   rw[PM b];simp only;refine(wI next fuel (k+1) _ _ (by rw[List.length_eraseIdx_of_lt b];omega)).trans ?_
   rw[YK,Q9];exact List.Perm.append_left _ (qI b)
theorem zD{α:Type}(next:Nat->Nat)(xs:Array α):(Xi next xs).toList.Perm xs.toList:=by
 unfold Xi;refine(wI next xs.size 0 xs.toList #[] (by simp)).trans ?_
 simp
section
variable{prog:QD}{w:QS}{A:Rg}{E:PY->P7->Prop}{s:P7}
noncomputable def dS(w:QS)(a:PX)(ep:Nat)(es:Array (Int×PY)):Array (Int×PY):=if w.params.followText "set-order"=PP then Xi (w.params.setOrder a ep) es else es
theorem k7(w:QS)(a:PX)(ep:Nat)(es:Array (Int×PY)):(dS w a ep es).toList.Perm es.toList:=by
 unfold dS;split
 ·exact zD _ _
 ·exact .refl _
structure SIt (w:QS) (h:Rl) (I a:PX) (es:Array (Int×PY)) (ep:Nat) (t:Q8) (i:Nat):Prop where
 st:∃o,h.get? a=on o/\o.data= .set es ep t
 it:∃(o:Qy) (sl:Nat),h.get? I=on o/\o.cls= .type "set_iterator"/\o.data= .fields #[.int sl 0,.int i 0,.ref a,.int es.size 0,.int ep 0]/\(w.params.followText "set-order"=PU->below t.place sl=i)
theorem mR{M:Model}(h:Q (M.w.params.followText "set-order") s):Qi M A setsByText Q E s:=by
 unfold setsByText;exact My (UQ (PL h))
theorem zQ{es:Array (Int×PY)}{t:Q8}{e:Int×PY}(T:Tb t hs)(h:t.fits es.size=PP)(H:t.plain=PP)(J:t.led=!(w.params.followText "set-order"))(x:SIt w s.heap I a es ep t i)(k:I≠a)(l:(dS w a ep es)[i]?=on e)
  (L:∀h',SIt w h' I a es ep t (i+1)->QE I s.heap h'->Q (on e.2) {s with heap:=h'}):Qi (QA prog w) A (UC (.ref I)) Q E s:=by
 obtain⟨⟨N,b,c⟩,o,U,n,u,hd,p⟩:=id x;have y:s.TypeIs (.ref I) "set_iterator":=⟨o,n,u⟩;unfold UC;refine My (UW (wpAny_callSpecial?_slot (name:=Su "__next__") y F2.si_next (Q1 F2.si_next y F2.ent_next ?_ (F2.args_next _))));unfold Builtin.«set_iterator.__next__»;refine My (PL ?_);refine My (Wm n hd ?_);simp only;refine My (WA b c h ?_);simp only[Tk,Qd,QX];refine My ?_;simp only[Rz]
 have d:∀nx:Nat,(w.params.followText "set-order"=PU->below t.place nx=i+1)->Qi (QA prog w) A.in1 (do
    X9 (Qs I) 0 (UD nx)
    X9 (Qs I) 1 (UD (i+1))
    ret e.2) (λd s'=>∃v,d=Fin.done (Flow.ret v)/\Qi (QA prog w) A (SB (on v)) Q E s') (λe s'=>Qi (QA prog w) A (do
     if(←WI e (SW "StopIteration"))=PP then SB PH else throw e) Q E s') s:=λnx r=>by
  refine My (UE n hd (by simp) ?_);have B:(s.heap.update I (Obj.mapFields (·.setIfInBounds 0 (UD nx)))).get? I=on _:=Tp _ n (VT (Sk hd _));refine My (UE B (Sk hd _) (by simp) ?_);refine PL ⟨_,rfl,PL (L _ ⟨⟨N,?_,c⟩,⟨_,nx,Tp _ B (VT (Sk (Sk hd _) _)),?_,?_,r⟩⟩ ((RI ..).trans (RI ..)))⟩
  ·rw[SY _ _ _ _ (Ne.symm k),SY _ _ _ _ (Ne.symm k)];exact b
  ·rw[Wz,Wz];exact u
  ·rw[Sk (Sk hd _)];simp[UD]
 unfold setNext;refine My (RZ b c h (My (mR ?_)));have C:(QA prog w).w=w:=rfl;rw[C];cases q:w.params.followText "set-order"
 ·have f:dS w a ep es=es:=by unfold dS;rw[q];rfl
  rw[f]at l;have O:=p q;have W:=(Ri.mp l).1;simp only[Qd,QX];have R:t.place.size=es.size:=by
   unfold WT at h;simp only[QI,TX,QR]at h;exact h.1
  rw[P0 (λz=>by
   have F:(!t.plain&&decide (es.size>1))=PP:=z;rw[H]at F;cases F)]
  refine My ?_;show Qi _ _ (if(!t.led&&!es.isEmpty)=PP then _ else _) _ _ _;rw[P0 (by rw[J,q];exact P8)];refine PL (PL ?_);have g:t.place[i]?=on t.place[i]:=getElem?_pos t.place i (by omega);rw[O,l,g];simp only;refine d _ λ_=>?_;obtain⟨b1,b2,b3⟩:=jf (j:=t.place[i]+1) T.rs;rcases Ts (below t.place (t.place[i]+1)) (i+1)with z|z|z
  ·have:=b3 i _ (by omega) g
   omega
  ·exact z
  ·have m:t.place[i+1]?=on t.place[i+1]:=getElem?_pos t.place (i+1) (by omega)
   have X:=b2 (i+1) _ z m;have Y:=T.rs i (i+1) _ _ (by omega) g m;omega
 ·have f:dS w a ep es=Xi (w.params.setOrder a ep) es:=by unfold dS;rw[q];rfl
  rw[f]at l;simp only[QY,Tk,Qd,QX];refine My ?_;unfold setWalk;refine My (RZ b c h (My (mR ?_)));rw[C,q];simp only[QY];refine My (UQ (PL ?_));refine PL ?_;rw[show((QA prog w).w.params.setOrder a ep)=w.params.setOrder a ep from rfl,l];simp only[Rb];exact d _ λz=>by rw[q]at z;cases z
theorem DL{es:Array (Int×PY)}{t:Q8}(r:A.handled=PH)(T:Tb t hs)(g:t.fits es.size=PP)(u:t.plain=PP)(y:t.led=!(w.params.followText "set-order"))(x:SIt w s.heap I a es ep t es.size)
  (B:∀h',WF I s.heap h'->Q PH {s with heap:=h'}):Qi (QA prog w) A (UC (.ref I)) Q E s:=by
 obtain⟨⟨F,d,f⟩,o,H,h,C,hd,i⟩:=id x;have l:s.TypeIs (.ref I) "set_iterator":=⟨o,h,C⟩;unfold UC;refine My (UW (wpAny_callSpecial?_slot (name:=Su "__next__") l F2.si_next (Q1 F2.si_next l F2.ent_next ?_ (F2.args_next _))));unfold Builtin.«set_iterator.__next__»;refine My (PL ?_);refine My (Wm h hd ?_);simp only;refine My (WA d f g ?_);simp only[Tk,Qd,QX];refine My ?_;simp only[Rz]
 have c:Qi (QA prog w) A.in1 (do
    X9 (Qs I) 2 Rc
    let e ←Zi (SW "StopIteration") []
    (raiseNew e:Sem Fin)) (λc s'=>∃v,c=Fin.done (Flow.ret v)/\Qi (QA prog w) A (SB (on v)) Q E s') (λe s'=>Qi (QA prog w) A (do
     if(←WI e (SW "StopIteration"))=PP then SB PH else throw e) Q E s') s:=by
  refine My (UE h hd (by simp) ?_);refine My ?_;simp only[Zi,newTuple];refine My (Rt ?_ (by size_fits));refine My (m:=UA _ _) (TZ (a:=Rc) (by first|rfl|(simp only[UA];rfl)) ?_)
  refine Rt ?_ (by size_fits);simp only[raiseNew];refine My (YJ ?_);rw[show A.in1.handled=PH from r];refine My (PL (wpAny_throw ?_));refine My (SL (T:="StopIteration") (b:=PP) ⟨_,Qj _ rfl,rfl⟩ X5 ?_);exact PL (B _ (((RI ..).extBut.push _).push _))
 unfold setNext;refine My (RZ d f g (My (mR ?_)));have n:(QA prog w).w=w:=rfl;rw[n];have j:(dS w a ep es).size=es.size:=by rw[←QK,(k7 w a ep es).length_eq,QK]
 cases q:w.params.followText "set-order"
 ·simp only[Qd,QX]
  rw[P0 (λz=>by
   have p:(!t.plain&&decide (es.size>1))=PP:=z;rw[u]at p;cases p)]
  refine My ?_;show Qi _ _ (if(!t.led&&!es.isEmpty)=PP then _ else _) _ _ _;rw[P0 (by rw[y,q];exact P8)];refine PL (PL ?_);rw[i q,S9 (P5 _)];exact c
 ·have k:dS w a ep es=Xi (w.params.setOrder a ep) es:=by unfold dS;rw[q];rfl
  simp only[QY,Tk,Qd,QX];refine My ?_;unfold setWalk;refine My (RZ d f g (My (mR ?_)));rw[n,q];simp only[QY];refine My (UQ (PL ?_));refine PL ?_;rw[show((QA prog w).w.params.setOrder a ep)=w.params.setOrder a ep from rfl,←k,S9 (by rw[j];exact P5 _)];exact c
theorem SIt.at{h h':Rl}(x:SIt w h I a es ep t i)(k:∀b,b=I\/b=a->∀o,h.get? b=on o->h'.get? b=on o):SIt w h' I a es ep t i:=by
 obtain⟨⟨e,c,d⟩,o,f,g,r⟩:=x;exact⟨⟨e,k a (.inr rfl) e c,d⟩,o,f,k I (.inl rfl) o g,r⟩
theorem BW(q:A.handled=PH){es:Array (Int×PY)}{t:Q8}(T:Tb t hs)(l:t.fits es.size=PP)(m:t.plain=PP)(n:t.led=!(w.params.followText "set-order"))(f:I≠a):
  Walks prog w A I [I,a] [I] es.size (λi v=>∃e,(dS w a ep es)[i]?=on e/\v=e.2) (λi h=>SIt w h I a es ep t i) where
 sub:=λb c=>by simp at c;simp[c]
 frame:=λ_ _ _ st r=>st.at λb c o e=>r b (by simpa using c) o e
 item:=λi s Q E L st d=>by
  have u:(dS w a ep es).size=es.size:=by rw[←QK,(k7 w a ep es).length_eq,QK]
  have p:(dS w a ep es)[i]?=on (dS w a ep es)[i]:=getElem?_pos _ i (by omega);exact zQ T l m n st f p λh' g y=>d _ h' s.toks ⟨_,p,rfl⟩ g λb o c e=>y.extBut b o (λh=>c (by simp[h])) e
 done:=λs Q E st d=>DL q T l m n st λh' j=>d h' s.toks λb o c e=>j b o (λh=>c (by simp[h])) e
 self:=λi s Q E st d=>by
  obtain⟨⟨N,B,C⟩,o,O,F,H,hd,J⟩:=st;have k:s.TypeIs (.ref I) "set_iterator":=⟨o,F,H⟩;refine VJ k F2.si_iter (Q1 F2.si_iter k F2.ent_iter ?_ (F2.args_iter _));show Qi _ _ (ret (.ref I)) _ _ s;exact PL ⟨_,rfl,"set_iterator",_,k,F2.si_next.lookup,d⟩
end
end L2.Hs
namespace L2.Hs
open PySem PySem.SetTable PyProof.Rows
section
variable{prog:QD}{w:QS}{A:Rg}{E:PY->P7->Prop}{s:P7}
theorem EC{o:Qy}{es:Array (Int×PY)}{t:Q8}(b:s.heap.get? a=on o)(f:o.cls= .type "set")(hd:o.data= .set es ep t)(c:t.fits es.size=PP)(g:t.plain=PP)
  (h:Q (.ref s.heap.objs.size) {s with heap:=s.heap.push {cls:= .type "set_iterator",data:= .fields #[.int (0:Nat) 0,.int (0:Nat) 0,.ref a,.int es.size 0,.int ep 0]}}):Qi (QA prog w) A (Wl (.ref a)) Q E s:=by
 have d:s.TypeIs (.ref a) "set":=⟨o,b,f⟩;refine VJ d F.slot_set_iter (Q1 F.slot_set_iter d F2.ent_set_iter ?_ (F.args_set_iter_1 _));unfold Builtin.«frozenset.__iter__»;refine My (TZ (a:=a) rfl ?_);refine My (My (WA b hd c (PL ?_)));refine My ?_;unfold setDrawn;refine My (RZ b hd c (My (mR (PL ?_))));rw[P0 (λz=>by
  have e:(!((QA prog w).w.params.followText "set-order")&&(!t.plain&&decide (es.size>1)))=PP:=z;rw[g]at e;simp at e)]
 refine My (PL ?_);refine My (wpAny_setEpoch_of b hd c ?_);unfold newFields;refine My (Rt (PL ⟨_,rfl,"set_iterator",_,⟨_,Qj _ rfl,rfl⟩,F2.si_next.lookup,?_⟩));exact h
theorem v9{o:Qy}{es:Array (Int×PY)}{t:Q8}(hh:A.handled=PH)(U:s.heap.get? a=on o)(B:o.cls= .type "set")(hd:o.data= .set es ep t)(T:Tb t hs)(X:t.fits es.size=PP)(Y:t.plain=PP)(hl:t.led=!(w.params.followText "set-order"))
  (hsz:es.size<=1000)
  (hQ:∀h' Z vs,(∀b o,s.heap.get? b=on o->h'.get? b=on o)->s.heap.objs.size<=h'.objs.size->s.toks<=Z->vs.Perm (es.toList.map (·.2))->Q vs {s with heap:=h',toks:=Z}):Qi (QA prog w) A (collect (.ref a)) Q E s:=by
 unfold collect;refine My (wpAny_runValue (Xy F.entry_proto_collect ?_));rw[XD F.plain_proto_collect _];show Qi _ A.in1 (newList []>>=λl=>Xq (.builtin "list.__iadd__" ⟨[l,.ref a],[]⟩)) _ _ s;refine My (Rt ?_);refine PL ⟨plainId_quiet F.plain_list_iadd _,Xy F.entry_list_iadd ?_⟩;rw[XD F.plain_list_iadd _];have ha:=Qz U;have g:(s.heap.push {cls:= .type "list",data:= .seq ([]:List PY).toArray}).get? a=on o:=PQ _ U;have C:(s.heap.push {cls:= .type "list",data:= .seq ([]:List PY).toArray}).get? s.heap.objs.size=on {cls:= .type "list",data:= .seq ([]:List PY).toArray}:=Qj _ rfl;have r:s.heap.objs.size≠a:=Te ha;have y:Wp (.ref s.heap.objs.size) (.ref a)=PU:=by simp[Wp,r]
 have H:(⟨s.heap.push {cls:= .type "list",data:= .seq ([]:List PY).toArray},s.gens,s.drawn,s.toks,s.os⟩:P7).TypeIs (.ref a) "set":=⟨o,g,B⟩;show Qi _ A.in1 (V9 (.ref s.heap.objs.size) (.ref a) (.ref s.heap.objs.size)) _ _ _;unfold V9;refine My (wpAny_typeOf H ?_);rw[P0 (by rw[y];decide)];refine My (EC g B hd X Y ?_);refine My (RH ?_);unfold Builtin.List.listLengthHint;have n:(⟨(s.heap.push {cls:= .type "list",data:= .seq ([]:List PY).toArray}).push {cls:= .type "set_iterator",data:= .fields #[.int (0:Nat) 0,.int (0:Nat) 0,.ref a,.int es.size 0,.int ep 0]},s.gens,s.drawn,s.toks,s.os⟩:P7).TypeIs (.ref a) "set":=⟨o,PQ _ g,B⟩;refine My (SX n F.slot_set_len.lookup ?_)
 (generalize u:("set.__len__":String)=id0;wp_delta;rw[show splitId id0=on ("set","__len__")from by subst u;decide +kernel];subst u)
 refine My (SL (b:=PP) n (by rw[Vs];kernel_rfl) ?_);rw[P0 (by decide)];show Qi _ _ (if _ then _ else _) _ _ _;rw[P6 (by decide)];refine My (wpAny_typeOf n ?_);refine PL ?_;rw[P6 (by decide)];refine My (T0 ?_);have eI:(s.heap.push {cls:= .type "list",data:= .seq ([]:List PY).toArray}).objs.size=s.heap.objs.size+1:=by rw[size_push']
 generalize h:(s.heap.push {cls:= .type "list",data:= .seq ([]:List PY).toArray}).push {cls:= .type "set_iterator",data:= .fields #[.int (0:Nat) 0,.int (0:Nat) 0,.ref a,.int es.size 0,.int ep 0]}=d;have gS:d.get? s.heap.objs.size=on (TF "list" #[] 0):=by rw[←h];exact PQ _ C
 have gI:d.get? (s.heap.objs.size+1)=on {cls:= .type "set_iterator",data:= .fields #[.int (0:Nat) 0,.int (0:Nat) 0,.ref a,.int es.size 0,.int ep 0]}:=by rw[←h,←eI];exact Qj _ rfl
 have ga:d.get? a=on o:=by rw[←h];exact PQ _ g
 have p:∀b f,s.heap.get? b=on f->d.get? b=on f:=λb f e=>by rw[←h];exact PQ _ (PQ _ e)
 unfold Builtin.List.listTouch;refine My (My (VP gS rfl ?_ (by show 0<=_;omega) (by show 1<=_;omega)));obtain⟨e1,g1⟩:∃e1,(d.update s.heap.objs.size (RV λxs=>xs.push Rc)).get? s.heap.objs.size=on (TF "list" #[Rc] e1):=⟨_,get?_update_seq gS λxs=>xs.push Rc⟩;refine VP g1 rfl ?_ (by show 1<=Qk;decide) (by show 0<=_;omega);obtain⟨J,g2⟩:∃J,((d.update s.heap.objs.size (RV λxs=>xs.push Rc)).update s.heap.objs.size (RV λxs=>xs.pop)).get? s.heap.objs.size=on (TF "list" #[] J):=⟨_,get?_update_seq g1 λxs=>xs.pop⟩;have c:∀b f,b≠s.heap.objs.size->d.get? b=on f->((d.update s.heap.objs.size (RV λxs=>xs.push Rc)).update s.heap.objs.size (RV λxs=>xs.pop)).get? b=on f:=λb f q e=>by
  rw[SY _ _ _ _ q,SY _ _ _ _ q];exact e
 generalize (d.update s.heap.objs.size (RV λxs=>xs.push Rc)).update s.heap.objs.size (RV λxs=>xs.pop)=h4 at g2 c;have L:s.heap.objs.size+1≠a:=Te (Vn ha);have st:SIt w h4 (s.heap.objs.size+1) a es ep t 0:=⟨⟨o,c a o (Ne.symm r) ga,hd⟩,_,0,c _ _ (by omega) gI,rfl,rfl,λ_=>by
  have:=jf (j:=0) T.rs;rcases Nat.eq_zero_or_pos (below t.place 0)with z|z
  ·exact z
  ·have e:=getElem?_pos t.place 0 (by omega)
   have:=this.2.1 0 _ z e;omega⟩
 have W:=BW (prog:=prog) (w:=w) (A:=A.in1) (I:=s.heap.objs.size+1) (a:=a) (ep:=ep) hh T X Y hl L;show Qi _ _ (Xq _) _ _ _;rw[eI];refine PL ⟨plainId_quiet F.plain_extend_loop _,codeAny_extend_loopS W.toS (by rw[Si];omega) s.heap.objs.size (by simp;omega) _ es.size 0 _ #[] J rfl (Rr _) st g2 (ItemsOf.nil _) λs' k c' hm v m=>?_⟩;show Qi _ A (load s.heap.objs.size>>=_) _ _ s';refine My (wpAny_load v ?_);refine PL ?_;have N:s'={s with heap:=s'.heap,toks:=s'.toks}:=by
  have y:=hm.gens;have d:=hm.drawn;have h3:=hm.os;obtain⟨a1,a2,a3,a4,a5⟩:=s';simp only at y d h3;subst y d h3;rfl
 rw[N];refine hQ _ _ _ (λb f e=>?_) (VN (Qz v)) hm.toks ?_
 ·have q:=Qz e
  exact hm.heap b f (by simp only[Qf,Rx,Uq,not_or];exact⟨Q5 q,Q5 (Vn q)⟩) (c b f (Q5 q) (p b f e))
 ·refine List.Perm.trans (Wg ?_) ((k7 w a ep es).map (·.2))
  have O:(dS w a ep es).size=es.size:=by rw[←QK,(k7 w a ep es).length_eq,QK]
  refine Sa (by rw[QK,PF,QK,O,m.1]) λi q1 q2=>?_;have R:i<k.size:=by simpa using q1
  obtain⟨e,he,hv⟩:=m.2 i _ (getElem?_pos k i R);rw[Ut,hv,S5,Ut];have:=Ri.mp he;obtain⟨z1,z2⟩:=this;rw[z2]
end
end L2.Hs
namespace L2.Hs
open PySem PySem.W PyProof.Rows
section
variable{α β:Type}{lt:Nat->Nat->Bool}{n:Nat}
def Rn(lt:Nat->Nat->Bool)(n:Nat):KasT α->(α->Prop)->Prop
 | .ret a,Φ=>Φ a
 | .ask i j k,Φ=>i<n/\j<n/\Rn lt n (k (lt i j)) Φ
theorem Rn.bind{Φ:β->Prop}:∀{t:KasT α},Rn lt n t (λa=>Rn lt n (f a) Φ)->Rn lt n (t.bind f) Φ
 | .ret a,h=>h
 | .ask i j k,⟨h1,h2,h3⟩=>⟨h1,h2,Rn.bind h3⟩
theorem Rn.mono{Φ Ψ:α->Prop}(b:∀a,Φ a->Ψ a):∀{t:KasT α},Rn lt n t Φ->Rn lt n t Ψ
 | .ret a,h=>b a h
 | .ask i j k,⟨h1,h2,h3⟩=>⟨h1,h2,Rn.mono b h3⟩
theorem Rn.wp{Φ:α->Prop}(b:∀i j,i<n->j<n->∀C:Bool->P7->Prop,C (lt i j) s->cmp i j C s)(c:∀a,Φ a->Q a s):∀{t:KasT α},Rn lt n t Φ->t.kasWp cmp Q s
 | .ret a,h=>c a h
 | .ask i j k,⟨h1,h2,h3⟩=>b i j h1 h2 _ (Rn.wp b c h3)
end
section
variable{rk:Nat->Nat}{n:Nat}
noncomputable abbrev ltR(rk:Nat->Nat)(i j:Nat):Bool:=decide (rk i<rk j)
noncomputable abbrev ky(rk:Nat->Nat)(p:Array Nat)(i:Nat):Nat:=rk (p.getD i 0)
structure Pm (rk:Nat->Nat) (n:Nat) (p:Array Nat):Prop where
 perm:p.toList.Perm (P4 n)
 inj:∀i j,i<n->j<n->rk i=rk j->i=j
theorem Pm.sz{p:Array Nat}(h:Pm rk n p):p.size=n:=by have:=h.perm.length_eq;simpa using this
theorem Pm.lt{p:Array Nat}(h:Pm rk n p)(a:i<n):p.getD i 0<n:=by
 have hs:=h.sz;have e:p.getD i 0=p[i]:=by simp[SV,show i<p.size by omega]
 rw[e];exact Qq.mp (h.perm.mem_iff.mp (by simp))
theorem Pm.ne(h:Pm rk n p)(a:i<j)(b:j<n):ky rk p i≠ky rk p j:=λz=>by
 have hs:=h.sz;have:=h.inj _ _ (h.lt (show i<n by omega)) (h.lt b) z;have nd:p.toList.Nodup:=h.perm.nodup_iff.mpr Vx;have c:p.getD i 0=p.toList[i]'(by simp;omega):=by simp[SV,show i<p.size by omega]
 have d:p.getD j 0=p.toList[j]'(by simp;omega):=by simp[SV,show j<p.size by omega]
 rw[c,d]at this;exact Qu this (SN.mp nd i j (by simp;omega) (by simp;omega) a)
theorem Pm.of{p q:Array Nat}(h:Pm rk n p)(a:q.Perm p):Pm rk n q:=⟨(Array.perm_iff_toList_perm.mp a).trans h.perm,h.inj⟩
def So(rk:Nat->Nat)(p:Array Nat)(k:Nat):Prop:=∀i j,i<j->j<k->ky rk p i<ky rk p j
def De(rk:Nat->Nat)(p:Array Nat)(k:Nat):Prop:=∀i j,i<j->j<k->ky rk p j<ky rk p i
theorem So.succ(h:So rk p k)(c:1<=k)(b:ky rk p (k-1)<ky rk p k):So rk p (k+1):=λi j a d=>by
 by_cases q:j=k
 ·subst q
  by_cases z:i=j-1
  ·subst z;exact b
  ·exact UY (h i (j-1) (by omega) (by omega)) b
 ·exact h i j a (by omega)
theorem De.succ(h:De rk p k)(c:1<=k)(b:ky rk p k<ky rk p (k-1)):De rk p (k+1):=λi j a d=>by
 by_cases q:j=k
 ·subst q
  by_cases z:i=j-1
  ·subst z;exact b
  ·exact UY b (h i (j-1) (by omega) (by omega))
 ·exact h i j a (by omega)
theorem vY(P:Pm rk n p):∀(f k:Nat),1<=k->k+f<=n->So rk p k->Rn (ltR rk) n (kas_asc p f k) λm=>k<=m/\m<=k+f/\So rk p m/\(m=k+f\/ky rk p m<ky rk p (m-1))
 |0,k,_,_,h=>⟨P5 k,P5 _,h,.inl rfl⟩
 |f+1,k,h1,h2,h=>by
  refine⟨P.lt (by omega),P.lt (by omega),?_⟩;by_cases q:ky rk p k<ky rk p (k-1)
  ·rw[show ltR rk (p.getD k 0) (p.getD (k-1) 0)=PP from Qn q];dsimp only;rw[P6 rfl]
   exact⟨P5 k,by omega,h,.inr q⟩
  ·rw[show ltR rk (p.getD k 0) (p.getD (k-1) 0)=PU from QP q];dsimp only;rw[P0 P8]
   have:=P.ne (show k-1<k by omega) (show k<n by omega);refine Rn.mono (λm hm=>?_) (vY P f (k+1) (by omega) (by omega) (h.succ h1 (by omega)));exact⟨by omega,by omega,hm.2.2.1,by rcases hm.2.2.2 with z|z;exact .inl (by omega);exact .inr z⟩
theorem xi(P:Pm rk n p):∀(f k:Nat),1<=k->k+f<=n->De rk p k->Rn (ltR rk) n (kas_desc f p k 0) λr=>r.1=p/\r.2.2=0/\k<=r.2.1/\r.2.1<=k+f/\De rk p r.2.1
 |0,k,_,_,h=>⟨rfl,rfl,P5 k,P5 _,h⟩
 |f+1,k,h1,h2,h=>by
  refine⟨P.lt (by omega),P.lt (by omega),?_⟩;by_cases q:ky rk p k<ky rk p (k-1)
  ·rw[show ltR rk (p.getD k 0) (p.getD (k-1) 0)=PP from Qn q];dsimp only;rw[P6 rfl,P0 (Q4 0)]
   refine Rn.mono (λm hm=>?_) (xi P f (k+1) (by omega) (by omega) (h.succ h1 q));exact⟨hm.1,hm.2.1,by have:=hm.2.2.1;omega,by have:=hm.2.2.2.1;omega,hm.2.2.2.2⟩
  ·rw[show ltR rk (p.getD k 0) (p.getD (k-1) 0)=PU from QP q];dsimp only;rw[P0 P8]
   have:=P.ne (show k-1<k by omega) (show k<n by omega);refine⟨P.lt (by omega),P.lt (by omega),?_⟩;rw[show ltR rk (p.getD (k-1) 0) (p.getD k 0)=PP from Qn (show ky rk p (k-1)<ky rk p k by omega)];dsimp only;rw[P6 rfl];exact⟨rfl,rfl,P5 k,by show k<=_;omega,h⟩
theorem w8{p q:Array Nat}(h:p[i]?=q[j]?):p.getD i 0=q.getD j 0:=by
 have a:∀(r:Array Nat) (x:Nat),r.getD x 0=(r[x]?).getD 0:=λr x=>by
  by_cases b:x<r.size
  ·simp[SV,b]
  ·simp[SV,b]
 rw[a,a,h]
theorem L8{p:Array Nat}(a:k<=p.size)(h:De rk p k):So rk (kas_rev p 0 k) k:=λi j b c=>by
 have g:∀x,x<k->(kas_rev p 0 k).getD x 0=p.getD (k-1-x) 0:=λx d=>by
  refine w8 ?_;unfold kas_rev;rw[getElem?_mirror_all a,P6 (by omega)];congr 1;omega
 show rk _<rk _;rw[g i (by omega),g j c];exact h (k-1-j) (k-1-i) (by omega) (by omega)
theorem CA(P:Pm rk n p)(b:1<=k)(c:k<=n)(h:De rk p k):Rn (ltR rk) n (kas_tail3 k n p) λr=>Pm rk n r.2/\1<=r.1/\r.1<=n/\So rk r.2 r.1:=by
 have a:Pm rk n (kas_rev p 0 k):=P.of (mirror_perm _ _ _ _);unfold kas_tail3;refine Rn.bind (Rn.mono (λm hm=>?_) (vY a (n-k) k b (by omega) (L8 (by rw[P.sz];exact c) h)));exact⟨a,by omega,by omega,hm.2.2.1⟩
theorem ET(P:Pm rk n p)(d:1<=n):Rn (ltR rk) n (kas_count n p) λr=>Pm rk n r.2/\1<=r.1/\r.1<=n/\So rk r.2 r.1:=by
 unfold kas_count;refine Rn.bind (Rn.mono (λm hm=>?_) (vY P (n-1) 1 (P5 1) (by omega) λi j a b=>by omega));obtain⟨a1,a2,a3,a4⟩:=hm;by_cases q:m=n
 ·rw[P6 (by rw[TX];exact q)]
  exact⟨P,by omega,by omega,a3⟩
 ·rw[P0 (by rw[TX];exact q)]
  have hd:ky rk p m<ky rk p (m-1):=by
   rcases a4 with z|z
   ·omega
   ·exact z
  by_cases q1:m>1
  ·rw[P6 q1]
   refine⟨P.lt (by omega),P.lt (by omega),?_⟩;rw[show ltR rk (p.getD 0 0) (p.getD (m-1) 0)=PP from Qn (a3 0 (m-1) (by omega) (by omega))];dsimp only;rw[P6 rfl];exact⟨P,by omega,by omega,a3⟩
  ·rw[P0 q1]
   obtain rfl:m=1:=by omega
   unfold kas_descPart;refine Rn.bind (Rn.mono (λr c=>?_) (xi P (n-(1+1)) (1+1) (by omega) (by omega) λi j a b=>by
    obtain rfl:j=1:=by omega
    obtain rfl:i=0:=by omega
    exact hd))
   obtain⟨rfl,b2,b3,b4,b5⟩:=c;rw[P0 (by omega)];exact CA P (by omega) (by omega) b5
theorem pf(P:Pm rk n p)(a:k<n):∀(f l r:Nat),l<=r->r<=k->r-l<=f->(∀i,i<l->ky rk p i<ky rk p k)->(∀i,r<=i->i<k->ky rk p k<ky rk p i)->So rk p k->
  Rn (ltR rk) n (kas_place p k f l r) λm=>m<=k/\(∀i,i<m->ky rk p i<ky rk p k)/\∀i,m<=i->i<k->ky rk p k<ky rk p i
 |0,l,r,h1,h2,h3,ha,hb,_=>by
  obtain rfl:l=r:=by omega
  exact⟨h2,ha,hb⟩
 |f+1,l,r,h1,h2,h3,ha,hb,so=>by
  unfold kas_place;by_cases q:l≥r
  ·rw[P6 q]
   obtain rfl:l=r:=by omega
   exact⟨h2,ha,hb⟩
  ·rw[P0 q]
   refine⟨P.lt (by omega),P.lt (by omega),?_⟩;by_cases z:ky rk p k<ky rk p ((l+r)/2)
   ·rw[show ltR rk (p.getD k 0) (p.getD ((l+r)/2) 0)=PP from Qn z];dsimp only;rw[P6 rfl]
    refine pf P a f l ((l+r)/2) (by omega) (by omega) (by omega) ha (λi c b=>?_) so;by_cases w:i=(l+r)/2
    ·subst w;exact z
    ·exact UY z (so _ i (by omega) b)
   ·rw[show ltR rk (p.getD k 0) (p.getD ((l+r)/2) 0)=PU from QP z];dsimp only;rw[P0 P8]
    have d:=P.ne (show(l+r)/2<k by omega) a;refine pf P a f ((l+r)/2+1) r (by omega) h2 (by omega) (λi c=>?_) hb so;by_cases w:i=(l+r)/2
    ·subst w;omega
    ·exact UY (so i ((l+r)/2) (by omega) (by omega)) (by omega)
theorem BL:∀(f:Nat) {p:Array Nat} {k:Nat},Pm rk n p->k+f=n->So rk p k->Rn (ltR rk) n (kas_bin f p k) λb=>Pm rk n b/\So rk b n
 |0,p,k,P,hk,so=>⟨P,by rw[←hk];exact so⟩
 |f+1,p,k,P,hk,so=>by
  unfold kas_bin;refine Rn.bind (Rn.mono (λm hm=>?_) (pf P (by omega) k 0 k (Rr _) (P5 _) (by omega) (λi h=>Qu h (Sz i)) (λi l c=>by omega) so));obtain⟨l,c,o⟩:=hm;have r:Pm rk n (bubble p k (k-m)):=P.of (bubble_perm _ _ _);refine BL f r (by omega) λi j a t=>?_;have ks:k<p.size:=by rw[P.sz];omega
  have g:∀x:Nat,(bubble p k (k-m)).getD x 0=p.getD (if x=m then k else if m<x/\x<=k then x-1 else x) 0:=λx=>by
   refine w8 ?_;rw[getElem?_bubble ks (k-m) (by omega)];by_cases q:x=m
   ·rw[P6 (by omega),P6 q]
   ·rw[P0 (by omega),P0 q]
    by_cases q2:m<x/\x<=k
    ·rw[P6 (by omega),P6 q2]
    ·rw[P0 (by omega),P0 q2]
  show rk _<rk _;rw[g i,g j];by_cases q1:i=m
  ·rw[P6 q1,P0 (by omega),P6 (by omega)]
   exact o (j-1) (by omega) (by omega)
  ·rw[P0 q1]
   by_cases q2:j=m
   ·rw[P6 q2,P0 (by omega)]
    exact c i (by omega)
   ·rw[P0 q2]
    by_cases d:m<i/\i<=k
    ·rw[P6 d,P6 (by omega)]
     exact so (i-1) (j-1) (by omega) (by omega)
    ·rw[P0 d]
     by_cases e:m<j/\j<=k
     ·rw[P6 e]
      exact so i (j-1) (by omega) (by omega)
     ·rw[P0 e]
      exact so i j a (by omega)
theorem Kk(a:1<=n)(inj:∀i j,i<n->j<n->rk i=rk j->i=j):Rn (ltR rk) n (kas_sort n) λp=>Pm rk n p/\So rk p n:=by
 unfold kas_sort;have P:Pm rk n (List.toArray (P4 n)):=⟨.refl _,inj⟩;refine Rn.bind (Rn.mono (λr b=>?_) (ET P a));obtain⟨a1,a2,a3,a4⟩:=b;by_cases q:r.1<n
 ·rw[P6 q,Nat.max_eq_left a2]
  exact BL _ a1 (by omega) a4
 ·rw[P0 q]
  obtain rfl:r.1=n:=by omega
  exact⟨a1,a4⟩
noncomputable def cZ:List Int->List Int->Bool
 |[],[]=>PU
 |[],_::_=>PP
 |_::_,[]=>PU
 |a::as,b::bs=>if a=b then cZ as bs else decide (a<b)
theorem iH:∀x,cZ x x=PU
 |[]=>rfl
 |a::as=>by unfold cZ;rw[P6 rfl];exact iH as
theorem qv:∀{x y z},cZ x y=PP->cZ y z=PP->cZ x z=PP
 |[],[],_,h,_=>by cases h
 |[],_::_,[],_,h=>by cases h
 |[],_::_,_::_,_,_=>rfl
 |_::_,[],_,h,_=>by cases h
 |_::_,_::_,[],_,h=>by cases h
 |a::as,b::bs,c::cs,h1,h2=>by
  unfold cZ at h1 h2⊢;by_cases q1:a=b
  ·rw[P6 q1]at h1
   by_cases q2:b=c
   ·rw[P6 q2]at h2
    rw[P6 (q1.trans q2)];exact qv h1 h2
   ·rw[P0 q2]at h2
    rw[P0 (by rw[q1];exact q2),q1];exact h2
  ·rw[P0 q1]at h1
   have d:=SQ h1;by_cases q2:b=c
   ·rw[P0 (by rw[←q2];exact q1),←q2];exact h1
   ·rw[P0 q2]at h2
    have e:=SQ h2;rw[P0 (by omega)];exact Qn (by omega)
theorem nQ:∀{x y},cZ x y=PU->cZ y x=PU->x=y
 |[],[],_,_=>rfl
 |[],_::_,h,_=>by cases h
 |_::_,[],_,h=>by cases h
 |a::as,b::bs,h1,h2=>by
  unfold cZ at h1 h2;by_cases q:a=b
  ·rw[P6 q]at h1
   rw[P6 q.symm]at h2;rw[q,nQ h1 h2]
  ·rw[P0 q]at h1
   rw[P0 (Ne.symm q)]at h2;have:=X8 h1;have:=X8 h2;omega
theorem vS:∀{L:List Nat},(∀l∈L,p l=PP->q l=PP)->∀{i},i∈L->p i=PU->q i=PP->L.countP p<L.countP q
 |[],_,i,h,_,_=>by cases h
 |a::L,hpq,i,hi,h1,h2=>by
  have le:L.countP p<=L.countP q:=List.countP_mono_left λl b=>hpq l (PN a b);rcases Qf.mp hi with rfl|hi
  ·rw[List.countP_cons_of_neg (by rw[h1];exact P8),List.countP_cons_of_pos h2]
   omega
  ·have ih:=vS (λl b=>hpq l (PN a b)) hi h1 h2
   rw[List.countP_cons,List.countP_cons];have:(if p a=PP then 1 else 0)<=(if q a=PP then 1 else 0):=by
    by_cases z:p a=PP
    ·rw[P6 z,P6 (hpq a PZ z)];exact P5 1
    ·rw[P0 z];exact Rr _
   omega
def hZ(ks:LI)(i:Nat):Nat:=(P4 ks.length).countP λj=>cZ (ks.getD j []) (ks.getD i [])
theorem tW{ks:LI}(a:i<ks.length)(h:cZ (ks.getD i []) (ks.getD j [])=PP):hZ ks i<hZ ks j:=
 vS (λl _ b=>qv b h) (Qq.mpr a) (iH _) h
theorem zq{ks:LI}(b:i<ks.length)(c:j<ks.length):decide (hZ ks i<hZ ks j)=cZ (ks.getD i []) (ks.getD j []):=by
 cases h:cZ (ks.getD i []) (ks.getD j [])with
 |true=>exact Qn (tW b h)
 |false=>
  refine QP λz=>?_;cases a:cZ (ks.getD j []) (ks.getD i [])with
  |true=>have:=tW c a;omega
  |false=>
   have e:=nQ h a;unfold hZ at z;rw[e]at z;exact Q4 _ z
theorem L6{ks:LI}(nd:ks.Nodup)(a:i<ks.length)(b:j<ks.length)(h:hZ ks i=hZ ks j):i=j:=by
 have e:ks.getD i []=ks.getD j []:=by
  refine nQ ?_ ?_
  ·cases z:cZ (ks.getD i []) (ks.getD j [])with
   |false=>rfl
   |true=>have:=tW a z;omega
  ·cases z:cZ (ks.getD j []) (ks.getD i [])with
   |false=>rfl
   |true=>have:=tW b z;omega
 rw[PR,PR,PM a,PM b]at e;have c:ks[i]=ks[j]:=e;rcases Ts i j with z|z|z
 ·exact Qu c (SN.mp nd i j a b z)
 ·exact z
 ·exact Qu c.symm (SN.mp nd j i b a z)
abbrev Up(l:LI):Prop:=l.Pairwise λa b=>cZ a b=PP
theorem xB:∀{l m:LI},Up l->Up m->(∀x,x∈l↔x∈m)->l=m
 |[],[],_,_,_=>rfl
 |[],b::m,_,_,h=>by have:=(h b).mpr PZ;cases this
 |a::l,[],_,_,h=>by have:=(h a).mp PZ;cases this
 |a::l,b::m,h1,h2,h=>by
  obtain⟨d,f⟩:=Ub.mp h1;obtain⟨q1,q2⟩:=Ub.mp h2;have e:a=b:=by
   rcases Qf.mp ((h a).mp PZ)with z|z
   ·exact z
   ·rcases Qf.mp ((h b).mpr PZ)with w|w
    ·exact w.symm
    ·have:=qv (q1 a z) (d b w)
     rw[iH]at this;cases this
  subst e;congr 1;refine xB f q2 λx=>⟨λc=>?_,λc=>?_⟩
  ·rcases Qf.mp ((h x).mp (PN a c))with rfl|z
   ·have:=d x c;rw[iH]at this;cases this
   ·exact z
  ·rcases Qf.mp ((h x).mpr (PN a c))with rfl|z
   ·have:=q1 x c;rw[iH]at this;cases this
   ·exact z
variable{prog:QD}{w:QS}{A:Rg}{E:PY->P7->Prop}{s:P7}
theorem wT{b:Bool}:∀{xs ys:List Int} {us vs:List PY} (i:Nat),ItemsAre (V2 prog w) xs us->ItemsAre (V2 prog w) ys vs->∀n m:Nat,(decide (n+us.length<m+vs.length)=decide (xs.length<ys.length))->Q (cZ xs ys) s->KatLex prog w A PP (decide (n+us.length<m+vs.length)) Q (us.zip vs) i s
 |[],ys,us,vs,i,hx,hy,n,m,e,q=>by
  cases hx;cases hy with
  |nil=>rw[Ws];exact kat_nil (by rw[e];exact q)
  |cons c d=>rw[Ws];exact kat_nil (by rw[e];exact q)
 |x::xs,ys,us,vs,i,hx,hy,n,m,e,q=>by
  cases hx with
  |@cons _ u _ us' c d=>
   cases hy with
   |nil=>rw[List.zip_nil_right];exact kat_nil (by rw[e];exact q)
   |@cons y v ys' vs' h3 h4=>
    obtain⟨g,rfl⟩:=Wj c;obtain⟨h,rfl⟩:=Wj h3;rw[Sf];refine kat_cons (wpAny_eqBool_int ?_);unfold cZ at q;by_cases z:x=y
    ·rw[P6 z]at q
     rw[show(x==y)=PP by rw[TX];exact z];refine kat_yes ?_;have f:∀k l:Nat,decide (k+(us'.length+1)<l+(vs'.length+1))=decide (k+1+us'.length<l+1+vs'.length):=λk l=>decide_eq_decide.mpr (by omega);rw[Qa,Qa,f];refine wT (b:=b) (i+1) d h4 (n+1) (m+1) ?_ q;rw[←f,←Qa (a:=TD x g),←Qa (a:=TD y h),e,Qa,Qa];exact decide_eq_decide.mpr (by omega)
    ·rw[P0 z]at q
     rw[show(x==y)=PU by rw[Xx];exact z];refine kat_no ?_;cases j:(PP&&i==0)with
     |true=>exact oneLt_int q
     |false=>exact kat_one _ _ (lt_int (show PySem.W.BoolBack Q (.bool _) s from q))
theorem MN(i:(IKd prog w).is s.heap xs x)(j:(IKd prog w).is s.heap ys y)(h:Q (cZ xs ys) s):Qi (QA prog w) A (keyLt' (tuples' PP) (.ref x) (.ref y)) Q E s:=by
 obtain⟨m,o,p,d,k,e,a⟩:=i;obtain⟨o2,q,r,f,l,g,c⟩:=j;refine kat_lt d e f g ?_;have:=wT (A:=A) (b:=PP) (Q:=Q) (s:=s) 0 a c 0 0 (by rw[Q6,Q6,a.length,c.length]) h;rw[Q6,Q6,QK,QK]at this;exact this
theorem wf:∀{ks:List (List Int×PX)},(∀k∈ks,(IKd prog w).is s.heap k.1 k.2/\1<=k.1.length)->∃fs:List PY,KatTups s.heap (ks.map λk=>Qs k.2) fs/\fs.length=ks.length/\∀v∈fs,∃n t,v=TD n t
 |[],_=>⟨[],trivial,rfl,λv hv=>by cases hv⟩
 |k::ks,h=>by
  obtain⟨fs,c,d,f⟩:=wf λg i=>h g (PN k i);obtain⟨⟨o,its,n,j,l,hd,b⟩,p⟩:=h k PZ;have a:=b.length;have m:0<its.size:=by rw[←QK,←a];omega
  have e:=getElem?_pos its 0 m;refine⟨its[0]::fs,KatTups.cons j l hd e c,by rw[Qa,Qa,d],λv hv=>?_⟩;rcases Qf.mp hv with rfl|hv
  ·exact items_int b _ (by rw[←Ut];exact QO _)
  ·exact f v hv
theorem za{ks:List (List Int×PX)}{n:Nat}{P:Vq->P7->Prop}(L:s.heap.get? a=on (TF "list" (ks.map λk=>Qs k.2).toArray n))(hk:∀k∈ks,(IKd prog w).is s.heap k.1 k.2/\1<=k.1.length)(nd:(ks.map (·.1)).Nodup)(h64:ks.length<64)
  (h:∀(h':Rl) (l:List (List Int×PX)) (n':Nat),l.Perm ks->Up (l.map (·.1))->h'.get? a=on (TF "list" (l.map λk=>Qs k.2).toArray n')->(∀b o,b≠a->s.heap.get? b=on o->h'.get? b=on o)->P (.done (.ret .none)) {s with heap:=h'}):
  Qi (QA prog w) A (Builtin.«list.sort» ⟨[.ref a],[]⟩) P E s:=by
 have ha:a<s.heap.objs.size:=Qz L;rw[list_sort_plain];refine My (listItems_at L rfl ?_);refine My (VP L rfl ?_ (by simp[Si];omega) (by simp));obtain⟨F,N⟩:∃F,(s.heap.update a (RV λ_=>#[])).get? a=on (TF "list" #[] F):=⟨_,get?_update_seq L (λ_=>#[])⟩;refine My (seqEpoch_at N rfl ?_);refine My (Yc ?_ (by simp[Si];omega));refine My (wpAny_newList ?_ (Rr _));refine RH ?_;generalize q:(ks.map λk=>Qs k.2)=vs at*;have u:vs.length=ks.length:=by rw[←q,PF]
 have d:(((s.heap.update a (RV λ_=>#[])).push (TF "tuple" vs.toArray 0)).push (TF "list" #[] 0)).get? a=on (TF "list" #[] F):=by
  rw[Y9 _ _ _ (by rw[size_push',Heap.size_update];exact Q5 (Vn ha)),Y9 _ _ _ (by rw[Heap.size_update];exact Q5 ha)];exact N
 have keep:∀b o,b≠a->s.heap.get? b=on o->(((s.heap.update a (RV λ_=>#[])).push (TF "tuple" vs.toArray 0)).push (TF "list" #[] 0)).get? b=on o:=λb o X e=>by
  refine PQ _ (PQ _ ?_);rw[SY _ _ _ _ X];exact e
 show Qi (QA prog w) A _ P E {s with heap:=((s.heap.update a (RV λ_=>#[])).push (TF "tuple" vs.toArray 0)).push (TF "list" #[] 0)};generalize hh6:((s.heap.update a (RV λ_=>#[])).push (TF "tuple" vs.toArray 0)).push (TF "list" #[] 0)=h6 at d keep
 dsimp only
 have O:∀(l:List (List Int×PX)) (y:Array PY),l.Perm ks->Up (l.map (·.1))->y=(l.map λk=>Qs k.2).toArray->P (.done (.ret .none)) {s with heap:=h6.update a (RV λ_=>y)}:=λl y p1 p2 e=>by
  refine h _ l _ p1 p2 (by rw[←e];exact get?_update_seq d λ_=>y) λb o X Y=>?_;rw[SY _ _ _ _ X];exact keep b o X Y
 by_cases I:vs.toArray.size<2
 ·rw[P6 I,P6 I]
  refine My (PL ?_);rw[StateT.run_pure];refine My (PL ?_)
  dsimp only
  refine My (seqEpoch_at d rfl ?_);have Z:((arrOf (SortSt.mk' general' (vs.toArray.zip vs.toArray) #[] 7 PH)).map (·.2))=vs.toArray:=by
   show(vs.toArray.zip vs.toArray).map (·.2)=_;apply Array.toList_inj.mp;rw[Array.toList_map,Array.toList_zip];exact List.map_snd_zip (P5 _)
  rw[Z];refine My (VP d rfl ?_ (by simp) (by simp[Si];omega));simp only[Tk,Qd,QX];refine PL (O ks _ (.refl _) ?_ (by rw[q]));have R:ks.length<2:=by rw[←u];simpa using I
  match ks,R with
  |[],_=>exact VM
  |[k],_=>exact Ue _ _
  |_::_::_,R=>simp at R;omega
 ·rw[P0 I,P0 I]
  have h2':2<=ks.length:=by rw[←u];simp at I;omega
  have H:∀k∈ks,(IKd prog w).is h6 k.1 k.2/\1<=k.1.length:=λk hk'=>by
   obtain⟨⟨o,its,m,h1,h3,h4,h5⟩,R⟩:=hk k hk';refine⟨⟨o,its,m,keep _ _ (λz=>?_) h1,h3,h4,h5⟩,R⟩;rw[z,L]at h1;cases h1;exact Qu (SW.inj h3) (by decide)
  obtain⟨fs,t1,t2,t3⟩:=wf (s:={s with heap:=h6}) H;rw[q]at t1;refine My (kat_kind (T:= .type "int") t1 (by omega) (λv hv=>?_) rfl ?_)
  ·obtain⟨x,t,rfl⟩:=t3 v hv
   exact Looks.of_pure rfl
  show Qi _ _ (StateT.run sortRuns' (SortSt.mk' (tuples' PP) (vs.toArray.zip vs.toArray) #[] 7 PH)>>=_) _ _ _;have J:(ks.map (·.1)).length=vs.length:=by rw[PF,u]
  have at_:∀i,i<vs.length->∃k∈ks,vs.getD i Rc= .ref k.2/\(ks.map (·.1)).getD i []=k.1/\ks[i]?=on k:=λi c=>by
   have f:i<ks.length:=by omega
   refine⟨ks[i],QO f,?_,?_,PM f⟩
   ·rw[←q,PR,PV,PM f];rfl
   ·rw[PR,PV,PM f];rfl
  refine My (Q7 (kat_run (κ:=tuples' PP) (ks:=vs) (vs:=vs) (Q:=λg s'=>s'={s with heap:=h6}/\failedOf g=PH/\∃p:Array Nat,Pm (hZ (ks.map (·.1))) vs.length p/\So (hZ (ks.map (·.1))) p vs.length/\arrOf g=p.map (kas_item (vs.toArray.zip vs.toArray)))
   (G:=λp s'=>s'={s with heap:=h6}/\Pm (hZ (ks.map (·.1))) vs.length p/\So (hZ (ks.map (·.1))) p vs.length) rfl (by omega) (by omega) (λp g s' a1 a2 a3 a4=>⟨a4.1,a3,p,a4.2.1,a4.2.2,a2⟩)
   (Rn.wp (lt:=ltR (hZ (ks.map (·.1)))) (n:=vs.length) (λi j c B C hC=>?_) (λp hp=>⟨rfl,hp⟩) (Kk (by omega) λi j c B hr=>L6 nd (by rw[J];exact c) (by rw[J];exact B) hr))) (λr s' hr=>?_) λ_ _ e=>e)
  ·obtain⟨k1,m1,F,f1,_⟩:=at_ i c
   obtain⟨k2,m2,e2,f2,_⟩:=at_ j B;unfold kas_ask;rw[F,e2];refine MN (H k1 m1).1 (H k2 m2).1 ?_;have:=zq (ks:=ks.map (·.1)) (i:=i) (j:=j) (by rw[J];exact c) (by rw[J];exact B);rw[f1,f2]at this;rw[←this];exact hC
  ·obtain⟨⟨⟩,g⟩:=r
   obtain⟨rfl,hf,p,P1,so,har⟩:=hr
   dsimp only
   have Z:(arrOf g).map (·.2)=(p.toList.map λi=>vs.getD i Rc).toArray:=kat_snds rfl har;have U:=P1.sz;rw[Z];refine My (seqEpoch_at d rfl ?_);refine My (VP d rfl ?_ (by simp) (by simp[Si];omega));rw[hf];simp only[Tk,Qd,QX];have W:∀i∈p.toList,i<vs.length:=λi c=>Qq.mp (P1.perm.mem_iff.mp c);refine PL (O (p.toList.map λi=>ks.getD i ([],0)) _ ?_ ?_ ?_)
   ·refine(P1.perm.map _).trans (Wg ?_)
    rw[u];refine Sa (by simp) λi q1 q2=>?_;rw[S5,Ta,PR,PM q2];rfl
   ·rw[P3]
    unfold Up;rw[Vf];refine SN.mpr λi j c B hij=>?_;have f:i<vs.length:=by simpa[U]using c
    have hj':j<vs.length:=by simpa[U]using B
    have gd:∀x (hx:x<p.toList.length),p.getD x 0=p.toList[x]:=λx hx=>by
     have:x<p.size:=by simpa using hx
     simp[SV,this]
    have z:=so i j hij hj';unfold ky at z;rw[gd i c,gd j B]at z;obtain⟨k1,m1,F,f1,g1⟩:=at_ p.toList[i] (W _ (QO c));obtain⟨k2,m2,e2,f2,g2⟩:=at_ p.toList[j] (W _ (QO B));have:=zq (ks:=ks.map (·.1)) (i:=p.toList[i]) (j:=p.toList[j]) (by rw[J];exact W _ (QO c)) (by rw[J];exact W _ (QO B));rw[Qn z,f1,f2]at this;simp only[U1];rw[PR,PR,g1,g2];exact this.symm
   ·rw[P3]
    congr 1;refine Qx λi c=>?_;obtain⟨k1,m1,F,f1,g1⟩:=at_ i (W i c);rw[F];simp only[U1];rw[PR,g1];rfl
theorem DA{α β:Type}{f:α->β}{vs g:List β}(p:vs.Perm g):∀{xs:List α},g=xs.map f->∃ks:List α,ks.Perm xs/\vs=ks.map f:=by
 induction p with
 |nil=>
  intro xs e;cases xs with
  |nil=>exact⟨[],.refl _,rfl⟩
  |cons _ _=>cases e
 |cons x _ ih=>
  intro xs e;cases xs with
  |nil=>cases e
  |cons a xs=>
   cases e;obtain⟨ks,c,d⟩:=ih rfl;exact⟨a::ks,c.cons a,by rw[d];rfl⟩
 |swap x y l=>
  intro xs e
  match xs,e with
  |[],e=>cases e
  |[_],e=>cases e
  |a::b::xs,e=>
   cases e;exact⟨b::a::xs,.swap _ _ _,rfl⟩
 |trans _ _ ih1 ih2=>
  intro xs e;obtain⟨ks,c,d⟩:=ih2 e;obtain⟨h,i,j⟩:=ih1 d;exact⟨h,i.trans c,j⟩
theorem xK{xs:List (List Int×PX)}(H:A.handled=PH)(S:rZ prog w s.heap a xs)(I:∀x∈xs,1<=x.1.length)(J:xs.length<64)
  (h:∀(l:PX) (h':Rl) (f v:Nat) (g:List (List Int×PX)),g.Perm xs->Up (g.map (·.1))->h'.get? l=on (TF "list" (g.map λk=>Qs k.2).toArray v)->s.heap.objs.size<=l->(∀b o,s.heap.get? b=on o->h'.get? b=on o)->s.toks<=f->Q (.ref l) {s with heap:=h',toks:=f}):
  Qi (QA prog w) A (W0 (.builtin "sorted") [.ref a]) Q E s:=by
 obtain⟨o,es,ep,t,L,y,hd,i,B,N,T,O,j⟩:=S;have C:es.size=xs.length:=by rw[←QK,i,PF]
 have R:t.fits es.size=PP:=T.fits (by rw[PF,C]);refine Calls.call_function_entry kind_sorted plain_sorted entry_sorted (args_sorted1 _) ?_;unfold Builtin.«sorted»;refine My (m:=checkCount "sorted" 1 1 _) (PL ?_);refine My (v9 H L y.1 hd T R O j (by omega) λp f vs keep q htk pv=>?_);rw[i,P3]at pv;obtain⟨ks,r,rfl⟩:=DA pv rfl;have U:ks.length=xs.length:=r.length_eq;refine My (wpAny_newList ?_ (by rw[PF,Si];omega));have c:∀b d,s.heap.get? b=on d->(p.push (TF "list" (ks.map λk=>Qs k.2).toArray 0)).get? b=on d:=λb d e=>PQ _ (keep b d e);have u:(p.push (TF "list" (ks.map λk=>Qs k.2).toArray 0)).get? p.objs.size=on (TF "list" (ks.map λk=>Qs k.2).toArray 0):=Qj _ rfl;show Qi _ _ _ _ _ {s with heap:=p.push (TF "list" (ks.map λk=>Qs k.2).toArray 0),toks:=f};refine My (RH (Q1 slot_list_sort ⟨_,u,rfl⟩ entry_list_sort (za u (λk F=>⟨?_,I k (r.mem_iff.mp F)⟩) ((r.map (·.1)).nodup_iff.mpr B) (by omega) λh' g v q1 q2 q3 q4=>⟨_,rfl,?_⟩) (args_list_sort _)))
 ·obtain⟨W,its,m,X,Y,Z,z4⟩:=N k (r.mem_iff.mp F)
  exact⟨W,its,m,c _ _ X,Y,Z,z4⟩
 ·refine PL ⟨_,rfl,h p.objs.size h' f v g (q1.trans r) q2 q3 q (λb d e=>q4 b d (λz=>?_) (c b d e)) htk⟩
  have:=Qz e;exact Qu (z▸this) (Nat.not_lt.mpr q)
end
end L2.Hs
namespace L2.Hs
open PySem PySem.Spec PyProof.Rows
section
variable{prog:QD}{w:QS}
def sd(prog:QD)(w:QS)(a:PX)(xs:List (List Int×PX))(h:Rl):Prop:=
 ∃o es ep t,h.get? a=on o/\o.ExactSet/\o.data= .set es ep t/\(es.toList=xs.map λx=>(hsh prog w x.1,Qs x.2))/\(xs.map (·.1)).Nodup/\(Tb t (xs.map λx=>hsh prog w x.1))/\t.plain=PP/\t.led=!(w.params.followText "set-order")
noncomputable def mV(prog:QD)(w:QS)(a:PX)(xs:List (List Int×PX)):HO:= .ext (sd prog w a xs)
theorem sd.to(S:sd prog w a xs h)(b:∀x∈xs,(IKd prog w).is h x.1 x.2):rZ prog w h a xs:=by
 obtain⟨o,es,ep,t,c,d,e,f,g,i⟩:=S;exact⟨o,es,ep,t,c,d,e,f,g,b,i⟩
theorem wu(S:sd prog w a xs h):bH prog w H h a (mV prog w a xs):=by
 refine⟨S,?_,λb c z k=>?_⟩
 ·obtain⟨o,_,_,_,e,_⟩:=S
  exact⟨o,e⟩
 ·obtain⟨o,es,ep,t,e,r⟩:=z
  exact⟨o,es,ep,t,k _ e,r⟩
theorem ED{k:List Int}:∀{its:List PY},az (k.map V.int) its->ItemsAre (V2 prog w) k its:=by
 induction k with
 |nil=>intro its h;cases h;exact .nil
 |cons i k ih=>
  intro its h;cases h with
  |cons a b=>
   obtain⟨t,rfl⟩:=a;exact .cons (by simp[V2,XX]) (ih b)
variable{X:Cx}
theorem nY{s:P7}{k:List Int}(I:Inv X pins σ H s)(h:SqT X.K H b (k.map V.int)):(IKd X.prog X.w).is s.heap k b:=by
 obtain⟨its,a,⟨o,e,c,n,hd⟩,_⟩:=I.tuple h;exact⟨o,its.toArray,n,e,c,hd,ED a⟩
theorem tb0{b:Bool}:Tb (.fresh 0 0 b) []:=⟨.inl rfl,rfl,λi j a b h=>by simp[Y0]at*,λi j h=>by simp[Y0]at h,rfl,by show 0*5<7*3;decide,λi h j c=>by simp at c⟩
theorem sj:∀a:List (List Int×PX),az (a.map λz=>V.ref z.2) (a.map λk=>Qs k.2)
 |[]=> .nil
 |_::a=> .cons rfl (sj a)
theorem KW:Mks X (newSet (.type "set")) λD=>mV X.prog X.w D []:=λa s c H E Q I h=>by
 unfold newSet setsByText;refine My (My (UQ (PL ?_)))
 dsimp only
 simp only[newObj];refine My (wpAny_alloc (PL (h _ (I.laid (t':=s.toks) (λ_ _ q=>PQ _ q) (P5 _) (wu ?_)) λb o e=>PQ _ e)));exact⟨_,#[],0,_,Qj _ rfl,⟨rfl,rfl,rfl⟩,rfl,rfl,.nil,tb0,rfl,rfl⟩
def BH(P:QD)(w:QS)(K:Qp)(D:PX)(e:TE):TB:=λd H Q=>e d H λv c=>∃xs k b,c D=on (mV P w D xs)/\v= .ref b/\SqT K c b (k.map V.int)/\(∀x∈xs,SqT K c x.2 (x.1.map V.int))/\xs.length<63/\
 ∀a,(k∈xs.map (·.1)->a=xs)->(k∉xs.map (·.1)->a.Perm ((k,b)::xs))->Q d (upd c D (mV P w D a))
theorem uY{D:PX}(p:X.A.units+1<Vr)(L:gens[d+1]?=PH)(N:PE X elt te)(j:X.xe=λ_ _=>False):PB X (.S elt) gens scope pos d D (BH X.prog X.w X.K D te):=by
 intro a s y H Q I h k Q' E' O;unfold gZ;rw[L];show Qi _ _ ((do let v ←Rk elt X.env;Ua elt.pos;let _ ←W0 (.builtin "set.add") [.ref D,v])>>=λ_=>k) _ _ _
 have c:=N a s y H _ I h;rw[j]at c;refine My (My (Q7 c (λu g l=>?_) λ_ _ f=>f.elim));obtain⟨v,H1,i,r,xs,R,b,B,rfl,C,J,hn,q⟩:=l;cases r;have S:sd X.prog X.w D xs g.heap:=(i.hok D _ B).1;have T:rZ X.prog X.w g.heap D xs:=S.to λx h=>nY i (J x h);obtain⟨o,es,ep,t,U,W,_⟩:=S;refine My (SK (My (Q1 F.slot_set_add ⟨o,U,W.1⟩ F.entry_set_add ?_ (F.args_set_add_2 _ _))));unfold Builtin.«set.add» Builtin.Frozenset.oneOther;simp only[List.isEmpty_nil,bind_assoc];unfold Builtin.Frozenset.addrOf setAdd;refine My (PL ?_)
 try dsimp only
 refine My (PL ?_)
 try dsimp only
 refine My (RH (My ((IKd X.prog X.w).pyHash p (nY i C) ?_)));refine Oo (s:={g with toks:=g.toks+(IKd X.prog X.w).draws R}) p T (nY (s:=g) i C) hn λh' m Y Z c1 c2=>?_;show Qi _ _ (ret Rc) _ _ _;refine PL ⟨_,rfl,PL (O _ y _ (i.write (by rw[B];trivial) (.inl rfl) (λb u n e=>(Y.2 b n).trans e) ?_ (wu ?_)) (q m c1 c2))⟩
 all_goals obtain⟨o,es,ep,t,c,l,h3,h4,h5,J,h6⟩:=Z
 ·exact⟨o,c⟩
 ·exact⟨o,es,ep,t,c,l,h3,h4,h5,h6⟩
def lU(c:PX->HO)(vars:List QN)(caps:List Nat)(d:TI)(e:PX->It->TB):TE:=λa H Q=>d a H λJ b=>∀D,b D=PH->e D J (kH vars caps a) (upd b D (c D)) λ_ f=>Q (.ref D) f
theorem KF{d a b:Expr}{f:List Expr}{rest:List RQ}{scope:Scope}{pos:UL}{j vars:List QN}{caps:List Nat}{g:TG}{tt:TT}{o:PX->TB}{p:TI}(r:X.calm=PP)(S:CmpScope X scope j vars caps)(t:PI X a b p)
  (u:∀(cl:List (QN×PX)) (C:PX) (k:List PX) (s:P7) (H:Hp),PG (aJ X j scope cl C k s H) a g/\dP (aJ X j scope cl C k s H) f tt/\∀D,PB (aJ X j scope cl C k s H) (.S d) (⟨a,b,f,0⟩::rest) scope pos 0 D (o D))
  (hs:∀x,Q0 b X.env x=SB x:=by intro _;rfl):PE X (.SetComp d (⟨a,b,f,0⟩::rest) scope pos) (lU (λD=>mV X.prog X.w D []) vars caps p λD J=>c7 J g tt (o D)):=by
 intro i s y H Q I h;refine S8 (use:=PH) rfl hs (S.clo I.ok) S.kind S.loc (Q7 (t i s y H _ I h) (λv Y B=>Q7 B (λF Z L=>?_) λ_ _ x=>x) λ_ _ x=>x);obtain⟨it,k,tn,J,H2,e,N,T,l,f2,q⟩:=L;subst e;refine gY (c:= .S d) KW (RR:=λacc C=>X2 (QA X.prog X.w) X.A X.xe PH _ acc C) r S u N T l f2 q λD C s' O m R ns U W=>?_;exact⟨m,ns,λh' n=>⟨.ref D,O,R.letgo U n,rfl,W⟩⟩
def wA(P:QD)(w:QS)(K:Qp):List V->Hp->VK->Prop:=λxs H Q=>∃a ys,xs=[.ref a]/\H a=on (mV P w a ys)/\(∀x∈ys,SqT K H x.2 (x.1.map V.int)/\1<=x.1.length)/\ys.length<64/\
 ∀(l:PX) (b:List (List Int×PX)),H l=PH->b.Perm ys->Up (b.map (·.1))->Q (.ref l) (upd H l (.lst (b.map λz=>V.ref z.2)))
theorem wa(e:X.calm=PP):dA X (.builtin "sorted") (wA X.prog X.w X.K):=by
 intro c s m H xs us Q I r h;obtain⟨a,ys,rfl,ha,d,hn,q⟩:=h;obtain⟨u,rfl,rfl⟩:=kN r;have S:sd X.prog X.w a ys s.heap:=(I.hok a _ ha).1;refine xK (I.ok.hd e) (S.to λx h=>nY I (d x h).1) (λx h=>(d x h).2) hn λl h' f g b p i j hs keep n=>?_;refine⟨.ref l,_,I.laid (t':=f) (o:= .lst (b.map λz=>V.ref z.2)) keep hs ⟨?_,b.map λk=>Qs k.2,g,?_,j⟩,rfl,q l b (I.hok.fresh hs) p i⟩
 ·rw[PF,p.length_eq,Si];omega
 ·exact sj b
end
end L2.Hs
namespace L2.Pu
open PySem PySem.Spec PyProof.Rows L2.Hs
def gW(nv:Nat)(caps:List Nat)(it:FL)(tg:TgF)(tt:Dn->M Bool)(b:FL)(a:List D->Option D):FD:=λδ β=>match it δ β with
 |none=>PH
 |some (.error C,β1)=>on (.error C,β1)
 |some (.ok ds,β1)=>match cLp tg tt b ds (cSt nv caps δ) β1 with
  |some (.ok os,β2)=>(a os).map λd=>(.ok d,β2)
  |_=>PH
section
variable{K:Qp}{E:St->XK}
theorem su{R:AR}{p:PX->HO}{c:List D->Option D}{vars:List QN}{caps:List Nat}{it:FL}{g:TG}{tg:TgF}{tt:Dn->M Bool}{T:PX->TB}{b:FL}(hg:cL K g tg)(sg:dN tg)(hb:∀D,eY K R D (T D) b)
  (r0:∀F H D,R.R F (upd H D (p D)) D []) (hp:∀os d,c os=on d->R.Z os) {U:St} {H:Hp} {Q W:VK} (h:tV K (gW vars.length caps it tg tt b c) E U H W)
  (k:∀F B f D os d,Fr F B f->¬F.A D->R.R F B D os->c os=on d->(∀v j,To F B j f->Den K F j d v->W v j)->Q (.ref D) B):
  lU p vars caps (iV K it E) (λD J=>c7 J g (tVT K tt E0) (T D)) U H Q:=by
 obtain⟨F,δ,β,fr,X,r,f,e,h⟩:=h;unfold gW at e;refine⟨F,δ,β,fr,X,?_⟩;split at e
 ·cases e
 ·rename_i C β1 q
  cases e;exact⟨.error C,_,q,h⟩
 ·rename_i ds β1 q
  split at e
  ·rename_i os β2 q2
   cases hd:c os with
   |none=>rw[hd]at e;cases e
   |some d=>
    rw[hd]at e;cases e;refine⟨.ok ds,β1,q,λJ I t hJ D m=>?_⟩;have i:¬F.A D:=t.fr.fresh m;have nb:∀b l,F.bg=on (b,l)->D≠b/\D≠l:=λb l z=>⟨λw=>i (w▸(fr.bgA b l z).1),λw=>i (w▸(fr.bgA b l z).2.1)⟩;have Y:=t.fr.upd (p D) m;have L:Fr ⟨λa=>F.A a\/a=D,F.bg⟩ (upd I D (p D)) β1:=by
     refine⟨λa ha z=>?_,λb l z=>let ⟨x,y,w⟩:=fr.bgA b l z;⟨.inl x,.inl y,w⟩,Y.fr.bag⟩
     rcases ha with ha|ha
     ·exact Y.fr.occ a ha z
     ·subst ha;rw[aq]at z;cases z
    have u:Tr F I ⟨λa=>F.A a\/a=D,F.bg⟩ (upd I D (p D)):=⟨λa ha hs z=>by
     rcases z with z|z
     ·exact ha z
     ·subst z;exact hs m,λa o ha z=>by rw[upd_ne (aA z m)];exact z,rfl⟩
    refine nR (R:=R) (D:=D) (as:=[]) (os:=os) hg sg (hb D) L (.inr rfl) nb (qO (X.tr ((t.tr fr).trans u))) (r0 _ _ _) (hJ.tr u) q2 (hp os d hd) λσ1 j N vk3 O=>?_;have tf:To F I j f:=by
     refine⟨λa o z n=>N.kp a o (by rw[upd_ne (aA z m)];exact z) (aA z m) n,λa ha z=>N.fr.occ a (RT ha) z,fr.bgA,N.fr.bag⟩
    exact k F j f D os d tf.fr i (R.tr (F:=⟨λa=>F.A a\/a=D,F.bg⟩) O (λ_ z=>z) ⟨λa ha _ z=>ha (RT z),λa o _ z=>z,rfl⟩) hd λv H3 t4 hv=>h v H3 ((t.trans tf).trans t4) hv
  ·cases e
noncomputable abbrev tpI(k:List Int):D:= .tup (k.map .int)
theorem rS{k:List Int}(h:Den K F H (tpI k) v):∃b,v= .ref b/\SqT K H b (k.map V.int):=by
 obtain⟨a,xs,rfl,sq,c⟩:=Den.sqT h;cases DenL.ints k c;exact⟨a,rfl,sq⟩
theorem gx(h:tpI k=tpI l):k=l:=by
 injection h with h
 exact We (λa b z=>by injection z)|>.mp h
theorem mq{α:Type} [BEq α] [LawfulBEq α]:∀{l m:List α},l.Nodup->(∀x∈l,x∈m)->l.length<=m.length
 |[],_,_,_=>Rr _
 |a::l,m,nd,h=>by
  obtain⟨c,d⟩:=QW.mp nd;have:=mq (m:=m.erase a) d λx b=>(List.mem_erase_of_ne (λ(z:x=a)=>c (z▸b))).mpr (h x (PN a b));rw[List.length_erase_of_mem (h a PZ)]at this;have:=List.length_pos_of_mem (h a PZ);rw[Qa];omega
noncomputable def RS(P:QD)(w:QS)(K:Qp):AR where
 R:=λF H D as=>∃xs,H D=on (mV P w D xs)/\(xs.map (·.1)).Nodup/\(∀x∈xs,Den K F H (tpI x.1) (.ref x.2)/\tpI x.1∈as)/\∀d∈as,∃k∈xs.map (·.1),d=tpI k
 Z:=λl=>∃ks:LI,ks.length<63/\∀d∈l,∃k∈ks,d=tpI k
 tr:=λh k t=>by
  obtain⟨xs,a,b,c,f⟩:=h;exact⟨xs,k _ a,b,λx e=>⟨Den.tr t _ _ (c x e).1,(c x e).2⟩,f⟩
 zp:=λh=>by
  obtain⟨ks,a,b⟩:=h;exact⟨ks,a,λd hd=>b d (SU _ hd)⟩
theorem DY{P:QD}{w:QS}{D:PX}:eY K (RS P w K) D (BH P w K D (tV K f E0)) (cEm f):=λF H δ β u R as os Q fr T A J U e W k=>by
 obtain⟨xs,X,nd,j,ha⟩:=U;obtain⟨d,β1,Y,Z⟩:=M.bind_inv e;cases Z;refine⟨F,δ,β,fr,J,E0.run Y λv B t L=>?_⟩;have C:=t.kp D _ X A;obtain⟨ks,z1,N⟩:=W;obtain⟨r,hk',rfl⟩:=N d (QV _ PZ);obtain⟨b,rfl,sq⟩:=rS L;have c:∀x∈xs,Den K F B (tpI x.1) (.ref x.2):=λx h=>Den.tr (t.tr fr) _ _ (j x h).1;have g:xs.length<63:=by
  have:=mq (m:=ks) nd λx I=>by
   obtain⟨y,hy,rfl⟩:=Qc.mp I;obtain⟨l,hl,e⟩:=N _ (SU _ (j y hy).2);rw[gx e];exact hl
  rw[PF]at this;omega
 refine⟨xs,r,b,C,rfl,sq,λx h=>?_,g,λi c1 c2=>?_⟩
 ·obtain⟨b',e,q⟩:=rS (c x h)
  cases e;exact q
 have O:ToD F D B (upd B D (mV P w D i)) u:=by
  refine⟨λa o h n _=>by rw[upd_ne n];exact h,λa h q=>?_,fr.bgA,λb l q=>?_⟩
  ·by_cases z:a=D
   ·subst z;rw[aq]at q;cases q
   ·rw[upd_ne z]at q;exact t.fr.occ a h q
  ·rw[upd_ne (A b l q).1.symm,upd_ne (A b l q).2.symm]
   exact t.fr.bag b l q
 have tt:=O.tr t.fr T;refine k R _ ((t.toD D).trans O) (J.tr ((t.tr fr).trans tt)) ⟨i,aq,?_⟩;by_cases hm:r∈xs.map (·.1)
 ·cases c1 hm
  refine⟨nd,λx h=>⟨Den.tr tt _ _ (c x h),SU _ (j x h).2⟩,λd hd=>?_⟩;rcases RN.mp hd with hd|hd
  ·exact ha d hd
  ·exact⟨r,hm,QH.mp hd⟩
 ·have p:=c2 hm
  refine⟨(p.map (·.1)).nodup_iff.mpr (QW.mpr ⟨hm,nd⟩),λx h=>?_,λd hd=>?_⟩
  ·rcases Qf.mp (p.mem_iff.mp h)with rfl|h
   ·exact⟨Den.tr tt _ _ L,QV _ PZ⟩
   ·exact⟨Den.tr tt _ _ (c x h),SU _ (j x h).2⟩
  ·rcases RN.mp hd with hd|hd
   ·obtain⟨k2,h2,e⟩:=ha d hd
    exact⟨k2,(p.map (·.1)).mem_iff.mpr (PN _ h2),e⟩
   ·exact⟨r,(p.map (·.1)).mem_iff.mpr PZ,QH.mp hd⟩
def Srt(ks:LI)(os:List D):Prop:=Up ks/\ks.length<63/\(∀k∈ks,1<=k.length/\tpI k∈os)/\∀d∈os,∃k∈ks,d=tpI k
theorem Srt.eq{os:List D}(a:Srt ks os)(b:Srt ls os):ks=ls:=xB a.1 b.1 λx=>⟨λh=>by
 obtain⟨l,c,e⟩:=b.2.2.2 _ (a.2.2.1 x h).2;rw[gx e];exact c,λh=>by
 obtain⟨l,c,e⟩:=a.2.2.2 _ (b.2.2.1 x h).2;rw[gx e];exact c⟩
open Classical in
def kR(os:List D):Option D:=if h:∃ks,Srt ks os then on (.lst (h.choose.map tpI))else PH
theorem CK{ks:LI}{os:List D}(h:Srt ks os):kR os=on (.lst (ks.map tpI)):=by
 have q:∃ks,Srt ks os:=⟨ks,h⟩;unfold kR;rw[dif_pos q,q.choose_spec.eq h]
theorem sC{os:List D}(h:kR os=on d):∃ks,Srt ks os/\d= .lst (ks.map tpI):=by
 unfold kR at h;split at h
 ·rename_i q
  cases h;exact⟨_,q.choose_spec,rfl⟩
 ·cases h
theorem sY:∀{a:List (List Int×PX)},(∀z∈a,Den K F H (tpI z.1) (.ref z.2))->DenL K F H ((a.map (·.1)).map tpI) (a.map λz=>V.ref z.2)
 |[],_=>DenL.nil
 |z::a,h=>DenL.cons (h z PZ) (sY λx b=>h x (PN z b))
end
section
variable{X:Cx}{E:St->XK}{elt target iter:Expr}{ifs:List Expr}{rest:List RQ}{scope:Scope}{pos p pos':UL}{Nc vars:List QN}{caps:List Nat}{g:TG}{tb:PX->TB}
theorem BY(i:Gl X "sorted")(hm:X.mg "sorted"=PH)(o:X.calm=PP)(S:CmpScope X scope Nc vars caps)(r:PI X target iter (iV X.K it E))
  (t:∀(cl:List (QN×PX)) (C:PX) (j:List PX) (s:P7) (H:Hp),PG (aJ X Nc scope cl C j s H) target g/\dP (aJ X Nc scope cl C j s H) ifs (tVT X.K tt E0)/\∀D,PB (aJ X Nc scope cl C j s H) (.S elt) (⟨target,iter,ifs,0⟩::rest) scope pos 0 D (tb D))
  (u:cL X.K g tg) (A:dN tg) (B:∀D,eY X.K (RS X.prog X.w X.K) D (tb D) b) (hs:∀x,Q0 iter X.env x=SB x:=by intro _;rfl):
  PE X (.Call (.Name "sorted" p) [.SetComp elt (⟨target,iter,ifs,0⟩::rest) scope pos] [] pos') (tV X.K (gW vars.length caps it tg tt b kR) E):=
 (kZ (wa o) i hm (by kernel_rfl) (ff (KF o S r t hs) iZ)).imp λZ H Q h=>by
  refine su (Q:=λv I=>wA X.prog X.w X.K [v] I Q) u A B (λF H D=>⟨[],aq,.nil,λx a=>Qu a (by simp),λd hd=>Qu hd (by simp)⟩) (λos d e=>?_) h λF H' J D os d fr L N e q=>?_
  ·obtain⟨ks,s,_⟩:=sC e
   exact⟨ks,s.2.1,s.2.2.2⟩
  ·obtain⟨ks,s,rfl⟩:=sC e
   obtain⟨xs,O,nd,a,ha⟩:=N;have k:∀x∈xs,x.1∈ks:=λx h=>by
    obtain⟨l,f,e⟩:=s.2.2.2 _ (a x h).2;rw[gx e];exact f
   have hn:xs.length<64:=by
    have:=mq (m:=ks) nd λy c=>by
     obtain⟨x,h,rfl⟩:=Qc.mp c;exact k x h
    rw[PF]at this;have:=s.2.1;omega
   refine⟨D,xs,rfl,O,λx h=>?_,hn,λl R f n T=>?_⟩
   ·obtain⟨b',e,q⟩:=rS (a x h).1
    cases e;exact⟨q,(s.2.2.1 _ (k x h)).1⟩
   ·have U:ks=R.map (·.1):=xB s.1 T λy=>by
     refine⟨λc=>?_,λc=>?_⟩
     ·obtain⟨k2,W,e⟩:=ha _ (s.2.2.1 y c).2
      rw[gx e];exact(n.map (·.1)).mem_iff.mpr W
     ·obtain⟨x,h,rfl⟩:=Qc.mp ((n.map (·.1)).mem_iff.mp c)
      exact k x h
    rw[U]at q;exact q _ _ (fr.upd _ f) (Den.newL fr f (sY λz Y=>(a z (n.mem_iff.mp Y)).1))
end
end L2.Pu
namespace L2.Hs
open PySem PySem.Spec PyProof.Rows
section
variable{prog:QD}{w:QS}{A:Rg}{E:PY->P7->Prop}{s:P7}
def IsP(prog:QD)(w:QS)(h:Rl)(k:KyD)(a:PX):Prop:=∃o n t b,h.get? a=on o/\o.cls= .type "tuple"/\o.data= .seq #[.int k.1 t,.ref b] n/\(IKd prog w).is h k.2 b
theorem IsP.ty(x:IsP prog w s.heap k a):s.TypeIs (.ref a) "tuple":=let ⟨o,_,_,_,ho,hc,_⟩:=x;⟨o,ho,hc⟩
theorem IsP.inj(f:IsP prog w h x a)(g:IsP prog w h y a):x=y:=by
 obtain⟨o,n,t,b,i,_,hd,j⟩:=f;obtain⟨k,p,t',q,d,_,c,e⟩:=g;obtain rfl:o=k:=QB (i.symm.trans d);rw[hd]at c;simp only[Data.seq.injEq,Array.mk.injEq,TK,TD.injEq,Qs.injEq]at c;obtain⟨⟨⟨l,_⟩,m,_⟩,_⟩:=c;subst m;exact T4 l ((IKd prog w).inj j e)
theorem MZ(k:List Int):hsh prog w k=hI k:=by unfold hsh hI;show tupleKeyHash _ _=_;unfold tupleKeyHash;rfl
theorem M0{k:KyD}(g:A.units+1<Vr)(f:IsP prog w s.heap k a)(h:Q (hB PP k) {s with toks:=s.toks+(k.2.length+3)}):Qi (QA prog w) A (pyHash (.ref a)) Q E s:=by
 have c:=f.ty;obtain⟨o,n,t,b,i,_,hd,j⟩:=f;unfold pyHash
 first|unfold pyHashByItsType|skip
 refine My (wpAny_cRoomFor_or (.inr (by omega)) ?_);refine My (SX c F.slot_tuple_hash.lookup ?_);show Qi _ _ (if(on (Value.builtin "tuple.__hash__")==on Rc)=PP then _ else _) Q E s;rw[P0 (by rw[beq_builtin_none];exact P8)];refine My (SX c F.slot_tuple_hash.lookup ?_);show Qi _ _ (callSpecialIfBoundUnlessNone? (.ref a) "__hash__" _>>=_) Q E s;refine My (wpAny_callSpecialIfBoundUnlessNone?_slot c F.slot_tuple_hash (Q1 F.slot_tuple_hash c F.entry_tuple_hash ?_ (F.args_tuple_hash_1 _)));show Qi _ _ (Builtin.Tuple.tupleItemsOf (.ref a)>>=_) _ _ s;refine My (WL i hd ?_);refine My ?_;rw[←T5];simp only[Th,Tv];refine My (My (wpAny_pyHash_int ?_));refine PL (My (My ((IKd prog w).pyHash g j ?_)));refine PL (PL ?_);have h':Q (hB PP k) {s with toks:=s.toks+1+(k.2.length+1)+1}:=by
  have e:s.toks+1+(k.2.length+1)+1=s.toks+(k.2.length+3):=by omega
  rw[e];exact h
 refine wpAny_ret_mkInt ?_;generalize l:Uv _=z;have m:hB PP k=reduceHash z:=by rw[←l,show(IKd prog w).hash k.2=hI k.2 from MZ k.2];rfl
 rw[m]at h';show Qi _ _ (if(decide (-(2:Int)^63<=z)&&decide (z<2^63))=PP then _ else _) Q E _;unfold reduceHash at h';by_cases d:(decide (-(2:Int)^63<=z)&&decide (z<2^63))=PP
 ·rw[P6 d]
  rw[P6 d]at h';exact PL h'
 ·rw[P0 d]
  rw[P0 d]at h';exact My (T0 (PL h'))
theorem eq_p(q:A.units+1<Vr)(d:IsP prog w s.heap x a)(f:IsP prog w s.heap y b)(h:Q (decide (x=y)) s):Qi (QA prog w) A (eqBool (.ref a) (.ref b)) Q E s:=by
 unfold eqBool
 try with_reducible refine RH ?_
 show Qi _ _ (if(Qs a==Qs b)=PP then _ else _) Q E s;by_cases c:(Qs a==Qs b)=PP
 ·rw[P6 c]
  have e:a=b:=by have:=eq_of_beq c;injection this
  subst e;obtain rfl:=d.inj f;exact My (T0 (PL (by simpa using h)))
 ·rw[P0 c]
  refine My (wpAny_richCompare_same_room (op:= .Eq) d.ty f.ty F.slot_tuple_eq
   (Q1 F.slot_tuple_eq d.ty F.entry_tuple_eq ?_ (F.args_tuple_eq_2 _ _)) (by omega))
  have j:=f.ty;obtain⟨r,t,u,v,k,_,l,m⟩:=d;obtain⟨B,C,H,I,n,_,o,p⟩:=f;show Qi _ _ (WI (.ref b) (.type "tuple")>>=_) _ _ s;refine My (SL j Wc ?_);simp only[Ry,Qd,QX];refine My (WL k l ?_);refine My (WL n o ?_);refine My ?_;simp only[Sf,Ws,Th,Tv];refine My (My ((V2 prog w).eqBool (a:=x.1) (b:=y.1) (by simp[V2,XX]) (by simp[V2,XX]) ?_));by_cases g:x.1=y.1
  ·rw[Qn g]
   refine PL (My (My ((IKd prog w).eqBool q m p ?_)));by_cases i:x.2=y.2
   ·rw[Qn i]
    rw[Qn (T4 g i)]at h;exact PL (PL (PL ⟨_,rfl,(λe=>nomatch e),Rj h⟩))
   ·rw[QP i]
    rw[QP (λe=>i (Re _ e))]at h;exact My (PL (PL (PL (PL ⟨_,rfl,(λe=>nomatch e),Rj h⟩))))
  ·rw[QP g]
   rw[QP (λe=>g (Re _ e))]at h;exact My (PL (PL (PL (PL ⟨_,rfl,(λe=>nomatch e),Rj h⟩))))
theorem Kx(f:(IKd prog w).is s.heap k a)(h:Q PP s):Qi (QA prog w) A (Y3 (m+1) (.ref a)) Q E s:=by
 have g:=Xv f;obtain⟨o,c,n,i,_,hd,j⟩:=f;unfold Y3;refine My (SX g F.slot_tuple_eq.lookup ?_);show Qi _ _ (WI (.ref a) (.type "tuple")>>=_) _ _ s;refine My (SL g Wc ?_);simp only[Ry,Qd,QX];refine My (R1 i hd ?_);refine My ?_;show Qi _ _ (forIn c _ _) _ _ s;rw[←T5];refine VU _ (λrest r s'=>r.1=PH/\s'=s/\∀v∈rest,carriedByValue v=PP) _ ?_ ?_ _ _ ⟨rfl,rfl,j.byValue⟩
 ·rintro v rest r s' ⟨d,rfl,b⟩
  rw[eqIsQuiet_byValue _ (b v PZ)];refine My (PL ?_);simp only[Ry,Qd,QX];exact PL ⟨rfl,rfl,λu e=>b u (PN _ e)⟩
 ·rintro⟨r1,l⟩ s' ⟨d,rfl,_⟩
  simp only at d;subst d;exact PL h
theorem Ky(c:IsP prog w s.heap k a)(h:Q PP s):Qi (QA prog w) A (Y3 8 (.ref a)) Q E s:=by
 have d:=c.ty;obtain⟨o,n,t,b,e,_,hd,f⟩:=c;unfold Y3;refine My (SX d F.slot_tuple_eq.lookup ?_);show Qi _ _ (WI (.ref a) (.type "tuple")>>=_) _ _ s;refine My (SL d Wc ?_);simp only[Ry,Qd,QX];refine My (R1 e hd ?_);refine My ?_;show Qi _ _ (forIn #[TD k.1 t,Qs b] _ _) _ _ s;rw[←T5];simp only[Th,Tv];rw[eqIsQuiet_byValue _ (v:= .int k.1 t) rfl];exact My (My (PL (PL (My (My (Kx (m:=6) f (PL (PL (PL h)))))))))
def PKd(prog:QD)(w:QS):HeapKind prog w KyD where
 is:=IsP prog w
 hash:=hB PP
 draws:=λk=>k.2.length+3
 room:=λA=>A.units+1<Vr
 inj:=λd e=>d.inj e
 keeps:=λx i hd hs=>by
  obtain⟨j,n,t,b,c,l,a,m⟩:=x;refine⟨j,n,t,b,(hs.2 _ ?_).trans c,l,a,(IKd prog w).keeps m i hd hs⟩;rintro rfl;obtain rfl:=QB (c.symm.trans i);rw[hd]at a;exact nomatch a
 pyHash:=λf g h=>M0 f g h
 eqBool:=λf d e h=>eq_p f d e h
 quiet:=λg h=>Ky g h
def FKd(prog:QD)(w:QS):HeapKind prog w KyD where
 is:=λh k a=>k.1=0/\(IKd prog w).is h k.2 a
 hash:=hB PU
 draws:=λk=>k.2.length+1
 room:=λA=>A.units+1<Vr
 inj:=λc d=>T4 (c.1.trans d.1.symm) ((IKd prog w).inj c.2 d.2)
 keeps:=λx i hd hs=>⟨x.1,(IKd prog w).keeps x.2 i hd hs⟩
 pyHash:=λf g h=>(IKd prog w).pyHash (Nat.lt_of_succ_lt f) g.2 h
 eqBool:=λ{A E s x y a b Q} f c d h=>(IKd prog w).eqBool (Nat.lt_of_succ_lt f) c.2 d.2 (by
  have e:decide (x.2=y.2)=decide (x=y):=by
   by_cases q:x.2=y.2
   ·rw[Qn q,Qn (T4 (c.1.trans d.1.symm) q)]
   ·rw[QP q,QP (λz=>q (Re _ z))]
  rw[e];exact h)
 quiet:=λg h=>(IKd prog w).quiet g.2 h
def KB(prog:QD)(w:QS):Bool->HeapKind prog w KyD
 |true=>PKd prog w
 |false=>FKd prog w
theorem wU{b:Bool}:(KB prog w b).hash=hB b:=by cases b<;>rfl
theorem nU{b:Bool}{A:Rg}(h:A.units+1<Vr):(KB prog w b).room A:=by cases b<;>exact h
def KyS(K:Qp)(H:Hp):Bool->KyD->PX->Prop
 |true,k,c=>∃e,SqT K H c [.int k.1,.ref e]/\SqT K H e (k.2.map V.int)
 |false,k,c=>k.1=0/\SqT K H c (k.2.map V.int)
abbrev XY(x:KyD×PX×V)(y:KyD×PX×PY):Prop:=x.1=y.1/\x.2.1=y.2.1/\aN x.2.2 y.2.2
theorem qU:∀{xs:List (KyD×PX×V)} {ys:List (KyD×PX×PY)},WH XY xs ys->xs.map (·.1)=ys.map (·.1)
 |_,_,.nil=>rfl
 |_,_,.cons h t=>by rw[Qb,Qb,h.1,qU t]
theorem yJ:∀{xs:List (KyD×PX×V)} {ys:List (KyD×PX×PY)},WH XY xs ys->∀y∈ys,∃x∈xs,XY x y
 |_,_,.nil,y,h=>by cases h
 |_,_,.cons (a:=a) h t,y,hy=>by
  rcases Qf.mp hy with rfl|hy
  ·exact⟨a,PZ,h⟩
  ·obtain⟨x,b,e⟩:=yJ t y hy
   exact⟨x,PN _ b,e⟩
noncomputable def lkV(xs:List (KyD×PX×V))(k:KyD):Option V:=(xs.find? λx=>decide (x.1=k)).map (·.2.2)
theorem mY:∀{xs:List (KyD×PX×V)} {ys:List (KyD×PX×PY)},WH XY xs ys->ij (lkV xs k) ((Xr ys k).map (·.2))
 |_,_,.nil=>by simp[lkV,Xr,ij]
 |_,_,.cons (a:=a) (b:=b) h t=>by
  have ih:=mY (k:=k) t;unfold lkV Xr at ih⊢;rw[Tg,Tg,←h.1];by_cases q:a.1=k
  ·rw[Qn q];exact h.2.2
  ·rw[QP q];exact ih
theorem wb(h:XY x y):∀{xs:List (KyD×PX×V)} {ys:List (KyD×PX×PY)},WH XY xs ys->WH XY (xs++[x]) (ys++[y])
 |_,_,.nil=> .cons h .nil
 |_,_,.cons h' t=> .cons h' (wb h t)
variable{X:Cx}{pins:List (PX×Qy)}{σ:St}{H:Hp}
theorem qw{b:Bool}(I:Inv X pins σ H s)(h:KyS X.K H b k c):(KB X.prog X.w b).is s.heap k c:=by
 cases b with
 |true=>
  obtain⟨e,a,d⟩:=h;obtain⟨its,f,⟨o,g,i,n,hd⟩,_⟩:=I.tuple a;obtain⟨j,l,rfl,⟨t,rfl⟩,rfl⟩:=tQ f;exact⟨o,n,t,e,g,i,hd,nY I d⟩
 |false=>exact⟨h.1,nY I h.2⟩
theorem big{pins:List (PX×Qy)}{σ:St}{H:Hp}{s:P7}(I:Inv X pins σ H s):WJ<s.heap.objs.size:=UY (by decide) (show Sh<s.heap.objs.size from(I.mod.glob.keeps I.bk).lt)
theorem mI{b:Bool}(I:Inv X pins σ H s)(d:H a=on (dQ a b ep xs))(e:∀x∈xs,KyS X.K H b x.1 x.2.1):∃ys,s.heap.DictOfH (KB X.prog X.w b) a ys/\WH XY xs ys/\ys.length<=Qk/\(a==WJ)=PU:=by
 obtain⟨o,es,ys,f,g,h,i,j,k,l,c⟩:yG a b ep xs s.heap:=(I.hok a _ d).1;refine⟨ys,⟨o,es,ep,f,g,h,?_,λy m=>?_,j⟩,c,l,k⟩
 ·rw[i];unfold entryOfKey;rw[wU]
 ·obtain⟨x,n,p,q,_⟩:=yJ c y m
  rw[←p,←q];exact qw I (e x n)
def Mc(K:Qp):R2:=λx y H Q=>∃a b ep xs k c v,x= .ref a/\y= .ref c/\H a=on (dQ a b ep xs)/\(∀x∈xs,KyS K H b x.1 x.2.1)/\KyS K H b k c/\lkV xs k=on v/\Q v H
theorem AG(l:X.A.units+2<Vr):IxR X (Mc X.K):=by
 intro g i pins s σ H x y v u Q I m n h hs;obtain⟨a,b,ep,xs,k,c,o,rfl,rfl,t,B,C,J,q⟩:=h;cases m;cases n;obtain⟨ys,d,p,_,_⟩:=mI I t B;have f:=mY (k:=k) p;rw[J]at f;cases e:Xr ys k with
 |none=>rw[e]at f;exact f.elim
 |some r=>
  rw[e]at f;exact V3 (x:=r.2) d.typeIs PySem.F.slot_dict_getitem.lookup (wpAny_getItem_heap (Q:=λj s'=>j=r.2/\EP X pins σ Q j s') (nU l) (qw I C) d e ⟨rfl,o,H,I.tok _,f,q⟩) hs
theorem vd{b:Bool}:Mks X newDict λD=>dQ D b 0 []:=λpins s σ H E Q I h=>Rt (h _ (I.laid (t':=s.toks) (λ_ _ q=>PQ _ q) (P5 _) (xl ⟨_,#[],[],Qj _ rfl,⟨rfl,rfl,rfl⟩,rfl,rfl,.nil,beq_eq_false_iff_ne.mpr (Ne.symm (Q5 (big I))),Rr _,.nil⟩)) λb o e=>PQ _ e)
def BI(K:Qp)(b:Bool)(D:PX)(e f:TE):TB:=λσ H Q=>e σ H λx g=>f σ g λy a=>∃ep xs k c,x= .ref c/\a D=on (dQ D b ep xs)/\(∀x∈xs,KyS K a b x.1 x.2.1)/\KyS K a b k c/\k∉xs.map (·.1)/\xs.length<Qk/\∀d,Q σ (upd a D (dQ D b d (xs++[(k,c,y)])))
theorem k4{D:PX}{b:Bool}(L:X.A.units+1<Vr)(N:gens[d+1]?=PH)(O:PE X ke tk)(R:PE X ve tv)(a:X.xe=λ_ _=>False):PB X (.D ke ve) gens scope pos d D (BI X.K b D tk tv):=by
 intro pins s σ H Q I h k Q' E' T;unfold gZ;rw[N];show Qi _ _ (emC (.D ke ve) (.ref D) X.env>>=λ_=>k) _ _ _;unfold emC;have t:=O pins s σ H _ I h;rw[a]at t;refine My (My (Q7 t (λu U W=>?_) λ_ _ f=>f.elim));obtain⟨v,Y,Z,r,q1⟩:=W;have B:=R pins U σ Y _ Z q1;rw[a]at B;refine My (RH (Q7 B (λu2 s2 h4=>?_) λ_ _ f=>f.elim));obtain⟨v2,H2,i,r2,ep0,xs,j,c,rfl,C,hx,hc,hn,hl,q⟩:=h4;cases r;obtain⟨ys,dd,p,hz,l⟩:=mI i C hx;have F:=qU p;have e0:Xr ys j=PH:=by
  cases e:Xr ys j with
  |none=>rfl
  |some r=>
   exfalso
   unfold Xr at e;cases m:ys.find? (λx=>decide (x.1=j))with
   |none=>rw[m]at e;cases e
   |some y=>
    have:=List.find?_some m;exact hn (by rw[F];exact Qc.mpr ⟨y,List.mem_of_find?_eq_some m,SQ this⟩)
 refine My (SK (RH (wpAny_dictSet_heap (nU L) (qw i hc) dd (λh' d' sb=>?_) hz)));rw[storedH_new e0]at d';obtain⟨o,es,ep,J,g2,g3,g4,g5,g6⟩:=d';have g:ys.length=xs.length:=by rw[←PF (f:=(·.1)),←F,PF]
 refine T _ σ _ (i.write (by rw[C];trivial) (.inl rfl) (λb u n e=>(sb.2 b n).trans e) ⟨o,J⟩ (xl ⟨o,es,_,J,g2,g3,?_,g6,l,?_,wb ⟨rfl,rfl,r2⟩ p⟩)) (q ep)
 ·rw[g4];unfold entryOfKey;rw[wU]
 ·rw[Qh,g,QU];omega
theorem DE{b:Bool}{k l a d:Expr}{f:List Expr}{rest:List RQ}{scope:Scope}{pos:UL}{i vars:List QN}{caps:List Nat}{g:TG}{tt:TT}{p:PX->TB}{r:TI}(t:X.calm=PP)(S:CmpScope X scope i vars caps)(u:PI X a d r)
  (y:∀(cl:List (QN×PX)) (C:PX) (j:List PX) (s:P7) (H:Hp),PG (aJ X i scope cl C j s H) a g/\dP (aJ X i scope cl C j s H) f tt/\∀D,PB (aJ X i scope cl C j s H) (.D k l) (⟨a,d,f,0⟩::rest) scope pos 0 D (p D))
  (hs:∀x,Q0 d X.env x=SB x:=by intro _;rfl):PE X (.DictComp k l (⟨a,d,f,0⟩::rest) scope pos) (lU (λD=>dQ D b 0 []) vars caps r λD J=>c7 J g tt (p D)):=by
 intro pins s σ H Q I h;refine S8 (use:=PH) rfl hs (S.clo I.ok) S.kind S.loc (Q7 (u pins s σ H _ I h) (λv Y B=>Q7 B (λF Z L=>?_) λ_ _ x=>x) λ_ _ x=>x);obtain⟨it,j,tn,J,H2,e,N,T,n,f2,q⟩:=L;subst e;refine gY (c:= .D k l) vd (RR:=λacc C=>X2 (QA X.prog X.w) X.A X.xe PH _ acc C) t S y N T n f2 q λD C s' O m R ns U W=>?_;exact⟨m,ns,λh' o=>⟨.ref D,O,R.letgo U o,rfl,W⟩⟩
end
end L2.Hs
namespace L2.Pu
open PySem PySem.Spec PyProof.Rows L2.Hs
def dK:Bool->KyD->D
 |true,k=> .tup [.int k.1,tpI k.2]
 |false,k=>tpI k.2
def KyZ(b:Bool)(k:KyD):Prop:=b=PU->k.1=0
theorem Nh{b:Bool}(a:KyZ b k)(c:KyZ b l)(h:dK b k=dK b l):k=l:=by
 cases b with
 |true=>
  simp only[dK,D.tup.injEq,TK,D.int.injEq,and_true]at h;exact T4 h.1 (gx (Re D.tup h.2))
 |false=>exact T4 ((a rfl).trans (c rfl).symm) (gx h)
section
variable{K:Qp}{F:Fx}{H:Hp}{E:St->XK}
theorem vO(h:Den K F H (.tup ds) v):∃a xs,v= .ref a/\TQ K F H a xs/\DenL K F H ds xs:=by
 unfold Den at h;exact h
theorem pO(h:TQ K F H a xs)(hd:DenL K F H ds xs):Den K F H (.tup ds) (.ref a):=by
 unfold Den;exact⟨a,xs,rfl,h,hd⟩
theorem TQ.sq(h:TQ K F H c xs):SqT K H c xs:=h.imp (·.2) id
theorem ik.s{b:Bool}(h:ik K F H b k c):KyS K H b k c:=by
 cases b with
 |true=>
  obtain⟨e,a,d⟩:=h;exact⟨e,a.sq,d.sq⟩
 |false=>exact⟨h.1,h.2.sq⟩
theorem ik.z{b:Bool}(h:ik K F H b k c):KyZ b k:=λe=>by subst e;exact h.1
theorem ue{b:Bool}(g:KyZ b k)(h:Den K F H (dK b k) v):∃c,v= .ref c/\ik K F H b k c:=by
 cases b with
 |true=>
  obtain⟨a,xs,rfl,q,d⟩:=vO h;obtain⟨i,j,rfl,d1,d2⟩:=DenL.two d;cases d1.int;obtain⟨e,ys,rfl,q2,f⟩:=vO d2;cases DenL.ints k.2 f;exact⟨a,rfl,e,q,q2⟩
 |false=>
  obtain⟨a,xs,rfl,q,d⟩:=vO h;cases DenL.ints k.2 d;exact⟨a,rfl,g rfl,q⟩
theorem OZ{b:Bool}(h:ik K F H b k c):Den K F H (dK b k) (.ref c):=by
 cases b with
 |true=>
  obtain⟨e,a,d⟩:=h;exact pO a (DenL.cons rfl (DenL.cons (pO d (DenL.ofInts k.2)) DenL.nil))
 |false=>exact pO h.2 (DenL.ofInts k.2)
abbrev pKD(b:Bool)(p:KyD×D):D:= .tup [dK b p.1,p.2]
def Dk(b:Bool)(kvs:List (KyD×D))(os:List D):Prop:=os=kvs.map (pKD b)/\(kvs.map (·.1)).Nodup/\kvs.length<=Qk/\∀p∈kvs,KyZ b p.1
theorem KM{b:Bool}{p q:KyD×D}(a:KyZ b p.1)(c:KyZ b q.1)(h:pKD b p=pKD b q):p=q:=by
 simp only[pKD,D.tup.injEq,TK,and_true]at h;exact T4 (Nh a c h.1) h.2
theorem k6{b:Bool}:∀{l m:List (KyD×D)},(∀p∈l,KyZ b p.1)->(∀p∈m,KyZ b p.1)->l.map (pKD b)=m.map (pKD b)->l=m
 |[],[],_,_,_=>rfl
 |[],_::_,_,_,h=>by cases h
 |_::_,[],_,_,h=>by cases h
 |p::l,q::m,hl,hm,h=>by
  rw[Qb,Qb,TK]at h;rw[KM (hl p PZ) (hm q PZ) h.1,k6 (λx a=>hl x (PN _ a)) (λx a=>hm x (PN _ a)) h.2]
theorem Dk.eq{b:Bool}{os:List D}(x:Dk b l os)(y:Dk b m os):l=m:=k6 x.2.2.2 y.2.2.2 (x.1.symm.trans y.1)
open Classical in
def lA(b:Bool)(os:List D):Option D:=if h:∃kvs,Dk b kvs os then on (.dct b (h.choose.map (·.1)) (h.choose.map (·.2)))else PH
theorem xm{b:Bool}{kvs:List (KyD×D)}{os:List D}(h:Dk b kvs os):lA b os=on (.dct b (kvs.map (·.1)) (kvs.map (·.2))):=by
 have q:∃kvs,Dk b kvs os:=⟨kvs,h⟩;unfold lA;rw[dif_pos q,q.choose_spec.eq h]
theorem vQ{b:Bool}{os:List D}(h:lA b os=on d):∃kvs,Dk b kvs os/\d= .dct b (kvs.map (·.1)) (kvs.map (·.2)):=by
 unfold lA at h;split at h
 ·rename_i q
  cases h;exact⟨_,q.choose_spec,rfl⟩
 ·cases h
noncomputable def RD(K:Qp)(b:Bool):AR where
 R:=λF H D as=>∃ep,∃a:List ((KyD×Pu.D)×PX×V),as=a.map (λz=>pKD b z.1)/\H D=on (dQ D b ep (a.map λz=>(z.1.1,z.2)))/\∀z∈a,ik K F H b z.1.1 z.2.1/\Den K F H z.1.2 z.2.2
 Z:=λl=>∃kvs more,Dk b kvs (l++more)
 tr:=λh k t=>by
  obtain⟨ep,a,e,f,c⟩:=h;exact⟨ep,a,e,k _ f,λz d=>⟨(c z d).1.tr t,Den.tr t _ _ (c z d).2⟩⟩
 zp:=λh=>by
  obtain⟨kvs,more,h⟩:=h;exact⟨kvs,_,by rw[←Q9];exact h⟩
def EX(f g:FD):FL:=λδ=>M.bind (f δ) λk=>M.bind (g δ) λv=>M.ret [.tup [k,v]]
theorem pk{b:Bool}{D:PX}:eY K (RD K b) D (BI K b D (tV K f E0) (tV K g E0)) (EX f g):=λF H δ β I σ as os Q fr hA B J hR e hz k=>by
 obtain⟨ep,d,rfl,hD,C⟩:=hR;obtain⟨W,β1,e1,e2⟩:=M.bind_inv e;obtain⟨X,β2,e3,e4⟩:=M.bind_inv e2;cases e4;obtain⟨kvs,more,L,Y,z3,Z⟩:=hz;have N:∀p∈d.map (·.1),KyZ b p.1:=λp r=>by
  obtain⟨z,h,rfl⟩:=Qc.mp r;exact(C z h).1.z
 have O:d.length<kvs.length:=by
  have:=Re VY L;simp at this;omega
 have ez:(d.map (·.1)).map (pKD b)=(kvs.take d.length).map (pKD b):=by
  rw[Uy,←L,Q9,WG (by simp),RA (by simp),P3];rfl
 have ek:=k6 N (λp r=>Z p (Tw r)) ez;have R:pKD b kvs[d.length]= .tup [W,X]:=by
  have h0:(kvs.map (pKD b))[d.length]?=on (.tup [W,X]):=by
   rw[←L,Q9,RK (by simp)];simp
  rw[PV,PM O]at h0;exact QB h0
 have u:=Z _ (QO O);generalize r:kvs[d.length]=p at R u;obtain⟨j,vv⟩:=p;simp only[pKD,Pu.D.tup.injEq,TK,and_true]at R;obtain⟨rfl,rfl⟩:=R;have y:j∉d.map (·.1.1):=λhm=>by
  have h2:kvs.take d.length++(j,vv)::kvs.drop (d.length+1)=kvs:=by
   rw[←r,←QT O,SJ]
  rw[←h2,←ek,QG,Qb,Wr]at Y;refine Y.2.2 j ?_ j PZ rfl;rw[P3];exact hm
 refine⟨F,δ,β,fr,J,E0.run e1 λv H1 t hv=>⟨F,δ,β1,t.fr,J.tr (t.tr fr),E0.run e3 λv2 H2 m T=>?_⟩⟩;have U:=Den.tr (m.tr t.fr) _ _ hv;obtain⟨c,rfl,kc⟩:=ue u U;have i:=(t.tr fr).trans (m.tr t.fr);refine⟨ep,_,j,c,rfl,m.kp D _ (t.kp D _ hD B) B,λx h=>?_,kc.s,?_,?_,λA=>?_⟩
 ·obtain⟨z,h',rfl⟩:=Qc.mp h
  exact((C z h').1.tr i).s
 ·rw[P3];exact y
 ·rw[PF];omega
 have tD:ToD F D H2 (upd H2 D (dQ D b A ((d.map λz=>(z.1.1,z.2))++[(j,c,v2)]))) I:=by
  refine⟨λa o h n _=>by rw[upd_ne n];exact h,λa h q=>?_,fr.bgA,λb l q=>?_⟩
  ·by_cases z:a=D
   ·subst z;rw[aq]at q;cases q
   ·rw[upd_ne z]at q;exact m.fr.occ a h q
  ·rw[upd_ne (B b l q).1.symm,upd_ne (B b l q).2.symm]
   exact m.fr.bag b l q
 have tt:=tD.tr m.fr hA;refine k σ _ (((t.trans m).toD D).trans tD) (J.tr (i.trans tt)) ⟨A,d++[((j,vv),c,v2)],by rw[QG];rfl,by rw[QG];exact aq,λz h=>?_⟩;rcases RN.mp h with h|h
 ·exact⟨(C z h).1.tr (i.trans tt),Den.tr (i.trans tt) _ _ (C z h).2⟩
 ·cases QH.mp h
  exact⟨kc.tr tt,Den.tr tt _ _ T⟩
theorem vP{F:Fx}{H:Hp}{α:Type}{f:α->D}{g:α->V}:∀{a:List α},(∀z∈a,Den K F H (f z) (g z))->DenL K F H (a.map f) (a.map g)
 |[],_=>DenL.nil
 |z::a,h=>DenL.cons (h z PZ) (vP λx b=>h x (PN z b))
end
theorem vN{K:Qp}{E:St->XK}{kb:Bool}{vars:List QN}{caps:List Nat}{g:TG}{f:PX->TB}{it:FL}{tg:TgF}{tt:Dn->M Bool}{b:FL}(j:cL K g tg)(k:dN tg)(l:∀D,eY K (RD K kb) D (f D) b){i:St}{H:Hp}{Q:VK}(h:tV K (gW vars.length caps it tg tt b (lA kb)) E i H Q):
  lU (λD=>dQ D kb 0 []) vars caps (iV K it E) (λD J=>c7 J g (tVT K tt E0) (f D)) i H Q:=by
 refine su j k l (λF H D=>⟨0,[],rfl,aq,λx a=>Qu a (by simp)⟩) (λos d e=>?_) h λF v m D os d fr c n e q=>?_
 ·obtain⟨kvs,s,_⟩:=vQ e
  exact⟨kvs,[],by rw[QC];exact s⟩
 ·obtain⟨kvs,s,rfl⟩:=vQ e
  obtain⟨ep,o,rfl,r,a⟩:=n;have t:kvs=o.map (·.1):=k6 s.2.2.2 (λp u=>by
   obtain⟨z,h,rfl⟩:=Qc.mp u;exact(a z h).1.z) (by rw[←s.1,P3];rfl)
  refine q _ _ (To.refl fr) ?_;unfold Den;subst t;refine⟨D,ep,_,rfl,⟨c,r⟩,by simp,λx h=>?_,?_⟩
  ·obtain⟨z,h',rfl⟩:=Qc.mp h
   exact(a z h').1
  ·rw[P3,P3]
   exact vP λz h=>(a z h).2
section
variable{X:Cx}{E:St->XK}{ke ve target iter:Expr}{ifs:List Expr}{rest:List RQ}{scope:Scope}{pos:UL}{Nc vars:List QN}{caps:List Nat}{g:TG}{tb:PX->TB}
theorem JV{kb:Bool}(c:X.calm=PP)(S:CmpScope X scope Nc vars caps)(d:PI X target iter (iV X.K it E))
  (e:∀(cl:List (QN×PX)) (C:PX) (a:List PX) (s:P7) (H:Hp),PG (aJ X Nc scope cl C a s H) target g/\dP (aJ X Nc scope cl C a s H) ifs (tVT X.K tt E0)/\∀D,PB (aJ X Nc scope cl C a s H) (.D ke ve) (⟨target,iter,ifs,0⟩::rest) scope pos 0 D (tb D))
  (f:cL X.K g tg) (i:dN tg) (j:∀D,eY X.K (RD X.K kb) D (tb D) b) (hs:∀x,Q0 iter X.env x=SB x:=by intro _;rfl):
  PE X (.DictComp ke ve (⟨target,iter,ifs,0⟩::rest) scope pos) (tV X.K (gW vars.length caps it tg tt b (lA kb)) E):=
 (DE (b:=kb) c S d e hs).imp λk H Q h=>vN f i j h
noncomputable def hG:List D->Option (List Int)
 |[]=>on []
 | .int i::r=>(hG r).map (i::·)
 |_=>PH
def ie:Bool->D->Option KyD
 |false,.tup ds=>(hG ds).map λl=>(0,l)
 |true,.tup [.int i,.tup ds]=>(hG ds).map λl=>(i,l)
 |_,_=>PH
theorem qY:∀(l:List Int),hG (l.map .int)=on l
 |[]=>rfl
 |i::l=>by show(hG (l.map .int)).map _=_;rw[qY l];rfl
theorem tupI_inv:∀{ds:List D} {l:List Int},hG ds=on l->ds=l.map .int
 |[],l,h=>by cases h;rfl
 | .int i::r,l,h=>by
  have h':(hG r).map (i::·)=on l:=h;cases q:hG r with
  |none=>rw[q]at h';cases h'
  |some m=>rw[q]at h';cases h';rw[tupI_inv q];rfl
 | .non::_,_,h=>by cases h
 | .bl _::_,_,h=>by cases h
 | .str _::_,_,h=>by cases h
 | .ty _::_,_,h=>by cases h
 | .txt::_,_,h=>by cases h
 | .lst _::_,_,h=>by cases h
 | .tup _::_,_,h=>by cases h
 | .scr _::_,_,h=>by cases h
 | .obj _ _ _::_,_,h=>by cases h
 | .bag::_,_,h=>by cases h
 | .adr _::_,_,h=>by cases h
 | .dct _ _ _::_,_,h=>by cases h
theorem rF{b:Bool}(h:KyZ b k):ie b (dK b k)=on k:=by
 cases b with
 |true=>show(hG _).map _=_;rw[qY];rfl
 |false=>show(hG _).map _=_;rw[qY];exact Re on (T4 (h rfl).symm rfl)
theorem pp{b:Bool}(h:ie b d=on k):KyZ b k/\d=dK b k:=by
 unfold ie at h;split at h
 ·rename_i ds
  cases q:hG ds with
  |none=>rw[q]at h;cases h
  |some l=>rw[q]at h;cases h;exact⟨λ_=>rfl,by rw[tupI_inv q];rfl⟩
 ·rename_i i ds
  cases q:hG ds with
  |none=>rw[q]at h;cases h
  |some l=>rw[q]at h;cases h;exact⟨λz=>(by cases z),by rw[tupI_inv q];rfl⟩
 ·cases h
noncomputable def lkD(ks:List KyD)(vs:List D)(k:KyD):Option D:=((ks.zip vs).find? λp=>decide (p.1=k)).map (·.2)
variable{K:Qp}{F:Fx}{H:Hp}
def RelD(K:Qp)(F:Fx)(H:Hp):Option D->Option V->Prop
 |none,v=>v=PH
 |some d,v=>∃u,v=on u/\Den K F H d u
theorem qu:∀{xs:List (KyD×PX×V)} {vs:List D},DenL K F H vs (xs.map (·.2.2))->RelD K F H (lkD (xs.map (·.1)) vs k) (lkV xs k)
 |[],vs,_=>by unfold lkD lkV;rfl
 |x::xs,vs,h=>by
  cases vs with
  |nil=>cases h
  |cons d vs=>
   obtain⟨u,r,e,a,b⟩:=h;rw[Qb,TK]at e;obtain⟨rfl,rfl⟩:=e;have ih:=qu (k:=k) b;unfold lkD lkV at ih⊢;rw[Qb,Sf,Tg,Tg];by_cases q:x.1=k
   ·rw[Qn q];exact⟨_,rfl,a⟩
   ·rw[QP q];exact ih
def ER:D->D->Option D
 | .dct b ks vs,y=>(ie b y).bind (lkD ks vs)
 |_,_=>PH
theorem Pd:bi K (Mc K) ER:=λF H β Q d1 d2 d y A fr h i e k=>by
 unfold ER at e;split at e
 ·rename_i b ks vs
  cases q:ie b d2 with
  |none=>rw[q]at e;cases e
  |some f=>
   rw[q]at e;have j:lkD ks vs f=on d:=e;obtain⟨l,rfl⟩:=pp q;obtain⟨c,rfl,m⟩:=ue l i;unfold Den at h;obtain⟨a,ep,xs,rfl,n,rfl,o,p⟩:=h;have:=qu (k:=f) p;rw[j]at this;obtain⟨u,r,t⟩:=this;exact⟨a,b,ep,xs,f,c,u,rfl,rfl,n.2,λx v=>(o x v).s,m.s,r,k u H (To.refl fr) t⟩
 ·cases e
def OS(K:Qp):V->List V->Hp->VK->Prop:=λx ys H Q=>∃a b ep xs k c z,x= .ref a/\ys=[.ref c,z]/\H a=on (dQ a b ep xs)/\(∀x∈xs,KyS K H b x.1 x.2.1)/\KyS K H b k c/\Q ((lkV xs k).getD z) H
variable{o e:Expr}{es:List Expr}{apos cpos:UL}
theorem KV(n:X.A.units+2<Vr):MtR X "dict.get" (OS X.K):=by
 intro l s N H x xs v us Q I r t h;obtain⟨a,b,ep,ys,k,c,z,rfl,rfl,u,B,C,q⟩:=h;cases r;obtain⟨O,J,rfl,r1,L⟩:=tQ t;cases r1;obtain⟨j,d,p,_,hs⟩:=mI I u B;have f:=mY (k:=k) p;refine call_meetsIn Xo d.typeIs PySem.F.entry_dict_get (PySem.F.args_dict_get_3 _ _ _) (meetsH_dict_get_default (KB X.prog X.w b) a c hs J) ⟨nU n,k,j,qw I C,d,_,H,I.tok _,?_,q⟩;cases m:lkV ys k with
 |none=>
  rw[m]at f;cases i:(Xr j k).map (·.2)with
  |none=>exact L
  |some w=>rw[i]at f;exact f.elim
 |some y=>
  rw[m]at f;cases i:(Xr j k).map (·.2)with
  |none=>rw[i]at f;exact f.elim
  |some w=>rw[i]at f;exact f
def EO(f:FD)(g:FL):FD:=λδ=>M.bind (f δ) λd=>match d with
 | .dct b ks vs=>M.bind (g δ) λas=>M.ofO (match as with
  |[k,z]=>(ie b k).map λk=>(lkD ks vs k).getD z
  |_=>PH)
 |_=>M.fail
theorem OH{g:FL}(hu:X.A.units+2<Vr)(ho:PE X o (tV X.K f E))(ha:PA X (e::es) (tVA X.K g E))
  (n:Uh o "get" X.env (Rk o X.env)=Rk o X.env:=by rfl)
  (B:((SA cpos (Qe (e::es) X.env)).all (λx=>!x.1)&&(Tt cpos (Sg [] X.env)).all (λx=>x.1.isSome)
   &&decide ((e::es).length+([]:List VE).length+(if([]:List VE).isEmpty then 0 else 1)<30))=PP:=by rfl)
  (p:(apos.endLine==cpos.line)=PP:=by rfl) (hs:Qe (e::es) X.env=(PU,Rk e X.env)::Qe es X.env:=by rfl) (m:(SA cpos (Qe es X.env)).any (·.1)=PU:=by rfl):
  PE X (.Call (.Attribute o "get" apos) (e::es) [] cpos) (tV X.K (EO f g) E):=by
 intro j s J H Q I h;obtain⟨F,δ,β,fr,vk,h⟩:=h;refine Zk n B p rfl (thn (ho j s J H _ I ⟨F,δ,β,fr,vk,(run.bind (R:=Den X.K F) h)⟩) λv s1 h1=>?_);obtain⟨x,H1,I1,r1,d,β1,t,hd,q1⟩:=h1;have fail:∀{N:M D},N=M.fail->run (Den X.K F) F E J N H1 Q β1->False:=λ{N} e r=>by
  obtain⟨r,β',e',_⟩:=r;rw[e]at e';cases e'
 cases d<;>first|exact(fail rfl q1).elim|skip
 rename_i b ks vs;have C:=hd;unfold Den at C;obtain⟨a,ep,xs,rfl,O,rfl,hk,dl⟩:=C;cases r1;obtain⟨ys,dd,_,_,_⟩:=mI I1 O.2 λx T=>(hk x T).s;refine⟨"dict","dict.get",Xa,Xo,PySem.F.type_dict_get,dd.typeIs,λb e=>?_,?_⟩
 ·cases e
  obtain⟨ob,_,_,g1,g2,_⟩:=dd;exact⟨ob,g1,g2.2.1⟩
 have hA:=ha cpos j s1 J H1 _ I1 ⟨F,δ,β1,t.fr,vk.tr (t.tr fr),run.bind (R:=DenL X.K F) q1⟩;rw[hs]at hA⊢;refine Vz (by show(PU||(SA cpos (Qe es X.env)).any (·.1))=PU;rw[m]<;>rfl) (XN (thn hA λus s2 h2=>?_))
 obtain⟨ws,L,I2,r2,as,β2,t2,U,q2⟩:=h2;obtain⟨z,y,kf⟩:=run.ofO q2;have tt:=t2.tr t.fr;split at y
 ·rename_i k zz
  cases W:ie b k with
  |none=>rw[W]at y;cases y
  |some i=>
   rw[W]at y;cases y;obtain⟨hz,rfl⟩:=pp W;obtain⟨w1,Y,rfl,Z,hw2⟩:=DenL.two U;obtain⟨c,rfl,kc⟩:=ue hz Z;have dl2:=DenL.tr tt _ _ dl;have hk2:∀x∈xs,KyS X.K L b x.1 x.2.1:=λx T=>((hk x T).tr tt).s;refine KV hu j s2 J L (.ref a) [.ref c,Y] (.ref a) us Q I2 rfl r2 ⟨a,b,ep,xs,i,c,Y,rfl,rfl,tt.kp a _ O.1 O.2,hk2,kc.s,?_⟩;refine kf _ L (To.refl t2.fr) ?_;show Den X.K F L ((lkD (xs.map (·.1)) vs i).getD zz) ((lkV xs i).getD Y);have l:=qu (k:=i) dl2;cases q:lkD (xs.map (·.1)) vs i with
   |none=>
    rw[q]at l;have l':lkV xs i=PH:=l;rw[l'];exact hw2
   |some d=>
    rw[q]at l;obtain⟨u,l',hu'⟩:=l;rw[l'];exact hu'
 ·cases y
end
end L2.Pu
namespace L2.Hs
open PySem PySem.Spec PyProof.Rows
section
variable{prog:QD}{w:QS}{A:Rg}{E:PY->P7->Prop}{s:P7}{d it v:PX}{od:Qy}{es:Array T6}{ep i:Nat}{ok ov:PY}
theorem yB(a:s.TypeIs (.ref d) "dict")(hd:(d==WJ)=PU)(h:Q (.ref s.heap.objs.size) {s with heap:=s.heap.push {cls:= .type "dict_items",data:= .fields #[.ref d]}}):Qi (QA prog w) A (W0 (.builtin "dict.items") [.ref d]) Q E s:=by
 refine Q1 F.slot_dict_items a F.entry_dict_items ?_ (F.args_dict_items_1 _);unfold Builtin.«dict.items»;refine My ?_;unfold Builtin.Dict.noArgs;refine My (wpAny_notOrdered_dict a ?_);show Qi _ _ (SB d) _ _ s;refine PL ?_;show Qi _ _ (WE d>>=_) _ _ s;unfold WE;rw[P0 (by rw[hd];exact P8)];exact My (PL (My (Rt (PL ⟨_,rfl,h⟩))))
theorem yj(a:s.heap.IsItemsView v d)(e:s.heap.get? d=on od)(hd:od.data= .dict es ep)
  (h:Q (.ref s.heap.objs.size) {s with heap:=s.heap.push {cls:= .type "dict_itemiterator",data:= .fields #[.none,.bool PU,.ref d,.int 0 0,.int es.size 0,.int ep 0,.none,.none]}}):Qi (QA prog w) A (Wl (.ref v)) Q E s:=by
 obtain⟨o,b,f,c⟩:=id a;refine VJ a.typeIs Yr (Q1 Yr a.typeIs F.entry_dict_items_iter ?_ (F.args_dict_items_iter_1 _));unfold Builtin.«dict_items.__iter__»;refine My (PL (My ?_));unfold Builtin.Dict_items.dictOf;refine My (RC b c (x:= .ref d) rfl (PL (My ?_)));unfold Builtin.Dict_items.newIterator;refine My (W6 e hd (My (XA e hd ?_)));simp only[show T3 "dict_itemiterator"=PP from by decide,QY];refine Rt (PL ⟨_,rfl,"dict_itemiterator",_,⟨_,Qj _ rfl,rfl⟩,RX.lookup,?_⟩)
  (by simp only[sizeOk,U4,Qo,Qh,Qa,Sx,Si];omega)
 simpa[UD,U4]using h
theorem yh(a:Vo s.heap it d i es.size ep ok ov)(h:Q (.ref it) s):Qi (QA prog w) A (Wl (.ref it)) Q E s:=by
 have c:s.TypeIs (.ref it) "dict_itemiterator":=⟨_,a,rfl⟩;refine VJ c W8 (Q1 W8 c (b:=Builtin.«dict_keyiterator.__iter__») (X3 (id':="dict_keyiterator.__iter__") (by kernel_rfl) rfl (by decide +kernel) (by kernel_rfl)) ?_ (F.args_dict_itemiterator_iter_1 _));show Qi _ _ (ret (.ref it)) _ _ s;exact PL ⟨_,rfl,"dict_itemiterator",_,c,RX.lookup,h⟩
theorem yi{e:T6}(m:Vo s.heap it d i es.size ep ok ov)(ho:s.heap.get? d=on od)(hd:od.data= .dict es ep)(Y:es[i]?=on e)
  (hQ:∀h',IsItemIterOut h' it d (i+1) es.size ep e.key e.val s.heap.objs.size->h'.get? s.heap.objs.size=on {cls:= .type "tuple",data:= .seq #[e.key,e.val]}->h'.objs.size=s.heap.objs.size+1->
   (∀b o,b≠it->s.heap.get? b=on o->h'.get? b=on o)->Q (on (.ref s.heap.objs.size)) {s with heap:=h'}):Qi (QA prog w) A (UC (.ref it)) Q E s:=by
 obtain⟨n,g,T,U,os⟩:=s;have u:Shared.TypeIs ⟨n,g,T,U,os⟩ (.ref it) "dict_itemiterator":=⟨_,m,rfl⟩;have W:i<es.size:=by
  rcases UX i es.size with h|h
  ·exact h
  ·simp[S9 h]at Y
 obtain rfl:es[i]=e:=by rw[U3 W]at Y;exact QB Y
 unfold UC;refine My (UW (wpAny_callSpecial?_slot (name:=Su "__next__") u RX
  (Q1 RX u WW ?_ (WM _))))
 refine My (PL (My (My ?_)))
 first|refine My (Tf u (PL ?_))|refine My (Uc u (PL ?_))
 refine My (Wm m rfl ?_);simp only[show T3 "dict_itemiterator"=PP from by decide,QY];show Qi _ _ (if(Qs d==Rc)=PP then _ else _) _ _ _;rw[P0 (show ¬((Qs d==Rc)=PP)from P8)];refine My (PL (My (W6 ho hd ?_)));rw[P0 (by simp)];refine My (PL (My (XA ho hd ?_)));rw[P0 (by simp)];refine PL ?_;simp only[show ¬((i:Int)<0)from by omega,QX,Rz,U3 W];refine My ?_
 first|refine My (Tf u (PL ?_))|refine My (Uc u (PL ?_))
 refine My (V4 u ?_);show Qi _ _ (X9 (.ref it) 3 (UD ((i:Int)+1))>>=_) _ _ ⟨n,g,T,U,os⟩;refine My (RE m (by simp) λa c f=>?_)
 replace f:QE it n a:=f
 replace c:Vo a it d (i+1) es.size ep ok ov:=by
  have e:((i+1:Nat):Int)=(i:Int)+1:=by omega
  unfold Vo;rw[e];simpa[UD]using c
 have l:Shared.TypeIs ⟨a,g,T,U,os⟩ (.ref it) "dict_itemiterator":=⟨_,c,rfl⟩;refine My (RH (My (V4 l (My (V4 l ?_)))));show Qi _ _ (Vj (.ref it) 6 es[i].key es[i].val) _ _ ⟨a,g,T,U,os⟩;unfold Vj;refine My (Yc ?_);have j:Vo (a.push {cls:= .type "tuple",data:= .seq #[es[i].key,es[i].val]}) it d (i+1) es.size ep ok ov:=PQ _ c;have k:a.objs.size=n.objs.size:=f.1;have Z:it≠n.objs.size:=Q5 (Qz m);have y:(a.push {cls:= .type "tuple",data:= .seq #[es[i].key,es[i].val]}).get? n.objs.size=on {cls:= .type "tuple",data:= .seq #[es[i].key,es[i].val]}:=by rw[←k];exact Qj _ rfl
 have B:(a.push {cls:= .type "tuple",data:= .seq #[es[i].key,es[i].val]}).objs.size=n.objs.size+1:=by rw[RJ,k]
 have C:∀b o,b≠it->n.get? b=on o->(a.push {cls:= .type "tuple",data:= .seq #[es[i].key,es[i].val]}).get? b=on o:=λb o X e=>PQ _ (f.extBut b o X e);generalize a.push {cls:= .type "tuple",data:= .seq #[es[i].key,es[i].val]}=h₂ at*;show Qi _ _ (U5 (.ref it)>>=_) _ _ ⟨h₂,g,T,U,os⟩;rw[k];refine My ?_;unfold U5;refine My (RC j rfl (x:= .none) rfl (PL ?_));simp only[QY];refine My (RC j rfl (x:=ok) rfl (My (RC j rfl (x:=ov) rfl ?_)));refine My (RE j (by simp) λp F H=>?_);refine My (RE F (by simp) λq I J=>?_);refine My (RE I (by simp) λr L N=>?_);refine My (RE L (by simp) λt O R=>?_);have sb:=((show QE it h₂ p from H).trans (show QE it p q from J)).trans ((show QE it q r from N).trans (show QE it r t from R));exact My (Xs (PL (PL ⟨_,rfl,PL (hQ t O (sb.extBut _ _ Z.symm y) (by rw[sb.1,B]) λb o X e=>sb.extBut b o X (C b o X e))⟩)))
theorem AH(g:A.handled=PH)(c:Vo s.heap it d i es.size ep ok ov)(f:s.heap.get? d=on od)(hd:od.data= .dict es ep)(h:es.size<=i)
  (j:∀h',WF it s.heap h'->Q PH {s with heap:=h'}):Qi (QA prog w) A (UC (.ref it)) Q E s:=by
 have e:s.TypeIs (.ref it) "dict_itemiterator":=⟨_,c,rfl⟩;unfold UC;refine My (UW (wpAny_callSpecial?_slot (name:=Su "__next__") e RX
  (Q1 RX e WW ?_ (WM _))))
 refine My (PL (My (My ?_)))
 first|refine My (Tf e (PL ?_))|refine My (Uc e (PL ?_))
 refine My (Wm c rfl ?_);simp only[show T3 "dict_itemiterator"=PP from by decide,QY];show Qi _ _ (if(Qs d==Rc)=PP then _ else _) _ _ s;rw[P0 (show ¬((Qs d==Rc)=PP)from P8)];refine My (PL (My (W6 f hd ?_)));rw[P0 (by simp)];refine My (PL (My (XA f hd ?_)));rw[P0 (by simp)];refine PL ?_;simp only[show ¬((i:Int)<0)from by omega,QX,Rz,S9 h];refine My ?_
 first|refine My (Tf e (PL ?_))|refine My (Uc e (PL ?_))
 show Qi _ _ (X9 (.ref it) 2 .none>>=_) _ _ s;refine My (UE c rfl (by simp) ?_);show Qi _ _ (Zi (.type "StopIteration") []>>=_) _ _ _;refine My ?_;simp only[Zi,newTuple];refine My (Rt ?_ (by size_fits));refine My (m:=UA _ _) (TZ (a:=Rc) (by first|rfl|(simp only[UA];rfl)) ?_)
 refine Rt ?_ (by size_fits);simp only[raiseNew];refine My (YJ ?_);rw[show A.in1.handled=PH from g];refine My (PL (wpAny_throw ?_));refine My (SL (T:="StopIteration") (b:=PP) ⟨_,Qj _ rfl,rfl⟩ X5 ?_);exact PL (j _ (((RI ..).extBut.push _).push _))
end
end L2.Hs
namespace L2.Pu
open PySem PySem.Spec PyProof.Rows L2.Hs
noncomputable def Iti(a:PX)(ep n:Nat):It:=
 ⟨λi H=>∃b xs,H a=on (dQ a b ep xs)/\xs.length=n/\i<n,
  λi H v c=>∃p x,H p=PH/\v= .ref p/\c=upd H p (.tup [.ref x.1,x.2])/\∀b xs,H a=on (dQ a b ep xs)->(xs[i]?).map (·.2)=on x,
  λi H=>∃b xs,H a=on (dQ a b ep xs)/\xs.length=n/\i=n⟩
theorem HR:∀{xs:List (KyD×PX×V)} {ys:List (KyD×PX×PY)} {i:Nat} {y:KyD×PX×PY},WH XY xs ys->ys[i]?=on y->∃x,xs[i]?=on x/\XY x y
 |_,_,0,_,.cons h t,e=>by cases e;exact⟨_,rfl,h⟩
 |_,_,i+1,_,.cons h t,e=>HR (i:=i) t e
 |_,_,0,_,.nil,e=>by cases e
 |_,_,_+1,_,.nil,e=>by cases e
section
variable{X:Cx}{pins:List (PX×Qy)}{σ:St}{H:Hp}{s:P7}{a:PX}{b:Bool}{ep i:Nat}{xs:List (KyD×PX×V)}
theorem qK(I:Inv X pins σ H s)(h:H a=on (dQ a b ep xs)):∃(o:Qy) (es:Array T6),s.heap.get? a=on o/\o.data= .dict es ep/\es.size=xs.length/\o.ExactDict/\(a==WJ)=PU/\∀(i:Nat) (e:T6),es[i]?=on e->∃x,xs[i]?=on x/\e.key= .ref x.2.1/\aN x.2.2 e.val:=by
 obtain⟨o,es,ys,j,k,l,d,u,m,v,g⟩:yG a b ep xs s.heap:=(I.hok a _ h).1;have n:ys.length=xs.length:=by rw[←PF (f:=(·.1)),←qU g,PF]
 refine⟨o,es,j,l,by rw[←QK,d,PF,n],k,m,λi e c=>?_⟩;rw[←Tj,d,PV]at c;cases q:ys[i]? with
 |none=>rw[q]at c;cases c
 |some y=>
  rw[q]at c;cases c;obtain⟨x,p,_,r,t⟩:=HR g q;exact⟨x,p,by rw[r],t⟩
theorem xE{P:QD}{w:QS}{K:Qp}{x1}(a it:PX)(n ep:Nat):
  Turn P w K (.Tuple elts x1 pos) (Iti a ep n) [it] it (λi h=>∃ok d,Vo h it a i n ep ok d) where
 mem:=by simp
 obj:=λi h st b c=>by
  obtain⟨ok,d,e⟩:=st;cases QH.mp c;exact⟨_,e,λv q=>by cases q⟩
 keep:=λi h h' st k=>by
  obtain⟨ok,d,e⟩:=st;exact⟨ok,d,k it (by simp) _ e⟩
 item:=by
  intro X m p r J i pins s σ H E I f st t;subst m p r;obtain⟨ok,d,e⟩:=st;obtain⟨b,xs,A,W,L⟩:=t;obtain⟨o,es,g,j,Y,h4,h5,Z⟩:=qK I A;have hn:n=es.size:=by omega
  subst hn;have B:es[i]?=on es[i]:=U3 L;refine yi e g j B λh' io gt sz kp=>⟨_,rfl,wpAny_letOwnedTupleGo_items (s:={s with heap:=h'}) io λC ei N=>?_⟩;obtain⟨x,ex,O,Q⟩:=Z i _ B;have R:s.heap.objs.size≠it:=Te (Qz e);have I2:Inv X pins σ (upd H s.heap.objs.size (.tup [.ref x.2.1,x.2.2])) {s with heap:=C,toks:=s.toks}:=
   Inv.turnNew I f (λb u c q=>N.extBut b u (λz=>c (by rw[z];simp)) (kp b u (λz=>c (by rw[z];simp)) q)) (P5 _) ⟨by show 2<=Qk;decide,[es[i].key,es[i].val],.cons O (.cons Q .nil),_,N.extBut _ _ R gt,rfl,_,rfl⟩
  refine⟨.ref s.heap.objs.size,_,I2,rfl,⟨s.heap.objs.size,x.2,I.hok.fresh (P5 _),rfl,rfl,λb' xs' F=>?_⟩,⟨_,_,ei⟩,λb c=>?_⟩
  ·obtain⟨o',es',T,U,_,_,_,g6⟩:=qK I F
   rw[g]at T;cases T;rw[j]at U;cases U;obtain⟨y,ey,l,fv⟩:=g6 i _ B;rw[ey];rw[O]at l
   injection l with l
   exact Re on (T4 l.symm (aN.inj fv Q))
  ·cases QH.mp c
   rw[upd_ne R.symm];exact(f _ c).1
 done:=by
  intro X m p r J i pins s σ H E I f st t;subst m p r;obtain⟨ok,d,e⟩:=st;obtain⟨b,xs,A,W,L⟩:=t;obtain⟨o,es,g,j,Y,_⟩:=qK I A;have hn:n=es.size:=by omega
  subst hn;refine AH (I.ok.hd J) e g j (by omega) λh' kp=>⟨rfl,Inv.turnL (t':=s.toks) I f λb o c q=>kp b o (λz=>c (by rw[z];simp)) q⟩
 self:=λ_ _ _ _ _ st h=>by
  obtain⟨ok,d,e⟩:=st;exact yh (es:=(Qm n (⟨0,.none,.none⟩:T6)).toArray) (by rw[Qo,Ru];exact e) h
variable{E:St->XK}{K:Qp}{o:Expr}{apos cpos tpos:UL}{elts:List Expr}{x1:Nat}
def iItm(to:TE):TI:=λσ H R=>to σ H λx c=>∃a b ep xs,x= .ref a/\c a=on (dQ a b ep xs)/\R (Iti a ep xs.length) c
theorem CZ(p:PE X o to)(c:Uh o "items" X.env (Rk o X.env)=Rk o X.env:=by rfl)(d:(apos.endLine==cpos.line)=PP:=by rfl):PI X (.Tuple elts x1 tpos) (.Call (.Attribute o "items" apos) [] [] cpos) (iItm to):=by
 intro pins s σ H R I h;refine wpAny_Call_method0_late c d (thn (p pins s σ H _ I h) λv f g=>?_);obtain⟨x,m,n,r1,a,b,ep,xs,rfl,r,q⟩:=g;cases r1;obtain⟨j,es,g,t,u,k,y,_⟩:=qK n r;refine⟨"dict","dict.items",Xa,PySem.F.slot_dict_items,PySem.F.type_dict_items,⟨j,g,k.1⟩,λb e=>?_,?_⟩
 ·cases e;exact⟨j,g,k.2.1⟩
 refine Vz rfl (PySem.evalArgs_none (yB ⟨j,g,k.1⟩ y ?_));have l:Inv X pins σ m {f with heap:=f.heap.push {cls:= .type "dict_items",data:= .fields #[.ref a]},toks:=f.toks}:=n.kept λb o e=>PQ _ e;refine yj (s:={f with heap:=f.heap.push {cls:= .type "dict_items",data:= .fields #[.ref a]}}) ⟨_,Qj _ rfl,rfl,rfl⟩ (PQ _ g) t ?_;rw[u];exact⟨_,[_],_,_,m,rfl,l.kept (t':=f.toks) λb o e=>PQ _ e,xE a _ _ ep,⟨_,_,Qj _ rfl⟩,λb A=>by
  cases QH.mp A;exact l.fpOk (P5 _) (l.hok.fresh (P5 _)),q⟩
def itmD:D->Option (List D)
 | .dct b ks vs=>on (US (λk v=> .tup [dK b k,v]) ks vs)
 |_=>PH
theorem AI{F:Fx}{H:Hp}{b:Bool}{a:PX}{ep:Nat}{xs:List (KyD×PX×V)}(C:¬F.A a)(I:H a=on (dQ a b ep xs))(g:ks=xs.map (·.1))(J:∀x∈xs,ik K F H b x.1 x.2.1)(h:DenL K F H vs (xs.map (·.2.2))):ItD K (Iti a ep xs.length) F H (US (λk v=> .tup [dK b k,v]) ks vs):=λT j β2 t fr i=>by
 have L:vs.length=xs.length:=by rw[h.length,PF]
 have N:ks.length=xs.length:=by rw[g,PF]
 have c:=t.kp a _ C I;refine⟨λd hd=>?_,λe=>⟨b,xs,c,rfl,by rw[e,V7,N,L,XS]⟩⟩;have e:i<xs.length:=by
  have:=(P9.mp hd).1;rw[V7]at this;omega
 refine⟨⟨b,xs,c,rfl,e⟩,λy U O=>?_⟩;obtain⟨p,x,l,rfl,rfl,Q⟩:=O;have m:=Q b xs c;rw[PM e]at m;have f:xs[i].2=x:=QB m;subst f;have n:bL j (upd j p (.tup [.ref xs[i].2.1,xs[i].2.2])):=bL.upd l;obtain⟨v,q⟩:∃v,vs[i]?=on v:=⟨_,PM (by omega)⟩;have R:ks[i]?=on xs[i].1:=by rw[g,PV,PM e];rfl
 rw[XO,R,q]at hd;cases hd;have d2:=DenL.tr t _ _ h;obtain⟨u,r,du⟩:=d2.get q;rw[PV,PM e]at r;cases r;have B:=(fr.same n).tr fr;exact⟨n,pO (.inl ⟨fr.fresh l,.inl aq⟩) (DenL.cons (Den.tr B _ _ (OZ ((J _ (QO e)).tr t))) (DenL.cons (Den.tr B _ _ du) DenL.nil))⟩
def nItm(f:FD):FL:=λδ=>M.bind (f δ) λd=>M.ofO (itmD d)
theorem Ld(m:PE X o (tV X.K f E))(c:Uh o "items" X.env (Rk o X.env)=Rk o X.env:=by rfl)(g:(apos.endLine==cpos.line)=PP:=by rfl):PI X (.Tuple elts x1 tpos) (.Call (.Attribute o "items" apos) [] [] cpos) (iV X.K (nItm f) E):=
 (CZ m c g).imp λσ H R j=>ex6 j λF δ β fr n h=>⟨F,δ,β,fr,n,(run.bind (R:=Den X.K F) h).mono λv p j=>by
  obtain⟨d,β1,t,hd,r1⟩:=j;obtain⟨ds,e,k⟩:=run.ofO r1;cases d<;>first|(cases e;done)|skip
  cases e;unfold Den at hd;obtain⟨a,ep,xs,rfl,l,q,r,u⟩:=hd;exact⟨a,_,ep,xs,rfl,l.2,k _ p (To.refl t.fr) (AI l.1 l.2 q r u)⟩⟩
end
end L2.Pu
namespace L2.Hs
open PySem PySem.Spec PyProof.Rows
theorem wP:mroOf (.type "reversed")=SB [.type "reversed",.type "object"]:=by rw[mroOf_type];kernel_rfl
theorem DU:typeLookup (.type "reversed") "__new__"=SB (on (.builtin "reversed.__new__")):=by rw[Xz,Wb];kernel_rfl
theorem DP:Bind.madeBy (.type "reversed")=SB (on "reversed.__new__"):=madeBy_type wP DU (by decide +kernel)
theorem Ki:isSubtype (.type "reversed") (.type "reversed")=SB PP:=by rw[Vs];kernel_rfl
theorem CH:isSubtype (.type "range_iterator") (.type "reversed")=SB PU:=by rw[Vs];kernel_rfl
theorem Lk:entryFor table "reversed.__new__"=on Builtin.«reversed.__new__»:=entryFor_of_tree (by kernel_rfl)
section
variable{prog:QD}{w:QS}{A:Rg}{E:PY->P7->Prop}{s:P7}
theorem EV(a:IsRange s.heap r 0 n 1 t u v)(j:0<=n)(g:n<2^62)
  (h:Q (.ref s.heap.objs.size) {s with heap:=s.heap.push {cls:= .type "range_iterator",data:= .fields #[UD (n-1),UD n,UD (-1)]}}):Qi (QA prog w) A (W0 (.type "reversed") [.ref r]) Q E s:=by
 refine wpAny_call (codeAny_of_tree ?_);show Qi _ _ (callAny (.type "reversed") _) _ _ _;refine PL ⟨Code.quiet_builtin _ (by decide +kernel),Xy F.entry_type_call ?_⟩;rw[Around.under_plain (weight_type_call_type "reversed" [.ref r] []) (units_type_call_type "reversed" [.ref r] [])];have g:(SW "reversed"==SW "type")=PU:=by decide +kernel
 have k:((YQ "reversed").bind (·.mro.findSome? λt=>(YQ t).bind λb=>if b.noNew then on PP else if b.attrs.any (·.1=="__new__")then on PU else PH)).getD PU=PU:=by decide +kernel
 have e:=wP;have c:=DP;have i:checkTypeCall "reversed" ⟨[.ref r],[]⟩=SB ():=by kernel_rfl
 repeat (any_goals (first|assumption|wp_step))
 refine codeAny_call_builtin (by decide +kernel) Lk (TZ (show checkBuiltinCall "reversed.__new__" ⟨[.type "reversed",.ref r],[]⟩=SB () by kernel_rfl) ?_);have f:s.TypeIs (.ref r) "range":=⟨_,a,rfl⟩;unfold Builtin.«reversed.__new__»
 repeat (any_goals (first|assumption|wp_step))
 refine TZ Ki (PL ?_);refine My (m:=Ve _ _ _) ?_;refine TZ (show Ve "reversed" (SW "reversed") ⟨[.type "reversed",.ref r],[]⟩=SB ()from rfl) ?_;refine My (m:=checkCount "reversed" 1 1 _) (PL ?_);show Qi _ _ (specialOf (.ref r) (Su "__reversed__")>>=_) _ _ s;refine My (SX f F.slot_range_reversed.lookup ?_);show Qi _ _ (bindSpecial (.builtin "range.__reversed__") (.ref r)>>=_) _ _ s;refine My (TZ (F.slot_range_reversed.bind _) ?_);show Qi _ _ (rule "reversed.__new__.own-method">>=_) _ _ s;refine My (T0 (My (wpAny_runValue (codeAny_call_builtin F.slot_range_reversed.plain F.entry_range_reversed (F.slot_range_reversed.check _ _ _ _ _ _ _ _ f (F.args_range_reversed_1 _) ?_)))));unfold Builtin.«range.__reversed__»;refine My (m:=selfOnly "range.__reversed__" _) (PL (My ?_));unfold Builtin.Range.rangeFields;refine My (RC a rfl (x:= .int 0 t) rfl (My (m:=asInt? _) (PL ?_)));refine My (RC a rfl (x:= .int n u) rfl (My (m:=asInt? _) (PL ?_)));refine My (RC a rfl (x:= .int 1 v) rfl (My (m:=asInt? _) (PL (PL ?_))));have hn:Wq 0 n 1=n:=by rw[rangeSize_one];split<;>omega
 simp only[hn];have d:(Rm 0&&Rm n&&Rm 1&&Rm (-1)&&Rm (0-1)&&Rm n)=PP:=by
  have:Rm n=PP:=by unfold Rm;simp;omega
  rw[this];decide
 simp only[d,QY,Ry,Qd,QX];rw[show(0:Int)+(n-1)*1=n-1 by omega];refine My (Rt (PL (PL ?_)));exact My (SL (T:="range_iterator") (b:=PU) ⟨_,Qj _ rfl,rfl⟩ CH (My (T0 (PL h))))
end
end L2.Hs
namespace L2.Pu
open PySem PySem.Spec PyProof.Rows L2.Hs
noncomputable def Itd(n:Nat):It:=⟨λi _=>i<n,λi H v a=>v= .int ((n:Int)-1-i)/\a=H,λi _=>n<=i⟩
theorem v5{P:QD}{w:QS}{K:Qp}(it:PX)(n:Nat):Turn P w K tg (Itd n) [it] it (λi h=>Xl h it ((n:Int)-1+(i:Nat)*-1) ((n:Int)-(i:Nat)) (-1)) where
 mem:=by simp
 obj:=λi h st b c=>by
  cases QH.mp c;exact⟨_,st,λv z=>by
   have C:Data.fields _=Data.cell v:=z;cases C⟩
 keep:=λi h h' st k=>k it (by simp) _ st
 item:=by
  intro X g j l m i a s A H E I f st p;subst g j l;obtain⟨q,f1,f2,r,u,y⟩:=f it (by simp);refine(Walks.range (prog:=X.prog) (w:=X.w) (I.ok.hd m) it ((n:Int)-1) (-1) n).item i s _ _ p st λv h' B F d J=>?_;obtain⟨t,rfl⟩:=F;have L:Inv X a A H {s with heap:=h',toks:=B}:=I.turned (λb o c e=>J b o (by simpa using c) e) q f1 r u y;exact⟨_,rfl,uj (s:={s with heap:=h',toks:=B}) (n:="range_iterator") d rfl rfl (by decide) ⟨.int ((n:Int)-1-i),H,L,⟨t,by rw[show(n:Int)-1+(i:Int)*-1=(n:Int)-1-i by omega]⟩,⟨rfl,rfl⟩,d,λb c=>(f b c).1⟩⟩
 done:=by
  intro X g j l m i a s A H E I f st p;subst g j l;obtain⟨q,f1,f2,r,u,y⟩:=f it (by simp);exact Zl (I.ok.hd m) st (by have:n<=i:=p;omega) λh' N=>⟨rfl,I.turned (t':=s.toks) (λb o c e=>N b o c e) q f1 r u y⟩
 self:=λ_ _ _ _ _ st h=>V5 st h
section
variable{X:Cx}{E:St->XK}{K:Qp}{tg:Expr}
def Po(a:TA):TI:=λb H R=>a b H λvs c=>∃j:Int,vs=[.int j]/\0<=j/\j<2^62/\R (Itd j.toNat) c
theorem zE(f:Gl X "reversed")(g:X.mg "reversed"=PH)(n:Gl X "range")(hm:X.mg "range"=PH)(ha:PA X [a] ta)(hs:Qe [a] X.env=[(PU,Rk a X.env)]:=by rfl)
  (i:Qe [.Call (.Name "range" p) [a] [] pos] X.env=[(PU,Rk (.Call (.Name "range" p) [a] [] pos) X.env)]:=by rfl):PI X tg (.Call (.Name "reversed" p2) [.Call (.Name "range" p) [a] [] pos] [] pos2) (Po ta):=by
 intro c s l H R I h;refine Call_ (gf I f g PyProof.Rows.Boot.«reversed» (RB ?_ i rfl));refine Yp (Call_ (gf I n hm boot_range (RB (thn (ha pos c s l H _ I h) λus d r=>?_) hs rfl)));obtain⟨vs,m,v,r1,j,rfl,q1,q2,q⟩:=r;obtain⟨u,rfl,t,rfl⟩:=kN r1;refine call_range_1 (YL (EV (IsRange.new ..) q1 q2 (V5 (x:=j-1) (left:=j) (step:=-1) (Qj _ rfl) ?_)));have k:Inv X c l m {d with heap:=d.heap.push {cls:= .type "range",data:= .fields #[.int 0 d.toks,.int j t,.int 1 (d.toks+1)]},toks:=d.toks+1+1}:=v.kept λb o e=>PQ _ e;refine⟨_,[_],_,_,m,rfl,k.kept (t':=d.toks+1+1) λb o e=>PQ _ e,v5 _ j.toNat,?_,λb y=>?_,q⟩
 ·show Xl _ _ (((j.toNat:Nat):Int)-1+((0:Nat):Int)*-1) (((j.toNat:Nat):Int)-((0:Nat):Int)) (-1)
  rw[show((j.toNat:Nat):Int)-1+((0:Nat):Int)*-1=j-1 by omega,show((j.toNat:Nat):Int)-((0:Nat):Int)=j by omega];exact Qj _ rfl
 ·cases QH.mp y
  exact k.fpOk (P5 _) (k.hok.fresh (P5 _))
noncomputable def iu(n:Nat):List D:=(P4 n).map λ(i:Nat)=> .int ((n:Int)-1-i)
theorem yk:ItD K (Itd n) F H (iu n):=λe f β2 t fr i=>by
 refine⟨λd hd=>?_,λa=>?_⟩
 ·unfold iu at hd
  have a:i<n:=by
   have:=(P9.mp hd).1;simpa using this
  rw[PV,Rf a]at hd;cases hd;exact⟨a,λx g ⟨b,c⟩=>by subst b c;exact⟨bL.refl _,rfl⟩⟩
 ·show n<=i
  rw[a];simp[iu]
def tT:List D->Option (List D)
 |[.int j]=>if(decide (0<=j)&&decide (j<2^62))=PP then on (iu j.toNat)else PH
 |_=>PH
theorem EI(b:Gl X "reversed")(c:X.mg "reversed"=PH)(j:Gl X "range")(hm:X.mg "range"=PH)(ha:PA X [a] (tVA X.K g E))(hs:Qe [a] X.env=[(PU,Rk a X.env)]:=by rfl)
  (d:Qe [.Call (.Name "range" p) [a] [] pos] X.env=[(PU,Rk (.Call (.Name "range" p) [a] [] pos) X.env)]:=by rfl):PI X tg (.Call (.Name "reversed" p2) [.Call (.Name "range" p) [a] [] pos] [] pos2) (iV X.K (bV tT g) E):=
 (zE b c j hm ha hs d).imp λq H R f=>ex6 f λF δ β fr m h=>⟨F,δ,β,fr,m,(run.bind (R:=DenL X.K F) h).mono λvs n f=>by
  obtain⟨ds,β1,t,hd,r1⟩:=f;obtain⟨l,e,k⟩:=run.ofO r1;unfold tT at e;split at e
  ·split at e
   ·rename_i i
    cases e;simp only[QI,QR]at i;obtain⟨v,rfl,o⟩:=DenL.one hd;cases o.int;exact⟨_,rfl,i.1,i.2,k _ n (To.refl t.fr) yk⟩
   ·cases e
  ·cases e⟩
variable{e m:Expr}{te tm:TE}{pos p2:UL}
theorem CY(a:List PY):Y7 a.toArray PH PH (on (-1))=a.reverse.toArray:=by
 have b:TY PH PH (on (-1)) a.toArray.size=((a.length:Int)-1,-1,-1):=by simp[TY]
 unfold Y7;rw[b];refine Re _ ?_;have c:sliceRange ((a.length:Int)-1) (-1) (-1)=(P4 a.length).map λk=>a.length-1-k:=by
  unfold sliceRange;have d:(if(-1:Int)>0 then(if(a.length:Int)-1< -1 then(-1-((a.length:Int)-1)+-1-1)/ -1 else 0)else(if(a.length:Int)-1>-1 then((a.length:Int)-1- -1- -1-1)/(- -1)else 0)).toNat=a.length:=by
   rw[P0 (by decide)];split
   ·rw[show(- -1:Int)=1 by decide,Int.ediv_one];omega
   ·omega
  simp only[d];exact Qx λk _=>by omega
 show(sliceRange ((a.length:Int)-1) (-1) (-1)).filterMap _=_;rw[c,List.filterMap_map];rcases a with _|⟨x,r⟩
 ·rfl
 generalize j:x::r=a;rw[vG (g:=λk=>a.getD (a.length-1-k) x) λk f=>by
  have:k<a.length:=Qq.mp f;simp only[U1,VS];rw[PR,PM (by omega)];rfl]
 refine Sa (by simp) λi h l=>?_;have n:i<a.length:=by simpa using h
 rw[S5,Ta,Yj,PR,PM (by omega)];rfl
def tRev(K:Qp)(te tm:TE):TE:=λc H Q=>te c H λx d=>tm c d λy b=>∃a xs,x= .ref a/\y= .int (-1)/\SqL K b a xs/\∀p,b p=PH->Q (.ref p) (upd b p (.lst xs.reverse))
theorem Mo(l:PE X e te)(hm:PE X m tm):PE X (.Subscript e (.Slice PH PH (on m) p2) pos) (tRev X.K te tm):=by
 intro c s f H Q I h;refine Subscript_ (thn (l c s f H _ I h) λv n o=>?_);obtain⟨x,p,r,r1,q1⟩:=o;refine wpAny_Slice ?_;rw[YF];refine PL (PL ?_);rw[evalPart_some];refine thn (hm c n f p _ r q1) λu d B=>?_;obtain⟨y,C,g,F,a,xs,rfl,rfl,sq,q⟩:=B;cases r1;obtain⟨t,rfl⟩:=F;obtain⟨its,i,pl,j⟩:=g.list sq;have k:Inv X c f C {d with heap:=d.heap.push {cls:= .type "slice",data:= .fields #[.none,.none,.int (-1) t]}}:=g.kept (t':=d.toks) λb J q=>PQ _ q;show Qi (QA X.prog X.w) X.A (YH e (.Slice PH PH (on m) p2) (.ref a) (.ref d.heap.objs.size)) (EP X c f Q) X.xe {d with heap:=d.heap.push {cls:= .type "slice",data:= .fields #[.none,.none,.int (-1) t]}};refine tail_any (ops:=[.ref a,.ref d.heap.objs.size]) (pl.isList.push _).typeIs slot_list_getitem.lookup (YI (pl.isList.push _) (WN ..) .none .none (.int (-1) t) (by simp) ?_ (by rw[Qo,←i.length];exact j)) (by with_unfolding_all rfl)
 rw[CY];exact⟨.ref _,_,k.lnew (t':=d.toks) (its:=its.reverse) (ys:=xs.reverse) i.reverse (by rw[Yu];exact j),rfl,q _ (k.hok.fresh (P5 _))⟩
noncomputable def L9:D->D->Option D
 | .lst ds,.int (-1)=>on (.lst ds.reverse)
 |_,_=>PH
theorem DenL.reverse:∀{ds:List D} {xs:List V},DenL K F H ds xs->DenL K F H ds.reverse xs.reverse
 |[],xs,h=>by have q:xs=[]:=h;subst q;exact DenL.nil
 |d::ds,xs,h=>by
  obtain⟨x,r,rfl,a,b⟩:=h;rw[Vg,Vg];exact DenL.append (DenL.reverse b) (DenL.cons a DenL.nil)
theorem OF(o:PE X e (tV X.K f E))(hm:PE X m (tV X.K g E)):PE X (.Subscript e (.Slice PH PH (on m) p2) pos) (tV X.K (f2 L9 f g) E):=
 (Mo o hm).imp λu H Q b=>ex6 b λF δ β fr l h=>⟨F,δ,β,fr,l,(run.bind (R:=Den X.K F) h).mono λv y b=>ex5 b λd β1 t hd r1=>⟨F,δ,β1,t.fr,l.tr (t.tr fr),(run.bind (R:=Den X.K F) r1).mono λA B b=>ex5 b λd2 β2 i j q=>by
  obtain⟨z,c,k⟩:=run.ofO q;unfold L9 at c;split at c
  ·cases c
   obtain⟨a,xs,rfl,sq,r⟩:=Den.sqL (Den.tr (i.tr t.fr) _ _ hd);cases j.int;exact⟨a,xs,rfl,rfl,sq,λp n=>k _ _ (i.fr.upd _ n) (Den.newL i.fr n (DenL.reverse r))⟩
  ·cases c⟩⟩
end
end L2.Pu
namespace L2.Pu
open PySem
theorem hu2{A:Rg}(a:Room k A):A.units+2<Vr:=Sj (YR (by decide:2<=64) _) a.units
open PySem.Spec PyProof.Rows L2.Hs
section
variable{X:Cx}{E:St->XK}{ke ve target iter:Expr}{ifs:List Expr}{rest:List RQ}{scope:Scope}{pos:UL}{Nc vars:List QN}{caps:List Nat}{g:TG}{tb:PX->TB}
theorem Kz{kb:Bool}{b d:UL}(y:X.N.Nodup)(k:X.N[i]?=on x)(B:Loc X.env.scope x)(F:X.calm=PP)(S:CmpScope X scope Nc vars caps)(L:PI X target iter wi)
  (O:∀(cl:List (QN×PX)) (C:PX) (j:List PX) (s:P7) (H:Hp),PG (aJ X Nc scope cl C j s H) target g/\dP (aJ X Nc scope cl C j s H) ifs tt/\∀D,PB (aJ X Nc scope cl C j s H) (.D ke ve) (⟨target,iter,ifs,0⟩::rest) scope pos 0 D (tb D))
  (l:UP (.DictComp ke ve (⟨target,iter,ifs,0⟩::rest) scope pos) (on (.Name x b)) d.line X.env=SB PP:=by rfl)
  (hs:∀x,Q0 iter X.env x=SB x:=by intro _;rfl) (R:X.fn x=PP\/X.env.scope.names.lookup x=on .local:=by first|exact .inl rfl|exact .inr rfl|assumption):
  PS X (.Assign [.Name x b] (.DictComp ke ve (⟨target,iter,ifs,0⟩::rest) scope pos) d) (jL (lU (λD=>dQ D kb 0 []) vars caps wi λD J=>c7 J g tt (tb D)) (fS i)):=by
 intro f s U H D I h;rw[exec_Assign_Name_used _ _ _ _ l];refine My (SK (My ?_));show Qi _ X.A (do let _ ←comprehension (.DictComp ke ve (⟨target,iter,ifs,0⟩::rest) scope pos) scope X.env _ newDict PU (Rk iter X.env) (on (U9 (.Name x b) X.env))) _ _ s
 refine My (Q7 (S8 (use:=on (U9 (.Name x b) X.env)) (Q:=λ_ s'=>SP X f D .next s') rfl hs (S.clo I.ok) S.kind S.loc
  (Q7 (L f s U H _ I h) (λv s1 W=>Q7 W (λY Z n=>?_) λ_ _ e=>e) λ_ _ e=>e)) (λ_ s' hq=>PL (PL hq)) λ_ _ e=>e)
 obtain⟨it,j,tn,J,H2,e,o,T,p,f2,q⟩:=n;subst e;refine gY (c:= .D ke ve) vd (RR:=λacc C=>X2 (QA X.prog X.w) X.A X.xe (on (U9 (.Name x b) X.env)) _ acc C) F S O o T p f2 q λA C s' H' m I' ns r q'=>?_;show Qi _ X.A (U9 (.Name x b) X.env (.ref A)) _ _ s';refine W5 (lW I' y k B (v:= .ref A) rfl (λZ o n=>?_) R);obtain⟨a,sb,ha⟩:=n;have t:C≠a:=by
  rcases ha with rfl|ha
  ·exact r.2.1
  ·exact λz=>r.2.2.2.1 x a ha z.symm
 exact⟨m,ns.sameBut sb t,λh' u=>⟨_,H',o.letgo r u,q'⟩⟩
theorem zj{kb:Bool}{a c:UL}(j:X.N.Nodup)(d:X.N[i]?=on x)(k:Loc X.env.scope x)(l:X.calm=PP)(S:CmpScope X scope Nc vars caps)(m:PI X target iter (iV X.K it E))
  (n:∀(cl:List (QN×PX)) (C:PX) (f:List PX) (s:P7) (H:Hp),PG (aJ X Nc scope cl C f s H) target g/\dP (aJ X Nc scope cl C f s H) ifs (tVT X.K tt E0)/\∀D,PB (aJ X Nc scope cl C f s H) (.D ke ve) (⟨target,iter,ifs,0⟩::rest) scope pos 0 D (tb D))
  (o:cL X.K g tg) (p:dN tg) (q:∀D,eY X.K (RD X.K kb) D (tb D) b)
  (e:UP (.DictComp ke ve (⟨target,iter,ifs,0⟩::rest) scope pos) (on (.Name x a)) c.line X.env=SB PP:=by rfl)
  (hs:∀x,Q0 iter X.env x=SB x:=by intro _;rfl) (r:X.fn x=PP\/X.env.scope.names.lookup x=on .local:=by first|exact .inl rfl|exact .inr rfl|assumption):
  PS X (.Assign [.Name x a] (.DictComp ke ve (⟨target,iter,ifs,0⟩::rest) scope pos) c) (tG X.K X.H₀ (gj i (gW vars.length caps it tg tt b (lA kb))) E):=
 aI ((Kz (kb:=kb) j d k l S m n e hs r).imp λD t H h=>vN o p q h)
end
end L2.Pu
namespace L2.Hs
open PySem PySem.Spec PyProof.Rows
section
variable{X:Cx}
def Mb(K:Qp):R2:=λx y H Q=>∃a b ep xs k c,x= .ref c/\y= .ref a/\H a=on (dQ a b ep xs)/\(∀x∈xs,KyS K H b x.1 x.2.1)/\KyS K H b k c/\Q (.bl (lkV xs k).isNone) H
theorem wL(i:X.A.units+2<Vr):OpR X (Ro .NotIn) (Mb X.K):=by
 intro c s t H x y v u Q I j l h;obtain⟨d,b,ep,xs,k,a,rfl,rfl,m,n,o,q⟩:=h;cases j;cases l;obtain⟨ys,hm,p,_,hd⟩:=mI I m n;have f:=mY (k:=k) p;show Qi _ _ (do return Wa (!(←contains (.ref d) (.ref a)))) _ _ s
 refine My ?_;unfold contains
 try with_reducible refine RH ?_
 refine My (SX hm.typeIs slot_dict_contains.lookup ?_);show Qi _ _ (if(on (Value.builtin "dict.__contains__")==on Rc)=PP then _ else _) _ _ s;rw[P0 (by rw[beq_builtin_none];exact P8)];refine My (wpAny_callSpecialUnlessNone?_slot (name:=Su "__contains__") hm.typeIs slot_dict_contains
  (Q1 slot_dict_contains hm.typeIs entry_dict_contains ?_ (args_dict_contains _ _)))
 show Qi _ _ (dictGet d (.ref a)>>=_) _ _ s;refine My (wpAny_dictGet_heap (nU i) (qw I o) hm ?_);cases g:Xr ys k with
 |some r=>
  rw[g]at f;cases e:lkV xs k with
  |none=>rw[e]at f;exact f.elim
  |some z=>
   rw[e]at q;show Qi _ _ (ret (.bool PP)) _ _ _;exact PL ⟨_,rfl,Rj (PL ⟨.bl _,H,I.tok _,rfl,q⟩)⟩
 |none=>
  rw[g]at f;cases e:lkV xs k with
  |some z=>rw[e]at f;exact f.elim
  |none=>
   rw[e]at q;show Qi _ _ (Builtin.Dict.pendingKey? d (.ref a)>>=_) _ _ _;exact My (wpAny_pendingKey_other hd (PL ⟨_,rfl,Rj (PL ⟨.bl _,H,I.tok _,rfl,q⟩)⟩))
end
end L2.Hs
namespace L2.Pu
open PySem PySem.Spec PyProof.Rows L2.Hs
section
variable{K:Qp}
def DK:D->D->Option D
 |y,.dct b ks vs=>(ie b y).map λk=> .bl (lkD ks vs k).isNone
 |_,_=>PH
theorem O9:bi K (Mb K) DK:=λF H β Q d1 d2 d p r fr h g e k=>by
 unfold DK at e;split at e
 ·rename_i b ks vs
  cases q:ie b d1 with
  |none=>rw[q]at e;cases e
  |some f=>
   rw[q]at e;cases e;obtain⟨i,rfl⟩:=pp q;obtain⟨c,rfl,j⟩:=ue i h;unfold Den at g;obtain⟨a,ep,xs,rfl,l,rfl,m,n⟩:=g;refine⟨a,b,ep,xs,f,c,rfl,rfl,l.2,λx o=>(m x o).s,j.s,?_⟩;have:=qu (k:=f) n
   dsimp only at k
   cases q2:lkD (xs.map (·.1)) vs f with
   |none=>
    rw[q2]at this k;have t:lkV xs f=PH:=this;rw[t];exact k _ H (To.refl fr) rfl
   |some z=>
    rw[q2]at this k;obtain⟨u,t,_⟩:=this;rw[t];exact k _ H (To.refl fr) rfl
 ·cases e
end
end L2.Pu
namespace L2.Pu
open PySem PySem.Spec PyProof.Rows
section
variable{X:Cx}{E:St->XK}{K:Qp}{st:Rh}{H₀:Hp}{B:Ow}{bg:Option (PX×PX)}{H H':Hp}{δ:Ds}{β β':Bg}{σ:St}
end
end L2.Pu
namespace L2.Pu
open PySem L2.Hs
def lf(k:List Int):LI->LI
 |[]=>[k]
 |x::l=>if cZ k x=PP then k::x::l else if k=x then x::l else x::lf k l
theorem insU_mem:∀{l:LI},y∈lf k l↔y=k\/y∈l
 |[]=>by simp[lf]
 |x::l=>by
  unfold lf;split
  ·simp
  ·split
   ·rename_i h
    subst h;simp
   ·rw[Qf,insU_mem,Qf]
    exact or_left_comm
theorem wX:∀{l:LI},Up l->Up (lf k l)
 |[],_=>by unfold lf;exact Ue _ _
 |x::l,h=>by
  obtain⟨a,b⟩:=Ub.mp h;unfold lf;split
  ·rename_i q
   refine Ub.mpr ⟨λy hy=>?_,h⟩;rcases Qf.mp hy with rfl|hy
   ·exact q
   ·exact qv q (a y hy)
  ·split
   ·exact h
   ·rename_i q1 q2
    refine Ub.mpr ⟨λy hy=>?_,wX b⟩;rcases insU_mem.mp hy with rfl|hy
    ·cases q:cZ x y with
     |true=>rfl
     |false=>exact Qu (nQ (by simpa using q1) q) q2
    ·exact a y hy
def lX(ks:LI):LI:=ks.foldr lf []
theorem nk:∀ks,Up (lX ks)
 |[]=> .nil
 |k::ks=>wX (nk ks)
theorem eM:∀{ks:LI},y∈lX ks↔y∈ks
 |[]=>by simp[lX]
 |k::ks=>by
  show y∈lf k (lX ks)↔_;rw[insU_mem,eM,Qf]
theorem HZ{l:LI}(h:Up l):l.Nodup:=h.imp λ{a b} q e=>by
 subst e;rw[iH]at q;cases q
theorem LT{ks:LI}(b:∀k∈ks,1<=k.length){m:LI}(hm:m.length<63)(c:∀k∈ks,k∈m):kR (ks.map tpI)=on (.lst ((lX ks).map tpI)):=by
 refine CK ⟨nk ks,Sj (mq (HZ (nk ks)) λx e=>c x (eM.mp e)) hm,λk a=>⟨b k (eM.mp a),Qc.mpr ⟨k,eM.mp a,rfl⟩⟩,λd hd=>?_⟩;obtain⟨k,a,rfl⟩:=Qc.mp hd;exact⟨k,eM.mpr a,rfl⟩
end L2.Pu
namespace L2.Nt
noncomputable def sm{α:Type}(l:List α)(f:α->Nat):Nat:=(l.map f).sum
section
variable{α β:Type}
theorem uE{f:α->Nat}:sm [] f=0:=rfl
theorem bt{a:α}{l:List α}{f:α->Nat}:sm (a::l) f=f a+sm l f:=by unfold sm;rw[Qb,Qw]
theorem lY{l m:List α}{f:α->Nat}:sm (l++m) f=sm l f+sm m f:=by unfold sm;rw[QG,WQ]
theorem dB:∀{l:List α},(∀a∈l,f a=g a)->sm l f=sm l g
 |[],_=>rfl
 |a::l,h=>by rw[bt,bt,h a PZ,dB λb c=>h b (PN a c)]
theorem j5{g:β->α}{f:α->Nat}{l:List β}:sm (l.map g) f=sm l λb=>f (g b):=by unfold sm;rw[P3];rfl
theorem np{g:β->List α}{f:α->Nat}:∀{l:List β},sm (l.flatMap g) f=sm l λb=>sm (g b) f
 |[]=>rfl
 |b::l=>by rw[QZ,lY,bt,np]
theorem wq:∀{l:List α},(sm l λ_=>0)=0
 |[]=>rfl
 |a::l=>by rw[bt,wq]
theorem zc:∀{l:List α},(sm l λa=>f a+g a)=sm l f+sm l g
 |[]=>rfl
 |a::l=>by rw[bt,bt,bt,zc];omega
theorem iP:∀{l:List α},(sm l λa=>c*f a)=c*sm l f
 |[]=>rfl
 |a::l=>by rw[bt,bt,iP,Yw]
theorem IH:∀{n:Nat},m<=n->sm (P4 (m+1)) f=sm (P4 (n+1)) λa=>if a<=m then f a else 0
 |0,h=>by
  obtain rfl:m=0:=by omega
  exact dB λa ha=>by
   have:=Qq.mp ha;rw[P6 (by omega)]
 |n+1,h=>by
  rcases UX m (n+1)with q|q
  ·rw[Ti (n:=n+1),lY,←IH (by omega:m<=n),bt,uE,P0 (by omega)]
   omega
  ·obtain rfl:m=n+1:=by omega
   exact dB λa ha=>by
    have:=Qq.mp ha;rw[P6 (by omega)]
noncomputable def cf:List Nat->Nat->List (List Nat)
 |[],0=>[[]]
 |[],_+1=>[]
 |x::r,c=>(P4 (Tq x c+1)).flatMap λa=>(cf r (c-a)).map (a::·)
noncomputable def less(r v:List Nat):List Nat:=US (·-·) r v
theorem yL:sm (cf (x::r) c) f=sm (P4 (Tq x c+1)) λa=>sm (cf r (c-a)) λv=>f (a::v):=by
 show sm ((P4 (Tq x c+1)).flatMap λa=>(cf r (c-a)).map (a::·)) f=_;rw[np];exact dB λa _=>j5
end
end L2.Nt
namespace L2.Nt
open L2.Pu
noncomputable def ch:Nat->Nat->Nat
 |_,0=>1
 |0,_+1=>0
 |n+1,k+1=>ch n k+ch n (k+1)
theorem qM:∀{n k:Nat},n<k->ch n k=0
 |0,k+1,_=>by simp[ch]
 |n+1,k+1,h=>by
  show ch n k+ch n (k+1)=0;rw[qM (by omega),qM (by omega)]
theorem rX(n:Nat):ch n 0=1:=by cases n<;>rfl
theorem xo:∀n,ch n n=1
 |0=>rfl
 |n+1=>by
  show ch n n+ch n (n+1)=1;rw[xo n,qM (by omega)]
theorem yw(n:Nat):facN (n+1)=(n+1)*facN n:=Sn (facN n) (n+1)
theorem mP:∀n a b:Nat,a+b=n->ch (a+b) a*(facN a*facN b)=facN (a+b)
 |n,0,b,_=>by rw[rX];simp[facN]
 |n,a+1,0,_=>by rw[XQ,xo];simp[facN]
 |0,a+1,b+1,h=>by omega
 |n+1,a+1,b+1,h=>by
  have c:=mP n a (b+1) (by omega);have d:=mP n (a+1) b (by omega);have e:a+1+(b+1)=(a+b+1)+1:=by omega
  have f:a+(b+1)=a+b+1:=by omega
  have g:a+1+b=a+b+1:=by omega
  rw[f]at c;rw[g]at d;rw[e];show(ch (a+b+1) a+ch (a+b+1) (a+1))*(facN (a+1)*facN (b+1))=facN (a+b+1+1);rw[yw (a+b+1),WS];have i:ch (a+b+1) a*(facN (a+1)*facN (b+1))=(a+1)*facN (a+b+1):=by
   rw[←c,yw a];simp only[T8,Ul,Sn]
  have j:ch (a+b+1) (a+1)*(facN (a+1)*facN (b+1))=(b+1)*facN (a+b+1):=by
   rw[←d,yw b];simp only[T8,Ul,Sn]
  rw[i,j,←WS,show a+1+(b+1)=a+b+1+1 by omega]
theorem nl:sm (P4 (n+1)) f=f 0+sm (P4 n) λa=>f (a+1):=by
 rw[XM,bt,j5]
theorem BX:∀(x y c:Nat),(sm (P4 (c+1)) λa=>ch x a*ch y (c-a))=ch (x+y) c
 |0,y,c=>by
  rw[nl,rX,Yx,Wx,Q6];have:(sm (P4 c) λa=>ch 0 (a+1)*ch y (c-(a+1)))=0:=(dB λa _=>by rw[qM (by omega),XT]).trans wq;rw[this];rfl
 |x+1,y,0=>by rw[nl];simp[rX,uE]
 |x+1,y,c+1=>by
  have b:=BX x y (c+1);have d:=BX x y c;rw[nl]at b;rw[nl];have e:(sm (P4 (c+1)) λa=>ch (x+1) (a+1)*ch y (c+1-(a+1)))=(sm (P4 (c+1)) λa=>ch x a*ch y (c-a))+sm (P4 (c+1)) λa=>ch x (a+1)*ch y (c+1-(a+1)):=by
   rw[←zc];refine dB λa _=>?_;show(ch x a+ch x (a+1))*_=_;rw[WS,Nat.add_sub_add_right]
  rw[e,d];have f:x+1+y=x+y+1:=by omega
  rw[f];show _=ch (x+y) c+ch (x+y) (c+1);rw[←b,rX,rX];omega
theorem vdm(x y c:Nat):(sm (P4 (Tq x c+1)) λa=>ch x a*ch y (c-a))=ch (x+y) c:=by
 rw[IH (Nat.min_le_right x c),←BX];refine dB λa ha=>?_;have:=Qq.mp ha;by_cases q:a<=x
 ·rw[P6 (by omega)]
 ·rw[P0 (by omega),qM (by omega),XT]
def pc:List Nat->List Nat->Nat
 |x::r,a::v=>ch x a*pc r v
 |_,_=>1
theorem zI:∀(r:List Nat) (c:Nat),sm (cf r c) (pc r)=ch r.sum c
 |[],0=>rfl
 |[],c+1=>rfl
 |x::r,c=>by
  rw[yL,Qw,←vdm];exact dB λa _=>by rw[←zI r (c-a),←iP];rfl
theorem gu:∀{r:List Nat} {c:Nat} {v:List Nat},v∈cf r c->v.sum=c/\(less r v).sum+c=r.sum/\v.length=r.length/\pr (r.map facN)=pc r v*(pr (v.map facN)*pr ((less r v).map facN))
 |[],0,v,h=>by cases QH.mp h;exact⟨rfl,rfl,rfl,rfl⟩
 |[],c+1,v,h=>by cases h
 |x::r,c,v,h=>by
  have h':v∈(P4 (Tq x c+1)).flatMap λa=>(cf r (c-a)).map (a::·):=h;obtain⟨a,ha,d⟩:=RO.mp h';obtain⟨u,e,rfl⟩:=Qc.mp d;have f:=Qq.mp ha;obtain⟨g,i,j,k⟩:=gu e;refine⟨by rw[Qw,g];omega,?_,by rw[Qa,j,Qa],?_⟩
  ·show((x-a)::less r u).sum+c=_
   rw[Qw,Qw,←i];omega
  ·show facN x*pr (r.map facN)=(ch x a*pc r u)*((facN a*pr (u.map facN))*(facN (x-a)*pr ((less r u).map facN)))
   have b:=mP x a (x-a) (by omega);rw[show a+(x-a)=x by omega]at b;rw[k,←b];simp only[T8,Ul,Sn]
def mu:List Nat->Nat
 |[]=>1
 |x::r=>ch (x+r.sum) x*mu r
theorem i6:∀r:List Nat,mu r*pr (r.map facN)=facN r.sum
 |[]=>rfl
 |x::r=>by
  show(ch (x+r.sum) x*mu r)*(facN x*pr (r.map facN))=facN (x::r).sum;rw[Qw,←mP _ x r.sum rfl,←i6 r];simp only[T8,Ul,Sn]
theorem rA(r:List Nat):0<pr (r.map facN):=qg λx a=>by
 obtain⟨n,_,rfl⟩:=Qc.mp a;exact kD n
theorem MJ(r:List Nat):facN r.sum/pr (r.map facN)=mu r:=by rw[←i6,Nat.mul_div_cancel _ (rA r)]
def dls:List Nat->List Nat->Nat
 |_,[]=>1
 |r,c::cs=>sm (cf r c) λv=>mu v*dls (less r v) cs
theorem HQ:∀{r:List Nat},r.sum=0->mu r=1
 |[],_=>rfl
 |x::r,h=>by
  rw[Qw]at h;obtain rfl:x=0:=by omega
  show ch _ 0*mu r=1;rw[rX,HQ (by omega)]
theorem kG:∀(cs r:List Nat),r.sum=cs.sum->dls r cs=mu r
 |[],r,h=>(HQ h).symm
 |c::cs,r,h=>by
  rw[Qw]at h;refine Nat.eq_of_mul_eq_mul_right (rA r) ?_;rw[i6];show sm (cf r c) (λv=>mu v*dls (less r v) cs)*_=_;rw[Sn,←iP];have e:(sm (cf r c) λv=>pr (r.map facN)*(mu v*dls (less r v) cs))=sm (cf r c) λv=>(facN c*facN (r.sum-c))*pc r v:=by
   refine dB λv a=>?_;obtain⟨b,f,g,d⟩:=gu a;rw[kG cs (less r v) (by omega),d];have m1:=i6 v;have m2:=i6 (less r v);rw[b]at m1;rw[show(less r v).sum=r.sum-c by omega]at m2;rw[←m1,←m2];simp only[T8,Ul,Sn]
  rw[e,iP,zI,Sn];have:=mP r.sum c (r.sum-c) (by omega);rw[show c+(r.sum-c)=r.sum by omega]at this;exact this
def LeN:List Nat->List Nat->Prop
 |[],[]=>True
 |a::v,x::r=>a<=x/\LeN v r
 |_,_=>False
theorem LeN.refl:∀r,LeN r r
 |[]=>trivial
 |_::r=>⟨P5 _,LeN.refl r⟩
theorem LeN.tr:∀{u v r:List Nat},LeN u v->LeN v r->LeN u r
 |[],[],[],_,_=>trivial
 |_::_,_::_,_::_,h,q=>⟨Qg h.1 q.1,h.2.tr q.2⟩
 |[],_::_,_,h,_=>h.elim
 |_::_,[],_,h,_=>h.elim
 |[],[],_::_,_,q=>q.elim
 |_::_,_::_,[],_,q=>q.elim
theorem LeN.len:∀{v r:List Nat},LeN v r->v.length=r.length
 |[],[],_=>rfl
 |_::_,_::_,h=>Re (·+1) h.2.len
 |[],_::_,h=>h.elim
 |_::_,[],h=>h.elim
theorem LeN.less:∀{v r:List Nat},LeN v r->LeN (less r v) r
 |[],[],_=>trivial
 |a::v,x::r,h=>⟨Nat.sub_le x a,h.2.less⟩
 |[],_::_,h=>h.elim
 |_::_,[],h=>h.elim
theorem LeN.pr:∀{v r:List Nat},LeN v r->L2.Pu.pr (v.map (·+1))<=L2.Pu.pr (r.map (·+1))
 |[],[],_=>P5 _
 |_::_,_::_,h=>Nat.mul_le_mul (Nat.succ_le_succ h.1) h.2.pr
 |[],_::_,h=>h.elim
 |_::_,[],h=>h.elim
theorem LeN.sum:∀{v r:List Nat},LeN v r->v.sum<=r.sum
 |[],[],_=>P5 _
 |_::_,_::_,h=>by rw[Qw,Qw];exact Xd h.1 h.2.sum
 |[],_::_,h=>h.elim
 |_::_,[],h=>h.elim
theorem cE:∀{r:List Nat} {c:Nat} {v:List Nat},v∈cf r c->LeN v r
 |[],0,v,h=>by cases QH.mp h;exact trivial
 |[],c+1,v,h=>by cases h
 |x::r,c,v,h=>by
  have h':v∈(P4 (Tq x c+1)).flatMap λa=>(cf r (c-a)).map (a::·):=h;obtain⟨a,ha,b⟩:=RO.mp h';obtain⟨u,d,rfl⟩:=Qc.mp b;have e:=Qq.mp ha;exact⟨by omega,cE d⟩
theorem k9:∀{r v:List Nat},LeN v r->v∈cf r v.sum
 |[],[],_=>QH.mpr rfl
 |x::r,a::v,h=>by
  refine RO.mpr ⟨a,Qq.mpr (by rw[Qw];have:=h.1;omega),Qc.mpr ⟨v,?_,rfl⟩⟩;rw[Qw,VA];exact k9 h.2
 |[],_::_,h=>h.elim
 |_::_,[],h=>h.elim
theorem iK{α a:Type}{f:α->List a}{n:Nat}:∀{l:List α},(∀x∈l,(f x).length<=n)->(l.flatMap f).length<=l.length*n
 |[],_=>by simp
 |x::l,h=>by
  rw[QZ,Qh,Qa,Nat.succ_mul,Ww];exact Xd (iK λy b=>h y (PN _ b)) (h x PZ)
theorem kM:∀(r:List Nat) (c:Nat),(cf r c).length<=pr (r.dropLast.map (·+1))
 |[],0=>P5 _
 |[],_+1=>Rr _
 |[x],c=>by
  have h:cf [x] c=(P4 (Tq x c+1)).flatMap λa=>(cf [] (c-a)).map (a::·):=rfl;rw[h,Ti,R4,Qh];have e:((P4 (Tq x c)).flatMap λa=>(cf [] (c-a)).map (a::·))=[]:=by
   refine Ud.mpr λa ha=>?_;have:=Qq.mp ha;obtain⟨n,hn⟩:∃n,c-a=n+1:=⟨c-a-1,by omega⟩;rw[hn];rfl
  rw[e];cases q:c-Tq x c<;>simp[cf,q,pr]
 |x::y::r,c=>by
  have h:=iK (l:=P4 (Tq x c+1)) (f:=λa=>(cf (y::r) (c-a)).map (a::·)) (n:=pr ((y::r).dropLast.map (·+1))) λa _=>by rw[PF];exact kM (y::r) (c-a)
  rw[Qr]at h;refine Qg h ?_;show _<=(x+1)*pr ((y::r).dropLast.map (·+1));exact UG _ (by omega)
theorem lw{α β a:Type}{f:α->List β}{g:β->List a}(l:List α):(l.flatMap f).flatMap g=l.flatMap λx=>(f x).flatMap g:=List.flatMap_assoc
theorem tX(r:List Nat)(k:Nat):pr ((r.take k).map (·+1))<=pr (r.map (·+1)):=by
 conv=>rhs;rw[←SJ k r,QG,uV]
 exact VB _ (qg λx a=>by
  obtain⟨n,_,rfl⟩:=Qc.mp a;omega)
theorem ua(l:List Nat):(nI l).map Int.toNat=l:=by
 rw[P3];exact(Qx λx _=>rfl).trans (VZ l)
theorem gT(h:nI l=nI m):l=m:=by rw[←ua l,h,ua]
theorem zS{α a:Type}{f:α->a}{l:List α}(h:(l.map f).Nodup):l.Nodup:=(Vf.mp h).imp λq e=>q (Re f e)
theorem u8{α c:Type}{f:α->c}(inj:∀a b,f a=f b->a=b){l:List α}(h:l.Nodup):(l.map f).Nodup:=Vf.mpr (h.imp λq e=>q (inj _ _ e))
theorem f6{cs:List Nat}(h:k<cs.length):cs.drop k=cs.getD k 0::cs.drop (k+1):=by
 rw[QT h,PR,PM h];rfl
noncomputable def okB:List (Nat×Nat)->List Nat->Bool
 |p::ps,a::v=>decide (p.1<=a)&&decide (a<=p.2)&&okB ps v
 |_,_=>PP
def vB(ps:List (Nat×Nat))(r:List Nat)(c:Nat):List (List Nat):=(cf r c).filter (okB ps)
theorem LA(h:v∈vB ps r c):v∈cf r c:=(Sy.mp h).1
theorem qX{p:Nat×Nat}:vB (p::ps) (x::r) c=(P4 (Tq x c+1)).flatMap λa=>if p.1<=a/\a<=p.2 then(vB ps r (c-a)).map (a::·)else[]:=by
 show((P4 (Tq x c+1)).flatMap λa=>(cf r (c-a)).map (a::·)).filter (okB (p::ps))=_;rw[Yt];refine Re (XI · _) (funext λa=>?_);rw[WO];by_cases q:p.1<=a/\a<=p.2
 ·rw[P6 q]
  refine Re (Q2 (a::·)) (Zc λv _=>?_);show(decide (p.1<=a)&&decide (a<=p.2)&&okB ps v)=okB ps v;rw[Qn q.1,Qn q.2];rfl
 ·rw[P0 q,XH.mpr,RG]
  intro v _ h;have h:(decide (p.1<=a)&&decide (a<=p.2)&&okB ps v)=PP:=h;simp only[QI,QR]at h;exact q h.1
noncomputable def tps:List (Nat×Nat)->List Nat->List Nat
 |p::ps,x::r=>Tq x p.2::tps ps r
 |_,_=>[]
noncomputable def los(ps:List (Nat×Nat)):List Nat:=ps.map (·.1)
theorem HY:∀{ps:List (Nat×Nat)} {r:List Nat} {c:Nat} {v:List Nat},ps.length=r.length->v∈vB ps r c->(los ps).sum<=c/\c<=(tps ps r).sum
 |[],[],c,v,_,h=>by
  have:=gu (LA h);simp at this;simp[los,tps];omega
 |p::ps,x::r,c,v,e,h=>by
  rw[qX]at h;obtain⟨a,ha,h⟩:=RO.mp h;by_cases q:p.1<=a/\a<=p.2
  ·rw[P6 q]at h
   obtain⟨u,b,rfl⟩:=Qc.mp h;have i:=HY (by simpa using e) b;have:=Qq.mp ha;simp only[los,tps,Qb,Qw]at i⊢;omega
  ·rw[P0 q]at h;cases h
noncomputable def nxB(x:Nat)(p:Nat×Nat)(few a:Nat)(b:List Nat×Nat):List (List Nat×Nat):=(P4 (Tq (Tq x p.2+few) b.2+1-few-Y6 p.1 (b.2-a))).map λi=>(b.1++[Y6 p.1 (b.2-a)+i],b.2-(Y6 p.1 (b.2-a)+i))
def stB(ps:List (Nat×Nat))(r:List Nat)(c:Nat):Nat->List (List Nat×Nat)
 |0=>[([],c)]
 |k+1=>(stB ps r c k).flatMap (nxB (r.getD k 0) (ps.getD k (0,0)) ((los ps).drop (k+1)).sum ((tps ps r).drop (k+1)).sum)
theorem mG{b:Type}{f:Nat->List b}{lo n N:Nat}(h:∀a<N,f a≠[]->lo<=a/\a<n)(hn:n<=N):(P4 N).flatMap f=(P4 (n-lo)).flatMap λi=>f (lo+i):=by
 have e:∀{a},a<N->¬(lo<=a/\a<n)->f a=[]:=λ{a} ha q=>UI λz=>q (h a ha z);obtain⟨d,rfl⟩:∃d,N=n+d:=⟨N-n,by omega⟩;have z:(P4 d).flatMap (λa=>f (n+a))=[]:=Ud.mpr λa ha=>e (by have:=Qq.mp ha;omega) (by omega);rw[List.range_add,R4,Us,z,QC];rcases Nat.le_total lo n with q|q
 ·obtain⟨m,rfl⟩:∃m,n=lo+m:=⟨n-lo,by omega⟩
  rw[List.range_add,R4,Ud.mpr λa ha=>e (by have:=Qq.mp ha;omega) (by have:=Qq.mp ha;omega),Rq,Us,VA]
 ·rw[show n-lo=0 by omega,Ud.mpr λa ha=>e (by have:=Qq.mp ha;omega) (by have:=Qq.mp ha;omega)];rfl
theorem uy:∀{ps:List (Nat×Nat)} {r:List Nat} (k:Nat),tps (ps.drop k) (r.drop k)=(tps ps r).drop k
 |_,_,0=>rfl
 |[],r,k+1=>by simp[tps]
 |p::ps,[],k+1=>by cases h:(ps.drop k)<;>simp[tps,h]
 |p::ps,x::r,k+1=>uy k
theorem eC{α:Type}{l:List α}{k:Nat}{d:α}(h:k<l.length):l.getD k d=l[k]:=by rw[PR,PM h];rfl
theorem dn{α a:Type}{f g:α->List a}:∀{l:List α},(∀x∈l,f x=g x)->l.flatMap f=l.flatMap g
 |[],_=>rfl
 |x::l,h=>by rw[QZ,QZ,h x PZ,dn λy b=>h y (PN _ b)]
theorem wo{ps:List (Nat×Nat)}{r:List Nat}(e:ps.length=r.length)(c:Nat):∀k,k<=r.length->((stB ps r c k).flatMap λb=>(vB (ps.drop k) (r.drop k) b.2).map (b.1++·))=vB ps r c
 |0,_=>by simp[stB]
 |k+1,h=>by
  rw[←wo e c k (by omega)];show((stB ps r c k).flatMap _).flatMap _=_;rw[lw];refine Re (XI · (stB ps r c k)) (funext λb=>?_);have g:k<r.length:=by omega
  have j:k<ps.length:=by omega
  rw[QT g,QT j,eC g,eC j,qX,Sb];rw[mG (f:=λa=>(if ps[k].1<=a/\a<=ps[k].2 then(vB (ps.drop (k+1)) (r.drop (k+1)) (b.2-a)).map (a::·)else[]).map (b.1++·)) (N:=Tq r[k] b.2+1) (lo:=Y6 ps[k].1 (b.2-((tps ps r).drop (k+1)).sum)) (n:=Tq (Tq r[k] b.2+1) (Tq (Tq r[k] ps[k].2+((los ps).drop (k+1)).sum) b.2+1-((los ps).drop (k+1)).sum)) (λa o ha=>?_) (Nat.min_le_left _ _)]
  ·unfold nxB
   rw[Us,show Tq (Tq r[k] b.2+1) (Tq (Tq r[k] ps[k].2+((los ps).drop (k+1)).sum) b.2+1-((los ps).drop (k+1)).sum)=Tq (Tq r[k] ps[k].2+((los ps).drop (k+1)).sum) b.2+1-((los ps).drop (k+1)).sum by omega];refine dn λi l=>?_;have:=Qq.mp l;rw[P6 (by omega),P3];exact Qx λv _=>by simp
  ·by_cases q:ps[k].1<=a/\a<=ps[k].2
   ·rw[P6 q]at ha
    obtain⟨w,d⟩:=List.exists_mem_of_ne_nil _ ha;obtain⟨w,d,_⟩:=Qc.mp d;obtain⟨v,m,_⟩:=Qc.mp d;have:=HY (by simp[e]) m;rw[uy]at this;unfold los at this⊢;rw[Ux]at this;omega
   ·rw[P0 q]at ha;exact Qu rfl ha
theorem Lz(c:Nat):vB [] [] c=if(c:Int)=0 then[[]]else[]:=by
 cases c with
 |zero=>rfl
 |succ n=>rw[P0 (by omega)];rfl
theorem Kj{ps:List (Nat×Nat)}{r:List Nat}(a:ps.length=r.length)(c:Nat):((stB ps r c r.length).filter λb=>decide ((b.2:Int)=0)).map (·.1)=vB ps r c:=by
 rw[←wo a c r.length (P5 _),S3,←a,S3,a];generalize stB ps r c r.length=l
 induction l with
 |nil=>rfl
 |cons b l ih=>
  rw[QZ,S4,←ih,Lz];by_cases q:(b.2:Int)=0
  ·rw[P6 q,P6 (Qn q)];simp
  ·rw[P0 q,P0 (by simp;omega)];rfl
theorem wn{r:List Nat}(c:Nat):∀k,k<=r.length->(stB ps r c k).length<=pr ((r.take k).map (·+1))
 |0,_=>P5 _
 |k+1,h=>by
  have e:r[k]?=on r[k]:=PM (by omega);rw[iF e];refine Qg (iK (n:=r[k]+1) λb _=>?_) (UG _ (wn c k (by omega)));unfold nxB;rw[PF,Qr,eC (show k<r.length by omega)];omega
theorem y9(ps:List (Nat×Nat))(r:List Nat)(c:Nat):∀k,∀b∈stB ps r c k,b.2<=c/\b.1.length=k
 |0,b,h=>by cases QH.mp h;exact⟨P5 _,rfl⟩
 |k+1,b,h=>by
  obtain⟨d,hd,a⟩:=RO.mp (show b∈(stB ps r c k).flatMap _ from h);obtain⟨i,_,rfl⟩:=Qc.mp a;obtain⟨q1,q2⟩:=y9 ps r c k d hd;exact⟨by show d.2-_<=c;omega,by rw[Qh,q2];rfl⟩
theorem yS:∀{ps:List (Nat×Nat)} {r:List Nat},(tps ps r).sum<=r.sum
 |[],r=>Rr _
 |_::_,[]=>P5 _
 |p::ps,x::r=>by
  have:=yS (ps:=ps) (r:=r);simp only[tps,Qw];omega
abbrev Wy:=Nat->List Nat->List (List Nat)
def WOk(cs:List Nat)(W:Wy):Prop:=∀k r,(W k r).Sublist (cf r (cs.getD k 0))
def nwI(W:Wy)(L:List (List Nat))(k:Nat):LI:=L.flatMap λr=>(W k r).map λv=>nI (less r v)
def nwL(W:Wy)(L:List (List Nat))(k:Nat):List (List Nat):=(lX (nwI W L k)).map λk=>k.map Int.toNat
section
variable{W:Wy}{cs rs:List Nat}
theorem ku:y∈nwI W L k↔∃r∈L,∃v∈W k r,y=nI (less r v):=by
 unfold nwI;constructor
 ·intro h
  obtain⟨r,a,h⟩:=RO.mp h;obtain⟨v,b,rfl⟩:=Qc.mp h;exact⟨r,a,v,b,rfl⟩
 ·rintro⟨r,a,v,b,rfl⟩
  exact RO.mpr ⟨r,a,Qc.mpr ⟨v,b,rfl⟩⟩
theorem xZ(L:List (List Nat))(k:Nat):(nwL W L k).map nI=lX (nwI W L k):=by
 unfold nwL;rw[P3];refine(Qx λy a=>?_).trans (VZ _);obtain⟨r,_,v,_,rfl⟩:=ku.mp (eM.mp a);show nI ((nI _).map Int.toNat)=_;rw[ua];rfl
theorem nN:u∈nwL W L k↔∃r∈L,∃v∈W k r,u=less r v:=by
 constructor
 ·intro h
  have:nI u∈lX (nwI W L k):=by rw[←xZ];exact Qc.mpr ⟨u,h,rfl⟩
  obtain⟨r,a,v,b,e⟩:=ku.mp (eM.mp this);exact⟨r,a,v,b,gT e⟩
 ·rintro⟨r,a,v,b,rfl⟩
  exact Qc.mpr ⟨nI (less r v),eM.mpr (ku.mpr ⟨r,a,v,b,rfl⟩),ua _⟩
def lvW(W:Wy)(rs:List Nat):Nat->List (List Nat)
 |0=>[rs]
 |k+1=>nwL W (lvW W rs k) k
theorem vh:∀k,(lvW W rs k).Nodup
 |0=>Ue _ _
 |k+1=>zS (f:=nI) (by show(Q2 nI (nwL _ _ _)).Nodup;rw[xZ];exact HZ (nk _))
theorem i8(b:WOk cs W)(hs:rs.sum=cs.sum):∀k,k<=cs.length->∀r∈lvW W rs k,LeN r rs/\r.sum=(cs.drop k).sum
 |0,_,r,h=>by cases QH.mp h;exact⟨LeN.refl _,hs⟩
 |k+1,hk,u,h=>by
  obtain⟨r,c,v,a,rfl⟩:=nN.mp (show u∈nwL W (lvW W rs k) k from h);have a:=(b k r).subset a;obtain⟨q1,q2⟩:=i8 b hs k (by omega) r c;have q3:=(gu a).2.1;rw[q2,f6 (by omega),Qw]at q3;exact⟨(cE a).less.tr q1,by omega⟩
theorem KY(a:WOk cs W)(hs:rs.sum=cs.sum)(b:k<=cs.length):(lvW W rs k).length<=pr (rs.dropLast.map (·+1)):=
 Qg (mq (vh k) (m:=cf rs (cs.drop k).sum) λr c=>by
  obtain⟨d,e⟩:=i8 a hs k b r c;rw[←e];exact k9 d) (kM _ _)
theorem KS(a:WOk cs W)(hs:rs.sum=cs.sum)(e:1<=rs.length)(f:pr (rs.dropLast.map (·+1))<63)(g:k<cs.length):kR ((nwI W (lvW W rs k) k).map tpI)=on (.lst ((lvW W rs (k+1)).map λr=>tpI (nI r))):=by
 refine(LT (m:=(cf rs (cs.drop (k+1)).sum).map nI) ?_ (by rw[PF];exact Sj (kM _ _) f) ?_).trans ?_
 ·intro x b
  obtain⟨r,c,v,d,rfl⟩:=ku.mp b;rw[PF,((cE ((a k r).subset d)).less.tr (i8 a hs k (by omega) r c).1).len];exact e
 ·intro x b
  obtain⟨r,c,v,d,rfl⟩:=ku.mp b;obtain⟨q1,q2⟩:=i8 a hs (k+1) g (less r v) (nN.mpr ⟨r,c,v,d,rfl⟩);exact Qc.mpr ⟨less r v,by rw[←q2];exact k9 q1,rfl⟩
 ·rw[←xZ,P3];rfl
def kyW(W:Wy)(rs:List Nat)(n:Nat):List (Int×List Int):=(P4 n).flatMap λk=>(lvW W rs k).map λr=>((k:Int),nI r)
theorem AD:∀n,(kyW W rs n).Nodup
 |0=>List.nodup_nil
 |n+1=>by
  unfold kyW;rw[Ti,R4,QZ,Vv,QC];refine Wr.mpr ⟨AD n,u8 (λr s e=>gT (UT.mp e).2) (vh n),λx a y b e=>?_⟩;subst e;obtain⟨k,c,h⟩:=RO.mp a;obtain⟨r,_,rfl⟩:=Qc.mp h;obtain⟨s,_,e⟩:=Qc.mp b;have:=(UT.mp e).1;have d:=Qq.mp c;simp only at this;omega
def tbW(W:Wy):Nat->Nat->List Nat->Nat
 |0,_,_=>1
 |j+1,k,r=>sm (W k r) λv=>tbW W j (k+1) (less r v)
def dlW(W:Wy):Nat->Nat->List Nat->Nat
 |0,_,_=>1
 |j+1,k,r=>sm (W k r) λv=>mu v*dlW W j (k+1) (less r v)
theorem j4{α:Type}{f g:α->Nat}{l m:List α}(h:l.Sublist m)(q:∀a∈m,f a<=g a):sm l f<=sm m g:=by
 induction h with
 |slnil=>exact P5 _
 |cons a _ ih=>rw[bt];exact Qg (ih λx b=>q x (PN _ b)) (Nat.le_add_left _ _)
 |cons_cons a _ ih=>rw[bt,bt];exact Xd (q a PZ) (ih λx b=>q x (PN _ b))
theorem qJ(a:WOk cs W):∀(j k:Nat) (r:List Nat),k+j=cs.length->dlW W j k r<=dls r (cs.drop k)
 |0,k,r,h=>by rw[show k=cs.length by omega,S3];exact P5 _
 |j+1,k,r,h=>by
  rw[f6 (by omega)];exact j4 (a k r) λv _=>YS _ (qJ a j (k+1) (less r v) (by omega))
noncomputable def box:List (Nat×Nat)->List Nat->List (List Nat)
 |p::ps,x::r=>(P4 (Tq p.2 x+1-p.1)).flatMap λi=>(box ps r).map ((p.1+i)::·)
 |_,_=>[[]]
theorem BJ:∀{ps:List (Nat×Nat)} {r:List Nat} {c:Nat},ps.length=r.length->(box ps r).filter (λv=>decide (v.sum=c))=vB ps r c
 |[],[],c,_=>by cases c<;>rfl
 |p::ps,x::r,c,h=>by
  have h':ps.length=r.length:=by simpa using h
  rw[qX,mG (lo:=p.1) (n:=Tq (Tq x c+1) (Tq p.2 x+1)) (N:=Tq x c+1) (λa d ha=>?_) (Nat.min_le_left _ _)]
  ·show((P4 (Tq p.2 x+1-p.1)).flatMap λi=>(box ps r).map ((p.1+i)::·)).filter _=_
   rw[Yt];have e:∀i,List.filter (λv=>decide (v.sum=c)) ((box ps r).map ((p.1+i)::·))=if p.1+i<=c then(vB ps r (c-(p.1+i))).map ((p.1+i)::·)else[]:=λi=>by
    rw[WO];by_cases q:p.1+i<=c
    ·rw[P6 q,←BJ h']
     refine Re (Q2 _) (Zc λv _=>?_);show decide (((p.1+i)::v).sum=c)=_;rw[Qw];exact decide_eq_decide.mpr (by omega)
    ·rw[P0 q,XH.mpr,RG]
     intro v _ z;have z:decide (((p.1+i)::v).sum=c)=PP:=z;rw[Qw,QR]at z;omega
   rw[dn λi _=>e i];rw[mG (f:=λi=>if p.1+i<=c then(vB ps r (c-(p.1+i))).map ((p.1+i)::·)else[]) (lo:=0) (n:=Tq (Tq x c+1) (Tq p.2 x+1)-p.1) (N:=Tq p.2 x+1-p.1) (λa ha q=>⟨Rr _,?_⟩) (by omega),Wx]
   ·refine dn λi b=>?_
    have:=Qq.mp b;rw[Q6,P6 (by omega),P6 (by omega)]
   ·by_cases z:p.1+a<=c
    ·omega
    ·rw[P0 z]at q;exact Qu rfl q
  ·by_cases q:p.1<=a/\a<=p.2
   ·omega
   ·rw[P0 q]at ha;exact Qu rfl ha
noncomputable def gro(ps:List (Nat×Nat))(r:List Nat):Nat->List (List Nat)
 |0=>[[]]
 |k+1=>(gro ps r k).flatMap λu=>(P4 (Tq (ps.getD k (0,0)).2 (r.getD k 0)+1-(ps.getD k (0,0)).1)).map λi=>u++[(ps.getD k (0,0)).1+i]
theorem w6{ps:List (Nat×Nat)}{r:List Nat}(c:ps.length=r.length):∀k,k<=r.length->((gro ps r k).flatMap λu=>(box (ps.drop k) (r.drop k)).map (u++·))=box ps r
 |0,_=>by simp[gro]
 |k+1,h=>by
  rw[←w6 c k (by omega)];show((gro ps r k).flatMap _).flatMap _=_;rw[lw];refine dn λu _=>?_;have a:k<r.length:=by omega
  have b:k<ps.length:=by omega
  rw[QT a,QT b,eC a,eC b];show _=((P4 (Tq ps[k].2 r[k]+1-ps[k].1)).flatMap λi=>(box (ps.drop (k+1)) (r.drop (k+1))).map ((ps[k].1+i)::·)).map (u++·);rw[Sb,Us];refine dn λi _=>?_;rw[P3];exact Qx λv _=>by simp
theorem w5{ps:List (Nat×Nat)}{r:List Nat}(a:ps.length=r.length):gro ps r r.length=box ps r:=by
 rw[←w6 a r.length (P5 _),S3,←a,S3];show _=(gro ps r ps.length).flatMap λu=>[u++[]];generalize gro ps r ps.length=l
 induction l with
 |nil=>rfl
 |cons x l ih=>rw[QZ,←ih,QC];rfl
theorem w4{r:List Nat}:∀k,k<=r.length->(gro ps r k).length<=pr ((r.take k).map (·+1))
 |0,_=>P5 _
 |k+1,h=>by
  have e:r[k]?=on r[k]:=PM (by omega);rw[iF e];refine Qg (iK (n:=r[k]+1) λb _=>?_) (UG _ (w4 k (by omega)));rw[PF,Qr,eC (show k<r.length by omega)];omega
theorem AS:∀k,∀u∈gro ps r k,u.length=k
 |0,b,h=>by cases QH.mp h;rfl
 |k+1,b,h=>by
  obtain⟨d,hd,a⟩:=RO.mp (show b∈(gro ps r k).flatMap _ from h);obtain⟨i,_,rfl⟩:=Qc.mp a;rw[Qh,AS k d hd];rfl
def lst(W:Wy)(rs:List Nat):Nat->List (List (List Nat)×List Nat)
 |0=>[([],rs)]
 |k+1=>(lst W rs k).flatMap λq=>(W k q.2).map λv=>(q.1++[v],less q.2 v)
theorem zb{α:Type}:∀l:List α,(sm l λ_=>1)=l.length
 |[]=>rfl
 |x::l=>by rw[bt,zb l,Qa,Ww]
theorem mr(r:List Nat):0<mu r:=Nat.pos_of_ne_zero λz=>by
 have:=i6 r;rw[z,XT]at this;have:=kD r.sum;omega
theorem vi(b:WOk cs W)(hs:rs.sum=cs.sum):∀k,k<=cs.length->∀q∈lst W rs k,LeN q.2 rs/\q.2.sum=(cs.drop k).sum/\q.1.length=k
 |0,_,q,h=>by cases QH.mp h;exact⟨LeN.refl _,hs,rfl⟩
 |k+1,hk,u,h=>by
  obtain⟨q,c,d⟩:=RO.mp (show u∈(lst W rs k).flatMap _ from h);obtain⟨v,a,rfl⟩:=Qc.mp d;have a:=(b k q.2).subset a;obtain⟨q1,q2,q3⟩:=vi b hs k (by omega) q c;have q4:=(gu a).2.1;rw[q2,f6 (by omega),Qw]at q4;exact⟨(cE a).less.tr q1,by show(less q.2 v).sum=_;omega,by rw[Qh,q3];rfl⟩
theorem zX(a:WOk cs W):∀k,k<=cs.length->(sm (lst W rs k) λq=>dls q.2 (cs.drop k))<=dls rs cs
 |0,_=>P5 _
 |k+1,h=>by
  refine Qg ?_ (zX a k (by omega));show sm ((lst W rs k).flatMap _) _<=_;rw[np];refine j4 (VR _) λq _=>?_;rw[j5,f6 (k:=k) (by omega)];exact j4 (a k q.2) λv _=>Nat.le_mul_of_pos_left _ (mr v)
theorem wR(a:WOk cs W)(hs:rs.sum=cs.sum)(b:k<=cs.length):(lst W rs k).length<=mu rs:=by
 rw[←kG cs rs hs,←zb];refine Qg (j4 (VR _) λq c=>?_) (zX a k b);rw[kG _ _ (vi a hs k b q c).2.1];exact mr _
def stW(W:Wy)(j k:Nat)(r:List Nat):List (List Nat):=(W k r).filter λv=>decide ((0:Int)<((tbW W j (k+1) (less r v):Nat):Int))
def fal(f:List Nat->Nat):List (List Nat)->Nat->List Nat×Nat
 |[],n=>([],n)
 |v::l,n=>if n<f v then(v,n)else fal f l (n-f v)
theorem vK:∀{l:List (List Nat)} {n:Nat},n<sm l f->(fal f l n).1∈l/\(fal f l n).2<f (fal f l n).1
 |[],n,h=>by cases h
 |v::l,n,h=>by
  unfold fal;rw[bt]at h;by_cases q:n<f v
  ·rw[P6 q];exact⟨PZ,q⟩
  ·rw[P0 q]
   obtain⟨a,b⟩:=vK (f:=f) (l:=l) (n:=n-f v) (by omega);exact⟨PN _ a,b⟩
def Wk(W:Wy):Nat->List Nat->List (List Nat)->Prop
 |_,_,[]=>True
 |k,r,v::vs=>v∈W k r/\Wk W (k+1) (less r v) vs
theorem IV{α:Type}{f:α->Nat}{a:α}:∀{l:List α},a∈l->f a<=sm l f
 |b::l,h=>by
  rw[bt];rcases Qf.mp h with rfl|h
  ·omega
  ·have:=IV (f:=f) h;omega
theorem uw:∀{j k:Nat} {r:List Nat} {vs:List (List Nat)},Wk W k r vs->vs.length=j->0<tbW W j k r
 |_,_,_,[],_,rfl=>Nat.one_pos
 |_,k,r,v::vs,h,rfl=>Qv (uw h.2 rfl) (IV (f:=λv=>tbW W vs.length (k+1) (less r v)) h.1)
theorem OC{vs:List (List Nat)}(h:Wk W k r (v::vs))(e:vs.length=j):v∈stW W j k r:=Sy.mpr ⟨h.1,Qn (by have:=uw h.2 e;omega)⟩
def ahW(f:List Nat->Nat)(v:List Nat):List (List Nat)->Nat
 |[]=>0
 |u::l=>if u=v then 0 else f u+ahW f v l
def frW(W:Wy):Nat->List Nat->List (List Nat)->Nat
 |_,_,[]=>0
 |k,r,v::vs=>ahW (λu=>mu u*dlW W vs.length (k+1) (less r u)) v (stW W vs.length k r)+mu v*frW W (k+1) (less r v) vs
def jh(u v:List Nat):List Nat:=US (·+·) u v
def rsm(n:Nat):List (List Nat)->List Nat
 |[]=>Qm n 0
 |v::vs=>jh v (rsm n vs)
theorem vn:∀{v r:List Nat},v.length=r.length->less (jh v r) v=r/\LeN v (jh v r)
 |[],[],_=>⟨rfl,trivial⟩
 |x::v,y::r,h=>by
  obtain⟨a,b⟩:=vn (v:=v) (r:=r) (by simpa using h);refine⟨?_,S7 _ _,b⟩;show(x+y-x)::less (jh v r) v=_;rw[a,VA]
theorem v4:∀{v r:List Nat},LeN v r->jh v (less r v)=r
 |[],[],_=>rfl
 |x::v,y::r,h=>by
  show(x+(y-x))::jh v (less r v)=_;rw[v4 h.2,Nat.add_sub_cancel' h.1]
 |[],_::_,h=>h.elim
 |_::_,[],h=>h.elim
theorem nA:∀{vs:List (List Nat)},(∀v∈vs,v.length=n)->(rsm n vs).length=n
 |[],_=>Ru
 |v::vs,h=>by
  show(US _ _ _).length=n;rw[V7,h v PZ,nA λu a=>h u (PN _ a),XS]
theorem LR:∀{r:List Nat},r.sum=0->r=Qm r.length 0
 |[],_=>rfl
 |x::r,h=>by
  rw[Qw]at h;obtain rfl:x=0:=by omega
  rw[Qa,QL,←LR (r:=r) (by omega)]
theorem m3(a:WOk cs W):∀{vs:List (List Nat)} {k:Nat} {r:List Nat},Wk W k r vs->k+vs.length=cs.length->r.sum=(cs.drop k).sum->vs.map RM=cs.drop k/\r=rsm r.length vs/\∀v∈vs,v.length=r.length
 |[],k,r,_,e,s=>by
  have f:cs.drop k=[]:=R3 (by simpa using e▸P5 _);rw[f]at s⊢;exact⟨rfl,LR s,λ_ h=>by cases h⟩
 |v::vs,k,r,h,e,s=>by
  rw[Qa]at e;have b:=(a k r).subset h.1;obtain⟨q1,q2,q3,_⟩:=gu b;have le:=cE b;rw[f6 (by omega),Qw]at s;obtain⟨g,c,d⟩:=m3 a h.2 (by omega) (by omega);have i:=le.less.len;rw[i]at c d;refine⟨by rw[f6 (by omega),Qb,g,q1],?_,λu hu=>?_⟩
  ·show r=jh v (rsm r.length vs)
   rw[←c,v4 le]
  ·rcases Qf.mp hu with rfl|hu
   ·exact q3
   ·exact d u hu
theorem HU:∀{vs:List (List Nat)} {k:Nat},(∀v∈vs,v.length=n)->(∀i r v,vs[i]?=on v->LeN v r->v∈W (k+i) r)->Wk W k (rsm n vs) vs
 |[],_,_,_=>trivial
 |v::vs,k,h,hw=>by
  have b:∀u∈vs,u.length=n:=λu a=>h u (PN _ a);obtain⟨c,d⟩:=vn (v:=v) (r:=rsm n vs) (by rw[h v PZ,nA b]);refine⟨hw 0 _ v rfl d,?_⟩;show Wk W (k+1) (less (jh v (rsm n vs)) v) vs;rw[c];exact HU b λi r u a le=>by
   have:=hw (i+1) r u a le;rwa[show k+(i+1)=k+1+i by omega]at this
theorem j3:∀{l:List Nat} {i x y:Nat},l[i]?=on x->(l.set i y).sum+x=l.sum+y
 |a::l,0,x,y,h=>by
  cases h;show(y::l).sum+a=(a::l).sum+y;rw[Qw,Qw];omega
 |a::l,i+1,x,y,h=>by
  have:=j3 (l:=l) (i:=i) (x:=x) (y:=y) h;show(a::l.set i y).sum+x=(a::l).sum+y;rw[Qw,Qw];omega
theorem Op{u v:List Nat}{i x y:Nat}(a:u[i]?=on x)(b:v[i]?=on y):(jh u v)[i]?=on (x+y):=by
 unfold jh;rw[XO,a,b]
theorem zm:∀{vs:List (List Nat)},(∀v∈vs,v.length=n)->i<n->(rsm n vs).getD i 0=(vs.map λv=>v.getD i 0).sum
 |[],_,hi=>by
  show(Qm n 0).getD i 0=0;rw[PR,Sw,P6 hi];rfl
 |v::vs,h,hi=>by
  have a:∀w∈vs,w.length=n:=λw b=>h w (PN _ b);have c:=h v PZ;have d:=nA a;rw[Qb,Qw,←zm a hi];show(jh v (rsm n vs)).getD i 0=_;rw[PR,Op (PM (by omega)) (PM (by omega)),eC (by omega),eC (by omega)];rfl
def pth(W:Wy):Nat->Nat->List Nat->List (List (List Nat))
 |0,_,_=>[[]]
 |j+1,k,r=>(W k r).flatMap λv=>(pth W j (k+1) (less r v)).map (v::·)
def wt(vs:List (List Nat)):Nat:=pr (vs.map mu)
theorem wQ(m:Nat):∀k,k<=m->((lst W rs k).flatMap λq=>(pth W (m-k) k q.2).map (q.1++·))=pth W m 0 rs
 |0,_=>by
  show(pth W (m-0) 0 rs).map ([]++·)++[]=_;rw[QC,Wx];exact(Qx λx _=>Rq x).trans (VZ _)
 |k+1,h=>by
  rw[←wQ m k (by omega)];show((lst W rs k).flatMap _).flatMap _=_;rw[lw];refine dn λq _=>?_;rw[show m-k=m-(k+1)+1 by omega,Us];show _=((W k q.2).flatMap λv=>(pth W (m-(k+1)) (k+1) (less q.2 v)).map (v::·)).map (q.1++·);rw[Sb];refine dn λv _=>?_;rw[P3];exact Qx λu _=>by simp
theorem IT(m:Nat):(lst W rs m).map (·.1)=pth W m 0 rs:=by
 rw[←wQ m m (P5 _),Ss];generalize lst W rs m=l
 induction l with
 |nil=>rfl
 |cons q l ih=>rw[Qb,QZ,ih];simp[pth]
theorem nE:∀(j k:Nat) (r:List Nat),(pth W j k r).length=tbW W j k r
 |0,_,_=>rfl
 |j+1,k,r=>by
  show((W k r).flatMap _).length=_;rw[List.length_flatMap];show _=((W k r).map _).sum;congr 1;exact Qx λv _=>by rw[PF,nE]
theorem nC:∀(j k:Nat) (r:List Nat),sm (pth W j k r) wt=dlW W j k r
 |0,_,_=>rfl
 |j+1,k,r=>by
  show sm ((W k r).flatMap _) wt=_;rw[np];refine dB λv _=>?_;rw[j5,←nC j (k+1) (less r v),←iP];rfl
theorem uU:∀{j k:Nat} {r:List Nat} {vs:List (List Nat)},vs∈pth W j k r->Wk W k r vs/\vs.length=j
 |0,_,_,vs,h=>by cases QH.mp h;exact⟨trivial,rfl⟩
 |j+1,k,r,vs,h=>by
  obtain⟨v,a,b⟩:=RO.mp (show vs∈(W k r).flatMap _ from h);obtain⟨us,c,rfl⟩:=Qc.mp b;obtain⟨d,e⟩:=uU c;exact⟨⟨a,d⟩,by rw[Qa,e]⟩
def kdW(W:Wy):Nat->Nat->List Nat->Nat->List (List Nat)
 |0,_,_,_=>[]
 |j+1,k,r,n=>(fal (λv=>mu v*dlW W j (k+1) (less r v)) (stW W j k r) n).1::kdW W j (k+1) (less r (fal (λv=>mu v*dlW W j (k+1) (less r v)) (stW W j k r) n).1) ((fal (λv=>mu v*dlW W j (k+1) (less r v)) (stW W j k r) n).2/mu (fal (λv=>mu v*dlW W j (k+1) (less r v)) (stW W j k r) n).1)
theorem xq{f:List Nat->List (List (List Nat))}{g t:List Nat->Nat}(d:∀u,sm ((f u).map (u::·)) wt=g u)(j:∀u,(f u).length=t u):∀{l:List (List Nat)} {i:Nat} {vs:List (List Nat)},l.Nodup->(l.flatMap λu=>(f u).map (u::·))[i]?=on vs->
  ∃v us c,v∈l/\vs=v::us/\(f v)[c]?=on us/\sm ((l.flatMap λu=>(f u).map (u::·)).take i) wt=ahW g v (l.filter λu=>decide ((0:Int)<((t u:Nat):Int)))+mu v*sm ((f v).take c) wt/\
   ∀n,ahW g v (l.filter λu=>decide ((0:Int)<((t u:Nat):Int)))<=n->n<ahW g v (l.filter λu=>decide ((0:Int)<((t u:Nat):Int)))+g v->fal g (l.filter λu=>decide ((0:Int)<((t u:Nat):Int))) n=(v,n-ahW g v (l.filter λu=>decide ((0:Int)<((t u:Nat):Int))))
 |[],i,vs,_,h=>by simp at h
 |u::l,i,vs,nd,h=>by
  rw[QZ]at h⊢;have b:∀v l,ahW g v (u::l)=if u=v then 0 else g u+ahW g v l:=λ_ _=>rfl;have k:∀l n,fal g (u::l) n=if n<g u then(u,n)else fal g l (n-g u):=λ_ _=>rfl;have a:((f u).map (u::·)).length=t u:=by rw[PF,j]
  rcases UX i (t u)with q|q
  ·rw[SM (by rw[a];exact q),PV]at h
   cases e:(f u)[i]? with
   |none=>rw[e]at h;cases h
   |some us=>
    rw[e]at h;cases h;rw[S4,P6 (Qn (by omega)),WG (by rw[a];omega)];refine⟨u,us,i,PZ,rfl,e,?_,λn _ hn=>?_⟩
    ·rw[b,P6 rfl,Q6,←Uy,j5,←iP];rfl
    ·rw[b,P6 rfl,Q6]at hn
     rw[k,P6 hn,b,P6 rfl];rfl
  ·rw[RK (by rw[a];exact q),a]at h
   obtain⟨v,us,c,m,p,r,A,o⟩:=xq d j (QW.mp nd).2 h;have nv:u≠v:=λz=>(QW.mp nd).1 (z▸m);have B:sm ((((f u).map (u::·))++(l.flatMap λu=>(f u).map (u::·))).take i) wt=g u+sm ((l.flatMap λu=>(f u).map (u::·)).take (i-t u)) wt:=by
    rw[List.take_append,lY,a,RA (by rw[a];exact q),d]
   refine⟨v,us,c,PN _ m,p,r,?_,?_⟩
   ·rw[B,A,S4]
    by_cases z:(0:Int)<((t u:Nat):Int)
    ·rw[P6 (Qn z),b,P0 nv,Nat.add_assoc]
    ·have C:t u=0:=by omega
     have F:g u=0:=by rw[←d,S6.mp ((j u).trans C)];rfl
     rw[P0 (λy=>z (SQ y)),F,Q6]
   ·intro n
    rw[S4];by_cases z:(0:Int)<((t u:Nat):Int)
    ·rw[P6 (Qn z),b,P0 nv,k]
     intro H I;rw[P0 (by omega),o (n-g u) (by omega) (by omega)];congr 1;omega
    ·rw[P0 (λy=>z (SQ y))]
     exact o n
theorem AW(hn:∀k r,(W k r).Nodup):∀{j k i:Nat} {r:List Nat} {vs:List (List Nat)},(pth W j k r)[i]?=on vs->frW W k r vs=sm ((pth W j k r).take i) wt/\sm ((pth W j k r).take i) wt+wt vs<=dlW W j k r/\∀n,sm ((pth W j k r).take i) wt<=n->n<sm ((pth W j k r).take i) wt+wt vs->kdW W j k r n=vs
 |0,k,i,r,vs,h=>by
  cases i with
  |zero=>cases h;exact⟨rfl,P5 _,λ_ _ _=>rfl⟩
  |succ i=>cases h
 |j+1,k,i,r,vs,h=>by
  obtain⟨v,us,H,I,rfl,d,a,l⟩:=xq (f:=λv=>pth W j (k+1) (less r v)) (g:=λv=>mu v*dlW W j (k+1) (less r v)) (t:=λv=>tbW W j (k+1) (less r v)) (λu=>by rw[j5,←nC j (k+1) (less r u),←iP];rfl) (λu=>nE _ _ _) (hn k r) h;obtain⟨m,o,p⟩:=AW hn d;have q:=(uU (Ql d)).2;have e:=mr v;have c:=j4 (f:=wt) (g:=wt) ((pth W (j+1) k r).take_sublist (i+1)) λ_ _=>P5 _;rw[nC,Uj,h,lY]at c
  replace c:sm ((pth W (j+1) k r).take i) wt+sm [v::us] wt<=dlW W (j+1) k r:=c
  rw[bt,uE,XQ]at c;refine⟨?_,c,λn y A=>?_⟩
  ·show ahW _ v (stW W us.length k r)+mu v*frW W (k+1) (less r v) us=_
   rw[q,m];exact a.symm
  ·have a:sm ((pth W (j+1) k r).take i) wt=_:=a
   have B:wt (v::us)=mu v*wt us:=rfl;rw[a,B]at A;rw[a]at y;have b:=YS (mu v) o;rw[Yw]at b;have C:=l n (by omega) (by omega);show(fal _ (stW W j k r) n).1::kdW W j (k+1) (less r (fal _ (stW W j k r) n).1) ((fal _ (stW W j k r) n).2/mu (fal _ (stW W j k r) n).1)=_;have F:fal (λv=>mu v*dlW W j (k+1) (less r v)) (stW W j k r) n=_:=C;rw[F];congr 1;refine p _ ((Nat.le_div_iff_mul_le e).mpr ?_) ((Nat.div_lt_iff_lt_mul e).mpr ?_)
   ·rw[Sn];omega
   ·rw[WS,Sn _ (mu v),Sn _ (mu v)];omega
theorem rb{α:Type}{f:α->Nat}{p:α->Bool}:∀{l:List α},(∀v,p v=PU->f v=0)->sm (l.filter p) f=sm l f
 |[],_=>rfl
 |v::l,h=>by
  rw[S4];cases q:p v with
  |true=>rw[P6 rfl,bt,bt,rb h]
  |false=>rw[P0 P8,bt,rb h,h v q,Q6]
theorem IE{W:Wy}(j k:Nat)(r:List Nat):(sm (stW W j k r) λv=>mu v*dlW W j (k+1) (less r v))=dlW W (j+1) k r:=rb λv q=>by
 have:tbW W j (k+1) (less r v)=0:=by
  have:=X8 q;omega
 rw[←nE]at this;rw[←nC,S6.mp this];rfl
theorem AE{W:Wy}:∀{j k n:Nat} {r:List Nat},(kdW W j k r n).length=j
 |0,_,_,_=>rfl
 |j+1,k,n,r=>by unfold kdW;rw[Qa,AE]
theorem IY{W:Wy}:∀{j k n:Nat} {r:List Nat},n<dlW W j k r->Wk W k r (kdW W j k r n)
 |0,_,_,_,_=>trivial
 |j+1,k,n,r,h=>by
  rw[←IE]at h;obtain⟨a,b⟩:=vK h;exact⟨(Sy.mp a).1,IY (Yv b)⟩
theorem we:∀(r:List Nat) (c:Nat),(cf r c).Nodup
 |[],0=>Ue _ _
 |[],_+1=>List.nodup_nil
 |x::r,c=>by
  show((P4 (Tq x c+1)).flatMap λa=>(cf r (c-a)).map (a::·)).Nodup;refine List.pairwise_flatMap.mpr ⟨λa _=>u8 (λ_ _ e=>(YM e).2) (we r (c-a)),Vx.imp λ{a b} n u d w f e=>?_⟩;obtain⟨_,_,rfl⟩:=Qc.mp d;obtain⟨_,_,rfl⟩:=Qc.mp f;exact n (YM e).1
end
end L2.Nt
namespace Law
open PySem L2 L2.Pu
open L2.Hs (uY AG k4 wL)
noncomputable def top(i:Nat):Rh:=PySem.Challenge.pw_edgetally_k26_dealings_by_number.main.body.getD i (.Pass ⟨0,0,0,0⟩)
abbrev zk:Rh:=top 14
abbrev l7:Rh:=top 15
abbrev l8:Rh:=top 16
abbrev iS:Rh:=top 17
abbrev lD:Rh:=top 18
abbrev oP:Rh:=top 20
abbrev zi:Rh:=top 21
abbrev p8:Rh:=top 22
abbrev sH:Rh:=top 24
abbrev lE:Rh:=top 25
abbrev lF:Rh:=top 26
abbrev sG:Rh:=top 27
abbrev oM:Rh:=top 28
abbrev sJ:Rh:=top 29
abbrev oQ:Rh:=top 30
abbrev l6:Rh:=top 33
abbrev il:Rh:=top 34
abbrev im:Rh:=top 35
abbrev j8:Rh:=top 36
abbrev iT:Rh:=top 37
abbrev lH:Rh:=top 38
abbrev jt:Rh:=top 39
abbrev kg:Rh:=top 42
abbrev jr:Rh:=top 43
abbrev p9:Rh:=top 44
abbrev lJ:Rh:=top 45
abbrev jv:Rh:=top 46
abbrev ju:Rh:=top 47
abbrev sF:Rh:=top 48
abbrev wx:Rh:=top 50
abbrev uM:Rh:=top 51
abbrev uL:Rh:=top 52
abbrev uO:Rh:=top 53
abbrev sI:Rh:=top 54
abbrev pY:Rh:=top 55
abbrev oN:Rh:=top 56
abbrev j9:Rh:=top 57
abbrev uP:Rh:=top 58
abbrev p7:Rh:=top 59
abbrev pZ:Rh:=top 60
abbrev ww:Rh:=top 61
abbrev uN:Rh:=top 62
abbrev oO:Rh:=top 63
abbrev wy:Rh:=top 64
abbrev lI:Rh:=top 65
abbrev uK:Rh:=top 66
abbrev pX:Rh:=top 67
abbrev wv:Rh:=top 68
abbrev ki:Rh:=aE (top 40) 0
abbrev lL:Rh:=aE (top 40) 3
abbrev iU:Rh:=aE (top 40) 4
abbrev oR:Rh:=aE (top 40) 9
abbrev jw:Rh:=aE (top 40) 6
abbrev kh:Rh:=aE (top 40) 8
abbrev ny:Rh:=top 69
abbrev uC:Rh:=aE (top 2) 0
set_option genSizeOf false in
set_option genInjectivity false in
structure Ad where
 Aa:PX
 Ab:PX
 Ac:Qt
 Ae:PX
 Af:PX
 Ag:Qt
 Ah:PX
 Ai:Qt
 Aj:PX
 Ak:Qt
 Al:PX
 Am:Qt
 An:PX
 Ao:Qt
 Aq:PX
 Ar:Qt
 As:PX
 At:Qt
 Au:PX
 Av:Qt
 Aw:PX
 Ax:Qt
 Ay:PX
 Az:Qt
 A0:PX
 A1:Qt
 A2:PX
 A3:Qt
 A4:PX
 A5:Qt
 A6:PX
 A7:Qt
 A8:PX
 A9:Qt
 Ba:PX
 Bb:Qt
 Bc:PX
 Bd:Qt
 Be:PX
 Bf:Qt
 Bh:PX
 Bi:Qt
 Bj:PX
 Bk:Qt
 Bl:PX
 Bm:Qt
 Bn:PX
 Bo:Qt
 Bp:PX
 Bq:Qt
 Br:PX
 Bs:Qt
 Bt:PX
 Bu:Qt
 Bv:PX
 Bw:Qt
 Bx:PX
 By:Qt
 Bz:PX
 B0:Qt
 B5:PX
 B7:Qt
 B8:PX
 Ca:Qt
 Cb:PX
 Cc:Qt
 Cd:PX
 Cf:Qt
 Cg:PX
 Ch:Qt
 Ci:PX
 Cj:Qt
 Ck:PX
 Cl:Qt
 Cm:PX
 Cn:Qt
 Co:PX
 Cp:Qt
 Cq:PX
 Cr:Qt
 Cs:PX
 Ct:Qt
 Cu:PX
 Cv:Qt
 Cw:PX
 Cy:Qt
 Cz:PX
 C0:Qt
 C2:PX
 C3:Qt
 C4:PX
 C5:Qt
 C6:PX
 C7:Qt
 C8:PX
 C9:Qt
 Da:PX
 Db:Qt
 Dd:PX
 Df:Qt
 Dg:PX
 Dh:Qt
 Di:PX
 Dj:Qt
 Dl:PX
 Dm:Qt
 Do:PX
 Dp:Qt
 Dq:PX
 Dr:Qt
 Dt:PX
 Du:Qt
 Dv:PX
 Dw:Qt
structure Fns (K:Qp) (mg:QN->Option PY) (a:Ad):Prop where
 Dx:mg "ValueError"=PH
 Dy:mg "abs"=PH
 Dz:mg "any"=PH
 D0:mg "bool"=PH
 D3:mg "enumerate"=PH
 D4:mg "int"=PH
 D5:mg "isinstance"=PH
 D6:mg "len"=PH
 D7:mg "list"=PH
 D8:mg "max"=PH
 D9:mg "min"=PH
 Ea:mg "range"=PH
 Eb:mg "reversed"=PH
 Ec:mg "sorted"=PH
 Ed:mg "str"=PH
 Ee:mg "sum"=PH
 Ef:mg "tuple"=PH
 Eg:mg "zip"=PH
 Eh:oJ K mg "MOST" (.int 40)
 Ei:oJ K mg "MOST_COLUMNS" (.int 6)
 Ej:oJ K mg "MOST_ROWS" (.int 4)
 Ek:oJ K mg "WIDE" (.int 500)
 El:FunD K "free" "free" zk a.Af a.Ag
 Em:mg "free"=on (.ref a.Af)
 En:dz K a.Ag ["rows","columns","pair"] [.tup [.int 0,.int 40]]
 Eo:FunD K "check_sums" "check_sums" l7 a.Ah a.Ai
 Ep:mg "check_sums"=on (.ref a.Ah)
 Er:aD K a.Ai ["rowsums","columnsums"] []
 Es:FunD K "check_pair" "check_pair" l8 a.Aj a.Ak
 Et:mg "check_pair"=on (.ref a.Aj)
 Eu:aD K a.Ak ["pair"] []
 Ev:FunD K "settled_bounds" "settled_bounds" iS a.Al a.Am
 Ew:mg "settled_bounds"=on (.ref a.Al)
 Ex:aD K a.Am ["bounds","rows","columns"] []
 Ey:FunD K "rows_turned" "rows_turned" lD a.An a.Ao
 Ez:mg "rows_turned"=on (.ref a.An)
 E2:aD K a.Ao ["rows"] []
 E3:FunD K "factorial" "factorial" oP a.Aq a.Ar
 E4:mg "factorial"=on (.ref a.Aq)
 E5:aD K a.Ar ["number"] []
 E6:FunD K "ways" "ways" zi a.As a.At
 E7:mg "ways"=on (.ref a.As)
 E8:aD K a.At ["parts"] []
 E9:FunD K "fillings" "fillings" p8 a.Au a.Av
 Fa:mg "fillings"=on (.ref a.Au)
 Fb:aD K a.Av ["rests","many","pairs"] []
 Fc:FunD K "need_of" "need_of" sH a.Aw a.Ax
 Fd:mg "need_of"=on (.ref a.Aw)
 Fe:aD K a.Ax ["rowsums","over"] []
 Ff:FunD K "room_inside" "room_inside" lE a.Ay a.Az
 Fg:mg "room_inside"=on (.ref a.Ay)
 Fh:aD K a.Az ["columnsums","bounds","over","column"] []
 Fi:FunD K "room_beside" "room_beside" lF a.A0 a.A1
 Fj:mg "room_beside"=on (.ref a.A0)
 Fk:aD K a.A1 ["bounds","over","column"] []
 Fl:FunD K "room_of" "room_of" sG a.A2 a.A3
 Fm:mg "room_of"=on (.ref a.A2)
 Fn:aD K a.A3 ["columnsums","bounds","over","into"] []
 Fo:FunD K "narrowest" "narrowest" oM a.A4 a.A5
 Fp:mg "narrowest"=on (.ref a.A4)
 Fq:aD K a.A5 ["columnsums","bounds","over"] []
 Fs:FunD K "choices" "choices" sJ a.A6 a.A7
 Ft:mg "choices"=on (.ref a.A6)
 Fu:aD K a.A7 ["many"] []
 Fv:FunD K "check_fit" "check_fit" oQ a.A8 a.A9
 Fw:mg "check_fit"=on (.ref a.A8)
 Fy:aD K a.A9 ["rowsums","columnsums","bounds"] []
 Fz:FunD K "check_wide" "check_wide" l6 a.Ba a.Bb
 F4:mg "check_wide"=on (.ref a.Ba)
 F5:aD K a.Bb ["rowsums"] []
 F6:FunD K "settled_for_net" "settled_for_net" il a.Bc a.Bd
 F7:mg "settled_for_net"=on (.ref a.Bc)
 F8:aD K a.Bd ["rowsums","columnsums","bounds"] []
 F9:FunD K "column_fillings" "column_fillings" im a.Be a.Bf
 Ga:mg "column_fillings"=on (.ref a.Be)
 Gb:aD K a.Bf ["rests","columnsums","bounds","column"] []
 Gc:FunD K "rests_behind" "rests_behind" j8 a.Bh a.Bi
 Gd:mg "rests_behind"=on (.ref a.Bh)
 Ge:aD K a.Bi ["rests","counts"] []
 Gf:FunD K "nodes_by_level" "nodes_by_level" iT a.Bj a.Bk
 Gg:mg "nodes_by_level"=on (.ref a.Bj)
 Gi:aD K a.Bk ["rowsums","columnsums","bounds"] []
 Gj:FunD K "node_counts" "node_counts" lH a.Bl a.Bm
 Gk:mg "node_counts"=on (.ref a.Bl)
 Gm:aD K a.Bm ["rests","filled","behind"] []
 Gn:FunD K "counted_nodes" "counted_nodes" jt a.Bn a.Bo
 Go:mg "counted_nodes"=on (.ref a.Bn)
 Gp:aD K a.Bo ["rowsums","columnsums","bounds"] []
 Gq:FunD K "check_number" "check_number" kg a.Bp a.Bq
 Gr:mg "check_number"=on (.ref a.Bp)
 Gs:aD K a.Bq ["k","many"] []
 Gu:FunD K "steps_counted" "steps_counted" jr a.Br a.Bs
 Gv:mg "steps_counted"=on (.ref a.Br)
 Gx:aD K a.Bs ["net","level","rests"] []
 Gy:FunD K "falls_to" "falls_to" p9 a.Bt a.Bu
 Gz:mg "falls_to"=on (.ref a.Bt)
 G0:aD K a.Bu ["numbered","k"] []
 G1:FunD K "kth_dealing" "kth_dealing" lJ a.Bv a.Bw
 G2:mg "kth_dealing"=on (.ref a.Bv)
 G3:aD K a.Bw ["net","k"] []
 G4:FunD K "columns_asked" "columns_asked" jv a.Bx a.By
 G5:mg "columns_asked"=on (.ref a.Bx)
 G6:aD K a.By ["net","rows"] []
 G7:FunD K "counted_ahead" "counted_ahead" ju a.Bz a.B0
 G8:mg "counted_ahead"=on (.ref a.Bz)
 G9:aD K a.B0 ["net","level","rests","filling"] []
 Ha:FunD K "stretch" "stretch" sF a.B5 a.B7
 Hb:mg "stretch"=on (.ref a.B5)
 Hc:aD K a.B7 ["net","rows"] []
 Hd:FunD K "_law_bag" "_law_bag" wx a.B8 a.Ca
 He:mg "_law_bag"=on (.ref a.B8)
 Hf:aD K a.Ca ["_law_script"] []
 Hg:FunD K "_law_pull" "_law_pull" uM a.Cb a.Cc
 Hh:mg "_law_pull"=on (.ref a.Cb)
 Hi:aD K a.Cc ["_law_bag_here","_law_lot"] []
 Hj:FunD K "_law_same" "_law_same" uL a.Cd a.Cf
 Hk:mg "_law_same"=on (.ref a.Cd)
 Hl:aD K a.Cf ["_law_found","_law_due"] []
 Hm:FunD K "_law_grid" "_law_grid" uO a.Cg a.Ch
 Hn:mg "_law_grid"=on (.ref a.Cg)
 Ho:aD K a.Ch ["_law_bag_here","_law_block","_law_columns","_law_things"] []
 Hq:FunD K "_law_small" "_law_small" sI a.Ci a.Cj
 Hr:mg "_law_small"=on (.ref a.Ci)
 Ht:aD K a.Cj ["_law_bag_here"] []
 Hu:FunD K "_law_turned" "_law_turned" pY a.Ck a.Cl
 Hv:mg "_law_turned"=on (.ref a.Ck)
 Hw:aD K a.Cl ["_law_block"] []
 Hx:FunD K "_law_rowsums" "_law_rowsums" oN a.Cm a.Cn
 Hy:mg "_law_rowsums"=on (.ref a.Cm)
 Hz:aD K a.Cn ["_law_grid_here"] []
 Ia:FunD K "_law_columnsums" "_law_columnsums" j9 a.Co a.Cp
 Ib:mg "_law_columnsums"=on (.ref a.Co)
 Id:aD K a.Cp ["_law_grid_here"] []
 Ie:FunD K "_law_free" "_law_free" uP a.Cq a.Cr
 Ig:mg "_law_free"=on (.ref a.Cq)
 Ih:aD K a.Cr ["_law_block","_law_columns"] []
 Ii:FunD K "_law_bounds" "_law_bounds" p7 a.Cs a.Ct
 Ij:mg "_law_bounds"=on (.ref a.Cs)
 Ik:aD K a.Ct ["_law_bag_here","_law_grid_here"] []
 Il:FunD K "_law_copied" "_law_copied" pZ a.Cu a.Cv
 Im:mg "_law_copied"=on (.ref a.Cu)
 Io:aD K a.Cv ["_law_block"] []
 Ip:FunD K "_law_fit" "_law_fit" ww a.Cw a.Cy
 Iq:mg "_law_fit"=on (.ref a.Cw)
 Ir:aD K a.Cy ["_law_rests","_law_lot","_law_pairs"] []
 Iu:FunD K "_law_less" "_law_less" uN a.Cz a.C0
 Iw:mg "_law_less"=on (.ref a.Cz)
 Ix:aD K a.C0 ["_law_rests","_law_column"] []
 Iy:FunD K "_law_listing" "_law_listing" oO a.C2 a.C3
 Iz:mg "_law_listing"=on (.ref a.C2)
 I0:aD K a.C3 ["_law_rowsums_here","_law_columnsums_here","_law_limits"] []
 I9:FunD K "_law_all" "_law_all" wy a.C4 a.C5
 Ja:mg "_law_all"=on (.ref a.C4)
 Jb:aD K a.C5 ["_law_grid_here","_law_limits"] []
 Jc:FunD K "_law_factorial" "_law_factorial" lI a.C6 a.C7
 Jd:mg "_law_factorial"=on (.ref a.C6)
 Je:aD K a.C7 ["_law_lot"] []
 Jf:FunD K "_law_ways" "_law_ways" uK a.C8 a.C9
 Jg:mg "_law_ways"=on (.ref a.C8)
 Jh:aD K a.C9 ["_law_parts"] []
 Ji:FunD K "_law_weight" "_law_weight" pX a.Da a.Db
 Jj:mg "_law_weight"=on (.ref a.Da)
 Jk:aD K a.Db ["_law_columns"] []
 Jl:FunD K "_law_net" "_law_net" wv a.Dd a.Df
 Jm:mg "_law_net"=on (.ref a.Dd)
 Jn:aD K a.Df ["_law_grid_here","_law_limits"] []
 Jo:FunD K "__init__" "Net.__init__" ki a.Dg a.Dh
 Jp:Mk K a.Ae a.Dg
 Jq:KwOk K a.Dh ["self","rowsums","columnsums","bounds"] ["bounds"] 3 [.kw 0]
 Jr:FunD K "rowsums" "Net.rowsums" lL a.Di a.Dj
 Js:Meth K a.Ae "rowsums" a.Di
 Jt:aD K a.Dj ["self"] []
 Ju:FunD K "columnsums" "Net.columnsums" iU a.Dl a.Dm
 Jv:Meth K a.Ae "columnsums" a.Dl
 Jw:aD K a.Dm ["self"] []
 Jx:FunD K "steps" "Net.steps" oR a.Do a.Dp
 Jy:Meth K a.Ae "steps" a.Do
 Jz:aD K a.Dp ["self","level","rests"] []
 J0:FunD K "counts_at" "Net.counts_at" jw a.Dq a.Dr
 J1:Meth K a.Ae "counts_at" a.Dq
 J2:aD K a.Dr ["self","level","rests"] []
 J3:FunD K "dealings" "Net.dealings" kh a.Dt a.Du
 J4:Meth K a.Ae "dealings" a.Dt
 J5:aD K a.Du ["self"] []
 J6:Cls K a.Ae
 J7:mg "Net"=on (.ref a.Ae)
 J8:d6 K a.Ae "column_list"
 J9:d6 K a.Ae "counted"
 Ka:d6 K a.Ae "pairs"
 Kb:d6 K a.Ae "row_list"
 Kc:FunD K "__init__" "EdgeError.__init__" uC a.Ab a.Ac
 Kd:aD K a.Ac ["self","word","why"] []
 Ke:mg "EdgeError"=on (.ref a.Aa)
 Kf:ClsFn K a.Aa "__init__" a.Ab
section
variable(P:QD)(w:QS){K:Qp}{mg:QN->Option PY}(base:Rl){a:Ad}
theorem jp:FnScope ["_law_bag_here","_law_lot","_law_cells","_law_at","_law_cell"] ["_law_bag_here","_law_lot"] (ag uM):=fsc
theorem zL(N:Fns K mg a):FnOk P w K mg base (CXE P w) 2 a.Cb a.Cc ["_law_bag_here","_law_lot"] (spF K 2 ld):=by
 refine N.Hg.ok (k:=1) jp (λvs H Q E h=>h.1) (λY A outer s H vs Q E hr h=>?_);obtain⟨_,F,ds,β,fr,hd,r,Z,e,k⟩:=h;obtain⟨lot,rfl,ok,I,h1,rfl,rfl⟩:=zV e;obtain⟨v,w',rfl,d1,d2⟩:=DenL.two hd;unfold Den at d1;obtain⟨b,l,d,rfl⟩:=d1;cases d2.int;obtain⟨t,J⟩:=fr.bag b l d;obtain⟨ab,al,m⟩:=fr.bgA b l d;obtain⟨W,L,hc0,X⟩:=ok.at;obtain⟨_,_,hcp,_⟩:=wD ok I;have len:((β.cells.map V.int).length:Int)=(β.cells.length:Int):=by rw[PF]
 have O:atI (β.cells.map V.int) (β.pos:Int)=on (.int β.cell):=Lw (by rw[PV,L];rfl);refine⟨_,cX (qe (i:=2) jp.nd rfl (RT rfl) (gG d7 (pv 0) bS (λ_ _=>rfl)))
  (cX (qe (i:=3) jp.nd rfl (RT rfl) (dR mo (gG d7 (pv 0) bS (λ_ _=>rfl)) (kZ mQ (by rfl) N.D6 PySem.boot_len (ff (pv 2) iZ))))
  (cX (qe (i:=4) jp.nd rfl (RT rfl) (gG d7 (pv 2) (pv 3) (λ_ _=>rfl)))
  (cX (IN (wE IQ (pv 4) (dR Mv bS bS) (u6 _))
   (cX (fE (dR wM (pv 4) (pv 1)) (kt (pv 2) (pv 3) gy)) (nF (ax (dR mo (pv 4) (pv 1))))) rq)
  (cX (fE (dR qi (gG d7 (pv 0) bS (λ_ _=>rfl)) bS) (kt (pv 0) bS gy))
  (cX (fE (dR mo (dR Mx (dR qi (dR qi (gG d7 (pv 0) bS (λ_ _=>rfl)) (dR mo (pv 4) bS)) bS) bS) bS) (kt (pv 0) bS gy))
  (nF (ax (dR mo (dR wM (gG d7 (pv 0) bS (λ_ _=>rfl)) bS) (pv 1))))))))),?_⟩
 refine⟨_,rfl,b,_,_,_,rfl,rfl,SqL.of t,rfl,?_⟩;refine⟨_,rfl,b,_,_,_,rfl,rfl,SqL.of t,rfl,_,rfl,l,_,rfl,.inl (SqL.of J),_,_,rfl,rfl,?_,?_⟩
 ·have:=W
  rw[len];omega
 refine⟨_,rfl,_,rfl,l,_,_,_,rfl,rfl,SqL.of J,by rw[len,X];exact O,?_⟩;refine⟨_,rfl,_,_,rfl,rfl,⟨by decide,by decide,by decide⟩,_,_,rfl,rfl,_,rfl,?_⟩;have occ:∀{R:Hp} {p:PX} {o:HO},(∀c,F.A c->R c≠PH)->∀c,F.A c->upd R p o c≠PH:=λ{R p o} f c u z=>by
  by_cases q:c=p
  ·subst q;rw[aq]at z;cases z
  ·rw[upd_ne q]at z;exact f c u z
 refine ite2 (λg=>?_) (λg=>?_)
 ·have big:(10:Int)^18<=β.cell:=SQ g
  refine⟨_,rfl,_,rfl,_,_,rfl,rfl,⟨I,h1⟩,_,rfl,_,rfl,l,_,_,β.pos,rfl,rfl,J,?_,?_⟩
  ·rw[len,X,PF]
   exact K9 W
  refine⟨_,rfl,_,rfl,_,_,rfl,rfl,I,?_⟩;have T:jz β lot=β.cell % lot:=P6 big;have U:kY β lot=⟨β.cells.set β.pos (β.cell/lot),β.i,β.j⟩:=P6 big;rw[T,U]at k;refine k _ _ ⟨λc o u n=>by rw[upd_ne (n b l d).2];exact u,occ fr.occ,fr.bgA,λb' l' y=>?_⟩ rfl;rw[d]at y;cases y;exact⟨by rw[upd_ne m];exact t,by rw[aq,UR]⟩
 ·have big:¬(10:Int)^18<=β.cell:=λq=>g (Qn q)
  refine⟨_,rfl,b,_,_,_,rfl,rfl,SqL.of t,rfl,_,_,rfl,rfl,_,rfl,b,_,_,1,rfl,rfl,t,rfl,?_⟩;have B:(upd H b (.lst [.ref l,.int (β.i+1),.int β.j])) b=on (.lst [.ref l,.int (β.i+1),.int β.j]):=aq;refine⟨_,rfl,b,_,_,_,rfl,rfl,SqL.of B,rfl,_,rfl,_,_,rfl,rfl,(by show(0:Int)<2147483629;decide),_,_,rfl,rfl,_,_,rfl,rfl,_,_,rfl,rfl,.inr ⟨by decide,by decide⟩,_,_,rfl,rfl,(by show(0:Int)<2147483629;decide),_,rfl,b,_,_,2,rfl,rfl,B,rfl,?_⟩;have C:(upd (upd H b (.lst [.ref l,.int (β.i+1),.int β.j])) b (.lst [.ref l,.int (β.i+1),.int β.nxt])) b=on (.lst [.ref l,.int (β.i+1),.int β.nxt]):=aq;refine⟨_,rfl,b,_,_,_,rfl,rfl,SqL.of C,rfl,_,_,rfl,rfl,⟨by decide,by decide⟩,_,rfl,_,_,rfl,rfl,I,?_⟩;have T:jz β lot=β.nxt/64 % lot:=P0 big;have U:kY β lot=⟨β.cells,β.i+1,β.nxt⟩:=P0 big;rw[T,U]at k;refine k _ _ ⟨λc o u n=>by rw[upd_ne (n b l d).1,upd_ne (n b l d).1];exact u,occ (occ fr.occ),fr.bgA,λb' l' y=>?_⟩ rfl;rw[d]at y;cases y;exact⟨C,by rw[upd_ne m.symm,upd_ne m.symm];exact J⟩
theorem CO:FnScope ["_law_script"] ["_law_script"] (ag wx):=fsc
theorem nd1:(["_law_cell"]:List QN).Nodup:=by decide +kernel
theorem DG(N:Fns K mg a):FnOk P w K mg base (CXE P w) 1 a.B8 a.Ca ["_law_script"] (OO K):=by
 refine N.Hd.ok CO (λvs H Q E h=>?_) (λX A outer s H vs Q E hr h=>?_)
 ·obtain⟨a,ns,rfl,_⟩:=h
  rfl
 ·obtain⟨a,ns,rfl,Y,k⟩:=h
  refine⟨_,nF (ax (fF (ff (dR MA (nG rfl (vars:=["_law_cell"]) (CmpScope.plain rfl (by decide +kernel) (by decide +kernel)) (KD (uX wr (pv 0) wH (wG bS)))
   (λcl C fp s H=>⟨wJ (i:=0) nd1 rfl (RT rfl),uW,λD=>aK rfl (kZ EW (by rfl) N.Dy PyProof.Rows.Boot.«abs» (ff (pv 0) iZ)) rfl⟩)) (fF (ff bS iZ))) (ff bS (ff bS iZ))))),?_⟩
  obtain⟨q,I,Z⟩:=Py ns;refine⟨_,rfl,63,rfl,a,_,rfl,Y,λp hp=>?_⟩;rw[I];have L:bL H (upd H p (.lst (q.map V.int))):=bL.upd hp;refine⟨p,rfl,⟨_,SqL.of aq⟩,λD B=>?_⟩;have r:D≠p:=λz=>by subst z;rw[aq]at B;cases B
  refine yz (xs:=q.map V.int) (λi F g=>∃cs:List Int,(∃v,F=[v])/\cs.length=i/\(∀c∈cs,0<=c)/\g D=on (.lst (cs.map V.int))/\g p=on (.lst (q.map V.int))/\bL H g) ⟨[],⟨_,rfl⟩,rfl,(λ_ h=>nomatch h),aq,by rw[upd_ne r.symm,aq],L.trans (bL.upd B)⟩
   (λi F g _ ⟨_,_,_,_,_,e,_⟩=>SqL.of e) ?_ ?_
  ·rintro i x F g n ⟨cs,⟨v,rfl⟩,l,m,d,t,u⟩
   have hil:i<q.length:=by have:=(P9.mp n).1;rwa[PF]at this
   obtain⟨z,rfl⟩:∃z,x=V.int z:=by
    rw[PV]at n;cases e:q[i]? with
    |none=>rw[e]at n;cases n
    |some z=>rw[e]at n;exact⟨z,(QB n).symm⟩
   unfold fS LL;refine iteT ?_;refine⟨_,rfl,_,rfl,cs.map V.int,d,by rw[PF];exact sD (by omega),cs++[if z<0 then -z else z],⟨_,rfl⟩,by rw[Qh,l];rfl,λc hc=>?_,by rw[aq,QG];rfl,by rw[upd_ne r.symm];exact t,λb o e=>?_⟩
   ·rcases RN.mp hc with hc|hc
    ·exact m c hc
    ·obtain rfl:c=_:=by simpa using hc
     split<;>omega
   ·rw[upd_ne (aA e (L.free B))]
    exact u b o e
  ·rintro F g ⟨cs,⟨v,rfl⟩,l,m,d,t,u⟩
   rw[PF]at l;refine⟨by decide,λO j=>⟨D,O,_,_,rfl,rfl,by rw[upd_ne (aA d j)];exact d,aq,by rw[PF];exact VN (sD (by simp;omega)),λR y=>⟨(by show 3<=Qk;decide),λT f=>?_⟩⟩⟩;have U:bL g (upd g O (.lst [V.int 1])):=bL.upd j;have W:=U.trans (bL.upd (o:= .lst (cs.map V.int++[V.int 1])) y);have J:R≠T:=λz=>by subst z;rw[aq]at f;cases f
   refine k T R _ ((u.trans W).free f) ((u.trans U).free y) ⟨cs++[1],0,0,aq,by rw[upd_ne J,aq,QG];rfl,by simp,by rw[Qh];simp;omega,λc hc=>?_,by decide⟩ ((u.trans W).trans (bL.upd f));rcases RN.mp hc with hc|hc
   ·exact m c hc
   ·obtain rfl:c=1:=by simpa using hc
    decide
theorem jE(N:Fns K mg a):FB P w K mg base 2 "_law_pull" a.Cb a.Cc ["_law_bag_here","_law_lot"] 2 ld:=⟨zL P w base N,N.Hh,N.Hg.kp,N.Hi⟩
abbrev QF(K:Qp)(a:Ad)(k:Nat)(x:QN)(f:PX)(d:Qt)(ps:List QN)(n:Nat):={m:List D->M D//∀(P:QD) (w:QS) {mg:QN->Option PY} (base:Rl) (N:Fns K mg a),FB P w K mg base k x f d ps n m}
abbrev QM(K:Qp)(a:Ad)(k:Nat)(f:PX)(d:Qt)(ps:List QN)(n:Nat):={m:List D->M D//∀(P:QD) (w:QS) {mg:QN->Option PY} (base:Rl) (N:Fns K mg a),FnOk P w K mg base (CXE P w) k f d ps (spF K n m)}
theorem Kr:FnScope ["rows","columns","pair"] ["rows","columns","pair"] (ag zk):=fsc
def Md(K:Qp)(a:Ad):QM K a 2 a.Af a.Ag ["rows","columns","pair"] 3:=⟨_,λP w mg base N=>by
 exact bf (k:=1) 3 3 _ N.El Kr rfl rfl λb A outer s H E d=>ai (aG (ax (bj rfl (cso ["row","pair","columns"] ["row"] [2,1]) (bW (by rfl) N.Ea (va1 (vv 0))) (λcl C c s H=>⟨(pgN 0 ndc),aP,λD=>aK rfl (bj rfl (cso ["column","pair"] ["column"] [1]) (bW (by rfl) N.Ea (va1 (vv 2))) (λcl C c s H=>⟨(pgN 0 ndc),aP,λD=>aK rfl (vv 1) rfl⟩) ao au (λD=>aM)) rfl⟩) ao au (λD=>aM))))⟩
theorem tL:FnScope ["rowsums","columnsums"] ["rowsums","columnsums"] (ag l7):=fsc
def iX(K:Qp)(a:Ad):QF K a 2 "check_sums" a.Ah a.Ai ["rowsums","columnsums"] 2:=⟨_,λP w mg base N=>⟨by
 exact bf (k:=1) 2 2 _ N.Eo tL rfl rfl λb A outer s H E c=>af (cg (ng (qZ jA jA my my (ar) (cz N.D6 (va1 (vv 0))) (lS N.Ej))) (ai (cR)) (bA))
   (af (cg (ng (qZ jA jA my my (ar) (cz N.D6 (va1 (vv 1))) (lS N.Ei))) (ai (cR)) (bA))
   (af (cg (jZ (qV (kQ (bY (jH rfl) ud (by rfl) N.Dz PyProof.Rows.Boot.«any» (va1 (bj rfl (cso ["many"] ["many"] []) (aS (vv 0)) (λcl C d s H=>⟨(pgN 0 ndc),aP,λD=>aK rfl (kO qh vq (vv 0) (ar)) rfl⟩) ao au (λD=>aM))))) (m6 (kQ (bY (jH rfl) ud (by rfl) N.Dz PyProof.Rows.Boot.«any» (va1 (bj rfl (cso ["many"] ["many"] []) (aS (vv 1)) (λcl C d s H=>⟨(pgN 0 ndc),aP,λD=>aK rfl (kO qh vq (vv 0) (ar)) rfl⟩) ao au (λD=>aM)))))))) (ai (cR)) (bA))
   (af (cg (bv (fG c) gH (f9 N.Ee (va1 (vv 0))) (f9 N.Ee (va1 (vv 1)))) (ai (cR)) (bA))
   (ai (cg (bv tZ yf (f9 N.Ee (va1 (vv 0))) (lS N.Eh)) (ai (cR)) (bA)))))),N.Ep,N.Eo.kp,N.Er⟩⟩
theorem hX:FnScope ["pair","low","high"] ["pair"] (ag l8):=fsc
def iY(K:Qp)(a:Ad):QF K a 2 "check_pair" a.Aj a.Ak ["pair"] 1:=⟨_,λP w mg base N=>⟨by
 exact bf (k:=1) 1 3 _ N.Es hX rfl rfl λb A outer s H E c=>af (tR (eW (bo aC (bo aC dL)) (bn (bn cU))) (fE (vv 0) (bz rfl (aw (pgN 1 hX.nd) (aw (pgN 2 hX.nd) bq)))))
   (ai (cg (ng (CB jA jA jA my my my (ar) (vv 1) (vv 2) (lS N.Eh))) (ai (cR)) (bA))),N.Et,N.Es.kp,N.Eu⟩⟩
theorem fj:FnScope ["bounds","rows","columns","pairs","pair"] ["bounds","rows","columns"] (ag iS):=fsc
def cW(K:Qp)(a:Ad):QF K a 3 "settled_bounds" a.Al a.Am ["bounds","rows","columns"] 3:=⟨_,λP w mg base N=>⟨by
 have c:=(Md K a).2 P w base N;have b:=(iY K a).2 P w base N
 exact bf (k:=2) 3 5 _ N.Ev fj rfl rfl λf A outer s H E d=>af (cg (bv uZ ye (vv 0) (xA)) (ai (aG (ax (JW c (d.mono (by decide)) (by rfl) N.Em N.El.kp N.En e9 (va2 (vv 1) (vv 2)) (λδ β r e h=>by rw[(br (br aN0)) δ β r e h];rfl))))) (bA))
   (af (cg (jZ (qV (bv (fG d) gH (cz N.D6 (va1 (vv 0))) (vv 1)) (m6 (kQ (bY (jH rfl) ud (by rfl) N.Dz PyProof.Rows.Boot.«any» (va1 (bj rfl (cso ["pairs","columns"] ["pairs"] [2]) (aS (vv 0)) (λcl C g s H=>⟨(pgN 0 ndc),aP,λD=>aK rfl (kO (fG d) gH (cz N.D6 (va1 (vv 0))) (vv 1)) rfl⟩) ao au (λD=>aM)))))))) (ai (cR)) (bA))
   (af (bw aC (bp bO rfl (aS (vv 0)) (pgN 3 fj.nd) (ai (bw aC (bp bO rfl (aS (vv 3)) (pgN 4 fj.nd) (ai (l5 (dJ (vc b d (va1 (vv 4)))))))))))
   (ai (aG (ax (bj rfl (cso ["pairs"] ["pairs"] []) (aS (vv 0)) (λcl C g s H=>⟨(pgN 0 ndc),aP,λD=>aK rfl (ck c5 i9 (by rfl) N.D7 PyProof.Rows.Boot.«list» (va1 (vv 0))) rfl⟩) ao au (λD=>aM))))))),N.Ew,N.Ev.kp,N.Ex⟩⟩
theorem rc:FnScope ["rows"] ["rows"] (ag lD):=fsc
def dW(K:Qp)(a:Ad):QF K a 2 "rows_turned" a.An a.Ao ["rows"] 1:=⟨_,λP w mg base N=>⟨by
 exact bf (k:=1) 1 1 _ N.Ey rc rfl rfl λb A outer s H E d=>ai (aG (ax (bj rfl (cso ["column","rows"] ["column"] [0]) (bW (by rfl) N.Ea (va1 (cz N.D6 (va1 (bB aQ bG (vv 0) (ar)))))) (λcl C c s H=>⟨(pgN 0 ndc),aP,λD=>aK rfl (bj rfl (cso ["cells","column"] ["cells"] [0]) (aS (vv 1)) (λcl C c s H=>⟨(pgN 0 ndc),aP,λD=>aK rfl (bB aQ bG (vv 0) (vv 1)) rfl⟩) ao au (λD=>aM)) rfl⟩) ao au (λD=>aM)))),N.Ez,N.Ey.kp,N.E2⟩⟩
theorem gb:FnScope ["number","product","factor"] ["number"] (ag oP):=fsc
def jP(K:Qp)(a:Ad):QF K a 2 "factorial" a.Aq a.Ar ["number"] 1:=⟨_,λP w mg base N=>⟨by
 exact bf (k:=1) 1 3 _ N.E3 gb rfl rfl λb A outer s H E c=>af (aI (psS 1 gb.nd (ar)))
   (af (bw aC (bp bO rfl (lh (by rfl) N.Ea (va2 (ar) (aX aR bN (vv 0) (ar)))) (pgN 2 gb.nd) (ai (fP rE (dY (i:=1) gb.nd rfl (by first|exact RT rfl|exact SF rfl) (vv 2) rH)))))
   (ai (aG (ax (vv 1))))),N.E4,N.E3.kp,N.E5⟩⟩
theorem j6:FnScope ["parts","part","told"] ["parts"] (ag zi):=fsc
def kn(K:Qp)(a:Ad):QF K a 3 "ways" a.As a.At ["parts"] 1:=⟨_,λP w mg base N=>⟨by
 have b:=(jP K a).2 P w base N
 exact bf (k:=2) 1 3 _ N.E6 j6 rfl rfl λd A outer s H E c=>af (bw aC (bp bO rfl (aS (vv 0)) (pgN 1 j6.nd) (ai (cg (bv qh vq (vv 1) (ar)) (ai (cR)) (bA)))))
   (af (aI (psS 2 j6.nd (vc b c (va1 (bY (BE rfl) MR (by rfl) N.Ee PyProof.Rows.Boot.«sum» (va1 (vv 0)))))))
   (af (bw aC (bp bO rfl (aS (vv 0)) (pgN 1 j6.nd) (ai (fP vt (dY (i:=2) j6.nd rfl (by first|exact RT rfl|exact SF rfl) (vc b c (va1 (vv 1))) wW)))))
   (ai (aG (ax (vv 2)))))),N.E7,N.E6.kp,N.E8⟩⟩
theorem cP:FnScope ["rests","many","pairs","lows","tops","begun","row","fewest_behind","most_behind"] ["rests","many","pairs"] (ag p8):=fsc
def kW(K:Qp)(a:Ad):QF K a 2 "fillings" a.Au a.Av ["rests","many","pairs"] 3:=⟨_,λP w mg base N=>⟨by
 exact bf (k:=1) 3 9 _ N.E9 cP rfl rfl λc A outer s H E d=>af (aI (psS 3 cP.nd (bj rfl (cso ["low","high"] ["low","high"] []) (aS (vv 2)) (λcl C b s H=>⟨(bz rfl (aw (pgN 0 ndc) (aw (pgN 1 ndc) bq))),aP,λD=>aK rfl (vv 0) rfl⟩) (dM (aV ao (aV ao cS)) (aT (aT cm))) (dH (aU au (aU au cQ))) (λD=>aM))))
   (af (aI (psS 4 cP.nd (bj rfl (cso ["rest","low","high"] ["rest","low","high"] []) (qC (by rfl) N.Eg (va2 (vv 0) (vv 2))) (λcl C b s H=>⟨(bz rfl (aw (pgN 0 ndc) (aw (bz rfl (aw (pgN 1 ndc) (aw (pgN 2 ndc) bq))) bq))),aP,λD=>aK rfl (bY (jG rfl) uc (by rfl) N.D9 PyProof.Rows.Boot.«min» (va2 (vv 0) (vv 2))) rfl⟩) (dM (aV ao (aV (dM (aV ao (aV ao cS)) (aT (aT cm))) cS)) (aT (aT cm))) (dH (aU au (aU (dH (aU au (aU au cQ))) cQ))) (λD=>aM))))
   (af (aI (psS 5 cP.nd (eD (va1 (bT (va2 (bT (ft)) (vv 1)))))))
   (af (bw aC (bp bO rfl (bW (by rfl) N.Ea (va1 (cz N.D6 (va1 (vv 0))))) (pgN 6 cP.nd) (af (aI (psS 7 cP.nd (f9 N.Ee (va1 (qW (vv 3) (u3 (aX aR bN (vv 6) (ar))) (u4))))))
   (af (aI (psS 8 cP.nd (f9 N.Ee (va1 (qW (vv 4) (u3 (aX aR bN (vv 6) (ar))) (u4))))))
   (ai (uJ (i:=5) cP.nd rfl (by first|exact RT rfl|exact SF rfl) rfl (cso ["counts","left","count","lows","row","most_behind","tops","fewest_behind"] ["counts","left","count"] [3,6,8,4,7]) (aS (vv 5)) (λcl C b s H=>⟨(bz rfl (aw (pgN 0 ndc) (aw (pgN 1 ndc) bq))),aP,λD=>rB rfl rfl rfl (lh (by rfl) N.Ea (va2 (bY (tw rfl) IW (by rfl) N.D8 PyProof.Rows.Boot.«max» (va2 (bB aQ bG (vv 3) (vv 4)) (aX ge iC (vv 1) (vv 5)))) (aX aR bN (bY (jG rfl) uc (by rfl) N.D9 PyProof.Rows.Boot.«min» (va2 (bB aQ bG (vv 6) (vv 4)) (aX ge iC (vv 1) (vv 7)))) (ar)))) (pgN 2 ndc) (aP) (aK rfl (bT (va2 (aX aR bN (vv 0) (bT (va1 (vv 2)))) (aX ge iC (vv 1) (vv 2)))) rfl)⟩) (dM (aV ao (aV ao cS)) (aT (aT cm))) (dH (aU au (aU au cQ))) (λD=>K4 ao au (aM))))))))
   (ai (aG (ax (bj rfl (cso ["counts","left"] ["counts","left"] []) (aS (vv 5)) (λcl C b s H=>⟨(bz rfl (aw (pgN 0 ndc) (aw (pgN 1 ndc) bq))),qF (bv (eU d) gh (vv 1) (ar)),λD=>aK rfl (vv 0) rfl⟩) (dM (aV ao (aV ao cS)) (aT (aT cm))) (dH (aU au (aU au cQ))) (λD=>aM)))))))),N.Fa,N.E9.kp,N.Fb⟩⟩
theorem xO:FnScope ["rowsums","over"] ["rowsums","over"] (ag sH):=fsc
def mh(K:Qp)(a:Ad):QF K a 2 "need_of" a.Aw a.Ax ["rowsums","over"] 2:=⟨_,λP w mg base N=>⟨by
 exact bf (k:=1) 2 2 _ N.Fc xO rfl rfl λb A outer s H E c=>ai (aG (ax (f9 N.Ee (va1 (bj rfl (cso ["row","rowsums"] ["row"] [0]) (aS (vv 1)) (λcl C d s H=>⟨(pgN 0 ndc),aP,λD=>aK rfl (bB aQ bG (vv 1) (vv 0)) rfl⟩) ao au (λD=>aM)))))),N.Fd,N.Fc.kp,N.Fe⟩⟩
theorem j7:FnScope ["columnsums","bounds","over","column","lows"] ["columnsums","bounds","over","column"] (ag lE):=fsc
def de(K:Qp)(a:Ad):QF K a 2 "room_inside" a.Ay a.Az ["columnsums","bounds","over","column"] 4:=⟨_,λP w mg base N=>⟨by
 exact bf (k:=1) 4 5 _ N.Ff j7 rfl rfl λb A outer s H E c=>af (uJ (i:=4) j7.nd rfl (by first|exact RT rfl|exact SF rfl) rfl (cso ["row","pairs","over","column"] ["row","pairs"] [2,3]) (kB (by rfl) N.D3 (va1 (vv 1))) (λcl C d s H=>⟨(bz rfl (aw (pgN 0 ndc) (aw (pgN 1 ndc) bq))),qF (bv mn (EB (neg:=PP)) (vv 0) (vv 2)),λD=>aK rfl (bB aQ bG (bB aQ bG (vv 1) (vv 3)) (ar)) rfl⟩) (dM (aV ao (aV ao cS)) (aT (aT cm))) (dH (aU au (aU au cQ))) (λD=>aM))
   (ai (aG (ax (aX ge iC (bB aQ bG (vv 0) (vv 3)) (f9 N.Ee (va1 (vv 4))))))),N.Fg,N.Ff.kp,N.Fh⟩⟩
theorem re:FnScope ["bounds","over","column"] ["bounds","over","column"] (ag lF):=fsc
def dg(K:Qp)(a:Ad):QF K a 2 "room_beside" a.A0 a.A1 ["bounds","over","column"] 3:=⟨_,λP w mg base N=>⟨by
 exact bf (k:=1) 3 3 _ N.Fi re rfl rfl λb A outer s H E c=>ai (aG (ax (f9 N.Ee (va1 (bj rfl (cso ["row","bounds","column"] ["row"] [0,2]) (aS (vv 1)) (λcl C d s H=>⟨(pgN 0 ndc),aP,λD=>aK rfl (bB aQ bG (bB aQ bG (bB aQ bG (vv 1) (vv 0)) (vv 2)) (ar)) rfl⟩) ao au (λD=>aM)))))),N.Fj,N.Fi.kp,N.Fk⟩⟩
theorem xN:FnScope ["columnsums","bounds","over","into"] ["columnsums","bounds","over","into"] (ag sG):=fsc
def me(K:Qp)(a:Ad):QF K a 3 "room_of" a.A2 a.A3 ["columnsums","bounds","over","into"] 4:=⟨_,λP w mg base N=>⟨by
 have b:=(de K a).2 P w base N;have c:=(dg K a).2 P w base N;exact bf (k:=2) 4 4 _ N.Fl xN rfl rfl λe A outer s H E d=>ai (aG (ax (f9 N.Ee (va1 (bj rfl (cso ["column","into","columnsums","bounds","over"] ["column"] [3,0,1,2]) (bW (by rfl) N.Ea (va1 (cz N.D6 (va1 (vv 0))))) (λcl C f s H=>⟨(pgN 0 ndc),aP,λD=>aK rfl (v_if (bv zJ (EB (neg:=PU)) (vv 0) (vv 1)) (vc b d (va4 (vv 2) (vv 3) (vv 4) (vv 0))) (vc c d (va3 (vv 3) (vv 4) (vv 0)))) rfl⟩) ao au (λD=>aM)))))),N.Fm,N.Fl.kp,N.Fn⟩⟩
theorem uG:FnScope ["columnsums","bounds","over"] ["columnsums","bounds","over"] (ag oM):=fsc
def jM(K:Qp)(a:Ad):QF K a 3 "narrowest" a.A4 a.A5 ["columnsums","bounds","over"] 3:=⟨_,λP w mg base N=>⟨by
 have b:=(de K a).2 P w base N;have c:=(dg K a).2 P w base N;exact bf (k:=2) 3 3 _ N.Fo uG rfl rfl λe A outer s H E d=>ai (aG (ax (bj rfl (cso ["column","columnsums","bounds","over"] ["column"] [0,1,2]) (bW (by rfl) N.Ea (va1 (cz N.D6 (va1 (vv 0))))) (λcl C f s H=>⟨(pgN 0 ndc),qF (bv qh vq (vc b d (va4 (vv 1) (vv 2) (vv 3) (vv 0))) (vc c d (va3 (vv 2) (vv 3) (vv 0)))),λD=>aK rfl (vv 0) rfl⟩) ao au (λD=>aM)))),N.Fp,N.Fo.kp,N.Fq⟩⟩
theorem ir:FnScope ["many","told","number"] ["many"] (ag sJ):=fsc
def mj(K:Qp)(a:Ad):QF K a 2 "choices" a.A6 a.A7 ["many"] 1:=⟨_,λP w mg base N=>⟨by
 exact bf (k:=1) 1 3 _ N.Fs ir rfl rfl λb A outer s H E c=>af (aI (psS 1 ir.nd (eD (va1 (eD (ft))))))
   (af (bw aC (bp bO rfl (bW (by rfl) N.Ea (va1 (vv 0))) (pgN 2 ir.nd) (ai (aI (psS 1 ir.nd (aX aR bN (vv 1) (bj rfl (cso ["chosen","number"] ["chosen"] [2]) (aS (vv 1)) (λcl C d s H=>⟨(pgN 0 ndc),aP,λD=>aK rfl (aX aR bN (vv 0) (eD (va1 (vv 1)))) rfl⟩) ao au (λD=>aM))))))))
   (ai (aG (ax (vv 1))))),N.Ft,N.Fs.kp,N.Fu⟩⟩
theorem iR:FnScope ["rowsums","columnsums","bounds","over","into"] ["rowsums","columnsums","bounds"] (ag oQ):=fsc
def fA(K:Qp)(a:Ad):QF K a 4 "check_fit" a.A8 a.A9 ["rowsums","columnsums","bounds"] 3:=⟨_,λP w mg base N=>⟨by
 have c:=(mj K a).2 P w base N;have b:=(jM K a).2 P w base N;have d:=(mh K a).2 P w base N;have e:=(me K a).2 P w base N
 exact bf (k:=3) 3 5 _ N.Fv iR rfl rfl λg A outer s H E f=>ai (bw aC (bp bO rfl (aS (vc c f (va1 (cz N.D6 (va1 (vv 0)))))) (pgN 3 iR.nd) (af (aI (psS 4 iR.nd (vc b f (va3 (vv 1) (vv 2) (vv 3)))))
   (ai (cg (bv tZ yf (vc d f (va2 (vv 0) (vv 3))) (vc e f (va4 (vv 1) (vv 2) (vv 3) (vv 4)))) (ai (cR)) (bA)))))),N.Fw,N.Fv.kp,N.Fy⟩⟩
theorem fN:FnScope ["rowsums","wide","many"] ["rowsums"] (ag l6):=fsc
def iW(K:Qp)(a:Ad):QF K a 2 "check_wide" a.Ba a.Bb ["rowsums"] 1:=⟨_,λP w mg base N=>⟨by
 exact bf (k:=1) 1 3 _ N.Fz fN rfl rfl λb A outer s H E c=>af (aI (psS 1 fN.nd (ar)))
   (af (bw aC (bp bO rfl (aS (vv 0)) (pgN 2 fN.nd) (ai (fP rE (dY (i:=1) fN.nd rfl (by first|exact RT rfl|exact SF rfl) (aX aR bN (vv 2) (ar)) rH)))))
   (ai (cg (bv tZ yf (vv 1) (lS N.Ek)) (ai (cR)) (bA)))),N.F4,N.Fz.kp,N.F5⟩⟩
theorem gO:FnScope ["rowsums","columnsums","bounds","settled"] ["rowsums","columnsums","bounds"] (ag il):=fsc
def dE(K:Qp)(a:Ad):QF K a 4 "settled_for_net" a.Bc a.Bd ["rowsums","columnsums","bounds"] 3:=⟨_,λP w mg base N=>⟨by
 have c:=(iX K a).2 P w base N;have b:=(cW K a).2 P w base N;have d:=(iW K a).2 P w base N
 exact bf (k:=3) 3 4 _ N.F6 gO rfl rfl λf A outer s H E e=>af (l5 (dJ (vc c e (va2 (vv 0) (vv 1)))))
   (af (aI (psS 3 gO.nd (vc b e (va3 (vv 2) (cz N.D6 (va1 (vv 0))) (cz N.D6 (va1 (vv 1)))))))
   (af (l5 (dJ (vc d e (va1 (vv 0)))))
   (ai (aG (ax (vv 3)))))),N.F7,N.F6.kp,N.F8⟩⟩
theorem l4:FnScope ["rests","columnsums","bounds","column"] ["rests","columnsums","bounds","column"] (ag im):=fsc
def cc(K:Qp)(a:Ad):QF K a 3 "column_fillings" a.Be a.Bf ["rests","columnsums","bounds","column"] 4:=⟨_,λP w mg base N=>⟨by
 have b:=(kW K a).2 P w base N;exact bf (k:=2) 4 4 _ N.F9 l4 rfl rfl λc A outer s H E d=>ai (aG (ax (vc b d (va3 (vv 0) (bB aQ bG (vv 1) (vv 3)) (bj rfl (cso ["pairs","column"] ["pairs"] [3]) (aS (vv 2)) (λcl C e s H=>⟨(pgN 0 ndc),aP,λD=>aK rfl (bB aQ bG (vv 0) (vv 1)) rfl⟩) ao au (λD=>aM)))))),N.Ga,N.F9.kp,N.Gb⟩⟩
theorem pT:FnScope ["rests","counts"] ["rests","counts"] (ag j8):=fsc
def bR(K:Qp)(a:Ad):QF K a 2 "rests_behind" a.Bh a.Bi ["rests","counts"] 2:=⟨_,λP w mg base N=>⟨by
 exact bf (k:=1) 2 2 _ N.Gc pT rfl rfl λb A outer s H E c=>ai (aG (ax (ck dj iI (by rfl) N.Ef PyProof.Rows.Boot.«tuple» (va1 (bj rfl (cso ["rest","count"] ["rest","count"] []) (qC (by rfl) N.Eg (va2 (vv 0) (vv 1))) (λcl C d s H=>⟨(bz rfl (aw (pgN 0 ndc) (aw (pgN 1 ndc) bq))),aP,λD=>aK rfl (aX ge iC (vv 0) (vv 1)) rfl⟩) (dM (aV ao (aV ao cS)) (aT (aT cm))) (dH (aU au (aU au cQ))) (λD=>aM)))))),N.Gd,N.Gc.kp,N.Ge⟩⟩
theorem bZ:FnScope ["rowsums","columnsums","bounds","here","told","column","behind"] ["rowsums","columnsums","bounds"] (ag iT):=fsc
def fU(K:Qp)(a:Ad):QF K a 4 "nodes_by_level" a.Bj a.Bk ["rowsums","columnsums","bounds"] 3:=⟨_,λP w mg base N=>⟨by
 have c:=(bR K a).2 P w base N;have b:=(cc K a).2 P w base N
 exact bf (k:=3) 3 7 _ N.Gf bZ rfl rfl λe A outer s H E d=>af (aI (psS 3 bZ.nd (eD (va1 (ck dj iI (by rfl) N.Ef PyProof.Rows.Boot.«tuple» (va1 (vv 0)))))))
   (af (nu (psS 4 bZ.nd (fF (va1 (vv 3)))))
   (af (bw aC (bp bO rfl (bW (by rfl) N.Ea (va1 (cz N.D6 (va1 (vv 1))))) (pgN 5 bZ.nd) (af (aI (psS 6 bZ.nd (BY (by rfl) N.Ec rfl (cso ["rests","counts","columnsums","bounds","column"] ["rests","counts"] [1,2,5]) (aS (vv 3)) (λcl C f s H=>⟨(pgN 0 ndc),aP,λD=>rB rfl rfl rfl (aS (vc b d (va4 (vv 0) (vv 2) (vv 3) (vv 4)))) (pgN 1 ndc) (aP) (uY (ui d) rfl (vc c d (va2 (vv 0) (vv 1))) rfl)⟩) ao au (λD=>pi ao au (DY)))))
   (af (nz (dJ (nK Sv R8 R9 fY (pv 4) (va1 (vv 6)))))
   (ai (aI (psS 3 bZ.nd (vv 6))))))))
   (ai (aG (ax (vv 4)))))),N.Gg,N.Gf.kp,N.Gi⟩⟩
theorem bQ:FnScope ["rests","filled","behind","tables","dealings","counts","tables_behind","dealings_behind"] ["rests","filled","behind"] (ag lH):=fsc
def h9(K:Qp)(a:Ad):QF K a 4 "node_counts" a.Bl a.Bm ["rests","filled","behind"] 3:=⟨_,λP w mg base N=>⟨by
 have b:=(bR K a).2 P w base N;have c:=(kn K a).2 P w base N
 exact bf (k:=3) 3 8 _ N.Gj bQ rfl rfl λe A outer s H E d=>af (aI (psS 3 bQ.nd (ar)))
   (af (aI (psS 4 bQ.nd (ar)))
   (af (bw aC (bp bO rfl (aS (vv 1)) (pgN 5 bQ.nd) (af (tR (eW (bo aC (bo aC dL)) (bn (bn cU))) (fE (bB (AG (hu2 d)) Pd (vv 2) (vc b d (va2 (vv 0) (vv 5)))) (bz rfl (aw (pgN 6 bQ.nd) (aw (pgN 7 bQ.nd) bq)))))
   (af (fP iJ (dY (i:=3) bQ.nd rfl (by first|exact RT rfl|exact SF rfl) (vv 6) kz))
   (ai (fP iJ (dY (i:=4) bQ.nd rfl (by first|exact RT rfl|exact SF rfl) (aX iG nS (vc c d (va1 (vv 5))) (vv 7)) kz)))))))
   (ai (aG (ax (bT (va2 (vv 3) (vv 4)))))))),N.Gk,N.Gj.kp,N.Gm⟩⟩
theorem bC:FnScope ["rowsums","columnsums","bounds","levels","last","here","told","level","behind"] ["rowsums","columnsums","bounds"] (ag jt):=fsc
def eG(K:Qp)(a:Ad):QF K a 5 "counted_nodes" a.Bn a.Bo ["rowsums","columnsums","bounds"] 3:=⟨_,λP w mg base N=>⟨by
 have d:=(fU K a).2 P w base N;have c:=(cc K a).2 P w base N;have e:=(h9 K a).2 P w base N
 exact bf (k:=4) 3 9 _ N.Gn bC rfl rfl λh A outer s H E f=>af (aI (psS 3 bC.nd (vc d f (va3 (vv 0) (vv 1) (vv 2)))))
   (af (aI (psS 4 bC.nd (cz N.D6 (va1 (vv 1)))))
   (af (zj (kb:=PU) (i:=5) bC.nd rfl (by first|exact RT rfl|exact SF rfl) rfl (cso ["rests"] ["rests"] []) (aS (bB aQ bG (vv 3) (vv 4))) (λcl C g s H=>⟨(pgN 0 ndc),aP,λD=>k4 (b:=PU) (ui f) rfl (vv 0) (bT (va2 (ar) (ar))) rfl⟩) ao au (λD=>pk))
   (af (nu (psS 6 bC.nd (fF (va1 (vv 5)))))
   (af (bw aC (bp bO rfl (EI (by rfl) N.Eb (by rfl) N.Ea (va1 (vv 4))) (pgN 7 bC.nd) (af (aI (psS 8 bC.nd (vv 5)))
   (af (zj (kb:=PU) (i:=5) bC.nd rfl (by first|exact RT rfl|exact SF rfl) rfl (cso ["rests","columnsums","bounds","level","behind"] ["rests"] [1,2,7,8]) (aS (bB aQ bG (vv 3) (vv 7))) (λcl C g s H=>⟨(pgN 0 ndc),aP,λD=>k4 (b:=PU) (ui f) rfl (vv 0) (vc e f (va3 (vv 0) (vc c f (va4 (vv 0) (vv 1) (vv 2) (vv 3))) (vv 4))) rfl⟩) ao au (λD=>pk))
   (ai (nz (dJ (nK Sv R8 R9 fY (pv 6) (va1 (vv 5))))))))))
   (ai (aG (ax (JV (kb:=PP) rfl (cso ["level","nodes","rests","counts"] ["level","nodes","rests","counts"] []) (kB (by rfl) N.D3 (va1 (OF (vv 6) (v_un LB Pa (ar))))) (λcl C g s H=>⟨(bz rfl (aw (pgN 0 ndc) (aw (pgN 1 ndc) bq))),aP,λD=>rB rfl rfl rfl (Ld (vv 1)) (bz rfl (aw (pgN 2 ndc) (aw (pgN 3 ndc) bq))) (aP) (k4 (b:=PP) (ui f) rfl (bT (va2 (vv 0) (vv 2))) (vv 3) rfl)⟩) (dM (aV ao (aV ao cS)) (aT (aT cm))) (dH (aU au (aU au cQ))) (λD=>pi (dM (aV ao (aV ao cS)) (aT (aT cm))) (dH (aU au (aU au cQ))) (pk)))))))))),N.Go,N.Gn.kp,N.Gp⟩⟩
theorem pV:FnScope ["k","many"] ["k","many"] (ag kg):=fsc
def kq(K:Qp)(a:Ad):QF K a 2 "check_number" a.Bp a.Bq ["k","many"] 2:=⟨_,λP w mg base N=>⟨by
 exact bf (k:=1) 2 2 _ N.Gq pV rfl rfl λb A outer s H E c=>ai (cg (ng (qZ jA qh my vq (ar) (vv 0) (vv 1))) (ai (cR)) (bA)),N.Gr,N.Gq.kp,N.Gs⟩⟩
theorem o6:FnScope ["self","level","rests"] ["self","level","rests"] (ag jw):=fsc
def eK(K:Qp)(a:Ad):QM K a 2 a.Dq a.Dr ["self","level","rests"] 3:=⟨_,λP w mg base N=>by
 exact bf (k:=1) 3 3 _ N.J0 o6 rfl rfl λb A outer s H E c=>ai (aG (ax (OH (hu2 c) (jl N.J6 N.J9 (vv 0)) (va2 (bT (va2 (vv 1) (vv 2))) (bT (va2 (ar) (ar)))))))⟩
theorem uI:FnScope ["self","level","rests"] ["self","level","rests"] (ag oR):=fsc
def jQ(K:Qp)(a:Ad):QM K a 4 a.Do a.Dp ["self","level","rests"] 3:=⟨_,λP w mg base N=>by
 have b:=(cc K a).2 P w base N;have d:=(bR K a).2 P w base N;have c:=(eK K a).2 P w base N
 exact bf (k:=3) 3 3 _ N.Jx uI rfl rfl λg A outer s H E e=>af (cg (jZ (qV (bv (wL (hu2 e)) O9 (bT (va2 (vv 1) (vv 2))) (jl N.J6 N.J9 (vv 0))) (m6 (bv (eU e) gh (vv 1) (cz N.D6 (va1 (jl N.J6 N.J8 (vv 0)))))))) (ai (aG (ax (eD (ft))))) (bA))
   (ai (aG (ax (bj rfl (cso ["counts","self","level","rests"] ["counts"] [0,1,2]) (aS (vc b e (va4 (vv 2) (jl N.J6 N.J8 (vv 0)) (jl N.J6 N.Ka (vv 0)) (vv 1)))) (λcl C i s H=>⟨(pgN 0 ndc),qF (bv tZ yf (bB aQ bG (pM N.J6 N.J1 c (e.mono (by decide)) (dz.nil N.J2) tY (vv 1) (va2 (aX aR bN (vv 2) (ar)) (vc d e (va2 (vv 3) (vv 0)))) (λδ β r f h=>by rw[(br (br aN0)) δ β r f h];rfl)) (ar)) (ar)),λD=>aK rfl (vv 0) rfl⟩) ao au (λD=>aM)))))⟩
theorem cV:FnScope ["net","level","rests","told","counts","tables","dealings"] ["net","level","rests"] (ag jr):=fsc
def eF(K:Qp)(a:Ad):QF K a 5 "steps_counted" a.Br a.Bs ["net","level","rests"] 3:=⟨_,λP w mg base N=>⟨by
 have d:=(jQ K a).2 P w base N;have c:=(bR K a).2 P w base N;have b:=(eK K a).2 P w base N;have e:=(kn K a).2 P w base N
 exact bf (k:=4) 3 7 _ N.Gu cV rfl rfl λi A outer s H E g=>af (nu (psS 3 cV.nd (fF (ft))))
   (af (bw aC (bp bO rfl (aS (pM N.J6 N.Jy d (g.mono (by decide)) (dz.nil N.Jz) e9 (vv 0) (va2 (vv 1) (vv 2)) (λδ β r f h=>by rw[(br (br aN0)) δ β r f h];rfl))) (pgN 4 cV.nd) (af (tR (eW (bo aC (bo aC dL)) (bn (bn cU))) (fE (pM N.J6 N.J1 b (g.mono (by decide)) (dz.nil N.J2) e9 (vv 0) (va2 (aX aR bN (vv 1) (ar)) (vc c g (va2 (vv 2) (vv 4)))) (λδ β r f h=>by rw[(br (br aN0)) δ β r f h];rfl)) (bz rfl (aw (pgN 5 cV.nd) (aw (pgN 6 cV.nd) bq)))))
   (ai (nz (dJ (nK Sv R8 R9 fY (pv 3) (va1 (bT (va3 (vv 4) (vv 5) (aX iG nS (vc e g (va1 (vv 4))) (vv 6))))))))))))
   (ai (aG (ax (vv 3))))),N.Gv,N.Gu.kp,N.Gx⟩⟩
theorem gF:FnScope ["numbered","k","at"] ["numbered","k"] (ag p9):=fsc
def kX(K:Qp)(a:Ad):QF K a 2 "falls_to" a.Bt a.Bu ["numbered","k"] 2:=⟨_,λP w mg base N=>⟨by
 exact bf (k:=1) 2 3 _ N.Gy gF rfl rfl λb A outer s H E c=>af (aI (psS 2 gF.nd (ar)))
   (af (Kt bO (bv IQ l_ge (vv 1) (bB aQ bG (bB aQ bG (vv 0) (vv 2)) (ar))) (af (fP K6 (dY (i:=1) gF.nd rfl (by first|exact RT rfl|exact SF rfl) (bB aQ bG (bB aQ bG (vv 0) (vv 2)) (ar)) MX))
   (ai (fP iJ (dY (i:=2) gF.nd rfl (by first|exact RT rfl|exact SF rfl) (ar) kz)))))
   (ai (aG (ax (bT (va2 (bB aQ bG (bB aQ bG (vv 0) (vv 2)) (ar)) (vv 1))))))),N.Gz,N.Gy.kp,N.G0⟩⟩
theorem pW:FnScope ["self"] ["self"] (ag kh):=fsc
def kr(K:Qp)(a:Ad):QM K a 3 a.Dt a.Du ["self"] 1:=⟨_,λP w mg base N=>by
 have b:=(eK K a).2 P w base N;exact bf (k:=2) 1 1 _ N.J3 pW rfl rfl λd A outer s H E e=>ai (aG (ax (bB aQ bG (pM N.J6 N.J1 b (e.mono (by decide)) (dz.nil N.J2) e9 (vv 0) (va2 (ar) (ck dj iI (by rfl) N.Ef PyProof.Rows.Boot.«tuple» (va1 (jl N.J6 N.Kb (vv 0))))) (λδ β r c h=>by rw[(br (br aN0)) δ β r c h];rfl)) (ar))))⟩
theorem rf:FnScope ["self"] ["self"] (ag lL):=fsc
def dX(K:Qp)(a:Ad):QM K a 2 a.Di a.Dj ["self"] 1:=⟨_,λP w mg base N=>by
 exact bf (k:=1) 1 1 _ N.Jr rf rfl rfl λb A outer s H E c=>ai (aG (ax (ck c5 i9 (by rfl) N.D7 PyProof.Rows.Boot.«list» (va1 (jl N.J6 N.Kb (vv 0))))))⟩
theorem oK:FnScope ["self"] ["self"] (ag iU):=fsc
def fV(K:Qp)(a:Ad):QM K a 2 a.Dl a.Dm ["self"] 1:=⟨_,λP w mg base N=>by
 exact bf (k:=1) 1 1 _ N.Ju oK rfl rfl λb A outer s H E c=>ai (aG (ax (ck c5 i9 (by rfl) N.D7 PyProof.Rows.Boot.«list» (va1 (jl N.J6 N.J8 (vv 0))))))⟩
theorem bF:FnScope ["net","k","rests","columns","level","numbered","filling"] ["net","k"] (ag lJ):=fsc
def ib(K:Qp)(a:Ad):QF K a 6 "kth_dealing" a.Bv a.Bw ["net","k"] 2:=⟨_,λP w mg base N=>⟨by
 have d:=(kr K a).2 P w base N;have e:=(kq K a).2 P w base N;have g:=(dX K a).2 P w base N;have b:=(fV K a).2 P w base N;have c:=(eF K a).2 P w base N;have j:=(kX K a).2 P w base N;have l:=(kn K a).2 P w base N;have f:=(bR K a).2 P w base N;have h:=(dW K a).2 P w base N
 exact bf (k:=5) 2 7 _ N.G1 bF rfl rfl λn A outer s H E m=>af (l5 (dJ (vc e m (va2 (vv 1) (iE N.J6 N.J4 d (m.mono (by decide)) (dz.nil N.J5) e9 (vv 0) rfl)))))
   (af (aI (psS 2 bF.nd (ck dj iI (by rfl) N.Ef PyProof.Rows.Boot.«tuple» (va1 (iE N.J6 N.Js g (m.mono (by decide)) (dz.nil N.Jt) e9 (vv 0) rfl)))))
   (af (nu (psS 3 bF.nd (fF (ft))))
   (af (bw aC (bp bO rfl (bW (by rfl) N.Ea (va1 (cz N.D6 (va1 (iE N.J6 N.Jv b (m.mono (by decide)) (dz.nil N.Jw) e9 (vv 0) rfl))))) (pgN 4 bF.nd) (af (uJ (i:=5) bF.nd rfl (by first|exact RT rfl|exact SF rfl) rfl (cso ["counts","tables","dealings"] ["counts","tables","dealings"] []) (aS (vc c m (va3 (vv 0) (vv 4) (vv 2)))) (λcl C o s H=>⟨(bz rfl (aw (pgN 0 ndc) (aw (pgN 1 ndc) (aw (pgN 2 ndc) bq)))),aP,λD=>aK rfl (bT (va2 (vv 0) (vv 2))) rfl⟩) (dM (aV ao (aV ao (aV ao cS))) (aT (aT (aT cm)))) (dH (aU au (aU au (aU au cQ)))) (λD=>aM))
   (af (tR (eW (bo aC (bo aC dL)) (bn (bn cU))) (fE (vc j m (va2 (vv 5) (vv 1))) (bz rfl (aw (pgN 6 bF.nd) (aw (pgN 1 bF.nd) bq)))))
   (af (fP vt (dY (i:=1) bF.nd rfl (by first|exact RT rfl|exact SF rfl) (vc l m (va1 (vv 6))) wW))
   (af (nz (dJ (nK Sv R8 R9 fY (pv 3) (va1 (vv 6)))))
   (ai (aI (psS 2 bF.nd (vc f m (va2 (vv 2) (vv 6))))))))))))
   (ai (aG (ax (vc h m (va1 (vv 3))))))))),N.G2,N.G1.kp,N.G3⟩⟩
theorem iQ:FnScope ["net","rows","many"] ["net","rows"] (ag jv):=fsc
def gc(K:Qp)(a:Ad):QF K a 3 "columns_asked" a.Bx a.By ["net","rows"] 2:=⟨_,λP w mg base N=>⟨by
 have b:=(fV K a).2 P w base N;have c:=(dX K a).2 P w base N;have d:=(dW K a).2 P w base N
 exact bf (k:=2) 2 3 _ N.G4 iQ rfl rfl λf A outer s H E e=>af (aI (psS 2 iQ.nd (cz N.D6 (va1 (iE N.J6 N.Jv b (e.mono (by decide)) (dz.nil N.Jw) e9 (vv 0) rfl)))))
   (af (cg (jZ (qV (bv (fG e) gH (cz N.D6 (va1 (vv 1))) (cz N.D6 (va1 (iE N.J6 N.Js c (e.mono (by decide)) (dz.nil N.Jt) e9 (vv 0) rfl)))) (m6 (kQ (bY (jH rfl) ud (by rfl) N.Dz PyProof.Rows.Boot.«any» (va1 (bj rfl (cso ["counts","many"] ["counts"] [2]) (aS (vv 1)) (λcl C g s H=>⟨(pgN 0 ndc),aP,λD=>aK rfl (kO (fG e) gH (cz N.D6 (va1 (vv 0))) (vv 1)) rfl⟩) ao au (λD=>aM)))))))) (ai (cR)) (bA))
   (ai (aG (ax (bj rfl (cso ["counts"] ["counts"] []) (aS (vc d e (va1 (vv 1)))) (λcl C g s H=>⟨(pgN 0 ndc),aP,λD=>aK rfl (ck dj iI (by rfl) N.Ef PyProof.Rows.Boot.«tuple» (va1 (vv 0))) rfl⟩) ao au (λD=>aM)))))),N.G5,N.G4.kp,N.G6⟩⟩
theorem bD:FnScope ["net","level","rests","filling","tables_ahead","dealings_ahead","counts","tables","dealings"] ["net","level","rests","filling"] (ag ju):=fsc
def eJ(K:Qp)(a:Ad):QF K a 6 "counted_ahead" a.Bz a.B0 ["net","level","rests","filling"] 4:=⟨_,λP w mg base N=>⟨by
 have b:=(eF K a).2 P w base N
 exact bf (k:=5) 4 9 _ N.G7 bD rfl rfl λd A outer s H E c=>af (aI (psS 4 bD.nd (ar)))
   (af (aI (psS 5 bD.nd (ar)))
   (af (bw (eW (bo aC (bo aC (bo aC dL))) (bn (bn (bn cU)))) (bp bO rfl (aS (vc b c (va3 (vv 0) (vv 1) (vv 2)))) (bz rfl (aw (pgN 6 bD.nd) (aw (pgN 7 bD.nd) (aw (pgN 8 bD.nd) bq)))) (af (cg (bv (eU c) gh (vv 6) (vv 3)) (ai (aG (ax (bT (va2 (vv 4) (vv 5)))))) (bA))
   (af (fP iJ (dY (i:=4) bD.nd rfl (by first|exact RT rfl|exact SF rfl) (vv 7) kz))
   (ai (fP iJ (dY (i:=5) bD.nd rfl (by first|exact RT rfl|exact SF rfl) (vv 8) kz)))))))
   (ai (cR)))),N.G8,N.G7.kp,N.G9⟩⟩
theorem cN:FnScope ["net","rows","rests","first","many","level","filling"] ["net","rows"] (ag sF):=fsc
def md(K:Qp)(a:Ad):QF K a 7 "stretch" a.B5 a.B7 ["net","rows"] 2:=⟨_,λP w mg base N=>⟨by
 have e:=(dX K a).2 P w base N;have b:=(gc K a).2 P w base N;have c:=(eJ K a).2 P w base N;have f:=(kn K a).2 P w base N;have d:=(bR K a).2 P w base N
 exact bf (k:=6) 2 7 _ N.Ha cN rfl rfl λh A outer s H E g=>af (aI (psS 2 cN.nd (ck dj iI (by rfl) N.Ef PyProof.Rows.Boot.«tuple» (va1 (iE N.J6 N.Js e (g.mono (by decide)) (dz.nil N.Jt) e9 (vv 0) rfl)))))
   (af (aI (psS 3 cN.nd (ar)))
   (af (aI (psS 4 cN.nd (ar)))
   (af (bw (eW (bo aC (bo aC dL)) (bn (bn cU))) (bp bO rfl (kB (by rfl) N.D3 (va1 (vc b g (va2 (vv 0) (vv 1))))) (bz rfl (aw (pgN 5 cN.nd) (aw (pgN 6 cN.nd) bq))) (af (fP iJ (dY (i:=3) cN.nd rfl (by first|exact RT rfl|exact SF rfl) (aX iG nS (vv 4) (bB aQ bG (vc c g (va4 (vv 0) (vv 5) (vv 2) (vv 6))) (ar))) kz))
   (af (fP rE (dY (i:=4) cN.nd rfl (by first|exact RT rfl|exact SF rfl) (vc f g (va1 (vv 6))) rH))
   (ai (aI (psS 2 cN.nd (vc d g (va2 (vv 2) (vv 6))))))))))
   (ai (aG (ax (bT (va2 (vv 3) (aX aR bN (vv 3) (vv 4)))))))))),N.Hb,N.Ha.kp,N.Hc⟩⟩
theorem zf:FnScope ["_law_found","_law_due"] ["_law_found","_law_due"] (ag uL):=fsc
def pB(K:Qp)(a:Ad)(rec:List D->M D):G:=
  aW (gIf (ii (aB fR (ae (ah 1) (ae (aB cI (ae (fC (.ty "list")) (ae (fC (.ty "tuple")) (ay)))) (ay))))) (aW (gIf (gm (fB (f2 (dT) (aB cM (ae (ah 1) (ae (fC (.ty "list")) (ay)))) (aB cM (ae (ah 0) (ae (fC (.ty "list")) (ay)))))) (fB (f2 (dT) (aB cM (ae (ah 1) (ae (fC (.ty "tuple")) (ay)))) (aB cM (ae (ah 0) (ae (fC (.ty "tuple")) (ay))))))) (da (fC (.bl PU))) (gNil))
  (aW (gIf (fB (f2 (dT) (aB cB (ae (ah 0) (ay))) (aB cB (ae (ah 1) (ay))))) (da (fC (.bl PU))) (gNil))
  (da (f2 (inD PP) (fC (.bl PU)) (cw 2 [] (i5 (ae (ah 0) (ae (ah 1) (ay)))) (tgT (dG (tgC 0) (dG (tgC 1) hV))) (λ_=>M.ret PP) (cEm (ci rec (ae (ah 0) (ae (ah 1) (ay)))))))))) (gNil))
  (aW (gIf (fB (f2 (ig) (ah 1) (fC .non))) (da (f2 (ig) (ah 0) (fC .non))) (gNil))
  (aW (gIf (gm (fB (f2 (dT) (aB cM (ae (ah 1) (ae (fC (.ty "str")) (ay)))) (aB cM (ae (ah 0) (ae (fC (.ty "str")) (ay)))))) (fB (f2 (dT) (aB cM (ae (ah 1) (ae (fC (.ty "bool")) (ay)))) (aB cM (ae (ah 0) (ae (fC (.ty "bool")) (ay))))))) (da (fC (.bl PU))) (gNil))
  (da (lx (aB fR (ae (ah 0) (ae (aB cI (ae (fC (.ty "int")) (ae (fC (.ty "str")) (ay)))) (ay)))) (f2 (gn) (ah 0) (ah 1))))))
def eV(K:Qp)(a:Ad):Nat->List D->M D
 |0=>λ_=>M.fail
 |n+1=>c8 2 (pB K a (eV K a n))
theorem qj(N:Fns K mg a):∀n,FnOk P w K mg base (CXE P w) (n+1) a.Cd a.Cf ["_law_found","_law_due"] (spF K 2 (eV K a n))
 |0=>⟨λvs H Q E h=>h.1,λA outer s H args us vs Q E b f g r h=>by
  obtain⟨_,F,ds,β,_,_,i,β1,e,_⟩:=h;cases e⟩
 |n+1=>by
  have c:=qj N n;unfold eV;exact bf (k:=n+1) 2 2 (pB K a (eV K a n)) N.Hj zf rfl rfl λd A outer s H E b=>af (cg (kQ (bY qN AC (by rfl) N.D5 PyProof.Rows.Boot.«isinstance» (va2 (vv 1) (bT (va2 (v_c (dh (v:= .ty "list") (by rfl) N.D7 PyProof.Rows.Boot.«list» rfl) (λ_ _=>rfl)) (v_c (dh (v:= .ty "tuple") (by rfl) N.Ef PyProof.Rows.Boot.«tuple» rfl) (λ_ _=>rfl))))))) (af (cg (jZ (qV (bv (fG b) gH (lT N.D5 (va2 (vv 1) (v_c (dh (v:= .ty "list") (by rfl) N.D7 PyProof.Rows.Boot.«list» rfl) (λ_ _=>rfl)))) (lT N.D5 (va2 (vv 0) (v_c (dh (v:= .ty "list") (by rfl) N.D7 PyProof.Rows.Boot.«list» rfl) (λ_ _=>rfl))))) (m6 (bv (fG b) gH (lT N.D5 (va2 (vv 1) (v_c (dh (v:= .ty "tuple") (by rfl) N.Ef PyProof.Rows.Boot.«tuple» rfl) (λ_ _=>rfl)))) (lT N.D5 (va2 (vv 0) (v_c (dh (v:= .ty "tuple") (by rfl) N.Ef PyProof.Rows.Boot.«tuple» rfl) (λ_ _=>rfl)))))))) (ai (aG (ax (oX)))) (bA))
   (af (cg (bv (fG b) gH (cz N.D6 (va1 (vv 0))) (cz N.D6 (va1 (vv 1)))) (ai (aG (ax (oX)))) (bA))
   (ai (aG (ax (kO mn (EB (neg:=PP)) (oX) (bj rfl (cso ["_law_one","_law_other"] ["_law_one","_law_other"] []) (qC (by rfl) N.Eg (va2 (vv 0) (vv 1))) (λcl C j s H=>⟨(bz rfl (aw (pgN 0 ndc) (aw (pgN 1 ndc) bq))),aP,λD=>aK rfl (yM c (b.mono (P5 _)) (by rfl) N.Hk N.Hj.kp N.Hl tY (va2 (vv 0) (vv 1)) (br (br aN0))) rfl⟩) (dM (aV ao (aV ao cS)) (aT (aT cm))) (dH (aU au (aU au cQ))) (λD=>aM)))))))) (bA))
   (af (cg (bv uZ ye (vv 1) (xA)) (ai (aG (ax (kO uZ ye (vv 0) (xA))))) (bA))
   (af (cg (jZ (qV (bv (fG b) gH (lT N.D5 (va2 (vv 1) (v_c (dh (v:= .ty "str") (by rfl) N.Ed PyProof.Rows.Boot.«str» rfl) (λ_ _=>rfl)))) (lT N.D5 (va2 (vv 0) (v_c (dh (v:= .ty "str") (by rfl) N.Ed PyProof.Rows.Boot.«str» rfl) (λ_ _=>rfl))))) (m6 (bv (fG b) gH (lT N.D5 (va2 (vv 1) (v_c (dh (v:= .ty "bool") (by rfl) N.D0 PyProof.Rows.Boot.«bool» rfl) (λ_ _=>rfl)))) (lT N.D5 (va2 (vv 0) (v_c (dh (v:= .ty "bool") (by rfl) N.D0 PyProof.Rows.Boot.«bool» rfl) (λ_ _=>rfl)))))))) (ai (aG (ax (oX)))) (bA))
   (ai (aG (ax (OI (bY qN AC (by rfl) N.D5 PyProof.Rows.Boot.«isinstance» (va2 (vv 0) (bT (va2 (v_c (dh (v:= .ty "int") (by rfl) N.D4 PyProof.Rows.Boot.«int» rfl) (λ_ _=>rfl)) (v_c (dh (v:= .ty "str") (by rfl) N.Ed PyProof.Rows.Boot.«str» rfl) (λ_ _=>rfl)))))) (OG (kO (eU b) gh (vv 0) (vv 1)))))))))
theorem zK(N:Fns K mg a):FB P w K mg base 7 "_law_same" a.Cd a.Cf ["_law_found","_law_due"] 2 (eV K a 5):=⟨(qj P w base N 5).mono (by decide),N.Hk,N.Hj.kp,N.Hl⟩
theorem gQ:FnScope ["_law_bag_here","_law_block","_law_columns","_law_things","_law_grid_here","_law_thing","_law_at","_law_to"] ["_law_bag_here","_law_block","_law_columns","_law_things"] (ag uO):=fsc
def kT(K:Qp)(a:Ad):QF K a 3 "_law_grid" a.Cg a.Ch ["_law_bag_here","_law_block","_law_columns","_law_things"] 4:=⟨_,λP w mg base N=>⟨by
 have b:=jE P w base N
 exact bf (k:=2) 4 8 _ N.Hm gQ rfl rfl λd A outer s H E c=>af (LW (i:=4) gQ.nd rfl (by first|exact RT rfl|exact SF rfl) rfl (cso ["_law_row","_law_columns"] ["_law_row"] [2]) (bW (by rfl) N.Ea (va1 (vv 1))) (λcl C e s H=>⟨(pgN 0 ndc),aP,λD=>aK rfl (O0 (va1 (ar)) (vv 1)) rfl⟩) ao au (λD=>wS))
   (af (bw aC (bp bO rfl (bW (by rfl) N.Ea (va1 (vv 3))) (pgN 5 gQ.nd) (af (aI (psS 6 gQ.nd (vc b c (va2 (vv 0) (vv 1)))))
   (af (aI (psS 7 gQ.nd (vc b c (va2 (vv 0) (vv 2)))))
   (ai (uQ (fE (aX aR bN (bB aQ bG (bB aQ bG (vv 4) (vv 6)) (vv 7)) (ar)) (kt (gG d7 (pv 4) (vv 6) (λ_ _=>rfl)) (vv 7) gy))))))))
   (ai (aG (ax (vv 4))))),N.Hn,N.Hm.kp,N.Ho⟩⟩
theorem iq:FnScope ["_law_bag_here","_law_way","_law_block","_law_columns"] ["_law_bag_here"] (ag sI):=fsc
def jy(K:Qp)(a:Ad):QF K a 4 "_law_small" a.Ci a.Cj ["_law_bag_here"] 1:=⟨_,λP w mg base N=>⟨by
 have b:=jE P w base N;have c:=(kT K a).2 P w base N
 exact bf (k:=3) 1 4 _ N.Hq iq rfl rfl λe A outer s H E d=>af (aI (psS 1 iq.nd (vc b d (va2 (vv 0) (ar)))))
   (af (cg (bv (eU d) gh (vv 1) (ar)) (ai (aG (ax (vc c d (va4 (vv 0) (ar) (ar) (vc b d (va2 (vv 0) (ar)))))))) (bA))
   (af (cg (bv (eU d) gh (vv 1) (ar)) (ai (aG (ax (vc c d (va4 (vv 0) (ar) (aX aR bN (ar) (vc b d (va2 (vv 0) (ar)))) (vc b d (va2 (vv 0) (ar)))))))) (bA))
   (af (cg (bv (eU d) gh (vv 1) (ar)) (ai (aG (ax (vc c d (va4 (vv 0) (aX aR bN (ar) (vc b d (va2 (vv 0) (ar)))) (ar) (vc b d (va2 (vv 0) (ar)))))))) (bA))
   (af (aI (psS 2 iq.nd (aX aR bN (ar) (vc b d (va2 (vv 0) (ar))))))
   (af (aI (psS 3 iq.nd (aX aR bN (ar) (vc b d (va2 (vv 0) (ar))))))
   (ai (aG (ax (vc c d (va4 (vv 0) (vv 2) (vv 3) (vc b d (va2 (vv 0) (ar))))))))))))),N.Hr,N.Hq.kp,N.Ht⟩⟩
theorem v6:FnScope ["_law_block"] ["_law_block"] (ag pY):=fsc
def kS(K:Qp)(a:Ad):QF K a 2 "_law_turned" a.Ck a.Cl ["_law_block"] 1:=⟨_,λP w mg base N=>⟨by
 exact bf (k:=1) 1 1 _ N.Hu v6 rfl rfl λb A outer s H E d=>ai (aG (ax (bj rfl (cso ["_law_to","_law_block"] ["_law_to"] [0]) (bW (by rfl) N.Ea (va1 (cz N.D6 (va1 (bB aQ bG (vv 0) (ar)))))) (λcl C c s H=>⟨(pgN 0 ndc),aP,λD=>aK rfl (bj rfl (cso ["_law_row","_law_to"] ["_law_row"] [0]) (aS (vv 1)) (λcl C c s H=>⟨(pgN 0 ndc),aP,λD=>aK rfl (bB aQ bG (vv 0) (vv 1)) rfl⟩) ao au (λD=>aM)) rfl⟩) ao au (λD=>aM)))),N.Hv,N.Hu.kp,N.Hw⟩⟩
theorem uH:FnScope ["_law_grid_here"] ["_law_grid_here"] (ag oN):=fsc
def jN(K:Qp)(a:Ad):QF K a 2 "_law_rowsums" a.Cm a.Cn ["_law_grid_here"] 1:=⟨_,λP w mg base N=>⟨by
 exact bf (k:=1) 1 1 _ N.Hx uH rfl rfl λb A outer s H E c=>ai (aG (ax (bj rfl (cso ["_law_row"] ["_law_row"] []) (aS (vv 0)) (λcl C d s H=>⟨(pgN 0 ndc),aP,λD=>aK rfl (f9 N.Ee (va1 (vv 0))) rfl⟩) ao au (λD=>aM)))),N.Hy,N.Hx.kp,N.Hz⟩⟩
theorem pU:FnScope ["_law_grid_here"] ["_law_grid_here"] (ag j9):=fsc
def gA(K:Qp)(a:Ad):QF K a 3 "_law_columnsums" a.Co a.Cp ["_law_grid_here"] 1:=⟨_,λP w mg base N=>⟨by
 have b:=(kS K a).2 P w base N;exact bf (k:=2) 1 1 _ N.Ia pU rfl rfl λc A outer s H E d=>ai (aG (ax (bj rfl (cso ["_law_column"] ["_law_column"] []) (aS (vc b d (va1 (vv 0)))) (λcl C e s H=>⟨(pgN 0 ndc),aP,λD=>aK rfl (f9 N.Ee (va1 (vv 0))) rfl⟩) ao au (λD=>aM)))),N.Ib,N.Ia.kp,N.Id⟩⟩
theorem zh:FnScope ["_law_block","_law_columns"] ["_law_block","_law_columns"] (ag uP):=fsc
def sS(K:Qp)(a:Ad):G:=
  mF (jd 1 [1] (bV gz (ae (ah 0) (ay))) (tgC 0) (λ_=>M.ret PP) (vX (gX 1 [] (bV gz (ae (ah 1) (ay))) (tgC 0) (λ_=>M.ret PP) (cEm (aB cI (ae (fC (.int 0)) (ae (fC (.int 40)) (ay))))))))
def mt(K:Qp)(a:Ad):List D->M (List (List D)):=oF 2 (sS K a)
theorem xY(N:Fns K mg a):FnOk P w K mg base (CXE P w) 2 a.Cq a.Cr ["_law_block","_law_columns"] (spG K 2 (mt K a)):=by
 unfold mt;exact Lj (k:=1) 2 2 (sS K a) N.Ie zh rfl rfl λb A outer s H E d=>ai (Ku (ax (M2 rfl (cso ["_law_at","_law_columns"] ["_law_at"] [1]) (bW (by rfl) N.Ea (va1 (vv 0))) (λcl C c s H=>⟨(pgN 0 ndc),aP,λD=>aK rfl (MD rfl (cso ["_law_to"] ["_law_to"] []) (bW (by rfl) N.Ea (va1 (vv 1))) (λcl C c s H=>⟨(pgN 0 ndc),aP,λD=>aK rfl (bT (va2 (ar) (ar))) rfl⟩) ao au (λD=>aM)) rfl⟩) ao au (λD=>wS))))
theorem dC:FnScope ["_law_bag_here","_law_grid_here","_law_told","_law_at","_law_row","_law_to","_law_count","_law_way"] ["_law_bag_here","_law_grid_here"] (ag p7):=fsc
def iz(K:Qp)(a:Ad):QF K a 3 "_law_bounds" a.Cs a.Ct ["_law_bag_here","_law_grid_here"] 2:=⟨_,λP w mg base N=>⟨by
 have c:=xY P w base N;have b:=jE P w base N
 exact bf (k:=2) 2 8 _ N.Ii dC rfl rfl λe A outer s H E d=>af (IJ (psS 2 dC.nd (M3 c (d.mono (by decide)) (by rfl) N.Ig N.Ie.kp N.Ih e9 (va2 (cz N.D6 (va1 (vv 1))) (cz N.D6 (va1 (bB aQ bG (vv 1) (ar))))) (br (br aN0)))))
   (af (cg (bv (eU d) gh (vc b d (va2 (vv 0) (ar))) (ar)) (ai (aG (ax (vv 2)))) (bA))
   (af (bw (eW (bo aC (bo aC dL)) (bn (bn cU))) (bp bO rfl (kB (by rfl) N.D3 (va1 (vv 1))) (bz rfl (aw (pgN 3 dC.nd) (aw (pgN 4 dC.nd) bq))) (ai (bw (eW (bo aC (bo aC dL)) (bn (bn cU))) (bp bO rfl (kB (by rfl) N.D3 (va1 (vv 4))) (bz rfl (aw (pgN 5 dC.nd) (aw (pgN 6 dC.nd) bq))) (af (aI (psS 7 dC.nd (vc b d (va2 (vv 0) (ar)))))
   (af (cg (bv (eU d) gh (vv 7) (ar)) (ai (uQ (fE (bT (va2 (aX ge iC (vv 6) (vc b d (va2 (vv 0) (aX aR bN (vv 6) (ar))))) (bY (jG rfl) uc (by rfl) N.D9 PyProof.Rows.Boot.«min» (va2 (ar) (aX aR bN (vv 6) (vc b d (va2 (vv 0) (ar)))))))) (kt (gG d7 (pv 2) (vv 3) (λ_ _=>rfl)) (vv 5) gy)))) (bA))
   (ai (cg (bv (eU d) gh (vv 7) (ar)) (ai (uQ (fE (bT (va2 (ar) (bY (tw rfl) IW (by rfl) N.D8 PyProof.Rows.Boot.«max» (va2 (vv 6) (vc b d (va2 (vv 0) (ar))))))) (kt (gG d7 (pv 2) (vv 3) (λ_ _=>rfl)) (vv 5) gy)))) (bA))))))))))
   (ai (aG (ax (vv 2)))))),N.Ij,N.Ii.kp,N.Ik⟩⟩
theorem v7:FnScope ["_law_block"] ["_law_block"] (ag pZ):=fsc
def kU(K:Qp)(a:Ad):QF K a 2 "_law_copied" a.Cu a.Cv ["_law_block"] 1:=⟨_,λP w mg base N=>⟨by
 exact bf (k:=1) 1 1 _ N.Il v7 rfl rfl λb A outer s H E c=>ai (aG (ax (bj rfl (cso ["_law_row"] ["_law_row"] []) (aS (vv 0)) (λcl C d s H=>⟨(pgN 0 ndc),aP,λD=>aK rfl (ck c5 i9 (by rfl) N.D7 PyProof.Rows.Boot.«list» (va1 (vv 0))) rfl⟩) ao au (λD=>aM)))),N.Im,N.Il.kp,N.Io⟩⟩
theorem eS:FnScope ["_law_rests","_law_lot","_law_pairs","_law_found","_law_rest","_law_duo","_law_longer","_law_one","_law_count"] ["_law_rests","_law_lot","_law_pairs"] (ag ww):=fsc
def rn(K:Qp)(a:Ad):QF K a 2 "_law_fit" a.Cw a.Cy ["_law_rests","_law_lot","_law_pairs"] 3:=⟨_,λP w mg base N=>⟨by
 exact bf (k:=1) 3 9 _ N.Ip eS rfl rfl λb A outer s H E c=>af (aI (psS 3 eS.nd (eD (va1 (eD (ft))))))
   (af (bw (eW (bo aC (bo aC dL)) (bn (bn cU))) (bp bO rfl (qC (by rfl) N.Eg (va2 (vv 0) (vv 2))) (bz rfl (aw (pgN 4 eS.nd) (aw (pgN 5 eS.nd) bq))) (af (nu (psS 6 eS.nd (fF (ft))))
   (af (bw aC (bp bO rfl (aS (vv 3)) (pgN 7 eS.nd) (ai (bw aC (bp bO rfl (lh (by rfl) N.Ea (va2 (bB aQ bG (vv 5) (ar)) (aX aR bN (bY (jG rfl) uc (by rfl) N.D9 PyProof.Rows.Boot.«min» (va2 (bB aQ bG (vv 5) (ar)) (vv 4))) (ar)))) (pgN 8 eS.nd) (ai (nz (dJ (nK Sv R8 R9 fY (pv 6) (va1 (aX aR bN (vv 7) (eD (va1 (vv 8))))))))))))))
   (LX 6 (ai (aI (psS 3 eS.nd (vv 6)))))))))
   (ai (aG (ax (bj rfl (cso ["_law_one","_law_lot"] ["_law_one"] [1]) (aS (vv 3)) (λcl C d s H=>⟨(pgN 0 ndc),qF (bv (eU c) gh (f9 N.Ee (va1 (vv 0))) (vv 1)),λD=>aK rfl (vv 0) rfl⟩) ao au (λD=>aM)))))),N.Iq,N.Ip.kp,N.Ir⟩⟩
theorem zg:FnScope ["_law_rests","_law_column"] ["_law_rests","_law_column"] (ag uN):=fsc
def pe(K:Qp)(a:Ad):QF K a 2 "_law_less" a.Cz a.C0 ["_law_rests","_law_column"] 2:=⟨_,λP w mg base N=>⟨by
 exact bf (k:=1) 2 2 _ N.Iu zg rfl rfl λb A outer s H E c=>ai (aG (ax (bj rfl (cso ["_law_rest","_law_count"] ["_law_rest","_law_count"] []) (qC (by rfl) N.Eg (va2 (vv 0) (vv 1))) (λcl C d s H=>⟨(bz rfl (aw (pgN 0 ndc) (aw (pgN 1 ndc) bq))),aP,λD=>aK rfl (aX ge iC (vv 0) (vv 1)) rfl⟩) (dM (aV ao (aV ao cS)) (aT (aT cm))) (dH (aU au (aU au cQ))) (λD=>aM)))),N.Iw,N.Iu.kp,N.Ix⟩⟩
theorem bU:FnScope ["_law_rowsums_here","_law_columnsums_here","_law_limits","_law_found","_law_to","_law_lot","_law_longer","_law_told","_law_rests","_law_column"] ["_law_rowsums_here","_law_columnsums_here","_law_limits"] (ag oO):=fsc
def jO(K:Qp)(a:Ad):QF K a 3 "_law_listing" a.C2 a.C3 ["_law_rowsums_here","_law_columnsums_here","_law_limits"] 3:=⟨_,λP w mg base N=>⟨by
 have c:=(rn K a).2 P w base N;have b:=(pe K a).2 P w base N
 exact bf (k:=2) 3 10 _ N.Iy bU rfl rfl λe A outer s H E d=>af (aI (psS 3 bU.nd (eD (va1 (bT (va2 (eD (ft)) (ck c5 i9 (by rfl) N.D7 PyProof.Rows.Boot.«list» (va1 (vv 0)))))))))
   (af (bw (eW (bo aC (bo aC dL)) (bn (bn cU))) (bp bO rfl (kB (by rfl) N.D3 (va1 (vv 1))) (bz rfl (aw (pgN 4 bU.nd) (aw (pgN 5 bU.nd) bq))) (af (nu (psS 6 bU.nd (fF (ft))))
   (af (bw (eW (bo aC (bo aC dL)) (bn (bn cU))) (bp bO rfl (aS (vv 3)) (bz rfl (aw (pgN 7 bU.nd) (aw (pgN 8 bU.nd) bq))) (ai (bw aC (bp bO rfl (aS (vc c d (va3 (vv 8) (vv 5) (bj rfl (cso ["_law_row","_law_to"] ["_law_row"] [4]) (aS (vv 2)) (λcl C f s H=>⟨(pgN 0 ndc),aP,λD=>aK rfl (bB aQ bG (vv 0) (vv 1)) rfl⟩) ao au (λD=>aM))))) (pgN 9 bU.nd) (ai (nz (dJ (nK Sv R8 R9 fY (pv 6) (va1 (bT (va2 (aX aR bN (vv 7) (eD (va1 (vv 9)))) (vc b d (va2 (vv 8) (vv 9)))))))))))))))
   (LX 6 (ai (aI (psS 3 bU.nd (vv 6)))))))))
   (ai (aG (ax (bj rfl (cso ["_law_told","_law_rests"] ["_law_told","_law_rests"] []) (aS (vv 3)) (λcl C f s H=>⟨(bz rfl (aw (pgN 0 ndc) (aw (pgN 1 ndc) bq))),aP,λD=>aK rfl (vv 0) rfl⟩) (dM (aV ao (aV ao cS)) (aT (aT cm))) (dH (aU au (aU au cQ))) (λD=>aM)))))),N.Iz,N.Iy.kp,N.I0⟩⟩
theorem CP:FnScope ["_law_grid_here","_law_limits"] ["_law_grid_here","_law_limits"] (ag wy):=fsc
def rp(K:Qp)(a:Ad):QF K a 4 "_law_all" a.C4 a.C5 ["_law_grid_here","_law_limits"] 2:=⟨_,λP w mg base N=>⟨by
 have c:=(jN K a).2 P w base N;have b:=(gA K a).2 P w base N;have d:=(jO K a).2 P w base N;exact bf (k:=3) 2 2 _ N.I9 CP rfl rfl λf A outer s H E e=>ai (aG (ax (vc d e (va3 (vc c e (va1 (vv 0))) (vc b e (va1 (vv 0))) (vv 1))))),N.Ja,N.I9.kp,N.Jb⟩⟩
theorem e8:FnScope ["_law_lot","_law_found","_law_k"] ["_law_lot"] (ag lI):=fsc
def ia(K:Qp)(a:Ad):QF K a 2 "_law_factorial" a.C6 a.C7 ["_law_lot"] 1:=⟨_,λP w mg base N=>⟨by
 exact bf (k:=1) 1 3 _ N.Jc e8 rfl rfl λb A outer s H E c=>af (aI (psS 1 e8.nd (ar)))
   (af (bw aC (bp bO rfl (lh (by rfl) N.Ea (va2 (ar) (aX aR bN (vv 0) (ar)))) (pgN 2 e8.nd) (ai (aI (psS 1 e8.nd (aX iG nS (vv 1) (vv 2)))))))
   (ai (aG (ax (vv 1))))),N.Jd,N.Jc.kp,N.Je⟩⟩
theorem jo:FnScope ["_law_parts","_law_under","_law_part"] ["_law_parts"] (ag uK):=fsc
def pb(K:Qp)(a:Ad):QF K a 3 "_law_ways" a.C8 a.C9 ["_law_parts"] 1:=⟨_,λP w mg base N=>⟨by
 have b:=(ia K a).2 P w base N
 exact bf (k:=2) 1 3 _ N.Jf jo rfl rfl λd A outer s H E c=>af (aI (psS 1 jo.nd (ar)))
   (af (bw aC (bp bO rfl (aS (vv 0)) (pgN 2 jo.nd) (ai (aI (psS 1 jo.nd (aX iG nS (vv 1) (vc b c (va1 (vv 2)))))))))
   (ai (aG (ax (aX DF MT (vc b c (va1 (f9 N.Ee (va1 (vv 0))))) (vv 1)))))),N.Jg,N.Jf.kp,N.Jh⟩⟩
theorem gE:FnScope ["_law_columns","_law_found","_law_column"] ["_law_columns"] (ag pX):=fsc
def iw(K:Qp)(a:Ad):QF K a 4 "_law_weight" a.Da a.Db ["_law_columns"] 1:=⟨_,λP w mg base N=>⟨by
 have b:=(pb K a).2 P w base N
 exact bf (k:=3) 1 3 _ N.Ji gE rfl rfl λc A outer s H E d=>af (aI (psS 1 gE.nd (ar)))
   (af (bw aC (bp bO rfl (aS (vv 0)) (pgN 2 gE.nd) (ai (aI (psS 1 gE.nd (aX iG nS (vv 1) (vc b d (va1 (vv 2)))))))))
   (ai (aG (ax (vv 1))))),N.Jj,N.Ji.kp,N.Jk⟩⟩
theorem jq:FnScope ["self","rowsums","columnsums","bounds","settled"] ["self","rowsums","columnsums","bounds"] (ag ki):=fsc
def vC(K:Qp)(a:Ad):IP:=
  nZ (gj 4 (ci (dE K a).1 (ae (ah 1) (ae (ah 2) (ae (ah 3) (ay))))))
  (nZ (gl (ci (fA K a).1 (ae (ah 1) (ae (ah 2) (ae (ah 4) (ay))))))
  (jC (aB ub (ae (ah 1) (ay)))
  (jC (aB ub (ae (ah 2) (ay)))
  (jC (ah 4)
  (jC (ci (eG K a).1 (ae (ah 1) (ae (ah 2) (ae (ah 4) (ay)))))
  (JB))))))
def qq(K:Qp)(a:Ad):List D->M (List D):=n5 5 (vC K a)
theorem KQ(N:Fns K mg a):FnOk P w K mg base (CXE P w) 6 a.Dg a.Dh ["self","rowsums","columnsums","bounds"] (spI K a.Ae ["row_list","column_list","pairs","counted"] 3 (qq K a)):=by
 have c:=(eG K a).2 P w base N;have d:=(fA K a).2 P w base N;have b:=(dE K a).2 P w base N;unfold qq
 exact Li (k:=5) 3 5 (vC K a) N.Jo jq rfl rfl λf A outer s H E e=>JC (aI (psS 4 jq.nd (vc b e (va3 (vv 1) (vv 2) (vv 3)))))
   (JC (l5 (dJ (vc d e (va3 (vv 1) (vv 2) (vv 4)))))
   (uh N.J6 N.Kb (by decide) (by decide) (qf (pv 0) (ck c5 i9 (by rfl) N.D7 PyProof.Rows.Boot.«list» (va1 (vv 1))) rfl)
   (uh N.J6 N.J8 (by decide) (by decide) (qf (pv 0) (ck c5 i9 (by rfl) N.D7 PyProof.Rows.Boot.«list» (va1 (vv 2))) rfl)
   (uh N.J6 N.Ka (by decide) (by decide) (qf (pv 0) (vv 4) rfl)
   (uh N.J6 N.J9 (by decide) (by decide) (qf (pv 0) (vc c e (va3 (vv 1) (vv 2) (vv 4))) rfl)
   (Pk))))))
theorem CN:FnScope ["_law_grid_here","_law_limits"] ["_law_grid_here","_law_limits"] (ag wv):=fsc
def rm(K:Qp)(a:Ad):QF K a 8 "_law_net" a.Dd a.Df ["_law_grid_here","_law_limits"] 2:=⟨_,λP w mg base N=>⟨by
 have c:=(jN K a).2 P w base N;have b:=(gA K a).2 P w base N;have e:=KQ P w base N;have d:=(kU K a).2 P w base N;exact bf (k:=7) 2 2 _ N.Jl CN rfl rfl λg A outer s H E f=>ai (aG (ax (JU N.Jp e (f.mono (by decide)) (by rfl) N.J7 N.Jq e9 (va2 (vc c f (va1 (vv 0))) (vc b f (va1 (vv 0)))) (JS (vc d f (va1 (vv 1))) (Ly)) (br (br aN0)) (br aN0) rfl))),N.Jm,N.Jl.kp,N.Jn⟩⟩
theorem eP:FnScope ["_law_script","_law_bag_here","_law_grid_here","_law_limits","_law_net_here","_law_told","_law_k","_law_first","_law_lot","_law_block","_law_number"] ["_law_script"] (ag ny):=fsc
def qc(K:Qp)(a:Ad):{g:G//∀(P:QD) (w:QS) {mg:QN->Option PY} (base:Rl) (N:Fns K mg a) (f:PX) (p:PY) (A:Rg) (outer:List WV) (s:P7) (H:Hp) (E:XK),Room 8 (A.deeper (PyProof.Rows.envOfC "law" (ag ny) s.heap.objs.size f p))->PSs (fW (CXE P w) P w K mg base ["_law_script","_law_bag_here","_law_grid_here","_law_limits","_law_net_here","_law_told","_law_k","_law_first","_law_lot","_law_block","_law_number"] "law" (ag ny) f p A outer s H E) (cK ny).tail (tG K H g (λ_=>E))}:=⟨_,λP w mg base N f p A outer s H E m=>by
 have k:=(jy K a).2 P w base N;have h:=(iz K a).2 P w base N;have n:=(rm K a).2 P w base N;have o:=(rp K a).2 P w base N;have d:=jE P w base N;have b:=(iw K a).2 P w base N;have i:=(kS K a).2 P w base N;have j:=(kU K a).2 P w base N;have l:=(md K a).2 P w base N;have e:=zK P w base N;have c:=(ib K a).2 P w base N
 exact af (aI (psS 2 eP.nd (vc k m (va1 (vv 1)))))
   (af (aI (psS 3 eP.nd (vc h m (va2 (vv 1) (vv 2)))))
   (af (aI (psS 4 eP.nd (vc n m (va2 (vv 2) (vv 3)))))
   (af (aI (psS 5 eP.nd (vc o m (va2 (vv 2) (vv 3)))))
   (af (bw aC (bp bO rfl (aS (eD (va2 (vc d m (va2 (vv 1) (cz N.D6 (va1 (vv 5))))) (aX ge iC (cz N.D6 (va1 (vv 5))) (ar))))) (pgN 6 eP.nd) (af (aI (psS 7 eP.nd (f9 N.Ee (va1 (bj rfl (cso ["_law_one"] ["_law_one"] []) (aS (qW (vv 5) (u4) (u3 (vv 6)))) (λcl C q s H=>⟨(pgN 0 ndc),aP,λD=>aK rfl (vc b m (va1 (vv 0))) rfl⟩) ao au (λD=>aM))))))
   (af (aI (psS 8 eP.nd (vc b m (va1 (bB aQ bG (vv 5) (vv 6))))))
   (af (aI (psS 9 eP.nd (vc i m (va1 (bB aQ bG (vv 5) (vv 6))))))
   (af (cg (ng (kQ (vc e m (va2 (vc l m (va2 (vv 4) (vc j m (va1 (vv 9))))) (bT (va2 (vv 7) (aX aR bN (vv 7) (vv 8)))))))) (ai (aG (ax (oX)))) (bA))
   (ai (bw aC (bp bO rfl (aS (eD (va3 (vv 7) (aX ge iC (aX aR bN (vv 7) (vv 8)) (ar)) (aX aR bN (vv 7) (vc d m (va2 (vv 1) (vv 8))))))) (pgN 10 eP.nd) (ai (cg (ng (kQ (vc e m (va2 (vc c m (va2 (vv 4) (vv 10))) (vv 9))))) (ai (aG (ax (oX)))) (bA))))))))))))
   (ai (aG (ax (oX))))))))⟩
theorem MC{f:PX}{o:Qt}(F:FunD K "law" "law" ny f o)(N:Fns K mg a)(T:∀β:Bg,β.ok->∃d,(qc K a).1 [PH,on (.sh .bag),PH,PH,PH,PH,PH,PH,PH,PH,PH] β=on (.rt (.bl PP),d)):
  FnOk P w K mg base (CXE P w) 9 f o ["_law_script"] (IF K):=by
 have c:=DG P w base N;refine F.okE (k:=8) eP (λvs H Q E h=>?_) (λg A outer s H vs Q E p h=>?_)
 ·obtain⟨a,ns,rfl,_⟩:=h
  rfl
 ·obtain⟨a1,ns,rfl,r,q,k⟩:=h
  have rest:=(qc K a).2 P w base N f g A outer s H E p;refine⟨_,cX (rest:=(cK ny).tail) (psS 1 eP.nd (nJ c (p.mono (by decide)) rfl N.He N.Hd.kp N.Hf .nil tY (ff (pv 0) iZ))) rest,?_⟩;refine⟨_,rfl,a1,ns,rfl,r,λb l C i j t u=>?_⟩;obtain⟨β,ok,m⟩:=Ls (K:=K) (a:=a1) (n:=["_law_script","_law_bag_here","_law_grid_here","_law_limits","_law_net_here","_law_told","_law_k","_law_first","_law_lot","_law_block","_law_number"].length-2) u i j t;obtain⟨d,e⟩:=T β ok;exact⟨_,_,_,β,_,d,m,e,λv I y s fr B=>by cases B.bl;exact k y⟩
end
end Law
namespace Law
open PySem L2 L2.Pu L2.Nt
section
variable{K:Qp}{a:Ad}{β:Bg}
abbrev tN(l:List Nat):D:=tpI (nI l)
abbrev eN(b:List Nat×Nat):D:= .tup [tN b.1,.int (b.2:Int)]
abbrev pN(p:Nat×Nat):D:=pD ((p.1:Int),(p.2:Int))
def Nrw(r:List Nat):Prop:=1<=r.length/\r.length<=4/\r.sum<=40/\pr (r.map (·+1))<=500
theorem pL{f g:FD}{δ:Dn}{x y:D}{ds es:List D}(b:f δ β=on (.ok x,β))(c:g δ β=on (.ok y,β))(d:eE x=on ds)(e:eE y=on es):i5 (ae f (ae g ay)) δ β=on (.ok (dF ds es),β):=bx (aa b (aa c rfl)) (by
 unfold uv;simp only[d,e,Rw,Rb])
theorem L7{lo:Nat}{h:Int}(b:-1000<=h)(c:h<=1000)(d:lo<=1000):o9 [.int (lo:Int),.int h]=on ((P4 (h-lo).toNat).map λi=>D.int ((lo+i:Nat):Int)):=by
 have e:o9 [.int (lo:Int),.int h]=on (bc lo (h-lo).toNat):=by
  simp only[o9];rw[P6 (by simp only[QI,QR];omega)]
 rw[e];exact Re on (Qx λi _=>by congr 1)
theorem addT{l:List Nat}{c:Nat}(h:l.length<=100):lC (tN l) (.tup [.int (c:Int)])=on (tN (l++[c])):=by
 cases l with
 |nil=>rfl
 |cons x l=>
  show(if _ then _ else _)=_;rw[P6 (aZ (by simp at h⊢;omega))];simp[tpI]
theorem y6(l:List Nat)(k:Nat):fJ [.lst (((nI l).map D.int).drop k)]=on (.int (((l.drop k).sum:Nat):Int)):=by
 rw[←Ux,←Ux];exact(eZ _).trans (by rw[←gR])
theorem yV:∀{r:List Nat} {ps:List (Nat×Nat)},(r.zip ps).map (λq=>D.int (Tq (q.1:Int) (q.2.2:Int)))=(nI (tps ps r)).map D.int
 |[],_=>by cases ‹List (Nat×Nat)›<;>rfl
 |_::_,[]=>rfl
 |x::r,p::ps=>by
  have e:=yV (r:=r) (ps:=ps);show _::_=D.int ((Tq x p.2:Nat):Int)::(nI (tps ps r)).map D.int;rw[←e];show D.int (Tq (x:Int) (p.2:Int))::_=_;rw[show Tq (x:Int) (p.2:Int)=((Tq x p.2:Nat):Int) by omega];rfl
theorem yT:∀{ps:List (Nat×Nat)} {r:List Nat} {k:Nat} (b:k<ps.length) (c:k<r.length),(tps ps r)[k]?=on (Tq r[k] ps[k].2)
 |p::ps,x::r,0,_,_=>rfl
 |p::ps,x::r,k+1,b,c=>yT (k:=k) (by simpa using b) (by simpa using c)
abbrev vJ(ps:List (Nat×Nat))(r:List Nat)(c:Nat)(st:D)(b d e:Option Sl):Ds:=[on (.sh (tN r)),on (.sh (.int (c:Int))),on (.sh (.lst (ps.map pN))),on (.sh (.lst ((nI (los ps)).map .int))),on (.sh (.lst ((nI (tps ps r)).map .int))),on (.sh st),b,d,e]
theorem M8{ps:List (Nat×Nat)}{r:List Nat}{c:Nat}(H:Nrw r)(v:ps.length=r.length)(A:∀p∈ps,p.1<=40/\p.2<=40)(R:c<=40):(kW K a).1 [tN r,.int (c:Int),.lst (ps.map pN)] β=on (.ok (.lst ((vB ps r c).map tN)),β):=by
 obtain⟨_,T,hs,U⟩:=H;have I:r.length<=Qk:=aZ (by omega);have o:∀k,k<=r.length->(stB ps r c k).length<=Qk:=λk m=>aZ (Qg (wn c k m) (Qg (tX r k) (by omega)));unfold kW
 dsimp only
 refine aL ?_;refine aF (d:= .lst ((nI (los ps)).map .int)) (β1:=β) ?_ ?_
 ·have:=bh (nv:=2) (caps:=[]) (it:=cu (ah 2)) (tg:=tgT (dG (tgC 0) (dG (tgC 1) hV))) (f:=ah 0) (δ:=vw (vJ ps r c .non PH PH PH)) (β:=β) ps pN (λp=> .int (p.1:Int)) rfl (λx _=>⟨[on (.int (x.1:Int)),on (.int (x.2:Int))],rfl,rfl⟩) (by rw[v];exact I)
  refine Eq.trans this ?_;unfold los;rw[P3,P3];rfl
 refine aF (d:= .lst ((nI (tps ps r)).map .int)) (β1:=β) ?_ ?_
 ·rw[←yV]
  exact bh (nv:=3) (caps:=[]) (it:=i5 (ae (ah 0) (ae (ah 2) (ay)))) (tg:=tgT (dG (tgC 0) (dG (tgT (dG (tgC 1) (dG (tgC 2) hV))) hV))) (f:=aB vf (ae (ah 0) (ae (ah 2) (ay)))) (δ:=vw (vJ ps r c .non PH PH PH)) (β:=β) (r.zip ps) (λq=>D.tup [.int (q.1:Int),pN q.2]) _ (by
   rw[←iO (λx:Nat=>D.int (x:Int)) pN];refine pL (x:=tN r) (y:= .lst (ps.map pN)) rfl rfl ?_ rfl;show on _=on _;rw[P3];rfl) (λq _=>⟨[on (.int (q.1:Int)),on (.int (q.2.1:Int)),on (.int (q.2.2:Int))],rfl,aj rfl x4⟩) (aZ (by rw[T7];omega))
 refine aF (d:= .lst ((stB ps r c 0).map eN)) (β1:=β) (aj (aa (aj (aa (aj rfl rfl) (aa rfl rfl)) eA) rfl) mv) ?_;refine bu (ds:=bc 0 r.length) (β1:=β) (bx (aa (aj (z:= .int (r.length:Int)) rfl (by show on (D.int _)=_;rw[PF,PF])) rfl) (rg1 (by omega) (by omega))) (λk δ C=>β=C/\∃B t u,δ=vJ ps r c (.lst ((stB ps r c k).map eN)) B t u) ⟨rfl,PH,PH,PH,rfl⟩ ?_ ?_
 ·rintro k d δ _ hd ⟨rfl,B,t,u,rfl⟩
  obtain⟨m,rfl⟩:=xQ hd;have j:k<ps.length:=by omega
  have J:ps[k]?=on ps[k]:=PM j;have b40:=A _ (QO j);have W:(los ps).sum<=160:=by
   have g:∀l:List (Nat×Nat),(∀p∈l,p.1<=40/\p.2<=40)->(los l).sum<=40*l.length:=λl=>by
    induction l with
    |nil=>intro _;exact P5 _
    |cons p l ih=>
     intro h;have:=ih λq v=>h q (PN _ v);have:=(h p PZ).1;simp only[los,Qb,Qw,Qa]at*;omega
   have:=g ps A;omega
  have F:∀(l:List Nat) (n:Nat),(l.drop n).sum<=l.sum:=λl n=>by
   conv=>rhs;rw[←SJ n l,WQ]
   omega
  have L:=F (los ps) (k+1);have N:=Qg (F (tps ps r) (k+1)) yS;refine⟨vJ ps r c (.lst ((stB ps r c k).map eN)) (on (.sh (.int (k:Int)))) t u,rfl,?_⟩;refine aF (d:= .int ((((los ps).drop (k+1)).sum:Nat):Int)) (β1:=β) (aj (aa (se rfl (x_2 rfl rfl rfl)) rfl) ((Re (λl=>fJ [.lst l]) (vR (k:=k+1))).trans (y6 _ _))) ?_;refine aF (d:= .int ((((tps ps r).drop (k+1)).sum:Nat):Int)) (β1:=β) (aj (aa (se rfl (x_2 rfl rfl rfl)) rfl) ((Re (λl=>fJ [.lst l]) (vR (k:=k+1))).trans (y6 _ _))) ?_;refine am (aF (d:= .lst ((stB ps r c (k+1)).map eN)) (β1:=β) ?_ (aY ⟨rfl,_,_,_,rfl⟩));have e:(stB ps r c (k+1)).map eN=(stB ps r c k).flatMap λb=>(nxB r[k] ps[k] ((los ps).drop (k+1)).sum ((tps ps r).drop (k+1)).sum b).map eN:=by
   show((stB ps r c k).flatMap _).map eN=_;rw[Sb,eC m,eC j]
  rw[e];refine Ln (stB ps r c k) eN _ rfl (λb A=>⟨[on (tN b.1),on (.int (b.2:Int)),PH,on (.lst ((nI (los ps)).map .int)),on (.int (k:Int)),on (.int ((((tps ps r).drop (k+1)).sum:Nat):Int)),on (.lst ((nI (tps ps r)).map .int)),on (.int ((((los ps).drop (k+1)).sum:Nat):Int))],rfl,?_⟩) (by
   rw[←e,PF];exact o (k+1) m)
  obtain⟨b2,b1⟩:=y9 ps r c k b A;have X:=fZ (QO m);unfold nxB;generalize ((los ps).drop (k+1)).sum=few at*;generalize ((tps ps r).drop (k+1)).sum=most at*;refine(zO (P4 (Tq (Tq r[k] ps[k].2+few) b.2+1-few-Y6 ps[k].1 (b.2-most))) (λi=>D.int ((Y6 ps[k].1 (b.2-most)+i:Nat):Int)) (λi=>eN (b.1++[Y6 ps[k].1 (b.2-most)+i],b.2-(Y6 ps[k].1 (b.2-most)+i))) ?_ ?_).trans (by rw[P3];rfl)
  ·refine bx (as:=[.int ((Y6 ps[k].1 (b.2-most):Nat):Int),.int (Tq ((Tq r[k] ps[k].2:Nat):Int) ((b.2:Int)-few)+1)]) (aa (aj (aa (x_2 rfl rfl (bK (d:= .int (ps[k].1:Int)) ?_)) (aa (x_2 rfl rfl rfl) rfl)) (MM.trans ?_)) (aa (x_2 (aj (aa (x_2 rfl rfl (bK (d:= .int ((Tq r[k] ps[k].2:Nat):Int)) ?_)) (aa (x_2 rfl rfl rfl) rfl)) x4) rfl rfl) rfl)) ((L7 (by omega) (by omega) (by omega)).trans ?_)
   ·unfold los
    rw[PV,PV,PV,J];rfl
   ·rw[show Y6 (ps[k].1:Int) ((b.2:Int)-(most:Int))=((Y6 ps[k].1 (b.2-most):Nat):Int) by omega]
   ·rw[PV,PV,yT j m];rfl
   ·rw[show(Tq ((Tq r[k] ps[k].2:Nat):Int) ((b.2:Int)-few)+1-((Y6 ps[k].1 (b.2-most):Nat):Int)).toNat=Tq (Tq r[k] ps[k].2+few) b.2+1-few-Y6 ps[k].1 (b.2-most) by omega]
  ·refine λi O=>⟨[on (tN b.1),on (.int (b.2:Int)),on (.int ((Y6 ps[k].1 (b.2-most)+i:Nat):Int)),on (.lst ((nI (los ps)).map .int)),on (.int (k:Int)),on (.int (most:Int)),on (.lst ((nI (tps ps r)).map .int)),on (.int (few:Int))],rfl,aj (aa (x_2 rfl (aj rfl rfl) (addT (l:=b.1) (c:=Y6 ps[k].1 (b.2-most)+i) (by omega))) (aa (x_2 rfl rfl rfl) rfl)) (eA.trans ?_)⟩
   have Q:=Qq.mp O;show on (D.tup [_,.int _])=on (D.tup [_,.int _]);rw[show(b.2:Int)-((Y6 ps[k].1 (b.2-most)+i:Nat):Int)=((b.2-(Y6 ps[k].1 (b.2-most)+i):Nat):Int) by omega]
 ·rintro δ _ ⟨rfl,B,t,u,rfl⟩
  rw[qb];have h:=je (nv:=2) (caps:=[]) (it:=cu (ah 5)) (tg:=tgT (dG (tgC 0) (dG (tgC 1) hV))) (tt:=fB (f2 (gn) (ah 1) (fC (.int 0)))) (f:=ah 0) (δ:=vwA (vJ ps r c (.lst ((stB ps r c r.length).map eN)) B t u)) (β:=β) (stB ps r c r.length) eN (λb=>tN b.1) (λb=>decide ((b.2:Int)=0)) rfl (λb _=>⟨[on (tN b.1),on (.int (b.2:Int))],rfl,x_B (x_2 rfl rfl eq_int),λ_=>rfl⟩) (o _ (P5 _));refine am (aO h ⟨rfl,?_⟩);rw[←Kj v,P3];rfl
theorem vW{α:Type}{tg:TgF}{b:FL}{δ:Dn}{β:Bg}(u:α->D)(o:α->List D):∀(xs:List α),(∀x∈xs,∃δ1,tg (u x) δ=on δ1/\b δ1 β=on (.ok (o x),β))->cLp tg (λ_=>M.ret PP) b (xs.map u) δ β=on (.ok (xs.flatMap o),β)
 |[],_=>rfl
 |x::xs,h=>by
  obtain⟨δ1,c,d⟩:=h x PZ;have e:=vW u o xs λy f=>h y (PN _ f);rw[Qb,cLp];simp only[c,M.bind,M.ret,reduceIte,d,e,QZ]
theorem lB{α:Type}{nv:Nat}{caps:List Nat}{it:FL}{tg:TgF}{b:FL}{c:List D->Option D}{δ:Dn}{β:Bg}{d:D}(xs:List α)(u:α->D)(o:α->List D)(e:it δ β=on (.ok (xs.map u),β))
  (f:∀x∈xs,∃δ1,tg (u x) (cSt nv caps δ)=on δ1/\b δ1 β=on (.ok (o x),β)) (g:c (xs.flatMap o)=on d):gW nv caps it tg (λ_=>M.ret PP) b c δ β=on (.ok d,β):=by
 unfold gW;rw[e];simp only[vW u o xs f,g,Rb]
theorem O3{α:Type}{it:FL}{tg:TgF}{b:FL}{δ:Dn}{β:Bg}(xs:List α)(u:α->D)(o:α->List D)(c:it δ β=on (.ok (xs.map u),β))(d:∀x∈xs,∃δ1,tg (u x) δ=on δ1/\b δ1 β=on (.ok (o x),β)):cNx it tg (λ_=>M.ret PP) b δ β=on (.ok (xs.flatMap o),β):=by
 unfold cNx M.bind;rw[c];exact vW u o xs d
noncomputable abbrev gL(B:List (List (Nat×Nat))):LP:=B.map λrow=>row.map λp=>((p.1:Int),(p.2:Int))
abbrev bDN(B:List (List (Nat×Nat))):D:=dD (gL B)
noncomputable def mK(B:List (List (Nat×Nat)))(k:Nat):List (Nat×Nat):=B.map λrow=>row.getD k (0,0)
def BOk(r c:Nat)(B:List (List (Nat×Nat))):Prop:=Shp r c B/\∀row∈B,∀p∈row,p.1<=p.2/\p.2<=40
def wB(B:List (List (Nat×Nat)))(cs:List Nat):Wy:=λk r=>vB (mK B k) r (cs.getD k 0)
theorem xz(B:List (List (Nat×Nat)))(cs:List Nat):WOk cs (wB B cs):=λk r=>UK
theorem BOk.col{r c k:Nat}{B:List (List (Nat×Nat))}(h:BOk r c B)(e:k<c):(mK B k).length=r/\∀p∈mK B k,p.1<=40/\p.2<=40:=by
 refine⟨by unfold mK;rw[PF,h.1.1],λp d=>?_⟩;obtain⟨row,b,rfl⟩:=Qc.mp d;have l:=h.1.2 row b;rw[eC (by omega)];have:=h.2 row b _ (QO (show k<row.length by omega));omega
theorem Lp{r cs:List Nat}{B:List (List (Nat×Nat))}{k:Nat}(c:Nrw r)(hB:BOk r.length cs.length B)(i:cs.sum<=40)(e:k<cs.length):(cc K a).1 [tN r,nL cs,bDN B,.int (k:Int)] β=on (.ok (.lst ((wB B cs k r).map tN)),β):=by
 have g:cs[k]?=on (cs.getD k 0):=by rw[PR,PM e];rfl
 obtain⟨l,q⟩:=hB.col e;unfold cc
 dsimp only
 refine aL (am (aO (ak (aa rfl (aa (x_2 rfl rfl (bK (d:= .int (cs.getD k 0:Int)) (by rw[PV,PV,g];rfl))) (aa ?_ rfl))) (M8 c l q (Qg (fZ (Ql g)) i))) ⟨rfl,rfl⟩));have h:=bh (nv:=1) (caps:=[3]) (it:=cu (ah 2)) (tg:=tgC 0) (f:=f2 ixD (ah 0) (ah 1)) (δ:=[on (tN r),on (nL cs),on (bDN B),on (.int (k:Int))]) (β:=β) B (λrow=>D.lst (row.map pN)) (λrow=>pN (row.getD k (0,0))) (bP rfl (by
  show on _=on _;rw[P3,P3];exact Re on (Qx λrow _=>Re D.lst (by show Q2 pD (Q2 _ row)=_;rw[P3];rfl)))) (λrow b=>⟨[on (D.lst (row.map pN)),on (.int (k:Int))],rfl,x_2 rfl rfl (bK (by
   have l:=hB.1.2 row b;rw[PV,eC (by omega),PM (by omega)];rfl))⟩) (aZ (by rw[hB.1.1];have:=c.2.1;omega))
 refine h.trans ?_;unfold mK;rw[P3];rfl
theorem vm:∀{r v:List Nat},LeN v r->(r.zip v).map (λp=>D.int ((p.1:Int)-(p.2:Int)))=(nI (less r v)).map D.int
 |[],[],_=>rfl
 |x::r,y::v,h=>by
  have e:=vm h.2;have b:=h.1;show _::_=D.int ((x-y:Nat):Int)::(nI (less r v)).map D.int;rw[←e];show D.int ((x:Int)-(y:Int))::_=_;rw[show(x:Int)-(y:Int)=((x-y:Nat):Int) by omega];rfl
 |[],_::_,h=>h.elim
 |_::_,[],h=>h.elim
theorem nB{r v:List Nat}(h:LeN v r)(b:r.length<=4):(bR K a).1 [tN r,tN v] β=on (.ok (tN (less r v)),β):=by
 unfold bR
 dsimp only
 refine aL (am (aO (aj (aa (x:= .lst ((nI (less r v)).map D.int)) ?_ rfl) rfl) ⟨rfl,rfl⟩));rw[←vm h];refine bh (r.zip v) (λp=>D.tup [.int (p.1:Int),.int (p.2:Int)]) _ ?_ (λp _=>⟨[on (.int (p.1:Int)),on (.int (p.2:Int))],rfl,rfl⟩) (aZ (by rw[T7];omega));rw[←iO (λx:Nat=>D.int (x:Int)) (λx:Nat=>D.int (x:Int))];refine pL (x:=tN r) (y:=tN v) rfl rfl ?_ ?_
 ·show on _=on _
  rw[P3];rfl
 ·show on _=on _
  rw[P3];rfl
structure Nt0 (rs cs:List Nat):Prop where
 nr:Nrw rs
 wd:pr (rs.dropLast.map (·+1))<63
 sm:rs.sum=cs.sum
 c1:1<=cs.length
 c6:cs.length<=6
structure Nt1 (K:Qp) (a:Ad) (rs cs:List Nat) (W:Wy) (bd:D):Prop extends Nt0 rs cs where
 ok:WOk cs W
 fl:∀{β:Bg} {k:Nat} {r:List Nat},k<cs.length->Nrw r->r.length=rs.length->(cc K a).1 [tN r,nL cs,bd,.int (k:Int)] β=on (.ok (.lst ((W k r).map tN)),β)
theorem Nt1.at{rs cs r:List Nat}{k:Nat}{W:Wy}{b:D}(h:Nt1 K a rs cs W b)(c:k<=cs.length)(d:r∈lvW W rs k):Nrw r/\r.length=rs.length/\r.sum<=40:=by
 have q:=(i8 h.ok h.sm k c r d).1;obtain⟨e,f,g,i⟩:=h.nr;have q1:=q.len;have q2:=q.sum;have q3:=q.pr;exact⟨⟨by omega,by omega,by omega,by omega⟩,q1,by omega⟩
abbrev lvD(W:Wy)(rs:List Nat)(k:Nat):D:= .lst ((lvW W rs k).map tN)
theorem DJ{rs cs:List Nat}{W:Wy}{b:D}(h:Nt1 K a rs cs W b):(fU K a).1 [nL rs,nL cs,b] β=on (.ok (.lst ((P4 (cs.length+1)).map (lvD W rs))),β):=by
 have c6:=h.c6;unfold fU
 dsimp only
 refine aL ?_;refine aF (d:=lvD W rs 0) (β1:=β) (aj (aa (aj rfl rfl) rfl) mv) ?_;refine m5 (ds:=[lvD W rs 0]) (β1:=β) rfl (show 1<=Qk by decide) ?_;refine bu (ds:=bc 0 cs.length) (β1:=β) (bx (aa (aj rfl (cT (r:=cs.length) (by rw[PF,PF]))) rfl) (rg1 (by omega) (by omega))) (λk δ c=>β=c/\∃e f,δ=[on (.sh (nL rs)),on (.sh (nL cs)),on (.sh (b)),on (.sh (lvD W rs k)),on (.own ((P4 (k+1)).map (lvD W rs))),e,f]) ⟨rfl,PH,PH,rfl⟩ ?_ ?_
 ·rintro k d δ _ hd ⟨rfl,e,f,rfl⟩
  obtain⟨g,rfl⟩:=xQ hd;refine⟨_,rfl,aF (d:=lvD W rs (k+1)) (β1:=β) ?_ (m7 (cs:=(P4 (k+1)).map (lvD W rs)) (d:=lvD W rs (k+1)) rfl rfl (Qv (show _<1000 by rw[PF,Qr];omega) (by decide)) (am (aF (d:=lvD W rs (k+1)) (β1:=β) rfl (aY ⟨rfl,on (.sh (.int (k:Int))),on (.sh (lvD W rs (k+1))),?_⟩))))⟩
  ·refine lB (lvW W rs k) tN (λr=>(W k r).map λv=>tN (less r v)) rfl (λr j=>⟨[on (tN r),PH,on (nL cs),on (b),on (.int (k:Int))],rfl,?_⟩) ?_
   ·obtain⟨i,l,_⟩:=h.at (by omega) j
    exact zO _ tN _ (bP (ak rfl (h.fl g i l)) rfl) (λv m=>⟨[on (tN r),on (tN v),on (nL cs),on (b),on (.int (k:Int))],rfl,ak rfl (nB (cE ((h.ok k r).subset m)) i.2.1)⟩)
   ·rw[←KS h.ok h.sm h.nr.1 h.wd g]
    unfold nwI;rw[Sb];simp only[P3];rfl
  ·rw[Ti (n:=k+1),QG];rfl
 ·rintro δ _ ⟨rfl,e,f,rfl⟩
  rw[qb];exact am (aO rfl ⟨rfl,rfl⟩)
theorem fI{i:Nat}{op:D->D->Option D}{f:FD}{c d z:D}{h:G}{δ:Ds}{β β1:Bg}{Q:Out->Bg->Prop}(b:(vw δ).getD i PH=on c)(e:f (vw δ) β=on (.ok d,β1))(g:op c d=on z)(k:Gw h (δ.set i (on (.sh z))) β1 Q):Gw (aW (jT i op f) h) δ β Q:=f8 (by unfold jT;simp only[b,e,g,Rb]) k
theorem zt{m i:Nat}{d:D}(h:(bc 2 m)[i]?=on d):i<m/\d= .int ((i+2:Nat):Int):=by
 obtain⟨x,b,rfl⟩:=bE (f:=λ(i:Nat)=>D.int (2+(i:Int))) (xs:=P4 m) h;have c:=(P9.mp b).1;rw[Qr]at c;rw[Rf c]at b;cases b;exact⟨c,by congr 1;omega⟩
theorem zo(lo:Int)(m:Nat):(bc lo m).length=m:=by unfold bc;rw[PF,Qr]
theorem smN{n:Nat}(h:n<=2^11):n<2^1000:=cA h (by decide)
theorem xg(n:Nat):facN (n-1+1)=facN n:=by cases n<;>rfl
theorem xb{n:Nat}(h:n<=40):(jP K a).1 [.int (n:Int)] β=on (.ok (.int ((facN n:Nat):Int)),β):=by
 unfold jP
 dsimp only
 refine aL ?_;refine aF (d:= .int 1) (β1:=β) rfl ?_;refine bu (ds:=bc 2 (n-1)) (β1:=β) (bx (aa rfl (aa (x_2 rfl rfl rfl) rfl)) (rg2 (by omega))) (λi δ b=>β=b/\∃c,δ=[on (.sh (.int (n:Int))),on (.sh (.int ((facN (i+1):Nat):Int))),c]) ⟨rfl,PH,rfl⟩ ?_ ?_
 ·rintro i d δ _ hd ⟨rfl,c,rfl⟩
  obtain⟨e,rfl⟩:=zt hd;exact⟨_,rfl,am (fI rfl rfl (k8 (cA (kE (by omega)) (by decide)) (smN (by omega))) (aY ⟨rfl,_,rfl⟩))⟩
 ·rintro δ _ ⟨rfl,c,rfl⟩
  rw[zo,xg];exact am (aO rfl ⟨rfl,rfl⟩)
theorem vj{n:Nat}(h:n<=40):(ia K a).1 [.int (n:Int)] β=on (.ok (.int ((facN n:Nat):Int)),β):=by
 unfold ia
 dsimp only
 refine aL ?_;refine aF (d:= .int 1) (β1:=β) rfl ?_;refine bu (ds:=bc 2 (n-1)) (β1:=β) (bx (aa rfl (aa (x_2 rfl rfl rfl) rfl)) (rg2 (by omega))) (λi δ b=>β=b/\∃c,δ=[on (.sh (.int (n:Int))),on (.sh (.int ((facN (i+1):Nat):Int))),c]) ⟨rfl,PH,rfl⟩ ?_ ?_
 ·rintro i d δ _ hd ⟨rfl,c,rfl⟩
  obtain⟨e,rfl⟩:=zt hd;exact⟨_,rfl,am (aF (x_2 rfl rfl (k8 (cA (kE (by omega)) (by decide)) (smN (by omega)))) (aY ⟨rfl,_,rfl⟩))⟩
 ·rintro δ _ ⟨rfl,c,rfl⟩
  rw[zo,xg];exact am (aO rfl ⟨rfl,rfl⟩)
def wayN(l:List Nat):Nat:=facN l.sum/pr (l.map facN)
theorem Os{l:List Nat}{d:D}(h:Sq l d):pS [d]=on (.int ((l.sum:Nat):Int)):=by
 rw[←gR];rcases h with rfl|rfl
 ·exact LQ _
 ·exact LO _
theorem kx(l:List Nat):fJ [nL l]=on (.int ((l.sum:Nat):Int)):=by rw[←gR];exact eZ _
theorem ul{l:List Nat}{i n:Nat}(h:l.sum<=40)(hn:l[i]?=on n):n<=40:=Qg (fZ (Ql hn)) h
theorem m4{l:List Nat}{cd:D}(hs:Sq l cd)(h:l.sum<=40):(kn K a).1 [cd] β=on (.ok (.int ((wayN l:Nat):Int)),β):=by
 unfold kn
 dsimp only
 refine aL ?_;refine bu (ds:=(nI l).map D.int) (β1:=β) (bP rfl hs.seq) (λi δ c=>β=c/\∃b,δ=[on (.sh cd),b,PH]) ⟨rfl,PH,rfl⟩ ?_ ?_
 ·rintro i d δ _ hd ⟨rfl,b,rfl⟩
  obtain⟨n,hn,rfl⟩:=qo hd;exact⟨_,rfl,am (jk (β1:=β) (x_B (x_2 rfl rfl (by show on (D.bl (decide ((n:Int)<0)))=_;rw[QP (by omega)]))) (bM (aY ⟨rfl,_,rfl⟩)))⟩
 rintro δ _ ⟨rfl,b,rfl⟩;refine aF (d:= .int ((facN l.sum:Nat):Int)) (β1:=β) (ak (aa (aj rfl (Os hs)) rfl) (xb h)) ?_;refine bu (ds:=(nI l).map D.int) (β1:=β) (bP rfl hs.seq) (λi δ c=>β=c/\∃b,δ=[on (.sh cd),b,on (.sh (.int ((facN l.sum/pr ((l.take i).map facN):Nat):Int)))]) ⟨rfl,b,by rw[V0,RG,zB,Nat.div_one];rfl⟩ ?_ ?_
 ·rintro i d δ _ hd ⟨rfl,b,rfl⟩
  obtain⟨n,hn,rfl⟩:=qo hd;refine⟨_,rfl,am (fI rfl (ak rfl (xb (ul h hn))) (yu (kD n) (cA (kE (ul h hn)) (by decide))) (aY ⟨rfl,on (.sh (.int (n:Int))),?_⟩))⟩;rw[iF hn,XR];rfl
 ·rintro δ _ ⟨rfl,b,rfl⟩
  rw[va,RP];exact am (aO rfl ⟨rfl,rfl⟩)
theorem xf{l:List Nat}{i:Nat}(h:l.sum<=40)(c:l.length<=4):pr ((l.take i).map facN)<=2^640:=by
 refine Qg (xW (m:=160) λx b=>?_) (TC (by decide) ?_)
 ·obtain⟨n,hn,rfl⟩:=Qc.mp b
  exact kE (Qg (fZ (Tw hn)) h)
 ·rw[PF,Rp];omega
theorem DR{l:List Nat}(h:l.sum<=40)(e:l.length<=4):(pb K a).1 [nL l] β=on (.ok (.int ((wayN l:Nat):Int)),β):=by
 unfold pb
 dsimp only
 refine aL ?_;refine aF (d:= .int 1) (β1:=β) rfl ?_;refine bu (ds:=(nI l).map D.int) (β1:=β) rfl (λi δ b=>β=b/\∃c,δ=[on (.sh (nL l)),on (.sh (.int ((pr ((l.take i).map facN):Nat):Int))),c]) ⟨rfl,PH,rfl⟩ ?_ ?_
 ·rintro i d δ _ hd ⟨rfl,c,rfl⟩
  obtain⟨n,hn,rfl⟩:=qo hd;refine⟨_,rfl,am (aF (x_2 rfl (ak rfl (vj (ul h hn))) (k8 (cA (xf h e) (by decide)) (cA (kE (ul h hn)) (by decide)))) (aY ⟨rfl,on (.sh (.int (n:Int))),?_⟩))⟩;rw[iF hn];rfl
 ·rintro δ _ ⟨rfl,c,rfl⟩
  rw[va,RP];have f:=xf (i:=l.length) h e;rw[RP]at f;exact am (aO (x_2 (ak (aa (aj rfl (kx l)) rfl) (vj h)) rfl (yu (qg λx g=>by obtain⟨n,_,rfl⟩:=Qc.mp g;exact kD n) (cA f (by decide)))) ⟨rfl,rfl⟩)
theorem lO{l:List Nat}(h:l.sum<=40):wayN l<=2^160:=Qg (WX _ _) (kE h)
theorem jW(l:List Nat):wayN l=mu l:=MJ l
theorem qp{l:List Nat}(h:l.sum<=40):mu l<=2^160:=by rw[←jW];exact lO h
theorem IG{α:Type}{l:List α}{i:Nat}{x:α}(f:α->Nat)(h:l[i]?=on x):L2.Nt.sm (l.take (i+1)) f=L2.Nt.sm (l.take i) f+f x:=by
 rw[Uj,h,lY];rfl
abbrev cv(W:Wy)(m k:Nat)(r:List Nat):D:= .tup [.int ((tbW W (m-k) k r:Nat):Int),.int ((dlW W (m-k) k r:Nat):Int)]
abbrev dcL(W:Wy)(rs:List Nat)(m k:Nat):D:= .dct PU ((lvW W rs k).map λr=>((0:Int),nI r)) ((lvW W rs k).map (cv W m k))
theorem z0{f:List Nat->D}{u:List Nat}:∀{L:List (List Nat)},u∈L->lkD (L.map λr=>((0:Int),nI r)) (L.map f) (0,nI u)=on (f u)
 |r::L,h=>by
  unfold lkD;rw[Qb,Qb,Sf,Tg];by_cases q:r=u
  ·rw[q,Qn rfl];rfl
  ·rw[QP λe=>q (gT (UT.mp e).2)]
   exact z0 ((Qf.mp h).resolve_left λe=>q e.symm)
theorem Nf{W:Wy}{rs u:List Nat}{m k:Nat}(h:u∈lvW W rs k):ER (dcL W rs m k) (tN u)=on (cv W m k u):=by
 show(ie PU (dK PU (0,nI u))).bind _=_;rw[rF λ_=>rfl];exact z0 h
theorem x3{rs cs r:List Nat}{W:Wy}{q:D}{k:Nat}(h:Nt1 K a rs cs W q)(o:k<cs.length)(p:r∈lvW W rs k):(h9 K a).1 [tN r,.lst ((W k r).map tN),dcL W rs cs.length (k+1)] β=on (.ok (cv W cs.length k r),β):=by
 obtain⟨t,y,u⟩:=h.at (by omega) p;unfold h9
 dsimp only
 refine aL ?_;refine aF (d:= .int 0) (β1:=β) rfl (aF (d:= .int 0) (β1:=β) rfl ?_);refine bu (ds:=(W k r).map tN) (β1:=β) rfl (λi δ e=>β=e/\∃f g j,δ=[on (.sh (tN r)),on (.sh (.lst ((W k r).map tN))),on (.sh (dcL W rs cs.length (k+1))),on (.sh (.int ((L2.Nt.sm ((W k r).take i) λv=>tbW W (cs.length-(k+1)) (k+1) (less r v):Nat):Int))),on (.sh (.int ((L2.Nt.sm ((W k r).take i) λv=>mu v*dlW W (cs.length-(k+1)) (k+1) (less r v):Nat):Int))),f,g,j]) ⟨rfl,PH,PH,PH,rfl⟩ ?_ ?_
 ·rintro i d δ _ hd ⟨rfl,f,g,j,rfl⟩
  obtain⟨v,l,rfl⟩:=bE hd;have hm:=Ql l;have m:less r v∈lvW W rs (k+1):=nN.mpr ⟨r,p,v,hm,rfl⟩;have b:=(h.ok k r).subset hm;have hs:=(i8 h.ok h.sm (k+1) o _ m).2;have c:v.sum<=40:=Qg (cE b).sum u;have n:=(h.at o m).2.2;refine⟨_,rfl,tP (d:=cv W cs.length (k+1) (less r v)) (β1:=β) (x_2 rfl (ak rfl (nB (cE b) t.2.1)) (Nf m)) rfl (fI rfl rfl rfl (am (fI rfl (x_2 (ak rfl (m4 (.inr rfl) c)) rfl (k8 (cA (lO c) (by decide)) (cA (Qg (qJ h.ok _ _ _ (by omega)) (by rw[kG _ _ hs];exact qp n)) (by decide)))) rfl (aY ⟨rfl,on (.sh (tN v)),on (.sh (.int ((tbW W (cs.length-(k+1)) (k+1) (less r v):Nat):Int))),on (.sh (.int ((dlW W (cs.length-(k+1)) (k+1) (less r v):Nat):Int))),?_⟩))))⟩;rw[IG _ l,IG _ l,jW,VQ,VQ];rfl
 ·rintro δ _ ⟨rfl,f,g,j,rfl⟩
  rw[PF,RP];refine am (aO (aj rfl eA) ⟨rfl,?_⟩);show R6 (D.tup [.int ((tbW W (cs.length-k) k r:Nat):Int),.int ((dlW W (cs.length-k) k r:Nat):Int)])=_;rw[show cs.length-k=cs.length-(k+1)+1 by omega];rfl
theorem xy{f g:FD}{δ:Dn}{k v:D}(b:f δ β=on (.ok k,β))(c:g δ β=on (.ok v,β)):EX f g δ β=on (.ok [.tup [k,v]],β):=by
 unfold EX M.bind;rw[b];simp only[c,M.ret]
theorem vH{α b:Type}(f:α->b)(l:List α):(l.flatMap λx=>[f x])=l.map f:=by
 induction l with
 |nil=>rfl
 |cons x l ih=>rw[QZ,ih];rfl
theorem zW{rs cs:List Nat}{W:Wy}{b:D}(h:Nt1 K a rs cs W b){k:Nat}(c:k<=cs.length):(lvW W rs k).length<=62:=by
 have:=KY h.ok h.sm c;have:=h.wd;omega
theorem dk0{rs cs:List Nat}{W:Wy}{b:D}(h:Nt1 K a rs cs W b){k:Nat}(c:k<=cs.length){os:List D}(e:os=(lvW W rs k).map λr=> .tup [tN r,cv W cs.length k r]):lA PU os=on (dcL W rs cs.length k):=by
 refine(xm (kvs:=(lvW W rs k).map λr=>(((0:Int),nI r),cv W cs.length k r)) ⟨?_,?_,?_,?_⟩).trans ?_
 ·rw[e,P3];rfl
 ·rw[P3];exact u8 (λx y q=>gT (UT.mp q).2) (vh k)
 ·rw[PF];exact aZ (by have:=zW h c;omega)
 ·rintro p d _
  obtain⟨r,_,rfl⟩:=Qc.mp d;rfl
 ·rw[P3,P3];rfl
theorem OP{n:Nat}(h:n<=1000):tT [.int (n:Int)]=on (iu n):=by
 simp only[tT];rw[P6 (by simp only[QI,QR];omega),Rz]
theorem OQ{n i:Nat}{d:D}(h:(iu n)[i]?=on d):i<n/\d= .int ((n-1-i:Nat):Int):=by
 obtain⟨x,b,rfl⟩:=bE (f:=λ(i:Nat)=>D.int ((n:Int)-1-i)) (xs:=P4 n) h;have c:=(P9.mp b).1;rw[Qr]at c;rw[Rf c]at b;cases b;exact⟨c,by congr 1;omega⟩
theorem zr{f:Nat->D}{n k:Nat}(h:k<n):((P4 n).map f)[k]?=on (f k):=by rw[PV,Rf h];rfl
theorem BB{f:Nat->D}:∀n j,cJ j ((List.range' j n).map f)=(List.range' j n).map λk=> .tup [.int (k:Int),f k]
 |0,_=>rfl
 |n+1,j=>by
  rw[List.range'_succ,Qb,Qb,←BB n (j+1)];rfl
theorem Kw{f:Nat->D}(m:Nat):((P4 (m+1)).map λj=>f (m-j)).reverse=(P4 (m+1)).map f:=Sa (by simp) λi b c=>by
 simp only[Yu,PF,Qr]at b;simp only[Yj,S5,Ta,PF,Qr];congr 1;omega
abbrev Om(W:Wy)(rs:List Nat)(m:Nat):List D:=(P4 (m+1)).flatMap λk=>(lvW W rs k).map (cv W m k)
abbrev rV(W:Wy)(rs:List Nat)(m:Nat):D:= .dct PP (kyW W rs (m+1)) (Om W rs m)
theorem dk1{rs cs:List Nat}{W:Wy}{b:D}(h:Nt1 K a rs cs W b){os:List D}(e:os=(P4 (cs.length+1)).flatMap λ(k:Nat)=>(lvW W rs k).map λr=> .tup [.tup [.int (k:Int),tN r],cv W cs.length k r]):lA PP os=on (rV W rs cs.length):=by
 refine(xm (kvs:=(P4 (cs.length+1)).flatMap λ(k:Nat)=>(lvW W rs k).map λr=>(((k:Int),nI r),cv W cs.length k r)) ⟨?_,?_,?_,?_⟩).trans ?_
 ·rw[e,Sb];simp only[P3];rfl
 ·have:=AD (W:=W) (rs:=rs) (cs.length+1)
  unfold kyW at this;rw[Sb];simp only[P3];exact this
 ·refine aZ (Qg (iK (n:=62) λk c=>?_) (by have:=h.c6;rw[Qr];omega))
  have:=Qq.mp c;rw[PF];exact zW h (by omega)
 ·rintro p _ q
  cases q
 ·unfold rV kyW
  rw[Sb,Sb];simp only[P3];rfl
theorem yx{rs cs:List Nat}{W:Wy}{b:D}(h:Nt1 K a rs cs W b):(eG K a).1 [nL rs,nL cs,b] β=on (.ok (rV W rs cs.length),β):=by
 have c6:=h.c6;unfold eG
 dsimp only
 refine aL ?_;refine aF (d:= .lst ((P4 (cs.length+1)).map (lvD W rs))) (β1:=β) (ak rfl (DJ h)) ?_;refine aF (d:= .int (cs.length:Int)) (β1:=β) (aj rfl (cT (by rw[PF,PF]))) ?_;refine aF (d:=dcL W rs cs.length cs.length) (β1:=β) (lB (lvW W rs cs.length) tN (λr=>[.tup [tN r,.tup [.int 1,.int 1]]]) (bP (x_2 rfl rfl (bK (zr (by omega)))) rfl) (λr _=>⟨[on (tN r)],rfl,xy rfl (aj rfl eA)⟩) (dk0 h (P5 _) (by rw[vH];simp only[cv,Ss];rfl))) ?_;refine m5 (ds:=[dcL W rs cs.length cs.length]) (β1:=β) rfl (show 1<=Qk by decide) ?_;refine bu (ds:=iu cs.length) (β1:=β) (bx rfl (OP (by omega))) (λi δ c=>β=c/\∃e f,δ=[on (.sh (nL rs)),on (.sh (nL cs)),on (.sh (b)),on (.sh (.lst ((P4 (cs.length+1)).map (lvD W rs)))),on (.sh (.int (cs.length:Int))),on (.sh (dcL W rs cs.length (cs.length-i))),on (.own ((P4 (i+1)).map λj=>dcL W rs cs.length (cs.length-j))),e,f]) ⟨rfl,PH,PH,rfl⟩ ?_ ?_
 ·rintro i d δ _ hd ⟨rfl,e,f,rfl⟩
  obtain⟨p,rfl⟩:=OQ hd;have l:cs.length-1-i<cs.length:=by omega
  have o:cs.length-i=(cs.length-1-i)+1:=by omega
  have m:cs.length-(i+1)=cs.length-1-i:=by omega
  rw[o];refine⟨_,rfl,aF (d:=dcL W rs cs.length (cs.length-1-i+1)) (β1:=β) rfl (aF (d:=dcL W rs cs.length (cs.length-1-i)) (β1:=β) (lB (lvW W rs (cs.length-1-i)) tN (λr=>[.tup [tN r,cv W cs.length (cs.length-1-i) r]]) (bP (x_2 rfl rfl (bK (zr (by omega)))) rfl) (λr g=>⟨[on (tN r),on (nL cs),on (b),on (.int ((cs.length-1-i:Nat):Int)),on (dcL W rs cs.length (cs.length-1-i+1))],rfl,xy rfl (ak (aa rfl (aa (ak rfl (h.fl l (h.at (by omega) g).1 (h.at (by omega) g).2.1)) rfl)) (x3 h l g))⟩) (dk0 h (by omega) (vH _ _))) (am (m7 (cs:=(P4 (i+1)).map λj=>dcL W rs cs.length (cs.length-j)) (d:=dcL W rs cs.length (cs.length-1-i)) rfl rfl (Qv (show _<1000 by rw[PF,Qr];omega) (by decide)) (aY ⟨rfl,on (.sh (.int ((cs.length-1-i:Nat):Int))),on (.sh (dcL W rs cs.length (cs.length-1-i+1))),?_⟩))))⟩;rw[Ti (n:=i+1),QG,m];show _=[_,_,_,_,_,_,on (Sl.own (_++[dcL W rs cs.length (cs.length-(i+1))])),_,_];rw[m];rfl
 ·rintro δ _ ⟨rfl,e,f,rfl⟩
  rw[show(iu cs.length).length=cs.length by unfold iu;rw[PF,Qr]];refine am (aO (lB (P4 (cs.length+1)) (λk=> .tup [.int (k:Int),dcL W rs cs.length k]) (λ(k:Nat)=>(lvW W rs k).map λr=> .tup [.tup [.int (k:Int),tN r],cv W cs.length k r]) (bx (aa (x_2 (y:= .int (-1)) rfl rfl rfl) rfl) ?_) (λk _=>⟨[on (.int (k:Int)),on (dcL W rs cs.length k),PH,PH],rfl,?_⟩) (dk1 h rfl)) ⟨rfl,rfl⟩)
  ·show on (cJ 0 _)=_
   rw[Kw,List.range_eq_range',BB]
  ·refine(O3 (lvW W rs k) (λr=> .tup [tN r,cv W cs.length k r]) (λr=>[.tup [.tup [.int (k:Int),tN r],cv W cs.length k r]]) ?_ (λr _=>⟨[on (.int (k:Int)),on (dcL W rs cs.length k),on (tN r),on (cv W cs.length k r)],rfl,xy (aj rfl eA) rfl⟩)).trans (by rw[vH])
   show on (R6 (US _ _ _),β)=_;rw[List.zipWith_map_left,List.zipWith_map_right,List.zipWith_self];rfl
theorem LE{r c:Nat}{rows:LI}(sh:Shp r c rows)(r0:1<=r)(r1:r<=30)(c1:c<=30){δ:Dn}(h:δ.getD 0 PH=on (gridD rows)):cw 1 [0] (bV gz (ae (aB cB (ae (f2 ixD (ah 0) (fC (.int 0))) (ay))) (ay))) (tgC 0) (λ_=>M.ret PP) (cEm (cw 1 [0] (cu (ah 1)) (tgC 0) (λ_=>M.ret PP) (cEm (f2 ixD (ah 0) (ah 1))))) δ β=on (.ok (gridD (tp c rows)),β):=by
 obtain⟨b,d,g⟩:=sh.at (i:=0) (by omega);have k:(gI rows)[0]?=on (b.map D.int):=by rw[PV,d];rfl
 have o:aB cB (ae (f2 ixD (ah 0) (fC (.int 0))) (ay)) δ β=on (.ok (.int (c:Int)),β):=aj (aa (x:= .lst (b.map D.int)) (x_2 (x:=gridD rows) (xx h) rfl (ug k)) rfl) (cT (by rw[PF,g]));have e:=bh (nv:=1) (caps:=[0]) (it:=bV gz (ae (aB cB (ae (f2 ixD (ah 0) (fC (.int 0))) (ay))) (ay))) (tg:=tgC 0) (f:=cw 1 [0] (cu (ah 1)) (tgC 0) (λ_=>M.ret PP) (cEm (f2 ixD (ah 0) (ah 1)))) (δ:=δ) (β:=β) (P4 c) (λi=>D.int (0+(i:Int))) (λj=>D.lst (rows.map λrow=>D.int (row.getD j 0))) (bx (ds:=bc 0 c) (aa o rfl) (rg1 (by omega) (by omega))) ?_ (aZ (by rw[Qr];omega))
 ·rw[e]
  unfold tp tpA;show _=on (R6 (D.lst (Q2 D.lst (Q2 _ (Q2 _ _)))),β);rw[P3,P3];congr 4;refine Qx λj _=>?_;show _=D.lst ((rows.map λrow=>row.getD j 0).map D.int);rw[P3];rfl
 ·intro j p
  have q:=Qq.mp p;have m:cSt 1 [0] δ=[PH,on (gridD rows)]:=by
   unfold cSt;simp only[Qb,RG,h];rfl
  refine⟨[on (.int (0+(j:Int))),on (gridD rows)],by rw[m];rfl,?_⟩;have hm:(gI rows).map D.lst=rows.map λrow=>D.lst (row.map D.int):=by rw[P3];rfl
  refine bh (nv:=1) (caps:=[0]) rows (λrow=>D.lst (row.map D.int)) _ (by show on (R6 ((gI rows).map D.lst),β)=_;rw[hm]) (λrow t=>⟨_,rfl,x_2 (x:= .lst (row.map D.int)) (y:= .int (0+(j:Int))) rfl rfl ?_⟩) (aZ (by rw[sh.1];omega));have u:=sh.2 row t;obtain⟨x,n⟩:=JJ (l:=row) (i:=j) (by omega);rw[TN];refine bK ?_;rw[PV,n,PR,n];rfl
theorem qr{r c:Nat}{rows:LI}(sh:Shp r c rows)(r0:1<=r)(r1:r<=30)(c1:c<=30):(kS K a).1 [gridD rows] β=on (.ok (gridD (tp c rows)),β):=
 aL (am (aO (LE sh r0 r1 c1 rfl) ⟨rfl,rfl⟩))
noncomputable abbrev iL(xs:List Int):D:= .lst (xs.map D.int)
theorem y0{rows:LI}(h:rows.length<=1000){f:FD}{δ:Dn}(e:f δ β=on (.ok (gridD rows),β)):cw 1 [] (cu f) (tgC 0) (λ_=>M.ret PP) (cEm (aB fJ (ae (ah 0) (ay)))) δ β=on (.ok (iL (rows.map RM)),β):=by
 have hm:(gI rows).map D.lst=rows.map λrow=>D.lst (row.map D.int):=by rw[P3];rfl
 have:=bh (nv:=1) (caps:=[]) (it:=cu f) (tg:=tgC 0) (f:=aB fJ (ae (ah 0) (ay))) (δ:=δ) (β:=β) rows (λrow=>D.lst (row.map D.int)) (λrow=>D.int row.sum) (by rw[←hm];exact bP e rfl) (λrow _=>⟨_,rfl,aj rfl (eZ row)⟩) (aZ h);rw[this];show _=on (R6 (D.lst ((rows.map RM).map D.int)),β);rw[P3];rfl
theorem qa{rows:LI}(h:rows.length<=1000):(jN K a).1 [gridD rows] β=on (.ok (iL (rows.map RM)),β):=
 aL (am (aO (y0 h rfl) ⟨rfl,rfl⟩))
theorem lN{r c:Nat}{rows:LI}(sh:Shp r c rows)(r0:1<=r)(r1:r<=30)(c1:c<=30):(gA K a).1 [gridD rows] β=on (.ok (iL ((tp c rows).map RM)),β):=
 aL (am (aO (y0 (by rw[(jX (d:=(0:Int)) (c:=c) sh.1).1];omega) (ak rfl (qr sh r0 r1 c1))) ⟨rfl,rfl⟩))
noncomputable def gp(G:LI)(i j:Nat):Int:=(G.getD i []).getD j 0
theorem Pr{G:LI}{i j:Nat}{row:List Int}{x:Int}(b:G[i]?=on row)(c:row[j]?=on x):gp G i j=x:=by
 unfold gp;simp only[PR,b,c,YU]
theorem AT{G:LI}{i j:Nat}{row:List Int}(b:G[i]?=on row):row.getD j 0=gp G i j:=by
 unfold gp;rw[PR (l:=G),b];rfl
theorem BS:∀(xs:List Int),S xs.length (λj=>xs.getD j 0)=xs.sum:=λxs=>by
 unfold S;congr 1;refine Sa (by simp) λi c b=>?_;rw[S5,Ta,PR,PM b];rfl
theorem Ou{r c i:Nat}{A:LI}(d:Shp r c A)(e:i<r):S c (gp A i)=(A.map RM).getD i 0:=by
 obtain⟨f,b,g⟩:=d.at e;rw[PR,PV,b];show _=f.sum;rw[←BS,g];exact dO λj _=>(AT b).symm
theorem Ov{r c j:Nat}{A:LI}(b:Shp r c A)(f:j<c):S r (λp=>gp A p j)=((tp c A).map RM).getD j 0:=by
 have e:(tp c A)[j]?=on (A.map λrow=>row.getD j 0):=by
  show((P4 c).map λj=>A.map λrow=>row.getD j 0)[j]?=_;rw[PV,Rf f];rfl
 rw[PR,PV,e];show _=(A.map λrow=>row.getD j 0).sum;rw[←BS,PF,b.1];refine dO λp g=>?_;obtain⟨h,d,i⟩:=b.at g;rw[PR (l:=A.map _),PV,d];exact(AT d).symm
theorem zR{rs:List Int}{b:List Nat}(c:∀i∈b,i<rs.length)(d:b.length<=1000):(mh K a).1 [iL rs,nL b] β=on (.ok (.int (qm rs b)),β):=by
 unfold mh
 dsimp only
 refine aL (am (aO (aj (aa (x:=iL (b.map λi=>rs.getD i 0)) ?_ rfl) (eZ _)) ⟨rfl,rfl⟩));have:=bh (nv:=1) (caps:=[0]) (it:=cu (ah 1)) (tg:=tgC 0) (f:=f2 ixD (ah 1) (ah 0)) (δ:=[on (iL rs),on (nL b)]) (β:=β) b (λi=>D.int (i:Int)) (λi=>D.int (rs.getD i 0)) (by show on (R6 ((nI b).map D.int),β)=_;rw[P3];rfl) (λi e=>⟨_,rfl,x_2 rfl rfl (IZ (c i e))⟩) (aZ d);refine this.trans ?_;show _=on (R6 (D.lst ((b.map λi=>rs.getD i 0).map D.int)),β);rw[P3];rfl
theorem sR{r c j:Nat}{cs:List Int}{b:LP}{g:List Nat}(sh:Shp r c b)(n:cs.length=c)(k:r<=1000)(l:j<c):(de K a).1 [iL cs,dD b,nL g,.int (j:Int)] β=on (.ok (.int (fi cs b r g j)),β):=by
 unfold de
 dsimp only
 refine aL ?_;refine aF (d:=iL (((P4 r).filter λi=>!decide (i∈g)).map λi=>(bI b i j).1)) (β1:=β) ?_ ?_
 ·have m:((gP b).map D.lst).length=r:=by rw[PF,PF,sh.1]
  have:=je (nv:=2) (caps:=[2,3]) (it:=IS (ae (ah 1) ay)) (tg:=tgT (dG (tgC 0) (dG (tgC 1) hV))) (tt:=fB (f2 (inD PP) (ah 0) (ah 2))) (f:=f2 ixD (f2 ixD (ah 1) (ah 3)) (fC (.int 0))) (δ:=[on (iL cs),on (dD b),on (nL g),on (.int (j:Int)),PH]) (β:=β) (P4 r) (λi=>D.tup [.int (i:Int),.lst ((b.getD i []).map pD)]) (λi=>D.int (bI b i j).1) (λi=>!decide (i∈g)) ?_ (λi h=>⟨_,rfl,x_B (x_2 rfl rfl vD),λ_=>x_2 (x_2 rfl rfl (vx sh (Qq.mp h) l).2) rfl yg⟩) (aZ (by rw[Qr];exact k))
  ·refine this.trans ?_
   show _=on (R6 (D.lst ((((P4 r).filter λi=>!decide (i∈g)).map λi=>(bI b i j).1).map D.int)),β);rw[P3];rfl
  ·show on (R6 (cJ 0 ((gP b).map D.lst)),β)=_
   rw[oV,m];congr 3;refine Qx λi h=>?_;rw[Q6];congr 3;obtain⟨e,_⟩:=sh.getD (Qq.mp h);rw[PR,PV,PV,e];rfl
 refine am (aO (x_2 (x:= .int (cs.getD j 0)) (x_2 rfl rfl (IZ (by omega))) (aj rfl (eZ _)) rfl) ⟨rfl,?_⟩);have e:(P4 r).map (λi=>if i∈g then(0:Int)else(bI b i j).1)=(P4 r).map (λx=>if(!decide (x∈g))=PP then(bI b x j).1 else 0):=Qx λi _=>by by_cases q:i∈g<;>simp[q]
 unfold fi S;rw[xa,e]
theorem tJ{r c j:Nat}{b:LP}{d:List Nat}(sh:Shp r c b)(e:∀i∈d,i<r)(k:d.length<=1000)(g:j<c):(dg K a).1 [dD b,nL d,.int (j:Int)] β=on (.ok (.int (f7 b d j)),β):=by
 unfold dg
 dsimp only
 refine aL (am (aO (aj (aa (x:=iL (d.map λi=>(bI b i j).2)) ?_ rfl) (eZ _)) ⟨rfl,rfl⟩));have:=bh (nv:=1) (caps:=[0,2]) (it:=cu (ah 1)) (tg:=tgC 0) (f:=f2 ixD (f2 ixD (f2 ixD (ah 1) (ah 0)) (ah 2)) (fC (.int 1))) (δ:=[on (dD b),on (nL d),on (.int (j:Int))]) (β:=β) d (λi=>D.int (i:Int)) (λi=>D.int (bI b i j).2) (by show on (R6 ((nI d).map D.int),β)=_;rw[P3];rfl) (λi h=>⟨_,rfl,x_2 (x_2 (x_2 rfl rfl (vx sh (e i h) g).1) rfl (vx sh (e i h) g).2) rfl pw⟩) (aZ k);refine this.trans ?_;show _=on (R6 (D.lst ((d.map λi=>(bI b i j).2).map D.int)),β);rw[P3];rfl
theorem zn{r c:Nat}{cs:List Int}{b:LP}{d e:List Nat}(sh:Shp r c b)(k:cs.length=c)(l:r<=1000)(h:c<=1000)(m:∀i∈d,i<r)(n:d.length<=1000):(me K a).1 [iL cs,dD b,nL d,nL e] β=on (.ok (.int (tU cs b r c d e)),β):=by
 unfold me
 dsimp only
 refine aL (am (aO (aj (aa (x:=iL ((P4 c).map λj=>if j∈e then fi cs b r d j else f7 b d j)) ?_ rfl) (eZ _)) ⟨rfl,rfl⟩));have:=bh (nv:=1) (caps:=[3,0,1,2]) (it:=bV gz (ae (aB cB (ae (ah 0) (ay))) (ay))) (tg:=tgC 0) (f:=fIf (fB (f2 (inD PU) (ah 0) (ah 1))) (ci (de K a).1 (ae (ah 2) (ae (ah 3) (ae (ah 4) (ae (ah 0) (ay)))))) (ci (dg K a).1 (ae (ah 3) (ae (ah 4) (ae (ah 0) (ay)))))) (δ:=[on (iL cs),on (dD b),on (nL d),on (nL e)]) (β:=β) (P4 c) (λj=>D.int (0+(j:Int))) (λj=>D.int (if j∈e then fi cs b r d j else f7 b d j)) (bx (ds:=bc 0 c) (aa (aj rfl (cT (by rw[PF,k]))) rfl) (rg1 (by omega) (by omega))) (λj o=>⟨[on (.int (j:Int)),on (nL e),on (iL cs),on (dD b),on (nL d)],by rw[TN];rfl,?_⟩) (aZ (by rw[Qr];exact h))
 ·refine this.trans ?_
  show _=on (R6 (D.lst (((P4 c).map λj=>if j∈e then fi cs b r d j else f7 b d j).map D.int)),β);rw[P3];rfl
 ·have g:=Qq.mp o
  by_cases q:j∈e
  ·rw[P6 q]
   exact Oz (x_B (x_2 rfl rfl (by rw[vD];simp[q]))) (ak rfl (sR sh k l g))
  ·rw[P0 q]
   exact OA (x_B (x_2 rfl rfl (by rw[vD];simp[q]))) (ak rfl (tJ sh m n g))
theorem zU{r c:Nat}{cs:List Int}{b:LP}{d:List Nat}(sh:Shp r c b)(g:cs.length=c)(l:r<=1000)(e:c<=1000)(m:∀i∈d,i<r)(n:d.length<=1000):(jM K a).1 [iL cs,dD b,nL d] β=on (.ok (nL (u9 cs b r c d)),β):=by
 unfold jM
 dsimp only
 refine aL ?_;have h:=je (nv:=1) (caps:=[0,1,2]) (it:=bV gz (ae (aB cB (ae (ah 0) (ay))) (ay))) (tg:=tgC 0) (tt:=fB (f2 (ltD) (ci (de K a).1 (ae (ah 1) (ae (ah 2) (ae (ah 3) (ae (ah 0) (ay)))))) (ci (dg K a).1 (ae (ah 2) (ae (ah 3) (ae (ah 0) (ay))))))) (f:=ah 0) (δ:=[on (iL cs),on (dD b),on (nL d)]) (β:=β) (P4 c) (λj=>D.int (0+(j:Int))) (λj=>D.int (j:Int)) (λj=>decide (fi cs b r d j<f7 b d j))
  (bx (ds:=bc 0 c) (aa (aj rfl (cT (by rw[PF,g]))) rfl) (rg1 (by omega) (by omega)))
  (λj k=>⟨[on (.int (j:Int)),on (iL cs),on (dD b),on (nL d)],by rw[TN];rfl,x_B (x_2 (ak rfl (sR sh g l (Qq.mp k))) (ak rfl (tJ sh m n (Qq.mp k))) rfl),λ_=>rfl⟩) (aZ (by rw[Qr];exact e))
 refine am (aO h ⟨rfl,?_⟩);show R6 (D.lst ((nI (u9 cs b r c d)).map D.int))=_;rw[P3];rfl
theorem L5{n i:Nat}{d:D}(h:(bc 0 n)[i]?=on d):i<n/\d= .int (i:Int):=by
 obtain⟨x,b,rfl⟩:=bE (f:=λ(i:Nat)=>D.int (0+(i:Int))) (xs:=P4 n) h;have c:=(P9.mp b).1;rw[Qr]at c;rw[Rf c]at b;cases b;exact⟨c,by rw[TN]⟩
theorem yA{n:Nat}(hn:n<=6):(mj K a).1 [.int (n:Int)] β=on (.ok (.lst ((chF n).map nL)),β):=by
 unfold mj
 dsimp only
 refine aL ?_;refine aF (d:= .lst [.lst []]) (β1:=β) (aj (aa (aj rfl DS) rfl) mv) ?_;refine bu (ds:=bc 0 n) (β1:=β) (bx rfl (rg1 (by omega) (by omega))) (λi δ b=>β=b/\∃c,δ=[on (.sh (.int (n:Int))),on (.sh (.lst ((chF i).map nL))),c]) ⟨rfl,PH,rfl⟩ ?_ ?_
 ·rintro i d δ _ hd ⟨rfl,c,rfl⟩
  obtain⟨g,rfl⟩:=L5 hd;have j:(chF i).length<=64:=by rw[xp];exact Qg (TC (by decide) (show i<=6 by omega)) (by decide)
  refine⟨[on (.sh (.int (n:Int))),on (.sh (.lst ((chF i).map nL))),on (.sh (.int (i:Int)))],rfl,am (aF (d:= .lst ((chF (i+1)).map nL)) (β1:=β) ?_ (aY ⟨rfl,_,rfl⟩))⟩;have h:=bh (nv:=1) (caps:=[2]) (it:=cu (ah 1)) (tg:=tgC 0) (f:=f2 lC (ah 0) (aB dm (ae (ah 1) (ay)))) (δ:=vw [on (.sh (.int (n:Int))),on (.sh (.lst ((chF i).map nL))),on (.sh (.int (i:Int)))]) (β:=β) (chF i) nL (λl=>nL (l++[i])) rfl (λl e=>⟨[on (nL l),on (.int (i:Int))],rfl,by
   have k:l.length<=i:=by have:=(iN i l e).length_le;rwa[Qr]at this
   refine x_2 rfl (aj rfl mv) ((oI ?_).trans ?_)
   ·rw[PF,PF,QU];omega
   ·simp only[nL,nI,QG,Qb,RG]⟩) (aZ (by omega))
  refine x_2 rfl h ((oI ?_).trans ?_)
  ·rw[PF,PF];omega
  ·rw[chF,QG,P3];rfl
 ·rintro δ _ ⟨rfl,c,rfl⟩
  rw[show(bc 0 n).length=n by unfold bc;rw[PF,Qr]];exact am (aO rfl ⟨rfl,rfl⟩)
theorem Nk{r:Nat}{b:List Nat}(h:b∈chF r):(∀i∈b,i<r)/\b.length<=r:=⟨λi c=>Qq.mp ((iN r b h).subset c),by have:=(iN r b h).length_le;rwa[Qr]at this⟩
theorem M7{r c:Nat}{rs cs:List Int}{b:LP}(sh:Shp r c b)(l:rs.length=r)(m:cs.length=c)(n:r<=6)(p:c<=6)(ok:∀X Y,0<=slB rs cs b r c X Y):(fA K a).1 [iL rs,iL cs,dD b] β=on (.ok .non,β):=by
 unfold fA
 dsimp only
 refine aL (am (bu (ds:=(chF r).map nL) (β1:=β) (bP (ak (aa (aj rfl (cT (r:=r) (by rw[PF,l]))) rfl) (yA n)) rfl) (λi δ f=>β=f/\∃g h,δ=[on (.sh (iL rs)),on (.sh (iL cs)),on (.sh (dD b)),g,h]) ⟨rfl,PH,PH,rfl⟩ ?_ ?_))
 ·rintro i d δ _ hd ⟨rfl,g,h,rfl⟩
  obtain⟨e,q,rfl⟩:=bE hd;have hm:=Ql q;obtain⟨k,t⟩:=Nk hm;refine⟨_,rfl,aF (d:=nL (u9 cs b r c e)) (β1:=β) (ak rfl (zU sh m (by omega) (by omega) k (by omega))) ?_⟩;refine am (jk (x_B (x_2 (ak rfl (zR (by rw[l];exact k) (by omega))) (ak rfl (zn sh m (by omega) (by omega) k (by omega))) ?_)) (bM (aY ⟨rfl,_,_,rfl⟩)));have o:=ok (λi=>decide (i∈e)) (λj=>decide (j∈u9 cs b r c e));have sub:(u9 cs b r c e).Sublist (P4 c):=UK;rw[←LV (iN r e hm) sub]at o;show on (D.bl (decide _))=_;rw[QP (by omega)]
 ·rintro δ _ ⟨rfl,g,h,rfl⟩
  exact aY ⟨rfl,rfl⟩
theorem Kg{r c:Nat}{rows:LI}{b:LP}(sh:Shp r c rows)(m:Shp r c b)(kp:Kp rows b)(X Y:Nat->Bool):0<=slB (rows.map RM) ((tp c rows).map RM) b r c X Y:=by
 refine Kl (g:=gp rows) (λi f j h=>?_) (λi f=>(Ou sh f).symm) (λj h=>(Ov sh h).symm) X Y;obtain⟨row,k,n⟩:=sh.at f;have ex:=oH (l:=row) (i:=j) (d:=0) (by omega);obtain⟨e,l⟩:=m.getD f;have ep:=oH (l:=b.getD i []) (i:=j) (d:=((0,0):Int×Int)) (by omega);rw[Pr k ex];exact kp i j _ _ (mT k ex) (mT e ep)
variable{rs cs:List Nat}
theorem JD{g:G}{δ:Ds}{o:Out}(h:Gw g δ β (λc b=>c=o/\b=β)):g δ β=on (o,β):=by
 obtain⟨c,b,e,rfl,rfl⟩:=h;exact e
theorem gD{t:Dn->M Bool}{d b h:G}{δ:Ds}{β1:Bg}{c:Bool}{Q:Out->Bg->Prop}(e:t (vwA δ) β=on (.ok c,β1))(f:c=PU)(k:Gw (aW b h) δ β1 Q):Gw (aW (gIf t d b) h) δ β Q:=by
 subst f;exact jk e k
theorem OW{p:Int×Int}(h:PairOk p):(iY K a).1 [pD p] β=on (.ok .non,β):=by
 obtain⟨b,c,e⟩:=h;unfold iY
 dsimp only
 refine aL ?_;exact tP (d:=pD p) (β1:=β) rfl rfl (am (gD (mZ (x_B (BV rfl rfl rfl rfl))) (by simp;omega) (bM (aY ⟨rfl,rfl⟩))))
theorem Kn{r c:Nat}{b:LP}(g:Bnd r c b)(n:r<=1000):(cW K a).1 [dD b,.int (r:Int),.int (c:Int)] β=on (.ok (dD b),β):=by
 unfold cW
 dsimp only
 refine aL ?_;refine jk (β1:=β) (x_B (x_2 rfl rfl rfl)) (bM ?_);have o:cw 1 [2] (cu (ah 0)) (tgC 0) (λ_=>M.ret PP) (cEm (f2 (dT) (aB cB (ae (ah 0) (ay))) (ah 1))) [on (dD b),on (.int (r:Int)),on (.int (c:Int)),PH,PH] β=on (.ok (.lst (b.map λ_=>D.bl PU)),β):=
  bh (nv:=1) (caps:=[2]) b (λrow=>D.lst (row.map pD)) _ (by show on _=_;rw[P3];rfl) (λrow h=>⟨_,rfl,x_2 (aj rfl (cT (r:=c) (by rw[PF];exact g.shp.2 row h))) rfl (ne_int.trans (by rw[Qn rfl];rfl))⟩) (aZ (by rw[g.shp.1];exact n))
 refine gD (tM (x_B (x_2 (aj rfl (AA (r:=r) (by rw[PF];exact g.shp.1))) rfl (ne_int.trans (by rw[Qn rfl];rfl)))) (pK (aj (aa o rfl) (any_map b λ_=>PU)) rfl)) (by simp) (bM ?_);refine bu (ds:=(gP b).map D.lst) (β1:=β) rfl (λi δ e=>β=e/\∃l f,δ=[on (.sh (dD b)),on (.sh (.int (r:Int))),on (.sh (.int (c:Int))),l,f]) ⟨rfl,PH,PH,rfl⟩ ?_ ?_
 ·rintro i d δ _ hd ⟨rfl,l,f,rfl⟩
  obtain⟨y,q,rfl⟩:=bE hd;obtain⟨row,k,rfl⟩:=bE q;refine⟨_,rfl,am (bu (ds:=row.map pD) (β1:=β) rfl (λj δ e=>β=e/\∃f,δ=[on (.sh (dD b)),on (.sh (.int (r:Int))),on (.sh (.int (c:Int))),on (.sh (.lst (row.map pD))),f]) ⟨rfl,_,rfl⟩ ?_ ?_)⟩
  ·rintro j d δ _ hd ⟨rfl,f,rfl⟩
   obtain⟨p,m,rfl⟩:=bE hd;exact⟨_,rfl,am (lR (ak rfl (OW (g.ok row (Ql k) p (Ql m)))) (aY ⟨rfl,_,rfl⟩))⟩
  ·rintro δ _ ⟨rfl,f,rfl⟩
   exact aY ⟨rfl,_,_,rfl⟩
 ·rintro δ _ ⟨rfl,l,f,rfl⟩
  exact am (aO (bh (nv:=1) (caps:=[]) (gP b) D.lst D.lst rfl (λx _=>⟨_,rfl,rfl⟩) (aZ (by rw[PF,g.shp.1];exact n))) ⟨rfl,rfl⟩)
theorem zP(l:List Nat){n:Nat}{δ:Dn}(b:l.length<=1000)(e:δ.getD n PH=on (nL l)):ii (aB yE (ae (cw 1 [] (cu (ah n)) (tgC 0) (λ_=>M.ret PP) (cEm (f2 (ltD) (ah 0) (fC (.int 0))))) (ay))) δ β=on (.ok PU,β):=by
 have c:=bh (nv:=1) (caps:=[]) (it:=cu (ah n)) (tg:=tgC 0) (f:=f2 (ltD) (ah 0) (fC (.int 0))) (δ:=δ) (β:=β) (nI l) D.int (λx=>D.bl (decide (x<0))) (bP (xx e) rfl) (λx _=>⟨_,rfl,rfl⟩) (aZ (by rw[PF];exact b));refine pK (aj (aa c rfl) (any_map _ _)) (Re on (Za.mpr λx d=>?_));obtain⟨n,_,rfl⟩:=Qc.mp d;simp
theorem mx(l:List Nat):cB [nL l]=on (.int (l.length:Int)):=cT (by rw[PF,PF])
theorem Lm(h:Nt0 rs cs):(iX K a).1 [nL rs,nL cs] β=on (.ok .non,β):=by
 obtain⟨b,c,d,e⟩:=h.nr;have c1:=h.c1;have c6:=h.c6;unfold iX
 dsimp only
 refine aL ?_;refine gD (mZ (x_B (wc rfl (aj rfl (mx rs)) rfl))) (by simp;omega) (bM ?_);refine gD (mZ (x_B (wc rfl (aj rfl (mx cs)) rfl))) (by simp;omega) (bM ?_);refine jk (tM (zP rs (by omega) rfl) (zP cs (by omega) rfl)) (bM ?_);refine gD (x_B (x_2 (aj rfl (kx rs)) (aj rfl (kx cs)) ne_int)) (by rw[h.sm];simp) (bM ?_);exact am (gD (x_B (x_2 (aj rfl (kx rs)) rfl gt_int)) (by simp;omega) (bM (aY ⟨rfl,rfl⟩)))
theorem JP(h:Nrw rs):(iW K a).1 [nL rs] β=on (.ok .non,β):=by
 obtain⟨g,j,k,e⟩:=h;unfold iW
 dsimp only
 refine aL ?_;refine aF (d:= .int 1) (β1:=β) rfl ?_;refine bu (ds:=(nI rs).map D.int) (β1:=β) rfl (λi δ b=>β=b/\∃c,δ=[on (.sh (nL rs)),on (.sh (.int ((pr ((rs.take i).map (·+1)):Nat):Int))),c]) ⟨rfl,PH,rfl⟩ ?_ ?_
 ·rintro i d δ _ hd ⟨rfl,c,rfl⟩
  obtain⟨n,hn,rfl⟩:=qo hd;have f:=fZ (Ql hn);have l:=Qg (tX rs i) e;refine⟨_,rfl,am (fI rfl (x_2 (z:= .int ((n+1:Nat):Int)) rfl rfl rfl) (k8 (smN (by omega)) (smN (by omega))) (aY ⟨rfl,on (.sh (.int (n:Int))),?_⟩))⟩;rw[iF hn];rfl
 ·rintro δ _ ⟨rfl,c,rfl⟩
  rw[va,RP];exact am (gD (x_B (x_2 rfl rfl gt_int)) (by simp;omega) (bM (aY ⟨rfl,rfl⟩)))
structure NtB (rows:LI) (B:List (List (Nat×Nat))) (rs cs:List Nat):Prop extends Nt0 rs cs where
 shp:Shp rs.length cs.length rows
 rw1:rows.map RM=nI rs
 cl1:(tp cs.length rows).map RM=nI cs
 bok:BOk rs.length cs.length B
 kp:Kp rows (gL B)
theorem jJ{r c:Nat}{B:List (List (Nat×Nat))}(h:Shp r c B):Shp r c (gL B):=h.map
theorem BOk.bnd{r c:Nat}{B:List (List (Nat×Nat))}(h:BOk r c B):Bnd r c (gL B):=⟨jJ h.1,λrow e p f=>by
 obtain⟨b,g,rfl⟩:=Qc.mp e;obtain⟨d,i,rfl⟩:=Qc.mp f;have:=h.2 b g d i;exact⟨by show(0:Int)<=(d.1:Int);omega,by show(d.1:Int)<=(d.2:Int);omega,by show(d.2:Int)<=40;omega⟩⟩
theorem NtB.nt{rows:LI}{B:List (List (Nat×Nat))}(h:NtB rows B rs cs):Nt1 K a rs cs (wB B cs) (bDN B):=⟨h.toNt0,xz B cs,λ{β k r} b c e=>Lp c (by rw[e];exact h.bok) (by rw[←h.sm];exact h.nr.2.2.1) b⟩
theorem NtB.fit{rows:LI}{B:List (List (Nat×Nat))}(h:NtB rows B rs cs):(fA K a).1 [nL rs,nL cs,bDN B] β=on (.ok .non,β):=by
 have b:=h.nr.2.1;have c6:=h.c6;refine M7 (jJ h.bok.1) (PF _) (PF _) (by omega) (by omega) λX Y=>?_;rw[←h.rw1,←h.cl1];exact Kg h.shp (jJ h.bok.1) h.kp X Y
theorem Ko{rows:LI}{B:List (List (Nat×Nat))}(h:NtB rows B rs cs):(cW K a).1 [bDN B,.int (rs.length:Int),.int (cs.length:Int)] β=on (.ok (bDN B),β):=Kn h.bok.bnd (by have:=h.nr.2.1;omega)
abbrev nFs(B:List (List (Nat×Nat)))(rs cs:List Nat):List D:=[nL rs,nL cs,bDN B,rV (wB B cs) rs cs.length]
abbrev MI(a:Ad)(B:List (List (Nat×Nat)))(rs cs:List Nat):D:= .obj a.Ae ["row_list","column_list","pairs","counted"] (nFs B rs cs)
theorem O6{rows:LI}{B:List (List (Nat×Nat))}{d:D}(h:NtB rows B rs cs)(hd:∀{β:Bg},(cW K a).1 [d,.int (rs.length:Int),.int (cs.length:Int)] β=on (.ok (bDN B),β)):qq K a [nL rs,nL cs,d] β=on (.ok (nFs B rs cs),β):=EH λx=>by
 have b:(dE K a).1 [nL rs,nL cs,d] β=on (.ok (bDN B),β):=by
  unfold dE
  dsimp only
  refine aL ?_;exact lR (ak rfl (Lm h.toNt0)) (aF (ak (aa rfl (aa (aj rfl (mx rs)) (aa (aj rfl (mx cs)) rfl))) hd) (lR (ak rfl (JP h.nr)) (am (aO rfl ⟨rfl,rfl⟩))))
 unfold vC;refine AK (g:=gj 4 _) (δ1:=[on (.sh (.adr x)),on (.sh (nL rs)),on (.sh (nL cs)),on (.sh d),on (.sh (bDN B))]) (β1:=β) (JD (am (aF (ak rfl b) (aY ⟨rfl,rfl⟩)))) rfl rfl ?_;refine AK (δ1:=[on (.sh (.adr x)),on (.sh (nL rs)),on (.sh (nL cs)),on (.sh d),on (.sh (bDN B))]) (β1:=β) (JD (am (lR (ak rfl h.fit) (aY ⟨rfl,rfl⟩)))) rfl rfl ?_;exact qz (aj rfl rfl) (qz (aj rfl rfl) (qz rfl (qz (ak rfl (yx h.nt)) rfl)))
theorem MH{rows:LI}{B:List (List (Nat×Nat))}(h:NtB rows B rs cs):qq K a [nL rs,nL cs,bDN B] β=on (.ok (nFs B rs cs),β):=O6 h (Ko h)
theorem OB{f:FD}{g:FL}{δ:Dn}{b:Bool}{ks:List KyD}{vs:List D}{k z d:D}{y:KyD}(c:f δ β=on (.ok (.dct b ks vs),β))(e:g δ β=on (.ok [k,z],β))(h:ie b k=on y)(i:lkD ks vs y=on d):EO f g δ β=on (.ok d,β):=by
 unfold EO;rw[M.bind_ok c];simp only;rw[M.bind_ok e];simp only[h,i,Rb,YU,M.ofO]
variable{W:Wy}{bd:D}
abbrev sT(W:Wy)(cs:List Nat)(k:Nat)(r:List Nat):List (List Nat):=stW W (cs.length-(k+1)) k r
abbrev tB(W:Wy)(cs:List Nat)(k:Nat)(r v:List Nat):Nat:=tbW W (cs.length-(k+1)) (k+1) (less r v)
abbrev mB(W:Wy)(cs:List Nat)(k:Nat)(r v:List Nat):Nat:=mu v*dlW W (cs.length-(k+1)) (k+1) (less r v)
abbrev c9(a:Ad)(W:Wy)(bd:D)(rs cs:List Nat):D:= .obj a.Ae ["row_list","column_list","pairs","counted"] [nL rs,nL cs,bd,rV W rs cs.length]
theorem K1{b d:List KyD}{c e:List D}{y:KyD}(h:b.length=c.length):lkD (b++d) (c++e) y=(lkD b c y).or (lkD d e y):=by
 unfold lkD;rw[List.zip_append h,List.find?_append];cases(b.zip c).find? λp=>decide (p.1=y)<;>rfl
theorem IU{f:List Nat->D}{u:List Nat}{k:Int}:∀{L:List (List Nat)},u∈L->lkD (L.map λr=>(k,nI r)) (L.map f) (k,nI u)=on (f u)
 |r::L,h=>by
  unfold lkD;rw[Qb,Qb,Sf,Tg];by_cases q:r=u
  ·rw[q,Qn rfl];rfl
  ·rw[QP λe=>q (gT (UT.mp e).2)]
   exact IU ((Qf.mp h).resolve_left λe=>q e.symm)
theorem zZ{f:List Nat->D}{y:KyD}{k:Int}(h:k≠y.1):∀{L:List (List Nat)},lkD (L.map λr=>(k,nI r)) (L.map f) y=PH
 |[]=>rfl
 |r::L=>by
  have ih:=zZ (f:=f) h (L:=L);unfold lkD at ih⊢;rw[Qb,Qb,Sf,Tg,QP λe=>h (UT.mp e).1];exact ih
theorem z5{m k:Nat}{u:List Nat}(b:u∈lvW W rs k):∀{L:List Nat},k∈L->lkD (L.flatMap λk=>(lvW W rs k).map λr=>((k:Int),nI r)) (L.flatMap λk=>(lvW W rs k).map (cv W m k)) ((k:Int),nI u)=on (cv W m k u)
 |j::L,h=>by
  rw[QZ,QZ,K1 (by rw[PF,PF])];by_cases q:j=k
  ·subst q
   rw[IU b];rfl
  ·rw[zZ (by show(j:Int)≠(k:Int);omega),Option.none_or]
   exact z5 b ((Qf.mp h).resolve_left λe=>q e.symm)
theorem lk_net{k:Nat}{u:List Nat}(c:k<=cs.length)(b:u∈lvW W rs k):lkD (kyW W rs (cs.length+1)) (Om W rs cs.length) ((k:Int),nI u)=on (cv W cs.length k u):=z5 b (Qq.mpr (by omega))
theorem vV{k:Nat}{u:List Nat}(c:k<=cs.length)(d:u∈lvW W rs k):(eK K a).1 [c9 a W bd rs cs,.int (k:Int),tN u] β=on (.ok (cv W cs.length k u),β):=
 aL (am (aO (OB (jj rfl rfl) (aa (aj rfl eA) (aa (aj rfl eA) rfl)) (rF (b:=PP) (k:=((k:Int),nI u)) λe=>(by cases e)) (lk_net c d)) ⟨rfl,rfl⟩))
theorem MG{k:Nat}{u:List Nat}(b:k<=cs.length)(c:u∈lvW W rs k):DK (.tup [.int (k:Int),tN u]) (rV W rs cs.length)=on (.bl PU):=by
 show(ie PP (dK PP ((k:Int),nI u))).map _=_;rw[rF λe=>(by cases e),Rb,lk_net b c];rfl
theorem Nt1.nx{k:Nat}{r v:List Nat}(h:Nt1 K a rs cs W bd)(b:r∈lvW W rs k)(c:v∈W k r):less r v∈lvW W rs (k+1):=nN.mpr ⟨r,b,v,c,rfl⟩
theorem HS{k:Nat}{r:List Nat}(h:Nt1 K a rs cs W bd)(b:Nrw r):(W k r).length<=500:=by
 have:=(h.ok k r).length_le;have:=kM r (cs.getD k 0);have:=tX r (r.length-1);rw[←List.dropLast_eq_take]at this;have:=b.2.2.2;omega
theorem ID{k:Nat}{r:List Nat}(h:Nt1 K a rs cs W bd)(b:Nrw r):(sT W cs k r).length<=500:=Qg UK.length_le (HS h b)
theorem CJ{k:Nat}{r:List Nat}(h:Nt1 K a rs cs W bd)(d:k<cs.length)(b:r∈lvW W rs k):(jQ K a).1 [c9 a W bd rs cs,.int (k:Int),tN r] β=on (.ok (.lst ((sT W cs k r).map tN)),β):=by
 obtain⟨c,f,g⟩:=h.at (by omega) b;unfold jQ
 dsimp only
 refine aL ?_;refine gD (tM (x_B (x_2 (aj rfl eA) (jj rfl rfl) (MG (by omega) b))) (x_B (x_2 rfl (aj (aa (jj rfl rfl) rfl) (mx cs)) eq_int))) (by simp;omega) (bM ?_);refine am (aO (je (W k r) tN tN (λv=>decide ((0:Int)<((tB W cs k r v:Nat):Int))) (bP (ak (aa rfl (aa (jj rfl rfl) (aa (jj rfl rfl) (aa rfl rfl)))) (h.fl d c f)) rfl) (λv e=>⟨[on (tN v),on (c9 a W bd rs cs),on (.int (k:Int)),on (tN r)],rfl,?_,λ_=>rfl⟩) (aZ ?_)) ⟨rfl,rfl⟩)
 ·exact x_B (x_2 (x_2 (fq rfl (aa (x:= .int ((k+1:Nat):Int)) (x_2 rfl rfl rfl) (aa (ak rfl (nB (cE ((h.ok k r).subset e)) c.2.1)) rfl)) (vV d (h.nx b e))) rfl yg) rfl gt_int)
 ·have:=HS (k:=k) h c
  omega
abbrev scD(W:Wy)(j k:Nat)(r v:List Nat):D:= .tup [tN v,.int ((tbW W j (k+1) (less r v):Nat):Int),.int ((mu v*dlW W j (k+1) (less r v):Nat):Int)]
theorem tup3{x y z:D}:cI [x,y,z]=on (.tup [x,y,z]):=by
 unfold cI;rw[P6 (aZ (by show 3<=1000;decide))]
theorem JI{k:Nat}{r:List Nat}(h:Nt1 K a rs cs W bd)(b:k<=cs.length)(c:r∈lvW W rs k):dlW W (cs.length-k) k r<=2^160:=by
 refine Qg (qJ h.ok _ _ _ (by omega)) ?_;rw[kG _ _ (i8 h.ok h.sm k b r c).2];exact qp (h.at b c).2.2
theorem y7{k:Nat}{r:List Nat}(h:Nt1 K a rs cs W bd)(c:k<cs.length)(e:r∈lvW W rs k):(eF K a).1 [c9 a W bd rs cs,.int (k:Int),tN r] β=on (.ok (.lst ((sT W cs k r).map (scD W (cs.length-(k+1)) k r))),β):=by
 obtain⟨m,p,o⟩:=h.at (by omega) e;have q:=ID (k:=k) h m;unfold eF
 dsimp only
 refine aL ?_;refine m5 (ds:=[]) (β1:=β) rfl (Rr _) ?_;refine bu (ds:=(sT W cs k r).map tN) (β1:=β) (bP (fq rfl rfl (CJ h c e)) rfl) (λi δ f=>β=f/\∃g j l,δ=[on (.sh (c9 a W bd rs cs)),on (.sh (.int (k:Int))),on (.sh (tN r)),on (.own (((sT W cs k r).take i).map (scD W (cs.length-(k+1)) k r))),g,j,l]) ⟨rfl,PH,PH,PH,rfl⟩ ?_ ?_
 ·rintro i d δ _ hd ⟨rfl,g,j,l,rfl⟩
  obtain⟨v,n,rfl⟩:=bE hd;have hm:=(Sy.mp (Ql n)).1;have hn:=h.nx e hm;have b:v.sum<=40:=Qg (cE ((h.ok k r).subset hm)).sum o;refine⟨_,rfl,tP (d:=cv W cs.length (k+1) (less r v)) (β1:=β) (fq rfl (aa (x:= .int ((k+1:Nat):Int)) (x_2 rfl rfl rfl) (aa (ak rfl (nB (cE ((h.ok k r).subset hm)) m.2.1)) rfl)) (vV c hn)) rfl (am (m7 (cs:=((sT W cs k r).take i).map (scD W (cs.length-(k+1)) k r)) (d:=scD W (cs.length-(k+1)) k r v) rfl (aa (aj (aa rfl (aa rfl (aa (x_2 (ak rfl (m4 (.inr rfl) b)) rfl (k8 (cA (lO b) (by decide)) (cA (JI h c hn) (by decide)))) rfl))) (tup3.trans (by rw[jW]))) rfl) (Qv (show _<1000 by rw[PF,Rp];omega) (by decide)) (aY ⟨rfl,on (.sh (tN v)),on (.sh (.int ((tB W cs k r v:Nat):Int))),on (.sh (.int ((dlW W (cs.length-(k+1)) (k+1) (less r v):Nat):Int))),?_⟩)))⟩;rw[Uj,n,QG];rfl
 ·rintro δ _ ⟨rfl,g,j,l,rfl⟩
  rw[PF,RP];exact am (aO rfl ⟨rfl,rfl⟩)
theorem EN(f:List Nat->Nat)(l:List (List Nat)){n:Nat}(hn:n<L2.Nt.sm l f):(kX K a).1 [.lst (l.map λv=> .tup [tN v,.int ((f v:Nat):Int)]),.int (n:Int)] β=on (.ok (.tup [tN (fal f l n).1,.int (((fal f l n).2:Nat):Int)]),β):=by
 unfold kX
 dsimp only
 refine aL ?_;refine aF (d:= .int 0) (β1:=β) rfl ?_;refine JQ (λq δ g=>β=g/\∃i b:Nat,δ=[on (.sh (.lst (l.map λv=> .tup [tN v,.int ((f v:Nat):Int)]))),on (.sh (.int (b:Int))),on (.sh (.int (i:Int)))]/\q=l.length-i/\fal f (l.drop i) b=fal f l n/\b<L2.Nt.sm (l.drop i) f) ?_ l.length _ β ⟨rfl,0,n,rfl,rfl,rfl,hn⟩;rintro q δ _ ⟨rfl,i,b,rfl,rfl,e,hs⟩;have h:i<l.length:=by
  rcases UX i l.length with z|z
  ·exact z
  ·rw[R3 z]at hs;cases hs
 have c:(l.map λv=>D.tup [tN v,.int ((f v:Nat):Int)])[i]?=on (.tup [tN l[i],.int ((f l[i]:Nat):Int)]):=by rw[PV,PM h];rfl
 rw[QT h]at e hs;rw[bt]at hs;have j:∀v l n,fal f (v::l) n=if n<f v then(v,n)else fal f l (n-f v):=λ_ _ _=>rfl;rw[j]at e;by_cases z:b<f l[i]
 ·rw[P6 z]at e
  refine .inl ⟨β,?_,?_⟩
  ·exact(x_B (x_2 rfl (x_2 (x_2 rfl rfl (bK c)) rfl pw) ge_int)).trans (by rw[QP (by omega)])
  ·rw[←e]
   exact am (aO (aj (aa (x_2 (x_2 rfl rfl (bK c)) rfl yg) (aa rfl rfl)) eA) ⟨rfl,rfl⟩)
 ·rw[P0 z]at e
  refine .inr ⟨β,?_,?_⟩
  ·exact(x_B (x_2 rfl (x_2 (x_2 rfl rfl (bK c)) rfl pw) ge_int)).trans (by rw[Qn (by omega)])
  ·refine fI (z:= .int ((b-f l[i]:Nat):Int)) rfl (x_2 (x_2 rfl rfl (bK c)) rfl pw) (by show on (D.int _)=_;rw[Int.ofNat_sub (by omega)]) (am (fI (z:= .int ((i+1:Nat):Int)) rfl rfl rfl (aY ⟨_,rfl,l.length-(i+1),by omega,rfl,i+1,b-f l[i],rfl,rfl,e,by omega⟩)))
theorem L0{n:Nat}{vs:List (List Nat)}(g:1<=vs.length)(l:vs.length<=30)(hn:n<=30)(b:∀v∈vs,v.length=n):(dW K a).1 [.lst (vs.map tN)] β=on (.ok (gridD (tp n (vs.map nI))),β):=by
 have c:(vs.map tN)[0]?=on (tN vs[0]):=by rw[PV,PM (by omega)];rfl
 unfold dW
 dsimp only
 refine aL (am (aO (d:= .lst ((P4 n).map λj=>D.lst (vs.map λv=> .int ((v.getD j 0:Nat):Int)))) (β1:=β) ?_ ⟨rfl,?_⟩))
 ·refine bh (P4 n) (λi=>D.int (0+(i:Int))) _ (bx (ds:=bc 0 n) (aa (aj (z:= .int (n:Int)) (aa (x_2 rfl rfl (bK (k:=0) c)) rfl) ?_) rfl) (rg1 (by omega) (by omega))) (λj e=>⟨[on (.int (0+(j:Int))),on (.lst (vs.map tN))],rfl,?_⟩) (aZ (by rw[Qr];omega))
  ·show on (D.int _)=_
   rw[PF,PF,b _ (QO _)]
  ·have f:=Qq.mp e
   refine bh (nv:=1) (caps:=[0]) vs tN _ rfl (λv h=>⟨[on (tN v),on (.int (0+(j:Int)))],rfl,x_2 rfl rfl ?_⟩) (aZ (by omega));rw[TN];have m:=b v h;refine bK (xs:=(nI v).map D.int) ?_;rw[PV,PV,eC (by omega),PM (by omega)];rfl
 ·unfold tp tpA
  show R6 (D.lst (Q2 D.lst (Q2 _ (Q2 _ _))))=_;rw[P3,P3];congr 2;refine Qx λj _=>?_;show D.lst (((vs.map nI).map λrow=>row.getD j 0).map D.int)=_;rw[P3,P3];congr 1;refine Qx λv _=>?_;show D.int ((nI v).getD j 0)=_;rw[PR,PR,PV];cases v[j]?<;>rfl
theorem eqI(i j:Int):UU (.int i) (.int j)=decide (i=j):=by unfold UU;exact Bool.beq_eq_decide_eq i j
theorem sX{α:Type} [DecidableEq α]{f:α->XU}(b:∀x y,UU (f x) (f y)=decide (x=y)):∀xs ys:List α,Vc (xs.map f) (ys.map f)=decide (xs=ys)
 |[],[]=>by simp[Vc]
 |[],y::ys=>by simp[Vc]
 |x::xs,[]=>by simp[Vc]
 |x::xs,y::ys=>by
  rw[Qb,Qb,Vc,b,sX b xs ys];by_cases h:x=y<;>by_cases q:xs=ys<;>simp[h,q]
theorem uz{α:Type}{f:α->D}{g:α->XU}(h:∀x,toP (f x)=on (g x)):∀l:List α,toPs (l.map f)=on (l.map g)
 |[]=>by simp[toPs]
 |x::l=>by
  rw[Qb,toPs,h x,uz h l];rfl
theorem AY{x y:D}{p q:XU}(f:eqS x y=PH)(d:toP x=on p)(e:toP y=on q)(b:oE x=PP)(c:oE y=PP):gn x y=on (.bl (UU p q)):=by
 unfold gn mM;unfold oE at b c;rw[d]at b;rw[e]at c;simp only[f,d,e,b,c,Uu,QY,Rb]
theorem Pw(xs ys:List Int):gn (tpI xs) (tpI ys)=on (.bl (decide (xs=ys))):=by
 have t:∀l:List Int,toP (tpI l)=on (.tuple (l.map .int)):=λl=>by
  unfold tpI toP;rw[uz (g:=PyData.int) λx=>rfl];rfl
 have c:∀l:List Int,oE (tpI l)=PP:=λl=>EU 1 (λx b=>by
  obtain⟨i,_,rfl⟩:=Qc.mp b;trivial) (by decide)
 rw[AY rfl (t xs) (t ys) (c xs) (c ys),UU,sX eqI]
theorem Pt(u v:List Nat):gn (tN u) (tN v)=on (.bl (decide (u=v))):=by
 rw[Pw];by_cases q:u=v
 ·rw[q,Qn rfl,Qn rfl]
 ·rw[QP q,QP λe=>q (gT e)]
theorem rC:(dX K a).1 [c9 a W bd rs cs] β=on (.ok (nL rs),β):=aL (am (aO (aj (aa (jj rfl rfl) rfl) rfl) ⟨rfl,rfl⟩))
theorem wO:(fV K a).1 [c9 a W bd rs cs] β=on (.ok (nL cs),β):=aL (am (aO (aj (aa (jj rfl rfl) rfl) rfl) ⟨rfl,rfl⟩))
theorem Nj{n m:Nat}(h:n<m):(kq K a).1 [.int (n:Int),.int (m:Int)] β=on (.ok .non,β):=
 aL (am (gD (mZ (x_B (yK rfl rfl rfl))) (by simp;omega) (bM (aY ⟨rfl,rfl⟩))))
theorem yR(l:List Nat):ux [nL l]=on (tN l):=rfl
theorem ES{W:Wy}{bd:D}{rs cs:List Nat}:(kr K a).1 [c9 a W bd rs cs] β=on (.ok (.int ((dlW W cs.length 0 rs:Nat):Int)),β):=
 aL (am (aO (x_2 (fq rfl (aa rfl (aa (aj (aa (jj rfl rfl) rfl) rfl) rfl)) (vV (k:=0) (Rr _) (QH.mpr rfl))) rfl pw) ⟨rfl,rfl⟩))
theorem MU{n0:Nat}(h:Nt1 K a rs cs W bd)(hn:n0<dlW W cs.length 0 rs):(ib K a).1 [c9 a W bd rs cs,.int (n0:Int)] β=on (.ok (gridD (tp rs.length ((kdW W cs.length 0 rs n0).map nI))),β):=by
 have c1:=h.c1;have c6:=h.c6;have F:=h.nr.2.1;unfold ib
 dsimp only
 refine aL ?_;refine lR (ak (aa rfl (aa (fq rfl rfl ES) rfl)) (Nj hn)) ?_;refine aF (d:=tN rs) (β1:=β) (aj (aa (fq rfl rfl rC) rfl) (yR rs)) ?_;refine m5 (ds:=[]) (β1:=β) rfl (Rr _) ?_;refine bu (ds:=bc 0 cs.length) (β1:=β) (bx (aa (aj (aa (fq rfl rfl wO) rfl) (mx cs)) rfl) (rg1 (by omega) (by omega))) (λi δ g=>β=g/\∃vs r,∃n:Nat,∃j l m,δ=[on (.sh (c9 a W bd rs cs)),on (.sh (.int (n:Int))),on (.sh (tN r)),on (.own (vs.map tN)),j,l,m]/\vs.length=i/\r∈lvW W rs i/\n<dlW W (cs.length-i) i r/\vs++kdW W (cs.length-i) i r n=kdW W cs.length 0 rs n0) ⟨rfl,[],rs,n0,PH,PH,PH,rfl,rfl,QH.mpr rfl,hn,rfl⟩ ?_ ?_
 ·rintro i d δ _ hd ⟨rfl,vs,r,n,j,l,m,rfl,o,f,hn,b⟩
  obtain⟨y,rfl⟩:=xQ hd;have p:cs.length-i=(cs.length-(i+1))+1:=by omega
  rw[p,←IE]at hn;rw[p]at b;obtain⟨A,B⟩:=vK hn;have q:=(Sy.mp A).1;have le:=cE ((h.ok i r).subset q);obtain⟨t,_,C⟩:=h.at (by omega) f;have c:=Qg le.sum C;have H:=ID (k:=i) h t;refine⟨_,rfl,aF (d:= .lst ((sT W cs i r).map λv=> .tup [tN v,.int ((mB W cs i r v:Nat):Int)])) (β1:=β) (bh (sT W cs i r) (scD W (cs.length-(i+1)) i r) _ (bP (ak rfl (y7 h y f)) rfl) (λv _=>⟨[on (tN v),on (.int ((tB W cs i r v:Nat):Int)),on (.int ((mB W cs i r v:Nat):Int))],rfl,aj rfl eA⟩) (aZ (by omega))) ?_⟩;refine tP (ak rfl (EN (mB W cs i r) (sT W cs i r) hn)) rfl ?_;refine fI (z:= .int (((fal (mB W cs i r) (sT W cs i r) n).2/mu (fal (mB W cs i r) (sT W cs i r) n).1:Nat):Int)) rfl (ak rfl (m4 (.inr rfl) c)) (by rw[jW];exact yu (mr _) (cA (qp c) (by decide))) ?_;refine m7 (cs:=vs.map tN) rfl rfl (Qv (show _<1000 by rw[PF];omega) (by decide)) (am (aF (ak rfl (nB le t.2.1)) (aY ⟨rfl,vs++[(fal (mB W cs i r) (sT W cs i r) n).1],less r (fal (mB W cs i r) (sT W cs i r) n).1,(fal (mB W cs i r) (sT W cs i r) n).2/mu (fal (mB W cs i r) (sT W cs i r) n).1,_,_,_,by rw[QG];rfl,by rw[Qh,o];rfl,h.nx f q,Yv B,by rw[Q9];exact b⟩)))
 ·rintro δ _ ⟨rfl,vs,r,n,j,l,m,rfl,o,f,_,b⟩
  rw[qb]at o b;rw[Ss]at b;have e:vs=kdW W cs.length 0 rs n0:=by rw[←b];exact(QC vs).symm
  rw[←e];have u:=(m3 h.ok (IY hn) (by rw[AE,Q6]) h.sm).2.2;rw[←e]at u;exact am (aO (ak rfl (L0 (by omega) (by omega) (by omega) u)) ⟨rfl,rfl⟩)
theorem xP{r c:Nat}{rows:LI}(sh:Shp r c rows)(r0:1<=r)(r1:r<=30)(c1:c<=30):(dW K a).1 [gridD rows] β=on (.ok (gridD (tp c rows)),β):=
 aL (am (aO (LE sh r0 r1 c1 rfl) ⟨rfl,rfl⟩))
theorem HJ{rows:LI}(h:Nt0 rs cs)(sh:Shp rs.length cs.length rows):(gc K a).1 [c9 a W bd rs cs,gridD rows] β=on (.ok (.lst ((tp cs.length rows).map tpI)),β):=by
 obtain⟨b,j,_,_⟩:=h.nr;have c1:=h.c1;have c6:=h.c6;unfold gc
 dsimp only
 refine aL ?_;refine aF (d:= .int (cs.length:Int)) (β1:=β) (aj (aa (fq rfl rfl wO) rfl) (mx cs)) ?_;have e:f2 dT (aB cB (ae (ah 1) ay)) (aB cB (ae (oi a.Ae "rowsums" (dX K a).1 (ah 0) ay []) ay)) (vwA [on (.sh (c9 a W bd rs cs)),on (.sh (gridD rows)),on (.sh (.int (cs.length:Int)))]) β=on (.ok (.bl PU),β):=x_2 (aj rfl (cT (r:=rs.length) (by rw[PF,PF];exact sh.1))) (aj (aa (fq rfl rfl rC) rfl) (mx rs)) (ne_int.trans (by rw[Qn rfl];rfl));have g:=bh (nv:=1) (caps:=[2]) (it:=cu (ah 1)) (tg:=tgC 0) (f:=f2 dT (aB cB (ae (ah 0) ay)) (ah 1)) (δ:=vwA [on (.sh (c9 a W bd rs cs)),on (.sh (gridD rows)),on (.sh (.int (cs.length:Int)))]) (β:=β) rows (λrow=>D.lst (row.map D.int)) (λ_=>D.bl PU) (bP rfl (by show on _=on _;rw[P3];rfl)) (λrow i=>⟨[on (D.lst (row.map D.int)),on (.int (cs.length:Int))],rfl,x_2 (aj rfl (cT (r:=cs.length) (by rw[PF];exact sh.2 row i))) rfl (ne_int.trans (by rw[Qn rfl];rfl))⟩) (aZ (by rw[sh.1];omega));refine gD (tM (x_B e) (pK (aj (aa g rfl) (any_map rows λ_=>PU)) rfl)) (by simp) (bM ?_);refine am (aO (bh (tp cs.length rows) (λcol=>D.lst (col.map D.int)) tpI (bP (ak rfl (xP sh b (by omega) (by omega))) (by show on _=on _;rw[P3];rfl)) (λcol _=>⟨[on (D.lst (col.map D.int))],rfl,rfl⟩) (aZ (by rw[(jX (d:=(0:Int)) (c:=cs.length) sh.1).1];omega))) ⟨rfl,rfl⟩)
theorem On{k:Nat}{r v:List Nat}(h:Nt1 K a rs cs W bd)(n:k<cs.length)(o:r∈lvW W rs k)(p:v∈sT W cs k r):∃x,(eJ K a).1 [c9 a W bd rs cs,.int (k:Int),tN r,tN v] β=on (.ok (.tup [x,.int ((ahW (mB W cs k r) v (sT W cs k r):Nat):Int)]),β):=by
 suffices q:∃g b,(eJ K a).1 [c9 a W bd rs cs,.int (k:Int),tN r,tN v] β=on (g,b)/\β=b/\∃x,g= .ok (.tup [x,.int ((ahW (mB W cs k r) v (sT W cs k r):Nat):Int)]) by
  obtain⟨g,_,e,rfl,x,rfl⟩:=q;exact⟨x,e⟩
 unfold eJ
 dsimp only
 refine mS ?_;refine aF (d:= .int 0) (β1:=β) rfl (aF (d:= .int 0) (β1:=β) rfl ?_);generalize A:(mB W cs k r)=f;refine bu (ds:=(sT W cs k r).map (scD W (cs.length-(k+1)) k r)) (β1:=β) (bP (ak rfl (y7 h n o)) rfl) (λi δ b=>β=b/\∃t d:Nat,∃c j m,δ=[on (.sh (c9 a W bd rs cs)),on (.sh (.int (k:Int))),on (.sh (tN r)),on (.sh (tN v)),on (.sh (.int (t:Int))),on (.sh (.int (d:Int))),c,j,m]/\d+ahW f v ((sT W cs k r).drop i)=ahW f v (sT W cs k r)/\v∈(sT W cs k r).drop i) ⟨rfl,0,0,PH,PH,PH,rfl,Q6 _,p⟩ ?_ ?_
 ·rintro i _ δ _ hd ⟨rfl,t,d,c,j,m,rfl,e,hm⟩
  obtain⟨u,B,rfl⟩:=bE hd;obtain⟨C,rfl⟩:=P9.mp B;rw[QT C]at e hm;have F:∀u l,ahW f v (u::l)=if u=v then 0 else f u+ahW f v l:=λ_ _=>rfl;rw[F]at e;refine⟨_,rfl,lP (β1:=β) (x_B (x_2 rfl rfl (Pt _ v))) ?_⟩;by_cases z:(sT W cs k r)[i]=v
  ·rw[P6 z]at e
   rw[P6 (Qn z)];exact aO (aj rfl eA) ⟨rfl,.int (t:Int),by rw[←e];rfl⟩
  ·rw[P0 z]at e
   rw[P0 (λy=>z (SQ y))];refine bM (fI (z:= .int ((t+tB W cs k r (sT W cs k r)[i]:Nat):Int)) rfl rfl rfl (am (fI (z:= .int ((d+f (sT W cs k r)[i]:Nat):Int)) rfl rfl (by rw[←A];rfl) (aY ⟨rfl,_,_,_,_,_,rfl,by omega,(Qf.mp hm).resolve_left λy=>z y.symm⟩))))
 ·rintro δ _ ⟨rfl,t,d,c,j,m,rfl,e,hm⟩
  rw[PF,S3]at hm;cases hm
theorem BN{f:List Nat->Nat}{v:List Nat}:∀{l:List (List Nat)},ahW f v l<=L2.Nt.sm l f
 |[]=>P5 _
 |u::l=>by
  rw[bt];show(if u=v then 0 else f u+ahW f v l)<=_;have:=BN (f:=f) (v:=v) (l:=l);split<;>omega
theorem LS{rows:LI}{vs:List (List Nat)}(h:Nt1 K a rs cs W bd)(sh:Shp rs.length cs.length rows)(F:tp cs.length rows=vs.map nI)(u:Wk W 0 rs vs)(y:vs.length=cs.length):(md K a).1 [c9 a W bd rs cs,gridD rows] β=on (.ok (.tup [.int ((frW W 0 rs vs:Nat):Int),.int ((frW W 0 rs vs+pr (vs.map mu):Nat):Int)]),β):=by
 have c6:=h.c6;have f:∀v∈vs,v.sum<=40:=λv c=>by
  have:=(m3 h.ok u (by rw[y,Q6]) h.sm).1;rw[VW]at this;have q:v.sum∈cs:=by rw[←this];exact Qc.mpr ⟨v,c,rfl⟩
  have:=fZ q;have:=h.sm;have:=h.nr.2.2.1;omega
 have A:∀i,pr ((vs.take i).map mu)<2^1000:=λi=>cA (m:=160*6) (Qg (xW (m:=160) λx l=>by
  obtain⟨v,c,rfl⟩:=Qc.mp l;exact qp (f v (Tw c))) (TC (by decide) (by rw[PF,Rp];omega))) (by decide)
 unfold md
 dsimp only
 refine aL ?_;refine aF (d:=tN rs) (β1:=β) (aj (aa (fq rfl rfl rC) rfl) (yR rs)) ?_;refine aF (d:= .int 0) (β1:=β) rfl (aF (d:= .int 1) (β1:=β) rfl ?_);refine bu (ds:=cJ 0 (vs.map tN)) (β1:=β) (bx (aa (ak rfl (HJ h.toNt0 sh)) rfl) (by rw[F,P3];rfl)) (λi δ n=>β=n/\∃r,∃fs:Nat,∃o p,δ=[on (.sh (c9 a W bd rs cs)),on (.sh (gridD rows)),on (.sh (tN r)),on (.sh (.int (fs:Int))),on (.sh (.int ((pr ((vs.take i).map mu):Nat):Int))),o,p]/\r∈lvW W rs i/\Wk W i r (vs.drop i)/\fs+pr ((vs.take i).map mu)*frW W i r (vs.drop i)=frW W 0 rs vs) ⟨rfl,rs,0,PH,PH,rfl,QH.mpr rfl,u,by rw[V0,RG,zB,Yx,Q6];rfl⟩ ?_ ?_
 ·rintro i _ δ _ hd ⟨rfl,r,fs,o,p,rfl,j,b,e⟩
  obtain⟨_,l,rfl⟩:=ou hd;obtain⟨v,c,rfl⟩:=bE l;obtain⟨B,rfl⟩:=P9.mp c;rw[QT B]at e b;have C:(vs.drop (i+1)).length=cs.length-(i+1):=by rw[WB,y]
  have t:=OC b C;obtain⟨x,ha⟩:=On (β:=β) h (by omega) j t;have H:=(h.at (by omega) j).1;have le:=cE ((h.ok i r).subset b.1);have k:=f _ (QO B);have I:ahW (mB W cs i r) vs[i] (sT W cs i r)<=2^160:=Qg BN (Qg (j4 (g:=mB W cs i r) UK λ_ _=>P5 _) (by
   have:=JI h (by omega) j;rw[show cs.length-i=(cs.length-(i+1))+1 by omega]at this;exact this))
  have J:frW W i r (vs[i]::vs.drop (i+1))=ahW (mB W cs i r) vs[i] (sT W cs i r)+mu vs[i]*frW W (i+1) (less r vs[i]) (vs.drop (i+1)):=by
   unfold mB sT;rw[←C];rfl
  rw[J]at e;have pt:pr ((vs.take (i+1)).map mu)=pr ((vs.take i).map mu)*mu vs[i]:=by
   rw[Uj,c,QG,uV];show _*(mu vs[i]*1)=_;rw[Nat.mul_one]
  refine⟨_,rfl,fI rfl (x_2 rfl (x_2 (ak rfl ha) rfl pw) (k8 (A i) (cA I (by decide)))) rfl (fI rfl (ak rfl (m4 (.inr rfl) k)) (k8 (A i) (cA (lO k) (by decide))) (am (aF (ak rfl (nB le H.2.1)) (aY ⟨rfl,less r vs[i],fs+pr ((vs.take i).map mu)*ahW (mB W cs i r) vs[i] (sT W cs i r),on (.sh (.int (i:Int))),on (.sh (tN vs[i])),?_,h.nx j b.1,b.2,?_⟩))))⟩
  ·rw[pt,jW];rfl
  ·rw[pt,←e,Yw,T8,Nat.add_assoc]
 ·rintro δ _ ⟨rfl,r,fs,o,p,rfl,j,_,e⟩
  rw[jF,PF,S3,RP]at*;have z:frW W vs.length r []=0:=rfl;rw[z,Nat.mul_zero,XQ]at e;subst e;exact am (aO (aj (aa rfl (aa (x_2 rfl rfl rfl) rfl)) eA) ⟨rfl,rfl⟩)
theorem PC{l:List Nat}{c:Nat}(h:l.length<=100):lC (nL l) (.lst [.int (c:Int)])=on (nL (l++[c])):=by
 refine(oI (by rw[PF,PF,QU];omega)).trans ?_;show _=on (D.lst (Q2 D.int (Q2 _ (l++[c]))));rw[QG,QG];rfl
abbrev fiS(ps:List (Nat×Nat))(r:List Nat)(c:Nat)(f:D)(b d e g h:Option Sl):Ds:=[on (.sh (nL r)),on (.sh (.int (c:Int))),on (.sh (.lst (ps.map pN))),on (.sh f),b,d,e,g,h]
theorem OR{lo:Nat}{n i:Nat}{d:D}(h:((P4 n).map λi=>D.int ((lo+i:Nat):Int))[i]?=on d):i<n/\d= .int ((lo+i:Nat):Int):=by
 obtain⟨x,b,rfl⟩:=bE h;have c:=(P9.mp b).1;rw[Qr]at c;rw[Rf c]at b;cases b;exact⟨c,rfl⟩
theorem jY{α:Type}{l:List α}{i:Nat}{x:α}(h:l[i]?=on x):l.take (i+1)=l.take i++[x]:=by rw[Uj,h];rfl
theorem K2{ps:List (Nat×Nat)}{r:List Nat}{c:Nat}(J:Nrw r)(A:ps.length=r.length)(L:∀p∈ps,p.1<=40/\p.2<=40):(rn K a).1 [nL r,.int (c:Int),.lst (ps.map pN)] β=on (.ok (.lst ((vB ps r c).map nL)),β):=by
 obtain⟨_,T,hs,N⟩:=J;have n:∀k,k<=r.length->(gro ps r k).length<=500:=λk B=>Qg (w4 k B) (Qg (tX r k) N);unfold rn
 dsimp only
 refine aL ?_;refine aF (d:= .lst ((gro ps r 0).map nL)) (β1:=β) (aj (aa (aj rfl DS) rfl) mv) ?_;refine bu (ds:=(r.zip ps).map λq=> .tup [.int (q.1:Int),pN q.2]) (β1:=β) ?_ (λk δ g=>β=g/\∃C F o m b,δ=fiS ps r c (.lst ((gro ps r k).map nL)) C F o m b) ⟨rfl,PH,PH,PH,PH,PH,rfl⟩ ?_ ?_
 ·rw[←iO (λx:Nat=>D.int (x:Int)) pN]
  refine pL (x:=nL r) (y:= .lst (ps.map pN)) rfl rfl ?_ rfl;show on _=on _;rw[P3];rfl
 ·rintro k d δ _ hd ⟨rfl,C,F,o,m,b,rfl⟩
  obtain⟨q,I,rfl⟩:=bE hd;have B:k<r.length:=by
   have:=(P9.mp I).1;rw[T7]at this;omega
  have t:k<ps.length:=by omega
  obtain rfl:q=(r[k],ps[k]):=by
   have:=(P9.mp I).2;rw[List.getElem_zip]at this;exact this.symm
  have b40:=L _ (QO t);have O:=fZ (QO B);refine⟨fiS ps r c (.lst ((gro ps r k).map nL)) (on (.sh (.int (r[k]:Int)))) (on (.sh (pN ps[k]))) o m b,rfl,?_⟩;refine m5 (ds:=[]) (β1:=β) rfl (Rr _) ?_;have step:∀u:List Nat,((P4 (Tq ps[k].2 r[k]+1-ps[k].1)).map λi=>u++[ps[k].1+i]).length<=41:=λu=>by rw[PF,Qr];omega
  refine bu (ds:=(gro ps r k).map nL) (β1:=β) rfl (λi δ g=>β=g/\∃m b,δ=fiS ps r c (.lst ((gro ps r k).map nL)) (on (.sh (.int (r[k]:Int)))) (on (.sh (pN ps[k]))) (on (.own ((((gro ps r k).take i).flatMap λu=>(P4 (Tq ps[k].2 r[k]+1-ps[k].1)).map λj=>u++[ps[k].1+j]).map nL))) m b) ⟨rfl,m,b,rfl⟩ ?_ ?_
  ·rintro i d δ _ hd ⟨rfl,m,b,rfl⟩
   obtain⟨u,H,rfl⟩:=bE hd;have U:=AS k u (Ql H);have X:=(P9.mp H).1;have Y:=n k (by omega);have Z:(((gro ps r k).take i).flatMap λu=>(P4 (Tq ps[k].2 r[k]+1-ps[k].1)).map λj=>u++[ps[k].1+j]).length<=500*41:=Qg (iK λu _=>step u) (UG _ (by rw[Rp];omega));refine⟨_,rfl,am (bu (ds:=(P4 (Tq ps[k].2 r[k]+1-ps[k].1)).map λj=>D.int ((ps[k].1+j:Nat):Int)) (β1:=β) (bx (as:=[.int (ps[k].1:Int),.int ((Tq ps[k].2 r[k]:Nat)+1)]) (aa (x_2 rfl rfl yg) (aa (x_2 (x:= .int ((Tq ps[k].2 r[k]:Nat):Int)) (aj (aa (x_2 rfl rfl pw) (aa rfl rfl)) (x4.trans ?_)) rfl rfl) rfl)) ((L7 (by omega) (by omega) (by omega)).trans ?_)) (λj δ g=>β=g/\∃b,δ=fiS ps r c (.lst ((gro ps r k).map nL)) (on (.sh (.int (r[k]:Int)))) (on (.sh (pN ps[k]))) (on (.own ((((gro ps r k).take i).flatMap λu=>(P4 (Tq ps[k].2 r[k]+1-ps[k].1)).map λj=>u++[ps[k].1+j]).map nL++((P4 (Tq ps[k].2 r[k]+1-ps[k].1)).take j).map λj=>nL (u++[ps[k].1+j])))) (on (.sh (nL u))) b) ⟨rfl,b,by rw[V0,RG,QC];rfl⟩ ?_ ?_)⟩
   ·rw[show Tq (ps[k].2:Int) (r[k]:Int)=((Tq ps[k].2 r[k]:Nat):Int) by omega]
   ·rw[show((Tq ps[k].2 r[k]:Nat)+1-(ps[k].1:Int):Int).toNat=Tq ps[k].2 r[k]+1-ps[k].1 by omega]
   ·rintro j d δ _ hd ⟨rfl,b,rfl⟩
    obtain⟨Q,rfl⟩:=OR hd;have e:(P4 (Tq ps[k].2 r[k]+1-ps[k].1))[j]?=on j:=Rf Q;refine⟨_,rfl,am (m7 (d:=nL (u++[ps[k].1+j])) rfl (aa (x_2 rfl (aj rfl mv) (PC (by omega))) rfl) (Qv (show _<50000 by rw[Qh,PF,PF,Rp,Qr];omega) (by decide)) (aY ⟨rfl,on (.sh (.int ((ps[k].1+j:Nat):Int))),?_⟩))⟩;rw[jY e,QG];show[_,_,_,_,_,_,on (Sl.own (_++_++[_])),_,_]=[_,_,_,_,_,_,on (Sl.own (_++(_++[_]))),_,_];rw[Q9]
   ·rintro δ _ ⟨rfl,b,rfl⟩
    rw[PF,Qr];refine aY ⟨rfl,on (.sh (nL u)),b,?_⟩;rw[jY H,R4,QG,QZ,Vv,QC,P3,RA (l:=P4 (Tq ps[k].2 r[k]+1-ps[k].1)) (by rw[Qr];exact P5 _)];rfl
  ·rintro δ _ ⟨rfl,m,b,rfl⟩
   rw[PF,RP];refine HX (am (aF (d:= .lst ((gro ps r (k+1)).map nL)) (β1:=β) ?_ (aY ⟨rfl,_,_,_,_,_,rfl⟩)));have R:gro ps r (k+1)=(gro ps r k).flatMap λu=>(P4 (Tq ps[k].2 r[k]+1-ps[k].1)).map λi=>u++[ps[k].1+i]:=by
    show XI _ _=_;rw[eC B,eC t]
   rw[R];rfl
 ·rintro δ _ ⟨rfl,C,F,o,m,b,rfl⟩
  rw[PF,T7,A,XS,w5 A];have h:=je (nv:=1) (caps:=[1]) (it:=cu (ah 3)) (tg:=tgC 0) (tt:=fB (f2 (gn) (aB fJ (ae (ah 0) (ay))) (ah 1))) (f:=ah 0) (δ:=vwA (fiS ps r c (.lst ((box ps r).map nL)) C F o m b)) (β:=β) (box ps r) nL nL (λv=>decide (v.sum=c)) rfl (λv _=>⟨[on (nL v),on (.int (c:Int))],rfl,x_B (x_2 (aj rfl (kx v)) rfl (eq_int.trans (by rw[decide_eq_decide.mpr (show((v.sum:Nat):Int)=(c:Int)↔v.sum=c by omega)]))),λ_=>rfl⟩) (aZ (by rw[←w5 A];have:=n r.length (P5 _);omega));refine am (aO h ⟨rfl,?_⟩);rw[BJ A]
theorem DV{r v:List Nat}(h:LeN v r)(b:r.length<=4):(pe K a).1 [nL r,nL v] β=on (.ok (nL (less r v)),β):=by
 unfold pe
 dsimp only
 refine aL (am (aO ?_ ⟨rfl,rfl⟩));unfold nL;rw[←vm h];refine bh (r.zip v) (λp=>D.tup [.int (p.1:Int),.int (p.2:Int)]) _ ?_ (λp _=>⟨[on (.int (p.1:Int)),on (.int (p.2:Int))],rfl,rfl⟩) (aZ (by rw[T7];omega));rw[←iO (λx:Nat=>D.int (x:Int)) (λx:Nat=>D.int (x:Int))];refine pL (x:=nL r) (y:=nL v) rfl rfl ?_ ?_
 ·show on _=on _
  rw[P3];rfl
 ·show on _=on _
  rw[P3];rfl
theorem Lo{r c k n:Nat}{B:List (List (Nat×Nat))}(hB:BOk r c B)(g:r<=4)(i:k<c){δ:Dn}(d:δ.getD 2 PH=on (bDN B))(e:cSt 1 [n] δ=[PH,on (.int (k:Int))]):cw 1 [n] (cu (ah 2)) (tgC 0) (λ_=>M.ret PP) (cEm (f2 ixD (ah 0) (ah 1))) δ β=on (.ok (.lst ((mK B k).map pN)),β):=by
 have h:=bh (nv:=1) (caps:=[n]) (it:=cu (ah 2)) (tg:=tgC 0) (f:=f2 ixD (ah 0) (ah 1)) (δ:=δ) (β:=β) B (λrow=>D.lst (row.map pN)) (λrow=>pN (row.getD k (0,0))) (bP (xx d) (by
  show on _=on _;rw[P3,P3];exact Re on (Qx λrow _=>Re D.lst (by show Q2 pD (Q2 _ row)=_;rw[P3];rfl)))) (λrow b=>⟨[on (D.lst (row.map pN)),on (.int (k:Int))],by rw[e];rfl,x_2 rfl rfl (bK (by
   have l:=hB.1.2 row b;rw[PV,eC (by omega),PM (by omega)];rfl))⟩) (aZ (by rw[hB.1.1];omega))
 refine h.trans ?_;unfold mK;rw[P3];rfl
theorem MK{rs:List Nat}(h:rs.sum<=8):mu rs<=40320:=by
 have b:mu rs<=facN rs.sum:=by
  rw[←i6];exact VB _ (rA rs)
 exact Qg b (Qg (vL h) (by decide))
noncomputable abbrev eQ(q:List (List Nat)×List Nat):D:= .tup [.lst (q.1.map nL),nL q.2]
abbrev liS(rs cs:List Nat)(B:List (List (Nat×Nat)))(f:D)(b c d e g h:Option Sl):Ds:=[on (.sh (nL rs)),on (.sh (nL cs)),on (.sh (bDN B)),on (.sh f),b,c,d,e,g,h]
abbrev nxQ(W:Wy)(k:Nat)(q:List (List Nat)×List Nat):List (List (List Nat)×List Nat):=(W k q.2).map λv=>(q.1++[v],less q.2 v)
theorem yc{rs cs:List Nat}{B:List (List (Nat×Nat))}(h:Nt0 rs cs)(F:rs.sum<=8)(hB:BOk rs.length cs.length B):(jO K a).1 [nL rs,nL cs,bDN B] β=on (.ok (.lst ((lst (wB B cs) rs cs.length).map λq=> .lst (q.1.map nL))),β):=by
 have c6:=h.c6;obtain⟨Q,H,R,T⟩:=h.nr;have o:=xz B cs;have l:∀k,k<=cs.length->(lst (wB B cs) rs k).length<=40320:=λk m=>Qg (wR o h.sm m) (MK F);unfold jO
 dsimp only
 refine aL ?_;refine aF (d:= .lst ((lst (wB B cs) rs 0).map eQ)) (β1:=β) (aj (aa (aj (aa (aj rfl DS) (aa (aj rfl rfl) rfl)) eA) rfl) mv) ?_;refine bu (ds:=cJ 0 ((nI cs).map D.int)) (β1:=β) (bx rfl rfl) (λk δ e=>β=e/\∃p r t f g b,δ=liS rs cs B (.lst ((lst (wB B cs) rs k).map eQ)) p r t f g b) ⟨rfl,PH,PH,PH,PH,PH,PH,rfl⟩ ?_ ?_
 ·rintro k d δ _ hd ⟨rfl,p,r,t,f,g,b,rfl⟩
  obtain⟨x,I,rfl⟩:=ou hd;obtain⟨n,hn,rfl⟩:=qo I;have m:=(P9.mp hn).1;have J:cs.getD k 0=n:=by rw[PR,hn];rfl
  obtain⟨cl,L⟩:=hB.col m;refine⟨_,rfl,m5 (ds:=[]) (β1:=β) rfl (Rr _) ?_⟩;have A:∀i,(((lst (wB B cs) rs k).take i).flatMap (nxQ (wB B cs) k)).length<=40320:=λi=>by
   refine Qg ?_ (l (k+1) m);show _<=((lst (wB B cs) rs k).flatMap (nxQ (wB B cs) k)).length
   conv=>rhs;rw[←SJ i (lst (wB B cs) rs k),R4,Qh]
   exact S7 _ _
  refine bu (ds:=(lst (wB B cs) rs k).map eQ) (β1:=β) rfl (λi δ e=>β=e/\∃f g b,δ=liS rs cs B (.lst ((lst (wB B cs) rs k).map eQ)) (on (.sh (.int (k:Int)))) (on (.sh (.int (n:Int)))) (on (.own ((((lst (wB B cs) rs k).take i).flatMap (nxQ (wB B cs) k)).map eQ))) f g b) ⟨rfl,f,g,b,rfl⟩ ?_ ?_
  ·rintro i d δ _ hd ⟨rfl,f,g,b,rfl⟩
   obtain⟨q,u,rfl⟩:=bE hd;have hm:=Ql u;obtain⟨q1,q2,q3⟩:=vi o h.sm k (by omega) q hm;have N:=q1.len;have sq:=q1.sum;have U:=q1.pr;have O:Nrw q.2:=⟨by omega,by omega,by omega,by omega⟩;have X:(wB B cs k q.2).length<=40320:=by
    have:=A (i+1);rw[jY u,R4,QZ,Vv,QC,Qh,PF]at this;omega
   refine⟨_,rfl,am (bu (ds:=(wB B cs k q.2).map nL) (β1:=β) (bP (ak (aa rfl (aa rfl (aa (Lo hB H m rfl rfl) rfl))) (K2 (c:=n) O (by rw[cl,N]) L)) (by unfold wB;rw[J];rfl)) (λj δ e=>β=e/\∃b,δ=liS rs cs B (.lst ((lst (wB B cs) rs k).map eQ)) (on (.sh (.int (k:Int)))) (on (.sh (.int (n:Int)))) (on (.own ((((lst (wB B cs) rs k).take i).flatMap (nxQ (wB B cs) k)).map eQ++((wB B cs k q.2).take j).map λv=>eQ (q.1++[v],less q.2 v)))) (on (.sh (.lst (q.1.map nL)))) (on (.sh (nL q.2))) b) ⟨rfl,b,by rw[V0,RG,QC];rfl⟩ ?_ ?_)⟩
   ·rintro j d δ _ hd ⟨rfl,b,rfl⟩
    obtain⟨v,C,rfl⟩:=bE hd;have y:=(o k q.2).subset (Ql C);have Y:=A i;refine⟨_,rfl,am (m7 (d:=eQ (q.1++[v],less q.2 v)) rfl (aa (aj (aa (x_2 rfl (aj rfl mv) ((oI (by rw[PF,QU];omega)).trans ?_)) (aa (ak rfl (DV (cE y) (by omega))) rfl)) eA) rfl) (Qv (show _<100000 by rw[Qh,PF,PF,Rp];omega) (by decide)) (aY ⟨rfl,on (.sh (nL v)),?_⟩))⟩
    ·rw[QG];rfl
    ·rw[jY C,QG]
     show[_,_,_,_,_,_,on (Sl.own (_++_++[_])),_,_,_]=[_,_,_,_,_,_,on (Sl.own (_++(_++[_]))),_,_,_];rw[Q9]
   ·rintro δ _ ⟨rfl,b,rfl⟩
    rw[PF,RP];refine aY ⟨rfl,on (.sh (.lst (q.1.map nL))),on (.sh (nL q.2)),b,?_⟩;rw[jY u,R4,QG,QZ,Vv,QC,P3];rfl
  ·rintro δ _ ⟨rfl,f,g,b,rfl⟩
   rw[PF,RP];exact HX (am (aF (d:= .lst ((lst (wB B cs) rs (k+1)).map eQ)) (β1:=β) rfl (aY ⟨rfl,_,_,_,_,_,_,rfl⟩)))
 ·rintro δ _ ⟨rfl,p,r,t,f,g,b,rfl⟩
  rw[jF,PF,PF];exact am (aO (bh (lst (wB B cs) rs cs.length) eQ (λq=> .lst (q.1.map nL)) rfl (λq _=>⟨[on (.lst (q.1.map nL)),on (nL q.2)],rfl,rfl⟩) (Qg (l _ (P5 _)) (by decide))) ⟨rfl,rfl⟩)
theorem sZ{rows:List (List D)}(h:rows.length<=1000):(kU K a).1 [lG rows] β=on (.ok (lG rows),β):=
 aL (am (aO (bh rows D.lst D.lst rfl (λx _=>⟨_,rfl,rfl⟩) (aZ h)) ⟨rfl,rfl⟩))
theorem z9{r c:Nat}(d:r<=1000)(e:c<=1000):mt K a [.int (r:Int),.int (c:Int)] β=on (.ok (gP (oh r c)),β):=by
 have b:∀x:Nat,gX 1 [] (bV gz (ae (ah 1) (ay))) (tgC 0) (λ_=>M.ret PP) (cEm (aB cI (ae (fC (.int 0)) (ae (fC (.int 40)) (ay))))) [on (.int (0+(x:Int))),on (.int (c:Int))] β=on (.ok ((Qm c ((0:Int),(40:Int))).map pD),β):=λx=>by
  have h:=BC (nv:=1) (caps:=[]) (it:=bV gz (ae (ah 1) (ay))) (tg:=tgC 0) (f:=aB cI (ae (fC (.int 0)) (ae (fC (.int 40)) (ay)))) (δ:=[on (.int (0+(x:Int))),on (.int (c:Int))]) (β:=β) (P4 c) (λi=>D.int (0+(i:Int))) (λ_=>pD (0,40))
   (bx rfl (rg1 (by omega) (by omega))) (λx _=>⟨_,rfl,aj rfl eA⟩) (aZ (by rw[Qr];omega))
  rw[jB]at h;rw[Tc];exact h
 have h:=tj (nv:=1) (caps:=[1]) (it:=bV gz (ae (ah 0) (ay))) (tg:=tgC 0) (f:=gX 1 [] (bV gz (ae (ah 1) (ay))) (tgC 0) (λ_=>M.ret PP) (cEm (aB cI (ae (fC (.int 0)) (ae (fC (.int 40)) (ay)))))) (δ:=[on (.int (r:Int)),on (.int (c:Int))]) (β:=β) (P4 r) (λi=>D.int (0+(i:Int))) (λ_=>(Qm c ((0:Int),(40:Int))).map pD)
  (bx rfl (rg1 (by omega) (by omega))) (λx _=>⟨_,rfl,b x⟩) (aZ (by rw[Qr];omega))
 rw[jB]at h;refine Lr (am (JR h ⟨rfl,?_⟩));show gP (oh r c)=_;show Q2 _ _=_;rw[Tc]
abbrev bdS(rows:LI)(b:LP)(c d e f g:Option Sl):Ds:=[on (.sh .bag),on (.sh (gridD rows)),on (.grd (gP b)),c,d,e,f,g]
def BdI(r c:Nat)(rows:LI)(d e:Option Sl)(δ:Ds)(β:Bg):Prop:=β.ok/\∃(b:LP) (f g h:Option Sl),δ=bdS rows b d e f g h/\Bnd r c b/\Kp rows b
theorem yd{r c:Nat}{rows:LI}(t:Tab r c rows)(ok:β.ok):∃(b:LP) (f:Bg),(iz K a).1 [.bag,gridD rows] β=on (.ok (dD b),f)/\Bnd r c b/\Kp rows b/\f.ok:=by
 suffices h:∃g f,(iz K a).1 [.bag,gridD rows] β=on (g,f)/\(∃(b:LP),g= .ok (dD b)/\Bnd r c b/\Kp rows b/\f.ok) by
  obtain⟨g,f,e,b,rfl,h1,h2⟩:=h;exact⟨b,f,e,h1,h2⟩
 have r1:=t.r1;have c1:=t.c1;have c0:=t.c0;have r0:=t.r0;obtain⟨F,H,I⟩:=t.shp.at (i:=0) (by omega);have hr0:(gI rows)[0]?=on (F.map D.int):=by rw[PV,H];rfl
 unfold iz
 dsimp only
 refine mS ?_;refine HW (β1:=β) (JO (as:=[.int (r:Int),.int (c:Int)]) (β1:=β) (aa (aj rfl (AA (by rw[PF,t.shp.1]))) (aa (aj (aa (x:= .lst (F.map D.int)) (x_2 rfl rfl (ug hr0)) rfl) (cT (by rw[PF,I]))) rfl)) (z9 (by omega) (by omega))) (ME _) ?_;obtain⟨w0,β1,p1,a0,a1,R⟩:=bJ ok (lot:=3) (by decide) (by decide);refine lP (c:=decide (w0=0)) (β1:=β1) (x_B (x_2 (ak rfl p1) rfl eq_int)) ?_;by_cases hw:w0=0
 ·rw[P6 (by simpa using hw)]
  exact aO rfl ⟨_,rfl,Bnd.free r c,Kp.free t,R⟩
 rw[P0 (by simpa using hw)];refine bM ?_;refine bu (ds:=cJ 0 ((gI rows).map D.lst)) (β1:=β1) rfl (λ_ δ β=>∃s3 s4,BdI r c rows s3 s4 δ β) ⟨PH,PH,R,oh r c,PH,PH,PH,rfl,Bnd.free r c,Kp.free t⟩ ?_ ?_
 ·rintro i d δ β2 hd ⟨s3,s4,J,b,Y,Z,T,rfl,o,B⟩
  obtain⟨x,hx,rfl⟩:=ou hd;obtain⟨y,hy,rfl⟩:=bE hx;obtain⟨row,m,rfl⟩:=bE hy;have hi:i<r:=by rw[←t.shp.1];exact(P9.mp m).1
  have U:row.length=c:=t.shp.2 row (Ql m);refine⟨bdS rows b (on (.sh (.int i))) (on (.sh (.lst (row.map D.int)))) Y Z T,rfl,am ?_⟩;refine bu (ds:=cJ 0 (row.map D.int)) (β1:=β2) rfl (λ_=>BdI r c rows (on (.sh (.int i))) (on (.sh (.lst (row.map D.int))))) ⟨J,b,Y,Z,T,rfl,o,B⟩ ?_ (λδ β h=>aY ⟨_,_,h⟩);rintro j d δ β3 hd ⟨ok3,b,Y,Z,T,rfl,o,B⟩;obtain⟨x,hx,rfl⟩:=ou hd;obtain⟨n,hn,rfl⟩:=bE hx;have hj:j<c:=by rw[←U];exact(P9.mp hn).1
  have hn40:=t.le40 row (Ql m) n (Ql hn);obtain⟨q,l,L⟩:=o.shp.at hi;refine⟨bdS rows b (on (.sh (.int i))) (on (.sh (.lst (row.map D.int)))) (on (.sh (.int j))) (on (.sh (.int n))) T,rfl,?_⟩;obtain⟨w,A,p4,w0,w1,N⟩:=bJ ok3 (lot:=4) (by decide) (by decide);refine aF (d:= .int w) (β1:=A) (ak rfl p4) ?_
  have put:∀(p:Int×Int) (δ:Ds),PairOk p->p.1<=n->n<=p.2->∀{β5:Bg} {fv:FD} {h:G} {Q:Out->Bg->Prop},fv (vwA (bdS rows b (on (.sh (.int i))) (on (.sh (.lst (row.map D.int)))) (on (.sh (.int j))) (on (.sh (.int n))) (on (.sh (.int w))))) A=on (.ok (pD p),β5)->
    (∀b,Bnd r c b->Kp rows b->Gw h (bdS rows b (on (.sh (.int i))) (on (.sh (.lst (row.map D.int)))) (on (.sh (.int j))) (on (.sh (.int n))) (on (.sh (.int w)))) β5 Q)->
    Gw (aW (qE 2 (ah 3) (ah 5) fv) h) (bdS rows b (on (.sh (.int i))) (on (.sh (.lst (row.map D.int)))) (on (.sh (.int j))) (on (.sh (.int n))) (on (.sh (.int w)))) A Q:=λp δ hp h1 h2 β5 fv h Q e k=>by
   refine HV (d:=pD p) (rows:=gP b) (ds:=q.map pD) (ka:=i) (kb:=j) (ja:=i) (jb:=j) e rfl rfl rfl ?_ ?_ ?_ rfl ?_
   ·rw[PF,o.shp.1];exact mC (by omega) (by omega)
   ·rw[PV,l];rfl
   ·rw[PF,L];exact mC (by omega) (by omega)
   ·have X:(gP b).set i ((q.map pD).set j (pD p))=gP (b.set i (q.set j p)):=by
     show _=Q2 _ _;rw[UR,UR]
    rw[X];exact k _ (o.set l hp) (B.set l (mT m hn) h1 h2)
  refine lP (c:=decide (w=0)) (β1:=A) (x_B (x_2 rfl rfl eq_int)) ?_;by_cases q0:w=0
  ·rw[P6 (by simpa using q0)]
   obtain⟨u,β5,p5,u0,u1,ok5⟩:=bJ N (lot:=n+1) (by omega) (by omega);obtain⟨v,C,p6,v0,v1,O⟩:=bJ ok5 (lot:=3) (by decide) (by decide);refine put (n-u,Tq 40 (n+v)) [] ⟨by show 0<=n-u;omega,by show n-u<=Tq 40 (n+v);omega,by show Tq 40 (n+v)<=40;omega⟩ (by show n-u<=n;omega) (by show n<=Tq 40 (n+v);omega) (β5:=C) ?_ λb o B=>?_
   ·exact aj (aa (x_2 rfl (ak (aa rfl (aa (x_2 rfl rfl rfl) rfl)) p5) rfl) (aa (aj (aa rfl (aa (x_2 rfl (ak rfl p6) rfl) rfl)) x4) rfl)) eA
   ·refine am (jk (β1:=C) ?_ (bM (aY ⟨O,b,_,_,_,rfl,o,B⟩)))
    rw[show(PU:Bool)=decide (w=1) by rw[q0];rfl];exact x_B (x_2 rfl rfl eq_int)
  ·rw[P0 (by simpa using q0)]
   refine bM (am (lP (c:=decide (w=1)) (β1:=A) (x_B (x_2 rfl rfl eq_int)) ?_));by_cases q1:w=1
   ·rw[P6 (by simpa using q1)]
    obtain⟨v,C,p6,v0,v1,O⟩:=bJ N (lot:=3) (by decide) (by decide);refine put (0,Y6 n v) [] ⟨by show(0:Int)<=0;omega,by show 0<=Y6 n v;omega,by show Y6 n v<=40;omega⟩ (by show 0<=n;omega) (by show n<=Y6 n v;omega) (β5:=C) ?_ λb o B=>aY ⟨O,b,_,_,_,rfl,o,B⟩;exact aj (aa rfl (aa (aj (aa rfl (aa (ak rfl p6) rfl)) MM) rfl)) eA
   ·rw[P0 (by simpa using q1)]
    exact bM (aY ⟨N,b,_,_,_,rfl,o,B⟩)
 ·rintro δ β2 ⟨s3,s4,J,b,Y,Z,T,rfl,o,B⟩
  exact am (aO rfl ⟨b,rfl,o,B,J⟩)
theorem pP:∀{xs:List Int},(∀x∈xs,0<=x)->∃l:List Nat,xs=nI l
 |[],_=>⟨[],rfl⟩
 |x::xs,h=>by
  obtain⟨l,e⟩:=pP λy b=>h y (PN _ b);have:=h x PZ;exact⟨x.toNat::l,by rw[e];show _=((x.toNat:Nat):Int)::_;rw[Int.toNat_of_nonneg this]⟩
abbrev gdS(r c t:Nat)(rows:LI)(b d e:Option Sl):Ds:=[on (.sh .bag),on (.sh (.int (r:Int))),on (.sh (.int (c:Int))),on (.sh (.int (t:Int))),on (.grd (gI rows)),b,d,e]
theorem n6{r c t:Nat}(ok:β.ok)(r0:1<=r)(r1:r<=4)(c1:1<=c)(c6:c<=6)(F:t<=40):∃(rows:LI) (j:Bg),(kT K a).1 [.bag,.int (r:Int),.int (c:Int),.int (t:Int)] β=on (.ok (gridD rows),j)/\(Tab r c rows/\tot rows=(t:Int))/\j.ok:=by
 suffices h:∃g j,(kT K a).1 [.bag,.int (r:Int),.int (c:Int),.int (t:Int)] β=on (g,j)/\(∃(rows:LI),g= .ok (gridD rows)/\(Tab r c rows/\tot rows=(t:Int))/\j.ok) by
  obtain⟨g,j,e,rows,rfl,H,I⟩:=h;exact⟨rows,j,e,H,I⟩
 unfold kT
 dsimp only
 refine mS ?_;refine HW (rows:=(P4 r).map λ_=>Qm c (D.int 0)) (β1:=β) (tj (P4 r) (λi=>D.int (0+(i:Int))) _ (bx (ds:=bc 0 r) rfl (rg1 (by omega) (by omega))) (λx _=>⟨_,rfl,O1 (x:= .int 0) (c:=c) rfl rfl (by omega)⟩) (aZ (by rw[Qr];omega))) ?_ ?_
 ·rw[TH]
  intro x k;obtain⟨_,_,rfl⟩:=Qc.mp k;rw[←Tc (f:=D.int)];exact sN _
 have J:(P4 r).map (λ_=>Qm c (D.int 0))=gI (Qm r (Qm c 0)):=by
  show _=Q2 _ _;rw[Tc,List.map_const',Tc,Qr]
 rw[J];refine bu (ds:=bc 0 t) (β1:=β) (bx rfl (rg1 (by omega) (by omega))) (λi δ β=>β.ok/\∃rows p q y,δ=gdS r c t rows p q y/\Shp r c rows/\(∀row∈rows,∀x∈row,0<=x)/\tot rows=(i:Int)) ⟨ok,Qm r (Qm c 0),PH,PH,PH,rfl,⟨by simp,λrow h=>?_⟩,λrow h x k=>?_,?_⟩ ?_ ?_
 ·rw[(Sc.mp h).2];simp
 ·rw[(Sc.mp h).2]at k
  rw[(Sc.mp k).2];exact Ys _
 ·unfold tot
  rw[Tc];have z:∀n:Nat,(Qm n (0:Int)).sum=0:=λn=>by
   induction n with
   |zero=>rfl
   |succ n ih=>rw[QL,Qw,ih];rfl
  rw[z,z];rfl
 ·rintro i d δ j hd ⟨m,rows,p,q,y,rfl,sh,nn,F⟩
  obtain⟨v,β1,L,O,Q,A⟩:=bJ m (lot:=(r:Int)) (by omega) (by omega);obtain⟨u,β2,N,R,T,B⟩:=bJ A (lot:=(c:Int)) (by omega) (by omega);obtain⟨v,rfl⟩:∃n:Nat,v=(n:Int):=⟨v.toNat,by omega⟩;obtain⟨u,rfl⟩:∃n:Nat,u=(n:Int):=⟨u.toNat,by omega⟩;obtain⟨row,b,o⟩:=sh.at (i:=v) (by omega);obtain⟨x,k⟩:=JJ (l:=row) (i:=u) (by omega);refine⟨_,rfl,aF (ak rfl L) (aF (ak rfl N) (am (HV (d:= .int (x+1)) (β1:=β2) (β2:=β2) (β3:=β2) (rows:=gI rows) (ds:=row.map D.int) (ka:=v) (kb:=u) (ja:=v) (jb:=u) (x_2 (x_2 (x_2 rfl rfl (ug (row:=row.map D.int) ?_)) rfl (bK (d:= .int x) ?_)) rfl rfl) rfl rfl rfl ?_ ?_ ?_ rfl (aY ⟨B,rows.set v (row.set u (x+1)),on (.sh d),on (.sh (.int (v:Int))),on (.sh (.int (u:Int))),?_,sh.set b,MF nn b ?_,?_⟩))))⟩
  ·rw[PV,b];rfl
  ·rw[PV,k];rfl
  ·rw[PF,sh.1];exact mC (by omega) (by omega)
  ·rw[PV,b];rfl
  ·rw[PF,o];exact mC (by omega) (by omega)
  ·show[_,_,_,_,on (Sl.grd ((gI rows).set v ((row.map D.int).set u (.int (x+1))))),_,_,_]=_
   rw[show(gI rows).set v ((row.map D.int).set u (.int (x+1)))=gI (rows.set v (row.set u (x+1))) by show _=Q2 _ _;rw[UR,UR]]
  ·have:=nn row (Ql b) x (Ql k)
   omega
  ·have:=JY (v:=x+1) b k
   omega
 ·rintro δ j ⟨m,rows,p,q,y,rfl,sh,nn,C⟩
  rw[qb]at C;exact am (aO rfl ⟨rows,rfl,⟨⟨sh,nn,by omega,r0,r1,c1,c6⟩,C⟩,m⟩)
def Sml(r c:Nat)(rows:LI):Prop:=Tab r c rows/\tot rows<=7
theorem CL(ok:β.ok):∃(rows:LI) (r c:Nat) (b:Bg),(jy K a).1 [.bag] β=on (.ok (gridD rows),b)/\Sml r c rows/\b.ok:=by
 suffices h:∃g b,(jy K a).1 [.bag] β=on (g,b)/\(∃(rows:LI) (r c:Nat),g= .ok (gridD rows)/\Sml r c rows/\b.ok) by
  obtain⟨g,b,e,rows,r,c,rfl,u,v⟩:=h;exact⟨rows,r,c,b,e,u,v⟩
 unfold jy
 dsimp only
 refine mS ?_;have p:∀(k n:Nat),lC (.int (k:Int)) (.int (n:Int))=on (.int ((k+n:Nat):Int)):=λk n=>by show on (D.int _)=_;rw[VQ]
 obtain⟨y,β1,A,C,a1,j⟩:=bJ ok (lot:=8) (by decide) (by decide);refine aF (ak rfl A) ?_;refine lP (β1:=β1) (x_B (x_2 rfl rfl eq_int)) ?_;by_cases q1:y=0
 ·rw[P6 (Qn q1)]
  obtain⟨t,β2,l,b0,b1,d⟩:=bJ j (lot:=5) (by decide) (by decide);obtain⟨t,rfl⟩:∃n:Nat,t=(n:Int):=⟨t.toNat,by omega⟩;obtain⟨rows,β3,e,g,f⟩:=n6 (K:=K) (a:=a) (r:=4) (c:=6) (t:=t) d (by decide) (by decide) (by decide) (by decide) (by omega);exact aO (ak (aa rfl (aa rfl (aa rfl (aa (ak rfl l) rfl)))) e) ⟨rows,4,6,rfl,⟨g.1,by omega⟩,f⟩
 rw[P0 (by simp[q1])];refine bM ?_;refine lP (β1:=β1) (x_B (x_2 rfl rfl eq_int)) ?_;by_cases q2:y=1
 ·rw[P6 (Qn q2)]
  obtain⟨c,β2,l,b0,b1,d⟩:=bJ j (lot:=6) (by decide) (by decide);obtain⟨t,β3,m,c0,c1,f⟩:=bJ d (lot:=8) (by decide) (by decide);obtain⟨c,rfl⟩:∃n:Nat,c=(n:Int):=⟨c.toNat,by omega⟩;obtain⟨t,rfl⟩:∃n:Nat,t=(n:Int):=⟨t.toNat,by omega⟩;obtain⟨rows,o,e,g,i⟩:=n6 (K:=K) (a:=a) (r:=1) (c:=1+c) (t:=t) f (by decide) (by decide) (by omega) (by omega) (by omega);exact aO (ak (aa rfl (aa rfl (aa (x_2 rfl (ak rfl l) (p 1 c)) (aa (ak rfl m) rfl)))) e) ⟨rows,1,1+c,rfl,⟨g.1,by omega⟩,i⟩
 rw[P0 (by simp[q2])];refine bM ?_;refine lP (β1:=β1) (x_B (x_2 rfl rfl eq_int)) ?_;by_cases q3:y=2
 ·rw[P6 (Qn q3)]
  obtain⟨c,β2,l,b0,b1,d⟩:=bJ j (lot:=4) (by decide) (by decide);obtain⟨t,β3,m,c0,c1,f⟩:=bJ d (lot:=8) (by decide) (by decide);obtain⟨c,rfl⟩:∃n:Nat,c=(n:Int):=⟨c.toNat,by omega⟩;obtain⟨t,rfl⟩:∃n:Nat,t=(n:Int):=⟨t.toNat,by omega⟩;obtain⟨rows,o,e,g,i⟩:=n6 (K:=K) (a:=a) (r:=1+c) (c:=1) (t:=t) f (by omega) (by omega) (by decide) (by decide) (by omega);exact aO (ak (aa rfl (aa (x_2 rfl (ak rfl l) (p 1 c)) (aa rfl (aa (ak rfl m) rfl)))) e) ⟨rows,1+c,1,rfl,⟨g.1,by omega⟩,i⟩
 rw[P0 (by simp[q3])];refine bM ?_;obtain⟨r,β2,l,b0,b1,d⟩:=bJ j (lot:=2) (by decide) (by decide);obtain⟨c,β3,m,c0,c1,f⟩:=bJ d (lot:=3) (by decide) (by decide);obtain⟨t,o,B,F,d1,i⟩:=bJ f (lot:=8) (by decide) (by decide);obtain⟨r,rfl⟩:∃n:Nat,r=(n:Int):=⟨r.toNat,by omega⟩;obtain⟨c,rfl⟩:∃n:Nat,c=(n:Int):=⟨c.toNat,by omega⟩;obtain⟨t,rfl⟩:∃n:Nat,t=(n:Int):=⟨t.toNat,by omega⟩;obtain⟨rows,β5,e,g,q⟩:=n6 (K:=K) (a:=a) (r:=2+r) (c:=2+c) (t:=t) i (by omega) (by omega) (by omega) (by omega) (by omega);refine aF (x_2 rfl (ak rfl l) (p 2 r)) (aF (x_2 rfl (ak rfl m) (p 2 c)) ?_);exact am (aO (ak (aa rfl (aa rfl (aa rfl (aa (ak rfl B) rfl)))) e) ⟨rows,2+r,2+c,rfl,⟨g.1,by omega⟩,q⟩)
theorem few1:∀x<9,(x+1)*1<=500/\1<63:=by decide
theorem few2:∀x<9,∀y<9-x,(x+1)*((y+1)*1)<=500/\(x+1)*1<63:=by decide
theorem few3:∀x<9,∀y<9-x,∀z<9-x-y,(x+1)*((y+1)*((z+1)*1))<=500/\(x+1)*((y+1)*1)<63:=by decide
theorem few4:∀x<9,∀y<9-x,∀z<9-x-y,∀w<9-x-y-z,(x+1)*((y+1)*((z+1)*((w+1)*1)))<=500/\(x+1)*((y+1)*((z+1)*1))<63:=by decide
theorem few:∀{rs:List Nat},1<=rs.length->rs.length<=4->rs.sum<=8->Nrw rs/\pr (rs.dropLast.map (·+1))<63
 |[x],_,l,h=>by
  have q:=few1 x (by simp at h;omega);exact⟨⟨by show 1<=1;decide,l,by omega,q.1⟩,q.2⟩
 |[x,y],_,l,h=>by
  have q:=few2 x (by simp at h;omega) y (by simp at h;omega);exact⟨⟨by show 1<=2;decide,l,by omega,q.1⟩,q.2⟩
 |[x,y,z],_,l,h=>by
  have q:=few3 x (by simp at h;omega) y (by simp at h;omega) z (by simp at h;omega);exact⟨⟨by show 1<=3;decide,l,by omega,q.1⟩,q.2⟩
 |[x,y,z,w],_,l,h=>by
  have q:=few4 x (by simp at h;omega) y (by simp at h;omega) z (by simp at h;omega) w (by simp at h;omega);exact⟨⟨by show 1<=4;decide,l,by omega,q.1⟩,q.2⟩
 |[],h,_,_=>by simp at h
 |_::_::_::_::_::_,_,h,_=>by simp at h
theorem toB{r c:Nat}{b:LP}(h:Bnd r c b):∃B,b=gL B/\BOk r c B:=by
 have e:b=gL (b.map λrow=>row.map λp=>(p.1.toNat,p.2.toNat)):=by
  unfold gL;rw[P3];refine(VZ b).symm.trans (Qx λrow g=>?_);show row=Q2 _ (Q2 _ row);rw[P3];refine(VZ row).symm.trans (Qx λp i=>?_);obtain⟨a1,a2,a3⟩:=h.ok row g p i;exact T4 (show p.1=((p.1.toNat:Nat):Int) by omega) (show p.2=((p.2.toNat:Nat):Int) by omega)
 refine⟨_,e,h.shp.map,λrow g p i=>?_⟩;obtain⟨d,j,rfl⟩:=Qc.mp g;obtain⟨f,k,rfl⟩:=Qc.mp i;obtain⟨a1,a2,a3⟩:=h.ok d j f k;show f.1.toNat<=f.2.toNat/\f.2.toNat<=40;omega
theorem LU{r c:Nat}{rows:LI}{b:LP}(s:Sml r c rows)(k:Bnd r c b)(kp:Kp rows b):∃B rs cs,b=gL B/\NtB rows B rs cs/\rs.length=r/\cs.length=c/\rs.sum<=8:=by
 obtain⟨t,l⟩:=s;obtain⟨B,rfl,ok⟩:=toB k;obtain⟨rs,e⟩:=pP (xs:=rows.map RM) λx f=>by
  obtain⟨row,g,rfl⟩:=Qc.mp f;exact lV (t.nn row g)
 obtain⟨cs,i⟩:=pP (xs:=(tp c rows).map RM) λx f=>by
  obtain⟨row,g,rfl⟩:=Qc.mp f;exact lV (IB t.nn row g)
 have m:rs.length=r:=by rw[←t.shp.1,←PF (as:=rows) RM,e,PF]
 have n:cs.length=c:=by rw[←(jX (d:=(0:Int)) (c:=c) t.shp.1).1,←PF (as:=tpA 0 c rows) RM];exact(Re VY i).symm▸(PF _).symm
 have j:rs.sum<=8:=by
  have h:(rows.map RM).sum<=7:=l;rw[e,gR]at h;omega
 have o:rs.sum=cs.sum:=by
  have h:tot (tp c rows)=tot rows:=yU t.shp.2;unfold tot at h;rw[i,e,gR,gR]at h;omega
 have r0:=t.r0;have r1:=t.r1;have c0:=t.c0;have c1:=t.c1;obtain⟨q1,q2⟩:=few (rs:=rs) (by omega) (by omega) j;subst m n;exact⟨B,rs,cs,rfl,⟨⟨q1,q2,o,c0,c1⟩,t.shp,e,i,ok,kp⟩,rfl,rfl,j⟩
theorem K0{rows:LI}{B:List (List (Nat×Nat))}{rs cs:List Nat}(h:NtB rows B rs cs):(rm K a).1 [gridD rows,bDN B] β=on (.ok (MI a B rs cs),β):=by
 obtain⟨e,g,_,_⟩:=h.nr;have c6:=h.c6;have b:=qa (K:=K) (a:=a) (β:=β) (rows:=rows) (by rw[h.shp.1];omega);have c:=lN (K:=K) (a:=a) (β:=β) h.shp e (by omega) (by omega);rw[h.rw1]at b;rw[h.cl1]at c;have f:=sZ (K:=K) (a:=a) (β:=β) (rows:=gP (gL B)) (by rw[PF,(jJ h.bok.1).1];omega);unfold rm
 dsimp only
 refine aL (am (aO (d:=MI a B rs cs) (β1:=β) ?_ ⟨rfl,rfl⟩));unfold AX;rw[M.bind_ok (aa (ak rfl b) (aa (ak rfl c) rfl)),M.bind_ok (aa (ak rfl f) rfl)];exact(M.bind_ok (MH h)).trans rfl
variable{n:Nat}{vs:List (List Nat)}
abbrev csC(vs:List (List Nat)):List Nat:=vs.map RM
abbrev rwC(n:Nat)(vs:List (List Nat)):LI:=tp n (vs.map nI)
theorem IR(v:List Nat)(j:Nat):(nI v).getD j 0=((v.getD j 0:Nat):Int):=by
 rw[PR,PR,PV];cases v[j]?<;>rfl
theorem CQ(c:∀v∈vs,v.length=n):(rwC n vs).map RM=nI (rsm n vs):=by
 have e:rsm n vs=(P4 n).map λj=>(rsm n vs).getD j 0:=Sa (by rw[nA c,PF,Qr]) λi d f=>by
  rw[S5,Ta,eC d]
 rw[e];unfold rwC tp tpA;show Q2 _ (Q2 _ _)=Q2 _ (Q2 _ _);rw[P3,P3];refine Qx λj b=>?_;have b:=Qq.mp b;show((vs.map nI).map λrow=>row.getD j 0).sum=(((rsm n vs).getD j 0:Nat):Int);rw[zm c b,←gR,P3];show _=(Q2 _ (Q2 _ _)).sum;rw[P3];exact Re RM (Qx λv _=>IR v j)
theorem shpC(b:∀v∈vs,v.length=n):Shp vs.length n (vs.map nI):=⟨PF _,λrow c=>by
 obtain⟨v,d,rfl⟩:=Qc.mp c;rw[PF];exact b v d⟩
theorem O5(vs:List (List Nat)):(vs.map nI).map RM=nI (csC vs):=by
 show _=Q2 _ (Q2 _ _);rw[P3,P3];exact Qx λv _=>gR v
theorem LZ{i:Nat}(b:i<n):(rwC n vs)[i]?=on (nI (vs.map λv=>v.getD i 0)):=by
 rw[LF b];congr 1;show _=Q2 _ (Q2 _ _);rw[P3,P3];exact Qx λv _=>IR v i
theorem Ks(n:Nat):eV K a n=fQ n:=by
 induction n with
 |zero=>rfl
 |succ n ih=>
  show c8 2 (pB K a (eV K a n))=c8 2 (jD (fQ n));rw[ih];rfl
theorem II{d:D}(h:okD 4 d):eV K a 5 [d,d] β=on (.ok (.bl PP),β):=by
 rw[Ks];exact rh 4 d β h
theorem okG{r c:Nat}{rows:LI}(h:Shp r c rows)(b:r<=1000)(d:c<=1000):okD 4 (gridD rows):=⟨aZ (by rw[PF,PF,h.1];exact b),λx e=>by
 obtain⟨y,f,rfl⟩:=Qc.mp e;obtain⟨row,g,rfl⟩:=Qc.mp f;refine⟨aZ (by rw[PF,h.2 row g];exact d),λz j=>?_⟩;obtain⟨i,_,rfl⟩:=Qc.mp j;trivial⟩
abbrev cD(vs:List (List Nat)):D:= .lst (vs.map nL)
theorem cD_e(vs:List (List Nat)):cD vs=gridD (vs.map nI):=by
 show D.lst _=D.lst (Q2 _ (Q2 _ (Q2 _ _)));rw[P3,P3];rfl
theorem Lx{vs:List (List Nat)}(hs:∀v∈vs,v.sum<=40)(d:vs.length<=6)(i:Nat):pr ((vs.take i).map mu)<2^1000:=cA (m:=160*6) (Qg (xW (m:=160) λx b=>by
 obtain⟨v,c,rfl⟩:=Qc.mp b;exact qp (hs v (Tw c))) (TC (by decide) (by rw[PF,Rp];omega))) (by decide)
theorem sf{vs:List (List Nat)}(hs:∀v∈vs,v.sum<=40)(hn:∀v∈vs,v.length<=4)(f:vs.length<=6):(iw K a).1 [cD vs] β=on (.ok (.int ((wt vs:Nat):Int)),β):=by
 unfold iw
 dsimp only
 refine aL ?_;refine aF (d:= .int 1) (β1:=β) rfl ?_;refine bu (ds:=vs.map nL) (β1:=β) rfl (λi δ b=>β=b/\∃c,δ=[on (.sh (cD vs)),on (.sh (.int ((pr ((vs.take i).map mu):Nat):Int))),c]) ⟨rfl,PH,rfl⟩ ?_ ?_
 ·rintro i d δ _ hd ⟨rfl,c,rfl⟩
  obtain⟨v,e,rfl⟩:=bE hd;have hm:=Ql e;refine⟨_,rfl,am (aF (x_2 rfl (ak rfl (DR (hs v hm) (hn v hm))) (k8 (Lx hs f i) (cA (lO (hs v hm)) (by decide)))) (aY ⟨rfl,on (.sh (nL v)),?_⟩))⟩;rw[iF e,jW];rfl
 ·rintro δ _ ⟨rfl,c,rfl⟩
  rw[PF,RP];exact am (aO rfl ⟨rfl,rfl⟩)
theorem K5{rows:LI}{B:List (List (Nat×Nat))}{rs cs:List Nat}(h:NtB rows B rs cs)(d:rs.sum<=8):(rp K a).1 [gridD rows,bDN B] β=on (.ok (.lst ((pth (wB B cs) cs.length 0 rs).map cD)),β):=by
 have r1:=h.nr.1;have e:=h.nr.2.1;have c6:=h.c6;have b:=qa (K:=K) (a:=a) (β:=β) (rows:=rows) (by rw[h.shp.1];omega);have c:=lN (K:=K) (a:=a) (β:=β) h.shp r1 (by omega) (by omega);rw[h.rw1]at b;rw[h.cl1]at c;unfold rp
 dsimp only
 refine aL (am (aO (ak (aa (ak rfl b) (aa (ak rfl c) (aa rfl rfl))) (yc h.toNt0 d h.bok)) ⟨rfl,?_⟩));rw[←IT,P3];rfl
theorem zM:∀{ps:List (Nat×Nat)} {v:List Nat},(∀(i:Nat) (p:Nat×Nat) (x:Nat),ps[i]?=on p->v[i]?=on x->p.1<=x/\x<=p.2)->okB ps v=PP
 |[],_,_=>by unfold okB;rfl
 |_::_,[],_=>by unfold okB;rfl
 |p::ps,x::v,h=>by
  have:=h 0 p x rfl rfl;show(decide (p.1<=x)&&decide (x<=p.2)&&okB ps v)=PP;rw[zM λi p x b c=>h (i+1) p x b c,Qn this.1,Qn this.2];rfl
theorem wg:∀{xs:LI},(∀row∈xs,∀x∈row,0<=x)->∃l:List (List Nat),xs=l.map nI
 |[],_=>⟨[],rfl⟩
 |x::xs,h=>by
  obtain⟨l,e⟩:=wg λy b=>h y (PN _ b);obtain⟨m,c⟩:=pP (h x PZ);exact⟨m::l,by rw[e,c];rfl⟩
theorem NtB.pos{rows:LI}{B:List (List (Nat×Nat))}{rs cs:List Nat}(h:NtB rows B rs cs)(nn:∀row∈rows,∀x∈row,0<=x):0<tbW (wB B cs) cs.length 0 rs:=by
 obtain⟨vs,e⟩:=wg (IB (c:=cs.length) nn);have sh:=jX (d:=(0:Int)) (c:=cs.length) h.shp.1;have t:vs.length=cs.length:=by rw[←PF (f:=nI),←e];exact sh.1
 have k:∀v∈vs,v.length=rs.length:=λv g=>by
  rw[←PF (f:=λ(i:Nat)=>(i:Int))];refine sh.2 (nI v) ?_;show nI v∈tp cs.length rows;rw[e];exact Qc.mpr ⟨v,g,rfl⟩
 have l:rows=rwC rs.length vs:=by rw[←IA h.shp,e]
 have es:rs=rsm rs.length vs:=gT (by rw[←CQ k,←l,h.rw1]);have u:cs=csC vs:=gT (by rw[←O5,←e,h.cl1]);refine uw (vs:=vs) ?_ t;rw[es];refine HU k λi r v g le=>?_;rw[Q6];have A:=(P9.mp g).1;refine Sy.mpr ⟨?_,zM λj p x m o=>?_⟩
 ·have q:cs.getD i 0=v.sum:=by rw[u,PR,PV,g];rfl
  rw[q];exact k9 le
 ·unfold mK at m
  obtain⟨row,b,rfl⟩:=bE m;have C:=h.bok.1.2 row (Ql b);have y:j<rs.length:=by rw[←k v (Ql g)];exact(P9.mp o).1
  have a1:at2 rows j i=on (x:Int):=mT (by rw[l];exact LZ y) (by rw[PV,PV,g];show on ((v.getD j 0:Nat):Int)=_;rw[PR,o];rfl);have a2:at2 (gL B) j i=on (((row.getD i (0,0)).1:Int),((row.getD i (0,0)).2:Int)):=mT (row:=row.map λp=>((p.1:Int),(p.2:Int))) (by rw[PV,b];rfl) (by rw[PV,eC (by omega),PM (by omega)];rfl);have:=h.kp j i _ _ a1 a2;simp only at this;omega
abbrev l26(g l t w:D)(c d e f b:Option Sl):Ds:=[PH,on (.sh .bag),on (.sh g),on (.sh l),on (.sh t),on (.sh w),c,d,e,f,b]
theorem lst3{x y z:D}:dm [x,y,z]=on (.lst [x,y,z]):=by
 unfold dm;rw[P6 (aZ (by show 3<=1000;decide))]
theorem DZ(β:Bg)(ok:β.ok):∃b,(qc K a).1 [PH,on (.sh .bag),PH,PH,PH,PH,PH,PH,PH,PH,PH] β=on (.rt (.bl PP),b):=by
 suffices h:Gw (qc K a).1 [PH,on (.sh .bag),PH,PH,PH,PH,PH,PH,PH,PH,PH] β (λo _=>o= .rt (.bl PP)) by
  obtain⟨o,b,e,rfl⟩:=h;exact⟨b,e⟩
 obtain⟨g,r,c,β1,e1,J,L⟩:=CL (K:=K) (a:=a) ok;obtain⟨l,β2,e2,bl,kl,N⟩:=yd (K:=K) (a:=a) J.1 L;obtain⟨B,rs,cs,rfl,nt,lr,lc,F⟩:=LU J bl kl;have tp0:=nt.pos J.1.nn;have O:=xz B cs;have h1:Nt1 K a rs cs (wB B cs) (bDN B):=nt.nt;have c1:=nt.c1;have c6:=nt.c6;have r4:=nt.nr.2.1;have nd:∀k r,(wB B cs k r).Nodup:=λk r=>(we _ _).filter _;have pl:(pth (wB B cs) cs.length 0 rs).length=tbW (wB B cs) cs.length 0 rs:=nE _ _ _;have m8:=MK F;have d8:dlW (wB B cs) cs.length 0 rs<=40320:=Qg (qJ O _ _ _ (Q6 _)) (by rw[VW,kG _ _ nt.sm];exact m8);have t8:tbW (wB B cs) cs.length 0 rs<=40320:=by
  rw[←pl,←PF (f:=λ_=>0),←IT,PF,PF];exact Qg (wR O nt.sm (P5 _)) m8
 unfold qc
 dsimp only
 refine aF (ak rfl e1) (aF (ak rfl e2) (aF (ak rfl (K0 nt)) (aF (ak rfl (K5 nt F)) ?_)));show Gw _ (l26 (gridD g) (bDN B) (c9 a (wB B cs) (bDN B) rs cs) (.lst ((pth (wB B cs) cs.length 0 rs).map cD)) PH PH PH PH PH) β2 _;generalize gridD g=gd;have y:∀vs∈pth (wB B cs) cs.length 0 rs,Wk (wB B cs) 0 rs vs/\vs.length=cs.length/\(∀v∈vs,v.length=rs.length)/\∀v∈vs,v.sum<=40:=λvs p=>by
  obtain⟨q1,q2⟩:=uU p;obtain⟨i1,_,i3⟩:=m3 O q1 (by rw[q2,Q6]) nt.sm;refine⟨q1,q2,i3,λv h=>?_⟩;have z:v.sum∈cs:=by rw[←VW (l:=cs),←i1];exact Qc.mpr ⟨v,h,rfl⟩
  have:=fZ z;have:=nt.sm;omega
 obtain⟨u,β3,pu,u0,u1,Q⟩:=bJ N (lot:=((tbW (wB B cs) cs.length 0 rs:Nat):Int)) (by omega) (by omega);obtain⟨u,rfl⟩:∃k:Nat,u=(k:Int):=⟨u.toNat,by omega⟩;have ln:cB [.lst ((pth (wB B cs) cs.length 0 rs).map cD)]=on (.int ((tbW (wB B cs) cs.length 0 rs:Nat):Int)):=cT (by rw[PF,pl]);generalize hP:pth (wB B cs) cs.length 0 rs=P at*;generalize hT:tbW (wB B cs) cs.length 0 rs=T at*;refine bu (ds:=[.int (u:Int),.int ((T-1:Nat):Int)]) (β1:=β3) (bP (aj (aa (ak (aa rfl (aa (aj rfl ln) rfl)) pu) (aa (x_2 (aj rfl ln) rfl ?_) rfl)) lst2) rfl) (λ_ δ β=>β.ok/\∃R H F I m,δ=l26 gd (bDN B) (c9 a (wB B cs) (bDN B) rs cs) (.lst (P.map cD)) R H F I m) ⟨Q,_,_,_,_,_,rfl⟩ ?_ ?_
 ·show on (D.int _)=on (D.int _)
  rw[show((T:Int)-1)=((T-1:Nat):Int) by omega]
 ·rintro i d δ b hd ⟨U,R,H,A,I,m,rfl⟩
  obtain⟨k,hk,rfl⟩:∃k:Nat,k<T/\d= .int (k:Int):=by
   rcases i with _|_|i
   ·cases hd;exact⟨u,by omega,rfl⟩
   ·cases hd;exact⟨T-1,by omega,rfl⟩
   ·cases hd
  have C:k<P.length:=by omega
  have ek:=PM C;obtain⟨f1,f2,f3⟩:=AW nd (j:=cs.length) (k:=0) (r:=rs) (i:=k) (vs:=P[k]) (by rw[hP];exact ek);rw[hP]at f1 f2 f3;obtain⟨q1,q2,q3,q4⟩:=y _ (QO C);have wk:=sf (K:=K) (a:=a) (β:=b) q4 (λv p=>by rw[q3 v p];exact r4) (by omega);have ix:ixD (.lst (P.map cD)) (.int (k:Int))=on (cD P[k]):=bK (by rw[PV,ek];rfl);have q:Shp cs.length rs.length (P[k].map nI):=by rw[←q2];exact shpC q3
  have t:Shp rs.length cs.length (tp rs.length (P[k].map nI)):=jX q.1;have lt:=qr (K:=K) (a:=a) (β:=b) q c1 (by omega) (by omega);rw[←cD_e]at lt;have w0:0<wt P[k]:=qg λx hx=>by
   obtain⟨v,_,rfl⟩:=Qc.mp hx;exact mr v
  have st:=LS (K:=K) (a:=a) (β:=b) h1 t (by rw[IA q]) q1 q2;rw[f1]at st;have hS:aB fJ (ae (cw 1 [] (cu (fSl (ah 5) PH (on (ah 6)))) (tgC 0) (λ_=>M.ret PP) (cEm (ci (iw K a).1 (ae (ah 0) ay)))) ay) (vw (l26 gd (bDN B) (c9 a (wB B cs) (bDN B) rs cs) (.lst (P.map cD)) (on (.sh (.int (k:Int)))) H A I m)) b=on (.ok (.int ((L2.Nt.sm (P.take k) wt:Nat):Int)),b):=by
   refine aj (aa (bh (P.take k) cD (λvs=> .int ((wt vs:Nat):Int)) (bP (JN rfl rfl) (by show on _=_;rw[Ni,Uy])) (λvs p=>⟨[on (cD vs)],rfl,?_⟩) (Qg (show _<=40320 by rw[Rp];omega) (by decide))) rfl) ?_
   ·obtain⟨_,z2,z3,z4⟩:=y vs (Tw p)
    exact ak rfl (sf z4 (λv p=>by rw[z3 v p];exact r4) (by omega))
   ·have:fJ [.lst (Q2 D.int (Q2 (λi:Nat=>(i:Int)) (Q2 wt (P.take k))))]=_:=kx ((P.take k).map wt)
    rw[P3,P3]at this;exact this
  generalize L2.Nt.sm (P.take k) wt=S at*;generalize hw:wt P[k]=w at*;obtain⟨v,X,pv,v0,v1,Y⟩:=bJ U (lot:=(w:Int)) (by omega) (by omega);obtain⟨v,rfl⟩:∃n:Nat,v=(n:Int):=⟨v.toNat,by omega⟩;refine⟨_,rfl,aF hS (aF (ak (aa (x_2 rfl rfl ix) rfl) wk) (aF (ak (aa (x_2 rfl rfl ix) rfl) lt) ?_))⟩;refine jk (mZ (c:=PP) (pK (ak (r:=(.ok (.bl PP),b)) (aa (ak (aa rfl (aa (ak rfl (sZ (by rw[PF,t.1];omega))) rfl)) st) (aa (aj (aa rfl (aa (x_2 (z:= .int ((S+w:Nat):Int)) rfl rfl rfl) rfl)) eA) rfl)) ?_) rfl)) (bM ?_)
  ·have Z:pr (P[k].map mu)=w:=hw
   rw[Z];refine II ⟨aZ (by show 2<=1000;decide),λx hx=>?_⟩;rcases Qf.mp hx with rfl|hx
   ·trivial
   ·cases QH.mp hx
    trivial
  refine am (bu (ds:=[.int (S:Int),.int ((S+w-1:Nat):Int),.int ((S+v:Nat):Int)]) (β1:=X) (bP (aj (aa rfl (aa (x_2 (x_2 rfl rfl rfl) rfl ?_) (aa (x_2 rfl (ak rfl pv) rfl) rfl))) lst3) rfl) (λ_ δ β=>β.ok/\∃m,δ=l26 gd (bDN B) (c9 a (wB B cs) (bDN B) rs cs) (.lst (P.map cD)) (on (.sh (.int (k:Int)))) (on (.sh (.int (S:Int)))) (on (.sh (.int (w:Int)))) (on (.sh (gridD (tp rs.length (P[k].map nI))))) m) ⟨Y,_,rfl⟩ ?_ ?_)
  ·show on (D.int _)=on (D.int _)
   rw[show((S:Int)+(w:Int)-1)=((S+w-1:Nat):Int) by omega]
  ·rintro i d δ β5 hd ⟨okB,m,rfl⟩
   obtain⟨n,n0,n1,rfl⟩:∃n:Nat,S<=n/\n<S+w/\d= .int (n:Int):=by
    rcases i with _|_|_|i
    ·cases hd;exact⟨S,by omega,by omega,rfl⟩
    ·cases hd;exact⟨S+w-1,by omega,by omega,rfl⟩
    ·cases hd;exact⟨S+v,by omega,by omega,rfl⟩
    ·cases hd
   have kd:=MU (K:=K) (a:=a) (β:=β5) h1 (n0:=n) (by omega);rw[f3 n n0 n1]at kd;exact⟨_,rfl,am (jk (mZ (c:=PP) (pK (ak (aa (ak rfl kd) (aa rfl rfl)) (II (okG t (by omega) (by omega)))) rfl)) (bM (aY ⟨okB,_,rfl⟩)))⟩
  ·rintro δ β5 ⟨okB,m,rfl⟩
   exact aY ⟨okB,_,_,_,_,_,rfl⟩
 ·rintro δ b ⟨_,R,H,A,I,m,rfl⟩
  exact am (aO rfl rfl)
noncomputable abbrev E(P:Xf)(n:String)(t:Nat)(v:PY):T6:=⟨PyData.keyHash P (Su n),.str (Su n) t,v⟩
noncomputable abbrev FN(x q:QN)(s:Rh)(c d b e:PY)(f:Option PX)(cd ct:PY):Qt:=Uf x q (iM s) (cK s) (ag s) c d b e f cd ct
noncomputable abbrev fO(f:Qt):Qy:=⟨.type "function",PH,.func f,#[]⟩
noncomputable abbrev tO(l:List PY):Qy:=⟨.type "tuple",PH,.seq l.toArray 0,#[]⟩
noncomputable abbrev cO(l:List PY):Qy:=⟨.type "code",PH,.fields l.toArray,#[]⟩
noncomputable abbrev eB(P:Xf)(n:String)(t:Nat):T6:=E P n t (.builtin n)
noncomputable abbrev eT(P:Xf)(n:String)(t:Nat):T6:=E P n t (.type n)
noncomputable abbrev eR(P:Xf)(n:String)(t r:Nat):T6:=E P n t (.ref r)
noncomputable abbrev nO(l:List PY):Qy:=⟨.none,PH,.fields l.toArray,#[]⟩
noncomputable abbrev fB(x q:QN)(s:Rh):Qy:=⟨.none,PH,.func ⟨x,q,iM s,.stmts (cK s),ag s,0,[],.none,.none,.none,.none,PH,.none,.none,0⟩,#[]⟩
noncomputable abbrev cC(n q:QN)(t l a po c fl r:Nat)(b:Bool)(d e:Nat)(x y z w:PY)(u f v:Nat):Qy:=cO [.str n t,.str q (t+1),.str "/claim/cut.py" (t+2),.int l 0,.int a 0,.int po 0,.int c 0,.int fl 0,.ref r,.bool b,.int d 0,.ref e,x,y,z,w,.int u 0,.int f 0,.str "/claim/cut.py" v]
noncomputable abbrev cF(n:QN)(t l a b r c u:Nat):Qy:=cC n n t l a 0 b 3 r PP c (r+1) .none .none .none (.ref (r+2)) u l (u+1)
noncomputable abbrev cG(n:QN)(t l a b r c u:Nat):Qy:=cC n n t l a 0 b 3 r PP c (r+1) .none (.ref (r+2)) (.ref (r+3)) (.ref (r+4)) u l (u+1)
noncomputable abbrev fM(m:QN)(t:Nat)(x:QN)(i c:Nat):Qy:=fO (FN x x (top i) .none .none .none (.str m t) PH (.ref c) .none)
abbrev eTt:List PY:=[(.ref 38),(.type "ValueError"),(.type "Exception"),(.type "BaseException"),(.type "object")]
noncomputable abbrev xOo(x:QN)(a d b t u:Nat):Qy:=⟨(.type "type"),PH,(.cls ⟨x,[(.ref 38)],(.ref a)::eTt,d,x,PP,[],[],PU,PH,PU⟩),#[(on (.ref b)),PH,(on (.str x t)),(on (.str x u)),(on (.builtin "ValueError.__new__")),(on (.bool PP))]⟩
noncomputable abbrev iSs(n:Nat):Qy:=⟨(.type "builtin_function_or_method"),PH,(.fields #[(.builtin "object.__init_subclass__"),(.ref n)]),#[]⟩
noncomputable abbrev tx0:PY:= .str "edgetally.errors" 194
noncomputable abbrev tx1:PY:= .str "edgetally.net" 495
noncomputable abbrev tx2:PY:= .str "__main__" 164
noncomputable abbrev fL(x q:QN)(i c:Nat):Qy:=fO (FN x q (top i) .none .none .none (.str "law_edgetally_k26_dealings_by_number" 736) PH (.ref c) .none)
noncomputable def trL:List Nat->List PY
 |a::b::c::l=> .int a 0:: .int b 0:: .ref c::trL l
 |_=>[]
noncomputable abbrev nT(l:List Nat):Qy:=nO (trL l)
noncomputable def stL:Nat->List QN->List PY
 |_,[]=>[]
 |t,x::l=> .str x t::stL (t+1) l
noncomputable abbrev tS(t:Nat)(l:List QN):Qy:=tO (stL t l)
noncomputable def fD(o:Qy):Qt:=match o.data with
 | .func f=>f
 |_=>FN "" "" (top 0) .none .none .none .none PH .none .none
end
section
variable(P:Xf)
def b0:Qy:=⟨(.type "dict"),PH,(.dict #[(E P "__name__" 1 (.str "builtins" 160)),(E P "__doc__" 2 (.builtin "builtins.__doc__:str#opaque")),(E P "__package__" 3 (.builtin "builtins.__package__:str#opaque")),(E P "__loader__" 4 (.builtin "builtins.__loader__:shared#opaque")),(E P "__spec__" 5 (.builtin "builtins.__spec__#opaque")),(eB P "__build_class__" 6),(eB P "__import__" 7),(eB P "abs" 8),(eB P "all" 9),(eB P "any" 10),(eB P "ascii" 11),(eB P "bin" 12),(eB P "breakpoint" 13),(eB P "callable" 14),(eB P "chr" 15),(eB P "compile" 16),(eB P "delattr" 17),(eB P "dir" 18),(eB P "divmod" 19),(eB P "eval" 20),(eB P "exec" 21),(eB P "format" 22),(eB P "getattr" 23),(eB P "globals" 24),(eB P "hasattr" 25),(eB P "hash" 26),(eB P "hex" 27),(eB P "id" 28),(eB P "input" 29),(eB P "isinstance" 30),(eB P "issubclass" 31),(eB P "iter" 32),(eB P "aiter" 33),(eB P "len" 34),(eB P "locals" 35),(eB P "max" 36),(eB P "min" 37),(eB P "next" 38),(eB P "anext" 39),(eB P "oct" 40),(eB P "ord" 41),(eB P "pow" 42),(eB P "print" 43),(eB P "repr" 44),(eB P "round" 45),(eB P "setattr" 46),(eB P "sorted" 47),(eB P "sum" 48),(eB P "vars" 49),(E P "None" 50 .none),(E P "Ellipsis" 51 .ellipsis),(E P "NotImplemented" 52 .notImplemented),(E P "False" 53 (.bool PU)),(E P "True" 54 (.bool PP)),(eT P "bool" 55),(eT P "memoryview" 56),(eT P "bytearray" 57),(eT P "bytes" 58),(eT P "classmethod" 59),(eT P "complex" 60),(eT P "dict" 61),(eT P "enumerate" 62),(eT P "filter" 63),(eT P "float" 64),(eT P "frozenset" 65),(eT P "property" 66),(eT P "int" 67),(eT P "list" 68),(eT P "map" 69),(eT P "object" 70),(eT P "range" 71),(eT P "reversed" 72),(eT P "set" 73),(eT P "slice" 74),(eT P "staticmethod" 75),(eT P "str" 76),(eT P "super" 77),(eT P "tuple" 78),(eT P "type" 79),(eT P "zip" 80),(E P "__debug__" 81 (.bool PP)),(eT P "BaseException" 82),(eT P "BaseExceptionGroup" 83),(eT P "Exception" 84),(eT P "GeneratorExit" 85),(eT P "KeyboardInterrupt" 86),(eT P "SystemExit" 87),(eT P "ArithmeticError" 88),(eT P "AssertionError" 89),(eT P "AttributeError" 90),(eT P "BufferError" 91),(eT P "EOFError" 92),(eT P "ImportError" 93),(eT P "LookupError" 94),(eT P "MemoryError" 95),(eT P "NameError" 96),(eT P "OSError" 97),(eT P "ReferenceError" 98),(eT P "RuntimeError" 99),(eT P "StopAsyncIteration" 100),(eT P "StopIteration" 101),(eT P "SyntaxError" 102),(eT P "SystemError" 103),(eT P "TypeError" 104),(eT P "ValueError" 105),(eT P "Warning" 106),(eT P "FloatingPointError" 107),(eT P "OverflowError" 108),(eT P "ZeroDivisionError" 109),(eT P "BytesWarning" 110),(eT P "DeprecationWarning" 111),(eT P "EncodingWarning" 112),(eT P "FutureWarning" 113),(eT P "ImportWarning" 114),(eT P "PendingDeprecationWarning" 115),(eT P "ResourceWarning" 116),(eT P "RuntimeWarning" 117),(eT P "SyntaxWarning" 118),(eT P "UnicodeWarning" 119),(eT P "UserWarning" 120),(eT P "BlockingIOError" 121),(eT P "ChildProcessError" 122),(eT P "ConnectionError" 123),(eT P "FileExistsError" 124),(eT P "FileNotFoundError" 125),(eT P "InterruptedError" 126),(eT P "IsADirectoryError" 127),(eT P "NotADirectoryError" 128),(eT P "PermissionError" 129),(eT P "ProcessLookupError" 130),(eT P "TimeoutError" 131),(eT P "IndentationError" 132),(eT P "_IncompleteInputError" 133),(eT P "IndexError" 134),(eT P "KeyError" 135),(eT P "ModuleNotFoundError" 136),(eT P "NotImplementedError" 137),(eT P "PythonFinalizationError" 138),(eT P "RecursionError" 139),(eT P "UnboundLocalError" 140),(eT P "UnicodeError" 141),(eT P "BrokenPipeError" 142),(eT P "ConnectionAbortedError" 143),(eT P "ConnectionRefusedError" 144),(eT P "ConnectionResetError" 145),(eT P "TabError" 146),(eT P "UnicodeDecodeError" 147),(eT P "UnicodeEncodeError" 148),(eT P "UnicodeTranslateError" 149),(eT P "ExceptionGroup" 150),(E P "EnvironmentError" 151 (.type "OSError")),(E P "IOError" 152 (.type "OSError")),(eB P "open" 153),(E P "quit" 154 (.builtin "builtins.quit#opaque")),(E P "exit" 155 (.builtin "builtins.exit#opaque")),(E P "copyright" 156 (.builtin "builtins.copyright#opaque")),(E P "credits" 157 (.builtin "builtins.credits#opaque")),(E P "license" 158 (.builtin "builtins.license#opaque")),(E P "help" 159 (.builtin "builtins.help#opaque"))] 159),#[]⟩
def b1:Qy:=⟨(.type "dict"),PH,(.dict #[(eR P "builtins" 162 4),(eR P "__main__" 163 5)] 2),#[]⟩
noncomputable def b2:Qy:=⟨.none,PH,(.dict #[] 0),#[]⟩
def mL:List T6:=[(E P "__name__" 165 (.str "law_edgetally_k26_dealings_by_number" 736)),(E P "__doc__" 166 .none),(E P "__package__" 167 .none),(E P "__loader__" 168 (.builtin "__main__.__loader__#opaque")),(E P "__spec__" 169 .none),(eR P "__annotations__" 170 6),(eR P "__builtins__" 171 4),(E P "__file__" 173 (.str "/claim/cut.py" 172)),(E P "__cached__" 174 .none),(eR P "_wall" 193 21),(eR P "EdgeError" 223 38),(eR P "BadSums" 248 59),(eR P "BadBounds" 273 79),(eR P "TooWide" 298 98),(eR P "Barred" 325 117),(eR P "BadNumber" 350 137),(eR P "NoTable" 375 157),(E P "MOST" 379 (.int 40 378)),(E P "MOST_ROWS" 381 (.int 4 380)),(E P "MOST_COLUMNS" 383 (.int 6 382)),(eR P "FREE" 385 160),(eR P "free" 392 166),(eR P "check_sums" 398 171),(eR P "check_pair" 407 178),(eR P "settled_bounds" 413 183),(eR P "rows_turned" 419 188),(eR P "factorial" 430 195),(eR P "ways" 439 202),(eR P "fillings" 445 207),(eR P "need_of" 453 212),(eR P "room_inside" 459 217),(eR P "room_beside" 465 222),(eR P "room_of" 471 227),(eR P "narrowest" 477 232),(eR P "choices" 483 237),(eR P "check_fit" 494 244),(E P "WIDE" 498 (.int 500 497)),(eR P "check_wide" 507 251),(eR P "settled_for_net" 517 258),(eR P "column_fillings" 523 263),(eR P "rests_behind" 529 268),(eR P "nodes_by_level" 535 273),(eR P "node_counts" 549 280),(eR P "counted_nodes" 555 285),(eR P "Net" 663 369),(eR P "check_number" 673 380),(eR P "steps_counted" 686 387),(eR P "falls_to" 695 394),(eR P "kth_dealing" 701 399),(eR P "columns_asked" 707 404),(eR P "counted_ahead" 722 411),(eR P "stretch" 735 418),(eR P "_law_bag" 743 423),(eR P "_law_pull" 754 430),(eR P "_law_same" 760 435),(eR P "_law_grid" 766 440),(eR P "_law_small" 776 447),(eR P "_law_turned" 782 452),(eR P "_law_rowsums" 788 457),(eR P "_law_columnsums" 794 462),(eR P "_law_free" 800 467),(eR P "_law_bounds" 814 474),(eR P "_law_copied" 820 479),(eR P "_law_fit" 826 484),(eR P "_law_less" 832 489),(eR P "_law_listing" 838 494),(eR P "_law_all" 846 501),(eR P "_law_factorial" 855 508),(eR P "_law_ways" 864 515),(eR P "_law_weight" 873 522),(eR P "_law_net" 881 529),(eR P "law" 887 534)]
noncomputable def b3:Qy:=⟨(.type "dict"),PH,(.dict (mL P).toArray 72),#[]⟩
noncomputable def b4:Qy:=⟨(.type "module"),(on 0),.plain,#[]⟩
noncomputable def b5:Qy:=⟨(.type "module"),(on 3),.plain,#[]⟩
noncomputable def b6:Qy:=⟨(.type "dict"),PH,(.dict #[] 0),#[]⟩
def b7:Qy:=tO []
def b8:Qy:=nO []
def b9:Qy:=cC "<module>" "<module>" 176 1 0 0 0 0 7 PU 175 8 .none .none .none .none 179 1 180
def b10:Qy:=⟨(.type "frame"),PH,.plain,#[(on (.ref 9)),(on (.ref 3)),(on (.ref 3)),PH,(on tx2),PH,(on (.ref 0))]⟩
def b12:Qy:=nT [1,0,20,5,0,27,10,0,47,14,0,67,18,0,87,23,0,106,29,0,125,33,0,145,42,0,165,44,0,170,55,0,177,59,0,182,68,0,187,71,0,194,76,0,201,84,0,206,94,0,211,96,0,216,99,0,221,101,0,226,103,0,231,105,0,236,110,0,243,117,0,250,123,0,257,128,0,262,130,0,267,132,0,272,140,0,279,148,0,284,158,0,291,200,0,379,203,0,386,209,0,393,215,0,398,226,0,403,231,0,410,240,0,417,250,0,422,252,0,429,262,0,434,274,0,439,281,0,446,292,0,451,294,0,456,296,0,461,298,0,466,300,0,473,312,0,478,314,0,483,323,0,488,325,0,493,334,0,500,336,0,507,341,0,514,346,0,521,351,0,528,353,0,533]
def b13:Qy:=cC "<module>" "<module>" 182 1 0 0 0 0 11 PU 181 12 .none .none .none .none 185 1 186
def b14:Qy:=⟨(.type "frame"),PH,.plain,#[(on (.ref 13)),(on (.ref 3)),(on (.ref 3)),PH,(on tx2),PH,(on (.ref 0))]⟩
def b17:Qy:=tS 190 ["k"]
def b19:Qy:=fB "_wall" "_wall" (top 0)
def b20:Qy:=cG "_wall" 187 1 1 0 15 181 191
def b21:Qy:=fM "__main__" 164 "_wall" 0 20
def b22:Qy:=tO [(.type "ValueError")]
noncomputable def b23:Qy:=⟨(.type "builtin_function_or_method"),PH,(.fields #[(.builtin "type.__prepare__"),(.type "type")]),#[]⟩
def b24:Qy:=⟨(.type "dict"),PH,(.dict #[(E P "__module__" 203 tx0),(E P "__qualname__" 205 (.str "EdgeError" 204)),(E P "__firstlineno__" 207 (.int 5 206)),(eR P "__init__" 216 35),(eR P "__static_attributes__" 218 36)] 5),#[]⟩
def b26:Qy:=nT [7,4,34]
def b27:Qy:=cC "EdgeError" "EdgeError" 198 5 0 0 0 0 25 PU 181 26 .none .none .none .none 201 5 202
def b28:Qy:=⟨(.type "frame"),PH,.plain,#[(on (.ref 27)),(on (.ref 3)),(on (.ref 24)),PH,(on tx0),PH,(on (.ref 0))]⟩
def b31:Qy:=tS 211 ["self","word","why"]
def b33:Qy:=fB "__init__" "EdgeError.__init__" (aE (top 2) 0)
def b34:Qy:=cC "__init__" "EdgeError.__init__" 208 7 3 0 0 3 29 PP 181 30 .none (.ref 31) (.ref 32) (.ref 33) 214 7 215
def b35:Qy:=fO (FN "__init__" "EdgeError.__init__" (aE (top 2) 0) .none .none .none tx0 PH (.ref 34) .none)
def b36:Qy:=tS 217 ["word"]
def b37:Qy:=⟨(.type "dict"),PH,(.dict #[(E P "__module__" 203 tx0),(E P "__firstlineno__" 207 (.int 5 206)),(eR P "__init__" 216 35),(eR P "__static_attributes__" 218 36),(eR P "__weakref__" 220 39),(E P "__doc__" 221 .none)] 3),#[]⟩
noncomputable def b38:Qy:=⟨(.type "type"),PH,(.cls ⟨"EdgeError",[(.type "ValueError")],[(.ref 38),(.type "ValueError"),(.type "Exception"),(.type "BaseException"),(.type "object")],37,"EdgeError",PP,[],[(.ref 59),(.ref 79),(.ref 98),(.ref 117),(.ref 137),(.ref 157)],PU,PH,PU⟩),#[(on (.ref 22)),PH,(on (.str "EdgeError" 196)),(on (.str "EdgeError" 204)),(on (.builtin "ValueError.__new__")),(on (.bool PP))]⟩
noncomputable def b39:Qy:=⟨(.type "getset_descriptor"),PH,(.fields #[(.str "__weakref__" 219),(.ref 38),(.builtin "ExceptionGroup.__weakref__"),.none]),#[]⟩
noncomputable def b40:Qy:=⟨(.type "super"),PH,(.fields #[(.ref 38),(.ref 38),(.ref 38)]),#[]⟩
def b41:Qy:=iSs 38
def b42:Qy:=tO [(.ref 38)]
def b44:Qy:=⟨(.type "dict"),PH,(.dict #[(E P "__module__" 231 tx0),(E P "__qualname__" 233 (.str "BadSums" 232)),(E P "__firstlineno__" 235 (.int 10 234)),(eR P "__init__" 244 56),(eR P "__static_attributes__" 245 57)] 5),#[]⟩
def b46:Qy:=nT [12,4,55]
def b47:Qy:=cC "BadSums" "BadSums" 226 10 0 0 0 0 45 PU 181 46 .none .none .none .none 229 10 230
def b48:Qy:=⟨(.type "frame"),PH,.plain,#[(on (.ref 47)),(on (.ref 3)),(on (.ref 44)),PH,(on tx0),PH,(on (.ref 0))]⟩
def b49:Qy:=tS 236 ["these sums are no table's"]
def b52:Qy:=tS 240 ["self","why"]
def b54:Qy:=fB "__init__" "BadSums.__init__" (aE (top 3) 0)
def b55:Qy:=cC "__init__" "BadSums.__init__" 237 12 2 0 0 3 50 PP 181 51 .none (.ref 52) (.ref 53) (.ref 54) 242 12 243
def b56:Qy:=fO (FN "__init__" "BadSums.__init__" (aE (top 3) 0) (.ref 49) .none .none tx0 PH (.ref 55) .none)
def b58:Qy:=⟨(.type "dict"),PH,(.dict #[(E P "__module__" 231 tx0),(E P "__firstlineno__" 235 (.int 10 234)),(eR P "__init__" 244 56),(eR P "__static_attributes__" 245 57),(E P "__doc__" 246 .none)] 2),#[]⟩
def b59:Qy:=xOo "BadSums" 59 58 42 224 232
noncomputable def b60:Qy:=⟨(.type "super"),PH,(.fields #[(.ref 59),(.ref 59),(.ref 59)]),#[]⟩
def b61:Qy:=iSs 59
def b64:Qy:=⟨(.type "dict"),PH,(.dict #[(E P "__module__" 256 tx0),(E P "__qualname__" 258 (.str "BadBounds" 257)),(E P "__firstlineno__" 260 (.int 14 259)),(eR P "__init__" 269 76),(eR P "__static_attributes__" 270 77)] 5),#[]⟩
def b66:Qy:=nT [16,4,75]
def b67:Qy:=cC "BadBounds" "BadBounds" 251 14 0 0 0 0 65 PU 181 66 .none .none .none .none 254 14 255
def b68:Qy:=⟨(.type "frame"),PH,.plain,#[(on (.ref 67)),(on (.ref 3)),(on (.ref 64)),PH,(on tx0),PH,(on (.ref 0))]⟩
def b69:Qy:=tS 261 ["these bounds are no table's"]
def b72:Qy:=tS 265 ["self","why"]
def b74:Qy:=fB "__init__" "BadBounds.__init__" (aE (top 4) 0)
def b75:Qy:=cC "__init__" "BadBounds.__init__" 262 16 2 0 0 3 70 PP 181 71 .none (.ref 72) (.ref 73) (.ref 74) 267 16 268
def b76:Qy:=fO (FN "__init__" "BadBounds.__init__" (aE (top 4) 0) (.ref 69) .none .none tx0 PH (.ref 75) .none)
def b78:Qy:=⟨(.type "dict"),PH,(.dict #[(E P "__module__" 256 tx0),(E P "__firstlineno__" 260 (.int 14 259)),(eR P "__init__" 269 76),(eR P "__static_attributes__" 270 77),(E P "__doc__" 271 .none)] 2),#[]⟩
def b79:Qy:=xOo "BadBounds" 79 78 62 249 257
noncomputable def b80:Qy:=⟨(.type "super"),PH,(.fields #[(.ref 79),(.ref 79),(.ref 79)]),#[]⟩
def b81:Qy:=iSs 79
def b84:Qy:=⟨(.type "dict"),PH,(.dict #[(E P "__module__" 281 tx0),(E P "__qualname__" 283 (.str "TooWide" 282)),(E P "__firstlineno__" 285 (.int 18 284)),(eR P "__init__" 293 95),(eR P "__static_attributes__" 295 96)] 5),#[]⟩
def b86:Qy:=nT [20,4,94]
def b87:Qy:=cC "TooWide" "TooWide" 276 18 0 0 0 0 85 PU 181 86 .none .none .none .none 279 18 280
def b88:Qy:=⟨(.type "frame"),PH,.plain,#[(on (.ref 87)),(on (.ref 3)),(on (.ref 84)),PH,(on tx0),PH,(on (.ref 0))]⟩
def b91:Qy:=tS 289 ["self","wide"]
def b93:Qy:=fB "__init__" "TooWide.__init__" (aE (top 5) 0)
def b94:Qy:=cC "__init__" "TooWide.__init__" 286 20 2 0 0 3 89 PP 181 90 .none (.ref 91) (.ref 92) (.ref 93) 291 20 292
def b95:Qy:=fO (FN "__init__" "TooWide.__init__" (aE (top 5) 0) .none .none .none tx0 PH (.ref 94) .none)
def b96:Qy:=tS 294 ["wide"]
def b97:Qy:=⟨(.type "dict"),PH,(.dict #[(E P "__module__" 281 tx0),(E P "__firstlineno__" 285 (.int 18 284)),(eR P "__init__" 293 95),(eR P "__static_attributes__" 295 96),(E P "__doc__" 296 .none)] 2),#[]⟩
def b98:Qy:=xOo "TooWide" 98 97 82 274 282
noncomputable def b99:Qy:=⟨(.type "super"),PH,(.fields #[(.ref 98),(.ref 98),(.ref 98)]),#[]⟩
def b100:Qy:=iSs 98
def b103:Qy:=⟨(.type "dict"),PH,(.dict #[(E P "__module__" 306 tx0),(E P "__qualname__" 308 (.str "Barred" 307)),(E P "__firstlineno__" 310 (.int 23 309)),(eR P "__init__" 319 114),(eR P "__static_attributes__" 322 115)] 5),#[]⟩
def b105:Qy:=nT [25,4,113]
def b106:Qy:=cC "Barred" "Barred" 301 23 0 0 0 0 104 PU 181 105 .none .none .none .none 304 23 305
def b107:Qy:=⟨(.type "frame"),PH,.plain,#[(on (.ref 106)),(on (.ref 3)),(on (.ref 103)),PH,(on tx0),PH,(on (.ref 0))]⟩
def b110:Qy:=tS 314 ["self","over","into"]
def b112:Qy:=fB "__init__" "Barred.__init__" (aE (top 6) 0)
def b113:Qy:=cC "__init__" "Barred.__init__" 311 25 3 0 0 3 108 PP 181 109 .none (.ref 110) (.ref 111) (.ref 112) 317 25 318
def b114:Qy:=fO (FN "__init__" "Barred.__init__" (aE (top 6) 0) .none .none .none tx0 PH (.ref 113) .none)
def b115:Qy:=tS 320 ["into","over"]
def b116:Qy:=⟨(.type "dict"),PH,(.dict #[(E P "__module__" 306 tx0),(E P "__firstlineno__" 310 (.int 23 309)),(eR P "__init__" 319 114),(eR P "__static_attributes__" 322 115),(E P "__doc__" 323 .none)] 2),#[]⟩
def b117:Qy:=xOo "Barred" 117 116 101 299 307
noncomputable def b118:Qy:=⟨(.type "super"),PH,(.fields #[(.ref 117),(.ref 117),(.ref 117)]),#[]⟩
def b119:Qy:=iSs 117
def b122:Qy:=⟨(.type "dict"),PH,(.dict #[(E P "__module__" 333 tx0),(E P "__qualname__" 335 (.str "BadNumber" 334)),(E P "__firstlineno__" 337 (.int 29 336)),(eR P "__init__" 346 134),(eR P "__static_attributes__" 347 135)] 5),#[]⟩
def b124:Qy:=nT [31,4,133]
def b125:Qy:=cC "BadNumber" "BadNumber" 328 29 0 0 0 0 123 PU 181 124 .none .none .none .none 331 29 332
def b126:Qy:=⟨(.type "frame"),PH,.plain,#[(on (.ref 125)),(on (.ref 3)),(on (.ref 122)),PH,(on tx0),PH,(on (.ref 0))]⟩
def b127:Qy:=tS 338 ["this number is out of its bounds"]
def b130:Qy:=tS 342 ["self","why"]
def b132:Qy:=fB "__init__" "BadNumber.__init__" (aE (top 7) 0)
def b133:Qy:=cC "__init__" "BadNumber.__init__" 339 31 2 0 0 3 128 PP 181 129 .none (.ref 130) (.ref 131) (.ref 132) 344 31 345
def b134:Qy:=fO (FN "__init__" "BadNumber.__init__" (aE (top 7) 0) (.ref 127) .none .none tx0 PH (.ref 133) .none)
def b136:Qy:=⟨(.type "dict"),PH,(.dict #[(E P "__module__" 333 tx0),(E P "__firstlineno__" 337 (.int 29 336)),(eR P "__init__" 346 134),(eR P "__static_attributes__" 347 135),(E P "__doc__" 348 .none)] 2),#[]⟩
def b137:Qy:=xOo "BadNumber" 137 136 120 326 334
noncomputable def b138:Qy:=⟨(.type "super"),PH,(.fields #[(.ref 137),(.ref 137),(.ref 137)]),#[]⟩
def b139:Qy:=iSs 137
def b142:Qy:=⟨(.type "dict"),PH,(.dict #[(E P "__module__" 358 tx0),(E P "__qualname__" 360 (.str "NoTable" 359)),(E P "__firstlineno__" 362 (.int 33 361)),(eR P "__init__" 371 154),(eR P "__static_attributes__" 372 155)] 5),#[]⟩
def b144:Qy:=nT [35,4,153]
def b145:Qy:=cC "NoTable" "NoTable" 353 33 0 0 0 0 143 PU 181 144 .none .none .none .none 356 33 357
def b146:Qy:=⟨(.type "frame"),PH,.plain,#[(on (.ref 145)),(on (.ref 3)),(on (.ref 142)),PH,(on tx0),PH,(on (.ref 0))]⟩
def b147:Qy:=tS 363 ["the net has no such table"]
def b150:Qy:=tS 367 ["self","why"]
def b152:Qy:=fB "__init__" "NoTable.__init__" (aE (top 8) 0)
def b153:Qy:=cC "__init__" "NoTable.__init__" 364 35 2 0 0 3 148 PP 181 149 .none (.ref 150) (.ref 151) (.ref 152) 369 35 370
def b154:Qy:=fO (FN "__init__" "NoTable.__init__" (aE (top 8) 0) (.ref 147) .none .none tx0 PH (.ref 153) .none)
def b156:Qy:=⟨(.type "dict"),PH,(.dict #[(E P "__module__" 358 tx0),(E P "__firstlineno__" 362 (.int 33 361)),(eR P "__init__" 371 154),(eR P "__static_attributes__" 372 155),(E P "__doc__" 373 .none)] 2),#[]⟩
def b157:Qy:=xOo "NoTable" 157 156 140 351 359
noncomputable def b158:Qy:=⟨(.type "super"),PH,(.fields #[(.ref 157),(.ref 157),(.ref 157)]),#[]⟩
def b159:Qy:=iSs 157
def Ol:Qy:=tO [(.int 0 384),(.int 40 378)]
def Oj:Qy:=⟨(.type "dict"),PH,(.dict #[(eR P "pair" 386 160)] 1),#[]⟩
def b164:Qy:=fB "free" "free" (top 14)
def Oi:Qy:=cF "free" 387 42 2 1 162 181 390
def HI:Qy:=fO (FN "free" "free" (top 14) .none (.ref 161) .none (.str "edgetally.bounds" 376) PH (.ref 165) .none)
def b169:Qy:=fB "check_sums" "check_sums" (top 15)
def Oh:Qy:=cF "check_sums" 393 44 2 0 167 181 396
def HH:Qy:=fM "edgetally.bounds" 376 "check_sums" 15 170
def b174:Qy:=tS 402 ["pair","low","high"]
def b176:Qy:=fB "check_pair" "check_pair" (top 16)
def Og:Qy:=cG "check_pair" 399 55 1 0 172 181 405
def HG:Qy:=fM "edgetally.bounds" 376 "check_pair" 16 177
def b181:Qy:=fB "settled_bounds" "settled_bounds" (top 17)
def Of:Qy:=cF "settled_bounds" 408 59 3 0 179 181 411
def HF:Qy:=fM "edgetally.bounds" 376 "settled_bounds" 17 182
def b186:Qy:=fB "rows_turned" "rows_turned" (top 18)
def Oe:Qy:=cF "rows_turned" 414 68 1 0 184 181 417
def HE:Qy:=fM "edgetally.bounds" 376 "rows_turned" 18 187
def b191:Qy:=tS 425 ["number","product","factor"]
def b193:Qy:=fB "factorial" "factorial" (top 20)
def Od:Qy:=cG "factorial" 422 71 1 0 189 181 428
def HD:Qy:=fM "edgetally.counts" 420 "factorial" 20 194
def b198:Qy:=tS 434 ["parts","part","told"]
def b200:Qy:=fB "ways" "ways" (top 21)
def Oc:Qy:=cG "ways" 431 76 1 0 196 181 437
def HC:Qy:=fM "edgetally.counts" 420 "ways" 21 201
def b205:Qy:=fB "fillings" "fillings" (top 22)
def Ob:Qy:=cF "fillings" 440 84 3 0 203 181 443
def HB:Qy:=fM "edgetally.counts" 420 "fillings" 22 206
def b210:Qy:=fB "need_of" "need_of" (top 24)
def Oa:Qy:=cF "need_of" 448 94 2 0 208 181 451
def HA:Qy:=fM "edgetally.fits" 446 "need_of" 24 211
def b215:Qy:=fB "room_inside" "room_inside" (top 25)
def N9:Qy:=cF "room_inside" 454 96 4 0 213 181 457
def GZ:Qy:=fM "edgetally.fits" 446 "room_inside" 25 216
def b220:Qy:=fB "room_beside" "room_beside" (top 26)
def N8:Qy:=cF "room_beside" 460 99 3 0 218 181 463
def GY:Qy:=fM "edgetally.fits" 446 "room_beside" 26 221
def b225:Qy:=fB "room_of" "room_of" (top 27)
def N7:Qy:=cF "room_of" 466 101 4 0 223 181 469
def GX:Qy:=fM "edgetally.fits" 446 "room_of" 27 226
def b230:Qy:=fB "narrowest" "narrowest" (top 28)
def N6:Qy:=cF "narrowest" 472 103 3 0 228 181 475
def GW:Qy:=fM "edgetally.fits" 446 "narrowest" 28 231
def b235:Qy:=fB "choices" "choices" (top 29)
def N5:Qy:=cF "choices" 478 105 1 0 233 181 481
def GV:Qy:=fM "edgetally.fits" 446 "choices" 29 236
def b240:Qy:=tS 487 ["rowsums","columnsums","bounds","over","into"]
def b242:Qy:=fB "check_fit" "check_fit" (top 30)
def N4:Qy:=cG "check_fit" 484 110 3 0 238 181 492
def GU:Qy:=fM "edgetally.fits" 446 "check_fit" 30 243
def b247:Qy:=tS 502 ["rowsums","wide","many"]
def b249:Qy:=fB "check_wide" "check_wide" (top 33)
def N3:Qy:=cG "check_wide" 499 117 1 0 245 181 505
def GT:Qy:=fM "edgetally.net" 495 "check_wide" 33 250
def b254:Qy:=tS 511 ["rowsums","columnsums","bounds","settled"]
def b256:Qy:=fB "settled_for_net" "settled_for_net" (top 34)
def N2:Qy:=cG "settled_for_net" 508 123 3 0 252 181 515
def GS:Qy:=fM "edgetally.net" 495 "settled_for_net" 34 257
def b261:Qy:=fB "column_fillings" "column_fillings" (top 35)
def N1:Qy:=cF "column_fillings" 518 128 4 0 259 181 521
def GR:Qy:=fM "edgetally.net" 495 "column_fillings" 35 262
def b266:Qy:=fB "rests_behind" "rests_behind" (top 36)
def N0:Qy:=cF "rests_behind" 524 130 2 0 264 181 527
def GQ:Qy:=fM "edgetally.net" 495 "rests_behind" 36 267
def b271:Qy:=fB "nodes_by_level" "nodes_by_level" (top 37)
def NZ:Qy:=cF "nodes_by_level" 530 132 3 0 269 181 533
def GP:Qy:=fM "edgetally.net" 495 "nodes_by_level" 37 272
def b276:Qy:=tS 539 ["rests","filled","behind","tables","dealings","counts","tables_behind","dealings_behind"]
def b278:Qy:=fB "node_counts" "node_counts" (top 38)
def NY:Qy:=cG "node_counts" 536 140 3 0 274 181 547
def GO:Qy:=fM "edgetally.net" 495 "node_counts" 38 279
def b283:Qy:=fB "counted_nodes" "counted_nodes" (top 39)
def NX:Qy:=cF "counted_nodes" 550 148 3 0 281 181 553
def GN:Qy:=fM "edgetally.net" 495 "counted_nodes" 39 284
def b288:Qy:=⟨(.type "dict"),PH,(.dict #[(E P "__module__" 563 tx1),(E P "__qualname__" 565 (.str "Net" 564)),(E P "__firstlineno__" 567 (.int 158 566)),(eR P "__init__" 579 300),(eR P "__eq__" 587 307),(eR P "__len__" 594 314),(eR P "rowsums" 601 321),(eR P "columnsums" 608 328),(eR P "bounds" 614 333),(eR P "counts_at" 623 340),(eR P "tables" 630 347),(eR P "dealings" 637 354),(eR P "steps" 643 359),(eR P "paper" 650 366),(eR P "__static_attributes__" 655 367)] 15),#[]⟩
def b290:Qy:=nT [160,4,299,168,4,306,171,4,313,174,4,320,177,4,327,180,4,332,183,4,339,186,4,346,189,4,353,192,4,358,197,4,365]
def b291:Qy:=cC "Net" "Net" 558 158 0 0 0 0 289 PU 181 290 .none .none .none .none 561 158 562
def b292:Qy:=⟨(.type "frame"),PH,.plain,#[(on (.ref 291)),(on (.ref 3)),(on (.ref 288)),PH,(on tx1),PH,(on (.ref 0))]⟩
def NW:Qy:=⟨(.type "dict"),PH,(.dict #[(E P "bounds" 568 .none)] 1),#[]⟩
def b296:Qy:=tS 572 ["self","rowsums","columnsums","bounds","settled"]
def b298:Qy:=fB "__init__" "Net.__init__" (aE (top 40) 0)
def NV:Qy:=cC "__init__" "Net.__init__" 569 160 3 0 1 3 294 PP 181 295 .none (.ref 296) (.ref 297) (.ref 298) 577 160 578
def GM:Qy:=fO (FN "__init__" "Net.__init__" (aE (top 40) 0) .none (.ref 293) .none tx1 PH (.ref 299) .none)
def b303:Qy:=tS 583 ["self","other"]
def b305:Qy:=fB "__eq__" "Net.__eq__" (aE (top 40) 1)
def b306:Qy:=cC "__eq__" "Net.__eq__" 580 168 2 0 0 3 301 PP 181 302 .none (.ref 303) (.ref 304) (.ref 305) 585 168 586
def b307:Qy:=fO (FN "__eq__" "Net.__eq__" (aE (top 40) 1) .none .none .none tx1 PH (.ref 306) .none)
def b310:Qy:=tS 591 ["self"]
def b312:Qy:=fB "__len__" "Net.__len__" (aE (top 40) 2)
def b313:Qy:=cC "__len__" "Net.__len__" 588 171 1 0 0 3 308 PP 181 309 .none (.ref 310) (.ref 311) (.ref 312) 592 171 593
def b314:Qy:=fO (FN "__len__" "Net.__len__" (aE (top 40) 2) .none .none .none tx1 PH (.ref 313) .none)
def b317:Qy:=tS 598 ["self"]
def b319:Qy:=fB "rowsums" "Net.rowsums" (aE (top 40) 3)
def NU:Qy:=cC "rowsums" "Net.rowsums" 595 174 1 0 0 3 315 PP 181 316 .none (.ref 317) (.ref 318) (.ref 319) 599 174 600
def GL:Qy:=fO (FN "rowsums" "Net.rowsums" (aE (top 40) 3) .none .none .none tx1 PH (.ref 320) .none)
def b324:Qy:=tS 605 ["self"]
def b326:Qy:=fB "columnsums" "Net.columnsums" (aE (top 40) 4)
def NT:Qy:=cC "columnsums" "Net.columnsums" 602 177 1 0 0 3 322 PP 181 323 .none (.ref 324) (.ref 325) (.ref 326) 606 177 607
def GK:Qy:=fO (FN "columnsums" "Net.columnsums" (aE (top 40) 4) .none .none .none tx1 PH (.ref 327) .none)
def b331:Qy:=fB "bounds" "Net.bounds" (aE (top 40) 5)
def b332:Qy:=cC "bounds" "Net.bounds" 609 180 1 0 0 3 329 PP 181 330 .none .none .none (.ref 331) 612 180 613
def b333:Qy:=fO (FN "bounds" "Net.bounds" (aE (top 40) 5) .none .none .none tx1 PH (.ref 332) .none)
def b336:Qy:=tS 618 ["self","level","rests"]
def b338:Qy:=fB "counts_at" "Net.counts_at" (aE (top 40) 6)
def NS:Qy:=cC "counts_at" "Net.counts_at" 615 183 3 0 0 3 334 PP 181 335 .none (.ref 336) (.ref 337) (.ref 338) 621 183 622
def GJ:Qy:=fO (FN "counts_at" "Net.counts_at" (aE (top 40) 6) .none .none .none tx1 PH (.ref 339) .none)
def b343:Qy:=tS 627 ["self"]
def b345:Qy:=fB "tables" "Net.tables" (aE (top 40) 7)
def b346:Qy:=cC "tables" "Net.tables" 624 186 1 0 0 3 341 PP 181 342 .none (.ref 343) (.ref 344) (.ref 345) 628 186 629
def b347:Qy:=fO (FN "tables" "Net.tables" (aE (top 40) 7) .none .none .none tx1 PH (.ref 346) .none)
def b350:Qy:=tS 634 ["self"]
def b352:Qy:=fB "dealings" "Net.dealings" (aE (top 40) 8)
def NR:Qy:=cC "dealings" "Net.dealings" 631 189 1 0 0 3 348 PP 181 349 .none (.ref 350) (.ref 351) (.ref 352) 635 189 636
def GI:Qy:=fO (FN "dealings" "Net.dealings" (aE (top 40) 8) .none .none .none tx1 PH (.ref 353) .none)
def b357:Qy:=fB "steps" "Net.steps" (aE (top 40) 9)
def NQ:Qy:=cC "steps" "Net.steps" 638 192 3 0 0 3 355 PP 181 356 .none .none .none (.ref 357) 641 192 642
def GH:Qy:=fO (FN "steps" "Net.steps" (aE (top 40) 9) .none .none .none tx1 PH (.ref 358) .none)
def b362:Qy:=tS 647 ["self"]
def b364:Qy:=fB "paper" "Net.paper" (aE (top 40) 10)
def b365:Qy:=cC "paper" "Net.paper" 644 197 1 0 0 3 360 PP 181 361 .none (.ref 362) (.ref 363) (.ref 364) 648 197 649
def b366:Qy:=fO (FN "paper" "Net.paper" (aE (top 40) 10) .none .none .none tx1 PH (.ref 365) .none)
def b367:Qy:=tS 651 ["column_list","counted","pairs","row_list"]
def NP:Qy:=⟨(.type "dict"),PH,(.dict #[(E P "__module__" 563 tx1),(E P "__firstlineno__" 567 (.int 158 566)),(eR P "__init__" 579 300),(eR P "__eq__" 587 307),(eR P "__len__" 594 314),(eR P "rowsums" 601 321),(eR P "columnsums" 608 328),(eR P "bounds" 614 333),(eR P "counts_at" 623 340),(eR P "tables" 630 347),(eR P "dealings" 637 354),(eR P "steps" 643 359),(eR P "paper" 650 366),(eR P "__static_attributes__" 655 367),(eR P "__dict__" 657 370),(eR P "__weakref__" 659 371),(E P "__doc__" 660 .none),(E P "__hash__" 661 .none)] 5),#[]⟩
noncomputable def NO:Qy:=⟨(.type "type"),PH,(.cls ⟨"Net",[(.type "object")],[(.ref 369),(.type "object")],368,"Net",PP,[],[],PU,PH,PU⟩),#[PH,PH,(on (.str "Net" 556)),(on (.str "Net" 564)),(on (.builtin "object.__new__")),(on (.bool PP))]⟩
noncomputable def b370:Qy:=⟨(.type "getset_descriptor"),PH,(.fields #[(.str "__dict__" 656),(.ref 369),(.builtin "function.__dict__"),(.builtin "function.__dict__#set")]),#[]⟩
noncomputable def b371:Qy:=⟨(.type "getset_descriptor"),PH,(.fields #[(.str "__weakref__" 658),(.ref 369),(.builtin "ExceptionGroup.__weakref__"),.none]),#[]⟩
noncomputable def b372:Qy:=⟨(.type "super"),PH,(.fields #[(.ref 369),(.ref 369),(.ref 369)]),#[]⟩
def b373:Qy:=iSs 369
def b376:Qy:=tS 669 ["k","many"]
def b378:Qy:=fB "check_number" "check_number" (top 42)
def NN:Qy:=cG "check_number" 666 200 2 0 374 181 671
def GG:Qy:=fM "edgetally.order" 664 "check_number" 42 379
def b383:Qy:=tS 677 ["net","level","rests","told","counts","tables","dealings"]
def b385:Qy:=fB "steps_counted" "steps_counted" (top 43)
def NM:Qy:=cG "steps_counted" 674 203 3 0 381 181 684
def GF:Qy:=fM "edgetally.order" 664 "steps_counted" 43 386
def b390:Qy:=tS 690 ["numbered","k","at"]
def b392:Qy:=fB "falls_to" "falls_to" (top 44)
def NL:Qy:=cG "falls_to" 687 209 2 0 388 181 693
def GE:Qy:=fM "edgetally.order" 664 "falls_to" 44 393
def b397:Qy:=fB "kth_dealing" "kth_dealing" (top 45)
def NK:Qy:=cF "kth_dealing" 696 215 2 0 395 181 699
def GD:Qy:=fM "edgetally.order" 664 "kth_dealing" 45 398
def b402:Qy:=fB "columns_asked" "columns_asked" (top 46)
def NJ:Qy:=cF "columns_asked" 702 226 2 0 400 181 705
def GC:Qy:=fM "edgetally.order" 664 "columns_asked" 46 403
def b407:Qy:=tS 711 ["net","level","rests","filling","tables_ahead","dealings_ahead","counts","tables","dealings"]
def b409:Qy:=fB "counted_ahead" "counted_ahead" (top 47)
def NI:Qy:=cG "counted_ahead" 708 231 4 0 405 181 720
def GB:Qy:=fM "edgetally.order" 664 "counted_ahead" 47 410
def b414:Qy:=tS 726 ["net","rows","rests","first","many","level","filling"]
def b416:Qy:=fB "stretch" "stretch" (top 48)
def NH:Qy:=cG "stretch" 723 240 2 0 412 181 733
def GA:Qy:=fM "edgetally.order" 664 "stretch" 48 417
def b421:Qy:=fB "_law_bag" "_law_bag" (top 50)
def NG:Qy:=cF "_law_bag" 738 250 1 0 419 181 741
def FZ:Qy:=fL "_law_bag" "_law_bag" 50 422
def b426:Qy:=tS 747 ["_law_bag_here","_law_lot","_law_cells","_law_at","_law_cell"]
def b428:Qy:=fB "_law_pull" "_law_pull" (top 51)
def NF:Qy:=cG "_law_pull" 744 252 2 0 424 181 752
def FY:Qy:=fL "_law_pull" "_law_pull" 51 429
def b433:Qy:=fB "_law_same" "_law_same" (top 52)
def NE:Qy:=cF "_law_same" 755 262 2 0 431 181 758
def FX:Qy:=fL "_law_same" "_law_same" 52 434
def b438:Qy:=fB "_law_grid" "_law_grid" (top 53)
def ND:Qy:=cF "_law_grid" 761 274 4 0 436 181 764
def FW:Qy:=fL "_law_grid" "_law_grid" 53 439
def b443:Qy:=tS 770 ["_law_bag_here","_law_way","_law_block","_law_columns"]
def b445:Qy:=fB "_law_small" "_law_small" (top 54)
def NC:Qy:=cG "_law_small" 767 281 1 0 441 181 774
def FV:Qy:=fL "_law_small" "_law_small" 54 446
def b450:Qy:=fB "_law_turned" "_law_turned" (top 55)
def NB:Qy:=cF "_law_turned" 777 292 1 0 448 181 780
def FU:Qy:=fL "_law_turned" "_law_turned" 55 451
def b455:Qy:=fB "_law_rowsums" "_law_rowsums" (top 56)
def NA:Qy:=cF "_law_rowsums" 783 294 1 0 453 181 786
def FT:Qy:=fL "_law_rowsums" "_law_rowsums" 56 456
def b460:Qy:=fB "_law_columnsums" "_law_columnsums" (top 57)
def Nz:Qy:=cF "_law_columnsums" 789 296 1 0 458 181 792
def FS:Qy:=fL "_law_columnsums" "_law_columnsums" 57 461
def b465:Qy:=fB "_law_free" "_law_free" (top 58)
def Ny:Qy:=cF "_law_free" 795 298 2 0 463 181 798
def FR:Qy:=fL "_law_free" "_law_free" 58 466
def b470:Qy:=tS 804 ["_law_bag_here","_law_grid_here","_law_told","_law_at","_law_row","_law_to","_law_count","_law_way"]
def b472:Qy:=fB "_law_bounds" "_law_bounds" (top 59)
def Nx:Qy:=cG "_law_bounds" 801 300 2 0 468 181 812
def FQ:Qy:=fL "_law_bounds" "_law_bounds" 59 473
def b477:Qy:=fB "_law_copied" "_law_copied" (top 60)
def Nw:Qy:=cF "_law_copied" 815 312 1 0 475 181 818
def FP:Qy:=fL "_law_copied" "_law_copied" 60 478
def b482:Qy:=fB "_law_fit" "_law_fit" (top 61)
def Nv:Qy:=cF "_law_fit" 821 314 3 0 480 181 824
def FO:Qy:=fL "_law_fit" "_law_fit" 61 483
def b487:Qy:=fB "_law_less" "_law_less" (top 62)
def Nu:Qy:=cF "_law_less" 827 323 2 0 485 181 830
def FM:Qy:=fL "_law_less" "_law_less" 62 488
def b492:Qy:=fB "_law_listing" "_law_listing" (top 63)
def Nr:Qy:=cF "_law_listing" 833 325 3 0 490 181 836
def FK:Qy:=fL "_law_listing" "_law_listing" 63 493
def b497:Qy:=tS 842 ["_law_grid_here","_law_limits"]
def b499:Qy:=fB "_law_all" "_law_all" (top 64)
def Nq:Qy:=cG "_law_all" 839 334 2 0 495 181 844
def FJ:Qy:=fL "_law_all" "_law_all" 64 500
def b504:Qy:=tS 850 ["_law_lot","_law_found","_law_k"]
def b506:Qy:=fB "_law_factorial" "_law_factorial" (top 65)
def Np:Qy:=cG "_law_factorial" 847 336 1 0 502 181 853
def FI:Qy:=fL "_law_factorial" "_law_factorial" 65 507
def b511:Qy:=tS 859 ["_law_parts","_law_under","_law_part"]
def b513:Qy:=fB "_law_ways" "_law_ways" (top 66)
def No:Qy:=cG "_law_ways" 856 341 1 0 509 181 862
def FH:Qy:=fL "_law_ways" "_law_ways" 66 514
def b518:Qy:=tS 868 ["_law_columns","_law_found","_law_column"]
def b520:Qy:=fB "_law_weight" "_law_weight" (top 67)
def Nn:Qy:=cG "_law_weight" 865 346 1 0 516 181 871
def FG:Qy:=fL "_law_weight" "_law_weight" 67 521
def b525:Qy:=tS 877 ["_law_grid_here","_law_limits"]
def b527:Qy:=fB "_law_net" "_law_net" (top 68)
def Nm:Qy:=cG "_law_net" 874 351 2 0 523 181 879
def FF:Qy:=fL "_law_net" "_law_net" 68 528
def b532:Qy:=fB "law" "law" (top 69)
def Nl:Qy:=cF "law" 882 353 1 0 530 181 885
def FE:Qy:=fL "law" "law" 69 533
def h0_3:Qy:=⟨(.type "dict"),PH,(.dict (((mL P).take 9).set 0 (E P "__name__" 165 tx2)).toArray 9),#[]⟩
def Pq:Qy:=nO []
def h1_3:Qy:=⟨(.type "dict"),PH,(.dict (((mL P).take 9).set 0 (E P "__name__" 165 tx2)).toArray 9),#[]⟩
def Pj:Qy:=nT [1,0,20,5,0,27,10,0,47,14,0,67,18,0,87]
def k1_3:Qy:=⟨(.type "dict"),PH,(.dict (((mL P).take 14).set 0 (E P "__name__" 165 tx0)).toArray 14),#[]⟩
noncomputable def Pi:Qy:=⟨(.type "type"),PH,(.cls ⟨"EdgeError",[(.type "ValueError")],[(.ref 38),(.type "ValueError"),(.type "Exception"),(.type "BaseException"),(.type "object")],37,"EdgeError",PP,[],[(.ref 59),(.ref 79),(.ref 98)],PU,PH,PU⟩),#[(on (.ref 22)),PH,(on (.str "EdgeError" 196)),(on (.str "EdgeError" 204)),(on (.builtin "ValueError.__new__")),(on (.bool PP))]⟩
def Ph:Qy:=nT [1,0,20,5,0,27,10,0,47,14,0,67,18,0,87,23,0,106,29,0,125,33,0,145,42,0,165,44,0,170,55,0,177,59,0,182,68,0,187,71,0,194]
def k2_3:Qy:=⟨(.type "dict"),PH,(.dict (((mL P).take 27).set 0 (E P "__name__" 165 (.str "edgetally.counts" 420))).toArray 27),#[]⟩
def Pg:Qy:=nT [1,0,20,5,0,27,10,0,47,14,0,67,18,0,87,23,0,106,29,0,125,33,0,145,42,0,165,44,0,170,55,0,177,59,0,182,68,0,187,71,0,194,76,0,201,84,0,206,94,0,211,96,0,216,99,0,221,101,0,226,103,0,231,105,0,236,110,0,243,117,0,250,123,0,257,128,0,262,130,0,267,132,0,272,140,0,279,148,0,284]
def k3_3:Qy:=⟨(.type "dict"),PH,(.dict (((mL P).take 44).set 0 (E P "__name__" 165 tx1)).toArray 44),#[]⟩
def Pf:Qy:=nT [1,0,20,5,0,27,10,0,47,14,0,67,18,0,87,23,0,106,29,0,125,33,0,145,42,0,165,44,0,170,55,0,177,59,0,182,68,0,187,71,0,194,76,0,201,84,0,206,94,0,211,96,0,216,99,0,221,101,0,226,103,0,231,105,0,236,110,0,243,117,0,250,123,0,257,128,0,262,130,0,267,132,0,272,140,0,279,148,0,284,158,0,291,200,0,379,203,0,386,209,0,393,215,0,398,226,0,403,231,0,410,240,0,417,250,0,422,252,0,429,262,0,434,274,0,439,281,0,446,292,0,451,294,0,456]
noncomputable def k4_3:Qy:=⟨(.type "dict"),PH,(.dict ((mL P).take 59).toArray 59),#[]⟩
def kL:List Qy:=[b0 P,b1 P,b2,b3 P,b4,b5,b6,b7,b8,b9,b10,b7,b12,b13,b14,b7,b8,b17,b7,b19,b20,b21,b22,b23,b24 P,b7,b26,b27,b28,b7,b8,b31,b7,b33,b34,b35,b36,b37 P,b38,b39,b40,b41,b42,b23,b44 P,b7,b46,b47,b48,b49,b7,b8,b52,b7,b54,b55,b56,b7,b58 P,b59,b60,b61,b42,b23,b64 P,b7,b66,b67,b68,b69,b7,b8,b72,b7,b74,b75,b76,b7,b78 P,b79,b80,b81,b42,b23,b84 P,b7,b86,b87,b88,b7,b8,b91,b7,b93,b94,b95,b96,b97 P,b98,b99,b100,b42,b23,b103 P,b7,b105,b106,b107,b7,b8,b110,b7,b112,b113,b114,b115,b116 P,b117,b118,b119,b42,b23,b122 P,b7,b124,b125,b126,b127,b7,b8,b130,b7,b132,b133,b134,b7,b136 P,b137,b138,b139,b42,b23,b142 P,b7,b144,b145,b146,b147,b7,b8,b150,b7,b152,b153,b154,b7,b156 P,b157,b158,b159,Ol,Oj P,b7,b8,b164,Oi,HI,b7,b8,b169,Oh,HH,b7,b8,b174,b7,b176,Og,HG,b7,b8,b181,Of,HF,b7,b8,b186,Oe,HE,b7,b8,b191,b7,b193,Od,HD,b7,b8,b198,b7,b200,Oc,HC,b7,b8,b205,Ob,HB,b7,b8,b210,Oa,HA,b7,b8,b215,N9,GZ,b7,b8,b220,N8,GY,b7,b8,b225,N7,GX,b7,b8,b230,N6,GW,b7,b8,b235,N5,GV,b7,b8,b240,b7,b242,N4,GU,b7,b8,b247,b7,b249,N3,GT,b7,b8,b254,b7,b256,N2,GS,b7,b8,b261,N1,GR,b7,b8,b266,N0,GQ,b7,b8,b271,NZ,GP,b7,b8,b276,b7,b278,NY,GO,b7,b8,b283,NX,GN,b7,b23,b288 P,b7,b290,b291,b292,NW P,b7,b8,b296,b7,b298,NV,GM,b7,b8,b303,b7,b305,b306,b307,b7,b8,b310,b7,b312,b313,b314,b7,b8,b317,b7,b319,NU,GL,b7,b8,b324,b7,b326,NT,GK,b7,b8,b331,b332,b333,b7,b8,b336,b7,b338,NS,GJ,b7,b8,b343,b7,b345,b346,b347,b7,b8,b350,b7,b352,NR,GI,b7,b8,b357,NQ,GH,b7,b8,b362,b7,b364,b365,b366,b367,NP P,NO,b370,b371,b372,b373,b7,b8,b376,b7,b378,NN,GG,b7,b8,b383,b7,b385,NM,GF,b7,b8,b390,b7,b392,NL,GE,b7,b8,b397,NK,GD,b7,b8,b402,NJ,GC,b7,b8,b407,b7,b409,NI,GB,b7,b8,b414,b7,b416,NH,GA,b7,b8,b421,NG,FZ,b7,b8,b426,b7,b428,NF,FY,b7,b8,b433,NE,FX,b7,b8,b438,ND,FW,b7,b8,b443,b7,b445,NC,FV,b7,b8,b450,NB,FU,b7,b8,b455,NA,FT,b7,b8,b460,Nz,FS,b7,b8,b465,Ny,FR,b7,b8,b470,b7,b472,Nx,FQ,b7,b8,b477,Nw,FP,b7,b8,b482,Nv,FO,b7,b8,b487,Nu,FM,b7,b8,b492,Nr,FK,b7,b8,b497,b7,b499,Nq,FJ,b7,b8,b504,b7,b506,Np,FI,b7,b8,b511,b7,b513,No,FH,b7,b8,b518,b7,b520,Nn,FG,b7,b8,b525,b7,b527,Nm,FF,b7,b8,b532,Nl,FE]
def h0H:Rl:=⟨⟨((kL P).take 11).set 3 (h0_3 P)⟩,{}⟩
def h1H:Rl:=⟨⟨(((kL P).take 15).set 3 (h1_3 P)).set 12 (Pq)⟩,{}⟩
def k1H:Rl:=⟨⟨((((kL P).take 101).set 3 (k1_3 P)).set 12 (Pj)).set 38 (Pi)⟩,{}⟩
def k2H:Rl:=⟨⟨(((kL P).take 196).set 3 (k2_3 P)).set 12 (Ph)⟩,{}⟩
def k3H:Rl:=⟨⟨(((kL P).take 286).set 3 (k3_3 P)).set 12 (Pg)⟩,{}⟩
def k4H:Rl:=⟨⟨(((kL P).take 458).set 3 (k4_3 P)).set 12 (Pf)⟩,{}⟩
noncomputable def k5H:Rl:=⟨⟨kL P⟩,{}⟩
end
def KH:Xf->Qp:=λP=>
[(2,b2),(3,b3 P),(34,b34),(35,b35),(37,b37 P),(38,b38),(160,Ol),(161,Oj P),(165,Oi),(166,HI),(170,Oh),(171,HH),(177,Og),(178,HG),(182,Of),(183,HF),(187,Oe),(188,HE),(194,Od),(195,HD),(201,Oc),(202,HC),(206,Ob),(207,HB),(211,Oa),(212,HA),(216,N9),(217,GZ),(221,N8),(222,GY),(226,N7),(227,GX),(231,N6),(232,GW),(236,N5),(237,GV),(243,N4),(244,GU),(250,N3),(251,GT),(257,N2),(258,GS),(262,N1),(263,GR),(267,N0),(268,GQ),(272,NZ),(273,GP),(279,NY),(280,GO),(284,NX),(285,GN),(293,NW P),(299,NV),(300,GM),(320,NU),(321,GL),(327,NT),(328,GK),(339,NS),(340,GJ),(353,NR),(354,GI),(358,NQ),(359,GH),(368,NP P),(369,NO),(379,NN),(380,GG),(386,NM),(387,GF),(393,NL),(394,GE),(398,NK),(399,GD),(403,NJ),(404,GC),(410,NI),(411,GB),(417,NH),(418,GA),(422,NG),(423,FZ),(429,NF),(430,FY),(434,NE),(435,FX),(439,ND),(440,FW),(446,NC),(447,FV),(451,NB),(452,FU),(456,NA),(457,FT),(461,Nz),(462,FS),(466,Ny),(467,FR),(473,Nx),(474,FQ),(478,Nw),(479,FP),(483,Nv),(484,FO),(488,Nu),(489,FM),(493,Nr),(494,FK),(500,Nq),(501,FJ),(507,Np),(508,FI),(514,No),(515,FH),(521,Nn),(522,FG),(528,Nm),(529,FF),(533,Nl),(534,FE)]
noncomputable def aH:List PX:=[2,3,34,35,37,38,160,161,165,166,170,171,177,178,182,183,187,188,194,195,201,202,206,207,211,212,216,217,221,222,226,227,231,232,236,237,243,244,250,251,257,258,262,263,267,268,272,273,279,280,284,285,293,299,300,320,321,327,328,339,340,353,354,358,359,368,369,379,380,386,387,393,394,398,399,403,404,410,411,417,418,422,423,429,430,434,435,439,440,446,447,451,452,456,457,461,462,466,467,473,474,478,479,483,484,488,489,493,494,500,501,507,508,514,515,521,522,528,529,533,534]
theorem eH:∀P,aH=(KH P).map (·.1):=λ_=>by kernel_rfl
noncomputable def qH:QD:={PySem.Challenge.pw_edgetally_k26_dealings_by_number with main:={PySem.Challenge.pw_edgetally_k26_dealings_by_number.main with body:=[top 0,top 2,top 3,top 4,top 5,top 6,top 7,top 8,top 10,top 11,top 12,top 13,top 15,top 16,top 17,top 18,top 20,top 21,top 22,top 24,top 25,top 26,top 27,top 28,top 29,top 30,top 32,top 33,top 34,top 35,top 36,top 37,top 38,top 39,top 40,top 42,top 43,top 44,top 45,top 46,top 47,top 48,top 50,top 51,top 52,top 53,top 54,top 55,top 56,top 57,top 58,top 59,top 60,top 61,top 62,top 63,top 64,top 65,top 66,top 67,top 68,top 69]}}
noncomputable abbrev lvH:List (QN×PySem.W.WData):=[("FREE",PySem.W.WData.tuple [Xb 0,Xb 40])]
noncomputable abbrev loH:List QN:=["BadSums","BadBounds","BadNumber","NoTable","FREE","free","Net"]
abbrev hkH:=PySem.W.kHook KH aH eH
def xtH(s:P7):Bool:=PySem.W.xlAt qH lvH s&&PySem.W.recOk (PySem.W.RowW.records (Sm (SI QJ))) s
noncomputable abbrev pH:QD:=Xg (Sm (SI QJ))
noncomputable def bdH:List Rh:=PySem.W.behindTheImports pH
noncomputable def evH:WV:={scope:=pH.main.scope,locals:=mainNs,globals:=mainNs,cells:=[],code:=(.ref 13),frame:=(on 14)}
def cH:Code:= .body bdH evH
noncomputable abbrev tpH:List Frame:=[PySem.W.topFrame ⟨0,0,0,0⟩]
theorem opH(w:QS):(PySem.W.fencedOpening RY pH w 7706).map (λs=>(s.heap,s.gens,s.drawn,s.toks))=on (h0H w.params,#[],{},181):=by kernel_rfl
theorem szH(w:QS):((h0H w.params).isNs Sh&&(#[]:Array GenState).size==0,(h0H w.params).objs.size,(h0H w.params).nsMap Sh "__annotations__")=(PP,11,(on (.ref 6))):=by kernel_rfl
theorem r1H(w:QS)(os:VF):PySem.W.topGo RY pH w 11 (on (.ref 6)) 12 ⟨h0H w.params,#[],{},181,os⟩ (YY pH)=on (⟨h1H w.params,#[],{},187,os⟩,⟨denote RY (.body bdH evH),cH,⟨0,0,0,0⟩,tpH⟩):=by kernel_rfl
theorem r2H(w:QS)(os:VF):Ug RY pH w 11 (on (.ref 6)) 1 1 ⟨h1H w.params,#[],{},187,os⟩ (PySem.W.blockOf bdH evH cH ⟨0,0,0,0⟩ tpH)=on (.next,⟨h1H w.params,#[],{},187,os⟩,cH,⟨0,0,0,0⟩):=by kernel_rfl
theorem c1H(w:QS)(os:VF):Ug RY pH w 11 (on (.ref 6)) 1 995 ⟨h1H w.params,#[],{},187,os⟩ (Um (bdH.take 6) evH cH ⟨0,0,0,0⟩ tpH)=on (.next,⟨k1H w.params,#[],{},299,os⟩,cH,⟨18,0,22,24⟩):=by kernel_rfl
theorem c2H(w:QS)(os:VF):Ug RY pH w 11 (on (.ref 6)) 1 971 ⟨k1H w.params,#[],{},299,os⟩ (Um ((bdH.drop 6).take 15) evH cH ⟨18,0,22,24⟩ tpH)=on (.next,⟨k2H w.params,#[],{},431,os⟩,cH,⟨71,0,75,18⟩):=by kernel_rfl
theorem c3H(w:QS)(os:VF):Ug RY pH w 11 (on (.ref 6)) 1 477 ⟨k2H w.params,#[],{},431,os⟩ (Um (((bdH.drop 6).drop 15).take 19) evH cH ⟨71,0,75,18⟩ tpH)=on (.next,⟨k3H w.params,#[],{},556,os⟩,cH,⟨148,0,157,112⟩):=by kernel_rfl
theorem c4H(w:QS)(os:VF):Ug RY pH w 11 (on (.ref 6)) 1 980 ⟨k3H w.params,#[],{},556,os⟩ (Um ((((bdH.drop 6).drop 15).drop 19).take 17) evH cH ⟨148,0,157,112⟩ tpH)=on (.next,⟨k4H w.params,#[],{},789,os⟩,cH,⟨294,0,295,57⟩):=by kernel_rfl
theorem c5H(w:QS)(os:VF):Ug RY pH w 11 (on (.ref 6)) 1 372 ⟨k4H w.params,#[],{},789,os⟩ (Um (((((bdH.drop 6).drop 15).drop 19).drop 17).take 13) evH cH ⟨294,0,295,57⟩ tpH)=on (.next,⟨k5H w.params,#[],{},888,os⟩,cH,⟨353,0,368,15⟩):=by kernel_rfl
theorem e0H:(((((bdH.drop 6).drop 15).drop 19).drop 17).drop 13)=[]:=by kernel_rfl
theorem r9H(w:QS)(os:VF):Ze RY pH w 11 (on (.ref 6)) 2 ⟨k5H w.params,#[],{},888,os⟩ ⟨PySem.W.doneF .next,cH,⟨353,0,368,15⟩,tpH⟩=on ⟨k5H w.params,#[],{},888,os⟩:=by kernel_rfl
theorem rnH(w:QS)(os:VF):Ze RY pH w 11 (on (.ref 6)) (12+(1+(995+(971+(477+(980+(372+2))))))) ⟨h0H w.params,#[],{},181,os⟩ (YY pH)=on ⟨k5H w.params,#[],{},888,os⟩:=PySem.W.go_top (r1H w os) (PySem.W.piece_block (r2H w os) (jc 6 (c1H w os) (jc 15 (c2H w os) (jc 19 (c3H w os) (jc 17 (c4H w os) (jc 13 (c5H w os) (EK e0H (r9H w os))))))))
theorem hlH:PySem.W.LeftO pH qH loH xtH (PySem.W.Hook.obs hkH) (PySem.W.Hook.val hkH) 7706:=PySem.W.LeftO.of_pieces (H₀:=h0H) (H₁:=k5H) opH szH rnH (by decide +kernel) λw=>by kernel_rfl
theorem wsH:PySem.W.OpenLaw.wellSaid QJ=PP:=by decide +kernel
theorem okH:(PySem.W.chainsOk qH&&PySem.W.opensWell (Xg (Sm (SI QJ)))&&(PySem.W.frees (Sm (SI QJ))&&(PySem.W.RowW.within (Sm (SI QJ))).isEmpty))=PP:=by decide +kernel
abbrev adH:Ad:={Aa:=38,Ab:=35,Ac:=fD b35,Ae:=369,Af:=166,Ag:=fD HI,Ah:=171,Ai:=fD HH,Aj:=178,Ak:=fD HG,Al:=183,Am:=fD HF,An:=188,Ao:=fD HE,Aq:=195,Ar:=fD HD,As:=202,At:=fD HC,Au:=207,Av:=fD HB,Aw:=212,Ax:=fD HA,Ay:=217,Az:=fD GZ,A0:=222,A1:=fD GY,A2:=227,A3:=fD GX,A4:=232,A5:=fD GW,A6:=237,A7:=fD GV,A8:=244,A9:=fD GU,Ba:=251,Bb:=fD GT,Bc:=258,Bd:=fD GS,Be:=263,Bf:=fD GR,Bh:=268,Bi:=fD GQ,Bj:=273,Bk:=fD GP,Bl:=280,Bm:=fD GO,Bn:=285,Bo:=fD GN,Bp:=380,Bq:=fD GG,Br:=387,Bs:=fD GF,Bt:=394,Bu:=fD GE,Bv:=399,Bw:=fD GD,Bx:=404,By:=fD GC,Bz:=411,B0:=fD GB,B5:=418,B7:=fD GA,B8:=423,Ca:=fD FZ,Cb:=430,Cc:=fD FY,Cd:=435,Cf:=fD FX,Cg:=440,Ch:=fD FW,Ci:=447,Cj:=fD FV,Ck:=452,Cl:=fD FU,Cm:=457,Cn:=fD FT,Co:=462,Cp:=fD FS,Cq:=467,Cr:=fD FR,Cs:=474,Ct:=fD FQ,Cu:=479,Cv:=fD FP,Cw:=484,Cy:=fD FO,Cz:=489,C0:=fD FM,C2:=494,C3:=fD FK,C4:=501,C5:=fD FJ,C6:=508,C7:=fD FI,C8:=515,C9:=fD FH,Da:=522,Db:=fD FG,Dd:=529,Df:=fD FF,Dg:=300,Dh:=fD GM,Di:=321,Dj:=fD GL,Dl:=328,Dm:=fD GK,Do:=359,Dp:=fD GH,Dq:=340,Dr:=fD GJ,Dt:=354,Du:=fD GI,Dv:=534,Dw:=fD FE}
section
variable{P:Xf}{h:Rl}{mg:QN->Option PY}
theorem fH{x q:QN}{s:Rh}{f:PX}{a b d e cd ct:PY}{g:Option PX}(l:(KH P).lookup f=on (fO (FN x q s a b d e g cd ct)):=by kernel_rfl)(c:UM (KH P) cd q=PP:=by kernel_rfl)(k:Vt (KH P) (.ref f)=PP:=by kernel_rfl):FunD (KH P) x q s f (FN x q s a b d e g cd ct):=Lg l c k
theorem mO(X:(KH P).In h)(G:h.Ns Sh mg){n:QN}{v:PY}(e:PySem.W.nsIn (KH P) Sh n=on (on v):=by kernel_rfl):mg n=on v:=mg_of X G e
theorem mN(X:(KH P).In h)(G:h.Ns Sh mg){n:QN}(e:PySem.W.nsIn (KH P) Sh n=on PH:=by kernel_rfl):mg n=PH:=PySem.W.mg_none_of X G e
theorem nH(X:(KH P).In h)(G:h.Ns Sh mg):Fns (KH P) mg adH where
 Dx:=mN X G
 Dy:=mN X G
 Dz:=mN X G
 D0:=mN X G
 D3:=mN X G
 D4:=mN X G
 D5:=mN X G
 D6:=mN X G
 D7:=mN X G
 D8:=mN X G
 D9:=mN X G
 Ea:=mN X G
 Eb:=mN X G
 Ec:=mN X G
 Ed:=mN X G
 Ee:=mN X G
 Ef:=mN X G
 Eg:=mN X G
 Eh:=qL (u:=(.int 40 378)) (mO X G) m9
 Ei:=qL (u:=(.int 6 382)) (mO X G) m9
 Ej:=qL (u:=(.int 4 380)) (mO X G) m9
 Ek:=qL (u:=(.int 500 497)) (mO X G) m9
 El:=fH
 Em:=mO X G
 En:=Ng (us:=[(.ref 160)]) 2 rfl (λs us a b=>by obtain⟨c,d,rfl⟩:=lU2 b;exact PySem.W.kp_binds a λS=>by kernel_rfl) (Ll (JT (p:=160) (q1:=(.type "tuple")) (q2:=PH) (q3:=#[(.int 0 384),(.int 40 378)]) (q4:=0) (q5:=#[]) (by kernel_rfl) rfl (by decide) (by repeat (first|exact trivial|refine⟨rfl,?_⟩))) Nd)
 Eo:=fH
 Ep:=mO X G
 Er:= .all (bA2 λ_ _=>rfl)
 Es:=fH
 Et:=mO X G
 Eu:= .all (bA1 λ_=>rfl)
 Ev:=fH
 Ew:=mO X G
 Ex:= .all (bA3 λ_ _ _=>rfl)
 Ey:=fH
 Ez:=mO X G
 E2:= .all (bA1 λ_=>rfl)
 E3:=fH
 E4:=mO X G
 E5:= .all (bA1 λ_=>rfl)
 E6:=fH
 E7:=mO X G
 E8:= .all (bA1 λ_=>rfl)
 E9:=fH
 Fa:=mO X G
 Fb:= .all (bA3 λ_ _ _=>rfl)
 Fc:=fH
 Fd:=mO X G
 Fe:= .all (bA2 λ_ _=>rfl)
 Ff:=fH
 Fg:=mO X G
 Fh:= .all (bA4 λ_ _ _ _=>rfl)
 Fi:=fH
 Fj:=mO X G
 Fk:= .all (bA3 λ_ _ _=>rfl)
 Fl:=fH
 Fm:=mO X G
 Fn:= .all (bA4 λ_ _ _ _=>rfl)
 Fo:=fH
 Fp:=mO X G
 Fq:= .all (bA3 λ_ _ _=>rfl)
 Fs:=fH
 Ft:=mO X G
 Fu:= .all (bA1 λ_=>rfl)
 Fv:=fH
 Fw:=mO X G
 Fy:= .all (bA3 λ_ _ _=>rfl)
 Fz:=fH
 F4:=mO X G
 F5:= .all (bA1 λ_=>rfl)
 F6:=fH
 F7:=mO X G
 F8:= .all (bA3 λ_ _ _=>rfl)
 F9:=fH
 Ga:=mO X G
 Gb:= .all (bA4 λ_ _ _ _=>rfl)
 Gc:=fH
 Gd:=mO X G
 Ge:= .all (bA2 λ_ _=>rfl)
 Gf:=fH
 Gg:=mO X G
 Gi:= .all (bA3 λ_ _ _=>rfl)
 Gj:=fH
 Gk:=mO X G
 Gm:= .all (bA3 λ_ _ _=>rfl)
 Gn:=fH
 Go:=mO X G
 Gp:= .all (bA3 λ_ _ _=>rfl)
 Gq:=fH
 Gr:=mO X G
 Gs:= .all (bA2 λ_ _=>rfl)
 Gu:=fH
 Gv:=mO X G
 Gx:= .all (bA3 λ_ _ _=>rfl)
 Gy:=fH
 Gz:=mO X G
 G0:= .all (bA2 λ_ _=>rfl)
 G1:=fH
 G2:=mO X G
 G3:= .all (bA2 λ_ _=>rfl)
 G4:=fH
 G5:=mO X G
 G6:= .all (bA2 λ_ _=>rfl)
 G7:=fH
 G8:=mO X G
 G9:= .all (bA4 λ_ _ _ _=>rfl)
 Ha:=fH
 Hb:=mO X G
 Hc:= .all (bA2 λ_ _=>rfl)
 Hd:=fH
 He:=mO X G
 Hf:= .all (bA1 λ_=>rfl)
 Hg:=fH
 Hh:=mO X G
 Hi:= .all (bA2 λ_ _=>rfl)
 Hj:=fH
 Hk:=mO X G
 Hl:= .all (bA2 λ_ _=>rfl)
 Hm:=fH
 Hn:=mO X G
 Ho:= .all (bA4 λ_ _ _ _=>rfl)
 Hq:=fH
 Hr:=mO X G
 Ht:= .all (bA1 λ_=>rfl)
 Hu:=fH
 Hv:=mO X G
 Hw:= .all (bA1 λ_=>rfl)
 Hx:=fH
 Hy:=mO X G
 Hz:= .all (bA1 λ_=>rfl)
 Ia:=fH
 Ib:=mO X G
 Id:= .all (bA1 λ_=>rfl)
 Ie:=fH
 Ig:=mO X G
 Ih:= .all (bA2 λ_ _=>rfl)
 Ii:=fH
 Ij:=mO X G
 Ik:= .all (bA2 λ_ _=>rfl)
 Il:=fH
 Im:=mO X G
 Io:= .all (bA1 λ_=>rfl)
 Ip:=fH
 Iq:=mO X G
 Ir:= .all (bA3 λ_ _ _=>rfl)
 Iu:=fH
 Iw:=mO X G
 Ix:= .all (bA2 λ_ _=>rfl)
 Iy:=fH
 Iz:=mO X G
 I0:= .all (bA3 λ_ _ _=>rfl)
 I9:=fH
 Ja:=mO X G
 Jb:= .all (bA2 λ_ _=>rfl)
 Jc:=fH
 Jd:=mO X G
 Je:= .all (bA1 λ_=>rfl)
 Jf:=fH
 Jg:=mO X G
 Jh:= .all (bA1 λ_=>rfl)
 Ji:=fH
 Jj:=mO X G
 Jk:= .all (bA1 λ_=>rfl)
 Jl:=fH
 Jm:=mO X G
 Jn:= .all (bA2 λ_ _=>rfl)
 Jo:=fH
 Jp:=⟨by kernel_rfl,by kernel_rfl,by kernel_rfl,by kernel_rfl⟩
 Jq:=Pe (sv:=[.kw 0]) (.kw .nil) rfl (by decide) λs us g a e f=>by obtain⟨c,d,i,rfl⟩:=lU3 e;obtain⟨j,rfl⟩:=lU1 f;exact .of_eq rfl
 Jr:=fH
 Js:=⟨by kernel_rfl,by kernel_rfl,by kernel_rfl⟩
 Jt:= .all (bA1 λ_=>rfl)
 Ju:=fH
 Jv:=⟨by kernel_rfl,by kernel_rfl,by kernel_rfl⟩
 Jw:= .all (bA1 λ_=>rfl)
 Jx:=fH
 Jy:=⟨by kernel_rfl,by kernel_rfl,by kernel_rfl⟩
 Jz:= .all (bA3 λ_ _ _=>rfl)
 J0:=fH
 J1:=⟨by kernel_rfl,by kernel_rfl,by kernel_rfl⟩
 J2:= .all (bA3 λ_ _ _=>rfl)
 J3:=fH
 J4:=⟨by kernel_rfl,by kernel_rfl,by kernel_rfl⟩
 J5:= .all (bA1 λ_=>rfl)
 J6:=⟨by kernel_rfl,by kernel_rfl,by kernel_rfl,by kernel_rfl⟩
 J7:=mO X G
 J8:=show Uo (KH P) _ _=_ by kernel_rfl
 J9:=show Uo (KH P) _ _=_ by kernel_rfl
 Ka:=show Uo (KH P) _ _=_ by kernel_rfl
 Kb:=show Uo (KH P) _ _=_ by kernel_rfl
 Kc:=fH
 Kd:= .all (bA3 λ_ _ _=>rfl)
 Ke:=mO X G
 Kf:=⟨by kernel_rfl,by kernel_rfl,by kernel_rfl,by kernel_rfl⟩
theorem wlkH:PySem.W.WalkO qH loH (PySem.W.XL qH lvH) (PySem.W.Hook.says hkH) (Sm (SI QJ)) (Option.get (PySem.W.defOf qH "law") rfl).1 [] (λf vs=>YE f vs):=
 L2.walk_of (n:=63) (k:=9) (x:="_law_script") (CX:=λw=>CXE _ w) (sp:=λw=>IF (KH w.params)) rfl (by decide) rfl ⟨rfl,by decide,by decide,rfl⟩ (λw h Y=>PySem.W.kIn_of Y) (λw mg i h c G b=>by
  have e:=b.symm.trans (mg_of c G (v:= .ref 534) (by kernel_rfl));cases e;exact⟨FN "law" "law" (top 69) .none .none .none (.str "law_edgetally_k26_dealings_by_number" 736) PH (.ref 533) .none,λs v=> .of_eq rfl,λbase _ _=>MC _ _ _ (a:=adH) (fH (by kernel_rfl) (by kernel_rfl) (by kernel_rfl)) (nH c G) λβ ok=>DZ (K:=KH w.params) (a:=adH)  β ok⟩) (λ_ _ a ns d _ g=>⟨a,ns,rfl,g,d,λ_=>rfl⟩) λ_ _ _ _ _ h=>by obtain⟨x,C,j,_,fl⟩:=h;obtain⟨_,_,z⟩:=fl.wish;all_goals exact z
end
end Law
open PySem PySem.W PyProof.Rows
set_option maxHeartbeats 0 in
theorem PySem.Challenge.cw_edgetally_k26_dealings_by_number_holds : PySem.Challenge.rw_edgetally_k26_dealings_by_number.Holds := by
 w_on
 refine holds_law Law.wsH λsaid=>?_;refine holds_open (q:=Law.qH) (loose:=Law.loH) (Xt:=Law.xtH) (XP:=XL Law.qH Law.lvH) (Yf:=Hook.obs Law.hkH) (Ya:=Hook.val Law.hkH) (YP:=Hook.says Law.hkH) (N:=7706) Law.hlH (Hook.of Law.hkH) (Hook.keeps Law.hkH) (λs e=>xl_of s (Ye.mp e).1) XL.keeps (by rfl) (by rfl) (by rfl) (λs e=>recFacts_of (Ye.mp e).2) (by rfl) said Law.okH ⟨rfl,rfl,rfl,rfl,rfl,by decide +kernel⟩ ?hw ?hc
 case hw=>w_witness2
 exact Law.wlkH
