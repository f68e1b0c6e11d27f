import PyProof.Rows.All
import Wide.All
import OpenK.AllK
import Wide.FinOn
import Lean
import PyProof.EqAt
import PyProof.EqKinds
import PyProof.TupleCall
import PyProof.NsDelKeeps
import PyProof.ListRange
import PyProof.ExcArgsOwn
import PySem.Challenge.RW_edgetally_k27_whole_numbers_there_and_ba
set_option Elab.async false
set_option linter.all false
set_option genSizeOf false
set_option compiler.extract_closed false
set_option bootstrap.genMatcherCode false
set_option maxHeartbeats 8000000
set_option maxRecDepth 100000
noncomputable section
open And renaming intro→XE
open Array renaming length_toList→QN,getElem?_eq_some_iff→Re,getD→SO,getElem?_eq_none→S5,getElem?_toList→Te,getElem_toList→Tl,forIn_toList→T1,getElem?_eq_getElem→UZ,getElem?_extract→Xy,getElem?_push→Ye,append_assoc→Yo,size_extract→Yp,toList_push→YM
open Bool renaming true→PQ,false→PX,false_ne_true→P8,false_eq_true→Ql,and_eq_true→QJ,not_true→SC,true_and→TY,false_and→Uf,and_self→Vg,eq_iff_iff→VG,not_false→Xa,and_eq_true_iff→Yg
open Classical renaming byContradiction→UF
open Except renaming ok→R1
open False renaming elim→SD
open ForInStep renaming yield→Vi
open Function renaming comp→UX,comp_def→XO
open Int renaming toNat_natCast→Ry,natCast_add→Tf,zero_add→TK,emod_nonneg→UG,emod_lt_of_pos→U3,fdiv_eq_ediv_of_nonneg→U4,natAbs_natCast→Wd,le_refl→Yt
open List renaming length_map→PL,getElem?_eq_getElem→PP,mem_cons_of_mem→PR,getD_eq_getElem?_getD→PV,getElem?_map→PY,mem_cons_self→P3,getElem?_eq_some_iff→P4,map_map→Qa,range→Qb,mem_map→Qc,length_cons→Qe,map_cons→Qf,mem_cons→Qh,mem_of_getElem?→Qi,length_append→Qm,size_toArray→Qn,mem_range→Qq,replicate→Qr,sum_cons→Qw,length_range→QC,map_congr_left→QD,mem_singleton→QH,map_append→QK,getElem_mem→QP,nodup_cons→QR,drop_eq_getElem_cons→QV,mem_append_right→QW,append_nil→QY,append_assoc→Ra,flatMap_cons→Rb,length_set→Rc,map→Rf,length_singleton→Ri,getElem?_set→Ro,sum→Rp,getElem?_range→Rt,getElem?_append_right→Ru,not_mem_nil→Rv,getElem?_append_left→Rz,mem_append→RC,replicate_succ→RF,mem_filter→RK,drop_eq_nil_of_le→RN,filterMap_cons→RQ,length_replicate→RV,length_take→R4,take_of_length_le→R5,mem_or_eq_of_mem_set→R7,pairwise_iff_getElem→R8,ext_getElem→Sc,filter_cons→Sd,mem_flatMap→Se,mem_replicate→Sf,take_length→Sg,zip_cons_cons→Sh,mem_append_left→Su,getElem?_replicate→Sx,pairwise_singleton→Sy,nil_append→SJ,range_succ→SK,flatten_cons→SM,drop_length→SW,flatMap_eq_nil_iff→SX,getElem_map→SY,length_eq_zero_iff→SZ,map_flatMap→S3,getElem_range→S6,map_replicate→S7,find?_cons→Tc,forIn_cons→Td,take_append_drop→Ti,take_add_one→Tj,forIn_nil→Ts,all_eq_true→Tz,cons_append→TD,exists_cons_of_length_eq_add_one→TF,flatMap_append→TN,pairwise_cons→T7,map_nil→Ug,pairwise_map→Uh,getElem?_eq_none→Uq,map_drop→Ut,lookup→UB,mem_of_mem_take→UC,filter_sublist→UH,map_set→UN,zipWith→UO,mem_filterMap→UY,getElem?_eq_none_iff→U9,reverse_cons→Vd,any_cons→Vj,map_take→Vk,length_drop→Vt,lookup_cons→Vu,nodup_range→Vv,getElem?_toArray→VL,pairwise_flatMap→VM,getElem?_append→VS,length→VT,take_zero→VU,getElem_of_mem→V1,length_zipWith→V2,all_cons→V6,map_inj_right→Wc,nodup_append→Wr,zip_nil_left→Ws,flatMap_map→WC,map_id→WH,take_append_of_le_length→WI,length_nil→WQ,length_zip→WR,of_mem_zip→WS,sum_append→WT,drop_zero→Xd,getElem?_zip_eq_some→Xi,getElem?_take_of_lt→Xq,getElem?_cons_succ→XA,getElem?_set_self→XI,range_succ_eq_map→XJ,getElem?_zipWith→XQ,getElem?_set_ne→Yj,getElem_reverse→Yk,length_reverse→Yu,take_succ_cons→Yv,foldl→YQ,getElem?_drop→YR,any_eq_false→Y9,ext_getElem?→Za
open List.Pairwise renaming nil→UA
open List.Perm renaming of_eq→We
open List.cons renaming injEq→TC,inj→YO
open Max renaming max→Y5
open Min renaming min→US
open Nat renaming le_refl→P9,le_trans→Qs,lt_of_lt_of_le→Qv,zero_add→QS,lt_irrefl→Q0,ne_of_lt→Q1,zero_le→Q8,lt_of_le_of_lt→RM,mul_comm→R6,not_lt_zero→Sz,pow_le_pow_right→SQ,ne_of_gt→S9,lt_trichotomy→Tk,le_add_right→TL,mul_assoc→T4,add_sub_cancel_left→Ud,lt_or_ge→Uj,mul_left_comm→Uk,lt_succ_self→Uu,lt_trans→UU,sub_self→UV,le_succ→Vl,lt_succ_of_lt→Vm,le_of_lt→VH,add_le_add→VV,add_le_add_left→V7,mul_le_mul_left→V8,mod_lt→Wf,add_comm→Wx,add_zero→Wz,add_mul→WV,div_le_self→W0,strongRecOn→W1,le_mul_of_pos_right→XM,div_div_eq_div_mul→XR,min_self→XS,pow_succ→XT,succ_mul→XU,zero_mul→XV,div_lt_of_lt_mul→Yw,mul_add→Yx,mul_le_mul_right→Yy,one_mul→Yz
open Option renaming some→on,none→PM,map_some→RX,bind_some→Tt,map_eq_some_iff→Vw,getD_some→Wt,isSome_iff_exists→Xe,getD_none→YT
open Option.some renaming inj→QB,injEq→Xr
open Or renaming inl→RH,inr→Sw
open Prod renaming ext→T0,ext_iff→UP
open Pure renaming pure→SB
open PyProof renaming noPylong_of_log2→W2
open PyProof.Rows renaming callWith_type1→RA,seqObj→Tx,envOfC→Uv,AllBare→Vb,listUpdate_at→VJ,subscriptTail_builtinR→VY,IntsAre→XH,subscriptTail→YJ
open PySem renaming wpAny_bind→My,wpAny_pure→PN,Addr→PZ,Value→P0,Shared→P6,starEach→Qg,wpAny→Qj,sizeLine→Qp,FuncData→Qu,Obj→Qy,model→QA,Program→QG,Str→QO,World→QT,foldedSetIterable→QX,wpAny_call_entry→QZ,wpAny_mono→Q2,SetTable→Q3,Around→Q7,Stmt→Q9,compareOp→Rg,wpAny_truthy_bool→Rj,eval→Rk,Heap→Rl,wpAny_newObj_type→Rq,mem_of_lookup→Rr,wpAny_field→RB,wpAny_setField_rec→RE,wpAny_holding→RG,Comprehension→RO,cellsFrom→RU,treeTable→RY,wpAny_setState_of→RZ,wpAny_seqItems→R3,keywordEach→Si,mainGlobals→Sj,sizeLine_eq→Sk,backTo→SA,wpAny_standAt→SF,wpAny_isInstance→SH,binaryOp→SL,wpAny_loadPart'→SS,wpAny_specialOf→SU,wpAny_comprehension_free→S4,IsPair→S8,wpAny_typeNameOfWhole_itemiter→Ta,backToKw→Tp,wpAny_passesOwn→Tq,NameKind→TR,sliceBounds→TV,wpAny_of_eq→TW,wpAny_rule→TX,DictEntry→T3,bootBuiltins→T5,standAt→T6,wpAny_typeNameOf_itemiter→T8,PyData→T9,rawInt→Uc,attributeBase→Ue,codeAny→Ui,firstArgMember→Uw,holding→Ux,pyNext→Uy,wpAny_setField→Uz,Pos→UE,swapsWith→UL,wpAny_askSetting→UM,behindInMarks→UR,wpAny_attempt→UT,assign→U6,codeAny_builtin→U7,letOwnedTupleGo→U8,cLine→Va,codeAny_mono→Vf,IsItemIter→Vn,Fin→Vp,isSubtype_type→Vq,wpAny_Call_Name_kw→Vs,IsZip→Vz,Keyword→VA,OsState→VB,wpAny_pyIter_list→VE,wpAny_pyIter_slot→VF,wpAny_forIn_list→VQ,assignEach→VW,intKind→VX,wpAny_isOneOf_itemiter→VZ,wpAny_pyIter_rangeiter→V0,wpAny_execs_nil→V4,builtinLookup_eq_fast→V9,isSubtype_tuple_tuple→Wa,Within→Wg,pyIter→Wj,wpAny_fieldsOf→Wl,wpAny_updateSeq_pair→Wm,BindsTo→Wo,getMethod→Wu,wpAny_setEntries_of→WB,plainId_quiet→WD,wpAny_onRaise→WE,Paired→WJ,isInstance→WK,sysModules→WL,wpAny_pyIter_tuple→WM,wpAny_tupleItemsOf→WN,Env→WY,call→W3,callerA→W4,ofAClassStatement→W5,searchCouldBeSeen→W7,wpAny_assign_Name→W8,wpAny_dictEntries→W9,Params→Xj,noFill_tuple_add→Xl,pickOrder→Xm,Draws→Xn,IsRangeIter→Xp,again→Xv,atKey→Xw,wpAny_letGo→Xx,typeLookup_type→XB,wpAny_dictEpoch→XD,builtinsNs→X0,call_meets→X1,compPost→X3,entryFor_alias→X4,intItems→X5,isSubtype_stop→X6,newFunctionEnv→X8,setField→Yb,wpAny_newTuple→Yd,call→YF,evalPart_none→YH,seq_tuple_add→YI,wpAny_getItem_list_slice→YK,wpAny_handled→YL,PassesOwn→YU,list_append→YY,bindC→Y0,bindL→Y1,eqIsQuiet→Y2,field→Y3,lastMarks→Y4,slicePick→Y6,newExc→Zh,seqIndex_neg→Zi,wpAny_Call_method_late→Zj,wpAny_pyNext_range_end→Zk
open PySem.Around renaming under_plainId→Ur,under→Wb,in1_units→Wn
open PySem.Builtin.Dict renaming showsAll→WF
open PySem.Builtin.Dict_items renaming ownsTuple→TZ,ownedTupleFields→U1,ownedTupleIsFree→U2,pairFromOwner→Vh
open PySem.Builtin.Int renaming intBits→Xb
open PySem.Builtin.List renaming listTooLong→UD,listExtendWith→V5,listSameRef→Wp
open PySem.Builtin.Range renaming rangeFitsLong→Rm,rangeSize→Wq
open PySem.Builtin.SmallTypes renaming nextOf→R0,ownedTupleIsFree→R9,ownedTupleHandOut→UW,refuseKeywords→Vc
open PySem.Builtin.Tuple renaming tupleHashOf→Us
open PySem.Calls renaming callWith_builtin→Vx,Name_function_global→WX,evalArgs_plain→XN,spliced_cons→Yq,spliced_nil→YN
open PySem.Challenge renaming rw_edgetally_k27_whole_numbers_there_and_ba→QE
open PySem.Code renaming isFrame→XF
open PySem.Draws renaming list→Yr
open PySem.F renaming slot_dict_itemiterator_next→RW,slot_list_append→Sa,type_list_append→Sb,plainAttrs_list→Sv,slot_tuple_iterator_next→TH,args_tuple_add_2→U5,entry_tuple_add→Ve,slot_tuple_add→Vo,slot_zip_next→VR,args_dict_itemiterator_next_1→WO,entry_dict_itemiterator_next→WZ,slot_dict_itemiterator_iter→Xc,plainAttrs_dict→Xf,args_tuple_iterator_next_1→Xh,entry_tuple_iterator_next→Xo,slot_dict_get→Xs,slot_dict_items_iter→Ys,args_list_append_2→Y7
open PySem.Heap renaming get?_push_of_some→PU,get?_push_size→Qk,lt_size→Qz,SameBut→QI,size_push→RJ,get?_update_ne→SV,get?_update_self→Th,ExtBut→WG,get?_update_other→XG,get?_none_of_le→Yh,get?_push_ne→Y8
open PySem.Heap.IsSliceOf renaming new→WP
open PySem.Heap.SameBut renaming update→RI
open PySem.IntMulOk renaming of_bits→Yi
open PySem.IsTupleKey renaming typeIs→Xz
open PySem.Manifest renaming find?→YS
open PySem.NameKind renaming free→SI,cell→WU
open PySem.Obj renaming mapSeq→RT,data_mapFields→Sm,putSet→VI,isFreed_of_fields→VP,cls_mapFields→WA
open PySem.P renaming add_list→YA
open PySem.PyData renaming canLayAll0→Rw,eqv→RP,depthAll→SG,eqvAll→SN,depth→Tu,canLay0→UQ,list→VN,int→V3
open PySem.SeqAt renaming shaped→UJ
open PySem.SetTable renaming fits→WW,fresh→YZ
open PySem.Str renaming ofString→Ss,empty→TM
open PySem.Value renaming ref→Qt,none→Q5,type→SR,int→Tw,bool→Vy,isInt_shape→Wh,isInt→XZ,str→Zd
open PySem.W renaming Frag→Qo,fnOf→Ua,segRun→Ub,piecesOf→Ul,findIn→Um,codeIn→UI,emptyDict→UK,keepIn→Vr,kia_one→VC,kia_tup→VD,instObj→Wv,kitx_list→Ww,methodCall_KW→Xu,callWith_K→XW,of_hideAll→XX,cellsFrom_some→X2,kitx_tuple→X7,topFrame→Yc,kitx_bool→Yl,kitx_none→Ym,plainOver→Yn,handedIn→YB,kitx_int→YC,kitx_own→YD,kitx_str→YE,makesIn→YV,takesIn→YW,topStub→YX,kitAny→Zb,topRun→Zc,hideAll→Zf,hideAll_none→Zg
open PySem.W.OpenLaw renaming row→SE
open PySem.W.OpenRow renaming toRowW→Sn
open PySem.W.RowW renaming prog→Xk
open PySem.W.WData renaming int→Xg
open PySem.pickOrder renaming go→W6
open True renaming intro→Tv
abbrev P5:=@if_neg
abbrev P7:=@if_pos
abbrev Qd:=@decide_eq_true
abbrev Qx:=@absurd
abbrev QL:=@decide_eq_false
abbrev QU:=@decide_eq_true_eq
abbrev Q4:=@if_true
abbrev Q6:=@if_false
abbrev Rh:=@congrArg
abbrev Rx:=@of_decide_eq_true
abbrev Tg:=@bne_self_eq_false
abbrev TU:=@beq_iff_eq
abbrev Uo:=@or_false
abbrev VO:=@beq_eq_false_iff_ne
abbrev X9:=@of_decide_eq_false
abbrev YG:=@decide_false
abbrev Ze:=@beq_self_eq_true
open PySem.W (Frag instObj methodObj hideAll hideAll_get hideAll_none lookIn plainGet hasDictIn findIn plainGet_of isFn takerIn emptyDict keepIn specialIn kitOne kia_one kitx_list kitx_tuple cellsFrom_some mg_of kia_tup)
abbrev LI:=List (List Int)
abbrev LP:=List (List (Int×Int))
--CHANGE:your row's module here,as the last of these rows
namespace L2
open PySem PySem.Spec PyProof.Rows
inductive V where
 |non|bl (b:Bool)|int (i:Int)|str (x:QO)|ref (a:PZ)|ty (n:String)
 deriving DecidableEq
def aN:V->P0->Prop
 | .non,u=>u=Q5
 | .bl b,u=>u=Vy b
 | .int i,u=>∃t,u=Tw i t
 | .str x,u=>∃t,u=Zd x t
 | .ref a,u=>u=Qt a
 | .ty n,u=>u=SR n
abbrev ax:List V->List P0->Prop:=WJ aN
theorem ax.length{xs:List V}{us:List P0}(r:ax xs us):xs.length=us.length:=Paired.length r
theorem ax.get:∀{xs:List V} {us:List P0} {i:Nat} {x:V},ax xs us->xs[i]?=on x->∃u,us[i]?=on u/\aN x u
 |_,_,_,_,.nil,e=>by simp at e
 |_,_,0,_,.cons r _,e=>by simp at e;subst e;exact⟨_,rfl,r⟩
 |_,_,i+1,x,.cons _ t,e=>by
  obtain⟨u,a,b⟩:=ax.get (i:=i) (x:=x) t (by simpa using e);exact⟨u,by simpa using a,b⟩
theorem ax.set(r:aN x u):∀{xs:List V} {us:List P0} (i:Nat),ax xs us->ax (xs.set i x) (us.set i u)
 |_,_,_,.nil=> .nil
 |_,_,0,.cons _ t=> .cons r t
 |_,_,i+1,.cons q t=> .cons q (ax.set r i t)
theorem ax.append:∀{xs ys:List V} {us a:List P0},ax xs us->ax ys a->ax (xs++ys) (us++a)
 |_,_,_,_,.nil,s=>s
 |_,_,_,_,.cons r t,s=> .cons r (ax.append t s)
theorem ax.take:∀{xs:List V} {us:List P0} (n:Nat),ax xs us->ax (xs.take n) (us.take n)
 |_,_,0,_=> .nil
 |_,_,_+1,.nil=> .nil
 |_,_,n+1,.cons r t=> .cons r (ax.take n t)
theorem ax.drop:∀{xs:List V} {us:List P0} (n:Nat),ax xs us->ax (xs.drop n) (us.drop n)
 |_,_,0,r=>r
 |_,_,_+1,.nil=> .nil
 |_,_,n+1,.cons _ t=>ax.drop n t
def iu:Option V->Option P0->Prop
 |some v,on u=>aN v u
 |none,PM=>True
 |_,_=>False
inductive HO where
 |lst (xs:List V)
 |tup (xs:List V)
 |ins (C dx:PZ) (fs:List (QO×V))
 |own (x:PZ)
 |xd (fs:List (QO×V))
 |met (f x:PZ)
 |rng (lo hi:Int)
 |frz (o:Qy) (u:HO)
 |tbl (ps:Array P0)
 |ext (φ:Rl->Prop)
abbrev Hp:=PZ->Option HO
noncomputable def upd(H:Hp)(a:PZ)(o:HO):Hp:=λb=>if b=a then on o else H b
theorem ao:upd H a o a=on o:=by unfold upd;rw[P7 rfl]
theorem upd_ne(h:b≠a):upd H a o b=H b:=by unfold upd;rw[P5 h]
theorem O5{H:Hp}{a b:PZ}{o u:HO}(h:H a=on o)(h':H b=on u)(d:o≠u):a≠b:=by
 intro e;subst e;rw[h]at h';exact d (QB h')
theorem az{H:Hp}{a b:PZ}{o:HO}(h:H a=on o)(h':H b=PM):a≠b:=by
 intro e;subst e;rw[h]at h';cases h'
section
variable(P:QG)(w:QT)
def bO(P:QG)(w:QT)(H:Hp)(h:Rl)(a:PZ):HO->Prop
 | .lst xs=>xs.length<=Qp/\∃(its:List P0) (n:Nat),ax xs its/\h.get? a=on {cls:= .type "list",data:= .seq its.toArray n}
 | .tup xs=>xs.length<=Qp/\∃its:List P0,ax xs its/\IsTup h a its.toArray
 | .ins C dx fs=>H dx=on (.own a)/\fs.length<=1000/\dx≠a/\h.get? a=on (Wv C dx)/\
   ∃b,h.Ns1 dx b/\(∀f,iu (fs.lookup f) (b f))/\Wg b (fs.map (·.1))
 | .own _=>∃o,h.get? a=on o
 | .xd fs=>∃b,h.Ns1 a b/\∀f,iu (fs.lookup f) (b f)
 | .rng lo hi=>∃t u v,h.get? a=on {cls:= .type "range",data:= .fields #[.int lo t,.int hi u,.int 1 v]}
 | .frz o u=>h.get? a=on o/\bO P w H h a u
 | .tbl ps=>h.get? a=on {cls:= .none,data:= .fields ps}
 | .met f x=>h.get? a=on (methodObj (.ref f) (.ref x))
 | .ext φ=>φ h/\(∃o,h.get? a=on o)/\∀c d:Rl,φ c->(∀o,c.get? a=on o->d.get? a=on o)->φ d
def HOk(H:Hp)(h:Rl):Prop:=∀a o,H a=on o->bO P w H h a o
end
section
variable{P:QG}{w:QT}{H H':Hp}{h h':Rl}{a:PZ}{o:HO}
theorem bO.lt(x:bO P w H h a o):a<h.objs.size:=by
 cases o with
 |lst xs=>obtain⟨_,_,_,_,e⟩:=x;exact Qz e
 |tup xs=>obtain⟨_,_,_,p⟩:=x;exact p.lt
 |ins C dx fs=>obtain⟨_,_,_,e,_⟩:=x;exact Qz e
 |own y=>obtain⟨_,e⟩:=x;exact Qz e
 |xd fs=>obtain⟨_,⟨_,_,_,e,_⟩,_⟩:=x;exact Qz e
 |rng lo hi=>obtain⟨_,_,_,e⟩:=x;exact Qz e
 |frz ob u=>obtain⟨e,_⟩:=x;exact Qz e
 |tbl ps=>exact Qz (show h.get? a=on _ from x)
 |met f y=>exact Qz (show h.get? a=on _ from x)
 |ext φ=>obtain⟨_,⟨_,e⟩,_⟩:=x;exact Qz e
theorem bO.stay(x:bO P w H h a o)(k:∀b u,(b=a\/H b=on (.own a))->h.get? b=on u->h'.get? b=on u)
  (l:∀b,H b=on (.own a)->H' b=on (.own a)) (A:∀b xs,H b=on (.tup xs)->H' b=on (.tup xs)):bO P w H' h' a o:=by
 induction o with
 |lst xs=>obtain⟨z,its,n,r,e⟩:=x;exact⟨z,its,n,r,k _ _ (.inl rfl) e⟩
 |tup xs=>obtain⟨z,its,r,g,e,c⟩:=x;exact⟨z,its,r,g,k _ _ (.inl rfl) e,c⟩
 |ins C dx fs=>
  obtain⟨d,z,ne,e,i,⟨j,es,ep,m,c⟩,r⟩:=x;exact⟨l _ d,z,ne,k _ _ (.inl rfl) e,i,⟨j,es,ep,k _ _ (.inr d) m,c⟩,r⟩
 |own y=>obtain⟨g,e⟩:=x;exact⟨g,k _ _ (.inl rfl) e⟩
 |xd fs=>obtain⟨i,⟨j,es,ep,e,c⟩,r⟩:=x;exact⟨i,⟨j,es,ep,k _ _ (.inl rfl) e,c⟩,r⟩
 |rng lo hi=>obtain⟨t,u,v,e⟩:=x;exact⟨t,u,v,k _ _ (.inl rfl) e⟩
 |frz g u ih=>obtain⟨e,q⟩:=x;exact⟨k _ _ (.inl rfl) e,ih q⟩
 |tbl ps=>
  have e:h.get? a=on {cls:= .none,data:= .fields ps}:=x;show h'.get? a=on {cls:= .none,data:= .fields ps};exact k a _ (.inl rfl) e
 |met f y=>
  have e:h.get? a=on (methodObj (.ref f) (.ref y)):=x;show h'.get? a=on (methodObj (.ref f) (.ref y));exact k a _ (.inl rfl) e
 |ext φ=>obtain⟨p,⟨o,e⟩,st⟩:=x;exact⟨st _ _ p λo q=>k _ _ (.inl rfl) q,⟨o,k _ _ (.inl rfl) e⟩,st⟩
theorem HOk.lt(x:HOk P w H h)(e:H a=on o):a<h.objs.size:=(x a o e).lt
theorem HOk.fresh(x:HOk P w H h)(e:h.objs.size<=a):H a=PM:=by
 cases q:H a with
 |none=>rfl
 |some u=>exact Qx (Qv (x.lt q) e) (Q0 _)
theorem HOk.kept(x:HOk P w H h)(k:∀b u,h.get? b=on u->h'.get? b=on u):HOk P w H h':=λa o e=>
 (x a o e).stay (λb u _ q=>k b u q) (λ_ q=>q) λ_ _ q=>q
theorem HOk.laid(x:HOk P w H h)(k:∀b u,h.get? b=on u->h'.get? b=on u)(f:h.objs.size<=a)(new:bO P w (upd H a o) h' a o):HOk P w (upd H a o) h':=λb u e=>by
 have hn:=x.fresh f;by_cases d:b=a
 ·subst d;rw[ao]at e;cases e;exact new
 ·rw[upd_ne d]at e
  exact(x b u e).stay (λc v _ q=>k c v q) (λc q=>by rw[upd_ne (az q hn)];exact q) λc xs q=>by rw[upd_ne (az q hn)];exact q
def Rd(H:Hp)(a:PZ)(u:HO):Prop:=H a=on u\/∃o,H a=on (.frz o u)
theorem Rd.ok{P:QG}{w:QT}{H:Hp}{h:Rl}{a:PZ}(r:Rd H a u)(x:HOk P w H h):bO P w H h a u:=by
 rcases r with r|⟨o,r⟩
 ·exact x a u r
 ·obtain⟨_,q⟩:=x a _ r
  exact q
def Mut:Option HO->Prop
 |some (.lst _)=>True
 |some (.ins _ _ _)=>True
 |some (.ext _)=>True
 |_=>False
variable{x e:PZ}{o':HO}
theorem HOk.write(ok:HOk P w H h)(mu:Mut (H x))(l:e=x\/H e=on (.own x))(k:∀b u,b≠e->h.get? b=on u->h'.get? b=on u)(j:∃u,h'.get? e=on u)
  (new:bO P w (upd H x o') h' x o'):HOk P w (upd H x o') h':=λb u q=>by
 have f:∀c y,H c=on (.own y)->c≠x:=λc y r z=>by subst z;rw[r]at mu;exact mu
 have g:∀c xs,H c=on (.tup xs)->c≠x:=λc xs r z=>by subst z;rw[r]at mu;exact mu
 by_cases i:b=x
 ·subst i;rw[ao]at q;cases q;exact new
 ·rw[upd_ne i]at q
  by_cases d:b=e
  ·have m:H b=on (.own x):=by
    rcases l with z|z
    ·exact Qx (d.trans z) i
    ·rw[d];exact z
   rw[q]at m;cases m;obtain⟨v,n⟩:=j;exact⟨v,by rw[d];exact n⟩
  ·refine(ok b u q).stay (λc v hc r=>k c v ?_ r) (λc r=>by rw[upd_ne (f c b r)];exact r) λc xs r=>by rw[upd_ne (g c xs r)];exact r
   rcases hc with rfl|hc
   ·exact d
   ·rintro rfl
    rcases l with z|z
    ·exact f c b hc z
    ·rw[hc]at z;cases z;exact i rfl
structure Un (fs ex:List PZ) (H H':Hp) (h h':Rl):Prop where
 keep:∀b o,h.get? b=on o->H b=PM->b∉fs->b∉ex->h'.get? b=on o
 slot:∀b o,h.get? b=on o->H b=PM->b∈fs->b∉ex->∃sl,h'.get? b=on {o with slots:=sl}
 free:∀b o,h.get? b=on o->H b=PM->b∉ex->H' b=PM
 there:∀b o,h.get? b=on o->b∉ex->∃o',h'.get? b=on o'
 tups:∀b xs,H b=on (.tup xs)->H' b=on (.tup xs)
 frzs:∀b o u,H b=on (.frz o u)->H' b=on (.frz o u)
 tbls:∀b ps,H b=on (.tbl ps)->∃more,H' b=on (.tbl (ps++more))
variable{fs fs' ex ex':List PZ}{H1 H2:Hp}{h1 h2:Rl}
theorem Un.any(u:Un fs ex H H1 h h1)(q:h.get? b=on ob)(n:H b=PM)(c:b∉ex):∃f,h1.get? b=on {ob with slots:=f}:=by
 by_cases d:b∈fs
 ·exact u.slot b ob q n d c
 ·exact⟨ob.slots,u.keep b ob q n d c⟩
theorem Un.trans(a:Un fs ex H H1 h h1)(b:Un fs ex H1 H2 h1 h2):Un fs ex H H2 h h2 where
 keep:=λc d q n i f=>b.keep c d (a.keep c d q n i f) (a.free c d q n f) i f
 slot:=λc d q n i f=>by
  obtain⟨l,g⟩:=a.slot c d q n i f;obtain⟨j,k⟩:=b.slot c _ g (a.free c d q n f) i f;exact⟨j,k⟩
 free:=λc d q n f=>by
  obtain⟨o',g⟩:=a.there c d q f;exact b.free c o' g (a.free c d q n f) f
 there:=λc d q f=>by
  obtain⟨o',g⟩:=a.there c d q f;exact b.there c o' g f
 tups:=λc xs q=>b.tups c xs (a.tups c xs q)
 frzs:=λc d xs q=>b.frzs c d xs (a.frzs c d xs q)
 tbls:=λc ps q=>by
  obtain⟨m1,g⟩:=a.tbls c ps q;obtain⟨m2,k⟩:=b.tbls c _ g;exact⟨m1++m2,by rw[k,Yo]⟩
theorem Un.kept(k:∀b u,h.get? b=on u->h'.get? b=on u):Un fs ex H H h h':=
 ⟨λb c q _ _ _=>k b c q,λb c q _ _ _=>⟨c.slots,k b c q⟩,λ_ _ _ n _=>n,λb c q _=>⟨c,k b c q⟩,λ_ _ q=>q,λ_ _ _ q=>q,λ_ ps q=>⟨#[],by rw[q];simp⟩⟩
theorem Un.refl:Un fs ex H H h h:=Un.kept λ_ _ q=>q
theorem Un.laid(k:∀b u,h.get? b=on u->h'.get? b=on u)(c:h.objs.size<=a)(hn:H a=PM):Un fs ex H (upd H a o) h h' where
 keep:=λb u q _ _ _=>k b u q
 slot:=λb u q _ _ _=>⟨u.slots,k b u q⟩
 free:=λb u q n _=>by rw[upd_ne (Q1 (Qv (Qz q) c))];exact n
 there:=λb u q _=>⟨u,k b u q⟩
 tups:=λb xs q=>by rw[upd_ne (az q hn)];exact q
 frzs:=λb u xs q=>by rw[upd_ne (az q hn)];exact q
 tbls:=λb ps q=>⟨#[],by rw[upd_ne (az q hn),q];simp⟩
theorem Un.write(mu:Mut (H x))(i:e=x\/H e=on (.own x))(k:∀b u,b≠e->h.get? b=on u->h'.get? b=on u)(d:∃u,h'.get? e=on u):Un fs ex H (upd H x o) h h':=by
 have f:∀b,H b=PM->b≠x:=λb n z=>by subst z;rw[n]at mu;exact mu
 have g:∀b,H b=PM->b≠e:=λb n z=>by
  subst z;rcases i with r|r
  ·exact f b n r
  ·rw[n]at r;cases r
 have hm:∀b u,H b=on u->¬Mut (on u)->b≠x:=λb u q j z=>by subst z;rw[q]at mu;exact j mu
 refine⟨λb u q n _ _=>k b u (g b n) q,λb u q n _ _=>⟨u.slots,k b u (g b n) q⟩,λb u q n _=>by rw[upd_ne (f b n)];exact n,λb u q _=>?_,
  λb xs q=>by rw[upd_ne (hm b _ q λz=>z)];exact q,λb u xs q=>by rw[upd_ne (hm b _ q λz=>z)];exact q,λb ps q=>⟨#[],by rw[upd_ne (hm b _ q λz=>z),q];simp⟩⟩
 by_cases c:b=e
 ·subst c;exact d
 ·exact⟨u,k b u c q⟩
theorem Un.mono(u:Un fs ex H H1 h h1)(hs:∀b∈fs,b∈fs')(f:∀b∈ex,b∈ex'):Un fs' ex' H H1 h h1:=
 ⟨λb d q n g c=>u.keep b d q n (λz=>g (hs b z)) λz=>c (f b z),λ_ _ q n _ c=>u.any q n λz=>c (f _ z),λb d q n c=>u.free b d q n λz=>c (f b z),λb d q c=>u.there b d q λz=>c (f b z),u.tups,u.frzs,u.tbls⟩
noncomputable def trk(h:Rl)(H:Hp):List PZ:=(Qb h.objs.size).filter λa=>(H a).isSome
noncomputable def lE(h:Rl)(H:Hp):Rl:=Zf h (trk h H)
theorem z9(h:Rl)(H:Hp):(lE h H).objs.size=h.objs.size:=PySem.W.hideAll_size _ _
theorem DY{h:Rl}{H:Hp}{o:Qy}(e:h.get? b=on o)(n:H b=PM):(lE h H).get? b=on o:=
 hideAll_get _ e λhm=>by
  have q:(H b).isSome=PQ:=(RK.mp hm).2;rw[n]at q;simp at q
theorem KQ{h:Rl}{H:Hp}{o:Qy}(e:(lE h H).get? b=on o):h.get? b=on o/\H b=PM:=by
 have c:h.get? b=on o:=XX (trk h H) e;refine⟨c,?_⟩;cases q:H b with
 |none=>rfl
 |some x=>
  have hm:b∈trk h H:=RK.mpr ⟨Qq.mpr (Qz c),by simp[q]⟩;have z:(lE h H).get? b=PM:=Zg (trk h H) hm;rw[z]at e;cases e
structure Mod (K:Qo) (mg:QO->Option P0) (base:Rl):Prop where
 kin:K.In base
 glob:base.Ns Sj mg
 blt:∃mb,base.Ns X0 mb/\∀x:QO,x≠"__name__"->mb x=T5 x
 nolimit:base.NoLimit
structure Cx where
 prog:QG
 w:QT
 K:Qo
 mg:QO->Option P0
 base:Rl
 A:Q7
 N:List QO
 s₀:P6
 H₀:Hp
 env:WY
 outer:List WY
 stack:List WY
 ex:List PZ
 fn:QO->Bool
 calm:Bool
 pn:List (PZ×Qy)
 xe:P0->P6->Prop
noncomputable def frs(l:List WY):List PZ:=l.filterMap (·.frame)
end
noncomputable abbrev Cx.fs(X:Cx):List PZ:=frs X.outer
def Vis(a:Scope)(x:QO):Prop:=a.names.lookup x=on .local\/a.names.lookup x=on .cell\/a.names.lookup x=on .free
def Loc(a:Scope)(x:QO):Prop:=a.names.lookup x=on .local\/a.names.lookup x=on .cell
def Look(env:WY)(h:Rl)(m:QO->Option P0)(x:QO)(u:P0):Prop:=
 (env.kindOf x=on .local/\m x=on u)\/((env.kindOf x=on .cell\/env.kindOf x=on .free)/\∃c,env.cells.lookup x=on c/\h.IsCell c (on u))
structure Cx.Ok (X:Cx):Prop where
 mod:Mod X.K X.mg X.base
 kind:X.env.scope.kind= .function
 glob:X.env.globals=Sj
 blt:X.env.builtins=X0
 above:X.s₀.heap.objs.size<=X.env.locals
 inj:∀x y c,X.env.cells.lookup x=on c->X.env.cells.lookup y=on c->x=y
 has:∀x,(X.env.kindOf x=on .cell\/X.env.kindOf x=on .free)->∃c,X.env.cells.lookup x=on c
 cab:∀x c,X.fn x=PQ->X.env.cells.lookup x=on c->X.s₀.heap.objs.size<=c
 hd:X.calm=PQ->X.A.handled=PM
 frames:X.A.frames=on X.stack
 stk:X.stack=X.outer\/(X.stack=X.env::X.outer/\X.env.frame=on X.env.locals)
 exf:∀b∈X.ex,b≠X.env.locals/\∀x c,X.env.cells.lookup x=on c->c≠b
 bs:∀b o,X.base.get? b=on o->X.s₀.heap.get? b=on o/\X.H₀ b=PM
 bsz:X.base.objs.size<=X.s₀.heap.objs.size
 noex:∀b o,X.base.get? b=on o->b∉X.ex
 exfs:∀b∈X.ex,b∉X.fs
 funs:X.s₀.heap.FunFrames X.base X.outer
 frf:∀b∈X.fs,X.H₀ b=PM
structure Inv (X:Cx) (pins:List (PZ×Qy)) (σ:List (Option V)) (H:Hp) (s:P6):Prop where
 ok:X.Ok
 os:s.os=X.s₀.os
 bare:Vb s.gens
 base:Un X.fs X.ex X.H₀ H X.s₀.heap s.heap
 loc:∃m,s.heap.Ns X.env.locals m/\∀(i:Nat) (x:QO) (v:V),X.N[i]?=on x->σ[i]?=on (on v)->Vis X.env.scope x->∃u,aN v u/\Look X.env s.heap m x u
 cell:∀x c,X.env.cells.lookup x=on c->∃v,s.heap.IsCell c v
 free:H X.env.locals=PM
 freeC:∀x c,X.env.cells.lookup x=on c->H c=PM
 pin:∀p∈X.pn++pins,s.heap.get? p.1=on p.2/\H p.1=PM/\p.1≠X.env.locals/\p.1∉X.fs/\∀v,p.2.data≠ .cell v
 hok:HOk X.prog X.w H s.heap
 len:σ.length=X.N.length
section
variable{X:Cx}{pins:List (PZ×Qy)}{σ:List (Option V)}{H H':Hp}{s:P6}{h':Rl}
theorem Cx.Ok.nofr(ok:X.Ok)(e:X.base.get? b=on o):b∉X.fs:=λa=>by
 have:=(ok.funs.mem a).1;rw[e]at this;cases this
theorem Inv.bs(I:Inv X pins σ H s):∀b o,X.base.get? b=on o->s.heap.get? b=on o/\H b=PM:=λb o e=>
 ⟨I.base.keep b o (I.ok.bs b o e).1 (I.ok.bs b o e).2 (I.ok.nofr e) (I.ok.noex b o e),I.base.free b o (I.ok.bs b o e).1 (I.ok.bs b o e).2 (I.ok.noex b o e)⟩
theorem Inv.bk(I:Inv X pins σ H s):∀b o,X.base.get? b=on o->s.heap.get? b=on o:=λb o e=>(I.bs b o e).1
theorem Inv.mod(I:Inv X pins σ H s):Mod X.K X.mg X.base:=I.ok.mod
theorem Inv.kIn(I:Inv X pins σ H s):X.K.In s.heap:=I.ok.mod.kin.keeps I.bk
theorem Inv.lt(I:Inv X pins σ H s):X.env.locals<s.heap.objs.size:=let ⟨_,hn,_⟩:=I.loc;hn.lt
theorem Inv.sz(I:Inv X pins σ H s):X.s₀.heap.objs.size<=s.heap.objs.size:=Qs I.ok.above (VH I.lt)
theorem Inv.nofs(I:Inv X pins σ H s){a:PZ}(h:s.heap.objs.size<=a):a∉X.fs:=λb=>by
 obtain⟨_,o,c,_⟩:=I.ok.funs.mem b;exact Qx (Qv (Qz c) (Qs I.sz h)) (Q0 _)
theorem Inv.cne(I:Inv X pins σ H s):∀x c,X.env.cells.lookup x=on c->c≠X.env.locals:=λx c e z=>by
 obtain⟨v,o,d,hd⟩:=I.cell x c e;obtain⟨m,⟨f,es,ep,a,b,_⟩,_⟩:=I.loc;rw[z,a]at d;cases d;rw[b]at hd;cases hd
theorem Inv.funs(I:Inv X pins σ H s):s.heap.FunFrames X.base X.outer:=by
 have all:∀(l:List WY),(∀b∈frs l,b∈X.fs)->X.s₀.heap.FunFrames X.base l->s.heap.FunFrames X.base l:=by
  intro l
  induction l with
  |nil=>intro _ _;trivial
  |cons env r ih=>
   intro hs f;obtain⟨g,⟨L,o,a,hn,h,hd⟩,i⟩:=f;have c:L∈X.fs:=hs L (by unfold frs;rw[RQ,a];exact P3);obtain⟨j,e⟩:=I.base.slot L o h (I.ok.frf L c) c λz=>I.ok.exfs L z c;exact⟨g,⟨L,_,a,hn,e,hd⟩,ih (λb d=>hs b (by unfold frs;rw[RQ,a];exact PR _ d)) i⟩
 exact all X.outer (λ_ d=>d) I.ok.funs
theorem Inv.stack(I:Inv X pins σ H s):s.heap.FunFrames X.base X.stack:=by
 rcases I.ok.stk with e|⟨e,a⟩
 ·rw[e];exact I.funs
 ·rw[e]
  obtain⟨m,hn,_⟩:=I.loc;refine .cons (by rw[I.ok.kind];decide) a hn ?_ I.funs;exact Yh (Qs I.ok.bsz I.ok.above)
theorem Inv.stkSub(I:Inv X pins σ H s):∀b∈frs X.stack,b∈X.env.locals::X.fs:=λb a=>by
 rcases I.ok.stk with e|⟨e,c⟩
 ·rw[e]at a;exact PR _ a
 ·rw[e]at a
  unfold frs at a;rw[RQ,c]at a;exact a
theorem Inv.stkFree(I:Inv X pins σ H s):∀b∈frs X.stack,H b=PM:=λb hb=>by
 rcases Qh.mp (I.stkSub b hb)with e|hb
 ·rw[e];exact I.free
 ·obtain⟨_,o,a,_⟩:=I.ok.funs.mem hb
  exact I.base.free b o a (I.ok.frf b hb) λz=>I.ok.exfs b z hb
theorem Inv.step{ch:List PZ}(I:Inv X pins σ H s)
  (f:∀b∈ch,(b∈X.ex\/X.s₀.heap.objs.size<=b)/\b≠X.env.locals/\(∀x c,X.env.cells.lookup x=on c->c≠b)/\∀p∈X.pn++pins,p.1≠b)
  (keep:∀b o,b≠X.env.locals->b∉X.fs->b∉ch->s.heap.get? b=on o->H b=PM->h'.get? b=on o)
  (slot:∀b o,b≠X.env.locals->b∈X.fs->b∉ch->s.heap.get? b=on o->H b=PM->∃J,h'.get? b=on {o with slots:=J}) (free:∀b o,b∉ch->s.heap.get? b=on o->H b=PM->H' b=PM)
  (there:∀b o,b∉ch->s.heap.get? b=on o->∃B,h'.get? b=on B)
  (tups:∀b xs,H b=on (.tup xs)->H' b=on (.tup xs)) (frzs:∀b o u,H b=on (.frz o u)->H' b=on (.frz o u)) (tbls:∀b ps,H b=on (.tbl ps)->∃more,H' b=on (.tbl (ps++more)))
  (ns:∀m,s.heap.Ns X.env.locals m->h'.Ns X.env.locals m) (hok:HOk X.prog X.w H' h') (P:Vb g'):
  Inv X pins σ H' {s with heap:=h',gens:=g',drawn:=d',toks:=t'}:=by
 have C:∀b o,X.s₀.heap.get? b=on o->b≠X.env.locals:=λb o e=>Q1 (Qv (Qz e) I.ok.above);have j:∀b o,X.s₀.heap.get? b=on o->b∉X.ex->b∉ch:=λb o e a y=>by
  rcases(f b y).1 with z|z
  ·exact a z
  ·exact Qx (Qv (Qz e) z) (Q0 _)
 have g:∀x c,X.env.cells.lookup x=on c->∀v,s.heap.IsCell c v->h'.IsCell c v:=λx c e v ⟨o,A,hd⟩=>by
  have h:c∉ch:=λz=>(f c z).2.2.1 x c e rfl;by_cases N:c∈X.fs
  ·obtain⟨J,q⟩:=slot c o (I.cne x c e) N h A (I.freeC x c e)
   exact⟨_,q,hd⟩
  ·exact⟨o,keep c o (I.cne x c e) N h A (I.freeC x c e),hd⟩
 refine⟨I.ok,I.os,P,⟨λb o e n y a=>?_,λb o e n y a=>?_,λb o e n a=>?_,λb o e a=>?_,λb xs e=>tups b xs (I.base.tups b xs e),λb o xs e=>frzs b o xs (I.base.frzs b o xs e),λb ps e=>?_⟩,?_,λx c e=>?_,?_,λx c e=>?_,λp O=>?_,hok,I.len⟩
 ·exact keep b o (C b o e) y (j b o e a) (I.base.keep b o e n y a) (I.base.free b o e n a)
 ·obtain⟨J,t⟩:=I.base.slot b o e n y a
  obtain⟨L,F⟩:=slot b _ (C b o e) y (j b o e a) t (I.base.free b o e n a);exact⟨L,F⟩
 ·obtain⟨B,t⟩:=I.base.there b o e a
  exact free b B (j b o e a) t (I.base.free b o e n a)
 ·obtain⟨B,t⟩:=I.base.there b o e a
  exact there b B (j b o e a) t
 ·obtain⟨m1,t⟩:=I.base.tbls b ps e
  obtain⟨m2,F⟩:=tbls b _ t;exact⟨m1++m2,by rw[F,Yo]⟩
 ·obtain⟨m,hn,Q⟩:=I.loc
  refine⟨m,ns m hn,λi x v t F R=>?_⟩;obtain⟨u,r,l⟩:=Q i x v t F R;refine⟨u,r,?_⟩;rcases l with l|⟨k,c,e,z⟩
  ·exact .inl l
  ·exact .inr ⟨k,c,e,g x c e _ z⟩
 ·obtain⟨v,z⟩:=I.cell x c e
  exact⟨v,g x c e v z⟩
 ·obtain⟨m,⟨o,_,_,A,_⟩,_⟩:=I.loc
  exact free _ o (λz=>(f _ z).2.1 rfl) A I.free
 ·obtain⟨v,o,A,hd⟩:=I.cell x c e
  exact free c o (λz=>(f c z).2.2.1 x c e rfl) A (I.freeC x c e)
 ·obtain⟨e,n,ne,nf,d⟩:=I.pin p O
  have h:p.1∉ch:=λz=>(f p.1 z).2.2.2 p O rfl;exact⟨keep p.1 p.2 ne nf h e n,free p.1 p.2 h e n,ne,nf,d⟩
theorem Inv.un(I:Inv X pins σ H s)(u:Un X.fs [] H H' s.heap h')(hok:HOk X.prog X.w H' h'):Inv X pins σ H' {s with heap:=h',toks:=t'}:=by
 obtain⟨m,⟨o,es,ep,g,r⟩,_⟩:=id I.loc;obtain⟨j,h⟩:=u.any g I.free (by simp);exact I.step (g':=s.gens) (d':=s.drawn) (ch:=[]) (λ_ z=>nomatch z) (λb o _ c _ e n=>u.keep b o e n c (by simp)) (λb o _ c _ e n=>u.slot b o e n c (by simp)) (λb o _ e n=>u.free b o e n (by simp)) (λb o _ e=>u.there b o e (by simp)) u.tups u.frzs u.tbls (λk hm=>by
  obtain⟨l,d,f,a,i⟩:=hm;rw[g]at a;cases a;exact⟨_,d,f,h,i⟩) hok I.bare
theorem Inv.call{ch:List PZ}(I:Inv X pins σ H s)(u:Un (frs X.stack) ch H H' s.heap h')(hok:HOk X.prog X.w H' h')(k:Vb g')
  (d:∀b∈ch,(b∈X.ex\/X.s₀.heap.objs.size<=b)/\b≠X.env.locals/\(∀x c,X.env.cells.lookup x=on c->c≠b)/\∀p∈X.pn++pins,p.1≠b):
  Inv X pins σ H' {s with heap:=h',gens:=g',drawn:=d',toks:=t'}:=by
 obtain⟨m,⟨o,es,ep,j,r⟩,_⟩:=id I.loc;obtain⟨t,g⟩:=u.any j I.free λz=>(d _ z).2.1 rfl;exact I.step (ch:=ch) d (λb o g l a e n=>u.keep b o e n (λz=>(Qh.mp (I.stkSub b z)).elim g l) a) (λb o _ _ a e n=>u.any e n a) (λb o a e n=>u.free b o e n a) (λb o a e=>u.there b o e a) u.tups u.frzs u.tbls (λv hm=>by
  obtain⟨y,h,i,f,q⟩:=hm;rw[j]at f;cases f;exact⟨_,h,i,g,q⟩) hok k
theorem Inv.turned(I:Inv X pins σ H s)(k:∀b o,b≠it->s.heap.get? b=on o->h'.get? b=on o)(hn:H it=PM)(f:it≠X.env.locals)
  (g:it∈X.ex\/X.s₀.heap.objs.size<=it) (h:∀x c,X.env.cells.lookup x=on c->c≠it) (i:∀p∈X.pn++pins,p.1≠it):Inv X pins σ H {s with heap:=h',toks:=t'}:=by
 have d:∀b u,H b=on u->b≠it:=λb u e z=>by rw[z,hn]at e;cases e
 refine I.step (g':=s.gens) (d':=s.drawn) (ch:=[it]) (λb j=>?_) (λb o _ _ a e _=>k b o (λz=>a (by simp[z])) e) (λb o _ _ a e _=>⟨o.slots,k b o (λz=>a (by simp[z])) e⟩) (λ_ _ _ _ n=>n)
  (λb o a e=>⟨o,k b o (λz=>a (by simp[z])) e⟩) (λ_ _ e=>e) (λ_ _ _ e=>e) (λb ps e=>⟨#[],by rw[e];simp⟩) (λm hm=>?_) (λb u e=>?_) I.bare
 ·have e:b=it:=by simpa using j
  subst e;exact⟨g,f,h,i⟩
 ·obtain⟨o,es,ep,l,r⟩:=hm
  exact⟨o,es,ep,k _ o (Ne.symm f) l,r⟩
 ·refine(I.hok b u e).stay (λc v a q=>k c v ?_ q) (λ_ q=>q) λ_ _ q=>q
  rcases a with z|z
  ·rw[z];exact d b u e
  ·exact d c _ z
theorem Inv.tok(I:Inv X pins σ H s)(t:Nat):Inv X pins σ H {s with toks:=t}:=I.un (h':=s.heap) (t':=t) Un.refl I.hok
theorem Inv.kept(I:Inv X pins σ H s)(k:∀b u,s.heap.get? b=on u->h'.get? b=on u):Inv X pins σ H {s with heap:=h',toks:=t'}:=I.un (Un.kept k) (I.hok.kept k)
theorem Inv.laid{a:PZ}{o:HO}{t':Nat}(I:Inv X pins σ H s)(k:∀b u,s.heap.get? b=on u->h'.get? b=on u)(c:s.heap.objs.size<=a)(new:bO X.prog X.w (upd H a o) h' a o):
  Inv X pins σ (upd H a o) {s with heap:=h',toks:=t'}:=I.un (Un.laid k c (I.hok.fresh c)) (I.hok.laid k c new)
theorem Inv.write(I:Inv X pins σ H s)(mu:Mut (H x))(c:e=x\/H e=on (.own x))(k:∀b u,b≠e->s.heap.get? b=on u->h'.get? b=on u)(a:∃u,h'.get? e=on u)
  (new:bO X.prog X.w (upd H x o) h' x o):Inv X pins σ (upd H x o) {s with heap:=h',toks:=t'}:=I.un (Un.write mu c k a) (I.hok.write mu c k a new)
theorem Inv.pins_of(I:Inv X pins σ H s)(h:∀p∈pins',s.heap.get? p.1=on p.2/\H p.1=PM/\p.1≠X.env.locals/\p.1∉X.fs/\∀v,p.2.data≠ .cell v):Inv X pins' σ H s:=
 ⟨I.ok,I.os,I.bare,I.base,I.loc,I.cell,I.free,I.freeC,λp a=>(RC.mp a).elim (λz=>I.pin p (Su _ z)) (h p),I.hok,I.len⟩
theorem ut{N:List QO}(c:N.Nodup){i j:Nat}{x:QO}(a:N[i]?=on x)(b:N[j]?=on x):i=j:=by
 obtain⟨f,d⟩:=P4.mp a;obtain⟨g,e⟩:=P4.mp b;exact(List.getElem_inj c).mp (d.trans e.symm)
theorem lZ{M:Model}{E:P0->P6->Prop}(I:Inv X pins σ H s)(hN:X.N.Nodup)(O:X.N[i]?=on x)(l:Loc X.env.scope x)(r:aN v u)
  (h:∀s',Inv X pins (σ.set i (on v)) H s'->(∃a,QI a s.heap s'.heap/\(a=X.env.locals\/X.env.cells.lookup x=on a))->Q () s') (hf:X.fn x=PQ\/X.env.scope.names.lookup x=on .local:=by first|exact .inl rfl|exact .inr rfl|assumption):Qj M A (storeName X.env x u) Q E s:=by
 obtain⟨m,hn,hl⟩:=id I.loc;have P:(X.env.scope.kind== .class||(X.env.scope.kind== .module&&X.env.locals !=X.env.globals))=PX:=by rw[I.ok.kind];rfl
 have C:i<σ.length:=by rw[I.len];exact(P4.mp O).1
 have cne:=I.cne;have f:∀{a:PZ} {h':Rl},(∃o,s.heap.get? a=on o/\H a=PM)->QI a s.heap h'->HOk X.prog X.w H h':=λ{a h'} ha hs b ob e=>by
  obtain⟨_,_,t⟩:=ha;refine(I.hok b ob e).stay (λc Y hc q=>(hs.2 c ?_).trans q) (λ_ q=>q) λ_ _ q=>q;rintro rfl;rcases hc with rfl|hc
  ·rw[t]at e;cases e
  ·rw[t]at hc;cases hc
 rcases l with hk|hk
 ·refine wpAny_storeName_local hk hn (λh' hn' hs=>?_) P
  obtain⟨oL,_,_,hoL,_⟩:=id hn;refine h _ ⟨I.ok,I.os,I.bare,⟨λb o e n F l=>?_,λb o e n F l=>?_,I.base.free,λb o e l=>?_,I.base.tups,I.base.frzs,I.base.tbls⟩,⟨_,hn',λj y v' g B e3=>?_⟩,λy c e=>?_,I.free,I.freeC,λp hp=>?_,f ⟨oL,hoL,I.free⟩ hs,by simpa using I.len⟩ ⟨_,hs,.inl rfl⟩
  ·exact(hs.2 b (Q1 (Qv (Qz e) I.ok.above))).trans (I.base.keep b o e n F l)
  ·obtain⟨sl,g⟩:=I.base.slot b o e n F l
   exact⟨sl,(hs.2 b (Q1 (Qv (Qz e) I.ok.above))).trans g⟩
  ·obtain⟨o',g⟩:=I.base.there b o e l
   exact⟨o',(hs.2 b (Q1 (Qv (Qz e) I.ok.above))).trans g⟩
  ·by_cases J:j=i
   ·subst J
    rw[O]at g;cases g;rw[XI C]at B;cases B;exact⟨u,r,.inl ⟨hk,by simp⟩⟩
   ·rw[Yj (Ne.symm J)]at B
    obtain⟨u',r',q⟩:=hl j y v' g B e3;refine⟨u',r',?_⟩;rcases q with⟨k,e⟩|⟨k,c,e,z⟩
    ·refine .inl ⟨k,?_⟩
     have:y≠x:=λe=>J (ut hN g (e▸O));simp[this,e]
    ·exact .inr ⟨k,c,e,z.sameBut hs (cne y c e)⟩
  ·obtain⟨Y,z⟩:=I.cell y c e
   exact⟨Y,z.sameBut hs (cne y c e)⟩
  ·obtain⟨e,n,ne,nf,d⟩:=I.pin p hp
   exact⟨(hs.2 p.1 ne).trans e,n,ne,nf,d⟩
 ·have L:X.fn x=PQ:=by
   rcases hf with z|z
   ·exact z
   ·rw[z]at hk;cases hk
  obtain⟨c,hc⟩:=I.ok.has x (.inl hk);obtain⟨Y,z⟩:=I.cell x c hc;refine wpAny_storeName_cell I.ok.kind hk hc z (λh' R hs=>?_);obtain⟨oc,T,U⟩:=id z;refine h {s with heap:=h'} ⟨I.ok,I.os,I.bare,⟨λb o e n F l=>?_,λb o e n F l=>?_,I.base.free,λb o e l=>?_,I.base.tups,I.base.frzs,I.base.tbls⟩,⟨m,hn.sameBut hs (Ne.symm (cne x c hc)),λj y v' g B e3=>?_⟩,λy Z e=>?_,I.free,I.freeC,λp hp=>?_,f ⟨oc,T,I.freeC x c hc⟩ hs,by simpa using I.len⟩ ⟨c,hs,.inr hc⟩
  ·exact(hs.2 b (Q1 (Qv (Qz e) (I.ok.cab x c L hc)))).trans (I.base.keep b o e n F l)
  ·obtain⟨sl,g⟩:=I.base.slot b o e n F l
   exact⟨sl,(hs.2 b (Q1 (Qv (Qz e) (I.ok.cab x c L hc)))).trans g⟩
  ·obtain⟨o',g⟩:=I.base.there b o e l
   exact⟨o',(hs.2 b (Q1 (Qv (Qz e) (I.ok.cab x c L hc)))).trans g⟩
  ·by_cases J:j=i
   ·subst J
    rw[O]at g;cases g;rw[XI C]at B;cases B;exact⟨u,r,.inr ⟨.inl hk,c,hc,R⟩⟩
   ·rw[Yj (Ne.symm J)]at B
    obtain⟨u',r',q⟩:=hl j y v' g B e3;refine⟨u',r',?_⟩;rcases q with q|⟨k,Z,e,z'⟩
    ·exact .inl q
    ·refine .inr ⟨k,Z,e,z'.sameBut hs ?_⟩
     rintro rfl;exact J (ut hN g (I.ok.inj _ _ _ e hc▸O))
  ·by_cases W:Z=c
   ·subst W;exact⟨_,R⟩
   ·obtain⟨w2,z2⟩:=I.cell y Z e
    exact⟨w2,z2.sameBut hs W⟩
  ·obtain⟨e,n,ne,nf,d⟩:=I.pin p hp
   refine⟨(hs.2 p.1 ?_).trans e,n,ne,nf,d⟩;intro q;rw[q,T]at e;have q':oc=p.2:=QB e;exact d Y (by rw[←q'];exact U)
theorem oz{M:Model}{E:P0->P6->Prop}(I:Inv X pins σ H s)(a:X.N.Nodup)(b:X.N[i]?=on x)(c:Loc X.env.scope x)(r:aN v u)
  (h:∀s',Inv X pins (σ.set i (on v)) H s'->Q () s') (d:X.fn x=PQ\/X.env.scope.names.lookup x=on .local:=by first|exact .inl rfl|exact .inr rfl|assumption):Qj M A (storeName X.env x u) Q E s:=
 lZ I a b c r (λs' e _=>h s' e) d
theorem Inv.call'{s':P6}{ch:List PZ}(I:Inv X pins σ H s)(d:s'.os=s.os)(u:Un (frs X.stack) ch H H' s.heap s'.heap)(hok:HOk X.prog X.w H' s'.heap)(f:Vb s'.gens)
  (a:∀b∈ch,(b∈X.ex\/X.s₀.heap.objs.size<=b)/\b≠X.env.locals/\(∀x c,X.env.cells.lookup x=on c->c≠b)/\∀p∈X.pn++pins,p.1≠b):Inv X pins σ H' s':=by
 obtain⟨h',g',d',t',g⟩:=s';have e:g=s.os:=d;subst e;exact I.call (g':=g') (t':=t') (d':=d') u hok f a
abbrev XK:=P0->Option PZ->Hp->Prop
abbrev St:=List (Option V)
abbrev VK:=V->Hp->Prop
abbrev TE:=St->Hp->VK->Prop
abbrev TT:=St->Hp->(Bool->Hp->Prop)->Prop
abbrev TA:=St->Hp->(List V->Hp->Prop)->Prop
structure Ends where
 nx:St->Hp->Prop
 rt:VK
 bk:St->Hp->Prop:=λ_ _=>False
 ct:St->Hp->Prop:=λ_ _=>False
abbrev TS:=Ends->St->Hp->Prop
def EP(X:Cx)(pins:List (PZ×Qy))(σ:St)(Q:VK)(u:P0)(s':P6):Prop:=∃v H',Inv X pins σ H' s'/\aN v u/\Q v H'
def TP(X:Cx)(pins:List (PZ×Qy))(σ:St)(Q:Bool->Hp->Prop)(b:Bool)(s':P6):Prop:=∃H',Inv X pins σ H' s'/\Q b H'
def AP(X:Cx)(pins:List (PZ×Qy))(σ:St)(Q:List V->Hp->Prop)(us:List P0)(s':P6):Prop:=∃vs H',Inv X pins σ H' s'/\ax vs us/\Q vs H'
def SP(X:Cx)(pins:List (PZ×Qy))(D:Ends)(f:Flow)(s':P6):Prop:=
 match f with
 | .next=>∃a H',Inv X pins a H' s'/\D.nx a H'
 | .brk=>∃a H',Inv X pins a H' s'/\D.bk a H'
 | .cont=>∃a H',Inv X pins a H' s'/\D.ct a H'
 | .ret u=>∃v a H',Inv X pins a H' s'/\aN v u/\D.rt v H'
def PE(X:Cx)(e:Expr)(t:TE):Prop:=
 ∀(pins:List (PZ×Qy)) (s:P6) (σ:St) (H:Hp) (Q:VK),Inv X pins σ H s->t σ H Q->Qj (QA X.prog X.w) X.A (Rk e X.env) (EP X pins σ Q) X.xe s
def PT(X:Cx)(e:Expr)(t:TT):Prop:=
 ∀(pins:List (PZ×Qy)) (s:P6) (σ:St) (H:Hp) (Q:Bool->Hp->Prop),Inv X pins σ H s->t σ H Q->Qj (QA X.prog X.w) X.A (isTrue e X.env (Rk e X.env)) (TP X pins σ Q) X.xe s
def PW(X:Cx)(e:Expr)(t:TT):Prop:=
 ∀(a:Sem P0) (pins:List (PZ×Qy)) (s:P6) (σ:St) (H:Hp) (Q:Bool->Hp->Prop),Inv X pins σ H s->t σ H Q->Qj (QA X.prog X.w) X.A (isTrue e X.env a) (TP X pins σ Q) X.xe s
theorem PW.pt{X:Cx}(h:PW X e t):PT X e t:=h _
def PA(X:Cx)(es:List Expr)(t:TA):Prop:=
 ∀(pos:UE) (pins:List (PZ×Qy)) (s:P6) (σ:St) (H:Hp) (Q:List V->Hp->Prop),Inv X pins σ H s->t σ H Q->Qj (QA X.prog X.w) X.A (spliced (SA pos (Qg es X.env))) (AP X pins σ Q) X.xe s
def PS(X:Cx)(st:Q9)(t:TS):Prop:=
 ∀(pins:List (PZ×Qy)) (s:P6) (σ:St) (H:Hp) (D:Ends),Inv X pins σ H s->t D σ H->Qj (QA X.prog X.w) X.A (exec st X.env) (SP X pins D) X.xe s
def PSs(X:Cx)(st:List Q9)(t:TS):Prop:=
 ∀(pins:List (PZ×Qy)) (s:P6) (σ:St) (H:Hp) (D:Ends),Inv X pins σ H s->t D σ H->Qj (QA X.prog X.w) X.A (execs st X.env) (SP X pins D) X.xe s
theorem thn{α:Type}{t:Sem α}{Q b:α->P6->Prop}{M:Model}{A:Q7}{E:P0->P6->Prop}{s:P6}(h:Qj M A t Q E s)(c:∀a s,Q a s->b a s):Qj M A t b E s:=Q2 h c λ_ _ x=>x
def qA(i:Nat):TE:=λσ H Q=>∃v,σ[i]?=on (on v)/\Q v H
def tC(v:V):TE:=λ_ H Q=>Q v H
theorem Mh(g:X.N[i]?=on x)(j:Vis X.env.scope x)(hd:(x==("__debug__":QO))=PX:=by decide)(d:(x==("__classdict__":QO))=PX:=by decide):PE X (.Name x pos) (qA i):=by
 intro pins s σ H Q I h;obtain⟨v,e,h⟩:=h;obtain⟨m,hn,k⟩:=I.loc;obtain⟨u,r,l⟩:=k i x v g e j;have b:EP X pins σ Q u s:=⟨v,H,I,r,h⟩;rcases l with⟨hk,hm⟩|⟨hk,c,f,a⟩
 ·exact wpAny_Name (wpAny_loadName_local I.ok.kind hk hn hm b) hd
 ·rcases hk with hk|hk
  ·exact wpAny_Name (wpAny_loadName_cell I.ok.kind hk f a b) hd
  ·exact wpAny_Name (wpAny_loadName_free I.ok.kind hk f a b d) hd
theorem bV{i j pos}:PE X (.Constant (.int i) j pos) (tC (.int i)):=λ_ _ _ H _ I h=>wpAny_Constant_int ⟨.int i,H,I.tok _,⟨_,rfl⟩,h⟩
theorem OW{b j pos}:PE X (.Constant (.bool b) j pos) (tC (.bl b)):=λ_ _ _ H _ I h=>Constant_bool ⟨.bl b,H,I,rfl,h⟩
theorem Mn{j pos}:PE X (.Constant .none j pos) (tC .non):=λ_ _ _ H _ I h=>Constant_none ⟨.non,H,I,rfl,h⟩
def Gl(X:Cx)(x:QO):Prop:=X.env.kindOf x=on .globalImplicit
theorem qN{E:P0->P6->Prop}{pins:List (PZ×Qy)}{s:P6}{σ:St}{H:Hp}(I:Inv X pins σ H s)(a:Gl X x)(hm:X.mg x=on u)(h:Q u s)
  (hd:(x==("__debug__":QO))=PX:=by decide):Qj (QA X.prog X.w) X.A (Rk (.Name x pos) X.env) Q E s:=
 WX I.ok.kind a (Calls.loadGlobal_global (by rw[I.ok.glob];exact I.mod.glob.keeps I.bk) hm h) hd
theorem gm{E:P0->P6->Prop}{pins:List (PZ×Qy)}{s:P6}{σ:St}{H:Hp}(I:Inv X pins σ H s)(a:Gl X x)(hm:X.mg x=PM)(b:T5 x=on u)(h:Q u s)
  (hn:x≠"__name__":=by decide) (hd:(x==("__debug__":QO))=PX:=by decide):Qj (QA X.prog X.w) X.A (Rk (.Name x pos) X.env) Q E s:=by
 obtain⟨e,c,d⟩:=I.mod.blt;exact WX I.ok.kind a (Calls.loadGlobal_builtin (by rw[I.ok.glob];exact I.mod.glob.keeps I.bk) hm (by rw[I.ok.blt];exact c.keeps I.bk) ((d x hn).trans b) h) hd
theorem KG(a:Gl X x)(hm:X.mg x=on u)(r:aN v u)(hd:(x==("__debug__":QO))=PX:=by decide):PE X (.Name x pos) (tC v):=
 λ_ _ _ H _ I h=>qN I a hm ⟨v,H,I,r,h⟩ hd
theorem ck(a:Gl X x)(hm:X.mg x=PM)(b:T5 x=on u)(r:aN v u)(hn:x≠"__name__":=by decide)(hd:(x==("__debug__":QO))=PX:=by decide):PE X (.Name x pos) (tC v):=
 λ_ _ _ H _ I h=>gm I a hm b ⟨v,H,I,r,h⟩ hn hd
variable{a b:Expr}{ta tb:TE}{pos:UE}
variable{tA tB':TT}{rest:List Expr}
def tOr(t u:TT):TT:=λσ H Q=>t σ H λc d=>if c=PQ then Q PQ d else u σ d Q
def tNot(t:TT):TT:=λσ H Q=>t σ H λc d=>Q (!c) d
theorem Mb(ha:PT X a tA):PW X (.BoolOp .Or [a] pos) tA:=by
 intro d pins s σ H Q I h;refine isTrue_or (thn (ha pins s σ H Q I h) λc f e=>?_);cases c with
 |false=>exact isTrue_or_nil e
 |true=>exact e
theorem OU(ha:PT X a tA)(f:PW X (.BoolOp .Or (b::rest) pos) tB'):PW X (.BoolOp .Or (a::b::rest) pos) (tOr tA tB'):=by
 intro g pins s σ H Q I h;refine isTrue_or (thn (ha pins s σ H _ I h) λc i ⟨d,e,q1⟩=>?_);cases c with
 |true=>exact⟨d,e,q1⟩
 |false=>exact f g pins i σ d Q e q1
theorem Md(ha:PT X a tA):PT X (.UnaryOp .Not a pos) (tNot tA):=by
 intro pins s σ H Q I h;exact isTrue_not (ha pins s σ H (λc d=>Q (!c) d) I h)
def OO(ta tb:TE):TE:=λσ H Q=>ta σ H λx d=>∃c,x= .bl c/\if c=PQ then tb σ d Q else Q (.bl PX) d
theorem Ml{op}(h:PE X a t):PE X (.BoolOp op [a] pos) t:=λpins s σ H Q I c=>BoolOp_one (h pins s σ H Q I c)
theorem Mp(ha:PE X a ta)(f:PE X (.BoolOp .And (b::rest) pos) tb):PE X (.BoolOp .And (a::b::rest) pos) (OO ta tb):=by
 intro pins s σ H Q I h;refine BoolOp_and (thn (ha pins s σ H _ I h) λv g ⟨x,d,e,r1,q1⟩=>?_);obtain⟨c,rfl,q1⟩:=q1;cases r1;refine Rj ?_;cases c with
 |true=>exact f pins g σ d Q e q1
 |false=>exact⟨.bl PX,d,e,rfl,q1⟩
def tIf(t:TT)(ta tb:TE):TE:=λσ H Q=>t σ H λc d=>if c=PQ then ta σ d Q else tb σ d Q
theorem CO(i:PT X c tA)(ha:PE X a ta)(j:PE X b tb):PE X (.IfExp c a b pos) (tIf tA ta tb):=by
 intro pins s σ H Q I h;refine wpAny_IfExp (thn (i pins s σ H _ I h) λd e ⟨f,g,q1⟩=>?_);cases d with
 |true=>exact ha pins e σ f Q g q1
 |false=>exact j pins e σ f Q g q1
def SqL(K:Qo)(H:Hp)(a:PZ)(xs:List V):Prop:=
 Rd H a (.lst xs)\/
  ∃(o:Qy) (its:Array P0) (n:Nat),K.lookup a=on o/\o.cls= .type "list"/\o.dict=PM/\o.data= .seq its n/\its.size<=Qp/\ax xs its.toList
def SqT(K:Qo)(H:Hp)(a:PZ)(xs:List V):Prop:=
 Rd H a (.tup xs)\/
  ∃(o:Qy) (its:Array P0) (n:Nat),K.lookup a=on o/\o.cls= .type "tuple"/\o.data= .seq its n/\its.size<=Qp/\ax xs its.toList
noncomputable def absV:P0->Option V
 | .none=>on .non
 | .bool b=>on (.bl b)
 | .int i _=>on (.int i)
 | .str x _=>on (.str x)
 | .ref a=>on (.ref a)
 | .type n=>on (.ty n)
 |_=>PM
theorem aN.abs(r:aN x u):absV u=on x:=by
 cases x with
 |non=>cases r;rfl
 |bl _=>cases r;rfl
 |int _=>obtain⟨t,rfl⟩:=r;rfl
 |str _=>obtain⟨t,rfl⟩:=r;rfl
 |ref _=>cases r;rfl
 |ty _=>cases r;rfl
theorem aN.inj(r:aN x u)(q:aN y u):x=y:=QB (r.abs.symm.trans q.abs)
theorem ax.inj:∀{xs ys:List V} {us:List P0},ax xs us->ax ys us->xs=ys
 |_,_,_,.nil,.nil=>rfl
 |_,_,_,.cons r t,.cons r' t'=>by rw[r.inj r',ax.inj t t']
end
section
variable{X:Cx}{pins:List (PZ×Qy)}{σ:St}{H:Hp}{s:P6}{a:PZ}{xs ys:List V}
theorem SqL.of{K:Qo}(h:H a=on (.lst xs)):SqL K H a xs:= .inl (.inl h)
theorem Inv.list(I:Inv X pins σ H s)(h:SqL X.K H a xs):∃its:List P0,ax xs its/\PlainL s.heap a its.toArray/\xs.length<=Qp:=by
 rcases h with h|⟨o,its,n,b,c,hd,hs,d,r⟩
 ·obtain⟨z,its,n,r,e⟩:=h.ok I.hok
  exact⟨its,r,⟨_,n,e,rfl,rfl,rfl⟩,z⟩
 ·refine⟨its.toList,r,⟨o,n,I.kIn a o b,c,hd,by simpa using hs⟩,?_⟩
  have e:=r.length;simp only[QN]at e;omega
theorem Inv.tuple(I:Inv X pins σ H s)(h:SqT X.K H a xs):∃its:List P0,ax xs its/\IsTup s.heap a its.toArray/\xs.length<=Qp:=by
 rcases h with h|⟨o,its,n,b,c,hs,d,r⟩
 ·obtain⟨z,its,r,p⟩:=h.ok I.hok
  exact⟨its,r,p,z⟩
 ·refine⟨its.toList,r,⟨o,I.kIn a o b,c,n,by simpa using hs⟩,?_⟩
  have e:=r.length;simp only[QN]at e;omega
theorem Inv.list_inj(I:Inv X pins σ H s)(h:SqL X.K H a xs)(h':SqL X.K H a ys):xs=ys:=by
 obtain⟨its,r,⟨o,n,e,_,_,d⟩,_⟩:=I.list h;obtain⟨its',c,⟨f,g,b,_,_,d'⟩,_⟩:=I.list h';rw[e]at b;cases b;rw[d]at d'
 injection d' with d1 _
 have:its=its':=by simpa using Rh Array.toList d1
 subst this;exact r.inj c
theorem Inv.tuple_inj(I:Inv X pins σ H s)(h:SqT X.K H a xs)(h':SqT X.K H a ys):xs=ys:=by
 obtain⟨its,r,⟨o,e,_,n,d⟩,_⟩:=I.tuple h;obtain⟨its',c,⟨f,b,_,g,d'⟩,_⟩:=I.tuple h';rw[e]at b;cases b;rw[d]at d'
 injection d' with d1 _
 have:its=its':=by simpa using Rh Array.toList d1
 subst this;exact r.inj c
noncomputable abbrev Cx.wish(X:Cx)(E:P0->P6->Prop):Cx:={X with xe:=E}
noncomputable abbrev Cx.nox(X:Cx):Cx:=X.wish λ_ _=>False
theorem Cx.Ok.wish{X:Cx}(ok:X.Ok)(E:P0->P6->Prop):(X.wish E).Ok:=
 ⟨ok.mod,ok.kind,ok.glob,ok.blt,ok.above,ok.inj,ok.has,ok.cab,ok.hd,ok.frames,ok.stk,ok.exf,ok.bs,ok.bsz,ok.noex,ok.exfs,ok.funs,ok.frf⟩
theorem Cx.Ok.unwish{X:Cx}{E:P0->P6->Prop}(ok:(X.wish E).Ok):X.Ok:=
 ⟨ok.mod,ok.kind,ok.glob,ok.blt,ok.above,ok.inj,ok.has,ok.cab,ok.hd,ok.frames,ok.stk,ok.exf,ok.bs,ok.bsz,ok.noex,ok.exfs,ok.funs,ok.frf⟩
variable{E:P0->P6->Prop}
theorem Inv.wish(I:Inv X pins σ H s)(E:P0->P6->Prop):Inv (X.wish E) pins σ H s:=⟨I.ok.wish E,I.os,I.bare,I.base,I.loc,I.cell,I.free,I.freeC,I.pin,I.hok,I.len⟩
theorem Inv.unwish(I:Inv (X.wish E) pins σ H s):Inv X pins σ H s:=⟨I.ok.unwish,I.os,I.bare,I.base,I.loc,I.cell,I.free,I.freeC,I.pin,I.hok,I.len⟩
theorem SP.unwish{D:Ends}(h:SP (X.wish E) pins D f s'):SP X pins D f s':=by
 cases f with
 |next=>obtain⟨b,c,I,q⟩:=h;exact⟨b,c,I.unwish,q⟩
 |brk=>obtain⟨b,c,I,q⟩:=h;exact⟨b,c,I.unwish,q⟩
 |cont=>obtain⟨b,c,I,q⟩:=h;exact⟨b,c,I.unwish,q⟩
 |ret u=>obtain⟨v,b,c,I,r,q⟩:=h;exact⟨v,b,c,I.unwish,r,q⟩
theorem PSs.nox{st:List Q9}(h:PSs X.nox st t):PSs X st t:=λpins s σ H D I b=>
 Q2 (h pins s σ H D (I.wish _) b) (λ_ _ q=>q.unwish) λ_ _ z=>SD z
variable{st:Q9}{rest:List Q9}{t u:TS}{e:Expr}{te:TE}{pos:UE}
noncomputable def OM:TS:=λD σ H=>D.nx σ H
def tSeq(t u:TS):TS:=λD σ H=>t {D with nx:=u D} σ H
theorem qK:PSs X [] OM:=λ_ _ σ H _ I h=>V4 ⟨σ,H,I,h⟩
theorem c7(c:PS X st t)(d:PSs X rest u):PSs X (st::rest) (tSeq t u):=by
 intro pins s σ H D I h;refine wpAny_execs_cons (thn (c pins s σ H {D with nx:=u D} I h) λf g q=>?_);cases f with
 |next=>
  obtain⟨b,i,j,q⟩:=q;exact d pins g b i D j q
 |ret v=>exact q
 |brk=>exact q
 |cont=>exact q
theorem np(b:PS X st t):PSs X [st] t:=by
 intro pins s σ H D I h;refine wpAny_execs_cons (thn (b pins s σ H D I h) λf c q=>?_);cases f with
 |next=>exact V4 q
 |ret v=>exact q
 |brk=>exact q
 |cont=>exact q
theorem Inv.quiet{pins:List (PZ×Qy)}{σ:St}{H:Hp}{s:P6}(I:Inv X pins σ H s):interactive X.env=PX:=by simp[interactive,I.ok.kind]
def wZ(te:TE):TS:=λD σ H=>te σ H λ_ b=>D.nx σ b
theorem dm(b:PE X e te)(hs:UL e PM pos.line X.env=SB PX:=by rfl):PS X (.Expr e pos) (wZ te):=by
 intro pins s σ H D I h;exact wpAny_Expr_any (thn (b pins s σ H _ I h) λv f ⟨x,c,d,r1,q1⟩=>⟨σ,c,d,q1⟩) I.quiet hs
def BS(te:TE):TS:=λD σ H=>te σ H D.rt
theorem aq(b:PE X e te):PS X (.Return (on e) pos) (BS te):=by
 intro pins s σ H D I h;exact wpAny_Return_some (thn (b pins s σ H _ I h) λv f ⟨x,c,d,r1,q1⟩=>⟨x,σ,c,d,r1,q1⟩)
def tIfS(c:TT)(t u:TS):TS:=λD σ H=>c σ H λb d=>if b=PQ then t D σ d else u D σ d
theorem IG{a b:List Q9}(j:PT X c tc)(ha:PSs X a t)(k:PSs X b u):PS X (.If c a b pos) (tIfS tc t u):=by
 intro pins s σ H D I h;refine wpAny_If (thn (j pins s σ H _ I h) λd f ⟨g,i,q1⟩=>?_);cases d with
 |true=>exact ha pins f σ g D i q1
 |false=>exact k pins f σ g D i q1
abbrev TG:=V->St->Hp->(St->Hp->Prop)->Prop
abbrev TGs:=List V->St->Hp->(St->Hp->Prop)->Prop
def PG(X:Cx)(b:Expr)(t:TG):Prop:=
 ∀(pins:List (PZ×Qy)) (s:P6) (σ:St) (H:Hp) (v:V) (u:P0) (Q:St->Hp->Prop),Inv X pins σ H s->aN v u->t v σ H Q->
  Qj (QA X.prog X.w) X.A (U6 b X.env u) (λ_ s'=>∃c d,Inv X pins c d s'/\Q c d) X.xe s
def PGs(X:Cx)(d:List Expr)(t:TGs):Prop:=
 ∀(pins:List (PZ×Qy)) (s:P6) (σ:St) (H:Hp) (vs:List V) (us:List P0) (Q:St->Hp->Prop),Inv X pins σ H s->ax vs us->t vs σ H Q->
  Qj (QA X.prog X.w) X.A (assignInOrder ((VW d X.env).map (·.2)) us) (λ_ s'=>∃b c,Inv X pins b c s'/\Q b c) X.xe s
abbrev HA:=V->V->V->Hp->(Hp->Prop)->Prop
def Oz(X:Cx)(t:HA):Prop:=
 ∀(pins:List (PZ×Qy)) (s:P6) (σ:St) (H:Hp) (o i v:V) (b c u:P0) (Q:Hp->Prop),Inv X pins σ H s->aN o b->aN i c->aN v u->t o i v H Q->
  Qj (QA X.prog X.w) X.A (setItem b c u) (λ_ s'=>∃d,Inv X pins σ d s'/\Q d) X.xe s
abbrev TIp:=V->V->Hp->VK->Prop
def PIp(X:Cx)(op:Operator)(t:TIp):Prop:=
 ∀(pins:List (PZ×Qy)) (s:P6) (σ:St) (H:Hp) (x y:V) (v u:P0) (Q:VK),Inv X pins σ H s->aN x v->aN y u->t x y H Q->
  Qj (QA X.prog X.w) X.A (inplaceOp op v u) (EP X pins σ Q) X.xe s
def fq(i:Nat):TG:=λv σ H Q=>Q (σ.set i (on v)) H
theorem we(b:X.N.Nodup)(c:X.N[i]?=on x)(d:Loc X.env.scope x)(f:X.fn x=PQ\/X.env.scope.names.lookup x=on .local:=by first|exact .inl rfl|exact .inr rfl|assumption):PG X (.Name x pos) (fq i):=by
 intro pins s σ H v u Q I r h;exact W8 (oz I b c d r (λs' g=>⟨_,H,g,h⟩) f)
noncomputable def gNil:TGs:=λvs σ H Q=>vs=[]/\Q σ H
def xP(t:TG)(u:TGs):TGs:=λvs σ H Q=>∃v r,vs=v::r/\t v σ H λb c=>u r b c Q
theorem bp:PGs X [] gNil:=by
 intro pins s σ H vs us Q I r h;obtain⟨e,h⟩:=h;subst e;cases r;exact assignInOrder_nil ⟨σ,H,I,h⟩
theorem ar{e:Expr}{t:TG}{u:TGs}(c:PG X e t)(d:PGs X es u)
  (hs:(VW (e::es) X.env).map (·.2)=U6 e X.env::(VW es X.env).map (·.2):=by rfl):PGs X (e::es) (xP t u):=by
 intro pins s σ H vs us Q I r h;obtain⟨v,l,f,h⟩:=h;subst f;cases r with
 |cons r g=>
  rw[hs];refine assignInOrder_cons (thn (c pins s σ H _ _ _ I r h) λ_ i ⟨b,j,k,q1⟩=>?_);exact d pins i b j _ _ Q k g q1
def EB(K:Qo)(n:Nat)(t:TGs):TG:=λv σ H Q=>∃a xs,v= .ref a/\SqT K H a xs/\xs.length=n/\t xs σ H Q
theorem bw{t:TGs}(g:X.calm=PQ)(h:PGs X es t)
  (hn:(VW es X.env).length=n:=by rfl) (c:(VW es X.env).findIdx? (·.1)=PM:=by rfl):PG X (.Tuple es k pos) (EB X.K n t):=by
 intro pins s σ H v u Q I r d;obtain⟨a,xs,i,j,l,d⟩:=d;subst i;cases r;obtain⟨its,f,m,w⟩:=I.tuple j;refine assign_Tuple_tuple (I.ok.hd g) m (by simp[hn,←l,f.length]) c λh' p=>?_;have q:Inv X pins σ H {s with heap:=h'}:=I.kept (t':=s.toks) λb o e=>p b o (Q1 (Qz e)) e;exact h pins _ σ H xs _ Q q (by simpa using f) d
def M8(to b:TE)(t:HA):TG:=λv σ H Q=>to σ H λo c=>b σ c λi d=>t o i v d λf=>Q σ f
theorem kC{t:HA}(d:PE X o to)(f:PE X i ti)(hs:Oz X t)
  (ha:∀v,U6 (.Subscript o i pos) X.env v=(do
   let b ←Ux [v] (Rk o X.env)
   let c ←Ux [v,b] (Rk i X.env)
   T6 pos
   Ux [v,b,c] (setItem b c v)
   release [v,b,c] []):=by intro _;rfl):PG X (.Subscript o i pos) (M8 to ti t):=by
 intro pins s σ H v u Q I r h;rw[ha];refine My (RG (thn (d pins s σ H _ I h) λb g ⟨x,j,k,r1,q1⟩=>?_));refine My (RG (thn (f pins g σ j _ k q1) λc l ⟨y,m,n,p,q2⟩=>?_));refine My (SF (My (RG (thn (hs pins l σ m x y v b c u _ n r1 p r q2) λ_ A ⟨q,w,q3⟩=>?_))));exact wpAny_release ⟨σ,q,w,q3⟩
def jU(te:TE)(g:TG):TS:=λD σ H=>te σ H λx b=>g x σ b D.nx
theorem dN{tg e:Expr}{te:TE}(b:PE X e te)(c:PG X tg g)(hs:swapsWithSole [tg] e pos.line X.env=SB PX:=by rfl)(d:swappedStores [tg] e X.env=SB PM:=by rfl)
  (f:(VW [tg] X.env).map (·.2)=[U6 tg X.env]:=by rfl):PS X (.Assign [tg] e pos) (jU te g):=by
 intro pins s σ H D I h;refine wpAny_Assign_stores (thn (b pins s σ H _ I h) λv i ⟨x,j,k,r1,q1⟩=>?_) hs d;rw[f];exact thn (c pins i σ j x v _ k r1 q1) λ_ l q=>q
theorem pI{e:Expr}{te:TE}(b:X.N.Nodup)(c:X.N[i]?=on x)(d:Loc X.env.scope x)(f:PE X e te)(hs:UL e (on (.Name x pos')) pos.line X.env=SB PX:=by rfl)(g:X.fn x=PQ\/X.env.scope.names.lookup x=on .local:=by first|exact .inl rfl|exact .inr rfl|assumption):
  PS X (.Assign [.Name x pos'] e pos) (jU te (fq i)):=by
 intro pins s σ H D I h;refine wpAny_Assign_Name (thn (f pins s σ H _ I h) λv m ⟨y,j,k,r1,q1⟩=>?_) hs;exact oz k b c d r1 (λn l=>⟨_,j,l,q1⟩) g
def LM(i:Nat)(te:TE)(b:TIp):TS:=λD σ H=>∃x,σ[i]?=on (on x)/\te σ H λy c=>b x y c λz d=>D.nx (σ.set i (on z)) d
theorem dM{e:Expr}{te:TE}(o:X.N.Nodup)(n:X.N[i]?=on x)(g:Loc X.env.scope x)(p:PE X e te)(q:PIp X op ti)(B:X.fn x=PQ\/X.env.scope.names.lookup x=on .local:=by first|exact .inl rfl|exact .inr rfl|assumption):
  PS X (.AugAssign (.Name x pos') op e pos) (LM i te ti):=by
 intro pins s σ H D I h;obtain⟨v,C,h⟩:=h;obtain⟨m,hn,F⟩:=I.loc;have j:Vis X.env.scope x:=by rcases g with k|k;exact .inl k;exact .inr (.inl k)
 obtain⟨u,r,l⟩:=F i x v n C j;refine wpAny_AugAssign_Name ?_;have go:Qj (QA X.prog X.w) X.A (Rk e X.env) (λw d=>Qj (QA X.prog X.w) X.A (inplaceOp op u w) (λr f=>Qj (QA X.prog X.w) X.A (storeName X.env x r) (λ_=>SP X pins D .next) X.xe f) X.xe d) X.xe s:=by
  refine thn (p pins s σ H _ I h) λw J ⟨y,L,O,r1,q1⟩=>?_;refine thn (q pins J σ L v y u w _ O r r1 q1) λz W ⟨Y,P,Q,R,q2⟩=>?_;exact oz Q o n g R (λZ T=>⟨_,P,T,q2⟩) B
 rcases l with⟨hk,hm⟩|⟨hk,c,U,b⟩
 ·exact wpAny_loadName_local I.ok.kind hk hn hm go
 ·rcases hk with hk|hk
  ·exact wpAny_loadName_cell I.ok.kind hk U b go
  ·rcases g with k|k
   ·have:X.env.scope.names.lookup x=on .free:=hk
    rw[k]at this;cases this
   ·have:X.env.scope.names.lookup x=on .free:=hk
    rw[k]at this;cases this
def ipI(f:Int->Int->Int):TIp:=λx y H Q=>∃i j,x= .int i/\y= .int j/\Q (.int (f i j)) H
theorem jp:PIp X .Add (ipI λi j=>i+j):=by
 intro pins s σ H x y v u Q I r1 b h;obtain⟨i,j,c,d,q⟩:=h;subst c;subst d;obtain⟨t,rfl⟩:=r1;obtain⟨t',rfl⟩:=b;exact iadd_int ⟨.int _,H,I.tok _,⟨_,rfl⟩,q⟩
theorem MZ:PIp X .Sub (ipI λi j=>i-j):=by
 intro pins s σ H x y v u Q I r1 b h;obtain⟨i,j,c,d,q⟩:=h;subst c;subst d;obtain⟨t,rfl⟩:=r1;obtain⟨t',rfl⟩:=b;exact isub_int ⟨.int _,H,I.tok _,⟨_,rfl⟩,q⟩
def LF(c:TT)(i:TS):TS:=λD σ H=>∃W:Nat->St->Hp->Prop,(∃m,W m σ H)/\∀m σ H,W m σ H->
 c σ H λb f=>if b=PQ then ∃N:St->Hp->Prop,(∀d g,N d g->∃h,h<m/\W h d g)/\i {D with nx:=N,ct:=N,bk:=D.nx} σ f else D.nx σ f
theorem CH(q:YU (QA X.prog X.w) X.A X.env X.xe)(J:PT X c tc)(L:PSs X body tb):PS X (.While c body [] pos) (LF tc tb):=by
 intro pins s σ H D I h;obtain⟨W,⟨O,P⟩,i⟩:=h;refine wpAny_While (codeAny_whileLoop (λn s'=>∃j r,Inv X pins j r s'/\W n j r) ?_ O ⟨σ,H,I,P⟩);rintro n Q ⟨g,y,R,T⟩;refine Tq q (thn (J pins Q g y _ R (i n g y T)) λb U ⟨B,C,q2⟩=>?_);cases b with
 |true=>
  obtain⟨N,F,q2⟩:=q2;rw[P7 rfl];refine Tq q (thn (L pins U g B _ C q2) λf Y q3=>?_);cases f with
  |next=>
   obtain⟨d,k,l,m⟩:=q3;obtain⟨o,hm,p⟩:=F d k m;exact⟨o,hm,d,k,l,p⟩
  |cont=>
   obtain⟨d,k,l,m⟩:=q3;obtain⟨o,hm,p⟩:=F d k m;exact⟨o,hm,d,k,l,p⟩
  |brk=>exact q3
  |ret v=>exact q3
 |false=>
  rw[P5 P8];exact V4 ⟨g,B,C,q2⟩
structure It where
 go:Nat->Hp->Prop
 yld:Nat->Hp->V->Hp->Prop
 stop:Nat->Hp->Prop
def fG(X:Cx)(pins:List (PZ×Qy))(H:Hp)(b:PZ):Prop:=
 H b=PM/\b≠X.env.locals/\b∉X.fs/\(b∈X.ex\/X.s₀.heap.objs.size<=b)/\(∀x c,X.env.cells.lookup x=on c->c≠b)/\∀p∈X.pn++pins,p.1≠b
theorem Inv.fpOk{X:Cx}{pins:List (PZ×Qy)}{σ:St}{H f:Hp}{s:P6}{b:PZ}(I:Inv X pins σ H s)(d:s.heap.objs.size<=b)(hn:f b=PM):fG X pins f b:=by
 refine⟨hn,S9 (Qv I.lt d),I.nofs d,.inr (Qs I.sz d),λx c e z=>?_,λp g z=>?_⟩
 ·obtain⟨v,q⟩:=I.cell x c e
  exact Qx (Qv q.lt (by rw[z];exact d)) (Q0 _)
 ·exact Qx (Qv (Qz (I.pin p g).1) (by rw[z];exact d)) (Q0 _)
structure Turn (P:QG) (w:QT) (K:Qo) (tg:Expr) (J:It) (fp:List PZ) (it:PZ) (tn:Nat->Rl->Prop):Prop where
 mem:it∈fp
 obj:∀i h,tn i h->∀b∈fp,∃o,h.get? b=on o/\∀v,o.data≠ .cell v
 keep:∀i h h',tn i h->(∀b∈fp,∀o,h.get? b=on o->h'.get? b=on o)->tn i h'
 item:∀(X:Cx),X.prog=P->X.w=w->X.K=K->X.calm=PQ->∀(i:Nat) (pins:List (PZ×Qy)) (s:P6) (σ:St) (H:Hp) (E:P0->P6->Prop),Inv X pins σ H s->(∀b∈fp,fG X pins H b)->tn i s.heap->J.go i H->
  Qj (QA P w) X.A (Uy (.ref it)) (λr s1=>∃u,r=on u/\
   Qj (QA P w) X.A (U8 tg (.ref it) u) (λ_ s2=>∃x H',Inv X pins σ H' s2/\aN x u/\J.yld i H x H'/\tn (i+1) s2.heap/\∀b∈fp,H' b=PM) E s1) E s
 done:∀(X:Cx),X.prog=P->X.w=w->X.K=K->X.calm=PQ->∀(i:Nat) (pins:List (PZ×Qy)) (s:P6) (σ:St) (H:Hp) (E:P0->P6->Prop),Inv X pins σ H s->(∀b∈fp,fG X pins H b)->tn i s.heap->J.stop i H->
  Qj (QA P w) X.A (Uy (.ref it)) (λr s1=>r=PM/\Inv X pins σ H s1) E s
 self:∀(A:Q7) (i:Nat) (s:P6) (Q:P0->P6->Prop) (E:P0->P6->Prop),tn i s.heap->Q (.ref it) s->Qj (QA P w) A (Wj (.ref it)) Q E s
abbrev TI:=St->Hp->(It->Hp->Prop)->Prop
def PIE(X:Cx)(pins:List (PZ×Qy))(σ:St)(tg:Expr)(R:It->Hp->Prop)(c:P0)(f:P6):Prop:=
 ∃(it:PZ) (g:List PZ) (h:Nat->Rl->Prop) (J:It) (d:Hp),c= .ref it/\Inv X pins σ d f/\Turn X.prog X.w X.K tg J g it h/\h 0 f.heap/\(∀b∈g,fG X pins d b)/\R J d
def PI(X:Cx)(tg b:Expr)(c:TI):Prop:=
 ∀(pins:List (PZ×Qy)) (s:P6) (σ:St) (H:Hp) (R:It->Hp->Prop),Inv X pins σ H s->c σ H R->
  Qj (QA X.prog X.w) X.A (Rk b X.env) (λv d=>Qj (QA X.prog X.w) X.A (Wj v) (PIE X pins σ tg R) X.xe d) X.xe s
theorem sU{M:Model}{E:P0->P6->Prop}{s:P6}{u:P0}{o:Qy}(c:s.heap.get? it=on o)(d:o.cls= .type n)(hd:o.data= .fields vs)
  (hn:["enumerate","zip","dict_itemiterator","dict_reverseitemiterator","odict_iterator","itertools.zip_longest","itertools.pairwise"].contains n=PX) (b:Q () s):Qj M A (U8 tg (.ref it) u) Q E s:=by
 unfold U8;cases tg<;>first
  |exact PN b
  |(cases u<;>first
   |exact PN b
   |(refine My (wpAny_load c ?_)
     rw[d,hd];show Qj M A (if(["enumerate","zip","dict_itemiterator","dict_reverseitemiterator","odict_iterator","itertools.zip_longest","itertools.pairwise"].contains n&&vs[0]?==on (Uc _))=PQ then _ else _) Q E s;rw[P5 (by intro h;rw[hn,Uf]at h;cases h)];exact PN b))
noncomputable def Itl(K:Qo)(a:PZ):It:=
 ⟨λi H=>∃xs x,SqL K H a xs/\xs[i]?=on x,λi H x b=>b=H/\∀xs,SqL K H a xs->xs[i]?=on x,λi H=>∃xs,SqL K H a xs/\xs.length<=i⟩
noncomputable def Itt(K:Qo)(a:PZ):It:=
 ⟨λi H=>∃xs x,SqT K H a xs/\xs[i]?=on x,λi H x b=>b=H/\∀xs,SqT K H a xs->xs[i]?=on x,λi H=>∃xs,SqT K H a xs/\xs.length<=i⟩
noncomputable def Itr(lo:Int)(n:Nat):It:=⟨λi _=>i<n,λi H x b=>b=H/\x= .int (lo+i),λi _=>n<=i⟩
theorem rh{K:Qo}(a it:PZ):Turn P w K tg (Itl K a) [it] it (λi h=>h.IsListIter it a i) where
 mem:=by simp
 obj:=λi h st b f=>by
  have e:b=it:=by simpa using f
  subst e;obtain⟨o,e,c,d⟩:=st;exact⟨o,e,λv z=>by rw[d]at z;cases z⟩
 keep:=λi h h' st k=>st.at λo e=>k it (by simp) o e
 item:=by
  intro X m n q L i pins s σ H E I j st r;subst m n q;obtain⟨xs,x,l,y⟩:=r;obtain⟨its,A,p,N⟩:=I.list l;obtain⟨u,O,Q⟩:=A.get y;obtain⟨B,f1,f2,C,F,J⟩:=j it (by simp);refine wpAny_pyNext_list_item st p.isList (x:=u) (by simpa using O) λh' g R=>?_;have T:Inv X pins σ H {s with heap:=h'}:=I.turned (t':=s.toks) (λb o f e=>(R.2 b f).trans e) B f1 C F J;obtain⟨o,e,c,d⟩:=id g;exact⟨u,rfl,sU (s:={s with heap:=h'}) e c d (by decide) ⟨x,H,T,Q,⟨rfl,λys U=>by rw[I.list_inj U l];exact y⟩,g,λb f=>(j b f).1⟩⟩
 done:=by
  intro X m n q L i pins s σ H E I j st r;subst m n q;obtain⟨xs,l,y⟩:=r;obtain⟨its,A,p,N⟩:=I.list l;obtain⟨B,f1,f2,C,F,J⟩:=j it (by simp);have Y:=A.length;exact wpAny_pyNext_list_end (I.ok.hd L) st p.isList (by simp;omega) λh' W=>⟨rfl,I.turned (t':=s.toks) (λb o f e=>W b o f e) B f1 C F J⟩
 self:=λ_ _ _ _ _ st h=>wpAny_pyIter_listiter st h
theorem wU{K:Qo}(a it:PZ):Turn P w K tg (Itt K a) [it] it (λi h=>h.IsTupleIter it a i) where
 mem:=by simp
 obj:=λi h st b f=>by
  have e:b=it:=by simpa using f
  subst e;obtain⟨o,e,c,d⟩:=st;exact⟨o,e,λv z=>by rw[d]at z;cases z⟩
 keep:=λi h h' st k=>st.at λo e=>k it (by simp) o e
 item:=by
  intro X m n q L i pins s σ H E I j st r;subst m n q;obtain⟨xs,x,l,y⟩:=r;obtain⟨its,A,p,N⟩:=I.tuple l;obtain⟨u,O,Q⟩:=A.get y;obtain⟨B,f1,f2,C,F,J⟩:=j it (by simp);refine wpAny_pyNext_tuple_item st (show s.heap.IsTuple a its.toArray from p) (x:=u) (by simpa using O) λh' g R=>?_;have T:Inv X pins σ H {s with heap:=h'}:=I.turned (t':=s.toks) (λb o f e=>(R.2 b f).trans e) B f1 C F J;obtain⟨o,e,c,d⟩:=id g;exact⟨u,rfl,sU (s:={s with heap:=h'}) e c d (by decide) ⟨x,H,T,Q,⟨rfl,λys U=>by rw[I.tuple_inj U l];exact y⟩,g,λb f=>(j b f).1⟩⟩
 done:=by
  intro X m n q L i pins s σ H E I j st r;subst m n q;obtain⟨xs,l,y⟩:=r;obtain⟨its,A,p,N⟩:=I.tuple l;obtain⟨B,f1,f2,C,F,J⟩:=j it (by simp);have Y:=A.length;exact wpAny_pyNext_tuple_end (I.ok.hd L) st (show s.heap.IsTuple a its.toArray from p) (by simp;omega) λh' W=>⟨rfl,I.turned (t':=s.toks) (λb o f e=>W b o f e) B f1 C F J⟩
 self:=λ_ _ _ _ _ st h=>wpAny_pyIter_tupleiter st h
theorem wV{K:Qo}(it:PZ)(lo:Int)(n:Nat):Turn P w K tg (Itr lo n) [it] it (λi h=>Xp h it (lo+(i:Nat)*1) ((n:Int)-(i:Nat)) 1) where
 mem:=by simp
 obj:=λi h st b c=>by
  have e:b=it:=by simpa using c
  subst e;exact⟨_,st,λv z=>by
   have C:Data.fields _=Data.cell v:=z;cases C⟩
 keep:=λi h h' st k=>k it (by simp) _ st
 item:=by
  intro X g j l m i pins s σ H E I f st p;subst g j l;obtain⟨q,f1,f2,r,y,A⟩:=f it (by simp);have W:=Walks.range (prog:=X.prog) (w:=X.w) (I.ok.hd m) it lo 1 n;refine W.item i s _ _ p st λv h' B F d J=>?_;obtain⟨t,rfl⟩:=F;have L:Inv X pins σ H {s with heap:=h',toks:=B}:=I.turned (λb o c e=>J b o (by simpa using c) e) q f1 r y A;refine⟨_,rfl,sU (s:={s with heap:=h',toks:=B}) (n:="range_iterator") d rfl rfl (by decide) ⟨.int (lo+i),H,L,⟨t,?_⟩,⟨rfl,rfl⟩,d,λb c=>(f b c).1⟩⟩;rw[Int.mul_one]
 done:=by
  intro X g j l m i pins s σ H E I f st p;subst g j l;obtain⟨q,f1,f2,r,y,A⟩:=f it (by simp);exact Zk (I.ok.hd m) st (by have:n<=i:=p;omega) λh' N=>⟨rfl,I.turned (t':=s.toks) (λb o c e=>N b o c e) q f1 r y A⟩
 self:=λ_ _ _ _ _ st h=>V0 st h
variable{tg:Expr}
def Pr(K:Qo)(tl:TE):TI:=λσ H R=>tl σ H λx b=>∃a,x= .ref a/\(∃xs,SqL K b a xs)/\R (Itl K a) b
theorem KC(f:PE X l tl):PI X tg l (Pr X.K tl):=by
 intro pins s σ H R I h;refine thn (f pins s σ H _ I h) λv c ⟨x,g,d,r1,q1⟩=>?_;obtain⟨a,e,⟨xs,i⟩,q⟩:=q1;subst e;cases r1;obtain⟨its,k,p,m⟩:=d.list i;refine VE p.isList ?_;refine⟨c.heap.objs.size,[c.heap.objs.size],_,_,g,rfl,d.kept (t':=c.toks) λb o e=>PU _ e,rh a _,⟨_,Qk _ rfl,rfl,rfl⟩,λb j=>?_,q⟩;have e:b=c.heap.objs.size:=by simpa using j
 subst e;exact d.fpOk (P9 _) (d.hok.fresh (P9 _))
theorem ui{pins:List (PZ×Qy)}{σ:St}{H:Hp}{s:P6}{E:P0->P6->Prop}{lo c:Int}{t u v:Tok}(I:Inv X pins σ H s)(f:-(2^62)<=lo)(g:lo<2^62)(h:-(2^62)<=c)(i:c<2^62)
  (q:R (Itr lo (c-lo).toNat) H):Qj (QA X.prog X.w) X.A (Wj (.ref s.heap.objs.size)) (PIE X pins σ tg R) E {s with heap:=s.heap.push {cls:= .type "range",data:= .fields #[.int lo t,.int c u,.int 1 v]},toks:=tk}:=by
 refine wpAny_pyIter_range (IsRange.new ..) (small_one f g h i) ?_;have d:Inv X pins σ H {s with heap:=s.heap.push {cls:= .type "range",data:= .fields #[.int lo t,.int c u,.int 1 v]},toks:=tk}:=I.kept λb o e=>PU _ e;refine⟨(s.heap.push {cls:= .type "range",data:= .fields #[.int lo t,.int c u,.int 1 v]}).objs.size,[(s.heap.push {cls:= .type "range",data:= .fields #[.int lo t,.int c u,.int 1 v]}).objs.size],_,_,H,rfl,
  d.kept (t':=tk) λb o e=>PU _ e,wV _ lo (c-lo).toNat,?_,λb j=>?_,q⟩
 ·have k:lo+((0:Nat):Int)*1=lo:=by simp
  have l:(((c-lo).toNat:Nat):Int)-((0:Nat):Int)=Wq lo c 1:=by rw[rangeSize_one];split<;>omega
  show Xp _ _ (lo+((0:Nat):Int)*1) ((((c-lo).toNat:Nat):Int)-((0:Nat):Int)) 1;rw[k,l];exact Qk _ rfl
 ·have e:b=(s.heap.push {cls:= .type "range",data:= .fields #[.int lo t,.int c u,.int 1 v]}).objs.size:=by simpa using j
  subst e;exact d.fpOk (P9 _) (d.hok.fresh (P9 _))
def Pp(b:TA):TI:=λσ H R=>b σ H λvs c=>∃j:Int,vs=[.int j]/\-(2^62)<=j/\j<2^62/\R (Itr 0 j.toNat) c
def Po(b:TA):TI:=λσ H R=>b σ H λvs c=>∃i j:Int,vs=[.int i,.int j]/\(-(2^62)<=i/\i<2^62/\-(2^62)<=j/\j<2^62)/\R (Itr i (j-i).toNat) c
theorem zh{a:Expr}{p pos:UE}(b:Gl X "range")(hm:X.mg "range"=PM)(ha:PA X [a] ta)(hs:Qg [a] X.env=[(PX,Rk a X.env)]:=by rfl):PI X tg (.Call (.Name "range" p) [a] [] pos) (Pp ta):=by
 intro pins s σ H R I h;refine Call_ (gm I b hm boot_range (RA (thn (ha pos pins s σ H _ I h) λus f ⟨vs,g,c,r1,q1⟩=>?_) hs rfl));obtain⟨j,e,q1,q2,q⟩:=q1;subst e;cases r1 with
 |cons r d=>
  cases d;obtain⟨t,rfl⟩:=r;exact call_range_1 (ui c (by omega) (by omega) q1 q2 (by simpa using q))
theorem zg{a b:Expr}{p pos:UE}(f:Gl X "range")(hm:X.mg "range"=PM)(ha:PA X [a,b] ta)(hs:Qg [a,b] X.env=[(PX,Rk a X.env),(PX,Rk b X.env)]:=by rfl)(c:Qg [b] X.env=[(PX,Rk b X.env)]:=by rfl):
  PI X tg (.Call (.Name "range" p) [a,b] [] pos) (Po ta):=by
 intro pins s σ H R I h;refine Call_ (gm I f hm boot_range (RA (thn (ha pos pins s σ H _ I h) λus l ⟨vs,m,g,r1,q1⟩=>?_) (by rw[hs,c]) (by rw[c];rfl)));obtain⟨i,j,e,⟨q1,q2,q3,q4⟩,q⟩:=q1;subst e;cases r1 with
 |cons r d=>
  cases d with
  |cons k d=>
   cases d;obtain⟨t,rfl⟩:=r;obtain⟨t',rfl⟩:=k;exact call_range_2 (ui g q1 q2 q3 q4 q)
def LL(h:TI)(g:TG)(j:TS):TS:=λD σ H=>h σ H λJ k=>∃W:Nat->Nat->St->Hp->Prop,(∃m,W 0 m σ k)/\∀i m σ H,W i m σ H->
 (J.stop i H/\D.nx σ H)\/(J.go i H/\∃N:St->Hp->Prop,(∀b c,N b c->∃f,f<m/\W (i+1) f b c)/\∀x c,J.yld i H x c->g x σ c λd l=>j {D with nx:=N,ct:=N,bk:=D.nx} d l)
noncomputable def mo(c:List PZ)(h:Rl):List (PZ×Qy):=c.filterMap λb=>(h.get? b).map λo=>(b,o)
theorem iQ{h:Rl}(c:b∈fp)(e:h.get? b=on o):(b,o)∈mo fp h:=UY.mpr ⟨b,c,by rw[e];rfl⟩
theorem zt{h:Rl}{p:PZ×Qy}(c:p∈mo fp h):p.1∈fp/\h.get? p.1=on p.2:=by
 obtain⟨b,d,e⟩:=UY.mp c;cases q:h.get? b with
 |none=>rw[q]at e;cases e
 |some o=>
  rw[q]at e;have f:(b,o)=p:=QB e;subst f;exact⟨d,q⟩
theorem Inv.pinned{pins:List (PZ×Qy)}{σ:St}{H:Hp}{s:P6}(I:Inv X pins σ H s)(g:∀b∈fp,fG X pins H b)(h:∀b∈fp,∃o,s.heap.get? b=on o/\∀v,o.data≠ .cell v):Inv X (pins++mo fp s.heap) σ H s:=
 I.pins_of λp i=>(RC.mp i).elim (λz=>I.pin p (QW _ z)) λz=>by
  obtain⟨c,e⟩:=zt z;obtain⟨j,f1,f2,_⟩:=g p.1 c;obtain⟨o,f,d⟩:=h p.1 c;rw[e]at f;cases f;exact⟨e,j,f1,f2,d⟩
theorem Inv.unpinned{pins pl:List (PZ×Qy)}{σ:St}{H:Hp}{s:P6}(I:Inv X (pins++pl) σ H s):Inv X pins σ H s:=I.pins_of λp b=>I.pin p (QW _ (Su _ b))
theorem br{pos:UE}(L:YU (QA X.prog X.w) X.A X.env X.xe)(hc:X.calm=PQ)(hi:PI X tg iter wi)(hg:PG X tg g)(j:PSs X body tb)
  (hs:∀x,QX iter X.env x=SB x:=by intro _;rfl):PS X (.For tg iter body [] pos) (LL wi g tb):=by
 intro pins s σ H D I h;refine wpAny_For (thn (hi pins s σ H _ I h) λv s1 h1=>thn h1 λitv s2 h2=>?_) hs;obtain⟨it,O,tn,J,H2,e,I2,T,Z,f2,W,⟨m0,w0⟩,P⟩:=h2;subst e
 --what stays PQ of the iterator's objects through the loop
 have k:∀{B:Hp},(∀b∈O,B b=PM)->∀b∈O,fG X pins B b:=λhn b j=>⟨hn b j,(f2 b j).2⟩;refine codeAny_forLoop_any (λn s'=>∃i l B,Inv X pins l B s'/\tn i s'.heap/\(∀b∈O,B b=PM)/\W i n l B) ?_ m0 ⟨0,σ,H2,I2,Z,λb j=>(f2 b j).1,w0⟩;rintro n s3 ⟨i,p,Y,I3,Q,R,w3⟩;rcases P i n p Y w3 with⟨stop,qn⟩|⟨go,N,hN,step⟩
 ·refine Tq L (thn (T.done X rfl rfl rfl hc i pins s3 p Y X.xe I3 (k R) Q stop) λr s4 ⟨hr,I4⟩=>?_)
  subst hr;exact V4 ⟨p,Y,I4,qn⟩
 ·refine Tq L (thn (T.item X rfl rfl rfl hc i pins s3 p Y X.xe I3 (k R) Q go) λr s4 ⟨u,hr,h4⟩=>?_)
  subst hr;refine Tq L (thn h4 λ_ s5 ⟨x,H5,I5,r5,y5,F,fr5⟩=>?_);have I5':=I5.pinned (k fr5) (T.obj _ _ F);refine Tq L (thn (hg _ s5 p H5 x u _ I5' r5 (step x H5 y5)) λ_ s6 ⟨σ6,H6,I6,q6⟩=>?_);refine Tq L (thn (j _ s6 σ6 H6 _ I6 q6) λf s7 C=>?_);have Xv:∀{c:St} {q:Hp},Inv X (pins++mo O s5.heap) c q s7->N c q->∃m,m<n/\∃i l B,Inv X pins l B s7/\tn i s7.heap/\(∀b∈O,B b=PM)/\W i m l B:=λ{c q} y U=>by
   obtain⟨m',hm,w7⟩:=hN c q U;refine⟨m',hm,i+1,c,q,y.unpinned,T.keep _ _ _ F λb j o e=>(y.pin (b,o) (QW _ (QW _ (iQ j e)))).1,λb j=>?_,w7⟩;obtain⟨o,e,d⟩:=T.obj _ _ F b j;exact(y.pin (b,o) (QW _ (QW _ (iQ j e)))).2.1
  cases f with
  |next=>obtain⟨c,q,y,U⟩:=C;exact Xv y U
  |cont=>obtain⟨c,q,y,U⟩:=C;exact Xv y U
  |brk=>obtain⟨c,q,y,C⟩:=C;exact⟨c,q,y.unpinned,C⟩
  |ret v=>obtain⟨x7,c,q,y,r7,C⟩:=C;exact⟨x7,c,q,y.unpinned,r7,C⟩
abbrev R2:=V->V->Hp->VK->Prop
def OpR(X:Cx)(f:P0->P0->Sem P0)(r:R2):Prop:=
 ∀(pins:List (PZ×Qy)) (s:P6) (σ:St) (H:Hp) (x y:V) (v u:P0) (Q:VK),Inv X pins σ H s->aN x v->aN y u->r x y H Q->
  Qj (QA X.prog X.w) X.A (f v u) (EP X pins σ Q) X.xe s
def UnR(X:Cx)(f:P0->Sem P0)(r:V->Hp->VK->Prop):Prop:=
 ∀(pins:List (PZ×Qy)) (s:P6) (σ:St) (H:Hp) (x:V) (v:P0) (Q:VK),Inv X pins σ H s->aN x v->r x H Q->
  Qj (QA X.prog X.w) X.A (f v) (EP X pins σ Q) X.xe s
def dF(X:Cx)(f:P0)(r:List V->Hp->VK->Prop):Prop:=
 ∀(pins:List (PZ×Qy)) (s:P6) (σ:St) (H:Hp) (xs:List V) (us:List P0) (Q:VK),Inv X pins σ H s->ax xs us->r xs H Q->
  Qj (QA X.prog X.w) X.A (W3 f us) (EP X pins σ Q) X.xe s
def TruR(X:Cx)(r:V->Hp->(Bool->Hp->Prop)->Prop):Prop:=
 ∀(pins:List (PZ×Qy)) (s:P6) (σ:St) (H:Hp) (x:V) (v:P0) (Q:Bool->Hp->Prop),Inv X pins σ H s->aN x v->r x H Q->
  Qj (QA X.prog X.w) X.A (truthy v) (TP X pins σ Q) X.xe s
def tOp(r:R2)(b c:TE):TE:=λσ H Q=>b σ H λx d=>c σ d λy f=>r x y f Q
def tUn(r:V->Hp->VK->Prop)(b:TE):TE:=λσ H Q=>b σ H λx c=>r x c Q
def rI(C:Int->Int->Prop)(g:Int->Int->V):R2:=λx y H Q=>∃i j,x= .int i/\y= .int j/\C i j/\Q (g i j) H
def rI0(g:Int->Int->V):R2:=λx y H Q=>∃i j,x= .int i/\y= .int j/\Q (g i j) H
def rU(g:Int->V):V->Hp->VK->Prop:=λx H Q=>∃i,x= .int i/\Q (g i) H
end
section
variable{X:Cx}{a b c:Expr}{ta tb tc:TE}{pos:UE}
theorem EN(ha:PE X a ta)(m:PE X b tb){d:List (PZ×Qy)}{s:P6}{e:St}{H:Hp}{R:V->V->Hp->Prop}(I:Inv X d e H s)
  (h:ta e H λx l=>tb e l λy g=>R x y g) {Q:P0->P6->Prop} {f:P0->P0->Sem P0}
  (n:∀v u k x y g,Inv X d e g k->aN x v->aN y u->R x y g->Qj (QA X.prog X.w) X.A (f v u) Q X.xe k):
  Qj (QA X.prog X.w) X.A (Rk a X.env) (λv i=>Qj (QA X.prog X.w) X.A (Rk b X.env) (λu j=>Qj (QA X.prog X.w) X.A (f v u) Q X.xe j) X.xe i) X.xe s:=by
 refine thn (ha d s e H _ I h) λv o ⟨x,l,p,r1,q1⟩=>?_;refine thn (m d o e l _ p q1) λu k ⟨y,g,q,r,q2⟩=>?_;exact n v u k x y g q r1 r q2
theorem dX(e:OpR X (SL op) r)(ha:PE X a ta)(f:PE X b tb):PE X (.BinOp a op b pos) (tOp r ta tb):=by
 intro d s g H Q I h;exact wpAny_BinOp (EN ha f I h λv u i x y j k l m q=>e d i g j x y v u Q k l m q)
theorem OV(f:UnR X (unaryOp op) r)(ha:PE X a ta):PE X (.UnaryOp op a pos) (tUn r ta):=by
 intro d s e H Q I h;exact UnaryOp_ (thn (ha d s e H _ I h) λv g ⟨x,i,j,r1,q1⟩=>f d g e i x v Q j r1 q1)
theorem opI{f:P0->P0->Sem P0}{C:Int->Int->Prop}{g:Int->Int->Int}
  (d:∀(i j:Int) (t u:Tok) (s:P6) (Q:P0->P6->Prop) (E:P0->P6->Prop),C i j->Q (.int (g i j) s.toks) {s with toks:=s.toks+1}->Qj (QA X.prog X.w) X.A (f (.int i t) (.int j u)) Q E s):
  OpR X f (rI C λi j=> .int (g i j)):=by
 intro e s n H x y v u Q I k l h;obtain⟨i,j,rfl,rfl,m,q⟩:=h;obtain⟨t,rfl⟩:=k;obtain⟨t',rfl⟩:=l;exact d i j t t' s _ _ m ⟨.int (g i j),H,I.tok _,⟨_,rfl⟩,q⟩
theorem Mz{f:P0->P0->Sem P0}{g:Int->Int->Int}
  (d:∀(i j:Int) (t u:Tok) (s:P6) (Q:P0->P6->Prop) (E:P0->P6->Prop),Q (.int (g i j) s.toks) {s with toks:=s.toks+1}->Qj (QA X.prog X.w) X.A (f (.int i t) (.int j u)) Q E s):
  OpR X f (rI0 λi j=> .int (g i j)):=by
 intro e s m H x y v u Q I k l h;obtain⟨i,j,rfl,rfl,q⟩:=h;obtain⟨t,rfl⟩:=k;obtain⟨t',rfl⟩:=l;exact d i j t t' s _ _ ⟨.int (g i j),H,I.tok _,⟨_,rfl⟩,q⟩
theorem xq{f:P0->P0->Sem P0}{g:Int->Int->Bool}
  (d:∀(i j:Int) (t u:Tok) (s:P6) (Q:P0->P6->Prop) (E:P0->P6->Prop),Q (.bool (g i j)) s->Qj (QA X.prog X.w) X.A (f (.int i t) (.int j u)) Q E s):
  OpR X f (rI0 λi j=> .bl (g i j)):=by
 intro e s m H x y v u Q I k l h;obtain⟨i,j,rfl,rfl,q⟩:=h;obtain⟨t,rfl⟩:=k;obtain⟨t',rfl⟩:=l;exact d i j t t' s _ _ ⟨.bl (g i j),H,I,rfl,q⟩
def CDiv(i j:Int):Prop:=0<j/\j<1073741824
def CPow(i j:Int):Prop:=0<=j/\j<=1000000/\i.natAbs<2^64
def HC(i j:Int):Prop:=(-(2^64)<i/\i<2^64)\/(-(2^64)<j/\j<2^64)
theorem HC.ok(h:HC i j):IntMulOk i j:=by
 rcases h with⟨d,e⟩|⟨d,e⟩
 ·exact .of_left (intBits_le_64 d e)
 ·exact .of_right (intBits_le_64 d e)
theorem pM:OpR X (SL .Add) (rI0 λi j=> .int (i+j)):=Mz λ_ _ _ _ _ _ _ q=>add_int q
theorem gj:OpR X (SL .Sub) (rI0 λi j=> .int (i-j)):=Mz λ_ _ _ _ _ _ _ q=>sub_int q
theorem Mu:OpR X (SL .Mult) (rI HC λi j=> .int (i*j)):=opI λ_ _ _ _ _ _ _ d q=>mul_int q d.ok
theorem wj:OpR X (SL .FloorDiv) (rI CDiv λi j=> .int (i/j)):=opI λi j _ _ _ _ _ d q=>by
 have e:(0:Int)<j:=d.1;have f:j<1073741824:=d.2;exact floordiv_int (by omega) (by rw[U4 i (by omega)];exact q) (.inl (PyProof.noPylong_small (by omega)))
theorem kD:OpR X (SL .Mod) (rI (λ_ j=>0<j) λi j=> .int (i % j)):=opI λi j _ _ _ _ _ d q=>by
 have e:(0:Int)<j:=d;exact mod_int' (by omega) (by rw[Int.fmod_eq_emod_of_nonneg i (by omega)];exact q)
theorem Ms:OpR X (SL .Pow) (rI CPow λi j=> .int (i^j.toNat)):=opI λ_ _ _ _ _ _ _ d q=>pow_int_small d.1 d.2.1 d.2.2 q
theorem unI{f:P0->Sem P0}{g:Int->Int}
  (d:∀(i:Int) (t:Tok) (s:P6) (Q:P0->P6->Prop) (E:P0->P6->Prop),Q (.int (g i) s.toks) {s with toks:=s.toks+1}->Qj (QA X.prog X.w) X.A (f (.int i t)) Q E s):
  UnR X f (rU λi=> .int (g i)):=by
 intro e s k H x v Q I j h;obtain⟨i,rfl,q⟩:=h;obtain⟨t,rfl⟩:=j;exact d i t s _ _ ⟨.int (g i),H,I.tok _,⟨_,rfl⟩,q⟩
theorem LA:UnR X (unaryOp .USub) (rU λi=> .int (-i)):=unI λ_ _ _ _ _ q=>neg_int q
noncomputable def CA:V->V->Bool
 | .non,.non=>PQ| .non,.int _=>PQ| .int _,.non=>PQ| .non,.bl _=>PQ| .bl _,.non=>PQ| .non,.str _=>PQ| .str _,.non=>PQ
 | .int _,.int _=>PQ| .bl _,.bl _=>PQ| .str _,.str _=>PQ
 | .int _,.str _=>PQ| .str _,.int _=>PQ| .bl _,.str _=>PQ| .str _,.bl _=>PQ
 |_,_=>PX
noncomputable def rEq:R2:=λx y H Q=>CA x y=PQ/\Q (.bl (decide (x=y))) H
noncomputable def rNe:R2:=λx y H Q=>CA x y=PQ/\Q (.bl (!decide (x=y))) H
theorem wH:decide (V.int i=V.int j)=(i==j):=by
 rw[VG];simp
theorem dec_bl{i j:Bool}:decide (V.bl i=V.bl j)=(i==j):=by
 rw[VG];simp
theorem wG:decide (V.str i=V.str j)=(i==j):=by
 rw[VG];simp
theorem fin_bl{k d:Bool}(I:Inv X pins σ H s)(q:Q (.bl k) H)(e:k=d):EP X pins σ Q (.bool d) s:=by
 subst e;exact⟨.bl k,H,I,rfl,q⟩
theorem OZ:OpR X (Rg .Eq) rEq:=by
 intro f s g H x y v u Q I e d h;obtain⟨hs,q⟩:=h;cases x with
 |non=>
  cases e;cases y with
  |non=>cases d;exact PySem.EqNone.eq_none_none (fin_bl I q (by simp))
  |bl j=>cases d;exact PySem.EqNone.eq_none_bool (fin_bl I q (by simp))
  |int j=>obtain⟨t',rfl⟩:=d;exact PySem.EqNone.eq_none_int (fin_bl I q (by simp))
  |str j=>obtain⟨t',rfl⟩:=d;exact PySem.EqNone.eq_none_str (fin_bl I q (by simp))
  |_=>exact Qx (show PX=PQ from hs) P8
 |bl i=>
  cases e;cases y with
  |non=>cases d;exact PySem.EqNone.eq_bool_none (fin_bl I q (by simp))
  |bl j=>cases d;exact eq_bool (fin_bl I q dec_bl)
  |str j=>obtain⟨t',rfl⟩:=d;exact PySem.EqMixed.eq_bool_str (fin_bl I q (by simp))
  |_=>exact Qx (show PX=PQ from hs) P8
 |int i=>
  obtain⟨t,rfl⟩:=e;cases y with
  |non=>cases d;exact PySem.EqNone.eq_int_none (fin_bl I q (by simp))
  |int j=>obtain⟨t',rfl⟩:=d;exact eq_int (fin_bl I q wH)
  |str j=>obtain⟨t',rfl⟩:=d;exact PySem.EqMixed.eq_int_str (fin_bl I q (by simp))
  |_=>exact Qx (show PX=PQ from hs) P8
 |str i=>
  obtain⟨t,rfl⟩:=e;cases y with
  |non=>cases d;exact PySem.EqNone.eq_str_none (fin_bl I q (by simp))
  |bl j=>cases d;exact PySem.EqMixed.eq_str_bool (fin_bl I q (by simp))
  |int j=>obtain⟨t',rfl⟩:=d;exact PySem.EqMixed.eq_str_int (fin_bl I q (by simp))
  |str j=>obtain⟨t',rfl⟩:=d;exact eq_str (fin_bl I q wG)
  |_=>exact Qx (show PX=PQ from hs) P8
 |_=>cases y<;>exact Qx (show PX=PQ from hs) P8
theorem OY:OpR X (Rg .NotEq) rNe:=by
 intro f s g H x y v u Q I e d h;obtain⟨hs,q⟩:=h;cases x with
 |non=>
  cases e;cases y with
  |non=>cases d;exact PySem.EqNone.ne_none_none (fin_bl I q (by simp))
  |bl j=>cases d;exact PySem.EqNone.ne_none_bool (fin_bl I q (by simp))
  |int j=>obtain⟨t',rfl⟩:=d;exact PySem.EqNone.ne_none_int (fin_bl I q (by simp))
  |str j=>obtain⟨t',rfl⟩:=d;exact PySem.EqNone.ne_none_str (fin_bl I q (by simp))
  |_=>exact Qx (show PX=PQ from hs) P8
 |bl i=>
  cases e;cases y with
  |non=>cases d;exact PySem.EqNone.ne_bool_none (fin_bl I q (by simp))
  |bl j=>cases d;exact ne_bool (fin_bl I q (Rh not dec_bl))
  |str j=>obtain⟨t',rfl⟩:=d;exact PySem.EqMixed.ne_bool_str (fin_bl I q (by simp))
  |_=>exact Qx (show PX=PQ from hs) P8
 |int i=>
  obtain⟨t,rfl⟩:=e;cases y with
  |non=>cases d;exact PySem.EqNone.ne_int_none (fin_bl I q (by simp))
  |int j=>obtain⟨t',rfl⟩:=d;exact ne_int (fin_bl I q (Rh not wH))
  |str j=>obtain⟨t',rfl⟩:=d;exact PySem.EqMixed.ne_int_str (fin_bl I q (by simp))
  |_=>exact Qx (show PX=PQ from hs) P8
 |str i=>
  obtain⟨t,rfl⟩:=e;cases y with
  |non=>cases d;exact PySem.EqNone.ne_str_none (fin_bl I q (by simp))
  |bl j=>cases d;exact PySem.EqMixed.ne_str_bool (fin_bl I q (by simp))
  |int j=>obtain⟨t',rfl⟩:=d;exact PySem.EqMixed.ne_str_int (fin_bl I q (by simp))
  |str j=>obtain⟨t',rfl⟩:=d;exact ne_str (fin_bl I q (Rh not wG))
  |_=>exact Qx (show PX=PQ from hs) P8
 |_=>cases y<;>exact Qx (show PX=PQ from hs) P8
theorem iO:OpR X (Rg .Lt) (rI0 λi j=> .bl (decide (i<j))):=xq λ_ _ _ _ _ _ _ q=>lt_int q
theorem iP:OpR X (Rg .LtE) (rI0 λi j=> .bl (decide (i<=j))):=xq λ_ _ _ _ _ _ _ q=>le_int q
theorem pL:OpR X (Rg .Gt) (rI0 λi j=> .bl (decide (j<i))):=xq λ_ _ _ _ _ _ _ q=>gt_int q
theorem II:OpR X (Rg .GtE) (rI0 λi j=> .bl (decide (j<=i))):=xq λ_ _ _ _ _ _ _ q=>ge_int q
theorem uo:OpR X (Rg .Is) (λx y H Q=>y= .non/\Q (.bl (decide (x= .non))) H):=by
 intro d s g H x y v u Q I e f h;obtain⟨rfl,q⟩:=h;cases f;refine is_none_gen (fin_bl I q ?_);cases x<;>first
  |(cases e;rfl)
  |(obtain⟨t,rfl⟩:=e;rfl)
theorem OpR.or(h:OpR X f r)(h':OpR X f r'):OpR X f (λx y H Q=>r x y H Q\/r' x y H Q):=by
 intro d s e H x y v u Q I g i q;rcases q with q|q
 ·exact h d s e H x y v u Q I g i q
 ·exact h' d s e H x y v u Q I g i q
theorem ur(b:Expr)(h:op≠ .In:=by decide)(d:op≠ .NotIn:=by decide):UR op b=PX:=by
 have e:(op==CmpOp.In)=PX:=by cases op<;>first|rfl|exact Qx rfl h
 have f:(op==CmpOp.NotIn)=PX:=by cases op<;>first|rfl|exact Qx rfl d
 cases b<;>simp[UR,e,f]
theorem KI(e:OpR X (Rg op) r)(ha:PE X a ta)(f:PE X b tb)(hm:UR op b=PX):PE X (.Compare a [op] [b] pos) (tOp r ta tb):=by
 intro d s g H Q I h;exact wpAny_Compare1 (EN ha f I h λv u i x y j k l m q=>e d i g j x y v u Q k l m q) hm
def wX(t:TE):TT:=λd H Q=>t d H λx e=>∃k,x= .bl k/\Q k e
theorem v7(g:OpR X (Rg op) r)(ha:PE X a ta)(i:PE X b tb)(hm:UR op b=PX):PT X (.Compare a [op] [b] pos) (wX (tOp r ta tb)):=by
 intro d s f H Q I h;refine wpAny_isTrue_Compare1 (thn (ha d s f H _ I h) λv j ⟨x,l,m,r1,q1⟩=>thn (i d j f l _ m q1) λu n ⟨y,o,p,q,q2⟩=>
  thn (g d n f o x y v u _ p r1 q q2) λc B ⟨z,t,w,A,k,e,q3⟩=>?_) hm
 subst e;cases A;exact Rj ⟨t,w,q3⟩
def yA(r f:R2)(ta tb tc:TE):TE:=λd H Q=>ta d H λx g=>tb d g λy h=>r x y h λz e=>∃k,z= .bl k/\
 (if k=PQ then tc d e λi j=>f y i j Q else Q (.bl PX) e)
theorem CG(n:OpR X (Rg op) r)(i:OpR X (Rg op') r')(ha:PE X a ta)(o:PE X b tb)(p:PE X c tc)
  (hm:Y4 [op,op'] [b,c]=PX:=by with_unfolding_all rfl):PT X (.Compare a [op,op'] [b,c] pos) (wX (yA r r' ta tb tc)):=by
 intro f s g H Q I h;refine isTrue_chain (thn (ha f s g H _ I h) λv q ⟨x,t,w,r1,q1⟩=>test_link (thn (o f q g t _ w q1) λu A ⟨y,B,C,j,q2⟩=>
  thn (n f A g B x y v u _ C r1 j q2) λd F ⟨z,l,m,J,k,e,q3⟩=>?_)) hm
 subst e;cases J;refine Rj ?_;cases k with
 |false=>
  obtain⟨k',L,N⟩:=q3;cases L;exact ite_ff ⟨l,m,N⟩
 |true=>
  refine ite_tt (test_last (thn (p f F g l _ m q3) λO P ⟨R,T,U,W,q4⟩=>thn (i f P g T y R u O _ U j W q4) λd' s5 ⟨z2,Y,Z,r5,k2,e2,q5⟩=>?_));subst e2;cases r5;exact Rj ⟨Y,Z,q5⟩
def GZ(K:Qo)(x:V)(H:Hp)(k:Bool):Prop:=
 match x with
 | .non=>k=PX
 | .bl b=>k=b
 | .int i=>k=(i !=0)
 | .str y=>y.length<=Qp/\k=((y.length:Int) !=0)
 | .ref p=>(∃xs,SqL K H p xs/\k=!xs.isEmpty)\/∃xs,SqT K H p xs/\k=!xs.isEmpty
 |_=>False
theorem p8(r:ax xs its):(!its.toArray.isEmpty)=!xs.isEmpty:=by
 cases r<;>simp
theorem mw:(Qp:Nat)<2^63:=by rw[Sk];decide
theorem LC:TruR X (λx H Q=>∃k,GZ X.K x H k/\Q k H):=by
 intro l s n H x v Q I f h;obtain⟨k,e,q⟩:=h;have o:=mw;have hs:Qp=16777216:=Sk;cases x with
 |non=>
  cases f;have d:k=PX:=e;subst d;exact truthy_none ⟨H,I,q⟩
 |bl b=>
  cases f;have d:k=b:=e;subst d;exact Rj ⟨H,I,q⟩
 |int i=>
  obtain⟨t,rfl⟩:=f;have d:k=(i !=0):=e;subst d;exact PySem.P.truthy_int ⟨H,I,q⟩
 |str y=>
  obtain⟨t,rfl⟩:=f;obtain⟨u,d⟩:y.length<=Qp/\k=((y.length:Int) !=0):=e;subst d;exact PySem.P.truthy_str (by omega) ⟨H,I.tok _,q⟩
 |ref p=>
  cases f;have d:(∃xs,SqL X.K H p xs/\k=!xs.isEmpty)\/∃xs,SqT X.K H p xs/\k=!xs.isEmpty:=e;rcases d with⟨xs,j,d⟩|⟨xs,j,d⟩
  ·subst d
   obtain⟨its,r,pl,m⟩:=I.list j;have g:=r.length;exact wpAny_truthy_list pl.isList (by simp only[Qn];omega) ⟨H,I.tok _,by rw[p8 r];exact q⟩
  ·subst d
   obtain⟨its,r,pl,m⟩:=I.tuple j;have g:=r.length;exact truthy_tuple pl (by simp only[Qn];omega) ⟨H,I.tok _,by rw[p8 r];exact q⟩
 |_=>exact(show False from e).elim
theorem CF(ha:PE X a ta)(i:∀d,isTrue a X.env d=(do let v ←d;T6 a.pos;Ux [v] (truthy v))):
  PT X a (λf H Q=>ta f H λx g=>∃k,GZ X.K x g k/\Q k g):=by
 intro e s f H Q I h;exact isTrue_plain (thn (ha e s f H _ I h) λv j ⟨x,l,m,r1,q1⟩=>LC e j f l x v Q m r1 q1) (i _)
theorem kW(r:ax [x] us):∃u,us=[u]/\aN x u:=by
 cases r with
 |cons r1 d=>cases d;exact⟨_,rfl,r1⟩
theorem sD(r:ax [x,y] us):∃u d,us=[u,d]/\aN x u/\aN y d:=by
 cases r with
 |cons r1 e=>
  cases e with
  |cons f g=>cases g;exact⟨_,_,rfl,r1,f⟩
theorem EJ:dF X (.builtin "abs") (λxs H Q=>∃i,xs=[.int i]/\Q (.int (if i<0 then -i else i)) H):=by
 intro d s e H xs us Q I r h;obtain⟨i,rfl,q⟩:=h;obtain⟨u,rfl,t,rfl⟩:=kW r;exact call_abs_int λu f=>⟨.int (if i<0 then -i else i),H,I.tok _,⟨_,rfl⟩,q⟩
theorem sf(f:X.calm=PQ):dF X (.builtin "max") (λxs H Q=>∃i j,xs=[.int i,.int j]/\Q (.int (if j>i then j else i)) H):=by
 intro e s g H xs us Q I r h;obtain⟨i,j,rfl,q⟩:=h;obtain⟨u,l,rfl,⟨t,rfl⟩,⟨t',rfl⟩⟩:=sD r;refine max_two_ints (I.ok.hd f) λh' m k=>⟨_,H,I.kept k,?_,q⟩;by_cases d:j>i
 ·rw[P7 d,P7 d];exact⟨_,rfl⟩
 ·rw[P5 d,P5 d];exact⟨_,rfl⟩
theorem mR(f:X.calm=PQ):dF X (.builtin "min") (λxs H Q=>∃i j,xs=[.int i,.int j]/\Q (.int (if j<i then j else i)) H):=by
 intro e s g H xs us Q I r h;obtain⟨i,j,rfl,q⟩:=h;obtain⟨u,l,rfl,⟨t,rfl⟩,⟨t',rfl⟩⟩:=sD r;refine min_two_ints (I.ok.hd f) λh' m k=>⟨_,H,I.kept k,?_,q⟩;by_cases d:j<i
 ·rw[P7 d,P7 d];exact⟨_,rfl⟩
 ·rw[P5 d,P5 d];exact⟨_,rfl⟩
structure ObjM (h:Rl) (x dx C:PZ) (mA:QO->Option P0):Prop where
 obj:h.get? x=on (Wv C dx)
 ns:h.Ns1 dx mA
 ne:dx≠x
theorem zH{h:Rl}(n:h.Ns1 dx mA):∃f,h.get? dx=on f/\∀name,lookIn name f=on (mA name):=by
 obtain⟨o,es,ep,g,hd,i,_,hm⟩:=n;refine⟨o,g,λname=>?_⟩;have e:=hm name;unfold nsFind findBy at e;rw[←Array.find?_toList]at e;unfold lookIn;rw[hd]
 dsimp only
 split
 ·rename_i y q
  rw[q]at e;exact Rh on e
 ·rename_i q
  rw[q]at e;have a:es.toList.any (·.refKey)=PX:=by
   rw[Y9];intro y j;obtain⟨z,t,d⟩:=i y (Array.mem_toList_iff.mp j);simp[DictEntry.refKey,d]
  have k:¬es.toList.any (·.refKey)=PQ:=by rw[a];exact P8
  rw[P5 k];exact Rh on e
theorem ObjM.look(I:ObjM h x dx C mA):∃d,PySem.W.InstAt h x (Wv C dx) C (on d)/\∀name,lookIn name d=on (mA name):=
 let ⟨d,ho,hl⟩:=zH I.ns
 ⟨d,⟨I.obj,rfl,rfl,ho⟩,hl⟩
variable{prog:QG}{w:QT}{A:Q7}{E:P0->P6->Prop}{s:P6}{K:Qo}{x dx C f:PZ}{mA:QO->Option P0}{name:QO}{v:P0}
theorem Le{d:Bool}(X:K.In s.heap)(I:ObjM s.heap x dx C mA)(g:plainGet K C name=PQ)(i:hasDictIn K C=PQ)
  (ha:Um K (.ref C) name=on PM) (j:mA name=on v) (e:YB v=PQ) (h:Q v {s with toks:=s.toks+1}):
  Qj (QA prog w) A (getAttr (.ref x) name d) Q E s:=by
 obtain⟨l,J,k⟩:=I.look;exact PySem.W.get_value X J (plainGet_of g).1 (PySem.W.findObj_own i ha rfl (by rw[k,j])) e h
theorem EA(X:K.In s.heap)(I:ObjM s.heap x dx C mA)(d:plainGet K C name=PQ)
  (e:Um K (.ref C) name=on (on (.ref f))) (g:isFn K (.ref f)=PQ) (i:mA name=PM) (h:Q (.ref f,[.ref x]) s):
  Qj (QA prog w) A (Wu (.ref x) name pl) Q E s:=by
 obtain⟨j,J,k⟩:=I.look;exact PySem.W.method_fn X J (plainGet_of d).1 (plainGet_of d).2 e (beq_iff_eq.mp g) (by show(lookIn name j).map (·.isSome)=on PX;rw[k,i];rfl) h
theorem Km{ns:List QO}(X:K.In s.heap)(I:ObjM s.heap x dx C mA)
  (hs:Um K (.ref C) "__setattr__"=on (on (.builtin "object.__setattr__"))) (l:Yn K C=PQ) (m:takerIn K C name=on PM) (n:hasDictIn K C=PQ)
  (o:Wg mA ns) (p:ns.length<=Qp)
  (h:∀h',ObjM h' x dx C (λy=>if y=name then on v else mA y)->QI dx s.heap h'->Q () {s with heap:=h',toks:=s.toks+2}):
  Qj (QA prog w) A (setAttr (.ref x) name v) Q E s:=by
 obtain⟨F,J,H⟩:=I.look;refine PySem.W.set_plain X J hs (PySem.W.osa_open (s:={s with toks:=s.toks+1}) (r:=PM) X J l m λb=>?_);obtain⟨cd,q,g⟩:=PySem.W.any_some n;have t:s.heap.get? x=on ⟨.ref C,on dx,.plain,#[]⟩:=I.obj;refine My (PN (My (My (wpAny_loadPart t (My (PySem.W.Looks.here (s:={s with toks:=s.toks+1}) (PySem.W.looks_clsIn X q) ?_))))));rw[g];refine PN (a:=on dx) (My (PN (My ?_)));refine wpAny_nsSet1 (s:={s with toks:=s.toks+1}) I.ns λh' d e=>?_;obtain⟨L,u,B,i,j,k⟩:=d.count (Wg.cons name v o);refine My (wpAny_lookBehind i (by rw[j];exact pastItsLine_dict (Qs k (by rw[Qe];omega))) ?_);exact PN (h _ ⟨(e.2 _ (Ne.symm I.ne)).trans I.obj,d,I.ne⟩ e)
theorem DC(X:K.In s.heap)(hm:YV K C=PQ)
  (e:Um K (.ref C) "__init__"=on (on (.ref f))) (i:PySem.W.typeIn K (.ref f)=on (.type "function"))
  (h:Ui (QA prog w) (A.under (.builtin "type.__call__" ⟨.ref C::vs,kw⟩)) (.call (.ref f) ⟨.ref (s.heap.objs.size+1)::vs,kw⟩) (PySem.W.InitBack (s.heap.objs.size+1) R)
   {s with heap:=(s.heap.push UK).push (Wv C s.heap.objs.size)}):
  Ui (QA prog w) A (.call (.ref C) ⟨vs,kw⟩) R s:=by
 obtain⟨j,g,d,t,os⟩:=s;exact PySem.W.make_core (PySem.W.makes_of X hm) (PySem.W.looks_findIn X e) (λself=>PySem.W.bind_fn X self i) (.inl rfl) h
noncomputable def dL(f:QO)(v:V):List (QO×V)->List (QO×V)
 |[]=>[(f,v)]
 |(g,x)::r=>if g=f then(g,v)::r else(g,x)::dL f v r
theorem oj(f g:QO)(v:V):∀fs:List (QO×V),(dL f v fs).lookup g=if g=f then on v else fs.lookup g
 |[]=>by
  show UB g [(f,v)]=_;by_cases h:g=f
  ·have d:(g==f)=PQ:=beq_iff_eq.mpr h
   simp only[UB,d,P7 h]
  ·have d:(g==f)=PX:=beq_eq_false_iff_ne.mpr h
   simp only[UB,d,P5 h]
 |(k,x)::r=>by
  have ih:=oj f g v r;rw[show dL f v ((k,x)::r)=(if k=f then(k,v)::r else(k,x)::dL f v r)from rfl];by_cases i:k=f
  ·rw[P7 i]
   by_cases h:g=k
   ·have d:(g==k)=PQ:=beq_iff_eq.mpr h
    simp only[UB,d,P7 (h.trans i)]
   ·have d:(g==k)=PX:=beq_eq_false_iff_ne.mpr h
    simp only[UB,d,P5 (λe:g=f=>h (e.trans i.symm))]
  ·rw[P5 i]
   by_cases h:g=k
   ·have d:(g==k)=PQ:=beq_iff_eq.mpr h
    simp only[UB,d,P5 (λe:g=f=>i (h.symm.trans e))]
   ·have d:(g==k)=PX:=beq_eq_false_iff_ne.mpr h
    simp only[UB,d];exact ih
theorem my(f:QO)(v:V):∀fs:List (QO×V),f∈(dL f v fs).map (·.1)/\∀g,g∈fs.map (·.1)->g∈(dL f v fs).map (·.1)
 |[]=>⟨by simp[dL],λg h=>by simp at h⟩
 |(k,x)::r=>by
  obtain⟨i,j⟩:=my f v r;rw[show dL f v ((k,x)::r)=(if k=f then(k,v)::r else(k,x)::dL f v r)from rfl];by_cases d:k=f
  ·rw[P7 d]
   subst d;exact⟨by simp,λg h=>by simpa using h⟩
  ·rw[P5 d]
   refine⟨?_,λg h=>?_⟩
   ·rw[Qf]
    exact PR _ i
   ·rw[Qf]at h⊢
    rcases Qh.mp h with e|e
    ·exact Qh.mpr (.inl e)
    ·exact PR _ (j g e)
theorem oo(f:QO)(v:V):∀fs:List (QO×V),(dL f v fs).length<=fs.length+1
 |[]=>by simp[dL]
 |(k,x)::r=>by
  have ih:=oo f v r;rw[show dL f v ((k,x)::r)=(if k=f then(k,v)::r else(k,x)::dL f v r)from rfl];by_cases d:k=f
  ·rw[P7 d,Qe,Qe];omega
  ·rw[P5 d,Qe,Qe];omega
theorem iu.some_of{v:V}(r:iu (on v) o):∃u,o=on u/\aN v u:=by
 cases o with
 |none=>exact(show False from r).elim
 |some u=>exact⟨u,rfl,r⟩
theorem iu.none_of(r:iu PM o):o=PM:=by
 cases o with
 |none=>rfl
 |some u=>exact(show False from r).elim
theorem AA{v:V}(r:aN v u):YB u=PQ:=by
 cases v with
 |non=>cases(show u=Q5 from r);rfl
 |bl b=>cases(show u=Vy b from r);rfl
 |int i=>obtain⟨t,e⟩:=(show ∃t,u=Tw i t from r);cases e;rfl
 |str x=>obtain⟨t,e⟩:=(show ∃t,u=Zd x t from r);cases e;rfl
 |ref a=>cases(show u=Qt a from r);rfl
 |ty n=>cases(show u=SR n from r);rfl
end
section
variable{P:QG}{w:QT}{H H':Hp}{h h':Rl}{a C dx:PZ}{fs fs':List (QO×V)}
theorem kJ(hok:HOk P w H h)(e:H a=on (.ins C dx fs)):∃b,ObjM h a dx C b/\(∀f,iu (fs.lookup f) (b f))/\Wg b (fs.map (·.1))/\fs.length<=1000/\H dx=on (.own a):=by
 obtain⟨d,z,ne,c,b,n,r,q⟩:=(show bO P w H h a (.ins C dx fs)from hok a _ e);exact⟨b,⟨c,n,ne⟩,r,q,z,d⟩
structure Cls (K:Qo) (C:PZ):Prop where
 pg:plainGet K C TM=PQ
 hd:hasDictIn K C=PQ
 po:Yn K C=PQ
 sa:Um K (.ref C) "__setattr__"=on (on (.builtin "object.__setattr__"))
theorem Cls.get{K:Qo}{C:PZ}(c:Cls K C)(f:QO):plainGet K C f=PQ:=c.pg
def d6(K:Qo)(C:PZ)(f:QO):Prop:=Um K (.ref C) f=on PM
theorem d6.taker{K:Qo}{C:PZ}(n:d6 K C f):takerIn K C f=on PM:=by
 unfold takerIn;rw[show Um K (.ref C) f=on PM from n];rfl
structure Meth (K:Qo) (C:PZ) (m:QO) (f:PZ):Prop where
 at_:Um K (.ref C) m=on (on (.ref f))
 fn:isFn K (.ref f)=PQ
 kp:Vr K (.ref f)=PQ
variable{X:Cx}{pins:List (PZ×Qy)}{σ:St}{s:P6}{f:QO}{v:V}{A:Q7}{E:P0->P6->Prop}
theorem xO{b:Bool}(I:Inv X pins σ H s)(e:H a=on (.ins C dx fs))(c:Cls X.K C)(n:d6 X.K C f)(l:fs.lookup f=on v)
  (h:∀u s',Inv X pins σ H s'->aN v u->Q u s'):Qj (QA X.prog X.w) A (getAttr (.ref a) f b) Q E s:=by
 obtain⟨g,O,r,_,_,_⟩:=kJ I.hok e;obtain⟨u,i,d⟩:=iu.some_of (v:=v) (o:=g f) (by rw[←l];exact r f);exact Le I.kIn O (c.get f) c.hd n i (AA d) (h u _ (I.tok _) d)
theorem qd(I:Inv X pins σ H s)(e:H a=on (.ins C dx fs))(c:Cls X.K C)(k:Meth X.K C m g)(l:fs.lookup m=PM)
  (h:Q (.ref g,[.ref a]) s):Qj (QA X.prog X.w) A (Wu (.ref a) m pl) Q E s:=by
 obtain⟨b,O,r,_,_,_⟩:=kJ I.hok e;have hn:b m=PM:=iu.none_of (by rw[←l];exact r m);exact EA I.kIn O (c.get m) k.at_ k.fn hn h
theorem xb(I:Inv X pins σ H s)(e:H a=on (.ins C dx fs))(c:Cls X.K C)(n:d6 X.K C f)(F:fs.length<1000)(l:aN y u)
  (h:∀s',Inv X pins σ (upd H a (.ins C dx (dL f y fs))) s'->Q () s'):Qj (QA X.prog X.w) A (setAttr (.ref a) f u) Q E s:=by
 obtain⟨i,O,r,j,_,k⟩:=kJ I.hok e;have m:(fs.map (·.1)).length<=Qp:=by rw[PL,Sk];omega
 refine Km I.kIn O c.sa c.po n.taker c.hd j m λh' d p=>h _ ?_;have hd:∃o,h'.get? dx=on o:=let ⟨o,_,_,e',_⟩:=d.ns;⟨o,e'⟩
 refine I.write (x:=a) (e:=dx) (by rw[e];exact Tv) (.inr k) (λb q t z=>(p.2 b t).trans z) hd ?_;refine⟨by rw[upd_ne O.ne];exact k,?_,O.ne,d.obj,_,d.ns,λg=>?_,λg B=>?_⟩
 ·have:=oo f y fs;omega
 ·show iu ((dL f y fs).lookup g) (if g=f then on u else i g)
  rw[oj];by_cases q:g=f
  ·rw[P7 q,P7 q];exact l
  ·rw[P5 q,P5 q];exact r g
 ·by_cases q:g=f
  ·rw[q];exact(my f y fs).1
  ·refine(my f y fs).2 g (j g λz=>B ?_)
   show(if g=f then on u else i g)=PM;rw[P5 q];exact z
theorem Inv.made(I:Inv X pins σ H s):Inv X pins σ (upd (upd H s.heap.objs.size (.own (s.heap.objs.size+1))) (s.heap.objs.size+1) (.ins C s.heap.objs.size []))
  {s with heap:=(s.heap.push UK).push (Wv C s.heap.objs.size)}:=by
 have c:(s.heap.push UK).get? s.heap.objs.size=on UK:=Qk s.heap rfl;have d:((s.heap.push UK).push (Wv C s.heap.objs.size)).get? (s.heap.objs.size+1)=on (Wv C s.heap.objs.size):=by
  have:=Qk (s.heap.push UK) (o:=Wv C s.heap.objs.size) rfl;rwa[RJ]at this
 have g:(s.heap.push UK).Ns s.heap.objs.size (λ_=>PM):=⟨UK,#[],_,c,rfl,(λe i=>Qx i (by simp)),λ_=>rfl⟩;have j:=I.laid (a:=s.heap.objs.size) (o:= .own (s.heap.objs.size+1)) (h':=s.heap.push UK) (t':=s.toks) (λb u q=>PU _ q) (P9 _) ⟨_,c⟩;refine j.laid (a:=s.heap.objs.size+1) (o:= .ins C s.heap.objs.size []) (t':=s.toks) (λb u q=>PU _ q) (Nat.le_of_eq (RJ _ _)) ?_;have ne:s.heap.objs.size≠s.heap.objs.size+1:=Q1 (Uu _);refine⟨by rw[upd_ne ne,ao],Q8 _,ne,d,λ_=>PM,(Heap.Ns1.of_empty g).at λo q=>PU _ q,λ_=>Tv,λy k=>Qx rfl k⟩
theorem Ls{w:QT}{f:QO}{s:P6}(c:Ue e f env (Rk e env)=Rk e env)
  (h:Qj (QA prog w) A (Rk e env) (λo b=>Qj (QA prog w) A (getAttr o f PQ) Q E b) E s):Qj (QA prog w) A (Rk (.Attribute e f pos) env) Q E s:=
 Attribute_any_ h (by rw[arm_eval_Attribute,c])
def tFld(K:Qo)(c:TE)(f:QO):TE:=λσ H Q=>c σ H λx b=>∃a C dx fs v,x= .ref a/\b a=on (.ins C dx fs)/\Cls K C/\d6 K C f/\fs.lookup f=on v/\Q v b
def LX(K:Qo)(c d:TE)(f:QO):TS:=λD σ H=>d σ H λy e=>c σ e λx b=>∃a C dx fs,x= .ref a/\b a=on (.ins C dx fs)/\Cls K C/\d6 K C f/\fs.length<1000/\
 D.nx σ (upd b a (.ins C dx (dL f y fs)))
variable{o e value:Expr}{pos pos' tpos:UE}{ta tv:TE}
theorem Mo(b:PE X e ta)(d:Ue e f X.env (Rk e X.env)=Rk e X.env):PE X (.Attribute e f pos) (tFld X.K ta f):=by
 intro pins s σ H Q I h;refine Ls d (thn (b pins s σ H _ I h) λu r ⟨x,g,i,j,a,C,dx,fs,v,ex,k,c,n,l,q⟩=>?_);subst ex;obtain rfl:u=Qt a:=j;exact xO i k c n l λt y m p=>⟨v,g,m,p,q⟩
theorem pJ(ha:PE X o ta)(b:PE X value tv)(hs:UL value (on (.Attribute o f pos')) pos.line X.env=SB PX):PS X (.Assign [.Attribute o f pos'] value pos) (LX X.K ta tv f):=by
 intro pins s σ H D I h;refine plainObj_wpAny_Assign_Attribute (thn (b pins s σ H _ I h) λu d ⟨y,g,i,j,q⟩=>thn (ha pins d σ g _ i q) λk B ⟨x,F,m,p,a,C,dx,fs,ex,r,c,n,l,q2⟩=>?_) hs;subst ex;obtain rfl:k=Qt a:=p;exact xb m r c n l j λJ t=>⟨σ,_,t,q2⟩
variable{Q:P0->P6->Prop}{c:P0}{b:Bool}
inductive TyOf (K:Qo) (H:Hp):V->P0->Prop where
 |non:TyOf K H .non (.type "NoneType")
 |bl (x:Bool):TyOf K H (.bl x) (.type "bool")
 |int (i:Int):TyOf K H (.int i) (.type "int")
 |str (x:QO):TyOf K H (.str x) (.type "str")
 |lst {a:PZ} {xs:List V} (e:H a=on (.lst xs)):TyOf K H (.ref a) (.type "list")
 |frz {a:PZ} {o:Qy} {xs:List V} (e:H a=on (.frz o (.lst xs))):TyOf K H (.ref a) (.type "list")
 |tup {a:PZ} {xs:List V} (e:H a=on (.tup xs)):TyOf K H (.ref a) (.type "tuple")
 |ins {a C dx:PZ} {fs:List (QO×V)} (e:H a=on (.ins C dx fs)) (cl:Cls K C) (ha:Um K (.ref C) "__class__"=on (on (.builtin "object.__class__")))
  (hn:specialIn K (.builtin "object.__class__") "__get__"=on (on (.builtin "getset_descriptor.__get__"))) (htk:YW K (.builtin "object.__class__")=on PQ)
  (hm:PySem.W.mroIn K C (.type "object")=on PQ):TyOf K H (.ref a) (.ref C)
theorem zZ(I:Inv X pins σ H s)(d:aN x u)(ty:TyOf X.K H x t)(e:kitOne X.K t c=on b)(h:∀j,Q (.bool b) {s with toks:=j}):
  Qj (QA X.prog X.w) A (W3 (.builtin "isinstance") [u,c]) Q E s:=by
 cases ty with
 |non=>cases(show u=Q5 from d);exact VC Ym I.kIn Tv e (λz=>nomatch z) h
 |bl y=>cases(show u=Vy y from d);exact VC Yl I.kIn Tv e (λz=>nomatch z) h
 |int i=>obtain⟨t,q⟩:=(show ∃t,u=Tw i t from d);cases q;exact VC YC I.kIn Tv e (λz=>nomatch z) h
 |str y=>obtain⟨t,q⟩:=(show ∃t,u=Zd y t from d);cases q;exact VC YE I.kIn Tv e (λz=>nomatch z) h
 |@lst a xs ea=>
  cases(show u=Qt a from d);obtain⟨_,_,n,_,g⟩:=(show bO X.prog X.w H s.heap a (.lst xs)from I.hok a _ ea);exact VC Ww I.kIn ⟨_,g,rfl⟩ e (λz=>nomatch z) h
 |@frz a ob xs ea=>
  cases(show u=Qt a from d);obtain⟨_,_,_,n,_,g⟩:=(show bO X.prog X.w H s.heap a (.frz ob (.lst xs))from I.hok a _ ea);exact VC Ww I.kIn ⟨_,g,rfl⟩ e (λz=>nomatch z) h
 |@tup a xs ea=>
  cases(show u=Qt a from d);obtain⟨_,_,_,p⟩:=(show bO X.prog X.w H s.heap a (.tup xs)from I.hok a _ ea);obtain⟨o,g,k,_⟩:=p;exact VC X7 I.kIn ⟨o,g,k⟩ e (λz=>nomatch z) h
 |@ins a C dx fs ea cl ha hn htk hm=>
  cases(show u=Qt a from d);obtain⟨l,O,_⟩:=kJ I.hok ea;obtain⟨m,J,_⟩:=O.look;exact VC (YD (cl.get _) cl.hd ha hn htk hm) I.kIn J e (λz=>nomatch z) h
structure Room (k:Nat) (A:Q7):Prop where
 hd:A.handled=PM
 dp:A.depth+3*k+5<recursionLimit
 un:A.units+16*k+200<Va
 gd:A.guards=on []
theorem Room.mono{A:Q7}(r:Room k A)(h:j<=k):Room j A:=⟨r.hd,by have:=r.dp;omega,by have:=r.un;omega,r.gd⟩
theorem Room.deeper{A:Q7}(r:Room (k+1) A)(env:WY):Room k (A.deeper env):=
 ⟨r.hd,by have:=r.dp;show A.depth+1+3*k+5<_;omega,by have:=r.un;show A.units+3+16*k+200<_;omega,r.gd⟩
theorem xA{A:Q7}{C:PZ}:(A.under (.builtin "type.__call__" ⟨.ref C::us,kw⟩)).depth=A.depth+1:=by
 first|rfl|simp[Wb,Code.weight,Code.isCreation,Code.isGuard,Code.isCaller,Code.frames,XF,guardIds]
theorem xz{A:Q7}{C:PZ}:(A.under (.builtin "type.__call__" ⟨.ref C::us,kw⟩)).units=A.units+1:=by
 first|rfl|simp[Wb,Code.cUnits,Code.frames,XF]
theorem Room.make{A:Q7}(r:Room (k+1) A)(C:PZ)(us:List P0)(d:List (QO×P0)):Room k (A.under (.builtin "type.__call__" ⟨.ref C::us,d⟩)):=
 ⟨r.hd,by have:=r.dp;rw[xA];omega,by have:=r.un;rw[xz];omega,by first|exact r.gd|simp[Wb,Code.guards,Code.isGuard,guardIds,pushGuards,r.gd]⟩
theorem Room.depth{A:Q7}(r:Room k A):A.depth<recursionLimit:=by have:=r.dp;omega
theorem Room.units{A:Q7}(r:Room k A):A.units+64<Va:=by have:=r.un;omega
noncomputable def BT:TA:=λ_ H Q=>Q [] H
def HW(ta:TE)(tr:TA):TA:=λσ H Q=>ta σ H λx d=>tr σ d λxs g=>Q (x::xs) g
variable{es:List Expr}{te:TE}{t:TA}
theorem jj:PA X [] BT:=λ_ _ _ _ H Q I h=>YN ⟨[],H,I,.nil,h⟩
theorem fi(ha:PE X e te)(d:PA X es t)(hs:Qg (e::es) X.env=(PX,Rk e X.env)::Qg es X.env:=by rfl):PA X (e::es) (HW te t):=by
 intro pos pins s σ H Q I h;rw[hs];show Qj _ _ (spliced ((PX,Rk e X.env)::SA pos (Qg es X.env))) _ _ s;refine Yq (thn (ha pins s σ H _ I h) λu g ⟨x,i,j,r1,q1⟩=>?_);exact thn (d pos pins g σ i _ j q1) λus n ⟨xs,k,l,m,q2⟩=>⟨x::xs,k,l,.cons r1 m,q2⟩
def tTup(t:TA):TE:=λσ H Q=>t σ H λxs d=>xs.length<=Qp/\∀p,d p=PM->Q (.ref p) (upd d p (.tup xs))
def LJ(t:TA):TE:=λσ H Q=>t σ H λxs d=>xs.length<=Qp/\∀p,d p=PM->Q (.ref p) (upd d p (.lst xs))
theorem Mi{x1}(h:PA X es t):PE X (.Tuple es x1 pos) (tTup t):=by
 intro pins s σ H Q I j;refine wpAny_Tuple_spliced (thn (h pos pins s σ H _ I j) λus d ⟨xs,g,i,r,z,q⟩=>⟨by rw[←r.length];exact z,?_⟩);have k:g d.heap.objs.size=PM:=i.hok.fresh (P9 _);refine⟨.ref d.heap.objs.size,upd g d.heap.objs.size (.tup xs),i.laid (t':=d.toks) (λb u e=>PU _ e) (P9 _) ?_,rfl,q _ k⟩;exact⟨z,us,r,⟨_,Qk _ rfl,rfl,_,rfl⟩⟩
theorem fJ(h:PA X es t):PE X (.List es pos) (LJ t):=by
 intro pins s σ H Q I j;refine wpAny_List_spliced (thn (h pos pins s σ H _ I j) λus d ⟨xs,g,i,r,z,q⟩=>⟨by rw[←r.length];exact z,?_⟩);have k:g d.heap.objs.size=PM:=i.hok.fresh (P9 _);refine⟨.ref d.heap.objs.size,upd g d.heap.objs.size (.lst xs),i.laid (t':=d.toks) (λb u e=>PU _ e) (P9 _) ?_,rfl,q _ k⟩;exact⟨z,us,0,r,Qk _ rfl⟩
abbrev Sp:=List V->Hp->VK->XK->Prop
abbrev CXT:=List WY->Hp->P6->XK->P0->P6->Prop
structure Env0 (P:QG) (w:QT) (K:Qo) (mg:QO->Option P0) (base:Rl) (A:Q7) (outer:List WY) (s:P6) (H:Hp):Prop where
 frames:A.frames=on outer
 mod:Mod K mg base
 bs:∀b o,base.get? b=on o->s.heap.get? b=on o/\H b=PM
 bsz:base.objs.size<=s.heap.objs.size
 funs:s.heap.FunFrames base outer
 frf:∀b∈frs outer,H b=PM
 hok:HOk P w H s.heap
 bare:Vb s.gens
def CE(outer:List WY)(P:QG)(w:QT)(H:Hp)(s:P6)(Q:VK)(u:P0)(s':P6):Prop:=
 ∃v H',s'.os=s.os/\Vb s'.gens/\Un (frs outer) [] H H' s.heap s'.heap/\HOk P w H' s'.heap/\aN v u/\Q v H'
def CR(CX:CXT)(outer:List WY)(P:QG)(w:QT)(H:Hp)(s:P6)(Q:VK)(E:XK)(r:Result)(s':P6):Prop:=
 match r with
 | .ok (.ret u)=>CE outer P w H s Q u s'
 | .ok _=>False
 | .error e=>CX outer H s E e s'
structure FnOk (P:QG) (w:QT) (K:Qo) (mg:QO->Option P0) (base:Rl) (CX:CXT) (k:Nat) (f:PZ) (fd:Qu) (ps:List QO) (sp:Sp):Prop where
 len:∀vs H Q E,sp vs H Q E->vs.length=ps.length
 run:∀(A:Q7) (outer:List WY) (s:P6) (H:Hp) (args:Args) (us:List P0) (vs:List V) (Q:VK) (E:XK),Room k A->Env0 P w K mg base A outer s H->Wo s fd args (ps.zip us)->ax vs us->sp vs H Q E->
  Ui (QA P w) A (.call (.ref f) args) (CR CX outer P w H s Q E) s
theorem FnOk.mono{P:QG}{w:QT}{K:Qo}{f:PZ}(F:FnOk P w K mg base CX j f fd ps sp)(h:j<=k):
  FnOk P w K mg base CX k f fd ps sp:=⟨F.len,λA outer s H args us vs Q E d=>F.run A outer s H args us vs Q E (d.mono h)⟩
theorem Env0.make{P:QG}{w:QT}{K:Qo}{A:Q7}{s:P6}{H:Hp}(e:Env0 P w K mg base A outer s H)(C:PZ)(us:List P0)(d:List (QO×P0)):
  Env0 P w K mg base (A.under (.builtin "type.__call__" ⟨.ref C::us,d⟩)) outer s H:=⟨by first|exact e.frames|(simpa[Wb,Code.envs,XF,pushEnvs]using e.frames),e.mod,e.bs,e.bsz,e.funs,e.frf,e.hok,e.bare⟩
variable{s':P6}
theorem Inv.env0(I:Inv X pins σ H s):Env0 X.prog X.w X.K X.mg X.base X.A X.stack s H:=
 ⟨I.ok.frames,I.ok.mod,I.bs,Qs I.ok.bsz I.sz,I.stack,I.stkFree,I.hok,I.bare⟩
theorem Inv.after{Q:VK}(I:Inv X pins σ H s)(h:CE X.stack X.prog X.w H s Q u s'):EP X pins σ Q u s':=by
 obtain⟨v,H',os,bare,un,hok,r,q⟩:=h;obtain⟨j,g,d,t,i⟩:=s';obtain rfl:i=s.os:=os;exact⟨v,H',I.call (h':=j) (g':=g) (d':=d) (t':=t) (ch:=[]) un hok bare (λb z=>Qx z (by simp)),r,q⟩
def ON(sp:Sp)(d:List V)(E:St->XK)(t:TA):TE:=λσ H Q=>t σ H λvs g=>sp (vs++d) g Q (E σ)
def wY(C:PZ)(m:QO)(sp:Sp)(d:List V)(E:St->XK)(ta:TE)(t:TA):TE:=λσ H Q=>ta σ H λx g=>∃a dx fs,x= .ref a/\g a=on (.ins C dx fs)/\fs.lookup m=PM/\
 t σ g λvs i=>sp (x::(vs++d)) i Q (E σ)
def aC(K:Qo)(d:Qu)(ps:List QO)(ds:List P0):Prop:=
 ∀(s:P6) (us:List P0),K.In s.heap->(us++ds).length=ps.length->Wo s d ⟨us,[]⟩ (ps.zip (us++ds))
theorem aC.all{K:Qo}{ps:List QO}(h:∀us:List P0,us.length=ps.length->bindArgs fd ⟨us,[]⟩=SB (ps.zip us)):aC K fd ps []:=λs us _ d=>by
 rw[QY]at d⊢;exact .of_eq (h us d)
def dE(CX:CXT)(X:Cx)(E:St->XK):Prop:=∀(pins:List (PZ×Qy)) (σ:St) (H:Hp) (s:P6) (e:P0) (s':P6),Inv X pins σ H s->CX X.stack H s (E σ) e s'->X.xe e s'
end
section
variable{X:Cx}{CX:CXT}{k:Nat}{f C:PZ}{fd:Qu}{ps:List QO}{sp:Sp}{dvs:List V}{ds:List P0}{E:St->XK}{x m:QO}{p pos apos:UE}{e o:Expr}{es:List Expr}{ta:TE}{t:TA}
theorem ug(F:FnOk X.prog X.w X.K X.mg X.base CX k f fd ps sp)(c:Room k X.A)(d:aC X.K fd ps ds)(hd:ax dvs ds)(g:dE CX X E)
  (I:Inv X pins σ H s) (r:ax vs us) (h:sp (vs++dvs) H Q (E σ)):Qj (QA X.prog X.w) X.A (W3 (.ref f) us) (EP X pins σ Q) X.xe s:=by
 have b:ax (vs++dvs) (us++ds):=r.append hd;have i:(us++ds).length=ps.length:=by rw[←b.length];exact F.len _ _ _ _ h
 refine wpAny_call (Vf (F.run X.A X.stack s H ⟨us,[]⟩ (us++ds) (vs++dvs) Q (E σ) c I.env0 (d s us I.kIn i) b h) λr s' a=>?_);cases r with
 |error e=>exact g pins σ H s e s' I a
 |ok fl=>
  cases fl with
  |ret u=>exact I.after a
  |next=>exact SD a
  |brk=>exact SD a
  |cont=>exact SD a
theorem nu(F:FnOk X.prog X.w X.K X.mg X.base CX k f fd ps sp)(g:Room k X.A)(i:Gl X x)(hm:X.mg x=on (.ref f))(j:Vr X.K (.ref f)=PQ)(l:aC X.K fd ps ds)(hd:ax dvs ds)(n:dE CX X E)
  (ha:PA X (e::es) t) (b:(x==("__debug__":QO))=PX:=by decide) (u:Qg (e::es) X.env=(PX,Rk e X.env)::Qg es X.env:=by rfl) (c:(SA pos (Qg es X.env)).any (·.1)=PX:=by rfl):
  PE X (.Call (.Name x p) (e::es) [] pos) (ON sp dvs E t):=by
 intro a s v H Q I h;refine Vs (qN I i hm ?_ b);refine XW (h₀:=X.base) I.ok.mod.kin j (thn (ha pos a s v H _ I h) λus y ⟨vs,B,d,r,q⟩=>⟨d.kIn,?_⟩) u c;exact ug F g l hd n d r q
theorem KF(v:PE X o ta)(c:Cls X.K C)(hm:Meth X.K C m f)(F:FnOk X.prog X.w X.K X.mg X.base CX k f fd ps sp)(y:Room k X.A)(B:aC X.K fd ps ds)(hd:ax dvs ds)(J:dE CX X E)(ha:PA X (e::es) t)
  (d:Qg (e::es) X.env=(PX,Rk e X.env)::Qg es X.env:=by rfl) (g:(SA pos (Qg es X.env)).any (·.1)=PX:=by rfl)
  (L:Rk (.Call (.Attribute o m apos) (e::es) [] pos) X.env=(do
   let ov ←Rk o X.env
   T6 apos.atName
   let (f,first) ←Ux [ov] (Wu ov m pl)
   callWith pos f first (SA pos (Qg (e::es) X.env)) (Tp pos (Si [] X.env))):=by rfl):
  PE X (.Call (.Attribute o m apos) (e::es) [] pos) (wY C m sp dvs E ta t):=by
 intro b s i H Q I h;refine Xu (pl:=pl) (thn (v b s i H _ I h) λu N ⟨x,O,j,P,a,T,fs,ex,R,l,q⟩=>?_) L;subst ex;obtain rfl:u=Qt a:=P;refine qd j R c hm l ?_;refine XW (first:=[.ref a]) (h₀:=X.base) I.ok.mod.kin hm.kp (thn (ha pos b N i O _ j q) λus U ⟨vs,W,n,r,q2⟩=>⟨n.kIn,?_⟩) d g
 exact ug (us:= .ref a::us) (vs:= .ref a::vs) F y B hd J n (.cons rfl r) q2
theorem CM(g:PE X o ta)(c:Cls X.K C)(hm:Meth X.K C m f)(F:FnOk X.prog X.w X.K X.mg X.base CX k f fd ps sp)(i:Room k X.A)(j:aC X.K fd ps ds)(hd:ax dvs ds)(n:dE CX X E)
  (r:Rk (.Call (.Attribute o m apos) [] [] pos) X.env=(do
   let ov ←Rk o X.env
   T6 apos.atName
   let (f,first) ←Ux [ov] (Wu ov m pl)
   callWith pos f first (SA pos (Qg [] X.env)) (Tp pos (Si [] X.env))):=by rfl):
  PE X (.Call (.Attribute o m apos) [] [] pos) (wY C m sp dvs E ta BT):=by
 intro b s v H Q I h;refine Xu (pl:=pl) (thn (g b s v H _ I h) λu J ⟨x,L,d,y,a,N,fs,ex,B,l,q⟩=>?_) r;subst ex;obtain rfl:u=Qt a:=y;refine qd d B c hm l ?_;exact PySem.W.callWith_K0 (first:=[.ref a]) d.kIn hm.kp (ug (us:=[.ref a]) (vs:=[.ref a]) F i j hd n d (.cons rfl .nil) q)
structure Mk (K:Qo) (C f:PZ):Prop where
 makes:YV K C=PQ
 init:Um K (.ref C) "__init__"=on (on (.ref f))
 fn:isFn K (.ref f)=PQ
 kp:Vr K (.ref C)=PQ
def PK(X:Cx)(b:List VA)(t:TA):Prop:=
 ∀(pos:UE) (a:List (PZ×Qy)) (s:P6) (c:St) (H:Hp) (Q:List V->Hp->Prop),Inv X a c H s->t c H Q->Qj (QA X.prog X.w) X.A (evalAll ((Tp pos (Si b X.env)).map (·.2))) (AP X a c Q) X.xe s
variable{ks:List QO}{kpos:UE}{kws:List VA}{te:TE}{tk:TA}{nm:Option QO}
theorem Me:PK X [] BT:=λ_ _ _ _ H Q I h=>wpAny_evalAll_nil ⟨[],H,I,.nil,h⟩
theorem KA(ha:PE X e te)(c:PK X kws t):PK X (⟨nm,e,kpos⟩::kws) (HW te t):=by
 intro pos a s b H Q I h;show Qj _ _ (evalAll ((do let v ←Rk e X.env;T6 pos;SB v)::(Tp pos (Si kws X.env)).map (·.2))) _ _ s
 refine wpAny_evalAll_cons (My (thn (ha a s b H _ I h) λu d ⟨x,g,i,r1,q1⟩=>My (SF (PN ?_))));exact thn (c pos a d b g _ i q1) λus q ⟨xs,j,l,n,q2⟩=>⟨x::xs,j,l,.cons r1 n,q2⟩
structure KBinds (K:Qo) (fd:Qu) (ps ks:List QO) (g:List P0->List P0->List P0) (gV:List V->List V->List V):Prop where
 to:∀(s:P6) (us ws:List P0),K.In s.heap->(g us ws).length=ps.length->Wo s fd ⟨us,ks.zip ws⟩ (ps.zip (g us ws))
 rel:∀{vs:List V} {us:List P0} {zs:List V} {ws:List P0},ax vs us->ax zs ws->ax (gV vs zs) (g us ws)
variable{g:List P0->List P0->List P0}{gV:List V->List V->List V}
structure FnScope (N P:List QO) (sc:Scope):Prop where
 kind:sc.kind= .function
 co:sc.isCoroutine=PX
 gen:sc.isGenerator=PX
 nd:N.Nodup
 pre:N.take P.length=P
 par:∀x∈P,sc.names.lookup x=on .local\/sc.names.lookup x=on .cell
 nofree:∀y∈sc.names,y.2≠ .free
theorem sj{b:QO->Option TR}{x:QO}:∀{a:List (QO×P0)} {m:QO->Option P0},(∀v,(x,v)∉a)->Y1 b a m x=m x
 |[],_,_=>rfl
 |(n,v)::r,m,h=>by
  unfold Y1;rw[sj λw c=>h w (PR _ c)];split
  ·have:x≠n:=by rintro rfl;exact h v P3
   simp[this]
  ·rfl
theorem sr{b:QO->Option TR}{x:QO}:∀{a:List (QO×P0)} {m:QO->Option P0},(∀v,(x,v)∉a)->Y0 b a m x=m x
 |[],_,_=>rfl
 |(n,v)::r,m,h=>by
  unfold Y0;rw[sr λw c=>h w (PR _ c)];split
  ·rfl
  ·have:x≠n:=by rintro rfl;exact h v P3
   simp[this]
theorem sk{a:QO->Option TR}{x:QO}{v:P0}:∀{P:List QO} {vs:List P0} {i:Nat} {m:QO->Option P0},P.Nodup->P[i]?=on x->vs[i]?=on v->a x=on .local->
  Y1 a (P.zip vs) m x=on v
 |[],_,_,_,_,h,_,_=>by simp at h
 |_::_,[],_,_,_,_,h,_=>by simp at h
 |p::P,w::vs,0,m,nd,h1,h2,hk=>by
  simp at h1 h2;subst h1;subst h2;show Y1 a ((p,w)::P.zip vs) m p=_;unfold Y1;rw[sj λv b=>(QR.mp nd).1 (WS b).1,P7 hk];simp
 |p::P,w::vs,i+1,m,nd,h1,h2,hk=>by
  show Y1 a ((p,w)::P.zip vs) m x=_;unfold Y1;exact sk (i:=i) (QR.mp nd).2 (by simpa using h1) (by simpa using h2) hk
theorem su{a:QO->Option TR}{x:QO}{v:P0}:∀{P:List QO} {vs:List P0} {i:Nat} {m:QO->Option P0},P.Nodup->P[i]?=on x->vs[i]?=on v->a x≠on .local->
  Y0 a (P.zip vs) m x=on v
 |[],_,_,_,_,h,_,_=>by simp at h
 |_::_,[],_,_,_,_,h,_=>by simp at h
 |p::P,w::vs,0,m,nd,h1,h2,hk=>by
  simp at h1 h2;subst h1;subst h2;show Y0 a ((p,w)::P.zip vs) m p=_;unfold Y0;rw[sr λv b=>(QR.mp nd).1 (WS b).1,P5 hk];simp
 |p::P,w::vs,i+1,m,nd,h1,h2,hk=>by
  show Y0 a ((p,w)::P.zip vs) m x=_;unfold Y0;exact su (i:=i) (QR.mp nd).2 (by simpa using h1) (by simpa using h2) hk
noncomputable def fS(N:List QO)(vs:List V):St:=vs.map on++Qr (N.length-vs.length) PM
noncomputable def f9(CX:CXT)(P:QG)(w:QT)(K:Qo)(mg:QO->Option P0)(base:Rl)(N:List QO)(a:QO)(scope:Scope)(f:PZ)(cd:P0)(A:Q7)(outer:List WY)(s:P6)(H:Hp)(E:XK):Cx where
 prog:=P
 w:=w
 K:=K
 mg:=mg
 base:=base
 A:=A.deeper (Uv a scope s.heap.objs.size f cd)
 N:=N
 s₀:=s
 H₀:=H
 env:=Uv a scope s.heap.objs.size f cd
 outer:=outer
 stack:=Uv a scope s.heap.objs.size f cd::outer
 ex:=[]
 calm:=PQ
 fn:=λ_=>PQ
 pn:=[]
 xe:=λe s'=>Qj (QA P w) (A.deeper (Uv a scope s.heap.objs.size f cd)) (leaving (Uv a scope s.heap.objs.size f cd) e) (λ_ b=>CX outer H s E e b) (λc b=>CX outer H s E c b) s'
theorem vj{a:Scope}{x:QO}(h:a.names.lookup x=on .cell):∃c,(RU n a.names []).lookup x=on c:=by
 have q:=X2 a.names n [] (.inl h);exact Xe.mp q
theorem z5{CX:CXT}{K:Qo}{N ps:List QO}{scope:Scope}{f:PZ}{A:Q7}{s L:P6}{E:XK}{vs:List V}
  (S:FnScope N ps scope) (hd:A.handled=PM) (j:Env0 P w K mg base A outer s H) (U:vs.length=ps.length) (r:ax vs us)
  (x:InCallC s s.heap.objs.size (Y1 (Uv qual scope s.heap.objs.size f cd).kindOf (ps.zip us) λ_=>PM) (RU (s.heap.objs.size+1) scope.names []) (Y0 (Uv qual scope s.heap.objs.size f cd).kindOf (ps.zip us) λ_=>PM) L):
  Inv (f9 CX P w K mg base N qual scope f cd A outer s H E) [] (fS N vs) H L:=by
 have R:ps.length<=N.length:=by have:=Rh VT S.pre;rw[R4]at this;omega
 obtain⟨I,tk,rfl,O⟩:=x.done;have l:∀b:PZ,b∉(f9 CX P w K mg base N qual scope f cd A outer s H E).ex:=λb z=>Qx (show b∈([]:List PZ)from z) (by simp);refine⟨⟨j.mod,S.kind,rfl,rfl,P9 _,λy z c I d=>?_,λy hy=>?_,λy c _ h=>?_,λ_=>hd,Around.frames_deeper j.frames,.inr ⟨rfl,rfl⟩,λb z=>Qx z (l b),j.bs,j.bsz,λb _ _=>l b,λb z=>Qx z (l b),j.funs,j.frf⟩,
  rfl,j.bare,Un.kept O,⟨_,x.toInCall.ns,λi y v I d W=>?_⟩,λy c h=>⟨_,x.cell y c h⟩,j.hok.fresh (P9 _),λy c h=>?_,λp B=>Qx (show p∈([]:List (PZ×Qy))from B) (by simp),j.hok.kept O,?_⟩
 ·exact name_of_addr x.apart (Rr I) (Rr d)
 ·have hy:scope.names.lookup y=on .cell\/scope.names.lookup y=on .free:=hy
  rcases hy with hy|hy
  ·exact vj hy
  ·exact Qx rfl (S.nofree _ (Rr hy))
 ·exact VH (x.above y c (Rr h))
 ·have J:i<vs.length:=by
   unfold fS at d;by_cases J:i<vs.length
   ·exact J
   ·rw[Ru (by simpa using J)]at d
    rw[Sx]at d;split at d<;>cases d
  have ha:vs[i]?=on v:=by
   unfold fS at d;rw[Rz (by simpa using J),PY]at d;cases e:vs[i]? with
   |none=>rw[e]at d;cases d
   |some a=>rw[e]at d;cases d;rfl
  obtain⟨u,Q,T⟩:=r.get ha;have B:ps[i]?=on y:=by
   rw[←S.pre,Xq (by omega)];exact I
  have F:ps.Nodup:=by rw[←S.pre];exact S.nd.sublist (List.take_sublist _ _)
  refine⟨u,T,?_⟩;rcases S.par y (Qi B)with k|k
  ·exact .inl ⟨k,sk F B Q k⟩
  ·obtain⟨c,e⟩:=vj (n:=s.heap.objs.size+1) k
   refine .inr ⟨.inl k,c,e,?_⟩;have q:=x.cell y c e;rw[su F B Q (by show scope.names.lookup y≠_;rw[k];decide)]at q;exact q
 ·exact j.hok.fresh (VH (x.above y c (Rr h)))
 ·unfold fS
  show _=N.length;rw[Qm,PL,RV];omega
theorem IZ{CX:CXT}{K:Qo}{k:Nat}{f:PZ}
  {N ps:List QO} {sp:Sp} (T:K.lookup f=on ⟨oc,od,.func (Ua name qual params body scope dV kV doc pm an cdv ct),osl⟩) (B:UI K cdv qual=PQ) (S:FnScope N ps scope)
  (len:∀vs H Q E,sp vs H Q E->vs.length=ps.length)
  (d:∀(A:Q7) (outer:List WY) (s:P6) (H:Hp) (vs:List V) (Q:VK) (E:XK),Room k (A.deeper (Uv qual scope s.heap.objs.size f cdv))->sp vs H Q E->
   ∃t,PSs (f9 CX P w K mg base N qual scope f cdv A outer s H E) body t/\t {nx:=λ_ c=>Q .non c,rt:=Q} (fS N vs) H):
  FnOk P w K mg base CX (k+1) f (Ua name qual params body scope dV kV doc pm an cdv ct) ps sp:=by
 refine⟨len,λA outer s H args us vs Q E F i U r j=>?_⟩;have Y:=len _ _ _ _ j;have O:K.In s.heap:=i.mod.kin.keeps λb o e=>(i.bs b o e).1;have lim:s.heap.NoLimit:=i.mod.nolimit.keeps λb o e=>(i.bs b o e).1;have h:∀y∈ps.zip us,scope.names.lookup y.1=on .local\/(scope.names.lookup y.1=on .cell/\((RU (s.heap.objs.size+1) scope.names []).lookup y.1).isSome=PQ):=λ⟨n,v⟩ Z=>by
  rcases S.par n (WS Z).1 with q|q
  ·exact .inl q
  ·exact .inr ⟨q,X2 _ _ _ (.inl q)⟩
 refine codeAny_call_function F.depth (O _ _ T) rfl S.co S.gen rfl (PySem.W.codeRec_of O B) (U _ _ _ _ ?_);refine wpAny_newFunctionEnv_cells S.kind h λenv he R x=>?_;subst he;refine⟨lim.keeps x.toInCall.keep,codeAny_func ?_⟩;obtain⟨t,ht,hq⟩:=d A outer s H vs Q E (F.deeper _) j;have I:Inv (f9 CX P w K mg base N qual scope f cdv A outer s H E) [] (fS N vs) H R:=z5 S F.hd i Y r x;refine Q2 (ht [] R (fS N vs) H _ I hq) (λfl s' hs=>?_) λe s' hs=>hs;have l:∀{a:St} {c:Hp} {v:V} {u:P0},Inv (f9 CX P w K mg base N qual scope f cdv A outer s H E) [] a c s'->aN v u->Q v c->CE outer P w H s Q u s':=
  λ{a c v u} J L q=>⟨v,c,J.os,J.bare,J.base,J.hok,L,q⟩
 cases fl with
 |ret u=>
  obtain⟨v,a,c,J,L,q⟩:=hs;exact l J L q
 |next=>
  obtain⟨a,c,J,q⟩:=hs;exact l (v:=V.non) (u:=Q5) J rfl q
 |brk=>
  obtain⟨_,_,_,q⟩:=hs;exact SD q
 |cont=>
  obtain⟨_,_,_,q⟩:=hs;exact SD q
variable{id T:String}{r:List V->Hp->VK->Prop}
def tCB(r:List V->Hp->VK->Prop)(t:TA):TE:=λa H Q=>t a H λvs b=>r vs b Q
theorem lf(i:dF X (.builtin id) r)(j:Gl X x)(hm:X.mg x=PM)(l:T5 x=on (.builtin id))(ha:PA X (e::es) t)(hn:x≠"__name__":=by decide)(b:(x==("__debug__":QO))=PX:=by decide)
  (n:Qg (e::es) X.env=(PX,Rk e X.env)::Qg es X.env:=by rfl) (c:(SA pos (Qg es X.env)).any (·.1)=PX:=by rfl):PE X (.Call (.Name x p) (e::es) [] pos) (tCB r t):=by
 intro a s d H Q I h;refine Vs (gm I j hm l ?_ hn b);exact PyProof.Rows.callWith_builtin1 (thn (ha pos a s d H _ I h) λus q ⟨vs,u,v,r1,q1⟩=>i a q d u vs us Q v r1 q1) n c
theorem zi(i:dF X (.type T) r)(j:Gl X x)(hm:X.mg x=PM)(l:T5 x=on (.type T))(ha:PA X (e::es) t)(hn:x≠"__name__":=by decide)(b:(x==("__debug__":QO))=PX:=by decide)
  (n:Qg (e::es) X.env=(PX,Rk e X.env)::Qg es X.env:=by rfl) (c:(SA pos (Qg es X.env)).any (·.1)=PX:=by rfl):PE X (.Call (.Name x p) (e::es) [] pos) (tCB r t):=by
 intro a s d H Q I h;refine Vs (gm I j hm l ?_ hn b);exact RA (thn (ha pos a s d H _ I h) λus q ⟨vs,u,v,r1,q1⟩=>i a q d u vs us Q v r1 q1) n c
end
end L2
namespace HT
open PySem PyProof.Rows
section
open PySem.SeqAt
open PySem.AutoSeq1 (wpAny_loadPart')
open PySem.MeetsSeq PySem.MeetsSeq2 PySem.MeetsSeq3
end
section
variable{prog:QG}{w:QT}{A:Q7}{E:P0->P6->Prop}{s:P6}
theorem cat_tup{vs a:List P0}(v:IsTup s.heap t vs.toArray)(y:IsTup s.heap b a.toArray)(m:vs≠[])
  (B:a=[]->Q (.ref t) s) (C:a≠[]->Q (.ref s.heap.objs.size) {s with heap:=s.heap.push {cls:= .type "tuple",data:= .seq (vs++a).toArray}})
  (k:vs.length+a.length<=Qp):Qj (QA prog w) A (SL .Add (.ref t) (.ref b)) Q E s:=by
 obtain⟨⟨cls,o,data,p⟩,i,q,n,hd⟩:=id v;obtain⟨⟨r,d,l,f⟩,c,g,u,h⟩:=id y;simp only at q hd g h;subst q hd g h;have e:vs.toArray++a.toArray=(vs++a).toArray:=by simp
 by_cases j:a=[]
 ·exact concat_meets ⟨_,i,rfl⟩ ⟨_,c,rfl⟩ Xl YI Vo Ve (U5 _ _)
   (tuple_addW1 t b vs.toArray a.toArray n u o d p f (by simpa using m) (by simp[j])) ⟨i,c,B j⟩
 ·refine concat_meets ⟨_,i,rfl⟩ ⟨_,c,rfl⟩ Xl YI Vo Ve (U5 _ _)
   (tuple_addW2 t b vs.toArray a.toArray n u o d p f (by simpa using m) (by simpa using j) (by rw[Qn,Qn];exact k)) ⟨i,c,?_⟩
  rw[e];exact C j
noncomputable def sIx(n d:Nat):Option Int->Nat
 |none=>d
 |some v=>if v<0 then(v+(n:Int)).toNat else US v.toNat n
theorem sIx_none(n d:Nat):sIx n d PM=d:=rfl
theorem sIx_nat(n d k:Nat):sIx n d (on (k:Int))=US k n:=by
 show(if(k:Int)<0 then((k:Int)+(n:Int)).toNat else US (k:Int).toNat n)=US k n;rw[P5 (by omega),Ry]
end
end HT
namespace L2
open PySem PySem.Spec PyProof.Rows
abbrev TO:=St->Hp->(Option Int->Hp->Prop)->Prop
def PO(X:Cx)(e:Option Expr)(t:TO):Prop:=
 ∀(a:List (PZ×Qy)) (s:P6) (b:St) (H:Hp) (Q:Option Int->Hp->Prop),Inv X a b H s->t b H Q->
  Qj (QA X.prog X.w) X.A (evalPart e X.env) (λu s'=>∃o c,Inv X a b c s'/\IsPart u o/\Q o c) X.xe s
noncomputable def JX:TO:=λ_ H Q=>Q PM H
def OL(t:TE):TO:=λa H Q=>t a H λx b=>∃i,x= .int i/\Q (on i) b
theorem qb{ns:List Int}:∀{us:List P0},ax (ns.map V.int) us->XH us ns:=by
 induction ns with
 |nil=>intro us r;rw[Ug]at r;cases r;exact .nil
 |cons n ns ih=>
  intro us r;rw[Qf]at r;cases r with
  |cons r1 a=>
   obtain⟨t,e⟩:=r1;subst e;exact .cons n t (ih a)
section
variable{X:Cx}{e:Expr}{te:TE}{lo hi:Option Expr}{tl th:TO}{pos p2:UE}
theorem wb:PO X PM JX:=by
 intro a s b H Q I h;rw[YH];exact PN ⟨PM,H,I,.none,h⟩
theorem wa(h:PE X e te):PO X (on e) (OL te):=by
 intro a s b H Q I c;rw[evalPart_some];refine thn (h a s b H _ I c) λu g ⟨x,d,f,r1,q1⟩=>?_;obtain⟨i,rfl,q⟩:=q1;obtain⟨t,rfl⟩:=r1;exact⟨on i,d,f,.int i t,q⟩
def SlR(X:Cx)(r:V->Option Int->Option Int->Hp->VK->Prop):Prop:=
 ∀(a:List (PZ×Qy)) (s:P6) (b:St) (H:Hp) (x:V) (v c d:P0) (lo hi:Option Int) (f:PZ) (Q:VK),Inv X a b H s->aN x v->s.heap.IsSliceOf f c d .none->IsPart c lo->IsPart d hi->r x lo hi H Q->
  ∃T g,typeLookup (.type T) "__getitem__"=SB (on (.builtin g))/\s.TypeIs v T/\Qj (QA X.prog X.w) X.A (getItem v (.ref f)) (EP X a b Q) X.xe s
def tSl(r:V->Option Int->Option Int->Hp->VK->Prop)(te:TE)(tl th:TO):TE:=λa H Q=>te a H λx b=>tl a b λl c=>th a c λu d=>r x l u d Q
theorem ul(j:SlR X r)(k:PE X e te)(m:PO X lo tl)(n:PO X hi th):PE X (.Subscript e (.Slice lo hi PM p2) pos) (tSl r te tl th):=by
 intro a s d H Q I h;refine Subscript_ (thn (k a s d H _ I h) λv o ⟨x,p,t,r1,q1⟩=>?_);refine wpAny_Slice (thn (m a o d p _ t q1) λf y ⟨l,B,C,pl,q2⟩=>thn (n a y d B _ C q2) λg c ⟨u,i,F,J,q3⟩=>?_);rw[YH];refine PN ?_;have L:Inv X a d i {c with heap:=c.heap.push {cls:= .type "slice",data:= .fields #[f,g,.none]}}:=F.kept (t':=c.toks) λb R q=>PU _ q;obtain⟨T,U,N,O,P⟩:=j a {c with heap:=c.heap.push {cls:= .type "slice",data:= .fields #[f,g,.none]}} d i x v f g l u c.heap.objs.size Q L r1 (WP ..) pl J q3;show Qj (QA X.prog X.w) X.A (YJ e (.Slice lo hi PM p2) v (.ref c.heap.objs.size)) (EP X a d Q) X.xe {c with heap:=c.heap.push {cls:= .type "slice",data:= .fields #[f,g,.none]}};exact tail_any (ops:=[.ref c.heap.objs.size,v]) O N P (by with_unfolding_all rfl)
noncomputable def mK(xs:List V)(lo hi:Option Int):List V:=(xs.drop (HT.sIx xs.length 0 lo)).take (HT.sIx xs.length xs.length hi-HT.sIx xs.length 0 lo)
theorem vC(xs:List V)(lo hi:Option Int):(mK xs lo hi).length<=xs.length:=by
 unfold mK;rw[R4,Vt];omega
def xk(K:Qo):R2:=λx y H Q=>∃a b xs ys,x= .ref a/\y= .ref b/\SqT K H a xs/\SqT K H b ys/\xs≠[]/\xs.length+ys.length<=Qp/\
 (ys=[]->Q (.ref a) H)/\(ys≠[]->∀p,H p=PM->Q (.ref p) (upd H p (.tup (xs++ys))))
theorem ax.nil_iff(r:ax xs us):us=[]↔xs=[]:=by
 cases r with
 |nil=>simp
 |cons _ _=>simp
theorem KM:OpR X (SL .Add) (xk X.K):=by
 intro d s n H x y v u Q I i j h;obtain⟨a,b,xs,ys,rfl,rfl,ha,k,l,f,q1,q2⟩:=h;cases i;cases j;obtain⟨its,r1,m,_⟩:=I.tuple ha;obtain⟨g,c,p2,_⟩:=I.tuple k;refine HT.cat_tup m p2 (λz=>l (r1.nil_iff.mp z)) (λz=>⟨.ref a,H,I,rfl,q1 (c.nil_iff.mp z)⟩) (λz=>?_) (by rw[←r1.length,←c.length];exact f);refine⟨.ref s.heap.objs.size,_,I.laid (t':=s.toks) (o:= .tup (xs++ys)) (λb p q=>PU _ q) (P9 _) ?_,rfl,q2 (λw=>z (c.nil_iff.mpr w)) _ (I.hok.fresh (P9 _))⟩;exact⟨by rw[Qm];exact f,_,r1.append c,IsTup.new _ _⟩
noncomputable def ixN(n:Nat)(i:Int):Option Nat:=if 0<=i then(if i<n then on i.toNat else PM)else if -(n:Int)<=i then on (i+n).toNat else PM
def atI{α:Type}(xs:List α)(i:Int):Option α:=(ixN xs.length i).bind λj=>xs[j]?
theorem wr(h:ixN n i=on j):seqIndex? i n=on j/\j<n/\-(n:Int)<=i/\i<n:=by
 unfold ixN at h;by_cases b:0<=i
 ·rw[P7 b]at h
  by_cases a:i<n
  ·rw[P7 a]at h
   have e:i.toNat=j:=QB h;exact⟨by rw[seqIndex_of b a,e],by omega,by omega,a⟩
  ·rw[P5 a]at h;cases h
 ·rw[P5 b]at h
  by_cases a:-(n:Int)<=i
  ·rw[P7 a]at h
   have e:(i+n).toNat=j:=QB h;exact⟨by rw[Zi (by omega) a,e],by omega,a,by omega⟩
  ·rw[P5 a]at h;cases h
theorem wN{α:Type}{xs:List α}{i:Int}{v:α}(h:atI xs i=on v):∃j,seqIndex? i xs.length=on j/\xs[j]?=on v/\j<xs.length/\-(xs.length:Int)<=i/\i<xs.length:=by
 unfold atI at h;cases e:ixN xs.length i with
 |none=>rw[e]at h;cases h
 |some j=>
  rw[e]at h;obtain⟨a,b,c,d⟩:=wr e;exact⟨j,a,h,b,c,d⟩
theorem Lu{α:Type}{xs:List α}{j:Nat}{v:α}(h:xs[j]?=on v):atI xs (j:Int)=on v:=by
 have a:j<xs.length:=(P4.mp h).1;have e:ixN xs.length (j:Int)=on j:=by
  unfold ixN;rw[P7 (by omega),P7 (by omega)];simp
 unfold atI;rw[e];exact h
def rb(b:Expr):Prop:=∀o i,subscripted b PX o i=operate [o,i] (getItem o i)
def IxR(X:Cx)(r:R2):Prop:=
 ∀(c a:Expr) (b:List (PZ×Qy)) (s:P6) (d:St) (H:Hp) (x y:V) (v u:P0) (Q:VK),Inv X b d H s->aN x v->aN y u->r x y H Q->
  subscripted a PX v u=operate [v,u] (getItem v u)->Qj (QA X.prog X.w) X.A (YJ c a v u) (EP X b d Q) X.xe s
def MtR(X:Cx)(c:String)(r:V->List V->Hp->VK->Prop):Prop:=
 ∀(a:List (PZ×Qy)) (s:P6) (b:St) (H:Hp) (x:V) (xs:List V) (v:P0) (us:List P0) (Q:VK),Inv X a b H s->aN x v->ax xs us->r x xs H Q->
  Qj (QA X.prog X.w) X.A (W3 (.builtin c) (v::us)) (EP X a b Q) X.xe s
variable{a b:Expr}{ta tb:TE}
theorem IxR.or(h:IxR X r)(h':IxR X r'):IxR X (λx y H Q=>r x y H Q\/r' x y H Q):=by
 intro c d f s g H x y v u Q I i j q hs;rcases q with q|q
 ·exact h c d f s g H x y v u Q I i j q hs
 ·exact h' c d f s g H x y v u Q I i j q hs
theorem gR(d:IxR X r)(ha:PE X a ta)(f:PE X b tb)(hs:rb b):PE X (.Subscript a b pos) (tOp r ta tb):=by
 intro c s g H Q I h;exact Subscript_ (EN ha f I h λv u i x y j k l m q=>d a b c i g j x y v u Q k l m q (hs _ _))
def xj(K:Qo):R2:=λx y H Q=>∃p xs i v,x= .ref p/\y= .int i/\SqL K H p xs/\atI xs i=on v/\Q v H
def CD(K:Qo):R2:=λx y H Q=>∃p xs i v,x= .ref p/\y= .int i/\SqT K H p xs/\atI xs i=on v/\Q v H
theorem d8:IxR X (xj X.K):=by
 intro g k c s n H x y v u Q I B C h hs;obtain⟨p,xs,i,z,rfl,rfl,F,J,q⟩:=h;cases B;obtain⟨t,rfl⟩:=C;obtain⟨its,r,pl,R⟩:=I.list F;obtain⟨j,f,L,T,N,O⟩:=wN J;obtain⟨w,o,l⟩:=r.get L;have P:=r.length;have hn:=mw;have d:EP X c n Q w s:=⟨z,H,I,l,q⟩;by_cases A:0<=i
 ·have m:i.toNat=j:=by
   rw[seqIndex_of A O]at f;exact QB f
  exact item_listR pl.isList A (by omega) (by rw[m];simpa using o) d hs
 ·have m:(i+(its.toArray.size:Int)).toNat=j:=by
   rw[Zi (by omega) N]at f;rw[Qn,←P];exact QB f
  exact VY (x:=w) pl.isList.typeIs slot_list_getitem.lookup
   (wpAny_getItem_list_neg (Q:=λr s'=>r=w/\EP X c n Q r s') pl.isList (by omega) (by rw[Qn]<;>omega) (by omega) (by rw[m];simpa using o) ⟨rfl,d⟩) hs
theorem MX:IxR X (CD X.K):=by
 intro d f c s l H x y v u Q I m n h hs;obtain⟨p,xs,i,z,rfl,rfl,o,A,q⟩:=h;cases m;obtain⟨t,rfl⟩:=n;obtain⟨its,r,pl,L⟩:=I.tuple o;obtain⟨j,B,C,N,O,P⟩:=wN A;obtain⟨w,F,g⟩:=r.get C;have J:=r.length;have hn:=mw;have k:EP X c l Q w s:=⟨z,H,I,g,q⟩;exact VY (x:=w) pl.typeIs slot_tuple_getitem.lookup
  (getItem_tuple (j:=j) (Q:=λr s'=>r=w/\EP X c l Q r s') pl (by omega) (by omega) (by rw[Qn,←J];exact B) (by simpa using F) ⟨rfl,k⟩) hs
theorem xy(its:List P0)(n j:Nat)(u:P0):RT (·.setIfInBounds j u) {cls:= .type "list",data:= .seq its.toArray n}={cls:= .type "list",data:= .seq (its.set j u).toArray n}:=by
 simp[RT]
theorem Inv.lst{s:P6}{xs:List V}(I:Inv X pins σ H s)(h:H p=on (.lst xs)):
  ∃(its:List P0) (n:Nat),ax xs its/\s.heap.get? p=on {cls:= .type "list",data:= .seq its.toArray n}/\xs.length<=Qp:=by
 obtain⟨z,its,n,r,e⟩:=I.hok p _ h;exact⟨its,n,r,e,z⟩
theorem Inv.lstUpd{s:P6}{xs ys:List V}{its its':List P0}(I:Inv X pins σ H s)(h:H p=on (.lst xs))
  (d:s.heap.get? p=on {cls:= .type "list",data:= .seq its.toArray n}) (c:f {cls:= .type "list",data:= .seq its.toArray n}={cls:= .type "list",data:= .seq its'.toArray n'}) (r:ax ys its') (g:ys.length<=Qp) (t:Nat):
  Inv X pins σ (upd H p (.lst ys)) {s with heap:=s.heap.update p f,toks:=t}:=by
 have e:(s.heap.update p f).get? p=on {cls:= .type "list",data:= .seq its'.toArray n'}:=by
  rw[Th f d (by rw[c]<;>rfl),c]
 refine I.write (x:=p) (e:=p) (by rw[h];trivial) (.inl rfl) (λb u i q=>(XG _ _ (Ne.symm i)).trans q) ⟨_,e⟩ ?_;exact⟨g,its',n',r,e⟩
def IE:V->V->V->Hp->(Hp->Prop)->Prop:=λo i v H Q=>∃p xs k j,o= .ref p/\i= .int k/\H p=on (.lst xs)/\ixN xs.length k=on j/\Q (upd H p (.lst (xs.set j v)))
theorem gz:Oz X IE:=by
 intro c s C H o i v P R u Q I F J L h;obtain⟨p,xs,k,j,rfl,rfl,m,N,q⟩:=h;cases F;obtain⟨t,rfl⟩:=J;obtain⟨its,n,r,f,O⟩:=I.lst m;obtain⟨d,T,w,y⟩:=wr N;have g:=r.length;have hn:=mw;have A:Inv X c C (upd H p (.lst (xs.set j v))) {s with heap:=s.heap.update p (RT (·.setIfInBounds j u))}:=
  I.lstUpd m f (xy its n j u) (r.set L j) (by rw[Rc];exact O) s.toks
 by_cases B:0<=k
 ·have l:k.toNat=j:=by
   rw[seqIndex_of B y]at d;exact QB d
  exact PySem.W.ki_setAt f B (by omega) (by rw[Qn,←g];exact y) (by rw[l];exact⟨_,A,q⟩)
 ·have l:(k+(its.toArray.size:Int)).toNat=j:=by
   rw[Zi (by omega) w]at d;rw[Qn,←g];exact QB d
  exact PySem.W.ki_setBack f (by omega) (by rw[Qn,←g];exact w) (by omega) (by rw[l];exact⟨_,A,q⟩)
theorem tR(lo hi:Option Int)(n:Nat):(TV lo hi PM n).1=((HT.sIx n 0 lo:Nat):Int)/\(TV lo hi PM n).2.1=((HT.sIx n n hi:Nat):Int)/\(TV lo hi PM n).2.2=1:=by
 refine⟨?_,?_,rfl⟩
 ·cases lo with
  |none=>simp[TV,HT.sIx]
  |some i=>
   simp only[TV,HT.sIx,YT,show(1:Int)>0 by decide,Q4];by_cases h:i<0
   ·simp only[h,Q4]<;>omega
   ·simp only[h,Q6]<;>omega
 ·cases hi with
  |none=>simp[TV,HT.sIx]
  |some i=>
   simp only[TV,HT.sIx,YT,show(1:Int)>0 by decide,Q4];by_cases h:i<0
   ·simp only[h,Q4]<;>omega
   ·simp only[h,Q6]<;>omega
theorem sy(its:List P0)(lo hi:Option Int):Y6 its.toArray lo hi PM=((its.drop (HT.sIx its.length 0 lo)).take (HT.sIx its.length its.length hi-HT.sIx its.length 0 lo)).toArray:=by
 obtain⟨c,d,f⟩:=tR lo hi its.toArray.size;unfold Y6;rw[c,d,f];simp only[sliceRange_one,pick_run,Qn]<;>rfl
def rSlL(K:Qo):V->Option Int->Option Int->Hp->VK->Prop:=λx lo hi H Q=>∃a xs,x= .ref a/\SqL K H a xs/\∀p,H p=PM->Q (.ref p) (upd H p (.lst (mK xs lo hi)))
theorem vV:SlR X (rSlL X.K):=by
 intro d s l H x v m n lo hi p Q I g hs pl i h;obtain⟨a,xs,rfl,j,q⟩:=h;cases g;obtain⟨its,r,f,k⟩:=I.list j;have c:=r.length;refine⟨"list",_,slot_list_getitem.lookup,f.isList.typeIs,?_⟩;refine YK f.isList hs pl i .none (by simp) ?_ (by rw[Qn]<;>omega)
 rw[sy,←c];refine⟨.ref s.heap.objs.size,_,I.laid (t':=s.toks) (o:= .lst (mK xs lo hi)) (λb t q=>PU _ q) (P9 _) ?_,rfl,q _ (I.hok.fresh (P9 _))⟩;exact⟨Qs (vC xs lo hi) k,_,0,(r.drop (HT.sIx xs.length 0 lo)).take (HT.sIx xs.length xs.length hi-HT.sIx xs.length 0 lo),Qk _ rfl⟩
noncomputable def gU:V->Bool
 | .non=>PQ
 | .bl _=>PQ
 | .int _=>PQ
 | .str _=>PQ
 |_=>PX
noncomputable def eqV:V->V->Bool
 | .non,.non=>PQ
 | .bl a,.bl b=>a==b
 | .bl a,.int b=>(if a then 1 else 0)==b
 | .int a,.bl b=>a==(if b then 1 else 0)
 | .int a,.int b=>a==b
 | .str a,.str b=>a==b
 |_,_=>PX
theorem Ng(d:aN y u)(c:aN x v)(g:gU y=PQ)(f:gU x=PQ):SeqAt.EqAt A s u v (eqV y x):=by
 cases y with
 |non=>
  cases d;cases x with
  |non=>cases c;exact SeqAt.EqAt.same _
  |bl b=>cases c;exact SeqAt.EqAt.none_bool b
  |int b=>obtain⟨t,rfl⟩:=c;exact SeqAt.EqAt.none_int b t
  |str b=>obtain⟨t,rfl⟩:=c;exact SeqAt.EqAt.none_str b t
  |_=>exact Qx (show PX=PQ from f) P8
 |bl a=>
  cases d;cases x with
  |non=>cases c;exact SeqAt.EqAt.bool_none a
  |bl b=>cases c;exact SeqAt.EqAt.bool_bool a b
  |int b=>obtain⟨t,rfl⟩:=c;exact SeqAt.EqAt.bool_int a b t
  |str b=>obtain⟨t,rfl⟩:=c;exact SeqAt.EqAt.bool_str a b t
  |_=>exact Qx (show PX=PQ from f) P8
 |int a=>
  obtain⟨t',rfl⟩:=d;cases x with
  |non=>cases c;exact SeqAt.EqAt.int_none a t'
  |bl b=>cases c;exact SeqAt.EqAt.int_bool a t' b
  |int b=>obtain⟨t,rfl⟩:=c;exact SeqAt.EqAt.int_int a t' b t
  |str b=>obtain⟨t,rfl⟩:=c;exact SeqAt.EqAt.int_str a t' b t
  |_=>exact Qx (show PX=PQ from f) P8
 |str a=>
  obtain⟨t',rfl⟩:=d;cases x with
  |non=>cases c;exact SeqAt.EqAt.str_none a t'
  |bl b=>cases c;exact SeqAt.EqAt.str_bool a t' b
  |int b=>obtain⟨t,rfl⟩:=c;exact SeqAt.EqAt.str_int a t' b t
  |str b=>obtain⟨t,rfl⟩:=c;exact SeqAt.EqAt.str_str a t' b t
  |_=>exact Qx (show PX=PQ from f) P8
 |_=>exact Qx (show PX=PQ from g) P8
def eqU(x:V)(u:P0):Bool:=match u with
 | .none=>eqV .non x
 | .bool b=>eqV (.bl b) x
 | .int i _=>eqV (.int i) x
 | .str z _=>eqV (.str z) x
 |_=>PX
theorem AI(r:aN y u)(f:gU y=PQ):eqU x u=eqV y x:=by
 cases y with
 |non=>cases r;rfl
 |bl b=>cases r;rfl
 |int i=>obtain⟨t,rfl⟩:=r;rfl
 |str z=>obtain⟨t,rfl⟩:=r;rfl
 |_=>exact Qx (show PX=PQ from f) P8
theorem kQ:∀{xs:List V} {us:List P0},ax xs us->xs.all gU=PQ->us.any (eqU x)=xs.any λy=>eqV y x
 |_,_,.nil,_=>rfl
 |y::xs,u::us,.cons r t,f=>by
  rw[V6,QJ]at f;rw[Vj,Vj,AI r f.1,kQ t f.2]
theorem jk(c:aN x v)(d:gU x=PQ):∀{xs:List V} {us:List P0},ax xs us->xs.all gU=PQ->∀u∈us,SeqAt.EqAt A s u v (eqU x u)
 |_,_,.nil,_=>λu hu=>by cases hu
 |y::xs,u::us,.cons r t,f=>λg hu=>by
  rw[V6,QJ]at f;rcases Qh.mp hu with rfl|hu
  ·rw[AI r f.1];exact Ng r c f.1 d
  ·exact jk c d t f.2 g hu
def inV(x:V)(xs:List V):Bool:=xs.any λy=>eqV y x
def rIn(K:Qo)(neg:Bool):R2:=λx y H Q=>∃p xs,y= .ref p/\(SqL K H p xs\/SqT K H p xs)/\gU x=PQ/\xs.all gU=PQ/\Q (.bl (if neg then !inV x xs else inV x xs)) H
theorem zk:OpR X (Rg .In) (rIn X.K PX):=by
 intro d s k H x y v u Q I f i h;obtain⟨p,xs,rfl,hq,g,fs,q⟩:=h;cases i;rcases hq with hq|hq
 ·obtain⟨its,r,pl,j⟩:=I.list hq
  refine SeqAt.in_listAt (eqU x) pl.isList (λw c=>jk f g r fs w (by simpa using c)) ⟨.bl _,H,I,rfl,?_⟩;rw[show its.toArray.any (eqU x)=its.any (eqU x) by simp,kQ r fs];exact q
 ·obtain⟨its,r,pl,j⟩:=I.tuple hq
  refine SeqAt.in_tupleAt (eqU x) pl (λw c=>jk f g r fs w (by simpa using c)) ⟨.bl _,H,I,rfl,?_⟩;rw[show its.toArray.any (eqU x)=its.any (eqU x) by simp,kQ r fs];exact q
theorem mq:OpR X (Rg .NotIn) (rIn X.K PQ):=by
 intro d s k H x y v u Q I f i h;obtain⟨p,xs,rfl,hq,g,fs,q⟩:=h;cases i;rcases hq with hq|hq
 ·obtain⟨its,r,pl,j⟩:=I.list hq
  refine SeqAt.notIn_listAt (eqU x) pl.isList (λw c=>jk f g r fs w (by simpa using c)) ⟨.bl _,H,I,rfl,?_⟩;rw[show its.toArray.any (eqU x)=its.any (eqU x) by simp,kQ r fs];exact q
 ·obtain⟨its,r,pl,j⟩:=I.tuple hq
  refine SeqAt.notIn_tupleAt (eqU x) pl (λw c=>jk f g r fs w (by simpa using c)) ⟨.bl _,H,I,rfl,?_⟩;rw[show its.toArray.any (eqU x)=its.any (eqU x) by simp,kQ r fs];exact q
theorem mS:dF X (.builtin "len") (λxs H Q=>∃p ys,xs=[.ref p]/\(SqL X.K H p ys\/SqT X.K H p ys)/\Q (.int ys.length) H):=by
 intro f s j H xs us Q I r h;obtain⟨p,ys,rfl,hq,q⟩:=h;obtain⟨u,rfl,g⟩:=kW r;cases g;have hn:=mw;rcases hq with hq|hq
 ·obtain⟨its,d,pl,i⟩:=I.list hq
  have c:=d.length;exact Calls.call_len_list pl.isList (by simp only[Qn]<;>omega) ⟨.int ys.length,H,I.tok _,⟨s.toks+1,by rw[Qn,c]⟩,q⟩
 ·obtain⟨its,d,pl,i⟩:=I.tuple hq
  have c:=d.length;exact len_tuple pl (by simp only[Qn]<;>omega) ⟨.int ys.length,H,I.tok _,⟨s.toks+1,by rw[Qn,c]⟩,q⟩
theorem dO:dF X (.type "list") (λxs H Q=>∃p ys,xs=[.ref p]/\(SqL X.K H p ys\/SqT X.K H p ys)/\∀l,H l=PM->Q (.ref l) (upd H l (.lst ys))):=by
 intro f s v H xs us Q I r h;obtain⟨p,ys,rfl,hq,q⟩:=h;obtain⟨u,rfl,y⟩:=kW r;cases y
 have g:∀(its:List P0),ax ys its->ys.length<=Qp->∀(h':Rl) (c:Nat),(∀b t,s.heap.get? b=on t->h'.get? b=on t)->
   h'.get? s.heap.objs.size=on {cls:= .type "list",dict:=PM,data:= .seq its.toArray c,slots:=#[]}->EP X f v Q (.ref s.heap.objs.size) {s with heap:=h'}:=λits d i h' c kp e=>
  ⟨.ref s.heap.objs.size,_,I.laid (t':=s.toks) kp (P9 _) (show bO X.prog X.w _ h' _ (.lst ys)from⟨i,its,c,d,e⟩),rfl,q _ (I.hok.fresh (P9 _))⟩
 rcases hq with hq|hq
 ·obtain⟨its,d,pl,i⟩:=I.list hq
  have j:=d.length;obtain⟨o,k,m,n,hd⟩:=pl.isList;exact call_list_seq p (.inl rfl) k m hd (λh' c kp e=>g its d i h' c kp e) (by simp only[Qn]<;>omega)
 ·obtain⟨its,d,pl,i⟩:=I.tuple hq
  have j:=d.length;obtain⟨o,k,m,n,hd⟩:=pl;exact call_list_seq p (.inr rfl) k m hd (λh' c kp e=>g its d i h' c kp e) (by simp only[Qn]<;>omega)
theorem bR:dF X (.type "tuple") (λxs H Q=>∃p ys,xs=[.ref p]/\((SqL X.K H p ys/\∀l,H l=PM->Q (.ref l) (upd H l (.tup ys)))\/(SqT X.K H p ys/\Q (.ref p) H))):=by
 intro c s g H xs us Q I r h;obtain⟨p,ys,rfl,h⟩:=h;obtain⟨u,rfl,m⟩:=kW r;cases m;rcases h with⟨d,q⟩|⟨d,q⟩
 ·obtain⟨its,f,pl,i⟩:=I.list d
  have j:=f.length;refine call_tuple_list pl.isList (λh' kp=>?_) (by simp only[Qn]<;>omega)
  have k:Inv X c g H {s with heap:=h'}:=I.kept (t':=s.toks) kp;have n:Inv X c g (upd H h'.objs.size (.tup ys)) {s with heap:=h'.push {cls:= .type "tuple",data:= .seq its.toArray}}:=
   k.laid (t':=s.toks) (λb o e=>PU _ e) (P9 _) (show bO X.prog X.w _ _ _ (.tup ys)from⟨i,its,f,IsTup.new _ _⟩)
  exact⟨.ref h'.objs.size,_,n,rfl,q _ (k.hok.fresh (P9 _))⟩
 ·obtain⟨its,f,pl,i⟩:=I.tuple d
  exact call_tuple_same pl ⟨.ref p,H,I,rfl,q⟩
def tyV(K:Qo)(T:String)(x:V)(H:Hp):Prop:=match x with
 | .str _=>T="str"
 | .int _=>T="int"
 | .ref p=>(T="list"/\∃xs,SqL K H p xs)\/(T="tuple"/\∃o,K.lookup p=on o/\o.cls= .type "tuple"/\o.dict=PM)
 |_=>False
theorem LB{s:P6}(I:Inv X pins σ H s)(r:aN x v)(ty:tyV X.K T x H):
  s.TypeIs v T/\∀a,v= .ref a->∃d,s.heap.get? a=on d/\d.dict=PM:=by
 cases x with
 |str z=>
  obtain⟨t,rfl⟩:=r;cases(show T="str"from ty);exact⟨typeIs_str s z t,λ_ e=>nomatch e⟩
 |int i=>
  obtain⟨t,rfl⟩:=r;cases(show T="int"from ty);exact⟨typeIs_int s i t,λ_ e=>nomatch e⟩
 |ref p=>
  cases r;rcases ty with⟨rfl,xs,g⟩|⟨rfl,o,f,h,hd⟩
  ·obtain⟨its,_,pl,_⟩:=I.list g
   refine⟨pl.isList.typeIs,λa e=>?_⟩;cases e;obtain⟨o,n,e,c,hd,_⟩:=pl;exact⟨o,e,hd⟩
  ·refine⟨⟨o,I.kIn p o f,h⟩,λa e=>?_⟩
   cases e;exact⟨o,I.kIn _ o f,hd⟩
 |_=>exact SD ty
def tBM(K:Qo)(T:String)(r:V->List V->Hp->VK->Prop)(to:TE)(t:TA):TE:=λc H Q=>to c H λx d=>tyV K T x d/\t c d λxs f=>r x xs f Q
variable{o:Expr}{es:List Expr}{to:TE}{t:TA}{name:QO}{apos cpos:UE}{T id:String}{r:V->List V->Hp->VK->Prop}
theorem ny(n:PlainAttrs T)(slot:Slot T name id)(j:typeOf (.builtin id)=SB (.type "method_descriptor"))(hm:MtR X id r)(p:PE X o to)(ha:PA X (e::es) t)
  (f:Ue o name X.env (Rk o X.env)=Rk o X.env:=by rfl)
  (i:((SA cpos (Qg (e::es) X.env)).all (λx=>!x.1)&&(Tp cpos (Si [] X.env)).all (λx=>x.1.isSome)
   &&decide ((e::es).length+([]:List VA).length+(if([]:List VA).isEmpty then 0 else 1)<30))=PQ:=by rfl)
  (g:(apos.endLine==cpos.line)=PQ:=by rfl) (hs:Qg (e::es) X.env=(PX,Rk e X.env)::Qg es X.env:=by rfl) (d:(SA cpos (Qg es X.env)).any (·.1)=PX:=by rfl):
  PE X (.Call (.Attribute o name apos) (e::es) [] cpos) (tBM X.K T r to t):=by
 intro c s k H Q I h;refine Zj f i g rfl (thn (p c s k H _ I h) λv q ⟨x,u,l,r1,ty,q1⟩=>?_);obtain⟨w,y⟩:=LB l r1 ty;refine⟨T,id,n,slot,j,w,y,?_⟩;have m:=ha cpos c q k u _ l q1;rw[hs]at m⊢;refine Vx (by show(PX||(SA cpos (Qg es X.env)).any (·.1))=PX;rw[d]<;>rfl) (XN ?_)
 exact thn m λus A ⟨vs,B,C,F,q2⟩=>hm c A k B x vs v us Q C r1 F q2
def MtM(X:Cx)(id:String)(r:V->List V->Hp->VK->Prop):Prop:=
 ∀(c:List (PZ×Qy)) (s:P6) (d:St) (H:Hp) (x:V) (xs:List V) (v:P0) (us:List P0) (Q:VK),Inv X c d H s->aN x v->ax xs us->r x xs H Q->
  Qj (QA X.prog X.w) X.A (W3 (.builtin id) (v::us)) (EP X c d Q) X.xe s
theorem ax.one:∀{x:V} {us:List P0},ax [x] us->∃u,us=[u]/\aN x u
 |_,_,.cons r .nil=>⟨_,rfl,r⟩
theorem ax.reverse{xs:List V}{us:List P0}(h:ax xs us):ax xs.reverse us.reverse:=by
 induction h with
 |nil=>exact .nil
 |cons r t ih=>rw[Vd,Vd];exact ax.append ih (.cons r .nil)
theorem ax.rep(h:ax xs us):∀k:Nat,ax (Qr k xs).flatten (Qr k us).flatten
 |0=> .nil
 |k+1=>by
  rw[RF,RF,SM,SM];exact ax.append h (ax.rep h k)
theorem rR(its:List P0):∀(k:Nat) (acc:List P0),
  YQ (λc d=>c++d) acc.toArray (Qr k its.toArray)=(acc++(Qr k its).flatten).toArray
 |0,acc=>by simp
 |k+1,acc=>by
  have e:acc.toArray++its.toArray=(acc++its).toArray:=by simp
  have f:(acc++its)++(Qr k its).flatten=acc++(Qr (k+1) its).flatten:=by
   rw[RF,SM,Ra]
  rw[←f,←rR its k (acc++its),←e,RF,List.foldl_cons]
end
section
variable{X:Cx}{pins:List (PZ×Qy)}{σ:St}{H:Hp}{s:P6}{l b:PZ}{xs ys zs:List V}
theorem Inv.lset{its its':List P0}(I:Inv X pins σ H s)(a:H l=on (.lst xs))
  (e:s.heap.get? l=on {cls:= .type "list",data:= .seq its.toArray n}) (c:f its.toArray=its'.toArray) (d:ax ys its') (g:ys.length<=Qp):
  Inv X pins σ (upd H l (.lst ys)) {s with heap:=s.heap.update l (RT f),toks:=t'}:=by
 have q:=PySem.IsL.update e f;rw[c]at q;refine I.write (x:=l) (e:=l) (by rw[a];exact trivial) (.inl rfl) (λj u h i=>(XG s.heap (RT f) (Ne.symm h)).trans i) ⟨_,q⟩ ?_;exact⟨g,its',_,d,q⟩
theorem Inv.lnew{its:List P0}(I:Inv X pins σ H s)(a:ax ys its)(c:ys.length<=Qp):
  Inv X pins σ (upd H s.heap.objs.size (.lst ys)) {s with heap:=s.heap.push {cls:= .type "list",data:= .seq its.toArray},toks:=t'}:=
 I.laid (λ_ _ q=>PU _ q) (P9 _) ⟨c,its,0,a,Qk _ rfl⟩
theorem Inv.fresh(I:Inv X pins σ H s):H s.heap.objs.size=PM:=I.hok.fresh (P9 _)
theorem Inv.lstM(I:Inv X pins σ H s)(a:H l=on (.lst xs)):xs.length<=Qp/\∃(its:List P0) (n:Nat),ax xs its/\xs.length=its.length/\s.heap.get? l=on {cls:= .type "list",data:= .seq its.toArray n}:=by
 obtain⟨z,its,n,r,e⟩:=I.hok l _ a;exact⟨z,its,n,r,r.length,e⟩
theorem CU(h:n<=Qp):UD n=PX:=by
 unfold UD;exact QL (by omega)
def v5:V->List V->Hp->VK->Prop:=λx vs H Q=>∃l xs y,x= .ref l/\vs=[y]/\H l=on (.lst xs)/\xs.length<Qp/\Q .non (upd H l (.lst (xs++[y])))
theorem gb:MtM X "list.append" v5:=by
 intro pins s σ H x vs v us Q I c d h;obtain⟨l,xs,y,rfl,rfl,a,g,q⟩:=h;cases c;obtain⟨u,rfl,f⟩:=d.one;obtain⟨z,its,n,r,i,e⟩:=I.lstM a;refine X1 F.slot_list_append ⟨_,e,rfl⟩ F.entry_list_append (Y7 _ _) (YY l its.toArray n u (by rw[Qn];omega)) ⟨e,?_⟩;refine⟨.non,_,I.lset (its':=its++[u]) a e (by simp) (r.append (.cons f .nil)) ?_,rfl,q⟩;rw[Qm,Ri];omega
noncomputable def rCat:R2:=λx y H Q=>∃l b xs zs,x= .ref l/\y= .ref b/\H l=on (.lst xs)/\H b=on (.lst zs)/\xs.length+zs.length<=Qp/\∀p,H p=PM->Q (.ref p) (upd H p (.lst (xs++zs)))
theorem Mx:OpR X (SL .Add) rCat:=by
 intro pins s σ H x y v u Q I c d h;obtain⟨l,b,xs,zs,rfl,rfl,f,hB,m,q⟩:=h;cases c;cases d;obtain⟨z,its,n,r,o,e⟩:=I.lstM f;obtain⟨p,a,t,g,i,j⟩:=I.lstM hB;refine YA e j ?_ (by rw[Qn,Qn];omega);have k:its.toArray++a.toArray=(its++a).toArray:=by simp
 rw[k];exact⟨.ref _,_,I.lnew (t':=s.toks) (r.append g) (by rw[Qm];omega),rfl,q _ I.fresh⟩
noncomputable def rRep:R2:=λx y H Q=>∃l k xs,x= .ref l/\y= .int k/\H l=on (.lst xs)/\-(2^63)<=k/\k<2^63/\xs.length*k.toNat<=Qp/\
 ∀p,H p=PM->Q (.ref p) (upd H p (.lst (Qr k.toNat xs).flatten))
theorem K4{α:Type}(xs:List α)(k:Nat):(Qr k xs).flatten.length=k*xs.length:=by
 induction k with
 |zero=>simp
 |succ k ih=>rw[RF,SM,Qm,ih,XU,Wx]
theorem Mr:OpR X (SL .Mult) rRep:=by
 intro pins s σ H x y v u Q I w A h;obtain⟨l,k,xs,rfl,rfl,B,C,J,p,q⟩:=h;cases w;obtain⟨t,rfl⟩:=A;obtain⟨z,its,n,r,L,e⟩:=I.lstM B;have d:its.toArray.size*k.toNat<=Qp:=by rw[Qn,←L];exact p
 have f:¬its.toArray.size*k.toNat>(2^63-1)/8:=by
  have:(Qp:Nat)<=(2^63-1)/8:=by decide
  omega
 have g:¬(!Builtin.List.listFitsIndex k)=PQ:=by
  rw[fitsIndex_both C J];exact P8
 have c:¬UD (its.toArray.size*k.toNat)=PQ:=by
  rw[CU d];exact P8
 have i:YQ (λj o=>j++o) #[] (Qr (if its.toArray.isEmpty=PQ then 0 else k.toNat) its.toArray)=(Qr k.toNat its).flatten.toArray:=by
  have N:∀m:Nat,YQ (λj o=>j++o) #[] (Qr m its.toArray)=(Qr m its).flatten.toArray:=λm=>by
   have:=rR its m [];rw[SJ]at this;exact this
  rw[N];cases its with
  |nil=>simp
  |cons a O=>rw[P5 (by simp)]
 refine wpAny_binaryOp_repeat_ref (T:="list") (U:="int") (by decide) ⟨_,e,rfl⟩ (λs'=>typeIs_int s' k t) noFill_list_mul F.fills_int_mul F.slot_int_rmul repeat_list F.slot_int_index.lookup
  (X1 F.slot_int_rmul (typeIs_int s k t) F.entry_int_rmul (F.args_int_rmul_2 _ _) (int___rmul___int_list k t l its.toArray n)
   ⟨e,rfl,⟨_,e,rfl⟩,X1 F.slot_list_mul ⟨_,e,rfl⟩ F.entry_list_mul (F.args_list_mul_2 _ _) (AutoListH.list___mul___list_int_3 l its.toArray n k t g f c) ⟨e,?_⟩⟩)
 rw[i];exact⟨.ref _,_,I.lnew (t':=s.toks) (r.rep k.toNat) (by rw[K4,R6];exact p),rfl,q _ I.fresh⟩
variable{prog:QG}{w:QT}{A:Q7}{E:P0->P6->Prop}
end
end L2
namespace Att
open PySem PySem.W PySem.Calls PyProof.Rows
theorem qa:∀(ns:List Int) (vs:List P0),WellAll P h vs (ns.map WData.int)->XH vs ns:=by
 intro ns
 induction ns with
 |nil=>
  intro vs w;rw[Ug]at w;cases w;exact .nil
 |cons n ns ih=>
  intro vs w;rw[Qf]at w;cases w with
  |cons a b=>
   cases a;exact .cons _ _ (ih _ b)
theorem yK{l:OpenLaw}(hn:l.most=on n){h:Rl}
  (b:l.row.toRowW.claim.pre args=PQ) (g:WellAll P h vals args):
  ∃a vs ns,vals=[Qt a]/\args=[WData.list (ns.map WData.int)]/\h.get? a=on {cls:= .type "list",data:= .seq vs.toArray}/\XH vs ns/\ns.length<=n:=by
 have hsh:WShape.hasAll [] args [.list .int]=PQ:=(pre_splitW b).1;have i:l.pre.holds [] {args:=args}=PQ:=(pre_splitW b).2;obtain⟨d,r,rfl,j,k⟩:=hasAllW_cons hsh;obtain rfl:=hasAllW_nil k;obtain⟨xs,rfl,m⟩:=hasW_list j;obtain⟨ns,rfl⟩:=items_int m;have c:ns.length<=n:=by
  unfold OpenLaw.pre at i;have e:(WTm.not (.lt (.lit (.int (n:Int))) (.len (.arg 0)))).holds [] {args:=[.list (ns.map .int)]}=PQ:=by
   have e:=(holds_andW i).1;rw[hn]at e;exact e
  have f:=condW_of e (w_not (w_lt w_lit (w_len_list (w_arg rfl))));rw[PL]at f;refine Nat.le_of_not_lt λq=>?_;have o:(n:Int)<((ns.length:Nat):Int):=by omega
  first
   |(rw[Qd o]at f;exact Qx f (by decide))
   |(simp at f;omega)
 cases g with
 |cons p t=>
  cases t;cases p with
  |list ho hall=>exact⟨_,_,ns,rfl,rfl,ho,qa ns _ hall,c⟩
theorem zd(l:OpenLaw)(args:List WData):l.row.toRowW.claim.post args (.bool PQ) args=PQ:=
 postW_of (r:=l.row.toRowW) (X:=(PQ==PQ))
  (show WShape.has [] (.bool PQ) .bool=PQ by first|rfl|decide|simp[WShape.has,WShape.arms,WShape.armsAll])
  (show(WTm.eq .res (.lit (.bool PQ))).value [] {args:=args,res:=on (.bool PQ),after:=args}=on (.bool (PQ==PQ))from w_eq_bool (w_res rfl) w_lit) rfl
theorem attach_call{l:OpenLaw}{d:DefRec}
  (hn:l.most=on n) (k:d.params.defaults=[])
  (W3:∀(w:QT) (s₀ b:P6) (mg m:QO->Option P0) (g:PZ) (o:Qy) (p cd c:P0) (a:PZ) (vs:List P0) (ns:List Int),
   Ground q loose [] XP w s₀ mg m b.heap->YP w b.heap->
   b.heap.get? g=on o->o.data= .func (docDef d.name d.params d.body d.scope p cd c)->b.heap.CodeRec cd d.name->mg d.name=on (.ref g)->
   b.heap.get? a=on {cls:= .type "list",data:= .seq vs.toArray}->XH vs ns->ns.length<=n->b.gens=#[]->
   Ui (QA l.prog w) W4 (.call (.ref g) ⟨[.ref a],[]⟩) (λr s'=>r= .ok (.ret (.bool PQ))/\OldK b.heap s'.heap/\s'.os=b.os/\Vb s'.gens) b):
  WalkO q loose XP YP l.row.toRowW d [] (λf vs=>YF f vs):=by
 intro w s₀ b mg m G Y g o p cd c B C F hd t y u H args vals as h A I v J;obtain rfl:B= .none:=Dflts.none y k;obtain rfl:C= .none:=Dflts.noKw y;obtain⟨a,vs,ns,rfl,rfl,i,e,j⟩:=yK hn h v;refine enter_call (Vf (W3 w s₀ b mg m g o p cd c a vs ns G Y F (fd_plain hd) t u i e j H) λr s' L=>?_);obtain⟨rfl,N,O,P⟩:=L;exact⟨.inl ⟨.bool PQ,.bool PQ,[],rfl,λ_=>rfl,.bool PQ,zd l _,λ_=>⟨UA,λ_ hm=>(nomatch hm)⟩⟩,N,O,P⟩
section
variable{prog:QG}{w:QT}{A:Q7}{E:P0->P6->Prop}{s:P6}{K:Qo}
end
end Att
namespace L2
open PySem PySem.Spec PyProof.Rows
theorem rf:∀{vs:List P0} {ns:List Int},XH vs ns->ax (ns.map V.int) vs
 |_,_,.nil=> .nil
 |_,_,.cons n t h=> .cons ⟨t,rfl⟩ (rf h)
def HB(H:Hp):Prop:=∀b,H b=PM\/∃o xs,H b=on (.frz o (.lst xs))
theorem DO{K:Qo}{c:P6}{vs:List P0}{ns:List Int}
  (R:K.In c.heap) (p:c.heap.Ns Sj mg) (g:c.heap.Ns X0 mb) (I:∀x:QO,x≠"__name__"->mb x=T5 x) (t:c.heap.NoLimit) (hg:c.gens=#[])
  (ha:c.heap.get? a=on {cls:= .type "list",data:= .seq vs.toArray}) (T:XH vs ns) (U:ns.length<=Qp) (hr:Room k W4)
  (F:∀base:Rl,K.In base->base.Ns Sj mg->FnOk P w K mg base CX k fa fd [x] sp) (l:∀(s:P6) (u:P0),Wo s fd ⟨[u],[]⟩ [(x,u)])
  (J:∀H:Hp,HB H->SqL K H a (ns.map V.int)->sp [.ref a] H (λv _=>v= .bl PQ) λ_ _ _=>False)
  (L:∀H e s',CX [] H c (λ_ _ _=>False) e s'->False):
  Ui (QA P w) W4 (.call (.ref fa) ⟨[.ref a],[]⟩) (λr s'=>r= .ok (.ret (.bool PQ))/\OldK c.heap s'.heap/\s'.os=c.os/\Vb s'.gens) c:=by
 have W:=rf T;have y:=T.length
 --from an abstract heap in which nothing but the script may be tracked
 have j:∀H:Hp,HB H->SqL K H a (ns.map V.int)->HOk P w H c.heap->(∀b,H b≠PM->b=a)->(H a≠PM->K.lookup a=PM)->
   Ui (QA P w) W4 (.call (.ref fa) ⟨[.ref a],[]⟩) (λr s'=>r= .ok (.ret (.bool PQ))/\OldK c.heap s'.heap/\s'.os=c.os/\Vb s'.gens) c:=by
  intro H X hS hok Y hK;have f:∀{b:PZ} {o:Qy},c.heap.get? b=on o->H b=PM->(lE c.heap H).get? b=on o:=λe n=>DY e n;have N:∀{b:PZ} {o:Qy} {es:Array T3} {ep:Nat},c.heap.get? b=on o->o.data= .dict es ep->H b=PM:=λ{b o es ep} e d=>by
   cases q:H b with
   |none=>rfl
   |some u=>
    have O:b=a:=Y b (by rw[q];simp);subst O;rw[ha]at e;cases e;have d':Data.seq vs.toArray _=Data.dict es ep:=d;cases d'
  have i:∀{b:PZ} {m:QO->Option P0},c.heap.Ns b m->(lE c.heap H).Ns b m:=λ{b m} ⟨o,es,ep,e,d,r⟩=>⟨o,es,ep,f e (N e d),d,r⟩;have A:K.In (lE c.heap H):=λb o e=>f (R b o e) (by
   cases q:H b with
   |none=>rfl
   |some u=>
    have O:b=a:=Y b (by rw[q];simp);subst O;rw[hK (by rw[q];simp)]at e;cases e)
  have hM:Mod K mg (lE c.heap H):=⟨A,i p,⟨mb,i g,I⟩,let ⟨mc,h1,h2⟩:=t;⟨mc,i h1,h2⟩⟩
  have e0:Env0 P w K mg (lE c.heap H) W4 [] c H:=⟨rfl,hM,λb o e=>KQ e,Nat.le_of_eq (z9 _ _),trivial,λb g=>Qx (show b∈([]:List PZ)from g) (by simp),hok,.of_eq hg⟩;refine Vf ((F _ A (i p)).run W4 [] c H ⟨[.ref a],[]⟩ [.ref a] [.ref a] _ _ hr e0 (l c (.ref a)) (.cons rfl .nil) (J H X hS)) λr s' h=>?_;cases r with
  |error e=>exact(L H e s' h).elim
  |ok fl=>
   cases fl with
   |next=>exact SD h
   |brk=>exact SD h
   |cont=>exact SD h
   |ret u=>
    obtain⟨v,H',os,bare,un,B,r',q⟩:=h;have q':v= .bl PQ:=q;subst q';obtain rfl:u=Vy PQ:=r';refine⟨rfl,OldK.of_keep λb o e=>?_,os,bare⟩;cases q:H b with
    |none=>exact un.keep b o e q (by intro z;exact Qx (show b∈([]:List PZ)from z) (by simp)) (by simp)
    |some u=>
     rcases X b with z|⟨ob,xs,z⟩
     ·rw[q]at z;cases z
     ·have z2:=un.frzs b ob _ z
      obtain⟨Z,_⟩:=hok b _ z;obtain⟨e2,_⟩:=B b _ z2;rw[e]at Z;cases Z;exact e2
 cases Q:K.lookup a with
 |some o=>
  --the script is one of the module's own objects
  have e:=R a o Q;rw[ha]at e;cases e;refine j (λ_=>PM) (λ_=> .inl rfl) (.inr ⟨_,vs.toArray,_,Q,rfl,rfl,rfl,by rw[Qn,y];exact U,by simpa using W⟩) (λb u z=>by have C:(PM:Option HO)=on u:=z;cases C) (λb z=>Qx rfl z) λz=>Qx rfl z
 |none=>
  refine j (λb=>if b=a then on (.frz {cls:= .type "list",data:= .seq vs.toArray} (.lst (ns.map V.int)))else PM) (λb=>?_) (.inl (.inr ⟨{cls:= .type "list",data:= .seq vs.toArray},P7 rfl⟩)) (λb u z=>?_) (λb z=>?_) λ_=>Q
  ·by_cases g:b=a
   ·exact .inr ⟨_,_,P7 g⟩
   ·exact .inl (P5 g)
  ·by_cases g:b=a
   ·have C:=(P7 g).symm.trans z
    cases C;subst g;exact⟨ha,by rw[PL];exact U,vs,_,W,ha⟩
   ·have C:=(P5 g).symm.trans z
    cases C
  ·by_cases g:b=a
   ·exact g
   ·exact Qx (P5 g) z
theorem walk_of{l:PySem.W.OpenLaw}{n k:Nat}{q:QG}{loose:List QO}{XP:(QO->Option P0)->Rl->Prop}{YP:QT->Rl->Prop}{d:DefRec}{K:Xj->Qo}{CX:QT->CXT}{sp:QT->Sp}{x:QO}
  (hn:l.most=on n) (r:n<=Qp) (t:d.params.defaults=[]) (J:Room k W4)
  (L:∀(w:QT) (h:Rl),YP w h->(K w.params).In h)
  (F:∀(w:QT) (mg:QO->Option P0) (p:PZ) (h:Rl),(K w.params).In h->h.Ns Sj mg->mg d.name=on (.ref p)->
   ∃B:Qu,(∀(s:P6) (u:P0),Wo s B ⟨[u],[]⟩ [(x,u)])/\
    ∀base:Rl,(K w.params).In base->base.Ns Sj mg->FnOk l.prog w (K w.params) mg base (CX w) k p B [x] (sp w))
  (y:∀(w:QT) (H:Hp) (a:PZ) (ns:List Int),ns.length<=n->HB H->SqL (K w.params) H a (ns.map V.int)->sp w [.ref a] H (λv _=>v= .bl PQ) λ_ _ _=>False)
  (A:∀(w:QT) (H:Hp) (s:P6) (e:P0) (s':P6),CX w [] H s (λ_ _ _=>False) e s'->False):
  PySem.W.WalkO q loose XP YP l.row.toRowW d [] (λf vs=>YF f vs):=by
 refine Att.attach_call hn t λw s₀ j mg X p o Z cd N a vs ns G Y ho hd O C m i c P=>?_;have I:=L w _ Y;obtain⟨B,Q,hF⟩:=F w mg p _ I G.T.g C;exact DO I G.T.g G.T.b G.T.builtins G.T.nolimit P m i (Qs c r) J hF Q (λH R U=>y w H a ns c R U) λH e s'=>A w H j e s'
noncomputable def aF(s:Q9)(j:Nat):Q9:=match s with
 | .ClassDef _ _ _ body _ _ _ _ _ _ _=>body.getD j (.Pass ⟨0,0,0,0⟩)
 |_=> .Pass ⟨0,0,0,0⟩
noncomputable def iZ(s:Q9):Arguments:=match s with
 | .FunctionDef _ a _ _ _ _ _ _ _ _=>a
 |_=>{posonlyargs:=[],args:=[],vararg:=PM,kwonlyargs:=[],kw_defaults:=[],kwarg:=PM,defaults:=[]}
noncomputable def cQ(s:Q9):List Q9:=match s with
 | .FunctionDef _ _ b _ _ _ _ _ _ _=>b
 |_=>[]
noncomputable def ag(s:Q9):Scope:=match s with
 | .FunctionDef _ _ _ _ _ _ sc _ _ _=>sc
 |_=>{kind:= .function,names:=[],isGenerator:=PX,isCoroutine:=PX}
abbrev E0:St->XK:=λ_ _ _ _=>False
structure Fun (K:Qo) (x qual:QO) (st:Q9) (f:PZ) (fd:Qu):Prop where
 ex:∃(oc:P0) (od:Option PZ) (kV doc pm:P0) (an:Option PZ) (cdv ct:P0) (osl:Array (Option P0)),
  fd=Ua x qual (iZ st) (cQ st) (ag st) .none kV doc pm an cdv ct/\K.lookup f=on ⟨oc,od,.func fd,osl⟩/\UI K cdv qual=PQ
 kp:Vr K (.ref f)=PQ
section
variable{P:QG}{w:QT}{K:Qo}{mg:QO->Option P0}{base:Rl}
theorem sR{A:Q7}(a:Room k A):A.units+1<Va:=RM (V7 (by decide:1<=64) _) a.units
theorem rA(h:n<=1000):n<Qp:=RM h (by decide)
variable{X:Cx}
theorem pv(i:Nat)(b:X.N[i]?=on x:=by rfl)(c:Vis X.env.scope x:=by first|exact RH rfl|exact Sw (RH rfl)|exact Sw (Sw rfl))(hd:(x==("__debug__":QO))=PX:=by decide)
  (a:(x==("__classdict__":QO))=PX:=by decide):PE X (.Name x pos) (qA i):=Mh b c hd a
theorem iteT{A B:Prop}(h:A):if PQ=PQ then A else B:=by
 rw[P7 rfl];exact h
theorem ite2{c A B:Prop} [Decidable c](a:c->A)(b:¬c->B):if c then A else B:=by
 by_cases h:c
 ·rw[P7 h]
  exact a h
 ·rw[P5 h]
  exact b h
def bQ(H a:Hp):Prop:=∀b o,H b=on o->a b=on o
theorem bQ.refl(H:Hp):bQ H H:=λ_ _ h=>h
theorem bQ.trans(a:bQ H H1)(b:bQ H1 H2):bQ H H2:=λc o h=>b c o (a c o h)
theorem bQ.free(e:bQ H H')(h:H' l=Option.none):H l=Option.none:=by
 cases q:H l with
 |none=>rfl
 |some o=>
  rw[e l o q]at h;cases h
theorem dy:∀(names:List (QO×TR)) (n:Nat) (acc:List (QO×PZ)),RU n names acc=RU n names []++acc
 |[],_,_=>rfl
 |(x,k)::r,n,acc=>by
  unfold RU;split
  ·rw[dy r (n+1) ((x,n)::acc),dy r (n+1) [(x,n)],Ra]
   rfl
  ·exact dy r n acc
theorem im:∀{names:List (QO×TR)} {n:Nat} {x:QO} {c:PZ},(x,c)∈RU n names []->(x,WU)∈names
 |[],_,_,_,h=>by cases h
 |(y,k)::r,n,x,c,h=>by
  unfold RU at h;split at h
  ·rename_i a
   rw[dy]at h;rcases RC.mp h with h|h
   ·exact PR _ (im h)
   ·obtain⟨rfl,_⟩:x=y/\c=n:=by simpa using h
    obtain rfl:k= .cell:=by simpa using a
    exact P3
  ·exact PR _ (im h)
noncomputable def de(cells:List (QO×PZ)):List (QO×TR)->List (QO×PZ)->List (QO×PZ)
 |[],acc=>acc
 |(x,k)::r,acc=>if k== .free then de cells r ((x,(cells.lookup x).getD 0)::acc)else de cells r acc
theorem mem_cloF{cells:List (QO×PZ)}:∀{names:List (QO×TR)} {acc:List (QO×PZ)} {x:QO} {c:PZ},(x,c)∈de cells names acc->(x,c)∈acc\/((x,SI)∈names/\c=(cells.lookup x).getD 0)
 |[],_,_,_,h=> .inl h
 |(y,k)::r,acc,x,c,h=>by
  unfold de at h;split at h
  ·rename_i a
   obtain rfl:k= .free:=by simpa using a
   rcases mem_cloF h with h|⟨h,e⟩
   ·rcases Qh.mp h with h|h
    ·cases h
     exact .inr ⟨P3,rfl⟩
    ·exact .inl h
   ·exact .inr ⟨PR _ h,e⟩
  ·rcases mem_cloF h with h|⟨h,e⟩
   ·exact .inl h
   ·exact .inr ⟨PR _ h,e⟩
theorem oW:∀{names:List (QO×TR)} {acc:List (QO×PZ)} {p:QO×PZ},p∈acc->p∈de cells names acc
 |[],_,_,h=>h
 |(y,k)::r,acc,p,h=>by
  unfold de;split
  ·exact oW (PR _ h)
  ·exact oW h
theorem oV{cells:List (QO×PZ)}:∀{names:List (QO×TR)} {acc:List (QO×PZ)} {x:QO},(x,SI)∈names->(x,(cells.lookup x).getD 0)∈de cells names acc
 |[],_,_,h=>by cases h
 |(y,k)::r,acc,x,h=>by
  unfold de;rcases Qh.mp h with h|h
  ·cases h
   rw[P7 (by decide)];exact oW P3
  ·split
   ·exact oV h
   ·exact oV h
theorem lT{α:Type}:∀{l:List (QO×α)} {x:QO} {c:α},(x,c)∈l->∃d,l.lookup x=on d
 |[],_,_,h=>by cases h
 |(y,d)::r,x,c,h=>by
  rw[Vu];cases a:x==y with
  |true=>exact⟨d,rfl⟩
  |false=>
   rcases Qh.mp h with h|h
   ·cases h
    simp at a
   ·exact lT h
theorem c8{α:Type}:∀{l:List (QO×α)} {x:QO} {c:α},(l.map (·.1)).Nodup->(x,c)∈l->l.lookup x=on c
 |[],_,_,_,h=>by cases h
 |(y,d)::r,x,c,nd,h=>by
  rw[Qf]at nd;obtain⟨a,b⟩:=QR.mp nd;rw[Vu];rcases Qh.mp h with h|h
  ·cases h
   simp
  ·have:x≠y:=λe=>a (e▸List.mem_map_of_mem (f:=(·.1)) h)
   rw[beq_eq_false_iff_ne.mpr this];exact c8 b h
theorem qY{env:WY}(f:QO×TR->List (QO×PZ)->Sem (ForInStep (List (QO×PZ))))
  (g:∀name kind cs,f (name,kind) cs=if kind== .free then(do let a ←cellOf env name;SB (.yield ((name,a)::cs)))else SB (.yield cs)):
  ∀(names:List (QO×TR)) (acc:List (QO×PZ)),(∀y∈names,y.2= .free->∃c,env.cells.lookup y.1=on c)->forIn names acc f=SB (de env.cells names acc)
 |[],_,_=>by rw[Ts];rfl
 |(x,k)::r,acc,h=>by
  rw[Td,g];unfold de;have i:∀y∈r,y.2= .free->∃c,env.cells.lookup y.1=on c:=λy j=>h y (PR _ j);by_cases b:(k==SI)=PQ
  ·rw[P7 b,P7 b]
   obtain⟨c,l⟩:=h (x,k) P3 (by simpa using b);have d:env.cells.lookup x=on c:=l;have e:cellOf env x=SB c:=by unfold cellOf;rw[d]
   rw[e,d];simp only[pure_bind];exact qY f g r _ i
  ·rw[P5 b,P5 b]
   simp only[pure_bind];exact qY f g r _ i
theorem x3{scope:Scope}{env:WY}(h:∀y∈scope.names,y.2= .free->∃c,env.cells.lookup y.1=on c):closureFor scope env=SB (de env.cells scope.names []):=by
 simp only[closureFor];rw[qY (env:=env) _ (λname kind cs=>by cases a:kind==SI<;>simp[a]) scope.names [] h]
 rfl
theorem EF{M:Model}{E:P0->P6->Prop}{s:P6}{scope:Scope}
  (f:∀h':Rl,h'.Ns s.heap.objs.size (λ_=>PM)->(∀b o,s.heap.get? b=on o->h'.get? b=on o)->
   (∀n c,(n,c)∈RU (s.heap.objs.size+1) scope.names []->h'.IsCell c PM/\s.heap.objs.size+1<=c)->
   ((RU (s.heap.objs.size+1) scope.names []).Pairwise λx y=>x.2≠y.2)->
   Q (newEnv scope s.heap.objs.size globals (RU (s.heap.objs.size+1) scope.names cl) qual PM .none (on env) X0) {s with heap:=h'}):
  Qj M A (X8 scope globals cl [] qual PM .none (on env)) Q E s:=by
 simp only[X8,Option.isSome_some,Q4];refine My (wpAny_alloc ?_);refine My (wpAny_layCells _ (λname kind cells=>by cases a:kind==WU<;>simp[a]) _ _ _ _ ?_)
 have ok:=cellsFrom_ok scope.names (s.heap.push {cls:= .type "dict",data:= .dict #[]}) (s.heap.objs.size+1) [] ⟨λ_ _ hm=>(nomatch hm),UA⟩ (by rw[RJ];exact P9 _);rw[RJ]at ok;rw[show({s with heap:=s.heap.push {cls:= .type "dict",data:= .dict #[]}}:P6).heap.objs.size=s.heap.objs.size+1 from RJ ..];have d:=f (pushCells (s.heap.push {cls:= .type "dict",data:= .dict #[]}) scope.names) ((Heap.Ns.new s.heap (.type "dict")).keeps (pushCells_keeps _ _)) (λb o e=>pushCells_keeps _ _ b o (PU _ e)) ok.empty ok.apart;exact My (PN (PN d))
noncomputable abbrev aG(X:Cx)(a:List QO)(scope:Scope)(cl:List (QO×PZ))(C:PZ)(b:List PZ)(s:P6)(H:Hp):Cx:=
 {X with N:=a,s₀:=s,H₀:=H,env:=compEnvC scope cl C X.env,outer:=X.stack,stack:=X.stack,ex:=b,fn:=λx=>scope.names.lookup x !=on .free,pn:=[],xe:=λ_ _=>False}
theorem mem_relabel{scope:Scope}{y:QO×TR}(h:y∈(relabel scope env).names):y∈scope.names\/(y.2= .cell/\(y.1,SI)∈scope.names):=by
 obtain⟨⟨n,k⟩,hm,e⟩:=Qc.mp h
 dsimp only at e
 split at e
 ·rename_i a
  cases e;simp only[QJ,TU]at a;obtain⟨⟨a,_⟩,_⟩:=a;subst a;exact .inr ⟨rfl,hm⟩
 ·cases e
  exact .inl hm
theorem DV{X:Cx}{R:St}{s:P6}{Nc vars:List QO}{caps:List Nat}{scope:Scope}{h':Rl}(I:Inv X pins R H s)
  (hk:scope.kind= .function) (g:(scope.names.map (·.1)).Nodup) (f:∀y∈scope.names,y.2= .free->X.env.kindOf y.1=on .cell\/X.env.kindOf y.1=on .free)
  (T:Nc=vars++caps.map (λj=>X.N.getD j TM)) (U:∀j∈caps,j<X.N.length/\scope.names.lookup (X.N.getD j TM)=on .free)
  (F:∀b∈fp,fG X pins H b) (W:∀b∈fp,∃o,s.heap.get? b=on o) (ns:h'.Ns s.heap.objs.size λ_=>PM) (keep:∀b o,s.heap.get? b=on o->h'.get? b=on o)
  (O:∀n c,(n,c)∈RU (s.heap.objs.size+1) scope.names []->h'.IsCell c PM/\s.heap.objs.size+1<=c) (ca:(RU (s.heap.objs.size+1) scope.names []).Pairwise λx y=>x.2≠y.2):
  Inv (aG X Nc scope (RU (s.heap.objs.size+1) scope.names (de X.env.cells scope.names [])) s.heap.objs.size fp s H) [] (Qr vars.length PM++caps.map (λj=>R.getD j PM)) H {s with heap:=h'}:=by
 --the cells
 have old:∀{x:QO} {c:PZ},(x,c)∈de X.env.cells scope.names []->X.env.cells.lookup x=on c/\(x,SI)∈scope.names:=λ{x c} h=>by
  rcases mem_cloF h with h|⟨hm,e⟩
  ·cases h
  ·obtain⟨d,hd⟩:=I.ok.has x (f _ hm rfl)
   rw[hd]at e;exact⟨by rw[hd,e];rfl,hm⟩
 have a:∀{x:QO} {c:PZ},(RU (s.heap.objs.size+1) scope.names (de X.env.cells scope.names [])).lookup x=on c->
   (x,c)∈RU (s.heap.objs.size+1) scope.names []\/(X.env.cells.lookup x=on c/\(x,SI)∈scope.names):=λ{x c} h=>by
  have h:=Rr h;rw[dy]at h;rcases RC.mp h with h|h
  ·exact .inl h
  ·exact .inr (old h)
 have freeC:∀{x:QO},(x,SI)∈scope.names->∃c,X.env.cells.lookup x=on c/\(RU (s.heap.objs.size+1) scope.names (de X.env.cells scope.names [])).lookup x=on c:=λ{x} hm=>by
  obtain⟨d,hd⟩:=I.ok.has x (f _ hm rfl);have e:=oV (cells:=X.env.cells) (acc:=[]) hm;obtain⟨c,Q⟩:=lT (l:=RU (s.heap.objs.size+1) scope.names (de X.env.cells scope.names [])) (x:=x) (c:=(X.env.cells.lookup x).getD 0) (by rw[dy];exact QW _ e);rcases a Q with z|⟨z,_⟩
  ·have B:=c8 g (im z)
   rw[c8 g hm]at B;cases B
  ·exact⟨c,z,Q⟩
 have k:∀{x:QO} {c:PZ},X.env.cells.lookup x=on c->c<s.heap.objs.size:=λ{x c} h=>let ⟨v,q⟩:=I.cell x c h;q.lt
 have nofr:H s.heap.objs.size=PM:=I.hok.fresh (P9 _);have Y:∀b∈frs X.stack,b∈X.env.locals::X.fs:=I.stkSub;refine⟨⟨I.ok.mod,hk,I.ok.glob,I.ok.blt,P9 _,λx y c h1 h2=>?_,λx hx=>?_,λx c hf h=>?_,I.ok.hd,I.ok.frames,.inl rfl,λb J=>⟨?_,λx c h e=>?_⟩,I.bs,Qs I.ok.bsz I.sz,λb o e J=>?_,λb J hf=>?_,I.stack,I.stkFree⟩,
  rfl,I.bare,Un.kept keep,⟨_,ns,λi x v e1 A e3=>?_⟩,λx c h=>?_,nofr,λx c h=>?_,λp hp=>Qx hp (by simp),I.hok.kept keep,?_⟩
 ·rcases a h1 with B|⟨B,_⟩<;>rcases a h2 with Z|⟨Z,_⟩
  ·exact name_of_addr ca B Z
  ·exact Qx (Qv (k Z) (Qs (Vl _) (O _ _ B).2)) (Q0 _)
  ·exact Qx (Qv (k B) (Qs (Vl _) (O _ _ Z).2)) (Q0 _)
  ·exact I.ok.inj _ _ _ B Z
 ·--has
  have hx:(relabel scope X.env).names.lookup x=on .cell\/(relabel scope X.env).names.lookup x=on .free:=hx;have hm:(x,WU)∈scope.names\/(x,SI)∈scope.names:=by
   rcases hx with hx|hx
   ·rcases mem_relabel (Rr hx)with z|⟨_,z⟩
    ·exact .inl z
    ·exact .inr z
   ·rcases mem_relabel (Rr hx)with z|⟨_,z⟩
    ·exact .inr z
    ·exact .inr z
  rcases hm with hm|hm
  ·have q:=X2 scope.names (s.heap.objs.size+1) (de X.env.cells scope.names []) (x:=x) (.inl (c8 g hm))
   exact Xe.mp q
  ·obtain⟨c,_,Q⟩:=freeC hm
   exact⟨c,Q⟩
 ·--cab
  rcases a h with z|⟨_,z⟩
  ·exact Qs (Vl _) (O _ _ z).2
  ·have z':(scope.names.lookup x !=on .free)=PQ:=hf
   rw[c8 g z]at z';exact Qx z' (by decide)
 ·obtain⟨o,e⟩:=W b J
  exact Q1 (Qz e)
 ·rcases a h with z|⟨z,_⟩
  ·obtain⟨o,e'⟩:=W b J
   subst e;exact Qx (Qv (Qz e') (Qs (Vl _) (O _ _ z).2)) (Q0 _)
  ·exact(F b J).2.2.2.2.1 x c z e
 ·obtain⟨_,_,_,h4,_⟩:=F b J
  rcases h4 with z|z
  ·exact I.ok.noex b o e z
  ·exact Qx (Qv (Qz (I.ok.bs b o e).1) z) (Q0 _)
 ·obtain⟨_,h2,h3,_⟩:=F b J
  rcases Qh.mp (Y b hf)with z|z
  ·exact h2 z
  ·exact h3 z
 ·--the names' values
  have hi:¬i<vars.length:=λhi=>by
   rw[Rz (by simpa using hi),Sx]at A;split at A<;>cases A
  have L:(vars++caps.map (λj=>X.N.getD j TM))[i]?=on x:=by rw[←T];exact e1
  rw[Ru (by omega)]at L;rw[Ru (by simpa using hi)]at A;rw[RV]at A;cases q:caps[i-vars.length]? with
  |none=>rw[PY,q]at A;cases A
  |some j=>
   rw[PY,q]at L A;have C:X.N.getD j TM=x:=QB L;have e2':R.getD j PM=on v:=QB A;obtain⟨hj,t⟩:=U j (Qi q);rw[C]at t;obtain⟨c,Q,hc'⟩:=freeC (Rr t);have hNj:X.N[j]?=on x:=by
    rw[←C,PV,PP hj];rfl
   have hσj:R[j]?=on (on v):=by
    have hl:j<R.length:=by rw[I.len];exact hj
    rw[PV,PP hl]at e2';rw[PP hl];exact Rh on e2'
   have hkx:=f _ (Rr t) rfl;obtain⟨m,hn,hl⟩:=I.loc;obtain⟨u,r,l⟩:=hl j x v hNj hσj (hkx.elim (λz=> .inr (.inl z)) λz=> .inr (.inr z));refine⟨u,r,.inr ⟨?_,c,hc',?_⟩⟩
   ·rcases e3 with z|z|z
    ·exfalso
     rcases mem_relabel (Rr z)with y|⟨y,_⟩
     ·rw[c8 g y]at t;cases t
     ·cases y
    ·exact .inl z
    ·exact .inr z
   ·rcases l with⟨l,_⟩|⟨_,c',e,z⟩
    ·exfalso
     rcases hkx with y|y
     ·have y':X.env.kindOf x=on .cell:=y
      rw[l]at y';cases y'
     ·have y':X.env.kindOf x=on .free:=y
      rw[l]at y';cases y'
    ·rw[Q]at e
     cases e;exact z.keeps keep
 ·rcases a h with z|⟨z,_⟩
  ·exact⟨PM,(O _ _ z).1⟩
  ·obtain⟨v,q⟩:=I.cell x c z
   exact⟨v,q.keeps keep⟩
 ·rcases a h with z|⟨z,_⟩
  ·exact I.hok.fresh (Qs (Vl _) (O _ _ z).2)
  ·exact I.freeC x c z
 ·show _=Nc.length
  rw[T,Qm,Qm,RV,PL,PL]
abbrev TB:=St->Hp->(St->Hp->Prop)->Prop
inductive CKd where
 |L (e:Expr)|S (e:Expr)|D (k v:Expr)
instance:Coe Expr CKd:=⟨.L⟩
noncomputable def mkC(c:CKd)(gens:List RO)(scope:Scope)(pos:UE):Expr:=match c with
 | .L e=> .ListComp e gens scope pos
 | .S e=> .SetComp e gens scope pos
 | .D k v=> .DictComp k v gens scope pos
noncomputable def emC(c:CKd)(acc:P0)(env:WY):Sem Unit:=match c with
 | .L e=>do let _ ←W3 (.builtin "list.append") [acc,←Rk e env]
 | .S e=>do let v ←Rk e env;T6 e.pos;let _ ←W3 (.builtin "set.add") [acc,v]
 | .D k v=>do
   let kv ←Rk k env
   let vv ←Ux [kv] (Rk v env)
   match acc with
   | .ref d=>do
    T6 {k.pos with endLine:=v.pos.endLine,endCol:=v.pos.endCol}
    Ux [kv,vv] (dictSet d kv vv)
   |_=>unsupported "internal:dictcomp"
noncomputable def h9(c:CKd)(gens:List RO)(scope:Scope)(pos:UE)(d:Nat)(acc:P0)(env:WY)(k:Sem Vp):Sem Vp:=
 match gens[d+1]? with
 |some g'=>do
  let x ←Rk g'.iter env
  T6 g'.iter.pos
  let x ←if g'.is_async !=0 then foldedIterable g'.iter x else QX g'.iter env x
  let _ ←runOwn (.compStart (mkC c gens scope pos) (d+1) (←Ux [x] (if g'.is_async !=0 then asyncIter x else Wj x)) acc env) env
  k
 |none=>do
  emC c acc env
  k
theorem vh{a b:Expr}(e:gens[d]?=on ⟨a,b,ifs,0⟩):
  compTurn (mkC c gens scope pos) d it acc env=(do
   T6 b.pos
   match ←Uy it with
   |none=>SB (.done .next)
   |some v=>
    U8 a it v
    U6 a env v
    let mut ok:=PQ
    for y in ifs do
     if ok then ok ←isTrue y env (Rk y env)
    if ok then h9 c gens scope pos d acc env (Xv (.compLoop (mkC c gens scope pos) d it acc env))
    else Xv (.compLoop (mkC c gens scope pos) d it acc env)):=by
 cases c<;>(
  unfold compTurn h9 mkC emC
  dsimp only
  rw[e]
  dsimp only
  cases gens[d+1]?<;>rfl)
variable{prog:QG}{A:Q7}{R:Result->P6->Prop}{s:P6}
theorem DH(F:gens[d]?=on ⟨target,iter,ifs,0⟩)(I:Nat->P6->Prop)
  (q:∀n s,I n s->Qj (QA prog w) A (Uy it) (λr a=>match r with
   |none=>R (.ok .next) a
   |some v=>Qj (QA prog w) A (U8 target it v) (λ_ b=>Qj (QA prog w) A (U6 target env v) (λ_ j=>
    Qj (QA prog w) A (forIn ifs PQ λy r=>if r=PQ then do let ok ←isTrue y env (Rk y env);SB (Vi ok)else SB (Vi r)) (λok g=>
     if ok=PQ then ∀(k:Sem Vp) (B:Vp->P6->Prop) (C:P0->P6->Prop),(∀i m,m<n->I m i->Qj (QA prog w) A k B C i)->Qj (QA prog w) A (h9 c gens scope pos d acc env k) B C g
     else ∃m,m<n/\I m g) (λ_ _=>False) j) (λ_ _=>False) b) (λ_ _=>False) a) (λ_ _=>False) s)
  (n:Nat) (h:I n s):
  Ui (QA prog w) A (.compLoop (mkC c gens scope pos) d it acc env) R s:=by
 refine codeAny_loop rfl I (λn s hI=>?_) n h
 suffices z:Qj (QA prog w) A ((compTurn (mkC c gens scope pos) d it acc env).onRaise (λx=>do noteFrame x env;theTreesLotGoes x)) (λu s'=>match u with
   |Fin.done f=>R (R1 f) s'
   |Fin.again c'=>c'=Code.compLoop (mkC c gens scope pos) d it acc env/\∃m,m<n/\I m s') (λe s'=>R (Except.error e) s') s by cases c<;>exact z
 refine wpAny_noted ?_;rw[vh F];refine My (SF (My (Q2 (q n s hI) (λr a l=>?_) λ_ _ h'=>h'.elim)));cases r with
 |none=>exact PN l
 |some v=>
  refine My (Q2 l (λ_ b p=>?_) λ_ _ h'=>h'.elim);refine My (Q2 p (λ_ j t=>My (Q2 t (λok g o=>?_) λ_ _ h'=>h'.elim)) λ_ _ h'=>h'.elim);cases ok with
  |false=>exact PN ⟨rfl,o⟩
  |true=>exact o _ _ _ λi m hm hI=>PN ⟨rfl,m,hm,hI⟩
theorem yE(j:gens[d]?=on ⟨target,iter,ifs,0⟩)
  (i:Ui (QA prog w) A (.compLoop (mkC c gens scope pos) d it acc env) R s)
  (h:Qj (QA prog w) A (Wj it) (λa s'=>Ui (QA prog w) A (.compLoop (mkC c gens scope pos) d a acc env) R s') (λ_ _=>False) s):
  Ui (QA prog w) A (.compStart (mkC c gens scope pos) d it acc env) R s:=by
 refine codeAny_of_tree ?_
 suffices z:Qj (QA prog w) A ((compStart (mkC c gens scope pos) d it acc env).onRaise (λx=>do noteFrame x env;T6 theWindowsPlace)) (λg s'=>match g with
   |Fin.done f=>R (R1 f) s'
   |Fin.again c'=>c'.quiet=PQ/\Ui (QA prog w) A c' R s') (λe s'=>R (Except.error e) s') s by cases c<;>exact z
 refine wpAny_notedAt ?_;unfold compStart;have b:(clausesOf (mkC c gens scope pos))[d]?=on ⟨target,iter,ifs,0⟩:=by cases c<;>exact j
 generalize (clausesOf (mkC c gens scope pos))[d]?=og at b⊢;subst b;show Qj _ _ (ask>>=_) _ _ s;refine My (UM (wpAny_ite ?_));split
 ·first
   |exact My (PN (PN (XE rfl i)))
   |exact PN (XE rfl i)
 ·first
   |exact My (TX (My (SF (My (Q2 h (λa s' h'=>PN (XE rfl h')) λ_ _ x=>x.elim)))))
   |(refine My (TX ?_);show Qj _ _ (T6 iter.pos>>=_) _ _ s;exact My (SF (My (Q2 h (λa s' h'=>PN (XE rfl h')) λ_ _ x=>x.elim))))
def dR(X:Cx)(b:List Expr)(t:TT):Prop:=
 ∀(a:List (PZ×Qy)) (s:P6) (d:St) (H:Hp) (Q:Bool->Hp->Prop),Inv X a d H s->t d H Q->
  Qj (QA X.prog X.w) X.A (forIn b PQ λc r=>if r=PQ then do let ok ←isTrue c X.env (Rk c X.env);SB (Vi ok)else SB (Vi r)) (TP X a d Q) X.xe s
noncomputable def LK:TT:=λ_ H Q=>Q PQ H
theorem uk{X:Cx}:dR X [] LK:=λ_ _ _ H _ I h=>PN ⟨H,I,h⟩
theorem CI{X:Cx}(d:PT X c t):dR X [c] t:=λa s e H Q I h=>by
 simp only[Td,Ts,Q4];exact My (My (Q2 (d a s e H Q I h) (λb s' f=>PN (PN f)) λ_ _ x=>x))
def PB(X:Cx)(c:CKd)(gens:List RO)(scope:Scope)(pos:UE)(d:Nat)(D:PZ)(t:TB):Prop:=
 ∀(a:List (PZ×Qy)) (s:P6) (e:St) (H:Hp) (Q:St->Hp->Prop),Inv X a e H s->t e H Q->
  ∀(k:Sem Vp) (f:Vp->P6->Prop) (g:P0->P6->Prop),(∀s' b h,Inv X a b h s'->Q b h->Qj (QA X.prog X.w) X.A k f g s')->Qj (QA X.prog X.w) X.A (h9 c gens scope pos d (.ref D) X.env k) f g s
def db(J:It)(g:TG)(tt:TT)(j:TB):TB:=λc H Q=>∃W:Nat->Nat->St->Hp->Prop,(∃m,W 0 m c H)/\∀i m c H,W i m c H->
 (J.stop i H/\Q c H)\/(J.go i H/\∃N:St->Hp->Prop,(∀d e,N d e->∃f,f<m/\W (i+1) f d e)/\∀x e,J.yld i H x e->g x c e λa k=>tt a k λb h=>if b=PQ then j a h N else N a h)
def x9(D:PZ)(c:TE):TB:=λa H Q=>c a H λv b=>∃xs,b D=on (.lst xs)/\xs.length<Qp/\Q a (upd b D (.lst (xs++[v])))
def x8(b:TI)(c:It->TB):TB:=λa H Q=>b a H λJ d=>c J a d Q
variable{c:CKd}{elt target iter:Expr}{ifs:List Expr}{gens:List RO}{scope:Scope}{pos:UE}{d:Nat}{D:PZ}
theorem rX(hg:gens[d]?=on ⟨target,iter,ifs,0⟩)(hc:X.calm=PQ)(F:X.xe=λ_ _=>False)(hgt:PG X target g)(hts:dR X ifs tt)(j:PB X c gens scope pos d D tb)
  {s:P6}
  (I:Inv X pins σ H s) (T:Turn X.prog X.w X.K target J fp it tn) (st:tn 0 s.heap) (hf:∀b∈fp,fG X pins H b) (h:db J g tt tb σ H Q):
  Ui (QA X.prog X.w) X.A (.compStart (mkC c gens scope pos) d (.ref it) (.ref D) X.env) (λr s'=>r= .ok .next/\∃a f,Inv X pins a f s'/\Q a f) s:=by
 obtain⟨W,⟨m0,w0⟩,L⟩:=h;have l:∀{f:Hp},(∀b∈fp,f b=PM)->∀b∈fp,fG X pins f b:=λhn b j=>⟨hn b j,(hf b j).2⟩;have t:Ui (QA X.prog X.w) X.A (.compLoop (mkC c gens scope pos) d (.ref it) (.ref D) X.env) (λr s'=>r= .ok .next/\∃a f,Inv X pins a f s'/\Q a f) s:=by
  refine DH hg (λn s'=>∃i a f,Inv X pins a f s'/\tn i s'.heap/\(∀b∈fp,f b=PM)/\W i n a f) ?_ m0 ⟨0,σ,H,I,st,λb j=>(hf b j).1,w0⟩;rintro n s3 ⟨i,p,Z,I3,O,U,w3⟩;rcases L i n p Z w3 with⟨stop,qn⟩|⟨go,N,hN,step⟩
  ·refine thn (T.done X rfl rfl rfl hc i pins s3 p Z _ I3 (l U) O stop) λr s4 ⟨hr,I4⟩=>?_
   subst hr;exact⟨rfl,p,Z,I4,qn⟩
  ·refine thn (T.item X rfl rfl rfl hc i pins s3 p Z _ I3 (l U) O go) λr s4 ⟨u,hr,h4⟩=>?_
   subst hr;refine thn h4 λ_ s5 ⟨x,H5,I5,r5,y5,v,fr5⟩=>?_;have I5':=I5.pinned (l fr5) (T.obj _ _ v);have Xv:∀{q:St} {y:Hp} {B:P6},Inv X (pins++mo fp s5.heap) q y B->N q y->∃m,m<n/\∃i a f,Inv X pins a f B/\tn i B.heap/\(∀b∈fp,f b=PM)/\W i m a f:=λ{q y B} C n7=>by
    obtain⟨m',hm,w7⟩:=hN q y n7;refine⟨m',hm,i+1,q,y,C.unpinned,T.keep _ _ _ v λb j o e=>(C.pin (b,o) (QW _ (QW _ (iQ j e)))).1,λb j=>?_,w7⟩;obtain⟨o,e,d⟩:=T.obj _ _ v b j;exact(C.pin (b,o) (QW _ (QW _ (iQ j e)))).2.1
   have h6:=hgt _ s5 p H5 x u _ I5' r5 (step x H5 y5);rw[F]at h6;refine thn h6 λ_ s6 ⟨Y,H6,I6,q6⟩=>?_;have h7:=hts _ s6 Y H6 _ I6 q6;rw[F]at h7;refine thn h7 λb B ⟨y,C,q7⟩=>?_;cases b with
   |true=>
    rw[P7 rfl]at q7⊢;intro k Q' E' hk;refine j _ B Y y N C q7 k Q' E' λs8 σ8 H8 I8 n8=>?_;obtain⟨m,hm,z⟩:=Xv I8 n8;exact hk s8 m hm z
   |false=>
    rw[P5 P8]at q7⊢;exact Xv C q7
 exact yE hg t (T.self X.A 0 s _ _ st t)
theorem aM(m:gens[d+1]?=PM)(o:PE X elt te)(b:X.xe=λ_ _=>False):PB X elt gens scope pos d D (x9 D te):=by
 intro a s g H Q I h k y B p;unfold h9;rw[m];show Qj _ _ ((do let _ ←W3 (.builtin "list.append") [.ref D,←Rk elt X.env])>>=λ_=>k) _ _ _
 have i:=o a s g H _ I h;rw[b]at i;refine My (My (Q2 i (λu C ⟨v,J,j,r,xs,l,L,q⟩=>?_) λ_ _ f=>f.elim));obtain⟨z,its,n,t,N,e⟩:=j.lstM l;refine My (X1 F.slot_list_append ⟨_,e,rfl⟩ F.entry_list_append (Y7 _ _) (YY D its.toArray n u (by rw[Qn];omega)) ⟨e,?_⟩);refine PN (p _ g _ (j.lset (its':=its++[u]) l e (by simp) (t.append (.cons r .nil)) ?_) q);rw[Qm,Ri];omega
theorem qL(o:gens[d+1]?=on ⟨target',iter',ifs',0⟩)(p:X.calm=PQ)(a:X.xe=λ_ _=>False)(t:PI X target' iter' wi)
  (j:PG X target' g) (l:dR X ifs' tt) (u:PB X c gens scope pos (d+1) D tb) (hs:∀x,QX iter' X.env x=SB x:=by intro _;rfl):PB X c gens scope pos d D (x8 wi λJ=>db J g tt tb):=by
 intro b s y H Q I h k Y Z B;unfold h9;rw[o];have i:=t b s y H _ I h;rw[a]at i;refine My (Q2 i (λv s1 i=>My (SF ?_)) λ_ _ f=>f.elim);show Qj _ _ (QX iter' X.env v>>=_) _ _ _;refine My (TW (hs v) ?_);show Qj _ _ (Ux [v] (Wj v)>>=_) _ _ _;refine My (RG (Q2 i (λC s2 F=>?_) λ_ _ f=>f.elim));obtain⟨it,fp,tn,J,H2,e,L,T,m,f2,q⟩:=F;subst e;refine My (wpAny_runOwn (Vf (rX o p a j l u L T m f2 q) λr s' ⟨N,z⟩=>?_));subst N;obtain⟨n,O,U,W⟩:=z;exact B s' n O U W
noncomputable def kP(vars:List QO)(caps:List Nat)(a:St):St:=Qr vars.length PM++caps.map (λj=>a.getD j PM)
def Mks(X:Cx)(mk:Sem P0)(g:PZ->HO):Prop:=∀(a:List (PZ×Qy)) (s:P6) (f:St) (H:Hp) (E:P0->P6->Prop) (Q:P0->P6->Prop),Inv X a f H s->
 (∀e:P6,Inv X a f (upd H s.heap.objs.size (g s.heap.objs.size)) e->(∀b o,s.heap.get? b=on o->e.heap.get? b=on o)->Q (.ref s.heap.objs.size) e)->Qj (QA X.prog X.w) X.A mk Q E s
theorem uy{X:Cx}:Mks X (newList []) λ_=> .lst []:=λa s f H E Q I h=>Rq (h _ (I.lnew (t':=s.toks) .nil (Q8 _)) λb o e=>PU _ e)
def o9(vars:List QO)(caps:List Nat)(e:TI)(f:PZ->It->TB):TE:=λa H Q=>e a H λJ b=>∀D,b D=PM->f D J (kP vars caps a) (upd b D (.lst [])) λ_ g=>Q (.ref D) g
structure CmpScope (X:Cx) (scope:Scope) (Nc vars:List QO) (caps:List Nat):Prop where
 kind:scope.kind= .function
 nd:(scope.names.map (·.1)).Nodup
 free:∀y∈scope.names,y.2= .free->X.env.kindOf y.1=on .cell\/X.env.kindOf y.1=on .free
 names:Nc=vars++caps.map (λj=>X.N.getD j TM)
 cap:∀j∈caps,j<X.N.length/\scope.names.lookup (X.N.getD j TM)=on .free
variable{rest:List RO}{Nc vars:List QO}{caps:List Nat}{g:TG}{tt:TT}{tb:PZ->TB}{wi:TI}
def OA(X:Cx)(a:List (PZ×Qy))(H:Hp)(C:PZ):Prop:=H C=PM/\C≠X.env.locals/\X.s₀.heap.objs.size<=C/\(∀x c,X.env.cells.lookup x=on c->c≠C)/\∀p∈X.pn++a,p.1≠C
theorem hZ{c:CKd}{mk:Sem P0}{B:PZ->HO}(O:Mks X mk B){f:List (PZ×Qy)}{F:St}{H:Hp}{s:P6}{it:PZ}{h:List PZ}{Q:Nat->Rl->Prop}{J:It}{E:P0->P6->Prop}{QQ:PZ->Hp->Prop}{RR:P0->PZ->Result->P6->Prop}
  (hc:X.calm=PQ) (S:CmpScope X scope Nc vars caps)
  (L:∀(cl:List (QO×PZ)) (C:PZ) (h:List PZ) (s:P6) (H:Hp),PG (aG X Nc scope cl C h s H) target g/\dR (aG X Nc scope cl C h s H) ifs tt/\∀D,PB (aG X Nc scope cl C h s H) c (⟨target,iter,ifs,0⟩::rest) scope pos 0 D (tb D))
  (I:Inv X f F H s) (T:Turn X.prog X.w X.K target J h it Q) (st:Q 0 s.heap) (U:∀b∈h,fG X f H b)
  (q:∀D,H D=PM->db J g tt (tb D) (kP vars caps F) (upd H D (B D)) λ_ k=>QQ D k)
  (W:∀(D C:PZ) (s':P6) (k:Hp) (m:QO->Option P0),Inv X f F k s'->s'.heap.Ns C m->OA X f k C->QQ D k->RR (.ref D) C (.ok .next) s'):
  Qj (QA X.prog X.w) X.A mk (λacc t=>Qj (QA X.prog X.w) X.A (X8 scope X.env.globals (de X.env.cells scope.names []) [] X.env.qual PM .none (on X.env)) (λj u=>
   Ui (QA X.prog X.w) X.A (.compStart (mkC c (⟨target,iter,ifs,0⟩::rest) scope pos) 0 (.ref it) acc {j with scope:=relabel scope X.env}) (RR acc j.locals) u) E t) E s:=by
 refine O f s F H _ _ I λi l y=>?_;have hD:H s.heap.objs.size=PM:=I.fresh;have q3:=q s.heap.objs.size hD;have Y:∀b∈h,∃o,i.heap.get? b=on o:=λb L=>let ⟨o,e,_⟩:=T.obj _ _ st b L;⟨o,y b o e⟩
 have Z:∀b∈h,fG X f (upd H s.heap.objs.size (B s.heap.objs.size)) b:=λb a=>⟨by
  rw[upd_ne]
  ·exact(U b a).1
  ·obtain⟨o,e,_⟩:=T.obj _ _ st b a
   exact Q1 (Qz e),(U b a).2⟩
 generalize hH3:upd H s.heap.objs.size (B s.heap.objs.size)=H3 at l q3 Z;generalize s.heap.objs.size=D at hD hH3 q3⊢;refine EF λh' ns keep ce ca=>?_;have N:=DV l S.kind S.nd S.free S.names S.cap Z Y ns keep ce ca;obtain⟨b1,b2,b3⟩:=L (RU (i.heap.objs.size+1) scope.names (de X.env.cells scope.names [])) i.heap.objs.size h i H3;have st4:Q 0 h':=T.keep _ _ _ st λb L o e=>keep b o (y b o e);have f4:∀b∈h,fG (aG X Nc scope (RU (i.heap.objs.size+1) scope.names (de X.env.cells scope.names [])) i.heap.objs.size h i H3) [] H3 b:=λb a=>
  ⟨(Z b a).1,(N.ok.exf b a).1,N.ok.exfs b a,.inl a,(N.ok.exf b a).2,λp hp=>Qx hp (by simp)⟩
 refine Vf (rX (X:=aG X Nc scope (RU (i.heap.objs.size+1) scope.names (de X.env.cells scope.names [])) i.heap.objs.size h i H3) (gens:=⟨target,iter,ifs,0⟩::rest) (d:=0) rfl hc rfl b1 b2 (b3 D) N T st4 f4 q3) λr s' ⟨hr,σ',k,n,q'⟩=>?_;subst hr;obtain⟨m,hm,_⟩:=n.loc;have C1:X.env.locals<i.heap.objs.size:=l.lt;refine W D _ s' k m (l.call' (ch:=h) n.os n.base n.hok n.bare λb a=>?_) hm ⟨n.free,S9 C1,l.sz,λx c e z=>?_,λp hp z=>?_⟩ q'
 ·obtain⟨_,h2,h3,h4,h5,h6⟩:=U b a
  exact⟨h4,h2,h5,h6⟩
 ·obtain⟨v,e'⟩:=l.cell x c e
  exact Qx (z▸e'.lt) (Q0 _)
 ·have:=Qz (l.pin p hp).1
  rw[z]at this;exact Qx this (Q0 _)
theorem Inv.letgo{s:P6}(I:Inv X pins σ H s)(o:OA X pins H C)(hs:QI C s.heap h'):Inv X pins σ H {s with heap:=h'}:=
 I.turned (t':=s.toks) (λb f a e=>(hs.2 b a).trans e) o.1 (Ne.symm (Ne.symm o.2.1)) (.inr o.2.2.1) o.2.2.2.1 o.2.2.2.2
theorem CmpScope.clo(S:CmpScope X scope Nc vars caps)(ok:X.Ok):closureFor scope X.env=SB (de X.env.cells scope.names []):=x3 λy a b=>ok.has y.1 (S.free y a b)
theorem CmpScope.loc(S:CmpScope X scope Nc vars caps):∀x∈scope.names,x.2= .local->scope.names.lookup x.1=on .local:=λx a b=>c8 S.nd (by rw[←b];exact a)
theorem nq(j:X.calm=PQ)(S:CmpScope X scope Nc vars caps)(k:PI X target iter wi)
  (l:∀(cl:List (QO×PZ)) (C:PZ) (b:List PZ) (s:P6) (H:Hp),PG (aG X Nc scope cl C b s H) target g/\dR (aG X Nc scope cl C b s H) ifs tt/\∀D,PB (aG X Nc scope cl C b s H) elt (⟨target,iter,ifs,0⟩::rest) scope pos 0 D (tb D))
  (hs:∀x,QX iter X.env x=SB x:=by intro _;rfl):PE X (.ListComp elt (⟨target,iter,ifs,0⟩::rest) scope pos) (o9 vars caps wi λD J=>db J g tt (tb D)):=by
 intro a s n H Q I h;rw[eval_ListComp];refine S4 (use:=PM) rfl hs (S.clo I.ok) S.kind S.loc (Q2 (k a s n H _ I h) (λv N o=>Q2 o (λp O r=>?_) λ_ _ x=>x) λ_ _ x=>x);obtain⟨it,b,U,J,W,e,t,T,f,f2,q⟩:=r;subst e;refine hZ (c:= .L elt) uy (RR:=λacc C=>X3 (QA X.prog X.w) X.A X.xe PM _ acc C) j S l t T f f2 q λD C s' u m y ns B F=>?_;exact⟨m,ns,λh' i=>⟨.ref D,u,y.letgo B i,rfl,F⟩⟩
theorem v8{b f:UE}(y:X.N.Nodup)(l:X.N[i]?=on x)(B:Loc X.env.scope x)(F:X.calm=PQ)(S:CmpScope X scope Nc vars caps)(O:PI X target iter wi)
  (U:∀(cl:List (QO×PZ)) (C:PZ) (k:List PZ) (s:P6) (H:Hp),PG (aG X Nc scope cl C k s H) target g/\dR (aG X Nc scope cl C k s H) ifs tt/\∀D,PB (aG X Nc scope cl C k s H) elt (⟨target,iter,ifs,0⟩::rest) scope pos 0 D (tb D))
  (n:UL (.ListComp elt (⟨target,iter,ifs,0⟩::rest) scope pos) (on (.Name x b)) f.line X.env=SB PQ:=by rfl)
  (hs:∀x,QX iter X.env x=SB x:=by intro _;rfl) (W:X.fn x=PQ\/X.env.scope.names.lookup x=on .local:=by first|exact .inl rfl|exact .inr rfl|assumption):
  PS X (.Assign [.Name x b] (.ListComp elt (⟨target,iter,ifs,0⟩::rest) scope pos) f) (jU (o9 vars caps wi λD J=>db J g tt (tb D)) (fq i)):=by
 intro j s Y H D I h;rw[exec_Assign_Name_used _ _ _ _ n];refine My (SF (My ?_));show Qj _ X.A (do let _ ←comprehension (.ListComp elt (⟨target,iter,ifs,0⟩::rest) scope pos) scope X.env _ (newList []) PX (Rk iter X.env) (on (U6 (.Name x b) X.env))) _ _ s
 refine My (Q2 (S4 (use:=on (U6 (.Name x b) X.env)) (Q:=λ_ s'=>SP X j D .next s') rfl hs (S.clo I.ok) S.kind S.loc
  (Q2 (O j s Y H _ I h) (λv s1 Z=>Q2 Z (λitv s2 h2=>?_) λ_ _ e=>e) λ_ _ e=>e)) (λ_ s' hq=>PN (PN hq)) λ_ _ e=>e)
 obtain⟨it,k,tn,J,H2,e,o,T,p,f2,q⟩:=h2;subst e;refine hZ (c:= .L elt) uy (RR:=λacc C=>X3 (QA X.prog X.w) X.A X.xe (on (U6 (.Name x b) X.env)) _ acc C) F S U o T p f2 q λA C s' H' m I' ns r q'=>?_;show Qj _ X.A (U6 (.Name x b) X.env (.ref A)) _ _ s';refine W8 (lZ I' y l B (v:= .ref A) rfl (λs2 o ⟨a,sb,ha⟩=>?_) W);have t:C≠a:=by
  rcases ha with rfl|ha
  ·exact r.2.1
  ·exact λz=>r.2.2.2.1 x a ha z.symm
 exact⟨m,ns.sameBut sb t,λh' u=>⟨_,H',o.letgo r u,q'⟩⟩
end
end L2
namespace L2
open PySem PySem.Spec
open Sem (wp)
open Builtin Builtin.ObjectAttr
structure XShape (h:Rl) (C:PZ) (bm:List P0):Prop where
 at_:∃(nm q:QO) (N:PZ) (bs:List P0) (hdct:Bool) (sn:List QO) (sub:List P0) (ab:Bool) (col:Option Bool) (dd:Option PZ) (k0 k1 k2 k3 k5:Option P0),
  h.get? C=on (excClassObj nm q C N bs bm hdct sn sub ab col dd k0 k1 k2 k3 k5 "ValueError.__new__")
 val:bm.contains (.type "ValueError")=PQ
 bas:bm.contains (.type "BaseException")=PQ
 att:bm.contains (.type "AttributeError")=PX
 nam:bm.contains (.type "NameError")=PX
section
variable{prog:QG}{w:QT}{A:Q7}{E:P0->P6->Prop}{h:Rl}{g:Array GenState}{d:Drawn}{t:Nat}{os:VB}{C:PZ}{bm rest:List P0}
noncomputable def wE:List P0->Bool
 |[.type a,.type b,.type c,.type d]=>a=="ValueError"&&b=="Exception"&&c=="BaseException"&&d=="object"
 | .ref _::r=>wE r
 |_=>PX
variable{s:P6}{e:PZ}{K:Qo}{cd:ClassData}{name:QO}{v:P0}
end
end L2
namespace L2
open PySem PySem.Spec PyProof.Rows
theorem bO.there{h:Rl}(x:bO P w H h a o):∃b,h.get? a=on b:=by
 cases o with
 |lst xs=>obtain⟨_,_,_,_,e⟩:=x;exact⟨_,e⟩
 |tup xs=>obtain⟨_,_,_,_,e,_⟩:=x;exact⟨_,e⟩
 |ins C dx fs=>obtain⟨_,_,_,e,_⟩:=x;exact⟨_,e⟩
 |own y=>exact x
 |xd fs=>obtain⟨_,⟨_,_,_,e,_⟩,_⟩:=x;exact⟨_,e⟩
 |rng lo hi=>obtain⟨_,_,_,e⟩:=x;exact⟨_,e⟩
 |frz b u=>obtain⟨e,_⟩:=x;exact⟨_,e⟩
 |tbl ps=>exact⟨_,(show h.get? a=on _ from x)⟩
 |met f y=>exact⟨_,(show h.get? a=on _ from x)⟩
 |ext φ=>obtain⟨_,e,_⟩:=x;exact e
structure Flown (P:QG) (w:QT) (outer:List WY) (H:Hp) (s:P6) (E:XK) (x C:PZ) (H':Hp) (s':P6):Prop where
 os:s'.os=s.os
 bare:Vb s'.gens
 un:Un (frs outer) [] H H' s.heap s'.heap
 hok:HOk P w H' s'.heap
 tr:∃(oe:Qy) (vs:Array P0) (T:PZ) (oT:Qy) (ts:Array P0) (a0:P0),s'.heap.get? x=on oe/\(oe.cls= .ref C/\vs[0]?=on a0)/\oe.data= .fields vs/\vs[1]?=on (.ref T)/\T≠x/\s'.heap.get? T=on oT/\oT.data= .fields ts/\ts[3]?=on .none/\H' T=PM/\s.heap.get? T=PM
 xn:H' x=PM
 xs:s.heap.get? x=PM
 wish:E (.ref C) PM H'
def CXE(P:QG)(w:QT):CXT:=λouter H s E e s'=>∃x C a,e= .ref x/\Flown P w outer H s E x C a s'
theorem zP{X:Cx}{s s':P6}{E:XK}(I:Inv X pins σ H s)(g:X.stack=X.env::X.outer)(i:X.env.frame=on X.env.locals)(R:X.ex=[])
  (os:s'.os=X.s₀.os) (bare:Vb s'.gens) (d:Un (frs X.stack) [] X.H₀ H' X.s₀.heap s'.heap) (hok:HOk X.prog X.w H' s'.heap) (y:∀b∈frs X.stack,H' b=PM)
  (c:∀b∈ext,X.s₀.heap.get? b=PM/\H' b=PM) (O:x∈ext) (wish:E (.ref C) PM H')
  (L:Heap.LeftW (Zf s'.heap (ext++frs X.stack)) (X.env::X.outer) x (.ref C) a0 s'.heap h'):Flown X.prog X.w X.outer X.H₀ X.s₀ E x C H' {s' with heap:=h'}:=by
 obtain⟨U,L2,W,Y⟩:=L;have j:∀b∈frs X.outer,b∈frs X.stack:=λb hb=>by
  rw[g];unfold frs;rw[RQ,i];exact PR _ hb
 have h:∀b∈frs X.stack,b=X.env.locals\/b∈frs X.outer:=λb hb=>by
  rw[g]at hb;unfold frs at hb;rw[RQ,i]at hb;exact Qh.mp hb
 have A:∀b o,X.s₀.heap.get? b=on o->b≠X.env.locals:=λb o e=>Q1 (Qv (Qz e) I.ok.above);have stay:∀b o,s'.heap.get? b=on o->b∉ext->b∉frs X.stack->h'.get? b=on o:=λb o e B Z=>
  U b o (hideAll_get _ e λhm=>(RC.mp hm).elim B Z)
 have k:∀b o,X.s₀.heap.get? b=on o->b∉ext:=λb o e hb=>by rw[(c b hb).1]at e;cases e
 have f:∀b∈frs X.stack,∃o,h'.get? b=on o/\∀vs,o.data≠ .fields vs:=λb hb=>(L2.mem (by rw[←g];exact hb)).2;obtain⟨oe,vs,T,oT,P,he,hc,hd,B,l,F,Q,m,h3⟩:=W;have p:H' T=PM/\X.s₀.heap.get? T=PM:=by
  by_cases hm:T∈ext++frs X.stack
  ·rcases RC.mp hm with hm|hm
   ·exact⟨(c T hm).2,(c T hm).1⟩
   ·obtain⟨o,e,nf⟩:=f T hm
    rw[Q]at e;cases e;exact Qx m (nf P)
  ·have hs:s'.heap.get? T=PM:=by
    cases q:s'.heap.get? T with
    |none=>rfl
    |some o=>rw[hideAll_get _ q hm]at l;cases l
   constructor
   ·cases q:H' T with
    |none=>rfl
    |some o=>obtain⟨ob,e⟩:=(hok T o q).there;rw[hs]at e;cases e
   ·cases q:X.s₀.heap.get? T with
    |none=>rfl
    |some o=>obtain⟨ob,e⟩:=d.there T o q (by simp);rw[hs]at e;cases e
 refine⟨os,bare,⟨λb o e n hb _=>?_,λb o e n hb _=>?_,λb o e n hb=>d.free b o e n hb,λb o e _=>?_,d.tups,d.frzs,d.tbls⟩,λa o e=>?_,⟨oe,vs,T,oT,P,a0,he,hc,hd,B,F,Q,m,h3,p.1,p.2⟩,(c x O).2,(c x O).1,wish⟩
 ·have nf:b∉frs X.stack:=λz=>(h b z).elim (A b o e) hb
  exact stay b o (d.keep b o e n nf (by simp)) (k b o e) nf
 ·obtain⟨sl,r⟩:=d.slot b o e n (j b hb) (by simp)
  obtain⟨_,J,v,nf⟩:=I.ok.funs.mem hb;rw[e]at v;cases v;obtain⟨N,e3⟩:=Y b _ r nf;exact⟨N,e3⟩
 ·obtain⟨J,r⟩:=d.there b o e (by simp)
  by_cases hb:b∈frs X.stack
  ·obtain⟨o2,v,_⟩:=f b hb
   exact⟨o2,v⟩
  ·exact⟨J,stay b J r (k b o e) hb⟩
 ·refine(hok a o e).stay (λb u hb r=>?_) (λ_ q=>q) λ_ _ q=>q
  have t:H' b≠PM:=by
   rcases hb with rfl|hb
   ·rw[e];simp
   ·rw[hb];simp
  exact stay b u r (λz=>t (c b z).2) λz=>t (y b z)
theorem AC{h base:Rl}(d:h.FunFrames base l)(c:∀b∈frs l,b∈as):h.FunFrames (Zf h as) l:=
 PySem.W.funFrames_hide d λenv e a ha=>c a (by unfold frs;exact UY.mpr ⟨env,e,ha⟩)
theorem KJ{X:Cx}{E F:XK}(a:X.stack=X.env::X.outer)(d:X.env.frame=on X.env.locals)(f:X.ex=[])(R:∀cls J H,F cls J H->E cls J H)
  (I:Inv X pins σ H s) (h:CXE X.prog X.w X.stack H s F e s'):
  Qj (QA X.prog X.w) X.A (leaving X.env e) (λ_ j=>CXE X.prog X.w X.outer X.H₀ X.s₀ E e j) E1 s':=by
 obtain⟨x,C,N,rfl,os,bare,un,hok,⟨U,vs,T,W,Y,a0,Z,hc,hd,h1,k,hT,m,h3,n,p⟩,xn,xs,wish⟩:=h;have nofs:∀b∈X.fs,b∈frs X.stack:=λb hb=>by
  rw[a];unfold frs;rw[RQ,d];exact PR _ hb
 have O:Un (frs X.stack) [] X.H₀ H X.s₀.heap s.heap:=by
  have b:=I.base;rw[f]at b;exact b.mono nofs λ_ z=>z
 have U0:=O.trans un;have g:∀b,s.heap.get? b=PM->X.s₀.heap.get? b=PM:=λb e=>by
  cases q:X.s₀.heap.get? b with
  |none=>rfl
  |some o=>obtain⟨o',P⟩:=O.there b o q (by simp);rw[e]at P;cases P
 have c:=I.stack;have i:s'.heap.FunFrames X.base X.stack:=by
  have all:∀(l:List WY),(∀b∈frs l,b∈frs X.stack)->s.heap.FunFrames X.base l->s'.heap.FunFrames X.base l:=by
   intro l
   induction l with
   |nil=>intro _ _;trivial
   |cons env r ih=>
    intro hs hl;obtain⟨hk,⟨L,o,t,hn,u,v⟩,hr⟩:=hl;have Q:L∈frs X.stack:=hs L (by unfold frs;rw[RQ,t];exact P3);obtain⟨sl,e⟩:=un.slot L o u (I.stkFree L Q) Q (by simp);exact⟨hk,⟨L,_,t,hn,e,v⟩,ih (λb hb=>hs b (by unfold frs;rw[RQ,t];exact PR _ hb)) hr⟩
  exact all X.stack (λ_ hb=>hb) c
 have y:∀b∈frs X.stack,N b=PM:=λb hb=>by
  obtain⟨_,o,u,_⟩:=c.mem hb;exact un.free b o u (I.stkFree b hb) (by simp)
 have B:∀b∈frs X.stack,b∈[x,T]++frs X.stack:=λb hb=>QW _ hb;have hF:s'.heap.FunFrames (Zf s'.heap ([x,T]++frs X.stack)) (X.env::X.outer):=by
  have z:=AC i B;rw[a]at z⊢;exact z
 refine wpAny_leaving_nextW (base:=Zf s'.heap ([x,T]++frs X.stack)) (by rw[←a];exact I.ok.frames) hF d ⟨U,vs,T,W,Y,Z,hc,hd,h1,Zg _ (by simp),k,hT,m,h3⟩ (λb o q=>XX _ q) (Zg _ (by simp)) λh' L=>?_;refine⟨x,C,N,rfl,zP I a d f (os.trans I.os) bare U0 hok y (λb hb=>?_) (by simp) (R _ _ _ wish) L⟩;rcases Qh.mp hb with rfl|hb
 ·exact⟨g _ xs,xn⟩
 ·obtain rfl:b=T:=by simpa using hb
  exact⟨g _ p,n⟩
section
variable{X:Cx}{pins:List (PZ×Qy)}{σ:St}{H H':Hp}{s s':P6}{E:XK}{x C:PZ}
structure XC (K:Qo) (C:PZ):Prop where
 sh:∃bm,∀h:Rl,K.In h->XShape h C bm
 sa:Um K (.ref C) "__setattr__"=on (on (.builtin "object.__setattr__"))
 cd:∃cd,PySem.W.clsIn K C=on cd/\cd.hasDict=PQ/\wE cd.mro=PQ
structure XMk (K:Qo) (C f:PZ):Prop where
 xc:XC K C
 init:Um K (.ref C) "__init__"=on (on (.ref f))
 fn:isFn K (.ref f)=PQ
 kp:Vr K (.ref C)=PQ
end
section
variable{X:Cx}{CX:CXT}{k:Nat}{f C:PZ}{fd:Qu}{ps:List QO}{sp:Sp}{dvs:List V}{ds:List P0}{E:St->XK}{x m:QO}{p pos apos:UE}{e o:Expr}{es:List Expr}{ta:TE}{t:TA}
structure ClsFn (K:Qo) (D:PZ) (m:QO) (f:PZ):Prop where
 ga:specialIn K (.ref D) "__getattribute__"=on (on (.builtin "type.__getattribute__"))
 rd:PySem.W.readsIn K D (.type "type")=PQ
 fnd:PySem.W.findCls K (.ref D) (.type "type") m=on (.val (.ref f))
 kp:Vr K (.ref f)=PQ
end
section
variable{P:QG}{w:QT}{K:Qo}{mg:QO->Option P0}{base:Rl}{N:List QO}{qual:QO}{scope:Scope}{f:PZ}{cd:P0}{A:Q7}{outer:List WY}{s:P6}{H:Hp}{E:XK}
theorem cq:dE (CXE P w) (f9 (CXE P w) P w K mg base N qual scope f cd A outer s H E) (λ_=>E):=λa b c d e s' I h=>KJ (X:=f9 (CXE P w) P w K mg base N qual scope f cd A outer s H E) rfl rfl rfl (λ_ _ _ z=>z) I h
theorem sJ:dE (CXE P w) X E0:=λ_ _ _ _ _ _ _ h=>by
 obtain⟨_,_,_,_,F⟩:=h;exact F.wish.elim
theorem bW:YU (QA P w) (A.deeper (Uv qual scope s.heap.objs.size f cd)) (Uv qual scope s.heap.objs.size f cd) (f9 (CXE P w) P w K mg base N qual scope f cd A outer s H E).xe:=PassesOwn.leaving
structure FunD (K:Qo) (x qual:QO) (st:Q9) (f:PZ) (fd:Qu):Prop where
 ex:∃(oc:P0) (od:Option PZ) (dV kV doc pm:P0) (an:Option PZ) (cdv ct:P0) (osl:Array (Option P0)),
  fd=Ua x qual (iZ st) (cQ st) (ag st) dV kV doc pm an cdv ct/\K.lookup f=on ⟨oc,od,.func fd,osl⟩/\UI K cdv qual=PQ
 kp:Vr K (.ref f)=PQ
theorem Lg{K:Qo}{x qual:QO}{st:Q9}{f:PZ}(l:K.lookup f=on ⟨oc,od,.func (Ua x qual (iZ st) (cQ st) (ag st) dV kV doc pm an cdv ct),osl⟩)
  (c:UI K cdv qual=PQ) (k:Vr K (.ref f)=PQ):FunD K x qual st f (Ua x qual (iZ st) (cQ st) (ag st) dV kV doc pm an cdv ct):=⟨⟨oc,od,dV,kV,doc,pm,an,cdv,ct,osl,rfl,l,c⟩,k⟩
theorem FunD.okE{x qual:QO}{st:Q9}{f:PZ}{N ps:List QO}(F:FunD K x qual st f fd)(S:FnScope N ps (ag st))(len:∀vs H Q E,sp vs H Q E->vs.length=ps.length)
  (b:∀(a:P0) (A:Q7) (outer:List WY) (s:P6) (H:Hp) (vs:List V) (Q:VK) (E:XK),Room k (A.deeper (Uv qual (ag st) s.heap.objs.size f a))->sp vs H Q E->
   ∃t,PSs (f9 (CXE P w) P w K mg base N qual (ag st) f a A outer s H E) (cQ st) t/\t {nx:=λ_ e=>Q .non e,rt:=Q} (fS N vs) H):FnOk P w K mg base (CXE P w) (k+1) f fd ps sp:=by
 obtain⟨l,m,n,o,g,p,q,a,ct,h,rfl,i,c⟩:=F.ex;exact IZ i c S len λA outer s H vs Q E j d=>b a A outer s H vs Q E j d
theorem FunD.ok{x qual:QO}{st:Q9}{f:PZ}{N ps:List QO}(F:FunD K x qual st f fd)(S:FnScope N ps (ag st))(len:∀vs H Q E,sp vs H Q E->vs.length=ps.length)
  (b:∀(a:P0) (A:Q7) (outer:List WY) (s:P6) (H:Hp) (vs:List V) (Q:VK) (E:XK),Room k (A.deeper (Uv qual (ag st) s.heap.objs.size f a))->sp vs H Q E->
   ∃t,PSs (f9 (CXE P w) P w K mg base N qual (ag st) f a A outer s H E).nox (cQ st) t/\t {nx:=λ_ e=>Q .non e,rt:=Q} (fS N vs) H):FnOk P w K mg base (CXE P w) (k+1) f fd ps sp:=by
 obtain⟨m,n,o,p,g,r,u,a,ct,i,rfl,j,c⟩:=F.ex;refine IZ j c S len λA outer s H vs Q E l d=>?_;obtain⟨t,h,q⟩:=b a A outer s H vs Q E l d;exact⟨t,h.nox,q⟩
abbrev TJ:=St->Hp->Nat->(Nat->Hp->Prop)->Prop
variable{X:Cx}{es:List Expr}{t:TJ}{pos:UE}
theorem sd(i:X.calm=PQ):dF X (.builtin "sum") (λxs H Q=>∃(a:PZ) (ns:List Int),xs=[.ref a]/\SqL X.K H a (ns.map V.int)/\Q (.int ns.sum) H):=by
 intro b s o H xs us Q I r h;obtain⟨a,ns,rfl,j,q⟩:=h;cases r with
 |cons r1 k=>
  cases r1;cases k;obtain⟨its,l,p,u⟩:=I.list j;have c:=qb l;obtain⟨xs,ex⟩:=c.allInts.items;have d:=p.isList;rw[ex]at d;refine sum_intListG (I.ok.hd i) d λh' v t' m=>?_;have e:preSum (numAt xs) xs.size=ns.sum:=by
   have g:=c.numsOf;have n:its=(X5 xs).toList:=by rw[←ex]
   rw[n,nums_intItems]at g;rw[preSum_eq,R5 (by simp),g]
  rw[e];exact⟨.int ns.sum,H,I.kept m,⟨_,rfl⟩,q⟩
def tq(i j:Int):Prop:=0<j/\j.natAbs.log2<9000
theorem CQ:OpR X (SL .FloorDiv) (rI tq λi j=> .int (i/j)):=opI λi j _ _ _ _ _ a q=>by
 have b:(0:Int)<j:=a.1;refine floordiv_int (by omega) ?_ (.inl (W2 a.2));rw[U4 _ (by omega)];exact q
def ipC(C:Int->Int->Prop)(f:Int->Int->Int):TIp:=λx y H Q=>∃i j,x= .int i/\y= .int j/\C i j/\Q (.int (f i j)) H
theorem wu:PIp X .FloorDiv (ipC tq λi j=>i/j):=by
 intro a s d H x y v u Q I r1 b h;obtain⟨i,j,rfl,rfl,c,q⟩:=h;obtain⟨t,rfl⟩:=r1;obtain⟨t',rfl⟩:=b;have e:(0:Int)<j:=c.1;refine ifloordiv_int (by omega) ?_ (.inl (W2 c.2));rw[U4 _ (by omega)];exact⟨.int _,H,I.tok _,⟨_,rfl⟩,q⟩
theorem yp:∀{cs:List String} {us:List P0},ax (cs.map V.ty) us->us=cs.map SR
 |[],_,r=>by cases r;rfl
 |c::cs,_,r=>by
  cases r with
  |cons r1 a=>
   cases r1;rw[yp a];rfl
theorem x4{K:Qo}{xs:List V}{H:Hp}(Pv:Nat->St->Hp->Prop)(u:Pv 0 c H)(k:∀i c H,i<=xs.length->Pv i c H->SqL K H a xs)
  (h:∀i x c H,xs[i]?=on x->Pv i c H->g x c H λd v=>tt d v λb r=>if b=PQ then tb d r (Pv (i+1))else Pv (i+1) d r) (l:∀c H,Pv xs.length c H->Q c H):db (Itl K a) g tt tb c H Q:=by
 refine⟨λi m c H=>i<=xs.length/\m+i=xs.length/\Pv i c H,⟨xs.length,Q8 _,by omega,u⟩,λi m c H ⟨n,hm,j⟩=>?_⟩;by_cases o:i<xs.length
 ·refine .inr ⟨⟨xs,xs[i],k i c H n j,PP o⟩,Pv (i+1),λy p q=>⟨m-1,by omega,by omega,by omega,q⟩,λx p ⟨e,B⟩=>?_⟩
  subst e;exact h i x c p (B xs (k i c p n j)) j
 ·obtain rfl:i=xs.length:=by omega
  exact .inl ⟨⟨xs,k _ c H n j,P9 _⟩,l c H j⟩
theorem CmpScope.plain{X:Cx}{scope:Scope}(k:scope.kind= .function)(nd:(scope.names.map (·.1)).Nodup)(f:∀y∈scope.names,y.2≠ .free):CmpScope X scope vars vars []:=
 ⟨k,nd,λy a e=>Qx e (f y a),by simp,λj b=>Qx b (by simp)⟩
def tj(i j:Int):Prop:=i.natAbs<2^1000/\j.natAbs<2^1000
theorem jR{k:Int}(h:k.natAbs<2^1000):Xb k<=2^20:=by
 unfold Xb;split
 ·exact Q8 _
 ·rename_i a
  have b:k.natAbs≠0:=by
   intro z;have:k=0:=Int.natAbs_eq_zero.mp z;subst this;simp at a
  have:=(Nat.log2_lt b).mpr h;have e:(2:Nat)^20=1048576:=by decide
  omega
theorem gD{X:Cx}:OpR X (SL .Mult) (rI tj λi j=> .int (i*j)):=opI λ_ _ _ _ _ _ _ a q=>mul_int q (Yi (jR a.1) (jR a.2))
theorem bQ.upd{H:Hp}(h:H a=PM):bQ H (upd H a o):=λb u e=>by rw[upd_ne (az e h)];exact e
abbrev KyD:=Int×List Int
noncomputable def hI(k:List Int):Int:=reduceHash (Us (k.map hashInt))
def hB:Bool->KyD->Int
 |true,k=>reduceHash (Us [hashInt k.1,hI k.2])
 |false,k=>hI k.2
def yd(a:PZ)(b:Bool)(ep:Nat)(xs:List (KyD×PZ×V))(h:Rl):Prop:=
 ∃o es,∃ys:List (KyD×PZ×P0),h.get? a=on o/\o.ExactDict/\o.data= .dict es ep/\es.toList=ys.map (λy=>⟨hB b y.1,.ref y.2.1,y.2.2⟩)/\(ys.map (·.1)).Nodup/\(a==WL)=PX/\ys.length<=Qp/\
  WJ (λ(x:KyD×PZ×V) (y:KyD×PZ×P0)=>x.1=y.1/\x.2.1=y.2.1/\aN x.2.2 y.2.2) xs ys
noncomputable def dS(a:PZ)(b:Bool)(ep:Nat)(xs:List (KyD×PZ×V)):HO:= .ext (yd a b ep xs)
theorem wI{P:QG}{w:QT}{b:Bool}{H:Hp}(S:yd a b ep xs h):bO P w H h a (dS a b ep xs):=by
 refine⟨S,?_,λc d z k=>?_⟩
 ·obtain⟨o,_,_,e,_⟩:=S
  exact⟨o,e⟩
 ·obtain⟨o,es,ys,e,r⟩:=z
  exact⟨o,es,ys,k _ e,r⟩
end
end L2
namespace L2.Pu
open PySem PySem.Spec PyProof.Rows
theorem ex6{α d e:Sort _}{P Q R:α->d->e->Prop}{C:Prop}(h:∃a b c,P a b c/\Q a b c/\R a b c)(k:∀a b c,P a b c->Q a b c->R a b c->C):C:=by
 obtain⟨a,b,c,x,y,z⟩:=h;exact k a b c x y z
theorem ex5{α c:Sort _}{P Q R:α->c->Prop}{C:Prop}(h:∃a b,P a b/\Q a b/\R a b)(k:∀a b,P a b->Q a b->R a b->C):C:=by
 obtain⟨a,b,x,y,z⟩:=h;exact k a b x y z
inductive D where
 |non|bl (b:Bool)|int (i:Int)|str (x:QO)|ty (n:String)|txt
 |lst (xs:List D)|tup (xs:List D)|scr (xs:List Int)|obj (C:PZ) (ns:List QO) (xs:List D)|bag|adr (a:PZ)|dct (b:Bool) (ks:List KyD) (vs:List D)
structure Bg where
 cells:List Int
 i:Int
 j:Int
structure Fx where
 A:PZ->Prop
 bg:Option (PZ×PZ)
def KL(K:Qo)(a:PZ)(xs:List V):Prop:=
 ∃(o:Qy) (its:Array P0) (n:Nat),K.lookup a=on o/\o.cls= .type "list"/\o.dict=PM/\o.data= .seq its n/\its.size<=Qp/\ax xs its.toList
def KT(K:Qo)(a:PZ)(xs:List V):Prop:=
 ∃(o:Qy) (its:Array P0) (n:Nat),K.lookup a=on o/\o.cls= .type "tuple"/\o.data= .seq its n/\its.size<=Qp/\ax xs its.toList
def TQ(K:Qo)(F:Fx)(H:Hp)(c:PZ)(xs:List V):Prop:=(¬F.A c/\Rd H c (.tup xs))\/KT K c xs
def iw(K:Qo)(F:Fx)(H:Hp):Bool->KyD->PZ->Prop
 |true,k,c=>∃e,TQ K F H c [.int k.1,.ref e]/\TQ K F H e (k.2.map V.int)
 |false,k,c=>k.1=0/\TQ K F H c (k.2.map V.int)
mutual
noncomputable def Den(K:Qo)(F:Fx)(H:Hp):D->V->Prop
 | .non,v=>v= .non
 | .bl b,v=>v= .bl b
 | .int i,v=>v= .int i
 | .str x,v=>v= .str x
 | .ty n,v=>v= .ty n
 | .txt,v=>∃z,v= .str z
 | .lst ds,v=>∃a xs,v= .ref a/\(¬F.A a/\Rd H a (.lst xs))/\DenL K F H ds xs
 | .scr ns,v=>∃a,v= .ref a/\((¬F.A a/\Rd H a (.lst (ns.map V.int)))\/KL K a (ns.map V.int))
 | .tup ds,v=>∃a xs,v= .ref a/\((¬F.A a/\Rd H a (.tup xs))\/KT K a xs)/\DenL K F H ds xs
 | .obj C ns ds,v=>∃a c xs,v= .ref a/\¬F.A a/\H a=on (.ins C c (ns.zip xs))/\ns.length=xs.length/\DenL K F H ds xs
 | .bag,v=>∃b l,F.bg=on (b,l)/\v= .ref b
 | .adr a,v=>v= .ref a
 | .dct b ks vs,v=>∃a ep xs,v= .ref a/\(¬F.A a/\H a=on (dS a b ep xs))/\ks=xs.map (·.1)/\(∀x∈xs,iw K F H b x.1 x.2.1)/\DenL K F H vs (xs.map (·.2.2))
noncomputable def DenL(K:Qo)(F:Fx)(H:Hp):List D->List V->Prop
 |[],xs=>xs=[]
 |d::ds,xs=>∃x r,xs=x::r/\Den K F H d x/\DenL K F H ds r
end
structure Tr (F:Fx) (H:Hp) (F2:Fx) (H2:Hp):Prop where
 av:∀a,¬F.A a->H a≠PM->¬F2.A a
 kp:∀a o,¬F.A a->H a=on o->H2 a=on o
 bg:F2.bg=F.bg
theorem Tr.refl(F:Fx)(H:Hp):Tr F H F H:=⟨λ_ h _=>h,λ_ _ _ h=>h,rfl⟩
theorem Tr.trans(a:Tr F H F1 H1)(b:Tr F1 H1 F2 H2):Tr F H F2 H2:=
 ⟨λx c d=>b.av x (a.av x c d) (by
   cases q:H x with
   |none=>exact Qx q d
   |some o=>rw[a.kp x o c q];simp),
  λx o c d=>b.kp x o (a.av x c (by rw[d];simp)) (a.kp x o c d),b.bg.trans a.bg⟩
theorem Rd.tr{F b:Fx}(t:Tr F H b H2)(h:¬F.A a)(r:Rd H a u):¬b.A a/\Rd H2 a u:=by
 rcases r with r|⟨o,r⟩
 ·exact⟨t.av a h (by rw[r];simp),.inl (t.kp a _ h r)⟩
 ·exact⟨t.av a h (by rw[r];simp),.inr ⟨o,t.kp a _ h r⟩⟩
theorem TQ.tr{K:Qo}(t:Tr F H F2 H2)(h:TQ K F H c xs):TQ K F2 H2 c xs:=h.imp (λh=>Rd.tr t h.1 h.2) id
theorem iw.tr{K:Qo}{b:Bool}(t:Tr F H F2 H2)(h:iw K F H b k c):iw K F2 H2 b k c:=by
 cases b with
 |true=>
  obtain⟨e,a,d⟩:=h;exact⟨e,a.tr t,d.tr t⟩
 |false=>exact⟨h.1,h.2.tr t⟩
mutual
theorem Den.tr{K:Qo}(t:Tr F H F2 H2):∀(d:D) (v:V),Den K F H d v->Den K F2 H2 d v
 | .non,v,h=>h
 | .bl b,v,h=>h
 | .int i,v,h=>h
 | .str x,v,h=>h
 | .ty n,v,h=>h
 | .txt,v,h=>h
 | .lst ds,v,h=>by
  unfold Den at h⊢;obtain⟨a,xs,e,c,f⟩:=h;exact⟨a,xs,e,Rd.tr t c.1 c.2,DenL.tr t ds xs f⟩
 | .scr ns,v,h=>by
  unfold Den at h⊢;obtain⟨a,e,c⟩:=h;exact⟨a,e,c.imp (λ⟨p,q⟩=>Rd.tr t p q) id⟩
 | .tup ds,v,h=>by
  unfold Den at h⊢;obtain⟨a,xs,e,c,f⟩:=h;exact⟨a,xs,e,c.imp (λ⟨p,q⟩=>Rd.tr t p q) id,DenL.tr t ds xs f⟩
 | .obj C ns ds,v,h=>by
  unfold Den at h⊢;obtain⟨a,k,xs,e,c,f,g,j⟩:=h;exact⟨a,k,xs,e,t.av a c (by rw[f];simp),t.kp a _ c f,g,DenL.tr t ds xs j⟩
 | .bag,v,h=>by
  unfold Den at h⊢;rw[t.bg];exact h
 | .adr a,v,h=>by
  unfold Den at h⊢;exact h
 | .dct b ks vs,v,h=>by
  unfold Den at h⊢;obtain⟨a,ep,xs,e,c,f,g,j⟩:=h;exact⟨a,ep,xs,e,⟨t.av a c.1 (by rw[c.2];simp),t.kp a _ c.1 c.2⟩,f,λx l=>(g x l).tr t,DenL.tr t vs _ j⟩
theorem DenL.tr{K:Qo}(t:Tr F H F2 H2):∀(ds:List D) (xs:List V),DenL K F H ds xs->DenL K F2 H2 ds xs
 |[],xs,h=>h
 |d::ds,xs,h=>by
  unfold DenL at h⊢;obtain⟨x,r,e,a,b⟩:=h;exact⟨x,r,e,Den.tr t d x a,DenL.tr t ds r b⟩
end
section
variable{K:Qo}{F:Fx}{H:Hp}
theorem DenL.nil:DenL K F H [] []:=rfl
theorem DenL.cons(h:Den K F H d x)(t:DenL K F H ds xs):DenL K F H (d::ds) (x::xs):=⟨x,xs,rfl,h,t⟩
theorem DenL.length:∀{ds:List D} {xs:List V},DenL K F H ds xs->ds.length=xs.length
 |[],xs,h=>by have e:xs=[]:=h;subst e;rfl
 |d::ds,xs,h=>by
  obtain⟨x,r,e,_,a⟩:=h;subst e;rw[Qe,Qe,DenL.length a]
theorem DenL.get:∀{ds:List D} {xs:List V} {i:Nat} {d:D},DenL K F H ds xs->ds[i]?=on d->∃x,xs[i]?=on x/\Den K F H d x
 |[],_,_,_,_,e=>by simp at e
 |c::ds,xs,0,d,h,e=>by
  obtain⟨x,r,q,a,b⟩:=h;subst q;simp at e;subst e;exact⟨x,rfl,a⟩
 |c::ds,xs,i+1,d,h,e=>by
  obtain⟨x,r,q,a,b⟩:=h;subst q;obtain⟨y,f,g⟩:=DenL.get (i:=i) (d:=d) b (by simpa using e);exact⟨y,by simpa using f,g⟩
theorem DenL.getV:∀{ds:List D} {xs:List V} {i:Nat} {x:V},DenL K F H ds xs->xs[i]?=on x->∃d,ds[i]?=on d/\Den K F H d x
 |[],xs,_,_,h,e=>by have q:xs=[]:=h;subst q;simp at e
 |c::ds,xs,0,d,h,e=>by
  obtain⟨x,r,q,a,b⟩:=h;subst q;simp at e;subst e;exact⟨c,rfl,a⟩
 |c::ds,xs,i+1,d,h,e=>by
  obtain⟨x,r,q,a,b⟩:=h;subst q;obtain⟨y,f,g⟩:=DenL.getV (i:=i) (x:=d) b (by simpa using e);exact⟨y,by simpa using f,g⟩
theorem DenL.append:∀{ds es:List D} {xs ys:List V},DenL K F H ds xs->DenL K F H es ys->DenL K F H (ds++es) (xs++ys)
 |[],_,xs,_,h,h'=>by have q:xs=[]:=h;subst q;exact h'
 |c::ds,es,xs,ys,h,h'=>by
  obtain⟨x,r,q,a,b⟩:=h;subst q;exact⟨x,r++ys,rfl,a,DenL.append b h'⟩
theorem DenL.take:∀{ds:List D} {xs:List V} (n:Nat),DenL K F H ds xs->DenL K F H (ds.take n) (xs.take n)
 |[],xs,n,h=>by have q:xs=[]:=h;subst q;simp;rfl
 |c::ds,xs,0,h=>by simp;rfl
 |c::ds,xs,n+1,h=>by
  obtain⟨x,r,q,a,b⟩:=h;subst q;exact⟨x,r.take n,rfl,a,DenL.take n b⟩
theorem DenL.drop:∀{ds:List D} {xs:List V} (n:Nat),DenL K F H ds xs->DenL K F H (ds.drop n) (xs.drop n)
 |[],xs,n,h=>by have q:xs=[]:=h;subst q;simp;rfl
 |c::ds,xs,0,h=>h
 |c::ds,xs,n+1,h=>by
  obtain⟨x,r,q,b,a⟩:=h;subst q;exact DenL.drop n a
theorem DenL.set:∀{ds:List D} {xs:List V} (i:Nat) {d:D} {x:V},DenL K F H ds xs->Den K F H d x->DenL K F H (ds.set i d) (xs.set i x)
 |[],xs,i,_,_,h,_=>by have q:xs=[]:=h;subst q;simp;rfl
 |c::ds,xs,0,d,x,h,hd=>by
  obtain⟨y,r,q,b,a⟩:=h;subst q;exact⟨x,r,rfl,hd,a⟩
 |c::ds,xs,i+1,d,x,h,hd=>by
  obtain⟨y,r,q,b,a⟩:=h;subst q;exact⟨y,r.set i x,rfl,b,DenL.set i a hd⟩
theorem Den.sqL(h:Den K F H (.lst ds) v):∃a xs,v= .ref a/\SqL K H a xs/\DenL K F H ds xs:=by
 unfold Den at h;obtain⟨a,xs,e,b,c⟩:=h;exact⟨a,xs,e,.inl b.2,c⟩
theorem Den.rdL(h:Den K F H (.lst ds) v):∃a xs,v= .ref a/\Rd H a (.lst xs)/\DenL K F H ds xs:=by
 unfold Den at h;obtain⟨a,xs,e,b,c⟩:=h;exact⟨a,xs,e,b.2,c⟩
theorem Den.scr{ns:List Int}(h:Den K F H (.scr ns) v):∃a,v= .ref a/\SqL K H a (ns.map V.int):=by
 unfold Den at h;obtain⟨a,e,b⟩:=h;exact⟨a,e,b.imp (λp=>p.2) id⟩
theorem Den.sqT(h:Den K F H (.tup ds) v):∃a xs,v= .ref a/\SqT K H a xs/\DenL K F H ds xs:=by
 unfold Den at h;obtain⟨a,xs,e,b,c⟩:=h;exact⟨a,xs,e,b.imp (λp=>p.2) id,c⟩
theorem Den.int(h:Den K F H (.int i) v):v= .int i:=h
theorem Den.bl{i:Bool}(h:Den K F H (.bl i) v):v= .bl i:=h
theorem Den.str(h:Den K F H (.str i) v):v= .str i:=h
theorem Den.non(h:Den K F H .non v):v= .non:=h
theorem Den.ty(h:Den K F H (.ty n) v):v= .ty n:=h
theorem DenL.ints:∀(ns:List Int) {xs:List V},DenL K F H (ns.map D.int) xs->xs=ns.map V.int
 |[],xs,h=>h
 |n::ns,xs,h=>by
  obtain⟨x,r,e,a,b⟩:=h;rw[e,DenL.ints ns b];have q:x= .int n:=a;rw[q];rfl
theorem DenL.ofInts:∀(ns:List Int),DenL K F H (ns.map D.int) (ns.map V.int)
 |[]=>rfl
 |n::ns=>⟨.int n,ns.map V.int,rfl,rfl,DenL.ofInts ns⟩
structure Fr (F:Fx) (H:Hp) (β:Bg):Prop where
 occ:∀a,F.A a->H a≠PM
 bgA:∀b l,F.bg=on (b,l)->F.A b/\F.A l/\b≠l
 bag:∀b l,F.bg=on (b,l)->H b=on (.lst [.ref l,.int β.i,.int β.j])/\H l=on (.lst (β.cells.map V.int))
structure To (F:Fx) (H H':Hp) (β':Bg):Prop where
 kp:∀a o,H a=on o->(∀b l,F.bg=on (b,l)->a≠b/\a≠l)->H' a=on o
 fr:Fr F H' β'
theorem To.refl{F:Fx}{H:Hp}(fr:Fr F H β):To F H H β:=⟨λ_ _ h _=>h,fr⟩
theorem To.trans{F:Fx}{H c d:Hp}(a:To F H c β1)(b:To F c d β2):To F H d β2:=⟨λx o h n=>b.kp x o (a.kp x o h n) n,b.fr⟩
theorem Fr.same{F:Fx}{H c:Hp}(fr:Fr F H β)(s:bQ H c):To F H c β:=
 ⟨λa o h _=>s a o h,⟨λa h q=>(by
  cases e:H a with
  |none=>exact fr.occ a h e
  |some o=>exact Qx ((s a o e).symm.trans q) (by simp)),fr.bgA,λb l e=>⟨s _ _ (fr.bag b l e).1,s _ _ (fr.bag b l e).2⟩⟩⟩
theorem Fr.upd{F:Fx}{H:Hp}(fr:Fr F H β)(o:HO)(h:H p=PM):To F H (upd H p o) β:=fr.same (bQ.upd h)
theorem Fr.fresh{F:Fx}{H:Hp}(fr:Fr F H β)(h:H p=PM):¬F.A p:=λq=>fr.occ p q h
theorem To.tr{F:Fx}{H c:Hp}(fr:Fr F H β)(t:To F H c β'):Tr F H F c:=
 ⟨λ_ h _=>h,λa o h e=>t.kp a o e λb l q=>⟨λz=>h (z▸(fr.bgA b l q).1),λz=>h (z▸(fr.bgA b l q).2.1)⟩,rfl⟩
abbrev Dn:=List (Option D)
structure VOk (K:Qo) (F:Fx) (H:Hp) (δ:Dn) (σ:St):Prop where
 len:δ.length=σ.length
 tell:∀(i:Nat) (d:D),δ[i]?=on (on d)->∃v,σ[i]?=on (on v)/\Den K F H d v
theorem VOk.tr{K:Qo}{F a:Fx}{H b:Hp}(t:Tr F H a b)(h:VOk K F H δ σ):VOk K a b δ σ:=⟨h.len,λi d e=>let ⟨v,h1,h2⟩:=h.tell i d e;⟨v,h1,Den.tr t d v h2⟩⟩
theorem VOk.set{K:Qo}{F:Fx}{H:Hp}{δ:Dn}{a:St}(h:VOk K F H δ a)(hd:Den K F H d v):VOk K F H (δ.set i (on d)) (a.set i (on v)):=by
 refine⟨by rw[Rc,Rc,h.len],λj c e=>?_⟩;rw[Ro]at e;rw[Ro];by_cases q:i=j
 ·subst q
  rw[P7 rfl]at e⊢;split at e
  ·rename_i b
   cases e;rw[P7 (by rw[←h.len];exact b)];exact⟨v,rfl,hd⟩
  ·cases e
 ·rw[P5 q]at e⊢
  exact h.tell j c e
def Sub(δ δ1:Dn):Prop:=∀(i:Nat) (d:D),δ[i]?=on (on d)->δ1[i]?=on (on d)
theorem VOk.sub{K:Qo}{F:Fx}{H:Hp}{δ δ1:Dn}(h:VOk K F H δ1 σ)(s:Sub δ δ1)(l:δ.length=δ1.length):VOk K F H δ σ:=⟨l.trans h.len,λi d e=>h.tell i d (s i d e)⟩
abbrev M(α:Type):=Bg->Option (Except PZ α×Bg)
noncomputable def M.ret{α:Type}(a:α):M α:=λβ=>on (.ok a,β)
noncomputable def M.bind{α b:Type}(m:M α)(k:α->M b):M b:=λβ=>match m β with
 |none=>PM
 |some (.error C,β1)=>on (.error C,β1)
 |some (.ok a,β1)=>k a β1
noncomputable def M.ofO{α:Type}(o:Option α):M α:=λβ=>match o with
 |some a=>on (.ok a,β)
 |none=>PM
noncomputable def M.fail{α:Type}:M α:=λ_=>PM
theorem M.bind_some{α b:Type}(a:α)(k:α->M b):M.bind (M.ofO (on a)) k=k a:=rfl
theorem M.bind_ok{α b:Type}{m:M α}{k:α->M b}{β β1:Bg}{a:α}(h:m β=on (.ok a,β1)):M.bind m k β=k a β1:=by unfold M.bind;rw[h]
theorem M.bind_err{α a:Type}{m:M α}{k:α->M a}{β β1:Bg}{C:PZ}(h:m β=on (.error C,β1)):M.bind m k β=on (.error C,β1):=by unfold M.bind;rw[h]
def run{α c:Type}(R:Hp->α->c->Prop)(F:Fx)(E:St->XK)(e:St)(m:M α)(H:Hp)(Q:c->Hp->Prop)(β:Bg):Prop:=
 ∃r a,m β=on (r,a)/\match r with
  | .ok d=>∀v b,To F H b a->R b d v->Q v b
  | .error C=>∀b,To F H b a->E e (.ref C) PM b
theorem run.mono{α c:Type}{R:Hp->α->c->Prop}{F:Fx}{E:St->XK}{g:St}{m:M α}{H:Hp}{Q i:c->Hp->Prop}{β:Bg}(h:run R F E g m H Q β)(f:∀v a,Q v a->i v a):run R F E g m H i β:=by
 obtain⟨r,b,e,h⟩:=h;refine⟨r,b,e,?_⟩;cases r with
 |ok d=>exact λv a t q=>f v a (h v a t q)
 |error C=>exact h
theorem run.bind{α l i j:Type}{R:Hp->α->l->Prop}{R2:Hp->i->j->Prop}{F:Fx}{E:St->XK}{b:St}{m:M α}{k:α->M i}{H:Hp}{Q:j->Hp->Prop}{β:Bg}(h:run R2 F E b (M.bind m k) H Q β):
  run R F E b m H (λv a=>∃d β1,To F H a β1/\R a d v/\run R2 F E b (k d) a Q β1) β:=by
 obtain⟨r,c,e,h⟩:=h;cases q:m β with
 |none=>unfold M.bind at e;rw[q]at e;cases e
 |some z=>
  obtain⟨r1,β1⟩:=z;refine⟨r1,β1,q,?_⟩;cases r1 with
  |error C=>
   rw[M.bind_err q]at e;cases e;exact h
  |ok d=>
   rw[M.bind_ok q]at e;intro v a t hd;refine⟨d,β1,t,hd,r,c,e,?_⟩;cases r with
   |ok d2=>exact λn f g o=>h n f (t.trans g) o
   |error C=>exact λf g=>h f (t.trans g)
theorem run.ret{α b:Type}{R:Hp->α->b->Prop}{F:Fx}{E:St->XK}{c:St}{a:α}{v:b}{H:Hp}{Q:b->Hp->Prop}{β:Bg}(fr:Fr F H β)(h:run R F E c (M.ret a) H Q β)(r:R H a v):Q v H:=by
 obtain⟨_,_,e,h⟩:=h;cases e;exact h v H (To.refl fr) r
theorem run.ofO{α c:Type}{R:Hp->α->c->Prop}{F:Fx}{E:St->XK}{d:St}{o:Option α}{H:Hp}{Q:c->Hp->Prop}{β:Bg}(h:run R F E d (M.ofO o) H Q β):∃a,o=on a/\∀v b,To F H b β->R b a v->Q v b:=by
 obtain⟨_,_,e,h⟩:=h;cases o with
 |none=>cases e
 |some a=>cases e;exact⟨a,rfl,h⟩
abbrev FD:=Dn->M D
abbrev FL:=Dn->M (List D)
def tV(K:Qo)(f:FD)(E:St->XK):TE:=λa H Q=>∃F δ β,Fr F H β/\VOk K F H δ a/\run (Den K F) F E a (f δ) H Q β
def tVA(K:Qo)(f:FL)(E:St->XK):TA:=λa H Q=>∃F δ β,Fr F H β/\VOk K F H δ a/\run (DenL K F) F E a (f δ) H Q β
def tVT(K:Qo)(f:Dn->M Bool)(E:St->XK):TT:=λc H Q=>∃F δ β,Fr F H β/\VOk K F H δ c/\run (λ_ (a b:Bool)=>b=a) F E c (f δ) H Q β
theorem _root_.L2.PE.imp(h:PE X e t)(f:∀a H Q,t' a H Q->t a H Q):PE X e t':=λb s a H Q I q=>h b s a H Q I (f a H Q q)
theorem _root_.L2.PT.imp(h:PT X e t)(f:∀a H Q,t' a H Q->t a H Q):PT X e t':=λb s a H Q I q=>h b s a H Q I (f a H Q q)
theorem _root_.L2.PW.imp(h:PW X e t)(f:∀a H Q,t' a H Q->t a H Q):PW X e t':=λc b s a H Q I q=>h c b s a H Q I (f a H Q q)
theorem _root_.L2.PA.imp(h:PA X e t)(f:∀a H Q,t' a H Q->t a H Q):PA X e t':=λpos b s a H Q I q=>h pos b s a H Q I (f a H Q q)
def am(i:Nat):FD:=λδ=>M.ofO (δ.getD i PM)
def fC(d:D):FD:=λ_=>M.ret d
def f1(op:D->Option D)(f:FD):FD:=λδ=>M.bind (f δ) λa=>M.ofO (op a)
def f2(op:D->D->Option D)(f g:FD):FD:=λδ=>M.bind (f δ) λa=>M.bind (g δ) λb=>M.ofO (op a b)
noncomputable def aD:FL:=λ_=>M.ret []
def ae(f:FD)(g:FL):FL:=λδ=>M.bind (f δ) λa=>M.bind (g δ) λas=>M.ret (a::as)
def aL(op:List D->Option D)(g:FL):FD:=λδ=>M.bind (g δ) λas=>M.ofO (op as)
def eK(m:List D->M D)(g:FL):FD:=λδ=>M.bind (g δ) λas=>m as
variable{X:Cx}{E:St->XK}{e a b:Expr}{es:List Expr}{pos:UE}
theorem OG(i:Nat)(h:PE X (.Name x pos) (qA i)):PE X (.Name x pos) (tV X.K (am i) E):=h.imp λl H Q c=>by
 obtain⟨F,δ,β,fr,f,r⟩:=c;obtain⟨d,e,r⟩:=run.ofO r;have g:δ[i]?=on (on d):=by
  rw[PV]at e;cases q:δ[i]? with
  |none=>rw[q]at e;cases e
  |some z=>rw[q]at e;simp at e;rw[e]
 obtain⟨v,j,k⟩:=f.tell i d g;exact⟨v,j,r v H (To.refl fr) k⟩
theorem v_c(h:PE X e (tC v))(hd:∀F H,Den X.K F H d v):PE X e (tV X.K (fC d) E):=h.imp λf H Q c=>by obtain⟨F,δ,β,fr,g,r⟩:=c;exact run.ret fr r (hd F H)
theorem aj{i j pos}:PE X (.Constant (.int i) j pos) (tV X.K (fC (.int i)) E):=v_c bV λ_ _=>rfl
theorem eM{i j pos}:PE X (.Constant (.bool i) j pos) (tV X.K (fC (.bl i)) E):=v_c OW λ_ _=>rfl
theorem wS{j pos}:PE X (.Constant .none j pos) (tV X.K (fC .non) E):=v_c Mn λ_ _=>rfl
theorem gf:PA X [] (tVA X.K aD E):=jj.imp λd H Q c=>by obtain⟨F,δ,β,fr,f,r⟩:=c;exact run.ret fr r DenL.nil
theorem d7(ha:PE X e (tV X.K f E))(k:PA X es (tVA X.K g E))(hs:Qg (e::es) X.env=(PX,Rk e X.env)::Qg es X.env:=by rfl):PA X (e::es) (tVA X.K (ae f g) E):=
 (fi ha k hs).imp λm H Q c=>ex6 c λF δ β fr i r=>⟨F,δ,β,fr,i,(run.bind (R:=Den X.K F) r).mono λv n ⟨d,β1,t,hd,r1⟩=>
  ⟨F,δ,β1,t.fr,i.tr (t.tr fr),(run.bind (R:=DenL X.K F) r1).mono λvs o c=>ex5 c λds β2 j h l=>run.ret j.fr l (DenL.cons (Den.tr (j.tr t.fr) _ _ hd) h)⟩⟩
def bh(K:Qo)(r:R2)(op:D->D->Option D):Prop:=∀(F:Fx) (H:Hp) (β:Bg) (Q:VK) (d1 d2 d:D) (f g:V),Fr F H β->Den K F H d1 f->Den K F H d2 g->op d1 d2=on d->
 (∀v c,To F H c β->Den K F c d v->Q v c)->r f g H Q
def JG(K:Qo)(r:V->Hp->VK->Prop)(op:D->Option D):Prop:=∀(F:Fx) (H:Hp) (β:Bg) (Q:VK) (d1 d:D) (f:V),Fr F H β->Den K F H d1 f->op d1=on d->
 (∀v c,To F H c β->Den K F c d v->Q v c)->r f H Q
def eL(K:Qo)(r:List V->Hp->VK->Prop)(op:List D->Option D):Prop:=∀(F:Fx) (H:Hp) (β:Bg) (Q:VK) (ds:List D) (d:D) (vs:List V),Fr F H β->DenL K F H ds vs->op ds=on d->
 (∀v c,To F H c β->Den K F c d v->Q v c)->r vs H Q
theorem o8{K:Qo}(l:bh K r op){H:Hp}(h:tV K (f2 op f g) E σ H Q):tOp r (tV K f E) (tV K g E) σ H Q:=by
 obtain⟨F,δ,β,fr,j,h⟩:=h;refine⟨F,δ,β,fr,j,(run.bind (R:=Den K F) h).mono λv u c=>ex5 c λd β1 t hd r1=>⟨F,δ,β1,t.fr,j.tr (t.tr fr),(run.bind (R:=Den K F) r1).mono λn o c=>ex5 c λd2 β2 m i p=>?_⟩⟩;obtain⟨d3,q,k⟩:=run.ofO p;exact l F o β2 Q d d2 d3 v n m.fr (Den.tr (m.tr t.fr) _ _ hd) i q k
theorem bc(c:OpR X (SL op) r)(l:bh X.K r o)(ha:PE X a (tV X.K f E))(d:PE X b (tV X.K g E)):PE X (.BinOp a op b pos) (tV X.K (f2 o f g) E):=
 (dX c ha d).imp λ_ _ _=>o8 l
theorem iD(c:OpR X (Rg op) r)(l:bh X.K r o)(ha:PE X a (tV X.K f E))(d:PE X b (tV X.K g E))(hm:UR op b=PX:=by first|exact ur _|rfl):PE X (.Compare a [op] [b] pos) (tV X.K (f2 o f g) E):=
 (KI c ha d hm).imp λ_ _ _=>o8 l
theorem v_un(g:UnR X (unaryOp op) r)(l:JG X.K r o)(ha:PE X a (tV X.K f E)):PE X (.UnaryOp op a pos) (tV X.K (f1 o f) E):=
 (OV g ha).imp λm H Q c=>ex6 c λF δ β fr i h=>⟨F,δ,β,fr,i,(run.bind (R:=Den X.K F) h).mono λv j c=>ex5 c λd β1 t hd r1=>let ⟨d3,e3,k⟩:=run.ofO r1;l F j β1 Q d d3 v t.fr hd e3 k⟩
theorem bA(c:IxR X r)(l:bh X.K r o)(ha:PE X a (tV X.K f E))(d:PE X b (tV X.K g E))(hs:rb b:=by exact λ_ _=>rfl):PE X (.Subscript a b pos) (tV X.K (f2 o f g) E):=
 (gR c ha d hs).imp λ_ _ _=>o8 l
theorem yB{K:Qo}(l:eL K r op){H:Hp}(h:tV K (aL op g) E σ H Q):tCB r (tVA K g E) σ H Q:=by
 obtain⟨F,δ,β,fr,c,h⟩:=h;refine⟨F,δ,β,fr,c,(run.bind (R:=DenL K F) h).mono λv f i=>ex5 i λd β1 t hd r1=>?_⟩;obtain⟨d3,j,k⟩:=run.ofO r1;exact l F f β1 Q d d3 v t.fr hd j k
theorem cz{f:String}(h:dF X (.builtin f) r)(l:eL X.K r op)(i:Gl X x)(hm:X.mg x=PM)(j:T5 x=on (.builtin f))(ha:PA X (e::es) (tVA X.K g E))(hn:x≠"__name__":=by decide)(c:(x==("__debug__":QO))=PX:=by decide)
  (k:Qg (e::es) X.env=(PX,Rk e X.env)::Qg es X.env:=by rfl) (d:(SA pos (Qg es X.env)).any (·.1)=PX:=by rfl):PE X (.Call (.Name x p) (e::es) [] pos) (tV X.K (aL op g) E):=
 (lf h i hm j ha hn c k d).imp λ_ _ _=>yB l
theorem bS(f:dF X (.type T) r)(l:eL X.K r op)(h:Gl X x)(hm:X.mg x=PM)(i:T5 x=on (.type T))(ha:PA X (e::es) (tVA X.K g E))(hn:x≠"__name__":=by decide)(c:(x==("__debug__":QO))=PX:=by decide)
  (j:Qg (e::es) X.env=(PX,Rk e X.env)::Qg es X.env:=by rfl) (d:(SA pos (Qg es X.env)).any (·.1)=PX:=by rfl):PE X (.Call (.Name x p) (e::es) [] pos) (tV X.K (aL op g) E):=
 (zi f h hm i ha hn c j d).imp λ_ _ _=>yB l
noncomputable def fX(ds:List D):Option D:=if ds.length<=Qp then on (.tup ds)else PM
noncomputable def dZ(ds:List D):Option D:=if ds.length<=Qp then on (.lst ds)else PM
theorem Den.newT{K:Qo}{F:Fx}{H:Hp}(fr:Fr F H β)(h:H p=PM)(hd:DenL K F H ds xs):Den K F (upd H p (.tup xs)) (.tup ds) (.ref p):=
 ⟨p,xs,rfl,.inl ⟨fr.fresh h,.inl ao⟩,DenL.tr ((fr.upd _ h).tr fr) _ _ hd⟩
theorem Den.newL{K:Qo}{F:Fx}{H:Hp}(fr:Fr F H β)(h:H p=PM)(hd:DenL K F H ds xs):Den K F (upd H p (.lst xs)) (.lst ds) (.ref p):=
 ⟨p,xs,rfl,⟨fr.fresh h,.inl ao⟩,DenL.tr ((fr.upd _ h).tr fr) _ _ hd⟩
theorem cJ{x1}(h:PA X es (tVA X.K g E)):PE X (.Tuple es x1 pos) (tV X.K (aL fX g) E):=
 (Mi h).imp λj H Q d=>ex6 d λF δ β fr i r=>⟨F,δ,β,fr,i,(run.bind (R:=DenL X.K F) r).mono λvs l d=>by
  obtain⟨ds,β1,t,hd,r1⟩:=d;obtain⟨d3,c,k⟩:=run.ofO r1;unfold fX at c;split at c
  ·cases c
   exact⟨by rw[←hd.length];assumption,λp f=>k _ _ (t.fr.upd _ f) (Den.newT t.fr f hd)⟩
  ·cases c⟩
theorem eF(h:PA X es (tVA X.K g E)):PE X (.List es pos) (tV X.K (aL dZ g) E):=
 (fJ h).imp λj H Q d=>ex6 d λF δ β fr i r=>⟨F,δ,β,fr,i,(run.bind (R:=DenL X.K F) r).mono λvs l d=>by
  obtain⟨ds,β1,t,hd,r1⟩:=d;obtain⟨d3,c,k⟩:=run.ofO r1;unfold dZ at c;split at c
  ·cases c
   exact⟨by rw[←hd.length];assumption,λp f=>k _ _ (t.fr.upd _ f) (Den.newL t.fr f hd)⟩
  ·cases c⟩
def spF(K:Qo)(n:Nat)(m:List D->M D):Sp:=λvs H Q E=>vs.length=n/\∃F ds β,Fr F H β/\DenL K F H ds vs/\run (Den K F) F (λ_=>E) [] (m ds) H Q β
variable{p:UE}{x:QO}{k n:Nat}{f:PZ}{fd:Qu}{ps:List QO}
theorem run.toE{α c:Type}{R:Hp->α->c->Prop}{F:Fx}{E:St->XK}{d:St}{m:M α}{H:Hp}{Q:c->Hp->Prop}{β:Bg}(h:run R F E d m H Q β):run R F (λ_=>E d) [] m H Q β:=h
theorem yo(G:FnOk X.prog X.w X.K X.mg X.base (CXE X.prog X.w) k f fd ps (spF X.K n m))(q:Room k X.A)(u:Gl X x)(hm:X.mg x=on (.ref f))(v:Vr X.K (.ref f)=PQ)(y:aC X.K fd ps [])(B:dE (CXE X.prog X.w) X E)
  (ha:PA X (e::es) (tVA X.K g E)) (hn:∀δ β r h,g δ β=on (.ok r,h)->r.length=n) (c:(x==("__debug__":QO))=PX:=by decide) (I:Qg (e::es) X.env=(PX,Rk e X.env)::Qg es X.env:=by rfl) (d:(SA pos (Qg es X.env)).any (·.1)=PX:=by rfl):
  PE X (.Call (.Name x p) (e::es) [] pos) (tV X.K (eK m g) E):=
 (nu G q u hm v y .nil B ha c I d).imp λT H Q J=>ex6 J λF δ β fr L r=>⟨F,δ,β,fr,L,by
  obtain⟨r0,i,l,o⟩:=run.bind (R:=DenL X.K F) r;refine⟨r0,i,l,?_⟩;cases r0 with
  |error C=>exact o
  |ok ds=>
   intro vs N t hd;obtain⟨d',β1,O,j,r1⟩:=o vs N t hd;have P:=hn _ _ _ _ l;refine⟨by rw[QY,←hd.length,P],F,d',β1,O.fr,by rw[QY];exact j,run.toE r1⟩⟩
theorem GY{r:List D}(h:aD δ β=on (.ok r,β')):r.length=0:=by cases h;rfl
theorem bq{f:FD}{n:Nat}(d:∀δ β r c,g δ β=on (.ok r,c)->r.length=n):∀δ β r c,ae f g δ β=on (.ok r,c)->r.length=n+1:=by
 intro δ β r c h;unfold ae M.bind at h;split at h
 ·cases h
 ·cases h
 ·dsimp only at h
  split at h
  ·cases h
  ·cases h
  ·rename_i as _ i
   cases h;rw[Qe,d _ _ _ _ i]
noncomputable def opI(g:Int->Int->Option D):D->D->Option D
 | .int i,.int j=>g i j
 |_,_=>PM
theorem gE{a b d:D}(h:opI g a b=on d):∃i j,a= .int i/\b= .int j/\g i j=on d:=by
 cases a<;>cases b<;>first|(exact⟨_,_,rfl,rfl,h⟩)|(cases h)
theorem zM{g:Int->Int->Int}:bh K (rI0 λi j=> .int (g i j)) (opI λi j=>on (.int (g i j))):=λF H β Q d1 d2 d l m fr c h e k=>by
 obtain⟨i,j,rfl,rfl,e⟩:=gE e;cases e;exact⟨i,j,c,h,k _ H (To.refl fr) rfl⟩
theorem iS{g:Int->Int->Bool}:bh K (rI0 λi j=> .bl (g i j)) (opI λi j=>on (.bl (g i j))):=λF H β Q d1 d2 d l m fr c h e k=>by
 obtain⟨i,j,rfl,rfl,e⟩:=gE e;cases e;exact⟨i,j,c,h,k _ H (To.refl fr) rfl⟩
theorem mx{C:Int->Int->Prop}{c:Int->Int->Bool}{g:Int->Int->Int}(l:∀i j,c i j=PQ->C i j):bh K (rI C λi j=> .int (g i j)) (opI λi j=>if c i j=PQ then on (.int (g i j))else PM):=λF H β Q d1 d2 d q r fr m o e k=>by
 obtain⟨i,j,rfl,rfl,h⟩:=gE e;split at h
 ·cases h
  exact⟨i,j,m,o,l _ _ (by assumption),k _ H (To.refl fr) rfl⟩
 ·cases h
noncomputable def gW(i:Int):Bool:=decide (i.natAbs<2^1000)
def BX:D->D->Option D:=opI λi j=>on (.int (i-j))
def xW:D->D->Option D:=opI λi j=>if(decide (0<j)&&decide (j.natAbs.log2<9000))=PQ then on (.int (i/j))else PM
def MJ:D->D->Option D:=opI λi j=>if decide (0<j)=PQ then on (.int (i % j))else PM
def ltD:D->D->Option D:=opI λi j=>on (.bl (decide (i<j)))
def leD:D->D->Option D:=opI λi j=>on (.bl (decide (i<=j)))
def gtD:D->D->Option D:=opI λi j=>on (.bl (decide (j<i)))
def geD:D->D->Option D:=opI λi j=>on (.bl (decide (j<=i)))
theorem iT:bh K (rI0 λi j=> .int (i-j)) BX:=zM
theorem lA:bh K (rI0 λi j=> .bl (decide (i<j))) ltD:=iS
theorem lC:bh K (rI0 λi j=> .bl (decide (i<=j))) leD:=iS
theorem uK:bh K (rI0 λi j=> .bl (decide (j<i))) gtD:=iS
theorem l_ge:bh K (rI0 λi j=> .bl (decide (j<=i))) geD:=iS
theorem MT:bh K (rI tq λi j=> .int (i/j)) xW:=mx λi j h=>by
 simp only[QJ,QU]at h;exact h
theorem Pb:bh K (rI (λ_ j=>0<j) λi j=> .int (i % j)) MJ:=mx λi j h=>Rx h
noncomputable def xl:R2:=λx y H Q=>∃l b xs c,x= .ref l/\y= .ref b/\Rd H l (.lst xs)/\Rd H b (.lst c)/\xs.length+c.length<=Qp/\∀p,H p=PM->Q (.ref p) (upd H p (.lst (xs++c)))
theorem KN:OpR X (SL .Add) xl:=by
 intro d s t H x y v u Q I i j h;obtain⟨l,b,xs,w,rfl,rfl,m,hB,A,q⟩:=h;cases i;cases j;obtain⟨z,its,n,r,e⟩:=m.ok I.hok;obtain⟨B,c,C,g,o⟩:=hB.ok I.hok;have J:=r.length;have L:=g.length;refine YA e o ?_ (by simp only[Qn];omega);rw[show its.toArray++c.toArray=(its++c).toArray by simp];exact⟨.ref _,_,I.lnew (t':=s.toks) (r.append g) (by rw[Qm];omega),rfl,q _ I.fresh⟩
def xm(K:Qo):R2:=λx y H Q=>∃a b ys,x= .ref a/\y= .ref b/\SqT K H a []/\SqT K H b ys/\Q (.ref b) H
theorem KO:OpR X (SL .Add) (xm X.K):=by
 intro l s O H x y v u Q I t w h;obtain⟨a,b,ys,rfl,rfl,ha,A,q⟩:=h;cases t;cases w;obtain⟨its,r1,B,_⟩:=I.tuple ha;obtain⟨m,P,C,_⟩:=I.tuple A;cases r1;obtain⟨⟨c1,d1,J,i⟩,o,r,n,hd⟩:=B;obtain⟨⟨c2,d2,L,j⟩,c,d,N,g⟩:=C;simp only at r hd d g;subst r hd d g;exact PySem.concat_meets ⟨_,o,rfl⟩ ⟨_,c,rfl⟩ Xl YI Vo Ve (U5 _ _) (tuple_addW0 a b _ _ n N d1 d2 i j (by simp)) ⟨o,c,⟨.ref b,H,I,rfl,q⟩⟩
noncomputable def oZ:D->D->Option D
 | .int i,.int j=>on (.int (i+j))
 | .tup [],.tup b=>on (.tup b)
 | .lst a,.lst b=>if a.length+b.length<=Qp then on (.lst (a++b))else PM
 | .tup (c::a),.tup b=>if(c::a).length+b.length<=Qp then on (.tup (c::a++b))else PM
 |_,_=>PM
theorem cf:bh K (λx y H Q=>(rI0 λi j=> .int (i+j)) x y H Q\/xl x y H Q\/xk K x y H Q\/xm K x y H Q) oZ:=λF H β Q d1 d2 d v w fr h l e k=>by
 unfold oZ at e;split at e
 ·cases e
  exact .inl ⟨_,_,h,l,k _ H (To.refl fr) rfl⟩
 ·cases e
  obtain⟨a,xs,rfl,r1,c⟩:=Den.sqT h;obtain⟨b,ys,rfl,m,g⟩:=Den.sqT l;have q:xs=[]:=c;subst q;exact .inr (.inr (.inr ⟨a,b,ys,rfl,rfl,r1,m,k _ H (To.refl fr) l⟩))
 ·split at e
  ·cases e
   obtain⟨a,xs,rfl,r1,c⟩:=Den.rdL h;obtain⟨b,ys,rfl,m,g⟩:=Den.rdL l;exact .inr (.inl ⟨a,b,xs,ys,rfl,rfl,r1,m,by rw[←c.length,←g.length];assumption,λp o=>k _ _ (fr.upd _ o) (Den.newL fr o (c.append g))⟩)
  ·cases e
 ·split at e
  ·cases e
   obtain⟨a,xs,rfl,r1,c⟩:=Den.sqT h;obtain⟨b,ys,rfl,m,g⟩:=Den.sqT l;have r:=c.length;have t:=g.length;refine .inr (.inr (.inl ⟨a,b,xs,ys,rfl,rfl,r1,m,(λz=>by subst z;cases r),by rw[←r,←t];assumption,λz=>?_,λ_ p o=>k _ _ (fr.upd _ o) (Den.newT fr o (c.append g))⟩));subst z;have u:=SZ.mp t;subst u;rw[QY]at k;exact k _ H (To.refl fr) h
  ·cases e
 ·cases e
theorem aW:OpR X (SL .Add) (λx y H Q=>(rI0 λi j=> .int (i+j)) x y H Q\/xl x y H Q\/xk X.K x y H Q\/xm X.K x y H Q):=pM.or (KN.or (KM.or KO))
def CZ:D->D->Option D:=opI λi j=>if(gW i&&gW j)=PQ then on (.int (i*j))else PM
theorem lz:bh K (rI tj λi j=> .int (i*j)) CZ:=mx λi j h=>by
 simp only[QJ,gW,QU]at h;exact h
noncomputable def eqS:D->D->Option Bool
 | .non,.non=>on PQ
 | .int i,.int j=>on (decide (i=j))
 | .bl i,.bl j=>on (decide (i=j))
 | .str i,.str j=>on (decide (i=j))
 | .int _,.str _=>on PX
 | .str _,.int _=>on PX
 | .bl _,.str _=>on PX
 | .str _,.bl _=>on PX
 | .non,.int _=>on PX
 | .int _,.non=>on PX
 | .non,.str _=>on PX
 | .str _,.non=>on PX
 |_,_=>PM
theorem AJ{F:Fx}{H:Hp}{a b:D}{c:Bool}(h:eqS a b=on c)(d:Den K F H a v)(g:Den K F H b w):CA v w=PQ/\decide (v=w)=c:=by
 unfold eqS at h;split at h<;>first
  |(cases h;cases d.int;cases g.int;exact⟨rfl,by simp⟩)
  |(cases h;cases d.bl;cases g.bl;exact⟨rfl,by simp⟩)
  |(cases h;cases d.str;cases g.str;exact⟨rfl,by simp⟩)
  |(cases h;cases d.non;cases g.non;exact⟨rfl,by simp⟩)
  |(cases h;cases d.int;cases g.str;exact⟨rfl,rfl⟩)
  |(cases h;cases d.str;cases g.int;exact⟨rfl,rfl⟩)
  |(cases h;cases d.bl;cases g.str;exact⟨rfl,rfl⟩)
  |(cases h;cases d.str;cases g.bl;exact⟨rfl,rfl⟩)
  |(cases h;cases d.non;cases g.int;exact⟨rfl,rfl⟩)
  |(cases h;cases d.int;cases g.non;exact⟨rfl,rfl⟩)
  |(cases h;cases d.non;cases g.str;exact⟨rfl,rfl⟩)
  |(cases h;cases d.str;cases g.non;exact⟨rfl,rfl⟩)
  |cases h
noncomputable def isN:D->Bool
 | .non=>PQ
 |_=>PX
theorem MY{F:Fx}{H:Hp}(h:Den K F H d v):decide (v= .non)=isN d:=by
 cases d with
 |non=>cases h.non;rfl
 |bl b=>cases h.bl;rfl
 |int b=>cases h.int;rfl
 |str b=>cases h.str;rfl
 |ty b=>cases h.ty;rfl
 |txt=>unfold Den at h;obtain⟨z,rfl⟩:=h;rfl
 |lst ds=>obtain⟨a,xs,rfl,_⟩:=Den.sqL h;rfl
 |tup ds=>obtain⟨a,xs,rfl,_⟩:=Den.sqT h;rfl
 |scr ds=>obtain⟨a,rfl,_⟩:=Den.scr h;rfl
 |obj C ns ds=>
  unfold Den at h;obtain⟨a,_,_,rfl,_⟩:=h;rfl
 |bag=>
  unfold Den at h;obtain⟨a,_,_,rfl⟩:=h;rfl
 |adr a=>
  unfold Den at h;obtain rfl:=h;rfl
 |dct b ks vs=>
  unfold Den at h;obtain⟨a,_,xs,rfl,_⟩:=h;rfl
noncomputable def xN:D->D->Option D
 |a,.non=>on (.bl (isN a))
 |_,_=>PM
theorem xG:bh K (λx y H Q=>y= .non/\Q (.bl (decide (x= .non))) H) xN:=λF H β Q d1 d2 d h i fr c g e k=>by
 unfold xN at e;split at e
 ·cases e
  exact⟨g,by rw[MY c];exact k _ H (To.refl fr) rfl⟩
 ·cases e
noncomputable def gs:D->Bool
 | .int _=>PQ| .bl _=>PQ| .str _=>PQ| .non=>PQ|_=>PX
noncomputable def eqF:D->D->Bool
 | .non,.non=>PQ
 | .bl a,.bl b=>a==b
 | .bl a,.int b=>(if a then 1 else 0)==b
 | .int a,.bl b=>a==(if b then 1 else 0)
 | .int a,.int b=>a==b
 | .str a,.str b=>a==b
 |_,_=>PX
noncomputable def fU:D->Option (List D)
 | .lst a=>on a
 | .tup a=>on a
 |_=>PM
def inB(x:D)(ys:List D):Bool:=ys.any λy=>eqF y x
def inD(neg:Bool)(x y:D):Option D:=(fU y).bind λys=>if(gs x&&ys.all gs)=PQ then on (.bl (if neg then !inB x ys else inB x ys))else PM
theorem qT{F:Fx}{H:Hp}(f:gs d=PQ)(h:Den K F H d v):gU v=PQ:=by
 cases d<;>first|(cases h.int;rfl)|(cases h.bl;rfl)|(cases h.str;rfl)|(cases h.non;rfl)|cases f
theorem Nf{F:Fx}{H:Hp}{a b:D}(g:gs a=PQ)(h:gs b=PQ)(c:Den K F H a v)(d:Den K F H b w):eqV v w=eqF a b:=by
 cases a<;>first
  |(exfalso;exact P8 g)
  |(cases b<;>first
   |(exfalso;exact P8 h)
   |(cases c.int;cases d.int;rfl)|(cases c.int;cases d.bl;rfl)|(cases c.int;cases d.str;rfl)|(cases c.int;cases d.non;rfl)
   |(cases c.bl;cases d.int;rfl)|(cases c.bl;cases d.bl;rfl)|(cases c.bl;cases d.str;rfl)|(cases c.bl;cases d.non;rfl)
   |(cases c.str;cases d.int;rfl)|(cases c.str;cases d.bl;rfl)|(cases c.str;cases d.str;rfl)|(cases c.str;cases d.non;rfl)
   |(cases c.non;cases d.int;rfl)|(cases c.non;cases d.bl;rfl)|(cases c.non;cases d.str;rfl)|(cases c.non;cases d.non;rfl))
theorem uQ{F:Fx}{H:Hp}{x:D}(c:gs x=PQ)(g:Den K F H x v):∀{ds:List D} {vs:List V},ds.all gs=PQ->DenL K F H ds vs->vs.all gU=PQ/\inV v vs=inB x ds
 |[],vs,_,h=>by have q:vs=[]:=h;subst q;exact⟨rfl,rfl⟩
 |d::ds,vs,f,h=>by
  obtain⟨y,r,q,i,l⟩:=h;subst q;rw[V6,QJ]at f;obtain⟨m,j⟩:=uQ c g f.2 l;refine⟨by rw[V6,qT f.1 i,m];rfl,?_⟩;unfold inV inB at j⊢;rw[Vj,Vj,j,Nf f.1 c i g]
theorem DQ{neg:Bool}:bh K (rIn K neg) (inD neg):=λF H β Q d1 d2 d l m fr g j e k=>by
 unfold inD at e;cases q:fU d2 with
 |none=>rw[q]at e;cases e
 |some ys=>
  rw[q]at e;simp only[Tt]at e;split at e
  ·rename_i c
   rw[QJ]at c;cases e;cases d2<;>first|(cases q;obtain⟨a,xs,rfl,r1,dl⟩:=Den.sqL j;obtain⟨h,i⟩:=uQ c.1 g c.2 dl;exact⟨a,xs,rfl,.inl r1,qT c.1 g,h,by rw[i];exact k _ H (To.refl fr) rfl⟩)|(cases q;obtain⟨a,xs,rfl,r1,dl⟩:=Den.sqT j;obtain⟨h,i⟩:=uQ c.1 g c.2 dl;exact⟨a,xs,rfl,.inr r1,qT c.1 g,h,by rw[i];exact k _ H (To.refl fr) rfl⟩)|cases q
  ·cases e
def ixD:D->D->Option D
 | .lst xs,.int i=>atI xs i
 | .tup xs,.int i=>atI xs i
 |_,_=>PM
theorem AY{F:Fx}{H:Hp}(h:DenL K F H ds vs)(e:atI ds i=on d):∃v,atI vs i=on v/\Den K F H d v:=by
 unfold atI at e⊢;rw[←h.length];cases q:ixN ds.length i with
 |none=>rw[q]at e;cases e
 |some j=>
  rw[q]at e;exact h.get e
theorem bF:bh K (λx y H Q=>xj K x y H Q\/CD K x y H Q) ixD:=λF H β Q d1 d2 d i j fr g h e k=>by
 unfold ixD at e;split at e
 ·obtain⟨a,xs,rfl,r1,dl⟩:=Den.sqL g
  obtain⟨v,c,hd⟩:=AY dl e;exact .inl ⟨a,xs,_,v,rfl,h,r1,c,k _ H (To.refl fr) hd⟩
 ·obtain⟨a,xs,rfl,r1,dl⟩:=Den.sqT g
  obtain⟨v,c,hd⟩:=AY dl e;exact .inr ⟨a,xs,_,v,rfl,h,r1,c,k _ H (To.refl fr) hd⟩
 ·cases e
theorem aJ:IxR X (λx y H Q=>xj X.K x y H Q\/CD X.K x y H Q):=d8.or MX
noncomputable def eU:List D->Option D
 |[.lst xs]=>on (.int xs.length)
 |[.tup xs]=>on (.int xs.length)
 |_=>PM
theorem DenL.one{F:Fx}{H:Hp}(h:DenL K F H [d] vs):∃v,vs=[v]/\Den K F H d v:=by
 obtain⟨x,r,e,c,g⟩:=h;have q:r=[]:=g;subst q;exact⟨x,e,c⟩
theorem DenL.two{F:Fx}{H:Hp}(h:DenL K F H [d,c] vs):∃v w,vs=[v,w]/\Den K F H d v/\Den K F H c w:=by
 obtain⟨x,r,e,g,i⟩:=h;obtain⟨y,rfl,j⟩:=DenL.one i;exact⟨x,y,e,g,j⟩
theorem Pd:eL K (λxs H Q=>∃p ys,xs=[.ref p]/\(SqL K H p ys\/SqT K H p ys)/\Q (.int ys.length) H) eU:=λF H β Q ds d vs fr h e k=>by
 unfold eU at e;split at e
 ·cases e
  obtain⟨v,rfl,g⟩:=DenL.one h;obtain⟨a,xs,rfl,r,dl⟩:=Den.sqL g;exact⟨a,xs,rfl,.inl r,by rw[←dl.length];exact k _ H (To.refl fr) rfl⟩
 ·cases e
  obtain⟨v,rfl,g⟩:=DenL.one h;obtain⟨a,xs,rfl,r,dl⟩:=Den.sqT g;exact⟨a,xs,rfl,.inr r,by rw[←dl.length];exact k _ H (To.refl fr) rfl⟩
 ·cases e
noncomputable def uA:List D->Option D
 |[.int i,.int j]=>on (.int (if j<i then j else i))
 |_=>PM
noncomputable def xx:List D->Option D
 |[.int i,.int j]=>on (.int (if j>i then j else i))
 |_=>PM
theorem xF:eL K (λxs H Q=>∃i j,xs=[.int i,.int j]/\Q (.int (if j<i then j else i)) H) uA:=λF H β Q ds d vs fr h e k=>by
 unfold uA at e;split at e
 ·cases e
  obtain⟨v,w,rfl,g,g'⟩:=DenL.two h;cases g.int;cases g'.int;exact⟨_,_,rfl,k _ H (To.refl fr) rfl⟩
 ·cases e
theorem IO:eL K (λxs H Q=>∃i j,xs=[.int i,.int j]/\Q (.int (if j>i then j else i)) H) xx:=λF H β Q ds d vs fr h e k=>by
 unfold xx at e;split at e
 ·cases e
  obtain⟨v,w,rfl,g,g'⟩:=DenL.two h;cases g.int;cases g'.int;exact⟨_,_,rfl,k _ H (To.refl fr) rfl⟩
 ·cases e
noncomputable def eV:List D->Option (List Int)
 |[]=>on []
 | .int i::r=>(eV r).map (i::·)
 |_=>PM
theorem intsOf_eq:∀{ds:List D} {ns:List Int},eV ds=on ns->ds=ns.map D.int
 |[],ns,h=>by cases h;rfl
 |d::ds,ns,h=>by
  cases d with
  |int i=>
   unfold eV at h;cases q:eV ds with
   |none=>rw[q]at h;cases h
   |some c=>rw[q]at h;cases h;rw[intsOf_eq q];rfl
  |_=>cases h
def BV:List D->Option D
 |[.lst xs]=>(eV xs).map λns=> .int ns.sum
 |_=>PM
theorem O8:eL K (λxs H Q=>∃(a:PZ) (ns:List Int),xs=[.ref a]/\SqL K H a (ns.map V.int)/\Q (.int ns.sum) H) BV:=λF H β Q ds d vs fr h e k=>by
 unfold BV at e;split at e
 ·rename_i xs
  cases q:eV xs with
  |none=>rw[q]at e;cases e
  |some ns=>
   rw[q]at e;cases e;obtain⟨v,rfl,g⟩:=DenL.one h;obtain⟨a,ys,rfl,r,dl⟩:=Den.sqL g;rw[intsOf_eq q]at dl;have c:=DenL.ints ns dl;subst c;exact⟨a,ns,rfl,r,k _ H (To.refl fr) rfl⟩
 ·cases e
noncomputable def sL:List D->Option D
 |[.lst xs]=>on (.lst xs)
 |[.tup xs]=>on (.lst xs)
 |_=>PM
theorem kI:eL K (λxs H Q=>∃p ys,xs=[.ref p]/\(SqL K H p ys\/SqT K H p ys)/\∀l,H l=PM->Q (.ref l) (upd H l (.lst ys))) sL:=λF H β Q ds d vs fr h e k=>by
 unfold sL at e;split at e
 ·cases e
  obtain⟨v,rfl,g⟩:=DenL.one h;obtain⟨a,xs,rfl,r,dl⟩:=Den.sqL g;exact⟨a,xs,rfl,.inl r,λl c=>k _ _ (fr.upd _ c) (Den.newL fr c dl)⟩
 ·cases e
  obtain⟨v,rfl,g⟩:=DenL.one h;obtain⟨a,xs,rfl,r,dl⟩:=Den.sqT g;exact⟨a,xs,rfl,.inr r,λl c=>k _ _ (fr.upd _ c) (Den.newL fr c dl)⟩
 ·cases e
noncomputable def tE:List D->Option D
 |[.lst xs]=>on (.tup xs)
 |[.tup xs]=>on (.tup xs)
 |_=>PM
theorem fj:eL K (λxs H Q=>∃p ys,xs=[.ref p]/\((SqL K H p ys/\∀l,H l=PM->Q (.ref l) (upd H l (.tup ys)))\/(SqT K H p ys/\Q (.ref p) H))) tE:=λF H β Q ds d vs fr h e k=>by
 unfold tE at e;split at e
 ·cases e
  obtain⟨v,rfl,g⟩:=DenL.one h;obtain⟨a,xs,rfl,r,dl⟩:=Den.sqL g;exact⟨a,xs,rfl,.inl ⟨r,λl c=>k _ _ (fr.upd _ c) (Den.newT fr c dl)⟩⟩
 ·cases e
  obtain⟨v,rfl,g⟩:=DenL.one h;obtain⟨a,xs,rfl,r,dl⟩:=Den.sqT g;exact⟨a,xs,rfl,.inr ⟨r,k _ H (To.refl fr) g⟩⟩
 ·cases e
noncomputable def asB:D->Option Bool
 | .bl b=>on b
 |_=>PM
theorem jw{b:Bool}(h:asB d=on b):d= .bl b:=by cases d<;>first|(cases h;rfl)|cases h
noncomputable def BP:D->Option Bool
 | .non=>on PX
 | .bl b=>on b
 | .int i=>on (i !=0)
 | .lst xs=>on (!xs.isEmpty)
 | .tup xs=>on (!xs.isEmpty)
 |_=>PM
def fB(f:FD):Dn->M Bool:=λδ=>M.bind (f δ) λd=>M.ofO (asB d)
def u4(f:FD):Dn->M Bool:=λδ=>M.bind (f δ) λd=>M.ofO (BP d)
def qU(f g:Dn->M Bool):Dn->M Bool:=λδ=>M.bind (f δ) λc=>if c=PQ then M.ret PQ else g δ
def xY(f:Dn->M Bool):Dn->M Bool:=λδ=>M.bind (f δ) λc=>M.ret (!c)
def oQ(f g:FD):FD:=λδ=>M.bind (f δ) λd=>M.bind (M.ofO (asB d)) λc=>if c=PQ then g δ else M.ret (.bl PX)
def fIf(t:Dn->M Bool)(f g:FD):FD:=λδ=>M.bind (t δ) λc=>if c=PQ then f δ else g δ
def kO(o d:D->D->Option D)(f g h:FD):FD:=λδ=>M.bind (f δ) λa=>M.bind (g δ) λb=>M.bind (M.ofO (o a b)) λz=>M.bind (M.ofO (asB z)) λc=>if c=PQ then M.bind (h δ) (λw=>M.ofO (d b w))else M.ret (.bl PX)
variable{c:Expr}{rest:List Expr}
theorem M.ofO_bind{α d:Type}{o:Option α}{k:α->M d}{β:Bg}{z:Except PZ d×Bg}(h:M.bind (M.ofO o) k β=on z):∃a,o=on a/\k a β=on z:=by
 cases o with
 |none=>cases h
 |some a=>exact⟨a,rfl,h⟩
theorem run.ofO_bind{α g i:Type}{R:Hp->g->i->Prop}{F:Fx}{j:St}{o:Option α}{k:α->M g}{H:Hp}{Q:i->Hp->Prop}{β:Bg}(h:run R F E j (M.bind (M.ofO o) k) H Q β):∃a,o=on a/\run R F E j (k a) H Q β:=by
 obtain⟨r,d,e,h⟩:=h;obtain⟨a,q,e⟩:=M.ofO_bind e;exact⟨a,q,r,d,e,h⟩
theorem run.bOk{F:Fx}{H:Hp}(fr:Fr F H β)(hd:Den K F H d v)(h:run (λ_ (a b:Bool)=>b=a) F E σ (M.ofO (asB d)) H Q β):∃k,v= .bl k/\Q k H:=by
 obtain⟨b,e,k⟩:=run.ofO h;rw[jw e]at hd;exact⟨b,hd,k b H (To.refl fr) rfl⟩
theorem ow{f:FD}{H:Hp}(h:tVT K (fB f) E σ H Q):tV K f E σ H λx g=>∃k,x= .bl k/\Q k g:=by
 obtain⟨F,δ,β,fr,i,h⟩:=h;exact⟨F,δ,β,fr,i,(run.bind (R:=Den K F) h).mono λv l j=>ex5 j λd β1 t hd r1=>run.bOk t.fr hd r1⟩
theorem aS{f g:FD}(d:OpR X (Rg op) r)(l:bh X.K r o)(ha:PE X a (tV X.K f E))(i:PE X b (tV X.K g E))(hm:UR op b=PX:=by first|exact ur _|rfl):PT X (.Compare a [op] [b] pos) (tVT X.K (fB (f2 o f g)) E):=
 (v7 d ha i hm).imp λj H Q h=>o8 l (ow h)
theorem yz{f g h:FD}(l:bh K r o)(Y:bh K r' o'){H:Hp}(B:tV K (kO o o' f g h) E σ H Q):yA r r' (tV K f E) (tV K g E) (tV K h E) σ H Q:=by
 obtain⟨F,δ,β,fr,I,B⟩:=B;refine⟨F,δ,β,fr,I,(run.bind (R:=Den K F) B).mono λv H1 j=>ex5 j λd β1 t hd r1=>⟨F,δ,β1,t.fr,I.tr (t.tr fr),(run.bind (R:=Den K F) r1).mono λP Z j=>ex5 j λd2 β2 m u r2=>?_⟩⟩;obtain⟨z,T,r3⟩:=run.ofO_bind r2;obtain⟨c,ec,A⟩:=run.ofO_bind r3;rw[jw ec]at T;refine l F Z β2 _ d d2 _ v P m.fr (Den.tr (m.tr t.fr) _ _ hd) u T λvz U i hz=>⟨c,hz,?_⟩;cases c with
 |true=>
  rw[P7 rfl]at A;refine⟨F,δ,β2,i.fr,I.tr ((t.tr fr).trans ((m.tr t.fr).trans (i.tr m.fr))),?_⟩;have r5:run (Den K F) F E σ (M.bind (h δ) λw=>M.ofO (o' d2 w)) U Q β2:=by
   obtain⟨J,y,e,q⟩:=A;refine⟨J,y,e,?_⟩;cases J with
   |ok d=>exact λv L tt=>q v L (i.trans tt)
   |error C=>exact λL tt=>q L (i.trans tt)
  refine(run.bind (R:=Den K F) r5).mono λw H4 j=>ex5 j λdw N W O r6=>?_;obtain⟨d3,e3,k⟩:=run.ofO r6;exact Y F H4 N Q d2 dw d3 P w W.fr (Den.tr ((i.tr m.fr).trans (W.tr i.fr)) _ _ u) O e3 k
 |false=>
  rw[P5 P8]at A;obtain⟨J,y,e,q⟩:=A;cases e;exact q _ U i rfl
theorem qz{f g h:FD}(i:OpR X (Rg op) r)(d:OpR X (Rg op') r')(l:bh X.K r o)(j:bh X.K r' o')(ha:PE X a (tV X.K f E))(m:PE X b (tV X.K g E))(t:PE X c (tV X.K h E))(hm:Y4 [op,op'] [b,c]=PX:=by with_unfolding_all rfl):
  PT X (.Compare a [op,op'] [b,c] pos) (tVT X.K (fB (kO o o' f g h)) E):=(CG i d ha m t hm).imp λu H Q q=>yz l j (ow q)
theorem JT{F:Fx}{H:Hp}{k:Bool}(h:BP d=on k)(hd:Den K F H d v):GZ K v H k:=by
 cases d with
 |non=>cases h;cases hd.non;rfl
 |bl b=>cases h;cases hd.bl;rfl
 |int i=>cases h;cases hd.int;rfl
 |lst xs=>
  cases h;obtain⟨a,ys,rfl,r,dl⟩:=Den.sqL hd;refine .inl ⟨ys,r,?_⟩;have:=dl.length;cases xs<;>cases ys<;>first|rfl|(simp at this)
 |tup xs=>
  cases h;obtain⟨a,ys,rfl,r,dl⟩:=Den.sqT hd;refine .inr ⟨ys,r,?_⟩;have:=dl.length;cases xs<;>cases ys<;>first|rfl|(simp at this)
 |_=>cases h
theorem eX{f:FD}(ha:PE X a (tV X.K f E))(j:∀g,isTrue a X.env g=(do let v ←g;T6 a.pos;Ux [v] (truthy v)):=by intro _;rfl):PT X a (tVT X.K (u4 f) E):=
 (CF ha j).imp λo H Q i=>ex6 i λF δ β fr l h=>⟨F,δ,β,fr,l,(run.bind (R:=Den X.K F) h).mono λv m i=>by
  obtain⟨d,β1,t,hd,r1⟩:=i;obtain⟨k,e,q⟩:=run.ofO r1;exact⟨k,JT e hd,q k m (To.refl t.fr) rfl⟩⟩
theorem fR{f:Dn->M Bool}(ha:PT X a (tVT X.K f E)):PT X (.UnaryOp .Not a pos) (tVT X.K (xY f) E):=
 (Md ha).imp λj H Q g=>ex6 g λF δ β fr i h=>⟨F,δ,β,fr,i,(run.bind (R:=λ_ (a b:Bool)=>b=a) h).mono λv l g=>by
  obtain⟨d,β1,t,hd,r1⟩:=g;subst hd;exact run.ret t.fr r1 rfl⟩
theorem LG{f g:Dn->M Bool}{H:Hp}(h:tVT K (qU f g) E σ H Q):tOr (tVT K f E) (tVT K g E) σ H Q:=by
 obtain⟨F,δ,β,fr,i,h⟩:=h;refine⟨F,δ,β,fr,i,(run.bind (R:=λ_ (a b:Bool)=>b=a) h).mono λv l j=>ex5 j λd β1 t hd r1=>?_⟩;subst hd;cases v with
 |false=>rw[P5 P8]at r1⊢;exact⟨F,δ,β1,t.fr,i.tr (t.tr fr),r1⟩
 |true=>rw[P7 rfl]at r1⊢;exact run.ret t.fr r1 rfl
theorem eE{f:Dn->M Bool}(ha:PT X a (tVT X.K f E)):PW X (.BoolOp .Or [a] pos) (tVT X.K f E):=Mb ha
theorem fY{f g:Dn->M Bool}(ha:PT X a (tVT X.K f E))(d:PW X (.BoolOp .Or (b::rest) pos) (tVT X.K g E)):PW X (.BoolOp .Or (a::b::rest) pos) (tVT X.K (qU f g) E):=(OU ha d).imp λ_ _ _=>LG
theorem dz{e:Expr}{f:Dn->M Bool}(h:PW X e (tVT X.K f E)):PT X e (tVT X.K f E):=PW.pt h
theorem HN{op}{f:FD}(h:PE X a (tV X.K f E)):PE X (.BoolOp op [a] pos) (tV X.K f E):=Ml h
theorem run.asB{F:Fx}{k:Bool->M D}{H:Hp}(hd:Den K F H d v)(h:run (Den K F) F E σ (M.bind (M.ofO (asB d)) k) H Q β):∃c,v= .bl c/\run (Den K F) F E σ (k c) H Q β:=by
 obtain⟨c,e,h⟩:=run.ofO_bind h;rw[jw e]at hd;exact⟨c,hd,h⟩
theorem HP{f g:FD}(ha:PE X a (tV X.K f E))(m:PE X (.BoolOp .And (b::rest) pos) (tV X.K g E)):PE X (.BoolOp .And (a::b::rest) pos) (tV X.K (oQ f g) E):=
 (Mp ha m).imp λo H Q j=>ex6 j λF δ β fr l h=>⟨F,δ,β,fr,l,(run.bind (R:=Den X.K F) h).mono λv q j=>by
  obtain⟨d,β1,t,hd,r1⟩:=j;obtain⟨c,e,i⟩:=run.asB hd r1;refine⟨c,e,?_⟩;cases c with
  |true=>rw[P7 rfl]at i⊢;exact⟨F,δ,β1,t.fr,l.tr (t.tr fr),i⟩
  |false=>rw[P5 P8]at i⊢;exact run.ret t.fr i rfl⟩
theorem v_if{f g:FD}(l:PT X c (tVT X.K t E))(ha:PE X a (tV X.K f E))(m:PE X b (tV X.K g E)):PE X (.IfExp c a b pos) (tV X.K (fIf t f g) E):=
 (CO l ha m).imp λo H Q i=>ex6 i λF δ β fr j h=>⟨F,δ,β,fr,j,(run.bind (R:=λ_ (a b:Bool)=>b=a) h).mono λv q i=>by
  obtain⟨d,β1,t,hd,r1⟩:=i;subst hd;cases v with
  |true=>rw[P7 rfl]at r1⊢;exact⟨F,δ,β1,t.fr,j.tr (t.tr fr),r1⟩
  |false=>rw[P5 P8]at r1⊢;exact⟨F,δ,β1,t.fr,j.tr (t.tr fr),r1⟩⟩
noncomputable def tyD:D->Option String
 | .non=>on "NoneType"| .bl _=>on "bool"| .int _=>on "int"| .str _=>on "str"| .lst _=>on "list"| .tup _=>on "tuple"|_=>PM
noncomputable def xI:String->String->Option Bool
 |"int","str"=>on PX|"int","bool"=>on PX|"int","int"=>on PQ|"list","list"=>on PQ|_,_=>PM
noncomputable def xH:String->String->String->Option Bool
 |"int","list","tuple"=>on PX|"int","int","str"=>on PQ|_,_,_=>PM
theorem K8{a b:String}{c:Bool}(h:xI a b=on c):kitOne K (.type a) (.type b)=on c:=by
 unfold xI at h;split at h<;>first|(cases h;kernel_rfl)|cases h
theorem K7{a b d:String}{c:Bool}(h:xH a b d=on c):Zb K (.type a) ([b,d].map SR)=on c:=by
 unfold xH at h;split at h<;>first|(cases h;kernel_rfl)|cases h
def TyG(K:Qo)(H:Hp)(x:V)(t:P0):Prop:=TyOf K H x t\/(∃a ys,x= .ref a/\SqL K H a ys/\t= .type "list")\/(∃a ys,x= .ref a/\SqT K H a ys/\t= .type "tuple")
def IF(K:Qo):List V->Hp->VK->Prop:=λxs H Q=>∃x c t b,xs=[x,.ty c]/\TyG K H x t/\kitOne K t (.type c)=on b/\Q (.bl b) H
theorem AT:dF X (.builtin "isinstance") (IF X.K):=by
 intro j s u H xs us Q I r h;obtain⟨x,c,t,b,rfl,ty,e,q⟩:=h;cases r with
 |cons r1 d=>
  cases d with
  |cons d m=>
   cases m;cases d;rcases ty with ty|⟨a,ys,rfl,sq,rfl⟩|⟨a,ys,rfl,sq,rfl⟩
   ·exact zZ I r1 ty e λl=>⟨.bl b,H,I.tok _,rfl,q⟩
   ·cases r1
    obtain⟨its,_,pl,_⟩:=I.list sq;obtain⟨o,g,i,_⟩:=pl.isList;exact VC Ww I.kIn ⟨o,g,i⟩ e (λz=>nomatch z) λl=>⟨.bl b,H,I.tok _,rfl,q⟩
   ·cases r1
    obtain⟨its,_,pl,_⟩:=I.tuple sq;obtain⟨o,g,i,_⟩:=pl;exact VC X7 I.kIn ⟨o,g,i⟩ e (λz=>nomatch z) λl=>⟨.bl b,H,I.tok _,rfl,q⟩
theorem yr{F:Fx}{H:Hp}(h:tyD d=on t)(hd:Den K F H d v):TyG K H v (.type t):=by
 cases d with
 |non=>cases h;cases hd.non;exact .inl .non
 |bl b=>cases h;cases hd.bl;exact .inl (.bl b)
 |int b=>cases h;cases hd.int;exact .inl (.int b)
 |str b=>cases h;cases hd.str;exact .inl (.str b)
 |lst ds=>cases h;obtain⟨a,xs,rfl,sq,_⟩:=Den.sqL hd;exact .inr (.inl ⟨a,xs,rfl,sq,rfl⟩)
 |tup ds=>cases h;obtain⟨a,xs,rfl,sq,_⟩:=Den.sqT hd;exact .inr (.inr ⟨a,xs,rfl,sq,rfl⟩)
 |_=>cases h
def jo:List D->Option D
 |[x,.ty c]=>(tyD x).bind λt=>(xI t c).map D.bl
 |_=>PM
theorem Pe:eL K (IF K) jo:=λF H β Q ds d vs fr h e k=>by
 unfold jo at e;split at e
 ·rename_i x c
  cases q:tyD x with
  |none=>rw[q]at e;cases e
  |some t=>
   rw[q]at e;simp only[Tt]at e;cases q2:xI t c with
   |none=>rw[q2]at e;cases e
   |some b=>
    rw[q2]at e;cases e;obtain⟨v,w,rfl,g,i⟩:=DenL.two h;cases i.ty;exact⟨v,c,_,b,rfl,yr q g,K8 q2,k _ H (To.refl fr) rfl⟩
 ·cases e
def y8(K:Qo):List V->Hp->VK->Prop:=λxs H Q=>∃(x:V) (tp:PZ) (cs:List String) (t:P0) (b:Bool),xs=[x,.ref tp]/\SqT K H tp (cs.map V.ty)/\TyG K H x t/\Zb K t (cs.map SR)=on b/\Q (.bl b) H
theorem qo:dF X (.builtin "isinstance") (y8 X.K):=by
 intro m s P H xs us Q I r h;obtain⟨x,tp,cs,t,b,rfl,A,ty,e,q⟩:=h;cases r with
 |cons r1 B=>
  cases B with
  |cons B R=>
   cases R;cases B;obtain⟨its,T,⟨⟨oc,U,W,Y⟩,g,u,n,j⟩,_⟩:=I.tuple A;rw[yp T]at j
   dsimp only at u j
   subst u j;have d:∀N,EP X m P Q (.bool b) {s with toks:=N}:=λN=>⟨.bl b,H,I.tok _,rfl,q⟩;rcases ty with ty|⟨a,ys,rfl,sq,rfl⟩|⟨a,ys,rfl,sq,rfl⟩
   ·cases ty with
    |non=>cases r1;exact VD Ym I.kIn Tv g e (λz=>nomatch z) d
    |bl y=>cases r1;exact VD Yl I.kIn Tv g e (λz=>nomatch z) d
    |int i=>obtain⟨t,rfl⟩:=r1;exact VD YC I.kIn Tv g e (λz=>nomatch z) d
    |str y=>obtain⟨t,rfl⟩:=r1;exact VD YE I.kIn Tv g e (λz=>nomatch z) d
    |@lst a xs ea=>
     cases r1;obtain⟨_,_,n,_,v⟩:=(show bO X.prog X.w H s.heap a (.lst xs)from I.hok a _ ea);exact VD Ww I.kIn ⟨_,v,rfl⟩ g e (λz=>nomatch z) d
    |@frz a ob xs ea=>
     cases r1;obtain⟨_,_,_,n,_,v⟩:=(show bO X.prog X.w H s.heap a (.frz ob (.lst xs))from I.hok a _ ea);exact VD Ww I.kIn ⟨_,v,rfl⟩ g e (λz=>nomatch z) d
    |@tup a xs ea=>
     cases r1;obtain⟨_,_,_,p⟩:=(show bO X.prog X.w H s.heap a (.tup xs)from I.hok a _ ea);obtain⟨o,v,Z,_⟩:=p;exact VD X7 I.kIn ⟨o,v,Z⟩ g e (λz=>nomatch z) d
    |@ins a C dx fs ea cl ha hn htk hm=>
     cases r1;obtain⟨mA,O,_⟩:=kJ I.hok ea;obtain⟨U,J,_⟩:=O.look;exact VD (YD (cl.get _) cl.hd ha hn htk hm) I.kIn J g e (λz=>nomatch z) d
   ·cases r1
    obtain⟨its,_,pl,_⟩:=I.list sq;obtain⟨o,l,L,_⟩:=pl.isList;exact VD Ww I.kIn ⟨o,l,L⟩ g e (λz=>nomatch z) d
   ·cases r1
    obtain⟨its,_,pl,_⟩:=I.tuple sq;obtain⟨o,l,L,_⟩:=pl;exact VD X7 I.kIn ⟨o,l,L⟩ g e (λz=>nomatch z) d
def sP:List D->Option D
 |[x,.tup [.ty a,.ty b]]=>(tyD x).bind λt=>(xH t a b).map D.bl
 |_=>PM
theorem zQ:eL K (y8 K) sP:=λF H β Q ds d vs fr h e k=>by
 unfold sP at e;split at e
 ·rename_i x a b
  cases q:tyD x with
  |none=>rw[q]at e;cases e
  |some t=>
   rw[q]at e;simp only[Tt]at e;cases q2:xH t a b with
   |none=>rw[q2]at e;cases e
   |some c=>
    rw[q2]at e;cases e;obtain⟨v,w,rfl,g,i⟩:=DenL.two h;obtain⟨p,xs,rfl,sq,dl⟩:=Den.sqT i;obtain⟨y,z,rfl,j,l⟩:=DenL.two dl;cases j.ty;cases l.ty;exact⟨v,p,[a,b],_,c,rfl,sq,yr q g,K7 q2,k _ H (To.refl fr) rfl⟩
 ·cases e
def ItD(K:Qo)(J:It)(F:Fx)(H:Hp)(ds:List D):Prop:=∀(h:Fx) (g:Hp) (β2:Bg),Tr F H h g->Fr h g β2->∀i,(∀d,ds[i]?=on d->J.go i g/\∀x j,J.yld i g x j->bQ g j/\Den K h j d x)/\(i=ds.length->J.stop i g)
theorem ItD.tr{K:Qo}{F d:Fx}{H g:Hp}(t:Tr F H d g)(h:ItD K J F H ds):ItD K J d g ds:=λi j β3 l fr=>h i j β3 (t.trans l) fr
def iV(K:Qo)(f:FL)(E:St->XK):TI:=λd H R=>∃F δ β,Fr F H β/\VOk K F H δ d/\run (λg (ds:List D) (J:It)=>ItD K J F g ds) F E d (f δ) H R β
theorem _root_.L2.PI.imp{X:Cx}{tg e:Expr}(h:PI X tg e t)(f:∀d H Q,t' d H Q->t d H Q):PI X tg e t':=λg s d H Q I q=>h g s d H Q I (f d H Q q)
variable{tg:Expr}
def iSeq(K:Qo)(tl:TE):TI:=λg H R=>tl g H λx d=>(∃a,x= .ref a/\(∃xs,SqL K d a xs)/\R (Itl K a) d)\/(∃a,x= .ref a/\(∃xs,SqT K d a xs)/\R (Itt K a) d)
theorem Mg(t:PE X l tl):PI X tg l (iSeq X.K tl):=by
 intro g s u H R I h;refine thn (t g s u H _ I h) λv d ⟨x,m,i,r1,q1⟩=>?_;have j:∀b∈[d.heap.objs.size],fG X g m b:=λb w=>by
  obtain rfl:b=d.heap.objs.size:=by simpa using w
  exact i.fpOk (P9 _) (i.hok.fresh (P9 _))
 rcases q1 with⟨a,e,⟨xs,r⟩,q⟩|⟨a,e,⟨xs,r⟩,q⟩
 ·subst e
  cases r1;obtain⟨its,y,p,A⟩:=i.list r;exact VE p.isList ⟨d.heap.objs.size,[d.heap.objs.size],_,_,m,rfl,i.kept (t':=d.toks) λb o e=>PU _ e,rh a _,⟨_,Qk _ rfl,rfl,rfl⟩,j,q⟩
 ·subst e
  cases r1;obtain⟨its,y,p,A⟩:=i.tuple r;exact WM (show d.heap.IsTuple a its.toArray from p) ⟨d.heap.objs.size,[d.heap.objs.size],_,_,m,rfl,i.kept (t':=d.toks) λb o e=>PU _ e,wU a _,⟨_,Qk _ rfl,rfl,rfl⟩,j,q⟩
theorem DT{F:Fx}{H:Hp}{a:PZ}(h:Den K F H (.lst ds) (.ref a)):ItD K (Itl K a) F H ds:=λr u β2 t fr i=>by
 have m:=Den.tr t _ _ h;obtain⟨v,xs,e,sq,dl⟩:=Den.sqL m;cases e;refine⟨λd hd=>?_,λo=>⟨xs,sq,by rw[←dl.length,o];exact P9 _⟩⟩;obtain⟨x,q,_⟩:=dl.get hd;refine⟨⟨xs,x,sq,q⟩,λy w g=>?_⟩;obtain⟨rfl,g⟩:=g;obtain⟨d',l,j⟩:=dl.getV (g xs sq);rw[hd]at l;cases l;exact⟨bQ.refl _,j⟩
theorem Lb{F:Fx}{H:Hp}{a:PZ}(h:Den K F H (.tup ds) (.ref a)):ItD K (Itt K a) F H ds:=λr u β2 t fr i=>by
 have m:=Den.tr t _ _ h;obtain⟨v,xs,e,sq,dl⟩:=Den.sqT m;cases e;refine⟨λd hd=>?_,λo=>⟨xs,sq,by rw[←dl.length,o];exact P9 _⟩⟩;obtain⟨x,q,_⟩:=dl.get hd;refine⟨⟨xs,x,sq,q⟩,λy w g=>?_⟩;obtain⟨rfl,g⟩:=g;obtain⟨d',l,j⟩:=dl.getV (g xs sq);rw[hd]at l;cases l;exact⟨bQ.refl _,j⟩
def eC(f:FD):FL:=λδ=>M.bind (f δ) λd=>M.ofO (fU d)
theorem bn{f:FD}(j:PE X l (tV X.K f E)):PI X tg l (iV X.K (eC f) E):=
 (Mg j).imp λo H R g=>ex6 g λF δ β fr m h=>⟨F,δ,β,fr,m,(run.bind (R:=Den X.K F) h).mono λv i g=>by
  obtain⟨d,β1,t,hd,r1⟩:=g;obtain⟨ds,e,k⟩:=run.ofO r1;cases d<;>first
   |(cases e;obtain⟨a,xs,rfl,sq,dl⟩:=Den.sqL hd;exact .inl ⟨a,rfl,⟨xs,sq⟩,k _ i (To.refl t.fr) (DT hd)⟩)
   |(cases e;obtain⟨a,xs,rfl,sq,dl⟩:=Den.sqT hd;exact .inr ⟨a,rfl,⟨xs,sq⟩,k _ i (To.refl t.fr) (Lb hd)⟩)
   |cases e⟩
noncomputable def bf(lo:Int)(n:Nat):List D:=(Qb n).map λ(i:Nat)=> .int (lo+(i:Int))
theorem rN{F:Fx}{H:Hp}{lo:Int}{n:Nat}:ItD K (Itr lo n) F H (bf lo n):=λl m β2 t fr i=>by
 refine⟨λd hd=>?_,λg=>?_⟩
 ·unfold bf at hd
  have g:i<n:=by
   have:=(P4.mp hd).1;simpa using this
  rw[PY,Rt g]at hd;cases hd;exact⟨g,λx o ⟨h,j⟩=>by subst h j;exact⟨bQ.refl _,rfl⟩⟩
 ·show n<=i
  rw[g];simp[bf]
def gA:List D->Option (List D)
 |[.int j]=>if(decide (-(2^62)<=j)&&decide (j<2^62))=PQ then on (bf 0 j.toNat)else PM
 |_=>PM
def oF:List D->Option (List D)
 |[.int i,.int j]=>if(decide (-(2^62)<=i)&&decide (i<2^62)&&decide (-(2^62)<=j)&&decide (j<2^62))=PQ then on (bf i (j-i).toNat)else PM
 |_=>PM
def dC(op:List D->Option (List D))(g:FL):FL:=λδ=>M.bind (g δ) λas=>M.ofO (op as)
theorem bT{a:Expr}{p pos:UE}(j:Gl X "range")(hm:X.mg "range"=PM)(ha:PA X [a] (tVA X.K g E))(hs:Qg [a] X.env=[(PX,Rk a X.env)]:=by rfl):PI X tg (.Call (.Name "range" p) [a] [] pos) (iV X.K (dC gA g) E):=
 (zh j hm ha hs).imp λr H R d=>ex6 d λF δ β fr m h=>⟨F,δ,β,fr,m,(run.bind (R:=DenL X.K F) h).mono λvs o d=>by
  obtain⟨ds,β1,t,hd,r1⟩:=d;obtain⟨l,e,k⟩:=run.ofO r1;unfold gA at e;split at e
  ·split at e
   ·rename_i i
    cases e;simp only[QJ,QU]at i;obtain⟨v,rfl,q⟩:=DenL.one hd;cases q.int;exact⟨_,rfl,i.1,i.2,k _ o (To.refl t.fr) rN⟩
   ·cases e
  ·cases e⟩
theorem oO{a b:Expr}{p pos:UE}(m:Gl X "range")(hm:X.mg "range"=PM)(ha:PA X [a,b] (tVA X.K g E))(hs:Qg [a,b] X.env=[(PX,Rk a X.env),(PX,Rk b X.env)]:=by rfl)(i:Qg [b] X.env=[(PX,Rk b X.env)]:=by rfl):PI X tg (.Call (.Name "range" p) [a,b] [] pos) (iV X.K (dC oF g) E):=
 (zg m hm ha hs i).imp λy H R j=>ex6 j λF δ β fr o h=>⟨F,δ,β,fr,o,(run.bind (R:=DenL X.K F) h).mono λvs q j=>by
  obtain⟨ds,β1,t,hd,r1⟩:=j;obtain⟨l,e,k⟩:=run.ofO r1;unfold oF at e;split at e
  ·split at e
   ·rename_i d
    cases e;simp only[QJ,QU]at d;obtain⟨v,w,rfl,r,u⟩:=DenL.two hd;cases r.int;cases u.int;exact⟨_,_,rfl,⟨d.1.1.1,d.1.1.2,d.1.2,d.2⟩,k _ q (To.refl t.fr) rN⟩
   ·cases e
  ·cases e⟩
abbrev TgF:=D->Dn->Option Dn
abbrev jy:=List D->Dn->Option Dn
def cR(K:Qo)(g:TG)(tg:TgF):Prop:=∀(F:Fx) (H:Hp) (δ δ1:Dn) (i:St) (d:D) (v:V) (Q:St->Hp->Prop),VOk K F H δ i->Den K F H d v->tg d δ=on δ1->(∀h,VOk K F H δ1 h->Q h H)->g v i H Q
def qv(K:Qo)(g:TGs)(tg:jy):Prop:=∀(F:Fx) (H:Hp) (δ δ1:Dn) (h:St) (ds:List D) (vs:List V) (Q:St->Hp->Prop),VOk K F H δ h->DenL K F H ds vs->tg ds δ=on δ1->(∀d,VOk K F H δ1 d->Q d H)->g vs h H Q
noncomputable def tgC(i:Nat):TgF:=λd δ=>if(δ.getD i (on .non)).isNone then on (δ.set i (on d))else PM
noncomputable def kY:jy:=λds δ=>match ds with
 |[]=>on δ
 |_=>PM
noncomputable def f6(t:TgF)(u:jy):jy:=λds δ=>match ds with
 |[]=>PM
 |d::r=>(t d δ).bind λδ1=>u r δ1
noncomputable def tgT(t:jy):TgF:=λd δ=>match d with
 | .tup ds=>t ds δ
 |_=>PM
theorem tJ{δ δ1:Dn}(h:tgC i d δ=on δ1):δ[i]?=on PM/\δ1=δ.set i (on d):=by
 unfold tgC at h;split at h
 ·rename_i q
  cases h;refine⟨?_,rfl⟩;rw[PV]at q;cases e:δ[i]? with
  |none=>rw[e]at q;cases q
  |some z=>
   rw[e]at q;cases z with
   |none=>rfl
   |some w=>cases q
 ·cases h
theorem au:cR K (fq i) (tgC i):=λF H δ δ1 h d v Q g hd e k=>by
 obtain⟨_,rfl⟩:=tJ e;exact k _ (g.set hd)
theorem dn:qv K gNil kY:=λF H δ δ1 g ds vs Q d hd e k=>by
 cases ds with
 |nil=>cases e;exact⟨hd,k _ d⟩
 |cons _ _=>cases e
theorem aX(m:cR K t tf)(o:qv K u uf):qv K (xP t u) (f6 tf uf):=λF H δ δ1 v ds vs Q w hd e k=>by
 cases ds with
 |nil=>cases e
 |cons d r=>
  obtain⟨x,l,rfl,y,A⟩:=hd;have h:(tf d δ).bind (λδ1=>uf r δ1)=on δ1:=e;cases q:tf d δ with
  |none=>rw[q]at h;cases h
  |some g=>
   rw[q]at h;exact⟨x,l,rfl,m F H δ g v d x _ w y q λi j=>o F H g δ1 i r l Q j A h k⟩
theorem d5{n:Nat}(h:qv K t tf)(hn:∀ds δ δ1,tf ds δ=on δ1->ds.length=n):cR K (EB K n t) (tgT tf):=λF H δ δ1 g d v Q i hd e k=>by
 cases d<;>first
  |(obtain⟨a,xs,rfl,sq,dl⟩:=Den.sqT hd;exact⟨a,xs,rfl,sq,by rw[←dl.length];exact hn _ _ _ e,h F H δ δ1 g _ xs Q i dl e k⟩)
  |cases e
theorem cS:∀ds δ δ1,kY ds δ=on δ1->ds.length=0:=λds δ δ1 h=>by
 cases ds with
 |nil=>rfl
 |cons _ _=>cases h
theorem aU{n:Nat}(h:∀ds δ δ1,u ds δ=on δ1->ds.length=n):∀ds δ δ1,f6 t u ds δ=on δ1->ds.length=n+1:=λds δ δ1 e=>by
 cases ds with
 |nil=>cases e
 |cons d r=>
  have g:(t d δ).bind (λδ1=>u r δ1)=on δ1:=e;cases q:t d δ with
  |none=>rw[q]at g;cases g
  |some i=>rw[q]at g;rw[Qe,h _ _ _ g]
def dP(tg:TgF):Prop:=∀d δ δ1,tg d δ=on δ1->Sub δ δ1/\δ.length=δ1.length
def sZ(tg:jy):Prop:=∀d δ δ1,tg d δ=on δ1->Sub δ δ1/\δ.length=δ1.length
theorem aw:dP (tgC i):=λd δ δ1 e=>by
 obtain⟨q,rfl⟩:=tJ e;refine⟨λj c g=>?_,by rw[Rc]⟩;rw[Ro];by_cases z:i=j
 ·subst z;rw[q]at g;cases g
 ·rw[P5 z];exact g
theorem dg:sZ kY:=λds δ δ1 e=>by
 cases ds with
 |nil=>cases e;exact⟨λ_ _ h=>h,rfl⟩
 |cons _ _=>cases e
theorem aV(j:dP t)(l:sZ u):sZ (f6 t u):=λds δ δ1 e=>by
 cases ds with
 |nil=>cases e
 |cons d r=>
  have g:(t d δ).bind (λδ1=>u r δ1)=on δ1:=e;cases q:t d δ with
  |none=>rw[q]at g;cases g
  |some m=>
   rw[q]at g;obtain⟨a1,a2⟩:=j _ _ _ q;obtain⟨b1,b2⟩:=l _ _ _ g;exact⟨λi c h=>b1 i c (a1 i c h),a2.trans b2⟩
theorem d4(h:sZ t):dP (tgT t):=λd δ δ1 e=>by
 cases d<;>first|exact h _ _ _ e|cases e
structure ToD (F:Fx) (D:PZ) (H H':Hp) (β':Bg):Prop where
 kp:∀a o,H a=on o->a≠D->(∀b l,F.bg=on (b,l)->a≠b/\a≠l)->H' a=on o
 fr:Fr F H' β'
theorem ToD.trans{F:Fx}{D:PZ}{H d g:Hp}(a:ToD F D H d β1)(b:ToD F D d g β2):ToD F D H g β2:=⟨λx o h n m=>b.kp x o (a.kp x o h n m) n m,b.fr⟩
theorem To.toD{F:Fx}{H d:Hp}(t:To F H d β')(D:PZ):ToD F D H d β':=⟨λa o h _ m=>t.kp a o h m,t.fr⟩
theorem ToD.tr{F:Fx}{D:PZ}{H d:Hp}(fr:Fr F H β)(g:F.A D)(t:ToD F D H d β'):Tr F H F d:=
 ⟨λ_ h _=>h,λa o h e=>t.kp a o e (λz=>h (z▸g)) λb l q=>⟨λz=>h (z▸(fr.bgA b l q).1),λz=>h (z▸(fr.bgA b l q).2.1)⟩,rfl⟩
structure AR where
 R:Fx->Hp->PZ->List Pu.D->Prop
 Z:List Pu.D->Prop
 tr:∀{F F2:Fx} {H H':Hp} {D:PZ} {as:List Pu.D},R F H D as->(∀o,H D=on o->H' D=on o)->Tr F H F2 H'->R F2 H' D as
 zp:∀{as os:List Pu.D},Z (as++os)->Z as
noncomputable def RL(K:Qo):AR where
 R:=λF H D as=>∃acc,H D=on (.lst acc)/\DenL K F H as acc
 Z:=λl=>l.length<=Qp
 tr:=λh k t=>by
  obtain⟨acc,d,g⟩:=h;exact⟨acc,k _ d,DenL.tr t _ _ g⟩
 zp:=λh=>by rw[Qm]at h;omega
def eW(K:Qo)(R:AR)(D:PZ)(j:TB)(f:Dn->M (List Pu.D)):Prop:=∀(F:Fx) (H:Hp) (δ:Dn) (β d:Bg) (i:St) (as os:List Pu.D) (Q:St->Hp->Prop),Fr F H β->F.A D->(∀b l,F.bg=on (b,l)->D≠b/\D≠l)->VOk K F H δ i->R.R F H D as->
 f δ β=on (.ok os,d)->R.Z (as++os)->(∀g h,ToD F D H h d->VOk K F h δ g->R.R F h D (as++os)->Q g h)->j i H Q
abbrev jS(K:Qo):=eW K (RL K)
def cEm(f:Dn->M Pu.D):Dn->M (List Pu.D):=λδ=>M.bind (f δ) λd=>M.ret [d]
theorem M.bind_inv{α g:Type}{m:M α}{k:α->M g}{β d:Bg}{r:g}(h:M.bind m k β=on (.ok r,d)):∃a β1,m β=on (.ok a,β1)/\k a β1=on (.ok r,d):=by
 unfold M.bind at h;split at h
 ·cases h
 ·cases h
 ·rename_i a β1 e
  exact⟨a,β1,e,h⟩
theorem E0.run{α i:Type}{R:Hp->α->i->Prop}{F:Fx}{j:St}{m:M α}{H:Hp}{Q:i->Hp->Prop}{β d:Bg}{a:α}(e:m β=on (.ok a,d))(h:∀v g,To F H g d->R g a v->Q v g):run R F E0 j m H Q β:=⟨.ok a,d,e,h⟩
theorem aQ{D:PZ}{f:Dn->M Pu.D}:jS K D (x9 D (tV K f E0)) (cEm f):=λF H δ β g w as os Q fr y i m A e B k=>by
 obtain⟨acc,C,hd⟩:=A;obtain⟨d,β1,I,J⟩:=M.bind_inv e;cases J;refine⟨F,δ,β,fr,m,E0.run I λv r t L=>?_⟩;have j:=t.kp D _ C i;have dl:=DenL.tr (t.tr fr) _ _ hd;refine⟨acc,j,by rw[←hd.length];have:=(show(as++[d]).length<=Qp from B);simp at this;omega,?_⟩;have u:ToD F D r (upd r D (.lst (acc++[v]))) g:=by
  refine⟨λa o h n _=>by rw[upd_ne n];exact h,λa h q=>?_,fr.bgA,λb l q=>?_⟩
  ·by_cases z:a=D
   ·subst z;rw[ao]at q;cases q
   ·rw[upd_ne z]at q;exact t.fr.occ a h q
  ·rw[upd_ne (i b l q).1.symm,upd_ne (i b l q).2.symm]
   exact t.fr.bag b l q
 have tt:=u.tr t.fr y;exact k w _ ((t.toD D).trans u) (m.tr ((t.tr fr).trans tt)) ⟨_,ao,DenL.append (DenL.tr tt _ _ dl) ⟨v,[],rfl,Den.tr tt _ _ L,rfl⟩⟩
def cLp(tg:TgF)(tt:Dn->M Bool)(b:Dn->M (List Pu.D)):List Pu.D->Dn->M (List Pu.D)
 |[],_=>M.ret []
 |d::ds,δ=>match tg d δ with
  |none=>M.fail
  |some δ1=>M.bind (tt δ1) λc=>M.bind (if c=PQ then b δ1 else M.ret []) λo=>M.bind (cLp tg tt b ds δ) λos=>M.ret (o++os)
theorem nC{R:AR}{D:PZ}{tg:TgF}{b:Dn->M (List Pu.D)}(hg:cR K g tg)(sg:dP tg)(hb:eW K R D tb b){F:Fx}{H:Hp}{as os ds:List Pu.D}(fr:Fr F H β)(hA:F.A D)(hn:∀b l,F.bg=on (b,l)->D≠b/\D≠l)(vk:VOk K F H δ σ)(hR:R.R F H D as)
  (it:ItD K J F H ds) (e:cLp tg tt b ds δ β=on (.ok os,β')) (hz:R.Z (as++os)) (k:∀j t,ToD F D H t β'->VOk K F t δ j->R.R F t D (as++os)->Q j t):db J g (tVT K tt E0) tb σ H Q:=by
 refine⟨λi m j t=>m+i=ds.length/\∃β1 r v,ToD F D H t β1/\VOk K F t δ j/\R.R F t D r/\cLp tg tt b (ds.drop i) δ β1=on (.ok v,β')/\r++v=as++os,
  ⟨ds.length,by omega,β,as,os,⟨λ_ _ h _ _=>h,fr⟩,vk,hR,e,rfl⟩,?_⟩
 rintro i m j t ⟨hm,β1,r,v,B,C,I,u,ea⟩;have tr1:=B.tr fr hA;obtain⟨iy,is⟩:=it F t β1 tr1 B.fr i;cases T:ds[i]? with
 |none=>
  have U:ds.length<=i:=U9.mp T;rw[RN U]at u;cases u;refine .inl ⟨is (by omega),k j t B C ?_⟩;rw[←ea,QY];exact I
 |some d=>
  have U:i<ds.length:=(P4.mp T).1;obtain⟨go,yl⟩:=iy d T;have ed:ds.drop i=d::ds.drop (i+1):=by
   rw[QV U];congr 1;exact QB ((PP U).symm.trans T)
  rw[ed]at u;unfold cLp at u;cases q:tg d δ with
  |none=>rw[q]at u;cases u
  |some δ1=>
   rw[q]at u;obtain⟨c,β2,e2,e3⟩:=M.bind_inv u;obtain⟨o,β3,W,e5⟩:=M.bind_inv e3;obtain⟨os2,β4,e6,e7⟩:=M.bind_inv e5;cases e7;obtain⟨s1,s2⟩:=sg _ _ _ q;refine .inr ⟨go,λL Y=>ToD F D H Y β3/\VOk K F Y δ L/\R.R F Y D (r++o),?_,λx H2 hy=>?_⟩
   ·rintro L Y ⟨t9,vk9,hR9⟩
    exact⟨m-1,by omega,by omega,β3,r++o,os2,t9,vk9,hR9,e6,by rw[Ra];exact ea⟩
   ·obtain⟨sm,dx⟩:=yl x H2 hy
    have t2:To F t H2 β1:=B.fr.same sm;have N:=t2.tr B.fr;refine hg F H2 δ δ1 j d x _ (C.tr N) dx q λσ2 w=>⟨F,δ1,β1,t2.fr,w,E0.run e2 λc' H3 t3 ec=>?_⟩;subst ec;have y:=t3.tr t2.fr;have O:=R.tr I (λo z=>t3.kp D o (sm _ _ z) hn) (N.trans y);have P:ToD F D H H3 β2:=B.trans ((t2.trans t3).toD D);have hle:R.Z (r++o):=by
     rw[←ea,←Ra]at hz;exact R.zp hz
    cases c' with
    |true=>
     rw[P7 rfl]at W⊢;refine hb F H3 δ1 β2 β3 σ2 r o _ t3.fr hA hn (w.tr y) O W hle λσ4 H4 t4 vk4 hR4=>?_;exact⟨P.trans t4,vk4.sub s1 s2,hR4⟩
    |false=>
     rw[P5 P8]at W⊢;cases W;exact⟨P,(w.tr y).sub s1 s2,by rw[QY];exact O⟩
def cNx(it:Dn->M (List Pu.D))(tg:TgF)(tt:Dn->M Bool)(b:Dn->M (List Pu.D)):Dn->M (List Pu.D):=λδ=>M.bind (it δ) λds=>cLp tg tt b ds δ
theorem oI{D:PZ}{tg:TgF}{b:Dn->M (List Pu.D)}(j:cR K g tg)(l:dP tg)(m:eW K R D tb b):eW K R D (x8 (iV K it E0) λJ=>db J g (tVT K tt E0) tb) (cNx it tg tt b):=λF H δ β q C as os Q fr r hn h u e v k=>by
 obtain⟨ds,β1,w,y⟩:=M.bind_inv e;refine⟨F,δ,β,fr,h,E0.run w λJ i t A=>?_⟩;exact nC j l m t.fr r hn (h.tr (t.tr fr)) (R.tr u (λo z=>t.kp D o z hn) (t.tr fr)) A y v λd i B=>k d i ((t.toD D).trans B)
theorem K5{D:PZ}{tg:TgF}{b:Dn->M (List Pu.D)}(d:cR K g tg)(h:dP tg)(i:jS K D tb b):jS K D (x8 (iV K it E0) λJ=>db J g (tVT K tt E0) tb) (cNx it tg tt b):=oI d h i
noncomputable def cSt(nv:Nat)(caps:List Nat)(δ:Dn):Dn:=Qr nv PM++caps.map λj=>δ.getD j PM
def dJ(nv:Nat)(caps:List Nat)(it:Dn->M (List Pu.D))(tg:TgF)(tt:Dn->M Bool)(b:Dn->M (List Pu.D)):Dn->M Pu.D:=λδ β=>match it δ β with
 |none=>PM
 |some (.error C,β1)=>on (.error C,β1)
 |some (.ok ds,β1)=>match cLp tg tt b ds (cSt nv caps δ) β1 with
  |some (.ok os,β2)=>if os.length<=Qp then on (.ok (.lst os),β2)else PM
  |_=>PM
theorem qp{F:Fx}{H:Hp}{vars:List QO}(h:VOk K F H δ σ):VOk K F H (cSt vars.length caps δ) (kP vars caps σ):=by
 refine⟨by simp[cSt,kP],λi d e=>?_⟩;unfold cSt at e;unfold kP;rw[VS]at e⊢;rw[RV]at e⊢;by_cases g:i<vars.length
 ·rw[P7 g,Sx,P7 g]at e
  cases e
 ·rw[P5 g,PY]at e⊢
  cases q:caps[i-vars.length]? with
  |none=>rw[q]at e;cases e
  |some j=>
   rw[q]at e;simp only[RX,Xr]at e⊢;rw[PV]at e;cases z:δ[j]? with
   |none=>rw[z]at e;cases e
   |some w=>
    rw[z]at e;have l:w=on d:=e;subst l;obtain⟨v,m,o⟩:=h.tell j d z;exact⟨v,by rw[PV,m];rfl,o⟩
theorem tK{vars:List QO}{caps:List Nat}{it:Dn->M (List Pu.D)}{g:TG}{tg:TgF}{tt:Dn->M Bool}{P:PZ->TB}{b:Dn->M (List Pu.D)}(Z:cR K g tg)(sg:dP tg)(hb:∀D,jS K D (P D) b){T:St}{H:Hp}{Q:VK}(h:tV K (dJ vars.length caps it tg tt b) E T H Q):
  o9 vars caps (iV K it E) (λD J=>db J g (tVT K tt E0) (P D)) T H Q:=by
 obtain⟨F,δ,β,fr,U,r,v,e,h⟩:=h;unfold dJ at e;refine⟨F,δ,β,fr,U,?_⟩;split at e
 ·cases e
 ·rename_i C β1 q
  cases e;exact⟨.error C,_,q,h⟩
 ·rename_i ds β1 q
  split at e
  ·rename_i os β2 q2
   split at e
   ·rename_i hz
    cases e;refine⟨.ok ds,β1,q,λJ u t hJ D i=>?_⟩;have d:¬F.A D:=t.fr.fresh i;have nb:∀b l,F.bg=on (b,l)->D≠b/\D≠l:=λb l z=>⟨λw=>d (w▸(fr.bgA b l z).1),λw=>d (w▸(fr.bgA b l z).2.1)⟩;have W:=t.fr.upd (.lst []) i;have B:Fr ⟨λa=>F.A a\/a=D,F.bg⟩ (upd u D (.lst [])) β1:=by
     refine⟨λa ha z=>?_,λb l z=>let ⟨x,y,w⟩:=fr.bgA b l z;⟨.inl x,.inl y,w⟩,W.fr.bag⟩
     rcases ha with ha|ha
     ·exact W.fr.occ a ha z
     ·subst ha;rw[ao]at z;cases z
    have j:Tr F u ⟨λa=>F.A a\/a=D,F.bg⟩ (upd u D (.lst [])):=⟨λa ha hs z=>by
     rcases z with z|z
     ·exact ha z
     ·subst z;exact hs i,λa o ha z=>by rw[upd_ne (az z i)];exact z,rfl⟩
    refine nC (R:=RL K) (D:=D) (as:=[]) (os:=os) Z sg (hb D) B (.inr rfl) nb (qp (U.tr ((t.tr fr).trans j))) ⟨[],ao,rfl⟩ (hJ.tr j) q2 (show os.length<=Qp from hz) λσ1 Y I vk3 L=>?_;obtain⟨m,N,O⟩:=L;have tf:To F u Y v:=by
     refine⟨λa o z n=>I.kp a o (by rw[upd_ne (az z i)];exact z) (az z i) n,λa ha z=>I.fr.occ a (RH ha) z,fr.bgA,I.fr.bag⟩
    refine h _ Y (t.trans tf) ⟨D,m,rfl,⟨d,.inl N⟩,DenL.tr (F:=⟨λa=>F.A a\/a=D,F.bg⟩) ⟨λa ha _ z=>ha (RH z),λa o _ z=>z,rfl⟩ _ _ O⟩
   ·cases e
  ·cases e
inductive Sl where
 |sh (d:D)|own (ds:List D)|grd (rows:List (List D))
abbrev Ds:=List (Option Sl)
inductive Out where
 |nx (δ:Ds)|rt (d:D)|bk (δ:Ds)|ct (δ:Ds)|ex (C:PZ) (δ:Ds)|rg (rows:List (List D))
abbrev G:=Ds->Bg->Option (Out×Bg)
abbrev Ow:=PZ->Option Nat
noncomputable def FxB(B:Ow)(bg:Option (PZ×PZ)):Fx:=⟨λa=>B a≠PM,bg⟩
noncomputable def FxA(B:Ow)(bg:Option (PZ×PZ)):Fx:=⟨λa=>B a=on 0\/B a=on 1,bg⟩
def RowL(K:Qo)(F:Fx)(H:Hp)(P:PZ->Prop):List (List D)->List PZ->Prop
 |[],[]=>True
 |ds::rows,r::rs=>P r/\(∃xs,H r=on (.lst xs)/\DenL K F H ds xs)/\RowL K F H P rows rs
 |_,_=>False
theorem RowL.tr{K:Qo}{F i:Fx}{H d:Hp}(t:Tr F H i d):∀{rows:List (List D)} {rs:List PZ},RowL K F H P rows rs->(∀r xs,r∈rs->P r->H r=on (.lst xs)->P2 r/\d r=on (.lst xs))->RowL K i d P2 rows rs
 |[],[],_,_=>trivial
 |ds::rows,r::rs,h,f=>by
  obtain⟨j,⟨xs,l,m⟩,o⟩:=h;obtain⟨p,q⟩:=f r xs P3 j l;exact⟨p,⟨xs,q,DenL.tr t _ _ m⟩,RowL.tr t o λu g v=>f u g (PR _ v)⟩
 |[],_::_,h,_=>h.elim
 |_::_,[],h,_=>h.elim
theorem RowL.all{K:Qo}{F:Fx}{H:Hp}:∀{rows:List (List D)} {rs:List PZ},RowL K F H P rows rs->∀r∈rs,P r/\∃xs,H r=on (.lst xs)
 |[],[],_,r,hr=>by cases hr
 |ds::rows,r0::rs,h,r,hr=>by
  obtain⟨d,⟨xs,g,j⟩,i⟩:=h;rcases Qh.mp hr with rfl|hr
  ·exact⟨d,xs,g⟩
  ·exact RowL.all i r hr
 |[],_::_,h,_,_=>h.elim
 |_::_,[],h,_,_=>h.elim
theorem RowL.den{K:Qo}{F d:Fx}{H:Hp}(t:Tr F H d H):∀{rows:List (List D)} {rs:List PZ},RowL K F H P rows rs->(∀r,r∈rs->P r->¬d.A r)->DenL K d H (rows.map D.lst) (rs.map V.ref)
 |[],[],_,_=>rfl
 |ds::rows,r::rs,h,f=>by
  obtain⟨g,⟨xs,i,j⟩,l⟩:=h;exact DenL.cons ⟨r,xs,rfl,⟨f r P3 g,.inl i⟩,DenL.tr t _ _ j⟩ (RowL.den t l λm o=>f m (PR _ o))
 |[],_::_,h,_=>h.elim
 |_::_,[],h,_=>h.elim
theorem RowL.len{K:Qo}{F:Fx}{H:Hp}:∀{rows:List (List D)} {rs:List PZ},RowL K F H P rows rs->rows.length=rs.length
 |[],[],_=>rfl
 |ds::rows,r::rs,h=>by simp[RowL.len h.2.2]
 |[],_::_,h=>h.elim
 |_::_,[],h=>h.elim
def ib(K:Qo)(F:Fx)(H0 H:Hp)(rows:List (List D))(v:V):Prop:=∃a rs,v= .ref a/\H0 a=PM/\H a=on (.lst (rs.map V.ref))/\(a::rs).Nodup/\RowL K F H (λr=>H0 r=PM) rows rs
def DenS(K:Qo)(B:Ow)(bg:Option (PZ×PZ))(H:Hp)(i:Nat):Sl->V->Prop
 | .sh d,v=>Den K (FxB B bg) H d v
 | .own ds,v=>∃a xs,v= .ref a/\B a=on (i+2)/\H a=on (.lst xs)/\DenL K (FxB B bg) H ds xs
 | .grd rows,v=>∃a rs,v= .ref a/\B a=on (i+2)/\H a=on (.lst (rs.map V.ref))/\(a::rs).Nodup/\RowL K (FxB B bg) H (λr=>B r=on (i+2)) rows rs
structure SOk (K:Qo) (H₀:Hp) (B:Ow) (bg:Option (PZ×PZ)) (H:Hp) (δ:Ds) (β:Bg) (σ:St):Prop where
 fr:Fr (FxB B bg) H β
 bgt:∀b l,bg=on (b,l)->B b=on 1/\B l=on 1
 len:δ.length=σ.length
 cov:∀a,H₀ a≠PM->H a≠PM
 new:∀a k,B a=on (k+2)->H₀ a=PM
 lst:∀a k,B a=on (k+2)->∃xs,H a=on (.lst xs)
 tell:∀(i:Nat) (s:Sl),δ[i]?=on (on s)->∃v,σ[i]?=on (on v)/\DenS K B bg H i s v
structure Stp (B:Ow) (H:Hp) (B':Ow) (H':Hp):Prop where
 kp:∀a o,H a=on o->(B a=PM\/B a=on 0)->H' a=on o
 tg:∀a,B a=on 0\/B a=on 1->B' a=B a
 nn:∀a o,H a=on o->B a=PM->B' a=PM
 al:∀a,H a≠PM->H' a≠PM
theorem Stp.refl(B:Ow)(H:Hp):Stp B H B H:=⟨λ_ _ h _=>h,λ_ _=>rfl,λ_ _ _ h=>h,λ_ h=>h⟩
theorem Stp.trans{H d g:Hp}(a:Stp B H B1 d)(b:Stp B1 d B2 g):Stp B H B2 g:=by
 refine⟨λx o h n=>b.kp x o (a.kp x o h n) ?_,λx h=>?_,λx o h n=>b.nn x o (a.kp x o h (.inl n)) (a.nn x o h n),λx h=>b.al x (a.al x h)⟩
 ·rcases n with n|n
  ·exact .inl (a.nn x o h n)
  ·exact .inr ((a.tg x (.inl n)).trans n)
 ·have e:=a.tg x h
  rw[←e]at h;exact(b.tg x h).trans e
def iU(K:Qo)(H₀:Hp)(bg:Option (PZ×PZ))(E:St->XK)(Dn:Ends)(B:Ow)(H:Hp)(o:Out)(j:Bg):Prop:=match o with
 | .nx δ'=>∀h i g,Stp B H i g->SOk K H₀ i bg g δ' j h->Dn.nx h g
 | .bk δ'=>∀h i g,Stp B H i g->SOk K H₀ i bg g δ' j h->Dn.bk h g
 | .ct δ'=>∀h i g,Stp B H i g->SOk K H₀ i bg g δ' j h->Dn.ct h g
 | .rt d=>∀v i g,Stp B H i g->Fr (FxB i bg) g j->Den K (FxB i bg) g d v->Dn.rt v g
 | .rg rows=>∀v i g,Stp B H i g->Fr (FxB i bg) g j->ib K (FxB i bg) H₀ g rows v->Dn.rt v g
 | .ex C δ'=>∀h i g,Stp B H i g->SOk K H₀ i bg g δ' j h->E h (.ref C) PM g
theorem iU.pre{K:Qo}{E:St->XK}{Dn:Ends}{H l:Hp}(s:Stp B H B1 l)(h:iU K H₀ bg E Dn B H o β'):iU K H₀ bg E Dn B1 l o β':=by
 cases o with
 |nx δ=>exact λg i j t=>h g i j (s.trans t)
 |bk δ=>exact λg i j t=>h g i j (s.trans t)
 |ct δ=>exact λg i j t=>h g i j (s.trans t)
 |rt d=>exact λv i j t=>h v i j (s.trans t)
 |rg d=>exact λv i j t=>h v i j (s.trans t)
 |ex C δ=>exact λg i j t=>h g i j (s.trans t)
def tG(K:Qo)(H₀:Hp)(g:G)(E:St->XK):TS:=λDn h H=>∃B bg δ β o d,SOk K H₀ B bg H δ β h/\g δ β=on (o,d)/\iU K H₀ bg E Dn B H o d
theorem _root_.L2.PS.imp{X:Cx}{e:Q9}(h:PS X e t)(f:∀D d H,t' D d H->t D d H):PS X e t':=λg s d H D I q=>h g s d H D I (f D d H q)
theorem _root_.L2.PSs.imp{X:Cx}{e:List Q9}(h:PSs X e t)(f:∀D d H,t' D d H->t D d H):PSs X e t':=λg s d H D I q=>h g s d H D I (f D d H q)
noncomputable def vw(δ:Ds):Dn:=δ.map λs=>match s with
 |some (.sh d)=>on d
 |_=>PM
noncomputable def vwA(δ:Ds):Dn:=δ.map λs=>match s with
 |some (.sh d)=>on d
 |some (.own ds)=>on (.lst ds)
 |some (.grd rows)=>on (.lst (rows.map D.lst))
 |none=>PM
variable{H₀:Hp}{B:Ow}{bg:Option (PZ×PZ)}{H':Hp}{δ:Ds}{β β':Bg}{σ:St}
theorem OF{i:Nat}{d:D}(e:(vw δ)[i]?=on (on d)):δ[i]?=on (on (.sh d)):=by
 unfold vw at e;rw[PY]at e;cases q:δ[i]? with
 |none=>rw[q]at e;cases e
 |some z=>
  rw[q]at e;cases z with
  |none=>cases e
  |some s=>
   cases s with
   |sh c=>cases e;rfl
   |own ds=>cases e
   |grd rows=>cases e
theorem SOk.view(h:SOk K H₀ B bg H δ β σ):VOk K (FxB B bg) H (vw δ) σ:=⟨by unfold vw;rw[PL,h.len],λi d e=>h.tell i _ (OF e)⟩
theorem trA:Tr (FxB B bg) H (FxA B bg) H:=⟨λa h _ z=>by
 have h':¬(B a≠PM):=h;rcases z with z|z
 ·exact h' (by rw[z];simp)
 ·exact h' (by rw[z];simp),λ_ _ _ h=>h,rfl⟩
theorem SOk.frA(h:SOk K H₀ B bg H δ β σ):Fr (FxA B bg) H β:=⟨λa ha=>h.fr.occ a (by
 show B a≠PM;rcases ha with z|z<;>rw[z]<;>simp),λb l e=>⟨.inr (h.bgt b l e).1,.inr (h.bgt b l e).2,(h.fr.bgA b l e).2.2⟩,h.fr.bag⟩
theorem SOk.viewA(h:SOk K H₀ B bg H δ β σ):VOk K (FxA B bg) H (vwA δ) σ:=by
 refine⟨by unfold vwA;rw[PL,h.len],λi d e=>?_⟩;unfold vwA at e;rw[PY]at e;cases q:δ[i]? with
 |none=>rw[q]at e;cases e
 |some z=>
  rw[q]at e;cases z with
  |none=>cases e
  |some s=>
   obtain⟨v,g,j⟩:=h.tell i s q;cases s with
   |sh c=>cases e;exact⟨v,g,Den.tr trA _ _ j⟩
   |own ds=>
    cases e;obtain⟨a,xs,l,m,o,t⟩:=j;refine⟨v,g,a,xs,l,⟨λz=>?_,.inl o⟩,DenL.tr trA _ _ t⟩;have z':B a=on 0\/B a=on 1:=z;rw[m]at z';rcases z' with z'|z'<;>cases z'
   |grd rows=>
    cases e;obtain⟨a,rs,l,m,o,t,w⟩:=j;have u:∀c,B c=on (i+2)->¬(FxA B bg).A c:=λc y z=>by
     have z':B c=on 0\/B c=on 1:=z;rw[y]at z';rcases z' with z'|z'<;>cases z'
    exact⟨v,g,a,_,l,⟨u a m,.inl o⟩,RowL.den trA w λr _ C=>u r C⟩
theorem SOk.to{F:Fx}(h:SOk K H₀ B bg H δ β σ)(hF:F.bg=bg)(t:To F H H' β'):SOk K H₀ B bg H' δ β' σ/\Stp B H B H':=by
 have J:∀a,B a≠on 1->∀b l,F.bg=on (b,l)->a≠b/\a≠l:=λa ha b l e=>by
  rw[hF]at e;exact⟨λz=>ha (z▸(h.bgt b l e).1),λz=>ha (z▸(h.bgt b l e).2)⟩
 have kp:∀a o,H a=on o->B a≠on 1->H' a=on o:=λa o e n=>t.kp a o e (J a n);have fr:Fr (FxB B bg) H' β':=⟨λa ha z=>(by
  by_cases L:B a=on 1
  ·by_cases d:∃b l,bg=on (b,l)/\(a=b\/a=l)
   ·obtain⟨b,l,e,q⟩:=d
    obtain⟨j,m⟩:=t.fr.bag b l (hF.trans e);rcases q with rfl|rfl
    ·rw[j]at z;cases z
    ·rw[m]at z;cases z
   ·cases q:H a with
    |none=>exact h.fr.occ a ha q
    |some o=>
     rw[t.kp a o q λb l e=>⟨λw=>d ⟨b,l,hF.symm.trans e,.inl w⟩,λw=>d ⟨b,l,hF.symm.trans e,.inr w⟩⟩]at z;cases z
  ·cases q:H a with
   |none=>exact h.fr.occ a ha q
   |some o=>rw[kp a o q L]at z;cases z),h.fr.bgA,λb l e=>t.fr.bag b l (hF.trans e)⟩
 have tr:Tr (FxB B bg) H (FxB B bg) H':=⟨λ_ n _=>n,λa o n e=>kp a o e (λz=>n (by show B a≠PM;rw[z];simp)),rfl⟩;have al:∀a,H a≠PM->H' a≠PM:=λa ha z=>by
  by_cases d:∃b l,bg=on (b,l)/\(a=b\/a=l)
  ·obtain⟨b,l,e,q⟩:=d
   obtain⟨j,m⟩:=t.fr.bag b l (hF.trans e);rcases q with rfl|rfl
   ·rw[j]at z;cases z
   ·rw[m]at z;cases z
  ·cases q:H a with
   |none=>exact ha q
   |some o=>
    rw[t.kp a o q λb l e=>⟨λw=>d ⟨b,l,hF.symm.trans e,.inl w⟩,λw=>d ⟨b,l,hF.symm.trans e,.inr w⟩⟩]at z;cases z
 refine⟨⟨fr,h.bgt,h.len,λa ha=>al a (h.cov a ha),h.new,λc k I=>(let ⟨xs,z⟩:=h.lst c k I;⟨xs,kp c _ z (by rw[I];intro z;cases z)⟩),λi s e=>?_⟩,λa o e n=>kp a o e (by rcases n with n|n<;>rw[n]<;>simp),λ_ _=>rfl,λ_ _ _ n=>n,al⟩
 obtain⟨v,N,u⟩:=h.tell i s e;refine⟨v,N,?_⟩;cases s with
 |sh c=>exact Den.tr tr _ _ u
 |own ds=>
  obtain⟨a,xs,y,g,A,C⟩:=u;exact⟨a,xs,y,g,kp a _ A (by rw[g];intro z;cases z),DenL.tr tr _ _ C⟩
 |grd rows=>
  obtain⟨a,rs,y,g,A,C,O⟩:=u;exact⟨a,rs,y,g,kp a _ A (by rw[g];intro z;cases z),C,RowL.tr tr O λr xs _ p q=>⟨p,kp r _ q (by rw[p];intro z;cases z)⟩⟩
theorem SOk.set(h:SOk K H₀ B bg H δ β σ)(hd:Den K (FxB B bg) H d v):SOk K H₀ B bg H (δ.set i (on (.sh d))) β (σ.set i (on v)):=by
 refine⟨h.fr,h.bgt,by rw[Rc,Rc,h.len],h.cov,h.new,h.lst,λj c e=>?_⟩;rw[Ro]at e;rw[Ro];by_cases q:i=j
 ·subst q
  rw[P7 rfl]at e⊢;split at e
  ·rename_i g
   cases e;rw[P7 (by rw[←h.len];exact g)];exact⟨v,rfl,hd⟩
  ·cases e
 ·rw[P5 q]at e⊢
  exact h.tell j c e
noncomputable def gNil:G:=λδ β=>on (.nx δ,β)
noncomputable def aY(g h:G):G:=λδ β=>match g δ β with
 |some (.nx δ1,β1)=>h δ1 β1
 |r=>r
def lH(i:Nat)(f:FD):G:=λδ β=>match f (vw δ) β with
 |some (.ok d,β1)=>on (.nx (δ.set i (on (.sh d))),β1)
 |some (.error C,β1)=>on (.ex C δ,β1)
 |none=>PM
noncomputable def qf(f:FD):G:=λδ β=>match f (vwA δ) β with
 |some (.ok _,β1)=>on (.nx δ,β1)
 |some (.error C,β1)=>on (.ex C δ,β1)
 |none=>PM
noncomputable def jr(f:FD):G:=λδ β=>match f (vwA δ) β with
 |some (.ok d,β1)=>on (.rt d,β1)
 |some (.error C,β1)=>on (.ex C δ,β1)
 |none=>PM
noncomputable def gIf(t:Dn->M Bool)(g h:G):G:=λδ β=>match t (vwA δ) β with
 |some (.ok PQ,β1)=>g δ β1
 |some (.ok PX,β1)=>h δ β1
 |some (.error C,β1)=>on (.ex C δ,β1)
 |none=>PM
variable{st:Q9}{sts:List Q9}
theorem bo:PSs X [] (tG X.K X.H₀ gNil E):=qK.imp λD σ H d=>by
 obtain⟨B,bg,δ,β,o,β',ok,e,h⟩:=d;cases e;exact h σ B H (Stp.refl B H) ok
theorem ad(i:PS X st (tG X.K X.H₀ g E))(j:PSs X sts (tG X.K X.H₀ h E)):PSs X (st::sts) (tG X.K X.H₀ (aY g h) E):=(c7 i j).imp λD σ H l=>by
 obtain⟨B,bg,δ,β,o,β',ok,e,q⟩:=l;unfold aY at e;split at e
 ·rename_i δ1 β1 m
  refine⟨B,bg,δ,β,.nx δ1,β1,ok,m,λt u H' s d=>⟨u,bg,δ1,β1,o,β',d,e,iU.pre s ?_⟩⟩;exact q
 ·rename_i r v
  refine⟨B,bg,δ,β,o,β',ok,e,?_⟩;cases o with
  |nx δ1=>exact Qx e (v δ1 β')
  |_=>exact q
theorem ah(d:PS X st (tG X.K X.H₀ g E)):PSs X [st] (tG X.K X.H₀ g E):=np d
theorem aE{x:QO}{f:FD}(h:PS X (.Assign [.Name x pos'] e pos) (jU (tV X.K f E) (fq i))):PS X (.Assign [.Name x pos'] e pos) (tG X.K X.H₀ (lH i f) E):=h.imp λD σ H m=>by
 obtain⟨B,bg,δ,β,o,β',ok,e,q⟩:=m;refine⟨FxB B bg,vw δ,β,ok.fr,ok.view,?_⟩;unfold lH at e;split at e
 ·rename_i d β1 j
  cases e;refine⟨.ok d,_,j,λv H' t hd=>?_⟩;obtain⟨g,l⟩:=ok.to rfl t;exact q _ B H' l (g.set hd)
 ·rename_i C β1 j
  cases e;refine⟨.error C,_,j,λH' t=>?_⟩;obtain⟨g,l⟩:=ok.to rfl t;exact q _ B H' l g
 ·cases e
theorem kn{f:FD}(h:PS X (.Expr e pos) (wZ (tV X.K f E))):PS X (.Expr e pos) (tG X.K X.H₀ (qf f) E):=h.imp λD σ H l=>by
 obtain⟨B,bg,δ,β,o,β',ok,e,q⟩:=l;refine⟨FxA B bg,vwA δ,β,ok.frA,ok.viewA,?_⟩;unfold qf at e;split at e
 ·rename_i d β1 i
  cases e;refine⟨.ok d,_,i,λv H' t hd=>?_⟩;obtain⟨g,j⟩:=ok.to rfl t;exact q _ B H' j g
 ·rename_i C β1 i
  cases e;refine⟨.error C,_,i,λH' t=>?_⟩;obtain⟨g,j⟩:=ok.to rfl t;exact q _ B H' j g
 ·cases e
noncomputable def gF(B:Ow):Ow:=λa=>if B a=on 0\/B a=on 1 then B a else PM
theorem MO{B:Ow}{bg:Option (PZ×PZ)}{H:Hp}:Tr (FxA B bg) H (FxB (gF B) bg) H:=⟨λa h _ z=>by
 have d:gF B a≠PM:=z;unfold gF at d;split at d
 ·rename_i q;exact h q
 ·exact d rfl,λ_ _ _ h=>h,rfl⟩
theorem DL{B:Ow}{H:Hp}:Stp B H (gF B) H:=⟨λ_ _ h _=>h,λa h=>by unfold gF;rw[P7 h],λa o h n=>by unfold gF;rw[n];simp,λ_ h=>h⟩
theorem aA{f:FD}(h:PS X (.Return (on e) pos) (BS (tV X.K f E))):PS X (.Return (on e) pos) (tG X.K X.H₀ (jr f) E):=h.imp λD σ H r=>by
 obtain⟨B,bg,δ,β,o,β',ok,e,q⟩:=r;refine⟨FxA B bg,vwA δ,β,ok.frA,ok.viewA,?_⟩;unfold jr at e;split at e
 ·rename_i d β1 j
  cases e;refine⟨.ok d,_,j,λv H' t hd=>?_⟩;obtain⟨g,m⟩:=ok.to rfl t;refine q _ (gF B) H' (m.trans DL) ⟨λa ha=>g.fr.occ a ?_,λb l e=>?_,g.fr.bag⟩ (Den.tr MO _ _ hd)
  ·have i:gF B a≠PM:=ha
   show B a≠PM;unfold gF at i;split at i
   ·exact i
   ·exact Qx rfl i
  ·refine⟨?_,?_,(g.fr.bgA b l e).2.2⟩
   ·show gF B b≠PM
    unfold gF;rw[P7 (.inr (ok.bgt b l e).1),(ok.bgt b l e).1];simp
   ·show gF B l≠PM
    unfold gF;rw[P7 (.inr (ok.bgt b l e).2),(ok.bgt b l e).2];simp
 ·rename_i C β1 j
  cases e;refine⟨.error C,_,j,λH' t=>?_⟩;obtain⟨g,m⟩:=ok.to rfl t;exact q _ B H' m g
 ·cases e
theorem bz{c:Expr}{a b:List Q9}(l:PT X c (tVT X.K t E))(ha:PSs X a (tG X.K X.H₀ g E))(m:PSs X b (tG X.K X.H₀ h E)):PS X (.If c a b pos) (tG X.K X.H₀ (gIf t g h) E):=(IG l ha m).imp λD σ H r=>by
 obtain⟨B,bg,δ,β,o,β',ok,e,q⟩:=r;refine⟨FxA B bg,vwA δ,β,ok.frA,ok.viewA,?_⟩;unfold gIf at e;split at e
 ·rename_i β1 i
  refine⟨.ok PQ,_,i,λv H' t hd=>?_⟩;subst hd;obtain⟨d,j⟩:=ok.to rfl t;rw[P7 rfl];exact⟨B,bg,δ,β1,o,β',d,e,iU.pre j q⟩
 ·rename_i β1 i
  refine⟨.ok PX,_,i,λv H' t hd=>?_⟩;subst hd;obtain⟨d,j⟩:=ok.to rfl t;rw[P5 P8];exact⟨B,bg,δ,β1,o,β',d,e,iU.pre j q⟩
 ·rename_i C β1 i
  cases e;refine⟨.error C,_,i,λH' t=>?_⟩;obtain⟨d,j⟩:=ok.to rfl t;exact q _ B H' j d
 ·cases e
abbrev TgS:=D->Ds->Option Ds
abbrev mV:=List D->Ds->Option Ds
def qt(K:Qo)(g:TG)(tg:TgS):Prop:=∀(H₀:Hp) (B:Ow) (bg:Option (PZ×PZ)) (H:Hp) (δ δ1:Ds) (β:Bg) (σ:St) (d:D) (v:V) (Q:St->Hp->Prop),SOk K H₀ B bg H δ β σ->Den K (FxB B bg) H d v->tg d δ=on δ1->(∀h,SOk K H₀ B bg H δ1 β h->Q h H)->g v σ H Q
def qr(K:Qo)(g:TGs)(tg:mV):Prop:=∀(H₀:Hp) (B:Ow) (bg:Option (PZ×PZ)) (H:Hp) (δ δ1:Ds) (β:Bg) (σ:St) (ds:List D) (vs:List V) (Q:St->Hp->Prop),SOk K H₀ B bg H δ β σ->DenL K (FxB B bg) H ds vs->tg ds δ=on δ1->(∀d,SOk K H₀ B bg H δ1 β d->Q d H)->g vs σ H Q
noncomputable def sgN(i:Nat):TgS:=λd δ=>on (δ.set i (on (.sh d)))
noncomputable def LV:mV:=λds δ=>match ds with
 |[]=>on δ
 |_=>PM
noncomputable def LU(t:TgS)(u:mV):mV:=λds δ=>match ds with
 |[]=>PM
 |d::r=>(t d δ).bind λδ1=>u r δ1
noncomputable def sgT(t:mV):TgS:=λd δ=>match d with
 | .tup ds=>t ds δ
 |_=>PM
theorem ay:qt K (fq i) (sgN i):=λH₀ B bg H δ δ1 β σ d v Q ok hd e k=>by
 cases e;exact k _ (ok.set hd)
theorem cN:qr K L2.gNil LV:=λH₀ B bg H δ δ1 β σ ds vs Q ok hd e k=>by
 cases ds with
 |nil=>cases e;exact⟨hd,k _ ok⟩
 |cons _ _=>cases e
theorem aP(m:qt K t tf)(o:qr K u uf):qr K (xP t u) (LU tf uf):=λH₀ B bg H δ δ1 β σ ds vs Q ok hd e k=>by
 cases ds with
 |nil=>cases e
 |cons d r=>
  obtain⟨x,l,rfl,v,w⟩:=hd;have h:(tf d δ).bind (λδ1=>uf r δ1)=on δ1:=e;cases q:tf d δ with
  |none=>rw[q]at h;cases h
  |some g=>
   rw[q]at h;exact⟨x,l,rfl,m H₀ B bg H δ g β σ d x _ ok v q λi j=>o H₀ B bg H g δ1 β i r l Q j w h k⟩
theorem bZ:∀ds δ δ1,LV ds δ=on δ1->ds.length=0:=λds δ δ1 h=>by
 cases ds with
 |nil=>rfl
 |cons _ _=>cases h
theorem aO{n:Nat}(h:∀ds δ δ1,u ds δ=on δ1->ds.length=n):∀ds δ δ1,LU t u ds δ=on δ1->ds.length=n+1:=λds δ δ1 e=>by
 cases ds with
 |nil=>cases e
 |cons d r=>
  have g:(t d δ).bind (λδ1=>u r δ1)=on δ1:=e;cases q:t d δ with
  |none=>rw[q]at g;cases g
  |some i=>rw[q]at g;rw[Qe,h _ _ _ g]
theorem dD{n:Nat}(h:qr K t tf)(hn:∀ds δ δ1,tf ds δ=on δ1->ds.length=n):qt K (EB K n t) (sgT tf):=λH₀ B bg H δ δ1 β σ d v Q ok hd e k=>by
 cases d<;>first
  |(obtain⟨a,xs,rfl,sq,dl⟩:=Den.sqT hd;exact⟨a,xs,rfl,sq,by rw[←dl.length];exact hn _ _ _ e,h H₀ B bg H δ δ1 β σ _ xs Q ok dl e k⟩)
  |cases e
def xR(f:FD)(tg:TgS):G:=λδ β=>match f (vw δ) β with
 |some (.ok d,β1)=>(tg d δ).map λδ1=>(.nx δ1,β1)
 |some (.error C,β1)=>on (.ex C δ,β1)
 |none=>PM
theorem k6{f:FD}{tg:TgS}(l:qt X.K g tg)(h:PS X (.Assign [tgt] e pos) (jU (tV X.K f E) g)):PS X (.Assign [tgt] e pos) (tG X.K X.H₀ (xR f tg) E):=h.imp λD σ H w=>by
 obtain⟨B,bg,δ,β,o,β',ok,e,q⟩:=w;refine⟨FxB B bg,vw δ,β,ok.fr,ok.view,?_⟩;unfold xR at e;split at e
 ·rename_i d β1 j
  cases q1:tg d δ with
  |none=>rw[q1]at e;cases e
  |some δ1=>
   rw[q1]at e;cases e;refine⟨.ok d,_,j,λv H' t hd=>?_⟩;obtain⟨i,m⟩:=ok.to rfl t;exact l X.H₀ B bg H' δ δ1 _ σ d v _ i hd q1 λr u=>q r B H' m u
 ·rename_i C β1 j
  cases e;refine⟨.error C,_,j,λH' t=>?_⟩;obtain⟨i,m⟩:=ok.to rfl t;exact q _ B H' m i
 ·cases e
def xQ(i:Nat)(op:D->D->Option D)(f:FD):G:=λδ β=>match(vw δ).getD i PM with
 |none=>PM
 |some c=>match f (vw δ) β with
  |some (.ok d,β1)=>(op c d).map λz=>(.nx (δ.set i (on (.sh z))),β1)
  |some (.error C,β1)=>on (.ex C δ,β1)
  |none=>PM
theorem e8{f:FD}(l:bh X.K ti op)(h:PS X st (LM i (tV X.K f E) ti)):PS X st (tG X.K X.H₀ (xQ i op f) E):=h.imp λD σ H I=>by
 obtain⟨B,bg,δ,β,o,β',ok,e,q⟩:=I;unfold xQ at e;split at e
 ·cases e
 ·rename_i c j
  have m:(vw δ)[i]?=on (on c):=by
   rw[PV]at j;cases z:(vw δ)[i]? with
   |none=>rw[z]at j;cases j
   |some w=>rw[z]at j;simp at j;rw[j]
  obtain⟨v,J,L⟩:=ok.view.tell i c m;refine⟨v,J,FxB B bg,vw δ,β,ok.fr,ok.view,?_⟩;split at e
  ·rename_i d β1 r
   cases q1:op c d with
   |none=>rw[q1]at e;cases e
   |some z=>
    rw[q1]at e;cases e;refine⟨.ok d,_,r,λw H' t hd=>?_⟩;obtain⟨g,y⟩:=ok.to rfl t;refine l (FxB B bg) H' β' _ c d z v w t.fr (Den.tr (t.tr ok.fr) _ _ L) hd q1 λu N O P=>?_;obtain⟨A,Q⟩:=g.to rfl O;exact q _ B N (y.trans Q) (A.set P)
  ·rename_i C β1 r
   cases e;refine⟨.error C,_,r,λH' t=>?_⟩;obtain⟨g,y⟩:=ok.to rfl t;exact q _ B H' y g
  ·cases e
theorem Stp.tr{B d:Ow}{H H':Hp}{bg:Option (PZ×PZ)}(s:Stp B H d H'):Tr (FxB B bg) H (FxB d bg) H':=
 ⟨λa h hs z=>by
  have hn:B a=PM:=by
   cases q:B a with
   |none=>rfl
   |some t=>exact Qx (show B a≠PM by rw[q];simp) h
  cases q:H a with
  |none=>exact hs q
  |some o=>exact z (s.nn a o q hn),λa o h e=>s.kp a o e (.inl (by
  cases q:B a with
  |none=>rfl
  |some t=>exact Qx (show B a≠PM by rw[q];simp) h)),rfl⟩
def cg(t:Dn->M Bool)(g:G):Nat->G
 |0,_,_=>PM
 |n+1,δ,β=>match t (vwA δ) β with
  |some (.ok PQ,β1)=>match g δ β1 with
   |some (.nx δ1,β2)=>cg t g n δ1 β2
   |some (.ct δ1,β2)=>cg t g n δ1 β2
   |some (.bk δ1,β2)=>on (.nx δ1,β2)
   |r=>r
  |some (.ok PX,β1)=>on (.nx δ,β1)
  |some (.error C,β1)=>on (.ex C δ,β1)
  |none=>PM
theorem mF:∀{n:Nat} {δ:Ds} {β:Bg} {r:Out×Bg},cg t g n δ β=on r->cg t g (n+1) δ β=on r
 |0,_,_,_,h=>by cases h
 |n+1,δ,β,r,h=>by
  have e:∀m,cg t g (m+1) δ β=match t (vwA δ) β with
    |some (.ok PQ,β1)=>match g δ β1 with
     |some (.nx δ1,β2)=>cg t g m δ1 β2
     |some (.ct δ1,β2)=>cg t g m δ1 β2
     |some (.bk δ1,β2)=>on (.nx δ1,β2)
     |r=>r
    |some (.ok PX,β1)=>on (.nx δ,β1)
    |some (.error C,β1)=>on (.ex C δ,β1)
    |none=>PM:=λm=>rfl
  rw[e]at h⊢;cases q:t (vwA δ) β with
  |none=>rw[q]at h;cases h
  |some z=>
   obtain⟨b,β1⟩:=z;rw[q]at h;cases b with
   |error C=>exact h
   |ok b=>
    cases b with
    |false=>exact h
    |true=>
     dsimp only at h⊢
     cases q2:g δ β1 with
     |none=>rw[q2]at h;cases h
     |some y=>
      obtain⟨o,β2⟩:=y;rw[q2]at h;cases o with
      |nx δ1=>exact mF h
      |ct δ1=>exact mF h
      |bk δ1=>exact h
      |rt d=>exact h
      |rg d=>exact h
      |ex C δ1=>exact h
theorem rQ{n m:Nat}{δ:Ds}{β:Bg}(h:cg t g n δ β=on r)(l:n<=m):cg t g m δ β=on r:=by
 induction m with
 |zero=>
  obtain rfl:n=0:=by omega
  exact h
 |succ m ih=>
  by_cases q:n=m+1
  ·subst q;exact h
  ·exact mF (ih (by omega))
end
open Classical in
def gWh(t:Dn->M Bool)(g:G):G:=λδ β=>if h:∃r n,cg t g n δ β=on r then on h.choose else PM
theorem M7(h:cg t g n δ β=on r):gWh t g δ β=on r:=by
 have a:∃r n,cg t g n δ β=on r:=⟨r,n,h⟩;unfold gWh;rw[dif_pos a];obtain⟨m,hm⟩:=a.choose_spec;have c:=rQ h (Nat.le_max_left n m);have b:=rQ hm (Nat.le_max_right n m);rw[c]at b;rw[←QB b]
theorem Lf(h:gWh t g δ β=on r):∃n,cg t g n δ β=on r:=by
 unfold gWh at h;split at h
 ·rename_i a
  obtain⟨m,hm⟩:=a.choose_spec;cases h;exact⟨m,hm⟩
 ·cases h
section
variable{X:Cx}{E:St->XK}{e:Expr}{st:Q9}{sts:List Q9}{pos:UE}{K:Qo}
theorem Ks(T:YU (QA X.prog X.w) X.A X.env X.xe)(U:PT X c (tVT X.K t E))(W:PSs X body (tG X.K X.H₀ g E)):PS X (.While c body [] pos) (tG X.K X.H₀ (gWh t g) E):=(CH T U W).imp λD σ H Y=>by
 obtain⟨B,bg,δ,β,o,l,ok,e,q⟩:=Y;obtain⟨n,e⟩:=Lf e;refine⟨λm u P=>∃j δ1 β1,Stp B H j P/\SOk X.K X.H₀ j bg P δ1 β1 u/\cg t g m δ1 β1=on (o,l),⟨n,B,δ,β,Stp.refl B H,ok,e⟩,?_⟩;rintro m u P ⟨j,δ1,β1,r,h,f⟩;refine⟨FxA j bg,vwA δ1,β1,h.frA,h.viewA,?_⟩;cases m with
 |zero=>cases f
 |succ m=>
  unfold cg at f;split at f
  ·rename_i β2 y
   refine⟨.ok PQ,_,y,λv N tt hd=>?_⟩;subst hd;obtain⟨b,k⟩:=h.to rfl tt;rw[P7 rfl];refine⟨λF Q=>∃O a β3,Stp B H O Q/\SOk X.K X.H₀ O bg Q a β3 F/\cg t g m a β3=on (o,l),λF Q ⟨O,a,β3,z⟩=>⟨m,Uu m,O,a,β3,z⟩,?_⟩;split at f
   ·rename_i a β3 I
    exact⟨j,bg,δ1,β2,.nx a,β3,b,I,λp J R L i=>⟨J,a,β3,r.trans (k.trans L),i,f⟩⟩
   ·rename_i a β3 I
    exact⟨j,bg,δ1,β2,.ct a,β3,b,I,λp J R L i=>⟨J,a,β3,r.trans (k.trans L),i,f⟩⟩
   ·rename_i a β3 I
    cases f;exact⟨j,bg,δ1,β2,.bk a,_,b,I,λp J R L i=>q p J R (r.trans (k.trans L)) i⟩
   ·rename_i x Z h2 h3
    refine⟨j,bg,δ1,β2,o,l,b,f,?_⟩;have q2:=iU.pre (r.trans k) q;cases o with
    |nx a=>exact Qx f (Z _ _)
    |ct a=>exact Qx f (h2 _ _)
    |bk a=>exact Qx f (h3 _ _)
    |rt d=>exact q2
    |rg d=>exact q2
    |ex C a=>exact q2
  ·rename_i β2 y
   cases f;refine⟨.ok PX,_,y,λv N tt hd=>?_⟩;subst hd;obtain⟨b,k⟩:=h.to rfl tt;rw[P5 P8];exact q _ j N (r.trans k) b
  ·rename_i C β2 y
   cases f;refine⟨.error C,_,y,λN tt=>?_⟩;obtain⟨b,k⟩:=h.to rfl tt;exact q _ j N (r.trans k) b
  ·cases f
noncomputable def gLp(tg:TgS)(g:G):List D->G
 |[],δ,β=>on (.nx δ,β)
 |d::ds,δ,β=>match tg d δ with
  |none=>PM
  |some δ1=>match g δ1 β with
   |some (.nx δ2,β2)=>gLp tg g ds δ2 β2
   |some (.ct δ2,β2)=>gLp tg g ds δ2 β2
   |some (.bk δ2,β2)=>on (.nx δ2,β2)
   |r=>r
def uT(it:FL)(tg:TgS)(g:G):G:=λδ β=>match it (vw δ) β with
 |some (.ok ds,β1)=>gLp tg g ds δ β1
 |some (.error C,β1)=>on (.ex C δ,β1)
 |none=>PM
theorem bG(l:qt X.K tgg tg)(h:PS X (.For tgt iter body [] pos) (LL (iV X.K it E) tgg (tG X.K X.H₀ g E))):PS X (.For tgt iter body [] pos) (tG X.K X.H₀ (uT it tg g) E):=h.imp λD σ H h_=>by
 obtain⟨B,bg,δ,β,o,y,ok,e,q⟩:=h_;refine⟨FxB B bg,vw δ,β,ok.fr,ok.view,?_⟩;unfold uT at e;split at e
 ·rename_i ds β1 U
  refine⟨.ok ds,_,U,λJ W t hJ=>?_⟩;obtain⟨Y,Z⟩:=ok.to rfl t;refine⟨λi m n F=>m+i=ds.length/\∃k p β2,Stp B W k F/\SOk X.K X.H₀ k bg F p β2 n/\gLp tg g (ds.drop i) p β2=on (o,y),⟨ds.length,by omega,B,δ,β1,Stp.refl B W,Y,e⟩,?_⟩;rintro i m n F ⟨hm,k,p,β2,I,c,b⟩;obtain⟨iy,is⟩:=hJ (FxB k bg) F β2 I.tr c.fr i;cases Q:ds[i]? with
  |none=>
   have R:ds.length<=i:=U9.mp Q;rw[RN R]at b;cases b;exact .inl ⟨is (by omega),q n k F (Z.trans I) c⟩
  |some d=>
   have R:i<ds.length:=(P4.mp Q).1;obtain⟨go,yl⟩:=iy d Q;have ed:ds.drop i=d::ds.drop (i+1):=by
    rw[QV R];congr 1;exact QB ((PP R).symm.trans Q)
   rw[ed]at b;unfold gLp at b;split at b
   ·cases b
   ·rename_i f e3
    refine .inr ⟨go,λL H9=>∃T r u,Stp B W T H9/\SOk X.K X.H₀ T bg H9 r u L/\gLp tg g (ds.drop (i+1)) r u=on (o,y),λL H9 ⟨T,r,u,z1,z2,z3⟩=>⟨m-1,by omega,by omega,T,r,u,z1,z2,z3⟩,λx H3 hy=>?_⟩;obtain⟨sm,dx⟩:=yl x H3 hy;obtain⟨ok3,s3⟩:=c.to rfl (c.fr.same sm);refine l X.H₀ k bg H3 p f β2 n d x _ ok3 dx e3 λσ4 v=>?_;have w:=I.trans s3;split at b
    ·rename_i a β5 N
     exact⟨k,bg,f,β2,.nx a,β5,v,N,λA O H6 P j=>⟨O,a,β5,w.trans P,j,b⟩⟩
    ·rename_i a β5 N
     exact⟨k,bg,f,β2,.ct a,β5,v,N,λA O H6 P j=>⟨O,a,β5,w.trans P,j,b⟩⟩
    ·rename_i a β5 N
     cases b;exact⟨k,bg,f,β2,.bk a,_,v,N,λA O H6 P j=>q A O H6 (Z.trans (w.trans P)) j⟩
    ·rename_i x h1 h2 h3
     refine⟨k,bg,f,β2,o,y,v,b,?_⟩;have q2:=iU.pre (Z.trans w) q;cases o with
     |nx a=>exact Qx b (h1 _ _)
     |ct a=>exact Qx b (h2 _ _)
     |bk a=>exact Qx b (h3 _ _)
     |rt d=>exact q2
     |rg d=>exact q2
     |ex C a=>exact q2
 ·rename_i C β1 U
  cases e;refine⟨.error C,_,U,λH' t=>?_⟩;obtain⟨c,I⟩:=ok.to rfl t;exact q _ B H' I c
 ·cases e
theorem SOk.newOwn{δ:Ds}{Q:St}(ok:SOk K H₀ B bg H δ β Q)(g:H p=PM)(hd:DenL K (FxB B bg) H ds xs):
  SOk K H₀ (λa=>if a=p then on (i+2)else B a) bg (upd H p (.lst xs)) (δ.set i (on (.own ds))) β (Q.set i (on (.ref p)))/\Stp B H (λa=>if a=p then on (i+2)else B a) (upd H p (.lst xs)):=by
 have hB:B p=PM:=by
  cases q:B p with
  |none=>rfl
  |some t=>exact Qx g (ok.fr.occ p (by show B p≠PM;rw[q];simp))
 have m:Stp B H (λa=>if a=p then on (i+2)else B a) (upd H p (.lst xs)):=by
  refine⟨λa o h _=>by rw[upd_ne (az h g)];exact h,λa h=>?_,λa o h n=>?_,?_⟩
  ·have:a≠p:=λz=>by subst z;rw[hB]at h;rcases h with h|h<;>cases h
   simp only[P5 this]
  ·simp only[P5 (az h g)];exact n
  ·exact λa ha=>by
    by_cases z:a=p
    ·subst z;rw[ao];simp
    ·rw[upd_ne z];exact ha
 have tr:Tr (FxB B bg) H (FxB (λa=>if a=p then on (i+2)else B a) bg) (upd H p (.lst xs)):=m.tr;have I:∀b l,bg=on (b,l)->b≠p/\l≠p:=λb l e=>by
  obtain⟨b1,b2⟩:=ok.bgt b l e;exact⟨λz=>(by subst z;rw[hB]at b1;cases b1),λz=>(by subst z;rw[hB]at b2;cases b2)⟩
 refine⟨⟨⟨λa ha z=>?_,λb l e=>?_,λb l e=>?_⟩,λb l e=>?_,by rw[Rc,Rc,ok.len],λa ha=>m.al a (ok.cov a ha),λc k J=>(by
  have f:(if c=p then on (i+2)else B c)=on (k+2):=J;by_cases z:c=p
  ·cases w:H₀ c with
   |none=>rfl
   |some o=>exact Qx (z▸g) (ok.cov c (by rw[w];simp))
  ·rw[P5 z]at f;exact ok.new c k f),λc k J=>(by
  have f:(if c=p then on (i+2)else B c)=on (k+2):=J;by_cases z:c=p
  ·subst z;exact⟨xs,ao⟩
  ·rw[P5 z]at f;rw[upd_ne z];exact ok.lst c k f),λj s e=>?_⟩,m⟩
 ·by_cases q:a=p
  ·subst q;rw[ao]at z;cases z
  ·rw[upd_ne q]at z
   have u:(if a=p then on (i+2)else B a)≠PM:=ha;rw[P5 q]at u;exact ok.fr.occ a u z
 ·obtain⟨y,A⟩:=I b l e
  obtain⟨b1,b2⟩:=ok.bgt b l e;refine⟨?_,?_,(ok.fr.bgA b l e).2.2⟩
  ·show(if b=p then on (i+2)else B b)≠PM
   rw[P5 y,b1];simp
  ·show(if l=p then on (i+2)else B l)≠PM
   rw[P5 A,b2];simp
 ·obtain⟨y,A⟩:=I b l e
  rw[upd_ne y,upd_ne A];exact ok.fr.bag b l e
 ·obtain⟨y,A⟩:=I b l e
  simp only[P5 y,P5 A];exact ok.bgt b l e
 ·rw[Ro]at e
  rw[Ro];by_cases q:i=j
  ·subst q
   rw[P7 rfl]at e⊢;split at e
   ·rename_i R
    cases e;rw[P7 (by rw[←ok.len];exact R)];exact⟨_,rfl,p,xs,rfl,P7 rfl,ao,DenL.tr tr _ _ hd⟩
   ·cases e
  ·rw[P5 q]at e⊢
   obtain⟨v,T,L⟩:=ok.tell j s e;refine⟨v,T,?_⟩;cases s with
   |sh d=>exact Den.tr tr _ _ L
   |own cs=>
    obtain⟨a,ys,N,O,C,P⟩:=L;have F:=az C g;exact⟨a,ys,N,by simp only[P5 F];exact O,by rw[upd_ne F];exact C,DenL.tr tr _ _ P⟩
   |grd rows=>
    obtain⟨a,rs,N,O,C,P,U⟩:=L;have F:=az C g;exact⟨a,rs,N,by simp only[P5 F];exact O,by rw[upd_ne F];exact C,P,RowL.tr tr U λr W _ p q=>⟨by simp only[P5 (az q g)];exact p,by rw[upd_ne (az q g)];exact q⟩⟩
theorem SOk.writeOwn{δ:Ds}(ok:SOk K H₀ B bg H δ β σ)(hs:σ[i]?=on (on (.ref a)))(hB:B a=on (i+2))(ha:H a=on (.lst ys))(hd:DenL K (FxB B bg) H ds xs):
  SOk K H₀ B bg (upd H a (.lst xs)) (δ.set i (on (.own ds))) β σ/\Stp B H B (upd H a (.lst xs)):=by
 have g:Stp B H B (upd H a (.lst xs)):=by
  refine⟨λc o h n=>?_,λ_ _=>rfl,λ_ _ _ n=>n,λc m=>?_⟩
  ·rw[upd_ne]
   ·exact h
   ·intro z;subst z;rw[hB]at n;rcases n with n|n<;>cases n
  ·by_cases z:c=a
   ·subst z;rw[ao];simp
   ·rw[upd_ne z];exact m
 have tr:Tr (FxB B bg) H (FxB B bg) (upd H a (.lst xs)):=g.tr;refine⟨⟨⟨λc m z=>?_,ok.fr.bgA,λb l e=>?_⟩,ok.bgt,by rw[Rc,ok.len],λa ha=>g.al a (ok.cov a ha),ok.new,λc k m=>(by
  by_cases z:c=a
  ·subst z;exact⟨xs,ao⟩
  ·rw[upd_ne z];exact ok.lst c k m),λj s e=>?_⟩,g⟩
 ·by_cases q:c=a
  ·subst q;rw[ao]at z;cases z
  ·rw[upd_ne q]at z;exact ok.fr.occ c m z
 ·obtain⟨b1,b2⟩:=ok.bgt b l e
  rw[upd_ne (λz=>by subst z;rw[hB]at b1;cases b1),upd_ne (λz=>by subst z;rw[hB]at b2;cases b2)];exact ok.fr.bag b l e
 ·rw[Ro]at e
  by_cases q:i=j
  ·subst q
   rw[P7 rfl]at e;split at e
   ·cases e
    exact⟨_,hs,a,xs,rfl,hB,ao,DenL.tr tr _ _ hd⟩
   ·cases e
  ·rw[P5 q]at e
   obtain⟨v,F,u⟩:=ok.tell j s e;refine⟨v,F,?_⟩;cases s with
   |sh d=>exact Den.tr tr _ _ u
   |own cs=>
    obtain⟨c,C,w,f,y,A⟩:=u;have t:c≠a:=λz=>by subst z;rw[hB]at f;cases f;exact q rfl
    exact⟨c,C,w,f,by rw[upd_ne t];exact y,DenL.tr tr _ _ A⟩
   |grd rows=>
    obtain⟨c,rs,w,f,y,A,I⟩:=u;have t:∀c,B c=on (j+2)->c≠a:=λc f z=>by subst z;rw[hB]at f;cases f;exact q rfl
    exact⟨c,rs,w,f,by rw[upd_ne (t c f)];exact y,A,RowL.tr tr I λr C _ p q=>⟨p,by rw[upd_ne (t r p)];exact q⟩⟩
def uR(i:Nat)(f:FL):G:=λδ β=>match f (vw δ) β with
 |some (.ok ds,β1)=>if ds.length<=Qp then on (.nx (δ.set i (on (.own ds))),β1)else PM
 |some (.error C,β1)=>on (.ex C δ,β1)
 |none=>PM
theorem ng(h:PS X st (jU (LJ (tVA X.K f E)) (fq i))):PS X st (tG X.K X.H₀ (uR i f) E):=h.imp λD r H j=>by
 obtain⟨B,bg,δ,β,o,k,ok,e,q⟩:=j;refine⟨FxB B bg,vw δ,β,ok.fr,ok.view,?_⟩;unfold uR at e;split at e
 ·rename_i ds β1 b
  split at e
  ·rename_i l
   cases e;refine⟨.ok ds,_,b,λvs g t hd=>⟨by rw[←hd.length];exact l,λp m=>?_⟩⟩;obtain⟨a,c⟩:=ok.to rfl t;obtain⟨d,n⟩:=a.newOwn (i:=i) m hd;exact q _ _ _ (c.trans n) d
  ·cases e
 ·rename_i C β1 b
  cases e;refine⟨.error C,_,b,λg t=>?_⟩;obtain⟨a,c⟩:=ok.to rfl t;exact q _ B g c a
 ·cases e
def uU(i:Nat)(f:FL):G:=λδ β=>match δ.getD i PM with
 |some (.own cs)=>match f (vw δ) β with
  |some (.ok [d],β1)=>if cs.length<Qp then on (.nx (δ.set i (on (.own (cs++[d])))),β1)else PM
  |some (.error C,β1)=>on (.ex C δ,β1)
  |_=>PM
 |_=>PM
theorem getD_some{α:Type}{δ:List (Option α)}{i:Nat}{s:α}(h:δ.getD i PM=on s):δ[i]?=on (on s):=by
 rw[PV]at h;cases z:δ[i]? with
 |none=>rw[z]at h;cases h
 |some w=>rw[z]at h;simp at h;rw[h]
theorem nk(h:PS X st (wZ (tBM X.K "list" v5 (qA i) (tVA X.K f E)))):PS X st (tG X.K X.H₀ (uU i f) E):=h.imp λD P H y=>by
 obtain⟨B,bg,δ,β,o,A,ok,e,q⟩:=y;unfold uU at e;split at e
 ·rename_i cs u
  obtain⟨v,l,a,ys,rfl,F,I,Q⟩:=ok.tell i _ (getD_some u);refine⟨_,l,.inl ⟨rfl,ys,SqL.of I⟩,FxB B bg,vw δ,β,ok.fr,ok.view,?_⟩;split at e
  ·rename_i d β1 m
   split at e
   ·rename_i J
    cases e;refine⟨.ok [d],_,m,λvs w t hd=>?_⟩;obtain⟨b,n⟩:=ok.to rfl t;obtain⟨v,rfl,L⟩:=DenL.one hd;obtain⟨R,c,T,g,p,N,j,k⟩:=b.tell i _ (getD_some u);rw[l]at c;cases c;cases p;refine⟨a,g,v,rfl,rfl,j,by rw[←k.length];exact J,?_⟩;obtain⟨r,O⟩:=b.writeOwn (ds:=cs++[d]) (xs:=g++[v]) l F j (DenL.append k (DenL.cons L DenL.nil));exact q _ _ _ (n.trans O) r
   ·cases e
  ·rename_i C β1 m
   cases e;refine⟨.error C,_,m,λw t=>?_⟩;obtain⟨b,n⟩:=ok.to rfl t;exact q _ B w n b
  ·cases e
 ·cases e
noncomputable def stD(n:Nat)(ds:List D):Ds:=ds.map (λd=>on (Sl.sh d))++Qr (n-ds.length) PM
def gu(n:Nat)(g:G):List D->M D:=λds β=>match g (stD n ds) β with
 |some (.rt d,β')=>on (.ok d,β')
 |some (.nx _,β')=>on (.ok .non,β')
 |some (.ex C _,β')=>on (.error C,β')
 |_=>PM
theorem tM{F:Fx}{N:List QO}(fr:Fr F H β)(hd:DenL K F H ds vs):∃B,SOk K H B F.bg H (stD N.length ds) β (fS N vs)/\(∀a,F.A a->B a=on 0\/B a=on 1)/\(∀a,B a=on 1->∃b l,F.bg=on (b,l)/\(a=b\/a=l))/\(∀a,B a≠PM->F.A a):=by
 classical
 refine⟨λa=>if F.A a then(if ∃b l,F.bg=on (b,l)/\(a=b\/a=l)then on 1 else on 0)else PM,⟨⟨λa ha=>fr.occ a ?_,λb l e=>?_,fr.bag⟩,λb l e=>?_,?_,λ_ h=>h,λc k m=>(by
  have f:(if F.A c then(if ∃b l,F.bg=on (b,l)/\(c=b\/c=l)then on 1 else on 0)else PM)=on (k+2):=m;split at f
  ·split at f<;>cases f
  ·cases f),λc k m=>(by
  have f:(if F.A c then(if ∃b l,F.bg=on (b,l)/\(c=b\/c=l)then on 1 else on 0)else PM)=on (k+2):=m;split at f
  ·split at f<;>cases f
  ·cases f),λi s e=>?_⟩,λa ha=>?_,λa ha=>?_,λa ha=>?_⟩
 ·have g:(if F.A a then(if ∃b l,F.bg=on (b,l)/\(a=b\/a=l)then on 1 else on 0)else PM)≠(PM:Option Nat):=ha
  split at g
  ·assumption
  ·exact Qx rfl g
 ·obtain⟨a1,a2,a3⟩:=fr.bgA b l e
  refine⟨?_,?_,a3⟩
  ·show(if F.A b then(if ∃j l,F.bg=on (j,l)/\(b=j\/b=l)then on 1 else on 0)else PM)≠(PM:Option Nat)
   rw[P7 a1];split<;>simp
  ·show(if F.A l then(if ∃j p,F.bg=on (j,p)/\(l=j\/l=p)then on 1 else on 0)else PM)≠(PM:Option Nat)
   rw[P7 a2];split<;>simp
 ·obtain⟨a1,a2,a3⟩:=fr.bgA b l e
  exact⟨by rw[P7 a1,P7 ⟨b,l,e,.inl rfl⟩],by rw[P7 a2,P7 ⟨b,l,e,.inr rfl⟩]⟩
 ·unfold stD fS
  rw[Qm,Qm,PL,PL,RV,RV,hd.length]
 ·unfold stD at e
  unfold fS;rw[VS,PL]at e;rw[VS,PL,←hd.length];by_cases n:i<ds.length
  ·rw[P7 n,PY]at e
   rw[P7 n,PY];cases z:ds[i]? with
   |none=>rw[z]at e;cases e
   |some d=>
    rw[z]at e;cases e;obtain⟨v,r,t⟩:=hd.get z;refine⟨v,by rw[r];rfl,?_⟩;have o:Tr F H (FxB (λa=>if F.A a then(if ∃b l,F.bg=on (b,l)/\(a=b\/a=l)then on 1 else on 0)else PM) F.bg) H:=by
     refine⟨λa ha _ u=>?_,λ_ _ _ h=>h,rfl⟩;have q:(if F.A a then(if ∃b l,F.bg=on (b,l)/\(a=b\/a=l)then on 1 else on 0)else PM)≠(PM:Option Nat):=u;rw[P5 ha]at q;exact q rfl
    exact Den.tr o _ _ t
  ·rw[P5 n,Sx]at e
   split at e<;>cases e
 ·simp only[P7 ha]
  split
  ·exact .inr rfl
  ·exact .inl rfl
 ·simp only at ha
  split at ha
  ·split at ha
   ·assumption
   ·cases ha
  ·cases ha
 ·simp only at ha
  split at ha
  ·assumption
  ·exact Qx rfl ha
variable{P:QG}{w:QT}{mg:QO->Option P0}{base:Rl}
theorem Lh{st:Q9}{N ps:List QO}(F:FunD K x qual st f fd)(S:FnScope N ps (ag st))
  (y:∀(j:P0) (A:Q7) (outer:List WY) (s:P6) (H:Hp) (E:XK),Room k (A.deeper (Uv qual (ag st) s.heap.objs.size f j))->
   PSs (f9 (CXE P w) P w K mg base N qual (ag st) f j A outer s H E) (cQ st) (tG K H g (λ_=>E))):FnOk P w K mg base (CXE P w) (k+1) f fd ps (spF K ps.length (gu N.length g)):=by
 refine F.okE S (λvs H Q E h=>h.1) λj A outer s H vs Q E Y h=>?_;obtain⟨hl,p,ds,β,fr,hd,r,i,e,h⟩:=h;refine⟨_,y j A outer s H E Y,?_⟩;obtain⟨B,ok,T,Z,hn⟩:=tM (N:=N) fr hd;have I:∀{u:Ow} {c:Hp},Stp B H u c->Fr (FxB u p.bg) c i->To p H c i/\Tr (FxB u p.bg) c p c:=λ{u c} s m=>by
  have hs:∀a,p.A a->u a≠PM:=λa ha=>by
   rw[s.tg a (T a ha)];rcases T a ha with z|z<;>rw[z]<;>simp
  refine⟨⟨λa o ha n=>s.kp a o ha ?_,λa ha=>m.occ a (hs a ha),λb l e=>fr.bgA b l e,m.bag⟩,λa ha _ z=>ha (hs a z),λ_ _ _ h=>h,rfl⟩;cases q:B a with
  |none=>exact .inl rfl
  |some t=>
   have:=T a (hn a (by rw[q];simp));rcases this with z|z
   ·rw[q]at z;exact .inr z
   ·obtain⟨b,l,e,w⟩:=Z a z
    obtain⟨n1,n2⟩:=n b l e;rcases w with w|w
    ·exact Qx w n1
    ·exact Qx w n2
 unfold gu at e;split at e
 ·rename_i d β1 O
  cases e;refine⟨B,p.bg,stD N.length ds,β,.rt d,i,ok,O,λv u c s m hv=>?_⟩;obtain⟨R,U⟩:=I s m;exact h v c R (Den.tr U _ _ hv)
 ·rename_i J β1 O
  cases e;refine⟨B,p.bg,stD N.length ds,β,.nx J,i,ok,O,λW u c s L=>?_⟩;obtain⟨R,U⟩:=I s L.fr;exact h _ c R rfl
 ·rename_i C J β1 O
  cases e;refine⟨B,p.bg,stD N.length ds,β,.ex C J,i,ok,O,λW u c s L=>?_⟩;obtain⟨R,U⟩:=I s L.fr;exact h c R
 ·cases e
variable{prog:QG}{A:Q7}
theorem PC(l:A.handled=PM)(it t:PZ)(ne:t≠it)(b:Array P0):Xn prog w A it [it,t] b.size (λi v=>b[i]?=on v) (λi h=>h.IsTupleIter it t i/\h.IsTuple t b) where
 live:=λ_ _ st=>let ⟨o,e,_⟩:=st.1;⟨o,e⟩
 frame:=λ_ _ _ st k=>⟨st.1.at λo e=>k it (by simp) o e,by
  obtain⟨o,e,r⟩:=st.2;exact⟨o,k t (by simp) o e,r⟩⟩
 item:=λi s Q E p st q=>by
  obtain⟨o,d,co,c⟩:=id st.1;obtain⟨n,f,_,nt,g⟩:=st.2;have j:b[i]?=on b[i]:=by simp[p]
  unfold R0;refine My (wpAny_callSpecial?_slot (name:=Ss "__next__") st.1.typeIs TH (QZ TH st.1.typeIs Xo ?_ (Xh _)));show Qj _ _ (Y3 (.ref it) 0>>=_) _ _ _;refine My (RB d c (x:= .ref t) rfl ?_);show Qj _ _ (if(Qt t==Q5)=PQ then _ else _) _ _ _;rw[P5 (show ¬((Qt t==Q5)=PQ)from P8)];show Qj _ _ (Y3 (.ref it) 1>>=_) _ _ _;refine My (RB d c (x:= .int i 0) rfl ?_);show Qj _ _ (seqItems? (.ref t)>>=_) _ _ _;refine My (R3 f g ?_);simp only[Ry,j];refine My (Uz d c (by simp) (PN ⟨b[i],rfl,PN (q _ _ s.toks j ⟨?_,?_⟩ (RI ..))⟩))
  ·exact⟨_,Th _ d (VP (Sm c _)),(WA ..).trans co,by rw[Sm c];simp[Uc]⟩
  ·exact⟨n,(RI ..).extBut _ _ ne f,by assumption,nt,g⟩
 done:=λs Q E st u=>by
  obtain⟨o,d,co,c⟩:=id st.1;obtain⟨n,f,_,nt,g⟩:=st.2;have j:b[b.size]?=PM:=by simp
  unfold R0;refine My (wpAny_callSpecial?_slot (name:=Ss "__next__") st.1.typeIs TH (QZ TH st.1.typeIs Xo ?_ (Xh _)));show Qj _ _ (Y3 (.ref it) 0>>=_) _ _ _;refine My (RB d c (x:= .ref t) rfl ?_);show Qj _ _ (if(Qt t==Q5)=PQ then _ else _) _ _ _;rw[P5 (show ¬((Qt t==Q5)=PQ)from P8)];show Qj _ _ (Y3 (.ref it) 1>>=_) _ _ _;refine My (RB d c (x:= .int b.size 0) rfl ?_);show Qj _ _ (seqItems? (.ref t)>>=_) _ _ _;refine My (R3 f g ?_);simp only[Ry,j];refine My (TX (My (Uz d c (by simp) ?_)));show Qj _ _ (Zh (.type "StopIteration") []>>=_) _ _ _;refine My ?_;simp only[Zh,newTuple];refine My (Rq ?_ (by size_fits));refine My (m:=Uw _ _) (TW (a:=Q5) (by first|rfl|(simp only[Uw];rfl)) ?_);refine Rq ?_ (by size_fits)
  simp only[raiseNew];refine My (YL ?_)
  first|rw[show A.in1.handled=PM from l]|rw[l];skip
  refine My (PN (wpAny_throw ?_));exact u _ _ (((RI ..).extBut.push _).push _) ⟨_,Qk _ rfl,rfl⟩
structure Ap (z TI TO i1 i2:PZ) (f1 f2:List PZ):Prop where
 a1:TI≠z
 a2:TO≠z
 a3:i1≠z
 a4:i2≠z
 a5:TI≠TO
 a6:TI≠i1
 a7:TI≠i2
 a8:TO≠i1
 a9:TO≠i2
 b1:i1≠i2
 c1:z∉f1
 c2:TO∉f1
 c3:i2∉f1
 d1:z∉f2
 d2:TO∉f2
 d3:i1∉f2
 m1:i1∈f1
 m2:i2∈f2
end
section
variable{prog:QG}{w:QT}{A:Q7}{E:P0->P6->Prop}{s:P6}
theorem cA{it:PZ}{f:List PZ}{h h':Rl}(a:QI it h h')(n:it∉f):∀b∈f,∀o,h.get? b=on o->h'.get? b=on o:=λb c o e=>a.extBut b o (λq=>n (q▸c)) e
theorem yf{z TI TO r t:PZ}{f1 f2:List PZ}{u B k:Nat}{P1 P2:Nat->P0->Prop}{W X:Nat->Rl->Prop}{a b:P0}{Q:P0->P6->Prop}(L:Xn prog w A r f1 u P1 W)(N:Xn prog w A t f2 B P2 X)(d:Ap z TI TO r t f1 f2)
  (P:Vz s.heap z TI TO .none) (eI:S8 s.heap TI (.ref r) (.ref t)) (eO:S8 s.heap TO a b) (s1:W k s.heap) (s2:X k s.heap) (k1:k<u) (k2:k<B)
  (hQ:∀h' tk x y,P1 k x->P2 k y->Vz h' z TI TO (Uc s.heap.objs.size)->S8 h' TO x y->W (k+1) h'->X (k+1) h'->S8 h' s.heap.objs.size x y->h'.objs.size=s.heap.objs.size+1->(∀c o,c≠z->c≠TO->c≠r->c≠t->s.heap.get? c=on o->h'.get? c=on o)->Q (.ref s.heap.objs.size) {s with heap:=h',toks:=tk}):
  Qj (QA prog w) A (Builtin.«zip.__next__» ⟨[.ref z],[]⟩) (λZ s'=>∃v,Z= .done (.ret v)/\Q v s') E s:=by
 obtain⟨hp,gg,dd,tk0,os⟩:=s;show Qj _ _ (Y3 (.ref z) 2>>=_) _ _ _;refine My (RB P rfl (x:= .bool PX) rfl ?_);show Qj _ _ (Y3 (.ref z) 3>>=_) _ _ _;refine My (RB P rfl (x:= .ref TI) rfl ?_);refine My (R3 eI rfl ?_);show Qj _ _ (R9 (.ref z)>>=_) _ _ _;refine My ?_;unfold R9;refine My (RB P rfl (x:= .none) rfl (PN ?_));simp only[Q4];refine My (TX ?_);refine My (RB P rfl (x:= .ref TO) rfl ?_);refine My (RE P (by simp) λg1 C g=>?_)
 replace C:Vz g1 z TI TO .ellipsis:=C
 replace g:QI z hp g1:=g
 refine My ?_;simp only[List.zipIdx_cons,List.zipIdx_nil,Td,Ts];refine My (My (WE ?_));show Qj _ _ (R0 (.ref r)>>=_) _ _ _;refine My (L.item k _ _ _ k1 (L.frame _ _ _ s1 (cA g d.c1)) λx g2 tk2 px st2 h=>PN ?_)
 replace h:QI r g1 g2:=h
 have R:S8 g2 TO a b:=h.extBut _ _ d.a8 (g.extBut _ _ d.a2 eO);refine My (R3 R rfl ?_);refine My (Wm R λg3 F i=>?_)
 replace F:S8 g3 TO x b:=F
 replace i:QI TO g2 g3:=i
 refine My (Xx (PN ?_));refine My (My (WE ?_));show Qj _ _ (R0 (.ref t)>>=_) _ _ _;refine My (N.item k _ _ _ k2 (N.frame _ _ _ (N.frame _ _ _ (N.frame _ _ _ s2 (cA g d.d1)) (cA h d.d3)) (cA i d.d2)) λy g4 tk4 py st4 j=>PN ?_)
 replace j:QI t g3 g4:=j
 have T:S8 g4 TO x b:=j.extBut _ _ d.a9 F;refine My (R3 T rfl ?_);refine My (Wm T λf m l=>?_)
 replace m:S8 f TO x y:=m
 replace l:QI TO g4 f:=l
 refine My (Xx (PN (PN ?_)));refine My (R3 m rfl ?_);refine My (Yd ?_);have zs:f.objs.size=hp.objs.size:=by rw[l.1,j.1,i.1,h.1,g.1]
 have U:Vz f z TI TO .ellipsis:=l.extBut _ _ d.a2.symm (j.extBut _ _ d.a4.symm (i.extBut _ _ d.a2.symm (h.extBut _ _ d.a3.symm C)));have kp5:∀c o,c≠z->c≠TO->c≠r->c≠t->hp.get? c=on o->f.get? c=on o:=λc o u B n3 n4 e=>l.extBut _ _ B (j.extBut _ _ n4 (i.extBut _ _ B (h.extBut _ _ n3 (g.extBut _ _ u e))));have st1:W (k+1) f:=L.frame _ _ _ (L.frame _ _ _ (L.frame _ _ _ st2 (cA i d.c2)) (cA j d.c3)) (cA l d.c2);have st5:X (k+1) f:=N.frame _ _ _ st4 (cA l d.d2);have zl:z<f.objs.size:=Qz U;show Qj _ _ (UW (.ref z) (.ref f.objs.size)>>=_) _ _ _;refine My ?_;unfold UW;have ez6:Vz (f.push {cls:= .type "tuple",data:= .seq #[x,y]}) z TI TO .ellipsis:=PU _ U;refine My (RE ez6 (by simp) λg7 H I=>?_)
 replace H:Vz g7 z TI TO (Uc f.objs.size):=H
 refine RE H (by simp) λO p J=>?_
 replace p:Vz O z TI TO (Uc f.objs.size):=p
 have Y:∀c o,c≠z->f.get? c=on o->O.get? c=on o:=λc o n e=>J.extBut _ _ n (I.extBut _ _ n (PU _ e));have eT:S8 O f.objs.size x y:=J.extBut _ _ (S9 zl) (I.extBut _ _ (S9 zl) (Qk _ rfl));have z8:O.objs.size=f.objs.size+1:=by rw[J.1,I.1,RJ]
 rw[zs]at p eT z8;refine PN ⟨_,rfl,?_⟩;show Q (.ref f.objs.size) ⟨O,gg,dd,_,os⟩;rw[zs];exact hQ O _ x y px py p (Y _ _ d.a2 m) (L.frame _ _ _ st1 λb hb o e=>Y b o (λq=>d.c1 (q▸hb)) e) (N.frame _ _ _ st5 λb hb o e=>Y b o (λq=>d.d1 (q▸hb)) e) eT z8 λc o u B n3 n4 e=>Y c o u (kp5 c o u B n3 n4 e)
theorem BH{z TI TO n r:PZ}{f1 f2:List PZ}(H:Xn prog w A n f1 m P1 S1)(I:Xn prog w A r f2 T P2 S2)(i:Ap z TI TO n r f1 f2)
  (u:Vz s.heap z TI TO .none) (Y:S8 s.heap TI (.ref n) (.ref r)) (Z:S8 s.heap TO a b) (U:S1 k s.heap) (s2:S2 k s.heap) (N:k=m\/(k<m/\k=T))
  (W:∀h' e tk,(∀c o,c≠z->c≠TO->c≠n->c≠r->s.heap.get? c=on o->h'.get? c=on o)->(∃o,h'.get? e=on o/\o.cls= .type "StopIteration")->E (.ref e) {s with heap:=h',toks:=tk}):
  Qj (QA prog w) A (Builtin.«zip.__next__» ⟨[.ref z],[]⟩) Q E s:=by
 obtain⟨hp,gg,dd,tk0,os⟩:=s;show Qj _ _ (Y3 (.ref z) 2>>=_) _ _ _;refine My (RB u rfl (x:= .bool PX) rfl ?_);show Qj _ _ (Y3 (.ref z) 3>>=_) _ _ _;refine My (RB u rfl (x:= .ref TI) rfl ?_);refine My (R3 Y rfl ?_);show Qj _ _ (R9 (.ref z)>>=_) _ _ _;refine My ?_;unfold R9;refine My (RB u rfl (x:= .none) rfl (PN ?_));simp only[Q4];refine My (TX ?_);refine My (RB u rfl (x:= .ref TO) rfl ?_);refine My (RE u (by simp) λJ j f=>?_)
 replace j:Vz J z TI TO .ellipsis:=j
 replace f:QI z hp J:=f
 refine My ?_;simp only[List.zipIdx_cons,List.zipIdx_nil,Td,Ts];refine My (My (WE ?_));show Qj _ _ (R0 (.ref n)>>=_) _ _ _;rcases N with rfl|⟨N,rfl⟩
 ·refine My (H.done _ _ _ (H.frame _ _ _ U (cA f i.c1)) λt e d O=>?_)
  replace d:WG n J t:=d
  obtain⟨P,h,v⟩:=O;have y:Vz t z TI TO .ellipsis:=d _ _ i.a3.symm j;have p:e≠z:=λq=>by subst q;rw[y]at h;cases h;simp at v
  exact RE y (by simp) λL _ g=>W L e _ (λc o m _ R _ q=>g.extBut _ _ m (d _ _ R (f.extBut _ _ m q))) ⟨P,g.extBut _ _ p h,v⟩
 ·refine My (H.item k _ _ _ N (H.frame _ _ _ U (cA f i.c1)) λx t tk2 px st2 d=>PN ?_)
  replace d:QI n J t:=d
  have B:S8 t TO a b:=d.extBut _ _ i.a8 (f.extBut _ _ i.a2 Z);refine My (R3 B rfl ?_);refine My (Wm B λL eO3 g=>?_)
  replace g:QI TO t L:=g
  refine My (Xx (PN ?_));refine My (My (WE ?_));show Qj _ _ (R0 (.ref r)>>=_) _ _ _;refine My (I.done _ _ _ (I.frame _ _ _ (I.frame _ _ _ (I.frame _ _ _ s2 (cA f i.d1)) (cA d i.d3)) (cA g i.d2)) λX e l O=>?_)
  replace l:WG r L X:=l
  obtain⟨P,h,v⟩:=O;have C:Vz X z TI TO .ellipsis:=l _ _ i.a4.symm (g.extBut _ _ i.a2.symm (d.extBut _ _ i.a3.symm j));have p:e≠z:=λq=>by subst q;rw[C]at h;cases h;simp at v
  exact RE C (by simp) λg5 _ F=>W g5 e _ (λc o m T R n4 q=>F.extBut _ _ m (l _ _ n4 (g.extBut _ _ T (d.extBut _ _ R (f.extBut _ _ m q))))) ⟨P,F.extBut _ _ p h,v⟩
theorem ye{z TI TO e f:PZ}{f1 f2:List PZ}(i:∀d:Q7,d.handled=A.handled->Xn prog w d e f1 n1 P1 S1)(j:∀d:Q7,d.handled=A.handled->Xn prog w d f f2 n2 P2 S2)(l:Ap z TI TO e f f1 f2)
  (h:Vz s.heap z TI TO .none) (m:S8 s.heap TI (.ref e) (.ref f)) (n:S8 s.heap TO a b) (p:S1 k s.heap) (q:S2 k s.heap) (r:k<n1) (t:k<n2)
  (u:∀h' g x y,P1 k x->P2 k y->Vz h' z TI TO (Uc s.heap.objs.size)->S8 h' TO x y->S1 (k+1) h'->S2 (k+1) h'->S8 h' s.heap.objs.size x y->h'.objs.size=s.heap.objs.size+1->(∀c o,c≠z->c≠TO->c≠e->c≠f->s.heap.get? c=on o->h'.get? c=on o)->Q (on (.ref s.heap.objs.size)) {s with heap:=h',toks:=g}):
  Qj (QA prog w) A (Uy (.ref z)) Q E s:=by
 have ty:s.TypeIs (.ref z) "zip":=⟨_,h,rfl⟩;unfold Uy;exact My (UT (wpAny_callSpecial?_slot (name:=Ss "__next__") ty VR (QZ VR ty F.entry_zip_next (yf (i _ rfl) (j _ rfl) l h m n p q r t λh' g x y a1 a2 a3 a4 a5 a6 a7 a8 a9=>PN (u h' g x y a1 a2 a3 a4 a5 a6 a7 a8 a9)) (F.args_zip_next_1 _))))
theorem BG{z TI TO f g:PZ}{f1 f2:List PZ}(j:∀d:Q7,d.handled=A.handled->Xn prog w d f f1 n1 P1 S1)(l:∀d:Q7,d.handled=A.handled->Xn prog w d g f2 n2 P2 S2)(m:Ap z TI TO f g f1 f2)
  (h:Vz s.heap z TI TO .none) (n:S8 s.heap TI (.ref f) (.ref g)) (p:S8 s.heap TO a b) (q:S1 k s.heap) (r:S2 k s.heap) (t:k=n1\/(k<n1/\k=n2))
  (u:∀h' i,(∀c o,c≠z->c≠TO->c≠f->c≠g->s.heap.get? c=on o->h'.get? c=on o)->Q PM {s with heap:=h',toks:=i}):Qj (QA prog w) A (Uy (.ref z)) Q E s:=by
 have ty:s.TypeIs (.ref z) "zip":=⟨_,h,rfl⟩;unfold Uy;refine My (UT (wpAny_callSpecial?_slot (name:=Ss "__next__") ty VR (QZ VR ty F.entry_zip_next (BH (j _ rfl) (l _ rfl) m h n p q r t λh' e i v y=>?_) (F.args_zip_next_1 _))));obtain⟨o,B,C⟩:=y;refine My (SH (T:="StopIteration") (b:=PQ) ⟨o,B,C⟩ X6 ?_);exact PN (u _ _ v)
def Src(b:Bool)(h:Rl)(a:PZ)(its:Array P0):Prop:=if b=PQ then h.IsList a its else h.IsTuple a its
noncomputable def IU(b:Bool):String:=if b=PQ then "list_iterator"else "tuple_iterator"
noncomputable abbrev p7(b:Bool)(a:PZ):Qy:={cls:= .type (IU b),data:= .fields #[.ref a,.int 0 0]}
def gv(b:Bool)(h:Rl)(it a:PZ)(k:Nat):Prop:=if b=PQ then h.IsListIter it a k else h.IsTupleIter it a k
theorem Src.keep{b:Bool}{h h':Rl}(x:Src b h a its)(k:∀o,h.get? a=on o->h'.get? a=on o):Src b h' a its:=by
 unfold Src at x⊢;split at x
 ·rename_i q;rw[P7 q];exact x.at λo e=>k o e
 ·rename_i q;rw[P5 q]
  obtain⟨o,e,r⟩:=x;exact⟨o,k o e,r⟩
theorem pF{b:Bool}(x:Src b s.heap a its)(h:Q (.ref s.heap.objs.size) {s with heap:=s.heap.push (p7 b a)}):Qj (QA prog w) A (Wj (.ref a)) Q E s:=by
 cases b with
 |true=>exact VE (show s.heap.IsList a its from x) h
 |false=>exact WM (show s.heap.IsTuple a its from x) h
theorem sX(b:Bool)(c:A.handled=PM)(it a:PZ)(ne:a≠it)(its:Array P0):Xn prog w A it [it,a] its.size (λi v=>its[i]?=on v) (λi h=>gv b h it a i/\Src b h a its):=by
 cases b with
 |true=>exact Yr c it a ne its
 |false=>exact PC c it a ne its
abbrev zH1(b1:Bool)(h:Rl)(a:PZ):Rl:=h.push (p7 b1 a)
abbrev zH2(b1 b2:Bool)(h:Rl)(a b:PZ):Rl:=(zH1 b1 h a).push (p7 b2 b)
abbrev zH3(b1 b2:Bool)(h:Rl)(a b:PZ):Rl:=(zH2 b1 b2 h a b).push {cls:= .type "tuple",data:= .seq #[.ref h.objs.size,.ref (zH1 b1 h a).objs.size]}
abbrev zH4(b1 b2:Bool)(h:Rl)(a b:PZ):Rl:=(zH3 b1 b2 h a b).push {cls:= .type "tuple",data:= .seq #[.none,.none]}
abbrev zH5(b1 b2:Bool)(h:Rl)(a b:PZ):Rl:=(zH4 b1 b2 h a b).push {cls:= .type "zip",data:= .fields #[.none,.bool PX,.bool PX,.ref (zH2 b1 b2 h a b).objs.size,.ref (zH3 b1 b2 h a b).objs.size]}
theorem xw(b1 b2:Bool)(a b:PZ)(xs ys:Array P0):
  Meets (Builtin.«zip.__new__» ⟨[.type "zip",.ref a,.ref b],[]⟩) (λ_ R s=>Src b1 s.heap a xs/\Src b2 s.heap b ys/\R (.ok (.ret (.ref (zH4 b1 b2 s.heap a b).objs.size))) {s with heap:=zH5 b1 b2 s.heap a b}):=
 .of_wp λprog w A R s h=>by
  obtain⟨c,g,d,f,os⟩:=s;obtain⟨j,k,q⟩:=h;have i:=sub_zip;have l:Src b1 (Shared.heap ⟨c,g,d,f,os⟩) a xs:=j;have m:Src b2 (Shared.heap ⟨c.push (p7 b1 a),g,d,f,os⟩) b ys:=k.keep λo e=>PU _ e
  wp_walk using pF l,pF m
  exact⟨_,rfl,q⟩
theorem AO{b1 b2:Bool}(q:Src b1 s.heap l1 xs)(r:Src b2 s.heap l2 ys)
  (h:∀h',Vz h' (s.heap.objs.size+4) (s.heap.objs.size+2) (s.heap.objs.size+3) .none->S8 h' (s.heap.objs.size+2) (.ref s.heap.objs.size) (.ref (s.heap.objs.size+1))->S8 h' (s.heap.objs.size+3) .none .none->gv b1 h' s.heap.objs.size l1 0->gv b2 h' (s.heap.objs.size+1) l2 0->h'.objs.size=s.heap.objs.size+5->(∀c o,s.heap.get? c=on o->h'.get? c=on o)->Q (.ref (s.heap.objs.size+4)) {s with heap:=h'}):
  Qj (QA prog w) A (W3 (.type "zip") [.ref l1,.ref l2]) Q E s:=by
 refine callType_new F.called_zip (by decide) (F.typeCall_zip_2 _ _) (F.newCall_zip_2 _ _) (λobj=>F.args_object_init_3 obj _ _) F.entry_zip_new (xw b1 b2 l1 l2 xs ys) ⟨q,r,?_⟩;have f:(zH1 b1 s.heap l1).objs.size=s.heap.objs.size+1:=RJ ..;have g:(zH2 b1 b2 s.heap l1 l2).objs.size=s.heap.objs.size+2:=by rw[RJ,f]
 have i:(zH3 b1 b2 s.heap l1 l2).objs.size=s.heap.objs.size+3:=by rw[RJ,g]
 have j:(zH4 b1 b2 s.heap l1 l2).objs.size=s.heap.objs.size+4:=by rw[RJ,i]
 have t:(zH5 b1 b2 s.heap l1 l2).objs.size=s.heap.objs.size+5:=by rw[RJ,j]
 have k:(zH5 b1 b2 s.heap l1 l2).get? (zH4 b1 b2 s.heap l1 l2).objs.size=on _:=Qk _ rfl;have l:(zH5 b1 b2 s.heap l1 l2).get? (zH3 b1 b2 s.heap l1 l2).objs.size=on _:=PU _ (Qk _ rfl);have m:(zH5 b1 b2 s.heap l1 l2).get? (zH2 b1 b2 s.heap l1 l2).objs.size=on _:=PU _ (PU _ (Qk _ rfl));have n:(zH5 b1 b2 s.heap l1 l2).get? (zH1 b1 s.heap l1).objs.size=on _:=PU _ (PU _ (PU _ (Qk _ rfl)));have u:(zH5 b1 b2 s.heap l1 l2).get? s.heap.objs.size=on _:=PU _ (PU _ (PU _ (PU _ (Qk _ rfl))));show _/\_;rw[g,i,j]at k;rw[f,g]at m;rw[i]at l;rw[f]at n;rw[j];have d:∀(b:Bool) (h':Rl) (p a:PZ),h'.get? p=on (p7 b a)->gv b h' p a 0:=λb h' p a e=>by
  cases b with
  |true=>exact⟨_,e,rfl,rfl⟩
  |false=>exact⟨_,e,rfl,rfl⟩
 exact⟨⟨_,k,rfl⟩,h _ k m l (d _ _ _ _ u) (d _ _ _ _ n) t λc o x=>PU _ (PU _ (PU _ (PU _ (PU _ x))))⟩
def SqS(b:Bool)(K:Qo)(H:Hp)(a:PZ)(xs:List V):Prop:=if b=PQ then SqL K H a xs else SqT K H a xs
noncomputable def Itz(b1 b2:Bool)(K:Qo)(a b:PZ):It:=
 ⟨λi H=>∃xs ys x y,SqS b1 K H a xs/\SqS b2 K H b ys/\xs[i]?=on x/\ys[i]?=on y,
  λi H v c=>∃p x y,H p=PM/\v= .ref p/\c=upd H p (.tup [x,y])/\∀xs ys,SqS b1 K H a xs->SqS b2 K H b ys->xs[i]?=on x/\ys[i]?=on y,
  λi H=>∃xs ys,SqS b1 K H a xs/\SqS b2 K H b ys/\(xs.length=i\/(i<xs.length/\ys.length=i))⟩
variable{X:Cx}{pins:List (PZ×Qy)}{σ:St}{H:Hp}
theorem Inv.src{b:Bool}(I:Inv X pins σ H s)(h:SqS b X.K H a xs):∃its:List P0,ax xs its/\Src b s.heap a its.toArray:=by
 cases b with
 |true=>
  obtain⟨its,r,p,_⟩:=I.list (show SqL X.K H a xs from h);exact⟨its,r,p.isList⟩
 |false=>
  obtain⟨its,r,p,_⟩:=I.tuple (show SqT X.K H a xs from h);exact⟨its,r,p⟩
theorem Inv.src_inj{b:Bool}(I:Inv X pins σ H s)(h:SqS b X.K H a xs)(h':SqS b X.K H a ys):xs=ys:=by
 cases b with
 |true=>exact I.list_inj (show SqL X.K H a xs from h) h'
 |false=>exact I.tuple_inj (show SqT X.K H a xs from h) h'
theorem gv.get{b:Bool}{h:Rl}(x:gv b h it a k):∃o,h.get? it=on o/\o.cls= .type (IU b)/\∃fs,o.data= .fields fs:=by
 cases b with
 |true=>obtain⟨o,e,c,d⟩:=(show h.IsListIter it a k from x);exact⟨o,e,c,_,d⟩
 |false=>obtain⟨o,e,c,d⟩:=(show h.IsTupleIter it a k from x);exact⟨o,e,c,_,d⟩
theorem gv.keep{b:Bool}{h h':Rl}(x:gv b h it a k)(q:∀o,h.get? it=on o->h'.get? it=on o):gv b h' it a k:=by
 cases b with
 |true=>exact(show h.IsListIter it a k from x).at λo e=>q o e
 |false=>exact(show h.IsTupleIter it a k from x).at λo e=>q o e
theorem Inv.turnNew{h':Rl}{t':Nat}{ch:List PZ}{p:PZ}{o:HO}(I:Inv X pins σ H s)(a:∀b∈ch,fG X pins H b)(k:∀b u,b∉ch->s.heap.get? b=on u->h'.get? b=on u)(d:s.heap.objs.size<=p)(new:bO X.prog X.w (upd H p o) h' p o):Inv X pins σ (upd H p o) {s with heap:=h',toks:=t'}:=by
 have hn:H p=PM:=I.hok.fresh d;have nt:∀b u,H b=on u->b∉ch:=λb u e z=>by rw[(a b z).1]at e;cases e
 refine I.call' (s':={s with heap:=h',toks:=t'}) (ch:=ch) rfl ⟨λb u e _ _ hc=>k b u hc e,λb u e _ _ hc=>⟨u.slots,k b u hc e⟩,λb u e z hc=>?_,λb u e hc=>⟨u,k b u hc e⟩,λb ys e=>?_,λb u ys e=>?_,λb ys e=>⟨#[],?_⟩⟩ (λb u e=>?_) I.bare λb f=>?_
 ·rw[upd_ne (Q1 (Qv (Qz e) d))];exact z
 ·rw[upd_ne (az e hn)];exact e
 ·rw[upd_ne (az e hn)];exact e
 ·rw[upd_ne (az e hn),e];simp
 ·by_cases z:b=p
  ·subst z;rw[ao]at e;cases e;exact new
  ·rw[upd_ne z]at e
   refine(I.hok b u e).stay (λc v hc q=>k c v ?_ q) (λc q=>by rw[upd_ne (az q hn)];exact q) λc xs q=>by rw[upd_ne (az q hn)];exact q
   rcases hc with rfl|hc
   ·exact nt _ _ e
   ·exact nt _ _ hc
 ·obtain⟨j,f1,f2,g,h,i⟩:=a b f
  exact⟨g,f1,h,i⟩
theorem Inv.turnL{h':Rl}{ch:List PZ}(I:Inv X pins σ H s)(a:∀b∈ch,fG X pins H b)(k:∀b u,b∉ch->s.heap.get? b=on u->h'.get? b=on u):Inv X pins σ H {s with heap:=h',toks:=t'}:=by
 have nt:∀b u,H b=on u->b∉ch:=λb u e z=>by rw[(a b z).1]at e;cases e
 refine I.call' (s':={s with heap:=h',toks:=t'}) (ch:=ch) rfl ⟨λb u e _ _ hc=>k b u hc e,λb u e _ _ hc=>⟨u.slots,k b u hc e⟩,λb u e z hc=>z,λb u e hc=>⟨u,k b u hc e⟩,λb ys e=>e,λb u ys e=>e,λb ys e=>⟨#[],by rw[e];simp⟩⟩ (λb u e=>?_) I.bare λb d=>?_
 ·refine(I.hok b u e).stay (λc v hc q=>k c v ?_ q) (λc q=>q) λc xs q=>q
  rcases hc with rfl|hc
  ·exact nt _ _ e
  ·exact nt _ _ hc
 ·obtain⟨i,f1,f2,f,g,h⟩:=a b d
  exact⟨f,f1,g,h⟩
theorem Inv.src_ne{b:Bool}(I:Inv X pins σ H s)(h:SqS b X.K H a xs)(f:fG X pins H c):a≠c:=by
 obtain⟨i,f1,f2,f3,j,k⟩:=f;have d:∀o,X.K.lookup a=on o->a≠c:=λo e z=>by
  have g:=I.ok.mod.kin a o e;subst z;rcases f3 with f3|f3
  ·exact I.ok.noex a o g f3
  ·exact Qx (Qv (Qz (I.ok.bs a o g).1) f3) (Q0 _)
 have rd:∀u,Rd H a u->a≠c:=λu r z=>by
  subst z;rcases r with r|⟨_,r⟩<;>rw[i]at r<;>cases r
 cases b with
 |true=>
  rcases(show SqL X.K H a xs from h)with h|⟨o,_,_,e,_⟩
  ·exact rd _ h
  ·exact d o e
 |false=>
  rcases(show SqT X.K H a xs from h)with h|⟨o,_,_,e,_⟩
  ·exact rd _ h
  ·exact d o e
theorem BO{w:QT}{K:Qo}{x1}(b1 b2:Bool)(C F z TI TO f g:PZ)(nd:[z,TI,TO,f,g].Nodup):
  Turn P w K (.Tuple elts x1 pos) (Itz b1 b2 K C F) [z,TI,TO,f,g] z (λi h=>Vz h z TI TO .none/\S8 h TI (.ref f) (.ref g)/\(∃a b,S8 h TO a b)/\gv b1 h f C i/\gv b2 h g F i) where
 mem:=by simp
 obj:=λi h st b j=>by
  obtain⟨p,r,⟨a,b',J⟩,L,N⟩:=st;simp only[Qh,Rv,Uo]at j;rcases j with rfl|rfl|rfl|rfl|rfl
  ·exact⟨_,p,λv q=>by cases q⟩
  ·exact⟨_,r,λv q=>by cases q⟩
  ·exact⟨_,J,λv q=>by cases q⟩
  ·obtain⟨o,e,_,fs,d⟩:=L.get
   exact⟨o,e,λv q=>by rw[d]at q;cases q⟩
  ·obtain⟨o,e,_,fs,d⟩:=N.get
   exact⟨o,e,λv q=>by rw[d]at q;cases q⟩
 keep:=λi h h' st k=>by
  obtain⟨p,r,⟨a,b',J⟩,L,N⟩:=st;exact⟨k z (by simp) _ p,k TI (by simp) _ r,⟨a,b',k TO (by simp) _ J⟩,L.keep λo e=>k f (by simp) o e,N.keep λo e=>k g (by simp) o e⟩
 item:=by
  intro X hP hw hK n i pins s σ H E I O st hg;subst hP hw hK;obtain⟨xs,ys,x,y,q1,q2,hx,hy⟩:=hg;obtain⟨p,r,⟨a,b',J⟩,L,N⟩:=st;obtain⟨l,r1,p1⟩:=Inv.src I q1;obtain⟨m,r2,p2⟩:=Inv.src I q2;have hd:=I.ok.hd n;simp only[QR,Qh,Rv,Uo,not_or]at nd;obtain⟨⟨Y,z2,U,W⟩,⟨t1,t2,t3⟩,⟨Z,o2⟩,R,_⟩:=nd;have t:∀c∈[z,TI,TO,f,g],C≠c:=λc n=>Inv.src_ne I q1 (O c n);have B:∀c∈[z,TI,TO,f,g],F≠c:=λc n=>Inv.src_ne I q2 (O c n);have ap:Ap z TI TO f g [f,C] [g,F]:=⟨Ne.symm Y,Ne.symm z2,Ne.symm U,Ne.symm W,t1,t2,t3,Z,o2,R,by simp[U,(t z (by simp)).symm],by simp[Z,(t TO (by simp)).symm],by simp[Ne.symm R,(t g (by simp)).symm],by simp[W,(B z (by simp)).symm],by simp[o2,(B TO (by simp)).symm],by simp[R,(B f (by simp)).symm],by simp,by simp⟩;have k1:i<l.toArray.size:=by
   rw[Qn,←r1.length];exact(P4.mp hx).1
  have k2:i<m.toArray.size:=by
   rw[Qn,←r2.length];exact(P4.mp hy).1
  refine ye (λA' h'=>sX b1 (h'.trans hd) f C (t f (by simp)) l.toArray) (λA' h'=>sX b2 (h'.trans hd) g F (B g (by simp)) m.toArray) ap p r J ⟨L,p1⟩ ⟨N,p2⟩ k1 k2 λh' tk u v pu pv fz fO f1 f2 fT sz kp=>?_;refine⟨_,rfl,wpAny_letOwnedTupleGo_zip (s:={s with heap:=h',toks:=tk}) fz λT ez'' Q=>?_⟩
  replace Q:QI z h' T:=Q
  have zT:s.heap.objs.size≠z:=S9 (Qz p);obtain⟨u',hu,ru⟩:=r1.get hx;obtain⟨v',hv,rv⟩:=r2.get hy;have eu:u=u':=by
   have:l[i]?=on u:=by simpa using pu
   rw[this]at hu;exact QB hu
  have ev:v=v':=by
   have:m[i]?=on v:=by simpa using pv
   rw[this]at hv;exact QB hv
  subst eu ev;have kk:∀b o,b∉[z,TI,TO,f,g]->s.heap.get? b=on o->T.get? b=on o:=λb o j e=>by
   simp only[Qh,Rv,Uo,not_or]at j;exact Q.extBut b o j.1 (kp b o j.1 j.2.2.1 j.2.2.2.1 j.2.2.2.2 e)
  have I2:Inv X pins σ (upd H s.heap.objs.size (.tup [x,y])) {s with heap:=T,toks:=tk}:=by
   refine Inv.turnNew I O kk (P9 _) ⟨by show 2<=Qp;decide,[u,v],.cons ru (.cons rv .nil),_,Q.extBut _ _ zT fT,rfl,_,rfl⟩
  refine⟨.ref s.heap.objs.size,_,I2,rfl,⟨s.heap.objs.size,x,y,I.hok.fresh (P9 _),rfl,rfl,λas bs h1 h2=>⟨by rw[Inv.src_inj I h1 q1];exact hx,by rw[Inv.src_inj I h2 q2];exact hy⟩⟩,⟨ez'',?_,⟨u,v,?_⟩,?_,?_⟩,λb j=>?_⟩
  ·exact Q.extBut _ _ (Ne.symm Y) (kp TI _ (Ne.symm Y) t1 t2 t3 r)
  ·exact Q.extBut _ _ (Ne.symm z2) fO
  ·exact f1.1.keep λo e=>Q.extBut _ _ (Ne.symm U) e
  ·exact f2.1.keep λo e=>Q.extBut _ _ (Ne.symm W) e
  ·rw[upd_ne]
   ·exact(O b j).1
   ·intro q
    have ol:∃o,s.heap.get? b=on o:=by
     simp only[Qh,Rv,Uo]at j;rcases j with rfl|rfl|rfl|rfl|rfl
     ·exact⟨_,p⟩
     ·exact⟨_,r⟩
     ·exact⟨_,J⟩
     ·obtain⟨o,e,_⟩:=L.get;exact⟨o,e⟩
     ·obtain⟨o,e,_⟩:=N.get;exact⟨o,e⟩
    obtain⟨o,e⟩:=ol;exact Qx (Qz e) (by rw[q];exact Q0 _)
 done:=by
  intro X hP hw hK n i pins s σ H E I O st hg;subst hP hw hK;obtain⟨xs,ys,q1,q2,hl⟩:=hg;obtain⟨p,r,⟨a,b',J⟩,L,N⟩:=st;obtain⟨l,r1,p1⟩:=Inv.src I q1;obtain⟨m,r2,p2⟩:=Inv.src I q2;have hd:=I.ok.hd n;simp only[QR,Qh,Rv,Uo,not_or]at nd;obtain⟨⟨Y,z2,U,W⟩,⟨t1,t2,t3⟩,⟨Z,o2⟩,R,_⟩:=nd;have t:∀c∈[z,TI,TO,f,g],C≠c:=λc n=>Inv.src_ne I q1 (O c n);have B:∀c∈[z,TI,TO,f,g],F≠c:=λc n=>Inv.src_ne I q2 (O c n);have ap:Ap z TI TO f g [f,C] [g,F]:=⟨Ne.symm Y,Ne.symm z2,Ne.symm U,Ne.symm W,t1,t2,t3,Z,o2,R,by simp[U,(t z (by simp)).symm],by simp[Z,(t TO (by simp)).symm],by simp[Ne.symm R,(t g (by simp)).symm],by simp[W,(B z (by simp)).symm],by simp[o2,(B TO (by simp)).symm],by simp[R,(B f (by simp)).symm],by simp,by simp⟩;have g1:l.toArray.size=xs.length:=by rw[Qn,←r1.length]
  have g2:m.toArray.size=ys.length:=by rw[Qn,←r2.length]
  refine BG (λA' h'=>sX b1 (h'.trans hd) f C (t f (by simp)) l.toArray) (λA' h'=>sX b2 (h'.trans hd) g F (B g (by simp)) m.toArray) ap p r J ⟨L,p1⟩ ⟨N,p2⟩ ?_ λh' tk kp=>⟨rfl,Inv.turnL I O λb o j e=>?_⟩
  ·rw[g1,g2]
   rcases hl with hl|⟨h1,h2⟩
   ·exact .inl hl.symm
   ·exact .inr ⟨h1,h2.symm⟩
  ·simp only[Qh,Rv,Uo,not_or]at j
   exact kp b o j.1 j.2.2.1 j.2.2.2.1 j.2.2.2.2 e
 self:=λ_ _ _ _ _ st h=>wpAny_pyIter_zip st.1 h
end
section
variable{X:Cx}{E:St->XK}{K:Qo}
def iZp(K:Qo)(d:TA):TI:=λe H R=>d e H λvs a=>∃b1 b2 b c xs ys,vs=[.ref b,.ref c]/\SqS b1 K a b xs/\SqS b2 K a c ys/\R (Itz b1 b2 K b c) a
theorem Mf{x1}(y:Gl X "zip")(hm:X.mg "zip"=PM)(ha:PA X [a,b] ta)(hs:Qg [a,b] X.env=[(PX,Rk a X.env),(PX,Rk b X.env)]:=by rfl)(g:Qg [b] X.env=[(PX,Rk b X.env)]:=by rfl):
  PI X (.Tuple elts x1 tpos) (.Call (.Name "zip" p) [a,b] [] pos) (iZp X.K ta):=by
 intro f s n H R I h;refine Call_ (gm I y hm PyProof.Rows.Boot.«zip» (RA (thn (ha pos f s n H _ I h) λus d ⟨vs,o,i,r1,q1⟩=>?_) (by rw[hs,g]) (by rw[g];rfl)));obtain⟨b1,b2,t,u,xs,ys,e,q1,q2,q⟩:=q1;subst e;cases r1 with
 |cons r k=>
  cases k with
  |cons A k=>
   cases k;cases r;cases A;obtain⟨B,P,C⟩:=Inv.src i q1;obtain⟨F,Q,J⟩:=Inv.src i q2;refine AO C J λh' v L N l m sz kp=>?_;refine wpAny_pyIter_zip (s:={d with heap:=h'}) v ?_;have O:Inv X f n o {d with heap:=h'}:=i.kept (t':=d.toks) kp;refine⟨_,[d.heap.objs.size+4,d.heap.objs.size+2,d.heap.objs.size+3,d.heap.objs.size,d.heap.objs.size+1],_,Itz b1 b2 X.K t u,o,rfl,O,BO b1 b2 t u (d.heap.objs.size+4) (d.heap.objs.size+2) (d.heap.objs.size+3) d.heap.objs.size (d.heap.objs.size+1) (by simp),⟨v,L,⟨_,_,N⟩,l,m⟩,λc w=>?_,q⟩;have j:d.heap.objs.size<=c:=by
    simp only[Qh,Rv,Uo]at w;rcases w with rfl|rfl|rfl|rfl|rfl
    ·exact TL _ _
    ·exact TL _ _
    ·exact TL _ _
    ·exact P9 _
    ·exact TL _ _
   exact i.fpOk j (i.hok.fresh j)
noncomputable def eA:List D->List D->List D
 |x::xs,y::ys=> .tup [x,y]::eA xs ys
 |_,_=>[]
theorem tu:∀(xs ys:List D),(eA xs ys).length=US xs.length ys.length
 |[],ys=>by simp[eA]
 |x::xs,[]=>by simp[eA]
 |x::xs,y::ys=>by
  show(eA xs ys).length+1=_;rw[tu xs ys,Qe,Qe];omega
theorem tw:∀{xs ys:List D} {i:Nat} {d:D},(eA xs ys)[i]?=on d->∃x y,xs[i]?=on x/\ys[i]?=on y/\d= .tup [x,y]
 |[],ys,i,d,h=>by simp[eA]at h
 |x::xs,[],i,d,h=>by simp[eA]at h
 |x::xs,y::ys,0,d,h=>by
  simp[eA]at h;exact⟨x,y,rfl,rfl,h.symm⟩
 |x::xs,y::ys,i+1,d,h=>by
  have h':(eA xs ys)[i]?=on d:=by simpa[eA]using h
  obtain⟨a,b,c,e,f⟩:=tw h';exact⟨a,b,by simpa using c,by simpa using e,f⟩
def BI:List D->Option (List D)
 |[a,b]=>(fU a).bind λxs=>(fU b).map λys=>eA xs ys
 |_=>PM
theorem Den.sqS(h:Den K F H d v)(e:fU d=on ds):∃b a,v= .ref a/\∀f c,Tr F H f c->∃xs,SqS b K c a xs/\DenL K f c ds xs:=by
 cases d<;>first
  |(cases e;obtain⟨a,xs,rfl,_⟩:=Den.sqL h;refine⟨PQ,a,rfl,λf c t=>?_⟩;obtain⟨i,ys,g,sq,dl⟩:=Den.sqL (Den.tr t _ _ h);cases g;exact⟨ys,sq,dl⟩)
  |(cases e;obtain⟨a,xs,rfl,_⟩:=Den.sqT h;refine⟨PX,a,rfl,λf c t=>?_⟩;obtain⟨i,ys,g,sq,dl⟩:=Den.sqT (Den.tr t _ _ h);cases g;exact⟨ys,sq,dl⟩)
  |cases e
theorem La{b1 b2:Bool}(n:∀b a,Tr F H b a->∃xs,SqS b1 K a l1 xs/\DenL K b a ds xs)(o:∀b a,Tr F H b a->∃xs,SqS b2 K a l2 xs/\DenL K b a es xs):ItD K (Itz b1 b2 K l1 l2) F H (eA ds es):=λb a β2 t fr i=>by
 obtain⟨xs,c,d1⟩:=n b a t;obtain⟨ys,e,d2⟩:=o b a t;refine⟨λd hd=>?_,λq=>?_⟩
 ·obtain⟨x,y,f,g,rfl⟩:=tw hd
  obtain⟨u,h,du⟩:=d1.get f;obtain⟨v,j,r⟩:=d2.get g;refine⟨⟨xs,ys,u,v,c,e,h,j⟩,λz B w=>?_⟩;obtain⟨p,C,I,k,rfl,rfl,A⟩:=w;obtain⟨l,m⟩:=A xs ys c e;rw[h]at l;rw[j]at m;cases l;cases m;exact⟨bQ.upd k,Den.newT fr k (DenL.cons du (DenL.cons r DenL.nil))⟩
 ·rw[tu]at q
  have f:=d1.length;have g:=d2.length;refine⟨xs,ys,c,e,?_⟩;rw[←f,←g];omega
def uw(g:FL):FL:=dC BI g
theorem qc{x1}(o:Gl X "zip")(hm:X.mg "zip"=PM)(ha:PA X [a,b] (tVA X.K g E))(hs:Qg [a,b] X.env=[(PX,Rk a X.env),(PX,Rk b X.env)]:=by rfl)(i:Qg [b] X.env=[(PX,Rk b X.env)]:=by rfl):
  PI X (.Tuple elts x1 tpos) (.Call (.Name "zip" p) [a,b] [] pos) (iV X.K (uw g) E):=
 (Mf o hm ha hs i).imp λI H R j=>ex6 j λF δ β fr q h=>⟨F,δ,β,fr,q,(run.bind (R:=DenL X.K F) h).mono λvs f j=>by
  obtain⟨ds,β1,t,hd,r1⟩:=j;obtain⟨l,e,k⟩:=run.ofO r1;unfold BI at e;split at e
  ·rename_i c d
   obtain⟨v,J,rfl,r,u⟩:=DenL.two hd;cases q1:fU c with
   |none=>rw[q1]at e;cases e
   |some xs=>
    cases q2:fU d with
    |none=>rw[q1,q2]at e;cases e
    |some ys=>
     rw[q1,q2]at e;cases e;obtain⟨b1,w,rfl,m⟩:=Den.sqS r q1;obtain⟨b2,y,rfl,n⟩:=Den.sqS u q2;obtain⟨us,A,_⟩:=m F f (Tr.refl F f);obtain⟨B,C,_⟩:=n F f (Tr.refl F f);exact⟨b1,b2,w,y,us,B,rfl,A,C,k _ f (To.refl t.fr) (La m n)⟩
  ·cases e⟩
variable{es:List Expr}
end
section
variable{P:QG}{w:QT}{K:Qo}{mg:QO->Option P0}{base:Rl}{N:List QO}{qual:QO}{scope:Scope}{f:PZ}{cd:P0}{A:Q7}{outer:List WY}{s:P6}{H:Hp}{E:XK}
end
section
variable{X:Cx}{E:St->XK}{K:Qo}
variable{elt target iter:Expr}{ifs:List Expr}{rest:List RO}{scope:Scope}{pos:UE}{Nc vars:List QO}{caps:List Nat}{g:TG}{tb:PZ->TB}
theorem aR:dR X [] (tVT X.K (λ_=>M.ret PQ) E0):=λa s b H Q I c=>by obtain⟨F,δ,β,fr,d,r⟩:=c;exact uk a s b H Q I (run.ret fr r rfl)
theorem sV(a:PT X c (tVT X.K t E0)):dR X [c] (tVT X.K t E0):=CI a
theorem bv(c:X.calm=PQ)(S:CmpScope X scope Nc vars caps)(d:PI X target iter (iV X.K it E))
  (e:∀(cl:List (QO×PZ)) (C:PZ) (a:List PZ) (s:P6) (H:Hp),PG (aG X Nc scope cl C a s H) target g/\dR (aG X Nc scope cl C a s H) ifs (tVT X.K tt E0)/\∀D,PB (aG X Nc scope cl C a s H) elt (⟨target,iter,ifs,0⟩::rest) scope pos 0 D (tb D))
  (f:cR X.K g tg) (i:dP tg) (j:∀D,jS X.K D (tb D) b) (hs:∀x,QX iter X.env x=SB x:=by intro _;rfl):PE X (.ListComp elt (⟨target,iter,ifs,0⟩::rest) scope pos) (tV X.K (dJ vars.length caps it tg tt b) E):=
 (nq c S d e hs).imp λk H Q h=>tK f i j h
theorem pp{a c:UE}(j:X.N.Nodup)(d:X.N[i]?=on x)(k:Loc X.env.scope x)(l:X.calm=PQ)(S:CmpScope X scope Nc vars caps)(m:PI X target iter (iV X.K it E))
  (n:∀(cl:List (QO×PZ)) (C:PZ) (f:List PZ) (s:P6) (H:Hp),PG (aG X Nc scope cl C f s H) target g/\dR (aG X Nc scope cl C f s H) ifs (tVT X.K tt E0)/\∀D,PB (aG X Nc scope cl C f s H) elt (⟨target,iter,ifs,0⟩::rest) scope pos 0 D (tb D))
  (o:cR X.K g tg) (p:dP tg) (q:∀D,jS X.K D (tb D) b)
  (e:UL (.ListComp elt (⟨target,iter,ifs,0⟩::rest) scope pos) (on (.Name x a)) c.line X.env=SB PQ:=by rfl)
  (hs:∀x,QX iter X.env x=SB x:=by intro _;rfl) (r:X.fn x=PQ\/X.env.scope.names.lookup x=on .local:=by first|exact .inl rfl|exact .inr rfl|assumption):
  PS X (.Assign [.Name x a] (.ListComp elt (⟨target,iter,ifs,0⟩::rest) scope pos) c) (tG X.K X.H₀ (lH i (dJ vars.length caps it tg tt b)) E):=
 aE ((v8 j d k l S m n e hs r).imp λD t H h=>tK o p q h)
noncomputable def negD:D->Option D
 | .int i=>on (.int (-i))
 |_=>PM
theorem Pa:JG K (rU λi=> .int (-i)) negD:=λF H β Q d1 d b fr a e k=>by
 cases d1<;>first|(cases e;exact⟨_,a,k _ H (To.refl fr) rfl⟩)|cases e
noncomputable def AZ:D->Option Int
 | .int i=>on i
 |_=>PM
noncomputable def oS(xs:List D)(lo a:Option Int):List D:=(xs.drop (HT.sIx xs.length 0 lo)).take (HT.sIx xs.length xs.length a-HT.sIx xs.length 0 lo)
def slD:D->Option Int->Option Int->Option D
 | .lst xs,lo,hi=>on (.lst (oS xs lo hi))
 | .scr ns,lo,hi=>on (.lst (oS (ns.map D.int) lo hi))
 |_,_,_=>PM
def sW(f:Option (FD)):Dn->M (Option Int):=λδ=>match f with
 |none=>M.ret PM
 |some g=>M.bind (g δ) λd=>M.bind (M.ofO (AZ d)) λi=>M.ret (on i)
def fSl(f:FD)(lo a:Option (FD)):FD:=λδ=>M.bind (f δ) λd=>M.bind (sW lo δ) λl=>M.bind (sW a δ) λh=>M.ofO (slD d l h)
def yc(X:Cx)(e:Option Expr)(f:Option (FD))(E:St->XK):Prop:=PO X e (λc H Q=>∃F δ β,Fr F H β/\VOk X.K F H δ c/\run (λ_ (a b:Option Int)=>b=a) F E c (sW f δ) H Q β)
theorem zw:yc X PM PM E:=λa s b H Q I c=>by obtain⟨F,δ,β,fr,d,r⟩:=c;exact wb a s b H Q I (run.ret fr r rfl)
theorem zu(h:PE X e (tV X.K f E)):yc X (on e) (on f) E:=λa s c H Q I b=>ex6 b λF δ β fr j r=>wa h a s c H Q I ⟨F,δ,β,fr,j,(run.bind (R:=Den X.K F) r).mono λv l b=>by
  obtain⟨d,β1,t,hd,r1⟩:=b;obtain⟨i,e,k⟩:=run.ofO_bind r1;cases d<;>first|(cases e;exact⟨_,hd,run.ret t.fr k rfl⟩)|cases e⟩
theorem DenL.cut(h:DenL K F H ds vs)(lo a:Option Int):DenL K F H (oS ds lo a) (mK vs lo a):=by
 unfold oS mK;rw[h.length];exact(h.drop _).take _
theorem vK{lo y:Option Expr}{fl A:Option (FD)}(B:PE X e (tV X.K f E))(C:yc X lo fl E)(I:yc X y A E):PE X (.Subscript e (.Slice lo y PM p2) pos) (tV X.K (fSl f fl A) E):=
 (ul vV B C I).imp λN H Q o=>ex6 o λF δ β fr q r=>⟨F,δ,β,fr,q,(run.bind (R:=Den X.K F) r).mono λv O ⟨d,β1,t,hd,r1⟩=>
  ⟨F,δ,β1,t.fr,q.tr (t.tr fr),(run.bind (R:=λ_ (a b:Option Int)=>b=a) r1).mono λl P ⟨T,β2,n,u,J⟩=>
   ⟨F,δ,β2,n.fr,q.tr ((t.tr fr).trans (n.tr t.fr)),(run.bind (R:=λ_ (a b:Option Int)=>b=a) J).mono λh U o=>by
    obtain⟨h',β3,i,w,L⟩:=o;subst u w;obtain⟨c,e,k⟩:=run.ofO L;have j:=Den.tr ((n.tr t.fr).trans (i.tr n.fr)) _ _ hd;cases d<;>first
     |(cases e;obtain⟨a,xs,rfl,sq,dl⟩:=Den.sqL j;exact⟨a,xs,rfl,sq,λp m=>k _ _ (i.fr.upd _ m) (Den.newL i.fr m (dl.cut l h))⟩)
     |(cases e;obtain⟨a,rfl,sq⟩:=Den.scr j;exact⟨a,_,rfl,sq,λp m=>k _ _ (i.fr.upd _ m) (Den.newL i.fr m ((DenL.ofInts _).cut l h))⟩)
     |cases e⟩⟩⟩
def Bg.ok(β:Bg):Prop:=β.cells≠[]/\β.cells.length<=64/\(∀c∈β.cells,0<=c)/\0<=β.j
end
noncomputable def Bg.pos(β:Bg):Nat:=(β.i % (β.cells.length:Int)).toNat
def Bg.cell(β:Bg):Int:=β.cells.getD β.pos 0
noncomputable def Bg.nxt(β:Bg):Int:=(β.j+β.cell % 2147483629+77)*48271 % 2147483629
noncomputable def jM(β:Bg)(lot:Int):Int:=if 10^18<=β.cell then β.cell % lot else β.nxt/64 % lot
noncomputable def ld(β:Bg)(lot:Int):Bg:=if 10^18<=β.cell then⟨β.cells.set β.pos (β.cell/lot),β.i,β.j⟩else⟨β.cells,β.i+1,β.nxt⟩
open Classical in
def iR:List D->M D:=λds β=>match ds with
 |[.bag,.int lot]=>if β.ok/\0<lot/\lot<1073741824 then on (R1 (D.int (jM β lot)),ld β lot)else PM
 |_=>PM
theorem DE{β:Bg}(h:β.ok)(a:0<lot)(b:lot<1073741824):iR [.bag,.int lot] β=on (.ok (.int (jM β lot)),ld β lot):=by
 unfold iR;exact P7 ⟨h,a,b⟩
theorem zF{β:Bg}(h:iR ds β=on (r,β')):∃lot,ds=[.bag,.int lot]/\β.ok/\0<lot/\lot<1073741824/\r= .ok (.int (jM β lot))/\β'=ld β lot:=by
 unfold iR at h;split at h
 ·split at h
  ·rename_i lot q
   cases h;exact⟨lot,rfl,q.1,q.2.1,q.2.2,rfl,rfl⟩
  ·cases h
 ·cases h
theorem Bg.ok.at{β:Bg}(h:β.ok):β.pos<β.cells.length/\β.cells[β.pos]?=on β.cell/\0<=β.cell/\β.i % (β.cells.length:Int)=(β.pos:Int):=by
 obtain⟨c1,c2,c3,b⟩:=id h;have c:0<β.cells.length:=List.length_pos_iff.mpr c1;have a1:0<=β.i % (β.cells.length:Int):=UG _ (by omega);have a2:β.i % (β.cells.length:Int)<β.cells.length:=U3 _ (by omega);have a:β.pos<β.cells.length:=by unfold Bg.pos;omega
 have e:β.cell=β.cells[β.pos]:=by
  unfold Bg.cell;rw[PV,PP a];rfl
 refine⟨a,by rw[e];exact PP a,by rw[e];exact c3 _ (QP a),?_⟩;unfold Bg.pos;omega
theorem v6{β:Bg}(h:β.ok)(b:0<lot):0<=jM β lot/\jM β lot<lot/\(ld β lot).ok:=by
 obtain⟨f,_,d,_⟩:=h.at;obtain⟨c1,c2,c3,e⟩:=id h;unfold jM ld;split
 ·refine⟨UG _ (by omega),U3 _ b,?_,by rw[Rc];exact c2,λc a=>?_,e⟩
  ·intro z
   have:=Rh VT z;rw[Rc]at this;exact c1 (SZ.mp this)
  ·rcases R7 a with a|rfl
   ·exact c3 c a
   ·exact Int.ediv_nonneg d (by omega)
 ·exact⟨UG _ (by omega),U3 _ b,c1,c2,c3,UG _ (by decide)⟩
end L2.Pu
namespace L2
open PySem PySem.Spec PyProof.Rows
end L2
namespace L2.Pu
open PySem PySem.Spec PyProof.Rows
section
variable{X:Cx}{E:St->XK}{K:Qo}
def nW(K:Qo)(mg:QO->Option P0)(x:QO)(d:D):Prop:=∃u v,mg x=on u/\aN v u/\∀F H,Den K F H d v
theorem lW(c:nW X.K X.mg x d)(a:Gl X x:=by rfl)(hd:(x==("__debug__":QO))=PX:=by decide):PE X (.Name x pos) (tV X.K (fC d) E):=by
 obtain⟨u,v,b,e,f⟩:=c;exact v_c (KG a b e hd) f
mutual
noncomputable def toP:D->Option T9
 | .non=>on .none
 | .bl b=>on (.bool b)
 | .int i=>on (.int i)
 | .str x=>on (.str x)
 | .lst xs=>(toPs xs).map VN
 | .tup xs=>(toPs xs).map PyData.tuple
 |_=>PM
noncomputable def toPs:List D->Option (List T9)
 |[]=>on []
 |x::xs=>match toP x,toPs xs with
  |some p,on ps=>on (p::ps)
  |_,_=>PM
end
mutual
theorem gB{s:P6}(I:Inv X pins σ H s):∀(d:D) (v:V) (u:P0) (p:T9),Den X.K F H d v->toP d=on p->aN v u->∃as,Reads s.heap u p as
 | .non,v,u,p,h,e,r=>by cases e;cases h.non;cases r;exact⟨_,.none⟩
 | .bl b,v,u,p,h,e,r=>by cases e;cases h.bl;cases r;exact⟨_,.bool b⟩
 | .int i,v,u,p,h,e,r=>by cases e;cases h.int;obtain⟨t,rfl⟩:=r;exact⟨_,.int i t⟩
 | .str x,v,u,p,h,e,r=>by cases e;cases h.str;obtain⟨t,rfl⟩:=r;exact⟨_,.str x t⟩
 | .lst xs,v,u,p,h,e,r=>by
  unfold toP at e;cases q:toPs xs with
  |none=>rw[q]at e;cases e
  |some ps=>
   rw[q]at e;cases e;obtain⟨a,ys,rfl,sq,dl⟩:=Den.sqL h;cases r;obtain⟨its,c,pl,_⟩:=I.list sq;obtain⟨as,f⟩:=reads_L I xs ys its ps dl q c;obtain⟨o,g,j,n,hd⟩:=pl.isList;exact⟨_,.list g j hd (by simpa using f)⟩
 | .tup xs,v,u,p,h,e,r=>by
  unfold toP at e;cases q:toPs xs with
  |none=>rw[q]at e;cases e
  |some ps=>
   rw[q]at e;cases e;obtain⟨a,ys,rfl,sq,dl⟩:=Den.sqT h;cases r;obtain⟨its,c,pl,_⟩:=I.tuple sq;obtain⟨as,f⟩:=reads_L I xs ys its ps dl q c;obtain⟨o,g,j,n,hd⟩:=pl;exact⟨_,.tuple g j hd (by simpa using f)⟩
 | .ty _,_,_,_,_,e,_=>by cases e
 | .txt,_,_,_,_,e,_=>by cases e
 | .scr _,_,_,_,_,e,_=>by cases e
 | .obj _ _ _,_,_,_,_,e,_=>by cases e
 | .bag,_,_,_,_,e,_=>by cases e
 | .adr _,_,_,_,_,e,_=>by cases e
 | .dct _ _ _,_,_,_,_,e,_=>by cases e
theorem reads_L{s:P6}(I:Inv X pins σ H s):∀(ds:List D) (vs:List V) (us:List P0) (ps:List T9),DenL X.K F H ds vs->toPs ds=on ps->ax vs us->∃as,ReadsAll s.heap us ps as
 |[],vs,us,ps,h,e,r=>by
  have q:vs=[]:=h;subst q;cases e;cases r;exact⟨_,.nil⟩
 |d::ds,vs,us,ps,h,e,r=>by
  obtain⟨x,a,rfl,b,c⟩:=h;unfold toPs at e;split at e
  ·rename_i p pr f g
   cases e;cases r with
   |cons r1 i=>
    obtain⟨as,j⟩:=gB I d x _ p b f r1;obtain⟨bs,k⟩:=reads_L I ds a _ pr c g i;exact⟨_,.cons j k⟩
  ·cases e
end
def j3(a b:D):Option Bool:=match toP a,toP b with
 |some p,on q=>if(UJ p&&UJ q)=PQ then on (RP p q)else PM
 |_,_=>PM
def jZ(a b:D):Option D:=match eqS a b with
 |some c=>on (.bl c)
 |none=>(j3 a b).map D.bl
def fF(a b:D):Option D:=match eqS a b with
 |some c=>on (.bl (!c))
 |none=>(j3 a b).map λc=>D.bl (!c)
def qI(X:Cx)(g:Bool->Bool):R2:=λx y H Q=>∃(F:Fx) (a b:D) (c:Bool),Den X.K F H a x/\Den X.K F H b y/\j3 a b=on c/\Q (.bl (g c)) H
theorem rZ{c:Bool}(h:j3 a b=on c):∃p q,toP a=on p/\toP b=on q/\UJ p=PQ/\UJ q=PQ/\c=RP p q:=by
 unfold j3 at h;split at h
 ·rename_i p q d e
  split at h
  ·rename_i hs
   rw[QJ]at hs;cases h;exact⟨p,q,d,e,hs.1,hs.2,rfl⟩
  ·cases h
 ·cases h
theorem Mw(f:Room k X.A):OpR X (Rg .Eq) (qI X id):=by
 intro d s t H x y v u Q I g i h;obtain⟨F,a,b,c,d1,d2,e,q⟩:=h;obtain⟨p,j,l,m,n,o,rfl⟩:=rZ e;obtain⟨as,r1⟩:=gB I a x v p d1 l g;obtain⟨bs,r⟩:=gB I b y u j d2 m i;exact eq_dataH r1 r n o f.units ⟨.bl _,H,I,rfl,q⟩
theorem Mt(f:Room k X.A):OpR X (Rg .NotEq) (qI X not):=by
 intro d s t H x y v u Q I g i h;obtain⟨F,a,b,c,d1,d2,e,q⟩:=h;obtain⟨p,j,l,m,n,o,rfl⟩:=rZ e;obtain⟨as,r1⟩:=gB I a x v p d1 l g;obtain⟨bs,r⟩:=gB I b y u j d2 m i;exact ne_dataH r1 r n o f.units ⟨.bl _,H,I,rfl,q⟩
theorem fK(a:Room k X.A):OpR X (Rg .Eq) (λx y H Q=>rEq x y H Q\/qI X id x y H Q):=OZ.or (Mw a)
theorem cb(a:Room k X.A):OpR X (Rg .NotEq) (λx y H Q=>rNe x y H Q\/qI X not x y H Q):=OY.or (Mt a)
theorem gT:bh X.K (λx y H Q=>rEq x y H Q\/qI X id x y H Q) jZ:=λF H β Q d1 d2 d h i fr a b e k=>by
 unfold jZ at e;split at e
 ·rename_i c q
  cases e;obtain⟨f,g⟩:=AJ q a b;exact .inl ⟨f,by rw[g];exact k _ H (To.refl fr) rfl⟩
 ·cases q:j3 d1 d2 with
  |none=>rw[q]at e;cases e
  |some c=>rw[q]at e;cases e;exact .inr ⟨F,d1,d2,c,a,b,q,k _ H (To.refl fr) rfl⟩
theorem cV:bh X.K (λx y H Q=>rNe x y H Q\/qI X not x y H Q) fF:=λF H β Q d1 d2 d h i fr a b e k=>by
 unfold fF at e;split at e
 ·rename_i c q
  cases e;obtain⟨f,g⟩:=AJ q a b;exact .inl ⟨f,by rw[g];exact k _ H (To.refl fr) rfl⟩
 ·cases q:j3 d1 d2 with
  |none=>rw[q]at e;cases e
  |some c=>rw[q]at e;cases e;exact .inr ⟨F,d1,d2,c,a,b,q,k _ H (To.refl fr) rfl⟩
theorem Pz(i j:Int):jZ (.int i) (.int j)=on (.bl (decide (i=j))):=rfl
theorem Py(i j:Int):fF (.int i) (.int j)=on (.bl (!decide (i=j))):=rfl
mutual
theorem oR:∀p:T9,p.canLay0=PQ->RP p p=PQ
 | .none,_=>rfl
 | .bool b,_=>by simp[RP]
 | .int b,_=>by simp[RP]
 | .str b,_=>by simp[RP]
 | .list xs,h=>by
  unfold RP;exact eqv_reflL xs (by simpa[UQ]using h)
 | .tuple xs,h=>by
  unfold RP;exact eqv_reflL xs (by simpa[UQ]using h)
 | .dict _,h=>by simp[UQ]at h
theorem eqv_reflL:∀ps:List T9,Rw ps=PQ->SN ps ps=PQ
 |[],_=>rfl
 |p::ps,h=>by
  have h':p.canLay0=PQ/\Rw ps=PQ:=by simpa[Rw]using h
  unfold SN;rw[oR p h'.1,eqv_reflL ps h'.2];rfl
end
def ft(d:D):Bool:=match toP d with
 |some p=>UJ p
 |none=>PX
theorem AM(h:ft d=PQ):j3 d d=on PQ:=by
 unfold ft at h;unfold j3;cases q:toP d with
 |none=>rw[q]at h;cases h
 |some p=>
  rw[q]at h;simp only[h,Vg,Q4];rw[oR p (SeqAt.canLay_of_shaped h)]
theorem EE{c:Bool}(h:eqS d d=on c):c=PQ:=by
 cases d<;>first|(cases h;simp)|(cases h;rfl)|cases h
theorem KU(h:ft d=PQ):fF d d=on (.bl PX):=by
 unfold fF;cases q:eqS d d with
 |none=>simp only[AM h];rfl
 |some c=>rw[EE q];rfl
theorem IQ{C:Int->Int->Prop}{c:Int->Int->Bool}{g:Int->Int->Int}(b:∀i j,c i j=PQ->C i j):bh K (ipC C g) (opI λi j=>if c i j=PQ then on (.int (g i j))else PM):=λF H β Q d1 d2 d l m fr f h e k=>by
 obtain⟨i,j,rfl,rfl,a⟩:=gE e;split at a
 ·cases a
  exact⟨i,j,f,h,b _ _ (by assumption),k _ H (To.refl fr) rfl⟩
 ·cases a
def addI:D->D->Option D:=opI λi j=>on (.int (i+j))
theorem gH:bh K (ipI λi j=>i+j) addI:=λF H β Q d1 d2 d f g fr a b e k=>by
 obtain⟨i,j,rfl,rfl,c⟩:=gE e;cases c;exact⟨i,j,a,b,k _ H (To.refl fr) rfl⟩
theorem K6:bh K (ipI λi j=>i-j) BX:=λF H β Q d1 d2 d f g fr a b e k=>by
 obtain⟨i,j,rfl,rfl,c⟩:=gE e;cases c;exact⟨i,j,a,b,k _ H (To.refl fr) rfl⟩
theorem qR:PIp X .Mult (ipC tj λi j=>i*j):=by
 intro a s e H x y v u Q I b d h;obtain⟨i,j,rfl,rfl,c,q⟩:=h;obtain⟨t,rfl⟩:=b;obtain⟨t',rfl⟩:=d;exact imul_int ⟨.int _,H,I.tok _,⟨_,rfl⟩,q⟩ (Yi (jR c.1) (jR c.2))
theorem qO:bh K (ipC tj λi j=>i*j) CZ:=IQ λi j h=>by
 simp only[QJ,gW,QU]at h;exact h
theorem uJ:bh K (ipC tq λi j=>i/j) xW:=IQ λi j h=>by
 simp only[QJ,QU]at h;exact h
abbrev iE:=BV
theorem AS(b:X.calm=PQ):dF X (.builtin "sum") (λxs H Q=>∃(a:PZ) (ns:List Int),xs=[.ref a]/\SqL X.K H a (ns.map V.int)/\Q (.int ns.sum) H):=sd b
theorem MS:eL K (λxs H Q=>∃(a:PZ) (ns:List Int),xs=[.ref a]/\SqL K H a (ns.map V.int)/\Q (.int ns.sum) H) iE:=O8
def JH(H:Hp)(b l:PZ):Prop:=∃(cells:List Int) (i j:Int),H b=on (.lst [.ref l,.int i,.int j])/\H l=on (.lst (cells.map V.int))/\cells≠[]/\cells.length<=64/\(∀c∈cells,0<=c)/\0<=j
theorem K9(h:k<n):ixN n (k:Int)=on k:=by
 unfold ixN;rw[P7 (by omega),P7 (by omega)];simp
theorem PD(ns:List Int):∃a:List Int,mK (ns.map V.int) PM (on 63)=a.map V.int/\a.length<=63:=by
 refine⟨(ns.drop (HT.sIx ns.length 0 PM)).take (HT.sIx ns.length ns.length (on 63)-HT.sIx ns.length 0 PM),?_,?_⟩
 ·unfold mK
  rw[PL,Vk,Ut]
 ·rw[R4]
  have:HT.sIx ns.length ns.length (on 63)<=63:=by
   unfold HT.sIx;simp;omega
  omega
def OP(K:Qo):Sp:=λvs H Q _=>∃(a:PZ) (ns:List Int),vs=[.ref a]/\SqL K H a (ns.map V.int)/\∀(b l:PZ) (c:Hp),H b=PM->H l=PM->JH c b l->bQ H c->Q (.ref b) c
def HY(K:Qo):Sp:=λvs H Q _=>∃(a:PZ) (ns:List Int),vs=[.ref a]/\SqL K H a (ns.map V.int)/\ns.length<=63/\∀b,Q (.bl PQ) b
theorem Lr(sm:bQ H₀ H)(A:H₀ b=PM)(C:H₀ l=PM)(B:JH H b l):∃β,β.ok/\SOk K H₀ (λc=>if c=b\/c=l then on 1 else PM) (on (b,l)) H (PM::on (.sh .bag)::Qr n PM) β (on (.ref a)::on (.ref b)::Qr n PM):=by
 obtain⟨cells,i,j,g,h,p,v,w,y⟩:=B;have m:b≠l:=O5 g h (by
  intro z;cases cells with
  |nil=>exact p rfl
  |cons c r=>simp at z)
 refine⟨⟨cells,i,j⟩,⟨p,v,w,y⟩,⟨⟨λc f=>?_,λt u e=>?_,λt u e=>?_⟩,λt u e=>?_,by simp,λc f=>?_,λc k f=>(by
  have d:(if c=b\/c=l then on 1 else PM)=on (k+2):=f;split at d<;>cases d),λc k f=>(by
  have d:(if c=b\/c=l then on 1 else PM)=on (k+2):=f;split at d<;>cases d),λk s e=>?_⟩⟩
 ·have d:(if c=b\/c=l then on 1 else PM)≠(PM:Option Nat):=f
  split at d
  ·rename_i q
   rcases q with rfl|rfl
   ·rw[g];simp
   ·rw[h];simp
  ·exact Qx rfl d
 ·cases e
  refine⟨?_,?_,m⟩
  ·show(if b=b\/b=l then on 1 else PM)≠(PM:Option Nat)
   rw[P7 (.inl rfl)];simp
  ·show(if l=b\/l=l then on 1 else PM)≠(PM:Option Nat)
   rw[P7 (.inr rfl)];simp
 ·cases e
  exact⟨g,h⟩
 ·cases e
  exact⟨P7 (.inl rfl),P7 (.inr rfl)⟩
 ·cases q:H₀ c with
  |none=>exact Qx q f
  |some o=>rw[sm c o q];simp
 ·match k with
  |0=>simp at e
  |1=>
   simp at e;subst e;exact⟨.ref b,rfl,b,l,rfl,rfl⟩
  |k+2=>
   simp only[XA,Sx]at e;split at e<;>cases e
variable{P:QG}{w:QT}{mg:QO->Option P0}{base:Rl}
theorem bi{st:Q9}{N ps:List QO}(n m:Nat)(g:G)(F:FunD K x qual st f fd)(S:FnScope N ps (ag st))(hn:ps.length=n)(hm:N.length=m)
  (a:∀(b:P0) (A:Q7) (outer:List WY) (s:P6) (H:Hp) (E:XK),Room k (A.deeper (Uv qual (ag st) s.heap.objs.size f b))->
   PSs (f9 (CXE P w) P w K mg base N qual (ag st) f b A outer s H E) (cQ st) (tG K H g (λ_=>E))):FnOk P w K mg base (CXE P w) (k+1) f fd ps (spF K n (gu m g)):=by
 subst hn hm;exact Lh F S a
end
end L2.Pu
namespace L2
open PySem PySem.Spec PyProof.Rows
theorem CmpScope.ofB{X:Cx}{scope:Scope}{caps:List Nat}(k:scope.kind= .function)(nd:(scope.names.map (·.1)).Nodup)
  (fr:(scope.names.all λy=>y.2 != .free||(X.env.scope.names.lookup y.1==on .cell||X.env.scope.names.lookup y.1==on .free))=PQ) (a:Nc=vars++caps.map (λj=>X.N.getD j TM))
  (b:(caps.all λj=>decide (j<X.N.length)&&scope.names.lookup (X.N.getD j TM)==on .free)=PQ):CmpScope X scope Nc vars caps:=by
 refine⟨k,nd,λy c e=>?_,a,λj d=>?_⟩
 ·have:=Tz.mp fr y c
  rw[e]at this;simp only[Tg,Bool.false_or,Bool.or_eq_true,TU]at this;exact this
 ·have:=Tz.mp b j d
  simp only[QJ,QU,TU]at this;exact this
end L2
namespace L2.Pu
end L2.Pu
namespace L2.Pu
open PySem PySem.Spec
theorem qW{ds os:List D}(a:it δ β=on (.ok ds,β1))(c:cLp tg tt b ds (cSt nv caps δ) β1=on (.ok os,β2))(d:os.length<=Qp):dJ nv caps it tg tt b δ β=on (.ok (.lst os),β2):=by
 unfold dJ;simp only[a,c,d,Q4]
def plD:Nat->D->Prop
 |_,.int _=>True
 |_,.bl _=>True
 |_,.non=>True
 |n+1,.lst xs=>∀x∈xs,plD n x
 |n+1,.tup xs=>∀x∈xs,plD n x
 |_,_=>False
theorem Kz:∀(n:Nat) (d:D),plD n d->∃p,toP d=on p/\p.canLay0=PQ/\p.depth<=n+1:=by
 have a:∀(n:Nat) (xs:List D),(∀x∈xs,∃p,toP x=on p/\p.canLay0=PQ/\p.depth<=n)->∃ps,toPs xs=on ps/\Rw ps=PQ/\SG ps<=n:=by
  intro n xs
  induction xs with
  |nil=>intro _;exact⟨[],rfl,rfl,by simp[SG]⟩
  |cons x xs ih=>
   intro h;obtain⟨p,g,j,l⟩:=h x P3;obtain⟨ps,b,c,f⟩:=ih λy k=>h y (PR _ k);refine⟨p::ps,?_,?_,?_⟩
   ·unfold toPs;simp only[g,b]
   ·simp[Rw,j,c]
   ·simp only[SG];omega
 intro n
 induction n with
 |zero=>
  intro d h;cases d with
  |int i=>exact⟨.int i,rfl,rfl,by simp[Tu]⟩
  |bl i=>exact⟨.bool i,rfl,rfl,by simp[Tu]⟩
  |non=>exact⟨.none,rfl,rfl,by simp[Tu]⟩
  |_=>exact h.elim
 |succ n ih=>
  intro d h;cases d with
  |int i=>exact⟨.int i,rfl,rfl,by simp[Tu]⟩
  |bl i=>exact⟨.bool i,rfl,rfl,by simp[Tu]⟩
  |non=>exact⟨.none,rfl,rfl,by simp[Tu]⟩
  |lst xs=>
   obtain⟨ps,b,c,f⟩:=a (n+1) xs λx e=>ih x (h x e);exact⟨.list ps,by unfold toP;simp[b],by simp[UQ,c],by simp only[Tu];omega⟩
  |tup xs=>
   obtain⟨ps,b,c,f⟩:=a (n+1) xs λx e=>ih x (h x e);exact⟨.tuple ps,by unfold toP;simp[b],by simp[UQ,c],by simp only[Tu];omega⟩
  |_=>exact h.elim
theorem oU(n:Nat)(h:plD n d)(hn:n<=60):ft d=PQ:=by
 obtain⟨p,a,b,c⟩:=Kz n d h;unfold ft;simp only[a,UJ,b,TY,QU];omega
end L2.Pu
namespace L2.Pu
open PySem PySem.Spec PyProof.Rows
section
variable{X:Cx}{E:St->XK}{K:Qo}{a b:Expr}{es:List Expr}{pos:UE}
theorem To.none(t:To F H H1 β1)(h:H1 p=PM):H p=PM:=by
 cases q:H p with
 |none=>rfl
 |some o=>
  have:H1 p=on o:=t.kp p o q λb l e=>by
   obtain⟨c,d⟩:=t.fr.bag b l e;exact⟨λw=>(by subst w;rw[c]at h;cases h),λw=>(by subst w;rw[d]at h;cases h)⟩
  rw[this]at h;cases h
noncomputable def Fx.but(F:Fx)(a:PZ):Fx:=⟨λc=>F.A c\/c=a,F.bg⟩
theorem Fx.tr_but{F:Fx}(fr:Fr F H β1)(d:H p=PM)(hs:∀c o,H c=on o->H1 c=on o):Tr F H (F.but p) H1:=⟨λc e f z=>by
 rcases z with z|z
 ·exact e z
 ·subst z;exact f d,λc o _ h=>hs c o h,rfl⟩
theorem Fx.tr_of{F:Fx}:Tr (F.but p) H F H:=⟨λc h _ z=>h (RH z),λ_ _ _ h=>h,rfl⟩
def mY(K:Qo)(F:Fx)(H0 H:Hp)(ds:List D)(v:V):Prop:=∃a xs,v= .ref a/\H0 a=PM/\H a=on (.lst xs)/\DenL K (F.but a) H ds xs
def tVO(K:Qo)(f:FL)(E:St->XK):TE:=λc H Q=>∃F δ β,Fr F H β/\VOk K F H δ c/\run (mY K F H) F E c (f δ) H Q β
def tVG(K:Qo)(f:Dn->M (List (List D)))(E:St->XK):TE:=λc H Q=>∃F δ β,Fr F H β/\VOk K F H δ c/\run (ib K F H) F E c (f δ) H Q β
noncomputable def szL(ds:List D):Option (List D):=if ds.length<=Qp then on ds else PM
theorem mY.new(t:To F H H1 β1)(d:H1 p=PM)(hd:DenL K F H1 ds xs):mY K F H (upd H1 p (.lst xs)) ds (.ref p):=
 ⟨p,xs,rfl,t.none d,ao,DenL.tr (Fx.tr_but t.fr d λc o h=>by rw[upd_ne (az h d)];exact h) _ _ hd⟩
theorem DenL.rep(h:DenL K F H ds xs):∀n:Nat,DenL K F H (Qr n ds).flatten (Qr n xs).flatten
 |0=>rfl
 |n+1=>by
  rw[RF,SM,RF,SM];exact DenL.append h (DenL.rep h n)
noncomputable def uh(ds:List D)(d:D):Option (List D):=match d with
 | .int k=>if(decide (-(2^63)<=k)&&decide (k<2^63)&&decide (ds.length<=Qp)&&decide (ds.length*k.toNat<=Qp))=PQ then on (Qr k.toNat ds).flatten else PM
 |_=>PM
def CT(g:FL)(f:FD):FL:=λδ=>M.bind (g δ) λds=>M.bind (M.ofO (szL ds)) λds=>M.bind (f δ) λd=>M.ofO (uh ds d)
theorem O1(ha:PA X es (tVA X.K g E))(O:PE X b (tV X.K f E)):PE X (.BinOp (.List es pos') .Mult b pos) (tVO X.K (CT g f) E):=
 (dX Mr (fJ ha) O).imp λT H Q j=>ex6 j λF δ β fr B r=>⟨F,δ,β,fr,B,(run.bind (R:=DenL X.K F) r).mono λvs U j=>by
  obtain⟨ds,β1,t,hd,r1⟩:=j;obtain⟨W,n,Y⟩:=run.ofO_bind r1;unfold szL at n;split at n
  ·rename_i Z
   cases n;refine⟨by rw[←hd.length];exact Z,λp I=>?_⟩;have m:=t.fr.upd (.lst vs) I;have J:=t.fr.fresh I;refine⟨F,δ,β1,m.fr,(B.tr (t.tr fr)).tr (m.tr t.fr),?_⟩;obtain⟨L,β2,e,h⟩:=Y;have u:run (mY X.K F H) F E T (M.bind (f δ) λd=>M.ofO (uh ds d)) (upd U p (.lst vs)) Q β1:=by
    refine⟨L,β2,e,?_⟩;cases L with
    |ok d=>exact λv y c=>h v y (m.trans c)
    |error C=>exact λy c=>h y (m.trans c)
   refine(run.bind (R:=Den X.K F) u).mono λw H2 j=>ex5 j λd β3 c hw r3=>?_;obtain⟨os,i,k⟩:=run.ofO r3;unfold uh at i;split at i
   ·split at i
    ·rename_i kk o
     cases i;simp only[QJ,QU]at o;cases hw;have A:H2 p=on (.lst vs):=c.kp p _ ao λb l q=>⟨λz=>J (z▸(fr.bgA b l q).1),λz=>J (z▸(fr.bgA b l q).2.1)⟩;have tt:=m.trans c;exact⟨p,_,vs,rfl,rfl,A,o.1.1.1,o.1.1.2,by rw[←hd.length];exact o.2,λq N=>k _ _ (c.fr.upd _ N) (mY.new (t.trans tt) N ((DenL.tr (tt.tr t.fr) _ _ hd).rep _))⟩
    ·cases i
   ·cases i
  ·cases n⟩
def hX(nv:Nat)(caps:List Nat)(it:Dn->M (List Pu.D))(tg:TgF)(tt:Dn->M Bool)(b:Dn->M (List Pu.D)):Dn->M (List Pu.D):=λδ β=>match it δ β with
 |none=>PM
 |some (.error C,β1)=>on (.error C,β1)
 |some (.ok ds,β1)=>match cLp tg tt b ds (cSt nv caps δ) β1 with
  |some (.ok os,β2)=>if os.length<=Qp then on (.ok os,β2)else PM
  |_=>PM
theorem yy{vars:List QO}{caps:List Nat}{it:Dn->M (List Pu.D)}{g:TG}{tg:TgF}{tt:Dn->M Bool}{I:PZ->TB}{b:Dn->M (List Pu.D)}(U:cR K g tg)(W:dP tg)(Y:∀D,jS K D (I D) b){L:St}{H:Hp}{Q:VK}(h:tVO K (hX vars.length caps it tg tt b) E L H Q):
  o9 vars caps (iV K it E) (λD J=>db J g (tVT K tt E0) (I D)) L H Q:=by
 obtain⟨F,δ,β,fr,N,r,k,e,h⟩:=h;unfold hX at e;refine⟨F,δ,β,fr,N,?_⟩;split at e
 ·cases e
 ·rename_i C β1 q
  cases e;exact⟨.error C,_,q,h⟩
 ·rename_i ds β1 q
  split at e
  ·rename_i os β2 q2
   split at e
   ·rename_i Z
    cases e;refine⟨.ok ds,β1,q,λJ j t hJ D c=>?_⟩;have d:¬F.A D:=t.fr.fresh c;have nb:∀b l,F.bg=on (b,l)->D≠b/\D≠l:=λb l z=>⟨λw=>d (w▸(fr.bgA b l z).1),λw=>d (w▸(fr.bgA b l z).2.1)⟩;have O:=t.fr.upd (.lst []) c;have m:Fr ⟨λa=>F.A a\/a=D,F.bg⟩ (upd j D (.lst [])) β1:=by
     refine⟨λa ha z=>?_,λb l z=>let ⟨x,y,w⟩:=fr.bgA b l z;⟨.inl x,.inl y,w⟩,O.fr.bag⟩
     rcases ha with ha|ha
     ·exact O.fr.occ a ha z
     ·subst ha;rw[ao]at z;cases z
    have f:Tr F j ⟨λa=>F.A a\/a=D,F.bg⟩ (upd j D (.lst [])):=⟨λa ha hs z=>by
     rcases z with z|z
     ·exact ha z
     ·subst z;exact hs c,λa o ha z=>by rw[upd_ne (az z c)];exact z,rfl⟩
    refine nC (R:=RL K) (D:=D) (as:=[]) (os:=os) U W (Y D) m (.inr rfl) nb (qp (N.tr ((t.tr fr).trans f))) ⟨[],ao,rfl⟩ (hJ.tr f) q2 (show os.length<=Qp from Z) λσ1 T p vk3 u=>?_;obtain⟨i,v,B⟩:=u;have tf:To F j T k:=by
     refine⟨λa o z n=>p.kp a o (by rw[upd_ne (az z c)];exact z) (az z c) n,λa ha z=>p.fr.occ a (RH ha) z,fr.bgA,p.fr.bag⟩
    exact h _ T (t.trans tf) ⟨D,i,rfl,t.none c,v,B⟩
   ·cases e
  ·cases e
def oX(tg:TgF)(tt:Dn->M Bool)(b:Dn->M (List (List Pu.D))):List Pu.D->Dn->M (List (List Pu.D))
 |[],_=>M.ret []
 |d::ds,δ=>match tg d δ with
  |none=>M.fail
  |some δ1=>M.bind (tt δ1) λc=>M.bind (if c=PQ then b δ1 else M.ret []) λo=>M.bind (oX tg tt b ds δ) λos=>M.ret (o++os)
def RwA(K:Qo)(F:Fx)(D:PZ)(H0 H:Hp)(as:List (List Pu.D))(acc:List V):Prop:=(∀c,H0 c≠PM->H c≠PM)/\∃rs,acc=rs.map V.ref/\(D::rs).Nodup/\RowL K F H (λr=>H0 r=PM) as rs
theorem RwA.mono{F:Fx}{D:PZ}(g:F.A D)(i:∀b l,F.bg=on (b,l)->H0 b≠PM/\H0 l≠PM)(fr:Fr F H β)(t:ToD F D H H1 β1)(h:RwA K F D H0 H as acc):RwA K F D H0 H1 as acc:=by
 obtain⟨cv,rs,e,nd,j⟩:=h;refine⟨λc k z=>?_,rs,e,nd,RowL.tr (t.tr fr g) j λr xs m p q=>⟨p,t.kp r _ q (λz=>?_) λb l w=>⟨λz=>?_,λz=>?_⟩⟩⟩
 ·cases q:H c with
  |none=>exact cv c k q
  |some o=>
   by_cases hd:c=D
   ·subst hd;exact t.fr.occ _ g z
   ·by_cases d:∃b l,F.bg=on (b,l)/\(c=b\/c=l)
    ·obtain⟨b,l,w,f⟩:=d
     rcases f with rfl|rfl
     ·exact t.fr.occ _ (fr.bgA _ _ w).1 z
     ·exact t.fr.occ _ (fr.bgA _ _ w).2.1 z
    ·rw[t.kp c o q hd λb l w=>⟨λy=>d ⟨b,l,w,.inl y⟩,λy=>d ⟨b,l,w,.inr y⟩⟩]at z
     cases z
 ·subst z;exact(QR.mp nd).1 m
 ·subst z;exact(i _ _ w).1 p
 ·subst z;exact(i _ _ w).2 p
def qu(K:Qo)(D:PZ)(i:TB)(f:Dn->M (List (List Pu.D))):Prop:=∀(F:Fx) (H0 H:Hp) (δ:Dn) (β d:Bg) (h:St) (acc:List V) (as os:List (List Pu.D)) (Q:St->Hp->Prop),Fr F H β->F.A D->(∀b l,F.bg=on (b,l)->D≠b/\D≠l)->(∀b l,F.bg=on (b,l)->H0 b≠PM/\H0 l≠PM)->VOk K F H δ h->H D=on (.lst acc)->RwA K F D H0 H as acc->
 f δ β=on (.ok os,d)->as.length+os.length<=Qp->(∀e g c,ToD F D H g d->VOk K F g δ e->g D=on (.lst c)->RwA K F D H0 g (as++os) c->Q e g)->i h H Q
def vn(f:Dn->M (List Pu.D)):Dn->M (List (List Pu.D)):=λδ=>M.bind (f δ) λd=>M.ret [d]
theorem RowL.snoc{P:PZ->Prop}(p:P r)(c:H r=on (.lst xs))(d:DenL K F H ds xs):∀{rows:List (List Pu.D)} {rs:List PZ},RowL K F H P rows rs->RowL K F H P (rows++[ds]) (rs++[r])
 |[],[],_=>⟨p,⟨xs,c,d⟩,trivial⟩
 |_::_,_::_,h=>⟨h.1,h.2.1,RowL.snoc p c d h.2.2⟩
 |[],_::_,h=>h.elim
 |_::_,[],h=>h.elim
theorem wn{D:PZ}:qu K D (x9 D (tVO K f E0)) (vn f):=λF H0 H δ β i Z acc as os Q fr j m R T U hd e hz k=>by
 obtain⟨d,β1,e1,e2⟩:=M.bind_inv e;cases e2;refine⟨F,δ,β,fr,T,E0.run e1 λv W t hv=>?_⟩;have p:=t.kp D _ U m;have u:=hd.mono j R fr (t.toD D);obtain⟨r,xs,rfl,n0,n1,n2⟩:=hv;obtain⟨cv,rs,A,nd,Y⟩:=u;obtain⟨B,c,C,I,J⟩:=hd;have g:acc.length=as.length:=by rw[A,PL,Y.len]
 have L:c=rs:=by
  have:c.map V.ref=rs.map V.ref:=C.symm.trans A;exact Wc (λa b q=>by cases q;rfl)|>.mp this
 subst L;have nD:r≠D:=λz=>by subst z;rw[U]at n0;cases n0
 have nr:r∉c:=λz=>by
  obtain⟨_,ys,q⟩:=J.all r z;rw[q]at n0;cases n0
 have N:H0 r=PM:=by
  cases q:H0 r with
  |none=>rfl
  |some o=>exact Qx n0 (B r (by rw[q];simp))
 refine⟨acc,p,by rw[g];simp at hz;omega,?_⟩;have O:ToD F D W (upd W D (.lst (acc++[.ref r]))) i:=by
  refine⟨λa o h n _=>by rw[upd_ne n];exact h,λa h q=>?_,fr.bgA,λb l q=>?_⟩
  ·by_cases z:a=D
   ·subst z;rw[ao]at q;cases q
   ·rw[upd_ne z]at q;exact t.fr.occ a h q
  ·rw[upd_ne (m b l q).1.symm,upd_ne (m b l q).2.symm]
   exact t.fr.bag b l q
 have tt:=O.tr t.fr j;refine k Z _ _ ((t.toD D).trans O) (T.tr ((t.tr fr).trans tt)) ao (RwA.mono j R t.fr O ⟨cv,c++[r],by rw[A,QK];rfl,?_,RowL.snoc N n1 (DenL.tr Fx.tr_of _ _ n2) Y⟩);rw[←TD,Wr];refine⟨I,by simp,λx hx y hy=>?_⟩;obtain rfl:y=r:=by simpa using hy
 rcases Qh.mp hx with rfl|hx
 ·exact nD.symm
 ·exact λz=>nr (z▸hx)
end
section
variable{X:Cx}{E:St->XK}{K:Qo}
theorem K0{D:PZ}(hg:cR K g tg)(sg:dP tg)(hb:qu K D tb b){F:Fx}{as os:List (List Pu.D)}(fr:Fr F H β)(Z:F.A D)(hn:∀b l,F.bg=on (b,l)->D≠b/\D≠l)(h0:∀b l,F.bg=on (b,l)->H0 b≠PM/\H0 l≠PM)(vk:VOk K F H δ σ)(hD:H D=on (.lst acc))(hd:RwA K F D H0 H as acc)
  (it:ItD K J F H ds) (e:oX tg tt b ds δ β=on (.ok os,β')) (hz:as.length+os.length<=Qp) (k:∀f n a,ToD F D H n β'->VOk K F n δ f->n D=on (.lst a)->RwA K F D H0 n (as++os) a->Q f n):db J g (tVT K tt E0) tb σ H Q:=by
 refine⟨λi m f n=>m+i=ds.length/\∃β1 a j t,ToD F D H n β1/\VOk K F n δ f/\n D=on (.lst a)/\RwA K F D H0 n j a/\oX tg tt b (ds.drop i) δ β1=on (.ok t,β')/\j++t=as++os,
  ⟨ds.length,by omega,β,acc,as,os,⟨λ_ _ h _ _=>h,fr⟩,vk,hD,hd,e,rfl⟩,?_⟩
 rintro i m f n ⟨hm,β1,a,j,t,u,B,C,I,r,ea⟩;have tr1:=u.tr fr Z;obtain⟨iy,is⟩:=it F n β1 tr1 u.fr i;cases hi:ds[i]? with
 |none=>
  have hl:ds.length<=i:=U9.mp hi;rw[RN hl]at r;cases r;refine .inl ⟨is (by omega),k f n a u B C ?_⟩;rw[←ea,QY];exact I
 |some d=>
  have hl:i<ds.length:=(P4.mp hi).1;obtain⟨go,yl⟩:=iy d hi;have ed:ds.drop i=d::ds.drop (i+1):=by
   rw[QV hl];congr 1;exact QB ((PP hl).symm.trans hi)
  rw[ed]at r;unfold oX at r;cases q:tg d δ with
  |none=>rw[q]at r;cases r
  |some δ1=>
   rw[q]at r;obtain⟨c,β2,e2,e3⟩:=M.bind_inv r;obtain⟨o,β3,e4,e5⟩:=M.bind_inv e3;obtain⟨L,β4,e6,e7⟩:=M.bind_inv e5;cases e7;obtain⟨s1,s2⟩:=sg _ _ _ q;refine .inr ⟨go,λN O=>∃p,ToD F D H O β3/\VOk K F O δ N/\O D=on (.lst p)/\RwA K F D H0 O (j++o) p,?_,λx H2 hy=>?_⟩
   ·rintro N O ⟨p,t9,vk9,hD9,hd9⟩
    exact⟨m-1,by omega,by omega,β3,p,j++o,L,t9,vk9,hD9,hd9,e6,by rw[Ra];exact ea⟩
   ·obtain⟨sm,dx⟩:=yl x H2 hy
    have y:To F n H2 β1:=u.fr.same sm;have tr2:=y.tr u.fr;refine hg F H2 δ δ1 f d x _ (B.tr tr2) dx q λσ2 v=>⟨F,δ1,β1,y.fr,v,E0.run e2 λc' H3 R ec=>?_⟩;subst ec;have hD2:=sm _ _ C;have T:=R.kp D _ hD2 hn;have U:=R.tr y.fr;have d3:=(I.mono Z h0 u.fr (y.toD D)).mono Z h0 y.fr (R.toD D);have W:ToD F D H H3 β2:=u.trans ((y.trans R).toD D);have hle:j.length+(o++L).length<=Qp:=by
     have:=Rh VT ea;simp only[Qm]at this⊢;omega
    cases c' with
    |true=>
     rw[P7 rfl]at e4⊢;refine hb F H0 H3 δ1 β2 β3 σ2 a j o _ R.fr Z hn h0 (v.tr U) T d3 e4 (by rw[Qm]at hle;omega) λσ4 H4 Y t4 vk4 hD4 hd4=>?_;exact⟨Y,W.trans t4,vk4.sub s1 s2,hD4,hd4⟩
    |false=>
     rw[P5 P8]at e4⊢;cases e4;exact⟨a,W,(v.tr U).sub s1 s2,T,by rw[QY];exact d3⟩
def jt(nv:Nat)(caps:List Nat)(it:Dn->M (List Pu.D))(tg:TgF)(tt:Dn->M Bool)(b:Dn->M (List (List Pu.D))):Dn->M (List (List Pu.D)):=λδ β=>match it δ β with
 |none=>PM
 |some (.error C,β1)=>on (.error C,β1)
 |some (.ok ds,β1)=>match oX tg tt b ds (cSt nv caps δ) β1 with
  |some (.ok os,β2)=>if os.length<=Qp then on (.ok os,β2)else PM
  |_=>PM
theorem rm{vars:List QO}{caps:List Nat}{it:Dn->M (List Pu.D)}{g:TG}{tg:TgF}{tt:Dn->M Bool}{I:PZ->TB}{b:Dn->M (List (List Pu.D))}(U:cR K g tg)(W:dP tg)(Y:∀D,qu K D (I D) b){L:St}{H:Hp}{Q:VK}(h:tVG K (jt vars.length caps it tg tt b) E L H Q):
  o9 vars caps (iV K it E) (λD J=>db J g (tVT K tt E0) (I D)) L H Q:=by
 obtain⟨F,δ,β,fr,N,r,k,e,h⟩:=h;unfold jt at e;refine⟨F,δ,β,fr,N,?_⟩;split at e
 ·cases e
 ·rename_i C β1 q
  cases e;exact⟨.error C,_,q,h⟩
 ·rename_i ds β1 q
  split at e
  ·rename_i os β2 q2
   split at e
   ·rename_i Z
    cases e;refine⟨.ok ds,β1,q,λJ f t hJ D d=>?_⟩;have i:¬F.A D:=t.fr.fresh d;have nb:∀b l,F.bg=on (b,l)->D≠b/\D≠l:=λb l z=>⟨λw=>i (w▸(fr.bgA b l z).1),λw=>i (w▸(fr.bgA b l z).2.1)⟩;have O:=t.fr.upd (.lst []) d;have m:Fr ⟨λa=>F.A a\/a=D,F.bg⟩ (upd f D (.lst [])) β1:=by
     refine⟨λa ha z=>?_,λb l z=>let ⟨x,y,w⟩:=fr.bgA b l z;⟨.inl x,.inl y,w⟩,O.fr.bag⟩
     rcases ha with ha|ha
     ·exact O.fr.occ a ha z
     ·subst ha;rw[ao]at z;cases z
    have j:Tr F f ⟨λa=>F.A a\/a=D,F.bg⟩ (upd f D (.lst [])):=⟨λa ha hs z=>by
     rcases z with z|z
     ·exact ha z
     ·subst z;exact hs d,λa o ha z=>by rw[upd_ne (az z d)];exact z,rfl⟩
    have cv:∀c,H c≠PM->upd f D (.lst []) c≠PM:=λc hc z=>by
     by_cases w:c=D
     ·subst w;rw[ao]at z;cases z
     ·rw[upd_ne w]at z;exact hc (t.none z)
    refine K0 (D:=D) (H0:=H) (as:=[]) (os:=os) U W (Y D) m (.inr rfl) nb (λb l z=>⟨fr.occ _ (fr.bgA b l z).1,fr.occ _ (fr.bgA b l z).2.1⟩) (qp (N.tr ((t.tr fr).trans j))) ao ⟨cv,[],rfl,by simp,trivial⟩ (hJ.tr j) q2 (by simpa using Z) λσ1 R T u vk3 v B=>?_;have tf:To F f R k:=by
     refine⟨λa o z n=>u.kp a o (by rw[upd_ne (az z d)];exact z) (az z d) n,λa ha z=>u.fr.occ a (RH ha) z,fr.bgA,u.fr.bag⟩
    obtain⟨_,rs,ea,nd,rl⟩:=B;subst ea;exact h _ R (t.trans tf) ⟨D,rs,rfl,t.none d,v,nd,RowL.tr (F:=⟨λa=>F.A a\/a=D,F.bg⟩) ⟨λa ha _ z=>ha (RH z),λa o _ z=>z,rfl⟩ rl λr xs _ p q=>⟨p,q⟩⟩
   ·cases e
  ·cases e
section
variable{elt target iter:Expr}{ifs:List Expr}{rest:List RO}{scope:Scope}{pos:UE}{Nc vars:List QO}{caps:List Nat}{g:TG}{tb:PZ->TB}
theorem MB(c:X.calm=PQ)(S:CmpScope X scope Nc vars caps)(d:PI X target iter (iV X.K it E))
  (e:∀(cl:List (QO×PZ)) (C:PZ) (a:List PZ) (s:P6) (H:Hp),PG (aG X Nc scope cl C a s H) target g/\dR (aG X Nc scope cl C a s H) ifs (tVT X.K tt E0)/\∀D,PB (aG X Nc scope cl C a s H) elt (⟨target,iter,ifs,0⟩::rest) scope pos 0 D (tb D))
  (f:cR X.K g tg) (i:dP tg) (j:∀D,jS X.K D (tb D) b) (hs:∀x,QX iter X.env x=SB x:=by intro _;rfl):PE X (.ListComp elt (⟨target,iter,ifs,0⟩::rest) scope pos) (tVO X.K (hX vars.length caps it tg tt b) E):=
 (nq c S d e hs).imp λk H Q h=>yy f i j h
theorem M5(c:X.calm=PQ)(S:CmpScope X scope Nc vars caps)(d:PI X target iter (iV X.K it E))
  (e:∀(cl:List (QO×PZ)) (C:PZ) (a:List PZ) (s:P6) (H:Hp),PG (aG X Nc scope cl C a s H) target g/\dR (aG X Nc scope cl C a s H) ifs (tVT X.K tt E0)/\∀D,PB (aG X Nc scope cl C a s H) elt (⟨target,iter,ifs,0⟩::rest) scope pos 0 D (tb D))
  (f:cR X.K g tg) (i:dP tg) (j:∀D,qu X.K D (tb D) b) (hs:∀x,QX iter X.env x=SB x:=by intro _;rfl):PE X (.ListComp elt (⟨target,iter,ifs,0⟩::rest) scope pos) (tVG X.K (jt vars.length caps it tg tt b) E):=
 (nq c S d e hs).imp λk H Q h=>rm f i j h
end
mutual
noncomputable def noL:D->Bool
 | .int _=>PQ
 | .bl _=>PQ
 | .str _=>PQ
 | .non=>PQ
 | .tup ds=>noLs ds
 |_=>PX
noncomputable def noLs:List D->Bool
 |[]=>PQ
 |d::ds=>noL d&&noLs ds
end
mutual
theorem wk{F b:Fx}(hF:∀c,b.A c->F.A c\/∃xs,H c=on (.lst xs)):∀(d:D) (v:V),noL d=PQ->Den K F H d v->Den K b H d v
 | .int i,v,_,h=>h
 | .bl i,v,_,h=>h
 | .str i,v,_,h=>h
 | .non,v,_,h=>h
 | .tup ds,v,n,h=>by
  obtain⟨a,xs,e,h1,f⟩:=h;refine⟨a,xs,e,?_,noLs_den hF ds xs (by simpa[noL]using n) f⟩;rcases h1 with⟨h1,r⟩|h1
  ·refine .inl ⟨λz=>?_,r⟩
   rcases hF a z with z|⟨ys,z⟩
   ·exact h1 z
   ·rcases r with r|⟨o,r⟩<;>rw[z]at r<;>cases r
  ·exact .inr h1
 | .lst _,_,n,_=>by simp[noL]at n
 | .scr _,_,n,_=>by simp[noL]at n
 | .ty _,_,n,_=>by simp[noL]at n
 | .txt,_,n,_=>by simp[noL]at n
 | .obj _ _ _,_,n,_=>by simp[noL]at n
 | .bag,_,n,_=>by simp[noL]at n
 | .adr _,_,n,_=>by simp[noL]at n
 | .dct _ _ _,_,n,_=>by simp[noL]at n
theorem noLs_den{F a:Fx}(hF:∀c,a.A c->F.A c\/∃xs,H c=on (.lst xs)):∀(ds:List D) (xs:List V),noLs ds=PQ->DenL K F H ds xs->DenL K a H ds xs
 |[],xs,_,h=>h
 |d::ds,xs,n,h=>by
  have b:noL d=PQ/\noLs ds=PQ:=by simpa[noLs]using n
  obtain⟨x,f,e,g,i⟩:=h;exact⟨x,f,e,wk hF d x b.1 g,noLs_den hF ds f b.2 i⟩
end
theorem RowL.noL{F b:Fx}{P d:PZ->Prop}(hF:∀c,b.A c->F.A c\/∃xs,H c=on (.lst xs)):∀{rows:List (List D)} {rs:List PZ},(∀ds∈rows,noLs ds=PQ)->RowL K F H P rows rs->(∀r∈rs,d r)->RowL K b H d rows rs
 |[],[],_,_,_=>trivial
 |ds::rows,r::rs,n,h,p=>by
  obtain⟨i,⟨xs,e,f⟩,g⟩:=h;exact⟨p r P3,⟨xs,e,noLs_den hF _ _ (n ds P3) f⟩,RowL.noL hF (λx a=>n x (PR _ a)) g λx a=>p x (PR _ a)⟩
 |[],_::_,_,h,_=>h.elim
 |_::_,[],_,h,_=>h.elim
theorem SOk.newGrd{δ:Ds}{W:St}(ok:SOk K H₀ B bg H δ β W)(t:To (FxB B bg) H H' β')(hn:∀ds∈rows,noLs ds=PQ)(hv:ib K (FxB B bg) H H' rows v):
  ∃X,SOk K H₀ X bg H' (δ.set i (on (.grd rows))) β' (W.set i (on v))/\Stp B H X H':=by
 classical
 obtain⟨a,rs,rfl,n0,L,nd,I⟩:=hv;have g:∀c,c=a\/c∈rs->H c=PM:=λc hc=>by
  rcases hc with rfl|hc
  ·exact n0
  ·exact(I.all c hc).1
 have hB:∀c,c=a\/c∈rs->B c=PM:=λc hc=>UF λz=>ok.fr.occ c z (g c hc);have Y:∀b l,bg=on (b,l)->¬(b=a\/b∈rs)/\¬(l=a\/l∈rs):=λb l e=>by
  obtain⟨b1,b2⟩:=ok.bgt b l e;exact⟨λz=>(by rw[hB b z]at b1;cases b1),λz=>(by rw[hB l z]at b2;cases b2)⟩
 obtain⟨m,Z⟩:=ok.to rfl t;have J:Stp B H (λc=>if c=a\/c∈rs then on (i+2)else B c) H':=by
  refine⟨Z.kp,λc hc=>?_,λc o h n=>?_,Z.al⟩
  ·have:¬(c=a\/c∈rs):=λz=>by rw[hB c z]at hc;rcases hc with hc|hc<;>cases hc
   simp only[P5 this]
  ·have:¬(c=a\/c∈rs):=λz=>by rw[g c z]at h;cases h
   simp only[P5 this];exact n
 have tr:Tr (FxB B bg) H (FxB (λc=>if c=a\/c∈rs then on (i+2)else B c) bg) H':=J.tr;refine⟨λc=>if c=a\/c∈rs then on (i+2)else B c,⟨⟨λc hc z=>?_,λb l e=>?_,m.fr.bag⟩,λb l e=>?_,by rw[Rc,Rc,ok.len],m.cov,λc k hc=>(by
  have f:(if c=a\/c∈rs then on (i+2)else B c)=on (k+2):=hc;by_cases z:c=a\/c∈rs
  ·cases w:H₀ c with
   |none=>rfl
   |some o=>exact Qx (g c z) (ok.cov c (by rw[w];simp))
  ·rw[P5 z]at f;exact ok.new c k f),λc k hc=>(by
  have f:(if c=a\/c∈rs then on (i+2)else B c)=on (k+2):=hc;by_cases z:c=a\/c∈rs
  ·rcases z with rfl|z
   ·exact⟨_,L⟩
   ·exact(I.all c z).2
  ·rw[P5 z]at f;exact m.lst c k f),λj s e=>?_⟩,J⟩
 ·by_cases q:c=a\/c∈rs
  ·rcases q with rfl|q
   ·rw[L]at z;cases z
   ·obtain⟨_,xs,w⟩:=I.all c q
    rw[w]at z;cases z
  ·have f:(if c=a\/c∈rs then on (i+2)else B c)≠PM:=hc
   rw[P5 q]at f;exact m.fr.occ c f z
 ·obtain⟨O,Q⟩:=Y b l e
  obtain⟨b1,b2⟩:=ok.bgt b l e;refine⟨?_,?_,(ok.fr.bgA b l e).2.2⟩
  ·show(if b=a\/b∈rs then on (i+2)else B b)≠PM
   rw[P5 O,b1];simp
  ·show(if l=a\/l∈rs then on (i+2)else B l)≠PM
   rw[P5 Q,b2];simp
 ·obtain⟨O,Q⟩:=Y b l e
  simp only[P5 O,P5 Q];exact ok.bgt b l e
 ·rw[Ro]at e
  rw[Ro];by_cases q:i=j
  ·subst q
   rw[P7 rfl]at e⊢;split at e
   ·rename_i hl
    cases e;rw[P7 (by rw[←ok.len];exact hl)];refine⟨_,rfl,a,rs,rfl,P7 (.inl rfl),L,nd,RowL.noL (F:=FxB B bg) (λc hc=>?_) hn I λr hr=>P7 (.inr hr)⟩;have f:(if c=a\/c∈rs then on (i+2)else B c)≠PM:=hc;by_cases w:c=a\/c∈rs
    ·rcases w with rfl|w
     ·exact .inr ⟨_,L⟩
     ·exact .inr (I.all c w).2
    ·rw[P5 w]at f
     exact .inl f
   ·cases e
  ·rw[P5 q]at e⊢
   obtain⟨w,R,u⟩:=ok.tell j s e;refine⟨w,R,?_⟩;cases s with
   |sh d=>exact Den.tr tr _ _ u
   |own cs=>
    obtain⟨c,ys,T,A,C,U⟩:=u;have N:¬(c=a\/c∈rs):=λz=>by rw[g c z]at C;cases C
    exact⟨c,ys,T,by simp only[P5 N];exact A,t.kp c _ C (λb l z=>⟨λy=>(by subst y;rw[(ok.bgt _ _ z).1]at A;cases A),λy=>(by subst y;rw[(ok.bgt _ _ z).2]at A;cases A)⟩),DenL.tr tr _ _ U⟩
   |grd rows2=>
    obtain⟨c,qs,T,A,C,U,e5⟩:=u;have N:∀c,H c≠PM->¬(c=a\/c∈rs):=λc hc z=>hc (g c z);have kk:∀c o,H c=on o->B c=on (j+2)->H' c=on o:=λc o R u=>t.kp c o R (λb l z=>⟨λy=>(by subst y;rw[(ok.bgt _ _ z).1]at u;cases u),λy=>(by subst y;rw[(ok.bgt _ _ z).2]at u;cases u)⟩);exact⟨c,qs,T,by simp only[P5 (N c (by rw[C];simp))];exact A,kk c _ C A,U,RowL.tr tr e5 λr xs _ p y=>⟨by simp only[P5 (N r (by rw[y];simp))];exact p,kk r _ y p⟩⟩
end
section
variable{X:Cx}{E:St->XK}{K:Qo}{st:Q9}{H₀:Hp}{B:Ow}{bg:Option (PZ×PZ)}{H H':Hp}{δ:Ds}{β β':Bg}{σ:St}
def uS(i:Nat)(f:Dn->M (List (List D))):G:=λδ β=>match f (vw δ) β with
 |some (.ok rows,β1)=>if(rows.all noLs)=PQ then on (.nx (δ.set i (on (.grd rows))),β1)else PM
 |some (.error C,β1)=>on (.ex C δ,β1)
 |none=>PM
theorem IB(h:PS X st (jU (tVG X.K f E) (fq i))):PS X st (tG X.K X.H₀ (uS i f) E):=h.imp λD σ H g=>by
 obtain⟨B,bg,δ,β,o,β',ok,e,q⟩:=g;refine⟨FxB B bg,vw δ,β,ok.fr,ok.view,?_⟩;unfold uS at e;split at e
 ·rename_i rows β1 b
  split at e
  ·rename_i hn
   cases e;refine⟨.ok rows,_,b,λv H' t hd=>?_⟩;obtain⟨j,a,c⟩:=ok.newGrd (i:=i) t (λds d=>Tz.mp hn ds d) hd;exact q _ _ _ c a
  ·cases e
 ·rename_i C β1 b
  cases e;refine⟨.error C,_,b,λH' t=>?_⟩;obtain⟨a,c⟩:=ok.to rfl t;exact q _ B H' c a
 ·cases e
theorem RowL.put{H:Hp}{P:PZ->Prop}(t:Tr F H F (upd H r (.lst xs)))(hd:DenL K F (upd H r (.lst xs)) ds xs):∀{rows:List (List D)} {rs:List PZ} (j:Nat),RowL K F H P rows rs->rs.Nodup->rs[j]?=on r->RowL K F (upd H r (.lst xs)) P (rows.set j ds) rs
 |d0::rows,r0::rs,0,h,nd,e=>by
  obtain rfl:r0=r:=by simpa using e
  have ne:∀a∈rs,a≠r0:=λa b z=>(QR.mp nd).1 (z▸b);exact⟨h.1,⟨xs,ao,hd⟩,RowL.tr t h.2.2 λa ys b p q=>⟨p,by rw[upd_ne (ne a b)];exact q⟩⟩
 |d0::rows,r0::rs,j+1,h,nd,e=>by
  have c:rs[j]?=on r:=by simpa using e
  obtain⟨d,⟨ys,f,g⟩,i⟩:=h;have ne:r0≠r:=λz=>(QR.mp nd).1 (z▸Qi c);exact⟨d,⟨ys,by rw[upd_ne ne];exact f,DenL.tr t _ _ g⟩,RowL.put t hd j i (QR.mp nd).2 c⟩
 |[],[],_,_,_,e=>by simp at e
 |[],_::_,_,h,_,_=>h.elim
 |_::_,[],_,h,_,_=>h.elim
theorem RowL.at{H:Hp}{P:PZ->Prop}:∀{rows:List (List D)} {rs:List PZ} {j:Nat} {ds:List D},RowL K F H P rows rs->rows[j]?=on ds->∃r xs,rs[j]?=on r/\P r/\H r=on (.lst xs)/\DenL K F H ds xs
 |d0::rows,r0::rs,0,ds,h,e=>by
  obtain rfl:d0=ds:=by simpa using e
  obtain⟨a,⟨ys,b,c⟩,g⟩:=h;exact⟨r0,ys,rfl,a,b,c⟩
 |d0::rows,r0::rs,j+1,ds,h,e=>by
  obtain⟨r,xs,d,f⟩:=RowL.at h.2.2 (j:=j) (ds:=ds) (by simpa using e);exact⟨r,xs,by simpa using d,f⟩
 |[],[],_,_,_,e=>by simp at e
 |[],_::_,_,_,h,_=>h.elim
 |_::_,[],_,_,h,_=>h.elim
theorem SOk.writeRow{rs:List PZ}{rows:List (List D)}(ok:SOk K H₀ B bg H δ β σ)(hs:σ[i]?=on (on (.ref a)))(hB:B a=on (i+2))(ha:H a=on (.lst (rs.map V.ref)))(nd:(a::rs).Nodup)(L:RowL K (FxB B bg) H (λr=>B r=on (i+2)) rows rs)(N:rs[j]?=on r)(U:H r=on (.lst ys))(hd:DenL K (FxB B bg) H ds xs):
  SOk K H₀ B bg (upd H r (.lst xs)) (δ.set i (on (.grd (rows.set j ds)))) β σ/\Stp B H B (upd H r (.lst xs)):=by
 have t:r∈rs:=Qi N;have f:B r=on (i+2):=(L.all r t).1;have m:Stp B H B (upd H r (.lst xs)):=by
  refine⟨λc o h n=>?_,λ_ _=>rfl,λ_ _ _ n=>n,λc u=>?_⟩
  ·rw[upd_ne]
   ·exact h
   ·intro z;subst z;rw[f]at n;rcases n with n|n<;>cases n
  ·by_cases z:c=r
   ·subst z;rw[ao];simp
   ·rw[upd_ne z];exact u
 have tr:Tr (FxB B bg) H (FxB B bg) (upd H r (.lst xs)):=m.tr;refine⟨⟨⟨λc u z=>?_,ok.fr.bgA,λb l e=>?_⟩,ok.bgt,by rw[Rc,ok.len],λa ha=>m.al a (ok.cov a ha),ok.new,λc k u=>(by
  by_cases z:c=r
  ·subst z;exact⟨xs,ao⟩
  ·rw[upd_ne z];exact ok.lst c k u),λk s e=>?_⟩,m⟩
 ·by_cases q:c=r
  ·subst q;rw[ao]at z;cases z
  ·rw[upd_ne q]at z;exact ok.fr.occ c u z
 ·obtain⟨b1,b2⟩:=ok.bgt b l e
  rw[upd_ne (λz=>by subst z;rw[f]at b1;cases b1),upd_ne (λz=>by subst z;rw[f]at b2;cases b2)];exact ok.fr.bag b l e
 ·rw[Ro]at e
  by_cases q:i=k
  ·subst q
   rw[P7 rfl]at e;split at e
   ·cases e
    have y:a≠r:=λz=>(QR.mp nd).1 (z▸t);exact⟨_,hs,a,rs,rfl,hB,by rw[upd_ne y];exact ha,nd,RowL.put tr (DenL.tr tr _ _ hd) j L (QR.mp nd).2 N⟩
   ·cases e
  ·rw[P5 q]at e
   obtain⟨v,Q,A⟩:=ok.tell k s e;refine⟨v,Q,?_⟩;have C:∀c,B c=on (k+2)->c≠r:=λc g z=>by subst z;rw[f]at g;cases g;exact q rfl
   cases s with
   |sh d=>exact Den.tr tr _ _ A
   |own cs=>
    obtain⟨c,O,F,g,I,J⟩:=A;exact⟨c,O,F,g,by rw[upd_ne (C c g)];exact I,DenL.tr tr _ _ J⟩
   |grd rows2=>
    obtain⟨c,R,F,g,I,J,T⟩:=A;exact⟨c,R,F,g,by rw[upd_ne (C c g)];exact I,J,RowL.tr tr T λr O _ p q=>⟨p,by rw[upd_ne (C r p)];exact q⟩⟩
def mG(f:Dn->M (List (List D))):G:=λδ β=>match f (vw δ) β with
 |some (.ok rows,β1)=>on (.rg rows,β1)
 |some (.error C,β1)=>on (.ex C δ,β1)
 |none=>PM
theorem Kt(h:PS X (.Return (on e) pos) (BS (tVG X.K f E))):PS X (.Return (on e) pos) (tG X.K X.H₀ (mG f) E):=h.imp λD σ H j=>by
 obtain⟨B,bg,δ,β,o,β',ok,e,q⟩:=j;refine⟨FxB B bg,vw δ,β,ok.fr,ok.view,?_⟩;unfold mG at e;split at e
 ·rename_i rows β1 d
  cases e;refine⟨.ok rows,_,d,λv H' t hd=>?_⟩;obtain⟨b,g⟩:=ok.to rfl t;have i:∀c,H c=PM->X.H₀ c=PM:=λc k=>by
   cases w:X.H₀ c with
   |none=>rfl
   |some o=>exact Qx k (ok.cov c (by rw[w];simp))
  obtain⟨a,rs,rfl,n0,l,nd,m⟩:=hd;exact q _ B H' g b.fr ⟨a,rs,rfl,i a n0,l,nd,RowL.tr (Tr.refl _ _) m λr xs _ p y=>⟨i r p,y⟩⟩
 ·rename_i C β1 d
  cases e;refine⟨.error C,_,d,λH' t=>?_⟩;obtain⟨b,g⟩:=ok.to rfl t;exact q _ B H' g b
 ·cases e
def spG(K:Qo)(n:Nat)(m:List D->M (List (List D))):Sp:=λvs H Q E=>vs.length=n/\∃F ds β,Fr F H β/\DenL K F H ds vs/\run (ib K F H) F (λ_=>E) [] (m ds) H Q β
def nS(n:Nat)(g:G):List D->M (List (List D)):=λds β=>match g (stD n ds) β with
 |some (.rg rows,β')=>on (.ok rows,β')
 |some (.ex C _,β')=>on (.error C,β')
 |_=>PM
variable{P:QG}{w:QT}{mg:QO->Option P0}{base:Rl}
theorem Lj{st:Q9}{N ps:List QO}(n m:Nat)(g:G)(F:FunD K x qual st f fd)(S:FnScope N ps (ag st))(L:ps.length=n)(O:N.length=m)
  (j:∀(c:P0) (A:Q7) (outer:List WY) (s:P6) (H:Hp) (E:XK),Room k (A.deeper (Uv qual (ag st) s.heap.objs.size f c))->
   PSs (f9 (CXE P w) P w K mg base N qual (ag st) f c A outer s H E) (cQ st) (tG K H g (λ_=>E))):FnOk P w K mg base (CXE P w) (k+1) f fd ps (spG K n (nS m g)):=by
 subst L O;refine F.okE S (λvs H Q E h=>h.1) λc A outer s H vs Q E hr h=>?_;obtain⟨hl,u,ds,β,fr,hd,r,β',e,h⟩:=h;refine⟨_,j c A outer s H E hr,?_⟩;obtain⟨B,ok,R,h1,hn⟩:=tM (N:=N) fr hd;have J:∀{I:Ow} {H':Hp},Stp B H I H'->Fr (FxB I u.bg) H' β'->To u H H' β'/\Tr (FxB I u.bg) H' u H':=λ{I H'} s i=>by
  have hs:∀a,u.A a->I a≠PM:=λa ha=>by
   rw[s.tg a (R a ha)];rcases R a ha with z|z<;>rw[z]<;>simp
  refine⟨⟨λa o ha n=>s.kp a o ha ?_,λa ha=>i.occ a (hs a ha),λb l e=>fr.bgA b l e,i.bag⟩,λa ha _ z=>ha (hs a z),λ_ _ _ h=>h,rfl⟩;cases q:B a with
  |none=>exact .inl rfl
  |some t=>
   have:=R a (hn a (by rw[q];simp));rcases this with z|z
   ·rw[q]at z;exact .inr z
   ·obtain⟨b,l,e,w⟩:=h1 a z
    obtain⟨T,n2⟩:=n b l e;rcases w with w|w
    ·exact Qx w T
    ·exact Qx w n2
 unfold nS at e;split at e
 ·rename_i d β1 U
  cases e;refine⟨B,u.bg,stD N.length ds,β,.rg d,β',ok,U,λv I H' s i hv=>?_⟩;obtain⟨W,t2⟩:=J s i;obtain⟨a,rs,ev,n0,T,nd,rl⟩:=hv;exact h v H' W ⟨a,rs,ev,n0,T,nd,RowL.tr t2 rl λr xs _ p y=>⟨p,y⟩⟩
 ·rename_i C Y β1 U
  cases e;refine⟨B,u.bg,stD N.length ds,β,.ex C Y,β',ok,U,λσ' I H' s Z=>?_⟩;obtain⟨W,t2⟩:=J s Z.fr;exact h H' W
 ·cases e
variable{e:Expr}{es:List Expr}{pos p:UE}{x:QO}{k n:Nat}{f:PZ}{fd:Qu}{ps:List QO}
def u5(m:List D->M (List (List D)))(g:FL):Dn->M (List (List D)):=λδ=>M.bind (g δ) λas=>m as
theorem ib.pre{K:Qo}{H b H':Hp}(t:To F H b β1)(h:ib K F b H' rows v):ib K F H H' rows v:=by
 obtain⟨a,rs,c,n0,d,nd,g⟩:=h;exact⟨a,rs,c,t.none n0,d,nd,RowL.tr (Tr.refl _ _) g λr xs _ p y=>⟨t.none p,y⟩⟩
theorem M6(G:FnOk X.prog X.w X.K X.mg X.base (CXE X.prog X.w) k f fd ps (spG X.K n m))(q:Room k X.A)(u:Gl X x)(hm:X.mg x=on (.ref f))(y:Vr X.K (.ref f)=PQ)(I:aC X.K fd ps [])(J:dE (CXE X.prog X.w) X E)
  (ha:PA X (e::es) (tVA X.K g E)) (hn:∀δ β r β',g δ β=on (.ok r,β')->r.length=n) (a:(x==("__debug__":QO))=PX:=by decide) (L:Qg (e::es) X.env=(PX,Rk e X.env)::Qg es X.env:=by rfl) (b:(SA pos (Qg es X.env)).any (·.1)=PX:=by rfl):
  PE X (.Call (.Name x p) (e::es) [] pos) (tVG X.K (u5 m g) E):=
 (nu G q u hm y I .nil J ha a L b).imp λσ H Q N=>ex6 N λF δ β fr O r=>⟨F,δ,β,fr,O,by
  obtain⟨r0,c,h,i⟩:=run.bind (R:=DenL X.K F) r;refine⟨r0,c,h,?_⟩;cases r0 with
  |error C=>exact i
  |ok ds=>
   intro vs T t hd;obtain⟨d',β1,j,d,r1⟩:=i vs T t hd;have U:=hn _ _ _ _ h;refine⟨by rw[QY,←hd.length,U],F,d',β1,j.fr,by rw[QY];exact d,?_⟩;obtain⟨l,β2,W,o⟩:=r1;refine⟨l,β2,W,?_⟩;cases l with
   |ok rows=>exact λv H' Y Z=>o v H' Y (ib.pre j Z)
   |error C=>exact o⟩
variable{elt target iter:Expr}{ifs:List Expr}{rest:List RO}{scope:Scope}{Nc vars:List QO}{caps:List Nat}{g:TG}{tb:PZ->TB}
theorem LW{x:QO}{a c:UE}(m:X.N.Nodup)(d:X.N[i]?=on x)(o:Loc X.env.scope x)(q:X.calm=PQ)(S:CmpScope X scope Nc vars caps)(r:PI X target iter (iV X.K it E))
  (t:∀(cl:List (QO×PZ)) (C:PZ) (l:List PZ) (s:P6) (H:Hp),PG (aG X Nc scope cl C l s H) target g/\dR (aG X Nc scope cl C l s H) ifs (tVT X.K tt E0)/\∀D,PB (aG X Nc scope cl C l s H) elt (⟨target,iter,ifs,0⟩::rest) scope pos 0 D (tb D))
  (u:cR X.K g tg) (v:dP tg) (y:∀D,qu X.K D (tb D) b)
  (j:UL (.ListComp elt (⟨target,iter,ifs,0⟩::rest) scope pos) (on (.Name x a)) c.line X.env=SB PQ:=by rfl)
  (hs:∀x,QX iter X.env x=SB x:=by intro _;rfl) (A:X.fn x=PQ\/X.env.scope.names.lookup x=on .local:=by first|exact .inl rfl|exact .inr rfl|assumption):
  PS X (.Assign [.Name x a] (.ListComp elt (⟨target,iter,ifs,0⟩::rest) scope pos) c) (tG X.K X.H₀ (uS i (jt vars.length caps it tg tt b)) E):=
 IB ((v8 m d o q S r t j hs A).imp λD σ H h=>rm u v y h)
end
end L2.Pu
namespace L2
open PySem PySem.Spec PyProof.Rows
section
variable{X:Cx}
theorem EM{bs:List Bool}{its:List P0}(r:ax (bs.map V.bl) its){i:Nat}{v:P0}(h:its.toArray[i]?=on v):v= .bool (bs.getD i PX):=by
 have h':its[i]?=on v:=by simpa using h
 have a:=r.length;rw[PL]at a;have b:i<bs.length:=by rw[a];exact(P4.mp h').1
 obtain⟨u,c,d⟩:=r.get (i:=i) (x:=V.bl bs[i]) (by rw[PY,PP b];rfl);rw[h']at c;cases c;rw[PV,PP b];exact d
theorem y6{α:Type}(f:Bool->Bool)(bs:List Bool):(Qb bs.length).map (λi=>bs.getD i PX)=bs:=by
 apply Za;intro i;rw[PY];by_cases h:i<bs.length
 ·rw[Rt h,PP h]
  simp[PV,PP h]
 ·rw[Uq (by simpa using h),Uq (by omega)];rfl
theorem y7(bs:List Bool):((Qb bs.length).any λi=>bs.getD i PX)=bs.any id:=by
 conv=>rhs;rw[←y6 (α:=Bool) id bs]
 rw[List.any_map];rfl
theorem jQ(l:X.calm=PQ):dF X (.builtin "any") (λxs H Q=>∃(a:PZ) (bs:List Bool),xs=[.ref a]/\SqL X.K H a (bs.map V.bl)/\Q (.bl (bs.any id)) H):=by
 intro j s B H xs us Q I r h;obtain⟨a,bs,rfl,m,q⟩:=h;cases r with
 |cons r1 n=>
  cases r1;cases n;obtain⟨its,k,p,C⟩:=I.list m;have f:=p.isList;have c:its.toArray.size=bs.length:=by rw[Qn,←k.length,PL]
  have d:∀b o,s.heap.get? b=on o->b≠s.heap.objs.size:=λb o e z=>by
   rw[z,Yh (P9 _)]at e;cases e
  have g:a≠s.heap.objs.size:=by
   obtain⟨o,e,_⟩:=f;exact d a o e
  have W:=Walks.list (prog:=X.prog) (w:=X.w) (A:=X.A.in1) (show X.A.in1.handled=PM from I.ok.hd l) s.heap.objs.size a g its.toArray;refine call_any_walk (VE f ⟨s.heap.objs.size,[s.heap.objs.size,a],[s.heap.objs.size],its.toArray.size,_,_,λi=>bs.getD i PX,rfl,W,⟨⟨_,Qk s.heap rfl,rfl,rfl⟩,f.push _⟩,λi v s' F J t u=>?_,λh' L y=>?_⟩)
  ·rw[EM k t]
   exact Rj u
  ·rw[c,y7]
   exact⟨.bl (bs.any id),H,I.kept λb o e=>y b o (λz=>d b o e (by simpa using z)) (PU _ e),rfl,q⟩
end
end L2
namespace L2.Pu
open PySem PySem.Spec PyProof.Rows
noncomputable def d9:List D->Option (List Bool)
 |[]=>on []
 | .bl b::r=>(d9 r).map (b::·)
 |_=>PM
theorem ou{K:Qo}:∀{ds:List D} {xs:List V} {bs:List Bool},d9 ds=on bs->DenL K F H ds xs->xs=bs.map V.bl
 |[],xs,bs,e,h=>by
  cases e;cases h;rfl
 |d::ds,xs,bs,e,h=>by
  obtain⟨x,f,rfl,a,c⟩:=h;cases d<;>first
   |(rename_i b
     cases q:d9 ds with
     |none=>simp[d9,q]at e
     |some r=>
     simp[d9,q]at e;subst e;cases a.bl;rw[ou q c];rfl)
   |simp[d9]at e
def ya:List D->Option D
 |[.lst ds]=>(d9 ds).map λbs=> .bl (bs.any id)
 |_=>PM
variable{K:Qo}
theorem sM:eL K (λxs H Q=>∃(a:PZ) (bs:List Bool),xs=[.ref a]/\SqL K H a (bs.map V.bl)/\Q (.bl (bs.any id)) H) ya:=λF H β Q ds d vs fr h e k=>by
 unfold ya at e;split at e
 ·obtain⟨v,rfl,g⟩:=DenL.one h
  obtain⟨a,xs,rfl,r,dl⟩:=Den.sqL g;obtain⟨bs,q,e⟩:=Vw.mp e;subst e;rw[ou q dl]at r;exact⟨a,bs,rfl,r,k _ H (To.refl fr) rfl⟩
 ·cases e
end L2.Pu
namespace L2
open PySem PySem.Spec PyProof.Rows
section
variable{X:Cx}{a b c d:Expr}{ta tb tc td:TE}{pos:UE}
def OK(i e:R2)(tc td:TE)(y:V):TE:=λf H Q=>tc f H λw j=>i y w j λk g=>∃h,k= .bl h/\(if h=PQ then td f g λl m=>e w l m Q else Q (.bl PX) g)
def vP(r h e:R2)(ta tb tc td:TE):TE:=λf H Q=>ta f H λx i=>tb f i λy j=>r x y j λz g=>∃k,z= .bl k/\(if k=PQ then OK h e tc td y f g Q else Q (.bl PX) g)
theorem zb(J:OpR X (Rg op) r)(l:OpR X (Rg op') r')(i:OpR X (Rg op'') r'')(ha:PE X a ta)(L:PE X b tb)(N:PE X c tc)(hd:PE X d td)
  (hm:Y4 [op,op',op''] [b,c,d]=PX:=by with_unfolding_all rfl):PT X (.Compare a [op,op',op''] [b,c,d] pos) (wX (vP r r' r'' ta tb tc td)):=by
 intro f s g H Q I h;refine isTrue_chain (thn (ha f s g H _ I h) λv O ⟨x,R,T,r1,q1⟩=>test_link (thn (L f O g R _ T q1) λu U ⟨y,W,Y,o,q2⟩=>
  thn (J f U g W x y v u _ Y r1 o q2) λZ s3 ⟨z,p,q,r3,k,e,q3⟩=>?_)) hm
 subst e;cases r3;refine Rj ?_;cases k with
 |false=>
  obtain⟨m,j,n⟩:=q3;cases j;exact ite_ff ⟨p,q,n⟩
 |true=>
  refine ite_tt (test_link (thn (N f s3 g p _ q q3) λt s4 ⟨A,H4,I4,B,q4⟩=>thn (l f s4 g H4 y A u t _ I4 o B q4) λZ s5 ⟨z',C,F,r5,m,j,q5⟩=>?_));subst j;cases r5;refine Rj ?_;cases m with
  |false=>
   obtain⟨m,j,n⟩:=q5;cases j;exact ite_ff ⟨C,F,n⟩
  |true=>
   refine ite_tt (test_last (thn (hd f s5 g C _ F q5) λw' s6 ⟨z2,H6,I6,r6,q6⟩=>thn (i f s6 g H6 A z2 t w' _ I6 B r6 q6) λd' s7 ⟨z3,H7,I7,r7,k3,e3,q7⟩=>?_));subst e3;cases r7;exact Rj ⟨H7,I7,q7⟩
end
end L2
namespace L2.Pu
open PySem PySem.Spec PyProof.Rows
section
variable{X:Cx}{E:St->XK}{a b c d:Expr}{pos:UE}{K:Qo}
def JA(f e:D->D->Option D)(h i:FD)(y:D):FD:=λδ=>M.bind (h δ) λw=>M.bind (M.ofO (f y w)) λz=>M.bind (M.ofO (asB z)) λc=>if c=PQ then M.bind (i δ) (λg=>M.ofO (e w g))else M.ret (.bl PX)
def nQ(o j e:D->D->Option D)(f g h i:FD):FD:=λδ=>M.bind (f δ) λa=>M.bind (g δ) λb=>M.bind (M.ofO (o a b)) λz=>M.bind (M.ofO (asB z)) λc=>if c=PQ then JA j e h i b δ else M.ret (.bl PX)
theorem run.later{α i:Type}{R:Hp->α->i->Prop}{F:Fx}{j:St}{m:M α}{H k:Hp}{Q:i->Hp->Prop}{β:Bg}(t:To F H k β)(h:run R F E j m H Q β):run R F E j m k Q β:=by
 obtain⟨l,f,e,q⟩:=h;refine⟨l,f,e,?_⟩;cases l with
 |ok d=>exact λv g tt=>q v g (t.trans tt)
 |error C=>exact λg tt=>q g (t.trans tt)
theorem w4(l:bh K r o)(l':bh K r' o')(O:bh K r'' o'')(T:tV K (nQ o o' o'' f g h i) E σ H Q):vP r r' r'' (tV K f E) (tV K g E) (tV K h E) (tV K i E) σ H Q:=by
 obtain⟨F,δ,β,fr,U,T⟩:=T;refine⟨F,δ,β,fr,U,(run.bind (R:=Den K F) T).mono λv H1 n=>ex5 n λd β1 t hd r1=>⟨F,δ,β1,t.fr,U.tr (t.tr fr),(run.bind (R:=Den K F) r1).mono λv2 H2 n=>ex5 n λd2 β2 p u r2=>?_⟩⟩;obtain⟨z,ez,r3⟩:=run.ofO_bind r2;obtain⟨c,ec,L⟩:=run.ofO_bind r3;rw[jw ec]at ez;have W:=U.tr ((t.tr fr).trans (p.tr t.fr));refine l F H2 β2 _ d d2 _ v v2 p.fr (Den.tr (p.tr t.fr) _ _ hd) u ez λvz H3 j hz=>⟨c,hz,?_⟩;cases c with
 |true=>
  rw[P7 rfl]at L;have Y:=Den.tr (j.tr p.fr) _ _ u;have y:=W.tr (j.tr p.fr);have r5:=run.later j L;refine⟨F,δ,β2,j.fr,y,(run.bind (R:=Den K F) r5).mono λw H4 n=>ex5 n λdw A B C r6=>?_⟩;obtain⟨z',I,r7⟩:=run.ofO_bind r6;obtain⟨c',Z,N⟩:=run.ofO_bind r7;rw[jw Z]at I;refine l' F H4 A _ d2 dw _ v2 w B.fr (Den.tr (B.tr j.fr) _ _ Y) C I λvz' H5 m hz'=>⟨c',hz',?_⟩;cases c' with
  |true=>
   rw[P7 rfl]at N;refine⟨F,δ,A,m.fr,y.tr ((B.tr j.fr).trans (m.tr B.fr)),(run.bind (R:=Den K F) (run.later m N)).mono λw' H6 ⟨dw',β6,t6,J,r9⟩=>?_⟩;obtain⟨d3,e3,k⟩:=run.ofO r9;exact O F H6 β6 Q dw dw' d3 w w' t6.fr (Den.tr ((m.tr B.fr).trans (t6.tr m.fr)) _ _ C) J e3 k
  |false=>
   rw[P5 P8]at N;obtain⟨rr,β',e,q⟩:=N;cases e;exact q _ H5 m rfl
 |false=>
  rw[P5 P8]at L;obtain⟨rr,β',e,q⟩:=L;cases e;exact q _ H3 j rfl
theorem BR(m:OpR X (Rg op) r)(j:OpR X (Rg op') r')(e:OpR X (Rg op'') r'')(l:bh X.K r o)(n:bh X.K r' o')(k:bh X.K r'' o'')(ha:PE X a (tV X.K f E))(p:PE X b (tV X.K g E))(t:PE X c (tV X.K h E))(hd:PE X d (tV X.K i E))(hm:Y4 [op,op',op''] [b,c,d]=PX:=by with_unfolding_all rfl):
  PT X (.Compare a [op,op',op''] [b,c,d] pos) (tVT X.K (fB (nQ o o' o'' f g h i)) E):=(zb m j e ha p t hd hm).imp λu H Q q=>w4 l n k (ow q)
variable{st:Q9}{H₀:Hp}{B:Ow}{bg:Option (PZ×PZ)}{H H':Hp}{δ:Ds}{β β':Bg}{σ:St}
theorem SOk.AtoB(ok:SOk K H₀ B bg H δ β σ):∀c,(FxB B bg).A c->(FxA B bg).A c\/∃xs,H c=on (.lst xs):=λc f=>by
 have e:B c≠PM:=f;cases q:B c with
 |none=>exact Qx q e
 |some k=>
  match k,q with
  |0,q=>exact .inl (.inl q)
  |1,q=>exact .inl (.inr q)
  |k+2,q=>exact .inr (ok.lst c k q)
theorem SOk.noB{d:D}(ok:SOk K H₀ B bg H δ β σ)(hn:noL d=PQ)(h:Den K (FxA B bg) H d v):Den K (FxB B bg) H d v:=wk ok.AtoB d v hn h
def qe(i:Nat)(e f g:FD):G:=λδ β=>match g (vwA δ) β with
 |some (.ok d,β1)=>match e (vwA δ) β1 with
  |some (.ok (.int ka),β2)=>match f (vwA δ) β2 with
   |some (.ok (.int kb),β3)=>match δ.getD i PM with
    |some (.grd rows)=>match ixN rows.length ka with
     |some ja=>match rows[ja]? with
      |some ds=>match ixN ds.length kb with
       |some jb=>if noL d=PQ then on (.nx (δ.set i (on (.grd (rows.set ja (ds.set jb d))))),β3)else PM
       |none=>PM
      |none=>PM
     |none=>PM
    |_=>PM
   |_=>PM
  |_=>PM
 |_=>PM
theorem ud(h:PS X st (jU (tV X.K fv E) (M8 (tOp (xj X.K) (qA i) (tV X.K fa E)) (tV X.K fb E) IE))):PS X st (tG X.K X.H₀ (qe i fa fb fv) E):=h.imp λD σ H h_=>by
 obtain⟨B,bg,δ,β,o,β',ok,e,q⟩:=h_;refine⟨FxA B bg,vwA δ,β,ok.frA,ok.viewA,?_⟩;unfold qe at e;split at e
 ·rename_i d β1 e1
  refine⟨.ok d,_,e1,λv H1 t1 hd=>?_⟩;obtain⟨f,s1⟩:=ok.to rfl t1;split at e
  ·rename_i ka β2 e2
   split at e
   ·rename_i kb β3 e3
    split at e
    ·rename_i rows Q
     split at e
     ·rename_i ja ea
      split at e
      ·rename_i ds er
       split at e
       ·rename_i jb eb
        split at e
        ·rename_i R
         cases e;have hd:=f.noB R hd;obtain⟨w,N,a,rs,rfl,hB,ha,nd,rl⟩:=f.tell i _ (getD_some Q);refine⟨_,N,FxA B bg,vwA δ,β1,f.frA,f.viewA,.ok (.int ka),β2,e2,λy H2 t2 hy=>?_⟩;cases hy;obtain⟨j,s2⟩:=f.to (F:=FxA B bg) rfl t2;obtain⟨w2,h2,a2,g,ew,k,m,nd2,n⟩:=j.tell i _ (getD_some Q);rw[N]at h2;cases h2;cases ew;obtain⟨r,xs,T,hp,hx,dl⟩:=n.at er;refine⟨a,g.map V.ref,ka,.ref r,rfl,rfl,SqL.of m,?_,?_⟩
         ·unfold atI
          rw[PL,←n.len,ea];show(g.map V.ref)[ja]?=_;rw[PY,T];rfl
         ·refine⟨FxA B bg,vwA δ,β2,j.frA,j.viewA,.ok (.int kb),_,e3,λz H3 t3 hz=>?_⟩
          cases hz;obtain⟨p,s3⟩:=j.to (F:=FxA B bg) rfl t3;obtain⟨w3,h3,a3,t,U,W,u,Y,A⟩:=p.tell i _ (getD_some Q);rw[N]at h3;cases h3;cases U;have Z:g=t:=by
           have O:H3 a=on (.lst (g.map V.ref)):=t3.kp a _ m (λb l y=>⟨λw=>(by subst w;rw[(ok.bgt _ _ y).1]at k;cases k),λw=>(by subst w;rw[(ok.bgt _ _ y).2]at k;cases k)⟩);rw[u]at O;have k2:t.map V.ref=g.map V.ref:=by injection O with O;injection O
           exact(Wc (λa b q=>by cases q;rfl)|>.mp k2).symm
          subst Z;obtain⟨r',C,I,hp',J,L⟩:=A.at er;rw[T]at I;cases I;have hv3:Den X.K (FxB B bg) H3 d v:=Den.tr (s3.tr) _ _ (Den.tr (s2.tr) _ _ hd);refine⟨r,C,kb,jb,rfl,rfl,J,by rw[←L.length];exact eb,?_⟩;obtain⟨ok4,s4⟩:=p.writeRow (ds:=ds.set jb d) (xs:=C.set jb v) N W u Y A T J (DenL.set jb L hv3);exact q _ _ _ (s1.trans (s2.trans (s3.trans s4))) ok4
        ·cases e
       ·cases e
      ·cases e
     ·cases e
    ·cases e
   ·cases e
  ·cases e
 ·cases e
variable{e:Expr}{es:List Expr}
def o2(op:D->D->Option (List D))(f g:FD):FL:=λδ=>M.bind (f δ) λa=>M.bind (g δ) λb=>M.ofO (op a b)
noncomputable def Ite(K:Qo)(l:PZ):It:=
 ⟨λi H=>∃xs x,SqL K H l xs/\xs[i]?=on x,
  λi H v H'=>∃p x,H p=PM/\v= .ref p/\H'=upd H p (.tup [.int (i:Int),x])/\∀xs,SqL K H l xs->xs[i]?=on x,
  λi H=>∃xs,SqL K H l xs/\xs.length=i⟩
theorem yt{P:QG}{w:QT}{K:Qo}{x1}{pos:UE}(l e it:PZ)(t:e≠it):
  Turn P w K (.Tuple elts x1 pos) (Ite K l) [e,it] e (λi h=>(∃f,IsEnum h e it (i:Int) f)/\h.IsListIter it l i) where
 mem:=by simp
 obj:=λi h st b j=>by
  obtain⟨⟨f,m⟩,p⟩:=st;simp only[Qh,Rv,Uo]at j;rcases j with rfl|rfl
  ·exact⟨_,m,λv q=>by cases q⟩
  ·obtain⟨o,q,_,d⟩:=p
   exact⟨o,q,λv z=>by rw[d]at z;cases z⟩
 keep:=λi h h' st k=>by
  obtain⟨⟨f,m⟩,p⟩:=st;exact⟨⟨f,k e (by simp) _ m⟩,p.at λo q=>k it (by simp) o q⟩
 item:=by
  intro X L N O Q i r s σ H E I y st R;subst L N O;obtain⟨xs,x,q1,T⟩:=R;obtain⟨⟨f,m⟩,p⟩:=st;obtain⟨g,r1,U⟩:=Inv.src (b:=PQ) I q1;have hd:=I.ok.hd Q;have ne:l≠e:=Inv.src_ne (b:=PQ) I q1 (y e (by simp));have W:l≠it:=Inv.src_ne (b:=PQ) I q1 (y it (by simp));have k1:i<g.toArray.size:=by
   rw[Qn,←r1.length];exact(P4.mp T).1
  refine wpAny_pyNext_enum_itemD (Yr (show(X.A.in1).handled=PM from hd) it l W g.toArray) m ⟨p,U⟩ k1 t (by simp[t,ne.symm]) λu h' Y pu fo f1 fT sz kp=>?_;refine⟨_,rfl,wpAny_letOwnedTupleGo_enum (s:={s with heap:=h',toks:=Y+1}) fo λC F J=>?_⟩
  replace J:QI e h' C:=J
  have zT:s.heap.objs.size≠e:=S9 (Qz m);obtain⟨u',Z,ru⟩:=r1.get T;have eu:u=u':=by
   have:g[i]?=on u:=by simpa using pu
   rw[this]at Z;exact QB Z
  subst eu;have kk:∀b o,b∉[e,it]->s.heap.get? b=on o->C.get? b=on o:=λb o j q=>by
   simp only[Qh,Rv,Uo,not_or]at j;exact J.extBut b o j.1 (kp b o j.1 j.2 q)
  have I2:Inv X r σ (upd H s.heap.objs.size (.tup [.int (i:Int),x])) {s with heap:=C,toks:=Y+1}:=by
   refine Inv.turnNew I y kk (P9 _) ⟨by show 2<=Qp;decide,[.int i Y,u],.cons ⟨_,rfl⟩ (.cons ru .nil),_,J.extBut _ _ zT fT,rfl,_,rfl⟩
  refine⟨.ref s.heap.objs.size,_,I2,rfl,⟨s.heap.objs.size,x,I.hok.fresh (P9 _),rfl,rfl,λas h1=>by rw[Inv.src_inj (b:=PQ) I h1 q1];exact T⟩,⟨⟨_,by simpa using F⟩,?_⟩,λb j=>?_⟩
  ·exact f1.1.at λo q=>J.extBut _ _ t.symm q
  ·rw[upd_ne]
   ·exact(y b j).1
   ·intro q
    have ol:∃o,s.heap.get? b=on o:=by
     simp only[Qh,Rv,Uo]at j;rcases j with rfl|rfl
     ·exact⟨_,m⟩
     ·obtain⟨o,z,_⟩:=p;exact⟨o,z⟩
    obtain⟨o,z⟩:=ol;exact Qx (Qz z) (by rw[q];exact Q0 _)
 done:=by
  intro X L N O Q i r s σ H E I y st R;subst L N O;obtain⟨xs,q1,hl⟩:=R;obtain⟨⟨f,m⟩,p⟩:=st;obtain⟨g,r1,U⟩:=Inv.src (b:=PQ) I q1;have hd:=I.ok.hd Q;have W:l≠it:=Inv.src_ne (b:=PQ) I q1 (y it (by simp));have g1:g.toArray.size=i:=by rw[Qn,←r1.length,hl]
  refine wpAny_pyNext_enum_endD (n:=g.toArray.size) (Yr (show(X.A.in1).handled=PM from hd) it l W g.toArray) m (by rw[g1];exact⟨p,U⟩) λh' kp=>⟨rfl,?_⟩;refine Inv.turnL (t':=s.toks) I y λb o j q=>?_;simp only[Qh,Rv,Uo,not_or]at j;exact kp b o j.2 q
 self:=λ_ _ _ _ _ st h=>by
  obtain⟨⟨f,m⟩,p⟩:=st;exact wpAny_pyIter_enum m h
def iEn(K:Qo)(g:TA):TI:=λσ H R=>g σ H λvs f=>∃l xs,vs=[.ref l]/\SqL K f l xs/\R (Ite K l) f
theorem KD{a:Expr}{p pos:UE}{x1}(o:Gl X "enumerate")(hm:X.mg "enumerate"=PM)(ha:PA X [a] ta)(hs:Qg [a] X.env=[(PX,Rk a X.env)]:=by rfl):
  PI X (.Tuple elts x1 tpos) (.Call (.Name "enumerate" p) [a] [] pos) (iEn X.K ta):=by
 intro f s σ H R I h;refine Call_ (gm I o hm PyProof.Rows.Boot.«enumerate» (RA (thn (ha pos f s σ H _ I h) λus g ⟨vs,k,j,r1,q1⟩=>?_) (by rw[hs];rfl) (by rfl)));obtain⟨l,xs,e,q1,q⟩:=q1;subst e;cases r1 with
 |cons r t=>
  cases t;cases r;obtain⟨u,C,v⟩:=Inv.src (b:=PQ) j q1;refine call_enumerate_list v λh' m y sz kp=>?_;refine wpAny_pyIter_enum (s:={g with heap:=h'}) m ?_;have A:Inv X f σ k {g with heap:=h'}:=j.kept (t':=g.toks) kp;refine⟨_,[g.heap.objs.size+1,g.heap.objs.size],_,Ite X.K l,k,rfl,A,yt l (g.heap.objs.size+1) g.heap.objs.size (Nat.succ_ne_self _),⟨⟨_,m⟩,y⟩,λc n=>?_,q⟩;have i:g.heap.objs.size<=c:=by
   simp only[Qh,Rv,Uo]at n;rcases n with rfl|rfl
   ·exact TL _ _
   ·exact P9 _
  exact j.fpOk i (j.hok.fresh i)
noncomputable def cP:Nat->List D->List D
 |_,[]=>[]
 |n,x::xs=> .tup [.int (n:Int),x]::cP (n+1) xs
theorem jP:∀(n:Nat) (xs:List D),(cP n xs).length=xs.length
 |_,[]=>rfl
 |n,x::xs=>by
  show(cP (n+1) xs).length+1=xs.length+1;rw[jP (n+1) xs]
theorem mI:∀{n:Nat} {xs:List D} {i:Nat} {d:D},(cP n xs)[i]?=on d->∃x,xs[i]?=on x/\d= .tup [.int ((n+i:Nat):Int),x]
 |n,[],i,d,h=>by simp[cP]at h
 |n,x::xs,0,d,h=>by
  simp[cP]at h;exact⟨x,rfl,by rw[←h];simp⟩
 |n,x::xs,i+1,d,h=>by
  have h':(cP (n+1) xs)[i]?=on d:=by simpa[cP]using h
  obtain⟨a,f,g⟩:=mI h';exact⟨a,by simpa using f,by rw[g,show n+1+i=n+(i+1) by omega]⟩
def JC:List D->Option (List D)
 |[.lst xs]=>on (cP 0 xs)
 |_=>PM
theorem DU{H:Hp}(o:∀g f,Tr F H g f->∃xs,SqL K f l xs/\DenL K g f ds xs):ItD K (Ite K l) F H (cP 0 ds):=λg f β2 t fr i=>by
 obtain⟨xs,h,d1⟩:=o g f t;refine⟨λd hd=>?_,λj=>?_⟩
 ·obtain⟨x,q,rfl⟩:=mI hd
  obtain⟨u,k,du⟩:=d1.get q;refine⟨⟨xs,u,h,k⟩,λz y r=>?_⟩;obtain⟨p,A,m,rfl,rfl,v⟩:=r;have n:=v xs h;rw[k]at n;cases n;rw[QS];exact⟨bQ.upd m,Den.newT fr m (DenL.cons rfl (DenL.cons du DenL.nil))⟩
 ·rw[jP]at j
  exact⟨xs,h,by rw[←d1.length,j]⟩
def IL(g:FL):FL:=dC JC g
theorem kK{a:Expr}{p pos:UE}{x1}(q:Gl X "enumerate")(hm:X.mg "enumerate"=PM)(ha:PA X [a] (tVA X.K g E))(hs:Qg [a] X.env=[(PX,Rk a X.env)]:=by rfl):
  PI X (.Tuple elts x1 tpos) (.Call (.Name "enumerate" p) [a] [] pos) (iV X.K (IL g) E):=
 (KD q hm ha hs).imp λσ H R j=>ex6 j λF δ β fr r h=>⟨F,δ,β,fr,r,(run.bind (R:=DenL X.K F) h).mono λvs f j=>by
  obtain⟨ds,β1,t,hd,r1⟩:=j;obtain⟨l,e,k⟩:=run.ofO r1;unfold JC at e;split at e
  ·rename_i xs
   cases e;obtain⟨v,rfl,o⟩:=DenL.one hd;have z:∃a,v= .ref a/\∀m i,Tr F f m i->∃ys,SqL X.K i a ys/\DenL X.K m i xs ys:=by
    obtain⟨a,ys,rfl,_⟩:=Den.sqL o;refine⟨a,rfl,λm i u=>?_⟩;obtain⟨C,n,y,sq,dl⟩:=Den.sqL (Den.tr u _ _ o);cases y;exact⟨n,sq,dl⟩
   obtain⟨a,rfl,z⟩:=z;obtain⟨us,A,_⟩:=z F f (Tr.refl F f);exact⟨a,us,rfl,A,k _ f (To.refl t.fr) (DU z)⟩
  ·cases e⟩
def bP(K:Qo)(g:Qu)(ps:List QO)(h:List D):Prop:=∃ds f,aC K g ps ds/\ax f ds/\∀F H,DenL K F H h f
inductive Sr (α:Type) where
 |kw (j:Nat)|df (a:α)
noncomputable def Sr.pick{α:Type}(z:α)(f:List α):Sr α->α
 | .kw j=>f.getD j z
 | .df a=>a
def gK{α:Type}(z:α)(n k:Nat)(src:List (Sr α))(us f:List α):List α:=if us.length=n/\f.length=k then us++src.map (Sr.pick z f)else[]
inductive SrR {α γ:Type} (R:α->γ->Prop):List (Sr α)->List (Sr γ)->Prop where
 |nil:SrR R [] []
 |kw {j:Nat} {a:List (Sr α)} {c:List (Sr γ)}:SrR R a c->SrR R (.kw j::a) (.kw j::c)
 |df {x:α} {y:γ} {a:List (Sr α)} {c:List (Sr γ)}:R x y->SrR R a c->SrR R (.df x::a) (.df y::c)
theorem ax.getD:∀{f:List V} {g:List P0} (j:Nat),ax f g->aN (f.getD j .non) (g.getD j .none)
 |_,_,_,.nil=>rfl
 |_,_,0,.cons r _=>r
 |_,_,j+1,.cons _ t=>ax.getD j t
theorem SrR.vals(r:ax zs ws):∀{a:List (Sr V)} {c:List (Sr P0)},SrR aN a c->ax (a.map (Sr.pick .non zs)) (c.map (Sr.pick .none ws))
 |_,_,.nil=> .nil
 |_,_,.kw (j:=j) h=> .cons (ax.getD j r) (SrR.vals r h)
 |_,_,.df q h=> .cons q (SrR.vals r h)
theorem DenL.getD{K:Qo}{H:Hp}:∀{ds:List D} {f:List V} (j:Nat),DenL K F H ds f->Den K F H (ds.getD j .non) (f.getD j .non)
 |[],f,j,h=>by have q:f=[]:=h;subst q;rfl
 |d::ds,f,0,h=>by
  obtain⟨x,r,e,g,i⟩:=h;subst e;exact g
 |d::ds,f,j+1,h=>by
  obtain⟨x,r,e,g,i⟩:=h;subst e;exact DenL.getD j i
theorem SrR.den{K:Qo}{H:Hp}(r:DenL K F H ds zs):∀{a:List (Sr D)} {c:List (Sr V)},SrR (λd v=>∀F H,Den K F H d v) a c->DenL K F H (a.map (Sr.pick .non ds)) (c.map (Sr.pick .non zs))
 |_,_,.nil=>DenL.nil
 |_,_,.kw (j:=j) h=>DenL.cons (DenL.getD j r) (SrR.den r h)
 |_,_,.df q h=>DenL.cons (q F H) (SrR.den r h)
theorem SrR.len{α f:Type}{R:α->f->Prop}:∀{a:List (Sr α)} {c:List (Sr f)},SrR R a c->a.length=c.length
 |_,_,.nil=>rfl
 |_,_,.kw h=>by rw[Qe,Qe,SrR.len h]
 |_,_,.df _ h=>by rw[Qe,Qe,SrR.len h]
structure KwOk (K:Qo) (fd:Qu) (ps ks:List QO) (n:Nat) (src:List (Sr D)):Prop where
 ex:∃(sv:List (Sr P0)) (sx:List (Sr V)),SrR aN sx sv/\SrR (λd v=>∀F H,Den K F H d v) src sx/\∀(s:P6) (us ws:List P0),K.In s.heap->us.length=n->ws.length=ks.length->Wo s fd ⟨us,ks.zip ws⟩ (ps.zip (us++sv.map (Sr.pick .none ws)))
 len:ps.length=n+src.length
 pos:0<ps.length
theorem KwOk.kb{K:Qo}{ps ks:List QO}(h:KwOk K fd ps ks n src):∃(sv:List (Sr P0)) (f:List (Sr V)),SrR (λd v=>∀F H,Den K F H d v) src f/\KBinds K fd ps ks (gK .none n ks.length sv) (gK .non n ks.length f):=by
 obtain⟨sv,f,r1,l,b⟩:=h.ex;refine⟨sv,f,l,λs us k m g=>?_,λ{vs us o k} i j=>?_⟩
 ·unfold gK at g⊢
  split at g
  ·rename_i q
   rw[P7 q];exact b s us k m q.1 q.2
  ·exact Qx g (by have:=h.pos;simp;omega)
 ·unfold gK
  by_cases q:vs.length=n/\o.length=ks.length
  ·rw[P7 q,P7 (by rw[←i.length,←j.length];exact q)]
   exact i.append (SrR.vals j r1)
  ·rw[P5 q,P5 (by rw[←i.length,←j.length];exact q)]
   exact .nil
variable{p kpos:UE}{x:QO}{k n:Nat}{f:PZ}{fd:Qu}{ps ks:List QO}{kws:List VA}{nm:Option QO}
def Nd(m:List D->M D)(g:FL)(h:List D):FD:=λδ=>M.bind (g δ) λas=>m (as++h)
theorem JS{h:List D}(G:FnOk X.prog X.w X.K X.mg X.base (CXE X.prog X.w) k f fd ps (spF X.K n m))(y:Room k X.A)(I:Gl X x)(hm:X.mg x=on (.ref f))(J:Vr X.K (.ref f)=PQ)(L:bP X.K fd ps h)(N:dE (CXE X.prog X.w) X E)
  (ha:PA X (e::es) (tVA X.K g E)) (hn:∀δ β r β',g δ β=on (.ok r,β')->r.length+h.length=n) (i:(x==("__debug__":QO))=PX:=by decide) (O:Qg (e::es) X.env=(PX,Rk e X.env)::Qg es X.env:=by rfl) (j:(SA pos (Qg es X.env)).any (·.1)=PX:=by rfl):
  PE X (.Call (.Name x p) (e::es) [] pos) (tV X.K (Nd m g h) E):=by
 obtain⟨ds,T,b,U,rd⟩:=L;refine(nu G y I hm J b U N ha i O j).imp λσ H Q W=>ex6 W λF δ β fr Y r=>⟨F,δ,β,fr,Y,?_⟩;obtain⟨r0,l,u,v⟩:=run.bind (R:=DenL X.K F) r;refine⟨r0,l,u,?_⟩;cases r0 with
 |error C=>exact v
 |ok as=>
  intro vs o t hd;obtain⟨d',β1,Z,q,r1⟩:=v vs o t hd;have hl:=hn _ _ _ _ u;have hz:=(rd F o).length;refine⟨by rw[Qm,←hd.length,←hz,hl],F,d'++h,β1,Z.fr,DenL.append q (rd F o),run.toE r1⟩
theorem Lx:PK X [] (tVA X.K aD E):=λpos g s σ H Q I h=>by obtain⟨F,δ,β,fr,i,r⟩:=h;exact Me pos g s σ H Q I (run.ret fr r DenL.nil)
theorem JO{f:FD}(ha:PE X e (tV X.K f E))(m:PK X kws (tVA X.K g E)):PK X (⟨nm,e,kpos⟩::kws) (tVA X.K (ae f g) E):=λpos h s σ H Q I ⟨F,δ,β,fr,j,r⟩=>
 KA ha m pos h s σ H Q I ⟨F,δ,β,fr,j,(run.bind (R:=Den X.K F) r).mono λv u ⟨d,β1,t,hd,r1⟩=>
  ⟨F,δ,β1,t.fr,j.tr (t.tr fr),(run.bind (R:=DenL X.K F) r1).mono λvs y o=>ex5 o λds β2 l i q=>run.ret l.fr q (DenL.cons (Den.tr (l.tr t.fr) _ _ hd) i)⟩⟩
def Gw(g:G)(δ:Ds)(β:Bg)(Q:Out->Bg->Prop):Prop:=∃o β',g δ β=on (o,β')/\Q o β'
end
section
variable{g h a b g1 g2:G}{δ δ1:Ds}{β β1 β2 β3:Bg}{Q R:Out->Bg->Prop}{i:Nat}{f fa fb fv:FD}{fl:FL}{fg:Dn->M (List (List D))}{d x y z:D}{ds as:List D}{t:Dn->M Bool}{c:Bool}{C:PZ}{K:Qo}
theorem Gw.mono(k:Gw g δ β R)(q:∀o β,R o β->Q o β):Gw g δ β Q:=let ⟨o,β',e,r⟩:=k;⟨o,β',e,q _ _ r⟩
theorem Kq:aY g gNil=g:=by
 funext δ β;unfold aY gNil;split
 ·rename_i δ1 β1 e;exact e.symm
 ·rfl
theorem ak(k:Gw (aY g gNil) δ β Q):Gw g δ β Q:=by rw[Kq]at k;exact k
theorem aZ(q:Q (.nx δ) β):Gw gNil δ β Q:=⟨_,_,rfl,q⟩
theorem fQ(e:g δ β=on (.nx δ1,β1))(k:Gw h δ1 β1 Q):Gw (aY g h) δ β Q:=by
 obtain⟨o,j,l,q⟩:=k;exact⟨o,j,by unfold aY;rw[e];exact l,q⟩
theorem vI(k:Gw (aY a (aY b h)) δ β Q):Gw (aY (aY a b) h) δ β Q:=by
 obtain⟨o,j,l,q⟩:=k;refine⟨o,j,?_,q⟩;rw[←l];unfold aY;split<;>rename_i e<;>(split at e<;>simp_all)
theorem bj(k:Gw h δ β Q):Gw (aY gNil h) δ β Q:=fQ rfl k
theorem aB(e:f (vw δ) β=on (.ok d,β1))(k:Gw h (δ.set i (on (.sh d))) β1 Q):Gw (aY (lH i f) h) δ β Q:=fQ (by unfold lH;rw[e]) k
theorem j5(e:f (vwA δ) β=on (.ok d,β1))(k:Gw h δ β1 Q):Gw (aY (qf f) h) δ β Q:=fQ (by unfold qf;rw[e]) k
theorem jT(e:t (vwA δ) β=on (.ok c,β1))(k:Gw (aY (if c=PQ then g1 else g2) h) δ β1 Q):Gw (aY (gIf t g1 g2) h) δ β Q:=by
 obtain⟨o,j,l,q⟩:=k;refine⟨o,j,?_,q⟩;rw[←l];unfold aY gIf;rw[e];cases c<;>rfl
theorem cI(e:t (vwA δ) β=on (.ok PX,β1))(k:Gw (aY g2 h) δ β1 Q):Gw (aY (gIf t g1 g2) h) δ β Q:=jT e k
theorem aK(e:f (vwA δ) β=on (.ok d,β1))(q:Q (.rt d) β1):Gw (aY (jr f) h) δ β Q:=⟨_,_,by unfold aY jr;rw[e],q⟩
theorem JN(e:fg (vw δ) β=on (.ok rows,β1))(q:Q (.rg rows) β1):Gw (aY (mG fg) h) δ β Q:=⟨_,_,by unfold aY mG;rw[e],q⟩
theorem HL{rows:List (List D)}(e:fg (vw δ) β=on (.ok rows,β1))(hn:rows.all noLs=PQ)(k:Gw h (δ.set i (on (.grd rows))) β1 Q):Gw (aY (uS i fg) h) δ β Q:=fQ (by unfold uS;simp only[e,hn,Q4]) k
theorem HK{rows:List (List D)}(e:fv (vwA δ) β=on (.ok d,β1))(j:fa (vwA δ) β1=on (.ok (.int ka),β2))(l:fb (vwA δ) β2=on (.ok (.int kb),β3))(m:δ.getD i PM=on (.grd rows))
  (n:ixN rows.length ka=on ja) (o:rows[ja]?=on ds) (p:ixN ds.length kb=on jb) (hn:noL d=PQ) (k:Gw h (δ.set i (on (.grd (rows.set ja (ds.set jb d))))) β3 Q):Gw (aY (qe i fa fb fv) h) δ β Q:=
 fQ (by unfold qe;simp only[e,j,l,m,n,o,p,hn,Q4]) k
theorem m5(e:fl (vw δ) β=on (.ok ds,β1))(j:ds.length<=Qp)(k:Gw h (δ.set i (on (.own ds))) β1 Q):Gw (aY (uR i fl) h) δ β Q:=fQ (by unfold uR;simp only[e,j,Q4]) k
theorem m6{cs:List D}(j:δ.getD i PM=on (.own cs))(e:fl (vw δ) β=on (.ok [d],β1))(l:cs.length<Qp)(k:Gw h (δ.set i (on (.own (cs++[d])))) β1 Q):Gw (aY (uU i fl) h) δ β Q:=
 fQ (by unfold uU;simp only[j,e,l,Q4]) k
theorem kU(e:f (vw δ) β=on (.ok d,β1))(j:tg d δ=on δ1)(k:Gw h δ1 β1 Q):Gw (aY (xR f tg) h) δ β Q:=fQ (by unfold xR;simp only[e,j,RX]) k
def Tn(I:Ds->Bg->Prop)(h:G)(Q:Out->Bg->Prop):Out->Bg->Prop:=λo β=>match o with
 | .nx δ=>I δ β
 | .ct δ=>I δ β
 | .bk δ=>Gw h δ β Q
 |o=>Q o β
theorem bC(e:it (vw δ) β=on (.ok ds,β1))(u:Nat->Ds->Bg->Prop)(N:u 0 δ β1)(step:∀i d δ β,ds[i]?=on d->u i δ β->∃δ1,tg d δ=on δ1/\Gw g δ1 β (Tn (u (i+1)) h Q))(k:∀δ β,u ds.length δ β->Gw h δ β Q):
  Gw (aY (uT it tg g) h) δ β Q:=by
 have gen:∀(es:List D) (j:Nat) (δ:Ds) (β:Bg),es=ds.drop j->j+es.length=ds.length->u j δ β->Gw (aY (gLp tg g es) h) δ β Q:=by
  intro es
  induction es with
  |nil=>
   intro j δ β _ B F;simp at B;exact fQ (g:=gLp tg g []) rfl (k δ β (B▸F))
  |cons d es ih=>
   intro j δ β L B F;have O:ds[j]?=on d:=by
    have:=Rh (λl=>l[0]?) L;simpa[YR]using this.symm
   obtain⟨δ1,v,o,β2,A,q⟩:=step j d δ β O F;have H:es=ds.drop (j+1):=by
    have:=Rh List.tail L;simpa[List.tail_drop]using this
   have go:∀m,u (j+1) m β2->Gw (aY (gLp tg g es) h) m β2 Q:=λm I=>ih (j+1) m β2 H (by simp at B;omega) I;have n:∀{r:G} {m:Ds},Gw (aY r h) m β2 Q->gLp tg g (d::es) δ β=r m β2->Gw (aY (gLp tg g (d::es)) h) δ β Q:=λ{r m} ⟨T,p,J,U⟩ W=>⟨T,p,by rw[←J];unfold aY;rw[W],U⟩;cases o with
   |nx m=>exact n (r:=gLp tg g es) (go m q) (by rw[gLp];simp only[v,A])
   |ct m=>exact n (r:=gLp tg g es) (go m q) (by rw[gLp];simp only[v,A])
   |bk m=>exact n (r:=gNil) (bj q) (by rw[gLp];simp only[v,A];rfl)
   |rt d'=>exact⟨_,β2,by unfold aY;rw[gLp];simp only[v,A],q⟩
   |rg d'=>exact⟨_,β2,by unfold aY;rw[gLp];simp only[v,A],q⟩
   |ex C m=>exact⟨_,β2,by unfold aY;rw[gLp];simp only[v,A],q⟩
 obtain⟨o,p,J,q⟩:=gen ds 0 δ β1 (by simp) (by simp) N;refine⟨o,p,?_,q⟩;rw[←J];unfold aY uT;rw[e]
theorem ju{S:Except PZ D->Bg->Prop}(k:Gw g (stD n ds) β (λo j=>match o with| .rt d=>S (.ok d) j| .nx _=>S (.ok .non) j| .ex C _=>S (.error C) j|_=>False)):∃r j,gu n g ds β=on (r,j)/\S r j:=by
 obtain⟨o,j,e,q⟩:=k;cases o with
 |rt d=>exact⟨.ok d,j,by unfold gu;rw[e],q⟩
 |nx δ=>exact⟨.ok .non,j,by unfold gu;rw[e],q⟩
 |ex C δ=>exact⟨.error C,j,by unfold gu;rw[e],q⟩
 |_=>exact q.elim
theorem Lp{S:List (List D)->Bg->Prop}(k:Gw g (stD n ds) β (λo j=>match o with| .rg d=>S d j|_=>False)):∃r j,nS n g ds β=on (.ok r,j)/\S r j:=by
 obtain⟨o,j,e,q⟩:=k;cases o with
 |rg d=>exact⟨d,j,by unfold nS;rw[e],q⟩
 |_=>exact q.elim
theorem aI(k:Gw g (stD n ds) β (λo j=>j=β/\(match o with| .rt d=>r= .ok d| .nx _=>r= .ok .non| .ex C _=>r= .error C|_=>False))):gu n g ds β=on (r,β):=by
 obtain⟨l,j,e,q1,q2⟩:=ju (S:=λl j=>j=β/\r=l) (n:=n) (ds:=ds) (β:=β) (k.mono λo j h=>by
  cases o<;>first|exact h|exact h.2)
 subst q1 q2;exact e
theorem Lq(k:Gw g (stD n ds) β (λo j=>j=β/\(match o with| .rg d=>r=d|_=>False))):nS n g ds β=on (.ok r,β):=by
 obtain⟨l,j,e,q1,q2⟩:=Lp (S:=λl j=>j=β/\r=l) (n:=n) (ds:=ds) (β:=β) (k.mono λo j h=>by
  cases o<;>first|exact h|exact h.2)
 subst q1 q2;exact e
theorem af{δ:Dn}(e:fl δ β=on (.ok as,β1))(j:m as β1=on r):eK m fl δ β=on r:=by unfold eK M.bind;rw[e];exact j
theorem JK{δ:Dn}(e:fl δ β=on (.ok as,β1))(j:m as β1=on r):u5 m fl δ β=on r:=by unfold u5 M.bind;rw[e];exact j
theorem x_2{δ:Dn}(e:fa δ β=on (.ok x,β1))(j:fb δ β1=on (.ok y,β2))(k:op x y=on z):f2 op fa fb δ β=on (.ok z,β2):=by unfold f2 M.bind;rw[e];simp only[j,M.ofO,k]
theorem x_1{δ:Dn}(e:fa δ β=on (.ok x,β1))(j:op x=on z):f1 op fa δ β=on (.ok z,β1):=by unfold f1 M.bind;rw[e];simp only[M.ofO,j]
theorem ai{δ:Dn}(e:fl δ β=on (.ok as,β1))(j:op as=on z):aL op fl δ β=on (.ok z,β1):=by unfold aL M.bind;rw[e];simp only[M.ofO,j]
theorem aa{δ:Dn}(e:fa δ β=on (.ok x,β1))(j:fl δ β1=on (.ok as,β2)):ae fa fl δ β=on (.ok (x::as),β2):=by unfold ae M.bind;rw[e];simp only[j,M.ret]
theorem bx{δ:Dn}(e:fl δ β=on (.ok as,β1))(j:op as=on ds):dC op fl δ β=on (.ok ds,β1):=by unfold dC M.bind;rw[e];simp only[j,M.ofO]
theorem cr{δ:Dn}(e:fa δ β=on (.ok x,β1))(j:fU x=on ds):eC fa δ β=on (.ok ds,β1):=by unfold eC M.bind;rw[e];simp only[j,M.ofO]
theorem x_B{δ:Dn}(e:fa δ β=on (.ok (.bl c),β1)):fB fa δ β=on (.ok c,β1):=by unfold fB M.bind;rw[e];rfl
theorem fN{δ:Dn}(e:fa δ β=on (.ok x,β1))(j:BP x=on c):u4 fa δ β=on (.ok c,β1):=by unfold u4 M.bind;rw[e];simp only[M.ofO,j]
theorem fP{δ:Dn}(e:t δ β=on (.ok c,β1)):xY t δ β=on (.ok (!c),β1):=by unfold xY M.bind;rw[e];rfl
theorem bE(ok:β.ok)(k:0<lot)(l:lot<1073741824):∃v e,iR [.bag,.int lot] β=on (.ok (.int v),e)/\0<=v/\v<lot/\e.ok:=by
 obtain⟨m,a1,j⟩:=v6 ok k;exact⟨_,_,DE ok k l,m,a1,j⟩
theorem mD{n:Nat}{k:Int}(e:0<=k)(j:k<n):ixN n k=on k.toNat:=by unfold ixN;rw[P7 e,P7 j]
theorem zV{k:Int}{d:D}(e:0<=k)(h:xs[k.toNat]?=on d):ixD (.lst xs) (.int k)=on d:=by
 have j:k.toNat<xs.length:=(P4.mp h).1;show atI xs k=on d;unfold atI;rw[mD e (by omega)];exact h
theorem mC{x y:D}:ixD (.tup [x,y]) (.int 0)=on x:=rfl
theorem mz{x y:D}:ixD (.tup [x,y]) (.int 1)=on y:=rfl
end
section
variable{β β1 β2:Bg}{f g h i:FD}{t u:Dn->M Bool}{δ:Dn}{c e:Bool}{x y z w:Int}{d:D}
theorem eD(a:t δ β=on (.ok PX,β1))(b:u δ β1=on (.ok e,β2)):qU t u δ β=on (.ok e,β2):=by
 unfold qU M.bind;rw[a];simp[b]
theorem vG(a:f δ β=on (.ok (.bl PQ),β1))(b:g δ β1=on (.ok d,β2)):oQ f g δ β=on (.ok d,β2):=by
 unfold oQ M.bind;rw[a];simp[asB,M.ofO,b]
theorem JJ(a:f δ β=on (.ok (.bl PX),β1)):oQ f g δ β=on (.ok (.bl PX),β1):=by
 unfold oQ M.bind;rw[a];simp[asB,M.ofO,M.ret]
theorem JI(a:f δ β=on (.ok (.bl c),β))(b:g δ β=on (.ok (.bl e),β)):oQ f g δ β=on (.ok (.bl (c&&e)),β):=by
 cases c
 ·exact JJ a
 ·exact vG a b
theorem le_int:leD (.int x) (.int y)=on (.bl (decide (x<=y))):=rfl
theorem lt_int:ltD (.int x) (.int y)=on (.bl (decide (x<y))):=rfl
theorem gt_int:gtD (.int x) (.int y)=on (.bl (decide (y<x))):=rfl
theorem ge_int:geD (.int x) (.int y)=on (.bl (decide (y<=x))):=rfl
theorem vH(a:f δ β=on (.ok (.int x),β))(b:g δ β=on (.ok (.int y),β))(j:h δ β=on (.ok (.int z),β)):kO leD leD f g h δ β=on (.ok (.bl (decide (x<=y)&&decide (y<=z))),β):=by
 unfold kO M.bind;rw[a];simp only[b,le_int,M.ofO,asB];by_cases q:x<=y
 ·simp only[q,decide_true,Q4,j,le_int,TY]
 ·simp only[q,YG,Ql,Q6,M.ret,Uf]
theorem BJ(a:f δ β=on (.ok (.int x),β))(b:g δ β=on (.ok (.int y),β))(j:h δ β=on (.ok (.int z),β))(k:i δ β=on (.ok (.int w),β)):nQ leD leD leD f g h i δ β=on (.ok (.bl (decide (x<=y)&&decide (y<=z)&&decide (z<=w))),β):=by
 unfold nQ JA M.bind;rw[a];simp only[b,le_int,M.ofO,asB];by_cases q:x<=y
 ·simp only[q,decide_true,Q4,j,le_int,TY]
  by_cases q2:y<=z
  ·simp only[q2,decide_true,Q4,k,le_int,TY]
  ·simp only[q2,YG,Ql,Q6,M.ret,Uf]
 ·simp only[q,YG,Ql,Q6,M.ret,Uf]
theorem OE{g h:G}{δ:Ds}{β:Bg}(P:Ds->Bg->Prop)(a:Gw g δ β (λo β1=>∃δ1,o= .nx δ1/\P δ1 β1))(b:∀δ1 β1,P δ1 β1->Gw h δ1 β1 Q):Gw (aY g h) δ β Q:=by
 obtain⟨o,β1,e,δ1,rfl,p⟩:=a;exact fQ e (b δ1 β1 p)
theorem ym{δ:Ds}{β:Bg}{P:Ds->Bg->Prop}(p:P δ β):Gw gNil δ β (λo β1=>∃δ1,o= .nx δ1/\P δ1 β1):=aZ ⟨_,rfl,p⟩
noncomputable abbrev gI(rows:LI):List (List D):=rows.map λr=>r.map D.int
noncomputable abbrev lG(rows:List (List D)):D:= .lst (rows.map D.lst)
abbrev gridD(rows:LI):D:=lG (gI rows)
noncomputable def pD(p:Int×Int):D:= .tup [.int p.1,.int p.2]
abbrev gP(b:LP):List (List D):=b.map λr=>r.map pD
abbrev da(b:LP):D:=lG (gP b)
def Shp{α:Type}(r c:Nat)(m:List (List α)):Prop:=m.length=r/\∀row∈m,row.length=c
noncomputable def tot(rows:LI):Int:=(rows.map Rp).sum
theorem bu(h:n<=1000):n<=Qp:=Qs h (by decide)
theorem rL:∀r:List Int,noLs (r.map D.int)=PQ
 |[]=>rfl
 |x::r=>by
  show(noL (.int x)&&noLs (r.map D.int))=PQ;rw[rL r];rfl
theorem pP:∀r:List (Int×Int),noLs (r.map pD)=PQ
 |[]=>rfl
 |x::r=>by
  show(noL (pD x)&&noLs (r.map pD))=PQ;rw[pP r];rfl
theorem MD(b:LP):(gP b).all noLs=PQ:=by
 rw[Tz];intro x a;obtain⟨r,_,rfl⟩:=Qc.mp a;exact pP r
theorem Shp.map{α a:Type}{f:α->a}{r c:Nat}{m:List (List α)}(h:Shp r c m):Shp r c (m.map λx=>x.map f):=⟨by rw[PL,h.1],λrow b=>by
 obtain⟨x,j,rfl⟩:=Qc.mp b;rw[PL];exact h.2 x j⟩
theorem Shp.set{α:Type}{r c i j:Nat}{m:List (List α)}{row:List α}{v:α}(h:Shp r c m)(b:m[i]?=on row):Shp r c (m.set i (row.set j v)):=⟨by rw[Rc,h.1],λx a=>by
 rcases R7 a with a|rfl
 ·exact h.2 x a
 ·rw[Rc];exact h.2 row (Qi b)⟩
theorem Shp.at{α:Type}{r c i:Nat}{m:List (List α)}(h:Shp r c m)(b:i<r):∃row,m[i]?=on row/\row.length=c:=by
 have a:i<m.length:=by rw[h.1];exact b
 exact⟨m[i],PP a,h.2 _ (QP a)⟩
theorem JE{α:Type}{l:List α}{i:Nat}(h:i<l.length):∃x,l[i]?=on x:=⟨l[i],PP h⟩
theorem j7:∀{xs:List Int} {j:Nat} {x v:Int},xs[j]?=on x->(xs.set j v).sum=xs.sum-x+v
 |[],j,x,v,h=>by simp at h
 |y::xs,0,x,v,h=>by
  simp at h;subst h;simp only[List.set_cons_zero,Qw];omega
 |y::xs,j+1,x,v,h=>by
  have h':xs[j]?=on x:=by simpa using h
  simp only[List.set_cons_succ,Qw,j7 h'];omega
theorem JU{rows:LI}{i j:Nat}{row:List Int}{x v:Int}(a:rows[i]?=on row)(b:row[j]?=on x):tot (rows.set i (row.set j v))=tot rows-x+v:=by
 unfold tot;rw[UN,j7 (x:=row.sum) (by rw[PY,a];rfl),j7 b];omega
theorem ME{rows:LI}{i j:Nat}{row:List Int}(h:∀r∈rows,∀x∈r,0<=x)(k:rows[i]?=on row)(l:0<=v):∀r∈rows.set i (row.set j v),∀x∈r,0<=x:=λr a x b=>by
 rcases R7 a with a|rfl
 ·exact h r a x b
 ·rcases R7 b with b|rfl
  ·exact h row (Qi k) x b
  ·exact l
theorem lY:∀{xs:List Int},(∀x∈xs,0<=x)->0<=xs.sum
 |[],_=>by simp
 |y::xs,h=>by
  have:=lY (xs:=xs) λx a=>h x (PR _ a);have:=h y P3;simp only[Qw];omega
theorem uH:∀{xs:List Int},(∀x∈xs,0<=x)->∀x∈xs,x<=xs.sum
 |[],_,x,hx=>by cases hx
 |y::xs,h,x,hx=>by
  have:=lY (xs:=xs) λx hx=>h x (PR _ hx);have:=h y P3;rcases Qh.mp hx with rfl|hx
  ·simp only[Qw];omega
  ·have:=uH (xs:=xs) (λx hx=>h x (PR _ hx)) x hx
   simp only[Qw];omega
theorem MP(h:∀r∈rows,∀x∈r,0<=x):∀r∈rows,∀x∈r,x<=tot rows:=λr a x b=>by
 have k:=uH (h r a) x b;have l:=uH (xs:=rows.map Rp) (λs hs=>by
  obtain⟨q,j,rfl⟩:=Qc.mp hs;exact lY (h q j)) r.sum (Qc.mpr ⟨r,a,rfl⟩)
 unfold tot;omega
structure Tab (r c:Nat) (rows:LI):Prop where
 shp:Shp r c rows
 nn:∀row∈rows,∀x∈row,0<=x
 tot:tot rows<=40
 r0:1<=r
 r1:r<=4
 c0:1<=c
 c1:c<=6
theorem eY(ns:List Int):iE [.lst (ns.map D.int)]=on (.int ns.sum):=by
 show((eV (ns.map D.int)).map λl=>D.int l.sum)=_;have:∀ns:List Int,eV (ns.map D.int)=on ns:=λns=>by
  induction ns with
  |nil=>rfl
  |cons n ns ih=>simp[eV,ih]
 rw[this];rfl
theorem rg1{n:Int}(a:0<=n)(h:n<=10^9):gA [.int n]=on (bf 0 n.toNat):=by
 have q:(decide (-(2^62)<=n)&&decide (n<2^62))=PQ:=by
  simp only[QJ,QU];omega
 show(if(decide (-(2^62)<=n)&&decide (n<2^62))=PQ then on (bf 0 n.toNat)else PM)=_;rw[P7 q]
theorem sI{d:D}(h:(bf 0 n)[k]?=on d):k<n/\d= .int (k:Int):=by
 unfold bf at h;have a:k<n:=by
  have:=(P4.mp h).1;simpa using this
 rw[PY,Rt a]at h;exact⟨a,by cases h;simp⟩
theorem mh(n:Nat):(bf 0 n).length=n:=by simp[bf]
theorem bt{α:Type}{f:FD}{δ:Dn}{β:Bg}(xs:List α)(u v:α->D)(a:it δ β=on (.ok (xs.map u),β))
  (b:∀x∈xs,∃δ1,tg (u x) (cSt nv caps δ)=on δ1/\f δ1 β=on (.ok (v x),β)) (j:xs.length<=Qp):dJ nv caps it tg (λ_=>M.ret PQ) (cEm f) δ β=on (.ok (.lst (xs.map v)),β):=by
 refine qW a ?_ (by rw[PL];exact j);have gen:∀xs:List α,(∀x∈xs,∃δ1,tg (u x) (cSt nv caps δ)=on δ1/\f δ1 β=on (.ok (v x),β))->cLp tg (λ_=>M.ret PQ) (cEm f) (xs.map u) (cSt nv caps δ) β=on (.ok (xs.map v),β):=by
  intro xs
  induction xs with
  |nil=>intro _;rfl
  |cons x xs ih=>
   intro h;obtain⟨δ1,k,l⟩:=h x P3;have m:=ih λy n=>h y (PR _ n);rw[Qf,cLp];simp only[k,M.bind,M.ret,reduceIte,cEm,l,m,Qf,TD,SJ]
 exact gen xs b
theorem rY{α:Type}{f:FL}{δ:Dn}{β:Bg}(xs:List α)(u:α->D)(v:α->List D)(a:it δ β=on (.ok (xs.map u),β))
  (b:∀x∈xs,∃δ1,tg (u x) (cSt nv caps δ)=on δ1/\f δ1 β=on (.ok (v x),β)) (j:xs.length<=Qp):jt nv caps it tg (λ_=>M.ret PQ) (vn f) δ β=on (.ok (xs.map v),β):=by
 have gen:∀xs:List α,(∀x∈xs,∃δ1,tg (u x) (cSt nv caps δ)=on δ1/\f δ1 β=on (.ok (v x),β))->oX tg (λ_=>M.ret PQ) (vn f) (xs.map u) (cSt nv caps δ) β=on (.ok (xs.map v),β):=by
  intro xs
  induction xs with
  |nil=>intro _;rfl
  |cons x xs ih=>
   intro h;obtain⟨δ1,k,l⟩:=h x P3;have m:=ih λy n=>h y (PR _ n);rw[Qf,oX];simp only[k,M.bind,M.ret,reduceIte,vn,l,m,Qf,TD,SJ]
 unfold jt;simp only[a,gen xs b,PL,j,Q4]
theorem AL{α:Type}{f:FD}{δ:Dn}{β:Bg}(xs:List α)(u:α->D)(v:α->D)(a:it δ β=on (.ok (xs.map u),β))
  (b:∀x∈xs,∃δ1,tg (u x) (cSt nv caps δ)=on δ1/\f δ1 β=on (.ok (v x),β)) (j:xs.length<=Qp):hX nv caps it tg (λ_=>M.ret PQ) (cEm f) δ β=on (.ok (xs.map v),β):=by
 have gen:∀xs:List α,(∀x∈xs,∃δ1,tg (u x) (cSt nv caps δ)=on δ1/\f δ1 β=on (.ok (v x),β))->cLp tg (λ_=>M.ret PQ) (cEm f) (xs.map u) (cSt nv caps δ) β=on (.ok (xs.map v),β):=by
  intro xs
  induction xs with
  |nil=>intro _;rfl
  |cons x xs ih=>
   intro h;obtain⟨δ1,k,l⟩:=h x P3;have m:=ih λy n=>h y (PR _ n);rw[Qf,cLp];simp only[k,M.bind,M.ret,reduceIte,cEm,l,m,Qf,TD,SJ]
 unfold hX;simp only[a,gen xs b,PL,j,Q4]
theorem L6{ds:List D}{c:Nat}(a:ds.length<=Qp)(b:ds.length*c<=Qp)(j:c<=1000000):uh ds (.int (c:Int))=on (Qr c ds).flatten:=by
 have q:(decide (-(2^63)<=(c:Int))&&decide ((c:Int)<2^63)&&decide (ds.length<=Qp)&&decide (ds.length*(c:Int).toNat<=Qp))=PQ:=by
  simp only[QJ,QU];exact⟨⟨⟨by omega,by omega⟩,a⟩,by rw[Ry];exact b⟩
 unfold uh;simp only[q,Q4];rw[Ry]
theorem uY{α:Type}(x:α):∀c:Nat,(Qr c [x]).flatten=Qr c x
 |0=>rfl
 |c+1=>by rw[RF,SM,uY x c];rfl
theorem O3{f:FD}{g:FD}{x:D}{c:Nat}{δ:Dn}{β:Bg}(b:f δ β=on (.ok x,β))(j:g δ β=on (.ok (.int (c:Int)),β))(k:c<=1000):CT (ae f aD) g δ β=on (.ok (Qr c x),β):=by
 have a:[x].length<=Qp:=by rw[Ri];decide
 have l:[x].length*c<=Qp:=by rw[Ri,Yz];exact bu k
 have r:=L6 (ds:=[x]) (c:=c) a l (by omega);rw[uY]at r;have s:szL [x]=on [x]:=by
  unfold szL;rw[P7 a]
 have m:ae f aD δ β=on (.ok [x],β):=aa b rfl;unfold CT;rw[M.bind_ok m,s,M.bind_some,M.bind_ok j,r];rfl
theorem AW(bs:List Bool):d9 (bs.map D.bl)=on bs:=by
 induction bs with
 |nil=>rfl
 |cons b bs ih=>simp[d9,ih]
theorem any_map{α:Type}(xs:List α)(p:α->Bool):ya [.lst (xs.map λx=>D.bl (p x))]=on (.bl (xs.any p)):=by
 show(d9 _).map _=_;rw[show(xs.map λx=>D.bl (p x))=(xs.map p).map D.bl by rw[Qa];rfl,AW];simp only[RX,List.any_map];rfl
theorem jN{α:Type}(r:Nat)(x:α):(Qb r).map (λ_=>x)=Qr r x:=by rw[List.map_const',QC]
theorem cE{xs:List D}(h:xs.length=r):eU [.lst xs]=on (.int (r:Int)):=by subst h;rfl
theorem uG{rows:List (List D)}(h:rows.length=r):eU [lG rows]=on (.int (r:Int)):=cE (by rw[PL,h])
theorem sO{rows:List (List D)}{k:Nat}{row:List D}(h:rows[k]?=on row):ixD (lG rows) (.int (k:Int))=on (.lst row):=zV (by omega) (by rw[Ry,PY,h];rfl)
theorem cm{xs:List D}{k:Nat}{d:D}(h:xs[k]?=on d):ixD (.lst xs) (.int (k:Int))=on d:=zV (by omega) (by rw[Ry];exact h)
theorem eP{x y:D}:fX [x,y]=on (.tup [x,y]):=by
 unfold fX;rw[P7 (show[x,y].length<=Qp by rw[Qe,Ri];decide)]
theorem lst0:dZ []=on (.lst []):=by
 unfold dZ;rw[P7 (show([]:List D).length<=Qp by rw[WQ];decide)]
theorem xC{x:D}:dZ [x]=on (.lst [x]):=by
 unfold dZ;rw[P7 (show[x].length<=Qp by rw[Ri];decide)]
theorem DA{x y:Int}:uA [.int x,.int y]=on (.int (US x y)):=by
 unfold uA;simp only;congr 2;split<;>omega
theorem ML{x y:Int}:xx [.int x,.int y]=on (.int (Y5 x y)):=by
 unfold xx;simp only;congr 2;split<;>omega
theorem eq_int{x y:Int}:jZ (.int x) (.int y)=on (.bl (decide (x=y))):=by rw[Pz]
theorem ne_int{x y:Int}:fF (.int x) (.int y)=on (.bl (!decide (x=y))):=by rw[Py]
theorem nR{i:Nat}{d:D}(h:(cP 0 xs)[i]?=on d):∃x,xs[i]?=on x/\d= .tup [.int (i:Int),x]:=by
 obtain⟨x,b,a⟩:=mI h;rw[QS]at a;exact⟨x,b,a⟩
theorem bB{α a:Type}{f:α->a}{xs:List α}{i:Nat}{d:a}(h:(xs.map f)[i]?=on d):∃x,xs[i]?=on x/\d=f x:=by
 rw[PY]at h;cases q:xs[i]? with
 |none=>rw[q]at h;cases h
 |some x=>rw[q]at h;exact⟨x,rfl,by cases h;rfl⟩
noncomputable abbrev nM(r c:Nat):LP:=Qr r (Qr c (0,40))
theorem AD(r c:Nat):Shp r c (nM r c):=⟨by simp,λrow h=>by rw[(Sf.mp h).2];simp⟩
noncomputable def at2{α:Type}(m:List (List α))(i j:Nat):Option α:=(m[i]?).bind λrow=>row[j]?
theorem at2_set{α:Type}{m:List (List α)}{i j k l:Nat}{row:List α}{v x:α}(a:m[i]?=on row)(h:at2 (m.set i (row.set j v)) k l=on x):(k=i/\l=j/\x=v)\/(at2 m k l=on x/\¬(k=i/\l=j)):=by
 unfold at2 at h⊢;rw[Ro]at h;by_cases q:i=k
 ·subst q
  rw[P7 rfl]at h;split at h
  ·simp only[Tt]at h
   rw[Ro]at h;by_cases w:j=l
   ·subst w
    rw[P7 rfl]at h;split at h
    ·exact .inl ⟨rfl,rfl,(QB h).symm⟩
    ·cases h
   ·rw[P5 w]at h
    exact .inr ⟨by rw[a];exact h,λz=>w z.2.symm⟩
  ·cases h
 ·rw[P5 q]at h
  exact .inr ⟨h,λz=>q z.1.symm⟩
theorem wO{α:Type}{m:List (List α)}{i j:Nat}{x:α}(h:at2 m i j=on x):∃row∈m,x∈row:=by
 unfold at2 at h;cases q:m[i]? with
 |none=>rw[q]at h;cases h
 |some row=>rw[q]at h;exact⟨row,Qi q,Qi h⟩
theorem mU{α:Type}{m:List (List α)}{i j:Nat}{row:List α}{x:α}(a:m[i]?=on row)(b:row[j]?=on x):at2 m i j=on x:=by unfold at2;rw[a];exact b
structure PairOk (p:Int×Int):Prop where
 l:0<=p.1
 m:p.1<=p.2
 h:p.2<=40
def Kp(rows:LI)(b:LP):Prop:=∀i j x p,at2 rows i j=on x->at2 b i j=on p->p.1<=x/\x<=p.2
structure Bnd (r c:Nat) (b:LP):Prop where
 shp:Shp r c b
 ok:∀row∈b,∀p∈row,PairOk p
theorem Bnd.set{r c i j:Nat}{b:LP}{row:List (Int×Int)}(h:Bnd r c b)(l:b[i]?=on row)(m:PairOk p):Bnd r c (b.set i (row.set j p)):=⟨h.shp.set l,λq k x a=>by
 rcases R7 k with k|rfl
 ·exact h.ok q k x a
 ·rcases R7 a with a|rfl
  ·exact h.ok row (Qi l) x a
  ·exact m⟩
theorem Bnd.free(r c:Nat):Bnd r c (nM r c):=⟨AD r c,λrow b p a=>by
 rw[(Sf.mp b).2]at a;rw[(Sf.mp a).2];exact⟨by decide,by decide,by decide⟩⟩
theorem Tab.le40{r c:Nat}(t:Tab r c rows):∀row∈rows,∀x∈row,0<=x/\x<=40:=λrow a x b=>⟨t.nn row a x b,by
 have:=MP t.nn row a x b;have:=t.tot;omega⟩
theorem Kp.free{r c:Nat}(t:Tab r c rows):Kp rows (nM r c):=λi j x p k l=>by
 obtain⟨row,m,b⟩:=wO k;obtain⟨q,n,a⟩:=wO l;rw[(Sf.mp n).2]at a;rw[(Sf.mp a).2];exact t.le40 row m x b
theorem Kp.set{b:LP}{i j:Nat}{row:List (Int×Int)}{p:Int×Int}{x:Int}(h:Kp rows b)(n:b[i]?=on row)(o:at2 rows i j=on x)(r:p.1<=x)(v:x<=p.2):Kp rows (b.set i (row.set j p)):=λk l y q a m=>by
 rcases at2_set n m with⟨rfl,rfl,rfl⟩|⟨m,_⟩
 ·rw[o]at a
  cases a;exact⟨r,v⟩
 ·exact h k l y q a m
theorem Ln{α:Type}{δ:Dn}{β:Bg}(xs:List α)(u:α->D)(o:α->List D)(a:it δ β=on (.ok (xs.map u),β))
  (j:∀x∈xs,∃δ1,tg (u x) (cSt nv caps δ)=on δ1/\b δ1 β=on (.ok (o x),β)) (k:(xs.flatMap o).length<=Qp):dJ nv caps it tg (λ_=>M.ret PQ) b δ β=on (.ok (.lst (xs.flatMap o)),β):=by
 refine qW a ?_ k;have gen:∀xs:List α,(∀x∈xs,∃δ1,tg (u x) (cSt nv caps δ)=on δ1/\b δ1 β=on (.ok (o x),β))->cLp tg (λ_=>M.ret PQ) b (xs.map u) (cSt nv caps δ) β=on (.ok (xs.flatMap o),β):=by
  intro xs
  induction xs with
  |nil=>intro _;rfl
  |cons x xs ih=>
   intro h;obtain⟨δ1,l,m⟩:=h x P3;have n:=ih λy p=>h y (PR _ p);rw[Qf,cLp];simp only[l,M.bind,M.ret,reduceIte,m,n,Rb]
 exact gen xs j
theorem zx{α:Type}{f:FD}{δ:Dn}{β:Bg}(xs:List α)(u v:α->D)(a:it δ β=on (.ok (xs.map u),β))
  (b:∀x∈xs,∃δ1,tg (u x) δ=on δ1/\f δ1 β=on (.ok (v x),β)):cNx it tg (λ_=>M.ret PQ) (cEm f) δ β=on (.ok (xs.map v),β):=by
 have gen:∀xs:List α,(∀x∈xs,∃δ1,tg (u x) δ=on δ1/\f δ1 β=on (.ok (v x),β))->cLp tg (λ_=>M.ret PQ) (cEm f) (xs.map u) δ β=on (.ok (xs.map v),β):=by
  intro xs
  induction xs with
  |nil=>intro _;rfl
  |cons x xs ih=>
   intro h;obtain⟨δ1,j,k⟩:=h x P3;have l:=ih λy m=>h y (PR _ m);rw[Qf,cLp];simp only[j,M.bind,M.ret,reduceIte,cEm,k,l,Qf,TD,SJ]
 unfold cNx;rw[M.bind_ok a];exact gen xs b
theorem kT{α a:Type}(u:α->D)(v:a->D):∀(xs:List α) (ys:List a),eA (xs.map u) (ys.map v)=(xs.zip ys).map λp=>D.tup [u p.1,v p.2]
 |[],ys=>by simp[eA]
 |x::xs,[]=>by simp[eA]
 |x::xs,y::ys=>by simp[eA,kT u v xs ys]
theorem HF{α a:Type}{f g:FD}{δ:Dn}{β:Bg}{u:α->D}{v:a->D}{xs:List α}{ys:List a}(b:f δ β=on (.ok (.lst (xs.map u)),β))(j:g δ β=on (.ok (.lst (ys.map v)),β)):uw (ae f (ae g aD)) δ β=on (.ok ((xs.zip ys).map λp=>D.tup [u p.1,v p.2]),β):=by
 rw[←kT];exact bx (aa b (aa j rfl)) rfl
theorem vf{xs:List D}{k:Nat}:oS xs (on (k:Int)) PM=xs.drop k:=by
 unfold oS;rw[HT.sIx_none,HT.sIx_nat];by_cases h:k<=xs.length
 ·rw[show US k xs.length=k by omega]
  rw[R5 (by rw[Vt];omega)]
 ·rw[RN (by omega),RN (by omega)]
  simp
theorem rc{f g:FD}{δ:Dn}{β:Bg}(a:f δ β=on (.ok (.lst xs),β))(b:g δ β=on (.ok (.int k),β)):fSl f (on g) PM δ β=on (.ok (.lst (oS xs (on k) PM)),β):=by
 unfold fSl sW;simp only[M.bind,a,b,M.ret,M.ofO,AZ,slD]
theorem wQ{xs ys:List D}(h:xs.length+ys.length<=1000):oZ (.lst xs) (.lst ys)=on (.lst (xs++ys)):=by
 unfold oZ;simp only;rw[P7 (bu h)]
def kR:List D->List P0->Prop
 |[],[]=>True
 | .int i::ds,.int j _::vs=>i=j/\kR ds vs
 | .str x::ds,.str y _::vs=>x=y/\kR ds vs
 | .bl x::ds,.bool y::vs=>x=y/\kR ds vs
 | .non::ds,.none::vs=>kR ds vs
 |_,_=>False
theorem g9{K:Qo}:∀{ds:List D} {vs:List P0},kR ds vs->∃xs,ax xs vs/\∀F H,DenL K F H ds xs
 |[],[],_=>⟨[],.nil,λ_ _=>DenL.nil⟩
 | .int i::ds,.int j t::vs,h=>by
  obtain⟨e,h⟩:=h;subst e;obtain⟨xs,a,b⟩:=g9 (K:=K) h;exact⟨.int i::xs,.cons ⟨t,rfl⟩ a,λF H=>DenL.cons rfl (b F H)⟩
 | .str i::ds,.str j t::vs,h=>by
  obtain⟨e,h⟩:=h;subst e;obtain⟨xs,a,b⟩:=g9 (K:=K) h;exact⟨.str i::xs,.cons ⟨t,rfl⟩ a,λF H=>DenL.cons rfl (b F H)⟩
 | .bl i::ds,.bool j::vs,h=>by
  obtain⟨e,h⟩:=h;subst e;obtain⟨xs,a,b⟩:=g9 (K:=K) h;exact⟨.bl i::xs,.cons rfl a,λF H=>DenL.cons rfl (b F H)⟩
 | .non::ds,.none::vs,h=>by
  obtain⟨xs,a,b⟩:=g9 (K:=K) (ds:=ds) (vs:=vs) h;exact⟨.non::xs,.cons rfl a,λF H=>DenL.cons rfl (b F H)⟩
def VIs(K:Qo)(d:D)(u:P0):Prop:=∃v,aN v u/\∀F H,Den K F H d v
theorem m7{K:Qo}{i:Int}{t:Tok}:VIs K (.int i) (.int i t):=⟨.int i,⟨t,rfl⟩,λ_ _=>rfl⟩
theorem JP{K:Qo}{q3:Array P0}(a:K.lookup p=on ⟨q1,q2,.seq q3 q4,q5⟩)(b:q1= .type "tuple")(j:q3.size<=Qp)(k:kR ds q3.toList):VIs K (.tup ds) (.ref p):=by
 obtain⟨xs,l,m⟩:=g9 (K:=K) k;exact⟨.ref p,rfl,λF H=>⟨p,xs,rfl,.inr ⟨_,q3,q4,a,b,rfl,j,l⟩,m F H⟩⟩
theorem qj{K:Qo}{mg:QO->Option P0}{x:QO}{d:D}{u:P0}(h:mg x=on u)(v:VIs K d u):nW K mg x d:=let ⟨w,h1,h2⟩:=v;⟨u,w,h,h1,h2⟩
theorem Nj{K:Qo}{ps:List QO}{us:List P0}(n:Nat)(l:ps.length=n+us.length)(b:∀(s:P6) (vs:List P0),K.In s.heap->vs.length=n->Wo s fd ⟨vs,[]⟩ (ps.zip (vs++us)))(h:∃vs,ax vs us/\∀F H,DenL K F H dd vs):bP K fd ps dd:=
 let ⟨vs,h1,h2⟩:=h
 ⟨us,vs,λs a j k=>b s a j (by rw[Qm]at k;omega),h1,h2⟩
theorem Nh{K:Qo}:∃vs,ax vs []/\∀F H,DenL K F H [] vs:=⟨[],.nil,λ_ _=>DenL.nil⟩
theorem Ll{K:Qo}{d:D}{u:P0}(v:VIs K d u)(h:∃vs,ax vs us/\∀F H,DenL K F H ds vs):∃vs,ax vs (u::us)/\∀F H,DenL K F H (d::ds) vs:=by
 obtain⟨w,a,b⟩:=v;obtain⟨vs,j,k⟩:=h;exact⟨w::vs,.cons a j,λF H=>DenL.cons (b F H) (k F H)⟩
inductive KSr (K:Qo):List (Sr D)->List (Sr P0)->Prop where
 |nil:KSr K [] []
 |kw {j:Nat} {a:List (Sr D)} {c:List (Sr P0)}:KSr K a c->KSr K (.kw j::a) (.kw j::c)
 |df {x:D} {y:P0} {a:List (Sr D)} {c:List (Sr P0)}:VIs K x y->KSr K a c->KSr K (.df x::a) (.df y::c)
theorem KSr.mid{K:Qo}:∀{a:List (Sr D)} {c:List (Sr P0)},KSr K a c->∃b:List (Sr V),SrR aN b c/\SrR (λd v=>∀F H,Den K F H d v) a b
 |_,_,.nil=>⟨[],.nil,.nil⟩
 |_,_,.kw (j:=j) h=>let ⟨b,h1,h2⟩:=KSr.mid h;⟨.kw j::b,.kw h1,.kw h2⟩
 |_,_,.df v h=>let ⟨b,h1,h2⟩:=KSr.mid h;let ⟨w,g1,g2⟩:=v;⟨.df w::b,.df g1 h1,.df g2 h2⟩
theorem Pg{K:Qo}{ps ks:List QO}{src:List (Sr D)}{sv:List (Sr P0)}(h:KSr K src sv)(j:ps.length=n+src.length)(k:0<ps.length)(b:∀(s:P6) (us a:List P0),K.In s.heap->us.length=n->a.length=ks.length->Wo s fd ⟨us,ks.zip a⟩ (ps.zip (us++sv.map (Sr.pick .none a)))):KwOk K fd ps ks n src:=
 ⟨let ⟨sx,h1,h2⟩:=h.mid;⟨sv,sx,h1,h2,b⟩,j,k⟩
variable{X:Cx}{E:St->XK}{K:Qo}{st:Q9}
end
section
variable{h:G}{δ:Ds}{β β1 β2 β3:Bg}{Q:Out->Bg->Prop}{i:Nat}{fa fb fv:FD}{fl:FL}{d d0 d1:D}{ds:List D}{op:D->D->Option D}
theorem OB{δ:Dn}{β β1:Bg}(a:t δ β=on (.ok PQ,β1))(b:f δ β1=on r):fIf t f g δ β=on r:=by
 unfold fIf M.bind;rw[a];exact b
theorem OC{δ:Dn}{β β1:Bg}(a:t δ β=on (.ok PX,β1))(b:g δ β1=on r):fIf t f g δ β=on r:=by
 unfold fIf M.bind;rw[a];exact b
theorem HG{d:D}{δ:Dn}{β:Bg}(e:δ.getD n PM=on d):am n δ β=on (.ok d,β):=by unfold am;rw[e];rfl
end
section
variable{β β1 β2:Bg}{f g h:FD}{δ:Dn}{x y z:Int}
theorem yi(a:f δ β=on (.ok (.int x),β))(b:g δ β=on (.ok (.int y),β))(c:h δ β=on (.ok (.int z),β)):kO leD ltD f g h δ β=on (.ok (.bl (decide (x<=y)&&decide (y<z))),β):=by
 unfold kO M.bind;rw[a];simp only[b,le_int,M.ofO,asB];by_cases q:x<=y
 ·simp only[q,decide_true,Q4,c,lt_int,TY]
 ·simp only[q,YG,Ql,Q6,M.ret,Uf]
theorem pW{K:Qo}{f:QO}:∀{ns:List QO} {ds:List D} {xs:List V},DenL K F H ds xs->(ns.zip ds).lookup f=on d->∃v,(ns.zip xs).lookup f=on v/\Den K F H d v
 |[],ds,xs,h,e=>by simp at e
 |n::ns,[],xs,h,e=>by simp at e
 |n::ns,c::ds,xs,h,e=>by
  obtain⟨x,r,q,a,b⟩:=h;subst q;rw[Sh,Vu]at e⊢;split at e
  ·rename_i z
   cases e;exact⟨x,rfl,a⟩
  ·rename_i z
   exact pW b e
theorem rM{α:Type}:∀{ns:List QO} {xs:List α},m∉ns->(ns.zip xs).lookup m=PM
 |[],xs,_=>by simp
 |n::ns,[],_=>by simp
 |n::ns,x::xs,h=>by
  rw[Sh,Vu];have a:m≠n:=λz=>h (by rw[z];exact P3);have b:m∉ns:=λz=>h (PR _ z);rw[show(m==n)=PX by simpa using a];exact rM b
theorem bP.nil{K:Qo}(b:aC K fd ps []):bP K fd ps []:=⟨[],[],b,.nil,λ_ _=>DenL.nil⟩
end
section
variable{X:Cx}{E:St->XK}{o e:Expr}{es:List Expr}{pos p apos kpos:UE}{x m:QO}{k n:Nat}{f C:PZ}{fd:Qu}{ps ks:List QO}{kws:List VA}
noncomputable def xT(C:PZ)(f:QO):D->Option D
 | .obj C' ns ds=>if C'=C then(ns.zip ds).lookup f else PM
 |_=>PM
theorem iC{f:QO}(c:Cls X.K C)(n:d6 X.K C f)(j:PE X e (tV X.K g E))(l:Ue e f X.env (Rk e X.env)=Rk e X.env:=by rfl):PE X (.Attribute e f pos) (tV X.K (f1 (xT C f) g) E):=
 (Mo j l).imp λL H Q i=>ex6 i λF δ β fr q h=>⟨F,δ,β,fr,q,(run.bind (R:=Den X.K F) h).mono λv r i=>by
  obtain⟨d,β1,t,hd,r1⟩:=i;obtain⟨d3,b,k⟩:=run.ofO r1;cases d<;>first|cases b|skip
  rename_i u ns ds;unfold xT at b;simp only at b;split at b
  ·rename_i z
   subst z;unfold Den at hd;obtain⟨a,y,xs,rfl,N,A,O,B⟩:=hd;obtain⟨w,I,J⟩:=pW B b;exact⟨a,u,y,_,w,rfl,A,c,n,I,k w r (To.refl t.fr) J⟩
  ·cases b⟩
def nP(C:PZ)(m:QO)(a:List D->M D)(b:FD)(g:FL)(c:List D):FD:=λδ=>M.bind (b δ) λd=>match d with
 | .obj C' ns _=>if C'=C/\m∉ns then M.bind (g δ) λas=>a (d::(as++c))else M.fail
 |_=>M.fail
theorem uB{i:List D}{K:Qo}(N:∀vs H Q E,spF K n mf vs H Q E->R vs H Q E)(rd:∀F H,DenL K F H i dvs)(hn:∀δ β r b,g δ β=on (.ok r,b)->r.length+i.length+1=n)(h:tV K (nP C m mf fo g i) E σ H Q):wY C m R dvs E (tV K fo E) (tVA K g E) σ H Q:=by
 obtain⟨F,δ,β,fr,A,h⟩:=h;refine⟨F,δ,β,fr,A,(run.bind (R:=Den K F) h).mono λv O T=>ex5 T λd β1 t hd r1=>?_⟩;have fail:∀{j:M D},j=M.fail->run (Den K F) F E σ j O Q β1->False:=λ{j} e r=>by
  obtain⟨r,b,B,_⟩:=r;rw[e]at B;cases B
 cases d<;>first|exact(fail rfl r1).elim|skip
 rename_i C' ns ds;simp only at r1;split at r1
 ·rename_i z
  obtain⟨rfl,hm⟩:=z;have l:=hd;unfold Den at hd;obtain⟨a,U,xs,rfl,h1,W,h3,h4⟩:=hd;refine⟨a,U,_,rfl,W,rM hm,F,δ,β1,t.fr,A.tr (t.tr fr),?_⟩;obtain⟨r0,q,I,J⟩:=run.bind (R:=DenL K F) r1;refine⟨r0,q,I,?_⟩;cases r0 with
  |error C=>exact J
  |ok as=>
   intro vs u Y c;obtain⟨d',β2,L,y,Z⟩:=J vs u Y c;have hl:=hn _ _ _ _ I;have hz:=(rd F u).length;refine N _ _ _ _ ⟨by rw[Qe,Qm,←c.length,←hz,hl],F,_::(d'++i),β2,L.fr,DenL.cons (Den.tr (L.tr t.fr) _ _ l) (DenL.append y (rd F u)),run.toE Z⟩
 ·exact(fail rfl r1).elim
theorem lV{a:List D}(c:Cls X.K C)(hm:Meth X.K C m f)(G:FnOk X.prog X.w X.K X.mg X.base (CXE X.prog X.w) k f fd ps (spF X.K n mf))(l:Room k X.A)(q:bP X.K fd ps a)(t:dE (CXE X.prog X.w) X E)
  (u:PE X o (tV X.K fo E)) (ha:PA X (e::es) (tVA X.K g E)) (hn:∀δ β r j,g δ β=on (.ok r,j)->r.length+a.length+1=n)
  (d:Qg (e::es) X.env=(PX,Rk e X.env)::Qg es X.env:=by rfl) (i:(SA pos (Qg es X.env)).any (·.1)=PX:=by rfl)
  (v:Rk (.Call (.Attribute o m apos) (e::es) [] pos) X.env=(do
   let ov ←Rk o X.env
   T6 apos.atName
   let (f,first) ←Ux [ov] (Wu ov m pl)
   callWith pos f first (SA pos (Qg (e::es) X.env)) (Tp pos (Si [] X.env))):=by rfl):
  PE X (.Call (.Attribute o m apos) (e::es) [] pos) (tV X.K (nP C m mf fo g a) E):=by
 obtain⟨ds,y,b,B,rd⟩:=q;exact(KF (pl:=pl) u c hm G l b B t ha d i v).imp λF H Q h=>uB (λ_ _ _ _ z=>z) rd hn h
theorem cM{d:List D}(c:Cls X.K C)(hm:Meth X.K C m f)(G:FnOk X.prog X.w X.K X.mg X.base (CXE X.prog X.w) k f fd ps (spF X.K n mf))(i:Room k X.A)(j:bP X.K fd ps d)(l:dE (CXE X.prog X.w) X E)
  (q:PE X o (tV X.K fo E)) (hn:d.length+1=n)
  (t:Rk (.Call (.Attribute o m apos) [] [] pos) X.env=(do
   let ov ←Rk o X.env
   T6 apos.atName
   let (f,first) ←Ux [ov] (Wu ov m pl)
   callWith pos f first (SA pos (Qg [] X.env)) (Tp pos (Si [] X.env))):=by rfl):
  PE X (.Call (.Attribute o m apos) [] [] pos) (tV X.K (nP C m mf fo aD d) E):=by
 obtain⟨ds,u,b,y,rd⟩:=j;refine(CM (pl:=pl) q c hm G i b y l t).imp λU H Q h=>?_;obtain⟨F,δ,β,fr,B,h⟩:=uB (λ_ _ _ _ z=>z) rd (λδ β r I e=>by cases e;simpa using hn) h;refine⟨F,δ,β,fr,B,h.mono λv W ⟨a,J,fs,L,ha,N,Y,O,β2,g,R,T⟩=>⟨a,J,fs,L,ha,N,?_⟩⟩;exact run.ret g T DenL.nil
structure ToX (F:Fx) (x:PZ) (H H':Hp) (β':Bg):Prop where
 kp:∀a o,a≠x->H a=on o->(∀b l,F.bg=on (b,l)->a≠b/\a≠l)->H' a=on o
 fr:Fr F H' β'
def spI(K:Qo)(C:PZ)(ns:List QO)(n:Nat)(g:List D->M (List D)):Sp:=λvs H Q E=>∃x rest F ds β d,vs= .ref x::rest/\rest.length=n/\Fr F H β/\F.A x/\(∀b l,F.bg=on (b,l)->x≠b/\x≠l)/\H x=on (.ins C d [])/\DenL K F H ds rest/\
 ∃r a,g ds β=on (r,a)/\match r with
  | .ok es=>∀c xs,ToX F x H c a->c x=on (.ins C d (ns.zip xs))->ns.length=xs.length->DenL K F c es xs->Q .non c
  | .error Ce=>∀c,ToX F x H c a->E (.ref Ce) PM c
variable{ns:List QO}
theorem DB{K:Qo}{vs:List V}(fr:Fr F H2 β2)(R:vs.length=n)(hd:DenL K F H2 ds vs)(r:run (Den K F) F E σ (M.bind (mi ds) λfs=>M.ret (.obj C ns fs)) H2 Q β2):
  ∀x c,H2 x=PM->H2 c=PM->c≠x->spI K C ns n mi (.ref x::vs) (upd (upd H2 c (.own x)) x (.ins C c [])) (λv T=>v= .non/\Q (.ref x) T) (E σ):=by
 intro x c H I ne;have J:¬F.A x:=fr.fresh H;have same:bQ H2 (upd (upd H2 c (.own x)) x (.ins C c [])):=λa o h=>by
  rw[upd_ne (az h H),upd_ne (az h I)];exact h
 have t:=fr.same same;have L:Fr (F.but x) (upd (upd H2 c (.own x)) x (.ins C c [])) β2:=⟨λa ha z=>(by
  rcases ha with ha|ha
  ·exact t.fr.occ a ha z
  ·subst ha;rw[ao]at z;cases z),λb l q=>let ⟨z1,z2,z3⟩:=fr.bgA b l q;⟨.inl z1,.inl z2,z3⟩,t.fr.bag⟩
 have U:∀b l,F.bg=on (b,l)->x≠b/\x≠l:=λb l q=>⟨λz=>J (z▸(fr.bgA b l q).1),λz=>J (z▸(fr.bgA b l q).2.1)⟩;have N:Tr F H2 (F.but x) (upd (upd H2 c (.own x)) x (.ins C c [])):=⟨λa W Y z=>by
  rcases z with z|z
  ·exact W z
  ·subst z;exact Y H,λa o _ h=>same a o h,rfl⟩
 obtain⟨Z,d,g,h⟩:=r;refine⟨x,vs,F.but x,ds,β2,c,rfl,R,L,.inr rfl,U,ao,DenL.tr N _ _ hd,?_⟩;have u:∀{i:Hp} {d:Bg},ToX (F.but x) x (upd (upd H2 c (.own x)) x (.ins C c [])) i d->To F H2 i d:=λ{i d} j=>⟨λa o ha n=>j.kp a o (az ha H) (same a o ha) n,⟨λa ha=>j.fr.occ a (.inl ha),fr.bgA,j.fr.bag⟩⟩;cases q:mi ds β2 with
 |none=>unfold M.bind at g;rw[q]at g;cases g
 |some z=>
  obtain⟨r1,β1⟩:=z;refine⟨r1,β1,rfl,?_⟩;cases r1 with
  |error Ce=>
   rw[M.bind_err q]at g;cases g;exact λi j=>h i (u j)
  |ok fs=>
   rw[M.bind_ok q]at g;cases g;refine λi xs j O y B=>⟨rfl,h (.ref x) i (u j) ⟨x,c,xs,rfl,J,O,y,DenL.tr Fx.tr_of _ _ B⟩⟩
def AF(C:PZ)(ns:List QO)(a:List D->M (List D))(g b:FL)(src:List (Sr D)):FD:=λδ=>M.bind (g δ) λas=>M.bind (b δ) λks=>M.bind (a (as++src.map (Sr.pick .non ks))) λfs=>M.ret (.obj C ns fs)
def LH(C:PZ)(sp:Sp)(d:List V->List V->List V)(E:St->XK)(t g:TA):TE:=λb H Q=>t b H λvs h=>g b h λi c=>∀x a,c x=PM->c a=PM->a≠x->
 sp (d (.ref x::vs) i) (upd (upd c a (.own x)) x (.ins C a [])) (λv j=>v= .non/\Q (.ref x) j) (E b)
theorem CN(M:Mk X.K C f)(F:FnOk X.prog X.w X.K X.mg X.base CX k f fd ps sp)(U:Room (k+1) X.A)(Y:Gl X x)(hm:X.mg x=on (.ref C))(O:KBinds X.K fd ps ks g gV)(Z:dE CX X E)
  (ha:PA X (e::es) t) (B:PK X kws tk) (i:(Tp pos (Si kws X.env)).all (·.1.isSome)=PQ:=by rfl) (J:(Tp pos (Si kws X.env)).filterMap (·.1)=ks:=by rfl)
  (L:(x==("__debug__":QO))=PX:=by decide) (he:Qg (e::es) X.env=(PX,Rk e X.env)::Qg es X.env:=by rfl)
  (N:((SA pos (Qg (e::es) X.env)).any (·.1)||(Tp pos (Si kws X.env)).any (·.1.isNone))=PX:=by rfl):
  PE X (.Call (.Name x p) (e::es) kws pos) (LH C sp gV E t tk):=by
 intro a s l H Q I h;refine Vs (qN I Y hm ?_ L);refine PySem.W.callWith_KW (h₀:=X.base) I.ok.mod.kin M.kp i (thn (ha pos a s l H _ I h) λus s1 ⟨vs,H1,I1,r,q⟩=>?_) N he;refine thn (B pos a s1 l H1 _ I1 q) λd c ⟨zs,H2,j,rz,q2⟩=>⟨j.kIn,?_⟩;rw[J];have R:=q2 (c.heap.objs.size+1) c.heap.objs.size (j.hok.fresh (Vl _)) (j.hok.fresh (P9 _)) (Q1 (Uu _));have y:=Inv.made (C:=C) j;have T:=O.rel (.cons (show aN (V.ref (c.heap.objs.size+1)) (Qt (c.heap.objs.size+1))from rfl) r) rz;have hl:(g (Qt (c.heap.objs.size+1)::us) d).length=ps.length:=by rw[←T.length];exact F.len _ _ _ _ R
 refine wpAny_call (DC (f:=f) j.kIn M.makes M.init (beq_iff_eq.mp M.fn) (Vf (F.run _ X.stack _ _ ⟨Qt (c.heap.objs.size+1)::us,ks.zip d⟩ (g (Qt (c.heap.objs.size+1)::us) d) _ _ (E l) (U.make C us (ks.zip d))
  (y.env0.make C us (ks.zip d)) (O.to _ (Qt (c.heap.objs.size+1)::us) d y.kIn hl) T R) λr s' b=>?_))
 cases r with
 |error e=>exact Z a l _ _ e s' y b
 |ok fl=>
  cases fl with
  |ret u=>
   obtain⟨v,H',I4,rv,ev,q4⟩:=y.after b;subst ev;exact⟨rv,⟨V.ref (c.heap.objs.size+1),H',I4,rfl,q4⟩⟩
  |next=>exact SD b
  |brk=>exact SD b
  |cont=>exact SD b
theorem JQ{src:List (Sr D)}(Mm:Mk X.K C f)(G:FnOk X.prog X.w X.K X.mg X.base (CXE X.prog X.w) k f fd ps (spI X.K C ns n mi))(hr:Room (k+1) X.A)(hg:Gl X x)(hm:X.mg x=on (.ref C))(hb:KwOk X.K fd ps ks (n1+1) src)(hx:dE (CXE X.prog X.w) X E)
  (ha:PA X (e::es) (tVA X.K g E)) (c:PK X kws (tVA X.K gk E)) (hn:∀δ β r a,g δ β=on (.ok r,a)->r.length=n1) (d:∀δ β r a,gk δ β=on (.ok r,a)->r.length=ks.length) (h3:n1+src.length=n)
  (b:(Tp pos (Si kws X.env)).all (·.1.isSome)=PQ:=by rfl) (h:(Tp pos (Si kws X.env)).filterMap (·.1)=ks:=by rfl)
  (i:(x==("__debug__":QO))=PX:=by decide) (he:Qg (e::es) X.env=(PX,Rk e X.env)::Qg es X.env:=by rfl)
  (j:((SA pos (Qg (e::es) X.env)).any (·.1)||(Tp pos (Si kws X.env)).any (·.1.isNone))=PX:=by rfl):
  PE X (.Call (.Name x p) (e::es) kws pos) (tV X.K (AF C ns mi g gk src) E):=by
 obtain⟨sv,J,rd,kb⟩:=hb.kb;refine(CN Mm G hr hg hm kb hx ha c b h i he j).imp λσ H Q h_=>ex6 h_ λF δ β fr L r=>⟨F,δ,β,fr,L,?_⟩;obtain⟨r0,l,N,O⟩:=run.bind (R:=DenL X.K F) r;refine⟨r0,l,N,?_⟩;cases r0 with
 |error C=>exact O
 |ok as=>
  intro vs H1 t hd;obtain⟨d',β1,q,u,r1⟩:=O vs H1 t hd;refine⟨F,δ,β1,q.fr,L.tr (q.tr fr),?_⟩;obtain⟨T,β2,U,W⟩:=run.bind (R:=DenL X.K F) r1;refine⟨T,β2,U,?_⟩;cases T with
  |error C=>exact W
  |ok bs=>
   intro v Y t2 Z;obtain⟨d2,β3,t3,B,r3⟩:=W v Y t2 Z;have l1:=hn _ _ _ _ N;have l2:=d _ _ _ _ U;have I:DenL X.K F Y d' vs:=DenL.tr (t3.tr q.fr) _ _ u;intro y dx;have g1:gK V.non (n1+1) ks.length J (.ref y::vs) v= .ref y::(vs++J.map (Sr.pick .non v)):=P7 ⟨by rw[Qe,←hd.length,l1],by rw[←Z.length,l2]⟩;rw[g1];exact DB t3.fr (by rw[Qm,PL,←hd.length,l1,←rd.len,h3]) (DenL.append I (SrR.den B rd)) r3 y dx
abbrev IP:=Ds->List D->Bg->Option (Except PZ (List D)×Bg)
noncomputable def IV:IP:=λ_ done β=>on (.ok done,β)
noncomputable def nJ(g:G)(a:IP):IP:=λδ done β=>match g δ β with
 |some (.nx δ1,β1)=>match δ[0]?,δ1[0]? with
  |some (on (Sl.sh (D.adr x))),on (on (Sl.sh (D.adr y)))=>if x=y then a δ1 done β1 else PM
  |_,_=>PM
 |some (.ex C _,β1)=>on (.error C,β1)
 |_=>PM
def jO(f:FD)(a:IP):IP:=λδ done β=>match f (vw δ) β with
 |some (.ok d,β1)=>a δ (done++[d]) β1
 |some (.error C,β1)=>on (.error C,β1)
 |none=>PM
structure StpX (x:PZ) (B:Ow) (H:Hp) (B':Ow) (H':Hp):Prop where
 kp:∀a o,a≠x->H a=on o->(B a=PM\/B a=on 0)->H' a=on o
 tg:∀a,B a=on 0\/B a=on 1->B' a=B a
 nn:∀a o,a≠x->H a=on o->B a=PM->B' a=PM
 al:∀a,H a≠PM->H' a≠PM
end
theorem Stp.x{x:PZ}{B b:Ow}{H c:Hp}(s:Stp B H b c):StpX x B H b c:=⟨λa o _=>s.kp a o,s.tg,λa o _=>s.nn a o,s.al⟩
theorem StpX.trans(a:StpX x B H B1 H1)(b:StpX x B1 H1 B2 H2):StpX x B H B2 H2:=by
 refine⟨λc o ne h n=>b.kp c o ne (a.kp c o ne h n) ?_,λc h=>?_,λc o ne h n=>b.nn c o ne (a.kp c o ne h (.inl n)) (a.nn c o ne h n),λc h=>b.al c (a.al c h)⟩
 ·rcases n with n|n
  ·exact .inl (a.nn c o ne h n)
  ·exact .inr ((a.tg c (.inl n)).trans n)
 ·have e:=a.tg c h
  rw[←e]at h;exact(b.tg c h).trans e
def kS(K:Qo)(bg:Option (PZ×PZ))(E:St->XK)(Dn:Ends)(B:Ow)(H:Hp)(x C e:PZ)(all:List QO)(r:Except PZ (List D))(d:Bg):Prop:=match r with
 | .ok ds=>∀b c a vs,StpX x B H c a->Fr (FxB c bg) a d->a x=on (.ins C e (all.zip vs))->all.length=vs.length->DenL K (FxB c bg) a ds vs->Dn.nx b a
 | .error Ce=>∀b c a,StpX x B H c a->Fr (FxB c bg) a d->E b (.ref Ce) PM a
theorem kS.pre{K:Qo}{E:St->XK}{Dn:Ends}(s:StpX x B H B1 H1)(h:kS K bg E Dn B H x C dx all r β'):kS K bg E Dn B1 H1 x C dx all r β':=by
 cases r with
 |ok ds=>exact λa b c vs t=>h a b c vs (s.trans t)
 |error d=>exact λa b c t=>h a b c (s.trans t)
def tI(K:Qo)(H₀:Hp)(C:PZ)(a names:List QO)(f:IP)(E:St->XK):TS:=λDn g H=>∃B bg δ β x e b c r d,SOk K H₀ B bg H δ β g/\δ[0]?=on (on (.sh (.adr x)))/\B x=on 0/\H x=on (.ins C e (a.zip b))/\a.length=b.length/\DenL K (FxB B bg) H c b/\f δ c β=on (r,d)/\kS K bg E Dn B H x C e (a++names) r d
theorem rJ:∀{ns:List QO} {vs:List V},ns.length=vs.length->f∉ns->dL f y (ns.zip vs)=(ns++[f]).zip (vs++[y])
 |[],[],_,_=>rfl
 |n::ns,v::vs,h,hf=>by
  have a:¬n=f:=λz=>hf (by rw[z];exact P3);show(if n=f then(n,y)::ns.zip vs else(n,v)::dL f y (ns.zip vs))=_;rw[P5 a,rJ (by simpa using h) λz=>hf (PR _ z)];rfl
 |[],_::_,h,_=>by simp at h
 |_::_,[],h,_=>by simp at h
theorem SOk.upd0{K:Qo}(ok:SOk K H₀ B bg H δ β σ)(g:B x=on 0):SOk K H₀ B bg (upd H x o) δ β σ/\StpX x B H B (upd H x o):=by
 have al:∀c,H c≠PM->upd H x o c≠PM:=λc f=>by
  by_cases z:c=x
  ·subst z;rw[ao];simp
  ·rw[upd_ne z];exact f
 have t:∀b l,bg=on (b,l)->b≠x/\l≠x:=λb l e=>by
  obtain⟨b1,b2⟩:=ok.bgt b l e;exact⟨λz=>(by rw[z,g]at b1;cases b1),λz=>(by rw[z,g]at b2;cases b2)⟩
 have tr:Tr (FxB B bg) H (FxB B bg) (upd H x o):=⟨λ_ h _=>h,λc u f e=>by
  rw[upd_ne]
  ·exact e
  ·intro z;subst z;exact f (by show B c≠PM;rw[g];simp),rfl⟩
 refine⟨⟨⟨λc f=>al c (ok.fr.occ c f),ok.fr.bgA,λb l e=>?_⟩,ok.bgt,ok.len,λc f=>al c (ok.cov c f),ok.new,λc k f=>?_,λi s e=>?_⟩,λc u ne h _=>by rw[upd_ne ne];exact h,λ_ _=>rfl,λ_ _ _ _ n=>n,al⟩
 ·obtain⟨y,A⟩:=ok.fr.bag b l e
  obtain⟨C,F⟩:=t b l e;exact⟨by rw[upd_ne C];exact y,by rw[upd_ne F];exact A⟩
 ·obtain⟨xs,h⟩:=ok.lst c k f
  exact⟨xs,by rw[upd_ne];exact h;intro z;subst z;rw[g]at f;cases f⟩
 ·obtain⟨v,I,j⟩:=ok.tell i s e
  refine⟨v,I,?_⟩;cases s with
  |sh d=>exact Den.tr tr _ _ j
  |own ds=>
   obtain⟨a,xs,rfl,hB,ha,hd⟩:=j;exact⟨a,xs,rfl,hB,(by rw[upd_ne];exact ha;intro z;subst z;rw[g]at hB;cases hB),DenL.tr tr _ _ hd⟩
  |grd rows=>
   obtain⟨a,rs,rfl,hB,ha,nd,J⟩:=j;refine⟨a,rs,rfl,hB,(by rw[upd_ne];exact ha;intro z;subst z;rw[g]at hB;cases hB),nd,RowL.tr tr J λr xs _ p q=>⟨p,?_⟩⟩;rw[upd_ne]
   ·exact q
   ·intro z;subst z
    have m:B r=on (i+2):=p;rw[g]at m;cases m
section
variable{X:Cx}{E:St->XK}{st:Q9}{sts:List Q9}{C:PZ}{ns0 names:List QO}{ip:IP}
theorem Pn:PSs X [] (tI X.K X.H₀ C ns0 [] IV E):=qK.imp λDn b H c=>by
 obtain⟨B,bg,δ,β,x,i,a,d,r,f,ok,j,l,g,h,hd,e,k⟩:=c;cases e;rw[QY]at k;exact k b B H a (Stp.refl B H).x ok.fr g h hd
theorem IW(m:PS X st (tG X.K X.H₀ g E))(n:PSs X sts (tI X.K X.H₀ C ns0 names ip E)):PSs X (st::sts) (tI X.K X.H₀ C ns0 names (nJ g ip) E):=(c7 m n).imp λDn y H o=>by
 obtain⟨B,bg,δ,β,x,p,c,d,r,f,ok,q,h,t,u,hd,e,k⟩:=o;unfold nJ at e;split at e
 ·rename_i δ1 β1 i
  split at e
  ·rename_i A F q1 q2
   split at e
   ·rename_i z
    subst z;rw[q]at q1;cases q1;refine⟨B,bg,δ,β,.nx δ1,β1,ok,i,λb j l s a=>?_⟩;exact⟨j,bg,δ1,β1,x,p,c,d,r,f,a,q2,(s.tg x (.inl h)).trans h,s.kp x _ t (.inr h),u,DenL.tr s.tr _ _ hd,e,kS.pre s.x k⟩
   ·cases e
  ·cases e
 ·rename_i v δ1 β1 i
  cases e;exact⟨B,bg,δ,β,.ex v δ1,_,ok,i,λb j l s a=>k b j l s.x a.fr⟩
 ·cases e
theorem sQ(c:Cls X.K C)(n:d6 X.K C f)(Q:f∉ns0)(L:ns0.length<1000)(R:PS X st (LX X.K (qA 0) (tV X.K fv E) f))(T:PSs X sts (tI X.K X.H₀ C (ns0++[f]) names ip E)):PSs X (st::sts) (tI X.K X.H₀ C ns0 (f::names) (jO fv ip) E):=(c7 R T).imp λDn U H W=>by
 obtain⟨B,bg,δ,β,x,l,g,q,r,t,ok,N,m,Y,O,hd,e,k⟩:=W;refine⟨FxB B bg,vw δ,β,ok.fr,ok.view,?_⟩;unfold jO at e;split at e
 ·rename_i d β1 A
  refine⟨.ok d,β1,A,λy p F Z=>?_⟩;obtain⟨b,i⟩:=ok.to rfl F;obtain⟨v,g1,g2⟩:=b.tell 0 _ N;have hv:v= .ref x:=g2;subst hv;have I:=i.kp x _ Y (.inr m);refine⟨_,g1,x,C,l,_,rfl,I,c,n,?_,?_⟩
  ·rw[WR];omega
  obtain⟨J,s2⟩:=b.upd0 (o:= .ins C l (dL f y (ns0.zip g))) m;have j:Tr (FxB B bg) p (FxB B bg) (upd p x (.ins C l (dL f y (ns0.zip g)))):=⟨λ_ h _=>h,λa u ha e=>by
   rw[upd_ne]
   ·exact e
   ·intro z;subst z;exact ha (by show B a≠PM;rw[m];simp),rfl⟩
  refine⟨B,bg,δ,β1,x,l,g++[y],q++[d],r,t,J,N,m,by rw[ao,rJ O Q],by simp[O],DenL.append (DenL.tr j _ _ (DenL.tr i.tr _ _ hd)) (DenL.cons (Den.tr j _ _ Z) DenL.nil),e,?_⟩;rw[Ra];exact kS.pre (i.x.trans s2) k
 ·rename_i Ce β1 A
  cases e;refine⟨.error Ce,_,A,λp F=>?_⟩;obtain⟨b,i⟩:=ok.to rfl F;exact k U B p i.x b.fr
 ·cases e
end
open Classical in
def nK(m:Nat)(a:IP):List D->M (List D):=λds β=>if h:∃r,∀x,a (stD m (.adr x::ds)) [] β=on r then on h.choose else PM
theorem DW(h:∀x,ip (stD m (.adr x::ds)) [] β=on r):nK m ip ds β=on r:=by
 have a:∃r,∀x,ip (stD m (.adr x::ds)) [] β=on r:=⟨r,h⟩;unfold nK;rw[dif_pos a];have:=a.choose_spec 0;rw[h 0]at this;exact this.symm
theorem z7(h:nK m ip ds β=on r):∀x,ip (stD m (.adr x::ds)) [] β=on r:=by
 unfold nK at h;split at h
 ·rename_i a
  have:=a.choose_spec;cases h;exact this
 ·cases h
section
variable{P:QG}{w:QT}{K:Qo}{mg:QO->Option P0}{base:Rl}
theorem Li{st:Q9}{N ps names:List QO}(n m:Nat)(ip:IP)(F:FunD K x qual st f fd)(S:FnScope N ps (ag st))(O:ps.length=n+1)(R:N.length=m)
  (p:∀(i:P0) (A:Q7) (outer:List WY) (s:P6) (H:Hp) (E:XK),Room k (A.deeper (Uv qual (ag st) s.heap.objs.size f i))->
   PSs (f9 (CXE P w) P w K mg base N qual (ag st) f i A outer s H E) (cQ st) (tI K H C [] names ip (λ_=>E))):FnOk P w K mg base (CXE P w) (k+1) f fd ps (spI K C names n (nK m ip)):=by
 subst R;refine F.okE S (λvs H Q E h=>?_) λi A outer s H vs Q E hr h=>?_
 ·obtain⟨y,rest,j,ds,β,dx,rfl,hl,_⟩:=h
  rw[Qe,hl,O]
 obtain⟨y,rest,j,ds,β,dx,rfl,hl,fr,T,nb,hH,hd,r,d,e,h⟩:=h;refine⟨_,p i A outer s H E hr,?_⟩;have U:DenL K j H (.adr y::ds) (.ref y::rest):=DenL.cons rfl hd;obtain⟨B,ok,L,h1,hn⟩:=tM (N:=N) fr U;have hy:B y=on 0:=by
  rcases L y T with z|z
  ·exact z
  ·obtain⟨b,l,q,w⟩:=h1 y z
   obtain⟨W,X⟩:=nb b l q;rcases w with w|w
   ·exact Qx w W
   ·exact Qx w X
 have v:∀{u:Ow} {g:Hp} {d:Bg},StpX y B H u g->Fr (FxB u j.bg) g d->ToX j y H g d/\Tr (FxB u j.bg) g j g:=λ{u g d} s c=>by
  have hs:∀a,j.A a->u a≠PM:=λa ha=>by
   rw[s.tg a (L a ha)];rcases L a ha with z|z<;>rw[z]<;>simp
  refine⟨⟨λa o ne ha n=>s.kp a o ne ha ?_,λa ha=>c.occ a (hs a ha),λb l e=>fr.bgA b l e,c.bag⟩,λa ha _ z=>ha (hs a z),λ_ _ _ h=>h,rfl⟩;cases q:B a with
  |none=>exact .inl rfl
  |some t=>
   have:=L a (hn a (by rw[q];simp));rcases this with z|z
   ·rw[q]at z;exact .inr z
   ·obtain⟨b,l,e,w⟩:=h1 a z
    obtain⟨W,X⟩:=n b l e;rcases w with w|w
    ·exact Qx w W
    ·exact Qx w X
 refine⟨B,j.bg,stD N.length (.adr y::ds),β,y,dx,[],[],r,d,ok,rfl,hy,hH,rfl,DenL.nil,z7 e y,?_⟩;cases r with
 |ok es=>
  intro Y u g vs s c Z I J;obtain⟨t1,t2⟩:=v s c;exact h g vs t1 Z I (DenL.tr t2 _ _ J)
 |error Ce=>
  intro Y u g s c;exact h g (v s c).1
variable{X:Cx}{E:St->XK}{st:Q9}
variable{h:G}{δ:Ds}{β β1:Bg}{Q:Out->Bg->Prop}{i:Nat}{f:FD}
end
section
variable{C Ce:PZ}{m:QO}{ns:List QO}{mf:List D->M D}{mi:List D->M (List D)}{fo:FD}{g gk:FL}{dd fs as ks:List D}{src:List (Sr D)}{δ:Dn}{β β1 β2 β3:Bg}{r:Except PZ D×Bg}{d:D}{f:QO}{h:G}{Q:Out->Bg->Prop}{i:Nat}{δs:Ds}
theorem bX(a:fo δ β=on (.ok (.obj C ns fs),β1))(b:g δ β1=on (.ok as,β2))(c:mf (.obj C ns fs::(as++dd)) β2=on r)(hm:m∉ns:=by decide):nP C m mf fo g dd δ β=on r:=by
 unfold nP;rw[M.bind_ok a];simp only[hm,not_false_eq_true,and_self,Q4];rw[M.bind_ok b];exact c
theorem iB(a:x δ β=on (.ok (.obj C ns fs),β1))(b:(ns.zip fs).lookup f=on d):f1 (xT C f) x δ β=on (.ok d,β1):=by
 refine x_1 a ?_;unfold xT;simp only[Q4];exact b
theorem z0{g:G}{δ δ1:Ds}{r:Except PZ (List D)×Bg}(e:g δ β=on (.nx δ1,β1))(a:δ[0]?=on (on (.sh (.adr x))))(b:δ1[0]?=on (on (.sh (.adr x))))(k:ip δ1 done β1=on r):nJ g ip δ done β=on r:=by
 unfold nJ;simp only[e,a,b,Q4];exact k
theorem p9{f:FD}{δ:Ds}{d:D}{r:Except PZ (List D)×Bg}(e:f (vw δ) β=on (.ok d,β1))(k:ip δ (done++[d]) β1=on r):jO f ip δ done β=on r:=by
 unfold jO;rw[e];exact k
noncomputable def tpA{α:Type}(d:α)(c:Nat)(rows:List (List α)):List (List α):=(Qb c).map λj=>rows.map λrow=>row.getD j d
abbrev tp(c:Nat)(rows:LI):LI:=tpA 0 c rows
theorem j6{α:Type}{d:α}{r c:Nat}{rows:List (List α)}(h:rows.length=r):Shp c r (tpA d c rows):=⟨by simp[tpA],λrow a=>by
 obtain⟨j,_,rfl⟩:=Qc.mp a;rw[PL,h]⟩
theorem LE{α:Type}{d:α}{rows:List (List α)}(h:j<c):(tpA d c rows)[j]?=on (rows.map λrow=>row.getD j d):=by
 unfold tpA;rw[PY,Rt h];rfl
theorem xi{d:Int}:∀(row:List Int),(Qb row.length).map (λj=>row.getD j d)=row:=λrow=>by
 refine Za λi=>?_;rw[PY];by_cases h:i<row.length
 ·rw[Rt h]
  show on (row.getD i d)=_;rw[PV,PP h];rfl
 ·rw[Uq (by simpa using h),Uq (by omega)];rfl
theorem qB{α:Type}(f g:α->Int):∀l:List α,(l.map λx=>f x+g x).sum=(l.map f).sum+(l.map g).sum
 |[]=>by simp
 |x::l=>by
  simp only[Qf,Qw,qB f g l];omega
theorem ox{α:Type}:∀l:List α,(l.map λ_=>(0:Int)).sum=0
 |[]=>rfl
 |x::l=>by simp only[Qf,Qw,ox l];rfl
theorem yw:∀{rows:LI},(∀row∈rows,row.length=c)->tot (tp c rows)=tot rows
 |[],_=>by
  show((tpA 0 c []).map Rp).sum=0;unfold tpA;rw[Qa];exact ox (Qb c)
 |row::rows,h=>by
  have ih:=yw (c:=c) (rows:=rows) λx b=>h x (PR _ b);have a:=h row P3;unfold tot tp tpA at ih⊢;rw[Qa]at ih⊢;have e:(λj=>(Rp ((row::rows).map λrow=>row.getD j 0)))=λj=>row.getD j 0+(rows.map λrow=>row.getD j 0).sum:=by
   funext j;rw[Qf,Qw]
  show((Qb c).map λj=>(Rp ((row::rows).map λrow=>row.getD j 0))).sum=_;rw[e,qB,←a,xi,a,Qf,Qw];congr 1
theorem HU(h:∀row∈rows,∀x∈row,0<=x):∀row∈tp c rows,∀x∈row,0<=x:=λrow a x b=>by
 obtain⟨j,_,rfl⟩:=Qc.mp a;obtain⟨q,k,rfl⟩:=Qc.mp b;rw[PV];cases e:q[j]? with
 |none=>exact Yt 0
 |some y=>exact h q k y (Qi e)
end
end L2.Pu
namespace L2.Pu
open PySem PySem.Spec PyProof PyProof.Rows
section
variable{X:Cx}
variable{prog:QG}{w:QT}{A:Q7}{E:P0->P6->Prop}{s:P6}{l:PZ}{xs:Array (Int×Tok)}
variable{K:Qo}
end
end L2.Pu
namespace L2
open PySem PySem.Spec PyProof.Rows
end L2
namespace L2.Pu
open PySem PySem.Spec PyProof.Rows
section
variable{X:Cx}{E:St->XK}{K:Qo}{elt target iter:Expr}{ifs:List Expr}{rest:List RO}{scope:Scope}{pos:UE}{Nc vars:List QO}{caps:List Nat}{g:TG}{tb:PZ->TB}
variable{st:Q9}{H₀:Hp}{B:Ow}{bg:Option (PZ×PZ)}{H H':Hp}{δ:Ds}{β β':Bg}{σ:St}
theorem lU1{us:List P0}(h:us.length=1):∃a,us=[a]:=List.length_eq_one_iff.mp h
theorem lU2{us:List P0}(h:us.length=2):∃c a1,us=[c,a1]:=by
 obtain⟨a,l,rfl⟩:=TF h;obtain⟨b,rfl⟩:=lU1 (us:=l) (by simpa using h);exact⟨_,_,rfl⟩
theorem lU3{us:List P0}(h:us.length=3):∃d a1 a2,us=[d,a1,a2]:=by
 obtain⟨a,l,rfl⟩:=TF h;obtain⟨b,c,rfl⟩:=lU2 (us:=l) (by simpa using h);exact⟨_,_,_,rfl⟩
theorem lU4{us:List P0}(h:us.length=4):∃e a1 a2 a3,us=[e,a1,a2,a3]:=by
 obtain⟨a,l,rfl⟩:=TF h;obtain⟨b,c,d,rfl⟩:=lU3 (us:=l) (by simpa using h);exact⟨_,_,_,_,rfl⟩
end
section
variable{X:Cx}{E:St->XK}{e e1 e2 e3 e4 e5:Expr}{es:List Expr}{pos p:UE}{f1 f2 f3 f4 f5:FD}{g:FL}{k j n:Nat}{f:PZ}{fd:Qu}{ps:List QO}{x:QO}{op:List D->Option D}{r:List V->Hp->VK->Prop}{id T:String}
theorem vv(i:Nat){x:QO}(b:X.N[i]?=on x:=by rfl)(c:Vis X.env.scope x:=by first|exact RH rfl|exact Sw (RH rfl)|exact Sw (Sw rfl))(hd:(x==("__debug__":QO))=PX:=by decide)
  (a:(x==("__classdict__":QO))=PX:=by decide):PE X (.Name x pos) (tV X.K (am i) E):=OG i (pv i b c hd a)
theorem va1(a:PE X e1 (tV X.K f1 E))(b:Qg [e1] X.env=(PX,Rk e1 X.env)::Qg [] X.env:=by rfl):PA X [e1] (tVA X.K (ae f1 aD) E):=d7 a gf b
theorem va2(a:PE X e1 (tV X.K f1 E))(b:PE X e2 (tV X.K f2 E))(c:Qg [e1,e2] X.env=(PX,Rk e1 X.env)::Qg [e2] X.env:=by rfl)(d:Qg [e2] X.env=(PX,Rk e2 X.env)::Qg [] X.env:=by rfl):PA X [e1,e2] (tVA X.K (ae f1 (ae f2 aD)) E):=d7 a (va1 b d) c
theorem va3(a:PE X e1 (tV X.K f1 E))(b:PE X e2 (tV X.K f2 E))(c:PE X e3 (tV X.K f3 E))(d:Qg [e1,e2,e3] X.env=(PX,Rk e1 X.env)::Qg [e2,e3] X.env:=by rfl)(h:Qg [e2,e3] X.env=(PX,Rk e2 X.env)::Qg [e3] X.env:=by rfl)(i:Qg [e3] X.env=(PX,Rk e3 X.env)::Qg [] X.env:=by rfl):PA X [e1,e2,e3] (tVA X.K (ae f1 (ae f2 (ae f3 aD))) E):=d7 a (va2 b c h i) d
theorem va4(a:PE X e1 (tV X.K f1 E))(b:PE X e2 (tV X.K f2 E))(c:PE X e3 (tV X.K f3 E))(d:PE X e4 (tV X.K f4 E))(h:Qg [e1,e2,e3,e4] X.env=(PX,Rk e1 X.env)::Qg [e2,e3,e4] X.env:=by rfl)(i:Qg [e2,e3,e4] X.env=(PX,Rk e2 X.env)::Qg [e3,e4] X.env:=by rfl)(l:Qg [e3,e4] X.env=(PX,Rk e3 X.env)::Qg [e4] X.env:=by rfl)(m:Qg [e4] X.env=(PX,Rk e4 X.env)::Qg [] X.env:=by rfl):PA X [e1,e2,e3,e4] (tVA X.K (ae f1 (ae f2 (ae f3 (ae f4 aD)))) E):=d7 a (va3 b c d i l m) h
theorem aN0(δ:Dn)(β:Bg)(r:List D)(a:Bg)(h:aD δ β=on (.ok r,a)):r.length=0:=GY h
structure FB (P:QG) (w:QT) (K:Qo) (mg:QO->Option P0) (base:Rl) (k:Nat) (x:QO) (f:PZ) (fd:Qu) (ps:List QO) (n:Nat) (m:List D->M D):Prop where
 ok:FnOk P w K mg base (CXE P w) k f fd ps (spF K n m)
 m:mg x=on (.ref f)
 kp:Vr K (.ref f)=PQ
 b:aC K fd ps []
theorem vc(G:FB X.prog X.w X.K X.mg X.base j x f fd ps n m)(h:Room k X.A)(ha:PA X (e::es) (tVA X.K g E))(i:j<=k:=by decide)(l:dE (CXE X.prog X.w) X E:=by first|exact cq|exact sJ|assumption)(o:Gl X x:=by rfl)
  (hn:∀δ β r d,g δ β=on (.ok r,d)->r.length=n:=by repeat (first|exact aN0|apply bq)) (a:(x==("__debug__":QO))=PX:=by decide) (q:Qg (e::es) X.env=(PX,Rk e X.env)::Qg es X.env:=by rfl) (c:(SA pos (Qg es X.env)).any (·.1)=PX:=by rfl):
  PE X (.Call (.Name x p) (e::es) [] pos) (tV X.K (eK m g) E):=yo G.ok (h.mono i) o G.m G.kp G.b l ha hn a q c
theorem bY(hm:X.mg "len"=PM)(ha:PA X (e::es) (tVA X.K g E))(b:Gl X "len":=by rfl)(c:Qg (e::es) X.env=(PX,Rk e X.env)::Qg es X.env:=by rfl)(a:(SA pos (Qg es X.env)).any (·.1)=PX:=by rfl):PE X (.Call (.Name "len" p) (e::es) [] pos) (tV X.K (aL eU g) E):=cz mS Pd b hm PySem.boot_len ha (by decide) (by decide) c a
theorem ic(hm:X.mg "sum"=PM)(ha:PA X (e::es) (tVA X.K g E))(b:Gl X "sum":=by rfl)(c:X.calm=PQ:=by rfl)(d:Qg (e::es) X.env=(PX,Rk e X.env)::Qg es X.env:=by rfl)(a:(SA pos (Qg es X.env)).any (·.1)=PX:=by rfl):PE X (.Call (.Name "sum" p) (e::es) [] pos) (tV X.K (aL iE g) E):=cz (AS c) MS b hm PyProof.Rows.Boot.«sum» ha (by decide) (by decide) d a
theorem ie(hm:X.mg "isinstance"=PM)(ha:PA X (e::es) (tVA X.K g E))(b:Gl X "isinstance":=by rfl)(c:Qg (e::es) X.env=(PX,Rk e X.env)::Qg es X.env:=by rfl)(a:(SA pos (Qg es X.env)).any (·.1)=PX:=by rfl):PE X (.Call (.Name "isinstance" p) (e::es) [] pos) (tV X.K (aL jo g) E):=cz AT Pe b hm PyProof.Rows.Boot.«isinstance» ha (by decide) (by decide) c a
theorem cso{scope:Scope}(a vars:List QO)(caps:List Nat)(k:scope.kind= .function:=by rfl)(nd:(scope.names.map (·.1)).Nodup:=by decide +kernel)
  (fr:(scope.names.all λy=>y.2 != .free||(X.env.scope.names.lookup y.1==on .cell||X.env.scope.names.lookup y.1==on .free))=PQ:=by rfl) (b:a=vars++caps.map (λj=>X.N.getD j TM):=by rfl)
  (c:(caps.all λj=>decide (j<X.N.length)&&scope.names.lookup (X.N.getD j TM)==on .free)=PQ:=by rfl):CmpScope X scope a vars caps:=CmpScope.ofB k nd fr b c
theorem ndc{a:List QO}(h:a.Nodup:=by decide +kernel):(aG X a scope cl C fp s H).N.Nodup:=h
theorem pgN(i:Nat){x:QO}(a:X.N.Nodup)(b:X.N[i]?=on x:=by rfl)(c:Loc X.env.scope x:=by first|exact RH rfl|exact Sw rfl)(d:X.fn x=PQ\/X.env.scope.names.lookup x=on .local:=by first|exact .inl rfl|exact .inr rfl|assumption):PG X (.Name x pos) (fq i):=we a b c d
theorem psS(i:Nat){x:QO}{e:Expr}{pos a:UE}(b:X.N.Nodup)(c:PE X e te)(d:X.N[i]?=on x:=by rfl)(h:Loc X.env.scope x:=by first|exact RH rfl|exact Sw rfl)(hs:UL e (on (.Name x a)) pos.line X.env=SB PX:=by rfl)(l:X.fn x=PQ\/X.env.scope.names.lookup x=on .local:=by first|exact .inl rfl|exact .inr rfl|assumption):PS X (.Assign [.Name x a] e pos) (jU te (fq i)):=pI b d h c hs l
theorem bA1{Q:List P0->Prop}(h:∀a,Q [a])(us:List P0)(b:us.length=1):Q us:=by obtain⟨_,rfl⟩:=lU1 b;exact h _
theorem bA2{Q:List P0->Prop}(h:∀a b,Q [a,b])(us:List P0)(c:us.length=2):Q us:=by obtain⟨_,_,rfl⟩:=lU2 c;exact h _ _
theorem bA3{Q:List P0->Prop}(h:∀a b c,Q [a,b,c])(us:List P0)(d:us.length=3):Q us:=by obtain⟨_,_,_,rfl⟩:=lU3 d;exact h _ _ _
theorem bA4{Q:List P0->Prop}(h:∀a b c d,Q [a,b,c,d])(us:List P0)(i:us.length=4):Q us:=by obtain⟨_,_,_,_,rfl⟩:=lU4 i;exact h _ _ _ _
theorem fsc{N Q:List QO}{c:Scope}(a:c.kind= .function:=by rfl)(b:c.isCoroutine=PX:=by rfl)(g:c.isGenerator=PX:=by rfl)(d:N.Nodup:=by decide +kernel)(e:N.take Q.length=Q:=by rfl)(f:∀x∈Q,c.names.lookup x=on .local\/c.names.lookup x=on .cell:=by decide +kernel)(h:∀y∈c.names,y.2≠ .free:=by decide +kernel):FnScope N Q c:=⟨a,b,g,d,e,f,h⟩
end
end L2.Pu
namespace L2
open PySem PySem.Spec PyProof.Rows
section
variable{prog:QG}{w:QT}{A:Q7}{E:P0->P6->Prop}{s:P6}{K:Qo}
variable{X:Cx}
end
namespace Pu
section
variable{X:Cx}{E:St->XK}
end
end Pu
end L2
namespace L2.Pu
open PySem PySem.Spec PyProof.Rows
section
variable{X:Cx}{E:St->XK}{a b:Expr}{pos:UE}{k:Nat}{f C:PZ}{fd:Qu}{ps:List QO}{K:Qo}
structure IsC (K:Qo) (C:PZ):Prop where
 cl:Cls K C
 ha:Um K (.ref C) "__class__"=on (on (.builtin "object.__class__"))
 hn:specialIn K (.builtin "object.__class__") "__get__"=on (on (.builtin "getset_descriptor.__get__"))
 htk:YW K (.builtin "object.__class__")=on PQ
 hm:PySem.W.mroIn K C (.type "object")=on PQ
theorem HS{r c:Nat}{rows:LI}(sh:Shp r c rows):tp r (tp c rows)=rows:=by
 obtain⟨e,g⟩:=sh;refine Sc (by simp[tpA,e]) λi n d=>?_;have h:rows[i].length=c:=g _ (QP d);refine Sc (by simp[tpA,h]) λj o l=>?_;have m:j<c:=by omega
 simp[tpA,PV,m,d,l]
variable{p1 p2 pos1 pos2:UE}
noncomputable def S(n:Nat)(f:Nat->Int):Int:=((Qb n).map f).sum
theorem Ov(f:Nat->Int):S 0 f=0:=rfl
theorem gx(n:Nat)(f:Nat->Int):S (n+1) f=S n f+f n:=by
 unfold S;rw[SK,QK,WT];simp
theorem dQ{f g:Nat->Int}(h:∀i<n,f i=g i):S n f=S n g:=by
 unfold S;rw[QD λi c=>h i (Qq.mp c)]
theorem s0(n:Nat)(f g:Nat->Int):S n (λi=>f i+g i)=S n f+S n g:=qB f g _
theorem mX(n:Nat):S n (λ_=>0)=0:=ox _
theorem PH(n:Nat)(f:Nat->Int):S n (λi=>-f i)=-S n f:=by
 induction n with
 |zero=>rfl
 |succ n ih=>rw[gx,gx,ih];omega
theorem BD(n m:Nat)(h:Nat->Nat->Int):S n (λi=>S m (λj=>h i j))=S m (λj=>S n (λi=>h i j)):=by
 induction n with
 |zero=>rw[Ov];exact(mX m).symm
 |succ n ih=>
  rw[gx,ih,←s0];exact dQ λj _=>(gx n _).symm
theorem oy{g:Nat->Int}:∀{l L:List Nat},l.Sublist L->L.Nodup->(l.map g).sum=(L.map λx=>if x∈l then g x else 0).sum
 |_,_,.slnil,_=>rfl
 |l,_,.cons a (l₂:=L) h,nd=>by
  have c:=(QR.mp nd);have ha:a∉l:=λz=>c.1 (h.subset z);rw[Qf,Qw,P5 ha,oy h c.2,TK]
 |_,_,.cons₂ a (l₁:=l) (l₂:=L) h,nd=>by
  have c:=(QR.mp nd);rw[Qf,Qf,Qw,Qw,P7 P3,oy h c.2];congr 2;refine QD λx e=>?_;have d:x≠a:=λz=>c.1 (z▸e);by_cases q:x∈l
  ·rw[P7 q,P7 (PR _ q)]
  ·rw[P5 q,P5 λz=>(Qh.mp z).elim d q]
theorem m8{l:List Nat}(h:l.Sublist (Qb n)):(l.map g).sum=S n λx=>if x∈l then g x else 0:=oy h Vv
theorem wz{p:Nat->Bool}{g:Nat->Int}:∀l:List Nat,((l.filter p).map g).sum=(l.map λx=>if p x=PQ then g x else 0).sum
 |[]=>rfl
 |x::l=>by
  rw[Sd,Qf,Qw,←wz l];by_cases q:p x=PQ
  ·rw[P7 q,P7 q,Qf,Qw]
  ·rw[P5 q,P5 q,TK]
noncomputable abbrev nI(l:List Nat):List Int:=l.map λ(i:Nat)=>(i:Int)
noncomputable abbrev nL(l:List Nat):D:= .lst ((nI l).map D.int)
theorem ww:∀xs:List Int,inB (.int i) (xs.map D.int)=decide (i∈xs)
 |[]=>rfl
 |x::xs=>by
  have ih:=ww (i:=i) xs;unfold inB at ih⊢;rw[Qf,Vj,ih];show(decide (x=i)||_)=_;rw[VG];simp only[Bool.or_eq_true,QU,Qh];constructor
  ·rintro(h|h)
   ·exact .inl h.symm
   ·exact .inr h
  ·rintro(h|h)
   ·exact .inl h.symm
   ·exact .inr h
theorem rS:∀xs:List Int,(xs.map D.int).all gs=PQ
 |[]=>rfl
 |_::xs=>rS xs
theorem M0{xs:List Int}{neg:Bool}:inD neg (.int i) (.lst (xs.map D.int))=on (.bl (if neg then !decide (i∈xs)else decide (i∈xs))):=by
 show(if(gs (.int i)&&(xs.map D.int).all gs)=PQ then _ else _)=_;rw[rS,Bool.and_true,P7 (show gs (.int i)=PQ from rfl),ww]
theorem MK{i:Nat}{l:List Nat}:((i:Int)∈nI l)↔i∈l:=by
 constructor
 ·intro h
  obtain⟨j,c,e⟩:=Qc.mp h;exact(Int.ofNat.inj e)▸c
 ·intro h
  exact Qc.mpr ⟨i,h,rfl⟩
theorem uP{i:Nat}{l:List Nat}{neg:Bool}:inD neg (.int (i:Int)) (nL l)=on (.bl (if neg then !decide (i∈l)else decide (i∈l))):=by
 rw[M0];simp only[MK]
theorem lJ{α:Type}{f:FD}(xs:List α)(u v:α->D)(p:α->Bool)(g:it δ β=on (.ok (xs.map u),β))
  (i:∀x∈xs,∃δ1,tg (u x) (cSt nv caps δ)=on δ1/\tt δ1 β=on (.ok (p x),β)/\(p x=PQ->f δ1 β=on (.ok (v x),β))) (j:xs.length<=Qp):dJ nv caps it tg tt (cEm f) δ β=on (.ok (.lst ((xs.filter p).map v)),β):=by
 refine qW g ?_ (by rw[PL];exact Qs (List.length_filter_le _ _) j);have gen:∀xs:List α,(∀x∈xs,∃δ1,tg (u x) (cSt nv caps δ)=on δ1/\tt δ1 β=on (.ok (p x),β)/\(p x=PQ->f δ1 β=on (.ok (v x),β)))->cLp tg tt (cEm f) (xs.map u) (cSt nv caps δ) β=on (.ok ((xs.filter p).map v),β):=by
  intro xs
  induction xs with
  |nil=>intro _;rfl
  |cons x xs ih=>
   intro h;obtain⟨δ1,d,c,l⟩:=h x P3;have e:=ih λy m=>h y (PR _ m);rw[Qf,cLp,Sd];cases q:p x with
   |true=>
    rw[q]at c;simp only[d,M.bind,M.ret,c,cEm,l q,e,P7,Qf,TD,SJ]
   |false=>
    rw[q]at c;simp only[d,M.bind,M.ret,c,e,Ql,Q6,SJ]
 exact gen xs i
theorem oq:∀(n:Nat) (xs:List D),cP n xs=(Qb xs.length).map λ(i:Nat)=>D.tup [.int ((n+i:Nat):Int),xs.getD i .non]
 |n,[]=>rfl
 |n,x::xs=>by
  rw[cP,oq (n+1) xs,Qe,XJ,Qf,Qa];congr 1;refine QD λi _=>?_;simp only[UX];rw[show n+1+i=n+(i+1) by omega];rfl
noncomputable abbrev bI(b:LP)(i j:Nat):Int×Int:=(b.getD i []).getD j (0,0)
theorem Shp.getD{α:Type}{m:List (List α)}(h:Shp r c m)(d:i<r):m[i]?=on (m.getD i [])/\(m.getD i []).length=c:=by
 obtain⟨row,e,l⟩:=h.at d;have:m.getD i []=row:=by rw[PV,e];rfl
 rw[this];exact⟨e,l⟩
theorem nV{α:Type}{l:List α}{i:Nat}{d:α}(h:i<l.length):l[i]?=on (l.getD i d):=by
 rw[PV,PP h];rfl
theorem IT{xs:List Int}(h:i<xs.length):ixD (.lst (xs.map D.int)) (.int (i:Int))=on (.int (xs.getD i 0)):=cm (by rw[PY,nV h];rfl)
theorem uL{b:LP}(sh:Shp r c b)(g:i<r)(h:j<c):ixD (da b) (.int (i:Int))=on (.lst ((b.getD i []).map pD))/\ixD (.lst ((b.getD i []).map pD)) (.int (j:Int))=on (pD (bI b i j)):=by
 obtain⟨e,l⟩:=sh.getD g;refine⟨sO (by rw[PY,e];rfl),cm ?_⟩;rw[PY,nV (d:=(0,0)) (by omega)];rfl
noncomputable def pQ(rs:List Int)(c:List Nat):Int:=(c.map λi=>rs.getD i 0).sum
def fm(cs:List Int)(b:LP)(r:Nat)(c:List Nat)(j:Nat):Int:=cs.getD j 0-S r λi=>if i∈c then 0 else(bI b i j).1
def ge(b:LP)(c:List Nat)(j:Nat):Int:=(c.map λi=>(bI b i j).2).sum
def sG(cs:List Int)(b:LP)(r c:Nat)(d e:List Nat):Int:=S c λj=>if j∈e then fm cs b r d j else ge b d j
def hF(b:LP)(c d:List Nat)(i j:Nat):Int:=(if i∈c/\j∉d then(bI b i j).2 else 0)-(if i∉c/\j∈d then(bI b i j).1 else 0)
theorem Ku{b:LP}{d e:List Nat}(h:d.Sublist (Qb r))(g:e.Sublist (Qb c)):
  sG cs b r c d e=pQ cs e+S r λi=>S c λj=>hF b d e i j:=by
 unfold sG pQ;rw[m8 g,BD,←s0];refine dQ λj l=>?_;by_cases q:j∈e
 ·rw[P7 q,P7 q]
  unfold fm;rw[Int.sub_eq_add_neg,←PH];congr 1;refine dQ λi g=>?_;unfold hF;by_cases z:i∈d
  ·simp[z,q]
  ·simp[z,q]
 ·rw[P5 q,P5 q,TK]
  unfold ge;rw[m8 h];refine dQ λi g=>?_;unfold hF;by_cases z:i∈d
  ·simp[z,q]
  ·simp[z,q]
variable{o e:Expr}{es:List Expr}{p apos:UE}{x m:QO}{n:Nat}{ks ns:List QO}{kws:List VA}{st:Q9}{sts:List Q9}
variable{ns0 names:List QO}{ip:IP}
variable{P:QG}{w:QT}{mg:QO->Option P0}{base:Rl}
variable{δ:Dn}{β β1 β2:Bg}
end
end L2.Pu
namespace L2.Pu
open PySem PySem.Spec PyProof PyProof.Rows
section
variable{X:Cx}{K:Qo}
variable{E:St->XK}{o e:Expr}{apos cpos:UE}
theorem JM(c:Nat->Ds->Bg->Prop)
  (step:∀n δ β,c n δ β->(∃β1,t (vwA δ) β=on (.ok PX,β1)/\Gw h δ β1 Q)\/∃β1,t (vwA δ) β=on (.ok PQ,β1)/\Gw g δ β1 (λo β2=>∃δ1,o= .nx δ1/\∃m,m<n/\c m δ1 β2)):
  ∀(n:Nat) (δ:Ds) (β:Bg),c n δ β->Gw (aY (gWh t g) h) δ β Q:=by
 have gen:∀(n:Nat) (δ:Ds) (β:Bg),c n δ β->∃k a b,cg t g k δ β=on (.nx a,b)/\Gw h a b Q:=by
  intro n
  induction n using W1 with
  |_ n ih=>
   intro δ β hI;rcases step n δ β hI with⟨β1,e,k⟩|⟨β1,e,k⟩
   ·exact⟨1,δ,β1,by unfold cg;simp only[e],k⟩
   ·obtain⟨o,β2,f,δ1,rfl,m,hm,d⟩:=k
    obtain⟨k,a,b,i,j⟩:=ih m hm δ1 β2 d;exact⟨k+1,a,b,by unfold cg;simp only[e,f,i],j⟩
 intro n δ β hI;obtain⟨k,a,b,e,l⟩:=gen n δ β hI;exact fQ (M7 e) l
end
end L2.Pu
namespace L2.Pu
open PySem PySem.Spec PyProof.Rows
section
variable{prog:QG}{w:QT}{A:Q7}{E:P0->P6->Prop}{s:P6}{l:PZ}{xs:Array (Int×Tok)}
theorem BU(f:A.handled=PM)(c:s.heap.IsTuple l (X5 xs))
  (h:∀h' d t',(∀b o,s.heap.get? b=on o->h'.get? b=on o)->Q (.int (preSum (numAt xs) xs.size) t') {s with heap:=h',toks:=d}):
  Qj (QA prog w) A (W3 (.builtin "sum") [.ref l]) Q E s:=by
 have a:l<s.heap.objs.size:=by obtain⟨_,e,_⟩:=c;exact Qz e
 refine call_sum_walkG (WM c ⟨_,_,_,_,_,_,numAt xs,rfl,Walks.tuple (A:=A.in1) f _ l (Q1 a) (X5 xs),⟨⟨_,Qk _ rfl,rfl,rfl⟩,c.at λo e=>PU _ e⟩,λb hb=>?_,(λ_ _=>intItems_at),λh' d t' g=>?_⟩)
 ·show b<(s.heap.push _).objs.size
  rw[RJ];rcases Qh.mp hb with rfl|hb
  ·exact Uu _
  ·rcases Qh.mp hb with rfl|hb
   ·exact Vm a
   ·cases hb
 ·have:=h h' d t' λb o e=>g b o (λhm=>by
   rcases Qh.mp hm with i|hm
   ·exact Qx (i▸Qz e) (Q0 _)
   ·cases hm) (PU _ e)
  simpa[X5]using this
variable{X:Cx}{K:Qo}
abbrev ID(K:Qo):List V->Hp->VK->Prop:=λxs H Q=>∃(p:PZ) (ns:List Int),xs=[.ref p]/\(SqL K H p (ns.map V.int)\/SqT K H p (ns.map V.int))/\Q (.int ns.sum) H
theorem AQ(b:X.calm=PQ):dF X (.builtin "sum") (ID X.K):=by
 intro a s f H xs us Q I r h;obtain⟨p,ns,rfl,hq|hq,q⟩:=h
 ·exact sd b a s f H _ us Q I r ⟨p,ns,rfl,hq,q⟩
 ·obtain⟨u,rfl,g⟩:=kW r
  cases g;obtain⟨its,i,pl,m⟩:=I.tuple hq;have c:=qb i;obtain⟨xs,ex⟩:=c.allInts.items;have d:=c.numsOf;have j:its=(X5 xs).toList:=by rw[←ex]
  rw[j,nums_intItems]at d;rw[ex]at pl;refine BU (I.ok.hd b) pl λh' n t' k=>?_;have e:preSum (numAt xs) xs.size=ns.sum:=by rw[preSum_eq,R5 (by simp),d]
  rw[e];exact⟨.int ns.sum,H,I.kept k,⟨_,rfl⟩,q⟩
def pb:List D->Option D
 |[.lst xs]=>(eV xs).map λns=> .int ns.sum
 |[.tup xs]=>(eV xs).map λns=> .int ns.sum
 |_=>PM
theorem MR:eL K (ID K) pb:=λF H β Q ds d vs fr h e k=>by
 unfold pb at e;split at e
 ·rename_i xs
  obtain⟨ns,q,rfl⟩:=Vw.mp e;obtain⟨v,rfl,g⟩:=DenL.one h;obtain⟨a,ys,rfl,r,dl⟩:=Den.sqL g;rw[intsOf_eq q]at dl;have b:=DenL.ints ns dl;subst b;exact⟨a,ns,rfl,.inl r,k _ H (To.refl fr) rfl⟩
 ·rename_i xs
  obtain⟨ns,q,rfl⟩:=Vw.mp e;obtain⟨v,rfl,g⟩:=DenL.one h;obtain⟨a,ys,rfl,r,dl⟩:=Den.sqT g;rw[intsOf_eq q]at dl;have b:=DenL.ints ns dl;subst b;exact⟨a,ns,rfl,.inr r,k _ H (To.refl fr) rfl⟩
 ·cases e
theorem LO(ns:List Int):pb [.lst (ns.map D.int)]=on (.int ns.sum):=eY ns
theorem LN(ns:List Int):pb [.tup (ns.map D.int)]=on (.int ns.sum):=eY ns
end
section
variable{X:Cx}{E:St->XK}{o e e1 e2:Expr}{es:List Expr}{pos p apos:UE}{x m:QO}{k n:Nat}{f C:PZ}{fd:Qu}{ps ks ns:List QO}{kws:List VA}
noncomputable def M9:G:=λ_ _=>PM
theorem cX{X:Cx}{st:Q9}{K:Qo}{E:St->XK}:PS X st (tG K H M9 E):=λ_ _ _ _ _ _ h=>by
 obtain⟨_,_,_,_,_,_,_,e,_⟩:=h;cases e
end
end L2.Pu
namespace L2.Pu
open PySem
noncomputable def facN:Nat->Nat
 |0=>1
 |n+1=>facN n*(n+1)
noncomputable def pr(l:List Nat):Nat:=l.foldr (·*·) 1
theorem zc:pr []=1:=rfl
theorem uj(l m:List Nat):pr (l++m)=pr l*pr m:=by
 induction l with
 |nil=>simp[pr]
 |cons x l ih=>
  show x*pr (l++m)=x*pr l*pr m;rw[ih,T4]
theorem JV{α:Type}{l:List α}{i:Nat}{x:α}(h:l[i]?=on x):l.take (i+1)=l.take i++[x]:=by
 rw[List.take_succ,h];rfl
theorem kB{α:Type}{f:α->Nat}{l:List α}{i:Nat}{x:α}(h:l[i]?=on x):pr ((l.take (i+1)).map f)=pr ((l.take i).map f)*f x:=by
 rw[JV h,QK,uj];simp[pr]
theorem kM:∀n,0<facN n
 |0=>by decide
 |n+1=>Nat.mul_pos (kM n) (by omega)
theorem EC:∀{n m:Nat},n<=m->facN n<=facN m:=by
 intro n m h
 induction h with
 |refl=>exact P9 _
 |step h ih=>exact Qs ih (XM _ (by omega))
theorem Pw:facN 40<=2^160:=by decide +kernel
theorem kN(h:n<=40):facN n<=2^160:=Qs (EC h) Pw
theorem pK(h:∀x∈l,0<x):0<pr l:=by
 induction l with
 |nil=>decide
 |cons x l ih=>exact Nat.mul_pos (h x P3) (ih λy a=>h y (PR _ a))
theorem xp{l:List Nat}(h:∀x∈l,x<=2^m):pr l<=2^(m*l.length):=by
 induction l with
 |nil=>exact Nat.one_le_two_pow
 |cons x l ih=>
  show x*pr l<=_;rw[Qe,Nat.mul_succ,Wx,Nat.pow_add];exact Nat.mul_le_mul (h x P3) (ih λy a=>h y (PR _ a))
theorem gG{l:List Nat}(h:x∈l):x<=l.sum:=by
 induction l with
 |nil=>cases h
 |cons y l ih=>
  rw[Qw];rcases Qh.mp h with rfl|h
  ·omega
  ·have:=ih h;omega
theorem cc(h:t<=2^m)(hm:m<=999):t<2^1000:=RM (Qs h (SQ (by decide) hm)) (Nat.pow_lt_pow_right (by decide) (by decide))
theorem jY{t n:Nat}(a:t<2^1000)(b:n<2^1000):CZ (.int (t:Int)) (.int (n:Int))=on (.int ((t*n:Nat):Int)):=by
 have c:gW (t:Int)=PQ:=Qd (by rw[Wd];exact a);have d:gW (n:Int)=PQ:=Qd (by rw[Wd];exact b);show(if(gW (t:Int)&&gW (n:Int))=PQ then _ else _)=_;simp only[c,d,Vg,Q4];rfl
theorem xV{t g:Nat}(d:0<g)(a:g<2^1000):xW (.int (t:Int)) (.int (g:Int))=on (.int ((t/g:Nat):Int)):=by
 have b:decide ((0:Int)<(g:Int))=PQ:=Qd (by omega);have c:decide (((g:Int)).natAbs.log2<9000)=PQ:=Qd (by
  rw[Wd];have:=(Nat.log2_lt (n:=g) (k:=1000) (by omega)).mpr a;omega)
 show(if(decide ((0:Int)<(g:Int))&&decide (((g:Int)).natAbs.log2<9000))=PQ then _ else _)=_;simp only[b,c,Vg,Q4];rfl
theorem gl(l:List Nat):(nI l).sum=((l.sum:Nat):Int):=by
 induction l with
 |nil=>rfl
 |cons x l ih=>
  show(x:Int)+(nI l).sum=_;rw[ih,Qw,Tf]
theorem pS{l:List Nat}{i:Nat}{d:D}(h:((nI l).map D.int)[i]?=on d):∃n,l[i]?=on n/\d= .int (n:Int):=by
 obtain⟨x,a,rfl⟩:=bB h;obtain⟨n,hn,rfl⟩:=bB a;exact⟨n,hn,rfl⟩
theorem mtq(l:List Nat):((nI l).map D.int).length=l.length:=by rw[PL,PL]
def Sq(l:List Nat)(d:D):Prop:=d=nL l\/d= .tup ((nI l).map D.int)
theorem Sq.seq(h:Sq l d):fU d=on ((nI l).map D.int):=by rcases h with rfl|rfl<;>rfl
theorem rg2'(a:0<=i)(b:i<=10^9)(c:0<=j)(d:j<=10^9):oF [.int i,.int j]=on (bf i (j-i).toNat):=by
 have q:(decide (-(2^62)<=i)&&decide (i<2^62)&&decide (-(2^62)<=j)&&decide (j<2^62))=PQ:=by
  simp only[QJ,QU];omega
 show(if(decide (-(2^62)<=i)&&decide (i<2^62)&&decide (-(2^62)<=j)&&decide (j<2^62))=PQ then on (bf i (j-i).toNat)else PM)=_;rw[P7 q]
theorem rg2{n:Nat}(h:n<=1000):oF [.int 2,.int ((n:Int)+1)]=on (bf 2 (n-1)):=by
 rw[rg2' (by decide) (by decide) (by omega) (by omega),show((n:Int)+1-2).toNat=n-1 by omega]
end L2.Pu
namespace L2.Pu
theorem BE(h:∀i<n,f i<=g i):S n f<=S n g:=by
 induction n with
 |zero=>exact Yt _
 |succ n ih=>
  rw[gx,gx];have a:=ih λi b=>h i (by omega);have c:=h n (by omega);omega
theorem JF(n:Nat)(f g:Nat->Int):S n (λi=>f i-g i)=S n f-S n g:=by
 induction n with
 |zero=>rfl
 |succ n ih=>rw[gx,gx,gx,ih];omega
noncomputable def fl(x y:Bool)(l h:Int):Int:=(if x=PQ/\y=PX then h else 0)-(if x=PX/\y=PQ then l else 0)
def slk(rs cs:Nat->Int)(lo a:Nat->Nat->Int)(r c:Nat)(X Y:Nat->Bool):Int:=
 S c (λj=>if Y j=PQ then cs j else 0)-S r (λi=>if X i=PQ then rs i else 0)+S r λi=>S c λj=>fl (X i) (Y j) (lo i j) (a i j)
section
variable{rs cs:Nat->Int}{lo hi:Nat->Nat->Int}{r c:Nat}
theorem Kl{g:Nat->Nat->Int}(h:∀i<r,∀j<c,lo i j<=g i j/\g i j<=hi i j)(d:∀i<r,rs i=S c (g i))(e:∀j<c,cs j=S r λi=>g i j)(X Y:Nat->Bool):0<=slk rs cs lo hi r c X Y:=by
 have f:S c (λj=>if Y j=PQ then cs j else 0)=S r λi=>S c λj=>if Y j=PQ then g i j else 0:=by
  rw[BD];refine dQ λj a=>?_;cases q:Y j with
  |true=>simp only[P7];exact e j a
  |false=>simp only[Ql,Q6];exact(mX r).symm
 have k:S r (λi=>if X i=PQ then rs i else 0)=S r λi=>S c λj=>if X i=PQ then g i j else 0:=by
  refine dQ λi hi=>?_;cases q:X i with
  |true=>simp only[P7];exact d i hi
  |false=>simp only[Ql,Q6];exact(mX c).symm
 unfold slk;rw[f,k,←JF,←s0];refine Int.le_trans (Int.le_of_eq (mX r).symm) (BE λi b=>?_);rw[←JF,←s0];refine Int.le_trans (Int.le_of_eq (mX c).symm) (BE λj a=>?_);have:=h i b j a;unfold fl;cases X i<;>cases Y j<;>simp<;>omega
noncomputable def chF:Nat->List (List Nat)
 |0=>[[]]
 |n+1=>chF n++(chF n).map (·++[n])
theorem i5:∀(n:Nat) (l:List Nat),l∈chF n->l.Sublist (Qb n)
 |0,l,h=>by rw[QH.mp h];exact .slnil
 |n+1,l,h=>by
  rw[SK];rcases RC.mp h with h|h
  ·exact(i5 n l h).trans (List.sublist_append_left _ _)
  ·obtain⟨a,h',rfl⟩:=Qc.mp h
   exact(i5 n a h').append (List.Sublist.refl _)
theorem wL:∀n:Nat,(chF n).length=2^n
 |0=>rfl
 |n+1=>by
  rw[chF,Qm,PL,wL n,XT];omega
end
section
variable{rs cs:List Int}{b:LP}{r c:Nat}
abbrev slB(rs cs:List Int)(b:LP)(r c:Nat)(X Y:Nat->Bool):Int:=slk (λi=>rs.getD i 0) (λj=>cs.getD j 0) (λi j=>(bI b i j).1) (λi j=>(bI b i j).2) r c X Y
theorem LT{a d:List Nat}(e:a.Sublist (Qb r))(f:d.Sublist (Qb c)):sG cs b r c a d-pQ rs a=slB rs cs b r c (λi=>decide (i∈a)) (λj=>decide (j∈d)):=by
 rw[Ku e f];unfold pQ slB slk;rw[m8 f,m8 e];have h:∀(n:Nat) (l:List Nat) (g:Nat->Int),S n (λj=>if decide (j∈l)=PQ then g j else 0)=S n (λj=>if j∈l then g j else 0):=λn l g=>dQ λj _=>by simp
 rw[h,h];have k:(S r λi=>S c λj=>hF b a d i j)=S r λi=>S c λj=>fl (decide (i∈a)) (decide (j∈d)) (bI b i j).1 (bI b i j).2:=by
  refine dQ λi _=>dQ λj _=>?_;unfold hF fl;simp
 simp only[k];omega
def uv(cs:List Int)(b:LP)(r c:Nat)(a:List Nat):List Nat:=(Qb c).filter λj=>decide (fm cs b r a j<ge b a j)
end
end L2.Pu
namespace L2.Pu
open PySem PySem.W
section
variable{tb:String->Option Builtin}{p:QG}{w:QT}{n₀:Nat}{ann:Option P0}{env:WY}{q:UE}
theorem jq(k:Nat){b:List Q9}(h:segRun tb p w n₀ ann 1 n s (piecesOf (b.take k) env c pos [Yc q])=on (.next,s',c,p'))
  (a:topRun tb p w n₀ ann N s' (restOf (b.drop k) env c p' [Yc q])=on r):topRun tb p w n₀ ann (n+N) s (restOf b env c pos [Yc q])=on r:=by
 have:=piece_app h a;rwa[Ti]at this
theorem DZ(e:b=[])(k:topRun tb p w n₀ ann N s ⟨doneF .next,c,pos,[Yc q]⟩=on r):topRun tb p w n₀ ann N s (restOf b env c pos [Yc q])=on r:=by
 subst e;exact piece_nil k
end
end L2.Pu
namespace L2.Hs
open PySem PySem.SetTable
def Rs(xs:Array Nat):Prop:=∀i k x y:Nat,i<k->xs[i]?=on x->xs[k]?=on y->x<y
theorem oY{xs:Array Nat}(r:Rs xs):∀(fuel lo c:Nat),lo<=c->c<=xs.size->c-lo<=fuel->(∀i x,i<lo->xs[i]?=on x->x<j)->(∀i x,c<=i->xs[i]?=on x->j<=x)->
  below.go xs j fuel lo c<=xs.size/\(∀i x,i<below.go xs j fuel lo c->xs[i]?=on x->x<j)/\∀i x,below.go xs j fuel lo c<=i->xs[i]?=on x->j<=x
 |0,lo,c,h1,h2,h3,a,b=>by
  have:lo=c:=by omega
  subst this;exact⟨h2,a,b⟩
 |fuel+1,lo,c,h1,h2,h3,a,b=>by
  unfold below.go;by_cases q:lo<c
  ·rw[P7 q]
   simp only;have hm:(lo+c)/2<xs.size:=by omega
   have e:xs[(lo+c)/2]?=on (xs.getD ((lo+c)/2) j):=by simp[SO,hm]
   by_cases z:xs.getD ((lo+c)/2) j<j
   ·rw[P7 z]
    refine oY r fuel _ _ (by omega) h2 (by omega) (λi x f d=>?_) b;by_cases w:i=(lo+c)/2
    ·subst w
     rw[e]at d;cases d;exact z
    ·exact UU (r i ((lo+c)/2) x _ (by omega) d e) z
   ·rw[P5 z]
    refine oY r fuel _ _ (by omega) (by omega) (by omega) a (λi x f d=>?_);by_cases w:i=(lo+c)/2
    ·subst w
     rw[e]at d;cases d;omega
    ·have:=r ((lo+c)/2) i _ x (by omega) e d
     omega
  ·rw[P5 q]
   have:lo=c:=by omega
   subst this;exact⟨h2,a,b⟩
theorem jv{xs:Array Nat}(r:Rs xs):below xs j<=xs.size/\(∀i x,i<below xs j->xs[i]?=on x->x<j)/\∀i x,below xs j<=i->xs[i]?=on x->j<=x:=
 oY r xs.size 0 xs.size (Q8 _) (P9 _) (by omega) (λi x h=>Qx h (Sz i)) (λi x h e=>by
  have:=(Re.mp e).1;omega)
theorem EO(r:Rs xs)(h:xs[i]?=on j):below xs j=i:=by
 obtain⟨c,a,b⟩:=jv (j:=j) r;rcases Tk (below xs j) i with q|q|q
 ·have d:=(Re.mp h).1
  have e:xs[below xs j]?=on xs[below xs j]:=getElem?_pos xs _ (by omega);have:=b _ _ (P9 _) e;have:=r _ _ _ _ q e h;omega
 ·exact q
 ·have:=a _ _ q h
  omega
theorem rB{t:Q3}(r:Rs t.place)(h:t.place[i]?=on j):t.slot j= .live i:=by
 unfold slot;simp only[EO r h,h,Ze,Q4]
theorem xa{t:Q3}(d:t.dummies=#[])(h:∀i:Nat,t.place[i]?≠on j):t.slot j= .empty:=by
 unfold slot;have a:(t.place[below t.place j]?==on j)=PX:=by
  rw[VO];exact h _
 have b:has t.dummies j=PX:=by unfold has;rw[d];rfl
 simp only[a,b,Ql,Q6]
noncomputable def itr(t:Q3):Nat->Probe->Probe
 |0,p=>p
 |n+1,p=>itr t n (t.advance p)
theorem oM(t:Q3):∀(n:Nat) (p:Probe),itr t (n+1) p=t.advance (itr t n p)
 |0,p=>rfl
 |n+1,p=>by
  show itr t (n+1) (t.advance p)=t.advance (itr t n (t.advance p));exact oM t n (t.advance p)
theorem nF(t:Q3):∀(n m:Nat) (p:Probe),itr t (n+m) p=itr t m (itr t n p)
 |0,m,p=>by rw[QS];rfl
 |n+1,m,p=>by
  rw[show n+1+m=(n+m)+1 by omega];exact nF t n m (t.advance p)
structure Pv (t:Q3) (p:Probe):Prop where
 j:p.j+p.more<=t.mask
 more:p.more<=9
 i:p.i<=t.mask
 pt:p.perturb<2^64
 du:p.dummy=PM
theorem rH{mask i:Nat}(h:i<=mask):i<=runEnd mask i/\runEnd mask i<=mask/\runEnd mask i-i<=9:=by
 unfold runEnd;by_cases q:i+9<=mask
 ·rw[P7 q];omega
 ·rw[P5 q];omega
noncomputable def blk(t:Q3)(i pt:Nat):Probe:={j:=i,more:=runEnd t.mask i-i,i,perturb:=pt,dummy:=PM}
theorem qq{t:Q3}(h:i<=t.mask)(a:pt<2^64):Pv t (blk t i pt):=by
 obtain⟨c,d,b⟩:=rH h;refine⟨?_,b,h,a,rfl⟩;show i+(runEnd t.mask i-i)<=t.mask;omega
theorem rp(t:Q3)(h:Int):t.probeStart h=blk t (bits h % (t.mask+1)) (bits h):=rfl
theorem nU(h:Int):bits h<2^64:=by
 unfold bits;have:=U3 h (show(0:Int)<2^64 by decide);have:=UG h (show(2^64:Int)≠0 by decide);omega
theorem oA(t:Q3)(h:Int):Pv t (t.probeStart h):=by
 rw[rp];exact qq (by have:=Wf (bits h) (show t.mask+1>0 by omega);omega) (nU h)
noncomputable abbrev lpI(mask i pt:Nat):Nat:=(i*5+1+pt/32) % (mask+1)
theorem BC{t:Q3}{p:Probe}(h:0<p.more):t.advance p={p with j:=p.j+1,more:=p.more-1}:=by
 unfold advance;rw[P7 h]
theorem wP{t:Q3}{p:Probe}(h:p.more=0)(hd:p.dummy=PM):t.advance p=blk t (lpI t.mask p.i p.perturb) (p.perturb/32):=by
 unfold advance;rw[P5 (by omega)];unfold leap blk;simp only[hd]
theorem xD(mask i pt:Nat):lpI mask i pt<=mask:=by
 have:=Wf (i*5+1+pt/32) (show mask+1>0 by omega);unfold lpI;omega
theorem BB{t:Q3}(v:Pv t p):Pv t (t.advance p):=by
 by_cases q:0<p.more
 ·rw[BC q]
  exact⟨by have:=v.j;show p.j+1+(p.more-1)<=t.mask;omega,by have:=v.more;show p.more-1<=9;omega,v.i,v.pt,v.du⟩
 ·rw[wP (by omega) v.du]
  exact qq (xD _ _ _) (RM (W0 _ _) v.pt)
theorem mE:∀(n:Nat) {p:Probe},Pv t p->Pv t (itr t n p)
 |0,_,v=>v
 |n+1,_,v=>mE n (BB v)
theorem qQ:∀(k:Nat) {p:Probe},Pv t p->k<=p.more->itr t k p={p with j:=p.j+k,more:=p.more-k}
 |0,p,v,h=>by cases p;rfl
 |k+1,p,v,h=>by
  rw[oM,qQ k v (by omega)];rw[BC (show 0<p.more-k by omega)];simp only[Probe.mk.injEq,and_true,true_and];omega
theorem oN{t:Q3}{p:Probe}(v:Pv t p):itr t (p.more+1) p=blk t (lpI t.mask p.i p.perturb) (p.perturb/32):=by
 rw[oM,qQ _ v (P9 _)];exact wP (UV _) v.du
def cB(mask:Nat):Nat->Nat×Nat->Nat×Nat
 |0,x=>x
 |k+1,x=>cB mask k (lpI mask x.1 x.2,x.2/32)
theorem jI(mask:Nat):∀(k:Nat) (x:Nat×Nat),cB mask (k+1) x=(lpI mask (cB mask k x).1 (cB mask k x).2,(cB mask k x).2/32)
 |0,x=>rfl
 |k+1,x=>jI mask k _
theorem uM{t:Q3}:∀(k:Nat) {p:Probe},Pv t p->∃n,n<=10*(k+1)/\itr t n p=blk t (cB t.mask (k+1) (p.i,p.perturb)).1 (cB t.mask (k+1) (p.i,p.perturb)).2
 |0,p,v=>⟨p.more+1,by have:=v.more;omega,oN v⟩
 |k+1,p,v=>by
  obtain⟨n,hn,e⟩:=uM k v;have a:=mE n v;rw[e]at a;refine⟨n+((blk t (cB t.mask (k+1) (p.i,p.perturb)).1 (cB t.mask (k+1) (p.i,p.perturb)).2).more+1),by have:=a.more;omega,?_⟩;rw[nF,e,oN a,jI t.mask (k+1)];rfl
def Mk(mask:Nat):Prop:=mask=7\/mask=31\/mask=127
noncomputable def orb(mask:Nat):Nat->Nat->Nat
 |0,i=>i
 |k+1,i=>orb mask k ((i*5+1) % (mask+1))
theorem nz(mask:Nat):∀(a b i:Nat),orb mask (a+b) i=orb mask b (orb mask a i)
 |0,b,i=>by rw[QS];rfl
 |a+1,b,i=>by
  rw[show a+1+b=(a+b)+1 by omega];exact nz mask a b _
def IH(mask:Nat):Bool:=(orb mask (mask+1) 0==0)&&(Qb (mask+1)).all λj=>(Qb (mask+1)).any λk=>orb mask k 0==j
theorem Mq{mask:Nat}(h:Mk mask):IH mask=PQ:=by
 rcases h with rfl|rfl|rfl<;>decide +kernel
theorem wf{mask i j:Nat}(h:Mk mask)(l:i<=mask)(m:j<=mask):∃k,k<=mask/\orb mask k i=j:=by
 have o:=Mq h;unfold IH at o;rw[QJ,TU,Tz]at o;obtain⟨g,ha⟩:=o;obtain⟨a,e,c⟩:=List.any_eq_true.mp (ha i (Qq.mpr (by omega)));obtain⟨b,f,d⟩:=List.any_eq_true.mp (ha j (Qq.mpr (by omega)));rw[TU]at c d;have:=Qq.mp e;have:=Qq.mp f;by_cases q:a<=b
 ·refine⟨b-a,by omega,?_⟩
  rw[←c,←nz,show a+(b-a)=b by omega,d]
 ·refine⟨b+(mask+1)-a,by omega,?_⟩
  rw[←c,←nz,show a+(b+(mask+1)-a)=(mask+1)+b by omega,nz,g,d]
theorem me(mask:Nat):∀(k i:Nat),cB mask k (i,0)=(orb mask k i,0)
 |0,i=>rfl
 |k+1,i=>by
  show cB mask k (lpI mask i 0,0/32)=_;rw[show(0/32:Nat)=0 from rfl,me mask k];rfl
theorem oE(mask:Nat):∀(a b:Nat) (x:Nat×Nat),cB mask (a+b) x=cB mask b (cB mask a x)
 |0,b,x=>by rw[QS];rfl
 |a+1,b,x=>by
  rw[show a+1+b=(a+b)+1 by omega];exact oE mask a b _
theorem oC(mask:Nat):∀(k:Nat) (x:Nat×Nat),(cB mask k x).2=x.2/32^k
 |0,x=>by simp[cB]
 |k+1,x=>by
  rw[jI,oC mask k x,XR,XT]
theorem v3(mask:Nat):∀(k:Nat) (x:Nat×Nat),x.1<=mask->(cB mask k x).1<=mask
 |0,x,h=>h
 |k+1,x,h=>by rw[jI];exact xD _ _ _
theorem PF{t:Q3}(h:Mk t.mask)(v:Pv t p)(a:j<=t.mask):∃n,n<10*turns t.mask/\(itr t n p).j=j:=by
 have z:(cB t.mask 13 (p.i,p.perturb)).2=0:=by
  rw[oC];exact Nat.div_eq_of_lt (Qv v.pt (by decide))
 have l:=v3 t.mask 13 (p.i,p.perturb) v.i;obtain⟨k,c,e⟩:=wf h l a;obtain⟨n,hn,b⟩:=uM (12+k) v;refine⟨n,by unfold turns;omega,?_⟩;rw[b];show(cB t.mask (12+k+1) (p.i,p.perturb)).1=j;rw[show 12+k+1=13+k by omega,oE,show cB t.mask 13 (p.i,p.perturb)=((cB t.mask 13 (p.i,p.perturb)).1,0)from T0 rfl z,me];exact e
abbrev Lv(t:Q3)(j:Nat):Prop:=∃k:Nat,t.place[k]?=on j
structure Tb (t:Q3) (hs:List Int):Prop where
 km:Mk t.mask
 sz:t.place.size=hs.length
 rs:Rs t.place
 le:∀i j:Nat,t.place[i]?=on j->j<=t.mask
 du:t.dummies=#[]
 nf:t.place.size*5<t.mask*3
 rch:∀(i:Nat) (h:Int) (j:Nat),hs[i]?=on h->t.place[i]?=on j->∃n,(itr t n (t.probeStart h)).j=j/\∀m<n,Lv t (itr t m (t.probeStart h)).j
theorem Mk.odd(h:Mk m):m % 2=1/\7<=m/\m<=127:=by
 rcases h with rfl|rfl|rfl<;>decide
theorem gap{xs:Array Nat}(r:Rs xs):∀n,n<=xs.size->(∀i:Nat,i<n->xs[i]?=on i)\/∃j,j<n/\∀i:Nat,xs[i]?≠on j
 |0,_=> .inl λi h=>Qx h (Sz i)
 |n+1,h=>by
  rcases gap r n (by omega)with q|⟨j,c,b⟩
  ·have e:xs[n]?=on xs[n]:=getElem?_pos xs n (by omega)
   by_cases z:xs[n]=n
   ·refine .inl λi d=>?_
    by_cases w:i=n
    ·subst w;rw[e,z]
    ·exact q i (by omega)
   ·have lt:n<=xs[n]:=by
     cases n with
     |zero=>omega
     |succ m=>
      have:=r m (m+1) _ _ (by omega) (q m (by omega)) e;omega
    refine .inr ⟨n,by omega,λi a=>?_⟩;rcases Tk i n with w|w|w
    ·rw[q i w]at a;cases a;omega
    ·subst w;rw[e]at a;exact z (QB a)
    ·have:=r n i _ _ w e a
     omega
  ·exact .inr ⟨j,by omega,b⟩
theorem M4{xs:Array Nat}(r:Rs xs):∃j,j<=xs.size/\∀i:Nat,xs[i]?≠on j:=by
 rcases gap r xs.size (P9 _)with q|⟨j,c,a⟩
 ·refine⟨xs.size,P9 _,λi e=>?_⟩
  have b:=(Re.mp e).1;rw[q i b]at e;cases e;omega
 ·exact⟨j,by omega,a⟩
theorem IY{t:Q3}(r:Rs t.place)(d:t.dummies=#[]):∀(fuel:Nat) (p:Probe) (e:Nat),Pv t p->e<fuel->¬Lv t (itr t e p).j->
  ∃m,m<=e/\(∀a<m,∃i,t.place[i]?=on (itr t a p).j/\hashAt i≠h)/\
   ((¬Lv t (itr t m p).j/\probe.go t hashAt h fuel p=on (.empty (itr t m p).j PM))\/∃i,t.place[i]?=on (itr t m p).j/\hashAt i=h/\probe.go t hashAt h fuel p=on (.candidate (itr t m p).j i (itr t (m+1) p)))
 |0,_,_,_,h,_=>Qx h (Sz _)
 |fuel+1,p,e,v,hf,he=>by
  unfold probe.go;by_cases q:Lv t p.j
  ·obtain⟨i,b⟩:=q
   rw[rB r b];simp only;by_cases z:hashAt i=h
   ·refine⟨0,Q8 _,λa hm=>Qx hm (Sz _),.inr ⟨i,b,z,?_⟩⟩
    rw[P7 (by rw[TU];exact z)];rfl
   ·rw[P5 (by rw[TU];exact z)]
    cases e with
    |zero=>exact Qx ⟨i,b⟩ he
    |succ e=>
     obtain⟨m,hm,ha,c⟩:=IY r d fuel (t.advance p) e (BB v) (by omega) he;refine⟨m+1,by omega,λa f=>?_,c⟩;cases a with
     |zero=>exact⟨i,b,z⟩
     |succ a=>exact ha a (by omega)
  ·rw[xa d (λi b=>q ⟨i,b⟩)]
   refine⟨0,Q8 _,λa hm=>Qx hm (Sz _),.inl ⟨q,?_⟩⟩;simp only[v.du];rfl
theorem Tb.free{t:Q3}(T:Tb t hs)(v:Pv t p):∃e,e<10*turns t.mask/\¬Lv t (itr t e p).j:=by
 obtain⟨j,f,a⟩:=M4 T.rs;have:=T.nf;have:=T.km.odd;obtain⟨e,b,c⟩:=PF T.km v (show j<=t.mask by omega);exact⟨e,b,λ⟨k,d⟩=>a k (by rw[←c];exact d)⟩
theorem z6{α:Type}{xs:Array α}{p:Nat}{x:α}(b:p<=xs.size)(i:Nat):(insertAt xs p x)[i]?=if i<p then xs[i]? else if i=p then on x else xs[i-1]?:=by
 unfold insertAt;rw[Array.getElem?_append];have a:((xs.extract 0 p).push x).size=p+1:=by simp;omega
 rw[a];by_cases q:i<p
 ·rw[P7 (by omega),P7 q,Ye,Yp]
  rw[P5 (by omega),Xy];simp;omega
 ·by_cases z:i=p
  ·subst z
   rw[P7 (by omega),P5 (by omega),P7 rfl,Ye,Yp];rw[P7 (by omega)]
  ·rw[P5 (by omega),P5 q,P5 z,Xy]
   by_cases w:i-1<xs.size
   ·rw[P7 (by omega)]
    congr 1;omega
   ·rw[P5 (by omega),S5 (by omega)]
theorem gn{α:Type}{xs:Array α}{p:Nat}{x:α}(a:p<=xs.size):(insertAt xs p x).size=xs.size+1:=by
 unfold insertAt;simp;omega
theorem Tb.put{t:Q3}{hs:List Int}(T:Tb t hs)(C:¬Lv t j)(hn:(itr t n (t.probeStart h)).j=j)(ha:∀m<n,Lv t (itr t m (t.probeStart h)).j)(nf:(t.place.size+1)*5<t.mask*3):
  (t.put j).1.dummies=#[]/\(t.put j).1.mask=t.mask/\(t.put j).1.place.size=t.place.size+1/\(t.put j).2<=t.place.size/\Tb (t.put j).1 (hs.take (t.put j).2++h::hs.drop (t.put j).2):=by
 obtain⟨b1,b2,b3⟩:=jv (j:=j) T.rs;have hd:has t.dummies j=PX:=by unfold has;rw[T.du];rfl
 have A:(t.put j).1.dummies=#[]:=by
  show(if has t.dummies j=PQ then _ else t.dummies)=#[];rw[hd,P5 P8,T.du]
 have ep:(t.put j).1.place=insertAt t.place (below t.place j) j:=rfl;have g:=λi=>z6 (x:=j) b1 i;have B:∀x,Lv t x->Lv (t.put j).1 x:=λx ⟨k,l⟩=>by
  by_cases q:k<below t.place j
  ·exact⟨k,by rw[ep,g,P7 q];exact l⟩
  ·exact⟨k+1,by rw[ep,g,P5 (by omega),P5 (by omega)];exact l⟩
 have it:∀m p,itr (t.put j).1 m p=itr t m p:=λm=>by
  induction m with
  |zero=>intro p;rfl
  |succ m ih=>intro p;exact ih (t.advance p)
 refine⟨A,rfl,by rw[ep,gn b1],b1,⟨T.km,?_,?_,?_,A,?_,?_⟩⟩
 ·rw[ep,gn b1,T.sz]
  have:(t.put j).2<=hs.length:=by rw[←T.sz];exact b1
  simp;omega
 ·intro i k x y r c e
  rw[ep,g]at c e;have F:∀k,t.place[k]?≠on j:=λk l=>C ⟨k,l⟩;by_cases q1:i<below t.place j
  ·rw[P7 q1]at c
   by_cases q2:k<below t.place j
   ·rw[P7 q2]at e
    exact T.rs i k x y r c e
   ·rw[P5 q2]at e
    by_cases q3:k=below t.place j
    ·rw[P7 q3]at e;cases e
     exact b2 i x q1 c
    ·rw[P5 q3]at e
     exact T.rs i (k-1) x y (by omega) c e
  ·rw[P5 q1]at c
   rw[P5 (by omega),P5 (by omega)]at e;by_cases q3:i=below t.place j
   ·rw[P7 q3]at c;cases c
    have L:=b3 (k-1) y (by omega) e;have:y≠j:=λz=>F (k-1) (by rw[e,z]);omega
   ·rw[P5 q3]at c
    exact T.rs (i-1) (k-1) x y (by omega) c e
 ·intro i x c
  rw[ep,g]at c;by_cases q1:i<below t.place j
  ·rw[P7 q1]at c;exact T.le i x c
  ·rw[P5 q1]at c
   by_cases q3:i=below t.place j
   ·rw[P7 q3]at c;cases c
    have v:=mE n (oA t h);have:=v.j;show j<=t.mask;omega
   ·rw[P5 q3]at c;exact T.le _ x c
 ·rw[ep,gn b1];exact nf
 ·intro i h' x H c
  have N:(t.put j).2<=hs.length:=by rw[←T.sz];exact b1
  have u:(t.put j).2=below t.place j:=rfl;rw[ep,g]at c;have d:(if i<below t.place j then hs[i]? else if i=below t.place j then on h else hs[i-1]?)=on h':=by
   rw[←H,u];by_cases q1:i<below t.place j
   ·rw[P7 q1,Rz (by rw[R4];omega),Xq q1]
   ·rw[P5 q1,Ru (by rw[R4];omega),R4,Nat.min_eq_left (by omega)]
    by_cases q3:i=below t.place j
    ·rw[P7 q3,q3,UV];rfl
    ·rw[P5 q3,show i-below t.place j=(i-1-below t.place j)+1 by omega,XA,YR]
     congr 1;omega
  have f:∀o,hs[o]?=on h'->t.place[o]?=on x->∃n,(itr (t.put j).1 n ((t.put j).1.probeStart h')).j=x/\∀m<n,Lv (t.put j).1 (itr (t.put j).1 m ((t.put j).1.probeStart h')).j:=λo a b=>by
   obtain⟨I,J,u⟩:=T.rch o h' x a b;refine⟨I,by rw[it];exact J,λm hm=>?_⟩;rw[it];exact B _ (u m hm)
  by_cases q1:i<below t.place j
  ·rw[P7 q1]at c d
   exact f i d c
  ·rw[P5 q1]at c d
   by_cases q3:i=below t.place j
   ·rw[P7 q3]at c d
    cases c;cases d;refine⟨n,by rw[it];exact hn,λm hm=>?_⟩;rw[it];exact B _ (ha m hm)
   ·rw[P5 q3]at c d
    exact f (i-1) d c
theorem uN{t u:Q3}(h:t.mask=u.mask):∀(n:Nat) (p:Probe),itr t n p=itr u n p
 |0,p=>rfl
 |n+1,p=>by
  show itr t n (t.advance p)=itr u n (u.advance p);have:t.advance p=u.advance p:=by unfold advance;rw[h]
  rw[this];exact uN h n _
theorem w5{t u:Q3}(h:t.mask=u.mask)(x:Int):t.probeStart x=u.probeStart x:=by unfold probeStart;rw[h]
noncomputable abbrev tm(mask:Nat):Q3:={mask,place:=#[],dummies:=#[],finger:=0,led:=PQ,moves:=0,plain:=PQ}
noncomputable abbrev fr(owner:Array (Option Nat))(j:Nat):Bool:=(owner.getD j (on 0)).isNone
theorem wy{mask:Nat}{owner:Array (Option Nat)}:∀(fuel i pt:Nat),i<=mask->pt<2^64->(∃b,b<fuel/\fr owner (cB mask b (i,pt)).1=PQ)->
  ∃n,layClean.free mask owner fuel i pt=on (itr (tm mask) n (blk (tm mask) i pt)).j/\fr owner (itr (tm mask) n (blk (tm mask) i pt)).j=PQ/\∀m<n,fr owner (itr (tm mask) m (blk (tm mask) i pt)).j=PX
 |0,_,_,_,_,⟨b,h,_⟩=>Qx h (Sz b)
 |fuel+1,i,pt,hi,hp,⟨b,hb,hf⟩=>by
  have v:=qq (t:=tm mask) hi hp;obtain⟨r1,B,C⟩:=rH hi;have f:(blk (tm mask) i pt).more=runEnd mask i-i:=rfl;have d:∀k,k<=runEnd mask i-i->(itr (tm mask) k (blk (tm mask) i pt)).j=i+k:=λk c=>by
   rw[qQ k v c];rfl
  unfold layClean.free;split
  ·rename_i k c
   obtain⟨g,l,o⟩:=List.find?_range_eq_some.mp c;have:=Qq.mp l;refine⟨k,by rw[d k (by omega)],by rw[d k (by omega)];exact g,λm hm=>?_⟩;rw[d m (by omega)];have:=o m hm;simpa using this
  ·rename_i c
   have hn:∀k,k<=runEnd mask i-i->fr owner (i+k)=PX:=λk p=>by
    have:=List.find?_range_eq_none.mp c k (by omega);simpa using this
   cases b with
   |zero=>
    have r:=hn 0 (by omega);exact Qx hf (by rw[show(cB mask 0 (i,pt)).1=i+0 from rfl,r];exact P8)
   |succ b=>
    obtain⟨n,u,y,A⟩:=wy fuel (lpI mask i pt) (pt/32) (xD _ _ _) (RM (W0 _ _) hp) ⟨b,by omega,hf⟩;have a:∀m,itr (tm mask) (runEnd mask i-i+1+m) (blk (tm mask) i pt)=itr (tm mask) m (blk (tm mask) (lpI mask i pt) (pt/32)):=λm=>by
     rw[nF,←f,oN v];rfl
    refine⟨runEnd mask i-i+1+n,by rw[a];exact u,by rw[a];exact y,λm hm=>?_⟩;by_cases q:m<=runEnd mask i-i
    ·rw[d m q];exact hn m q
    ·obtain⟨e,rfl⟩:∃e,m=runEnd mask i-i+1+e:=⟨m-(runEnd mask i-i+1),by omega⟩
     rw[a];exact A e (by omega)
structure Ow (mask:Nat) (owner:Array (Option Nat)) (hs:List Int):Prop where
 sz:owner.size=mask+1
 lt:∀j k:Nat,owner[j]?=on (on k)->k<hs.length
 un:∀j j' k:Nat,owner[j]?=on (on k)->owner[j']?=on (on k)->j=j'
 cn:owner.toList.countP (·.isSome)=hs.length
 ex:∀(k:Nat) (h:Int),hs[k]?=on h->∃j n:Nat,owner[j]?=on (on k)/\(itr (tm mask) n ((tm mask).probeStart h)).j=j/\∀m<n,∃k':Nat,owner[(itr (tm mask) m ((tm mask).probeStart h)).j]?=on (on k')
theorem xS{mask:Nat}{owner:Array (Option Nat)}(hs:owner.size=mask+1){j:Nat}(b:j<=mask):(fr owner j=PQ↔owner[j]?=on PM)/\(fr owner j=PX↔∃k:Nat,owner[j]?=on (on k)):=by
 have e:owner[j]?=on owner[j]:=getElem?_pos owner j (by omega);have a:owner.getD j (on 0)=owner[j]:=by simp[SO,show j<owner.size by omega]
 unfold fr;rw[a,e];cases owner[j]<;>simp
theorem Ow.step{mask:Nat}{owner:Array (Option Nat)}{hs:List Int}(O:Ow mask owner hs)(h:Int)(hm:Mk mask)(W:hs.length<=mask):
  ∃j,layClean.free mask owner (turns mask) (bits h % (mask+1)) (bits h)=on j/\Ow mask (owner.setIfInBounds j (on hs.length)) (hs++[h]):=by
 have u:bits h % (mask+1)<=mask:=by have:=Wf (bits h) (show mask+1>0 by omega);omega
 have⟨v,h1,h2⟩:∃v,v<=mask/\fr owner v=PQ:=by
  refine UF λz=>?_;have all:∀a∈owner.toList,Option.isSome a=PQ:=λa ha=>by
   obtain⟨i,g,e⟩:=V1 ha;have L:i<owner.size:=by simpa using g
   have N:fr owner i=PX:=by
    cases q:fr owner i with
    |false=>rfl
    |true=>exact Qx ⟨i,by have:=O.sz;omega,q⟩ z
   obtain⟨k,A⟩:=(xS O.sz (show i<=mask by have:=O.sz;omega)).2.mp N;have:owner[i]?=on a:=by rw[←Te,PP g,e]
   rw[this]at A;cases A;rfl
  have:=List.countP_eq_length.mpr all;rw[O.cn]at this;have:=O.sz;simp at*;omega
 have z:(cB mask 13 (bits h % (mask+1),bits h)).2=0:=by
  rw[oC];exact Nat.div_eq_of_lt (Qv (nU h) (by decide))
 have l:=v3 mask 13 (bits h % (mask+1),bits h) u;obtain⟨k,A,e⟩:=wf hm l h1;have Q:fr owner (cB mask (13+k) (bits h % (mask+1),bits h)).1=PQ:=by
  rw[oE,show cB mask 13 (bits h % (mask+1),bits h)=((cB mask 13 (bits h % (mask+1),bits h)).1,0)from T0 rfl z,me];show fr owner (orb mask k _)=PQ;rw[e];exact h2
 obtain⟨n,F,H,R⟩:=wy (owner:=owner) (turns mask) (bits h % (mask+1)) (bits h) u (nU h) ⟨13+k,by unfold turns;omega,Q⟩;have I:∀m,(itr (tm mask) m (blk (tm mask) (bits h % (mask+1)) (bits h))).j<=mask:=λm=>by
  have:=(mE m (qq (t:=tm mask) u (nU h))).j;show _<=(tm mask).mask;omega
 generalize J:(itr (tm mask) n (blk (tm mask) (bits h % (mask+1)) (bits h))).j=j at F H;have T:j<=mask:=by rw[←J];exact I n
 have o:owner[j]?=on PM:=(xS O.sz T).1.mp H;have p:j<owner.size:=by have:=O.sz;omega
 have set:∀x:Nat,(owner.setIfInBounds j (on hs.length))[x]?=if j=x then on (on hs.length)else owner[x]?:=λx=>by
  rw[Array.getElem?_setIfInBounds];by_cases q:j=x
  ·rw[P7 q,P7 q,P7 p]
  ·rw[P5 q,P5 q]
 refine⟨j,F,⟨by rw[Array.size_setIfInBounds];exact O.sz,λx k c=>?_,λx y k c f=>?_,?_,λk h' d=>?_⟩⟩
 ·rw[set]at c
  rw[Qm];by_cases q:j=x
  ·rw[P7 q]at c;cases c;simp
  ·rw[P5 q]at c
   have:=O.lt x k c;omega
 ·rw[set]at c f
  by_cases q:j=x
  ·rw[P7 q]at c;cases c
   by_cases r:j=y
   ·omega
   ·rw[P5 r]at f
    exact Qx (O.lt y _ f) (Q0 _)
  ·rw[P5 q]at c
   by_cases r:j=y
   ·rw[P7 r]at f;cases f
    exact Qx (O.lt x _ c) (Q0 _)
   ·rw[P5 r]at f
    exact O.un x y k c f
 ·rw[Array.toList_setIfInBounds,List.countP_set (by simpa using p),O.cn]
  have:owner.toList[j]'(by simpa using p)=PM:=by
   have e:=getElem?_pos owner j p;rw[o]at e;rw[Tl];exact(QB e).symm
  rw[this];simp
 ·by_cases q:k<hs.length
  ·rw[Rz q]at d
   obtain⟨x,U,a1,a2,a3⟩:=O.ex k h' d;refine⟨x,U,?_,a2,λm hm=>?_⟩
   ·rw[set,P5 (λw=>by subst w;rw[o]at a1;cases a1)];exact a1
   ·obtain⟨B,b⟩:=a3 m hm
    exact⟨B,by rw[set,P5 (λw=>by rw[←w,o]at b;cases b)];exact b⟩
  ·have C:=(P4.mp d).1
   rw[Qm,Ri]at C;have:k=hs.length:=by omega
   subst this;rw[Ru (P9 _),UV]at d;cases d;refine⟨j,n,by rw[set,P7 rfl],J,λm hm=>?_⟩;obtain⟨B,b⟩:=(xS O.sz (I m)).2.mp (R m hm);exact⟨B,by rw[rp,set,P5 (λw=>by rw[←w,o]at b;cases b)];exact b⟩
theorem Ow.nil(mask:Nat):Ow mask (Array.replicate (mask+1) PM) []:=by
 have g:∀x:Nat,(Array.replicate (mask+1) (PM:Option Nat))[x]?=if x<mask+1 then on PM else PM:=λx=>Array.getElem?_replicate;refine⟨by simp,λj k h=>?_,λj b k h=>?_,by simp,λk h a=>by simp at a⟩
 ·rw[g]at h
  split at h<;>cases h
 ·rw[g]at h
  split at h<;>cases h
theorem uI{mask:Nat}(hm:Mk mask):∀(l:List Int) (owner:Array (Option Nat)) (hs:List Int),Ow mask owner hs->hs.length+l.length<=mask+1->∃a,l.foldl (λ(acc:Option (Array (Option Nat)×Nat)) h=>do
   let (owner,k) ←acc
   let j ←layClean.free mask owner (turns mask) (bits h % (mask+1)) (bits h)
   SB (owner.setIfInBounds j (on k),k+1)) (on (owner,hs.length))=on (a,hs.length+l.length)/\Ow mask a (hs++l)
 |[],owner,hs,O,_=>⟨owner,rfl,by rw[QY];exact O⟩
 |h::l,owner,hs,O,hl=>by
  rw[Qe]at hl;obtain⟨j,e,d⟩:=O.step h hm (by omega);obtain⟨f,b,c⟩:=uI hm l _ (hs++[h]) d (by rw[Qm,Ri];omega);refine⟨f,?_,by rw[Ra]at c;exact c⟩;rw[List.foldl_cons];simp only[Option.bind_eq_bind,Tt,e];rw[Qm,Ri]at b;rw[Qe,show hs.length+(l.length+1)=hs.length+1+l.length by omega];exact b
theorem MQ{mask:Nat}(hm:Mk mask)(hs:Array Int)(b:hs.size<=mask+1):∃owner,layClean mask hs=on owner/\Ow mask owner hs.toList:=by
 obtain⟨o,e,O⟩:=uI hm hs.toList _ [] (Ow.nil mask) (by simpa using b);refine⟨o,?_,O⟩;unfold layClean;rw[←Array.foldl_toList];have a:=e;simp only[WQ]at a;exact(Rh (Option.map (·.1)) a).trans rfl
theorem uW{α β:Type}{f:α->Option β}{g:α->β}:∀{l:List α},(∀a∈l,f a=on (g a))->l.filterMap f=l.map g
 |[],_=>rfl
 |a::l,h=>by
  rw[RQ,h a P3,Qf,uW λb c=>h b (PR a c)]
noncomputable def cu(mask:Nat)(owner:Array (Option Nat)):List (Nat×Nat):=(Qb (mask+1)).filterMap λj=>(owner.getD j PM).map (j,·)
theorem DJ{mask:Nat}{owner:Array (Option Nat)}(hs:owner.size=mask+1){j k:Nat}:(j,k)∈cu mask owner↔owner[j]?=on (on k):=by
 unfold cu;rw[UY];constructor
 ·rintro⟨x,c,e⟩
  have d:=Qq.mp c;have a:owner.getD x PM=owner[x]:=by simp[SO,show x<owner.size by omega]
  rw[a]at e;cases q:owner[x]with
  |none=>rw[q]at e;cases e
  |some f=>
   rw[q]at e;simp only[RX,Xr,Prod.mk.injEq]at e;obtain⟨rfl,rfl⟩:=e;rw[getElem?_pos owner x (by omega),q]
 ·intro e
  have b:=(Re.mp e).1;refine⟨j,Qq.mpr (by omega),?_⟩;have a:owner.getD j PM=owner[j]:=by simp[SO,b]
  rw[getElem?_pos owner j b]at e;rw[a,QB e];rfl
theorem zL(mask:Nat)(owner:Array (Option Nat)):(cu mask owner).Pairwise λa b=>a.1<b.1:=by
 unfold cu;refine List.Pairwise.filterMap _ (λa f h b d g c=>?_) List.pairwise_lt_range;cases q:owner.getD a PM with
 |none=>rw[q]at d;cases d
 |some k=>
  rw[q]at d;cases e:owner.getD f PM with
  |none=>rw[e]at c;cases c
  |some i=>
   rw[e]at c;cases d;cases c;exact h
theorem yZ{t:Q3}{hs:Array Int}(hm:Mk (sizeAbove wanted-1))(nf:hs.size*5<(sizeAbove wanted-1)*3):
  ∃(t':Q3) (c:Array Nat),t.relaid hs wanted=on (t',c)/\c.toList.Perm (Qb hs.size)/\Tb t' (c.toList.map λk=>hs.getD k 0)/\t'.led=t.led/\t'.plain=t.plain:=by
 have ho:=hm.odd;obtain⟨owner,e,O⟩:=MQ hm hs (by omega);generalize T:sizeAbove wanted-1=mask at*;have d:hs.toList.length=hs.size:=by simp
 have f:=zL mask owner;have g:∀{j k:Nat},(j,k)∈cu mask owner↔owner[j]?=on (on k):=DJ O.sz;have U:t.relaid hs wanted=on ({mask,place:=((cu mask owner).map (·.1)).toArray,dummies:=#[],finger:=t.finger,led:=t.led,moves:=t.movedTo mask,plain:=t.plain},((cu mask owner).map (·.2)).toArray):=by
  unfold relaid laid;rw[T,e];rfl
 have perm:((cu mask owner).map (·.2)).Perm (Qb hs.size):=by
  refine(List.perm_ext_iff_of_nodup ?_ Vv).mpr λk=>?_
  ·unfold List.Nodup
   rw[Uh];refine List.Pairwise.imp_of_mem (R:=λa b=>a.1<b.1) (λ{a b} ha B h z=>?_) f;obtain⟨j,k⟩:=a;obtain⟨r,v⟩:=b;have W:k=v:=z;subst W;have:=O.un j r k (g.mp ha) (g.mp B);have h':j<r:=h;omega
  ·rw[Qc,Qq]
   constructor
   ·rintro⟨⟨j,v⟩,h,rfl⟩
    have:=O.lt j v (g.mp h);rwa[d]at this
   ·intro A
    obtain⟨j,n,C,_⟩:=O.ex k _ (PP (by rw[d];exact A));exact⟨(j,k),g.mpr C,rfl⟩
 have l:(cu mask owner).length=hs.size:=by
  have:=perm.length_eq;rwa[PL,QC]at this
 refine⟨_,_,U,by simpa using perm,?_,rfl,rfl⟩;have pg:∀{i:Nat} {x:Nat},(((cu mask owner).map (·.1)).toArray)[i]?=on x->∃k,(cu mask owner)[i]?=on (x,k):=λ{i x} h=>by
  rw[VL,PY]at h;cases q:(cu mask owner)[i]? with
  |none=>rw[q]at h;cases h
  |some a=>
   rw[q]at h;cases h;exact⟨a.2,rfl⟩
 have F:∀{j k:Nat},owner[j]?=on (on k)->∃i:Nat,(((cu mask owner).map (·.1)).toArray)[i]?=on j:=λ{j k} h=>by
  obtain⟨i,X,Y⟩:=V1 (g.mpr h);exact⟨i,by rw[VL,PY,PP X,Y];rfl⟩
 refine⟨hm,?_,?_,?_,rfl,?_,?_⟩
 ·show(((cu mask owner).map (·.1)).toArray).size=_
  simp
 ·intro i k x y H Z hy
  obtain⟨a,ha⟩:=pg Z;obtain⟨b,B⟩:=pg hy;obtain⟨C,I⟩:=P4.mp ha;obtain⟨h2,e2⟩:=P4.mp B;have:=R8.mp f i k C h2 H;rw[I,e2]at this;exact this
 ·intro i j h
  obtain⟨a,ha⟩:=pg h;have:=(Re.mp (g.mp (Qi ha))).1;have:=O.sz;show j<=mask;omega
 ·show(((cu mask owner).map (·.1)).toArray).size*5<mask*3
  have:(((cu mask owner).map (·.1)).toArray).size=hs.size:=by simp[l]
  omega
 ·intro i h j J hj
  obtain⟨k,A⟩:=pg hj;have o:=g.mp (Qi A);have eh:hs.toList[k]?=on h:=by
   rw[PY]at J;have I:((cu mask owner).map (·.2)).toArray.toList[i]?=on k:=by
    show((cu mask owner).map (·.2))[i]?=_;rw[PY,A];rfl
   rw[I]at J;have N:k<hs.size:=by have:=O.lt j k o;rwa[d]at this
   have:hs.getD k 0=h:=QB J;rw[Te,getElem?_pos hs k N,←this];simp[SO,N]
  obtain⟨r,n,a1,a2,a3⟩:=O.ex k h eh;have:=O.un j r k o a1;subst this;have tr:∀(u:Q3),u.mask=mask->∀m,itr u m (u.probeStart h)=itr (tm mask) m ((tm mask).probeStart h):=λu Q m=>by
   rw[w5 (u:=tm mask) Q,uN (u:=tm mask) Q]
  refine⟨n,by rw[tr _ rfl];exact a2,λm L=>?_⟩;rw[tr _ rfl];obtain⟨v,p⟩:=a3 m L;exact F p
theorem rK{t:Q3}(a:t.probe f h p=r)(T:Tb t hs)(v:Pv t p)(b:e<10*turns t.mask)(c:¬Lv t (itr t e p).j):
  ∃m,m<=e/\(∀d<m,∃i,t.place[i]?=on (itr t d p).j/\f i≠h)/\
   ((¬Lv t (itr t m p).j/\r=on (.empty (itr t m p).j PM))\/∃i,t.place[i]?=on (itr t m p).j/\f i=h/\r=on (.candidate (itr t m p).j i (itr t (m+1) p))):=by
 subst a;exact IY T.rs T.du _ p e v b c
section
variable{prog:QG}{w:QT}{A:Q7}{E:P0->P6->Prop}{s:P6}
noncomputable abbrev IKd(prog:QG)(w:QT):HeapKind prog w (List Int):=tupleKind (VX prog w)
noncomputable abbrev hsh(prog:QG)(w:QT)(k:List Int):Int:=(IKd prog w).hash k
theorem Tb.fits{t:Q3}{hs:List Int}(T:Tb t hs)(hn:hs.length=n):t.fits n=PQ:=by
 have:=T.nf;have:=T.sz;have:=T.km.odd;unfold WW SetTable.fill;rw[T.du];simp;omega
theorem items_int(h:ItemsAre (VX prog w) ks vs):∀v∈vs,∃n t,v=Tw n t:=by
 induction h with
 |nil=>intro v hv;cases hv
 |@cons k v' ks vs h1 _ ih=>
  intro v hv;rcases Qh.mp hv with rfl|hv
  ·obtain⟨t,e⟩:=Wh h1
   exact⟨_,t,e⟩
  ·exact ih v hv
theorem yq{M:Model}{o:Qy}(b:s.heap.get? a=on o)(h:Q o.cls s):Qj M A (typeOf (.ref a)) Q E s:=by
 show Qj M A (loadPart a _>>=_) Q E s;exact My (wpAny_loadPart b (PN h))
theorem uq(f:(IKd prog w).is s.heap k x)(h:Q PX s):Qj (QA prog w) A (W5 8 (.ref x)) Q E s:=by
 obtain⟨o,b,n,e,g,hd,i⟩:=f;unfold W5;refine My (yq e ?_);rw[g];simp only[Ze,Q4];refine My (PN ?_);simp only[SC,Ql,Q6];refine My (R3 e hd ?_);refine My ?_;show Qj _ _ (forIn b _ _) _ _ s;rw[←T1];refine VQ _ (λrest r s'=>r.1=PM/\s'=s/\∀v∈rest,∃n t,v=Tw n t) _ ?_ ?_ _ _ ⟨rfl,rfl,items_int i⟩
 ·rintro v rest r s' ⟨c,rfl,a⟩
  obtain⟨n,t,rfl⟩:=a v P3;unfold W5;refine My (PN ?_);simp only[Ql,Q6];exact PN ⟨rfl,rfl,λu d=>a u (PR _ d)⟩
 ·rintro⟨r1,j⟩ s' ⟨c,rfl,_⟩
  simp only at c;subst c;exact PN h
theorem EL(e:(IKd prog w).is s.heap k x)(h:Q PQ s):Qj (QA prog w) A (hashByValue 8 (.ref x)) Q E s:=by
 have f:=Xz (s:=s) e;obtain⟨o,b,n,g,j,hd,i⟩:=e;unfold hashByValue;refine My (SU f F.slot_tuple_hash.lookup ?_);simp only;refine My (R3 g hd ?_);refine My ?_;show Qj _ _ (forIn b _ _) _ _ s;rw[←T1];refine VQ _ (λrest r s'=>r.1=PM/\s'=s/\∀v∈rest,∃n t,v=Tw n t) _ ?_ ?_ _ _ ⟨rfl,rfl,items_int i⟩
 ·rintro v rest r s' ⟨c,rfl,a⟩
  obtain⟨n,t,rfl⟩:=a v P3;unfold hashByValue;refine My (PN ?_);simp only[SC,Ql,Q6];exact PN ⟨rfl,rfl,λu d=>a u (PR _ d)⟩
 ·rintro⟨r1,l⟩ s' ⟨c,rfl,_⟩
  simp only at c;subst c;exact PN h
theorem KS(f:(IKd prog w).is s.heap k x):∀(l:List (List Int×PZ)) {Q:Bool->P6->Prop},(∀y∈l,(IKd prog w).is s.heap y.1 y.2)->Q PX s->Qj (QA prog w) A (W7 (.ref x) (l.map λy=>Qt y.2)) Q E s:=by
 intro l Q h i;unfold W7;refine My ?_;refine VQ _ (λrest r s'=>r.1=PM/\s'=s/\∃b:List (List Int×PZ),rest=b.map (λy=>Qt y.2)/\∀y∈b,(IKd prog w).is s.heap y.1 y.2) _ ?_ ?_ _ _ ⟨rfl,rfl,l,rfl,h⟩
 ·rintro v rest r s' ⟨d,rfl,b,e,a⟩
  cases b with
  |nil=>cases e
  |cons y b=>
   cases e;have g:=a y P3;have nxt:(PM:Option Bool)=PM/\s'=s'/\∃c:List (List Int×PZ),b.map (λy=>Qt y.2)=c.map (λy=>Qt y.2)/\∀y∈c,(IKd prog w).is s'.heap y.1 y.2:=⟨rfl,rfl,b,rfl,λu j=>a u (PR y j)⟩;by_cases q:x==y.2
   ·simp only[q,Bool.true_or,Q4]
    exact PN nxt
   ·simp only[q,Bool.false_or,carriedByValue,Uf,Ql,Q6]
    refine My ((IKd prog w).quiet f ?_);simp only[SC,Ql,Q6];refine My ((IKd prog w).quiet g ?_);simp only[SC,Ql,Q6];refine My (uq f ?_);simp only[Ql,Q6];refine My (uq g ?_);simp only[Ql,Q6];exact PN nxt
 ·rintro⟨r1,m⟩ s' ⟨d,rfl,_⟩
  simp only at d;subst d;exact PN i
theorem yJ{o:Qy}{es:Array (Int×P0)}{t:Q3}{xs:List (List Int×PZ)}(hu:A.units<Va)(ho:s.heap.get? a=on o)(hd:o.data= .set es ep t)
  (F:es.toList=xs.map λx=>(hsh prog w x.1,Qt x.2)) (hx:∀x∈xs,(IKd prog w).is s.heap x.1 x.2) (T:Tb t (xs.map λx=>hsh prog w x.1)) (hk:(IKd prog w).is s.heap k b)
  (he:e<10*turns t.mask) (R:¬Lv t (itr t e (t.probeStart (hsh prog w k))).j) (ha:∀m<e,Lv t (itr t m (t.probeStart (hsh prog w k))).j)
  (q1:k∈xs.map (·.1)->Q (.there PM) s) (q2:k∉xs.map (·.1)->Q (.free (itr t e (t.probeStart (hsh prog w k))).j PX) s):
  ∀(n c m:Nat) (st:Option Probe),e=m+n->n<c->st.getD (t.probeStart (hsh prog w k))=itr t m (t.probeStart (hsh prog w k))->(∀g<m,∀(i:Nat) x,t.place[i]?=on (itr t g (t.probeStart (hsh prog w k))).j->xs[i]?=on x->x.1≠k)->
   Qj (QA prog w) A (setSearchFrom a (.ref b) (hsh prog w k) PQ c st) Q E s:=by
 have hsz:es.size=xs.length:=by rw[←QN,F,PL]
 have U:t.fits es.size=PQ:=T.fits (by rw[PL,hsz]);have l:∀i:Nat,es[i]?=(xs[i]?).map λx=>(hsh prog w x.1,Qt x.2):=λi=>by rw[←Te,F,PY]
 have gw:t.gaveWay=PX:=by
  have:=T.km.odd;unfold SetTable.gaveWay;rw[VO];omega
 intro n
 induction n using W1 with
 |_ n ih=>
  intro c m st em hfu hst p;cases c with
  |zero=>omega
  |succ c=>
   unfold setSearchFrom;refine My (RZ ho hd U ?_)
   dsimp only
   rw[hst,gw];simp only[Ql,Q6];have v:=mE m (oA t (hsh prog w k));have it:∀n',itr t n' (itr t m (t.probeStart (hsh prog w k)))=itr t (m+n') (t.probeStart (hsh prog w k)):=λn'=>(nF t m n' _).symm;have same:∀{i N j:Nat},t.place[i]?=on j->t.place[N]?=on j->i=N:=λ{i N j} u C=>by
    rcases Tk i N with q|q|q
    ·exact Qx (T.rs i N j j q u C) (Q0 j)
    ·exact q
    ·exact Qx (T.rs N i j j q C u) (Q0 j)
   split
   ·rename_i W heq
    obtain⟨g,hm',r,d⟩:=rK heq T v (e:=n) (by omega) (by rw[it,←em];exact R);rcases d with⟨X,H⟩|⟨i,O,hfi,H⟩
    ·cases H
     have Y:g=n:=by
      rcases Uj g n with q|q
      ·rw[it]at X
       exact Qx (ha (m+g) (by omega)) X
      ·omega
     subst Y;refine PN ?_;rw[it,←em];refine q2 λZ=>?_;obtain⟨x,hx1,I⟩:=Qc.mp Z;obtain⟨B,hi0,ei0⟩:=V1 hx1;have h:xs[B]?=on x:=by rw[PP hi0,ei0]
     have J:B<t.place.size:=by have:=T.sz;rw[PL]at this;omega
     obtain⟨n0,a1,a2⟩:=T.rch B (hsh prog w k) t.place[B] (by rw[PY,h,←I];rfl) (getElem?_pos t.place B J);have hlt:n0<e:=by
      rcases Tk n0 e with q|q|q
      ·exact q
      ·subst q
       exact Qx ⟨B,by rw[a1];exact getElem?_pos t.place B J⟩ R
      ·exact Qx (a2 e q) R
     have hp0:t.place[B]?=on (itr t n0 (t.probeStart (hsh prog w k))).j:=by rw[a1];exact getElem?_pos t.place B J
     by_cases q:n0<m
     ·exact p n0 q B x hp0 h I
     ·obtain⟨i,u,C⟩:=r (n0-m) (by omega)
      rw[it,show m+(n0-m)=n0 by omega]at u;have:=same u hp0;subst this;refine C ?_;show(es[i]?.map (·.1)).getD 0=_;rw[l,h,←I];rfl
    ·cases H
     have L:i<xs.length:=by
      have u:=(Re.mp O).1;have:=T.sz;rw[PL]at this;omega
     have h:xs[i]?=on xs[i]:=PP L;have hei:es[i]?=on (hsh prog w xs[i].1,Qt xs[i].2):=by rw[l,h];rfl
     have hxk:=hx xs[i] (QP L);rw[it]at O;simp only;have el:(Rf (λx=>x.snd) (Array.filter (λx=>x.fst==hsh prog w k) es).toList)=(xs.filter λy=>hsh prog w y.1==hsh prog w k).map λy=>Qt y.2:=by
      rw[Array.toList_filter,F,List.filter_map,Qa];rfl
     rw[el];have seen:∀{Q':Bool->P6->Prop},Q' PX s->Qj (QA prog w) A (W7 (.ref b) ((xs.filter λy=>hsh prog w y.1==hsh prog w k).map λy=>Qt y.2)) Q' E s:=λhq=>KS hk _ (λy hy=>hx y (RK.mp hy).1) hq;have sm:t.sameMemory t.moves t.mask=on PQ:=by unfold sameMemory;simp
     have sl:t.slot (itr t (m+g) (t.probeStart (hsh prog w k))).j= .live i:=rB T.rs O;cases hled:t.led
     all_goals simp only[Xa,SC,Ql,Q4,Q6,it,hei]
     all_goals try refine My (seen ?_)
     all_goals try simp only[Ql,Q6]
     all_goals
      refine My (RG ((IKd prog w).eqBool hu hxk hk (My (RZ ho hd U ?_))));simp only[TY];by_cases q:xs[i].1=k
      ·rw[P7 (Qd q)]
       exact PN (q1 (Qc.mpr ⟨xs[i],QP L,q⟩))
      ·rw[P5 (by simpa using q)]
       simp only[sm,Q4,sl,hei];refine My ?_;unfold isSame;simp only[Ze,Q4];refine PN (My (PN ?_));simp only[Q4];rw[P5 (by simpa using q)];have Y:g<n:=by
        rcases Uj g n with z|z
        ·exact z
        ·obtain rfl:g=n:=by omega
         rw[←em]at O;exact Qx ⟨i,O⟩ R
       refine ih (n-(g+1)) (by omega) c (m+g+1) _ (by omega) (by omega) rfl λm2 hm2 i2 x2 u C z=>?_;by_cases q1:m2<m
       ·exact p m2 q1 i2 x2 u C z
       ·by_cases q2:m2=m+g
        ·subst q2
         have:=same O u;subst this;rw[h]at C;cases C;exact q z
        ·obtain⟨i3,h3,h4⟩:=r (m2-m) (by omega)
         rw[it,show m+(m2-m)=m2 by omega]at h3;have:=same h3 u;subst this;refine h4 ?_;show(es[i3]?.map (·.1)).getD 0=_;rw[l,C,←z];rfl
   ·rename_i hno
    have key:∀f:Nat->Int,(∀W,t.probe f (hsh prog w k) (itr t m (t.probeStart (hsh prog w k)))=on W->False)->False:=λf U=>by
     obtain⟨g,hm',r,d⟩:=rK (f:=f) rfl T v (e:=n) (by omega) (by rw[it,←em];exact R);rcases d with⟨_,H⟩|⟨i,_,_,H⟩
     ·exact U _ H
     ·exact U _ H
    exact(key _ hno).elim
theorem O7{P:Nat->Prop}:∀n,P n->∃m,m<=n/\P m/\∀k<m,¬P k:=by
 intro n
 induction n using W1 with
 |_ n ih=>
  intro h;by_cases q:∃k,k<n/\P k
  ·obtain⟨k,a,b⟩:=q
   obtain⟨m,d,c⟩:=ih k a b;exact⟨m,by omega,c⟩
  ·exact⟨n,P9 n,h,λk a b=>q ⟨k,a,b⟩⟩
def q8(prog:QG)(w:QT)(h:Rl)(a:PZ)(xs:List (List Int×PZ)):Prop:=
 ∃o es ep t,h.get? a=on o/\o.ExactSet/\o.data= .set es ep t/\(es.toList=xs.map λx=>(hsh prog w x.1,Qt x.2))/\(xs.map (·.1)).Nodup/\(∀x∈xs,(IKd prog w).is h x.1 x.2)/\(Tb t (xs.map λx=>hsh prog w x.1))/\t.plain=PQ/\t.led=!(w.params.followText "set-order")
theorem o3{h h':Rl}{o:Qy}{es ep t}(x:(IKd prog w).is h k b)(i:h.get? a=on o)(hd:o.data= .set es ep t)(hs:QI a h h'):(IKd prog w).is h' k b:=by
 obtain⟨g,c,n,e,j,d,l⟩:=x;have f:b≠a:=by
  rintro rfl;obtain rfl:g=o:=QB (e.symm.trans i);rw[hd]at d;exact nomatch d
 exact⟨g,c,n,(hs.2 b f).trans e,j,d,l⟩
theorem rn{h:Rl}{o:Qy}(c:h.get? a=on o)(hd:o.data= .set es ep t)(b:Array (Int×P0))(t':Q3):(h.update a (VI b t')).get? a=on {o with data:= .set b (ep+1) t'}:=by
 have:=Th (VI b t') c (by rw[putSet_of b t' hd];rfl);rw[putSet_of b t' hd]at this;exact this
theorem Mc{t:Q3}(T:Tb t hs)(j:Nat):(t.put j).1.dummies=#[]/\(t.put j).1.place.size=t.place.size+1/\(t.put j).2<=t.place.size:=by
 obtain⟨b1,b2,b3⟩:=jv (j:=j) T.rs;have hd:has t.dummies j=PX:=by unfold has;rw[T.du];rfl
 refine⟨?_,gn b1,b1⟩;show(if has t.dummies j=PQ then _ else t.dummies)=#[];rw[hd,P5 P8,T.du]
theorem Lc{α β:Type}{xs:List α}{ys:Array β}{f:α->β}(e:ys.toList=xs.map f){p:Nat}(c:p<=ys.size)(x:α):(insertAt ys p (f x)).toList=(xs.take p++x::xs.drop p).map f:=by
 unfold insertAt;simp only[Array.toList_append,YM,Array.toList_extract];have a:(ys.toList.extract 0 p)=ys.toList.take p:=by simp[List.extract]
 have b:(ys.toList.extract p ys.size)=ys.toList.drop p:=by
  simp only[List.extract];rw[R5 (by simp)]
 rw[a,b,e,QK,Qf,Vk,Ut,Ra];rfl
theorem Os{xs:List (List Int×PZ)}(hu:A.units<Va)(S:q8 prog w s.heap a xs)(hk:(IKd prog w).is s.heap k b)(hn:xs.length<63)
  (h:∀h' q,QI a s.heap h'->q8 prog w h' a q->(k∈xs.map (·.1)->q=xs)->(k∉xs.map (·.1)->q.Perm ((k,b)::xs))->Q (decide (k∉xs.map (·.1))) {s with heap:=h'}):
  Qj (QA prog w) A (setAddHashed a (.ref b) (hsh prog w k)) Q E s:=by
 have S0:=S;obtain⟨o,es,ep,t,U,X,hd,W,hnd,hx,T,hp,J⟩:=S;have F:es.size=xs.length:=by rw[←QN,W,PL]
 have hf:t.fits es.size=PQ:=T.fits (by rw[PL,F]);have Y:t.place.size=xs.length:=by rw[T.sz,PL]
 obtain⟨e0,he0,hl0⟩:=T.free (oA t (hsh prog w k));obtain⟨e,hee,hl,Z⟩:=O7 (P:=λe=>¬Lv t (itr t e (t.probeStart (hsh prog w k))).j) e0 hl0;have ha:∀m<e,Lv t (itr t m (t.probeStart (hsh prog w k))).j:=λm hm=>Classical.not_not.mp (Z m hm);have hmk:=T.km.odd;unfold setAddHashed setAddHashedIn;refine RG (My (RZ U hd hf ?_));have hb:byScan (Qt b) es=PX:=rfl;simp only[hb,Ql,Q6];refine My ?_;unfold setSearch;refine yJ (e:=e) hu U hd W hx T hk (by omega) hl ha (λhm=>?_) (λhm=>?_) e 100000 0 PM (by omega) (by unfold turns at he0;omega) rfl (λm' hm'=>Qx hm' (Sz _))
 ·refine PN ?_
  have:=h s.heap xs (QI.refl a s.heap) S0 (λ_=>rfl) (λz=>Qx hm z);rw[QL (λz=>z hm)]at this;exact this
 ·have hQ:∀h' q,QI a s.heap h'->q8 prog w h' a q->q.Perm ((k,b)::xs)->Q PQ {s with heap:=h'}:=λh' q h1 h2 h3=>by
   have:=h h' q h1 h2 (λz=>Qx z hm) (λ_=>h3);rwa[Qd hm]at this
  simp only;refine My (RZ U hd hf ?_);generalize hj:(itr t e (t.probeStart (hsh prog w k))).j=j at hl;obtain⟨pd,ps,pl⟩:=Mc T j;generalize y:t.put j=tp at pd ps pl;obtain⟨u,p⟩:=tp;simp only at pd ps pl⊢;have l:u.plain=PQ:=by
   have:(t.put j).1.plain=t.plain:=rfl;rw[y]at this;rw[this,hp]
  have L:u.led=t.led:=by
   have:(t.put j).1.led=t.led:=rfl;rw[y]at this;exact this
  have v:u.mask=t.mask:=by
   have:(t.put j).1.mask=t.mask:=rfl;rw[y]at this;exact this
  rw[l];simp only[Q4];refine My (EL hk ?_);simp only[Q4];have N:=Lc (f:=λx:List Int×PZ=>(hsh prog w x.1,Qt x.2)) W (p:=p) (by omega) (k,b);have B:(insertAt es p (hsh prog w k,Qt b)).size=es.size+1:=gn (by omega);have d:(xs.take p++(k,b)::xs.drop p).Perm ((k,b)::xs):=by
   have:=List.perm_middle (a:=(k,b)) (l₁:=xs.take p) (l₂:=xs.drop p);rwa[Ti]at this
  have nd1:((xs.take p++(k,b)::xs.drop p).map (·.1)).Nodup:=by
   refine(d.map (·.1)).nodup_iff.mpr ?_;rw[Qf,QR];exact⟨hm,hnd⟩
  refine My (wpAny_storeSet_of U hd ?_ (by rw[B,Sk];omega));have H:=RI s.heap a (VI (insertAt es p (hsh prog w k,Qt b)) u);have g1:=rn U hd (insertAt es p (hsh prog w k,Qt b)) u;have hx1:∀x∈xs.take p++(k,b)::xs.drop p,(IKd prog w).is (s.heap.update a (VI (insertAt es p (hsh prog w k,Qt b)) u)) x.1 x.2:=λx hx'=>by
   rcases Qh.mp (d.mem_iff.mp hx')with rfl|hx'
   ·exact o3 hk U hd H
   ·exact o3 (hx x hx') U hd H
  by_cases r:u.tooFull=PQ
  ·simp only[r,Xa,Vg,Q4]
   have fu:u.fill*5≥u.mask*3:=by unfold tooFull at r;exact Rx r
   have fe:u.fill=xs.length+1:=by unfold fill;rw[pd,ps,Y];rfl
   have nf0:=T.nf;have f1:u.fits (insertAt es p (hsh prog w k,Qt b)).size=PQ:=by
    unfold WW;rw[B,fe,ps,Y,F,v];simp;omega
   have wm:Mk (sizeAbove (grown (es.size+1))-1)/\(es.size+1)*5<(sizeAbove (grown (es.size+1))-1)*3/\sizeAbove (grown (es.size+1))<=128:=by
    rw[fe,v]at fu;rw[F];rcases T.km with z|z|z
    ·have:xs.length=4:=by omega
     rw[this];exact⟨.inr (.inl (by decide)),by decide,by decide⟩
    ·have:xs.length=18:=by omega
     rw[this];exact⟨.inr (.inr (by decide)),by decide,by decide⟩
    ·omega
   have C:(Array.map (λx=>x.fst) (insertAt es p (hsh prog w k,Qt b))).size=es.size+1:=by rw[Array.size_map,B]
   obtain⟨t2,c,er,op,T2,led2,I⟩:=yZ (t:=u) (hs:=(insertAt es p (hsh prog w k,Qt b)).map (·.1)) (wanted:=grown (es.size+1)) wm.1 (by rw[C];exact wm.2.1);refine My ?_;unfold setRelay;refine My (RZ g1 rfl f1 ?_);simp only;rw[P5 (by rw[Sk];omega)];rw[er];generalize hE1:insertAt es p (hsh prog w k,Qt b)=es1 at*;generalize hX1:xs.take p++(k,b)::xs.drop p=xs1 at*;have l1:xs1.length=es.size+1:=by rw[d.length_eq,Qe,F]
   have O:∀i,i<xs1.length->es1[i]?=on (hsh prog w (xs1.getD i (k,b)).1,Qt (xs1.getD i (k,b)).2):=λi R=>by
    rw[←Te,N,PY,PP R,PV,PP R];rfl
   have om:∀i∈c.toList,i<xs1.length:=λi R=>by
    have:=Qq.mp (op.mem_iff.mp R);rw[C]at this;omega
   have efl:(c.filterMap λx=>es1[x]?).toList=(c.toList.map λi=>xs1.getD i (k,b)).map λx=>(hsh prog w x.1,Qt x.2):=by
    rw[Array.toList_filterMap,uW (g:=λi=>(hsh prog w (xs1.getD i (k,b)).1,Qt (xs1.getD i (k,b)).2)) λi R=>O i (om i R),Qa];rfl
   have n:(c.toList.map λi=>xs1.getD i (k,b)).Perm xs1:=by
    refine(op.map _).trans (We ?_);rw[C,←l1];refine Sc (by simp) λi h1 h2=>?_;rw[SY,S6,PV,PP h2];rfl
   have fsz:(c.filterMap λx=>es1[x]?).size=es1.size:=by
    rw[←QN,efl,PL,n.length_eq,l1,B]
   refine My ?_;show Qj _ _ (if((c.filterMap λx=>es1[x]?).size !=es1.size)=PQ then _ else _) _ _ _;rw[P5 (by rw[fsz];simp)];refine PN ?_;refine wpAny_storeSet_of g1 rfl ?_ (by rw[fsz,B,Sk];omega);have sb2:=RI (s.heap.update a (VI es1 u)) a (VI (c.filterMap λx=>es1[x]?) t2);have g2:=rn g1 rfl (c.filterMap λx=>es1[x]?) t2;refine PN (hQ _ (c.toList.map λi=>xs1.getD i (k,b)) (H.trans sb2) ⟨_,_,_,t2,g2,X,rfl,efl,?_,λx hx'=>?_,?_,by rw[I,l],by rw[led2,L,J]⟩ (n.trans d))
   ·exact(n.map (·.1)).nodup_iff.mpr nd1
   ·exact o3 (hx1 x (n.mem_iff.mp hx')) g1 rfl sb2
   ·have eh:(c.toList.map λi=>xs1.getD i (k,b)).map (λx=>hsh prog w x.1)=c.toList.map λi=>(es1.map (·.1)).getD i 0:=by
     rw[Qa];refine QD λi R=>?_;have h1:=O i (om i R);have h2:(es1.map (·.1))[i]?=on (hsh prog w (xs1.getD i (k,b)).1):=by rw[Array.getElem?_map,h1];rfl
     have h3:=(Re.mp h2);obtain⟨h4,h5⟩:=h3;simp only[UX];rw[←h5];simp[SO,h4];omega
    rw[eh];exact T2
  ·simp only[r,Xa,Bool.and_false,Q6,TY,Ql]
   refine PN (hQ _ (xs.take p++(k,b)::xs.drop p) H ⟨_,_,_,u,g1,X,rfl,N,nd1,hx1,?_,l,by rw[L,J]⟩ d);have nf:(t.place.size+1)*5<t.mask*3:=by
    have:¬(u.fill*5≥u.mask*3):=by
     intro z;exact r (by unfold tooFull;exact Qd z)
    unfold fill at this;rw[pd,ps,v]at this;simp at this;omega
   have:=(T.put (h:=hsh prog w k) hl hj (by exact ha) nf).2.2.2.2;rw[y]at this;rw[QK,Qf,Vk,Ut];exact this
end
namespace F2
theorem si_next:Slot "set_iterator" "__next__" "set_iterator.__next__":= .of (owner:="set_iterator") (n:="__next__") (by rw[XB,V9];kernel_rfl) (by decide +kernel) (by decide +kernel) (by decide +kernel)
  (by first|exact .inl (by decide +kernel)|exact .inr (by decide +kernel)) (by rw[Vq];kernel_rfl)
theorem si_iter:Slot "set_iterator" "__iter__" "set_iterator.__iter__":= .of (owner:="set_iterator") (n:="__iter__") (by rw[XB,V9];kernel_rfl) (by decide +kernel) (by decide +kernel) (by decide +kernel)
  (by first|exact .inl (by decide +kernel)|exact .inr (by decide +kernel)) (by rw[Vq];kernel_rfl)
theorem ent_next:entryFor table "set_iterator.__next__"=on Builtin.«set_iterator.__next__»:=entryFor_of_tree (by kernel_rfl)
theorem ent_iter:entryFor table "set_iterator.__iter__"=on Builtin.«dict_keyiterator.__iter__»:=X4 (id':="dict_keyiterator.__iter__") (by kernel_rfl) rfl (by decide +kernel) (by kernel_rfl)
theorem ent_set_iter:entryFor table "set.__iter__"=on Builtin.«frozenset.__iter__»:=X4 (id':="frozenset.__iter__") (by kernel_rfl) rfl (by decide +kernel) (by kernel_rfl)
theorem args_next(a:P0):argsOk "set_iterator.__next__" ⟨[a],[]⟩:=by unfold argsOk;kernel_rfl
theorem args_iter(a:P0):argsOk "set_iterator.__iter__" ⟨[a],[]⟩:=by unfold argsOk;kernel_rfl
end F2
theorem qh{α:Type}:∀{l:List α} {i:Nat} (h:i<l.length),(l[i]::l.eraseIdx i).Perm l
 |[],i,h=>Qx h (Sz i)
 |a::l,0,h=> .refl _
 |a::l,i+1,h=>by
  show(l[i]'(by simpa using h)::a::l.eraseIdx i).Perm (a::l);exact(List.Perm.swap _ _ _).trans ((qh (by simpa using h)).cons a)
theorem wc{α:Type}(next:Nat->Nat):∀(fuel k:Nat) (left:List α) (a:Array α),left.length<=fuel->(W6 next fuel k left a).toList.Perm (a.toList++left)
 |0,k,left,a,h=>by
  have:left=[]:=SZ.mp (by omega);subst this;unfold W6;rw[QY]
 |fuel+1,k,left,a,h=>by
  unfold W6;cases left with
  |nil=>simp
  |cons c d=>
   have b:next k % (c::d).length<(c::d).length:=Wf _ (by simp)
   rw[PP b];simp only;refine(wc next fuel (k+1) _ _ (by rw[List.length_eraseIdx_of_lt b];omega)).trans ?_
   rw[YM,Ra];exact List.Perm.append_left _ (qh b)
theorem ze{α:Type}(next:Nat->Nat)(xs:Array α):(Xm next xs).toList.Perm xs.toList:=by
 unfold Xm;refine(wc next xs.size 0 xs.toList #[] (by simp)).trans ?_
 simp
section
variable{prog:QG}{w:QT}{A:Q7}{E:P0->P6->Prop}{s:P6}
noncomputable def dY(w:QT)(a:PZ)(ep:Nat)(es:Array (Int×P0)):Array (Int×P0):=if w.params.followText "set-order"=PQ then Xm (w.params.setOrder a ep) es else es
theorem lq(w:QT)(a:PZ)(ep:Nat)(es:Array (Int×P0)):(dY w a ep es).toList.Perm es.toList:=by
 unfold dY;split
 ·exact ze _ _
 ·exact .refl _
structure SIt (w:QT) (h:Rl) (I a:PZ) (es:Array (Int×P0)) (ep:Nat) (t:Q3) (i:Nat):Prop where
 st:∃o,h.get? a=on o/\o.data= .set es ep t
 it:∃(o:Qy) (sl:Nat),h.get? I=on o/\o.cls= .type "set_iterator"/\o.data= .fields #[.int sl 0,.int i 0,.ref a,.int es.size 0,.int ep 0]/\(w.params.followText "set-order"=PX->below t.place sl=i)
theorem mT{M:Model}(h:Q (M.w.params.followText "set-order") s):Qj M A setsByText Q E s:=by
 unfold setsByText;exact My (UM (PN h))
theorem zB{es:Array (Int×P0)}{t:Q3}{e:Int×P0}(T:Tb t hs)(h:t.fits es.size=PQ)(H:t.plain=PQ)(J:t.led=!(w.params.followText "set-order"))(x:SIt w s.heap I a es ep t i)(k:I≠a)(l:(dY w a ep es)[i]?=on e)
  (L:∀h',SIt w h' I a es ep t (i+1)->QI I s.heap h'->Q (on e.2) {s with heap:=h'}):Qj (QA prog w) A (Uy (.ref I)) Q E s:=by
 obtain⟨⟨N,b,c⟩,o,U,n,u,hd,p⟩:=id x;have y:s.TypeIs (.ref I) "set_iterator":=⟨o,n,u⟩;unfold Uy;refine My (UT (wpAny_callSpecial?_slot (name:=Ss "__next__") y F2.si_next (QZ F2.si_next y F2.ent_next ?_ (F2.args_next _))));unfold Builtin.«set_iterator.__next__»;refine My (PN ?_);refine My (Wl n hd ?_);simp only;refine My (WB b c h ?_);simp only[Tg,Ql,Q6];refine My ?_;simp only[Ry]
 have d:∀nx:Nat,(w.params.followText "set-order"=PX->below t.place nx=i+1)->Qj (QA prog w) A.in1 (do
    Yb (Qt I) 0 (Uc nx)
    Yb (Qt I) 1 (Uc (i+1))
    ret e.2) (λd s'=>∃v,d=Fin.done (Flow.ret v)/\Qj (QA prog w) A (SB (on v)) Q E s') (λe s'=>Qj (QA prog w) A (do
     if(←WK e (SR "StopIteration"))=PQ then SB PM else throw e) Q E s') s:=λnx r=>by
  refine My (Uz n hd (by simp) ?_);have B:(s.heap.update I (Obj.mapFields (·.setIfInBounds 0 (Uc nx)))).get? I=on _:=Th _ n (VP (Sm hd _));refine My (Uz B (Sm hd _) (by simp) ?_);refine PN ⟨_,rfl,PN (L _ ⟨⟨N,?_,c⟩,⟨_,nx,Th _ B (VP (Sm (Sm hd _) _)),?_,?_,r⟩⟩ ((RI ..).trans (RI ..)))⟩
  ·rw[SV _ _ _ _ (Ne.symm k),SV _ _ _ _ (Ne.symm k)];exact b
  ·rw[WA,WA];exact u
  ·rw[Sm (Sm hd _)];simp[Uc]
 unfold setNext;refine My (RZ b c h (My (mT ?_)));have C:(QA prog w).w=w:=rfl;rw[C];cases q:w.params.followText "set-order"
 ·have f:dY w a ep es=es:=by unfold dY;rw[q];rfl
  rw[f]at l;have O:=p q;have W:=(Re.mp l).1;simp only[Ql,Q6];have R:t.place.size=es.size:=by
   unfold WW at h;simp only[QJ,TU,QU]at h;exact h.1
  rw[P5 (λz=>by
   have F:(!t.plain&&decide (es.size>1))=PQ:=z;rw[H]at F;cases F)]
  refine My ?_;show Qj _ _ (if(!t.led&&!es.isEmpty)=PQ then _ else _) _ _ _;rw[P5 (by rw[J,q];exact P8)];refine PN (PN ?_);have g:t.place[i]?=on t.place[i]:=getElem?_pos t.place i (by omega);rw[O,l,g];simp only;refine d _ λ_=>?_;obtain⟨b1,b2,b3⟩:=jv (j:=t.place[i]+1) T.rs;rcases Tk (below t.place (t.place[i]+1)) (i+1)with z|z|z
  ·have:=b3 i _ (by omega) g
   omega
  ·exact z
  ·have m:t.place[i+1]?=on t.place[i+1]:=getElem?_pos t.place (i+1) (by omega)
   have X:=b2 (i+1) _ z m;have Y:=T.rs i (i+1) _ _ (by omega) g m;omega
 ·have f:dY w a ep es=Xm (w.params.setOrder a ep) es:=by unfold dY;rw[q];rfl
  rw[f]at l;simp only[Q4,Tg,Ql,Q6];refine My ?_;unfold setWalk;refine My (RZ b c h (My (mT ?_)));rw[C,q];simp only[Q4];refine My (UM (PN ?_));refine PN ?_;rw[show((QA prog w).w.params.setOrder a ep)=w.params.setOrder a ep from rfl,l];simp only[RX];exact d _ λz=>by rw[q]at z;cases z
theorem CY{es:Array (Int×P0)}{t:Q3}(r:A.handled=PM)(T:Tb t hs)(g:t.fits es.size=PQ)(u:t.plain=PQ)(y:t.led=!(w.params.followText "set-order"))(x:SIt w s.heap I a es ep t es.size)
  (B:∀h',WG I s.heap h'->Q PM {s with heap:=h'}):Qj (QA prog w) A (Uy (.ref I)) Q E s:=by
 obtain⟨⟨F,d,f⟩,o,H,h,C,hd,i⟩:=id x;have l:s.TypeIs (.ref I) "set_iterator":=⟨o,h,C⟩;unfold Uy;refine My (UT (wpAny_callSpecial?_slot (name:=Ss "__next__") l F2.si_next (QZ F2.si_next l F2.ent_next ?_ (F2.args_next _))));unfold Builtin.«set_iterator.__next__»;refine My (PN ?_);refine My (Wl h hd ?_);simp only;refine My (WB d f g ?_);simp only[Tg,Ql,Q6];refine My ?_;simp only[Ry]
 have c:Qj (QA prog w) A.in1 (do
    Yb (Qt I) 2 Q5
    let e ←Zh (SR "StopIteration") []
    (raiseNew e:Sem Fin)) (λc s'=>∃v,c=Fin.done (Flow.ret v)/\Qj (QA prog w) A (SB (on v)) Q E s') (λe s'=>Qj (QA prog w) A (do
     if(←WK e (SR "StopIteration"))=PQ then SB PM else throw e) Q E s') s:=by
  refine My (Uz h hd (by simp) ?_);refine My ?_;simp only[Zh,newTuple];refine My (Rq ?_ (by size_fits));refine My (m:=Uw _ _) (TW (a:=Q5) (by first|rfl|(simp only[Uw];rfl)) ?_)
  refine Rq ?_ (by size_fits);simp only[raiseNew];refine My (YL ?_);rw[show A.in1.handled=PM from r];refine My (PN (wpAny_throw ?_));refine My (SH (T:="StopIteration") (b:=PQ) ⟨_,Qk _ rfl,rfl⟩ X6 ?_);exact PN (B _ (((RI ..).extBut.push _).push _))
 unfold setNext;refine My (RZ d f g (My (mT ?_)));have n:(QA prog w).w=w:=rfl;rw[n];have j:(dY w a ep es).size=es.size:=by rw[←QN,(lq w a ep es).length_eq,QN]
 cases q:w.params.followText "set-order"
 ·simp only[Ql,Q6]
  rw[P5 (λz=>by
   have p:(!t.plain&&decide (es.size>1))=PQ:=z;rw[u]at p;cases p)]
  refine My ?_;show Qj _ _ (if(!t.led&&!es.isEmpty)=PQ then _ else _) _ _ _;rw[P5 (by rw[y,q];exact P8)];refine PN (PN ?_);rw[i q,S5 (P9 _)];exact c
 ·have k:dY w a ep es=Xm (w.params.setOrder a ep) es:=by unfold dY;rw[q];rfl
  simp only[Q4,Tg,Ql,Q6];refine My ?_;unfold setWalk;refine My (RZ d f g (My (mT ?_)));rw[n,q];simp only[Q4];refine My (UM (PN ?_));refine PN ?_;rw[show((QA prog w).w.params.setOrder a ep)=w.params.setOrder a ep from rfl,←k,S5 (by rw[j];exact P9 _)];exact c
theorem SIt.at{h h':Rl}(x:SIt w h I a es ep t i)(k:∀b,b=I\/b=a->∀o,h.get? b=on o->h'.get? b=on o):SIt w h' I a es ep t i:=by
 obtain⟨⟨e,c,d⟩,o,f,g,r⟩:=x;exact⟨⟨e,k a (.inr rfl) e c,d⟩,o,f,k I (.inl rfl) o g,r⟩
theorem BK(q:A.handled=PM){es:Array (Int×P0)}{t:Q3}(T:Tb t hs)(l:t.fits es.size=PQ)(m:t.plain=PQ)(n:t.led=!(w.params.followText "set-order"))(f:I≠a):
  Walks prog w A I [I,a] [I] es.size (λi v=>∃e,(dY w a ep es)[i]?=on e/\v=e.2) (λi h=>SIt w h I a es ep t i) where
 sub:=λb c=>by simp at c;simp[c]
 frame:=λ_ _ _ st r=>st.at λb c o e=>r b (by simpa using c) o e
 item:=λi s Q E L st d=>by
  have u:(dY w a ep es).size=es.size:=by rw[←QN,(lq w a ep es).length_eq,QN]
  have p:(dY w a ep es)[i]?=on (dY w a ep es)[i]:=getElem?_pos _ i (by omega);exact zB T l m n st f p λh' g y=>d _ h' s.toks ⟨_,p,rfl⟩ g λb o c e=>y.extBut b o (λh=>c (by simp[h])) e
 done:=λs Q E st d=>CY q T l m n st λh' j=>d h' s.toks λb o c e=>j b o (λh=>c (by simp[h])) e
 self:=λi s Q E st d=>by
  obtain⟨⟨N,B,C⟩,o,O,F,H,hd,J⟩:=st;have k:s.TypeIs (.ref I) "set_iterator":=⟨o,F,H⟩;refine VF k F2.si_iter (QZ F2.si_iter k F2.ent_iter ?_ (F2.args_iter _));show Qj _ _ (ret (.ref I)) _ _ s;exact PN ⟨_,rfl,"set_iterator",_,k,F2.si_next.lookup,d⟩
end
end L2.Hs
namespace L2.Hs
open PySem PySem.SetTable PyProof.Rows
section
variable{prog:QG}{w:QT}{A:Q7}{E:P0->P6->Prop}{s:P6}
theorem DR{o:Qy}{es:Array (Int×P0)}{t:Q3}(b:s.heap.get? a=on o)(f:o.cls= .type "set")(hd:o.data= .set es ep t)(c:t.fits es.size=PQ)(g:t.plain=PQ)
  (h:Q (.ref s.heap.objs.size) {s with heap:=s.heap.push {cls:= .type "set_iterator",data:= .fields #[.int (0:Nat) 0,.int (0:Nat) 0,.ref a,.int es.size 0,.int ep 0]}}):Qj (QA prog w) A (Wj (.ref a)) Q E s:=by
 have d:s.TypeIs (.ref a) "set":=⟨o,b,f⟩;refine VF d F.slot_set_iter (QZ F.slot_set_iter d F2.ent_set_iter ?_ (F.args_set_iter_1 _));unfold Builtin.«frozenset.__iter__»;refine My (TW (a:=a) rfl ?_);refine My (My (WB b hd c (PN ?_)));refine My ?_;unfold setDrawn;refine My (RZ b hd c (My (mT (PN ?_))));rw[P5 (λz=>by
  have e:(!((QA prog w).w.params.followText "set-order")&&(!t.plain&&decide (es.size>1)))=PQ:=z;rw[g]at e;simp at e)]
 refine My (PN ?_);refine My (wpAny_setEpoch_of b hd c ?_);unfold newFields;refine My (Rq (PN ⟨_,rfl,"set_iterator",_,⟨_,Qk _ rfl,rfl⟩,F2.si_next.lookup,?_⟩));exact h
theorem vD{o:Qy}{es:Array (Int×P0)}{t:Q3}(hh:A.handled=PM)(U:s.heap.get? a=on o)(B:o.cls= .type "set")(hd:o.data= .set es ep t)(T:Tb t hs)(X:t.fits es.size=PQ)(Y:t.plain=PQ)(hl:t.led=!(w.params.followText "set-order"))
  (hsz:es.size<=1000)
  (hQ:∀h' Z vs,(∀b o,s.heap.get? b=on o->h'.get? b=on o)->s.heap.objs.size<=h'.objs.size->s.toks<=Z->vs.Perm (es.toList.map (·.2))->Q vs {s with heap:=h',toks:=Z}):Qj (QA prog w) A (collect (.ref a)) Q E s:=by
 unfold collect;refine My (wpAny_runValue (U7 F.entry_proto_collect ?_));rw[Ur F.plain_proto_collect _];show Qj _ A.in1 (newList []>>=λl=>Xv (.builtin "list.__iadd__" ⟨[l,.ref a],[]⟩)) _ _ s;refine My (Rq ?_);refine PN ⟨WD F.plain_list_iadd _,U7 F.entry_list_iadd ?_⟩;rw[Ur F.plain_list_iadd _];have ha:=Qz U;have g:(s.heap.push {cls:= .type "list",data:= .seq ([]:List P0).toArray}).get? a=on o:=PU _ U;have C:(s.heap.push {cls:= .type "list",data:= .seq ([]:List P0).toArray}).get? s.heap.objs.size=on {cls:= .type "list",data:= .seq ([]:List P0).toArray}:=Qk _ rfl;have r:s.heap.objs.size≠a:=S9 ha;have y:Wp (.ref s.heap.objs.size) (.ref a)=PX:=by simp[Wp,r]
 have H:(⟨s.heap.push {cls:= .type "list",data:= .seq ([]:List P0).toArray},s.gens,s.drawn,s.toks,s.os⟩:P6).TypeIs (.ref a) "set":=⟨o,g,B⟩;show Qj _ A.in1 (V5 (.ref s.heap.objs.size) (.ref a) (.ref s.heap.objs.size)) _ _ _;unfold V5;refine My (wpAny_typeOf H ?_);rw[P5 (by rw[y];decide)];refine My (DR g B hd X Y ?_);refine My (RG ?_);unfold Builtin.List.listLengthHint;have n:(⟨(s.heap.push {cls:= .type "list",data:= .seq ([]:List P0).toArray}).push {cls:= .type "set_iterator",data:= .fields #[.int (0:Nat) 0,.int (0:Nat) 0,.ref a,.int es.size 0,.int ep 0]},s.gens,s.drawn,s.toks,s.os⟩:P6).TypeIs (.ref a) "set":=⟨o,PU _ g,B⟩;refine My (SU n F.slot_set_len.lookup ?_)
 (generalize u:("set.__len__":String)=id0;wp_delta;rw[show splitId id0=on ("set","__len__")from by subst u;decide +kernel];subst u)
 refine My (SH (b:=PQ) n (by rw[Vq];kernel_rfl) ?_);rw[P5 (by decide)];show Qj _ _ (if _ then _ else _) _ _ _;rw[P7 (by decide)];refine My (wpAny_typeOf n ?_);refine PN ?_;rw[P7 (by decide)];refine My (TX ?_);have eI:(s.heap.push {cls:= .type "list",data:= .seq ([]:List P0).toArray}).objs.size=s.heap.objs.size+1:=by rw[size_push']
 generalize h:(s.heap.push {cls:= .type "list",data:= .seq ([]:List P0).toArray}).push {cls:= .type "set_iterator",data:= .fields #[.int (0:Nat) 0,.int (0:Nat) 0,.ref a,.int es.size 0,.int ep 0]}=d;have gS:d.get? s.heap.objs.size=on (Tx "list" #[] 0):=by rw[←h];exact PU _ C
 have gI:d.get? (s.heap.objs.size+1)=on {cls:= .type "set_iterator",data:= .fields #[.int (0:Nat) 0,.int (0:Nat) 0,.ref a,.int es.size 0,.int ep 0]}:=by rw[←h,←eI];exact Qk _ rfl
 have ga:d.get? a=on o:=by rw[←h];exact PU _ g
 have p:∀b f,s.heap.get? b=on f->d.get? b=on f:=λb f e=>by rw[←h];exact PU _ (PU _ e)
 unfold Builtin.List.listTouch;refine My (My (VJ gS rfl ?_ (by show 0<=_;omega) (by show 1<=_;omega)));obtain⟨e1,g1⟩:∃e1,(d.update s.heap.objs.size (RT λxs=>xs.push Q5)).get? s.heap.objs.size=on (Tx "list" #[Q5] e1):=⟨_,get?_update_seq gS λxs=>xs.push Q5⟩;refine VJ g1 rfl ?_ (by show 1<=Qp;decide) (by show 0<=_;omega);obtain⟨J,g2⟩:∃J,((d.update s.heap.objs.size (RT λxs=>xs.push Q5)).update s.heap.objs.size (RT λxs=>xs.pop)).get? s.heap.objs.size=on (Tx "list" #[] J):=⟨_,get?_update_seq g1 λxs=>xs.pop⟩;have c:∀b f,b≠s.heap.objs.size->d.get? b=on f->((d.update s.heap.objs.size (RT λxs=>xs.push Q5)).update s.heap.objs.size (RT λxs=>xs.pop)).get? b=on f:=λb f q e=>by
  rw[SV _ _ _ _ q,SV _ _ _ _ q];exact e
 generalize (d.update s.heap.objs.size (RT λxs=>xs.push Q5)).update s.heap.objs.size (RT λxs=>xs.pop)=h4 at g2 c;have L:s.heap.objs.size+1≠a:=S9 (Vm ha);have st:SIt w h4 (s.heap.objs.size+1) a es ep t 0:=⟨⟨o,c a o (Ne.symm r) ga,hd⟩,_,0,c _ _ (by omega) gI,rfl,rfl,λ_=>by
  have:=jv (j:=0) T.rs;rcases Nat.eq_zero_or_pos (below t.place 0)with z|z
  ·exact z
  ·have e:=getElem?_pos t.place 0 (by omega)
   have:=this.2.1 0 _ z e;omega⟩
 have W:=BK (prog:=prog) (w:=w) (A:=A.in1) (I:=s.heap.objs.size+1) (a:=a) (ep:=ep) hh T X Y hl L;show Qj _ _ (Xv _) _ _ _;rw[eI];refine PN ⟨WD F.plain_extend_loop _,codeAny_extend_loopS W.toS (by rw[Sk];omega) s.heap.objs.size (by simp;omega) _ es.size 0 _ #[] J rfl (Q8 _) st g2 (ItemsOf.nil _) λs' k c' hm v m=>?_⟩;show Qj _ A (load s.heap.objs.size>>=_) _ _ s';refine My (wpAny_load v ?_);refine PN ?_;have N:s'={s with heap:=s'.heap,toks:=s'.toks}:=by
  have y:=hm.gens;have d:=hm.drawn;have h3:=hm.os;obtain⟨a1,a2,a3,a4,a5⟩:=s';simp only at y d h3;subst y d h3;rfl
 rw[N];refine hQ _ _ _ (λb f e=>?_) (VH (Qz v)) hm.toks ?_
 ·have q:=Qz e
  exact hm.heap b f (by simp only[Qh,Rv,Uo,not_or];exact⟨Q1 q,Q1 (Vm q)⟩) (c b f (Q1 q) (p b f e))
 ·refine List.Perm.trans (We ?_) ((lq w a ep es).map (·.2))
  have O:(dY w a ep es).size=es.size:=by rw[←QN,(lq w a ep es).length_eq,QN]
  refine Sc (by rw[QN,PL,QN,O,m.1]) λi q1 q2=>?_;have R:i<k.size:=by simpa using q1
  obtain⟨e,he,hv⟩:=m.2 i _ (getElem?_pos k i R);rw[Tl,hv,SY,Tl];have:=Re.mp he;obtain⟨z1,z2⟩:=this;rw[z2]
end
end L2.Hs
namespace L2.Hs
open PySem PySem.W PyProof.Rows
section
variable{α β:Type}{lt:Nat->Nat->Bool}{n:Nat}
def Rn(lt:Nat->Nat->Bool)(n:Nat):KasT α->(α->Prop)->Prop
 | .ret a,Φ=>Φ a
 | .ask i j k,Φ=>i<n/\j<n/\Rn lt n (k (lt i j)) Φ
theorem Rn.bind{Φ:β->Prop}:∀{t:KasT α},Rn lt n t (λa=>Rn lt n (f a) Φ)->Rn lt n (t.bind f) Φ
 | .ret a,h=>h
 | .ask i j k,⟨h1,h2,h3⟩=>⟨h1,h2,Rn.bind h3⟩
theorem Rn.mono{Φ Ψ:α->Prop}(b:∀a,Φ a->Ψ a):∀{t:KasT α},Rn lt n t Φ->Rn lt n t Ψ
 | .ret a,h=>b a h
 | .ask i j k,⟨h1,h2,h3⟩=>⟨h1,h2,Rn.mono b h3⟩
theorem Rn.wp{Φ:α->Prop}(b:∀i j,i<n->j<n->∀C:Bool->P6->Prop,C (lt i j) s->cmp i j C s)(c:∀a,Φ a->Q a s):∀{t:KasT α},Rn lt n t Φ->t.kasWp cmp Q s
 | .ret a,h=>c a h
 | .ask i j k,⟨h1,h2,h3⟩=>b i j h1 h2 _ (Rn.wp b c h3)
end
section
variable{rk:Nat->Nat}{n:Nat}
noncomputable abbrev ltR(rk:Nat->Nat)(i j:Nat):Bool:=decide (rk i<rk j)
noncomputable abbrev ky(rk:Nat->Nat)(p:Array Nat)(i:Nat):Nat:=rk (p.getD i 0)
structure Pm (rk:Nat->Nat) (n:Nat) (p:Array Nat):Prop where
 perm:p.toList.Perm (Qb n)
 inj:∀i j,i<n->j<n->rk i=rk j->i=j
theorem Pm.sz{p:Array Nat}(h:Pm rk n p):p.size=n:=by have:=h.perm.length_eq;simpa using this
theorem Pm.lt{p:Array Nat}(h:Pm rk n p)(a:i<n):p.getD i 0<n:=by
 have hs:=h.sz;have e:p.getD i 0=p[i]:=by simp[SO,show i<p.size by omega]
 rw[e];exact Qq.mp (h.perm.mem_iff.mp (by simp))
theorem Pm.ne(h:Pm rk n p)(a:i<j)(b:j<n):ky rk p i≠ky rk p j:=λz=>by
 have hs:=h.sz;have:=h.inj _ _ (h.lt (show i<n by omega)) (h.lt b) z;have nd:p.toList.Nodup:=h.perm.nodup_iff.mpr Vv;have c:p.getD i 0=p.toList[i]'(by simp;omega):=by simp[SO,show i<p.size by omega]
 have d:p.getD j 0=p.toList[j]'(by simp;omega):=by simp[SO,show j<p.size by omega]
 rw[c,d]at this;exact Qx this (R8.mp nd i j (by simp;omega) (by simp;omega) a)
theorem Pm.of{p q:Array Nat}(h:Pm rk n p)(a:q.Perm p):Pm rk n q:=⟨(Array.perm_iff_toList_perm.mp a).trans h.perm,h.inj⟩
def So(rk:Nat->Nat)(p:Array Nat)(k:Nat):Prop:=∀i j,i<j->j<k->ky rk p i<ky rk p j
def De(rk:Nat->Nat)(p:Array Nat)(k:Nat):Prop:=∀i j,i<j->j<k->ky rk p j<ky rk p i
theorem So.succ(h:So rk p k)(c:1<=k)(b:ky rk p (k-1)<ky rk p k):So rk p (k+1):=λi j a d=>by
 by_cases q:j=k
 ·subst q
  by_cases z:i=j-1
  ·subst z;exact b
  ·exact UU (h i (j-1) (by omega) (by omega)) b
 ·exact h i j a (by omega)
theorem De.succ(h:De rk p k)(c:1<=k)(b:ky rk p k<ky rk p (k-1)):De rk p (k+1):=λi j a d=>by
 by_cases q:j=k
 ·subst q
  by_cases z:i=j-1
  ·subst z;exact b
  ·exact UU b (h i (j-1) (by omega) (by omega))
 ·exact h i j a (by omega)
theorem vq(P:Pm rk n p):∀(f k:Nat),1<=k->k+f<=n->So rk p k->Rn (ltR rk) n (kas_asc p f k) λm=>k<=m/\m<=k+f/\So rk p m/\(m=k+f\/ky rk p m<ky rk p (m-1))
 |0,k,_,_,h=>⟨P9 k,P9 _,h,.inl rfl⟩
 |f+1,k,h1,h2,h=>by
  refine⟨P.lt (by omega),P.lt (by omega),?_⟩;by_cases q:ky rk p k<ky rk p (k-1)
  ·rw[show ltR rk (p.getD k 0) (p.getD (k-1) 0)=PQ from Qd q];dsimp only;rw[P7 rfl]
   exact⟨P9 k,by omega,h,.inr q⟩
  ·rw[show ltR rk (p.getD k 0) (p.getD (k-1) 0)=PX from QL q];dsimp only;rw[P5 P8]
   have:=P.ne (show k-1<k by omega) (show k<n by omega);refine Rn.mono (λm hm=>?_) (vq P f (k+1) (by omega) (by omega) (h.succ h1 (by omega)));exact⟨by omega,by omega,hm.2.2.1,by rcases hm.2.2.2 with z|z;exact .inl (by omega);exact .inr z⟩
theorem wF(P:Pm rk n p):∀(f k:Nat),1<=k->k+f<=n->De rk p k->Rn (ltR rk) n (kas_desc f p k 0) λr=>r.1=p/\r.2.2=0/\k<=r.2.1/\r.2.1<=k+f/\De rk p r.2.1
 |0,k,_,_,h=>⟨rfl,rfl,P9 k,P9 _,h⟩
 |f+1,k,h1,h2,h=>by
  refine⟨P.lt (by omega),P.lt (by omega),?_⟩;by_cases q:ky rk p k<ky rk p (k-1)
  ·rw[show ltR rk (p.getD k 0) (p.getD (k-1) 0)=PQ from Qd q];dsimp only;rw[P7 rfl,P5 (Q0 0)]
   refine Rn.mono (λm hm=>?_) (wF P f (k+1) (by omega) (by omega) (h.succ h1 q));exact⟨hm.1,hm.2.1,by have:=hm.2.2.1;omega,by have:=hm.2.2.2.1;omega,hm.2.2.2.2⟩
  ·rw[show ltR rk (p.getD k 0) (p.getD (k-1) 0)=PX from QL q];dsimp only;rw[P5 P8]
   have:=P.ne (show k-1<k by omega) (show k<n by omega);refine⟨P.lt (by omega),P.lt (by omega),?_⟩;rw[show ltR rk (p.getD (k-1) 0) (p.getD k 0)=PQ from Qd (show ky rk p (k-1)<ky rk p k by omega)];dsimp only;rw[P7 rfl];exact⟨rfl,rfl,P9 k,by show k<=_;omega,h⟩
theorem wx{p q:Array Nat}(h:p[i]?=q[j]?):p.getD i 0=q.getD j 0:=by
 have a:∀(r:Array Nat) (x:Nat),r.getD x 0=(r[x]?).getD 0:=λr x=>by
  by_cases b:x<r.size
  ·simp[SO,b]
  ·simp[SO,b]
 rw[a,a,h]
theorem L0{p:Array Nat}(a:k<=p.size)(h:De rk p k):So rk (kas_rev p 0 k) k:=λi j b c=>by
 have g:∀x,x<k->(kas_rev p 0 k).getD x 0=p.getD (k-1-x) 0:=λx d=>by
  refine wx ?_;unfold kas_rev;rw[getElem?_mirror_all a,P7 (by omega)];congr 1;omega
 show rk _<rk _;rw[g i (by omega),g j c];exact h (k-1-j) (k-1-i) (by omega) (by omega)
theorem BQ(P:Pm rk n p)(b:1<=k)(c:k<=n)(h:De rk p k):Rn (ltR rk) n (kas_tail3 k n p) λr=>Pm rk n r.2/\1<=r.1/\r.1<=n/\So rk r.2 r.1:=by
 have a:Pm rk n (kas_rev p 0 k):=P.of (mirror_perm _ _ _ _);unfold kas_tail3;refine Rn.bind (Rn.mono (λm hm=>?_) (vq a (n-k) k b (by omega) (L0 (by rw[P.sz];exact c) h)));exact⟨a,by omega,by omega,hm.2.2.1⟩
theorem EH(P:Pm rk n p)(d:1<=n):Rn (ltR rk) n (kas_count n p) λr=>Pm rk n r.2/\1<=r.1/\r.1<=n/\So rk r.2 r.1:=by
 unfold kas_count;refine Rn.bind (Rn.mono (λm hm=>?_) (vq P (n-1) 1 (P9 1) (by omega) λi j a b=>by omega));obtain⟨a1,a2,a3,a4⟩:=hm;by_cases q:m=n
 ·rw[P7 (by rw[TU];exact q)]
  exact⟨P,by omega,by omega,a3⟩
 ·rw[P5 (by rw[TU];exact q)]
  have hd:ky rk p m<ky rk p (m-1):=by
   rcases a4 with z|z
   ·omega
   ·exact z
  by_cases q1:m>1
  ·rw[P7 q1]
   refine⟨P.lt (by omega),P.lt (by omega),?_⟩;rw[show ltR rk (p.getD 0 0) (p.getD (m-1) 0)=PQ from Qd (a3 0 (m-1) (by omega) (by omega))];dsimp only;rw[P7 rfl];exact⟨P,by omega,by omega,a3⟩
  ·rw[P5 q1]
   obtain rfl:m=1:=by omega
   unfold kas_descPart;refine Rn.bind (Rn.mono (λr c=>?_) (wF P (n-(1+1)) (1+1) (by omega) (by omega) λi j a b=>by
    obtain rfl:j=1:=by omega
    obtain rfl:i=0:=by omega
    exact hd))
   obtain⟨rfl,b2,b3,b4,b5⟩:=c;rw[P5 (by omega)];exact BQ P (by omega) (by omega) b5
theorem oH(P:Pm rk n p)(a:k<n):∀(f l r:Nat),l<=r->r<=k->r-l<=f->(∀i,i<l->ky rk p i<ky rk p k)->(∀i,r<=i->i<k->ky rk p k<ky rk p i)->So rk p k->
  Rn (ltR rk) n (kas_place p k f l r) λm=>m<=k/\(∀i,i<m->ky rk p i<ky rk p k)/\∀i,m<=i->i<k->ky rk p k<ky rk p i
 |0,l,r,h1,h2,h3,ha,hb,_=>by
  obtain rfl:l=r:=by omega
  exact⟨h2,ha,hb⟩
 |f+1,l,r,h1,h2,h3,ha,hb,so=>by
  unfold kas_place;by_cases q:l≥r
  ·rw[P7 q]
   obtain rfl:l=r:=by omega
   exact⟨h2,ha,hb⟩
  ·rw[P5 q]
   refine⟨P.lt (by omega),P.lt (by omega),?_⟩;by_cases z:ky rk p k<ky rk p ((l+r)/2)
   ·rw[show ltR rk (p.getD k 0) (p.getD ((l+r)/2) 0)=PQ from Qd z];dsimp only;rw[P7 rfl]
    refine oH P a f l ((l+r)/2) (by omega) (by omega) (by omega) ha (λi c b=>?_) so;by_cases w:i=(l+r)/2
    ·subst w;exact z
    ·exact UU z (so _ i (by omega) b)
   ·rw[show ltR rk (p.getD k 0) (p.getD ((l+r)/2) 0)=PX from QL z];dsimp only;rw[P5 P8]
    have d:=P.ne (show(l+r)/2<k by omega) a;refine oH P a f ((l+r)/2+1) r (by omega) h2 (by omega) (λi c=>?_) hb so;by_cases w:i=(l+r)/2
    ·subst w;omega
    ·exact UU (so i ((l+r)/2) (by omega) (by omega)) (by omega)
theorem AX:∀(f:Nat) {p:Array Nat} {k:Nat},Pm rk n p->k+f=n->So rk p k->Rn (ltR rk) n (kas_bin f p k) λb=>Pm rk n b/\So rk b n
 |0,p,k,P,hk,so=>⟨P,by rw[←hk];exact so⟩
 |f+1,p,k,P,hk,so=>by
  unfold kas_bin;refine Rn.bind (Rn.mono (λm hm=>?_) (oH P (by omega) k 0 k (Q8 _) (P9 _) (by omega) (λi h=>Qx h (Sz i)) (λi l c=>by omega) so));obtain⟨l,c,o⟩:=hm;have r:Pm rk n (bubble p k (k-m)):=P.of (bubble_perm _ _ _);refine AX f r (by omega) λi j a t=>?_;have ks:k<p.size:=by rw[P.sz];omega
  have g:∀x:Nat,(bubble p k (k-m)).getD x 0=p.getD (if x=m then k else if m<x/\x<=k then x-1 else x) 0:=λx=>by
   refine wx ?_;rw[getElem?_bubble ks (k-m) (by omega)];by_cases q:x=m
   ·rw[P7 (by omega),P7 q]
   ·rw[P5 (by omega),P5 q]
    by_cases q2:m<x/\x<=k
    ·rw[P7 (by omega),P7 q2]
    ·rw[P5 (by omega),P5 q2]
  show rk _<rk _;rw[g i,g j];by_cases q1:i=m
  ·rw[P7 q1,P5 (by omega),P7 (by omega)]
   exact o (j-1) (by omega) (by omega)
  ·rw[P5 q1]
   by_cases q2:j=m
   ·rw[P7 q2,P5 (by omega)]
    exact c i (by omega)
   ·rw[P5 q2]
    by_cases d:m<i/\i<=k
    ·rw[P7 d,P7 (by omega)]
     exact so (i-1) (j-1) (by omega) (by omega)
    ·rw[P5 d]
     by_cases e:m<j/\j<=k
     ·rw[P7 e]
      exact so i (j-1) (by omega) (by omega)
     ·rw[P5 e]
      exact so i j a (by omega)
theorem Kk(a:1<=n)(inj:∀i j,i<n->j<n->rk i=rk j->i=j):Rn (ltR rk) n (kas_sort n) λp=>Pm rk n p/\So rk p n:=by
 unfold kas_sort;have P:Pm rk n (List.toArray (Qb n)):=⟨.refl _,inj⟩;refine Rn.bind (Rn.mono (λr b=>?_) (EH P a));obtain⟨a1,a2,a3,a4⟩:=b;by_cases q:r.1<n
 ·rw[P7 q,Nat.max_eq_left a2]
  exact AX _ a1 (by omega) a4
 ·rw[P5 q]
  obtain rfl:r.1=n:=by omega
  exact⟨a1,a4⟩
noncomputable def c9:List Int->List Int->Bool
 |[],[]=>PX
 |[],_::_=>PQ
 |_::_,[]=>PX
 |a::as,b::bs=>if a=b then c9 as bs else decide (a<b)
theorem iY:∀x,c9 x x=PX
 |[]=>rfl
 |a::as=>by unfold c9;rw[P7 rfl];exact iY as
theorem pY:∀{x y z},c9 x y=PQ->c9 y z=PQ->c9 x z=PQ
 |[],[],_,h,_=>by cases h
 |[],_::_,[],_,h=>by cases h
 |[],_::_,_::_,_,_=>rfl
 |_::_,[],_,h,_=>by cases h
 |_::_,_::_,[],_,h=>by cases h
 |a::as,b::bs,c::cs,h1,h2=>by
  unfold c9 at h1 h2⊢;by_cases q1:a=b
  ·rw[P7 q1]at h1
   by_cases q2:b=c
   ·rw[P7 q2]at h2
    rw[P7 (q1.trans q2)];exact pY h1 h2
   ·rw[P5 q2]at h2
    rw[P5 (by rw[q1];exact q2),q1];exact h2
  ·rw[P5 q1]at h1
   have d:=Rx h1;by_cases q2:b=c
   ·rw[P5 (by rw[←q2];exact q1),←q2];exact h1
   ·rw[P5 q2]at h2
    have e:=Rx h2;rw[P5 (by omega)];exact Qd (by omega)
theorem nB:∀{x y},c9 x y=PX->c9 y x=PX->x=y
 |[],[],_,_=>rfl
 |[],_::_,h,_=>by cases h
 |_::_,[],_,h=>by cases h
 |a::as,b::bs,h1,h2=>by
  unfold c9 at h1 h2;by_cases q:a=b
  ·rw[P7 q]at h1
   rw[P7 q.symm]at h2;rw[q,nB h1 h2]
  ·rw[P5 q]at h1
   rw[P5 (Ne.symm q)]at h2;have:=X9 h1;have:=X9 h2;omega
theorem vg:∀{L:List Nat},(∀l∈L,p l=PQ->q l=PQ)->∀{i},i∈L->p i=PX->q i=PQ->L.countP p<L.countP q
 |[],_,i,h,_,_=>by cases h
 |a::L,hpq,i,hi,h1,h2=>by
  have le:L.countP p<=L.countP q:=List.countP_mono_left λl b=>hpq l (PR a b);rcases Qh.mp hi with rfl|hi
  ·rw[List.countP_cons_of_neg (by rw[h1];exact P8),List.countP_cons_of_pos h2]
   omega
  ·have ih:=vg (λl b=>hpq l (PR a b)) hi h1 h2
   rw[List.countP_cons,List.countP_cons];have:(if p a=PQ then 1 else 0)<=(if q a=PQ then 1 else 0):=by
    by_cases z:p a=PQ
    ·rw[P7 z,P7 (hpq a P3 z)];exact P9 1
    ·rw[P5 z];exact Q8 _
   omega
def ij(ks:LI)(i:Nat):Nat:=(Qb ks.length).countP λj=>c9 (ks.getD j []) (ks.getD i [])
theorem sH{ks:LI}(a:i<ks.length)(h:c9 (ks.getD i []) (ks.getD j [])=PQ):ij ks i<ij ks j:=
 vg (λl _ b=>pY b h) (Qq.mpr a) (iY _) h
theorem yW{ks:LI}(b:i<ks.length)(c:j<ks.length):decide (ij ks i<ij ks j)=c9 (ks.getD i []) (ks.getD j []):=by
 cases h:c9 (ks.getD i []) (ks.getD j [])with
 |true=>exact Qd (sH b h)
 |false=>
  refine QL λz=>?_;cases a:c9 (ks.getD j []) (ks.getD i [])with
  |true=>have:=sH c a;omega
  |false=>
   have e:=nB h a;unfold ij at z;rw[e]at z;exact Q0 _ z
theorem LZ{ks:LI}(nd:ks.Nodup)(a:i<ks.length)(b:j<ks.length)(h:ij ks i=ij ks j):i=j:=by
 have e:ks.getD i []=ks.getD j []:=by
  refine nB ?_ ?_
  ·cases z:c9 (ks.getD i []) (ks.getD j [])with
   |false=>rfl
   |true=>have:=sH a z;omega
  ·cases z:c9 (ks.getD j []) (ks.getD i [])with
   |false=>rfl
   |true=>have:=sH b z;omega
 rw[PV,PV,PP a,PP b]at e;have c:ks[i]=ks[j]:=e;rcases Tk i j with z|z|z
 ·exact Qx c (R8.mp nd i j a b z)
 ·exact z
 ·exact Qx c.symm (R8.mp nd j i b a z)
abbrev Up(l:LI):Prop:=l.Pairwise λa b=>c9 a b=PQ
theorem wT:∀{l m:LI},Up l->Up m->(∀x,x∈l↔x∈m)->l=m
 |[],[],_,_,_=>rfl
 |[],b::m,_,_,h=>by have:=(h b).mpr P3;cases this
 |a::l,[],_,_,h=>by have:=(h a).mp P3;cases this
 |a::l,b::m,h1,h2,h=>by
  obtain⟨d,f⟩:=T7.mp h1;obtain⟨q1,q2⟩:=T7.mp h2;have e:a=b:=by
   rcases Qh.mp ((h a).mp P3)with z|z
   ·exact z
   ·rcases Qh.mp ((h b).mpr P3)with w|w
    ·exact w.symm
    ·have:=pY (q1 a z) (d b w)
     rw[iY]at this;cases this
  subst e;congr 1;refine wT f q2 λx=>⟨λc=>?_,λc=>?_⟩
  ·rcases Qh.mp ((h x).mp (PR a c))with rfl|z
   ·have:=d x c;rw[iY]at this;cases this
   ·exact z
  ·rcases Qh.mp ((h x).mpr (PR a c))with rfl|z
   ·have:=q1 x c;rw[iY]at this;cases this
   ·exact z
variable{prog:QG}{w:QT}{A:Q7}{E:P0->P6->Prop}{s:P6}
theorem wo{b:Bool}:∀{xs ys:List Int} {us vs:List P0} (i:Nat),ItemsAre (VX prog w) xs us->ItemsAre (VX prog w) ys vs->∀n m:Nat,(decide (n+us.length<m+vs.length)=decide (xs.length<ys.length))->Q (c9 xs ys) s->KatLex prog w A PQ (decide (n+us.length<m+vs.length)) Q (us.zip vs) i s
 |[],ys,us,vs,i,hx,hy,n,m,e,q=>by
  cases hx;cases hy with
  |nil=>rw[Ws];exact kat_nil (by rw[e];exact q)
  |cons c d=>rw[Ws];exact kat_nil (by rw[e];exact q)
 |x::xs,ys,us,vs,i,hx,hy,n,m,e,q=>by
  cases hx with
  |@cons _ u _ us' c d=>
   cases hy with
   |nil=>rw[List.zip_nil_right];exact kat_nil (by rw[e];exact q)
   |@cons y v ys' vs' h3 h4=>
    obtain⟨g,rfl⟩:=Wh c;obtain⟨h,rfl⟩:=Wh h3;rw[Sh];refine kat_cons (wpAny_eqBool_int ?_);unfold c9 at q;by_cases z:x=y
    ·rw[P7 z]at q
     rw[show(x==y)=PQ by rw[TU];exact z];refine kat_yes ?_;have f:∀k l:Nat,decide (k+(us'.length+1)<l+(vs'.length+1))=decide (k+1+us'.length<l+1+vs'.length):=λk l=>decide_eq_decide.mpr (by omega);rw[Qe,Qe,f];refine wo (b:=b) (i+1) d h4 (n+1) (m+1) ?_ q;rw[←f,←Qe (a:=Tw x g),←Qe (a:=Tw y h),e,Qe,Qe];exact decide_eq_decide.mpr (by omega)
    ·rw[P5 z]at q
     rw[show(x==y)=PX by rw[VO];exact z];refine kat_no ?_;cases j:(PQ&&i==0)with
     |true=>exact oneLt_int q
     |false=>exact kat_one _ _ (lt_int (show PySem.W.BoolBack Q (.bool _) s from q))
theorem MM(i:(IKd prog w).is s.heap xs x)(j:(IKd prog w).is s.heap ys y)(h:Q (c9 xs ys) s):Qj (QA prog w) A (keyLt' (tuples' PQ) (.ref x) (.ref y)) Q E s:=by
 obtain⟨m,o,p,d,k,e,a⟩:=i;obtain⟨o2,q,r,f,l,g,c⟩:=j;refine kat_lt d e f g ?_;have:=wo (A:=A) (b:=PQ) (Q:=Q) (s:=s) 0 a c 0 0 (by rw[QS,QS,a.length,c.length]) h;rw[QS,QS,QN,QN]at this;exact this
theorem vM:∀{ks:List (List Int×PZ)},(∀k∈ks,(IKd prog w).is s.heap k.1 k.2/\1<=k.1.length)->∃fs:List P0,KatTups s.heap (ks.map λk=>Qt k.2) fs/\fs.length=ks.length/\∀v∈fs,∃n t,v=Tw n t
 |[],_=>⟨[],trivial,rfl,λv hv=>by cases hv⟩
 |k::ks,h=>by
  obtain⟨fs,c,d,f⟩:=vM λg i=>h g (PR k i);obtain⟨⟨o,its,n,j,l,hd,b⟩,p⟩:=h k P3;have a:=b.length;have m:0<its.size:=by rw[←QN,←a];omega
  have e:=getElem?_pos its 0 m;refine⟨its[0]::fs,KatTups.cons j l hd e c,by rw[Qe,Qe,d],λv hv=>?_⟩;rcases Qh.mp hv with rfl|hv
  ·exact items_int b _ (by rw[←Tl];exact QP _)
  ·exact f v hv
theorem yH{ks:List (List Int×PZ)}{n:Nat}{P:Vp->P6->Prop}(L:s.heap.get? a=on (Tx "list" (ks.map λk=>Qt k.2).toArray n))(hk:∀k∈ks,(IKd prog w).is s.heap k.1 k.2/\1<=k.1.length)(nd:(ks.map (·.1)).Nodup)(h64:ks.length<64)
  (h:∀(h':Rl) (l:List (List Int×PZ)) (n':Nat),l.Perm ks->Up (l.map (·.1))->h'.get? a=on (Tx "list" (l.map λk=>Qt k.2).toArray n')->(∀b o,b≠a->s.heap.get? b=on o->h'.get? b=on o)->P (.done (.ret .none)) {s with heap:=h'}):
  Qj (QA prog w) A (Builtin.«list.sort» ⟨[.ref a],[]⟩) P E s:=by
 have ha:a<s.heap.objs.size:=Qz L;rw[list_sort_plain];refine My (listItems_at L rfl ?_);refine My (VJ L rfl ?_ (by simp[Sk];omega) (by simp));obtain⟨F,N⟩:∃F,(s.heap.update a (RT λ_=>#[])).get? a=on (Tx "list" #[] F):=⟨_,get?_update_seq L (λ_=>#[])⟩;refine My (seqEpoch_at N rfl ?_);refine My (Yd ?_ (by simp[Sk];omega));refine My (wpAny_newList ?_ (Q8 _));refine RG ?_;generalize q:(ks.map λk=>Qt k.2)=vs at*;have u:vs.length=ks.length:=by rw[←q,PL]
 have d:(((s.heap.update a (RT λ_=>#[])).push (Tx "tuple" vs.toArray 0)).push (Tx "list" #[] 0)).get? a=on (Tx "list" #[] F):=by
  rw[Y8 _ _ _ (by rw[size_push',Heap.size_update];exact Q1 (Vm ha)),Y8 _ _ _ (by rw[Heap.size_update];exact Q1 ha)];exact N
 have keep:∀b o,b≠a->s.heap.get? b=on o->(((s.heap.update a (RT λ_=>#[])).push (Tx "tuple" vs.toArray 0)).push (Tx "list" #[] 0)).get? b=on o:=λb o X e=>by
  refine PU _ (PU _ ?_);rw[SV _ _ _ _ X];exact e
 show Qj (QA prog w) A _ P E {s with heap:=((s.heap.update a (RT λ_=>#[])).push (Tx "tuple" vs.toArray 0)).push (Tx "list" #[] 0)};generalize hh6:((s.heap.update a (RT λ_=>#[])).push (Tx "tuple" vs.toArray 0)).push (Tx "list" #[] 0)=h6 at d keep
 dsimp only
 have O:∀(l:List (List Int×PZ)) (y:Array P0),l.Perm ks->Up (l.map (·.1))->y=(l.map λk=>Qt k.2).toArray->P (.done (.ret .none)) {s with heap:=h6.update a (RT λ_=>y)}:=λl y p1 p2 e=>by
  refine h _ l _ p1 p2 (by rw[←e];exact get?_update_seq d λ_=>y) λb o X Y=>?_;rw[SV _ _ _ _ X];exact keep b o X Y
 by_cases I:vs.toArray.size<2
 ·rw[P7 I,P7 I]
  refine My (PN ?_);rw[StateT.run_pure];refine My (PN ?_)
  dsimp only
  refine My (seqEpoch_at d rfl ?_);have Z:((arrOf (SortSt.mk' general' (vs.toArray.zip vs.toArray) #[] 7 PM)).map (·.2))=vs.toArray:=by
   show(vs.toArray.zip vs.toArray).map (·.2)=_;apply Array.toList_inj.mp;rw[Array.toList_map,Array.toList_zip];exact List.map_snd_zip (P9 _)
  rw[Z];refine My (VJ d rfl ?_ (by simp) (by simp[Sk];omega));simp only[Tg,Ql,Q6];refine PN (O ks _ (.refl _) ?_ (by rw[q]));have R:ks.length<2:=by rw[←u];simpa using I
  match ks,R with
  |[],_=>exact UA
  |[k],_=>exact Sy _ _
  |_::_::_,R=>simp at R;omega
 ·rw[P5 I,P5 I]
  have h2':2<=ks.length:=by rw[←u];simp at I;omega
  have H:∀k∈ks,(IKd prog w).is h6 k.1 k.2/\1<=k.1.length:=λk hk'=>by
   obtain⟨⟨o,its,m,h1,h3,h4,h5⟩,R⟩:=hk k hk';refine⟨⟨o,its,m,keep _ _ (λz=>?_) h1,h3,h4,h5⟩,R⟩;rw[z,L]at h1;cases h1;exact Qx (SR.inj h3) (by decide)
  obtain⟨fs,t1,t2,t3⟩:=vM (s:={s with heap:=h6}) H;rw[q]at t1;refine My (kat_kind (T:= .type "int") t1 (by omega) (λv hv=>?_) rfl ?_)
  ·obtain⟨x,t,rfl⟩:=t3 v hv
   exact Looks.of_pure rfl
  show Qj _ _ (StateT.run sortRuns' (SortSt.mk' (tuples' PQ) (vs.toArray.zip vs.toArray) #[] 7 PM)>>=_) _ _ _;have J:(ks.map (·.1)).length=vs.length:=by rw[PL,u]
  have at_:∀i,i<vs.length->∃k∈ks,vs.getD i Q5= .ref k.2/\(ks.map (·.1)).getD i []=k.1/\ks[i]?=on k:=λi c=>by
   have f:i<ks.length:=by omega
   refine⟨ks[i],QP f,?_,?_,PP f⟩
   ·rw[←q,PV,PY,PP f];rfl
   ·rw[PV,PY,PP f];rfl
  refine My (Q2 (kat_run (κ:=tuples' PQ) (ks:=vs) (vs:=vs) (Q:=λg s'=>s'={s with heap:=h6}/\failedOf g=PM/\∃p:Array Nat,Pm (ij (ks.map (·.1))) vs.length p/\So (ij (ks.map (·.1))) p vs.length/\arrOf g=p.map (kas_item (vs.toArray.zip vs.toArray)))
   (G:=λp s'=>s'={s with heap:=h6}/\Pm (ij (ks.map (·.1))) vs.length p/\So (ij (ks.map (·.1))) p vs.length) rfl (by omega) (by omega) (λp g s' a1 a2 a3 a4=>⟨a4.1,a3,p,a4.2.1,a4.2.2,a2⟩)
   (Rn.wp (lt:=ltR (ij (ks.map (·.1)))) (n:=vs.length) (λi j c B C hC=>?_) (λp hp=>⟨rfl,hp⟩) (Kk (by omega) λi j c B hr=>LZ nd (by rw[J];exact c) (by rw[J];exact B) hr))) (λr s' hr=>?_) λ_ _ e=>e)
  ·obtain⟨k1,m1,F,f1,_⟩:=at_ i c
   obtain⟨k2,m2,e2,f2,_⟩:=at_ j B;unfold kas_ask;rw[F,e2];refine MM (H k1 m1).1 (H k2 m2).1 ?_;have:=yW (ks:=ks.map (·.1)) (i:=i) (j:=j) (by rw[J];exact c) (by rw[J];exact B);rw[f1,f2]at this;rw[←this];exact hC
  ·obtain⟨⟨⟩,g⟩:=r
   obtain⟨rfl,hf,p,P1,so,har⟩:=hr
   dsimp only
   have Z:(arrOf g).map (·.2)=(p.toList.map λi=>vs.getD i Q5).toArray:=kat_snds rfl har;have U:=P1.sz;rw[Z];refine My (seqEpoch_at d rfl ?_);refine My (VJ d rfl ?_ (by simp) (by simp[Sk];omega));rw[hf];simp only[Tg,Ql,Q6];have W:∀i∈p.toList,i<vs.length:=λi c=>Qq.mp (P1.perm.mem_iff.mp c);refine PN (O (p.toList.map λi=>ks.getD i ([],0)) _ ?_ ?_ ?_)
   ·refine(P1.perm.map _).trans (We ?_)
    rw[u];refine Sc (by simp) λi q1 q2=>?_;rw[SY,S6,PV,PP q2];rfl
   ·rw[Qa]
    unfold Up;rw[Uh];refine R8.mpr λi j c B hij=>?_;have f:i<vs.length:=by simpa[U]using c
    have hj':j<vs.length:=by simpa[U]using B
    have gd:∀x (hx:x<p.toList.length),p.getD x 0=p.toList[x]:=λx hx=>by
     have:x<p.size:=by simpa using hx
     simp[SO,this]
    have z:=so i j hij hj';unfold ky at z;rw[gd i c,gd j B]at z;obtain⟨k1,m1,F,f1,g1⟩:=at_ p.toList[i] (W _ (QP c));obtain⟨k2,m2,e2,f2,g2⟩:=at_ p.toList[j] (W _ (QP B));have:=yW (ks:=ks.map (·.1)) (i:=p.toList[i]) (j:=p.toList[j]) (by rw[J];exact W _ (QP c)) (by rw[J];exact W _ (QP B));rw[Qd z,f1,f2]at this;simp only[UX];rw[PV,PV,g1,g2];exact this.symm
   ·rw[Qa]
    congr 1;refine QD λi c=>?_;obtain⟨k1,m1,F,f1,g1⟩:=at_ i (W i c);rw[F];simp only[UX];rw[PV,g1];rfl
theorem CL{α β:Type}{f:α->β}{vs g:List β}(p:vs.Perm g):∀{xs:List α},g=xs.map f->∃ks:List α,ks.Perm xs/\vs=ks.map f:=by
 induction p with
 |nil=>
  intro xs e;cases xs with
  |nil=>exact⟨[],.refl _,rfl⟩
  |cons _ _=>cases e
 |cons x _ ih=>
  intro xs e;cases xs with
  |nil=>cases e
  |cons a xs=>
   cases e;obtain⟨ks,c,d⟩:=ih rfl;exact⟨a::ks,c.cons a,by rw[d];rfl⟩
 |swap x y l=>
  intro xs e
  match xs,e with
  |[],e=>cases e
  |[_],e=>cases e
  |a::b::xs,e=>
   cases e;exact⟨b::a::xs,.swap _ _ _,rfl⟩
 |trans _ _ ih1 ih2=>
  intro xs e;obtain⟨ks,c,d⟩:=ih2 e;obtain⟨h,i,j⟩:=ih1 d;exact⟨h,i.trans c,j⟩
theorem w8{xs:List (List Int×PZ)}(H:A.handled=PM)(S:q8 prog w s.heap a xs)(I:∀x∈xs,1<=x.1.length)(J:xs.length<64)
  (h:∀(l:PZ) (h':Rl) (f v:Nat) (g:List (List Int×PZ)),g.Perm xs->Up (g.map (·.1))->h'.get? l=on (Tx "list" (g.map λk=>Qt k.2).toArray v)->s.heap.objs.size<=l->(∀b o,s.heap.get? b=on o->h'.get? b=on o)->s.toks<=f->Q (.ref l) {s with heap:=h',toks:=f}):
  Qj (QA prog w) A (W3 (.builtin "sorted") [.ref a]) Q E s:=by
 obtain⟨o,es,ep,t,L,y,hd,i,B,N,T,O,j⟩:=S;have C:es.size=xs.length:=by rw[←QN,i,PL]
 have R:t.fits es.size=PQ:=T.fits (by rw[PL,C]);refine Calls.call_function_entry kind_sorted plain_sorted entry_sorted (args_sorted1 _) ?_;unfold Builtin.«sorted»;refine My (m:=checkCount "sorted" 1 1 _) (PN ?_);refine My (vD H L y.1 hd T R O j (by omega) λp f vs keep q htk pv=>?_);rw[i,Qa]at pv;obtain⟨ks,r,rfl⟩:=CL pv rfl;have U:ks.length=xs.length:=r.length_eq;refine My (wpAny_newList ?_ (by rw[PL,Sk];omega));have c:∀b d,s.heap.get? b=on d->(p.push (Tx "list" (ks.map λk=>Qt k.2).toArray 0)).get? b=on d:=λb d e=>PU _ (keep b d e);have u:(p.push (Tx "list" (ks.map λk=>Qt k.2).toArray 0)).get? p.objs.size=on (Tx "list" (ks.map λk=>Qt k.2).toArray 0):=Qk _ rfl;show Qj _ _ _ _ _ {s with heap:=p.push (Tx "list" (ks.map λk=>Qt k.2).toArray 0),toks:=f};refine My (RG (QZ slot_list_sort ⟨_,u,rfl⟩ entry_list_sort (yH u (λk F=>⟨?_,I k (r.mem_iff.mp F)⟩) ((r.map (·.1)).nodup_iff.mpr B) (by omega) λh' g v q1 q2 q3 q4=>⟨_,rfl,?_⟩) (args_list_sort _)))
 ·obtain⟨W,its,m,X,Y,Z,z4⟩:=N k (r.mem_iff.mp F)
  exact⟨W,its,m,c _ _ X,Y,Z,z4⟩
 ·refine PN ⟨_,rfl,h p.objs.size h' f v g (q1.trans r) q2 q3 q (λb d e=>q4 b d (λz=>?_) (c b d e)) htk⟩
  have:=Qz e;exact Qx (z▸this) (Nat.not_lt.mpr q)
end
end L2.Hs
namespace L2.Hs
open PySem PySem.Spec PyProof.Rows
section
variable{prog:QG}{w:QT}
def q9(prog:QG)(w:QT)(a:PZ)(xs:List (List Int×PZ))(h:Rl):Prop:=
 ∃o es ep t,h.get? a=on o/\o.ExactSet/\o.data= .set es ep t/\(es.toList=xs.map λx=>(hsh prog w x.1,Qt x.2))/\(xs.map (·.1)).Nodup/\(Tb t (xs.map λx=>hsh prog w x.1))/\t.plain=PQ/\t.led=!(w.params.followText "set-order")
noncomputable def mW(prog:QG)(w:QT)(a:PZ)(xs:List (List Int×PZ)):HO:= .ext (q9 prog w a xs)
theorem q9.to(S:q9 prog w a xs h)(b:∀x∈xs,(IKd prog w).is h x.1 x.2):q8 prog w h a xs:=by
 obtain⟨o,es,ep,t,c,d,e,f,g,i⟩:=S;exact⟨o,es,ep,t,c,d,e,f,g,b,i⟩
theorem vW(S:q9 prog w a xs h):bO prog w H h a (mW prog w a xs):=by
 refine⟨S,?_,λb c z k=>?_⟩
 ·obtain⟨o,_,_,_,e,_⟩:=S
  exact⟨o,e⟩
 ·obtain⟨o,es,ep,t,e,r⟩:=z
  exact⟨o,es,ep,t,k _ e,r⟩
theorem DS{k:List Int}:∀{its:List P0},ax (k.map V.int) its->ItemsAre (VX prog w) k its:=by
 induction k with
 |nil=>intro its h;cases h;exact .nil
 |cons i k ih=>
  intro its h;cases h with
  |cons a b=>
   obtain⟨t,rfl⟩:=a;exact .cons (by simp[VX,XZ]) (ih b)
variable{X:Cx}
theorem nG{s:P6}{k:List Int}(I:Inv X pins σ H s)(h:SqT X.K H b (k.map V.int)):(IKd X.prog X.w).is s.heap k b:=by
 obtain⟨its,a,⟨o,e,c,n,hd⟩,_⟩:=I.tuple h;exact⟨o,its.toArray,n,e,c,hd,DS a⟩
theorem tb0{b:Bool}:Tb (.fresh 0 0 b) []:=⟨.inl rfl,rfl,λi j a b h=>by simp[YZ]at*,λi j h=>by simp[YZ]at h,rfl,by show 0*5<7*3;decide,λi h j c=>by simp at c⟩
theorem re:∀a:List (List Int×PZ),ax (a.map λz=>V.ref z.2) (a.map λk=>Qt k.2)
 |[]=> .nil
 |_::a=> .cons rfl (re a)
theorem KW:Mks X (newSet (.type "set")) λD=>mW X.prog X.w D []:=λa s c H E Q I h=>by
 unfold newSet setsByText;refine My (My (UM (PN ?_)))
 dsimp only
 simp only[newObj];refine My (wpAny_alloc (PN (h _ (I.laid (t':=s.toks) (λ_ _ q=>PU _ q) (P9 _) (vW ?_)) λb o e=>PU _ e)));exact⟨_,#[],0,_,Qk _ rfl,⟨rfl,rfl,rfl⟩,rfl,rfl,.nil,tb0,rfl,rfl⟩
def AU(P:QG)(w:QT)(K:Qo)(D:PZ)(e:TE):TB:=λd H Q=>e d H λv c=>∃xs k b,c D=on (mW P w D xs)/\v= .ref b/\SqT K c b (k.map V.int)/\(∀x∈xs,SqT K c x.2 (x.1.map V.int))/\xs.length<63/\
 ∀a,(k∈xs.map (·.1)->a=xs)->(k∉xs.map (·.1)->a.Perm ((k,b)::xs))->Q d (upd c D (mW P w D a))
theorem um{D:PZ}(p:X.A.units+1<Va)(L:gens[d+1]?=PM)(N:PE X elt te)(j:X.xe=λ_ _=>False):PB X (.S elt) gens scope pos d D (AU X.prog X.w X.K D te):=by
 intro a s y H Q I h k Q' E' O;unfold h9;rw[L];show Qj _ _ ((do let v ←Rk elt X.env;T6 elt.pos;let _ ←W3 (.builtin "set.add") [.ref D,v])>>=λ_=>k) _ _ _
 have c:=N a s y H _ I h;rw[j]at c;refine My (My (Q2 c (λu g l=>?_) λ_ _ f=>f.elim));obtain⟨v,H1,i,r,xs,R,b,B,rfl,C,J,hn,q⟩:=l;cases r;have S:q9 X.prog X.w D xs g.heap:=(i.hok D _ B).1;have T:q8 X.prog X.w g.heap D xs:=S.to λx h=>nG i (J x h);obtain⟨o,es,ep,t,U,W,_⟩:=S;refine My (SF (My (QZ F.slot_set_add ⟨o,U,W.1⟩ F.entry_set_add ?_ (F.args_set_add_2 _ _))));unfold Builtin.«set.add» Builtin.Frozenset.oneOther;simp only[List.isEmpty_nil,bind_assoc];unfold Builtin.Frozenset.addrOf setAdd;refine My (PN ?_)
 try dsimp only
 refine My (PN ?_)
 try dsimp only
 refine My (RG (My ((IKd X.prog X.w).pyHash p (nG i C) ?_)));refine Os (s:={g with toks:=g.toks+(IKd X.prog X.w).draws R}) p T (nG (s:=g) i C) hn λh' m Y Z c1 c2=>?_;show Qj _ _ (ret Q5) _ _ _;refine PN ⟨_,rfl,PN (O _ y _ (i.write (by rw[B];trivial) (.inl rfl) (λb u n e=>(Y.2 b n).trans e) ?_ (vW ?_)) (q m c1 c2))⟩
 all_goals obtain⟨o,es,ep,t,c,l,h3,h4,h5,J,h6⟩:=Z
 ·exact⟨o,c⟩
 ·exact⟨o,es,ep,t,c,l,h3,h4,h5,h6⟩
def lX(c:PZ->HO)(vars:List QO)(caps:List Nat)(d:TI)(e:PZ->It->TB):TE:=λa H Q=>d a H λJ b=>∀D,b D=PM->e D J (kP vars caps a) (upd b D (c D)) λ_ f=>Q (.ref D) f
theorem KE{d a b:Expr}{f:List Expr}{rest:List RO}{scope:Scope}{pos:UE}{j vars:List QO}{caps:List Nat}{g:TG}{tt:TT}{o:PZ->TB}{p:TI}(r:X.calm=PQ)(S:CmpScope X scope j vars caps)(t:PI X a b p)
  (u:∀(cl:List (QO×PZ)) (C:PZ) (k:List PZ) (s:P6) (H:Hp),PG (aG X j scope cl C k s H) a g/\dR (aG X j scope cl C k s H) f tt/\∀D,PB (aG X j scope cl C k s H) (.S d) (⟨a,b,f,0⟩::rest) scope pos 0 D (o D))
  (hs:∀x,QX b X.env x=SB x:=by intro _;rfl):PE X (.SetComp d (⟨a,b,f,0⟩::rest) scope pos) (lX (λD=>mW X.prog X.w D []) vars caps p λD J=>db J g tt (o D)):=by
 intro i s y H Q I h;refine S4 (use:=PM) rfl hs (S.clo I.ok) S.kind S.loc (Q2 (t i s y H _ I h) (λv Y B=>Q2 B (λF Z L=>?_) λ_ _ x=>x) λ_ _ x=>x);obtain⟨it,k,tn,J,H2,e,N,T,l,f2,q⟩:=L;subst e;refine hZ (c:= .S d) KW (RR:=λacc C=>X3 (QA X.prog X.w) X.A X.xe PM _ acc C) r S u N T l f2 q λD C s' O m R ns U W=>?_;exact⟨m,ns,λh' n=>⟨.ref D,O,R.letgo U n,rfl,W⟩⟩
def v4(P:QG)(w:QT)(K:Qo):List V->Hp->VK->Prop:=λxs H Q=>∃a ys,xs=[.ref a]/\H a=on (mW P w a ys)/\(∀x∈ys,SqT K H x.2 (x.1.map V.int)/\1<=x.1.length)/\ys.length<64/\
 ∀(l:PZ) (b:List (List Int×PZ)),H l=PM->b.Perm ys->Up (b.map (·.1))->Q (.ref l) (upd H l (.lst (b.map λz=>V.ref z.2)))
theorem vE(e:X.calm=PQ):dF X (.builtin "sorted") (v4 X.prog X.w X.K):=by
 intro c s m H xs us Q I r h;obtain⟨a,ys,rfl,ha,d,hn,q⟩:=h;obtain⟨u,rfl,rfl⟩:=kW r;have S:q9 X.prog X.w a ys s.heap:=(I.hok a _ ha).1;refine w8 (I.ok.hd e) (S.to λx h=>nG I (d x h).1) (λx h=>(d x h).2) hn λl h' f g b p i j hs keep n=>?_;refine⟨.ref l,_,I.laid (t':=f) (o:= .lst (b.map λz=>V.ref z.2)) keep hs ⟨?_,b.map λk=>Qt k.2,g,?_,j⟩,rfl,q l b (I.hok.fresh hs) p i⟩
 ·rw[PL,p.length_eq,Sk];omega
 ·exact re b
end
end L2.Hs
namespace L2.Pu
open PySem PySem.Spec PyProof.Rows L2.Hs
def hV(nv:Nat)(caps:List Nat)(it:FL)(tg:TgF)(tt:Dn->M Bool)(b:FL)(a:List D->Option D):FD:=λδ β=>match it δ β with
 |none=>PM
 |some (.error C,β1)=>on (.error C,β1)
 |some (.ok ds,β1)=>match cLp tg tt b ds (cSt nv caps δ) β1 with
  |some (.ok os,β2)=>(a os).map λd=>(.ok d,β2)
  |_=>PM
section
variable{K:Qo}{E:St->XK}
theorem rj{R:AR}{p:PZ->HO}{c:List D->Option D}{vars:List QO}{caps:List Nat}{it:FL}{g:TG}{tg:TgF}{tt:Dn->M Bool}{T:PZ->TB}{b:FL}(hg:cR K g tg)(sg:dP tg)(hb:∀D,eW K R D (T D) b)
  (r0:∀F H D,R.R F (upd H D (p D)) D []) (hp:∀os d,c os=on d->R.Z os) {U:St} {H:Hp} {Q W:VK} (h:tV K (hV vars.length caps it tg tt b c) E U H W)
  (k:∀F B f D os d,Fr F B f->¬F.A D->R.R F B D os->c os=on d->(∀v j,To F B j f->Den K F j d v->W v j)->Q (.ref D) B):
  lX p vars caps (iV K it E) (λD J=>db J g (tVT K tt E0) (T D)) U H Q:=by
 obtain⟨F,δ,β,fr,X,r,f,e,h⟩:=h;unfold hV at e;refine⟨F,δ,β,fr,X,?_⟩;split at e
 ·cases e
 ·rename_i C β1 q
  cases e;exact⟨.error C,_,q,h⟩
 ·rename_i ds β1 q
  split at e
  ·rename_i os β2 q2
   cases hd:c os with
   |none=>rw[hd]at e;cases e
   |some d=>
    rw[hd]at e;cases e;refine⟨.ok ds,β1,q,λJ I t hJ D m=>?_⟩;have i:¬F.A D:=t.fr.fresh m;have nb:∀b l,F.bg=on (b,l)->D≠b/\D≠l:=λb l z=>⟨λw=>i (w▸(fr.bgA b l z).1),λw=>i (w▸(fr.bgA b l z).2.1)⟩;have Y:=t.fr.upd (p D) m;have L:Fr ⟨λa=>F.A a\/a=D,F.bg⟩ (upd I D (p D)) β1:=by
     refine⟨λa ha z=>?_,λb l z=>let ⟨x,y,w⟩:=fr.bgA b l z;⟨.inl x,.inl y,w⟩,Y.fr.bag⟩
     rcases ha with ha|ha
     ·exact Y.fr.occ a ha z
     ·subst ha;rw[ao]at z;cases z
    have u:Tr F I ⟨λa=>F.A a\/a=D,F.bg⟩ (upd I D (p D)):=⟨λa ha hs z=>by
     rcases z with z|z
     ·exact ha z
     ·subst z;exact hs m,λa o ha z=>by rw[upd_ne (az z m)];exact z,rfl⟩
    refine nC (R:=R) (D:=D) (as:=[]) (os:=os) hg sg (hb D) L (.inr rfl) nb (qp (X.tr ((t.tr fr).trans u))) (r0 _ _ _) (hJ.tr u) q2 (hp os d hd) λσ1 j N vk3 O=>?_;have tf:To F I j f:=by
     refine⟨λa o z n=>N.kp a o (by rw[upd_ne (az z m)];exact z) (az z m) n,λa ha z=>N.fr.occ a (RH ha) z,fr.bgA,N.fr.bag⟩
    exact k F j f D os d tf.fr i (R.tr (F:=⟨λa=>F.A a\/a=D,F.bg⟩) O (λ_ z=>z) ⟨λa ha _ z=>ha (RH z),λa o _ z=>z,rfl⟩) hd λv H3 t4 hv=>h v H3 ((t.trans tf).trans t4) hv
  ·cases e
noncomputable abbrev tpI(k:List Int):D:= .tup (k.map .int)
theorem qV{k:List Int}(h:Den K F H (tpI k) v):∃b,v= .ref b/\SqT K H b (k.map V.int):=by
 obtain⟨a,xs,rfl,sq,dl⟩:=Den.sqT h;cases DenL.ints k dl;exact⟨a,rfl,sq⟩
theorem gy(h:tpI k=tpI l):k=l:=by
 injection h with h
 exact Wc (λa b z=>by injection z)|>.mp h
theorem mr{α:Type} [BEq α] [LawfulBEq α]:∀{l m:List α},l.Nodup->(∀x∈l,x∈m)->l.length<=m.length
 |[],_,_,_=>Q8 _
 |a::l,m,nd,h=>by
  obtain⟨c,d⟩:=QR.mp nd;have:=mr (m:=m.erase a) d λx b=>(List.mem_erase_of_ne (λ(z:x=a)=>c (z▸b))).mpr (h x (PR a b));rw[List.length_erase_of_mem (h a P3)]at this;have:=List.length_pos_of_mem (h a P3);rw[Qe];omega
noncomputable def RS(P:QG)(w:QT)(K:Qo):AR where
 R:=λF H D as=>∃xs,H D=on (mW P w D xs)/\(xs.map (·.1)).Nodup/\(∀x∈xs,Den K F H (tpI x.1) (.ref x.2)/\tpI x.1∈as)/\∀d∈as,∃k∈xs.map (·.1),d=tpI k
 Z:=λl=>∃ks:LI,ks.length<63/\∀d∈l,∃k∈ks,d=tpI k
 tr:=λh k t=>by
  obtain⟨xs,a,b,c,f⟩:=h;exact⟨xs,k _ a,b,λx e=>⟨Den.tr t _ _ (c x e).1,(c x e).2⟩,f⟩
 zp:=λh=>by
  obtain⟨ks,a,b⟩:=h;exact⟨ks,a,λd hd=>b d (Su _ hd)⟩
theorem DM{P:QG}{w:QT}{D:PZ}:eW K (RS P w K) D (AU P w K D (tV K f E0)) (cEm f):=λF H δ β u R as os Q fr T A J U e W k=>by
 obtain⟨xs,X,nd,j,ha⟩:=U;obtain⟨d,β1,Y,Z⟩:=M.bind_inv e;cases Z;refine⟨F,δ,β,fr,J,E0.run Y λv B t L=>?_⟩;have C:=t.kp D _ X A;obtain⟨ks,z1,N⟩:=W;obtain⟨r,hk',rfl⟩:=N d (QW _ P3);obtain⟨b,rfl,sq⟩:=qV L;have c:∀x∈xs,Den K F B (tpI x.1) (.ref x.2):=λx h=>Den.tr (t.tr fr) _ _ (j x h).1;have g:xs.length<63:=by
  have:=mr (m:=ks) nd λx I=>by
   obtain⟨y,hy,rfl⟩:=Qc.mp I;obtain⟨l,hl,e⟩:=N _ (Su _ (j y hy).2);rw[gy e];exact hl
  rw[PL]at this;omega
 refine⟨xs,r,b,C,rfl,sq,λx h=>?_,g,λi c1 c2=>?_⟩
 ·obtain⟨b',e,q⟩:=qV (c x h)
  cases e;exact q
 have O:ToD F D B (upd B D (mW P w D i)) u:=by
  refine⟨λa o h n _=>by rw[upd_ne n];exact h,λa h q=>?_,fr.bgA,λb l q=>?_⟩
  ·by_cases z:a=D
   ·subst z;rw[ao]at q;cases q
   ·rw[upd_ne z]at q;exact t.fr.occ a h q
  ·rw[upd_ne (A b l q).1.symm,upd_ne (A b l q).2.symm]
   exact t.fr.bag b l q
 have tt:=O.tr t.fr T;refine k R _ ((t.toD D).trans O) (J.tr ((t.tr fr).trans tt)) ⟨i,ao,?_⟩;by_cases hm:r∈xs.map (·.1)
 ·cases c1 hm
  refine⟨nd,λx h=>⟨Den.tr tt _ _ (c x h),Su _ (j x h).2⟩,λd hd=>?_⟩;rcases RC.mp hd with hd|hd
  ·exact ha d hd
  ·exact⟨r,hm,QH.mp hd⟩
 ·have p:=c2 hm
  refine⟨(p.map (·.1)).nodup_iff.mpr (QR.mpr ⟨hm,nd⟩),λx h=>?_,λd hd=>?_⟩
  ·rcases Qh.mp (p.mem_iff.mp h)with rfl|h
   ·exact⟨Den.tr tt _ _ L,QW _ P3⟩
   ·exact⟨Den.tr tt _ _ (c x h),Su _ (j x h).2⟩
  ·rcases RC.mp hd with hd|hd
   ·obtain⟨k2,h2,e⟩:=ha d hd
    exact⟨k2,(p.map (·.1)).mem_iff.mpr (PR _ h2),e⟩
   ·exact⟨r,(p.map (·.1)).mem_iff.mpr P3,QH.mp hd⟩
def Srt(ks:LI)(os:List D):Prop:=Up ks/\ks.length<63/\(∀k∈ks,1<=k.length/\tpI k∈os)/\∀d∈os,∃k∈ks,d=tpI k
theorem Srt.eq{os:List D}(a:Srt ks os)(b:Srt ls os):ks=ls:=wT a.1 b.1 λx=>⟨λh=>by
 obtain⟨l,c,e⟩:=b.2.2.2 _ (a.2.2.1 x h).2;rw[gy e];exact c,λh=>by
 obtain⟨l,c,e⟩:=a.2.2.2 _ (b.2.2.1 x h).2;rw[gy e];exact c⟩
open Classical in
def kZ(os:List D):Option D:=if h:∃ks,Srt ks os then on (.lst (h.choose.map tpI))else PM
theorem BZ{ks:LI}{os:List D}(h:Srt ks os):kZ os=on (.lst (ks.map tpI)):=by
 have q:∃ks,Srt ks os:=⟨ks,h⟩;unfold kZ;rw[dif_pos q,q.choose_spec.eq h]
theorem rq{os:List D}(h:kZ os=on d):∃ks,Srt ks os/\d= .lst (ks.map tpI):=by
 unfold kZ at h;split at h
 ·rename_i q
  cases h;exact⟨_,q.choose_spec,rfl⟩
 ·cases h
theorem rV:∀{a:List (List Int×PZ)},(∀z∈a,Den K F H (tpI z.1) (.ref z.2))->DenL K F H ((a.map (·.1)).map tpI) (a.map λz=>V.ref z.2)
 |[],_=>DenL.nil
 |z::a,h=>DenL.cons (h z P3) (rV λx b=>h x (PR z b))
end
section
variable{X:Cx}{E:St->XK}{elt target iter:Expr}{ifs:List Expr}{rest:List RO}{scope:Scope}{pos p pos':UE}{Nc vars:List QO}{caps:List Nat}{g:TG}{tb:PZ->TB}
theorem BN(i:Gl X "sorted")(hm:X.mg "sorted"=PM)(o:X.calm=PQ)(S:CmpScope X scope Nc vars caps)(r:PI X target iter (iV X.K it E))
  (t:∀(cl:List (QO×PZ)) (C:PZ) (j:List PZ) (s:P6) (H:Hp),PG (aG X Nc scope cl C j s H) target g/\dR (aG X Nc scope cl C j s H) ifs (tVT X.K tt E0)/\∀D,PB (aG X Nc scope cl C j s H) (.S elt) (⟨target,iter,ifs,0⟩::rest) scope pos 0 D (tb D))
  (u:cR X.K g tg) (A:dP tg) (B:∀D,eW X.K (RS X.prog X.w X.K) D (tb D) b) (hs:∀x,QX iter X.env x=SB x:=by intro _;rfl):
  PE X (.Call (.Name "sorted" p) [.SetComp elt (⟨target,iter,ifs,0⟩::rest) scope pos] [] pos') (tV X.K (hV vars.length caps it tg tt b kZ) E):=
 (lf (vE o) i hm (by kernel_rfl) (fi (KE o S r t hs) jj)).imp λZ H Q h=>by
  refine rj (Q:=λv I=>v4 X.prog X.w X.K [v] I Q) u A B (λF H D=>⟨[],ao,.nil,λx a=>Qx a (by simp),λd hd=>Qx hd (by simp)⟩) (λos d e=>?_) h λF H' J D os d fr L N e q=>?_
  ·obtain⟨ks,s,_⟩:=rq e
   exact⟨ks,s.2.1,s.2.2.2⟩
  ·obtain⟨ks,s,rfl⟩:=rq e
   obtain⟨xs,O,nd,a,ha⟩:=N;have k:∀x∈xs,x.1∈ks:=λx h=>by
    obtain⟨l,f,e⟩:=s.2.2.2 _ (a x h).2;rw[gy e];exact f
   have hn:xs.length<64:=by
    have:=mr (m:=ks) nd λy c=>by
     obtain⟨x,h,rfl⟩:=Qc.mp c;exact k x h
    rw[PL]at this;have:=s.2.1;omega
   refine⟨D,xs,rfl,O,λx h=>?_,hn,λl R f n T=>?_⟩
   ·obtain⟨b',e,q⟩:=qV (a x h).1
    cases e;exact⟨q,(s.2.2.1 _ (k x h)).1⟩
   ·have U:ks=R.map (·.1):=wT s.1 T λy=>by
     refine⟨λc=>?_,λc=>?_⟩
     ·obtain⟨k2,W,e⟩:=ha _ (s.2.2.1 y c).2
      rw[gy e];exact(n.map (·.1)).mem_iff.mpr W
     ·obtain⟨x,h,rfl⟩:=Qc.mp ((n.map (·.1)).mem_iff.mp c)
      exact k x h
    rw[U]at q;exact q _ _ (fr.upd _ f) (Den.newL fr f (rV λz Y=>(a z (n.mem_iff.mp Y)).1))
end
end L2.Pu
namespace L2.Hs
open PySem PySem.Spec PyProof.Rows
section
variable{prog:QG}{w:QT}{A:Q7}{E:P0->P6->Prop}{s:P6}
def IsP(prog:QG)(w:QT)(h:Rl)(k:KyD)(a:PZ):Prop:=∃o n t b,h.get? a=on o/\o.cls= .type "tuple"/\o.data= .seq #[.int k.1 t,.ref b] n/\(IKd prog w).is h k.2 b
theorem IsP.ty(x:IsP prog w s.heap k a):s.TypeIs (.ref a) "tuple":=let ⟨o,_,_,_,ho,hc,_⟩:=x;⟨o,ho,hc⟩
theorem IsP.inj(f:IsP prog w h x a)(g:IsP prog w h y a):x=y:=by
 obtain⟨o,n,t,b,i,_,hd,j⟩:=f;obtain⟨k,p,t',q,d,_,c,e⟩:=g;obtain rfl:o=k:=QB (i.symm.trans d);rw[hd]at c;simp only[Data.seq.injEq,Array.mk.injEq,TC,Tw.injEq,Qt.injEq]at c;obtain⟨⟨⟨l,_⟩,m,_⟩,_⟩:=c;subst m;exact T0 l ((IKd prog w).inj j e)
theorem M1(k:List Int):hsh prog w k=hI k:=by unfold hsh hI;show tupleKeyHash _ _=_;unfold tupleKeyHash;rfl
theorem M2{k:KyD}(g:A.units+1<Va)(f:IsP prog w s.heap k a)(h:Q (hB PQ k) {s with toks:=s.toks+(k.2.length+3)}):Qj (QA prog w) A (pyHash (.ref a)) Q E s:=by
 have c:=f.ty;obtain⟨o,n,t,b,i,_,hd,j⟩:=f;unfold pyHash
 first|unfold pyHashByItsType|skip
 refine My (wpAny_cRoomFor_or (.inr (by omega)) ?_);refine My (SU c F.slot_tuple_hash.lookup ?_);show Qj _ _ (if(on (Value.builtin "tuple.__hash__")==on Q5)=PQ then _ else _) Q E s;rw[P5 (by rw[beq_builtin_none];exact P8)];refine My (SU c F.slot_tuple_hash.lookup ?_);show Qj _ _ (callSpecialIfBoundUnlessNone? (.ref a) "__hash__" _>>=_) Q E s;refine My (wpAny_callSpecialIfBoundUnlessNone?_slot c F.slot_tuple_hash (QZ F.slot_tuple_hash c F.entry_tuple_hash ?_ (F.args_tuple_hash_1 _)));show Qj _ _ (Builtin.Tuple.tupleItemsOf (.ref a)>>=_) _ _ s;refine My (WN i hd ?_);refine My ?_;rw[←T1];simp only[Td,Ts];refine My (My (wpAny_pyHash_int ?_));refine PN (My (My ((IKd prog w).pyHash g j ?_)));refine PN (PN ?_);have h':Q (hB PQ k) {s with toks:=s.toks+1+(k.2.length+1)+1}:=by
  have e:s.toks+1+(k.2.length+1)+1=s.toks+(k.2.length+3):=by omega
  rw[e];exact h
 refine wpAny_ret_mkInt ?_;generalize l:Us _=z;have m:hB PQ k=reduceHash z:=by rw[←l,show(IKd prog w).hash k.2=hI k.2 from M1 k.2];rfl
 rw[m]at h';show Qj _ _ (if(decide (-(2:Int)^63<=z)&&decide (z<2^63))=PQ then _ else _) Q E _;unfold reduceHash at h';by_cases d:(decide (-(2:Int)^63<=z)&&decide (z<2^63))=PQ
 ·rw[P7 d]
  rw[P7 d]at h';exact PN h'
 ·rw[P5 d]
  rw[P5 d]at h';exact My (TX (PN h'))
theorem eq_p(q:A.units+1<Va)(d:IsP prog w s.heap x a)(f:IsP prog w s.heap y b)(h:Q (decide (x=y)) s):Qj (QA prog w) A (eqBool (.ref a) (.ref b)) Q E s:=by
 unfold eqBool
 try with_reducible refine RG ?_
 show Qj _ _ (if(Qt a==Qt b)=PQ then _ else _) Q E s;by_cases c:(Qt a==Qt b)=PQ
 ·rw[P7 c]
  have e:a=b:=by have:=eq_of_beq c;injection this
  subst e;obtain rfl:=d.inj f;exact My (TX (PN (by simpa using h)))
 ·rw[P5 c]
  refine My (wpAny_richCompare_same_room (op:= .Eq) d.ty f.ty F.slot_tuple_eq
   (QZ F.slot_tuple_eq d.ty F.entry_tuple_eq ?_ (F.args_tuple_eq_2 _ _)) (by omega))
  have j:=f.ty;obtain⟨r,t,u,v,k,_,l,m⟩:=d;obtain⟨B,C,H,I,n,_,o,p⟩:=f;show Qj _ _ (WK (.ref b) (.type "tuple")>>=_) _ _ s;refine My (SH j Wa ?_);simp only[SC,Ql,Q6];refine My (WN k l ?_);refine My (WN n o ?_);refine My ?_;simp only[Sh,Ws,Td,Ts];refine My (My ((VX prog w).eqBool (a:=x.1) (b:=y.1) (by simp[VX,XZ]) (by simp[VX,XZ]) ?_));by_cases g:x.1=y.1
  ·rw[Qd g]
   refine PN (My (My ((IKd prog w).eqBool q m p ?_)));by_cases i:x.2=y.2
   ·rw[Qd i]
    rw[Qd (T0 g i)]at h;exact PN (PN (PN ⟨_,rfl,(λe=>nomatch e),Rj h⟩))
   ·rw[QL i]
    rw[QL (λe=>i (Rh _ e))]at h;exact My (PN (PN (PN (PN ⟨_,rfl,(λe=>nomatch e),Rj h⟩))))
  ·rw[QL g]
   rw[QL (λe=>g (Rh _ e))]at h;exact My (PN (PN (PN (PN ⟨_,rfl,(λe=>nomatch e),Rj h⟩))))
theorem Kw(f:(IKd prog w).is s.heap k a)(h:Q PQ s):Qj (QA prog w) A (Y2 (m+1) (.ref a)) Q E s:=by
 have g:=Xz f;obtain⟨o,c,n,i,_,hd,j⟩:=f;unfold Y2;refine My (SU g F.slot_tuple_eq.lookup ?_);show Qj _ _ (WK (.ref a) (.type "tuple")>>=_) _ _ s;refine My (SH g Wa ?_);simp only[SC,Ql,Q6];refine My (R3 i hd ?_);refine My ?_;show Qj _ _ (forIn c _ _) _ _ s;rw[←T1];refine VQ _ (λrest r s'=>r.1=PM/\s'=s/\∀v∈rest,carriedByValue v=PQ) _ ?_ ?_ _ _ ⟨rfl,rfl,j.byValue⟩
 ·rintro v rest r s' ⟨d,rfl,b⟩
  rw[eqIsQuiet_byValue _ (b v P3)];refine My (PN ?_);simp only[SC,Ql,Q6];exact PN ⟨rfl,rfl,λu e=>b u (PR _ e)⟩
 ·rintro⟨r1,l⟩ s' ⟨d,rfl,_⟩
  simp only at d;subst d;exact PN h
theorem Kx(c:IsP prog w s.heap k a)(h:Q PQ s):Qj (QA prog w) A (Y2 8 (.ref a)) Q E s:=by
 have d:=c.ty;obtain⟨o,n,t,b,e,_,hd,f⟩:=c;unfold Y2;refine My (SU d F.slot_tuple_eq.lookup ?_);show Qj _ _ (WK (.ref a) (.type "tuple")>>=_) _ _ s;refine My (SH d Wa ?_);simp only[SC,Ql,Q6];refine My (R3 e hd ?_);refine My ?_;show Qj _ _ (forIn #[Tw k.1 t,Qt b] _ _) _ _ s;rw[←T1];simp only[Td,Ts];rw[eqIsQuiet_byValue _ (v:= .int k.1 t) rfl];exact My (My (PN (PN (My (My (Kw (m:=6) f (PN (PN (PN h)))))))))
def PKd(prog:QG)(w:QT):HeapKind prog w KyD where
 is:=IsP prog w
 hash:=hB PQ
 draws:=λk=>k.2.length+3
 room:=λA=>A.units+1<Va
 inj:=λd e=>d.inj e
 keeps:=λx i hd hs=>by
  obtain⟨j,n,t,b,c,l,a,m⟩:=x;refine⟨j,n,t,b,(hs.2 _ ?_).trans c,l,a,(IKd prog w).keeps m i hd hs⟩;rintro rfl;obtain rfl:=QB (c.symm.trans i);rw[hd]at a;exact nomatch a
 pyHash:=λf g h=>M2 f g h
 eqBool:=λf d e h=>eq_p f d e h
 quiet:=λg h=>Kx g h
def FKd(prog:QG)(w:QT):HeapKind prog w KyD where
 is:=λh k a=>k.1=0/\(IKd prog w).is h k.2 a
 hash:=hB PX
 draws:=λk=>k.2.length+1
 room:=λA=>A.units+1<Va
 inj:=λc d=>T0 (c.1.trans d.1.symm) ((IKd prog w).inj c.2 d.2)
 keeps:=λx i hd hs=>⟨x.1,(IKd prog w).keeps x.2 i hd hs⟩
 pyHash:=λf g h=>(IKd prog w).pyHash (Nat.lt_of_succ_lt f) g.2 h
 eqBool:=λ{A E s x y a b Q} f c d h=>(IKd prog w).eqBool (Nat.lt_of_succ_lt f) c.2 d.2 (by
  have e:decide (x.2=y.2)=decide (x=y):=by
   by_cases q:x.2=y.2
   ·rw[Qd q,Qd (T0 (c.1.trans d.1.symm) q)]
   ·rw[QL q,QL (λz=>q (Rh _ z))]
  rw[e];exact h)
 quiet:=λg h=>(IKd prog w).quiet g.2 h
def KB(prog:QG)(w:QT):Bool->HeapKind prog w KyD
 |true=>PKd prog w
 |false=>FKd prog w
theorem wq{b:Bool}:(KB prog w b).hash=hB b:=by cases b<;>rfl
theorem nE{b:Bool}{A:Q7}(h:A.units+1<Va):(KB prog w b).room A:=by cases b<;>exact h
def KyS(K:Qo)(H:Hp):Bool->KyD->PZ->Prop
 |true,k,c=>∃e,SqT K H c [.int k.1,.ref e]/\SqT K H e (k.2.map V.int)
 |false,k,c=>k.1=0/\SqT K H c (k.2.map V.int)
abbrev XY(x:KyD×PZ×V)(y:KyD×PZ×P0):Prop:=x.1=y.1/\x.2.1=y.2.1/\aN x.2.2 y.2.2
theorem qw:∀{xs:List (KyD×PZ×V)} {ys:List (KyD×PZ×P0)},WJ XY xs ys->xs.map (·.1)=ys.map (·.1)
 |_,_,.nil=>rfl
 |_,_,.cons h t=>by rw[Qf,Qf,h.1,qw t]
theorem yg:∀{xs:List (KyD×PZ×V)} {ys:List (KyD×PZ×P0)},WJ XY xs ys->∀y∈ys,∃x∈xs,XY x y
 |_,_,.nil,y,h=>by cases h
 |_,_,.cons (a:=a) h t,y,hy=>by
  rcases Qh.mp hy with rfl|hy
  ·exact⟨a,P3,h⟩
  ·obtain⟨x,b,e⟩:=yg t y hy
   exact⟨x,PR _ b,e⟩
noncomputable def lkV(xs:List (KyD×PZ×V))(k:KyD):Option V:=(xs.find? λx=>decide (x.1=k)).map (·.2.2)
theorem mZ:∀{xs:List (KyD×PZ×V)} {ys:List (KyD×PZ×P0)},WJ XY xs ys->iu (lkV xs k) ((Xw ys k).map (·.2))
 |_,_,.nil=>by simp[lkV,Xw,iu]
 |_,_,.cons (a:=a) (b:=b) h t=>by
  have ih:=mZ (k:=k) t;unfold lkV Xw at ih⊢;rw[Tc,Tc,←h.1];by_cases q:a.1=k
  ·rw[Qd q];exact h.2.2
  ·rw[QL q];exact ih
theorem vF(h:XY x y):∀{xs:List (KyD×PZ×V)} {ys:List (KyD×PZ×P0)},WJ XY xs ys->WJ XY (xs++[x]) (ys++[y])
 |_,_,.nil=> .cons h .nil
 |_,_,.cons h' t=> .cons h' (vF h t)
variable{X:Cx}{pins:List (PZ×Qy)}{σ:St}{H:Hp}
theorem pZ{b:Bool}(I:Inv X pins σ H s)(h:KyS X.K H b k c):(KB X.prog X.w b).is s.heap k c:=by
 cases b with
 |true=>
  obtain⟨e,a,d⟩:=h;obtain⟨its,f,⟨o,g,i,n,hd⟩,_⟩:=I.tuple a;obtain⟨j,l,rfl,⟨t,rfl⟩,rfl⟩:=sD f;exact⟨o,n,t,e,g,i,hd,nG I d⟩
 |false=>exact⟨h.1,nG I h.2⟩
theorem big{pins:List (PZ×Qy)}{σ:St}{H:Hp}{s:P6}(I:Inv X pins σ H s):WL<s.heap.objs.size:=UU (by decide) (show Sj<s.heap.objs.size from(I.mod.glob.keeps I.bk).lt)
theorem mJ{b:Bool}(I:Inv X pins σ H s)(d:H a=on (dS a b ep xs))(e:∀x∈xs,KyS X.K H b x.1 x.2.1):∃ys,s.heap.DictOfH (KB X.prog X.w b) a ys/\WJ XY xs ys/\ys.length<=Qp/\(a==WL)=PX:=by
 obtain⟨o,es,ys,f,g,h,i,j,k,l,c⟩:yd a b ep xs s.heap:=(I.hok a _ d).1;refine⟨ys,⟨o,es,ep,f,g,h,?_,λy m=>?_,j⟩,c,l,k⟩
 ·rw[i];unfold entryOfKey;rw[wq]
 ·obtain⟨x,n,p,q,_⟩:=yg c y m
  rw[←p,←q];exact pZ I (e x n)
def L9(K:Qo):R2:=λx y H Q=>∃a b ep xs k c v,x= .ref a/\y= .ref c/\H a=on (dS a b ep xs)/\(∀x∈xs,KyS K H b x.1 x.2.1)/\KyS K H b k c/\lkV xs k=on v/\Q v H
theorem zW(l:X.A.units+2<Va):IxR X (L9 X.K):=by
 intro g i pins s σ H x y v u Q I m n h hs;obtain⟨a,b,ep,xs,k,c,o,rfl,rfl,t,B,C,J,q⟩:=h;cases m;cases n;obtain⟨ys,d,p,_,_⟩:=mJ I t B;have f:=mZ (k:=k) p;rw[J]at f;cases e:Xw ys k with
 |none=>rw[e]at f;exact f.elim
 |some r=>
  rw[e]at f;exact VY (x:=r.2) d.typeIs PySem.F.slot_dict_getitem.lookup (wpAny_getItem_heap (Q:=λj s'=>j=r.2/\EP X pins σ Q j s') (nE l) (pZ I C) d e ⟨rfl,o,H,I.tok _,f,q⟩) hs
theorem uz{b:Bool}:Mks X newDict λD=>dS D b 0 []:=λpins s σ H E Q I h=>Rq (h _ (I.laid (t':=s.toks) (λ_ _ q=>PU _ q) (P9 _) (wI ⟨_,#[],[],Qk _ rfl,⟨rfl,rfl,rfl⟩,rfl,rfl,.nil,beq_eq_false_iff_ne.mpr (Ne.symm (Q1 (big I))),Q8 _,.nil⟩)) λb o e=>PU _ e)
def AV(K:Qo)(b:Bool)(D:PZ)(e f:TE):TB:=λσ H Q=>e σ H λx g=>f σ g λy a=>∃ep xs k c,x= .ref c/\a D=on (dS D b ep xs)/\(∀x∈xs,KyS K a b x.1 x.2.1)/\KyS K a b k c/\k∉xs.map (·.1)/\xs.length<Qp/\∀d,Q σ (upd a D (dS D b d (xs++[(k,c,y)])))
theorem lh{D:PZ}{b:Bool}(L:X.A.units+1<Va)(N:gens[d+1]?=PM)(O:PE X ke tk)(R:PE X ve tv)(a:X.xe=λ_ _=>False):PB X (.D ke ve) gens scope pos d D (AV X.K b D tk tv):=by
 intro pins s σ H Q I h k Q' E' T;unfold h9;rw[N];show Qj _ _ (emC (.D ke ve) (.ref D) X.env>>=λ_=>k) _ _ _;unfold emC;have t:=O pins s σ H _ I h;rw[a]at t;refine My (My (Q2 t (λu U W=>?_) λ_ _ f=>f.elim));obtain⟨v,Y,Z,r,q1⟩:=W;have B:=R pins U σ Y _ Z q1;rw[a]at B;refine My (RG (Q2 B (λu2 s2 h4=>?_) λ_ _ f=>f.elim));obtain⟨v2,H2,i,r2,ep0,xs,j,c,rfl,C,hx,hc,hn,hl,q⟩:=h4;cases r;obtain⟨ys,dd,p,hz,l⟩:=mJ i C hx;have F:=qw p;have e0:Xw ys j=PM:=by
  cases e:Xw ys j with
  |none=>rfl
  |some r=>
   exfalso
   unfold Xw at e;cases m:ys.find? (λx=>decide (x.1=j))with
   |none=>rw[m]at e;cases e
   |some y=>
    have:=List.find?_some m;exact hn (by rw[F];exact Qc.mpr ⟨y,List.mem_of_find?_eq_some m,Rx this⟩)
 refine My (SF (RG (wpAny_dictSet_heap (nE L) (pZ i hc) dd (λh' d' sb=>?_) hz)));rw[storedH_new e0]at d';obtain⟨o,es,ep,J,g2,g3,g4,g5,g6⟩:=d';have g:ys.length=xs.length:=by rw[←PL (f:=(·.1)),←F,PL]
 refine T _ σ _ (i.write (by rw[C];trivial) (.inl rfl) (λb u n e=>(sb.2 b n).trans e) ⟨o,J⟩ (wI ⟨o,es,_,J,g2,g3,?_,g6,l,?_,vF ⟨rfl,rfl,r2⟩ p⟩)) (q ep)
 ·rw[g4];unfold entryOfKey;rw[wq]
 ·rw[Qm,g,Ri];omega
theorem CP{b:Bool}{k l a d:Expr}{f:List Expr}{rest:List RO}{scope:Scope}{pos:UE}{i vars:List QO}{caps:List Nat}{g:TG}{tt:TT}{p:PZ->TB}{r:TI}(t:X.calm=PQ)(S:CmpScope X scope i vars caps)(u:PI X a d r)
  (y:∀(cl:List (QO×PZ)) (C:PZ) (j:List PZ) (s:P6) (H:Hp),PG (aG X i scope cl C j s H) a g/\dR (aG X i scope cl C j s H) f tt/\∀D,PB (aG X i scope cl C j s H) (.D k l) (⟨a,d,f,0⟩::rest) scope pos 0 D (p D))
  (hs:∀x,QX d X.env x=SB x:=by intro _;rfl):PE X (.DictComp k l (⟨a,d,f,0⟩::rest) scope pos) (lX (λD=>dS D b 0 []) vars caps r λD J=>db J g tt (p D)):=by
 intro pins s σ H Q I h;refine S4 (use:=PM) rfl hs (S.clo I.ok) S.kind S.loc (Q2 (u pins s σ H _ I h) (λv Y B=>Q2 B (λF Z L=>?_) λ_ _ x=>x) λ_ _ x=>x);obtain⟨it,j,tn,J,H2,e,N,T,n,f2,q⟩:=L;subst e;refine hZ (c:= .D k l) uz (RR:=λacc C=>X3 (QA X.prog X.w) X.A X.xe PM _ acc C) t S y N T n f2 q λD C s' O m R ns U W=>?_;exact⟨m,ns,λh' o=>⟨.ref D,O,R.letgo U o,rfl,W⟩⟩
end
end L2.Hs
namespace L2.Pu
open PySem PySem.Spec PyProof.Rows L2.Hs
def dK:Bool->KyD->D
 |true,k=> .tup [.int k.1,tpI k.2]
 |false,k=>tpI k.2
def KyZ(b:Bool)(k:KyD):Prop:=b=PX->k.1=0
theorem Nk{b:Bool}(a:KyZ b k)(c:KyZ b l)(h:dK b k=dK b l):k=l:=by
 cases b with
 |true=>
  simp only[dK,D.tup.injEq,TC,D.int.injEq,and_true]at h;exact T0 h.1 (gy (Rh D.tup h.2))
 |false=>exact T0 ((a rfl).trans (c rfl).symm) (gy h)
section
variable{K:Qo}{F:Fx}{H:Hp}{E:St->XK}
theorem u9(h:Den K F H (.tup ds) v):∃a xs,v= .ref a/\TQ K F H a xs/\DenL K F H ds xs:=by
 unfold Den at h;exact h
theorem o6(h:TQ K F H a xs)(hd:DenL K F H ds xs):Den K F H (.tup ds) (.ref a):=by
 unfold Den;exact⟨a,xs,rfl,h,hd⟩
theorem TQ.sq(h:TQ K F H c xs):SqT K H c xs:=h.imp (·.2) id
theorem iw.s{b:Bool}(h:iw K F H b k c):KyS K H b k c:=by
 cases b with
 |true=>
  obtain⟨e,a,d⟩:=h;exact⟨e,a.sq,d.sq⟩
 |false=>exact⟨h.1,h.2.sq⟩
theorem iw.z{b:Bool}(h:iw K F H b k c):KyZ b k:=λe=>by subst e;exact h.1
theorem sN{b:Bool}(f:KyZ b k)(h:Den K F H (dK b k) v):∃c,v= .ref c/\iw K F H b k c:=by
 cases b with
 |true=>
  obtain⟨a,xs,rfl,q,dl⟩:=u9 h;obtain⟨g,i,rfl,d1,d2⟩:=DenL.two dl;cases d1.int;obtain⟨e,ys,rfl,q2,d⟩:=u9 d2;cases DenL.ints k.2 d;exact⟨a,rfl,e,q,q2⟩
 |false=>
  obtain⟨a,xs,rfl,q,dl⟩:=u9 h;cases DenL.ints k.2 dl;exact⟨a,rfl,f rfl,q⟩
theorem O0{b:Bool}(h:iw K F H b k c):Den K F H (dK b k) (.ref c):=by
 cases b with
 |true=>
  obtain⟨e,a,d⟩:=h;exact o6 a (DenL.cons rfl (DenL.cons (o6 d (DenL.ofInts k.2)) DenL.nil))
 |false=>exact o6 h.2 (DenL.ofInts k.2)
abbrev pKD(b:Bool)(p:KyD×D):D:= .tup [dK b p.1,p.2]
def Dk(b:Bool)(kvs:List (KyD×D))(os:List D):Prop:=os=kvs.map (pKD b)/\(kvs.map (·.1)).Nodup/\kvs.length<=Qp/\∀p∈kvs,KyZ b p.1
theorem KK{b:Bool}{p q:KyD×D}(a:KyZ b p.1)(c:KyZ b q.1)(h:pKD b p=pKD b q):p=q:=by
 simp only[pKD,D.tup.injEq,TC,and_true]at h;exact T0 (Nk a c h.1) h.2
theorem li{b:Bool}:∀{l m:List (KyD×D)},(∀p∈l,KyZ b p.1)->(∀p∈m,KyZ b p.1)->l.map (pKD b)=m.map (pKD b)->l=m
 |[],[],_,_,_=>rfl
 |[],_::_,_,_,h=>by cases h
 |_::_,[],_,_,h=>by cases h
 |p::l,q::m,hl,hm,h=>by
  rw[Qf,Qf,TC]at h;rw[KK (hl p P3) (hm q P3) h.1,li (λx a=>hl x (PR _ a)) (λx a=>hm x (PR _ a)) h.2]
theorem Dk.eq{b:Bool}{os:List D}(x:Dk b l os)(y:Dk b m os):l=m:=li x.2.2.2 y.2.2.2 (x.1.symm.trans y.1)
open Classical in
def lI(b:Bool)(os:List D):Option D:=if h:∃kvs,Dk b kvs os then on (.dct b (h.choose.map (·.1)) (h.choose.map (·.2)))else PM
theorem wJ{b:Bool}{kvs:List (KyD×D)}{os:List D}(h:Dk b kvs os):lI b os=on (.dct b (kvs.map (·.1)) (kvs.map (·.2))):=by
 have q:∃kvs,Dk b kvs os:=⟨kvs,h⟩;unfold lI;rw[dif_pos q,q.choose_spec.eq h]
theorem vd{b:Bool}{os:List D}(h:lI b os=on d):∃kvs,Dk b kvs os/\d= .dct b (kvs.map (·.1)) (kvs.map (·.2)):=by
 unfold lI at h;split at h
 ·rename_i q
  cases h;exact⟨_,q.choose_spec,rfl⟩
 ·cases h
noncomputable def RD(K:Qo)(b:Bool):AR where
 R:=λF H D as=>∃ep,∃a:List ((KyD×Pu.D)×PZ×V),as=a.map (λz=>pKD b z.1)/\H D=on (dS D b ep (a.map λz=>(z.1.1,z.2)))/\∀z∈a,iw K F H b z.1.1 z.2.1/\Den K F H z.1.2 z.2.2
 Z:=λl=>∃kvs more,Dk b kvs (l++more)
 tr:=λh k t=>by
  obtain⟨ep,a,e,f,c⟩:=h;exact⟨ep,a,e,k _ f,λz d=>⟨(c z d).1.tr t,Den.tr t _ _ (c z d).2⟩⟩
 zp:=λh=>by
  obtain⟨kvs,more,h⟩:=h;exact⟨kvs,_,by rw[←Ra];exact h⟩
def EK(f g:FD):FL:=λδ=>M.bind (f δ) λk=>M.bind (g δ) λv=>M.ret [.tup [k,v]]
theorem oJ{b:Bool}{D:PZ}:eW K (RD K b) D (AV K b D (tV K f E0) (tV K g E0)) (EK f g):=λF H δ β I σ as os Q fr hA B J hR e hz k=>by
 obtain⟨ep,d,rfl,hD,C⟩:=hR;obtain⟨W,β1,e1,e2⟩:=M.bind_inv e;obtain⟨X,β2,e3,e4⟩:=M.bind_inv e2;cases e4;obtain⟨kvs,more,L,Y,z3,Z⟩:=hz;have N:∀p∈d.map (·.1),KyZ b p.1:=λp r=>by
  obtain⟨z,h,rfl⟩:=Qc.mp r;exact(C z h).1.z
 have O:d.length<kvs.length:=by
  have:=Rh VT L;simp at this;omega
 have ez:(d.map (·.1)).map (pKD b)=(kvs.take d.length).map (pKD b):=by
  rw[Vk,←L,Ra,WI (by simp),R5 (by simp),Qa];rfl
 have ek:=li N (λp r=>Z p (UC r)) ez;have R:pKD b kvs[d.length]= .tup [W,X]:=by
  have h0:(kvs.map (pKD b))[d.length]?=on (.tup [W,X]):=by
   rw[←L,Ra,Ru (by simp)];simp
  rw[PY,PP O]at h0;exact QB h0
 have u:=Z _ (QP O);generalize r:kvs[d.length]=p at R u;obtain⟨j,vv⟩:=p;simp only[pKD,Pu.D.tup.injEq,TC,and_true]at R;obtain⟨rfl,rfl⟩:=R;have y:j∉d.map (·.1.1):=λhm=>by
  have h2:kvs.take d.length++(j,vv)::kvs.drop (d.length+1)=kvs:=by
   rw[←r,←QV O,Ti]
  rw[←h2,←ek,QK,Qf,Wr]at Y;refine Y.2.2 j ?_ j P3 rfl;rw[Qa];exact hm
 refine⟨F,δ,β,fr,J,E0.run e1 λv H1 t hv=>⟨F,δ,β1,t.fr,J.tr (t.tr fr),E0.run e3 λv2 H2 m T=>?_⟩⟩;have U:=Den.tr (m.tr t.fr) _ _ hv;obtain⟨c,rfl,kc⟩:=sN u U;have i:=(t.tr fr).trans (m.tr t.fr);refine⟨ep,_,j,c,rfl,m.kp D _ (t.kp D _ hD B) B,λx h=>?_,kc.s,?_,?_,λA=>?_⟩
 ·obtain⟨z,h',rfl⟩:=Qc.mp h
  exact((C z h').1.tr i).s
 ·rw[Qa];exact y
 ·rw[PL];omega
 have tD:ToD F D H2 (upd H2 D (dS D b A ((d.map λz=>(z.1.1,z.2))++[(j,c,v2)]))) I:=by
  refine⟨λa o h n _=>by rw[upd_ne n];exact h,λa h q=>?_,fr.bgA,λb l q=>?_⟩
  ·by_cases z:a=D
   ·subst z;rw[ao]at q;cases q
   ·rw[upd_ne z]at q;exact m.fr.occ a h q
  ·rw[upd_ne (B b l q).1.symm,upd_ne (B b l q).2.symm]
   exact m.fr.bag b l q
 have tt:=tD.tr m.fr hA;refine k σ _ (((t.trans m).toD D).trans tD) (J.tr (i.trans tt)) ⟨A,d++[((j,vv),c,v2)],by rw[QK];rfl,by rw[QK];exact ao,λz h=>?_⟩;rcases RC.mp h with h|h
 ·exact⟨(C z h).1.tr (i.trans tt),Den.tr (i.trans tt) _ _ (C z h).2⟩
 ·cases QH.mp h
  exact⟨kc.tr tt,Den.tr tt _ _ T⟩
theorem va{F:Fx}{H:Hp}{α:Type}{f:α->D}{g:α->V}:∀{a:List α},(∀z∈a,Den K F H (f z) (g z))->DenL K F H (a.map f) (a.map g)
 |[],_=>DenL.nil
 |z::a,h=>DenL.cons (h z P3) (va λx b=>h x (PR z b))
end
theorem u8{K:Qo}{E:St->XK}{kb:Bool}{vars:List QO}{caps:List Nat}{g:TG}{f:PZ->TB}{it:FL}{tg:TgF}{tt:Dn->M Bool}{b:FL}(j:cR K g tg)(k:dP tg)(l:∀D,eW K (RD K kb) D (f D) b){i:St}{H:Hp}{Q:VK}(h:tV K (hV vars.length caps it tg tt b (lI kb)) E i H Q):
  lX (λD=>dS D kb 0 []) vars caps (iV K it E) (λD J=>db J g (tVT K tt E0) (f D)) i H Q:=by
 refine rj j k l (λF H D=>⟨0,[],rfl,ao,λx a=>Qx a (by simp)⟩) (λos d e=>?_) h λF v m D os d fr c n e q=>?_
 ·obtain⟨kvs,s,_⟩:=vd e
  exact⟨kvs,[],by rw[QY];exact s⟩
 ·obtain⟨kvs,s,rfl⟩:=vd e
  obtain⟨ep,o,rfl,r,a⟩:=n;have t:kvs=o.map (·.1):=li s.2.2.2 (λp u=>by
   obtain⟨z,h,rfl⟩:=Qc.mp u;exact(a z h).1.z) (by rw[←s.1,Qa];rfl)
  refine q _ _ (To.refl fr) ?_;unfold Den;subst t;refine⟨D,ep,_,rfl,⟨c,r⟩,by simp,λx h=>?_,?_⟩
  ·obtain⟨z,h',rfl⟩:=Qc.mp h
   exact(a z h').1
  ·rw[Qa,Qa]
   exact va λz h=>(a z h).2
section
variable{X:Cx}{E:St->XK}{ke ve target iter:Expr}{ifs:List Expr}{rest:List RO}{scope:Scope}{pos:UE}{Nc vars:List QO}{caps:List Nat}{g:TG}{tb:PZ->TB}
theorem JR{kb:Bool}(c:X.calm=PQ)(S:CmpScope X scope Nc vars caps)(d:PI X target iter (iV X.K it E))
  (e:∀(cl:List (QO×PZ)) (C:PZ) (a:List PZ) (s:P6) (H:Hp),PG (aG X Nc scope cl C a s H) target g/\dR (aG X Nc scope cl C a s H) ifs (tVT X.K tt E0)/\∀D,PB (aG X Nc scope cl C a s H) (.D ke ve) (⟨target,iter,ifs,0⟩::rest) scope pos 0 D (tb D))
  (f:cR X.K g tg) (i:dP tg) (j:∀D,eW X.K (RD X.K kb) D (tb D) b) (hs:∀x,QX iter X.env x=SB x:=by intro _;rfl):
  PE X (.DictComp ke ve (⟨target,iter,ifs,0⟩::rest) scope pos) (tV X.K (hV vars.length caps it tg tt b (lI kb)) E):=
 (CP (b:=kb) c S d e hs).imp λk H Q h=>u8 f i j h
noncomputable def ig:List D->Option (List Int)
 |[]=>on []
 | .int i::r=>(ig r).map (i::·)
 |_=>PM
def iq:Bool->D->Option KyD
 |false,.tup ds=>(ig ds).map λl=>(0,l)
 |true,.tup [.int i,.tup ds]=>(ig ds).map λl=>(i,l)
 |_,_=>PM
theorem qy:∀(l:List Int),ig (l.map .int)=on l
 |[]=>rfl
 |i::l=>by show(ig (l.map .int)).map _=_;rw[qy l];rfl
theorem tupI_inv:∀{ds:List D} {l:List Int},ig ds=on l->ds=l.map .int
 |[],l,h=>by cases h;rfl
 | .int i::r,l,h=>by
  have h':(ig r).map (i::·)=on l:=h;cases q:ig r with
  |none=>rw[q]at h';cases h'
  |some m=>rw[q]at h';cases h';rw[tupI_inv q];rfl
 | .non::_,_,h=>by cases h
 | .bl _::_,_,h=>by cases h
 | .str _::_,_,h=>by cases h
 | .ty _::_,_,h=>by cases h
 | .txt::_,_,h=>by cases h
 | .lst _::_,_,h=>by cases h
 | .tup _::_,_,h=>by cases h
 | .scr _::_,_,h=>by cases h
 | .obj _ _ _::_,_,h=>by cases h
 | .bag::_,_,h=>by cases h
 | .adr _::_,_,h=>by cases h
 | .dct _ _ _::_,_,h=>by cases h
theorem qP{b:Bool}(h:KyZ b k):iq b (dK b k)=on k:=by
 cases b with
 |true=>show(ig _).map _=_;rw[qy];rfl
 |false=>show(ig _).map _=_;rw[qy];exact Rh on (T0 (h rfl).symm rfl)
theorem oK{b:Bool}(h:iq b d=on k):KyZ b k/\d=dK b k:=by
 unfold iq at h;split at h
 ·rename_i ds
  cases q:ig ds with
  |none=>rw[q]at h;cases h
  |some l=>rw[q]at h;cases h;exact⟨λ_=>rfl,by rw[tupI_inv q];rfl⟩
 ·rename_i i ds
  cases q:ig ds with
  |none=>rw[q]at h;cases h
  |some l=>rw[q]at h;cases h;exact⟨λz=>(by cases z),by rw[tupI_inv q];rfl⟩
 ·cases h
noncomputable def lkD(ks:List KyD)(vs:List D)(k:KyD):Option D:=((ks.zip vs).find? λp=>decide (p.1=k)).map (·.2)
variable{K:Qo}{F:Fx}{H:Hp}
def RelD(K:Qo)(F:Fx)(H:Hp):Option D->Option V->Prop
 |none,v=>v=PM
 |some d,v=>∃u,v=on u/\Den K F H d u
theorem pX:∀{xs:List (KyD×PZ×V)} {vs:List D},DenL K F H vs (xs.map (·.2.2))->RelD K F H (lkD (xs.map (·.1)) vs k) (lkV xs k)
 |[],vs,_=>by unfold lkD lkV;rfl
 |x::xs,vs,h=>by
  cases vs with
  |nil=>cases h
  |cons d vs=>
   obtain⟨u,r,e,a,b⟩:=h;rw[Qf,TC]at e;obtain⟨rfl,rfl⟩:=e;have ih:=pX (k:=k) b;unfold lkD lkV at ih⊢;rw[Qf,Sh,Tc,Tc];by_cases q:x.1=k
   ·rw[Qd q];exact⟨_,rfl,a⟩
   ·rw[QL q];exact ih
def EG:D->D->Option D
 | .dct b ks vs,y=>(iq b y).bind (lkD ks vs)
 |_,_=>PM
theorem Pf:bh K (L9 K) EG:=λF H β Q d1 d2 d v y fr h i e k=>by
 unfold EG at e;split at e
 ·rename_i b ks vs
  cases q:iq b d2 with
  |none=>rw[q]at e;cases e
  |some f=>
   rw[q]at e;have j:lkD ks vs f=on d:=e;obtain⟨l,rfl⟩:=oK q;obtain⟨c,rfl,m⟩:=sN l i;unfold Den at h;obtain⟨a,ep,xs,rfl,n,rfl,o,dl⟩:=h;have:=pX (k:=f) dl;rw[j]at this;obtain⟨u,p,r⟩:=this;exact⟨a,b,ep,xs,f,c,u,rfl,rfl,n.2,λx t=>(o x t).s,m.s,p,k u H (To.refl fr) r⟩
 ·cases e
def OT(K:Qo):V->List V->Hp->VK->Prop:=λx ys H Q=>∃a b ep xs k c z,x= .ref a/\ys=[.ref c,z]/\H a=on (dS a b ep xs)/\(∀x∈xs,KyS K H b x.1 x.2.1)/\KyS K H b k c/\Q ((lkV xs k).getD z) H
variable{o e:Expr}{es:List Expr}{apos cpos:UE}
theorem KV(n:X.A.units+2<Va):MtR X "dict.get" (OT X.K):=by
 intro l s N H x xs v us Q I r t h;obtain⟨a,b,ep,ys,k,c,z,rfl,rfl,u,B,C,q⟩:=h;cases r;obtain⟨O,J,rfl,r1,L⟩:=sD t;cases r1;obtain⟨j,d,p,_,hs⟩:=mJ I u B;have f:=mZ (k:=k) p;refine call_meetsIn Xs d.typeIs PySem.F.entry_dict_get (PySem.F.args_dict_get_3 _ _ _) (meetsH_dict_get_default (KB X.prog X.w b) a c hs J) ⟨nE n,k,j,pZ I C,d,_,H,I.tok _,?_,q⟩;cases m:lkV ys k with
 |none=>
  rw[m]at f;cases i:(Xw j k).map (·.2)with
  |none=>exact L
  |some w=>rw[i]at f;exact f.elim
 |some y=>
  rw[m]at f;cases i:(Xw j k).map (·.2)with
  |none=>rw[i]at f;exact f.elim
  |some w=>rw[i]at f;exact f
def ED(f:FD)(g:FL):FD:=λδ=>M.bind (f δ) λd=>match d with
 | .dct b ks vs=>M.bind (g δ) λas=>M.ofO (match as with
  |[k,z]=>(iq b k).map λk=>(lkD ks vs k).getD z
  |_=>PM)
 |_=>M.fail
theorem OJ{g:FL}(hu:X.A.units+2<Va)(ho:PE X o (tV X.K f E))(ha:PA X (e::es) (tVA X.K g E))
  (n:Ue o "get" X.env (Rk o X.env)=Rk o X.env:=by rfl)
  (B:((SA cpos (Qg (e::es) X.env)).all (λx=>!x.1)&&(Tp cpos (Si [] X.env)).all (λx=>x.1.isSome)
   &&decide ((e::es).length+([]:List VA).length+(if([]:List VA).isEmpty then 0 else 1)<30))=PQ:=by rfl)
  (p:(apos.endLine==cpos.line)=PQ:=by rfl) (hs:Qg (e::es) X.env=(PX,Rk e X.env)::Qg es X.env:=by rfl) (m:(SA cpos (Qg es X.env)).any (·.1)=PX:=by rfl):
  PE X (.Call (.Attribute o "get" apos) (e::es) [] cpos) (tV X.K (ED f g) E):=by
 intro j s J H Q I h;obtain⟨F,δ,β,fr,vk,h⟩:=h;refine Zj n B p rfl (thn (ho j s J H _ I ⟨F,δ,β,fr,vk,(run.bind (R:=Den X.K F) h)⟩) λv s1 h1=>?_);obtain⟨x,H1,I1,r1,d,β1,t,hd,q1⟩:=h1;have fail:∀{N:M D},N=M.fail->run (Den X.K F) F E J N H1 Q β1->False:=λ{N} e r=>by
  obtain⟨r,β',e',_⟩:=r;rw[e]at e';cases e'
 cases d<;>first|exact(fail rfl q1).elim|skip
 rename_i b ks vs;have C:=hd;unfold Den at C;obtain⟨a,ep,xs,rfl,O,rfl,hk,dl⟩:=C;cases r1;obtain⟨ys,dd,_,_,_⟩:=mJ I1 O.2 λx T=>(hk x T).s;refine⟨"dict","dict.get",Xf,Xs,PySem.F.type_dict_get,dd.typeIs,λb e=>?_,?_⟩
 ·cases e
  obtain⟨ob,_,_,g1,g2,_⟩:=dd;exact⟨ob,g1,g2.2.1⟩
 have hA:=ha cpos j s1 J H1 _ I1 ⟨F,δ,β1,t.fr,vk.tr (t.tr fr),run.bind (R:=DenL X.K F) q1⟩;rw[hs]at hA⊢;refine Vx (by show(PX||(SA cpos (Qg es X.env)).any (·.1))=PX;rw[m]<;>rfl) (XN (thn hA λus s2 h2=>?_))
 obtain⟨ws,L,I2,r2,as,β2,t2,U,q2⟩:=h2;obtain⟨z,y,kf⟩:=run.ofO q2;have tt:=t2.tr t.fr;split at y
 ·rename_i k zz
  cases W:iq b k with
  |none=>rw[W]at y;cases y
  |some i=>
   rw[W]at y;cases y;obtain⟨hz,rfl⟩:=oK W;obtain⟨w1,Y,rfl,Z,hw2⟩:=DenL.two U;obtain⟨c,rfl,kc⟩:=sN hz Z;have dl2:=DenL.tr tt _ _ dl;have hk2:∀x∈xs,KyS X.K L b x.1 x.2.1:=λx T=>((hk x T).tr tt).s;refine KV hu j s2 J L (.ref a) [.ref c,Y] (.ref a) us Q I2 rfl r2 ⟨a,b,ep,xs,i,c,Y,rfl,rfl,tt.kp a _ O.1 O.2,hk2,kc.s,?_⟩;refine kf _ L (To.refl t2.fr) ?_;show Den X.K F L ((lkD (xs.map (·.1)) vs i).getD zz) ((lkV xs i).getD Y);have l:=pX (k:=i) dl2;cases q:lkD (xs.map (·.1)) vs i with
   |none=>
    rw[q]at l;have l':lkV xs i=PM:=l;rw[l'];exact hw2
   |some d=>
    rw[q]at l;obtain⟨u,l',hu'⟩:=l;rw[l'];exact hu'
 ·cases y
end
end L2.Pu
namespace L2.Hs
open PySem PySem.Spec PyProof.Rows
section
variable{prog:QG}{w:QT}{A:Q7}{E:P0->P6->Prop}{s:P6}{d it v:PZ}{od:Qy}{es:Array T3}{ep i:Nat}{ok ov:P0}
theorem x6(a:s.TypeIs (.ref d) "dict")(hd:(d==WL)=PX)(h:Q (.ref s.heap.objs.size) {s with heap:=s.heap.push {cls:= .type "dict_items",data:= .fields #[.ref d]}}):Qj (QA prog w) A (W3 (.builtin "dict.items") [.ref d]) Q E s:=by
 refine QZ F.slot_dict_items a F.entry_dict_items ?_ (F.args_dict_items_1 _);unfold Builtin.«dict.items»;refine My ?_;unfold Builtin.Dict.noArgs;refine My (wpAny_notOrdered_dict a ?_);show Qj _ _ (SB d) _ _ s;refine PN ?_;show Qj _ _ (WF d>>=_) _ _ s;unfold WF;rw[P5 (by rw[hd];exact P8)];exact My (PN (My (Rq (PN ⟨_,rfl,h⟩))))
theorem xL(a:s.heap.IsItemsView v d)(e:s.heap.get? d=on od)(hd:od.data= .dict es ep)
  (h:Q (.ref s.heap.objs.size) {s with heap:=s.heap.push {cls:= .type "dict_itemiterator",data:= .fields #[.none,.bool PX,.ref d,.int 0 0,.int es.size 0,.int ep 0,.none,.none]}}):Qj (QA prog w) A (Wj (.ref v)) Q E s:=by
 obtain⟨o,b,f,c⟩:=id a;refine VF a.typeIs Ys (QZ Ys a.typeIs F.entry_dict_items_iter ?_ (F.args_dict_items_iter_1 _));unfold Builtin.«dict_items.__iter__»;refine My (PN (My ?_));unfold Builtin.Dict_items.dictOf;refine My (RB b c (x:= .ref d) rfl (PN (My ?_)));unfold Builtin.Dict_items.newIterator;refine My (W9 e hd (My (XD e hd ?_)));simp only[show TZ "dict_itemiterator"=PQ from by decide,Q4];refine Rq (PN ⟨_,rfl,"dict_itemiterator",_,⟨_,Qk _ rfl,rfl⟩,RW.lookup,?_⟩)
  (by simp only[sizeOk,U1,Qn,Qm,Qe,WQ,Sk];omega)
 simpa[Uc,U1]using h
theorem xJ(a:Vn s.heap it d i es.size ep ok ov)(h:Q (.ref it) s):Qj (QA prog w) A (Wj (.ref it)) Q E s:=by
 have c:s.TypeIs (.ref it) "dict_itemiterator":=⟨_,a,rfl⟩;refine VF c Xc (QZ Xc c (b:=Builtin.«dict_keyiterator.__iter__») (X4 (id':="dict_keyiterator.__iter__") (by kernel_rfl) rfl (by decide +kernel) (by kernel_rfl)) ?_ (F.args_dict_itemiterator_iter_1 _));show Qj _ _ (ret (.ref it)) _ _ s;exact PN ⟨_,rfl,"dict_itemiterator",_,c,RW.lookup,h⟩
theorem xK{e:T3}(m:Vn s.heap it d i es.size ep ok ov)(ho:s.heap.get? d=on od)(hd:od.data= .dict es ep)(Y:es[i]?=on e)
  (hQ:∀h',IsItemIterOut h' it d (i+1) es.size ep e.key e.val s.heap.objs.size->h'.get? s.heap.objs.size=on {cls:= .type "tuple",data:= .seq #[e.key,e.val]}->h'.objs.size=s.heap.objs.size+1->
   (∀b o,b≠it->s.heap.get? b=on o->h'.get? b=on o)->Q (on (.ref s.heap.objs.size)) {s with heap:=h'}):Qj (QA prog w) A (Uy (.ref it)) Q E s:=by
 obtain⟨n,g,T,U,os⟩:=s;have u:Shared.TypeIs ⟨n,g,T,U,os⟩ (.ref it) "dict_itemiterator":=⟨_,m,rfl⟩;have W:i<es.size:=by
  rcases Uj i es.size with h|h
  ·exact h
  ·simp[S5 h]at Y
 obtain rfl:es[i]=e:=by rw[UZ W]at Y;exact QB Y
 unfold Uy;refine My (UT (wpAny_callSpecial?_slot (name:=Ss "__next__") u RW
  (QZ RW u WZ ?_ (WO _))))
 refine My (PN (My (My ?_)))
 first|refine My (Ta u (PN ?_))|refine My (T8 u (PN ?_))
 refine My (Wl m rfl ?_);simp only[show TZ "dict_itemiterator"=PQ from by decide,Q4];show Qj _ _ (if(Qt d==Q5)=PQ then _ else _) _ _ _;rw[P5 (show ¬((Qt d==Q5)=PQ)from P8)];refine My (PN (My (W9 ho hd ?_)));rw[P5 (by simp)];refine My (PN (My (XD ho hd ?_)));rw[P5 (by simp)];refine PN ?_;simp only[show ¬((i:Int)<0)from by omega,Q6,Ry,UZ W];refine My ?_
 first|refine My (Ta u (PN ?_))|refine My (T8 u (PN ?_))
 refine My (VZ u ?_);show Qj _ _ (Yb (.ref it) 3 (Uc ((i:Int)+1))>>=_) _ _ ⟨n,g,T,U,os⟩;refine My (RE m (by simp) λa c f=>?_)
 replace f:QI it n a:=f
 replace c:Vn a it d (i+1) es.size ep ok ov:=by
  have e:((i+1:Nat):Int)=(i:Int)+1:=by omega
  unfold Vn;rw[e];simpa[Uc]using c
 have l:Shared.TypeIs ⟨a,g,T,U,os⟩ (.ref it) "dict_itemiterator":=⟨_,c,rfl⟩;refine My (RG (My (VZ l (My (VZ l ?_)))));show Qj _ _ (Vh (.ref it) 6 es[i].key es[i].val) _ _ ⟨a,g,T,U,os⟩;unfold Vh;refine My (Yd ?_);have j:Vn (a.push {cls:= .type "tuple",data:= .seq #[es[i].key,es[i].val]}) it d (i+1) es.size ep ok ov:=PU _ c;have k:a.objs.size=n.objs.size:=f.1;have Z:it≠n.objs.size:=Q1 (Qz m);have y:(a.push {cls:= .type "tuple",data:= .seq #[es[i].key,es[i].val]}).get? n.objs.size=on {cls:= .type "tuple",data:= .seq #[es[i].key,es[i].val]}:=by rw[←k];exact Qk _ rfl
 have B:(a.push {cls:= .type "tuple",data:= .seq #[es[i].key,es[i].val]}).objs.size=n.objs.size+1:=by rw[RJ,k]
 have C:∀b o,b≠it->n.get? b=on o->(a.push {cls:= .type "tuple",data:= .seq #[es[i].key,es[i].val]}).get? b=on o:=λb o X e=>PU _ (f.extBut b o X e);generalize a.push {cls:= .type "tuple",data:= .seq #[es[i].key,es[i].val]}=h₂ at*;show Qj _ _ (U2 (.ref it)>>=_) _ _ ⟨h₂,g,T,U,os⟩;rw[k];refine My ?_;unfold U2;refine My (RB j rfl (x:= .none) rfl (PN ?_));simp only[Q4];refine My (RB j rfl (x:=ok) rfl (My (RB j rfl (x:=ov) rfl ?_)));refine My (RE j (by simp) λp F H=>?_);refine My (RE F (by simp) λq I J=>?_);refine My (RE I (by simp) λr L N=>?_);refine My (RE L (by simp) λt O R=>?_);have sb:=((show QI it h₂ p from H).trans (show QI it p q from J)).trans ((show QI it q r from N).trans (show QI it r t from R));exact My (Xx (PN (PN ⟨_,rfl,PN (hQ t O (sb.extBut _ _ Z.symm y) (by rw[sb.1,B]) λb o X e=>sb.extBut b o X (C b o X e))⟩)))
theorem zX(g:A.handled=PM)(c:Vn s.heap it d i es.size ep ok ov)(f:s.heap.get? d=on od)(hd:od.data= .dict es ep)(h:es.size<=i)
  (j:∀h',WG it s.heap h'->Q PM {s with heap:=h'}):Qj (QA prog w) A (Uy (.ref it)) Q E s:=by
 have e:s.TypeIs (.ref it) "dict_itemiterator":=⟨_,c,rfl⟩;unfold Uy;refine My (UT (wpAny_callSpecial?_slot (name:=Ss "__next__") e RW
  (QZ RW e WZ ?_ (WO _))))
 refine My (PN (My (My ?_)))
 first|refine My (Ta e (PN ?_))|refine My (T8 e (PN ?_))
 refine My (Wl c rfl ?_);simp only[show TZ "dict_itemiterator"=PQ from by decide,Q4];show Qj _ _ (if(Qt d==Q5)=PQ then _ else _) _ _ s;rw[P5 (show ¬((Qt d==Q5)=PQ)from P8)];refine My (PN (My (W9 f hd ?_)));rw[P5 (by simp)];refine My (PN (My (XD f hd ?_)));rw[P5 (by simp)];refine PN ?_;simp only[show ¬((i:Int)<0)from by omega,Q6,Ry,S5 h];refine My ?_
 first|refine My (Ta e (PN ?_))|refine My (T8 e (PN ?_))
 show Qj _ _ (Yb (.ref it) 2 .none>>=_) _ _ s;refine My (Uz c rfl (by simp) ?_);show Qj _ _ (Zh (.type "StopIteration") []>>=_) _ _ _;refine My ?_;simp only[Zh,newTuple];refine My (Rq ?_ (by size_fits));refine My (m:=Uw _ _) (TW (a:=Q5) (by first|rfl|(simp only[Uw];rfl)) ?_)
 refine Rq ?_ (by size_fits);simp only[raiseNew];refine My (YL ?_);rw[show A.in1.handled=PM from g];refine My (PN (wpAny_throw ?_));refine My (SH (T:="StopIteration") (b:=PQ) ⟨_,Qk _ rfl,rfl⟩ X6 ?_);exact PN (j _ (((RI ..).extBut.push _).push _))
end
end L2.Hs
namespace L2.Pu
open PySem PySem.Spec PyProof.Rows L2.Hs
noncomputable def Iti(a:PZ)(ep n:Nat):It:=
 ⟨λi H=>∃b xs,H a=on (dS a b ep xs)/\xs.length=n/\i<n,
  λi H v c=>∃p x,H p=PM/\v= .ref p/\c=upd H p (.tup [.ref x.1,x.2])/\∀b xs,H a=on (dS a b ep xs)->(xs[i]?).map (·.2)=on x,
  λi H=>∃b xs,H a=on (dS a b ep xs)/\xs.length=n/\i=n⟩
theorem HE:∀{xs:List (KyD×PZ×V)} {ys:List (KyD×PZ×P0)} {i:Nat} {y:KyD×PZ×P0},WJ XY xs ys->ys[i]?=on y->∃x,xs[i]?=on x/\XY x y
 |_,_,0,_,.cons h t,e=>by cases e;exact⟨_,rfl,h⟩
 |_,_,i+1,_,.cons h t,e=>HE (i:=i) t e
 |_,_,0,_,.nil,e=>by cases e
 |_,_,_+1,_,.nil,e=>by cases e
section
variable{X:Cx}{pins:List (PZ×Qy)}{σ:St}{H:Hp}{s:P6}{a:PZ}{b:Bool}{ep i:Nat}{xs:List (KyD×PZ×V)}
theorem qi(I:Inv X pins σ H s)(h:H a=on (dS a b ep xs)):∃(o:Qy) (es:Array T3),s.heap.get? a=on o/\o.data= .dict es ep/\es.size=xs.length/\o.ExactDict/\(a==WL)=PX/\∀(i:Nat) (e:T3),es[i]?=on e->∃x,xs[i]?=on x/\e.key= .ref x.2.1/\aN x.2.2 e.val:=by
 obtain⟨o,es,ys,j,k,l,d,u,m,v,g⟩:yd a b ep xs s.heap:=(I.hok a _ h).1;have n:ys.length=xs.length:=by rw[←PL (f:=(·.1)),←qw g,PL]
 refine⟨o,es,j,l,by rw[←QN,d,PL,n],k,m,λi e c=>?_⟩;rw[←Te,d,PY]at c;cases q:ys[i]? with
 |none=>rw[q]at c;cases c
 |some y=>
  rw[q]at c;cases c;obtain⟨x,p,_,r,t⟩:=HE g q;exact⟨x,p,by rw[r],t⟩
theorem wW{P:QG}{w:QT}{K:Qo}{x1}(a it:PZ)(n ep:Nat):
  Turn P w K (.Tuple elts x1 pos) (Iti a ep n) [it] it (λi h=>∃ok d,Vn h it a i n ep ok d) where
 mem:=by simp
 obj:=λi h st b c=>by
  obtain⟨ok,d,e⟩:=st;cases QH.mp c;exact⟨_,e,λv q=>by cases q⟩
 keep:=λi h h' st k=>by
  obtain⟨ok,d,e⟩:=st;exact⟨ok,d,k it (by simp) _ e⟩
 item:=by
  intro X m p r J i pins s σ H E I f st t;subst m p r;obtain⟨ok,d,e⟩:=st;obtain⟨b,xs,A,W,L⟩:=t;obtain⟨o,es,g,j,Y,h4,h5,Z⟩:=qi I A;have hn:n=es.size:=by omega
  subst hn;have B:es[i]?=on es[i]:=UZ L;refine xK e g j B λh' io gt sz kp=>⟨_,rfl,wpAny_letOwnedTupleGo_items (s:={s with heap:=h'}) io λC ei N=>?_⟩;obtain⟨x,ex,O,Q⟩:=Z i _ B;have R:s.heap.objs.size≠it:=S9 (Qz e);have I2:Inv X pins σ (upd H s.heap.objs.size (.tup [.ref x.2.1,x.2.2])) {s with heap:=C,toks:=s.toks}:=
   Inv.turnNew I f (λb u c q=>N.extBut b u (λz=>c (by rw[z];simp)) (kp b u (λz=>c (by rw[z];simp)) q)) (P9 _) ⟨by show 2<=Qp;decide,[es[i].key,es[i].val],.cons O (.cons Q .nil),_,N.extBut _ _ R gt,rfl,_,rfl⟩
  refine⟨.ref s.heap.objs.size,_,I2,rfl,⟨s.heap.objs.size,x.2,I.hok.fresh (P9 _),rfl,rfl,λb' xs' F=>?_⟩,⟨_,_,ei⟩,λb c=>?_⟩
  ·obtain⟨o',es',T,U,_,_,_,g6⟩:=qi I F
   rw[g]at T;cases T;rw[j]at U;cases U;obtain⟨y,ey,l,fv⟩:=g6 i _ B;rw[ey];rw[O]at l
   injection l with l
   exact Rh on (T0 l.symm (aN.inj fv Q))
  ·cases QH.mp c
   rw[upd_ne R.symm];exact(f _ c).1
 done:=by
  intro X m p r J i pins s σ H E I f st t;subst m p r;obtain⟨ok,d,e⟩:=st;obtain⟨b,xs,A,W,L⟩:=t;obtain⟨o,es,g,j,Y,_⟩:=qi I A;have hn:n=es.size:=by omega
  subst hn;refine zX (I.ok.hd J) e g j (by omega) λh' kp=>⟨rfl,Inv.turnL (t':=s.toks) I f λb o c q=>kp b o (λz=>c (by rw[z];simp)) q⟩
 self:=λ_ _ _ _ _ st h=>by
  obtain⟨ok,d,e⟩:=st;exact xJ (es:=(Qr n (⟨0,.none,.none⟩:T3)).toArray) (by rw[Qn,RV];exact e) h
variable{E:St->XK}{K:Qo}{o:Expr}{apos cpos tpos:UE}{elts:List Expr}{x1:Nat}
def iItm(to:TE):TI:=λσ H R=>to σ H λx c=>∃a b ep xs,x= .ref a/\c a=on (dS a b ep xs)/\R (Iti a ep xs.length) c
theorem CK(p:PE X o to)(c:Ue o "items" X.env (Rk o X.env)=Rk o X.env:=by rfl)(d:(apos.endLine==cpos.line)=PQ:=by rfl):PI X (.Tuple elts x1 tpos) (.Call (.Attribute o "items" apos) [] [] cpos) (iItm to):=by
 intro pins s σ H R I h;refine wpAny_Call_method0_late c d (thn (p pins s σ H _ I h) λv f g=>?_);obtain⟨x,m,n,r1,a,b,ep,xs,rfl,r,q⟩:=g;cases r1;obtain⟨j,es,g,t,u,k,y,_⟩:=qi n r;refine⟨"dict","dict.items",Xf,PySem.F.slot_dict_items,PySem.F.type_dict_items,⟨j,g,k.1⟩,λb e=>?_,?_⟩
 ·cases e;exact⟨j,g,k.2.1⟩
 refine Vx rfl (PySem.evalArgs_none (x6 ⟨j,g,k.1⟩ y ?_));have l:Inv X pins σ m {f with heap:=f.heap.push {cls:= .type "dict_items",data:= .fields #[.ref a]},toks:=f.toks}:=n.kept λb o e=>PU _ e;refine xL (s:={f with heap:=f.heap.push {cls:= .type "dict_items",data:= .fields #[.ref a]}}) ⟨_,Qk _ rfl,rfl,rfl⟩ (PU _ g) t ?_;rw[u];exact⟨_,[_],_,_,m,rfl,l.kept (t':=f.toks) λb o e=>PU _ e,wW a _ _ ep,⟨_,_,Qk _ rfl⟩,λb A=>by
  cases QH.mp A;exact l.fpOk (P9 _) (l.hok.fresh (P9 _)),q⟩
def itmD:D->Option (List D)
 | .dct b ks vs=>on (UO (λk v=> .tup [dK b k,v]) ks vs)
 |_=>PM
theorem zY{F:Fx}{H:Hp}{b:Bool}{a:PZ}{ep:Nat}{xs:List (KyD×PZ×V)}(B:¬F.A a)(C:H a=on (dS a b ep xs))(g:ks=xs.map (·.1))(I:∀x∈xs,iw K F H b x.1 x.2.1)(dl:DenL K F H vs (xs.map (·.2.2))):ItD K (Iti a ep xs.length) F H (UO (λk v=> .tup [dK b k,v]) ks vs):=λR h β2 t fr i=>by
 have J:vs.length=xs.length:=by rw[dl.length,PL]
 have L:ks.length=xs.length:=by rw[g,PL]
 have c:=t.kp a _ B C;refine⟨λd hd=>?_,λe=>⟨b,xs,c,rfl,by rw[e,V2,L,J,XS]⟩⟩;have e:i<xs.length:=by
  have:=(P4.mp hd).1;rw[V2]at this;omega
 refine⟨⟨b,xs,c,rfl,e⟩,λy T N=>?_⟩;obtain⟨p,x,j,rfl,rfl,O⟩:=N;have l:=O b xs c;rw[PP e]at l;have f:xs[i].2=x:=QB l;subst f;have m:bQ h (upd h p (.tup [.ref xs[i].2.1,xs[i].2.2])):=bQ.upd j;obtain⟨v,n⟩:∃v,vs[i]?=on v:=⟨_,PP (by omega)⟩;have Q:ks[i]?=on xs[i].1:=by rw[g,PY,PP e];rfl
 rw[XQ,Q,n]at hd;cases hd;have d2:=DenL.tr t _ _ dl;obtain⟨u,q,du⟩:=d2.get n;rw[PY,PP e]at q;cases q;have r:=(fr.same m).tr fr;exact⟨m,o6 (.inl ⟨fr.fresh j,.inl ao⟩) (DenL.cons (Den.tr r _ _ (O0 ((I _ (QP e)).tr t))) (DenL.cons (Den.tr r _ _ du) DenL.nil))⟩
def nItm(f:FD):FL:=λδ=>M.bind (f δ) λd=>M.ofO (itmD d)
theorem Ld(m:PE X o (tV X.K f E))(c:Ue o "items" X.env (Rk o X.env)=Rk o X.env:=by rfl)(g:(apos.endLine==cpos.line)=PQ:=by rfl):PI X (.Tuple elts x1 tpos) (.Call (.Attribute o "items" apos) [] [] cpos) (iV X.K (nItm f) E):=
 (CK m c g).imp λσ H R j=>ex6 j λF δ β fr n h=>⟨F,δ,β,fr,n,(run.bind (R:=Den X.K F) h).mono λv p j=>by
  obtain⟨d,β1,t,hd,r1⟩:=j;obtain⟨ds,e,k⟩:=run.ofO r1;cases d<;>first|(cases e;done)|skip
  cases e;unfold Den at hd;obtain⟨a,ep,xs,rfl,l,q,r,dl⟩:=hd;exact⟨a,_,ep,xs,rfl,l.2,k _ p (To.refl t.fr) (zY l.1 l.2 q r dl)⟩⟩
end
end L2.Pu
namespace L2.Hs
open PySem PySem.Spec PyProof.Rows
theorem wl:mroOf (.type "reversed")=SB [.type "reversed",.type "object"]:=by rw[mroOf_type];kernel_rfl
theorem DI:typeLookup (.type "reversed") "__new__"=SB (on (.builtin "reversed.__new__")):=by rw[XB,V9];kernel_rfl
theorem DD:Bind.madeBy (.type "reversed")=SB (on "reversed.__new__"):=madeBy_type wl DI (by decide +kernel)
theorem JY:isSubtype (.type "reversed") (.type "reversed")=SB PQ:=by rw[Vq];kernel_rfl
theorem BW:isSubtype (.type "range_iterator") (.type "reversed")=SB PX:=by rw[Vq];kernel_rfl
theorem Lk:entryFor table "reversed.__new__"=on Builtin.«reversed.__new__»:=entryFor_of_tree (by kernel_rfl)
section
variable{prog:QG}{w:QT}{A:Q7}{E:P0->P6->Prop}{s:P6}
theorem EI(a:IsRange s.heap r 0 n 1 t u v)(j:0<=n)(g:n<2^62)
  (h:Q (.ref s.heap.objs.size) {s with heap:=s.heap.push {cls:= .type "range_iterator",data:= .fields #[Uc (n-1),Uc n,Uc (-1)]}}):Qj (QA prog w) A (W3 (.type "reversed") [.ref r]) Q E s:=by
 refine wpAny_call (codeAny_of_tree ?_);show Qj _ _ (callAny (.type "reversed") _) _ _ _;refine PN ⟨Code.quiet_builtin _ (by decide +kernel),U7 F.entry_type_call ?_⟩;rw[Around.under_plain (weight_type_call_type "reversed" [.ref r] []) (units_type_call_type "reversed" [.ref r] [])];have g:(SR "reversed"==SR "type")=PX:=by decide +kernel
 have k:((YS "reversed").bind (·.mro.findSome? λt=>(YS t).bind λb=>if b.noNew then on PQ else if b.attrs.any (·.1=="__new__")then on PX else PM)).getD PX=PX:=by decide +kernel
 have e:=wl;have c:=DD;have i:checkTypeCall "reversed" ⟨[.ref r],[]⟩=SB ():=by kernel_rfl
 repeat (any_goals (first|assumption|wp_step))
 refine codeAny_call_builtin (by decide +kernel) Lk (TW (show checkBuiltinCall "reversed.__new__" ⟨[.type "reversed",.ref r],[]⟩=SB () by kernel_rfl) ?_);have f:s.TypeIs (.ref r) "range":=⟨_,a,rfl⟩;unfold Builtin.«reversed.__new__»
 repeat (any_goals (first|assumption|wp_step))
 refine TW JY (PN ?_);refine My (m:=Vc _ _ _) ?_;refine TW (show Vc "reversed" (SR "reversed") ⟨[.type "reversed",.ref r],[]⟩=SB ()from rfl) ?_;refine My (m:=checkCount "reversed" 1 1 _) (PN ?_);show Qj _ _ (specialOf (.ref r) (Ss "__reversed__")>>=_) _ _ s;refine My (SU f F.slot_range_reversed.lookup ?_);show Qj _ _ (bindSpecial (.builtin "range.__reversed__") (.ref r)>>=_) _ _ s;refine My (TW (F.slot_range_reversed.bind _) ?_);show Qj _ _ (rule "reversed.__new__.own-method">>=_) _ _ s;refine My (TX (My (wpAny_runValue (codeAny_call_builtin F.slot_range_reversed.plain F.entry_range_reversed (F.slot_range_reversed.check _ _ _ _ _ _ _ _ f (F.args_range_reversed_1 _) ?_)))));unfold Builtin.«range.__reversed__»;refine My (m:=selfOnly "range.__reversed__" _) (PN (My ?_));unfold Builtin.Range.rangeFields;refine My (RB a rfl (x:= .int 0 t) rfl (My (m:=asInt? _) (PN ?_)));refine My (RB a rfl (x:= .int n u) rfl (My (m:=asInt? _) (PN ?_)));refine My (RB a rfl (x:= .int 1 v) rfl (My (m:=asInt? _) (PN (PN ?_))));have hn:Wq 0 n 1=n:=by rw[rangeSize_one];split<;>omega
 simp only[hn];have d:(Rm 0&&Rm n&&Rm 1&&Rm (-1)&&Rm (0-1)&&Rm n)=PQ:=by
  have:Rm n=PQ:=by unfold Rm;simp;omega
  rw[this];decide
 simp only[d,Q4,SC,Ql,Q6];rw[show(0:Int)+(n-1)*1=n-1 by omega];refine My (Rq (PN (PN ?_)));exact My (SH (T:="range_iterator") (b:=PX) ⟨_,Qk _ rfl,rfl⟩ BW (My (TX (PN h))))
end
end L2.Hs
namespace L2.Pu
open PySem PySem.Spec PyProof.Rows L2.Hs
noncomputable def Itd(n:Nat):It:=⟨λi _=>i<n,λi H v a=>v= .int ((n:Int)-1-i)/\a=H,λi _=>n<=i⟩
theorem vx{P:QG}{w:QT}{K:Qo}(it:PZ)(n:Nat):Turn P w K tg (Itd n) [it] it (λi h=>Xp h it ((n:Int)-1+(i:Nat)*-1) ((n:Int)-(i:Nat)) (-1)) where
 mem:=by simp
 obj:=λi h st b c=>by
  cases QH.mp c;exact⟨_,st,λv z=>by
   have C:Data.fields _=Data.cell v:=z;cases C⟩
 keep:=λi h h' st k=>k it (by simp) _ st
 item:=by
  intro X g j l m i a s A H E I f st p;subst g j l;obtain⟨q,f1,f2,r,u,y⟩:=f it (by simp);refine(Walks.range (prog:=X.prog) (w:=X.w) (I.ok.hd m) it ((n:Int)-1) (-1) n).item i s _ _ p st λv h' B F d J=>?_;obtain⟨t,rfl⟩:=F;have L:Inv X a A H {s with heap:=h',toks:=B}:=I.turned (λb o c e=>J b o (by simpa using c) e) q f1 r u y;exact⟨_,rfl,sU (s:={s with heap:=h',toks:=B}) (n:="range_iterator") d rfl rfl (by decide) ⟨.int ((n:Int)-1-i),H,L,⟨t,by rw[show(n:Int)-1+(i:Int)*-1=(n:Int)-1-i by omega]⟩,⟨rfl,rfl⟩,d,λb c=>(f b c).1⟩⟩
 done:=by
  intro X g j l m i a s A H E I f st p;subst g j l;obtain⟨q,f1,f2,r,u,y⟩:=f it (by simp);exact Zk (I.ok.hd m) st (by have:n<=i:=p;omega) λh' N=>⟨rfl,I.turned (t':=s.toks) (λb o c e=>N b o c e) q f1 r u y⟩
 self:=λ_ _ _ _ _ st h=>V0 st h
section
variable{X:Cx}{E:St->XK}{K:Qo}{tg:Expr}
def Pq(a:TA):TI:=λb H R=>a b H λvs c=>∃j:Int,vs=[.int j]/\0<=j/\j<2^62/\R (Itd j.toNat) c
theorem zf(f:Gl X "reversed")(g:X.mg "reversed"=PM)(n:Gl X "range")(hm:X.mg "range"=PM)(ha:PA X [a] ta)(hs:Qg [a] X.env=[(PX,Rk a X.env)]:=by rfl)
  (i:Qg [.Call (.Name "range" p) [a] [] pos] X.env=[(PX,Rk (.Call (.Name "range" p) [a] [] pos) X.env)]:=by rfl):PI X tg (.Call (.Name "reversed" p2) [.Call (.Name "range" p) [a] [] pos] [] pos2) (Pq ta):=by
 intro c s l H R I h;refine Call_ (gm I f g PyProof.Rows.Boot.«reversed» (RA ?_ i rfl));refine Yq (Call_ (gm I n hm boot_range (RA (thn (ha pos c s l H _ I h) λus d r=>?_) hs rfl)));obtain⟨vs,m,v,r1,j,rfl,q1,q2,q⟩:=r;obtain⟨u,rfl,t,rfl⟩:=kW r1;refine call_range_1 (YN (EI (IsRange.new ..) q1 q2 (V0 (x:=j-1) (left:=j) (step:=-1) (Qk _ rfl) ?_)));have k:Inv X c l m {d with heap:=d.heap.push {cls:= .type "range",data:= .fields #[.int 0 d.toks,.int j t,.int 1 (d.toks+1)]},toks:=d.toks+1+1}:=v.kept λb o e=>PU _ e;refine⟨_,[_],_,_,m,rfl,k.kept (t':=d.toks+1+1) λb o e=>PU _ e,vx _ j.toNat,?_,λb y=>?_,q⟩
 ·show Xp _ _ (((j.toNat:Nat):Int)-1+((0:Nat):Int)*-1) (((j.toNat:Nat):Int)-((0:Nat):Int)) (-1)
  rw[show((j.toNat:Nat):Int)-1+((0:Nat):Int)*-1=j-1 by omega,show((j.toNat:Nat):Int)-((0:Nat):Int)=j by omega];exact Qk _ rfl
 ·cases QH.mp y
  exact k.fpOk (P9 _) (k.hok.fresh (P9 _))
noncomputable def iH(n:Nat):List D:=(Qb n).map λ(i:Nat)=> .int ((n:Int)-1-i)
theorem xM:ItD K (Itd n) F H (iH n):=λe f β2 t fr i=>by
 refine⟨λd hd=>?_,λa=>?_⟩
 ·unfold iH at hd
  have a:i<n:=by
   have:=(P4.mp hd).1;simpa using this
  rw[PY,Rt a]at hd;cases hd;exact⟨a,λx g ⟨b,c⟩=>by subst b c;exact⟨bQ.refl _,rfl⟩⟩
 ·show n<=i
  rw[a];simp[iH]
def sF:List D->Option (List D)
 |[.int j]=>if(decide (0<=j)&&decide (j<2^62))=PQ then on (iH j.toNat)else PM
 |_=>PM
theorem DX(b:Gl X "reversed")(c:X.mg "reversed"=PM)(j:Gl X "range")(hm:X.mg "range"=PM)(ha:PA X [a] (tVA X.K g E))(hs:Qg [a] X.env=[(PX,Rk a X.env)]:=by rfl)
  (d:Qg [.Call (.Name "range" p) [a] [] pos] X.env=[(PX,Rk (.Call (.Name "range" p) [a] [] pos) X.env)]:=by rfl):PI X tg (.Call (.Name "reversed" p2) [.Call (.Name "range" p) [a] [] pos] [] pos2) (iV X.K (dC sF g) E):=
 (zf b c j hm ha hs d).imp λq H R f=>ex6 f λF δ β fr m h=>⟨F,δ,β,fr,m,(run.bind (R:=DenL X.K F) h).mono λvs n f=>by
  obtain⟨ds,β1,t,hd,r1⟩:=f;obtain⟨l,e,k⟩:=run.ofO r1;unfold sF at e;split at e
  ·split at e
   ·rename_i i
    cases e;simp only[QJ,QU]at i;obtain⟨v,rfl,o⟩:=DenL.one hd;cases o.int;exact⟨_,rfl,i.1,i.2,k _ n (To.refl t.fr) xM⟩
   ·cases e
  ·cases e⟩
variable{e m:Expr}{te tm:TE}{pos p2:UE}
theorem CJ(a:List P0):Y6 a.toArray PM PM (on (-1))=a.reverse.toArray:=by
 have b:TV PM PM (on (-1)) a.toArray.size=((a.length:Int)-1,-1,-1):=by simp[TV]
 unfold Y6;rw[b];refine Rh _ ?_;have c:sliceRange ((a.length:Int)-1) (-1) (-1)=(Qb a.length).map λk=>a.length-1-k:=by
  unfold sliceRange;have d:(if(-1:Int)>0 then(if(a.length:Int)-1< -1 then(-1-((a.length:Int)-1)+-1-1)/ -1 else 0)else(if(a.length:Int)-1>-1 then((a.length:Int)-1- -1- -1-1)/(- -1)else 0)).toNat=a.length:=by
   rw[P5 (by decide)];split
   ·rw[show(- -1:Int)=1 by decide,Int.ediv_one];omega
   ·omega
  simp only[d];exact QD λk _=>by omega
 show(sliceRange ((a.length:Int)-1) (-1) (-1)).filterMap _=_;rw[c,List.filterMap_map];rcases a with _|⟨x,r⟩
 ·rfl
 generalize j:x::r=a;rw[uW (g:=λk=>a.getD (a.length-1-k) x) λk f=>by
  have:k<a.length:=Qq.mp f;simp only[UX,VL];rw[PV,PP (by omega)];rfl]
 refine Sc (by simp) λi h l=>?_;have n:i<a.length:=by simpa using h
 rw[SY,S6,Yk,PV,PP (by omega)];rfl
def tRev(K:Qo)(te tm:TE):TE:=λc H Q=>te c H λx d=>tm c d λy b=>∃a xs,x= .ref a/\y= .int (-1)/\SqL K b a xs/\∀p,b p=PM->Q (.ref p) (upd b p (.lst xs.reverse))
theorem Mj(l:PE X e te)(hm:PE X m tm):PE X (.Subscript e (.Slice PM PM (on m) p2) pos) (tRev X.K te tm):=by
 intro c s f H Q I h;refine Subscript_ (thn (l c s f H _ I h) λv n o=>?_);obtain⟨x,p,r,r1,q1⟩:=o;refine wpAny_Slice ?_;rw[YH];refine PN (PN ?_);rw[evalPart_some];refine thn (hm c n f p _ r q1) λu d B=>?_;obtain⟨y,C,g,F,a,xs,rfl,rfl,sq,q⟩:=B;cases r1;obtain⟨t,rfl⟩:=F;obtain⟨its,i,pl,j⟩:=g.list sq;have k:Inv X c f C {d with heap:=d.heap.push {cls:= .type "slice",data:= .fields #[.none,.none,.int (-1) t]}}:=g.kept (t':=d.toks) λb J q=>PU _ q;show Qj (QA X.prog X.w) X.A (YJ e (.Slice PM PM (on m) p2) (.ref a) (.ref d.heap.objs.size)) (EP X c f Q) X.xe {d with heap:=d.heap.push {cls:= .type "slice",data:= .fields #[.none,.none,.int (-1) t]}};refine tail_any (ops:=[.ref a,.ref d.heap.objs.size]) (pl.isList.push _).typeIs slot_list_getitem.lookup (YK (pl.isList.push _) (WP ..) .none .none (.int (-1) t) (by simp) ?_ (by rw[Qn,←i.length];exact j)) (by with_unfolding_all rfl)
 rw[CJ];exact⟨.ref _,_,k.lnew (t':=d.toks) (its:=its.reverse) (ys:=xs.reverse) i.reverse (by rw[Yu];exact j),rfl,q _ (k.hok.fresh (P9 _))⟩
noncomputable def L5:D->D->Option D
 | .lst ds,.int (-1)=>on (.lst ds.reverse)
 |_,_=>PM
theorem DenL.reverse:∀{ds:List D} {xs:List V},DenL K F H ds xs->DenL K F H ds.reverse xs.reverse
 |[],xs,h=>by have q:xs=[]:=h;subst q;exact DenL.nil
 |d::ds,xs,h=>by
  obtain⟨x,r,rfl,a,b⟩:=h;rw[Vd,Vd];exact DenL.append (DenL.reverse b) (DenL.cons a DenL.nil)
theorem OH(o:PE X e (tV X.K f E))(hm:PE X m (tV X.K g E)):PE X (.Subscript e (.Slice PM PM (on m) p2) pos) (tV X.K (f2 L5 f g) E):=
 (Mj o hm).imp λr H Q b=>ex6 b λF δ β fr l h=>⟨F,δ,β,fr,l,(run.bind (R:=Den X.K F) h).mono λv u b=>ex5 b λd β1 t hd r1=>⟨F,δ,β1,t.fr,l.tr (t.tr fr),(run.bind (R:=Den X.K F) r1).mono λy A b=>ex5 b λd2 β2 i j q=>by
  obtain⟨z,c,k⟩:=run.ofO q;unfold L5 at c;split at c
  ·cases c
   obtain⟨a,xs,rfl,sq,dl⟩:=Den.sqL (Den.tr (i.tr t.fr) _ _ hd);cases j.int;exact⟨a,xs,rfl,rfl,sq,λp n=>k _ _ (i.fr.upd _ n) (Den.newL i.fr n (DenL.reverse dl))⟩
  ·cases c⟩⟩
end
end L2.Pu
namespace L2.Pu
open PySem
theorem hu2{A:Q7}(a:Room k A):A.units+2<Va:=RM (V7 (by decide:2<=64) _) a.units
open PySem.Spec PyProof.Rows L2.Hs
section
variable{X:Cx}{E:St->XK}{ke ve target iter:Expr}{ifs:List Expr}{rest:List RO}{scope:Scope}{pos:UE}{Nc vars:List QO}{caps:List Nat}{g:TG}{tb:PZ->TB}
theorem Ky{kb:Bool}{b d:UE}(y:X.N.Nodup)(k:X.N[i]?=on x)(B:Loc X.env.scope x)(F:X.calm=PQ)(S:CmpScope X scope Nc vars caps)(L:PI X target iter wi)
  (O:∀(cl:List (QO×PZ)) (C:PZ) (j:List PZ) (s:P6) (H:Hp),PG (aG X Nc scope cl C j s H) target g/\dR (aG X Nc scope cl C j s H) ifs tt/\∀D,PB (aG X Nc scope cl C j s H) (.D ke ve) (⟨target,iter,ifs,0⟩::rest) scope pos 0 D (tb D))
  (l:UL (.DictComp ke ve (⟨target,iter,ifs,0⟩::rest) scope pos) (on (.Name x b)) d.line X.env=SB PQ:=by rfl)
  (hs:∀x,QX iter X.env x=SB x:=by intro _;rfl) (R:X.fn x=PQ\/X.env.scope.names.lookup x=on .local:=by first|exact .inl rfl|exact .inr rfl|assumption):
  PS X (.Assign [.Name x b] (.DictComp ke ve (⟨target,iter,ifs,0⟩::rest) scope pos) d) (jU (lX (λD=>dS D kb 0 []) vars caps wi λD J=>db J g tt (tb D)) (fq i)):=by
 intro f s U H D I h;rw[exec_Assign_Name_used _ _ _ _ l];refine My (SF (My ?_));show Qj _ X.A (do let _ ←comprehension (.DictComp ke ve (⟨target,iter,ifs,0⟩::rest) scope pos) scope X.env _ newDict PX (Rk iter X.env) (on (U6 (.Name x b) X.env))) _ _ s
 refine My (Q2 (S4 (use:=on (U6 (.Name x b) X.env)) (Q:=λ_ s'=>SP X f D .next s') rfl hs (S.clo I.ok) S.kind S.loc
  (Q2 (L f s U H _ I h) (λv s1 W=>Q2 W (λY Z n=>?_) λ_ _ e=>e) λ_ _ e=>e)) (λ_ s' hq=>PN (PN hq)) λ_ _ e=>e)
 obtain⟨it,j,tn,J,H2,e,o,T,p,f2,q⟩:=n;subst e;refine hZ (c:= .D ke ve) uz (RR:=λacc C=>X3 (QA X.prog X.w) X.A X.xe (on (U6 (.Name x b) X.env)) _ acc C) F S O o T p f2 q λA C s' H' m I' ns r q'=>?_;show Qj _ X.A (U6 (.Name x b) X.env (.ref A)) _ _ s';refine W8 (lZ I' y k B (v:= .ref A) rfl (λZ o n=>?_) R);obtain⟨a,sb,ha⟩:=n;have t:C≠a:=by
  rcases ha with rfl|ha
  ·exact r.2.1
  ·exact λz=>r.2.2.2.1 x a ha z.symm
 exact⟨m,ns.sameBut sb t,λh' u=>⟨_,H',o.letgo r u,q'⟩⟩
theorem yO{kb:Bool}{a c:UE}(j:X.N.Nodup)(d:X.N[i]?=on x)(k:Loc X.env.scope x)(l:X.calm=PQ)(S:CmpScope X scope Nc vars caps)(m:PI X target iter (iV X.K it E))
  (n:∀(cl:List (QO×PZ)) (C:PZ) (f:List PZ) (s:P6) (H:Hp),PG (aG X Nc scope cl C f s H) target g/\dR (aG X Nc scope cl C f s H) ifs (tVT X.K tt E0)/\∀D,PB (aG X Nc scope cl C f s H) (.D ke ve) (⟨target,iter,ifs,0⟩::rest) scope pos 0 D (tb D))
  (o:cR X.K g tg) (p:dP tg) (q:∀D,eW X.K (RD X.K kb) D (tb D) b)
  (e:UL (.DictComp ke ve (⟨target,iter,ifs,0⟩::rest) scope pos) (on (.Name x a)) c.line X.env=SB PQ:=by rfl)
  (hs:∀x,QX iter X.env x=SB x:=by intro _;rfl) (r:X.fn x=PQ\/X.env.scope.names.lookup x=on .local:=by first|exact .inl rfl|exact .inr rfl|assumption):
  PS X (.Assign [.Name x a] (.DictComp ke ve (⟨target,iter,ifs,0⟩::rest) scope pos) c) (tG X.K X.H₀ (lH i (hV vars.length caps it tg tt b (lI kb))) E):=
 aE ((Ky (kb:=kb) j d k l S m n e hs r).imp λD t H h=>u8 o p q h)
theorem OI{X:Cx}{E:St->XK}{f g:FD}{pos:UE}(ha:PE X e1 (tV X.K f E))(a:PE X e2 (tV X.K g E))(hs:rb e2:=by exact λ_ _=>rfl):PE X (.Subscript e1 e2 pos) (tV X.K (f2 ixD f g) E):=bA aJ bF ha a hs
end
end L2.Pu
namespace L2.Hs
open PySem PySem.Spec PyProof.Rows
section
variable{X:Cx}
def L7(K:Qo):R2:=λx y H Q=>∃a b ep xs k c,x= .ref c/\y= .ref a/\H a=on (dS a b ep xs)/\(∀x∈xs,KyS K H b x.1 x.2.1)/\KyS K H b k c/\Q (.bl (lkV xs k).isNone) H
theorem wg(i:X.A.units+2<Va):OpR X (Rg .NotIn) (L7 X.K):=by
 intro c s t H x y v u Q I j l h;obtain⟨d,b,ep,xs,k,a,rfl,rfl,m,n,o,q⟩:=h;cases j;cases l;obtain⟨ys,hm,p,_,hd⟩:=mJ I m n;have f:=mZ (k:=k) p;show Qj _ _ (do return Vy (!(←contains (.ref d) (.ref a)))) _ _ s
 refine My ?_;unfold contains
 try with_reducible refine RG ?_
 refine My (SU hm.typeIs slot_dict_contains.lookup ?_);show Qj _ _ (if(on (Value.builtin "dict.__contains__")==on Q5)=PQ then _ else _) _ _ s;rw[P5 (by rw[beq_builtin_none];exact P8)];refine My (wpAny_callSpecialUnlessNone?_slot (name:=Ss "__contains__") hm.typeIs slot_dict_contains
  (QZ slot_dict_contains hm.typeIs entry_dict_contains ?_ (args_dict_contains _ _)))
 show Qj _ _ (dictGet d (.ref a)>>=_) _ _ s;refine My (wpAny_dictGet_heap (nE i) (pZ I o) hm ?_);cases g:Xw ys k with
 |some r=>
  rw[g]at f;cases e:lkV xs k with
  |none=>rw[e]at f;exact f.elim
  |some z=>
   rw[e]at q;show Qj _ _ (ret (.bool PQ)) _ _ _;exact PN ⟨_,rfl,Rj (PN ⟨.bl _,H,I.tok _,rfl,q⟩)⟩
 |none=>
  rw[g]at f;cases e:lkV xs k with
  |some z=>rw[e]at f;exact f.elim
  |none=>
   rw[e]at q;show Qj _ _ (Builtin.Dict.pendingKey? d (.ref a)>>=_) _ _ _;exact My (wpAny_pendingKey_other hd (PN ⟨_,rfl,Rj (PN ⟨.bl _,H,I.tok _,rfl,q⟩)⟩))
end
end L2.Hs
namespace L2.Pu
open PySem PySem.Spec PyProof.Rows L2.Hs
section
variable{K:Qo}
def CW:D->D->Option D
 |y,.dct b ks vs=>(iq b y).map λk=> .bl (lkD ks vs k).isNone
 |_,_=>PM
theorem O9:bh K (L7 K) CW:=λF H β Q d1 d2 d o p fr h g e k=>by
 unfold CW at e;split at e
 ·rename_i b ks vs
  cases q:iq b d1 with
  |none=>rw[q]at e;cases e
  |some f=>
   rw[q]at e;cases e;obtain⟨i,rfl⟩:=oK q;obtain⟨c,rfl,j⟩:=sN i h;unfold Den at g;obtain⟨a,ep,xs,rfl,l,rfl,m,dl⟩:=g;refine⟨a,b,ep,xs,f,c,rfl,rfl,l.2,λx n=>(m x n).s,j.s,?_⟩;have:=pX (k:=f) dl
   dsimp only at k
   cases q2:lkD (xs.map (·.1)) vs f with
   |none=>
    rw[q2]at this k;have t:lkV xs f=PM:=this;rw[t];exact k _ H (To.refl fr) rfl
   |some z=>
    rw[q2]at this k;obtain⟨u,t,_⟩:=this;rw[t];exact k _ H (To.refl fr) rfl
 ·cases e
end
end L2.Pu
namespace L2.Pu
open PySem PySem.Spec PyProof.Rows
section
variable{X:Cx}{E:St->XK}{K:Qo}{st:Q9}{H₀:Hp}{B:Ow}{bg:Option (PZ×PZ)}{H H':Hp}{δ:Ds}{β β':Bg}{σ:St}
end
end L2.Pu
namespace L2.Pu
open PySem PySem.Spec PyProof.Rows PySem.SeqAt
open PySem.AutoSeq1 (wpAny_loadPart')
open PySem.MeetsSeq PySem.MeetsSeq2 PySem.MeetsSeq3
def yb(A:Q7)(s:P6)(y x:P0):Prop:=
 ∀(prog:QG) (w:QT) (E:P0->P6->Prop) (Q:P0->P6->Prop),Q (.bool PQ) s->Qj (QA prog w) A (richCompare .Lt y x) Q E s
theorem KZ(l b:PZ)(c a:Array P0)(n I:Nat)(J t:Option PZ)(L u:Array (Option P0))(m:Nat)(F:m<c.size)(H:m<a.size)(k:Nat):
  ∀i:Nat,m-i=k->i<=m->Meets (Builtin.«list.__eq__.loop» ⟨[.ref l,.ref b,Uc i,Uc 0],[]⟩)
   (λA R s=>s.heap.get? l=on {cls:= .type "list",dict:=J,data:= .seq c n,slots:=L}/\s.heap.get? b=on {cls:= .type "list",dict:=t,data:= .seq a I,slots:=u}/\
    (∀j (F:j<c.size) (H:j<a.size),j<m->EqAt A.in1 s c[j] a[j] PQ)/\EqAt A.in1 s c[m] a[m] PX/\yb A.in1 s c[m] a[m]/\
    R (.ok (.ret (.bool PQ))) s):=by
 induction k with
 |zero=>
  intro i N O prog w A R s h;obtain⟨Q,g,d,T,os⟩:=s;obtain⟨p,q,v,y,B,h⟩:=h;obtain rfl:i=m:=by omega
  wp_walk using SS p,SS q
  have e:c[((i:Nat):Int).toNat]?=on c[i]:=by simp[F]
  have f:a[((i:Nat):Int).toNat]?=on a[i]:=by simp[H]
  rw[e,f];refine My (y prog w _ _ ?_)
  wp_walk using SS p,SS q
  rw[e,f];refine My (B prog w _ _ ?_)
  wp_walk
  exact h
 |succ k ih=>
  intro i N O prog w A R s h;obtain⟨Q,g,d,T,os⟩:=s;obtain⟨p,q,v,y,B,h⟩:=h
  wp_walk using SS p,SS q
  have r:i<c.size:=by omega
  have o:i<a.size:=by omega
  have e:c[((i:Nat):Int).toNat]?=on c[i]:=by simp[r]
  have f:a[((i:Nat):Int).toNat]?=on a[i]:=by simp[o]
  have C:((i:Int)+1)=((i+1:Nat):Int):=by push_cast;rfl
  rw[e,f];refine My (v i r o (by omega) prog w _ _ ?_)
  wp_walk
  rw[C];exact⟨WD plain_eq_loop _,U7 entry_eq_loop (by
   rw[Ur plain_eq_loop _];exact ih (i+1) (by omega) (by omega) prog w A R _ ⟨p,q,v,y,B,h⟩)⟩
theorem K3(l b:PZ)(c a:Array P0)(n i:Nat)(k e:Option PZ)(o f:Array (Option P0))(m:Nat)(p:m<c.size)(q:m<a.size):
  Meets (Builtin.«list.__lt__» ⟨[.ref l,.ref b],[]⟩)
   (λA R s=>s.heap.get? l=on {cls:= .type "list",dict:=k,data:= .seq c n,slots:=o}/\s.heap.get? b=on {cls:= .type "list",dict:=e,data:= .seq a i,slots:=f}/\
    (∀j (p:j<c.size) (q:j<a.size),j<m->EqAt A.in1 s c[j] a[j] PQ)/\EqAt A.in1 s c[m] a[m] PX/\yb A.in1 s c[m] a[m]/\
    R (.ok (.ret (.bool PQ))) s):=by
 intro prog w A R s h;obtain⟨B,g,d,C,os⟩:=s;obtain⟨r,t,u,v,y,h⟩:=h;have F:=AutoSeq1.sub_list_list
 wp_walk using SS r,SS t
 exact⟨WD plain_eq_loop _,U7 entry_eq_loop (by
  rw[Ur plain_eq_loop _];exact KZ l b c a n i k e o f m p q _ 0 rfl (Q8 _) prog w A R _ ⟨r,t,u,v,y,h⟩)⟩
theorem IC:∀{vs:List P0} {xs:List T9} {as:List PZ},ReadsAll h vs xs as->∀{j:Nat} {x:T9},xs[j]?=on x->∃v bs,vs[j]?=on v/\Reads h v x bs
 |_,_,_,.nil,j,x,e=>by cases e
 |_,_,_,.cons r t,0,x,e=>by cases e;exact⟨_,_,rfl,r⟩
 |_,_,_,.cons r t,j+1,x,e=>IC t (j:=j) e
theorem mP:∀{xs:List T9},Rw xs=PQ->∀x∈xs,x.canLay0=PQ/\x.depth<=SG xs
 |[],_,x,hx=>by cases hx
 |y::xs,h,x,hx=>by
  have h':y.canLay0=PQ/\Rw xs=PQ:=by simpa[Rw]using h
  unfold SG;rcases Qh.mp hx with rfl|hx
  ·exact⟨h'.1,Nat.le_max_left _ _⟩
  ·obtain⟨a,b⟩:=mP h'.2 x hx
   exact⟨a,Qs b (Nat.le_max_right _ _)⟩
theorem uD{A:Q7}{s:P6}{P S T:List T9}{p q:T9}(I:Reads s.heap u (.list (P++p::S)) as)(J:Reads s.heap v (.list (P++q::T)) bs)
  (i:Rw (P++p::S)=PQ) (L:q.canLay0=PQ) (hn:RP p q=PX) (hu:A.units+1+SG (P++p::S)<Va) (N:∀k m as bs,Reads s.heap k p as->Reads s.heap m q bs->yb A.in1 s k m):yb A s u v:=by
 cases I with
 |@list l o items n _ _ h1 h2 h3 h4=>
 cases J with
 |@list b o2 items2 n2 _ _ k1 k2 k3 k4=>
 obtain⟨cls,O,data,R⟩:=o;obtain⟨t,c,d,f⟩:=o2;simp only at h2 h3 k2 k3;subst h2 h3 k2 k3;have rd:∀{j:Nat} {x:T9} {vs:Array P0} {xs:List T9} {as:List PZ},ReadsAll s.heap vs.toList xs as->xs[j]?=on x->∃B:j<vs.size,∃bs,Reads s.heap vs[j] x bs:=λ{j x vs xs as} r e=>by
  obtain⟨y,bs,C,r1⟩:=IC r e;have B:j<vs.size:=by simpa using(P4.mp C).1
  obtain⟨_,U⟩:=P4.mp C;exact⟨B,bs,by rw[←Tl,U];exact r1⟩
 obtain⟨m1,W,r1⟩:=rd (j:=P.length) (x:=p) h4 (by simp);obtain⟨m2,X,H⟩:=rd (j:=P.length) (x:=q) k4 (by simp);have Y:=mP i p (by simp);refine λprog w E Q h=>richCompare_meets_room (op:= .Lt) ⟨_,h1,rfl⟩ ⟨_,k1,rfl⟩ F.slot_list_lt F.entry_list_lt (F.args_list_lt_2 _ _) (K3 l b items items2 n n2 O c R f P.length m1 m2)
  ⟨h1,k1,λj j1 j2 a=>?_,?_,N _ _ _ _ r1 H,show Vy PQ≠Value.notImplemented/\Q (.bool PQ) s from⟨(λx=>nomatch x),h⟩⟩ (by omega)
 ·have e:P[j]?=on P[j]:=PP a
  obtain⟨_,Z,r3⟩:=rd (j:=j) (x:=P[j]) h4 (by rw[Rz a,e]);obtain⟨_,as4,r4⟩:=rd (j:=j) (x:=P[j]) k4 (by rw[Rz a,e]);have g:=mP i P[j] (Su _ (QP a));have:=eqAt_reads _ _ A.in1 s _ _ _ _ r3 r4 g.1 g.1 (by rw[XS,Wn];omega);rw[oR _ g.1]at this;exact this
 ·have:=eqAt_reads _ _ A.in1 s _ _ _ _ r1 H Y.1 L (RM (V7 (Nat.min_le_left _ _) _) (by rw[Wn];omega))
  rw[hn]at this;exact this
theorem AG(h:RP x y=PX):∀I:List T9,SN (I++x::s) (I++y::t)=PX
 |[]=>by
  show(RP x y&&_)=PX;rw[h];rfl
 |i::I=>by
  show(RP i i&&SN (I++x::s) (I++y::t))=PX;rw[AG h I,Bool.and_false]
def LtG(a b:D):Prop:=∃P I S T s t:List T9,∃x y:Int,toP a=on (.list (P++ .list (I++ .int x::s)::S))/\toP b=on (.list (P++ .list (I++ .int y::t)::T))/\ft a=PQ/\ft b=PQ/\x<y
open Classical in
def xB(a b:D):Option D:=if LtG a b then on (.bl PQ)else PM
def L8(X:Cx):R2:=λx y H Q=>∃(F:Fx) (a b:D),Den X.K F H a x/\Den X.K F H b y/\LtG a b/\Q (.bl PQ) H
theorem Mv{X:Cx}(p:Room k X.A):OpR X (Rg .Lt) (L8 X):=by
 intro m s σ H x y v u Q I r t h;obtain⟨F,a,b,d1,d2,⟨P,c,S,T,xs,ys,i,j,n,o,c1,c2,f⟩,q⟩:=h;obtain⟨as,r1⟩:=gB I a x v _ d1 n r;obtain⟨bs,B⟩:=gB I b y u _ d2 o t;unfold ft at c1 c2;rw[n]at c1;rw[o]at c2;have C:=canLay_of_shaped c1;have J:=canLay_of_shaped c2;have L:=depth_of_shaped c1;have hu:=p.units;have d:Rw (P++ .list (c++ .int i::xs)::S)=PQ:=C;have g:Rw (P++ .list (c++ .int j::ys)::T)=PQ:=J;have N:SG (P++ .list (c++ .int i::xs)::S)+1<=64:=L;obtain⟨m1,m2⟩:=mP d (.list (c++ .int i::xs)) (by simp);obtain⟨O,_⟩:=mP g (.list (c++ .int j::ys)) (by simp);have l:Rw (c++ .int i::xs)=PQ:=m1;have R:SG (c++ .int i::xs)+1<=_:=m2;have e:RP (.int i) (.int j)=PX:=by
  show(i==j)=PX;rw[VO];omega
 refine uD r1 B d O (AG e c) (by omega) (λu' v' _ _ U W=>?_) _ _ _ _ ⟨.bl PQ,H,I,rfl,q⟩;refine uD U W l rfl e (by rw[Wn];omega) λu2 v2 _ _ Y Z=>?_;cases Y;cases Z;intro prog w E Q' hq;exact PyProof.Rows.lt_int (by rw[Qd f];exact hq)
theorem Pc{X:Cx}:bh X.K (L8 X) xB:=λF H β Q d1 d2 d c f fr a b e k=>by
 unfold xB at e;split at e
 ·cases e
  exact⟨F,d1,d2,a,b,by assumption,k _ H (To.refl fr) rfl⟩
 ·cases e
end L2.Pu
namespace L2.Pu
open PySem L2.Hs
def lD(k:List Int):LI->LI
 |[]=>[k]
 |x::l=>if c9 k x=PQ then k::x::l else if k=x then x::l else x::lD k l
theorem insU_mem:∀{l:LI},y∈lD k l↔y=k\/y∈l
 |[]=>by simp[lD]
 |x::l=>by
  unfold lD;split
  ·simp
  ·split
   ·rename_i h
    subst h;simp
   ·rw[Qh,insU_mem,Qh]
    exact or_left_comm
theorem wv:∀{l:LI},Up l->Up (lD k l)
 |[],_=>by unfold lD;exact Sy _ _
 |x::l,h=>by
  obtain⟨a,b⟩:=T7.mp h;unfold lD;split
  ·rename_i q
   refine T7.mpr ⟨λy hy=>?_,h⟩;rcases Qh.mp hy with rfl|hy
   ·exact q
   ·exact pY q (a y hy)
  ·split
   ·exact h
   ·rename_i q1 q2
    refine T7.mpr ⟨λy hy=>?_,wv b⟩;rcases insU_mem.mp hy with rfl|hy
    ·cases q:c9 x y with
     |true=>rfl
     |false=>exact Qx (nB (by simpa using q1) q) q2
    ·exact a y hy
def l3(ks:LI):LI:=ks.foldr lD []
theorem m9:∀ks,Up (l3 ks)
 |[]=> .nil
 |k::ks=>wv (m9 ks)
theorem eQ:∀{ks:LI},y∈l3 ks↔y∈ks
 |[]=>by simp[l3]
 |k::ks=>by
  show y∈lD k (l3 ks)↔_;rw[insU_mem,eQ,Qh]
theorem HR{l:LI}(h:Up l):l.Nodup:=h.imp λ{a b} q e=>by
 subst e;rw[iY]at q;cases q
theorem LS{ks:LI}(b:∀k∈ks,1<=k.length){m:LI}(hm:m.length<63)(c:∀k∈ks,k∈m):kZ (ks.map tpI)=on (.lst ((l3 ks).map tpI)):=by
 refine BZ ⟨m9 ks,RM (mr (HR (m9 ks)) λx e=>c x (eQ.mp e)) hm,λk a=>⟨b k (eQ.mp a),Qc.mpr ⟨k,eQ.mp a,rfl⟩⟩,λd hd=>?_⟩;obtain⟨k,a,rfl⟩:=Qc.mp hd;exact⟨k,eQ.mpr a,rfl⟩
end L2.Pu
namespace L2.Nt
noncomputable def sm{α:Type}(l:List α)(f:α->Nat):Nat:=(l.map f).sum
section
variable{α β:Type}
theorem l4{f:α->Nat}:sm [] f=0:=rfl
theorem aT{a:α}{l:List α}{f:α->Nat}:sm (a::l) f=f a+sm l f:=by unfold sm;rw[Qf,Qw]
theorem j8{l m:List α}{f:α->Nat}:sm (l++m) f=sm l f+sm m f:=by unfold sm;rw[QK,WT]
theorem dG:∀{l:List α},(∀a∈l,f a=g a)->sm l f=sm l g
 |[],_=>rfl
 |a::l,h=>by rw[aT,aT,h a P3,dG λb c=>h b (PR a c)]
theorem l5{g:β->α}{f:α->Nat}{l:List β}:sm (l.map g) f=sm l λb=>f (g b):=by unfold sm;rw[Qa];rfl
theorem qC{g:β->List α}{f:α->Nat}:∀{l:List β},sm (l.flatMap g) f=sm l λb=>sm (g b) f
 |[]=>rfl
 |b::l=>by rw[Rb,j8,aT,qC]
theorem vS:∀{l:List α},(sm l λ_=>0)=0
 |[]=>rfl
 |a::l=>by rw[aT,vS]
theorem yI:∀{l:List α},(sm l λa=>f a+g a)=sm l f+sm l g
 |[]=>rfl
 |a::l=>by rw[aT,aT,aT,yI];omega
theorem i7:∀{l:List α},(sm l λa=>c*f a)=c*sm l f
 |[]=>rfl
 |a::l=>by rw[aT,aT,i7,Yx]
theorem IA:∀{n:Nat},m<=n->sm (Qb (m+1)) f=sm (Qb (n+1)) λa=>if a<=m then f a else 0
 |0,h=>by
  obtain rfl:m=0:=by omega
  exact dG λa ha=>by
   have:=Qq.mp ha;rw[P7 (by omega)]
 |n+1,h=>by
  rcases Uj m (n+1)with q|q
  ·rw[SK (n:=n+1),j8,←IA (by omega:m<=n),aT,l4,P5 (by omega)]
   omega
  ·obtain rfl:m=n+1:=by omega
   exact dG λa ha=>by
    have:=Qq.mp ha;rw[P7 (by omega)]
noncomputable def bH:List Nat->Nat->List (List Nat)
 |[],0=>[[]]
 |[],_+1=>[]
 |x::r,c=>(Qb (US x c+1)).flatMap λa=>(bH r (c-a)).map (a::·)
noncomputable def less(r v:List Nat):List Nat:=UO (·-·) r v
theorem yn:sm (bH (x::r) c) f=sm (Qb (US x c+1)) λa=>sm (bH r (c-a)) λv=>f (a::v):=by
 show sm ((Qb (US x c+1)).flatMap λa=>(bH r (c-a)).map (a::·)) f=_;rw[qC];exact dG λa _=>l5
end
end L2.Nt
namespace L2.Nt
open L2.Pu
noncomputable def ch:Nat->Nat->Nat
 |_,0=>1
 |0,_+1=>0
 |n+1,k+1=>ch n k+ch n (k+1)
theorem ql:∀{n k:Nat},n<k->ch n k=0
 |0,k+1,_=>by simp[ch]
 |n+1,k+1,h=>by
  show ch n k+ch n (k+1)=0;rw[ql (by omega),ql (by omega)]
theorem qZ(n:Nat):ch n 0=1:=by cases n<;>rfl
theorem wK:∀n,ch n n=1
 |0=>rfl
 |n+1=>by
  show ch n n+ch n (n+1)=1;rw[wK n,ql (by omega)]
theorem xX(n:Nat):facN (n+1)=(n+1)*facN n:=R6 (facN n) (n+1)
theorem mQ:∀n a b:Nat,a+b=n->ch (a+b) a*(facN a*facN b)=facN (a+b)
 |n,0,b,_=>by rw[qZ];simp[facN]
 |n,a+1,0,_=>by rw[Wz,wK];simp[facN]
 |0,a+1,b+1,h=>by omega
 |n+1,a+1,b+1,h=>by
  have c:=mQ n a (b+1) (by omega);have d:=mQ n (a+1) b (by omega);have e:a+1+(b+1)=(a+b+1)+1:=by omega
  have f:a+(b+1)=a+b+1:=by omega
  have g:a+1+b=a+b+1:=by omega
  rw[f]at c;rw[g]at d;rw[e];show(ch (a+b+1) a+ch (a+b+1) (a+1))*(facN (a+1)*facN (b+1))=facN (a+b+1+1);rw[xX (a+b+1),WV];have i:ch (a+b+1) a*(facN (a+1)*facN (b+1))=(a+1)*facN (a+b+1):=by
   rw[←c,xX a];simp only[T4,Uk,R6]
  have j:ch (a+b+1) (a+1)*(facN (a+1)*facN (b+1))=(b+1)*facN (a+b+1):=by
   rw[←d,xX b];simp only[T4,Uk,R6]
  rw[i,j,←WV,show a+1+(b+1)=a+b+1+1 by omega]
theorem nc:sm (Qb (n+1)) f=f 0+sm (Qb n) λa=>f (a+1):=by
 rw[XJ,aT,l5]
theorem BM:∀(x y c:Nat),(sm (Qb (c+1)) λa=>ch x a*ch y (c-a))=ch (x+y) c
 |0,y,c=>by
  rw[nc,qZ,Yz,Nat.sub_zero,QS];have:(sm (Qb c) λa=>ch 0 (a+1)*ch y (c-(a+1)))=0:=(dG λa _=>by rw[ql (by omega),XV]).trans vS;rw[this];rfl
 |x+1,y,0=>by rw[nc];simp[qZ,l4]
 |x+1,y,c+1=>by
  have b:=BM x y (c+1);have d:=BM x y c;rw[nc]at b;rw[nc];have e:(sm (Qb (c+1)) λa=>ch (x+1) (a+1)*ch y (c+1-(a+1)))=(sm (Qb (c+1)) λa=>ch x a*ch y (c-a))+sm (Qb (c+1)) λa=>ch x (a+1)*ch y (c+1-(a+1)):=by
   rw[←yI];refine dG λa _=>?_;show(ch x a+ch x (a+1))*_=_;rw[WV,Nat.add_sub_add_right]
  rw[e,d];have f:x+1+y=x+y+1:=by omega
  rw[f];show _=ch (x+y) c+ch (x+y) (c+1);rw[←b,qZ,qZ];omega
theorem vdm(x y c:Nat):(sm (Qb (US x c+1)) λa=>ch x a*ch y (c-a))=ch (x+y) c:=by
 rw[IA (Nat.min_le_right x c),←BM];refine dG λa ha=>?_;have:=Qq.mp ha;by_cases q:a<=x
 ·rw[P7 (by omega)]
 ·rw[P5 (by omega),ql (by omega),XV]
def pc:List Nat->List Nat->Nat
 |x::r,a::v=>ch x a*pc r v
 |_,_=>1
theorem zj:∀(r:List Nat) (c:Nat),sm (bH r c) (pc r)=ch r.sum c
 |[],0=>rfl
 |[],c+1=>rfl
 |x::r,c=>by
  rw[yn,Qw,←vdm];exact dG λa _=>by rw[←zj r (c-a),←i7];rfl
theorem fZ:∀{r:List Nat} {c:Nat} {v:List Nat},v∈bH r c->v.sum=c/\(less r v).sum+c=r.sum/\v.length=r.length/\pr (r.map facN)=pc r v*(pr (v.map facN)*pr ((less r v).map facN))
 |[],0,v,h=>by cases QH.mp h;exact⟨rfl,rfl,rfl,rfl⟩
 |[],c+1,v,h=>by cases h
 |x::r,c,v,h=>by
  have h':v∈(Qb (US x c+1)).flatMap λa=>(bH r (c-a)).map (a::·):=h;obtain⟨a,ha,d⟩:=Se.mp h';obtain⟨u,e,rfl⟩:=Qc.mp d;have f:=Qq.mp ha;obtain⟨g,i,j,k⟩:=fZ e;refine⟨by rw[Qw,g];omega,?_,by rw[Qe,j,Qe],?_⟩
  ·show((x-a)::less r u).sum+c=_
   rw[Qw,Qw,←i];omega
  ·show facN x*pr (r.map facN)=(ch x a*pc r u)*((facN a*pr (u.map facN))*(facN (x-a)*pr ((less r u).map facN)))
   have b:=mQ x a (x-a) (by omega);rw[show a+(x-a)=x by omega]at b;rw[k,←b];simp only[T4,Uk,R6]
def mu:List Nat->Nat
 |[]=>1
 |x::r=>ch (x+r.sum) x*mu r
theorem kH:∀r:List Nat,mu r*pr (r.map facN)=facN r.sum
 |[]=>rfl
 |x::r=>by
  show(ch (x+r.sum) x*mu r)*(facN x*pr (r.map facN))=facN (x::r).sum;rw[Qw,←mQ _ x r.sum rfl,←kH r];simp only[T4,Uk,R6]
theorem v9(r:List Nat):0<pr (r.map facN):=pK λx a=>by
 obtain⟨n,_,rfl⟩:=Qc.mp a;exact kM n
theorem MI(r:List Nat):facN r.sum/pr (r.map facN)=mu r:=by rw[←kH,Nat.mul_div_cancel _ (v9 r)]
def dls:List Nat->List Nat->Nat
 |_,[]=>1
 |r,c::cs=>sm (bH r c) λv=>mu v*dls (less r v) cs
theorem HD:∀{r:List Nat},r.sum=0->mu r=1
 |[],_=>rfl
 |x::r,h=>by
  rw[Qw]at h;obtain rfl:x=0:=by omega
  show ch _ 0*mu r=1;rw[qZ,HD (by omega)]
theorem u6:∀(cs r:List Nat),r.sum=cs.sum->dls r cs=mu r
 |[],r,h=>(HD h).symm
 |c::cs,r,h=>by
  rw[Qw]at h;refine Nat.eq_of_mul_eq_mul_right (v9 r) ?_;rw[kH];show sm (bH r c) (λv=>mu v*dls (less r v) cs)*_=_;rw[R6,←i7];have e:(sm (bH r c) λv=>pr (r.map facN)*(mu v*dls (less r v) cs))=sm (bH r c) λv=>(facN c*facN (r.sum-c))*pc r v:=by
   refine dG λv a=>?_;obtain⟨b,f,g,d⟩:=fZ a;rw[u6 cs (less r v) (by omega),d];have m1:=kH v;have m2:=kH (less r v);rw[b]at m1;rw[show(less r v).sum=r.sum-c by omega]at m2;rw[←m1,←m2];simp only[T4,Uk,R6]
  rw[e,i7,zj,R6];have:=mQ r.sum c (r.sum-c) (by omega);rw[show c+(r.sum-c)=r.sum by omega]at this;exact this
def LeN:List Nat->List Nat->Prop
 |[],[]=>True
 |a::v,x::r=>a<=x/\LeN v r
 |_,_=>False
theorem LeN.refl:∀r,LeN r r
 |[]=>trivial
 |_::r=>⟨P9 _,LeN.refl r⟩
theorem LeN.tr:∀{u v r:List Nat},LeN u v->LeN v r->LeN u r
 |[],[],[],_,_=>trivial
 |_::_,_::_,_::_,h,q=>⟨Qs h.1 q.1,h.2.tr q.2⟩
 |[],_::_,_,h,_=>h.elim
 |_::_,[],_,h,_=>h.elim
 |[],[],_::_,_,q=>q.elim
 |_::_,_::_,[],_,q=>q.elim
theorem LeN.len:∀{v r:List Nat},LeN v r->v.length=r.length
 |[],[],_=>rfl
 |_::_,_::_,h=>Rh (·+1) h.2.len
 |[],_::_,h=>h.elim
 |_::_,[],h=>h.elim
theorem LeN.less:∀{v r:List Nat},LeN v r->LeN (less r v) r
 |[],[],_=>trivial
 |a::v,x::r,h=>⟨Nat.sub_le x a,h.2.less⟩
 |[],_::_,h=>h.elim
 |_::_,[],h=>h.elim
theorem LeN.pr:∀{v r:List Nat},LeN v r->L2.Pu.pr (v.map (·+1))<=L2.Pu.pr (r.map (·+1))
 |[],[],_=>P9 _
 |_::_,_::_,h=>Nat.mul_le_mul (Nat.succ_le_succ h.1) h.2.pr
 |[],_::_,h=>h.elim
 |_::_,[],h=>h.elim
theorem LeN.sum:∀{v r:List Nat},LeN v r->v.sum<=r.sum
 |[],[],_=>P9 _
 |_::_,_::_,h=>by rw[Qw,Qw];exact VV h.1 h.2.sum
 |[],_::_,h=>h.elim
 |_::_,[],h=>h.elim
theorem cw:∀{r:List Nat} {c:Nat} {v:List Nat},v∈bH r c->LeN v r
 |[],0,v,h=>by cases QH.mp h;exact trivial
 |[],c+1,v,h=>by cases h
 |x::r,c,v,h=>by
  have h':v∈(Qb (US x c+1)).flatMap λa=>(bH r (c-a)).map (a::·):=h;obtain⟨a,ha,b⟩:=Se.mp h';obtain⟨u,d,rfl⟩:=Qc.mp b;have e:=Qq.mp ha;exact⟨by omega,cw d⟩
theorem lw:∀{r v:List Nat},LeN v r->v∈bH r v.sum
 |[],[],_=>QH.mpr rfl
 |x::r,a::v,h=>by
  refine Se.mpr ⟨a,Qq.mpr (by rw[Qw];have:=h.1;omega),Qc.mpr ⟨v,?_,rfl⟩⟩;rw[Qw,Ud];exact lw h.2
 |[],_::_,h=>h.elim
 |_::_,[],h=>h.elim
theorem nN{α a:Type}{f:α->List a}{n:Nat}:∀{l:List α},(∀x∈l,(f x).length<=n)->(l.flatMap f).length<=l.length*n
 |[],_=>by simp
 |x::l,h=>by
  rw[Rb,Qm,Qe,XU,Wx];exact VV (nN λy b=>h y (PR _ b)) (h x P3)
theorem i6:∀(r:List Nat) (c:Nat),(bH r c).length<=pr (r.dropLast.map (·+1))
 |[],0=>P9 _
 |[],_+1=>Q8 _
 |[x],c=>by
  have h:bH [x] c=(Qb (US x c+1)).flatMap λa=>(bH [] (c-a)).map (a::·):=rfl;rw[h,SK,TN,Qm];have e:((Qb (US x c)).flatMap λa=>(bH [] (c-a)).map (a::·))=[]:=by
   refine SX.mpr λa ha=>?_;have:=Qq.mp ha;obtain⟨n,hn⟩:∃n,c-a=n+1:=⟨c-a-1,by omega⟩;rw[hn];rfl
  rw[e];cases q:c-US x c<;>simp[bH,q,pr]
 |x::y::r,c=>by
  have h:=nN (l:=Qb (US x c+1)) (f:=λa=>(bH (y::r) (c-a)).map (a::·)) (n:=pr ((y::r).dropLast.map (·+1))) λa _=>by rw[PL];exact i6 (y::r) (c-a)
  rw[QC]at h;refine Qs h ?_;show _<=(x+1)*pr ((y::r).dropLast.map (·+1));exact Yy _ (by omega)
theorem BL{r:List Nat}(h:r.sum<m):bH r m=[]:=List.eq_nil_iff_forall_not_mem.mpr λv a=>by
 have:=fZ a;omega
theorem xU{α β a:Type}{f:α->List β}{g:β->List a}(l:List α):(l.flatMap f).flatMap g=l.flatMap λx=>(f x).flatMap g:=List.flatMap_assoc
theorem xo(r:List Nat)(k:Nat):pr ((r.take k).map (·+1))<=pr (r.map (·+1)):=by
 conv=>rhs;rw[←Ti k r,QK,uj]
 exact XM _ (pK λx a=>by
  obtain⟨n,_,rfl⟩:=Qc.mp a;omega)
theorem sK(l:List Nat):(nI l).map Int.toNat=l:=by
 rw[Qa];exact(QD λx _=>rfl).trans (WH l)
theorem gZ(h:nI l=nI m):l=m:=by rw[←sK l,h,sK]
theorem zD{α a:Type}{f:α->a}{l:List α}(h:(l.map f).Nodup):l.Nodup:=(Uh.mp h).imp λq e=>q (Rh f e)
theorem uu{α c:Type}{f:α->c}(inj:∀a b,f a=f b->a=b){l:List α}(h:l.Nodup):(l.map f).Nodup:=Uh.mpr (h.imp λq e=>q (inj _ _ e))
theorem gc{cs:List Nat}(h:k<cs.length):cs.drop k=cs.getD k 0::cs.drop (k+1):=by
 rw[QV h,PV,PP h];rfl
noncomputable def okB:List (Nat×Nat)->List Nat->Bool
 |p::ps,a::v=>decide (p.1<=a)&&decide (a<=p.2)&&okB ps v
 |_,_=>PQ
def vB(ps:List (Nat×Nat))(r:List Nat)(c:Nat):List (List Nat):=(bH r c).filter (okB ps)
theorem Lz(h:v∈vB ps r c):v∈bH r c:=(RK.mp h).1
theorem vL{p:Nat×Nat}:vB (p::ps) (x::r) c=(Qb (US x c+1)).flatMap λa=>if p.1<=a/\a<=p.2 then(vB ps r (c-a)).map (a::·)else[]:=by
 show((Qb (US x c+1)).flatMap λa=>(bH r (c-a)).map (a::·)).filter (okB (p::ps))=_;rw[List.filter_flatMap];refine Rh (List.flatMap · _) (funext λa=>?_);rw[List.filter_map];by_cases q:p.1<=a/\a<=p.2
 ·rw[P7 q]
  refine Rh (Rf (a::·)) (List.filter_congr λv _=>?_);show(decide (p.1<=a)&&decide (a<=p.2)&&okB ps v)=okB ps v;rw[Qd q.1,Qd q.2];rfl
 ·rw[P5 q,List.filter_eq_nil_iff.mpr,Ug]
  intro v _ h;have h:(decide (p.1<=a)&&decide (a<=p.2)&&okB ps v)=PQ:=h;simp only[QJ,QU]at h;exact q h.1
noncomputable def tps:List (Nat×Nat)->List Nat->List Nat
 |p::ps,x::r=>US x p.2::tps ps r
 |_,_=>[]
noncomputable def los(ps:List (Nat×Nat)):List Nat:=ps.map (·.1)
theorem HQ:∀{ps:List (Nat×Nat)} {r:List Nat} {c:Nat} {v:List Nat},ps.length=r.length->v∈vB ps r c->(los ps).sum<=c/\c<=(tps ps r).sum
 |[],[],c,v,_,h=>by
  have:=fZ (Lz h);simp at this;simp[los,tps];omega
 |p::ps,x::r,c,v,e,h=>by
  rw[vL]at h;obtain⟨a,ha,h⟩:=Se.mp h;by_cases q:p.1<=a/\a<=p.2
  ·rw[P7 q]at h
   obtain⟨u,b,rfl⟩:=Qc.mp h;have i:=HQ (by simpa using e) b;have:=Qq.mp ha;simp only[los,tps,Qf,Qw]at i⊢;omega
  ·rw[P5 q]at h;cases h
noncomputable def nxB(x:Nat)(p:Nat×Nat)(few a:Nat)(b:List Nat×Nat):List (List Nat×Nat):=(Qb (US (US x p.2+few) b.2+1-few-Y5 p.1 (b.2-a))).map λi=>(b.1++[Y5 p.1 (b.2-a)+i],b.2-(Y5 p.1 (b.2-a)+i))
def stB(ps:List (Nat×Nat))(r:List Nat)(c:Nat):Nat->List (List Nat×Nat)
 |0=>[([],c)]
 |k+1=>(stB ps r c k).flatMap (nxB (r.getD k 0) (ps.getD k (0,0)) ((los ps).drop (k+1)).sum ((tps ps r).drop (k+1)).sum)
theorem AE{b:Type}{f:Nat->List b}{lo n N:Nat}(h:∀a<N,f a≠[]->lo<=a/\a<n)(hn:n<=N):(Qb N).flatMap f=(Qb (n-lo)).flatMap λi=>f (lo+i):=by
 have e:∀{a},a<N->¬(lo<=a/\a<n)->f a=[]:=λ{a} ha q=>UF λz=>q (h a ha z);obtain⟨d,rfl⟩:∃d,N=n+d:=⟨N-n,by omega⟩;have z:(Qb d).flatMap (λa=>f (n+a))=[]:=SX.mpr λa ha=>e (by have:=Qq.mp ha;omega) (by omega);rw[List.range_add,TN,WC,z,QY];rcases Nat.le_total lo n with q|q
 ·obtain⟨m,rfl⟩:∃m,n=lo+m:=⟨n-lo,by omega⟩
  rw[List.range_add,TN,SX.mpr λa ha=>e (by have:=Qq.mp ha;omega) (by have:=Qq.mp ha;omega),SJ,WC,Ud]
 ·rw[show n-lo=0 by omega,SX.mpr λa ha=>e (by have:=Qq.mp ha;omega) (by have:=Qq.mp ha;omega)];rfl
theorem tF:∀{ps:List (Nat×Nat)} {r:List Nat} (k:Nat),tps (ps.drop k) (r.drop k)=(tps ps r).drop k
 |_,_,0=>rfl
 |[],r,k+1=>by simp[tps]
 |p::ps,[],k+1=>by cases h:(ps.drop k)<;>simp[tps,h]
 |p::ps,x::r,k+1=>tF k
theorem gq{α:Type}{l:List α}{k:Nat}{d:α}(h:k<l.length):l.getD k d=l[k]:=by rw[PV,PP h];rfl
theorem qg{α a:Type}{f g:α->List a}:∀{l:List α},(∀x∈l,f x=g x)->l.flatMap f=l.flatMap g
 |[],_=>rfl
 |x::l,h=>by rw[Rb,Rb,h x P3,qg λy b=>h y (PR _ b)]
theorem vR{ps:List (Nat×Nat)}{r:List Nat}(e:ps.length=r.length)(c:Nat):∀k,k<=r.length->((stB ps r c k).flatMap λb=>(vB (ps.drop k) (r.drop k) b.2).map (b.1++·))=vB ps r c
 |0,_=>by simp[stB]
 |k+1,h=>by
  rw[←vR e c k (by omega)];show((stB ps r c k).flatMap _).flatMap _=_;rw[xU];refine Rh (List.flatMap · (stB ps r c k)) (funext λb=>?_);have g:k<r.length:=by omega
  have j:k<ps.length:=by omega
  rw[QV g,QV j,gq g,gq j,vL,S3];rw[AE (f:=λa=>(if ps[k].1<=a/\a<=ps[k].2 then(vB (ps.drop (k+1)) (r.drop (k+1)) (b.2-a)).map (a::·)else[]).map (b.1++·)) (N:=US r[k] b.2+1) (lo:=Y5 ps[k].1 (b.2-((tps ps r).drop (k+1)).sum)) (n:=US (US r[k] b.2+1) (US (US r[k] ps[k].2+((los ps).drop (k+1)).sum) b.2+1-((los ps).drop (k+1)).sum)) (λa o ha=>?_) (Nat.min_le_left _ _)]
  ·unfold nxB
   rw[WC,show US (US r[k] b.2+1) (US (US r[k] ps[k].2+((los ps).drop (k+1)).sum) b.2+1-((los ps).drop (k+1)).sum)=US (US r[k] ps[k].2+((los ps).drop (k+1)).sum) b.2+1-((los ps).drop (k+1)).sum by omega];refine qg λi l=>?_;have:=Qq.mp l;rw[P7 (by omega),Qa];exact QD λv _=>by simp
  ·by_cases q:ps[k].1<=a/\a<=ps[k].2
   ·rw[P7 q]at ha
    obtain⟨w,d⟩:=List.exists_mem_of_ne_nil _ ha;obtain⟨w,d,_⟩:=Qc.mp d;obtain⟨v,m,_⟩:=Qc.mp d;have:=HQ (by simp[e]) m;rw[tF]at this;unfold los at this⊢;rw[Ut]at this;omega
   ·rw[P5 q]at ha;exact Qx rfl ha
theorem Ly(c:Nat):vB [] [] c=if(c:Int)=0 then[[]]else[]:=by
 cases c with
 |zero=>rfl
 |succ n=>rw[P5 (by omega)];rfl
theorem JZ{ps:List (Nat×Nat)}{r:List Nat}(a:ps.length=r.length)(c:Nat):((stB ps r c r.length).filter λb=>decide ((b.2:Int)=0)).map (·.1)=vB ps r c:=by
 rw[←vR a c r.length (P9 _),SW,←a,SW,a];generalize stB ps r c r.length=l
 induction l with
 |nil=>rfl
 |cons b l ih=>
  rw[Rb,Sd,←ih,Ly];by_cases q:(b.2:Int)=0
  ·rw[P7 q,P7 (Qd q)];simp
  ·rw[P5 q,P5 (by simp;omega)];rfl
theorem vQ{r:List Nat}(c:Nat):∀k,k<=r.length->(stB ps r c k).length<=pr ((r.take k).map (·+1))
 |0,_=>P9 _
 |k+1,h=>by
  have e:r[k]?=on r[k]:=PP (by omega);rw[kB e];refine Qs (nN (n:=r[k]+1) λb _=>?_) (Yy _ (vQ c k (by omega)));unfold nxB;rw[PL,QC,gq (show k<r.length by omega)];omega
theorem yG(ps:List (Nat×Nat))(r:List Nat)(c:Nat):∀k,∀b∈stB ps r c k,b.2<=c/\b.1.length=k
 |0,b,h=>by cases QH.mp h;exact⟨P9 _,rfl⟩
 |k+1,b,h=>by
  obtain⟨d,hd,a⟩:=Se.mp (show b∈(stB ps r c k).flatMap _ from h);obtain⟨i,_,rfl⟩:=Qc.mp a;obtain⟨q1,q2⟩:=yG ps r c k d hd;exact⟨by show d.2-_<=c;omega,by rw[Qm,q2];rfl⟩
theorem yu:∀{ps:List (Nat×Nat)} {r:List Nat},(tps ps r).sum<=r.sum
 |[],r=>Q8 _
 |_::_,[]=>P9 _
 |p::ps,x::r=>by
  have:=yu (ps:=ps) (r:=r);simp only[tps,Qw];omega
abbrev Wy:=Nat->List Nat->List (List Nat)
def WOk(cs:List Nat)(W:Wy):Prop:=∀k r,(W k r).Sublist (bH r (cs.getD k 0))
def nwI(W:Wy)(L:List (List Nat))(k:Nat):LI:=L.flatMap λr=>(W k r).map λv=>nI (less r v)
def nwL(W:Wy)(L:List (List Nat))(k:Nat):List (List Nat):=(l3 (nwI W L k)).map λk=>k.map Int.toNat
section
variable{W:Wy}{cs rs:List Nat}
theorem kF:y∈nwI W L k↔∃r∈L,∃v∈W k r,y=nI (less r v):=by
 unfold nwI;constructor
 ·intro h
  obtain⟨r,a,h⟩:=Se.mp h;obtain⟨v,b,rfl⟩:=Qc.mp h;exact⟨r,a,v,b,rfl⟩
 ·rintro⟨r,a,v,b,rfl⟩
  exact Se.mpr ⟨r,a,Qc.mpr ⟨v,b,rfl⟩⟩
theorem xu(L:List (List Nat))(k:Nat):(nwL W L k).map nI=l3 (nwI W L k):=by
 unfold nwL;rw[Qa];refine(QD λy a=>?_).trans (WH _);obtain⟨r,_,v,_,rfl⟩:=kF.mp (eQ.mp a);show nI ((nI _).map Int.toNat)=_;rw[sK];rfl
theorem nA:u∈nwL W L k↔∃r∈L,∃v∈W k r,u=less r v:=by
 constructor
 ·intro h
  have:nI u∈l3 (nwI W L k):=by rw[←xu];exact Qc.mpr ⟨u,h,rfl⟩
  obtain⟨r,a,v,b,e⟩:=kF.mp (eQ.mp this);exact⟨r,a,v,b,gZ e⟩
 ·rintro⟨r,a,v,b,rfl⟩
  exact Qc.mpr ⟨nI (less r v),eQ.mpr (kF.mpr ⟨r,a,v,b,rfl⟩),sK _⟩
def lvW(W:Wy)(rs:List Nat):Nat->List (List Nat)
 |0=>[rs]
 |k+1=>nwL W (lvW W rs k) k
theorem uC:∀k,(lvW W rs k).Nodup
 |0=>Sy _ _
 |k+1=>zD (f:=nI) (by show(Rf nI (nwL _ _ _)).Nodup;rw[xu];exact HR (m9 _))
theorem jl(b:WOk cs W)(hs:rs.sum=cs.sum):∀k,k<=cs.length->∀r∈lvW W rs k,LeN r rs/\r.sum=(cs.drop k).sum
 |0,_,r,h=>by cases QH.mp h;exact⟨LeN.refl _,hs⟩
 |k+1,hk,u,h=>by
  obtain⟨r,c,v,a,rfl⟩:=nA.mp (show u∈nwL W (lvW W rs k) k from h);have a:=(b k r).subset a;obtain⟨q1,q2⟩:=jl b hs k (by omega) r c;have q3:=(fZ a).2.1;rw[q2,gc (by omega),Qw]at q3;exact⟨(cw a).less.tr q1,by omega⟩
theorem KY(a:WOk cs W)(hs:rs.sum=cs.sum)(b:k<=cs.length):(lvW W rs k).length<=pr (rs.dropLast.map (·+1)):=
 Qs (mr (uC k) (m:=bH rs (cs.drop k).sum) λr c=>by
  obtain⟨d,e⟩:=jl a hs k b r c;rw[←e];exact lw d) (i6 _ _)
theorem KR(a:WOk cs W)(hs:rs.sum=cs.sum)(e:1<=rs.length)(f:pr (rs.dropLast.map (·+1))<63)(g:k<cs.length):kZ ((nwI W (lvW W rs k) k).map tpI)=on (.lst ((lvW W rs (k+1)).map λr=>tpI (nI r))):=by
 refine(LS (m:=(bH rs (cs.drop (k+1)).sum).map nI) ?_ (by rw[PL];exact RM (i6 _ _) f) ?_).trans ?_
 ·intro x b
  obtain⟨r,c,v,d,rfl⟩:=kF.mp b;rw[PL,((cw ((a k r).subset d)).less.tr (jl a hs k (by omega) r c).1).len];exact e
 ·intro x b
  obtain⟨r,c,v,d,rfl⟩:=kF.mp b;obtain⟨q1,q2⟩:=jl a hs (k+1) g (less r v) (nA.mpr ⟨r,c,v,d,rfl⟩);exact Qc.mpr ⟨less r v,by rw[←q2];exact lw q1,rfl⟩
 ·rw[←xu,Qa];rfl
def kyW(W:Wy)(rs:List Nat)(n:Nat):List (Int×List Int):=(Qb n).flatMap λk=>(lvW W rs k).map λr=>((k:Int),nI r)
theorem zR:∀n,(kyW W rs n).Nodup
 |0=>List.nodup_nil
 |n+1=>by
  unfold kyW;rw[SK,TN,Rb,List.flatMap_nil,QY];refine Wr.mpr ⟨zR n,uu (λr s e=>gZ (UP.mp e).2) (uC n),λx a y b e=>?_⟩;subst e;obtain⟨k,c,h⟩:=Se.mp a;obtain⟨r,_,rfl⟩:=Qc.mp h;obtain⟨s,_,e⟩:=Qc.mp b;have:=(UP.mp e).1;have d:=Qq.mp c;simp only at this;omega
def tbW(W:Wy):Nat->Nat->List Nat->Nat
 |0,_,_=>1
 |j+1,k,r=>sm (W k r) λv=>tbW W j (k+1) (less r v)
def dlW(W:Wy):Nat->Nat->List Nat->Nat
 |0,_,_=>1
 |j+1,k,r=>sm (W k r) λv=>mu v*dlW W j (k+1) (less r v)
theorem tP{α:Type}{f g:α->Nat}{l m:List α}(h:l.Sublist m)(q:∀a∈m,f a<=g a):sm l f<=sm m g:=by
 induction h with
 |slnil=>exact P9 _
 |cons a _ ih=>rw[aT];exact Qs (ih λx b=>q x (PR _ b)) (Nat.le_add_left _ _)
 |cons_cons a _ ih=>rw[aT,aT];exact VV (q a P3) (ih λx b=>q x (PR _ b))
theorem u7(a:WOk cs W):∀(j k:Nat) (r:List Nat),k+j=cs.length->dlW W j k r<=dls r (cs.drop k)
 |0,k,r,h=>by rw[show k=cs.length by omega,SW];exact P9 _
 |j+1,k,r,h=>by
  rw[gc (by omega)];exact tP (a k r) λv _=>V8 _ (u7 a j (k+1) (less r v) (by omega))
theorem ux(r:List Nat):0<mu r:=Nat.pos_of_ne_zero λz=>by
 have:=kH r;rw[z,XV]at this;have:=kM r.sum;omega
def stW(W:Wy)(j k:Nat)(r:List Nat):List (List Nat):=(W k r).filter λv=>decide ((0:Int)<((tbW W j (k+1) (less r v):Nat):Int))
def fal(f:List Nat->Nat):List (List Nat)->Nat->List Nat×Nat
 |[],n=>([],n)
 |v::l,n=>if n<f v then(v,n)else fal f l (n-f v)
theorem mH:∀{l:List (List Nat)} {n:Nat},n<sm l f->(fal f l n).1∈l/\(fal f l n).2<f (fal f l n).1
 |[],n,h=>by cases h
 |v::l,n,h=>by
  unfold fal;rw[aT]at h;by_cases q:n<f v
  ·rw[P7 q];exact⟨P3,q⟩
  ·rw[P5 q]
   obtain⟨a,b⟩:=mH (f:=f) (l:=l) (n:=n-f v) (by omega);exact⟨PR _ a,b⟩
def ktW(W:Wy):Nat->Nat->List Nat->Nat->List (List Nat)
 |0,_,_,_=>[]
 |j+1,k,r,n=>(fal (λv=>tbW W j (k+1) (less r v)) (stW W j k r) n).1::ktW W j (k+1) (less r (fal (λv=>tbW W j (k+1) (less r v)) (stW W j k r) n).1) (fal (λv=>tbW W j (k+1) (less r v)) (stW W j k r) n).2
def Wk(W:Wy):Nat->List Nat->List (List Nat)->Prop
 |_,_,[]=>True
 |k,r,v::vs=>v∈W k r/\Wk W (k+1) (less r v) vs
theorem tQ{α:Type}{f:α->Nat}:∀{l:List α},sm (l.filter λv=>decide ((0:Int)<((f v:Nat):Int))) f=sm l f
 |[]=>rfl
 |v::l=>by
  rw[Sd];by_cases q:(0:Int)<((f v:Nat):Int)
  ·rw[P7 (Qd q),aT,aT,tQ]
  ·rw[P5 (λz=>q (Rx z)),aT,tQ];omega
theorem yF(j k:Nat)(r:List Nat):(sm (stW W j k r) λv=>tbW W j (k+1) (less r v))=tbW W (j+1) k r:=tQ
theorem zS:∀{j k n:Nat} {r:List Nat},(ktW W j k r n).length=j
 |0,_,_,_=>rfl
 |j+1,k,n,r=>by unfold ktW;rw[Qe,zS]
theorem IR:∀{j k n:Nat} {r:List Nat},n<tbW W j k r->Wk W k r (ktW W j k r n)
 |0,_,_,_,_=>trivial
 |j+1,k,n,r,h=>by
  rw[←yF]at h;obtain⟨a,b⟩:=mH h;exact⟨(RK.mp a).1,IR b⟩
theorem IN{α:Type}{f:α->Nat}{a:α}:∀{l:List α},a∈l->f a<=sm l f
 |b::l,h=>by
  rw[aT];rcases Qh.mp h with rfl|h
  ·omega
  ·have:=IN (f:=f) h;omega
theorem tz:∀{j k:Nat} {r:List Nat} {vs:List (List Nat)},Wk W k r vs->vs.length=j->0<tbW W j k r
 |_,_,_,[],_,rfl=>Nat.one_pos
 |_,k,r,v::vs,h,rfl=>Qv (tz h.2 rfl) (IN (f:=λv=>tbW W vs.length (k+1) (less r v)) h.1)
theorem HI{vs:List (List Nat)}(h:Wk W k r (v::vs))(e:vs.length=j):v∈stW W j k r:=RK.mpr ⟨h.1,Qd (by have:=tz h.2 e;omega)⟩
def ahW(f:List Nat->Nat)(v:List Nat):List (List Nat)->Nat
 |[]=>0
 |u::l=>if u=v then 0 else f u+ahW f v l
def frW(W:Wy):Nat->List Nat->List (List Nat)->Nat
 |_,_,[]=>0
 |k,r,v::vs=>ahW (λu=>mu u*dlW W vs.length (k+1) (less r u)) v (stW W vs.length k r)+mu v*frW W (k+1) (less r v) vs
def jx(u v:List Nat):List Nat:=UO (·+·) u v
def rsm(n:Nat):List (List Nat)->List Nat
 |[]=>Qr n 0
 |v::vs=>jx v (rsm n vs)
theorem uF:∀{v r:List Nat},v.length=r.length->less (jx v r) v=r/\LeN v (jx v r)
 |[],[],_=>⟨rfl,trivial⟩
 |x::v,y::r,h=>by
  obtain⟨a,b⟩:=uF (v:=v) (r:=r) (by simpa using h);refine⟨?_,TL _ _,b⟩;show(x+y-x)::less (jx v r) v=_;rw[a,Ud]
theorem vt:∀{v r:List Nat},LeN v r->jx v (less r v)=r
 |[],[],_=>rfl
 |x::v,y::r,h=>by
  show(x+(y-x))::jx v (less r v)=_;rw[vt h.2,Nat.add_sub_cancel' h.1]
 |[],_::_,h=>h.elim
 |_::_,[],h=>h.elim
theorem nl:∀{vs:List (List Nat)},(∀v∈vs,v.length=n)->(rsm n vs).length=n
 |[],_=>RV
 |v::vs,h=>by
  show(UO _ _ _).length=n;rw[V2,h v P3,nl λu a=>h u (PR _ a),XS]
theorem LQ:∀{r:List Nat},r.sum=0->r=Qr r.length 0
 |[],_=>rfl
 |x::r,h=>by
  rw[Qw]at h;obtain rfl:x=0:=by omega
  rw[Qe,RF,←LQ (r:=r) (by omega)]
theorem iW(a:WOk cs W):∀{vs:List (List Nat)} {k:Nat} {r:List Nat},Wk W k r vs->k+vs.length=cs.length->r.sum=(cs.drop k).sum->vs.map Rp=cs.drop k/\r=rsm r.length vs/\∀v∈vs,v.length=r.length
 |[],k,r,_,e,s=>by
  have f:cs.drop k=[]:=RN (by simpa using e▸P9 _);rw[f]at s⊢;exact⟨rfl,LQ s,λ_ h=>by cases h⟩
 |v::vs,k,r,h,e,s=>by
  rw[Qe]at e;have b:=(a k r).subset h.1;obtain⟨q1,q2,q3,_⟩:=fZ b;have le:=cw b;rw[gc (by omega),Qw]at s;obtain⟨g,c,d⟩:=iW a h.2 (by omega) (by omega);have i:=le.less.len;rw[i]at c d;refine⟨by rw[gc (by omega),Qf,g,q1],?_,λu hu=>?_⟩
  ·show r=jx v (rsm r.length vs)
   rw[←c,vt le]
  ·rcases Qh.mp hu with rfl|hu
   ·exact q3
   ·exact d u hu
theorem HJ:∀{vs:List (List Nat)} {k:Nat},(∀v∈vs,v.length=n)->(∀i r v,vs[i]?=on v->LeN v r->v∈W (k+i) r)->Wk W k (rsm n vs) vs
 |[],_,_,_=>trivial
 |v::vs,k,h,hw=>by
  have b:∀u∈vs,u.length=n:=λu a=>h u (PR _ a);obtain⟨c,d⟩:=uF (v:=v) (r:=rsm n vs) (by rw[h v P3,nl b]);refine⟨hw 0 _ v rfl d,?_⟩;show Wk W (k+1) (less (jx v (rsm n vs)) v) vs;rw[c];exact HJ b λi r u a le=>by
   have:=hw (i+1) r u a le;rwa[show k+(i+1)=k+1+i by omega]at this
theorem j7:∀{l:List Nat} {i x y:Nat},l[i]?=on x->(l.set i y).sum+x=l.sum+y
 |a::l,0,x,y,h=>by
  cases h;show(y::l).sum+a=(a::l).sum+y;rw[Qw,Qw];omega
 |a::l,i+1,x,y,h=>by
  have:=j7 (l:=l) (i:=i) (x:=x) (y:=y) h;show(a::l.set i y).sum+x=(a::l).sum+y;rw[Qw,Qw];omega
theorem HM:∀(r:List Nat),(bH r r.sum).length<=1
 |[]=>P9 _
 |x::r=>by
  have h:bH (x::r) (x::r).sum=(Qb (US x (x+r.sum)+1)).flatMap λa=>(bH r (x+r.sum-a)).map (a::·):=by rw[Qw];rfl
  rw[h,show US x (x+r.sum)=x by omega,SK,TN,Qm];have e:((Qb x).flatMap λa=>(bH r (x+r.sum-a)).map (a::·))=[]:=by
   refine SX.mpr λa ha=>?_;have:=Qq.mp ha;rw[BL (by omega)];rfl
  rw[e,Rb,List.flatMap_nil,QY,PL,Ud];have:=HM r;simpa using this
theorem LeN.dl:∀{u v:List Nat},LeN u v->LeN u.dropLast v.dropLast
 |[],[],_=>trivial
 |[_],[_],_=>trivial
 |_::_::_,_::_::_,h=>⟨h.1,h.2.dl⟩
 |[_],_::_::_,h=>h.2.elim
 |_::_::_,[_],h=>h.2.elim
 |[],_::_,h=>h.elim
 |_::_,[],h=>h.elim
theorem w9{α:Type}{f:α->Nat}{n:Nat}:∀{l:List α},(∀a∈l,f a<=n)->sm l f<=l.length*n
 |[],_=>Q8 _
 |a::l,h=>by
  rw[aT,Qe,XU,Wx];exact VV (w9 λb c=>h b (PR _ c)) (h a P3)
theorem HV{W:Wy}{cs rs:List Nat}(a:WOk cs W)(b:pr (rs.dropLast.map (·+1))<63):∀(j k:Nat) (r:List Nat),k+(j+1)=cs.length->r.sum=(cs.drop k).sum->LeN r rs->tbW W (j+1) k r<=62^j
 |0,k,r,e,s,_=>by
  rw[gc (by omega),RN (by omega)]at s;have s':r.sum=cs.getD k 0:=by simpa using s
  refine Qs (w9 (n:=1) λ_ _=>P9 _) ?_;have:=(a k r).length_le;rw[←s']at this;have:=HM r;omega
 |j+1,k,r,e,s,le=>by
  refine Qs (w9 (n:=62^j) λv c=>?_) ?_
  ·have hm:=(a k r).subset c
   have q:=(fZ hm).2.1;rw[gc (by omega),Qw]at s;exact HV a b j (k+1) (less r v) (by omega) (by omega) ((cw hm).less.tr le)
  ·rw[XT,R6]
   refine V8 _ ?_;have:=(a k r).length_le;have:=i6 r (cs.getD k 0);have:=le.dl.pr;omega
theorem Ot{u v:List Nat}{i x y:Nat}(a:u[i]?=on x)(b:v[i]?=on y):(jx u v)[i]?=on (x+y):=by
 unfold jx;rw[XQ,a,b]
theorem yT:∀{vs:List (List Nat)},(∀v∈vs,v.length=n)->i<n->(rsm n vs).getD i 0=(vs.map λv=>v.getD i 0).sum
 |[],_,hi=>by
  show(Qr n 0).getD i 0=0;rw[PV,Sx,P7 hi];rfl
 |v::vs,h,hi=>by
  have a:∀w∈vs,w.length=n:=λw b=>h w (PR _ b);have c:=h v P3;have d:=nl a;rw[Qf,Qw,←yT a hi];show(jx v (rsm n vs)).getD i 0=_;rw[PV,Ot (PP (by omega)) (PP (by omega)),gq (by omega),gq (by omega)];rfl
def pth(W:Wy):Nat->Nat->List Nat->List (List (List Nat))
 |0,_,_=>[[]]
 |j+1,k,r=>(W k r).flatMap λv=>(pth W j (k+1) (less r v)).map (v::·)
def wt(vs:List (List Nat)):Nat:=pr (vs.map mu)
theorem iX:∀(j k:Nat) (r:List Nat),(pth W j k r).length=tbW W j k r
 |0,_,_=>rfl
 |j+1,k,r=>by
  show((W k r).flatMap _).length=_;rw[List.length_flatMap];show _=((W k r).map _).sum;congr 1;exact QD λv _=>by rw[PL,iX]
theorem kA:∀(j k:Nat) (r:List Nat),sm (pth W j k r) wt=dlW W j k r
 |0,_,_=>rfl
 |j+1,k,r=>by
  show sm ((W k r).flatMap _) wt=_;rw[qC];refine dG λv _=>?_;rw[l5,←kA j (k+1) (less r v),←i7];rfl
theorem pG:∀{j k:Nat} {r:List Nat} {vs:List (List Nat)},vs∈pth W j k r->Wk W k r vs/\vs.length=j
 |0,_,_,vs,h=>by cases QH.mp h;exact⟨trivial,rfl⟩
 |j+1,k,r,vs,h=>by
  obtain⟨v,a,b⟩:=Se.mp (show vs∈(W k r).flatMap _ from h);obtain⟨us,c,rfl⟩:=Qc.mp b;obtain⟨d,e⟩:=pG c;exact⟨⟨a,d⟩,by rw[Qe,e]⟩
def kdW(W:Wy):Nat->Nat->List Nat->Nat->List (List Nat)
 |0,_,_,_=>[]
 |j+1,k,r,n=>(fal (λv=>mu v*dlW W j (k+1) (less r v)) (stW W j k r) n).1::kdW W j (k+1) (less r (fal (λv=>mu v*dlW W j (k+1) (less r v)) (stW W j k r) n).1) ((fal (λv=>mu v*dlW W j (k+1) (less r v)) (stW W j k r) n).2/mu (fal (λv=>mu v*dlW W j (k+1) (less r v)) (stW W j k r) n).1)
theorem wM{f:List Nat->List (List (List Nat))}{g t:List Nat->Nat}(d:∀u,sm ((f u).map (u::·)) wt=g u)(j:∀u,(f u).length=t u):∀{l:List (List Nat)} {i:Nat} {vs:List (List Nat)},l.Nodup->(l.flatMap λu=>(f u).map (u::·))[i]?=on vs->
  ∃v us c,v∈l/\vs=v::us/\(f v)[c]?=on us/\sm ((l.flatMap λu=>(f u).map (u::·)).take i) wt=ahW g v (l.filter λu=>decide ((0:Int)<((t u:Nat):Int)))+mu v*sm ((f v).take c) wt/\
   ∀n,ahW g v (l.filter λu=>decide ((0:Int)<((t u:Nat):Int)))<=n->n<ahW g v (l.filter λu=>decide ((0:Int)<((t u:Nat):Int)))+g v->fal g (l.filter λu=>decide ((0:Int)<((t u:Nat):Int))) n=(v,n-ahW g v (l.filter λu=>decide ((0:Int)<((t u:Nat):Int))))
 |[],i,vs,_,h=>by simp at h
 |u::l,i,vs,nd,h=>by
  rw[Rb]at h⊢;have b:∀v l,ahW g v (u::l)=if u=v then 0 else g u+ahW g v l:=λ_ _=>rfl;have k:∀l n,fal g (u::l) n=if n<g u then(u,n)else fal g l (n-g u):=λ_ _=>rfl;have a:((f u).map (u::·)).length=t u:=by rw[PL,j]
  rcases Uj i (t u)with q|q
  ·rw[Rz (by rw[a];exact q),PY]at h
   cases e:(f u)[i]? with
   |none=>rw[e]at h;cases h
   |some us=>
    rw[e]at h;cases h;rw[Sd,P7 (Qd (by omega)),WI (by rw[a];omega)];refine⟨u,us,i,P3,rfl,e,?_,λn _ hn=>?_⟩
    ·rw[b,P7 rfl,QS,←Vk,l5,←i7];rfl
    ·rw[b,P7 rfl,QS]at hn
     rw[k,P7 hn,b,P7 rfl];rfl
  ·rw[Ru (by rw[a];exact q),a]at h
   obtain⟨v,us,c,m,p,r,A,o⟩:=wM d j (QR.mp nd).2 h;have nv:u≠v:=λz=>(QR.mp nd).1 (z▸m);have B:sm ((((f u).map (u::·))++(l.flatMap λu=>(f u).map (u::·))).take i) wt=g u+sm ((l.flatMap λu=>(f u).map (u::·)).take (i-t u)) wt:=by
    rw[List.take_append,j8,a,R5 (by rw[a];exact q),d]
   refine⟨v,us,c,PR _ m,p,r,?_,?_⟩
   ·rw[B,A,Sd]
    by_cases z:(0:Int)<((t u:Nat):Int)
    ·rw[P7 (Qd z),b,P5 nv,Nat.add_assoc]
    ·have C:t u=0:=by omega
     have F:g u=0:=by rw[←d,SZ.mp ((j u).trans C)];rfl
     rw[P5 (λy=>z (Rx y)),F,QS]
   ·intro n
    rw[Sd];by_cases z:(0:Int)<((t u:Nat):Int)
    ·rw[P7 (Qd z),b,P5 nv,k]
     intro H I;rw[P5 (by omega),o (n-g u) (by omega) (by omega)];congr 1;omega
    ·rw[P5 (λy=>z (Rx y))]
     exact o n
theorem uV(hn:∀k r,(W k r).Nodup):∀{j k i:Nat} {r:List Nat} {vs:List (List Nat)},(pth W j k r)[i]?=on vs->frW W k r vs=sm ((pth W j k r).take i) wt/\sm ((pth W j k r).take i) wt+wt vs<=dlW W j k r/\∀n,sm ((pth W j k r).take i) wt<=n->n<sm ((pth W j k r).take i) wt+wt vs->kdW W j k r n=vs
 |0,k,i,r,vs,h=>by
  cases i with
  |zero=>cases h;exact⟨rfl,P9 _,λ_ _ _=>rfl⟩
  |succ i=>cases h
 |j+1,k,i,r,vs,h=>by
  obtain⟨v,us,H,I,rfl,d,a,l⟩:=wM (f:=λv=>pth W j (k+1) (less r v)) (g:=λv=>mu v*dlW W j (k+1) (less r v)) (t:=λv=>tbW W j (k+1) (less r v)) (λu=>by rw[l5,←kA j (k+1) (less r u),←i7];rfl) (λu=>iX _ _ _) (hn k r) h;obtain⟨m,o,p⟩:=uV hn d;have q:=(pG (Qi d)).2;have e:=ux v;have c:=tP (f:=wt) (g:=wt) ((pth W (j+1) k r).take_sublist (i+1)) λ_ _=>P9 _;rw[kA,Tj,h,j8]at c
  replace c:sm ((pth W (j+1) k r).take i) wt+sm [v::us] wt<=dlW W (j+1) k r:=c
  rw[aT,l4,Wz]at c;refine⟨?_,c,λn y A=>?_⟩
  ·show ahW _ v (stW W us.length k r)+mu v*frW W (k+1) (less r v) us=_
   rw[q,m];exact a.symm
  ·have a:sm ((pth W (j+1) k r).take i) wt=_:=a
   have B:wt (v::us)=mu v*wt us:=rfl;rw[a,B]at A;rw[a]at y;have b:=V8 (mu v) o;rw[Yx]at b;have C:=l n (by omega) (by omega);show(fal _ (stW W j k r) n).1::kdW W j (k+1) (less r (fal _ (stW W j k r) n).1) ((fal _ (stW W j k r) n).2/mu (fal _ (stW W j k r) n).1)=_;have F:fal (λv=>mu v*dlW W j (k+1) (less r v)) (stW W j k r) n=_:=C;rw[F];congr 1;refine p _ ((Nat.le_div_iff_mul_le e).mpr ?_) ((Nat.div_lt_iff_lt_mul e).mpr ?_)
   ·rw[R6];omega
   ·rw[WV,R6 _ (mu v),R6 _ (mu v)];omega
theorem qD{α:Type}{f:α->Nat}{p:α->Bool}:∀{l:List α},(∀v,p v=PX->f v=0)->sm (l.filter p) f=sm l f
 |[],_=>rfl
 |v::l,h=>by
  rw[Sd];cases q:p v with
  |true=>rw[P7 rfl,aT,aT,qD h]
  |false=>rw[P5 P8,aT,qD h,h v q,QS]
theorem HX{W:Wy}(j k:Nat)(r:List Nat):(sm (stW W j k r) λv=>mu v*dlW W j (k+1) (less r v))=dlW W (j+1) k r:=qD λv q=>by
 have:tbW W j (k+1) (less r v)=0:=by
  have:=X9 q;omega
 rw[←iX]at this;rw[←kA,SZ.mp this];rfl
theorem zU{W:Wy}:∀{j k n:Nat} {r:List Nat},(kdW W j k r n).length=j
 |0,_,_,_=>rfl
 |j+1,k,n,r=>by unfold kdW;rw[Qe,zU]
theorem IS{W:Wy}:∀{j k n:Nat} {r:List Nat},n<dlW W j k r->Wk W k r (kdW W j k r n)
 |0,_,_,_,_=>trivial
 |j+1,k,n,r,h=>by
  rw[←HX]at h;obtain⟨a,b⟩:=mH h;exact⟨(RK.mp a).1,IS (Yw b)⟩
theorem qx:∀(r:List Nat) (c:Nat),(bH r c).Nodup
 |[],0=>Sy _ _
 |[],_+1=>List.nodup_nil
 |x::r,c=>by
  show((Qb (US x c+1)).flatMap λa=>(bH r (c-a)).map (a::·)).Nodup;refine VM.mpr ⟨λa _=>uu (λ_ _ e=>(YO e).2) (qx r (c-a)),Vv.imp λ{a b} n u d w f e=>?_⟩;obtain⟨_,_,rfl⟩:=Qc.mp d;obtain⟨_,_,rfl⟩:=Qc.mp f;exact n (YO e).1
theorem vo{f:List Nat->List (List (List Nat))}{t:List Nat->Nat}(d:∀u,(f u).length=t u):∀{l:List (List Nat)} {i:Nat} {vs:List (List Nat)},l.Nodup->(l.flatMap λu=>(f u).map (u::·))[i]?=on vs->
  ∃v us a,v∈l/\vs=v::us/\(f v)[a]?=on us/\i=ahW t v (l.filter λu=>decide ((0:Int)<((t u:Nat):Int)))+a/\fal t (l.filter λu=>decide ((0:Int)<((t u:Nat):Int))) i=(v,a)
 |[],i,vs,_,h=>by simp at h
 |u::l,i,vs,nd,h=>by
  rw[Rb]at h;have g:∀v l,ahW t v (u::l)=if u=v then 0 else t u+ahW t v l:=λ_ _=>rfl;have j:∀l n,fal t (u::l) n=if n<t u then(u,n)else fal t l (n-t u):=λ_ _=>rfl;have b:((f u).map (u::·)).length=t u:=by rw[PL,d]
  rw[Sd];rcases Uj i (t u)with q|q
  ·rw[Rz (by rw[b];exact q),PY]at h
   cases e:(f u)[i]? with
   |none=>rw[e]at h;cases h
   |some us=>
    rw[e]at h;cases h;rw[P7 (Qd (by omega))];exact⟨u,us,i,P3,rfl,e,by rw[g,P7 rfl,QS],by rw[j,P7 q]⟩
  ·rw[Ru (by rw[b];exact q),b]at h
   obtain⟨v,us,a,k,o,p,m,c⟩:=vo d (QR.mp nd).2 h;have nv:u≠v:=λz=>(QR.mp nd).1 (z▸k);refine⟨v,us,a,PR _ k,o,p,?_⟩;by_cases z:(0:Int)<((t u:Nat):Int)
   ·rw[P7 (Qd z),g,P5 nv,j,P5 (by omega)]
    exact⟨by omega,c⟩
   ·rw[P5 (λy=>z (Rx y))]
    rw[show i-t u=i by omega]at m c;exact⟨m,c⟩
def nmW(W:Wy):Nat->List Nat->List (List Nat)->Nat
 |_,_,[]=>0
 |k,r,v::vs=>ahW (λu=>tbW W vs.length (k+1) (less r u)) v (stW W vs.length k r)+nmW W (k+1) (less r v) vs
theorem zA{W:Wy}(hn:∀k r,(W k r).Nodup):∀{j k i:Nat} {r:List Nat} {vs:List (List Nat)},(pth W j k r)[i]?=on vs->ktW W j k r i=vs/\nmW W k r vs=i
 |0,k,i,r,vs,h=>by
  cases i with
  |zero=>cases h;exact⟨rfl,rfl⟩
  |succ i=>cases h
 |j+1,k,i,r,vs,h=>by
  obtain⟨v,us,b,n,rfl,a,c,d⟩:=vo (f:=λv=>pth W j (k+1) (less r v)) (t:=λv=>tbW W j (k+1) (less r v)) (λu=>iX _ _ _) (hn k r) h;obtain⟨e,g⟩:=zA hn a;have l:=(pG (Qi a)).2;refine⟨?_,?_⟩
  ·have m:fal (λv=>tbW W j (k+1) (less r v)) (stW W j k r) i=(v,b):=d
   show(fal _ (stW W j k r) i).1::ktW W j (k+1) (less r (fal _ (stW W j k r) i).1) (fal _ (stW W j k r) i).2=_;rw[m,e]
  ·show ahW _ v (stW W us.length k r)+nmW W (k+1) (less r v) us=_
   rw[l,g];exact c.symm
def LtF{α:Type}(R:α->α->Prop)(u v:List α):Prop:=∃I s t:List α,∃x y:α,u=I++x::s/\v=I++y::t/\R x y
theorem LtF.hd{α:Type}{R:α->α->Prop}{x y:α}{u v:List α}(h:R x y):LtF R (x::u) (y::v):=⟨[],u,v,x,y,rfl,rfl,h⟩
theorem LtF.tl{α:Type}{R:α->α->Prop}{x:α}{u v:List α}(h:LtF R u v):LtF R (x::u) (x::v):=by
 obtain⟨I,s,t,y,z,rfl,rfl,h⟩:=h;exact⟨x::I,s,t,y,z,rfl,rfl,h⟩
theorem y9{α a:Type}{R:a->a->Prop}{S:α->α->Prop}{f:α->a}{l:List α}(h:∀x y,S x y->R (f x) (f y))(p:l.Pairwise S):(l.map f).Pairwise R:=Uh.mpr (p.imp λq=>h _ _ q)
theorem vJ:∀(r:List Nat) (c:Nat),(bH r c).Pairwise (LtF (·<·))
 |[],0=>Sy _ _
 |[],_+1=>UA
 |x::r,c=>by
  show((Qb (US x c+1)).flatMap λa=>(bH r (c-a)).map (a::·)).Pairwise _;refine VM.mpr ⟨λa _=>y9 (λ_ _ h=>h.tl) (vJ r (c-a)),List.pairwise_lt_range.imp λ{a b} n u d w e=>?_⟩;obtain⟨_,_,rfl⟩:=Qc.mp d;obtain⟨_,_,rfl⟩:=Qc.mp e;exact LtF.hd n
theorem za{W:Wy}(h:∀k r,(W k r).Pairwise (LtF (·<·))):∀(j k:Nat) (r:List Nat),(pth W j k r).Pairwise (LtF (LtF (·<·)))
 |0,_,_=>Sy _ _
 |j+1,k,r=>by
  show((W k r).flatMap λv=>(pth W j (k+1) (less r v)).map (v::·)).Pairwise _;refine VM.mpr ⟨λv _=>y9 (λ_ _ q=>q.tl) (za h j (k+1) (less r v)),(h k r).imp λ{a b} n u c w d=>?_⟩;obtain⟨_,_,rfl⟩:=Qc.mp c;obtain⟨_,_,rfl⟩:=Qc.mp d;exact LtF.hd n
theorem vU{α:Type}{f:α->Nat}:∀{l:List α} {n:Nat},n<sm l f->∃i,∃h:i<l.length,sm (l.take i) f<=n/\n<sm (l.take i) f+f l[i]
 |[],n,h=>by cases h
 |x::l,n,h=>by
  rw[aT]at h;by_cases q:n<f x
  ·exact⟨0,Nat.zero_lt_succ _,Q8 _,by rw[VU];show n<0+f x;omega⟩
  ·obtain⟨i,a,b,c⟩:=vU (l:=l) (n:=n-f x) (f:=f) (by omega)
   refine⟨i+1,Nat.succ_lt_succ a,?_,?_⟩
   ·rw[Yv,aT];omega
   ·rw[Yv,aT]
    show n<f x+sm (l.take i) f+f l[i];omega
theorem vT{α:Type}{f:α->Nat}{l:List α}{i:Nat}(h:i<l.length):sm (l.take (i+1)) f=sm (l.take i) f+f l[i]:=by
 rw[Tj,PP h,j8];show _+sm [l[i]] f=_;rw[aT,l4,Wz]
end
end L2.Nt
namespace Law
open PySem L2 L2.Pu
open L2.Hs (um zW lh wg)
noncomputable def top(i:Nat):Q9:=PySem.Challenge.pw_edgetally_k27_whole_numbers_there_and_ba.main.body.getD i (.Pass ⟨0,0,0,0⟩)
abbrev yP:Q9:=top 14
abbrev l8:Q9:=top 15
abbrev ma:Q9:=top 16
abbrev jc:Q9:=top 17
abbrev lM:Q9:=top 18
abbrev n9:Q9:=top 20
abbrev yN:Q9:=top 21
abbrev pB:Q9:=top 22
abbrev rE:Q9:=top 24
abbrev lN:Q9:=top 25
abbrev lO:Q9:=top 26
abbrev rD:Q9:=top 27
abbrev nZ:Q9:=top 28
abbrev rG:Q9:=top 29
abbrev oh:Q9:=top 30
abbrev l7:Q9:=top 33
abbrev iz:Q9:=top 34
abbrev iA:Q9:=top 35
abbrev kh:Q9:=top 36
abbrev jd:Q9:=top 37
abbrev lP:Q9:=top 38
abbrev jE:Q9:=top 39
abbrev kq:Q9:=top 42
abbrev jD:Q9:=top 43
abbrev pC:Q9:=top 44
abbrev n6:Q9:=top 45
abbrev lR:Q9:=top 46
abbrev jG:Q9:=top 47
abbrev jF:Q9:=top 48
abbrev nY:Q9:=top 49
abbrev rC:Q9:=top 50
abbrev vY:Q9:=top 52
abbrev t8:Q9:=top 53
abbrev t7:Q9:=top 54
abbrev ua:Q9:=top 55
abbrev tY:Q9:=top 56
abbrev rF:Q9:=top 57
abbrev pw:Q9:=top 58
abbrev n5:Q9:=top 59
abbrev kj:Q9:=top 60
abbrev uc:Q9:=top 61
abbrev pA:Q9:=top 62
abbrev pz:Q9:=top 63
abbrev lQ:Q9:=top 64
abbrev tZ:Q9:=top 65
abbrev pq:Q9:=top 66
abbrev vX:Q9:=top 67
abbrev ub:Q9:=top 68
abbrev kx:Q9:=aF (top 40) 0
abbrev md:Q9:=aF (top 40) 7
abbrev jH:Q9:=aF (top 40) 6
abbrev lS:Q9:=aF (top 40) 3
abbrev je:Q9:=aF (top 40) 4
abbrev oi:Q9:=aF (top 40) 9
abbrev kr:Q9:=aF (top 40) 8
abbrev nh:Q9:=top 69
abbrev tL:Q9:=aF (top 2) 0
set_option genSizeOf false in
set_option genInjectivity false in
structure Ad where
 Aa:PZ
 Ab:PZ
 Ac:Qu
 Ae:PZ
 Af:PZ
 Ag:Qu
 Ah:PZ
 Ai:Qu
 Aj:PZ
 Ak:Qu
 Al:PZ
 Am:Qu
 An:PZ
 Ao:Qu
 Aq:PZ
 Ar:Qu
 As:PZ
 At:Qu
 Au:PZ
 Av:Qu
 Aw:PZ
 Ax:Qu
 Ay:PZ
 Az:Qu
 A0:PZ
 A1:Qu
 A2:PZ
 A3:Qu
 A4:PZ
 A5:Qu
 A6:PZ
 A7:Qu
 A8:PZ
 A9:Qu
 Ba:PZ
 Bb:Qu
 Bc:PZ
 Bd:Qu
 Be:PZ
 Bf:Qu
 Bh:PZ
 Bi:Qu
 Bj:PZ
 Bk:Qu
 Bl:PZ
 Bm:Qu
 Bn:PZ
 Bo:Qu
 Bp:PZ
 Bq:Qu
 Br:PZ
 Bs:Qu
 Bt:PZ
 Bu:Qu
 Bv:PZ
 Bw:Qu
 Bx:PZ
 By:Qu
 Bz:PZ
 B0:Qu
 B5:PZ
 B7:Qu
 B8:PZ
 Ca:Qu
 Cb:PZ
 Cc:Qu
 Cd:PZ
 Cf:Qu
 Cg:PZ
 Ch:Qu
 Ci:PZ
 Cj:Qu
 Ck:PZ
 Cl:Qu
 Cm:PZ
 Cn:Qu
 Co:PZ
 Cp:Qu
 Cq:PZ
 Cr:Qu
 Cs:PZ
 Ct:Qu
 Cu:PZ
 Cv:Qu
 Cw:PZ
 Cy:Qu
 Cz:PZ
 C0:Qu
 C2:PZ
 C3:Qu
 C4:PZ
 C5:Qu
 C6:PZ
 C7:Qu
 C8:PZ
 C9:Qu
 Da:PZ
 Db:Qu
 Dc:PZ
 Dd:Qu
 Df:PZ
 Dg:Qu
 Dh:PZ
 Di:Qu
 Dj:PZ
 Dm:Qu
 Do:PZ
 Dp:Qu
 Dq:PZ
 Dr:Qu
 Dt:PZ
 Du:Qu
 Dv:PZ
 Dw:Qu
 Dx:PZ
 Dy:Qu
structure Fns (K:Qo) (mg:QO->Option P0) (a:Ad):Prop where
 Dz:mg "ValueError"=PM
 D0:mg "abs"=PM
 D3:mg "any"=PM
 D4:mg "bool"=PM
 D5:mg "enumerate"=PM
 D6:mg "int"=PM
 D7:mg "isinstance"=PM
 D8:mg "len"=PM
 D9:mg "list"=PM
 Ea:mg "max"=PM
 Eb:mg "min"=PM
 Ec:mg "range"=PM
 Ed:mg "reversed"=PM
 Ee:mg "sorted"=PM
 Ef:mg "str"=PM
 Eg:mg "sum"=PM
 Eh:mg "tuple"=PM
 Ei:mg "zip"=PM
 Ej:nW K mg "MOST" (.int 40)
 Ek:nW K mg "MOST_COLUMNS" (.int 6)
 El:nW K mg "MOST_ROWS" (.int 4)
 Em:nW K mg "WIDE" (.int 500)
 En:FunD K "free" "free" yP a.Af a.Ag
 Eo:mg "free"=on (.ref a.Af)
 Ep:bP K a.Ag ["rows","columns","pair"] [.tup [.int 0,.int 40]]
 Er:FunD K "check_sums" "check_sums" l8 a.Ah a.Ai
 Es:mg "check_sums"=on (.ref a.Ah)
 Et:aC K a.Ai ["rowsums","columnsums"] []
 Eu:FunD K "check_pair" "check_pair" ma a.Aj a.Ak
 Ev:mg "check_pair"=on (.ref a.Aj)
 Ew:aC K a.Ak ["pair"] []
 Ex:FunD K "settled_bounds" "settled_bounds" jc a.Al a.Am
 Ey:mg "settled_bounds"=on (.ref a.Al)
 Ez:aC K a.Am ["bounds","rows","columns"] []
 E2:FunD K "rows_turned" "rows_turned" lM a.An a.Ao
 E3:mg "rows_turned"=on (.ref a.An)
 E4:aC K a.Ao ["rows"] []
 E5:FunD K "factorial" "factorial" n9 a.Aq a.Ar
 E6:mg "factorial"=on (.ref a.Aq)
 E7:aC K a.Ar ["number"] []
 E8:FunD K "ways" "ways" yN a.As a.At
 E9:mg "ways"=on (.ref a.As)
 Fa:aC K a.At ["parts"] []
 Fb:FunD K "fillings" "fillings" pB a.Au a.Av
 Fc:mg "fillings"=on (.ref a.Au)
 Fd:aC K a.Av ["rests","many","pairs"] []
 Fe:FunD K "need_of" "need_of" rE a.Aw a.Ax
 Ff:mg "need_of"=on (.ref a.Aw)
 Fg:aC K a.Ax ["rowsums","over"] []
 Fh:FunD K "room_inside" "room_inside" lN a.Ay a.Az
 Fi:mg "room_inside"=on (.ref a.Ay)
 Fj:aC K a.Az ["columnsums","bounds","over","column"] []
 Fk:FunD K "room_beside" "room_beside" lO a.A0 a.A1
 Fl:mg "room_beside"=on (.ref a.A0)
 Fm:aC K a.A1 ["bounds","over","column"] []
 Fn:FunD K "room_of" "room_of" rD a.A2 a.A3
 Fo:mg "room_of"=on (.ref a.A2)
 Fp:aC K a.A3 ["columnsums","bounds","over","into"] []
 Fq:FunD K "narrowest" "narrowest" nZ a.A4 a.A5
 Fs:mg "narrowest"=on (.ref a.A4)
 Ft:aC K a.A5 ["columnsums","bounds","over"] []
 Fu:FunD K "choices" "choices" rG a.A6 a.A7
 Fv:mg "choices"=on (.ref a.A6)
 Fw:aC K a.A7 ["many"] []
 Fy:FunD K "check_fit" "check_fit" oh a.A8 a.A9
 Fz:mg "check_fit"=on (.ref a.A8)
 F4:aC K a.A9 ["rowsums","columnsums","bounds"] []
 F5:FunD K "check_wide" "check_wide" l7 a.Ba a.Bb
 F6:mg "check_wide"=on (.ref a.Ba)
 F7:aC K a.Bb ["rowsums"] []
 F8:FunD K "settled_for_net" "settled_for_net" iz a.Bc a.Bd
 F9:mg "settled_for_net"=on (.ref a.Bc)
 Ga:aC K a.Bd ["rowsums","columnsums","bounds"] []
 Gb:FunD K "column_fillings" "column_fillings" iA a.Be a.Bf
 Gc:mg "column_fillings"=on (.ref a.Be)
 Gd:aC K a.Bf ["rests","columnsums","bounds","column"] []
 Ge:FunD K "rests_behind" "rests_behind" kh a.Bh a.Bi
 Gf:mg "rests_behind"=on (.ref a.Bh)
 Gg:aC K a.Bi ["rests","counts"] []
 Gh:FunD K "nodes_by_level" "nodes_by_level" jd a.Bj a.Bk
 Gi:mg "nodes_by_level"=on (.ref a.Bj)
 Gj:aC K a.Bk ["rowsums","columnsums","bounds"] []
 Gk:FunD K "node_counts" "node_counts" lP a.Bl a.Bm
 Gm:mg "node_counts"=on (.ref a.Bl)
 Gn:aC K a.Bm ["rests","filled","behind"] []
 Go:FunD K "counted_nodes" "counted_nodes" jE a.Bn a.Bo
 Gp:mg "counted_nodes"=on (.ref a.Bn)
 Gq:aC K a.Bo ["rowsums","columnsums","bounds"] []
 Gr:FunD K "check_number" "check_number" kq a.Bp a.Bq
 Gs:mg "check_number"=on (.ref a.Bp)
 Gu:aC K a.Bq ["k","many"] []
 Gv:FunD K "steps_counted" "steps_counted" jD a.Br a.Bs
 Gx:mg "steps_counted"=on (.ref a.Br)
 Gy:aC K a.Bs ["net","level","rests"] []
 Gz:FunD K "falls_to" "falls_to" pC a.Bt a.Bu
 G0:mg "falls_to"=on (.ref a.Bt)
 G1:aC K a.Bu ["numbered","k"] []
 G2:FunD K "kth_table" "kth_table" n6 a.Bv a.Bw
 G3:mg "kth_table"=on (.ref a.Bv)
 G4:aC K a.Bw ["net","k"] []
 G5:FunD K "kth_dealing" "kth_dealing" lR a.Bx a.By
 G6:mg "kth_dealing"=on (.ref a.Bx)
 G7:aC K a.By ["net","k"] []
 G8:FunD K "columns_asked" "columns_asked" jG a.Bz a.B0
 G9:mg "columns_asked"=on (.ref a.Bz)
 Ha:aC K a.B0 ["net","rows"] []
 Hb:FunD K "counted_ahead" "counted_ahead" jF a.B5 a.B7
 Hc:mg "counted_ahead"=on (.ref a.B5)
 Hd:aC K a.B7 ["net","level","rests","filling"] []
 He:FunD K "number_of" "number_of" nY a.B8 a.Ca
 Hf:mg "number_of"=on (.ref a.B8)
 Hg:aC K a.Ca ["net","rows"] []
 Hh:FunD K "stretch" "stretch" rC a.Cb a.Cc
 Hi:mg "stretch"=on (.ref a.Cb)
 Hj:aC K a.Cc ["net","rows"] []
 Hk:FunD K "_law_bag" "_law_bag" vY a.Cd a.Cf
 Hl:mg "_law_bag"=on (.ref a.Cd)
 Hm:aC K a.Cf ["_law_script"] []
 Hn:FunD K "_law_pull" "_law_pull" t8 a.Cg a.Ch
 Ho:mg "_law_pull"=on (.ref a.Cg)
 Hq:aC K a.Ch ["_law_bag_here","_law_lot"] []
 Hr:FunD K "_law_same" "_law_same" t7 a.Ci a.Cj
 Ht:mg "_law_same"=on (.ref a.Ci)
 Hu:aC K a.Cj ["_law_found","_law_due"] []
 Hv:FunD K "_law_grid" "_law_grid" ua a.Ck a.Cl
 Hw:mg "_law_grid"=on (.ref a.Ck)
 Hx:aC K a.Cl ["_law_bag_here","_law_block","_law_columns","_law_things"] []
 Hy:FunD K "_law_wide" "_law_wide" tY a.Cm a.Cn
 Hz:mg "_law_wide"=on (.ref a.Cm)
 Ia:aC K a.Cn ["_law_bag_here"] []
 Ib:FunD K "_law_large" "_law_large" rF a.Co a.Cp
 Id:mg "_law_large"=on (.ref a.Co)
 Ie:aC K a.Cp ["_law_bag_here"] []
 Ig:FunD K "_law_turned" "_law_turned" pw a.Cq a.Cr
 Ih:mg "_law_turned"=on (.ref a.Cq)
 Ii:aC K a.Cr ["_law_block"] []
 Ij:FunD K "_law_rowsums" "_law_rowsums" n5 a.Cs a.Ct
 Ik:mg "_law_rowsums"=on (.ref a.Cs)
 Il:aC K a.Ct ["_law_grid_here"] []
 Im:FunD K "_law_columnsums" "_law_columnsums" kj a.Cu a.Cv
 Io:mg "_law_columnsums"=on (.ref a.Cu)
 Ip:aC K a.Cv ["_law_grid_here"] []
 Iq:FunD K "_law_free" "_law_free" uc a.Cw a.Cy
 Ir:mg "_law_free"=on (.ref a.Cw)
 Iu:aC K a.Cy ["_law_block","_law_columns"] []
 Iw:FunD K "_law_bounds" "_law_bounds" pA a.Cz a.C0
 Ix:mg "_law_bounds"=on (.ref a.Cz)
 Iy:aC K a.C0 ["_law_bag_here","_law_grid_here"] []
 Iz:FunD K "_law_copied" "_law_copied" pz a.C2 a.C3
 I0:mg "_law_copied"=on (.ref a.C2)
 I9:aC K a.C3 ["_law_block"] []
 Ja:FunD K "_law_factorial" "_law_factorial" lQ a.C4 a.C5
 Jb:mg "_law_factorial"=on (.ref a.C4)
 Jc:aC K a.C5 ["_law_lot"] []
 Jd:FunD K "_law_ways" "_law_ways" tZ a.C6 a.C7
 Je:mg "_law_ways"=on (.ref a.C6)
 Jf:aC K a.C7 ["_law_parts"] []
 Jg:FunD K "_law_weight" "_law_weight" pq a.C8 a.C9
 Jh:mg "_law_weight"=on (.ref a.C8)
 Ji:aC K a.C9 ["_law_columns"] []
 Jj:FunD K "_law_net" "_law_net" vX a.Da a.Db
 Jk:mg "_law_net"=on (.ref a.Da)
 Jl:aC K a.Db ["_law_grid_here","_law_limits"] []
 Jm:FunD K "_law_good" "_law_good" ub a.Dc a.Dd
 Jn:mg "_law_good"=on (.ref a.Dc)
 Jo:aC K a.Dd ["_law_block","_law_rowsums_here","_law_columnsums_here","_law_limits"] []
 Jp:FunD K "__init__" "Net.__init__" kx a.Df a.Dg
 Jq:Mk K a.Ae a.Df
 Jr:KwOk K a.Dg ["self","rowsums","columnsums","bounds"] ["bounds"] 3 [.kw 0]
 Js:FunD K "tables" "Net.tables" md a.Dh a.Di
 Jt:Meth K a.Ae "tables" a.Dh
 Ju:aC K a.Di ["self"] []
 Jv:FunD K "counts_at" "Net.counts_at" jH a.Dj a.Dm
 Jw:Meth K a.Ae "counts_at" a.Dj
 Jx:aC K a.Dm ["self","level","rests"] []
 Jy:FunD K "rowsums" "Net.rowsums" lS a.Do a.Dp
 Jz:Meth K a.Ae "rowsums" a.Do
 J0:aC K a.Dp ["self"] []
 J1:FunD K "columnsums" "Net.columnsums" je a.Dq a.Dr
 J2:Meth K a.Ae "columnsums" a.Dq
 J3:aC K a.Dr ["self"] []
 J4:FunD K "steps" "Net.steps" oi a.Dt a.Du
 J5:Meth K a.Ae "steps" a.Dt
 J6:aC K a.Du ["self","level","rests"] []
 J7:FunD K "dealings" "Net.dealings" kr a.Dv a.Dw
 J8:Meth K a.Ae "dealings" a.Dv
 J9:aC K a.Dw ["self"] []
 Ka:Cls K a.Ae
 Kb:mg "Net"=on (.ref a.Ae)
 Kc:d6 K a.Ae "column_list"
 Kd:d6 K a.Ae "counted"
 Ke:d6 K a.Ae "pairs"
 Kf:d6 K a.Ae "row_list"
 Kg:FunD K "__init__" "EdgeError.__init__" tL a.Ab a.Ac
 Kh:aC K a.Ac ["self","word","why"] []
 Ki:mg "EdgeError"=on (.ref a.Aa)
 Kj:ClsFn K a.Aa "__init__" a.Ab
section
variable(P:QG)(w:QT){K:Qo}{mg:QO->Option P0}(base:Rl){a:Ad}
theorem jB:FnScope ["_law_bag_here","_law_lot","_law_cells","_law_at","_law_cell"] ["_law_bag_here","_law_lot"] (ag t8):=fsc
theorem zo(N:Fns K mg a):FnOk P w K mg base (CXE P w) 2 a.Cg a.Ch ["_law_bag_here","_law_lot"] (spF K 2 iR):=by
 refine N.Hn.ok (k:=1) jB (λvs H Q E h=>h.1) (λY A outer s H vs Q E hr h=>?_);obtain⟨_,F,ds,β,fr,hd,r,Z,e,k⟩:=h;obtain⟨lot,rfl,ok,I,h1,rfl,rfl⟩:=zF e;obtain⟨v,w',rfl,d1,d2⟩:=DenL.two hd;unfold Den at d1;obtain⟨b,l,d,rfl⟩:=d1;cases d2.int;obtain⟨t,J⟩:=fr.bag b l d;obtain⟨ab,al,m⟩:=fr.bgA b l d;obtain⟨W,L,hc0,X⟩:=ok.at;obtain⟨_,_,hcp,_⟩:=v6 ok I;have len:((β.cells.map V.int).length:Int)=(β.cells.length:Int):=by rw[PL]
 have O:atI (β.cells.map V.int) (β.pos:Int)=on (.int β.cell):=Lu (by rw[PY,L];rfl);refine⟨_,c7 (pI (i:=2) jB.nd rfl (RH rfl) (gR d8 (pv 0) bV (λ_ _=>rfl)))
  (c7 (pI (i:=3) jB.nd rfl (RH rfl) (dX kD (gR d8 (pv 0) bV (λ_ _=>rfl)) (lf mS (by rfl) N.D8 PySem.boot_len (fi (pv 2) jj))))
  (c7 (pI (i:=4) jB.nd rfl (RH rfl) (gR d8 (pv 2) (pv 3) (λ_ _=>rfl)))
  (c7 (IG (v7 II (pv 4) (dX Ms bV bV) (ur _))
   (c7 (dN (dX wj (pv 4) (pv 1)) (kC (pv 2) (pv 3) gz)) (np (aq (dX kD (pv 4) (pv 1))))) qK)
  (c7 (dN (dX pM (gR d8 (pv 0) bV (λ_ _=>rfl)) bV) (kC (pv 0) bV gz))
  (c7 (dN (dX kD (dX Mu (dX pM (dX pM (gR d8 (pv 0) bV (λ_ _=>rfl)) (dX kD (pv 4) bV)) bV) bV) bV) (kC (pv 0) bV gz))
  (np (aq (dX kD (dX wj (gR d8 (pv 0) bV (λ_ _=>rfl)) bV) (pv 1))))))))),?_⟩
 refine⟨_,rfl,b,_,_,_,rfl,rfl,SqL.of t,rfl,?_⟩;refine⟨_,rfl,b,_,_,_,rfl,rfl,SqL.of t,rfl,_,rfl,l,_,rfl,.inl (SqL.of J),_,_,rfl,rfl,?_,?_⟩
 ·have:=W
  rw[len];omega
 refine⟨_,rfl,_,rfl,l,_,_,_,rfl,rfl,SqL.of J,by rw[len,X];exact O,?_⟩;refine⟨_,rfl,_,_,rfl,rfl,⟨by decide,by decide,by decide⟩,_,_,rfl,rfl,_,rfl,?_⟩;have occ:∀{R:Hp} {p:PZ} {o:HO},(∀c,F.A c->R c≠PM)->∀c,F.A c->upd R p o c≠PM:=λ{R p o} f c u z=>by
  by_cases q:c=p
  ·subst q;rw[ao]at z;cases z
  ·rw[upd_ne q]at z;exact f c u z
 refine ite2 (λg=>?_) (λg=>?_)
 ·have big:(10:Int)^18<=β.cell:=Rx g
  refine⟨_,rfl,_,rfl,_,_,rfl,rfl,⟨I,h1⟩,_,rfl,_,rfl,l,_,_,β.pos,rfl,rfl,J,?_,?_⟩
  ·rw[len,X,PL]
   exact K9 W
  refine⟨_,rfl,_,rfl,_,_,rfl,rfl,I,?_⟩;have T:jM β lot=β.cell % lot:=P7 big;have U:ld β lot=⟨β.cells.set β.pos (β.cell/lot),β.i,β.j⟩:=P7 big;rw[T,U]at k;refine k _ _ ⟨λc o u n=>by rw[upd_ne (n b l d).2];exact u,occ fr.occ,fr.bgA,λb' l' y=>?_⟩ rfl;rw[d]at y;cases y;exact⟨by rw[upd_ne m];exact t,by rw[ao,UN]⟩
 ·have big:¬(10:Int)^18<=β.cell:=λq=>g (Qd q)
  refine⟨_,rfl,b,_,_,_,rfl,rfl,SqL.of t,rfl,_,_,rfl,rfl,_,rfl,b,_,_,1,rfl,rfl,t,rfl,?_⟩;have B:(upd H b (.lst [.ref l,.int (β.i+1),.int β.j])) b=on (.lst [.ref l,.int (β.i+1),.int β.j]):=ao;refine⟨_,rfl,b,_,_,_,rfl,rfl,SqL.of B,rfl,_,rfl,_,_,rfl,rfl,(by show(0:Int)<2147483629;decide),_,_,rfl,rfl,_,_,rfl,rfl,_,_,rfl,rfl,.inr ⟨by decide,by decide⟩,_,_,rfl,rfl,(by show(0:Int)<2147483629;decide),_,rfl,b,_,_,2,rfl,rfl,B,rfl,?_⟩;have C:(upd (upd H b (.lst [.ref l,.int (β.i+1),.int β.j])) b (.lst [.ref l,.int (β.i+1),.int β.nxt])) b=on (.lst [.ref l,.int (β.i+1),.int β.nxt]):=ao;refine⟨_,rfl,b,_,_,_,rfl,rfl,SqL.of C,rfl,_,_,rfl,rfl,⟨by decide,by decide⟩,_,rfl,_,_,rfl,rfl,I,?_⟩;have T:jM β lot=β.nxt/64 % lot:=P5 big;have U:ld β lot=⟨β.cells,β.i+1,β.nxt⟩:=P5 big;rw[T,U]at k;refine k _ _ ⟨λc o u n=>by rw[upd_ne (n b l d).1,upd_ne (n b l d).1];exact u,occ (occ fr.occ),fr.bgA,λb' l' y=>?_⟩ rfl;rw[d]at y;cases y;exact⟨C,by rw[upd_ne m.symm,upd_ne m.symm];exact J⟩
theorem CC:FnScope ["_law_script"] ["_law_script"] (ag vY):=fsc
theorem nd1:(["_law_cell"]:List QO).Nodup:=by decide +kernel
theorem CS(N:Fns K mg a):FnOk P w K mg base (CXE P w) 1 a.Cd a.Cf ["_law_script"] (OP K):=by
 refine N.Hk.ok CC (λvs H Q E h=>?_) (λX A outer s H vs Q E hr h=>?_)
 ·obtain⟨a,ns,rfl,_⟩:=h
  rfl
 ·obtain⟨a,ns,rfl,Y,k⟩:=h
  refine⟨_,np (aq (fJ (fi (dX Mx (nq rfl (vars:=["_law_cell"]) (CmpScope.plain rfl (by decide +kernel) (by decide +kernel)) (KC (ul vV (pv 0) wb (wa bV)))
   (λcl C fp s H=>⟨we (i:=0) nd1 rfl (RH rfl),uk,λD=>aM rfl (lf EJ (by rfl) N.D0 PyProof.Rows.Boot.«abs» (fi (pv 0) jj)) rfl⟩)) (fJ (fi bV jj))) (fi bV (fi bV jj))))),?_⟩
  obtain⟨q,I,Z⟩:=PD ns;refine⟨_,rfl,63,rfl,a,_,rfl,Y,λp hp=>?_⟩;rw[I];have L:bQ H (upd H p (.lst (q.map V.int))):=bQ.upd hp;refine⟨p,rfl,⟨_,SqL.of ao⟩,λD B=>?_⟩;have r:D≠p:=λz=>by subst z;rw[ao]at B;cases B
  refine x4 (xs:=q.map V.int) (λi F g=>∃cs:List Int,(∃v,F=[v])/\cs.length=i/\(∀c∈cs,0<=c)/\g D=on (.lst (cs.map V.int))/\g p=on (.lst (q.map V.int))/\bQ H g) ⟨[],⟨_,rfl⟩,rfl,(λ_ h=>nomatch h),ao,by rw[upd_ne r.symm,ao],L.trans (bQ.upd B)⟩
   (λi F g _ ⟨_,_,_,_,_,e,_⟩=>SqL.of e) ?_ ?_
  ·rintro i x F g n ⟨cs,⟨v,rfl⟩,l,m,d,t,u⟩
   have hil:i<q.length:=by have:=(P4.mp n).1;rwa[PL]at this
   obtain⟨z,rfl⟩:∃z,x=V.int z:=by
    rw[PY]at n;cases e:q[i]? with
    |none=>rw[e]at n;cases n
    |some z=>rw[e]at n;exact⟨z,(QB n).symm⟩
   unfold fq LK;refine iteT ?_;refine⟨_,rfl,_,rfl,cs.map V.int,d,by rw[PL];exact rA (by omega),cs++[if z<0 then -z else z],⟨_,rfl⟩,by rw[Qm,l];rfl,λc hc=>?_,by rw[ao,QK];rfl,by rw[upd_ne r.symm];exact t,λb o e=>?_⟩
   ·rcases RC.mp hc with hc|hc
    ·exact m c hc
    ·obtain rfl:c=_:=by simpa using hc
     split<;>omega
   ·rw[upd_ne (az e (L.free B))]
    exact u b o e
  ·rintro F g ⟨cs,⟨v,rfl⟩,l,m,d,t,u⟩
   rw[PL]at l;refine⟨by decide,λO j=>⟨D,O,_,_,rfl,rfl,by rw[upd_ne (az d j)];exact d,ao,by rw[PL];exact VH (rA (by simp;omega)),λR y=>⟨(by show 3<=Qp;decide),λT f=>?_⟩⟩⟩;have U:bQ g (upd g O (.lst [V.int 1])):=bQ.upd j;have W:=U.trans (bQ.upd (o:= .lst (cs.map V.int++[V.int 1])) y);have J:R≠T:=λz=>by subst z;rw[ao]at f;cases f
   refine k T R _ ((u.trans W).free f) ((u.trans U).free y) ⟨cs++[1],0,0,ao,by rw[upd_ne J,ao,QK];rfl,by simp,by rw[Qm];simp;omega,λc hc=>?_,by decide⟩ ((u.trans W).trans (bQ.upd f));rcases RC.mp hc with hc|hc
   ·exact m c hc
   ·obtain rfl:c=1:=by simpa using hc
    decide
theorem hG(N:Fns K mg a):FB P w K mg base 2 "_law_pull" a.Cg a.Ch ["_law_bag_here","_law_lot"] 2 iR:=⟨zo P w base N,N.Ho,N.Hn.kp,N.Hq⟩
abbrev QF(K:Qo)(a:Ad)(k:Nat)(x:QO)(f:PZ)(d:Qu)(ps:List QO)(n:Nat):={m:List D->M D//∀(P:QG) (w:QT) {mg:QO->Option P0} (base:Rl) (N:Fns K mg a),FB P w K mg base k x f d ps n m}
abbrev QM(K:Qo)(a:Ad)(k:Nat)(f:PZ)(d:Qu)(ps:List QO)(n:Nat):={m:List D->M D//∀(P:QG) (w:QT) {mg:QO->Option P0} (base:Rl) (N:Fns K mg a),FnOk P w K mg base (CXE P w) k f d ps (spF K n m)}
theorem Kr:FnScope ["rows","columns","pair"] ["rows","columns","pair"] (ag yP):=fsc
def Ma(K:Qo)(a:Ad):QM K a 2 a.Af a.Ag ["rows","columns","pair"] 3:=⟨_,λP w mg base N=>by
 exact bi (k:=1) 3 3 _ N.En Kr rfl rfl λb A outer s H E d=>ah (aA (aq (bv rfl (cso ["row","pair","columns"] ["row"] [2,1]) (bT (by rfl) N.Ec (va1 (vv 0))) (λcl C c s H=>⟨(pgN 0 ndc),aR,λD=>aM rfl (bv rfl (cso ["column","pair"] ["column"] [1]) (bT (by rfl) N.Ec (va1 (vv 2))) (λcl C c s H=>⟨(pgN 0 ndc),aR,λD=>aM rfl (vv 1) rfl⟩) au aw (λD=>aQ)) rfl⟩) au aw (λD=>aQ))))⟩
theorem sB:FnScope ["rowsums","columnsums"] ["rowsums","columnsums"] (ag l8):=fsc
def jh(K:Qo)(a:Ad):QF K a 2 "check_sums" a.Ah a.Ai ["rowsums","columnsums"] 2:=⟨_,λP w mg base N=>⟨by
 exact bi (k:=1) 2 2 _ N.Er sB rfl rfl λb A outer s H E c=>ad (bz (fR (qz iP iP lC lC (aj) (bY N.D8 (va1 (vv 0))) (lW N.El))) (ah (cX)) (bo))
   (ad (bz (fR (qz iP iP lC lC (aj) (bY N.D8 (va1 (vv 1))) (lW N.Ek))) (ah (cX)) (bo))
   (ad (bz (dz (fY (eX (cz (jQ rfl) sM (by rfl) N.D3 PyProof.Rows.Boot.«any» (va1 (bv rfl (cso ["many"] ["many"] []) (bn (vv 0)) (λcl C d s H=>⟨(pgN 0 ndc),aR,λD=>aM rfl (iD iO lA (vv 0) (aj)) rfl⟩) au aw (λD=>aQ))))) (eE (eX (cz (jQ rfl) sM (by rfl) N.D3 PyProof.Rows.Boot.«any» (va1 (bv rfl (cso ["many"] ["many"] []) (bn (vv 1)) (λcl C d s H=>⟨(pgN 0 ndc),aR,λD=>aM rfl (iD iO lA (vv 0) (aj)) rfl⟩) au aw (λD=>aQ)))))))) (ah (cX)) (bo))
   (ad (bz (aS (cb c) cV (ic N.Eg (va1 (vv 0))) (ic N.Eg (va1 (vv 1)))) (ah (cX)) (bo))
   (ah (bz (aS pL uK (ic N.Eg (va1 (vv 0))) (lW N.Ej)) (ah (cX)) (bo)))))),N.Es,N.Er.kp,N.Et⟩⟩
theorem ii:FnScope ["pair","low","high"] ["pair"] (ag ma):=fsc
def ji(K:Qo)(a:Ad):QF K a 2 "check_pair" a.Aj a.Ak ["pair"] 1:=⟨_,λP w mg base N=>⟨by
 exact bi (k:=1) 1 3 _ N.Eu ii rfl rfl λb A outer s H E c=>ad (k6 (dD (aP ay (aP ay cN)) (aO (aO bZ))) (dN (vv 0) (bw rfl (ar (pgN 1 ii.nd) (ar (pgN 2 ii.nd) bp)))))
   (ah (bz (fR (BR iP iP iP lC lC lC (aj) (vv 1) (vv 2) (lW N.Ej))) (ah (cX)) (bo))),N.Ev,N.Eu.kp,N.Ew⟩⟩
theorem fE:FnScope ["bounds","rows","columns","pairs","pair"] ["bounds","rows","columns"] (ag jc):=fsc
def c5(K:Qo)(a:Ad):QF K a 3 "settled_bounds" a.Al a.Am ["bounds","rows","columns"] 3:=⟨_,λP w mg base N=>⟨by
 have c:=(Ma K a).2 P w base N;have b:=(ji K a).2 P w base N
 exact bi (k:=2) 3 5 _ N.Ex fE rfl rfl λf A outer s H E d=>ad (bz (aS uo xG (vv 0) (wS)) (ah (aA (aq (JS c (d.mono (by decide)) (by rfl) N.Eo N.En.kp N.Ep cq (va2 (vv 1) (vv 2)) (λδ β r e h=>by rw[(bq (bq aN0)) δ β r e h];rfl))))) (bo))
   (ad (bz (dz (fY (aS (cb d) cV (bY N.D8 (va1 (vv 0))) (vv 1)) (eE (eX (cz (jQ rfl) sM (by rfl) N.D3 PyProof.Rows.Boot.«any» (va1 (bv rfl (cso ["pairs","columns"] ["pairs"] [2]) (bn (vv 0)) (λcl C g s H=>⟨(pgN 0 ndc),aR,λD=>aM rfl (iD (cb d) cV (bY N.D8 (va1 (vv 0))) (vv 1)) rfl⟩) au aw (λD=>aQ)))))))) (ah (cX)) (bo))
   (ad (bG ay (br bW rfl (bn (vv 0)) (pgN 3 fE.nd) (ah (bG ay (br bW rfl (bn (vv 3)) (pgN 4 fE.nd) (ah (kn (dm (vc b d (va1 (vv 4)))))))))))
   (ah (aA (aq (bv rfl (cso ["pairs"] ["pairs"] []) (bn (vv 0)) (λcl C g s H=>⟨(pgN 0 ndc),aR,λD=>aM rfl (bS dO kI (by rfl) N.D9 PyProof.Rows.Boot.«list» (va1 (vv 0))) rfl⟩) au aw (λD=>aQ))))))),N.Ey,N.Ex.kp,N.Ez⟩⟩
theorem qE:FnScope ["rows"] ["rows"] (ag lM):=fsc
def dh(K:Qo)(a:Ad):QF K a 2 "rows_turned" a.An a.Ao ["rows"] 1:=⟨_,λP w mg base N=>⟨by
 exact bi (k:=1) 1 1 _ N.E2 qE rfl rfl λb A outer s H E d=>ah (aA (aq (bv rfl (cso ["column","rows"] ["column"] [0]) (bT (by rfl) N.Ec (va1 (bY N.D8 (va1 (bA aJ bF (vv 0) (aj)))))) (λcl C c s H=>⟨(pgN 0 ndc),aR,λD=>aM rfl (bv rfl (cso ["cells","column"] ["cells"] [0]) (bn (vv 1)) (λcl C c s H=>⟨(pgN 0 ndc),aR,λD=>aM rfl (bA aJ bF (vv 0) (vv 1)) rfl⟩) au aw (λD=>aQ)) rfl⟩) au aw (λD=>aQ)))),N.E3,N.E2.kp,N.E4⟩⟩
theorem gh:FnScope ["number","product","factor"] ["number"] (ag n9):=fsc
def jW(K:Qo)(a:Ad):QF K a 2 "factorial" a.Aq a.Ar ["number"] 1:=⟨_,λP w mg base N=>⟨by
 exact bi (k:=1) 1 3 _ N.E5 gh rfl rfl λb A outer s H E c=>ad (aE (psS 1 gh.nd (aj)))
   (ad (bG ay (br bW rfl (oO (by rfl) N.Ec (va2 (aj) (bc aW cf (vv 0) (aj)))) (pgN 2 gh.nd) (ah (e8 qO (dM (i:=1) gh.nd rfl (by first|exact RH rfl|exact Sw rfl) (vv 2) qR)))))
   (ah (aA (aq (vv 1))))),N.E6,N.E5.kp,N.E7⟩⟩
theorem j9:FnScope ["parts","part","told"] ["parts"] (ag yN):=fsc
def kz(K:Qo)(a:Ad):QF K a 3 "ways" a.As a.At ["parts"] 1:=⟨_,λP w mg base N=>⟨by
 have b:=(jW K a).2 P w base N
 exact bi (k:=2) 1 3 _ N.E8 j9 rfl rfl λd A outer s H E c=>ad (bG ay (br bW rfl (bn (vv 0)) (pgN 1 j9.nd) (ah (bz (aS iO lA (vv 1) (aj)) (ah (cX)) (bo)))))
   (ad (aE (psS 2 j9.nd (vc b c (va1 (cz (AQ rfl) MR (by rfl) N.Eg PyProof.Rows.Boot.«sum» (va1 (vv 0)))))))
   (ad (bG ay (br bW rfl (bn (vv 0)) (pgN 1 j9.nd) (ah (e8 uJ (dM (i:=2) j9.nd rfl (by first|exact RH rfl|exact Sw rfl) (vc b c (va1 (vv 1))) wu)))))
   (ah (aA (aq (vv 2)))))),N.E9,N.E8.kp,N.Fa⟩⟩
theorem cW:FnScope ["rests","many","pairs","lows","tops","begun","row","fewest_behind","most_behind"] ["rests","many","pairs"] (ag pB):=fsc
def k9(K:Qo)(a:Ad):QF K a 2 "fillings" a.Au a.Av ["rests","many","pairs"] 3:=⟨_,λP w mg base N=>⟨by
 exact bi (k:=1) 3 9 _ N.Fb cW rfl rfl λc A outer s H E d=>ad (aE (psS 3 cW.nd (bv rfl (cso ["low","high"] ["low","high"] []) (bn (vv 2)) (λcl C b s H=>⟨(bw rfl (ar (pgN 0 ndc) (ar (pgN 1 ndc) bp))),aR,λD=>aM rfl (vv 0) rfl⟩) (d5 (aX au (aX au dn)) (aU (aU cS))) (d4 (aV aw (aV aw dg))) (λD=>aQ))))
   (ad (aE (psS 4 cW.nd (bv rfl (cso ["rest","low","high"] ["rest","low","high"] []) (qc (by rfl) N.Ei (va2 (vv 0) (vv 2))) (λcl C b s H=>⟨(bw rfl (ar (pgN 0 ndc) (ar (bw rfl (ar (pgN 1 ndc) (ar (pgN 2 ndc) bp))) bp))),aR,λD=>aM rfl (cz (mR rfl) xF (by rfl) N.Eb PyProof.Rows.Boot.«min» (va2 (vv 0) (vv 2))) rfl⟩) (d5 (aX au (aX (d5 (aX au (aX au dn)) (aU (aU cS))) dn)) (aU (aU cS))) (d4 (aV aw (aV (d4 (aV aw (aV aw dg))) dg))) (λD=>aQ))))
   (ad (aE (psS 5 cW.nd (eF (va1 (cJ (va2 (cJ (gf)) (vv 1)))))))
   (ad (bG ay (br bW rfl (bT (by rfl) N.Ec (va1 (bY N.D8 (va1 (vv 0))))) (pgN 6 cW.nd) (ad (aE (psS 7 cW.nd (ic N.Eg (va1 (vK (vv 3) (zu (bc aW cf (vv 6) (aj))) (zw))))))
   (ad (aE (psS 8 cW.nd (ic N.Eg (va1 (vK (vv 4) (zu (bc aW cf (vv 6) (aj))) (zw))))))
   (ah (pp (i:=5) cW.nd rfl (by first|exact RH rfl|exact Sw rfl) rfl (cso ["counts","left","count","lows","row","most_behind","tops","fewest_behind"] ["counts","left","count"] [3,6,8,4,7]) (bn (vv 5)) (λcl C b s H=>⟨(bw rfl (ar (pgN 0 ndc) (ar (pgN 1 ndc) bp))),aR,λD=>qL rfl rfl rfl (oO (by rfl) N.Ec (va2 (cz (sf rfl) IO (by rfl) N.Ea PyProof.Rows.Boot.«max» (va2 (bA aJ bF (vv 3) (vv 4)) (bc gj iT (vv 1) (vv 5)))) (bc aW cf (cz (mR rfl) xF (by rfl) N.Eb PyProof.Rows.Boot.«min» (va2 (bA aJ bF (vv 6) (vv 4)) (bc gj iT (vv 1) (vv 7)))) (aj)))) (pgN 2 ndc) (aR) (aM rfl (cJ (va2 (bc aW cf (vv 0) (cJ (va1 (vv 2)))) (bc gj iT (vv 1) (vv 2)))) rfl)⟩) (d5 (aX au (aX au dn)) (aU (aU cS))) (d4 (aV aw (aV aw dg))) (λD=>K5 au aw (aQ))))))))
   (ah (aA (aq (bv rfl (cso ["counts","left"] ["counts","left"] []) (bn (vv 5)) (λcl C b s H=>⟨(bw rfl (ar (pgN 0 ndc) (ar (pgN 1 ndc) bp))),sV (aS (fK d) gT (vv 1) (aj)),λD=>aM rfl (vv 0) rfl⟩) (d5 (aX au (aX au dn)) (aU (aU cS))) (d4 (aV aw (aV aw dg))) (λD=>aQ)))))))),N.Fc,N.Fb.kp,N.Fd⟩⟩
theorem xg:FnScope ["rowsums","over"] ["rowsums","over"] (ag rE):=fsc
def ml(K:Qo)(a:Ad):QF K a 2 "need_of" a.Aw a.Ax ["rowsums","over"] 2:=⟨_,λP w mg base N=>⟨by
 exact bi (k:=1) 2 2 _ N.Fe xg rfl rfl λb A outer s H E c=>ah (aA (aq (ic N.Eg (va1 (bv rfl (cso ["row","rowsums"] ["row"] [0]) (bn (vv 1)) (λcl C d s H=>⟨(pgN 0 ndc),aR,λD=>aM rfl (bA aJ bF (vv 1) (vv 0)) rfl⟩) au aw (λD=>aQ)))))),N.Ff,N.Fe.kp,N.Fg⟩⟩
theorem kg:FnScope ["columnsums","bounds","over","column","lows"] ["columnsums","bounds","over","column"] (ag lN):=fsc
def di(K:Qo)(a:Ad):QF K a 2 "room_inside" a.Ay a.Az ["columnsums","bounds","over","column"] 4:=⟨_,λP w mg base N=>⟨by
 exact bi (k:=1) 4 5 _ N.Fh kg rfl rfl λb A outer s H E c=>ad (pp (i:=4) kg.nd rfl (by first|exact RH rfl|exact Sw rfl) rfl (cso ["row","pairs","over","column"] ["row","pairs"] [2,3]) (kK (by rfl) N.D5 (va1 (vv 1))) (λcl C d s H=>⟨(bw rfl (ar (pgN 0 ndc) (ar (pgN 1 ndc) bp))),sV (aS mq (DQ (neg:=PQ)) (vv 0) (vv 2)),λD=>aM rfl (bA aJ bF (bA aJ bF (vv 1) (vv 3)) (aj)) rfl⟩) (d5 (aX au (aX au dn)) (aU (aU cS))) (d4 (aV aw (aV aw dg))) (λD=>aQ))
   (ah (aA (aq (bc gj iT (bA aJ bF (vv 0) (vv 3)) (ic N.Eg (va1 (vv 4))))))),N.Fi,N.Fh.kp,N.Fj⟩⟩
theorem qF:FnScope ["bounds","over","column"] ["bounds","over","column"] (ag lO):=fsc
def dj(K:Qo)(a:Ad):QF K a 2 "room_beside" a.A0 a.A1 ["bounds","over","column"] 3:=⟨_,λP w mg base N=>⟨by
 exact bi (k:=1) 3 3 _ N.Fk qF rfl rfl λb A outer s H E c=>ah (aA (aq (ic N.Eg (va1 (bv rfl (cso ["row","bounds","column"] ["row"] [0,2]) (bn (vv 1)) (λcl C d s H=>⟨(pgN 0 ndc),aR,λD=>aM rfl (bA aJ bF (bA aJ bF (bA aJ bF (vv 1) (vv 0)) (vv 2)) (aj)) rfl⟩) au aw (λD=>aQ)))))),N.Fl,N.Fk.kp,N.Fm⟩⟩
theorem xf:FnScope ["columnsums","bounds","over","into"] ["columnsums","bounds","over","into"] (ag rD):=fsc
def mj(K:Qo)(a:Ad):QF K a 3 "room_of" a.A2 a.A3 ["columnsums","bounds","over","into"] 4:=⟨_,λP w mg base N=>⟨by
 have b:=(di K a).2 P w base N;have c:=(dj K a).2 P w base N;exact bi (k:=2) 4 4 _ N.Fn xf rfl rfl λe A outer s H E d=>ah (aA (aq (ic N.Eg (va1 (bv rfl (cso ["column","into","columnsums","bounds","over"] ["column"] [3,0,1,2]) (bT (by rfl) N.Ec (va1 (bY N.D8 (va1 (vv 0))))) (λcl C f s H=>⟨(pgN 0 ndc),aR,λD=>aM rfl (v_if (aS zk (DQ (neg:=PX)) (vv 0) (vv 1)) (vc b d (va4 (vv 2) (vv 3) (vv 4) (vv 0))) (vc c d (va3 (vv 3) (vv 4) (vv 0)))) rfl⟩) au aw (λD=>aQ)))))),N.Fo,N.Fn.kp,N.Fp⟩⟩
theorem tT:FnScope ["columnsums","bounds","over"] ["columnsums","bounds","over"] (ag nZ):=fsc
def jV(K:Qo)(a:Ad):QF K a 3 "narrowest" a.A4 a.A5 ["columnsums","bounds","over"] 3:=⟨_,λP w mg base N=>⟨by
 have b:=(di K a).2 P w base N;have c:=(dj K a).2 P w base N;exact bi (k:=2) 3 3 _ N.Fq tT rfl rfl λe A outer s H E d=>ah (aA (aq (bv rfl (cso ["column","columnsums","bounds","over"] ["column"] [0,1,2]) (bT (by rfl) N.Ec (va1 (bY N.D8 (va1 (vv 0))))) (λcl C f s H=>⟨(pgN 0 ndc),sV (aS iO lA (vc b d (va4 (vv 1) (vv 2) (vv 3) (vv 0))) (vc c d (va3 (vv 2) (vv 3) (vv 0)))),λD=>aM rfl (vv 0) rfl⟩) au aw (λD=>aQ)))),N.Fs,N.Fq.kp,N.Ft⟩⟩
theorem iG:FnScope ["many","told","number"] ["many"] (ag rG):=fsc
def mn(K:Qo)(a:Ad):QF K a 2 "choices" a.A6 a.A7 ["many"] 1:=⟨_,λP w mg base N=>⟨by
 exact bi (k:=1) 1 3 _ N.Fu iG rfl rfl λb A outer s H E c=>ad (aE (psS 1 iG.nd (eF (va1 (eF (gf))))))
   (ad (bG ay (br bW rfl (bT (by rfl) N.Ec (va1 (vv 0))) (pgN 2 iG.nd) (ah (aE (psS 1 iG.nd (bc aW cf (vv 1) (bv rfl (cso ["chosen","number"] ["chosen"] [2]) (bn (vv 1)) (λcl C d s H=>⟨(pgN 0 ndc),aR,λD=>aM rfl (bc aW cf (vv 0) (eF (va1 (vv 1)))) rfl⟩) au aw (λD=>aQ))))))))
   (ah (aA (aq (vv 1))))),N.Fv,N.Fu.kp,N.Fw⟩⟩
theorem i9:FnScope ["rowsums","columnsums","bounds","over","into"] ["rowsums","columnsums","bounds"] (ag oh):=fsc
def fI(K:Qo)(a:Ad):QF K a 4 "check_fit" a.A8 a.A9 ["rowsums","columnsums","bounds"] 3:=⟨_,λP w mg base N=>⟨by
 have c:=(mn K a).2 P w base N;have b:=(jV K a).2 P w base N;have d:=(ml K a).2 P w base N;have e:=(mj K a).2 P w base N
 exact bi (k:=3) 3 5 _ N.Fy i9 rfl rfl λg A outer s H E f=>ah (bG ay (br bW rfl (bn (vc c f (va1 (bY N.D8 (va1 (vv 0)))))) (pgN 3 i9.nd) (ad (aE (psS 4 i9.nd (vc b f (va3 (vv 1) (vv 2) (vv 3)))))
   (ah (bz (aS pL uK (vc d f (va2 (vv 0) (vv 3))) (vc e f (va4 (vv 1) (vv 2) (vv 3) (vv 4)))) (ah (cX)) (bo)))))),N.Fz,N.Fy.kp,N.F4⟩⟩
theorem fV:FnScope ["rowsums","wide","many"] ["rowsums"] (ag l7):=fsc
def jg(K:Qo)(a:Ad):QF K a 2 "check_wide" a.Ba a.Bb ["rowsums"] 1:=⟨_,λP w mg base N=>⟨by
 exact bi (k:=1) 1 3 _ N.F5 fV rfl rfl λb A outer s H E c=>ad (aE (psS 1 fV.nd (aj)))
   (ad (bG ay (br bW rfl (bn (vv 0)) (pgN 2 fV.nd) (ah (e8 qO (dM (i:=1) fV.nd rfl (by first|exact RH rfl|exact Sw rfl) (bc aW cf (vv 2) (aj)) qR)))))
   (ah (bz (aS pL uK (vv 1) (lW N.Em)) (ah (cX)) (bo)))),N.F6,N.F5.kp,N.F7⟩⟩
theorem gX:FnScope ["rowsums","columnsums","bounds","settled"] ["rowsums","columnsums","bounds"] (ag iz):=fsc
def dI(K:Qo)(a:Ad):QF K a 4 "settled_for_net" a.Bc a.Bd ["rowsums","columnsums","bounds"] 3:=⟨_,λP w mg base N=>⟨by
 have c:=(jh K a).2 P w base N;have b:=(c5 K a).2 P w base N;have d:=(jg K a).2 P w base N
 exact bi (k:=3) 3 4 _ N.F8 gX rfl rfl λf A outer s H E e=>ad (kn (dm (vc c e (va2 (vv 0) (vv 1)))))
   (ad (aE (psS 3 gX.nd (vc b e (va3 (vv 2) (bY N.D8 (va1 (vv 0))) (bY N.D8 (va1 (vv 1)))))))
   (ad (kn (dm (vc d e (va1 (vv 0)))))
   (ah (aA (aq (vv 3)))))),N.F9,N.F8.kp,N.Ga⟩⟩
theorem l6:FnScope ["rests","columnsums","bounds","column"] ["rests","columnsums","bounds","column"] (ag iA):=fsc
def cj(K:Qo)(a:Ad):QF K a 3 "column_fillings" a.Be a.Bf ["rests","columnsums","bounds","column"] 4:=⟨_,λP w mg base N=>⟨by
 have b:=(k9 K a).2 P w base N;exact bi (k:=2) 4 4 _ N.Gb l6 rfl rfl λc A outer s H E d=>ah (aA (aq (vc b d (va3 (vv 0) (bA aJ bF (vv 1) (vv 3)) (bv rfl (cso ["pairs","column"] ["pairs"] [3]) (bn (vv 2)) (λcl C e s H=>⟨(pgN 0 ndc),aR,λD=>aM rfl (bA aJ bF (vv 0) (vv 1)) rfl⟩) au aw (λD=>aQ)))))),N.Gc,N.Gb.kp,N.Gd⟩⟩
theorem pf:FnScope ["rests","counts"] ["rests","counts"] (ag kh):=fsc
def bD(K:Qo)(a:Ad):QF K a 2 "rests_behind" a.Bh a.Bi ["rests","counts"] 2:=⟨_,λP w mg base N=>⟨by
 exact bi (k:=1) 2 2 _ N.Ge pf rfl rfl λb A outer s H E c=>ah (aA (aq (bS bR fj (by rfl) N.Eh PyProof.Rows.Boot.«tuple» (va1 (bv rfl (cso ["rest","count"] ["rest","count"] []) (qc (by rfl) N.Ei (va2 (vv 0) (vv 1))) (λcl C d s H=>⟨(bw rfl (ar (pgN 0 ndc) (ar (pgN 1 ndc) bp))),aR,λD=>aM rfl (bc gj iT (vv 0) (vv 1)) rfl⟩) (d5 (aX au (aX au dn)) (aU (aU cS))) (d4 (aV aw (aV aw dg))) (λD=>aQ)))))),N.Gf,N.Ge.kp,N.Gg⟩⟩
theorem ci:FnScope ["rowsums","columnsums","bounds","here","told","column","behind"] ["rowsums","columnsums","bounds"] (ag jd):=fsc
def f7(K:Qo)(a:Ad):QF K a 4 "nodes_by_level" a.Bj a.Bk ["rowsums","columnsums","bounds"] 3:=⟨_,λP w mg base N=>⟨by
 have c:=(bD K a).2 P w base N;have b:=(cj K a).2 P w base N
 exact bi (k:=3) 3 7 _ N.Gh ci rfl rfl λe A outer s H E d=>ad (aE (psS 3 ci.nd (eF (va1 (bS bR fj (by rfl) N.Eh PyProof.Rows.Boot.«tuple» (va1 (vv 0)))))))
   (ad (ng (psS 4 ci.nd (fJ (va1 (vv 3)))))
   (ad (bG ay (br bW rfl (bT (by rfl) N.Ec (va1 (bY N.D8 (va1 (vv 1))))) (pgN 5 ci.nd) (ad (aE (psS 6 ci.nd (BN (by rfl) N.Ee rfl (cso ["rests","counts","columnsums","bounds","column"] ["rests","counts"] [1,2,5]) (bn (vv 3)) (λcl C f s H=>⟨(pgN 0 ndc),aR,λD=>qL rfl rfl rfl (bn (vc b d (va4 (vv 0) (vv 2) (vv 3) (vv 4)))) (pgN 1 ndc) (aR) (um (sR d) rfl (vc c d (va2 (vv 0) (vv 1))) rfl)⟩) au aw (λD=>oI au aw (DM)))))
   (ad (nk (dm (ny Sv Sa Sb gb (pv 4) (va1 (vv 6)))))
   (ah (aE (psS 3 ci.nd (vv 6))))))))
   (ah (aA (aq (vv 4)))))),N.Gi,N.Gh.kp,N.Gj⟩⟩
theorem bU:FnScope ["rests","filled","behind","tables","dealings","counts","tables_behind","dealings_behind"] ["rests","filled","behind"] (ag lP):=fsc
def ik(K:Qo)(a:Ad):QF K a 4 "node_counts" a.Bl a.Bm ["rests","filled","behind"] 3:=⟨_,λP w mg base N=>⟨by
 have b:=(bD K a).2 P w base N;have c:=(kz K a).2 P w base N
 exact bi (k:=3) 3 8 _ N.Gk bU rfl rfl λe A outer s H E d=>ad (aE (psS 3 bU.nd (aj)))
   (ad (aE (psS 4 bU.nd (aj)))
   (ad (bG ay (br bW rfl (bn (vv 1)) (pgN 5 bU.nd) (ad (k6 (dD (aP ay (aP ay cN)) (aO (aO bZ))) (dN (bA (zW (hu2 d)) Pf (vv 2) (vc b d (va2 (vv 0) (vv 5)))) (bw rfl (ar (pgN 6 bU.nd) (ar (pgN 7 bU.nd) bp)))))
   (ad (e8 gH (dM (i:=3) bU.nd rfl (by first|exact RH rfl|exact Sw rfl) (vv 6) jp))
   (ah (e8 gH (dM (i:=4) bU.nd rfl (by first|exact RH rfl|exact Sw rfl) (bc gD lz (vc c d (va1 (vv 5))) (vv 7)) jp)))))))
   (ah (aA (aq (cJ (va2 (vv 3) (vv 4)))))))),N.Gm,N.Gk.kp,N.Gn⟩⟩
theorem bJ:FnScope ["rowsums","columnsums","bounds","levels","last","here","told","level","behind"] ["rowsums","columnsums","bounds"] (ag jE):=fsc
def eG(K:Qo)(a:Ad):QF K a 5 "counted_nodes" a.Bn a.Bo ["rowsums","columnsums","bounds"] 3:=⟨_,λP w mg base N=>⟨by
 have d:=(f7 K a).2 P w base N;have c:=(cj K a).2 P w base N;have e:=(ik K a).2 P w base N
 exact bi (k:=4) 3 9 _ N.Go bJ rfl rfl λh A outer s H E f=>ad (aE (psS 3 bJ.nd (vc d f (va3 (vv 0) (vv 1) (vv 2)))))
   (ad (aE (psS 4 bJ.nd (bY N.D8 (va1 (vv 1)))))
   (ad (yO (kb:=PX) (i:=5) bJ.nd rfl (by first|exact RH rfl|exact Sw rfl) rfl (cso ["rests"] ["rests"] []) (bn (bA aJ bF (vv 3) (vv 4))) (λcl C g s H=>⟨(pgN 0 ndc),aR,λD=>lh (b:=PX) (sR f) rfl (vv 0) (cJ (va2 (aj) (aj))) rfl⟩) au aw (λD=>oJ))
   (ad (ng (psS 6 bJ.nd (fJ (va1 (vv 5)))))
   (ad (bG ay (br bW rfl (DX (by rfl) N.Ed (by rfl) N.Ec (va1 (vv 4))) (pgN 7 bJ.nd) (ad (aE (psS 8 bJ.nd (vv 5)))
   (ad (yO (kb:=PX) (i:=5) bJ.nd rfl (by first|exact RH rfl|exact Sw rfl) rfl (cso ["rests","columnsums","bounds","level","behind"] ["rests"] [1,2,7,8]) (bn (bA aJ bF (vv 3) (vv 7))) (λcl C g s H=>⟨(pgN 0 ndc),aR,λD=>lh (b:=PX) (sR f) rfl (vv 0) (vc e f (va3 (vv 0) (vc c f (va4 (vv 0) (vv 1) (vv 2) (vv 3))) (vv 4))) rfl⟩) au aw (λD=>oJ))
   (ah (nk (dm (ny Sv Sa Sb gb (pv 6) (va1 (vv 5))))))))))
   (ah (aA (aq (JR (kb:=PQ) rfl (cso ["level","nodes","rests","counts"] ["level","nodes","rests","counts"] []) (kK (by rfl) N.D5 (va1 (OH (vv 6) (v_un LA Pa (aj))))) (λcl C g s H=>⟨(bw rfl (ar (pgN 0 ndc) (ar (pgN 1 ndc) bp))),aR,λD=>qL rfl rfl rfl (Ld (vv 1)) (bw rfl (ar (pgN 2 ndc) (ar (pgN 3 ndc) bp))) (aR) (lh (b:=PQ) (sR f) rfl (cJ (va2 (vv 0) (vv 2))) (vv 3) rfl)⟩) (d5 (aX au (aX au dn)) (aU (aU cS))) (d4 (aV aw (aV aw dg))) (λD=>oI (d5 (aX au (aX au dn)) (aU (aU cS))) (d4 (aV aw (aV aw dg))) (oJ)))))))))),N.Gp,N.Go.kp,N.Gq⟩⟩
theorem pi:FnScope ["k","many"] ["k","many"] (ag kq):=fsc
def gC(K:Qo)(a:Ad):QF K a 2 "check_number" a.Bp a.Bq ["k","many"] 2:=⟨_,λP w mg base N=>⟨by
 exact bi (k:=1) 2 2 _ N.Gr pi rfl rfl λb A outer s H E c=>ah (bz (fR (qz iP iO lC lA (aj) (vv 0) (vv 1))) (ah (cX)) (bo)),N.Gs,N.Gr.kp,N.Gu⟩⟩
theorem oB:FnScope ["self","level","rests"] ["self","level","rests"] (ag jH):=fsc
def dB(K:Qo)(a:Ad):QM K a 2 a.Dj a.Dm ["self","level","rests"] 3:=⟨_,λP w mg base N=>by
 exact bi (k:=1) 3 3 _ N.Jv oB rfl rfl λb A outer s H E c=>ah (aA (aq (OJ (hu2 c) (iC N.Ka N.Kd (vv 0)) (va2 (cJ (va2 (vv 1) (vv 2))) (cJ (va2 (aj) (aj)))))))⟩
theorem tX:FnScope ["self","level","rests"] ["self","level","rests"] (ag oi):=fsc
def jX(K:Qo)(a:Ad):QM K a 4 a.Dt a.Du ["self","level","rests"] 3:=⟨_,λP w mg base N=>by
 have b:=(cj K a).2 P w base N;have d:=(bD K a).2 P w base N;have c:=(dB K a).2 P w base N
 exact bi (k:=3) 3 3 _ N.J4 tX rfl rfl λg A outer s H E e=>ad (bz (dz (fY (aS (wg (hu2 e)) O9 (cJ (va2 (vv 1) (vv 2))) (iC N.Ka N.Kd (vv 0))) (eE (aS (fK e) gT (vv 1) (bY N.D8 (va1 (iC N.Ka N.Kc (vv 0)))))))) (ah (aA (aq (eF (gf))))) (bo))
   (ah (aA (aq (bv rfl (cso ["counts","self","level","rests"] ["counts"] [0,1,2]) (bn (vc b e (va4 (vv 2) (iC N.Ka N.Kc (vv 0)) (iC N.Ka N.Ke (vv 0)) (vv 1)))) (λcl C i s H=>⟨(pgN 0 ndc),sV (aS pL uK (bA aJ bF (lV N.Ka N.Jw c (e.mono (by decide)) (bP.nil N.Jx) sJ (vv 1) (va2 (bc aW cf (vv 2) (aj)) (vc d e (va2 (vv 3) (vv 0)))) (λδ β r f h=>by rw[(bq (bq aN0)) δ β r f h];rfl)) (aj)) (aj)),λD=>aM rfl (vv 0) rfl⟩) au aw (λD=>aQ)))))⟩
theorem cY:FnScope ["net","level","rests","told","counts","tables","dealings"] ["net","level","rests"] (ag jD):=fsc
def dA(K:Qo)(a:Ad):QF K a 5 "steps_counted" a.Br a.Bs ["net","level","rests"] 3:=⟨_,λP w mg base N=>⟨by
 have d:=(jX K a).2 P w base N;have c:=(bD K a).2 P w base N;have b:=(dB K a).2 P w base N;have e:=(kz K a).2 P w base N
 exact bi (k:=4) 3 7 _ N.Gv cY rfl rfl λi A outer s H E g=>ad (ng (psS 3 cY.nd (fJ (gf))))
   (ad (bG ay (br bW rfl (bn (lV N.Ka N.J5 d (g.mono (by decide)) (bP.nil N.J6) cq (vv 0) (va2 (vv 1) (vv 2)) (λδ β r f h=>by rw[(bq (bq aN0)) δ β r f h];rfl))) (pgN 4 cY.nd) (ad (k6 (dD (aP ay (aP ay cN)) (aO (aO bZ))) (dN (lV N.Ka N.Jw b (g.mono (by decide)) (bP.nil N.Jx) cq (vv 0) (va2 (bc aW cf (vv 1) (aj)) (vc c g (va2 (vv 2) (vv 4)))) (λδ β r f h=>by rw[(bq (bq aN0)) δ β r f h];rfl)) (bw rfl (ar (pgN 5 cY.nd) (ar (pgN 6 cY.nd) bp)))))
   (ah (nk (dm (ny Sv Sa Sb gb (pv 3) (va1 (cJ (va3 (vv 4) (vv 5) (bc gD lz (vc e g (va1 (vv 4))) (vv 6))))))))))))
   (ah (aA (aq (vv 3))))),N.Gx,N.Gv.kp,N.Gy⟩⟩
theorem gM:FnScope ["numbered","k","at"] ["numbered","k"] (ag pC):=fsc
def iN(K:Qo)(a:Ad):QF K a 2 "falls_to" a.Bt a.Bu ["numbered","k"] 2:=⟨_,λP w mg base N=>⟨by
 exact bi (k:=1) 2 3 _ N.Gz gM rfl rfl λb A outer s H E c=>ad (aE (psS 2 gM.nd (aj)))
   (ad (Ks bW (aS II l_ge (vv 1) (bA aJ bF (bA aJ bF (vv 0) (vv 2)) (aj))) (ad (e8 K6 (dM (i:=1) gM.nd rfl (by first|exact RH rfl|exact Sw rfl) (bA aJ bF (bA aJ bF (vv 0) (vv 2)) (aj)) MZ))
   (ah (e8 gH (dM (i:=2) gM.nd rfl (by first|exact RH rfl|exact Sw rfl) (aj) jp)))))
   (ah (aA (aq (cJ (va2 (bA aJ bF (bA aJ bF (vv 0) (vv 2)) (aj)) (vv 1))))))),N.G0,N.Gz.kp,N.G1⟩⟩
theorem sC:FnScope ["self"] ["self"] (ag md):=fsc
def gi(K:Qo)(a:Ad):QM K a 3 a.Dh a.Di ["self"] 1:=⟨_,λP w mg base N=>by
 have b:=(dB K a).2 P w base N;exact bi (k:=2) 1 1 _ N.Js sC rfl rfl λd A outer s H E e=>ah (aA (aq (bA aJ bF (lV N.Ka N.Jw b (e.mono (by decide)) (bP.nil N.Jx) cq (vv 0) (va2 (aj) (bS bR fj (by rfl) N.Eh PyProof.Rows.Boot.«tuple» (va1 (iC N.Ka N.Kf (vv 0))))) (λδ β r c h=>by rw[(bq (bq aN0)) δ β r c h];rfl)) (aj))))⟩
theorem qG:FnScope ["self"] ["self"] (ag lS):=fsc
def cT(K:Qo)(a:Ad):QM K a 2 a.Do a.Dp ["self"] 1:=⟨_,λP w mg base N=>by
 exact bi (k:=1) 1 1 _ N.Jy qG rfl rfl λb A outer s H E c=>ah (aA (aq (bS dO kI (by rfl) N.D9 PyProof.Rows.Boot.«list» (va1 (iC N.Ka N.Kf (vv 0))))))⟩
theorem nX:FnScope ["self"] ["self"] (ag je):=fsc
def dU(K:Qo)(a:Ad):QM K a 2 a.Dq a.Dr ["self"] 1:=⟨_,λP w mg base N=>by
 exact bi (k:=1) 1 1 _ N.J1 nX rfl rfl λb A outer s H E c=>ah (aA (aq (bS dO kI (by rfl) N.D9 PyProof.Rows.Boot.«list» (va1 (iC N.Ka N.Kc (vv 0))))))⟩
theorem cL:FnScope ["net","k","rests","columns","level","numbered","filling"] ["net","k"] (ag n6):=fsc
def gQ(K:Qo)(a:Ad):QF K a 6 "kth_table" a.Bv a.Bw ["net","k"] 2:=⟨_,λP w mg base N=>⟨by
 have h:=(gi K a).2 P w base N;have d:=(gC K a).2 P w base N;have f:=(cT K a).2 P w base N;have b:=(dU K a).2 P w base N;have c:=(dA K a).2 P w base N;have j:=(iN K a).2 P w base N;have e:=(bD K a).2 P w base N;have g:=(dh K a).2 P w base N
 exact bi (k:=5) 2 7 _ N.G2 cL rfl rfl λm A outer s H E l=>ad (kn (dm (vc d l (va2 (vv 1) (cM N.Ka N.Jt h (l.mono (by decide)) (bP.nil N.Ju) cq (vv 0) rfl)))))
   (ad (aE (psS 2 cL.nd (bS bR fj (by rfl) N.Eh PyProof.Rows.Boot.«tuple» (va1 (cM N.Ka N.Jz f (l.mono (by decide)) (bP.nil N.J0) cq (vv 0) rfl)))))
   (ad (ng (psS 3 cL.nd (fJ (gf))))
   (ad (bG ay (br bW rfl (bT (by rfl) N.Ec (va1 (bY N.D8 (va1 (cM N.Ka N.J2 b (l.mono (by decide)) (bP.nil N.J3) cq (vv 0) rfl))))) (pgN 4 cL.nd) (ad (pp (i:=5) cL.nd rfl (by first|exact RH rfl|exact Sw rfl) rfl (cso ["counts","tables","dealings"] ["counts","tables","dealings"] []) (bn (vc c l (va3 (vv 0) (vv 4) (vv 2)))) (λcl C n s H=>⟨(bw rfl (ar (pgN 0 ndc) (ar (pgN 1 ndc) (ar (pgN 2 ndc) bp)))),aR,λD=>aM rfl (cJ (va2 (vv 0) (vv 1))) rfl⟩) (d5 (aX au (aX au (aX au dn))) (aU (aU (aU cS)))) (d4 (aV aw (aV aw (aV aw dg)))) (λD=>aQ))
   (ad (k6 (dD (aP ay (aP ay cN)) (aO (aO bZ))) (dN (vc j l (va2 (vv 5) (vv 1))) (bw rfl (ar (pgN 6 cL.nd) (ar (pgN 1 cL.nd) bp)))))
   (ad (nk (dm (ny Sv Sa Sb gb (pv 3) (va1 (vv 6)))))
   (ah (aE (psS 2 cL.nd (vc e l (va2 (vv 2) (vv 6)))))))))))
   (ah (aA (aq (vc g l (va1 (vv 3))))))))),N.G3,N.G2.kp,N.G4⟩⟩
theorem pk:FnScope ["self"] ["self"] (ag kr):=fsc
def ff(K:Qo)(a:Ad):QM K a 3 a.Dv a.Dw ["self"] 1:=⟨_,λP w mg base N=>by
 have b:=(dB K a).2 P w base N;exact bi (k:=2) 1 1 _ N.J7 pk rfl rfl λd A outer s H E e=>ah (aA (aq (bA aJ bF (lV N.Ka N.Jw b (e.mono (by decide)) (bP.nil N.Jx) cq (vv 0) (va2 (aj) (bS bR fj (by rfl) N.Eh PyProof.Rows.Boot.«tuple» (va1 (iC N.Ka N.Kf (vv 0))))) (λδ β r c h=>by rw[(bq (bq aN0)) δ β r c h];rfl)) (aj))))⟩
theorem bL:FnScope ["net","k","rests","columns","level","numbered","filling"] ["net","k"] (ag lR):=fsc
def fW(K:Qo)(a:Ad):QF K a 6 "kth_dealing" a.Bx a.By ["net","k"] 2:=⟨_,λP w mg base N=>⟨by
 have d:=(ff K a).2 P w base N;have e:=(gC K a).2 P w base N;have g:=(cT K a).2 P w base N;have b:=(dU K a).2 P w base N;have c:=(dA K a).2 P w base N;have j:=(iN K a).2 P w base N;have l:=(kz K a).2 P w base N;have f:=(bD K a).2 P w base N;have h:=(dh K a).2 P w base N
 exact bi (k:=5) 2 7 _ N.G5 bL rfl rfl λn A outer s H E m=>ad (kn (dm (vc e m (va2 (vv 1) (cM N.Ka N.J8 d (m.mono (by decide)) (bP.nil N.J9) cq (vv 0) rfl)))))
   (ad (aE (psS 2 bL.nd (bS bR fj (by rfl) N.Eh PyProof.Rows.Boot.«tuple» (va1 (cM N.Ka N.Jz g (m.mono (by decide)) (bP.nil N.J0) cq (vv 0) rfl)))))
   (ad (ng (psS 3 bL.nd (fJ (gf))))
   (ad (bG ay (br bW rfl (bT (by rfl) N.Ec (va1 (bY N.D8 (va1 (cM N.Ka N.J2 b (m.mono (by decide)) (bP.nil N.J3) cq (vv 0) rfl))))) (pgN 4 bL.nd) (ad (pp (i:=5) bL.nd rfl (by first|exact RH rfl|exact Sw rfl) rfl (cso ["counts","tables","dealings"] ["counts","tables","dealings"] []) (bn (vc c m (va3 (vv 0) (vv 4) (vv 2)))) (λcl C o s H=>⟨(bw rfl (ar (pgN 0 ndc) (ar (pgN 1 ndc) (ar (pgN 2 ndc) bp)))),aR,λD=>aM rfl (cJ (va2 (vv 0) (vv 2))) rfl⟩) (d5 (aX au (aX au (aX au dn))) (aU (aU (aU cS)))) (d4 (aV aw (aV aw (aV aw dg)))) (λD=>aQ))
   (ad (k6 (dD (aP ay (aP ay cN)) (aO (aO bZ))) (dN (vc j m (va2 (vv 5) (vv 1))) (bw rfl (ar (pgN 6 bL.nd) (ar (pgN 1 bL.nd) bp)))))
   (ad (e8 uJ (dM (i:=1) bL.nd rfl (by first|exact RH rfl|exact Sw rfl) (vc l m (va1 (vv 6))) wu))
   (ad (nk (dm (ny Sv Sa Sb gb (pv 3) (va1 (vv 6)))))
   (ah (aE (psS 2 bL.nd (vc f m (va2 (vv 2) (vv 6))))))))))))
   (ah (aA (aq (vc h m (va1 (vv 3))))))))),N.G6,N.G5.kp,N.G7⟩⟩
theorem i8:FnScope ["net","rows","many"] ["net","rows"] (ag jG):=fsc
def eJ(K:Qo)(a:Ad):QF K a 3 "columns_asked" a.Bz a.B0 ["net","rows"] 2:=⟨_,λP w mg base N=>⟨by
 have b:=(dU K a).2 P w base N;have c:=(cT K a).2 P w base N;have d:=(dh K a).2 P w base N
 exact bi (k:=2) 2 3 _ N.G8 i8 rfl rfl λf A outer s H E e=>ad (aE (psS 2 i8.nd (bY N.D8 (va1 (cM N.Ka N.J2 b (e.mono (by decide)) (bP.nil N.J3) cq (vv 0) rfl)))))
   (ad (bz (dz (fY (aS (cb e) cV (bY N.D8 (va1 (vv 1))) (bY N.D8 (va1 (cM N.Ka N.Jz c (e.mono (by decide)) (bP.nil N.J0) cq (vv 0) rfl)))) (eE (eX (cz (jQ rfl) sM (by rfl) N.D3 PyProof.Rows.Boot.«any» (va1 (bv rfl (cso ["counts","many"] ["counts"] [2]) (bn (vv 1)) (λcl C g s H=>⟨(pgN 0 ndc),aR,λD=>aM rfl (iD (cb e) cV (bY N.D8 (va1 (vv 0))) (vv 1)) rfl⟩) au aw (λD=>aQ)))))))) (ah (cX)) (bo))
   (ah (aA (aq (bv rfl (cso ["counts"] ["counts"] []) (bn (vc d e (va1 (vv 1)))) (λcl C g s H=>⟨(pgN 0 ndc),aR,λD=>aM rfl (bS bR fj (by rfl) N.Eh PyProof.Rows.Boot.«tuple» (va1 (vv 0))) rfl⟩) au aw (λD=>aQ)))))),N.G9,N.G8.kp,N.Ha⟩⟩
theorem bK:FnScope ["net","level","rests","filling","tables_ahead","dealings_ahead","counts","tables","dealings"] ["net","level","rests","filling"] (ag jF):=fsc
def bN(K:Qo)(a:Ad):QF K a 6 "counted_ahead" a.B5 a.B7 ["net","level","rests","filling"] 4:=⟨_,λP w mg base N=>⟨by
 have b:=(dA K a).2 P w base N
 exact bi (k:=5) 4 9 _ N.Hb bK rfl rfl λd A outer s H E c=>ad (aE (psS 4 bK.nd (aj)))
   (ad (aE (psS 5 bK.nd (aj)))
   (ad (bG (dD (aP ay (aP ay (aP ay cN))) (aO (aO (aO bZ)))) (br bW rfl (bn (vc b c (va3 (vv 0) (vv 1) (vv 2)))) (bw rfl (ar (pgN 6 bK.nd) (ar (pgN 7 bK.nd) (ar (pgN 8 bK.nd) bp)))) (ad (bz (aS (fK c) gT (vv 6) (vv 3)) (ah (aA (aq (cJ (va2 (vv 4) (vv 5)))))) (bo))
   (ad (e8 gH (dM (i:=4) bK.nd rfl (by first|exact RH rfl|exact Sw rfl) (vv 7) jp))
   (ah (e8 gH (dM (i:=5) bK.nd rfl (by first|exact RH rfl|exact Sw rfl) (vv 8) jp)))))))
   (ah (cX)))),N.Hc,N.Hb.kp,N.Hd⟩⟩
theorem cZ:FnScope ["net","rows","rests","number","level","filling"] ["net","rows"] (ag nY):=fsc
def gN(K:Qo)(a:Ad):QF K a 7 "number_of" a.B8 a.Ca ["net","rows"] 2:=⟨_,λP w mg base N=>⟨by
 have e:=(cT K a).2 P w base N;have b:=(eJ K a).2 P w base N;have c:=(bN K a).2 P w base N;have d:=(bD K a).2 P w base N
 exact bi (k:=6) 2 6 _ N.He cZ rfl rfl λg A outer s H E f=>ad (aE (psS 2 cZ.nd (bS bR fj (by rfl) N.Eh PyProof.Rows.Boot.«tuple» (va1 (cM N.Ka N.Jz e (f.mono (by decide)) (bP.nil N.J0) cq (vv 0) rfl)))))
   (ad (aE (psS 3 cZ.nd (aj)))
   (ad (bG (dD (aP ay (aP ay cN)) (aO (aO bZ))) (br bW rfl (kK (by rfl) N.D5 (va1 (vc b f (va2 (vv 0) (vv 1))))) (bw rfl (ar (pgN 4 cZ.nd) (ar (pgN 5 cZ.nd) bp))) (ad (e8 gH (dM (i:=3) cZ.nd rfl (by first|exact RH rfl|exact Sw rfl) (bA aJ bF (vc c f (va4 (vv 0) (vv 4) (vv 2) (vv 5))) (aj)) jp))
   (ah (aE (psS 2 cZ.nd (vc d f (va2 (vv 2) (vv 5)))))))))
   (ah (aA (aq (vv 3)))))),N.Hf,N.He.kp,N.Hg⟩⟩
theorem cU:FnScope ["net","rows","rests","first","many","level","filling"] ["net","rows"] (ag rC):=fsc
def jK(K:Qo)(a:Ad):QF K a 7 "stretch" a.Cb a.Cc ["net","rows"] 2:=⟨_,λP w mg base N=>⟨by
 have e:=(cT K a).2 P w base N;have b:=(eJ K a).2 P w base N;have c:=(bN K a).2 P w base N;have f:=(kz K a).2 P w base N;have d:=(bD K a).2 P w base N
 exact bi (k:=6) 2 7 _ N.Hh cU rfl rfl λh A outer s H E g=>ad (aE (psS 2 cU.nd (bS bR fj (by rfl) N.Eh PyProof.Rows.Boot.«tuple» (va1 (cM N.Ka N.Jz e (g.mono (by decide)) (bP.nil N.J0) cq (vv 0) rfl)))))
   (ad (aE (psS 3 cU.nd (aj)))
   (ad (aE (psS 4 cU.nd (aj)))
   (ad (bG (dD (aP ay (aP ay cN)) (aO (aO bZ))) (br bW rfl (kK (by rfl) N.D5 (va1 (vc b g (va2 (vv 0) (vv 1))))) (bw rfl (ar (pgN 5 cU.nd) (ar (pgN 6 cU.nd) bp))) (ad (e8 gH (dM (i:=3) cU.nd rfl (by first|exact RH rfl|exact Sw rfl) (bc gD lz (vv 4) (bA aJ bF (vc c g (va4 (vv 0) (vv 5) (vv 2) (vv 6))) (aj))) jp))
   (ad (e8 qO (dM (i:=4) cU.nd rfl (by first|exact RH rfl|exact Sw rfl) (vc f g (va1 (vv 6))) qR))
   (ah (aE (psS 2 cU.nd (vc d g (va2 (vv 2) (vv 6))))))))))
   (ah (aA (aq (cJ (va2 (vv 3) (bc aW cf (vv 3) (vv 4)))))))))),N.Hi,N.Hh.kp,N.Hj⟩⟩
theorem yL:FnScope ["_law_found","_law_due"] ["_law_found","_law_due"] (ag t7):=fsc
def lF(K:Qo)(a:Ad)(b:List D->M D):G:=
  aY (gIf (u4 (aL sP (ae (am 1) (ae (aL fX (ae (fC (.ty "list")) (ae (fC (.ty "tuple")) (aD)))) (aD))))) (aY (gIf (qU (fB (f2 (fF) (aL jo (ae (am 1) (ae (fC (.ty "list")) (aD)))) (aL jo (ae (am 0) (ae (fC (.ty "list")) (aD)))))) (fB (f2 (fF) (aL jo (ae (am 1) (ae (fC (.ty "tuple")) (aD)))) (aL jo (ae (am 0) (ae (fC (.ty "tuple")) (aD))))))) (jr (fC (.bl PX))) (gNil))
  (aY (gIf (fB (f2 (fF) (aL eU (ae (am 0) (aD))) (aL eU (ae (am 1) (aD))))) (jr (fC (.bl PX))) (gNil))
  (jr (f2 (inD PQ) (fC (.bl PX)) (dJ 2 [] (uw (ae (am 0) (ae (am 1) (aD)))) (tgT (f6 (tgC 0) (f6 (tgC 1) kY))) (λ_=>M.ret PQ) (cEm (eK b (ae (am 0) (ae (am 1) (aD)))))))))) (gNil))
  (aY (gIf (fB (f2 (xN) (am 1) (fC .non))) (jr (f2 (xN) (am 0) (fC .non))) (gNil))
  (aY (gIf (qU (fB (f2 (fF) (aL jo (ae (am 1) (ae (fC (.ty "str")) (aD)))) (aL jo (ae (am 0) (ae (fC (.ty "str")) (aD)))))) (fB (f2 (fF) (aL jo (ae (am 1) (ae (fC (.ty "bool")) (aD)))) (aL jo (ae (am 0) (ae (fC (.ty "bool")) (aD))))))) (jr (fC (.bl PX))) (gNil))
  (jr (oQ (aL sP (ae (am 0) (ae (aL fX (ae (fC (.ty "int")) (ae (fC (.ty "str")) (aD)))) (aD)))) (f2 (jZ) (am 0) (am 1))))))
def f8(K:Qo)(a:Ad):Nat->List D->M D
 |0=>λ_=>M.fail
 |n+1=>gu 2 (lF K a (f8 K a n))
theorem pO(N:Fns K mg a):∀n,FnOk P w K mg base (CXE P w) (n+1) a.Ci a.Cj ["_law_found","_law_due"] (spF K 2 (f8 K a n))
 |0=>⟨λvs H Q E h=>h.1,λA outer s H args us vs Q E b g i r h=>by
  obtain⟨_,F,ds,β,_,_,j,β1,e,_⟩:=h;cases e⟩
 |n+1=>by
  have c:=pO N n;unfold f8;exact bi (k:=n+1) 2 2 (lF K a (f8 K a n)) N.Hr yL rfl rfl λf A outer s H E b=>ad (bz (eX (cz qo zQ (by rfl) N.D7 PyProof.Rows.Boot.«isinstance» (va2 (vv 1) (cJ (va2 (v_c (d:= .ty "list") (ck (v:= .ty "list") (by rfl) N.D9 PyProof.Rows.Boot.«list» rfl) (λ_ _=>rfl)) (v_c (d:= .ty "tuple") (ck (v:= .ty "tuple") (by rfl) N.Eh PyProof.Rows.Boot.«tuple» rfl) (λ_ _=>rfl))))))) (ad (bz (dz (fY (aS (cb b) cV (ie N.D7 (va2 (vv 1) (v_c (d:= .ty "list") (ck (v:= .ty "list") (by rfl) N.D9 PyProof.Rows.Boot.«list» rfl) (λ_ _=>rfl)))) (ie N.D7 (va2 (vv 0) (v_c (d:= .ty "list") (ck (v:= .ty "list") (by rfl) N.D9 PyProof.Rows.Boot.«list» rfl) (λ_ _=>rfl))))) (eE (aS (cb b) cV (ie N.D7 (va2 (vv 1) (v_c (d:= .ty "tuple") (ck (v:= .ty "tuple") (by rfl) N.Eh PyProof.Rows.Boot.«tuple» rfl) (λ_ _=>rfl)))) (ie N.D7 (va2 (vv 0) (v_c (d:= .ty "tuple") (ck (v:= .ty "tuple") (by rfl) N.Eh PyProof.Rows.Boot.«tuple» rfl) (λ_ _=>rfl)))))))) (ah (aA (aq (eM)))) (bo))
   (ad (bz (aS (cb b) cV (bY N.D8 (va1 (vv 0))) (bY N.D8 (va1 (vv 1)))) (ah (aA (aq (eM)))) (bo))
   (ah (aA (aq (iD mq (DQ (neg:=PQ)) (eM) (bv rfl (cso ["_law_one","_law_other"] ["_law_one","_law_other"] []) (qc (by rfl) N.Ei (va2 (vv 0) (vv 1))) (λcl C l s H=>⟨(bw rfl (ar (pgN 0 ndc) (ar (pgN 1 ndc) bp))),aR,λD=>aM rfl (yo c (b.mono (P9 _)) (by rfl) N.Ht N.Hr.kp N.Hu sJ (va2 (vv 0) (vv 1)) (bq (bq aN0))) rfl⟩) (d5 (aX au (aX au dn)) (aU (aU cS))) (d4 (aV aw (aV aw dg))) (λD=>aQ)))))))) (bo))
   (ad (bz (aS uo xG (vv 1) (wS)) (ah (aA (aq (iD uo xG (vv 0) (wS))))) (bo))
   (ad (bz (dz (fY (aS (cb b) cV (ie N.D7 (va2 (vv 1) (v_c (d:= .ty "str") (ck (v:= .ty "str") (by rfl) N.Ef PyProof.Rows.Boot.«str» rfl) (λ_ _=>rfl)))) (ie N.D7 (va2 (vv 0) (v_c (d:= .ty "str") (ck (v:= .ty "str") (by rfl) N.Ef PyProof.Rows.Boot.«str» rfl) (λ_ _=>rfl))))) (eE (aS (cb b) cV (ie N.D7 (va2 (vv 1) (v_c (d:= .ty "bool") (ck (v:= .ty "bool") (by rfl) N.D4 PyProof.Rows.Boot.«bool» rfl) (λ_ _=>rfl)))) (ie N.D7 (va2 (vv 0) (v_c (d:= .ty "bool") (ck (v:= .ty "bool") (by rfl) N.D4 PyProof.Rows.Boot.«bool» rfl) (λ_ _=>rfl)))))))) (ah (aA (aq (eM)))) (bo))
   (ah (aA (aq (HP (cz qo zQ (by rfl) N.D7 PyProof.Rows.Boot.«isinstance» (va2 (vv 0) (cJ (va2 (v_c (d:= .ty "int") (ck (v:= .ty "int") (by rfl) N.D6 PyProof.Rows.Boot.«int» rfl) (λ_ _=>rfl)) (v_c (d:= .ty "str") (ck (v:= .ty "str") (by rfl) N.Ef PyProof.Rows.Boot.«str» rfl) (λ_ _=>rfl)))))) (HN (iD (fK b) gT (vv 0) (vv 1)))))))))
theorem zn(N:Fns K mg a):FB P w K mg base 7 "_law_same" a.Ci a.Cj ["_law_found","_law_due"] 2 (f8 K a 5):=⟨(pO P w base N 5).mono (by decide),N.Ht,N.Hr.kp,N.Hu⟩
theorem gY:FnScope ["_law_bag_here","_law_block","_law_columns","_law_things","_law_grid_here","_law_thing","_law_at","_law_to"] ["_law_bag_here","_law_block","_law_columns","_law_things"] (ag ua):=fsc
def k8(K:Qo)(a:Ad):QF K a 3 "_law_grid" a.Ck a.Cl ["_law_bag_here","_law_block","_law_columns","_law_things"] 4:=⟨_,λP w mg base N=>⟨by
 have b:=hG P w base N
 exact bi (k:=2) 4 8 _ N.Hv gY rfl rfl λd A outer s H E c=>ad (LW (i:=4) gY.nd rfl (by first|exact RH rfl|exact Sw rfl) rfl (cso ["_law_row","_law_columns"] ["_law_row"] [2]) (bT (by rfl) N.Ec (va1 (vv 1))) (λcl C e s H=>⟨(pgN 0 ndc),aR,λD=>aM rfl (O1 (va1 (aj)) (vv 1)) rfl⟩) au aw (λD=>wn))
   (ad (bG ay (br bW rfl (bT (by rfl) N.Ec (va1 (vv 3))) (pgN 5 gY.nd) (ad (aE (psS 6 gY.nd (vc b c (va2 (vv 0) (vv 1)))))
   (ad (aE (psS 7 gY.nd (vc b c (va2 (vv 0) (vv 2)))))
   (ah (ud (dN (bc aW cf (bA aJ bF (bA aJ bF (vv 4) (vv 6)) (vv 7)) (aj)) (kC (gR d8 (pv 4) (vv 6) (λ_ _=>rfl)) (vv 7) gz))))))))
   (ah (aA (aq (vv 4))))),N.Hw,N.Hv.kp,N.Hx⟩⟩
theorem jz:FnScope ["_law_bag_here","_law_grid_here","_law_lot","_law_first"] ["_law_bag_here"] (ag tY):=fsc
def oP(K:Qo)(a:Ad):G:=
  aY (uR 1 (aD))
  (aY (uT (eC (f2 ixD (aL dZ (ae (aL dZ (ae (fC (.int 40)) (aD))) (ae (aL dZ (ae (fC (.int 39)) (ae (fC (.int 1)) (aD)))) (ae (aL dZ (ae (fC (.int 30)) (ae (fC (.int 10)) (aD)))) (ae (aL dZ (ae (fC (.int 20)) (ae (fC (.int 20)) (aD)))) (ae (aL dZ (ae (fC (.int 24)) (ae (fC (.int 15)) (aD)))) (ae (aL dZ (ae (fC (.int 13)) (ae (fC (.int 27)) (aD)))) (aD)))))))) (eK iR (ae (am 0) (ae (fC (.int 6)) (aD)))))) (sgN 2) (aY (lH 3 (eK iR (ae (am 0) (ae (f2 oZ (am 2) (fC (.int 1))) (aD)))))
  (uU 1 (ae (aL dZ (ae (am 3) (ae (f2 BX (am 2) (am 3)) (aD)))) (aD)))))
  (jr (am 1)))
def lx(K:Qo)(a:Ad):List D->M D:=gu 4 (oP K a)
theorem zm(N:Fns K mg a):FB P w K mg base 3 "_law_wide" a.Cm a.Cn ["_law_bag_here"] 1 (lx K a):=⟨by
 have b:=hG P w base N;unfold lx;refine bi (k:=2) 1 4 (oP K a) N.Hy jz rfl rfl λe A outer s H E c=>?_;refine ad (ng (psS 1 jz.nd (fJ (gf)))) ?_;refine ad ?_ ?_
 rotate_left
 exact(ah (aA (aq (vv 1))));refine bG (tgg:=fq 2) ?_ ?_;exact ay;generalize d:Expr.Subscript _ _ _=q;refine br bW rfl ?_ (pgN 2 jz.nd) ?_ ?_;subst d;refine bn ?_;refine OI ?_ ?_;refine eF ?_;refine d7 ?_ ?_;refine eF ?_;exact va1 aj;refine d7 ?_ ?_;refine eF ?_;exact va2 aj aj;refine d7 ?_ ?_;refine eF ?_;exact va2 aj aj;refine d7 ?_ ?_;refine eF ?_;exact va2 aj aj;refine d7 ?_ ?_;refine eF ?_;exact va2 aj aj;refine d7 ?_ ?_;refine eF ?_;exact va2 aj aj;exact gf;exact(vc b c (va2 (vv 0) (aj)));exact ad (aE (psS 3 jz.nd (vc b c (va2 (vv 0) (bc aW cf (vv 2) (aj)))))) (ah (nk (dm (ny Sv Sa Sb gb (pv 1) (va1 (eF (va2 (vv 3) (bc gj iT (vv 2) (vv 3)))))))));subst d;intro _;rfl,N.Hz,N.Hy.kp,N.Ia⟩
theorem iF:FnScope ["_law_bag_here","_law_way","_law_block","_law_columns"] ["_law_bag_here"] (ag rF):=fsc
def jL(K:Qo)(a:Ad):QF K a 4 "_law_large" a.Co a.Cp ["_law_bag_here"] 1:=⟨_,λP w mg base N=>⟨by
 have b:=hG P w base N;have e:=zm P w base N;have c:=(k8 K a).2 P w base N
 exact bi (k:=3) 1 4 _ N.Ib iF rfl rfl λf A outer s H E d=>ad (bz (aS (fK d) gT (vc b d (va2 (vv 0) (aj))) (aj)) (ah (aA (aq (vc e d (va1 (vv 0)))))) (bo))
   (ad (aE (psS 1 iF.nd (vc b d (va2 (vv 0) (aj)))))
   (ad (bz (aS (fK d) gT (vv 1) (aj)) (ah (aA (aq (vc c d (va4 (vv 0) (aj) (bc aW cf (aj) (vc b d (va2 (vv 0) (aj)))) (vc b d (va2 (vv 0) (aj)))))))) (bo))
   (ad (bz (aS (fK d) gT (vv 1) (aj)) (ah (aA (aq (vc c d (va4 (vv 0) (aj) (bc aW cf (aj) (vc b d (va2 (vv 0) (aj)))) (vc b d (va2 (vv 0) (aj)))))))) (bo))
   (ad (aE (psS 2 iF.nd (bc aW cf (aj) (vc b d (va2 (vv 0) (aj))))))
   (ad (aE (psS 3 iF.nd (bc aW cf (aj) (vc b d (va2 (vv 0) (aj))))))
   (ah (aA (aq (vc c d (va4 (vv 0) (vv 2) (vv 3) (vc b d (va2 (vv 0) (aj))))))))))))),N.Id,N.Ib.kp,N.Ie⟩⟩
theorem vy:FnScope ["_law_block"] ["_law_block"] (ag pw):=fsc
def iJ(K:Qo)(a:Ad):QF K a 2 "_law_turned" a.Cq a.Cr ["_law_block"] 1:=⟨_,λP w mg base N=>⟨by
 exact bi (k:=1) 1 1 _ N.Ig vy rfl rfl λb A outer s H E d=>ah (aA (aq (bv rfl (cso ["_law_to","_law_block"] ["_law_to"] [0]) (bT (by rfl) N.Ec (va1 (bY N.D8 (va1 (bA aJ bF (vv 0) (aj)))))) (λcl C c s H=>⟨(pgN 0 ndc),aR,λD=>aM rfl (bv rfl (cso ["_law_row","_law_to"] ["_law_row"] [0]) (bn (vv 1)) (λcl C c s H=>⟨(pgN 0 ndc),aR,λD=>aM rfl (bA aJ bF (vv 0) (vv 1)) rfl⟩) au aw (λD=>aQ)) rfl⟩) au aw (λD=>aQ)))),N.Ih,N.Ig.kp,N.Ii⟩⟩
theorem tU:FnScope ["_law_grid_here"] ["_law_grid_here"] (ag n5):=fsc
def gO(K:Qo)(a:Ad):QF K a 2 "_law_rowsums" a.Cs a.Ct ["_law_grid_here"] 1:=⟨_,λP w mg base N=>⟨by
 exact bi (k:=1) 1 1 _ N.Ij tU rfl rfl λb A outer s H E c=>ah (aA (aq (bv rfl (cso ["_law_row"] ["_law_row"] []) (bn (vv 0)) (λcl C d s H=>⟨(pgN 0 ndc),aR,λD=>aM rfl (ic N.Eg (va1 (vv 0))) rfl⟩) au aw (λD=>aQ)))),N.Ik,N.Ij.kp,N.Il⟩⟩
theorem ph:FnScope ["_law_grid_here"] ["_law_grid_here"] (ag kj):=fsc
def e9(K:Qo)(a:Ad):QF K a 3 "_law_columnsums" a.Cu a.Cv ["_law_grid_here"] 1:=⟨_,λP w mg base N=>⟨by
 have b:=(iJ K a).2 P w base N;exact bi (k:=2) 1 1 _ N.Im ph rfl rfl λc A outer s H E d=>ah (aA (aq (bv rfl (cso ["_law_column"] ["_law_column"] []) (bn (vc b d (va1 (vv 0)))) (λcl C e s H=>⟨(pgN 0 ndc),aR,λD=>aM rfl (ic N.Eg (va1 (vv 0))) rfl⟩) au aw (λD=>aQ)))),N.Io,N.Im.kp,N.Ip⟩⟩
theorem yM:FnScope ["_law_block","_law_columns"] ["_law_block","_law_columns"] (ag uc):=fsc
def rP(K:Qo)(a:Ad):G:=
  mG (jt 1 [1] (dC gA (ae (am 0) (aD))) (tgC 0) (λ_=>M.ret PQ) (vn (hX 1 [] (dC gA (ae (am 1) (aD))) (tgC 0) (λ_=>M.ret PQ) (cEm (aL fX (ae (fC (.int 0)) (ae (fC (.int 40)) (aD))))))))
def mv(K:Qo)(a:Ad):List D->M (List (List D)):=nS 2 (rP K a)
theorem xt(N:Fns K mg a):FnOk P w K mg base (CXE P w) 2 a.Cw a.Cy ["_law_block","_law_columns"] (spG K 2 (mv K a)):=by
 unfold mv;exact Lj (k:=1) 2 2 (rP K a) N.Iq yM rfl rfl λb A outer s H E d=>ah (Kt (aq (M5 rfl (cso ["_law_at","_law_columns"] ["_law_at"] [1]) (bT (by rfl) N.Ec (va1 (vv 0))) (λcl C c s H=>⟨(pgN 0 ndc),aR,λD=>aM rfl (MB rfl (cso ["_law_to"] ["_law_to"] []) (bT (by rfl) N.Ec (va1 (vv 1))) (λcl C c s H=>⟨(pgN 0 ndc),aR,λD=>aM rfl (cJ (va2 (aj) (aj))) rfl⟩) au aw (λD=>aQ)) rfl⟩) au aw (λD=>wn))))
theorem dH:FnScope ["_law_bag_here","_law_grid_here","_law_told","_law_at","_law_row","_law_to","_law_count","_law_way"] ["_law_bag_here","_law_grid_here"] (ag pA):=fsc
def iM(K:Qo)(a:Ad):QF K a 3 "_law_bounds" a.Cz a.C0 ["_law_bag_here","_law_grid_here"] 2:=⟨_,λP w mg base N=>⟨by
 have c:=xt P w base N;have b:=hG P w base N
 exact bi (k:=2) 2 8 _ N.Iw dH rfl rfl λe A outer s H E d=>ad (IB (psS 2 dH.nd (M6 c (d.mono (by decide)) (by rfl) N.Ir N.Iq.kp N.Iu cq (va2 (bY N.D8 (va1 (vv 1))) (bY N.D8 (va1 (bA aJ bF (vv 1) (aj))))) (bq (bq aN0)))))
   (ad (bz (aS (fK d) gT (vc b d (va2 (vv 0) (aj))) (aj)) (ah (aA (aq (vv 2)))) (bo))
   (ad (bG (dD (aP ay (aP ay cN)) (aO (aO bZ))) (br bW rfl (kK (by rfl) N.D5 (va1 (vv 1))) (bw rfl (ar (pgN 3 dH.nd) (ar (pgN 4 dH.nd) bp))) (ah (bG (dD (aP ay (aP ay cN)) (aO (aO bZ))) (br bW rfl (kK (by rfl) N.D5 (va1 (vv 4))) (bw rfl (ar (pgN 5 dH.nd) (ar (pgN 6 dH.nd) bp))) (ad (aE (psS 7 dH.nd (vc b d (va2 (vv 0) (aj)))))
   (ad (bz (aS (fK d) gT (vv 7) (aj)) (ah (ud (dN (cJ (va2 (bc gj iT (vv 6) (vc b d (va2 (vv 0) (bc aW cf (vv 6) (aj))))) (cz (mR rfl) xF (by rfl) N.Eb PyProof.Rows.Boot.«min» (va2 (aj) (bc aW cf (vv 6) (vc b d (va2 (vv 0) (aj)))))))) (kC (gR d8 (pv 2) (vv 3) (λ_ _=>rfl)) (vv 5) gz)))) (bo))
   (ah (bz (aS (fK d) gT (vv 7) (aj)) (ah (ud (dN (cJ (va2 (aj) (cz (sf rfl) IO (by rfl) N.Ea PyProof.Rows.Boot.«max» (va2 (vv 6) (vc b d (va2 (vv 0) (aj))))))) (kC (gR d8 (pv 2) (vv 3) (λ_ _=>rfl)) (vv 5) gz)))) (bo))))))))))
   (ah (aA (aq (vv 2)))))),N.Ix,N.Iw.kp,N.Iy⟩⟩
theorem vA:FnScope ["_law_block"] ["_law_block"] (ag pz):=fsc
def iK(K:Qo)(a:Ad):QF K a 2 "_law_copied" a.C2 a.C3 ["_law_block"] 1:=⟨_,λP w mg base N=>⟨by
 exact bi (k:=1) 1 1 _ N.Iz vA rfl rfl λb A outer s H E c=>ah (aA (aq (bv rfl (cso ["_law_row"] ["_law_row"] []) (bn (vv 0)) (λcl C d s H=>⟨(pgN 0 ndc),aR,λD=>aM rfl (bS dO kI (by rfl) N.D9 PyProof.Rows.Boot.«list» (va1 (vv 0))) rfl⟩) au aw (λD=>aQ)))),N.I0,N.Iz.kp,N.I9⟩⟩
theorem eZ:FnScope ["_law_lot","_law_found","_law_k"] ["_law_lot"] (ag lQ):=fsc
def il(K:Qo)(a:Ad):QF K a 2 "_law_factorial" a.C4 a.C5 ["_law_lot"] 1:=⟨_,λP w mg base N=>⟨by
 exact bi (k:=1) 1 3 _ N.Ja eZ rfl rfl λb A outer s H E c=>ad (aE (psS 1 eZ.nd (aj)))
   (ad (bG ay (br bW rfl (oO (by rfl) N.Ec (va2 (aj) (bc aW cf (vv 0) (aj)))) (pgN 2 eZ.nd) (ah (aE (psS 1 eZ.nd (bc gD lz (vv 1) (vv 2)))))))
   (ah (aA (aq (vv 1))))),N.Jb,N.Ja.kp,N.Jc⟩⟩
theorem jA:FnScope ["_law_parts","_law_under","_law_part"] ["_law_parts"] (ag tZ):=fsc
def oG(K:Qo)(a:Ad):QF K a 3 "_law_ways" a.C6 a.C7 ["_law_parts"] 1:=⟨_,λP w mg base N=>⟨by
 have b:=(il K a).2 P w base N
 exact bi (k:=2) 1 3 _ N.Jd jA rfl rfl λd A outer s H E c=>ad (aE (psS 1 jA.nd (aj)))
   (ad (bG ay (br bW rfl (bn (vv 0)) (pgN 2 jA.nd) (ah (aE (psS 1 jA.nd (bc gD lz (vv 1) (vc b c (va1 (vv 2)))))))))
   (ah (aA (aq (bc CQ MT (vc b c (va1 (ic N.Eg (va1 (vv 0))))) (vv 1)))))),N.Je,N.Jd.kp,N.Jf⟩⟩
theorem gL:FnScope ["_law_columns","_law_found","_law_column"] ["_law_columns"] (ag pq):=fsc
def iI(K:Qo)(a:Ad):QF K a 4 "_law_weight" a.C8 a.C9 ["_law_columns"] 1:=⟨_,λP w mg base N=>⟨by
 have b:=(oG K a).2 P w base N
 exact bi (k:=3) 1 3 _ N.Jg gL rfl rfl λc A outer s H E d=>ad (aE (psS 1 gL.nd (aj)))
   (ad (bG ay (br bW rfl (bn (vv 0)) (pgN 2 gL.nd) (ah (aE (psS 1 gL.nd (bc gD lz (vv 1) (vc b d (va1 (vv 2)))))))))
   (ah (aA (aq (vv 1))))),N.Jh,N.Jg.kp,N.Ji⟩⟩
theorem jC:FnScope ["self","rowsums","columnsums","bounds","settled"] ["self","rowsums","columnsums","bounds"] (ag kx):=fsc
def uO(K:Qo)(a:Ad):IP:=
  nJ (lH 4 (eK (dI K a).1 (ae (am 1) (ae (am 2) (ae (am 3) (aD))))))
  (nJ (qf (eK (fI K a).1 (ae (am 1) (ae (am 2) (ae (am 4) (aD))))))
  (jO (aL sL (ae (am 1) (aD)))
  (jO (aL sL (ae (am 2) (aD)))
  (jO (am 4)
  (jO (eK (eG K a).1 (ae (am 1) (ae (am 2) (ae (am 4) (aD)))))
  (IV))))))
def pU(K:Qo)(a:Ad):List D->M (List D):=nK 5 (uO K a)
theorem KP(N:Fns K mg a):FnOk P w K mg base (CXE P w) 6 a.Df a.Dg ["self","rowsums","columnsums","bounds"] (spI K a.Ae ["row_list","column_list","pairs","counted"] 3 (pU K a)):=by
 have c:=(eG K a).2 P w base N;have d:=(fI K a).2 P w base N;have b:=(dI K a).2 P w base N;unfold pU
 exact Li (k:=5) 3 5 (uO K a) N.Jp jC rfl rfl λf A outer s H E e=>IW (aE (psS 4 jC.nd (vc b e (va3 (vv 1) (vv 2) (vv 3)))))
   (IW (kn (dm (vc d e (va3 (vv 1) (vv 2) (vv 4)))))
   (sQ N.Ka N.Kf (by decide) (by decide) (pJ (pv 0) (bS dO kI (by rfl) N.D9 PyProof.Rows.Boot.«list» (va1 (vv 1))) rfl)
   (sQ N.Ka N.Kc (by decide) (by decide) (pJ (pv 0) (bS dO kI (by rfl) N.D9 PyProof.Rows.Boot.«list» (va1 (vv 2))) rfl)
   (sQ N.Ka N.Ke (by decide) (by decide) (pJ (pv 0) (vv 4) rfl)
   (sQ N.Ka N.Kd (by decide) (by decide) (pJ (pv 0) (vc c e (va3 (vv 1) (vv 2) (vv 4))) rfl)
   (Pn))))))
theorem CB:FnScope ["_law_grid_here","_law_limits"] ["_law_grid_here","_law_limits"] (ag vX):=fsc
def qJ(K:Qo)(a:Ad):QF K a 8 "_law_net" a.Da a.Db ["_law_grid_here","_law_limits"] 2:=⟨_,λP w mg base N=>⟨by
 have c:=(gO K a).2 P w base N;have b:=(e9 K a).2 P w base N;have e:=KP P w base N;have d:=(iK K a).2 P w base N;exact bi (k:=7) 2 2 _ N.Jj CB rfl rfl λg A outer s H E f=>ah (aA (aq (JQ N.Jq e (f.mono (by decide)) (by rfl) N.Kb N.Jr cq (va2 (vc c f (va1 (vv 0))) (vc b f (va1 (vv 0)))) (JO (vc d f (va1 (vv 1))) (Lx)) (bq (bq aN0)) (bq aN0) rfl))),N.Jk,N.Jj.kp,N.Jl⟩⟩
theorem eS:FnScope ["_law_block","_law_rowsums_here","_law_columnsums_here","_law_limits","_law_row","_law_count","_law_pairs","_law_duo"] ["_law_block","_law_rowsums_here","_law_columnsums_here","_law_limits"] (ag ub):=fsc
def jf(K:Qo)(a:Ad):QF K a 4 "_law_good" a.Dc a.Dd ["_law_block","_law_rowsums_here","_law_columnsums_here","_law_limits"] 4:=⟨_,λP w mg base N=>⟨by
 have c:=(gO K a).2 P w base N;have b:=(e9 K a).2 P w base N
 exact bi (k:=3) 4 8 _ N.Jm eS rfl rfl λf A outer s H E e=>ad (bz (dz (fY (fR (eX (ie N.D7 (va2 (vv 0) (v_c (d:= .ty "list") (ck (v:= .ty "list") (by rfl) N.D9 PyProof.Rows.Boot.«list» rfl) (λ_ _=>rfl)))))) (eE (aS (cb e) cV (bY N.D8 (va1 (vv 0))) (bY N.D8 (va1 (vv 1))))))) (ah (aA (aq (eM)))) (bo))
   (ad (bG ay (br bW rfl (bn (vv 0)) (pgN 4 eS.nd) (ad (bz (dz (fY (fR (eX (ie N.D7 (va2 (vv 4) (v_c (d:= .ty "list") (ck (v:= .ty "list") (by rfl) N.D9 PyProof.Rows.Boot.«list» rfl) (λ_ _=>rfl)))))) (eE (aS (cb e) cV (bY N.D8 (va1 (vv 4))) (bY N.D8 (va1 (vv 2))))))) (ah (aA (aq (eM)))) (bo))
   (ah (bG ay (br bW rfl (bn (vv 4)) (pgN 5 eS.nd) (ah (bz (dz (fY (fR (eX (ie N.D7 (va2 (vv 5) (v_c (d:= .ty "int") (ck (v:= .ty "int") (by rfl) N.D6 PyProof.Rows.Boot.«int» rfl) (λ_ _=>rfl)))))) (fY (eX (ie N.D7 (va2 (vv 5) (v_c (d:= .ty "bool") (ck (v:= .ty "bool") (by rfl) N.D4 PyProof.Rows.Boot.«bool» rfl) (λ_ _=>rfl))))) (eE (aS iO lA (vv 5) (aj)))))) (ah (aA (aq (eM)))) (bo)))))))))
   (ad (bz (dz (fY (aS (cb e) cV (vc c e (va1 (vv 0))) (vv 1)) (eE (aS (cb e) cV (vc b e (va1 (vv 0))) (vv 2))))) (ah (aA (aq (eM)))) (bo))
   (ad (bG (dD (aP ay (aP ay cN)) (aO (aO bZ))) (br bW rfl (qc (by rfl) N.Ei (va2 (vv 0) (vv 3))) (bw rfl (ar (pgN 4 eS.nd) (ar (pgN 6 eS.nd) bp))) (ah (bG (dD (aP ay (aP ay cN)) (aO (aO bZ))) (br bW rfl (qc (by rfl) N.Ei (va2 (vv 4) (vv 6))) (bw rfl (ar (pgN 5 eS.nd) (ar (pgN 7 eS.nd) bp))) (ah (bz (dz (fY (aS iO lA (vv 5) (bA aJ bF (vv 7) (aj))) (eE (aS pL uK (vv 5) (bA aJ bF (vv 7) (aj)))))) (ah (aA (aq (eM)))) (bo))))))))
   (ah (aA (aq (eM))))))),N.Jn,N.Jm.kp,N.Jo⟩⟩
theorem cK:FnScope ["_law_script","_law_bag_here","_law_grid_here","_law_limits","_law_rowsums_here","_law_columnsums_here","_law_net_here","_law_tables","_law_k","_law_block","_law_first","_law_behind","_law_other","_law_number"] ["_law_script"] (ag nh):=fsc
def pE(K:Qo)(a:Ad):{g:G//∀(P:QG) (w:QT) {mg:QO->Option P0} (base:Rl) (N:Fns K mg a) (f:PZ) (y:P0) (A:Q7) (outer:List WY) (s:P6) (H:Hp) (E:XK),Room 8 (A.deeper (PyProof.Rows.envOfC "law" (ag nh) s.heap.objs.size f y))->PSs (f9 (CXE P w) P w K mg base ["_law_script","_law_bag_here","_law_grid_here","_law_limits","_law_rowsums_here","_law_columnsums_here","_law_net_here","_law_tables","_law_k","_law_block","_law_first","_law_behind","_law_other","_law_number"] "law" (ag nh) f y A outer s H E) (cQ nh).tail (tG K H g (λ_=>E))}:=⟨_,λP w mg base N f y A outer s H E e=>by
 have t:=(jL K a).2 P w base N;have q:=(iM K a).2 P w base N;have o:=(gO K a).2 P w base N;have l:=(e9 K a).2 P w base N;have v:=(qJ K a).2 P w base N;have n:=(gi K a).2 P w base N;have j:=hG P w base N;have c:=(gQ K a).2 P w base N;have k:=(jf K a).2 P w base N;have h:=(iK K a).2 P w base N;have p:=(gN K a).2 P w base N;have u:=zn P w base N;have d:=(jK K a).2 P w base N;have i:=(iJ K a).2 P w base N;have r:=(iI K a).2 P w base N;have b:=(ff K a).2 P w base N;have m:=(fW K a).2 P w base N
 exact ad (aE (psS 2 cK.nd (vc t e (va1 (vv 1)))))
   (ad (aE (psS 3 cK.nd (vc q e (va2 (vv 1) (vv 2)))))
   (ad (aE (psS 4 cK.nd (vc o e (va1 (vv 2)))))
   (ad (aE (psS 5 cK.nd (vc l e (va1 (vv 2)))))
   (ad (aE (psS 6 cK.nd (vc v e (va2 (vv 2) (vv 3)))))
   (ad (aE (psS 7 cK.nd (cM N.Ka N.Jt n (e.mono (by decide)) (bP.nil N.Ju) cq (vv 6) rfl)))
   (ad (aE (psS 8 cK.nd (vc j e (va2 (vv 1) (vv 7)))))
   (ad (aE (psS 9 cK.nd (vc c e (va2 (vv 6) (vv 8)))))
   (ad (bz (dz (fY (fR (eX (vc k e (va4 (vv 9) (vv 4) (vv 5) (vv 3))))) (eE (fR (eX (vc u e (va2 (vc p e (va2 (vv 6) (vc h e (va1 (vv 9))))) (vv 8)))))))) (ah (aA (aq (eM)))) (bo))
   (ad (k6 (dD (aP ay (aP ay cN)) (aO (aO bZ))) (dN (vc d e (va2 (vv 6) (vc h e (va1 (vv 9))))) (bw rfl (ar (pgN 10 cK.nd) (ar (pgN 11 cK.nd) bp)))))
   (ad (bz (aS (cb e) cV (bc gj iT (vv 11) (vv 10)) (vc r e (va1 (vc i e (va1 (vv 9)))))) (ah (aA (aq (eM)))) (bo))
   (ad (bz (aS iO lA (bc aW cf (vv 8) (aj)) (vv 7)) (ad (aE (psS 12 cK.nd (vc c e (va2 (vv 6) (bc aW cf (vv 8) (aj))))))
   (ad (bz (dz (fY (fR (eX (vc k e (va4 (vv 12) (vv 4) (vv 5) (vv 3))))) (eE (fR (aS (Mv e) Pc (vc i e (va1 (vv 9))) (vc i e (va1 (vv 12)))))))) (ah (aA (aq (eM)))) (bo))
   (ah (bz (aS (cb e) cV (bA aJ bF (vc d e (va2 (vv 6) (vv 12))) (aj)) (vv 11)) (ah (aA (aq (eM)))) (bo))))) (ah (bz (aS (cb e) cV (vv 11) (cM N.Ka N.J8 b (e.mono (by decide)) (bP.nil N.J9) cq (vv 6) rfl)) (ah (aA (aq (eM)))) (bo))))
   (ad (bz (dz (fY (aS (cb e) cV (bA aJ bF (vc d e (va2 (vv 6) (vc c e (va2 (vv 6) (aj))))) (aj)) (aj)) (eE (aS (cb e) cV (bA aJ bF (vc d e (va2 (vv 6) (vc c e (va2 (vv 6) (bc gj iT (vv 7) (aj)))))) (aj)) (cM N.Ka N.J8 b (e.mono (by decide)) (bP.nil N.J9) cq (vv 6) rfl))))) (ah (aA (aq (eM)))) (bo))
   (ad (aE (psS 13 cK.nd (bc kD Pb (bc aW cf (bc gD lz (vc j e (va2 (vv 1) (aj))) (aj)) (vc j e (va2 (vv 1) (aj)))) (cM N.Ka N.J8 b (e.mono (by decide)) (bP.nil N.J9) cq (vv 6) rfl))))
   (ad (aE (psS 9 cK.nd (vc m e (va2 (vv 6) (vv 13)))))
   (ad (bz (fR (eX (vc k e (va4 (vv 9) (vv 4) (vv 5) (vv 3))))) (ah (aA (aq (eM)))) (bo))
   (ad (k6 (dD (aP ay (aP ay cN)) (aO (aO bZ))) (dN (vc d e (va2 (vv 6) (vc h e (va1 (vv 9))))) (bw rfl (ar (pgN 10 cK.nd) (ar (pgN 11 cK.nd) bp)))))
   (ah (aA (aq (HP (iD iP lC (vv 10) (vv 13)) (HN (iD iO lA (vv 13) (vv 11)))))))))))))))))))))))⟩
theorem MA{f:PZ}{o:Qu}(F:FunD K "law" "law" nh f o)(N:Fns K mg a)(T:∀β:Bg,β.ok->∃d,(pE K a).1 [PM,on (.sh .bag),PM,PM,PM,PM,PM,PM,PM,PM,PM,PM,PM,PM] β=on (.rt (.bl PQ),d)):
  FnOk P w K mg base (CXE P w) 9 f o ["_law_script"] (HY K):=by
 have c:=CS P w base N;refine F.okE (k:=8) cK (λvs H Q E h=>?_) (λg A outer s H vs Q E p h=>?_)
 ·obtain⟨a,ns,rfl,_⟩:=h
  rfl
 ·obtain⟨a1,ns,rfl,r,q,k⟩:=h
  have rest:=(pE K a).2 P w base N f g A outer s H E p;refine⟨_,c7 (rest:=(cQ nh).tail) (psS 1 cK.nd (nu c (p.mono (by decide)) rfl N.Hl N.Hk.kp N.Hm .nil sJ (fi (pv 0) jj))) rest,?_⟩;refine⟨_,rfl,a1,ns,rfl,r,λb l C i j t u=>?_⟩;obtain⟨β,ok,m⟩:=Lr (K:=K) (a:=a1) (n:=["_law_script","_law_bag_here","_law_grid_here","_law_limits","_law_rowsums_here","_law_columnsums_here","_law_net_here","_law_tables","_law_k","_law_block","_law_first","_law_behind","_law_other","_law_number"].length-2) u i j t;obtain⟨d,e⟩:=T β ok;exact⟨_,_,_,β,_,d,m,e,λv I y s fr B=>by cases B.bl;exact k y⟩
end
end Law
namespace Law
open PySem L2 L2.Pu L2.Nt
section
variable{K:Qo}{a:Ad}{β:Bg}
abbrev tN(l:List Nat):D:=tpI (nI l)
abbrev eN(b:List Nat×Nat):D:= .tup [tN b.1,.int (b.2:Int)]
abbrev pN(p:Nat×Nat):D:=pD ((p.1:Int),(p.2:Int))
def Nrw(r:List Nat):Prop:=1<=r.length/\r.length<=4/\r.sum<=40/\pr (r.map (·+1))<=500
theorem yh{f g:FD}{δ:Dn}{x y:D}{ds es:List D}(b:f δ β=on (.ok x,β))(c:g δ β=on (.ok y,β))(d:fU x=on ds)(e:fU y=on es):uw (ae f (ae g aD)) δ β=on (.ok (eA ds es),β):=bx (aa b (aa c rfl)) (by
 unfold BI;simp only[d,e,Tt,RX])
theorem rg2I{lo:Nat}{h:Int}(b:-1000<=h)(c:h<=1000)(d:lo<=1000):oF [.int (lo:Int),.int h]=on ((Qb (h-lo).toNat).map λi=>D.int ((lo+i:Nat):Int)):=by
 have e:oF [.int (lo:Int),.int h]=on (bf lo (h-lo).toNat):=by
  simp only[oF];rw[P7 (by simp only[QJ,QU];omega)]
 rw[e];exact Rh on (QD λi _=>by congr 1)
theorem addT{l:List Nat}{c:Nat}(h:l.length<=100):oZ (tN l) (.tup [.int (c:Int)])=on (tN (l++[c])):=by
 cases l with
 |nil=>rfl
 |cons x l=>
  show(if _ then _ else _)=_;rw[P7 (bu (by simp at h⊢;omega))];simp[tpI]
theorem yD(l:List Nat)(k:Nat):iE [.lst (((nI l).map D.int).drop k)]=on (.int (((l.drop k).sum:Nat):Int)):=by
 rw[←Ut,←Ut];exact(eY _).trans (by rw[←gl])
theorem yx:∀{r:List Nat} {ps:List (Nat×Nat)},(r.zip ps).map (λq=>D.int (US (q.1:Int) (q.2.2:Int)))=(nI (tps ps r)).map D.int
 |[],_=>by cases ‹List (Nat×Nat)›<;>rfl
 |_::_,[]=>rfl
 |x::r,p::ps=>by
  have e:=yx (r:=r) (ps:=ps);show _::_=D.int ((US x p.2:Nat):Int)::(nI (tps ps r)).map D.int;rw[←e];show D.int (US (x:Int) (p.2:Int))::_=_;rw[show US (x:Int) (p.2:Int)=((US x p.2:Nat):Int) by omega];rfl
theorem yv:∀{ps:List (Nat×Nat)} {r:List Nat} {k:Nat} (b:k<ps.length) (c:k<r.length),(tps ps r)[k]?=on (US r[k] ps[k].2)
 |p::ps,x::r,0,_,_=>rfl
 |p::ps,x::r,k+1,b,c=>yv (k:=k) (by simpa using b) (by simpa using c)
abbrev uZ(ps:List (Nat×Nat))(r:List Nat)(c:Nat)(st:D)(b d e:Option Sl):Ds:=[on (.sh (tN r)),on (.sh (.int (c:Int))),on (.sh (.lst (ps.map pN))),on (.sh (.lst ((nI (los ps)).map .int))),on (.sh (.lst ((nI (tps ps r)).map .int))),on (.sh st),b,d,e]
theorem Nb{ps:List (Nat×Nat)}{r:List Nat}{c:Nat}(H:Nrw r)(v:ps.length=r.length)(A:∀p∈ps,p.1<=40/\p.2<=40)(R:c<=40):(k9 K a).1 [tN r,.int (c:Int),.lst (ps.map pN)] β=on (.ok (.lst ((vB ps r c).map tN)),β):=by
 obtain⟨_,T,hs,U⟩:=H;have I:r.length<=Qp:=bu (by omega);have o:∀k,k<=r.length->(stB ps r c k).length<=Qp:=λk m=>bu (Qs (vQ c k m) (Qs (xo r k) (by omega)));unfold k9
 dsimp only
 refine aI ?_;refine aB (d:= .lst ((nI (los ps)).map .int)) (β1:=β) ?_ ?_
 ·have:=bt (nv:=2) (caps:=[]) (it:=eC (am 2)) (tg:=tgT (f6 (tgC 0) (f6 (tgC 1) kY))) (f:=am 0) (δ:=vw (uZ ps r c .non PM PM PM)) (β:=β) ps pN (λp=> .int (p.1:Int)) rfl (λx _=>⟨[on (.int (x.1:Int)),on (.int (x.2:Int))],rfl,rfl⟩) (by rw[v];exact I)
  refine Eq.trans this ?_;unfold los;rw[Qa,Qa];rfl
 refine aB (d:= .lst ((nI (tps ps r)).map .int)) (β1:=β) ?_ ?_
 ·rw[←yx]
  exact bt (nv:=3) (caps:=[]) (it:=uw (ae (am 0) (ae (am 2) (aD)))) (tg:=tgT (f6 (tgC 0) (f6 (tgT (f6 (tgC 1) (f6 (tgC 2) kY))) kY))) (f:=aL uA (ae (am 0) (ae (am 2) (aD)))) (δ:=vw (uZ ps r c .non PM PM PM)) (β:=β) (r.zip ps) (λq=>D.tup [.int (q.1:Int),pN q.2]) _ (by
   rw[←kT (λx:Nat=>D.int (x:Int)) pN];refine yh (x:=tN r) (y:= .lst (ps.map pN)) rfl rfl ?_ rfl;show on _=on _;rw[Qa];rfl) (λq _=>⟨[on (.int (q.1:Int)),on (.int (q.2.1:Int)),on (.int (q.2.2:Int))],rfl,ai rfl DA⟩) (bu (by rw[WR];omega))
 refine aB (d:= .lst ((stB ps r c 0).map eN)) (β1:=β) (ai (aa (ai (aa (ai rfl rfl) (aa rfl rfl)) eP) rfl) xC) ?_;refine bC (ds:=bf 0 r.length) (β1:=β) (bx (aa (ai (z:= .int (r.length:Int)) rfl (by show on (D.int _)=_;rw[PL,PL])) rfl) (rg1 (by omega) (by omega))) (λk δ C=>β=C/\∃B t u,δ=uZ ps r c (.lst ((stB ps r c k).map eN)) B t u) ⟨rfl,PM,PM,PM,rfl⟩ ?_ ?_
 ·rintro k d δ _ hd ⟨rfl,B,t,u,rfl⟩
  obtain⟨m,rfl⟩:=sI hd;have j:k<ps.length:=by omega
  have J:ps[k]?=on ps[k]:=PP j;have b40:=A _ (QP j);have W:(los ps).sum<=160:=by
   have g:∀l:List (Nat×Nat),(∀p∈l,p.1<=40/\p.2<=40)->(los l).sum<=40*l.length:=λl=>by
    induction l with
    |nil=>intro _;exact P9 _
    |cons p l ih=>
     intro h;have:=ih λq v=>h q (PR _ v);have:=(h p P3).1;simp only[los,Qf,Qw,Qe]at*;omega
   have:=g ps A;omega
  have F:∀(l:List Nat) (n:Nat),(l.drop n).sum<=l.sum:=λl n=>by
   conv=>rhs;rw[←Ti n l,WT]
   omega
  have L:=F (los ps) (k+1);have N:=Qs (F (tps ps r) (k+1)) yu;refine⟨uZ ps r c (.lst ((stB ps r c k).map eN)) (on (.sh (.int (k:Int)))) t u,rfl,?_⟩;refine aB (d:= .int ((((los ps).drop (k+1)).sum:Nat):Int)) (β1:=β) (ai (aa (rc rfl (x_2 rfl rfl rfl)) rfl) ((Rh (λl=>iE [.lst l]) (vf (k:=k+1))).trans (yD _ _))) ?_;refine aB (d:= .int ((((tps ps r).drop (k+1)).sum:Nat):Int)) (β1:=β) (ai (aa (rc rfl (x_2 rfl rfl rfl)) rfl) ((Rh (λl=>iE [.lst l]) (vf (k:=k+1))).trans (yD _ _))) ?_;refine ak (aB (d:= .lst ((stB ps r c (k+1)).map eN)) (β1:=β) ?_ (aZ ⟨rfl,_,_,_,rfl⟩));have e:(stB ps r c (k+1)).map eN=(stB ps r c k).flatMap λb=>(nxB r[k] ps[k] ((los ps).drop (k+1)).sum ((tps ps r).drop (k+1)).sum b).map eN:=by
   show((stB ps r c k).flatMap _).map eN=_;rw[S3,gq m,gq j]
  rw[e];refine Ln (stB ps r c k) eN _ rfl (λb A=>⟨[on (tN b.1),on (.int (b.2:Int)),PM,on (.lst ((nI (los ps)).map .int)),on (.int (k:Int)),on (.int ((((tps ps r).drop (k+1)).sum:Nat):Int)),on (.lst ((nI (tps ps r)).map .int)),on (.int ((((los ps).drop (k+1)).sum:Nat):Int))],rfl,?_⟩) (by
   rw[←e,PL];exact o (k+1) m)
  obtain⟨b2,b1⟩:=yG ps r c k b A;have X:=gG (QP m);unfold nxB;generalize ((los ps).drop (k+1)).sum=few at*;generalize ((tps ps r).drop (k+1)).sum=most at*;refine(zx (Qb (US (US r[k] ps[k].2+few) b.2+1-few-Y5 ps[k].1 (b.2-most))) (λi=>D.int ((Y5 ps[k].1 (b.2-most)+i:Nat):Int)) (λi=>eN (b.1++[Y5 ps[k].1 (b.2-most)+i],b.2-(Y5 ps[k].1 (b.2-most)+i))) ?_ ?_).trans (by rw[Qa];rfl)
  ·refine bx (as:=[.int ((Y5 ps[k].1 (b.2-most):Nat):Int),.int (US ((US r[k] ps[k].2:Nat):Int) ((b.2:Int)-few)+1)]) (aa (ai (aa (x_2 rfl rfl (cm (d:= .int (ps[k].1:Int)) ?_)) (aa (x_2 rfl rfl rfl) rfl)) (ML.trans ?_)) (aa (x_2 (ai (aa (x_2 rfl rfl (cm (d:= .int ((US r[k] ps[k].2:Nat):Int)) ?_)) (aa (x_2 rfl rfl rfl) rfl)) DA) rfl rfl) rfl)) ((rg2I (by omega) (by omega) (by omega)).trans ?_)
   ·unfold los
    rw[PY,PY,PY,J];rfl
   ·rw[show Y5 (ps[k].1:Int) ((b.2:Int)-(most:Int))=((Y5 ps[k].1 (b.2-most):Nat):Int) by omega]
   ·rw[PY,PY,yv j m];rfl
   ·rw[show(US ((US r[k] ps[k].2:Nat):Int) ((b.2:Int)-few)+1-((Y5 ps[k].1 (b.2-most):Nat):Int)).toNat=US (US r[k] ps[k].2+few) b.2+1-few-Y5 ps[k].1 (b.2-most) by omega]
  ·refine λi O=>⟨[on (tN b.1),on (.int (b.2:Int)),on (.int ((Y5 ps[k].1 (b.2-most)+i:Nat):Int)),on (.lst ((nI (los ps)).map .int)),on (.int (k:Int)),on (.int (most:Int)),on (.lst ((nI (tps ps r)).map .int)),on (.int (few:Int))],rfl,ai (aa (x_2 rfl (ai rfl rfl) (addT (l:=b.1) (c:=Y5 ps[k].1 (b.2-most)+i) (by omega))) (aa (x_2 rfl rfl rfl) rfl)) (eP.trans ?_)⟩
   have Q:=Qq.mp O;show on (D.tup [_,.int _])=on (D.tup [_,.int _]);rw[show(b.2:Int)-((Y5 ps[k].1 (b.2-most)+i:Nat):Int)=((b.2-(Y5 ps[k].1 (b.2-most)+i):Nat):Int) by omega]
 ·rintro δ _ ⟨rfl,B,t,u,rfl⟩
  rw[mh];have h:=lJ (nv:=2) (caps:=[]) (it:=eC (am 5)) (tg:=tgT (f6 (tgC 0) (f6 (tgC 1) kY))) (tt:=fB (f2 (jZ) (am 1) (fC (.int 0)))) (f:=am 0) (δ:=vwA (uZ ps r c (.lst ((stB ps r c r.length).map eN)) B t u)) (β:=β) (stB ps r c r.length) eN (λb=>tN b.1) (λb=>decide ((b.2:Int)=0)) rfl (λb _=>⟨[on (tN b.1),on (.int (b.2:Int))],rfl,x_B (x_2 rfl rfl eq_int),λ_=>rfl⟩) (o _ (P9 _));refine ak (aK h ⟨rfl,?_⟩);rw[←JZ v,Qa];rfl
theorem vm{α:Type}{tg:TgF}{b:FL}{δ:Dn}{β:Bg}(u:α->D)(o:α->List D):∀(xs:List α),(∀x∈xs,∃δ1,tg (u x) δ=on δ1/\b δ1 β=on (.ok (o x),β))->cLp tg (λ_=>M.ret PQ) b (xs.map u) δ β=on (.ok (xs.flatMap o),β)
 |[],_=>rfl
 |x::xs,h=>by
  obtain⟨δ1,c,d⟩:=h x P3;have e:=vm u o xs λy f=>h y (PR _ f);rw[Qf,cLp];simp only[c,M.bind,M.ret,reduceIte,d,e,Rb]
theorem lL{α:Type}{nv:Nat}{caps:List Nat}{it:FL}{tg:TgF}{b:FL}{c:List D->Option D}{δ:Dn}{β:Bg}{d:D}(xs:List α)(u:α->D)(o:α->List D)(e:it δ β=on (.ok (xs.map u),β))
  (f:∀x∈xs,∃δ1,tg (u x) (cSt nv caps δ)=on δ1/\b δ1 β=on (.ok (o x),β)) (g:c (xs.flatMap o)=on d):hV nv caps it tg (λ_=>M.ret PQ) b c δ β=on (.ok d,β):=by
 unfold hV;rw[e];simp only[vm u o xs f,g,RX]
theorem O4{α:Type}{it:FL}{tg:TgF}{b:FL}{δ:Dn}{β:Bg}(xs:List α)(u:α->D)(o:α->List D)(c:it δ β=on (.ok (xs.map u),β))(d:∀x∈xs,∃δ1,tg (u x) δ=on δ1/\b δ1 β=on (.ok (o x),β)):cNx it tg (λ_=>M.ret PQ) b δ β=on (.ok (xs.flatMap o),β):=by
 unfold cNx M.bind;rw[c];exact vm u o xs d
noncomputable abbrev fA(B:List (List (Nat×Nat))):LP:=B.map λrow=>row.map λp=>((p.1:Int),(p.2:Int))
abbrev bDN(B:List (List (Nat×Nat))):D:=da (fA B)
noncomputable def mM(B:List (List (Nat×Nat)))(k:Nat):List (Nat×Nat):=B.map λrow=>row.getD k (0,0)
def BOk(r c:Nat)(B:List (List (Nat×Nat))):Prop:=Shp r c B/\∀row∈B,∀p∈row,p.1<=p.2/\p.2<=40
def wB(B:List (List (Nat×Nat)))(cs:List Nat):Wy:=λk r=>vB (mM B k) r (cs.getD k 0)
theorem o4(B:List (List (Nat×Nat)))(cs:List Nat):WOk cs (wB B cs):=λk r=>UH
theorem BOk.col{r c k:Nat}{B:List (List (Nat×Nat))}(h:BOk r c B)(e:k<c):(mM B k).length=r/\∀p∈mM B k,p.1<=40/\p.2<=40:=by
 refine⟨by unfold mM;rw[PL,h.1.1],λp d=>?_⟩;obtain⟨row,b,rfl⟩:=Qc.mp d;have l:=h.1.2 row b;rw[gq (by omega)];have:=h.2 row b _ (QP (show k<row.length by omega));omega
theorem Lo{r cs:List Nat}{B:List (List (Nat×Nat))}{k:Nat}(c:Nrw r)(hB:BOk r.length cs.length B)(i:cs.sum<=40)(e:k<cs.length):(cj K a).1 [tN r,nL cs,bDN B,.int (k:Int)] β=on (.ok (.lst ((wB B cs k r).map tN)),β):=by
 have g:cs[k]?=on (cs.getD k 0):=by rw[PV,PP e];rfl
 obtain⟨l,q⟩:=hB.col e;unfold cj
 dsimp only
 refine aI (ak (aK (af (aa rfl (aa (x_2 rfl rfl (cm (d:= .int (cs.getD k 0:Int)) (by rw[PY,PY,g];rfl))) (aa ?_ rfl))) (Nb c l q (Qs (gG (Qi g)) i))) ⟨rfl,rfl⟩));have h:=bt (nv:=1) (caps:=[3]) (it:=eC (am 2)) (tg:=tgC 0) (f:=f2 ixD (am 0) (am 1)) (δ:=[on (tN r),on (nL cs),on (bDN B),on (.int (k:Int))]) (β:=β) B (λrow=>D.lst (row.map pN)) (λrow=>pN (row.getD k (0,0))) (cr rfl (by
  show on _=on _;rw[Qa,Qa];exact Rh on (QD λrow _=>Rh D.lst (by show Rf pD (Rf _ row)=_;rw[Qa];rfl)))) (λrow b=>⟨[on (D.lst (row.map pN)),on (.int (k:Int))],rfl,x_2 rfl rfl (cm (by
   have l:=hB.1.2 row b;rw[PY,gq (by omega),PP (by omega)];rfl))⟩) (bu (by rw[hB.1.1];have:=c.2.1;omega))
 refine h.trans ?_;unfold mM;rw[Qa];rfl
theorem zO:∀{r v:List Nat},LeN v r->(r.zip v).map (λp=>D.int ((p.1:Int)-(p.2:Int)))=(nI (less r v)).map D.int
 |[],[],_=>rfl
 |x::r,y::v,h=>by
  have e:=zO h.2;have b:=h.1;show _::_=D.int ((x-y:Nat):Int)::(nI (less r v)).map D.int;rw[←e];show D.int ((x:Int)-(y:Int))::_=_;rw[show(x:Int)-(y:Int)=((x-y:Nat):Int) by omega];rfl
 |[],_::_,h=>h.elim
 |_::_,[],h=>h.elim
theorem jJ{r v:List Nat}(h:LeN v r)(b:r.length<=4):(bD K a).1 [tN r,tN v] β=on (.ok (tN (less r v)),β):=by
 unfold bD
 dsimp only
 refine aI (ak (aK (ai (aa (x:= .lst ((nI (less r v)).map D.int)) ?_ rfl) rfl) ⟨rfl,rfl⟩));rw[←zO h];refine bt (r.zip v) (λp=>D.tup [.int (p.1:Int),.int (p.2:Int)]) _ ?_ (λp _=>⟨[on (.int (p.1:Int)),on (.int (p.2:Int))],rfl,rfl⟩) (bu (by rw[WR];omega));rw[←kT (λx:Nat=>D.int (x:Int)) (λx:Nat=>D.int (x:Int))];refine yh (x:=tN r) (y:=tN v) rfl rfl ?_ ?_
 ·show on _=on _
  rw[Qa];rfl
 ·show on _=on _
  rw[Qa];rfl
structure Nt0 (rs cs:List Nat):Prop where
 nr:Nrw rs
 wd:pr (rs.dropLast.map (·+1))<63
 sm:rs.sum=cs.sum
 c1:1<=cs.length
 c6:cs.length<=6
structure Nt1 (K:Qo) (a:Ad) (rs cs:List Nat) (W:Wy) (bd:D):Prop extends Nt0 rs cs where
 ok:WOk cs W
 fl:∀{β:Bg} {k:Nat} {r:List Nat},k<cs.length->Nrw r->r.length=rs.length->(cj K a).1 [tN r,nL cs,bd,.int (k:Int)] β=on (.ok (.lst ((W k r).map tN)),β)
theorem Nt1.at{rs cs r:List Nat}{k:Nat}{W:Wy}{b:D}(h:Nt1 K a rs cs W b)(c:k<=cs.length)(d:r∈lvW W rs k):Nrw r/\r.length=rs.length/\r.sum<=40:=by
 have q:=(jl h.ok h.sm k c r d).1;obtain⟨e,f,g,i⟩:=h.nr;have q1:=q.len;have q2:=q.sum;have q3:=q.pr;exact⟨⟨by omega,by omega,by omega,by omega⟩,q1,by omega⟩
abbrev lvD(W:Wy)(rs:List Nat)(k:Nat):D:= .lst ((lvW W rs k).map tN)
theorem CV{rs cs:List Nat}{W:Wy}{b:D}(h:Nt1 K a rs cs W b):(f7 K a).1 [nL rs,nL cs,b] β=on (.ok (.lst ((Qb (cs.length+1)).map (lvD W rs))),β):=by
 have c6:=h.c6;unfold f7
 dsimp only
 refine aI ?_;refine aB (d:=lvD W rs 0) (β1:=β) (ai (aa (ai rfl rfl) rfl) xC) ?_;refine m5 (ds:=[lvD W rs 0]) (β1:=β) rfl (show 1<=Qp by decide) ?_;refine bC (ds:=bf 0 cs.length) (β1:=β) (bx (aa (ai rfl (cE (r:=cs.length) (by rw[PL,PL]))) rfl) (rg1 (by omega) (by omega))) (λk δ c=>β=c/\∃e f,δ=[on (.sh (nL rs)),on (.sh (nL cs)),on (.sh (b)),on (.sh (lvD W rs k)),on (.own ((Qb (k+1)).map (lvD W rs))),e,f]) ⟨rfl,PM,PM,rfl⟩ ?_ ?_
 ·rintro k d δ _ hd ⟨rfl,e,f,rfl⟩
  obtain⟨g,rfl⟩:=sI hd;refine⟨_,rfl,aB (d:=lvD W rs (k+1)) (β1:=β) ?_ (m6 (cs:=(Qb (k+1)).map (lvD W rs)) (d:=lvD W rs (k+1)) rfl rfl (Qv (show _<1000 by rw[PL,QC];omega) (by decide)) (ak (aB (d:=lvD W rs (k+1)) (β1:=β) rfl (aZ ⟨rfl,on (.sh (.int (k:Int))),on (.sh (lvD W rs (k+1))),?_⟩))))⟩
  ·refine lL (lvW W rs k) tN (λr=>(W k r).map λv=>tN (less r v)) rfl (λr j=>⟨[on (tN r),PM,on (nL cs),on (b),on (.int (k:Int))],rfl,?_⟩) ?_
   ·obtain⟨i,l,_⟩:=h.at (by omega) j
    exact zx _ tN _ (cr (af rfl (h.fl g i l)) rfl) (λv m=>⟨[on (tN r),on (tN v),on (nL cs),on (b),on (.int (k:Int))],rfl,af rfl (jJ (cw ((h.ok k r).subset m)) i.2.1)⟩)
   ·rw[←KR h.ok h.sm h.nr.1 h.wd g]
    unfold nwI;rw[S3];simp only[Qa];rfl
  ·rw[SK (n:=k+1),QK];rfl
 ·rintro δ _ ⟨rfl,e,f,rfl⟩
  rw[mh];exact ak (aK rfl ⟨rfl,rfl⟩)
theorem dT{i:Nat}{op:D->D->Option D}{f:FD}{c d z:D}{h:G}{δ:Ds}{β β1:Bg}{Q:Out->Bg->Prop}(b:(vw δ).getD i PM=on c)(e:f (vw δ) β=on (.ok d,β1))(g:op c d=on z)(k:Gw h (δ.set i (on (.sh z))) β1 Q):Gw (aY (xQ i op f) h) δ β Q:=fQ (by unfold xQ;simp only[b,e,g,RX]) k
theorem yY{m i:Nat}{d:D}(h:(bf 2 m)[i]?=on d):i<m/\d= .int ((i+2:Nat):Int):=by
 obtain⟨x,b,rfl⟩:=bB (f:=λ(i:Nat)=>D.int (2+(i:Int))) (xs:=Qb m) h;have c:=(P4.mp b).1;rw[QC]at c;rw[Rt c]at b;cases b;exact⟨c,by congr 1;omega⟩
theorem yV(lo:Int)(m:Nat):(bf lo m).length=m:=by unfold bf;rw[PL,QC]
theorem smN{n:Nat}(h:n<=2^11):n<2^1000:=cc h (by decide)
theorem wD(n:Nat):facN (n-1+1)=facN n:=by cases n<;>rfl
theorem wA{n:Nat}(h:n<=40):(jW K a).1 [.int (n:Int)] β=on (.ok (.int ((facN n:Nat):Int)),β):=by
 unfold jW
 dsimp only
 refine aI ?_;refine aB (d:= .int 1) (β1:=β) rfl ?_;refine bC (ds:=bf 2 (n-1)) (β1:=β) (bx (aa rfl (aa (x_2 rfl rfl rfl) rfl)) (rg2 (by omega))) (λi δ b=>β=b/\∃c,δ=[on (.sh (.int (n:Int))),on (.sh (.int ((facN (i+1):Nat):Int))),c]) ⟨rfl,PM,rfl⟩ ?_ ?_
 ·rintro i d δ _ hd ⟨rfl,c,rfl⟩
  obtain⟨e,rfl⟩:=yY hd;exact⟨_,rfl,ak (dT rfl rfl (jY (cc (kN (by omega)) (by decide)) (smN (by omega))) (aZ ⟨rfl,_,rfl⟩))⟩
 ·rintro δ _ ⟨rfl,c,rfl⟩
  rw[yV,wD];exact ak (aK rfl ⟨rfl,rfl⟩)
theorem uE{n:Nat}(h:n<=40):(il K a).1 [.int (n:Int)] β=on (.ok (.int ((facN n:Nat):Int)),β):=by
 unfold il
 dsimp only
 refine aI ?_;refine aB (d:= .int 1) (β1:=β) rfl ?_;refine bC (ds:=bf 2 (n-1)) (β1:=β) (bx (aa rfl (aa (x_2 rfl rfl rfl) rfl)) (rg2 (by omega))) (λi δ b=>β=b/\∃c,δ=[on (.sh (.int (n:Int))),on (.sh (.int ((facN (i+1):Nat):Int))),c]) ⟨rfl,PM,rfl⟩ ?_ ?_
 ·rintro i d δ _ hd ⟨rfl,c,rfl⟩
  obtain⟨e,rfl⟩:=yY hd;exact⟨_,rfl,ak (aB (x_2 rfl rfl (jY (cc (kN (by omega)) (by decide)) (smN (by omega)))) (aZ ⟨rfl,_,rfl⟩))⟩
 ·rintro δ _ ⟨rfl,c,rfl⟩
  rw[yV,wD];exact ak (aK rfl ⟨rfl,rfl⟩)
def wayN(l:List Nat):Nat:=facN l.sum/pr (l.map facN)
theorem Ou{l:List Nat}{d:D}(h:Sq l d):pb [d]=on (.int ((l.sum:Nat):Int)):=by
 rw[←gl];rcases h with rfl|rfl
 ·exact LO _
 ·exact LN _
theorem pR(l:List Nat):iE [nL l]=on (.int ((l.sum:Nat):Int)):=by rw[←gl];exact eY _
theorem sY{l:List Nat}{i n:Nat}(h:l.sum<=40)(hn:l[i]?=on n):n<=40:=Qs (gG (Qi hn)) h
theorem m4{l:List Nat}{cd:D}(hs:Sq l cd)(h:l.sum<=40):(kz K a).1 [cd] β=on (.ok (.int ((wayN l:Nat):Int)),β):=by
 unfold kz
 dsimp only
 refine aI ?_;refine bC (ds:=(nI l).map D.int) (β1:=β) (cr rfl hs.seq) (λi δ c=>β=c/\∃b,δ=[on (.sh cd),b,PM]) ⟨rfl,PM,rfl⟩ ?_ ?_
 ·rintro i d δ _ hd ⟨rfl,b,rfl⟩
  obtain⟨n,hn,rfl⟩:=pS hd;exact⟨_,rfl,ak (cI (β1:=β) (x_B (x_2 rfl rfl (by show on (D.bl (decide ((n:Int)<0)))=_;rw[QL (by omega)]))) (bj (aZ ⟨rfl,_,rfl⟩)))⟩
 rintro δ _ ⟨rfl,b,rfl⟩;refine aB (d:= .int ((facN l.sum:Nat):Int)) (β1:=β) (af (aa (ai rfl (Ou hs)) rfl) (wA h)) ?_;refine bC (ds:=(nI l).map D.int) (β1:=β) (cr rfl hs.seq) (λi δ c=>β=c/\∃b,δ=[on (.sh cd),b,on (.sh (.int ((facN l.sum/pr ((l.take i).map facN):Nat):Int)))]) ⟨rfl,b,by rw[VU,Ug,zc,Nat.div_one];rfl⟩ ?_ ?_
 ·rintro i d δ _ hd ⟨rfl,b,rfl⟩
  obtain⟨n,hn,rfl⟩:=pS hd;refine⟨_,rfl,ak (dT rfl (af rfl (wA (sY h hn))) (xV (kM n) (cc (kN (sY h hn)) (by decide))) (aZ ⟨rfl,on (.sh (.int (n:Int))),?_⟩))⟩;rw[kB hn,XR];rfl
 ·rintro δ _ ⟨rfl,b,rfl⟩
  rw[mtq,Sg];exact ak (aK rfl ⟨rfl,rfl⟩)
theorem wC{l:List Nat}{i:Nat}(h:l.sum<=40)(c:l.length<=4):pr ((l.take i).map facN)<=2^640:=by
 refine Qs (xp (m:=160) λx b=>?_) (SQ (by decide) ?_)
 ·obtain⟨n,hn,rfl⟩:=Qc.mp b
  exact kN (Qs (gG (UC hn)) h)
 ·rw[PL,R4];omega
theorem DG{l:List Nat}(h:l.sum<=40)(e:l.length<=4):(oG K a).1 [nL l] β=on (.ok (.int ((wayN l:Nat):Int)),β):=by
 unfold oG
 dsimp only
 refine aI ?_;refine aB (d:= .int 1) (β1:=β) rfl ?_;refine bC (ds:=(nI l).map D.int) (β1:=β) rfl (λi δ b=>β=b/\∃c,δ=[on (.sh (nL l)),on (.sh (.int ((pr ((l.take i).map facN):Nat):Int))),c]) ⟨rfl,PM,rfl⟩ ?_ ?_
 ·rintro i d δ _ hd ⟨rfl,c,rfl⟩
  obtain⟨n,hn,rfl⟩:=pS hd;refine⟨_,rfl,ak (aB (x_2 rfl (af rfl (uE (sY h hn))) (jY (cc (wC h e) (by decide)) (cc (kN (sY h hn)) (by decide)))) (aZ ⟨rfl,on (.sh (.int (n:Int))),?_⟩))⟩;rw[kB hn];rfl
 ·rintro δ _ ⟨rfl,c,rfl⟩
  rw[mtq,Sg];have f:=wC (i:=l.length) h e;rw[Sg]at f;exact ak (aK (x_2 (af (aa (ai rfl (pR l)) rfl) (uE h)) rfl (xV (pK λx g=>by obtain⟨n,_,rfl⟩:=Qc.mp g;exact kM n) (cc f (by decide)))) ⟨rfl,rfl⟩)
theorem lU{l:List Nat}(h:l.sum<=40):wayN l<=2^160:=Qs (W0 _ _) (kN h)
theorem j4(l:List Nat):wayN l=mu l:=MI l
theorem pT{l:List Nat}(h:l.sum<=40):mu l<=2^160:=by rw[←j4];exact lU h
theorem HZ{α:Type}{l:List α}{i:Nat}{x:α}(f:α->Nat)(h:l[i]?=on x):L2.Nt.sm (l.take (i+1)) f=L2.Nt.sm (l.take i) f+f x:=by
 rw[Tj,h,j8];rfl
abbrev cv(W:Wy)(m k:Nat)(r:List Nat):D:= .tup [.int ((tbW W (m-k) k r:Nat):Int),.int ((dlW W (m-k) k r:Nat):Int)]
abbrev dcL(W:Wy)(rs:List Nat)(m k:Nat):D:= .dct PX ((lvW W rs k).map λr=>((0:Int),nI r)) ((lvW W rs k).map (cv W m k))
theorem zJ{f:List Nat->D}{u:List Nat}:∀{L:List (List Nat)},u∈L->lkD (L.map λr=>((0:Int),nI r)) (L.map f) (0,nI u)=on (f u)
 |r::L,h=>by
  unfold lkD;rw[Qf,Qf,Sh,Tc];by_cases q:r=u
  ·rw[q,Qd rfl];rfl
  ·rw[QL λe=>q (gZ (UP.mp e).2)]
   exact zJ ((Qh.mp h).resolve_left λe=>q e.symm)
theorem Ni{W:Wy}{rs u:List Nat}{m k:Nat}(h:u∈lvW W rs k):EG (dcL W rs m k) (tN u)=on (cv W m k u):=by
 show(iq PX (dK PX (0,nI u))).bind _=_;rw[qP λ_=>rfl];exact zJ h
theorem xv{rs cs r:List Nat}{W:Wy}{q:D}{k:Nat}(h:Nt1 K a rs cs W q)(o:k<cs.length)(p:r∈lvW W rs k):(ik K a).1 [tN r,.lst ((W k r).map tN),dcL W rs cs.length (k+1)] β=on (.ok (cv W cs.length k r),β):=by
 obtain⟨t,y,u⟩:=h.at (by omega) p;unfold ik
 dsimp only
 refine aI ?_;refine aB (d:= .int 0) (β1:=β) rfl (aB (d:= .int 0) (β1:=β) rfl ?_);refine bC (ds:=(W k r).map tN) (β1:=β) rfl (λi δ e=>β=e/\∃f g j,δ=[on (.sh (tN r)),on (.sh (.lst ((W k r).map tN))),on (.sh (dcL W rs cs.length (k+1))),on (.sh (.int ((L2.Nt.sm ((W k r).take i) λv=>tbW W (cs.length-(k+1)) (k+1) (less r v):Nat):Int))),on (.sh (.int ((L2.Nt.sm ((W k r).take i) λv=>mu v*dlW W (cs.length-(k+1)) (k+1) (less r v):Nat):Int))),f,g,j]) ⟨rfl,PM,PM,PM,rfl⟩ ?_ ?_
 ·rintro i d δ _ hd ⟨rfl,f,g,j,rfl⟩
  obtain⟨v,l,rfl⟩:=bB hd;have hm:=Qi l;have m:less r v∈lvW W rs (k+1):=nA.mpr ⟨r,p,v,hm,rfl⟩;have b:=(h.ok k r).subset hm;have hs:=(jl h.ok h.sm (k+1) o _ m).2;have c:v.sum<=40:=Qs (cw b).sum u;have n:=(h.at o m).2.2;refine⟨_,rfl,kU (d:=cv W cs.length (k+1) (less r v)) (β1:=β) (x_2 rfl (af rfl (jJ (cw b) t.2.1)) (Ni m)) rfl (dT rfl rfl rfl (ak (dT rfl (x_2 (af rfl (m4 (.inr rfl) c)) rfl (jY (cc (lU c) (by decide)) (cc (Qs (u7 h.ok _ _ _ (by omega)) (by rw[u6 _ _ hs];exact pT n)) (by decide)))) rfl (aZ ⟨rfl,on (.sh (tN v)),on (.sh (.int ((tbW W (cs.length-(k+1)) (k+1) (less r v):Nat):Int))),on (.sh (.int ((dlW W (cs.length-(k+1)) (k+1) (less r v):Nat):Int))),?_⟩))))⟩;rw[HZ _ l,HZ _ l,j4,Tf,Tf];rfl
 ·rintro δ _ ⟨rfl,f,g,j,rfl⟩
  rw[PL,Sg];refine ak (aK (ai rfl eP) ⟨rfl,?_⟩);show R1 (D.tup [.int ((tbW W (cs.length-k) k r:Nat):Int),.int ((dlW W (cs.length-k) k r:Nat):Int)])=_;rw[show cs.length-k=cs.length-(k+1)+1 by omega];rfl
theorem wR{f g:FD}{δ:Dn}{k v:D}(b:f δ β=on (.ok k,β))(c:g δ β=on (.ok v,β)):EK f g δ β=on (.ok [.tup [k,v]],β):=by
 unfold EK M.bind;rw[b];simp only[c,M.ret]
theorem uX{α b:Type}(f:α->b)(l:List α):(l.flatMap λx=>[f x])=l.map f:=by
 induction l with
 |nil=>rfl
 |cons x l ih=>rw[Rb,ih];rfl
theorem zG{rs cs:List Nat}{W:Wy}{b:D}(h:Nt1 K a rs cs W b){k:Nat}(c:k<=cs.length):(lvW W rs k).length<=62:=by
 have:=KY h.ok h.sm c;have:=h.wd;omega
theorem dk0{rs cs:List Nat}{W:Wy}{b:D}(h:Nt1 K a rs cs W b){k:Nat}(c:k<=cs.length){os:List D}(e:os=(lvW W rs k).map λr=> .tup [tN r,cv W cs.length k r]):lI PX os=on (dcL W rs cs.length k):=by
 refine(wJ (kvs:=(lvW W rs k).map λr=>(((0:Int),nI r),cv W cs.length k r)) ⟨?_,?_,?_,?_⟩).trans ?_
 ·rw[e,Qa];rfl
 ·rw[Qa];exact uu (λx y q=>gZ (UP.mp q).2) (uC k)
 ·rw[PL];exact bu (by have:=zG h c;omega)
 ·rintro p d _
  obtain⟨r,_,rfl⟩:=Qc.mp d;rfl
 ·rw[Qa,Qa];rfl
theorem OR{n:Nat}(h:n<=1000):sF [.int (n:Int)]=on (iH n):=by
 simp only[sF];rw[P7 (by simp only[QJ,QU];omega),Ry]
theorem OS{n i:Nat}{d:D}(h:(iH n)[i]?=on d):i<n/\d= .int ((n-1-i:Nat):Int):=by
 obtain⟨x,b,rfl⟩:=bB (f:=λ(i:Nat)=>D.int ((n:Int)-1-i)) (xs:=Qb n) h;have c:=(P4.mp b).1;rw[QC]at c;rw[Rt c]at b;cases b;exact⟨c,by congr 1;omega⟩
theorem yX{f:Nat->D}{n k:Nat}(h:k<n):((Qb n).map f)[k]?=on (f k):=by rw[PY,Rt h];rfl
theorem AK{f:Nat->D}:∀n j,cP j ((List.range' j n).map f)=(List.range' j n).map λk=> .tup [.int (k:Int),f k]
 |0,_=>rfl
 |n+1,j=>by
  rw[List.range'_succ,Qf,Qf,←AK n (j+1)];rfl
theorem Kv{f:Nat->D}(m:Nat):((Qb (m+1)).map λj=>f (m-j)).reverse=(Qb (m+1)).map f:=Sc (by simp) λi b c=>by
 simp only[Yu,PL,QC]at b;simp only[Yk,SY,S6,PL,QC];congr 1;omega
abbrev Oo(W:Wy)(rs:List Nat)(m:Nat):List D:=(Qb (m+1)).flatMap λk=>(lvW W rs k).map (cv W m k)
abbrev qX(W:Wy)(rs:List Nat)(m:Nat):D:= .dct PQ (kyW W rs (m+1)) (Oo W rs m)
theorem dk1{rs cs:List Nat}{W:Wy}{b:D}(h:Nt1 K a rs cs W b){os:List D}(e:os=(Qb (cs.length+1)).flatMap λ(k:Nat)=>(lvW W rs k).map λr=> .tup [.tup [.int (k:Int),tN r],cv W cs.length k r]):lI PQ os=on (qX W rs cs.length):=by
 refine(wJ (kvs:=(Qb (cs.length+1)).flatMap λ(k:Nat)=>(lvW W rs k).map λr=>(((k:Int),nI r),cv W cs.length k r)) ⟨?_,?_,?_,?_⟩).trans ?_
 ·rw[e,S3];simp only[Qa];rfl
 ·have:=zR (W:=W) (rs:=rs) (cs.length+1)
  unfold kyW at this;rw[S3];simp only[Qa];exact this
 ·refine bu (Qs (nN (n:=62) λk c=>?_) (by have:=h.c6;rw[QC];omega))
  have:=Qq.mp c;rw[PL];exact zG h (by omega)
 ·rintro p _ q
  cases q
 ·unfold qX kyW
  rw[S3,S3];simp only[Qa];rfl
theorem xZ{rs cs:List Nat}{W:Wy}{b:D}(h:Nt1 K a rs cs W b):(eG K a).1 [nL rs,nL cs,b] β=on (.ok (qX W rs cs.length),β):=by
 have c6:=h.c6;unfold eG
 dsimp only
 refine aI ?_;refine aB (d:= .lst ((Qb (cs.length+1)).map (lvD W rs))) (β1:=β) (af rfl (CV h)) ?_;refine aB (d:= .int (cs.length:Int)) (β1:=β) (ai rfl (cE (by rw[PL,PL]))) ?_;refine aB (d:=dcL W rs cs.length cs.length) (β1:=β) (lL (lvW W rs cs.length) tN (λr=>[.tup [tN r,.tup [.int 1,.int 1]]]) (cr (x_2 rfl rfl (cm (yX (by omega)))) rfl) (λr _=>⟨[on (tN r)],rfl,wR rfl (ai rfl eP)⟩) (dk0 h (P9 _) (by rw[uX];simp only[cv,UV];rfl))) ?_;refine m5 (ds:=[dcL W rs cs.length cs.length]) (β1:=β) rfl (show 1<=Qp by decide) ?_;refine bC (ds:=iH cs.length) (β1:=β) (bx rfl (OR (by omega))) (λi δ c=>β=c/\∃e f,δ=[on (.sh (nL rs)),on (.sh (nL cs)),on (.sh (b)),on (.sh (.lst ((Qb (cs.length+1)).map (lvD W rs)))),on (.sh (.int (cs.length:Int))),on (.sh (dcL W rs cs.length (cs.length-i))),on (.own ((Qb (i+1)).map λj=>dcL W rs cs.length (cs.length-j))),e,f]) ⟨rfl,PM,PM,rfl⟩ ?_ ?_
 ·rintro i d δ _ hd ⟨rfl,e,f,rfl⟩
  obtain⟨p,rfl⟩:=OS hd;have l:cs.length-1-i<cs.length:=by omega
  have o:cs.length-i=(cs.length-1-i)+1:=by omega
  have m:cs.length-(i+1)=cs.length-1-i:=by omega
  rw[o];refine⟨_,rfl,aB (d:=dcL W rs cs.length (cs.length-1-i+1)) (β1:=β) rfl (aB (d:=dcL W rs cs.length (cs.length-1-i)) (β1:=β) (lL (lvW W rs (cs.length-1-i)) tN (λr=>[.tup [tN r,cv W cs.length (cs.length-1-i) r]]) (cr (x_2 rfl rfl (cm (yX (by omega)))) rfl) (λr g=>⟨[on (tN r),on (nL cs),on (b),on (.int ((cs.length-1-i:Nat):Int)),on (dcL W rs cs.length (cs.length-1-i+1))],rfl,wR rfl (af (aa rfl (aa (af rfl (h.fl l (h.at (by omega) g).1 (h.at (by omega) g).2.1)) rfl)) (xv h l g))⟩) (dk0 h (by omega) (uX _ _))) (ak (m6 (cs:=(Qb (i+1)).map λj=>dcL W rs cs.length (cs.length-j)) (d:=dcL W rs cs.length (cs.length-1-i)) rfl rfl (Qv (show _<1000 by rw[PL,QC];omega) (by decide)) (aZ ⟨rfl,on (.sh (.int ((cs.length-1-i:Nat):Int))),on (.sh (dcL W rs cs.length (cs.length-1-i+1))),?_⟩))))⟩;rw[SK (n:=i+1),QK,m];show _=[_,_,_,_,_,_,on (Sl.own (_++[dcL W rs cs.length (cs.length-(i+1))])),_,_];rw[m];rfl
 ·rintro δ _ ⟨rfl,e,f,rfl⟩
  rw[show(iH cs.length).length=cs.length by unfold iH;rw[PL,QC]];refine ak (aK (lL (Qb (cs.length+1)) (λk=> .tup [.int (k:Int),dcL W rs cs.length k]) (λ(k:Nat)=>(lvW W rs k).map λr=> .tup [.tup [.int (k:Int),tN r],cv W cs.length k r]) (bx (aa (x_2 (y:= .int (-1)) rfl rfl rfl) rfl) ?_) (λk _=>⟨[on (.int (k:Int)),on (dcL W rs cs.length k),PM,PM],rfl,?_⟩) (dk1 h rfl)) ⟨rfl,rfl⟩)
  ·show on (cP 0 _)=_
   rw[Kv,List.range_eq_range',AK]
  ·refine(O4 (lvW W rs k) (λr=> .tup [tN r,cv W cs.length k r]) (λr=>[.tup [.tup [.int (k:Int),tN r],cv W cs.length k r]]) ?_ (λr _=>⟨[on (.int (k:Int)),on (dcL W rs cs.length k),on (tN r),on (cv W cs.length k r)],rfl,wR (ai rfl eP) rfl⟩)).trans (by rw[uX])
   show on (R1 (UO _ _ _),β)=_;rw[List.zipWith_map_left,List.zipWith_map_right,List.zipWith_self];rfl
theorem LD{r c:Nat}{rows:LI}(sh:Shp r c rows)(r0:1<=r)(r1:r<=30)(c1:c<=30){δ:Dn}(h:δ.getD 0 PM=on (gridD rows)):dJ 1 [0] (dC gA (ae (aL eU (ae (f2 ixD (am 0) (fC (.int 0))) (aD))) (aD))) (tgC 0) (λ_=>M.ret PQ) (cEm (dJ 1 [0] (eC (am 1)) (tgC 0) (λ_=>M.ret PQ) (cEm (f2 ixD (am 0) (am 1))))) δ β=on (.ok (gridD (tp c rows)),β):=by
 obtain⟨b,d,g⟩:=sh.at (i:=0) (by omega);have k:(gI rows)[0]?=on (b.map D.int):=by rw[PY,d];rfl
 have o:aL eU (ae (f2 ixD (am 0) (fC (.int 0))) (aD)) δ β=on (.ok (.int (c:Int)),β):=ai (aa (x:= .lst (b.map D.int)) (x_2 (x:=gridD rows) (HG h) rfl (sO k)) rfl) (cE (by rw[PL,g]));have e:=bt (nv:=1) (caps:=[0]) (it:=dC gA (ae (aL eU (ae (f2 ixD (am 0) (fC (.int 0))) (aD))) (aD))) (tg:=tgC 0) (f:=dJ 1 [0] (eC (am 1)) (tgC 0) (λ_=>M.ret PQ) (cEm (f2 ixD (am 0) (am 1)))) (δ:=δ) (β:=β) (Qb c) (λi=>D.int (0+(i:Int))) (λj=>D.lst (rows.map λrow=>D.int (row.getD j 0))) (bx (ds:=bf 0 c) (aa o rfl) (rg1 (by omega) (by omega))) ?_ (bu (by rw[QC];omega))
 ·rw[e]
  unfold tp tpA;show _=on (R1 (D.lst (Rf D.lst (Rf _ (Rf _ _)))),β);rw[Qa,Qa];congr 4;refine QD λj _=>?_;show _=D.lst ((rows.map λrow=>row.getD j 0).map D.int);rw[Qa];rfl
 ·intro j p
  have q:=Qq.mp p;have m:cSt 1 [0] δ=[PM,on (gridD rows)]:=by
   unfold cSt;simp only[Qf,Ug,h];rfl
  refine⟨[on (.int (0+(j:Int))),on (gridD rows)],by rw[m];rfl,?_⟩;have hm:(gI rows).map D.lst=rows.map λrow=>D.lst (row.map D.int):=by rw[Qa];rfl
  refine bt (nv:=1) (caps:=[0]) rows (λrow=>D.lst (row.map D.int)) _ (by show on (R1 ((gI rows).map D.lst),β)=_;rw[hm]) (λrow t=>⟨_,rfl,x_2 (x:= .lst (row.map D.int)) (y:= .int (0+(j:Int))) rfl rfl ?_⟩) (bu (by rw[sh.1];omega));have u:=sh.2 row t;obtain⟨x,n⟩:=JE (l:=row) (i:=j) (by omega);rw[TK];refine cm ?_;rw[PY,n,PV,n];rfl
theorem pV{r c:Nat}{rows:LI}(sh:Shp r c rows)(r0:1<=r)(r1:r<=30)(c1:c<=30):(iJ K a).1 [gridD rows] β=on (.ok (gridD (tp c rows)),β):=
 aI (ak (aK (LD sh r0 r1 c1 rfl) ⟨rfl,rfl⟩))
noncomputable abbrev iL(xs:List Int):D:= .lst (xs.map D.int)
theorem yC{rows:LI}(h:rows.length<=1000){f:FD}{δ:Dn}(e:f δ β=on (.ok (gridD rows),β)):dJ 1 [] (eC f) (tgC 0) (λ_=>M.ret PQ) (cEm (aL iE (ae (am 0) (aD)))) δ β=on (.ok (iL (rows.map Rp)),β):=by
 have hm:(gI rows).map D.lst=rows.map λrow=>D.lst (row.map D.int):=by rw[Qa];rfl
 have:=bt (nv:=1) (caps:=[]) (it:=eC f) (tg:=tgC 0) (f:=aL iE (ae (am 0) (aD))) (δ:=δ) (β:=β) rows (λrow=>D.lst (row.map D.int)) (λrow=>D.int row.sum) (by rw[←hm];exact cr e rfl) (λrow _=>⟨_,rfl,ai rfl (eY row)⟩) (bu h);rw[this];show _=on (R1 (D.lst ((rows.map Rp).map D.int)),β);rw[Qa];rfl
theorem k7{rows:LI}(h:rows.length<=1000):(gO K a).1 [gridD rows] β=on (.ok (iL (rows.map Rp)),β):=
 aI (ak (aK (yC h rfl) ⟨rfl,rfl⟩))
theorem ir{r c:Nat}{rows:LI}(sh:Shp r c rows)(r0:1<=r)(r1:r<=30)(c1:c<=30):(e9 K a).1 [gridD rows] β=on (.ok (iL ((tp c rows).map Rp)),β):=
 aI (ak (aK (yC (by rw[(j6 (d:=(0:Int)) (c:=c) sh.1).1];omega) (af rfl (pV sh r0 r1 c1))) ⟨rfl,rfl⟩))
noncomputable def gp(G:LI)(i j:Nat):Int:=(G.getD i []).getD j 0
theorem sS{G:LI}{i j:Nat}{row:List Int}{x:Int}(b:G[i]?=on row)(c:row[j]?=on x):gp G i j=x:=by
 unfold gp;simp only[PV,b,c,Wt]
theorem AB{G:LI}{i j:Nat}{row:List Int}(b:G[i]?=on row):row.getD j 0=gp G i j:=by
 unfold gp;rw[PV (l:=G),b];rfl
theorem BF:∀(xs:List Int),S xs.length (λj=>xs.getD j 0)=xs.sum:=λxs=>by
 unfold S;congr 1;refine Sc (by simp) λi c b=>?_;rw[SY,S6,PV,PP b];rfl
theorem Ox{r c i:Nat}{A:LI}(d:Shp r c A)(e:i<r):S c (gp A i)=(A.map Rp).getD i 0:=by
 obtain⟨f,b,g⟩:=d.at e;rw[PV,PY,b];show _=f.sum;rw[←BF,g];exact dQ λj _=>(AB b).symm
theorem Oy{r c j:Nat}{A:LI}(b:Shp r c A)(f:j<c):S r (λp=>gp A p j)=((tp c A).map Rp).getD j 0:=by
 have e:(tp c A)[j]?=on (A.map λrow=>row.getD j 0):=by
  show((Qb c).map λj=>A.map λrow=>row.getD j 0)[j]?=_;rw[PY,Rt f];rfl
 rw[PV,PY,e];show _=(A.map λrow=>row.getD j 0).sum;rw[←BF,PL,b.1];refine dQ λp g=>?_;obtain⟨h,d,i⟩:=b.at g;rw[PV (l:=A.map _),PY,d];exact(AB d).symm
theorem zC{rs:List Int}{b:List Nat}(c:∀i∈b,i<rs.length)(d:b.length<=1000):(ml K a).1 [iL rs,nL b] β=on (.ok (.int (pQ rs b)),β):=by
 unfold ml
 dsimp only
 refine aI (ak (aK (ai (aa (x:=iL (b.map λi=>rs.getD i 0)) ?_ rfl) (eY _)) ⟨rfl,rfl⟩));have:=bt (nv:=1) (caps:=[0]) (it:=eC (am 1)) (tg:=tgC 0) (f:=f2 ixD (am 1) (am 0)) (δ:=[on (iL rs),on (nL b)]) (β:=β) b (λi=>D.int (i:Int)) (λi=>D.int (rs.getD i 0)) (by show on (R1 ((nI b).map D.int),β)=_;rw[Qa];rfl) (λi e=>⟨_,rfl,x_2 rfl rfl (IT (c i e))⟩) (bu d);refine this.trans ?_;show _=on (R1 (D.lst ((b.map λi=>rs.getD i 0).map D.int)),β);rw[Qa];rfl
theorem rO{r c j:Nat}{cs:List Int}{b:LP}{g:List Nat}(sh:Shp r c b)(n:cs.length=c)(k:r<=1000)(l:j<c):(di K a).1 [iL cs,da b,nL g,.int (j:Int)] β=on (.ok (.int (fm cs b r g j)),β):=by
 unfold di
 dsimp only
 refine aI ?_;refine aB (d:=iL (((Qb r).filter λi=>!decide (i∈g)).map λi=>(bI b i j).1)) (β1:=β) ?_ ?_
 ·have m:((gP b).map D.lst).length=r:=by rw[PL,PL,sh.1]
  have:=lJ (nv:=2) (caps:=[2,3]) (it:=IL (ae (am 1) aD)) (tg:=tgT (f6 (tgC 0) (f6 (tgC 1) kY))) (tt:=fB (f2 (inD PQ) (am 0) (am 2))) (f:=f2 ixD (f2 ixD (am 1) (am 3)) (fC (.int 0))) (δ:=[on (iL cs),on (da b),on (nL g),on (.int (j:Int)),PM]) (β:=β) (Qb r) (λi=>D.tup [.int (i:Int),.lst ((b.getD i []).map pD)]) (λi=>D.int (bI b i j).1) (λi=>!decide (i∈g)) ?_ (λi h=>⟨_,rfl,x_B (x_2 rfl rfl uP),λ_=>x_2 (x_2 rfl rfl (uL sh (Qq.mp h) l).2) rfl mC⟩) (bu (by rw[QC];exact k))
  ·refine this.trans ?_
   show _=on (R1 (D.lst ((((Qb r).filter λi=>!decide (i∈g)).map λi=>(bI b i j).1).map D.int)),β);rw[Qa];rfl
  ·show on (R1 (cP 0 ((gP b).map D.lst)),β)=_
   rw[oq,m];congr 3;refine QD λi h=>?_;rw[QS];congr 3;obtain⟨e,_⟩:=sh.getD (Qq.mp h);rw[PV,PY,PY,e];rfl
 refine ak (aK (x_2 (x:= .int (cs.getD j 0)) (x_2 rfl rfl (IT (by omega))) (ai rfl (eY _)) rfl) ⟨rfl,?_⟩);have e:(Qb r).map (λi=>if i∈g then(0:Int)else(bI b i j).1)=(Qb r).map (λx=>if(!decide (x∈g))=PQ then(bI b x j).1 else 0):=QD λi _=>by by_cases q:i∈g<;>simp[q]
 unfold fm S;rw[wz,e]
theorem sw{r c j:Nat}{b:LP}{d:List Nat}(sh:Shp r c b)(e:∀i∈d,i<r)(k:d.length<=1000)(g:j<c):(dj K a).1 [da b,nL d,.int (j:Int)] β=on (.ok (.int (ge b d j)),β):=by
 unfold dj
 dsimp only
 refine aI (ak (aK (ai (aa (x:=iL (d.map λi=>(bI b i j).2)) ?_ rfl) (eY _)) ⟨rfl,rfl⟩));have:=bt (nv:=1) (caps:=[0,2]) (it:=eC (am 1)) (tg:=tgC 0) (f:=f2 ixD (f2 ixD (f2 ixD (am 1) (am 0)) (am 2)) (fC (.int 1))) (δ:=[on (da b),on (nL d),on (.int (j:Int))]) (β:=β) d (λi=>D.int (i:Int)) (λi=>D.int (bI b i j).2) (by show on (R1 ((nI d).map D.int),β)=_;rw[Qa];rfl) (λi h=>⟨_,rfl,x_2 (x_2 (x_2 rfl rfl (uL sh (e i h) g).1) rfl (uL sh (e i h) g).2) rfl mz⟩) (bu k);refine this.trans ?_;show _=on (R1 (D.lst ((d.map λi=>(bI b i j).2).map D.int)),β);rw[Qa];rfl
theorem yU{r c:Nat}{cs:List Int}{b:LP}{d e:List Nat}(sh:Shp r c b)(k:cs.length=c)(l:r<=1000)(h:c<=1000)(m:∀i∈d,i<r)(n:d.length<=1000):(mj K a).1 [iL cs,da b,nL d,nL e] β=on (.ok (.int (sG cs b r c d e)),β):=by
 unfold mj
 dsimp only
 refine aI (ak (aK (ai (aa (x:=iL ((Qb c).map λj=>if j∈e then fm cs b r d j else ge b d j)) ?_ rfl) (eY _)) ⟨rfl,rfl⟩));have:=bt (nv:=1) (caps:=[3,0,1,2]) (it:=dC gA (ae (aL eU (ae (am 0) (aD))) (aD))) (tg:=tgC 0) (f:=fIf (fB (f2 (inD PX) (am 0) (am 1))) (eK (di K a).1 (ae (am 2) (ae (am 3) (ae (am 4) (ae (am 0) (aD)))))) (eK (dj K a).1 (ae (am 3) (ae (am 4) (ae (am 0) (aD)))))) (δ:=[on (iL cs),on (da b),on (nL d),on (nL e)]) (β:=β) (Qb c) (λj=>D.int (0+(j:Int))) (λj=>D.int (if j∈e then fm cs b r d j else ge b d j)) (bx (ds:=bf 0 c) (aa (ai rfl (cE (by rw[PL,k]))) rfl) (rg1 (by omega) (by omega))) (λj o=>⟨[on (.int (j:Int)),on (nL e),on (iL cs),on (da b),on (nL d)],by rw[TK];rfl,?_⟩) (bu (by rw[QC];exact h))
 ·refine this.trans ?_
  show _=on (R1 (D.lst (((Qb c).map λj=>if j∈e then fm cs b r d j else ge b d j).map D.int)),β);rw[Qa];rfl
 ·have g:=Qq.mp o
  by_cases q:j∈e
  ·rw[P7 q]
   exact OB (x_B (x_2 rfl rfl (by rw[uP];simp[q]))) (af rfl (rO sh k l g))
  ·rw[P5 q]
   exact OC (x_B (x_2 rfl rfl (by rw[uP];simp[q]))) (af rfl (sw sh m n g))
theorem zE{r c:Nat}{cs:List Int}{b:LP}{d:List Nat}(sh:Shp r c b)(g:cs.length=c)(l:r<=1000)(e:c<=1000)(m:∀i∈d,i<r)(n:d.length<=1000):(jV K a).1 [iL cs,da b,nL d] β=on (.ok (nL (uv cs b r c d)),β):=by
 unfold jV
 dsimp only
 refine aI ?_;have h:=lJ (nv:=1) (caps:=[0,1,2]) (it:=dC gA (ae (aL eU (ae (am 0) (aD))) (aD))) (tg:=tgC 0) (tt:=fB (f2 (ltD) (eK (di K a).1 (ae (am 1) (ae (am 2) (ae (am 3) (ae (am 0) (aD)))))) (eK (dj K a).1 (ae (am 2) (ae (am 3) (ae (am 0) (aD))))))) (f:=am 0) (δ:=[on (iL cs),on (da b),on (nL d)]) (β:=β) (Qb c) (λj=>D.int (0+(j:Int))) (λj=>D.int (j:Int)) (λj=>decide (fm cs b r d j<ge b d j))
  (bx (ds:=bf 0 c) (aa (ai rfl (cE (by rw[PL,g]))) rfl) (rg1 (by omega) (by omega)))
  (λj k=>⟨[on (.int (j:Int)),on (iL cs),on (da b),on (nL d)],by rw[TK];rfl,x_B (x_2 (af rfl (rO sh g l (Qq.mp k))) (af rfl (sw sh m n (Qq.mp k))) rfl),λ_=>rfl⟩) (bu (by rw[QC];exact e))
 refine ak (aK h ⟨rfl,?_⟩);show R1 (D.lst ((nI (uv cs b r c d)).map D.int))=_;rw[Qa];rfl
theorem LY{n i:Nat}{d:D}(h:(bf 0 n)[i]?=on d):i<n/\d= .int (i:Int):=by
 obtain⟨x,b,rfl⟩:=bB (f:=λ(i:Nat)=>D.int (0+(i:Int))) (xs:=Qb n) h;have c:=(P4.mp b).1;rw[QC]at c;rw[Rt c]at b;cases b;exact⟨c,by rw[TK]⟩
theorem x5{n:Nat}(hn:n<=6):(mn K a).1 [.int (n:Int)] β=on (.ok (.lst ((chF n).map nL)),β):=by
 unfold mn
 dsimp only
 refine aI ?_;refine aB (d:= .lst [.lst []]) (β1:=β) (ai (aa (ai rfl lst0) rfl) xC) ?_;refine bC (ds:=bf 0 n) (β1:=β) (bx rfl (rg1 (by omega) (by omega))) (λi δ b=>β=b/\∃c,δ=[on (.sh (.int (n:Int))),on (.sh (.lst ((chF i).map nL))),c]) ⟨rfl,PM,rfl⟩ ?_ ?_
 ·rintro i d δ _ hd ⟨rfl,c,rfl⟩
  obtain⟨g,rfl⟩:=LY hd;have j:(chF i).length<=64:=by rw[wL];exact Qs (SQ (by decide) (show i<=6 by omega)) (by decide)
  refine⟨[on (.sh (.int (n:Int))),on (.sh (.lst ((chF i).map nL))),on (.sh (.int (i:Int)))],rfl,ak (aB (d:= .lst ((chF (i+1)).map nL)) (β1:=β) ?_ (aZ ⟨rfl,_,rfl⟩))⟩;have h:=bt (nv:=1) (caps:=[2]) (it:=eC (am 1)) (tg:=tgC 0) (f:=f2 oZ (am 0) (aL dZ (ae (am 1) (aD)))) (δ:=vw [on (.sh (.int (n:Int))),on (.sh (.lst ((chF i).map nL))),on (.sh (.int (i:Int)))]) (β:=β) (chF i) nL (λl=>nL (l++[i])) rfl (λl e=>⟨[on (nL l),on (.int (i:Int))],rfl,by
   have k:l.length<=i:=by have:=(i5 i l e).length_le;rwa[QC]at this
   refine x_2 rfl (ai rfl xC) ((wQ ?_).trans ?_)
   ·rw[PL,PL,Ri];omega
   ·simp only[nL,nI,QK,Qf,Ug]⟩) (bu (by omega))
  refine x_2 rfl h ((wQ ?_).trans ?_)
  ·rw[PL,PL];omega
  ·rw[chF,QK,Qa];rfl
 ·rintro δ _ ⟨rfl,c,rfl⟩
  rw[show(bf 0 n).length=n by unfold bf;rw[PL,QC]];exact ak (aK rfl ⟨rfl,rfl⟩)
theorem Nl{r:Nat}{b:List Nat}(h:b∈chF r):(∀i∈b,i<r)/\b.length<=r:=⟨λi c=>Qq.mp ((i5 r b h).subset c),by have:=(i5 r b h).length_le;rwa[QC]at this⟩
theorem Na{r c:Nat}{rs cs:List Int}{b:LP}(sh:Shp r c b)(l:rs.length=r)(m:cs.length=c)(n:r<=6)(p:c<=6)(ok:∀X Y,0<=slB rs cs b r c X Y):(fI K a).1 [iL rs,iL cs,da b] β=on (.ok .non,β):=by
 unfold fI
 dsimp only
 refine aI (ak (bC (ds:=(chF r).map nL) (β1:=β) (cr (af (aa (ai rfl (cE (r:=r) (by rw[PL,l]))) rfl) (x5 n)) rfl) (λi δ f=>β=f/\∃g h,δ=[on (.sh (iL rs)),on (.sh (iL cs)),on (.sh (da b)),g,h]) ⟨rfl,PM,PM,rfl⟩ ?_ ?_))
 ·rintro i d δ _ hd ⟨rfl,g,h,rfl⟩
  obtain⟨e,q,rfl⟩:=bB hd;have hm:=Qi q;obtain⟨k,t⟩:=Nl hm;refine⟨_,rfl,aB (d:=nL (uv cs b r c e)) (β1:=β) (af rfl (zE sh m (by omega) (by omega) k (by omega))) ?_⟩;refine ak (cI (x_B (x_2 (af rfl (zC (by rw[l];exact k) (by omega))) (af rfl (yU sh m (by omega) (by omega) k (by omega))) ?_)) (bj (aZ ⟨rfl,_,_,rfl⟩)));have o:=ok (λi=>decide (i∈e)) (λj=>decide (j∈uv cs b r c e));have sub:(uv cs b r c e).Sublist (Qb c):=UH;rw[←LT (i5 r e hm) sub]at o;show on (D.bl (decide _))=_;rw[QL (by omega)]
 ·rintro δ _ ⟨rfl,g,h,rfl⟩
  exact aZ ⟨rfl,rfl⟩
theorem JW{r c:Nat}{rows:LI}{b:LP}(sh:Shp r c rows)(m:Shp r c b)(kp:Kp rows b)(X Y:Nat->Bool):0<=slB (rows.map Rp) ((tp c rows).map Rp) b r c X Y:=by
 refine Kl (g:=gp rows) (λi f j h=>?_) (λi f=>(Ox sh f).symm) (λj h=>(Oy sh h).symm) X Y;obtain⟨row,k,n⟩:=sh.at f;have ex:=nV (l:=row) (i:=j) (d:=0) (by omega);obtain⟨e,l⟩:=m.getD f;have ep:=nV (l:=b.getD i []) (i:=j) (d:=((0,0):Int×Int)) (by omega);rw[sS k ex];exact kp i j _ _ (mU k ex) (mU e ep)
variable{rs cs:List Nat}
theorem IX{g:G}{δ:Ds}{o:Out}(h:Gw g δ β (λc b=>c=o/\b=β)):g δ β=on (o,β):=by
 obtain⟨c,b,e,rfl,rfl⟩:=h;exact e
theorem gJ{t:Dn->M Bool}{d b h:G}{δ:Ds}{β1:Bg}{c:Bool}{Q:Out->Bg->Prop}(e:t (vwA δ) β=on (.ok c,β1))(f:c=PX)(k:Gw (aY b h) δ β1 Q):Gw (aY (gIf t d b) h) δ β Q:=by
 subst f;exact cI e k
theorem OX{p:Int×Int}(h:PairOk p):(ji K a).1 [pD p] β=on (.ok .non,β):=by
 obtain⟨b,c,e⟩:=h;unfold ji
 dsimp only
 refine aI ?_;exact kU (d:=pD p) (β1:=β) rfl rfl (ak (gJ (fP (x_B (BJ rfl rfl rfl rfl))) (by simp;omega) (bj (aZ ⟨rfl,rfl⟩))))
theorem Kn{r c:Nat}{b:LP}(g:Bnd r c b)(n:r<=1000):(c5 K a).1 [da b,.int (r:Int),.int (c:Int)] β=on (.ok (da b),β):=by
 unfold c5
 dsimp only
 refine aI ?_;refine cI (β1:=β) (x_B (x_2 rfl rfl rfl)) (bj ?_);have o:dJ 1 [2] (eC (am 0)) (tgC 0) (λ_=>M.ret PQ) (cEm (f2 (fF) (aL eU (ae (am 0) (aD))) (am 1))) [on (da b),on (.int (r:Int)),on (.int (c:Int)),PM,PM] β=on (.ok (.lst (b.map λ_=>D.bl PX)),β):=
  bt (nv:=1) (caps:=[2]) b (λrow=>D.lst (row.map pD)) _ (by show on _=_;rw[Qa];rfl) (λrow h=>⟨_,rfl,x_2 (ai rfl (cE (r:=c) (by rw[PL];exact g.shp.2 row h))) rfl (ne_int.trans (by rw[Qd rfl];rfl))⟩) (bu (by rw[g.shp.1];exact n))
 refine gJ (eD (x_B (x_2 (ai rfl (uG (r:=r) (by rw[PL];exact g.shp.1))) rfl (ne_int.trans (by rw[Qd rfl];rfl)))) (fN (ai (aa o rfl) (any_map b λ_=>PX)) rfl)) (by simp) (bj ?_);refine bC (ds:=(gP b).map D.lst) (β1:=β) rfl (λi δ e=>β=e/\∃l f,δ=[on (.sh (da b)),on (.sh (.int (r:Int))),on (.sh (.int (c:Int))),l,f]) ⟨rfl,PM,PM,rfl⟩ ?_ ?_
 ·rintro i d δ _ hd ⟨rfl,l,f,rfl⟩
  obtain⟨y,q,rfl⟩:=bB hd;obtain⟨row,k,rfl⟩:=bB q;refine⟨_,rfl,ak (bC (ds:=row.map pD) (β1:=β) rfl (λj δ e=>β=e/\∃f,δ=[on (.sh (da b)),on (.sh (.int (r:Int))),on (.sh (.int (c:Int))),on (.sh (.lst (row.map pD))),f]) ⟨rfl,_,rfl⟩ ?_ ?_)⟩
  ·rintro j d δ _ hd ⟨rfl,f,rfl⟩
   obtain⟨p,m,rfl⟩:=bB hd;exact⟨_,rfl,ak (j5 (af rfl (OX (g.ok row (Qi k) p (Qi m)))) (aZ ⟨rfl,_,rfl⟩))⟩
  ·rintro δ _ ⟨rfl,f,rfl⟩
   exact aZ ⟨rfl,_,_,rfl⟩
 ·rintro δ _ ⟨rfl,l,f,rfl⟩
  exact ak (aK (bt (nv:=1) (caps:=[]) (gP b) D.lst D.lst rfl (λx _=>⟨_,rfl,rfl⟩) (bu (by rw[PL,g.shp.1];exact n))) ⟨rfl,rfl⟩)
theorem zy(l:List Nat){n:Nat}{δ:Dn}(b:l.length<=1000)(e:δ.getD n PM=on (nL l)):u4 (aL ya (ae (dJ 1 [] (eC (am n)) (tgC 0) (λ_=>M.ret PQ) (cEm (f2 (ltD) (am 0) (fC (.int 0))))) (aD))) δ β=on (.ok PX,β):=by
 have c:=bt (nv:=1) (caps:=[]) (it:=eC (am n)) (tg:=tgC 0) (f:=f2 (ltD) (am 0) (fC (.int 0))) (δ:=δ) (β:=β) (nI l) D.int (λx=>D.bl (decide (x<0))) (cr (HG e) rfl) (λx _=>⟨_,rfl,rfl⟩) (bu (by rw[PL];exact b));refine fN (ai (aa c rfl) (any_map _ _)) (Rh on (Y9.mpr λx d=>?_));obtain⟨n,_,rfl⟩:=Qc.mp d;simp
theorem ly(l:List Nat):eU [nL l]=on (.int (l.length:Int)):=cE (by rw[PL,PL])
theorem Lm(h:Nt0 rs cs):(jh K a).1 [nL rs,nL cs] β=on (.ok .non,β):=by
 obtain⟨b,c,d,e⟩:=h.nr;have c1:=h.c1;have c6:=h.c6;unfold jh
 dsimp only
 refine aI ?_;refine gJ (fP (x_B (vH rfl (ai rfl (ly rs)) rfl))) (by simp;omega) (bj ?_);refine gJ (fP (x_B (vH rfl (ai rfl (ly cs)) rfl))) (by simp;omega) (bj ?_);refine cI (eD (zy rs (by omega) rfl) (zy cs (by omega) rfl)) (bj ?_);refine gJ (x_B (x_2 (ai rfl (pR rs)) (ai rfl (pR cs)) ne_int)) (by rw[h.sm];simp) (bj ?_);exact ak (gJ (x_B (x_2 (ai rfl (pR rs)) rfl gt_int)) (by simp;omega) (bj (aZ ⟨rfl,rfl⟩)))
theorem JL(h:Nrw rs):(jg K a).1 [nL rs] β=on (.ok .non,β):=by
 obtain⟨g,j,k,e⟩:=h;unfold jg
 dsimp only
 refine aI ?_;refine aB (d:= .int 1) (β1:=β) rfl ?_;refine bC (ds:=(nI rs).map D.int) (β1:=β) rfl (λi δ b=>β=b/\∃c,δ=[on (.sh (nL rs)),on (.sh (.int ((pr ((rs.take i).map (·+1)):Nat):Int))),c]) ⟨rfl,PM,rfl⟩ ?_ ?_
 ·rintro i d δ _ hd ⟨rfl,c,rfl⟩
  obtain⟨n,hn,rfl⟩:=pS hd;have f:=gG (Qi hn);have l:=Qs (xo rs i) e;refine⟨_,rfl,ak (dT rfl (x_2 (z:= .int ((n+1:Nat):Int)) rfl rfl rfl) (jY (smN (by omega)) (smN (by omega))) (aZ ⟨rfl,on (.sh (.int (n:Int))),?_⟩))⟩;rw[kB hn];rfl
 ·rintro δ _ ⟨rfl,c,rfl⟩
  rw[mtq,Sg];exact ak (gJ (x_B (x_2 rfl rfl gt_int)) (by simp;omega) (bj (aZ ⟨rfl,rfl⟩)))
structure NtB (rows:LI) (B:List (List (Nat×Nat))) (rs cs:List Nat):Prop extends Nt0 rs cs where
 shp:Shp rs.length cs.length rows
 rw1:rows.map Rp=nI rs
 cl1:(tp cs.length rows).map Rp=nI cs
 bok:BOk rs.length cs.length B
 kp:Kp rows (fA B)
theorem ia{r c:Nat}{B:List (List (Nat×Nat))}(h:Shp r c B):Shp r c (fA B):=h.map
theorem BOk.bnd{r c:Nat}{B:List (List (Nat×Nat))}(h:BOk r c B):Bnd r c (fA B):=⟨ia h.1,λrow e p f=>by
 obtain⟨b,g,rfl⟩:=Qc.mp e;obtain⟨d,i,rfl⟩:=Qc.mp f;have:=h.2 b g d i;exact⟨by show(0:Int)<=(d.1:Int);omega,by show(d.1:Int)<=(d.2:Int);omega,by show(d.2:Int)<=40;omega⟩⟩
theorem NtB.nt{rows:LI}{B:List (List (Nat×Nat))}(h:NtB rows B rs cs):Nt1 K a rs cs (wB B cs) (bDN B):=⟨h.toNt0,o4 B cs,λ{β k r} b c e=>Lo c (by rw[e];exact h.bok) (by rw[←h.sm];exact h.nr.2.2.1) b⟩
theorem NtB.fit{rows:LI}{B:List (List (Nat×Nat))}(h:NtB rows B rs cs):(fI K a).1 [nL rs,nL cs,bDN B] β=on (.ok .non,β):=by
 have b:=h.nr.2.1;have c6:=h.c6;refine Na (ia h.bok.1) (PL _) (PL _) (by omega) (by omega) λX Y=>?_;rw[←h.rw1,←h.cl1];exact JW h.shp (ia h.bok.1) h.kp X Y
theorem Ko{rows:LI}{B:List (List (Nat×Nat))}(h:NtB rows B rs cs):(c5 K a).1 [bDN B,.int (rs.length:Int),.int (cs.length:Int)] β=on (.ok (bDN B),β):=Kn h.bok.bnd (by have:=h.nr.2.1;omega)
abbrev nFs(B:List (List (Nat×Nat)))(rs cs:List Nat):List D:=[nL rs,nL cs,bDN B,qX (wB B cs) rs cs.length]
abbrev MH(a:Ad)(B:List (List (Nat×Nat)))(rs cs:List Nat):D:= .obj a.Ae ["row_list","column_list","pairs","counted"] (nFs B rs cs)
theorem O6{rows:LI}{B:List (List (Nat×Nat))}{d:D}(h:NtB rows B rs cs)(hd:∀{β:Bg},(c5 K a).1 [d,.int (rs.length:Int),.int (cs.length:Int)] β=on (.ok (bDN B),β)):pU K a [nL rs,nL cs,d] β=on (.ok (nFs B rs cs),β):=DW λx=>by
 have b:(dI K a).1 [nL rs,nL cs,d] β=on (.ok (bDN B),β):=by
  unfold dI
  dsimp only
  refine aI ?_;exact j5 (af rfl (Lm h.toNt0)) (aB (af (aa rfl (aa (ai rfl (ly rs)) (aa (ai rfl (ly cs)) rfl))) hd) (j5 (af rfl (JL h.nr)) (ak (aK rfl ⟨rfl,rfl⟩))))
 unfold uO;refine z0 (g:=lH 4 _) (δ1:=[on (.sh (.adr x)),on (.sh (nL rs)),on (.sh (nL cs)),on (.sh d),on (.sh (bDN B))]) (β1:=β) (IX (ak (aB (af rfl b) (aZ ⟨rfl,rfl⟩)))) rfl rfl ?_;refine z0 (δ1:=[on (.sh (.adr x)),on (.sh (nL rs)),on (.sh (nL cs)),on (.sh d),on (.sh (bDN B))]) (β1:=β) (IX (ak (j5 (af rfl h.fit) (aZ ⟨rfl,rfl⟩)))) rfl rfl ?_;exact p9 (ai rfl rfl) (p9 (ai rfl rfl) (p9 rfl (p9 (af rfl (xZ h.nt)) rfl)))
theorem MG{rows:LI}{B:List (List (Nat×Nat))}(h:NtB rows B rs cs):pU K a [nL rs,nL cs,bDN B] β=on (.ok (nFs B rs cs),β):=O6 h (Ko h)
theorem OD{f:FD}{g:FL}{δ:Dn}{b:Bool}{ks:List KyD}{vs:List D}{k z d:D}{y:KyD}(c:f δ β=on (.ok (.dct b ks vs),β))(e:g δ β=on (.ok [k,z],β))(h:iq b k=on y)(i:lkD ks vs y=on d):ED f g δ β=on (.ok d,β):=by
 unfold ED;rw[M.bind_ok c];simp only;rw[M.bind_ok e];simp only[h,i,RX,Wt,M.ofO]
variable{W:Wy}{bd:D}
abbrev sT(W:Wy)(cs:List Nat)(k:Nat)(r:List Nat):List (List Nat):=stW W (cs.length-(k+1)) k r
abbrev tB(W:Wy)(cs:List Nat)(k:Nat)(r v:List Nat):Nat:=tbW W (cs.length-(k+1)) (k+1) (less r v)
abbrev mB(W:Wy)(cs:List Nat)(k:Nat)(r v:List Nat):Nat:=mu v*dlW W (cs.length-(k+1)) (k+1) (less r v)
abbrev bM(a:Ad)(W:Wy)(bd:D)(rs cs:List Nat):D:= .obj a.Ae ["row_list","column_list","pairs","counted"] [nL rs,nL cs,bd,qX W rs cs.length]
theorem K2{b d:List KyD}{c e:List D}{y:KyD}(h:b.length=c.length):lkD (b++d) (c++e) y=(lkD b c y).or (lkD d e y):=by
 unfold lkD;rw[List.zip_append h,List.find?_append];cases(b.zip c).find? λp=>decide (p.1=y)<;>rfl
theorem IM{f:List Nat->D}{u:List Nat}{k:Int}:∀{L:List (List Nat)},u∈L->lkD (L.map λr=>(k,nI r)) (L.map f) (k,nI u)=on (f u)
 |r::L,h=>by
  unfold lkD;rw[Qf,Qf,Sh,Tc];by_cases q:r=u
  ·rw[q,Qd rfl];rfl
  ·rw[QL λe=>q (gZ (UP.mp e).2)]
   exact IM ((Qh.mp h).resolve_left λe=>q e.symm)
theorem zI{f:List Nat->D}{y:KyD}{k:Int}(h:k≠y.1):∀{L:List (List Nat)},lkD (L.map λr=>(k,nI r)) (L.map f) y=PM
 |[]=>rfl
 |r::L=>by
  have ih:=zI (f:=f) h (L:=L);unfold lkD at ih⊢;rw[Qf,Qf,Sh,Tc,QL λe=>h (UP.mp e).1];exact ih
theorem zK{m k:Nat}{u:List Nat}(b:u∈lvW W rs k):∀{L:List Nat},k∈L->lkD (L.flatMap λk=>(lvW W rs k).map λr=>((k:Int),nI r)) (L.flatMap λk=>(lvW W rs k).map (cv W m k)) ((k:Int),nI u)=on (cv W m k u)
 |j::L,h=>by
  rw[Rb,Rb,K2 (by rw[PL,PL])];by_cases q:j=k
  ·subst q
   rw[IM b];rfl
  ·rw[zI (by show(j:Int)≠(k:Int);omega),Option.none_or]
   exact zK b ((Qh.mp h).resolve_left λe=>q e.symm)
theorem lk_net{k:Nat}{u:List Nat}(c:k<=cs.length)(b:u∈lvW W rs k):lkD (kyW W rs (cs.length+1)) (Oo W rs cs.length) ((k:Int),nI u)=on (cv W cs.length k u):=zK b (Qq.mpr (by omega))
theorem qm{k:Nat}{u:List Nat}(c:k<=cs.length)(d:u∈lvW W rs k):(dB K a).1 [bM a W bd rs cs,.int (k:Int),tN u] β=on (.ok (cv W cs.length k u),β):=
 aI (ak (aK (OD (iB rfl rfl) (aa (ai rfl eP) (aa (ai rfl eP) rfl)) (qP (b:=PQ) (k:=((k:Int),nI u)) λe=>(by cases e)) (lk_net c d)) ⟨rfl,rfl⟩))
theorem MF{k:Nat}{u:List Nat}(b:k<=cs.length)(c:u∈lvW W rs k):CW (.tup [.int (k:Int),tN u]) (qX W rs cs.length)=on (.bl PX):=by
 show(iq PQ (dK PQ ((k:Int),nI u))).map _=_;rw[qP λe=>(by cases e),RX,lk_net b c];rfl
theorem Nt1.nx{k:Nat}{r v:List Nat}(h:Nt1 K a rs cs W bd)(b:r∈lvW W rs k)(c:v∈W k r):less r v∈lvW W rs (k+1):=nA.mpr ⟨r,b,v,c,rfl⟩
theorem HH{k:Nat}{r:List Nat}(h:Nt1 K a rs cs W bd)(b:Nrw r):(W k r).length<=500:=by
 have:=(h.ok k r).length_le;have:=i6 r (cs.getD k 0);have:=xo r (r.length-1);rw[←List.dropLast_eq_take]at this;have:=b.2.2.2;omega
theorem w6{k:Nat}{r:List Nat}(h:Nt1 K a rs cs W bd)(b:Nrw r):(sT W cs k r).length<=500:=Qs UH.length_le (HH h b)
theorem BY{k:Nat}{r:List Nat}(h:Nt1 K a rs cs W bd)(d:k<cs.length)(b:r∈lvW W rs k):(jX K a).1 [bM a W bd rs cs,.int (k:Int),tN r] β=on (.ok (.lst ((sT W cs k r).map tN)),β):=by
 obtain⟨c,f,g⟩:=h.at (by omega) b;unfold jX
 dsimp only
 refine aI ?_;refine gJ (eD (x_B (x_2 (ai rfl eP) (iB rfl rfl) (MF (by omega) b))) (x_B (x_2 rfl (ai (aa (iB rfl rfl) rfl) (ly cs)) eq_int))) (by simp;omega) (bj ?_);refine ak (aK (lJ (W k r) tN tN (λv=>decide ((0:Int)<((tB W cs k r v:Nat):Int))) (cr (af (aa rfl (aa (iB rfl rfl) (aa (iB rfl rfl) (aa rfl rfl)))) (h.fl d c f)) rfl) (λv e=>⟨[on (tN v),on (bM a W bd rs cs),on (.int (k:Int)),on (tN r)],rfl,?_,λ_=>rfl⟩) (bu ?_)) ⟨rfl,rfl⟩)
 ·exact x_B (x_2 (x_2 (bX rfl (aa (x:= .int ((k+1:Nat):Int)) (x_2 rfl rfl rfl) (aa (af rfl (jJ (cw ((h.ok k r).subset e)) c.2.1)) rfl)) (qm d (h.nx b e))) rfl mC) rfl gt_int)
 ·have:=HH (k:=k) h c
  omega
abbrev scD(W:Wy)(j k:Nat)(r v:List Nat):D:= .tup [tN v,.int ((tbW W j (k+1) (less r v):Nat):Int),.int ((mu v*dlW W j (k+1) (less r v):Nat):Int)]
theorem tup3{x y z:D}:fX [x,y,z]=on (.tup [x,y,z]):=by
 unfold fX;rw[P7 (bu (by show 3<=1000;decide))]
theorem JD{k:Nat}{r:List Nat}(h:Nt1 K a rs cs W bd)(b:k<=cs.length)(c:r∈lvW W rs k):dlW W (cs.length-k) k r<=2^160:=by
 refine Qs (u7 h.ok _ _ _ (by omega)) ?_;rw[u6 _ _ (jl h.ok h.sm k b r c).2];exact pT (h.at b c).2.2
theorem pe{k:Nat}{r:List Nat}(h:Nt1 K a rs cs W bd)(c:k<cs.length)(e:r∈lvW W rs k):(dA K a).1 [bM a W bd rs cs,.int (k:Int),tN r] β=on (.ok (.lst ((sT W cs k r).map (scD W (cs.length-(k+1)) k r))),β):=by
 obtain⟨m,p,o⟩:=h.at (by omega) e;have q:=w6 (k:=k) h m;unfold dA
 dsimp only
 refine aI ?_;refine m5 (ds:=[]) (β1:=β) rfl (Q8 _) ?_;refine bC (ds:=(sT W cs k r).map tN) (β1:=β) (cr (bX rfl rfl (BY h c e)) rfl) (λi δ f=>β=f/\∃g j l,δ=[on (.sh (bM a W bd rs cs)),on (.sh (.int (k:Int))),on (.sh (tN r)),on (.own (((sT W cs k r).take i).map (scD W (cs.length-(k+1)) k r))),g,j,l]) ⟨rfl,PM,PM,PM,rfl⟩ ?_ ?_
 ·rintro i d δ _ hd ⟨rfl,g,j,l,rfl⟩
  obtain⟨v,n,rfl⟩:=bB hd;have hm:=(RK.mp (Qi n)).1;have hn:=h.nx e hm;have b:v.sum<=40:=Qs (cw ((h.ok k r).subset hm)).sum o;refine⟨_,rfl,kU (d:=cv W cs.length (k+1) (less r v)) (β1:=β) (bX rfl (aa (x:= .int ((k+1:Nat):Int)) (x_2 rfl rfl rfl) (aa (af rfl (jJ (cw ((h.ok k r).subset hm)) m.2.1)) rfl)) (qm c hn)) rfl (ak (m6 (cs:=((sT W cs k r).take i).map (scD W (cs.length-(k+1)) k r)) (d:=scD W (cs.length-(k+1)) k r v) rfl (aa (ai (aa rfl (aa rfl (aa (x_2 (af rfl (m4 (.inr rfl) b)) rfl (jY (cc (lU b) (by decide)) (cc (JD h c hn) (by decide)))) rfl))) (tup3.trans (by rw[j4]))) rfl) (Qv (show _<1000 by rw[PL,R4];omega) (by decide)) (aZ ⟨rfl,on (.sh (tN v)),on (.sh (.int ((tB W cs k r v:Nat):Int))),on (.sh (.int ((dlW W (cs.length-(k+1)) (k+1) (less r v):Nat):Int))),?_⟩)))⟩;rw[Tj,n,QK];rfl
 ·rintro δ _ ⟨rfl,g,j,l,rfl⟩
  rw[PL,Sg];exact ak (aK rfl ⟨rfl,rfl⟩)
theorem u3(f:List Nat->Nat)(l:List (List Nat)){n:Nat}(hn:n<L2.Nt.sm l f):(iN K a).1 [.lst (l.map λv=> .tup [tN v,.int ((f v:Nat):Int)]),.int (n:Int)] β=on (.ok (.tup [tN (fal f l n).1,.int (((fal f l n).2:Nat):Int)]),β):=by
 unfold iN
 dsimp only
 refine aI ?_;refine aB (d:= .int 0) (β1:=β) rfl ?_;refine JM (λq δ g=>β=g/\∃i b:Nat,δ=[on (.sh (.lst (l.map λv=> .tup [tN v,.int ((f v:Nat):Int)]))),on (.sh (.int (b:Int))),on (.sh (.int (i:Int)))]/\q=l.length-i/\fal f (l.drop i) b=fal f l n/\b<L2.Nt.sm (l.drop i) f) ?_ l.length _ β ⟨rfl,0,n,rfl,rfl,rfl,hn⟩;rintro q δ _ ⟨rfl,i,b,rfl,rfl,e,hs⟩;have h:i<l.length:=by
  rcases Uj i l.length with z|z
  ·exact z
  ·rw[RN z]at hs;cases hs
 have c:(l.map λv=>D.tup [tN v,.int ((f v:Nat):Int)])[i]?=on (.tup [tN l[i],.int ((f l[i]:Nat):Int)]):=by rw[PY,PP h];rfl
 rw[QV h]at e hs;rw[aT]at hs;have j:∀v l n,fal f (v::l) n=if n<f v then(v,n)else fal f l (n-f v):=λ_ _ _=>rfl;rw[j]at e;by_cases z:b<f l[i]
 ·rw[P7 z]at e
  refine .inl ⟨β,?_,?_⟩
  ·exact(x_B (x_2 rfl (x_2 (x_2 rfl rfl (cm c)) rfl mz) ge_int)).trans (by rw[QL (by omega)])
  ·rw[←e]
   exact ak (aK (ai (aa (x_2 (x_2 rfl rfl (cm c)) rfl mC) (aa rfl rfl)) eP) ⟨rfl,rfl⟩)
 ·rw[P5 z]at e
  refine .inr ⟨β,?_,?_⟩
  ·exact(x_B (x_2 rfl (x_2 (x_2 rfl rfl (cm c)) rfl mz) ge_int)).trans (by rw[Qd (by omega)])
  ·refine dT (z:= .int ((b-f l[i]:Nat):Int)) rfl (x_2 (x_2 rfl rfl (cm c)) rfl mz) (by show on (D.int _)=_;rw[Int.ofNat_sub (by omega)]) (ak (dT (z:= .int ((i+1:Nat):Int)) rfl rfl rfl (aZ ⟨_,rfl,l.length-(i+1),by omega,rfl,i+1,b-f l[i],rfl,rfl,e,by omega⟩)))
theorem yS{n:Nat}{vs:List (List Nat)}(g:1<=vs.length)(l:vs.length<=30)(hn:n<=30)(b:∀v∈vs,v.length=n):(dh K a).1 [.lst (vs.map tN)] β=on (.ok (gridD (tp n (vs.map nI))),β):=by
 have c:(vs.map tN)[0]?=on (tN vs[0]):=by rw[PY,PP (by omega)];rfl
 unfold dh
 dsimp only
 refine aI (ak (aK (d:= .lst ((Qb n).map λj=>D.lst (vs.map λv=> .int ((v.getD j 0:Nat):Int)))) (β1:=β) ?_ ⟨rfl,?_⟩))
 ·refine bt (Qb n) (λi=>D.int (0+(i:Int))) _ (bx (ds:=bf 0 n) (aa (ai (z:= .int (n:Int)) (aa (x_2 rfl rfl (cm (k:=0) c)) rfl) ?_) rfl) (rg1 (by omega) (by omega))) (λj e=>⟨[on (.int (0+(j:Int))),on (.lst (vs.map tN))],rfl,?_⟩) (bu (by rw[QC];omega))
  ·show on (D.int _)=_
   rw[PL,PL,b _ (QP _)]
  ·have f:=Qq.mp e
   refine bt (nv:=1) (caps:=[0]) vs tN _ rfl (λv h=>⟨[on (tN v),on (.int (0+(j:Int)))],rfl,x_2 rfl rfl ?_⟩) (bu (by omega));rw[TK];have m:=b v h;refine cm (xs:=(nI v).map D.int) ?_;rw[PY,PY,gq (by omega),PP (by omega)];rfl
 ·unfold tp tpA
  show R1 (D.lst (Rf D.lst (Rf _ (Rf _ _))))=_;rw[Qa,Qa];congr 2;refine QD λj _=>?_;show D.lst (((vs.map nI).map λrow=>row.getD j 0).map D.int)=_;rw[Qa,Qa];congr 1;refine QD λv _=>?_;show D.int ((nI v).getD j 0)=_;rw[PV,PV,PY];cases v[j]?<;>rfl
theorem eqI(i j:Int):RP (.int i) (.int j)=decide (i=j):=by unfold RP;exact Bool.beq_eq_decide_eq i j
theorem rT{α:Type} [DecidableEq α]{f:α->T9}(b:∀x y,RP (f x) (f y)=decide (x=y)):∀xs ys:List α,SN (xs.map f) (ys.map f)=decide (xs=ys)
 |[],[]=>by simp[SN]
 |[],y::ys=>by simp[SN]
 |x::xs,[]=>by simp[SN]
 |x::xs,y::ys=>by
  rw[Qf,Qf,SN,b,rT b xs ys];by_cases h:x=y<;>by_cases q:xs=ys<;>simp[h,q]
theorem kX{α:Type}{f:α->D}{g:α->T9}(h:∀x,toP (f x)=on (g x)):∀l:List α,toPs (l.map f)=on (l.map g)
 |[]=>by simp[toPs]
 |x::l=>by
  rw[Qf,toPs,h x,kX h l];rfl
theorem AH{x y:D}{p q:T9}(f:eqS x y=PM)(d:toP x=on p)(e:toP y=on q)(b:ft x=PQ)(c:ft y=PQ):jZ x y=on (.bl (RP p q)):=by
 unfold jZ j3;unfold ft at b c;rw[d]at b;rw[e]at c;simp only[f,d,e,b,c,Vg,Q4,RX]
theorem Px(xs ys:List Int):jZ (tpI xs) (tpI ys)=on (.bl (decide (xs=ys))):=by
 have t:∀l:List Int,toP (tpI l)=on (.tuple (l.map .int)):=λl=>by
  unfold tpI toP;rw[kX (g:=V3) λx=>rfl];rfl
 have c:∀l:List Int,ft (tpI l)=PQ:=λl=>oU 1 (λx b=>by
  obtain⟨i,_,rfl⟩:=Qc.mp b;trivial) (by decide)
 rw[AH rfl (t xs) (t ys) (c xs) (c ys),RP,rT eqI]
theorem JB(u v:List Nat):jZ (tN u) (tN v)=on (.bl (decide (u=v))):=by
 rw[Px];by_cases q:u=v
 ·rw[q,Qd rfl,Qd rfl]
 ·rw[QL q,QL λe=>q (gZ e)]
theorem kG:(cT K a).1 [bM a W bd rs cs] β=on (.ok (nL rs),β):=aI (ak (aK (ai (aa (iB rfl rfl) rfl) rfl) ⟨rfl,rfl⟩))
theorem qM:(dU K a).1 [bM a W bd rs cs] β=on (.ok (nL cs),β):=aI (ak (aK (ai (aa (iB rfl rfl) rfl) rfl) ⟨rfl,rfl⟩))
theorem AN{n m:Nat}(h:n<m):(gC K a).1 [.int (n:Int),.int (m:Int)] β=on (.ok .non,β):=
 aI (ak (gJ (fP (x_B (yi rfl rfl rfl))) (by simp;omega) (bj (aZ ⟨rfl,rfl⟩))))
theorem o5(l:List Nat):tE [nL l]=on (tN l):=rfl
theorem vO:(gi K a).1 [bM a W bd rs cs] β=on (.ok (.int ((tbW W cs.length 0 rs:Nat):Int)),β):=
 aI (ak (aK (x_2 (bX rfl (aa rfl (aa (ai (aa (iB rfl rfl) rfl) rfl) rfl)) (qm (k:=0) (Q8 _) (QH.mpr rfl))) rfl mC) ⟨rfl,rfl⟩))
theorem MU{n0:Nat}(h:Nt1 K a rs cs W bd)(hn:n0<tbW W cs.length 0 rs):(gQ K a).1 [bM a W bd rs cs,.int (n0:Int)] β=on (.ok (gridD (tp rs.length ((ktW W cs.length 0 rs n0).map nI))),β):=by
 have c1:=h.c1;have c6:=h.c6;have B:=h.nr.2.1;unfold gQ
 dsimp only
 refine aI ?_;refine j5 (af (aa rfl (aa (bX rfl rfl vO) rfl)) (AN hn)) ?_;refine aB (d:=tN rs) (β1:=β) (ai (aa (bX rfl rfl kG) rfl) (o5 rs)) ?_;refine m5 (ds:=[]) (β1:=β) rfl (Q8 _) ?_;refine bC (ds:=bf 0 cs.length) (β1:=β) (bx (aa (ai (aa (bX rfl rfl qM) rfl) (ly cs)) rfl) (rg1 (by omega) (by omega))) (λi δ f=>β=f/\∃vs r,∃n:Nat,∃g j l,δ=[on (.sh (bM a W bd rs cs)),on (.sh (.int (n:Int))),on (.sh (tN r)),on (.own (vs.map tN)),g,j,l]/\vs.length=i/\r∈lvW W rs i/\n<tbW W (cs.length-i) i r/\vs++ktW W (cs.length-i) i r n=ktW W cs.length 0 rs n0) ⟨rfl,[],rs,n0,PM,PM,PM,rfl,rfl,QH.mpr rfl,hn,rfl⟩ ?_ ?_
 ·rintro i d δ _ hd ⟨rfl,vs,r,n,g,j,l,rfl,m,c,hn,b⟩
  obtain⟨u,rfl⟩:=sI hd;have o:cs.length-i=(cs.length-(i+1))+1:=by omega
  rw[o,←yF]at hn;rw[o]at b;obtain⟨y,A⟩:=mH hn;have p:=(RK.mp y).1;have le:=cw ((h.ok i r).subset p);have q:=(h.at (by omega) c).1;have C:=w6 (k:=i) h q;refine⟨_,rfl,aB (d:= .lst ((sT W cs i r).map λv=> .tup [tN v,.int ((tB W cs i r v:Nat):Int)])) (β1:=β) (bt (sT W cs i r) (scD W (cs.length-(i+1)) i r) _ (cr (af rfl (pe h u c)) rfl) (λv _=>⟨[on (tN v),on (.int ((tB W cs i r v:Nat):Int)),on (.int ((mB W cs i r v:Nat):Int))],rfl,ai rfl eP⟩) (bu (by omega))) ?_⟩;refine kU (af rfl (u3 (tB W cs i r) (sT W cs i r) hn)) rfl ?_;refine m6 (cs:=vs.map tN) rfl rfl (Qv (show _<1000 by rw[PL];omega) (by decide)) (ak (aB (af rfl (jJ le q.2.1)) (aZ ⟨rfl,vs++[(fal (tB W cs i r) (sT W cs i r) n).1],less r (fal (tB W cs i r) (sT W cs i r) n).1,(fal (tB W cs i r) (sT W cs i r) n).2,_,_,_,by rw[QK];rfl,by rw[Qm,m];rfl,h.nx c p,A,by rw[Ra];exact b⟩)))
 ·rintro δ _ ⟨rfl,vs,r,n,g,j,l,rfl,m,c,_,b⟩
  rw[mh]at m b;rw[UV]at b;have e:vs=ktW W cs.length 0 rs n0:=by rw[←b];exact(QY vs).symm
  rw[←e];have t:=(iW h.ok (IR hn) (by rw[zS,QS]) h.sm).2.2;rw[←e]at t;exact ak (aK (af rfl (yS (by omega) (by omega) (by omega) t)) ⟨rfl,rfl⟩)
theorem vb{W:Wy}{bd:D}{rs cs:List Nat}:(ff K a).1 [bM a W bd rs cs] β=on (.ok (.int ((dlW W cs.length 0 rs:Nat):Int)),β):=
 aI (ak (aK (x_2 (bX rfl (aa rfl (aa (ai (aa (iB rfl rfl) rfl) rfl) rfl)) (qm (k:=0) (Q8 _) (QH.mpr rfl))) rfl mz) ⟨rfl,rfl⟩))
theorem MW{n0:Nat}(h:Nt1 K a rs cs W bd)(hn:n0<dlW W cs.length 0 rs):(fW K a).1 [bM a W bd rs cs,.int (n0:Int)] β=on (.ok (gridD (tp rs.length ((kdW W cs.length 0 rs n0).map nI))),β):=by
 have c1:=h.c1;have c6:=h.c6;have F:=h.nr.2.1;unfold fW
 dsimp only
 refine aI ?_;refine j5 (af (aa rfl (aa (bX rfl rfl vb) rfl)) (AN hn)) ?_;refine aB (d:=tN rs) (β1:=β) (ai (aa (bX rfl rfl kG) rfl) (o5 rs)) ?_;refine m5 (ds:=[]) (β1:=β) rfl (Q8 _) ?_;refine bC (ds:=bf 0 cs.length) (β1:=β) (bx (aa (ai (aa (bX rfl rfl qM) rfl) (ly cs)) rfl) (rg1 (by omega) (by omega))) (λi δ g=>β=g/\∃vs r,∃n:Nat,∃j l m,δ=[on (.sh (bM a W bd rs cs)),on (.sh (.int (n:Int))),on (.sh (tN r)),on (.own (vs.map tN)),j,l,m]/\vs.length=i/\r∈lvW W rs i/\n<dlW W (cs.length-i) i r/\vs++kdW W (cs.length-i) i r n=kdW W cs.length 0 rs n0) ⟨rfl,[],rs,n0,PM,PM,PM,rfl,rfl,QH.mpr rfl,hn,rfl⟩ ?_ ?_
 ·rintro i d δ _ hd ⟨rfl,vs,r,n,j,l,m,rfl,o,f,hn,b⟩
  obtain⟨y,rfl⟩:=sI hd;have p:cs.length-i=(cs.length-(i+1))+1:=by omega
  rw[p,←HX]at hn;rw[p]at b;obtain⟨A,B⟩:=mH hn;have q:=(RK.mp A).1;have le:=cw ((h.ok i r).subset q);obtain⟨t,_,C⟩:=h.at (by omega) f;have c:=Qs le.sum C;have H:=w6 (k:=i) h t;refine⟨_,rfl,aB (d:= .lst ((sT W cs i r).map λv=> .tup [tN v,.int ((mB W cs i r v:Nat):Int)])) (β1:=β) (bt (sT W cs i r) (scD W (cs.length-(i+1)) i r) _ (cr (af rfl (pe h y f)) rfl) (λv _=>⟨[on (tN v),on (.int ((tB W cs i r v:Nat):Int)),on (.int ((mB W cs i r v:Nat):Int))],rfl,ai rfl eP⟩) (bu (by omega))) ?_⟩;refine kU (af rfl (u3 (mB W cs i r) (sT W cs i r) hn)) rfl ?_;refine dT (z:= .int (((fal (mB W cs i r) (sT W cs i r) n).2/mu (fal (mB W cs i r) (sT W cs i r) n).1:Nat):Int)) rfl (af rfl (m4 (.inr rfl) c)) (by rw[j4];exact xV (ux _) (cc (pT c) (by decide))) ?_;refine m6 (cs:=vs.map tN) rfl rfl (Qv (show _<1000 by rw[PL];omega) (by decide)) (ak (aB (af rfl (jJ le t.2.1)) (aZ ⟨rfl,vs++[(fal (mB W cs i r) (sT W cs i r) n).1],less r (fal (mB W cs i r) (sT W cs i r) n).1,(fal (mB W cs i r) (sT W cs i r) n).2/mu (fal (mB W cs i r) (sT W cs i r) n).1,_,_,_,by rw[QK];rfl,by rw[Qm,o];rfl,h.nx f q,Yw B,by rw[Ra];exact b⟩)))
 ·rintro δ _ ⟨rfl,vs,r,n,j,l,m,rfl,o,f,_,b⟩
  rw[mh]at o b;rw[UV]at b;have e:vs=kdW W cs.length 0 rs n0:=by rw[←b];exact(QY vs).symm
  rw[←e];have u:=(iW h.ok (IS hn) (by rw[zU,QS]) h.sm).2.2;rw[←e]at u;exact ak (aK (af rfl (yS (by omega) (by omega) (by omega) u)) ⟨rfl,rfl⟩)
theorem xh{r c:Nat}{rows:LI}(sh:Shp r c rows)(r0:1<=r)(r1:r<=30)(c1:c<=30):(dh K a).1 [gridD rows] β=on (.ok (gridD (tp c rows)),β):=
 aI (ak (aK (LD sh r0 r1 c1 rfl) ⟨rfl,rfl⟩))
theorem vp{rows:LI}(h:Nt0 rs cs)(sh:Shp rs.length cs.length rows):(eJ K a).1 [bM a W bd rs cs,gridD rows] β=on (.ok (.lst ((tp cs.length rows).map tpI)),β):=by
 obtain⟨b,j,_,_⟩:=h.nr;have c1:=h.c1;have c6:=h.c6;unfold eJ
 dsimp only
 refine aI ?_;refine aB (d:= .int (cs.length:Int)) (β1:=β) (ai (aa (bX rfl rfl qM) rfl) (ly cs)) ?_;have e:f2 fF (aL eU (ae (am 1) aD)) (aL eU (ae (nP a.Ae "rowsums" (cT K a).1 (am 0) aD []) aD)) (vwA [on (.sh (bM a W bd rs cs)),on (.sh (gridD rows)),on (.sh (.int (cs.length:Int)))]) β=on (.ok (.bl PX),β):=x_2 (ai rfl (cE (r:=rs.length) (by rw[PL,PL];exact sh.1))) (ai (aa (bX rfl rfl kG) rfl) (ly rs)) (ne_int.trans (by rw[Qd rfl];rfl));have g:=bt (nv:=1) (caps:=[2]) (it:=eC (am 1)) (tg:=tgC 0) (f:=f2 fF (aL eU (ae (am 0) aD)) (am 1)) (δ:=vwA [on (.sh (bM a W bd rs cs)),on (.sh (gridD rows)),on (.sh (.int (cs.length:Int)))]) (β:=β) rows (λrow=>D.lst (row.map D.int)) (λ_=>D.bl PX) (cr rfl (by show on _=on _;rw[Qa];rfl)) (λrow i=>⟨[on (D.lst (row.map D.int)),on (.int (cs.length:Int))],rfl,x_2 (ai rfl (cE (r:=cs.length) (by rw[PL];exact sh.2 row i))) rfl (ne_int.trans (by rw[Qd rfl];rfl))⟩) (bu (by rw[sh.1];omega));refine gJ (eD (x_B e) (fN (ai (aa g rfl) (any_map rows λ_=>PX)) rfl)) (by simp) (bj ?_);refine ak (aK (bt (tp cs.length rows) (λcol=>D.lst (col.map D.int)) tpI (cr (af rfl (xh sh b (by omega) (by omega))) (by show on _=on _;rw[Qa];rfl)) (λcol _=>⟨[on (D.lst (col.map D.int))],rfl,rfl⟩) (bu (by rw[(j6 (d:=(0:Int)) (c:=cs.length) sh.1).1];omega))) ⟨rfl,rfl⟩)
theorem Op{k:Nat}{r v:List Nat}(h:Nt1 K a rs cs W bd)(n:k<cs.length)(o:r∈lvW W rs k)(p:v∈sT W cs k r):∃x,(bN K a).1 [bM a W bd rs cs,.int (k:Int),tN r,tN v] β=on (.ok (.tup [x,.int ((ahW (mB W cs k r) v (sT W cs k r):Nat):Int)]),β):=by
 suffices q:∃g b,(bN K a).1 [bM a W bd rs cs,.int (k:Int),tN r,tN v] β=on (g,b)/\β=b/\∃x,g= .ok (.tup [x,.int ((ahW (mB W cs k r) v (sT W cs k r):Nat):Int)]) by
  obtain⟨g,_,e,rfl,x,rfl⟩:=q;exact⟨x,e⟩
 unfold bN
 dsimp only
 refine ju ?_;refine aB (d:= .int 0) (β1:=β) rfl (aB (d:= .int 0) (β1:=β) rfl ?_);generalize A:(mB W cs k r)=f;refine bC (ds:=(sT W cs k r).map (scD W (cs.length-(k+1)) k r)) (β1:=β) (cr (af rfl (pe h n o)) rfl) (λi δ b=>β=b/\∃t d:Nat,∃c j m,δ=[on (.sh (bM a W bd rs cs)),on (.sh (.int (k:Int))),on (.sh (tN r)),on (.sh (tN v)),on (.sh (.int (t:Int))),on (.sh (.int (d:Int))),c,j,m]/\d+ahW f v ((sT W cs k r).drop i)=ahW f v (sT W cs k r)/\v∈(sT W cs k r).drop i) ⟨rfl,0,0,PM,PM,PM,rfl,QS _,p⟩ ?_ ?_
 ·rintro i _ δ _ hd ⟨rfl,t,d,c,j,m,rfl,e,hm⟩
  obtain⟨u,B,rfl⟩:=bB hd;obtain⟨C,rfl⟩:=P4.mp B;rw[QV C]at e hm;have F:∀u l,ahW f v (u::l)=if u=v then 0 else f u+ahW f v l:=λ_ _=>rfl;rw[F]at e;refine⟨_,rfl,jT (β1:=β) (x_B (x_2 rfl rfl (JB _ v))) ?_⟩;by_cases z:(sT W cs k r)[i]=v
  ·rw[P7 z]at e
   rw[P7 (Qd z)];exact aK (ai rfl eP) ⟨rfl,.int (t:Int),by rw[←e];rfl⟩
  ·rw[P5 z]at e
   rw[P5 (λy=>z (Rx y))];refine bj (dT (z:= .int ((t+tB W cs k r (sT W cs k r)[i]:Nat):Int)) rfl rfl rfl (ak (dT (z:= .int ((d+f (sT W cs k r)[i]:Nat):Int)) rfl rfl (by rw[←A];rfl) (aZ ⟨rfl,_,_,_,_,_,rfl,by omega,(Qh.mp hm).resolve_left λy=>z y.symm⟩))))
 ·rintro δ _ ⟨rfl,t,d,c,j,m,rfl,e,hm⟩
  rw[PL,SW]at hm;cases hm
theorem BA{f:List Nat->Nat}{v:List Nat}:∀{l:List (List Nat)},ahW f v l<=L2.Nt.sm l f
 |[]=>P9 _
 |u::l=>by
  rw[aT];show(if u=v then 0 else f u+ahW f v l)<=_;have:=BA (f:=f) (v:=v) (l:=l);split<;>omega
theorem LR{rows:LI}{vs:List (List Nat)}(h:Nt1 K a rs cs W bd)(sh:Shp rs.length cs.length rows)(F:tp cs.length rows=vs.map nI)(u:Wk W 0 rs vs)(y:vs.length=cs.length):(jK K a).1 [bM a W bd rs cs,gridD rows] β=on (.ok (.tup [.int ((frW W 0 rs vs:Nat):Int),.int ((frW W 0 rs vs+pr (vs.map mu):Nat):Int)]),β):=by
 have c6:=h.c6;have f:∀v∈vs,v.sum<=40:=λv c=>by
  have:=(iW h.ok u (by rw[y,QS]) h.sm).1;rw[Xd]at this;have q:v.sum∈cs:=by rw[←this];exact Qc.mpr ⟨v,c,rfl⟩
  have:=gG q;have:=h.sm;have:=h.nr.2.2.1;omega
 have A:∀i,pr ((vs.take i).map mu)<2^1000:=λi=>cc (m:=160*6) (Qs (xp (m:=160) λx l=>by
  obtain⟨v,c,rfl⟩:=Qc.mp l;exact pT (f v (UC c))) (SQ (by decide) (by rw[PL,R4];omega))) (by decide)
 unfold jK
 dsimp only
 refine aI ?_;refine aB (d:=tN rs) (β1:=β) (ai (aa (bX rfl rfl kG) rfl) (o5 rs)) ?_;refine aB (d:= .int 0) (β1:=β) rfl (aB (d:= .int 1) (β1:=β) rfl ?_);refine bC (ds:=cP 0 (vs.map tN)) (β1:=β) (bx (aa (af rfl (vp h.toNt0 sh)) rfl) (by rw[F,Qa];rfl)) (λi δ n=>β=n/\∃r,∃fs:Nat,∃o p,δ=[on (.sh (bM a W bd rs cs)),on (.sh (gridD rows)),on (.sh (tN r)),on (.sh (.int (fs:Int))),on (.sh (.int ((pr ((vs.take i).map mu):Nat):Int))),o,p]/\r∈lvW W rs i/\Wk W i r (vs.drop i)/\fs+pr ((vs.take i).map mu)*frW W i r (vs.drop i)=frW W 0 rs vs) ⟨rfl,rs,0,PM,PM,rfl,QH.mpr rfl,u,by rw[VU,Ug,zc,Yz,QS];rfl⟩ ?_ ?_
 ·rintro i _ δ _ hd ⟨rfl,r,fs,o,p,rfl,j,b,e⟩
  obtain⟨_,l,rfl⟩:=nR hd;obtain⟨v,c,rfl⟩:=bB l;obtain⟨B,rfl⟩:=P4.mp c;rw[QV B]at e b;have C:(vs.drop (i+1)).length=cs.length-(i+1):=by rw[Vt,y]
  have t:=HI b C;obtain⟨x,ha⟩:=Op (β:=β) h (by omega) j t;have H:=(h.at (by omega) j).1;have le:=cw ((h.ok i r).subset b.1);have k:=f _ (QP B);have I:ahW (mB W cs i r) vs[i] (sT W cs i r)<=2^160:=Qs BA (Qs (tP (g:=mB W cs i r) UH λ_ _=>P9 _) (by
   have:=JD h (by omega) j;rw[show cs.length-i=(cs.length-(i+1))+1 by omega]at this;exact this))
  have J:frW W i r (vs[i]::vs.drop (i+1))=ahW (mB W cs i r) vs[i] (sT W cs i r)+mu vs[i]*frW W (i+1) (less r vs[i]) (vs.drop (i+1)):=by
   unfold mB sT;rw[←C];rfl
  rw[J]at e;have pt:pr ((vs.take (i+1)).map mu)=pr ((vs.take i).map mu)*mu vs[i]:=by
   rw[Tj,c,QK,uj];show _*(mu vs[i]*1)=_;rw[Nat.mul_one]
  refine⟨_,rfl,dT rfl (x_2 rfl (x_2 (af rfl ha) rfl mz) (jY (A i) (cc I (by decide)))) rfl (dT rfl (af rfl (m4 (.inr rfl) k)) (jY (A i) (cc (lU k) (by decide))) (ak (aB (af rfl (jJ le H.2.1)) (aZ ⟨rfl,less r vs[i],fs+pr ((vs.take i).map mu)*ahW (mB W cs i r) vs[i] (sT W cs i r),on (.sh (.int (i:Int))),on (.sh (tN vs[i])),?_,h.nx j b.1,b.2,?_⟩))))⟩
  ·rw[pt,j4];rfl
  ·rw[pt,←e,Yx,T4,Nat.add_assoc]
 ·rintro δ _ ⟨rfl,r,fs,o,p,rfl,j,_,e⟩
  rw[jP,PL,SW,Sg]at*;have z:frW W vs.length r []=0:=rfl;rw[z,Nat.mul_zero,Wz]at e;subst e;exact ak (aK (ai (aa rfl (aa (x_2 rfl rfl rfl) rfl)) eP) ⟨rfl,rfl⟩)
theorem Oq{k:Nat}{r v:List Nat}(h:Nt1 K a rs cs W bd)(n:k<cs.length)(o:r∈lvW W rs k)(p:v∈sT W cs k r):∃x,(bN K a).1 [bM a W bd rs cs,.int (k:Int),tN r,tN v] β=on (.ok (.tup [.int ((ahW (tB W cs k r) v (sT W cs k r):Nat):Int),x]),β):=by
 suffices q:∃g b,(bN K a).1 [bM a W bd rs cs,.int (k:Int),tN r,tN v] β=on (g,b)/\β=b/\∃x,g= .ok (.tup [.int ((ahW (tB W cs k r) v (sT W cs k r):Nat):Int),x]) by
  obtain⟨g,_,e,rfl,x,rfl⟩:=q;exact⟨x,e⟩
 unfold bN
 dsimp only
 refine ju ?_;refine aB (d:= .int 0) (β1:=β) rfl (aB (d:= .int 0) (β1:=β) rfl ?_);generalize A:(tB W cs k r)=f;refine bC (ds:=(sT W cs k r).map (scD W (cs.length-(k+1)) k r)) (β1:=β) (cr (af rfl (pe h n o)) rfl) (λi δ b=>β=b/\∃t d:Nat,∃c j m,δ=[on (.sh (bM a W bd rs cs)),on (.sh (.int (k:Int))),on (.sh (tN r)),on (.sh (tN v)),on (.sh (.int (t:Int))),on (.sh (.int (d:Int))),c,j,m]/\t+ahW f v ((sT W cs k r).drop i)=ahW f v (sT W cs k r)/\v∈(sT W cs k r).drop i) ⟨rfl,0,0,PM,PM,PM,rfl,QS _,p⟩ ?_ ?_
 ·rintro i _ δ _ hd ⟨rfl,t,d,c,j,m,rfl,e,hm⟩
  obtain⟨u,B,rfl⟩:=bB hd;obtain⟨C,rfl⟩:=P4.mp B;rw[QV C]at e hm;have F:∀u l,ahW f v (u::l)=if u=v then 0 else f u+ahW f v l:=λ_ _=>rfl;rw[F]at e;refine⟨_,rfl,jT (β1:=β) (x_B (x_2 rfl rfl (JB _ v))) ?_⟩;by_cases z:(sT W cs k r)[i]=v
  ·rw[P7 z]at e
   rw[P7 (Qd z)];exact aK (ai rfl eP) ⟨rfl,.int (d:Int),by rw[←e];rfl⟩
  ·rw[P5 z]at e
   rw[P5 (λy=>z (Rx y))];refine bj (dT (z:= .int ((t+f (sT W cs k r)[i]:Nat):Int)) rfl rfl (by rw[←A];rfl) (ak (dT (z:= .int ((d+mB W cs k r (sT W cs k r)[i]:Nat):Int)) rfl rfl rfl (aZ ⟨rfl,_,_,_,_,_,rfl,by omega,(Qh.mp hm).resolve_left λy=>z y.symm⟩))))
 ·rintro δ _ ⟨rfl,t,d,c,j,m,rfl,e,hm⟩
  rw[PL,SW]at hm;cases hm
theorem MC{rows:LI}{vs:List (List Nat)}(h:Nt1 K a rs cs W bd)(sh:Shp rs.length cs.length rows)(l:tp cs.length rows=vs.map nI)(m:Wk W 0 rs vs)(n:vs.length=cs.length):(gN K a).1 [bM a W bd rs cs,gridD rows] β=on (.ok (.int ((nmW W 0 rs vs:Nat):Int)),β):=by
 have c6:=h.c6;unfold gN
 dsimp only
 refine aI ?_;refine aB (d:=tN rs) (β1:=β) (ai (aa (bX rfl rfl kG) rfl) (o5 rs)) ?_;refine aB (d:= .int 0) (β1:=β) rfl ?_;refine bC (ds:=cP 0 (vs.map tN)) (β1:=β) (bx (aa (af rfl (vp h.toNt0 sh)) rfl) (by rw[l,Qa];rfl)) (λi δ f=>β=f/\∃r,∃fs:Nat,∃g j,δ=[on (.sh (bM a W bd rs cs)),on (.sh (gridD rows)),on (.sh (tN r)),on (.sh (.int (fs:Int))),g,j]/\r∈lvW W rs i/\Wk W i r (vs.drop i)/\fs+nmW W i r (vs.drop i)=nmW W 0 rs vs) ⟨rfl,rs,0,PM,PM,rfl,QH.mpr rfl,m,QS _⟩ ?_ ?_
 ·rintro i _ δ _ hd ⟨rfl,r,fs,g,j,rfl,c,b,e⟩
  obtain⟨_,o,rfl⟩:=nR hd;obtain⟨v,p,rfl⟩:=bB o;obtain⟨q,rfl⟩:=P4.mp p;rw[QV q]at e b;have k:(vs.drop (i+1)).length=cs.length-(i+1):=by rw[Vt,n]
  obtain⟨x,ha⟩:=Oq (β:=β) h (by omega) c (HI b k);have t:=(h.at (by omega) c).1;have le:=cw ((h.ok i r).subset b.1);have u:nmW W i r (vs[i]::vs.drop (i+1))=ahW (tB W cs i r) vs[i] (sT W cs i r)+nmW W (i+1) (less r vs[i]) (vs.drop (i+1)):=by
   unfold tB sT;rw[←k];rfl
  rw[u]at e;exact⟨_,rfl,dT (z:= .int ((fs+ahW (tB W cs i r) vs[i] (sT W cs i r):Nat):Int)) rfl (x_2 (af rfl ha) rfl mC) rfl (ak (aB (af rfl (jJ le t.2.1)) (aZ ⟨rfl,less r vs[i],_,_,_,rfl,h.nx c b.1,b.2,by omega⟩)))⟩
 ·rintro δ _ ⟨rfl,r,fs,g,j,rfl,c,_,e⟩
  rw[jP,PL,SW]at e;have e:fs=nmW W 0 rs vs:=e;subst e;exact ak (aK rfl ⟨rfl,rfl⟩)
theorem rW{rows:List (List D)}(h:rows.length<=1000):(iK K a).1 [lG rows] β=on (.ok (lG rows),β):=
 aI (ak (aK (bt rows D.lst D.lst rfl (λx _=>⟨_,rfl,rfl⟩) (bu h)) ⟨rfl,rfl⟩))
theorem zN{r c:Nat}(d:r<=1000)(e:c<=1000):mv K a [.int (r:Int),.int (c:Int)] β=on (.ok (gP (nM r c)),β):=by
 have b:∀x:Nat,hX 1 [] (dC gA (ae (am 1) (aD))) (tgC 0) (λ_=>M.ret PQ) (cEm (aL fX (ae (fC (.int 0)) (ae (fC (.int 40)) (aD))))) [on (.int (0+(x:Int))),on (.int (c:Int))] β=on (.ok ((Qr c ((0:Int),(40:Int))).map pD),β):=λx=>by
  have h:=AL (nv:=1) (caps:=[]) (it:=dC gA (ae (am 1) (aD))) (tg:=tgC 0) (f:=aL fX (ae (fC (.int 0)) (ae (fC (.int 40)) (aD)))) (δ:=[on (.int (0+(x:Int))),on (.int (c:Int))]) (β:=β) (Qb c) (λi=>D.int (0+(i:Int))) (λ_=>pD (0,40))
   (bx rfl (rg1 (by omega) (by omega))) (λx _=>⟨_,rfl,ai rfl eP⟩) (bu (by rw[QC];omega))
  rw[jN]at h;rw[S7];exact h
 have h:=rY (nv:=1) (caps:=[1]) (it:=dC gA (ae (am 0) (aD))) (tg:=tgC 0) (f:=hX 1 [] (dC gA (ae (am 1) (aD))) (tgC 0) (λ_=>M.ret PQ) (cEm (aL fX (ae (fC (.int 0)) (ae (fC (.int 40)) (aD)))))) (δ:=[on (.int (r:Int)),on (.int (c:Int))]) (β:=β) (Qb r) (λi=>D.int (0+(i:Int))) (λ_=>(Qr c ((0:Int),(40:Int))).map pD)
  (bx rfl (rg1 (by omega) (by omega))) (λx _=>⟨_,rfl,b x⟩) (bu (by rw[QC];omega))
 rw[jN]at h;refine Lq (ak (JN h ⟨rfl,?_⟩));show gP (nM r c)=_;show Rf _ _=_;rw[S7]
abbrev bdS(rows:LI)(b:LP)(c d e f g:Option Sl):Ds:=[on (.sh .bag),on (.sh (gridD rows)),on (.grd (gP b)),c,d,e,f,g]
def BdI(r c:Nat)(rows:LI)(d e:Option Sl)(δ:Ds)(β:Bg):Prop:=β.ok/\∃(b:LP) (f g h:Option Sl),δ=bdS rows b d e f g h/\Bnd r c b/\Kp rows b
theorem xE{r c:Nat}{rows:LI}(t:Tab r c rows)(ok:β.ok):∃(b:LP) (f:Bg),(iM K a).1 [.bag,gridD rows] β=on (.ok (da b),f)/\Bnd r c b/\Kp rows b/\f.ok:=by
 suffices h:∃g f,(iM K a).1 [.bag,gridD rows] β=on (g,f)/\(∃(b:LP),g= .ok (da b)/\Bnd r c b/\Kp rows b/\f.ok) by
  obtain⟨g,f,e,b,rfl,h1,h2⟩:=h;exact⟨b,f,e,h1,h2⟩
 have r1:=t.r1;have c1:=t.c1;have c0:=t.c0;have r0:=t.r0;obtain⟨F,H,I⟩:=t.shp.at (i:=0) (by omega);have hr0:(gI rows)[0]?=on (F.map D.int):=by rw[PY,H];rfl
 unfold iM
 dsimp only
 refine ju ?_;refine HL (β1:=β) (JK (as:=[.int (r:Int),.int (c:Int)]) (β1:=β) (aa (ai rfl (uG (by rw[PL,t.shp.1]))) (aa (ai (aa (x:= .lst (F.map D.int)) (x_2 rfl rfl (sO hr0)) rfl) (cE (by rw[PL,I]))) rfl)) (zN (by omega) (by omega))) (MD _) ?_;obtain⟨w0,β1,p1,a0,a1,R⟩:=bE ok (lot:=3) (by decide) (by decide);refine jT (c:=decide (w0=0)) (β1:=β1) (x_B (x_2 (af rfl p1) rfl eq_int)) ?_;by_cases hw:w0=0
 ·rw[P7 (by simpa using hw)]
  exact aK rfl ⟨_,rfl,Bnd.free r c,Kp.free t,R⟩
 rw[P5 (by simpa using hw)];refine bj ?_;refine bC (ds:=cP 0 ((gI rows).map D.lst)) (β1:=β1) rfl (λ_ δ β=>∃s3 s4,BdI r c rows s3 s4 δ β) ⟨PM,PM,R,nM r c,PM,PM,PM,rfl,Bnd.free r c,Kp.free t⟩ ?_ ?_
 ·rintro i d δ β2 hd ⟨s3,s4,J,b,Y,Z,T,rfl,o,B⟩
  obtain⟨x,hx,rfl⟩:=nR hd;obtain⟨y,hy,rfl⟩:=bB hx;obtain⟨row,m,rfl⟩:=bB hy;have hi:i<r:=by rw[←t.shp.1];exact(P4.mp m).1
  have U:row.length=c:=t.shp.2 row (Qi m);refine⟨bdS rows b (on (.sh (.int i))) (on (.sh (.lst (row.map D.int)))) Y Z T,rfl,ak ?_⟩;refine bC (ds:=cP 0 (row.map D.int)) (β1:=β2) rfl (λ_=>BdI r c rows (on (.sh (.int i))) (on (.sh (.lst (row.map D.int))))) ⟨J,b,Y,Z,T,rfl,o,B⟩ ?_ (λδ β h=>aZ ⟨_,_,h⟩);rintro j d δ β3 hd ⟨ok3,b,Y,Z,T,rfl,o,B⟩;obtain⟨x,hx,rfl⟩:=nR hd;obtain⟨n,hn,rfl⟩:=bB hx;have hj:j<c:=by rw[←U];exact(P4.mp hn).1
  have hn40:=t.le40 row (Qi m) n (Qi hn);obtain⟨q,l,L⟩:=o.shp.at hi;refine⟨bdS rows b (on (.sh (.int i))) (on (.sh (.lst (row.map D.int)))) (on (.sh (.int j))) (on (.sh (.int n))) T,rfl,?_⟩;obtain⟨w,A,p4,w0,w1,N⟩:=bE ok3 (lot:=4) (by decide) (by decide);refine aB (d:= .int w) (β1:=A) (af rfl p4) ?_
  have put:∀(p:Int×Int) (δ:Ds),PairOk p->p.1<=n->n<=p.2->∀{β5:Bg} {fv:FD} {h:G} {Q:Out->Bg->Prop},fv (vwA (bdS rows b (on (.sh (.int i))) (on (.sh (.lst (row.map D.int)))) (on (.sh (.int j))) (on (.sh (.int n))) (on (.sh (.int w))))) A=on (.ok (pD p),β5)->
    (∀b,Bnd r c b->Kp rows b->Gw h (bdS rows b (on (.sh (.int i))) (on (.sh (.lst (row.map D.int)))) (on (.sh (.int j))) (on (.sh (.int n))) (on (.sh (.int w)))) β5 Q)->
    Gw (aY (qe 2 (am 3) (am 5) fv) h) (bdS rows b (on (.sh (.int i))) (on (.sh (.lst (row.map D.int)))) (on (.sh (.int j))) (on (.sh (.int n))) (on (.sh (.int w)))) A Q:=λp δ hp h1 h2 β5 fv h Q e k=>by
   refine HK (d:=pD p) (rows:=gP b) (ds:=q.map pD) (ka:=i) (kb:=j) (ja:=i) (jb:=j) e rfl rfl rfl ?_ ?_ ?_ rfl ?_
   ·rw[PL,o.shp.1];exact mD (by omega) (by omega)
   ·rw[PY,l];rfl
   ·rw[PL,L];exact mD (by omega) (by omega)
   ·have X:(gP b).set i ((q.map pD).set j (pD p))=gP (b.set i (q.set j p)):=by
     show _=Rf _ _;rw[UN,UN]
    rw[X];exact k _ (o.set l hp) (B.set l (mU m hn) h1 h2)
  refine jT (c:=decide (w=0)) (β1:=A) (x_B (x_2 rfl rfl eq_int)) ?_;by_cases q0:w=0
  ·rw[P7 (by simpa using q0)]
   obtain⟨u,β5,p5,u0,u1,ok5⟩:=bE N (lot:=n+1) (by omega) (by omega);obtain⟨v,C,p6,v0,v1,O⟩:=bE ok5 (lot:=3) (by decide) (by decide);refine put (n-u,US 40 (n+v)) [] ⟨by show 0<=n-u;omega,by show n-u<=US 40 (n+v);omega,by show US 40 (n+v)<=40;omega⟩ (by show n-u<=n;omega) (by show n<=US 40 (n+v);omega) (β5:=C) ?_ λb o B=>?_
   ·exact ai (aa (x_2 rfl (af (aa rfl (aa (x_2 rfl rfl rfl) rfl)) p5) rfl) (aa (ai (aa rfl (aa (x_2 rfl (af rfl p6) rfl) rfl)) DA) rfl)) eP
   ·refine ak (cI (β1:=C) ?_ (bj (aZ ⟨O,b,_,_,_,rfl,o,B⟩)))
    rw[show(PX:Bool)=decide (w=1) by rw[q0];rfl];exact x_B (x_2 rfl rfl eq_int)
  ·rw[P5 (by simpa using q0)]
   refine bj (ak (jT (c:=decide (w=1)) (β1:=A) (x_B (x_2 rfl rfl eq_int)) ?_));by_cases q1:w=1
   ·rw[P7 (by simpa using q1)]
    obtain⟨v,C,p6,v0,v1,O⟩:=bE N (lot:=3) (by decide) (by decide);refine put (0,Y5 n v) [] ⟨by show(0:Int)<=0;omega,by show 0<=Y5 n v;omega,by show Y5 n v<=40;omega⟩ (by show 0<=n;omega) (by show n<=Y5 n v;omega) (β5:=C) ?_ λb o B=>aZ ⟨O,b,_,_,_,rfl,o,B⟩;exact ai (aa rfl (aa (ai (aa rfl (aa (af rfl p6) rfl)) ML) rfl)) eP
   ·rw[P5 (by simpa using q1)]
    exact bj (aZ ⟨N,b,_,_,_,rfl,o,B⟩)
 ·rintro δ β2 ⟨s3,s4,J,b,Y,Z,T,rfl,o,B⟩
  exact ak (aK rfl ⟨b,rfl,o,B,J⟩)
variable{n:Nat}{vs:List (List Nat)}
abbrev csC(vs:List (List Nat)):List Nat:=vs.map Rp
abbrev rwC(n:Nat)(vs:List (List Nat)):LI:=tp n (vs.map nI)
theorem IJ(v:List Nat)(j:Nat):(nI v).getD j 0=((v.getD j 0:Nat):Int):=by
 rw[PV,PV,PY];cases v[j]?<;>rfl
theorem ue(c:∀v∈vs,v.length=n):(rwC n vs).map Rp=nI (rsm n vs):=by
 have e:rsm n vs=(Qb n).map λj=>(rsm n vs).getD j 0:=Sc (by rw[nl c,PL,QC]) λi d f=>by
  rw[SY,S6,gq d]
 rw[e];unfold rwC tp tpA;show Rf _ (Rf _ _)=Rf _ (Rf _ _);rw[Qa,Qa];refine QD λj b=>?_;have b:=Qq.mp b;show((vs.map nI).map λrow=>row.getD j 0).sum=(((rsm n vs).getD j 0:Nat):Int);rw[yT c b,←gl,Qa];show _=(Rf _ (Rf _ _)).sum;rw[Qa];exact Rh Rp (QD λv _=>IJ v j)
theorem shpC(b:∀v∈vs,v.length=n):Shp vs.length n (vs.map nI):=⟨PL _,λrow c=>by
 obtain⟨v,d,rfl⟩:=Qc.mp c;rw[PL];exact b v d⟩
theorem yQ(b:∀v∈vs,v.length=n):tp vs.length (rwC n vs)=vs.map nI:=HS (shpC b)
theorem vZ:Shp n vs.length (rwC n vs):=j6 (PL _)
theorem IK(vs:List (List Nat)):(vs.map nI).map Rp=nI (csC vs):=by
 show _=Rf _ (Rf _ _);rw[Qa,Qa];exact QD λv _=>gl v
theorem yR{i:Nat}(b:i<n):(rwC n vs)[i]?=on (nI (vs.map λv=>v.getD i 0)):=by
 rw[LE b];congr 1;show _=Rf _ (Rf _ _);rw[Qa,Qa];exact QD λv _=>IJ v i
theorem OQ{i:Int}:f8 K a 5 [.int i,.int i] β=on (.ok (.bl PQ),β):=by
 show gu 2 (lF K a (f8 K a 4)) _ _=_;refine aI ?_;unfold lF;refine cI (β1:=β) (fN (x:= .bl PX) (ai rfl rfl) rfl) (bj ?_);refine cI (β1:=β) (x_B (x_2 rfl rfl rfl)) (bj ?_);refine cI (β1:=β) (eD (x_B (x_2 (ai rfl rfl) (ai rfl rfl) rfl)) (x_B (x_2 (ai rfl rfl) (ai rfl rfl) rfl))) (bj ?_);exact ak (aK (vG (ai rfl rfl) (x_2 rfl rfl (by rw[eq_int,Qd rfl]))) ⟨rfl,rfl⟩)
structure GrW (rows:LI) (c:Nat) (rs:List Nat):Prop where
 shp:Shp rs.length c rows
 nn:∀row∈rows,∀x∈row,0<=x
 sm:rows.map Rp=nI rs
 c1:1<=c
 c6:c<=6
 nr:Nrw rs
 wd:pr (rs.dropLast.map (·+1))<63
theorem o7:∀{xs:List Int},(∀x∈xs,0<=x)->∃l:List Nat,xs=nI l
 |[],_=>⟨[],rfl⟩
 |x::xs,h=>by
  obtain⟨l,e⟩:=o7 λy b=>h y (PR _ b);have:=h x P3;exact⟨x.toNat::l,by rw[e];show _=((x.toNat:Nat):Int)::_;rw[Int.toNat_of_nonneg this]⟩
theorem few2:∀x<41,∀y<41-x,(x+1)*((y+1)*1)<=500/\(x+1)*1<63:=by decide
theorem few3:∀x<12,∀y<12-x,∀z<12-x-y,(x+1)*((y+1)*((z+1)*1))<=500/\(x+1)*((y+1)*1)<63:=by decide
theorem few4:∀x<9,∀y<9-x,∀z<9-x-y,∀w<9-x-y-z,(x+1)*((y+1)*((z+1)*((w+1)*1)))<=500/\(x+1)*((y+1)*((z+1)*1))<63:=by decide
theorem few:∀{rs:List Nat},(rs.length=2/\rs.sum<=40)\/(rs.length=3/\rs.sum<=11)\/(rs.length=4/\rs.sum<=8)->Nrw rs/\pr (rs.dropLast.map (·+1))<63
 |[x,y],h=>by
  have q:=few2 x (by simp at h;omega) y (by simp at h;omega);exact⟨⟨by show 1<=2;decide,by show 2<=4;decide,by simp at h⊢;omega,q.1⟩,q.2⟩
 |[x,y,z],h=>by
  have q:=few3 x (by simp at h;omega) y (by simp at h;omega) z (by simp at h;omega);exact⟨⟨by show 1<=3;decide,by show 3<=4;decide,by simp at h⊢;omega,q.1⟩,q.2⟩
 |[x,y,z,w],h=>by
  have q:=few4 x (by simp at h;omega) y (by simp at h;omega) z (by simp at h;omega) w (by simp at h;omega);exact⟨⟨by show 1<=4;decide,by show 4<=4;decide,by simp at h⊢;omega,q.1⟩,q.2⟩
 |[],h=>by simp at h
 |[_],h=>by simp at h
 |_::_::_::_::_::_,h=>by simp at h
abbrev gdS(r c t:Nat)(rows:LI)(b d e:Option Sl):Ds:=[on (.sh .bag),on (.sh (.int (r:Int))),on (.sh (.int (c:Int))),on (.sh (.int (t:Int))),on (.grd (gI rows)),b,d,e]
theorem qS{r c t:Nat}(ok:β.ok)(r0:1<=r)(r1:r<=4)(c1:1<=c)(c6:c<=6)(C:(r=2/\t<=40)\/(r=3/\t<=11)\/(r=4/\t<=8)):∃(rows:LI) (rs:List Nat) (j:Bg),(k8 K a).1 [.bag,.int (r:Int),.int (c:Int),.int (t:Int)] β=on (.ok (gridD rows),j)/\GrW rows c rs/\j.ok:=by
 suffices h:∃g j,(k8 K a).1 [.bag,.int (r:Int),.int (c:Int),.int (t:Int)] β=on (g,j)/\(∃(rows:LI) (rs:List Nat),g= .ok (gridD rows)/\GrW rows c rs/\j.ok) by
  obtain⟨g,j,e,rows,rs,rfl,H,I⟩:=h;exact⟨rows,rs,j,e,H,I⟩
 unfold k8
 dsimp only
 refine ju ?_;refine HL (rows:=(Qb r).map λ_=>Qr c (D.int 0)) (β1:=β) (rY (Qb r) (λi=>D.int (0+(i:Int))) _ (bx (ds:=bf 0 r) rfl (rg1 (by omega) (by omega))) (λx _=>⟨_,rfl,O3 (x:= .int 0) (c:=c) rfl rfl (by omega)⟩) (bu (by rw[QC];omega))) ?_ ?_
 ·rw[Tz]
  intro x k;obtain⟨_,_,rfl⟩:=Qc.mp k;rw[←S7 (f:=D.int)];exact rL _
 have J:(Qb r).map (λ_=>Qr c (D.int 0))=gI (Qr r (Qr c 0)):=by
  show _=Rf _ _;rw[S7,List.map_const',S7,QC]
 rw[J];refine bC (ds:=bf 0 t) (β1:=β) (bx rfl (rg1 (by omega) (by omega))) (λi δ β=>β.ok/\∃rows p q y,δ=gdS r c t rows p q y/\Shp r c rows/\(∀row∈rows,∀x∈row,0<=x)/\tot rows=(i:Int)) ⟨ok,Qr r (Qr c 0),PM,PM,PM,rfl,⟨by simp,λrow h=>?_⟩,λrow h x k=>?_,?_⟩ ?_ ?_
 ·rw[(Sf.mp h).2];simp
 ·rw[(Sf.mp h).2]at k
  rw[(Sf.mp k).2];exact Yt _
 ·unfold tot
  rw[S7];have z:∀n:Nat,(Qr n (0:Int)).sum=0:=λn=>by
   induction n with
   |zero=>rfl
   |succ n ih=>rw[RF,Qw,ih];rfl
  rw[z,z];rfl
 ·rintro i d δ j hd ⟨m,rows,p,q,y,rfl,sh,nn,C⟩
  obtain⟨v,β1,L,Q,R,A⟩:=bE m (lot:=(r:Int)) (by omega) (by omega);obtain⟨u,β2,N,T,U,B⟩:=bE A (lot:=(c:Int)) (by omega) (by omega);obtain⟨v,rfl⟩:∃n:Nat,v=(n:Int):=⟨v.toNat,by omega⟩;obtain⟨u,rfl⟩:∃n:Nat,u=(n:Int):=⟨u.toNat,by omega⟩;obtain⟨row,b,o⟩:=sh.at (i:=v) (by omega);obtain⟨x,k⟩:=JE (l:=row) (i:=u) (by omega);refine⟨_,rfl,aB (af rfl L) (aB (af rfl N) (ak (HK (d:= .int (x+1)) (β1:=β2) (β2:=β2) (β3:=β2) (rows:=gI rows) (ds:=row.map D.int) (ka:=v) (kb:=u) (ja:=v) (jb:=u) (x_2 (x_2 (x_2 rfl rfl (sO (row:=row.map D.int) ?_)) rfl (cm (d:= .int x) ?_)) rfl rfl) rfl rfl rfl ?_ ?_ ?_ rfl (aZ ⟨B,rows.set v (row.set u (x+1)),on (.sh d),on (.sh (.int (v:Int))),on (.sh (.int (u:Int))),?_,sh.set b,ME nn b ?_,?_⟩))))⟩
  ·rw[PY,b];rfl
  ·rw[PY,k];rfl
  ·rw[PL,sh.1];exact mD (by omega) (by omega)
  ·rw[PY,b];rfl
  ·rw[PL,o];exact mD (by omega) (by omega)
  ·show[_,_,_,_,on (Sl.grd ((gI rows).set v ((row.map D.int).set u (.int (x+1))))),_,_,_]=_
   rw[show(gI rows).set v ((row.map D.int).set u (.int (x+1)))=gI (rows.set v (row.set u (x+1))) by show _=Rf _ _;rw[UN,UN]]
  ·have:=nn row (Qi b) x (Qi k)
   omega
  ·have:=JU (v:=x+1) b k
   omega
 ·rintro δ j ⟨m,rows,p,q,y,rfl,sh,nn,F⟩
  rw[mh]at F;obtain⟨rs,e⟩:=o7 (xs:=rows.map Rp) λx k=>by
   obtain⟨row,O,rfl⟩:=Qc.mp k;exact lY (nn row O)
  have l:rs.length=r:=by rw[←sh.1,←PL (as:=rows) Rp,e,PL]
  have s:rs.sum=t:=by
   have h:(rows.map Rp).sum=(t:Int):=F;rw[e,gl]at h;omega
  obtain⟨q1,q2⟩:=few (rs:=rs) (by rw[l,s];exact C);exact ak (aK rfl ⟨rows,rs,rfl,⟨by rw[l];exact sh,nn,e,c1,c6,q1,q2⟩,m⟩)
theorem DF(ok:β.ok):∃(rows:LI) (rs:List Nat) (b:Bg),lx K a [.bag] β=on (.ok (gridD rows),b)/\GrW rows 2 rs/\b.ok:=by
 suffices h:∃g b,lx K a [.bag] β=on (g,b)/\(∃(rows:LI) (rs:List Nat),g= .ok (gridD rows)/\GrW rows 2 rs/\b.ok) by
  obtain⟨g,b,e,rows,rs,rfl,t,u⟩:=h;exact⟨rows,rs,b,e,t,u⟩
 refine ju ?_;unfold oP;refine m5 (ds:=[]) (β1:=β) rfl (Q8 _) ?_;obtain⟨c,β1,y,F,a1,m⟩:=bE ok (lot:=6) (by decide) (by decide);have o:∃l:List Nat,ixD (.lst [nL [40],nL [39,1],nL [30,10],nL [20,20],nL [24,15],nL [13,27]]) (.int c)=on (nL l)/\Nrw l/\pr (l.dropLast.map (·+1))<63/\l.length<=2/\∀x∈l,x<=40:=by
  obtain rfl|rfl|rfl|rfl|rfl|rfl:c=0\/c=1\/c=2\/c=3\/c=4\/c=5:=by omega
  ·exact⟨[40],rfl,⟨by decide,by decide,by decide,by decide⟩,by decide,by decide,by decide⟩
  ·exact⟨[39,1],rfl,⟨by decide,by decide,by decide,by decide⟩,by decide,by decide,by decide⟩
  ·exact⟨[30,10],rfl,⟨by decide,by decide,by decide,by decide⟩,by decide,by decide,by decide⟩
  ·exact⟨[20,20],rfl,⟨by decide,by decide,by decide,by decide⟩,by decide,by decide,by decide⟩
  ·exact⟨[24,15],rfl,⟨by decide,by decide,by decide,by decide⟩,by decide,by decide,by decide⟩
  ·exact⟨[13,27],rfl,⟨by decide,by decide,by decide,by decide⟩,by decide,by decide,by decide⟩
 obtain⟨l,o,q1,q2,q3,q4⟩:=o;refine bC (ds:=(nI l).map D.int) (β1:=β1) (cr (x_2 (ai rfl rfl) (af rfl y) o) rfl) (λi δ β=>β.ok/\∃rows p q,δ=[on (.sh .bag),on (.own ((gI rows).map D.lst)),p,q]/\rows.length=i/\(∀row∈rows,row.length=2/\∀x∈row,0<=x)/\rows.map Rp=nI (l.take i)) ⟨m,[],PM,PM,rfl,rfl,λ_ h=>(by cases h),rfl⟩ ?_ ?_
 ·rintro i d δ b hd ⟨f,rows,p,q,rfl,j,k,hs⟩
  obtain⟨n,hn,rfl⟩:=pS hd;have A:=q4 n (Qi hn);have H:=(P4.mp hn).1;obtain⟨v,β2,B,I,J,r⟩:=bE f (lot:=(n:Int)+1) (by omega) (by omega);refine⟨_,rfl,aB (af (aa rfl (aa (x_2 rfl rfl rfl) rfl)) B) (ak (m6 (cs:=(gI rows).map D.lst) (d:= .lst [.int v,.int ((n:Int)-v)]) rfl (aa (ai (aa rfl (aa (x_2 rfl rfl rfl) rfl)) rfl) rfl) (Qv (show _<1000 by rw[PL,PL];omega) (by decide)) (aZ ⟨r,rows++[[v,(n:Int)-v]],on (.sh (.int (n:Int))),on (.sh (.int v)),?_,by rw[Qm,j];rfl,λrow h=>?_,?_⟩)))⟩
  ·show _=[_,on (Sl.own (Rf _ (Rf _ (rows++_)))),_,_]
   rw[QK,QK];rfl
  ·rcases RC.mp h with h|h
   ·exact k row h
   ·cases QH.mp h
    refine⟨rfl,λx C=>?_⟩;simp at C;omega
  ·rw[QK,hs,Tj,hn]
   show _=Rf _ (_++_);rw[QK];congr 1;simp;omega
 ·rintro δ b ⟨f,rows,p,q,rfl,j,k,hs⟩
  rw[mtq]at j;rw[mtq,Sg]at hs;exact ak (aK rfl ⟨rows,l,rfl,⟨⟨j,λrow h=>(k row h).1⟩,λrow h=>(k row h).2,hs,by decide,by decide,q1,q2⟩,f⟩)
theorem DP(ok:β.ok):∃(rows:LI) (c:Nat) (rs:List Nat) (b:Bg),(jL K a).1 [.bag] β=on (.ok (gridD rows),b)/\GrW rows c rs/\b.ok:=by
 suffices h:∃g b,(jL K a).1 [.bag] β=on (g,b)/\(∃(rows:LI) (c:Nat) (rs:List Nat),g= .ok (gridD rows)/\GrW rows c rs/\b.ok) by
  obtain⟨g,b,e,rows,c,rs,rfl,B,C⟩:=h;exact⟨rows,c,rs,b,e,B,C⟩
 unfold jL
 dsimp only
 refine ju ?_;obtain⟨u,β1,F,L,a1,l⟩:=bE ok (lot:=6) (by decide) (by decide);refine jT (x_B (x_2 (af rfl F) rfl eq_int)) ?_;by_cases q:u=0
 ·obtain⟨rows,rs,β2,e,g,f⟩:=DF (K:=K) (a:=a) l
  rw[P7 (Qd q)];exact aK (af rfl e) ⟨rows,2,rs,rfl,g,f⟩
 rw[P5 (by simp[q])];refine bj ?_;obtain⟨y,β2,H,b0,b1,f⟩:=bE l (lot:=5) (by decide) (by decide);refine aB (af rfl H) ?_;refine jT (β1:=β2) (x_B (x_2 rfl rfl eq_int)) ?_;by_cases q2:y=0
 ·rw[P7 (Qd q2)]
  obtain⟨c,β3,m,c0,c1,i⟩:=bE f (lot:=5) (by decide) (by decide);obtain⟨t,o,p,A,d1,j⟩:=bE i (lot:=25) (by decide) (by decide);obtain⟨c,rfl⟩:∃n:Nat,c=(n:Int):=⟨c.toNat,by omega⟩;obtain⟨t,rfl⟩:∃n:Nat,t=(n:Int):=⟨t.toNat,by omega⟩;obtain⟨rows,rs,β5,e,g,k⟩:=qS (K:=K) (a:=a) (r:=2) (c:=2+c) (t:=t) j (by decide) (by decide) (by omega) (by omega) (by omega);exact aK (af (aa rfl (aa rfl (aa (x_2 (z:= .int ((2+c:Nat):Int)) rfl (af rfl m) (by show on (D.int _)=_;rw[Tf];rfl)) (aa (af rfl p) rfl)))) e) ⟨rows,2+c,rs,rfl,g,k⟩
 rw[P5 (by simp[q2])];refine bj ?_;refine jT (β1:=β2) (x_B (x_2 rfl rfl eq_int)) ?_;by_cases q3:y=1
 ·rw[P7 (Qd q3)]
  obtain⟨c,β3,m,c0,c1,i⟩:=bE f (lot:=2) (by decide) (by decide);obtain⟨t,o,p,A,d1,j⟩:=bE i (lot:=9) (by decide) (by decide);obtain⟨c,rfl⟩:∃n:Nat,c=(n:Int):=⟨c.toNat,by omega⟩;obtain⟨t,rfl⟩:∃n:Nat,t=(n:Int):=⟨t.toNat,by omega⟩;obtain⟨rows,rs,β5,e,g,k⟩:=qS (K:=K) (a:=a) (r:=4) (c:=2+c) (t:=t) j (by decide) (by decide) (by omega) (by omega) (by omega);exact aK (af (aa rfl (aa rfl (aa (x_2 (z:= .int ((2+c:Nat):Int)) rfl (af rfl m) (by show on (D.int _)=_;rw[Tf];rfl)) (aa (af rfl p) rfl)))) e) ⟨rows,2+c,rs,rfl,g,k⟩
 rw[P5 (by simp[q3])];refine bj ?_;obtain⟨r,β3,m,c0,c1,i⟩:=bE f (lot:=2) (by decide) (by decide);obtain⟨c,o,p,A,d1,j⟩:=bE i (lot:=3) (by decide) (by decide);obtain⟨t,β5,I,N,O,k⟩:=bE j (lot:=12) (by decide) (by decide);obtain⟨r,rfl⟩:∃n:Nat,r=(n:Int):=⟨r.toNat,by omega⟩;obtain⟨c,rfl⟩:∃n:Nat,c=(n:Int):=⟨c.toNat,by omega⟩;obtain⟨t,rfl⟩:∃n:Nat,t=(n:Int):=⟨t.toNat,by omega⟩;obtain⟨rows,rs,J,e,g,v⟩:=qS (K:=K) (a:=a) (r:=2+r) (c:=2+c) (t:=t) k (by omega) (by omega) (by omega) (by omega) (by omega);refine aB (d:= .int ((2+r:Nat):Int)) (x_2 rfl (af rfl m) (by show on (D.int _)=_;rw[Tf];rfl)) ?_;refine aB (d:= .int ((2+c:Nat):Int)) (x_2 rfl (af rfl p) (by show on (D.int _)=_;rw[Tf];rfl)) ?_;exact ak (aK (af (aa rfl (aa rfl (aa rfl (aa (af rfl I) rfl)))) e) ⟨rows,2+c,rs,rfl,g,v⟩)
theorem toB{r c:Nat}{b:LP}(h:Bnd r c b):∃B,b=fA B/\BOk r c B:=by
 have e:b=fA (b.map λrow=>row.map λp=>(p.1.toNat,p.2.toNat)):=by
  unfold fA;rw[Qa];refine(WH b).symm.trans (QD λrow g=>?_);show row=Rf _ (Rf _ row);rw[Qa];refine(WH row).symm.trans (QD λp i=>?_);obtain⟨a1,a2,a3⟩:=h.ok row g p i;exact T0 (show p.1=((p.1.toNat:Nat):Int) by omega) (show p.2=((p.2.toNat:Nat):Int) by omega)
 refine⟨_,e,h.shp.map,λrow g p i=>?_⟩;obtain⟨d,j,rfl⟩:=Qc.mp g;obtain⟨f,k,rfl⟩:=Qc.mp i;obtain⟨a1,a2,a3⟩:=h.ok d j f k;show f.1.toNat<=f.2.toNat/\f.2.toNat<=40;omega
theorem K1{rows:LI}{B:List (List (Nat×Nat))}{rs cs:List Nat}(h:NtB rows B rs cs):(qJ K a).1 [gridD rows,bDN B] β=on (.ok (MH a B rs cs),β):=by
 obtain⟨e,g,_,_⟩:=h.nr;have c6:=h.c6;have b:=k7 (K:=K) (a:=a) (β:=β) (rows:=rows) (by rw[h.shp.1];omega);have c:=ir (K:=K) (a:=a) (β:=β) h.shp e (by omega) (by omega);rw[h.rw1]at b;rw[h.cl1]at c;have f:=rW (K:=K) (a:=a) (β:=β) (rows:=gP (fA B)) (by rw[PL,(ia h.bok.1).1];omega);unfold qJ
 dsimp only
 refine aI (ak (aK (d:=MH a B rs cs) (β1:=β) ?_ ⟨rfl,rfl⟩));unfold AF;rw[M.bind_ok (aa (af rfl b) (aa (af rfl c) rfl)),M.bind_ok (aa (af rfl f) rfl)];exact(M.bind_ok (MG h)).trans rfl
theorem zq:∀{ps:List (Nat×Nat)} {v:List Nat},(∀(i:Nat) (p:Nat×Nat) (x:Nat),ps[i]?=on p->v[i]?=on x->p.1<=x/\x<=p.2)->okB ps v=PQ
 |[],_,_=>by unfold okB;rfl
 |_::_,[],_=>by unfold okB;rfl
 |p::ps,x::v,h=>by
  have:=h 0 p x rfl rfl;show(decide (p.1<=x)&&decide (x<=p.2)&&okB ps v)=PQ;rw[zq λi p x b c=>h (i+1) p x b c,Qd this.1,Qd this.2];rfl
theorem vN:∀{xs:LI},(∀row∈xs,∀x∈row,0<=x)->∃l:List (List Nat),xs=l.map nI
 |[],_=>⟨[],rfl⟩
 |x::xs,h=>by
  obtain⟨l,e⟩:=vN λy b=>h y (PR _ b);obtain⟨m,c⟩:=o7 (h x P3);exact⟨m::l,by rw[e,c];rfl⟩
theorem NtB.pos{rows:LI}{B:List (List (Nat×Nat))}{rs cs:List Nat}(h:NtB rows B rs cs)(nn:∀row∈rows,∀x∈row,0<=x):0<tbW (wB B cs) cs.length 0 rs:=by
 obtain⟨vs,e⟩:=vN (HU (c:=cs.length) nn);have sh:=j6 (d:=(0:Int)) (c:=cs.length) h.shp.1;have t:vs.length=cs.length:=by rw[←PL (f:=nI),←e];exact sh.1
 have k:∀v∈vs,v.length=rs.length:=λv g=>by
  rw[←PL (f:=λ(i:Nat)=>(i:Int))];refine sh.2 (nI v) ?_;show nI v∈tp cs.length rows;rw[e];exact Qc.mpr ⟨v,g,rfl⟩
 have l:rows=rwC rs.length vs:=by rw[←HS h.shp,e]
 have es:rs=rsm rs.length vs:=gZ (by rw[←ue k,←l,h.rw1]);have u:cs=csC vs:=gZ (by rw[←IK,←e,h.cl1]);refine tz (vs:=vs) ?_ t;rw[es];refine HJ k λi r v g le=>?_;rw[QS];have A:=(P4.mp g).1;refine RK.mpr ⟨?_,zq λj p x m o=>?_⟩
 ·have q:cs.getD i 0=v.sum:=by rw[u,PV,PY,g];rfl
  rw[q];exact lw le
 ·unfold mM at m
  obtain⟨row,b,rfl⟩:=bB m;have C:=h.bok.1.2 row (Qi b);have y:j<rs.length:=by rw[←k v (Qi g)];exact(P4.mp o).1
  have a1:at2 rows j i=on (x:Int):=mU (by rw[l];exact yR y) (by rw[PY,PY,g];show on ((v.getD j 0:Nat):Int)=_;rw[PV,o];rfl);have a2:at2 (fA B) j i=on (((row.getD i (0,0)).1:Int),((row.getD i (0,0)).2:Int)):=mU (row:=row.map λp=>((p.1:Int),(p.2:Int))) (by rw[PY,b];rfl) (by rw[PY,gq (by omega),PP (by omega)];rfl);have:=h.kp j i _ _ a1 a2;simp only at this;omega
abbrev cD(vs:List (List Nat)):D:= .lst (vs.map nL)
theorem cD_e(vs:List (List Nat)):cD vs=gridD (vs.map nI):=by
 show D.lst _=D.lst (Rf _ (Rf _ (Rf _ _)));rw[Qa,Qa];rfl
theorem Lw{vs:List (List Nat)}(hs:∀v∈vs,v.sum<=40)(d:vs.length<=6)(i:Nat):pr ((vs.take i).map mu)<2^1000:=cc (m:=160*6) (Qs (xp (m:=160) λx b=>by
 obtain⟨v,c,rfl⟩:=Qc.mp b;exact pT (hs v (UC c))) (SQ (by decide) (by rw[PL,R4];omega))) (by decide)
theorem yk{vs:List (List Nat)}(hs:∀v∈vs,v.sum<=40)(hn:∀v∈vs,v.length<=4)(f:vs.length<=6):(iI K a).1 [cD vs] β=on (.ok (.int ((wt vs:Nat):Int)),β):=by
 unfold iI
 dsimp only
 refine aI ?_;refine aB (d:= .int 1) (β1:=β) rfl ?_;refine bC (ds:=vs.map nL) (β1:=β) rfl (λi δ b=>β=b/\∃c,δ=[on (.sh (cD vs)),on (.sh (.int ((pr ((vs.take i).map mu):Nat):Int))),c]) ⟨rfl,PM,rfl⟩ ?_ ?_
 ·rintro i d δ _ hd ⟨rfl,c,rfl⟩
  obtain⟨v,e,rfl⟩:=bB hd;have hm:=Qi e;refine⟨_,rfl,ak (aB (x_2 rfl (af rfl (DG (hs v hm) (hn v hm))) (jY (Lw hs f i) (cc (lU (hs v hm)) (by decide)))) (aZ ⟨rfl,on (.sh (nL v)),?_⟩))⟩;rw[kB e,j4];rfl
 ·rintro δ _ ⟨rfl,c,rfl⟩
  rw[PL,Sg];exact ak (aK rfl ⟨rfl,rfl⟩)
abbrev lgS(b:LI)(rs cs:List Int)(lim:LP)(c d e f:Option Sl):Ds:=[on (.sh (gridD b)),on (.sh (iL rs)),on (.sh (iL cs)),on (.sh (da lim)),c,d,e,f]
theorem DK{r c:Nat}{b:LI}{rs cs:List Int}{lim:LP}(sh:Shp r c b)(r0:1<=r)(r1:r<=30)(c1:c<=30)(N:rs.length=r)(O:cs.length=c)(X:Shp r c lim)(h:∀i<r,∀j<c,0<=(bI lim i j).1/\(bI lim i j).1<=gp b i j/\gp b i j<=(bI lim i j).2)(Q:b.map Rp=rs)(R:(tp c b).map Rp=cs):
  (jf K a).1 [gridD b,iL rs,iL cs,da lim] β=on (.ok (.bl PQ),β):=by
 have B:=sh.1;unfold jf
 dsimp only
 refine aI ?_;refine cI (β1:=β) (eD (fP (fN (x:= .bl PQ) (ai rfl rfl) rfl)) (x_B (x_2 (ai rfl (uG (r:=r) (by rw[PL,sh.1]))) (ai rfl (cE (r:=r) (by rw[PL,N]))) (ne_int.trans (by simp))))) (bj ?_);refine bC (ds:=(gI b).map D.lst) (β1:=β) rfl (λi δ g=>β=g/\∃t f,δ=lgS b rs cs lim t f PM PM) ⟨rfl,PM,PM,rfl⟩ ?_ ?_
 ·rintro i d δ _ hd ⟨rfl,t,f,rfl⟩
  obtain⟨y,T,rfl⟩:=bB hd;obtain⟨row,e,rfl⟩:=bB T;have C:i<r:=by rw[←sh.1];exact(P4.mp e).1
  have k:row.length=c:=sh.2 row (Qi e);refine⟨lgS b rs cs lim (on (.sh (.lst (row.map D.int)))) f PM PM,rfl,?_⟩;refine cI (β1:=β) (eD (fP (fN (x:= .bl PQ) (ai rfl rfl) rfl)) (x_B (x_2 (ai rfl (cE (r:=c) (by rw[PL,k]))) (ai rfl (cE (r:=c) (by rw[PL,O]))) (ne_int.trans (by simp))))) (bj (ak ?_));refine bC (ds:=row.map D.int) (β1:=β) rfl (λj δ g=>β=g/\∃f,δ=lgS b rs cs lim (on (.sh (.lst (row.map D.int)))) f PM PM) ⟨rfl,f,rfl⟩ ?_ ?_
  ·rintro j d δ _ hd ⟨rfl,f,rfl⟩
   obtain⟨x,m,rfl⟩:=bB hd;have F:j<c:=by rw[←k];exact(P4.mp m).1
   have H:=h i C j F;rw[sS e m]at H;refine⟨lgS b rs cs lim (on (.sh (.lst (row.map D.int)))) (on (.sh (.int x))) PM PM,rfl,?_⟩;refine ak (cI (β1:=β) (eD (fP (fN (x:= .bl PQ) (ai rfl rfl) rfl)) (eD (fN (x:= .bl PX) (ai rfl rfl) rfl) (x_B (x_2 rfl rfl ?_)))) (bj (aZ ⟨rfl,_,rfl⟩)));show on (D.bl (decide _))=_;rw[QL (by omega)]
  ·rintro δ _ ⟨rfl,f,rfl⟩
   exact aZ ⟨rfl,_,_,rfl⟩
 rintro δ _ ⟨rfl,t,f,rfl⟩;have A:∀xs:List Int,fF (iL xs) (iL xs)=on (.bl PX):=λxs=>KU (oU 1 (λx m=>by
  obtain⟨i,_,rfl⟩:=Qc.mp m;trivial) (by decide))
 refine cI (β1:=β) (eD (x_B (x_2 (af rfl (k7 (by omega))) rfl (by rw[Q];exact A rs))) (x_B (x_2 (af rfl (ir sh r0 r1 c1)) rfl (by rw[R];exact A cs)))) (bj ?_);refine bC (ds:=(b.zip lim).map λp=>D.tup [.lst (p.1.map D.int),.lst (p.2.map pD)]) (β1:=β) (HF (u:=λrow:List Int=>D.lst (row.map D.int)) (v:=λrow:List (Int×Int)=>D.lst (row.map pD)) (xs:=b) (ys:=lim) (by show on (R1 (D.lst ((b.map _).map D.lst)),β)=_;rw[Qa];rfl) (by show on (R1 (D.lst ((lim.map _).map D.lst)),β)=_;rw[Qa];rfl)) (λi δ g=>β=g/\∃t f I o,δ=lgS b rs cs lim t f I o) ⟨rfl,_,_,_,_,rfl⟩ ?_ ?_
 ·rintro i d δ _ hd ⟨rfl,t,f,I,o,rfl⟩
  obtain⟨⟨row,l⟩,U,rfl⟩:=bB hd;obtain⟨e,q⟩:=Xi.mp U;have C:i<r:=by rw[←sh.1];exact(P4.mp e).1
  have k:row.length=c:=sh.2 row (Qi e);refine⟨lgS b rs cs lim (on (.sh (.lst (row.map D.int)))) f (on (.sh (.lst (l.map pD)))) o,rfl,ak ?_⟩;refine bC (ds:=(row.zip l).map λp=>D.tup [.int p.1,pD p.2]) (β1:=β) (HF (u:=D.int) (v:=pD) (xs:=row) (ys:=l) rfl rfl) (λj δ g=>β=g/\∃f o,δ=lgS b rs cs lim (on (.sh (.lst (row.map D.int)))) f (on (.sh (.lst (l.map pD)))) o) ⟨rfl,_,_,rfl⟩ ?_ ?_
  ·rintro j d δ _ hd ⟨rfl,f,o,rfl⟩
   obtain⟨⟨x,p⟩,J,rfl⟩:=bB hd;obtain⟨m,L⟩:=Xi.mp J;have F:j<c:=by rw[←k];exact(P4.mp m).1
   have H:=h i C j F;have ep:bI lim i j=p:=by
    simp only[bI,PV];simp only at q L;rw[q,Wt,L];rfl
   simp only at e m;rw[sS e m,ep]at H;refine⟨lgS b rs cs lim (on (.sh (.lst (row.map D.int)))) (on (.sh (.int x))) (on (.sh (.lst (l.map pD)))) (on (.sh (pD p))),rfl,?_⟩;refine ak (cI (β1:=β) (eD (x_B (x_2 rfl (x_2 rfl rfl mC) ?_)) (x_B (x_2 rfl (x_2 rfl rfl mz) ?_))) (bj (aZ ⟨rfl,_,_,rfl⟩)))
   ·show on (D.bl (decide (x<p.1)))=_
    rw[QL (by omega)]
   ·show on (D.bl (decide (p.2<x)))=_
    rw[QL (by omega)]
  ·rintro δ _ ⟨rfl,f,o,rfl⟩
   exact aZ ⟨rfl,_,_,_,_,rfl⟩
 ·rintro δ _ ⟨rfl,t,f,I,o,rfl⟩
  exact ak (aK rfl ⟨rfl,rfl⟩)
theorem GrW.tab{rows:LI}{c:Nat}{rs:List Nat}(g:GrW rows c rs):Tab rs.length c rows:=by
 obtain⟨b,d,e,_⟩:=g.nr;refine⟨g.shp,g.nn,?_,b,d,g.c1,g.c6⟩;show(rows.map Rp).sum<=40;rw[g.sm,gl];omega
theorem M3{rows:LI}{c:Nat}{rs:List Nat}{b:LP}(g:GrW rows c rs)(f:Bnd rs.length c b)(kp:Kp rows b):∃B cs,b=fA B/\NtB rows B rs cs/\cs.length=c:=by
 obtain⟨B,rfl,ok⟩:=toB f;obtain⟨cs,e⟩:=o7 (xs:=(tp c rows).map Rp) λx i=>by
  obtain⟨row,j,rfl⟩:=Qc.mp i;exact lY (HU g.nn row j)
 have k:cs.length=c:=by rw[←(j6 (d:=(0:Int)) (c:=c) g.shp.1).1,←PL (as:=tpA 0 c rows) Rp];exact(Rh VT e).symm▸(PL _).symm
 have l:rs.sum=cs.sum:=by
  have h:tot (tp c rows)=tot rows:=yw g.shp.2;unfold tot at h;rw[e,g.sm,gl,gl]at h;omega
 subst k;exact⟨B,cs,rfl,⟨⟨g.nr,g.wd,l,g.c1,g.c6⟩,g.shp,g.sm,e,ok,kp⟩,rfl⟩
theorem zr:∀{ps:List (Nat×Nat)} {v:List Nat} {i x:Nat} {p:Nat×Nat},okB ps v=PQ->ps[i]?=on p->v[i]?=on x->p.1<=x/\x<=p.2
 |[],_,_,_,_,_,h,_=>by cases h
 |_::_,[],_,_,_,_,_,h=>by cases h
 |q::ps,y::v,i,x,p,h,h1,h2=>by
  have h':(decide (q.1<=y)&&decide (y<=q.2)&&okB ps v)=PQ:=h;simp only[QJ,QU]at h';cases i with
  |zero=>cases h1;cases h2;exact h'.1
  |succ i=>exact zr h'.2 (i:=i) h1 h2
theorem yj{B:List (List (Nat×Nat))}{cs:List Nat}:∀{vs:List (List Nat)} {k j:Nat} {r v:List Nat},Wk (wB B cs) k r vs->vs[j]?=on v->okB (mM B (k+j)) v=PQ
 |[],_,_,_,_,_,h=>by cases h
 |u::vs,k,0,r,v,h,e=>by cases e;exact(RK.mp h.1).2
 |u::vs,k,j+1,r,v,h,e=>by
  rw[show k+(j+1)=k+1+j by omega];exact yj h.2 e
theorem Pt{rows:LI}{B:List (List (Nat×Nat))}{rs cs:List Nat}{vs:List (List Nat)}(h:NtB rows B rs cs)(f:Wk (wB B cs) 0 rs vs)(d:vs.length=cs.length):(jf K a).1 [gridD (rwC rs.length vs),nL rs,nL cs,bDN B] β=on (.ok (.bl PQ),β):=by
 obtain⟨g,o,e⟩:=iW (o4 B cs) f (by rw[d,QS]) h.sm;rw[Xd]at g;have r1:=h.nr.1;have y:=h.nr.2.1;have c6:=h.c6;have t:=ia h.bok.1;refine DK (r:=rs.length) (c:=cs.length) (rs:=nI rs) (cs:=nI cs) (lim:=fA B) (by rw[←d];exact vZ) r1 (by omega) (by omega) (PL _) (PL _) t (λi k j A=>?_) (by rw[ue e,←o]) (by rw[←d,yQ e,IK];show nI (vs.map Rp)=_;rw[g]);have b:j<vs.length:=by omega
 have m:=PP b;have C:=e _ (QP b);have hB:i<B.length:=by rw[h.bok.1.1];exact k
 have F:=h.bok.1.2 _ (QP hB);have q:=zr (i:=i) (p:=B[i][j]'(by omega)) (x:=vs[j][i]'(by omega)) (yj f m) (by
  unfold mM;rw[PY,PP hB,QS];show on (B[i].getD j (0,0))=_;rw[gq (by omega)]) (PP _)
 have u:bI (fA B) i j=(((B[i][j]'(by omega)).1:Int),((B[i][j]'(by omega)).2:Int)):=by
  have l:j<B[i].length:=by omega
  simp[bI,fA,PV,hB,l]
 have v:gp (rwC rs.length vs) i j=((vs[j][i]'(by omega):Nat):Int):=sS (yR k) (by
  rw[PY,PY,m];show on ((vs[j].getD i 0:Nat):Int)=_;rw[gq (by omega)])
 rw[u,v];exact⟨Int.natCast_nonneg _,Int.ofNat_le.mpr q.1,Int.ofNat_le.mpr q.2⟩
theorem tH(rows:LI):toP (gridD rows)=on (.list (rows.map λr=> .list (r.map V3))):=by
 have b:∀r:List Int,toP (D.lst (r.map D.int))=on (.list (r.map V3)):=λr=>by
  show(toPs (r.map D.int)).map VN=_;rw[kX (f:=D.int) (g:=V3) λi=>by unfold toP;rfl];rfl
 show(toPs ((rows.map λr=>r.map D.int).map D.lst)).map VN=_;rw[Qa];have c:=kX (f:=λr:List Int=>D.lst (r.map D.int)) (g:=λr=>VN (r.map V3)) b rows;show(toPs (rows.map λr=>D.lst (r.map D.int))).map VN=_;rw[c];rfl
theorem vi(rows:LI):ft (gridD rows)=PQ:=oU 2 (λx b=>by
 obtain⟨y,c,rfl⟩:=Qc.mp b;obtain⟨row,_,rfl⟩:=Qc.mp c;intro z d;obtain⟨i,_,rfl⟩:=Qc.mp d;trivial) (by decide)
theorem MN{us vs:List (List Nat)}(h:LtF (LtF (·<·)) us vs):xB (gridD (us.map nI)) (gridD (vs.map nI))=on (.bl PQ):=by
 obtain⟨P,S,T,_,_,rfl,rfl,I,s,t,x,y,rfl,rfl,b⟩:=h;unfold xB;refine P7 ⟨P.map λu=> .list ((nI u).map .int),(nI I).map .int,S.map λu=> .list ((nI u).map .int),T.map λu=> .list ((nI u).map .int),(nI s).map .int,(nI t).map .int,(x:Int),(y:Int),?_,?_,vi _,vi _,by omega⟩
 ·rw[tH];simp[XO]
 ·rw[tH];simp[XO]
abbrev l27(g l r c t:D)(T k:Nat)(h b d e f:Option Sl):Ds:=[PM,on (.sh .bag),on (.sh g),on (.sh l),on (.sh r),on (.sh c),on (.sh t),on (.sh (.int (T:Int))),on (.sh (.int (k:Int))),h,b,d,e,f]
structure Kth (K:Qo) (a:Ad) (B:List (List (Nat×Nat))) (rs cs:List Nat) (k:Nat) (G:D) (C:D) (s w:Nat):Prop where
 kth:∀β,(gQ K a).1 [bM a (wB B cs) (bDN B) rs cs,.int (k:Int)] β=on (.ok G,β)
 str:∀β,(jK K a).1 [bM a (wB B cs) (bDN B) rs cs,G] β=on (.ok (.tup [.int (s:Int),.int ((s+w:Nat):Int)]),β)
 num:∀β,(gN K a).1 [bM a (wB B cs) (bDN B) rs cs,G] β=on (.ok (.int (k:Int)),β)
 good:∀β,(jf K a).1 [G,nL rs,nL cs,bDN B] β=on (.ok (.bl PQ),β)
 cop:∀β,(iK K a).1 [G] β=on (.ok G,β)
 trn:∀β,(iJ K a).1 [G] β=on (.ok C,β)
 wgt:∀β,(iI K a).1 [C] β=on (.ok (.int (w:Int)),β)
theorem MV{rows:LI}{B:List (List (Nat×Nat))}{rs cs:List Nat}(nt:NtB rows B rs cs){k:Nat}{vs:List (List Nat)}(e:(pth (wB B cs) cs.length 0 rs)[k]?=on vs):Kth K a B rs cs k (gridD (rwC rs.length vs)) (gridD (vs.map nI)) (L2.Nt.sm ((pth (wB B cs) cs.length 0 rs).take k) wt) (wt vs):=by
 have b:Nt1 K a rs cs (wB B cs) (bDN B):=nt.nt;have nd:∀k r,(wB B cs k r).Nodup:=λk r=>(qx _ _).filter _;obtain⟨q1,q2⟩:=pG (Qi e);obtain⟨d,_,q3⟩:=iW (o4 B cs) q1 (by rw[q2,QS]) nt.sm;have r1:=nt.nr.1;have f:=nt.nr.2.1;have c1:=nt.c1;have c6:=nt.c6;have q4:∀v∈vs,v.sum<=40:=λv h=>by
  have z:v.sum∈cs:=by rw[←Xd (l:=cs),←d];exact Qc.mpr ⟨v,h,rfl⟩
  have:=gG z;have:=nt.sm;have:=nt.nr.2.2.1;omega
 obtain⟨g,i⟩:=zA nd e;obtain⟨f1,_,_⟩:=uV nd e;have j:k<tbW (wB B cs) cs.length 0 rs:=by rw[←iX];exact(P4.mp e).1
 have sh:Shp rs.length cs.length (rwC rs.length vs):=by rw[←q2];exact vZ
 have c:tp cs.length (rwC rs.length vs)=vs.map nI:=by rw[←q2];exact yQ q3
 refine⟨λβ=>?_,λβ=>?_,λβ=>?_,λβ=>Pt nt q1 q2,λβ=>rW (by rw[PL,sh.1];omega),λβ=>?_,λβ=>?_⟩
 ·have:=MU (K:=K) (a:=a) (β:=β) b j
  rw[g]at this;exact this
 ·have:=LR (K:=K) (a:=a) (β:=β) b sh c q1 q2
  rw[f1]at this;exact this
 ·have:=MC (K:=K) (a:=a) (β:=β) b sh c q1 q2
  rw[i]at this;exact this
 ·have:=pV (K:=K) (a:=a) (β:=β) sh r1 (by omega) (by omega)
  rw[c]at this;exact this
 ·rw[←cD_e]
  exact yk q4 (λv m=>by rw[q3 v m];exact f) (by omega)
theorem neI{x y:Int}(h:x=y):fF (.int x) (.int y)=on (.bl PX):=by rw[ne_int,Qd h];rfl
theorem DN(β:Bg)(ok:β.ok):∃b,(pE K a).1 [PM,on (.sh .bag),PM,PM,PM,PM,PM,PM,PM,PM,PM,PM,PM,PM] β=on (.rt (.bl PQ),b):=by
 suffices h:Gw (pE K a).1 [PM,on (.sh .bag),PM,PM,PM,PM,PM,PM,PM,PM,PM,PM,PM,PM] β (λo _=>o= .rt (.bl PQ)) by
  obtain⟨o,b,e,rfl⟩:=h;exact⟨b,e⟩
 obtain⟨g,c,rs,β1,e1,I,J⟩:=DP (K:=K) (a:=a) ok;obtain⟨l,β2,e2,bl,kl,L⟩:=xE (K:=K) (a:=a) I.tab J;obtain⟨B,cs,rfl,nt,lc⟩:=M3 I bl kl;have tp0:=nt.pos I.nn;have hW:=o4 B cs;have r1:=nt.nr.1;have r4:=nt.nr.2.1;have c1:=nt.c1;have c6:=nt.c6;have N:=k7 (K:=K) (a:=a) (β:=β2) (rows:=g) (by rw[nt.shp.1];omega);have x2:=ir (K:=K) (a:=a) (β:=β2) nt.shp r1 (by omega) (by omega);rw[nt.rw1]at N;rw[nt.cl1]at x2;have nd:∀k r,(wB B cs k r).Nodup:=λk r=>(qx _ _).filter _;have so:=za (W:=wB B cs) (λk r=>(vJ _ _).filter _) cs.length 0 rs;have pl:(pth (wB B cs) cs.length 0 rs).length=tbW (wB B cs) cs.length 0 rs:=iX _ _ _;have pd:L2.Nt.sm (pth (wB B cs) cs.length 0 rs) wt=dlW (wB B cs) cs.length 0 rs:=kA _ _ _;have tle:tbW (wB B cs) cs.length 0 rs<1073741824:=by
  obtain⟨m,hm⟩:∃m,cs.length=m+1:=⟨cs.length-1,by omega⟩;rw[hm];have:=HV (o4 B cs) nt.wd m 0 rs (by rw[hm,QS]) nt.sm (LeN.refl _);exact RM (Qs this (SQ (by decide) (show m<=5 by omega))) (by decide)
 have p:∀(k:Nat) (hk:k<(pth (wB B cs) cs.length 0 rs).length),Kth K a B rs cs k (gridD (rwC rs.length (pth (wB B cs) cs.length 0 rs)[k])) (gridD ((pth (wB B cs) cs.length 0 rs)[k].map nI)) (L2.Nt.sm ((pth (wB B cs) cs.length 0 rs).take k) wt) (wt (pth (wB B cs) cs.length 0 rs)[k]):=λk hk=>MV nt (PP hk);have kd:∀(i:Nat) (t:i<(pth (wB B cs) cs.length 0 rs).length) (n:Nat),L2.Nt.sm ((pth (wB B cs) cs.length 0 rs).take i) wt<=n->n<L2.Nt.sm ((pth (wB B cs) cs.length 0 rs).take i) wt+wt (pth (wB B cs) cs.length 0 rs)[i]->∀β,(fW K a).1 [bM a (wB B cs) (bDN B) rs cs,.int (n:Int)] β=on (.ok (gridD (rwC rs.length (pth (wB B cs) cs.length 0 rs)[i])),β):=λi t n n0 O β=>by
  obtain⟨_,f2,f3⟩:=uV nd (PP t);have:=MW (K:=K) (a:=a) (β:=β) (nt.nt (K:=K) (a:=a)) (n0:=n) (by omega);rw[f3 n n0 O]at this;exact this
 have Q:∀β,(ff K a).1 [bM a (wB B cs) (bDN B) rs cs] β=on (.ok (.int ((dlW (wB B cs) cs.length 0 rs:Nat):Int)),β):=λβ=>vb;have tW:∀β,(gi K a).1 [bM a (wB B cs) (bDN B) rs cs] β=on (.ok (.int ((tbW (wB B cs) cs.length 0 rs:Nat):Int)),β):=λβ=>vO;obtain⟨u,β3,pu,u0,u1,R⟩:=bE L (lot:=((tbW (wB B cs) cs.length 0 rs:Nat):Int)) (by omega) (by omega);obtain⟨u,rfl⟩:∃k:Nat,u=(k:Int):=⟨u.toNat,by omega⟩;unfold pE
 dsimp only
 refine aB (af rfl e1) (aB (af rfl e2) (aB (af rfl N) (aB (af rfl x2) (aB (af rfl (K1 nt)) (aB (bX rfl rfl (tW _)) (aB (af rfl pu) ?_))))));show Gw _ (l27 (gridD g) (bDN B) (nL rs) (nL cs) (bM a (wB B cs) (bDN B) rs cs) (tbW (wB B cs) cs.length 0 rs) u PM PM PM PM PM) β3 _;generalize gridD g=gd;generalize hP:pth (wB B cs) cs.length 0 rs=P at*;generalize hT:tbW (wB B cs) cs.length 0 rs=T at*;generalize hD:dlW (wB B cs) cs.length 0 rs=Dl at*;have U:u<P.length:=by omega
 have j:=p u U;refine aB (af rfl (j.kth _)) ?_;refine cI (eD (fP (c:=PQ) (fN (af rfl (j.good _)) rfl)) (fP (c:=PQ) (fN (af (aa (af (aa rfl (aa (af rfl (j.cop _)) rfl)) (j.num _)) (aa rfl rfl)) OQ) rfl))) (bj ?_);refine kU (af (aa rfl (aa (af rfl (j.cop _)) rfl)) (j.str _)) rfl ?_;refine cI (x_B (x_2 (x_2 rfl rfl rfl) (af (aa (af rfl (j.trn _)) rfl) (j.wgt _)) (neI (by omega)))) (bj ?_);have st:=vT (f:=wt) U;have sE:T-1<P.length:=by omega
 have se:=vT (f:=wt) sE;rw[R5 (by omega),pd]at se;refine OE (λδ b=>β3=b/\∃s9 A C F,δ=l27 gd (bDN B) (nL rs) (nL cs) (bM a (wB B cs) (bDN B) rs cs) T u s9 A C F PM) ?_ ?_
 ·refine ak (jT (β1:=β3) (x_B (x_2 (x_2 rfl rfl rfl) rfl lt_int)) ?_)
  by_cases q:u+1<T
  ·rw[P7 (Qd (by omega))]
   have hv:u+1<P.length:=by omega
   have H:=p (u+1) hv;refine vI (aB (af (aa rfl (aa (x_2 (z:= .int ((u+1:Nat):Int)) rfl rfl rfl) rfl)) (H.kth _)) (vI (cI (eD (fP (c:=PQ) (fN (af rfl (H.good _)) rfl)) (fP (c:=PQ) (x_B (x_2 (af rfl (j.trn _)) (af rfl (H.trn _)) (MN (R8.mp so u (u+1) U hv (Uu u))))))) (bj ?_))));exact cI (x_B (x_2 (x_2 (af rfl (H.str _)) rfl mC) rfl (neI (by omega)))) (bj (ym ⟨rfl,_,_,_,_,rfl⟩))
  ·rw[P5 (λz=>q (by have:=Rx z;omega))]
   have e:u=T-1:=by omega
   subst e;exact cI (x_B (x_2 rfl (bX rfl rfl (Q _)) (neI (by omega)))) (bj (ym ⟨rfl,_,_,_,_,rfl⟩))
 rintro δ _ ⟨rfl,s9,A,C,F,rfl⟩;have h0:0<P.length:=by omega
 have X:=p 0 h0;have kE:=p (T-1) sE;rw[VU,l4]at X;refine cI (eD (x_B (x_2 (x_2 (af (aa rfl (aa (af rfl (X.kth _)) rfl)) (X.str _)) rfl mC) rfl (neI rfl))) (x_B (x_2 (x_2 (af (aa rfl (aa (af (aa rfl (aa (x_2 (z:= .int ((T-1:Nat):Int)) rfl rfl ?_) rfl)) (kE.kth _)) rfl)) (kE.str _)) rfl mz) (bX rfl rfl (Q _)) (neI (by omega))))) (bj ?_)
 ·show on (D.int _)=on (D.int _)
  rw[show((T:Int)-1)=((T-1:Nat):Int) by omega]
 obtain⟨x,β4,px,x0,N,Y⟩:=bE R (lot:=1000000) (by decide) (by decide);obtain⟨y,β5,py,y0,y1,ok5⟩:=bE Y (lot:=1000000) (by decide) (by decide);obtain⟨x,rfl⟩:∃k:Nat,x=(k:Int):=⟨x.toNat,by omega⟩;obtain⟨y,rfl⟩:∃k:Nat,y=(k:Int):=⟨y.toNat,by omega⟩;have d0:0<Dl:=by
  rw[se];have:0<wt P[T-1]:=pK λz hz=>by
   obtain⟨v,_,rfl⟩:=Qc.mp hz;exact ux v
  omega
 have hn:(x*1000000+y) % Dl<Dl:=Wf _ d0;refine aB (d:= .int (((x*1000000+y) % Dl:Nat):Int)) (β1:=β5) (x_2 (x_2 (x_2 (af rfl px) rfl (jY (n:=1000000) (cc (m:=20) (by omega) (by decide)) (cc (m:=20) (by decide) (by decide)))) (af rfl py) rfl) (bX rfl rfl (Q _)) ?_) ?_
 ·show MJ (.int (((x*1000000:Nat):Int)+(y:Int))) (.int (Dl:Int))=_
  show(if decide ((0:Int)<(Dl:Int))=PQ then _ else _)=_;rw[P7 (Qd (by omega))];rfl
 generalize (x*1000000+y) % Dl=n at hn;rw[←pd]at hn;obtain⟨i,t,n0,O⟩:=vU hn;have Z:=p i t;refine aB (af rfl (kd i t n n0 O _)) ?_;refine cI (fP (c:=PQ) (fN (af rfl (Z.good _)) rfl)) (bj ?_);refine kU (af (aa rfl (aa (af rfl (Z.cop _)) rfl)) (Z.str _)) rfl ?_;refine ak (aK (JI (c:=PQ) (e:=PQ) (x_2 rfl rfl (by rw[le_int,Qd (by omega)])) (x_2 rfl rfl (by rw[lt_int,Qd (by omega)]))) rfl)
noncomputable abbrev E(P:Xj)(n:String)(t:Nat)(v:P0):T3:=⟨PyData.keyHash P (Ss n),.str (Ss n) t,v⟩
noncomputable abbrev FN(x q:QO)(s:Q9)(c d b e:P0)(f:Option PZ)(cd ct:P0):Qu:=Ua x q (iZ s) (cQ s) (ag s) c d b e f cd ct
noncomputable abbrev fO(f:Qu):Qy:=⟨.type "function",PM,.func f,#[]⟩
noncomputable abbrev tO(l:List P0):Qy:=⟨.type "tuple",PM,.seq l.toArray 0,#[]⟩
noncomputable abbrev cO(l:List P0):Qy:=⟨.type "code",PM,.fields l.toArray,#[]⟩
noncomputable abbrev eB(P:Xj)(n:String)(t:Nat):T3:=E P n t (.builtin n)
noncomputable abbrev eT(P:Xj)(n:String)(t:Nat):T3:=E P n t (.type n)
noncomputable abbrev eR(P:Xj)(n:String)(t r:Nat):T3:=E P n t (.ref r)
noncomputable abbrev nO(l:List P0):Qy:=⟨.none,PM,.fields l.toArray,#[]⟩
noncomputable abbrev fB(x q:QO)(s:Q9):Qy:=⟨.none,PM,.func ⟨x,q,iZ s,.stmts (cQ s),ag s,0,[],.none,.none,.none,.none,PM,.none,.none,0⟩,#[]⟩
noncomputable abbrev cC(n q:QO)(t l a po c fl r:Nat)(b:Bool)(d e:Nat)(x y z w:P0)(u f v:Nat):Qy:=cO [.str n t,.str q (t+1),.str "/claim/cut.py" (t+2),.int l 0,.int a 0,.int po 0,.int c 0,.int fl 0,.ref r,.bool b,.int d 0,.ref e,x,y,z,w,.int u 0,.int f 0,.str "/claim/cut.py" v]
noncomputable abbrev cF(n:QO)(t l a b r c u:Nat):Qy:=cC n n t l a 0 b 3 r PQ c (r+1) .none .none .none (.ref (r+2)) u l (u+1)
noncomputable abbrev cG(n:QO)(t l a b r c u:Nat):Qy:=cC n n t l a 0 b 3 r PQ c (r+1) .none (.ref (r+2)) (.ref (r+3)) (.ref (r+4)) u l (u+1)
noncomputable abbrev fM(m:QO)(t:Nat)(x:QO)(i c:Nat):Qy:=fO (FN x x (top i) .none .none .none (.str m t) PM (.ref c) .none)
abbrev eTt:List P0:=[(.ref 38),(.type "ValueError"),(.type "Exception"),(.type "BaseException"),(.type "object")]
noncomputable abbrev xOo(x:QO)(a d b t u:Nat):Qy:=⟨(.type "type"),PM,(.cls ⟨x,[(.ref 38)],(.ref a)::eTt,d,x,PQ,[],[],PX,PM,PX⟩),#[(on (.ref b)),PM,(on (.str x t)),(on (.str x u)),(on (.builtin "ValueError.__new__")),(on (.bool PQ))]⟩
noncomputable abbrev iSs(n:Nat):Qy:=⟨(.type "builtin_function_or_method"),PM,(.fields #[(.builtin "object.__init_subclass__"),(.ref n)]),#[]⟩
noncomputable abbrev tx0:P0:= .str "edgetally.errors" 194
noncomputable abbrev tx1:P0:= .str "edgetally.net" 495
noncomputable abbrev tx2:P0:= .str "__main__" 164
noncomputable abbrev fL(x q:QO)(i c:Nat):Qy:=fO (FN x q (top i) .none .none .none (.str "law_edgetally_k27_whole_numbers_there_and_ba" 754) PM (.ref c) .none)
noncomputable def trL:List Nat->List P0
 |a::b::c::l=> .int a 0:: .int b 0:: .ref c::trL l
 |_=>[]
noncomputable abbrev nT(l:List Nat):Qy:=nO (trL l)
noncomputable def stL:Nat->List QO->List P0
 |_,[]=>[]
 |t,x::l=> .str x t::stL (t+1) l
noncomputable abbrev tS(t:Nat)(l:List QO):Qy:=tO (stL t l)
noncomputable def fD(o:Qy):Qu:=match o.data with
 | .func f=>f
 |_=>FN "" "" (top 0) .none .none .none .none PM .none .none
end
section
variable(P:Xj)
def b0:Qy:=⟨(.type "dict"),PM,(.dict #[(E P "__name__" 1 (.str "builtins" 160)),(E P "__doc__" 2 (.builtin "builtins.__doc__:str#opaque")),(E P "__package__" 3 (.builtin "builtins.__package__:str#opaque")),(E P "__loader__" 4 (.builtin "builtins.__loader__:shared#opaque")),(E P "__spec__" 5 (.builtin "builtins.__spec__#opaque")),(eB P "__build_class__" 6),(eB P "__import__" 7),(eB P "abs" 8),(eB P "all" 9),(eB P "any" 10),(eB P "ascii" 11),(eB P "bin" 12),(eB P "breakpoint" 13),(eB P "callable" 14),(eB P "chr" 15),(eB P "compile" 16),(eB P "delattr" 17),(eB P "dir" 18),(eB P "divmod" 19),(eB P "eval" 20),(eB P "exec" 21),(eB P "format" 22),(eB P "getattr" 23),(eB P "globals" 24),(eB P "hasattr" 25),(eB P "hash" 26),(eB P "hex" 27),(eB P "id" 28),(eB P "input" 29),(eB P "isinstance" 30),(eB P "issubclass" 31),(eB P "iter" 32),(eB P "aiter" 33),(eB P "len" 34),(eB P "locals" 35),(eB P "max" 36),(eB P "min" 37),(eB P "next" 38),(eB P "anext" 39),(eB P "oct" 40),(eB P "ord" 41),(eB P "pow" 42),(eB P "print" 43),(eB P "repr" 44),(eB P "round" 45),(eB P "setattr" 46),(eB P "sorted" 47),(eB P "sum" 48),(eB P "vars" 49),(E P "None" 50 .none),(E P "Ellipsis" 51 .ellipsis),(E P "NotImplemented" 52 .notImplemented),(E P "False" 53 (.bool PX)),(E P "True" 54 (.bool PQ)),(eT P "bool" 55),(eT P "memoryview" 56),(eT P "bytearray" 57),(eT P "bytes" 58),(eT P "classmethod" 59),(eT P "complex" 60),(eT P "dict" 61),(eT P "enumerate" 62),(eT P "filter" 63),(eT P "float" 64),(eT P "frozenset" 65),(eT P "property" 66),(eT P "int" 67),(eT P "list" 68),(eT P "map" 69),(eT P "object" 70),(eT P "range" 71),(eT P "reversed" 72),(eT P "set" 73),(eT P "slice" 74),(eT P "staticmethod" 75),(eT P "str" 76),(eT P "super" 77),(eT P "tuple" 78),(eT P "type" 79),(eT P "zip" 80),(E P "__debug__" 81 (.bool PQ)),(eT P "BaseException" 82),(eT P "BaseExceptionGroup" 83),(eT P "Exception" 84),(eT P "GeneratorExit" 85),(eT P "KeyboardInterrupt" 86),(eT P "SystemExit" 87),(eT P "ArithmeticError" 88),(eT P "AssertionError" 89),(eT P "AttributeError" 90),(eT P "BufferError" 91),(eT P "EOFError" 92),(eT P "ImportError" 93),(eT P "LookupError" 94),(eT P "MemoryError" 95),(eT P "NameError" 96),(eT P "OSError" 97),(eT P "ReferenceError" 98),(eT P "RuntimeError" 99),(eT P "StopAsyncIteration" 100),(eT P "StopIteration" 101),(eT P "SyntaxError" 102),(eT P "SystemError" 103),(eT P "TypeError" 104),(eT P "ValueError" 105),(eT P "Warning" 106),(eT P "FloatingPointError" 107),(eT P "OverflowError" 108),(eT P "ZeroDivisionError" 109),(eT P "BytesWarning" 110),(eT P "DeprecationWarning" 111),(eT P "EncodingWarning" 112),(eT P "FutureWarning" 113),(eT P "ImportWarning" 114),(eT P "PendingDeprecationWarning" 115),(eT P "ResourceWarning" 116),(eT P "RuntimeWarning" 117),(eT P "SyntaxWarning" 118),(eT P "UnicodeWarning" 119),(eT P "UserWarning" 120),(eT P "BlockingIOError" 121),(eT P "ChildProcessError" 122),(eT P "ConnectionError" 123),(eT P "FileExistsError" 124),(eT P "FileNotFoundError" 125),(eT P "InterruptedError" 126),(eT P "IsADirectoryError" 127),(eT P "NotADirectoryError" 128),(eT P "PermissionError" 129),(eT P "ProcessLookupError" 130),(eT P "TimeoutError" 131),(eT P "IndentationError" 132),(eT P "_IncompleteInputError" 133),(eT P "IndexError" 134),(eT P "KeyError" 135),(eT P "ModuleNotFoundError" 136),(eT P "NotImplementedError" 137),(eT P "PythonFinalizationError" 138),(eT P "RecursionError" 139),(eT P "UnboundLocalError" 140),(eT P "UnicodeError" 141),(eT P "BrokenPipeError" 142),(eT P "ConnectionAbortedError" 143),(eT P "ConnectionRefusedError" 144),(eT P "ConnectionResetError" 145),(eT P "TabError" 146),(eT P "UnicodeDecodeError" 147),(eT P "UnicodeEncodeError" 148),(eT P "UnicodeTranslateError" 149),(eT P "ExceptionGroup" 150),(E P "EnvironmentError" 151 (.type "OSError")),(E P "IOError" 152 (.type "OSError")),(eB P "open" 153),(E P "quit" 154 (.builtin "builtins.quit#opaque")),(E P "exit" 155 (.builtin "builtins.exit#opaque")),(E P "copyright" 156 (.builtin "builtins.copyright#opaque")),(E P "credits" 157 (.builtin "builtins.credits#opaque")),(E P "license" 158 (.builtin "builtins.license#opaque")),(E P "help" 159 (.builtin "builtins.help#opaque"))] 159),#[]⟩
def b1:Qy:=⟨(.type "dict"),PM,(.dict #[(eR P "builtins" 162 4),(eR P "__main__" 163 5)] 2),#[]⟩
noncomputable def b2:Qy:=⟨.none,PM,(.dict #[] 0),#[]⟩
def mL:List T3:=[(E P "__name__" 165 (.str "law_edgetally_k27_whole_numbers_there_and_ba" 754)),(E P "__doc__" 166 .none),(E P "__package__" 167 .none),(E P "__loader__" 168 (.builtin "__main__.__loader__#opaque")),(E P "__spec__" 169 .none),(eR P "__annotations__" 170 6),(eR P "__builtins__" 171 4),(E P "__file__" 173 (.str "/claim/cut.py" 172)),(E P "__cached__" 174 .none),(eR P "_wall" 193 21),(eR P "EdgeError" 223 38),(eR P "BadSums" 248 59),(eR P "BadBounds" 273 79),(eR P "TooWide" 298 98),(eR P "Barred" 325 117),(eR P "BadNumber" 350 137),(eR P "NoTable" 375 157),(E P "MOST" 379 (.int 40 378)),(E P "MOST_ROWS" 381 (.int 4 380)),(E P "MOST_COLUMNS" 383 (.int 6 382)),(eR P "FREE" 385 160),(eR P "free" 392 166),(eR P "check_sums" 398 171),(eR P "check_pair" 407 178),(eR P "settled_bounds" 413 183),(eR P "rows_turned" 419 188),(eR P "factorial" 430 195),(eR P "ways" 439 202),(eR P "fillings" 445 207),(eR P "need_of" 453 212),(eR P "room_inside" 459 217),(eR P "room_beside" 465 222),(eR P "room_of" 471 227),(eR P "narrowest" 477 232),(eR P "choices" 483 237),(eR P "check_fit" 494 244),(E P "WIDE" 498 (.int 500 497)),(eR P "check_wide" 507 251),(eR P "settled_for_net" 517 258),(eR P "column_fillings" 523 263),(eR P "rests_behind" 529 268),(eR P "nodes_by_level" 535 273),(eR P "node_counts" 549 280),(eR P "counted_nodes" 555 285),(eR P "Net" 663 369),(eR P "check_number" 673 380),(eR P "steps_counted" 686 387),(eR P "falls_to" 695 394),(eR P "kth_table" 701 399),(eR P "kth_dealing" 707 404),(eR P "columns_asked" 713 409),(eR P "counted_ahead" 728 416),(eR P "number_of" 740 423),(eR P "stretch" 753 430),(eR P "_law_bag" 761 435),(eR P "_law_pull" 772 442),(eR P "_law_same" 778 447),(eR P "_law_grid" 784 452),(eR P "_law_wide" 794 459),(eR P "_law_large" 804 466),(eR P "_law_turned" 810 471),(eR P "_law_rowsums" 816 476),(eR P "_law_columnsums" 822 481),(eR P "_law_free" 828 486),(eR P "_law_bounds" 842 493),(eR P "_law_copied" 848 498),(eR P "_law_factorial" 857 505),(eR P "_law_ways" 866 512),(eR P "_law_weight" 875 519),(eR P "_law_net" 883 526),(eR P "_law_good" 897 533),(eR P "law" 917 540)]
noncomputable def b3:Qy:=⟨(.type "dict"),PM,(.dict (mL P).toArray 72),#[]⟩
noncomputable def b4:Qy:=⟨(.type "module"),(on 0),.plain,#[]⟩
noncomputable def b5:Qy:=⟨(.type "module"),(on 3),.plain,#[]⟩
noncomputable def b6:Qy:=⟨(.type "dict"),PM,(.dict #[] 0),#[]⟩
def b7:Qy:=tO []
def b8:Qy:=nO []
def b9:Qy:=cC "<module>" "<module>" 176 1 0 0 0 0 7 PX 175 8 .none .none .none .none 179 1 180
def b10:Qy:=⟨(.type "frame"),PM,.plain,#[(on (.ref 9)),(on (.ref 3)),(on (.ref 3)),PM,(on tx2),PM,(on (.ref 0))]⟩
def b12:Qy:=nT [1,0,20,5,0,27,10,0,47,14,0,67,18,0,87,23,0,106,29,0,125,33,0,145,42,0,165,44,0,170,55,0,177,59,0,182,68,0,187,71,0,194,76,0,201,84,0,206,94,0,211,96,0,216,99,0,221,101,0,226,103,0,231,105,0,236,110,0,243,117,0,250,123,0,257,128,0,262,130,0,267,132,0,272,140,0,279,148,0,284,158,0,291,200,0,379,203,0,386,209,0,393,215,0,398,225,0,403,236,0,408,241,0,415,250,0,422,257,0,429,267,0,434,269,0,441,279,0,446,291,0,451,298,0,458,304,0,465,315,0,470,317,0,475,319,0,480,321,0,485,323,0,492,335,0,497,337,0,504,342,0,511,347,0,518,352,0,525,354,0,532,370,0,539]
def b13:Qy:=cC "<module>" "<module>" 182 1 0 0 0 0 11 PX 181 12 .none .none .none .none 185 1 186
def b14:Qy:=⟨(.type "frame"),PM,.plain,#[(on (.ref 13)),(on (.ref 3)),(on (.ref 3)),PM,(on tx2),PM,(on (.ref 0))]⟩
def b17:Qy:=tS 190 ["k"]
def b19:Qy:=fB "_wall" "_wall" (top 0)
def b20:Qy:=cG "_wall" 187 1 1 0 15 181 191
def b21:Qy:=fM "__main__" 164 "_wall" 0 20
def b22:Qy:=tO [(.type "ValueError")]
noncomputable def b23:Qy:=⟨(.type "builtin_function_or_method"),PM,(.fields #[(.builtin "type.__prepare__"),(.type "type")]),#[]⟩
def b24:Qy:=⟨(.type "dict"),PM,(.dict #[(E P "__module__" 203 tx0),(E P "__qualname__" 205 (.str "EdgeError" 204)),(E P "__firstlineno__" 207 (.int 5 206)),(eR P "__init__" 216 35),(eR P "__static_attributes__" 218 36)] 5),#[]⟩
def b26:Qy:=nT [7,4,34]
def b27:Qy:=cC "EdgeError" "EdgeError" 198 5 0 0 0 0 25 PX 181 26 .none .none .none .none 201 5 202
def b28:Qy:=⟨(.type "frame"),PM,.plain,#[(on (.ref 27)),(on (.ref 3)),(on (.ref 24)),PM,(on tx0),PM,(on (.ref 0))]⟩
def b31:Qy:=tS 211 ["self","word","why"]
def b33:Qy:=fB "__init__" "EdgeError.__init__" (aF (top 2) 0)
def b34:Qy:=cC "__init__" "EdgeError.__init__" 208 7 3 0 0 3 29 PQ 181 30 .none (.ref 31) (.ref 32) (.ref 33) 214 7 215
def b35:Qy:=fO (FN "__init__" "EdgeError.__init__" (aF (top 2) 0) .none .none .none tx0 PM (.ref 34) .none)
def b36:Qy:=tS 217 ["word"]
def b37:Qy:=⟨(.type "dict"),PM,(.dict #[(E P "__module__" 203 tx0),(E P "__firstlineno__" 207 (.int 5 206)),(eR P "__init__" 216 35),(eR P "__static_attributes__" 218 36),(eR P "__weakref__" 220 39),(E P "__doc__" 221 .none)] 3),#[]⟩
noncomputable def b38:Qy:=⟨(.type "type"),PM,(.cls ⟨"EdgeError",[(.type "ValueError")],[(.ref 38),(.type "ValueError"),(.type "Exception"),(.type "BaseException"),(.type "object")],37,"EdgeError",PQ,[],[(.ref 59),(.ref 79),(.ref 98),(.ref 117),(.ref 137),(.ref 157)],PX,PM,PX⟩),#[(on (.ref 22)),PM,(on (.str "EdgeError" 196)),(on (.str "EdgeError" 204)),(on (.builtin "ValueError.__new__")),(on (.bool PQ))]⟩
noncomputable def b39:Qy:=⟨(.type "getset_descriptor"),PM,(.fields #[(.str "__weakref__" 219),(.ref 38),(.builtin "ExceptionGroup.__weakref__"),.none]),#[]⟩
noncomputable def b40:Qy:=⟨(.type "super"),PM,(.fields #[(.ref 38),(.ref 38),(.ref 38)]),#[]⟩
def b41:Qy:=iSs 38
def b42:Qy:=tO [(.ref 38)]
def b44:Qy:=⟨(.type "dict"),PM,(.dict #[(E P "__module__" 231 tx0),(E P "__qualname__" 233 (.str "BadSums" 232)),(E P "__firstlineno__" 235 (.int 10 234)),(eR P "__init__" 244 56),(eR P "__static_attributes__" 245 57)] 5),#[]⟩
def b46:Qy:=nT [12,4,55]
def b47:Qy:=cC "BadSums" "BadSums" 226 10 0 0 0 0 45 PX 181 46 .none .none .none .none 229 10 230
def b48:Qy:=⟨(.type "frame"),PM,.plain,#[(on (.ref 47)),(on (.ref 3)),(on (.ref 44)),PM,(on tx0),PM,(on (.ref 0))]⟩
def b49:Qy:=tS 236 ["these sums are no table's"]
def b52:Qy:=tS 240 ["self","why"]
def b54:Qy:=fB "__init__" "BadSums.__init__" (aF (top 3) 0)
def b55:Qy:=cC "__init__" "BadSums.__init__" 237 12 2 0 0 3 50 PQ 181 51 .none (.ref 52) (.ref 53) (.ref 54) 242 12 243
def b56:Qy:=fO (FN "__init__" "BadSums.__init__" (aF (top 3) 0) (.ref 49) .none .none tx0 PM (.ref 55) .none)
def b58:Qy:=⟨(.type "dict"),PM,(.dict #[(E P "__module__" 231 tx0),(E P "__firstlineno__" 235 (.int 10 234)),(eR P "__init__" 244 56),(eR P "__static_attributes__" 245 57),(E P "__doc__" 246 .none)] 2),#[]⟩
def b59:Qy:=xOo "BadSums" 59 58 42 224 232
noncomputable def b60:Qy:=⟨(.type "super"),PM,(.fields #[(.ref 59),(.ref 59),(.ref 59)]),#[]⟩
def b61:Qy:=iSs 59
def b64:Qy:=⟨(.type "dict"),PM,(.dict #[(E P "__module__" 256 tx0),(E P "__qualname__" 258 (.str "BadBounds" 257)),(E P "__firstlineno__" 260 (.int 14 259)),(eR P "__init__" 269 76),(eR P "__static_attributes__" 270 77)] 5),#[]⟩
def b66:Qy:=nT [16,4,75]
def b67:Qy:=cC "BadBounds" "BadBounds" 251 14 0 0 0 0 65 PX 181 66 .none .none .none .none 254 14 255
def b68:Qy:=⟨(.type "frame"),PM,.plain,#[(on (.ref 67)),(on (.ref 3)),(on (.ref 64)),PM,(on tx0),PM,(on (.ref 0))]⟩
def b69:Qy:=tS 261 ["these bounds are no table's"]
def b72:Qy:=tS 265 ["self","why"]
def b74:Qy:=fB "__init__" "BadBounds.__init__" (aF (top 4) 0)
def b75:Qy:=cC "__init__" "BadBounds.__init__" 262 16 2 0 0 3 70 PQ 181 71 .none (.ref 72) (.ref 73) (.ref 74) 267 16 268
def b76:Qy:=fO (FN "__init__" "BadBounds.__init__" (aF (top 4) 0) (.ref 69) .none .none tx0 PM (.ref 75) .none)
def b78:Qy:=⟨(.type "dict"),PM,(.dict #[(E P "__module__" 256 tx0),(E P "__firstlineno__" 260 (.int 14 259)),(eR P "__init__" 269 76),(eR P "__static_attributes__" 270 77),(E P "__doc__" 271 .none)] 2),#[]⟩
def b79:Qy:=xOo "BadBounds" 79 78 62 249 257
noncomputable def b80:Qy:=⟨(.type "super"),PM,(.fields #[(.ref 79),(.ref 79),(.ref 79)]),#[]⟩
def b81:Qy:=iSs 79
def b84:Qy:=⟨(.type "dict"),PM,(.dict #[(E P "__module__" 281 tx0),(E P "__qualname__" 283 (.str "TooWide" 282)),(E P "__firstlineno__" 285 (.int 18 284)),(eR P "__init__" 293 95),(eR P "__static_attributes__" 295 96)] 5),#[]⟩
def b86:Qy:=nT [20,4,94]
def b87:Qy:=cC "TooWide" "TooWide" 276 18 0 0 0 0 85 PX 181 86 .none .none .none .none 279 18 280
def b88:Qy:=⟨(.type "frame"),PM,.plain,#[(on (.ref 87)),(on (.ref 3)),(on (.ref 84)),PM,(on tx0),PM,(on (.ref 0))]⟩
def b91:Qy:=tS 289 ["self","wide"]
def b93:Qy:=fB "__init__" "TooWide.__init__" (aF (top 5) 0)
def b94:Qy:=cC "__init__" "TooWide.__init__" 286 20 2 0 0 3 89 PQ 181 90 .none (.ref 91) (.ref 92) (.ref 93) 291 20 292
def b95:Qy:=fO (FN "__init__" "TooWide.__init__" (aF (top 5) 0) .none .none .none tx0 PM (.ref 94) .none)
def b96:Qy:=tS 294 ["wide"]
def b97:Qy:=⟨(.type "dict"),PM,(.dict #[(E P "__module__" 281 tx0),(E P "__firstlineno__" 285 (.int 18 284)),(eR P "__init__" 293 95),(eR P "__static_attributes__" 295 96),(E P "__doc__" 296 .none)] 2),#[]⟩
def b98:Qy:=xOo "TooWide" 98 97 82 274 282
noncomputable def b99:Qy:=⟨(.type "super"),PM,(.fields #[(.ref 98),(.ref 98),(.ref 98)]),#[]⟩
def b100:Qy:=iSs 98
def b103:Qy:=⟨(.type "dict"),PM,(.dict #[(E P "__module__" 306 tx0),(E P "__qualname__" 308 (.str "Barred" 307)),(E P "__firstlineno__" 310 (.int 23 309)),(eR P "__init__" 319 114),(eR P "__static_attributes__" 322 115)] 5),#[]⟩
def b105:Qy:=nT [25,4,113]
def b106:Qy:=cC "Barred" "Barred" 301 23 0 0 0 0 104 PX 181 105 .none .none .none .none 304 23 305
def b107:Qy:=⟨(.type "frame"),PM,.plain,#[(on (.ref 106)),(on (.ref 3)),(on (.ref 103)),PM,(on tx0),PM,(on (.ref 0))]⟩
def b110:Qy:=tS 314 ["self","over","into"]
def b112:Qy:=fB "__init__" "Barred.__init__" (aF (top 6) 0)
def b113:Qy:=cC "__init__" "Barred.__init__" 311 25 3 0 0 3 108 PQ 181 109 .none (.ref 110) (.ref 111) (.ref 112) 317 25 318
def b114:Qy:=fO (FN "__init__" "Barred.__init__" (aF (top 6) 0) .none .none .none tx0 PM (.ref 113) .none)
def b115:Qy:=tS 320 ["into","over"]
def b116:Qy:=⟨(.type "dict"),PM,(.dict #[(E P "__module__" 306 tx0),(E P "__firstlineno__" 310 (.int 23 309)),(eR P "__init__" 319 114),(eR P "__static_attributes__" 322 115),(E P "__doc__" 323 .none)] 2),#[]⟩
def b117:Qy:=xOo "Barred" 117 116 101 299 307
noncomputable def b118:Qy:=⟨(.type "super"),PM,(.fields #[(.ref 117),(.ref 117),(.ref 117)]),#[]⟩
def b119:Qy:=iSs 117
def b122:Qy:=⟨(.type "dict"),PM,(.dict #[(E P "__module__" 333 tx0),(E P "__qualname__" 335 (.str "BadNumber" 334)),(E P "__firstlineno__" 337 (.int 29 336)),(eR P "__init__" 346 134),(eR P "__static_attributes__" 347 135)] 5),#[]⟩
def b124:Qy:=nT [31,4,133]
def b125:Qy:=cC "BadNumber" "BadNumber" 328 29 0 0 0 0 123 PX 181 124 .none .none .none .none 331 29 332
def b126:Qy:=⟨(.type "frame"),PM,.plain,#[(on (.ref 125)),(on (.ref 3)),(on (.ref 122)),PM,(on tx0),PM,(on (.ref 0))]⟩
def b127:Qy:=tS 338 ["this number is out of its bounds"]
def b130:Qy:=tS 342 ["self","why"]
def b132:Qy:=fB "__init__" "BadNumber.__init__" (aF (top 7) 0)
def b133:Qy:=cC "__init__" "BadNumber.__init__" 339 31 2 0 0 3 128 PQ 181 129 .none (.ref 130) (.ref 131) (.ref 132) 344 31 345
def b134:Qy:=fO (FN "__init__" "BadNumber.__init__" (aF (top 7) 0) (.ref 127) .none .none tx0 PM (.ref 133) .none)
def b136:Qy:=⟨(.type "dict"),PM,(.dict #[(E P "__module__" 333 tx0),(E P "__firstlineno__" 337 (.int 29 336)),(eR P "__init__" 346 134),(eR P "__static_attributes__" 347 135),(E P "__doc__" 348 .none)] 2),#[]⟩
def b137:Qy:=xOo "BadNumber" 137 136 120 326 334
noncomputable def b138:Qy:=⟨(.type "super"),PM,(.fields #[(.ref 137),(.ref 137),(.ref 137)]),#[]⟩
def b139:Qy:=iSs 137
def b142:Qy:=⟨(.type "dict"),PM,(.dict #[(E P "__module__" 358 tx0),(E P "__qualname__" 360 (.str "NoTable" 359)),(E P "__firstlineno__" 362 (.int 33 361)),(eR P "__init__" 371 154),(eR P "__static_attributes__" 372 155)] 5),#[]⟩
def b144:Qy:=nT [35,4,153]
def b145:Qy:=cC "NoTable" "NoTable" 353 33 0 0 0 0 143 PX 181 144 .none .none .none .none 356 33 357
def b146:Qy:=⟨(.type "frame"),PM,.plain,#[(on (.ref 145)),(on (.ref 3)),(on (.ref 142)),PM,(on tx0),PM,(on (.ref 0))]⟩
def b147:Qy:=tS 363 ["the net has no such table"]
def b150:Qy:=tS 367 ["self","why"]
def b152:Qy:=fB "__init__" "NoTable.__init__" (aF (top 8) 0)
def b153:Qy:=cC "__init__" "NoTable.__init__" 364 35 2 0 0 3 148 PQ 181 149 .none (.ref 150) (.ref 151) (.ref 152) 369 35 370
def b154:Qy:=fO (FN "__init__" "NoTable.__init__" (aF (top 8) 0) (.ref 147) .none .none tx0 PM (.ref 153) .none)
def b156:Qy:=⟨(.type "dict"),PM,(.dict #[(E P "__module__" 358 tx0),(E P "__firstlineno__" 362 (.int 33 361)),(eR P "__init__" 371 154),(eR P "__static_attributes__" 372 155),(E P "__doc__" 373 .none)] 2),#[]⟩
def b157:Qy:=xOo "NoTable" 157 156 140 351 359
noncomputable def b158:Qy:=⟨(.type "super"),PM,(.fields #[(.ref 157),(.ref 157),(.ref 157)]),#[]⟩
def b159:Qy:=iSs 157
def On:Qy:=tO [(.int 0 384),(.int 40 378)]
def Om:Qy:=⟨(.type "dict"),PM,(.dict #[(eR P "pair" 386 160)] 1),#[]⟩
def b164:Qy:=fB "free" "free" (top 14)
def Ol:Qy:=cF "free" 387 42 2 1 162 181 390
def GX:Qy:=fO (FN "free" "free" (top 14) .none (.ref 161) .none (.str "edgetally.bounds" 376) PM (.ref 165) .none)
def b169:Qy:=fB "check_sums" "check_sums" (top 15)
def Oj:Qy:=cF "check_sums" 393 44 2 0 167 181 396
def GW:Qy:=fM "edgetally.bounds" 376 "check_sums" 15 170
def b174:Qy:=tS 402 ["pair","low","high"]
def b176:Qy:=fB "check_pair" "check_pair" (top 16)
def Oi:Qy:=cG "check_pair" 399 55 1 0 172 181 405
def GV:Qy:=fM "edgetally.bounds" 376 "check_pair" 16 177
def b181:Qy:=fB "settled_bounds" "settled_bounds" (top 17)
def Oh:Qy:=cF "settled_bounds" 408 59 3 0 179 181 411
def GU:Qy:=fM "edgetally.bounds" 376 "settled_bounds" 17 182
def b186:Qy:=fB "rows_turned" "rows_turned" (top 18)
def Og:Qy:=cF "rows_turned" 414 68 1 0 184 181 417
def GT:Qy:=fM "edgetally.bounds" 376 "rows_turned" 18 187
def b191:Qy:=tS 425 ["number","product","factor"]
def b193:Qy:=fB "factorial" "factorial" (top 20)
def Of:Qy:=cG "factorial" 422 71 1 0 189 181 428
def GS:Qy:=fM "edgetally.counts" 420 "factorial" 20 194
def b198:Qy:=tS 434 ["parts","part","told"]
def b200:Qy:=fB "ways" "ways" (top 21)
def Oe:Qy:=cG "ways" 431 76 1 0 196 181 437
def GR:Qy:=fM "edgetally.counts" 420 "ways" 21 201
def b205:Qy:=fB "fillings" "fillings" (top 22)
def Od:Qy:=cF "fillings" 440 84 3 0 203 181 443
def GQ:Qy:=fM "edgetally.counts" 420 "fillings" 22 206
def b210:Qy:=fB "need_of" "need_of" (top 24)
def Oc:Qy:=cF "need_of" 448 94 2 0 208 181 451
def GP:Qy:=fM "edgetally.fits" 446 "need_of" 24 211
def b215:Qy:=fB "room_inside" "room_inside" (top 25)
def Ob:Qy:=cF "room_inside" 454 96 4 0 213 181 457
def GO:Qy:=fM "edgetally.fits" 446 "room_inside" 25 216
def b220:Qy:=fB "room_beside" "room_beside" (top 26)
def Oa:Qy:=cF "room_beside" 460 99 3 0 218 181 463
def GN:Qy:=fM "edgetally.fits" 446 "room_beside" 26 221
def b225:Qy:=fB "room_of" "room_of" (top 27)
def N9:Qy:=cF "room_of" 466 101 4 0 223 181 469
def GM:Qy:=fM "edgetally.fits" 446 "room_of" 27 226
def b230:Qy:=fB "narrowest" "narrowest" (top 28)
def N8:Qy:=cF "narrowest" 472 103 3 0 228 181 475
def GL:Qy:=fM "edgetally.fits" 446 "narrowest" 28 231
def b235:Qy:=fB "choices" "choices" (top 29)
def N7:Qy:=cF "choices" 478 105 1 0 233 181 481
def GK:Qy:=fM "edgetally.fits" 446 "choices" 29 236
def b240:Qy:=tS 487 ["rowsums","columnsums","bounds","over","into"]
def b242:Qy:=fB "check_fit" "check_fit" (top 30)
def N6:Qy:=cG "check_fit" 484 110 3 0 238 181 492
def GJ:Qy:=fM "edgetally.fits" 446 "check_fit" 30 243
def b247:Qy:=tS 502 ["rowsums","wide","many"]
def b249:Qy:=fB "check_wide" "check_wide" (top 33)
def N5:Qy:=cG "check_wide" 499 117 1 0 245 181 505
def GI:Qy:=fM "edgetally.net" 495 "check_wide" 33 250
def b254:Qy:=tS 511 ["rowsums","columnsums","bounds","settled"]
def b256:Qy:=fB "settled_for_net" "settled_for_net" (top 34)
def N4:Qy:=cG "settled_for_net" 508 123 3 0 252 181 515
def GH:Qy:=fM "edgetally.net" 495 "settled_for_net" 34 257
def b261:Qy:=fB "column_fillings" "column_fillings" (top 35)
def N3:Qy:=cF "column_fillings" 518 128 4 0 259 181 521
def GG:Qy:=fM "edgetally.net" 495 "column_fillings" 35 262
def b266:Qy:=fB "rests_behind" "rests_behind" (top 36)
def N2:Qy:=cF "rests_behind" 524 130 2 0 264 181 527
def GF:Qy:=fM "edgetally.net" 495 "rests_behind" 36 267
def b271:Qy:=fB "nodes_by_level" "nodes_by_level" (top 37)
def N1:Qy:=cF "nodes_by_level" 530 132 3 0 269 181 533
def GE:Qy:=fM "edgetally.net" 495 "nodes_by_level" 37 272
def b276:Qy:=tS 539 ["rests","filled","behind","tables","dealings","counts","tables_behind","dealings_behind"]
def b278:Qy:=fB "node_counts" "node_counts" (top 38)
def N0:Qy:=cG "node_counts" 536 140 3 0 274 181 547
def GD:Qy:=fM "edgetally.net" 495 "node_counts" 38 279
def b283:Qy:=fB "counted_nodes" "counted_nodes" (top 39)
def NZ:Qy:=cF "counted_nodes" 550 148 3 0 281 181 553
def GC:Qy:=fM "edgetally.net" 495 "counted_nodes" 39 284
def b288:Qy:=⟨(.type "dict"),PM,(.dict #[(E P "__module__" 563 tx1),(E P "__qualname__" 565 (.str "Net" 564)),(E P "__firstlineno__" 567 (.int 158 566)),(eR P "__init__" 579 300),(eR P "__eq__" 587 307),(eR P "__len__" 594 314),(eR P "rowsums" 601 321),(eR P "columnsums" 608 328),(eR P "bounds" 614 333),(eR P "counts_at" 623 340),(eR P "tables" 630 347),(eR P "dealings" 637 354),(eR P "steps" 643 359),(eR P "paper" 650 366),(eR P "__static_attributes__" 655 367)] 15),#[]⟩
def b290:Qy:=nT [160,4,299,168,4,306,171,4,313,174,4,320,177,4,327,180,4,332,183,4,339,186,4,346,189,4,353,192,4,358,197,4,365]
def b291:Qy:=cC "Net" "Net" 558 158 0 0 0 0 289 PX 181 290 .none .none .none .none 561 158 562
def b292:Qy:=⟨(.type "frame"),PM,.plain,#[(on (.ref 291)),(on (.ref 3)),(on (.ref 288)),PM,(on tx1),PM,(on (.ref 0))]⟩
def NY:Qy:=⟨(.type "dict"),PM,(.dict #[(E P "bounds" 568 .none)] 1),#[]⟩
def b296:Qy:=tS 572 ["self","rowsums","columnsums","bounds","settled"]
def b298:Qy:=fB "__init__" "Net.__init__" (aF (top 40) 0)
def NX:Qy:=cC "__init__" "Net.__init__" 569 160 3 0 1 3 294 PQ 181 295 .none (.ref 296) (.ref 297) (.ref 298) 577 160 578
def GB:Qy:=fO (FN "__init__" "Net.__init__" (aF (top 40) 0) .none (.ref 293) .none tx1 PM (.ref 299) .none)
def b303:Qy:=tS 583 ["self","other"]
def b305:Qy:=fB "__eq__" "Net.__eq__" (aF (top 40) 1)
def b306:Qy:=cC "__eq__" "Net.__eq__" 580 168 2 0 0 3 301 PQ 181 302 .none (.ref 303) (.ref 304) (.ref 305) 585 168 586
def b307:Qy:=fO (FN "__eq__" "Net.__eq__" (aF (top 40) 1) .none .none .none tx1 PM (.ref 306) .none)
def b310:Qy:=tS 591 ["self"]
def b312:Qy:=fB "__len__" "Net.__len__" (aF (top 40) 2)
def b313:Qy:=cC "__len__" "Net.__len__" 588 171 1 0 0 3 308 PQ 181 309 .none (.ref 310) (.ref 311) (.ref 312) 592 171 593
def b314:Qy:=fO (FN "__len__" "Net.__len__" (aF (top 40) 2) .none .none .none tx1 PM (.ref 313) .none)
def b317:Qy:=tS 598 ["self"]
def b319:Qy:=fB "rowsums" "Net.rowsums" (aF (top 40) 3)
def NW:Qy:=cC "rowsums" "Net.rowsums" 595 174 1 0 0 3 315 PQ 181 316 .none (.ref 317) (.ref 318) (.ref 319) 599 174 600
def GA:Qy:=fO (FN "rowsums" "Net.rowsums" (aF (top 40) 3) .none .none .none tx1 PM (.ref 320) .none)
def b324:Qy:=tS 605 ["self"]
def b326:Qy:=fB "columnsums" "Net.columnsums" (aF (top 40) 4)
def NV:Qy:=cC "columnsums" "Net.columnsums" 602 177 1 0 0 3 322 PQ 181 323 .none (.ref 324) (.ref 325) (.ref 326) 606 177 607
def FZ:Qy:=fO (FN "columnsums" "Net.columnsums" (aF (top 40) 4) .none .none .none tx1 PM (.ref 327) .none)
def b331:Qy:=fB "bounds" "Net.bounds" (aF (top 40) 5)
def b332:Qy:=cC "bounds" "Net.bounds" 609 180 1 0 0 3 329 PQ 181 330 .none .none .none (.ref 331) 612 180 613
def b333:Qy:=fO (FN "bounds" "Net.bounds" (aF (top 40) 5) .none .none .none tx1 PM (.ref 332) .none)
def b336:Qy:=tS 618 ["self","level","rests"]
def b338:Qy:=fB "counts_at" "Net.counts_at" (aF (top 40) 6)
def NU:Qy:=cC "counts_at" "Net.counts_at" 615 183 3 0 0 3 334 PQ 181 335 .none (.ref 336) (.ref 337) (.ref 338) 621 183 622
def FY:Qy:=fO (FN "counts_at" "Net.counts_at" (aF (top 40) 6) .none .none .none tx1 PM (.ref 339) .none)
def b343:Qy:=tS 627 ["self"]
def b345:Qy:=fB "tables" "Net.tables" (aF (top 40) 7)
def NT:Qy:=cC "tables" "Net.tables" 624 186 1 0 0 3 341 PQ 181 342 .none (.ref 343) (.ref 344) (.ref 345) 628 186 629
def FX:Qy:=fO (FN "tables" "Net.tables" (aF (top 40) 7) .none .none .none tx1 PM (.ref 346) .none)
def b350:Qy:=tS 634 ["self"]
def b352:Qy:=fB "dealings" "Net.dealings" (aF (top 40) 8)
def NS:Qy:=cC "dealings" "Net.dealings" 631 189 1 0 0 3 348 PQ 181 349 .none (.ref 350) (.ref 351) (.ref 352) 635 189 636
def FW:Qy:=fO (FN "dealings" "Net.dealings" (aF (top 40) 8) .none .none .none tx1 PM (.ref 353) .none)
def b357:Qy:=fB "steps" "Net.steps" (aF (top 40) 9)
def NR:Qy:=cC "steps" "Net.steps" 638 192 3 0 0 3 355 PQ 181 356 .none .none .none (.ref 357) 641 192 642
def FV:Qy:=fO (FN "steps" "Net.steps" (aF (top 40) 9) .none .none .none tx1 PM (.ref 358) .none)
def b362:Qy:=tS 647 ["self"]
def b364:Qy:=fB "paper" "Net.paper" (aF (top 40) 10)
def b365:Qy:=cC "paper" "Net.paper" 644 197 1 0 0 3 360 PQ 181 361 .none (.ref 362) (.ref 363) (.ref 364) 648 197 649
def b366:Qy:=fO (FN "paper" "Net.paper" (aF (top 40) 10) .none .none .none tx1 PM (.ref 365) .none)
def b367:Qy:=tS 651 ["column_list","counted","pairs","row_list"]
def NQ:Qy:=⟨(.type "dict"),PM,(.dict #[(E P "__module__" 563 tx1),(E P "__firstlineno__" 567 (.int 158 566)),(eR P "__init__" 579 300),(eR P "__eq__" 587 307),(eR P "__len__" 594 314),(eR P "rowsums" 601 321),(eR P "columnsums" 608 328),(eR P "bounds" 614 333),(eR P "counts_at" 623 340),(eR P "tables" 630 347),(eR P "dealings" 637 354),(eR P "steps" 643 359),(eR P "paper" 650 366),(eR P "__static_attributes__" 655 367),(eR P "__dict__" 657 370),(eR P "__weakref__" 659 371),(E P "__doc__" 660 .none),(E P "__hash__" 661 .none)] 5),#[]⟩
noncomputable def NP:Qy:=⟨(.type "type"),PM,(.cls ⟨"Net",[(.type "object")],[(.ref 369),(.type "object")],368,"Net",PQ,[],[],PX,PM,PX⟩),#[PM,PM,(on (.str "Net" 556)),(on (.str "Net" 564)),(on (.builtin "object.__new__")),(on (.bool PQ))]⟩
noncomputable def b370:Qy:=⟨(.type "getset_descriptor"),PM,(.fields #[(.str "__dict__" 656),(.ref 369),(.builtin "function.__dict__"),(.builtin "function.__dict__#set")]),#[]⟩
noncomputable def b371:Qy:=⟨(.type "getset_descriptor"),PM,(.fields #[(.str "__weakref__" 658),(.ref 369),(.builtin "ExceptionGroup.__weakref__"),.none]),#[]⟩
noncomputable def b372:Qy:=⟨(.type "super"),PM,(.fields #[(.ref 369),(.ref 369),(.ref 369)]),#[]⟩
def b373:Qy:=iSs 369
def b376:Qy:=tS 669 ["k","many"]
def b378:Qy:=fB "check_number" "check_number" (top 42)
def NO:Qy:=cG "check_number" 666 200 2 0 374 181 671
def FU:Qy:=fM "edgetally.order" 664 "check_number" 42 379
def b383:Qy:=tS 677 ["net","level","rests","told","counts","tables","dealings"]
def b385:Qy:=fB "steps_counted" "steps_counted" (top 43)
def NN:Qy:=cG "steps_counted" 674 203 3 0 381 181 684
def FT:Qy:=fM "edgetally.order" 664 "steps_counted" 43 386
def b390:Qy:=tS 690 ["numbered","k","at"]
def b392:Qy:=fB "falls_to" "falls_to" (top 44)
def NM:Qy:=cG "falls_to" 687 209 2 0 388 181 693
def FS:Qy:=fM "edgetally.order" 664 "falls_to" 44 393
def b397:Qy:=fB "kth_table" "kth_table" (top 45)
def NL:Qy:=cF "kth_table" 696 215 2 0 395 181 699
def FR:Qy:=fM "edgetally.order" 664 "kth_table" 45 398
def b402:Qy:=fB "kth_dealing" "kth_dealing" (top 46)
def NK:Qy:=cF "kth_dealing" 702 225 2 0 400 181 705
def FQ:Qy:=fM "edgetally.order" 664 "kth_dealing" 46 403
def b407:Qy:=fB "columns_asked" "columns_asked" (top 47)
def NJ:Qy:=cF "columns_asked" 708 236 2 0 405 181 711
def FP:Qy:=fM "edgetally.order" 664 "columns_asked" 47 408
def b412:Qy:=tS 717 ["net","level","rests","filling","tables_ahead","dealings_ahead","counts","tables","dealings"]
def b414:Qy:=fB "counted_ahead" "counted_ahead" (top 48)
def NI:Qy:=cG "counted_ahead" 714 241 4 0 410 181 726
def FO:Qy:=fM "edgetally.order" 664 "counted_ahead" 48 415
def b419:Qy:=tS 732 ["net","rows","rests","number","level","filling"]
def b421:Qy:=fB "number_of" "number_of" (top 49)
def NH:Qy:=cG "number_of" 729 250 2 0 417 181 738
def FM:Qy:=fM "edgetally.order" 664 "number_of" 49 422
def b426:Qy:=tS 744 ["net","rows","rests","first","many","level","filling"]
def b428:Qy:=fB "stretch" "stretch" (top 50)
def NG:Qy:=cG "stretch" 741 257 2 0 424 181 751
def FK:Qy:=fM "edgetally.order" 664 "stretch" 50 429
def b433:Qy:=fB "_law_bag" "_law_bag" (top 52)
def NF:Qy:=cF "_law_bag" 756 267 1 0 431 181 759
def FJ:Qy:=fL "_law_bag" "_law_bag" 52 434
def b438:Qy:=tS 765 ["_law_bag_here","_law_lot","_law_cells","_law_at","_law_cell"]
def b440:Qy:=fB "_law_pull" "_law_pull" (top 53)
def NE:Qy:=cG "_law_pull" 762 269 2 0 436 181 770
def FI:Qy:=fL "_law_pull" "_law_pull" 53 441
def b445:Qy:=fB "_law_same" "_law_same" (top 54)
def ND:Qy:=cF "_law_same" 773 279 2 0 443 181 776
def FH:Qy:=fL "_law_same" "_law_same" 54 446
def b450:Qy:=fB "_law_grid" "_law_grid" (top 55)
def NC:Qy:=cF "_law_grid" 779 291 4 0 448 181 782
def FG:Qy:=fL "_law_grid" "_law_grid" 55 451
def b455:Qy:=tS 788 ["_law_bag_here","_law_grid_here","_law_lot","_law_first"]
def b457:Qy:=fB "_law_wide" "_law_wide" (top 56)
def NB:Qy:=cG "_law_wide" 785 298 1 0 453 181 792
def FF:Qy:=fL "_law_wide" "_law_wide" 56 458
def b462:Qy:=tS 798 ["_law_bag_here","_law_way","_law_block","_law_columns"]
def b464:Qy:=fB "_law_large" "_law_large" (top 57)
def NA:Qy:=cG "_law_large" 795 304 1 0 460 181 802
def FE:Qy:=fL "_law_large" "_law_large" 57 465
def b469:Qy:=fB "_law_turned" "_law_turned" (top 58)
def Nz:Qy:=cF "_law_turned" 805 315 1 0 467 181 808
def FC:Qy:=fL "_law_turned" "_law_turned" 58 470
def b474:Qy:=fB "_law_rowsums" "_law_rowsums" (top 59)
def Ny:Qy:=cF "_law_rowsums" 811 317 1 0 472 181 814
def FA:Qy:=fL "_law_rowsums" "_law_rowsums" 59 475
def b479:Qy:=fB "_law_columnsums" "_law_columnsums" (top 60)
def Nx:Qy:=cF "_law_columnsums" 817 319 1 0 477 181 820
def EZ:Qy:=fL "_law_columnsums" "_law_columnsums" 60 480
def b484:Qy:=fB "_law_free" "_law_free" (top 61)
def Nw:Qy:=cF "_law_free" 823 321 2 0 482 181 826
def EY:Qy:=fL "_law_free" "_law_free" 61 485
def b489:Qy:=tS 832 ["_law_bag_here","_law_grid_here","_law_told","_law_at","_law_row","_law_to","_law_count","_law_way"]
def b491:Qy:=fB "_law_bounds" "_law_bounds" (top 62)
def Nv:Qy:=cG "_law_bounds" 829 323 2 0 487 181 840
def EX:Qy:=fL "_law_bounds" "_law_bounds" 62 492
def b496:Qy:=fB "_law_copied" "_law_copied" (top 63)
def Nu:Qy:=cF "_law_copied" 843 335 1 0 494 181 846
def EW:Qy:=fL "_law_copied" "_law_copied" 63 497
def b501:Qy:=tS 852 ["_law_lot","_law_found","_law_k"]
def b503:Qy:=fB "_law_factorial" "_law_factorial" (top 64)
def Nr:Qy:=cG "_law_factorial" 849 337 1 0 499 181 855
def EV:Qy:=fL "_law_factorial" "_law_factorial" 64 504
def b508:Qy:=tS 861 ["_law_parts","_law_under","_law_part"]
def b510:Qy:=fB "_law_ways" "_law_ways" (top 65)
def Nq:Qy:=cG "_law_ways" 858 342 1 0 506 181 864
def EU:Qy:=fL "_law_ways" "_law_ways" 65 511
def b515:Qy:=tS 870 ["_law_columns","_law_found","_law_column"]
def b517:Qy:=fB "_law_weight" "_law_weight" (top 66)
def Np:Qy:=cG "_law_weight" 867 347 1 0 513 181 873
def ET:Qy:=fL "_law_weight" "_law_weight" 66 518
def b522:Qy:=tS 879 ["_law_grid_here","_law_limits"]
def b524:Qy:=fB "_law_net" "_law_net" (top 67)
def No:Qy:=cG "_law_net" 876 352 2 0 520 181 881
def ES:Qy:=fL "_law_net" "_law_net" 67 525
def b529:Qy:=tS 887 ["_law_block","_law_rowsums_here","_law_columnsums_here","_law_limits","_law_row","_law_count","_law_pairs","_law_duo"]
def b531:Qy:=fB "_law_good" "_law_good" (top 68)
def Nn:Qy:=cG "_law_good" 884 354 4 0 527 181 895
def ER:Qy:=fL "_law_good" "_law_good" 68 532
def b536:Qy:=tS 901 ["_law_script","_law_bag_here","_law_grid_here","_law_limits","_law_rowsums_here","_law_columnsums_here","_law_net_here","_law_tables","_law_k","_law_block","_law_first","_law_behind","_law_other","_law_number"]
def b538:Qy:=fB "law" "law" (top 69)
def Nm:Qy:=cG "law" 898 370 1 0 534 181 915
def EQ:Qy:=fL "law" "law" 69 539
def h0_3:Qy:=⟨(.type "dict"),PM,(.dict (((mL P).take 9).set 0 (E P "__name__" 165 tx2)).toArray 9),#[]⟩
def Ps:Qy:=nO []
def h1_3:Qy:=⟨(.type "dict"),PM,(.dict (((mL P).take 9).set 0 (E P "__name__" 165 tx2)).toArray 9),#[]⟩
def Pl:Qy:=nT [1,0,20,5,0,27,10,0,47,14,0,67,18,0,87]
def k1_3:Qy:=⟨(.type "dict"),PM,(.dict (((mL P).take 14).set 0 (E P "__name__" 165 tx0)).toArray 14),#[]⟩
noncomputable def Pk:Qy:=⟨(.type "type"),PM,(.cls ⟨"EdgeError",[(.type "ValueError")],[(.ref 38),(.type "ValueError"),(.type "Exception"),(.type "BaseException"),(.type "object")],37,"EdgeError",PQ,[],[(.ref 59),(.ref 79),(.ref 98)],PX,PM,PX⟩),#[(on (.ref 22)),PM,(on (.str "EdgeError" 196)),(on (.str "EdgeError" 204)),(on (.builtin "ValueError.__new__")),(on (.bool PQ))]⟩
def Pj:Qy:=nT [1,0,20,5,0,27,10,0,47,14,0,67,18,0,87,23,0,106,29,0,125,33,0,145,42,0,165,44,0,170,55,0,177,59,0,182,68,0,187,71,0,194]
def k2_3:Qy:=⟨(.type "dict"),PM,(.dict (((mL P).take 27).set 0 (E P "__name__" 165 (.str "edgetally.counts" 420))).toArray 27),#[]⟩
def Pi:Qy:=nT [1,0,20,5,0,27,10,0,47,14,0,67,18,0,87,23,0,106,29,0,125,33,0,145,42,0,165,44,0,170,55,0,177,59,0,182,68,0,187,71,0,194,76,0,201,84,0,206,94,0,211,96,0,216,99,0,221,101,0,226,103,0,231,105,0,236,110,0,243,117,0,250,123,0,257,128,0,262,130,0,267,132,0,272,140,0,279,148,0,284]
def k3_3:Qy:=⟨(.type "dict"),PM,(.dict (((mL P).take 44).set 0 (E P "__name__" 165 tx1)).toArray 44),#[]⟩
def Ph:Qy:=nT [1,0,20,5,0,27,10,0,47,14,0,67,18,0,87,23,0,106,29,0,125,33,0,145,42,0,165,44,0,170,55,0,177,59,0,182,68,0,187,71,0,194,76,0,201,84,0,206,94,0,211,96,0,216,99,0,221,101,0,226,103,0,231,105,0,236,110,0,243,117,0,250,123,0,257,128,0,262,130,0,267,132,0,272,140,0,279,148,0,284,158,0,291,200,0,379,203,0,386,209,0,393,215,0,398,225,0,403,236,0,408,241,0,415,250,0,422,257,0,429,267,0,434,269,0,441,279,0,446,291,0,451,298,0,458]
noncomputable def k4_3:Qy:=⟨(.type "dict"),PM,(.dict ((mL P).take 59).toArray 59),#[]⟩
def kL:List Qy:=[b0 P,b1 P,b2,b3 P,b4,b5,b6,b7,b8,b9,b10,b7,b12,b13,b14,b7,b8,b17,b7,b19,b20,b21,b22,b23,b24 P,b7,b26,b27,b28,b7,b8,b31,b7,b33,b34,b35,b36,b37 P,b38,b39,b40,b41,b42,b23,b44 P,b7,b46,b47,b48,b49,b7,b8,b52,b7,b54,b55,b56,b7,b58 P,b59,b60,b61,b42,b23,b64 P,b7,b66,b67,b68,b69,b7,b8,b72,b7,b74,b75,b76,b7,b78 P,b79,b80,b81,b42,b23,b84 P,b7,b86,b87,b88,b7,b8,b91,b7,b93,b94,b95,b96,b97 P,b98,b99,b100,b42,b23,b103 P,b7,b105,b106,b107,b7,b8,b110,b7,b112,b113,b114,b115,b116 P,b117,b118,b119,b42,b23,b122 P,b7,b124,b125,b126,b127,b7,b8,b130,b7,b132,b133,b134,b7,b136 P,b137,b138,b139,b42,b23,b142 P,b7,b144,b145,b146,b147,b7,b8,b150,b7,b152,b153,b154,b7,b156 P,b157,b158,b159,On,Om P,b7,b8,b164,Ol,GX,b7,b8,b169,Oj,GW,b7,b8,b174,b7,b176,Oi,GV,b7,b8,b181,Oh,GU,b7,b8,b186,Og,GT,b7,b8,b191,b7,b193,Of,GS,b7,b8,b198,b7,b200,Oe,GR,b7,b8,b205,Od,GQ,b7,b8,b210,Oc,GP,b7,b8,b215,Ob,GO,b7,b8,b220,Oa,GN,b7,b8,b225,N9,GM,b7,b8,b230,N8,GL,b7,b8,b235,N7,GK,b7,b8,b240,b7,b242,N6,GJ,b7,b8,b247,b7,b249,N5,GI,b7,b8,b254,b7,b256,N4,GH,b7,b8,b261,N3,GG,b7,b8,b266,N2,GF,b7,b8,b271,N1,GE,b7,b8,b276,b7,b278,N0,GD,b7,b8,b283,NZ,GC,b7,b23,b288 P,b7,b290,b291,b292,NY P,b7,b8,b296,b7,b298,NX,GB,b7,b8,b303,b7,b305,b306,b307,b7,b8,b310,b7,b312,b313,b314,b7,b8,b317,b7,b319,NW,GA,b7,b8,b324,b7,b326,NV,FZ,b7,b8,b331,b332,b333,b7,b8,b336,b7,b338,NU,FY,b7,b8,b343,b7,b345,NT,FX,b7,b8,b350,b7,b352,NS,FW,b7,b8,b357,NR,FV,b7,b8,b362,b7,b364,b365,b366,b367,NQ P,NP,b370,b371,b372,b373,b7,b8,b376,b7,b378,NO,FU,b7,b8,b383,b7,b385,NN,FT,b7,b8,b390,b7,b392,NM,FS,b7,b8,b397,NL,FR,b7,b8,b402,NK,FQ,b7,b8,b407,NJ,FP,b7,b8,b412,b7,b414,NI,FO,b7,b8,b419,b7,b421,NH,FM,b7,b8,b426,b7,b428,NG,FK,b7,b8,b433,NF,FJ,b7,b8,b438,b7,b440,NE,FI,b7,b8,b445,ND,FH,b7,b8,b450,NC,FG,b7,b8,b455,b7,b457,NB,FF,b7,b8,b462,b7,b464,NA,FE,b7,b8,b469,Nz,FC,b7,b8,b474,Ny,FA,b7,b8,b479,Nx,EZ,b7,b8,b484,Nw,EY,b7,b8,b489,b7,b491,Nv,EX,b7,b8,b496,Nu,EW,b7,b8,b501,b7,b503,Nr,EV,b7,b8,b508,b7,b510,Nq,EU,b7,b8,b515,b7,b517,Np,ET,b7,b8,b522,b7,b524,No,ES,b7,b8,b529,b7,b531,Nn,ER,b7,b8,b536,b7,b538,Nm,EQ]
def h0H:Rl:=⟨⟨((kL P).take 11).set 3 (h0_3 P)⟩,{}⟩
def h1H:Rl:=⟨⟨(((kL P).take 15).set 3 (h1_3 P)).set 12 (Ps)⟩,{}⟩
def k1H:Rl:=⟨⟨((((kL P).take 101).set 3 (k1_3 P)).set 12 (Pl)).set 38 (Pk)⟩,{}⟩
def k2H:Rl:=⟨⟨(((kL P).take 196).set 3 (k2_3 P)).set 12 (Pj)⟩,{}⟩
def k3H:Rl:=⟨⟨(((kL P).take 286).set 3 (k3_3 P)).set 12 (Pi)⟩,{}⟩
def k4H:Rl:=⟨⟨(((kL P).take 460).set 3 (k4_3 P)).set 12 (Ph)⟩,{}⟩
noncomputable def k5H:Rl:=⟨⟨kL P⟩,{}⟩
end
def KH:Xj->Qo:=λP=>
[(2,b2),(3,b3 P),(34,b34),(35,b35),(37,b37 P),(38,b38),(160,On),(161,Om P),(165,Ol),(166,GX),(170,Oj),(171,GW),(177,Oi),(178,GV),(182,Oh),(183,GU),(187,Og),(188,GT),(194,Of),(195,GS),(201,Oe),(202,GR),(206,Od),(207,GQ),(211,Oc),(212,GP),(216,Ob),(217,GO),(221,Oa),(222,GN),(226,N9),(227,GM),(231,N8),(232,GL),(236,N7),(237,GK),(243,N6),(244,GJ),(250,N5),(251,GI),(257,N4),(258,GH),(262,N3),(263,GG),(267,N2),(268,GF),(272,N1),(273,GE),(279,N0),(280,GD),(284,NZ),(285,GC),(293,NY P),(299,NX),(300,GB),(320,NW),(321,GA),(327,NV),(328,FZ),(339,NU),(340,FY),(346,NT),(347,FX),(353,NS),(354,FW),(358,NR),(359,FV),(368,NQ P),(369,NP),(379,NO),(380,FU),(386,NN),(387,FT),(393,NM),(394,FS),(398,NL),(399,FR),(403,NK),(404,FQ),(408,NJ),(409,FP),(415,NI),(416,FO),(422,NH),(423,FM),(429,NG),(430,FK),(434,NF),(435,FJ),(441,NE),(442,FI),(446,ND),(447,FH),(451,NC),(452,FG),(458,NB),(459,FF),(465,NA),(466,FE),(470,Nz),(471,FC),(475,Ny),(476,FA),(480,Nx),(481,EZ),(485,Nw),(486,EY),(492,Nv),(493,EX),(497,Nu),(498,EW),(504,Nr),(505,EV),(511,Nq),(512,EU),(518,Np),(519,ET),(525,No),(526,ES),(532,Nn),(533,ER),(539,Nm),(540,EQ)]
noncomputable def aH:List PZ:=[2,3,34,35,37,38,160,161,165,166,170,171,177,178,182,183,187,188,194,195,201,202,206,207,211,212,216,217,221,222,226,227,231,232,236,237,243,244,250,251,257,258,262,263,267,268,272,273,279,280,284,285,293,299,300,320,321,327,328,339,340,346,347,353,354,358,359,368,369,379,380,386,387,393,394,398,399,403,404,408,409,415,416,422,423,429,430,434,435,441,442,446,447,451,452,458,459,465,466,470,471,475,476,480,481,485,486,492,493,497,498,504,505,511,512,518,519,525,526,532,533,539,540]
theorem eH:∀P,aH=(KH P).map (·.1):=λ_=>by kernel_rfl
noncomputable def qH:QG:={PySem.Challenge.pw_edgetally_k27_whole_numbers_there_and_ba with main:={PySem.Challenge.pw_edgetally_k27_whole_numbers_there_and_ba.main with body:=[top 0,top 2,top 3,top 4,top 5,top 6,top 7,top 8,top 10,top 11,top 12,top 13,top 15,top 16,top 17,top 18,top 20,top 21,top 22,top 24,top 25,top 26,top 27,top 28,top 29,top 30,top 32,top 33,top 34,top 35,top 36,top 37,top 38,top 39,top 40,top 42,top 43,top 44,top 45,top 46,top 47,top 48,top 49,top 50,top 52,top 53,top 54,top 55,top 56,top 57,top 58,top 59,top 60,top 61,top 62,top 63,top 64,top 65,top 66,top 67,top 68,top 69]}}
noncomputable abbrev lvH:List (QO×PySem.W.WData):=[("FREE",PySem.W.WData.tuple [Xg 0,Xg 40])]
noncomputable abbrev loH:List QO:=["BadSums","BadBounds","BadNumber","NoTable","FREE","free","Net"]
abbrev hkH:=PySem.W.kHook KH aH eH
def xtH(s:P6):Bool:=PySem.W.xlAt qH lvH s&&PySem.W.recOk (PySem.W.RowW.records (Sn (SE QE))) s
noncomputable abbrev pH:QG:=Xk (Sn (SE QE))
noncomputable def bdH:List Q9:=PySem.W.behindTheImports pH
noncomputable def evH:WY:={scope:=pH.main.scope,locals:=mainNs,globals:=mainNs,cells:=[],code:=(.ref 13),frame:=(on 14)}
def cH:Code:= .body bdH evH
noncomputable abbrev tpH:List Frame:=[PySem.W.topFrame ⟨0,0,0,0⟩]
theorem opH(w:QT):(PySem.W.fencedOpening RY pH w 7778).map (λs=>(s.heap,s.gens,s.drawn,s.toks))=on (h0H w.params,#[],{},181):=by kernel_rfl
theorem szH(w:QT):((h0H w.params).isNs Sj&&(#[]:Array GenState).size==0,(h0H w.params).objs.size,(h0H w.params).nsMap Sj "__annotations__")=(PQ,11,(on (.ref 6))):=by kernel_rfl
theorem r1H(w:QT)(os:VB):PySem.W.topGo RY pH w 11 (on (.ref 6)) 12 ⟨h0H w.params,#[],{},181,os⟩ (YX pH)=on (⟨h1H w.params,#[],{},187,os⟩,⟨denote RY (.body bdH evH),cH,⟨0,0,0,0⟩,tpH⟩):=by kernel_rfl
theorem r2H(w:QT)(os:VB):Ub RY pH w 11 (on (.ref 6)) 1 1 ⟨h1H w.params,#[],{},187,os⟩ (PySem.W.blockOf bdH evH cH ⟨0,0,0,0⟩ tpH)=on (.next,⟨h1H w.params,#[],{},187,os⟩,cH,⟨0,0,0,0⟩):=by kernel_rfl
theorem c1H(w:QT)(os:VB):Ub RY pH w 11 (on (.ref 6)) 1 995 ⟨h1H w.params,#[],{},187,os⟩ (Ul (bdH.take 6) evH cH ⟨0,0,0,0⟩ tpH)=on (.next,⟨k1H w.params,#[],{},299,os⟩,cH,⟨18,0,22,24⟩):=by kernel_rfl
theorem c2H(w:QT)(os:VB):Ub RY pH w 11 (on (.ref 6)) 1 971 ⟨k1H w.params,#[],{},299,os⟩ (Ul ((bdH.drop 6).take 15) evH cH ⟨18,0,22,24⟩ tpH)=on (.next,⟨k2H w.params,#[],{},431,os⟩,cH,⟨71,0,75,18⟩):=by kernel_rfl
theorem c3H(w:QT)(os:VB):Ub RY pH w 11 (on (.ref 6)) 1 477 ⟨k2H w.params,#[],{},431,os⟩ (Ul (((bdH.drop 6).drop 15).take 19) evH cH ⟨71,0,75,18⟩ tpH)=on (.next,⟨k3H w.params,#[],{},556,os⟩,cH,⟨148,0,157,112⟩):=by kernel_rfl
theorem c4H(w:QT)(os:VB):Ub RY pH w 11 (on (.ref 6)) 1 988 ⟨k3H w.params,#[],{},556,os⟩ (Ul ((((bdH.drop 6).drop 15).drop 19).take 17) evH cH ⟨148,0,157,112⟩ tpH)=on (.next,⟨k4H w.params,#[],{},795,os⟩,cH,⟨298,0,303,25⟩):=by kernel_rfl
theorem c5H(w:QT)(os:VB):Ub RY pH w 11 (on (.ref 6)) 1 400 ⟨k4H w.params,#[],{},795,os⟩ (Ul (((((bdH.drop 6).drop 15).drop 19).drop 17).take 13) evH cH ⟨298,0,303,25⟩ tpH)=on (.next,⟨k5H w.params,#[],{},918,os⟩,cH,⟨370,0,400,66⟩):=by kernel_rfl
theorem e0H:(((((bdH.drop 6).drop 15).drop 19).drop 17).drop 13)=[]:=by kernel_rfl
theorem r9H(w:QT)(os:VB):Zc RY pH w 11 (on (.ref 6)) 2 ⟨k5H w.params,#[],{},918,os⟩ ⟨PySem.W.doneF .next,cH,⟨370,0,400,66⟩,tpH⟩=on ⟨k5H w.params,#[],{},918,os⟩:=by kernel_rfl
theorem rnH(w:QT)(os:VB):Zc RY pH w 11 (on (.ref 6)) (12+(1+(995+(971+(477+(988+(400+2))))))) ⟨h0H w.params,#[],{},181,os⟩ (YX pH)=on ⟨k5H w.params,#[],{},918,os⟩:=PySem.W.go_top (r1H w os) (PySem.W.piece_block (r2H w os) (jq 6 (c1H w os) (jq 15 (c2H w os) (jq 19 (c3H w os) (jq 17 (c4H w os) (jq 13 (c5H w os) (DZ e0H (r9H w os))))))))
theorem hlH:PySem.W.LeftO pH qH loH xtH (PySem.W.Hook.obs hkH) (PySem.W.Hook.val hkH) 7778:=PySem.W.LeftO.of_pieces (H₀:=h0H) (H₁:=k5H) opH szH rnH (by decide +kernel) λw=>by kernel_rfl
theorem wsH:PySem.W.OpenLaw.wellSaid QE=PQ:=by decide +kernel
theorem okH:(PySem.W.chainsOk qH&&PySem.W.opensWell (Xk (Sn (SE QE)))&&(PySem.W.frees (Sn (SE QE))&&(PySem.W.RowW.within (Sn (SE QE))).isEmpty))=PQ:=by decide +kernel
abbrev adH:Ad:={Aa:=38,Ab:=35,Ac:=fD b35,Ae:=369,Af:=166,Ag:=fD GX,Ah:=171,Ai:=fD GW,Aj:=178,Ak:=fD GV,Al:=183,Am:=fD GU,An:=188,Ao:=fD GT,Aq:=195,Ar:=fD GS,As:=202,At:=fD GR,Au:=207,Av:=fD GQ,Aw:=212,Ax:=fD GP,Ay:=217,Az:=fD GO,A0:=222,A1:=fD GN,A2:=227,A3:=fD GM,A4:=232,A5:=fD GL,A6:=237,A7:=fD GK,A8:=244,A9:=fD GJ,Ba:=251,Bb:=fD GI,Bc:=258,Bd:=fD GH,Be:=263,Bf:=fD GG,Bh:=268,Bi:=fD GF,Bj:=273,Bk:=fD GE,Bl:=280,Bm:=fD GD,Bn:=285,Bo:=fD GC,Bp:=380,Bq:=fD FU,Br:=387,Bs:=fD FT,Bt:=394,Bu:=fD FS,Bv:=399,Bw:=fD FR,Bx:=404,By:=fD FQ,Bz:=409,B0:=fD FP,B5:=416,B7:=fD FO,B8:=423,Ca:=fD FM,Cb:=430,Cc:=fD FK,Cd:=435,Cf:=fD FJ,Cg:=442,Ch:=fD FI,Ci:=447,Cj:=fD FH,Ck:=452,Cl:=fD FG,Cm:=459,Cn:=fD FF,Co:=466,Cp:=fD FE,Cq:=471,Cr:=fD FC,Cs:=476,Ct:=fD FA,Cu:=481,Cv:=fD EZ,Cw:=486,Cy:=fD EY,Cz:=493,C0:=fD EX,C2:=498,C3:=fD EW,C4:=505,C5:=fD EV,C6:=512,C7:=fD EU,C8:=519,C9:=fD ET,Da:=526,Db:=fD ES,Dc:=533,Dd:=fD ER,Df:=300,Dg:=fD GB,Dh:=347,Di:=fD FX,Dj:=340,Dm:=fD FY,Do:=321,Dp:=fD GA,Dq:=328,Dr:=fD FZ,Dt:=359,Du:=fD FV,Dv:=354,Dw:=fD FW,Dx:=540,Dy:=fD EQ}
section
variable{P:Xj}{h:Rl}{mg:QO->Option P0}
theorem fH{x q:QO}{s:Q9}{f:PZ}{a b d e cd ct:P0}{g:Option PZ}(l:(KH P).lookup f=on (fO (FN x q s a b d e g cd ct)):=by kernel_rfl)(c:UI (KH P) cd q=PQ:=by kernel_rfl)(k:Vr (KH P) (.ref f)=PQ:=by kernel_rfl):FunD (KH P) x q s f (FN x q s a b d e g cd ct):=Lg l c k
theorem mO(X:(KH P).In h)(G:h.Ns Sj mg){n:QO}{v:P0}(e:PySem.W.nsIn (KH P) Sj n=on (on v):=by kernel_rfl):mg n=on v:=mg_of X G e
theorem mN(X:(KH P).In h)(G:h.Ns Sj mg){n:QO}(e:PySem.W.nsIn (KH P) Sj n=on PM:=by kernel_rfl):mg n=PM:=PySem.W.mg_none_of X G e
theorem nH(X:(KH P).In h)(G:h.Ns Sj mg):Fns (KH P) mg adH where
 Dz:=mN X G
 D0:=mN X G
 D3:=mN X G
 D4:=mN X G
 D5:=mN X G
 D6:=mN X G
 D7:=mN X G
 D8:=mN X G
 D9:=mN X G
 Ea:=mN X G
 Eb:=mN X G
 Ec:=mN X G
 Ed:=mN X G
 Ee:=mN X G
 Ef:=mN X G
 Eg:=mN X G
 Eh:=mN X G
 Ei:=mN X G
 Ej:=qj (u:=(.int 40 378)) (mO X G) m7
 Ek:=qj (u:=(.int 6 382)) (mO X G) m7
 El:=qj (u:=(.int 4 380)) (mO X G) m7
 Em:=qj (u:=(.int 500 497)) (mO X G) m7
 En:=fH
 Eo:=mO X G
 Ep:=Nj (us:=[(.ref 160)]) 2 rfl (λs us a b=>by obtain⟨c,d,rfl⟩:=lU2 b;exact PySem.W.kp_binds a λS=>by kernel_rfl) (Ll (JP (p:=160) (q1:=(.type "tuple")) (q2:=PM) (q3:=#[(.int 0 384),(.int 40 378)]) (q4:=0) (q5:=#[]) (by kernel_rfl) rfl (by decide) (by repeat (first|exact trivial|refine⟨rfl,?_⟩))) Nh)
 Er:=fH
 Es:=mO X G
 Et:= .all (bA2 λ_ _=>rfl)
 Eu:=fH
 Ev:=mO X G
 Ew:= .all (bA1 λ_=>rfl)
 Ex:=fH
 Ey:=mO X G
 Ez:= .all (bA3 λ_ _ _=>rfl)
 E2:=fH
 E3:=mO X G
 E4:= .all (bA1 λ_=>rfl)
 E5:=fH
 E6:=mO X G
 E7:= .all (bA1 λ_=>rfl)
 E8:=fH
 E9:=mO X G
 Fa:= .all (bA1 λ_=>rfl)
 Fb:=fH
 Fc:=mO X G
 Fd:= .all (bA3 λ_ _ _=>rfl)
 Fe:=fH
 Ff:=mO X G
 Fg:= .all (bA2 λ_ _=>rfl)
 Fh:=fH
 Fi:=mO X G
 Fj:= .all (bA4 λ_ _ _ _=>rfl)
 Fk:=fH
 Fl:=mO X G
 Fm:= .all (bA3 λ_ _ _=>rfl)
 Fn:=fH
 Fo:=mO X G
 Fp:= .all (bA4 λ_ _ _ _=>rfl)
 Fq:=fH
 Fs:=mO X G
 Ft:= .all (bA3 λ_ _ _=>rfl)
 Fu:=fH
 Fv:=mO X G
 Fw:= .all (bA1 λ_=>rfl)
 Fy:=fH
 Fz:=mO X G
 F4:= .all (bA3 λ_ _ _=>rfl)
 F5:=fH
 F6:=mO X G
 F7:= .all (bA1 λ_=>rfl)
 F8:=fH
 F9:=mO X G
 Ga:= .all (bA3 λ_ _ _=>rfl)
 Gb:=fH
 Gc:=mO X G
 Gd:= .all (bA4 λ_ _ _ _=>rfl)
 Ge:=fH
 Gf:=mO X G
 Gg:= .all (bA2 λ_ _=>rfl)
 Gh:=fH
 Gi:=mO X G
 Gj:= .all (bA3 λ_ _ _=>rfl)
 Gk:=fH
 Gm:=mO X G
 Gn:= .all (bA3 λ_ _ _=>rfl)
 Go:=fH
 Gp:=mO X G
 Gq:= .all (bA3 λ_ _ _=>rfl)
 Gr:=fH
 Gs:=mO X G
 Gu:= .all (bA2 λ_ _=>rfl)
 Gv:=fH
 Gx:=mO X G
 Gy:= .all (bA3 λ_ _ _=>rfl)
 Gz:=fH
 G0:=mO X G
 G1:= .all (bA2 λ_ _=>rfl)
 G2:=fH
 G3:=mO X G
 G4:= .all (bA2 λ_ _=>rfl)
 G5:=fH
 G6:=mO X G
 G7:= .all (bA2 λ_ _=>rfl)
 G8:=fH
 G9:=mO X G
 Ha:= .all (bA2 λ_ _=>rfl)
 Hb:=fH
 Hc:=mO X G
 Hd:= .all (bA4 λ_ _ _ _=>rfl)
 He:=fH
 Hf:=mO X G
 Hg:= .all (bA2 λ_ _=>rfl)
 Hh:=fH
 Hi:=mO X G
 Hj:= .all (bA2 λ_ _=>rfl)
 Hk:=fH
 Hl:=mO X G
 Hm:= .all (bA1 λ_=>rfl)
 Hn:=fH
 Ho:=mO X G
 Hq:= .all (bA2 λ_ _=>rfl)
 Hr:=fH
 Ht:=mO X G
 Hu:= .all (bA2 λ_ _=>rfl)
 Hv:=fH
 Hw:=mO X G
 Hx:= .all (bA4 λ_ _ _ _=>rfl)
 Hy:=fH
 Hz:=mO X G
 Ia:= .all (bA1 λ_=>rfl)
 Ib:=fH
 Id:=mO X G
 Ie:= .all (bA1 λ_=>rfl)
 Ig:=fH
 Ih:=mO X G
 Ii:= .all (bA1 λ_=>rfl)
 Ij:=fH
 Ik:=mO X G
 Il:= .all (bA1 λ_=>rfl)
 Im:=fH
 Io:=mO X G
 Ip:= .all (bA1 λ_=>rfl)
 Iq:=fH
 Ir:=mO X G
 Iu:= .all (bA2 λ_ _=>rfl)
 Iw:=fH
 Ix:=mO X G
 Iy:= .all (bA2 λ_ _=>rfl)
 Iz:=fH
 I0:=mO X G
 I9:= .all (bA1 λ_=>rfl)
 Ja:=fH
 Jb:=mO X G
 Jc:= .all (bA1 λ_=>rfl)
 Jd:=fH
 Je:=mO X G
 Jf:= .all (bA1 λ_=>rfl)
 Jg:=fH
 Jh:=mO X G
 Ji:= .all (bA1 λ_=>rfl)
 Jj:=fH
 Jk:=mO X G
 Jl:= .all (bA2 λ_ _=>rfl)
 Jm:=fH
 Jn:=mO X G
 Jo:= .all (bA4 λ_ _ _ _=>rfl)
 Jp:=fH
 Jq:=⟨by kernel_rfl,by kernel_rfl,by kernel_rfl,by kernel_rfl⟩
 Jr:=Pg (sv:=[.kw 0]) (.kw .nil) rfl (by decide) λs us g a e f=>by obtain⟨c,d,i,rfl⟩:=lU3 e;obtain⟨j,rfl⟩:=lU1 f;exact .of_eq rfl
 Js:=fH
 Jt:=⟨by kernel_rfl,by kernel_rfl,by kernel_rfl⟩
 Ju:= .all (bA1 λ_=>rfl)
 Jv:=fH
 Jw:=⟨by kernel_rfl,by kernel_rfl,by kernel_rfl⟩
 Jx:= .all (bA3 λ_ _ _=>rfl)
 Jy:=fH
 Jz:=⟨by kernel_rfl,by kernel_rfl,by kernel_rfl⟩
 J0:= .all (bA1 λ_=>rfl)
 J1:=fH
 J2:=⟨by kernel_rfl,by kernel_rfl,by kernel_rfl⟩
 J3:= .all (bA1 λ_=>rfl)
 J4:=fH
 J5:=⟨by kernel_rfl,by kernel_rfl,by kernel_rfl⟩
 J6:= .all (bA3 λ_ _ _=>rfl)
 J7:=fH
 J8:=⟨by kernel_rfl,by kernel_rfl,by kernel_rfl⟩
 J9:= .all (bA1 λ_=>rfl)
 Ka:=⟨by kernel_rfl,by kernel_rfl,by kernel_rfl,by kernel_rfl⟩
 Kb:=mO X G
 Kc:=show Um (KH P) _ _=_ by kernel_rfl
 Kd:=show Um (KH P) _ _=_ by kernel_rfl
 Ke:=show Um (KH P) _ _=_ by kernel_rfl
 Kf:=show Um (KH P) _ _=_ by kernel_rfl
 Kg:=fH
 Kh:= .all (bA3 λ_ _ _=>rfl)
 Ki:=mO X G
 Kj:=⟨by kernel_rfl,by kernel_rfl,by kernel_rfl,by kernel_rfl⟩
theorem wlkH:PySem.W.WalkO qH loH (PySem.W.XL qH lvH) (PySem.W.Hook.says hkH) (Sn (SE QE)) (Option.get (PySem.W.defOf qH "law") rfl).1 [] (λf vs=>YF f vs):=
 L2.walk_of (n:=63) (k:=9) (x:="_law_script") (CX:=λw=>CXE _ w) (sp:=λw=>HY (KH w.params)) rfl (by decide) rfl ⟨rfl,by decide,by decide,rfl⟩ (λw h Y=>PySem.W.kIn_of Y) (λw mg i h c G b=>by
  have e:=b.symm.trans (mg_of c G (v:= .ref 540) (by kernel_rfl));cases e;exact⟨FN "law" "law" (top 69) .none .none .none (.str "law_edgetally_k27_whole_numbers_there_and_ba" 754) PM (.ref 539) .none,λs v=> .of_eq rfl,λbase _ _=>MA _ _ _ (a:=adH) (fH (by kernel_rfl) (by kernel_rfl) (by kernel_rfl)) (nH c G) λβ ok=>DN (K:=KH w.params) (a:=adH)  β ok⟩) (λ_ _ a ns d _ g=>⟨a,ns,rfl,g,d,λ_=>rfl⟩) λ_ _ _ _ _ h=>by obtain⟨x,C,j,_,fl⟩:=h;obtain⟨_,_,z⟩:=fl.wish;all_goals exact z
end
end Law
open PySem PySem.W PyProof.Rows
set_option maxHeartbeats 0 in
theorem PySem.Challenge.cw_edgetally_k27_whole_numbers_there_and_ba_holds : PySem.Challenge.rw_edgetally_k27_whole_numbers_there_and_ba.Holds := by
 w_on
 refine holds_law Law.wsH λsaid=>?_;refine holds_open (q:=Law.qH) (loose:=Law.loH) (Xt:=Law.xtH) (XP:=XL Law.qH Law.lvH) (Yf:=Hook.obs Law.hkH) (Ya:=Hook.val Law.hkH) (YP:=Hook.says Law.hkH) (N:=7778) Law.hlH (Hook.of Law.hkH) (Hook.keeps Law.hkH) (λs e=>xl_of s (Yg.mp e).1) XL.keeps (by rfl) (by rfl) (by rfl) (λs e=>recFacts_of (Yg.mp e).2) (by rfl) said Law.okH ⟨rfl,rfl,rfl,rfl,rfl,by decide +kernel⟩ ?hw ?hc
 case hw=>w_witness2
 exact Law.wlkH
