import PyProof.Rows.All
import Wide.All
import OpenK.AllK
import Wide.FinOn
import Lean
import PyProof.EqAt
import PyProof.EqKinds
import PyProof.TupleCall
import PyProof.NsDelKeeps
import PyProof.ListRange
import PyProof.ExcArgsOwn
import PySem.Challenge.RW_edgetally_k51_whole_pair_means_by_two_le
set_option Elab.async false
set_option linter.all false
set_option genSizeOf false
set_option compiler.extract_closed false
set_option bootstrap.genMatcherCode false
set_option maxHeartbeats 8000000
set_option maxRecDepth 100000
noncomputable section
open And renaming intro->Yw
open Array renaming length_toList->Ri,getElem?_eq_some_iff->RM,getD->Tl,getElem?_eq_none->TH,getElem?_toList->TZ,forIn_toList->Uu,getElem_toList->UQ,getElem?_eq_getElem->Vq,getElem?_extract->Yp,getElem?_push->Y1,append_assoc->Zc,size_extract->Zd,toList_push->ZB
open Bool renaming true->Qo,false->Qr,false_ne_true->Qx,false_eq_true->QS,and_eq_true->Q9,not_true->S7,and_self->UR,true_and->VO,eq_iff_iff->Wg,false_and->Wv,not_false->XW,and_eq_true_iff->Y2
open Classical renaming byContradiction->T5
open Decidable renaming byContradiction->Xf
open Except renaming ok->SE
open False renaming elim->S8
open ForIn renaming forIn->YT
open ForInStep renaming yield->VQ
open Function renaming comp->Vo
open Int renaming toNat_natCast->Sc,zero_add->UI,emod_nonneg->U5,emod_lt_of_pos->Vt,fdiv_eq_ediv_of_nonneg->Vu,natCast_add->Wq,natAbs_natCast->WV,le_refl->Zh
open List renaming length_map->Qi,mem_cons_of_mem->Qk,getElem?_eq_getElem->Ql,getD_eq_getElem?_getD->Qn,mem_cons_self->Qq,getElem?_map->Qu,range->Qy,map_cons->QB,mem_map->QC,mem_cons->QD,replicate->QE,map_map->QG,getElem?_eq_some_iff->QI,size_toArray->QO,length_cons->QP,sum_cons->QT,length_append->QV,mem_range->QW,mem_of_getElem?->Q1,length_set->Q3,mem_singleton->Q5,length_range->Q6,map_congr_left->Ra,nodup_cons->Rf,map_append->Rg,getElem_mem->Rp,mem_append_right->Rq,getElem?_set->Ru,length_singleton->Ry,append_nil->RJ,mem_append->RK,map_replicate->RY,sum->RZ,getElem?_range->R5,replicate_succ->R6,not_mem_nil->R7,pairwise_singleton->R8,append_assoc->Sa,flatMap_cons->Sb,zip_cons_cons->Sk,mem_filter->Sm,drop_eq_getElem_cons->Su,filterMap_cons->Sv,length_replicate->Sy,map->SA,ext_getElem->SH,getElem?_replicate->SI,mem_flatMap->SJ,drop_eq_nil_of_le->SL,getElem?_append_right->SM,find?_cons->SN,getElem_map->SQ,mem_replicate->SR,exists_cons_of_length_eq_add_one->SZ,take_of_length_le->S6,getElem_range->S9,getElem?_eq_none->Tc,pairwise_iff_getElem->Te,forIn_cons->Tg,flatten_cons->Ti,mem_append_left->Tj,all_eq_true->Tw,forIn_nil->Tx,map_flatMap->Tz,map_set->TK,zipWith->TL,nil_append->TX,range_succ->TY,take_append_drop->T3,length_take->Uf,take_length->Ug,getElem?_append_left->Uj,mem_or_eq_of_mem_set->Uk,pairwise_cons->Ux,flatMap_eq_nil_iff->Uz,length_eq_zero_iff->UA,nodup_append->UG,cons_append->UO,filter_cons->UP,map_drop->UT,lookup->U1,flatMap_append->U6,map_nil->Vd,set_set->Ve,mem_filterMap->Vp,getElem?_eq_none_iff->VC,length->VG,pairwise_map->VH,reverse_cons->VI,take_add_one->VJ,any_cons->VR,drop_length->V2,lookup_cons->V3,nodup_range->V4,map_const'->Wj,getElem?_toArray->Ws,getElem?_append->Wx,mem_of_mem_take->Wz,nodup_nil->WA,getElem_of_mem->WJ,length_zipWith->WK,all_cons->WN,map_take->WO,foldl->WT,map_inj_right->WU,zip_nil_left->W7,flatMap_map->Xg,length_nil->Xy,length_zip->Xz,of_mem_zip->XA,sum_append->XB,getElem?_take_of_lt->Yh,length_erase_of_mem->Yi,getElem?_cons_succ->Yr,getElem?_set_self->YB,length_pos_of_mem->YC,range_succ_eq_map->YD,getElem?_zipWith->YF,pairwise_flatMap->YG,getElem?_set_ne->Y5,getElem_reverse->Y6,map_id->Y7,mem_erase_of_ne->Y8,filter_sublist->Zi,length_reverse->Zj,getElem?_drop->ZD,any_eq_false->ZY,ext_getElem?->ZZ,foldl_append->Z0,take_sublist->Z3,zipWith_self->Z4
open List.Pairwise renaming nil->Wh
open List.Perm renaming of_eq->WW
open List.Sublist renaming refl->X6
open List.cons renaming injEq->TC,inj->Wr
open Min renaming min->V0
open Nat renaming le_trans->Qw,le_refl->Qz,lt_of_lt_of_le->QY,mul_assoc->Re,mul_left_comm->Rh,mul_comm->Rj,ne_of_lt->Rr,lt_irrefl->Rv,gcd->Rz,zero_le->RB,zero_add->RX,mul_le_mul->R9,le_add_right->Sg,lt_of_le_of_lt->Sn,pow_le_pow_right->SK,not_lt_zero->S3,div_le_self->Tk,add_comm->Tq,gcd_pos_of_pos_right->Tt,le_mul_of_pos_right->TD,ne_of_gt->TR,zero_mul->TU,lt_trichotomy->T6,add_mul->Ua,eq_of_mul_eq_mul_right->Ub,mul_add->Uc,mul_div_cancel_left->UD,mul_pos->UE,add_left_comm->UJ,add_assoc->U2,le_add_left->U7,lt_or_ge->Vi,lt_trans->Vj,mul_zero->Vk,sub_self->Vl,mul_right_comm->Vv,sub_le->Vw,le_succ->VS,lt_succ_of_lt->VT,add_sub_cancel_left->V7,lt_succ_self->V8,add_zero->Wl,le_of_lt->Wm,mod_lt->Wn,add_le_add->WB,pow_add->WC,add_sub_cancel->WX,eq_zero_or_pos->WY,gcd_dvd_right->Xb,lt_of_succ_lt->Xc,gcd_dvd_left->Xn,gcd_le_right->Xo,one_mul->XE,strongRecOn->XM,coprime_div_gcd_div_gcd->X0,div_eq_of_eq_mul_right->X7,eq_of_mul_eq_mul_left->Yj,div_div_eq_div_mul->YH,pow_succ->YI,mul_le_mul_right->Zk,mul_one->Zl,add_le_add_left->ZF,gcd_zero_right->Z5,pos_of_ne_zero->Z6
open Option renaming some->on,none->Qh,map_some->Sh,bind_some->UN,map_eq_some_iff->V5,isSome_iff_exists->X2,getD_none->ZG,getD_some->ZH
open Option.some renaming inj->Q7,injEq->Yk
open Or renaming inl->S5,inr->Ut
open Prod renaming ext->RW,ext_iff->TM
open Pure renaming pure->SY
open PyProof renaming noPylong_of_log2->XN
open PyProof.Rows renaming callWith_type1->Sd,seqObj->Ue,envOfC->UU,AllBare->VE,listUpdate_at->Wp,subscriptTail_builtinR->WG,assignInOrder_cons->Xp,IntsAre->YA,subscriptTail->Zy
open PyProof.Rows.IsTup renaming new->ZX
open PySem renaming wpAny_bind->My,wpAny_pure->Qj,Addr->Qs,Value->Qv,Shared->QA,starEach->QH,wpAny->QJ,sizeLine->QN,Obj->Q0,FuncData->Q2,model->Q4,Program->Rc,Str->Rl,World->Ro,wpAny_call_entry->Rt,wpAny_mono->Rw,SetTable->Rx,foldedSetIterable->RC,Around->RG,eval->RN,wpAny_newObj_type->RO,wpAny_truthy_bool->RP,Heap->RQ,Stmt->RT,compareOp->RV,mem_of_lookup->R0,wpAny_holding->R3,wpAny_field->Se,wpAny_setField_rec->Sf,Comprehension->Ss,cellsFrom->Sx,treeTable->SB,wpAny_setState_of->SC,wpAny_seqItems->SF,wpAny_standAt->SG,mainGlobals->SS,sizeLine_eq->SU,backTo->S4,wpAny_isInstance->Td,binaryOp->Th,wpAny_specialOf->Tu,wpAny_comprehension_free->TF,IsPair->TN,wpAny_typeNameOfWhole_itemiter->TV,wpAny_rule->T4,wpAny_passesOwn->T7,standAt->Uh,NameKind->Um,sliceBounds->Uq,wpAny_of_eq->Ur,DictEntry->Uv,bootBuiltins->Uw,wpAny_typeNameOf_itemiter->Uy,attributeBase->UF,codeAny->UH,firstArgMember->UV,holding->UW,pyNext->UX,rawInt->UY,wpAny_setField->UZ,cLine->U4,swapsWith->Vb,wpAny_askSetting->Vc,behindInMarks->Vg,wpAny_attempt->Vh,Pos->Vm,assign->VA,letOwnedTupleGo->VB,codeAny_mono->VN,IsItemIter->VU,Paired->VV,Fin->VX,isSubtype_type->VY,wpAny_Call_Name_kw->V1,IsZip->V9,OsState->Wa,keywordEach->Wb,wpAny_pyIter_list->We,wpAny_pyIter_slot->Wf,wpAny_forIn_list->Wu,assignEach->WD,intKind->WE,wpAny_isOneOf_itemiter->WH,wpAny_pyIter_rangeiter->WI,wpAny_execs_nil->WL,builtinLookup_eq_fast->WQ,isSubtype_tuple_tuple->WR,Within->WZ,pyIter->W2,wpAny_fieldsOf->W3,wpAny_updateSeq_pair->W4,getMethod->W8,wpAny_setEntries_of->Xe,atKey->Xi,wpAny_onRaise->Xj,call->Xq,isInstance->Xr,sysModules->Xs,wpAny_pyIter_tuple->Xu,wpAny_tupleItemsOf->Xv,Env->XH,Keyword->XJ,backToKw->XO,callerA->XQ,ofAClassStatement->XR,searchCouldBeSeen->XT,wpAny_assign_Name->XU,wpAny_dictEntries->XV,Params->X8,noFill_tuple_add->Yb,pickOrder->Yc,Draws->Yd,IsRangeIter->Yg,again->Yn,wpAny_letGo->Yo,codeAny_builtin->Yt,typeLookup_type->Yu,wpAny_dictEpoch->Yv,PyData->YJ,builtinsNs->YM,call_meets->YN,compPost->YQ,entryFor_alias->YR,entryOfKey->YS,intItems->YU,isSubtype_stop->YV,newFunctionEnv->YX,setField->YY,wpAny_newTuple->Y0,call->Zu,assignInOrder->Zv,evalPart_none->Zw,seq_tuple_add->Zx,wpAny_getItem_list_slice->Zz,wpAny_handled->ZA,PassesOwn->ZI,list_append->ZM,bindC->ZO,bindL->ZP,eqIsQuiet->ZQ,field->ZR,lastMarks->ZS,slicePick->ZT,BindsTo->ZU
open PySem.Around renaming under->WS,under_plainId->Yx
open PySem.Builtin.Dict renaming showsAll->Xk
open PySem.Builtin.Dict_items renaming ownsTuple->Us,ownedTupleFields->Vr,ownedTupleIsFree->Vs,pairFromOwner->VP
open PySem.Builtin.Int renaming intBits->XX
open PySem.Builtin.List renaming listTooLong->U3,listExtendWith->WM,listSameRef->W5
open PySem.Builtin.Range renaming rangeFitsLong->RU,rangeSize->W6
open PySem.Builtin.SmallTypes renaming nextOf->SD,ownedTupleIsFree->SO,ownedTupleHandOut->Vn,refuseKeywords->VF
open PySem.Builtin.Tuple renaming tupleHashOf->US
open PySem.Calls renaming callWith_builtin->V6,Name_function_global->XG,evalArgs_plain->YE,spliced_cons->Ze,spliced_nil->ZC
open PySem.Challenge renaming rw_edgetally_k51_whole_pair_means_by_two_le->Q8
open PySem.Code renaming isFrame->Yy
open PySem.Draws renaming list->Zf
open PySem.F renaming slot_dict_itemiterator_next->Sz,slot_tuple_iterator_next->Ui,args_tuple_add_2->Vx,slot_list_append->Vy,type_list_append->Vz,entry_tuple_add->VL,plainAttrs_list->VM,slot_tuple_add->VW,slot_zip_next->Ww,args_dict_itemiterator_next_1->Xw,entry_dict_itemiterator_next->XI,slot_dict_itemiterator_iter->XZ,plainAttrs_dict->X3,args_tuple_iterator_next_1->X5,entry_tuple_iterator_next->Ye,slot_dict_get->Yl,slot_dict_items_iter->Zg,args_list_append_2->ZV
open PySem.Heap renaming get?_push_of_some->Qm,get?_push_size->QK,lt_size->QZ,SameBut->Rb,size_push->Sj,get?_update_ne->Tv,get?_update_self->T1,ExtBut->Xl,get?_update_other->Yz,get?_none_of_le->Y3,get?_push_ne->ZW
open PySem.Heap.IsSliceOf renaming new->Xx
open PySem.Heap.SameBut renaming update->Si
open PySem.IntMulOk renaming of_bits->Y4
open PySem.IsTupleKey renaming typeIs->Yq
open PySem.Manifest renaming find?->ZE
open PySem.NameKind renaming free->Tf,cell->XD
open PySem.Obj renaming mapSeq->Sw,data_mapFields->SV,putSet->Wo,isFreed_of_fields->Wt,cls_mapFields->Xd
open PySem.P renaming add_list->Zo
open PySem.PyData renaming depth->T8,eqv->Vf,eqvAll->VD,depthAll->Xh,canLayAll0->Zn
open PySem.SeqAt renaming shaped->U9
open PySem.SetTable renaming fits->XF,fresh->ZN
open PySem.Str renaming ofString->SX,empty->Ul
open PySem.Value renaming ref->QU,none->RA,type->Ts,int->Ud,bool->WP,isInt_shape->W1,isInt->YL,str->Z9
open PySem.W renaming Frag->QR,fnOf->UB,segRun->UC,piecesOf->UK,findIn->UL,codeIn->U8,emptyDict->Va,keepIn->VZ,kia_one->Wc,kia_tup->Wd,instObj->W9,kitx_list->Xa,methodCall_KW->Ym,of_hideAll->YK,cellsFrom_some->YO,kitx_tuple->YW,topFrame->YZ,kitx_bool->Y9,kitx_none->Za,plainOver->Zb,handedIn->Zp,kitx_int->Zq,kitx_own->Zr,kitx_str->Zs,kp_binds->Zt,makesIn->ZJ,takesIn->ZK,topStub->ZL,kitAny->Z7,topRun->Z8
open PySem.W.OpenLaw renaming row->Ta
open PySem.W.OpenRow renaming toRowW->SW
open PySem.W.RowW renaming prog->X9
open PySem.W.WData renaming int->X4
open PySem.pickOrder renaming go->XS
open True renaming intro->T9
abbrev Qp:=@if_neg
abbrev Qt:=@if_pos
abbrev QL:=@decide_eq_true
abbrev QX:=@absurd
abbrev Rk:=@decide_eq_false
abbrev Rm:=@decide_eq_true_eq
abbrev RE:=@congrArg
abbrev RF:=@if_true
abbrev RH:=@if_false
abbrev RI:=@of_decide_eq_true
abbrev T0:=@bne_self_eq_false
abbrev Uo:=@beq_iff_eq
abbrev UM:=@or_false
abbrev WF:=@of_decide_eq_false
abbrev Ys:=@beq_eq_false_iff_ne
open PySem.W (Frag instObj methodObj hideAll hideAll_get hideAll_none lookIn plainGet hasDictIn findIn plainGet_of isFn takerIn emptyDict keepIn specialIn kitOne kia_one kitx_list kitx_tuple callWith_K cellsFrom_some mg_of kia_tup)
abbrev LI:=List (List Int)
abbrev LP:=List (List (Int×Int))
--CHANGE:your row's module here,as the last of these a_
namespace L2
open PySem PySem.Spec PyProof.Rows
inductive V where
 |non|bl (b:Bool)|int (i:Int)|str (x:Rl)|ref (a:Qs)|ty (n:String)
 deriving DecidableEq
def aL:V->Qv->Prop
 | .non,u=>u=RA
 | .bl b,u=>u=WP b
 | .int i,u=>∃t,u=Ud i t
 | .str x,u=>∃t,u=Z9 x t
 | .ref a,u=>u=QU a
 | .ty n,u=>u=Ts n
abbrev aw:List V->List Qv->Prop:=VV aL
theorem aw.length{xs:List V}{us:List Qv}(r:aw xs us):xs.length=us.length:=Paired.length r
theorem aw.get:∀{xs:List V} {us:List Qv} {i:Nat} {x:V},aw xs us->xs[i]?=on x->∃u,us[i]?=on u/\aL x u
 |_,_,_,_,.nil,e=>by simp at e
 |_,_,0,_,.cons r _,e=>by simp at e;subst e;exact⟨_,rfl,r⟩
 |_,_,i+1,x,.cons _ t,e=>by
  obtain⟨u,a,b⟩:=aw.get (i:=i) (x:=x) t (by simpa using e);exact⟨u,by simpa using a,b⟩
theorem aw.set(r:aL x u):∀{xs:List V} {us:List Qv} (i:Nat),aw xs us->aw (xs.set i x) (us.set i u)
 |_,_,_,.nil=> .nil
 |_,_,0,.cons _ t=> .cons r t
 |_,_,i+1,.cons q t=> .cons q (aw.set r i t)
theorem aw.append:∀{xs ys:List V} {us a:List Qv},aw xs us->aw ys a->aw (xs++ys) (us++a)
 |_,_,_,_,.nil,s=>s
 |_,_,_,_,.cons r t,s=> .cons r (aw.append t s)
theorem aw.take:∀{xs:List V} {us:List Qv} (n:Nat),aw xs us->aw (xs.take n) (us.take n)
 |_,_,0,_=> .nil
 |_,_,_+1,.nil=> .nil
 |_,_,n+1,.cons r t=> .cons r (aw.take n t)
theorem aw.drop:∀{xs:List V} {us:List Qv} (n:Nat),aw xs us->aw (xs.drop n) (us.drop n)
 |_,_,0,r=>r
 |_,_,_+1,.nil=> .nil
 |_,_,n+1,.cons _ t=>aw.drop n t
def ib:Option V->Option Qv->Prop
 |some v,on u=>aL v u
 |none,Qh=>True
 |_,_=>False
inductive HO where
 |lst (xs:List V)
 |tup (xs:List V)
 |ins (C dx:Qs) (fs:List (Rl×V))
 |own (x:Qs)
 |xd (fs:List (Rl×V))
 |met (f x:Qs)
 |rng (lo hi:Int)
 |frz (o:Q0) (u:HO)
 |tbl (ps:Array Qv)
 |ext (φ:RQ->Prop)
abbrev Hp:=Qs->Option HO
noncomputable def upd(H:Hp)(a:Qs)(o:HO):Hp:=λb=>if b=a then on o else H b
theorem ah:upd H a o a=on o:=by unfold upd;rw[Qt rfl]
theorem b_(h:b≠a):upd H a o b=H b:=by unfold upd;rw[Qp h]
theorem Pt{H:Hp}{a b:Qs}{o u:HO}(h:H a=on o)(h':H b=on u)(d:o≠u):a≠b:=by
 intro e;subst e;rw[h]at h';exact d (Q7 h')
theorem ay{H:Hp}{a b:Qs}{o:HO}(h:H a=on o)(h':H b=Qh):a≠b:=by
 intro e;subst e;rw[h]at h';cases h'
section
variable(P:Rc)(w:Ro)
def bD(P:Rc)(w:Ro)(H:Hp)(h:RQ)(a:Qs):HO->Prop
 | .lst xs=>xs.length<=QN/\∃(its:List Qv) (n:Nat),aw xs its/\h.get? a=on {cls:= .type "list",data:= .seq its.toArray n}
 | .tup xs=>xs.length<=QN/\∃its:List Qv,aw xs its/\IsTup h a its.toArray
 | .ins C dx fs=>H dx=on (.own a)/\fs.length<=1000/\dx≠a/\h.get? a=on (W9 C dx)/\
   ∃b,h.Ns1 dx b/\(∀f,ib (fs.lookup f) (b f))/\WZ b (fs.map (·.1))
 | .own _=>∃o,h.get? a=on o
 | .xd fs=>∃b,h.Ns1 a b/\∀f,ib (fs.lookup f) (b f)
 | .rng lo hi=>∃t u v,h.get? a=on {cls:= .type "range",data:= .fields #[.int lo t,.int hi u,.int 1 v]}
 | .frz o u=>h.get? a=on o/\bD P w H h a u
 | .tbl ps=>h.get? a=on {cls:= .none,data:= .fields ps}
 | .met f x=>h.get? a=on (methodObj (.ref f) (.ref x))
 | .ext φ=>φ h/\(∃o,h.get? a=on o)/\∀c d:RQ,φ c->(∀o,c.get? a=on o->d.get? a=on o)->φ d
def lc(H:Hp)(h:RQ):Prop:=∀a o,H a=on o->bD P w H h a o
end
section
variable{P:Rc}{w:Ro}{H H':Hp}{h h':RQ}{a:Qs}{o:HO}
theorem bD.lt(x:bD P w H h a o):a<h.objs.size:=by
 cases o with
 |lst xs=>obtain⟨_,_,_,_,e⟩:=x;exact QZ e
 |tup xs=>obtain⟨_,_,_,p⟩:=x;exact p.lt
 |ins C dx fs=>obtain⟨_,_,_,e,_⟩:=x;exact QZ e
 |own y=>obtain⟨_,e⟩:=x;exact QZ e
 |xd fs=>obtain⟨_,⟨_,_,_,e,_⟩,_⟩:=x;exact QZ e
 |rng lo hi=>obtain⟨_,_,_,e⟩:=x;exact QZ e
 |frz ob u=>obtain⟨e,_⟩:=x;exact QZ e
 |tbl ps=>exact QZ (show h.get? a=on _ from x)
 |met f y=>exact QZ (show h.get? a=on _ from x)
 |ext φ=>obtain⟨_,⟨_,e⟩,_⟩:=x;exact QZ e
theorem bD.stay(x:bD P w H h a o)(k:∀b u,(b=a\/H b=on (.own a))->h.get? b=on u->h'.get? b=on u)
  (l:∀b,H b=on (.own a)->H' b=on (.own a)) (A:∀b xs,H b=on (.tup xs)->H' b=on (.tup xs)):bD P w H' h' a o:=by
 induction o with
 |lst xs=>obtain⟨z,its,n,r,e⟩:=x;exact⟨z,its,n,r,k _ _ (.inl rfl) e⟩
 |tup xs=>obtain⟨z,its,r,g,e,c⟩:=x;exact⟨z,its,r,g,k _ _ (.inl rfl) e,c⟩
 |ins C dx fs=>
  obtain⟨d,z,ne,e,i,⟨j,es,ep,m,c⟩,r⟩:=x;exact⟨l _ d,z,ne,k _ _ (.inl rfl) e,i,⟨j,es,ep,k _ _ (.inr d) m,c⟩,r⟩
 |own y=>obtain⟨g,e⟩:=x;exact⟨g,k _ _ (.inl rfl) e⟩
 |xd fs=>obtain⟨i,⟨j,es,ep,e,c⟩,r⟩:=x;exact⟨i,⟨j,es,ep,k _ _ (.inl rfl) e,c⟩,r⟩
 |rng lo hi=>obtain⟨t,u,v,e⟩:=x;exact⟨t,u,v,k _ _ (.inl rfl) e⟩
 |frz g u ih=>obtain⟨e,q⟩:=x;exact⟨k _ _ (.inl rfl) e,ih q⟩
 |tbl ps=>
  have e:h.get? a=on {cls:= .none,data:= .fields ps}:=x;show h'.get? a=on {cls:= .none,data:= .fields ps};exact k a _ (.inl rfl) e
 |met f y=>
  have e:h.get? a=on (methodObj (.ref f) (.ref y)):=x;show h'.get? a=on (methodObj (.ref f) (.ref y));exact k a _ (.inl rfl) e
 |ext φ=>obtain⟨p,⟨o,e⟩,st⟩:=x;exact⟨st _ _ p λo q=>k _ _ (.inl rfl) q,⟨o,k _ _ (.inl rfl) e⟩,st⟩
theorem lc.lt(x:lc P w H h)(e:H a=on o):a<h.objs.size:=(x a o e).lt
theorem lc.fresh(x:lc P w H h)(e:h.objs.size<=a):H a=Qh:=by
 cases q:H a with
 |none=>rfl
 |some u=>exact QX (QY (x.lt q) e) (Rv _)
theorem lc.kept(x:lc P w H h)(k:∀b u,h.get? b=on u->h'.get? b=on u):lc P w H h':=λa o e=>
 (x a o e).stay (λb u _ q=>k b u q) (λ_ q=>q) λ_ _ q=>q
theorem lc.laid(x:lc P w H h)(k:∀b u,h.get? b=on u->h'.get? b=on u)(f:h.objs.size<=a)(new:bD P w (upd H a o) h' a o):lc P w (upd H a o) h':=λb u e=>by
 have hn:=x.fresh f;by_cases d:b=a
 .subst d;rw[ah]at e;cases e;exact new
 .rw[b_ d]at e
  exact(x b u e).stay (λc v _ q=>k c v q) (λc q=>by rw[b_ (ay q hn)];exact q) λc xs q=>by rw[b_ (ay q hn)];exact q
def Rd(H:Hp)(a:Qs)(u:HO):Prop:=H a=on u\/∃o,H a=on (.frz o u)
theorem Rd.ok{P:Rc}{w:Ro}{H:Hp}{h:RQ}{a:Qs}(r:Rd H a u)(x:lc P w H h):bD P w H h a u:=by
 rcases r with r|⟨o,r⟩
 .exact x a u r
 .obtain⟨_,q⟩:=x a _ r
  exact q
def Mut:Option HO->Prop
 |some (.lst _)=>True
 |some (.ins _ _ _)=>True
 |some (.ext _)=>True
 |_=>False
variable{x e:Qs}{o':HO}
theorem lc.write(ok:lc P w H h)(mu:Mut (H x))(l:e=x\/H e=on (.own x))(k:∀b u,b≠e->h.get? b=on u->h'.get? b=on u)(j:∃u,h'.get? e=on u)
  (new:bD P w (upd H x o') h' x o'):lc P w (upd H x o') h':=λb u q=>by
 have f:∀c y,H c=on (.own y)->c≠x:=λc y r z=>by subst z;rw[r]at mu;exact mu
 have g:∀c xs,H c=on (.tup xs)->c≠x:=λc xs r z=>by subst z;rw[r]at mu;exact mu
 by_cases i:b=x
 .subst i;rw[ah]at q;cases q;exact new
 .rw[b_ i]at q
  by_cases d:b=e
  .have m:H b=on (.own x):=by
    rcases l with z|z
    .exact QX (d.trans z) i
    .rw[d];exact z
   rw[q]at m;cases m;obtain⟨v,n⟩:=j;exact⟨v,by rw[d];exact n⟩
  .refine(ok b u q).stay (λc v hc r=>k c v ?_ r) (λc r=>by rw[b_ (f c b r)];exact r) λc xs r=>by rw[b_ (g c xs r)];exact r
   rcases hc with rfl|hc
   .exact d
   .rintro rfl
    rcases l with z|z
    .exact f c b hc z
    .rw[hc]at z;cases z;exact i rfl
structure Un (fs ex:List Qs) (H H':Hp) (h h':RQ):Prop where
 keep:∀b o,h.get? b=on o->H b=Qh->b∉fs->b∉ex->h'.get? b=on o
 slot:∀b o,h.get? b=on o->H b=Qh->b∈fs->b∉ex->∃sl,h'.get? b=on {o with slots:=sl}
 free:∀b o,h.get? b=on o->H b=Qh->b∉ex->H' b=Qh
 there:∀b o,h.get? b=on o->b∉ex->∃o',h'.get? b=on o'
 tups:∀b xs,H b=on (.tup xs)->H' b=on (.tup xs)
 frzs:∀b o u,H b=on (.frz o u)->H' b=on (.frz o u)
 tbls:∀b ps,H b=on (.tbl ps)->∃more,H' b=on (.tbl (ps++more))
variable{fs fs' ex ex':List Qs}{H1 H2:Hp}{h1 h2:RQ}
theorem Un.any(u:Un fs ex H H1 h h1)(q:h.get? b=on ob)(n:H b=Qh)(c:b∉ex):∃sl,h1.get? b=on {ob with slots:=sl}:=by
 by_cases d:b∈fs
 .exact u.slot b ob q n d c
 .exact⟨ob.slots,u.keep b ob q n d c⟩
theorem Un.trans(a:Un fs ex H H1 h h1)(b:Un fs ex H1 H2 h1 h2):Un fs ex H H2 h h2 where
 keep:=λc d q n hc f=>b.keep c d (a.keep c d q n hc f) (a.free c d q n f) hc f
 slot:=λc d q n hc f=>by
  obtain⟨sl,g⟩:=a.slot c d q n hc f;obtain⟨i,j⟩:=b.slot c _ g (a.free c d q n f) hc f;exact⟨i,j⟩
 free:=λc d q n f=>by
  obtain⟨o',g⟩:=a.there c d q f;exact b.free c o' g (a.free c d q n f) f
 there:=λc d q f=>by
  obtain⟨o',g⟩:=a.there c d q f;exact b.there c o' g f
 tups:=λc xs q=>b.tups c xs (a.tups c xs q)
 frzs:=λc d xs q=>b.frzs c d xs (a.frzs c d xs q)
 tbls:=λc ps q=>by
  obtain⟨m1,g⟩:=a.tbls c ps q;obtain⟨m2,j⟩:=b.tbls c _ g;exact⟨m1++m2,by rw[j,Zc]⟩
theorem Un.kept(k:∀b u,h.get? b=on u->h'.get? b=on u):Un fs ex H H h h':=
 ⟨λb c q _ _ _=>k b c q,λb c q _ _ _=>⟨c.slots,k b c q⟩,λ_ _ _ n _=>n,λb c q _=>⟨c,k b c q⟩,λ_ _ q=>q,λ_ _ _ q=>q,λ_ ps q=>⟨#[],by rw[q];simp⟩⟩
theorem Un.refl:Un fs ex H H h h:=Un.kept λ_ _ q=>q
theorem Un.laid(k:∀b u,h.get? b=on u->h'.get? b=on u)(c:h.objs.size<=a)(hn:H a=Qh):Un fs ex H (upd H a o) h h' where
 keep:=λb u q _ _ _=>k b u q
 slot:=λb u q _ _ _=>⟨u.slots,k b u q⟩
 free:=λb u q n _=>by rw[b_ (Rr (QY (QZ q) c))];exact n
 there:=λb u q _=>⟨u,k b u q⟩
 tups:=λb xs q=>by rw[b_ (ay q hn)];exact q
 frzs:=λb u xs q=>by rw[b_ (ay q hn)];exact q
 tbls:=λb ps q=>⟨#[],by rw[b_ (ay q hn),q];simp⟩
theorem Un.write(mu:Mut (H x))(i:e=x\/H e=on (.own x))(k:∀b u,b≠e->h.get? b=on u->h'.get? b=on u)(d:∃u,h'.get? e=on u):Un fs ex H (upd H x o) h h':=by
 have f:∀b,H b=Qh->b≠x:=λb n z=>by subst z;rw[n]at mu;exact mu
 have g:∀b,H b=Qh->b≠e:=λb n z=>by
  subst z;rcases i with r|r
  .exact f b n r
  .rw[n]at r;cases r
 have hm:∀b u,H b=on u->¬Mut (on u)->b≠x:=λb u q j z=>by subst z;rw[q]at mu;exact j mu
 refine⟨λb u q n _ _=>k b u (g b n) q,λb u q n _ _=>⟨u.slots,k b u (g b n) q⟩,λb u q n _=>by rw[b_ (f b n)];exact n,λb u q _=>?_,
  λb xs q=>by rw[b_ (hm b _ q λz=>z)];exact q,λb u xs q=>by rw[b_ (hm b _ q λz=>z)];exact q,λb ps q=>⟨#[],by rw[b_ (hm b _ q λz=>z),q];simp⟩⟩
 by_cases c:b=e
 .subst c;exact d
 .exact⟨u,k b u c q⟩
theorem Un.mono(u:Un fs ex H H1 h h1)(hs:∀b∈fs,b∈fs')(f:∀b∈ex,b∈ex'):Un fs' ex' H H1 h h1:=
 ⟨λb d q n g c=>u.keep b d q n (λz=>g (hs b z)) λz=>c (f b z),λ_ _ q n _ c=>u.any q n λz=>c (f _ z),λb d q n c=>u.free b d q n λz=>c (f b z),λb d q c=>u.there b d q λz=>c (f b z),u.tups,u.frzs,u.tbls⟩
noncomputable def trk(h:RQ)(H:Hp):List Qs:=(Qy h.objs.size).filter λa=>(H a).isSome
noncomputable def kP(h:RQ)(H:Hp):RQ:=hideAll h (trk h H)
theorem BC(h:RQ)(H:Hp):(kP h H).objs.size=h.objs.size:=PySem.W.hideAll_size _ _
theorem FE{h:RQ}{H:Hp}{o:Q0}(e:h.get? b=on o)(n:H b=Qh):(kP h H).get? b=on o:=
 hideAll_get _ e λhm=>by
  have q:(H b).isSome=Qo:=(Sm.mp hm).2;rw[n]at q;simp at q
theorem K3{h:RQ}{H:Hp}{o:Q0}(e:(kP h H).get? b=on o):h.get? b=on o/\H b=Qh:=by
 have c:h.get? b=on o:=YK (trk h H) e;refine⟨c,?_⟩;cases q:H b with
 |none=>rfl
 |some x=>
  have hm:b∈trk h H:=Sm.mpr ⟨QW.mpr (QZ c),by simp[q]⟩;have z:(kP h H).get? b=Qh:=hideAll_none (trk h H) hm;rw[z]at e;cases e
structure Mod (K:QR) (mg:Rl->Option Qv) (base:RQ):Prop where
 kin:K.In base
 glob:base.Ns SS mg
 blt:∃mb,base.Ns YM mb/\∀x:Rl,x≠"__name__"->mb x=Uw x
 nolimit:base.NoLimit
structure Cx where
 prog:Rc
 w:Ro
 K:QR
 mg:Rl->Option Qv
 base:RQ
 A:RG
 N:List Rl
 s₀:QA
 H₀:Hp
 env:XH
 outer:List XH
 stack:List XH
 ex:List Qs
 fn:Rl->Bool
 calm:Bool
 pn:List (Qs×Q0)
 xe:Qv->QA->Prop
noncomputable def hE(l:List XH):List Qs:=l.filterMap (·.frame)
end
noncomputable abbrev Cx.fs(X:Cx):List Qs:=hE X.outer
def Vis(a:Scope)(x:Rl):Prop:=a.names.lookup x=on .local\/a.names.lookup x=on .cell\/a.names.lookup x=on .free
def y3(a:Scope)(x:Rl):Prop:=a.names.lookup x=on .local\/a.names.lookup x=on .cell
def Look(env:XH)(h:RQ)(m:Rl->Option Qv)(x:Rl)(u:Qv):Prop:=
 (env.kindOf x=on .local/\m x=on u)\/((env.kindOf x=on .cell\/env.kindOf x=on .free)/\∃c,env.cells.lookup x=on c/\h.IsCell c (on u))
structure Cx.Ok (X:Cx):Prop where
 mod:Mod X.K X.mg X.base
 kind:X.env.scope.kind= .function
 glob:X.env.globals=SS
 blt:X.env.builtins=YM
 above:X.s₀.heap.objs.size<=X.env.locals
 inj:∀x y c,X.env.cells.lookup x=on c->X.env.cells.lookup y=on c->x=y
 has:∀x,(X.env.kindOf x=on .cell\/X.env.kindOf x=on .free)->∃c,X.env.cells.lookup x=on c
 cab:∀x c,X.fn x=Qo->X.env.cells.lookup x=on c->X.s₀.heap.objs.size<=c
 hd:X.calm=Qo->X.A.handled=Qh
 frames:X.A.frames=on X.stack
 stk:X.stack=X.outer\/(X.stack=X.env::X.outer/\X.env.frame=on X.env.locals)
 exf:∀b∈X.ex,b≠X.env.locals/\∀x c,X.env.cells.lookup x=on c->c≠b
 bs:∀b o,X.base.get? b=on o->X.s₀.heap.get? b=on o/\X.H₀ b=Qh
 bsz:X.base.objs.size<=X.s₀.heap.objs.size
 noex:∀b o,X.base.get? b=on o->b∉X.ex
 exfs:∀b∈X.ex,b∉X.fs
 funs:X.s₀.heap.FunFrames X.base X.outer
 frf:∀b∈X.fs,X.H₀ b=Qh
structure c4 (X:Cx) (ba:List (Qs×Q0)) (σ:List (Option V)) (H:Hp) (s:QA):Prop where
 ok:X.Ok
 os:s.os=X.s₀.os
 bare:VE s.gens
 base:Un X.fs X.ex X.H₀ H X.s₀.heap s.heap
 loc:∃m,s.heap.Ns X.env.locals m/\∀(i:Nat) (x:Rl) (v:V),X.N[i]?=on x->σ[i]?=on (on v)->Vis X.env.scope x->∃u,aL v u/\Look X.env s.heap m x u
 cell:∀x c,X.env.cells.lookup x=on c->∃v,s.heap.IsCell c v
 free:H X.env.locals=Qh
 freeC:∀x c,X.env.cells.lookup x=on c->H c=Qh
 pin:∀p∈X.pn++ba,s.heap.get? p.1=on p.2/\H p.1=Qh/\p.1≠X.env.locals/\p.1∉X.fs/\∀v,p.2.data≠ .cell v
 hok:lc X.prog X.w H s.heap
 len:σ.length=X.N.length
section
variable{X:Cx}{ba:List (Qs×Q0)}{σ:List (Option V)}{H H':Hp}{s:QA}{h':RQ}
theorem Cx.Ok.nofr(ok:X.Ok)(e:X.base.get? b=on o):b∉X.fs:=λa=>by
 have:=(ok.funs.mem a).1;rw[e]at this;cases this
theorem c4.bs(I:c4 X ba σ H s):∀b o,X.base.get? b=on o->s.heap.get? b=on o/\H b=Qh:=λb o e=>
 ⟨I.base.keep b o (I.ok.bs b o e).1 (I.ok.bs b o e).2 (I.ok.nofr e) (I.ok.noex b o e),I.base.free b o (I.ok.bs b o e).1 (I.ok.bs b o e).2 (I.ok.noex b o e)⟩
theorem c4.bk(I:c4 X ba σ H s):∀b o,X.base.get? b=on o->s.heap.get? b=on o:=λb o e=>(I.bs b o e).1
theorem c4.mod(I:c4 X ba σ H s):Mod X.K X.mg X.base:=I.ok.mod
theorem c4.kIn(I:c4 X ba σ H s):X.K.In s.heap:=I.ok.mod.kin.keeps I.bk
theorem c4.lt(I:c4 X ba σ H s):X.env.locals<s.heap.objs.size:=let ⟨_,hn,_⟩:=I.loc;hn.lt
theorem c4.sz(I:c4 X ba σ H s):X.s₀.heap.objs.size<=s.heap.objs.size:=Qw I.ok.above (Wm I.lt)
theorem c4.nofs(I:c4 X ba σ H s){a:Qs}(h:s.heap.objs.size<=a):a∉X.fs:=λb=>by
 obtain⟨_,o,c,_⟩:=I.ok.funs.mem b;exact QX (QY (QZ c) (Qw I.sz h)) (Rv _)
theorem c4.cne(I:c4 X ba σ H s):∀x c,X.env.cells.lookup x=on c->c≠X.env.locals:=λx c e z=>by
 obtain⟨v,o,d,hd⟩:=I.cell x c e;obtain⟨m,⟨f,es,ep,a,b,_⟩,_⟩:=I.loc;rw[z,a]at d;cases d;rw[b]at hd;cases hd
theorem c4.funs(I:c4 X ba σ H s):s.heap.FunFrames X.base X.outer:=by
 have all:∀(l:List XH),(∀b∈hE l,b∈X.fs)->X.s₀.heap.FunFrames X.base l->s.heap.FunFrames X.base l:=by
  intro l
  induction l with
  |nil=>intro _ _;trivial
  |cons env r ih=>
   intro hs f;obtain⟨g,⟨L,o,a,hn,h,hd⟩,i⟩:=f;have c:L∈X.fs:=hs L (by unfold hE;rw[Sv,a];exact Qq);obtain⟨sl,e⟩:=I.base.slot L o h (I.ok.frf L c) c λz=>I.ok.exfs L z c;exact⟨g,⟨L,_,a,hn,e,hd⟩,ih (λb d=>hs b (by unfold hE;rw[Sv,a];exact Qk _ d)) i⟩
 exact all X.outer (λ_ d=>d) I.ok.funs
theorem c4.stack(I:c4 X ba σ H s):s.heap.FunFrames X.base X.stack:=by
 rcases I.ok.stk with e|⟨e,a⟩
 .rw[e];exact I.funs
 .rw[e]
  obtain⟨m,hn,_⟩:=I.loc;refine .cons (by rw[I.ok.kind];decide) a hn ?_ I.funs;exact Y3 (Qw I.ok.bsz I.ok.above)
theorem c4.stkSub(I:c4 X ba σ H s):∀b∈hE X.stack,b∈X.env.locals::X.fs:=λb a=>by
 rcases I.ok.stk with e|⟨e,c⟩
 .rw[e]at a;exact Qk _ a
 .rw[e]at a
  unfold hE at a;rw[Sv,c]at a;exact a
theorem c4.stkFree(I:c4 X ba σ H s):∀b∈hE X.stack,H b=Qh:=λb hb=>by
 rcases QD.mp (I.stkSub b hb)with e|hb
 .rw[e];exact I.free
 .obtain⟨_,o,a,_⟩:=I.ok.funs.mem hb
  exact I.base.free b o a (I.ok.frf b hb) λz=>I.ok.exfs b z hb
theorem c4.step{ch:List Qs}(I:c4 X ba σ H s)
  (f:∀b∈ch,(b∈X.ex\/X.s₀.heap.objs.size<=b)/\b≠X.env.locals/\(∀x c,X.env.cells.lookup x=on c->c≠b)/\∀p∈X.pn++ba,p.1≠b)
  (keep:∀b o,b≠X.env.locals->b∉X.fs->b∉ch->s.heap.get? b=on o->H b=Qh->h'.get? b=on o)
  (slot:∀b o,b≠X.env.locals->b∈X.fs->b∉ch->s.heap.get? b=on o->H b=Qh->∃sl,h'.get? b=on {o with slots:=sl}) (free:∀b o,b∉ch->s.heap.get? b=on o->H b=Qh->H' b=Qh)
  (there:∀b o,b∉ch->s.heap.get? b=on o->∃B,h'.get? b=on B)
  (tups:∀b xs,H b=on (.tup xs)->H' b=on (.tup xs)) (frzs:∀b o u,H b=on (.frz o u)->H' b=on (.frz o u)) (tbls:∀b ps,H b=on (.tbl ps)->∃more,H' b=on (.tbl (ps++more)))
  (ns:∀m,s.heap.Ns X.env.locals m->h'.Ns X.env.locals m) (hok:lc X.prog X.w H' h') (N:VE g'):
  c4 X ba σ H' {s with heap:=h',gens:=g',drawn:=d',toks:=t'}:=by
 have C:∀b o,X.s₀.heap.get? b=on o->b≠X.env.locals:=λb o e=>Rr (QY (QZ e) I.ok.above);have j:∀b o,X.s₀.heap.get? b=on o->b∉X.ex->b∉ch:=λb o e a y=>by
  rcases(f b y).1 with z|z
  .exact a z
  .exact QX (QY (QZ e) z) (Rv _)
 have g:∀x c,X.env.cells.lookup x=on c->∀v,s.heap.IsCell c v->h'.IsCell c v:=λx c e v ⟨o,A,hd⟩=>by
  have h:c∉ch:=λz=>(f c z).2.2.1 x c e rfl;by_cases hc:c∈X.fs
  .obtain⟨sl,q⟩:=slot c o (I.cne x c e) hc h A (I.freeC x c e)
   exact⟨_,q,hd⟩
  .exact⟨o,keep c o (I.cne x c e) hc h A (I.freeC x c e),hd⟩
 refine⟨I.ok,I.os,N,⟨λb o e n y a=>?_,λb o e n y a=>?_,λb o e n a=>?_,λb o e a=>?_,λb xs e=>tups b xs (I.base.tups b xs e),λb o xs e=>frzs b o xs (I.base.frzs b o xs e),λb ps e=>?_⟩,?_,λx c e=>?_,?_,λx c e=>?_,λp L=>?_,hok,I.len⟩
 .exact keep b o (C b o e) y (j b o e a) (I.base.keep b o e n y a) (I.base.free b o e n a)
 .obtain⟨sl,t⟩:=I.base.slot b o e n y a
  obtain⟨J,F⟩:=slot b _ (C b o e) y (j b o e a) t (I.base.free b o e n a);exact⟨J,F⟩
 .obtain⟨B,t⟩:=I.base.there b o e a
  exact free b B (j b o e a) t (I.base.free b o e n a)
 .obtain⟨B,t⟩:=I.base.there b o e a
  exact there b B (j b o e a) t
 .obtain⟨m1,t⟩:=I.base.tbls b ps e
  obtain⟨m2,F⟩:=tbls b _ t;exact⟨m1++m2,by rw[F,Zc]⟩
 .obtain⟨m,hn,O⟩:=I.loc
  refine⟨m,ns m hn,λi x v t F P=>?_⟩;obtain⟨u,r,l⟩:=O i x v t F P;refine⟨u,r,?_⟩;rcases l with l|⟨k,c,e,z⟩
  .exact .inl l
  .exact .inr ⟨k,c,e,g x c e _ z⟩
 .obtain⟨v,z⟩:=I.cell x c e
  exact⟨v,g x c e v z⟩
 .obtain⟨m,⟨o,_,_,A,_⟩,_⟩:=I.loc
  exact free _ o (λz=>(f _ z).2.1 rfl) A I.free
 .obtain⟨v,o,A,hd⟩:=I.cell x c e
  exact free c o (λz=>(f c z).2.2.1 x c e rfl) A (I.freeC x c e)
 .obtain⟨e,n,ne,nf,d⟩:=I.pin p L
  have h:p.1∉ch:=λz=>(f p.1 z).2.2.2 p L rfl;exact⟨keep p.1 p.2 ne nf h e n,free p.1 p.2 h e n,ne,nf,d⟩
theorem c4.un(I:c4 X ba σ H s)(u:Un X.fs [] H H' s.heap h')(hok:lc X.prog X.w H' h'):c4 X ba σ H' {s with heap:=h',toks:=t'}:=by
 obtain⟨m,⟨o,es,ep,g,r⟩,_⟩:=id I.loc;obtain⟨sl,h⟩:=u.any g I.free (by simp);exact I.step (g':=s.gens) (d':=s.drawn) (ch:=[]) (λ_ z=>nomatch z) (λb o _ c _ e n=>u.keep b o e n c (by simp)) (λb o _ c _ e n=>u.slot b o e n c (by simp)) (λb o _ e n=>u.free b o e n (by simp)) (λb o _ e=>u.there b o e (by simp)) u.tups u.frzs u.tbls (λj hm=>by
  obtain⟨k,d,f,a,i⟩:=hm;rw[g]at a;cases a;exact⟨_,d,f,h,i⟩) hok I.bare
theorem c4.call{ch:List Qs}(I:c4 X ba σ H s)(u:Un (hE X.stack) ch H H' s.heap h')(hok:lc X.prog X.w H' h')(j:VE g')
  (a:∀b∈ch,(b∈X.ex\/X.s₀.heap.objs.size<=b)/\b≠X.env.locals/\(∀x c,X.env.cells.lookup x=on c->c≠b)/\∀p∈X.pn++ba,p.1≠b):
  c4 X ba σ H' {s with heap:=h',gens:=g',drawn:=d',toks:=t'}:=by
 obtain⟨m,⟨o,es,ep,i,r⟩,_⟩:=id I.loc;obtain⟨sl,f⟩:=u.any i I.free λz=>(a _ z).2.1 rfl;exact I.step (ch:=ch) a (λb o f k hc e n=>u.keep b o e n (λz=>(QD.mp (I.stkSub b z)).elim f k) hc) (λb o _ _ hc e n=>u.any e n hc) (λb o hc e n=>u.free b o e n hc) (λb o hc e=>u.there b o e hc) u.tups u.frzs u.tbls (λq hm=>by
  obtain⟨t,g,h,d,l⟩:=hm;rw[i]at d;cases d;exact⟨_,g,h,f,l⟩) hok j
theorem c4.turned(I:c4 X ba σ H s)(k:∀b o,b≠it->s.heap.get? b=on o->h'.get? b=on o)(hn:H it=Qh)(d:it≠X.env.locals)
  (f:it∈X.ex\/X.s₀.heap.objs.size<=it) (g:∀x c,X.env.cells.lookup x=on c->c≠it) (h:∀p∈X.pn++ba,p.1≠it):c4 X ba σ H {s with heap:=h',toks:=t'}:=by
 have a:∀b u,H b=on u->b≠it:=λb u e z=>by rw[z,hn]at e;cases e
 refine I.step (g':=s.gens) (d':=s.drawn) (ch:=[it]) (λb i=>?_) (λb o _ _ hc e _=>k b o (λz=>hc (by simp[z])) e) (λb o _ _ hc e _=>⟨o.slots,k b o (λz=>hc (by simp[z])) e⟩) (λ_ _ _ _ n=>n)
  (λb o hc e=>⟨o,k b o (λz=>hc (by simp[z])) e⟩) (λ_ _ e=>e) (λ_ _ _ e=>e) (λb ps e=>⟨#[],by rw[e];simp⟩) (λm hm=>?_) (λb u e=>?_) I.bare
 .have e:b=it:=by simpa using i
  subst e;exact⟨f,d,g,h⟩
 .obtain⟨o,es,ep,j,r⟩:=hm
  exact⟨o,es,ep,k _ o (Ne.symm d) j,r⟩
 .refine(I.hok b u e).stay (λc v hc q=>k c v ?_ q) (λ_ q=>q) λ_ _ q=>q
  rcases hc with z|z
  .rw[z];exact a b u e
  .exact a c _ z
theorem c4.tok(I:c4 X ba σ H s)(t:Nat):c4 X ba σ H {s with toks:=t}:=I.un (h':=s.heap) (t':=t) Un.refl I.hok
theorem c4.kept(I:c4 X ba σ H s)(k:∀b u,s.heap.get? b=on u->h'.get? b=on u):c4 X ba σ H {s with heap:=h',toks:=t'}:=I.un (Un.kept k) (I.hok.kept k)
theorem c4.laid{a:Qs}{o:HO}{t':Nat}(I:c4 X ba σ H s)(k:∀b u,s.heap.get? b=on u->h'.get? b=on u)(c:s.heap.objs.size<=a)(new:bD X.prog X.w (upd H a o) h' a o):
  c4 X ba σ (upd H a o) {s with heap:=h',toks:=t'}:=I.un (Un.laid k c (I.hok.fresh c)) (I.hok.laid k c new)
theorem c4.write(I:c4 X ba σ H s)(mu:Mut (H x))(c:e=x\/H e=on (.own x))(k:∀b u,b≠e->s.heap.get? b=on u->h'.get? b=on u)(a:∃u,h'.get? e=on u)
  (new:bD X.prog X.w (upd H x o) h' x o):c4 X ba σ (upd H x o) {s with heap:=h',toks:=t'}:=I.un (Un.write mu c k a) (I.hok.write mu c k a new)
theorem c4.pins_of(I:c4 X ba σ H s)(h:∀p∈pins',s.heap.get? p.1=on p.2/\H p.1=Qh/\p.1≠X.env.locals/\p.1∉X.fs/\∀v,p.2.data≠ .cell v):c4 X pins' σ H s:=
 ⟨I.ok,I.os,I.bare,I.base,I.loc,I.cell,I.free,I.freeC,λp a=>(RK.mp a).elim (λz=>I.pin p (Tj _ z)) (h p),I.hok,I.len⟩
theorem uz{N:List Rl}(c:N.Nodup){i j:Nat}{x:Rl}(a:N[i]?=on x)(b:N[j]?=on x):i=j:=by
 obtain⟨f,d⟩:=QI.mp a;obtain⟨g,e⟩:=QI.mp b;exact(List.getElem_inj c).mp (d.trans e.symm)
theorem lw{M:Model}{E:Qv->QA->Prop}(I:c4 X ba σ H s)(hN:X.N.Nodup)(O:X.N[i]?=on x)(l:y3 X.env.scope x)(r:aL v u)
  (h:∀s',c4 X ba (σ.set i (on v)) H s'->(∃a,Rb a s.heap s'.heap/\(a=X.env.locals\/X.env.cells.lookup x=on a))->Q () s') (hf:X.fn x=Qo\/X.env.scope.names.lookup x=on .local:=by first|exact .inl rfl|exact .inr rfl|assumption):QJ M A (storeName X.env x u) Q E s:=by
 obtain⟨m,hn,hl⟩:=id I.loc;have P:(X.env.scope.kind== .class||(X.env.scope.kind== .module&&X.env.locals !=X.env.globals))=Qr:=by rw[I.ok.kind];rfl
 have C:i<σ.length:=by rw[I.len];exact(QI.mp O).1
 have cne:=I.cne;have f:∀{a:Qs} {h':RQ},(∃o,s.heap.get? a=on o/\H a=Qh)->Rb a s.heap h'->lc X.prog X.w H h':=λ{a h'} ha hs b ob e=>by
  obtain⟨_,_,t⟩:=ha;refine(I.hok b ob e).stay (λc Y hc q=>(hs.2 c ?_).trans q) (λ_ q=>q) λ_ _ q=>q;rintro rfl;rcases hc with rfl|hc
  .rw[t]at e;cases e
  .rw[t]at hc;cases hc
 rcases l with hk|hk
 .refine wpAny_storeName_local hk hn (λh' hn' hs=>?_) P
  obtain⟨oL,_,_,hoL,_⟩:=id hn;refine h _ ⟨I.ok,I.os,I.bare,⟨λb o e n F l=>?_,λb o e n F l=>?_,I.base.free,λb o e l=>?_,I.base.tups,I.base.frzs,I.base.tbls⟩,⟨_,hn',λj y v' g B e3=>?_⟩,λy c e=>?_,I.free,I.freeC,λp hp=>?_,f ⟨oL,hoL,I.free⟩ hs,by simpa using I.len⟩ ⟨_,hs,.inl rfl⟩
  .exact(hs.2 b (Rr (QY (QZ e) I.ok.above))).trans (I.base.keep b o e n F l)
  .obtain⟨sl,g⟩:=I.base.slot b o e n F l
   exact⟨sl,(hs.2 b (Rr (QY (QZ e) I.ok.above))).trans g⟩
  .obtain⟨o',g⟩:=I.base.there b o e l
   exact⟨o',(hs.2 b (Rr (QY (QZ e) I.ok.above))).trans g⟩
  .by_cases J:j=i
   .subst J
    rw[O]at g;cases g;rw[YB C]at B;cases B;exact⟨u,r,.inl ⟨hk,by simp⟩⟩
   .rw[Y5 (Ne.symm J)]at B
    obtain⟨u',r',q⟩:=hl j y v' g B e3;refine⟨u',r',?_⟩;rcases q with⟨k,e⟩|⟨k,c,e,z⟩
    .refine .inl ⟨k,?_⟩
     have:y≠x:=λe=>J (uz hN g (e▸O));simp[this,e]
    .exact .inr ⟨k,c,e,z.sameBut hs (cne y c e)⟩
  .obtain⟨Y,z⟩:=I.cell y c e
   exact⟨Y,z.sameBut hs (cne y c e)⟩
  .obtain⟨e,n,ne,nf,d⟩:=I.pin p hp
   exact⟨(hs.2 p.1 ne).trans e,n,ne,nf,d⟩
 .have L:X.fn x=Qo:=by
   rcases hf with z|z
   .exact z
   .rw[z]at hk;cases hk
  obtain⟨c,hc⟩:=I.ok.has x (.inl hk);obtain⟨Y,z⟩:=I.cell x c hc;refine wpAny_storeName_cell I.ok.kind hk hc z (λh' R hs=>?_);obtain⟨oc,T,U⟩:=id z;refine h {s with heap:=h'} ⟨I.ok,I.os,I.bare,⟨λb o e n F l=>?_,λb o e n F l=>?_,I.base.free,λb o e l=>?_,I.base.tups,I.base.frzs,I.base.tbls⟩,⟨m,hn.sameBut hs (Ne.symm (cne x c hc)),λj y v' g B e3=>?_⟩,λy Z e=>?_,I.free,I.freeC,λp hp=>?_,f ⟨oc,T,I.freeC x c hc⟩ hs,by simpa using I.len⟩ ⟨c,hs,.inr hc⟩
  .exact(hs.2 b (Rr (QY (QZ e) (I.ok.cab x c L hc)))).trans (I.base.keep b o e n F l)
  .obtain⟨sl,g⟩:=I.base.slot b o e n F l
   exact⟨sl,(hs.2 b (Rr (QY (QZ e) (I.ok.cab x c L hc)))).trans g⟩
  .obtain⟨o',g⟩:=I.base.there b o e l
   exact⟨o',(hs.2 b (Rr (QY (QZ e) (I.ok.cab x c L hc)))).trans g⟩
  .by_cases J:j=i
   .subst J
    rw[O]at g;cases g;rw[YB C]at B;cases B;exact⟨u,r,.inr ⟨.inl hk,c,hc,R⟩⟩
   .rw[Y5 (Ne.symm J)]at B
    obtain⟨u',r',q⟩:=hl j y v' g B e3;refine⟨u',r',?_⟩;rcases q with q|⟨k,Z,e,z'⟩
    .exact .inl q
    .refine .inr ⟨k,Z,e,z'.sameBut hs ?_⟩
     rintro rfl;exact J (uz hN g (I.ok.inj _ _ _ e hc▸O))
  .by_cases W:Z=c
   .subst W;exact⟨_,R⟩
   .obtain⟨w2,z2⟩:=I.cell y Z e
    exact⟨w2,z2.sameBut hs W⟩
  .obtain⟨e,n,ne,nf,d⟩:=I.pin p hp
   refine⟨(hs.2 p.1 ?_).trans e,n,ne,nf,d⟩;intro q;rw[q,T]at e;have q':oc=p.2:=Q7 e;exact d Y (by rw[<-q'];exact U)
theorem iE{M:Model}{E:Qv->QA->Prop}(I:c4 X ba σ H s)(a:X.N.Nodup)(b:X.N[i]?=on x)(c:y3 X.env.scope x)(r:aL v u)
  (h:∀s',c4 X ba (σ.set i (on v)) H s'->Q () s') (d:X.fn x=Qo\/X.env.scope.names.lookup x=on .local:=by first|exact .inl rfl|exact .inr rfl|assumption):QJ M A (storeName X.env x u) Q E s:=
 lw I a b c r (λs' e _=>h s' e) d
theorem c4.call'{s':QA}{ch:List Qs}(I:c4 X ba σ H s)(d:s'.os=s.os)(u:Un (hE X.stack) ch H H' s.heap s'.heap)(hok:lc X.prog X.w H' s'.heap)(f:VE s'.gens)
  (a:∀b∈ch,(b∈X.ex\/X.s₀.heap.objs.size<=b)/\b≠X.env.locals/\(∀x c,X.env.cells.lookup x=on c->c≠b)/\∀p∈X.pn++ba,p.1≠b):c4 X ba σ H' s':=by
 obtain⟨h',g',d',t',g⟩:=s';have e:g=s.os:=d;subst e;exact I.call (g':=g') (t':=t') (d':=d') u hok f a
abbrev XK:=Qv->Option Qs->Hp->Prop
abbrev St:=List (Option V)
abbrev VK:=V->Hp->Prop
abbrev TE:=St->Hp->VK->Prop
abbrev TT:=St->Hp->(Bool->Hp->Prop)->Prop
abbrev TA:=St->Hp->(List V->Hp->Prop)->Prop
structure nC where
 nx:St->Hp->Prop
 rt:VK
 bk:St->Hp->Prop:=λ_ _=>False
 ct:St->Hp->Prop:=λ_ _=>False
abbrev TS:=nC->St->Hp->Prop
def EP(X:Cx)(ba:List (Qs×Q0))(σ:St)(Q:VK)(u:Qv)(s':QA):Prop:=∃v H',c4 X ba σ H' s'/\aL v u/\Q v H'
def TP(X:Cx)(ba:List (Qs×Q0))(σ:St)(Q:Bool->Hp->Prop)(b:Bool)(s':QA):Prop:=∃H',c4 X ba σ H' s'/\Q b H'
def AP(X:Cx)(ba:List (Qs×Q0))(σ:St)(Q:List V->Hp->Prop)(us:List Qv)(s':QA):Prop:=∃vs H',c4 X ba σ H' s'/\aw vs us/\Q vs H'
def SP(X:Cx)(ba:List (Qs×Q0))(D:nC)(f:Flow)(s':QA):Prop:=
 match f with
 | .next=>∃a H',c4 X ba a H' s'/\D.nx a H'
 | .brk=>∃a H',c4 X ba a H' s'/\D.bk a H'
 | .cont=>∃a H',c4 X ba a H' s'/\D.ct a H'
 | .ret u=>∃v a H',c4 X ba a H' s'/\aL v u/\D.rt v H'
def PE(X:Cx)(e:Expr)(t:TE):Prop:=
 ∀(ba:List (Qs×Q0)) (s:QA) (σ:St) (H:Hp) (Q:VK),c4 X ba σ H s->t σ H Q->QJ (Q4 X.prog X.w) X.A (RN e X.env) (EP X ba σ Q) X.xe s
def PT(X:Cx)(e:Expr)(t:TT):Prop:=
 ∀(ba:List (Qs×Q0)) (s:QA) (σ:St) (H:Hp) (Q:Bool->Hp->Prop),c4 X ba σ H s->t σ H Q->QJ (Q4 X.prog X.w) X.A (isTrue e X.env (RN e X.env)) (TP X ba σ Q) X.xe s
def PW(X:Cx)(e:Expr)(t:TT):Prop:=
 ∀(a:Sem Qv) (ba:List (Qs×Q0)) (s:QA) (σ:St) (H:Hp) (Q:Bool->Hp->Prop),c4 X ba σ H s->t σ H Q->QJ (Q4 X.prog X.w) X.A (isTrue e X.env a) (TP X ba σ Q) X.xe s
theorem PW.pt{X:Cx}(h:PW X e t):PT X e t:=h _
def PA(X:Cx)(es:List Expr)(t:TA):Prop:=
 ∀(pos:Vm) (ba:List (Qs×Q0)) (s:QA) (σ:St) (H:Hp) (Q:List V->Hp->Prop),c4 X ba σ H s->t σ H Q->QJ (Q4 X.prog X.w) X.A (spliced (S4 pos (QH es X.env))) (AP X ba σ Q) X.xe s
def PS(X:Cx)(st:RT)(t:TS):Prop:=
 ∀(ba:List (Qs×Q0)) (s:QA) (σ:St) (H:Hp) (D:nC),c4 X ba σ H s->t D σ H->QJ (Q4 X.prog X.w) X.A (exec st X.env) (SP X ba D) X.xe s
def PSs(X:Cx)(st:List RT)(t:TS):Prop:=
 ∀(ba:List (Qs×Q0)) (s:QA) (σ:St) (H:Hp) (D:nC),c4 X ba σ H s->t D σ H->QJ (Q4 X.prog X.w) X.A (execs st X.env) (SP X ba D) X.xe s
theorem en{α:Type}{t:Sem α}{Q b:α->QA->Prop}{M:Model}{A:RG}{E:Qv->QA->Prop}{s:QA}(h:QJ M A t Q E s)(c:∀a s,Q a s->b a s):QJ M A t b E s:=Rw h c λ_ _ x=>x
def kn(i:Nat):TE:=λσ H Q=>∃v,σ[i]?=on (on v)/\Q v H
def tC(v:V):TE:=λ_ H Q=>Q v H
theorem MH(f:X.N[i]?=on x)(g:Vis X.env.scope x)(hd:(x==("__debug__":Rl))=Qr:=by decide)(d:(x==("__classdict__":Rl))=Qr:=by decide):PE X (.Name x pos) (kn i):=by
 intro ba s σ H Q I h;obtain⟨v,e,h⟩:=h;obtain⟨m,hn,j⟩:=I.loc;obtain⟨u,r,l⟩:=j i x v f e g;have b:EP X ba σ Q u s:=⟨v,H,I,r,h⟩;rcases l with⟨hk,hm⟩|⟨hk,c,hc,a⟩
 .exact wpAny_Name (wpAny_loadName_local I.ok.kind hk hn hm b) hd
 .rcases hk with hk|hk
  .exact wpAny_Name (wpAny_loadName_cell I.ok.kind hk hc a b) hd
  .exact wpAny_Name (wpAny_loadName_free I.ok.kind hk hc a b d) hd
theorem bJ{i j pos}:PE X (.Constant (.int i) j pos) (tC (.int i)):=λ_ _ _ H _ I h=>wpAny_Constant_int ⟨.int i,H,I.tok _,⟨_,rfl⟩,h⟩
theorem Pj{b j pos}:PE X (.Constant (.bool b) j pos) (tC (.bl b)):=λ_ _ _ H _ I h=>Constant_bool ⟨.bl b,H,I,rfl,h⟩
theorem ML{j pos}:PE X (.Constant .none j pos) (tC .non):=λ_ _ _ H _ I h=>Constant_none ⟨.non,H,I,rfl,h⟩
def Gl(X:Cx)(x:Rl):Prop:=X.env.kindOf x=on .globalImplicit
theorem qx{E:Qv->QA->Prop}{ba:List (Qs×Q0)}{s:QA}{σ:St}{H:Hp}(I:c4 X ba σ H s)(a:Gl X x)(hm:X.mg x=on u)(h:Q u s)
  (hd:(x==("__debug__":Rl))=Qr:=by decide):QJ (Q4 X.prog X.w) X.A (RN (.Name x pos) X.env) Q E s:=
 XG I.ok.kind a (Calls.loadGlobal_global (by rw[I.ok.glob];exact I.mod.glob.keeps I.bk) hm h) hd
theorem fP{E:Qv->QA->Prop}{ba:List (Qs×Q0)}{s:QA}{σ:St}{H:Hp}(I:c4 X ba σ H s)(a:Gl X x)(hm:X.mg x=Qh)(b:Uw x=on u)(h:Q u s)
  (hn:x≠"__name__":=by decide) (hd:(x==("__debug__":Rl))=Qr:=by decide):QJ (Q4 X.prog X.w) X.A (RN (.Name x pos) X.env) Q E s:=by
 obtain⟨e,c,d⟩:=I.mod.blt;exact XG I.ok.kind a (Calls.loadGlobal_builtin (by rw[I.ok.glob];exact I.mod.glob.keeps I.bk) hm (by rw[I.ok.blt];exact c.keeps I.bk) ((d x hn).trans b) h) hd
theorem KU(a:Gl X x)(hm:X.mg x=on u)(r:aL v u)(hd:(x==("__debug__":Rl))=Qr:=by decide):PE X (.Name x pos) (tC v):=
 λ_ _ _ H _ I h=>qx I a hm ⟨v,H,I,r,h⟩ hd
theorem cU(a:Gl X x)(hm:X.mg x=Qh)(b:Uw x=on u)(r:aL v u)(hn:x≠"__name__":=by decide)(hd:(x==("__debug__":Rl))=Qr:=by decide):PE X (.Name x pos) (tC v):=
 λ_ _ _ H _ I h=>fP I a hm b ⟨v,H,I,r,h⟩ hn hd
variable{a b:Expr}{ta tb:TE}{pos:Vm}
variable{tA tB':TT}{rest:List Expr}
def tOr(t u:TT):TT:=λσ H Q=>t σ H λc d=>if c=Qo then Q Qo d else u σ d Q
def tNot(t:TT):TT:=λσ H Q=>t σ H λc d=>Q (!c) d
theorem Mz(ha:PT X a tA):PW X (.BoolOp .Or [a] pos) tA:=by
 intro d ba s σ H Q I h;refine isTrue_or (en (ha ba s σ H Q I h) λc f e=>?_);cases c with
 |false=>exact isTrue_or_nil e
 |true=>exact e
theorem Pf(ha:PT X a tA)(f:PW X (.BoolOp .Or (b::rest) pos) tB'):PW X (.BoolOp .Or (a::b::rest) pos) (tOr tA tB'):=by
 intro g ba s σ H Q I h;refine isTrue_or (en (ha ba s σ H _ I h) λc i ⟨d,e,q1⟩=>?_);cases c with
 |true=>exact⟨d,e,q1⟩
 |false=>exact f g ba i σ d Q e q1
theorem MC(ha:PT X a tA):PT X (.UnaryOp .Not a pos) (tNot tA):=by
 intro ba s σ H Q I h;exact isTrue_not (ha ba s σ H (λc d=>Q (!c) d) I h)
def O1(ta tb:TE):TE:=λσ H Q=>ta σ H λx d=>∃c,x= .bl c/\if c=Qo then tb σ d Q else Q (.bl Qr) d
theorem MK{op}(h:PE X a t):PE X (.BoolOp op [a] pos) t:=λba s σ H Q I c=>BoolOp_one (h ba s σ H Q I c)
theorem MN(ha:PE X a ta)(f:PE X (.BoolOp .And (b::rest) pos) tb):PE X (.BoolOp .And (a::b::rest) pos) (O1 ta tb):=by
 intro ba s σ H Q I h;refine BoolOp_and (en (ha ba s σ H _ I h) λv g ⟨x,d,e,r1,q1⟩=>?_);obtain⟨c,rfl,q1⟩:=q1;cases r1;refine RP ?_;cases c with
 |true=>exact f ba g σ d Q e q1
 |false=>exact⟨.bl Qr,d,e,rfl,q1⟩
def tIf(t:TT)(ta tb:TE):TE:=λσ H Q=>t σ H λc d=>if c=Qo then ta σ d Q else tb σ d Q
theorem DX(hc:PT X c tA)(ha:PE X a ta)(i:PE X b tb):PE X (.IfExp c a b pos) (tIf tA ta tb):=by
 intro ba s σ H Q I h;refine wpAny_IfExp (en (hc ba s σ H _ I h) λd e ⟨f,g,q1⟩=>?_);cases d with
 |true=>exact ha ba e σ f Q g q1
 |false=>exact i ba e σ f Q g q1
def f0(K:QR)(H:Hp)(a:Qs)(xs:List V):Prop:=
 Rd H a (.lst xs)\/
  ∃(o:Q0) (its:Array Qv) (n:Nat),K.lookup a=on o/\o.cls= .type "list"/\o.dict=Qh/\o.data= .seq its n/\its.size<=QN/\aw xs its.toList
def hO(K:QR)(H:Hp)(a:Qs)(xs:List V):Prop:=
 Rd H a (.tup xs)\/
  ∃(o:Q0) (its:Array Qv) (n:Nat),K.lookup a=on o/\o.cls= .type "tuple"/\o.data= .seq its n/\its.size<=QN/\aw xs its.toList
noncomputable def absV:Qv->Option V
 | .none=>on .non
 | .bool b=>on (.bl b)
 | .int i _=>on (.int i)
 | .str x _=>on (.str x)
 | .ref a=>on (.ref a)
 | .type n=>on (.ty n)
 |_=>Qh
theorem aL.abs(r:aL x u):absV u=on x:=by
 cases x with
 |non=>cases r;rfl
 |bl _=>cases r;rfl
 |int _=>obtain⟨t,rfl⟩:=r;rfl
 |str _=>obtain⟨t,rfl⟩:=r;rfl
 |ref _=>cases r;rfl
 |ty _=>cases r;rfl
theorem aL.inj(r:aL x u)(q:aL y u):x=y:=Q7 (r.abs.symm.trans q.abs)
theorem aw.inj:∀{xs ys:List V} {us:List Qv},aw xs us->aw ys us->xs=ys
 |_,_,_,.nil,.nil=>rfl
 |_,_,_,.cons r t,.cons r' t'=>by rw[r.inj r',aw.inj t t']
end
section
variable{X:Cx}{ba:List (Qs×Q0)}{σ:St}{H:Hp}{s:QA}{a:Qs}{xs ys:List V}
theorem f0.of{K:QR}(h:H a=on (.lst xs)):f0 K H a xs:= .inl (.inl h)
theorem c4.list(I:c4 X ba σ H s)(h:f0 X.K H a xs):∃its:List Qv,aw xs its/\PlainL s.heap a its.toArray/\xs.length<=QN:=by
 rcases h with h|⟨o,its,n,b,hc,hd,hs,c,r⟩
 .obtain⟨z,its,n,r,e⟩:=h.ok I.hok
  exact⟨its,r,⟨_,n,e,rfl,rfl,rfl⟩,z⟩
 .refine⟨its.toList,r,⟨o,n,I.kIn a o b,hc,hd,by simpa using hs⟩,?_⟩
  have e:=r.length;simp only[Ri]at e;omega
theorem c4.tuple(I:c4 X ba σ H s)(h:hO X.K H a xs):∃its:List Qv,aw xs its/\IsTup s.heap a its.toArray/\xs.length<=QN:=by
 rcases h with h|⟨o,its,n,b,hc,hs,c,r⟩
 .obtain⟨z,its,r,p⟩:=h.ok I.hok
  exact⟨its,r,p,z⟩
 .refine⟨its.toList,r,⟨o,I.kIn a o b,hc,n,by simpa using hs⟩,?_⟩
  have e:=r.length;simp only[Ri]at e;omega
theorem c4.list_inj(I:c4 X ba σ H s)(h:f0 X.K H a xs)(h':f0 X.K H a ys):xs=ys:=by
 obtain⟨its,r,⟨o,n,e,_,_,d⟩,_⟩:=I.list h;obtain⟨its',c,⟨f,g,b,_,_,d'⟩,_⟩:=I.list h';rw[e]at b;cases b;rw[d]at d'
 injection d' with d1 _
 have:its=its':=by simpa using RE Array.toList d1
 subst this;exact r.inj c
theorem c4.tuple_inj(I:c4 X ba σ H s)(h:hO X.K H a xs)(h':hO X.K H a ys):xs=ys:=by
 obtain⟨its,r,⟨o,e,_,n,d⟩,_⟩:=I.tuple h;obtain⟨its',c,⟨f,b,_,g,d'⟩,_⟩:=I.tuple h';rw[e]at b;cases b;rw[d]at d'
 injection d' with d1 _
 have:its=its':=by simpa using RE Array.toList d1
 subst this;exact r.inj c
noncomputable abbrev Cx.wish(X:Cx)(E:Qv->QA->Prop):Cx:={X with xe:=E}
noncomputable abbrev Cx.nox(X:Cx):Cx:=X.wish λ_ _=>False
theorem Cx.Ok.wish{X:Cx}(ok:X.Ok)(E:Qv->QA->Prop):(X.wish E).Ok:=
 ⟨ok.mod,ok.kind,ok.glob,ok.blt,ok.above,ok.inj,ok.has,ok.cab,ok.hd,ok.frames,ok.stk,ok.exf,ok.bs,ok.bsz,ok.noex,ok.exfs,ok.funs,ok.frf⟩
theorem Cx.Ok.unwish{X:Cx}{E:Qv->QA->Prop}(ok:(X.wish E).Ok):X.Ok:=
 ⟨ok.mod,ok.kind,ok.glob,ok.blt,ok.above,ok.inj,ok.has,ok.cab,ok.hd,ok.frames,ok.stk,ok.exf,ok.bs,ok.bsz,ok.noex,ok.exfs,ok.funs,ok.frf⟩
variable{E:Qv->QA->Prop}
theorem c4.wish(I:c4 X ba σ H s)(E:Qv->QA->Prop):c4 (X.wish E) ba σ H s:=⟨I.ok.wish E,I.os,I.bare,I.base,I.loc,I.cell,I.free,I.freeC,I.pin,I.hok,I.len⟩
theorem c4.unwish(I:c4 (X.wish E) ba σ H s):c4 X ba σ H s:=⟨I.ok.unwish,I.os,I.bare,I.base,I.loc,I.cell,I.free,I.freeC,I.pin,I.hok,I.len⟩
theorem SP.unwish{D:nC}(h:SP (X.wish E) ba D f s'):SP X ba D f s':=by
 cases f with
 |next=>obtain⟨b,c,I,q⟩:=h;exact⟨b,c,I.unwish,q⟩
 |brk=>obtain⟨b,c,I,q⟩:=h;exact⟨b,c,I.unwish,q⟩
 |cont=>obtain⟨b,c,I,q⟩:=h;exact⟨b,c,I.unwish,q⟩
 |ret u=>obtain⟨v,b,c,I,r,q⟩:=h;exact⟨v,b,c,I.unwish,r,q⟩
theorem PSs.nox{st:List RT}(h:PSs X.nox st t):PSs X st t:=λba s σ H D I b=>
 Rw (h ba s σ H D (I.wish _) b) (λ_ _ q=>q.unwish) λ_ _ z=>S8 z
variable{st:RT}{rest:List RT}{t u:TS}{e:Expr}{te:TE}{pos:Vm}
noncomputable def OX:TS:=λD σ H=>D.nx σ H
def tSeq(t u:TS):TS:=λD σ H=>t {D with nx:=u D} σ H
theorem qq:PSs X [] OX:=λ_ _ σ H _ I h=>WL ⟨σ,H,I,h⟩
theorem cz(c:PS X st t)(d:PSs X rest u):PSs X (st::rest) (tSeq t u):=by
 intro ba s σ H D I h;refine wpAny_execs_cons (en (c ba s σ H {D with nx:=u D} I h) λf g q=>?_);cases f with
 |next=>
  obtain⟨b,i,j,q⟩:=q;exact d ba g b i D j q
 |ret v=>exact q
 |brk=>exact q
 |cont=>exact q
theorem mE(b:PS X st t):PSs X [st] t:=by
 intro ba s σ H D I h;refine wpAny_execs_cons (en (b ba s σ H D I h) λf c q=>?_);cases f with
 |next=>exact WL q
 |ret v=>exact q
 |brk=>exact q
 |cont=>exact q
theorem c4.quiet{ba:List (Qs×Q0)}{σ:St}{H:Hp}{s:QA}(I:c4 X ba σ H s):interactive X.env=Qr:=by simp[interactive,I.ok.kind]
def sr(te:TE):TS:=λD σ H=>te σ H λ_ b=>D.nx σ b
theorem cu(b:PE X e te)(hs:Vb e Qh pos.line X.env=SY Qr:=by rfl):PS X (.Expr e pos) (sr te):=by
 intro ba s σ H D I h;exact wpAny_Expr_any (en (b ba s σ H _ I h) λv f ⟨x,c,d,r1,q1⟩=>⟨σ,c,d,q1⟩) I.quiet hs
def w9(te:TE):TS:=λD σ H=>te σ H D.rt
theorem az(b:PE X e te):PS X (.Return (on e) pos) (w9 te):=by
 intro ba s σ H D I h;exact wpAny_Return_some (en (b ba s σ H _ I h) λv f ⟨x,c,d,r1,q1⟩=>⟨x,σ,c,d,r1,q1⟩)
def tIfS(c:TT)(t u:TS):TS:=λD σ H=>c σ H λb d=>if b=Qo then t D σ d else u D σ d
theorem JJ{a b:List RT}(hc:PT X c tc)(ha:PSs X a t)(j:PSs X b u):PS X (.If c a b pos) (tIfS tc t u):=by
 intro ba s σ H D I h;refine wpAny_If (en (hc ba s σ H _ I h) λd f ⟨g,i,q1⟩=>?_);cases d with
 |true=>exact ha ba f σ g D i q1
 |false=>exact j ba f σ g D i q1
abbrev TG:=V->St->Hp->(St->Hp->Prop)->Prop
abbrev I0:=List V->St->Hp->(St->Hp->Prop)->Prop
def PG(X:Cx)(b:Expr)(t:TG):Prop:=
 ∀(ba:List (Qs×Q0)) (s:QA) (σ:St) (H:Hp) (v:V) (u:Qv) (Q:St->Hp->Prop),c4 X ba σ H s->aL v u->t v σ H Q->
  QJ (Q4 X.prog X.w) X.A (VA b X.env u) (λ_ s'=>∃c d,c4 X ba c d s'/\Q c d) X.xe s
def PGs(X:Cx)(d:List Expr)(t:I0):Prop:=
 ∀(ba:List (Qs×Q0)) (s:QA) (σ:St) (H:Hp) (vs:List V) (us:List Qv) (Q:St->Hp->Prop),c4 X ba σ H s->aw vs us->t vs σ H Q->
  QJ (Q4 X.prog X.w) X.A (Zv ((WD d X.env).map (·.2)) us) (λ_ s'=>∃b c,c4 X ba b c s'/\Q b c) X.xe s
abbrev IC:=V->V->V->Hp->(Hp->Prop)->Prop
def ID(X:Cx)(t:IC):Prop:=
 ∀(ba:List (Qs×Q0)) (s:QA) (σ:St) (H:Hp) (o i v:V) (b c u:Qv) (Q:Hp->Prop),c4 X ba σ H s->aL o b->aL i c->aL v u->t o i v H Q->
  QJ (Q4 X.prog X.w) X.A (setItem b c u) (λ_ s'=>∃d,c4 X ba σ d s'/\Q d) X.xe s
abbrev TIp:=V->V->Hp->VK->Prop
def PIp(X:Cx)(op:Operator)(t:TIp):Prop:=
 ∀(ba:List (Qs×Q0)) (s:QA) (σ:St) (H:Hp) (x y:V) (v u:Qv) (Q:VK),c4 X ba σ H s->aL x v->aL y u->t x y H Q->
  QJ (Q4 X.prog X.w) X.A (inplaceOp op v u) (EP X ba σ Q) X.xe s
def dW(i:Nat):TG:=λv σ H Q=>Q (σ.set i (on v)) H
theorem wa(b:X.N.Nodup)(c:X.N[i]?=on x)(d:y3 X.env.scope x)(f:X.fn x=Qo\/X.env.scope.names.lookup x=on .local:=by first|exact .inl rfl|exact .inr rfl|assumption):PG X (.Name x pos) (dW i):=by
 intro ba s σ H v u Q I r h;exact XU (iE I b c d r (λs' g=>⟨_,H,g,h⟩) f)
noncomputable def gNil:I0:=λvs σ H Q=>vs=[]/\Q σ H
def yd(t:TG)(u:I0):I0:=λvs σ H Q=>∃v r,vs=v::r/\t v σ H λb c=>u r b c Q
theorem bz:PGs X [] gNil:=by
 intro ba s σ H vs us Q I r h;obtain⟨e,h⟩:=h;subst e;cases r;exact assignInOrder_nil ⟨σ,H,I,h⟩
theorem au{e:Expr}{t:TG}{u:I0}(c:PG X e t)(d:PGs X es u)
  (hs:(WD (e::es) X.env).map (·.2)=VA e X.env::(WD es X.env).map (·.2):=by rfl):PGs X (e::es) (yd t u):=by
 intro ba s σ H vs us Q I r h;obtain⟨v,l,f,h⟩:=h;subst f;cases r with
 |cons r g=>
  rw[hs];refine Xp (en (c ba s σ H _ _ _ I r h) λ_ i ⟨b,j,k,q1⟩=>?_);exact d ba i b j _ _ Q k g q1
def FH(K:QR)(n:Nat)(t:I0):TG:=λv σ H Q=>∃a xs,v= .ref a/\hO K H a xs/\xs.length=n/\t xs σ H Q
theorem bN{t:I0}(hc:X.calm=Qo)(h:PGs X es t)
  (hn:(WD es X.env).length=n:=by rfl) (c:(WD es X.env).findIdx? (·.1)=Qh:=by rfl):PG X (.Tuple es k pos) (FH X.K n t):=by
 intro ba s σ H v u Q I r d;obtain⟨a,xs,g,i,j,d⟩:=d;subst g;cases r;obtain⟨its,f,l,q⟩:=I.tuple i;refine assign_Tuple_tuple (I.ok.hd hc) l (by simp[hn,<-j,f.length]) c λh' m=>?_;have p:c4 X ba σ H {s with heap:=h'}:=I.kept (t':=s.toks) λb o e=>m b o (Rr (QZ e)) e;exact h ba _ σ H xs _ Q p (by simpa using f) d
def FI(to b:TE)(t:IC):TG:=λv σ H Q=>to σ H λo c=>b σ c λi d=>t o i v d λf=>Q σ f
theorem jS{t:IC}(d:PE X o to)(f:PE X i ti)(hs:ID X t)
  (ha:∀v,VA (.Subscript o i pos) X.env v=(do
   let b <-UW [v] (RN o X.env)
   let c <-UW [v,b] (RN i X.env)
   Uh pos
   UW [v,b,c] (setItem b c v)
   release [v,b,c] []):=by intro _;rfl):PG X (.Subscript o i pos) (FI to ti t):=by
 intro ba s σ H v u Q I r h;rw[ha];refine My (R3 (en (d ba s σ H _ I h) λb g ⟨x,j,k,r1,q1⟩=>?_));refine My (R3 (en (f ba g σ j _ k q1) λc l ⟨y,m,n,p,q2⟩=>?_));refine My (SG (My (R3 (en (hs ba l σ m x y v b c u _ n r1 p r q2) λ_ A ⟨q,w,q3⟩=>?_))));exact wpAny_release ⟨σ,q,w,q3⟩
def gZ(te:TE)(g:TG):TS:=λD σ H=>te σ H λx b=>g x σ b D.nx
theorem dy{tg e:Expr}{te:TE}(b:PE X e te)(c:PG X tg g)(hs:swapsWithSole [tg] e pos.line X.env=SY Qr:=by rfl)(d:swappedStores [tg] e X.env=SY Qh:=by rfl)
  (f:(WD [tg] X.env).map (·.2)=[VA tg X.env]:=by rfl):PS X (.Assign [tg] e pos) (gZ te g):=by
 intro ba s σ H D I h;refine wpAny_Assign_stores (en (b ba s σ H _ I h) λv i ⟨x,j,k,r1,q1⟩=>?_) hs d;rw[f];exact en (c ba i σ j x v _ k r1 q1) λ_ l q=>q
theorem o5{e:Expr}{te:TE}(b:X.N.Nodup)(c:X.N[i]?=on x)(d:y3 X.env.scope x)(f:PE X e te)(hs:Vb e (on (.Name x pos')) pos.line X.env=SY Qr:=by rfl)(g:X.fn x=Qo\/X.env.scope.names.lookup x=on .local:=by first|exact .inl rfl|exact .inr rfl|assumption):
  PS X (.Assign [.Name x pos'] e pos) (gZ te (dW i)):=by
 intro ba s σ H D I h;refine wpAny_Assign_Name (en (f ba s σ H _ I h) λv m ⟨y,j,k,r1,q1⟩=>?_) hs;exact iE k b c d r1 (λn l=>⟨_,j,l,q1⟩) g
def LU(i j:Nat)(b:TA):TS:=λD σ H=>b σ H λvs c=>∃v w,vs=[v,w]/\D.nx ((σ.set i (on v)).set j (on w)) c
theorem MD{a b:Expr}{kt k2 pt2}(hc:X.calm=Qo)(m:X.N.Nodup)(F:X.N[i]?=on x)(J:X.N[j]?=on y)(g:i≠j)
  (n:X.env.scope.names.lookup x=on .local) (r:X.env.scope.names.lookup y=on .local) (ha:PA X [a,b] ta)
  (L:swappedStores [.Tuple [.Name x px,.Name y py] kt pt] (.Tuple [a,b] k2 pt2) X.env=SY (on [x,y]))
  (hs:swapsWithSole [.Tuple [.Name x px,.Name y py] kt pt] (.Tuple [a,b] k2 pt2) pos.line X.env=SY Qr:=by rfl):
  PS X (.Assign [.Tuple [.Name x px,.Name y py] kt pt] (.Tuple [a,b] k2 pt2) pos) (LU i j ta):=by
 intro ba s σ H D I h;rw[exec_Assign_arm];refine My (SG ?_);rw[hs];refine My (Qj ?_);rw[Qp (by decide)];refine My (Tuple_ (en (ha _ ba s σ H _ I h) λus c ⟨vs,B,O,r1,q1⟩=>?_));obtain⟨v,w,P,q1⟩:=q1;subst P;obtain⟨d,f,rfl,Q,k⟩:∃d f,us=[d,f]/\aL v d/\aL w f:=by
  cases r1 with
  |cons p q=>
   cases q with
   |cons R T=>
    cases T;exact⟨_,_,rfl,p,R⟩
 refine RO ?_ (by show 2<=QN;decide);have U:c4 X ba σ B {c with heap:=c.heap.push {cls:= .type "tuple",data:= .seq [d,f].toArray}}:=O.kept (t':=c.toks) λb o e=>Qm _ e;rw[L];refine My (Qj ?_);show QJ (Q4 X.prog X.w) X.A (do rule "assign.swapped-stores";let items <-unpackItems (.ref c.heap.objs.size) 2 Qh;Zv [λv=>bindName X.env y v,λv=>bindName X.env x v] items.reverse;SY Flow.next) _ _ _
 refine My (T4 (My (unpackItems_tuple (items:=#[d,f]) (I.ok.hd hc) (ZX c.heap _) λh' l=>?_)));have W:=U.kept (h':=h') (t':=c.toks) λb o e=>l b o (Rr (QZ e)) e;show QJ _ _ (Zv [λv=>bindName X.env y v,λv=>bindName X.env x v] [f,d]>>=λ_=>SY Flow.next) _ _ _;refine My (Xp (wpAny_bindName (iE W m J (.inl r) k (λZ Y=>?_) (.inr r))));refine Xp (wpAny_bindName (iE Y m F (.inl n) Q (λs3 C=>assignInOrder_nil (Qj ?_)) (.inr n)));rw[List.set_comm _ _ (Ne.symm g)]at C;exact⟨_,B,C,q1⟩
def L0(i:Nat)(te:TE)(b:TIp):TS:=λD σ H=>∃x,σ[i]?=on (on x)/\te σ H λy c=>b x y c λz d=>D.nx (σ.set i (on z)) d
theorem lL{e:Expr}{te:TE}(o:X.N.Nodup)(n:X.N[i]?=on x)(g:y3 X.env.scope x)(p:PE X e te)(q:PIp X op ti)(B:X.fn x=Qo\/X.env.scope.names.lookup x=on .local:=by first|exact .inl rfl|exact .inr rfl|assumption):
  PS X (.AugAssign (.Name x pos') op e pos) (L0 i te ti):=by
 intro ba s σ H D I h;obtain⟨v,C,h⟩:=h;obtain⟨m,hn,F⟩:=I.loc;have j:Vis X.env.scope x:=by rcases g with k|k;exact .inl k;exact .inr (.inl k)
 obtain⟨u,r,l⟩:=F i x v n C j;refine wpAny_AugAssign_Name ?_;have go:QJ (Q4 X.prog X.w) X.A (RN e X.env) (λw d=>QJ (Q4 X.prog X.w) X.A (inplaceOp op u w) (λr f=>QJ (Q4 X.prog X.w) X.A (storeName X.env x r) (λ_=>SP X ba D .next) X.xe f) X.xe d) X.xe s:=by
  refine en (p ba s σ H _ I h) λw J ⟨y,L,O,r1,q1⟩=>?_;refine en (q ba J σ L v y u w _ O r r1 q1) λz U ⟨W,P,Q,R,q2⟩=>?_;exact iE Q o n g R (λY T=>⟨_,P,T,q2⟩) B
 rcases l with⟨hk,hm⟩|⟨hk,c,hc,b⟩
 .exact wpAny_loadName_local I.ok.kind hk hn hm go
 .rcases hk with hk|hk
  .exact wpAny_loadName_cell I.ok.kind hk hc b go
  .rcases g with k|k
   .have:X.env.scope.names.lookup x=on .free:=hk
    rw[k]at this;cases this
   .have:X.env.scope.names.lookup x=on .free:=hk
    rw[k]at this;cases this
def ipI(f:Int->Int->Int):TIp:=λx y H Q=>∃i j,x= .int i/\y= .int j/\Q (.int (f i j)) H
theorem AX:PIp X .Add (ipI λi j=>i+j):=by
 intro ba s σ H x y v u Q I r1 b h;obtain⟨i,j,c,d,q⟩:=h;subst c;subst d;obtain⟨t,rfl⟩:=r1;obtain⟨t',rfl⟩:=b;exact iadd_int ⟨.int _,H,I.tok _,⟨_,rfl⟩,q⟩
def LT(c:TT)(i:TS):TS:=λD σ H=>∃W:Nat->St->Hp->Prop,(∃m,W m σ H)/\∀m σ H,W m σ H->
 c σ H λb f=>if b=Qo then ∃N:St->Hp->Prop,(∀d g,N d g->∃h,h<m/\W h d g)/\i {D with nx:=N,ct:=N,bk:=D.nx} σ f else D.nx σ f
theorem DR(q:ZI (Q4 X.prog X.w) X.A X.env X.xe)(hc:PT X c tc)(J:PSs X body tb):PS X (.While c body [] pos) (LT tc tb):=by
 intro ba s σ H D I h;obtain⟨W,⟨L,O⟩,i⟩:=h;refine wpAny_While (codeAny_whileLoop (λn s'=>∃j r,c4 X ba j r s'/\W n j r) ?_ L ⟨σ,H,I,O⟩);rintro n P ⟨g,y,Q,R⟩;refine T7 q (en (hc ba P g y _ Q (i n g y R)) λb T ⟨B,C,q2⟩=>?_);cases b with
 |true=>
  obtain⟨N,F,q2⟩:=q2;rw[Qt rfl];refine T7 q (en (J ba T g B _ C q2) λf U q3=>?_);cases f with
  |next=>
   obtain⟨d,k,l,m⟩:=q3;obtain⟨o,hm,p⟩:=F d k m;exact⟨o,hm,d,k,l,p⟩
  |cont=>
   obtain⟨d,k,l,m⟩:=q3;obtain⟨o,hm,p⟩:=F d k m;exact⟨o,hm,d,k,l,p⟩
  |brk=>exact q3
  |ret v=>exact q3
 |false=>
  rw[Qp Qx];exact WL ⟨g,B,C,q2⟩
structure It where
 go:Nat->Hp->Prop
 yld:Nat->Hp->V->Hp->Prop
 stop:Nat->Hp->Prop
def eS(X:Cx)(ba:List (Qs×Q0))(H:Hp)(b:Qs):Prop:=
 H b=Qh/\b≠X.env.locals/\b∉X.fs/\(b∈X.ex\/X.s₀.heap.objs.size<=b)/\(∀x c,X.env.cells.lookup x=on c->c≠b)/\∀p∈X.pn++ba,p.1≠b
theorem c4.fpOk{X:Cx}{ba:List (Qs×Q0)}{σ:St}{H f:Hp}{s:QA}{b:Qs}(I:c4 X ba σ H s)(d:s.heap.objs.size<=b)(hn:f b=Qh):eS X ba f b:=by
 refine⟨hn,TR (QY I.lt d),I.nofs d,.inr (Qw I.sz d),λx c e z=>?_,λp g z=>?_⟩
 .obtain⟨v,q⟩:=I.cell x c e
  exact QX (QY q.lt (by rw[z];exact d)) (Rv _)
 .exact QX (QY (QZ (I.pin p g).1) (by rw[z];exact d)) (Rv _)
structure m3 (P:Rc) (w:Ro) (K:QR) (tg:Expr) (J:It) (fp:List Qs) (it:Qs) (tn:Nat->RQ->Prop):Prop where
 mem:it∈fp
 obj:∀i h,tn i h->∀b∈fp,∃o,h.get? b=on o/\∀v,o.data≠ .cell v
 keep:∀i h h',tn i h->(∀b∈fp,∀o,h.get? b=on o->h'.get? b=on o)->tn i h'
 item:∀(X:Cx),X.prog=P->X.w=w->X.K=K->X.calm=Qo->∀(i:Nat) (ba:List (Qs×Q0)) (s:QA) (σ:St) (H:Hp) (E:Qv->QA->Prop),c4 X ba σ H s->(∀b∈fp,eS X ba H b)->tn i s.heap->J.go i H->
  QJ (Q4 P w) X.A (UX (.ref it)) (λr s1=>∃u,r=on u/\
   QJ (Q4 P w) X.A (VB tg (.ref it) u) (λ_ s2=>∃x H',c4 X ba σ H' s2/\aL x u/\J.yld i H x H'/\tn (i+1) s2.heap/\∀b∈fp,H' b=Qh) E s1) E s
 done:∀(X:Cx),X.prog=P->X.w=w->X.K=K->X.calm=Qo->∀(i:Nat) (ba:List (Qs×Q0)) (s:QA) (σ:St) (H:Hp) (E:Qv->QA->Prop),c4 X ba σ H s->(∀b∈fp,eS X ba H b)->tn i s.heap->J.stop i H->
  QJ (Q4 P w) X.A (UX (.ref it)) (λr s1=>r=Qh/\c4 X ba σ H s1) E s
 self:∀(A:RG) (i:Nat) (s:QA) (Q:Qv->QA->Prop) (E:Qv->QA->Prop),tn i s.heap->Q (.ref it) s->QJ (Q4 P w) A (W2 (.ref it)) Q E s
abbrev TI:=St->Hp->(It->Hp->Prop)->Prop
def PIE(X:Cx)(ba:List (Qs×Q0))(σ:St)(tg:Expr)(R:It->Hp->Prop)(c:Qv)(f:QA):Prop:=
 ∃(it:Qs) (g:List Qs) (h:Nat->RQ->Prop) (J:It) (d:Hp),c= .ref it/\c4 X ba σ d f/\m3 X.prog X.w X.K tg J g it h/\h 0 f.heap/\(∀b∈g,eS X ba d b)/\R J d
def PI(X:Cx)(tg b:Expr)(c:TI):Prop:=
 ∀(ba:List (Qs×Q0)) (s:QA) (σ:St) (H:Hp) (R:It->Hp->Prop),c4 X ba σ H s->c σ H R->
  QJ (Q4 X.prog X.w) X.A (RN b X.env) (λv d=>QJ (Q4 X.prog X.w) X.A (W2 v) (PIE X ba σ tg R) X.xe d) X.xe s
theorem sL{M:Model}{E:Qv->QA->Prop}{s:QA}{u:Qv}{o:Q0}(c:s.heap.get? it=on o)(hc:o.cls= .type n)(hd:o.data= .fields vs)
  (hn:["enumerate","zip","dict_itemiterator","dict_reverseitemiterator","odict_iterator","itertools.zip_longest","itertools.pairwise"].contains n=Qr) (b:Q () s):QJ M A (VB tg (.ref it) u) Q E s:=by
 unfold VB;cases tg<;>first
  |exact Qj b
  |(cases u<;>first
   |exact Qj b
   |(refine My (wpAny_load c ?_)
     rw[hc,hd];show QJ M A (if(["enumerate","zip","dict_itemiterator","dict_reverseitemiterator","odict_iterator","itertools.zip_longest","itertools.pairwise"].contains n&&vs[0]?==on (UY _))=Qo then _ else _) Q E s;rw[Qp (by intro h;rw[hn,Wv]at h;cases h)];exact Qj b))
noncomputable def Itl(K:QR)(a:Qs):It:=
 ⟨λi H=>∃xs x,f0 K H a xs/\xs[i]?=on x,λi H x b=>b=H/\∀xs,f0 K H a xs->xs[i]?=on x,λi H=>∃xs,f0 K H a xs/\xs.length<=i⟩
noncomputable def Itt(K:QR)(a:Qs):It:=
 ⟨λi H=>∃xs x,hO K H a xs/\xs[i]?=on x,λi H x b=>b=H/\∀xs,hO K H a xs->xs[i]?=on x,λi H=>∃xs,hO K H a xs/\xs.length<=i⟩
noncomputable def Itr(lo:Int)(n:Nat):It:=⟨λi _=>i<n,λi H x b=>b=H/\x= .int (lo+i),λi _=>n<=i⟩
theorem qU{K:QR}(a it:Qs):m3 P w K tg (Itl K a) [it] it (λi h=>h.IsListIter it a i) where
 mem:=by simp
 obj:=λi h st b f=>by
  have e:b=it:=by simpa using f
  subst e;obtain⟨o,e,c,d⟩:=st;exact⟨o,e,λv z=>by rw[d]at z;cases z⟩
 keep:=λi h h' st k=>st.at λo e=>k it (by simp) o e
 item:=by
  intro X m n q hc i ba s σ H E I j st r;subst m n q;obtain⟨xs,x,l,y⟩:=r;obtain⟨its,A,p,L⟩:=I.list l;obtain⟨u,N,O⟩:=A.get y;obtain⟨B,f1,f2,C,F,J⟩:=j it (by simp);refine wpAny_pyNext_list_item st p.isList (x:=u) (by simpa using N) λh' g Q=>?_;have R:c4 X ba σ H {s with heap:=h'}:=I.turned (t':=s.toks) (λb o f e=>(Q.2 b f).trans e) B f1 C F J;obtain⟨o,e,c,d⟩:=id g;exact⟨u,rfl,sL (s:={s with heap:=h'}) e c d (by decide) ⟨x,H,R,O,⟨rfl,λys T=>by rw[I.list_inj T l];exact y⟩,g,λb f=>(j b f).1⟩⟩
 done:=by
  intro X m n q hc i ba s σ H E I j st r;subst m n q;obtain⟨xs,l,y⟩:=r;obtain⟨its,A,p,L⟩:=I.list l;obtain⟨B,f1,f2,C,F,J⟩:=j it (by simp);have W:=A.length;exact wpAny_pyNext_list_end (I.ok.hd hc) st p.isList (by simp;omega) λh' U=>⟨rfl,I.turned (t':=s.toks) (λb o f e=>U b o f e) B f1 C F J⟩
 self:=λ_ _ _ _ _ st h=>wpAny_pyIter_listiter st h
theorem w4{K:QR}(a it:Qs):m3 P w K tg (Itt K a) [it] it (λi h=>h.IsTupleIter it a i) where
 mem:=by simp
 obj:=λi h st b f=>by
  have e:b=it:=by simpa using f
  subst e;obtain⟨o,e,c,d⟩:=st;exact⟨o,e,λv z=>by rw[d]at z;cases z⟩
 keep:=λi h h' st k=>st.at λo e=>k it (by simp) o e
 item:=by
  intro X m n q hc i ba s σ H E I j st r;subst m n q;obtain⟨xs,x,l,y⟩:=r;obtain⟨its,A,p,L⟩:=I.tuple l;obtain⟨u,N,O⟩:=A.get y;obtain⟨B,f1,f2,C,F,J⟩:=j it (by simp);refine wpAny_pyNext_tuple_item st (show s.heap.IsTuple a its.toArray from p) (x:=u) (by simpa using N) λh' g Q=>?_;have R:c4 X ba σ H {s with heap:=h'}:=I.turned (t':=s.toks) (λb o f e=>(Q.2 b f).trans e) B f1 C F J;obtain⟨o,e,c,d⟩:=id g;exact⟨u,rfl,sL (s:={s with heap:=h'}) e c d (by decide) ⟨x,H,R,O,⟨rfl,λys T=>by rw[I.tuple_inj T l];exact y⟩,g,λb f=>(j b f).1⟩⟩
 done:=by
  intro X m n q hc i ba s σ H E I j st r;subst m n q;obtain⟨xs,l,y⟩:=r;obtain⟨its,A,p,L⟩:=I.tuple l;obtain⟨B,f1,f2,C,F,J⟩:=j it (by simp);have W:=A.length;exact wpAny_pyNext_tuple_end (I.ok.hd hc) st (show s.heap.IsTuple a its.toArray from p) (by simp;omega) λh' U=>⟨rfl,I.turned (t':=s.toks) (λb o f e=>U b o f e) B f1 C F J⟩
 self:=λ_ _ _ _ _ st h=>wpAny_pyIter_tupleiter st h
theorem w5{K:QR}(it:Qs)(lo:Int)(n:Nat):m3 P w K tg (Itr lo n) [it] it (λi h=>Yg h it (lo+(i:Nat)*1) ((n:Int)-(i:Nat)) 1) where
 mem:=by simp
 obj:=λi h st b c=>by
  have e:b=it:=by simpa using c
  subst e;exact⟨_,st,λv z=>by
   have B:Data.fields _=Data.cell v:=z;cases B⟩
 keep:=λi h h' st k=>k it (by simp) _ st
 item:=by
  intro X g j l hc i ba s σ H E I f st m;subst g j l;obtain⟨p,f1,f2,q,r,y⟩:=f it (by simp);have W:=Walks.range (prog:=X.prog) (w:=X.w) (I.ok.hd hc) it lo 1 n;refine W.item i s _ _ m st λv h' A C d F=>?_;obtain⟨t,rfl⟩:=C;have J:c4 X ba σ H {s with heap:=h',toks:=A}:=I.turned (λb o c e=>F b o (by simpa using c) e) p f1 q r y;refine⟨_,rfl,sL (s:={s with heap:=h',toks:=A}) (n:="range_iterator") d rfl rfl (by decide) ⟨.int (lo+i),H,J,⟨t,?_⟩,⟨rfl,rfl⟩,d,λb c=>(f b c).1⟩⟩;rw[Int.mul_one]
 done:=by
  intro X g j l hc i ba s σ H E I f st m;subst g j l;obtain⟨p,f1,f2,q,r,y⟩:=f it (by simp);exact wpAny_pyNext_range_end (I.ok.hd hc) st (by have:n<=i:=m;omega) λh' L=>⟨rfl,I.turned (t':=s.toks) (λb o c e=>L b o c e) p f1 q r y⟩
 self:=λ_ _ _ _ _ st h=>WI st h
variable{tg:Expr}
def PZ(K:QR)(c:TE):TI:=λσ H R=>c σ H λx b=>∃a,x= .ref a/\(∃xs,f0 K b a xs)/\R (Itl K a) b
theorem KO(f:PE X l tl):PI X tg l (PZ X.K tl):=by
 intro ba s σ H R I h;refine en (f ba s σ H _ I h) λv c ⟨x,g,d,r1,q1⟩=>?_;obtain⟨a,e,⟨xs,i⟩,q⟩:=q1;subst e;cases r1;obtain⟨its,k,p,m⟩:=d.list i;refine We p.isList ?_;refine⟨c.heap.objs.size,[c.heap.objs.size],_,_,g,rfl,d.kept (t':=c.toks) λb o e=>Qm _ e,qU a _,⟨_,QK _ rfl,rfl,rfl⟩,λb j=>?_,q⟩;have e:b=c.heap.objs.size:=by simpa using j
 subst e;exact d.fpOk (Qz _) (d.hok.fresh (Qz _))
theorem ui{ba:List (Qs×Q0)}{σ:St}{H:Hp}{s:QA}{E:Qv->QA->Prop}{lo c:Int}{t u v:Tok}(I:c4 X ba σ H s)(f:-(2^62)<=lo)(g:lo<2^62)(h:-(2^62)<=c)(i:c<2^62)
  (q:R (Itr lo (c-lo).toNat) H):QJ (Q4 X.prog X.w) X.A (W2 (.ref s.heap.objs.size)) (PIE X ba σ tg R) E {s with heap:=s.heap.push {cls:= .type "range",data:= .fields #[.int lo t,.int c u,.int 1 v]},toks:=tk}:=by
 refine wpAny_pyIter_range (IsRange.new ..) (small_one f g h i) ?_;have d:c4 X ba σ H {s with heap:=s.heap.push {cls:= .type "range",data:= .fields #[.int lo t,.int c u,.int 1 v]},toks:=tk}:=I.kept λb o e=>Qm _ e;refine⟨(s.heap.push {cls:= .type "range",data:= .fields #[.int lo t,.int c u,.int 1 v]}).objs.size,[(s.heap.push {cls:= .type "range",data:= .fields #[.int lo t,.int c u,.int 1 v]}).objs.size],_,_,H,rfl,
  d.kept (t':=tk) λb o e=>Qm _ e,w5 _ lo (c-lo).toNat,?_,λb j=>?_,q⟩
 .have k:lo+((0:Nat):Int)*1=lo:=by simp
  have l:(((c-lo).toNat:Nat):Int)-((0:Nat):Int)=W6 lo c 1:=by rw[rangeSize_one];split<;>omega
  show Yg _ _ (lo+((0:Nat):Int)*1) ((((c-lo).toNat:Nat):Int)-((0:Nat):Int)) 1;rw[k,l];exact QK _ rfl
 .have e:b=(s.heap.push {cls:= .type "range",data:= .fields #[.int lo t,.int c u,.int 1 v]}).objs.size:=by simpa using j
  subst e;exact d.fpOk (Qz _) (d.hok.fresh (Qz _))
def PX(b:TA):TI:=λσ H R=>b σ H λvs c=>∃j:Int,vs=[.int j]/\-(2^62)<=j/\j<2^62/\R (Itr 0 j.toNat) c
def PV(b:TA):TI:=λσ H R=>b σ H λvs c=>∃i j:Int,vs=[.int i,.int j]/\(-(2^62)<=i/\i<2^62/\-(2^62)<=j/\j<2^62)/\R (Itr i (j-i).toNat) c
theorem zO{a:Expr}{p pos:Vm}(b:Gl X "range")(hm:X.mg "range"=Qh)(ha:PA X [a] ta)(hs:QH [a] X.env=[(Qr,RN a X.env)]:=by rfl):PI X tg (.Call (.Name "range" p) [a] [] pos) (PX ta):=by
 intro ba s σ H R I h;refine Call_ (fP I b hm boot_range (Sd (en (ha pos ba s σ H _ I h) λus f ⟨vs,g,c,r1,q1⟩=>?_) hs rfl));obtain⟨j,e,q1,q2,q⟩:=q1;subst e;cases r1 with
 |cons r d=>
  cases d;obtain⟨t,rfl⟩:=r;exact call_range_1 (ui c (by omega) (by omega) q1 q2 (by simpa using q))
theorem zN{a b:Expr}{p pos:Vm}(f:Gl X "range")(hm:X.mg "range"=Qh)(ha:PA X [a,b] ta)(hs:QH [a,b] X.env=[(Qr,RN a X.env),(Qr,RN b X.env)]:=by rfl)(c:QH [b] X.env=[(Qr,RN b X.env)]:=by rfl):
  PI X tg (.Call (.Name "range" p) [a,b] [] pos) (PV ta):=by
 intro ba s σ H R I h;refine Call_ (fP I f hm boot_range (Sd (en (ha pos ba s σ H _ I h) λus l ⟨vs,m,g,r1,q1⟩=>?_) (by rw[hs,c]) (by rw[c];rfl)));obtain⟨i,j,e,⟨q1,q2,q3,q4⟩,q⟩:=q1;subst e;cases r1 with
 |cons r d=>
  cases d with
  |cons k d=>
   cases d;obtain⟨t,rfl⟩:=r;obtain⟨t',rfl⟩:=k;exact call_range_2 (ui g q1 q2 q3 q4 q)
def LY(h:TI)(g:TG)(j:TS):TS:=λD σ H=>h σ H λJ k=>∃W:Nat->Nat->St->Hp->Prop,(∃m,W 0 m σ k)/\∀i m σ H,W i m σ H->
 (J.stop i H/\D.nx σ H)\/(J.go i H/\∃N:St->Hp->Prop,(∀b c,N b c->∃f,f<m/\W (i+1) f b c)/\∀x c,J.yld i H x c->g x σ c λd l=>j {D with nx:=N,ct:=N,bk:=D.nx} d l)
noncomputable def lM(c:List Qs)(h:RQ):List (Qs×Q0):=c.filterMap λb=>(h.get? b).map λo=>(b,o)
theorem iw{h:RQ}(c:b∈fp)(e:h.get? b=on o):(b,o)∈lM fp h:=Vp.mpr ⟨b,c,by rw[e];rfl⟩
theorem zV{h:RQ}{p:Qs×Q0}(c:p∈lM fp h):p.1∈fp/\h.get? p.1=on p.2:=by
 obtain⟨b,d,e⟩:=Vp.mp c;cases q:h.get? b with
 |none=>rw[q]at e;cases e
 |some o=>
  rw[q]at e;have f:(b,o)=p:=Q7 e;subst f;exact⟨d,q⟩
theorem c4.pinned{ba:List (Qs×Q0)}{σ:St}{H:Hp}{s:QA}(I:c4 X ba σ H s)(g:∀b∈fp,eS X ba H b)(h:∀b∈fp,∃o,s.heap.get? b=on o/\∀v,o.data≠ .cell v):c4 X (ba++lM fp s.heap) σ H s:=
 I.pins_of λp i=>(RK.mp i).elim (λz=>I.pin p (Rq _ z)) λz=>by
  obtain⟨c,e⟩:=zV z;obtain⟨j,f1,f2,_⟩:=g p.1 c;obtain⟨o,f,d⟩:=h p.1 c;rw[e]at f;cases f;exact⟨e,j,f1,f2,d⟩
theorem c4.unpinned{ba pl:List (Qs×Q0)}{σ:St}{H:Hp}{s:QA}(I:c4 X (ba++pl) σ H s):c4 X ba σ H s:=I.pins_of λp b=>I.pin p (Rq _ (Tj _ b))
theorem bS{pos:Vm}(L:ZI (Q4 X.prog X.w) X.A X.env X.xe)(hc:X.calm=Qo)(hi:PI X tg iter wi)(hg:PG X tg g)(j:PSs X body tb)
  (hs:∀x,RC iter X.env x=SY x:=by intro _;rfl):PS X (.For tg iter body [] pos) (LY wi g tb):=by
 intro ba s σ H D I h;refine wpAny_For (en (hi ba s σ H _ I h) λv s1 h1=>en h1 λitv s2 h2=>?_) hs;obtain⟨it,O,tn,J,H2,e,I2,T,Z,f2,W,⟨m0,w0⟩,P⟩:=h2;subst e
 --what stays Qo of the iterator's objects through the loop
 have k:∀{B:Hp},(∀b∈O,B b=Qh)->∀b∈O,eS X ba B b:=λhn b j=>⟨hn b j,(f2 b j).2⟩;refine codeAny_forLoop_any (λn s'=>∃i l B,c4 X ba l B s'/\tn i s'.heap/\(∀b∈O,B b=Qh)/\W i n l B) ?_ m0 ⟨0,σ,H2,I2,Z,λb j=>(f2 b j).1,w0⟩;rintro n s3 ⟨i,p,Y,I3,Q,R,w3⟩;rcases P i n p Y w3 with⟨stop,qn⟩|⟨go,N,hN,step⟩
 .refine T7 L (en (T.done X rfl rfl rfl hc i ba s3 p Y X.xe I3 (k R) Q stop) λr s4 ⟨hr,I4⟩=>?_)
  subst hr;exact WL ⟨p,Y,I4,qn⟩
 .refine T7 L (en (T.item X rfl rfl rfl hc i ba s3 p Y X.xe I3 (k R) Q go) λr s4 ⟨u,hr,h4⟩=>?_)
  subst hr;refine T7 L (en h4 λ_ s5 ⟨x,H5,I5,r5,y5,F,fr5⟩=>?_);have I5':=I5.pinned (k fr5) (T.obj _ _ F);refine T7 L (en (hg _ s5 p H5 x u _ I5' r5 (step x H5 y5)) λ_ s6 ⟨σ6,H6,I6,q6⟩=>?_);refine T7 L (en (j _ s6 σ6 H6 _ I6 q6) λf s7 C=>?_);have Yn:∀{c:St} {q:Hp},c4 X (ba++lM O s5.heap) c q s7->N c q->∃m,m<n/\∃i l B,c4 X ba l B s7/\tn i s7.heap/\(∀b∈O,B b=Qh)/\W i m l B:=λ{c q} y U=>by
   obtain⟨m',hm,w7⟩:=hN c q U;refine⟨m',hm,i+1,c,q,y.unpinned,T.keep _ _ _ F λb j o e=>(y.pin (b,o) (Rq _ (Rq _ (iw j e)))).1,λb j=>?_,w7⟩;obtain⟨o,e,d⟩:=T.obj _ _ F b j;exact(y.pin (b,o) (Rq _ (Rq _ (iw j e)))).2.1
  cases f with
  |next=>obtain⟨c,q,y,U⟩:=C;exact Yn y U
  |cont=>obtain⟨c,q,y,U⟩:=C;exact Yn y U
  |brk=>obtain⟨c,q,y,C⟩:=C;exact⟨c,q,y.unpinned,C⟩
  |ret v=>obtain⟨x7,c,q,y,r7,C⟩:=C;exact⟨x7,c,q,y.unpinned,r7,C⟩
abbrev R2:=V->V->Hp->VK->Prop
def gv(X:Cx)(f:Qv->Qv->Sem Qv)(r:R2):Prop:=
 ∀(ba:List (Qs×Q0)) (s:QA) (σ:St) (H:Hp) (x y:V) (v u:Qv) (Q:VK),c4 X ba σ H s->aL x v->aL y u->r x y H Q->
  QJ (Q4 X.prog X.w) X.A (f v u) (EP X ba σ Q) X.xe s
def UnR(X:Cx)(f:Qv->Sem Qv)(r:V->Hp->VK->Prop):Prop:=
 ∀(ba:List (Qs×Q0)) (s:QA) (σ:St) (H:Hp) (x:V) (v:Qv) (Q:VK),c4 X ba σ H s->aL x v->r x H Q->
  QJ (Q4 X.prog X.w) X.A (f v) (EP X ba σ Q) X.xe s
def cL(X:Cx)(f:Qv)(r:List V->Hp->VK->Prop):Prop:=
 ∀(ba:List (Qs×Q0)) (s:QA) (σ:St) (H:Hp) (xs:List V) (us:List Qv) (Q:VK),c4 X ba σ H s->aw xs us->r xs H Q->
  QJ (Q4 X.prog X.w) X.A (Xq f us) (EP X ba σ Q) X.xe s
def TruR(X:Cx)(r:V->Hp->(Bool->Hp->Prop)->Prop):Prop:=
 ∀(ba:List (Qs×Q0)) (s:QA) (σ:St) (H:Hp) (x:V) (v:Qv) (Q:Bool->Hp->Prop),c4 X ba σ H s->aL x v->r x H Q->
  QJ (Q4 X.prog X.w) X.A (truthy v) (TP X ba σ Q) X.xe s
def tOp(r:R2)(b c:TE):TE:=λσ H Q=>b σ H λx d=>c σ d λy f=>r x y f Q
def tUn(r:V->Hp->VK->Prop)(b:TE):TE:=λσ H Q=>b σ H λx c=>r x c Q
def rI(C:Int->Int->Prop)(g:Int->Int->V):R2:=λx y H Q=>∃i j,x= .int i/\y= .int j/\C i j/\Q (g i j) H
def ro(g:Int->Int->V):R2:=λx y H Q=>∃i j,x= .int i/\y= .int j/\Q (g i j) H
def rU(g:Int->V):V->Hp->VK->Prop:=λx H Q=>∃i,x= .int i/\Q (g i) H
end
section
variable{X:Cx}{a b c:Expr}{ta tb tc:TE}{pos:Vm}
theorem FV(ha:PE X a ta)(m:PE X b tb){d:List (Qs×Q0)}{s:QA}{e:St}{H:Hp}{R:V->V->Hp->Prop}(I:c4 X d e H s)
  (h:ta e H λx l=>tb e l λy g=>R x y g) {Q:Qv->QA->Prop} {f:Qv->Qv->Sem Qv}
  (n:∀v u k x y g,c4 X d e g k->aL x v->aL y u->R x y g->QJ (Q4 X.prog X.w) X.A (f v u) Q X.xe k):
  QJ (Q4 X.prog X.w) X.A (RN a X.env) (λv i=>QJ (Q4 X.prog X.w) X.A (RN b X.env) (λu j=>QJ (Q4 X.prog X.w) X.A (f v u) Q X.xe j) X.xe i) X.xe s:=by
 refine en (ha d s e H _ I h) λv o ⟨x,l,p,r1,q1⟩=>?_;refine en (m d o e l _ p q1) λu k ⟨y,g,q,r,q2⟩=>?_;exact n v u k x y g q r1 r q2
theorem dF(e:gv X (Th op) r)(ha:PE X a ta)(f:PE X b tb):PE X (.BinOp a op b pos) (tOp r ta tb):=by
 intro d s g H Q I h;exact wpAny_BinOp (FV ha f I h λv u i x y j k l m q=>e d i g j x y v u Q k l m q)
theorem Pi(f:UnR X (unaryOp op) r)(ha:PE X a ta):PE X (.UnaryOp op a pos) (tUn r ta):=by
 intro d s e H Q I h;exact UnaryOp_ (en (ha d s e H _ I h) λv g ⟨x,i,j,r1,q1⟩=>f d g e i x v Q j r1 q1)
theorem ni{f:Qv->Qv->Sem Qv}{C:Int->Int->Prop}{g:Int->Int->Int}
  (d:∀(i j:Int) (t u:Tok) (s:QA) (Q:Qv->QA->Prop) (E:Qv->QA->Prop),C i j->Q (.int (g i j) s.toks) {s with toks:=s.toks+1}->QJ (Q4 X.prog X.w) X.A (f (.int i t) (.int j u)) Q E s):
  gv X f (rI C λi j=> .int (g i j)):=by
 intro e s m H x y v u Q I k l h;obtain⟨i,j,rfl,rfl,hc,q⟩:=h;obtain⟨t,rfl⟩:=k;obtain⟨t',rfl⟩:=l;exact d i j t t' s _ _ hc ⟨.int (g i j),H,I.tok _,⟨_,rfl⟩,q⟩
theorem MV{f:Qv->Qv->Sem Qv}{g:Int->Int->Int}
  (d:∀(i j:Int) (t u:Tok) (s:QA) (Q:Qv->QA->Prop) (E:Qv->QA->Prop),Q (.int (g i j) s.toks) {s with toks:=s.toks+1}->QJ (Q4 X.prog X.w) X.A (f (.int i t) (.int j u)) Q E s):
  gv X f (ro λi j=> .int (g i j)):=by
 intro e s m H x y v u Q I k l h;obtain⟨i,j,rfl,rfl,q⟩:=h;obtain⟨t,rfl⟩:=k;obtain⟨t',rfl⟩:=l;exact d i j t t' s _ _ ⟨.int (g i j),H,I.tok _,⟨_,rfl⟩,q⟩
theorem xA{f:Qv->Qv->Sem Qv}{g:Int->Int->Bool}
  (d:∀(i j:Int) (t u:Tok) (s:QA) (Q:Qv->QA->Prop) (E:Qv->QA->Prop),Q (.bool (g i j)) s->QJ (Q4 X.prog X.w) X.A (f (.int i t) (.int j u)) Q E s):
  gv X f (ro λi j=> .bl (g i j)):=by
 intro e s m H x y v u Q I k l h;obtain⟨i,j,rfl,rfl,q⟩:=h;obtain⟨t,rfl⟩:=k;obtain⟨t',rfl⟩:=l;exact d i j t t' s _ _ ⟨.bl (g i j),H,I,rfl,q⟩
def CDiv(i j:Int):Prop:=0<j/\j<1073741824
def CPow(i j:Int):Prop:=0<=j/\j<=1000000/\i.natAbs<2^64
def IG(i j:Int):Prop:=(-(2^64)<i/\i<2^64)\/(-(2^64)<j/\j<2^64)
theorem IG.ok(h:IG i j):IntMulOk i j:=by
 rcases h with⟨d,e⟩|⟨d,e⟩
 .exact .of_left (intBits_le_64 d e)
 .exact .of_right (intBits_le_64 d e)
theorem o7:gv X (Th .Add) (ro λi j=> .int (i+j)):=MV λ_ _ _ _ _ _ _ q=>add_int q
theorem eW:gv X (Th .Sub) (ro λi j=> .int (i-j)):=MV λ_ _ _ _ _ _ _ q=>sub_int q
theorem MS:gv X (Th .Mult) (rI IG λi j=> .int (i*j)):=ni λ_ _ _ _ _ _ _ hc q=>mul_int q hc.ok
theorem wf:gv X (Th .FloorDiv) (rI CDiv λi j=> .int (i/j)):=ni λi j _ _ _ _ _ hc q=>by
 have d:(0:Int)<j:=hc.1;have e:j<1073741824:=hc.2;exact floordiv_int (by omega) (by rw[Vu i (by omega)];exact q) (.inl (PyProof.noPylong_small (by omega)))
theorem iQ:gv X (Th .Mod) (rI (λ_ j=>0<j) λi j=> .int (i % j)):=ni λi j _ _ _ _ _ hc q=>by
 have d:(0:Int)<j:=hc;exact mod_int' (by omega) (by rw[Int.fmod_eq_emod_of_nonneg i (by omega)];exact q)
theorem MQ:gv X (Th .Pow) (rI CPow λi j=> .int (i^j.toNat)):=ni λ_ _ _ _ _ _ _ hc q=>pow_int_small hc.1 hc.2.1 hc.2.2 q
theorem unI{f:Qv->Sem Qv}{g:Int->Int}
  (d:∀(i:Int) (t:Tok) (s:QA) (Q:Qv->QA->Prop) (E:Qv->QA->Prop),Q (.int (g i) s.toks) {s with toks:=s.toks+1}->QJ (Q4 X.prog X.w) X.A (f (.int i t)) Q E s):
  UnR X f (rU λi=> .int (g i)):=by
 intro e s k H x v Q I j h;obtain⟨i,rfl,q⟩:=h;obtain⟨t,rfl⟩:=j;exact d i t s _ _ ⟨.int (g i),H,I.tok _,⟨_,rfl⟩,q⟩
theorem LQ:UnR X (unaryOp .USub) (rU λi=> .int (-i)):=unI λ_ _ _ _ _ q=>neg_int q
noncomputable def DK:V->V->Bool
 | .non,.non=>Qo| .non,.int _=>Qo| .int _,.non=>Qo| .non,.bl _=>Qo| .bl _,.non=>Qo| .non,.str _=>Qo| .str _,.non=>Qo
 | .int _,.int _=>Qo| .bl _,.bl _=>Qo| .str _,.str _=>Qo
 | .int _,.str _=>Qo| .str _,.int _=>Qo| .bl _,.str _=>Qo| .str _,.bl _=>Qo
 |_,_=>Qr
noncomputable def rEq:R2:=λx y H Q=>DK x y=Qo/\Q (.bl (decide (x=y))) H
noncomputable def rNe:R2:=λx y H Q=>DK x y=Qo/\Q (.bl (!decide (x=y))) H
theorem wL:decide (V.int i=V.int j)=(i==j):=by
 rw[Wg];simp
theorem A_{i j:Bool}:decide (V.bl i=V.bl j)=(i==j):=by
 rw[Wg];simp
theorem wK:decide (V.str i=V.str j)=(i==j):=by
 rw[Wg];simp
theorem d_{k d:Bool}(I:c4 X ba σ H s)(q:Q (.bl k) H)(e:k=d):EP X ba σ Q (.bool d) s:=by
 subst e;exact⟨.bl k,H,I,rfl,q⟩
theorem Pn:gv X (RV .Eq) rEq:=by
 intro f s g H x y v u Q I e d h;obtain⟨hs,q⟩:=h;cases x with
 |non=>
  cases e;cases y with
  |non=>cases d;exact PySem.EqNone.eq_none_none (d_ I q (by simp))
  |bl j=>cases d;exact PySem.EqNone.eq_none_bool (d_ I q (by simp))
  |int j=>obtain⟨t',rfl⟩:=d;exact PySem.EqNone.eq_none_int (d_ I q (by simp))
  |str j=>obtain⟨t',rfl⟩:=d;exact PySem.EqNone.eq_none_str (d_ I q (by simp))
  |_=>exact QX (show Qr=Qo from hs) Qx
 |bl i=>
  cases e;cases y with
  |non=>cases d;exact PySem.EqNone.eq_bool_none (d_ I q (by simp))
  |bl j=>cases d;exact eq_bool (d_ I q A_)
  |str j=>obtain⟨t',rfl⟩:=d;exact PySem.EqMixed.eq_bool_str (d_ I q (by simp))
  |_=>exact QX (show Qr=Qo from hs) Qx
 |int i=>
  obtain⟨t,rfl⟩:=e;cases y with
  |non=>cases d;exact PySem.EqNone.eq_int_none (d_ I q (by simp))
  |int j=>obtain⟨t',rfl⟩:=d;exact eq_int (d_ I q wL)
  |str j=>obtain⟨t',rfl⟩:=d;exact PySem.EqMixed.eq_int_str (d_ I q (by simp))
  |_=>exact QX (show Qr=Qo from hs) Qx
 |str i=>
  obtain⟨t,rfl⟩:=e;cases y with
  |non=>cases d;exact PySem.EqNone.eq_str_none (d_ I q (by simp))
  |bl j=>cases d;exact PySem.EqMixed.eq_str_bool (d_ I q (by simp))
  |int j=>obtain⟨t',rfl⟩:=d;exact PySem.EqMixed.eq_str_int (d_ I q (by simp))
  |str j=>obtain⟨t',rfl⟩:=d;exact eq_str (d_ I q wK)
  |_=>exact QX (show Qr=Qo from hs) Qx
 |_=>cases y<;>exact QX (show Qr=Qo from hs) Qx
theorem Pk:gv X (RV .NotEq) rNe:=by
 intro f s g H x y v u Q I e d h;obtain⟨hs,q⟩:=h;cases x with
 |non=>
  cases e;cases y with
  |non=>cases d;exact PySem.EqNone.ne_none_none (d_ I q (by simp))
  |bl j=>cases d;exact PySem.EqNone.ne_none_bool (d_ I q (by simp))
  |int j=>obtain⟨t',rfl⟩:=d;exact PySem.EqNone.ne_none_int (d_ I q (by simp))
  |str j=>obtain⟨t',rfl⟩:=d;exact PySem.EqNone.ne_none_str (d_ I q (by simp))
  |_=>exact QX (show Qr=Qo from hs) Qx
 |bl i=>
  cases e;cases y with
  |non=>cases d;exact PySem.EqNone.ne_bool_none (d_ I q (by simp))
  |bl j=>cases d;exact ne_bool (d_ I q (RE not A_))
  |str j=>obtain⟨t',rfl⟩:=d;exact PySem.EqMixed.ne_bool_str (d_ I q (by simp))
  |_=>exact QX (show Qr=Qo from hs) Qx
 |int i=>
  obtain⟨t,rfl⟩:=e;cases y with
  |non=>cases d;exact PySem.EqNone.ne_int_none (d_ I q (by simp))
  |int j=>obtain⟨t',rfl⟩:=d;exact ne_int (d_ I q (RE not wL))
  |str j=>obtain⟨t',rfl⟩:=d;exact PySem.EqMixed.ne_int_str (d_ I q (by simp))
  |_=>exact QX (show Qr=Qo from hs) Qx
 |str i=>
  obtain⟨t,rfl⟩:=e;cases y with
  |non=>cases d;exact PySem.EqNone.ne_str_none (d_ I q (by simp))
  |bl j=>cases d;exact PySem.EqMixed.ne_str_bool (d_ I q (by simp))
  |int j=>obtain⟨t',rfl⟩:=d;exact PySem.EqMixed.ne_str_int (d_ I q (by simp))
  |str j=>obtain⟨t',rfl⟩:=d;exact ne_str (d_ I q (RE not wK))
  |_=>exact QX (show Qr=Qo from hs) Qx
 |_=>cases y<;>exact QX (show Qr=Qo from hs) Qx
theorem kH:gv X (RV .Lt) (ro λi j=> .bl (decide (i<j))):=xA λ_ _ _ _ _ _ _ q=>lt_int q
theorem jr:gv X (RV .LtE) (ro λi j=> .bl (decide (i<=j))):=xA λ_ _ _ _ _ _ _ q=>le_int q
theorem mI:gv X (RV .Gt) (ro λi j=> .bl (decide (j<i))):=xA λ_ _ _ _ _ _ _ q=>gt_int q
theorem Pl:gv X (RV .GtE) (ro λi j=> .bl (decide (j<=i))):=xA λ_ _ _ _ _ _ _ q=>ge_int q
theorem uv:gv X (RV .Is) (λx y H Q=>y= .non/\Q (.bl (decide (x= .non))) H):=by
 intro d s g H x y v u Q I e f h;obtain⟨rfl,q⟩:=h;cases f;refine is_none_gen (d_ I q ?_);cases x<;>first
  |(cases e;rfl)
  |(obtain⟨t,rfl⟩:=e;rfl)
theorem gv.or(h:gv X f r)(h':gv X f r'):gv X f (λx y H Q=>r x y H Q\/r' x y H Q):=by
 intro d s e H x y v u Q I g i q;rcases q with q|q
 .exact h d s e H x y v u Q I g i q
 .exact h' d s e H x y v u Q I g i q
theorem uy(b:Expr)(h:op≠ .In:=by decide)(d:op≠ .NotIn:=by decide):Vg op b=Qr:=by
 have e:(op==CmpOp.In)=Qr:=by cases op<;>first|rfl|exact QX rfl h
 have f:(op==CmpOp.NotIn)=Qr:=by cases op<;>first|rfl|exact QX rfl d
 cases b<;>simp[Vg,e,f]
theorem KV(e:gv X (RV op) r)(ha:PE X a ta)(f:PE X b tb)(hm:Vg op b=Qr):PE X (.Compare a [op] [b] pos) (tOp r ta tb):=by
 intro d s g H Q I h;exact wpAny_Compare1 (FV ha f I h λv u i x y j k l m q=>e d i g j x y v u Q k l m q) hm
def w8(t:TE):TT:=λd H Q=>t d H λx e=>∃k,x= .bl k/\Q k e
theorem v5(g:gv X (RV op) r)(ha:PE X a ta)(i:PE X b tb)(hm:Vg op b=Qr):PT X (.Compare a [op] [b] pos) (w8 (tOp r ta tb)):=by
 intro d s f H Q I h;refine wpAny_isTrue_Compare1 (en (ha d s f H _ I h) λv j ⟨x,l,m,r1,q1⟩=>en (i d j f l _ m q1) λu n ⟨y,o,p,q,q2⟩=>
  en (g d n f o x y v u _ p r1 q q2) λc B ⟨z,t,w,A,k,e,q3⟩=>?_) hm
 subst e;cases A;exact RP ⟨t,w,q3⟩
def yY(r f:R2)(ta tb tc:TE):TE:=λd H Q=>ta d H λx g=>tb d g λy h=>r x y h λz e=>∃k,z= .bl k/\
 (if k=Qo then tc d e λi j=>f y i j Q else Q (.bl Qr) e)
theorem DQ(n:gv X (RV op) r)(i:gv X (RV op') r')(ha:PE X a ta)(o:PE X b tb)(hc:PE X c tc)
  (hm:ZS [op,op'] [b,c]=Qr:=by with_unfolding_all rfl):PT X (.Compare a [op,op'] [b,c] pos) (w8 (yY r r' ta tb tc)):=by
 intro f s g H Q I h;refine isTrue_chain (en (ha f s g H _ I h) λv p ⟨x,q,t,r1,q1⟩=>test_link (en (o f p g q _ t q1) λu w ⟨y,A,B,j,q2⟩=>
  en (n f w g A x y v u _ B r1 j q2) λd C ⟨z,l,m,F,k,e,q3⟩=>?_)) hm
 subst e;cases F;refine RP ?_;cases k with
 |false=>
  obtain⟨k',J,L⟩:=q3;cases J;exact ite_ff ⟨l,m,L⟩
 |true=>
  refine ite_tt (test_last (en (hc f C g l _ m q3) λN O ⟨P,R,T,U,q4⟩=>en (i f O g R y P u N _ T j U q4) λd' s5 ⟨z2,W,Y,Z,k2,e2,q5⟩=>?_));subst e2;cases Z;exact RP ⟨W,Y,q5⟩
def IB(K:QR)(x:V)(H:Hp)(k:Bool):Prop:=
 match x with
 | .non=>k=Qr
 | .bl b=>k=b
 | .int i=>k=(i !=0)
 | .str y=>y.length<=QN/\k=((y.length:Int) !=0)
 | .ref p=>(∃xs,f0 K H p xs/\k=!xs.isEmpty)\/∃xs,hO K H p xs/\k=!xs.isEmpty
 |_=>False
theorem pA(r:aw xs its):(!its.toArray.isEmpty)=!xs.isEmpty:=by
 cases r<;>simp
theorem lQ:(QN:Nat)<2^63:=by rw[SU];decide
theorem LS:TruR X (λx H Q=>∃k,IB X.K x H k/\Q k H):=by
 intro l s n H x v Q I f h;obtain⟨k,e,q⟩:=h;have o:=lQ;have hs:QN=16777216:=SU;cases x with
 |non=>
  cases f;have d:k=Qr:=e;subst d;exact truthy_none ⟨H,I,q⟩
 |bl b=>
  cases f;have d:k=b:=e;subst d;exact RP ⟨H,I,q⟩
 |int i=>
  obtain⟨t,rfl⟩:=f;have d:k=(i !=0):=e;subst d;exact PySem.P.truthy_int ⟨H,I,q⟩
 |str y=>
  obtain⟨t,rfl⟩:=f;obtain⟨u,d⟩:y.length<=QN/\k=((y.length:Int) !=0):=e;subst d;exact PySem.P.truthy_str (by omega) ⟨H,I.tok _,q⟩
 |ref p=>
  cases f;have d:(∃xs,f0 X.K H p xs/\k=!xs.isEmpty)\/∃xs,hO X.K H p xs/\k=!xs.isEmpty:=e;rcases d with⟨xs,j,d⟩|⟨xs,j,d⟩
  .subst d
   obtain⟨its,r,pl,m⟩:=I.list j;have g:=r.length;exact wpAny_truthy_list pl.isList (by simp only[QO];omega) ⟨H,I.tok _,by rw[pA r];exact q⟩
  .subst d
   obtain⟨its,r,pl,m⟩:=I.tuple j;have g:=r.length;exact truthy_tuple pl (by simp only[QO];omega) ⟨H,I.tok _,by rw[pA r];exact q⟩
 |_=>exact(show False from e).elim
theorem DP(ha:PE X a ta)(i:∀d,isTrue a X.env d=(do let v <-d;Uh a.pos;UW [v] (truthy v))):
  PT X a (λf H Q=>ta f H λx g=>∃k,IB X.K x g k/\Q k g):=by
 intro e s f H Q I h;exact isTrue_plain (en (ha e s f H _ I h) λv j ⟨x,l,m,r1,q1⟩=>LS e j f l x v Q m r1 q1) (i _)
theorem ij(r:aw [x] us):∃u,us=[u]/\aL x u:=by
 cases r with
 |cons r1 d=>cases d;exact⟨_,rfl,r1⟩
theorem sk(r:aw [x,y] us):∃u d,us=[u,d]/\aL x u/\aL y d:=by
 cases r with
 |cons r1 e=>
  cases e with
  |cons f g=>cases g;exact⟨_,_,rfl,r1,f⟩
theorem ou:cL X (.builtin "abs") (λxs H Q=>∃i,xs=[.int i]/\Q (.int (if i<0 then -i else i)) H):=by
 intro d s e H xs us Q I r h;obtain⟨i,rfl,q⟩:=h;obtain⟨u,rfl,t,rfl⟩:=ij r;exact call_abs_int λu f=>⟨.int (if i<0 then -i else i),H,I.tok _,⟨_,rfl⟩,q⟩
theorem BX(hc:X.calm=Qo):cL X (.builtin "max") (λxs H Q=>∃i j,xs=[.int i,.int j]/\Q (.int (if j>i then j else i)) H):=by
 intro e s f H xs us Q I r h;obtain⟨i,j,rfl,q⟩:=h;obtain⟨u,g,rfl,⟨t,rfl⟩,⟨t',rfl⟩⟩:=sk r;refine max_two_ints (I.ok.hd hc) λh' l k=>⟨_,H,I.kept k,?_,q⟩;by_cases d:j>i
 .rw[Qt d,Qt d];exact⟨_,rfl⟩
 .rw[Qp d,Qp d];exact⟨_,rfl⟩
theorem rL(hc:X.calm=Qo):cL X (.builtin "min") (λxs H Q=>∃i j,xs=[.int i,.int j]/\Q (.int (if j<i then j else i)) H):=by
 intro e s f H xs us Q I r h;obtain⟨i,j,rfl,q⟩:=h;obtain⟨u,g,rfl,⟨t,rfl⟩,⟨t',rfl⟩⟩:=sk r;refine min_two_ints (I.ok.hd hc) λh' l k=>⟨_,H,I.kept k,?_,q⟩;by_cases d:j<i
 .rw[Qt d,Qt d];exact⟨_,rfl⟩
 .rw[Qp d,Qp d];exact⟨_,rfl⟩
theorem rN:cL X (.type "int") (λxs H Q=>(∃i,xs=[.int i]/\Q (.int i) H)\/∃k,xs=[.bl k]/\Q (.int (if k then 1 else 0)) H):=by
 intro d s e H xs us Q I r h;rcases h with⟨i,rfl,q⟩|⟨k,rfl,q⟩
 .obtain⟨u,rfl,t,rfl⟩:=ij r
  exact call_int_int ⟨.int i,H,I,⟨_,rfl⟩,q⟩
 .obtain⟨u,rfl,r1⟩:=ij r
  cases r1;exact call_int_bool ⟨.int (if k then 1 else 0),H,I.tok _,⟨_,rfl⟩,q⟩
structure t0 (h:RQ) (x dx C:Qs) (mA:Rl->Option Qv):Prop where
 obj:h.get? x=on (W9 C dx)
 ns:h.Ns1 dx mA
 ne:dx≠x
theorem AD{h:RQ}(n:h.Ns1 dx mA):∃f,h.get? dx=on f/\∀name,lookIn name f=on (mA name):=by
 obtain⟨o,es,ep,g,hd,i,_,hm⟩:=n;refine⟨o,g,λname=>?_⟩;have e:=hm name;unfold nsFind findBy at e;rw[<-Array.find?_toList]at e;unfold lookIn;rw[hd]
 dsimp only
 split
 .rename_i y q
  rw[q]at e;exact RE on e
 .rename_i q
  rw[q]at e;have a:es.toList.any (·.refKey)=Qr:=by
   rw[ZY];intro y j;obtain⟨z,t,d⟩:=i y (Array.mem_toList_iff.mp j);simp[DictEntry.refKey,d]
  have k:¬es.toList.any (·.refKey)=Qo:=by rw[a];exact Qx
  rw[Qp k];exact RE on e
theorem t0.look(I:t0 h x dx C mA):∃d,PySem.W.InstAt h x (W9 C dx) C (on d)/\∀name,lookIn name d=on (mA name):=
 let ⟨d,ho,hl⟩:=AD I.ns
 ⟨d,⟨I.obj,rfl,rfl,ho⟩,hl⟩
variable{prog:Rc}{w:Ro}{A:RG}{E:Qv->QA->Prop}{s:QA}{K:QR}{x dx C f:Qs}{mA:Rl->Option Qv}{name:Rl}{v:Qv}
theorem Lp{d:Bool}(X:K.In s.heap)(I:t0 s.heap x dx C mA)(g:plainGet K C name=Qo)(i:hasDictIn K C=Qo)
  (ha:UL K (.ref C) name=on Qh) (j:mA name=on v) (e:Zp v=Qo) (h:Q v {s with toks:=s.toks+1}):
  QJ (Q4 prog w) A (getAttr (.ref x) name d) Q E s:=by
 obtain⟨l,J,k⟩:=I.look;exact PySem.W.get_value X J (plainGet_of g).1 (PySem.W.findObj_own i ha rfl (by rw[k,j])) e h
theorem FG(X:K.In s.heap)(I:t0 s.heap x dx C mA)(d:plainGet K C name=Qo)
  (e:UL K (.ref C) name=on (on (.ref f))) (g:isFn K (.ref f)=Qo) (i:mA name=Qh) (h:Q (.ref f,[.ref x]) s):
  QJ (Q4 prog w) A (W8 (.ref x) name pl) Q E s:=by
 obtain⟨j,J,k⟩:=I.look;exact PySem.W.method_fn X J (plainGet_of d).1 (plainGet_of d).2 e (beq_iff_eq.mp g) (by show(lookIn name j).map (·.isSome)=on Qr;rw[k,i];rfl) h
theorem KC{ns:List Rl}(X:K.In s.heap)(I:t0 s.heap x dx C mA)
  (hs:UL K (.ref C) "__setattr__"=on (on (.builtin "object.__setattr__"))) (l:Zb K C=Qo) (m:takerIn K C name=on Qh) (n:hasDictIn K C=Qo)
  (o:WZ mA ns) (p:ns.length<=QN)
  (h:∀h',t0 h' x dx C (λy=>if y=name then on v else mA y)->Rb dx s.heap h'->Q () {s with heap:=h',toks:=s.toks+2}):
  QJ (Q4 prog w) A (setAttr (.ref x) name v) Q E s:=by
 obtain⟨B,J,F⟩:=I.look;refine PySem.W.set_plain X J hs (PySem.W.osa_open (s:={s with toks:=s.toks+1}) (r:=Qh) X J l m λb=>?_);obtain⟨cd,hc,g⟩:=PySem.W.any_some n;have q:s.heap.get? x=on ⟨.ref C,on dx,.plain,#[]⟩:=I.obj;refine My (Qj (My (My (wpAny_loadPart q (My (PySem.W.Looks.here (s:={s with toks:=s.toks+1}) (PySem.W.looks_clsIn X hc) ?_))))));rw[g];refine Qj (a:=on dx) (My (Qj (My ?_)));refine wpAny_nsSet1 (s:={s with toks:=s.toks+1}) I.ns λh' d e=>?_;obtain⟨H,t,u,i,j,k⟩:=d.count (WZ.cons name v o);refine My (wpAny_lookBehind i (by rw[j];exact pastItsLine_dict (Qw k (by rw[QP];omega))) ?_);exact Qj (h _ ⟨(e.2 _ (Ne.symm I.ne)).trans I.obj,d,I.ne⟩ e)
theorem EI(X:K.In s.heap)(hm:ZJ K C=Qo)
  (e:UL K (.ref C) "__init__"=on (on (.ref f))) (i:PySem.W.typeIn K (.ref f)=on (.type "function"))
  (h:UH (Q4 prog w) (A.under (.builtin "type.__call__" ⟨.ref C::vs,kw⟩)) (.call (.ref f) ⟨.ref (s.heap.objs.size+1)::vs,kw⟩) (PySem.W.InitBack (s.heap.objs.size+1) R)
   {s with heap:=(s.heap.push Va).push (W9 C s.heap.objs.size)}):
  UH (Q4 prog w) A (.call (.ref C) ⟨vs,kw⟩) R s:=by
 obtain⟨j,g,d,t,os⟩:=s;exact PySem.W.make_core (PySem.W.makes_of X hm) (PySem.W.looks_findIn X e) (λself=>PySem.W.bind_fn X self i) (.inl rfl) h
noncomputable def dn(f:Rl)(v:V):List (Rl×V)->List (Rl×V)
 |[]=>[(f,v)]
 |(g,x)::r=>if g=f then(g,v)::r else(g,x)::dn f v r
theorem ny(f g:Rl)(v:V):∀fs:List (Rl×V),(dn f v fs).lookup g=if g=f then on v else fs.lookup g
 |[]=>by
  show U1 g [(f,v)]=_;by_cases h:g=f
  .have d:(g==f)=Qo:=beq_iff_eq.mpr h
   simp only[U1,d,Qt h]
  .have d:(g==f)=Qr:=beq_eq_false_iff_ne.mpr h
   simp only[U1,d,Qp h]
 |(k,x)::r=>by
  have ih:=ny f g v r;rw[show dn f v ((k,x)::r)=(if k=f then(k,v)::r else(k,x)::dn f v r)from rfl];by_cases i:k=f
  .rw[Qt i]
   by_cases h:g=k
   .have d:(g==k)=Qo:=beq_iff_eq.mpr h
    simp only[U1,d,Qt (h.trans i)]
   .have d:(g==k)=Qr:=beq_eq_false_iff_ne.mpr h
    simp only[U1,d,Qp (λe:g=f=>h (e.trans i.symm))]
  .rw[Qp i]
   by_cases h:g=k
   .have d:(g==k)=Qo:=beq_iff_eq.mpr h
    simp only[U1,d,Qp (λe:g=f=>i (h.symm.trans e))]
   .have d:(g==k)=Qr:=beq_eq_false_iff_ne.mpr h
    simp only[U1,d];exact ih
theorem lU(f:Rl)(v:V):∀fs:List (Rl×V),f∈(dn f v fs).map (·.1)/\∀g,g∈fs.map (·.1)->g∈(dn f v fs).map (·.1)
 |[]=>⟨by simp[dn],λg h=>by simp at h⟩
 |(k,x)::r=>by
  obtain⟨i,j⟩:=lU f v r;rw[show dn f v ((k,x)::r)=(if k=f then(k,v)::r else(k,x)::dn f v r)from rfl];by_cases d:k=f
  .rw[Qt d]
   subst d;exact⟨by simp,λg h=>by simpa using h⟩
  .rw[Qp d]
   refine⟨?_,λg h=>?_⟩
   .rw[QB]
    exact Qk _ i
   .rw[QB]at h⊢
    rcases QD.mp h with e|e
    .exact QD.mpr (.inl e)
    .exact Qk _ (j g e)
theorem nz(f:Rl)(v:V):∀fs:List (Rl×V),(dn f v fs).length<=fs.length+1
 |[]=>by simp[dn]
 |(k,x)::r=>by
  have ih:=nz f v r;rw[show dn f v ((k,x)::r)=(if k=f then(k,v)::r else(k,x)::dn f v r)from rfl];by_cases d:k=f
  .rw[Qt d,QP,QP];omega
  .rw[Qp d,QP,QP];omega
theorem ib.some_of{v:V}(r:ib (on v) o):∃u,o=on u/\aL v u:=by
 cases o with
 |none=>exact(show False from r).elim
 |some u=>exact⟨u,rfl,r⟩
theorem ib.none_of(r:ib Qh o):o=Qh:=by
 cases o with
 |none=>rfl
 |some u=>exact(show False from r).elim
theorem BD{v:V}(r:aL v u):Zp u=Qo:=by
 cases v with
 |non=>cases(show u=RA from r);rfl
 |bl b=>cases(show u=WP b from r);rfl
 |int i=>obtain⟨t,e⟩:=(show ∃t,u=Ud i t from r);cases e;rfl
 |str x=>obtain⟨t,e⟩:=(show ∃t,u=Z9 x t from r);cases e;rfl
 |ref a=>cases(show u=QU a from r);rfl
 |ty n=>cases(show u=Ts n from r);rfl
end
section
variable{P:Rc}{w:Ro}{H H':Hp}{h h':RQ}{a C dx:Qs}{fs fs':List (Rl×V)}
theorem jX(hok:lc P w H h)(e:H a=on (.ins C dx fs)):∃b,t0 h a dx C b/\(∀f,ib (fs.lookup f) (b f))/\WZ b (fs.map (·.1))/\fs.length<=1000/\H dx=on (.own a):=by
 obtain⟨d,z,ne,c,b,n,r,q⟩:=(show bD P w H h a (.ins C dx fs)from hok a _ e);exact⟨b,⟨c,n,ne⟩,r,q,z,d⟩
structure r_ (K:QR) (C:Qs):Prop where
 pg:plainGet K C Ul=Qo
 hd:hasDictIn K C=Qo
 po:Zb K C=Qo
 sa:UL K (.ref C) "__setattr__"=on (on (.builtin "object.__setattr__"))
theorem r_.get{K:QR}{C:Qs}(c:r_ K C)(f:Rl):plainGet K C f=Qo:=c.pg
def dM(K:QR)(C:Qs)(f:Rl):Prop:=UL K (.ref C) f=on Qh
theorem dM.taker{K:QR}{C:Qs}(n:dM K C f):takerIn K C f=on Qh:=by
 unfold takerIn;rw[show UL K (.ref C) f=on Qh from n];rfl
structure nB (K:QR) (C:Qs) (m:Rl) (f:Qs):Prop where
 at_:UL K (.ref C) m=on (on (.ref f))
 fn:isFn K (.ref f)=Qo
 kp:VZ K (.ref f)=Qo
variable{X:Cx}{ba:List (Qs×Q0)}{σ:St}{s:QA}{f:Rl}{v:V}{A:RG}{E:Qv->QA->Prop}
theorem ya{b:Bool}(I:c4 X ba σ H s)(e:H a=on (.ins C dx fs))(c:r_ X.K C)(n:dM X.K C f)(l:fs.lookup f=on v)
  (h:∀u s',c4 X ba σ H s'->aL v u->Q u s'):QJ (Q4 X.prog X.w) A (getAttr (.ref a) f b) Q E s:=by
 obtain⟨g,O,r,_,_,_⟩:=jX I.hok e;obtain⟨u,i,d⟩:=ib.some_of (v:=v) (o:=g f) (by rw[<-l];exact r f);exact Lp I.kIn O (c.get f) c.hd n i (BD d) (h u _ (I.tok _) d)
theorem pG(I:c4 X ba σ H s)(e:H a=on (.ins C dx fs))(c:r_ X.K C)(k:nB X.K C m g)(l:fs.lookup m=Qh)
  (h:Q (.ref g,[.ref a]) s):QJ (Q4 X.prog X.w) A (W8 (.ref a) m pl) Q E s:=by
 obtain⟨b,O,r,_,_,_⟩:=jX I.hok e;have hn:b m=Qh:=ib.none_of (by rw[<-l];exact r m);exact FG I.kIn O (c.get m) k.at_ k.fn hn h
theorem xj(I:c4 X ba σ H s)(e:H a=on (.ins C dx fs))(c:r_ X.K C)(n:dM X.K C f)(F:fs.length<1000)(l:aL y u)
  (h:∀s',c4 X ba σ (upd H a (.ins C dx (dn f y fs))) s'->Q () s'):QJ (Q4 X.prog X.w) A (setAttr (.ref a) f u) Q E s:=by
 obtain⟨i,O,r,j,_,k⟩:=jX I.hok e;have m:(fs.map (·.1)).length<=QN:=by rw[Qi,SU];omega
 refine KC I.kIn O c.sa c.po n.taker c.hd j m λh' d p=>h _ ?_;have hd:∃o,h'.get? dx=on o:=let ⟨o,_,_,e',_⟩:=d.ns;⟨o,e'⟩
 refine I.write (x:=a) (e:=dx) (by rw[e];exact T9) (.inr k) (λb q t z=>(p.2 b t).trans z) hd ?_;refine⟨by rw[b_ O.ne];exact k,?_,O.ne,d.obj,_,d.ns,λg=>?_,λg B=>?_⟩
 .have:=nz f y fs;omega
 .show ib ((dn f y fs).lookup g) (if g=f then on u else i g)
  rw[ny];by_cases q:g=f
  .rw[Qt q,Qt q];exact l
  .rw[Qp q,Qp q];exact r g
 .by_cases q:g=f
  .rw[q];exact(lU f y fs).1
  .refine(lU f y fs).2 g (j g λz=>B ?_)
   show(if g=f then on u else i g)=Qh;rw[Qp q];exact z
theorem c4.made(I:c4 X ba σ H s):c4 X ba σ (upd (upd H s.heap.objs.size (.own (s.heap.objs.size+1))) (s.heap.objs.size+1) (.ins C s.heap.objs.size []))
  {s with heap:=(s.heap.push Va).push (W9 C s.heap.objs.size)}:=by
 have c:(s.heap.push Va).get? s.heap.objs.size=on Va:=QK s.heap rfl;have d:((s.heap.push Va).push (W9 C s.heap.objs.size)).get? (s.heap.objs.size+1)=on (W9 C s.heap.objs.size):=by
  have:=QK (s.heap.push Va) (o:=W9 C s.heap.objs.size) rfl;rwa[Sj]at this
 have g:(s.heap.push Va).Ns s.heap.objs.size (λ_=>Qh):=⟨Va,#[],_,c,rfl,(λe i=>QX i (by simp)),λ_=>rfl⟩;have j:=I.laid (a:=s.heap.objs.size) (o:= .own (s.heap.objs.size+1)) (h':=s.heap.push Va) (t':=s.toks) (λb u q=>Qm _ q) (Qz _) ⟨_,c⟩;refine j.laid (a:=s.heap.objs.size+1) (o:= .ins C s.heap.objs.size []) (t':=s.toks) (λb u q=>Qm _ q) (Nat.le_of_eq (Sj _ _)) ?_;have ne:s.heap.objs.size≠s.heap.objs.size+1:=Rr (V8 _);refine⟨by rw[b_ ne,ah],RB _,ne,d,λ_=>Qh,(Heap.Ns1.of_empty g).at λo q=>Qm _ q,λ_=>T9,λy k=>QX rfl k⟩
theorem LD{w:Ro}{f:Rl}{s:QA}(c:UF e f env (RN e env)=RN e env)
  (h:QJ (Q4 prog w) A (RN e env) (λo b=>QJ (Q4 prog w) A (getAttr o f Qo) Q E b) E s):QJ (Q4 prog w) A (RN (.Attribute e f pos) env) Q E s:=
 Attribute_any_ h (by rw[arm_eval_Attribute,c])
def tFld(K:QR)(c:TE)(f:Rl):TE:=λσ H Q=>c σ H λx b=>∃a C dx fs v,x= .ref a/\b a=on (.ins C dx fs)/\r_ K C/\dM K C f/\fs.lookup f=on v/\Q v b
def Mn(K:QR)(c d:TE)(f:Rl):TS:=λD σ H=>d σ H λy e=>c σ e λx b=>∃a C dx fs,x= .ref a/\b a=on (.ins C dx fs)/\r_ K C/\dM K C f/\fs.length<1000/\
 D.nx σ (upd b a (.ins C dx (dn f y fs)))
variable{o e value:Expr}{pos pos' tpos:Vm}{ta tv:TE}
theorem MM(b:PE X e ta)(d:UF e f X.env (RN e X.env)=RN e X.env):PE X (.Attribute e f pos) (tFld X.K ta f):=by
 intro ba s σ H Q I h;refine LD d (en (b ba s σ H _ I h) λu r ⟨x,g,i,j,a,C,dx,fs,v,ex,k,c,n,l,q⟩=>?_);subst ex;obtain rfl:u=QU a:=j;exact ya i k c n l λt y m p=>⟨v,g,m,p,q⟩
theorem o6(ha:PE X o ta)(b:PE X value tv)(hs:Vb value (on (.Attribute o f pos')) pos.line X.env=SY Qr):PS X (.Assign [.Attribute o f pos'] value pos) (Mn X.K ta tv f):=by
 intro ba s σ H D I h;refine plainObj_wpAny_Assign_Attribute (en (b ba s σ H _ I h) λu d ⟨y,g,i,j,q⟩=>en (ha ba d σ g _ i q) λk B ⟨x,F,m,p,a,C,dx,fs,ex,r,c,n,l,q2⟩=>?_) hs;subst ex;obtain rfl:k=QU a:=p;exact xj m r c n l j λJ t=>⟨σ,_,t,q2⟩
variable{Q:Qv->QA->Prop}{c:Qv}{b:Bool}
inductive ms (K:QR) (H:Hp):V->Qv->Prop where
 |non:ms K H .non (.type "NoneType")
 |bl (x:Bool):ms K H (.bl x) (.type "bool")
 |int (i:Int):ms K H (.int i) (.type "int")
 |str (x:Rl):ms K H (.str x) (.type "str")
 |lst {a:Qs} {xs:List V} (e:H a=on (.lst xs)):ms K H (.ref a) (.type "list")
 |frz {a:Qs} {o:Q0} {xs:List V} (e:H a=on (.frz o (.lst xs))):ms K H (.ref a) (.type "list")
 |tup {a:Qs} {xs:List V} (e:H a=on (.tup xs)):ms K H (.ref a) (.type "tuple")
 |ins {a C dx:Qs} {fs:List (Rl×V)} (e:H a=on (.ins C dx fs)) (cl:r_ K C) (ha:UL K (.ref C) "__class__"=on (on (.builtin "object.__class__")))
  (hn:specialIn K (.builtin "object.__class__") "__get__"=on (on (.builtin "getset_descriptor.__get__"))) (htk:ZK K (.builtin "object.__class__")=on Qo)
  (hm:PySem.W.mroIn K C (.type "object")=on Qo):ms K H (.ref a) (.ref C)
theorem AV(I:c4 X ba σ H s)(d:aL x u)(ty:ms X.K H x t)(e:kitOne X.K t c=on b)(h:∀j,Q (.bool b) {s with toks:=j}):
  QJ (Q4 X.prog X.w) A (Xq (.builtin "isinstance") [u,c]) Q E s:=by
 cases ty with
 |non=>cases(show u=RA from d);exact Wc Za I.kIn T9 e (λz=>nomatch z) h
 |bl y=>cases(show u=WP y from d);exact Wc Y9 I.kIn T9 e (λz=>nomatch z) h
 |int i=>obtain⟨t,q⟩:=(show ∃t,u=Ud i t from d);cases q;exact Wc Zq I.kIn T9 e (λz=>nomatch z) h
 |str y=>obtain⟨t,q⟩:=(show ∃t,u=Z9 y t from d);cases q;exact Wc Zs I.kIn T9 e (λz=>nomatch z) h
 |@lst a xs ea=>
  cases(show u=QU a from d);obtain⟨_,_,n,_,g⟩:=(show bD X.prog X.w H s.heap a (.lst xs)from I.hok a _ ea);exact Wc Xa I.kIn ⟨_,g,rfl⟩ e (λz=>nomatch z) h
 |@frz a ob xs ea=>
  cases(show u=QU a from d);obtain⟨_,_,_,n,_,g⟩:=(show bD X.prog X.w H s.heap a (.frz ob (.lst xs))from I.hok a _ ea);exact Wc Xa I.kIn ⟨_,g,rfl⟩ e (λz=>nomatch z) h
 |@tup a xs ea=>
  cases(show u=QU a from d);obtain⟨_,_,_,p⟩:=(show bD X.prog X.w H s.heap a (.tup xs)from I.hok a _ ea);obtain⟨o,g,k,_⟩:=p;exact Wc YW I.kIn ⟨o,g,k⟩ e (λz=>nomatch z) h
 |@ins a C dx fs ea cl ha hn htk hm=>
  cases(show u=QU a from d);obtain⟨l,O,_⟩:=jX I.hok ea;obtain⟨m,J,_⟩:=O.look;exact Wc (Zr (cl.get _) cl.hd ha hn htk hm) I.kIn J e (λz=>nomatch z) h
structure ej (k:Nat) (A:RG):Prop where
 hd:A.handled=Qh
 dp:A.depth+3*k+5<recursionLimit
 un:A.units+16*k+200<U4
 gd:A.guards=on []
theorem ej.mono{A:RG}(r:ej k A)(h:j<=k):ej j A:=⟨r.hd,by have:=r.dp;omega,by have:=r.un;omega,r.gd⟩
theorem ej.deeper{A:RG}(r:ej (k+1) A)(env:XH):ej k (A.deeper env):=
 ⟨r.hd,by have:=r.dp;show A.depth+1+3*k+5<_;omega,by have:=r.un;show A.units+3+16*k+200<_;omega,r.gd⟩
theorem xP{A:RG}{C:Qs}:(A.under (.builtin "type.__call__" ⟨.ref C::us,kw⟩)).depth=A.depth+1:=by
 first|rfl|simp[WS,Code.weight,Code.isCreation,Code.isGuard,Code.isCaller,Code.frames,Yy,guardIds]
theorem xO{A:RG}{C:Qs}:(A.under (.builtin "type.__call__" ⟨.ref C::us,kw⟩)).units=A.units+1:=by
 first|rfl|simp[WS,Code.cUnits,Code.frames,Yy]
theorem ej.make{A:RG}(r:ej (k+1) A)(C:Qs)(us:List Qv)(d:List (Rl×Qv)):ej k (A.under (.builtin "type.__call__" ⟨.ref C::us,d⟩)):=
 ⟨r.hd,by have:=r.dp;rw[xP];omega,by have:=r.un;rw[xO];omega,by first|exact r.gd|simp[WS,Code.guards,Code.isGuard,guardIds,pushGuards,r.gd]⟩
theorem ej.depth{A:RG}(r:ej k A):A.depth<recursionLimit:=by have:=r.dp;omega
theorem ej.units{A:RG}(r:ej k A):A.units+64<U4:=by have:=r.un;omega
noncomputable def DC:TA:=λ_ H Q=>Q [] H
def IW(ta:TE)(tr:TA):TA:=λσ H Q=>ta σ H λx d=>tr σ d λxs g=>Q (x::xs) g
variable{es:List Expr}{te:TE}{t:TA}
theorem fI:PA X [] DC:=λ_ _ _ _ H Q I h=>ZC ⟨[],H,I,.nil,h⟩
theorem dN(ha:PE X e te)(d:PA X es t)(hs:QH (e::es) X.env=(Qr,RN e X.env)::QH es X.env:=by rfl):PA X (e::es) (IW te t):=by
 intro pos ba s σ H Q I h;rw[hs];show QJ _ _ (spliced ((Qr,RN e X.env)::S4 pos (QH es X.env))) _ _ s;refine Ze (en (ha ba s σ H _ I h) λu g ⟨x,i,j,r1,q1⟩=>?_);exact en (d pos ba g σ i _ j q1) λus n ⟨xs,k,l,m,q2⟩=>⟨x::xs,k,l,.cons r1 m,q2⟩
def tTup(t:TA):TE:=λσ H Q=>t σ H λxs d=>xs.length<=QN/\∀p,d p=Qh->Q (.ref p) (upd d p (.tup xs))
def LW(t:TA):TE:=λσ H Q=>t σ H λxs d=>xs.length<=QN/\∀p,d p=Qh->Q (.ref p) (upd d p (.lst xs))
theorem MI{x1}(h:PA X es t):PE X (.Tuple es x1 pos) (tTup t):=by
 intro ba s σ H Q I j;refine wpAny_Tuple_spliced (en (h pos ba s σ H _ I j) λus d ⟨xs,g,i,r,z,q⟩=>⟨by rw[<-r.length];exact z,?_⟩);have k:g d.heap.objs.size=Qh:=i.hok.fresh (Qz _);refine⟨.ref d.heap.objs.size,upd g d.heap.objs.size (.tup xs),i.laid (t':=d.toks) (λb u e=>Qm _ e) (Qz _) ?_,rfl,q _ k⟩;exact⟨z,us,r,⟨_,QK _ rfl,rfl,_,rfl⟩⟩
theorem gF(h:PA X es t):PE X (.List es pos) (LW t):=by
 intro ba s σ H Q I j;refine wpAny_List_spliced (en (h pos ba s σ H _ I j) λus d ⟨xs,g,i,r,z,q⟩=>⟨by rw[<-r.length];exact z,?_⟩);have k:g d.heap.objs.size=Qh:=i.hok.fresh (Qz _);refine⟨.ref d.heap.objs.size,upd g d.heap.objs.size (.lst xs),i.laid (t':=d.toks) (λb u e=>Qm _ e) (Qz _) ?_,rfl,q _ k⟩;exact⟨z,us,0,r,QK _ rfl⟩
abbrev Sp:=List V->Hp->VK->XK->Prop
abbrev F0:=List XH->Hp->QA->XK->Qv->QA->Prop
structure t_ (P:Rc) (w:Ro) (K:QR) (mg:Rl->Option Qv) (base:RQ) (A:RG) (outer:List XH) (s:QA) (H:Hp):Prop where
 frames:A.frames=on outer
 mod:Mod K mg base
 bs:∀b o,base.get? b=on o->s.heap.get? b=on o/\H b=Qh
 bsz:base.objs.size<=s.heap.objs.size
 funs:s.heap.FunFrames base outer
 frf:∀b∈hE outer,H b=Qh
 hok:lc P w H s.heap
 bare:VE s.gens
def CE(outer:List XH)(P:Rc)(w:Ro)(H:Hp)(s:QA)(Q:VK)(u:Qv)(s':QA):Prop:=
 ∃v H',s'.os=s.os/\VE s'.gens/\Un (hE outer) [] H H' s.heap s'.heap/\lc P w H' s'.heap/\aL v u/\Q v H'
def CR(CX:F0)(outer:List XH)(P:Rc)(w:Ro)(H:Hp)(s:QA)(Q:VK)(E:XK)(r:Result)(s':QA):Prop:=
 match r with
 | .ok (.ret u)=>CE outer P w H s Q u s'
 | .ok _=>False
 | .error e=>CX outer H s E e s'
structure fw (P:Rc) (w:Ro) (K:QR) (mg:Rl->Option Qv) (base:RQ) (CX:F0) (k:Nat) (f:Qs) (fd:Q2) (ps:List Rl) (sp:Sp):Prop where
 len:∀vs H Q E,sp vs H Q E->vs.length=ps.length
 run:∀(A:RG) (outer:List XH) (s:QA) (H:Hp) (args:Args) (us:List Qv) (vs:List V) (Q:VK) (E:XK),ej k A->t_ P w K mg base A outer s H->ZU s fd args (ps.zip us)->aw vs us->sp vs H Q E->
  UH (Q4 P w) A (.call (.ref f) args) (CR CX outer P w H s Q E) s
theorem fw.mono{P:Rc}{w:Ro}{K:QR}{f:Qs}(F:fw P w K mg base CX j f fd ps sp)(h:j<=k):
  fw P w K mg base CX k f fd ps sp:=⟨F.len,λA outer s H args us vs Q E d=>F.run A outer s H args us vs Q E (d.mono h)⟩
theorem t_.make{P:Rc}{w:Ro}{K:QR}{A:RG}{s:QA}{H:Hp}(e:t_ P w K mg base A outer s H)(C:Qs)(us:List Qv)(d:List (Rl×Qv)):
  t_ P w K mg base (A.under (.builtin "type.__call__" ⟨.ref C::us,d⟩)) outer s H:=⟨by first|exact e.frames|(simpa[WS,Code.envs,Yy,pushEnvs]using e.frames),e.mod,e.bs,e.bsz,e.funs,e.frf,e.hok,e.bare⟩
variable{s':QA}
theorem c4.env0(I:c4 X ba σ H s):t_ X.prog X.w X.K X.mg X.base X.A X.stack s H:=
 ⟨I.ok.frames,I.ok.mod,I.bs,Qw I.ok.bsz I.sz,I.stack,I.stkFree,I.hok,I.bare⟩
theorem c4.after{Q:VK}(I:c4 X ba σ H s)(h:CE X.stack X.prog X.w H s Q u s'):EP X ba σ Q u s':=by
 obtain⟨v,H',os,bare,un,hok,r,q⟩:=h;obtain⟨j,g,d,t,i⟩:=s';obtain rfl:i=s.os:=os;exact⟨v,H',I.call (h':=j) (g':=g) (d':=d) (t':=t) (ch:=[]) un hok bare (λb z=>QX z (by simp)),r,q⟩
def O0(sp:Sp)(d:List V)(E:St->XK)(t:TA):TE:=λσ H Q=>t σ H λvs g=>sp (vs++d) g Q (E σ)
def xa(C:Qs)(m:Rl)(sp:Sp)(d:List V)(E:St->XK)(ta:TE)(t:TA):TE:=λσ H Q=>ta σ H λx g=>∃a dx fs,x= .ref a/\g a=on (.ins C dx fs)/\fs.lookup m=Qh/\
 t σ g λvs i=>sp (x::(vs++d)) i Q (E σ)
def OY(C:Qs)(sp:Sp)(d:List V)(E:St->XK)(t:TA):TE:=λσ H Q=>t σ H λvs g=>∀x dx,g x=Qh->g dx=Qh->dx≠x->
 sp (.ref x::(vs++d)) (upd (upd g dx (.own x)) x (.ins C dx [])) (λv i=>v= .non/\Q (.ref x) i) (E σ)
def aB(K:QR)(d:Q2)(ps:List Rl)(ds:List Qv):Prop:=
 ∀(s:QA) (us:List Qv),K.In s.heap->(us++ds).length=ps.length->ZU s d ⟨us,[]⟩ (ps.zip (us++ds))
theorem aB.all{K:QR}{ps:List Rl}(h:∀us:List Qv,us.length=ps.length->bindArgs fd ⟨us,[]⟩=SY (ps.zip us)):aB K fd ps []:=λs us _ d=>by
 rw[RJ]at d⊢;exact .of_eq (h us d)
def cE(CX:F0)(X:Cx)(E:St->XK):Prop:=∀(ba:List (Qs×Q0)) (σ:St) (H:Hp) (s:QA) (e:Qv) (s':QA),c4 X ba σ H s->CX X.stack H s (E σ) e s'->X.xe e s'
end
section
variable{X:Cx}{CX:F0}{k:Nat}{f C:Qs}{fd:Q2}{ps:List Rl}{sp:Sp}{dvs:List V}{ds:List Qv}{E:St->XK}{x m:Rl}{p pos apos:Vm}{e o:Expr}{es:List Expr}{ta:TE}{t:TA}
theorem ug(F:fw X.prog X.w X.K X.mg X.base CX k f fd ps sp)(c:ej k X.A)(d:aB X.K fd ps ds)(hd:aw dvs ds)(g:cE CX X E)
  (I:c4 X ba σ H s) (r:aw vs us) (h:sp (vs++dvs) H Q (E σ)):QJ (Q4 X.prog X.w) X.A (Xq (.ref f) us) (EP X ba σ Q) X.xe s:=by
 have b:aw (vs++dvs) (us++ds):=r.append hd;have i:(us++ds).length=ps.length:=by rw[<-b.length];exact F.len _ _ _ _ h
 refine wpAny_call (VN (F.run X.A X.stack s H ⟨us,[]⟩ (us++ds) (vs++dvs) Q (E σ) c I.env0 (d s us I.kIn i) b h) λr s' a=>?_);cases r with
 |error e=>exact g ba σ H s e s' I a
 |ok fl=>
  cases fl with
  |ret u=>exact I.after a
  |next=>exact S8 a
  |brk=>exact S8 a
  |cont=>exact S8 a
theorem mG(F:fw X.prog X.w X.K X.mg X.base CX k f fd ps sp)(g:ej k X.A)(i:Gl X x)(hm:X.mg x=on (.ref f))(j:VZ X.K (.ref f)=Qo)(l:aB X.K fd ps ds)(hd:aw dvs ds)(n:cE CX X E)
  (ha:PA X (e::es) t) (b:(x==("__debug__":Rl))=Qr:=by decide) (u:QH (e::es) X.env=(Qr,RN e X.env)::QH es X.env:=by rfl) (c:(S4 pos (QH es X.env)).any (·.1)=Qr:=by rfl):
  PE X (.Call (.Name x p) (e::es) [] pos) (O0 sp dvs E t):=by
 intro a s v H Q I h;refine V1 (qx I i hm ?_ b);refine callWith_K (h₀:=X.base) I.ok.mod.kin j (en (ha pos a s v H _ I h) λus y ⟨vs,B,d,r,q⟩=>⟨d.kIn,?_⟩) u c;exact ug F g l hd n d r q
theorem KR(v:PE X o ta)(c:r_ X.K C)(hm:nB X.K C m f)(F:fw X.prog X.w X.K X.mg X.base CX k f fd ps sp)(y:ej k X.A)(B:aB X.K fd ps ds)(hd:aw dvs ds)(J:cE CX X E)(ha:PA X (e::es) t)
  (d:QH (e::es) X.env=(Qr,RN e X.env)::QH es X.env:=by rfl) (g:(S4 pos (QH es X.env)).any (·.1)=Qr:=by rfl)
  (L:RN (.Call (.Attribute o m apos) (e::es) [] pos) X.env=(do
   let ov <-RN o X.env
   Uh apos.atName
   let (f,first) <-UW [ov] (W8 ov m pl)
   callWith pos f first (S4 pos (QH (e::es) X.env)) (XO pos (Wb [] X.env))):=by rfl):
  PE X (.Call (.Attribute o m apos) (e::es) [] pos) (xa C m sp dvs E ta t):=by
 intro b s i H Q I h;refine Ym (pl:=pl) (en (v b s i H _ I h) λu N ⟨x,O,j,P,a,T,fs,ex,R,l,q⟩=>?_) L;subst ex;obtain rfl:u=QU a:=P;refine pG j R c hm l ?_;refine callWith_K (first:=[.ref a]) (h₀:=X.base) I.ok.mod.kin hm.kp (en (ha pos b N i O _ j q) λus U ⟨vs,W,n,r,q2⟩=>⟨n.kIn,?_⟩) d g
 exact ug (us:= .ref a::us) (vs:= .ref a::vs) F y B hd J n (.cons rfl r) q2
theorem DW(g:PE X o ta)(c:r_ X.K C)(hm:nB X.K C m f)(F:fw X.prog X.w X.K X.mg X.base CX k f fd ps sp)(i:ej k X.A)(j:aB X.K fd ps ds)(hd:aw dvs ds)(n:cE CX X E)
  (r:RN (.Call (.Attribute o m apos) [] [] pos) X.env=(do
   let ov <-RN o X.env
   Uh apos.atName
   let (f,first) <-UW [ov] (W8 ov m pl)
   callWith pos f first (S4 pos (QH [] X.env)) (XO pos (Wb [] X.env))):=by rfl):
  PE X (.Call (.Attribute o m apos) [] [] pos) (xa C m sp dvs E ta DC):=by
 intro b s v H Q I h;refine Ym (pl:=pl) (en (g b s v H _ I h) λu J ⟨x,L,d,y,a,N,fs,ex,B,l,q⟩=>?_) r;subst ex;obtain rfl:u=QU a:=y;refine pG d B c hm l ?_;exact PySem.W.callWith_K0 (first:=[.ref a]) d.kIn hm.kp (ug (us:=[.ref a]) (vs:=[.ref a]) F i j hd n d (.cons rfl .nil) q)
structure Mk (K:QR) (C f:Qs):Prop where
 makes:ZJ K C=Qo
 init:UL K (.ref C) "__init__"=on (on (.ref f))
 fn:isFn K (.ref f)=Qo
 kp:VZ K (.ref C)=Qo
theorem DM(M:Mk X.K C f)(F:fw X.prog X.w X.K X.mg X.base CX k f fd ps sp)(i:ej (k+1) X.A)(j:aB X.K fd ps ds)(hd:aw dvs ds)
  (l:cE CX X E) (I:c4 X ba σ H s) (r:aw vs us)
  (h:∀x b,H x=Qh->H b=Qh->b≠x->sp (.ref x::(vs++dvs)) (upd (upd H b (.own x)) x (.ins C b [])) (λv n=>v= .non/\Q (.ref x) n) (E σ)):
  QJ (Q4 X.prog X.w) X.A (Xq (.ref C) us) (EP X ba σ Q) X.xe s:=by
 have d:=h (s.heap.objs.size+1) s.heap.objs.size (I.hok.fresh (VS _)) (I.hok.fresh (Qz _)) (Rr (V8 _));have c:=c4.made (C:=C) I;have g:aw (V.ref (s.heap.objs.size+1)::(vs++dvs)) (QU (s.heap.objs.size+1)::(us++ds)):= .cons rfl (r.append hd);have q:(QU (s.heap.objs.size+1)::us++ds).length=ps.length:=by
  have e:=g.length;rw[F.len _ _ _ _ d]at e;exact e.symm
 refine wpAny_call (EI (f:=f) I.kIn M.makes M.init (beq_iff_eq.mp M.fn) (VN (F.run _ X.stack _ _ ⟨QU (s.heap.objs.size+1)::us,[]⟩ (QU (s.heap.objs.size+1)::(us++ds)) _ _ (E σ) (i.make C us [])
  (c.env0.make C us []) (j _ (QU (s.heap.objs.size+1)::us) c.kIn q) g d) λr s' a=>?_))
 cases r with
 |error e=>exact l ba σ _ _ e s' c a
 |ok fl=>
  cases fl with
  |ret u=>
   obtain⟨v,y,B,J,L,q3⟩:=c.after a;subst L;exact⟨J,⟨V.ref (s.heap.objs.size+1),y,B,rfl,q3⟩⟩
  |next=>exact S8 a
  |brk=>exact S8 a
  |cont=>exact S8 a
theorem KS(M:Mk X.K C f)(F:fw X.prog X.w X.K X.mg X.base CX k f fd ps sp)(g:ej (k+1) X.A)(i:Gl X x)(hm:X.mg x=on (.ref C))(j:aB X.K fd ps ds)(hd:aw dvs ds)(l:cE CX X E)
  (ha:PA X (e::es) t) (b:(x==("__debug__":Rl))=Qr:=by decide) (n:QH (e::es) X.env=(Qr,RN e X.env)::QH es X.env:=by rfl) (c:(S4 pos (QH es X.env)).any (·.1)=Qr:=by rfl):
  PE X (.Call (.Name x p) (e::es) [] pos) (OY C sp dvs E t):=by
 intro a s u H Q I h;refine V1 (qx I i hm ?_ b);refine callWith_K (h₀:=X.base) I.ok.mod.kin M.kp (en (ha pos a s u H _ I h) λus v ⟨vs,y,d,r,q⟩=>⟨d.kIn,?_⟩) n c;exact DM M F g j hd l d r q
variable{ks:List Rl}{kpos:Vm}{kws:List XJ}{te:TE}{tk:TA}{nm:Option Rl}
variable{g:List Qv->List Qv->List Qv}{gV:List V->List V->List V}
structure cp (N P:List Rl) (sc:Scope):Prop where
 kind:sc.kind= .function
 co:sc.isCoroutine=Qr
 gen:sc.isGenerator=Qr
 nd:N.Nodup
 pre:N.take P.length=P
 par:∀x∈P,sc.names.lookup x=on .local\/sc.names.lookup x=on .cell
 nofree:∀y∈sc.names,y.2≠ .free
theorem rO{b:Rl->Option Um}{x:Rl}:∀{a:List (Rl×Qv)} {m:Rl->Option Qv},(∀v,(x,v)∉a)->ZP b a m x=m x
 |[],_,_=>rfl
 |(n,v)::r,m,h=>by
  unfold ZP;rw[rO λw c=>h w (Qk _ c)];split
  .have:x≠n:=by rintro rfl;exact h v Qq
   simp[this]
  .rfl
theorem rQ{b:Rl->Option Um}{x:Rl}:∀{a:List (Rl×Qv)} {m:Rl->Option Qv},(∀v,(x,v)∉a)->ZO b a m x=m x
 |[],_,_=>rfl
 |(n,v)::r,m,h=>by
  unfold ZO;rw[rQ λw c=>h w (Qk _ c)];split
  .rfl
  .have:x≠n:=by rintro rfl;exact h v Qq
   simp[this]
theorem rP{a:Rl->Option Um}{x:Rl}{v:Qv}:∀{P:List Rl} {vs:List Qv} {i:Nat} {m:Rl->Option Qv},P.Nodup->P[i]?=on x->vs[i]?=on v->a x=on .local->
  ZP a (P.zip vs) m x=on v
 |[],_,_,_,_,h,_,_=>by simp at h
 |_::_,[],_,_,_,_,h,_=>by simp at h
 |p::P,w::vs,0,m,nd,h1,h2,hk=>by
  simp at h1 h2;subst h1;subst h2;show ZP a ((p,w)::P.zip vs) m p=_;unfold ZP;rw[rO λv b=>(Rf.mp nd).1 (XA b).1,Qt hk];simp
 |p::P,w::vs,i+1,m,nd,h1,h2,hk=>by
  show ZP a ((p,w)::P.zip vs) m x=_;unfold ZP;exact rP (i:=i) (Rf.mp nd).2 (by simpa using h1) (by simpa using h2) hk
theorem rR{a:Rl->Option Um}{x:Rl}{v:Qv}:∀{P:List Rl} {vs:List Qv} {i:Nat} {m:Rl->Option Qv},P.Nodup->P[i]?=on x->vs[i]?=on v->a x≠on .local->
  ZO a (P.zip vs) m x=on v
 |[],_,_,_,_,h,_,_=>by simp at h
 |_::_,[],_,_,_,_,h,_=>by simp at h
 |p::P,w::vs,0,m,nd,h1,h2,hk=>by
  simp at h1 h2;subst h1;subst h2;show ZO a ((p,w)::P.zip vs) m p=_;unfold ZO;rw[rQ λv b=>(Rf.mp nd).1 (XA b).1,Qp hk];simp
 |p::P,w::vs,i+1,m,nd,h1,h2,hk=>by
  show ZO a ((p,w)::P.zip vs) m x=_;unfold ZO;exact rR (i:=i) (Rf.mp nd).2 (by simpa using h1) (by simpa using h2) hk
noncomputable def eX(N:List Rl)(vs:List V):St:=vs.map on++QE (N.length-vs.length) Qh
noncomputable def fi(CX:F0)(P:Rc)(w:Ro)(K:QR)(mg:Rl->Option Qv)(base:RQ)(N:List Rl)(a:Rl)(scope:Scope)(f:Qs)(cd:Qv)(A:RG)(outer:List XH)(s:QA)(H:Hp)(E:XK):Cx where
 prog:=P
 w:=w
 K:=K
 mg:=mg
 base:=base
 A:=A.deeper (UU a scope s.heap.objs.size f cd)
 N:=N
 s₀:=s
 H₀:=H
 env:=UU a scope s.heap.objs.size f cd
 outer:=outer
 stack:=UU a scope s.heap.objs.size f cd::outer
 ex:=[]
 calm:=Qo
 fn:=λ_=>Qo
 pn:=[]
 xe:=λe s'=>QJ (Q4 P w) (A.deeper (UU a scope s.heap.objs.size f cd)) (leaving (UU a scope s.heap.objs.size f cd) e) (λ_ b=>CX outer H s E e b) (λc b=>CX outer H s E c b) s'
theorem vh{a:Scope}{x:Rl}(h:a.names.lookup x=on .cell):∃c,(Sx n a.names []).lookup x=on c:=by
 have q:=YO a.names n [] (.inl h);exact X2.mp q
theorem AY{CX:F0}{K:QR}{N ps:List Rl}{scope:Scope}{f:Qs}{A:RG}{s L:QA}{E:XK}{vs:List V}
  (S:cp N ps scope) (hd:A.handled=Qh) (j:t_ P w K mg base A outer s H) (U:vs.length=ps.length) (r:aw vs us)
  (x:InCallC s s.heap.objs.size (ZP (UU qual scope s.heap.objs.size f cd).kindOf (ps.zip us) λ_=>Qh) (Sx (s.heap.objs.size+1) scope.names []) (ZO (UU qual scope s.heap.objs.size f cd).kindOf (ps.zip us) λ_=>Qh) L):
  c4 (fi CX P w K mg base N qual scope f cd A outer s H E) [] (eX N vs) H L:=by
 have R:ps.length<=N.length:=by have:=RE VG S.pre;rw[Uf]at this;omega
 obtain⟨I,tk,rfl,O⟩:=x.done;have l:∀b:Qs,b∉(fi CX P w K mg base N qual scope f cd A outer s H E).ex:=λb z=>QX (show b∈([]:List Qs)from z) (by simp);refine⟨⟨j.mod,S.kind,rfl,rfl,Qz _,λy z c I d=>?_,λy hy=>?_,λy c _ h=>?_,λ_=>hd,Around.frames_deeper j.frames,.inr ⟨rfl,rfl⟩,λb z=>QX z (l b),j.bs,j.bsz,λb _ _=>l b,λb z=>QX z (l b),j.funs,j.frf⟩,
  rfl,j.bare,Un.kept O,⟨_,x.toInCall.ns,λi y v I d W=>?_⟩,λy c h=>⟨_,x.cell y c h⟩,j.hok.fresh (Qz _),λy c h=>?_,λp B=>QX (show p∈([]:List (Qs×Q0))from B) (by simp),j.hok.kept O,?_⟩
 .exact name_of_addr x.apart (R0 I) (R0 d)
 .have hy:scope.names.lookup y=on .cell\/scope.names.lookup y=on .free:=hy
  rcases hy with hy|hy
  .exact vh hy
  .exact QX rfl (S.nofree _ (R0 hy))
 .exact Wm (x.above y c (R0 h))
 .have J:i<vs.length:=by
   unfold eX at d;by_cases J:i<vs.length
   .exact J
   .rw[SM (by simpa using J)]at d
    rw[SI]at d;split at d<;>cases d
  have ha:vs[i]?=on v:=by
   unfold eX at d;rw[Uj (by simpa using J),Qu]at d;cases e:vs[i]? with
   |none=>rw[e]at d;cases d
   |some a=>rw[e]at d;cases d;rfl
  obtain⟨u,Q,T⟩:=r.get ha;have B:ps[i]?=on y:=by
   rw[<-S.pre,Yh (by omega)];exact I
  have F:ps.Nodup:=by rw[<-S.pre];exact S.nd.sublist (Z3 _ _)
  refine⟨u,T,?_⟩;rcases S.par y (Q1 B)with k|k
  .exact .inl ⟨k,rP F B Q k⟩
  .obtain⟨c,e⟩:=vh (n:=s.heap.objs.size+1) k
   refine .inr ⟨.inl k,c,e,?_⟩;have q:=x.cell y c e;rw[rR F B Q (by show scope.names.lookup y≠_;rw[k];decide)]at q;exact q
 .exact j.hok.fresh (Wm (x.above y c (R0 h)))
 .unfold eX
  show _=N.length;rw[QV,Qi,Sy];omega
theorem J8{CX:F0}{K:QR}{k:Nat}{f:Qs}
  {N ps:List Rl} {sp:Sp} (U:K.lookup f=on ⟨oc,od,.func (UB name qual params body scope dV kV doc pm an cdv ct),osl⟩) (B:U8 K cdv qual=Qo) (S:cp N ps scope)
  (len:∀vs H Q E,sp vs H Q E->vs.length=ps.length)
  (d:∀(A:RG) (outer:List XH) (s:QA) (H:Hp) (vs:List V) (Q:VK) (E:XK),ej k (A.deeper (UU qual scope s.heap.objs.size f cdv))->sp vs H Q E->
   ∃t,PSs (fi CX P w K mg base N qual scope f cdv A outer s H E) body t/\t {nx:=λ_ c=>Q .non c,rt:=Q} (eX N vs) H):
  fw P w K mg base CX (k+1) f (UB name qual params body scope dV kV doc pm an cdv ct) ps sp:=by
 refine⟨len,λA outer s H args us vs Q E F i Y r j=>?_⟩;have Z:=len _ _ _ _ j;have R:K.In s.heap:=i.mod.kin.keeps λb o e=>(i.bs b o e).1;have L:s.heap.NoLimit:=i.mod.nolimit.keeps λb o e=>(i.bs b o e).1;have h:∀y∈ps.zip us,scope.names.lookup y.1=on .local\/(scope.names.lookup y.1=on .cell/\((Sx (s.heap.objs.size+1) scope.names []).lookup y.1).isSome=Qo):=λ⟨n,v⟩ hy=>by
  rcases S.par n (XA hy).1 with q|q
  .exact .inl q
  .exact .inr ⟨q,YO _ _ _ (.inl q)⟩
 refine codeAny_call_function F.depth (R _ _ U) rfl S.co S.gen rfl (PySem.W.codeRec_of R B) (Y _ _ _ _ ?_);refine wpAny_newFunctionEnv_cells S.kind h λenv he T x=>?_;subst he;refine⟨L.keeps x.toInCall.keep,codeAny_func ?_⟩;obtain⟨t,ht,hq⟩:=d A outer s H vs Q E (F.deeper _) j;have I:c4 (fi CX P w K mg base N qual scope f cdv A outer s H E) [] (eX N vs) H T:=AY S F.hd i Z r x;refine Rw (ht [] T (eX N vs) H _ I hq) (λfl s' hs=>?_) λe s' hs=>hs;have l:∀{a:St} {c:Hp} {v:V} {u:Qv},c4 (fi CX P w K mg base N qual scope f cdv A outer s H E) [] a c s'->aL v u->Q v c->CE outer P w H s Q u s':=
  λ{a c v u} J O q=>⟨v,c,J.os,J.bare,J.base,J.hok,O,q⟩
 cases fl with
 |ret u=>
  obtain⟨v,a,c,J,O,q⟩:=hs;exact l J O q
 |next=>
  obtain⟨a,c,J,q⟩:=hs;exact l (v:=V.non) (u:=RA) J rfl q
 |brk=>
  obtain⟨_,_,_,q⟩:=hs;exact S8 q
 |cont=>
  obtain⟨_,_,_,q⟩:=hs;exact S8 q
variable{id T:String}{r:List V->Hp->VK->Prop}
def tCB(r:List V->Hp->VK->Prop)(t:TA):TE:=λa H Q=>t a H λvs b=>r vs b Q
theorem kD(hc:cL X (.builtin id) r)(i:Gl X x)(hm:X.mg x=Qh)(j:Uw x=on (.builtin id))(ha:PA X (e::es) t)(hn:x≠"__name__":=by decide)(b:(x==("__debug__":Rl))=Qr:=by decide)
  (l:QH (e::es) X.env=(Qr,RN e X.env)::QH es X.env:=by rfl) (c:(S4 pos (QH es X.env)).any (·.1)=Qr:=by rfl):PE X (.Call (.Name x p) (e::es) [] pos) (tCB r t):=by
 intro a s d H Q I h;refine V1 (fP I i hm j ?_ hn b);exact PyProof.Rows.callWith_builtin1 (en (ha pos a s d H _ I h) λus n ⟨vs,q,u,r1,q1⟩=>hc a n d q vs us Q u r1 q1) l c
theorem zP(hc:cL X (.type T) r)(i:Gl X x)(hm:X.mg x=Qh)(j:Uw x=on (.type T))(ha:PA X (e::es) t)(hn:x≠"__name__":=by decide)(b:(x==("__debug__":Rl))=Qr:=by decide)
  (l:QH (e::es) X.env=(Qr,RN e X.env)::QH es X.env:=by rfl) (c:(S4 pos (QH es X.env)).any (·.1)=Qr:=by rfl):PE X (.Call (.Name x p) (e::es) [] pos) (tCB r t):=by
 intro a s d H Q I h;refine V1 (fP I i hm j ?_ hn b);exact Sd (en (ha pos a s d H _ I h) λus n ⟨vs,q,u,r1,q1⟩=>hc a n d q vs us Q u r1 q1) l c
end
end L2
namespace HT
open PySem PyProof.Rows
section
open PySem.SeqAt
open PySem.AutoSeq1 (wpAny_loadPart')
open PySem.MeetsSeq PySem.MeetsSeq2 PySem.MeetsSeq3
end
section
variable{prog:Rc}{w:Ro}{A:RG}{E:Qv->QA->Prop}{s:QA}
theorem cat_tup{vs a:List Qv}(r:IsTup s.heap t vs.toArray)(u:IsTup s.heap b a.toArray)(m:vs≠[])
  (v:a=[]->Q (.ref t) s) (y:a≠[]->Q (.ref s.heap.objs.size) {s with heap:=s.heap.push {cls:= .type "tuple",data:= .seq (vs++a).toArray}})
  (k:vs.length+a.length<=QN):QJ (Q4 prog w) A (Th .Add (.ref t) (.ref b)) Q E s:=by
 obtain⟨⟨cls,o,data,sl⟩,i,hc,n,hd⟩:=id r;obtain⟨⟨p,d,l,f⟩,c,g,q,h⟩:=id u;simp only at hc hd g h;subst hc hd g h;have e:vs.toArray++a.toArray=(vs++a).toArray:=by simp
 by_cases j:a=[]
 .exact concat_meets ⟨_,i,rfl⟩ ⟨_,c,rfl⟩ Yb Zx VW VL (Vx _ _)
   (tuple_addW1 t b vs.toArray a.toArray n q o d sl f (by simpa using m) (by simp[j])) ⟨i,c,v j⟩
 .refine concat_meets ⟨_,i,rfl⟩ ⟨_,c,rfl⟩ Yb Zx VW VL (Vx _ _)
   (tuple_addW2 t b vs.toArray a.toArray n q o d sl f (by simpa using m) (by simpa using j) (by rw[QO,QO];exact k)) ⟨i,c,?_⟩
  rw[e];exact y j
noncomputable def sIx(n d:Nat):Option Int->Nat
 |none=>d
 |some v=>if v<0 then(v+(n:Int)).toNat else V0 v.toNat n
theorem sIx_none(n d:Nat):sIx n d Qh=d:=rfl
theorem sIx_nat(n d k:Nat):sIx n d (on (k:Int))=V0 k n:=by
 show(if(k:Int)<0 then((k:Int)+(n:Int)).toNat else V0 (k:Int).toNat n)=V0 k n;rw[Qp (by omega),Sc]
end
end HT
namespace L2
open PySem PySem.Spec PyProof.Rows
abbrev TO:=St->Hp->(Option Int->Hp->Prop)->Prop
def PO(X:Cx)(e:Option Expr)(t:TO):Prop:=
 ∀(a:List (Qs×Q0)) (s:QA) (b:St) (H:Hp) (Q:Option Int->Hp->Prop),c4 X a b H s->t b H Q->
  QJ (Q4 X.prog X.w) X.A (evalPart e X.env) (λu s'=>∃o c,c4 X a b c s'/\IsPart u o/\Q o c) X.xe s
noncomputable def Kt:TO:=λ_ H Q=>Q Qh H
def OW(t:TE):TO:=λa H Q=>t a H λx b=>∃i,x= .int i/\Q (on i) b
theorem pF{ns:List Int}:∀{us:List Qv},aw (ns.map V.int) us->YA us ns:=by
 induction ns with
 |nil=>intro us r;rw[Vd]at r;cases r;exact .nil
 |cons n ns ih=>
  intro us r;rw[QB]at r;cases r with
  |cons r1 a=>
   obtain⟨t,e⟩:=r1;subst e;exact .cons n t (ih a)
section
variable{X:Cx}{e:Expr}{te:TE}{lo hi:Option Expr}{tl th:TO}{pos p2:Vm}
theorem v8:PO X Qh Kt:=by
 intro a s b H Q I h;rw[Zw];exact Qj ⟨Qh,H,I,.none,h⟩
theorem v7(h:PE X e te):PO X (on e) (OW te):=by
 intro a s b H Q I c;rw[evalPart_some];refine en (h a s b H _ I c) λu g ⟨x,d,f,r1,q1⟩=>?_;obtain⟨i,rfl,q⟩:=q1;obtain⟨t,rfl⟩:=r1;exact⟨on i,d,f,.int i t,q⟩
def SlR(X:Cx)(r:V->Option Int->Option Int->Hp->VK->Prop):Prop:=
 ∀(a:List (Qs×Q0)) (s:QA) (b:St) (H:Hp) (x:V) (v c d:Qv) (lo hi:Option Int) (sl:Qs) (Q:VK),c4 X a b H s->aL x v->s.heap.IsSliceOf sl c d .none->IsPart c lo->IsPart d hi->r x lo hi H Q->
  ∃T f,typeLookup (.type T) "__getitem__"=SY (on (.builtin f))/\s.TypeIs v T/\QJ (Q4 X.prog X.w) X.A (getItem v (.ref sl)) (EP X a b Q) X.xe s
def tSl(r:V->Option Int->Option Int->Hp->VK->Prop)(te:TE)(tl th:TO):TE:=λa H Q=>te a H λx b=>tl a b λl c=>th a c λu d=>r x l u d Q
theorem ur(j:SlR X r)(k:PE X e te)(m:PO X lo tl)(n:PO X hi th):PE X (.Subscript e (.Slice lo hi Qh p2) pos) (tSl r te tl th):=by
 intro a s d H Q I h;refine Subscript_ (en (k a s d H _ I h) λv o ⟨x,p,t,r1,q1⟩=>?_);refine wpAny_Slice (en (m a o d p _ t q1) λf y ⟨l,B,C,pl,q2⟩=>en (n a y d B _ C q2) λg c ⟨u,i,F,J,q3⟩=>?_);rw[Zw];refine Qj ?_;have L:c4 X a d i {c with heap:=c.heap.push {cls:= .type "slice",data:= .fields #[f,g,.none]}}:=F.kept (t':=c.toks) λb R q=>Qm _ q;obtain⟨T,U,N,O,P⟩:=j a {c with heap:=c.heap.push {cls:= .type "slice",data:= .fields #[f,g,.none]}} d i x v f g l u c.heap.objs.size Q L r1 (Xx ..) pl J q3;show QJ (Q4 X.prog X.w) X.A (Zy e (.Slice lo hi Qh p2) v (.ref c.heap.objs.size)) (EP X a d Q) X.xe {c with heap:=c.heap.push {cls:= .type "slice",data:= .fields #[f,g,.none]}};exact tail_any (ops:=[.ref c.heap.objs.size,v]) O N P (by with_unfolding_all rfl)
noncomputable def l4(xs:List V)(lo hi:Option Int):List V:=(xs.drop (HT.sIx xs.length 0 lo)).take (HT.sIx xs.length xs.length hi-HT.sIx xs.length 0 lo)
theorem vA(xs:List V)(lo hi:Option Int):(l4 xs lo hi).length<=xs.length:=by
 unfold l4;rw[Uf,List.length_drop];omega
def xt(K:QR):R2:=λx y H Q=>∃a b xs ys,x= .ref a/\y= .ref b/\hO K H a xs/\hO K H b ys/\xs≠[]/\xs.length+ys.length<=QN/\
 (ys=[]->Q (.ref a) H)/\(ys≠[]->∀p,H p=Qh->Q (.ref p) (upd H p (.tup (xs++ys))))
theorem aw.nil_iff(r:aw xs us):us=[]↔xs=[]:=by
 cases r with
 |nil=>simp
 |cons _ _=>simp
theorem KZ:gv X (Th .Add) (xt X.K):=by
 intro d s n H x y v u Q I i j h;obtain⟨a,b,xs,ys,rfl,rfl,ha,k,l,f,q1,q2⟩:=h;cases i;cases j;obtain⟨its,r1,m,_⟩:=I.tuple ha;obtain⟨g,c,p2,_⟩:=I.tuple k;refine HT.cat_tup m p2 (λz=>l (r1.nil_iff.mp z)) (λz=>⟨.ref a,H,I,rfl,q1 (c.nil_iff.mp z)⟩) (λz=>?_) (by rw[<-r1.length,<-c.length];exact f);refine⟨.ref s.heap.objs.size,_,I.laid (t':=s.toks) (o:= .tup (xs++ys)) (λb p q=>Qm _ q) (Qz _) ?_,rfl,q2 (λw=>z (c.nil_iff.mpr w)) _ (I.hok.fresh (Qz _))⟩;exact⟨by rw[QV];exact f,_,r1.append c,ZX _ _⟩
noncomputable def ry(n:Nat)(i:Int):Option Nat:=if 0<=i then(if i<n then on i.toNat else Qh)else if -(n:Int)<=i then on (i+n).toNat else Qh
def s_{α:Type}(xs:List α)(i:Int):Option α:=(ry xs.length i).bind λj=>xs[j]?
theorem wv(h:ry n i=on j):seqIndex? i n=on j/\j<n/\-(n:Int)<=i/\i<n:=by
 unfold ry at h;by_cases b:0<=i
 .rw[Qt b]at h
  by_cases a:i<n
  .rw[Qt a]at h
   have e:i.toNat=j:=Q7 h;exact⟨by rw[seqIndex_of b a,e],by omega,by omega,a⟩
  .rw[Qp a]at h;cases h
 .rw[Qp b]at h
  by_cases a:-(n:Int)<=i
  .rw[Qt a]at h
   have e:(i+n).toNat=j:=Q7 h;exact⟨by rw[seqIndex_neg (by omega) a,e],by omega,a,by omega⟩
  .rw[Qp a]at h;cases h
theorem wQ{α:Type}{xs:List α}{i:Int}{v:α}(h:s_ xs i=on v):∃j,seqIndex? i xs.length=on j/\xs[j]?=on v/\j<xs.length/\-(xs.length:Int)<=i/\i<xs.length:=by
 unfold s_ at h;cases e:ry xs.length i with
 |none=>rw[e]at h;cases h
 |some j=>
  rw[e]at h;obtain⟨a,b,c,d⟩:=wv e;exact⟨j,a,h,b,c,d⟩
theorem LE{α:Type}{xs:List α}{j:Nat}{v:α}(h:xs[j]?=on v):s_ xs (j:Int)=on v:=by
 have a:j<xs.length:=(QI.mp h).1;have e:ry xs.length (j:Int)=on j:=by
  unfold ry;rw[Qt (by omega),Qt (by omega)];simp
 unfold s_;rw[e];exact h
def qQ(b:Expr):Prop:=∀o i,subscripted b Qr o i=operate [o,i] (getItem o i)
def D_(X:Cx)(r:R2):Prop:=
 ∀(c a:Expr) (b:List (Qs×Q0)) (s:QA) (d:St) (H:Hp) (x y:V) (v u:Qv) (Q:VK),c4 X b d H s->aL x v->aL y u->r x y H Q->
  subscripted a Qr v u=operate [v,u] (getItem v u)->QJ (Q4 X.prog X.w) X.A (Zy c a v u) (EP X b d Q) X.xe s
def MtR(X:Cx)(c:String)(r:V->List V->Hp->VK->Prop):Prop:=
 ∀(a:List (Qs×Q0)) (s:QA) (b:St) (H:Hp) (x:V) (xs:List V) (v:Qv) (us:List Qv) (Q:VK),c4 X a b H s->aL x v->aw xs us->r x xs H Q->
  QJ (Q4 X.prog X.w) X.A (Xq (.builtin c) (v::us)) (EP X a b Q) X.xe s
variable{a b:Expr}{ta tb:TE}
theorem D_.or(h:D_ X r)(h':D_ X r'):D_ X (λx y H Q=>r x y H Q\/r' x y H Q):=by
 intro c d f s g H x y v u Q I i j q hs;rcases q with q|q
 .exact h c d f s g H x y v u Q I i j q hs
 .exact h' c d f s g H x y v u Q I i j q hs
theorem ir(d:D_ X r)(ha:PE X a ta)(f:PE X b tb)(hs:qQ b):PE X (.Subscript a b pos) (tOp r ta tb):=by
 intro c s g H Q I h;exact Subscript_ (FV ha f I h λv u i x y j k l m q=>d a b c i g j x y v u Q k l m q (hs _ _))
def xq(K:QR):R2:=λx y H Q=>∃p xs i v,x= .ref p/\y= .int i/\f0 K H p xs/\s_ xs i=on v/\Q v H
def DO(K:QR):R2:=λx y H Q=>∃p xs i v,x= .ref p/\y= .int i/\hO K H p xs/\s_ xs i=on v/\Q v H
theorem eK:D_ X (xq X.K):=by
 intro g k c s n H x y v u Q I B C h hs;obtain⟨p,xs,i,z,rfl,rfl,F,J,q⟩:=h;cases B;obtain⟨t,rfl⟩:=C;obtain⟨its,r,pl,R⟩:=I.list F;obtain⟨j,f,L,T,N,O⟩:=wQ J;obtain⟨w,o,l⟩:=r.get L;have P:=r.length;have hn:=lQ;have d:EP X c n Q w s:=⟨z,H,I,l,q⟩;by_cases A:0<=i
 .have m:i.toNat=j:=by
   rw[seqIndex_of A O]at f;exact Q7 f
  exact item_listR pl.isList A (by omega) (by rw[m];simpa using o) d hs
 .have m:(i+(its.toArray.size:Int)).toNat=j:=by
   rw[seqIndex_neg (by omega) N]at f;rw[QO,<-P];exact Q7 f
  exact WG (x:=w) pl.isList.typeIs slot_list_getitem.lookup
   (wpAny_getItem_list_neg (Q:=λr s'=>r=w/\EP X c n Q r s') pl.isList (by omega) (by rw[QO]<;>omega) (by omega) (by rw[m];simpa using o) ⟨rfl,d⟩) hs
theorem M9:D_ X (DO X.K):=by
 intro d f c s l H x y v u Q I m n h hs;obtain⟨p,xs,i,z,rfl,rfl,o,A,q⟩:=h;cases m;obtain⟨t,rfl⟩:=n;obtain⟨its,r,pl,L⟩:=I.tuple o;obtain⟨j,B,C,N,O,P⟩:=wQ A;obtain⟨w,F,g⟩:=r.get C;have J:=r.length;have hn:=lQ;have k:EP X c l Q w s:=⟨z,H,I,g,q⟩;exact WG (x:=w) pl.typeIs slot_tuple_getitem.lookup
  (getItem_tuple (j:=j) (Q:=λr s'=>r=w/\EP X c l Q r s') pl (by omega) (by omega) (by rw[QO,<-J];exact B) (by simpa using F) ⟨rfl,k⟩) hs
theorem xN(its:List Qv)(n j:Nat)(u:Qv):Sw (·.setIfInBounds j u) {cls:= .type "list",data:= .seq its.toArray n}={cls:= .type "list",data:= .seq (its.set j u).toArray n}:=by
 simp[Sw]
theorem c4.lst{s:QA}{xs:List V}(I:c4 X ba σ H s)(h:H p=on (.lst xs)):
  ∃(its:List Qv) (n:Nat),aw xs its/\s.heap.get? p=on {cls:= .type "list",data:= .seq its.toArray n}/\xs.length<=QN:=by
 obtain⟨z,its,n,r,e⟩:=I.hok p _ h;exact⟨its,n,r,e,z⟩
theorem c4.lstUpd{s:QA}{xs ys:List V}{its its':List Qv}(I:c4 X ba σ H s)(h:H p=on (.lst xs))
  (d:s.heap.get? p=on {cls:= .type "list",data:= .seq its.toArray n}) (c:f {cls:= .type "list",data:= .seq its.toArray n}={cls:= .type "list",data:= .seq its'.toArray n'}) (r:aw ys its') (g:ys.length<=QN) (t:Nat):
  c4 X ba σ (upd H p (.lst ys)) {s with heap:=s.heap.update p f,toks:=t}:=by
 have e:(s.heap.update p f).get? p=on {cls:= .type "list",data:= .seq its'.toArray n'}:=by
  rw[T1 f d (by rw[c]<;>rfl),c]
 refine I.write (x:=p) (e:=p) (by rw[h];trivial) (.inl rfl) (λb u i q=>(Yz _ _ (Ne.symm i)).trans q) ⟨_,e⟩ ?_;exact⟨g,its',n',r,e⟩
def JC:V->V->V->Hp->(Hp->Prop)->Prop:=λo i v H Q=>∃p xs k j,o= .ref p/\i= .int k/\H p=on (.lst xs)/\ry xs.length k=on j/\Q (upd H p (.lst (xs.set j v)))
theorem iF:ID X JC:=by
 intro c s C H o i v P R u Q I F J L h;obtain⟨p,xs,k,j,rfl,rfl,m,N,q⟩:=h;cases F;obtain⟨t,rfl⟩:=J;obtain⟨its,n,r,f,O⟩:=I.lst m;obtain⟨d,T,w,y⟩:=wv N;have g:=r.length;have hn:=lQ;have A:c4 X c C (upd H p (.lst (xs.set j v))) {s with heap:=s.heap.update p (Sw (·.setIfInBounds j u))}:=
  I.lstUpd m f (xN its n j u) (r.set L j) (by rw[Q3];exact O) s.toks
 by_cases B:0<=k
 .have l:k.toNat=j:=by
   rw[seqIndex_of B y]at d;exact Q7 d
  exact PySem.W.ki_setAt f B (by omega) (by rw[QO,<-g];exact y) (by rw[l];exact⟨_,A,q⟩)
 .have l:(k+(its.toArray.size:Int)).toNat=j:=by
   rw[seqIndex_neg (by omega) w]at d;rw[QO,<-g];exact Q7 d
  exact PySem.W.ki_setBack f (by omega) (by rw[QO,<-g];exact w) (by omega) (by rw[l];exact⟨_,A,q⟩)
theorem tU(lo hi:Option Int)(n:Nat):(Uq lo hi Qh n).1=((HT.sIx n 0 lo:Nat):Int)/\(Uq lo hi Qh n).2.1=((HT.sIx n n hi:Nat):Int)/\(Uq lo hi Qh n).2.2=1:=by
 refine⟨?_,?_,rfl⟩
 .cases lo with
  |none=>simp[Uq,HT.sIx]
  |some i=>
   simp only[Uq,HT.sIx,ZG,show(1:Int)>0 by decide,RF];by_cases h:i<0
   .simp only[h,RF]<;>omega
   .simp only[h,RH]<;>omega
 .cases hi with
  |none=>simp[Uq,HT.sIx]
  |some i=>
   simp only[Uq,HT.sIx,ZG,show(1:Int)>0 by decide,RF];by_cases h:i<0
   .simp only[h,RF]<;>omega
   .simp only[h,RH]<;>omega
theorem rW(its:List Qv)(lo hi:Option Int):ZT its.toArray lo hi Qh=((its.drop (HT.sIx its.length 0 lo)).take (HT.sIx its.length its.length hi-HT.sIx its.length 0 lo)).toArray:=by
 obtain⟨c,d,f⟩:=tU lo hi its.toArray.size;unfold ZT;rw[c,d,f];simp only[sliceRange_one,pick_run,QO]<;>rfl
def rSlL(K:QR):V->Option Int->Option Int->Hp->VK->Prop:=λx lo hi H Q=>∃a xs,x= .ref a/\f0 K H a xs/\∀p,H p=Qh->Q (.ref p) (upd H p (.lst (l4 xs lo hi)))
theorem vR:SlR X (rSlL X.K):=by
 intro d s l H x v m n lo hi sl Q I g hs pl i h;obtain⟨a,xs,rfl,j,q⟩:=h;cases g;obtain⟨its,r,f,k⟩:=I.list j;have c:=r.length;refine⟨"list",_,slot_list_getitem.lookup,f.isList.typeIs,?_⟩;refine Zz f.isList hs pl i .none (by simp) ?_ (by rw[QO]<;>omega)
 rw[rW,<-c];refine⟨.ref s.heap.objs.size,_,I.laid (t':=s.toks) (o:= .lst (l4 xs lo hi)) (λb p q=>Qm _ q) (Qz _) ?_,rfl,q _ (I.hok.fresh (Qz _))⟩;exact⟨Qw (vA xs lo hi) k,_,0,(r.drop (HT.sIx xs.length 0 lo)).take (HT.sIx xs.length xs.length hi-HT.sIx xs.length 0 lo),QK _ rfl⟩
noncomputable def gy:V->Bool
 | .non=>Qo
 | .bl _=>Qo
 | .int _=>Qo
 | .str _=>Qo
 |_=>Qr
noncomputable def Ic:V->V->Bool
 | .non,.non=>Qo
 | .bl a,.bl b=>a==b
 | .bl a,.int b=>(if a then 1 else 0)==b
 | .int a,.bl b=>a==(if b then 1 else 0)
 | .int a,.int b=>a==b
 | .str a,.str b=>a==b
 |_,_=>Qr
theorem Nq(d:aL y u)(c:aL x v)(g:gy y=Qo)(f:gy x=Qo):SeqAt.EqAt A s u v (Ic y x):=by
 cases y with
 |non=>
  cases d;cases x with
  |non=>cases c;exact SeqAt.EqAt.same _
  |bl b=>cases c;exact SeqAt.EqAt.none_bool b
  |int b=>obtain⟨t,rfl⟩:=c;exact SeqAt.EqAt.none_int b t
  |str b=>obtain⟨t,rfl⟩:=c;exact SeqAt.EqAt.none_str b t
  |_=>exact QX (show Qr=Qo from f) Qx
 |bl a=>
  cases d;cases x with
  |non=>cases c;exact SeqAt.EqAt.bool_none a
  |bl b=>cases c;exact SeqAt.EqAt.bool_bool a b
  |int b=>obtain⟨t,rfl⟩:=c;exact SeqAt.EqAt.bool_int a b t
  |str b=>obtain⟨t,rfl⟩:=c;exact SeqAt.EqAt.bool_str a b t
  |_=>exact QX (show Qr=Qo from f) Qx
 |int a=>
  obtain⟨t',rfl⟩:=d;cases x with
  |non=>cases c;exact SeqAt.EqAt.int_none a t'
  |bl b=>cases c;exact SeqAt.EqAt.int_bool a t' b
  |int b=>obtain⟨t,rfl⟩:=c;exact SeqAt.EqAt.int_int a t' b t
  |str b=>obtain⟨t,rfl⟩:=c;exact SeqAt.EqAt.int_str a t' b t
  |_=>exact QX (show Qr=Qo from f) Qx
 |str a=>
  obtain⟨t',rfl⟩:=d;cases x with
  |non=>cases c;exact SeqAt.EqAt.str_none a t'
  |bl b=>cases c;exact SeqAt.EqAt.str_bool a t' b
  |int b=>obtain⟨t,rfl⟩:=c;exact SeqAt.EqAt.str_int a t' b t
  |str b=>obtain⟨t,rfl⟩:=c;exact SeqAt.EqAt.str_str a t' b t
  |_=>exact QX (show Qr=Qo from f) Qx
 |_=>exact QX (show Qr=Qo from g) Qx
def sA(x:V)(u:Qv):Bool:=match u with
 | .none=>Ic .non x
 | .bool b=>Ic (.bl b) x
 | .int i _=>Ic (.int i) x
 | .str z _=>Ic (.str z) x
 |_=>Qr
theorem BK(r:aL y u)(f:gy y=Qo):sA x u=Ic y x:=by
 cases y with
 |non=>cases r;rfl
 |bl b=>cases r;rfl
 |int i=>obtain⟨t,rfl⟩:=r;rfl
 |str z=>obtain⟨t,rfl⟩:=r;rfl
 |_=>exact QX (show Qr=Qo from f) Qx
theorem j6:∀{xs:List V} {us:List Qv},aw xs us->xs.all gy=Qo->us.any (sA x)=xs.any λy=>Ic y x
 |_,_,.nil,_=>rfl
 |y::xs,u::us,.cons r t,f=>by
  rw[WN,Q9]at f;rw[VR,VR,BK r f.1,j6 t f.2]
theorem iT(c:aL x v)(d:gy x=Qo):∀{xs:List V} {us:List Qv},aw xs us->xs.all gy=Qo->∀u∈us,SeqAt.EqAt A s u v (sA x u)
 |_,_,.nil,_=>λu hu=>by cases hu
 |y::xs,u::us,.cons r t,f=>λg hu=>by
  rw[WN,Q9]at f;rcases QD.mp hu with rfl|hu
  .rw[BK r f.1];exact Nq r c f.1 d
  .exact iT c d t f.2 g hu
def inV(x:V)(xs:List V):Bool:=xs.any λy=>Ic y x
def rIn(K:QR)(neg:Bool):R2:=λx y H Q=>∃p xs,y= .ref p/\(f0 K H p xs\/hO K H p xs)/\gy x=Qo/\xs.all gy=Qo/\Q (.bl (if neg then !inV x xs else inV x xs)) H
theorem zR:gv X (RV .In) (rIn X.K Qr):=by
 intro d s k H x y v u Q I f i h;obtain⟨p,xs,rfl,hq,g,fs,q⟩:=h;cases i;rcases hq with hq|hq
 .obtain⟨its,r,pl,j⟩:=I.list hq
  refine SeqAt.in_listAt (sA x) pl.isList (λw c=>iT f g r fs w (by simpa using c)) ⟨.bl _,H,I,rfl,?_⟩;rw[show its.toArray.any (sA x)=its.any (sA x) by simp,j6 r fs];exact q
 .obtain⟨its,r,pl,j⟩:=I.tuple hq
  refine SeqAt.in_tupleAt (sA x) pl (λw c=>iT f g r fs w (by simpa using c)) ⟨.bl _,H,I,rfl,?_⟩;rw[show its.toArray.any (sA x)=its.any (sA x) by simp,j6 r fs];exact q
theorem lN:gv X (RV .NotIn) (rIn X.K Qo):=by
 intro d s k H x y v u Q I f i h;obtain⟨p,xs,rfl,hq,g,fs,q⟩:=h;cases i;rcases hq with hq|hq
 .obtain⟨its,r,pl,j⟩:=I.list hq
  refine SeqAt.notIn_listAt (sA x) pl.isList (λw c=>iT f g r fs w (by simpa using c)) ⟨.bl _,H,I,rfl,?_⟩;rw[show its.toArray.any (sA x)=its.any (sA x) by simp,j6 r fs];exact q
 .obtain⟨its,r,pl,j⟩:=I.tuple hq
  refine SeqAt.notIn_tupleAt (sA x) pl (λw c=>iT f g r fs w (by simpa using c)) ⟨.bl _,H,I,rfl,?_⟩;rw[show its.toArray.any (sA x)=its.any (sA x) by simp,j6 r fs];exact q
theorem l8:cL X (.builtin "len") (λxs H Q=>∃p ys,xs=[.ref p]/\(f0 X.K H p ys\/hO X.K H p ys)/\Q (.int ys.length) H):=by
 intro f s j H xs us Q I r h;obtain⟨p,ys,rfl,hq,q⟩:=h;obtain⟨u,rfl,g⟩:=ij r;cases g;have hn:=lQ;rcases hq with hq|hq
 .obtain⟨its,d,pl,i⟩:=I.list hq
  have c:=d.length;exact Calls.call_len_list pl.isList (by simp only[QO]<;>omega) ⟨.int ys.length,H,I.tok _,⟨s.toks+1,by rw[QO,c]⟩,q⟩
 .obtain⟨its,d,pl,i⟩:=I.tuple hq
  have c:=d.length;exact len_tuple pl (by simp only[QO]<;>omega) ⟨.int ys.length,H,I.tok _,⟨s.toks+1,by rw[QO,c]⟩,q⟩
theorem cD:cL X (.type "list") (λxs H Q=>∃p ys,xs=[.ref p]/\(f0 X.K H p ys\/hO X.K H p ys)/\∀l,H l=Qh->Q (.ref l) (upd H l (.lst ys))):=by
 intro f s t H xs us Q I r h;obtain⟨p,ys,rfl,hq,q⟩:=h;obtain⟨u,rfl,v⟩:=ij r;cases v
 have g:∀(its:List Qv),aw ys its->ys.length<=QN->∀(h':RQ) (c:Nat),(∀b m,s.heap.get? b=on m->h'.get? b=on m)->
   h'.get? s.heap.objs.size=on {cls:= .type "list",dict:=Qh,data:= .seq its.toArray c,slots:=#[]}->EP X f t Q (.ref s.heap.objs.size) {s with heap:=h'}:=λits d i h' c kp e=>
  ⟨.ref s.heap.objs.size,_,I.laid (t':=s.toks) kp (Qz _) (show bD X.prog X.w _ h' _ (.lst ys)from⟨i,its,c,d,e⟩),rfl,q _ (I.hok.fresh (Qz _))⟩
 rcases hq with hq|hq
 .obtain⟨its,d,pl,i⟩:=I.list hq
  have j:=d.length;obtain⟨o,k,hc,n,hd⟩:=pl.isList;exact call_list_seq p (.inl rfl) k hc hd (λh' c kp e=>g its d i h' c kp e) (by simp only[QO]<;>omega)
 .obtain⟨its,d,pl,i⟩:=I.tuple hq
  have j:=d.length;obtain⟨o,k,hc,n,hd⟩:=pl;exact call_list_seq p (.inr rfl) k hc hd (λh' c kp e=>g its d i h' c kp e) (by simp only[QO]<;>omega)
theorem dL:cL X (.type "tuple") (λxs H Q=>∃p ys,xs=[.ref p]/\((f0 X.K H p ys/\∀l,H l=Qh->Q (.ref l) (upd H l (.tup ys)))\/(hO X.K H p ys/\Q (.ref p) H))):=by
 intro c s g H xs us Q I r h;obtain⟨p,ys,rfl,h⟩:=h;obtain⟨u,rfl,m⟩:=ij r;cases m;rcases h with⟨d,q⟩|⟨d,q⟩
 .obtain⟨its,f,pl,i⟩:=I.list d
  have j:=f.length;refine call_tuple_list pl.isList (λh' kp=>?_) (by simp only[QO]<;>omega)
  have k:c4 X c g H {s with heap:=h'}:=I.kept (t':=s.toks) kp;have n:c4 X c g (upd H h'.objs.size (.tup ys)) {s with heap:=h'.push {cls:= .type "tuple",data:= .seq its.toArray}}:=
   k.laid (t':=s.toks) (λb o e=>Qm _ e) (Qz _) (show bD X.prog X.w _ _ _ (.tup ys)from⟨i,its,f,ZX _ _⟩)
  exact⟨.ref h'.objs.size,_,n,rfl,q _ (k.hok.fresh (Qz _))⟩
 .obtain⟨its,f,pl,i⟩:=I.tuple d
  exact call_tuple_same pl ⟨.ref p,H,I,rfl,q⟩
def tyV(K:QR)(T:String)(x:V)(H:Hp):Prop:=match x with
 | .str _=>T="str"
 | .int _=>T="int"
 | .ref p=>(T="list"/\∃xs,f0 K H p xs)\/(T="tuple"/\∃o,K.lookup p=on o/\o.cls= .type "tuple"/\o.dict=Qh)
 |_=>False
theorem LR{s:QA}(I:c4 X ba σ H s)(r:aL x v)(ty:tyV X.K T x H):
  s.TypeIs v T/\∀a,v= .ref a->∃d,s.heap.get? a=on d/\d.dict=Qh:=by
 cases x with
 |str z=>
  obtain⟨t,rfl⟩:=r;cases(show T="str"from ty);exact⟨typeIs_str s z t,λ_ e=>nomatch e⟩
 |int i=>
  obtain⟨t,rfl⟩:=r;cases(show T="int"from ty);exact⟨typeIs_int s i t,λ_ e=>nomatch e⟩
 |ref p=>
  cases r;rcases ty with⟨rfl,xs,g⟩|⟨rfl,o,f,hc,hd⟩
  .obtain⟨its,_,pl,_⟩:=I.list g
   refine⟨pl.isList.typeIs,λa e=>?_⟩;cases e;obtain⟨o,n,e,c,hd,_⟩:=pl;exact⟨o,e,hd⟩
  .refine⟨⟨o,I.kIn p o f,hc⟩,λa e=>?_⟩
   cases e;exact⟨o,I.kIn _ o f,hd⟩
 |_=>exact S8 ty
def tBM(K:QR)(T:String)(r:V->List V->Hp->VK->Prop)(to:TE)(t:TA):TE:=λc H Q=>to c H λx d=>tyV K T x d/\t c d λxs f=>r x xs f Q
variable{o:Expr}{es:List Expr}{to:TE}{t:TA}{name:Rl}{apos cpos:Vm}{T id:String}{r:V->List V->Hp->VK->Prop}
theorem xz(n:PlainAttrs T)(slot:Slot T name id)(j:typeOf (.builtin id)=SY (.type "method_descriptor"))(hm:MtR X id r)(p:PE X o to)(ha:PA X (e::es) t)
  (f:UF o name X.env (RN o X.env)=RN o X.env:=by rfl)
  (i:((S4 cpos (QH (e::es) X.env)).all (λx=>!x.1)&&(XO cpos (Wb [] X.env)).all (λx=>x.1.isSome)
   &&decide ((e::es).length+([]:List XJ).length+(if([]:List XJ).isEmpty then 0 else 1)<30))=Qo:=by rfl)
  (g:(apos.endLine==cpos.line)=Qo:=by rfl) (hs:QH (e::es) X.env=(Qr,RN e X.env)::QH es X.env:=by rfl) (d:(S4 cpos (QH es X.env)).any (·.1)=Qr:=by rfl):
  PE X (.Call (.Attribute o name apos) (e::es) [] cpos) (tBM X.K T r to t):=by
 intro c s k H Q I h;refine wpAny_Call_method_late f i g rfl (en (p c s k H _ I h) λv q ⟨x,u,l,r1,ty,q1⟩=>?_);obtain⟨w,y⟩:=LR l r1 ty;refine⟨T,id,n,slot,j,w,y,?_⟩;have m:=ha cpos c q k u _ l q1;rw[hs]at m⊢;refine V6 (by show(Qr||(S4 cpos (QH es X.env)).any (·.1))=Qr;rw[d]<;>rfl) (YE ?_)
 exact en m λus A ⟨vs,B,C,F,q2⟩=>hm c A k B x vs v us Q C r1 F q2
def MtM(X:Cx)(id:String)(r:V->List V->Hp->VK->Prop):Prop:=
 ∀(c:List (Qs×Q0)) (s:QA) (d:St) (H:Hp) (x:V) (xs:List V) (v:Qv) (us:List Qv) (Q:VK),c4 X c d H s->aL x v->aw xs us->r x xs H Q->
  QJ (Q4 X.prog X.w) X.A (Xq (.builtin id) (v::us)) (EP X c d Q) X.xe s
theorem aw.one:∀{x:V} {us:List Qv},aw [x] us->∃u,us=[u]/\aL x u
 |_,_,.cons r .nil=>⟨_,rfl,r⟩
theorem aw.reverse{xs:List V}{us:List Qv}(h:aw xs us):aw xs.reverse us.reverse:=by
 induction h with
 |nil=>exact .nil
 |cons r t ih=>rw[VI,VI];exact aw.append ih (.cons r .nil)
theorem aw.rep(h:aw xs us):∀k:Nat,aw (QE k xs).flatten (QE k us).flatten
 |0=> .nil
 |k+1=>by
  rw[R6,R6,Ti,Ti];exact aw.append h (aw.rep h k)
theorem rB(its:List Qv):∀(k:Nat) (acc:List Qv),
  WT (λc d=>c++d) acc.toArray (QE k its.toArray)=(acc++(QE k its).flatten).toArray
 |0,acc=>by simp
 |k+1,acc=>by
  have e:acc.toArray++its.toArray=(acc++its).toArray:=by simp
  have f:(acc++its)++(QE k its).flatten=acc++(QE (k+1) its).flatten:=by
   rw[R6,Ti,Sa]
  rw[<-f,<-rB its k (acc++its),<-e,R6,List.foldl_cons]
end
section
variable{X:Cx}{ba:List (Qs×Q0)}{σ:St}{H:Hp}{s:QA}{l b:Qs}{xs ys zs:List V}
theorem c4.lset{its its':List Qv}(I:c4 X ba σ H s)(a:H l=on (.lst xs))
  (e:s.heap.get? l=on {cls:= .type "list",data:= .seq its.toArray n}) (c:f its.toArray=its'.toArray) (d:aw ys its') (g:ys.length<=QN):
  c4 X ba σ (upd H l (.lst ys)) {s with heap:=s.heap.update l (Sw f),toks:=t'}:=by
 have q:=PySem.IsL.update e f;rw[c]at q;refine I.write (x:=l) (e:=l) (by rw[a];exact trivial) (.inl rfl) (λj u h i=>(Yz s.heap (Sw f) (Ne.symm h)).trans i) ⟨_,q⟩ ?_;exact⟨g,its',_,d,q⟩
theorem c4.lnew{its:List Qv}(I:c4 X ba σ H s)(a:aw ys its)(c:ys.length<=QN):
  c4 X ba σ (upd H s.heap.objs.size (.lst ys)) {s with heap:=s.heap.push {cls:= .type "list",data:= .seq its.toArray},toks:=t'}:=
 I.laid (λ_ _ q=>Qm _ q) (Qz _) ⟨c,its,0,a,QK _ rfl⟩
theorem c4.fresh(I:c4 X ba σ H s):H s.heap.objs.size=Qh:=I.hok.fresh (Qz _)
theorem c4.lstM(I:c4 X ba σ H s)(a:H l=on (.lst xs)):xs.length<=QN/\∃(its:List Qv) (n:Nat),aw xs its/\xs.length=its.length/\s.heap.get? l=on {cls:= .type "list",data:= .seq its.toArray n}:=by
 obtain⟨z,its,n,r,e⟩:=I.hok l _ a;exact⟨z,its,n,r,r.length,e⟩
theorem EC(h:n<=QN):U3 n=Qr:=by
 unfold U3;exact Rk (by omega)
def qm:V->List V->Hp->VK->Prop:=λx vs H Q=>∃l xs y,x= .ref l/\vs=[y]/\H l=on (.lst xs)/\xs.length<QN/\Q .non (upd H l (.lst (xs++[y])))
theorem lP:MtM X "list.append" qm:=by
 intro ba s σ H x vs v us Q I c d h;obtain⟨l,xs,y,rfl,rfl,a,g,q⟩:=h;cases c;obtain⟨u,rfl,f⟩:=d.one;obtain⟨z,its,n,r,i,e⟩:=I.lstM a;refine YN F.slot_list_append ⟨_,e,rfl⟩ F.entry_list_append (ZV _ _) (ZM l its.toArray n u (by rw[QO];omega)) ⟨e,?_⟩;refine⟨.non,_,I.lset (its':=its++[u]) a e (by simp) (r.append (.cons f .nil)) ?_,rfl,q⟩;rw[QV,Ry];omega
noncomputable def rCat:R2:=λx y H Q=>∃l b xs zs,x= .ref l/\y= .ref b/\H l=on (.lst xs)/\H b=on (.lst zs)/\xs.length+zs.length<=QN/\∀p,H p=Qh->Q (.ref p) (upd H p (.lst (xs++zs)))
theorem MU:gv X (Th .Add) rCat:=by
 intro ba s σ H x y v u Q I c d h;obtain⟨l,b,xs,zs,rfl,rfl,f,hB,m,q⟩:=h;cases c;cases d;obtain⟨z,its,n,r,o,e⟩:=I.lstM f;obtain⟨p,a,t,g,i,j⟩:=I.lstM hB;refine Zo e j ?_ (by rw[QO,QO];omega);have k:its.toArray++a.toArray=(its++a).toArray:=by simp
 rw[k];exact⟨.ref _,_,I.lnew (t':=s.toks) (r.append g) (by rw[QV];omega),rfl,q _ I.fresh⟩
noncomputable def rRep:R2:=λx y H Q=>∃l k xs,x= .ref l/\y= .int k/\H l=on (.lst xs)/\-(2^63)<=k/\k<2^63/\xs.length*k.toNat<=QN/\
 ∀p,H p=Qh->Q (.ref p) (upd H p (.lst (QE k.toNat xs).flatten))
theorem Lf{α:Type}(xs:List α)(k:Nat):(QE k xs).flatten.length=k*xs.length:=by
 induction k with
 |zero=>simp
 |succ k ih=>rw[R6,Ti,QV,ih,Nat.succ_mul,Tq]
theorem MP:gv X (Th .Mult) rRep:=by
 intro ba s σ H x y v u Q I w A h;obtain⟨l,k,xs,rfl,rfl,B,C,J,p,q⟩:=h;cases w;obtain⟨t,rfl⟩:=A;obtain⟨z,its,n,r,L,e⟩:=I.lstM B;have d:its.toArray.size*k.toNat<=QN:=by rw[QO,<-L];exact p
 have f:¬its.toArray.size*k.toNat>(2^63-1)/8:=by
  have:(QN:Nat)<=(2^63-1)/8:=by decide
  omega
 have g:¬(!Builtin.List.listFitsIndex k)=Qo:=by
  rw[fitsIndex_both C J];exact Qx
 have c:¬U3 (its.toArray.size*k.toNat)=Qo:=by
  rw[EC d];exact Qx
 have i:WT (λj o=>j++o) #[] (QE (if its.toArray.isEmpty=Qo then 0 else k.toNat) its.toArray)=(QE k.toNat its).flatten.toArray:=by
  have N:∀m:Nat,WT (λj o=>j++o) #[] (QE m its.toArray)=(QE m its).flatten.toArray:=λm=>by
   have:=rB its m [];rw[TX]at this;exact this
  rw[N];cases its with
  |nil=>simp
  |cons a O=>rw[Qp (by simp)]
 refine wpAny_binaryOp_repeat_ref (T:="list") (U:="int") (by decide) ⟨_,e,rfl⟩ (λs'=>typeIs_int s' k t) noFill_list_mul F.fills_int_mul F.slot_int_rmul repeat_list F.slot_int_index.lookup
  (YN F.slot_int_rmul (typeIs_int s k t) F.entry_int_rmul (F.args_int_rmul_2 _ _) (int___rmul___int_list k t l its.toArray n)
   ⟨e,rfl,⟨_,e,rfl⟩,YN F.slot_list_mul ⟨_,e,rfl⟩ F.entry_list_mul (F.args_list_mul_2 _ _) (AutoListH.list___mul___list_int_3 l its.toArray n k t g f c) ⟨e,?_⟩⟩)
 rw[i];exact⟨.ref _,_,I.lnew (t':=s.toks) (r.rep k.toNat) (by rw[Lf,Rj];exact p),rfl,q _ I.fresh⟩
variable{prog:Rc}{w:Ro}{A:RG}{E:Qv->QA->Prop}
end
end L2
namespace Att
open PySem PySem.W PySem.Calls PyProof.Rows
theorem pE:∀(ns:List Int) (vs:List Qv),WellAll P h vs (ns.map WData.int)->YA vs ns:=by
 intro ns
 induction ns with
 |nil=>
  intro vs w;rw[Vd]at w;cases w;exact .nil
 |cons n ns ih=>
  intro vs w;rw[QB]at w;cases w with
  |cons a b=>
   cases a;exact .cons _ _ (ih _ b)
theorem zf{l:OpenLaw}(hn:l.most=on n){h:RQ}
  (b:l.row.toRowW.claim.pre args=Qo) (g:WellAll P h vals args):
  ∃a vs ns,vals=[QU a]/\args=[WData.list (ns.map WData.int)]/\h.get? a=on {cls:= .type "list",data:= .seq vs.toArray}/\YA vs ns/\ns.length<=n:=by
 have hsh:WShape.hasAll [] args [.list .int]=Qo:=(pre_splitW b).1;have hc:l.pre.holds [] {args:=args}=Qo:=(pre_splitW b).2;obtain⟨d,r,rfl,i,j⟩:=hasAllW_cons hsh;obtain rfl:=hasAllW_nil j;obtain⟨xs,rfl,k⟩:=hasW_list i;obtain⟨ns,rfl⟩:=items_int k;have c:ns.length<=n:=by
  unfold OpenLaw.pre at hc;have e:(WTm.not (.lt (.lit (.int (n:Int))) (.len (.arg 0)))).holds [] {args:=[.list (ns.map .int)]}=Qo:=by
   have e:=(holds_andW hc).1;rw[hn]at e;exact e
  have f:=condW_of e (w_not (w_lt w_lit (w_len_list (w_arg rfl))));rw[Qi]at f;refine Nat.le_of_not_lt λq=>?_;have m:(n:Int)<((ns.length:Nat):Int):=by omega
  first
   |(rw[QL m]at f;exact QX f (by decide))
   |(simp at f;omega)
 cases g with
 |cons o p=>
  cases p;cases o with
  |list ho hall=>exact⟨_,_,ns,rfl,rfl,ho,pE ns _ hall,c⟩
theorem zK(l:OpenLaw)(args:List WData):l.row.toRowW.claim.post args (.bool Qo) args=Qo:=
 postW_of (r:=l.row.toRowW) (X:=(Qo==Qo))
  (show WShape.has [] (.bool Qo) .bool=Qo by first|rfl|decide|simp[WShape.has,WShape.arms,WShape.armsAll])
  (show(WTm.eq .res (.lit (.bool Qo))).value [] {args:=args,res:=on (.bool Qo),after:=args}=on (.bool (Qo==Qo))from w_eq_bool (w_res rfl) w_lit) rfl
theorem attach_call{l:OpenLaw}{d:DefRec}
  (hn:l.most=on n) (k:d.params.defaults=[])
  (Xq:∀(w:Ro) (s₀ b:QA) (mg m:Rl->Option Qv) (g:Qs) (o:Q0) (p cd c:Qv) (a:Qs) (vs:List Qv) (ns:List Int),
   Ground q loose [] XP w s₀ mg m b.heap->YP w b.heap->
   b.heap.get? g=on o->o.data= .func (docDef d.name d.params d.body d.scope p cd c)->b.heap.CodeRec cd d.name->mg d.name=on (.ref g)->
   b.heap.get? a=on {cls:= .type "list",data:= .seq vs.toArray}->YA vs ns->ns.length<=n->b.gens=#[]->
   UH (Q4 l.prog w) XQ (.call (.ref g) ⟨[.ref a],[]⟩) (λr s'=>r= .ok (.ret (.bool Qo))/\OldK b.heap s'.heap/\s'.os=b.os/\VE s'.gens) b):
  WalkO q loose XP YP l.row.toRowW d [] (λf vs=>Zu f vs):=by
 intro w s₀ b mg m G Y g o p cd c C F H hd t y u I args A as h B J v L;obtain rfl:C= .none:=Dflts.none y k;obtain rfl:F= .none:=Dflts.noKw y;obtain⟨a,vs,ns,rfl,rfl,i,e,j⟩:=zf hn h v;refine enter_call (VN (Xq w s₀ b mg m g o p cd c a vs ns G Y H (fd_plain hd) t u i e j I) λr s' N=>?_);obtain⟨rfl,O,P,Q⟩:=N;exact⟨.inl ⟨.bool Qo,.bool Qo,[],rfl,λ_=>rfl,.bool Qo,zK l _,λ_=>⟨Wh,λ_ hm=>(nomatch hm)⟩⟩,O,P,Q⟩
section
variable{prog:Rc}{w:Ro}{A:RG}{E:Qv->QA->Prop}{s:QA}{K:QR}
end
end Att
namespace L2
open PySem PySem.Spec PyProof.Rows
theorem qT:∀{vs:List Qv} {ns:List Int},YA vs ns->aw (ns.map V.int) vs
 |_,_,.nil=> .nil
 |_,_,.cons n t h=> .cons ⟨t,rfl⟩ (qT h)
def IE(H:Hp):Prop:=∀b,H b=Qh\/∃o xs,H b=on (.frz o (.lst xs))
theorem ES{K:QR}{c:QA}{vs:List Qv}{ns:List Int}
  (R:K.In c.heap) (p:c.heap.Ns SS mg) (g:c.heap.Ns YM mb) (I:∀x:Rl,x≠"__name__"->mb x=Uw x) (t:c.heap.NoLimit) (hg:c.gens=#[])
  (ha:c.heap.get? a=on {cls:= .type "list",data:= .seq vs.toArray}) (T:YA vs ns) (U:ns.length<=QN) (hr:ej k XQ)
  (F:∀base:RQ,K.In base->base.Ns SS mg->fw P w K mg base CX k fa fd [x] sp) (l:∀(s:QA) (u:Qv),ZU s fd ⟨[u],[]⟩ [(x,u)])
  (J:∀H:Hp,IE H->f0 K H a (ns.map V.int)->sp [.ref a] H (λv _=>v= .bl Qo) λ_ _ _=>False)
  (L:∀H e s',CX [] H c (λ_ _ _=>False) e s'->False):
  UH (Q4 P w) XQ (.call (.ref fa) ⟨[.ref a],[]⟩) (λr s'=>r= .ok (.ret (.bool Qo))/\OldK c.heap s'.heap/\s'.os=c.os/\VE s'.gens) c:=by
 have W:=qT T;have y:=T.length
 --from an abstract heap in which nothing but the script may be tracked
 have j:∀H:Hp,IE H->f0 K H a (ns.map V.int)->lc P w H c.heap->(∀b,H b≠Qh->b=a)->(H a≠Qh->K.lookup a=Qh)->
   UH (Q4 P w) XQ (.call (.ref fa) ⟨[.ref a],[]⟩) (λr s'=>r= .ok (.ret (.bool Qo))/\OldK c.heap s'.heap/\s'.os=c.os/\VE s'.gens) c:=by
  intro H X hS hok Y hK;have f:∀{b:Qs} {o:Q0},c.heap.get? b=on o->H b=Qh->(kP c.heap H).get? b=on o:=λe n=>FE e n;have N:∀{b:Qs} {o:Q0} {es:Array Uv} {ep:Nat},c.heap.get? b=on o->o.data= .dict es ep->H b=Qh:=λ{b o es ep} e d=>by
   cases q:H b with
   |none=>rfl
   |some u=>
    have O:b=a:=Y b (by rw[q];simp);subst O;rw[ha]at e;cases e;have d':Data.seq vs.toArray _=Data.dict es ep:=d;cases d'
  have i:∀{b:Qs} {m:Rl->Option Qv},c.heap.Ns b m->(kP c.heap H).Ns b m:=λ{b m} ⟨o,es,ep,e,d,r⟩=>⟨o,es,ep,f e (N e d),d,r⟩;have A:K.In (kP c.heap H):=λb o e=>f (R b o e) (by
   cases q:H b with
   |none=>rfl
   |some u=>
    have O:b=a:=Y b (by rw[q];simp);subst O;rw[hK (by rw[q];simp)]at e;cases e)
  have hM:Mod K mg (kP c.heap H):=⟨A,i p,⟨mb,i g,I⟩,let ⟨mc,h1,h2⟩:=t;⟨mc,i h1,h2⟩⟩
  have e0:t_ P w K mg (kP c.heap H) XQ [] c H:=⟨rfl,hM,λb o e=>K3 e,Nat.le_of_eq (BC _ _),trivial,λb g=>QX (show b∈([]:List Qs)from g) (by simp),hok,.of_eq hg⟩;refine VN ((F _ A (i p)).run XQ [] c H ⟨[.ref a],[]⟩ [.ref a] [.ref a] _ _ hr e0 (l c (.ref a)) (.cons rfl .nil) (J H X hS)) λr s' h=>?_;cases r with
  |error e=>exact(L H e s' h).elim
  |ok fl=>
   cases fl with
   |next=>exact S8 h
   |brk=>exact S8 h
   |cont=>exact S8 h
   |ret u=>
    obtain⟨v,H',os,bare,un,B,r',q⟩:=h;have q':v= .bl Qo:=q;subst q';obtain rfl:u=WP Qo:=r';refine⟨rfl,OldK.of_keep λb o e=>?_,os,bare⟩;cases q:H b with
    |none=>exact un.keep b o e q (by intro z;exact QX (show b∈([]:List Qs)from z) (by simp)) (by simp)
    |some u=>
     rcases X b with z|⟨ob,xs,z⟩
     .rw[q]at z;cases z
     .have z2:=un.frzs b ob _ z
      obtain⟨Z,_⟩:=hok b _ z;obtain⟨e2,_⟩:=B b _ z2;rw[e]at Z;cases Z;exact e2
 cases Q:K.lookup a with
 |some o=>
  --the script is one of the module's own objects
  have e:=R a o Q;rw[ha]at e;cases e;refine j (λ_=>Qh) (λ_=> .inl rfl) (.inr ⟨_,vs.toArray,_,Q,rfl,rfl,rfl,by rw[QO,y];exact U,by simpa using W⟩) (λb u z=>by have C:(Qh:Option HO)=on u:=z;cases C) (λb z=>QX rfl z) λz=>QX rfl z
 |none=>
  refine j (λb=>if b=a then on (.frz {cls:= .type "list",data:= .seq vs.toArray} (.lst (ns.map V.int)))else Qh) (λb=>?_) (.inl (.inr ⟨{cls:= .type "list",data:= .seq vs.toArray},Qt rfl⟩)) (λb u z=>?_) (λb z=>?_) λ_=>Q
  .by_cases g:b=a
   .exact .inr ⟨_,_,Qt g⟩
   .exact .inl (Qp g)
  .by_cases g:b=a
   .have C:=(Qt g).symm.trans z
    cases C;subst g;exact⟨ha,by rw[Qi];exact U,vs,_,W,ha⟩
   .have C:=(Qp g).symm.trans z
    cases C
  .by_cases g:b=a
   .exact g
   .exact QX (Qp g) z
theorem walk_of{l:PySem.W.OpenLaw}{n k:Nat}{q:Rc}{loose:List Rl}{XP:(Rl->Option Qv)->RQ->Prop}{YP:Ro->RQ->Prop}{d:DefRec}{K:X8->QR}{CX:Ro->F0}{sp:Ro->Sp}{x:Rl}
  (hn:l.most=on n) (r:n<=QN) (t:d.params.defaults=[]) (J:ej k XQ)
  (L:∀(w:Ro) (h:RQ),YP w h->(K w.params).In h)
  (F:∀(w:Ro) (mg:Rl->Option Qv) (p:Qs) (h:RQ),(K w.params).In h->h.Ns SS mg->mg d.name=on (.ref p)->
   ∃B:Q2,(∀(s:QA) (u:Qv),ZU s B ⟨[u],[]⟩ [(x,u)])/\
    ∀base:RQ,(K w.params).In base->base.Ns SS mg->fw l.prog w (K w.params) mg base (CX w) k p B [x] (sp w))
  (y:∀(w:Ro) (H:Hp) (a:Qs) (ns:List Int),ns.length<=n->IE H->f0 (K w.params) H a (ns.map V.int)->sp w [.ref a] H (λv _=>v= .bl Qo) λ_ _ _=>False)
  (A:∀(w:Ro) (H:Hp) (s:QA) (e:Qv) (s':QA),CX w [] H s (λ_ _ _=>False) e s'->False):
  PySem.W.WalkO q loose XP YP l.row.toRowW d [] (λf vs=>Zu f vs):=by
 refine Att.attach_call hn t λw s₀ j mg X p o Z cd N a vs ns G Y ho hd O C m i c P=>?_;have I:=L w _ Y;obtain⟨B,Q,hF⟩:=F w mg p _ I G.T.g C;exact ES I G.T.g G.T.b G.T.builtins G.T.nolimit P m i (Qw c r) J hF Q (λH R U=>y w H a ns c R U) λH e s'=>A w H j e s'
noncomputable def aE(s:RT)(j:Nat):RT:=match s with
 | .ClassDef _ _ _ body _ _ _ _ _ _ _=>body.getD j (.Pass ⟨0,0,0,0⟩)
 |_=> .Pass ⟨0,0,0,0⟩
noncomputable def iB(s:RT):Arguments:=match s with
 | .FunctionDef _ a _ _ _ _ _ _ _ _=>a
 |_=>{posonlyargs:=[],args:=[],vararg:=Qh,kwonlyargs:=[],kw_defaults:=[],kwarg:=Qh,defaults:=[]}
noncomputable def ci(s:RT):List RT:=match s with
 | .FunctionDef _ _ b _ _ _ _ _ _ _=>b
 |_=>[]
noncomputable def ae(s:RT):Scope:=match s with
 | .FunctionDef _ _ _ _ _ _ sc _ _ _=>sc
 |_=>{kind:= .function,names:=[],isGenerator:=Qr,isCoroutine:=Qr}
abbrev E0:St->XK:=λ_ _ _ _=>False
structure Fun (K:QR) (x qual:Rl) (st:RT) (f:Qs) (fd:Q2):Prop where
 ex:∃(oc:Qv) (od:Option Qs) (kV doc pm:Qv) (an:Option Qs) (cdv ct:Qv) (osl:Array (Option Qv)),
  fd=UB x qual (iB st) (ci st) (ae st) .none kV doc pm an cdv ct/\K.lookup f=on ⟨oc,od,.func fd,osl⟩/\U8 K cdv qual=Qo
 kp:VZ K (.ref f)=Qo
section
variable{P:Rc}{w:Ro}{K:QR}{mg:Rl->Option Qv}{base:RQ}
theorem sK{A:RG}(a:ej k A):A.units+1<U4:=Sn (ZF (by decide:1<=64) _) a.units
theorem qZ(h:n<=1000):n<QN:=Sn h (by decide)
variable{X:Cx}
theorem pv(i:Nat)(b:X.N[i]?=on x:=by rfl)(c:Vis X.env.scope x:=by first|exact S5 rfl|exact Ut (S5 rfl)|exact Ut (Ut rfl))(hd:(x==("__debug__":Rl))=Qr:=by decide)
  (a:(x==("__classdict__":Rl))=Qr:=by decide):PE X (.Name x pos) (kn i):=MH b c hd a
theorem iteT{A B:Prop}(h:A):if Qo=Qo then A else B:=by
 rw[Qt rfl];exact h
theorem ite2{c A B:Prop} [Decidable c](a:c->A)(b:¬c->B):if c then A else B:=by
 by_cases h:c
 .rw[Qt h]
  exact a h
 .rw[Qp h]
  exact b h
def bE(H a:Hp):Prop:=∀b o,H b=on o->a b=on o
theorem bE.refl(H:Hp):bE H H:=λ_ _ h=>h
theorem bE.trans(a:bE H H1)(b:bE H1 H2):bE H H2:=λc o h=>b c o (a c o h)
theorem bE.free(e:bE H H')(h:H' l=Option.none):H l=Option.none:=by
 cases q:H l with
 |none=>rfl
 |some o=>
  rw[e l o q]at h;cases h
theorem cW:∀(names:List (Rl×Um)) (n:Nat) (acc:List (Rl×Qs)),Sx n names acc=Sx n names []++acc
 |[],_,_=>rfl
 |(x,k)::r,n,acc=>by
  unfold Sx;split
  .rw[cW r (n+1) ((x,n)::acc),cW r (n+1) [(x,n)],Sa]
   rfl
  .exact cW r n acc
theorem ia:∀{names:List (Rl×Um)} {n:Nat} {x:Rl} {c:Qs},(x,c)∈Sx n names []->(x,XD)∈names
 |[],_,_,_,h=>by cases h
 |(y,k)::r,n,x,c,h=>by
  unfold Sx at h;split at h
  .rename_i a
   rw[cW]at h;rcases RK.mp h with h|h
   .exact Qk _ (ia h)
   .obtain⟨rfl,_⟩:x=y/\c=n:=by simpa using h
    obtain rfl:k= .cell:=by simpa using a
    exact Qq
  .exact Qk _ (ia h)
noncomputable def cP(cells:List (Rl×Qs)):List (Rl×Um)->List (Rl×Qs)->List (Rl×Qs)
 |[],acc=>acc
 |(x,k)::r,acc=>if k== .free then cP cells r ((x,(cells.lookup x).getD 0)::acc)else cP cells r acc
theorem lm{cells:List (Rl×Qs)}:∀{names:List (Rl×Um)} {acc:List (Rl×Qs)} {x:Rl} {c:Qs},(x,c)∈cP cells names acc->(x,c)∈acc\/((x,Tf)∈names/\c=(cells.lookup x).getD 0)
 |[],_,_,_,h=> .inl h
 |(y,k)::r,acc,x,c,h=>by
  unfold cP at h;split at h
  .rename_i a
   obtain rfl:k= .free:=by simpa using a
   rcases lm h with h|⟨h,e⟩
   .rcases QD.mp h with h|h
    .cases h
     exact .inr ⟨Qq,rfl⟩
    .exact .inl h
   .exact .inr ⟨Qk _ h,e⟩
  .rcases lm h with h|⟨h,e⟩
   .exact .inl h
   .exact .inr ⟨Qk _ h,e⟩
theorem oq:∀{names:List (Rl×Um)} {acc:List (Rl×Qs)} {p:Rl×Qs},p∈acc->p∈cP cells names acc
 |[],_,_,h=>h
 |(y,k)::r,acc,p,h=>by
  unfold cP;split
  .exact oq (Qk _ h)
  .exact oq h
theorem oo{cells:List (Rl×Qs)}:∀{names:List (Rl×Um)} {acc:List (Rl×Qs)} {x:Rl},(x,Tf)∈names->(x,(cells.lookup x).getD 0)∈cP cells names acc
 |[],_,_,h=>by cases h
 |(y,k)::r,acc,x,h=>by
  unfold cP;rcases QD.mp h with h|h
  .cases h
   rw[Qt (by decide)];exact oq Qq
  .split
   .exact oo h
   .exact oo h
theorem k8{α:Type}:∀{l:List (Rl×α)} {x:Rl} {c:α},(x,c)∈l->∃d,l.lookup x=on d
 |[],_,_,h=>by cases h
 |(y,d)::r,x,c,h=>by
  rw[V3];cases a:x==y with
  |true=>exact⟨d,rfl⟩
  |false=>
   rcases QD.mp h with h|h
   .cases h
    simp at a
   .exact k8 h
theorem cA{α:Type}:∀{l:List (Rl×α)} {x:Rl} {c:α},(l.map (·.1)).Nodup->(x,c)∈l->l.lookup x=on c
 |[],_,_,_,h=>by cases h
 |(y,d)::r,x,c,nd,h=>by
  rw[QB]at nd;obtain⟨a,b⟩:=Rf.mp nd;rw[V3];rcases QD.mp h with h|h
  .cases h
   simp
  .have:x≠y:=λe=>a (e▸List.mem_map_of_mem (f:=(·.1)) h)
   rw[beq_eq_false_iff_ne.mpr this];exact cA b h
theorem qK{env:XH}(f:Rl×Um->List (Rl×Qs)->Sem (ForInStep (List (Rl×Qs))))
  (g:∀name kind cs,f (name,kind) cs=if kind== .free then(do let a <-cellOf env name;SY (.yield ((name,a)::cs)))else SY (.yield cs)):
  ∀(names:List (Rl×Um)) (acc:List (Rl×Qs)),(∀y∈names,y.2= .free->∃c,env.cells.lookup y.1=on c)->YT names acc f=SY (cP env.cells names acc)
 |[],_,_=>by rw[Tx];rfl
 |(x,k)::r,acc,h=>by
  rw[Tg,g];unfold cP;have i:∀y∈r,y.2= .free->∃c,env.cells.lookup y.1=on c:=λy j=>h y (Qk _ j);by_cases b:(k==Tf)=Qo
  .rw[Qt b,Qt b]
   obtain⟨c,hc⟩:=h (x,k) Qq (by simpa using b);have d:env.cells.lookup x=on c:=hc;have e:cellOf env x=SY c:=by unfold cellOf;rw[d]
   rw[e,d];simp only[pure_bind];exact qK f g r _ i
  .rw[Qp b,Qp b]
   simp only[pure_bind];exact qK f g r _ i
theorem yt{scope:Scope}{env:XH}(h:∀y∈scope.names,y.2= .free->∃c,env.cells.lookup y.1=on c):closureFor scope env=SY (cP env.cells scope.names []):=by
 simp only[closureFor];rw[qK (env:=env) _ (λname kind cs=>by cases a:kind==Tf<;>simp[a]) scope.names [] h]
 rfl
theorem FK{M:Model}{E:Qv->QA->Prop}{s:QA}{scope:Scope}
  (f:∀h':RQ,h'.Ns s.heap.objs.size (λ_=>Qh)->(∀b o,s.heap.get? b=on o->h'.get? b=on o)->
   (∀n c,(n,c)∈Sx (s.heap.objs.size+1) scope.names []->h'.IsCell c Qh/\s.heap.objs.size+1<=c)->
   ((Sx (s.heap.objs.size+1) scope.names []).Pairwise λx y=>x.2≠y.2)->
   Q (newEnv scope s.heap.objs.size globals (Sx (s.heap.objs.size+1) scope.names cl) qual Qh .none (on env) YM) {s with heap:=h'}):
  QJ M A (YX scope globals cl [] qual Qh .none (on env)) Q E s:=by
 simp only[YX,Option.isSome_some,RF];refine My (wpAny_alloc ?_);refine My (wpAny_layCells _ (λname kind cells=>by cases a:kind==XD<;>simp[a]) _ _ _ _ ?_)
 have ok:=cellsFrom_ok scope.names (s.heap.push {cls:= .type "dict",data:= .dict #[]}) (s.heap.objs.size+1) [] ⟨λ_ _ hm=>(nomatch hm),Wh⟩ (by rw[Sj];exact Qz _);rw[Sj]at ok;rw[show({s with heap:=s.heap.push {cls:= .type "dict",data:= .dict #[]}}:QA).heap.objs.size=s.heap.objs.size+1 from Sj ..];have d:=f (pushCells (s.heap.push {cls:= .type "dict",data:= .dict #[]}) scope.names) ((Heap.Ns.new s.heap (.type "dict")).keeps (pushCells_keeps _ _)) (λb o e=>pushCells_keeps _ _ b o (Qm _ e)) ok.empty ok.apart;exact My (Qj (Qj d))
noncomputable abbrev aK(X:Cx)(a:List Rl)(scope:Scope)(cl:List (Rl×Qs))(C:Qs)(b:List Qs)(s:QA)(H:Hp):Cx:=
 {X with N:=a,s₀:=s,H₀:=H,env:=compEnvC scope cl C X.env,outer:=X.stack,stack:=X.stack,ex:=b,fn:=λx=>scope.names.lookup x !=on .free,pn:=[],xe:=λ_ _=>False}
theorem i0{scope:Scope}{y:Rl×Um}(h:y∈(relabel scope env).names):y∈scope.names\/(y.2= .cell/\(y.1,Tf)∈scope.names):=by
 obtain⟨⟨n,k⟩,hm,e⟩:=QC.mp h
 dsimp only at e
 split at e
 .rename_i a
  cases e;simp only[Q9,Uo]at a;obtain⟨⟨a,_⟩,_⟩:=a;subst a;exact .inr ⟨rfl,hm⟩
 .cases e
  exact .inl hm
theorem EZ{X:Cx}{Q:St}{s:QA}{Nc dr:List Rl}{c_:List Nat}{scope:Scope}{h':RQ}(I:c4 X ba Q H s)
  (hk:scope.kind= .function) (g:(scope.names.map (·.1)).Nodup) (f:∀y∈scope.names,y.2= .free->X.env.kindOf y.1=on .cell\/X.env.kindOf y.1=on .free)
  (R:Nc=dr++c_.map (λj=>X.N.getD j Ul)) (T:∀j∈c_,j<X.N.length/\scope.names.lookup (X.N.getD j Ul)=on .free)
  (F:∀b∈fp,eS X ba H b) (U:∀b∈fp,∃o,s.heap.get? b=on o) (ns:h'.Ns s.heap.objs.size λ_=>Qh) (keep:∀b o,s.heap.get? b=on o->h'.get? b=on o)
  (O:∀n c,(n,c)∈Sx (s.heap.objs.size+1) scope.names []->h'.IsCell c Qh/\s.heap.objs.size+1<=c) (ca:(Sx (s.heap.objs.size+1) scope.names []).Pairwise λx y=>x.2≠y.2):
  c4 (aK X Nc scope (Sx (s.heap.objs.size+1) scope.names (cP X.env.cells scope.names [])) s.heap.objs.size fp s H) [] (QE dr.length Qh++c_.map (λj=>Q.getD j Qh)) H {s with heap:=h'}:=by
 --the cells
 have old:∀{x:Rl} {c:Qs},(x,c)∈cP X.env.cells scope.names []->X.env.cells.lookup x=on c/\(x,Tf)∈scope.names:=λ{x c} h=>by
  rcases lm h with h|⟨hm,e⟩
  .cases h
  .obtain⟨d,hd⟩:=I.ok.has x (f _ hm rfl)
   rw[hd]at e;exact⟨by rw[hd,e];rfl,hm⟩
 have a:∀{x:Rl} {c:Qs},(Sx (s.heap.objs.size+1) scope.names (cP X.env.cells scope.names [])).lookup x=on c->
   (x,c)∈Sx (s.heap.objs.size+1) scope.names []\/(X.env.cells.lookup x=on c/\(x,Tf)∈scope.names):=λ{x c} h=>by
  have h:=R0 h;rw[cW]at h;rcases RK.mp h with h|h
  .exact .inl h
  .exact .inr (old h)
 have freeC:∀{x:Rl},(x,Tf)∈scope.names->∃c,X.env.cells.lookup x=on c/\(Sx (s.heap.objs.size+1) scope.names (cP X.env.cells scope.names [])).lookup x=on c:=λ{x} hm=>by
  obtain⟨d,hd⟩:=I.ok.has x (f _ hm rfl);have e:=oo (cells:=X.env.cells) (acc:=[]) hm;obtain⟨c,hc⟩:=k8 (l:=Sx (s.heap.objs.size+1) scope.names (cP X.env.cells scope.names [])) (x:=x) (c:=(X.env.cells.lookup x).getD 0) (by rw[cW];exact Rq _ e);rcases a hc with z|⟨z,_⟩
  .have B:=cA g (ia z)
   rw[cA g hm]at B;cases B
  .exact⟨c,z,hc⟩
 have k:∀{x:Rl} {c:Qs},X.env.cells.lookup x=on c->c<s.heap.objs.size:=λ{x c} h=>let ⟨v,q⟩:=I.cell x c h;q.lt
 have nofr:H s.heap.objs.size=Qh:=I.hok.fresh (Qz _);have W:∀b∈hE X.stack,b∈X.env.locals::X.fs:=I.stkSub;refine⟨⟨I.ok.mod,hk,I.ok.glob,I.ok.blt,Qz _,λx y c h1 h2=>?_,λx hx=>?_,λx c hf h=>?_,I.ok.hd,I.ok.frames,.inl rfl,λb J=>⟨?_,λx c h e=>?_⟩,I.bs,Qw I.ok.bsz I.sz,λb o e J=>?_,λb J hf=>?_,I.stack,I.stkFree⟩,
  rfl,I.bare,Un.kept keep,⟨_,ns,λi x v e1 A e3=>?_⟩,λx c h=>?_,nofr,λx c h=>?_,λp hp=>QX hp (by simp),I.hok.kept keep,?_⟩
 .rcases a h1 with B|⟨B,_⟩<;>rcases a h2 with Y|⟨Y,_⟩
  .exact name_of_addr ca B Y
  .exact QX (QY (k Y) (Qw (VS _) (O _ _ B).2)) (Rv _)
  .exact QX (QY (k B) (Qw (VS _) (O _ _ Y).2)) (Rv _)
  .exact I.ok.inj _ _ _ B Y
 .--has
  have hx:(relabel scope X.env).names.lookup x=on .cell\/(relabel scope X.env).names.lookup x=on .free:=hx;have hm:(x,XD)∈scope.names\/(x,Tf)∈scope.names:=by
   rcases hx with hx|hx
   .rcases i0 (R0 hx)with z|⟨_,z⟩
    .exact .inl z
    .exact .inr z
   .rcases i0 (R0 hx)with z|⟨_,z⟩
    .exact .inr z
    .exact .inr z
  rcases hm with hm|hm
  .have q:=YO scope.names (s.heap.objs.size+1) (cP X.env.cells scope.names []) (x:=x) (.inl (cA g hm))
   exact X2.mp q
  .obtain⟨c,_,hc⟩:=freeC hm
   exact⟨c,hc⟩
 .--cab
  rcases a h with z|⟨_,z⟩
  .exact Qw (VS _) (O _ _ z).2
  .have z':(scope.names.lookup x !=on .free)=Qo:=hf
   rw[cA g z]at z';exact QX z' (by decide)
 .obtain⟨o,e⟩:=U b J
  exact Rr (QZ e)
 .rcases a h with z|⟨z,_⟩
  .obtain⟨o,e'⟩:=U b J
   subst e;exact QX (QY (QZ e') (Qw (VS _) (O _ _ z).2)) (Rv _)
  .exact(F b J).2.2.2.2.1 x c z e
 .obtain⟨_,_,_,h4,_⟩:=F b J
  rcases h4 with z|z
  .exact I.ok.noex b o e z
  .exact QX (QY (QZ (I.ok.bs b o e).1) z) (Rv _)
 .obtain⟨_,h2,h3,_⟩:=F b J
  rcases QD.mp (W b hf)with z|z
  .exact h2 z
  .exact h3 z
 .--the names' values
  have hi:¬i<dr.length:=λhi=>by
   rw[Uj (by simpa using hi),SI]at A;split at A<;>cases A
  have L:(dr++c_.map (λj=>X.N.getD j Ul))[i]?=on x:=by rw[<-R];exact e1
  rw[SM (by omega)]at L;rw[SM (by simpa using hi)]at A;rw[Sy]at A;cases q:c_[i-dr.length]? with
  |none=>rw[Qu,q]at A;cases A
  |some j=>
   rw[Qu,q]at L A;have C:X.N.getD j Ul=x:=Q7 L;have Z:Q.getD j Qh=on v:=Q7 A;obtain⟨hj,t⟩:=T j (Q1 q);rw[C]at t;obtain⟨c,hc,hc'⟩:=freeC (R0 t);have hNj:X.N[j]?=on x:=by
    rw[<-C,Qn,Ql hj];rfl
   have hσj:Q[j]?=on (on v):=by
    have hl:j<Q.length:=by rw[I.len];exact hj
    rw[Qn,Ql hl]at Z;rw[Ql hl];exact RE on Z
   have hkx:=f _ (R0 t) rfl;obtain⟨m,hn,hl⟩:=I.loc;obtain⟨u,r,l⟩:=hl j x v hNj hσj (hkx.elim (λz=> .inr (.inl z)) λz=> .inr (.inr z));refine⟨u,r,.inr ⟨?_,c,hc',?_⟩⟩
   .rcases e3 with z|z|z
    .exfalso
     rcases i0 (R0 z)with y|⟨y,_⟩
     .rw[cA g y]at t;cases t
     .cases y
    .exact .inl z
    .exact .inr z
   .rcases l with⟨l,_⟩|⟨_,c',e,z⟩
    .exfalso
     rcases hkx with y|y
     .have y':X.env.kindOf x=on .cell:=y
      rw[l]at y';cases y'
     .have y':X.env.kindOf x=on .free:=y
      rw[l]at y';cases y'
    .rw[hc]at e
     cases e;exact z.keeps keep
 .rcases a h with z|⟨z,_⟩
  .exact⟨Qh,(O _ _ z).1⟩
  .obtain⟨v,q⟩:=I.cell x c z
   exact⟨v,q.keeps keep⟩
 .rcases a h with z|⟨z,_⟩
  .exact I.hok.fresh (Qw (VS _) (O _ _ z).2)
  .exact I.freeC x c z
 .show _=Nc.length
  rw[R,QV,QV,Sy,Qi,Qi]
abbrev TB:=St->Hp->(St->Hp->Prop)->Prop
inductive Y_ where
 |L (e:Expr)|S (e:Expr)|D (k v:Expr)
instance:Coe Expr Y_:=⟨.L⟩
noncomputable def pj(c:Y_)(gens:List Ss)(scope:Scope)(pos:Vm):Expr:=match c with
 | .L e=> .ListComp e gens scope pos
 | .S e=> .SetComp e gens scope pos
 | .D k v=> .DictComp k v gens scope pos
noncomputable def emC(c:Y_)(acc:Qv)(env:XH):Sem Unit:=match c with
 | .L e=>do let _ <-Xq (.builtin "list.append") [acc,<-RN e env]
 | .S e=>do let v <-RN e env;Uh e.pos;let _ <-Xq (.builtin "set.add") [acc,v]
 | .D k v=>do
   let kv <-RN k env
   let vv <-UW [kv] (RN v env)
   match acc with
   | .ref d=>do
    Uh {k.pos with endLine:=v.pos.endLine,endCol:=v.pos.endCol}
    UW [kv,vv] (dictSet d kv vv)
   |_=>unsupported "internal:dictcomp"
noncomputable def gW(c:Y_)(gens:List Ss)(scope:Scope)(pos:Vm)(d:Nat)(acc:Qv)(env:XH)(k:Sem VX):Sem VX:=
 match gens[d+1]? with
 |some g'=>do
  let x <-RN g'.iter env
  Uh g'.iter.pos
  let x <-if g'.is_async !=0 then foldedIterable g'.iter x else RC g'.iter env x
  let _ <-runOwn (.compStart (pj c gens scope pos) (d+1) (<-UW [x] (if g'.is_async !=0 then asyncIter x else W2 x)) acc env) env
  k
 |none=>do
  emC c acc env
  k
theorem vg{a b:Expr}(e:gens[d]?=on ⟨a,b,ifs,0⟩):
  compTurn (pj c gens scope pos) d it acc env=(do
   Uh b.pos
   match <-UX it with
   |none=>SY (.done .next)
   |some v=>
    VB a it v
    VA a env v
    let mut ok:=Qo
    for y in ifs do
     if ok then ok <-isTrue y env (RN y env)
    if ok then gW c gens scope pos d acc env (Yn (.compLoop (pj c gens scope pos) d it acc env))
    else Yn (.compLoop (pj c gens scope pos) d it acc env)):=by
 cases c<;>(
  unfold compTurn gW pj emC
  dsimp only
  rw[e]
  dsimp only
  cases gens[d+1]?<;>rfl)
variable{prog:Rc}{A:RG}{R:Result->QA->Prop}{s:QA}
theorem EL(F:gens[d]?=on ⟨cy,iter,ifs,0⟩)(I:Nat->QA->Prop)
  (q:∀n s,I n s->QJ (Q4 prog w) A (UX it) (λr a=>match r with
   |none=>R (.ok .next) a
   |some v=>QJ (Q4 prog w) A (VB cy it v) (λ_ b=>QJ (Q4 prog w) A (VA cy env v) (λ_ j=>
    QJ (Q4 prog w) A (YT ifs Qo λy r=>if r=Qo then do let ok <-isTrue y env (RN y env);SY (VQ ok)else SY (VQ r)) (λok g=>
     if ok=Qo then ∀(k:Sem VX) (B:VX->QA->Prop) (C:Qv->QA->Prop),(∀i m,m<n->I m i->QJ (Q4 prog w) A k B C i)->QJ (Q4 prog w) A (gW c gens scope pos d acc env k) B C g
     else ∃m,m<n/\I m g) (λ_ _=>False) j) (λ_ _=>False) b) (λ_ _=>False) a) (λ_ _=>False) s)
  (n:Nat) (h:I n s):
  UH (Q4 prog w) A (.compLoop (pj c gens scope pos) d it acc env) R s:=by
 refine codeAny_loop rfl I (λn s hI=>?_) n h
 suffices z:QJ (Q4 prog w) A ((compTurn (pj c gens scope pos) d it acc env).onRaise (λx=>do noteFrame x env;theTreesLotGoes x)) (λu s'=>match u with
   |Fin.done f=>R (SE f) s'
   |Fin.again c'=>c'=Code.compLoop (pj c gens scope pos) d it acc env/\∃m,m<n/\I m s') (λe s'=>R (Except.error e) s') s by cases c<;>exact z
 refine wpAny_noted ?_;rw[vg F];refine My (SG (My (Rw (q n s hI) (λr a l=>?_) λ_ _ h'=>h'.elim)));cases r with
 |none=>exact Qj l
 |some v=>
  refine My (Rw l (λ_ b p=>?_) λ_ _ h'=>h'.elim);refine My (Rw p (λ_ j t=>My (Rw t (λok g o=>?_) λ_ _ h'=>h'.elim)) λ_ _ h'=>h'.elim);cases ok with
  |false=>exact Qj ⟨rfl,o⟩
  |true=>exact o _ _ _ λi m hm hI=>Qj ⟨rfl,m,hm,hI⟩
theorem y8(j:gens[d]?=on ⟨cy,iter,ifs,0⟩)
  (i:UH (Q4 prog w) A (.compLoop (pj c gens scope pos) d it acc env) R s)
  (h:QJ (Q4 prog w) A (W2 it) (λa s'=>UH (Q4 prog w) A (.compLoop (pj c gens scope pos) d a acc env) R s') (λ_ _=>False) s):
  UH (Q4 prog w) A (.compStart (pj c gens scope pos) d it acc env) R s:=by
 refine codeAny_of_tree ?_
 suffices z:QJ (Q4 prog w) A ((compStart (pj c gens scope pos) d it acc env).onRaise (λx=>do noteFrame x env;Uh theWindowsPlace)) (λg s'=>match g with
   |Fin.done f=>R (SE f) s'
   |Fin.again c'=>c'.quiet=Qo/\UH (Q4 prog w) A c' R s') (λe s'=>R (Except.error e) s') s by cases c<;>exact z
 refine wpAny_notedAt ?_;unfold compStart;have b:(clausesOf (pj c gens scope pos))[d]?=on ⟨cy,iter,ifs,0⟩:=by cases c<;>exact j
 generalize (clausesOf (pj c gens scope pos))[d]?=og at b⊢;subst b;show QJ _ _ (ask>>=_) _ _ s;refine My (Vc (wpAny_ite ?_));split
 .first
   |exact My (Qj (Qj (Yw rfl i)))
   |exact Qj (Yw rfl i)
 .first
   |exact My (T4 (My (SG (My (Rw h (λa s' h'=>Qj (Yw rfl h')) λ_ _ x=>x.elim)))))
   |(refine My (T4 ?_);show QJ _ _ (Uh iter.pos>>=_) _ _ s;exact My (SG (My (Rw h (λa s' h'=>Qj (Yw rfl h')) λ_ _ x=>x.elim))))
def dQ(X:Cx)(b:List Expr)(t:TT):Prop:=
 ∀(a:List (Qs×Q0)) (s:QA) (d:St) (H:Hp) (Q:Bool->Hp->Prop),c4 X a d H s->t d H Q->
  QJ (Q4 X.prog X.w) X.A (YT b Qo λc r=>if r=Qo then do let ok <-isTrue c X.env (RN c X.env);SY (VQ ok)else SY (VQ r)) (TP X a d Q) X.xe s
noncomputable def LX:TT:=λ_ H Q=>Q Qo H
theorem uq{X:Cx}:dQ X [] LX:=λ_ _ _ H _ I h=>Qj ⟨H,I,h⟩
theorem DS{X:Cx}(hc:PT X c t):dQ X [c] t:=λa s d H Q I h=>by
 simp only[Tg,Tx,RF];exact My (My (Rw (hc a s d H Q I h) (λb s' e=>Qj (Qj e)) λ_ _ x=>x))
def PB(X:Cx)(c:Y_)(gens:List Ss)(scope:Scope)(pos:Vm)(d:Nat)(D:Qs)(t:TB):Prop:=
 ∀(a:List (Qs×Q0)) (s:QA) (e:St) (H:Hp) (Q:St->Hp->Prop),c4 X a e H s->t e H Q->
  ∀(k:Sem VX) (f:VX->QA->Prop) (g:Qv->QA->Prop),(∀s' b h,c4 X a b h s'->Q b h->QJ (Q4 X.prog X.w) X.A k f g s')->QJ (Q4 X.prog X.w) X.A (gW c gens scope pos d (.ref D) X.env k) f g s
def c5(J:It)(g:TG)(tt:TT)(j:TB):TB:=λc H Q=>∃W:Nat->Nat->St->Hp->Prop,(∃m,W 0 m c H)/\∀i m c H,W i m c H->
 (J.stop i H/\Q c H)\/(J.go i H/\∃N:St->Hp->Prop,(∀d e,N d e->∃f,f<m/\W (i+1) f d e)/\∀x e,J.yld i H x e->g x c e λa k=>tt a k λb h=>if b=Qo then j a h N else N a h)
def yy(D:Qs)(c:TE):TB:=λa H Q=>c a H λv b=>∃xs,b D=on (.lst xs)/\xs.length<QN/\Q a (upd b D (.lst (xs++[v])))
def yx(b:TI)(c:It->TB):TB:=λa H Q=>b a H λJ d=>c J a d Q
variable{c:Y_}{elt cy iter:Expr}{ifs:List Expr}{gens:List Ss}{scope:Scope}{pos:Vm}{d:Nat}{D:Qs}
theorem rH(hg:gens[d]?=on ⟨cy,iter,ifs,0⟩)(hc:X.calm=Qo)(F:X.xe=λ_ _=>False)(hgt:PG X cy g)(hts:dQ X ifs tt)(j:PB X c gens scope pos d D tb)
  {s:QA}
  (I:c4 X ba σ H s) (T:m3 X.prog X.w X.K cy J fp it tn) (st:tn 0 s.heap) (hf:∀b∈fp,eS X ba H b) (h:c5 J g tt tb σ H Q):
  UH (Q4 X.prog X.w) X.A (.compStart (pj c gens scope pos) d (.ref it) (.ref D) X.env) (λr s'=>r= .ok .next/\∃a f,c4 X ba a f s'/\Q a f) s:=by
 obtain⟨W,⟨m0,w0⟩,L⟩:=h;have l:∀{f:Hp},(∀b∈fp,f b=Qh)->∀b∈fp,eS X ba f b:=λhn b j=>⟨hn b j,(hf b j).2⟩;have t:UH (Q4 X.prog X.w) X.A (.compLoop (pj c gens scope pos) d (.ref it) (.ref D) X.env) (λr s'=>r= .ok .next/\∃a f,c4 X ba a f s'/\Q a f) s:=by
  refine EL hg (λn s'=>∃i a f,c4 X ba a f s'/\tn i s'.heap/\(∀b∈fp,f b=Qh)/\W i n a f) ?_ m0 ⟨0,σ,H,I,st,λb j=>(hf b j).1,w0⟩;rintro n s3 ⟨i,p,Z,I3,O,U,w3⟩;rcases L i n p Z w3 with⟨stop,qn⟩|⟨go,N,hN,step⟩
  .refine en (T.done X rfl rfl rfl hc i ba s3 p Z _ I3 (l U) O stop) λr s4 ⟨hr,I4⟩=>?_
   subst hr;exact⟨rfl,p,Z,I4,qn⟩
  .refine en (T.item X rfl rfl rfl hc i ba s3 p Z _ I3 (l U) O go) λr s4 ⟨u,hr,h4⟩=>?_
   subst hr;refine en h4 λ_ s5 ⟨x,H5,I5,r5,y5,v,fr5⟩=>?_;have I5':=I5.pinned (l fr5) (T.obj _ _ v);have Yn:∀{q:St} {y:Hp} {B:QA},c4 X (ba++lM fp s5.heap) q y B->N q y->∃m,m<n/\∃i a f,c4 X ba a f B/\tn i B.heap/\(∀b∈fp,f b=Qh)/\W i m a f:=λ{q y B} C n7=>by
    obtain⟨m',hm,w7⟩:=hN q y n7;refine⟨m',hm,i+1,q,y,C.unpinned,T.keep _ _ _ v λb j o e=>(C.pin (b,o) (Rq _ (Rq _ (iw j e)))).1,λb j=>?_,w7⟩;obtain⟨o,e,d⟩:=T.obj _ _ v b j;exact(C.pin (b,o) (Rq _ (Rq _ (iw j e)))).2.1
   have h6:=hgt _ s5 p H5 x u _ I5' r5 (step x H5 y5);rw[F]at h6;refine en h6 λ_ s6 ⟨Y,H6,I6,q6⟩=>?_;have h7:=hts _ s6 Y H6 _ I6 q6;rw[F]at h7;refine en h7 λb B ⟨y,C,q7⟩=>?_;cases b with
   |true=>
    rw[Qt rfl]at q7⊢;intro k Q' E' hk;refine j _ B Y y N C q7 k Q' E' λs8 σ8 H8 I8 n8=>?_;obtain⟨m,hm,z⟩:=Yn I8 n8;exact hk s8 m hm z
   |false=>
    rw[Qp Qx]at q7⊢;exact Yn C q7
 exact y8 hg t (T.self X.A 0 s _ _ st t)
theorem aS(m:gens[d+1]?=Qh)(o:PE X elt te)(b:X.xe=λ_ _=>False):PB X elt gens scope pos d D (yy D te):=by
 intro a s g H Q I h k y B p;unfold gW;rw[m];show QJ _ _ ((do let _ <-Xq (.builtin "list.append") [.ref D,<-RN elt X.env])>>=λ_=>k) _ _ _
 have i:=o a s g H _ I h;rw[b]at i;refine My (My (Rw i (λu C ⟨v,J,j,r,xs,l,L,q⟩=>?_) λ_ _ f=>f.elim));obtain⟨z,its,n,t,N,e⟩:=j.lstM l;refine My (YN F.slot_list_append ⟨_,e,rfl⟩ F.entry_list_append (ZV _ _) (ZM D its.toArray n u (by rw[QO];omega)) ⟨e,?_⟩);refine Qj (p _ g _ (j.lset (its':=its++[u]) l e (by simp) (t.append (.cons r .nil)) ?_) q);rw[QV,Ry];omega
theorem qt(o:gens[d+1]?=on ⟨target',iter',ifs',0⟩)(hc:X.calm=Qo)(a:X.xe=λ_ _=>False)(p:PI X target' iter' wi)
  (j:PG X target' g) (l:dQ X ifs' tt) (t:PB X c gens scope pos (d+1) D tb) (hs:∀x,RC iter' X.env x=SY x:=by intro _;rfl):PB X c gens scope pos d D (yx wi λJ=>c5 J g tt tb):=by
 intro b s u H Q I h k W Y y;unfold gW;rw[o];have i:=p b s u H _ I h;rw[a]at i;refine My (Rw i (λv Z i=>My (SG ?_)) λ_ _ f=>f.elim);show QJ _ _ (RC iter' X.env v>>=_) _ _ _;refine My (Ur (hs v) ?_);show QJ _ _ (UW [v] (W2 v)>>=_) _ _ _;refine My (R3 (Rw i (λB s2 C=>?_) λ_ _ f=>f.elim));obtain⟨it,fp,tn,J,H2,e,F,T,m,f2,q⟩:=C;subst e;refine My (wpAny_runOwn (VN (rH o hc a j l t F T m f2 q) λr s' ⟨L,z⟩=>?_));subst L;obtain⟨n,N,O,U⟩:=z;exact y s' n N O U
noncomputable def j5(dr:List Rl)(c_:List Nat)(a:St):St:=QE dr.length Qh++c_.map (λj=>a.getD j Qh)
def Mks(X:Cx)(mk:Sem Qv)(g:Qs->HO):Prop:=∀(a:List (Qs×Q0)) (s:QA) (f:St) (H:Hp) (E:Qv->QA->Prop) (Q:Qv->QA->Prop),c4 X a f H s->
 (∀e:QA,c4 X a f (upd H s.heap.objs.size (g s.heap.objs.size)) e->(∀b o,s.heap.get? b=on o->e.heap.get? b=on o)->Q (.ref s.heap.objs.size) e)->QJ (Q4 X.prog X.w) X.A mk Q E s
theorem uD{X:Cx}:Mks X (newList []) λ_=> .lst []:=λa s f H E Q I h=>RO (h _ (I.lnew (t':=s.toks) .nil (RB _)) λb o e=>Qm _ e)
def su(dr:List Rl)(c_:List Nat)(e:TI)(f:Qs->It->TB):TE:=λa H Q=>e a H λJ b=>∀D,b D=Qh->f D J (j5 dr c_ a) (upd b D (.lst [])) λ_ g=>Q (.ref D) g
structure dt (X:Cx) (scope:Scope) (Nc dr:List Rl) (c_:List Nat):Prop where
 kind:scope.kind= .function
 nd:(scope.names.map (·.1)).Nodup
 free:∀y∈scope.names,y.2= .free->X.env.kindOf y.1=on .cell\/X.env.kindOf y.1=on .free
 names:Nc=dr++c_.map (λj=>X.N.getD j Ul)
 cap:∀j∈c_,j<X.N.length/\scope.names.lookup (X.N.getD j Ul)=on .free
variable{rest:List Ss}{Nc dr:List Rl}{c_:List Nat}{g:TG}{tt:TT}{tb:Qs->TB}{wi:TI}
def OG(X:Cx)(a:List (Qs×Q0))(H:Hp)(C:Qs):Prop:=H C=Qh/\C≠X.env.locals/\X.s₀.heap.objs.size<=C/\(∀x c,X.env.cells.lookup x=on c->c≠C)/\∀p∈X.pn++a,p.1≠C
theorem gU{c:Y_}{mk:Sem Qv}{B:Qs->HO}(O:Mks X mk B){f:List (Qs×Q0)}{F:St}{H:Hp}{s:QA}{it:Qs}{h:List Qs}{Q:Nat->RQ->Prop}{J:It}{E:Qv->QA->Prop}{QQ:Qs->Hp->Prop}{RR:Qv->Qs->Result->QA->Prop}
  (hc:X.calm=Qo) (S:dt X scope Nc dr c_)
  (L:∀(cl:List (Rl×Qs)) (C:Qs) (h:List Qs) (s:QA) (H:Hp),PG (aK X Nc scope cl C h s H) cy g/\dQ (aK X Nc scope cl C h s H) ifs tt/\∀D,PB (aK X Nc scope cl C h s H) c (⟨cy,iter,ifs,0⟩::rest) scope pos 0 D (tb D))
  (I:c4 X f F H s) (T:m3 X.prog X.w X.K cy J h it Q) (st:Q 0 s.heap) (U:∀b∈h,eS X f H b)
  (q:∀D,H D=Qh->c5 J g tt (tb D) (j5 dr c_ F) (upd H D (B D)) λ_ k=>QQ D k)
  (W:∀(D C:Qs) (s':QA) (k:Hp) (m:Rl->Option Qv),c4 X f F k s'->s'.heap.Ns C m->OG X f k C->QQ D k->RR (.ref D) C (.ok .next) s'):
  QJ (Q4 X.prog X.w) X.A mk (λacc t=>QJ (Q4 X.prog X.w) X.A (YX scope X.env.globals (cP X.env.cells scope.names []) [] X.env.qual Qh .none (on X.env)) (λj u=>
   UH (Q4 X.prog X.w) X.A (.compStart (pj c (⟨cy,iter,ifs,0⟩::rest) scope pos) 0 (.ref it) acc {j with scope:=relabel scope X.env}) (RR acc j.locals) u) E t) E s:=by
 refine O f s F H _ _ I λi l y=>?_;have hD:H s.heap.objs.size=Qh:=I.fresh;have q3:=q s.heap.objs.size hD;have Y:∀b∈h,∃o,i.heap.get? b=on o:=λb L=>let ⟨o,e,_⟩:=T.obj _ _ st b L;⟨o,y b o e⟩
 have Z:∀b∈h,eS X f (upd H s.heap.objs.size (B s.heap.objs.size)) b:=λb a=>⟨by
  rw[b_]
  .exact(U b a).1
  .obtain⟨o,e,_⟩:=T.obj _ _ st b a
   exact Rr (QZ e),(U b a).2⟩
 generalize hH3:upd H s.heap.objs.size (B s.heap.objs.size)=H3 at l q3 Z;generalize s.heap.objs.size=D at hD hH3 q3⊢;refine FK λh' ns keep ce ca=>?_;have N:=EZ l S.kind S.nd S.free S.names S.cap Z Y ns keep ce ca;obtain⟨b1,b2,b3⟩:=L (Sx (i.heap.objs.size+1) scope.names (cP X.env.cells scope.names [])) i.heap.objs.size h i H3;have st4:Q 0 h':=T.keep _ _ _ st λb L o e=>keep b o (y b o e);have f4:∀b∈h,eS (aK X Nc scope (Sx (i.heap.objs.size+1) scope.names (cP X.env.cells scope.names [])) i.heap.objs.size h i H3) [] H3 b:=λb a=>
  ⟨(Z b a).1,(N.ok.exf b a).1,N.ok.exfs b a,.inl a,(N.ok.exf b a).2,λp hp=>QX hp (by simp)⟩
 refine VN (rH (X:=aK X Nc scope (Sx (i.heap.objs.size+1) scope.names (cP X.env.cells scope.names [])) i.heap.objs.size h i H3) (gens:=⟨cy,iter,ifs,0⟩::rest) (d:=0) rfl hc rfl b1 b2 (b3 D) N T st4 f4 q3) λr s' ⟨hr,σ',k,n,q'⟩=>?_;subst hr;obtain⟨m,hm,_⟩:=n.loc;have C1:X.env.locals<i.heap.objs.size:=l.lt;refine W D _ s' k m (l.call' (ch:=h) n.os n.base n.hok n.bare λb a=>?_) hm ⟨n.free,TR C1,l.sz,λx c e z=>?_,λp hp z=>?_⟩ q'
 .obtain⟨_,h2,h3,h4,h5,h6⟩:=U b a
  exact⟨h4,h2,h5,h6⟩
 .obtain⟨v,e'⟩:=l.cell x c e
  exact QX (z▸e'.lt) (Rv _)
 .have:=QZ (l.pin p hp).1
  rw[z]at this;exact QX this (Rv _)
theorem c4.letgo{s:QA}(I:c4 X ba σ H s)(o:OG X ba H C)(hs:Rb C s.heap h'):c4 X ba σ H {s with heap:=h'}:=
 I.turned (t':=s.toks) (λb f a e=>(hs.2 b a).trans e) o.1 (Ne.symm (Ne.symm o.2.1)) (.inr o.2.2.1) o.2.2.2.1 o.2.2.2.2
theorem dt.clo(S:dt X scope Nc dr c_)(ok:X.Ok):closureFor scope X.env=SY (cP X.env.cells scope.names []):=yt λy a b=>ok.has y.1 (S.free y a b)
theorem dt.loc(S:dt X scope Nc dr c_):∀x∈scope.names,x.2= .local->scope.names.lookup x.1=on .local:=λx a b=>cA S.nd (by rw[<-b];exact a)
theorem wb(hc:X.calm=Qo)(S:dt X scope Nc dr c_)(j:PI X cy iter wi)
  (k:∀(cl:List (Rl×Qs)) (C:Qs) (b:List Qs) (s:QA) (H:Hp),PG (aK X Nc scope cl C b s H) cy g/\dQ (aK X Nc scope cl C b s H) ifs tt/\∀D,PB (aK X Nc scope cl C b s H) elt (⟨cy,iter,ifs,0⟩::rest) scope pos 0 D (tb D))
  (hs:∀x,RC iter X.env x=SY x:=by intro _;rfl):PE X (.ListComp elt (⟨cy,iter,ifs,0⟩::rest) scope pos) (su dr c_ wi λD J=>c5 J g tt (tb D)):=by
 intro a s l H Q I h;rw[eval_ListComp];refine TF (use:=Qh) rfl hs (S.clo I.ok) S.kind S.loc (Rw (j a s l H _ I h) (λv F n=>Rw n (λo N p=>?_) λ_ _ x=>x) λ_ _ x=>x);obtain⟨it,b,O,J,U,e,r,T,f,f2,q⟩:=p;subst e;refine gU (c:= .L elt) uD (RR:=λacc C=>YQ (Q4 X.prog X.w) X.A X.xe Qh _ acc C) hc S k r T f f2 q λD C s' t m u ns y B=>?_;exact⟨m,ns,λh' i=>⟨.ref D,t,u.letgo y i,rfl,B⟩⟩
theorem v6{b f:Vm}(y:X.N.Nodup)(l:X.N[i]?=on x)(B:y3 X.env.scope x)(hc:X.calm=Qo)(S:dt X scope Nc dr c_)(F:PI X cy iter wi)
  (O:∀(cl:List (Rl×Qs)) (C:Qs) (k:List Qs) (s:QA) (H:Hp),PG (aK X Nc scope cl C k s H) cy g/\dQ (aK X Nc scope cl C k s H) ifs tt/\∀D,PB (aK X Nc scope cl C k s H) elt (⟨cy,iter,ifs,0⟩::rest) scope pos 0 D (tb D))
  (n:Vb (.ListComp elt (⟨cy,iter,ifs,0⟩::rest) scope pos) (on (.Name x b)) f.line X.env=SY Qo:=by rfl)
  (hs:∀x,RC iter X.env x=SY x:=by intro _;rfl) (U:X.fn x=Qo\/X.env.scope.names.lookup x=on .local:=by first|exact .inl rfl|exact .inr rfl|assumption):
  PS X (.Assign [.Name x b] (.ListComp elt (⟨cy,iter,ifs,0⟩::rest) scope pos) f) (gZ (su dr c_ wi λD J=>c5 J g tt (tb D)) (dW i)):=by
 intro j s W H D I h;rw[exec_Assign_Name_used _ _ _ _ n];refine My (SG (My ?_));show QJ _ X.A (do let _ <-comprehension (.ListComp elt (⟨cy,iter,ifs,0⟩::rest) scope pos) scope X.env _ (newList []) Qr (RN iter X.env) (on (VA (.Name x b) X.env))) _ _ s
 refine My (Rw (TF (use:=on (VA (.Name x b) X.env)) (Q:=λ_ s'=>SP X j D .next s') rfl hs (S.clo I.ok) S.kind S.loc
  (Rw (F j s W H _ I h) (λv s1 Y=>Rw Y (λZ s2 h2=>?_) λ_ _ e=>e) λ_ _ e=>e)) (λ_ s' hq=>Qj (Qj hq)) λ_ _ e=>e)
 obtain⟨it,k,tn,J,H2,e,o,T,p,f2,q⟩:=h2;subst e;refine gU (c:= .L elt) uD (RR:=λacc C=>YQ (Q4 X.prog X.w) X.A X.xe (on (VA (.Name x b) X.env)) _ acc C) hc S O o T p f2 q λA C s' H' m I' ns r q'=>?_;show QJ _ X.A (VA (.Name x b) X.env (.ref A)) _ _ s';refine XU (lw I' y l B (v:= .ref A) rfl (λs2 o ⟨a,sb,ha⟩=>?_) U);have t:C≠a:=by
  rcases ha with rfl|ha
  .exact r.2.1
  .exact λz=>r.2.2.2.1 x a ha z.symm
 exact⟨m,ns.sameBut sb t,λh' u=>⟨_,H',o.letgo r u,q'⟩⟩
end
end L2
namespace L2
open PySem PySem.Spec
open Sem (wp)
open Builtin Builtin.ObjectAttr
structure V_ (h:RQ) (C:Qs) (bm:List Qv):Prop where
 at_:∃(nm q:Rl) (N:Qs) (bs:List Qv) (hdct:Bool) (sn:List Rl) (sub:List Qv) (ab:Bool) (col:Option Bool) (dd:Option Qs) (k0 k1 k2 k3 k5:Option Qv),
  h.get? C=on (excClassObj nm q C N bs bm hdct sn sub ab col dd k0 k1 k2 k3 k5 "ValueError.__new__")
 val:bm.contains (.type "ValueError")=Qo
 bas:bm.contains (.type "BaseException")=Qo
 att:bm.contains (.type "AttributeError")=Qr
 nam:bm.contains (.type "NameError")=Qr
section
variable{prog:Rc}{w:Ro}{A:RG}{E:Qv->QA->Prop}{h:RQ}{g:Array GenState}{d:Drawn}{t:Nat}{os:Wa}{C:Qs}{bm rest:List Qv}
noncomputable def wG:List Qv->Bool
 |[.type a,.type b,.type c,.type d]=>a=="ValueError"&&b=="Exception"&&c=="BaseException"&&d=="object"
 | .ref _::r=>wG r
 |_=>Qr
variable{s:QA}{e:Qs}{K:QR}{cd:ClassData}{name:Rl}{v:Qv}
end
end L2
namespace L2
open PySem PySem.Spec PyProof.Rows
theorem bD.there{h:RQ}(x:bD P w H h a o):∃b,h.get? a=on b:=by
 cases o with
 |lst xs=>obtain⟨_,_,_,_,e⟩:=x;exact⟨_,e⟩
 |tup xs=>obtain⟨_,_,_,_,e,_⟩:=x;exact⟨_,e⟩
 |ins C dx fs=>obtain⟨_,_,_,e,_⟩:=x;exact⟨_,e⟩
 |own y=>exact x
 |xd fs=>obtain⟨_,⟨_,_,_,e,_⟩,_⟩:=x;exact⟨_,e⟩
 |rng lo hi=>obtain⟨_,_,_,e⟩:=x;exact⟨_,e⟩
 |frz b u=>obtain⟨e,_⟩:=x;exact⟨_,e⟩
 |tbl ps=>exact⟨_,(show h.get? a=on _ from x)⟩
 |met f y=>exact⟨_,(show h.get? a=on _ from x)⟩
 |ext φ=>obtain⟨_,e,_⟩:=x;exact e
structure N_ (P:Rc) (w:Ro) (outer:List XH) (H:Hp) (s:QA) (E:XK) (x C:Qs) (H':Hp) (s':QA):Prop where
 os:s'.os=s.os
 bare:VE s'.gens
 un:Un (hE outer) [] H H' s.heap s'.heap
 hok:lc P w H' s'.heap
 tr:∃(oe:Q0) (vs:Array Qv) (T:Qs) (oT:Q0) (ts:Array Qv) (a0:Qv),s'.heap.get? x=on oe/\(oe.cls= .ref C/\vs[0]?=on a0)/\oe.data= .fields vs/\vs[1]?=on (.ref T)/\T≠x/\s'.heap.get? T=on oT/\oT.data= .fields ts/\ts[3]?=on .none/\H' T=Qh/\s.heap.get? T=Qh
 xn:H' x=Qh
 xs:s.heap.get? x=Qh
 wish:E (.ref C) Qh H'
def g_(P:Rc)(w:Ro):F0:=λouter H s E e s'=>∃x C a,e= .ref x/\N_ P w outer H s E x C a s'
theorem AL{X:Cx}{s s':QA}{E:XK}(I:c4 X ba σ H s)(g:X.stack=X.env::X.outer)(i:X.env.frame=on X.env.locals)(R:X.ex=[])
  (os:s'.os=X.s₀.os) (bare:VE s'.gens) (d:Un (hE X.stack) [] X.H₀ H' X.s₀.heap s'.heap) (hok:lc X.prog X.w H' s'.heap) (y:∀b∈hE X.stack,H' b=Qh)
  (c:∀b∈ext,X.s₀.heap.get? b=Qh/\H' b=Qh) (O:x∈ext) (wish:E (.ref C) Qh H')
  (L:Heap.LeftW (hideAll s'.heap (ext++hE X.stack)) (X.env::X.outer) x (.ref C) a0 s'.heap h'):N_ X.prog X.w X.outer X.H₀ X.s₀ E x C H' {s' with heap:=h'}:=by
 obtain⟨U,L2,W,Y⟩:=L;have j:∀b∈hE X.outer,b∈hE X.stack:=λb hb=>by
  rw[g];unfold hE;rw[Sv,i];exact Qk _ hb
 have h:∀b∈hE X.stack,b=X.env.locals\/b∈hE X.outer:=λb hb=>by
  rw[g]at hb;unfold hE at hb;rw[Sv,i]at hb;exact QD.mp hb
 have A:∀b o,X.s₀.heap.get? b=on o->b≠X.env.locals:=λb o e=>Rr (QY (QZ e) I.ok.above);have stay:∀b o,s'.heap.get? b=on o->b∉ext->b∉hE X.stack->h'.get? b=on o:=λb o e B Z=>
  U b o (hideAll_get _ e λhm=>(RK.mp hm).elim B Z)
 have k:∀b o,X.s₀.heap.get? b=on o->b∉ext:=λb o e hb=>by rw[(c b hb).1]at e;cases e
 have f:∀b∈hE X.stack,∃o,h'.get? b=on o/\∀vs,o.data≠ .fields vs:=λb hb=>(L2.mem (by rw[<-g];exact hb)).2;obtain⟨oe,vs,T,oT,P,he,hc,hd,B,l,F,Q,m,h3⟩:=W;have p:H' T=Qh/\X.s₀.heap.get? T=Qh:=by
  by_cases hm:T∈ext++hE X.stack
  .rcases RK.mp hm with hm|hm
   .exact⟨(c T hm).2,(c T hm).1⟩
   .obtain⟨o,e,nf⟩:=f T hm
    rw[Q]at e;cases e;exact QX m (nf P)
  .have hs:s'.heap.get? T=Qh:=by
    cases q:s'.heap.get? T with
    |none=>rfl
    |some o=>rw[hideAll_get _ q hm]at l;cases l
   constructor
   .cases q:H' T with
    |none=>rfl
    |some o=>obtain⟨ob,e⟩:=(hok T o q).there;rw[hs]at e;cases e
   .cases q:X.s₀.heap.get? T with
    |none=>rfl
    |some o=>obtain⟨ob,e⟩:=d.there T o q (by simp);rw[hs]at e;cases e
 refine⟨os,bare,⟨λb o e n hb _=>?_,λb o e n hb _=>?_,λb o e n hb=>d.free b o e n hb,λb o e _=>?_,d.tups,d.frzs,d.tbls⟩,λa o e=>?_,⟨oe,vs,T,oT,P,a0,he,hc,hd,B,F,Q,m,h3,p.1,p.2⟩,(c x O).2,(c x O).1,wish⟩
 .have nf:b∉hE X.stack:=λz=>(h b z).elim (A b o e) hb
  exact stay b o (d.keep b o e n nf (by simp)) (k b o e) nf
 .obtain⟨sl,r⟩:=d.slot b o e n (j b hb) (by simp)
  obtain⟨_,J,v,nf⟩:=I.ok.funs.mem hb;rw[e]at v;cases v;obtain⟨N,e3⟩:=Y b _ r nf;exact⟨N,e3⟩
 .obtain⟨J,r⟩:=d.there b o e (by simp)
  by_cases hb:b∈hE X.stack
  .obtain⟨o2,v,_⟩:=f b hb
   exact⟨o2,v⟩
  .exact⟨J,stay b J r (k b o e) hb⟩
 .refine(hok a o e).stay (λb u hb r=>?_) (λ_ q=>q) λ_ _ q=>q
  have t:H' b≠Qh:=by
   rcases hb with rfl|hb
   .rw[e];simp
   .rw[hb];simp
  exact stay b u r (λz=>t (c b z).2) λz=>t (y b z)
theorem BH{h base:RQ}(d:h.FunFrames base l)(c:∀b∈hE l,b∈as):h.FunFrames (hideAll h as) l:=
 PySem.W.funFrames_hide d λenv e a ha=>c a (by unfold hE;exact Vp.mpr ⟨env,e,ha⟩)
theorem KW{X:Cx}{E F:XK}(a:X.stack=X.env::X.outer)(d:X.env.frame=on X.env.locals)(f:X.ex=[])(R:∀cls J H,F cls J H->E cls J H)
  (I:c4 X ba σ H s) (h:g_ X.prog X.w X.stack H s F e s'):
  QJ (Q4 X.prog X.w) X.A (leaving X.env e) (λ_ j=>g_ X.prog X.w X.outer X.H₀ X.s₀ E e j) E1 s':=by
 obtain⟨x,C,N,rfl,os,bare,un,hok,⟨U,vs,T,W,Y,a0,Z,hc,hd,h1,k,hT,m,h3,n,p⟩,xn,xs,wish⟩:=h;have nofs:∀b∈X.fs,b∈hE X.stack:=λb hb=>by
  rw[a];unfold hE;rw[Sv,d];exact Qk _ hb
 have O:Un (hE X.stack) [] X.H₀ H X.s₀.heap s.heap:=by
  have b:=I.base;rw[f]at b;exact b.mono nofs λ_ z=>z
 have U0:=O.trans un;have g:∀b,s.heap.get? b=Qh->X.s₀.heap.get? b=Qh:=λb e=>by
  cases q:X.s₀.heap.get? b with
  |none=>rfl
  |some o=>obtain⟨o',P⟩:=O.there b o q (by simp);rw[e]at P;cases P
 have c:=I.stack;have i:s'.heap.FunFrames X.base X.stack:=by
  have all:∀(l:List XH),(∀b∈hE l,b∈hE X.stack)->s.heap.FunFrames X.base l->s'.heap.FunFrames X.base l:=by
   intro l
   induction l with
   |nil=>intro _ _;trivial
   |cons env r ih=>
    intro hs hl;obtain⟨hk,⟨L,o,t,hn,u,v⟩,hr⟩:=hl;have Q:L∈hE X.stack:=hs L (by unfold hE;rw[Sv,t];exact Qq);obtain⟨sl,e⟩:=un.slot L o u (I.stkFree L Q) Q (by simp);exact⟨hk,⟨L,_,t,hn,e,v⟩,ih (λb hb=>hs b (by unfold hE;rw[Sv,t];exact Qk _ hb)) hr⟩
  exact all X.stack (λ_ hb=>hb) c
 have y:∀b∈hE X.stack,N b=Qh:=λb hb=>by
  obtain⟨_,o,u,_⟩:=c.mem hb;exact un.free b o u (I.stkFree b hb) (by simp)
 have B:∀b∈hE X.stack,b∈[x,T]++hE X.stack:=λb hb=>Rq _ hb;have hF:s'.heap.FunFrames (hideAll s'.heap ([x,T]++hE X.stack)) (X.env::X.outer):=by
  have z:=BH i B;rw[a]at z⊢;exact z
 refine wpAny_leaving_nextW (base:=hideAll s'.heap ([x,T]++hE X.stack)) (by rw[<-a];exact I.ok.frames) hF d ⟨U,vs,T,W,Y,Z,hc,hd,h1,hideAll_none _ (by simp),k,hT,m,h3⟩ (λb o q=>YK _ q) (hideAll_none _ (by simp)) λh' L=>?_;refine⟨x,C,N,rfl,AL I a d f (os.trans I.os) bare U0 hok y (λb hb=>?_) (by simp) (R _ _ _ wish) L⟩;rcases QD.mp hb with rfl|hb
 .exact⟨g _ xs,xn⟩
 .obtain rfl:b=T:=by simpa using hb
  exact⟨g _ p,n⟩
section
variable{X:Cx}{ba:List (Qs×Q0)}{σ:St}{H H':Hp}{s s':QA}{E:XK}{x C:Qs}
structure XC (K:QR) (C:Qs):Prop where
 sh:∃bm,∀h:RQ,K.In h->V_ h C bm
 sa:UL K (.ref C) "__setattr__"=on (on (.builtin "object.__setattr__"))
 cd:∃cd,PySem.W.clsIn K C=on cd/\cd.hasDict=Qo/\wG cd.mro=Qo
structure XMk (K:QR) (C f:Qs):Prop where
 xc:XC K C
 init:UL K (.ref C) "__init__"=on (on (.ref f))
 fn:isFn K (.ref f)=Qo
 kp:VZ K (.ref C)=Qo
end
section
variable{X:Cx}{CX:F0}{k:Nat}{f C:Qs}{fd:Q2}{ps:List Rl}{sp:Sp}{dvs:List V}{ds:List Qv}{E:St->XK}{x m:Rl}{p pos apos:Vm}{e o:Expr}{es:List Expr}{ta:TE}{t:TA}
structure ClsFn (K:QR) (D:Qs) (m:Rl) (f:Qs):Prop where
 ga:specialIn K (.ref D) "__getattribute__"=on (on (.builtin "type.__getattribute__"))
 rd:PySem.W.readsIn K D (.type "type")=Qo
 fnd:PySem.W.findCls K (.ref D) (.type "type") m=on (.val (.ref f))
 kp:VZ K (.ref f)=Qo
end
section
variable{P:Rc}{w:Ro}{K:QR}{mg:Rl->Option Qv}{base:RQ}{N:List Rl}{qual:Rl}{scope:Scope}{f:Qs}{cd:Qv}{A:RG}{outer:List XH}{s:QA}{H:Hp}{E:XK}
theorem dU:cE (g_ P w) (fi (g_ P w) P w K mg base N qual scope f cd A outer s H E) (λ_=>E):=λa b c d e s' I h=>KW (X:=fi (g_ P w) P w K mg base N qual scope f cd A outer s H E) rfl rfl rfl (λ_ _ _ z=>z) I h
theorem sC:cE (g_ P w) X E0:=λ_ _ _ _ _ _ _ h=>by
 obtain⟨_,_,_,_,F⟩:=h;exact F.wish.elim
theorem dz:ZI (Q4 P w) (A.deeper (UU qual scope s.heap.objs.size f cd)) (UU qual scope s.heap.objs.size f cd) (fi (g_ P w) P w K mg base N qual scope f cd A outer s H E).xe:=PassesOwn.leaving
structure d5 (K:QR) (x qual:Rl) (st:RT) (f:Qs) (fd:Q2):Prop where
 ex:∃(oc:Qv) (od:Option Qs) (dV kV doc pm:Qv) (an:Option Qs) (cdv ct:Qv) (osl:Array (Option Qv)),
  fd=UB x qual (iB st) (ci st) (ae st) dV kV doc pm an cdv ct/\K.lookup f=on ⟨oc,od,.func fd,osl⟩/\U8 K cdv qual=Qo
 kp:VZ K (.ref f)=Qo
theorem Lr{K:QR}{x qual:Rl}{st:RT}{f:Qs}(l:K.lookup f=on ⟨oc,od,.func (UB x qual (iB st) (ci st) (ae st) dV kV doc pm an cdv ct),osl⟩)
  (c:U8 K cdv qual=Qo) (k:VZ K (.ref f)=Qo):d5 K x qual st f (UB x qual (iB st) (ci st) (ae st) dV kV doc pm an cdv ct):=⟨⟨oc,od,dV,kV,doc,pm,an,cdv,ct,osl,rfl,l,c⟩,k⟩
theorem d5.okE{x qual:Rl}{st:RT}{f:Qs}{N ps:List Rl}(F:d5 K x qual st f fd)(S:cp N ps (ae st))(len:∀vs H Q E,sp vs H Q E->vs.length=ps.length)
  (b:∀(a:Qv) (A:RG) (outer:List XH) (s:QA) (H:Hp) (vs:List V) (Q:VK) (E:XK),ej k (A.deeper (UU qual (ae st) s.heap.objs.size f a))->sp vs H Q E->
   ∃t,PSs (fi (g_ P w) P w K mg base N qual (ae st) f a A outer s H E) (ci st) t/\t {nx:=λ_ e=>Q .non e,rt:=Q} (eX N vs) H):fw P w K mg base (g_ P w) (k+1) f fd ps sp:=by
 obtain⟨l,m,n,o,g,p,q,a,ct,h,rfl,i,c⟩:=F.ex;exact J8 i c S len λA outer s H vs Q E j d=>b a A outer s H vs Q E j d
theorem d5.ok{x qual:Rl}{st:RT}{f:Qs}{N ps:List Rl}(F:d5 K x qual st f fd)(S:cp N ps (ae st))(len:∀vs H Q E,sp vs H Q E->vs.length=ps.length)
  (b:∀(a:Qv) (A:RG) (outer:List XH) (s:QA) (H:Hp) (vs:List V) (Q:VK) (E:XK),ej k (A.deeper (UU qual (ae st) s.heap.objs.size f a))->sp vs H Q E->
   ∃t,PSs (fi (g_ P w) P w K mg base N qual (ae st) f a A outer s H E).nox (ci st) t/\t {nx:=λ_ e=>Q .non e,rt:=Q} (eX N vs) H):fw P w K mg base (g_ P w) (k+1) f fd ps sp:=by
 obtain⟨m,n,o,p,g,r,u,a,ct,i,rfl,j,c⟩:=F.ex;refine J8 j c S len λA outer s H vs Q E l d=>?_;obtain⟨t,h,q⟩:=b a A outer s H vs Q E l d;exact⟨t,h.nox,q⟩
abbrev TJ:=St->Hp->Nat->(Nat->Hp->Prop)->Prop
variable{X:Cx}{es:List Expr}{t:TJ}{pos:Vm}
theorem rK(hc:X.calm=Qo):cL X (.builtin "sum") (λxs H Q=>∃(a:Qs) (ns:List Int),xs=[.ref a]/\f0 X.K H a (ns.map V.int)/\Q (.int ns.sum) H):=by
 intro b s n H xs us Q I r h;obtain⟨a,ns,rfl,i,q⟩:=h;cases r with
 |cons r1 j=>
  cases r1;cases j;obtain⟨its,k,p,o⟩:=I.list i;have c:=pF k;obtain⟨xs,ex⟩:=c.allInts.items;have d:=p.isList;rw[ex]at d;refine sum_intListG (I.ok.hd hc) d λh' u t' l=>?_;have e:preSum (numAt xs) xs.size=ns.sum:=by
   have g:=c.numsOf;have m:its=(YU xs).toList:=by rw[<-ex]
   rw[m,nums_intItems]at g;rw[preSum_eq,S6 (by simp),g]
  rw[e];exact⟨.int ns.sum,H,I.kept l,⟨_,rfl⟩,q⟩
def sX(i j:Int):Prop:=0<j/\j.natAbs.log2<9000
theorem kI:gv X (Th .FloorDiv) (rI sX λi j=> .int (i/j)):=ni λi j _ _ _ _ _ hc q=>by
 have a:(0:Int)<j:=hc.1;refine floordiv_int (by omega) ?_ (.inl (XN hc.2));rw[Vu _ (by omega)];exact q
def ipC(C:Int->Int->Prop)(f:Int->Int->Int):TIp:=λx y H Q=>∃i j,x= .int i/\y= .int j/\C i j/\Q (.int (f i j)) H
theorem Lm:PIp X .FloorDiv (ipC sX λi j=>i/j):=by
 intro a s d H x y v u Q I r1 b h;obtain⟨i,j,rfl,rfl,c,q⟩:=h;obtain⟨t,rfl⟩:=r1;obtain⟨t',rfl⟩:=b;have e:(0:Int)<j:=c.1;refine ifloordiv_int (by omega) ?_ (.inl (XN c.2));rw[Vu _ (by omega)];exact⟨.int _,H,I.tok _,⟨_,rfl⟩,q⟩
theorem yN:∀{cs:List String} {us:List Qv},aw (cs.map V.ty) us->us=cs.map Ts
 |[],_,r=>by cases r;rfl
 |c::cs,_,r=>by
  cases r with
  |cons r1 a=>
   cases r1;rw[yN a];rfl
theorem yu{K:QR}{xs:List V}{H:Hp}(Pv:Nat->St->Hp->Prop)(u:Pv 0 c H)(k:∀i c H,i<=xs.length->Pv i c H->f0 K H a xs)
  (h:∀i x c H,xs[i]?=on x->Pv i c H->g x c H λd v=>tt d v λb r=>if b=Qo then tb d r (Pv (i+1))else Pv (i+1) d r) (l:∀c H,Pv xs.length c H->Q c H):c5 (Itl K a) g tt tb c H Q:=by
 refine⟨λi m c H=>i<=xs.length/\m+i=xs.length/\Pv i c H,⟨xs.length,RB _,by omega,u⟩,λi m c H ⟨n,hm,j⟩=>?_⟩;by_cases o:i<xs.length
 .refine .inr ⟨⟨xs,xs[i],k i c H n j,Ql o⟩,Pv (i+1),λy p q=>⟨m-1,by omega,by omega,by omega,q⟩,λx p ⟨e,B⟩=>?_⟩
  subst e;exact h i x c p (B xs (k i c p n j)) j
 .obtain rfl:i=xs.length:=by omega
  exact .inl ⟨⟨xs,k _ c H n j,Qz _⟩,l c H j⟩
theorem dt.plain{X:Cx}{scope:Scope}(k:scope.kind= .function)(nd:(scope.names.map (·.1)).Nodup)(f:∀y∈scope.names,y.2≠ .free):dt X scope dr dr []:=
 ⟨k,nd,λy a e=>QX e (f y a),by simp,λj b=>QX b (by simp)⟩
def sW(i j:Int):Prop:=i.natAbs<2^1000/\j.natAbs<2^1000
theorem jy{k:Int}(h:k.natAbs<2^1000):XX k<=2^20:=by
 unfold XX;split
 .exact RB _
 .rename_i a
  have b:k.natAbs≠0:=by
   intro z;have:k=0:=Int.natAbs_eq_zero.mp z;subst this;simp at a
  have:=(Nat.log2_lt b).mpr h;have e:(2:Nat)^20=1048576:=by decide
  omega
theorem bp{X:Cx}:gv X (Th .Mult) (rI sW λi j=> .int (i*j)):=ni λ_ _ _ _ _ _ _ hc q=>mul_int q (Y4 (jy hc.1) (jy hc.2))
theorem bE.upd{H:Hp}(h:H a=Qh):bE H (upd H a o):=λb u e=>by rw[b_ (ay e h)];exact e
abbrev fh:=Int×List Int
noncomputable def hI(k:List Int):Int:=reduceHash (US (k.map hashInt))
def hB:Bool->fh->Int
 |true,k=>reduceHash (US [hashInt k.1,hI k.2])
 |false,k=>hI k.2
def yC(a:Qs)(b:Bool)(ep:Nat)(xs:List (fh×Qs×V))(h:RQ):Prop:=
 ∃o es,∃ys:List (fh×Qs×Qv),h.get? a=on o/\o.ExactDict/\o.data= .dict es ep/\es.toList=ys.map (λy=>⟨hB b y.1,.ref y.2.1,y.2.2⟩)/\(ys.map (·.1)).Nodup/\(a==Xs)=Qr/\ys.length<=QN/\
  VV (λ(x:fh×Qs×V) (y:fh×Qs×Qv)=>x.1=y.1/\x.2.1=y.2.1/\aL x.2.2 y.2.2) xs ys
noncomputable def bu(a:Qs)(b:Bool)(ep:Nat)(xs:List (fh×Qs×V)):HO:= .ext (yC a b ep xs)
theorem j4{P:Rc}{w:Ro}{b:Bool}{H:Hp}(S:yC a b ep xs h):bD P w H h a (bu a b ep xs):=by
 refine⟨S,?_,λc d z k=>?_⟩
 .obtain⟨o,_,_,e,_⟩:=S
  exact⟨o,e⟩
 .obtain⟨o,es,ys,e,r⟩:=z
  exact⟨o,es,ys,k _ e,r⟩
end
end L2
namespace L2.Pu
open PySem PySem.Spec PyProof.Rows
theorem li{α d e:Sort _}{P Q R:α->d->e->Prop}{C:Prop}(h:∃a b c,P a b c/\Q a b c/\R a b c)(k:∀a b c,P a b c->Q a b c->R a b c->C):C:=by
 obtain⟨a,b,c,x,y,z⟩:=h;exact k a b c x y z
theorem p5{α c:Sort _}{P Q R:α->c->Prop}{C:Prop}(h:∃a b,P a b/\Q a b/\R a b)(k:∀a b,P a b->Q a b->R a b->C):C:=by
 obtain⟨a,b,x,y,z⟩:=h;exact k a b x y z
inductive D where
 |non|bl (b:Bool)|int (i:Int)|str (x:Rl)|ty (n:String)|txt
 |lst (xs:List D)|tup (xs:List D)|scr (xs:List Int)|obj (C:Qs) (ns:List Rl) (xs:List D)|bag|adr (a:Qs)|dct (b:Bool) (ks:List fh) (vs:List D)
structure Bg where
 cells:List Int
 i:Int
 j:Int
structure Fx where
 A:Qs->Prop
 bg:Option (Qs×Qs)
def KL(K:QR)(a:Qs)(xs:List V):Prop:=
 ∃(o:Q0) (its:Array Qv) (n:Nat),K.lookup a=on o/\o.cls= .type "list"/\o.dict=Qh/\o.data= .seq its n/\its.size<=QN/\aw xs its.toList
def KT(K:QR)(a:Qs)(xs:List V):Prop:=
 ∃(o:Q0) (its:Array Qv) (n:Nat),K.lookup a=on o/\o.cls= .type "tuple"/\o.data= .seq its n/\its.size<=QN/\aw xs its.toList
def TQ(K:QR)(F:Fx)(H:Hp)(c:Qs)(xs:List V):Prop:=(¬F.A c/\Rd H c (.tup xs))\/KT K c xs
noncomputable def eQ(K:QR)(F:Fx)(H:Hp):Bool->fh->Qs->Prop
 |true,k,c=>∃e,TQ K F H c [.int k.1,.ref e]/\TQ K F H e (k.2.map V.int)
 |false,k,c=>k.1=0/\TQ K F H c (k.2.map V.int)
mutual
noncomputable def cx(K:QR)(F:Fx)(H:Hp):D->V->Prop
 | .non,v=>v= .non
 | .bl b,v=>v= .bl b
 | .int i,v=>v= .int i
 | .str x,v=>v= .str x
 | .ty n,v=>v= .ty n
 | .txt,v=>∃z,v= .str z
 | .lst ds,v=>∃a xs,v= .ref a/\(¬F.A a/\Rd H a (.lst xs))/\bb K F H ds xs
 | .scr ns,v=>∃a,v= .ref a/\((¬F.A a/\Rd H a (.lst (ns.map V.int)))\/KL K a (ns.map V.int))
 | .tup ds,v=>∃a xs,v= .ref a/\((¬F.A a/\Rd H a (.tup xs))\/KT K a xs)/\bb K F H ds xs
 | .obj C ns ds,v=>∃a c xs,v= .ref a/\¬F.A a/\H a=on (.ins C c (ns.zip xs))/\ns.length=xs.length/\bb K F H ds xs
 | .bag,v=>∃b l,F.bg=on (b,l)/\v= .ref b
 | .adr a,v=>v= .ref a
 | .dct b ks vs,v=>∃a ep xs,v= .ref a/\(¬F.A a/\H a=on (bu a b ep xs))/\ks=xs.map (·.1)/\(∀x∈xs,eQ K F H b x.1 x.2.1)/\bb K F H vs (xs.map (·.2.2))
noncomputable def bb(K:QR)(F:Fx)(H:Hp):List D->List V->Prop
 |[],xs=>xs=[]
 |d::ds,xs=>∃x r,xs=x::r/\cx K F H d x/\bb K F H ds r
end
structure Tr (F:Fx) (H:Hp) (F2:Fx) (H2:Hp):Prop where
 av:∀a,¬F.A a->H a≠Qh->¬F2.A a
 kp:∀a o,¬F.A a->H a=on o->H2 a=on o
 bg:F2.bg=F.bg
theorem Tr.refl(F:Fx)(H:Hp):Tr F H F H:=⟨λ_ h _=>h,λ_ _ _ h=>h,rfl⟩
theorem Tr.trans(a:Tr F H F1 H1)(b:Tr F1 H1 F2 H2):Tr F H F2 H2:=
 ⟨λx c d=>b.av x (a.av x c d) (by
   cases q:H x with
   |none=>exact QX q d
   |some o=>rw[a.kp x o c q];simp),
  λx o c d=>b.kp x o (a.av x c (by rw[d];simp)) (a.kp x o c d),b.bg.trans a.bg⟩
theorem Rd.tr{F b:Fx}(t:Tr F H b H2)(h:¬F.A a)(r:Rd H a u):¬b.A a/\Rd H2 a u:=by
 rcases r with r|⟨o,r⟩
 .exact⟨t.av a h (by rw[r];simp),.inl (t.kp a _ h r)⟩
 .exact⟨t.av a h (by rw[r];simp),.inr ⟨o,t.kp a _ h r⟩⟩
theorem TQ.tr{K:QR}(t:Tr F H F2 H2)(h:TQ K F H c xs):TQ K F2 H2 c xs:=h.imp (λh=>Rd.tr t h.1 h.2) id
theorem eQ.tr{K:QR}{b:Bool}(t:Tr F H F2 H2)(h:eQ K F H b k c):eQ K F2 H2 b k c:=by
 cases b with
 |true=>
  obtain⟨e,a,d⟩:=h;exact⟨e,a.tr t,d.tr t⟩
 |false=>exact⟨h.1,h.2.tr t⟩
mutual
theorem cx.tr{K:QR}(t:Tr F H F2 H2):∀(d:D) (v:V),cx K F H d v->cx K F2 H2 d v
 | .non,v,h=>h
 | .bl b,v,h=>h
 | .int i,v,h=>h
 | .str x,v,h=>h
 | .ty n,v,h=>h
 | .txt,v,h=>h
 | .lst ds,v,h=>by
  unfold cx at h⊢;obtain⟨a,xs,e,c,f⟩:=h;exact⟨a,xs,e,Rd.tr t c.1 c.2,bb.tr t ds xs f⟩
 | .scr ns,v,h=>by
  unfold cx at h⊢;obtain⟨a,e,c⟩:=h;exact⟨a,e,c.imp (λ⟨p,q⟩=>Rd.tr t p q) id⟩
 | .tup ds,v,h=>by
  unfold cx at h⊢;obtain⟨a,xs,e,c,f⟩:=h;exact⟨a,xs,e,c.imp (λ⟨p,q⟩=>Rd.tr t p q) id,bb.tr t ds xs f⟩
 | .obj C ns ds,v,h=>by
  unfold cx at h⊢;obtain⟨a,k,xs,e,c,f,g,j⟩:=h;exact⟨a,k,xs,e,t.av a c (by rw[f];simp),t.kp a _ c f,g,bb.tr t ds xs j⟩
 | .bag,v,h=>by
  unfold cx at h⊢;rw[t.bg];exact h
 | .adr a,v,h=>by
  unfold cx at h⊢;exact h
 | .dct b ks vs,v,h=>by
  unfold cx at h⊢;obtain⟨a,ep,xs,e,c,f,g,j⟩:=h;exact⟨a,ep,xs,e,⟨t.av a c.1 (by rw[c.2];simp),t.kp a _ c.1 c.2⟩,f,λx l=>(g x l).tr t,bb.tr t vs _ j⟩
theorem bb.tr{K:QR}(t:Tr F H F2 H2):∀(ds:List D) (xs:List V),bb K F H ds xs->bb K F2 H2 ds xs
 |[],xs,h=>h
 |d::ds,xs,h=>by
  unfold bb at h⊢;obtain⟨x,r,e,a,b⟩:=h;exact⟨x,r,e,cx.tr t d x a,bb.tr t ds r b⟩
end
section
variable{K:QR}{F:Fx}{H:Hp}
theorem bb.nil:bb K F H [] []:=rfl
theorem bb.cons(h:cx K F H d x)(t:bb K F H ds xs):bb K F H (d::ds) (x::xs):=⟨x,xs,rfl,h,t⟩
theorem bb.length:∀{ds:List D} {xs:List V},bb K F H ds xs->ds.length=xs.length
 |[],xs,h=>by have e:xs=[]:=h;subst e;rfl
 |d::ds,xs,h=>by
  obtain⟨x,r,e,_,a⟩:=h;subst e;rw[QP,QP,bb.length a]
theorem bb.get:∀{ds:List D} {xs:List V} {i:Nat} {d:D},bb K F H ds xs->ds[i]?=on d->∃x,xs[i]?=on x/\cx K F H d x
 |[],_,_,_,_,e=>by simp at e
 |c::ds,xs,0,d,h,e=>by
  obtain⟨x,r,q,a,b⟩:=h;subst q;simp at e;subst e;exact⟨x,rfl,a⟩
 |c::ds,xs,i+1,d,h,e=>by
  obtain⟨x,r,q,a,b⟩:=h;subst q;obtain⟨y,f,g⟩:=bb.get (i:=i) (d:=d) b (by simpa using e);exact⟨y,by simpa using f,g⟩
theorem bb.getV:∀{ds:List D} {xs:List V} {i:Nat} {x:V},bb K F H ds xs->xs[i]?=on x->∃d,ds[i]?=on d/\cx K F H d x
 |[],xs,_,_,h,e=>by have q:xs=[]:=h;subst q;simp at e
 |c::ds,xs,0,d,h,e=>by
  obtain⟨x,r,q,a,b⟩:=h;subst q;simp at e;subst e;exact⟨c,rfl,a⟩
 |c::ds,xs,i+1,d,h,e=>by
  obtain⟨x,r,q,a,b⟩:=h;subst q;obtain⟨y,f,g⟩:=bb.getV (i:=i) (x:=d) b (by simpa using e);exact⟨y,by simpa using f,g⟩
theorem bb.append:∀{ds es:List D} {xs ys:List V},bb K F H ds xs->bb K F H es ys->bb K F H (ds++es) (xs++ys)
 |[],_,xs,_,h,h'=>by have q:xs=[]:=h;subst q;exact h'
 |c::ds,es,xs,ys,h,h'=>by
  obtain⟨x,r,q,a,b⟩:=h;subst q;exact⟨x,r++ys,rfl,a,bb.append b h'⟩
theorem bb.take:∀{ds:List D} {xs:List V} (n:Nat),bb K F H ds xs->bb K F H (ds.take n) (xs.take n)
 |[],xs,n,h=>by have q:xs=[]:=h;subst q;simp;rfl
 |c::ds,xs,0,h=>by simp;rfl
 |c::ds,xs,n+1,h=>by
  obtain⟨x,r,q,a,b⟩:=h;subst q;exact⟨x,r.take n,rfl,a,bb.take n b⟩
theorem bb.drop:∀{ds:List D} {xs:List V} (n:Nat),bb K F H ds xs->bb K F H (ds.drop n) (xs.drop n)
 |[],xs,n,h=>by have q:xs=[]:=h;subst q;simp;rfl
 |c::ds,xs,0,h=>h
 |c::ds,xs,n+1,h=>by
  obtain⟨x,r,q,b,a⟩:=h;subst q;exact bb.drop n a
theorem bb.set:∀{ds:List D} {xs:List V} (i:Nat) {d:D} {x:V},bb K F H ds xs->cx K F H d x->bb K F H (ds.set i d) (xs.set i x)
 |[],xs,i,_,_,h,_=>by have q:xs=[]:=h;subst q;simp;rfl
 |c::ds,xs,0,d,x,h,hd=>by
  obtain⟨y,r,q,b,a⟩:=h;subst q;exact⟨x,r,rfl,hd,a⟩
 |c::ds,xs,i+1,d,x,h,hd=>by
  obtain⟨y,r,q,b,a⟩:=h;subst q;exact⟨y,r.set i x,rfl,b,bb.set i a hd⟩
theorem cx.sqL(h:cx K F H (.lst ds) v):∃a xs,v= .ref a/\f0 K H a xs/\bb K F H ds xs:=by
 unfold cx at h;obtain⟨a,xs,e,b,c⟩:=h;exact⟨a,xs,e,.inl b.2,c⟩
theorem cx.rdL(h:cx K F H (.lst ds) v):∃a xs,v= .ref a/\Rd H a (.lst xs)/\bb K F H ds xs:=by
 unfold cx at h;obtain⟨a,xs,e,b,c⟩:=h;exact⟨a,xs,e,b.2,c⟩
theorem cx.scr{ns:List Int}(h:cx K F H (.scr ns) v):∃a,v= .ref a/\f0 K H a (ns.map V.int):=by
 unfold cx at h;obtain⟨a,e,b⟩:=h;exact⟨a,e,b.imp (λp=>p.2) id⟩
theorem cx.sqT(h:cx K F H (.tup ds) v):∃a xs,v= .ref a/\hO K H a xs/\bb K F H ds xs:=by
 unfold cx at h;obtain⟨a,xs,e,b,c⟩:=h;exact⟨a,xs,e,b.imp (λp=>p.2) id,c⟩
theorem cx.int(h:cx K F H (.int i) v):v= .int i:=h
theorem cx.bl{i:Bool}(h:cx K F H (.bl i) v):v= .bl i:=h
theorem cx.str(h:cx K F H (.str i) v):v= .str i:=h
theorem cx.non(h:cx K F H .non v):v= .non:=h
theorem cx.ty(h:cx K F H (.ty n) v):v= .ty n:=h
theorem bb.ints:∀(ns:List Int) {xs:List V},bb K F H (ns.map D.int) xs->xs=ns.map V.int
 |[],xs,h=>h
 |n::ns,xs,h=>by
  obtain⟨x,r,e,a,b⟩:=h;rw[e,bb.ints ns b];have q:x= .int n:=a;rw[q];rfl
theorem bb.ofInts:∀(ns:List Int),bb K F H (ns.map D.int) (ns.map V.int)
 |[]=>rfl
 |n::ns=>⟨.int n,ns.map V.int,rfl,rfl,bb.ofInts ns⟩
structure Fr (F:Fx) (H:Hp) (β:Bg):Prop where
 occ:∀a,F.A a->H a≠Qh
 bgA:∀b l,F.bg=on (b,l)->F.A b/\F.A l/\b≠l
 bag:∀b l,F.bg=on (b,l)->H b=on (.lst [.ref l,.int β.i,.int β.j])/\H l=on (.lst (β.cells.map V.int))
structure To (F:Fx) (H H':Hp) (β':Bg):Prop where
 kp:∀a o,H a=on o->(∀b l,F.bg=on (b,l)->a≠b/\a≠l)->H' a=on o
 fr:Fr F H' β'
theorem To.refl{F:Fx}{H:Hp}(fr:Fr F H β):To F H H β:=⟨λ_ _ h _=>h,fr⟩
theorem To.trans{F:Fx}{H c d:Hp}(a:To F H c β1)(b:To F c d β2):To F H d β2:=⟨λx o h n=>b.kp x o (a.kp x o h n) n,b.fr⟩
theorem Fr.same{F:Fx}{H c:Hp}(fr:Fr F H β)(s:bE H c):To F H c β:=
 ⟨λa o h _=>s a o h,⟨λa h q=>(by
  cases e:H a with
  |none=>exact fr.occ a h e
  |some o=>exact QX ((s a o e).symm.trans q) (by simp)),fr.bgA,λb l e=>⟨s _ _ (fr.bag b l e).1,s _ _ (fr.bag b l e).2⟩⟩⟩
theorem Fr.upd{F:Fx}{H:Hp}(fr:Fr F H β)(o:HO)(h:H p=Qh):To F H (upd H p o) β:=fr.same (bE.upd h)
theorem Fr.fresh{F:Fx}{H:Hp}(fr:Fr F H β)(h:H p=Qh):¬F.A p:=λq=>fr.occ p q h
theorem To.tr{F:Fx}{H c:Hp}(fr:Fr F H β)(t:To F H c β'):Tr F H F c:=
 ⟨λ_ h _=>h,λa o h e=>t.kp a o e λb l q=>⟨λz=>h (z▸(fr.bgA b l q).1),λz=>h (z▸(fr.bgA b l q).2.1)⟩,rfl⟩
abbrev Dn:=List (Option D)
structure h8 (K:QR) (F:Fx) (H:Hp) (δ:Dn) (σ:St):Prop where
 len:δ.length=σ.length
 tell:∀(i:Nat) (d:D),δ[i]?=on (on d)->∃v,σ[i]?=on (on v)/\cx K F H d v
theorem h8.tr{K:QR}{F a:Fx}{H b:Hp}(t:Tr F H a b)(h:h8 K F H δ σ):h8 K a b δ σ:=⟨h.len,λi d e=>let ⟨v,h1,h2⟩:=h.tell i d e;⟨v,h1,cx.tr t d v h2⟩⟩
theorem h8.set{K:QR}{F:Fx}{H:Hp}{δ:Dn}{a:St}(h:h8 K F H δ a)(hd:cx K F H d v):h8 K F H (δ.set i (on d)) (a.set i (on v)):=by
 refine⟨by rw[Q3,Q3,h.len],λj c e=>?_⟩;rw[Ru]at e;rw[Ru];by_cases q:i=j
 .subst q
  rw[Qt rfl]at e⊢;split at e
  .rename_i b
   cases e;rw[Qt (by rw[<-h.len];exact b)];exact⟨v,rfl,hd⟩
  .cases e
 .rw[Qp q]at e⊢
  exact h.tell j c e
def Sub(δ δ1:Dn):Prop:=∀(i:Nat) (d:D),δ[i]?=on (on d)->δ1[i]?=on (on d)
theorem h8.sub{K:QR}{F:Fx}{H:Hp}{δ δ1:Dn}(h:h8 K F H δ1 σ)(s:Sub δ δ1)(l:δ.length=δ1.length):h8 K F H δ σ:=⟨l.trans h.len,λi d e=>h.tell i d (s i d e)⟩
abbrev M(α:Type):=Bg->Option (Except Qs α×Bg)
noncomputable def M.ret{α:Type}(a:α):M α:=λβ=>on (.ok a,β)
noncomputable def M.bind{α b:Type}(m:M α)(k:α->M b):M b:=λβ=>match m β with
 |none=>Qh
 |some (.error C,β1)=>on (.error C,β1)
 |some (.ok a,β1)=>k a β1
noncomputable def M.ofO{α:Type}(o:Option α):M α:=λβ=>match o with
 |some a=>on (.ok a,β)
 |none=>Qh
noncomputable def M.fail{α:Type}:M α:=λ_=>Qh
theorem M.bind_some{α b:Type}(a:α)(k:α->M b):M.bind (M.ofO (on a)) k=k a:=rfl
theorem M.bind_ok{α b:Type}{m:M α}{k:α->M b}{β β1:Bg}{a:α}(h:m β=on (.ok a,β1)):M.bind m k β=k a β1:=by unfold M.bind;rw[h]
theorem M.bind_err{α a:Type}{m:M α}{k:α->M a}{β β1:Bg}{C:Qs}(h:m β=on (.error C,β1)):M.bind m k β=on (.error C,β1):=by unfold M.bind;rw[h]
def run{α c:Type}(R:Hp->α->c->Prop)(F:Fx)(E:St->XK)(e:St)(m:M α)(H:Hp)(Q:c->Hp->Prop)(β:Bg):Prop:=
 ∃r a,m β=on (r,a)/\match r with
  | .ok d=>∀v b,To F H b a->R b d v->Q v b
  | .error C=>∀b,To F H b a->E e (.ref C) Qh b
theorem run.mono{α c:Type}{R:Hp->α->c->Prop}{F:Fx}{E:St->XK}{g:St}{m:M α}{H:Hp}{Q i:c->Hp->Prop}{β:Bg}(h:run R F E g m H Q β)(f:∀v a,Q v a->i v a):run R F E g m H i β:=by
 obtain⟨r,b,e,h⟩:=h;refine⟨r,b,e,?_⟩;cases r with
 |ok d=>exact λv a t q=>f v a (h v a t q)
 |error C=>exact h
theorem run.bind{α l i j:Type}{R:Hp->α->l->Prop}{R2:Hp->i->j->Prop}{F:Fx}{E:St->XK}{b:St}{m:M α}{k:α->M i}{H:Hp}{Q:j->Hp->Prop}{β:Bg}(h:run R2 F E b (M.bind m k) H Q β):
  run R F E b m H (λv a=>∃d β1,To F H a β1/\R a d v/\run R2 F E b (k d) a Q β1) β:=by
 obtain⟨r,c,e,h⟩:=h;cases q:m β with
 |none=>unfold M.bind at e;rw[q]at e;cases e
 |some z=>
  obtain⟨r1,β1⟩:=z;refine⟨r1,β1,q,?_⟩;cases r1 with
  |error C=>
   rw[M.bind_err q]at e;cases e;exact h
  |ok d=>
   rw[M.bind_ok q]at e;intro v a t hd;refine⟨d,β1,t,hd,r,c,e,?_⟩;cases r with
   |ok d2=>exact λn f g o=>h n f (t.trans g) o
   |error C=>exact λf g=>h f (t.trans g)
theorem run.ret{α b:Type}{R:Hp->α->b->Prop}{F:Fx}{E:St->XK}{c:St}{a:α}{v:b}{H:Hp}{Q:b->Hp->Prop}{β:Bg}(fr:Fr F H β)(h:run R F E c (M.ret a) H Q β)(r:R H a v):Q v H:=by
 obtain⟨_,_,e,h⟩:=h;cases e;exact h v H (To.refl fr) r
theorem run.ofO{α c:Type}{R:Hp->α->c->Prop}{F:Fx}{E:St->XK}{d:St}{o:Option α}{H:Hp}{Q:c->Hp->Prop}{β:Bg}(h:run R F E d (M.ofO o) H Q β):∃a,o=on a/\∀v b,To F H b β->R b a v->Q v b:=by
 obtain⟨_,_,e,h⟩:=h;cases o with
 |none=>cases e
 |some a=>cases e;exact⟨a,rfl,h⟩
abbrev FD:=Dn->M D
abbrev FL:=Dn->M (List D)
def tV(K:QR)(f:FD)(E:St->XK):TE:=λa H Q=>∃F δ β,Fr F H β/\h8 K F H δ a/\run (cx K F) F E a (f δ) H Q β
def jm(K:QR)(f:FL)(E:St->XK):TA:=λa H Q=>∃F δ β,Fr F H β/\h8 K F H δ a/\run (bb K F) F E a (f δ) H Q β
def hY(K:QR)(f:Dn->M Bool)(E:St->XK):TT:=λc H Q=>∃F δ β,Fr F H β/\h8 K F H δ c/\run (λ_ (a b:Bool)=>b=a) F E c (f δ) H Q β
theorem _root_.L2.PE.imp(h:PE X e t)(f:∀a H Q,t' a H Q->t a H Q):PE X e t':=λb s a H Q I q=>h b s a H Q I (f a H Q q)
theorem _root_.L2.PT.imp(h:PT X e t)(f:∀a H Q,t' a H Q->t a H Q):PT X e t':=λb s a H Q I q=>h b s a H Q I (f a H Q q)
theorem _root_.L2.PW.imp(h:PW X e t)(f:∀a H Q,t' a H Q->t a H Q):PW X e t':=λc b s a H Q I q=>h c b s a H Q I (f a H Q q)
theorem _root_.L2.PA.imp(h:PA X e t)(f:∀a H Q,t' a H Q->t a H Q):PA X e t':=λpos b s a H Q I q=>h pos b s a H Q I (f a H Q q)
def ag(i:Nat):FD:=λδ=>M.ofO (δ.getD i Qh)
def fC(d:D):FD:=λ_=>M.ret d
def f1(op:D->Option D)(f:FD):FD:=λδ=>M.bind (f δ) λa=>M.ofO (op a)
def f2(op:D->D->Option D)(f g:FD):FD:=λδ=>M.bind (f δ) λa=>M.bind (g δ) λb=>M.ofO (op a b)
noncomputable def ax:FL:=λ_=>M.ret []
def ac(f:FD)(g:FL):FL:=λδ=>M.bind (f δ) λa=>M.bind (g δ) λas=>M.ret (a::as)
def aQ(op:List D->Option D)(g:FL):FD:=λδ=>M.bind (g δ) λas=>M.ofO (op as)
def bF(m:List D->M D)(g:FL):FD:=λδ=>M.bind (g δ) λas=>m as
variable{X:Cx}{E:St->XK}{e a b:Expr}{es:List Expr}{pos:Vm}
theorem OP(i:Nat)(h:PE X (.Name x pos) (kn i)):PE X (.Name x pos) (tV X.K (ag i) E):=h.imp λl H Q c=>by
 obtain⟨F,δ,β,fr,f,r⟩:=c;obtain⟨d,e,r⟩:=run.ofO r;have g:δ[i]?=on (on d):=by
  rw[Qn]at e;cases q:δ[i]? with
  |none=>rw[q]at e;cases e
  |some z=>rw[q]at e;simp at e;rw[e]
 obtain⟨v,j,k⟩:=f.tell i d g;exact⟨v,j,r v H (To.refl fr) k⟩
theorem q_(h:PE X e (tC v))(hd:∀F H,cx X.K F H d v):PE X e (tV X.K (fC d) E):=h.imp λf H Q c=>by obtain⟨F,δ,β,fr,g,r⟩:=c;exact run.ret fr r (hd F H)
theorem af{i j pos}:PE X (.Constant (.int i) j pos) (tV X.K (fC (.int i)) E):=q_ bJ λ_ _=>rfl
theorem tE{i j pos}:PE X (.Constant (.bool i) j pos) (tV X.K (fC (.bl i)) E):=q_ Pj λ_ _=>rfl
theorem wY{j pos}:PE X (.Constant .none j pos) (tV X.K (fC .non) E):=q_ ML λ_ _=>rfl
theorem jI:PA X [] (jm X.K ax E):=fI.imp λd H Q c=>by obtain⟨F,δ,β,fr,f,r⟩:=c;exact run.ret fr r bb.nil
theorem bU(ha:PE X e (tV X.K f E))(k:PA X es (jm X.K g E))(hs:QH (e::es) X.env=(Qr,RN e X.env)::QH es X.env:=by rfl):PA X (e::es) (jm X.K (ac f g) E):=
 (dN ha k hs).imp λm H Q c=>li c λF δ β fr i r=>⟨F,δ,β,fr,i,(run.bind (R:=cx X.K F) r).mono λv n ⟨d,β1,t,hd,r1⟩=>
  ⟨F,δ,β1,t.fr,i.tr (t.tr fr),(run.bind (R:=bb X.K F) r1).mono λvs o c=>p5 c λds β2 j h l=>run.ret j.fr l (bb.cons (cx.tr (j.tr t.fr) _ _ hd) h)⟩⟩
def aV(K:QR)(r:R2)(op:D->D->Option D):Prop:=∀(F:Fx) (H:Hp) (β:Bg) (Q:VK) (d1 d2 d:D) (f g:V),Fr F H β->cx K F H d1 f->cx K F H d2 g->op d1 d2=on d->
 (∀v c,To F H c β->cx K F c d v->Q v c)->r f g H Q
def Kf(K:QR)(r:V->Hp->VK->Prop)(op:D->Option D):Prop:=∀(F:Fx) (H:Hp) (β:Bg) (Q:VK) (d1 d:D) (f:V),Fr F H β->cx K F H d1 f->op d1=on d->
 (∀v c,To F H c β->cx K F c d v->Q v c)->r f H Q
def dg(K:QR)(r:List V->Hp->VK->Prop)(op:List D->Option D):Prop:=∀(F:Fx) (H:Hp) (β:Bg) (Q:VK) (ds:List D) (d:D) (vs:List V),Fr F H β->bb K F H ds vs->op ds=on d->
 (∀v c,To F H c β->cx K F c d v->Q v c)->r vs H Q
theorem oJ{K:QR}(l:aV K r op){H:Hp}(h:tV K (f2 op f g) E σ H Q):tOp r (tV K f E) (tV K g E) σ H Q:=by
 obtain⟨F,δ,β,fr,j,h⟩:=h;refine⟨F,δ,β,fr,j,(run.bind (R:=cx K F) h).mono λv u c=>p5 c λd β1 t hd r1=>⟨F,δ,β1,t.fr,j.tr (t.tr fr),(run.bind (R:=cx K F) r1).mono λn o c=>p5 c λd2 β2 m i p=>?_⟩⟩;obtain⟨d3,q,k⟩:=run.ofO p;exact l F o β2 Q d d2 d3 v n m.fr (cx.tr (m.tr t.fr) _ _ hd) i q k
theorem aC(c:gv X (Th op) r)(l:aV X.K r o)(ha:PE X a (tV X.K f E))(d:PE X b (tV X.K g E)):PE X (.BinOp a op b pos) (tV X.K (f2 o f g) E):=
 (dF c ha d).imp λ_ _ _=>oJ l
theorem jd(c:gv X (RV op) r)(l:aV X.K r o)(ha:PE X a (tV X.K f E))(d:PE X b (tV X.K g E))(hm:Vg op b=Qr:=by first|exact uy _|rfl):PE X (.Compare a [op] [b] pos) (tV X.K (f2 o f g) E):=
 (KV c ha d hm).imp λ_ _ _=>oJ l
theorem v_un(g:UnR X (unaryOp op) r)(l:Kf X.K r o)(ha:PE X a (tV X.K f E)):PE X (.UnaryOp op a pos) (tV X.K (f1 o f) E):=
 (Pi g ha).imp λm H Q c=>li c λF δ β fr i h=>⟨F,δ,β,fr,i,(run.bind (R:=cx X.K F) h).mono λv j c=>p5 c λd β1 t hd r1=>let ⟨d3,e3,k⟩:=run.ofO r1;l F j β1 Q d d3 v t.fr hd e3 k⟩
theorem aO(c:D_ X r)(l:aV X.K r o)(ha:PE X a (tV X.K f E))(d:PE X b (tV X.K g E))(hs:qQ b:=by exact λ_ _=>rfl):PE X (.Subscript a b pos) (tV X.K (f2 o f g) E):=
 (ir c ha d hs).imp λ_ _ _=>oJ l
theorem yZ{K:QR}(l:dg K r op){H:Hp}(h:tV K (aQ op g) E σ H Q):tCB r (jm K g E) σ H Q:=by
 obtain⟨F,δ,β,fr,c,h⟩:=h;refine⟨F,δ,β,fr,c,(run.bind (R:=bb K F) h).mono λv f i=>p5 i λd β1 t hd r1=>?_⟩;obtain⟨d3,j,k⟩:=run.ofO r1;exact l F f β1 Q d d3 v t.fr hd j k
theorem cg{f:String}(hc:cL X (.builtin f) r)(l:dg X.K r op)(h:Gl X x)(hm:X.mg x=Qh)(i:Uw x=on (.builtin f))(ha:PA X (e::es) (jm X.K g E))(hn:x≠"__name__":=by decide)(c:(x==("__debug__":Rl))=Qr:=by decide)
  (j:QH (e::es) X.env=(Qr,RN e X.env)::QH es X.env:=by rfl) (d:(S4 pos (QH es X.env)).any (·.1)=Qr:=by rfl):PE X (.Call (.Name x p) (e::es) [] pos) (tV X.K (aQ op g) E):=
 (kD hc h hm i ha hn c j d).imp λ_ _ _=>yZ l
theorem bM(hc:cL X (.type T) r)(l:dg X.K r op)(f:Gl X x)(hm:X.mg x=Qh)(h:Uw x=on (.type T))(ha:PA X (e::es) (jm X.K g E))(hn:x≠"__name__":=by decide)(c:(x==("__debug__":Rl))=Qr:=by decide)
  (i:QH (e::es) X.env=(Qr,RN e X.env)::QH es X.env:=by rfl) (d:(S4 pos (QH es X.env)).any (·.1)=Qr:=by rfl):PE X (.Call (.Name x p) (e::es) [] pos) (tV X.K (aQ op g) E):=
 (zP hc f hm h ha hn c i d).imp λ_ _ _=>yZ l
noncomputable def jt(ds:List D):Option D:=if ds.length<=QN then on (.tup ds)else Qh
noncomputable def de(ds:List D):Option D:=if ds.length<=QN then on (.lst ds)else Qh
theorem cx.newT{K:QR}{F:Fx}{H:Hp}(fr:Fr F H β)(h:H p=Qh)(hd:bb K F H ds xs):cx K F (upd H p (.tup xs)) (.tup ds) (.ref p):=
 ⟨p,xs,rfl,.inl ⟨fr.fresh h,.inl ah⟩,bb.tr ((fr.upd _ h).tr fr) _ _ hd⟩
theorem cx.newL{K:QR}{F:Fx}{H:Hp}(fr:Fr F H β)(h:H p=Qh)(hd:bb K F H ds xs):cx K F (upd H p (.lst xs)) (.lst ds) (.ref p):=
 ⟨p,xs,rfl,⟨fr.fresh h,.inl ah⟩,bb.tr ((fr.upd _ h).tr fr) _ _ hd⟩
theorem bY{x1}(h:PA X es (jm X.K g E)):PE X (.Tuple es x1 pos) (tV X.K (aQ jt g) E):=
 (MI h).imp λj H Q d=>li d λF δ β fr i r=>⟨F,δ,β,fr,i,(run.bind (R:=bb X.K F) r).mono λvs l d=>by
  obtain⟨ds,β1,t,hd,r1⟩:=d;obtain⟨d3,c,k⟩:=run.ofO r1;unfold jt at c;split at c
  .cases c
   exact⟨by rw[<-hd.length];assumption,λp f=>k _ _ (t.fr.upd _ f) (cx.newT t.fr f hd)⟩
  .cases c⟩
theorem dR(h:PA X es (jm X.K g E)):PE X (.List es pos) (tV X.K (aQ de g) E):=
 (gF h).imp λj H Q d=>li d λF δ β fr i r=>⟨F,δ,β,fr,i,(run.bind (R:=bb X.K F) r).mono λvs l d=>by
  obtain⟨ds,β1,t,hd,r1⟩:=d;obtain⟨d3,c,k⟩:=run.ofO r1;unfold de at c;split at c
  .cases c
   exact⟨by rw[<-hd.length];assumption,λp f=>k _ _ (t.fr.upd _ f) (cx.newL t.fr f hd)⟩
  .cases c⟩
def zv(K:QR)(n:Nat)(m:List D->M D):Sp:=λvs H Q E=>vs.length=n/\∃F ds β,Fr F H β/\bb K F H ds vs/\run (cx K F) F (λ_=>E) [] (m ds) H Q β
variable{p:Vm}{x:Rl}{k n:Nat}{f:Qs}{fd:Q2}{ps:List Rl}
theorem run.toE{α c:Type}{R:Hp->α->c->Prop}{F:Fx}{E:St->XK}{d:St}{m:M α}{H:Hp}{Q:c->Hp->Prop}{β:Bg}(h:run R F E d m H Q β):run R F (λ_=>E d) [] m H Q β:=h
theorem yM(G:fw X.prog X.w X.K X.mg X.base (g_ X.prog X.w) k f fd ps (zv X.K n m))(q:ej k X.A)(u:Gl X x)(hm:X.mg x=on (.ref f))(v:VZ X.K (.ref f)=Qo)(y:aB X.K fd ps [])(B:cE (g_ X.prog X.w) X E)
  (ha:PA X (e::es) (jm X.K g E)) (hn:∀δ β r h,g δ β=on (.ok r,h)->r.length=n) (c:(x==("__debug__":Rl))=Qr:=by decide) (I:QH (e::es) X.env=(Qr,RN e X.env)::QH es X.env:=by rfl) (d:(S4 pos (QH es X.env)).any (·.1)=Qr:=by rfl):
  PE X (.Call (.Name x p) (e::es) [] pos) (tV X.K (bF m g) E):=
 (mG G q u hm v y .nil B ha c I d).imp λT H Q J=>li J λF δ β fr L r=>⟨F,δ,β,fr,L,by
  obtain⟨r0,i,l,o⟩:=run.bind (R:=bb X.K F) r;refine⟨r0,i,l,?_⟩;cases r0 with
  |error C=>exact o
  |ok ds=>
   intro vs N t hd;obtain⟨d',β1,O,j,r1⟩:=o vs N t hd;have P:=hn _ _ _ _ l;refine⟨by rw[RJ,<-hd.length,P],F,d',β1,O.fr,by rw[RJ];exact j,run.toE r1⟩⟩
theorem HY{r:List D}(h:ax δ β=on (.ok r,β')):r.length=0:=by cases h;rfl
theorem aN{f:FD}{n:Nat}(d:∀δ β r c,g δ β=on (.ok r,c)->r.length=n):∀δ β r c,ac f g δ β=on (.ok r,c)->r.length=n+1:=by
 intro δ β r c h;unfold ac M.bind at h;split at h
 .cases h
 .cases h
 .dsimp only at h
  split at h
  .cases h
  .cases h
  .rename_i as _ i
   cases h;rw[QP,d _ _ _ _ i]
noncomputable def ni(g:Int->Int->Option D):D->D->Option D
 | .int i,.int j=>g i j
 |_,_=>Qh
theorem iR{a b d:D}(h:ni g a b=on d):∃i j,a= .int i/\b= .int j/\g i j=on d:=by
 cases a<;>cases b<;>first|(exact⟨_,_,rfl,rfl,h⟩)|(cases h)
theorem AI{g:Int->Int->Int}:aV K (ro λi j=> .int (g i j)) (ni λi j=>on (.int (g i j))):=λF H β Q d1 d2 d l m fr c h e k=>by
 obtain⟨i,j,rfl,rfl,e⟩:=iR e;cases e;exact⟨i,j,c,h,k _ H (To.refl fr) rfl⟩
theorem kM{g:Int->Int->Bool}:aV K (ro λi j=> .bl (g i j)) (ni λi j=>on (.bl (g i j))):=λF H β Q d1 d2 d l m fr c h e k=>by
 obtain⟨i,j,rfl,rfl,e⟩:=iR e;cases e;exact⟨i,j,c,h,k _ H (To.refl fr) rfl⟩
theorem lR{C:Int->Int->Prop}{c:Int->Int->Bool}{g:Int->Int->Int}(hc:∀i j,c i j=Qo->C i j):aV K (rI C λi j=> .int (g i j)) (ni λi j=>if c i j=Qo then on (.int (g i j))else Qh):=λF H β Q d1 d2 d o q fr l m e k=>by
 obtain⟨i,j,rfl,rfl,h⟩:=iR e;split at h
 .cases h
  exact⟨i,j,l,m,hc _ _ (by assumption),k _ H (To.refl fr) rfl⟩
 .cases h
noncomputable def gA(i:Int):Bool:=decide (i.natAbs<2^1000)
def DG:D->D->Option D:=ni λi j=>on (.int (i-j))
def yk:D->D->Option D:=ni λi j=>if(decide (0<j)&&decide (j.natAbs.log2<9000))=Qo then on (.int (i/j))else Qh
def MZ:D->D->Option D:=ni λi j=>if decide (0<j)=Qo then on (.int (i % j))else Qh
def ltD:D->D->Option D:=ni λi j=>on (.bl (decide (i<j)))
def leD:D->D->Option D:=ni λi j=>on (.bl (decide (i<=j)))
def gtD:D->D->Option D:=ni λi j=>on (.bl (decide (j<i)))
theorem gu:aV K (ro λi j=> .int (i-j)) DG:=AI
theorem nZ:aV K (ro λi j=> .bl (decide (i<j))) ltD:=kM
theorem lT:aV K (ro λi j=> .bl (decide (i<=j))) leD:=kM
theorem qz:aV K (ro λi j=> .bl (decide (j<i))) gtD:=kM
theorem pq:aV K (rI sX λi j=> .int (i/j)) yk:=lR λi j h=>by
 simp only[Q9,Rm]at h;exact h
theorem JS:aV K (rI (λ_ j=>0<j) λi j=> .int (i % j)) MZ:=lR λi j h=>RI h
noncomputable def xu:R2:=λx y H Q=>∃l b xs c,x= .ref l/\y= .ref b/\Rd H l (.lst xs)/\Rd H b (.lst c)/\xs.length+c.length<=QN/\∀p,H p=Qh->Q (.ref p) (upd H p (.lst (xs++c)))
theorem K0:gv X (Th .Add) xu:=by
 intro d s t H x y v u Q I i j h;obtain⟨l,b,xs,w,rfl,rfl,m,hB,A,q⟩:=h;cases i;cases j;obtain⟨z,its,n,r,e⟩:=m.ok I.hok;obtain⟨B,c,C,g,o⟩:=hB.ok I.hok;have l1:=r.length;have J:=g.length;refine Zo e o ?_ (by simp only[QO];omega);rw[show its.toArray++c.toArray=(its++c).toArray by simp];exact⟨.ref _,_,I.lnew (t':=s.toks) (r.append g) (by rw[QV];omega),rfl,q _ I.fresh⟩
def xv(K:QR):R2:=λx y H Q=>∃a b ys,x= .ref a/\y= .ref b/\hO K H a []/\hO K H b ys/\Q (.ref b) H
theorem K1:gv X (Th .Add) (xv X.K):=by
 intro l s N H x y v u Q I r t h;obtain⟨a,b,ys,rfl,rfl,ha,w,q⟩:=h;cases r;cases t;obtain⟨its,r1,A,_⟩:=I.tuple ha;obtain⟨m,O,B,_⟩:=I.tuple w;cases r1;obtain⟨⟨c1,d1,C,i⟩,o,hc,n,hd⟩:=A;obtain⟨⟨c2,d2,J,j⟩,c,d,L,g⟩:=B;simp only at hc hd d g;subst hc hd d g;exact PySem.concat_meets ⟨_,o,rfl⟩ ⟨_,c,rfl⟩ Yb Zx VW VL (Vx _ _) (tuple_addW0 a b _ _ n L d1 d2 i j (by simp)) ⟨o,c,⟨.ref b,H,I,rfl,q⟩⟩
noncomputable def fZ:D->D->Option D
 | .int i,.int j=>on (.int (i+j))
 | .tup [],.tup b=>on (.tup b)
 | .lst a,.lst b=>if a.length+b.length<=QN then on (.lst (a++b))else Qh
 | .tup (c::a),.tup b=>if(c::a).length+b.length<=QN then on (.tup (c::a++b))else Qh
 |_,_=>Qh
theorem bL:aV K (λx y H Q=>(ro λi j=> .int (i+j)) x y H Q\/xu x y H Q\/xt K x y H Q\/xv K x y H Q) fZ:=λF H β Q d1 d2 d v w fr h l e k=>by
 unfold fZ at e;split at e
 .cases e
  exact .inl ⟨_,_,h,l,k _ H (To.refl fr) rfl⟩
 .cases e
  obtain⟨a,xs,rfl,r1,c⟩:=cx.sqT h;obtain⟨b,ys,rfl,m,g⟩:=cx.sqT l;have q:xs=[]:=c;subst q;exact .inr (.inr (.inr ⟨a,b,ys,rfl,rfl,r1,m,k _ H (To.refl fr) l⟩))
 .split at e
  .cases e
   obtain⟨a,xs,rfl,r1,c⟩:=cx.rdL h;obtain⟨b,ys,rfl,m,g⟩:=cx.rdL l;exact .inr (.inl ⟨a,b,xs,ys,rfl,rfl,r1,m,by rw[<-c.length,<-g.length];assumption,λp o=>k _ _ (fr.upd _ o) (cx.newL fr o (c.append g))⟩)
  .cases e
 .split at e
  .cases e
   obtain⟨a,xs,rfl,r1,c⟩:=cx.sqT h;obtain⟨b,ys,rfl,m,g⟩:=cx.sqT l;have r:=c.length;have t:=g.length;refine .inr (.inr (.inl ⟨a,b,xs,ys,rfl,rfl,r1,m,(λz=>by subst z;cases r),by rw[<-r,<-t];assumption,λz=>?_,λ_ p o=>k _ _ (fr.upd _ o) (cx.newT fr o (c.append g))⟩));subst z;have u:=UA.mp t;subst u;rw[RJ]at k;exact k _ H (To.refl fr) h
  .cases e
 .cases e
theorem aP:gv X (Th .Add) (λx y H Q=>(ro λi j=> .int (i+j)) x y H Q\/xu x y H Q\/xt X.K x y H Q\/xv X.K x y H Q):=o7.or (K0.or (KZ.or K1))
def xK:D->D->Option D:=ni λi j=>if(gA i&&gA j)=Qo then on (.int (i*j))else Qh
theorem cb:aV K (rI sW λi j=> .int (i*j)) xK:=lR λi j h=>by
 simp only[Q9,gA,Rm]at h;exact h
noncomputable def eqS:D->D->Option Bool
 | .non,.non=>on Qo
 | .int i,.int j=>on (decide (i=j))
 | .bl i,.bl j=>on (decide (i=j))
 | .str i,.str j=>on (decide (i=j))
 | .int _,.str _=>on Qr
 | .str _,.int _=>on Qr
 | .bl _,.str _=>on Qr
 | .str _,.bl _=>on Qr
 | .non,.int _=>on Qr
 | .int _,.non=>on Qr
 | .non,.str _=>on Qr
 | .str _,.non=>on Qr
 |_,_=>Qh
theorem BL{F:Fx}{H:Hp}{a b:D}{c:Bool}(h:eqS a b=on c)(d:cx K F H a v)(g:cx K F H b w):DK v w=Qo/\decide (v=w)=c:=by
 unfold eqS at h;split at h<;>first
  |(cases h;cases d.int;cases g.int;exact⟨rfl,by simp⟩)
  |(cases h;cases d.bl;cases g.bl;exact⟨rfl,by simp⟩)
  |(cases h;cases d.str;cases g.str;exact⟨rfl,by simp⟩)
  |(cases h;cases d.non;cases g.non;exact⟨rfl,by simp⟩)
  |(cases h;cases d.int;cases g.str;exact⟨rfl,rfl⟩)
  |(cases h;cases d.str;cases g.int;exact⟨rfl,rfl⟩)
  |(cases h;cases d.bl;cases g.str;exact⟨rfl,rfl⟩)
  |(cases h;cases d.str;cases g.bl;exact⟨rfl,rfl⟩)
  |(cases h;cases d.non;cases g.int;exact⟨rfl,rfl⟩)
  |(cases h;cases d.int;cases g.non;exact⟨rfl,rfl⟩)
  |(cases h;cases d.non;cases g.str;exact⟨rfl,rfl⟩)
  |(cases h;cases d.str;cases g.non;exact⟨rfl,rfl⟩)
  |cases h
noncomputable def isN:D->Bool
 | .non=>Qo
 |_=>Qr
theorem Na{F:Fx}{H:Hp}(h:cx K F H d v):decide (v= .non)=isN d:=by
 cases d with
 |non=>cases h.non;rfl
 |bl b=>cases h.bl;rfl
 |int b=>cases h.int;rfl
 |str b=>cases h.str;rfl
 |ty b=>cases h.ty;rfl
 |txt=>unfold cx at h;obtain⟨z,rfl⟩:=h;rfl
 |lst ds=>obtain⟨a,xs,rfl,_⟩:=cx.sqL h;rfl
 |tup ds=>obtain⟨a,xs,rfl,_⟩:=cx.sqT h;rfl
 |scr ds=>obtain⟨a,rfl,_⟩:=cx.scr h;rfl
 |obj C ns ds=>
  unfold cx at h;obtain⟨a,_,_,rfl,_⟩:=h;rfl
 |bag=>
  unfold cx at h;obtain⟨a,_,_,rfl⟩:=h;rfl
 |adr a=>
  unfold cx at h;obtain rfl:=h;rfl
 |dct b ks vs=>
  unfold cx at h;obtain⟨a,_,xs,rfl,_⟩:=h;rfl
noncomputable def x6:D->D->Option D
 |a,.non=>on (.bl (isN a))
 |_,_=>Qh
theorem xU:aV K (λx y H Q=>y= .non/\Q (.bl (decide (x= .non))) H) x6:=λF H β Q d1 d2 d h i fr c g e k=>by
 unfold x6 at e;split at e
 .cases e
  exact⟨g,by rw[Na c];exact k _ H (To.refl fr) rfl⟩
 .cases e
noncomputable def fW:D->Bool
 | .int _=>Qo| .bl _=>Qo| .str _=>Qo| .non=>Qo|_=>Qr
noncomputable def eqF:D->D->Bool
 | .non,.non=>Qo
 | .bl a,.bl b=>a==b
 | .bl a,.int b=>(if a then 1 else 0)==b
 | .int a,.bl b=>a==(if b then 1 else 0)
 | .int a,.int b=>a==b
 | .str a,.str b=>a==b
 |_,_=>Qr
noncomputable def eY:D->Option (List D)
 | .lst a=>on a
 | .tup a=>on a
 |_=>Qh
def inB(x:D)(ys:List D):Bool:=ys.any λy=>eqF y x
def Tm(neg:Bool)(x y:D):Option D:=(eY y).bind λys=>if(fW x&&ys.all fW)=Qo then on (.bl (if neg then !inB x ys else inB x ys))else Qh
theorem qE{F:Fx}{H:Hp}(f:fW d=Qo)(h:cx K F H d v):gy v=Qo:=by
 cases d<;>first|(cases h.int;rfl)|(cases h.bl;rfl)|(cases h.str;rfl)|(cases h.non;rfl)|cases f
theorem Np{F:Fx}{H:Hp}{a b:D}(g:fW a=Qo)(h:fW b=Qo)(c:cx K F H a v)(d:cx K F H b w):Ic v w=eqF a b:=by
 cases a<;>first
  |(exfalso;exact Qx g)
  |(cases b<;>first
   |(exfalso;exact Qx h)
   |(cases c.int;cases d.int;rfl)|(cases c.int;cases d.bl;rfl)|(cases c.int;cases d.str;rfl)|(cases c.int;cases d.non;rfl)
   |(cases c.bl;cases d.int;rfl)|(cases c.bl;cases d.bl;rfl)|(cases c.bl;cases d.str;rfl)|(cases c.bl;cases d.non;rfl)
   |(cases c.str;cases d.int;rfl)|(cases c.str;cases d.bl;rfl)|(cases c.str;cases d.str;rfl)|(cases c.str;cases d.non;rfl)
   |(cases c.non;cases d.int;rfl)|(cases c.non;cases d.bl;rfl)|(cases c.non;cases d.str;rfl)|(cases c.non;cases d.non;rfl))
theorem uT{F:Fx}{H:Hp}{x:D}(c:fW x=Qo)(g:cx K F H x v):∀{ds:List D} {vs:List V},ds.all fW=Qo->bb K F H ds vs->vs.all gy=Qo/\inV v vs=inB x ds
 |[],vs,_,h=>by have q:vs=[]:=h;subst q;exact⟨rfl,rfl⟩
 |d::ds,vs,f,h=>by
  obtain⟨y,r,q,i,l⟩:=h;subst q;rw[WN,Q9]at f;obtain⟨m,j⟩:=uT c g f.2 l;refine⟨by rw[WN,qE f.1 i,m];rfl,?_⟩;unfold inV inB at j⊢;rw[VR,VR,j,Np f.1 c i g]
theorem EU{neg:Bool}:aV K (rIn K neg) (Tm neg):=λF H β Q d1 d2 d m o fr g l e k=>by
 unfold Tm at e;cases q:eY d2 with
 |none=>rw[q]at e;cases e
 |some ys=>
  rw[q]at e;simp only[UN]at e;split at e
  .rename_i c
   rw[Q9]at c;cases e;cases d2<;>first|(cases q;obtain⟨a,xs,rfl,r1,h⟩:=cx.sqL l;obtain⟨i,j⟩:=uT c.1 g c.2 h;exact⟨a,xs,rfl,.inl r1,qE c.1 g,i,by rw[j];exact k _ H (To.refl fr) rfl⟩)|(cases q;obtain⟨a,xs,rfl,r1,h⟩:=cx.sqT l;obtain⟨i,j⟩:=uT c.1 g c.2 h;exact⟨a,xs,rfl,.inr r1,qE c.1 g,i,by rw[j];exact k _ H (To.refl fr) rfl⟩)|cases q
  .cases e
def jn:D->D->Option D
 | .lst xs,.int i=>s_ xs i
 | .tup xs,.int i=>s_ xs i
 |_,_=>Qh
theorem CF{F:Fx}{H:Hp}(h:bb K F H ds vs)(e:s_ ds i=on d):∃v,s_ vs i=on v/\cx K F H d v:=by
 unfold s_ at e⊢;rw[<-h.length];cases q:ry ds.length i with
 |none=>rw[q]at e;cases e
 |some j=>
  rw[q]at e;exact h.get e
theorem aR:aV K (λx y H Q=>xq K x y H Q\/DO K x y H Q) jn:=λF H β Q d1 d2 d j l fr h i e k=>by
 unfold jn at e;split at e
 .obtain⟨a,xs,rfl,r1,c⟩:=cx.sqL h
  obtain⟨v,g,hd⟩:=CF c e;exact .inl ⟨a,xs,_,v,rfl,i,r1,g,k _ H (To.refl fr) hd⟩
 .obtain⟨a,xs,rfl,r1,c⟩:=cx.sqT h
  obtain⟨v,g,hd⟩:=CF c e;exact .inr ⟨a,xs,_,v,rfl,i,r1,g,k _ H (To.refl fr) hd⟩
 .cases e
theorem aq:D_ X (λx y H Q=>xq X.K x y H Q\/DO X.K x y H Q):=eK.or M9
noncomputable def gl:List D->Option D
 |[.lst xs]=>on (.int xs.length)
 |[.tup xs]=>on (.int xs.length)
 |_=>Qh
theorem bb.one{F:Fx}{H:Hp}(h:bb K F H [d] vs):∃v,vs=[v]/\cx K F H d v:=by
 obtain⟨x,r,e,c,g⟩:=h;have q:r=[]:=g;subst q;exact⟨x,e,c⟩
theorem bb.two{F:Fx}{H:Hp}(h:bb K F H [d,c] vs):∃v w,vs=[v,w]/\cx K F H d v/\cx K F H c w:=by
 obtain⟨x,r,e,g,i⟩:=h;obtain⟨y,rfl,j⟩:=bb.one i;exact⟨x,y,e,g,j⟩
theorem PK:dg K (λxs H Q=>∃p ys,xs=[.ref p]/\(f0 K H p ys\/hO K H p ys)/\Q (.int ys.length) H) gl:=λF H β Q ds d vs fr h e k=>by
 unfold gl at e;split at e
 .cases e
  obtain⟨v,rfl,g⟩:=bb.one h;obtain⟨a,xs,rfl,r,c⟩:=cx.sqL g;exact⟨a,xs,rfl,.inl r,by rw[<-c.length];exact k _ H (To.refl fr) rfl⟩
 .cases e
  obtain⟨v,rfl,g⟩:=bb.one h;obtain⟨a,xs,rfl,r,c⟩:=cx.sqT g;exact⟨a,xs,rfl,.inr r,by rw[<-c.length];exact k _ H (To.refl fr) rfl⟩
 .cases e
noncomputable def Oz:List D->Option D
 |[.int i]=>on (.int (if i<0 then -i else i))
 |_=>Qh
theorem JW:dg K (λxs H Q=>∃i,xs=[.int i]/\Q (.int (if i<0 then -i else i)) H) Oz:=λF H β Q ds d vs fr h e k=>by
 unfold Oz at e;split at e
 .cases e
  obtain⟨v,rfl,g⟩:=bb.one h;cases g.int;exact⟨_,rfl,k _ H (To.refl fr) rfl⟩
 .cases e
noncomputable def uE:List D->Option D
 |[.int i,.int j]=>on (.int (if j<i then j else i))
 |_=>Qh
noncomputable def xM:List D->Option D
 |[.int i,.int j]=>on (.int (if j>i then j else i))
 |_=>Qh
theorem JT:dg K (λxs H Q=>∃i j,xs=[.int i,.int j]/\Q (.int (if j<i then j else i)) H) uE:=λF H β Q ds d vs fr h e k=>by
 unfold uE at e;split at e
 .cases e
  obtain⟨v,w,rfl,g,g'⟩:=bb.two h;cases g.int;cases g'.int;exact⟨_,_,rfl,k _ H (To.refl fr) rfl⟩
 .cases e
theorem PJ:dg K (λxs H Q=>∃i j,xs=[.int i,.int j]/\Q (.int (if j>i then j else i)) H) xM:=λF H β Q ds d vs fr h e k=>by
 unfold xM at e;split at e
 .cases e
  obtain⟨v,w,rfl,g,g'⟩:=bb.two h;cases g.int;cases g'.int;exact⟨_,_,rfl,k _ H (To.refl fr) rfl⟩
 .cases e
noncomputable def ef:List D->Option (List Int)
 |[]=>on []
 | .int i::r=>(ef r).map (i::·)
 |_=>Qh
theorem i_:∀{ds:List D} {ns:List Int},ef ds=on ns->ds=ns.map D.int
 |[],ns,h=>by cases h;rfl
 |d::ds,ns,h=>by
  cases d with
  |int i=>
   unfold ef at h;cases q:ef ds with
   |none=>rw[q]at h;cases h
   |some c=>rw[q]at h;cases h;rw[i_ q];rfl
  |_=>cases h
def DE:List D->Option D
 |[.lst xs]=>(ef xs).map λns=> .int ns.sum
 |_=>Qh
theorem PD:dg K (λxs H Q=>∃(a:Qs) (ns:List Int),xs=[.ref a]/\f0 K H a (ns.map V.int)/\Q (.int ns.sum) H) DE:=λF H β Q ds d vs fr h e k=>by
 unfold DE at e;split at e
 .rename_i xs
  cases q:ef xs with
  |none=>rw[q]at e;cases e
  |some ns=>
   rw[q]at e;cases e;obtain⟨v,rfl,g⟩:=bb.one h;obtain⟨a,ys,rfl,r,c⟩:=cx.sqL g;rw[i_ q]at c;have i:=bb.ints ns c;subst i;exact⟨a,ns,rfl,r,k _ H (To.refl fr) rfl⟩
 .cases e
noncomputable def sG:List D->Option D
 |[.lst xs]=>on (.lst xs)
 |[.tup xs]=>on (.lst xs)
 |_=>Qh
theorem iW:dg K (λxs H Q=>∃p ys,xs=[.ref p]/\(f0 K H p ys\/hO K H p ys)/\∀l,H l=Qh->Q (.ref l) (upd H l (.lst ys))) sG:=λF H β Q ds d vs fr h e k=>by
 unfold sG at e;split at e
 .cases e
  obtain⟨v,rfl,g⟩:=bb.one h;obtain⟨a,xs,rfl,r,i⟩:=cx.sqL g;exact⟨a,xs,rfl,.inl r,λl c=>k _ _ (fr.upd _ c) (cx.newL fr c i)⟩
 .cases e
  obtain⟨v,rfl,g⟩:=bb.one h;obtain⟨a,xs,rfl,r,i⟩:=cx.sqT g;exact⟨a,xs,rfl,.inr r,λl c=>k _ _ (fr.upd _ c) (cx.newL fr c i)⟩
 .cases e
noncomputable def tF:List D->Option D
 |[.lst xs]=>on (.tup xs)
 |[.tup xs]=>on (.tup xs)
 |_=>Qh
theorem jW:dg K (λxs H Q=>∃p ys,xs=[.ref p]/\((f0 K H p ys/\∀l,H l=Qh->Q (.ref l) (upd H l (.tup ys)))\/(hO K H p ys/\Q (.ref p) H))) tF:=λF H β Q ds d vs fr h e k=>by
 unfold tF at e;split at e
 .cases e
  obtain⟨v,rfl,g⟩:=bb.one h;obtain⟨a,xs,rfl,r,c⟩:=cx.sqL g;exact⟨a,xs,rfl,.inl ⟨r,λl i=>k _ _ (fr.upd _ i) (cx.newT fr i c)⟩⟩
 .cases e
  obtain⟨v,rfl,g⟩:=bb.one h;obtain⟨a,xs,rfl,r,c⟩:=cx.sqT g;exact⟨a,xs,rfl,.inr ⟨r,k _ H (To.refl fr) g⟩⟩
 .cases e
noncomputable def asB:D->Option Bool
 | .bl b=>on b
 |_=>Qh
theorem i9{b:Bool}(h:asB d=on b):d= .bl b:=by cases d<;>first|(cases h;rfl)|cases h
noncomputable def CZ:D->Option Bool
 | .non=>on Qr
 | .bl b=>on b
 | .int i=>on (i !=0)
 | .lst xs=>on (!xs.isEmpty)
 | .tup xs=>on (!xs.isEmpty)
 |_=>Qh
def fB(f:FD):Dn->M Bool:=λδ=>M.bind (f δ) λd=>M.ofO (asB d)
def u4(f:FD):Dn->M Bool:=λδ=>M.bind (f δ) λd=>M.ofO (CZ d)
def qF(f g:Dn->M Bool):Dn->M Bool:=λδ=>M.bind (f δ) λc=>if c=Qo then M.ret Qo else g δ
def ym(f:Dn->M Bool):Dn->M Bool:=λδ=>M.bind (f δ) λc=>M.ret (!c)
def yo(f g:FD):FD:=λδ=>M.bind (f δ) λd=>M.bind (M.ofO (asB d)) λc=>if c=Qo then g δ else M.ret (.bl Qr)
def fIf(t:Dn->M Bool)(f g:FD):FD:=λδ=>M.bind (t δ) λc=>if c=Qo then f δ else g δ
def j3(o d:D->D->Option D)(f g h:FD):FD:=λδ=>M.bind (f δ) λa=>M.bind (g δ) λb=>M.bind (M.ofO (o a b)) λz=>M.bind (M.ofO (asB z)) λc=>if c=Qo then M.bind (h δ) (λw=>M.ofO (d b w))else M.ret (.bl Qr)
variable{c:Expr}{rest:List Expr}
theorem M.ofO_bind{α d:Type}{o:Option α}{k:α->M d}{β:Bg}{z:Except Qs d×Bg}(h:M.bind (M.ofO o) k β=on z):∃a,o=on a/\k a β=on z:=by
 cases o with
 |none=>cases h
 |some a=>exact⟨a,rfl,h⟩
theorem run.ofO_bind{α g i:Type}{R:Hp->g->i->Prop}{F:Fx}{j:St}{o:Option α}{k:α->M g}{H:Hp}{Q:i->Hp->Prop}{β:Bg}(h:run R F E j (M.bind (M.ofO o) k) H Q β):∃a,o=on a/\run R F E j (k a) H Q β:=by
 obtain⟨r,d,e,h⟩:=h;obtain⟨a,q,e⟩:=M.ofO_bind e;exact⟨a,q,r,d,e,h⟩
theorem run.bOk{F:Fx}{H:Hp}(fr:Fr F H β)(hd:cx K F H d v)(h:run (λ_ (a b:Bool)=>b=a) F E σ (M.ofO (asB d)) H Q β):∃k,v= .bl k/\Q k H:=by
 obtain⟨b,e,k⟩:=run.ofO h;rw[i9 e]at hd;exact⟨b,hd,k b H (To.refl fr) rfl⟩
theorem nG{f:FD}{H:Hp}(h:hY K (fB f) E σ H Q):tV K f E σ H λx g=>∃k,x= .bl k/\Q k g:=by
 obtain⟨F,δ,β,fr,i,h⟩:=h;exact⟨F,δ,β,fr,i,(run.bind (R:=cx K F) h).mono λv l j=>p5 j λd β1 t hd r1=>run.bOk t.fr hd r1⟩
theorem bo{f g:FD}(d:gv X (RV op) r)(l:aV X.K r o)(ha:PE X a (tV X.K f E))(i:PE X b (tV X.K g E))(hm:Vg op b=Qr:=by first|exact uy _|rfl):PT X (.Compare a [op] [b] pos) (hY X.K (fB (f2 o f g)) E):=
 (v5 d ha i hm).imp λj H Q h=>oJ l (nG h)
theorem yX{f g h:FD}(l:aV K r o)(Y:aV K r' o'){H:Hp}(B:tV K (j3 o o' f g h) E σ H Q):yY r r' (tV K f E) (tV K g E) (tV K h E) σ H Q:=by
 obtain⟨F,δ,β,fr,I,B⟩:=B;refine⟨F,δ,β,fr,I,(run.bind (R:=cx K F) B).mono λv H1 j=>p5 j λd β1 t hd r1=>⟨F,δ,β1,t.fr,I.tr (t.tr fr),(run.bind (R:=cx K F) r1).mono λP Z j=>p5 j λd2 β2 m u r2=>?_⟩⟩;obtain⟨z,T,r3⟩:=run.ofO_bind r2;obtain⟨c,ec,A⟩:=run.ofO_bind r3;rw[i9 ec]at T;refine l F Z β2 _ d d2 _ v P m.fr (cx.tr (m.tr t.fr) _ _ hd) u T λvz U i hz=>⟨c,hz,?_⟩;cases c with
 |true=>
  rw[Qt rfl]at A;refine⟨F,δ,β2,i.fr,I.tr ((t.tr fr).trans ((m.tr t.fr).trans (i.tr m.fr))),?_⟩;have r5:run (cx K F) F E σ (M.bind (h δ) λw=>M.ofO (o' d2 w)) U Q β2:=by
   obtain⟨J,y,e,q⟩:=A;refine⟨J,y,e,?_⟩;cases J with
   |ok d=>exact λv L tt=>q v L (i.trans tt)
   |error C=>exact λL tt=>q L (i.trans tt)
  refine(run.bind (R:=cx K F) r5).mono λw H4 j=>p5 j λdw N W O r6=>?_;obtain⟨d3,e3,k⟩:=run.ofO r6;exact Y F H4 N Q d2 dw d3 P w W.fr (cx.tr ((i.tr m.fr).trans (W.tr i.fr)) _ _ u) O e3 k
 |false=>
  rw[Qp Qx]at A;obtain⟨J,y,e,q⟩:=A;cases e;exact q _ U i rfl
theorem qc{f g h:FD}(i:gv X (RV op) r)(d:gv X (RV op') r')(l:aV X.K r o)(j:aV X.K r' o')(ha:PE X a (tV X.K f E))(m:PE X b (tV X.K g E))(hc:PE X c (tV X.K h E))(hm:ZS [op,op'] [b,c]=Qr:=by with_unfolding_all rfl):
  PT X (.Compare a [op,op'] [b,c] pos) (hY X.K (fB (j3 o o' f g h)) E):=(DQ i d ha m hc hm).imp λt H Q q=>yX l j (nG q)
theorem Kq{F:Fx}{H:Hp}{k:Bool}(h:CZ d=on k)(hd:cx K F H d v):IB K v H k:=by
 cases d with
 |non=>cases h;cases hd.non;rfl
 |bl b=>cases h;cases hd.bl;rfl
 |int i=>cases h;cases hd.int;rfl
 |lst xs=>
  cases h;obtain⟨a,ys,rfl,r,g⟩:=cx.sqL hd;refine .inl ⟨ys,r,?_⟩;have:=g.length;cases xs<;>cases ys<;>first|rfl|(simp at this)
 |tup xs=>
  cases h;obtain⟨a,ys,rfl,r,g⟩:=cx.sqT hd;refine .inr ⟨ys,r,?_⟩;have:=g.length;cases xs<;>cases ys<;>first|rfl|(simp at this)
 |_=>cases h
theorem oH{f:FD}(ha:PE X a (tV X.K f E))(j:∀g,isTrue a X.env g=(do let v <-g;Uh a.pos;UW [v] (truthy v)):=by intro _;rfl):PT X a (hY X.K (u4 f) E):=
 (DP ha j).imp λo H Q i=>li i λF δ β fr l h=>⟨F,δ,β,fr,l,(run.bind (R:=cx X.K F) h).mono λv m i=>by
  obtain⟨d,β1,t,hd,r1⟩:=i;obtain⟨k,e,q⟩:=run.ofO r1;exact⟨k,Kq e hd,q k m (To.refl t.fr) rfl⟩⟩
theorem oI{f:Dn->M Bool}(ha:PT X a (hY X.K f E)):PT X (.UnaryOp .Not a pos) (hY X.K (ym f) E):=
 (MC ha).imp λj H Q g=>li g λF δ β fr i h=>⟨F,δ,β,fr,i,(run.bind (R:=λ_ (a b:Bool)=>b=a) h).mono λv l g=>by
  obtain⟨d,β1,t,hd,r1⟩:=g;subst hd;exact run.ret t.fr r1 rfl⟩
theorem LV{f g:Dn->M Bool}{H:Hp}(h:hY K (qF f g) E σ H Q):tOr (hY K f E) (hY K g E) σ H Q:=by
 obtain⟨F,δ,β,fr,i,h⟩:=h;refine⟨F,δ,β,fr,i,(run.bind (R:=λ_ (a b:Bool)=>b=a) h).mono λv l j=>p5 j λd β1 t hd r1=>?_⟩;subst hd;cases v with
 |false=>rw[Qp Qx]at r1⊢;exact⟨F,δ,β1,t.fr,i.tr (t.tr fr),r1⟩
 |true=>rw[Qt rfl]at r1⊢;exact run.ret t.fr r1 rfl
theorem oB{f:Dn->M Bool}(ha:PT X a (hY X.K f E)):PW X (.BoolOp .Or [a] pos) (hY X.K f E):=Mz ha
theorem tz{f g:Dn->M Bool}(ha:PT X a (hY X.K f E))(d:PW X (.BoolOp .Or (b::rest) pos) (hY X.K g E)):PW X (.BoolOp .Or (a::b::rest) pos) (hY X.K (qF f g) E):=(Pf ha d).imp λ_ _ _=>LV
theorem lh{e:Expr}{f:Dn->M Bool}(h:PW X e (hY X.K f E)):PT X e (hY X.K f E):=PW.pt h
theorem OR{op}{f:FD}(h:PE X a (tV X.K f E)):PE X (.BoolOp op [a] pos) (tV X.K f E):=MK h
theorem run.asB{F:Fx}{k:Bool->M D}{H:Hp}(hd:cx K F H d v)(h:run (cx K F) F E σ (M.bind (M.ofO (asB d)) k) H Q β):∃c,v= .bl c/\run (cx K F) F E σ (k c) H Q β:=by
 obtain⟨c,e,h⟩:=run.ofO_bind h;rw[i9 e]at hd;exact⟨c,hd,h⟩
theorem OT{f g:FD}(ha:PE X a (tV X.K f E))(m:PE X (.BoolOp .And (b::rest) pos) (tV X.K g E)):PE X (.BoolOp .And (a::b::rest) pos) (tV X.K (yo f g) E):=
 (MN ha m).imp λo H Q j=>li j λF δ β fr l h=>⟨F,δ,β,fr,l,(run.bind (R:=cx X.K F) h).mono λv q j=>by
  obtain⟨d,β1,t,hd,r1⟩:=j;obtain⟨c,e,i⟩:=run.asB hd r1;refine⟨c,e,?_⟩;cases c with
  |true=>rw[Qt rfl]at i⊢;exact⟨F,δ,β1,t.fr,l.tr (t.tr fr),i⟩
  |false=>rw[Qp Qx]at i⊢;exact run.ret t.fr i rfl⟩
theorem LM{f g:FD}(hc:PT X c (hY X.K t E))(ha:PE X a (tV X.K f E))(l:PE X b (tV X.K g E)):PE X (.IfExp c a b pos) (tV X.K (fIf t f g) E):=
 (DX hc ha l).imp λm H Q i=>li i λF δ β fr j h=>⟨F,δ,β,fr,j,(run.bind (R:=λ_ (a b:Bool)=>b=a) h).mono λv o i=>by
  obtain⟨d,β1,t,hd,r1⟩:=i;subst hd;cases v with
  |true=>rw[Qt rfl]at r1⊢;exact⟨F,δ,β1,t.fr,j.tr (t.tr fr),r1⟩
  |false=>rw[Qp Qx]at r1⊢;exact⟨F,δ,β1,t.fr,j.tr (t.tr fr),r1⟩⟩
noncomputable def tyD:D->Option String
 | .non=>on "NoneType"| .bl _=>on "bool"| .int _=>on "int"| .str _=>on "str"| .lst _=>on "list"| .tup _=>on "tuple"|_=>Qh
noncomputable def xY:String->String->Option Bool
 |"int","str"=>on Qr|"int","bool"=>on Qr|"int","list"=>on Qr|"int","tuple"=>on Qr|"int","int"=>on Qo
 |"bool","str"=>on Qr|"bool","bool"=>on Qo|"bool","list"=>on Qr|"bool","tuple"=>on Qr
 |"str","str"=>on Qo|"str","bool"=>on Qr|"str","list"=>on Qr|"str","tuple"=>on Qr
 |"NoneType","str"=>on Qr|"NoneType","bool"=>on Qr|"NoneType","list"=>on Qr|"NoneType","tuple"=>on Qr
 |"list","list"=>on Qo|"list","tuple"=>on Qr|"list","str"=>on Qr|"list","bool"=>on Qr
 |"tuple","list"=>on Qr|"tuple","tuple"=>on Qo|"tuple","str"=>on Qr|"tuple","bool"=>on Qr
 |_,_=>Qh
noncomputable def xX:String->String->String->Option Bool
 |"int","list","tuple"=>on Qr|"bool","list","tuple"=>on Qr|"str","list","tuple"=>on Qr|"NoneType","list","tuple"=>on Qr|"list","list","tuple"=>on Qo|"tuple","list","tuple"=>on Qo
 |"int","int","str"=>on Qo|"bool","int","str"=>on Qo|"str","int","str"=>on Qo|"NoneType","int","str"=>on Qr|"list","int","str"=>on Qr|"tuple","int","str"=>on Qr
 |_,_,_=>Qh
theorem Li{a b:String}{c:Bool}(h:xY a b=on c):kitOne K (.type a) (.type b)=on c:=by
 unfold xY at h;split at h<;>first|(cases h;kernel_rfl)|cases h
theorem Lh{a b d:String}{c:Bool}(h:xX a b d=on c):Z7 K (.type a) ([b,d].map Ts)=on c:=by
 unfold xX at h;split at h<;>first|(cases h;kernel_rfl)|cases h
def TyG(K:QR)(H:Hp)(x:V)(t:Qv):Prop:=ms K H x t\/(∃a ys,x= .ref a/\f0 K H a ys/\t= .type "list")\/(∃a ys,x= .ref a/\hO K H a ys/\t= .type "tuple")
def JG(K:QR):List V->Hp->VK->Prop:=λxs H Q=>∃x c t b,xs=[x,.ty c]/\TyG K H x t/\kitOne K t (.type c)=on b/\Q (.bl b) H
theorem BY:cL X (.builtin "isinstance") (JG X.K):=by
 intro i s m H xs us Q I r h;obtain⟨x,c,t,b,rfl,ty,e,q⟩:=h;cases r with
 |cons r1 d=>
  cases d with
  |cons d l=>
   cases l;cases d;rcases ty with ty|⟨a,ys,rfl,sq,rfl⟩|⟨a,ys,rfl,sq,rfl⟩
   .exact AV I r1 ty e λj=>⟨.bl b,H,I.tok _,rfl,q⟩
   .cases r1
    obtain⟨its,_,pl,_⟩:=I.list sq;obtain⟨o,g,hc,_⟩:=pl.isList;exact Wc Xa I.kIn ⟨o,g,hc⟩ e (λz=>nomatch z) λj=>⟨.bl b,H,I.tok _,rfl,q⟩
   .cases r1
    obtain⟨its,_,pl,_⟩:=I.tuple sq;obtain⟨o,g,hc,_⟩:=pl;exact Wc YW I.kIn ⟨o,g,hc⟩ e (λz=>nomatch z) λj=>⟨.bl b,H,I.tok _,rfl,q⟩
theorem yP{F:Fx}{H:Hp}(h:tyD d=on t)(hd:cx K F H d v):TyG K H v (.type t):=by
 cases d with
 |non=>cases h;cases hd.non;exact .inl .non
 |bl b=>cases h;cases hd.bl;exact .inl (.bl b)
 |int b=>cases h;cases hd.int;exact .inl (.int b)
 |str b=>cases h;cases hd.str;exact .inl (.str b)
 |lst ds=>cases h;obtain⟨a,xs,rfl,sq,_⟩:=cx.sqL hd;exact .inr (.inl ⟨a,xs,rfl,sq,rfl⟩)
 |tup ds=>cases h;obtain⟨a,xs,rfl,sq,_⟩:=cx.sqT hd;exact .inr (.inr ⟨a,xs,rfl,sq,rfl⟩)
 |_=>cases h
def iZ:List D->Option D
 |[x,.ty c]=>(tyD x).bind λt=>(xY t c).map D.bl
 |_=>Qh
theorem PL:dg K (JG K) iZ:=λF H β Q ds d vs fr h e k=>by
 unfold iZ at e;split at e
 .rename_i x c
  cases q:tyD x with
  |none=>rw[q]at e;cases e
  |some t=>
   rw[q]at e;simp only[UN]at e;cases q2:xY t c with
   |none=>rw[q2]at e;cases e
   |some b=>
    rw[q2]at e;cases e;obtain⟨v,w,rfl,g,i⟩:=bb.two h;cases i.ty;exact⟨v,c,_,b,rfl,yP q g,Li q2,k _ H (To.refl fr) rfl⟩
 .cases e
def zE(K:QR):List V->Hp->VK->Prop:=λxs H Q=>∃(x:V) (tp:Qs) (cs:List String) (t:Qv) (b:Bool),xs=[x,.ref tp]/\hO K H tp (cs.map V.ty)/\TyG K H x t/\Z7 K t (cs.map Ts)=on b/\Q (.bl b) H
theorem pT:cL X (.builtin "isinstance") (zE X.K):=by
 intro m s N H xs us Q I r h;obtain⟨x,tp,cs,t,b,rfl,A,ty,e,q⟩:=h;cases r with
 |cons r1 B=>
  cases B with
  |cons B P=>
   cases P;cases B;obtain⟨its,R,⟨⟨Z,T,U,W⟩,g,u,n,j⟩,_⟩:=I.tuple A;rw[yN R]at j
   dsimp only at u j
   subst u j;have d:∀L,EP X m N Q (.bool b) {s with toks:=L}:=λL=>⟨.bl b,H,I.tok _,rfl,q⟩;rcases ty with ty|⟨a,ys,rfl,sq,rfl⟩|⟨a,ys,rfl,sq,rfl⟩
   .cases ty with
    |non=>cases r1;exact Wd Za I.kIn T9 g e (λz=>nomatch z) d
    |bl y=>cases r1;exact Wd Y9 I.kIn T9 g e (λz=>nomatch z) d
    |int i=>obtain⟨t,rfl⟩:=r1;exact Wd Zq I.kIn T9 g e (λz=>nomatch z) d
    |str y=>obtain⟨t,rfl⟩:=r1;exact Wd Zs I.kIn T9 g e (λz=>nomatch z) d
    |@lst a xs ea=>
     cases r1;obtain⟨_,_,n,_,v⟩:=(show bD X.prog X.w H s.heap a (.lst xs)from I.hok a _ ea);exact Wd Xa I.kIn ⟨_,v,rfl⟩ g e (λz=>nomatch z) d
    |@frz a ob xs ea=>
     cases r1;obtain⟨_,_,_,n,_,v⟩:=(show bD X.prog X.w H s.heap a (.frz ob (.lst xs))from I.hok a _ ea);exact Wd Xa I.kIn ⟨_,v,rfl⟩ g e (λz=>nomatch z) d
    |@tup a xs ea=>
     cases r1;obtain⟨_,_,_,p⟩:=(show bD X.prog X.w H s.heap a (.tup xs)from I.hok a _ ea);obtain⟨o,v,Y,_⟩:=p;exact Wd YW I.kIn ⟨o,v,Y⟩ g e (λz=>nomatch z) d
    |@ins a C dx fs ea cl ha hn htk hm=>
     cases r1;obtain⟨mA,O,_⟩:=jX I.hok ea;obtain⟨T,J,_⟩:=O.look;exact Wd (Zr (cl.get _) cl.hd ha hn htk hm) I.kIn J g e (λz=>nomatch z) d
   .cases r1
    obtain⟨its,_,pl,_⟩:=I.list sq;obtain⟨o,l,hc,_⟩:=pl.isList;exact Wd Xa I.kIn ⟨o,l,hc⟩ g e (λz=>nomatch z) d
   .cases r1
    obtain⟨its,_,pl,_⟩:=I.tuple sq;obtain⟨o,l,hc,_⟩:=pl;exact Wd YW I.kIn ⟨o,l,hc⟩ g e (λz=>nomatch z) d
def sH:List D->Option D
 |[x,.tup [.ty a,.ty b]]=>(tyD x).bind λt=>(xX t a b).map D.bl
 |_=>Qh
theorem AN:dg K (zE K) sH:=λF H β Q ds d vs fr h e k=>by
 unfold sH at e;split at e
 .rename_i x a b
  cases q:tyD x with
  |none=>rw[q]at e;cases e
  |some t=>
   rw[q]at e;simp only[UN]at e;cases q2:xX t a b with
   |none=>rw[q2]at e;cases e
   |some c=>
    rw[q2]at e;cases e;obtain⟨v,w,rfl,g,i⟩:=bb.two h;obtain⟨p,xs,rfl,sq,j⟩:=cx.sqT i;obtain⟨y,z,rfl,l,m⟩:=bb.two j;cases l.ty;cases m.ty;exact⟨v,p,[a,b],_,c,rfl,sq,yP q g,Lh q2,k _ H (To.refl fr) rfl⟩
 .cases e
def v_(K:QR)(J:It)(F:Fx)(H:Hp)(ds:List D):Prop:=∀(h:Fx) (g:Hp) (β2:Bg),Tr F H h g->Fr h g β2->∀i,(∀d,ds[i]?=on d->J.go i g/\∀x j,J.yld i g x j->bE g j/\cx K h j d x)/\(i=ds.length->J.stop i g)
theorem v_.tr{K:QR}{F d:Fx}{H g:Hp}(t:Tr F H d g)(h:v_ K J F H ds):v_ K J d g ds:=λi j β3 l fr=>h i j β3 (t.trans l) fr
def iV(K:QR)(f:FL)(E:St->XK):TI:=λd H R=>∃F δ β,Fr F H β/\h8 K F H δ d/\run (λg (ds:List D) (J:It)=>v_ K J F g ds) F E d (f δ) H R β
theorem _root_.L2.PI.imp{X:Cx}{tg e:Expr}(h:PI X tg e t)(f:∀d H Q,t' d H Q->t d H Q):PI X tg e t':=λg s d H Q I q=>h g s d H Q I (f d H Q q)
variable{tg:Expr}
def iSeq(K:QR)(g:TE):TI:=λh H R=>g h H λx d=>(∃a,x= .ref a/\(∃xs,f0 K d a xs)/\R (Itl K a) d)\/(∃a,x= .ref a/\(∃xs,hO K d a xs)/\R (Itt K a) d)
theorem MG(t:PE X l tl):PI X tg l (iSeq X.K tl):=by
 intro g s u H R I h;refine en (t g s u H _ I h) λv d ⟨x,m,i,r1,q1⟩=>?_;have j:∀b∈[d.heap.objs.size],eS X g m b:=λb w=>by
  obtain rfl:b=d.heap.objs.size:=by simpa using w
  exact i.fpOk (Qz _) (i.hok.fresh (Qz _))
 rcases q1 with⟨a,e,⟨xs,r⟩,q⟩|⟨a,e,⟨xs,r⟩,q⟩
 .subst e
  cases r1;obtain⟨its,y,p,A⟩:=i.list r;exact We p.isList ⟨d.heap.objs.size,[d.heap.objs.size],_,_,m,rfl,i.kept (t':=d.toks) λb o e=>Qm _ e,qU a _,⟨_,QK _ rfl,rfl,rfl⟩,j,q⟩
 .subst e
  cases r1;obtain⟨its,y,p,A⟩:=i.tuple r;exact Xu (show d.heap.IsTuple a its.toArray from p) ⟨d.heap.objs.size,[d.heap.objs.size],_,_,m,rfl,i.kept (t':=d.toks) λb o e=>Qm _ e,w4 a _,⟨_,QK _ rfl,rfl,rfl⟩,j,q⟩
theorem EX{F:Fx}{H:Hp}{a:Qs}(h:cx K F H (.lst ds) (.ref a)):v_ K (Itl K a) F H ds:=λu v β2 t fr i=>by
 have o:=cx.tr t _ _ h;obtain⟨w,xs,e,sq,g⟩:=cx.sqL o;cases e;refine⟨λd hd=>?_,λq=>⟨xs,sq,by rw[<-g.length,q];exact Qz _⟩⟩;obtain⟨x,r,_⟩:=g.get hd;refine⟨⟨xs,x,sq,r⟩,λy A j=>?_⟩;obtain⟨rfl,j⟩:=j;obtain⟨d',m,l⟩:=g.getV (j xs sq);rw[hd]at m;cases m;exact⟨bE.refl _,l⟩
theorem Ll{F:Fx}{H:Hp}{a:Qs}(h:cx K F H (.tup ds) (.ref a)):v_ K (Itt K a) F H ds:=λu v β2 t fr i=>by
 have o:=cx.tr t _ _ h;obtain⟨w,xs,e,sq,g⟩:=cx.sqT o;cases e;refine⟨λd hd=>?_,λq=>⟨xs,sq,by rw[<-g.length,q];exact Qz _⟩⟩;obtain⟨x,r,_⟩:=g.get hd;refine⟨⟨xs,x,sq,r⟩,λy A j=>?_⟩;obtain⟨rfl,j⟩:=j;obtain⟨d',m,l⟩:=g.getV (j xs sq);rw[hd]at m;cases m;exact⟨bE.refl _,l⟩
def eP(f:FD):FL:=λδ=>M.bind (f δ) λd=>M.ofO (eY d)
theorem bt{f:FD}(j:PE X l (tV X.K f E)):PI X tg l (iV X.K (eP f) E):=
 (MG j).imp λq H R g=>li g λF δ β fr m h=>⟨F,δ,β,fr,m,(run.bind (R:=cx X.K F) h).mono λv i g=>by
  obtain⟨d,β1,t,hd,r1⟩:=g;obtain⟨ds,e,k⟩:=run.ofO r1;cases d<;>first
   |(cases e;obtain⟨a,xs,rfl,sq,o⟩:=cx.sqL hd;exact .inl ⟨a,rfl,⟨xs,sq⟩,k _ i (To.refl t.fr) (EX hd)⟩)
   |(cases e;obtain⟨a,xs,rfl,sq,o⟩:=cx.sqT hd;exact .inr ⟨a,rfl,⟨xs,sq⟩,k _ i (To.refl t.fr) (Ll hd)⟩)
   |cases e⟩
noncomputable def aU(lo:Int)(n:Nat):List D:=(Qy n).map λ(i:Nat)=> .int (lo+(i:Int))
theorem rp{F:Fx}{H:Hp}{lo:Int}{n:Nat}:v_ K (Itr lo n) F H (aU lo n):=λl m β2 t fr i=>by
 refine⟨λd hd=>?_,λg=>?_⟩
 .unfold aU at hd
  have g:i<n:=by
   have:=(QI.mp hd).1;simpa using this
  rw[Qu,R5 g]at hd;cases hd;exact⟨g,λx o ⟨h,j⟩=>by subst h j;exact⟨bE.refl _,rfl⟩⟩
 .show n<=i
  rw[g];simp[aU]
def ge:List D->Option (List D)
 |[.int j]=>if(decide (-(2^62)<=j)&&decide (j<2^62))=Qo then on (aU 0 j.toNat)else Qh
 |_=>Qh
def nS:List D->Option (List D)
 |[.int i,.int j]=>if(decide (-(2^62)<=i)&&decide (i<2^62)&&decide (-(2^62)<=j)&&decide (j<2^62))=Qo then on (aU i (j-i).toNat)else Qh
 |_=>Qh
def cY(op:List D->Option (List D))(g:FL):FL:=λδ=>M.bind (g δ) λas=>M.ofO (op as)
theorem cj{a:Expr}{p pos:Vm}(j:Gl X "range")(hm:X.mg "range"=Qh)(ha:PA X [a] (jm X.K g E))(hs:QH [a] X.env=[(Qr,RN a X.env)]:=by rfl):PI X tg (.Call (.Name "range" p) [a] [] pos) (iV X.K (cY ge g) E):=
 (zO j hm ha hs).imp λr H R d=>li d λF δ β fr m h=>⟨F,δ,β,fr,m,(run.bind (R:=bb X.K F) h).mono λvs o d=>by
  obtain⟨ds,β1,t,hd,r1⟩:=d;obtain⟨l,e,k⟩:=run.ofO r1;unfold ge at e;split at e
  .split at e
   .rename_i i
    cases e;simp only[Q9,Rm]at i;obtain⟨v,rfl,q⟩:=bb.one hd;cases q.int;exact⟨_,rfl,i.1,i.2,k _ o (To.refl t.fr) rp⟩
   .cases e
  .cases e⟩
theorem uU{a b:Expr}{p pos:Vm}(m:Gl X "range")(hm:X.mg "range"=Qh)(ha:PA X [a,b] (jm X.K g E))(hs:QH [a,b] X.env=[(Qr,RN a X.env),(Qr,RN b X.env)]:=by rfl)(i:QH [b] X.env=[(Qr,RN b X.env)]:=by rfl):PI X tg (.Call (.Name "range" p) [a,b] [] pos) (iV X.K (cY nS g) E):=
 (zN m hm ha hs i).imp λy H R j=>li j λF δ β fr o h=>⟨F,δ,β,fr,o,(run.bind (R:=bb X.K F) h).mono λvs q j=>by
  obtain⟨ds,β1,t,hd,r1⟩:=j;obtain⟨l,e,k⟩:=run.ofO r1;unfold nS at e;split at e
  .split at e
   .rename_i d
    cases e;simp only[Q9,Rm]at d;obtain⟨v,w,rfl,r,u⟩:=bb.two hd;cases r.int;cases u.int;exact⟨_,_,rfl,⟨d.1.1.1,d.1.1.2,d.1.2,d.2⟩,k _ q (To.refl t.fr) rp⟩
   .cases e
  .cases e⟩
abbrev m4:=D->Dn->Option Dn
abbrev jc:=List D->Dn->Option Dn
def c7(K:QR)(g:TG)(tg:m4):Prop:=∀(F:Fx) (H:Hp) (δ δ1:Dn) (i:St) (d:D) (v:V) (Q:St->Hp->Prop),h8 K F H δ i->cx K F H d v->tg d δ=on δ1->(∀h,h8 K F H δ1 h->Q h H)->g v i H Q
def p6(K:QR)(g:I0)(tg:jc):Prop:=∀(F:Fx) (H:Hp) (δ δ1:Dn) (h:St) (ds:List D) (vs:List V) (Q:St->Hp->Prop),h8 K F H δ h->bb K F H ds vs->tg ds δ=on δ1->(∀d,h8 K F H δ1 d->Q d H)->g vs h H Q
noncomputable def iv(i:Nat):m4:=λd δ=>if(δ.getD i (on .non)).isNone then on (δ.set i (on d))else Qh
noncomputable def kj:jc:=λds δ=>match ds with
 |[]=>on δ
 |_=>Qh
noncomputable def e8(t:m4)(u:jc):jc:=λds δ=>match ds with
 |[]=>Qh
 |d::r=>(t d δ).bind λδ1=>u r δ1
noncomputable def J_(t:jc):m4:=λd δ=>match d with
 | .tup ds=>t ds δ
 |_=>Qh
theorem tL{δ δ1:Dn}(h:iv i d δ=on δ1):δ[i]?=on Qh/\δ1=δ.set i (on d):=by
 unfold iv at h;split at h
 .rename_i q
  cases h;refine⟨?_,rfl⟩;rw[Qn]at q;cases e:δ[i]? with
  |none=>rw[e]at q;cases q
  |some z=>
   rw[e]at q;cases z with
   |none=>rfl
   |some w=>cases q
 .cases h
theorem ar:c7 K (dW i) (iv i):=λF H δ δ1 h d v Q g hd e k=>by
 obtain⟨_,rfl⟩:=tL e;exact k _ (g.set hd)
theorem dB:p6 K gNil kj:=λF H δ δ1 g ds vs Q d hd e k=>by
 cases ds with
 |nil=>cases e;exact⟨hd,k _ d⟩
 |cons _ _=>cases e
theorem bi(m:c7 K t tf)(o:p6 K u uf):p6 K (yd t u) (e8 tf uf):=λF H δ δ1 v ds vs Q w hd e k=>by
 cases ds with
 |nil=>cases e
 |cons d r=>
  obtain⟨x,l,rfl,y,A⟩:=hd;have h:(tf d δ).bind (λδ1=>uf r δ1)=on δ1:=e;cases q:tf d δ with
  |none=>rw[q]at h;cases h
  |some g=>
   rw[q]at h;exact⟨x,l,rfl,m F H δ g v d x _ w y q λi j=>o F H g δ1 i r l Q j A h k⟩
theorem d9{n:Nat}(h:p6 K t tf)(hn:∀ds δ δ1,tf ds δ=on δ1->ds.length=n):c7 K (FH K n t) (J_ tf):=λF H δ δ1 i d v Q j hd e k=>by
 cases d<;>first
  |(obtain⟨a,xs,rfl,sq,g⟩:=cx.sqT hd;exact⟨a,xs,rfl,sq,by rw[<-g.length];exact hn _ _ _ e,h F H δ δ1 i _ xs Q j g e k⟩)
  |cases e
theorem cw:∀ds δ δ1,kj ds δ=on δ1->ds.length=0:=λds δ δ1 h=>by
 cases ds with
 |nil=>rfl
 |cons _ _=>cases h
theorem aZ{n:Nat}(h:∀ds δ δ1,u ds δ=on δ1->ds.length=n):∀ds δ δ1,e8 t u ds δ=on δ1->ds.length=n+1:=λds δ δ1 e=>by
 cases ds with
 |nil=>cases e
 |cons d r=>
  have g:(t d δ).bind (λδ1=>u r δ1)=on δ1:=e;cases q:t d δ with
  |none=>rw[q]at g;cases g
  |some i=>rw[q]at g;rw[QP,h _ _ _ g]
def eD(tg:m4):Prop:=∀d δ δ1,tg d δ=on δ1->Sub δ δ1/\δ.length=δ1.length
def sS(tg:jc):Prop:=∀d δ δ1,tg d δ=on δ1->Sub δ δ1/\δ.length=δ1.length
theorem aA:eD (iv i):=λd δ δ1 e=>by
 obtain⟨q,rfl⟩:=tL e;refine⟨λj c g=>?_,by rw[Q3]⟩;rw[Ru];by_cases z:i=j
 .subst z;rw[q]at g;cases g
 .rw[Qp z];exact g
theorem dm:sS kj:=λds δ δ1 e=>by
 cases ds with
 |nil=>cases e;exact⟨λ_ _ h=>h,rfl⟩
 |cons _ _=>cases e
theorem bc(j:eD t)(l:sS u):sS (e8 t u):=λds δ δ1 e=>by
 cases ds with
 |nil=>cases e
 |cons d r=>
  have g:(t d δ).bind (λδ1=>u r δ1)=on δ1:=e;cases q:t d δ with
  |none=>rw[q]at g;cases g
  |some m=>
   rw[q]at g;obtain⟨a1,a2⟩:=j _ _ _ q;obtain⟨b1,b2⟩:=l _ _ _ g;exact⟨λi c h=>b1 i c (a1 i c h),a2.trans b2⟩
theorem dZ(h:sS t):eD (J_ t):=λd δ δ1 e=>by
 cases d<;>first|exact h _ _ _ e|cases e
structure l9 (F:Fx) (D:Qs) (H H':Hp) (β':Bg):Prop where
 kp:∀a o,H a=on o->a≠D->(∀b l,F.bg=on (b,l)->a≠b/\a≠l)->H' a=on o
 fr:Fr F H' β'
theorem l9.trans{F:Fx}{D:Qs}{H d g:Hp}(a:l9 F D H d β1)(b:l9 F D d g β2):l9 F D H g β2:=⟨λx o h n m=>b.kp x o (a.kp x o h n m) n m,b.fr⟩
theorem To.toD{F:Fx}{H d:Hp}(t:To F H d β')(D:Qs):l9 F D H d β':=⟨λa o h _ m=>t.kp a o h m,t.fr⟩
theorem l9.tr{F:Fx}{D:Qs}{H d:Hp}(fr:Fr F H β)(g:F.A D)(t:l9 F D H d β'):Tr F H F d:=
 ⟨λ_ h _=>h,λa o h e=>t.kp a o e (λz=>h (z▸g)) λb l q=>⟨λz=>h (z▸(fr.bgA b l q).1),λz=>h (z▸(fr.bgA b l q).2.1)⟩,rfl⟩
structure AR where
 R:Fx->Hp->Qs->List Pu.D->Prop
 Z:List Pu.D->Prop
 tr:∀{F F2:Fx} {H H':Hp} {D:Qs} {as:List Pu.D},R F H D as->(∀o,H D=on o->H' D=on o)->Tr F H F2 H'->R F2 H' D as
 zp:∀{as os:List Pu.D},Z (as++os)->Z as
noncomputable def RL(K:QR):AR where
 R:=λF H D as=>∃acc,H D=on (.lst acc)/\bb K F H as acc
 Z:=λl=>l.length<=QN
 tr:=λh k t=>by
  obtain⟨acc,d,g⟩:=h;exact⟨acc,k _ d,bb.tr t _ _ g⟩
 zp:=λh=>by rw[QV]at h;omega
def eE(K:QR)(R:AR)(D:Qs)(j:TB)(f:Dn->M (List Pu.D)):Prop:=∀(F:Fx) (H:Hp) (δ:Dn) (β d:Bg) (i:St) (as os:List Pu.D) (Q:St->Hp->Prop),Fr F H β->F.A D->(∀b l,F.bg=on (b,l)->D≠b/\D≠l)->h8 K F H δ i->R.R F H D as->
 f δ β=on (.ok os,d)->R.Z (as++os)->(∀g h,l9 F D H h d->h8 K F h δ g->R.R F h D (as++os)->Q g h)->j i H Q
abbrev m6(K:QR):=eE K (RL K)
def nj(f:Dn->M Pu.D):Dn->M (List Pu.D):=λδ=>M.bind (f δ) λd=>M.ret [d]
theorem M.bind_inv{α g:Type}{m:M α}{k:α->M g}{β d:Bg}{r:g}(h:M.bind m k β=on (.ok r,d)):∃a β1,m β=on (.ok a,β1)/\k a β1=on (.ok r,d):=by
 unfold M.bind at h;split at h
 .cases h
 .cases h
 .rename_i a β1 e
  exact⟨a,β1,e,h⟩
theorem E0.run{α i:Type}{R:Hp->α->i->Prop}{F:Fx}{j:St}{m:M α}{H:Hp}{Q:i->Hp->Prop}{β d:Bg}{a:α}(e:m β=on (.ok a,d))(h:∀v g,To F H g d->R g a v->Q v g):run R F E0 j m H Q β:=⟨.ok a,d,e,h⟩
theorem aX{D:Qs}{f:Dn->M Pu.D}:m6 K D (yy D (tV K f E0)) (nj f):=λF H δ β g w as os Q fr y i m A e B k=>by
 obtain⟨acc,C,hd⟩:=A;obtain⟨d,β1,I,J⟩:=M.bind_inv e;cases J;refine⟨F,δ,β,fr,m,E0.run I λv r t L=>?_⟩;have j:=t.kp D _ C i;have N:=bb.tr (t.tr fr) _ _ hd;refine⟨acc,j,by rw[<-hd.length];have:=(show(as++[d]).length<=QN from B);simp at this;omega,?_⟩;have u:l9 F D r (upd r D (.lst (acc++[v]))) g:=by
  refine⟨λa o h n _=>by rw[b_ n];exact h,λa h q=>?_,fr.bgA,λb l q=>?_⟩
  .by_cases z:a=D
   .subst z;rw[ah]at q;cases q
   .rw[b_ z]at q;exact t.fr.occ a h q
  .rw[b_ (i b l q).1.symm,b_ (i b l q).2.symm]
   exact t.fr.bag b l q
 have tt:=u.tr t.fr y;exact k w _ ((t.toD D).trans u) (m.tr ((t.tr fr).trans tt)) ⟨_,ah,bb.append (bb.tr tt _ _ N) ⟨v,[],rfl,cx.tr tt _ _ L,rfl⟩⟩
def o0(tg:m4)(tt:Dn->M Bool)(b:Dn->M (List Pu.D)):List Pu.D->Dn->M (List Pu.D)
 |[],_=>M.ret []
 |d::ds,δ=>match tg d δ with
  |none=>M.fail
  |some δ1=>M.bind (tt δ1) λc=>M.bind (if c=Qo then b δ1 else M.ret []) λo=>M.bind (o0 tg tt b ds δ) λos=>M.ret (o++os)
theorem qy{R:AR}{D:Qs}{tg:m4}{b:Dn->M (List Pu.D)}(hg:c7 K g tg)(sg:eD tg)(hb:eE K R D tb b){F:Fx}{H:Hp}{as os ds:List Pu.D}(fr:Fr F H β)(hA:F.A D)(hn:∀b l,F.bg=on (b,l)->D≠b/\D≠l)(vk:h8 K F H δ σ)(hR:R.R F H D as)
  (it:v_ K J F H ds) (e:o0 tg tt b ds δ β=on (.ok os,β')) (hz:R.Z (as++os)) (k:∀j t,l9 F D H t β'->h8 K F t δ j->R.R F t D (as++os)->Q j t):c5 J g (hY K tt E0) tb σ H Q:=by
 refine⟨λi m j t=>m+i=ds.length/\∃β1 r v,l9 F D H t β1/\h8 K F t δ j/\R.R F t D r/\o0 tg tt b (ds.drop i) δ β1=on (.ok v,β')/\r++v=as++os,
  ⟨ds.length,by omega,β,as,os,⟨λ_ _ h _ _=>h,fr⟩,vk,hR,e,rfl⟩,?_⟩
 rintro i m j t ⟨hm,β1,r,v,B,C,I,u,ea⟩;have tr1:=B.tr fr hA;obtain⟨iy,is⟩:=it F t β1 tr1 B.fr i;cases T:ds[i]? with
 |none=>
  have U:ds.length<=i:=VC.mp T;rw[SL U]at u;cases u;refine .inl ⟨is (by omega),k j t B C ?_⟩;rw[<-ea,RJ];exact I
 |some d=>
  have U:i<ds.length:=(QI.mp T).1;obtain⟨go,yl⟩:=iy d T;have ed:ds.drop i=d::ds.drop (i+1):=by
   rw[Su U];congr 1;exact Q7 ((Ql U).symm.trans T)
  rw[ed]at u;unfold o0 at u;cases q:tg d δ with
  |none=>rw[q]at u;cases u
  |some δ1=>
   rw[q]at u;obtain⟨c,β2,e2,e3⟩:=M.bind_inv u;obtain⟨o,β3,W,e5⟩:=M.bind_inv e3;obtain⟨os2,β4,e6,e7⟩:=M.bind_inv e5;cases e7;obtain⟨s1,s2⟩:=sg _ _ _ q;refine .inr ⟨go,λL Y=>l9 F D H Y β3/\h8 K F Y δ L/\R.R F Y D (r++o),?_,λx H2 hy=>?_⟩
   .rintro L Y ⟨t9,vk9,hR9⟩
    exact⟨m-1,by omega,by omega,β3,r++o,os2,t9,vk9,hR9,e6,by rw[Sa];exact ea⟩
   .obtain⟨sm,dx⟩:=yl x H2 hy
    have t2:To F t H2 β1:=B.fr.same sm;have N:=t2.tr B.fr;refine hg F H2 δ δ1 j d x _ (C.tr N) dx q λσ2 w=>⟨F,δ1,β1,t2.fr,w,E0.run e2 λc' H3 t3 ec=>?_⟩;subst ec;have y:=t3.tr t2.fr;have O:=R.tr I (λo z=>t3.kp D o (sm _ _ z) hn) (N.trans y);have P:l9 F D H H3 β2:=B.trans ((t2.trans t3).toD D);have hle:R.Z (r++o):=by
     rw[<-ea,<-Sa]at hz;exact R.zp hz
    cases c' with
    |true=>
     rw[Qt rfl]at W⊢;refine hb F H3 δ1 β2 β3 σ2 r o _ t3.fr hA hn (w.tr y) O W hle λσ4 H4 t4 vk4 hR4=>?_;exact⟨P.trans t4,vk4.sub s1 s2,hR4⟩
    |false=>
     rw[Qp Qx]at W⊢;cases W;exact⟨P,(w.tr y).sub s1 s2,by rw[RJ];exact O⟩
def cNx(it:Dn->M (List Pu.D))(tg:m4)(tt:Dn->M Bool)(b:Dn->M (List Pu.D)):Dn->M (List Pu.D):=λδ=>M.bind (it δ) λds=>o0 tg tt b ds δ
theorem nX{D:Qs}{tg:m4}{b:Dn->M (List Pu.D)}(j:c7 K g tg)(l:eD tg)(m:eE K R D tb b):eE K R D (yx (iV K it E0) λJ=>c5 J g (hY K tt E0) tb) (cNx it tg tt b):=λF H δ β q C as os Q fr r hn h u e v k=>by
 obtain⟨ds,β1,w,y⟩:=M.bind_inv e;refine⟨F,δ,β,fr,h,E0.run w λJ i t A=>?_⟩;exact qy j l m t.fr r hn (h.tr (t.tr fr)) (R.tr u (λo z=>t.kp D o z hn) (t.tr fr)) A y v λd i B=>k d i ((t.toD D).trans B)
theorem Lg{D:Qs}{tg:m4}{b:Dn->M (List Pu.D)}(d:c7 K g tg)(h:eD tg)(i:m6 K D tb b):m6 K D (yx (iV K it E0) λJ=>c5 J g (hY K tt E0) tb) (cNx it tg tt b):=nX d h i
noncomputable def l0(nv:Nat)(c_:List Nat)(δ:Dn):Dn:=QE nv Qh++c_.map λj=>δ.getD j Qh
def cK(nv:Nat)(c_:List Nat)(it:Dn->M (List Pu.D))(tg:m4)(tt:Dn->M Bool)(b:Dn->M (List Pu.D)):Dn->M Pu.D:=λδ β=>match it δ β with
 |none=>Qh
 |some (.error C,β1)=>on (.error C,β1)
 |some (.ok ds,β1)=>match o0 tg tt b ds (l0 nv c_ δ) β1 with
  |some (.ok os,β2)=>if os.length<=QN then on (.ok (.lst os),β2)else Qh
  |_=>Qh
theorem vi{F:Fx}{H:Hp}{dr:List Rl}(h:h8 K F H δ σ):h8 K F H (l0 dr.length c_ δ) (j5 dr c_ σ):=by
 refine⟨by simp[l0,j5],λi d e=>?_⟩;unfold l0 at e;unfold j5;rw[Wx]at e⊢;rw[Sy]at e⊢;by_cases g:i<dr.length
 .rw[Qt g,SI,Qt g]at e
  cases e
 .rw[Qp g,Qu]at e⊢
  cases q:c_[i-dr.length]? with
  |none=>rw[q]at e;cases e
  |some j=>
   rw[q]at e;simp only[Sh,Yk]at e⊢;rw[Qn]at e;cases z:δ[j]? with
   |none=>rw[z]at e;cases e
   |some w=>
    rw[z]at e;have l:w=on d:=e;subst l;obtain⟨v,m,o⟩:=h.tell j d z;exact⟨v,by rw[Qn,m];rfl,o⟩
theorem tM{dr:List Rl}{c_:List Nat}{it:Dn->M (List Pu.D)}{g:TG}{tg:m4}{tt:Dn->M Bool}{P:Qs->TB}{b:Dn->M (List Pu.D)}(Z:c7 K g tg)(sg:eD tg)(hb:∀D,m6 K D (P D) b){T:St}{H:Hp}{Q:VK}(h:tV K (cK dr.length c_ it tg tt b) E T H Q):
  su dr c_ (iV K it E) (λD J=>c5 J g (hY K tt E0) (P D)) T H Q:=by
 obtain⟨F,δ,β,fr,U,r,v,e,h⟩:=h;unfold cK at e;refine⟨F,δ,β,fr,U,?_⟩;split at e
 .cases e
 .rename_i C β1 q
  cases e;exact⟨.error C,_,q,h⟩
 .rename_i ds β1 q
  split at e
  .rename_i os β2 q2
   split at e
   .rename_i hz
    cases e;refine⟨.ok ds,β1,q,λJ u t hJ D i=>?_⟩;have d:¬F.A D:=t.fr.fresh i;have nb:∀b l,F.bg=on (b,l)->D≠b/\D≠l:=λb l z=>⟨λw=>d (w▸(fr.bgA b l z).1),λw=>d (w▸(fr.bgA b l z).2.1)⟩;have W:=t.fr.upd (.lst []) i;have B:Fr ⟨λa=>F.A a\/a=D,F.bg⟩ (upd u D (.lst [])) β1:=by
     refine⟨λa ha z=>?_,λb l z=>let ⟨x,y,w⟩:=fr.bgA b l z;⟨.inl x,.inl y,w⟩,W.fr.bag⟩
     rcases ha with ha|ha
     .exact W.fr.occ a ha z
     .subst ha;rw[ah]at z;cases z
    have j:Tr F u ⟨λa=>F.A a\/a=D,F.bg⟩ (upd u D (.lst [])):=⟨λa ha hs z=>by
     rcases z with z|z
     .exact ha z
     .subst z;exact hs i,λa o ha z=>by rw[b_ (ay z i)];exact z,rfl⟩
    refine qy (R:=RL K) (D:=D) (as:=[]) (os:=os) Z sg (hb D) B (.inr rfl) nb (vi (U.tr ((t.tr fr).trans j))) ⟨[],ah,rfl⟩ (hJ.tr j) q2 (show os.length<=QN from hz) λσ1 Y I vk3 L=>?_;obtain⟨m,N,O⟩:=L;have tf:To F u Y v:=by
     refine⟨λa o z n=>I.kp a o (by rw[b_ (ay z i)];exact z) (ay z i) n,λa ha z=>I.fr.occ a (S5 ha) z,fr.bgA,I.fr.bag⟩
    refine h _ Y (t.trans tf) ⟨D,m,rfl,⟨d,.inl N⟩,bb.tr (F:=⟨λa=>F.A a\/a=D,F.bg⟩) ⟨λa ha _ z=>ha (S5 z),λa o _ z=>z,rfl⟩ _ _ O⟩
   .cases e
  .cases e
inductive Sl where
 |sh (d:D)|own (ds:List D)|grd (a_:List (List D))|odc (b:Bool) (ks:List fh) (vs:List D)
abbrev Ds:=List (Option Sl)
inductive p_ where
 |nx (δ:Ds)|rt (d:D)|bk (δ:Ds)|ct (δ:Ds)|ex (C:Qs) (δ:Ds)|rg (a_:List (List D))
abbrev G:=Ds->Bg->Option (p_×Bg)
abbrev Ow:=Qs->Option Nat
noncomputable def et(B:Ow)(bg:Option (Qs×Qs)):Fx:=⟨λa=>B a≠Qh,bg⟩
noncomputable def o_(B:Ow)(bg:Option (Qs×Qs)):Fx:=⟨λa=>B a=on 0\/B a=on 1,bg⟩
def d4(K:QR)(F:Fx)(H:Hp)(P:Qs->Prop):List (List D)->List Qs->Prop
 |[],[]=>True
 |ds::a_,r::rs=>P r/\(∃xs,H r=on (.lst xs)/\bb K F H ds xs)/\d4 K F H P a_ rs
 |_,_=>False
theorem d4.tr{K:QR}{F i:Fx}{H d:Hp}(t:Tr F H i d):∀{a_:List (List D)} {rs:List Qs},d4 K F H P a_ rs->(∀r xs,r∈rs->P r->H r=on (.lst xs)->P2 r/\d r=on (.lst xs))->d4 K i d P2 a_ rs
 |[],[],_,_=>trivial
 |ds::a_,r::rs,h,f=>by
  obtain⟨j,⟨xs,l,m⟩,o⟩:=h;obtain⟨p,q⟩:=f r xs Qq j l;exact⟨p,⟨xs,q,bb.tr t _ _ m⟩,d4.tr t o λu g v=>f u g (Qk _ v)⟩
 |[],_::_,h,_=>h.elim
 |_::_,[],h,_=>h.elim
theorem d4.all{K:QR}{F:Fx}{H:Hp}:∀{a_:List (List D)} {rs:List Qs},d4 K F H P a_ rs->∀r∈rs,P r/\∃xs,H r=on (.lst xs)
 |[],[],_,r,hr=>by cases hr
 |ds::a_,r0::rs,h,r,hr=>by
  obtain⟨d,⟨xs,g,j⟩,i⟩:=h;rcases QD.mp hr with rfl|hr
  .exact⟨d,xs,g⟩
  .exact d4.all i r hr
 |[],_::_,h,_,_=>h.elim
 |_::_,[],h,_,_=>h.elim
theorem d4.den{K:QR}{F d:Fx}{H:Hp}(t:Tr F H d H):∀{a_:List (List D)} {rs:List Qs},d4 K F H P a_ rs->(∀r,r∈rs->P r->¬d.A r)->bb K d H (a_.map D.lst) (rs.map V.ref)
 |[],[],_,_=>rfl
 |ds::a_,r::rs,h,f=>by
  obtain⟨g,⟨xs,i,j⟩,l⟩:=h;exact bb.cons ⟨r,xs,rfl,⟨f r Qq g,.inl i⟩,bb.tr t _ _ j⟩ (d4.den t l λm o=>f m (Qk _ o))
 |[],_::_,h,_=>h.elim
 |_::_,[],h,_=>h.elim
theorem d4.len{K:QR}{F:Fx}{H:Hp}:∀{a_:List (List D)} {rs:List Qs},d4 K F H P a_ rs->a_.length=rs.length
 |[],[],_=>rfl
 |ds::a_,r::rs,h=>by simp[d4.len h.2.2]
 |[],_::_,h=>h.elim
 |_::_,[],h=>h.elim
def gX(K:QR)(F:Fx)(H0 H:Hp)(a_:List (List D))(v:V):Prop:=∃a rs,v= .ref a/\H0 a=Qh/\H a=on (.lst (rs.map V.ref))/\(a::rs).Nodup/\d4 K F H (λr=>H0 r=Qh) a_ rs
def ODc(K:QR)(F:Fx)(H:Hp)(a:Qs)(b:Bool)(ks:List fh)(vs:List D):Prop:=∃ep xs,H a=on (bu a b ep xs)/\ks=xs.map (·.1)/\(∀x∈xs,eQ K F H b x.1 x.2.1)/\bb K F H vs (xs.map (·.2.2))
theorem ODc.tr{K:QR}{F g:Fx}{H d:Hp}{a:Qs}{b:Bool}(t:Tr F H g d)(h:ODc K F H a b ks vs)(k:∀o,H a=on o->d a=on o):ODc K g d a b ks vs:=by
 obtain⟨ep,xs,i,j,l,m⟩:=h;exact⟨ep,xs,k _ i,j,λx q=>(l x q).tr t,bb.tr t _ _ m⟩
theorem ODc.ne{K:QR}{F:Fx}{H:Hp}{a:Qs}{b:Bool}(h:ODc K F H a b ks vs):H a≠Qh:=by
 obtain⟨ep,xs,d,_⟩:=h;rw[d];simp
def D1(H:Hp)(a:Qs):Prop:=(∃xs,H a=on (.lst xs))\/∃d,H a=on (.ext d)
theorem D1.imp{H d:Hp}{a:Qs}(h:D1 H a)(k:∀o,H a=on o->d a=on o):D1 d a:=Or.imp (λ⟨xs,z⟩=>⟨xs,k _ z⟩) (λ⟨g,z⟩=>⟨g,k _ z⟩) h
def IF(K:QR)(B:Ow)(bg:Option (Qs×Qs))(H:Hp)(i:Nat):Sl->V->Prop
 | .sh d,v=>cx K (et B bg) H d v
 | .own ds,v=>∃a xs,v= .ref a/\B a=on (i+2)/\H a=on (.lst xs)/\bb K (et B bg) H ds xs
 | .grd a_,v=>∃a rs,v= .ref a/\B a=on (i+2)/\H a=on (.lst (rs.map V.ref))/\(a::rs).Nodup/\d4 K (et B bg) H (λr=>B r=on (i+2)) a_ rs
 | .odc b ks vs,v=>∃a,v= .ref a/\B a=on (i+2)/\ODc K (et B bg) H a b ks vs
structure f_ (K:QR) (H₀:Hp) (B:Ow) (bg:Option (Qs×Qs)) (H:Hp) (δ:Ds) (β:Bg) (σ:St):Prop where
 fr:Fr (et B bg) H β
 bgt:∀b l,bg=on (b,l)->B b=on 1/\B l=on 1
 len:δ.length=σ.length
 cov:∀a,H₀ a≠Qh->H a≠Qh
 new:∀a k,B a=on (k+2)->H₀ a=Qh
 lst:∀a k,B a=on (k+2)->D1 H a
 tell:∀(i:Nat) (s:Sl),δ[i]?=on (on s)->∃v,σ[i]?=on (on v)/\IF K B bg H i s v
structure g0 (B:Ow) (H:Hp) (B':Ow) (H':Hp):Prop where
 kp:∀a o,H a=on o->(B a=Qh\/B a=on 0)->H' a=on o
 tg:∀a,B a=on 0\/B a=on 1->B' a=B a
 nn:∀a o,H a=on o->B a=Qh->B' a=Qh
 al:∀a,H a≠Qh->H' a≠Qh
theorem g0.refl(B:Ow)(H:Hp):g0 B H B H:=⟨λ_ _ h _=>h,λ_ _=>rfl,λ_ _ _ h=>h,λ_ h=>h⟩
theorem g0.trans{H d g:Hp}(a:g0 B H B1 d)(b:g0 B1 d B2 g):g0 B H B2 g:=by
 refine⟨λx o h n=>b.kp x o (a.kp x o h n) ?_,λx h=>?_,λx o h n=>b.nn x o (a.kp x o h (.inl n)) (a.nn x o h n),λx h=>b.al x (a.al x h)⟩
 .rcases n with n|n
  .exact .inl (a.nn x o h n)
  .exact .inr ((a.tg x (.inl n)).trans n)
 .have e:=a.tg x h
  rw[<-e]at h;exact(b.tg x h).trans e
def gz(K:QR)(H₀:Hp)(bg:Option (Qs×Qs))(E:St->XK)(Dn:nC)(B:Ow)(H:Hp)(o:p_)(j:Bg):Prop:=match o with
 | .nx δ'=>∀h i g,g0 B H i g->f_ K H₀ i bg g δ' j h->Dn.nx h g
 | .bk δ'=>∀h i g,g0 B H i g->f_ K H₀ i bg g δ' j h->Dn.bk h g
 | .ct δ'=>∀h i g,g0 B H i g->f_ K H₀ i bg g δ' j h->Dn.ct h g
 | .rt d=>∀v i g,g0 B H i g->Fr (et i bg) g j->cx K (et i bg) g d v->Dn.rt v g
 | .rg a_=>∀v i g,g0 B H i g->Fr (et i bg) g j->gX K (et i bg) H₀ g a_ v->Dn.rt v g
 | .ex C δ'=>∀h i g,g0 B H i g->f_ K H₀ i bg g δ' j h->E h (.ref C) Qh g
theorem gz.pre{K:QR}{E:St->XK}{Dn:nC}{H l:Hp}(s:g0 B H B1 l)(h:gz K H₀ bg E Dn B H o β'):gz K H₀ bg E Dn B1 l o β':=by
 cases o with
 |nx δ=>exact λg i j t=>h g i j (s.trans t)
 |bk δ=>exact λg i j t=>h g i j (s.trans t)
 |ct δ=>exact λg i j t=>h g i j (s.trans t)
 |rt d=>exact λv i j t=>h v i j (s.trans t)
 |rg d=>exact λv i j t=>h v i j (s.trans t)
 |ex C δ=>exact λg i j t=>h g i j (s.trans t)
def tG(K:QR)(H₀:Hp)(g:G)(E:St->XK):TS:=λDn h H=>∃B bg δ β o d,f_ K H₀ B bg H δ β h/\g δ β=on (o,d)/\gz K H₀ bg E Dn B H o d
theorem _root_.L2.PS.imp{X:Cx}{e:RT}(h:PS X e t)(f:∀D d H,t' D d H->t D d H):PS X e t':=λg s d H D I q=>h g s d H D I (f D d H q)
theorem _root_.L2.PSs.imp{X:Cx}{e:List RT}(h:PSs X e t)(f:∀D d H,t' D d H->t D d H):PSs X e t':=λg s d H D I q=>h g s d H D I (f D d H q)
noncomputable def vw(δ:Ds):Dn:=δ.map λs=>match s with
 |some (.sh d)=>on d
 |_=>Qh
noncomputable def hW(δ:Ds):Dn:=δ.map λs=>match s with
 |some (.sh d)=>on d
 |some (.own ds)=>on (.lst ds)
 |some (.grd a_)=>on (.lst (a_.map D.lst))
 |some (.odc b ks vs)=>on (.dct b ks vs)
 |none=>Qh
variable{H₀:Hp}{B:Ow}{bg:Option (Qs×Qs)}{H':Hp}{δ:Ds}{β β':Bg}{σ:St}
theorem OO{i:Nat}{d:D}(e:(vw δ)[i]?=on (on d)):δ[i]?=on (on (.sh d)):=by
 unfold vw at e;rw[Qu]at e;cases q:δ[i]? with
 |none=>rw[q]at e;cases e
 |some z=>
  rw[q]at e;cases z with
  |none=>cases e
  |some s=>
   cases s with
   |sh c=>cases e;rfl
   |own ds=>cases e
   |grd a_=>cases e
   |odc b ks vs=>cases e
theorem f_.view(h:f_ K H₀ B bg H δ β σ):h8 K (et B bg) H (vw δ) σ:=⟨by unfold vw;rw[Qi,h.len],λi d e=>h.tell i _ (OO e)⟩
theorem trA:Tr (et B bg) H (o_ B bg) H:=⟨λa h _ z=>by
 have h':¬(B a≠Qh):=h;rcases z with z|z
 .exact h' (by rw[z];simp)
 .exact h' (by rw[z];simp),λ_ _ _ h=>h,rfl⟩
theorem f_.frA(h:f_ K H₀ B bg H δ β σ):Fr (o_ B bg) H β:=⟨λa ha=>h.fr.occ a (by
 show B a≠Qh;rcases ha with z|z<;>rw[z]<;>simp),λb l e=>⟨.inr (h.bgt b l e).1,.inr (h.bgt b l e).2,(h.fr.bgA b l e).2.2⟩,h.fr.bag⟩
theorem f_.viewA(h:f_ K H₀ B bg H δ β σ):h8 K (o_ B bg) H (hW δ) σ:=by
 refine⟨by unfold hW;rw[Qi,h.len],λi d e=>?_⟩;unfold hW at e;rw[Qu]at e;cases q:δ[i]? with
 |none=>rw[q]at e;cases e
 |some z=>
  rw[q]at e;cases z with
  |none=>cases e
  |some s=>
   obtain⟨v,m,o⟩:=h.tell i s q;cases s with
   |sh c=>cases e;exact⟨v,m,cx.tr trA _ _ o⟩
   |own ds=>
    cases e;obtain⟨a,xs,g,j,l,t⟩:=o;refine⟨v,m,a,xs,g,⟨λz=>?_,.inl l⟩,bb.tr trA _ _ t⟩;have z':B a=on 0\/B a=on 1:=z;rw[j]at z';rcases z' with z'|z'<;>cases z'
   |grd a_=>
    cases e;obtain⟨a,rs,g,j,l,t,u⟩:=o;have w:∀c,B c=on (i+2)->¬(o_ B bg).A c:=λc hc z=>by
     have z':B c=on 0\/B c=on 1:=z;rw[hc]at z';rcases z' with z'|z'<;>cases z'
    exact⟨v,m,a,_,g,⟨w a j,.inl l⟩,d4.den trA u λr _ y=>w r y⟩
   |odc b ks vs=>
    cases e;obtain⟨a,g,j,ep,xs,l,t,u,C⟩:=o;refine⟨v,m,?_⟩;unfold cx;refine⟨a,ep,xs,g,⟨λz=>?_,l⟩,t,λx I=>(u x I).tr trA,bb.tr trA _ _ C⟩;have z':B a=on 0\/B a=on 1:=z;rw[j]at z';rcases z' with z'|z'<;>cases z'
theorem f_.to{F:Fx}(h:f_ K H₀ B bg H δ β σ)(hF:F.bg=bg)(t:To F H H' β'):f_ K H₀ B bg H' δ β' σ/\g0 B H B H':=by
 have I:∀a,B a≠on 1->∀b l,F.bg=on (b,l)->a≠b/\a≠l:=λa ha b l e=>by
  rw[hF]at e;exact⟨λz=>ha (z▸(h.bgt b l e).1),λz=>ha (z▸(h.bgt b l e).2)⟩
 have kp:∀a o,H a=on o->B a≠on 1->H' a=on o:=λa o e n=>t.kp a o e (I a n);have fr:Fr (et B bg) H' β':=⟨λa ha z=>(by
  by_cases J:B a=on 1
  .by_cases g:∃b l,bg=on (b,l)/\(a=b\/a=l)
   .obtain⟨b,l,e,q⟩:=g
    obtain⟨y,A⟩:=t.fr.bag b l (hF.trans e);rcases q with rfl|rfl
    .rw[y]at z;cases z
    .rw[A]at z;cases z
   .cases q:H a with
    |none=>exact h.fr.occ a ha q
    |some o=>
     rw[t.kp a o q λb l e=>⟨λw=>g ⟨b,l,hF.symm.trans e,.inl w⟩,λw=>g ⟨b,l,hF.symm.trans e,.inr w⟩⟩]at z;cases z
  .cases q:H a with
   |none=>exact h.fr.occ a ha q
   |some o=>rw[kp a o q J]at z;cases z),h.fr.bgA,λb l e=>t.fr.bag b l (hF.trans e)⟩
 have tr:Tr (et B bg) H (et B bg) H':=⟨λ_ n _=>n,λa o n e=>kp a o e (λz=>n (by show B a≠Qh;rw[z];simp)),rfl⟩;have al:∀a,H a≠Qh->H' a≠Qh:=λa ha z=>by
  by_cases g:∃b l,bg=on (b,l)/\(a=b\/a=l)
  .obtain⟨b,l,e,q⟩:=g
   obtain⟨y,A⟩:=t.fr.bag b l (hF.trans e);rcases q with rfl|rfl
   .rw[y]at z;cases z
   .rw[A]at z;cases z
  .cases q:H a with
   |none=>exact ha q
   |some o=>
    rw[t.kp a o q λb l e=>⟨λw=>g ⟨b,l,hF.symm.trans e,.inl w⟩,λw=>g ⟨b,l,hF.symm.trans e,.inr w⟩⟩]at z;cases z
 refine⟨⟨fr,h.bgt,h.len,λa ha=>al a (h.cov a ha),h.new,λc k hc=>(h.lst c k hc).imp λo z=>kp c o z (by rw[hc];intro z;cases z),λi s e=>?_⟩,λa o e n=>kp a o e (by rcases n with n|n<;>rw[n]<;>simp),λ_ _=>rfl,λ_ _ _ n=>n,al⟩
 obtain⟨v,L,u⟩:=h.tell i s e;refine⟨v,L,?_⟩;cases s with
 |sh c=>exact cx.tr tr _ _ u
 |own ds=>
  obtain⟨a,xs,j,d,m,C⟩:=u;exact⟨a,xs,j,d,kp a _ m (by rw[d];intro z;cases z),bb.tr tr _ _ C⟩
 |grd a_=>
  obtain⟨a,rs,j,d,m,C,N⟩:=u;exact⟨a,rs,j,d,kp a _ m (by rw[d];intro z;cases z),C,d4.tr tr N λr xs _ p q=>⟨p,kp r _ q (by rw[p];intro z;cases z)⟩⟩
 |odc b ks vs=>
  obtain⟨a,j,d,m⟩:=u;exact⟨a,j,d,m.tr tr λo z=>kp a o z (by rw[d];intro z;cases z)⟩
theorem f_.set(h:f_ K H₀ B bg H δ β σ)(hd:cx K (et B bg) H d v):f_ K H₀ B bg H (δ.set i (on (.sh d))) β (σ.set i (on v)):=by
 refine⟨h.fr,h.bgt,by rw[Q3,Q3,h.len],h.cov,h.new,h.lst,λj c e=>?_⟩;rw[Ru]at e;rw[Ru];by_cases q:i=j
 .subst q
  rw[Qt rfl]at e⊢;split at e
  .rename_i g
   cases e;rw[Qt (by rw[<-h.len];exact g)];exact⟨v,rfl,hd⟩
  .cases e
 .rw[Qp q]at e⊢
  exact h.tell j c e
noncomputable def gNil:G:=λδ β=>on (.nx δ,β)
noncomputable def aG(g h:G):G:=λδ β=>match g δ β with
 |some (.nx δ1,β1)=>h δ1 β1
 |r=>r
def fV(i:Nat)(f:FD):G:=λδ β=>match f (vw δ) β with
 |some (.ok d,β1)=>on (.nx (δ.set i (on (.sh d))),β1)
 |some (.error C,β1)=>on (.ex C δ,β1)
 |none=>Qh
noncomputable def pJ(f:FD):G:=λδ β=>match f (hW δ) β with
 |some (.ok _,β1)=>on (.nx δ,β1)
 |some (.error C,β1)=>on (.ex C δ,β1)
 |none=>Qh
noncomputable def jE(f:FD):G:=λδ β=>match f (hW δ) β with
 |some (.ok d,β1)=>on (.rt d,β1)
 |some (.error C,β1)=>on (.ex C δ,β1)
 |none=>Qh
noncomputable def ss(t:Dn->M Bool)(g h:G):G:=λδ β=>match t (hW δ) β with
 |some (.ok Qo,β1)=>g δ β1
 |some (.ok Qr,β1)=>h δ β1
 |some (.error C,β1)=>on (.ex C δ,β1)
 |none=>Qh
variable{st:RT}{sts:List RT}
theorem bC:PSs X [] (tG X.K X.H₀ gNil E):=qq.imp λD σ H d=>by
 obtain⟨B,bg,δ,β,o,β',ok,e,h⟩:=d;cases e;exact h σ B H (g0.refl B H) ok
theorem ad(i:PS X st (tG X.K X.H₀ g E))(j:PSs X sts (tG X.K X.H₀ h E)):PSs X (st::sts) (tG X.K X.H₀ (aG g h) E):=(cz i j).imp λD σ H l=>by
 obtain⟨B,bg,δ,β,o,β',ok,e,q⟩:=l;unfold aG at e;split at e
 .rename_i δ1 β1 m
  refine⟨B,bg,δ,β,.nx δ1,β1,ok,m,λt u H' s d=>⟨u,bg,δ1,β1,o,β',d,e,gz.pre s ?_⟩⟩;exact q
 .rename_i r v
  refine⟨B,bg,δ,β,o,β',ok,e,?_⟩;cases o with
  |nx δ1=>exact QX e (v δ1 β')
  |_=>exact q
theorem ak(d:PS X st (tG X.K X.H₀ g E)):PSs X [st] (tG X.K X.H₀ g E):=mE d
theorem aF{x:Rl}{f:FD}(h:PS X (.Assign [.Name x pos'] e pos) (gZ (tV X.K f E) (dW i))):PS X (.Assign [.Name x pos'] e pos) (tG X.K X.H₀ (fV i f) E):=h.imp λD σ H m=>by
 obtain⟨B,bg,δ,β,o,β',ok,e,q⟩:=m;refine⟨et B bg,vw δ,β,ok.fr,ok.view,?_⟩;unfold fV at e;split at e
 .rename_i d β1 j
  cases e;refine⟨.ok d,_,j,λv H' t hd=>?_⟩;obtain⟨g,l⟩:=ok.to rfl t;exact q _ B H' l (g.set hd)
 .rename_i C β1 j
  cases e;refine⟨.error C,_,j,λH' t=>?_⟩;obtain⟨g,l⟩:=ok.to rfl t;exact q _ B H' l g
 .cases e
theorem eU{f:FD}(h:PS X (.Expr e pos) (sr (tV X.K f E))):PS X (.Expr e pos) (tG X.K X.H₀ (pJ f) E):=h.imp λD σ H l=>by
 obtain⟨B,bg,δ,β,o,β',ok,e,q⟩:=l;refine⟨o_ B bg,hW δ,β,ok.frA,ok.viewA,?_⟩;unfold pJ at e;split at e
 .rename_i d β1 i
  cases e;refine⟨.ok d,_,i,λv H' t hd=>?_⟩;obtain⟨g,j⟩:=ok.to rfl t;exact q _ B H' j g
 .rename_i C β1 i
  cases e;refine⟨.error C,_,i,λH' t=>?_⟩;obtain⟨g,j⟩:=ok.to rfl t;exact q _ B H' j g
 .cases e
noncomputable def gj(B:Ow):Ow:=λa=>if B a=on 0\/B a=on 1 then B a else Qh
theorem M4{B:Ow}{bg:Option (Qs×Qs)}{H:Hp}:Tr (o_ B bg) H (et (gj B) bg) H:=⟨λa h _ z=>by
 have d:gj B a≠Qh:=z;unfold gj at d;split at d
 .rename_i q;exact h q
 .exact d rfl,λ_ _ _ h=>h,rfl⟩
theorem EO{B:Ow}{H:Hp}:g0 B H (gj B) H:=⟨λ_ _ h _=>h,λa h=>by unfold gj;rw[Qt h],λa o h n=>by unfold gj;rw[n];simp,λ_ h=>h⟩
theorem aM{f:FD}(h:PS X (.Return (on e) pos) (w9 (tV X.K f E))):PS X (.Return (on e) pos) (tG X.K X.H₀ (jE f) E):=h.imp λD σ H r=>by
 obtain⟨B,bg,δ,β,o,β',ok,e,q⟩:=r;refine⟨o_ B bg,hW δ,β,ok.frA,ok.viewA,?_⟩;unfold jE at e;split at e
 .rename_i d β1 j
  cases e;refine⟨.ok d,_,j,λv H' t hd=>?_⟩;obtain⟨g,m⟩:=ok.to rfl t;refine q _ (gj B) H' (m.trans EO) ⟨λa ha=>g.fr.occ a ?_,λb l e=>?_,g.fr.bag⟩ (cx.tr M4 _ _ hd)
  .have i:gj B a≠Qh:=ha
   show B a≠Qh;unfold gj at i;split at i
   .exact i
   .exact QX rfl i
  .refine⟨?_,?_,(g.fr.bgA b l e).2.2⟩
   .show gj B b≠Qh
    unfold gj;rw[Qt (.inr (ok.bgt b l e).1),(ok.bgt b l e).1];simp
   .show gj B l≠Qh
    unfold gj;rw[Qt (.inr (ok.bgt b l e).2),(ok.bgt b l e).2];simp
 .rename_i C β1 j
  cases e;refine⟨.error C,_,j,λH' t=>?_⟩;obtain⟨g,m⟩:=ok.to rfl t;exact q _ B H' m g
 .cases e
theorem cc{c:Expr}{a b:List RT}(hc:PT X c (hY X.K t E))(ha:PSs X a (tG X.K X.H₀ g E))(l:PSs X b (tG X.K X.H₀ h E)):PS X (.If c a b pos) (tG X.K X.H₀ (ss t g h) E):=(JJ hc ha l).imp λD σ H m=>by
 obtain⟨B,bg,δ,β,o,β',ok,e,q⟩:=m;refine⟨o_ B bg,hW δ,β,ok.frA,ok.viewA,?_⟩;unfold ss at e;split at e
 .rename_i β1 i
  refine⟨.ok Qo,_,i,λv H' t hd=>?_⟩;subst hd;obtain⟨d,j⟩:=ok.to rfl t;rw[Qt rfl];exact⟨B,bg,δ,β1,o,β',d,e,gz.pre j q⟩
 .rename_i β1 i
  refine⟨.ok Qr,_,i,λv H' t hd=>?_⟩;subst hd;obtain⟨d,j⟩:=ok.to rfl t;rw[Qp Qx];exact⟨B,bg,δ,β1,o,β',d,e,gz.pre j q⟩
 .rename_i C β1 i
  cases e;refine⟨.error C,_,i,λH' t=>?_⟩;obtain⟨d,j⟩:=ok.to rfl t;exact q _ B H' j d
 .cases e
abbrev Mm:=D->Ds->Option Ds
abbrev mj:=List D->Ds->Option Ds
def p0(K:QR)(g:TG)(tg:Mm):Prop:=∀(H₀:Hp) (B:Ow) (bg:Option (Qs×Qs)) (H:Hp) (δ δ1:Ds) (β:Bg) (σ:St) (d:D) (v:V) (Q:St->Hp->Prop),f_ K H₀ B bg H δ β σ->cx K (et B bg) H d v->tg d δ=on δ1->(∀h,f_ K H₀ B bg H δ1 β h->Q h H)->g v σ H Q
def pY(K:QR)(g:I0)(tg:mj):Prop:=∀(H₀:Hp) (B:Ow) (bg:Option (Qs×Qs)) (H:Hp) (δ δ1:Ds) (β:Bg) (σ:St) (ds:List D) (vs:List V) (Q:St->Hp->Prop),f_ K H₀ B bg H δ β σ->bb K (et B bg) H ds vs->tg ds δ=on δ1->(∀d,f_ K H₀ B bg H δ1 β d->Q d H)->g vs σ H Q
noncomputable def sgN(i:Nat):Mm:=λd δ=>on (δ.set i (on (.sh d)))
noncomputable def Mg:mj:=λds δ=>match ds with
 |[]=>on δ
 |_=>Qh
noncomputable def Mf(t:Mm)(u:mj):mj:=λds δ=>match ds with
 |[]=>Qh
 |d::r=>(t d δ).bind λδ1=>u r δ1
noncomputable def sgT(t:mj):Mm:=λd δ=>match d with
 | .tup ds=>t ds δ
 |_=>Qh
theorem aI:p0 K (dW i) (sgN i):=λH₀ B bg H δ δ1 β σ d v Q ok hd e k=>by
 cases e;exact k _ (ok.set hd)
theorem fj:pY K L2.gNil Mg:=λH₀ B bg H δ δ1 β σ ds vs Q ok hd e k=>by
 cases ds with
 |nil=>cases e;exact⟨hd,k _ ok⟩
 |cons _ _=>cases e
theorem bh(m:p0 K t tf)(o:pY K u uf):pY K (yd t u) (Mf tf uf):=λH₀ B bg H δ δ1 β σ ds vs Q ok hd e k=>by
 cases ds with
 |nil=>cases e
 |cons d r=>
  obtain⟨x,l,rfl,v,w⟩:=hd;have h:(tf d δ).bind (λδ1=>uf r δ1)=on δ1:=e;cases q:tf d δ with
  |none=>rw[q]at h;cases h
  |some g=>
   rw[q]at h;exact⟨x,l,rfl,m H₀ B bg H δ g β σ d x _ ok v q λi j=>o H₀ B bg H g δ1 β i r l Q j w h k⟩
theorem dY:∀ds δ δ1,Mg ds δ=on δ1->ds.length=0:=λds δ δ1 h=>by
 cases ds with
 |nil=>rfl
 |cons _ _=>cases h
theorem bf{n:Nat}(h:∀ds δ δ1,u ds δ=on δ1->ds.length=n):∀ds δ δ1,Mf t u ds δ=on δ1->ds.length=n+1:=λds δ δ1 e=>by
 cases ds with
 |nil=>cases e
 |cons d r=>
  have g:(t d δ).bind (λδ1=>u r δ1)=on δ1:=e;cases q:t d δ with
  |none=>rw[q]at g;cases g
  |some i=>rw[q]at g;rw[QP,h _ _ _ g]
theorem gM{n:Nat}(h:pY K t tf)(hn:∀ds δ δ1,tf ds δ=on δ1->ds.length=n):p0 K (FH K n t) (sgT tf):=λH₀ B bg H δ δ1 β σ d v Q ok hd e k=>by
 cases d<;>first
  |(obtain⟨a,xs,rfl,sq,g⟩:=cx.sqT hd;exact⟨a,xs,rfl,sq,by rw[<-g.length];exact hn _ _ _ e,h H₀ B bg H δ δ1 β σ _ xs Q ok g e k⟩)
  |cases e
def yf(f:FD)(tg:Mm):G:=λδ β=>match f (vw δ) β with
 |some (.ok d,β1)=>(tg d δ).map λδ1=>(.nx δ1,β1)
 |some (.error C,β1)=>on (.ex C δ,β1)
 |none=>Qh
theorem ku{f:FD}{tg:Mm}(l:p0 X.K g tg)(h:PS X (.Assign [tgt] e pos) (gZ (tV X.K f E) g)):PS X (.Assign [tgt] e pos) (tG X.K X.H₀ (yf f tg) E):=h.imp λD σ H w=>by
 obtain⟨B,bg,δ,β,o,β',ok,e,q⟩:=w;refine⟨et B bg,vw δ,β,ok.fr,ok.view,?_⟩;unfold yf at e;split at e
 .rename_i d β1 j
  cases q1:tg d δ with
  |none=>rw[q1]at e;cases e
  |some δ1=>
   rw[q1]at e;cases e;refine⟨.ok d,_,j,λv H' t hd=>?_⟩;obtain⟨i,m⟩:=ok.to rfl t;exact l X.H₀ B bg H' δ δ1 _ σ d v _ i hd q1 λr u=>q r B H' m u
 .rename_i C β1 j
  cases e;refine⟨.error C,_,j,λH' t=>?_⟩;obtain⟨i,m⟩:=ok.to rfl t;exact q _ B H' m i
 .cases e
def yb(i j:Nat)(f:FL):G:=λδ β=>match f (vw δ) β with
 |some (.ok [c,d],β1)=>on (.nx ((δ.set i (on (.sh c))).set j (on (.sh d))),β1)
 |some (.error C,β1)=>on (.ex C δ,β1)
 |_=>Qh
theorem O7{f:FL}(h:PS X st (LU i j (jm X.K f E))):PS X st (tG X.K X.H₀ (yb i j f) E):=h.imp λD σ H r=>by
 obtain⟨B,bg,δ,β,o,β',ok,e,q⟩:=r;refine⟨et B bg,vw δ,β,ok.fr,ok.view,?_⟩;unfold yb at e;split at e
 .rename_i c d β1 l
  cases e;refine⟨.ok [c,d],_,l,λvs H' t hd=>?_⟩;obtain⟨g,m⟩:=ok.to rfl t;obtain⟨v,w,rfl,u,y⟩:=bb.two hd;exact⟨v,w,rfl,q _ B H' m ((g.set u).set y)⟩
 .rename_i C β1 l
  cases e;refine⟨.error C,_,l,λH' t=>?_⟩;obtain⟨g,m⟩:=ok.to rfl t;exact q _ B H' m g
 .cases e
def ye(i:Nat)(op:D->D->Option D)(f:FD):G:=λδ β=>match(vw δ).getD i Qh with
 |none=>Qh
 |some c=>match f (vw δ) β with
  |some (.ok d,β1)=>(op c d).map λz=>(.nx (δ.set i (on (.sh z))),β1)
  |some (.error C,β1)=>on (.ex C δ,β1)
  |none=>Qh
theorem oV{f:FD}(l:aV X.K ti op)(h:PS X st (L0 i (tV X.K f E) ti)):PS X st (tG X.K X.H₀ (ye i op f) E):=h.imp λD σ H I=>by
 obtain⟨B,bg,δ,β,o,β',ok,e,q⟩:=I;unfold ye at e;split at e
 .cases e
 .rename_i c j
  have m:(vw δ)[i]?=on (on c):=by
   rw[Qn]at j;cases z:(vw δ)[i]? with
   |none=>rw[z]at j;cases j
   |some w=>rw[z]at j;simp at j;rw[j]
  obtain⟨v,J,L⟩:=ok.view.tell i c m;refine⟨v,J,et B bg,vw δ,β,ok.fr,ok.view,?_⟩;split at e
  .rename_i d β1 r
   cases q1:op c d with
   |none=>rw[q1]at e;cases e
   |some z=>
    rw[q1]at e;cases e;refine⟨.ok d,_,r,λw H' t hd=>?_⟩;obtain⟨g,y⟩:=ok.to rfl t;refine l (et B bg) H' β' _ c d z v w t.fr (cx.tr (t.tr ok.fr) _ _ L) hd q1 λu N O P=>?_;obtain⟨A,Q⟩:=g.to rfl O;exact q _ B N (y.trans Q) (A.set P)
  .rename_i C β1 r
   cases e;refine⟨.error C,_,r,λH' t=>?_⟩;obtain⟨g,y⟩:=ok.to rfl t;exact q _ B H' y g
  .cases e
theorem g0.tr{B d:Ow}{H H':Hp}{bg:Option (Qs×Qs)}(s:g0 B H d H'):Tr (et B bg) H (et d bg) H':=
 ⟨λa h hs z=>by
  have hn:B a=Qh:=by
   cases q:B a with
   |none=>rfl
   |some t=>exact QX (show B a≠Qh by rw[q];simp) h
  cases q:H a with
  |none=>exact hs q
  |some o=>exact z (s.nn a o q hn),λa o h e=>s.kp a o e (.inl (by
  cases q:B a with
  |none=>rfl
  |some t=>exact QX (show B a≠Qh by rw[q];simp) h)),rfl⟩
def bO(t:Dn->M Bool)(g:G):Nat->G
 |0,_,_=>Qh
 |n+1,δ,β=>match t (hW δ) β with
  |some (.ok Qo,β1)=>match g δ β1 with
   |some (.nx δ1,β2)=>bO t g n δ1 β2
   |some (.ct δ1,β2)=>bO t g n δ1 β2
   |some (.bk δ1,β2)=>on (.nx δ1,β2)
   |r=>r
  |some (.ok Qr,β1)=>on (.nx δ,β1)
  |some (.error C,β1)=>on (.ex C δ,β1)
  |none=>Qh
theorem l3:∀{n:Nat} {δ:Ds} {β:Bg} {r:p_×Bg},bO t g n δ β=on r->bO t g (n+1) δ β=on r
 |0,_,_,_,h=>by cases h
 |n+1,δ,β,r,h=>by
  have e:∀m,bO t g (m+1) δ β=match t (hW δ) β with
    |some (.ok Qo,β1)=>match g δ β1 with
     |some (.nx δ1,β2)=>bO t g m δ1 β2
     |some (.ct δ1,β2)=>bO t g m δ1 β2
     |some (.bk δ1,β2)=>on (.nx δ1,β2)
     |r=>r
    |some (.ok Qr,β1)=>on (.nx δ,β1)
    |some (.error C,β1)=>on (.ex C δ,β1)
    |none=>Qh:=λm=>rfl
  rw[e]at h⊢;cases q:t (hW δ) β with
  |none=>rw[q]at h;cases h
  |some z=>
   obtain⟨b,β1⟩:=z;rw[q]at h;cases b with
   |error C=>exact h
   |ok b=>
    cases b with
    |false=>exact h
    |true=>
     dsimp only at h⊢
     cases q2:g δ β1 with
     |none=>rw[q2]at h;cases h
     |some y=>
      obtain⟨o,β2⟩:=y;rw[q2]at h;cases o with
      |nx δ1=>exact l3 h
      |ct δ1=>exact l3 h
      |bk δ1=>exact h
      |rt d=>exact h
      |rg d=>exact h
      |ex C δ1=>exact h
theorem rz{n m:Nat}{δ:Ds}{β:Bg}(h:bO t g n δ β=on r)(l:n<=m):bO t g m δ β=on r:=by
 induction m with
 |zero=>
  obtain rfl:n=0:=by omega
  exact h
 |succ m ih=>
  by_cases q:n=m+1
  .subst q;exact h
  .exact l3 (ih (by omega))
end
open Classical in
def gWh(t:Dn->M Bool)(g:G):G:=λδ β=>if h:∃r n,bO t g n δ β=on r then on h.choose else Qh
theorem Nj(h:bO t g n δ β=on r):gWh t g δ β=on r:=by
 have a:∃r n,bO t g n δ β=on r:=⟨r,n,h⟩;unfold gWh;rw[dif_pos a];obtain⟨m,hm⟩:=a.choose_spec;have c:=rz h (Nat.le_max_left n m);have b:=rz hm (Nat.le_max_right n m);rw[c]at b;rw[<-Q7 b]
theorem Lq(h:gWh t g δ β=on r):∃n,bO t g n δ β=on r:=by
 unfold gWh at h;split at h
 .rename_i a
  obtain⟨m,hm⟩:=a.choose_spec;cases h;exact⟨m,hm⟩
 .cases h
section
variable{X:Cx}{E:St->XK}{e:Expr}{st:RT}{sts:List RT}{pos:Vm}{K:QR}
theorem vT(T:ZI (Q4 X.prog X.w) X.A X.env X.xe)(hc:PT X c (hY X.K t E))(U:PSs X body (tG X.K X.H₀ g E)):PS X (.While c body [] pos) (tG X.K X.H₀ (gWh t g) E):=(DR T hc U).imp λD σ H W=>by
 obtain⟨B,bg,δ,β,o,l,ok,e,q⟩:=W;obtain⟨n,e⟩:=Lq e;refine⟨λm u P=>∃j δ1 β1,g0 B H j P/\f_ X.K X.H₀ j bg P δ1 β1 u/\bO t g m δ1 β1=on (o,l),⟨n,B,δ,β,g0.refl B H,ok,e⟩,?_⟩;rintro m u P ⟨j,δ1,β1,r,h,f⟩;refine⟨o_ j bg,hW δ1,β1,h.frA,h.viewA,?_⟩;cases m with
 |zero=>cases f
 |succ m=>
  unfold bO at f;split at f
  .rename_i β2 y
   refine⟨.ok Qo,_,y,λv N tt hd=>?_⟩;subst hd;obtain⟨b,k⟩:=h.to rfl tt;rw[Qt rfl];refine⟨λF Q=>∃O a β3,g0 B H O Q/\f_ X.K X.H₀ O bg Q a β3 F/\bO t g m a β3=on (o,l),λF Q ⟨O,a,β3,z⟩=>⟨m,V8 m,O,a,β3,z⟩,?_⟩;split at f
   .rename_i a β3 I
    exact⟨j,bg,δ1,β2,.nx a,β3,b,I,λp J R L i=>⟨J,a,β3,r.trans (k.trans L),i,f⟩⟩
   .rename_i a β3 I
    exact⟨j,bg,δ1,β2,.ct a,β3,b,I,λp J R L i=>⟨J,a,β3,r.trans (k.trans L),i,f⟩⟩
   .rename_i a β3 I
    cases f;exact⟨j,bg,δ1,β2,.bk a,_,b,I,λp J R L i=>q p J R (r.trans (k.trans L)) i⟩
   .rename_i x Y Z h3
    refine⟨j,bg,δ1,β2,o,l,b,f,?_⟩;have q2:=gz.pre (r.trans k) q;cases o with
    |nx a=>exact QX f (Y _ _)
    |ct a=>exact QX f (Z _ _)
    |bk a=>exact QX f (h3 _ _)
    |rt d=>exact q2
    |rg d=>exact q2
    |ex C a=>exact q2
  .rename_i β2 y
   cases f;refine⟨.ok Qr,_,y,λv N tt hd=>?_⟩;subst hd;obtain⟨b,k⟩:=h.to rfl tt;rw[Qp Qx];exact q _ j N (r.trans k) b
  .rename_i C β2 y
   cases f;refine⟨.error C,_,y,λN tt=>?_⟩;obtain⟨b,k⟩:=h.to rfl tt;exact q _ j N (r.trans k) b
  .cases f
noncomputable def nw(tg:Mm)(g:G):List D->G
 |[],δ,β=>on (.nx δ,β)
 |d::ds,δ,β=>match tg d δ with
  |none=>Qh
  |some δ1=>match g δ1 β with
   |some (.nx δ2,β2)=>nw tg g ds δ2 β2
   |some (.ct δ2,β2)=>nw tg g ds δ2 β2
   |some (.bk δ2,β2)=>on (.nx δ2,β2)
   |r=>r
def qC(it:FL)(tg:Mm)(g:G):G:=λδ β=>match it (vw δ) β with
 |some (.ok ds,β1)=>nw tg g ds δ β1
 |some (.error C,β1)=>on (.ex C δ,β1)
 |none=>Qh
theorem cJ(l:p0 X.K tgg tg)(h:PS X (.For tgt iter body [] pos) (LY (iV X.K it E) tgg (tG X.K X.H₀ g E))):PS X (.For tgt iter body [] pos) (tG X.K X.H₀ (qC it tg g) E):=h.imp λD σ H h_=>by
 obtain⟨B,bg,δ,β,o,A,ok,e,q⟩:=h_;refine⟨et B bg,vw δ,β,ok.fr,ok.view,?_⟩;unfold qC at e;split at e
 .rename_i ds β1 W
  refine⟨.ok ds,_,W,λJ Y t hJ=>?_⟩;obtain⟨Z,s1⟩:=ok.to rfl t;refine⟨λi m p I=>m+i=ds.length/\∃n r β2,g0 B Y n I/\f_ X.K X.H₀ n bg I r β2 p/\nw tg g (ds.drop i) r β2=on (o,A),⟨ds.length,by omega,B,δ,β1,g0.refl B Y,Z,e⟩,?_⟩;rintro i m p I ⟨hm,n,r,β2,L,c,b⟩;obtain⟨iy,is⟩:=hJ (et n bg) I β2 L.tr c.fr i;cases R:ds[i]? with
  |none=>
   have T:ds.length<=i:=VC.mp R;rw[SL T]at b;cases b;exact .inl ⟨is (by omega),q p n I (s1.trans L) c⟩
  |some d=>
   have T:i<ds.length:=(QI.mp R).1;obtain⟨go,yl⟩:=iy d R;have ed:ds.drop i=d::ds.drop (i+1):=by
    rw[Su T];congr 1;exact Q7 ((Ql T).symm.trans R)
   rw[ed]at b;unfold nw at b;split at b
   .cases b
   .rename_i j e3
    refine .inr ⟨go,λN H9=>∃U u v,g0 B Y U H9/\f_ X.K X.H₀ U bg H9 u v N/\nw tg g (ds.drop (i+1)) u v=on (o,A),λN H9 ⟨U,u,v,z1,z2,z3⟩=>⟨m-1,by omega,by omega,U,u,v,z1,z2,z3⟩,λx H3 hy=>?_⟩;obtain⟨sm,dx⟩:=yl x H3 hy;obtain⟨ok3,s3⟩:=c.to rfl (c.fr.same sm);refine l X.H₀ n bg H3 r j β2 p d x _ ok3 dx e3 λσ4 w=>?_;have y:=L.trans s3;split at b
    .rename_i a f O
     exact⟨n,bg,j,β2,.nx a,f,w,O,λF P H6 Q k=>⟨P,a,f,y.trans Q,k,b⟩⟩
    .rename_i a f O
     exact⟨n,bg,j,β2,.ct a,f,w,O,λF P H6 Q k=>⟨P,a,f,y.trans Q,k,b⟩⟩
    .rename_i a f O
     cases b;exact⟨n,bg,j,β2,.bk a,_,w,O,λF P H6 Q k=>q F P H6 (s1.trans (y.trans Q)) k⟩
    .rename_i x h1 h2 h3
     refine⟨n,bg,j,β2,o,A,w,b,?_⟩;have q2:=gz.pre (s1.trans y) q;cases o with
     |nx a=>exact QX b (h1 _ _)
     |ct a=>exact QX b (h2 _ _)
     |bk a=>exact QX b (h3 _ _)
     |rt d=>exact q2
     |rg d=>exact q2
     |ex C a=>exact q2
 .rename_i C β1 W
  cases e;refine⟨.error C,_,W,λH' t=>?_⟩;obtain⟨c,L⟩:=ok.to rfl t;exact q _ B H' L c
 .cases e
theorem f_.newAt{δ:Ds}{T:St}(ok:f_ K H₀ B bg H δ β T)(g:H p=Qh)(U:D1 (upd H p u) p)(hd:∀{P:Ow},P p=on (i+2)->Tr (et B bg) H (et P bg) (upd H p u)->IF K P bg (upd H p u) i sl (.ref p)):
  f_ K H₀ (λa=>if a=p then on (i+2)else B a) bg (upd H p u) (δ.set i (on sl)) β (T.set i (on (.ref p)))/\g0 B H (λa=>if a=p then on (i+2)else B a) (upd H p u):=by
 have hB:B p=Qh:=by
  cases q:B p with
  |none=>rfl
  |some t=>exact QX g (ok.fr.occ p (by show B p≠Qh;rw[q];simp))
 have C:g0 B H (λa=>if a=p then on (i+2)else B a) (upd H p u):=by
  refine⟨λa o h _=>by rw[b_ (ay h g)];exact h,λa h=>?_,λa o h n=>?_,?_⟩
  .have:a≠p:=λz=>by subst z;rw[hB]at h;rcases h with h|h<;>cases h
   simp only[Qp this]
  .simp only[Qp (ay h g)];exact n
  .exact λa ha=>by
    by_cases z:a=p
    .subst z;rw[ah];simp
    .rw[b_ z];exact ha
 have tr:Tr (et B bg) H (et (λa=>if a=p then on (i+2)else B a) bg) (upd H p u):=C.tr;have Q:∀b l,bg=on (b,l)->b≠p/\l≠p:=λb l e=>by
  obtain⟨b1,b2⟩:=ok.bgt b l e;exact⟨λz=>(by subst z;rw[hB]at b1;cases b1),λz=>(by subst z;rw[hB]at b2;cases b2)⟩
 refine⟨⟨⟨λa ha z=>?_,λb l e=>?_,λb l e=>?_⟩,λb l e=>?_,by rw[Q3,Q3,ok.len],λa ha=>C.al a (ok.cov a ha),λc k hc=>(by
  have f:(if c=p then on (i+2)else B c)=on (k+2):=hc;by_cases z:c=p
  .cases w:H₀ c with
   |none=>rfl
   |some o=>exact QX (z▸g) (ok.cov c (by rw[w];simp))
  .rw[Qp z]at f;exact ok.new c k f),λc k hc=>(by
  have f:(if c=p then on (i+2)else B c)=on (k+2):=hc;by_cases z:c=p
  .subst z;exact U
  .rw[Qp z]at f;exact(ok.lst c k f).imp λo y=>by rw[b_ z];exact y),λj s e=>?_⟩,C⟩
 .by_cases q:a=p
  .subst q;rw[ah]at z;cases z
  .rw[b_ q]at z
   have F:(if a=p then on (i+2)else B a)≠Qh:=ha;rw[Qp q]at F;exact ok.fr.occ a F z
 .obtain⟨I,J⟩:=Q b l e
  obtain⟨b1,b2⟩:=ok.bgt b l e;refine⟨?_,?_,(ok.fr.bgA b l e).2.2⟩
  .show(if b=p then on (i+2)else B b)≠Qh
   rw[Qp I,b1];simp
  .show(if l=p then on (i+2)else B l)≠Qh
   rw[Qp J,b2];simp
 .obtain⟨I,J⟩:=Q b l e
  rw[b_ I,b_ J];exact ok.fr.bag b l e
 .obtain⟨I,J⟩:=Q b l e
  simp only[Qp I,Qp J];exact ok.bgt b l e
 .rw[Ru]at e
  rw[Ru];by_cases q:i=j
  .subst q
   rw[Qt rfl]at e⊢;split at e
   .rename_i W
    cases e;rw[Qt (by rw[<-ok.len];exact W)];exact⟨_,rfl,hd (Qt rfl) tr⟩
   .cases e
  .rw[Qp q]at e⊢
   obtain⟨v,Y,O⟩:=ok.tell j s e;refine⟨v,Y,?_⟩;cases s with
   |sh d=>exact cx.tr tr _ _ O
   |own cs=>
    obtain⟨a,ys,L,N,m,R⟩:=O;have A:=ay m g;exact⟨a,ys,L,by simp only[Qp A];exact N,by rw[b_ A];exact m,bb.tr tr _ _ R⟩
   |grd a_=>
    obtain⟨a,rs,L,N,m,R,Z⟩:=O;have A:=ay m g;exact⟨a,rs,L,by simp only[Qp A];exact N,by rw[b_ A];exact m,R,d4.tr tr Z λr zs _ p q=>⟨by simp only[Qp (ay q g)];exact p,by rw[b_ (ay q g)];exact q⟩⟩
   |odc b ks vs=>
    obtain⟨a,L,N,m⟩:=O;have A:a≠p:=λz=>m.ne (z▸g);exact⟨a,L,by simp only[Qp A];exact N,m.tr tr λo z=>by rw[b_ A];exact z⟩
theorem f_.writeAt{δ:Ds}(ok:f_ K H₀ B bg H δ β σ)(hs:σ[i]?=on (on (.ref a)))(hB:B a=on (i+2))(I:D1 (upd H a u) a)(hd:Tr (et B bg) H (et B bg) (upd H a u)->IF K B bg (upd H a u) i sl (.ref a)):
  f_ K H₀ B bg (upd H a u) (δ.set i (on sl)) β σ/\g0 B H B (upd H a u):=by
 have g:g0 B H B (upd H a u):=by
  refine⟨λc o h n=>?_,λ_ _=>rfl,λ_ _ _ n=>n,λc hc=>?_⟩
  .rw[b_]
   .exact h
   .intro z;subst z;rw[hB]at n;rcases n with n|n<;>cases n
  .by_cases z:c=a
   .subst z;rw[ah];simp
   .rw[b_ z];exact hc
 have tr:Tr (et B bg) H (et B bg) (upd H a u):=g.tr;refine⟨⟨⟨λc hc z=>?_,ok.fr.bgA,λb l e=>?_⟩,ok.bgt,by rw[Q3,ok.len],λa ha=>g.al a (ok.cov a ha),ok.new,λc k hc=>(by
  by_cases z:c=a
  .subst z;exact I
  .exact(ok.lst c k hc).imp λo y=>by rw[b_ z];exact y),λj s e=>?_⟩,g⟩
 .by_cases q:c=a
  .subst q;rw[ah]at z;cases z
  .rw[b_ q]at z;exact ok.fr.occ c hc z
 .obtain⟨b1,b2⟩:=ok.bgt b l e
  rw[b_ (λz=>by subst z;rw[hB]at b1;cases b1),b_ (λz=>by subst z;rw[hB]at b2;cases b2)];exact ok.fr.bag b l e
 .rw[Ru]at e
  by_cases q:i=j
  .subst q
   rw[Qt rfl]at e;split at e
   .cases e
    exact⟨_,hs,hd tr⟩
   .cases e
  .rw[Qp q]at e
   obtain⟨v,J,A⟩:=ok.tell j s e;refine⟨v,J,?_⟩;cases s with
   |sh d=>exact cx.tr tr _ _ A
   |own cs=>
    obtain⟨c,F,t,f,w,C⟩:=A;have m:c≠a:=λz=>by subst z;rw[hB]at f;cases f;exact q rfl
    exact⟨c,F,t,f,by rw[b_ m];exact w,bb.tr tr _ _ C⟩
   |grd a_=>
    obtain⟨c,rs,t,f,w,C,L⟩:=A;have m:∀c,B c=on (j+2)->c≠a:=λc f z=>by subst z;rw[hB]at f;cases f;exact q rfl
    exact⟨c,rs,t,f,by rw[b_ (m c f)];exact w,C,d4.tr tr L λr F _ p q=>⟨p,by rw[b_ (m r p)];exact q⟩⟩
   |odc b ks vs=>
    obtain⟨c,t,f,w⟩:=A;have m:c≠a:=λz=>by subst z;rw[hB]at f;cases f;exact q rfl
    exact⟨c,t,f,w.tr tr λo z=>by rw[b_ m];exact z⟩
theorem f_.newOwn{δ:Ds}{b:St}(ok:f_ K H₀ B bg H δ β b)(c:H p=Qh)(hd:bb K (et B bg) H ds xs):
  f_ K H₀ (λa=>if a=p then on (i+2)else B a) bg (upd H p (.lst xs)) (δ.set i (on (.own ds))) β (b.set i (on (.ref p)))/\g0 B H (λa=>if a=p then on (i+2)else B a) (upd H p (.lst xs)):=ok.newAt c (.inl ⟨xs,ah⟩) λe t=>⟨p,xs,rfl,e,ah,bb.tr t _ _ hd⟩
theorem f_.writeOwn{δ:Ds}(ok:f_ K H₀ B bg H δ β σ)(hs:σ[i]?=on (on (.ref a)))(hB:B a=on (i+2))(ha:H a=on (.lst ys))(hd:bb K (et B bg) H ds xs):
  f_ K H₀ B bg (upd H a (.lst xs)) (δ.set i (on (.own ds))) β σ/\g0 B H B (upd H a (.lst xs)):=ok.writeAt hs hB (.inl ⟨xs,ah⟩) λt=>⟨a,xs,rfl,hB,ah,bb.tr t _ _ hd⟩
def yc(i:Nat)(f:FL):G:=λδ β=>match f (vw δ) β with
 |some (.ok ds,β1)=>if ds.length<=QN then on (.nx (δ.set i (on (.own ds))),β1)else Qh
 |some (.error C,β1)=>on (.ex C δ,β1)
 |none=>Qh
theorem Jz(h:PS X st (gZ (LW (jm X.K f E)) (dW i))):PS X st (tG X.K X.H₀ (yc i f) E):=h.imp λD r H j=>by
 obtain⟨B,bg,δ,β,o,k,ok,e,q⟩:=j;refine⟨et B bg,vw δ,β,ok.fr,ok.view,?_⟩;unfold yc at e;split at e
 .rename_i ds β1 b
  split at e
  .rename_i l
   cases e;refine⟨.ok ds,_,b,λvs g t hd=>⟨by rw[<-hd.length];exact l,λp m=>?_⟩⟩;obtain⟨a,c⟩:=ok.to rfl t;obtain⟨d,n⟩:=a.newOwn (i:=i) m hd;exact q _ _ _ (c.trans n) d
  .cases e
 .rename_i C β1 b
  cases e;refine⟨.error C,_,b,λg t=>?_⟩;obtain⟨a,c⟩:=ok.to rfl t;exact q _ B g c a
 .cases e
def yg(i:Nat)(f:FL):G:=λδ β=>match δ.getD i Qh with
 |some (.own cs)=>match f (vw δ) β with
  |some (.ok [d],β1)=>if cs.length<QN then on (.nx (δ.set i (on (.own (cs++[d])))),β1)else Qh
  |some (.error C,β1)=>on (.ex C δ,β1)
  |_=>Qh
 |_=>Qh
theorem getD_some{α:Type}{δ:List (Option α)}{i:Nat}{s:α}(h:δ.getD i Qh=on s):δ[i]?=on (on s):=by
 rw[Qn]at h;cases z:δ[i]? with
 |none=>rw[z]at h;cases h
 |some w=>rw[z]at h;simp at h;rw[h]
theorem JA(h:PS X st (sr (tBM X.K "list" qm (kn i) (jm X.K f E)))):PS X st (tG X.K X.H₀ (yg i f) E):=h.imp λD P H y=>by
 obtain⟨B,bg,δ,β,o,A,ok,e,q⟩:=y;unfold yg at e;split at e
 .rename_i cs u
  obtain⟨v,l,a,ys,rfl,F,I,Q⟩:=ok.tell i _ (getD_some u);refine⟨_,l,.inl ⟨rfl,ys,f0.of I⟩,et B bg,vw δ,β,ok.fr,ok.view,?_⟩;split at e
  .rename_i d β1 m
   split at e
   .rename_i J
    cases e;refine⟨.ok [d],_,m,λvs w t hd=>?_⟩;obtain⟨b,n⟩:=ok.to rfl t;obtain⟨v,rfl,L⟩:=bb.one hd;obtain⟨R,c,T,g,p,N,j,k⟩:=b.tell i _ (getD_some u);rw[l]at c;cases c;cases p;refine⟨a,g,v,rfl,rfl,j,by rw[<-k.length];exact J,?_⟩;obtain⟨r,O⟩:=b.writeOwn (ds:=cs++[d]) (xs:=g++[v]) l F j (bb.append k (bb.cons L bb.nil));exact q _ _ _ (n.trans O) r
   .cases e
  .rename_i C β1 m
   cases e;refine⟨.error C,_,m,λw t=>?_⟩;obtain⟨b,n⟩:=ok.to rfl t;exact q _ B w n b
  .cases e
 .cases e
noncomputable def fz(i:Nat)(δ:Ds):Ds:=match δ.getD i Qh with
 |some (.own ds)=>δ.set i (on (.sh (.lst ds)))
 |some (.grd a_)=>δ.set i (on (.sh (.lst (a_.map D.lst))))
 |some (.odc b ks vs)=>δ.set i (on (.sh (.dct b ks vs)))
 |_=>δ
theorem f_.freeze(i:Nat)(ok:f_ K H₀ B bg H δ β σ):∃Z,f_ K H₀ Z bg H (fz i δ) β σ/\g0 B H Z H:=by
 unfold fz;split
 .rename_i ds L
  obtain⟨v,N,a,ys,O,t,P,U⟩:=ok.tell i _ (getD_some L);have m:g0 B H (λc=>if c=a then Qh else B c) H:=by
   refine⟨λ_ _ h _=>h,λc hc=>?_,λc o h n=>?_,λ_ h=>h⟩
   .have:c≠a:=λz=>by subst z;rw[t]at hc;rcases hc with hc|hc<;>cases hc
    simp only[Qp this]
   .by_cases z:c=a
    .simp only[Qt z]
    .simp only[Qp z];exact n
  have tr:Tr (et B bg) H (et (λc=>if c=a then Qh else B c) bg) H:=m.tr;have F:∀b l,bg=on (b,l)->b≠a/\l≠a:=λb l e=>by
   obtain⟨b1,b2⟩:=ok.bgt b l e;exact⟨λz=>(by subst z;rw[t]at b1;cases b1),λz=>(by subst z;rw[t]at b2;cases b2)⟩
  refine⟨λc=>if c=a then Qh else B c,⟨⟨λc hc=>ok.fr.occ c ?_,λb l e=>?_,ok.fr.bag⟩,λb l e=>?_,by rw[Q3,ok.len],ok.cov,λc k hc=>(by
   have f:(if c=a then Qh else B c)=on (k+2):=hc;split at f
   .cases f
   .exact ok.new c k f),λc k hc=>(by
   have f:(if c=a then Qh else B c)=on (k+2):=hc;split at f
   .cases f
   .exact ok.lst c k f),λj s e=>?_⟩,m⟩
  .have f:(if c=a then Qh else B c)≠Qh:=hc
   split at f
   .exact QX rfl f
   .exact f
  .obtain⟨w,y⟩:=F b l e
   obtain⟨b1,b2⟩:=ok.bgt b l e;refine⟨?_,?_,(ok.fr.bgA b l e).2.2⟩
   .show(if b=a then Qh else B b)≠Qh
    rw[Qp w,b1];simp
   .show(if l=a then Qh else B l)≠Qh
    rw[Qp y,b2];simp
  .obtain⟨w,y⟩:=F b l e
   simp only[Qp w,Qp y];exact ok.bgt b l e
  .rw[Ru]at e
   by_cases q:i=j
   .subst q
    rw[Qt rfl]at e;split at e
    .cases e
     refine⟨_,N,a,ys,O,⟨λz=>?_,.inl P⟩,bb.tr tr _ _ U⟩;have I:(if a=a then Qh else B a)≠Qh:=z;rw[Qt rfl]at I;exact I rfl
    .cases e
   .rw[Qp q]at e
    obtain⟨Q,R,u⟩:=ok.tell j s e;refine⟨Q,R,?_⟩;cases s with
    |sh d=>exact cx.tr tr _ _ u
    |own cs=>
     obtain⟨c,J,d1,d2,d3,C⟩:=u;have g:c≠a:=λz=>by subst z;rw[t]at d2;cases d2;exact q rfl
     exact⟨c,J,d1,by simp only[Qp g];exact d2,d3,bb.tr tr _ _ C⟩
    |grd a_=>
     obtain⟨c,rs,d1,d2,d3,C,T⟩:=u;have g:∀c,B c=on (j+2)->c≠a:=λc d2 z=>by subst z;rw[t]at d2;cases d2;exact q rfl
     exact⟨c,rs,d1,by simp only[Qp (g c d2)];exact d2,d3,C,d4.tr tr T λr J _ p q=>⟨by simp only[Qp (g r p)];exact p,q⟩⟩
    |odc b ks vs=>
     obtain⟨c,d1,d2,d3⟩:=u;have g:c≠a:=λz=>by subst z;rw[t]at d2;cases d2;exact q rfl
     exact⟨c,d1,by simp only[Qp g];exact d2,d3.tr tr λ_ z=>z⟩
 .rename_i a_ L
  classical
  obtain⟨v,N,a,rs,O,t,P,nd,rl⟩:=ok.tell i _ (getD_some L);have own:∀c,c=a\/c∈rs->B c=on (i+2):=λc hc=>by
   rcases hc with rfl|hc
   .exact t
   .exact(rl.all c hc).1
  have m:g0 B H (λc=>if c=a\/c∈rs then Qh else B c) H:=by
   refine⟨λ_ _ h _=>h,λc hc=>?_,λc o h n=>?_,λ_ h=>h⟩
   .have:¬(c=a\/c∈rs):=λz=>by rw[own c z]at hc;rcases hc with hc|hc<;>cases hc
    simp only[Qp this]
   .by_cases z:c=a\/c∈rs
    .simp only[Qt z]
    .simp only[Qp z];exact n
  have tr:Tr (et B bg) H (et (λc=>if c=a\/c∈rs then Qh else B c) bg) H:=m.tr;have F:∀b l,bg=on (b,l)->¬(b=a\/b∈rs)/\¬(l=a\/l∈rs):=λb l e=>by
   obtain⟨b1,b2⟩:=ok.bgt b l e;exact⟨λz=>(by rw[own b z]at b1;cases b1),λz=>(by rw[own l z]at b2;cases b2)⟩
  have free:∀c,c=a\/c∈rs->¬(et (λc=>if c=a\/c∈rs then Qh else B c) bg).A c:=λc hc z=>by
   have I:(if c=a\/c∈rs then Qh else B c)≠Qh:=z;rw[Qt hc]at I;exact I rfl
  refine⟨λc=>if c=a\/c∈rs then Qh else B c,⟨⟨λc hc=>ok.fr.occ c ?_,λb l e=>?_,ok.fr.bag⟩,λb l e=>?_,by rw[Q3,ok.len],ok.cov,λc k hc=>(by
   have f:(if c=a\/c∈rs then Qh else B c)=on (k+2):=hc;split at f
   .cases f
   .exact ok.new c k f),λc k hc=>(by
   have f:(if c=a\/c∈rs then Qh else B c)=on (k+2):=hc;split at f
   .cases f
   .exact ok.lst c k f),λj s e=>?_⟩,m⟩
  .have f:(if c=a\/c∈rs then Qh else B c)≠Qh:=hc
   split at f
   .exact QX rfl f
   .exact f
  .obtain⟨w,y⟩:=F b l e
   obtain⟨b1,b2⟩:=ok.bgt b l e;refine⟨?_,?_,(ok.fr.bgA b l e).2.2⟩
   .show(if b=a\/b∈rs then Qh else B b)≠Qh
    rw[Qp w,b1];simp
   .show(if l=a\/l∈rs then Qh else B l)≠Qh
    rw[Qp y,b2];simp
  .obtain⟨w,y⟩:=F b l e
   simp only[Qp w,Qp y];exact ok.bgt b l e
  .rw[Ru]at e
   by_cases q:i=j
   .subst q
    rw[Qt rfl]at e;split at e
    .cases e
     exact⟨_,N,a,_,O,⟨free a (.inl rfl),.inl P⟩,d4.den tr rl λr hr _=>free r (.inr hr)⟩
    .cases e
   .rw[Qp q]at e
    obtain⟨Q,R,u⟩:=ok.tell j s e;refine⟨Q,R,?_⟩;have g:∀c,B c=on (j+2)->¬(c=a\/c∈rs):=λc d2 z=>by rw[own c z]at d2;cases d2;exact q rfl
    cases s with
    |sh d=>exact cx.tr tr _ _ u
    |own cs=>
     obtain⟨c,J,d1,d2,d3,C⟩:=u;exact⟨c,J,d1,by simp only[Qp (g c d2)];exact d2,d3,bb.tr tr _ _ C⟩
    |grd rows2=>
     obtain⟨c,qs,d1,d2,d3,C,T⟩:=u;exact⟨c,qs,d1,by simp only[Qp (g c d2)];exact d2,d3,C,d4.tr tr T λr J _ p q=>⟨by simp only[Qp (g r p)];exact p,q⟩⟩
    |odc b ks vs=>
     obtain⟨c,d1,d2,d3⟩:=u;exact⟨c,d1,by simp only[Qp (g c d2)];exact d2,d3.tr tr λ_ z=>z⟩
 .rename_i b0 W Y L
  obtain⟨v,N,a,O,t,ep,ys,P,U,e5,e6⟩:=ok.tell i _ (getD_some L);have m:g0 B H (λc=>if c=a then Qh else B c) H:=by
   refine⟨λ_ _ h _=>h,λc hc=>?_,λc o h n=>?_,λ_ h=>h⟩
   .have:c≠a:=λz=>by subst z;rw[t]at hc;rcases hc with hc|hc<;>cases hc
    simp only[Qp this]
   .by_cases z:c=a
    .simp only[Qt z]
    .simp only[Qp z];exact n
  have tr:Tr (et B bg) H (et (λc=>if c=a then Qh else B c) bg) H:=m.tr;have F:∀b l,bg=on (b,l)->b≠a/\l≠a:=λb l e=>by
   obtain⟨b1,b2⟩:=ok.bgt b l e;exact⟨λz=>(by subst z;rw[t]at b1;cases b1),λz=>(by subst z;rw[t]at b2;cases b2)⟩
  refine⟨λc=>if c=a then Qh else B c,⟨⟨λc hc=>ok.fr.occ c ?_,λb l e=>?_,ok.fr.bag⟩,λb l e=>?_,by rw[Q3,ok.len],ok.cov,λc k hc=>(by
   have f:(if c=a then Qh else B c)=on (k+2):=hc;split at f
   .cases f
   .exact ok.new c k f),λc k hc=>(by
   have f:(if c=a then Qh else B c)=on (k+2):=hc;split at f
   .cases f
   .exact ok.lst c k f),λj s e=>?_⟩,m⟩
  .have f:(if c=a then Qh else B c)≠Qh:=hc
   split at f
   .exact QX rfl f
   .exact f
  .obtain⟨w,y⟩:=F b l e
   obtain⟨b1,b2⟩:=ok.bgt b l e;refine⟨?_,?_,(ok.fr.bgA b l e).2.2⟩
   .show(if b=a then Qh else B b)≠Qh
    rw[Qp w,b1];simp
   .show(if l=a then Qh else B l)≠Qh
    rw[Qp y,b2];simp
  .obtain⟨w,y⟩:=F b l e
   simp only[Qp w,Qp y];exact ok.bgt b l e
  .rw[Ru]at e
   by_cases q:i=j
   .subst q
    rw[Qt rfl]at e;split at e
    .cases e
     refine⟨_,N,?_⟩;show cx _ _ _ (.dct b0 W Y) _;unfold cx;refine⟨a,ep,ys,O,⟨λz=>?_,P⟩,U,λx hx=>(e5 x hx).tr tr,bb.tr tr _ _ e6⟩;have I:(if a=a then Qh else B a)≠Qh:=z;rw[Qt rfl]at I;exact I rfl
    .cases e
   .rw[Qp q]at e
    obtain⟨Q,R,u⟩:=ok.tell j s e;refine⟨Q,R,?_⟩;cases s with
    |sh d=>exact cx.tr tr _ _ u
    |own cs=>
     obtain⟨c,J,d1,d2,d3,C⟩:=u;have g:c≠a:=λz=>by subst z;rw[t]at d2;cases d2;exact q rfl
     exact⟨c,J,d1,by simp only[Qp g];exact d2,d3,bb.tr tr _ _ C⟩
    |grd a_=>
     obtain⟨c,rs,d1,d2,d3,C,T⟩:=u;have g:∀c,B c=on (j+2)->c≠a:=λc d2 z=>by subst z;rw[t]at d2;cases d2;exact q rfl
     exact⟨c,rs,d1,by simp only[Qp (g c d2)];exact d2,d3,C,d4.tr tr T λr J _ p q=>⟨by simp only[Qp (g r p)];exact p,q⟩⟩
    |odc b ks vs=>
     obtain⟨c,d1,d2,d3⟩:=u;have g:c≠a:=λz=>by subst z;rw[t]at d2;cases d2;exact q rfl
     exact⟨c,d1,by simp only[Qp g];exact d2,d3.tr tr λ_ z=>z⟩
 .exact⟨B,ok,g0.refl B H⟩
noncomputable def fzG(i:Nat)(g:G):G:=λδ β=>g (fz i δ) β
theorem ue(i:Nat)(h:PSs X sts (tG X.K X.H₀ g E)):PSs X sts (tG X.K X.H₀ (fzG i g) E):=h.imp λD f H c=>by
 obtain⟨B,bg,δ,β,o,a,ok,e,q⟩:=c;obtain⟨d,b,s⟩:=ok.freeze i;exact⟨d,bg,fz i δ,β,o,a,b,e,gz.pre s q⟩
noncomputable def ot(n:Nat)(ds:List D):Ds:=ds.map (λd=>on (Sl.sh d))++QE (n-ds.length) Qh
def fX(n:Nat)(g:G):List D->M D:=λds β=>match g (ot n ds) β with
 |some (.rt d,β')=>on (.ok d,β')
 |some (.nx _,β')=>on (.ok .non,β')
 |some (.ex C _,β')=>on (.error C,β')
 |_=>Qh
theorem tQ{F:Fx}{N:List Rl}(fr:Fr F H β)(hd:bb K F H ds vs):∃B,f_ K H B F.bg H (ot N.length ds) β (eX N vs)/\(∀a,F.A a->B a=on 0\/B a=on 1)/\(∀a,B a=on 1->∃b l,F.bg=on (b,l)/\(a=b\/a=l))/\(∀a,B a≠Qh->F.A a):=by
 classical
 refine⟨λa=>if F.A a then(if ∃b l,F.bg=on (b,l)/\(a=b\/a=l)then on 1 else on 0)else Qh,⟨⟨λa ha=>fr.occ a ?_,λb l e=>?_,fr.bag⟩,λb l e=>?_,?_,λ_ h=>h,λc k hc=>(by
  have f:(if F.A c then(if ∃b l,F.bg=on (b,l)/\(c=b\/c=l)then on 1 else on 0)else Qh)=on (k+2):=hc;split at f
  .split at f<;>cases f
  .cases f),λc k hc=>(by
  have f:(if F.A c then(if ∃b l,F.bg=on (b,l)/\(c=b\/c=l)then on 1 else on 0)else Qh)=on (k+2):=hc;split at f
  .split at f<;>cases f
  .cases f),λi s e=>?_⟩,λa ha=>?_,λa ha=>?_,λa ha=>?_⟩
 .have g:(if F.A a then(if ∃b l,F.bg=on (b,l)/\(a=b\/a=l)then on 1 else on 0)else Qh)≠(Qh:Option Nat):=ha
  split at g
  .assumption
  .exact QX rfl g
 .obtain⟨a1,a2,a3⟩:=fr.bgA b l e
  refine⟨?_,?_,a3⟩
  .show(if F.A b then(if ∃j l,F.bg=on (j,l)/\(b=j\/b=l)then on 1 else on 0)else Qh)≠(Qh:Option Nat)
   rw[Qt a1];split<;>simp
  .show(if F.A l then(if ∃j o,F.bg=on (j,o)/\(l=j\/l=o)then on 1 else on 0)else Qh)≠(Qh:Option Nat)
   rw[Qt a2];split<;>simp
 .obtain⟨a1,a2,a3⟩:=fr.bgA b l e
  exact⟨by rw[Qt a1,Qt ⟨b,l,e,.inl rfl⟩],by rw[Qt a2,Qt ⟨b,l,e,.inr rfl⟩]⟩
 .unfold ot eX
  rw[QV,QV,Qi,Qi,Sy,Sy,hd.length]
 .unfold ot at e
  unfold eX;rw[Wx,Qi]at e;rw[Wx,Qi,<-hd.length];by_cases m:i<ds.length
  .rw[Qt m,Qu]at e
   rw[Qt m,Qu];cases z:ds[i]? with
   |none=>rw[z]at e;cases e
   |some d=>
    rw[z]at e;cases e;obtain⟨v,q,r⟩:=hd.get z;refine⟨v,by rw[q];rfl,?_⟩;have n:Tr F H (et (λa=>if F.A a then(if ∃b l,F.bg=on (b,l)/\(a=b\/a=l)then on 1 else on 0)else Qh) F.bg) H:=by
     refine⟨λa ha _ t=>?_,λ_ _ _ h=>h,rfl⟩;have p:(if F.A a then(if ∃b l,F.bg=on (b,l)/\(a=b\/a=l)then on 1 else on 0)else Qh)≠(Qh:Option Nat):=t;rw[Qp ha]at p;exact p rfl
    exact cx.tr n _ _ r
  .rw[Qp m,SI]at e
   split at e<;>cases e
 .simp only[Qt ha]
  split
  .exact .inr rfl
  .exact .inl rfl
 .simp only at ha
  split at ha
  .split at ha
   .assumption
   .cases ha
  .cases ha
 .simp only at ha
  split at ha
  .assumption
  .exact QX rfl ha
variable{P:Rc}{w:Ro}{mg:Rl->Option Qv}{base:RQ}
theorem Ls{st:RT}{N ps:List Rl}(F:d5 K x qual st f fd)(S:cp N ps (ae st))
  (y:∀(j:Qv) (A:RG) (outer:List XH) (s:QA) (H:Hp) (E:XK),ej k (A.deeper (UU qual (ae st) s.heap.objs.size f j))->
   PSs (fi (g_ P w) P w K mg base N qual (ae st) f j A outer s H E) (ci st) (tG K H g (λ_=>E))):fw P w K mg base (g_ P w) (k+1) f fd ps (zv K ps.length (fX N.length g)):=by
 refine F.okE S (λvs H Q E h=>h.1) λj A outer s H vs Q E Y h=>?_;obtain⟨hl,p,ds,β,fr,hd,r,i,e,h⟩:=h;refine⟨_,y j A outer s H E Y,?_⟩;obtain⟨B,ok,T,Z,hn⟩:=tQ (N:=N) fr hd;have I:∀{u:Ow} {c:Hp},g0 B H u c->Fr (et u p.bg) c i->To p H c i/\Tr (et u p.bg) c p c:=λ{u c} s m=>by
  have hs:∀a,p.A a->u a≠Qh:=λa ha=>by
   rw[s.tg a (T a ha)];rcases T a ha with z|z<;>rw[z]<;>simp
  refine⟨⟨λa o ha n=>s.kp a o ha ?_,λa ha=>m.occ a (hs a ha),λb l e=>fr.bgA b l e,m.bag⟩,λa ha _ z=>ha (hs a z),λ_ _ _ h=>h,rfl⟩;cases q:B a with
  |none=>exact .inl rfl
  |some t=>
   have:=T a (hn a (by rw[q];simp));rcases this with z|z
   .rw[q]at z;exact .inr z
   .obtain⟨b,l,e,w⟩:=Z a z
    obtain⟨n1,n2⟩:=n b l e;rcases w with w|w
    .exact QX w n1
    .exact QX w n2
 unfold fX at e;split at e
 .rename_i d β1 O
  cases e;refine⟨B,p.bg,ot N.length ds,β,.rt d,i,ok,O,λv u c s m hv=>?_⟩;obtain⟨R,U⟩:=I s m;exact h v c R (cx.tr U _ _ hv)
 .rename_i J β1 O
  cases e;refine⟨B,p.bg,ot N.length ds,β,.nx J,i,ok,O,λW u c s L=>?_⟩;obtain⟨R,U⟩:=I s L.fr;exact h _ c R rfl
 .rename_i C J β1 O
  cases e;refine⟨B,p.bg,ot N.length ds,β,.ex C J,i,ok,O,λW u c s L=>?_⟩;obtain⟨R,U⟩:=I s L.fr;exact h c R
 .cases e
variable{prog:Rc}{A:RG}
theorem Qb(j:A.handled=Qh)(it t:Qs)(ne:t≠it)(items:Array Qv):Yd prog w A it [it,t] items.size (λi v=>items[i]?=on v) (λi h=>h.IsTupleIter it t i/\h.IsTuple t items) where
 live:=λ_ _ st=>let ⟨o,e,_⟩:=st.1;⟨o,e⟩
 frame:=λ_ _ _ st k=>⟨st.1.at λo e=>k it (by simp) o e,by
  obtain⟨o,e,r⟩:=st.2;exact⟨o,k t (by simp) o e,r⟩⟩
 item:=λi s Q E n st p=>by
  obtain⟨o,c,co,b⟩:=id st.1;obtain⟨l,d,_,nt,f⟩:=st.2;have g:items[i]?=on items[i]:=by simp[n]
  unfold SD;refine My (wpAny_callSpecial?_slot (name:=SX "__next__") st.1.typeIs Ui (Rt Ui st.1.typeIs Ye ?_ (X5 _)));show QJ _ _ (ZR (.ref it) 0>>=_) _ _ _;refine My (Se c b (x:= .ref t) rfl ?_);show QJ _ _ (if(QU t==RA)=Qo then _ else _) _ _ _;rw[Qp (show ¬((QU t==RA)=Qo)from Qx)];show QJ _ _ (ZR (.ref it) 1>>=_) _ _ _;refine My (Se c b (x:= .int i 0) rfl ?_);show QJ _ _ (seqItems? (.ref t)>>=_) _ _ _;refine My (SF d f ?_);simp only[Sc,g];refine My (UZ c b (by simp) (Qj ⟨items[i],rfl,Qj (p _ _ s.toks g ⟨?_,?_⟩ (Si ..))⟩))
  .exact⟨_,T1 _ c (Wt (SV b _)),(Xd ..).trans co,by rw[SV b];simp[UY]⟩
  .exact⟨l,(Si ..).extBut _ _ ne d,by assumption,nt,f⟩
 done:=λs Q E st q=>by
  obtain⟨o,c,co,b⟩:=id st.1;obtain⟨l,d,_,nt,f⟩:=st.2;have g:items[items.size]?=Qh:=by simp
  unfold SD;refine My (wpAny_callSpecial?_slot (name:=SX "__next__") st.1.typeIs Ui (Rt Ui st.1.typeIs Ye ?_ (X5 _)));show QJ _ _ (ZR (.ref it) 0>>=_) _ _ _;refine My (Se c b (x:= .ref t) rfl ?_);show QJ _ _ (if(QU t==RA)=Qo then _ else _) _ _ _;rw[Qp (show ¬((QU t==RA)=Qo)from Qx)];show QJ _ _ (ZR (.ref it) 1>>=_) _ _ _;refine My (Se c b (x:= .int items.size 0) rfl ?_);show QJ _ _ (seqItems? (.ref t)>>=_) _ _ _;refine My (SF d f ?_);simp only[Sc,g];refine My (T4 (My (UZ c b (by simp) ?_)));show QJ _ _ (newExc (.type "StopIteration") []>>=_) _ _ _;refine My ?_;simp only[newExc,newTuple];refine My (RO ?_ (by size_fits));refine My (m:=UV _ _) (Ur (a:=RA) (by first|rfl|(simp only[UV];rfl)) ?_);refine RO ?_ (by size_fits)
  simp only[raiseNew];refine My (ZA ?_)
  first|rw[show A.in1.handled=Qh from j]|rw[j];skip
  refine My (Qj (wpAny_throw ?_));exact q _ _ (((Si ..).extBut.push _).push _) ⟨_,QK _ rfl,rfl⟩
structure Ap (z TI TO i1 i2:Qs) (f1 f2:List Qs):Prop where
 a1:TI≠z
 a2:TO≠z
 a3:i1≠z
 a4:i2≠z
 a5:TI≠TO
 a6:TI≠i1
 a7:TI≠i2
 a8:TO≠i1
 a9:TO≠i2
 b1:i1≠i2
 c1:z∉f1
 c2:TO∉f1
 c3:i2∉f1
 d1:z∉f2
 d2:TO∉f2
 d3:i1∉f2
 m1:i1∈f1
 m2:i2∈f2
end
section
variable{prog:Rc}{w:Ro}{A:RG}{E:Qv->QA->Prop}{s:QA}
theorem bW{it:Qs}{f:List Qs}{h h':RQ}(a:Rb it h h')(n:it∉f):∀b∈f,∀o,h.get? b=on o->h'.get? b=on o:=λb c o e=>a.extBut b o (λq=>n (q▸c)) e
theorem yE{z TI TO r t:Qs}{f1 f2:List Qs}{u B k:Nat}{P1 P2:Nat->Qv->Prop}{W X:Nat->RQ->Prop}{a b:Qv}{Q:Qv->QA->Prop}(L:Yd prog w A r f1 u P1 W)(N:Yd prog w A t f2 B P2 X)(d:Ap z TI TO r t f1 f2)
  (P:V9 s.heap z TI TO .none) (eI:TN s.heap TI (.ref r) (.ref t)) (eO:TN s.heap TO a b) (s1:W k s.heap) (s2:X k s.heap) (k1:k<u) (k2:k<B)
  (hQ:∀h' tk x y,P1 k x->P2 k y->V9 h' z TI TO (UY s.heap.objs.size)->TN h' TO x y->W (k+1) h'->X (k+1) h'->TN h' s.heap.objs.size x y->h'.objs.size=s.heap.objs.size+1->(∀c o,c≠z->c≠TO->c≠r->c≠t->s.heap.get? c=on o->h'.get? c=on o)->Q (.ref s.heap.objs.size) {s with heap:=h',toks:=tk}):
  QJ (Q4 prog w) A (Builtin.«zip.__next__» ⟨[.ref z],[]⟩) (λZ s'=>∃v,Z= .done (.ret v)/\Q v s') E s:=by
 obtain⟨hp,gg,dd,tk0,os⟩:=s;show QJ _ _ (ZR (.ref z) 2>>=_) _ _ _;refine My (Se P rfl (x:= .bool Qr) rfl ?_);show QJ _ _ (ZR (.ref z) 3>>=_) _ _ _;refine My (Se P rfl (x:= .ref TI) rfl ?_);refine My (SF eI rfl ?_);show QJ _ _ (SO (.ref z)>>=_) _ _ _;refine My ?_;unfold SO;refine My (Se P rfl (x:= .none) rfl (Qj ?_));simp only[RF];refine My (T4 ?_);refine My (Se P rfl (x:= .ref TO) rfl ?_);refine My (Sf P (by simp) λg1 C g=>?_)
 replace C:V9 g1 z TI TO .ellipsis:=C
 replace g:Rb z hp g1:=g
 refine My ?_;simp only[List.zipIdx_cons,List.zipIdx_nil,Tg,Tx];refine My (My (Xj ?_));show QJ _ _ (SD (.ref r)>>=_) _ _ _;refine My (L.item k _ _ _ k1 (L.frame _ _ _ s1 (bW g d.c1)) λx g2 tk2 px st2 h=>Qj ?_)
 replace h:Rb r g1 g2:=h
 have R:TN g2 TO a b:=h.extBut _ _ d.a8 (g.extBut _ _ d.a2 eO);refine My (SF R rfl ?_);refine My (W4 R λg3 F i=>?_)
 replace F:TN g3 TO x b:=F
 replace i:Rb TO g2 g3:=i
 refine My (Yo (Qj ?_));refine My (My (Xj ?_));show QJ _ _ (SD (.ref t)>>=_) _ _ _;refine My (N.item k _ _ _ k2 (N.frame _ _ _ (N.frame _ _ _ (N.frame _ _ _ s2 (bW g d.d1)) (bW h d.d3)) (bW i d.d2)) λy g4 tk4 py st4 j=>Qj ?_)
 replace j:Rb t g3 g4:=j
 have T:TN g4 TO x b:=j.extBut _ _ d.a9 F;refine My (SF T rfl ?_);refine My (W4 T λf m l=>?_)
 replace m:TN f TO x y:=m
 replace l:Rb TO g4 f:=l
 refine My (Yo (Qj (Qj ?_)));refine My (SF m rfl ?_);refine My (Y0 ?_);have zs:f.objs.size=hp.objs.size:=by rw[l.1,j.1,i.1,h.1,g.1]
 have U:V9 f z TI TO .ellipsis:=l.extBut _ _ d.a2.symm (j.extBut _ _ d.a4.symm (i.extBut _ _ d.a2.symm (h.extBut _ _ d.a3.symm C)));have kp5:∀c o,c≠z->c≠TO->c≠r->c≠t->hp.get? c=on o->f.get? c=on o:=λc o u B n3 n4 e=>l.extBut _ _ B (j.extBut _ _ n4 (i.extBut _ _ B (h.extBut _ _ n3 (g.extBut _ _ u e))));have st1:W (k+1) f:=L.frame _ _ _ (L.frame _ _ _ (L.frame _ _ _ st2 (bW i d.c2)) (bW j d.c3)) (bW l d.c2);have st5:X (k+1) f:=N.frame _ _ _ st4 (bW l d.d2);have zl:z<f.objs.size:=QZ U;show QJ _ _ (Vn (.ref z) (.ref f.objs.size)>>=_) _ _ _;refine My ?_;unfold Vn;have ez6:V9 (f.push {cls:= .type "tuple",data:= .seq #[x,y]}) z TI TO .ellipsis:=Qm _ U;refine My (Sf ez6 (by simp) λg7 H I=>?_)
 replace H:V9 g7 z TI TO (UY f.objs.size):=H
 refine Sf H (by simp) λO p J=>?_
 replace p:V9 O z TI TO (UY f.objs.size):=p
 have Y:∀c o,c≠z->f.get? c=on o->O.get? c=on o:=λc o n e=>J.extBut _ _ n (I.extBut _ _ n (Qm _ e));have eT:TN O f.objs.size x y:=J.extBut _ _ (TR zl) (I.extBut _ _ (TR zl) (QK _ rfl));have z8:O.objs.size=f.objs.size+1:=by rw[J.1,I.1,Sj]
 rw[zs]at p eT z8;refine Qj ⟨_,rfl,?_⟩;show Q (.ref f.objs.size) ⟨O,gg,dd,_,os⟩;rw[zs];exact hQ O _ x y px py p (Y _ _ d.a2 m) (L.frame _ _ _ st1 λb hb o e=>Y b o (λq=>d.c1 (q▸hb)) e) (N.frame _ _ _ st5 λb hb o e=>Y b o (λq=>d.d1 (q▸hb)) e) eT z8 λc o u B n3 n4 e=>Y c o u (kp5 c o u B n3 n4 e)
theorem CP{z TI TO n r:Qs}{f1 f2:List Qs}(H:Yd prog w A n f1 m P1 S1)(I:Yd prog w A r f2 T P2 S2)(i:Ap z TI TO n r f1 f2)
  (u:V9 s.heap z TI TO .none) (Y:TN s.heap TI (.ref n) (.ref r)) (Z:TN s.heap TO a b) (U:S1 k s.heap) (s2:S2 k s.heap) (N:k=m\/(k<m/\k=T))
  (W:∀h' e tk,(∀c o,c≠z->c≠TO->c≠n->c≠r->s.heap.get? c=on o->h'.get? c=on o)->(∃o,h'.get? e=on o/\o.cls= .type "StopIteration")->E (.ref e) {s with heap:=h',toks:=tk}):
  QJ (Q4 prog w) A (Builtin.«zip.__next__» ⟨[.ref z],[]⟩) Q E s:=by
 obtain⟨hp,gg,dd,tk0,os⟩:=s;show QJ _ _ (ZR (.ref z) 2>>=_) _ _ _;refine My (Se u rfl (x:= .bool Qr) rfl ?_);show QJ _ _ (ZR (.ref z) 3>>=_) _ _ _;refine My (Se u rfl (x:= .ref TI) rfl ?_);refine My (SF Y rfl ?_);show QJ _ _ (SO (.ref z)>>=_) _ _ _;refine My ?_;unfold SO;refine My (Se u rfl (x:= .none) rfl (Qj ?_));simp only[RF];refine My (T4 ?_);refine My (Se u rfl (x:= .ref TO) rfl ?_);refine My (Sf u (by simp) λJ j f=>?_)
 replace j:V9 J z TI TO .ellipsis:=j
 replace f:Rb z hp J:=f
 refine My ?_;simp only[List.zipIdx_cons,List.zipIdx_nil,Tg,Tx];refine My (My (Xj ?_));show QJ _ _ (SD (.ref n)>>=_) _ _ _;rcases N with rfl|⟨N,rfl⟩
 .refine My (H.done _ _ _ (H.frame _ _ _ U (bW f i.c1)) λt e d O=>?_)
  replace d:Xl n J t:=d
  obtain⟨P,h,v⟩:=O;have y:V9 t z TI TO .ellipsis:=d _ _ i.a3.symm j;have p:e≠z:=λq=>by subst q;rw[y]at h;cases h;simp at v
  exact Sf y (by simp) λL _ g=>W L e _ (λc o m _ R _ q=>g.extBut _ _ m (d _ _ R (f.extBut _ _ m q))) ⟨P,g.extBut _ _ p h,v⟩
 .refine My (H.item k _ _ _ N (H.frame _ _ _ U (bW f i.c1)) λx t tk2 px st2 d=>Qj ?_)
  replace d:Rb n J t:=d
  have B:TN t TO a b:=d.extBut _ _ i.a8 (f.extBut _ _ i.a2 Z);refine My (SF B rfl ?_);refine My (W4 B λL eO3 g=>?_)
  replace g:Rb TO t L:=g
  refine My (Yo (Qj ?_));refine My (My (Xj ?_));show QJ _ _ (SD (.ref r)>>=_) _ _ _;refine My (I.done _ _ _ (I.frame _ _ _ (I.frame _ _ _ (I.frame _ _ _ s2 (bW f i.d1)) (bW d i.d3)) (bW g i.d2)) λX e l O=>?_)
  replace l:Xl r L X:=l
  obtain⟨P,h,v⟩:=O;have C:V9 X z TI TO .ellipsis:=l _ _ i.a4.symm (g.extBut _ _ i.a2.symm (d.extBut _ _ i.a3.symm j));have p:e≠z:=λq=>by subst q;rw[C]at h;cases h;simp at v
  exact Sf C (by simp) λg5 _ F=>W g5 e _ (λc o m T R n4 q=>F.extBut _ _ m (l _ _ n4 (g.extBut _ _ T (d.extBut _ _ R (f.extBut _ _ m q))))) ⟨P,F.extBut _ _ p h,v⟩
theorem yD{z TI TO e f:Qs}{f1 f2:List Qs}(i:∀d:RG,d.handled=A.handled->Yd prog w d e f1 n1 P1 S1)(j:∀d:RG,d.handled=A.handled->Yd prog w d f f2 n2 P2 S2)(l:Ap z TI TO e f f1 f2)
  (h:V9 s.heap z TI TO .none) (m:TN s.heap TI (.ref e) (.ref f)) (n:TN s.heap TO a b) (p:S1 k s.heap) (q:S2 k s.heap) (r:k<n1) (t:k<n2)
  (u:∀h' g x y,P1 k x->P2 k y->V9 h' z TI TO (UY s.heap.objs.size)->TN h' TO x y->S1 (k+1) h'->S2 (k+1) h'->TN h' s.heap.objs.size x y->h'.objs.size=s.heap.objs.size+1->(∀c o,c≠z->c≠TO->c≠e->c≠f->s.heap.get? c=on o->h'.get? c=on o)->Q (on (.ref s.heap.objs.size)) {s with heap:=h',toks:=g}):
  QJ (Q4 prog w) A (UX (.ref z)) Q E s:=by
 have ty:s.TypeIs (.ref z) "zip":=⟨_,h,rfl⟩;unfold UX;exact My (Vh (wpAny_callSpecial?_slot (name:=SX "__next__") ty Ww (Rt Ww ty F.entry_zip_next (yE (i _ rfl) (j _ rfl) l h m n p q r t λh' g x y a1 a2 a3 a4 a5 a6 a7 a8 a9=>Qj (u h' g x y a1 a2 a3 a4 a5 a6 a7 a8 a9)) (F.args_zip_next_1 _))))
theorem CO{z TI TO f g:Qs}{f1 f2:List Qs}(j:∀d:RG,d.handled=A.handled->Yd prog w d f f1 n1 P1 S1)(l:∀d:RG,d.handled=A.handled->Yd prog w d g f2 n2 P2 S2)(m:Ap z TI TO f g f1 f2)
  (h:V9 s.heap z TI TO .none) (n:TN s.heap TI (.ref f) (.ref g)) (p:TN s.heap TO a b) (q:S1 k s.heap) (r:S2 k s.heap) (t:k=n1\/(k<n1/\k=n2))
  (u:∀h' i,(∀c o,c≠z->c≠TO->c≠f->c≠g->s.heap.get? c=on o->h'.get? c=on o)->Q Qh {s with heap:=h',toks:=i}):QJ (Q4 prog w) A (UX (.ref z)) Q E s:=by
 have ty:s.TypeIs (.ref z) "zip":=⟨_,h,rfl⟩;unfold UX;refine My (Vh (wpAny_callSpecial?_slot (name:=SX "__next__") ty Ww (Rt Ww ty F.entry_zip_next (CP (j _ rfl) (l _ rfl) m h n p q r t λh' e i v y=>?_) (F.args_zip_next_1 _))));obtain⟨o,B,C⟩:=y;refine My (Td (T:="StopIteration") (b:=Qo) ⟨o,B,C⟩ YV ?_);exact Qj (u _ _ v)
def v0(b:Bool)(h:RQ)(a:Qs)(its:Array Qv):Prop:=if b=Qo then h.IsList a its else h.IsTuple a its
noncomputable def J0(b:Bool):String:=if b=Qo then "list_iterator"else "tuple_iterator"
noncomputable abbrev pz(b:Bool)(a:Qs):Q0:={cls:= .type (J0 b),data:= .fields #[.ref a,.int 0 0]}
def f6(b:Bool)(h:RQ)(it a:Qs)(k:Nat):Prop:=if b=Qo then h.IsListIter it a k else h.IsTupleIter it a k
theorem v0.keep{b:Bool}{h h':RQ}(x:v0 b h a its)(k:∀o,h.get? a=on o->h'.get? a=on o):v0 b h' a its:=by
 unfold v0 at x⊢;split at x
 .rename_i q;rw[Qt q];exact x.at λo e=>k o e
 .rename_i q;rw[Qp q]
  obtain⟨o,e,r⟩:=x;exact⟨o,k o e,r⟩
theorem o4{b:Bool}(x:v0 b s.heap a its)(h:Q (.ref s.heap.objs.size) {s with heap:=s.heap.push (pz b a)}):QJ (Q4 prog w) A (W2 (.ref a)) Q E s:=by
 cases b with
 |true=>exact We (show s.heap.IsList a its from x) h
 |false=>exact Xu (show s.heap.IsTuple a its from x) h
theorem sQ(b:Bool)(c:A.handled=Qh)(it a:Qs)(ne:a≠it)(its:Array Qv):Yd prog w A it [it,a] its.size (λi v=>its[i]?=on v) (λi h=>f6 b h it a i/\v0 b h a its):=by
 cases b with
 |true=>exact Zf c it a ne its
 |false=>exact Qb c it a ne its
abbrev zH1(b1:Bool)(h:RQ)(l1:Qs):RQ:=h.push (pz b1 l1)
abbrev zH2(b1 b2:Bool)(h:RQ)(l1 a:Qs):RQ:=(zH1 b1 h l1).push (pz b2 a)
abbrev zH3(b1 b2:Bool)(h:RQ)(l1 a:Qs):RQ:=(zH2 b1 b2 h l1 a).push {cls:= .type "tuple",data:= .seq #[.ref h.objs.size,.ref (zH1 b1 h l1).objs.size]}
abbrev zH4(b1 b2:Bool)(h:RQ)(l1 a:Qs):RQ:=(zH3 b1 b2 h l1 a).push {cls:= .type "tuple",data:= .seq #[.none,.none]}
abbrev O2(b1 b2:Bool)(h:RQ)(l1 a:Qs):RQ:=(zH4 b1 b2 h l1 a).push {cls:= .type "zip",data:= .fields #[.none,.bool Qr,.bool Qr,.ref (zH2 b1 b2 h l1 a).objs.size,.ref (zH3 b1 b2 h l1 a).objs.size]}
theorem xL(b1 b2:Bool)(l1 a:Qs)(xs ys:Array Qv):
  Meets (Builtin.«zip.__new__» ⟨[.type "zip",.ref l1,.ref a],[]⟩) (λ_ R s=>v0 b1 s.heap l1 xs/\v0 b2 s.heap a ys/\R (.ok (.ret (.ref (zH4 b1 b2 s.heap l1 a).objs.size))) {s with heap:=O2 b1 b2 s.heap l1 a}):=
 .of_wp λprog w A R s h=>by
  obtain⟨b,g,d,c,os⟩:=s;obtain⟨i,j,q⟩:=h;have f:=sub_zip;have k:v0 b1 (Shared.heap ⟨b,g,d,c,os⟩) l1 xs:=i;have l:v0 b2 (Shared.heap ⟨b.push (pz b1 l1),g,d,c,os⟩) a ys:=j.keep λo e=>Qm _ e
  wp_walk using o4 k,o4 l
  exact⟨_,rfl,q⟩
theorem BU{b1 b2:Bool}(q:v0 b1 s.heap l1 xs)(r:v0 b2 s.heap l2 ys)
  (h:∀h',V9 h' (s.heap.objs.size+4) (s.heap.objs.size+2) (s.heap.objs.size+3) .none->TN h' (s.heap.objs.size+2) (.ref s.heap.objs.size) (.ref (s.heap.objs.size+1))->TN h' (s.heap.objs.size+3) .none .none->f6 b1 h' s.heap.objs.size l1 0->f6 b2 h' (s.heap.objs.size+1) l2 0->h'.objs.size=s.heap.objs.size+5->(∀c o,s.heap.get? c=on o->h'.get? c=on o)->Q (.ref (s.heap.objs.size+4)) {s with heap:=h'}):
  QJ (Q4 prog w) A (Xq (.type "zip") [.ref l1,.ref l2]) Q E s:=by
 refine callType_new F.called_zip (by decide) (F.typeCall_zip_2 _ _) (F.newCall_zip_2 _ _) (λobj=>F.args_object_init_3 obj _ _) F.entry_zip_new (xL b1 b2 l1 l2 xs ys) ⟨q,r,?_⟩;have f:(zH1 b1 s.heap l1).objs.size=s.heap.objs.size+1:=Sj ..;have g:(zH2 b1 b2 s.heap l1 l2).objs.size=s.heap.objs.size+2:=by rw[Sj,f]
 have i:(zH3 b1 b2 s.heap l1 l2).objs.size=s.heap.objs.size+3:=by rw[Sj,g]
 have j:(zH4 b1 b2 s.heap l1 l2).objs.size=s.heap.objs.size+4:=by rw[Sj,i]
 have t:(O2 b1 b2 s.heap l1 l2).objs.size=s.heap.objs.size+5:=by rw[Sj,j]
 have k:(O2 b1 b2 s.heap l1 l2).get? (zH4 b1 b2 s.heap l1 l2).objs.size=on _:=QK _ rfl;have l:(O2 b1 b2 s.heap l1 l2).get? (zH3 b1 b2 s.heap l1 l2).objs.size=on _:=Qm _ (QK _ rfl);have m:(O2 b1 b2 s.heap l1 l2).get? (zH2 b1 b2 s.heap l1 l2).objs.size=on _:=Qm _ (Qm _ (QK _ rfl));have n:(O2 b1 b2 s.heap l1 l2).get? (zH1 b1 s.heap l1).objs.size=on _:=Qm _ (Qm _ (Qm _ (QK _ rfl)));have u:(O2 b1 b2 s.heap l1 l2).get? s.heap.objs.size=on _:=Qm _ (Qm _ (Qm _ (Qm _ (QK _ rfl))));show _/\_;rw[g,i,j]at k;rw[f,g]at m;rw[i]at l;rw[f]at n;rw[j];have d:∀(b:Bool) (h':RQ) (p a:Qs),h'.get? p=on (pz b a)->f6 b h' p a 0:=λb h' p a e=>by
  cases b with
  |true=>exact⟨_,e,rfl,rfl⟩
  |false=>exact⟨_,e,rfl,rfl⟩
 exact⟨⟨_,k,rfl⟩,h _ k m l (d _ _ _ _ u) (d _ _ _ _ n) t λc o x=>Qm _ (Qm _ (Qm _ (Qm _ (Qm _ x))))⟩
def tx(b:Bool)(K:QR)(H:Hp)(a:Qs)(xs:List V):Prop:=if b=Qo then f0 K H a xs else hO K H a xs
noncomputable def Itz(b1 b2:Bool)(K:QR)(l1 a:Qs):It:=
 ⟨λi H=>∃xs ys x y,tx b1 K H l1 xs/\tx b2 K H a ys/\xs[i]?=on x/\ys[i]?=on y,
  λi H v b=>∃p x y,H p=Qh/\v= .ref p/\b=upd H p (.tup [x,y])/\∀xs ys,tx b1 K H l1 xs->tx b2 K H a ys->xs[i]?=on x/\ys[i]?=on y,
  λi H=>∃xs ys,tx b1 K H l1 xs/\tx b2 K H a ys/\(xs.length=i\/(i<xs.length/\ys.length=i))⟩
variable{X:Cx}{ba:List (Qs×Q0)}{σ:St}{H:Hp}
theorem c4.src{b:Bool}(I:c4 X ba σ H s)(h:tx b X.K H a xs):∃its:List Qv,aw xs its/\v0 b s.heap a its.toArray:=by
 cases b with
 |true=>
  obtain⟨its,r,p,_⟩:=I.list (show f0 X.K H a xs from h);exact⟨its,r,p.isList⟩
 |false=>
  obtain⟨its,r,p,_⟩:=I.tuple (show hO X.K H a xs from h);exact⟨its,r,p⟩
theorem c4.src_inj{b:Bool}(I:c4 X ba σ H s)(h:tx b X.K H a xs)(h':tx b X.K H a ys):xs=ys:=by
 cases b with
 |true=>exact I.list_inj (show f0 X.K H a xs from h) h'
 |false=>exact I.tuple_inj (show hO X.K H a xs from h) h'
theorem f6.get{b:Bool}{h:RQ}(x:f6 b h it a k):∃o,h.get? it=on o/\o.cls= .type (J0 b)/\∃fs,o.data= .fields fs:=by
 cases b with
 |true=>obtain⟨o,e,c,d⟩:=(show h.IsListIter it a k from x);exact⟨o,e,c,_,d⟩
 |false=>obtain⟨o,e,c,d⟩:=(show h.IsTupleIter it a k from x);exact⟨o,e,c,_,d⟩
theorem f6.keep{b:Bool}{h h':RQ}(x:f6 b h it a k)(q:∀o,h.get? it=on o->h'.get? it=on o):f6 b h' it a k:=by
 cases b with
 |true=>exact(show h.IsListIter it a k from x).at λo e=>q o e
 |false=>exact(show h.IsTupleIter it a k from x).at λo e=>q o e
theorem c4.turnNew{h':RQ}{t':Nat}{ch:List Qs}{p:Qs}{o:HO}(I:c4 X ba σ H s)(a:∀b∈ch,eS X ba H b)(k:∀b u,b∉ch->s.heap.get? b=on u->h'.get? b=on u)(d:s.heap.objs.size<=p)(new:bD X.prog X.w (upd H p o) h' p o):c4 X ba σ (upd H p o) {s with heap:=h',toks:=t'}:=by
 have hn:H p=Qh:=I.hok.fresh d;have nt:∀b u,H b=on u->b∉ch:=λb u e z=>by rw[(a b z).1]at e;cases e
 refine I.call' (s':={s with heap:=h',toks:=t'}) (ch:=ch) rfl ⟨λb u e _ _ hc=>k b u hc e,λb u e _ _ hc=>⟨u.slots,k b u hc e⟩,λb u e z hc=>?_,λb u e hc=>⟨u,k b u hc e⟩,λb ys e=>?_,λb u ys e=>?_,λb ys e=>⟨#[],?_⟩⟩ (λb u e=>?_) I.bare λb f=>?_
 .rw[b_ (Rr (QY (QZ e) d))];exact z
 .rw[b_ (ay e hn)];exact e
 .rw[b_ (ay e hn)];exact e
 .rw[b_ (ay e hn),e];simp
 .by_cases z:b=p
  .subst z;rw[ah]at e;cases e;exact new
  .rw[b_ z]at e
   refine(I.hok b u e).stay (λc v hc q=>k c v ?_ q) (λc q=>by rw[b_ (ay q hn)];exact q) λc xs q=>by rw[b_ (ay q hn)];exact q
   rcases hc with rfl|hc
   .exact nt _ _ e
   .exact nt _ _ hc
 .obtain⟨j,f1,f2,g,h,i⟩:=a b f
  exact⟨g,f1,h,i⟩
theorem c4.turnL{h':RQ}{ch:List Qs}(I:c4 X ba σ H s)(a:∀b∈ch,eS X ba H b)(k:∀b u,b∉ch->s.heap.get? b=on u->h'.get? b=on u):c4 X ba σ H {s with heap:=h',toks:=t'}:=by
 have nt:∀b u,H b=on u->b∉ch:=λb u e z=>by rw[(a b z).1]at e;cases e
 refine I.call' (s':={s with heap:=h',toks:=t'}) (ch:=ch) rfl ⟨λb u e _ _ hc=>k b u hc e,λb u e _ _ hc=>⟨u.slots,k b u hc e⟩,λb u e z hc=>z,λb u e hc=>⟨u,k b u hc e⟩,λb ys e=>e,λb u ys e=>e,λb ys e=>⟨#[],by rw[e];simp⟩⟩ (λb u e=>?_) I.bare λb d=>?_
 .refine(I.hok b u e).stay (λc v hc q=>k c v ?_ q) (λc q=>q) λc xs q=>q
  rcases hc with rfl|hc
  .exact nt _ _ e
  .exact nt _ _ hc
 .obtain⟨i,f1,f2,f,g,h⟩:=a b d
  exact⟨f,f1,g,h⟩
theorem c4.src_ne{b:Bool}(I:c4 X ba σ H s)(h:tx b X.K H a xs)(f:eS X ba H c):a≠c:=by
 obtain⟨i,f1,f2,f3,j,k⟩:=f;have d:∀o,X.K.lookup a=on o->a≠c:=λo e z=>by
  have g:=I.ok.mod.kin a o e;subst z;rcases f3 with f3|f3
  .exact I.ok.noex a o g f3
  .exact QX (QY (QZ (I.ok.bs a o g).1) f3) (Rv _)
 have rd:∀u,Rd H a u->a≠c:=λu r z=>by
  subst z;rcases r with r|⟨_,r⟩<;>rw[i]at r<;>cases r
 cases b with
 |true=>
  rcases(show f0 X.K H a xs from h)with h|⟨o,_,_,e,_⟩
  .exact rd _ h
  .exact d o e
 |false=>
  rcases(show hO X.K H a xs from h)with h|⟨o,_,_,e,_⟩
  .exact rd _ h
  .exact d o e
theorem CW{w:Ro}{K:QR}{x1}(b1 b2:Bool)(l1 B z TI TO f g:Qs)(nd:[z,TI,TO,f,g].Nodup):
  m3 P w K (.Tuple elts x1 pos) (Itz b1 b2 K l1 B) [z,TI,TO,f,g] z (λi h=>V9 h z TI TO .none/\TN h TI (.ref f) (.ref g)/\(∃a b,TN h TO a b)/\f6 b1 h f l1 i/\f6 b2 h g B i) where
 mem:=by simp
 obj:=λi h st b j=>by
  obtain⟨n,p,⟨a,Z,C⟩,F,J⟩:=st;simp only[QD,R7,UM]at j;rcases j with rfl|rfl|rfl|rfl|rfl
  .exact⟨_,n,λv q=>by cases q⟩
  .exact⟨_,p,λv q=>by cases q⟩
  .exact⟨_,C,λv q=>by cases q⟩
  .obtain⟨o,e,_,fs,d⟩:=F.get
   exact⟨o,e,λv q=>by rw[d]at q;cases q⟩
  .obtain⟨o,e,_,fs,d⟩:=J.get
   exact⟨o,e,λv q=>by rw[d]at q;cases q⟩
 keep:=λi h h' st k=>by
  obtain⟨n,p,⟨a,Z,C⟩,F,J⟩:=st;exact⟨k z (by simp) _ n,k TI (by simp) _ p,⟨a,Z,k TO (by simp) _ C⟩,F.keep λo e=>k f (by simp) o e,J.keep λo e=>k g (by simp) o e⟩
 item:=by
  intro X hP hw hK hc i ba s σ H E I L st hg;subst hP hw hK;obtain⟨xs,ys,x,y,q1,q2,hx,hy⟩:=hg;obtain⟨n,p,⟨a,Z,C⟩,F,J⟩:=st;obtain⟨l,r1,p1⟩:=c4.src I q1;obtain⟨m,r2,p2⟩:=c4.src I q2;have hd:=I.ok.hd hc;simp only[Rf,QD,R7,UM,not_or]at nd;obtain⟨⟨U,z2,R,T⟩,⟨t1,t2,t3⟩,⟨W,o2⟩,O,_⟩:=nd;have r:∀c∈[z,TI,TO,f,g],l1≠c:=λc hc=>c4.src_ne I q1 (L c hc);have t:∀c∈[z,TI,TO,f,g],B≠c:=λc hc=>c4.src_ne I q2 (L c hc);have ap:Ap z TI TO f g [f,l1] [g,B]:=⟨Ne.symm U,Ne.symm z2,Ne.symm R,Ne.symm T,t1,t2,t3,W,o2,O,by simp[R,(r z (by simp)).symm],by simp[W,(r TO (by simp)).symm],by simp[Ne.symm O,(r g (by simp)).symm],by simp[T,(t z (by simp)).symm],by simp[o2,(t TO (by simp)).symm],by simp[O,(t f (by simp)).symm],by simp,by simp⟩;have k1:i<l.toArray.size:=by
   rw[QO,<-r1.length];exact(QI.mp hx).1
  have k2:i<m.toArray.size:=by
   rw[QO,<-r2.length];exact(QI.mp hy).1
  refine yD (λA' h'=>sQ b1 (h'.trans hd) f l1 (r f (by simp)) l.toArray) (λA' h'=>sQ b2 (h'.trans hd) g B (t g (by simp)) m.toArray) ap n p C ⟨F,p1⟩ ⟨J,p2⟩ k1 k2 λh' tk u v pu pv fz fO f1 f2 fT sz kp=>?_;refine⟨_,rfl,wpAny_letOwnedTupleGo_zip (s:={s with heap:=h',toks:=tk}) fz λQ Y N=>?_⟩
  replace N:Rb z h' Q:=N
  have zT:s.heap.objs.size≠z:=TR (QZ n);obtain⟨u',hu,ru⟩:=r1.get hx;obtain⟨v',hv,rv⟩:=r2.get hy;have eu:u=u':=by
   have:l[i]?=on u:=by simpa using pu
   rw[this]at hu;exact Q7 hu
  have ev:v=v':=by
   have:m[i]?=on v:=by simpa using pv
   rw[this]at hv;exact Q7 hv
  subst eu ev;have kk:∀b o,b∉[z,TI,TO,f,g]->s.heap.get? b=on o->Q.get? b=on o:=λb o j e=>by
   simp only[QD,R7,UM,not_or]at j;exact N.extBut b o j.1 (kp b o j.1 j.2.2.1 j.2.2.2.1 j.2.2.2.2 e)
  have I2:c4 X ba σ (upd H s.heap.objs.size (.tup [x,y])) {s with heap:=Q,toks:=tk}:=by
   refine c4.turnNew I L kk (Qz _) ⟨by show 2<=QN;decide,[u,v],.cons ru (.cons rv .nil),_,N.extBut _ _ zT fT,rfl,_,rfl⟩
  refine⟨.ref s.heap.objs.size,_,I2,rfl,⟨s.heap.objs.size,x,y,I.hok.fresh (Qz _),rfl,rfl,λas bs h1 h2=>⟨by rw[c4.src_inj I h1 q1];exact hx,by rw[c4.src_inj I h2 q2];exact hy⟩⟩,⟨Y,?_,⟨u,v,?_⟩,?_,?_⟩,λb j=>?_⟩
  .exact N.extBut _ _ (Ne.symm U) (kp TI _ (Ne.symm U) t1 t2 t3 p)
  .exact N.extBut _ _ (Ne.symm z2) fO
  .exact f1.1.keep λo e=>N.extBut _ _ (Ne.symm R) e
  .exact f2.1.keep λo e=>N.extBut _ _ (Ne.symm T) e
  .rw[b_]
   .exact(L b j).1
   .intro q
    have ol:∃o,s.heap.get? b=on o:=by
     simp only[QD,R7,UM]at j;rcases j with rfl|rfl|rfl|rfl|rfl
     .exact⟨_,n⟩
     .exact⟨_,p⟩
     .exact⟨_,C⟩
     .obtain⟨o,e,_⟩:=F.get;exact⟨o,e⟩
     .obtain⟨o,e,_⟩:=J.get;exact⟨o,e⟩
    obtain⟨o,e⟩:=ol;exact QX (QZ e) (by rw[q];exact Rv _)
 done:=by
  intro X hP hw hK hc i ba s σ H E I L st hg;subst hP hw hK;obtain⟨xs,ys,q1,q2,hl⟩:=hg;obtain⟨n,p,⟨a,Z,C⟩,F,J⟩:=st;obtain⟨l,r1,p1⟩:=c4.src I q1;obtain⟨m,r2,p2⟩:=c4.src I q2;have hd:=I.ok.hd hc;simp only[Rf,QD,R7,UM,not_or]at nd;obtain⟨⟨U,z2,R,T⟩,⟨t1,t2,t3⟩,⟨W,o2⟩,O,_⟩:=nd;have r:∀c∈[z,TI,TO,f,g],l1≠c:=λc hc=>c4.src_ne I q1 (L c hc);have t:∀c∈[z,TI,TO,f,g],B≠c:=λc hc=>c4.src_ne I q2 (L c hc);have ap:Ap z TI TO f g [f,l1] [g,B]:=⟨Ne.symm U,Ne.symm z2,Ne.symm R,Ne.symm T,t1,t2,t3,W,o2,O,by simp[R,(r z (by simp)).symm],by simp[W,(r TO (by simp)).symm],by simp[Ne.symm O,(r g (by simp)).symm],by simp[T,(t z (by simp)).symm],by simp[o2,(t TO (by simp)).symm],by simp[O,(t f (by simp)).symm],by simp,by simp⟩;have g1:l.toArray.size=xs.length:=by rw[QO,<-r1.length]
  have g2:m.toArray.size=ys.length:=by rw[QO,<-r2.length]
  refine CO (λA' h'=>sQ b1 (h'.trans hd) f l1 (r f (by simp)) l.toArray) (λA' h'=>sQ b2 (h'.trans hd) g B (t g (by simp)) m.toArray) ap n p C ⟨F,p1⟩ ⟨J,p2⟩ ?_ λh' tk kp=>⟨rfl,c4.turnL I L λb o j e=>?_⟩
  .rw[g1,g2]
   rcases hl with hl|⟨h1,h2⟩
   .exact .inl hl.symm
   .exact .inr ⟨h1,h2.symm⟩
  .simp only[QD,R7,UM,not_or]at j
   exact kp b o j.1 j.2.2.1 j.2.2.2.1 j.2.2.2.2 e
 self:=λ_ _ _ _ _ st h=>wpAny_pyIter_zip st.1 h
end
section
variable{X:Cx}{E:St->XK}{K:QR}
def iZp(K:QR)(c:TA):TI:=λd H R=>c d H λvs a=>∃b1 b2 l1 b xs ys,vs=[.ref l1,.ref b]/\tx b1 K a l1 xs/\tx b2 K a b ys/\R (Itz b1 b2 K l1 b) a
theorem MF{x1}(v:Gl X "zip")(hm:X.mg "zip"=Qh)(ha:PA X [a,b] ta)(hs:QH [a,b] X.env=[(Qr,RN a X.env),(Qr,RN b X.env)]:=by rfl)(g:QH [b] X.env=[(Qr,RN b X.env)]:=by rfl):
  PI X (.Tuple elts x1 tpos) (.Call (.Name "zip" p) [a,b] [] pos) (iZp X.K ta):=by
 intro f s n H R I h;refine Call_ (fP I v hm PyProof.Rows.Boot.«zip» (Sd (en (ha pos f s n H _ I h) λus d ⟨vs,o,i,r1,q1⟩=>?_) (by rw[hs,g]) (by rw[g];rfl)));obtain⟨b1,b2,l1,t,xs,ys,e,q1,q2,q⟩:=q1;subst e;cases r1 with
 |cons r k=>
  cases k with
  |cons w k=>
   cases k;cases r;cases w;obtain⟨y,N,A⟩:=c4.src i q1;obtain⟨B,O,C⟩:=c4.src i q2;refine BU A C λh' u F J l m sz kp=>?_;refine wpAny_pyIter_zip (s:={d with heap:=h'}) u ?_;have L:c4 X f n o {d with heap:=h'}:=i.kept (t':=d.toks) kp;refine⟨_,[d.heap.objs.size+4,d.heap.objs.size+2,d.heap.objs.size+3,d.heap.objs.size,d.heap.objs.size+1],_,Itz b1 b2 X.K l1 t,o,rfl,L,CW b1 b2 l1 t (d.heap.objs.size+4) (d.heap.objs.size+2) (d.heap.objs.size+3) d.heap.objs.size (d.heap.objs.size+1) (by simp),⟨u,F,⟨_,_,J⟩,l,m⟩,λc hc=>?_,q⟩;have j:d.heap.objs.size<=c:=by
    simp only[QD,R7,UM]at hc;rcases hc with rfl|rfl|rfl|rfl|rfl
    .exact Sg _ _
    .exact Sg _ _
    .exact Sg _ _
    .exact Qz _
    .exact Sg _ _
   exact i.fpOk j (i.hok.fresh j)
noncomputable def dP:List D->List D->List D
 |x::xs,y::ys=> .tup [x,y]::dP xs ys
 |_,_=>[]
theorem sZ:∀(xs ys:List D),(dP xs ys).length=V0 xs.length ys.length
 |[],ys=>by simp[dP]
 |x::xs,[]=>by simp[dP]
 |x::xs,y::ys=>by
  show(dP xs ys).length+1=_;rw[sZ xs ys,QP,QP];omega
theorem tj:∀{xs ys:List D} {i:Nat} {d:D},(dP xs ys)[i]?=on d->∃x y,xs[i]?=on x/\ys[i]?=on y/\d= .tup [x,y]
 |[],ys,i,d,h=>by simp[dP]at h
 |x::xs,[],i,d,h=>by simp[dP]at h
 |x::xs,y::ys,0,d,h=>by
  simp[dP]at h;exact⟨x,y,rfl,rfl,h.symm⟩
 |x::xs,y::ys,i+1,d,h=>by
  have h':(dP xs ys)[i]?=on d:=by simpa[dP]using h
  obtain⟨a,b,c,e,f⟩:=tj h';exact⟨a,b,by simpa using c,by simpa using e,f⟩
def CQ:List D->Option (List D)
 |[a,b]=>(eY a).bind λxs=>(eY b).map λys=>dP xs ys
 |_=>Qh
theorem cx.sqS(h:cx K F H d v)(e:eY d=on ds):∃b a,v= .ref a/\∀f c,Tr F H f c->∃xs,tx b K c a xs/\bb K f c ds xs:=by
 cases d<;>first
  |(cases e;obtain⟨a,xs,rfl,_⟩:=cx.sqL h;refine⟨Qo,a,rfl,λf c t=>?_⟩;obtain⟨j,ys,g,sq,i⟩:=cx.sqL (cx.tr t _ _ h);cases g;exact⟨ys,sq,i⟩)
  |(cases e;obtain⟨a,xs,rfl,_⟩:=cx.sqT h;refine⟨Qr,a,rfl,λf c t=>?_⟩;obtain⟨j,ys,g,sq,i⟩:=cx.sqT (cx.tr t _ _ h);cases g;exact⟨ys,sq,i⟩)
  |cases e
theorem Lk{b1 b2:Bool}(n:∀b a,Tr F H b a->∃xs,tx b1 K a l1 xs/\bb K b a ds xs)(o:∀b a,Tr F H b a->∃xs,tx b2 K a l2 xs/\bb K b a es xs):v_ K (Itz b1 b2 K l1 l2) F H (dP ds es):=λb a β2 t fr i=>by
 obtain⟨xs,c,d1⟩:=n b a t;obtain⟨ys,e,d2⟩:=o b a t;refine⟨λd hd=>?_,λq=>?_⟩
 .obtain⟨x,y,f,g,rfl⟩:=tj hd
  obtain⟨u,h,du⟩:=d1.get f;obtain⟨v,j,r⟩:=d2.get g;refine⟨⟨xs,ys,u,v,c,e,h,j⟩,λz B w=>?_⟩;obtain⟨p,C,I,k,rfl,rfl,A⟩:=w;obtain⟨l,m⟩:=A xs ys c e;rw[h]at l;rw[j]at m;cases l;cases m;exact⟨bE.upd k,cx.newT fr k (bb.cons du (bb.cons r bb.nil))⟩
 .rw[sZ]at q
  have f:=d1.length;have g:=d2.length;refine⟨xs,ys,c,e,?_⟩;rw[<-f,<-g];omega
def xI(g:FL):FL:=cY CQ g
theorem sI{x1}(o:Gl X "zip")(hm:X.mg "zip"=Qh)(ha:PA X [a,b] (jm X.K g E))(hs:QH [a,b] X.env=[(Qr,RN a X.env),(Qr,RN b X.env)]:=by rfl)(i:QH [b] X.env=[(Qr,RN b X.env)]:=by rfl):
  PI X (.Tuple elts x1 tpos) (.Call (.Name "zip" p) [a,b] [] pos) (iV X.K (xI g) E):=
 (MF o hm ha hs i).imp λC H R j=>li j λF δ β fr q h=>⟨F,δ,β,fr,q,(run.bind (R:=bb X.K F) h).mono λvs f j=>by
  obtain⟨ds,β1,t,hd,r1⟩:=j;obtain⟨l,e,k⟩:=run.ofO r1;unfold CQ at e;split at e
  .rename_i c d
   obtain⟨v,I,rfl,r,u⟩:=bb.two hd;cases q1:eY c with
   |none=>rw[q1]at e;cases e
   |some xs=>
    cases q2:eY d with
    |none=>rw[q1,q2]at e;cases e
    |some ys=>
     rw[q1,q2]at e;cases e;obtain⟨b1,l1,rfl,m⟩:=cx.sqS r q1;obtain⟨b2,w,rfl,n⟩:=cx.sqS u q2;obtain⟨us,y,_⟩:=m F f (Tr.refl F f);obtain⟨A,B,_⟩:=n F f (Tr.refl F f);exact⟨b1,b2,l1,w,us,A,rfl,y,B,k _ f (To.refl t.fr) (Lk m n)⟩
  .cases e⟩
variable{es:List Expr}
end
section
variable{P:Rc}{w:Ro}{K:QR}{mg:Rl->Option Qv}{base:RQ}{N:List Rl}{qual:Rl}{scope:Scope}{f:Qs}{cd:Qv}{A:RG}{outer:List XH}{s:QA}{H:Hp}{E:XK}
end
section
variable{X:Cx}{E:St->XK}{K:QR}
variable{elt cy iter:Expr}{ifs:List Expr}{rest:List Ss}{scope:Scope}{pos:Vm}{Nc dr:List Rl}{c_:List Nat}{g:TG}{tb:Qs->TB}
theorem aY:dQ X [] (hY X.K (λ_=>M.ret Qo) E0):=λa s b H Q I c=>by obtain⟨F,δ,β,fr,d,r⟩:=c;exact uq a s b H Q I (run.ret fr r rfl)
theorem sO(hc:PT X c (hY X.K t E0)):dQ X [c] (hY X.K t E0):=DS hc
theorem bq(hc:X.calm=Qo)(S:dt X scope Nc dr c_)(c:PI X cy iter (iV X.K it E))
  (d:∀(cl:List (Rl×Qs)) (C:Qs) (a:List Qs) (s:QA) (H:Hp),PG (aK X Nc scope cl C a s H) cy g/\dQ (aK X Nc scope cl C a s H) ifs (hY X.K tt E0)/\∀D,PB (aK X Nc scope cl C a s H) elt (⟨cy,iter,ifs,0⟩::rest) scope pos 0 D (tb D))
  (e:c7 X.K g tg) (f:eD tg) (i:∀D,m6 X.K D (tb D) b) (hs:∀x,RC iter X.env x=SY x:=by intro _;rfl):PE X (.ListComp elt (⟨cy,iter,ifs,0⟩::rest) scope pos) (tV X.K (cK dr.length c_ it tg tt b) E):=
 (wb hc S c d hs).imp λj H Q h=>tM e f i h
theorem zj{a c:Vm}(j:X.N.Nodup)(d:X.N[i]?=on x)(k:y3 X.env.scope x)(hc:X.calm=Qo)(S:dt X scope Nc dr c_)(l:PI X cy iter (iV X.K it E))
  (m:∀(cl:List (Rl×Qs)) (C:Qs) (f:List Qs) (s:QA) (H:Hp),PG (aK X Nc scope cl C f s H) cy g/\dQ (aK X Nc scope cl C f s H) ifs (hY X.K tt E0)/\∀D,PB (aK X Nc scope cl C f s H) elt (⟨cy,iter,ifs,0⟩::rest) scope pos 0 D (tb D))
  (n:c7 X.K g tg) (o:eD tg) (p:∀D,m6 X.K D (tb D) b)
  (e:Vb (.ListComp elt (⟨cy,iter,ifs,0⟩::rest) scope pos) (on (.Name x a)) c.line X.env=SY Qo:=by rfl)
  (hs:∀x,RC iter X.env x=SY x:=by intro _;rfl) (q:X.fn x=Qo\/X.env.scope.names.lookup x=on .local:=by first|exact .inl rfl|exact .inr rfl|assumption):
  PS X (.Assign [.Name x a] (.ListComp elt (⟨cy,iter,ifs,0⟩::rest) scope pos) c) (tG X.K X.H₀ (fV i (cK dr.length c_ it tg tt b)) E):=
 aF ((v6 j d k hc S l m e hs q).imp λD r H h=>tM n o p h)
noncomputable def negD:D->Option D
 | .int i=>on (.int (-i))
 |_=>Qh
theorem PH:Kf K (rU λi=> .int (-i)) negD:=λF H β Q d1 d b fr a e k=>by
 cases d1<;>first|(cases e;exact⟨_,a,k _ H (To.refl fr) rfl⟩)|cases e
noncomputable def CH:D->Option Int
 | .int i=>on i
 |_=>Qh
noncomputable def oi(xs:List D)(lo a:Option Int):List D:=(xs.drop (HT.sIx xs.length 0 lo)).take (HT.sIx xs.length xs.length a-HT.sIx xs.length 0 lo)
def slD:D->Option Int->Option Int->Option D
 | .lst xs,lo,hi=>on (.lst (oi xs lo hi))
 | .scr ns,lo,hi=>on (.lst (oi (ns.map D.int) lo hi))
 |_,_,_=>Qh
def sP(f:Option (FD)):Dn->M (Option Int):=λδ=>match f with
 |none=>M.ret Qh
 |some g=>M.bind (g δ) λd=>M.bind (M.ofO (CH d)) λi=>M.ret (on i)
def fSl(f:FD)(lo a:Option (FD)):FD:=λδ=>M.bind (f δ) λd=>M.bind (sP lo δ) λl=>M.bind (sP a δ) λh=>M.ofO (slD d l h)
def yB(X:Cx)(e:Option Expr)(f:Option (FD))(E:St->XK):Prop:=PO X e (λc H Q=>∃F δ β,Fr F H β/\h8 X.K F H δ c/\run (λ_ (a b:Option Int)=>b=a) F E c (sP f δ) H Q β)
theorem zX:yB X Qh Qh E:=λa s b H Q I c=>by obtain⟨F,δ,β,fr,d,r⟩:=c;exact v8 a s b H Q I (run.ret fr r rfl)
theorem zW(h:PE X e (tV X.K f E)):yB X (on e) (on f) E:=λa s c H Q I b=>li b λF δ β fr j r=>v7 h a s c H Q I ⟨F,δ,β,fr,j,(run.bind (R:=cx X.K F) r).mono λv l b=>by
  obtain⟨d,β1,t,hd,r1⟩:=b;obtain⟨i,e,k⟩:=run.ofO_bind r1;cases d<;>first|(cases e;exact⟨_,hd,run.ret t.fr k rfl⟩)|cases e⟩
theorem bb.cut(h:bb K F H ds vs)(lo a:Option Int):bb K F H (oi ds lo a) (l4 vs lo a):=by
 unfold oi l4;rw[h.length];exact(h.drop _).take _
theorem vI{lo y:Option Expr}{fl A:Option (FD)}(B:PE X e (tV X.K f E))(C:yB X lo fl E)(I:yB X y A E):PE X (.Subscript e (.Slice lo y Qh p2) pos) (tV X.K (fSl f fl A) E):=
 (ur vR B C I).imp λO H Q o=>li o λF δ β fr q r=>⟨F,δ,β,fr,q,(run.bind (R:=cx X.K F) r).mono λv P ⟨d,β1,t,hd,r1⟩=>
  ⟨F,δ,β1,t.fr,q.tr (t.tr fr),(run.bind (R:=λ_ (a b:Option Int)=>b=a) r1).mono λl T ⟨U,β2,n,u,J⟩=>
   ⟨F,δ,β2,n.fr,q.tr ((t.tr fr).trans (n.tr t.fr)),(run.bind (R:=λ_ (a b:Option Int)=>b=a) J).mono λh W o=>by
    obtain⟨h',β3,i,w,L⟩:=o;subst u w;obtain⟨c,e,k⟩:=run.ofO L;have j:=cx.tr ((n.tr t.fr).trans (i.tr n.fr)) _ _ hd;cases d<;>first
     |(cases e;obtain⟨a,xs,rfl,sq,N⟩:=cx.sqL j;exact⟨a,xs,rfl,sq,λp m=>k _ _ (i.fr.upd _ m) (cx.newL i.fr m (N.cut l h))⟩)
     |(cases e;obtain⟨a,rfl,sq⟩:=cx.scr j;exact⟨a,_,rfl,sq,λp m=>k _ _ (i.fr.upd _ m) (cx.newL i.fr m ((bb.ofInts _).cut l h))⟩)
     |cases e⟩⟩⟩
def Bg.ok(β:Bg):Prop:=β.cells≠[]/\β.cells.length<=64/\(∀c∈β.cells,0<=c)/\0<=β.j
end
noncomputable def Bg.pos(β:Bg):Nat:=(β.i % (β.cells.length:Int)).toNat
def Bg.cell(β:Bg):Int:=β.cells.getD β.pos 0
noncomputable def Bg.nxt(β:Bg):Int:=(β.j+β.cell % 2147483629+77)*48271 % 2147483629
noncomputable def jq(β:Bg)(lot:Int):Int:=if 10^18<=β.cell then β.cell % lot else β.nxt/64 % lot
noncomputable def kC(β:Bg)(lot:Int):Bg:=if 10^18<=β.cell then⟨β.cells.set β.pos (β.cell/lot),β.i,β.j⟩else⟨β.cells,β.i+1,β.nxt⟩
open Classical in
def bZ:List D->M D:=λds β=>match ds with
 |[.bag,.int lot]=>if β.ok/\0<lot/\lot<1073741824 then on (SE (D.int (jq β lot)),kC β lot)else Qh
 |_=>Qh
theorem EK{β:Bg}(h:β.ok)(a:0<lot)(b:lot<1073741824):bZ [.bag,.int lot] β=on (.ok (.int (jq β lot)),kC β lot):=by
 unfold bZ;exact Qt ⟨h,a,b⟩
theorem AB{β:Bg}(h:bZ ds β=on (r,β')):∃lot,ds=[.bag,.int lot]/\β.ok/\0<lot/\lot<1073741824/\r= .ok (.int (jq β lot))/\β'=kC β lot:=by
 unfold bZ at h;split at h
 .split at h
  .rename_i lot q
   cases h;exact⟨lot,rfl,q.1,q.2.1,q.2.2,rfl,rfl⟩
  .cases h
 .cases h
theorem Bg.ok.at{β:Bg}(h:β.ok):β.pos<β.cells.length/\β.cells[β.pos]?=on β.cell/\0<=β.cell/\β.i % (β.cells.length:Int)=(β.pos:Int):=by
 obtain⟨c1,c2,c3,b⟩:=id h;have c:0<β.cells.length:=List.length_pos_iff.mpr c1;have a1:0<=β.i % (β.cells.length:Int):=U5 _ (by omega);have a2:β.i % (β.cells.length:Int)<β.cells.length:=Vt _ (by omega);have a:β.pos<β.cells.length:=by unfold Bg.pos;omega
 have e:β.cell=β.cells[β.pos]:=by
  unfold Bg.cell;rw[Qn,Ql a];rfl
 refine⟨a,by rw[e];exact Ql a,by rw[e];exact c3 _ (Rp a),?_⟩;unfold Bg.pos;omega
theorem v3{β:Bg}(h:β.ok)(b:0<lot):0<=jq β lot/\jq β lot<lot/\(kC β lot).ok:=by
 obtain⟨e,_,hc,_⟩:=h.at;obtain⟨c1,c2,c3,d⟩:=id h;unfold jq kC;split
 .refine⟨U5 _ (by omega),Vt _ b,?_,by rw[Q3];exact c2,λc a=>?_,d⟩
  .intro z
   have:=RE VG z;rw[Q3]at this;exact c1 (UA.mp this)
  .rcases Uk a with a|rfl
   .exact c3 c a
   .exact Int.ediv_nonneg hc (by omega)
 .exact⟨U5 _ (by omega),Vt _ b,c1,c2,c3,U5 _ (by decide)⟩
end L2.Pu
namespace L2
open PySem PySem.Spec PyProof.Rows
end L2
namespace L2.Pu
open PySem PySem.Spec PyProof.Rows
section
variable{X:Cx}{E:St->XK}{K:QR}
def m7(K:QR)(mg:Rl->Option Qv)(x:Rl)(d:D):Prop:=∃u v,mg x=on u/\aL v u/\∀F H,cx K F H d v
theorem ld(c:m7 X.K X.mg x d)(a:Gl X x:=by rfl)(hd:(x==("__debug__":Rl))=Qr:=by decide):PE X (.Name x pos) (tV X.K (fC d) E):=by
 obtain⟨u,v,b,e,f⟩:=c;exact q_ (KU a b e hd) f
mutual
noncomputable def oa:D->Option YJ
 | .non=>on .none
 | .bl b=>on (.bool b)
 | .int i=>on (.int i)
 | .str x=>on (.str x)
 | .lst xs=>(toPs xs).map PyData.list
 | .tup xs=>(toPs xs).map PyData.tuple
 |_=>Qh
noncomputable def toPs:List D->Option (List YJ)
 |[]=>on []
 |x::xs=>match oa x,toPs xs with
  |some p,on ps=>on (p::ps)
  |_,_=>Qh
end
mutual
theorem jQ{s:QA}(I:c4 X ba σ H s):∀(d:D) (v:V) (u:Qv) (p:YJ),cx X.K F H d v->oa d=on p->aL v u->∃as,Reads s.heap u p as
 | .non,v,u,p,h,e,r=>by cases e;cases h.non;cases r;exact⟨_,.none⟩
 | .bl b,v,u,p,h,e,r=>by cases e;cases h.bl;cases r;exact⟨_,.bool b⟩
 | .int i,v,u,p,h,e,r=>by cases e;cases h.int;obtain⟨t,rfl⟩:=r;exact⟨_,.int i t⟩
 | .str x,v,u,p,h,e,r=>by cases e;cases h.str;obtain⟨t,rfl⟩:=r;exact⟨_,.str x t⟩
 | .lst xs,v,u,p,h,e,r=>by
  unfold oa at e;cases q:toPs xs with
  |none=>rw[q]at e;cases e
  |some ps=>
   rw[q]at e;cases e;obtain⟨a,ys,rfl,sq,c⟩:=cx.sqL h;cases r;obtain⟨its,f,pl,_⟩:=I.list sq;obtain⟨as,g⟩:=reads_L I xs ys its ps c q f;obtain⟨o,j,hc,n,hd⟩:=pl.isList;exact⟨_,.list j hc hd (by simpa using g)⟩
 | .tup xs,v,u,p,h,e,r=>by
  unfold oa at e;cases q:toPs xs with
  |none=>rw[q]at e;cases e
  |some ps=>
   rw[q]at e;cases e;obtain⟨a,ys,rfl,sq,c⟩:=cx.sqT h;cases r;obtain⟨its,f,pl,_⟩:=I.tuple sq;obtain⟨as,g⟩:=reads_L I xs ys its ps c q f;obtain⟨o,j,hc,n,hd⟩:=pl;exact⟨_,.tuple j hc hd (by simpa using g)⟩
 | .ty _,_,_,_,_,e,_=>by cases e
 | .txt,_,_,_,_,e,_=>by cases e
 | .scr _,_,_,_,_,e,_=>by cases e
 | .obj _ _ _,_,_,_,_,e,_=>by cases e
 | .bag,_,_,_,_,e,_=>by cases e
 | .adr _,_,_,_,_,e,_=>by cases e
 | .dct _ _ _,_,_,_,_,e,_=>by cases e
theorem reads_L{s:QA}(I:c4 X ba σ H s):∀(ds:List D) (vs:List V) (us:List Qv) (ps:List YJ),bb X.K F H ds vs->toPs ds=on ps->aw vs us->∃as,ReadsAll s.heap us ps as
 |[],vs,us,ps,h,e,r=>by
  have q:vs=[]:=h;subst q;cases e;cases r;exact⟨_,.nil⟩
 |d::ds,vs,us,ps,h,e,r=>by
  obtain⟨x,a,rfl,b,c⟩:=h;unfold toPs at e;split at e
  .rename_i p pr f g
   cases e;cases r with
   |cons r1 i=>
    obtain⟨as,j⟩:=jQ I d x _ p b f r1;obtain⟨bs,k⟩:=reads_L I ds a _ pr c g i;exact⟨_,.cons j k⟩
  .cases e
end
def l5(a b:D):Option Bool:=match oa a,oa b with
 |some p,on q=>if(U9 p&&U9 q)=Qo then on (Vf p q)else Qh
 |_,_=>Qh
def gq(a b:D):Option D:=match eqS a b with
 |some c=>on (.bl c)
 |none=>(l5 a b).map D.bl
def kJ(a b:D):Option D:=match eqS a b with
 |some c=>on (.bl (!c))
 |none=>(l5 a b).map λc=>D.bl (!c)
def ql(X:Cx)(g:Bool->Bool):R2:=λx y H Q=>∃(F:Fx) (a b:D) (c:Bool),cx X.K F H a x/\cx X.K F H b y/\l5 a b=on c/\Q (.bl (g c)) H
theorem rJ{c:Bool}(h:l5 a b=on c):∃p q,oa a=on p/\oa b=on q/\U9 p=Qo/\U9 q=Qo/\c=Vf p q:=by
 unfold l5 at h;split at h
 .rename_i p q d e
  split at h
  .rename_i hs
   rw[Q9]at hs;cases h;exact⟨p,q,d,e,hs.1,hs.2,rfl⟩
  .cases h
 .cases h
theorem MT(f:ej k X.A):gv X (RV .Eq) (ql X id):=by
 intro d s t H x y v u Q I g i h;obtain⟨F,a,b,c,d1,d2,e,q⟩:=h;obtain⟨p,j,l,m,n,o,rfl⟩:=rJ e;obtain⟨as,r1⟩:=jQ I a x v p d1 l g;obtain⟨bs,r⟩:=jQ I b y u j d2 m i;exact eq_dataH r1 r n o f.units ⟨.bl _,H,I,rfl,q⟩
theorem MR(f:ej k X.A):gv X (RV .NotEq) (ql X not):=by
 intro d s t H x y v u Q I g i h;obtain⟨F,a,b,c,d1,d2,e,q⟩:=h;obtain⟨p,j,l,m,n,o,rfl⟩:=rJ e;obtain⟨as,r1⟩:=jQ I a x v p d1 l g;obtain⟨bs,r⟩:=jQ I b y u j d2 m i;exact ne_dataH r1 r n o f.units ⟨.bl _,H,I,rfl,q⟩
theorem d7(a:ej k X.A):gv X (RV .Eq) (λx y H Q=>rEq x y H Q\/ql X id x y H Q):=Pn.or (MT a)
theorem gG(a:ej k X.A):gv X (RV .NotEq) (λx y H Q=>rNe x y H Q\/ql X not x y H Q):=Pk.or (MR a)
theorem fQ:aV X.K (λx y H Q=>rEq x y H Q\/ql X id x y H Q) gq:=λF H β Q d1 d2 d h i fr a b e k=>by
 unfold gq at e;split at e
 .rename_i c q
  cases e;obtain⟨f,g⟩:=BL q a b;exact .inl ⟨f,by rw[g];exact k _ H (To.refl fr) rfl⟩
 .cases q:l5 d1 d2 with
  |none=>rw[q]at e;cases e
  |some c=>rw[q]at e;cases e;exact .inr ⟨F,d1,d2,c,a,b,q,k _ H (To.refl fr) rfl⟩
theorem jv:aV X.K (λx y H Q=>rNe x y H Q\/ql X not x y H Q) kJ:=λF H β Q d1 d2 d h i fr a b e k=>by
 unfold kJ at e;split at e
 .rename_i c q
  cases e;obtain⟨f,g⟩:=BL q a b;exact .inl ⟨f,by rw[g];exact k _ H (To.refl fr) rfl⟩
 .cases q:l5 d1 d2 with
  |none=>rw[q]at e;cases e
  |some c=>rw[q]at e;cases e;exact .inr ⟨F,d1,d2,c,a,b,q,k _ H (To.refl fr) rfl⟩
theorem Qa(i j:Int):gq (.int i) (.int j)=on (.bl (decide (i=j))):=rfl
theorem P9(i j:Int):kJ (.int i) (.int j)=on (.bl (!decide (i=j))):=rfl
def mX(d:D):Bool:=match oa d with
 |some p=>U9 p
 |none=>Qr
theorem JU{C:Int->Int->Prop}{c:Int->Int->Bool}{g:Int->Int->Int}(hc:∀i j,c i j=Qo->C i j):aV K (ipC C g) (ni λi j=>if c i j=Qo then on (.int (g i j))else Qh):=λF H β Q d1 d2 d h l fr b f e k=>by
 obtain⟨i,j,rfl,rfl,a⟩:=iR e;split at a
 .cases a
  exact⟨i,j,b,f,hc _ _ (by assumption),k _ H (To.refl fr) rfl⟩
 .cases a
def addI:D->D->Option D:=ni λi j=>on (.int (i+j))
theorem wu:aV K (ipI λi j=>i+j) addI:=λF H β Q d1 d2 d f g fr a b e k=>by
 obtain⟨i,j,rfl,rfl,c⟩:=iR e;cases c;exact⟨i,j,a,b,k _ H (To.refl fr) rfl⟩
theorem ww:PIp X .Mult (ipC sW λi j=>i*j):=by
 intro a s e H x y v u Q I b d h;obtain⟨i,j,rfl,rfl,c,q⟩:=h;obtain⟨t,rfl⟩:=b;obtain⟨t',rfl⟩:=d;exact imul_int ⟨.int _,H,I.tok _,⟨_,rfl⟩,q⟩ (Y4 (jy c.1) (jy c.2))
theorem wr:aV K (ipC sW λi j=>i*j) xK:=JU λi j h=>by
 simp only[Q9,gA,Rm]at h;exact h
theorem ET:aV K (ipC sX λi j=>i/j) yk:=JU λi j h=>by
 simp only[Q9,Rm]at h;exact h
abbrev ik:=DE
theorem BW(hc:X.calm=Qo):cL X (.builtin "sum") (λxs H Q=>∃(a:Qs) (ns:List Int),xs=[.ref a]/\f0 X.K H a (ns.map V.int)/\Q (.int ns.sum) H):=rK hc
theorem M8:dg K (λxs H Q=>∃(a:Qs) (ns:List Int),xs=[.ref a]/\f0 K H a (ns.map V.int)/\Q (.int ns.sum) H) ik:=PD
def Kg(H:Hp)(b l:Qs):Prop:=∃(cells:List Int) (i j:Int),H b=on (.lst [.ref l,.int i,.int j])/\H l=on (.lst (cells.map V.int))/\cells≠[]/\cells.length<=64/\(∀c∈cells,0<=c)/\0<=j
theorem Lj(h:k<n):ry n (k:Int)=on k:=by
 unfold ry;rw[Qt (by omega),Qt (by omega)];simp
theorem Qc(ns:List Int):∃a:List Int,l4 (ns.map V.int) Qh (on 63)=a.map V.int/\a.length<=63:=by
 refine⟨(ns.drop (HT.sIx ns.length 0 Qh)).take (HT.sIx ns.length ns.length (on 63)-HT.sIx ns.length 0 Qh),?_,?_⟩
 .unfold l4
  rw[Qi,WO,UT]
 .rw[Uf]
  have:HT.sIx ns.length ns.length (on 63)<=63:=by
   unfold HT.sIx;simp;omega
  omega
def O3(K:QR):Sp:=λvs H Q _=>∃(a:Qs) (ns:List Int),vs=[.ref a]/\f0 K H a (ns.map V.int)/\∀(b l:Qs) (c:Hp),H b=Qh->H l=Qh->Kg c b l->bE H c->Q (.ref b) c
def IX(K:QR):Sp:=λvs H Q _=>∃(a:Qs) (ns:List Int),vs=[.ref a]/\f0 K H a (ns.map V.int)/\ns.length<=63/\∀b,Q (.bl Qo) b
theorem LC(sm:bE H₀ H)(y:H₀ b=Qh)(A:H₀ l=Qh)(B:Kg H b l):∃β,β.ok/\f_ K H₀ (λc=>if c=b\/c=l then on 1 else Qh) (on (b,l)) H (Qh::on (.sh .bag)::QE n Qh) β (on (.ref a)::on (.ref b)::QE n Qh):=by
 obtain⟨cells,i,j,f,g,m,u,v,w⟩:=B;have h:b≠l:=Pt f g (by
  intro z;cases cells with
  |nil=>exact m rfl
  |cons c r=>simp at z)
 refine⟨⟨cells,i,j⟩,⟨m,u,v,w⟩,⟨⟨λc hc=>?_,λp t e=>?_,λp t e=>?_⟩,λp t e=>?_,by simp,λc hc=>?_,λc k hc=>(by
  have d:(if c=b\/c=l then on 1 else Qh)=on (k+2):=hc;split at d<;>cases d),λc k hc=>(by
  have d:(if c=b\/c=l then on 1 else Qh)=on (k+2):=hc;split at d<;>cases d),λk s e=>?_⟩⟩
 .have d:(if c=b\/c=l then on 1 else Qh)≠(Qh:Option Nat):=hc
  split at d
  .rename_i q
   rcases q with rfl|rfl
   .rw[f];simp
   .rw[g];simp
  .exact QX rfl d
 .cases e
  refine⟨?_,?_,h⟩
  .show(if b=b\/b=l then on 1 else Qh)≠(Qh:Option Nat)
   rw[Qt (.inl rfl)];simp
  .show(if l=b\/l=l then on 1 else Qh)≠(Qh:Option Nat)
   rw[Qt (.inr rfl)];simp
 .cases e
  exact⟨f,g⟩
 .cases e
  exact⟨Qt (.inl rfl),Qt (.inr rfl)⟩
 .cases q:H₀ c with
  |none=>exact QX q hc
  |some o=>rw[sm c o q];simp
 .match k with
  |0=>simp at e
  |1=>
   simp at e;subst e;exact⟨.ref b,rfl,b,l,rfl,rfl⟩
  |k+2=>
   simp only[Yr,SI]at e;split at e<;>cases e
variable{P:Rc}{w:Ro}{mg:Rl->Option Qv}{base:RQ}
theorem bj{st:RT}{N ps:List Rl}(n m:Nat)(g:G)(F:d5 K x qual st f fd)(S:cp N ps (ae st))(hn:ps.length=n)(hm:N.length=m)
  (a:∀(b:Qv) (A:RG) (outer:List XH) (s:QA) (H:Hp) (E:XK),ej k (A.deeper (UU qual (ae st) s.heap.objs.size f b))->
   PSs (fi (g_ P w) P w K mg base N qual (ae st) f b A outer s H E) (ci st) (tG K H g (λ_=>E))):fw P w K mg base (g_ P w) (k+1) f fd ps (zv K n (fX m g)):=by
 subst hn hm;exact Ls F S a
end
end L2.Pu
namespace L2
open PySem PySem.Spec PyProof.Rows
theorem dt.ofB{X:Cx}{scope:Scope}{c_:List Nat}(k:scope.kind= .function)(nd:(scope.names.map (·.1)).Nodup)
  (fr:(scope.names.all λy=>y.2 != .free||(X.env.scope.names.lookup y.1==on .cell||X.env.scope.names.lookup y.1==on .free))=Qo) (a:Nc=dr++c_.map (λj=>X.N.getD j Ul))
  (b:(c_.all λj=>decide (j<X.N.length)&&scope.names.lookup (X.N.getD j Ul)==on .free)=Qo):dt X scope Nc dr c_:=by
 refine⟨k,nd,λy c e=>?_,a,λj d=>?_⟩
 .have:=Tw.mp fr y c
  rw[e]at this;simp only[T0,Bool.false_or,Bool.or_eq_true,Uo]at this;exact this
 .have:=Tw.mp b j d
  simp only[Q9,Rm,Uo]at this;exact this
end L2
namespace L2.Pu
end L2.Pu
namespace L2.Pu
open PySem PySem.Spec
theorem qI{ds os:List D}(a:it δ β=on (.ok ds,β1))(c:o0 tg tt b ds (l0 nv c_ δ) β1=on (.ok os,β2))(d:os.length<=QN):cK nv c_ it tg tt b δ β=on (.ok (.lst os),β2):=by
 unfold cK;simp only[a,c,d,RF]
def plD:Nat->D->Prop
 |_,.int _=>True
 |_,.bl _=>True
 |_,.non=>True
 |n+1,.lst xs=>∀x∈xs,plD n x
 |n+1,.tup xs=>∀x∈xs,plD n x
 |_,_=>False
theorem KN:∀(n:Nat) (d:D),plD n d->∃p,oa d=on p/\p.canLay0=Qo/\p.depth<=n+1:=by
 have a:∀(n:Nat) (xs:List D),(∀x∈xs,∃p,oa x=on p/\p.canLay0=Qo/\p.depth<=n)->∃ps,toPs xs=on ps/\Zn ps=Qo/\Xh ps<=n:=by
  intro n xs
  induction xs with
  |nil=>intro _;exact⟨[],rfl,rfl,by simp[Xh]⟩
  |cons x xs ih=>
   intro h;obtain⟨p,g,j,l⟩:=h x Qq;obtain⟨ps,b,c,f⟩:=ih λy k=>h y (Qk _ k);refine⟨p::ps,?_,?_,?_⟩
   .unfold toPs;simp only[g,b]
   .simp[Zn,j,c]
   .simp only[Xh];omega
 intro n
 induction n with
 |zero=>
  intro d h;cases d with
  |int i=>exact⟨.int i,rfl,rfl,by simp[T8]⟩
  |bl i=>exact⟨.bool i,rfl,rfl,by simp[T8]⟩
  |non=>exact⟨.none,rfl,rfl,by simp[T8]⟩
  |_=>exact h.elim
 |succ n ih=>
  intro d h;cases d with
  |int i=>exact⟨.int i,rfl,rfl,by simp[T8]⟩
  |bl i=>exact⟨.bool i,rfl,rfl,by simp[T8]⟩
  |non=>exact⟨.none,rfl,rfl,by simp[T8]⟩
  |lst xs=>
   obtain⟨ps,b,c,f⟩:=a (n+1) xs λx e=>ih x (h x e);exact⟨.list ps,by unfold oa;simp[b],by simp[PyData.canLay0,c],by simp only[T8];omega⟩
  |tup xs=>
   obtain⟨ps,b,c,f⟩:=a (n+1) xs λx e=>ih x (h x e);exact⟨.tuple ps,by unfold oa;simp[b],by simp[PyData.canLay0,c],by simp only[T8];omega⟩
  |_=>exact h.elim
theorem FP(n:Nat)(h:plD n d)(hn:n<=60):mX d=Qo:=by
 obtain⟨p,a,b,c⟩:=KN n d h;unfold mX;simp only[a,U9,b,VO,Rm];omega
end L2.Pu
namespace L2.Pu
open PySem PySem.Spec PyProof.Rows
section
variable{X:Cx}{E:St->XK}{K:QR}{a b:Expr}{es:List Expr}{pos:Vm}
theorem To.none(t:To F H H1 β1)(h:H1 p=Qh):H p=Qh:=by
 cases q:H p with
 |none=>rfl
 |some o=>
  have:H1 p=on o:=t.kp p o q λb l e=>by
   obtain⟨c,d⟩:=t.fr.bag b l e;exact⟨λw=>(by subst w;rw[c]at h;cases h),λw=>(by subst w;rw[d]at h;cases h)⟩
  rw[this]at h;cases h
noncomputable def Fx.but(F:Fx)(a:Qs):Fx:=⟨λc=>F.A c\/c=a,F.bg⟩
theorem Fx.tr_but{F:Fx}(fr:Fr F H β1)(d:H p=Qh)(hs:∀c o,H c=on o->H1 c=on o):Tr F H (F.but p) H1:=⟨λc e f z=>by
 rcases z with z|z
 .exact e z
 .subst z;exact f d,λc o _ h=>hs c o h,rfl⟩
theorem Fx.tr_of{F:Fx}:Tr (F.but p) H F H:=⟨λc h _ z=>h (S5 z),λ_ _ _ h=>h,rfl⟩
def j7(K:QR)(F:Fx)(H0 H:Hp)(ds:List D)(v:V):Prop:=∃a xs,v= .ref a/\H0 a=Qh/\H a=on (.lst xs)/\bb K (F.but a) H ds xs
def tVO(K:QR)(f:FL)(E:St->XK):TE:=λc H Q=>∃F δ β,Fr F H β/\h8 K F H δ c/\run (j7 K F H) F E c (f δ) H Q β
def tVG(K:QR)(f:Dn->M (List (List D)))(E:St->XK):TE:=λc H Q=>∃F δ β,Fr F H β/\h8 K F H δ c/\run (gX K F H) F E c (f δ) H Q β
noncomputable def P_(ds:List D):Option (List D):=if ds.length<=QN then on ds else Qh
def sD(op:List D->Option (List D))(g:FL):FL:=λδ=>M.bind (g δ) λds=>M.ofO (op ds)
theorem j7.new(t:To F H H1 β1)(d:H1 p=Qh)(hd:bb K F H1 ds xs):j7 K F H (upd H1 p (.lst xs)) ds (.ref p):=
 ⟨p,xs,rfl,t.none d,ah,bb.tr (Fx.tr_but t.fr d λc o h=>by rw[b_ (ay h d)];exact h) _ _ hd⟩
theorem Pq(h:PA X es (jm X.K g E)):PE X (.List es pos) (tVO X.K (sD P_ g) E):=
 (gF h).imp λi H Q d=>li d λF δ β fr f r=>⟨F,δ,β,fr,f,(run.bind (R:=bb X.K F) r).mono λvs j d=>by
  obtain⟨ds,β1,t,hd,r1⟩:=d;obtain⟨d3,c,k⟩:=run.ofO r1;unfold P_ at c;split at c
  .cases c
   exact⟨by rw[<-hd.length];assumption,λp e=>k _ _ (t.fr.upd _ e) (j7.new t e hd)⟩
  .cases c⟩
theorem bb.rep(h:bb K F H ds xs):∀n:Nat,bb K F H (QE n ds).flatten (QE n xs).flatten
 |0=>rfl
 |n+1=>by
  rw[R6,Ti,R6,Ti];exact bb.append h (bb.rep h n)
noncomputable def uh(ds:List D)(d:D):Option (List D):=match d with
 | .int k=>if(decide (-(2^63)<=k)&&decide (k<2^63)&&decide (ds.length<=QN)&&decide (ds.length*k.toNat<=QN))=Qo then on (QE k.toNat ds).flatten else Qh
 |_=>Qh
def xD(g:FL)(f:FD):FL:=λδ=>M.bind (g δ) λds=>M.bind (M.ofO (P_ ds)) λds=>M.bind (f δ) λd=>M.ofO (uh ds d)
theorem Pp(ha:PA X es (jm X.K g E))(O:PE X b (tV X.K f E)):PE X (.BinOp (.List es pos') .Mult b pos) (tVO X.K (xD g f) E):=
 (dF MP (gF ha) O).imp λT H Q j=>li j λF δ β fr B r=>⟨F,δ,β,fr,B,(run.bind (R:=bb X.K F) r).mono λvs U j=>by
  obtain⟨ds,β1,t,hd,r1⟩:=j;obtain⟨W,n,Y⟩:=run.ofO_bind r1;unfold P_ at n;split at n
  .rename_i Z
   cases n;refine⟨by rw[<-hd.length];exact Z,λp I=>?_⟩;have m:=t.fr.upd (.lst vs) I;have J:=t.fr.fresh I;refine⟨F,δ,β1,m.fr,(B.tr (t.tr fr)).tr (m.tr t.fr),?_⟩;obtain⟨L,β2,e,h⟩:=Y;have u:run (j7 X.K F H) F E T (M.bind (f δ) λd=>M.ofO (uh ds d)) (upd U p (.lst vs)) Q β1:=by
    refine⟨L,β2,e,?_⟩;cases L with
    |ok d=>exact λv y c=>h v y (m.trans c)
    |error C=>exact λy c=>h y (m.trans c)
   refine(run.bind (R:=cx X.K F) u).mono λw H2 j=>p5 j λd β3 c hw r3=>?_;obtain⟨os,i,k⟩:=run.ofO r3;unfold uh at i;split at i
   .split at i
    .rename_i kk o
     cases i;simp only[Q9,Rm]at o;cases hw;have A:H2 p=on (.lst vs):=c.kp p _ ah λb l q=>⟨λz=>J (z▸(fr.bgA b l q).1),λz=>J (z▸(fr.bgA b l q).2.1)⟩;have tt:=m.trans c;exact⟨p,_,vs,rfl,rfl,A,o.1.1.1,o.1.1.2,by rw[<-hd.length];exact o.2,λq N=>k _ _ (c.fr.upd _ N) (j7.new (t.trans tt) N ((bb.tr (tt.tr t.fr) _ _ hd).rep _))⟩
    .cases i
   .cases i
  .cases n⟩
def ow(tg:m4)(tt:Dn->M Bool)(b:Dn->M (List (List Pu.D))):List Pu.D->Dn->M (List (List Pu.D))
 |[],_=>M.ret []
 |d::ds,δ=>match tg d δ with
  |none=>M.fail
  |some δ1=>M.bind (tt δ1) λc=>M.bind (if c=Qo then b δ1 else M.ret []) λo=>M.bind (ow tg tt b ds δ) λos=>M.ret (o++os)
def C_(K:QR)(F:Fx)(D:Qs)(H0 H:Hp)(as:List (List Pu.D))(acc:List V):Prop:=(∀c,H0 c≠Qh->H c≠Qh)/\∃rs,acc=rs.map V.ref/\(D::rs).Nodup/\d4 K F H (λr=>H0 r=Qh) as rs
theorem C_.mono{F:Fx}{D:Qs}(g:F.A D)(i:∀b l,F.bg=on (b,l)->H0 b≠Qh/\H0 l≠Qh)(fr:Fr F H β)(t:l9 F D H H1 β1)(h:C_ K F D H0 H as acc):C_ K F D H0 H1 as acc:=by
 obtain⟨cv,rs,e,nd,j⟩:=h;refine⟨λc hc z=>?_,rs,e,nd,d4.tr (t.tr fr g) j λr xs k p q=>⟨p,t.kp r _ q (λz=>?_) λb l w=>⟨λz=>?_,λz=>?_⟩⟩⟩
 .cases q:H c with
  |none=>exact cv c hc q
  |some o=>
   by_cases hd:c=D
   .subst hd;exact t.fr.occ _ g z
   .by_cases d:∃b l,F.bg=on (b,l)/\(c=b\/c=l)
    .obtain⟨b,l,w,f⟩:=d
     rcases f with rfl|rfl
     .exact t.fr.occ _ (fr.bgA _ _ w).1 z
     .exact t.fr.occ _ (fr.bgA _ _ w).2.1 z
    .rw[t.kp c o q hd λb l w=>⟨λy=>d ⟨b,l,w,.inl y⟩,λy=>d ⟨b,l,w,.inr y⟩⟩]at z
     cases z
 .subst z;exact(Rf.mp nd).1 k
 .subst z;exact(i _ _ w).1 p
 .subst z;exact(i _ _ w).2 p
def sV(K:QR)(D:Qs)(i:TB)(f:Dn->M (List (List Pu.D))):Prop:=∀(F:Fx) (H0 H:Hp) (δ:Dn) (β d:Bg) (h:St) (acc:List V) (as os:List (List Pu.D)) (Q:St->Hp->Prop),Fr F H β->F.A D->(∀b l,F.bg=on (b,l)->D≠b/\D≠l)->(∀b l,F.bg=on (b,l)->H0 b≠Qh/\H0 l≠Qh)->h8 K F H δ h->H D=on (.lst acc)->C_ K F D H0 H as acc->
 f δ β=on (.ok os,d)->as.length+os.length<=QN->(∀e g c,l9 F D H g d->h8 K F g δ e->g D=on (.lst c)->C_ K F D H0 g (as++os) c->Q e g)->i h H Q
def vm(f:Dn->M (List Pu.D)):Dn->M (List (List Pu.D)):=λδ=>M.bind (f δ) λd=>M.ret [d]
theorem d4.snoc{P:Qs->Prop}(p:P r)(c:H r=on (.lst xs))(d:bb K F H ds xs):∀{a_:List (List Pu.D)} {rs:List Qs},d4 K F H P a_ rs->d4 K F H P (a_++[ds]) (rs++[r])
 |[],[],_=>⟨p,⟨xs,c,d⟩,trivial⟩
 |_::_,_::_,h=>⟨h.1,h.2.1,d4.snoc p c d h.2.2⟩
 |[],_::_,h=>h.elim
 |_::_,[],h=>h.elim
theorem Lb{D:Qs}:sV K D (yy D (tVO K f E0)) (vm f):=λF H0 H δ β j σ acc as os Q fr m p T U W hd e hz k=>by
 obtain⟨d,β1,e1,e2⟩:=M.bind_inv e;cases e2;refine⟨F,δ,β,fr,U,E0.run e1 λv Y t hv=>?_⟩;have u:=t.kp D _ W p;have A:=hd.mono m T fr (t.toD D);obtain⟨r,xs,rfl,g,n1,n2⟩:=hv;obtain⟨cv,rs,B,nd,Z⟩:=A;obtain⟨C,c,I,J,L⟩:=hd;have i:acc.length=as.length:=by rw[B,Qi,Z.len]
 have N:c=rs:=by
  have:c.map V.ref=rs.map V.ref:=I.symm.trans B;exact WU (λa b q=>by cases q;rfl)|>.mp this
 subst N;have nD:r≠D:=λz=>by subst z;rw[W]at g;cases g
 have nr:r∉c:=λz=>by
  obtain⟨_,ys,q⟩:=L.all r z;rw[q]at g;cases g
 have O:H0 r=Qh:=by
  cases q:H0 r with
  |none=>rfl
  |some o=>exact QX g (C r (by rw[q];simp))
 refine⟨acc,u,by rw[i];simp at hz;omega,?_⟩;have R:l9 F D Y (upd Y D (.lst (acc++[.ref r]))) j:=by
  refine⟨λa o h n _=>by rw[b_ n];exact h,λa h q=>?_,fr.bgA,λb l q=>?_⟩
  .by_cases z:a=D
   .subst z;rw[ah]at q;cases q
   .rw[b_ z]at q;exact t.fr.occ a h q
  .rw[b_ (p b l q).1.symm,b_ (p b l q).2.symm]
   exact t.fr.bag b l q
 have tt:=R.tr t.fr m;refine k σ _ _ ((t.toD D).trans R) (U.tr ((t.tr fr).trans tt)) ah (C_.mono m T t.fr R ⟨cv,c++[r],by rw[B,Rg];rfl,?_,d4.snoc O n1 (bb.tr Fx.tr_of _ _ n2) Z⟩);rw[<-UO,UG];refine⟨J,by simp,λx hx y hy=>?_⟩;obtain rfl:y=r:=by simpa using hy
 rcases QD.mp hx with rfl|hx
 .exact nD.symm
 .exact λz=>nr (z▸hx)
end
section
variable{X:Cx}{E:St->XK}{K:QR}
theorem La{D:Qs}(hg:c7 K g tg)(sg:eD tg)(hb:sV K D tb b){F:Fx}{as os:List (List Pu.D)}(fr:Fr F H β)(Z:F.A D)(hn:∀b l,F.bg=on (b,l)->D≠b/\D≠l)(h0:∀b l,F.bg=on (b,l)->H0 b≠Qh/\H0 l≠Qh)(vk:h8 K F H δ σ)(hD:H D=on (.lst acc))(hd:C_ K F D H0 H as acc)
  (it:v_ K J F H ds) (e:ow tg tt b ds δ β=on (.ok os,β')) (hz:as.length+os.length<=QN) (k:∀f n a,l9 F D H n β'->h8 K F n δ f->n D=on (.lst a)->C_ K F D H0 n (as++os) a->Q f n):c5 J g (hY K tt E0) tb σ H Q:=by
 refine⟨λi m f n=>m+i=ds.length/\∃β1 a j t,l9 F D H n β1/\h8 K F n δ f/\n D=on (.lst a)/\C_ K F D H0 n j a/\ow tg tt b (ds.drop i) δ β1=on (.ok t,β')/\j++t=as++os,
  ⟨ds.length,by omega,β,acc,as,os,⟨λ_ _ h _ _=>h,fr⟩,vk,hD,hd,e,rfl⟩,?_⟩
 rintro i m f n ⟨hm,β1,a,j,t,u,B,C,I,r,ea⟩;have tr1:=u.tr fr Z;obtain⟨iy,is⟩:=it F n β1 tr1 u.fr i;cases hi:ds[i]? with
 |none=>
  have hl:ds.length<=i:=VC.mp hi;rw[SL hl]at r;cases r;refine .inl ⟨is (by omega),k f n a u B C ?_⟩;rw[<-ea,RJ];exact I
 |some d=>
  have hl:i<ds.length:=(QI.mp hi).1;obtain⟨go,yl⟩:=iy d hi;have ed:ds.drop i=d::ds.drop (i+1):=by
   rw[Su hl];congr 1;exact Q7 ((Ql hl).symm.trans hi)
  rw[ed]at r;unfold ow at r;cases q:tg d δ with
  |none=>rw[q]at r;cases r
  |some δ1=>
   rw[q]at r;obtain⟨c,β2,e2,e3⟩:=M.bind_inv r;obtain⟨o,β3,e4,e5⟩:=M.bind_inv e3;obtain⟨L,β4,e6,e7⟩:=M.bind_inv e5;cases e7;obtain⟨s1,s2⟩:=sg _ _ _ q;refine .inr ⟨go,λN O=>∃p,l9 F D H O β3/\h8 K F O δ N/\O D=on (.lst p)/\C_ K F D H0 O (j++o) p,?_,λx H2 hy=>?_⟩
   .rintro N O ⟨p,t9,vk9,hD9,hd9⟩
    exact⟨m-1,by omega,by omega,β3,p,j++o,L,t9,vk9,hD9,hd9,e6,by rw[Sa];exact ea⟩
   .obtain⟨sm,dx⟩:=yl x H2 hy
    have y:To F n H2 β1:=u.fr.same sm;have tr2:=y.tr u.fr;refine hg F H2 δ δ1 f d x _ (B.tr tr2) dx q λσ2 v=>⟨F,δ1,β1,y.fr,v,E0.run e2 λc' H3 R ec=>?_⟩;subst ec;have hD2:=sm _ _ C;have T:=R.kp D _ hD2 hn;have U:=R.tr y.fr;have d3:=(I.mono Z h0 u.fr (y.toD D)).mono Z h0 y.fr (R.toD D);have W:l9 F D H H3 β2:=u.trans ((y.trans R).toD D);have hle:j.length+(o++L).length<=QN:=by
     have:=RE VG ea;simp only[QV]at this⊢;omega
    cases c' with
    |true=>
     rw[Qt rfl]at e4⊢;refine hb F H0 H3 δ1 β2 β3 σ2 a j o _ R.fr Z hn h0 (v.tr U) T d3 e4 (by rw[QV]at hle;omega) λσ4 H4 Y t4 vk4 hD4 hd4=>?_;exact⟨Y,W.trans t4,vk4.sub s1 s2,hD4,hd4⟩
    |false=>
     rw[Qp Qx]at e4⊢;cases e4;exact⟨a,W,(v.tr U).sub s1 s2,T,by rw[RJ];exact d3⟩
def jZ(nv:Nat)(c_:List Nat)(it:Dn->M (List Pu.D))(tg:m4)(tt:Dn->M Bool)(b:Dn->M (List (List Pu.D))):Dn->M (List (List Pu.D)):=λδ β=>match it δ β with
 |none=>Qh
 |some (.error C,β1)=>on (.error C,β1)
 |some (.ok ds,β1)=>match ow tg tt b ds (l0 nv c_ δ) β1 with
  |some (.ok os,β2)=>if os.length<=QN then on (.ok os,β2)else Qh
  |_=>Qh
theorem yW{dr:List Rl}{c_:List Nat}{it:Dn->M (List Pu.D)}{g:TG}{tg:m4}{tt:Dn->M Bool}{I:Qs->TB}{b:Dn->M (List (List Pu.D))}(U:c7 K g tg)(W:eD tg)(Y:∀D,sV K D (I D) b){L:St}{H:Hp}{Q:VK}(h:tVG K (jZ dr.length c_ it tg tt b) E L H Q):
  su dr c_ (iV K it E) (λD J=>c5 J g (hY K tt E0) (I D)) L H Q:=by
 obtain⟨F,δ,β,fr,N,r,k,e,h⟩:=h;unfold jZ at e;refine⟨F,δ,β,fr,N,?_⟩;split at e
 .cases e
 .rename_i C β1 q
  cases e;exact⟨.error C,_,q,h⟩
 .rename_i ds β1 q
  split at e
  .rename_i os β2 q2
   split at e
   .rename_i Z
    cases e;refine⟨.ok ds,β1,q,λJ f t hJ D d=>?_⟩;have i:¬F.A D:=t.fr.fresh d;have nb:∀b l,F.bg=on (b,l)->D≠b/\D≠l:=λb l z=>⟨λw=>i (w▸(fr.bgA b l z).1),λw=>i (w▸(fr.bgA b l z).2.1)⟩;have O:=t.fr.upd (.lst []) d;have m:Fr ⟨λa=>F.A a\/a=D,F.bg⟩ (upd f D (.lst [])) β1:=by
     refine⟨λa ha z=>?_,λb l z=>let ⟨x,y,w⟩:=fr.bgA b l z;⟨.inl x,.inl y,w⟩,O.fr.bag⟩
     rcases ha with ha|ha
     .exact O.fr.occ a ha z
     .subst ha;rw[ah]at z;cases z
    have j:Tr F f ⟨λa=>F.A a\/a=D,F.bg⟩ (upd f D (.lst [])):=⟨λa ha hs z=>by
     rcases z with z|z
     .exact ha z
     .subst z;exact hs d,λa o ha z=>by rw[b_ (ay z d)];exact z,rfl⟩
    have cv:∀c,H c≠Qh->upd f D (.lst []) c≠Qh:=λc hc z=>by
     by_cases w:c=D
     .subst w;rw[ah]at z;cases z
     .rw[b_ w]at z;exact hc (t.none z)
    refine La (D:=D) (H0:=H) (as:=[]) (os:=os) U W (Y D) m (.inr rfl) nb (λb l z=>⟨fr.occ _ (fr.bgA b l z).1,fr.occ _ (fr.bgA b l z).2.1⟩) (vi (N.tr ((t.tr fr).trans j))) ah ⟨cv,[],rfl,by simp,trivial⟩ (hJ.tr j) q2 (by simpa using Z) λσ1 R T u vk3 v B=>?_;have tf:To F f R k:=by
     refine⟨λa o z n=>u.kp a o (by rw[b_ (ay z d)];exact z) (ay z d) n,λa ha z=>u.fr.occ a (S5 ha) z,fr.bgA,u.fr.bag⟩
    obtain⟨_,rs,ea,nd,rl⟩:=B;subst ea;exact h _ R (t.trans tf) ⟨D,rs,rfl,t.none d,v,nd,d4.tr (F:=⟨λa=>F.A a\/a=D,F.bg⟩) ⟨λa ha _ z=>ha (S5 z),λa o _ z=>z,rfl⟩ rl λr xs _ p q=>⟨p,q⟩⟩
   .cases e
  .cases e
section
variable{elt cy iter:Expr}{ifs:List Expr}{rest:List Ss}{scope:Scope}{pos:Vm}{Nc dr:List Rl}{c_:List Nat}{g:TG}{tb:Qs->TB}
end
mutual
noncomputable def noL:D->Bool
 | .int _=>Qo
 | .bl _=>Qo
 | .str _=>Qo
 | .non=>Qo
 | .tup ds=>noLs ds
 |_=>Qr
noncomputable def noLs:List D->Bool
 |[]=>Qo
 |d::ds=>noL d&&noLs ds
end
mutual
theorem wj{F b:Fx}(hF:∀c,b.A c->F.A c\/D1 H c):∀(d:D) (v:V),noL d=Qo->cx K F H d v->cx K b H d v
 | .int i,v,_,h=>h
 | .bl i,v,_,h=>h
 | .str i,v,_,h=>h
 | .non,v,_,h=>h
 | .tup ds,v,n,h=>by
  obtain⟨a,xs,e,h1,f⟩:=h;refine⟨a,xs,e,?_,noLs_den hF ds xs (by simpa[noL]using n) f⟩;rcases h1 with⟨h1,r⟩|h1
  .refine .inl ⟨λz=>?_,r⟩
   rcases hF a z with z|⟨ys,z⟩|⟨ys,z⟩
   .exact h1 z
   .rcases r with r|⟨o,r⟩<;>rw[z]at r<;>cases r
   .rcases r with r|⟨o,r⟩<;>rw[z]at r<;>cases r
  .exact .inr h1
 | .lst _,_,n,_=>by simp[noL]at n
 | .scr _,_,n,_=>by simp[noL]at n
 | .ty _,_,n,_=>by simp[noL]at n
 | .txt,_,n,_=>by simp[noL]at n
 | .obj _ _ _,_,n,_=>by simp[noL]at n
 | .bag,_,n,_=>by simp[noL]at n
 | .adr _,_,n,_=>by simp[noL]at n
 | .dct _ _ _,_,n,_=>by simp[noL]at n
theorem noLs_den{F a:Fx}(hF:∀c,a.A c->F.A c\/D1 H c):∀(ds:List D) (xs:List V),noLs ds=Qo->bb K F H ds xs->bb K a H ds xs
 |[],xs,_,h=>h
 |d::ds,xs,n,h=>by
  have b:noL d=Qo/\noLs ds=Qo:=by simpa[noLs]using n
  obtain⟨x,f,e,g,i⟩:=h;exact⟨x,f,e,wj hF d x b.1 g,noLs_den hF ds f b.2 i⟩
end
theorem d4.noL{F b:Fx}{P d:Qs->Prop}(hF:∀c,b.A c->F.A c\/D1 H c):∀{a_:List (List D)} {rs:List Qs},(∀ds∈a_,noLs ds=Qo)->d4 K F H P a_ rs->(∀r∈rs,d r)->d4 K b H d a_ rs
 |[],[],_,_,_=>trivial
 |ds::a_,r::rs,n,h,p=>by
  obtain⟨i,⟨xs,e,f⟩,g⟩:=h;exact⟨p r Qq,⟨xs,e,noLs_den hF _ _ (n ds Qq) f⟩,d4.noL hF (λx a=>n x (Qk _ a)) g λx a=>p x (Qk _ a)⟩
 |[],_::_,_,h,_=>h.elim
 |_::_,[],_,h,_=>h.elim
theorem f_.newGrd{δ:Ds}{W:St}(ok:f_ K H₀ B bg H δ β W)(t:To (et B bg) H H' β')(hn:∀ds∈a_,noLs ds=Qo)(hv:gX K (et B bg) H H' a_ v):
  ∃X,f_ K H₀ X bg H' (δ.set i (on (.grd a_))) β' (W.set i (on v))/\g0 B H X H':=by
 classical
 obtain⟨a,rs,rfl,n0,O,nd,J⟩:=hv;have m:∀c,c=a\/c∈rs->H c=Qh:=λc hc=>by
  rcases hc with rfl|hc
  .exact n0
  .exact(J.all c hc).1
 have hB:∀c,c=a\/c∈rs->B c=Qh:=λc hc=>T5 λz=>ok.fr.occ c z (m c hc);have Y:∀b l,bg=on (b,l)->¬(b=a\/b∈rs)/\¬(l=a\/l∈rs):=λb l e=>by
  obtain⟨b1,b2⟩:=ok.bgt b l e;exact⟨λz=>(by rw[hB b z]at b1;cases b1),λz=>(by rw[hB l z]at b2;cases b2)⟩
 obtain⟨A,Z⟩:=ok.to rfl t;have L:g0 B H (λc=>if c=a\/c∈rs then on (i+2)else B c) H':=by
  refine⟨Z.kp,λc hc=>?_,λc o h n=>?_,Z.al⟩
  .have:¬(c=a\/c∈rs):=λz=>by rw[hB c z]at hc;rcases hc with hc|hc<;>cases hc
   simp only[Qp this]
  .have:¬(c=a\/c∈rs):=λz=>by rw[m c z]at h;cases h
   simp only[Qp this];exact n
 have tr:Tr (et B bg) H (et (λc=>if c=a\/c∈rs then on (i+2)else B c) bg) H':=L.tr;refine⟨λc=>if c=a\/c∈rs then on (i+2)else B c,⟨⟨λc hc z=>?_,λb l e=>?_,A.fr.bag⟩,λb l e=>?_,by rw[Q3,Q3,ok.len],A.cov,λc k hc=>(by
  have f:(if c=a\/c∈rs then on (i+2)else B c)=on (k+2):=hc;by_cases z:c=a\/c∈rs
  .cases w:H₀ c with
   |none=>rfl
   |some o=>exact QX (m c z) (ok.cov c (by rw[w];simp))
  .rw[Qp z]at f;exact ok.new c k f),λc k hc=>(by
  have f:(if c=a\/c∈rs then on (i+2)else B c)=on (k+2):=hc;by_cases z:c=a\/c∈rs
  .rcases z with rfl|z
   .exact .inl ⟨_,O⟩
   .exact .inl (J.all c z).2
  .rw[Qp z]at f;exact A.lst c k f),λj s e=>?_⟩,L⟩
 .by_cases q:c=a\/c∈rs
  .rcases q with rfl|q
   .rw[O]at z;cases z
   .obtain⟨_,xs,w⟩:=J.all c q
    rw[w]at z;cases z
  .have f:(if c=a\/c∈rs then on (i+2)else B c)≠Qh:=hc
   rw[Qp q]at f;exact A.fr.occ c f z
 .obtain⟨Q,R⟩:=Y b l e
  obtain⟨b1,b2⟩:=ok.bgt b l e;refine⟨?_,?_,(ok.fr.bgA b l e).2.2⟩
  .show(if b=a\/b∈rs then on (i+2)else B b)≠Qh
   rw[Qp Q,b1];simp
  .show(if l=a\/l∈rs then on (i+2)else B l)≠Qh
   rw[Qp R,b2];simp
 .obtain⟨Q,R⟩:=Y b l e
  simp only[Qp Q,Qp R];exact ok.bgt b l e
 .rw[Ru]at e
  rw[Ru];by_cases q:i=j
  .subst q
   rw[Qt rfl]at e⊢;split at e
   .rename_i hl
    cases e;rw[Qt (by rw[<-ok.len];exact hl)];refine⟨_,rfl,a,rs,rfl,Qt (.inl rfl),O,nd,d4.noL (F:=et B bg) (λc hc=>?_) hn J λr hr=>Qt (.inr hr)⟩;have f:(if c=a\/c∈rs then on (i+2)else B c)≠Qh:=hc;by_cases w:c=a\/c∈rs
    .rcases w with rfl|w
     .exact .inr (.inl ⟨_,O⟩)
     .exact .inr (.inl (J.all c w).2)
    .rw[Qp w]at f
     exact .inl f
   .cases e
  .rw[Qp q]at e⊢
   obtain⟨w,T,C⟩:=ok.tell j s e;refine⟨w,T,?_⟩;cases s with
   |sh d=>exact cx.tr tr _ _ C
   |own cs=>
    obtain⟨c,ys,N,g,u,U⟩:=C;have I:¬(c=a\/c∈rs):=λz=>by rw[m c z]at u;cases u
    exact⟨c,ys,N,by simp only[Qp I];exact g,t.kp c _ u (λb l z=>⟨λy=>(by subst y;rw[(ok.bgt _ _ z).1]at g;cases g),λy=>(by subst y;rw[(ok.bgt _ _ z).2]at g;cases g)⟩),bb.tr tr _ _ U⟩
   |grd rows2=>
    obtain⟨c,qs,N,g,u,U,e5⟩:=C;have I:∀c,H c≠Qh->¬(c=a\/c∈rs):=λc hc z=>hc (m c z);have kk:∀c o,H c=on o->B c=on (j+2)->H' c=on o:=λc o T C=>t.kp c o T (λb l z=>⟨λy=>(by subst y;rw[(ok.bgt _ _ z).1]at C;cases C),λy=>(by subst y;rw[(ok.bgt _ _ z).2]at C;cases C)⟩);exact⟨c,qs,N,by simp only[Qp (I c (by rw[u];simp))];exact g,kk c _ u g,U,d4.tr tr e5 λr xs _ p y=>⟨by simp only[Qp (I r (by rw[y];simp))];exact p,kk r _ y p⟩⟩
   |odc b ks vs=>
    obtain⟨c,N,g,u⟩:=C;have I:¬(c=a\/c∈rs):=λz=>u.ne (m c z);exact⟨c,N,by simp only[Qp I];exact g,u.tr tr λo u=>t.kp c _ u (λb l z=>⟨λy=>(by subst y;rw[(ok.bgt _ _ z).1]at g;cases g),λy=>(by subst y;rw[(ok.bgt _ _ z).2]at g;cases g)⟩)⟩
end
section
variable{X:Cx}{E:St->XK}{K:QR}{st:RT}{H₀:Hp}{B:Ow}{bg:Option (Qs×Qs)}{H H':Hp}{δ:Ds}{β β':Bg}{σ:St}
def oh(i:Nat)(f:Dn->M (List (List D))):G:=λδ β=>match f (vw δ) β with
 |some (.ok a_,β1)=>if(a_.all noLs)=Qo then on (.nx (δ.set i (on (.grd a_))),β1)else Qh
 |some (.error C,β1)=>on (.ex C δ,β1)
 |none=>Qh
theorem xm(h:PS X st (gZ (tVG X.K f E) (dW i))):PS X st (tG X.K X.H₀ (oh i f) E):=h.imp λD σ H g=>by
 obtain⟨B,bg,δ,β,o,β',ok,e,q⟩:=g;refine⟨et B bg,vw δ,β,ok.fr,ok.view,?_⟩;unfold oh at e;split at e
 .rename_i a_ β1 b
  split at e
  .rename_i hn
   cases e;refine⟨.ok a_,_,b,λv H' t hd=>?_⟩;obtain⟨j,a,c⟩:=ok.newGrd (i:=i) t (λds d=>Tw.mp hn ds d) hd;exact q _ _ _ c a
  .cases e
 .rename_i C β1 b
  cases e;refine⟨.error C,_,b,λH' t=>?_⟩;obtain⟨a,c⟩:=ok.to rfl t;exact q _ B H' c a
 .cases e
theorem d4.put{H:Hp}{P:Qs->Prop}(t:Tr F H F (upd H r (.lst xs)))(hd:bb K F (upd H r (.lst xs)) ds xs):∀{a_:List (List D)} {rs:List Qs} (j:Nat),d4 K F H P a_ rs->rs.Nodup->rs[j]?=on r->d4 K F (upd H r (.lst xs)) P (a_.set j ds) rs
 |d0::a_,r0::rs,0,h,nd,e=>by
  obtain rfl:r0=r:=by simpa using e
  have ne:∀a∈rs,a≠r0:=λa b z=>(Rf.mp nd).1 (z▸b);exact⟨h.1,⟨xs,ah,hd⟩,d4.tr t h.2.2 λa ys b p q=>⟨p,by rw[b_ (ne a b)];exact q⟩⟩
 |d0::a_,r0::rs,j+1,h,nd,e=>by
  have c:rs[j]?=on r:=by simpa using e
  obtain⟨d,⟨ys,f,g⟩,i⟩:=h;have ne:r0≠r:=λz=>(Rf.mp nd).1 (z▸Q1 c);exact⟨d,⟨ys,by rw[b_ ne];exact f,bb.tr t _ _ g⟩,d4.put t hd j i (Rf.mp nd).2 c⟩
 |[],[],_,_,_,e=>by simp at e
 |[],_::_,_,h,_,_=>h.elim
 |_::_,[],_,h,_,_=>h.elim
theorem d4.at{H:Hp}{P:Qs->Prop}:∀{a_:List (List D)} {rs:List Qs} {j:Nat} {ds:List D},d4 K F H P a_ rs->a_[j]?=on ds->∃r xs,rs[j]?=on r/\P r/\H r=on (.lst xs)/\bb K F H ds xs
 |d0::a_,r0::rs,0,ds,h,e=>by
  obtain rfl:d0=ds:=by simpa using e
  obtain⟨a,⟨ys,b,c⟩,g⟩:=h;exact⟨r0,ys,rfl,a,b,c⟩
 |d0::a_,r0::rs,j+1,ds,h,e=>by
  obtain⟨r,xs,d,f⟩:=d4.at h.2.2 (j:=j) (ds:=ds) (by simpa using e);exact⟨r,xs,by simpa using d,f⟩
 |[],[],_,_,_,e=>by simp at e
 |[],_::_,_,_,h,_=>h.elim
 |_::_,[],_,_,h,_=>h.elim
theorem f_.writeRow{rs:List Qs}{a_:List (List D)}(ok:f_ K H₀ B bg H δ β σ)(hs:σ[i]?=on (on (.ref a)))(hB:B a=on (i+2))(ha:H a=on (.lst (rs.map V.ref)))(nd:(a::rs).Nodup)(L:d4 K (et B bg) H (λr=>B r=on (i+2)) a_ rs)(N:rs[j]?=on r)(U:H r=on (.lst ys))(hd:bb K (et B bg) H ds xs):
  f_ K H₀ B bg (upd H r (.lst xs)) (δ.set i (on (.grd (a_.set j ds)))) β σ/\g0 B H B (upd H r (.lst xs)):=by
 have t:r∈rs:=Q1 N;have g:B r=on (i+2):=(L.all r t).1;have m:g0 B H B (upd H r (.lst xs)):=by
  refine⟨λc o h n=>?_,λ_ _=>rfl,λ_ _ _ n=>n,λc hc=>?_⟩
  .rw[b_]
   .exact h
   .intro z;subst z;rw[g]at n;rcases n with n|n<;>cases n
  .by_cases z:c=r
   .subst z;rw[ah];simp
   .rw[b_ z];exact hc
 have tr:Tr (et B bg) H (et B bg) (upd H r (.lst xs)):=m.tr;refine⟨⟨⟨λc hc z=>?_,ok.fr.bgA,λb l e=>?_⟩,ok.bgt,by rw[Q3,ok.len],λa ha=>m.al a (ok.cov a ha),ok.new,λc k hc=>(by
  by_cases z:c=r
  .subst z;exact .inl ⟨xs,ah⟩
  .exact(ok.lst c k hc).imp λo y=>by rw[b_ z];exact y),λk s e=>?_⟩,m⟩
 .by_cases q:c=r
  .subst q;rw[ah]at z;cases z
  .rw[b_ q]at z;exact ok.fr.occ c hc z
 .obtain⟨b1,b2⟩:=ok.bgt b l e
  rw[b_ (λz=>by subst z;rw[g]at b1;cases b1),b_ (λz=>by subst z;rw[g]at b2;cases b2)];exact ok.fr.bag b l e
 .rw[Ru]at e
  by_cases q:i=k
  .subst q
   rw[Qt rfl]at e;split at e
   .cases e
    have I:a≠r:=λz=>(Rf.mp nd).1 (z▸t);exact⟨_,hs,a,rs,rfl,hB,by rw[b_ I];exact ha,nd,d4.put tr (bb.tr tr _ _ hd) j L (Rf.mp nd).2 N⟩
   .cases e
  .rw[Qp q]at e
   obtain⟨v,Q,C⟩:=ok.tell k s e;refine⟨v,Q,?_⟩;have F:∀c,B c=on (k+2)->c≠r:=λc f z=>by subst z;rw[g]at f;cases f;exact q rfl
   cases s with
   |sh d=>exact cx.tr tr _ _ C
   |own cs=>
    obtain⟨c,O,u,f,A,J⟩:=C;exact⟨c,O,u,f,by rw[b_ (F c f)];exact A,bb.tr tr _ _ J⟩
   |grd rows2=>
    obtain⟨c,R,u,f,A,J,T⟩:=C;exact⟨c,R,u,f,by rw[b_ (F c f)];exact A,J,d4.tr tr T λr O _ p q=>⟨p,by rw[b_ (F r p)];exact q⟩⟩
   |odc b ks vs=>
    obtain⟨c,u,f,A⟩:=C;exact⟨c,u,f,A.tr tr λo z=>by rw[b_ (F c f)];exact z⟩
def mU(i:Nat):G:=λδ β=>match δ.getD i Qh with
 |some (.grd a_)=>on (.rg a_,β)
 |_=>Qh
theorem zk(h:PS X (.Return (on e) pos) (w9 (kn i))):PS X (.Return (on e) pos) (tG X.K X.H₀ (mU i) E):=h.imp λD σ H b=>by
 obtain⟨B,bg,δ,β,o,β',ok,e,q⟩:=b;unfold mU at e;split at e
 .rename_i a_ c
  cases e;obtain⟨v,d,a,rs,rfl,hB,ha,nd,f⟩:=ok.tell i _ (getD_some c);exact⟨_,d,q _ B H (g0.refl B H) ok.fr ⟨a,rs,rfl,ok.new a i hB,ha,nd,d4.tr (Tr.refl _ _) f λr xs _ p y=>⟨ok.new r i p,y⟩⟩⟩
 .cases e
def gN(f:Dn->M (List (List D))):G:=λδ β=>match f (vw δ) β with
 |some (.ok a_,β1)=>on (.rg a_,β1)
 |some (.error C,β1)=>on (.ex C δ,β1)
 |none=>Qh
theorem mB(h:PS X (.Return (on e) pos) (w9 (tVG X.K f E))):PS X (.Return (on e) pos) (tG X.K X.H₀ (gN f) E):=h.imp λD σ H j=>by
 obtain⟨B,bg,δ,β,o,β',ok,e,q⟩:=j;refine⟨et B bg,vw δ,β,ok.fr,ok.view,?_⟩;unfold gN at e;split at e
 .rename_i a_ β1 d
  cases e;refine⟨.ok a_,_,d,λv H' t hd=>?_⟩;obtain⟨b,g⟩:=ok.to rfl t;have i:∀c,H c=Qh->X.H₀ c=Qh:=λc hc=>by
   cases w:X.H₀ c with
   |none=>rfl
   |some o=>exact QX hc (ok.cov c (by rw[w];simp))
  obtain⟨a,rs,rfl,k,l,nd,m⟩:=hd;exact q _ B H' g b.fr ⟨a,rs,rfl,i a k,l,nd,d4.tr (Tr.refl _ _) m λr xs _ p y=>⟨i r p,y⟩⟩
 .rename_i C β1 d
  cases e;refine⟨.error C,_,d,λH' t=>?_⟩;obtain⟨b,g⟩:=ok.to rfl t;exact q _ B H' g b
 .cases e
def spG(K:QR)(n:Nat)(m:List D->M (List (List D))):Sp:=λvs H Q E=>vs.length=n/\∃F ds β,Fr F H β/\bb K F H ds vs/\run (gX K F H) F (λ_=>E) [] (m ds) H Q β
def kW(n:Nat)(g:G):List D->M (List (List D)):=λds β=>match g (ot n ds) β with
 |some (.rg a_,β')=>on (.ok a_,β')
 |some (.ex C _,β')=>on (.error C,β')
 |_=>Qh
variable{P:Rc}{w:Ro}{mg:Rl->Option Qv}{base:RQ}
theorem qD{st:RT}{N ps:List Rl}(n m:Nat)(g:G)(F:d5 K x qual st f fd)(S:cp N ps (ae st))(L:ps.length=n)(O:N.length=m)
  (j:∀(c:Qv) (A:RG) (outer:List XH) (s:QA) (H:Hp) (E:XK),ej k (A.deeper (UU qual (ae st) s.heap.objs.size f c))->
   PSs (fi (g_ P w) P w K mg base N qual (ae st) f c A outer s H E) (ci st) (tG K H g (λ_=>E))):fw P w K mg base (g_ P w) (k+1) f fd ps (spG K n (kW m g)):=by
 subst L O;refine F.okE S (λvs H Q E h=>h.1) λc A outer s H vs Q E hr h=>?_;obtain⟨hl,u,ds,β,fr,hd,r,β',e,h⟩:=h;refine⟨_,j c A outer s H E hr,?_⟩;obtain⟨B,ok,R,h1,hn⟩:=tQ (N:=N) fr hd;have J:∀{I:Ow} {H':Hp},g0 B H I H'->Fr (et I u.bg) H' β'->To u H H' β'/\Tr (et I u.bg) H' u H':=λ{I H'} s i=>by
  have hs:∀a,u.A a->I a≠Qh:=λa ha=>by
   rw[s.tg a (R a ha)];rcases R a ha with z|z<;>rw[z]<;>simp
  refine⟨⟨λa o ha n=>s.kp a o ha ?_,λa ha=>i.occ a (hs a ha),λb l e=>fr.bgA b l e,i.bag⟩,λa ha _ z=>ha (hs a z),λ_ _ _ h=>h,rfl⟩;cases q:B a with
  |none=>exact .inl rfl
  |some t=>
   have:=R a (hn a (by rw[q];simp));rcases this with z|z
   .rw[q]at z;exact .inr z
   .obtain⟨b,l,e,w⟩:=h1 a z
    obtain⟨T,n2⟩:=n b l e;rcases w with w|w
    .exact QX w T
    .exact QX w n2
 unfold kW at e;split at e
 .rename_i d β1 U
  cases e;refine⟨B,u.bg,ot N.length ds,β,.rg d,β',ok,U,λv I H' s i hv=>?_⟩;obtain⟨W,t2⟩:=J s i;obtain⟨a,rs,ev,n0,T,nd,rl⟩:=hv;exact h v H' W ⟨a,rs,ev,n0,T,nd,d4.tr t2 rl λr xs _ p y=>⟨p,y⟩⟩
 .rename_i C Y β1 U
  cases e;refine⟨B,u.bg,ot N.length ds,β,.ex C Y,β',ok,U,λσ' I H' s Z=>?_⟩;obtain⟨W,t2⟩:=J s Z.fr;exact h H' W
 .cases e
variable{e:Expr}{es:List Expr}{pos p:Vm}{x:Rl}{k n:Nat}{f:Qs}{fd:Q2}{ps:List Rl}
def i6(m:List D->M (List (List D)))(g:FL):Dn->M (List (List D)):=λδ=>M.bind (g δ) λas=>m as
theorem gX.pre{K:QR}{H b H':Hp}(t:To F H b β1)(h:gX K F b H' a_ v):gX K F H H' a_ v:=by
 obtain⟨a,rs,c,d,g,nd,i⟩:=h;exact⟨a,rs,c,t.none d,g,nd,d4.tr (Tr.refl _ _) i λr xs _ p y=>⟨t.none p,y⟩⟩
theorem lZ(G:fw X.prog X.w X.K X.mg X.base (g_ X.prog X.w) k f fd ps (spG X.K n m))(q:ej k X.A)(u:Gl X x)(hm:X.mg x=on (.ref f))(y:VZ X.K (.ref f)=Qo)(I:aB X.K fd ps [])(J:cE (g_ X.prog X.w) X E)
  (ha:PA X (e::es) (jm X.K g E)) (hn:∀δ β r β',g δ β=on (.ok r,β')->r.length=n) (a:(x==("__debug__":Rl))=Qr:=by decide) (L:QH (e::es) X.env=(Qr,RN e X.env)::QH es X.env:=by rfl) (b:(S4 pos (QH es X.env)).any (·.1)=Qr:=by rfl):
  PE X (.Call (.Name x p) (e::es) [] pos) (tVG X.K (i6 m g) E):=
 (mG G q u hm y I .nil J ha a L b).imp λσ H Q N=>li N λF δ β fr O r=>⟨F,δ,β,fr,O,by
  obtain⟨r0,c,h,i⟩:=run.bind (R:=bb X.K F) r;refine⟨r0,c,h,?_⟩;cases r0 with
  |error C=>exact i
  |ok ds=>
   intro vs T t hd;obtain⟨d',β1,j,d,r1⟩:=i vs T t hd;have U:=hn _ _ _ _ h;refine⟨by rw[RJ,<-hd.length,U],F,d',β1,j.fr,by rw[RJ];exact d,?_⟩;obtain⟨l,β2,W,o⟩:=r1;refine⟨l,β2,W,?_⟩;cases l with
   |ok a_=>exact λv H' Y Z=>o v H' Y (gX.pre j Z)
   |error C=>exact o⟩
variable{elt cy iter:Expr}{ifs:List Expr}{rest:List Ss}{scope:Scope}{Nc dr:List Rl}{c_:List Nat}{g:TG}{tb:Qs->TB}
theorem Mi{x:Rl}{a c:Vm}(m:X.N.Nodup)(d:X.N[i]?=on x)(o:y3 X.env.scope x)(hc:X.calm=Qo)(S:dt X scope Nc dr c_)(q:PI X cy iter (iV X.K it E))
  (r:∀(cl:List (Rl×Qs)) (C:Qs) (l:List Qs) (s:QA) (H:Hp),PG (aK X Nc scope cl C l s H) cy g/\dQ (aK X Nc scope cl C l s H) ifs (hY X.K tt E0)/\∀D,PB (aK X Nc scope cl C l s H) elt (⟨cy,iter,ifs,0⟩::rest) scope pos 0 D (tb D))
  (t:c7 X.K g tg) (u:eD tg) (v:∀D,sV X.K D (tb D) b)
  (j:Vb (.ListComp elt (⟨cy,iter,ifs,0⟩::rest) scope pos) (on (.Name x a)) c.line X.env=SY Qo:=by rfl)
  (hs:∀x,RC iter X.env x=SY x:=by intro _;rfl) (y:X.fn x=Qo\/X.env.scope.names.lookup x=on .local:=by first|exact .inl rfl|exact .inr rfl|assumption):
  PS X (.Assign [.Name x a] (.ListComp elt (⟨cy,iter,ifs,0⟩::rest) scope pos) c) (tG X.K X.H₀ (oh i (jZ dr.length c_ it tg tt b)) E):=
 xm ((v6 m d o hc S q r j hs y).imp λD σ H h=>yW t u v h)
end
end L2.Pu
namespace L2
open PySem PySem.Spec PyProof.Rows
section
variable{X:Cx}
theorem FU{bs:List Bool}{its:List Qv}(r:aw (bs.map V.bl) its){i:Nat}{v:Qv}(h:its.toArray[i]?=on v):v= .bool (bs.getD i Qr):=by
 have h':its[i]?=on v:=by simpa using h
 have a:=r.length;rw[Qi]at a;have b:i<bs.length:=by rw[a];exact(QI.mp h').1
 obtain⟨u,c,d⟩:=r.get (i:=i) (x:=V.bl bs[i]) (by rw[Qu,Ql b];rfl);rw[h']at c;cases c;rw[Qn,Ql b];exact d
theorem zy{α:Type}(f:Bool->Bool)(bs:List Bool):(Qy bs.length).map (λi=>bs.getD i Qr)=bs:=by
 apply ZZ;intro i;rw[Qu];by_cases h:i<bs.length
 .rw[R5 h,Ql h]
  simp[Qn,Ql h]
 .rw[Tc (by simpa using h),Tc (by omega)];rfl
theorem zA(bs:List Bool):((Qy bs.length).any λi=>bs.getD i Qr)=bs.any id:=by
 conv=>rhs;rw[<-zy (α:=Bool) id bs]
 rw[List.any_map];rfl
theorem ma(hc:X.calm=Qo):cL X (.builtin "any") (λxs H Q=>∃(a:Qs) (bs:List Bool),xs=[.ref a]/\f0 X.K H a (bs.map V.bl)/\Q (.bl (bs.any id)) H):=by
 intro j s y H xs us Q I r h;obtain⟨a,bs,rfl,l,q⟩:=h;cases r with
 |cons r1 m=>
  cases r1;cases m;obtain⟨its,k,p,B⟩:=I.list l;have f:=p.isList;have c:its.toArray.size=bs.length:=by rw[QO,<-k.length,Qi]
  have d:∀b o,s.heap.get? b=on o->b≠s.heap.objs.size:=λb o e z=>by
   rw[z,Y3 (Qz _)]at e;cases e
  have g:a≠s.heap.objs.size:=by
   obtain⟨o,e,_⟩:=f;exact d a o e
  have W:=Walks.list (prog:=X.prog) (w:=X.w) (A:=X.A.in1) (show X.A.in1.handled=Qh from I.ok.hd hc) s.heap.objs.size a g its.toArray;refine call_any_walk (We f ⟨s.heap.objs.size,[s.heap.objs.size,a],[s.heap.objs.size],its.toArray.size,_,_,λi=>bs.getD i Qr,rfl,W,⟨⟨_,QK s.heap rfl,rfl,rfl⟩,f.push _⟩,λi v s' C F n t=>?_,λh' J u=>?_⟩)
  .rw[FU k n]
   exact RP t
  .rw[c,zA]
   exact⟨.bl (bs.any id),H,I.kept λb o e=>u b o (λz=>d b o e (by simpa using z)) (Qm _ e),rfl,q⟩
end
end L2
namespace L2.Pu
open PySem PySem.Spec PyProof.Rows
noncomputable def dO:List D->Option (List Bool)
 |[]=>on []
 | .bl b::r=>(dO r).map (b::·)
 |_=>Qh
theorem nE{K:QR}:∀{ds:List D} {xs:List V} {bs:List Bool},dO ds=on bs->bb K F H ds xs->xs=bs.map V.bl
 |[],xs,bs,e,h=>by
  cases e;cases h;rfl
 |d::ds,xs,bs,e,h=>by
  obtain⟨x,f,rfl,a,c⟩:=h;cases d<;>first
   |(rename_i b
     cases q:dO ds with
     |none=>simp[dO,q]at e
     |some r=>
     simp[dO,q]at e;subst e;cases a.bl;rw[nE q c];rfl)
   |simp[dO]at e
def yA:List D->Option D
 |[.lst ds]=>(dO ds).map λbs=> .bl (bs.any id)
 |_=>Qh
variable{K:QR}
theorem xV:dg K (λxs H Q=>∃(a:Qs) (bs:List Bool),xs=[.ref a]/\f0 K H a (bs.map V.bl)/\Q (.bl (bs.any id)) H) yA:=λF H β Q ds d vs fr h e k=>by
 unfold yA at e;split at e
 .obtain⟨v,rfl,g⟩:=bb.one h
  obtain⟨a,xs,rfl,r,b⟩:=cx.sqL g;obtain⟨bs,q,e⟩:=V5.mp e;subst e;rw[nE q b]at r;exact⟨a,bs,rfl,r,k _ H (To.refl fr) rfl⟩
 .cases e
end L2.Pu
namespace L2
open PySem PySem.Spec PyProof.Rows
section
variable{X:Cx}{a b c d:Expr}{ta tb tc td:TE}{pos:Vm}
def OV(i e:R2)(tc td:TE)(y:V):TE:=λf H Q=>tc f H λw j=>i y w j λk g=>∃h,k= .bl h/\(if h=Qo then td f g λl m=>e w l m Q else Q (.bl Qr) g)
def vN(r h e:R2)(ta tb tc td:TE):TE:=λf H Q=>ta f H λx i=>tb f i λy j=>r x y j λz g=>∃k,z= .bl k/\(if k=Qo then OV h e tc td y f g Q else Q (.bl Qr) g)
theorem zH(J:gv X (RV op) r)(l:gv X (RV op') r')(i:gv X (RV op'') r'')(ha:PE X a ta)(L:PE X b tb)(hc:PE X c tc)(hd:PE X d td)
  (hm:ZS [op,op',op''] [b,c,d]=Qr:=by with_unfolding_all rfl):PT X (.Compare a [op,op',op''] [b,c,d] pos) (w8 (vN r r' r'' ta tb tc td)):=by
 intro f s g H Q I h;refine isTrue_chain (en (ha f s g H _ I h) λv N ⟨x,O,R,r1,q1⟩=>test_link (en (L f N g O _ R q1) λu T ⟨y,U,W,o,q2⟩=>
  en (J f T g U x y v u _ W r1 o q2) λY Z ⟨z,p,q,r3,k,e,q3⟩=>?_)) hm
 subst e;cases r3;refine RP ?_;cases k with
 |false=>
  obtain⟨m,j,n⟩:=q3;cases j;exact ite_ff ⟨p,q,n⟩
 |true=>
  refine ite_tt (test_link (en (hc f Z g p _ q q3) λt s4 ⟨A,H4,I4,B,q4⟩=>en (l f s4 g H4 y A u t _ I4 o B q4) λY s5 ⟨z',C,F,r5,m,j,q5⟩=>?_));subst j;cases r5;refine RP ?_;cases m with
  |false=>
   obtain⟨m,j,n⟩:=q5;cases j;exact ite_ff ⟨C,F,n⟩
  |true=>
   refine ite_tt (test_last (en (hd f s5 g C _ F q5) λw' s6 ⟨z2,H6,I6,r6,q6⟩=>en (i f s6 g H6 A z2 t w' _ I6 B r6 q6) λd' s7 ⟨z3,H7,I7,r7,k3,e3,q7⟩=>?_));subst e3;cases r7;exact RP ⟨H7,I7,q7⟩
end
end L2
namespace L2.Pu
open PySem PySem.Spec PyProof.Rows
section
variable{X:Cx}{E:St->XK}{a b c d:Expr}{pos:Vm}{K:QR}
def P6(f e:D->D->Option D)(h i:FD)(y:D):FD:=λδ=>M.bind (h δ) λw=>M.bind (M.ofO (f y w)) λz=>M.bind (M.ofO (asB z)) λc=>if c=Qo then M.bind (i δ) (λg=>M.ofO (e w g))else M.ret (.bl Qr)
def wF(o j e:D->D->Option D)(f g h i:FD):FD:=λδ=>M.bind (f δ) λa=>M.bind (g δ) λb=>M.bind (M.ofO (o a b)) λz=>M.bind (M.ofO (asB z)) λc=>if c=Qo then P6 j e h i b δ else M.ret (.bl Qr)
theorem run.later{α i:Type}{R:Hp->α->i->Prop}{F:Fx}{j:St}{m:M α}{H k:Hp}{Q:i->Hp->Prop}{β:Bg}(t:To F H k β)(h:run R F E j m H Q β):run R F E j m k Q β:=by
 obtain⟨l,f,e,q⟩:=h;refine⟨l,f,e,?_⟩;cases l with
 |ok d=>exact λv g tt=>q v g (t.trans tt)
 |error C=>exact λg tt=>q g (t.trans tt)
theorem xb(l:aV K r o)(l':aV K r' o')(O:aV K r'' o'')(T:tV K (wF o o' o'' f g h i) E σ H Q):vN r r' r'' (tV K f E) (tV K g E) (tV K h E) (tV K i E) σ H Q:=by
 obtain⟨F,δ,β,fr,U,T⟩:=T;refine⟨F,δ,β,fr,U,(run.bind (R:=cx K F) T).mono λv H1 n=>p5 n λd β1 t hd r1=>⟨F,δ,β1,t.fr,U.tr (t.tr fr),(run.bind (R:=cx K F) r1).mono λv2 H2 n=>p5 n λd2 β2 p u r2=>?_⟩⟩;obtain⟨z,ez,r3⟩:=run.ofO_bind r2;obtain⟨c,ec,L⟩:=run.ofO_bind r3;rw[i9 ec]at ez;have W:=U.tr ((t.tr fr).trans (p.tr t.fr));refine l F H2 β2 _ d d2 _ v v2 p.fr (cx.tr (p.tr t.fr) _ _ hd) u ez λvz H3 j hz=>⟨c,hz,?_⟩;cases c with
 |true=>
  rw[Qt rfl]at L;have Y:=cx.tr (j.tr p.fr) _ _ u;have y:=W.tr (j.tr p.fr);have r5:=run.later j L;refine⟨F,δ,β2,j.fr,y,(run.bind (R:=cx K F) r5).mono λw H4 n=>p5 n λdw A B C r6=>?_⟩;obtain⟨z',I,r7⟩:=run.ofO_bind r6;obtain⟨c',Z,N⟩:=run.ofO_bind r7;rw[i9 Z]at I;refine l' F H4 A _ d2 dw _ v2 w B.fr (cx.tr (B.tr j.fr) _ _ Y) C I λvz' H5 m hz'=>⟨c',hz',?_⟩;cases c' with
  |true=>
   rw[Qt rfl]at N;refine⟨F,δ,A,m.fr,y.tr ((B.tr j.fr).trans (m.tr B.fr)),(run.bind (R:=cx K F) (run.later m N)).mono λw' H6 ⟨dw',β6,t6,J,r9⟩=>?_⟩;obtain⟨d3,e3,k⟩:=run.ofO r9;exact O F H6 β6 Q dw dw' d3 w w' t6.fr (cx.tr ((m.tr B.fr).trans (t6.tr m.fr)) _ _ C) J e3 k
  |false=>
   rw[Qp Qx]at N;obtain⟨rr,β',e,q⟩:=N;cases e;exact q _ H5 m rfl
 |false=>
  rw[Qp Qx]at L;obtain⟨rr,β',e,q⟩:=L;cases e;exact q _ H3 j rfl
theorem DB(m:gv X (RV op) r)(j:gv X (RV op') r')(e:gv X (RV op'') r'')(l:aV X.K r o)(n:aV X.K r' o')(k:aV X.K r'' o'')(ha:PE X a (tV X.K f E))(p:PE X b (tV X.K g E))(hc:PE X c (tV X.K h E))(hd:PE X d (tV X.K i E))(hm:ZS [op,op',op''] [b,c,d]=Qr:=by with_unfolding_all rfl):
  PT X (.Compare a [op,op',op''] [b,c,d] pos) (hY X.K (fB (wF o o' o'' f g h i)) E):=(zH m j e ha p hc hd hm).imp λt H Q q=>xb l n k (nG q)
variable{st:RT}{H₀:Hp}{B:Ow}{bg:Option (Qs×Qs)}{H H':Hp}{δ:Ds}{β β':Bg}{σ:St}
theorem j0{α:Type}{x y:α}:∀{l:List α} {j:Nat},x∈l.set j y->x=y\/x∈l
 |[],_,h=>by cases h
 |a::l,0,h=>by
  rcases QD.mp h with rfl|h
  .exact .inl rfl
  .exact .inr (Qk _ h)
 |a::l,j+1,h=>by
  rcases QD.mp h with rfl|h
  .exact .inr Qq
  .rcases j0 h with z|z
   .exact .inl z
   .exact .inr (Qk _ z)
theorem f_.AtoB(ok:f_ K H₀ B bg H δ β σ):∀c,(et B bg).A c->(o_ B bg).A c\/D1 H c:=λc hc=>by
 have e:B c≠Qh:=hc;cases q:B c with
 |none=>exact QX q e
 |some k=>
  match k,q with
  |0,q=>exact .inl (.inl q)
  |1,q=>exact .inl (.inr q)
  |k+2,q=>exact .inr (ok.lst c k q)
theorem f_.noB{d:D}(ok:f_ K H₀ B bg H δ β σ)(hn:noL d=Qo)(h:cx K (o_ B bg) H d v):cx K (et B bg) H d v:=wj ok.AtoB d v hn h
def pI(i:Nat)(e f g:FD):G:=λδ β=>match g (hW δ) β with
 |some (.ok d,β1)=>match e (hW δ) β1 with
  |some (.ok (.int ka),β2)=>match f (hW δ) β2 with
   |some (.ok (.int kb),β3)=>match δ.getD i Qh with
    |some (.grd a_)=>match ry a_.length ka with
     |some ja=>match a_[ja]? with
      |some ds=>match ry ds.length kb with
       |some jb=>if noL d=Qo then on (.nx (δ.set i (on (.grd (a_.set ja (ds.set jb d))))),β3)else Qh
       |none=>Qh
      |none=>Qh
     |none=>Qh
    |_=>Qh
   |_=>Qh
  |_=>Qh
 |_=>Qh
theorem zn(h:PS X st (gZ (tV X.K fv E) (FI (tOp (xq X.K) (kn i) (tV X.K fa E)) (tV X.K fb E) JC))):PS X st (tG X.K X.H₀ (pI i fa fb fv) E):=h.imp λD σ H h_=>by
 obtain⟨B,bg,δ,β,o,β',ok,e,q⟩:=h_;refine⟨o_ B bg,hW δ,β,ok.frA,ok.viewA,?_⟩;unfold pI at e;split at e
 .rename_i d β1 e1
  refine⟨.ok d,_,e1,λv H1 t1 hd=>?_⟩;obtain⟨f,s1⟩:=ok.to rfl t1;split at e
  .rename_i ka β2 e2
   split at e
   .rename_i kb β3 e3
    split at e
    .rename_i a_ Q
     split at e
     .rename_i ja ea
      split at e
      .rename_i ds er
       split at e
       .rename_i jb eb
        split at e
        .rename_i R
         cases e;have hd:=f.noB R hd;obtain⟨w,N,a,rs,rfl,hB,ha,nd,rl⟩:=f.tell i _ (getD_some Q);refine⟨_,N,o_ B bg,hW δ,β1,f.frA,f.viewA,.ok (.int ka),β2,e2,λy H2 t2 hy=>?_⟩;cases hy;obtain⟨j,s2⟩:=f.to (F:=o_ B bg) rfl t2;obtain⟨w2,h2,a2,g,ew,k,m,nd2,n⟩:=j.tell i _ (getD_some Q);rw[N]at h2;cases h2;cases ew;obtain⟨r,xs,T,hp,hx,dl⟩:=n.at er;refine⟨a,g.map V.ref,ka,.ref r,rfl,rfl,f0.of m,?_,?_⟩
         .unfold s_
          rw[Qi,<-n.len,ea];show(g.map V.ref)[ja]?=_;rw[Qu,T];rfl
         .refine⟨o_ B bg,hW δ,β2,j.frA,j.viewA,.ok (.int kb),_,e3,λz H3 t3 hz=>?_⟩
          cases hz;obtain⟨p,s3⟩:=j.to (F:=o_ B bg) rfl t3;obtain⟨w3,h3,a3,t,U,W,u,Y,A⟩:=p.tell i _ (getD_some Q);rw[N]at h3;cases h3;cases U;have Z:g=t:=by
           have O:H3 a=on (.lst (g.map V.ref)):=t3.kp a _ m (λb l y=>⟨λw=>(by subst w;rw[(ok.bgt _ _ y).1]at k;cases k),λw=>(by subst w;rw[(ok.bgt _ _ y).2]at k;cases k)⟩);rw[u]at O;have k2:t.map V.ref=g.map V.ref:=by injection O with O;injection O
           exact(WU (λa b q=>by cases q;rfl)|>.mp k2).symm
          subst Z;obtain⟨r',C,I,hp',J,L⟩:=A.at er;rw[T]at I;cases I;have hv3:cx X.K (et B bg) H3 d v:=cx.tr (s3.tr) _ _ (cx.tr (s2.tr) _ _ hd);refine⟨r,C,kb,jb,rfl,rfl,J,by rw[<-L.length];exact eb,?_⟩;obtain⟨ok4,s4⟩:=p.writeRow (ds:=ds.set jb d) (xs:=C.set jb v) N W u Y A T J (bb.set jb L hv3);exact q _ _ _ (s1.trans (s2.trans (s3.trans s4))) ok4
        .cases e
       .cases e
      .cases e
     .cases e
    .cases e
   .cases e
  .cases e
 .cases e
variable{e:Expr}{es:List Expr}
def o2(op:D->D->Option (List D))(f g:FD):FL:=λδ=>M.bind (f δ) λa=>M.bind (g δ) λb=>M.ofO (op a b)
noncomputable def Ite(K:QR)(l:Qs):It:=
 ⟨λi H=>∃xs x,f0 K H l xs/\xs[i]?=on x,
  λi H v H'=>∃p x,H p=Qh/\v= .ref p/\H'=upd H p (.tup [.int (i:Int),x])/\∀xs,f0 K H l xs->xs[i]?=on x,
  λi H=>∃xs,f0 K H l xs/\xs.length=i⟩
theorem yQ{P:Rc}{w:Ro}{K:QR}{x1}{pos:Vm}(l e it:Qs)(t:e≠it):
  m3 P w K (.Tuple elts x1 pos) (Ite K l) [e,it] e (λi h=>(∃f,IsEnum h e it (i:Int) f)/\h.IsListIter it l i) where
 mem:=by simp
 obj:=λi h st b j=>by
  obtain⟨⟨f,m⟩,p⟩:=st;simp only[QD,R7,UM]at j;rcases j with rfl|rfl
  .exact⟨_,m,λv q=>by cases q⟩
  .obtain⟨o,q,_,d⟩:=p
   exact⟨o,q,λv z=>by rw[d]at z;cases z⟩
 keep:=λi h h' st k=>by
  obtain⟨⟨f,m⟩,p⟩:=st;exact⟨⟨f,k e (by simp) _ m⟩,p.at λo q=>k it (by simp) o q⟩
 item:=by
  intro X L N O hc i r s σ H E I y st Q;subst L N O;obtain⟨xs,x,q1,R⟩:=Q;obtain⟨⟨f,m⟩,p⟩:=st;obtain⟨g,r1,T⟩:=c4.src (b:=Qo) I q1;have hd:=I.ok.hd hc;have ne:l≠e:=c4.src_ne (b:=Qo) I q1 (y e (by simp));have U:l≠it:=c4.src_ne (b:=Qo) I q1 (y it (by simp));have Z:i<g.toArray.size:=by
   rw[QO,<-r1.length];exact(QI.mp R).1
  refine wpAny_pyNext_enum_itemD (Zf (show(X.A.in1).handled=Qh from hd) it l U g.toArray) m ⟨p,T⟩ Z t (by simp[t,ne.symm]) λu h' W pu fo f1 fT sz kp=>?_;refine⟨_,rfl,wpAny_letOwnedTupleGo_enum (s:={s with heap:=h',toks:=W+1}) fo λC F J=>?_⟩
  replace J:Rb e h' C:=J
  have zT:s.heap.objs.size≠e:=TR (QZ m);obtain⟨u',Y,ru⟩:=r1.get R;have eu:u=u':=by
   have:g[i]?=on u:=by simpa using pu
   rw[this]at Y;exact Q7 Y
  subst eu;have kk:∀b o,b∉[e,it]->s.heap.get? b=on o->C.get? b=on o:=λb o j q=>by
   simp only[QD,R7,UM,not_or]at j;exact J.extBut b o j.1 (kp b o j.1 j.2 q)
  have I2:c4 X r σ (upd H s.heap.objs.size (.tup [.int (i:Int),x])) {s with heap:=C,toks:=W+1}:=by
   refine c4.turnNew I y kk (Qz _) ⟨by show 2<=QN;decide,[.int i W,u],.cons ⟨_,rfl⟩ (.cons ru .nil),_,J.extBut _ _ zT fT,rfl,_,rfl⟩
  refine⟨.ref s.heap.objs.size,_,I2,rfl,⟨s.heap.objs.size,x,I.hok.fresh (Qz _),rfl,rfl,λas h1=>by rw[c4.src_inj (b:=Qo) I h1 q1];exact R⟩,⟨⟨_,by simpa using F⟩,?_⟩,λb j=>?_⟩
  .exact f1.1.at λo q=>J.extBut _ _ t.symm q
  .rw[b_]
   .exact(y b j).1
   .intro q
    have ol:∃o,s.heap.get? b=on o:=by
     simp only[QD,R7,UM]at j;rcases j with rfl|rfl
     .exact⟨_,m⟩
     .obtain⟨o,z,_⟩:=p;exact⟨o,z⟩
    obtain⟨o,z⟩:=ol;exact QX (QZ z) (by rw[q];exact Rv _)
 done:=by
  intro X L N O hc i r s σ H E I y st Q;subst L N O;obtain⟨xs,q1,hl⟩:=Q;obtain⟨⟨f,m⟩,p⟩:=st;obtain⟨g,r1,T⟩:=c4.src (b:=Qo) I q1;have hd:=I.ok.hd hc;have U:l≠it:=c4.src_ne (b:=Qo) I q1 (y it (by simp));have g1:g.toArray.size=i:=by rw[QO,<-r1.length,hl]
  refine wpAny_pyNext_enum_endD (n:=g.toArray.size) (Zf (show(X.A.in1).handled=Qh from hd) it l U g.toArray) m (by rw[g1];exact⟨p,T⟩) λh' kp=>⟨rfl,?_⟩;refine c4.turnL (t':=s.toks) I y λb o j q=>?_;simp only[QD,R7,UM,not_or]at j;exact kp b o j.2 q
 self:=λ_ _ _ _ _ st h=>by
  obtain⟨⟨f,m⟩,p⟩:=st;exact wpAny_pyIter_enum m h
def iEn(K:QR)(g:TA):TI:=λσ H R=>g σ H λvs f=>∃l xs,vs=[.ref l]/\f0 K f l xs/\R (Ite K l) f
theorem KP{a:Expr}{p pos:Vm}{x1}(n:Gl X "enumerate")(hm:X.mg "enumerate"=Qh)(ha:PA X [a] ta)(hs:QH [a] X.env=[(Qr,RN a X.env)]:=by rfl):
  PI X (.Tuple elts x1 tpos) (.Call (.Name "enumerate" p) [a] [] pos) (iEn X.K ta):=by
 intro f s σ H R I h;refine Call_ (fP I n hm PyProof.Rows.Boot.«enumerate» (Sd (en (ha pos f s σ H _ I h) λus g ⟨vs,k,j,r1,q1⟩=>?_) (by rw[hs];rfl) (by rfl)));obtain⟨l,xs,e,q1,q⟩:=q1;subst e;cases r1 with
 |cons r o=>
  cases o;cases r;obtain⟨t,A,u⟩:=c4.src (b:=Qo) j q1;refine call_enumerate_list u λh' m v sz kp=>?_;refine wpAny_pyIter_enum (s:={g with heap:=h'}) m ?_;have y:c4 X f σ k {g with heap:=h'}:=j.kept (t':=g.toks) kp;refine⟨_,[g.heap.objs.size+1,g.heap.objs.size],_,Ite X.K l,k,rfl,y,yQ l (g.heap.objs.size+1) g.heap.objs.size (Nat.succ_ne_self _),⟨⟨_,m⟩,v⟩,λc hc=>?_,q⟩;have i:g.heap.objs.size<=c:=by
   simp only[QD,R7,UM]at hc;rcases hc with rfl|rfl
   .exact Sg _ _
   .exact Qz _
  exact j.fpOk i (j.hok.fresh i)
noncomputable def dH:Nat->List D->List D
 |_,[]=>[]
 |n,x::xs=> .tup [.int (n:Int),x]::dH (n+1) xs
theorem rE:∀(n:Nat) (xs:List D),(dH n xs).length=xs.length
 |_,[]=>rfl
 |n,x::xs=>by
  show(dH (n+1) xs).length+1=xs.length+1;rw[rE (n+1) xs]
theorem rF:∀{n:Nat} {xs:List D} {i:Nat} {d:D},(dH n xs)[i]?=on d->∃x,xs[i]?=on x/\d= .tup [.int ((n+i:Nat):Int),x]
 |n,[],i,d,h=>by simp[dH]at h
 |n,x::xs,0,d,h=>by
  simp[dH]at h;exact⟨x,rfl,by rw[<-h];simp⟩
 |n,x::xs,i+1,d,h=>by
  have h':(dH (n+1) xs)[i]?=on d:=by simpa[dH]using h
  obtain⟨a,f,g⟩:=rF h';exact⟨a,by simpa using f,by rw[g,show n+1+i=n+(i+1) by omega]⟩
def J9:List D->Option (List D)
 |[.lst xs]=>on (dH 0 xs)
 |_=>Qh
theorem EY{H:Hp}(o:∀g f,Tr F H g f->∃xs,f0 K f l xs/\bb K g f ds xs):v_ K (Ite K l) F H (dH 0 ds):=λg f β2 t fr i=>by
 obtain⟨xs,h,d1⟩:=o g f t;refine⟨λd hd=>?_,λj=>?_⟩
 .obtain⟨x,q,rfl⟩:=rF hd
  obtain⟨u,k,du⟩:=d1.get q;refine⟨⟨xs,u,h,k⟩,λz y r=>?_⟩;obtain⟨p,A,m,rfl,rfl,v⟩:=r;have n:=v xs h;rw[k]at n;cases n;rw[RX];exact⟨bE.upd m,cx.newT fr m (bb.cons rfl (bb.cons du bb.nil))⟩
 .rw[rE]at j
  exact⟨xs,h,by rw[<-d1.length,j]⟩
def JN(g:FL):FL:=cY J9 g
theorem BB{a:Expr}{p pos:Vm}{x1}(q:Gl X "enumerate")(hm:X.mg "enumerate"=Qh)(ha:PA X [a] (jm X.K g E))(hs:QH [a] X.env=[(Qr,RN a X.env)]:=by rfl):
  PI X (.Tuple elts x1 tpos) (.Call (.Name "enumerate" p) [a] [] pos) (iV X.K (JN g) E):=
 (KP q hm ha hs).imp λσ H R j=>li j λF δ β fr r h=>⟨F,δ,β,fr,r,(run.bind (R:=bb X.K F) h).mono λvs f j=>by
  obtain⟨ds,β1,t,hd,r1⟩:=j;obtain⟨l,e,k⟩:=run.ofO r1;unfold J9 at e;split at e
  .rename_i xs
   cases e;obtain⟨v,rfl,o⟩:=bb.one hd;have z:∃a,v= .ref a/\∀m i,Tr F f m i->∃ys,f0 X.K i a ys/\bb X.K m i xs ys:=by
    obtain⟨a,ys,rfl,_⟩:=cx.sqL o;refine⟨a,rfl,λm i u=>?_⟩;obtain⟨I,n,y,sq,A⟩:=cx.sqL (cx.tr u _ _ o);cases y;exact⟨n,sq,A⟩
   obtain⟨a,rfl,z⟩:=z;obtain⟨us,C,_⟩:=z F f (Tr.refl F f);exact⟨a,us,rfl,C,k _ f (To.refl t.fr) (EY z)⟩
  .cases e⟩
def dh(K:QR)(g:Q2)(ps:List Rl)(h:List D):Prop:=∃ds f,aB K g ps ds/\aw f ds/\∀F H,bb K F H h f
inductive Sr (α:Type) where
 |kw (j:Nat)|df (a:α)
variable{p kpos:Vm}{x:Rl}{k n:Nat}{f:Qs}{fd:Q2}{ps ks:List Rl}{kws:List XJ}{nm:Option Rl}
def u6(m:List D->M D)(g:FL)(h:List D):FD:=λδ=>M.bind (g δ) λas=>m (as++h)
theorem Ko{h:List D}(G:fw X.prog X.w X.K X.mg X.base (g_ X.prog X.w) k f fd ps (zv X.K n m))(y:ej k X.A)(I:Gl X x)(hm:X.mg x=on (.ref f))(J:VZ X.K (.ref f)=Qo)(L:dh X.K fd ps h)(N:cE (g_ X.prog X.w) X E)
  (ha:PA X (e::es) (jm X.K g E)) (hn:∀δ β r β',g δ β=on (.ok r,β')->r.length+h.length=n) (i:(x==("__debug__":Rl))=Qr:=by decide) (O:QH (e::es) X.env=(Qr,RN e X.env)::QH es X.env:=by rfl) (j:(S4 pos (QH es X.env)).any (·.1)=Qr:=by rfl):
  PE X (.Call (.Name x p) (e::es) [] pos) (tV X.K (u6 m g h) E):=by
 obtain⟨ds,T,b,U,rd⟩:=L;refine(mG G y I hm J b U N ha i O j).imp λσ H Q W=>li W λF δ β fr Y r=>⟨F,δ,β,fr,Y,?_⟩;obtain⟨r0,l,u,v⟩:=run.bind (R:=bb X.K F) r;refine⟨r0,l,u,?_⟩;cases r0 with
 |error C=>exact v
 |ok as=>
  intro vs o t hd;obtain⟨d',β1,Z,q,r1⟩:=v vs o t hd;have hl:=hn _ _ _ _ u;have hz:=(rd F o).length;refine⟨by rw[QV,<-hd.length,<-hz,hl],F,d'++h,β1,Z.fr,bb.append q (rd F o),run.toE r1⟩
def Gw(g:G)(δ:Ds)(β:Bg)(Q:p_->Bg->Prop):Prop:=∃o β',g δ β=on (o,β')/\Q o β'
end
section
variable{g h a b g1 g2:G}{δ δ1:Ds}{β β1 β2 β3:Bg}{Q R:p_->Bg->Prop}{i:Nat}{f fa fb fv:FD}{fl:FL}{fg:Dn->M (List (List D))}{d x y z:D}{ds as:List D}{t:Dn->M Bool}{c:Bool}{C:Qs}{K:QR}
theorem Gw.mono(k:Gw g δ β R)(q:∀o β,R o β->Q o β):Gw g δ β Q:=let ⟨o,β',e,r⟩:=k;⟨o,β',e,q _ _ r⟩
theorem KE:aG g gNil=g:=by
 funext δ β;unfold aG gNil;split
 .rename_i δ1 β1 e;exact e.symm
 .rfl
theorem ao(k:Gw (aG g gNil) δ β Q):Gw g δ β Q:=by rw[KE]at k;exact k
theorem bx(q:Q (.nx δ) β):Gw gNil δ β Q:=⟨_,_,rfl,q⟩
theorem c9(e:g δ β=on (.nx δ1,β1))(k:Gw h δ1 β1 Q):Gw (aG g h) δ β Q:=by
 obtain⟨o,j,l,q⟩:=k;exact⟨o,j,by unfold aG;rw[e];exact l,q⟩
theorem p8(k:Gw (aG a (aG b h)) δ β Q):Gw (aG (aG a b) h) δ β Q:=by
 obtain⟨o,j,l,q⟩:=k;refine⟨o,j,?_,q⟩;rw[<-l];unfold aG;split<;>rename_i e<;>(split at e<;>simp_all)
theorem bK(k:Gw h δ β Q):Gw (aG gNil h) δ β Q:=c9 rfl k
theorem oC(k:Gw g (fz i δ) β Q):Gw (fzG i g) δ β Q:=k
theorem aD(e:f (vw δ) β=on (.ok d,β1))(k:Gw h (δ.set i (on (.sh d))) β1 Q):Gw (aG (fV i f) h) δ β Q:=c9 (by unfold fV;rw[e]) k
theorem ft(e:f (hW δ) β=on (.ok d,β1))(k:Gw h δ β1 Q):Gw (aG (pJ f) h) δ β Q:=c9 (by unfold pJ;rw[e]) k
theorem k9(e:t (hW δ) β=on (.ok c,β1))(k:Gw (aG (if c=Qo then g1 else g2) h) δ β1 Q):Gw (aG (ss t g1 g2) h) δ β Q:=by
 obtain⟨o,j,l,q⟩:=k;refine⟨o,j,?_,q⟩;rw[<-l];unfold aG ss;rw[e];cases c<;>rfl
theorem IO(e:t (hW δ) β=on (.ok Qo,β1))(k:Gw (aG g1 h) δ β1 Q):Gw (aG (ss t g1 g2) h) δ β Q:=k9 e k
theorem ig(e:t (hW δ) β=on (.ok Qr,β1))(k:Gw (aG g2 h) δ β1 Q):Gw (aG (ss t g1 g2) h) δ β Q:=k9 e k
theorem aT(e:f (hW δ) β=on (.ok d,β1))(q:Q (.rt d) β1):Gw (aG (jE f) h) δ β Q:=⟨_,_,by unfold aG jE;rw[e],q⟩
theorem yJ(e:δ.getD i Qh=on (.grd a_))(q:Q (.rg a_) β):Gw (aG (mU i) h) δ β Q:=⟨_,_,by unfold aG mU;rw[e],q⟩
theorem mq(e:fg (vw δ) β=on (.ok a_,β1))(q:Q (.rg a_) β1):Gw (aG (gN fg) h) δ β Q:=⟨_,_,by unfold aG gN;rw[e],q⟩
theorem wX{a_:List (List D)}(e:fg (vw δ) β=on (.ok a_,β1))(hn:a_.all noLs=Qo)(k:Gw h (δ.set i (on (.grd a_))) β1 Q):Gw (aG (oh i fg) h) δ β Q:=c9 (by unfold oh;simp only[e,hn,RF]) k
theorem IN{a_:List (List D)}(e:fv (hW δ) β=on (.ok d,β1))(j:fa (hW δ) β1=on (.ok (.int ka),β2))(l:fb (hW δ) β2=on (.ok (.int kb),β3))(m:δ.getD i Qh=on (.grd a_))
  (n:ry a_.length ka=on ja) (o:a_[ja]?=on ds) (p:ry ds.length kb=on jb) (hn:noL d=Qo) (k:Gw h (δ.set i (on (.grd (a_.set ja (ds.set jb d))))) β3 Q):Gw (aG (pI i fa fb fv) h) δ β Q:=
 c9 (by unfold pI;simp only[e,j,l,m,n,o,p,hn,RF]) k
theorem IM(e:fl (vw δ) β=on (.ok ds,β1))(j:ds.length<=QN)(k:Gw h (δ.set i (on (.own ds))) β1 Q):Gw (aG (yc i fl) h) δ β Q:=c9 (by unfold yc;simp only[e,j,RF]) k
theorem IQ{cs:List D}(j:δ.getD i Qh=on (.own cs))(e:fl (vw δ) β=on (.ok [d],β1))(l:cs.length<QN)(k:Gw h (δ.set i (on (.own (cs++[d])))) β1 Q):Gw (aG (yg i fl) h) δ β Q:=
 c9 (by unfold yg;simp only[j,e,l,RF]) k
theorem mr(e:f (vw δ) β=on (.ok d,β1))(j:tg d δ=on δ1)(k:Gw h δ1 β1 Q):Gw (aG (yf f tg) h) δ β Q:=c9 (by unfold yf;simp only[e,j,Sh]) k
def Tn(I:Ds->Bg->Prop)(h:G)(Q:p_->Bg->Prop):p_->Bg->Prop:=λo β=>match o with
 | .nx δ=>I δ β
 | .ct δ=>I δ β
 | .bk δ=>Gw h δ β Q
 |o=>Q o β
theorem da(e:it (vw δ) β=on (.ok ds,β1))(u:Nat->Ds->Bg->Prop)(N:u 0 δ β1)(step:∀i d δ β,ds[i]?=on d->u i δ β->∃δ1,tg d δ=on δ1/\Gw g δ1 β (Tn (u (i+1)) h Q))(k:∀δ β,u ds.length δ β->Gw h δ β Q):
  Gw (aG (qC it tg g) h) δ β Q:=by
 have gen:∀(es:List D) (j:Nat) (δ:Ds) (β:Bg),es=ds.drop j->j+es.length=ds.length->u j δ β->Gw (aG (nw tg g es) h) δ β Q:=by
  intro es
  induction es with
  |nil=>
   intro j δ β _ B F;simp at B;exact c9 (g:=nw tg g []) rfl (k δ β (B▸F))
  |cons d es ih=>
   intro j δ β L B F;have O:ds[j]?=on d:=by
    have:=RE (λl=>l[0]?) L;simpa[ZD]using this.symm
   obtain⟨δ1,v,o,β2,A,q⟩:=step j d δ β O F;have H:es=ds.drop (j+1):=by
    have:=RE List.tail L;simpa[List.tail_drop]using this
   have go:∀m,u (j+1) m β2->Gw (aG (nw tg g es) h) m β2 Q:=λm I=>ih (j+1) m β2 H (by simp at B;omega) I;have n:∀{r:G} {m:Ds},Gw (aG r h) m β2 Q->nw tg g (d::es) δ β=r m β2->Gw (aG (nw tg g (d::es)) h) δ β Q:=λ{r m} ⟨T,p,J,U⟩ W=>⟨T,p,by rw[<-J];unfold aG;rw[W],U⟩;cases o with
   |nx m=>exact n (r:=nw tg g es) (go m q) (by rw[nw];simp only[v,A])
   |ct m=>exact n (r:=nw tg g es) (go m q) (by rw[nw];simp only[v,A])
   |bk m=>exact n (r:=gNil) (bK q) (by rw[nw];simp only[v,A];rfl)
   |rt d'=>exact⟨_,β2,by unfold aG;rw[nw];simp only[v,A],q⟩
   |rg d'=>exact⟨_,β2,by unfold aG;rw[nw];simp only[v,A],q⟩
   |ex C m=>exact⟨_,β2,by unfold aG;rw[nw];simp only[v,A],q⟩
 obtain⟨o,p,J,q⟩:=gen ds 0 δ β1 (by simp) (by simp) N;refine⟨o,p,?_,q⟩;rw[<-J];unfold aG qC;rw[e]
theorem CC{S:Except Qs D->Bg->Prop}(k:Gw g (ot n ds) β (λo j=>match o with| .rt d=>S (.ok d) j| .nx _=>S (.ok .non) j| .ex C _=>S (.error C) j|_=>False)):∃r j,fX n g ds β=on (r,j)/\S r j:=by
 obtain⟨o,j,e,q⟩:=k;cases o with
 |rt d=>exact⟨.ok d,j,by unfold fX;rw[e],q⟩
 |nx δ=>exact⟨.ok .non,j,by unfold fX;rw[e],q⟩
 |ex C δ=>exact⟨.error C,j,by unfold fX;rw[e],q⟩
 |_=>exact q.elim
theorem qN{S:List (List D)->Bg->Prop}(k:Gw g (ot n ds) β (λo j=>match o with| .rg d=>S d j|_=>False)):∃r j,kW n g ds β=on (.ok r,j)/\S r j:=by
 obtain⟨o,j,e,q⟩:=k;cases o with
 |rg d=>exact⟨d,j,by unfold kW;rw[e],q⟩
 |_=>exact q.elim
theorem aJ(k:Gw g (ot n ds) β (λo j=>j=β/\(match o with| .rt d=>r= .ok d| .nx _=>r= .ok .non| .ex C _=>r= .error C|_=>False))):fX n g ds β=on (r,β):=by
 obtain⟨l,j,e,q1,q2⟩:=CC (S:=λl j=>j=β/\r=l) (n:=n) (ds:=ds) (β:=β) (k.mono λo j h=>by
  cases o<;>first|exact h|exact h.2)
 subst q1 q2;exact e
theorem am{δ:Dn}(e:fl δ β=on (.ok as,β1))(j:m as β1=on r):bF m fl δ β=on r:=by unfold bF M.bind;rw[e];exact j
theorem Ki{δ:Dn}(e:fl δ β=on (.ok as,β1))(j:m (as++dd) β1=on r):u6 m fl dd δ β=on r:=by unfold u6 M.bind;rw[e];exact j
theorem jG{δ:Dn}(e:fl δ β=on (.ok as,β1))(j:m as β1=on r):i6 m fl δ β=on r:=by unfold i6 M.bind;rw[e];exact j
theorem dq{δ:Dn}(e:fa δ β=on (.ok x,β1))(j:fb δ β1=on (.ok y,β2))(k:op x y=on z):f2 op fa fb δ β=on (.ok z,β2):=by unfold f2 M.bind;rw[e];simp only[j,M.ofO,k]
theorem x_1{δ:Dn}(e:fa δ β=on (.ok x,β1))(j:op x=on z):f1 op fa δ β=on (.ok z,β1):=by unfold f1 M.bind;rw[e];simp only[M.ofO,j]
theorem aj{δ:Dn}(e:fl δ β=on (.ok as,β1))(j:op as=on z):aQ op fl δ β=on (.ok z,β1):=by unfold aQ M.bind;rw[e];simp only[M.ofO,j]
theorem aa{δ:Dn}(e:fa δ β=on (.ok x,β1))(j:fl δ β1=on (.ok as,β2)):ac fa fl δ β=on (.ok (x::as),β2):=by unfold ac M.bind;rw[e];simp only[j,M.ret]
theorem bG{δ:Dn}(e:fl δ β=on (.ok as,β1))(j:op as=on ds):cY op fl δ β=on (.ok ds,β1):=by unfold cY M.bind;rw[e];simp only[j,M.ofO]
theorem dj{δ:Dn}(e:fa δ β=on (.ok x,β1))(j:eY x=on ds):eP fa δ β=on (.ok ds,β1):=by unfold eP M.bind;rw[e];simp only[j,M.ofO]
theorem io{δ:Dn}(e:fa δ β=on (.ok (.bl c),β1)):fB fa δ β=on (.ok c,β1):=by unfold fB M.bind;rw[e];rfl
theorem se{δ:Dn}(e:fa δ β=on (.ok x,β1))(j:CZ x=on c):u4 fa δ β=on (.ok c,β1):=by unfold u4 M.bind;rw[e];simp only[M.ofO,j]
theorem sj{δ:Dn}(e:t δ β=on (.ok c,β1)):ym t δ β=on (.ok (!c),β1):=by unfold ym M.bind;rw[e];rfl
theorem jR(ok:β.ok)(k:0<lot)(l:lot<1073741824):∃v e,bZ [.bag,.int lot] β=on (.ok (.int v),e)/\0<=v/\v<lot/\e.ok:=by
 obtain⟨m,a1,j⟩:=v3 ok k;exact⟨_,_,EK ok k l,m,a1,j⟩
theorem lV{n:Nat}{k:Int}(e:0<=k)(j:k<n):ry n k=on k.toNat:=by unfold ry;rw[Qt e,Qt j]
theorem AS{k:Int}{d:D}(e:0<=k)(h:xs[k.toNat]?=on d):jn (.lst xs) (.int k)=on d:=by
 have j:k.toNat<xs.length:=(QI.mp h).1;show s_ xs k=on d;unfold s_;rw[lV e (by omega)];exact h
theorem iY{x y:D}:jn (.tup [x,y]) (.int 0)=on x:=rfl
theorem fR{x y:D}:jn (.tup [x,y]) (.int 1)=on y:=rfl
end
section
variable{β β1 β2:Bg}{f g h i:FD}{t u:Dn->M Bool}{δ:Dn}{c e:Bool}{x y z w:Int}{d:D}
theorem sf(a:t δ β=on (.ok Qr,β1))(b:u δ β1=on (.ok e,β2)):qF t u δ β=on (.ok e,β2):=by
 unfold qF M.bind;rw[a];simp[b]
theorem Kh(a:f δ β=on (.ok (.bl Qo),β1))(b:g δ β1=on (.ok d,β2)):yo f g δ β=on (.ok d,β2):=by
 unfold yo M.bind;rw[a];simp[asB,M.ofO,b]
theorem le_int:leD (.int x) (.int y)=on (.bl (decide (x<=y))):=rfl
theorem lt_int:ltD (.int x) (.int y)=on (.bl (decide (x<y))):=rfl
theorem gt_int:gtD (.int x) (.int y)=on (.bl (decide (y<x))):=rfl
theorem vE(a:f δ β=on (.ok (.int x),β))(b:g δ β=on (.ok (.int y),β))(j:h δ β=on (.ok (.int z),β)):j3 leD leD f g h δ β=on (.ok (.bl (decide (x<=y)&&decide (y<=z))),β):=by
 unfold j3 M.bind;rw[a];simp only[b,le_int,M.ofO,asB];by_cases q:x<=y
 .simp only[q,decide_true,RF,j,le_int,VO]
 .simp only[q,decide_false,QS,RH,M.ret,Wv]
theorem wW{g h:G}{δ:Ds}{β:Bg}(P:Ds->Bg->Prop)(a:Gw g δ β (λo β1=>∃δ1,o= .nx δ1/\P δ1 β1))(b:∀δ1 β1,P δ1 β1->Gw h δ1 β1 Q):Gw (aG g h) δ β Q:=by
 obtain⟨o,β1,e,δ1,rfl,p⟩:=a;exact c9 e (b δ1 β1 p)
theorem jH{δ:Ds}{β:Bg}{P:Ds->Bg->Prop}(p:P δ β):Gw gNil δ β (λo β1=>∃δ1,o= .nx δ1/\P δ1 β1):=bx ⟨_,rfl,p⟩
noncomputable abbrev gI(a_:LI):List (List D):=a_.map λr=>r.map D.int
noncomputable abbrev lG(a_:List (List D)):D:= .lst (a_.map D.lst)
abbrev cZ(a_:LI):D:=lG (gI a_)
noncomputable def pD(p:Int×Int):D:= .tup [.int p.1,.int p.2]
abbrev gP(b:LP):List (List D):=b.map λr=>r.map pD
abbrev fY(b:LP):D:=lG (gP b)
def i4{α:Type}(r c:Nat)(m:List (List α)):Prop:=m.length=r/\∀row∈m,row.length=c
noncomputable def tot(a_:LI):Int:=(a_.map RZ).sum
theorem br(h:n<=1000):n<=QN:=Qw h (by decide)
theorem gH:∀r:List Int,noLs (r.map D.int)=Qo
 |[]=>rfl
 |x::r=>by
  show(noL (.int x)&&noLs (r.map D.int))=Qo;rw[gH r];rfl
theorem i4.map{α a:Type}{f:α->a}{r c:Nat}{m:List (List α)}(h:i4 r c m):i4 r c (m.map λx=>x.map f):=⟨by rw[Qi,h.1],λrow b=>by
 obtain⟨x,j,rfl⟩:=QC.mp b;rw[Qi];exact h.2 x j⟩
theorem i4.set{α:Type}{r c i j:Nat}{m:List (List α)}{row:List α}{v:α}(h:i4 r c m)(b:m[i]?=on row):i4 r c (m.set i (row.set j v)):=⟨by rw[Q3,h.1],λx a=>by
 rcases Uk a with a|rfl
 .exact h.2 x a
 .rw[Q3];exact h.2 row (Q1 b)⟩
theorem i4.at{α:Type}{r c i:Nat}{m:List (List α)}(h:i4 r c m)(b:i<r):∃row,m[i]?=on row/\row.length=c:=by
 have a:i<m.length:=by rw[h.1];exact b
 exact⟨m[i],Ql a,h.2 _ (Rp a)⟩
theorem yz{α:Type}{l:List α}{i:Nat}(h:i<l.length):∃x,l[i]?=on x:=⟨l[i],Ql h⟩
theorem cq:∀{xs:List Int} {j:Nat} {x v:Int},xs[j]?=on x->(xs.set j v).sum=xs.sum-x+v
 |[],j,x,v,h=>by simp at h
 |y::xs,0,x,v,h=>by
  simp at h;subst h;simp only[List.set_cons_zero,QT];omega
 |y::xs,j+1,x,v,h=>by
  have h':xs[j]?=on x:=by simpa using h
  simp only[List.set_cons_succ,QT,cq h'];omega
theorem vL{a_:LI}{i j:Nat}{row:List Int}{x v:Int}(a:a_[i]?=on row)(b:row[j]?=on x):tot (a_.set i (row.set j v))=tot a_-x+v:=by
 unfold tot;rw[TK,cq (x:=row.sum) (by rw[Qu,a];rfl),cq b];omega
theorem z0{a_:LI}{i j:Nat}{row:List Int}(h:∀r∈a_,∀x∈r,0<=x)(k:a_[i]?=on row)(l:0<=v):∀r∈a_.set i (row.set j v),∀x∈r,0<=x:=λr a x b=>by
 rcases Uk a with a|rfl
 .exact h r a x b
 .rcases Uk b with b|rfl
  .exact h row (Q1 k) x b
  .exact l
theorem lu:∀{xs:List Int},(∀x∈xs,0<=x)->0<=xs.sum
 |[],_=>by simp
 |y::xs,h=>by
  have:=lu (xs:=xs) λx a=>h x (Qk _ a);have:=h y Qq;simp only[QT];omega
theorem uL:∀{xs:List Int},(∀x∈xs,0<=x)->∀x∈xs,x<=xs.sum
 |[],_,x,hx=>by cases hx
 |y::xs,h,x,hx=>by
  have:=lu (xs:=xs) λx hx=>h x (Qk _ hx);have:=h y Qq;rcases QD.mp hx with rfl|hx
  .simp only[QT];omega
  .have:=uL (xs:=xs) (λx hx=>h x (Qk _ hx)) x hx
   simp only[QT];omega
theorem M5(h:∀r∈a_,∀x∈r,0<=x):∀r∈a_,∀x∈r,x<=tot a_:=λr a x b=>by
 have k:=uL (h r a) x b;have l:=uL (xs:=a_.map RZ) (λs hs=>by
  obtain⟨q,j,rfl⟩:=QC.mp hs;exact lu (h q j)) r.sum (QC.mpr ⟨r,a,rfl⟩)
 unfold tot;omega
structure Tab (r c:Nat) (a_:LI):Prop where
 shp:i4 r c a_
 nn:∀row∈a_,∀x∈row,0<=x
 tot:tot a_<=40
 r0:1<=r
 r1:r<=4
 c0:1<=c
 c1:c<=6
theorem eF(ns:List Int):ik [.lst (ns.map D.int)]=on (.int ns.sum):=by
 show((ef (ns.map D.int)).map λl=>D.int l.sum)=_;have:∀ns:List Int,ef (ns.map D.int)=on ns:=λns=>by
  induction ns with
  |nil=>rfl
  |cons n ns ih=>simp[ef,ih]
 rw[this];rfl
theorem xr{n:Int}(a:0<=n)(h:n<=10^9):ge [.int n]=on (aU 0 n.toNat):=by
 have q:(decide (-(2^62)<=n)&&decide (n<2^62))=Qo:=by
  simp only[Q9,Rm];omega
 show(if(decide (-(2^62)<=n)&&decide (n<2^62))=Qo then on (aU 0 n.toNat)else Qh)=_;rw[Qt q]
theorem sy{d:D}(h:(aU 0 n)[k]?=on d):k<n/\d= .int (k:Int):=by
 unfold aU at h;have a:k<n:=by
  have:=(QI.mp h).1;simpa using this
 rw[Qu,R5 a]at h;exact⟨a,by cases h;simp⟩
theorem lF(n:Nat):(aU 0 n).length=n:=by simp[aU]
theorem bw{α:Type}{f:FD}{δ:Dn}{β:Bg}(xs:List α)(u v:α->D)(a:it δ β=on (.ok (xs.map u),β))
  (b:∀x∈xs,∃δ1,tg (u x) (l0 nv c_ δ)=on δ1/\f δ1 β=on (.ok (v x),β)) (j:xs.length<=QN):cK nv c_ it tg (λ_=>M.ret Qo) (nj f) δ β=on (.ok (.lst (xs.map v)),β):=by
 refine qI a ?_ (by rw[Qi];exact j);have gen:∀xs:List α,(∀x∈xs,∃δ1,tg (u x) (l0 nv c_ δ)=on δ1/\f δ1 β=on (.ok (v x),β))->o0 tg (λ_=>M.ret Qo) (nj f) (xs.map u) (l0 nv c_ δ) β=on (.ok (xs.map v),β):=by
  intro xs
  induction xs with
  |nil=>intro _;rfl
  |cons x xs ih=>
   intro h;obtain⟨δ1,k,l⟩:=h x Qq;have m:=ih λy n=>h y (Qk _ n);rw[QB,o0];simp only[k,M.bind,M.ret,reduceIte,nj,l,m,QB,UO,TX]
 exact gen xs b
theorem BR{α:Type}{f:FL}{δ:Dn}{β:Bg}(xs:List α)(u:α->D)(v:α->List D)(a:it δ β=on (.ok (xs.map u),β))
  (b:∀x∈xs,∃δ1,tg (u x) (l0 nv c_ δ)=on δ1/\f δ1 β=on (.ok (v x),β)) (j:xs.length<=QN):jZ nv c_ it tg (λ_=>M.ret Qo) (vm f) δ β=on (.ok (xs.map v),β):=by
 have gen:∀xs:List α,(∀x∈xs,∃δ1,tg (u x) (l0 nv c_ δ)=on δ1/\f δ1 β=on (.ok (v x),β))->ow tg (λ_=>M.ret Qo) (vm f) (xs.map u) (l0 nv c_ δ) β=on (.ok (xs.map v),β):=by
  intro xs
  induction xs with
  |nil=>intro _;rfl
  |cons x xs ih=>
   intro h;obtain⟨δ1,k,l⟩:=h x Qq;have m:=ih λy n=>h y (Qk _ n);rw[QB,ow];simp only[k,M.bind,M.ret,reduceIte,vm,l,m,QB,UO,TX]
 unfold jZ;simp only[a,gen xs b,Qi,j,RF]
theorem Mv{ds:List D}{c:Nat}(a:ds.length<=QN)(b:ds.length*c<=QN)(hc:c<=1000000):uh ds (.int (c:Int))=on (QE c ds).flatten:=by
 have q:(decide (-(2^63)<=(c:Int))&&decide ((c:Int)<2^63)&&decide (ds.length<=QN)&&decide (ds.length*(c:Int).toNat<=QN))=Qo:=by
  simp only[Q9,Rm];exact⟨⟨⟨by omega,by omega⟩,a⟩,by rw[Sc];exact b⟩
 unfold uh;simp only[q,RF];rw[Sc]
theorem uY{α:Type}(x:α):∀c:Nat,(QE c [x]).flatten=QE c x
 |0=>rfl
 |c+1=>by rw[R6,Ti,uY x c];rfl
theorem Pr{f:FD}{g:FD}{x:D}{c:Nat}{δ:Dn}{β:Bg}(a:f δ β=on (.ok x,β))(b:g δ β=on (.ok (.int (c:Int)),β))(hc:c<=1000):xD (ac f ax) g δ β=on (.ok (QE c x),β):=by
 have l1:[x].length<=QN:=by rw[Ry];decide
 have j:[x].length*c<=QN:=by rw[Ry,XE];exact br hc
 have r:=Mv (ds:=[x]) (c:=c) l1 j (by omega);rw[uY]at r;have s:P_ [x]=on [x]:=by
  unfold P_;rw[Qt l1]
 have k:ac f ax δ β=on (.ok [x],β):=aa a rfl;unfold xD;rw[M.bind_ok k,s,M.bind_some,M.bind_ok b,r];rfl
theorem CB(bs:List Bool):dO (bs.map D.bl)=on bs:=by
 induction bs with
 |nil=>rfl
 |cons b bs ih=>simp[dO,ih]
theorem any_map{α:Type}(xs:List α)(p:α->Bool):yA [.lst (xs.map λx=>D.bl (p x))]=on (.bl (xs.any p)):=by
 show(dO _).map _=_;rw[show(xs.map λx=>D.bl (p x))=(xs.map p).map D.bl by rw[QG];rfl,CB];simp only[Sh,List.any_map];rfl
theorem ju{α:Type}(r:Nat)(x:α):(Qy r).map (λ_=>x)=QE r x:=by rw[Wj,Q6]
theorem eJ{xs:List D}(h:xs.length=r):gl [.lst xs]=on (.int (r:Int)):=by subst h;rfl
theorem AK{a_:List (List D)}(h:a_.length=r):gl [lG a_]=on (.int (r:Int)):=eJ (by rw[Qi,h])
theorem pw{a_:List (List D)}{k:Nat}{row:List D}(h:a_[k]?=on row):jn (lG a_) (.int (k:Int))=on (.lst row):=AS (by omega) (by rw[Sc,Qu,h];rfl)
theorem cV{xs:List D}{k:Nat}{d:D}(h:xs[k]?=on d):jn (.lst xs) (.int (k:Int))=on d:=AS (by omega) (by rw[Sc];exact h)
theorem fA{x y:D}:jt [x,y]=on (.tup [x,y]):=by
 unfold jt;rw[Qt (show[x,y].length<=QN by rw[QP,Ry];decide)]
theorem lst0:de []=on (.lst []):=by
 unfold de;rw[Qt (show([]:List D).length<=QN by rw[Xy];decide)]
theorem xR{x:D}:de [x]=on (.lst [x]):=by
 unfold de;rw[Qt (show[x].length<=QN by rw[Ry];decide)]
theorem M0{x y:Int}:uE [.int x,.int y]=on (.int (V0 x y)):=by
 unfold uE;simp only;congr 2;split<;>omega
theorem max2{x y:Int}:xM [.int x,.int y]=on (.int (max x y)):=by
 unfold xM;simp only;congr 2;split<;>omega
theorem eq_int{x y:Int}:gq (.int x) (.int y)=on (.bl (decide (x=y))):=by rw[Qa]
theorem ne_int{x y:Int}:kJ (.int x) (.int y)=on (.bl (!decide (x=y))):=by rw[P9]
theorem fN{α a:Type}{f:α->a}{xs:List α}{i:Nat}{d:a}(h:(xs.map f)[i]?=on d):∃x,xs[i]?=on x/\d=f x:=by
 rw[Qu]at h;cases q:xs[i]? with
 |none=>rw[q]at h;cases h
 |some x=>rw[q]at h;exact⟨x,rfl,by cases h;rfl⟩
noncomputable abbrev sN(r c:Nat):LP:=QE r (QE c (0,40))
noncomputable def at2{α:Type}(m:List (List α))(i j:Nat):Option α:=(m[i]?).bind λrow=>row[j]?
theorem wR{α:Type}{m:List (List α)}{i j:Nat}{x:α}(h:at2 m i j=on x):∃row∈m,x∈row:=by
 unfold at2 at h;cases q:m[i]? with
 |none=>rw[q]at h;cases h
 |some row=>rw[q]at h;exact⟨row,Q1 q,Q1 h⟩
theorem CG{α:Type}{m:List (List α)}{i j:Nat}{row:List α}{x:α}(a:m[i]?=on row)(b:row[j]?=on x):at2 m i j=on x:=by unfold at2;rw[a];exact b
structure PairOk (p:Int×Int):Prop where
 l:0<=p.1
 m:p.1<=p.2
 h:p.2<=40
def Kp(a_:LI)(b:LP):Prop:=∀i j x p,at2 a_ i j=on x->at2 b i j=on p->p.1<=x/\x<=p.2
theorem Tab.le40{r c:Nat}(t:Tab r c a_):∀row∈a_,∀x∈row,0<=x/\x<=40:=λrow a x b=>⟨t.nn row a x b,by
 have:=M5 t.nn row a x b;have:=t.tot;omega⟩
theorem Kp.free{r c:Nat}(t:Tab r c a_):Kp a_ (sN r c):=λi j x p k l=>by
 obtain⟨row,m,b⟩:=wR k;obtain⟨q,n,a⟩:=wR l;rw[(SR.mp n).2]at a;rw[(SR.mp a).2];exact t.le40 row m x b
theorem Lz{α:Type}{δ:Dn}{β:Bg}(xs:List α)(u:α->D)(o:α->List D)(a:it δ β=on (.ok (xs.map u),β))
  (j:∀x∈xs,∃δ1,tg (u x) (l0 nv c_ δ)=on δ1/\b δ1 β=on (.ok (o x),β)) (k:(xs.flatMap o).length<=QN):cK nv c_ it tg (λ_=>M.ret Qo) b δ β=on (.ok (.lst (xs.flatMap o)),β):=by
 refine qI a ?_ k;have gen:∀xs:List α,(∀x∈xs,∃δ1,tg (u x) (l0 nv c_ δ)=on δ1/\b δ1 β=on (.ok (o x),β))->o0 tg (λ_=>M.ret Qo) b (xs.map u) (l0 nv c_ δ) β=on (.ok (xs.flatMap o),β):=by
  intro xs
  induction xs with
  |nil=>intro _;rfl
  |cons x xs ih=>
   intro h;obtain⟨δ1,l,m⟩:=h x Qq;have n:=ih λy p=>h y (Qk _ p);rw[QB,o0];simp only[l,M.bind,M.ret,reduceIte,m,n,Sb]
 exact gen xs j
theorem zY{α:Type}{f:FD}{δ:Dn}{β:Bg}(xs:List α)(u v:α->D)(a:it δ β=on (.ok (xs.map u),β))
  (b:∀x∈xs,∃δ1,tg (u x) δ=on δ1/\f δ1 β=on (.ok (v x),β)):cNx it tg (λ_=>M.ret Qo) (nj f) δ β=on (.ok (xs.map v),β):=by
 have gen:∀xs:List α,(∀x∈xs,∃δ1,tg (u x) δ=on δ1/\f δ1 β=on (.ok (v x),β))->o0 tg (λ_=>M.ret Qo) (nj f) (xs.map u) δ β=on (.ok (xs.map v),β):=by
  intro xs
  induction xs with
  |nil=>intro _;rfl
  |cons x xs ih=>
   intro h;obtain⟨δ1,j,k⟩:=h x Qq;have l:=ih λy m=>h y (Qk _ m);rw[QB,o0];simp only[j,M.bind,M.ret,reduceIte,nj,k,l,QB,UO,TX]
 unfold cNx;rw[M.bind_ok a];exact gen xs b
theorem nF{α a:Type}(u:α->D)(v:a->D):∀(xs:List α) (ys:List a),dP (xs.map u) (ys.map v)=(xs.zip ys).map λp=>D.tup [u p.1,v p.2]
 |[],ys=>by simp[dP]
 |x::xs,[]=>by simp[dP]
 |x::xs,y::ys=>by simp[dP,nF u v xs ys]
theorem vd{xs:List D}{k:Nat}:oi xs (on (k:Int)) Qh=xs.drop k:=by
 unfold oi;rw[HT.sIx_none,HT.sIx_nat];by_cases h:k<=xs.length
 .rw[show V0 k xs.length=k by omega]
  rw[S6 (by rw[List.length_drop];omega)]
 .rw[SL (by omega),SL (by omega)]
  simp
theorem qR{f g:FD}{δ:Dn}{β:Bg}(a:f δ β=on (.ok (.lst xs),β))(b:g δ β=on (.ok (.int k),β)):fSl f (on g) Qh δ β=on (.ok (.lst (oi xs (on k) Qh)),β):=by
 unfold fSl sP;simp only[M.bind,a,b,M.ret,M.ofO,CH,slD]
theorem wT{xs ys:List D}(h:xs.length+ys.length<=1000):fZ (.lst xs) (.lst ys)=on (.lst (xs++ys)):=by
 unfold fZ;simp only;rw[Qt (br h)]
def j8:List D->List Qv->Prop
 |[],[]=>True
 | .int i::ds,.int j _::vs=>i=j/\j8 ds vs
 | .str x::ds,.str y _::vs=>x=y/\j8 ds vs
 | .bl x::ds,.bool y::vs=>x=y/\j8 ds vs
 | .non::ds,.none::vs=>j8 ds vs
 |_,_=>False
theorem gO{K:QR}:∀{ds:List D} {vs:List Qv},j8 ds vs->∃xs,aw xs vs/\∀F H,bb K F H ds xs
 |[],[],_=>⟨[],.nil,λ_ _=>bb.nil⟩
 | .int i::ds,.int j t::vs,h=>by
  obtain⟨e,h⟩:=h;subst e;obtain⟨xs,a,b⟩:=gO (K:=K) h;exact⟨.int i::xs,.cons ⟨t,rfl⟩ a,λF H=>bb.cons rfl (b F H)⟩
 | .str i::ds,.str j t::vs,h=>by
  obtain⟨e,h⟩:=h;subst e;obtain⟨xs,a,b⟩:=gO (K:=K) h;exact⟨.str i::xs,.cons ⟨t,rfl⟩ a,λF H=>bb.cons rfl (b F H)⟩
 | .bl i::ds,.bool j::vs,h=>by
  obtain⟨e,h⟩:=h;subst e;obtain⟨xs,a,b⟩:=gO (K:=K) h;exact⟨.bl i::xs,.cons rfl a,λF H=>bb.cons rfl (b F H)⟩
 | .non::ds,.none::vs,h=>by
  obtain⟨xs,a,b⟩:=gO (K:=K) (ds:=ds) (vs:=vs) h;exact⟨.non::xs,.cons rfl a,λF H=>bb.cons rfl (b F H)⟩
def VIs(K:QR)(d:D)(u:Qv):Prop:=∃v,aL v u/\∀F H,cx K F H d v
theorem mv{K:QR}{i:Int}{t:Tok}:VIs K (.int i) (.int i t):=⟨.int i,⟨t,rfl⟩,λ_ _=>rfl⟩
theorem Kl{K:QR}:VIs K .non .none:=⟨.non,rfl,λ_ _=>rfl⟩
theorem Kk{K:QR}{q3:Array Qv}(a:K.lookup p=on ⟨q1,q2,.seq q3 q4,q5⟩)(hc:q1= .type "tuple")(b:q3.size<=QN)(j:j8 ds q3.toList):VIs K (.tup ds) (.ref p):=by
 obtain⟨xs,k,l⟩:=gO (K:=K) j;exact⟨.ref p,rfl,λF H=>⟨p,xs,rfl,.inr ⟨_,q3,q4,a,hc,rfl,b,k⟩,l F H⟩⟩
theorem pR{K:QR}{mg:Rl->Option Qv}{x:Rl}{d:D}{u:Qv}(h:mg x=on u)(v:VIs K d u):m7 K mg x d:=let ⟨w,h1,h2⟩:=v;⟨u,w,h,h1,h2⟩
theorem BQ{K:QR}{ps:List Rl}{us:List Qv}(n:Nat)(l:ps.length=n+us.length)(b:∀(s:QA) (vs:List Qv),K.In s.heap->vs.length=n->ZU s fd ⟨vs,[]⟩ (ps.zip (vs++us)))(h:∃vs,aw vs us/\∀F H,bb K F H dd vs):dh K fd ps dd:=
 let ⟨vs,h1,h2⟩:=h
 ⟨us,vs,λs a j k=>b s a j (by rw[QV]at k;omega),h1,h2⟩
theorem BN{K:QR}:∃vs,aw vs []/\∀F H,bb K F H [] vs:=⟨[],.nil,λ_ _=>bb.nil⟩
theorem wH{K:QR}{d:D}{u:Qv}(v:VIs K d u)(h:∃vs,aw vs us/\∀F H,bb K F H ds vs):∃vs,aw vs (u::us)/\∀F H,bb K F H (d::ds) vs:=by
 obtain⟨w,a,b⟩:=v;obtain⟨vs,j,k⟩:=h;exact⟨w::vs,.cons a j,λF H=>bb.cons (b F H) (k F H)⟩
variable{X:Cx}{E:St->XK}{K:QR}{st:RT}
end
section
variable{h:G}{δ:Ds}{β β1 β2 β3:Bg}{Q:p_->Bg->Prop}{i:Nat}{fa fb fv:FD}{fl:FL}{d d0 d1:D}{ds:List D}{op:D->D->Option D}
theorem IK{δ:Dn}{β β1:Bg}(a:t δ β=on (.ok Qo,β1))(b:f δ β1=on r):fIf t f g δ β=on r:=by
 unfold fIf M.bind;rw[a];exact b
theorem IL{δ:Dn}{β β1:Bg}(a:t δ β=on (.ok Qr,β1))(b:g δ β1=on r):fIf t f g δ β=on r:=by
 unfold fIf M.bind;rw[a];exact b
theorem IJ{d:D}{δ:Dn}{β:Bg}(e:δ.getD n Qh=on d):ag n δ β=on (.ok d,β):=by unfold ag;rw[e];rfl
end
section
variable{β β1 β2:Bg}{f g h:FD}{δ:Dn}{x y z:Int}
theorem yH(a:f δ β=on (.ok (.int x),β))(b:g δ β=on (.ok (.int y),β))(c:h δ β=on (.ok (.int z),β)):j3 leD ltD f g h δ β=on (.ok (.bl (decide (x<=y)&&decide (y<z))),β):=by
 unfold j3 M.bind;rw[a];simp only[b,le_int,M.ofO,asB];by_cases q:x<=y
 .simp only[q,decide_true,RF,c,lt_int,VO]
 .simp only[q,decide_false,QS,RH,M.ret,Wv]
theorem ph{K:QR}{f:Rl}:∀{ns:List Rl} {ds:List D} {xs:List V},bb K F H ds xs->(ns.zip ds).lookup f=on d->∃v,(ns.zip xs).lookup f=on v/\cx K F H d v
 |[],ds,xs,h,e=>by simp at e
 |n::ns,[],xs,h,e=>by simp at e
 |n::ns,c::ds,xs,h,e=>by
  obtain⟨x,r,q,a,b⟩:=h;subst q;rw[Sk,V3]at e⊢;split at e
  .rename_i z
   cases e;exact⟨x,rfl,a⟩
  .rename_i z
   exact ph b e
theorem rn{α:Type}:∀{ns:List Rl} {xs:List α},m∉ns->(ns.zip xs).lookup m=Qh
 |[],xs,_=>by simp
 |n::ns,[],_=>by simp
 |n::ns,x::xs,h=>by
  rw[Sk,V3];have a:m≠n:=λz=>h (by rw[z];exact Qq);have b:m∉ns:=λz=>h (Qk _ z);rw[show(m==n)=Qr by simpa using a];exact rn b
theorem dh.nil{K:QR}(b:aB K fd ps []):dh K fd ps []:=⟨[],[],b,.nil,λ_ _=>bb.nil⟩
end
section
variable{X:Cx}{E:St->XK}{o e:Expr}{es:List Expr}{pos p apos kpos:Vm}{x m:Rl}{k n:Nat}{f C:Qs}{fd:Q2}{ps ks:List Rl}{kws:List XJ}
noncomputable def yi(C:Qs)(f:Rl):D->Option D
 | .obj C' ns ds=>if C'=C then(ns.zip ds).lookup f else Qh
 |_=>Qh
theorem ki{f:Rl}(c:r_ X.K C)(n:dM X.K C f)(j:PE X e (tV X.K g E))(l:UF e f X.env (RN e X.env)=RN e X.env:=by rfl):PE X (.Attribute e f pos) (tV X.K (f1 (yi C f) g) E):=
 (MM j l).imp λL H Q i=>li i λF δ β fr q h=>⟨F,δ,β,fr,q,(run.bind (R:=cx X.K F) h).mono λv r i=>by
  obtain⟨d,β1,t,hd,r1⟩:=i;obtain⟨d3,b,k⟩:=run.ofO r1;cases d<;>first|cases b|skip
  rename_i u ns ds;unfold yi at b;simp only at b;split at b
  .rename_i z
   subst z;unfold cx at hd;obtain⟨a,y,xs,rfl,N,A,O,B⟩:=hd;obtain⟨w,I,J⟩:=ph B b;exact⟨a,u,y,_,w,rfl,A,c,n,I,k w r (To.refl t.fr) J⟩
  .cases b⟩
def pO(C:Qs)(m:Rl)(a:List D->M D)(b:FD)(g:FL)(c:List D):FD:=λδ=>M.bind (b δ) λd=>match d with
 | .obj C' ns _=>if C'=C/\m∉ns then M.bind (g δ) λas=>a (d::(as++c))else M.fail
 |_=>M.fail
theorem uF{i:List D}{K:QR}(N:∀vs H Q E,zv K n mf vs H Q E->R vs H Q E)(rd:∀F H,bb K F H i dvs)(hn:∀δ β r b,g δ β=on (.ok r,b)->r.length+i.length+1=n)(h:tV K (pO C m mf fo g i) E σ H Q):xa C m R dvs E (tV K fo E) (jm K g E) σ H Q:=by
 obtain⟨F,δ,β,fr,A,h⟩:=h;refine⟨F,δ,β,fr,A,(run.bind (R:=cx K F) h).mono λv O T=>p5 T λd β1 t hd r1=>?_⟩;have fail:∀{j:M D},j=M.fail->run (cx K F) F E σ j O Q β1->False:=λ{j} e r=>by
  obtain⟨r,b,B,_⟩:=r;rw[e]at B;cases B
 cases d<;>first|exact(fail rfl r1).elim|skip
 rename_i C' ns ds;simp only at r1;split at r1
 .rename_i z
  obtain⟨rfl,hm⟩:=z;have l:=hd;unfold cx at hd;obtain⟨a,U,xs,rfl,h1,W,h3,h4⟩:=hd;refine⟨a,U,_,rfl,W,rn hm,F,δ,β1,t.fr,A.tr (t.tr fr),?_⟩;obtain⟨r0,q,I,J⟩:=run.bind (R:=bb K F) r1;refine⟨r0,q,I,?_⟩;cases r0 with
  |error C=>exact J
  |ok as=>
   intro vs u Y c;obtain⟨d',β2,L,y,Z⟩:=J vs u Y c;have hl:=hn _ _ _ _ I;have hz:=(rd F u).length;refine N _ _ _ _ ⟨by rw[QP,QV,<-c.length,<-hz,hl],F,_::(d'++i),β2,L.fr,bb.cons (cx.tr (L.tr t.fr) _ _ l) (bb.append y (rd F u)),run.toE Z⟩
 .exact(fail rfl r1).elim
theorem yL{a:List D}(c:r_ X.K C)(hm:nB X.K C m f)(G:fw X.prog X.w X.K X.mg X.base (g_ X.prog X.w) k f fd ps (zv X.K n mf))(l:ej k X.A)(q:dh X.K fd ps a)(t:cE (g_ X.prog X.w) X E)
  (u:PE X o (tV X.K fo E)) (ha:PA X (e::es) (jm X.K g E)) (hn:∀δ β r j,g δ β=on (.ok r,j)->r.length+a.length+1=n)
  (d:QH (e::es) X.env=(Qr,RN e X.env)::QH es X.env:=by rfl) (i:(S4 pos (QH es X.env)).any (·.1)=Qr:=by rfl)
  (v:RN (.Call (.Attribute o m apos) (e::es) [] pos) X.env=(do
   let ov <-RN o X.env
   Uh apos.atName
   let (f,first) <-UW [ov] (W8 ov m pl)
   callWith pos f first (S4 pos (QH (e::es) X.env)) (XO pos (Wb [] X.env))):=by rfl):
  PE X (.Call (.Attribute o m apos) (e::es) [] pos) (tV X.K (pO C m mf fo g a) E):=by
 obtain⟨ds,y,b,B,rd⟩:=q;exact(KR (pl:=pl) u c hm G l b B t ha d i v).imp λF H Q h=>uF (λ_ _ _ _ z=>z) rd hn h
theorem jJ{d:List D}(c:r_ X.K C)(hm:nB X.K C m f)(G:fw X.prog X.w X.K X.mg X.base (g_ X.prog X.w) k f fd ps (zv X.K n mf))(i:ej k X.A)(j:dh X.K fd ps d)(l:cE (g_ X.prog X.w) X E)
  (q:PE X o (tV X.K fo E)) (hn:d.length+1=n)
  (t:RN (.Call (.Attribute o m apos) [] [] pos) X.env=(do
   let ov <-RN o X.env
   Uh apos.atName
   let (f,first) <-UW [ov] (W8 ov m pl)
   callWith pos f first (S4 pos (QH [] X.env)) (XO pos (Wb [] X.env))):=by rfl):
  PE X (.Call (.Attribute o m apos) [] [] pos) (tV X.K (pO C m mf fo ax d) E):=by
 obtain⟨ds,u,b,y,rd⟩:=j;refine(DW (pl:=pl) q c hm G i b y l t).imp λU H Q h=>?_;obtain⟨F,δ,β,fr,B,h⟩:=uF (λ_ _ _ _ z=>z) rd (λδ β r I e=>by cases e;simpa using hn) h;refine⟨F,δ,β,fr,B,h.mono λv W ⟨a,J,fs,L,ha,N,Y,O,β2,g,R,T⟩=>⟨a,J,fs,L,ha,N,?_⟩⟩;exact run.ret g T bb.nil
structure ToX (F:Fx) (x:Qs) (H H':Hp) (β':Bg):Prop where
 kp:∀a o,a≠x->H a=on o->(∀b l,F.bg=on (b,l)->a≠b/\a≠l)->H' a=on o
 fr:Fr F H' β'
def spI(K:QR)(C:Qs)(ns:List Rl)(n:Nat)(g:List D->M (List D)):Sp:=λvs H Q E=>∃x rest F ds β d,vs= .ref x::rest/\rest.length=n/\Fr F H β/\F.A x/\(∀b l,F.bg=on (b,l)->x≠b/\x≠l)/\H x=on (.ins C d [])/\bb K F H ds rest/\
 ∃r a,g ds β=on (r,a)/\match r with
  | .ok es=>∀c xs,ToX F x H c a->c x=on (.ins C d (ns.zip xs))->ns.length=xs.length->bb K F c es xs->Q .non c
  | .error Ce=>∀c,ToX F x H c a->E (.ref Ce) Qh c
variable{ns:List Rl}
def yn(C:Qs)(ns:List Rl)(a:List D->M (List D))(g:FL)(b:List D):FD:=λδ=>M.bind (g δ) λas=>M.bind (a (as++b)) λfs=>M.ret (.obj C ns fs)
theorem EH{K:QR}{vs:List V}(fr:Fr F H2 β2)(R:vs.length=n)(hd:bb K F H2 ds vs)(r:run (cx K F) F E σ (M.bind (mi ds) λfs=>M.ret (.obj C ns fs)) H2 Q β2):
  ∀x c,H2 x=Qh->H2 c=Qh->c≠x->spI K C ns n mi (.ref x::vs) (upd (upd H2 c (.own x)) x (.ins C c [])) (λv T=>v= .non/\Q (.ref x) T) (E σ):=by
 intro x c H I ne;have J:¬F.A x:=fr.fresh H;have same:bE H2 (upd (upd H2 c (.own x)) x (.ins C c [])):=λa o h=>by
  rw[b_ (ay h H),b_ (ay h I)];exact h
 have t:=fr.same same;have L:Fr (F.but x) (upd (upd H2 c (.own x)) x (.ins C c [])) β2:=⟨λa ha z=>(by
  rcases ha with ha|ha
  .exact t.fr.occ a ha z
  .subst ha;rw[ah]at z;cases z),λb l q=>let ⟨z1,z2,z3⟩:=fr.bgA b l q;⟨.inl z1,.inl z2,z3⟩,t.fr.bag⟩
 have U:∀b l,F.bg=on (b,l)->x≠b/\x≠l:=λb l q=>⟨λz=>J (z▸(fr.bgA b l q).1),λz=>J (z▸(fr.bgA b l q).2.1)⟩;have N:Tr F H2 (F.but x) (upd (upd H2 c (.own x)) x (.ins C c [])):=⟨λa W Y z=>by
  rcases z with z|z
  .exact W z
  .subst z;exact Y H,λa o _ h=>same a o h,rfl⟩
 obtain⟨Z,d,g,h⟩:=r;refine⟨x,vs,F.but x,ds,β2,c,rfl,R,L,.inr rfl,U,ah,bb.tr N _ _ hd,?_⟩;have u:∀{i:Hp} {d:Bg},ToX (F.but x) x (upd (upd H2 c (.own x)) x (.ins C c [])) i d->To F H2 i d:=λ{i d} j=>⟨λa o ha n=>j.kp a o (ay ha H) (same a o ha) n,⟨λa ha=>j.fr.occ a (.inl ha),fr.bgA,j.fr.bag⟩⟩;cases q:mi ds β2 with
 |none=>unfold M.bind at g;rw[q]at g;cases g
 |some z=>
  obtain⟨r1,β1⟩:=z;refine⟨r1,β1,rfl,?_⟩;cases r1 with
  |error Ce=>
   rw[M.bind_err q]at g;cases g;exact λi j=>h i (u j)
  |ok fs=>
   rw[M.bind_ok q]at g;cases g;refine λi xs j O y B=>⟨rfl,h (.ref x) i (u j) ⟨x,c,xs,rfl,J,O,y,bb.tr Fx.tr_of _ _ B⟩⟩
theorem LL{a:List D}(v:Mk X.K C f)(G:fw X.prog X.w X.K X.mg X.base (g_ X.prog X.w) k f fd ps (spI X.K C ns n mi))(y:ej (k+1) X.A)(B:Gl X x)(hm:X.mg x=on (.ref C))(I:dh X.K fd ps a)(J:cE (g_ X.prog X.w) X E)
  (ha:PA X (e::es) (jm X.K g E)) (hn:∀δ β r h,g δ β=on (.ok r,h)->r.length+a.length=n) (c:(x==("__debug__":Rl))=Qr:=by decide) (L:QH (e::es) X.env=(Qr,RN e X.env)::QH es X.env:=by rfl) (d:(S4 pos (QH es X.env)).any (·.1)=Qr:=by rfl):
  PE X (.Call (.Name x p) (e::es) [] pos) (tV X.K (yn C ns mi g a) E):=by
 obtain⟨ds,N,b,O,rd⟩:=I;refine(KS v G y B hm b O J ha c L d).imp λσ H Q T=>li T λF δ β fr U r=>⟨F,δ,β,fr,U,?_⟩;obtain⟨r0,i,q,u⟩:=run.bind (R:=bb X.K F) r;refine⟨r0,i,q,?_⟩;cases r0 with
 |error C=>exact u
 |ok as=>
  intro vs j t hd;obtain⟨d',β1,W,l,r1⟩:=u vs j t hd;have Y:=hn _ _ _ _ q;have Z:=(rd F j).length;exact EH W.fr (by rw[QV,<-hd.length,<-Z,Y]) (bb.append l (rd F j)) r1
abbrev IP:=Ds->List D->Bg->Option (Except Qs (List D)×Bg)
noncomputable def J1:IP:=λ_ done β=>on (.ok done,β)
noncomputable def mS(g:G)(a:IP):IP:=λδ done β=>match g δ β with
 |some (.nx δ1,β1)=>match δ[0]?,δ1[0]? with
  |some (on (Sl.sh (D.adr x))),on (on (Sl.sh (D.adr y)))=>if x=y then a δ1 done β1 else Qh
  |_,_=>Qh
 |some (.ex C _,β1)=>on (.error C,β1)
 |_=>Qh
def jw(f:FD)(a:IP):IP:=λδ done β=>match f (vw δ) β with
 |some (.ok d,β1)=>a δ (done++[d]) β1
 |some (.error C,β1)=>on (.error C,β1)
 |none=>Qh
structure m_ (x:Qs) (B:Ow) (H:Hp) (B':Ow) (H':Hp):Prop where
 kp:∀a o,a≠x->H a=on o->(B a=Qh\/B a=on 0)->H' a=on o
 tg:∀a,B a=on 0\/B a=on 1->B' a=B a
 nn:∀a o,a≠x->H a=on o->B a=Qh->B' a=Qh
 al:∀a,H a≠Qh->H' a≠Qh
end
theorem g0.x{x:Qs}{B b:Ow}{H c:Hp}(s:g0 B H b c):m_ x B H b c:=⟨λa o _=>s.kp a o,s.tg,λa o _=>s.nn a o,s.al⟩
theorem m_.trans(a:m_ x B H B1 H1)(b:m_ x B1 H1 B2 H2):m_ x B H B2 H2:=by
 refine⟨λc o ne h n=>b.kp c o ne (a.kp c o ne h n) ?_,λc h=>?_,λc o ne h n=>b.nn c o ne (a.kp c o ne h (.inl n)) (a.nn c o ne h n),λc h=>b.al c (a.al c h)⟩
 .rcases n with n|n
  .exact .inl (a.nn c o ne h n)
  .exact .inr ((a.tg c (.inl n)).trans n)
 .have e:=a.tg c h
  rw[<-e]at h;exact(b.tg c h).trans e
def j9(K:QR)(bg:Option (Qs×Qs))(E:St->XK)(Dn:nC)(B:Ow)(H:Hp)(x C e:Qs)(all:List Rl)(r:Except Qs (List D))(d:Bg):Prop:=match r with
 | .ok ds=>∀b c a vs,m_ x B H c a->Fr (et c bg) a d->a x=on (.ins C e (all.zip vs))->all.length=vs.length->bb K (et c bg) a ds vs->Dn.nx b a
 | .error Ce=>∀b c a,m_ x B H c a->Fr (et c bg) a d->E b (.ref Ce) Qh a
theorem j9.pre{K:QR}{E:St->XK}{Dn:nC}(s:m_ x B H B1 H1)(h:j9 K bg E Dn B H x C dx all r β'):j9 K bg E Dn B1 H1 x C dx all r β':=by
 cases r with
 |ok ds=>exact λa b c vs t=>h a b c vs (s.trans t)
 |error d=>exact λa b c t=>h a b c (s.trans t)
def tI(K:QR)(H₀:Hp)(C:Qs)(a names:List Rl)(f:IP)(E:St->XK):TS:=λDn g H=>∃B bg δ β x e b c r d,f_ K H₀ B bg H δ β g/\δ[0]?=on (on (.sh (.adr x)))/\B x=on 0/\H x=on (.ins C e (a.zip b))/\a.length=b.length/\bb K (et B bg) H c b/\f δ c β=on (r,d)/\j9 K bg E Dn B H x C e (a++names) r d
theorem rj:∀{ns:List Rl} {vs:List V},ns.length=vs.length->f∉ns->dn f y (ns.zip vs)=(ns++[f]).zip (vs++[y])
 |[],[],_,_=>rfl
 |n::ns,v::vs,h,hf=>by
  have a:¬n=f:=λz=>hf (by rw[z];exact Qq);show(if n=f then(n,y)::ns.zip vs else(n,v)::dn f y (ns.zip vs))=_;rw[Qp a,rj (by simpa using h) λz=>hf (Qk _ z)];rfl
 |[],_::_,h,_=>by simp at h
 |_::_,[],h,_=>by simp at h
theorem f_.upd0{K:QR}(ok:f_ K H₀ B bg H δ β σ)(f:B x=on 0):f_ K H₀ B bg (upd H x o) δ β σ/\m_ x B H B (upd H x o):=by
 have al:∀c,H c≠Qh->upd H x o c≠Qh:=λc hc=>by
  by_cases z:c=x
  .subst z;rw[ah];simp
  .rw[b_ z];exact hc
 have m:∀b l,bg=on (b,l)->b≠x/\l≠x:=λb l e=>by
  obtain⟨b1,b2⟩:=ok.bgt b l e;exact⟨λz=>(by rw[z,f]at b1;cases b1),λz=>(by rw[z,f]at b2;cases b2)⟩
 have tr:Tr (et B bg) H (et B bg) (upd H x o):=⟨λ_ h _=>h,λc u hc e=>by
  rw[b_]
  .exact e
  .intro z;subst z;exact hc (by show B c≠Qh;rw[f];simp),rfl⟩
 refine⟨⟨⟨λc hc=>al c (ok.fr.occ c hc),ok.fr.bgA,λb l e=>?_⟩,ok.bgt,ok.len,λc hc=>al c (ok.cov c hc),ok.new,λc k hc=>?_,λi s e=>?_⟩,λc u ne h _=>by rw[b_ ne];exact h,λ_ _=>rfl,λ_ _ _ _ n=>n,al⟩
 .obtain⟨t,A⟩:=ok.fr.bag b l e
  obtain⟨C,F⟩:=m b l e;exact⟨by rw[b_ C];exact t,by rw[b_ F];exact A⟩
 .exact(ok.lst c k hc).imp λo h=>by rw[b_];exact h;intro z;subst z;rw[f]at hc;cases hc
 .obtain⟨v,I,g⟩:=ok.tell i s e
  refine⟨v,I,?_⟩;cases s with
  |sh d=>exact cx.tr tr _ _ g
  |own ds=>
   obtain⟨a,xs,rfl,hB,ha,hd⟩:=g;exact⟨a,xs,rfl,hB,(by rw[b_];exact ha;intro z;subst z;rw[f]at hB;cases hB),bb.tr tr _ _ hd⟩
  |grd a_=>
   obtain⟨a,rs,rfl,hB,ha,nd,J⟩:=g;refine⟨a,rs,rfl,hB,(by rw[b_];exact ha;intro z;subst z;rw[f]at hB;cases hB),nd,d4.tr tr J λr xs _ p q=>⟨p,?_⟩⟩;rw[b_]
   .exact q
   .intro z;subst z
    have j:B r=on (i+2):=p;rw[f]at j;cases j
  |odc b ks vs=>
   obtain⟨a,rfl,hB,L⟩:=g;exact⟨a,rfl,hB,L.tr tr λo z=>by rw[b_];exact z;intro y;subst y;rw[f]at hB;cases hB⟩
section
variable{X:Cx}{E:St->XK}{st:RT}{sts:List RT}{C:Qs}{ns0 names:List Rl}{ip:IP}
theorem PU:PSs X [] (tI X.K X.H₀ C ns0 [] J1 E):=qq.imp λDn b H c=>by
 obtain⟨B,bg,δ,β,x,i,a,d,r,f,ok,j,l,g,h,hd,e,k⟩:=c;cases e;rw[RJ]at k;exact k b B H a (g0.refl B H).x ok.fr g h hd
theorem J3(m:PS X st (tG X.K X.H₀ g E))(n:PSs X sts (tI X.K X.H₀ C ns0 names ip E)):PSs X (st::sts) (tI X.K X.H₀ C ns0 names (mS g ip) E):=(cz m n).imp λDn y H o=>by
 obtain⟨B,bg,δ,β,x,p,c,d,r,f,ok,q,h,t,u,hd,e,k⟩:=o;unfold mS at e;split at e
 .rename_i δ1 β1 i
  split at e
  .rename_i A F q1 q2
   split at e
   .rename_i z
    subst z;rw[q]at q1;cases q1;refine⟨B,bg,δ,β,.nx δ1,β1,ok,i,λb j l s a=>?_⟩;exact⟨j,bg,δ1,β1,x,p,c,d,r,f,a,q2,(s.tg x (.inl h)).trans h,s.kp x _ t (.inr h),u,bb.tr s.tr _ _ hd,e,j9.pre s.x k⟩
   .cases e
  .cases e
 .rename_i v δ1 β1 i
  cases e;exact⟨B,bg,δ,β,.ex v δ1,_,ok,i,λb j l s a=>k b j l s.x a.fr⟩
 .cases e
theorem sJ(c:r_ X.K C)(n:dM X.K C f)(Q:f∉ns0)(L:ns0.length<1000)(R:PS X st (Mn X.K (kn 0) (tV X.K fv E) f))(T:PSs X sts (tI X.K X.H₀ C (ns0++[f]) names ip E)):PSs X (st::sts) (tI X.K X.H₀ C ns0 (f::names) (jw fv ip) E):=(cz R T).imp λDn U H W=>by
 obtain⟨B,bg,δ,β,x,l,g,q,r,t,ok,N,m,Y,O,hd,e,k⟩:=W;refine⟨et B bg,vw δ,β,ok.fr,ok.view,?_⟩;unfold jw at e;split at e
 .rename_i d β1 A
  refine⟨.ok d,β1,A,λy p F Z=>?_⟩;obtain⟨b,i⟩:=ok.to rfl F;obtain⟨v,g1,g2⟩:=b.tell 0 _ N;have hv:v= .ref x:=g2;subst hv;have I:=i.kp x _ Y (.inr m);refine⟨_,g1,x,C,l,_,rfl,I,c,n,?_,?_⟩
  .rw[Xz];omega
  obtain⟨J,s2⟩:=b.upd0 (o:= .ins C l (dn f y (ns0.zip g))) m;have j:Tr (et B bg) p (et B bg) (upd p x (.ins C l (dn f y (ns0.zip g)))):=⟨λ_ h _=>h,λa u ha e=>by
   rw[b_]
   .exact e
   .intro z;subst z;exact ha (by show B a≠Qh;rw[m];simp),rfl⟩
  refine⟨B,bg,δ,β1,x,l,g++[y],q++[d],r,t,J,N,m,by rw[ah,rj O Q],by simp[O],bb.append (bb.tr j _ _ (bb.tr i.tr _ _ hd)) (bb.cons (cx.tr j _ _ Z) bb.nil),e,?_⟩;rw[Sa];exact j9.pre (i.x.trans s2) k
 .rename_i Ce β1 A
  cases e;refine⟨.error Ce,_,A,λp F=>?_⟩;obtain⟨b,i⟩:=ok.to rfl F;exact k U B p i.x b.fr
 .cases e
end
open Classical in
def mT(m:Nat)(a:IP):List D->M (List D):=λds β=>if h:∃r,∀x,a (ot m (.adr x::ds)) [] β=on r then on h.choose else Qh
theorem FA(h:∀x,ip (ot m (.adr x::ds)) [] β=on r):mT m ip ds β=on r:=by
 have a:∃r,∀x,ip (ot m (.adr x::ds)) [] β=on r:=⟨r,h⟩;unfold mT;rw[dif_pos a];have:=a.choose_spec 0;rw[h 0]at this;exact this.symm
theorem BA(h:mT m ip ds β=on r):∀x,ip (ot m (.adr x::ds)) [] β=on r:=by
 unfold mT at h;split at h
 .rename_i a
  have:=a.choose_spec;cases h;exact this
 .cases h
section
variable{P:Rc}{w:Ro}{K:QR}{mg:Rl->Option Qv}{base:RQ}
theorem Lu{st:RT}{N ps names:List Rl}(n m:Nat)(ip:IP)(F:d5 K x qual st f fd)(S:cp N ps (ae st))(O:ps.length=n+1)(R:N.length=m)
  (p:∀(i:Qv) (A:RG) (outer:List XH) (s:QA) (H:Hp) (E:XK),ej k (A.deeper (UU qual (ae st) s.heap.objs.size f i))->
   PSs (fi (g_ P w) P w K mg base N qual (ae st) f i A outer s H E) (ci st) (tI K H C [] names ip (λ_=>E))):fw P w K mg base (g_ P w) (k+1) f fd ps (spI K C names n (mT m ip)):=by
 subst R;refine F.okE S (λvs H Q E h=>?_) λi A outer s H vs Q E hr h=>?_
 .obtain⟨y,rest,j,ds,β,dx,rfl,hl,_⟩:=h
  rw[QP,hl,O]
 obtain⟨y,rest,j,ds,β,dx,rfl,hl,fr,T,nb,hH,hd,r,d,e,h⟩:=h;refine⟨_,p i A outer s H E hr,?_⟩;have U:bb K j H (.adr y::ds) (.ref y::rest):=bb.cons rfl hd;obtain⟨B,ok,L,h1,hn⟩:=tQ (N:=N) fr U;have hy:B y=on 0:=by
  rcases L y T with z|z
  .exact z
  .obtain⟨b,l,q,w⟩:=h1 y z
   obtain⟨W,X⟩:=nb b l q;rcases w with w|w
   .exact QX w W
   .exact QX w X
 have v:∀{u:Ow} {g:Hp} {d:Bg},m_ y B H u g->Fr (et u j.bg) g d->ToX j y H g d/\Tr (et u j.bg) g j g:=λ{u g d} s c=>by
  have hs:∀a,j.A a->u a≠Qh:=λa ha=>by
   rw[s.tg a (L a ha)];rcases L a ha with z|z<;>rw[z]<;>simp
  refine⟨⟨λa o ne ha n=>s.kp a o ne ha ?_,λa ha=>c.occ a (hs a ha),λb l e=>fr.bgA b l e,c.bag⟩,λa ha _ z=>ha (hs a z),λ_ _ _ h=>h,rfl⟩;cases q:B a with
  |none=>exact .inl rfl
  |some t=>
   have:=L a (hn a (by rw[q];simp));rcases this with z|z
   .rw[q]at z;exact .inr z
   .obtain⟨b,l,e,w⟩:=h1 a z
    obtain⟨W,X⟩:=n b l e;rcases w with w|w
    .exact QX w W
    .exact QX w X
 refine⟨B,j.bg,ot N.length (.adr y::ds),β,y,dx,[],[],r,d,ok,rfl,hy,hH,rfl,bb.nil,BA e y,?_⟩;cases r with
 |ok es=>
  intro Y u g vs s c Z I J;obtain⟨t1,t2⟩:=v s c;exact h g vs t1 Z I (bb.tr t2 _ _ J)
 |error Ce=>
  intro Y u g s c;exact h g (v s c).1
variable{X:Cx}{E:St->XK}{st:RT}
variable{h:G}{δ:Ds}{β β1:Bg}{Q:p_->Bg->Prop}{i:Nat}{f:FD}
end
section
variable{C Ce:Qs}{m:Rl}{ns:List Rl}{mf:List D->M D}{mi:List D->M (List D)}{fo:FD}{g gk:FL}{dd fs as ks:List D}{src:List (Sr D)}{δ:Dn}{β β1 β2 β3:Bg}{r:Except Qs D×Bg}{d:D}{f:Rl}{h:G}{Q:p_->Bg->Prop}{i:Nat}{δs:Ds}
theorem iD(a:fo δ β=on (.ok (.obj C ns fs),β1))(b:g δ β1=on (.ok as,β2))(c:mf (.obj C ns fs::(as++dd)) β2=on r)(hm:m∉ns:=by decide):pO C m mf fo g dd δ β=on r:=by
 unfold pO;rw[M.bind_ok a];simp only[hm,not_false_eq_true,and_self,RF];rw[M.bind_ok b];exact c
theorem LF(a:g δ β=on (.ok as,β1))(b:mi (as++dd) β1=on (.ok fs,β2)):yn C ns mi g dd δ β=on (.ok (.obj C ns fs),β2):=by
 unfold yn;rw[M.bind_ok a,M.bind_ok b];rfl
theorem kg(a:x δ β=on (.ok (.obj C ns fs),β1))(b:(ns.zip fs).lookup f=on d):f1 (yi C f) x δ β=on (.ok d,β1):=by
 refine x_1 a ?_;unfold yi;simp only[RF];exact b
theorem AW{g:G}{δ δ1:Ds}{r:Except Qs (List D)×Bg}(e:g δ β=on (.nx δ1,β1))(a:δ[0]?=on (on (.sh (.adr x))))(b:δ1[0]?=on (on (.sh (.adr x))))(k:ip δ1 done β1=on r):mS g ip δ done β=on r:=by
 unfold mS;simp only[e,a,b,RF];exact k
theorem pB{f:FD}{δ:Ds}{d:D}{r:Except Qs (List D)×Bg}(e:f (vw δ) β=on (.ok d,β1))(k:ip δ (done++[d]) β1=on r):jw f ip δ done β=on r:=by
 unfold jw;rw[e];exact k
noncomputable def y_{α:Type}(d:α)(c:Nat)(a_:List (List α)):List (List α):=(Qy c).map λj=>a_.map λrow=>row.getD j d
abbrev tp(c:Nat)(a_:LI):LI:=y_ 0 c a_
theorem qb{α:Type}{d:α}{r c:Nat}{a_:List (List α)}(h:a_.length=r):i4 c r (y_ d c a_):=⟨by simp[y_],λrow a=>by
 obtain⟨j,_,rfl⟩:=QC.mp a;rw[Qi,h]⟩
theorem xo{d:Int}:∀(row:List Int),(Qy row.length).map (λj=>row.getD j d)=row:=λrow=>by
 refine ZZ λi=>?_;rw[Qu];by_cases h:i<row.length
 .rw[R5 h]
  show on (row.getD i d)=_;rw[Qn,Ql h];rfl
 .rw[Tc (by simpa using h),Tc (by omega)];rfl
theorem qd{α:Type}(f g:α->Int):∀l:List α,(l.map λx=>f x+g x).sum=(l.map f).sum+(l.map g).sum
 |[]=>by simp
 |x::l=>by
  simp only[QB,QT,qd f g l];omega
theorem nJ{α:Type}:∀l:List α,(l.map λ_=>(0:Int)).sum=0
 |[]=>rfl
 |x::l=>by simp only[QB,QT,nJ l];rfl
theorem yU:∀{a_:LI},(∀row∈a_,row.length=c)->tot (tp c a_)=tot a_
 |[],_=>by
  show((y_ 0 c []).map RZ).sum=0;unfold y_;rw[QG];exact nJ (Qy c)
 |row::a_,h=>by
  have ih:=yU (c:=c) (a_:=a_) λx b=>h x (Qk _ b);have a:=h row Qq;unfold tot tp y_ at ih⊢;rw[QG]at ih⊢;have e:(λj=>(RZ ((row::a_).map λrow=>row.getD j 0)))=λj=>row.getD j 0+(a_.map λrow=>row.getD j 0).sum:=by
   funext j;rw[QB,QT]
  show((Qy c).map λj=>(RZ ((row::a_).map λrow=>row.getD j 0))).sum=_;rw[e,qd,<-a,xo,a,QB,QT];congr 1
theorem IV(h:∀row∈a_,∀x∈row,0<=x):∀row∈tp c a_,∀x∈row,0<=x:=λrow a x b=>by
 obtain⟨j,_,rfl⟩:=QC.mp a;obtain⟨q,k,rfl⟩:=QC.mp b;rw[Qn];cases e:q[j]? with
 |none=>exact Zh 0
 |some y=>exact h q k y (Q1 e)
end
end L2.Pu
namespace L2.Pu
open PySem PySem.Spec PyProof PyProof.Rows
section
variable{X:Cx}
variable{prog:Rc}{w:Ro}{A:RG}{E:Qv->QA->Prop}{s:QA}{l:Qs}{xs:Array (Int×Tok)}
variable{K:QR}
end
end L2.Pu
namespace L2
open PySem PySem.Spec PyProof.Rows
end L2
namespace L2.Pu
open PySem PySem.Spec PyProof.Rows
section
variable{X:Cx}{E:St->XK}{K:QR}{elt cy iter:Expr}{ifs:List Expr}{rest:List Ss}{scope:Scope}{pos:Vm}{Nc dr:List Rl}{c_:List Nat}{g:TG}{tb:Qs->TB}
variable{st:RT}{H₀:Hp}{B:Ow}{bg:Option (Qs×Qs)}{H H':Hp}{δ:Ds}{β β':Bg}{σ:St}
theorem lU1{us:List Qv}(h:us.length=1):∃a,us=[a]:=List.length_eq_one_iff.mp h
theorem lU2{us:List Qv}(h:us.length=2):∃c a1,us=[c,a1]:=by
 obtain⟨a,l,rfl⟩:=SZ h;obtain⟨b,rfl⟩:=lU1 (us:=l) (by simpa using h);exact⟨_,_,rfl⟩
theorem lU3{us:List Qv}(h:us.length=3):∃d a1 a2,us=[d,a1,a2]:=by
 obtain⟨a,l,rfl⟩:=SZ h;obtain⟨b,c,rfl⟩:=lU2 (us:=l) (by simpa using h);exact⟨_,_,_,rfl⟩
theorem lU4{us:List Qv}(h:us.length=4):∃e a1 a2 a3,us=[e,a1,a2,a3]:=by
 obtain⟨a,l,rfl⟩:=SZ h;obtain⟨b,c,d,rfl⟩:=lU3 (us:=l) (by simpa using h);exact⟨_,_,_,_,rfl⟩
theorem lU5{us:List Qv}(h:us.length=5):∃f a1 a2 a3 a4,us=[f,a1,a2,a3,a4]:=by
 obtain⟨a,l,rfl⟩:=SZ h;obtain⟨b,c,d,e,rfl⟩:=lU4 (us:=l) (by simpa using h);exact⟨_,_,_,_,_,rfl⟩
end
section
variable{X:Cx}{E:St->XK}{e e1 e2 e3 e4 e5:Expr}{es:List Expr}{pos p:Vm}{f1 f2 f3 f4 f5:FD}{g:FL}{k j n:Nat}{f:Qs}{fd:Q2}{ps:List Rl}{x:Rl}{op:List D->Option D}{r:List V->Hp->VK->Prop}{id T:String}
theorem vv(i:Nat){x:Rl}(b:X.N[i]?=on x:=by rfl)(c:Vis X.env.scope x:=by first|exact S5 rfl|exact Ut (S5 rfl)|exact Ut (Ut rfl))(hd:(x==("__debug__":Rl))=Qr:=by decide)
  (a:(x==("__classdict__":Rl))=Qr:=by decide):PE X (.Name x pos) (tV X.K (ag i) E):=OP i (pv i b c hd a)
theorem ee(a:PE X e1 (tV X.K f1 E))(b:QH [e1] X.env=(Qr,RN e1 X.env)::QH [] X.env:=by rfl):PA X [e1] (jm X.K (ac f1 ax) E):=bU a jI b
theorem eg(a:PE X e1 (tV X.K f1 E))(b:PE X e2 (tV X.K f2 E))(c:QH [e1,e2] X.env=(Qr,RN e1 X.env)::QH [e2] X.env:=by rfl)(d:QH [e2] X.env=(Qr,RN e2 X.env)::QH [] X.env:=by rfl):PA X [e1,e2] (jm X.K (ac f1 (ac f2 ax)) E):=bU a (ee b d) c
theorem n_(a:PE X e1 (tV X.K f1 E))(b:PE X e2 (tV X.K f2 E))(c:PE X e3 (tV X.K f3 E))(d:QH [e1,e2,e3] X.env=(Qr,RN e1 X.env)::QH [e2,e3] X.env:=by rfl)(h:QH [e2,e3] X.env=(Qr,RN e2 X.env)::QH [e3] X.env:=by rfl)(i:QH [e3] X.env=(Qr,RN e3 X.env)::QH [] X.env:=by rfl):PA X [e1,e2,e3] (jm X.K (ac f1 (ac f2 (ac f3 ax))) E):=bU a (eg b c h i) d
theorem up(a:PE X e1 (tV X.K f1 E))(b:PE X e2 (tV X.K f2 E))(c:PE X e3 (tV X.K f3 E))(d:PE X e4 (tV X.K f4 E))(h:QH [e1,e2,e3,e4] X.env=(Qr,RN e1 X.env)::QH [e2,e3,e4] X.env:=by rfl)(i:QH [e2,e3,e4] X.env=(Qr,RN e2 X.env)::QH [e3,e4] X.env:=by rfl)(l:QH [e3,e4] X.env=(Qr,RN e3 X.env)::QH [e4] X.env:=by rfl)(m:QH [e4] X.env=(Qr,RN e4 X.env)::QH [] X.env:=by rfl):PA X [e1,e2,e3,e4] (jm X.K (ac f1 (ac f2 (ac f3 (ac f4 ax)))) E):=bU a (n_ b c d i l m) h
theorem B6(δ:Dn)(β:Bg)(r:List D)(a:Bg)(h:ax δ β=on (.ok r,a)):r.length=0:=HY h
structure FB (P:Rc) (w:Ro) (K:QR) (mg:Rl->Option Qv) (base:RQ) (k:Nat) (x:Rl) (f:Qs) (fd:Q2) (ps:List Rl) (n:Nat) (m:List D->M D):Prop where
 ok:fw P w K mg base (g_ P w) k f fd ps (zv K n m)
 m:mg x=on (.ref f)
 kp:VZ K (.ref f)=Qo
 b:aB K fd ps []
theorem vc(G:FB X.prog X.w X.K X.mg X.base j x f fd ps n m)(h:ej k X.A)(ha:PA X (e::es) (jm X.K g E))(i:j<=k:=by decide)(l:cE (g_ X.prog X.w) X E:=by first|exact dU|exact sC|assumption)(o:Gl X x:=by rfl)
  (hn:∀δ β r d,g δ β=on (.ok r,d)->r.length=n:=by repeat (first|exact B6|apply aN)) (a:(x==("__debug__":Rl))=Qr:=by decide) (q:QH (e::es) X.env=(Qr,RN e X.env)::QH es X.env:=by rfl) (c:(S4 pos (QH es X.env)).any (·.1)=Qr:=by rfl):
  PE X (.Call (.Name x p) (e::es) [] pos) (tV X.K (bF m g) E):=yM G.ok (h.mono i) o G.m G.kp G.b l ha hn a q c
theorem cM(hm:X.mg "len"=Qh)(ha:PA X (e::es) (jm X.K g E))(b:Gl X "len":=by rfl)(c:QH (e::es) X.env=(Qr,RN e X.env)::QH es X.env:=by rfl)(a:(S4 pos (QH es X.env)).any (·.1)=Qr:=by rfl):PE X (.Call (.Name "len" p) (e::es) [] pos) (tV X.K (aQ gl g) E):=cg l8 PK b hm PySem.boot_len ha (by decide) (by decide) c a
theorem f9(hm:X.mg "sum"=Qh)(ha:PA X (e::es) (jm X.K g E))(b:Gl X "sum":=by rfl)(hc:X.calm=Qo:=by rfl)(c:QH (e::es) X.env=(Qr,RN e X.env)::QH es X.env:=by rfl)(a:(S4 pos (QH es X.env)).any (·.1)=Qr:=by rfl):PE X (.Call (.Name "sum" p) (e::es) [] pos) (tV X.K (aQ ik g) E):=cg (BW hc) M8 b hm PyProof.Rows.Boot.«sum» ha (by decide) (by decide) c a
theorem lf(hm:X.mg "isinstance"=Qh)(ha:PA X (e::es) (jm X.K g E))(b:Gl X "isinstance":=by rfl)(c:QH (e::es) X.env=(Qr,RN e X.env)::QH es X.env:=by rfl)(a:(S4 pos (QH es X.env)).any (·.1)=Qr:=by rfl):PE X (.Call (.Name "isinstance" p) (e::es) [] pos) (tV X.K (aQ iZ g) E):=cg BY PL b hm PyProof.Rows.Boot.«isinstance» ha (by decide) (by decide) c a
theorem j1{scope:Scope}(a dr:List Rl)(c_:List Nat)(k:scope.kind= .function:=by rfl)(nd:(scope.names.map (·.1)).Nodup:=by decide +kernel)
  (fr:(scope.names.all λy=>y.2 != .free||(X.env.scope.names.lookup y.1==on .cell||X.env.scope.names.lookup y.1==on .free))=Qo:=by rfl) (b:a=dr++c_.map (λj=>X.N.getD j Ul):=by rfl)
  (c:(c_.all λj=>decide (j<X.N.length)&&scope.names.lookup (X.N.getD j Ul)==on .free)=Qo:=by rfl):dt X scope a dr c_:=dt.ofB k nd fr b c
theorem g8{a:List Rl}(h:a.Nodup:=by decide +kernel):(aK X a scope cl C fp s H).N.Nodup:=h
theorem eo(i:Nat){x:Rl}(a:X.N.Nodup)(b:X.N[i]?=on x:=by rfl)(c:y3 X.env.scope x:=by first|exact S5 rfl|exact Ut rfl)(d:X.fn x=Qo\/X.env.scope.names.lookup x=on .local:=by first|exact .inl rfl|exact .inr rfl|assumption):PG X (.Name x pos) (dW i):=wa a b c d
theorem fy(i:Nat){x:Rl}{e:Expr}{pos a:Vm}(b:X.N.Nodup)(c:PE X e te)(d:X.N[i]?=on x:=by rfl)(h:y3 X.env.scope x:=by first|exact S5 rfl|exact Ut rfl)(hs:Vb e (on (.Name x a)) pos.line X.env=SY Qr:=by rfl)(l:X.fn x=Qo\/X.env.scope.names.lookup x=on .local:=by first|exact .inl rfl|exact .inr rfl|assumption):PS X (.Assign [.Name x a] e pos) (gZ te (dW i)):=o5 b d h c hs l
theorem vu{Q:List Qv->Prop}(h:∀a,Q [a])(us:List Qv)(b:us.length=1):Q us:=by obtain⟨_,rfl⟩:=lU1 b;exact h _
theorem vr{Q:List Qv->Prop}(h:∀a b,Q [a,b])(us:List Qv)(c:us.length=2):Q us:=by obtain⟨_,_,rfl⟩:=lU2 c;exact h _ _
theorem r8{Q:List Qv->Prop}(h:∀a b c,Q [a,b,c])(us:List Qv)(d:us.length=3):Q us:=by obtain⟨_,_,_,rfl⟩:=lU3 d;exact h _ _ _
theorem bA4{Q:List Qv->Prop}(h:∀a b c d,Q [a,b,c,d])(us:List Qv)(i:us.length=4):Q us:=by obtain⟨_,_,_,_,rfl⟩:=lU4 i;exact h _ _ _ _
theorem gs{N Q:List Rl}{c:Scope}(a:c.kind= .function:=by rfl)(b:c.isCoroutine=Qr:=by rfl)(g:c.isGenerator=Qr:=by rfl)(d:N.Nodup:=by decide +kernel)(e:N.take Q.length=Q:=by rfl)(f:∀x∈Q,c.names.lookup x=on .local\/c.names.lookup x=on .cell:=by decide +kernel)(h:∀y∈c.names,y.2≠ .free:=by decide +kernel):cp N Q c:=⟨a,b,g,d,e,f,h⟩
end
end L2.Pu
namespace L2
open PySem PySem.Spec PyProof.Rows
section
variable{prog:Rc}{w:Ro}{A:RG}{E:Qv->QA->Prop}{s:QA}{K:QR}
variable{X:Cx}
end
namespace Pu
section
variable{X:Cx}{E:St->XK}
end
end Pu
end L2
namespace L2.Pu
open PySem PySem.Spec PyProof.Rows
section
variable{X:Cx}{E:St->XK}{a b:Expr}{pos:Vm}{k:Nat}{f C:Qs}{fd:Q2}{ps:List Rl}{K:QR}
structure IsC (K:QR) (C:Qs):Prop where
 cl:r_ K C
 ha:UL K (.ref C) "__class__"=on (on (.builtin "object.__class__"))
 hn:specialIn K (.builtin "object.__class__") "__get__"=on (on (.builtin "getset_descriptor.__get__"))
 htk:ZK K (.builtin "object.__class__")=on Qo
 hm:PySem.W.mroIn K C (.type "object")=on Qo
theorem IU{r c:Nat}{a_:LI}(sh:i4 r c a_):tp r (tp c a_)=a_:=by
 obtain⟨e,g⟩:=sh;refine SH (by simp[y_,e]) λi n d=>?_;have h:a_[i].length=c:=g _ (Rp d);refine SH (by simp[y_,h]) λj o l=>?_;have m:j<c:=by omega
 simp[y_,Qn,m,d,l]
theorem lst2:de [x,y]=on (.lst [x,y]):=by
 unfold de;rw[Qt (show[x,y].length<=QN by rw[QP,Ry];decide)]
variable{p1 p2 pos1 pos2:Vm}
noncomputable def S(n:Nat)(f:Nat->Int):Int:=((Qy n).map f).sum
theorem OC(f:Nat->Int):S 0 f=0:=rfl
theorem f7(n:Nat)(f:Nat->Int):S (n+1) f=S n f+f n:=by
 unfold S;rw[TY,Rg,XB];simp
theorem dD{f g:Nat->Int}(h:∀i<n,f i=g i):S n f=S n g:=by
 unfold S;rw[Ra λi c=>h i (QW.mp c)]
theorem sU(n:Nat)(f g:Nat->Int):S n (λi=>f i+g i)=S n f+S n g:=qd f g _
theorem mn(n:Nat):S n (λ_=>0)=0:=nJ _
theorem Qg(n:Nat)(f:Nat->Int):S n (λi=>-f i)=-S n f:=by
 induction n with
 |zero=>rfl
 |succ n ih=>rw[f7,f7,ih];omega
theorem CL(n m:Nat)(h:Nat->Nat->Int):S n (λi=>S m (λj=>h i j))=S m (λj=>S n (λi=>h i j)):=by
 induction n with
 |zero=>rw[OC];exact(mn m).symm
 |succ n ih=>
  rw[f7,ih,<-sU];exact dD λj _=>(f7 n _).symm
theorem nK{g:Nat->Int}:∀{l L:List Nat},l.Sublist L->L.Nodup->(l.map g).sum=(L.map λx=>if x∈l then g x else 0).sum
 |_,_,.slnil,_=>rfl
 |l,_,.cons a (l₂:=L) h,nd=>by
  have c:=(Rf.mp nd);have ha:a∉l:=λz=>c.1 (h.subset z);rw[QB,QT,Qp ha,nK h c.2,UI]
 |_,_,.cons₂ a (l₁:=l) (l₂:=L) h,nd=>by
  have c:=(Rf.mp nd);rw[QB,QB,QT,QT,Qt Qq,nK h c.2];congr 2;refine Ra λx e=>?_;have d:x≠a:=λz=>c.1 (z▸e);by_cases q:x∈l
  .rw[Qt q,Qt (Qk _ q)]
  .rw[Qp q,Qp λz=>(QD.mp z).elim d q]
theorem mw{l:List Nat}(h:l.Sublist (Qy n)):(l.map g).sum=S n λx=>if x∈l then g x else 0:=nK h V4
theorem wD{p:Nat->Bool}{g:Nat->Int}:∀l:List Nat,((l.filter p).map g).sum=(l.map λx=>if p x=Qo then g x else 0).sum
 |[]=>rfl
 |x::l=>by
  rw[UP,QB,QT,<-wD l];by_cases q:p x=Qo
  .rw[Qt q,Qt q,QB,QT]
  .rw[Qp q,Qp q,UI]
noncomputable abbrev nI(l:List Nat):List Int:=l.map λ(i:Nat)=>(i:Int)
noncomputable abbrev nL(l:List Nat):D:= .lst ((nI l).map D.int)
theorem wy:∀xs:List Int,inB (.int i) (xs.map D.int)=decide (i∈xs)
 |[]=>rfl
 |x::xs=>by
  have ih:=wy (i:=i) xs;unfold inB at ih⊢;rw[QB,VR,ih];show(decide (x=i)||_)=_;rw[Wg];simp only[Bool.or_eq_true,Rm,QD];constructor
  .rintro(h|h)
   .exact .inl h.symm
   .exact .inr h
  .rintro(h|h)
   .exact .inl h.symm
   .exact .inr h
theorem rC:∀xs:List Int,(xs.map D.int).all fW=Qo
 |[]=>rfl
 |_::xs=>rC xs
theorem Nb{xs:List Int}{neg:Bool}:Tm neg (.int i) (.lst (xs.map D.int))=on (.bl (if neg then !decide (i∈xs)else decide (i∈xs))):=by
 show(if(fW (.int i)&&(xs.map D.int).all fW)=Qo then _ else _)=_;rw[rC,Bool.and_true,Qt (show fW (.int i)=Qo from rfl),wy]
theorem M1{i:Nat}{l:List Nat}:((i:Int)∈nI l)↔i∈l:=by
 constructor
 .intro h
  obtain⟨j,c,e⟩:=QC.mp h;exact(Int.ofNat.inj e)▸c
 .intro h
  exact QC.mpr ⟨i,h,rfl⟩
theorem uS{i:Nat}{l:List Nat}{neg:Bool}:Tm neg (.int (i:Int)) (nL l)=on (.bl (if neg then !decide (i∈l)else decide (i∈l))):=by
 rw[Nb];simp only[M1]
theorem kT{α:Type}{f:FD}(xs:List α)(u v:α->D)(p:α->Bool)(g:it δ β=on (.ok (xs.map u),β))
  (i:∀x∈xs,∃δ1,tg (u x) (l0 nv c_ δ)=on δ1/\tt δ1 β=on (.ok (p x),β)/\(p x=Qo->f δ1 β=on (.ok (v x),β))) (j:xs.length<=QN):cK nv c_ it tg tt (nj f) δ β=on (.ok (.lst ((xs.filter p).map v)),β):=by
 refine qI g ?_ (by rw[Qi];exact Qw (List.length_filter_le _ _) j);have gen:∀xs:List α,(∀x∈xs,∃δ1,tg (u x) (l0 nv c_ δ)=on δ1/\tt δ1 β=on (.ok (p x),β)/\(p x=Qo->f δ1 β=on (.ok (v x),β)))->o0 tg tt (nj f) (xs.map u) (l0 nv c_ δ) β=on (.ok ((xs.filter p).map v),β):=by
  intro xs
  induction xs with
  |nil=>intro _;rfl
  |cons x xs ih=>
   intro h;obtain⟨δ1,d,c,l⟩:=h x Qq;have e:=ih λy m=>h y (Qk _ m);rw[QB,o0,UP];cases q:p x with
   |true=>
    rw[q]at c;simp only[d,M.bind,M.ret,c,nj,l q,e,Qt,QB,UO,TX]
   |false=>
    rw[q]at c;simp only[d,M.bind,M.ret,c,e,QS,RH,TX]
 exact gen xs i
theorem nA:∀(n:Nat) (xs:List D),dH n xs=(Qy xs.length).map λ(i:Nat)=>D.tup [.int ((n+i:Nat):Int),xs.getD i .non]
 |n,[]=>rfl
 |n,x::xs=>by
  rw[dH,nA (n+1) xs,QP,YD,QB,QG];congr 1;refine Ra λi _=>?_;simp only[Vo];rw[show n+1+i=n+(i+1) by omega];rfl
noncomputable abbrev bI(b:LP)(i j:Nat):Int×Int:=(b.getD i []).getD j (0,0)
theorem i4.getD{α:Type}{m:List (List α)}(h:i4 r c m)(d:i<r):m[i]?=on (m.getD i [])/\(m.getD i []).length=c:=by
 obtain⟨row,e,l⟩:=h.at d;have:m.getD i []=row:=by rw[Qn,e];rfl
 rw[this];exact⟨e,l⟩
theorem mZ{α:Type}{l:List α}{i:Nat}{d:α}(h:i<l.length):l[i]?=on (l.getD i d):=by
 rw[Qn,Ql h];rfl
theorem JZ{xs:List Int}(h:i<xs.length):jn (.lst (xs.map D.int)) (.int (i:Int))=on (.int (xs.getD i 0)):=cV (by rw[Qu,mZ h];rfl)
theorem uO{b:LP}(sh:i4 r c b)(g:i<r)(h:j<c):jn (fY b) (.int (i:Int))=on (.lst ((b.getD i []).map pD))/\jn (.lst ((b.getD i []).map pD)) (.int (j:Int))=on (pD (bI b i j)):=by
 obtain⟨e,l⟩:=sh.getD g;refine⟨pw (by rw[Qu,e];rfl),cV ?_⟩;rw[Qu,mZ (d:=(0,0)) (by omega)];rfl
noncomputable def o9(rs:List Int)(c:List Nat):Int:=(c.map λi=>rs.getD i 0).sum
def eL(cs:List Int)(b:LP)(r:Nat)(c:List Nat)(j:Nat):Int:=cs.getD j 0-S r λi=>if i∈c then 0 else(bI b i j).1
def fq(b:LP)(c:List Nat)(j:Nat):Int:=(c.map λi=>(bI b i j).2).sum
def sw(cs:List Int)(b:LP)(r c:Nat)(d e:List Nat):Int:=S c λj=>if j∈e then eL cs b r d j else fq b d j
def hF(b:LP)(c d:List Nat)(i j:Nat):Int:=(if i∈c/\j∉d then(bI b i j).2 else 0)-(if i∉c/\j∈d then(bI b i j).1 else 0)
theorem KG{b:LP}{d e:List Nat}(h:d.Sublist (Qy r))(g:e.Sublist (Qy c)):
  sw cs b r c d e=o9 cs e+S r λi=>S c λj=>hF b d e i j:=by
 unfold sw o9;rw[mw g,CL,<-sU];refine dD λj l=>?_;by_cases q:j∈e
 .rw[Qt q,Qt q]
  unfold eL;rw[Int.sub_eq_add_neg,<-Qg];congr 1;refine dD λi g=>?_;unfold hF;by_cases z:i∈d
  .simp[z,q]
  .simp[z,q]
 .rw[Qp q,Qp q,UI]
  unfold fq;rw[mw h];refine dD λi g=>?_;unfold hF;by_cases z:i∈d
  .simp[z,q]
  .simp[z,q]
end
end L2.Pu
namespace L2.Pu
open PySem PySem.Spec PyProof PyProof.Rows
section
variable{X:Cx}{K:QR}
variable{E:St->XK}{o e:Expr}{apos cpos:Vm}
theorem vH(c:Nat->Ds->Bg->Prop)
  (step:∀n δ β,c n δ β->(∃β1,t (hW δ) β=on (.ok Qr,β1)/\Gw h δ β1 Q)\/∃β1,t (hW δ) β=on (.ok Qo,β1)/\Gw g δ β1 (λo β2=>∃δ1,o= .nx δ1/\∃m,m<n/\c m δ1 β2)):
  ∀(n:Nat) (δ:Ds) (β:Bg),c n δ β->Gw (aG (gWh t g) h) δ β Q:=by
 have gen:∀(n:Nat) (δ:Ds) (β:Bg),c n δ β->∃k a b,bO t g k δ β=on (.nx a,b)/\Gw h a b Q:=by
  intro n
  induction n using XM with
  |_ n ih=>
   intro δ β hI;rcases step n δ β hI with⟨β1,e,k⟩|⟨β1,e,k⟩
   .exact⟨1,δ,β1,by unfold bO;simp only[e],k⟩
   .obtain⟨o,β2,f,δ1,rfl,m,hm,d⟩:=k
    obtain⟨k,a,b,i,j⟩:=ih m hm δ1 β2 d;exact⟨k+1,a,b,by unfold bO;simp only[e,f,i],j⟩
 intro n δ β hI;obtain⟨k,a,b,e,l⟩:=gen n δ β hI;exact c9 (Nj e) l
end
end L2.Pu
namespace L2.Pu
open PySem PySem.Spec PyProof.Rows
section
variable{prog:Rc}{w:Ro}{A:RG}{E:Qv->QA->Prop}{s:QA}{l:Qs}{xs:Array (Int×Tok)}
theorem DD(f:A.handled=Qh)(c:s.heap.IsTuple l (YU xs))
  (h:∀h' d t',(∀b o,s.heap.get? b=on o->h'.get? b=on o)->Q (.int (preSum (numAt xs) xs.size) t') {s with heap:=h',toks:=d}):
  QJ (Q4 prog w) A (Xq (.builtin "sum") [.ref l]) Q E s:=by
 have a:l<s.heap.objs.size:=by obtain⟨_,e,_⟩:=c;exact QZ e
 refine call_sum_walkG (Xu c ⟨_,_,_,_,_,_,numAt xs,rfl,Walks.tuple (A:=A.in1) f _ l (Rr a) (YU xs),⟨⟨_,QK _ rfl,rfl,rfl⟩,c.at λo e=>Qm _ e⟩,λb hb=>?_,(λ_ _=>intItems_at),λh' d t' g=>?_⟩)
 .show b<(s.heap.push _).objs.size
  rw[Sj];rcases QD.mp hb with rfl|hb
  .exact V8 _
  .rcases QD.mp hb with rfl|hb
   .exact VT a
   .cases hb
 .have:=h h' d t' λb o e=>g b o (λhm=>by
   rcases QD.mp hm with i|hm
   .exact QX (i▸QZ e) (Rv _)
   .cases hm) (Qm _ e)
  simpa[YU]using this
variable{X:Cx}{K:QR}
abbrev JB(K:QR):List V->Hp->VK->Prop:=λxs H Q=>∃(p:Qs) (ns:List Int),xs=[.ref p]/\(f0 K H p (ns.map V.int)\/hO K H p (ns.map V.int))/\Q (.int ns.sum) H
theorem BV(hc:X.calm=Qo):cL X (.builtin "sum") (JB X.K):=by
 intro a s d H xs us Q I r h;obtain⟨p,ns,rfl,hq|hq,q⟩:=h
 .exact rK hc a s d H _ us Q I r ⟨p,ns,rfl,hq,q⟩
 .obtain⟨u,rfl,f⟩:=ij r
  cases f;obtain⟨its,g,pl,k⟩:=I.tuple hq;have b:=pF g;obtain⟨xs,ex⟩:=b.allInts.items;have c:=b.numsOf;have i:its=(YU xs).toList:=by rw[<-ex]
  rw[i,nums_intItems]at c;rw[ex]at pl;refine DD (I.ok.hd hc) pl λh' m t' j=>?_;have e:preSum (numAt xs) xs.size=ns.sum:=by rw[preSum_eq,S6 (by simp),c]
  rw[e];exact⟨.int ns.sum,H,I.kept j,⟨_,rfl⟩,q⟩
def oK:List D->Option D
 |[.lst xs]=>(ef xs).map λns=> .int ns.sum
 |[.tup xs]=>(ef xs).map λns=> .int ns.sum
 |_=>Qh
theorem M7:dg K (JB K) oK:=λF H β Q ds d vs fr h e k=>by
 unfold oK at e;split at e
 .rename_i xs
  obtain⟨ns,q,rfl⟩:=V5.mp e;obtain⟨v,rfl,g⟩:=bb.one h;obtain⟨a,ys,rfl,r,b⟩:=cx.sqL g;rw[i_ q]at b;have c:=bb.ints ns b;subst c;exact⟨a,ns,rfl,.inl r,k _ H (To.refl fr) rfl⟩
 .rename_i xs
  obtain⟨ns,q,rfl⟩:=V5.mp e;obtain⟨v,rfl,g⟩:=bb.one h;obtain⟨a,ys,rfl,r,b⟩:=cx.sqT g;rw[i_ q]at b;have c:=bb.ints ns b;subst c;exact⟨a,ns,rfl,.inr r,k _ H (To.refl fr) rfl⟩
 .cases e
theorem L6(ns:List Int):oK [.lst (ns.map D.int)]=on (.int ns.sum):=eF ns
theorem L5(ns:List Int):oK [.tup (ns.map D.int)]=on (.int ns.sum):=eF ns
noncomputable def Nk:G:=λ_ _=>Qh
theorem cR{X:Cx}{st:RT}{K:QR}{E:St->XK}:PS X st (tG K H Nk E):=λ_ _ _ _ _ _ h=>by
 obtain⟨_,_,_,_,_,_,_,e,_⟩:=h;cases e
end
end L2.Pu
namespace L2.Pu
open PySem
noncomputable def di:Nat->Nat
 |0=>1
 |n+1=>di n*(n+1)
noncomputable def pr(l:List Nat):Nat:=l.foldr (·*·) 1
theorem ME:pr []=1:=rfl
theorem zJ(l m:List Nat):pr (l++m)=pr l*pr m:=by
 induction l with
 |nil=>simp[pr]
 |cons x l ih=>
  show x*pr (l++m)=x*pr l*pr m;rw[ih,Re]
theorem Kr{α:Type}{l:List α}{i:Nat}{x:α}(h:l[i]?=on x):l.take (i+1)=l.take i++[x]:=by
 rw[List.take_succ,h];rfl
theorem qr{α:Type}{f:α->Nat}{l:List α}{i:Nat}{x:α}(h:l[i]?=on x):pr ((l.take (i+1)).map f)=pr ((l.take i).map f)*f x:=by
 rw[Kr h,Rg,zJ];simp[pr]
theorem jY:∀n,0<di n
 |0=>by decide
 |n+1=>UE (jY n) (by omega)
theorem FJ:∀{n m:Nat},n<=m->di n<=di m:=by
 intro n m h
 induction h with
 |refl=>exact Qz _
 |step h ih=>exact Qw ih (TD _ (by omega))
theorem P5:di 40<=2^160:=by decide +kernel
theorem u3(h:n<=40):di n<=2^160:=Qw (FJ h) P5
theorem zI(h:∀x∈l,0<x):0<pr l:=by
 induction l with
 |nil=>decide
 |cons x l ih=>exact UE (h x Qq) (ih λy a=>h y (Qk _ a))
theorem fm{l:List Nat}(h:x∈l):x<=l.sum:=by
 induction l with
 |nil=>cases h
 |cons y l ih=>
  rw[QT];rcases QD.mp h with rfl|h
  .omega
  .have:=ih h;omega
theorem ck(h:t<=2^m)(hm:m<=999):t<2^1000:=Sn (Qw h (SK (by decide) hm)) (Nat.pow_lt_pow_right (by decide) (by decide))
theorem cN{t n:Nat}(a:t<2^1000)(b:n<2^1000):xK (.int (t:Int)) (.int (n:Int))=on (.int ((t*n:Nat):Int)):=by
 have c:gA (t:Int)=Qo:=QL (by rw[WV];exact a);have d:gA (n:Int)=Qo:=QL (by rw[WV];exact b);show(if(gA (t:Int)&&gA (n:Int))=Qo then _ else _)=_;simp only[c,d,UR,RF];rfl
theorem pL{t g:Nat}(d:0<g)(a:g<2^1000):yk (.int (t:Int)) (.int (g:Int))=on (.int ((t/g:Nat):Int)):=by
 have b:decide ((0:Int)<(g:Int))=Qo:=QL (by omega);have c:decide (((g:Int)).natAbs.log2<9000)=Qo:=QL (by
  rw[WV];have:=(Nat.log2_lt (n:=g) (k:=1000) (by omega)).mpr a;omega)
 show(if(decide ((0:Int)<(g:Int))&&decide (((g:Int)).natAbs.log2<9000))=Qo then _ else _)=_;simp only[b,c,UR,RF];rfl
theorem oy{t n:Nat}:fZ (.int (t:Int)) (.int (n:Int))=on (.int ((t+n:Nat):Int)):=by
 rw[Wq];rfl
theorem fJ(l:List Nat):(nI l).sum=((l.sum:Nat):Int):=by
 induction l with
 |nil=>rfl
 |cons x l ih=>
  show(x:Int)+(nI l).sum=_;rw[ih,QT,Wq]
theorem sF{l:List Nat}{i:Nat}{d:D}(h:((nI l).map D.int)[i]?=on d):∃n,l[i]?=on n/\d= .int (n:Int):=by
 obtain⟨x,a,rfl⟩:=fN h;obtain⟨n,hn,rfl⟩:=fN a;exact⟨n,hn,rfl⟩
theorem pe(l:List Nat):((nI l).map D.int).length=l.length:=by rw[Qi,Qi]
def Sq(l:List Nat)(d:D):Prop:=d=nL l\/d= .tup ((nI l).map D.int)
theorem Sq.seq(h:Sq l d):eY d=on ((nI l).map D.int):=by rcases h with rfl|rfl<;>rfl
theorem rg2'(a:0<=i)(b:i<=10^9)(c:0<=j)(d:j<=10^9):nS [.int i,.int j]=on (aU i (j-i).toNat):=by
 have q:(decide (-(2^62)<=i)&&decide (i<2^62)&&decide (-(2^62)<=j)&&decide (j<2^62))=Qo:=by
  simp only[Q9,Rm];omega
 show(if(decide (-(2^62)<=i)&&decide (i<2^62)&&decide (-(2^62)<=j)&&decide (j<2^62))=Qo then on (aU i (j-i).toNat)else Qh)=_;rw[Qt q]
theorem rg2{n:Nat}(h:n<=1000):nS [.int 2,.int ((n:Int)+1)]=on (aU 2 (n-1)):=by
 rw[rg2' (by decide) (by decide) (by omega) (by omega),show((n:Int)+1-2).toNat=n-1 by omega]
end L2.Pu
namespace L2.Pu
theorem CM(h:∀i<n,f i<=g i):S n f<=S n g:=by
 induction n with
 |zero=>exact Zh _
 |succ n ih=>
  rw[f7,f7];have a:=ih λi b=>h i (by omega);have c:=h n (by omega);omega
theorem Ke(n:Nat)(f g:Nat->Int):S n (λi=>f i-g i)=S n f-S n g:=by
 induction n with
 |zero=>rfl
 |succ n ih=>rw[f7,f7,f7,ih];omega
noncomputable def fl(x y:Bool)(l h:Int):Int:=(if x=Qo/\y=Qr then h else 0)-(if x=Qr/\y=Qo then l else 0)
def slk(rs cs:Nat->Int)(lo a:Nat->Nat->Int)(r c:Nat)(X Y:Nat->Bool):Int:=
 S c (λj=>if Y j=Qo then cs j else 0)-S r (λi=>if X i=Qo then rs i else 0)+S r λi=>S c λj=>fl (X i) (Y j) (lo i j) (a i j)
section
variable{rs cs:Nat->Int}{lo hi:Nat->Nat->Int}{r c:Nat}
theorem KA{g:Nat->Nat->Int}(h:∀i<r,∀j<c,lo i j<=g i j/\g i j<=hi i j)(d:∀i<r,rs i=S c (g i))(hc:∀j<c,cs j=S r λi=>g i j)(X Y:Nat->Bool):0<=slk rs cs lo hi r c X Y:=by
 have e:S c (λj=>if Y j=Qo then cs j else 0)=S r λi=>S c λj=>if Y j=Qo then g i j else 0:=by
  rw[CL];refine dD λj a=>?_;cases q:Y j with
  |true=>simp only[Qt];exact hc j a
  |false=>simp only[QS,RH];exact(mn r).symm
 have f:S r (λi=>if X i=Qo then rs i else 0)=S r λi=>S c λj=>if X i=Qo then g i j else 0:=by
  refine dD λi hi=>?_;cases q:X i with
  |true=>simp only[Qt];exact d i hi
  |false=>simp only[QS,RH];exact(mn c).symm
 unfold slk;rw[e,f,<-Ke,<-sU];refine Int.le_trans (Int.le_of_eq (mn r).symm) (CM λi b=>?_);rw[<-Ke,<-sU];refine Int.le_trans (Int.le_of_eq (mn c).symm) (CM λj a=>?_);have:=h i b j a;unfold fl;cases X i<;>cases Y j<;>simp<;>omega
noncomputable def s9:Nat->List (List Nat)
 |0=>[[]]
 |n+1=>s9 n++(s9 n).map (·++[n])
theorem iC:∀(n:Nat) (l:List Nat),l∈s9 n->l.Sublist (Qy n)
 |0,l,h=>by rw[Q5.mp h];exact .slnil
 |n+1,l,h=>by
  rw[TY];rcases RK.mp h with h|h
  .exact(iC n l h).trans (List.sublist_append_left _ _)
  .obtain⟨a,h',rfl⟩:=QC.mp h
   exact(iC n a h').append (X6 _)
theorem wP:∀n:Nat,(s9 n).length=2^n
 |0=>rfl
 |n+1=>by
  rw[s9,QV,Qi,wP n,YI];omega
end
section
variable{rs cs:List Int}{b:LP}{r c:Nat}
abbrev slB(rs cs:List Int)(b:LP)(r c:Nat)(X Y:Nat->Bool):Int:=slk (λi=>rs.getD i 0) (λj=>cs.getD j 0) (λi j=>(bI b i j).1) (λi j=>(bI b i j).2) r c X Y
theorem Md{a d:List Nat}(e:a.Sublist (Qy r))(f:d.Sublist (Qy c)):sw cs b r c a d-o9 rs a=slB rs cs b r c (λi=>decide (i∈a)) (λj=>decide (j∈d)):=by
 rw[KG e f];unfold o9 slB slk;rw[mw f,mw e];have h:∀(n:Nat) (l:List Nat) (g:Nat->Int),S n (λj=>if decide (j∈l)=Qo then g j else 0)=S n (λj=>if j∈l then g j else 0):=λn l g=>dD λj _=>by simp
 rw[h,h];have k:(S r λi=>S c λj=>hF b a d i j)=S r λi=>S c λj=>fl (decide (i∈a)) (decide (j∈d)) (bI b i j).1 (bI b i j).2:=by
  refine dD λi _=>dD λj _=>?_;unfold hF fl;simp
 simp only[k];omega
def uA(cs:List Int)(b:LP)(r c:Nat)(a:List Nat):List Nat:=(Qy c).filter λj=>decide (eL cs b r a j<fq b a j)
end
end L2.Pu
namespace L2.Pu
open PySem PySem.W
section
variable{tb:String->Option Builtin}{p:Rc}{w:Ro}{n₀:Nat}{ann:Option Qv}{env:XH}{q:Vm}
theorem i5(k:Nat){b:List RT}(h:segRun tb p w n₀ ann 1 n s (piecesOf (b.take k) env c pos [YZ q])=on (.next,s',c,p'))
  (a:topRun tb p w n₀ ann N s' (restOf (b.drop k) env c p' [YZ q])=on r):topRun tb p w n₀ ann (n+N) s (restOf b env c pos [YZ q])=on r:=by
 have:=piece_app h a;rwa[T3]at this
theorem FF(e:b=[])(k:topRun tb p w n₀ ann N s ⟨doneF .next,c,pos,[YZ q]⟩=on r):topRun tb p w n₀ ann N s (restOf b env c pos [YZ q])=on r:=by
 subst e;exact piece_nil k
end
end L2.Pu
namespace L2.Hs
open PySem PySem.SetTable
def Rs(xs:Array Nat):Prop:=∀i k x y:Nat,i<k->xs[i]?=on x->xs[k]?=on y->x<y
theorem ox{xs:Array Nat}(r:Rs xs):∀(fuel lo c:Nat),lo<=c->c<=xs.size->c-lo<=fuel->(∀i x,i<lo->xs[i]?=on x->x<j)->(∀i x,c<=i->xs[i]?=on x->j<=x)->
  below.go xs j fuel lo c<=xs.size/\(∀i x,i<below.go xs j fuel lo c->xs[i]?=on x->x<j)/\∀i x,below.go xs j fuel lo c<=i->xs[i]?=on x->j<=x
 |0,lo,c,h1,h2,h3,a,b=>by
  have:lo=c:=by omega
  subst this;exact⟨h2,a,b⟩
 |fuel+1,lo,c,h1,h2,h3,a,b=>by
  unfold below.go;by_cases q:lo<c
  .rw[Qt q]
   simp only;have hm:(lo+c)/2<xs.size:=by omega
   have e:xs[(lo+c)/2]?=on (xs.getD ((lo+c)/2) j):=by simp[Tl,hm]
   by_cases z:xs.getD ((lo+c)/2) j<j
   .rw[Qt z]
    refine ox r fuel _ _ (by omega) h2 (by omega) (λi x f d=>?_) b;by_cases w:i=(lo+c)/2
    .subst w
     rw[e]at d;cases d;exact z
    .exact Vj (r i ((lo+c)/2) x _ (by omega) d e) z
   .rw[Qp z]
    refine ox r fuel _ _ (by omega) (by omega) (by omega) a (λi x f d=>?_);by_cases w:i=(lo+c)/2
    .subst w
     rw[e]at d;cases d;omega
    .have:=r ((lo+c)/2) i _ x (by omega) e d
     omega
  .rw[Qp q]
   have:lo=c:=by omega
   subst this;exact⟨h2,a,b⟩
theorem i8{xs:Array Nat}(r:Rs xs):below xs j<=xs.size/\(∀i x,i<below xs j->xs[i]?=on x->x<j)/\∀i x,below xs j<=i->xs[i]?=on x->j<=x:=
 ox r xs.size 0 xs.size (RB _) (Qz _) (by omega) (λi x h=>QX h (S3 i)) (λi x h e=>by
  have:=(RM.mp e).1;omega)
theorem FW(r:Rs xs)(h:xs[i]?=on j):below xs j=i:=by
 obtain⟨c,a,b⟩:=i8 (j:=j) r;rcases T6 (below xs j) i with q|q|q
 .have d:=(RM.mp h).1
  have e:xs[below xs j]?=on xs[below xs j]:=getElem?_pos xs _ (by omega);have:=b _ _ (Qz _) e;have:=r _ _ _ _ q e h;omega
 .exact q
 .have:=a _ _ q h
  omega
theorem q0{t:Rx}(r:Rs t.place)(h:t.place[i]?=on j):t.slot j= .live i:=by
 unfold slot;simp only[FW r h,h,beq_self_eq_true,RF]
theorem xi{t:Rx}(d:t.dummies=#[])(h:∀i:Nat,t.place[i]?≠on j):t.slot j= .empty:=by
 unfold slot;have a:(t.place[below t.place j]?==on j)=Qr:=by
  rw[Ys];exact h _
 have b:has t.dummies j=Qr:=by unfold has;rw[d];rfl
 simp only[a,b,QS,RH]
noncomputable def fx(t:Rx):Nat->Probe->Probe
 |0,p=>p
 |n+1,p=>fx t n (t.advance p)
theorem n5(t:Rx):∀(n:Nat) (p:Probe),fx t (n+1) p=t.advance (fx t n p)
 |0,p=>rfl
 |n+1,p=>by
  show fx t (n+1) (t.advance p)=t.advance (fx t n (t.advance p));exact n5 t n (t.advance p)
theorem mQ(t:Rx):∀(n m:Nat) (p:Probe),fx t (n+m) p=fx t m (fx t n p)
 |0,m,p=>by rw[RX];rfl
 |n+1,m,p=>by
  rw[show n+1+m=(n+m)+1 by omega];exact mQ t n m (t.advance p)
structure Pv (t:Rx) (p:Probe):Prop where
 j:p.j+p.more<=t.mask
 more:p.more<=9
 i:p.i<=t.mask
 pt:p.perturb<2^64
 du:p.dummy=Qh
theorem rh{mask i:Nat}(h:i<=mask):i<=runEnd mask i/\runEnd mask i<=mask/\runEnd mask i-i<=9:=by
 unfold runEnd;by_cases q:i+9<=mask
 .rw[Qt q];omega
 .rw[Qp q];omega
noncomputable def r4(t:Rx)(i pt:Nat):Probe:={j:=i,more:=runEnd t.mask i-i,i,perturb:=pt,dummy:=Qh}
theorem pU{t:Rx}(h:i<=t.mask)(a:pt<2^64):Pv t (r4 t i pt):=by
 obtain⟨c,d,b⟩:=rh h;refine⟨?_,b,h,a,rfl⟩;show i+(runEnd t.mask i-i)<=t.mask;omega
theorem qX(t:Rx)(h:Int):t.probeStart h=r4 t (bits h % (t.mask+1)) (bits h):=rfl
theorem mY(h:Int):bits h<2^64:=by
 unfold bits;have:=Vt h (show(0:Int)<2^64 by decide);have:=U5 h (show(2^64:Int)≠0 by decide);omega
theorem nM(t:Rx)(h:Int):Pv t (t.probeStart h):=by
 rw[qX];exact pU (by have:=Wn (bits h) (show t.mask+1>0 by omega);omega) (mY h)
noncomputable abbrev G_(mask i pt:Nat):Nat:=(i*5+1+pt/32) % (mask+1)
theorem CJ{t:Rx}{p:Probe}(h:0<p.more):t.advance p={p with j:=p.j+1,more:=p.more-1}:=by
 unfold advance;rw[Qt h]
theorem wS{t:Rx}{p:Probe}(h:p.more=0)(hd:p.dummy=Qh):t.advance p=r4 t (G_ t.mask p.i p.perturb) (p.perturb/32):=by
 unfold advance;rw[Qp (by omega)];unfold leap r4;simp only[hd]
theorem xS(mask i pt:Nat):G_ mask i pt<=mask:=by
 have:=Wn (i*5+1+pt/32) (show mask+1>0 by omega);unfold G_;omega
theorem CI{t:Rx}(v:Pv t p):Pv t (t.advance p):=by
 by_cases q:0<p.more
 .rw[CJ q]
  exact⟨by have:=v.j;show p.j+1+(p.more-1)<=t.mask;omega,by have:=v.more;show p.more-1<=9;omega,v.i,v.pt,v.du⟩
 .rw[wS (by omega) v.du]
  exact pU (xS _ _ _) (Sn (Tk _ _) v.pt)
theorem lW:∀(n:Nat) {p:Probe},Pv t p->Pv t (fx t n p)
 |0,_,v=>v
 |n+1,_,v=>lW n (CI v)
theorem qA:∀(k:Nat) {p:Probe},Pv t p->k<=p.more->fx t k p={p with j:=p.j+k,more:=p.more-k}
 |0,p,v,h=>by cases p;rfl
 |k+1,p,v,h=>by
  rw[n5,qA k v (by omega)];rw[CJ (show 0<p.more-k by omega)];simp only[Probe.mk.injEq,and_true,true_and];omega
theorem n6{t:Rx}{p:Probe}(v:Pv t p):fx t (p.more+1) p=r4 t (G_ t.mask p.i p.perturb) (p.perturb/32):=by
 rw[n5,qA _ v (Qz _)];exact wS (Vl _) v.du
def bX(mask:Nat):Nat->Nat×Nat->Nat×Nat
 |0,x=>x
 |k+1,x=>bX mask k (G_ mask x.1 x.2,x.2/32)
theorem jl(mask:Nat):∀(k:Nat) (x:Nat×Nat),bX mask (k+1) x=(G_ mask (bX mask k x).1 (bX mask k x).2,(bX mask k x).2/32)
 |0,x=>rfl
 |k+1,x=>jl mask k _
theorem uP{t:Rx}:∀(k:Nat) {p:Probe},Pv t p->∃n,n<=10*(k+1)/\fx t n p=r4 t (bX t.mask (k+1) (p.i,p.perturb)).1 (bX t.mask (k+1) (p.i,p.perturb)).2
 |0,p,v=>⟨p.more+1,by have:=v.more;omega,n6 v⟩
 |k+1,p,v=>by
  obtain⟨n,hn,e⟩:=uP k v;have a:=lW n v;rw[e]at a;refine⟨n+((r4 t (bX t.mask (k+1) (p.i,p.perturb)).1 (bX t.mask (k+1) (p.i,p.perturb)).2).more+1),by have:=a.more;omega,?_⟩;rw[mQ,e,n6 a,jl t.mask (k+1)];rfl
def Mk(mask:Nat):Prop:=mask=7\/mask=31\/mask=127
noncomputable def F3(mask:Nat):Nat->Nat->Nat
 |0,i=>i
 |k+1,i=>F3 mask k ((i*5+1) % (mask+1))
theorem mH(mask:Nat):∀(a b i:Nat),F3 mask (a+b) i=F3 mask b (F3 mask a i)
 |0,b,i=>by rw[RX];rfl
 |a+1,b,i=>by
  rw[show a+1+b=(a+b)+1 by omega];exact mH mask a b _
def JK(mask:Nat):Bool:=(F3 mask (mask+1) 0==0)&&(Qy (mask+1)).all λj=>(Qy (mask+1)).any λk=>F3 mask k 0==j
theorem MO{mask:Nat}(h:Mk mask):JK mask=Qo:=by
 rcases h with rfl|rfl|rfl<;>decide +kernel
theorem wc{mask i j:Nat}(h:Mk mask)(l:i<=mask)(m:j<=mask):∃k,k<=mask/\F3 mask k i=j:=by
 have o:=MO h;unfold JK at o;rw[Q9,Uo,Tw]at o;obtain⟨g,ha⟩:=o;obtain⟨a,e,c⟩:=List.any_eq_true.mp (ha i (QW.mpr (by omega)));obtain⟨b,f,d⟩:=List.any_eq_true.mp (ha j (QW.mpr (by omega)));rw[Uo]at c d;have:=QW.mp e;have:=QW.mp f;by_cases q:a<=b
 .refine⟨b-a,by omega,?_⟩
  rw[<-c,<-mH,show a+(b-a)=b by omega,d]
 .refine⟨b+(mask+1)-a,by omega,?_⟩
  rw[<-c,<-mH,show a+(b+(mask+1)-a)=(mask+1)+b by omega,mH,g,d]
theorem lE(mask:Nat):∀(k i:Nat),bX mask k (i,0)=(F3 mask k i,0)
 |0,i=>rfl
 |k+1,i=>by
  show bX mask k (G_ mask i 0,0/32)=_;rw[show(0/32:Nat)=0 from rfl,lE mask k];rfl
theorem nR(mask:Nat):∀(a b:Nat) (x:Nat×Nat),bX mask (a+b) x=bX mask b (bX mask a x)
 |0,b,x=>by rw[RX];rfl
 |a+1,b,x=>by
  rw[show a+1+b=(a+b)+1 by omega];exact nR mask a b _
theorem nQ(mask:Nat):∀(k:Nat) (x:Nat×Nat),(bX mask k x).2=x.2/32^k
 |0,x=>by simp[bX]
 |k+1,x=>by
  rw[jl,nQ mask k x,YH,YI]
theorem vW(mask:Nat):∀(k:Nat) (x:Nat×Nat),x.1<=mask->(bX mask k x).1<=mask
 |0,x,h=>h
 |k+1,x,h=>by rw[jl];exact xS _ _ _
theorem Qd{t:Rx}(h:Mk t.mask)(v:Pv t p)(a:j<=t.mask):∃n,n<10*turns t.mask/\(fx t n p).j=j:=by
 have z:(bX t.mask 13 (p.i,p.perturb)).2=0:=by
  rw[nQ];exact Nat.div_eq_of_lt (QY v.pt (by decide))
 have l:=vW t.mask 13 (p.i,p.perturb) v.i;obtain⟨k,c,e⟩:=wc h l a;obtain⟨n,hn,b⟩:=uP (12+k) v;refine⟨n,by unfold turns;omega,?_⟩;rw[b];show(bX t.mask (12+k+1) (p.i,p.perturb)).1=j;rw[show 12+k+1=13+k by omega,nR,show bX t.mask 13 (p.i,p.perturb)=((bX t.mask 13 (p.i,p.perturb)).1,0)from RW rfl z,lE];exact e
abbrev Lv(t:Rx)(j:Nat):Prop:=∃k:Nat,t.place[k]?=on j
structure Tb (t:Rx) (hs:List Int):Prop where
 km:Mk t.mask
 sz:t.place.size=hs.length
 rs:Rs t.place
 le:∀i j:Nat,t.place[i]?=on j->j<=t.mask
 du:t.dummies=#[]
 nf:t.place.size*5<t.mask*3
 rch:∀(i:Nat) (h:Int) (j:Nat),hs[i]?=on h->t.place[i]?=on j->∃n,(fx t n (t.probeStart h)).j=j/\∀m<n,Lv t (fx t m (t.probeStart h)).j
theorem Mk.odd(h:Mk m):m % 2=1/\7<=m/\m<=127:=by
 rcases h with rfl|rfl|rfl<;>decide
theorem gap{xs:Array Nat}(r:Rs xs):∀n,n<=xs.size->(∀i:Nat,i<n->xs[i]?=on i)\/∃j,j<n/\∀i:Nat,xs[i]?≠on j
 |0,_=> .inl λi h=>QX h (S3 i)
 |n+1,h=>by
  rcases gap r n (by omega)with q|⟨j,c,b⟩
  .have e:xs[n]?=on xs[n]:=getElem?_pos xs n (by omega)
   by_cases z:xs[n]=n
   .refine .inl λi d=>?_
    by_cases w:i=n
    .subst w;rw[e,z]
    .exact q i (by omega)
   .have lt:n<=xs[n]:=by
     cases n with
     |zero=>omega
     |succ m=>
      have:=r m (m+1) _ _ (by omega) (q m (by omega)) e;omega
    refine .inr ⟨n,by omega,λi a=>?_⟩;rcases T6 i n with w|w|w
    .rw[q i w]at a;cases a;omega
    .subst w;rw[e]at a;exact z (Q7 a)
    .have:=r n i _ _ w e a
     omega
  .exact .inr ⟨j,by omega,b⟩
theorem Ni{xs:Array Nat}(r:Rs xs):∃j,j<=xs.size/\∀i:Nat,xs[i]?≠on j:=by
 rcases gap r xs.size (Qz _)with q|⟨j,c,a⟩
 .refine⟨xs.size,Qz _,λi e=>?_⟩
  have b:=(RM.mp e).1;rw[q i b]at e;cases e;omega
 .exact⟨j,by omega,a⟩
theorem J6{t:Rx}(r:Rs t.place)(d:t.dummies=#[]):∀(fuel:Nat) (p:Probe) (e:Nat),Pv t p->e<fuel->¬Lv t (fx t e p).j->
  ∃m,m<=e/\(∀a<m,∃i,t.place[i]?=on (fx t a p).j/\hashAt i≠h)/\
   ((¬Lv t (fx t m p).j/\probe.go t hashAt h fuel p=on (.empty (fx t m p).j Qh))\/∃i,t.place[i]?=on (fx t m p).j/\hashAt i=h/\probe.go t hashAt h fuel p=on (.candidate (fx t m p).j i (fx t (m+1) p)))
 |0,_,_,_,h,_=>QX h (S3 _)
 |fuel+1,p,e,v,hf,he=>by
  unfold probe.go;by_cases q:Lv t p.j
  .obtain⟨i,b⟩:=q
   rw[q0 r b];simp only;by_cases z:hashAt i=h
   .refine⟨0,RB _,λa hm=>QX hm (S3 _),.inr ⟨i,b,z,?_⟩⟩
    rw[Qt (by rw[Uo];exact z)];rfl
   .rw[Qp (by rw[Uo];exact z)]
    cases e with
    |zero=>exact QX ⟨i,b⟩ he
    |succ e=>
     obtain⟨m,hm,ha,c⟩:=J6 r d fuel (t.advance p) e (CI v) (by omega) he;refine⟨m+1,by omega,λa f=>?_,c⟩;cases a with
     |zero=>exact⟨i,b,z⟩
     |succ a=>exact ha a (by omega)
  .rw[xi d (λi b=>q ⟨i,b⟩)]
   refine⟨0,RB _,λa hm=>QX hm (S3 _),.inl ⟨q,?_⟩⟩;simp only[v.du];rfl
theorem Tb.free{t:Rx}(T:Tb t hs)(v:Pv t p):∃e,e<10*turns t.mask/\¬Lv t (fx t e p).j:=by
 obtain⟨j,f,a⟩:=Ni T.rs;have:=T.nf;have:=T.km.odd;obtain⟨e,b,c⟩:=Qd T.km v (show j<=t.mask by omega);exact⟨e,b,λ⟨k,d⟩=>a k (by rw[<-c];exact d)⟩
theorem AZ{α:Type}{xs:Array α}{p:Nat}{x:α}(b:p<=xs.size)(i:Nat):(insertAt xs p x)[i]?=if i<p then xs[i]? else if i=p then on x else xs[i-1]?:=by
 unfold insertAt;rw[Array.getElem?_append];have a:((xs.extract 0 p).push x).size=p+1:=by simp;omega
 rw[a];by_cases q:i<p
 .rw[Qt (by omega),Qt q,Y1,Zd]
  rw[Qp (by omega),Yp];simp;omega
 .by_cases z:i=p
  .subst z
   rw[Qt (by omega),Qp (by omega),Qt rfl,Y1,Zd];rw[Qt (by omega)]
  .rw[Qp (by omega),Qp q,Qp z,Yp]
   by_cases w:i-1<xs.size
   .rw[Qt (by omega)]
    congr 1;omega
   .rw[Qp (by omega),TH (by omega)]
theorem fS{α:Type}{xs:Array α}{p:Nat}{x:α}(a:p<=xs.size):(insertAt xs p x).size=xs.size+1:=by
 unfold insertAt;simp;omega
theorem Tb.put{t:Rx}{hs:List Int}(T:Tb t hs)(B:¬Lv t j)(hn:(fx t n (t.probeStart h)).j=j)(ha:∀m<n,Lv t (fx t m (t.probeStart h)).j)(nf:(t.place.size+1)*5<t.mask*3):
  (t.put j).1.dummies=#[]/\(t.put j).1.mask=t.mask/\(t.put j).1.place.size=t.place.size+1/\(t.put j).2<=t.place.size/\Tb (t.put j).1 (hs.take (t.put j).2++h::hs.drop (t.put j).2):=by
 obtain⟨b1,b2,b3⟩:=i8 (j:=j) T.rs;have hd:has t.dummies j=Qr:=by unfold has;rw[T.du];rfl
 have A:(t.put j).1.dummies=#[]:=by
  show(if has t.dummies j=Qo then _ else t.dummies)=#[];rw[hd,Qp Qx,T.du]
 have ep:(t.put j).1.place=insertAt t.place (below t.place j) j:=rfl;have g:=λi=>AZ (x:=j) b1 i;have lv:∀x,Lv t x->Lv (t.put j).1 x:=λx ⟨k,l⟩=>by
  by_cases q:k<below t.place j
  .exact⟨k,by rw[ep,g,Qt q];exact l⟩
  .exact⟨k+1,by rw[ep,g,Qp (by omega),Qp (by omega)];exact l⟩
 have it:∀m p,fx (t.put j).1 m p=fx t m p:=λm=>by
  induction m with
  |zero=>intro p;rfl
  |succ m ih=>intro p;exact ih (t.advance p)
 refine⟨A,rfl,by rw[ep,fS b1],b1,⟨T.km,?_,?_,?_,A,?_,?_⟩⟩
 .rw[ep,fS b1,T.sz]
  have:(t.put j).2<=hs.length:=by rw[<-T.sz];exact b1
  simp;omega
 .intro i k x y r c e
  rw[ep,g]at c e;have C:∀k,t.place[k]?≠on j:=λk l=>B ⟨k,l⟩;by_cases q1:i<below t.place j
  .rw[Qt q1]at c
   by_cases q2:k<below t.place j
   .rw[Qt q2]at e
    exact T.rs i k x y r c e
   .rw[Qp q2]at e
    by_cases q3:k=below t.place j
    .rw[Qt q3]at e;cases e
     exact b2 i x q1 c
    .rw[Qp q3]at e
     exact T.rs i (k-1) x y (by omega) c e
  .rw[Qp q1]at c
   rw[Qp (by omega),Qp (by omega)]at e;by_cases q3:i=below t.place j
   .rw[Qt q3]at c;cases c
    have J:=b3 (k-1) y (by omega) e;have:y≠j:=λz=>C (k-1) (by rw[e,z]);omega
   .rw[Qp q3]at c
    exact T.rs (i-1) (k-1) x y (by omega) c e
 .intro i x c
  rw[ep,g]at c;by_cases q1:i<below t.place j
  .rw[Qt q1]at c;exact T.le i x c
  .rw[Qp q1]at c
   by_cases q3:i=below t.place j
   .rw[Qt q3]at c;cases c
    have v:=lW n (nM t h);have:=v.j;show j<=t.mask;omega
   .rw[Qp q3]at c;exact T.le _ x c
 .rw[ep,fS b1];exact nf
 .intro i h' x F c
  have L:(t.put j).2<=hs.length:=by rw[<-T.sz];exact b1
  have u:(t.put j).2=below t.place j:=rfl;rw[ep,g]at c;have d:(if i<below t.place j then hs[i]? else if i=below t.place j then on h else hs[i-1]?)=on h':=by
   rw[<-F,u];by_cases q1:i<below t.place j
   .rw[Qt q1,Uj (by rw[Uf];omega),Yh q1]
   .rw[Qp q1,SM (by rw[Uf];omega),Uf,Nat.min_eq_left (by omega)]
    by_cases q3:i=below t.place j
    .rw[Qt q3,q3,Vl];rfl
    .rw[Qp q3,show i-below t.place j=(i-1-below t.place j)+1 by omega,Yr,ZD]
     congr 1;omega
  have f:∀o,hs[o]?=on h'->t.place[o]?=on x->∃n,(fx (t.put j).1 n ((t.put j).1.probeStart h')).j=x/\∀m<n,Lv (t.put j).1 (fx (t.put j).1 m ((t.put j).1.probeStart h')).j:=λo a b=>by
   obtain⟨H,I,u⟩:=T.rch o h' x a b;refine⟨H,by rw[it];exact I,λm hm=>?_⟩;rw[it];exact lv _ (u m hm)
  by_cases q1:i<below t.place j
  .rw[Qt q1]at c d
   exact f i d c
  .rw[Qp q1]at c d
   by_cases q3:i=below t.place j
   .rw[Qt q3]at c d
    cases c;cases d;refine⟨n,by rw[it];exact hn,λm hm=>?_⟩;rw[it];exact lv _ (ha m hm)
   .rw[Qp q3]at c d
    exact f (i-1) d c
theorem uQ{t u:Rx}(h:t.mask=u.mask):∀(n:Nat) (p:Probe),fx t n p=fx u n p
 |0,p=>rfl
 |n+1,p=>by
  show fx t n (t.advance p)=fx u n (u.advance p);have:t.advance p=u.advance p:=by unfold advance;rw[h]
  rw[this];exact uQ h n _
theorem xf{t u:Rx}(h:t.mask=u.mask)(x:Int):t.probeStart x=u.probeStart x:=by unfold probeStart;rw[h]
noncomputable abbrev tm(mask:Nat):Rx:={mask,place:=#[],dummies:=#[],finger:=0,led:=Qo,moves:=0,plain:=Qo}
noncomputable abbrev fr(owner:Array (Option Nat))(j:Nat):Bool:=(owner.getD j (on 0)).isNone
theorem mV{mask:Nat}{owner:Array (Option Nat)}:∀(fuel i pt:Nat),i<=mask->pt<2^64->(∃b,b<fuel/\fr owner (bX mask b (i,pt)).1=Qo)->
  ∃n,layClean.free mask owner fuel i pt=on (fx (tm mask) n (r4 (tm mask) i pt)).j/\fr owner (fx (tm mask) n (r4 (tm mask) i pt)).j=Qo/\∀m<n,fr owner (fx (tm mask) m (r4 (tm mask) i pt)).j=Qr
 |0,_,_,_,_,⟨b,h,_⟩=>QX h (S3 b)
 |fuel+1,i,pt,hi,hp,⟨b,hb,hf⟩=>by
  have v:=pU (t:=tm mask) hi hp;obtain⟨r1,B,C⟩:=rh hi;have f:(r4 (tm mask) i pt).more=runEnd mask i-i:=rfl;have d:∀k,k<=runEnd mask i-i->(fx (tm mask) k (r4 (tm mask) i pt)).j=i+k:=λk c=>by
   rw[qA k v c];rfl
  unfold layClean.free;split
  .rename_i k c
   obtain⟨g,l,o⟩:=List.find?_range_eq_some.mp c;have:=QW.mp l;refine⟨k,by rw[d k (by omega)],by rw[d k (by omega)];exact g,λm hm=>?_⟩;rw[d m (by omega)];have:=o m hm;simpa using this
  .rename_i c
   have hn:∀k,k<=runEnd mask i-i->fr owner (i+k)=Qr:=λk p=>by
    have:=List.find?_range_eq_none.mp c k (by omega);simpa using this
   cases b with
   |zero=>
    have r:=hn 0 (by omega);exact QX hf (by rw[show(bX mask 0 (i,pt)).1=i+0 from rfl,r];exact Qx)
   |succ b=>
    obtain⟨n,u,y,A⟩:=mV fuel (G_ mask i pt) (pt/32) (xS _ _ _) (Sn (Tk _ _) hp) ⟨b,by omega,hf⟩;have a:∀m,fx (tm mask) (runEnd mask i-i+1+m) (r4 (tm mask) i pt)=fx (tm mask) m (r4 (tm mask) (G_ mask i pt) (pt/32)):=λm=>by
     rw[mQ,<-f,n6 v];rfl
    refine⟨runEnd mask i-i+1+n,by rw[a];exact u,by rw[a];exact y,λm hm=>?_⟩;by_cases q:m<=runEnd mask i-i
    .rw[d m q];exact hn m q
    .obtain⟨e,rfl⟩:∃e,m=runEnd mask i-i+1+e:=⟨m-(runEnd mask i-i+1),by omega⟩
     rw[a];exact A e (by omega)
structure Ow (mask:Nat) (owner:Array (Option Nat)) (hs:List Int):Prop where
 sz:owner.size=mask+1
 lt:∀j k:Nat,owner[j]?=on (on k)->k<hs.length
 un:∀j j' k:Nat,owner[j]?=on (on k)->owner[j']?=on (on k)->j=j'
 cn:owner.toList.countP (·.isSome)=hs.length
 ex:∀(k:Nat) (h:Int),hs[k]?=on h->∃j n:Nat,owner[j]?=on (on k)/\(fx (tm mask) n ((tm mask).probeStart h)).j=j/\∀m<n,∃k':Nat,owner[(fx (tm mask) m ((tm mask).probeStart h)).j]?=on (on k')
theorem yh{mask:Nat}{owner:Array (Option Nat)}(hs:owner.size=mask+1){j:Nat}(b:j<=mask):(fr owner j=Qo↔owner[j]?=on Qh)/\(fr owner j=Qr↔∃k:Nat,owner[j]?=on (on k)):=by
 have e:owner[j]?=on owner[j]:=getElem?_pos owner j (by omega);have a:owner.getD j (on 0)=owner[j]:=by simp[Tl,show j<owner.size by omega]
 unfold fr;rw[a,e];cases owner[j]<;>simp
theorem Ow.step{mask:Nat}{owner:Array (Option Nat)}{hs:List Int}(O:Ow mask owner hs)(h:Int)(hm:Mk mask)(W:hs.length<=mask):
  ∃j,layClean.free mask owner (turns mask) (bits h % (mask+1)) (bits h)=on j/\Ow mask (owner.setIfInBounds j (on hs.length)) (hs++[h]):=by
 have u:bits h % (mask+1)<=mask:=by have:=Wn (bits h) (show mask+1>0 by omega);omega
 have⟨v,h1,h2⟩:∃v,v<=mask/\fr owner v=Qo:=by
  refine T5 λz=>?_;have all:∀a∈owner.toList,Option.isSome a=Qo:=λa ha=>by
   obtain⟨i,g,e⟩:=WJ ha;have L:i<owner.size:=by simpa using g
   have N:fr owner i=Qr:=by
    cases q:fr owner i with
    |false=>rfl
    |true=>exact QX ⟨i,by have:=O.sz;omega,q⟩ z
   obtain⟨k,A⟩:=(yh O.sz (show i<=mask by have:=O.sz;omega)).2.mp N;have:owner[i]?=on a:=by rw[<-TZ,Ql g,e]
   rw[this]at A;cases A;rfl
  have:=List.countP_eq_length.mpr all;rw[O.cn]at this;have:=O.sz;simp at*;omega
 have z:(bX mask 13 (bits h % (mask+1),bits h)).2=0:=by
  rw[nQ];exact Nat.div_eq_of_lt (QY (mY h) (by decide))
 have l:=vW mask 13 (bits h % (mask+1),bits h) u;obtain⟨k,A,e⟩:=wc hm l h1;have Q:fr owner (bX mask (13+k) (bits h % (mask+1),bits h)).1=Qo:=by
  rw[nR,show bX mask 13 (bits h % (mask+1),bits h)=((bX mask 13 (bits h % (mask+1),bits h)).1,0)from RW rfl z,lE];show fr owner (F3 mask k _)=Qo;rw[e];exact h2
 obtain⟨n,F,H,R⟩:=mV (owner:=owner) (turns mask) (bits h % (mask+1)) (bits h) u (mY h) ⟨13+k,by unfold turns;omega,Q⟩;have I:∀m,(fx (tm mask) m (r4 (tm mask) (bits h % (mask+1)) (bits h))).j<=mask:=λm=>by
  have:=(lW m (pU (t:=tm mask) u (mY h))).j;show _<=(tm mask).mask;omega
 generalize J:(fx (tm mask) n (r4 (tm mask) (bits h % (mask+1)) (bits h))).j=j at F H;have T:j<=mask:=by rw[<-J];exact I n
 have o:owner[j]?=on Qh:=(yh O.sz T).1.mp H;have p:j<owner.size:=by have:=O.sz;omega
 have set:∀x:Nat,(owner.setIfInBounds j (on hs.length))[x]?=if j=x then on (on hs.length)else owner[x]?:=λx=>by
  rw[Array.getElem?_setIfInBounds];by_cases q:j=x
  .rw[Qt q,Qt q,Qt p]
  .rw[Qp q,Qp q]
 refine⟨j,F,⟨by rw[Array.size_setIfInBounds];exact O.sz,λx k c=>?_,λx y k c f=>?_,?_,λk h' d=>?_⟩⟩
 .rw[set]at c
  rw[QV];by_cases q:j=x
  .rw[Qt q]at c;cases c;simp
  .rw[Qp q]at c
   have:=O.lt x k c;omega
 .rw[set]at c f
  by_cases q:j=x
  .rw[Qt q]at c;cases c
   by_cases r:j=y
   .omega
   .rw[Qp r]at f
    exact QX (O.lt y _ f) (Rv _)
  .rw[Qp q]at c
   by_cases r:j=y
   .rw[Qt r]at f;cases f
    exact QX (O.lt x _ c) (Rv _)
   .rw[Qp r]at f
    exact O.un x y k c f
 .rw[Array.toList_setIfInBounds,List.countP_set (by simpa using p),O.cn]
  have:owner.toList[j]'(by simpa using p)=Qh:=by
   have e:=getElem?_pos owner j p;rw[o]at e;rw[UQ];exact(Q7 e).symm
  rw[this];simp
 .by_cases q:k<hs.length
  .rw[Uj q]at d
   obtain⟨x,U,a1,a2,a3⟩:=O.ex k h' d;refine⟨x,U,?_,a2,λm hm=>?_⟩
   .rw[set,Qp (λw=>by subst w;rw[o]at a1;cases a1)];exact a1
   .obtain⟨B,b⟩:=a3 m hm
    exact⟨B,by rw[set,Qp (λw=>by rw[<-w,o]at b;cases b)];exact b⟩
  .have C:=(QI.mp d).1
   rw[QV,Ry]at C;have:k=hs.length:=by omega
   subst this;rw[SM (Qz _),Vl]at d;cases d;refine⟨j,n,by rw[set,Qt rfl],J,λm hm=>?_⟩;obtain⟨B,b⟩:=(yh O.sz (I m)).2.mp (R m hm);exact⟨B,by rw[qX,set,Qp (λw=>by rw[<-w,o]at b;cases b)];exact b⟩
theorem Ow.nil(mask:Nat):Ow mask (Array.replicate (mask+1) Qh) []:=by
 have g:∀x:Nat,(Array.replicate (mask+1) (Qh:Option Nat))[x]?=if x<mask+1 then on Qh else Qh:=λx=>Array.getElem?_replicate;refine⟨by simp,λj k h=>?_,λj b k h=>?_,by simp,λk h a=>by simp at a⟩
 .rw[g]at h
  split at h<;>cases h
 .rw[g]at h
  split at h<;>cases h
theorem uM{mask:Nat}(hm:Mk mask):∀(l:List Int) (owner:Array (Option Nat)) (hs:List Int),Ow mask owner hs->hs.length+l.length<=mask+1->∃a,l.foldl (λ(acc:Option (Array (Option Nat)×Nat)) h=>do
   let (owner,k) <-acc
   let j <-layClean.free mask owner (turns mask) (bits h % (mask+1)) (bits h)
   SY (owner.setIfInBounds j (on k),k+1)) (on (owner,hs.length))=on (a,hs.length+l.length)/\Ow mask a (hs++l)
 |[],owner,hs,O,_=>⟨owner,rfl,by rw[RJ];exact O⟩
 |h::l,owner,hs,O,hl=>by
  rw[QP]at hl;obtain⟨j,e,d⟩:=O.step h hm (by omega);obtain⟨f,b,c⟩:=uM hm l _ (hs++[h]) d (by rw[QV,Ry];omega);refine⟨f,?_,by rw[Sa]at c;exact c⟩;rw[List.foldl_cons];simp only[Option.bind_eq_bind,UN,e];rw[QV,Ry]at b;rw[QP,show hs.length+(l.length+1)=hs.length+1+l.length by omega];exact b
theorem M6{mask:Nat}(hm:Mk mask)(hs:Array Int)(b:hs.size<=mask+1):∃owner,layClean mask hs=on owner/\Ow mask owner hs.toList:=by
 obtain⟨o,e,O⟩:=uM hm hs.toList _ [] (Ow.nil mask) (by simpa using b);refine⟨o,?_,O⟩;unfold layClean;rw[<-Array.foldl_toList];have a:=e;simp only[Xy]at a;exact(RE (Option.map (·.1)) a).trans rfl
theorem uW{α β:Type}{f:α->Option β}{g:α->β}:∀{l:List α},(∀a∈l,f a=on (g a))->l.filterMap f=l.map g
 |[],_=>rfl
 |a::l,h=>by
  rw[Sv,h a Qq,QB,uW λb c=>h b (Qk a c)]
noncomputable def bT(mask:Nat)(owner:Array (Option Nat)):List (Nat×Nat):=(Qy (mask+1)).filterMap λj=>(owner.getD j Qh).map (j,·)
theorem EN{mask:Nat}{owner:Array (Option Nat)}(hs:owner.size=mask+1){j k:Nat}:(j,k)∈bT mask owner↔owner[j]?=on (on k):=by
 unfold bT;rw[Vp];constructor
 .rintro⟨x,c,e⟩
  have d:=QW.mp c;have a:owner.getD x Qh=owner[x]:=by simp[Tl,show x<owner.size by omega]
  rw[a]at e;cases q:owner[x]with
  |none=>rw[q]at e;cases e
  |some f=>
   rw[q]at e;simp only[Sh,Yk,Prod.mk.injEq]at e;obtain⟨rfl,rfl⟩:=e;rw[getElem?_pos owner x (by omega),q]
 .intro e
  have b:=(RM.mp e).1;refine⟨j,QW.mpr (by omega),?_⟩;have a:owner.getD j Qh=owner[j]:=by simp[Tl,b]
  rw[getElem?_pos owner j b]at e;rw[a,Q7 e];rfl
theorem AH(mask:Nat)(owner:Array (Option Nat)):(bT mask owner).Pairwise λa b=>a.1<b.1:=by
 unfold bT;refine List.Pairwise.filterMap _ (λa f h b d g c=>?_) List.pairwise_lt_range;cases q:owner.getD a Qh with
 |none=>rw[q]at d;cases d
 |some k=>
  rw[q]at d;cases e:owner.getD f Qh with
  |none=>rw[e]at c;cases c
  |some i=>
   rw[e]at c;cases d;cases c;exact h
theorem zx{t:Rx}{hs:Array Int}(hm:Mk (sizeAbove wanted-1))(nf:hs.size*5<(sizeAbove wanted-1)*3):
  ∃(t':Rx) (c:Array Nat),t.relaid hs wanted=on (t',c)/\c.toList.Perm (Qy hs.size)/\Tb t' (c.toList.map λk=>hs.getD k 0)/\t'.led=t.led/\t'.plain=t.plain:=by
 have ho:=hm.odd;obtain⟨owner,e,O⟩:=M6 hm hs (by omega);generalize T:sizeAbove wanted-1=mask at*;have d:hs.toList.length=hs.size:=by simp
 have f:=AH mask owner;have g:∀{j k:Nat},(j,k)∈bT mask owner↔owner[j]?=on (on k):=EN O.sz;have U:t.relaid hs wanted=on ({mask,place:=((bT mask owner).map (·.1)).toArray,dummies:=#[],finger:=t.finger,led:=t.led,moves:=t.movedTo mask,plain:=t.plain},((bT mask owner).map (·.2)).toArray):=by
  unfold relaid laid;rw[T,e];rfl
 have perm:((bT mask owner).map (·.2)).Perm (Qy hs.size):=by
  refine(List.perm_ext_iff_of_nodup ?_ V4).mpr λk=>?_
  .unfold List.Nodup
   rw[VH];refine List.Pairwise.imp_of_mem (R:=λa b=>a.1<b.1) (λ{a b} ha B h z=>?_) f;obtain⟨j,k⟩:=a;obtain⟨r,v⟩:=b;have W:k=v:=z;subst W;have:=O.un j r k (g.mp ha) (g.mp B);have h':j<r:=h;omega
  .rw[QC,QW]
   constructor
   .rintro⟨⟨j,v⟩,h,rfl⟩
    have:=O.lt j v (g.mp h);rwa[d]at this
   .intro A
    obtain⟨j,n,C,_⟩:=O.ex k _ (Ql (by rw[d];exact A));exact⟨(j,k),g.mpr C,rfl⟩
 have l:(bT mask owner).length=hs.size:=by
  have:=perm.length_eq;rwa[Qi,Q6]at this
 refine⟨_,_,U,by simpa using perm,?_,rfl,rfl⟩;have pg:∀{i:Nat} {x:Nat},(((bT mask owner).map (·.1)).toArray)[i]?=on x->∃k,(bT mask owner)[i]?=on (x,k):=λ{i x} h=>by
  rw[Ws,Qu]at h;cases q:(bT mask owner)[i]? with
  |none=>rw[q]at h;cases h
  |some a=>
   rw[q]at h;cases h;exact⟨a.2,rfl⟩
 have F:∀{j k:Nat},owner[j]?=on (on k)->∃i:Nat,(((bT mask owner).map (·.1)).toArray)[i]?=on j:=λ{j k} h=>by
  obtain⟨i,X,Y⟩:=WJ (g.mpr h);exact⟨i,by rw[Ws,Qu,Ql X,Y];rfl⟩
 refine⟨hm,?_,?_,?_,rfl,?_,?_⟩
 .show(((bT mask owner).map (·.1)).toArray).size=_
  simp
 .intro i k x y H Z hy
  obtain⟨a,ha⟩:=pg Z;obtain⟨b,B⟩:=pg hy;obtain⟨C,I⟩:=QI.mp ha;obtain⟨h2,e2⟩:=QI.mp B;have:=Te.mp f i k C h2 H;rw[I,e2]at this;exact this
 .intro i j h
  obtain⟨a,ha⟩:=pg h;have:=(RM.mp (g.mp (Q1 ha))).1;have:=O.sz;show j<=mask;omega
 .show(((bT mask owner).map (·.1)).toArray).size*5<mask*3
  have:(((bT mask owner).map (·.1)).toArray).size=hs.size:=by simp[l]
  omega
 .intro i h j J hj
  obtain⟨k,A⟩:=pg hj;have o:=g.mp (Q1 A);have eh:hs.toList[k]?=on h:=by
   rw[Qu]at J;have I:((bT mask owner).map (·.2)).toArray.toList[i]?=on k:=by
    show((bT mask owner).map (·.2))[i]?=_;rw[Qu,A];rfl
   rw[I]at J;have N:k<hs.size:=by have:=O.lt j k o;rwa[d]at this
   have:hs.getD k 0=h:=Q7 J;rw[TZ,getElem?_pos hs k N,<-this];simp[Tl,N]
  obtain⟨r,n,a1,a2,a3⟩:=O.ex k h eh;have:=O.un j r k o a1;subst this;have tr:∀(u:Rx),u.mask=mask->∀m,fx u m (u.probeStart h)=fx (tm mask) m ((tm mask).probeStart h):=λu Q m=>by
   rw[xf (u:=tm mask) Q,uQ (u:=tm mask) Q]
  refine⟨n,by rw[tr _ rfl];exact a2,λm L=>?_⟩;rw[tr _ rfl];obtain⟨v,p⟩:=a3 m L;exact F p
theorem rm{t:Rx}(a:t.probe f h p=r)(T:Tb t hs)(v:Pv t p)(b:e<10*turns t.mask)(c:¬Lv t (fx t e p).j):
  ∃m,m<=e/\(∀d<m,∃i,t.place[i]?=on (fx t d p).j/\f i≠h)/\
   ((¬Lv t (fx t m p).j/\r=on (.empty (fx t m p).j Qh))\/∃i,t.place[i]?=on (fx t m p).j/\f i=h/\r=on (.candidate (fx t m p).j i (fx t (m+1) p))):=by
 subst a;exact J6 T.rs T.du _ p e v b c
section
variable{prog:Rc}{w:Ro}{A:RG}{E:Qv->QA->Prop}{s:QA}
noncomputable abbrev hU(prog:Rc)(w:Ro):HeapKind prog w (List Int):=tupleKind (WE prog w)
noncomputable abbrev hsh(prog:Rc)(w:Ro)(k:List Int):Int:=(hU prog w).hash k
theorem Tb.fits{t:Rx}{hs:List Int}(T:Tb t hs)(hn:hs.length=n):t.fits n=Qo:=by
 have:=T.nf;have:=T.sz;have:=T.km.odd;unfold XF SetTable.fill;rw[T.du];simp;omega
theorem items_int(h:ItemsAre (WE prog w) ks vs):∀v∈vs,∃n t,v=Ud n t:=by
 induction h with
 |nil=>intro v hv;cases hv
 |@cons k v' ks vs h1 _ ih=>
  intro v hv;rcases QD.mp hv with rfl|hv
  .obtain⟨t,e⟩:=W1 h1
   exact⟨_,t,e⟩
  .exact ih v hv
theorem yO{M:Model}{o:Q0}(b:s.heap.get? a=on o)(h:Q o.cls s):QJ M A (typeOf (.ref a)) Q E s:=by
 show QJ M A (loadPart a _>>=_) Q E s;exact My (wpAny_loadPart b (Qj h))
theorem ux(e:(hU prog w).is s.heap k x)(h:Q Qr s):QJ (Q4 prog w) A (XR 8 (.ref x)) Q E s:=by
 obtain⟨o,items,n,d,hc,hd,f⟩:=e;unfold XR;refine My (yO d ?_);rw[hc];simp only[beq_self_eq_true,RF];refine My (Qj ?_);simp only[S7,QS,RH];refine My (SF d hd ?_);refine My ?_;show QJ _ _ (YT items _ _) _ _ s;rw[<-Uu];refine Wu _ (λrest r s'=>r.1=Qh/\s'=s/\∀v∈rest,∃n t,v=Ud n t) _ ?_ ?_ _ _ ⟨rfl,rfl,items_int f⟩
 .rintro v rest r s' ⟨b,rfl,a⟩
  obtain⟨n,t,rfl⟩:=a v Qq;unfold XR;refine My (Qj ?_);simp only[QS,RH];exact Qj ⟨rfl,rfl,λu c=>a u (Qk _ c)⟩
 .rintro⟨r1,g⟩ s' ⟨b,rfl,_⟩
  simp only at b;subst b;exact Qj h
theorem FT(d:(hU prog w).is s.heap k x)(h:Q Qo s):QJ (Q4 prog w) A (hashByValue 8 (.ref x)) Q E s:=by
 have e:=Yq (s:=s) d;obtain⟨o,items,n,f,hc,hd,g⟩:=d;unfold hashByValue;refine My (Tu e F.slot_tuple_hash.lookup ?_);simp only;refine My (SF f hd ?_);refine My ?_;show QJ _ _ (YT items _ _) _ _ s;rw[<-Uu];refine Wu _ (λrest r s'=>r.1=Qh/\s'=s/\∀v∈rest,∃n t,v=Ud n t) _ ?_ ?_ _ _ ⟨rfl,rfl,items_int g⟩
 .rintro v rest r s' ⟨b,rfl,a⟩
  obtain⟨n,t,rfl⟩:=a v Qq;unfold hashByValue;refine My (Qj ?_);simp only[S7,QS,RH];exact Qj ⟨rfl,rfl,λu c=>a u (Qk _ c)⟩
 .rintro⟨r1,i⟩ s' ⟨b,rfl,_⟩
  simp only at b;subst b;exact Qj h
theorem K5(f:(hU prog w).is s.heap k x):∀(l:List (List Int×Qs)) {Q:Bool->QA->Prop},(∀y∈l,(hU prog w).is s.heap y.1 y.2)->Q Qr s->QJ (Q4 prog w) A (XT (.ref x) (l.map λy=>QU y.2)) Q E s:=by
 intro l Q h i;unfold XT;refine My ?_;refine Wu _ (λrest r s'=>r.1=Qh/\s'=s/\∃b:List (List Int×Qs),rest=b.map (λy=>QU y.2)/\∀y∈b,(hU prog w).is s.heap y.1 y.2) _ ?_ ?_ _ _ ⟨rfl,rfl,l,rfl,h⟩
 .rintro v rest r s' ⟨d,rfl,b,e,a⟩
  cases b with
  |nil=>cases e
  |cons y b=>
   cases e;have g:=a y Qq;have nxt:(Qh:Option Bool)=Qh/\s'=s'/\∃c:List (List Int×Qs),b.map (λy=>QU y.2)=c.map (λy=>QU y.2)/\∀y∈c,(hU prog w).is s'.heap y.1 y.2:=⟨rfl,rfl,b,rfl,λu j=>a u (Qk y j)⟩;by_cases q:x==y.2
   .simp only[q,Bool.true_or,RF]
    exact Qj nxt
   .simp only[q,Bool.false_or,carriedByValue,Wv,QS,RH]
    refine My ((hU prog w).quiet f ?_);simp only[S7,QS,RH];refine My ((hU prog w).quiet g ?_);simp only[S7,QS,RH];refine My (ux f ?_);simp only[QS,RH];refine My (ux g ?_);simp only[QS,RH];exact Qj nxt
 .rintro⟨r1,m⟩ s' ⟨d,rfl,_⟩
  simp only at d;subst d;exact Qj i
theorem ze{o:Q0}{es:Array (Int×Qv)}{t:Rx}{xs:List (List Int×Qs)}(hu:A.units<U4)(ho:s.heap.get? a=on o)(hd:o.data= .set es ep t)
  (H:es.toList=xs.map λx=>(hsh prog w x.1,QU x.2)) (hx:∀x∈xs,(hU prog w).is s.heap x.1 x.2) (T:Tb t (xs.map λx=>hsh prog w x.1)) (hk:(hU prog w).is s.heap k b)
  (he:e<10*turns t.mask) (U:¬Lv t (fx t e (t.probeStart (hsh prog w k))).j) (ha:∀m<e,Lv t (fx t m (t.probeStart (hsh prog w k))).j)
  (q1:k∈xs.map (·.1)->Q (.there Qh) s) (q2:k∉xs.map (·.1)->Q (.free (fx t e (t.probeStart (hsh prog w k))).j Qr) s):
  ∀(n c m:Nat) (st:Option Probe),e=m+n->n<c->st.getD (t.probeStart (hsh prog w k))=fx t m (t.probeStart (hsh prog w k))->(∀g<m,∀(i:Nat) x,t.place[i]?=on (fx t g (t.probeStart (hsh prog w k))).j->xs[i]?=on x->x.1≠k)->
   QJ (Q4 prog w) A (setSearchFrom a (.ref b) (hsh prog w k) Qo c st) Q E s:=by
 have hsz:es.size=xs.length:=by rw[<-Ri,H,Qi]
 have W:t.fits es.size=Qo:=T.fits (by rw[Qi,hsz]);have l:∀i:Nat,es[i]?=(xs[i]?).map λx=>(hsh prog w x.1,QU x.2):=λi=>by rw[<-TZ,H,Qu]
 have gw:t.gaveWay=Qr:=by
  have:=T.km.odd;unfold SetTable.gaveWay;rw[Ys];omega
 intro n
 induction n using XM with
 |_ n ih=>
  intro c m st em hfu hst p;cases c with
  |zero=>omega
  |succ c=>
   unfold setSearchFrom;refine My (SC ho hd W ?_)
   dsimp only
   rw[hst,gw];simp only[QS,RH];have v:=lW m (nM t (hsh prog w k));have it:∀n',fx t n' (fx t m (t.probeStart (hsh prog w k)))=fx t (m+n') (t.probeStart (hsh prog w k)):=λn'=>(mQ t m n' _).symm;have same:∀{i O j:Nat},t.place[i]?=on j->t.place[O]?=on j->i=O:=λ{i O j} u C=>by
    rcases T6 i O with q|q|q
    .exact QX (T.rs i O j j q u C) (Rv j)
    .exact q
    .exact QX (T.rs O i j j q C u) (Rv j)
   split
   .rename_i X heq
    obtain⟨g,hm',r,d⟩:=rm heq T v (e:=n) (by omega) (by rw[it,<-em];exact U);rcases d with⟨Y,I⟩|⟨i,R,hfi,I⟩
    .cases I
     have Z:g=n:=by
      rcases Vi g n with q|q
      .rw[it]at Y
       exact QX (ha (m+g) (by omega)) Y
      .omega
     subst Z;refine Qj ?_;rw[it,<-em];refine q2 λhmem=>?_;obtain⟨x,hx1,J⟩:=QC.mp hmem;obtain⟨B,hi0,ei0⟩:=WJ hx1;have h:xs[B]?=on x:=by rw[Ql hi0,ei0]
     have L:B<t.place.size:=by have:=T.sz;rw[Qi]at this;omega
     obtain⟨F,a1,a2⟩:=T.rch B (hsh prog w k) t.place[B] (by rw[Qu,h,<-J];rfl) (getElem?_pos t.place B L);have hlt:F<e:=by
      rcases T6 F e with q|q|q
      .exact q
      .subst q
       exact QX ⟨B,by rw[a1];exact getElem?_pos t.place B L⟩ U
      .exact QX (a2 e q) U
     have hp0:t.place[B]?=on (fx t F (t.probeStart (hsh prog w k))).j:=by rw[a1];exact getElem?_pos t.place B L
     by_cases q:F<m
     .exact p F q B x hp0 h J
     .obtain⟨i,u,C⟩:=r (F-m) (by omega)
      rw[it,show m+(F-m)=F by omega]at u;have:=same u hp0;subst this;refine C ?_;show(es[i]?.map (·.1)).getD 0=_;rw[l,h,<-J];rfl
    .cases I
     have N:i<xs.length:=by
      have u:=(RM.mp R).1;have:=T.sz;rw[Qi]at this;omega
     have h:xs[i]?=on xs[i]:=Ql N;have hei:es[i]?=on (hsh prog w xs[i].1,QU xs[i].2):=by rw[l,h];rfl
     have hxk:=hx xs[i] (Rp N);rw[it]at R;simp only;have el:(SA (λx=>x.snd) (Array.filter (λx=>x.fst==hsh prog w k) es).toList)=(xs.filter λy=>hsh prog w y.1==hsh prog w k).map λy=>QU y.2:=by
      rw[Array.toList_filter,H,List.filter_map,QG];rfl
     rw[el];have seen:∀{Q':Bool->QA->Prop},Q' Qr s->QJ (Q4 prog w) A (XT (.ref b) ((xs.filter λy=>hsh prog w y.1==hsh prog w k).map λy=>QU y.2)) Q' E s:=λhq=>K5 hk _ (λy hy=>hx y (Sm.mp hy).1) hq;have sm:t.sameMemory t.moves t.mask=on Qo:=by unfold sameMemory;simp
     have sl:t.slot (fx t (m+g) (t.probeStart (hsh prog w k))).j= .live i:=q0 T.rs R;cases hled:t.led
     all_goals simp only[XW,S7,QS,RF,RH,it,hei]
     all_goals try refine My (seen ?_)
     all_goals try simp only[QS,RH]
     all_goals
      refine My (R3 ((hU prog w).eqBool hu hxk hk (My (SC ho hd W ?_))));simp only[VO];by_cases q:xs[i].1=k
      .rw[Qt (QL q)]
       exact Qj (q1 (QC.mpr ⟨xs[i],Rp N,q⟩))
      .rw[Qp (by simpa using q)]
       simp only[sm,RF,sl,hei];refine My ?_;unfold isSame;simp only[beq_self_eq_true,RF];refine Qj (My (Qj ?_));simp only[RF];rw[Qp (by simpa using q)];have Z:g<n:=by
        rcases Vi g n with z|z
        .exact z
        .obtain rfl:g=n:=by omega
         rw[<-em]at R;exact QX ⟨i,R⟩ U
       refine ih (n-(g+1)) (by omega) c (m+g+1) _ (by omega) (by omega) rfl λm2 hm2 i2 x2 u C z=>?_;by_cases q1:m2<m
       .exact p m2 q1 i2 x2 u C z
       .by_cases q2:m2=m+g
        .subst q2
         have:=same R u;subst this;rw[h]at C;cases C;exact q z
        .obtain⟨i3,h3,h4⟩:=r (m2-m) (by omega)
         rw[it,show m+(m2-m)=m2 by omega]at h3;have:=same h3 u;subst this;refine h4 ?_;show(es[i3]?.map (·.1)).getD 0=_;rw[l,C,<-z];rfl
   .rename_i hno
    have key:∀f:Nat->Int,(∀X,t.probe f (hsh prog w k) (fx t m (t.probeStart (hsh prog w k)))=on X->False)->False:=λf W=>by
     obtain⟨g,hm',r,d⟩:=rm (f:=f) rfl T v (e:=n) (by omega) (by rw[it,<-em];exact U);rcases d with⟨_,I⟩|⟨i,_,_,I⟩
     .exact W _ I
     .exact W _ I
    exact(key _ hno).elim
theorem PC{P:Nat->Prop}:∀n,P n->∃m,m<=n/\P m/\∀k<m,¬P k:=by
 intro n
 induction n using XM with
 |_ n ih=>
  intro h;by_cases q:∃k,k<n/\P k
  .obtain⟨k,a,b⟩:=q
   obtain⟨m,d,c⟩:=ih k a b;exact⟨m,by omega,c⟩
  .exact⟨n,Qz n,h,λk a b=>q ⟨k,a,b⟩⟩
def qO(prog:Rc)(w:Ro)(h:RQ)(a:Qs)(xs:List (List Int×Qs)):Prop:=
 ∃o es ep t,h.get? a=on o/\o.ExactSet/\o.data= .set es ep t/\(es.toList=xs.map λx=>(hsh prog w x.1,QU x.2))/\(xs.map (·.1)).Nodup/\(∀x∈xs,(hU prog w).is h x.1 x.2)/\(Tb t (xs.map λx=>hsh prog w x.1))/\t.plain=Qo/\t.led=!(w.params.followText "set-order")
theorem oz{h h':RQ}{o:Q0}{es ep t}(x:(hU prog w).is h k b)(g:h.get? a=on o)(hd:o.data= .set es ep t)(hs:Rb a h h'):(hU prog w).is h' k b:=by
 obtain⟨f,items,n,d,hc,c,i⟩:=x;have e:b≠a:=by
  rintro rfl;obtain rfl:f=o:=Q7 (d.symm.trans g);rw[hd]at c;exact nomatch c
 exact⟨f,items,n,(hs.2 b e).trans d,hc,c,i⟩
theorem qW{h:RQ}{o:Q0}(c:h.get? a=on o)(hd:o.data= .set es ep t)(b:Array (Int×Qv))(t':Rx):(h.update a (Wo b t')).get? a=on {o with data:= .set b (ep+1) t'}:=by
 have:=T1 (Wo b t') c (by rw[putSet_of b t' hd];rfl);rw[putSet_of b t' hd]at this;exact this
theorem MA{t:Rx}(T:Tb t hs)(j:Nat):(t.put j).1.dummies=#[]/\(t.put j).1.place.size=t.place.size+1/\(t.put j).2<=t.place.size:=by
 obtain⟨b1,b2,b3⟩:=i8 (j:=j) T.rs;have hd:has t.dummies j=Qr:=by unfold has;rw[T.du];rfl
 refine⟨?_,fS b1,b1⟩;show(if has t.dummies j=Qo then _ else t.dummies)=#[];rw[hd,Qp Qx,T.du]
theorem Ln{α β:Type}{xs:List α}{ys:Array β}{f:α->β}(e:ys.toList=xs.map f){p:Nat}(c:p<=ys.size)(x:α):(insertAt ys p (f x)).toList=(xs.take p++x::xs.drop p).map f:=by
 unfold insertAt;simp only[Array.toList_append,ZB,Array.toList_extract];have a:(ys.toList.extract 0 p)=ys.toList.take p:=by simp[List.extract]
 have b:(ys.toList.extract p ys.size)=ys.toList.drop p:=by
  simp only[List.extract];rw[S6 (by simp)]
 rw[a,b,e,Rg,QB,WO,UT,Sa];rfl
theorem Oy{xs:List (List Int×Qs)}(hu:A.units<U4)(S:qO prog w s.heap a xs)(hk:(hU prog w).is s.heap k b)(hn:xs.length<63)
  (h:∀h' q,Rb a s.heap h'->qO prog w h' a q->(k∈xs.map (·.1)->q=xs)->(k∉xs.map (·.1)->q.Perm ((k,b)::xs))->Q (decide (k∉xs.map (·.1))) {s with heap:=h'}):
  QJ (Q4 prog w) A (setAddHashed a (.ref b) (hsh prog w k)) Q E s:=by
 have S0:=S;obtain⟨o,es,ep,t,U,X,hd,W,hnd,hx,T,hp,J⟩:=S;have F:es.size=xs.length:=by rw[<-Ri,W,Qi]
 have hf:t.fits es.size=Qo:=T.fits (by rw[Qi,F]);have Y:t.place.size=xs.length:=by rw[T.sz,Qi]
 obtain⟨e0,he0,hl0⟩:=T.free (nM t (hsh prog w k));obtain⟨e,hee,hl,Z⟩:=PC (P:=λe=>¬Lv t (fx t e (t.probeStart (hsh prog w k))).j) e0 hl0;have ha:∀m<e,Lv t (fx t m (t.probeStart (hsh prog w k))).j:=λm hm=>Classical.not_not.mp (Z m hm);have hmk:=T.km.odd;unfold setAddHashed setAddHashedIn;refine R3 (My (SC U hd hf ?_));have hb:byScan (QU b) es=Qr:=rfl;simp only[hb,QS,RH];refine My ?_;unfold setSearch;refine ze (e:=e) hu U hd W hx T hk (by omega) hl ha (λhm=>?_) (λhm=>?_) e 100000 0 Qh (by omega) (by unfold turns at he0;omega) rfl (λm' hm'=>QX hm' (S3 _))
 .refine Qj ?_
  have:=h s.heap xs (Rb.refl a s.heap) S0 (λ_=>rfl) (λz=>QX hm z);rw[Rk (λz=>z hm)]at this;exact this
 .have hQ:∀h' q,Rb a s.heap h'->qO prog w h' a q->q.Perm ((k,b)::xs)->Q Qo {s with heap:=h'}:=λh' q h1 h2 h3=>by
   have:=h h' q h1 h2 (λz=>QX z hm) (λ_=>h3);rwa[QL hm]at this
  simp only;refine My (SC U hd hf ?_);generalize hj:(fx t e (t.probeStart (hsh prog w k))).j=j at hl;obtain⟨pd,ps,pl⟩:=MA T j;generalize y:t.put j=tp at pd ps pl;obtain⟨u,p⟩:=tp;simp only at pd ps pl⊢;have l:u.plain=Qo:=by
   have:(t.put j).1.plain=t.plain:=rfl;rw[y]at this;rw[this,hp]
  have L:u.led=t.led:=by
   have:(t.put j).1.led=t.led:=rfl;rw[y]at this;exact this
  have v:u.mask=t.mask:=by
   have:(t.put j).1.mask=t.mask:=rfl;rw[y]at this;exact this
  rw[l];simp only[RF];refine My (FT hk ?_);simp only[RF];have N:=Ln (f:=λx:List Int×Qs=>(hsh prog w x.1,QU x.2)) W (p:=p) (by omega) (k,b);have B:(insertAt es p (hsh prog w k,QU b)).size=es.size+1:=fS (by omega);have d:(xs.take p++(k,b)::xs.drop p).Perm ((k,b)::xs):=by
   have:=List.perm_middle (a:=(k,b)) (l₁:=xs.take p) (l₂:=xs.drop p);rwa[T3]at this
  have nd1:((xs.take p++(k,b)::xs.drop p).map (·.1)).Nodup:=by
   refine(d.map (·.1)).nodup_iff.mpr ?_;rw[QB,Rf];exact⟨hm,hnd⟩
  refine My (wpAny_storeSet_of U hd ?_ (by rw[B,SU];omega));have H:=Si s.heap a (Wo (insertAt es p (hsh prog w k,QU b)) u);have g1:=qW U hd (insertAt es p (hsh prog w k,QU b)) u;have hx1:∀x∈xs.take p++(k,b)::xs.drop p,(hU prog w).is (s.heap.update a (Wo (insertAt es p (hsh prog w k,QU b)) u)) x.1 x.2:=λx hx'=>by
   rcases QD.mp (d.mem_iff.mp hx')with rfl|hx'
   .exact oz hk U hd H
   .exact oz (hx x hx') U hd H
  by_cases r:u.tooFull=Qo
  .simp only[r,XW,UR,RF]
   have fu:u.fill*5≥u.mask*3:=by unfold tooFull at r;exact RI r
   have fe:u.fill=xs.length+1:=by unfold fill;rw[pd,ps,Y];rfl
   have nf0:=T.nf;have f1:u.fits (insertAt es p (hsh prog w k,QU b)).size=Qo:=by
    unfold XF;rw[B,fe,ps,Y,F,v];simp;omega
   have wm:Mk (sizeAbove (grown (es.size+1))-1)/\(es.size+1)*5<(sizeAbove (grown (es.size+1))-1)*3/\sizeAbove (grown (es.size+1))<=128:=by
    rw[fe,v]at fu;rw[F];rcases T.km with z|z|z
    .have:xs.length=4:=by omega
     rw[this];exact⟨.inr (.inl (by decide)),by decide,by decide⟩
    .have:xs.length=18:=by omega
     rw[this];exact⟨.inr (.inr (by decide)),by decide,by decide⟩
    .omega
   have C:(Array.map (λx=>x.fst) (insertAt es p (hsh prog w k,QU b))).size=es.size+1:=by rw[Array.size_map,B]
   obtain⟨t2,c,er,op,T2,led2,I⟩:=zx (t:=u) (hs:=(insertAt es p (hsh prog w k,QU b)).map (·.1)) (wanted:=grown (es.size+1)) wm.1 (by rw[C];exact wm.2.1);refine My ?_;unfold setRelay;refine My (SC g1 rfl f1 ?_);simp only;rw[Qp (by rw[SU];omega)];rw[er];generalize hE1:insertAt es p (hsh prog w k,QU b)=es1 at*;generalize hX1:xs.take p++(k,b)::xs.drop p=xs1 at*;have l1:xs1.length=es.size+1:=by rw[d.length_eq,QP,F]
   have O:∀i,i<xs1.length->es1[i]?=on (hsh prog w (xs1.getD i (k,b)).1,QU (xs1.getD i (k,b)).2):=λi R=>by
    rw[<-TZ,N,Qu,Ql R,Qn,Ql R];rfl
   have om:∀i∈c.toList,i<xs1.length:=λi R=>by
    have:=QW.mp (op.mem_iff.mp R);rw[C]at this;omega
   have efl:(c.filterMap λx=>es1[x]?).toList=(c.toList.map λi=>xs1.getD i (k,b)).map λx=>(hsh prog w x.1,QU x.2):=by
    rw[Array.toList_filterMap,uW (g:=λi=>(hsh prog w (xs1.getD i (k,b)).1,QU (xs1.getD i (k,b)).2)) λi R=>O i (om i R),QG];rfl
   have n:(c.toList.map λi=>xs1.getD i (k,b)).Perm xs1:=by
    refine(op.map _).trans (WW ?_);rw[C,<-l1];refine SH (by simp) λi h1 h2=>?_;rw[SQ,S9,Qn,Ql h2];rfl
   have fsz:(c.filterMap λx=>es1[x]?).size=es1.size:=by
    rw[<-Ri,efl,Qi,n.length_eq,l1,B]
   refine My ?_;show QJ _ _ (if((c.filterMap λx=>es1[x]?).size !=es1.size)=Qo then _ else _) _ _ _;rw[Qp (by rw[fsz];simp)];refine Qj ?_;refine wpAny_storeSet_of g1 rfl ?_ (by rw[fsz,B,SU];omega);have sb2:=Si (s.heap.update a (Wo es1 u)) a (Wo (c.filterMap λx=>es1[x]?) t2);have g2:=qW g1 rfl (c.filterMap λx=>es1[x]?) t2;refine Qj (hQ _ (c.toList.map λi=>xs1.getD i (k,b)) (H.trans sb2) ⟨_,_,_,t2,g2,X,rfl,efl,?_,λx hx'=>?_,?_,by rw[I,l],by rw[led2,L,J]⟩ (n.trans d))
   .exact(n.map (·.1)).nodup_iff.mpr nd1
   .exact oz (hx1 x (n.mem_iff.mp hx')) g1 rfl sb2
   .have eh:(c.toList.map λi=>xs1.getD i (k,b)).map (λx=>hsh prog w x.1)=c.toList.map λi=>(es1.map (·.1)).getD i 0:=by
     rw[QG];refine Ra λi R=>?_;have h1:=O i (om i R);have h2:(es1.map (·.1))[i]?=on (hsh prog w (xs1.getD i (k,b)).1):=by rw[Array.getElem?_map,h1];rfl
     have h3:=(RM.mp h2);obtain⟨h4,h5⟩:=h3;simp only[Vo];rw[<-h5];simp[Tl,h4];omega
    rw[eh];exact T2
  .simp only[r,XW,Bool.and_false,RH,VO,QS]
   refine Qj (hQ _ (xs.take p++(k,b)::xs.drop p) H ⟨_,_,_,u,g1,X,rfl,N,nd1,hx1,?_,l,by rw[L,J]⟩ d);have nf:(t.place.size+1)*5<t.mask*3:=by
    have:¬(u.fill*5≥u.mask*3):=by
     intro z;exact r (by unfold tooFull;exact QL z)
    unfold fill at this;rw[pd,ps,v]at this;simp at this;omega
   have:=(T.put (h:=hsh prog w k) hl hj (by exact ha) nf).2.2.2.2;rw[y]at this;rw[Rg,QB,WO,UT];exact this
end
namespace F2
theorem si_next:Slot "set_iterator" "__next__" "set_iterator.__next__":= .of (owner:="set_iterator") (n:="__next__") (by rw[Yu,WQ];kernel_rfl) (by decide +kernel) (by decide +kernel) (by decide +kernel)
  (by first|exact .inl (by decide +kernel)|exact .inr (by decide +kernel)) (by rw[VY];kernel_rfl)
theorem si_iter:Slot "set_iterator" "__iter__" "set_iterator.__iter__":= .of (owner:="set_iterator") (n:="__iter__") (by rw[Yu,WQ];kernel_rfl) (by decide +kernel) (by decide +kernel) (by decide +kernel)
  (by first|exact .inl (by decide +kernel)|exact .inr (by decide +kernel)) (by rw[VY];kernel_rfl)
theorem ent_next:entryFor table "set_iterator.__next__"=on Builtin.«set_iterator.__next__»:=entryFor_of_tree (by kernel_rfl)
theorem ent_iter:entryFor table "set_iterator.__iter__"=on Builtin.«dict_keyiterator.__iter__»:=YR (id':="dict_keyiterator.__iter__") (by kernel_rfl) rfl (by decide +kernel) (by kernel_rfl)
theorem ent_set_iter:entryFor table "set.__iter__"=on Builtin.«frozenset.__iter__»:=YR (id':="frozenset.__iter__") (by kernel_rfl) rfl (by decide +kernel) (by kernel_rfl)
theorem args_next(a:Qv):argsOk "set_iterator.__next__" ⟨[a],[]⟩:=by unfold argsOk;kernel_rfl
theorem args_iter(a:Qv):argsOk "set_iterator.__iter__" ⟨[a],[]⟩:=by unfold argsOk;kernel_rfl
end F2
theorem pP{α:Type}:∀{l:List α} {i:Nat} (h:i<l.length),(l[i]::l.eraseIdx i).Perm l
 |[],i,h=>QX h (S3 i)
 |a::l,0,h=> .refl _
 |a::l,i+1,h=>by
  show(l[i]'(by simpa using h)::a::l.eraseIdx i).Perm (a::l);exact(List.Perm.swap _ _ _).trans ((pP (by simpa using h)).cons a)
theorem v9{α:Type}(next:Nat->Nat):∀(fuel k:Nat) (left:List α) (a:Array α),left.length<=fuel->(XS next fuel k left a).toList.Perm (a.toList++left)
 |0,k,left,a,h=>by
  have:left=[]:=UA.mp (by omega);subst this;unfold XS;rw[RJ]
 |fuel+1,k,left,a,h=>by
  unfold XS;cases left with
  |nil=>simp
  |cons c d=>
   have b:next k % (c::d).length<(c::d).length:=Wn _ (by simp)
   rw[Ql b];simp only;refine(v9 next fuel (k+1) _ _ (by rw[List.length_eraseIdx_of_lt b];omega)).trans ?_
   rw[ZB,Sa];exact List.Perm.append_left _ (pP b)
theorem zL{α:Type}(next:Nat->Nat)(xs:Array α):(Yc next xs).toList.Perm xs.toList:=by
 unfold Yc;refine(v9 next xs.size 0 xs.toList #[] (by simp)).trans ?_
 simp
section
variable{prog:Rc}{w:Ro}{A:RG}{E:Qv->QA->Prop}{s:QA}
noncomputable def dG(w:Ro)(a:Qs)(ep:Nat)(es:Array (Int×Qv)):Array (Int×Qv):=if w.params.followText "set-order"=Qo then Yc (w.params.setOrder a ep) es else es
theorem kG(w:Ro)(a:Qs)(ep:Nat)(es:Array (Int×Qv)):(dG w a ep es).toList.Perm es.toList:=by
 unfold dG;split
 .exact zL _ _
 .exact .refl _
structure M_ (w:Ro) (h:RQ) (I a:Qs) (es:Array (Int×Qv)) (ep:Nat) (t:Rx) (i:Nat):Prop where
 st:∃o,h.get? a=on o/\o.data= .set es ep t
 it:∃(o:Q0) (sl:Nat),h.get? I=on o/\o.cls= .type "set_iterator"/\o.data= .fields #[.int sl 0,.int i 0,.ref a,.int es.size 0,.int ep 0]/\(w.params.followText "set-order"=Qr->below t.place sl=i)
theorem me{M:Model}(h:Q (M.w.params.followText "set-order") s):QJ M A setsByText Q E s:=by
 unfold setsByText;exact My (Vc (Qj h))
theorem z5{es:Array (Int×Qv)}{t:Rx}{e:Int×Qv}(T:Tb t hs)(h:t.fits es.size=Qo)(F:t.plain=Qo)(H:t.led=!(w.params.followText "set-order"))(x:M_ w s.heap I a es ep t i)(k:I≠a)(l:(dG w a ep es)[i]?=on e)
  (J:∀h',M_ w h' I a es ep t (i+1)->Rb I s.heap h'->Q (on e.2) {s with heap:=h'}):QJ (Q4 prog w) A (UX (.ref I)) Q E s:=by
 obtain⟨⟨L,b,c⟩,o,sl,n,hc,hd,p⟩:=id x;have u:s.TypeIs (.ref I) "set_iterator":=⟨o,n,hc⟩;unfold UX;refine My (Vh (wpAny_callSpecial?_slot (name:=SX "__next__") u F2.si_next (Rt F2.si_next u F2.ent_next ?_ (F2.args_next _))));unfold Builtin.«set_iterator.__next__»;refine My (Qj ?_);refine My (W3 n hd ?_);simp only;refine My (Xe b c h ?_);simp only[T0,QS,RH];refine My ?_;simp only[Sc]
 have d:∀nx:Nat,(w.params.followText "set-order"=Qr->below t.place nx=i+1)->QJ (Q4 prog w) A.in1 (do
    YY (QU I) 0 (UY nx)
    YY (QU I) 1 (UY (i+1))
    ret e.2) (λd s'=>∃v,d=Fin.done (Flow.ret v)/\QJ (Q4 prog w) A (SY (on v)) Q E s') (λe s'=>QJ (Q4 prog w) A (do
     if(<-Xr e (Ts "StopIteration"))=Qo then SY Qh else throw e) Q E s') s:=λnx r=>by
  refine My (UZ n hd (by simp) ?_);have y:(s.heap.update I (Obj.mapFields (·.setIfInBounds 0 (UY nx)))).get? I=on _:=T1 _ n (Wt (SV hd _));refine My (UZ y (SV hd _) (by simp) ?_);refine Qj ⟨_,rfl,Qj (J _ ⟨⟨L,?_,c⟩,⟨_,nx,T1 _ y (Wt (SV (SV hd _) _)),?_,?_,r⟩⟩ ((Si ..).trans (Si ..)))⟩
  .rw[Tv _ _ _ _ (Ne.symm k),Tv _ _ _ _ (Ne.symm k)];exact b
  .rw[Xd,Xd];exact hc
  .rw[SV (SV hd _)];simp[UY]
 unfold setNext;refine My (SC b c h (My (me ?_)));have B:(Q4 prog w).w=w:=rfl;rw[B];cases q:w.params.followText "set-order"
 .have f:dG w a ep es=es:=by unfold dG;rw[q];rfl
  rw[f]at l;have N:=p q;have R:=(RM.mp l).1;simp only[QS,RH];have O:t.place.size=es.size:=by
   unfold XF at h;simp only[Q9,Uo,Rm]at h;exact h.1
  rw[Qp (λz=>by
   have C:(!t.plain&&decide (es.size>1))=Qo:=z;rw[F]at C;cases C)]
  refine My ?_;show QJ _ _ (if(!t.led&&!es.isEmpty)=Qo then _ else _) _ _ _;rw[Qp (by rw[H,q];exact Qx)];refine Qj (Qj ?_);have g:t.place[i]?=on t.place[i]:=getElem?_pos t.place i (by omega);rw[N,l,g];simp only;refine d _ λ_=>?_;obtain⟨b1,b2,b3⟩:=i8 (j:=t.place[i]+1) T.rs;rcases T6 (below t.place (t.place[i]+1)) (i+1)with z|z|z
  .have:=b3 i _ (by omega) g
   omega
  .exact z
  .have m:t.place[i+1]?=on t.place[i+1]:=getElem?_pos t.place (i+1) (by omega)
   have U:=b2 (i+1) _ z m;have W:=T.rs i (i+1) _ _ (by omega) g m;omega
 .have f:dG w a ep es=Yc (w.params.setOrder a ep) es:=by unfold dG;rw[q];rfl
  rw[f]at l;simp only[RF,T0,QS,RH];refine My ?_;unfold setWalk;refine My (SC b c h (My (me ?_)));rw[B,q];simp only[RF];refine My (Vc (Qj ?_));refine Qj ?_;rw[show((Q4 prog w).w.params.setOrder a ep)=w.params.setOrder a ep from rfl,l];simp only[Sh];exact d _ λz=>by rw[q]at z;cases z
theorem EF{es:Array (Int×Qv)}{t:Rx}(r:A.handled=Qh)(T:Tb t hs)(g:t.fits es.size=Qo)(u:t.plain=Qo)(y:t.led=!(w.params.followText "set-order"))(x:M_ w s.heap I a es ep t es.size)
  (B:∀h',Xl I s.heap h'->Q Qh {s with heap:=h'}):QJ (Q4 prog w) A (UX (.ref I)) Q E s:=by
 obtain⟨⟨C,d,f⟩,o,sl,h,hc,hd,i⟩:=id x;have l:s.TypeIs (.ref I) "set_iterator":=⟨o,h,hc⟩;unfold UX;refine My (Vh (wpAny_callSpecial?_slot (name:=SX "__next__") l F2.si_next (Rt F2.si_next l F2.ent_next ?_ (F2.args_next _))));unfold Builtin.«set_iterator.__next__»;refine My (Qj ?_);refine My (W3 h hd ?_);simp only;refine My (Xe d f g ?_);simp only[T0,QS,RH];refine My ?_;simp only[Sc]
 have c:QJ (Q4 prog w) A.in1 (do
    YY (QU I) 2 RA
    let e <-newExc (Ts "StopIteration") []
    (raiseNew e:Sem Fin)) (λc s'=>∃v,c=Fin.done (Flow.ret v)/\QJ (Q4 prog w) A (SY (on v)) Q E s') (λe s'=>QJ (Q4 prog w) A (do
     if(<-Xr e (Ts "StopIteration"))=Qo then SY Qh else throw e) Q E s') s:=by
  refine My (UZ h hd (by simp) ?_);refine My ?_;simp only[newExc,newTuple];refine My (RO ?_ (by size_fits));refine My (m:=UV _ _) (Ur (a:=RA) (by first|rfl|(simp only[UV];rfl)) ?_)
  refine RO ?_ (by size_fits);simp only[raiseNew];refine My (ZA ?_);rw[show A.in1.handled=Qh from r];refine My (Qj (wpAny_throw ?_));refine My (Td (T:="StopIteration") (b:=Qo) ⟨_,QK _ rfl,rfl⟩ YV ?_);exact Qj (B _ (((Si ..).extBut.push _).push _))
 unfold setNext;refine My (SC d f g (My (me ?_)));have n:(Q4 prog w).w=w:=rfl;rw[n];have j:(dG w a ep es).size=es.size:=by rw[<-Ri,(kG w a ep es).length_eq,Ri]
 cases q:w.params.followText "set-order"
 .simp only[QS,RH]
  rw[Qp (λz=>by
   have p:(!t.plain&&decide (es.size>1))=Qo:=z;rw[u]at p;cases p)]
  refine My ?_;show QJ _ _ (if(!t.led&&!es.isEmpty)=Qo then _ else _) _ _ _;rw[Qp (by rw[y,q];exact Qx)];refine Qj (Qj ?_);rw[i q,TH (Qz _)];exact c
 .have k:dG w a ep es=Yc (w.params.setOrder a ep) es:=by unfold dG;rw[q];rfl
  simp only[RF,T0,QS,RH];refine My ?_;unfold setWalk;refine My (SC d f g (My (me ?_)));rw[n,q];simp only[RF];refine My (Vc (Qj ?_));refine Qj ?_;rw[show((Q4 prog w).w.params.setOrder a ep)=w.params.setOrder a ep from rfl,<-k,TH (by rw[j];exact Qz _)];exact c
theorem M_.at{h h':RQ}(x:M_ w h I a es ep t i)(k:∀b,b=I\/b=a->∀o,h.get? b=on o->h'.get? b=on o):M_ w h' I a es ep t i:=by
 obtain⟨⟨e,c,d⟩,o,sl,f,r⟩:=x;exact⟨⟨e,k a (.inr rfl) e c,d⟩,o,sl,k I (.inl rfl) o f,r⟩
theorem CT(q:A.handled=Qh){es:Array (Int×Qv)}{t:Rx}(T:Tb t hs)(l:t.fits es.size=Qo)(m:t.plain=Qo)(n:t.led=!(w.params.followText "set-order"))(f:I≠a):
  Walks prog w A I [I,a] [I] es.size (λi v=>∃e,(dG w a ep es)[i]?=on e/\v=e.2) (λi h=>M_ w h I a es ep t i) where
 sub:=λb c=>by simp at c;simp[c]
 frame:=λ_ _ _ st r=>st.at λb c o e=>r b (by simpa using c) o e
 item:=λi s Q E J st d=>by
  have u:(dG w a ep es).size=es.size:=by rw[<-Ri,(kG w a ep es).length_eq,Ri]
  have p:(dG w a ep es)[i]?=on (dG w a ep es)[i]:=getElem?_pos _ i (by omega);exact z5 T l m n st f p λh' g y=>d _ h' s.toks ⟨_,p,rfl⟩ g λb o c e=>y.extBut b o (λh=>c (by simp[h])) e
 done:=λs Q E st d=>EF q T l m n st λh' j=>d h' s.toks λb o c e=>j b o (λh=>c (by simp[h])) e
 self:=λi s Q E st d=>by
  obtain⟨⟨L,B,C⟩,o,sl,F,hc,hd,H⟩:=st;have k:s.TypeIs (.ref I) "set_iterator":=⟨o,F,hc⟩;refine Wf k F2.si_iter (Rt F2.si_iter k F2.ent_iter ?_ (F2.args_iter _));show QJ _ _ (ret (.ref I)) _ _ s;exact Qj ⟨_,rfl,"set_iterator",_,k,F2.si_next.lookup,d⟩
end
end L2.Hs
namespace L2.Hs
open PySem PySem.SetTable PyProof.Rows
section
variable{prog:Rc}{w:Ro}{A:RG}{E:Qv->QA->Prop}{s:QA}
theorem EV{o:Q0}{es:Array (Int×Qv)}{t:Rx}(b:s.heap.get? a=on o)(hc:o.cls= .type "set")(hd:o.data= .set es ep t)(c:t.fits es.size=Qo)(f:t.plain=Qo)
  (g:Q (.ref s.heap.objs.size) {s with heap:=s.heap.push {cls:= .type "set_iterator",data:= .fields #[.int (0:Nat) 0,.int (0:Nat) 0,.ref a,.int es.size 0,.int ep 0]}}):QJ (Q4 prog w) A (W2 (.ref a)) Q E s:=by
 have d:s.TypeIs (.ref a) "set":=⟨o,b,hc⟩;refine Wf d F.slot_set_iter (Rt F.slot_set_iter d F2.ent_set_iter ?_ (F.args_set_iter_1 _));unfold Builtin.«frozenset.__iter__»;refine My (Ur (a:=a) rfl ?_);refine My (My (Xe b hd c (Qj ?_)));refine My ?_;unfold setDrawn;refine My (SC b hd c (My (me (Qj ?_))));rw[Qp (λz=>by
  have e:(!((Q4 prog w).w.params.followText "set-order")&&(!t.plain&&decide (es.size>1)))=Qo:=z;rw[f]at e;simp at e)]
 refine My (Qj ?_);refine My (wpAny_setEpoch_of b hd c ?_);unfold newFields;refine My (RO (Qj ⟨_,rfl,"set_iterator",_,⟨_,QK _ rfl,rfl⟩,F2.si_next.lookup,?_⟩));exact g
theorem vC{o:Q0}{es:Array (Int×Qv)}{t:Rx}(hh:A.handled=Qh)(R:s.heap.get? a=on o)(hc:o.cls= .type "set")(hd:o.data= .set es ep t)(T:Tb t hs)(U:t.fits es.size=Qo)(X:t.plain=Qo)(hl:t.led=!(w.params.followText "set-order"))
  (hsz:es.size<=1000)
  (hQ:∀h' Y vs,(∀b o,s.heap.get? b=on o->h'.get? b=on o)->s.heap.objs.size<=h'.objs.size->s.toks<=Y->vs.Perm (es.toList.map (·.2))->Q vs {s with heap:=h',toks:=Y}):QJ (Q4 prog w) A (collect (.ref a)) Q E s:=by
 unfold collect;refine My (wpAny_runValue (Yt F.entry_proto_collect ?_));rw[Yx F.plain_proto_collect _];show QJ _ A.in1 (newList []>>=λl=>Yn (.builtin "list.__iadd__" ⟨[l,.ref a],[]⟩)) _ _ s;refine My (RO ?_);refine Qj ⟨plainId_quiet F.plain_list_iadd _,Yt F.entry_list_iadd ?_⟩;rw[Yx F.plain_list_iadd _];have ha:=QZ R;have g:(s.heap.push {cls:= .type "list",data:= .seq ([]:List Qv).toArray}).get? a=on o:=Qm _ R;have B:(s.heap.push {cls:= .type "list",data:= .seq ([]:List Qv).toArray}).get? s.heap.objs.size=on {cls:= .type "list",data:= .seq ([]:List Qv).toArray}:=QK _ rfl;have r:s.heap.objs.size≠a:=TR ha;have y:W5 (.ref s.heap.objs.size) (.ref a)=Qr:=by simp[W5,r]
 have C:(⟨s.heap.push {cls:= .type "list",data:= .seq ([]:List Qv).toArray},s.gens,s.drawn,s.toks,s.os⟩:QA).TypeIs (.ref a) "set":=⟨o,g,hc⟩;show QJ _ A.in1 (WM (.ref s.heap.objs.size) (.ref a) (.ref s.heap.objs.size)) _ _ _;unfold WM;refine My (wpAny_typeOf C ?_);rw[Qp (by rw[y];decide)];refine My (EV g hc hd U X ?_);refine My (R3 ?_);unfold Builtin.List.listLengthHint;have n:(⟨(s.heap.push {cls:= .type "list",data:= .seq ([]:List Qv).toArray}).push {cls:= .type "set_iterator",data:= .fields #[.int (0:Nat) 0,.int (0:Nat) 0,.ref a,.int es.size 0,.int ep 0]},s.gens,s.drawn,s.toks,s.os⟩:QA).TypeIs (.ref a) "set":=⟨o,Qm _ g,hc⟩;refine My (Tu n F.slot_set_len.lookup ?_)
 (generalize u:("set.__len__":String)=id0;wp_delta;rw[show splitId id0=on ("set","__len__")from by subst u;decide +kernel];subst u)
 refine My (Td (b:=Qo) n (by rw[VY];kernel_rfl) ?_);rw[Qp (by decide)];show QJ _ _ (if _ then _ else _) _ _ _;rw[Qt (by decide)];refine My (wpAny_typeOf n ?_);refine Qj ?_;rw[Qt (by decide)];refine My (T4 ?_);have Z:(s.heap.push {cls:= .type "list",data:= .seq ([]:List Qv).toArray}).objs.size=s.heap.objs.size+1:=by rw[size_push']
 generalize h:(s.heap.push {cls:= .type "list",data:= .seq ([]:List Qv).toArray}).push {cls:= .type "set_iterator",data:= .fields #[.int (0:Nat) 0,.int (0:Nat) 0,.ref a,.int es.size 0,.int ep 0]}=d;have gS:d.get? s.heap.objs.size=on (Ue "list" #[] 0):=by rw[<-h];exact Qm _ B
 have gI:d.get? (s.heap.objs.size+1)=on {cls:= .type "set_iterator",data:= .fields #[.int (0:Nat) 0,.int (0:Nat) 0,.ref a,.int es.size 0,.int ep 0]}:=by rw[<-h,<-Z];exact QK _ rfl
 have ga:d.get? a=on o:=by rw[<-h];exact Qm _ g
 have p:∀b f,s.heap.get? b=on f->d.get? b=on f:=λb f e=>by rw[<-h];exact Qm _ (Qm _ e)
 unfold Builtin.List.listTouch;refine My (My (Wp gS rfl ?_ (by show 0<=_;omega) (by show 1<=_;omega)));obtain⟨e1,g1⟩:∃e1,(d.update s.heap.objs.size (Sw λxs=>xs.push RA)).get? s.heap.objs.size=on (Ue "list" #[RA] e1):=⟨_,get?_update_seq gS λxs=>xs.push RA⟩;refine Wp g1 rfl ?_ (by show 1<=QN;decide) (by show 0<=_;omega);obtain⟨H,g2⟩:∃H,((d.update s.heap.objs.size (Sw λxs=>xs.push RA)).update s.heap.objs.size (Sw λxs=>xs.pop)).get? s.heap.objs.size=on (Ue "list" #[] H):=⟨_,get?_update_seq g1 λxs=>xs.pop⟩;have c:∀b f,b≠s.heap.objs.size->d.get? b=on f->((d.update s.heap.objs.size (Sw λxs=>xs.push RA)).update s.heap.objs.size (Sw λxs=>xs.pop)).get? b=on f:=λb f q e=>by
  rw[Tv _ _ _ _ q,Tv _ _ _ _ q];exact e
 generalize (d.update s.heap.objs.size (Sw λxs=>xs.push RA)).update s.heap.objs.size (Sw λxs=>xs.pop)=h4 at g2 c;have J:s.heap.objs.size+1≠a:=TR (VT ha);have st:M_ w h4 (s.heap.objs.size+1) a es ep t 0:=⟨⟨o,c a o (Ne.symm r) ga,hd⟩,_,0,c _ _ (by omega) gI,rfl,rfl,λ_=>by
  have:=i8 (j:=0) T.rs;rcases WY (below t.place 0)with z|z
  .exact z
  .have e:=getElem?_pos t.place 0 (by omega)
   have:=this.2.1 0 _ z e;omega⟩
 have W:=CT (prog:=prog) (w:=w) (A:=A.in1) (I:=s.heap.objs.size+1) (a:=a) (ep:=ep) hh T U X hl J;show QJ _ _ (Yn _) _ _ _;rw[Z];refine Qj ⟨plainId_quiet F.plain_extend_loop _,codeAny_extend_loopS W.toS (by rw[SU];omega) s.heap.objs.size (by simp;omega) _ es.size 0 _ #[] H rfl (RB _) st g2 (ItemsOf.nil _) λs' k c' hm v m=>?_⟩;show QJ _ A (load s.heap.objs.size>>=_) _ _ s';refine My (wpAny_load v ?_);refine Qj ?_;have L:s'={s with heap:=s'.heap,toks:=s'.toks}:=by
  have y:=hm.gens;have d:=hm.drawn;have h3:=hm.os;obtain⟨a1,a2,a3,a4,a5⟩:=s';simp only at y d h3;subst y d h3;rfl
 rw[L];refine hQ _ _ _ (λb f e=>?_) (Wm (QZ v)) hm.toks ?_
 .have q:=QZ e
  exact hm.heap b f (by simp only[QD,R7,UM,not_or];exact⟨Rr q,Rr (VT q)⟩) (c b f (Rr q) (p b f e))
 .refine List.Perm.trans (WW ?_) ((kG w a ep es).map (·.2))
  have N:(dG w a ep es).size=es.size:=by rw[<-Ri,(kG w a ep es).length_eq,Ri]
  refine SH (by rw[Ri,Qi,Ri,N,m.1]) λi q1 q2=>?_;have O:i<k.size:=by simpa using q1
  obtain⟨e,he,hv⟩:=m.2 i _ (getElem?_pos k i O);rw[UQ,hv,SQ,UQ];have:=RM.mp he;obtain⟨z1,z2⟩:=this;rw[z2]
end
end L2.Hs
namespace L2.Hs
open PySem PySem.W PyProof.Rows
section
variable{α β:Type}{lt:Nat->Nat->Bool}{n:Nat}
def Rn(lt:Nat->Nat->Bool)(n:Nat):KasT α->(α->Prop)->Prop
 | .ret a,Φ=>Φ a
 | .ask i j k,Φ=>i<n/\j<n/\Rn lt n (k (lt i j)) Φ
theorem Rn.bind{Φ:β->Prop}:∀{t:KasT α},Rn lt n t (λa=>Rn lt n (f a) Φ)->Rn lt n (t.bind f) Φ
 | .ret a,h=>h
 | .ask i j k,⟨h1,h2,h3⟩=>⟨h1,h2,Rn.bind h3⟩
theorem Rn.mono{Φ Ψ:α->Prop}(b:∀a,Φ a->Ψ a):∀{t:KasT α},Rn lt n t Φ->Rn lt n t Ψ
 | .ret a,h=>b a h
 | .ask i j k,⟨h1,h2,h3⟩=>⟨h1,h2,Rn.mono b h3⟩
theorem Rn.wp{Φ:α->Prop}(hc:∀i j,i<n->j<n->∀C:Bool->QA->Prop,C (lt i j) s->cmp i j C s)(b:∀a,Φ a->Q a s):∀{t:KasT α},Rn lt n t Φ->t.kasWp cmp Q s
 | .ret a,h=>b a h
 | .ask i j k,⟨h1,h2,h3⟩=>hc i j h1 h2 _ (Rn.wp hc b h3)
end
section
variable{rk:Nat->Nat}{n:Nat}
noncomputable abbrev rx(rk:Nat->Nat)(i j:Nat):Bool:=decide (rk i<rk j)
noncomputable abbrev ky(rk:Nat->Nat)(p:Array Nat)(i:Nat):Nat:=rk (p.getD i 0)
structure Pm (rk:Nat->Nat) (n:Nat) (p:Array Nat):Prop where
 perm:p.toList.Perm (Qy n)
 inj:∀i j,i<n->j<n->rk i=rk j->i=j
theorem Pm.sz{p:Array Nat}(h:Pm rk n p):p.size=n:=by have:=h.perm.length_eq;simpa using this
theorem Pm.lt{p:Array Nat}(h:Pm rk n p)(a:i<n):p.getD i 0<n:=by
 have hs:=h.sz;have e:p.getD i 0=p[i]:=by simp[Tl,show i<p.size by omega]
 rw[e];exact QW.mp (h.perm.mem_iff.mp (by simp))
theorem Pm.ne(h:Pm rk n p)(a:i<j)(b:j<n):ky rk p i≠ky rk p j:=λz=>by
 have hs:=h.sz;have:=h.inj _ _ (h.lt (show i<n by omega)) (h.lt b) z;have nd:p.toList.Nodup:=h.perm.nodup_iff.mpr V4;have c:p.getD i 0=p.toList[i]'(by simp;omega):=by simp[Tl,show i<p.size by omega]
 have d:p.getD j 0=p.toList[j]'(by simp;omega):=by simp[Tl,show j<p.size by omega]
 rw[c,d]at this;exact QX this (Te.mp nd i j (by simp;omega) (by simp;omega) a)
theorem Pm.of{p q:Array Nat}(h:Pm rk n p)(a:q.Perm p):Pm rk n q:=⟨(Array.perm_iff_toList_perm.mp a).trans h.perm,h.inj⟩
def So(rk:Nat->Nat)(p:Array Nat)(k:Nat):Prop:=∀i j,i<j->j<k->ky rk p i<ky rk p j
def De(rk:Nat->Nat)(p:Array Nat)(k:Nat):Prop:=∀i j,i<j->j<k->ky rk p j<ky rk p i
theorem So.succ(h:So rk p k)(c:1<=k)(b:ky rk p (k-1)<ky rk p k):So rk p (k+1):=λi j a d=>by
 by_cases q:j=k
 .subst q
  by_cases z:i=j-1
  .subst z;exact b
  .exact Vj (h i (j-1) (by omega) (by omega)) b
 .exact h i j a (by omega)
theorem De.succ(h:De rk p k)(c:1<=k)(b:ky rk p k<ky rk p (k-1)):De rk p (k+1):=λi j a d=>by
 by_cases q:j=k
 .subst q
  by_cases z:i=j-1
  .subst z;exact b
  .exact Vj b (h i (j-1) (by omega) (by omega))
 .exact h i j a (by omega)
theorem vn(P:Pm rk n p):∀(f k:Nat),1<=k->k+f<=n->So rk p k->Rn (rx rk) n (kas_asc p f k) λm=>k<=m/\m<=k+f/\So rk p m/\(m=k+f\/ky rk p m<ky rk p (m-1))
 |0,k,_,_,h=>⟨Qz k,Qz _,h,.inl rfl⟩
 |f+1,k,h1,h2,h=>by
  refine⟨P.lt (by omega),P.lt (by omega),?_⟩;by_cases q:ky rk p k<ky rk p (k-1)
  .rw[show rx rk (p.getD k 0) (p.getD (k-1) 0)=Qo from QL q];dsimp only;rw[Qt rfl]
   exact⟨Qz k,by omega,h,.inr q⟩
  .rw[show rx rk (p.getD k 0) (p.getD (k-1) 0)=Qr from Rk q];dsimp only;rw[Qp Qx]
   have:=P.ne (show k-1<k by omega) (show k<n by omega);refine Rn.mono (λm hm=>?_) (vn P f (k+1) (by omega) (by omega) (h.succ h1 (by omega)));exact⟨by omega,by omega,hm.2.2.1,by rcases hm.2.2.2 with z|z;exact .inl (by omega);exact .inr z⟩
theorem wI(P:Pm rk n p):∀(f k:Nat),1<=k->k+f<=n->De rk p k->Rn (rx rk) n (kas_desc f p k 0) λr=>r.1=p/\r.2.2=0/\k<=r.2.1/\r.2.1<=k+f/\De rk p r.2.1
 |0,k,_,_,h=>⟨rfl,rfl,Qz k,Qz _,h⟩
 |f+1,k,h1,h2,h=>by
  refine⟨P.lt (by omega),P.lt (by omega),?_⟩;by_cases q:ky rk p k<ky rk p (k-1)
  .rw[show rx rk (p.getD k 0) (p.getD (k-1) 0)=Qo from QL q];dsimp only;rw[Qt rfl,Qp (Rv 0)]
   refine Rn.mono (λm hm=>?_) (wI P f (k+1) (by omega) (by omega) (h.succ h1 q));exact⟨hm.1,hm.2.1,by have:=hm.2.2.1;omega,by have:=hm.2.2.2.1;omega,hm.2.2.2.2⟩
  .rw[show rx rk (p.getD k 0) (p.getD (k-1) 0)=Qr from Rk q];dsimp only;rw[Qp Qx]
   have:=P.ne (show k-1<k by omega) (show k<n by omega);refine⟨P.lt (by omega),P.lt (by omega),?_⟩;rw[show rx rk (p.getD (k-1) 0) (p.getD k 0)=Qo from QL (show ky rk p (k-1)<ky rk p k by omega)];dsimp only;rw[Qt rfl];exact⟨rfl,rfl,Qz k,by show k<=_;omega,h⟩
theorem wA{p q:Array Nat}(h:p[i]?=q[j]?):p.getD i 0=q.getD j 0:=by
 have a:∀(r:Array Nat) (x:Nat),r.getD x 0=(r[x]?).getD 0:=λr x=>by
  by_cases b:x<r.size
  .simp[Tl,b]
  .simp[Tl,b]
 rw[a,a,h]
theorem Mt{p:Array Nat}(a:k<=p.size)(h:De rk p k):So rk (kas_rev p 0 k) k:=λi j b c=>by
 have g:∀x,x<k->(kas_rev p 0 k).getD x 0=p.getD (k-1-x) 0:=λx d=>by
  refine wA ?_;unfold kas_rev;rw[getElem?_mirror_all a,Qt (by omega)];congr 1;omega
 show rk _<rk _;rw[g i (by omega),g j c];exact h (k-1-j) (k-1-i) (by omega) (by omega)
theorem DA(P:Pm rk n p)(b:1<=k)(c:k<=n)(h:De rk p k):Rn (rx rk) n (kas_tail3 k n p) λr=>Pm rk n r.2/\1<=r.1/\r.1<=n/\So rk r.2 r.1:=by
 have a:Pm rk n (kas_rev p 0 k):=P.of (mirror_perm _ _ _ _);unfold kas_tail3;refine Rn.bind (Rn.mono (λm hm=>?_) (vn a (n-k) k b (by omega) (Mt (by rw[P.sz];exact c) h)));exact⟨a,by omega,by omega,hm.2.2.1⟩
theorem FO(P:Pm rk n p)(d:1<=n):Rn (rx rk) n (kas_count n p) λr=>Pm rk n r.2/\1<=r.1/\r.1<=n/\So rk r.2 r.1:=by
 unfold kas_count;refine Rn.bind (Rn.mono (λm hm=>?_) (vn P (n-1) 1 (Qz 1) (by omega) λi j a b=>by omega));obtain⟨a1,a2,a3,a4⟩:=hm;by_cases q:m=n
 .rw[Qt (by rw[Uo];exact q)]
  exact⟨P,by omega,by omega,a3⟩
 .rw[Qp (by rw[Uo];exact q)]
  have hd:ky rk p m<ky rk p (m-1):=by
   rcases a4 with z|z
   .omega
   .exact z
  by_cases q1:m>1
  .rw[Qt q1]
   refine⟨P.lt (by omega),P.lt (by omega),?_⟩;rw[show rx rk (p.getD 0 0) (p.getD (m-1) 0)=Qo from QL (a3 0 (m-1) (by omega) (by omega))];dsimp only;rw[Qt rfl];exact⟨P,by omega,by omega,a3⟩
  .rw[Qp q1]
   obtain rfl:m=1:=by omega
   unfold kas_descPart;refine Rn.bind (Rn.mono (λr c=>?_) (wI P (n-(1+1)) (1+1) (by omega) (by omega) λi j a b=>by
    obtain rfl:j=1:=by omega
    obtain rfl:i=0:=by omega
    exact hd))
   obtain⟨rfl,b2,b3,b4,b5⟩:=c;rw[Qp (by omega)];exact DA P (by omega) (by omega) b5
theorem gh{p:Array Nat}{k:Nat}(P:Pm rk n p)(a:k<n):∀(f l r:Nat),l<=r->r<=k->r-l<=f->(∀i,i<l->ky rk p i<ky rk p k)->(∀i,r<=i->i<k->ky rk p k<ky rk p i)->So rk p k->
  Rn (rx rk) n (kas_place p k f l r) λm=>m<=k/\(∀i,i<m->ky rk p i<ky rk p k)/\∀i,m<=i->i<k->ky rk p k<ky rk p i
 |0,l,r,h1,h2,h3,ha,hb,_=>by
  obtain rfl:l=r:=by omega
  exact⟨h2,ha,hb⟩
 |f+1,l,r,h1,h2,h3,ha,hb,so=>by
  unfold kas_place;by_cases q:l≥r
  .rw[Qt q]
   obtain rfl:l=r:=by omega
   exact⟨h2,ha,hb⟩
  .rw[Qp q]
   refine⟨P.lt (by omega),P.lt (by omega),?_⟩;by_cases z:ky rk p k<ky rk p ((l+r)/2)
   .rw[show rx rk (p.getD k 0) (p.getD ((l+r)/2) 0)=Qo from QL z];dsimp only;rw[Qt rfl]
    refine gh P a f l ((l+r)/2) (by omega) (by omega) (by omega) ha (λi c b=>?_) so;by_cases w:i=(l+r)/2
    .subst w;exact z
    .exact Vj z (so _ i (by omega) b)
   .rw[show rx rk (p.getD k 0) (p.getD ((l+r)/2) 0)=Qr from Rk z];dsimp only;rw[Qp Qx]
    have d:=P.ne (show(l+r)/2<k by omega) a;refine gh P a f ((l+r)/2+1) r (by omega) h2 (by omega) (λi c=>?_) hb so;by_cases w:i=(l+r)/2
    .subst w;omega
    .exact Vj (so i ((l+r)/2) (by omega) (by omega)) (by omega)
theorem CD:∀(f:Nat) {p:Array Nat} {k:Nat},Pm rk n p->k+f=n->So rk p k->Rn (rx rk) n (kas_bin f p k) λb=>Pm rk n b/\So rk b n
 |0,p,k,P,hk,so=>⟨P,by rw[<-hk];exact so⟩
 |f+1,p,k,P,hk,so=>by
  unfold kas_bin;refine Rn.bind (Rn.mono (λm hm=>?_) (gh P (by omega) k 0 k (RB _) (Qz _) (by omega) (λi h=>QX h (S3 i)) (λi l c=>by omega) so));obtain⟨l,c,o⟩:=hm;have r:Pm rk n (bubble p k (k-m)):=P.of (bubble_perm _ _ _);refine CD f r (by omega) λi j a t=>?_;have ks:k<p.size:=by rw[P.sz];omega
  have g:∀x:Nat,(bubble p k (k-m)).getD x 0=p.getD (if x=m then k else if m<x/\x<=k then x-1 else x) 0:=λx=>by
   refine wA ?_;rw[getElem?_bubble ks (k-m) (by omega)];by_cases q:x=m
   .rw[Qt (by omega),Qt q]
   .rw[Qp (by omega),Qp q]
    by_cases q2:m<x/\x<=k
    .rw[Qt (by omega),Qt q2]
    .rw[Qp (by omega),Qp q2]
  show rk _<rk _;rw[g i,g j];by_cases q1:i=m
  .rw[Qt q1,Qp (by omega),Qt (by omega)]
   exact o (j-1) (by omega) (by omega)
  .rw[Qp q1]
   by_cases q2:j=m
   .rw[Qt q2,Qp (by omega)]
    exact c i (by omega)
   .rw[Qp q2]
    by_cases d:m<i/\i<=k
    .rw[Qt d,Qt (by omega)]
     exact so (i-1) (j-1) (by omega) (by omega)
    .rw[Qp d]
     by_cases e:m<j/\j<=k
     .rw[Qt e]
      exact so i (j-1) (by omega) (by omega)
     .rw[Qp e]
      exact so i j a (by omega)
theorem Ky(a:1<=n)(inj:∀i j,i<n->j<n->rk i=rk j->i=j):Rn (rx rk) n (kas_sort n) λp=>Pm rk n p/\So rk p n:=by
 unfold kas_sort;have P:Pm rk n (List.toArray (Qy n)):=⟨.refl _,inj⟩;refine Rn.bind (Rn.mono (λr b=>?_) (FO P a));obtain⟨a1,a2,a3,a4⟩:=b;by_cases q:r.1<n
 .rw[Qt q,Nat.max_eq_left a2]
  exact CD _ a1 (by omega) a4
 .rw[Qp q]
  obtain rfl:r.1=n:=by omega
  exact⟨a1,a4⟩
noncomputable def cB:List Int->List Int->Bool
 |[],[]=>Qr
 |[],_::_=>Qo
 |_::_,[]=>Qr
 |a::as,b::bs=>if a=b then cB as bs else decide (a<b)
theorem iz:∀x,cB x x=Qr
 |[]=>rfl
 |a::as=>by unfold cB;rw[Qt rfl];exact iz as
theorem pp:∀{x y z},cB x y=Qo->cB y z=Qo->cB x z=Qo
 |[],[],_,h,_=>by cases h
 |[],_::_,[],_,h=>by cases h
 |[],_::_,_::_,_,_=>rfl
 |_::_,[],_,h,_=>by cases h
 |_::_,_::_,[],_,h=>by cases h
 |a::as,b::bs,c::cs,h1,h2=>by
  unfold cB at h1 h2⊢;by_cases q1:a=b
  .rw[Qt q1]at h1
   by_cases q2:b=c
   .rw[Qt q2]at h2
    rw[Qt (q1.trans q2)];exact pp h1 h2
   .rw[Qp q2]at h2
    rw[Qp (by rw[q1];exact q2),q1];exact h2
  .rw[Qp q1]at h1
   have l1:=RI h1;by_cases q2:b=c
   .rw[Qp (by rw[<-q2];exact q1),<-q2];exact h1
   .rw[Qp q2]at h2
    have d:=RI h2;rw[Qp (by omega)];exact QL (by omega)
theorem mJ:∀{x y},cB x y=Qr->cB y x=Qr->x=y
 |[],[],_,_=>rfl
 |[],_::_,h,_=>by cases h
 |_::_,[],_,h=>by cases h
 |a::as,b::bs,h1,h2=>by
  unfold cB at h1 h2;by_cases q:a=b
  .rw[Qt q]at h1
   rw[Qt q.symm]at h2;rw[q,mJ h1 h2]
  .rw[Qp q]at h1
   rw[Qp (Ne.symm q)]at h2;have:=WF h1;have:=WF h2;omega
theorem vf:∀{L:List Nat},(∀l∈L,p l=Qo->q l=Qo)->∀{i},i∈L->p i=Qr->q i=Qo->L.countP p<L.countP q
 |[],_,i,h,_,_=>by cases h
 |a::L,hpq,i,hi,h1,h2=>by
  have le:L.countP p<=L.countP q:=List.countP_mono_left λl b=>hpq l (Qk a b);rcases QD.mp hi with rfl|hi
  .rw[List.countP_cons_of_neg (by rw[h1];exact Qx),List.countP_cons_of_pos h2]
   omega
  .have ih:=vf (λl b=>hpq l (Qk a b)) hi h1 h2
   rw[List.countP_cons,List.countP_cons];have:(if p a=Qo then 1 else 0)<=(if q a=Qo then 1 else 0):=by
    by_cases z:p a=Qo
    .rw[Qt z,Qt (hpq a Qq z)];exact Qz 1
    .rw[Qp z];exact RB _
   omega
def hG(ks:LI)(i:Nat):Nat:=(Qy ks.length).countP λj=>cB (ks.getD j []) (ks.getD i [])
theorem sx{ks:LI}(a:i<ks.length)(h:cB (ks.getD i []) (ks.getD j [])=Qo):hG ks i<hG ks j:=
 vf (λl _ b=>pp b h) (QW.mpr a) (iz _) h
theorem zu{ks:LI}(b:i<ks.length)(c:j<ks.length):decide (hG ks i<hG ks j)=cB (ks.getD i []) (ks.getD j []):=by
 cases h:cB (ks.getD i []) (ks.getD j [])with
 |true=>exact QL (sx b h)
 |false=>
  refine Rk λz=>?_;cases a:cB (ks.getD j []) (ks.getD i [])with
  |true=>have:=sx c a;omega
  |false=>
   have e:=mJ h a;unfold hG at z;rw[e]at z;exact Rv _ z
theorem Mr{ks:LI}(nd:ks.Nodup)(a:i<ks.length)(b:j<ks.length)(h:hG ks i=hG ks j):i=j:=by
 have e:ks.getD i []=ks.getD j []:=by
  refine mJ ?_ ?_
  .cases z:cB (ks.getD i []) (ks.getD j [])with
   |false=>rfl
   |true=>have:=sx a z;omega
  .cases z:cB (ks.getD j []) (ks.getD i [])with
   |false=>rfl
   |true=>have:=sx b z;omega
 rw[Qn,Qn,Ql a,Ql b]at e;have c:ks[i]=ks[j]:=e;rcases T6 i j with z|z|z
 .exact QX c (Te.mp nd i j a b z)
 .exact z
 .exact QX c.symm (Te.mp nd j i b a z)
abbrev Up(l:LI):Prop:=l.Pairwise λa b=>cB a b=Qo
theorem wZ:∀{l m:LI},Up l->Up m->(∀x,x∈l↔x∈m)->l=m
 |[],[],_,_,_=>rfl
 |[],b::m,_,_,h=>by have:=(h b).mpr Qq;cases this
 |a::l,[],_,_,h=>by have:=(h a).mp Qq;cases this
 |a::l,b::m,h1,h2,h=>by
  obtain⟨d,f⟩:=Ux.mp h1;obtain⟨q1,q2⟩:=Ux.mp h2;have e:a=b:=by
   rcases QD.mp ((h a).mp Qq)with z|z
   .exact z
   .rcases QD.mp ((h b).mpr Qq)with w|w
    .exact w.symm
    .have:=pp (q1 a z) (d b w)
     rw[iz]at this;cases this
  subst e;congr 1;refine wZ f q2 λx=>⟨λc=>?_,λc=>?_⟩
  .rcases QD.mp ((h x).mp (Qk a c))with rfl|z
   .have:=d x c;rw[iz]at this;cases this
   .exact z
  .rcases QD.mp ((h x).mpr (Qk a c))with rfl|z
   .have:=q1 x c;rw[iz]at this;cases this
   .exact z
variable{prog:Rc}{w:Ro}{A:RG}{E:Qv->QA->Prop}{s:QA}
theorem wq{b:Bool}:∀{xs ys:List Int} {us vs:List Qv} (i:Nat),ItemsAre (WE prog w) xs us->ItemsAre (WE prog w) ys vs->∀n m:Nat,(decide (n+us.length<m+vs.length)=decide (xs.length<ys.length))->Q (cB xs ys) s->KatLex prog w A Qo (decide (n+us.length<m+vs.length)) Q (us.zip vs) i s
 |[],ys,us,vs,i,hx,hy,n,m,e,q=>by
  cases hx;cases hy with
  |nil=>rw[W7];exact kat_nil (by rw[e];exact q)
  |cons c d=>rw[W7];exact kat_nil (by rw[e];exact q)
 |x::xs,ys,us,vs,i,hx,hy,n,m,e,q=>by
  cases hx with
  |@cons _ u _ us' c d=>
   cases hy with
   |nil=>rw[List.zip_nil_right];exact kat_nil (by rw[e];exact q)
   |@cons y v ys' vs' h3 h4=>
    obtain⟨g,rfl⟩:=W1 c;obtain⟨h,rfl⟩:=W1 h3;rw[Sk];refine kat_cons (wpAny_eqBool_int ?_);unfold cB at q;by_cases z:x=y
    .rw[Qt z]at q
     rw[show(x==y)=Qo by rw[Uo];exact z];refine kat_yes ?_;have f:∀k l:Nat,decide (k+(us'.length+1)<l+(vs'.length+1))=decide (k+1+us'.length<l+1+vs'.length):=λk l=>decide_eq_decide.mpr (by omega);rw[QP,QP,f];refine wq (b:=b) (i+1) d h4 (n+1) (m+1) ?_ q;rw[<-f,<-QP (a:=Ud x g),<-QP (a:=Ud y h),e,QP,QP];exact decide_eq_decide.mpr (by omega)
    .rw[Qp z]at q
     rw[show(x==y)=Qr by rw[Ys];exact z];refine kat_no ?_;cases j:(Qo&&i==0)with
     |true=>exact oneLt_int q
     |false=>exact kat_one _ _ (lt_int (show PySem.W.BoolBack Q (.bool _) s from q))
theorem M2(i:(hU prog w).is s.heap xs x)(j:(hU prog w).is s.heap ys y)(h:Q (cB xs ys) s):QJ (Q4 prog w) A (keyLt' (tuples' Qo) (.ref x) (.ref y)) Q E s:=by
 obtain⟨m,o,p,d,k,e,a⟩:=i;obtain⟨o2,q,r,f,l,g,c⟩:=j;refine kat_lt d e f g ?_;have:=wq (A:=A) (b:=Qo) (Q:=Q) (s:=s) 0 a c 0 0 (by rw[RX,RX,a.length,c.length]) h;rw[RX,RX,Ri,Ri]at this;exact this
theorem vK:∀{ks:List (List Int×Qs)},(∀k∈ks,(hU prog w).is s.heap k.1 k.2/\1<=k.1.length)->∃fs:List Qv,KatTups s.heap (ks.map λk=>QU k.2) fs/\fs.length=ks.length/\∀v∈fs,∃n t,v=Ud n t
 |[],_=>⟨[],trivial,rfl,λv hv=>by cases hv⟩
 |k::ks,h=>by
  obtain⟨fs,c,d,f⟩:=vK λg i=>h g (Qk k i);obtain⟨⟨o,its,n,j,hc,hd,b⟩,m⟩:=h k Qq;have a:=b.length;have l:0<its.size:=by rw[<-Ri,<-a];omega
  have e:=getElem?_pos its 0 l;refine⟨its[0]::fs,KatTups.cons j hc hd e c,by rw[QP,QP,d],λv hv=>?_⟩;rcases QD.mp hv with rfl|hv
  .exact items_int b _ (by rw[<-UQ];exact Rp _)
  .exact f v hv
theorem za{ks:List (List Int×Qs)}{n:Nat}{P:VX->QA->Prop}(L:s.heap.get? a=on (Ue "list" (ks.map λk=>QU k.2).toArray n))(hk:∀k∈ks,(hU prog w).is s.heap k.1 k.2/\1<=k.1.length)(nd:(ks.map (·.1)).Nodup)(h64:ks.length<64)
  (h:∀(h':RQ) (l:List (List Int×Qs)) (n':Nat),l.Perm ks->Up (l.map (·.1))->h'.get? a=on (Ue "list" (l.map λk=>QU k.2).toArray n')->(∀b o,b≠a->s.heap.get? b=on o->h'.get? b=on o)->P (.done (.ret .none)) {s with heap:=h'}):
  QJ (Q4 prog w) A (Builtin.«list.sort» ⟨[.ref a],[]⟩) P E s:=by
 have ha:a<s.heap.objs.size:=QZ L;rw[list_sort_plain];refine My (listItems_at L rfl ?_);refine My (Wp L rfl ?_ (by simp[SU];omega) (by simp));obtain⟨F,N⟩:∃F,(s.heap.update a (Sw λ_=>#[])).get? a=on (Ue "list" #[] F):=⟨_,get?_update_seq L (λ_=>#[])⟩;refine My (seqEpoch_at N rfl ?_);refine My (Y0 ?_ (by simp[SU];omega));refine My (wpAny_newList ?_ (RB _));refine R3 ?_;generalize q:(ks.map λk=>QU k.2)=vs at*;have u:vs.length=ks.length:=by rw[<-q,Qi]
 have d:(((s.heap.update a (Sw λ_=>#[])).push (Ue "tuple" vs.toArray 0)).push (Ue "list" #[] 0)).get? a=on (Ue "list" #[] F):=by
  rw[ZW _ _ _ (by rw[size_push',Heap.size_update];exact Rr (VT ha)),ZW _ _ _ (by rw[Heap.size_update];exact Rr ha)];exact N
 have keep:∀b o,b≠a->s.heap.get? b=on o->(((s.heap.update a (Sw λ_=>#[])).push (Ue "tuple" vs.toArray 0)).push (Ue "list" #[] 0)).get? b=on o:=λb o X e=>by
  refine Qm _ (Qm _ ?_);rw[Tv _ _ _ _ X];exact e
 show QJ (Q4 prog w) A _ P E {s with heap:=((s.heap.update a (Sw λ_=>#[])).push (Ue "tuple" vs.toArray 0)).push (Ue "list" #[] 0)};generalize hh6:((s.heap.update a (Sw λ_=>#[])).push (Ue "tuple" vs.toArray 0)).push (Ue "list" #[] 0)=h6 at d keep
 dsimp only
 have O:∀(l:List (List Int×Qs)) (y:Array Qv),l.Perm ks->Up (l.map (·.1))->y=(l.map λk=>QU k.2).toArray->P (.done (.ret .none)) {s with heap:=h6.update a (Sw λ_=>y)}:=λl y p1 p2 e=>by
  refine h _ l _ p1 p2 (by rw[<-e];exact get?_update_seq d λ_=>y) λb o X Y=>?_;rw[Tv _ _ _ _ X];exact keep b o X Y
 by_cases I:vs.toArray.size<2
 .rw[Qt I,Qt I]
  refine My (Qj ?_);rw[StateT.run_pure];refine My (Qj ?_)
  dsimp only
  refine My (seqEpoch_at d rfl ?_);have Z:((arrOf (SortSt.mk' general' (vs.toArray.zip vs.toArray) #[] 7 Qh)).map (·.2))=vs.toArray:=by
   show(vs.toArray.zip vs.toArray).map (·.2)=_;apply Array.toList_inj.mp;rw[Array.toList_map,Array.toList_zip];exact List.map_snd_zip (Qz _)
  rw[Z];refine My (Wp d rfl ?_ (by simp) (by simp[SU];omega));simp only[T0,QS,RH];refine Qj (O ks _ (.refl _) ?_ (by rw[q]));have R:ks.length<2:=by rw[<-u];simpa using I
  match ks,R with
  |[],_=>exact Wh
  |[k],_=>exact R8 _ _
  |_::_::_,R=>simp at R;omega
 .rw[Qp I,Qp I]
  have h2':2<=ks.length:=by rw[<-u];simp at I;omega
  have H:∀k∈ks,(hU prog w).is h6 k.1 k.2/\1<=k.1.length:=λk hk'=>by
   obtain⟨⟨o,its,m,h1,h3,h4,h5⟩,R⟩:=hk k hk';refine⟨⟨o,its,m,keep _ _ (λz=>?_) h1,h3,h4,h5⟩,R⟩;rw[z,L]at h1;cases h1;exact QX (Ts.inj h3) (by decide)
  obtain⟨fs,t1,t2,t3⟩:=vK (s:={s with heap:=h6}) H;rw[q]at t1;refine My (kat_kind (T:= .type "int") t1 (by omega) (λv hv=>?_) rfl ?_)
  .obtain⟨x,t,rfl⟩:=t3 v hv
   exact Looks.of_pure rfl
  show QJ _ _ (StateT.run sortRuns' (SortSt.mk' (tuples' Qo) (vs.toArray.zip vs.toArray) #[] 7 Qh)>>=_) _ _ _;have J:(ks.map (·.1)).length=vs.length:=by rw[Qi,u]
  have at_:∀i,i<vs.length->∃k∈ks,vs.getD i RA= .ref k.2/\(ks.map (·.1)).getD i []=k.1/\ks[i]?=on k:=λi c=>by
   have f:i<ks.length:=by omega
   refine⟨ks[i],Rp f,?_,?_,Ql f⟩
   .rw[<-q,Qn,Qu,Ql f];rfl
   .rw[Qn,Qu,Ql f];rfl
  refine My (Rw (kat_run (κ:=tuples' Qo) (ks:=vs) (vs:=vs) (Q:=λg s'=>s'={s with heap:=h6}/\failedOf g=Qh/\∃p:Array Nat,Pm (hG (ks.map (·.1))) vs.length p/\So (hG (ks.map (·.1))) p vs.length/\arrOf g=p.map (kas_item (vs.toArray.zip vs.toArray)))
   (G:=λp s'=>s'={s with heap:=h6}/\Pm (hG (ks.map (·.1))) vs.length p/\So (hG (ks.map (·.1))) p vs.length) rfl (by omega) (by omega) (λp g s' a1 a2 a3 a4=>⟨a4.1,a3,p,a4.2.1,a4.2.2,a2⟩)
   (Rn.wp (lt:=rx (hG (ks.map (·.1)))) (n:=vs.length) (λi j c B C hC=>?_) (λp hp=>⟨rfl,hp⟩) (Ky (by omega) λi j c B hr=>Mr nd (by rw[J];exact c) (by rw[J];exact B) hr))) (λr s' hr=>?_) λ_ _ e=>e)
  .obtain⟨k1,m1,F,f1,_⟩:=at_ i c
   obtain⟨k2,m2,e2,f2,_⟩:=at_ j B;unfold kas_ask;rw[F,e2];refine M2 (H k1 m1).1 (H k2 m2).1 ?_;have:=zu (ks:=ks.map (·.1)) (i:=i) (j:=j) (by rw[J];exact c) (by rw[J];exact B);rw[f1,f2]at this;rw[<-this];exact hC
  .obtain⟨⟨⟩,g⟩:=r
   obtain⟨rfl,hf,p,P1,so,har⟩:=hr
   dsimp only
   have Z:(arrOf g).map (·.2)=(p.toList.map λi=>vs.getD i RA).toArray:=kat_snds rfl har;have U:=P1.sz;rw[Z];refine My (seqEpoch_at d rfl ?_);refine My (Wp d rfl ?_ (by simp) (by simp[SU];omega));rw[hf];simp only[T0,QS,RH];have W:∀i∈p.toList,i<vs.length:=λi c=>QW.mp (P1.perm.mem_iff.mp c);refine Qj (O (p.toList.map λi=>ks.getD i ([],0)) _ ?_ ?_ ?_)
   .refine(P1.perm.map _).trans (WW ?_)
    rw[u];refine SH (by simp) λi q1 q2=>?_;rw[SQ,S9,Qn,Ql q2];rfl
   .rw[QG]
    unfold Up;rw[VH];refine Te.mpr λi j c B hij=>?_;have f:i<vs.length:=by simpa[U]using c
    have hj':j<vs.length:=by simpa[U]using B
    have gd:∀x (hx:x<p.toList.length),p.getD x 0=p.toList[x]:=λx hx=>by
     have:x<p.size:=by simpa using hx
     simp[Tl,this]
    have z:=so i j hij hj';unfold ky at z;rw[gd i c,gd j B]at z;obtain⟨k1,m1,F,f1,g1⟩:=at_ p.toList[i] (W _ (Rp c));obtain⟨k2,m2,e2,f2,g2⟩:=at_ p.toList[j] (W _ (Rp B));have:=zu (ks:=ks.map (·.1)) (i:=p.toList[i]) (j:=p.toList[j]) (by rw[J];exact W _ (Rp c)) (by rw[J];exact W _ (Rp B));rw[QL z,f1,f2]at this;simp only[Vo];rw[Qn,Qn,g1,g2];exact this.symm
   .rw[QG]
    congr 1;refine Ra λi c=>?_;obtain⟨k1,m1,F,f1,g1⟩:=at_ i (W i c);rw[F];simp only[Vo];rw[Qn,g1];rfl
theorem DV{α β:Type}{f:α->β}{vs g:List β}(p:vs.Perm g):∀{xs:List α},g=xs.map f->∃ks:List α,ks.Perm xs/\vs=ks.map f:=by
 induction p with
 |nil=>
  intro xs e;cases xs with
  |nil=>exact⟨[],.refl _,rfl⟩
  |cons _ _=>cases e
 |cons x _ ih=>
  intro xs e;cases xs with
  |nil=>cases e
  |cons a xs=>
   cases e;obtain⟨ks,c,d⟩:=ih rfl;exact⟨a::ks,c.cons a,by rw[d];rfl⟩
 |swap x y l=>
  intro xs e
  match xs,e with
  |[],e=>cases e
  |[_],e=>cases e
  |a::b::xs,e=>
   cases e;exact⟨b::a::xs,.swap _ _ _,rfl⟩
 |trans _ _ ih1 ih2=>
  intro xs e;obtain⟨ks,c,d⟩:=ih2 e;obtain⟨h,i,j⟩:=ih1 d;exact⟨h,i.trans c,j⟩
theorem xg{xs:List (List Int×Qs)}(H:A.handled=Qh)(S:qO prog w s.heap a xs)(I:∀x∈xs,1<=x.1.length)(J:xs.length<64)
  (h:∀(l:Qs) (h':RQ) (f v:Nat) (g:List (List Int×Qs)),g.Perm xs->Up (g.map (·.1))->h'.get? l=on (Ue "list" (g.map λk=>QU k.2).toArray v)->s.heap.objs.size<=l->(∀b o,s.heap.get? b=on o->h'.get? b=on o)->s.toks<=f->Q (.ref l) {s with heap:=h',toks:=f}):
  QJ (Q4 prog w) A (Xq (.builtin "sorted") [.ref a]) Q E s:=by
 obtain⟨o,es,ep,t,L,y,hd,i,B,N,T,O,j⟩:=S;have C:es.size=xs.length:=by rw[<-Ri,i,Qi]
 have R:t.fits es.size=Qo:=T.fits (by rw[Qi,C]);refine Calls.call_function_entry kind_sorted plain_sorted entry_sorted (args_sorted1 _) ?_;unfold Builtin.«sorted»;refine My (m:=checkCount "sorted" 1 1 _) (Qj ?_);refine My (vC H L y.1 hd T R O j (by omega) λp f vs keep q htk pv=>?_);rw[i,QG]at pv;obtain⟨ks,r,rfl⟩:=DV pv rfl;have U:ks.length=xs.length:=r.length_eq;refine My (wpAny_newList ?_ (by rw[Qi,SU];omega));have c:∀b d,s.heap.get? b=on d->(p.push (Ue "list" (ks.map λk=>QU k.2).toArray 0)).get? b=on d:=λb d e=>Qm _ (keep b d e);have u:(p.push (Ue "list" (ks.map λk=>QU k.2).toArray 0)).get? p.objs.size=on (Ue "list" (ks.map λk=>QU k.2).toArray 0):=QK _ rfl;show QJ _ _ _ _ _ {s with heap:=p.push (Ue "list" (ks.map λk=>QU k.2).toArray 0),toks:=f};refine My (R3 (Rt slot_list_sort ⟨_,u,rfl⟩ entry_list_sort (za u (λk F=>⟨?_,I k (r.mem_iff.mp F)⟩) ((r.map (·.1)).nodup_iff.mpr B) (by omega) λh' g v q1 q2 q3 q4=>⟨_,rfl,?_⟩) (args_list_sort _)))
 .obtain⟨W,its,m,X,Y,Z,z4⟩:=N k (r.mem_iff.mp F)
  exact⟨W,its,m,c _ _ X,Y,Z,z4⟩
 .refine Qj ⟨_,rfl,h p.objs.size h' f v g (q1.trans r) q2 q3 q (λb d e=>q4 b d (λz=>?_) (c b d e)) htk⟩
  have:=QZ e;exact QX (z▸this) (Nat.not_lt.mpr q)
end
end L2.Hs
namespace L2.Hs
open PySem PySem.Spec PyProof.Rows
section
variable{prog:Rc}{w:Ro}
def qP(prog:Rc)(w:Ro)(a:Qs)(xs:List (List Int×Qs))(h:RQ):Prop:=
 ∃o es ep t,h.get? a=on o/\o.ExactSet/\o.data= .set es ep t/\(es.toList=xs.map λx=>(hsh prog w x.1,QU x.2))/\(xs.map (·.1)).Nodup/\(Tb t (xs.map λx=>hsh prog w x.1))/\t.plain=Qo/\t.led=!(w.params.followText "set-order")
noncomputable def ml(prog:Rc)(w:Ro)(a:Qs)(xs:List (List Int×Qs)):HO:= .ext (qP prog w a xs)
theorem qP.to(S:qP prog w a xs h)(b:∀x∈xs,(hU prog w).is h x.1 x.2):qO prog w h a xs:=by
 obtain⟨o,es,ep,t,c,d,e,f,g,i⟩:=S;exact⟨o,es,ep,t,c,d,e,f,g,b,i⟩
theorem vS(S:qP prog w a xs h):bD prog w H h a (ml prog w a xs):=by
 refine⟨S,?_,λb c z k=>?_⟩
 .obtain⟨o,_,_,_,e,_⟩:=S
  exact⟨o,e⟩
 .obtain⟨o,es,ep,t,e,r⟩:=z
  exact⟨o,es,ep,t,k _ e,r⟩
theorem EW{k:List Int}:∀{its:List Qv},aw (k.map V.int) its->ItemsAre (WE prog w) k its:=by
 induction k with
 |nil=>intro its h;cases h;exact .nil
 |cons i k ih=>
  intro its h;cases h with
  |cons a b=>
   obtain⟨t,rfl⟩:=a;exact .cons (by simp[WE,YL]) (ih b)
variable{X:Cx}
theorem mR{s:QA}{k:List Int}(I:c4 X ba σ H s)(h:hO X.K H b (k.map V.int)):(hU X.prog X.w).is s.heap k b:=by
 obtain⟨its,a,⟨o,e,hc,n,hd⟩,_⟩:=I.tuple h;exact⟨o,its.toArray,n,e,hc,hd,EW a⟩
theorem tb0{b:Bool}:Tb (.fresh 0 0 b) []:=⟨.inl rfl,rfl,λi j a b h=>by simp[ZN]at*,λi j h=>by simp[ZN]at h,rfl,by show 0*5<7*3;decide,λi h j c=>by simp at c⟩
theorem qS:∀a:List (List Int×Qs),aw (a.map λz=>V.ref z.2) (a.map λk=>QU k.2)
 |[]=> .nil
 |_::a=> .cons rfl (qS a)
theorem K8:Mks X (newSet (.type "set")) λD=>ml X.prog X.w D []:=λa s c H E Q I h=>by
 unfold newSet setsByText;refine My (My (Vc (Qj ?_)))
 dsimp only
 simp only[newObj];refine My (wpAny_alloc (Qj (h _ (I.laid (t':=s.toks) (λ_ _ q=>Qm _ q) (Qz _) (vS ?_)) λb o e=>Qm _ e)));exact⟨_,#[],0,_,QK _ rfl,⟨rfl,rfl,rfl⟩,rfl,rfl,.nil,tb0,rfl,rfl⟩
def BZ(P:Rc)(w:Ro)(K:QR)(D:Qs)(e:TE):TB:=λd H Q=>e d H λv c=>∃xs k b,c D=on (ml P w D xs)/\v= .ref b/\hO K c b (k.map V.int)/\(∀x∈xs,hO K c x.2 (x.1.map V.int))/\xs.length<63/\
 ∀a,(k∈xs.map (·.1)->a=xs)->(k∉xs.map (·.1)->a.Perm ((k,b)::xs))->Q d (upd c D (ml P w D a))
theorem uu{D:Qs}(p:X.A.units+1<U4)(L:gens[d+1]?=Qh)(N:PE X elt te)(j:X.xe=λ_ _=>False):PB X (.S elt) gens scope pos d D (BZ X.prog X.w X.K D te):=by
 intro a s y H Q I h k Q' E' O;unfold gW;rw[L];show QJ _ _ ((do let v <-RN elt X.env;Uh elt.pos;let _ <-Xq (.builtin "set.add") [.ref D,v])>>=λ_=>k) _ _ _
 have c:=N a s y H _ I h;rw[j]at c;refine My (My (Rw c (λu g l=>?_) λ_ _ f=>f.elim));obtain⟨v,H1,i,r,xs,R,b,B,rfl,C,J,hn,q⟩:=l;cases r;have S:qP X.prog X.w D xs g.heap:=(i.hok D _ B).1;have T:qO X.prog X.w g.heap D xs:=S.to λx h=>mR i (J x h);obtain⟨o,es,ep,t,U,W,_⟩:=S;refine My (SG (My (Rt F.slot_set_add ⟨o,U,W.1⟩ F.entry_set_add ?_ (F.args_set_add_2 _ _))));unfold Builtin.«set.add» Builtin.Frozenset.oneOther;simp only[List.isEmpty_nil,bind_assoc];unfold Builtin.Frozenset.addrOf setAdd;refine My (Qj ?_)
 try dsimp only
 refine My (Qj ?_)
 try dsimp only
 refine My (R3 (My ((hU X.prog X.w).pyHash p (mR i C) ?_)));refine Oy (s:={g with toks:=g.toks+(hU X.prog X.w).draws R}) p T (mR (s:=g) i C) hn λh' m Y Z c1 c2=>?_;show QJ _ _ (ret RA) _ _ _;refine Qj ⟨_,rfl,Qj (O _ y _ (i.write (by rw[B];trivial) (.inl rfl) (λb u n e=>(Y.2 b n).trans e) ?_ (vS ?_)) (q m c1 c2))⟩
 all_goals obtain⟨o,es,ep,t,c,l,h3,h4,h5,J,h6⟩:=Z
 .exact⟨o,c⟩
 .exact⟨o,es,ep,t,c,l,h3,h4,h5,h6⟩
def lq(c:Qs->HO)(dr:List Rl)(c_:List Nat)(d:TI)(e:Qs->It->TB):TE:=λa H Q=>d a H λJ b=>∀D,b D=Qh->e D J (j5 dr c_ a) (upd b D (c D)) λ_ f=>Q (.ref D) f
theorem KQ{d a b:Expr}{f:List Expr}{rest:List Ss}{scope:Scope}{pos:Vm}{j dr:List Rl}{c_:List Nat}{g:TG}{tt:TT}{o:Qs->TB}{p:TI}(hc:X.calm=Qo)(S:dt X scope j dr c_)(r:PI X a b p)
  (t:∀(cl:List (Rl×Qs)) (C:Qs) (k:List Qs) (s:QA) (H:Hp),PG (aK X j scope cl C k s H) a g/\dQ (aK X j scope cl C k s H) f tt/\∀D,PB (aK X j scope cl C k s H) (.S d) (⟨a,b,f,0⟩::rest) scope pos 0 D (o D))
  (hs:∀x,RC b X.env x=SY x:=by intro _;rfl):PE X (.SetComp d (⟨a,b,f,0⟩::rest) scope pos) (lq (λD=>ml X.prog X.w D []) dr c_ p λD J=>c5 J g tt (o D)):=by
 intro i s u H Q I h;refine TF (use:=Qh) rfl hs (S.clo I.ok) S.kind S.loc (Rw (r i s u H _ I h) (λv W y=>Rw y (λB Y F=>?_) λ_ _ x=>x) λ_ _ x=>x);obtain⟨it,k,Z,J,H2,e,L,T,l,f2,q⟩:=F;subst e;refine gU (c:= .S d) K8 (RR:=λacc C=>YQ (Q4 X.prog X.w) X.A X.xe Qh _ acc C) hc S t L T l f2 q λD C s' N m O ns R U=>?_;exact⟨m,ns,λh' n=>⟨.ref D,N,O.letgo R n,rfl,U⟩⟩
def vY(P:Rc)(w:Ro)(K:QR):List V->Hp->VK->Prop:=λxs H Q=>∃a ys,xs=[.ref a]/\H a=on (ml P w a ys)/\(∀x∈ys,hO K H x.2 (x.1.map V.int)/\1<=x.1.length)/\ys.length<64/\
 ∀(l:Qs) (b:List (List Int×Qs)),H l=Qh->b.Perm ys->Up (b.map (·.1))->Q (.ref l) (upd H l (.lst (b.map λz=>V.ref z.2)))
theorem vD(hc:X.calm=Qo):cL X (.builtin "sorted") (vY X.prog X.w X.K):=by
 intro c s j H xs us Q I r h;obtain⟨a,ys,rfl,ha,d,hn,q⟩:=h;obtain⟨u,rfl,rfl⟩:=ij r;have S:qP X.prog X.w a ys s.heap:=(I.hok a _ ha).1;refine xg (I.ok.hd hc) (S.to λx h=>mR I (d x h).1) (λx h=>(d x h).2) hn λl h' e f b p g i hs keep m=>?_;refine⟨.ref l,_,I.laid (t':=e) (o:= .lst (b.map λz=>V.ref z.2)) keep hs ⟨?_,b.map λk=>QU k.2,f,?_,i⟩,rfl,q l b (I.hok.fresh hs) p g⟩
 .rw[Qi,p.length_eq,SU];omega
 .exact qS b
end
end L2.Hs
namespace L2.Pu
open PySem PySem.Spec PyProof.Rows L2.Hs
def gR(nv:Nat)(c_:List Nat)(it:FL)(tg:m4)(tt:Dn->M Bool)(b:FL)(a:List D->Option D):FD:=λδ β=>match it δ β with
 |none=>Qh
 |some (.error C,β1)=>on (.error C,β1)
 |some (.ok ds,β1)=>match o0 tg tt b ds (l0 nv c_ δ) β1 with
  |some (.ok os,β2)=>(a os).map λd=>(.ok d,β2)
  |_=>Qh
section
variable{K:QR}{E:St->XK}
theorem qV{R:AR}{p:Qs->HO}{c:List D->Option D}{dr:List Rl}{c_:List Nat}{it:FL}{g:TG}{tg:m4}{tt:Dn->M Bool}{T:Qs->TB}{b:FL}(hg:c7 K g tg)(sg:eD tg)(hb:∀D,eE K R D (T D) b)
  (r0:∀F H D,R.R F (upd H D (p D)) D []) (hp:∀os d,c os=on d->R.Z os) {U:St} {H:Hp} {Q W:VK} (h:tV K (gR dr.length c_ it tg tt b c) E U H W)
  (k:∀F B f D os d,Fr F B f->¬F.A D->R.R F B D os->c os=on d->(∀v j,To F B j f->cx K F j d v->W v j)->Q (.ref D) B):
  lq p dr c_ (iV K it E) (λD J=>c5 J g (hY K tt E0) (T D)) U H Q:=by
 obtain⟨F,δ,β,fr,X,r,f,e,h⟩:=h;unfold gR at e;refine⟨F,δ,β,fr,X,?_⟩;split at e
 .cases e
 .rename_i C β1 q
  cases e;exact⟨.error C,_,q,h⟩
 .rename_i ds β1 q
  split at e
  .rename_i os β2 q2
   cases hd:c os with
   |none=>rw[hd]at e;cases e
   |some d=>
    rw[hd]at e;cases e;refine⟨.ok ds,β1,q,λJ I t hJ D m=>?_⟩;have i:¬F.A D:=t.fr.fresh m;have nb:∀b l,F.bg=on (b,l)->D≠b/\D≠l:=λb l z=>⟨λw=>i (w▸(fr.bgA b l z).1),λw=>i (w▸(fr.bgA b l z).2.1)⟩;have Y:=t.fr.upd (p D) m;have L:Fr ⟨λa=>F.A a\/a=D,F.bg⟩ (upd I D (p D)) β1:=by
     refine⟨λa ha z=>?_,λb l z=>let ⟨x,y,w⟩:=fr.bgA b l z;⟨.inl x,.inl y,w⟩,Y.fr.bag⟩
     rcases ha with ha|ha
     .exact Y.fr.occ a ha z
     .subst ha;rw[ah]at z;cases z
    have u:Tr F I ⟨λa=>F.A a\/a=D,F.bg⟩ (upd I D (p D)):=⟨λa ha hs z=>by
     rcases z with z|z
     .exact ha z
     .subst z;exact hs m,λa o ha z=>by rw[b_ (ay z m)];exact z,rfl⟩
    refine qy (R:=R) (D:=D) (as:=[]) (os:=os) hg sg (hb D) L (.inr rfl) nb (vi (X.tr ((t.tr fr).trans u))) (r0 _ _ _) (hJ.tr u) q2 (hp os d hd) λσ1 j N vk3 O=>?_;have tf:To F I j f:=by
     refine⟨λa o z n=>N.kp a o (by rw[b_ (ay z m)];exact z) (ay z m) n,λa ha z=>N.fr.occ a (S5 ha) z,fr.bgA,N.fr.bag⟩
    exact k F j f D os d tf.fr i (R.tr (F:=⟨λa=>F.A a\/a=D,F.bg⟩) O (λ_ z=>z) ⟨λa ha _ z=>ha (S5 z),λa o _ z=>z,rfl⟩) hd λv H3 t4 hv=>h v H3 ((t.trans tf).trans t4) hv
  .cases e
noncomputable abbrev k_(k:List Int):D:= .tup (k.map .int)
theorem qG{k:List Int}(h:cx K F H (k_ k) v):∃b,v= .ref b/\hO K H b (k.map V.int):=by
 obtain⟨a,xs,rfl,sq,c⟩:=cx.sqT h;cases bb.ints k c;exact⟨a,rfl,sq⟩
theorem gb(h:k_ k=k_ l):k=l:=by
 injection h with h
 exact WU (λa b z=>by injection z)|>.mp h
theorem gJ{α:Type} [BEq α] [LawfulBEq α]:∀{l m:List α},l.Nodup->(∀x∈l,x∈m)->l.length<=m.length
 |[],_,_,_=>RB _
 |a::l,m,nd,h=>by
  obtain⟨c,d⟩:=Rf.mp nd;have:=gJ (m:=m.erase a) d λx b=>(Y8 (λ(z:x=a)=>c (z▸b))).mpr (h x (Qk a b));rw[Yi (h a Qq)]at this;have:=YC (h a Qq);rw[QP];omega
noncomputable def RS(P:Rc)(w:Ro)(K:QR):AR where
 R:=λF H D as=>∃xs,H D=on (ml P w D xs)/\(xs.map (·.1)).Nodup/\(∀x∈xs,cx K F H (k_ x.1) (.ref x.2)/\k_ x.1∈as)/\∀d∈as,∃k∈xs.map (·.1),d=k_ k
 Z:=λl=>∃ks:LI,ks.length<63/\∀d∈l,∃k∈ks,d=k_ k
 tr:=λh k t=>by
  obtain⟨xs,a,b,c,f⟩:=h;exact⟨xs,k _ a,b,λx e=>⟨cx.tr t _ _ (c x e).1,(c x e).2⟩,f⟩
 zp:=λh=>by
  obtain⟨ks,a,b⟩:=h;exact⟨ks,a,λd hd=>b d (Tj _ hd)⟩
theorem EQ{P:Rc}{w:Ro}{D:Qs}:eE K (RS P w K) D (BZ P w K D (tV K f E0)) (nj f):=λF H δ β u R as os Q fr T A J U e W k=>by
 obtain⟨xs,X,nd,j,ha⟩:=U;obtain⟨d,β1,Y,Z⟩:=M.bind_inv e;cases Z;refine⟨F,δ,β,fr,J,E0.run Y λv B t L=>?_⟩;have C:=t.kp D _ X A;obtain⟨ks,z1,N⟩:=W;obtain⟨r,hk',rfl⟩:=N d (Rq _ Qq);obtain⟨b,rfl,sq⟩:=qG L;have c:∀x∈xs,cx K F B (k_ x.1) (.ref x.2):=λx h=>cx.tr (t.tr fr) _ _ (j x h).1;have g:xs.length<63:=by
  have:=gJ (m:=ks) nd λx I=>by
   obtain⟨y,hy,rfl⟩:=QC.mp I;obtain⟨l,hl,e⟩:=N _ (Tj _ (j y hy).2);rw[gb e];exact hl
  rw[Qi]at this;omega
 refine⟨xs,r,b,C,rfl,sq,λx h=>?_,g,λi c1 c2=>?_⟩
 .obtain⟨b',e,q⟩:=qG (c x h)
  cases e;exact q
 have O:l9 F D B (upd B D (ml P w D i)) u:=by
  refine⟨λa o h n _=>by rw[b_ n];exact h,λa h q=>?_,fr.bgA,λb l q=>?_⟩
  .by_cases z:a=D
   .subst z;rw[ah]at q;cases q
   .rw[b_ z]at q;exact t.fr.occ a h q
  .rw[b_ (A b l q).1.symm,b_ (A b l q).2.symm]
   exact t.fr.bag b l q
 have tt:=O.tr t.fr T;refine k R _ ((t.toD D).trans O) (J.tr ((t.tr fr).trans tt)) ⟨i,ah,?_⟩;by_cases hm:r∈xs.map (·.1)
 .cases c1 hm
  refine⟨nd,λx h=>⟨cx.tr tt _ _ (c x h),Tj _ (j x h).2⟩,λd hd=>?_⟩;rcases RK.mp hd with hd|hd
  .exact ha d hd
  .exact⟨r,hm,Q5.mp hd⟩
 .have p:=c2 hm
  refine⟨(p.map (·.1)).nodup_iff.mpr (Rf.mpr ⟨hm,nd⟩),λx h=>?_,λd hd=>?_⟩
  .rcases QD.mp (p.mem_iff.mp h)with rfl|h
   .exact⟨cx.tr tt _ _ L,Rq _ Qq⟩
   .exact⟨cx.tr tt _ _ (c x h),Tj _ (j x h).2⟩
  .rcases RK.mp hd with hd|hd
   .obtain⟨k2,h2,e⟩:=ha d hd
    exact⟨k2,(p.map (·.1)).mem_iff.mpr (Qk _ h2),e⟩
   .exact⟨r,(p.map (·.1)).mem_iff.mpr Qq,Q5.mp hd⟩
def W_(ks:LI)(os:List D):Prop:=Up ks/\ks.length<63/\(∀k∈ks,1<=k.length/\k_ k∈os)/\∀d∈os,∃k∈ks,d=k_ k
theorem W_.eq{os:List D}(a:W_ ks os)(b:W_ ls os):ks=ls:=wZ a.1 b.1 λx=>⟨λh=>by
 obtain⟨l,c,e⟩:=b.2.2.2 _ (a.2.2.1 x h).2;rw[gb e];exact c,λh=>by
 obtain⟨l,c,e⟩:=a.2.2.2 _ (b.2.2.1 x h).2;rw[gb e];exact c⟩
open Classical in
def kq(os:List D):Option D:=if h:∃ks,W_ ks os then on (.lst (h.choose.map k_))else Qh
theorem DJ{ks:LI}{os:List D}(h:W_ ks os):kq os=on (.lst (ks.map k_)):=by
 have q:∃ks,W_ ks os:=⟨ks,h⟩;unfold kq;rw[dif_pos q,q.choose_spec.eq h]
theorem qY{os:List D}(h:kq os=on d):∃ks,W_ ks os/\d= .lst (ks.map k_):=by
 unfold kq at h;split at h
 .rename_i q
  cases h;exact⟨_,q.choose_spec,rfl⟩
 .cases h
theorem rG:∀{a:List (List Int×Qs)},(∀z∈a,cx K F H (k_ z.1) (.ref z.2))->bb K F H ((a.map (·.1)).map k_) (a.map λz=>V.ref z.2)
 |[],_=>bb.nil
 |z::a,h=>bb.cons (h z Qq) (rG λx b=>h x (Qk z b))
end
section
variable{X:Cx}{E:St->XK}{elt cy iter:Expr}{ifs:List Expr}{rest:List Ss}{scope:Scope}{pos p pos':Vm}{Nc dr:List Rl}{c_:List Nat}{g:TG}{tb:Qs->TB}
theorem CV(i:Gl X "sorted")(hm:X.mg "sorted"=Qh)(hc:X.calm=Qo)(S:dt X scope Nc dr c_)(o:PI X cy iter (iV X.K it E))
  (r:∀(cl:List (Rl×Qs)) (C:Qs) (j:List Qs) (s:QA) (H:Hp),PG (aK X Nc scope cl C j s H) cy g/\dQ (aK X Nc scope cl C j s H) ifs (hY X.K tt E0)/\∀D,PB (aK X Nc scope cl C j s H) (.S elt) (⟨cy,iter,ifs,0⟩::rest) scope pos 0 D (tb D))
  (t:c7 X.K g tg) (u:eD tg) (A:∀D,eE X.K (RS X.prog X.w X.K) D (tb D) b) (hs:∀x,RC iter X.env x=SY x:=by intro _;rfl):
  PE X (.Call (.Name "sorted" p) [.SetComp elt (⟨cy,iter,ifs,0⟩::rest) scope pos] [] pos') (tV X.K (gR dr.length c_ it tg tt b kq) E):=
 (kD (vD hc) i hm (by kernel_rfl) (dN (KQ hc S o r hs) fI)).imp λY H Q h=>by
  refine qV (Q:=λv B=>vY X.prog X.w X.K [v] B Q) t u A (λF H D=>⟨[],ah,.nil,λx a=>QX a (by simp),λd hd=>QX hd (by simp)⟩) (λos d e=>?_) h λF Z I D os d fr J L e q=>?_
  .obtain⟨ks,s,_⟩:=qY e
   exact⟨ks,s.2.1,s.2.2.2⟩
  .obtain⟨ks,s,rfl⟩:=qY e
   obtain⟨xs,N,nd,a,ha⟩:=L;have k:∀x∈xs,x.1∈ks:=λx h=>by
    obtain⟨l,f,e⟩:=s.2.2.2 _ (a x h).2;rw[gb e];exact f
   have hn:xs.length<64:=by
    have:=gJ (m:=ks) nd λy c=>by
     obtain⟨x,h,rfl⟩:=QC.mp c;exact k x h
    rw[Qi]at this;have:=s.2.1;omega
   refine⟨D,xs,rfl,N,λx h=>?_,hn,λl O f n R=>?_⟩
   .obtain⟨b',e,q⟩:=qG (a x h).1
    cases e;exact⟨q,(s.2.2.1 _ (k x h)).1⟩
   .have T:ks=O.map (·.1):=wZ s.1 R λy=>by
     refine⟨λc=>?_,λc=>?_⟩
     .obtain⟨k2,U,e⟩:=ha _ (s.2.2.1 y c).2
      rw[gb e];exact(n.map (·.1)).mem_iff.mpr U
     .obtain⟨x,h,rfl⟩:=QC.mp ((n.map (·.1)).mem_iff.mp c)
      exact k x h
    rw[T]at q;exact q _ _ (fr.upd _ f) (cx.newL fr f (rG λz W=>(a z (n.mem_iff.mp W)).1))
end
end L2.Pu
namespace L2.Hs
open PySem PySem.Spec PyProof.Rows
section
variable{prog:Rc}{w:Ro}{A:RG}{E:Qv->QA->Prop}{s:QA}
def E_(prog:Rc)(w:Ro)(h:RQ)(k:fh)(a:Qs):Prop:=∃o n t b,h.get? a=on o/\o.cls= .type "tuple"/\o.data= .seq #[.int k.1 t,.ref b] n/\(hU prog w).is h k.2 b
theorem E_.ty(x:E_ prog w s.heap k a):s.TypeIs (.ref a) "tuple":=let ⟨o,_,_,_,ho,hc,_⟩:=x;⟨o,ho,hc⟩
theorem E_.inj(f:E_ prog w h x a)(g:E_ prog w h y a):x=y:=by
 obtain⟨o,n,t,b,i,_,hd,j⟩:=f;obtain⟨k,p,t',q,d,_,c,e⟩:=g;obtain rfl:o=k:=Q7 (i.symm.trans d);rw[hd]at c;simp only[Data.seq.injEq,Array.mk.injEq,TC,Ud.injEq,QU.injEq]at c;obtain⟨⟨⟨l,_⟩,m,_⟩,_⟩:=c;subst m;exact RW l ((hU prog w).inj j e)
theorem Nd(k:List Int):hsh prog w k=hI k:=by unfold hsh hI;show tupleKeyHash _ _=_;unfold tupleKeyHash;rfl
theorem Nf{k:fh}(g:A.units+1<U4)(f:E_ prog w s.heap k a)(h:Q (hB Qo k) {s with toks:=s.toks+(k.2.length+3)}):QJ (Q4 prog w) A (pyHash (.ref a)) Q E s:=by
 have c:=f.ty;obtain⟨o,n,t,b,i,_,hd,j⟩:=f;unfold pyHash
 first|unfold pyHashByItsType|skip
 refine My (wpAny_cRoomFor_or (.inr (by omega)) ?_);refine My (Tu c F.slot_tuple_hash.lookup ?_);show QJ _ _ (if(on (Value.builtin "tuple.__hash__")==on RA)=Qo then _ else _) Q E s;rw[Qp (by rw[beq_builtin_none];exact Qx)];refine My (Tu c F.slot_tuple_hash.lookup ?_);show QJ _ _ (callSpecialIfBoundUnlessNone? (.ref a) "__hash__" _>>=_) Q E s;refine My (wpAny_callSpecialIfBoundUnlessNone?_slot c F.slot_tuple_hash (Rt F.slot_tuple_hash c F.entry_tuple_hash ?_ (F.args_tuple_hash_1 _)));show QJ _ _ (Builtin.Tuple.tupleItemsOf (.ref a)>>=_) _ _ s;refine My (Xv i hd ?_);refine My ?_;rw[<-Uu];simp only[Tg,Tx];refine My (My (wpAny_pyHash_int ?_));refine Qj (My (My ((hU prog w).pyHash g j ?_)));refine Qj (Qj ?_);have h':Q (hB Qo k) {s with toks:=s.toks+1+(k.2.length+1)+1}:=by
  have e:s.toks+1+(k.2.length+1)+1=s.toks+(k.2.length+3):=by omega
  rw[e];exact h
 refine wpAny_ret_mkInt ?_;generalize l:US _=z;have m:hB Qo k=reduceHash z:=by rw[<-l,show(hU prog w).hash k.2=hI k.2 from Nd k.2];rfl
 rw[m]at h';show QJ _ _ (if(decide (-(2:Int)^63<=z)&&decide (z<2^63))=Qo then _ else _) Q E _;unfold reduceHash at h';by_cases d:(decide (-(2:Int)^63<=z)&&decide (z<2^63))=Qo
 .rw[Qt d]
  rw[Qt d]at h';exact Qj h'
 .rw[Qp d]
  rw[Qp d]at h';exact My (T4 (Qj h'))
theorem eq_p(q:A.units+1<U4)(d:E_ prog w s.heap x a)(f:E_ prog w s.heap y b)(h:Q (decide (x=y)) s):QJ (Q4 prog w) A (eqBool (.ref a) (.ref b)) Q E s:=by
 unfold eqBool
 try with_reducible refine R3 ?_
 show QJ _ _ (if(QU a==QU b)=Qo then _ else _) Q E s;by_cases c:(QU a==QU b)=Qo
 .rw[Qt c]
  have e:a=b:=by have:=eq_of_beq c;injection this
  subst e;obtain rfl:=d.inj f;exact My (T4 (Qj (by simpa using h)))
 .rw[Qp c]
  refine My (wpAny_richCompare_same_room (op:= .Eq) d.ty f.ty F.slot_tuple_eq
   (Rt F.slot_tuple_eq d.ty F.entry_tuple_eq ?_ (F.args_tuple_eq_2 _ _)) (by omega))
  have j:=f.ty;obtain⟨r,t,u,v,k,_,l,m⟩:=d;obtain⟨B,C,H,I,n,_,o,p⟩:=f;show QJ _ _ (Xr (.ref b) (.type "tuple")>>=_) _ _ s;refine My (Td j WR ?_);simp only[S7,QS,RH];refine My (Xv k l ?_);refine My (Xv n o ?_);refine My ?_;simp only[Sk,W7,Tg,Tx];refine My (My ((WE prog w).eqBool (a:=x.1) (b:=y.1) (by simp[WE,YL]) (by simp[WE,YL]) ?_));by_cases g:x.1=y.1
  .rw[QL g]
   refine Qj (My (My ((hU prog w).eqBool q m p ?_)));by_cases i:x.2=y.2
   .rw[QL i]
    rw[QL (RW g i)]at h;exact Qj (Qj (Qj ⟨_,rfl,(λe=>nomatch e),RP h⟩))
   .rw[Rk i]
    rw[Rk (λe=>i (RE _ e))]at h;exact My (Qj (Qj (Qj (Qj ⟨_,rfl,(λe=>nomatch e),RP h⟩))))
  .rw[Rk g]
   rw[Rk (λe=>g (RE _ e))]at h;exact My (Qj (Qj (Qj (Qj ⟨_,rfl,(λe=>nomatch e),RP h⟩))))
theorem KJ(e:(hU prog w).is s.heap k a)(h:Q Qo s):QJ (Q4 prog w) A (ZQ (m+1) (.ref a)) Q E s:=by
 have f:=Yq e;obtain⟨o,items,n,g,_,hd,i⟩:=e;unfold ZQ;refine My (Tu f F.slot_tuple_eq.lookup ?_);show QJ _ _ (Xr (.ref a) (.type "tuple")>>=_) _ _ s;refine My (Td f WR ?_);simp only[S7,QS,RH];refine My (SF g hd ?_);refine My ?_;show QJ _ _ (YT items _ _) _ _ s;rw[<-Uu];refine Wu _ (λrest r s'=>r.1=Qh/\s'=s/\∀v∈rest,carriedByValue v=Qo) _ ?_ ?_ _ _ ⟨rfl,rfl,i.byValue⟩
 .rintro v rest r s' ⟨c,rfl,b⟩
  rw[eqIsQuiet_byValue _ (b v Qq)];refine My (Qj ?_);simp only[S7,QS,RH];exact Qj ⟨rfl,rfl,λu d=>b u (Qk _ d)⟩
 .rintro⟨r1,j⟩ s' ⟨c,rfl,_⟩
  simp only at c;subst c;exact Qj h
theorem KK(c:E_ prog w s.heap k a)(h:Q Qo s):QJ (Q4 prog w) A (ZQ 8 (.ref a)) Q E s:=by
 have d:=c.ty;obtain⟨o,n,t,b,e,_,hd,f⟩:=c;unfold ZQ;refine My (Tu d F.slot_tuple_eq.lookup ?_);show QJ _ _ (Xr (.ref a) (.type "tuple")>>=_) _ _ s;refine My (Td d WR ?_);simp only[S7,QS,RH];refine My (SF e hd ?_);refine My ?_;show QJ _ _ (YT #[Ud k.1 t,QU b] _ _) _ _ s;rw[<-Uu];simp only[Tg,Tx];rw[eqIsQuiet_byValue _ (v:= .int k.1 t) rfl];exact My (My (Qj (Qj (My (My (KJ (m:=6) f (Qj (Qj (Qj h)))))))))
def PKd(prog:Rc)(w:Ro):HeapKind prog w fh where
 is:=E_ prog w
 hash:=hB Qo
 draws:=λk=>k.2.length+3
 room:=λA=>A.units+1<U4
 inj:=λd e=>d.inj e
 keeps:=λx i hd hs=>by
  obtain⟨j,n,t,b,c,hc,a,l⟩:=x;refine⟨j,n,t,b,(hs.2 _ ?_).trans c,hc,a,(hU prog w).keeps l i hd hs⟩;rintro rfl;obtain rfl:=Q7 (c.symm.trans i);rw[hd]at a;exact nomatch a
 pyHash:=λf g h=>Nf f g h
 eqBool:=λf d e h=>eq_p f d e h
 quiet:=λg h=>KK g h
def FKd(prog:Rc)(w:Ro):HeapKind prog w fh where
 is:=λh k a=>k.1=0/\(hU prog w).is h k.2 a
 hash:=hB Qr
 draws:=λk=>k.2.length+1
 room:=λA=>A.units+1<U4
 inj:=λc d=>RW (c.1.trans d.1.symm) ((hU prog w).inj c.2 d.2)
 keeps:=λx i hd hs=>⟨x.1,(hU prog w).keeps x.2 i hd hs⟩
 pyHash:=λf g h=>(hU prog w).pyHash (Xc f) g.2 h
 eqBool:=λ{A E s x y a b Q} f c d h=>(hU prog w).eqBool (Xc f) c.2 d.2 (by
  have e:decide (x.2=y.2)=decide (x=y):=by
   by_cases q:x.2=y.2
   .rw[QL q,QL (RW (c.1.trans d.1.symm) q)]
   .rw[Rk q,Rk (λz=>q (RE _ z))]
  rw[e];exact h)
 quiet:=λg h=>(hU prog w).quiet g.2 h
def KB(prog:Rc)(w:Ro):Bool->HeapKind prog w fh
 |true=>PKd prog w
 |false=>FKd prog w
theorem mP{b:Bool}:(KB prog w b).hash=hB b:=by cases b<;>rfl
theorem iA{b:Bool}{A:RG}(h:A.units+1<U4):(KB prog w b).room A:=by cases b<;>exact h
def t5(K:QR)(H:Hp):Bool->fh->Qs->Prop
 |true,k,c=>∃e,hO K H c [.int k.1,.ref e]/\hO K H e (k.2.map V.int)
 |false,k,c=>k.1=0/\hO K H c (k.2.map V.int)
abbrev XY(x:fh×Qs×V)(y:fh×Qs×Qv):Prop:=x.1=y.1/\x.2.1=y.2.1/\aL x.2.2 y.2.2
theorem mo:∀{xs:List (fh×Qs×V)} {ys:List (fh×Qs×Qv)},VV XY xs ys->xs.map (·.1)=ys.map (·.1)
 |_,_,.nil=>rfl
 |_,_,.cons h t=>by rw[QB,QB,h.1,mo t]
theorem yF:∀{xs:List (fh×Qs×V)} {ys:List (fh×Qs×Qv)},VV XY xs ys->∀y∈ys,∃x∈xs,XY x y
 |_,_,.nil,y,h=>by cases h
 |_,_,.cons (a:=a) h t,y,hy=>by
  rcases QD.mp hy with rfl|hy
  .exact⟨a,Qq,h⟩
  .obtain⟨x,b,e⟩:=yF t y hy
   exact⟨x,Qk _ b,e⟩
noncomputable def mm(xs:List (fh×Qs×V))(k:fh):Option V:=(xs.find? λx=>decide (x.1=k)).map (·.2.2)
theorem jF:∀{xs:List (fh×Qs×V)} {ys:List (fh×Qs×Qv)},VV XY xs ys->ib (mm xs k) ((Xi ys k).map (·.2))
 |_,_,.nil=>by simp[mm,Xi,ib]
 |_,_,.cons (a:=a) (b:=b) h t=>by
  have ih:=jF (k:=k) t;unfold mm Xi at ih⊢;rw[SN,SN,<-h.1];by_cases q:a.1=k
  .rw[QL q];exact h.2.2
  .rw[Rk q];exact ih
theorem p7(h:XY x y):∀{xs:List (fh×Qs×V)} {ys:List (fh×Qs×Qv)},VV XY xs ys->VV XY (xs++[x]) (ys++[y])
 |_,_,.nil=> .cons h .nil
 |_,_,.cons h' t=> .cons h' (p7 h t)
variable{X:Cx}{ba:List (Qs×Q0)}{σ:St}{H:Hp}
theorem kN{b:Bool}(I:c4 X ba σ H s)(h:t5 X.K H b k c):(KB X.prog X.w b).is s.heap k c:=by
 cases b with
 |true=>
  obtain⟨e,a,d⟩:=h;obtain⟨its,f,⟨o,g,hc,n,hd⟩,_⟩:=I.tuple a;obtain⟨i,j,rfl,⟨t,rfl⟩,rfl⟩:=sk f;exact⟨o,n,t,e,g,hc,hd,mR I d⟩
 |false=>exact⟨h.1,mR I h.2⟩
theorem L4{ba:List (Qs×Q0)}{σ:St}{H:Hp}{s:QA}(I:c4 X ba σ H s):Xs<s.heap.objs.size:=Vj (by decide) (show SS<s.heap.objs.size from(I.mod.glob.keeps I.bk).lt)
theorem i7{b:Bool}(I:c4 X ba σ H s)(d:H a=on (bu a b ep xs))(e:∀x∈xs,t5 X.K H b x.1 x.2.1):∃ys,s.heap.DictOfH (KB X.prog X.w b) a ys/\VV XY xs ys/\ys.length<=QN/\(a==Xs)=Qr:=by
 obtain⟨o,es,ys,f,g,h,i,j,k,l,c⟩:yC a b ep xs s.heap:=(I.hok a _ d).1;refine⟨ys,⟨o,es,ep,f,g,h,?_,λy m=>?_,j⟩,c,l,k⟩
 .rw[i];unfold YS;rw[mP]
 .obtain⟨x,n,p,q,_⟩:=yF c y m
  rw[<-p,<-q];exact kN I (e x n)
def Mx(K:QR):R2:=λx y H Q=>∃a b ep xs k c v,x= .ref a/\y= .ref c/\H a=on (bu a b ep xs)/\(∀x∈xs,t5 K H b x.1 x.2.1)/\t5 K H b k c/\mm xs k=on v/\Q v H
theorem uN(l:X.A.units+2<U4):D_ X (Mx X.K):=by
 intro g i ba s σ H x y v u Q I m n h hs;obtain⟨a,b,ep,xs,k,c,o,rfl,rfl,t,B,hc,C,q⟩:=h;cases m;cases n;obtain⟨ys,d,p,_,_⟩:=i7 I t B;have f:=jF (k:=k) p;rw[C]at f;cases e:Xi ys k with
 |none=>rw[e]at f;exact f.elim
 |some r=>
  rw[e]at f;exact WG (x:=r.2) d.typeIs PySem.F.slot_dict_getitem.lookup (wpAny_getItem_heap (Q:=λj s'=>j=r.2/\EP X ba σ Q j s') (iA l) (kN I hc) d e ⟨rfl,o,H,I.tok _,f,q⟩) hs
theorem nW{b:Bool}:Mks X newDict λD=>bu D b 0 []:=λba s σ H E Q I h=>RO (h _ (I.laid (t':=s.toks) (λ_ _ q=>Qm _ q) (Qz _) (j4 ⟨_,#[],[],QK _ rfl,⟨rfl,rfl,rfl⟩,rfl,rfl,.nil,beq_eq_false_iff_ne.mpr (Ne.symm (Rr (L4 I))),RB _,.nil⟩)) λb o e=>Qm _ e)
def CA(K:QR)(b:Bool)(D:Qs)(e f:TE):TB:=λσ H Q=>e σ H λx g=>f σ g λy a=>∃ep xs k c,x= .ref c/\a D=on (bu D b ep xs)/\(∀x∈xs,t5 K a b x.1 x.2.1)/\t5 K a b k c/\k∉xs.map (·.1)/\xs.length<QN/\∀d,Q σ (upd a D (bu D b d (xs++[(k,c,y)])))
theorem kE{D:Qs}{b:Bool}(L:X.A.units+1<U4)(N:gens[d+1]?=Qh)(O:PE X ke tk)(R:PE X ve tv)(a:X.xe=λ_ _=>False):PB X (.D ke ve) gens scope pos d D (CA X.K b D tk tv):=by
 intro ba s σ H Q I h k Q' E' T;unfold gW;rw[N];show QJ _ _ (emC (.D ke ve) (.ref D) X.env>>=λ_=>k) _ _ _;unfold emC;have t:=O ba s σ H _ I h;rw[a]at t;refine My (My (Rw t (λu U W=>?_) λ_ _ f=>f.elim));obtain⟨v,Y,Z,r,q1⟩:=W;have B:=R ba U σ Y _ Z q1;rw[a]at B;refine My (R3 (Rw B (λu2 s2 h4=>?_) λ_ _ f=>f.elim));obtain⟨v2,H2,i,r2,ep0,xs,j,c,rfl,C,hx,hc,hn,hl,q⟩:=h4;cases r;obtain⟨ys,dd,p,hz,l⟩:=i7 i C hx;have F:=mo p;have e0:Xi ys j=Qh:=by
  cases e:Xi ys j with
  |none=>rfl
  |some r=>
   exfalso
   unfold Xi at e;cases m:ys.find? (λx=>decide (x.1=j))with
   |none=>rw[m]at e;cases e
   |some y=>
    have:=List.find?_some m;exact hn (by rw[F];exact QC.mpr ⟨y,List.mem_of_find?_eq_some m,RI this⟩)
 refine My (SG (R3 (wpAny_dictSet_heap (iA L) (kN i hc) dd (λh' d' sb=>?_) hz)));rw[storedH_new e0]at d';obtain⟨o,es,ep,J,g2,g3,g4,g5,g6⟩:=d';have g:ys.length=xs.length:=by rw[<-Qi (f:=(·.1)),<-F,Qi]
 refine T _ σ _ (i.write (by rw[C];trivial) (.inl rfl) (λb u n e=>(sb.2 b n).trans e) ⟨o,J⟩ (j4 ⟨o,es,_,J,g2,g3,?_,g6,l,?_,p7 ⟨rfl,rfl,r2⟩ p⟩)) (q ep)
 .rw[g4];unfold YS;rw[mP]
 .rw[QV,g,Ry];omega
theorem DY{b:Bool}{k l a d:Expr}{f:List Expr}{rest:List Ss}{scope:Scope}{pos:Vm}{i dr:List Rl}{c_:List Nat}{g:TG}{tt:TT}{p:Qs->TB}{r:TI}(hc:X.calm=Qo)(S:dt X scope i dr c_)(t:PI X a d r)
  (u:∀(cl:List (Rl×Qs)) (C:Qs) (j:List Qs) (s:QA) (H:Hp),PG (aK X i scope cl C j s H) a g/\dQ (aK X i scope cl C j s H) f tt/\∀D,PB (aK X i scope cl C j s H) (.D k l) (⟨a,d,f,0⟩::rest) scope pos 0 D (p D))
  (hs:∀x,RC d X.env x=SY x:=by intro _;rfl):PE X (.DictComp k l (⟨a,d,f,0⟩::rest) scope pos) (lq (λD=>bu D b 0 []) dr c_ r λD J=>c5 J g tt (p D)):=by
 intro ba s σ H Q I h;refine TF (use:=Qh) rfl hs (S.clo I.ok) S.kind S.loc (Rw (t ba s σ H _ I h) (λv W y=>Rw y (λB Y F=>?_) λ_ _ x=>x) λ_ _ x=>x);obtain⟨it,j,Z,J,H2,e,L,T,n,f2,q⟩:=F;subst e;refine gU (c:= .D k l) nW (RR:=λacc C=>YQ (Q4 X.prog X.w) X.A X.xe Qh _ acc C) hc S u L T n f2 q λD C s' N m O ns R U=>?_;exact⟨m,ns,λh' o=>⟨.ref D,N,O.letgo R o,rfl,U⟩⟩
end
end L2.Hs
namespace L2.Pu
open PySem PySem.Spec PyProof.Rows L2.Hs
def dK:Bool->fh->D
 |true,k=> .tup [.int k.1,k_ k.2]
 |false,k=>k_ k.2
def y4(b:Bool)(k:fh):Prop:=b=Qr->k.1=0
theorem Nu{b:Bool}(a:y4 b k)(c:y4 b l)(h:dK b k=dK b l):k=l:=by
 cases b with
 |true=>
  simp only[dK,D.tup.injEq,TC,D.int.injEq,and_true]at h;exact RW h.1 (gb (RE D.tup h.2))
 |false=>exact RW ((a rfl).trans (c rfl).symm) (gb h)
section
variable{K:QR}{F:Fx}{H:Hp}{E:St->XK}
theorem u9(h:cx K F H (.tup ds) v):∃a xs,v= .ref a/\TQ K F H a xs/\bb K F H ds xs:=by
 unfold cx at h;exact h
theorem oF(h:TQ K F H a xs)(hd:bb K F H ds xs):cx K F H (.tup ds) (.ref a):=by
 unfold cx;exact⟨a,xs,rfl,h,hd⟩
theorem TQ.sq(h:TQ K F H c xs):hO K H c xs:=h.imp (·.2) id
theorem eQ.s{b:Bool}(h:eQ K F H b k c):t5 K H b k c:=by
 cases b with
 |true=>
  obtain⟨e,a,d⟩:=h;exact⟨e,a.sq,d.sq⟩
 |false=>exact⟨h.1,h.2.sq⟩
theorem eQ.z{b:Bool}(h:eQ K F H b k c):y4 b k:=λe=>by subst e;exact h.1
theorem mK{b:Bool}(g:y4 b k)(h:cx K F H (dK b k) v):∃c,v= .ref c/\eQ K F H b k c:=by
 cases b with
 |true=>
  obtain⟨a,xs,rfl,q,d⟩:=u9 h;obtain⟨i,j,rfl,d1,d2⟩:=bb.two d;cases d1.int;obtain⟨e,ys,rfl,q2,f⟩:=u9 d2;cases bb.ints k.2 f;exact⟨a,rfl,e,q,q2⟩
 |false=>
  obtain⟨a,xs,rfl,q,d⟩:=u9 h;cases bb.ints k.2 d;exact⟨a,rfl,g rfl,q⟩
theorem Po{b:Bool}(h:eQ K F H b k c):cx K F H (dK b k) (.ref c):=by
 cases b with
 |true=>
  obtain⟨e,a,d⟩:=h;exact oF a (bb.cons rfl (bb.cons (oF d (bb.ofInts k.2)) bb.nil))
 |false=>exact oF h.2 (bb.ofInts k.2)
abbrev x0(b:Bool)(p:fh×D):D:= .tup [dK b p.1,p.2]
def Dk(b:Bool)(kvs:List (fh×D))(os:List D):Prop:=os=kvs.map (x0 b)/\(kvs.map (·.1)).Nodup/\kvs.length<=QN/\∀p∈kvs,y4 b p.1
theorem KY{b:Bool}{p q:fh×D}(a:y4 b p.1)(c:y4 b q.1)(h:x0 b p=x0 b q):p=q:=by
 simp only[x0,D.tup.injEq,TC,and_true]at h;exact RW (Nu a c h.1) h.2
theorem kF{b:Bool}:∀{l m:List (fh×D)},(∀p∈l,y4 b p.1)->(∀p∈m,y4 b p.1)->l.map (x0 b)=m.map (x0 b)->l=m
 |[],[],_,_,_=>rfl
 |[],_::_,_,_,h=>by cases h
 |_::_,[],_,_,h=>by cases h
 |p::l,q::m,hl,hm,h=>by
  rw[QB,QB,TC]at h;rw[KY (hl p Qq) (hm q Qq) h.1,kF (λx a=>hl x (Qk _ a)) (λx a=>hm x (Qk _ a)) h.2]
theorem Dk.eq{b:Bool}{os:List D}(x:Dk b l os)(y:Dk b m os):l=m:=kF x.2.2.2 y.2.2.2 (x.1.symm.trans y.1)
open Classical in
def kS(b:Bool)(os:List D):Option D:=if h:∃kvs,Dk b kvs os then on (.dct b (h.choose.map (·.1)) (h.choose.map (·.2)))else Qh
theorem wN{b:Bool}{kvs:List (fh×D)}{os:List D}(h:Dk b kvs os):kS b os=on (.dct b (kvs.map (·.1)) (kvs.map (·.2))):=by
 have q:∃kvs,Dk b kvs os:=⟨kvs,h⟩;unfold kS;rw[dif_pos q,q.choose_spec.eq h]
theorem vb{b:Bool}{os:List D}(h:kS b os=on d):∃kvs,Dk b kvs os/\d= .dct b (kvs.map (·.1)) (kvs.map (·.2)):=by
 unfold kS at h;split at h
 .rename_i q
  cases h;exact⟨_,q.choose_spec,rfl⟩
 .cases h
noncomputable def RD(K:QR)(b:Bool):AR where
 R:=λF H D as=>∃ep,∃a:List ((fh×Pu.D)×Qs×V),as=a.map (λz=>x0 b z.1)/\H D=on (bu D b ep (a.map λz=>(z.1.1,z.2)))/\∀z∈a,eQ K F H b z.1.1 z.2.1/\cx K F H z.1.2 z.2.2
 Z:=λl=>∃kvs more,Dk b kvs (l++more)
 tr:=λh k t=>by
  obtain⟨ep,a,e,f,c⟩:=h;exact⟨ep,a,e,k _ f,λz d=>⟨(c z d).1.tr t,cx.tr t _ _ (c z d).2⟩⟩
 zp:=λh=>by
  obtain⟨kvs,more,h⟩:=h;exact⟨kvs,_,by rw[<-Sa];exact h⟩
def FR(f g:FD):FL:=λδ=>M.bind (f δ) λk=>M.bind (g δ) λv=>M.ret [.tup [k,v]]
theorem nY{b:Bool}{D:Qs}:eE K (RD K b) D (CA K b D (tV K f E0) (tV K g E0)) (FR f g):=λF H δ β I σ as os Q fr hA B J hR e hz k=>by
 obtain⟨ep,d,rfl,hD,C⟩:=hR;obtain⟨U,β1,e1,e2⟩:=M.bind_inv e;obtain⟨W,β2,e3,e4⟩:=M.bind_inv e2;cases e4;obtain⟨kvs,more,L,X,z3,Y⟩:=hz;have N:∀p∈d.map (·.1),y4 b p.1:=λp r=>by
  obtain⟨z,h,rfl⟩:=QC.mp r;exact(C z h).1.z
 have l1:d.length<kvs.length:=by
  have:=RE VG L;simp at this;omega
 have ez:(d.map (·.1)).map (x0 b)=(kvs.take d.length).map (x0 b):=by
  rw[WO,<-L,Sa,List.take_append_of_le_length (by simp),S6 (by simp),QG];rfl
 have ek:=kF N (λp r=>Y p (Wz r)) ez;have O:x0 b kvs[d.length]= .tup [U,W]:=by
  have Z:(kvs.map (x0 b))[d.length]?=on (.tup [U,W]):=by
   rw[<-L,Sa,SM (by simp)];simp
  rw[Qu,Ql l1]at Z;exact Q7 Z
 have u:=Y _ (Rp l1);generalize r:kvs[d.length]=p at O u;obtain⟨j,vv⟩:=p;simp only[x0,Pu.D.tup.injEq,TC,and_true]at O;obtain⟨rfl,rfl⟩:=O;have y:j∉d.map (·.1.1):=λhm=>by
  have h2:kvs.take d.length++(j,vv)::kvs.drop (d.length+1)=kvs:=by
   rw[<-r,<-Su l1,T3]
  rw[<-h2,<-ek,Rg,QB,UG]at X;refine X.2.2 j ?_ j Qq rfl;rw[QG];exact hm
 refine⟨F,δ,β,fr,J,E0.run e1 λv H1 t hv=>⟨F,δ,β1,t.fr,J.tr (t.tr fr),E0.run e3 λv2 H2 m R=>?_⟩⟩;have T:=cx.tr (m.tr t.fr) _ _ hv;obtain⟨c,rfl,kc⟩:=mK u T;have i:=(t.tr fr).trans (m.tr t.fr);refine⟨ep,_,j,c,rfl,m.kp D _ (t.kp D _ hD B) B,λx h=>?_,kc.s,?_,?_,λA=>?_⟩
 .obtain⟨z,h',rfl⟩:=QC.mp h
  exact((C z h').1.tr i).s
 .rw[QG];exact y
 .rw[Qi];omega
 have tD:l9 F D H2 (upd H2 D (bu D b A ((d.map λz=>(z.1.1,z.2))++[(j,c,v2)]))) I:=by
  refine⟨λa o h n _=>by rw[b_ n];exact h,λa h q=>?_,fr.bgA,λb l q=>?_⟩
  .by_cases z:a=D
   .subst z;rw[ah]at q;cases q
   .rw[b_ z]at q;exact m.fr.occ a h q
  .rw[b_ (B b l q).1.symm,b_ (B b l q).2.symm]
   exact m.fr.bag b l q
 have tt:=tD.tr m.fr hA;refine k σ _ (((t.trans m).toD D).trans tD) (J.tr (i.trans tt)) ⟨A,d++[((j,vv),c,v2)],by rw[Rg];rfl,by rw[Rg];exact ah,λz h=>?_⟩;rcases RK.mp h with h|h
 .exact⟨(C z h).1.tr (i.trans tt),cx.tr (i.trans tt) _ _ (C z h).2⟩
 .cases Q5.mp h
  exact⟨kc.tr tt,cx.tr tt _ _ R⟩
theorem va{F:Fx}{H:Hp}{α:Type}{f:α->D}{g:α->V}:∀{a:List α},(∀z∈a,cx K F H (f z) (g z))->bb K F H (a.map f) (a.map g)
 |[],_=>bb.nil
 |z::a,h=>bb.cons (h z Qq) (va λx b=>h x (Qk z b))
end
theorem u8{K:QR}{E:St->XK}{kb:Bool}{dr:List Rl}{c_:List Nat}{g:TG}{f:Qs->TB}{it:FL}{tg:m4}{tt:Dn->M Bool}{b:FL}(j:c7 K g tg)(k:eD tg)(l:∀D,eE K (RD K kb) D (f D) b){i:St}{H:Hp}{Q:VK}(h:tV K (gR dr.length c_ it tg tt b (kS kb)) E i H Q):
  lq (λD=>bu D kb 0 []) dr c_ (iV K it E) (λD J=>c5 J g (hY K tt E0) (f D)) i H Q:=by
 refine qV j k l (λF H D=>⟨0,[],rfl,ah,λx a=>QX a (by simp)⟩) (λos d e=>?_) h λF v m D os d fr c n e q=>?_
 .obtain⟨kvs,s,_⟩:=vb e
  exact⟨kvs,[],by rw[RJ];exact s⟩
 .obtain⟨kvs,s,rfl⟩:=vb e
  obtain⟨ep,o,rfl,r,a⟩:=n;have t:kvs=o.map (·.1):=kF s.2.2.2 (λp u=>by
   obtain⟨z,h,rfl⟩:=QC.mp u;exact(a z h).1.z) (by rw[<-s.1,QG];rfl)
  refine q _ _ (To.refl fr) ?_;unfold cx;subst t;refine⟨D,ep,_,rfl,⟨c,r⟩,by simp,λx h=>?_,?_⟩
  .obtain⟨z,h',rfl⟩:=QC.mp h
   exact(a z h').1
  .rw[QG,QG]
   exact va λz h=>(a z h).2
section
variable{X:Cx}{E:St->XK}{ke ve cy iter:Expr}{ifs:List Expr}{rest:List Ss}{scope:Scope}{pos:Vm}{Nc dr:List Rl}{c_:List Nat}{g:TG}{tb:Qs->TB}
theorem Km{kb:Bool}(hc:X.calm=Qo)(S:dt X scope Nc dr c_)(c:PI X cy iter (iV X.K it E))
  (d:∀(cl:List (Rl×Qs)) (C:Qs) (a:List Qs) (s:QA) (H:Hp),PG (aK X Nc scope cl C a s H) cy g/\dQ (aK X Nc scope cl C a s H) ifs (hY X.K tt E0)/\∀D,PB (aK X Nc scope cl C a s H) (.D ke ve) (⟨cy,iter,ifs,0⟩::rest) scope pos 0 D (tb D))
  (e:c7 X.K g tg) (f:eD tg) (i:∀D,eE X.K (RD X.K kb) D (tb D) b) (hs:∀x,RC iter X.env x=SY x:=by intro _;rfl):
  PE X (.DictComp ke ve (⟨cy,iter,ifs,0⟩::rest) scope pos) (tV X.K (gR dr.length c_ it tg tt b (kS kb)) E):=
 (DY (b:=kb) hc S c d hs).imp λj H Q h=>u8 e f i h
noncomputable def gY:List D->Option (List Int)
 |[]=>on []
 | .int i::r=>(gY r).map (i::·)
 |_=>Qh
def dC:Bool->D->Option fh
 |false,.tup ds=>(gY ds).map λl=>(0,l)
 |true,.tup [.int i,.tup ds]=>(gY ds).map λl=>(i,l)
 |_,_=>Qh
theorem qa:∀(l:List Int),gY (l.map .int)=on l
 |[]=>rfl
 |i::l=>by show(gY (l.map .int)).map _=_;rw[qa l];rfl
theorem ll:∀{ds:List D} {l:List Int},gY ds=on l->ds=l.map .int
 |[],l,h=>by cases h;rfl
 | .int i::r,l,h=>by
  have h':(gY r).map (i::·)=on l:=h;cases q:gY r with
  |none=>rw[q]at h';cases h'
  |some m=>rw[q]at h';cases h';rw[ll q];rfl
 | .non::_,_,h=>by cases h
 | .bl _::_,_,h=>by cases h
 | .str _::_,_,h=>by cases h
 | .ty _::_,_,h=>by cases h
 | .txt::_,_,h=>by cases h
 | .lst _::_,_,h=>by cases h
 | .tup _::_,_,h=>by cases h
 | .scr _::_,_,h=>by cases h
 | .obj _ _ _::_,_,h=>by cases h
 | .bag::_,_,h=>by cases h
 | .adr _::_,_,h=>by cases h
 | .dct _ _ _::_,_,h=>by cases h
theorem gm{b:Bool}(h:y4 b k):dC b (dK b k)=on k:=by
 cases b with
 |true=>show(gY _).map _=_;rw[qa];rfl
 |false=>show(gY _).map _=_;rw[qa];exact RE on (RW (h rfl).symm rfl)
theorem iX{b:Bool}(h:dC b d=on k):y4 b k/\d=dK b k:=by
 unfold dC at h;split at h
 .rename_i ds
  cases q:gY ds with
  |none=>rw[q]at h;cases h
  |some l=>rw[q]at h;cases h;exact⟨λ_=>rfl,by rw[ll q];rfl⟩
 .rename_i i ds
  cases q:gY ds with
  |none=>rw[q]at h;cases h
  |some l=>rw[q]at h;cases h;exact⟨λz=>(by cases z),by rw[ll q];rfl⟩
 .cases h
noncomputable def la(ks:List fh)(vs:List D)(k:fh):Option D:=((ks.zip vs).find? λp=>decide (p.1=k)).map (·.2)
variable{K:QR}{F:Fx}{H:Hp}
def RelD(K:QR)(F:Fx)(H:Hp):Option D->Option V->Prop
 |none,v=>v=Qh
 |some d,v=>∃u,v=on u/\cx K F H d u
theorem pk:∀{xs:List (fh×Qs×V)} {vs:List D},bb K F H vs (xs.map (·.2.2))->RelD K F H (la (xs.map (·.1)) vs k) (mm xs k)
 |[],vs,_=>by unfold la mm;rfl
 |x::xs,vs,h=>by
  cases vs with
  |nil=>cases h
  |cons d vs=>
   obtain⟨u,r,e,a,b⟩:=h;rw[QB,TC]at e;obtain⟨rfl,rfl⟩:=e;have ih:=pk (k:=k) b;unfold la mm at ih⊢;rw[QB,Sk,SN,SN];by_cases q:x.1=k
   .rw[QL q];exact⟨_,rfl,a⟩
   .rw[Rk q];exact ih
def FM:D->D->Option D
 | .dct b ks vs,y=>(dC b y).bind (la ks vs)
 |_,_=>Qh
theorem JV:aV K (Mx K) FM:=λF H β Q d1 d2 d y A fr h i e k=>by
 unfold FM at e;split at e
 .rename_i b ks vs
  cases q:dC b d2 with
  |none=>rw[q]at e;cases e
  |some f=>
   rw[q]at e;have j:la ks vs f=on d:=e;obtain⟨l,rfl⟩:=iX q;obtain⟨c,rfl,m⟩:=mK l i;unfold cx at h;obtain⟨a,ep,xs,rfl,n,rfl,o,p⟩:=h;have:=pk (k:=f) p;rw[j]at this;obtain⟨u,r,t⟩:=this;exact⟨a,b,ep,xs,f,c,u,rfl,rfl,n.2,λx v=>(o x v).s,m.s,r,k u H (To.refl fr) t⟩
 .cases e
def Pe(K:QR):V->List V->Hp->VK->Prop:=λx ys H Q=>∃a b ep xs k c z,x= .ref a/\ys=[.ref c,z]/\H a=on (bu a b ep xs)/\(∀x∈xs,t5 K H b x.1 x.2.1)/\t5 K H b k c/\Q ((mm xs k).getD z) H
variable{o e:Expr}{es:List Expr}{apos cpos:Vm}
theorem K7(n:X.A.units+2<U4):MtR X "dict.get" (Pe X.K):=by
 intro l s L H x xs v us Q I r t h;obtain⟨a,b,ep,ys,k,c,z,rfl,rfl,u,B,hc,q⟩:=h;cases r;obtain⟨N,C,rfl,r1,J⟩:=sk t;cases r1;obtain⟨j,d,p,_,hs⟩:=i7 I u B;have f:=jF (k:=k) p;refine call_meetsIn Yl d.typeIs PySem.F.entry_dict_get (PySem.F.args_dict_get_3 _ _ _) (meetsH_dict_get_default (KB X.prog X.w b) a c hs C) ⟨iA n,k,j,kN I hc,d,_,H,I.tok _,?_,q⟩;cases m:mm ys k with
 |none=>
  rw[m]at f;cases i:(Xi j k).map (·.2)with
  |none=>exact J
  |some w=>rw[i]at f;exact f.elim
 |some y=>
  rw[m]at f;cases i:(Xi j k).map (·.2)with
  |none=>rw[i]at f;exact f.elim
  |some w=>rw[i]at f;exact f
def u5(f:FD)(g:FL):FD:=λδ=>M.bind (f δ) λd=>match d with
 | .dct b ks vs=>M.bind (g δ) λas=>M.ofO (match as with
  |[k,z]=>(dC b k).map λk=>(la ks vs k).getD z
  |_=>Qh)
 |_=>M.fail
theorem IR{g:FL}(hu:X.A.units+2<U4)(ho:PE X o (tV X.K f E))(ha:PA X (e::es) (jm X.K g E))
  (n:UF o "get" X.env (RN o X.env)=RN o X.env:=by rfl)
  (B:((S4 cpos (QH (e::es) X.env)).all (λx=>!x.1)&&(XO cpos (Wb [] X.env)).all (λx=>x.1.isSome)
   &&decide ((e::es).length+([]:List XJ).length+(if([]:List XJ).isEmpty then 0 else 1)<30))=Qo:=by rfl)
  (p:(apos.endLine==cpos.line)=Qo:=by rfl) (hs:QH (e::es) X.env=(Qr,RN e X.env)::QH es X.env:=by rfl) (m:(S4 cpos (QH es X.env)).any (·.1)=Qr:=by rfl):
  PE X (.Call (.Attribute o "get" apos) (e::es) [] cpos) (tV X.K (u5 f g) E):=by
 intro j s J H Q I h;obtain⟨F,δ,β,fr,vk,h⟩:=h;refine wpAny_Call_method_late n B p rfl (en (ho j s J H _ I ⟨F,δ,β,fr,vk,(run.bind (R:=cx X.K F) h)⟩) λv s1 h1=>?_);obtain⟨x,H1,I1,r1,d,β1,t,hd,q1⟩:=h1;have fail:∀{N:M D},N=M.fail->run (cx X.K F) F E J N H1 Q β1->False:=λ{N} e r=>by
  obtain⟨r,β',e',_⟩:=r;rw[e]at e';cases e'
 cases d<;>first|exact(fail rfl q1).elim|skip
 rename_i b ks vs;have C:=hd;unfold cx at C;obtain⟨a,ep,xs,rfl,O,rfl,hk,dl⟩:=C;cases r1;obtain⟨ys,dd,_,_,_⟩:=i7 I1 O.2 λx T=>(hk x T).s;refine⟨"dict","dict.get",X3,Yl,PySem.F.type_dict_get,dd.typeIs,λb e=>?_,?_⟩
 .cases e
  obtain⟨ob,_,_,g1,g2,_⟩:=dd;exact⟨ob,g1,g2.2.1⟩
 have hA:=ha cpos j s1 J H1 _ I1 ⟨F,δ,β1,t.fr,vk.tr (t.tr fr),run.bind (R:=bb X.K F) q1⟩;rw[hs]at hA⊢;refine V6 (by show(Qr||(S4 cpos (QH es X.env)).any (·.1))=Qr;rw[m]<;>rfl) (YE (en hA λus s2 h2=>?_))
 obtain⟨ws,L,I2,r2,as,β2,t2,U,q2⟩:=h2;obtain⟨z,y,kf⟩:=run.ofO q2;have tt:=t2.tr t.fr;split at y
 .rename_i k zz
  cases W:dC b k with
  |none=>rw[W]at y;cases y
  |some i=>
   rw[W]at y;cases y;obtain⟨hz,rfl⟩:=iX W;obtain⟨w1,Y,rfl,Z,hw2⟩:=bb.two U;obtain⟨c,rfl,kc⟩:=mK hz Z;have dl2:=bb.tr tt _ _ dl;have hk2:∀x∈xs,t5 X.K L b x.1 x.2.1:=λx T=>((hk x T).tr tt).s;refine K7 hu j s2 J L (.ref a) [.ref c,Y] (.ref a) us Q I2 rfl r2 ⟨a,b,ep,xs,i,c,Y,rfl,rfl,tt.kp a _ O.1 O.2,hk2,kc.s,?_⟩;refine kf _ L (To.refl t2.fr) ?_;show cx X.K F L ((la (xs.map (·.1)) vs i).getD zz) ((mm xs i).getD Y);have l:=pk (k:=i) dl2;cases q:la (xs.map (·.1)) vs i with
   |none=>
    rw[q]at l;have l':mm xs i=Qh:=l;rw[l'];exact hw2
   |some d=>
    rw[q]at l;obtain⟨u,l',hu'⟩:=l;rw[l'];exact hu'
 .cases y
end
end L2.Pu
namespace L2.Hs
open PySem PySem.Spec PyProof.Rows
section
variable{prog:Rc}{w:Ro}{A:RG}{E:Qv->QA->Prop}{s:QA}{d it v:Qs}{od:Q0}{es:Array Uv}{ep i:Nat}{ok ov:Qv}
theorem yw(a:s.TypeIs (.ref d) "dict")(hd:(d==Xs)=Qr)(h:Q (.ref s.heap.objs.size) {s with heap:=s.heap.push {cls:= .type "dict_items",data:= .fields #[.ref d]}}):QJ (Q4 prog w) A (Xq (.builtin "dict.items") [.ref d]) Q E s:=by
 refine Rt F.slot_dict_items a F.entry_dict_items ?_ (F.args_dict_items_1 _);unfold Builtin.«dict.items»;refine My ?_;unfold Builtin.Dict.noArgs;refine My (wpAny_notOrdered_dict a ?_);show QJ _ _ (SY d) _ _ s;refine Qj ?_;show QJ _ _ (Xk d>>=_) _ _ s;unfold Xk;rw[Qp (by rw[hd];exact Qx)];exact My (Qj (My (RO (Qj ⟨_,rfl,h⟩))))
theorem x4(a:s.heap.IsItemsView v d)(e:s.heap.get? d=on od)(hd:od.data= .dict es ep)
  (h:Q (.ref s.heap.objs.size) {s with heap:=s.heap.push {cls:= .type "dict_itemiterator",data:= .fields #[.none,.bool Qr,.ref d,.int 0 0,.int es.size 0,.int ep 0,.none,.none]}}):QJ (Q4 prog w) A (W2 (.ref v)) Q E s:=by
 obtain⟨o,b,f,c⟩:=id a;refine Wf a.typeIs Zg (Rt Zg a.typeIs F.entry_dict_items_iter ?_ (F.args_dict_items_iter_1 _));unfold Builtin.«dict_items.__iter__»;refine My (Qj (My ?_));unfold Builtin.Dict_items.dictOf;refine My (Se b c (x:= .ref d) rfl (Qj (My ?_)));unfold Builtin.Dict_items.newIterator;refine My (XV e hd (My (Yv e hd ?_)));simp only[show Us "dict_itemiterator"=Qo from by decide,RF];refine RO (Qj ⟨_,rfl,"dict_itemiterator",_,⟨_,QK _ rfl,rfl⟩,Sz.lookup,?_⟩)
  (by simp only[sizeOk,Vr,QO,QV,QP,Xy,SU];omega)
 simpa[UY,Vr]using h
theorem xZ(a:VU s.heap it d i es.size ep ok ov)(h:Q (.ref it) s):QJ (Q4 prog w) A (W2 (.ref it)) Q E s:=by
 have c:s.TypeIs (.ref it) "dict_itemiterator":=⟨_,a,rfl⟩;refine Wf c XZ (Rt XZ c (b:=Builtin.«dict_keyiterator.__iter__») (YR (id':="dict_keyiterator.__iter__") (by kernel_rfl) rfl (by decide +kernel) (by kernel_rfl)) ?_ (F.args_dict_itemiterator_iter_1 _));show QJ _ _ (ret (.ref it)) _ _ s;exact Qj ⟨_,rfl,"dict_itemiterator",_,c,Sz.lookup,h⟩
theorem x3{e:Uv}(m:VU s.heap it d i es.size ep ok ov)(ho:s.heap.get? d=on od)(hd:od.data= .dict es ep)(Y:es[i]?=on e)
  (hQ:∀h',IsItemIterOut h' it d (i+1) es.size ep e.key e.val s.heap.objs.size->h'.get? s.heap.objs.size=on {cls:= .type "tuple",data:= .seq #[e.key,e.val]}->h'.objs.size=s.heap.objs.size+1->
   (∀b o,b≠it->s.heap.get? b=on o->h'.get? b=on o)->Q (on (.ref s.heap.objs.size)) {s with heap:=h'}):QJ (Q4 prog w) A (UX (.ref it)) Q E s:=by
 obtain⟨n,g,T,U,os⟩:=s;have u:Shared.TypeIs ⟨n,g,T,U,os⟩ (.ref it) "dict_itemiterator":=⟨_,m,rfl⟩;have W:i<es.size:=by
  rcases Vi i es.size with h|h
  .exact h
  .simp[TH h]at Y
 obtain rfl:es[i]=e:=by rw[Vq W]at Y;exact Q7 Y
 unfold UX;refine My (Vh (wpAny_callSpecial?_slot (name:=SX "__next__") u Sz
  (Rt Sz u XI ?_ (Xw _))))
 refine My (Qj (My (My ?_)))
 first|refine My (TV u (Qj ?_))|refine My (Uy u (Qj ?_))
 refine My (W3 m rfl ?_);simp only[show Us "dict_itemiterator"=Qo from by decide,RF];show QJ _ _ (if(QU d==RA)=Qo then _ else _) _ _ _;rw[Qp (show ¬((QU d==RA)=Qo)from Qx)];refine My (Qj (My (XV ho hd ?_)));rw[Qp (by simp)];refine My (Qj (My (Yv ho hd ?_)));rw[Qp (by simp)];refine Qj ?_;simp only[show ¬((i:Int)<0)from by omega,RH,Sc,Vq W];refine My ?_
 first|refine My (TV u (Qj ?_))|refine My (Uy u (Qj ?_))
 refine My (WH u ?_);show QJ _ _ (YY (.ref it) 3 (UY ((i:Int)+1))>>=_) _ _ ⟨n,g,T,U,os⟩;refine My (Sf m (by simp) λa c f=>?_)
 replace f:Rb it n a:=f
 replace c:VU a it d (i+1) es.size ep ok ov:=by
  have e:((i+1:Nat):Int)=(i:Int)+1:=by omega
  unfold VU;rw[e];simpa[UY]using c
 have l:Shared.TypeIs ⟨a,g,T,U,os⟩ (.ref it) "dict_itemiterator":=⟨_,c,rfl⟩;refine My (R3 (My (WH l (My (WH l ?_)))));show QJ _ _ (VP (.ref it) 6 es[i].key es[i].val) _ _ ⟨a,g,T,U,os⟩;unfold VP;refine My (Y0 ?_);have j:VU (a.push {cls:= .type "tuple",data:= .seq #[es[i].key,es[i].val]}) it d (i+1) es.size ep ok ov:=Qm _ c;have k:a.objs.size=n.objs.size:=f.1;have Z:it≠n.objs.size:=Rr (QZ m);have y:(a.push {cls:= .type "tuple",data:= .seq #[es[i].key,es[i].val]}).get? n.objs.size=on {cls:= .type "tuple",data:= .seq #[es[i].key,es[i].val]}:=by rw[<-k];exact QK _ rfl
 have B:(a.push {cls:= .type "tuple",data:= .seq #[es[i].key,es[i].val]}).objs.size=n.objs.size+1:=by rw[Sj,k]
 have C:∀b o,b≠it->n.get? b=on o->(a.push {cls:= .type "tuple",data:= .seq #[es[i].key,es[i].val]}).get? b=on o:=λb o X e=>Qm _ (f.extBut b o X e);generalize a.push {cls:= .type "tuple",data:= .seq #[es[i].key,es[i].val]}=h₂ at*;show QJ _ _ (Vs (.ref it)>>=_) _ _ ⟨h₂,g,T,U,os⟩;rw[k];refine My ?_;unfold Vs;refine My (Se j rfl (x:= .none) rfl (Qj ?_));simp only[RF];refine My (Se j rfl (x:=ok) rfl (My (Se j rfl (x:=ov) rfl ?_)));refine My (Sf j (by simp) λp F H=>?_);refine My (Sf F (by simp) λq I J=>?_);refine My (Sf I (by simp) λr L N=>?_);refine My (Sf L (by simp) λt O R=>?_);have sb:=((show Rb it h₂ p from H).trans (show Rb it p q from J)).trans ((show Rb it q r from N).trans (show Rb it r t from R));exact My (Yo (Qj (Qj ⟨_,rfl,Qj (hQ t O (sb.extBut _ _ Z.symm y) (by rw[sb.1,B]) λb o X e=>sb.extBut b o X (C b o X e))⟩)))
theorem AT(g:A.handled=Qh)(c:VU s.heap it d i es.size ep ok ov)(f:s.heap.get? d=on od)(hd:od.data= .dict es ep)(h:es.size<=i)
  (j:∀h',Xl it s.heap h'->Q Qh {s with heap:=h'}):QJ (Q4 prog w) A (UX (.ref it)) Q E s:=by
 have e:s.TypeIs (.ref it) "dict_itemiterator":=⟨_,c,rfl⟩;unfold UX;refine My (Vh (wpAny_callSpecial?_slot (name:=SX "__next__") e Sz
  (Rt Sz e XI ?_ (Xw _))))
 refine My (Qj (My (My ?_)))
 first|refine My (TV e (Qj ?_))|refine My (Uy e (Qj ?_))
 refine My (W3 c rfl ?_);simp only[show Us "dict_itemiterator"=Qo from by decide,RF];show QJ _ _ (if(QU d==RA)=Qo then _ else _) _ _ s;rw[Qp (show ¬((QU d==RA)=Qo)from Qx)];refine My (Qj (My (XV f hd ?_)));rw[Qp (by simp)];refine My (Qj (My (Yv f hd ?_)));rw[Qp (by simp)];refine Qj ?_;simp only[show ¬((i:Int)<0)from by omega,RH,Sc,TH h];refine My ?_
 first|refine My (TV e (Qj ?_))|refine My (Uy e (Qj ?_))
 show QJ _ _ (YY (.ref it) 2 .none>>=_) _ _ s;refine My (UZ c rfl (by simp) ?_);show QJ _ _ (newExc (.type "StopIteration") []>>=_) _ _ _;refine My ?_;simp only[newExc,newTuple];refine My (RO ?_ (by size_fits));refine My (m:=UV _ _) (Ur (a:=RA) (by first|rfl|(simp only[UV];rfl)) ?_)
 refine RO ?_ (by size_fits);simp only[raiseNew];refine My (ZA ?_);rw[show A.in1.handled=Qh from g];refine My (Qj (wpAny_throw ?_));refine My (Td (T:="StopIteration") (b:=Qo) ⟨_,QK _ rfl,rfl⟩ YV ?_);exact Qj (j _ (((Si ..).extBut.push _).push _))
end
end L2.Hs
namespace L2.Pu
open PySem PySem.Spec PyProof.Rows L2.Hs
noncomputable def Iti(a:Qs)(ep n:Nat):It:=
 ⟨λi H=>∃b xs,H a=on (bu a b ep xs)/\xs.length=n/\i<n,
  λi H v c=>∃p x,H p=Qh/\v= .ref p/\c=upd H p (.tup [.ref x.1,x.2])/\∀b xs,H a=on (bu a b ep xs)->(xs[i]?).map (·.2)=on x,
  λi H=>∃b xs,H a=on (bu a b ep xs)/\xs.length=n/\i=n⟩
theorem II:∀{xs:List (fh×Qs×V)} {ys:List (fh×Qs×Qv)} {i:Nat} {y:fh×Qs×Qv},VV XY xs ys->ys[i]?=on y->∃x,xs[i]?=on x/\XY x y
 |_,_,0,_,.cons h t,e=>by cases e;exact⟨_,rfl,h⟩
 |_,_,i+1,_,.cons h t,e=>II (i:=i) t e
 |_,_,0,_,.nil,e=>by cases e
 |_,_,_+1,_,.nil,e=>by cases e
section
variable{X:Cx}{ba:List (Qs×Q0)}{σ:St}{H:Hp}{s:QA}{a:Qs}{b:Bool}{ep i:Nat}{xs:List (fh×Qs×V)}
theorem pQ(I:c4 X ba σ H s)(h:H a=on (bu a b ep xs)):∃(o:Q0) (es:Array Uv),s.heap.get? a=on o/\o.data= .dict es ep/\es.size=xs.length/\o.ExactDict/\(a==Xs)=Qr/\∀(i:Nat) (e:Uv),es[i]?=on e->∃x,xs[i]?=on x/\e.key= .ref x.2.1/\aL x.2.2 e.val:=by
 obtain⟨o,es,ys,j,k,l,d,u,m,v,g⟩:yC a b ep xs s.heap:=(I.hok a _ h).1;have n:ys.length=xs.length:=by rw[<-Qi (f:=(·.1)),<-mo g,Qi]
 refine⟨o,es,j,l,by rw[<-Ri,d,Qi,n],k,m,λi e c=>?_⟩;rw[<-TZ,d,Qu]at c;cases q:ys[i]? with
 |none=>rw[q]at c;cases c
 |some y=>
  rw[q]at c;cases c;obtain⟨x,p,_,r,t⟩:=II g q;exact⟨x,p,by rw[r],t⟩
theorem w6{P:Rc}{w:Ro}{K:QR}{x1}(a it:Qs)(n ep:Nat):
  m3 P w K (.Tuple elts x1 pos) (Iti a ep n) [it] it (λi h=>∃ok d,VU h it a i n ep ok d) where
 mem:=by simp
 obj:=λi h st b c=>by
  obtain⟨ok,d,e⟩:=st;cases Q5.mp c;exact⟨_,e,λv q=>by cases q⟩
 keep:=λi h h' st k=>by
  obtain⟨ok,d,e⟩:=st;exact⟨ok,d,k it (by simp) _ e⟩
 item:=by
  intro X m p r hc i ba s σ H E I f st t;subst m p r;obtain⟨ok,d,e⟩:=st;obtain⟨b,xs,A,U,J⟩:=t;obtain⟨o,es,g,j,W,h4,h5,Y⟩:=pQ I A;have hn:n=es.size:=by omega
  subst hn;have B:es[i]?=on es[i]:=Vq J;refine x3 e g j B λh' Z gt sz kp=>⟨_,rfl,wpAny_letOwnedTupleGo_items (s:={s with heap:=h'}) Z λC ei L=>?_⟩;obtain⟨x,ex,N,O⟩:=Y i _ B;have Q:s.heap.objs.size≠it:=TR (QZ e);have I2:c4 X ba σ (upd H s.heap.objs.size (.tup [.ref x.2.1,x.2.2])) {s with heap:=C,toks:=s.toks}:=
   c4.turnNew I f (λb u c q=>L.extBut b u (λz=>c (by rw[z];simp)) (kp b u (λz=>c (by rw[z];simp)) q)) (Qz _) ⟨by show 2<=QN;decide,[es[i].key,es[i].val],.cons N (.cons O .nil),_,L.extBut _ _ Q gt,rfl,_,rfl⟩
  refine⟨.ref s.heap.objs.size,_,I2,rfl,⟨s.heap.objs.size,x.2,I.hok.fresh (Qz _),rfl,rfl,λb' xs' F=>?_⟩,⟨_,_,ei⟩,λb c=>?_⟩
  .obtain⟨o',es',R,T,_,_,_,g6⟩:=pQ I F
   rw[g]at R;cases R;rw[j]at T;cases T;obtain⟨y,ey,l,fv⟩:=g6 i _ B;rw[ey];rw[N]at l
   injection l with l
   exact RE on (RW l.symm (aL.inj fv O))
  .cases Q5.mp c
   rw[b_ Q.symm];exact(f _ c).1
 done:=by
  intro X m p r hc i ba s σ H E I f st t;subst m p r;obtain⟨ok,d,e⟩:=st;obtain⟨b,xs,A,U,J⟩:=t;obtain⟨o,es,g,j,W,_⟩:=pQ I A;have hn:n=es.size:=by omega
  subst hn;refine AT (I.ok.hd hc) e g j (by omega) λh' kp=>⟨rfl,c4.turnL (t':=s.toks) I f λb o c q=>kp b o (λz=>c (by rw[z];simp)) q⟩
 self:=λ_ _ _ _ _ st h=>by
  obtain⟨ok,d,e⟩:=st;exact xZ (es:=(QE n (⟨0,.none,.none⟩:Uv)).toArray) (by rw[QO,Sy];exact e) h
variable{E:St->XK}{K:QR}{o:Expr}{apos cpos tpos:Vm}{elts:List Expr}{x1:Nat}
def iItm(to:TE):TI:=λσ H R=>to σ H λx c=>∃a b ep xs,x= .ref a/\c a=on (bu a b ep xs)/\R (Iti a ep xs.length) c
theorem DU(p:PE X o to)(c:UF o "items" X.env (RN o X.env)=RN o X.env:=by rfl)(d:(apos.endLine==cpos.line)=Qo:=by rfl):PI X (.Tuple elts x1 tpos) (.Call (.Attribute o "items" apos) [] [] cpos) (iItm to):=by
 intro ba s σ H R I h;refine wpAny_Call_method0_late c d (en (p ba s σ H _ I h) λv f g=>?_);obtain⟨x,m,n,r1,a,b,ep,xs,rfl,r,q⟩:=g;cases r1;obtain⟨j,es,g,t,u,k,y,_⟩:=pQ n r;refine⟨"dict","dict.items",X3,PySem.F.slot_dict_items,PySem.F.type_dict_items,⟨j,g,k.1⟩,λb e=>?_,?_⟩
 .cases e;exact⟨j,g,k.2.1⟩
 refine V6 rfl (PySem.evalArgs_none (yw ⟨j,g,k.1⟩ y ?_));have l:c4 X ba σ m {f with heap:=f.heap.push {cls:= .type "dict_items",data:= .fields #[.ref a]},toks:=f.toks}:=n.kept λb o e=>Qm _ e;refine x4 (s:={f with heap:=f.heap.push {cls:= .type "dict_items",data:= .fields #[.ref a]}}) ⟨_,QK _ rfl,rfl,rfl⟩ (Qm _ g) t ?_;rw[u];exact⟨_,[_],_,_,m,rfl,l.kept (t':=f.toks) λb o e=>Qm _ e,w6 a _ _ ep,⟨_,_,QK _ rfl⟩,λb A=>by
  cases Q5.mp A;exact l.fpOk (Qz _) (l.hok.fresh (Qz _)),q⟩
def itmD:D->Option (List D)
 | .dct b ks vs=>on (TL (λk v=> .tup [dK b k,v]) ks vs)
 |_=>Qh
theorem AU{F:Fx}{H:Hp}{b:Bool}{a:Qs}{ep:Nat}{xs:List (fh×Qs×V)}(C:¬F.A a)(I:H a=on (bu a b ep xs))(g:ks=xs.map (·.1))(J:∀x∈xs,eQ K F H b x.1 x.2.1)(h:bb K F H vs (xs.map (·.2.2))):v_ K (Iti a ep xs.length) F H (TL (λk v=> .tup [dK b k,v]) ks vs):=λR j β2 t fr i=>by
 have lv:vs.length=xs.length:=by rw[h.length,Qi]
 have L:ks.length=xs.length:=by rw[g,Qi]
 have c:=t.kp a _ C I;refine⟨λd hd=>?_,λe=>⟨b,xs,c,rfl,by rw[e,WK,L,lv,Nat.min_self]⟩⟩;have e:i<xs.length:=by
  have:=(QI.mp hd).1;rw[WK]at this;omega
 refine⟨⟨b,xs,c,rfl,e⟩,λy T N=>?_⟩;obtain⟨p,x,l,rfl,rfl,O⟩:=N;have m:=O b xs c;rw[Ql e]at m;have f:xs[i].2=x:=Q7 m;subst f;have n:bE j (upd j p (.tup [.ref xs[i].2.1,xs[i].2.2])):=bE.upd l;obtain⟨v,q⟩:∃v,vs[i]?=on v:=⟨_,Ql (by omega)⟩;have Q:ks[i]?=on xs[i].1:=by rw[g,Qu,Ql e];rfl
 rw[YF,Q,q]at hd;cases hd;have d2:=bb.tr t _ _ h;obtain⟨u,r,du⟩:=d2.get q;rw[Qu,Ql e]at r;cases r;have B:=(fr.same n).tr fr;exact⟨n,oF (.inl ⟨fr.fresh l,.inl ah⟩) (bb.cons (cx.tr B _ _ (Po ((J _ (Rp e)).tr t))) (bb.cons (cx.tr B _ _ du) bb.nil))⟩
def EG(f:FD):FL:=λδ=>M.bind (f δ) λd=>M.ofO (itmD d)
theorem wz(m:PE X o (tV X.K f E))(c:UF o "items" X.env (RN o X.env)=RN o X.env:=by rfl)(g:(apos.endLine==cpos.line)=Qo:=by rfl):PI X (.Tuple elts x1 tpos) (.Call (.Attribute o "items" apos) [] [] cpos) (iV X.K (EG f) E):=
 (DU m c g).imp λσ H R j=>li j λF δ β fr n h=>⟨F,δ,β,fr,n,(run.bind (R:=cx X.K F) h).mono λv p j=>by
  obtain⟨d,β1,t,hd,r1⟩:=j;obtain⟨ds,e,k⟩:=run.ofO r1;cases d<;>first|(cases e;done)|skip
  cases e;unfold cx at hd;obtain⟨a,ep,xs,rfl,l,q,r,u⟩:=hd;exact⟨a,_,ep,xs,rfl,l.2,k _ p (To.refl t.fr) (AU l.1 l.2 q r u)⟩⟩
end
end L2.Pu
namespace L2.Hs
open PySem PySem.Spec PyProof.Rows
theorem wn:mroOf (.type "reversed")=SY [.type "reversed",.type "object"]:=by rw[mroOf_type];kernel_rfl
theorem EM:typeLookup (.type "reversed") "__new__"=SY (on (.builtin "reversed.__new__")):=by rw[Yu,WQ];kernel_rfl
theorem EJ:Bind.madeBy (.type "reversed")=SY (on "reversed.__new__"):=madeBy_type wn EM (by decide +kernel)
theorem Ku:isSubtype (.type "reversed") (.type "reversed")=SY Qo:=by rw[VY];kernel_rfl
theorem DF:isSubtype (.type "range_iterator") (.type "reversed")=SY Qr:=by rw[VY];kernel_rfl
theorem Lx:entryFor table "reversed.__new__"=on Builtin.«reversed.__new__»:=entryFor_of_tree (by kernel_rfl)
section
variable{prog:Rc}{w:Ro}{A:RG}{E:Qv->QA->Prop}{s:QA}
theorem FQ(a:IsRange s.heap r 0 n 1 t u v)(j:0<=n)(g:n<2^62)
  (h:Q (.ref s.heap.objs.size) {s with heap:=s.heap.push {cls:= .type "range_iterator",data:= .fields #[UY (n-1),UY n,UY (-1)]}}):QJ (Q4 prog w) A (Xq (.type "reversed") [.ref r]) Q E s:=by
 refine wpAny_call (codeAny_of_tree ?_);show QJ _ _ (callAny (.type "reversed") _) _ _ _;refine Qj ⟨Code.quiet_builtin _ (by decide +kernel),Yt F.entry_type_call ?_⟩;rw[Around.under_plain (weight_type_call_type "reversed" [.ref r] []) (units_type_call_type "reversed" [.ref r] [])];have g:(Ts "reversed"==Ts "type")=Qr:=by decide +kernel
 have k:((ZE "reversed").bind (·.mro.findSome? λt=>(ZE t).bind λb=>if b.noNew then on Qo else if b.attrs.any (·.1=="__new__")then on Qr else Qh)).getD Qr=Qr:=by decide +kernel
 have e:=wn;have c:=EJ;have i:checkTypeCall "reversed" ⟨[.ref r],[]⟩=SY ():=by kernel_rfl
 repeat (any_goals (first|assumption|wp_step))
 refine codeAny_call_builtin (by decide +kernel) Lx (Ur (show checkBuiltinCall "reversed.__new__" ⟨[.type "reversed",.ref r],[]⟩=SY () by kernel_rfl) ?_);have f:s.TypeIs (.ref r) "range":=⟨_,a,rfl⟩;unfold Builtin.«reversed.__new__»
 repeat (any_goals (first|assumption|wp_step))
 refine Ur Ku (Qj ?_);refine My (m:=VF _ _ _) ?_;refine Ur (show VF "reversed" (Ts "reversed") ⟨[.type "reversed",.ref r],[]⟩=SY ()from rfl) ?_;refine My (m:=checkCount "reversed" 1 1 _) (Qj ?_);show QJ _ _ (specialOf (.ref r) (SX "__reversed__")>>=_) _ _ s;refine My (Tu f F.slot_range_reversed.lookup ?_);show QJ _ _ (bindSpecial (.builtin "range.__reversed__") (.ref r)>>=_) _ _ s;refine My (Ur (F.slot_range_reversed.bind _) ?_);show QJ _ _ (rule "reversed.__new__.own-method">>=_) _ _ s;refine My (T4 (My (wpAny_runValue (codeAny_call_builtin F.slot_range_reversed.plain F.entry_range_reversed (F.slot_range_reversed.check _ _ _ _ _ _ _ _ f (F.args_range_reversed_1 _) ?_)))));unfold Builtin.«range.__reversed__»;refine My (m:=selfOnly "range.__reversed__" _) (Qj (My ?_));unfold Builtin.Range.rangeFields;refine My (Se a rfl (x:= .int 0 t) rfl (My (m:=asInt? _) (Qj ?_)));refine My (Se a rfl (x:= .int n u) rfl (My (m:=asInt? _) (Qj ?_)));refine My (Se a rfl (x:= .int 1 v) rfl (My (m:=asInt? _) (Qj (Qj ?_))));have hn:W6 0 n 1=n:=by rw[rangeSize_one];split<;>omega
 simp only[hn];have d:(RU 0&&RU n&&RU 1&&RU (-1)&&RU (0-1)&&RU n)=Qo:=by
  have:RU n=Qo:=by unfold RU;simp;omega
  rw[this];decide
 simp only[d,RF,S7,QS,RH];rw[show(0:Int)+(n-1)*1=n-1 by omega];refine My (RO (Qj (Qj ?_)));exact My (Td (T:="range_iterator") (b:=Qr) ⟨_,QK _ rfl,rfl⟩ DF (My (T4 (Qj h))))
end
end L2.Hs
namespace L2.Pu
open PySem PySem.Spec PyProof.Rows L2.Hs
noncomputable def Itd(n:Nat):It:=⟨λi _=>i<n,λi H v a=>v= .int ((n:Int)-1-i)/\a=H,λi _=>n<=i⟩
theorem vt{P:Rc}{w:Ro}{K:QR}(it:Qs)(n:Nat):m3 P w K tg (Itd n) [it] it (λi h=>Yg h it ((n:Int)-1+(i:Nat)*-1) ((n:Int)-(i:Nat)) (-1)) where
 mem:=by simp
 obj:=λi h st b c=>by
  cases Q5.mp c;exact⟨_,st,λv z=>by
   have B:Data.fields _=Data.cell v:=z;cases B⟩
 keep:=λi h h' st k=>k it (by simp) _ st
 item:=by
  intro X g j l hc i a s y H E I f st m;subst g j l;obtain⟨p,f1,f2,q,r,u⟩:=f it (by simp);refine(Walks.range (prog:=X.prog) (w:=X.w) (I.ok.hd hc) it ((n:Int)-1) (-1) n).item i s _ _ m st λv h' A C d F=>?_;obtain⟨t,rfl⟩:=C;have J:c4 X a y H {s with heap:=h',toks:=A}:=I.turned (λb o c e=>F b o (by simpa using c) e) p f1 q r u;exact⟨_,rfl,sL (s:={s with heap:=h',toks:=A}) (n:="range_iterator") d rfl rfl (by decide) ⟨.int ((n:Int)-1-i),H,J,⟨t,by rw[show(n:Int)-1+(i:Int)*-1=(n:Int)-1-i by omega]⟩,⟨rfl,rfl⟩,d,λb c=>(f b c).1⟩⟩
 done:=by
  intro X g j l hc i a s y H E I f st m;subst g j l;obtain⟨p,f1,f2,q,r,u⟩:=f it (by simp);exact wpAny_pyNext_range_end (I.ok.hd hc) st (by have:n<=i:=m;omega) λh' L=>⟨rfl,I.turned (t':=s.toks) (λb o c e=>L b o c e) p f1 q r u⟩
 self:=λ_ _ _ _ _ st h=>WI st h
section
variable{X:Cx}{E:St->XK}{K:QR}{tg:Expr}
def PY(a:TA):TI:=λb H R=>a b H λvs c=>∃j:Int,vs=[.int j]/\0<=j/\j<2^62/\R (Itd j.toNat) c
theorem zM(f:Gl X "reversed")(g:X.mg "reversed"=Qh)(n:Gl X "range")(hm:X.mg "range"=Qh)(ha:PA X [a] ta)(hs:QH [a] X.env=[(Qr,RN a X.env)]:=by rfl)
  (i:QH [.Call (.Name "range" p) [a] [] pos] X.env=[(Qr,RN (.Call (.Name "range" p) [a] [] pos) X.env)]:=by rfl):PI X tg (.Call (.Name "reversed" p2) [.Call (.Name "range" p) [a] [] pos] [] pos2) (PY ta):=by
 intro c s l H R I h;refine Call_ (fP I f g PyProof.Rows.Boot.«reversed» (Sd ?_ i rfl));refine Ze (Call_ (fP I n hm boot_range (Sd (en (ha pos c s l H _ I h) λus d r=>?_) hs rfl)));obtain⟨vs,m,v,r1,j,rfl,q1,q2,q⟩:=r;obtain⟨u,rfl,t,rfl⟩:=ij r1;refine call_range_1 (ZC (FQ (IsRange.new ..) q1 q2 (WI (x:=j-1) (left:=j) (step:=-1) (QK _ rfl) ?_)));have k:c4 X c l m {d with heap:=d.heap.push {cls:= .type "range",data:= .fields #[.int 0 d.toks,.int j t,.int 1 (d.toks+1)]},toks:=d.toks+1+1}:=v.kept λb o e=>Qm _ e;refine⟨_,[_],_,_,m,rfl,k.kept (t':=d.toks+1+1) λb o e=>Qm _ e,vt _ j.toNat,?_,λb y=>?_,q⟩
 .show Yg _ _ (((j.toNat:Nat):Int)-1+((0:Nat):Int)*-1) (((j.toNat:Nat):Int)-((0:Nat):Int)) (-1)
  rw[show((j.toNat:Nat):Int)-1+((0:Nat):Int)*-1=j-1 by omega,show((j.toNat:Nat):Int)-((0:Nat):Int)=j by omega];exact QK _ rfl
 .cases Q5.mp y
  exact k.fpOk (Qz _) (k.hok.fresh (Qz _))
noncomputable def iq(n:Nat):List D:=(Qy n).map λ(i:Nat)=> .int ((n:Int)-1-i)
theorem x5:v_ K (Itd n) F H (iq n):=λe f β2 t fr i=>by
 refine⟨λd hd=>?_,λa=>?_⟩
 .unfold iq at hd
  have a:i<n:=by
   have:=(QI.mp hd).1;simpa using this
  rw[Qu,R5 a]at hd;cases hd;exact⟨a,λx g ⟨b,c⟩=>by subst b c;exact⟨bE.refl _,rfl⟩⟩
 .show n<=i
  rw[a];simp[iq]
def sv:List D->Option (List D)
 |[.int j]=>if(decide (0<=j)&&decide (j<2^62))=Qo then on (iq j.toNat)else Qh
 |_=>Qh
theorem FC(b:Gl X "reversed")(c:X.mg "reversed"=Qh)(j:Gl X "range")(hm:X.mg "range"=Qh)(ha:PA X [a] (jm X.K g E))(hs:QH [a] X.env=[(Qr,RN a X.env)]:=by rfl)
  (d:QH [.Call (.Name "range" p) [a] [] pos] X.env=[(Qr,RN (.Call (.Name "range" p) [a] [] pos) X.env)]:=by rfl):PI X tg (.Call (.Name "reversed" p2) [.Call (.Name "range" p) [a] [] pos] [] pos2) (iV X.K (cY sv g) E):=
 (zM b c j hm ha hs d).imp λq H R f=>li f λF δ β fr m h=>⟨F,δ,β,fr,m,(run.bind (R:=bb X.K F) h).mono λvs n f=>by
  obtain⟨ds,β1,t,hd,r1⟩:=f;obtain⟨l,e,k⟩:=run.ofO r1;unfold sv at e;split at e
  .split at e
   .rename_i i
    cases e;simp only[Q9,Rm]at i;obtain⟨v,rfl,o⟩:=bb.one hd;cases o.int;exact⟨_,rfl,i.1,i.2,k _ n (To.refl t.fr) x5⟩
   .cases e
  .cases e⟩
variable{e m:Expr}{te tm:TE}{pos p2:Vm}
theorem DT(items:List Qv):ZT items.toArray Qh Qh (on (-1))=items.reverse.toArray:=by
 have a:Uq Qh Qh (on (-1)) items.toArray.size=((items.length:Int)-1,-1,-1):=by simp[Uq]
 unfold ZT;rw[a];refine RE _ ?_;have b:sliceRange ((items.length:Int)-1) (-1) (-1)=(Qy items.length).map λk=>items.length-1-k:=by
  unfold sliceRange;have hc:(if(-1:Int)>0 then(if(items.length:Int)-1< -1 then(-1-((items.length:Int)-1)+-1-1)/ -1 else 0)else(if(items.length:Int)-1>-1 then((items.length:Int)-1- -1- -1-1)/(- -1)else 0)).toNat=items.length:=by
   rw[Qp (by decide)];split
   .rw[show(- -1:Int)=1 by decide,Int.ediv_one];omega
   .omega
  simp only[hc];exact Ra λk _=>by omega
 show(sliceRange ((items.length:Int)-1) (-1) (-1)).filterMap _=_;rw[b,List.filterMap_map];rcases items with _|⟨x,r⟩
 .rfl
 generalize f:x::r=items;rw[uW (g:=λk=>items.getD (items.length-1-k) x) λk c=>by
  have:k<items.length:=QW.mp c;simp only[Vo,Ws];rw[Qn,Ql (by omega)];rfl]
 refine SH (by simp) λi d h=>?_;have j:i<items.length:=by simpa using d
 rw[SQ,S9,Y6,Qn,Ql (by omega)];rfl
def tRev(K:QR)(te tm:TE):TE:=λc H Q=>te c H λx d=>tm c d λy b=>∃a xs,x= .ref a/\y= .int (-1)/\f0 K b a xs/\∀p,b p=Qh->Q (.ref p) (upd b p (.lst xs.reverse))
theorem MJ(l:PE X e te)(hm:PE X m tm):PE X (.Subscript e (.Slice Qh Qh (on m) p2) pos) (tRev X.K te tm):=by
 intro c s f H Q I h;refine Subscript_ (en (l c s f H _ I h) λv n o=>?_);obtain⟨x,p,r,r1,q1⟩:=o;refine wpAny_Slice ?_;rw[Zw];refine Qj (Qj ?_);rw[evalPart_some];refine en (hm c n f p _ r q1) λu d B=>?_;obtain⟨y,C,g,F,a,xs,rfl,rfl,sq,q⟩:=B;cases r1;obtain⟨t,rfl⟩:=F;obtain⟨its,i,pl,j⟩:=g.list sq;have k:c4 X c f C {d with heap:=d.heap.push {cls:= .type "slice",data:= .fields #[.none,.none,.int (-1) t]}}:=g.kept (t':=d.toks) λb J q=>Qm _ q;show QJ (Q4 X.prog X.w) X.A (Zy e (.Slice Qh Qh (on m) p2) (.ref a) (.ref d.heap.objs.size)) (EP X c f Q) X.xe {d with heap:=d.heap.push {cls:= .type "slice",data:= .fields #[.none,.none,.int (-1) t]}};refine tail_any (ops:=[.ref a,.ref d.heap.objs.size]) (pl.isList.push _).typeIs slot_list_getitem.lookup (Zz (pl.isList.push _) (Xx ..) .none .none (.int (-1) t) (by simp) ?_ (by rw[QO,<-i.length];exact j)) (by with_unfolding_all rfl)
 rw[DT];exact⟨.ref _,_,k.lnew (t':=d.toks) (its:=its.reverse) (ys:=xs.reverse) i.reverse (by rw[Zj];exact j),rfl,q _ (k.hok.fresh (Qz _))⟩
noncomputable def Mu:D->D->Option D
 | .lst ds,.int (-1)=>on (.lst ds.reverse)
 |_,_=>Qh
theorem bb.reverse:∀{ds:List D} {xs:List V},bb K F H ds xs->bb K F H ds.reverse xs.reverse
 |[],xs,h=>by have q:xs=[]:=h;subst q;exact bb.nil
 |d::ds,xs,h=>by
  obtain⟨x,r,rfl,a,b⟩:=h;rw[VI,VI];exact bb.append (bb.reverse b) (bb.cons a bb.nil)
theorem OQ(o:PE X e (tV X.K f E))(hm:PE X m (tV X.K g E)):PE X (.Subscript e (.Slice Qh Qh (on m) p2) pos) (tV X.K (f2 Mu f g) E):=
 (MJ o hm).imp λu H Q b=>li b λF δ β fr l h=>⟨F,δ,β,fr,l,(run.bind (R:=cx X.K F) h).mono λv y b=>p5 b λd β1 t hd r1=>⟨F,δ,β1,t.fr,l.tr (t.tr fr),(run.bind (R:=cx X.K F) r1).mono λA B b=>p5 b λd2 β2 i j q=>by
  obtain⟨z,c,k⟩:=run.ofO q;unfold Mu at c;split at c
  .cases c
   obtain⟨a,xs,rfl,sq,r⟩:=cx.sqL (cx.tr (i.tr t.fr) _ _ hd);cases j.int;exact⟨a,xs,rfl,rfl,sq,λp n=>k _ _ (i.fr.upd _ n) (cx.newL i.fr n (bb.reverse r))⟩
  .cases c⟩⟩
end
end L2.Pu
namespace L2.Pu
open PySem
theorem Ty{A:RG}(a:ej k A):A.units+2<U4:=Sn (ZF (by decide:2<=64) _) a.units
open PySem.Spec PyProof.Rows L2.Hs
section
variable{X:Cx}{E:St->XK}{ke ve cy iter:Expr}{ifs:List Expr}{rest:List Ss}{scope:Scope}{pos:Vm}{Nc dr:List Rl}{c_:List Nat}{g:TG}{tb:Qs->TB}
theorem KM{kb:Bool}{b d:Vm}(y:X.N.Nodup)(k:X.N[i]?=on x)(B:y3 X.env.scope x)(hc:X.calm=Qo)(S:dt X scope Nc dr c_)(F:PI X cy iter wi)
  (L:∀(cl:List (Rl×Qs)) (C:Qs) (j:List Qs) (s:QA) (H:Hp),PG (aK X Nc scope cl C j s H) cy g/\dQ (aK X Nc scope cl C j s H) ifs tt/\∀D,PB (aK X Nc scope cl C j s H) (.D ke ve) (⟨cy,iter,ifs,0⟩::rest) scope pos 0 D (tb D))
  (l:Vb (.DictComp ke ve (⟨cy,iter,ifs,0⟩::rest) scope pos) (on (.Name x b)) d.line X.env=SY Qo:=by rfl)
  (hs:∀x,RC iter X.env x=SY x:=by intro _;rfl) (O:X.fn x=Qo\/X.env.scope.names.lookup x=on .local:=by first|exact .inl rfl|exact .inr rfl|assumption):
  PS X (.Assign [.Name x b] (.DictComp ke ve (⟨cy,iter,ifs,0⟩::rest) scope pos) d) (gZ (lq (λD=>bu D kb 0 []) dr c_ wi λD J=>c5 J g tt (tb D)) (dW i)):=by
 intro f s R H D I h;rw[exec_Assign_Name_used _ _ _ _ l];refine My (SG (My ?_));show QJ _ X.A (do let _ <-comprehension (.DictComp ke ve (⟨cy,iter,ifs,0⟩::rest) scope pos) scope X.env _ newDict Qr (RN iter X.env) (on (VA (.Name x b) X.env))) _ _ s
 refine My (Rw (TF (use:=on (VA (.Name x b) X.env)) (Q:=λ_ s'=>SP X f D .next s') rfl hs (S.clo I.ok) S.kind S.loc
  (Rw (F f s R H _ I h) (λv s1 U=>Rw U (λW Y n=>?_) λ_ _ e=>e) λ_ _ e=>e)) (λ_ s' Z=>Qj (Qj Z)) λ_ _ e=>e)
 obtain⟨it,j,tn,J,H2,e,o,T,p,f2,q⟩:=n;subst e;refine gU (c:= .D ke ve) nW (RR:=λacc C=>YQ (Q4 X.prog X.w) X.A X.xe (on (VA (.Name x b) X.env)) _ acc C) hc S L o T p f2 q λA C s' H' m I' ns r q'=>?_;show QJ _ X.A (VA (.Name x b) X.env (.ref A)) _ _ s';refine XU (lw I' y k B (v:= .ref A) rfl (λY o n=>?_) O);obtain⟨a,sb,ha⟩:=n;have t:C≠a:=by
  rcases ha with rfl|ha
  .exact r.2.1
  .exact λz=>r.2.2.2.1 x a ha z.symm
 exact⟨m,ns.sameBut sb t,λh' u=>⟨_,H',o.letgo r u,q'⟩⟩
theorem zi{kb:Bool}{a c:Vm}(j:X.N.Nodup)(d:X.N[i]?=on x)(k:y3 X.env.scope x)(hc:X.calm=Qo)(S:dt X scope Nc dr c_)(l:PI X cy iter (iV X.K it E))
  (m:∀(cl:List (Rl×Qs)) (C:Qs) (f:List Qs) (s:QA) (H:Hp),PG (aK X Nc scope cl C f s H) cy g/\dQ (aK X Nc scope cl C f s H) ifs (hY X.K tt E0)/\∀D,PB (aK X Nc scope cl C f s H) (.D ke ve) (⟨cy,iter,ifs,0⟩::rest) scope pos 0 D (tb D))
  (n:c7 X.K g tg) (o:eD tg) (p:∀D,eE X.K (RD X.K kb) D (tb D) b)
  (e:Vb (.DictComp ke ve (⟨cy,iter,ifs,0⟩::rest) scope pos) (on (.Name x a)) c.line X.env=SY Qo:=by rfl)
  (hs:∀x,RC iter X.env x=SY x:=by intro _;rfl) (q:X.fn x=Qo\/X.env.scope.names.lookup x=on .local:=by first|exact .inl rfl|exact .inr rfl|assumption):
  PS X (.Assign [.Name x a] (.DictComp ke ve (⟨cy,iter,ifs,0⟩::rest) scope pos) c) (tG X.K X.H₀ (fV i (gR dr.length c_ it tg tt b (kS kb))) E):=
 aF ((KM (kb:=kb) j d k hc S l m e hs q).imp λD r H h=>u8 n o p h)
theorem OS{X:Cx}{E:St->XK}{f g:FD}{pos:Vm}(ha:PE X e1 (tV X.K f E))(a:PE X e2 (tV X.K g E))(hs:qQ e2:=by exact λ_ _=>rfl):PE X (.Subscript e1 e2 pos) (tV X.K (f2 jn f g) E):=aO aq aR ha a hs
end
end L2.Pu
namespace L2.Hs
open PySem PySem.Spec PyProof.Rows
section
variable{X:Cx}
def Mw(K:QR):R2:=λx y H Q=>∃a b ep xs k c,x= .ref c/\y= .ref a/\H a=on (bu a b ep xs)/\(∀x∈xs,t5 K H b x.1 x.2.1)/\t5 K H b k c/\Q (.bl (mm xs k).isNone) H
theorem we(i:X.A.units+2<U4):gv X (RV .NotIn) (Mw X.K):=by
 intro c s o H x y v u Q I j l h;obtain⟨d,b,ep,xs,k,a,rfl,rfl,m,n,hc,q⟩:=h;cases j;cases l;obtain⟨ys,hm,p,_,hd⟩:=i7 I m n;have f:=jF (k:=k) p;show QJ _ _ (do return WP (!(<-contains (.ref d) (.ref a)))) _ _ s
 refine My ?_;unfold contains
 try with_reducible refine R3 ?_
 refine My (Tu hm.typeIs slot_dict_contains.lookup ?_);show QJ _ _ (if(on (Value.builtin "dict.__contains__")==on RA)=Qo then _ else _) _ _ s;rw[Qp (by rw[beq_builtin_none];exact Qx)];refine My (wpAny_callSpecialUnlessNone?_slot (name:=SX "__contains__") hm.typeIs slot_dict_contains
  (Rt slot_dict_contains hm.typeIs entry_dict_contains ?_ (args_dict_contains _ _)))
 show QJ _ _ (dictGet d (.ref a)>>=_) _ _ s;refine My (wpAny_dictGet_heap (iA i) (kN I hc) hm ?_);cases g:Xi ys k with
 |some r=>
  rw[g]at f;cases e:mm xs k with
  |none=>rw[e]at f;exact f.elim
  |some z=>
   rw[e]at q;show QJ _ _ (ret (.bool Qo)) _ _ _;exact Qj ⟨_,rfl,RP (Qj ⟨.bl _,H,I.tok _,rfl,q⟩)⟩
 |none=>
  rw[g]at f;cases e:mm xs k with
  |some z=>rw[e]at f;exact f.elim
  |none=>
   rw[e]at q;show QJ _ _ (Builtin.Dict.pendingKey? d (.ref a)>>=_) _ _ _;exact My (wpAny_pendingKey_other hd (Qj ⟨_,rfl,RP (Qj ⟨.bl _,H,I.tok _,rfl,q⟩)⟩))
end
end L2.Hs
namespace L2.Pu
open PySem PySem.Spec PyProof.Rows L2.Hs
section
variable{K:QR}
def EE:D->D->Option D
 |y,.dct b ks vs=>(dC b y).map λk=> .bl (la ks vs k).isNone
 |_,_=>Qh
theorem PF:aV K (Mw K) EE:=λF H β Q d1 d2 d p r fr h g e k=>by
 unfold EE at e;split at e
 .rename_i b ks vs
  cases q:dC b d1 with
  |none=>rw[q]at e;cases e
  |some f=>
   rw[q]at e;cases e;obtain⟨i,rfl⟩:=iX q;obtain⟨c,rfl,j⟩:=mK i h;unfold cx at g;obtain⟨a,ep,xs,rfl,l,rfl,m,n⟩:=g;refine⟨a,b,ep,xs,f,c,rfl,rfl,l.2,λx o=>(m x o).s,j.s,?_⟩;have:=pk (k:=f) n
   dsimp only at k
   cases q2:la (xs.map (·.1)) vs f with
   |none=>
    rw[q2]at this k;have t:mm xs f=Qh:=this;rw[t];exact k _ H (To.refl fr) rfl
   |some z=>
    rw[q2]at this k;obtain⟨u,t,_⟩:=this;rw[t];exact k _ H (To.refl fr) rfl
 .cases e
end
end L2.Pu
namespace L2.Pu
open PySem PySem.Spec PyProof.Rows
section
variable{X:Cx}{E:St->XK}{K:QR}{st:RT}{H₀:Hp}{B:Ow}{bg:Option (Qs×Qs)}{H H':Hp}{δ:Ds}{β β':Bg}{σ:St}
theorem kl{α:Type}{x y:α}{l:List α}(h:x∈l++[y]):x=y\/x∈l:=(RK.mp h).elim .inr λz=> .inl (Q5.mp z)
theorem xG{rs:List Qs}(h:rs.Nodup)(n:r∉rs):(rs++[r]).Nodup:=UG.mpr ⟨h,R8 _ _,λx a y b e=>n (by rw[<-Q5.mp b,<-e];exact a)⟩
theorem f_.addRow{rs:List Qs}(ok:f_ K H₀ B bg H δ β σ)(j:f_ K H₀ B bg H2 δ β2 σ)(s2:g0 B H B H2)(kk:∀c o,H c=on o->B c≠on 1->H2 c=on o)
  (hs:σ[i]?=on (on (.ref a))) (hB:B a=on (i+2)) (ha:H2 a=on (.lst (rs.map V.ref))) (R:H a=on (.lst (rs.map V.ref))) (nd:(a::rs).Nodup) (rl:d4 K (et B bg) H2 (λr=>B r=on (i+2)) a_ rs) (r0:H r=Qh) (N:H2 r=on (.lst xs)) (hn:noLs ds=Qo) (hd:bb K (et B bg) H2 ds xs) (A:∀c∈rs,H c≠Qh) (T:∀w∈a_,noLs w=Qo):
  ∃B',f_ K H₀ B' bg (upd H2 a (.lst (rs.map V.ref++[.ref r]))) (δ.set i (on (.grd (a_++[ds])))) β2 σ/\g0 B H B' (upd H2 a (.lst (rs.map V.ref++[.ref r]))):=by
 classical
 have u:B r=Qh:=T5 λz=>ok.fr.occ r z r0;have m:a≠r:=λz=>by rw[<-z,R]at r0;cases r0
 have U:r∉rs:=λz=>A r z r0;have own:∀c,c∈rs->B c=on (i+2):=λc hc=>(rl.all c hc).1;have nb:∀b l,bg=on (b,l)->b≠r/\l≠r:=λb l e=>by
  obtain⟨b1,b2⟩:=ok.bgt b l e;exact⟨λz=>(by rw[z,u]at b1;cases b1),λz=>(by rw[z,u]at b2;cases b2)⟩
 have W:∀b l,bg=on (b,l)->b≠a/\l≠a:=λb l e=>by
  obtain⟨b1,b2⟩:=ok.bgt b l e;exact⟨λz=>(by rw[z,hB]at b1;cases b1),λz=>(by rw[z,hB]at b2;cases b2)⟩
 have C:g0 B H (λc=>if c=r then on (i+2)else B c) (upd H2 a (.lst (rs.map V.ref++[.ref r]))):=by
  refine⟨λc o h n=>?_,λc hc=>?_,λc o h n=>?_,λc hc=>?_⟩
  .rw[b_ (λz=>by subst z;rw[hB]at n;rcases n with n|n<;>cases n)]
   exact s2.kp c o h n
  .have:c≠r:=λz=>by rw[z,u]at hc;rcases hc with hc|hc<;>cases hc
   simp only[Qp this]
  .have:c≠r:=λz=>by rw[z,r0]at h;cases h
   simp only[Qp this];exact n
  .by_cases z:c=a
   .subst z;rw[ah];simp
   .rw[b_ z];exact s2.al c hc
 have tr:Tr (et B bg) H (et (λc=>if c=r then on (i+2)else B c) bg) (upd H2 a (.lst (rs.map V.ref++[.ref r]))):=C.tr;refine⟨λc=>if c=r then on (i+2)else B c,⟨⟨λc hc z=>?_,λb l e=>?_,λb l e=>?_⟩,λb l e=>?_,by rw[Q3,ok.len],λc hc=>?_,λc k hc=>?_,λc k hc=>(by
  have f:(if c=r then on (i+2)else B c)=on (k+2):=hc;by_cases w:c=a
  .subst w;exact .inl ⟨_,ah⟩
  .by_cases z:c=r
   .subst z;exact .inl ⟨xs,by rw[b_ w];exact N⟩
   .rw[Qp z]at f;exact(j.lst c k f).imp λo y=>by rw[b_ w];exact y),λk s e=>?_⟩,C⟩
 .by_cases q:c=a
  .subst q;rw[ah]at z;cases z
  .rw[b_ q]at z
   by_cases w:c=r
   .subst w;rw[N]at z;cases z
   .have f:(if c=r then on (i+2)else B c)≠Qh:=hc
    rw[Qp w]at f;exact j.fr.occ c f z
 .obtain⟨I,J⟩:=nb b l e
  obtain⟨b1,b2⟩:=ok.bgt b l e;refine⟨?_,?_,(ok.fr.bgA b l e).2.2⟩
  .show(if b=r then on (i+2)else B b)≠Qh
   rw[Qp I,b1];simp
  .show(if l=r then on (i+2)else B l)≠Qh
   rw[Qp J,b2];simp
 .obtain⟨I,J⟩:=W b l e
  rw[b_ I,b_ J];exact j.fr.bag b l e
 .obtain⟨I,J⟩:=nb b l e
  simp only[Qp I,Qp J];exact ok.bgt b l e
 .by_cases z:c=a
  .subst z;rw[ah];simp
  .rw[b_ z];exact j.cov c hc
 .have f:(if c=r then on (i+2)else B c)=on (k+2):=hc
  by_cases z:c=r
  .cases w:H₀ c with
   |none=>rfl
   |some o=>exact QX (z▸r0) (ok.cov c (by rw[w];simp))
  .rw[Qp z]at f;exact ok.new c k f
 .rw[Ru]at e
  by_cases q:i=k
  .subst q
   rw[Qt rfl]at e;split at e
   .cases e
    have Y:=d4.snoc (P:=λc=>c=r\/B c=on (i+2)) (.inl rfl) N hd (d4.tr (Tr.refl _ _) rl λc ys _ p y=>⟨.inr p,y⟩);have Z:d4 K (et B bg) (upd H2 a (.lst (rs.map V.ref++[.ref r]))) (λc=>c=r\/B c=on (i+2)) (a_++[ds]) (rs++[r]):=d4.tr (⟨λ_ n _=>n,λc o n h=>by rw[b_ (λz=>n (by subst z;show B c≠Qh;rw[hB];simp))];exact h,rfl⟩) Y λc ys hc p y=>⟨p,by
     rw[b_ (λz=>by
      subst z;rcases kl hc with w|w
      .exact m w
      .exact(Rf.mp nd).1 w)]
     exact y⟩
    have hal:∀c∈rs++[r],(if c=r then on (i+2)else B c)=on (i+2):=λc hc=>by
     rcases kl hc with w|w
     .rw[Qt w]
     .split
      .rfl
      .exact own c w
    refine⟨_,hs,a,rs++[r],rfl,by simp only[Qp m];exact hB,by rw[ah,Rg];rfl,Rf.mpr ⟨λz=>?_,xG (Rf.mp nd).2 U⟩,d4.noL (F:=et B bg) (λc hc=>?_) (λw hw=>?_) Z hal⟩
    .rcases kl z with w|w
     .exact m w
     .exact(Rf.mp nd).1 w
    .have f:(if c=r then on (i+2)else B c)≠Qh:=hc
     by_cases w:c=r
     .subst w;exact .inr (.inl ⟨xs,by rw[b_ m.symm];exact N⟩)
     .rw[Qp w]at f;exact .inl f
    .rcases kl hw with w|w
     .subst w;exact hn
     .exact T _ w
   .cases e
  .rw[Qp q]at e
   obtain⟨v,h1,O⟩:=ok.tell k s e;refine⟨v,h1,?_⟩;have na:∀c,B c=on (k+2)->c≠a:=λc g z=>by subst z;rw[hB]at g;cases g;exact q rfl
   have nr:∀c,H c≠Qh->c≠r:=λc hc z=>hc (z▸r0);have Q:∀c o,H c=on o->B c=on (k+2)->upd H2 a (.lst (rs.map V.ref++[.ref r])) c=on o:=λc o h h'=>by
    rw[b_ (na c h')];exact kk c o h (by rw[h'];intro z;cases z)
   cases s with
   |sh d=>exact cx.tr tr _ _ O
   |own cs=>
    obtain⟨c,zs,L,g,t,e4⟩:=O;exact⟨c,zs,L,by simp only[Qp (nr c (by rw[t];simp))];exact g,Q c _ t g,bb.tr tr _ _ e4⟩
   |grd rows2=>
    obtain⟨c,qs,L,g,t,e4,e5⟩:=O;exact⟨c,qs,L,by simp only[Qp (nr c (by rw[t];simp))];exact g,Q c _ t g,e4,d4.tr tr e5 λr' zs _ p y=>⟨by simp only[Qp (nr r' (by rw[y];simp))];exact p,Q r' _ y p⟩⟩
   |odc b ks vs=>
    obtain⟨c,L,g,t⟩:=O;exact⟨c,L,by simp only[Qp (nr c t.ne)];exact g,t.tr tr λo z=>Q c o z g⟩
def pK(i:Nat)(f:FL):G:=λδ β=>match δ.getD i Qh with
 |some (.grd a_)=>match f (vw δ) β with
  |some (.ok ds,β1)=>if(noLs ds&&a_.all noLs&&decide (a_.length<QN))=Qo then on (.nx (δ.set i (on (.grd (a_++[ds])))),β1)else Qh
  |_=>Qh
 |_=>Qh
theorem Ml(h:PS X st (sr (tBM X.K "list" qm (kn i) (IW (tVO X.K f E) DC)))):PS X st (tG X.K X.H₀ (pK i f) E):=h.imp λD σ H N=>by
 obtain⟨B,bg,δ,β,o,β',ok,e,q⟩:=N;unfold pK at e;split at e
 .rename_i a_ O
  split at e
  .rename_i ds β1 Q
   split at e
   .rename_i hn
    cases e;rw[Q9,Q9]at hn;obtain⟨w,A,a,rs,rfl,hB,ha,nd,C⟩:=ok.tell i _ (getD_some O);refine⟨_,A,.inl ⟨rfl,_,f0.of ha⟩,et B bg,vw δ,β,ok.fr,ok.view,.ok ds,_,Q,λv F I R=>?_⟩;obtain⟨r,xs,rfl,r0,j,T⟩:=R;obtain⟨k,J⟩:=ok.to rfl I;have m:∀c,B c≠on 1->∀b l,bg=on (b,l)->c≠b/\c≠l:=λc hc b l e=>⟨λz=>hc (z▸(ok.bgt b l e).1),λz=>hc (z▸(ok.bgt b l e).2)⟩;have t:∀c o,H c=on o->B c≠on 1->F c=on o:=λc o h n=>I.kp c o h (m c n);have L:∀c,B c=on (i+2)->B c≠on 1:=λc h=>by rw[h];intro z;cases z
    have d:=t a _ ha (L a hB);have g:d4 X.K (et B bg) F (λr=>B r=on (i+2)) a_ rs:=d4.tr J.tr C λc ys _ p y=>⟨p,t c _ y (L c p)⟩;refine⟨a,rs.map V.ref,.ref r,rfl,rfl,d,by rw[Qi,<-g.len];exact RI hn.2,?_⟩;obtain⟨Y,u,U⟩:=f_.addRow (i:=i) (r:=r) (ds:=ds) ok k J t A hB d ha nd g r0 j hn.1.1 (bb.tr Fx.tr_of _ _ T) (λc hc z=>by
     obtain⟨_,ys,y⟩:=C.all c hc;rw[y]at z;cases z) (λw W=>Tw.mp hn.1.2 w W)
    exact q _ _ _ U u
   .cases e
  .cases e
 .cases e
def Nl:Dn->M (List (List D)):=λ_=>M.ret []
theorem P4:PE X (.List [] pos) (tVG X.K Nl E):=(gF fI).imp λσ H Q b=>by
 obtain⟨F,δ,β,fr,c,_,_,e,k⟩:=b;cases e;exact⟨RB _,λp a=>k _ _ (fr.upd _ a) ⟨p,[],rfl,a,ah,R8 _ _,trivial⟩⟩
end
end L2.Pu
namespace L2.Pu
open PySem PySem.Spec PyProof.Rows PySem.SeqAt
open PySem.AutoSeq1 (wpAny_loadPart')
open PySem.MeetsSeq PySem.MeetsSeq2 PySem.MeetsSeq3
end L2.Pu
namespace L2.Hs
open PySem PySem.Spec PyProof.Rows
section
variable{X:Cx}
def LZ(b:Bool):TE:=λ_ H Q=>∀D,H D=Qh->Q (.ref D) (upd H D (bu D b 0 []))
theorem ut{b:Bool}:PE X (.Dict [] [] pos) (LZ b):=by
 intro a s c H Q I h;rw[arm_eval_Dict];refine My (SG ?_);show QJ _ _ newDict _ _ _;exact nW a s c H _ _ I λe d _=>⟨.ref _,_,d,rfl,h _ (I.hok.fresh (Qz _))⟩
def w_(xs:List (fh×Qs×V))(k:fh)(c:Qs)(v:V):List (fh×Qs×V):=if(mm xs k).isSome then xs.map (λx=>if x.1=k then(x.1,x.2.1,v)else x)else xs++[(k,c,v)]
theorem yG(h:∀x y,XY x y->XY (f x) (g y)):∀{xs:List (fh×Qs×V)} {ys:List (fh×Qs×Qv)},VV XY xs ys->VV XY (xs.map f) (ys.map g)
 |_,_,.nil=> .nil
 |_,_,.cons a t=> .cons (h _ _ a) (yG h t)
theorem CS(p:VV XY xs ys)(r:aL v u):VV XY (w_ xs k c v) (storedH ys k c u):=by
 have f:=jF (k:=k) p;unfold w_;cases e:Xi ys k with
 |none=>
  rw[e]at f;cases q:mm xs k with
  |some w=>rw[q]at f;exact f.elim
  |none=>
   rw[storedH_new e];exact p7 ⟨rfl,rfl,r⟩ p
 |some w=>
  rw[e]at f;cases q:mm xs k with
  |none=>rw[q]at f;exact f.elim
  |some a=>
   rw[storedH_old e];refine yG (λx y h=>?_) p;unfold putAt;rw[<-h.1];by_cases z:x.1=k
   .rw[Qt z,Qt z];exact⟨rfl,h.2.1,r⟩
   .rw[Qp z,Qp z];exact h
theorem Kv(xs:List (fh×Qs×V))(k:fh)(c:Qs)(v:V):(w_ xs k c v).length<=xs.length+1:=by
 unfold w_;split
 .rw[Qi];omega
 .simp
def JD(K:QR):V->V->V->Hp->(Hp->Prop)->Prop:=λo i v H Q=>∃a b ep xs k c,o= .ref a/\i= .ref c/\H a=on (bu a b ep xs)/\(∀x∈xs,t5 K H b x.1 x.2.1)/\t5 K H b k c/\xs.length<QN/\∀d,Q (upd H a (bu a b d (w_ xs k c v)))
theorem tW(t:X.A.units+2<U4):ID X (JD X.K):=by
 intro j s W H o i v Y Z u Q I y B C h;obtain⟨a,b,ep,xs,k,c,rfl,rfl,l,F,hc,hl,q⟩:=h;cases y;cases B;obtain⟨ys,J,p,L,f⟩:=i7 I l F;refine wpAny_setItem_heap (iA t) (kN I hc) J (λh' d' N=>?_) L;have m:=CS (k:=k) (c:=c) p C;obtain⟨o,es,g,r,O,R,T,g5,U⟩:=d';have d:=RE VG (mo m);rw[Qi,Qi]at d;have:=Kv xs k c v;exact⟨_,I.write (by rw[l];trivial) (.inl rfl) (λb u n e=>(N.2 b n).trans e) ⟨o,r⟩ (j4 ⟨o,es,_,r,O,R,by rw[T];unfold YS;rw[mP],U,f,by omega,m⟩),q g⟩
end
end L2.Hs
namespace L2.Pu
open PySem PySem.Spec PyProof.Rows L2.Hs
def R_(ks:List fh)(k:fh):List fh:=if k∈ks then ks else ks++[k]
def Q_(ks:List fh)(vs:List D)(k:fh)(d:D):List D:=if k∈ks then(ks.zip vs).map (λp=>if p.1=k then d else p.2)else vs++[d]
section
variable{K:QR}{F:Fx}{H:Hp}
theorem qw:∀{xs:List (fh×Qs×V)},(mm xs k).isSome=decide (k∈xs.map (·.1))
 |[]=>by simp[mm]
 |x::xs=>by
  have ih:=qw (k:=k) (xs:=xs);unfold mm at ih⊢;rw[SN];by_cases q:x.1=k
  .rw[QL q];simp[q]
  .rw[Rk q]
   dsimp only
   rw[ih];exact decide_eq_decide.mpr (by rw[QB,QD];exact⟨.inr,λz=>z.resolve_left λy=>q y.symm⟩)
theorem DI{xs:List (fh×Qs×V)}:(w_ xs k c v).map (·.1)=R_ (xs.map (·.1)) k:=by
 unfold w_ R_;rw[qw];by_cases q:k∈xs.map (·.1)
 .rw[Qt (QL q),Qt q,QG]
  refine Ra λx _=>?_;show(if x.1=k then(x.1,x.2.1,v)else x).1=x.1;split<;>rfl
 .rw[Qp (λz=>q (RI z)),Qp q,Rg];rfl
theorem Kw{xs:List (fh×Qs×V)}(hd:cx K F H d v)(h:bb K F H vs (xs.map (·.2.2))):bb K F H (Q_ (xs.map (·.1)) vs k d) ((w_ xs k c v).map (·.2.2)):=by
 unfold w_ Q_;rw[qw];by_cases q:k∈xs.map (·.1)
 .rw[Qt (QL q),Qt q]
  clear q
  induction xs generalizing vs with
  |nil=>exact bb.nil
  |cons x xs ih=>
   cases vs with
   |nil=>cases h
   |cons w vs=>
    obtain⟨u,r,e,a,b⟩:=h;rw[QB,TC]at e;obtain⟨rfl,rfl⟩:=e;refine bb.cons (xs:=((xs.map λx=>if x.1=k then(x.1,x.2.1,v)else x).map (·.2.2))) ?_ (ih b);show cx K F H (if x.1=k then d else w) (if x.1=k then(x.1,x.2.1,v)else x).2.2;by_cases z:x.1=k
    .rw[Qt z,Qt z];exact hd
    .rw[Qp z,Qp z];exact a
 .rw[Qp (λz=>q (RI z)),Qp q,Rg]
  exact bb.append h (bb.cons hd bb.nil)
theorem Ma{b:Bool}(d:∀x∈xs,eQ K F H b x.1 x.2.1)(hc:eQ K F H b k c):∀x∈w_ xs k c v,eQ K F H b x.1 x.2.1:=λx a=>by
 unfold w_ at a;split at a
 .obtain⟨y,e,rfl⟩:=QC.mp a
  split
  .exact d y e
  .exact d y e
 .rcases RK.mp a with h|h
  .exact d x h
  .cases Q5.mp h
   exact hc
variable{X:Cx}{E:St->XK}{st:RT}
def Nm(i:Nat)(b:Bool):G:=λδ β=>on (.nx (δ.set i (on (.odc b [] []))),β)
theorem O8{b:Bool}(h:PS X st (gZ (LZ b) (dW i))):PS X st (tG X.K X.H₀ (Nm i b) E):=h.imp λD k H c=>by
 obtain⟨B,bg,δ,β,o,d,ok,e,q⟩:=c;cases e;intro p f;obtain⟨a,g⟩:=ok.newAt (i:=i) (sl:= .odc b [] []) (u:=bu p b 0 []) f (.inr ⟨_,ah⟩) λe _=>⟨p,rfl,e,0,[],ah,rfl,(λx j=>by cases j),bb.nil⟩;exact q _ _ _ g a
def sM(i:Nat)(a c:FD):G:=λδ β=>match c (hW δ) β with
 |some (.ok d,β1)=>match a (hW δ) β1 with
  |some (.ok kd,β2)=>match δ.getD i Qh with
   |some (.odc b ks vs)=>match dC b kd with
    |some k=>if(noL d&&decide (ks.length<QN))=Qo then on (.nx (δ.set i (on (.odc b (R_ ks k) (Q_ ks vs k d)))),β2)else Qh
    |none=>Qh
   |_=>Qh
  |_=>Qh
 |some (.error C,β1)=>on (.ex C δ,β1)
 |none=>Qh
theorem Mj(h:PS X st (gZ (tV X.K fv E) (FI (kn i) (tV X.K fk E) (JD X.K)))):PS X st (tG X.K X.H₀ (sM i fk fv) E):=h.imp λD σ H R=>by
 obtain⟨B,bg,δ,β,o,T,ok,e,q⟩:=R;refine⟨o_ B bg,hW δ,β,ok.frA,ok.viewA,?_⟩;unfold sM at e;split at e
 .rename_i d β1 p
  refine⟨.ok d,_,p,λv H1 t hd=>?_⟩;obtain⟨g,U⟩:=ok.to rfl t;split at e
  .rename_i kd β2 W
   split at e
   .rename_i b ks vs N
    split at e
    .rename_i k Y
     split at e
     .rename_i hn
      cases e;rw[Q9,Rm]at hn;obtain⟨w,r,a,rfl,hB,h2⟩:=g.tell i _ (getD_some N);refine⟨_,r,o_ B bg,hW δ,β1,g.frA,g.viewA,.ok kd,_,W,λkv H2 Z y=>?_⟩;obtain⟨j,n⟩:=g.to rfl Z;obtain⟨_,l,a',e',hB',ep,xs,hD,A,O,dl⟩:=j.tell i _ (getD_some N);rw[r]at l;cases l;cases e';obtain⟨hz,rfl⟩:=iX Y;have nk:noL (dK b k)=Qo:=by
       cases b with
       |true=>show(Qo&&(noLs (k.2.map Pu.D.int)&&Qo))=Qo;rw[gH];rfl
       |false=>exact gH k.2
      obtain⟨c,rfl,Q⟩:=mK hz (j.noB nk y);have I:=cx.tr n.tr _ _ (g.noB hn.1 hd);subst A;refine⟨a,b,ep,xs,k,c,rfl,rfl,hD,λx J=>(O x J).s,Q.s,by rw[<-Qi (f:=(·.1))];exact hn.2,λm=>?_⟩;obtain⟨L,s3⟩:=j.writeAt (sl:= .odc b (R_ (xs.map (·.1)) k) (Q_ (xs.map (·.1)) vs k d)) (u:=bu a b m (w_ xs k c v)) r hB (.inr ⟨_,ah⟩) λt=>⟨a,rfl,hB,m,_,ah,DI.symm,Ma (λx J=>(O x J).tr t) (Q.tr t),Kw (cx.tr t _ _ I) (bb.tr t _ _ dl)⟩;exact q _ B _ ((U.trans n).trans s3) L
     .cases e
    .cases e
   .cases e
  .cases e
 .rename_i C β1 p
  cases e;refine⟨.error C,_,p,λH' t=>?_⟩;obtain⟨j,n⟩:=ok.to rfl t;exact q _ B H' n j
 .cases e
end
end L2.Pu
namespace L2.Hs
open PySem PySem.Spec PyProof.Rows
def OZ(K:QR)(b:Bool)(f g:TE):TE:=λe H Q=>∀D,H D=Qh->f e (upd H D (bu D b 0 [])) λx h=>g e h λy a=>∃ep k c,x= .ref c/\a D=on (bu D b ep [])/\t5 K a b k c/\∀d,Q (.ref D) (upd a D (bu D b d [(k,c,y)]))
theorem DZ{X:Cx}{b:Bool}(m:X.A.units+2<U4)(r:PE X ke tk)(t:PE X ve tv):PE X (.Dict [on ke] [ve] pos) (OZ X.K b tk tv):=by
 intro a s d H Q I h;rw[arm_eval_Dict];refine My (SG ?_);have hs:(evalEachOpt [on ke] X.env).zip ((evalEach [ve] X.env).map λv=>do let x <-v;Uh pos;SY x)=[(RN ke X.env,(do let x <-RN ve X.env;Uh pos;SY x))].map λp=>(on p.1,p.2):=by
  simp[evalEachOpt,evalEach,evalOpt]
 rw[hs,dictDisplay_pairs _ (by simp) (by simp)];refine My ?_;unfold subDict;refine My (wpAny_alloc ?_);refine My (R3 ?_);rw[Qt (by simp)];have B:H s.heap.objs.size=Qh:=I.hok.fresh (Qz _);have C:c4 X a d (upd H s.heap.objs.size (bu s.heap.objs.size b 0 [])) {s with heap:=s.heap.push {cls:= .type "dict",data:= .dict #[]}}:=I.laid (t':=s.toks) (λ_ _ q=>Qm _ q) (Qz _) (j4 ⟨_,#[],[],QK _ rfl,⟨rfl,rfl,rfl⟩,rfl,rfl,.nil,beq_eq_false_iff_ne.mpr (Ne.symm (Rr (L4 I))),RB _,.nil⟩);refine My (evalPairs_cons (en (r a _ d _ _ C (h _ B)) λkv F J=>?_));obtain⟨x,L,N,r1,q1⟩:=J;refine My (en (t a F d L _ N q1) λvv s2 O=>My (SG (Qj ?_)));obtain⟨y,H2,f,R,ep,k,c,rfl,j,hc,q⟩:=O;cases r1;refine evalPairs_nil ?_;refine R3 ?_;obtain⟨ys,T,p,U,g⟩:=i7 f j (λx W=>by cases W);cases p;show QJ _ _ (YT [(QU c,vv)] PUnit.unit _>>=_) _ _ _;rw[Tg];refine My (My (My (wpAny_dictSet_heap (iA (A:=X.A) (Xc m)) (kN f hc) T (λh' d' Y=>Qj ?_) U)));show QJ _ _ (YT [] PUnit.unit _) _ _ _;rw[Tx];refine Qj (Qj (Qj (Qj ?_)));rw[storedH_new (show Xi [] k=Qh from rfl)]at d';obtain⟨o,es,i,l,Z,g3,g4,g5,g6⟩:=d';exact⟨.ref _,_,f.write (by rw[j];trivial) (.inl rfl) (λb u n e=>(Y.2 b n).trans e) ⟨o,l⟩ (j4 ⟨o,es,_,l,Z,g3,by rw[g4];unfold YS;rw[mP],g6,g,(by show 1<=QN;decide),.cons ⟨rfl,rfl,R⟩ .nil⟩),rfl,q i⟩
end L2.Hs
namespace L2.Pu
open PySem PySem.Spec PyProof.Rows L2.Hs
def yp(b:Bool)(k v:D):Option D:=(dC b k).map λy=> .dct b [y] [v]
def P7(b:Bool)(a c:FD):FD:=f2 (yp b) a c
theorem Kn{X:Cx}{E:St->XK}{b:Bool}(hu:X.A.units+2<U4)(hk:PE X ke (tV X.K fk E))(hv:PE X ve (tV X.K fv E)):PE X (.Dict [on ke] [ve] pos) (tV X.K (P7 b fk fv) E):=
 (DZ (b:=b) hu hk hv).imp λσ H Q h_ D g=>by
  obtain⟨F,δ,β,fr,vk,r⟩:=h_;have u:=fr.upd (bu D b 0 []) g;have p:∀b l,F.bg=on (b,l)->D≠b/\D≠l:=λb l e=>by
   obtain⟨T,U⟩:=fr.bag b l e;exact⟨λz=>(by rw[<-z,g]at T;cases T),λz=>(by rw[<-z,g]at U;cases U)⟩
  have W:Fr (F.but D) (upd H D (bu D b 0 [])) β:=⟨λa ha=>by
   rcases ha with ha|rfl
   .exact u.fr.occ a ha
   .rw[ah];simp,λb l e=>⟨.inl (fr.bgA b l e).1,.inl (fr.bgA b l e).2.1,(fr.bgA b l e).2.2⟩,u.fr.bag⟩
  have Y:h8 X.K (F.but D) (upd H D (bu D b 0 [])) δ σ:=vk.tr (Fx.tr_but fr g λa o e=>by rw[b_ (ay e g)];exact e);have d:∀{i:Hp} {f:Bg},To (F.but D) (upd H D (bu D b 0 [])) i f->To F H i f:=λ{i f} t=>⟨λa o h n=>t.kp a o (u.kp a o h n) n,⟨λa ha=>t.fr.occ a (.inl ha),fr.bgA,t.fr.bag⟩⟩;obtain⟨rr,f,e,v⟩:=r;have e:M.bind (fk δ) (λa=>M.bind (fv δ) λz=>M.ofO (yp b a z)) β=on (rr,f):=e;refine⟨F.but D,δ,β,W,Y,?_⟩;cases q1:fk δ β with
  |none=>unfold M.bind at e;rw[q1]at e;cases e
  |some z=>
   obtain⟨r1,β1⟩:=z;refine⟨r1,β1,q1,?_⟩;cases r1 with
   |error C=>
    rw[M.bind_err q1]at e;cases e;exact λi t=>v i (d t)
   |ok dk=>
    rw[M.bind_ok q1]at e;intro x H1 k B;refine⟨F.but D,δ,β1,k.fr,Y.tr (k.tr W),?_⟩;cases q2:fv δ β1 with
    |none=>unfold M.bind at e;rw[q2]at e;cases e
    |some z=>
     obtain⟨Z,β2⟩:=z;refine⟨Z,β2,q2,?_⟩;cases Z with
     |error C=>
      rw[M.bind_err q2]at e;cases e;exact λi t=>v i (d (k.trans t))
     |ok dv=>
      rw[M.bind_ok q2]at e;intro y I J L;cases N:dC b dk with
      |none=>unfold yp M.ofO at e;rw[N]at e;cases e
      |some j=>
       unfold yp M.ofO at e;rw[N]at e;cases e;obtain⟨hz,rfl⟩:=iX N;obtain⟨c,rfl,kc⟩:=mK hz (cx.tr (J.tr k.fr) _ _ B);have O:I D=on (bu D b 0 []):=J.kp D _ (k.kp D _ ah p) p;have hA:¬F.A D:=fr.fresh g;refine⟨0,j,c,rfl,O,kc.s,λm=>?_⟩;have tt:Tr (F.but D) I F (upd I D (bu D b m [(j,c,y)])):=⟨λa h _ z=>h (.inl z),λa o h e=>by rw[b_ λz=>h (.inr z)];exact e,rfl⟩;have R:=d (k.trans J);refine v _ _ ⟨λa o h n=>?_,λa h q=>?_,fr.bgA,λb l q=>?_⟩ ?_
       .have:a≠D:=λz=>by rw[z,g]at h;cases h
        rw[b_ this];exact R.kp a o h n
       .by_cases z:a=D
        .subst z;exact hA h
        .rw[b_ z]at q;exact R.fr.occ a h q
       .rw[b_ (p b l q).1.symm,b_ (p b l q).2.symm]
        exact R.fr.bag b l q
       .unfold cx
        exact⟨D,m,[(j,c,y)],rfl,⟨hA,ah⟩,rfl,λx hx=>by cases Q5.mp hx;exact kc.tr tt,bb.cons (cx.tr tt _ _ L) bb.nil⟩
def x8:List D->Option D
 |[.bl k]=>on (.int (if k then 1 else 0))
 |_=>Qh
theorem AO{K:QR}:dg K (λxs H Q=>(∃i,xs=[.int i]/\Q (.int i) H)\/∃k,xs=[.bl k]/\Q (.int (if k then 1 else 0)) H) x8:=λF H β Q ds d vs fr h e k=>by
 unfold x8 at e;split at e
 .rename_i b
  cases e;obtain⟨v,rfl,a⟩:=bb.one h;cases(show v=V.bl b from a);exact .inr ⟨b,rfl,k _ _ (To.refl fr) rfl⟩
 .cases e
end L2.Pu
namespace L2.Pu
open PySem L2.Hs
def kO(k:List Int):LI->LI
 |[]=>[k]
 |x::l=>if cB k x=Qo then k::x::l else if k=x then x::l else x::kO k l
theorem lp:∀{l:LI},y∈kO k l↔y=k\/y∈l
 |[]=>by simp[kO]
 |x::l=>by
  unfold kO;split
  .simp
  .split
   .rename_i h
    subst h;simp
   .rw[QD,lp,QD]
    exact or_left_comm
theorem wx:∀{l:LI},Up l->Up (kO k l)
 |[],_=>by unfold kO;exact R8 _ _
 |x::l,h=>by
  obtain⟨a,b⟩:=Ux.mp h;unfold kO;split
  .rename_i q
   refine Ux.mpr ⟨λy hy=>?_,h⟩;rcases QD.mp hy with rfl|hy
   .exact q
   .exact pp q (a y hy)
  .split
   .exact h
   .rename_i q1 q2
    refine Ux.mpr ⟨λy hy=>?_,wx b⟩;rcases lp.mp hy with rfl|hy
    .cases q:cB x y with
     |true=>rfl
     |false=>exact QX (mJ (by simpa using q1) q) q2
    .exact a y hy
def lx(ks:LI):LI:=ks.foldr kO []
theorem mx:∀ks,Up (lx ks)
 |[]=> .nil
 |k::ks=>wx (mx ks)
theorem dX:∀{ks:LI},y∈lx ks↔y∈ks
 |[]=>by simp[lx]
 |k::ks=>by
  show y∈kO k (lx ks)↔_;rw[lp,dX,QD]
theorem IT{l:LI}(h:Up l):l.Nodup:=h.imp λ{a b} q e=>by
 subst e;rw[iz]at q;cases q
theorem Mb{ks:LI}(b:∀k∈ks,1<=k.length){m:LI}(hm:m.length<63)(c:∀k∈ks,k∈m):kq (ks.map k_)=on (.lst ((lx ks).map k_)):=by
 refine DJ ⟨mx ks,Sn (gJ (IT (mx ks)) λx e=>c x (dX.mp e)) hm,λk a=>⟨b k (dX.mp a),QC.mpr ⟨k,dX.mp a,rfl⟩⟩,λd hd=>?_⟩;obtain⟨k,a,rfl⟩:=QC.mp hd;exact⟨k,dX.mpr a,rfl⟩
end L2.Pu
namespace L2.Nt
noncomputable def sm{α:Type}(l:List α)(f:α->Nat):Nat:=(l.map f).sum
section
variable{α β:Type}
theorem zc{f:α->Nat}:sm [] f=0:=rfl
theorem aW{a:α}{l:List α}{f:α->Nat}:sm (a::l) f=f a+sm l f:=by unfold sm;rw[QB,QT]
theorem tT{l m:List α}{f:α->Nat}:sm (l++m) f=sm l f+sm m f:=by unfold sm;rw[Rg,XB]
theorem bn:∀{l:List α},(∀a∈l,f a=g a)->sm l f=sm l g
 |[],_=>rfl
 |a::l,h=>by rw[aW,aW,h a Qq,bn λb c=>h b (Qk a c)]
theorem tR{g:β->α}{f:α->Nat}{l:List β}:sm (l.map g) f=sm l λb=>f (g b):=by unfold sm;rw[QG];rfl
theorem qe{g:β->List α}{f:α->Nat}:∀{l:List β},sm (l.flatMap g) f=sm l λb=>sm (g b) f
 |[]=>rfl
 |b::l=>by rw[Sb,tT,aW,qe]
theorem my:∀{l:List α},(sm l λ_=>0)=0
 |[]=>rfl
 |a::l=>by rw[aW,my]
theorem oM:∀{l:List α},(sm l λa=>f a+g a)=sm l f+sm l g
 |[]=>rfl
 |a::l=>by rw[aW,aW,aW,oM];omega
theorem fE:∀{l:List α},(sm l λa=>c*f a)=c*sm l f
 |[]=>rfl
 |a::l=>by rw[aW,aW,fE,Uc]
theorem vQ{f:α->β->Nat}{m:List β}:∀{l:List α},(sm l λa=>sm m (f a))=sm m λb=>sm l λa=>f a b
 |[]=>my.symm
 |a::l=>by
  rw[aW,vQ,<-oM];exact bn λb _=>(aW (f:=λa=>f a b)).symm
theorem IZ:∀{n:Nat},m<=n->sm (Qy (m+1)) f=sm (Qy (n+1)) λa=>if a<=m then f a else 0
 |0,h=>by
  obtain rfl:m=0:=by omega
  exact bn λa ha=>by
   have:=QW.mp ha;rw[Qt (by omega)]
 |n+1,h=>by
  rcases Vi m (n+1)with q|q
  .rw[TY (n:=n+1),tT,<-IZ (by omega:m<=n),aW,zc,Qp (by omega)]
   omega
  .obtain rfl:m=n+1:=by omega
   exact bn λa ha=>by
    have:=QW.mp ha;rw[Qt (by omega)]
noncomputable def bB:List Nat->Nat->List (List Nat)
 |[],0=>[[]]
 |[],_+1=>[]
 |x::r,c=>(Qy (V0 x c+1)).flatMap λa=>(bB r (c-a)).map (a::·)
noncomputable def less(r v:List Nat):List Nat:=TL (·-·) r v
theorem yK:sm (bB (x::r) c) f=sm (Qy (V0 x c+1)) λa=>sm (bB r (c-a)) λv=>f (a::v):=by
 show sm ((Qy (V0 x c+1)).flatMap λa=>(bB r (c-a)).map (a::·)) f=_;rw[qe];exact bn λa _=>tR
end
end L2.Nt
namespace L2.Nt
open L2.Pu
noncomputable def ch:Nat->Nat->Nat
 |_,0=>1
 |0,_+1=>0
 |n+1,k+1=>ch n k+ch n (k+1)
theorem pS:∀{n k:Nat},n<k->ch n k=0
 |0,k+1,_=>by simp[ch]
 |n+1,k+1,h=>by
  show ch n k+ch n (k+1)=0;rw[pS (by omega),pS (by omega)]
theorem qL(n:Nat):ch n 0=1:=by cases n<;>rfl
theorem wO:∀n,ch n n=1
 |0=>rfl
 |n+1=>by
  show ch n n+ch n (n+1)=1;rw[wO n,pS (by omega)]
theorem pM(n:Nat):di (n+1)=(n+1)*di n:=Rj (di n) (n+1)
theorem l7:∀n a b:Nat,a+b=n->ch (a+b) a*(di a*di b)=di (a+b)
 |n,0,b,_=>by rw[qL];simp[di]
 |n,a+1,0,_=>by rw[Wl,wO];simp[di]
 |0,a+1,b+1,h=>by omega
 |n+1,a+1,b+1,h=>by
  have c:=l7 n a (b+1) (by omega);have d:=l7 n (a+1) b (by omega);have e:a+1+(b+1)=(a+b+1)+1:=by omega
  have f:a+(b+1)=a+b+1:=by omega
  have g:a+1+b=a+b+1:=by omega
  rw[f]at c;rw[g]at d;rw[e];show(ch (a+b+1) a+ch (a+b+1) (a+1))*(di (a+1)*di (b+1))=di (a+b+1+1);rw[pM (a+b+1),Ua];have i:ch (a+b+1) a*(di (a+1)*di (b+1))=(a+1)*di (a+b+1):=by
   rw[<-c,pM a];simp only[Re,Rh,Rj]
  have j:ch (a+b+1) (a+1)*(di (a+1)*di (b+1))=(b+1)*di (a+b+1):=by
   rw[<-d,pM b];simp only[Re,Rh,Rj]
  rw[i,j,<-Ua,show a+1+(b+1)=a+b+1+1 by omega]
theorem mz:sm (Qy (n+1)) f=f 0+sm (Qy n) λa=>f (a+1):=by
 rw[YD,aW,tR]
theorem CU:∀(x y c:Nat),(sm (Qy (c+1)) λa=>ch x a*ch y (c-a))=ch (x+y) c
 |0,y,c=>by
  rw[mz,qL,XE,Nat.sub_zero,RX];have:(sm (Qy c) λa=>ch 0 (a+1)*ch y (c-(a+1)))=0:=(bn λa _=>by rw[pS (by omega),TU]).trans my;rw[this];rfl
 |x+1,y,0=>by rw[mz];simp[qL,zc]
 |x+1,y,c+1=>by
  have b:=CU x y (c+1);have d:=CU x y c;rw[mz]at b;rw[mz];have e:(sm (Qy (c+1)) λa=>ch (x+1) (a+1)*ch y (c+1-(a+1)))=(sm (Qy (c+1)) λa=>ch x a*ch y (c-a))+sm (Qy (c+1)) λa=>ch x (a+1)*ch y (c+1-(a+1)):=by
   rw[<-oM];refine bn λa _=>?_;show(ch x a+ch x (a+1))*_=_;rw[Ua,Nat.add_sub_add_right]
  rw[e,d];have f:x+1+y=x+y+1:=by omega
  rw[f];show _=ch (x+y) c+ch (x+y) (c+1);rw[<-b,qL,qL];omega
theorem vdm(x y c:Nat):(sm (Qy (V0 x c+1)) λa=>ch x a*ch y (c-a))=ch (x+y) c:=by
 rw[IZ (Nat.min_le_right x c),<-CU];refine bn λa ha=>?_;have:=QW.mp ha;by_cases q:a<=x
 .rw[Qt (by omega)]
 .rw[Qp (by omega),pS (by omega),TU]
def pc:List Nat->List Nat->Nat
 |x::r,a::v=>ch x a*pc r v
 |_,_=>1
theorem zQ:∀(r:List Nat) (c:Nat),sm (bB r c) (pc r)=ch r.sum c
 |[],0=>rfl
 |[],c+1=>rfl
 |x::r,c=>by
  rw[yK,QT,<-vdm];exact bn λa _=>by rw[<-zQ r (c-a),<-fE];rfl
theorem f8:∀{r:List Nat} {c:Nat} {v:List Nat},v∈bB r c->v.sum=c/\(less r v).sum+c=r.sum/\v.length=r.length/\pr (r.map di)=pc r v*(pr (v.map di)*pr ((less r v).map di))
 |[],0,v,h=>by cases Q5.mp h;exact⟨rfl,rfl,rfl,rfl⟩
 |[],c+1,v,h=>by cases h
 |x::r,c,v,h=>by
  have h':v∈(Qy (V0 x c+1)).flatMap λa=>(bB r (c-a)).map (a::·):=h;obtain⟨a,ha,d⟩:=SJ.mp h';obtain⟨u,e,rfl⟩:=QC.mp d;have f:=QW.mp ha;obtain⟨g,i,j,k⟩:=f8 e;refine⟨by rw[QT,g];omega,?_,by rw[QP,j,QP],?_⟩
  .show((x-a)::less r u).sum+c=_
   rw[QT,QT,<-i];omega
  .show di x*pr (r.map di)=(ch x a*pc r u)*((di a*pr (u.map di))*(di (x-a)*pr ((less r u).map di)))
   have b:=l7 x a (x-a) (by omega);rw[show a+(x-a)=x by omega]at b;rw[k,<-b];simp only[Re,Rh,Rj]
def mu:List Nat->Nat
 |[]=>1
 |x::r=>ch (x+r.sum) x*mu r
theorem gK:∀r:List Nat,mu r*pr (r.map di)=di r.sum
 |[]=>rfl
 |x::r=>by
  show(ch (x+r.sum) x*mu r)*(di x*pr (r.map di))=di (x::r).sum;rw[QT,<-l7 _ x r.sum rfl,<-gK r];simp only[Re,Rh,Rj]
theorem mF(r:List Nat):0<pr (r.map di):=zI λx a=>by
 obtain⟨n,_,rfl⟩:=QC.mp a;exact jY n
theorem MY(r:List Nat):di r.sum/pr (r.map di)=mu r:=by rw[<-gK,Nat.mul_div_cancel _ (mF r)]
def dls:List Nat->List Nat->Nat
 |_,[]=>1
 |r,c::cs=>sm (bB r c) λv=>mu v*dls (less r v) cs
theorem IH:∀{r:List Nat},r.sum=0->mu r=1
 |[],_=>rfl
 |x::r,h=>by
  rw[QT]at h;obtain rfl:x=0:=by omega
  show ch _ 0*mu r=1;rw[qL,IH (by omega)]
theorem u7:∀(cs r:List Nat),r.sum=cs.sum->dls r cs=mu r
 |[],r,h=>(IH h).symm
 |c::cs,r,h=>by
  rw[QT]at h;refine Ub (mF r) ?_;rw[gK];show sm (bB r c) (λv=>mu v*dls (less r v) cs)*_=_;rw[Rj,<-fE];have e:(sm (bB r c) λv=>pr (r.map di)*(mu v*dls (less r v) cs))=sm (bB r c) λv=>(di c*di (r.sum-c))*pc r v:=by
   refine bn λv a=>?_;obtain⟨b,f,g,d⟩:=f8 a;rw[u7 cs (less r v) (by omega),d];have m1:=gK v;have m2:=gK (less r v);rw[b]at m1;rw[show(less r v).sum=r.sum-c by omega]at m2;rw[<-m1,<-m2];simp only[Re,Rh,Rj]
  rw[e,fE,zQ,Rj];have:=l7 r.sum c (r.sum-c) (by omega);rw[show c+(r.sum-c)=r.sum by omega]at this;exact this
def ko:List Nat->List Nat->Prop
 |[],[]=>True
 |a::v,x::r=>a<=x/\ko v r
 |_,_=>False
theorem ko.refl:∀r,ko r r
 |[]=>trivial
 |_::r=>⟨Qz _,ko.refl r⟩
theorem ko.tr:∀{u v r:List Nat},ko u v->ko v r->ko u r
 |[],[],[],_,_=>trivial
 |_::_,_::_,_::_,h,q=>⟨Qw h.1 q.1,h.2.tr q.2⟩
 |[],_::_,_,h,_=>h.elim
 |_::_,[],_,h,_=>h.elim
 |[],[],_::_,_,q=>q.elim
 |_::_,_::_,[],_,q=>q.elim
theorem ko.len:∀{v r:List Nat},ko v r->v.length=r.length
 |[],[],_=>rfl
 |_::_,_::_,h=>RE (·+1) h.2.len
 |[],_::_,h=>h.elim
 |_::_,[],h=>h.elim
theorem ko.less:∀{v r:List Nat},ko v r->ko (less r v) r
 |[],[],_=>trivial
 |a::v,x::r,h=>⟨Vw x a,h.2.less⟩
 |[],_::_,h=>h.elim
 |_::_,[],h=>h.elim
theorem ko.pr:∀{v r:List Nat},ko v r->L2.Pu.pr (v.map (·+1))<=L2.Pu.pr (r.map (·+1))
 |[],[],_=>Qz _
 |_::_,_::_,h=>R9 (Nat.succ_le_succ h.1) h.2.pr
 |[],_::_,h=>h.elim
 |_::_,[],h=>h.elim
theorem ko.sum:∀{v r:List Nat},ko v r->v.sum<=r.sum
 |[],[],_=>Qz _
 |_::_,_::_,h=>by rw[QT,QT];exact WB h.1 h.2.sum
 |[],_::_,h=>h.elim
 |_::_,[],h=>h.elim
theorem cQ:∀{r:List Nat} {c:Nat} {v:List Nat},v∈bB r c->ko v r
 |[],0,v,h=>by cases Q5.mp h;exact trivial
 |[],c+1,v,h=>by cases h
 |x::r,c,v,h=>by
  have h':v∈(Qy (V0 x c+1)).flatMap λa=>(bB r (c-a)).map (a::·):=h;obtain⟨a,ha,b⟩:=SJ.mp h';obtain⟨u,d,rfl⟩:=QC.mp b;have e:=QW.mp ha;exact⟨by omega,cQ d⟩
theorem iS:∀{r v:List Nat},ko v r->v∈bB r v.sum
 |[],[],_=>Q5.mpr rfl
 |x::r,a::v,h=>by
  refine SJ.mpr ⟨a,QW.mpr (by rw[QT];have:=h.1;omega),QC.mpr ⟨v,?_,rfl⟩⟩;rw[QT,V7];exact iS h.2
 |[],_::_,h=>h.elim
 |_::_,[],h=>h.elim
theorem mW{α a:Type}{f:α->List a}{n:Nat}:∀{l:List α},(∀x∈l,(f x).length<=n)->(l.flatMap f).length<=l.length*n
 |[],_=>by simp
 |x::l,h=>by
  rw[Sb,QV,QP,Nat.succ_mul,Tq];exact WB (mW λy b=>h y (Qk _ b)) (h x Qq)
theorem kh:∀(r:List Nat) (c:Nat),(bB r c).length<=pr (r.dropLast.map (·+1))
 |[],0=>Qz _
 |[],_+1=>RB _
 |[x],c=>by
  have h:bB [x] c=(Qy (V0 x c+1)).flatMap λa=>(bB [] (c-a)).map (a::·):=rfl;rw[h,TY,U6,QV];have e:((Qy (V0 x c)).flatMap λa=>(bB [] (c-a)).map (a::·))=[]:=by
   refine Uz.mpr λa ha=>?_;have:=QW.mp ha;obtain⟨n,hn⟩:∃n,c-a=n+1:=⟨c-a-1,by omega⟩;rw[hn];rfl
  rw[e];cases q:c-V0 x c<;>simp[bB,q,pr]
 |x::y::r,c=>by
  have h:=mW (l:=Qy (V0 x c+1)) (f:=λa=>(bB (y::r) (c-a)).map (a::·)) (n:=pr ((y::r).dropLast.map (·+1))) λa _=>by rw[Qi];exact kh (y::r) (c-a)
  rw[Q6]at h;refine Qw h ?_;show _<=(x+1)*pr ((y::r).dropLast.map (·+1));exact Zk _ (by omega)
theorem yj{α β a:Type}{f:α->List β}{g:β->List a}(l:List α):(l.flatMap f).flatMap g=l.flatMap λx=>(f x).flatMap g:=List.flatMap_assoc
theorem xy(r:List Nat)(k:Nat):pr ((r.take k).map (·+1))<=pr (r.map (·+1)):=by
 conv=>rhs;rw[<-T3 k r,Rg,zJ]
 exact TD _ (zI λx a=>by
  obtain⟨n,_,rfl⟩:=QC.mp a;omega)
theorem sE(l:List Nat):(nI l).map Int.toNat=l:=by
 rw[QG];exact(Ra λx _=>rfl).trans (Y7 l)
theorem fK(h:nI l=nI m):l=m:=by rw[<-sE l,h,sE]
theorem z7{α a:Type}{f:α->a}{l:List α}(h:(l.map f).Nodup):l.Nodup:=(VH.mp h).imp λq e=>q (RE f e)
theorem pb{α c:Type}{f:α->c}(inj:∀a b,f a=f b->a=b){l:List α}(h:l.Nodup):(l.map f).Nodup:=VH.mpr (h.imp λq e=>q (inj _ _ e))
theorem gT{cs:List Nat}(h:k<cs.length):cs.drop k=cs.getD k 0::cs.drop (k+1):=by
 rw[Su h,Qn,Ql h];rfl
noncomputable def F_:List (Nat×Nat)->List Nat->Bool
 |p::ps,a::v=>decide (p.1<=a)&&decide (a<=p.2)&&F_ ps v
 |_,_=>Qo
def vB(ps:List (Nat×Nat))(r:List Nat)(c:Nat):List (List Nat):=(bB r c).filter (F_ ps)
theorem LO(h:v∈vB ps r c):v∈bB r c:=(Sm.mp h).1
theorem vJ{p:Nat×Nat}:vB (p::ps) (x::r) c=(Qy (V0 x c+1)).flatMap λa=>if p.1<=a/\a<=p.2 then(vB ps r (c-a)).map (a::·)else[]:=by
 show((Qy (V0 x c+1)).flatMap λa=>(bB r (c-a)).map (a::·)).filter (F_ (p::ps))=_;rw[List.filter_flatMap];refine RE (List.flatMap · _) (funext λa=>?_);rw[List.filter_map];by_cases q:p.1<=a/\a<=p.2
 .rw[Qt q]
  refine RE (SA (a::·)) (List.filter_congr λv _=>?_);show(decide (p.1<=a)&&decide (a<=p.2)&&F_ ps v)=F_ ps v;rw[QL q.1,QL q.2];rfl
 .rw[Qp q,List.filter_eq_nil_iff.mpr,Vd]
  intro v _ h;have h:(decide (p.1<=a)&&decide (a<=p.2)&&F_ ps v)=Qo:=h;simp only[Q9,Rm]at h;exact q h.1
noncomputable def lj:List (Nat×Nat)->List Nat->List Nat
 |p::ps,x::r=>V0 x p.2::lj ps r
 |_,_=>[]
noncomputable def lg(ps:List (Nat×Nat)):List Nat:=ps.map (·.1)
theorem IS:∀{ps:List (Nat×Nat)} {r:List Nat} {c:Nat} {v:List Nat},ps.length=r.length->v∈vB ps r c->(lg ps).sum<=c/\c<=(lj ps r).sum
 |[],[],c,v,_,h=>by
  have:=f8 (LO h);simp at this;simp[lg,lj];omega
 |p::ps,x::r,c,v,e,h=>by
  rw[vJ]at h;obtain⟨a,ha,h⟩:=SJ.mp h;by_cases q:p.1<=a/\a<=p.2
  .rw[Qt q]at h
   obtain⟨u,b,rfl⟩:=QC.mp h;have i:=IS (by simpa using e) b;have:=QW.mp ha;simp only[lg,lj,QB,QT]at i⊢;omega
  .rw[Qp q]at h;cases h
noncomputable def nxB(x:Nat)(p:Nat×Nat)(few a:Nat)(b:List Nat×Nat):List (List Nat×Nat):=(Qy (V0 (V0 x p.2+few) b.2+1-few-max p.1 (b.2-a))).map λi=>(b.1++[max p.1 (b.2-a)+i],b.2-(max p.1 (b.2-a)+i))
def l_(ps:List (Nat×Nat))(r:List Nat)(c:Nat):Nat->List (List Nat×Nat)
 |0=>[([],c)]
 |k+1=>(l_ ps r c k).flatMap (nxB (r.getD k 0) (ps.getD k (0,0)) ((lg ps).drop (k+1)).sum ((lj ps r).drop (k+1)).sum)
theorem BI{b:Type}{f:Nat->List b}{lo n N:Nat}(h:∀a<N,f a≠[]->lo<=a/\a<n)(hn:n<=N):(Qy N).flatMap f=(Qy (n-lo)).flatMap λi=>f (lo+i):=by
 have e:∀{a},a<N->¬(lo<=a/\a<n)->f a=[]:=λ{a} ha q=>T5 λz=>q (h a ha z);obtain⟨d,rfl⟩:∃d,N=n+d:=⟨N-n,by omega⟩;have z:(Qy d).flatMap (λa=>f (n+a))=[]:=Uz.mpr λa ha=>e (by have:=QW.mp ha;omega) (by omega);rw[List.range_add,U6,Xg,z,RJ];rcases Nat.le_total lo n with q|q
 .obtain⟨m,rfl⟩:∃m,n=lo+m:=⟨n-lo,by omega⟩
  rw[List.range_add,U6,Uz.mpr λa ha=>e (by have:=QW.mp ha;omega) (by have:=QW.mp ha;omega),TX,Xg,V7]
 .rw[show n-lo=0 by omega,Uz.mpr λa ha=>e (by have:=QW.mp ha;omega) (by have:=QW.mp ha;omega)];rfl
theorem tH:∀{ps:List (Nat×Nat)} {r:List Nat} (k:Nat),lj (ps.drop k) (r.drop k)=(lj ps r).drop k
 |_,_,0=>rfl
 |[],r,k+1=>by simp[lj]
 |p::ps,[],k+1=>by cases h:(ps.drop k)<;>simp[lj,h]
 |p::ps,x::r,k+1=>tH k
theorem bR{α:Type}{l:List α}{k:Nat}{d:α}(h:k<l.length):l.getD k d=l[k]:=by rw[Qn,Ql h];rfl
theorem kR{α a:Type}{f g:α->List a}:∀{l:List α},(∀x∈l,f x=g x)->l.flatMap f=l.flatMap g
 |[],_=>rfl
 |x::l,h=>by rw[Sb,Sb,h x Qq,kR λy b=>h y (Qk _ b)]
theorem vP{ps:List (Nat×Nat)}{r:List Nat}(e:ps.length=r.length)(c:Nat):∀k,k<=r.length->((l_ ps r c k).flatMap λb=>(vB (ps.drop k) (r.drop k) b.2).map (b.1++·))=vB ps r c
 |0,_=>by simp[l_]
 |k+1,h=>by
  rw[<-vP e c k (by omega)];show((l_ ps r c k).flatMap _).flatMap _=_;rw[yj];refine RE (List.flatMap · (l_ ps r c k)) (funext λb=>?_);have g:k<r.length:=by omega
  have j:k<ps.length:=by omega
  rw[Su g,Su j,bR g,bR j,vJ,Tz];rw[BI (f:=λa=>(if ps[k].1<=a/\a<=ps[k].2 then(vB (ps.drop (k+1)) (r.drop (k+1)) (b.2-a)).map (a::·)else[]).map (b.1++·)) (N:=V0 r[k] b.2+1) (lo:=max ps[k].1 (b.2-((lj ps r).drop (k+1)).sum)) (n:=V0 (V0 r[k] b.2+1) (V0 (V0 r[k] ps[k].2+((lg ps).drop (k+1)).sum) b.2+1-((lg ps).drop (k+1)).sum)) (λa o ha=>?_) (Nat.min_le_left _ _)]
  .unfold nxB
   rw[Xg,show V0 (V0 r[k] b.2+1) (V0 (V0 r[k] ps[k].2+((lg ps).drop (k+1)).sum) b.2+1-((lg ps).drop (k+1)).sum)=V0 (V0 r[k] ps[k].2+((lg ps).drop (k+1)).sum) b.2+1-((lg ps).drop (k+1)).sum by omega];refine kR λi l=>?_;have:=QW.mp l;rw[Qt (by omega),QG];exact Ra λv _=>by simp
  .by_cases q:ps[k].1<=a/\a<=ps[k].2
   .rw[Qt q]at ha
    obtain⟨w,d⟩:=List.exists_mem_of_ne_nil _ ha;obtain⟨w,d,_⟩:=QC.mp d;obtain⟨v,m,_⟩:=QC.mp d;have:=IS (by simp[e]) m;rw[tH]at this;unfold lg at this⊢;rw[UT]at this;omega
   .rw[Qp q]at ha;exact QX rfl ha
theorem LN(c:Nat):vB [] [] c=if(c:Int)=0 then[[]]else[]:=by
 cases c with
 |zero=>rfl
 |succ n=>rw[Qp (by omega)];rfl
theorem Kx{ps:List (Nat×Nat)}{r:List Nat}(a:ps.length=r.length)(c:Nat):((l_ ps r c r.length).filter λb=>decide ((b.2:Int)=0)).map (·.1)=vB ps r c:=by
 rw[<-vP a c r.length (Qz _),V2,<-a,V2,a];generalize l_ ps r c r.length=l
 induction l with
 |nil=>rfl
 |cons b l ih=>
  rw[Sb,UP,<-ih,LN];by_cases q:(b.2:Int)=0
  .rw[Qt q,Qt (QL q)];simp
  .rw[Qp q,Qp (by simp;omega)];rfl
theorem vO{r:List Nat}(c:Nat):∀k,k<=r.length->(l_ ps r c k).length<=pr ((r.take k).map (·+1))
 |0,_=>Qz _
 |k+1,h=>by
  have e:r[k]?=on r[k]:=Ql (by omega);rw[qr e];refine Qw (mW (n:=r[k]+1) λb _=>?_) (Zk _ (vO c k (by omega)));unfold nxB;rw[Qi,Q6,bR (show k<r.length by omega)];omega
theorem y9(ps:List (Nat×Nat))(r:List Nat)(c:Nat):∀k,∀b∈l_ ps r c k,b.2<=c/\b.1.length=k
 |0,b,h=>by cases Q5.mp h;exact⟨Qz _,rfl⟩
 |k+1,b,h=>by
  obtain⟨d,hd,a⟩:=SJ.mp (show b∈(l_ ps r c k).flatMap _ from h);obtain⟨i,_,rfl⟩:=QC.mp a;obtain⟨q1,q2⟩:=y9 ps r c k d hd;exact⟨by show d.2-_<=c;omega,by rw[QV,q2];rfl⟩
theorem yS:∀{ps:List (Nat×Nat)} {r:List Nat},(lj ps r).sum<=r.sum
 |[],r=>RB _
 |_::_,[]=>Qz _
 |p::ps,x::r=>by
  have:=yS (ps:=ps) (r:=r);simp only[lj,QT];omega
theorem uw:∀{r v:List Nat} {c:Nat},r.sum<=c->ko v r->F_ (r.map λ_=>(0,c)) v=Qo
 |[],[],_,_,_=>rfl
 |x::r,a::v,c,h,q=>by
  rw[QT]at h;show(decide (0<=a)&&decide (a<=c)&&F_ (r.map λ_=>(0,c)) v)=Qo;rw[uw (by omega) q.2,QL (RB a),QL (by have:=q.1;omega)];rfl
 |[],_::_,_,_,h=>h.elim
 |_::_,[],_,_,h=>h.elim
abbrev Wy:=Nat->List Nat->List (List Nat)
def Wi(cs:List Nat)(W:Wy):Prop:=∀k r,(W k r).Sublist (bB r (cs.getD k 0))
def S_(W:Wy)(L:List (List Nat))(k:Nat):LI:=L.flatMap λr=>(W k r).map λv=>nI (less r v)
def nwL(W:Wy)(L:List (List Nat))(k:Nat):List (List Nat):=(lx (S_ W L k)).map λk=>k.map Int.toNat
section
variable{W:Wy}{cs rs:List Nat}
theorem jU:y∈S_ W L k↔∃r∈L,∃v∈W k r,y=nI (less r v):=by
 unfold S_;constructor
 .intro h
  obtain⟨r,a,h⟩:=SJ.mp h;obtain⟨v,b,rfl⟩:=QC.mp h;exact⟨r,a,v,b,rfl⟩
 .rintro⟨r,a,v,b,rfl⟩
  exact SJ.mpr ⟨r,a,QC.mpr ⟨v,b,rfl⟩⟩
theorem xF(L:List (List Nat))(k:Nat):(nwL W L k).map nI=lx (S_ W L k):=by
 unfold nwL;rw[QG];refine(Ra λy a=>?_).trans (Y7 _);obtain⟨r,_,v,_,rfl⟩:=jU.mp (dX.mp a);show nI ((nI _).map Int.toNat)=_;rw[sE];rfl
theorem jT:u∈nwL W L k↔∃r∈L,∃v∈W k r,u=less r v:=by
 constructor
 .intro h
  have:nI u∈lx (S_ W L k):=by rw[<-xF];exact QC.mpr ⟨u,h,rfl⟩
  obtain⟨r,a,v,b,e⟩:=jU.mp (dX.mp this);exact⟨r,a,v,b,fK e⟩
 .rintro⟨r,a,v,b,rfl⟩
  exact QC.mpr ⟨nI (less r v),dX.mpr (jU.mpr ⟨r,a,v,b,rfl⟩),sE _⟩
def hL(W:Wy)(rs:List Nat):Nat->List (List Nat)
 |0=>[rs]
 |k+1=>nwL W (hL W rs k) k
theorem uH:∀k,(hL W rs k).Nodup
 |0=>R8 _ _
 |k+1=>z7 (f:=nI) (by show(SA nI (nwL _ _ _)).Nodup;rw[xF];exact IT (mx _))
theorem iU(b:Wi cs W)(hs:rs.sum=cs.sum):∀k,k<=cs.length->∀r∈hL W rs k,ko r rs/\r.sum=(cs.drop k).sum
 |0,_,r,h=>by cases Q5.mp h;exact⟨ko.refl _,hs⟩
 |k+1,hk,u,h=>by
  obtain⟨r,c,v,a,rfl⟩:=jT.mp (show u∈nwL W (hL W rs k) k from h);have a:=(b k r).subset a;obtain⟨q1,q2⟩:=iU b hs k (by omega) r c;have q3:=(f8 a).2.1;rw[q2,gT (by omega),QT]at q3;exact⟨(cQ a).less.tr q1,by omega⟩
theorem K9(a:Wi cs W)(hs:rs.sum=cs.sum)(b:k<=cs.length):(hL W rs k).length<=pr (rs.dropLast.map (·+1)):=
 Qw (gJ (uH k) (m:=bB rs (cs.drop k).sum) λr c=>by
  obtain⟨d,e⟩:=iU a hs k b r c;rw[<-e];exact iS d) (kh _ _)
theorem K4(a:Wi cs W)(hs:rs.sum=cs.sum)(e:1<=rs.length)(f:pr (rs.dropLast.map (·+1))<63)(g:k<cs.length):kq ((S_ W (hL W rs k) k).map k_)=on (.lst ((hL W rs (k+1)).map λr=>k_ (nI r))):=by
 refine(Mb (m:=(bB rs (cs.drop (k+1)).sum).map nI) ?_ (by rw[Qi];exact Sn (kh _ _) f) ?_).trans ?_
 .intro x b
  obtain⟨r,c,v,d,rfl⟩:=jU.mp b;rw[Qi,((cQ ((a k r).subset d)).less.tr (iU a hs k (by omega) r c).1).len];exact e
 .intro x b
  obtain⟨r,c,v,d,rfl⟩:=jU.mp b;obtain⟨q1,q2⟩:=iU a hs (k+1) g (less r v) (jT.mpr ⟨r,c,v,d,rfl⟩);exact QC.mpr ⟨less r v,by rw[<-q2];exact iS q1,rfl⟩
 .rw[<-xF,QG];rfl
def kyW(W:Wy)(rs:List Nat)(n:Nat):List (Int×List Int):=(Qy n).flatMap λk=>(hL W rs k).map λr=>((k:Int),nI r)
theorem AQ:∀n,(kyW W rs n).Nodup
 |0=>WA
 |n+1=>by
  unfold kyW;rw[TY,U6,Sb,List.flatMap_nil,RJ];refine UG.mpr ⟨AQ n,pb (λr s e=>fK (TM.mp e).2) (uH n),λx a y b e=>?_⟩;subst e;obtain⟨k,c,h⟩:=SJ.mp a;obtain⟨r,_,rfl⟩:=QC.mp h;obtain⟨s,_,e⟩:=QC.mp b;have:=(TM.mp e).1;have d:=QW.mp c;simp only at this;omega
def ra(W:Wy):Nat->Nat->List Nat->Nat
 |0,_,_=>1
 |j+1,k,r=>sm (W k r) λv=>ra W j (k+1) (less r v)
def L3(W:Wy):Nat->Nat->List Nat->Nat
 |0,_,_=>1
 |j+1,k,r=>sm (W k r) λv=>mu v*L3 W j (k+1) (less r v)
theorem zb{α:Type}{f g:α->Nat}{l m:List α}(h:l.Sublist m)(q:∀a∈m,f a<=g a):sm l f<=sm m g:=by
 induction h with
 |slnil=>exact Qz _
 |cons a _ ih=>rw[aW];exact Qw (ih λx b=>q x (Qk _ b)) (U7 _ _)
 |cons_cons a _ ih=>rw[aW,aW];exact WB (q a Qq) (ih λx b=>q x (Qk _ b))
theorem BO(a:Wi cs W):∀(j k:Nat) (r:List Nat),k+j=cs.length->L3 W j k r<=dls r (cs.drop k)
 |0,k,r,h=>by rw[show k=cs.length by omega,V2];exact Qz _
 |j+1,k,r,h=>by
  rw[gT (by omega)];exact zb (a k r) λv _=>Nat.mul_le_mul_left _ (BO a j (k+1) (less r v) (by omega))
theorem uB(r:List Nat):0<mu r:=Z6 λz=>by
 have:=gK r;rw[z,TU]at this;have:=jY r.sum;omega
def KX(W:Wy)(j k:Nat)(r:List Nat):List (List Nat):=(W k r).filter λv=>decide ((0:Int)<((ra W j (k+1) (less r v):Nat):Int))
def Wk(W:Wy):Nat->List Nat->List (List Nat)->Prop
 |_,_,[]=>True
 |k,r,v::vs=>v∈W k r/\Wk W (k+1) (less r v) vs
theorem xT{α:Type}{f:α->Nat}{a:α}:∀{l:List α},a∈l->f a<=sm l f
 |b::l,h=>by
  rw[aW];rcases QD.mp h with rfl|h
  .omega
  .have:=xT (f:=f) h;omega
theorem tu:∀{j k:Nat} {r:List Nat} {vs:List (List Nat)},Wk W k r vs->vs.length=j->0<ra W j k r
 |_,_,_,[],_,rfl=>Nat.one_pos
 |_,k,r,v::vs,h,rfl=>QY (tu h.2 rfl) (xT (f:=λv=>ra W vs.length (k+1) (less r v)) h.1)
def dI(u v:List Nat):List Nat:=TL (·+·) u v
def e_(n:Nat):List (List Nat)->List Nat
 |[]=>QE n 0
 |v::vs=>dI v (e_ n vs)
theorem uK:∀{v r:List Nat},v.length=r.length->less (dI v r) v=r/\ko v (dI v r)
 |[],[],_=>⟨rfl,trivial⟩
 |x::v,y::r,h=>by
  obtain⟨a,b⟩:=uK (v:=v) (r:=r) (by simpa using h);refine⟨?_,Sg _ _,b⟩;show(x+y-x)::less (dI v r) v=_;rw[a,V7]
theorem vo:∀{v r:List Nat},ko v r->dI v (less r v)=r
 |[],[],_=>rfl
 |x::v,y::r,h=>by
  show(x+(y-x))::dI v (less r v)=_;rw[vo h.2,Nat.add_sub_cancel' h.1]
 |[],_::_,h=>h.elim
 |_::_,[],h=>h.elim
theorem eG:∀{vs:List (List Nat)},(∀v∈vs,v.length=n)->(e_ n vs).length=n
 |[],_=>Sy
 |v::vs,h=>by
  show(TL _ _ _).length=n;rw[WK,h v Qq,eG λu a=>h u (Qk _ a),Nat.min_self]
theorem L7:∀{r:List Nat},r.sum=0->r=QE r.length 0
 |[],_=>rfl
 |x::r,h=>by
  rw[QT]at h;obtain rfl:x=0:=by omega
  rw[QP,R6,<-L7 (r:=r) (by omega)]
theorem vF(a:Wi cs W):∀{vs:List (List Nat)} {k:Nat} {r:List Nat},Wk W k r vs->k+vs.length=cs.length->r.sum=(cs.drop k).sum->vs.map RZ=cs.drop k/\r=e_ r.length vs/\∀v∈vs,v.length=r.length
 |[],k,r,_,e,s=>by
  have f:cs.drop k=[]:=SL (by simpa using e▸Qz _);rw[f]at s⊢;exact⟨rfl,L7 s,λ_ h=>by cases h⟩
 |v::vs,k,r,h,e,s=>by
  rw[QP]at e;have b:=(a k r).subset h.1;obtain⟨q1,q2,q3,_⟩:=f8 b;have le:=cQ b;rw[gT (by omega),QT]at s;obtain⟨g,c,d⟩:=vF a h.2 (by omega) (by omega);have i:=le.less.len;rw[i]at c d;refine⟨by rw[gT (by omega),QB,g,q1],?_,λu hu=>?_⟩
  .show r=dI v (e_ r.length vs)
   rw[<-c,vo le]
  .rcases QD.mp hu with rfl|hu
   .exact q3
   .exact d u hu
theorem wV:∀{vs:List (List Nat)} {k:Nat},(∀v∈vs,v.length=n)->(∀i r v,vs[i]?=on v->ko v r->v∈W (k+i) r)->Wk W k (e_ n vs) vs
 |[],_,_,_=>trivial
 |v::vs,k,h,hw=>by
  have b:∀u∈vs,u.length=n:=λu a=>h u (Qk _ a);obtain⟨c,d⟩:=uK (v:=v) (r:=e_ n vs) (by rw[h v Qq,eG b]);refine⟨hw 0 _ v rfl d,?_⟩;show Wk W (k+1) (less (dI v (e_ n vs)) v) vs;rw[c];exact wV b λi r u a le=>by
   have:=hw (i+1) r u a le;rwa[show k+(i+1)=k+1+i by omega]at this
theorem uo:∀{l:List Nat} {i x y:Nat},l[i]?=on x->pr (l.set i y)*x=pr l*y
 |a::l,0,x,y,h=>by
  cases h;show y*pr l*a=a*pr l*y;rw[Rj y,Re,Rj y a,<-Re,Rj (pr l) a]
 |a::l,i+1,x,y,h=>by
  have:=uo (l:=l) (i:=i) (x:=x) (y:=y) h;show a*pr (l.set i y)*x=a*pr l*y;rw[Re,this,Re]
theorem cq:∀{l:List Nat} {i x y:Nat},l[i]?=on x->(l.set i y).sum+x=l.sum+y
 |a::l,0,x,y,h=>by
  cases h;show(y::l).sum+a=(a::l).sum+y;rw[QT,QT];omega
 |a::l,i+1,x,y,h=>by
  have:=cq (l:=l) (i:=i) (x:=x) (y:=y) h;show(a::l.set i y).sum+x=(a::l).sum+y;rw[QT,QT];omega
theorem uC{v:List Nat}(h:v[i]?=on (x+1)):mu (v.set i x)*v.sum=mu v*(x+1):=by
 have s:=cq (y:=x) h;obtain⟨m,hm⟩:∃m,v.sum=m+1:=⟨v.sum-1,by omega⟩;have f1:=gK v;have f2:=gK (v.set i x);rw[show(v.set i x).sum=m by omega,TK]at f2;rw[hm,pM]at f1;have p:=uo (l:=v.map di) (i:=i) (y:=di x) (by rw[Qu,h];rfl);rw[pM]at p;rw[hm];have z:=mF v;refine Ub (mF v) ?_;have a:=jY x;refine Ub a ?_;have g:pr ((v.map di).set i (di x))*((x+1)*di x)=pr (v.map di)*di x:=p
 calc mu (v.set i x)*(m+1)*pr (v.map di)*di x=mu (v.set i x)*(m+1)*(pr (v.map di)*di x):=Re _ _ _
  _=mu (v.set i x)*(m+1)*(pr ((v.map di).set i (di x))*((x+1)*di x)):=by rw[g]
  _=(mu (v.set i x)*pr ((v.map di).set i (di x)))*((m+1)*((x+1)*di x)):=by simp only[Re,Rh,Rj]
  _=di m*((m+1)*((x+1)*di x)):=by rw[f2]
  _=((m+1)*di m)*((x+1)*di x):=by simp only[Re,Rh,Rj]
  _=(mu v*pr (v.map di))*((x+1)*di x):=by rw[f1]
  _=mu v*(x+1)*pr (v.map di)*di x:=by simp only[Re,Rh,Rj]
theorem BP{W:Wy}{cs:List Nat}(a:∀k r,k<cs.length->r.length=n->r.sum<=40->W k r=bB r (cs.getD k 0)):∀(j k:Nat) (r:List Nat),k+j=cs.length->r.length=n->r.sum<=40->L3 W j k r=dls r (cs.drop k)
 |0,k,r,e,_,_=>by rw[show k=cs.length by omega,V2];rfl
 |j+1,k,r,e,l,s=>by
  rw[gT (by omega)];show sm (W k r) _=sm (bB r (cs.getD k 0)) _;rw[a k r (by omega) l s];refine bn λv b=>?_;have q:=(f8 b).2.1;rw[BP a j (k+1) (less r v) (by omega) (by rw[(cQ b).less.len,l]) (by omega)]
theorem sY{f:Nat->Nat->Nat}{x y:Nat}:∀{l m:List Nat} {i:Nat},m[i]?=on y->TL f (l.set i x) m=(TL f l m).set i (f x y)
 |[],_,_,_=>rfl
 |a::l,b::m,0,h=>by cases h;rfl
 |a::l,b::m,i+1,h=>RE (f a b::·) (sY (l:=l) (m:=m) (i:=i) h)
theorem mh:∀(u v:List Nat),dI u v=dI v u
 |[],[]=>rfl
 |[],_::_=>rfl
 |_::_,[]=>rfl
 |a::u,b::v=>by show(a+b)::dI u v=(b+a)::dI v u;rw[mh u v,Tq]
theorem vp{u v:List Nat}{i x y:Nat}(a:u[i]?=on x)(b:v[i]?=on y):(dI u v)[i]?=on (x+y):=by
 unfold dI;rw[YF,a,b]
theorem vX:∀{vs:List (List Nat)} {i j x:Nat} {v:List Nat},(∀v∈vs,v.length=n)->vs[j]?=on v->v[i]?=on (x+1)->∃y,(e_ n vs)[i]?=on (y+1)/\e_ n (vs.set j (v.set i x))=(e_ n vs).set i y
 |u::vs,i,0,x,v,h,h1,h2=>by
  cases h1;have a:∀w∈vs,w.length=n:=λw b=>h w (Qk _ b);have c:i<(e_ n vs).length:=by rw[eG a,<-h u Qq];exact(QI.mp h2).1
  have e:=Ql c;refine⟨x+(e_ n vs)[i],(vp h2 e).trans (by congr 1;omega),sY e⟩
 |u::vs,i,j+1,x,v,h,h1,h2=>by
  have a:∀w∈vs,w.length=n:=λw b=>h w (Qk _ b);obtain⟨y,q1,q2⟩:=vX (vs:=vs) (i:=i) (j:=j) (x:=x) (v:=v) a h1 h2;have c:i<u.length:=by
   have:=(QI.mp q1).1;rw[eG a]at this;rw[h u Qq];exact this
  have e:=Ql c;refine⟨u[i]+y,(vp e q1).trans (by congr 1),?_⟩;show dI u (e_ n (vs.set j (v.set i x)))=(dI u (e_ n vs)).set i _;rw[q2,mh,mh u,Tq];exact sY e
theorem qj:∀{vs:List (List Nat)},(∀v∈vs,v.length=n)->(e_ n vs).sum=(vs.map RZ).sum
 |[],_=>by
  have z:∀m,(QE m 0).sum=0:=λm=>by
   induction m with
   |zero=>rfl
   |succ m ih=>rw[R6,QT,ih]
  exact z n
 |v::vs,h=>by
  have c:∀w∈vs,w.length=n:=λw d=>h w (Qk _ d);have s:∀{u w:List Nat},u.length=w.length->(dI u w).sum=u.sum+w.sum:=λ{u}=>by
   induction u with
   |nil=>intro w q;cases w with
    |nil=>rfl
    |cons=>simp at q
   |cons a u ih=>intro w q;cases w with
    |nil=>simp at q
    |cons b w=>
     show((a+b)::dI u w).sum=_;rw[QT,QT,QT,ih (by simpa using q)];omega
  rw[QB,QT,<-qj c];exact s (by rw[h v Qq,eG c])
theorem zr:∀{vs:List (List Nat)},(∀v∈vs,v.length=n)->i<n->(e_ n vs).getD i 0=(vs.map λv=>v.getD i 0).sum
 |[],_,hi=>by
  show(QE n 0).getD i 0=0;rw[Qn,SI,Qt hi];rfl
 |v::vs,h,hi=>by
  have a:∀w∈vs,w.length=n:=λw b=>h w (Qk _ b);have lv:=h v Qq;have c:=eG a;rw[QB,QT,<-zr a hi];show(dI v (e_ n vs)).getD i 0=_;rw[Qn,vp (Ql (by omega)) (Ql (by omega)),bR (by omega),bR (by omega)];rfl
theorem M3(i:0<q)(j:0<q')(h:p*q'=p'*q):p/Rz p q=p'/Rz p' q'/\q/Rz p q=q'/Rz p' q':=by
 have d:0<Rz p q:=Tt _ i;have f:0<Rz p' q':=Tt _ j;have c0:=X0 d;have c1:=X0 f;obtain⟨b,n⟩:=Xb p q;obtain⟨a,o⟩:=Xn p q;obtain⟨c,k⟩:=Xb p' q';obtain⟨l,m⟩:=Xn p' q';generalize Rz p q=g at*;generalize Rz p' q'=g' at*;subst o n m k;rw[UD _ d,UD _ d]at*;rw[UD _ f,UD _ f]at*;have x:a*c=l*b:=by
  refine Yj (UE d f) ?_
  calc g*g'*(a*c)=g*a*(g'*c):=by simp only[Re,Rh,Rj]
   _=g'*l*(g*b):=h
   _=g*g'*(l*b):=by simp only[Re,Rh,Rj]
 have d1:b∣c:=(c0.symm).dvd_of_dvd_mul_left (by rw[x];exact Nat.dvd_mul_left _ _);have d2:c∣b:=(c1.symm).dvd_of_dvd_mul_left (by rw[<-x];exact Nat.dvd_mul_left _ _);have e:=Nat.dvd_antisymm d1 d2;subst e;have r:0<b:=Z6 λz=>by rw[z]at i;simp at i
 exact⟨Ub r x,rfl⟩
def j2(W:Wy):Nat->Nat->List Nat->List (List (List Nat))
 |0,_,_=>[[]]
 |j+1,k,r=>(W k r).flatMap λv=>(j2 W j (k+1) (less r v)).map (v::·)
def wt(vs:List (List Nat)):Nat:=pr (vs.map mu)
theorem qp:∀(j k:Nat) (r:List Nat),(j2 W j k r).length=ra W j k r
 |0,_,_=>rfl
 |j+1,k,r=>by
  show((W k r).flatMap _).length=_;rw[List.length_flatMap];show _=((W k r).map _).sum;congr 1;exact Ra λv _=>by rw[Qi,qp]
theorem v4:∀(j k:Nat) (r:List Nat),sm (j2 W j k r) wt=L3 W j k r
 |0,_,_=>rfl
 |j+1,k,r=>by
  show sm ((W k r).flatMap _) wt=_;rw[qe];refine bn λv _=>?_;rw[tR,<-v4 j (k+1) (less r v),<-fE];rfl
theorem zF:∀{j k:Nat} {r:List Nat} {vs:List (List Nat)},vs∈j2 W j k r->Wk W k r vs/\vs.length=j
 |0,_,_,vs,h=>by cases Q5.mp h;exact⟨trivial,rfl⟩
 |j+1,k,r,vs,h=>by
  obtain⟨v,a,b⟩:=SJ.mp (show vs∈(W k r).flatMap _ from h);obtain⟨us,c,rfl⟩:=QC.mp b;obtain⟨d,e⟩:=zF c;exact⟨⟨a,d⟩,by rw[QP,e]⟩
theorem qf{α:Type}{f:α->Nat}{p:α->Bool}:∀{l:List α},(∀v,p v=Qr->f v=0)->sm (l.filter p) f=sm l f
 |[],_=>rfl
 |v::l,h=>by
  rw[UP];cases q:p v with
  |true=>rw[Qt rfl,aW,aW,qf h]
  |false=>rw[Qp Qx,aW,qf h,h v q,RX]
theorem p9:∀(r:List Nat) (c:Nat),(bB r c).Nodup
 |[],0=>R8 _ _
 |[],_+1=>WA
 |x::r,c=>by
  show((Qy (V0 x c+1)).flatMap λa=>(bB r (c-a)).map (a::·)).Nodup;refine YG.mpr ⟨λa _=>pb (λ_ _ e=>(Wr e).2) (p9 r (c-a)),V4.imp λ{a b} n u d w f e=>?_⟩;obtain⟨_,_,rfl⟩:=QC.mp d;obtain⟨_,_,rfl⟩:=QC.mp f;exact n (Wr e).1
theorem Kz{α:Type}{l m:List α}{f:α->Nat}(p:l.Perm m):sm l f=sm m f:=by unfold sm;exact(p.map f).sum_nat
theorem zd{α d:Type} [DecidableEq d]{f:α->d}{G:d->Nat}:∀{l:List α} {m:List d},l.Nodup->m.Nodup->(∀a∈l,f a∈m)->(∀a∈l,∀b∈l,f a=f b->a=b)->(∀c∈m,∃a∈l,f a=c)->(sm l λa=>G (f a))=sm m G
 |[],m,_,_,_,_,h=>by
  cases m with
  |nil=>rfl
  |cons c m=>obtain⟨a,ha,_⟩:=h c Qq;cases ha
 |a::l,m,nl,nm,h1,h2,h3=>by
  have ha:=h1 a Qq;obtain⟨i,g⟩:=Rf.mp nl;rw[aW,Kz (List.perm_cons_erase ha),aW];congr 1;refine zd g (nm.erase _) (λb hb=>nm.mem_erase_iff.mpr ⟨λe=>i ((h2 a Qq b (Qk _ hb) e.symm)▸hb),h1 b (Qk _ hb)⟩) (λb hb c hc=>h2 b (Qk _ hb) c (Qk _ hc)) λc hc=>?_;obtain⟨ne,hm⟩:=nm.mem_erase_iff.mp hc;obtain⟨b,hb,rfl⟩:=h3 c hm;rcases QD.mp hb with rfl|hb
  .exact QX rfl ne
  .exact⟨b,hb,rfl⟩
variable{α:Type}{f:α->α->α}{d a b:α}{i j n:Nat}{l u:List α}
end
section
variable{i j n:Nat}{v r u:List Nat}
def W0(cs:List Nat):Wy:=λk r=>bB r (cs.getD k 0)
theorem wo:∀{vs:List (List Nat)} {k:Nat} {r:List Nat},Wk W k r vs->vs∈j2 W vs.length k r
 |[],_,_,_=>Q5.mpr rfl
 |v::vs,k,r,h=>SJ.mpr ⟨v,h.1,QC.mpr ⟨vs,wo h.2,rfl⟩⟩
theorem um(hn:∀k r,(W k r).Nodup):∀(j k:Nat) (r:List Nat),(j2 W j k r).Nodup
 |0,_,_=>R8 _ _
 |j+1,k,r=>by
  show((W k r).flatMap λv=>(j2 W j (k+1) (less r v)).map (v::·)).Nodup;refine YG.mpr ⟨λv _=>pb (λ_ _ e=>(Wr e).2) (um hn j (k+1) (less r v)),(hn k r).imp λ{a b} n u c w d e=>?_⟩;obtain⟨_,_,rfl⟩:=QC.mp c;obtain⟨_,_,rfl⟩:=QC.mp d;exact n (Wr e).1
variable{rs cs:List Nat}{vs us:List (List Nat)}
theorem jx(a:k<vs.length):vs.getD k []∈vs:=by rw[bR a];exact Rp a
structure Gv (n:Nat) (rs cs:List Nat) (vs:List (List Nat)):Prop where
 ln:∀v∈vs,v.length=n
 cl:vs.map RZ=cs
 rw:e_ n vs=rs
theorem Gv.len(h:Gv n rs cs vs):vs.length=cs.length:=by rw[<-h.cl,Qi]
theorem Gv.at(h:Gv n rs cs vs)(a:k<vs.length):(vs.getD k []).sum=cs.getD k 0:=by
 rw[<-h.cl,bR a,bR (by rw[Qi];exact a),SQ]
theorem fU(a:rs.length=n)(hs:rs.sum=cs.sum):vs∈j2 (W0 cs) cs.length 0 rs↔Gv n rs cs vs:=by
 constructor
 .intro h
  obtain⟨q1,q2⟩:=zF h;obtain⟨b,c,d⟩:=vF (cs:=cs) (W:=W0 cs) (λ_ _=>X6 _) q1 (by rw[q2,RX]) hs;subst a;exact⟨d,b,c.symm⟩
 .intro h
  have:=wo (wV (W:=W0 cs) (k:=0) h.ln λi r v e le=>by
   have:cs.getD (0+i) 0=v.sum:=by rw[RX,<-h.cl,Qn,Qu,e];rfl
   show v∈bB r (cs.getD (0+i) 0);rw[this];exact iS le)
  rw[h.len,h.rw]at this;exact this
abbrev R4:=Nat×Nat×Nat×Nat
def rA(p q:R4):R4:=(p.1+q.1,p.2.1+q.2.1,p.2.2.1+q.2.2.1,p.2.2.2+q.2.2.2)
def rM(p q:R4):R4:=(p.1*q.1,p.2.1*q.1+p.1*q.2.1,p.2.2.1*q.1+p.1*q.2.2.1,p.2.2.2*q.1+p.2.1*q.2.2.1+p.2.2.1*q.2.1+p.1*q.2.2.2)
noncomputable def r0:R4:=(0,0,0,0)
noncomputable def r1:R4:=(1,0,0,0)
theorem xw(p:R4):rA p r0=p:=rfl
theorem xx(p:R4):rA r0 p=p:=by simp only[rA,r0,RX]
theorem mD(p q t:R4):rA (rA p q) t=rA p (rA q t):=by simp only[rA,U2]
theorem rM_1(p:R4):rM p r1=p:=by simp only[rM,r1,Zl,Vk,Wl]
theorem DN(p:R4):rM p r0=r0:=by simp only[rM,r0,Vk,Wl]
theorem Pb(p q t:R4):rM (rM p q) t=rM p (rM q t):=by
 simp only[rM,Uc,Ua,Re];refine RW rfl (RW ?_ (RW ?_ ?_))<;>simp only[U2,UJ,Tq]
theorem Pc(p q t:R4):rM (rA p q) t=rA (rM p t) (rM q t):=by
 simp only[rM,rA,Ua];refine RW rfl (RW ?_ (RW ?_ ?_))<;>simp only[U2,UJ,Tq]
theorem JE(p q t:R4):rM t (rA p q)=rA (rM t p) (rM t q):=by
 simp only[rM,rA,Uc];refine RW rfl (RW ?_ (RW ?_ ?_))<;>simp only[U2,UJ,Tq]
def rS{α:Type}(f:α->R4):List α->R4
 |[]=>r0
 |a::l=>rA (f a) (rS f l)
variable{α γ:Type}{f g:α->R4}
theorem zD:∀{l m:List α},rS f (l++m)=rA (rS f l) (rS f m)
 |[],m=>(xx _).symm
 |a::l,m=>by show rA (f a) (rS f (l++m))=rA (rA (f a) (rS f l)) (rS f m);rw[zD,mD]
theorem nU:∀{l:List α},(∀a∈l,f a=g a)->rS f l=rS g l
 |[],_=>rfl
 |a::l,h=>by show rA (f a) (rS f l)=rA (g a) (rS g l);rw[h a Qq,nU λb c=>h b (Qk _ c)]
theorem zB(c:R4):∀{l:List α},(rS (λa=>rM c (f a)) l)=rM c (rS f l)
 |[]=>(DN c).symm
 |a::l=>by show rA (rM c (f a)) (rS _ l)=rM c (rA (f a) (rS f l));rw[zB c,JE]
theorem vZ:∀{l:List γ},rS f (l.flatMap h)=rS (λb=>rS f (h b)) l
 |[]=>rfl
 |b::l=>by rw[Sb,zD,vZ];rfl
theorem zC:∀{l:List γ},rS f (l.map h)=rS (λb=>f (h b)) l
 |[]=>rfl
 |b::l=>by show rA _ (rS f (l.map h))=rA _ _;rw[zC]
theorem uj:∀{l:List α},(∀a,p a=Qr->f a=r0)->rS f (l.filter p)=rS f l
 |[],_=>rfl
 |a::l,h=>by
  rw[UP];cases q:p a with
  |true=>rw[Qt rfl];show rA _ (rS f (l.filter p))=rA _ _;rw[uj h]
  |false=>
   rw[Qp Qx,uj h];show _=rA (f a) (rS f l);rw[h a q,xx]
theorem xp:∀{l:List α},rS f l=(sm l λa=>(f a).1,sm l λa=>(f a).2.1,sm l λa=>(f a).2.2.1,sm l λa=>(f a).2.2.2)
 |[]=>rfl
 |a::l=>by
  show rA (f a) (rS f l)=_;rw[xp,aW,aW,aW,aW];rfl
def rLe(p q:R4):Prop:=p.1<=q.1/\p.2.1<=q.2.1/\p.2.2.1<=q.2.2.1/\p.2.2.2<=q.2.2.2
theorem JF:∀{l:List α},a∈l->rLe (f a) (rS f l)
 |b::l,h=>by
  show rLe (f a) (rA (f b) (rS f l));rcases QD.mp h with rfl|h
  .exact⟨Sg _ _,Sg _ _,Sg _ _,Sg _ _⟩
  .obtain⟨c,d,e,k⟩:=JF h
   exact⟨Qw c (U7 _ _),Qw d (U7 _ _),Qw e (U7 _ _),Qw k (U7 _ _)⟩
theorem Pd{p t q:R4}(h:rLe (rM p t) q)(a:0<t.1):rLe p q:=by
 have e:∀x:Nat,x<=x*t.1:=λx=>TD x a;obtain⟨a1,a2,a3,a4⟩:=h;refine⟨Qw (e _) a1,Qw (e _) (Qw (Sg _ _) a2),Qw (e _) (Qw (Sg _ _) a3),Qw (e _) (Qw ?_ a4)⟩;show _<=_+_+_+_;omega
abbrev hc(i j k:Nat)(v:List Nat):Nat:=if j=k then v.getD i 0 else 0
def cf(c d:Nat×Nat)(k:Nat)(v:List Nat):R4:=(mu v,mu v*hc c.1 c.2 k v,mu v*hc d.1 d.2 k v,mu v*(hc c.1 c.2 k v*hc d.1 d.2 k v))
def TW(W:Wy)(c d:Nat×Nat):Nat->Nat->List Nat->R4
 |0,_,_=>r1
 |m+1,k,r=>rS (λv=>rM (cf c d k v) (TW W c d m (k+1) (less r v))) (KX W m k r)
def cn(i j:Nat):Nat->List (List Nat)->Nat
 |_,[]=>0
 |k,v::vs=>hc i j k v+cn i j (k+1) vs
theorem Ka{i j:Nat}:∀{vs:List (List Nat)} {k:Nat},cn i j k vs=if k<=j then(vs.getD (j-k) []).getD i 0 else 0
 |[],k=>by
  show 0=_;split<;>simp
 |v::vs,k=>by
  show(if j=k then v.getD i 0 else 0)+cn i j (k+1) vs=_;rw[Ka];by_cases q:j=k
  .subst q
   rw[Qt rfl,Qp (by omega),Qt (Qz _),Vl];rfl
  .rw[Qp q,RX]
   by_cases z:k<=j
   .rw[Qt (by omega),Qt z,show j-k=j-(k+1)+1 by omega];rfl
   .rw[Qp (by omega),Qp z]
def tb4(c d:Nat×Nat)(k:Nat)(vs:List (List Nat)):R4:=(wt vs,wt vs*cn c.1 c.2 k vs,wt vs*cn d.1 d.2 k vs,wt vs*(cn c.1 c.2 k vs*cn d.1 d.2 k vs))
theorem OU{v:List Nat}{vs:List (List Nat)}:tb4 c d k (v::vs)=rM (cf c d k v) (tb4 c d (k+1) vs):=by
 have h:wt (v::vs)=mu v*wt vs:=rfl;have e:∀i j,cn i j k (v::vs)=hc i j k v+cn i j (k+1) vs:=λ_ _=>rfl;unfold tb4 cf rM;rw[h,e,e];generalize cn c.1 c.2 (k+1) vs=x;generalize cn d.1 d.2 (k+1) vs=y;generalize hc c.1 c.2 k v=a;generalize hc d.1 d.2 k v=b;refine RW rfl (RW ?_ (RW ?_ ?_))<;>simp only[Uc,Ua,Re,Rh,Rj,U2,UJ,Tq]
theorem pW:∀{m k:Nat} {r:List Nat},TW W c d m k r=rS (tb4 c d k) (j2 W m k r)
 |0,_,_=>rfl
 |m+1,k,r=>by
  show rS _ (KX W m k r)=rS _ ((W k r).flatMap _);rw[vZ];unfold KX;rw[uj]
  .refine nU λv _=>?_
   rw[zC,pW,<-zB];exact nU λvs _=>OU.symm
  .intro v a
   have:=WF a;have e:ra W m (k+1) (less r v)=0:=by omega
   rw[<-qp]at e;rw[pW,UA.mp e];exact DN _
abbrev NL:=List (List Nat×R4)
def o1:NL->List Nat->R4->NL
 |[],u,q=>[(u,q)]
 |p::L,u,q=>if p.1=u then(p.1,rA p.2 q)::L else p::o1 L u q
def pa(W:Wy)(c d:Nat×Nat)(m k:Nat)(L:NL):R4:=rS (λp=>rM p.2 (TW W c d m k p.1)) L
variable{W:Wy}{c d:Nat×Nat}{m k:Nat}
theorem JH(p q:R4):rA p q=rA q p:=by simp only[rA,Tq]
theorem JI{u:List Nat}:∀{L:NL},pa W c d m k (o1 L u q)=rA (pa W c d m k L) (rM q (TW W c d m k u))
 |[]=>JH _ _
 |p::L=>by
  have e:∀p L,pa W c d m k (p::L)=rA (rM p.2 (TW W c d m k p.1)) (pa W c d m k L):=λ_ _=>rfl;unfold o1;by_cases z:p.1=u
  .rw[Qt z,e,e,<-z]
   show rA (rM (rA p.2 q) _) _=_;rw[Pc,mD,mD,JH (rM q _)]
  .rw[Qp z,e,e,JI,mD]
theorem m5{u:List Nat}:∀{L:NL},(o1 L u q).map (·.1)=if u∈L.map (·.1)then L.map (·.1)else L.map (·.1)++[u]
 |[]=>rfl
 |p::L=>by
  unfold o1;by_cases z:p.1=u
  .rw[Qt z,Qt (by rw[QB,z];exact Qq)];rfl
  .rw[Qp z,QB,QB,m5]
   by_cases y:u∈L.map (·.1)
   .rw[Qt y,Qt (Qk _ y)]
   .rw[Qp y,Qp (λw=>(QD.mp w).elim (λw=>z w.symm) y)];rfl
theorem Qe{u:List Nat}{L:NL}(h:(L.map (·.1)).Nodup):((o1 L u q).map (·.1)).Nodup:=by
 rw[m5];split
 .exact h
 .rename_i z
  exact UG.mpr ⟨h,R8 _ _,λx a y b e=>z (by rw[<-Q5.mp b,<-e];exact a)⟩
theorem B4{u:List Nat}{L:NL}(h:x∈(o1 L u q).map (·.1)):x=u\/x∈L.map (·.1):=by
 rw[m5]at h;split at h
 .exact .inr h
 .rcases RK.mp h with h|h
  .exact .inr h
  .exact .inl (Q5.mp h)
abbrev at_(c:Nat×Nat)(vs:List (List Nat)):Nat:=(vs.getD c.2 []).getD c.1 0
def u1(c:Nat×Nat)(vs:List (List Nat)):List (List Nat):=vs.set c.2 ((vs.getD c.2 []).set c.1 (at_ c vs-1))
def lk(c:Nat×Nat)(vs:List (List Nat)):List (List Nat):=vs.set c.2 ((vs.getD c.2 []).set c.1 (at_ c vs+1))
theorem eA{α:Type}{l:List α}{i k:Nat}{x d:α}(h:i<l.length):(l.set i x).getD k d=if i=k then x else l.getD k d:=by
 rw[Qn,Ru];by_cases q:i=k
 .rw[Qt q,Qt (q▸h),Qt q];rfl
 .rw[Qp q,Qp q,Qn]
theorem gc{α:Type}{l:List α}{i:Nat}{d:α}(h:i<l.length):l.set i (l.getD i d)=l:=by
 rw[bR h];exact List.set_getElem_self h
theorem qB(a:c.2<vs.length)(b:c.1<(vs.getD c.2 []).length)(h:0<at_ c vs):lk c (u1 c vs)=vs:=by
 unfold lk u1 at_;rw[eA a,Qt rfl,eA b,Qt rfl,Ve,Ve,show(vs.getD c.2 []).getD c.1 0-1+1=(vs.getD c.2 []).getD c.1 0 by have:0<(vs.getD c.2 []).getD c.1 0:=h;omega,gc b,gc a]
theorem wM(a:c.2<vs.length)(b:c.1<(vs.getD c.2 []).length):u1 c (lk c vs)=vs/\at_ c (lk c vs)=at_ c vs+1:=by
 have e:at_ c (lk c vs)=at_ c vs+1:=by
  unfold lk at_;rw[eA a,Qt rfl,eA b,Qt rfl]
 refine⟨?_,e⟩;unfold u1;rw[e];unfold lk;rw[eA a,Qt rfl,Ve,Ve,WX,gc b,gc a]
theorem LH(q:c.2<vs.length)(a:c.1<(vs.getD c.2 []).length)(h:0<at_ c vs):wt vs*at_ c vs=(vs.getD c.2 []).sum*wt (u1 c vs):=by
 generalize b:vs.getD c.2 []=v at a;have t:vs[c.2]?=on v:=by rw[<-b,bR q];exact Ql q
 have e:at_ c vs=v.getD c.1 0:=by show(vs.getD c.2 []).getD c.1 0=_;rw[b]
 obtain⟨x,o⟩:∃x,v.getD c.1 0=x+1:=⟨v.getD c.1 0-1,by rw[e]at h;omega⟩;have ex:v[c.1]?=on (x+1):=by rw[<-o,bR a];exact Ql a
 have p:=uo (l:=vs.map mu) (i:=c.2) (x:=mu v) (y:=mu (v.set c.1 x)) (by rw[Qu,t];rfl);have d:=uC ex;have A:u1 c vs=vs.set c.2 (v.set c.1 x):=by
  unfold u1;rw[e,b,o,WX]
 rw[e,o,A];show pr (vs.map mu)*(x+1)=v.sum*pr ((vs.set c.2 (v.set c.1 x)).map mu);rw[TK];refine Yj (uB v) ?_
 calc mu v*(pr (vs.map mu)*(x+1))=pr (vs.map mu)*(mu v*(x+1)):=Rh _ _ _
  _=pr (vs.map mu)*(mu (v.set c.1 x)*v.sum):=by rw[d]
  _=pr (vs.map mu)*mu (v.set c.1 x)*v.sum:=(Re _ _ _).symm
  _=pr ((vs.map mu).set c.2 (mu (v.set c.1 x)))*mu v*v.sum:=by rw[p]
  _=_:=by simp only[Re,Rh,Rj]
theorem uV(g:Gv n rs cs vs)(F:c.1<n)(q:c.2<cs.length)(h:0<at_ c vs):∃y d,rs.getD c.1 0=y+1/\cs.getD c.2 0=d+1/\Gv n (rs.set c.1 y) (cs.set c.2 d) (u1 c vs):=by
 have a:c.2<vs.length:=by rw[g.len];exact q
 have lv:=g.ln _ (jx a);have t:=g.at a;generalize b:vs.getD c.2 []=v at lv t;have A:vs[c.2]?=on v:=by rw[<-b,bR a];exact Ql a
 have l:at_ c vs=v.getD c.1 0:=by show(vs.getD c.2 []).getD c.1 0=_;rw[b]
 obtain⟨x,o⟩:∃x,v.getD c.1 0=x+1:=⟨v.getD c.1 0-1,by rw[l]at h;omega⟩;have ex:v[c.1]?=on (x+1):=by rw[<-o,bR (by omega)];exact Ql (by omega)
 obtain⟨y,B,C⟩:=vX g.ln A ex;have s:=cq (y:=x) ex;have e:u1 c vs=vs.set c.2 (v.set c.1 x):=by
  unfold u1;rw[l,b,o,WX]
 refine⟨y,v.sum-1,?_,by omega,?_,?_,?_⟩
 .rw[<-g.rw,Qn,B];rfl
 .intro w p
  rw[e]at p;rcases j0 p with z|z
  .rw[z,Q3];exact lv
  .exact g.ln w z
 .rw[e,TK,g.cl]
  congr 1;omega
 .rw[e,C,g.rw]
theorem Ng{y d:Nat}(g:Gv n (rs.set c.1 y) (cs.set c.2 d) vs)(Z:rs.length=n)(t:c.1<n)(A:c.2<cs.length)(H:rs.getD c.1 0=y+1)(I:cs.getD c.2 0=d+1):Gv n rs cs (lk c vs):=by
 have p:c.2<vs.length:=by rw[g.len,Q3];exact A
 have lv:=g.ln _ (jx p);obtain⟨J,ai⟩:=wM p (by omega:c.1<(vs.getD c.2 []).length);have h:∀w∈lk c vs,w.length=n:=λw L=>by
  rcases j0 (show w∈vs.set _ _ from L)with z|z
  .rw[z,Q3];exact lv
  .exact g.ln w z
 have N:Gv n (e_ n (lk c vs)) ((lk c vs).map RZ) (lk c vs):=⟨h,rfl,rfl⟩;have B:(lk c vs).length=vs.length:=by unfold lk;rw[Q3]
 obtain⟨O,d',Q,R,q⟩:=uV (c:=c) N t (by rw[Qi,B];exact p) (by omega);rw[J]at q;have T:(e_ n (lk c vs)).set c.1 O=rs.set c.1 y:=q.rw.symm.trans g.rw;have U:((lk c vs).map RZ).set c.2 d'=cs.set c.2 d:=q.cl.symm.trans g.cl;have o:∀{l m:List Nat} {k a b:Nat},l.set k a=m.set k b->k<l.length->k<m.length->l.getD k 0=a+1->m.getD k 0=b+1->l=m:=λ{l m k a b} e C hm F X=>by
  have Y:a=b:=by
   have:(l.set k a).getD k 0=(m.set k b).getD k 0:=by rw[e]
   rwa[eA C,eA hm,Qt rfl,Qt rfl]at this
  have:(l.set k a).set k (a+1)=(m.set k b).set k (a+1):=by rw[e]
  rw[Ve,Ve]at this;rw[<-F,gc C,F,Y,<-X,gc hm]at this;exact this
 exact⟨h,o U (by rw[Qi,B];exact p) A R I,o T (by rw[eG h];exact t) (by omega) Q H⟩
theorem wJ{g:List (List Nat)->Nat}{y d:Nat}(o:rs.length=n)(hs:rs.sum=cs.sum)(t:c.1<n)(b:c.2<cs.length)(J:rs.getD c.1 0=y+1)(L:cs.getD c.2 0=d+1):
  (sm (j2 (W0 cs) cs.length 0 rs) λvs=>wt vs*(at_ c vs*g vs))=cs.getD c.2 0*sm (j2 (W0 (cs.set c.2 d)) cs.length 0 (rs.set c.1 y)) λvs=>wt vs*g (lk c vs):=by
 have X:=cq (l:=rs) (i:=c.1) (x:=y+1) (y:=y) (by rw[<-J,bR (by omega)];exact Ql (by omega));have Y:=cq (l:=cs) (i:=c.2) (x:=d+1) (y:=d) (by rw[<-L,bR b];exact Ql b);have F:(rs.set c.1 y).length=n:=by rw[Q3];exact o
 have A:∀{vs:List (List Nat)},vs∈j2 (W0 (cs.set c.2 d)) cs.length 0 (rs.set c.1 y)↔Gv n (rs.set c.1 y) (cs.set c.2 d) vs:=λ{vs}=>by
  have:=fU (vs:=vs) F (show(rs.set c.1 y).sum=(cs.set c.2 d).sum by omega);rw[Q3]at this;exact this
 rw[<-qf (p:=λvs=>decide (0<at_ c vs)) (λvs q=>by
  have:at_ c vs=0:=by have:=WF q;omega
  rw[this,TU,Vk]),<-fE]
 have e:(sm ((j2 (W0 cs) cs.length 0 rs).filter λvs=>decide (0<at_ c vs)) λvs=>wt vs*(at_ c vs*g vs))=sm ((j2 (W0 cs) cs.length 0 rs).filter λvs=>decide (0<at_ c vs)) λvs=>(λa=>cs.getD c.2 0*(wt a*g (lk c a))) (u1 c vs):=bn λvs B=>by
  obtain⟨m1,m2⟩:=Sm.mp B;have m2:=RI m2;have H:=(fU o hs).mp m1;have C:c.2<vs.length:=by rw[H.len];exact b
  have lv:=H.ln _ (jx C);show _=cs.getD c.2 0*(wt (u1 c vs)*g (lk c (u1 c vs)));rw[qB C (by omega) m2,<-Re,<-Re,LH C (by omega) m2,H.at C]
 rw[e];refine zd (f:=u1 c) (G:=λa=>cs.getD c.2 0*(wt a*g (lk c a))) ((um (W:=W0 cs) (λ_ _=>p9 _ _) _ _ _).filter _) (um (W:=W0 (cs.set c.2 d)) (λ_ _=>p9 _ _) _ _ _) (λvs B=>?_) (λvs B a I e=>?_) λa I=>?_
 .obtain⟨m1,m2⟩:=Sm.mp B
  obtain⟨Q,d',Z,e2,h⟩:=uV ((fU o hs).mp m1) t b (RI m2);obtain rfl:Q=y:=by omega
  obtain rfl:d'=d:=by omega
  exact A.mpr h
 .obtain⟨m1,m2⟩:=Sm.mp B
  obtain⟨R,T⟩:=Sm.mp I;have h:=(fU o hs).mp m1;have N:=(fU o hs).mp R;have l1:c.2<vs.length:=by rw[h.len];exact b
  have O:c.2<a.length:=by rw[N.len];exact b
  rw[<-qB l1 (by rw[h.ln _ (jx l1)];exact t) (RI m2),<-qB O (by rw[N.ln _ (jx O)];exact t) (RI T),e]
 .have h:=A.mp I
  have l1:c.2<a.length:=by rw[h.len,Q3];exact b
  obtain⟨U,ai⟩:=wM l1 (by rw[h.ln _ (jx l1)];exact t);exact⟨lk c a,Sm.mpr ⟨(fU o hs).mpr (Ng h o t b J L),QL (by omega)⟩,U⟩
theorem tq(hs:rs.sum=cs.sum)(a:rs.sum<=40):sm (j2 (W0 cs) cs.length 0 rs) wt=mu rs:=by
 rw[v4,BP (W:=W0 cs) (n:=rs.length) (λ_ _ _ _ _=>rfl) cs.length 0 rs (RX _) rfl a,List.drop_zero,u7 _ _ hs]
theorem Ov(a:rs.length=n)(hs:rs.sum=cs.sum)(b:c.1<n)(e:c.2<cs.length)(h:rs.getD c.1 0=0\/cs.getD c.2 0=0):∀vs∈j2 (W0 cs) cs.length 0 rs,at_ c vs=0:=λvs l=>by
 rcases WY (at_ c vs)with q|q
 .exact q
 .obtain⟨y,d,o,p,_⟩:=uV ((fU a hs).mp l) b e q
  omega
theorem Mc{α:Type}{l:List α}{f:α->Nat}(h:∀a∈l,f a=0):sm l f=0:=(bn h).trans my
theorem IA(h:rs.length=n)(hs:rs.sum=cs.sum)(A:rs.sum<=40)(o:c.1<n)(a:c.2<cs.length):(sm (j2 (W0 cs) cs.length 0 rs) λvs=>wt vs*at_ c vs)*rs.sum=mu rs*(rs.getD c.1 0*cs.getD c.2 0):=by
 by_cases q:rs.getD c.1 0=0\/cs.getD c.2 0=0
 .rw[Mc λvs B=>by rw[Ov h hs o a q vs B,Vk],TU]
  rcases q with q|q<;>rw[q]<;>simp
 .obtain⟨y,b⟩:∃y,rs.getD c.1 0=y+1:=⟨rs.getD c.1 0-1,by omega⟩
  obtain⟨d,p⟩:∃d,cs.getD c.2 0=d+1:=⟨cs.getD c.2 0-1,by omega⟩;have t:rs[c.1]?=on (y+1):=by rw[<-b,bR (by omega)];exact Ql (by omega)
  have C:=cq (y:=y) t;have F:=cq (l:=cs) (i:=c.2) (x:=d+1) (y:=d) (by rw[<-p,bR a];exact Ql a);have e:=wJ (g:=λ_=>1) h hs o a b p;have w:=tq (rs:=rs.set c.1 y) (cs:=cs.set c.2 d) (by omega) (by omega);rw[Q3]at w;simp only[Zl]at e;rw[e,w,b,Re,uC t,Rh,Rj (cs.getD c.2 0)]
theorem OA{e:Nat×Nat}(F:rs.length=n)(hs:rs.sum=cs.sum)(Y:rs.sum<=40)(N:c.1<n)(b:c.2<cs.length)(H:e.1<n)(I:e.2<cs.length):(sm (j2 (W0 cs) cs.length 0 rs) λvs=>wt vs*(at_ c vs*at_ e vs))*(rs.sum*(rs.sum-1))=
  mu rs*(rs.getD c.1 0*(rs.getD e.1 0-if c.1=e.1 then 1 else 0)*(cs.getD c.2 0*(cs.getD e.2 0-if c.2=e.2 then 1 else 0))+if c=e then rs.getD c.1 0*cs.getD c.2 0*(rs.sum-1)else 0):=by
 by_cases q:rs.getD c.1 0=0\/cs.getD c.2 0=0
 .rw[Mc λvs J=>by rw[Ov F hs N b q vs J,TU,Vk],TU]
  rcases q with q|q<;>rw[q]<;>simp
 .obtain⟨y,p⟩:∃y,rs.getD c.1 0=y+1:=⟨rs.getD c.1 0-1,by omega⟩
  obtain⟨d,L⟩:∃d,cs.getD c.2 0=d+1:=⟨cs.getD c.2 0-1,by omega⟩;have O:rs[c.1]?=on (y+1):=by rw[<-p,bR (by omega)];exact Ql (by omega)
  have s1:=cq (y:=y) O;have s2:=cq (l:=cs) (i:=c.2) (x:=d+1) (y:=d) (by rw[<-L,bR b];exact Ql b);have h:(rs.set c.1 y).length=n:=by rw[Q3];exact F
  have a:(rs.set c.1 y).sum=(cs.set c.2 d).sum:=by omega
  have w:=tq (rs:=rs.set c.1 y) (cs:=cs.set c.2 d) a (by omega);have x:=IA (c:=e) (rs:=rs.set c.1 y) (cs:=cs.set c.2 d) h a (by omega) H (by rw[Q3];exact I);rw[Q3]at w x;have Z:(rs.set c.1 y).sum=rs.sum-1:=by omega
  rw[Z,eA (by omega),eA b]at x;have e1:(if c.1=e.1 then y else rs.getD e.1 0)=rs.getD e.1 0-if c.1=e.1 then 1 else 0:=by
   by_cases z:c.1=e.1
   .rw[Qt z,Qt z,<-z,p];rfl
   .rw[Qp z,Qp z];rfl
  have e2:(if c.2=e.2 then d else cs.getD e.2 0)=cs.getD e.2 0-if c.2=e.2 then 1 else 0:=by
   by_cases z:c.2=e.2
   .rw[Qt z,Qt z,<-z,L];rfl
   .rw[Qp z,Qp z];rfl
  rw[e1,e2]at x;rw[wJ (g:=at_ e) F hs N b p L];have ei:(sm (j2 (W0 (cs.set c.2 d)) cs.length 0 (rs.set c.1 y)) λvs=>wt vs*at_ e (lk c vs))=(sm (j2 (W0 (cs.set c.2 d)) cs.length 0 (rs.set c.1 y)) λvs=>wt vs*at_ e vs)+(if c=e then 1 else 0)*mu (rs.set c.1 y):=by
   rw[<-w,<-fE,<-oM];refine bn λvs J=>?_;have Q:=(fU (cs:=cs.set c.2 d) h a).mp (by rw[Q3];exact J);have T:c.2<vs.length:=by rw[Q.len,Q3];exact b
   have lv:=Q.ln _ (jx T);have ea:at_ e (lk c vs)=at_ e vs+if c=e then 1 else 0:=by
    unfold lk at_;rw[eA T];by_cases z:c.2=e.2
    .rw[Qt z,eA (by omega),z]
     by_cases o:c.1=e.1
     .rw[Qt o,Qt (RW o z),o]
     .rw[Qp o,Qp λw=>o (by rw[w])];rfl
    .rw[Qp z,Qp λw=>z (by rw[w])];rfl
   rw[ea,Uc,Rj (wt vs) (if c=e then 1 else 0)]
  rw[ei];have t:=uC O;generalize (sm (j2 (W0 (cs.set c.2 d)) cs.length 0 (rs.set c.1 y)) λvs=>wt vs*at_ e vs)=X at x⊢;generalize hA:(rs.getD e.1 0-if c.1=e.1 then 1 else 0)=A at x⊢;generalize hB:(cs.getD e.2 0-if c.2=e.2 then 1 else 0)=B at x⊢;rw[<-p]at t;generalize rs.getD c.1 0=R at t⊢;generalize cs.getD c.2 0=C at*;generalize mu (rs.set c.1 y)=M at*;generalize mu rs=U at*;generalize rs.sum-1=S1 at*;generalize rs.sum=S at*;have l1:C*(X+(if c=e then 1 else 0)*M)*(S*S1)=C*((X*S1)*S+(if c=e then 1 else 0)*(M*S)*S1):=by
   simp only[Uc,Ua,Re,Rh,Rj]
  rw[l1,x,t];have l2:M*(A*B)*S=U*R*(A*B):=by rw[Vv,t]
  rw[l2];by_cases z:c=e
  .rw[Qt z,Qt z]
   simp only[Uc,XE,Zl,Re,Rh,Rj]
  .rw[Qp z,Qp z]
   simp only[Uc,TU,Vk,Wl,Re,Rh,Rj]
theorem Qf{j:Nat}(h:rs.length=n)(hs:rs.sum=cs.sum)(l:j<cs.length):(sm (Qy n) λi=>sm (j2 (W0 cs) cs.length 0 rs) λvs=>wt vs*(at_ c vs*at_ (i,j) vs))=cs.getD j 0*sm (j2 (W0 cs) cs.length 0 rs) λvs=>wt vs*at_ c vs:=by
 rw[vQ,<-fE];refine bn λvs o=>?_;have a:=(fU h hs).mp o;have b:j<vs.length:=by rw[a.len];exact l
 have lv:=a.ln _ (jx b);have e:(sm (Qy n) λi=>at_ (i,j) vs)=cs.getD j 0:=by
  rw[<-a.at b];show((Qy n).map λi=>(vs.getD j []).getD i 0).sum=_;rw[<-lv];congr 1;exact SH (by simp) λk q p=>by rw[SQ,S9,bR p]
 rw[<-e,Rj,<-fE];exact bn λi _=>by rw[Re]
def H_:NL->List Nat->R4
 |[],_=>r0
 |p::L,u=>if p.1=u then p.2 else H_ L u
theorem CK{u:List Nat}:∀{L:NL},u∉L.map (·.1)->o1 L u q=L++[(u,q)]/\H_ L u=r0
 |[],_=>⟨rfl,rfl⟩
 |p::L,h=>by
  rw[QB]at h;have a:¬p.1=u:=λe=>h (by rw[e];exact Qq);obtain⟨b,l⟩:=CK (u:=u) (q:=q) (L:=L) λw=>h (Qk _ w);refine⟨?_,?_⟩
  .unfold o1
   rw[Qp a,b];rfl
  .unfold H_
   rw[Qp a,l]
theorem Kd{u:List Nat}:∀{L:NL},(L.map (·.1)).Nodup->u∈L.map (·.1)->o1 L u q=L.map λp=>if p.1=u then(p.1,rA (H_ L u) q)else p
 |p::L,nd,h=>by
  rw[QB,Rf]at nd;unfold o1 H_;rw[QB];by_cases z:p.1=u
  .rw[Qt z,Qt z,Qt z]
   congr 1;refine(Y7 L).symm.trans (Ra λx a=>?_);rw[Qp λe=>nd.1 (QC.mpr ⟨x,a,e.trans z.symm⟩)];rfl
  .rw[Qp z,Qp z,Qp z]
   congr 1;exact Kd nd.2 ((QD.mp h).resolve_left λe=>z e.symm)
theorem gJ{α:Type} [BEq α] [LawfulBEq α]:∀{l m:List α},l.Nodup->(∀x∈l,x∈m)->l.length<=m.length
 |[],_,_,_=>RB _
 |x::l,m,h,s=>by
  rw[Rf]at h;have b:=s x Qq;have e:=Yi b;have:=YC b;have:=gJ (m:=m.erase x) h.2 λy o=>(Y8 (a:=y) λe=>h.1 (by rw[<-e];exact o)).mpr (s y (Qk _ o));rw[QP];omega
structure v1 (W:Wy) (rs:List Nat) (m k:Nat) (L:NL):Prop where
 nd:(L.map (·.1)).Nodup
 lv:∀u∈L.map (·.1),u∈hL W rs k
 ps:∀u∈L.map (·.1),0<ra W m k u
theorem v1.len{L:NL}(h:v1 W rs m k L):L.length<=(hL W rs k).length:=by
 have:=gJ h.nd h.lv;rw[Qi]at this;exact this
def vl(W:Wy)(c d:Nat×Nat)(k:Nat)(p:List Nat×R4)(B:NL)(l:List (List Nat)):NL:=l.foldl (λB v=>o1 B (less p.1 v) (rM p.2 (cf c d k v))) B
def x_(W:Wy)(c d:Nat×Nat)(m k:Nat)(B L:NL):NL:=L.foldl (λB p=>vl W c d k p B (KX W m k p.1)) B
theorem x9{p:List Nat×R4}(a:p.1∈hL W rs k):∀{l:List (List Nat)} {B:NL},(∀v∈l,v∈KX W m k p.1)->v1 W rs m (k+1) B->v1 W rs m (k+1) (vl W c d k p B l)
 |[],B,_,h=>h
 |v::l,B,hl,h=>by
  obtain⟨m1,m2⟩:=Sm.mp (hl v Qq);have m2:=RI m2;refine x9 a (l:=l) (B:=o1 B (less p.1 v) (rM p.2 (cf c d k v))) (λw b=>hl w (Qk _ b)) ⟨Qe h.nd,λu hu=>?_,λu hu=>?_⟩
  .rcases B4 hu with rfl|hu
   .exact jT.mpr ⟨_,a,v,m1,rfl⟩
   .exact h.lv u hu
  .rcases B4 hu with rfl|hu
   .omega
   .exact h.ps u hu
theorem xE:∀{L B:NL},(∀p∈L,p.1∈hL W rs k)->v1 W rs m (k+1) B->v1 W rs m (k+1) (x_ W c d m k B L)
 |[],_,_,h=>h
 |p::L,B,hl,h=>xE (L:=L) (B:=vl W c d k p B (KX W m k p.1)) (λq a=>hl q (Qk _ a)) (x9 (hl p Qq) (λ_ h=>h) h)
theorem J2{p:List Nat×R4}:∀{l:List (List Nat)} {B:NL},pa W c d m (k+1) (vl W c d k p B l)=rA (pa W c d m (k+1) B) (rM p.2 (rS (λv=>rM (cf c d k v) (TW W c d m (k+1) (less p.1 v))) l))
 |[],B=>by
  show pa W c d m (k+1) B=rA _ (rM p.2 r0);rw[DN,xw]
 |v::l,B=>by
  show pa W c d m (k+1) (vl W c d k p (o1 B (less p.1 v) (rM p.2 (cf c d k v))) l)=rA _ (rM p.2 (rA _ _));rw[J2,JI,mD,JE,Pb]
theorem JM:∀{L B:NL},pa W c d m (k+1) (x_ W c d m k B L)=rA (pa W c d m (k+1) B) (pa W c d (m+1) k L)
 |[],B=>(xw _).symm
 |p::L,B=>by
  show pa W c d m (k+1) (x_ W c d m k (vl W c d k p B (KX W m k p.1)) L)=rA _ (rA (rM p.2 (TW W c d (m+1) k p.1)) (pa W c d (m+1) k L));rw[JM,J2,mD];rfl
theorem r1_M(q:R4):rM r1 q=q:=by simp only[rM,r1,XE,TU,RX]
theorem pX{r:List Nat}(h:0<ra W m k r):0<(TW W c d m k r).1:=by
 rw[pW,xp];show 0<sm (j2 W m k r) wt;rw[<-qp]at h;obtain⟨vs,a⟩:=List.exists_mem_of_length_pos h;have b:0<wt vs:=by
  show 0<pr (vs.map mu)
  clear a
  induction vs with
  |nil=>decide
  |cons v vs ih=>exact UE (uB v) ih
 exact QY b (xT (f:=wt) a)
theorem Pg{S:R4}(h:v1 W rs m k L)(e:pa W c d m k L=S){p:List Nat×R4}(a:p∈L):rLe p.2 S:=by
 have:=JF (f:=λp=>rM p.2 (TW W c d m k p.1)) a;rw[show rS (λp=>rM p.2 (TW W c d m k p.1)) L=S from e]at this;exact Pd this (pX (h.ps _ (QC.mpr ⟨p,a,rfl⟩)))
theorem EA{L:NL}{S:R4}(nd:(L.map (·.1)).Nodup)(e:pa W c d 0 k L=S)(b:0<S.1)(a:∀u∈L.map (·.1),u=z):L=[(z,S)]:=by
 match L,nd,e,a with
 |[],_,e,_=>rw[<-e]at b;cases b
 |[p],_,e,a=>
  have h:rA (rM p.2 r1) r0=S:=e;rw[xw,rM_1]at h;rw[<-h,<-a p.1 (by simp)]
 |p::q::L,nd,_,a=>
  rw[QB,Rf]at nd;exact(nd.1 (by rw[a p.1 (by simp),<-a q.1 (by simp)];simp)).elim
end
end L2.Nt
namespace Law
open PySem L2 L2.Pu
open L2.Hs (uu uN kE we ut tW)
noncomputable def dc(i:Nat):RT:=PySem.Challenge.pw_edgetally_k51_whole_pair_means_by_two_le.main.body.getD i (.Pass ⟨0,0,0,0⟩)
abbrev zo:RT:=dc 14
abbrev lB:RT:=dc 15
abbrev k6:RT:=dc 16
abbrev lD:RT:=dc 17
abbrev lC:RT:=dc 18
abbrev iI:RT:=dc 19
abbrev np:RT:=dc 21
abbrev zh:RT:=dc 22
abbrev ji:RT:=dc 23
abbrev t8:RT:=dc 24
abbrev oS:RT:=dc 25
abbrev rb:RT:=dc 27
abbrev kY:RT:=dc 28
abbrev kZ:RT:=dc 29
abbrev q9:RT:=dc 30
abbrev ng:RT:=dc 31
abbrev rf:RT:=dc 32
abbrev nq:RT:=dc 33
abbrev lA:RT:=dc 36
abbrev ic:RT:=dc 37
abbrev ie:RT:=dc 38
abbrev jM:RT:=dc 39
abbrev iJ:RT:=dc 40
abbrev k4:RT:=dc 41
abbrev jh:RT:=dc 42
abbrev jj:RT:=dc 45
abbrev oU:RT:=dc 46
abbrev t7:RT:=dc 47
abbrev lz:RT:=dc 48
abbrev kX:RT:=dc 49
abbrev gE:RT:=dc 50
abbrev zm:RT:=dc 51
abbrev nc:RT:=dc 52
abbrev vV:RT:=dc 54
abbrev uc:RT:=dc 55
abbrev ub:RT:=dc 56
abbrev ud:RT:=dc 57
abbrev ua:RT:=dc 58
abbrev re:RT:=dc 59
abbrev oQ:RT:=dc 60
abbrev nh:RT:=dc 61
abbrev jN:RT:=dc 62
abbrev vU:RT:=dc 63
abbrev oR:RT:=dc 64
abbrev rc:RT:=dc 65
abbrev jO:RT:=aE (dc 43) 0
abbrev k7:RT:=aE (dc 43) 3
abbrev iK:RT:=aE (dc 43) 4
abbrev nu:RT:=aE (dc 43) 9
abbrev jk:RT:=aE (dc 43) 6
abbrev mC:RT:=dc 66
abbrev tP:RT:=aE (dc 2) 0
set_option genSizeOf false in
set_option genInjectivity false in
structure Ad where
 Aa:Qs
 Ab:Qs
 Ae:Q2
 Af:Qs
 Ag:Qs
 Ah:Q2
 Ai:Qs
 Aj:Q2
 Ak:Qs
 Al:Q2
 Am:Qs
 An:Q2
 Ao:Qs
 Aq:Q2
 Ar:Qs
 As:Q2
 At:Qs
 Au:Q2
 Av:Qs
 Aw:Q2
 Ax:Qs
 Ay:Q2
 Az:Qs
 A0:Q2
 A1:Qs
 A2:Q2
 A3:Qs
 A4:Q2
 A5:Qs
 A6:Q2
 A7:Qs
 A8:Q2
 A9:Qs
 Ba:Q2
 Bb:Qs
 Bc:Q2
 Bd:Qs
 Be:Q2
 Bf:Qs
 Bh:Q2
 Bi:Qs
 Bj:Q2
 Bk:Qs
 Bl:Q2
 Bm:Qs
 Bn:Q2
 Bo:Qs
 Bp:Q2
 Bq:Qs
 Br:Q2
 Bs:Qs
 Bt:Q2
 Bu:Qs
 Bv:Q2
 Bw:Qs
 Bx:Q2
 By:Qs
 Bz:Q2
 B0:Qs
 B5:Q2
 B7:Qs
 B8:Q2
 Ca:Qs
 Cb:Q2
 Cc:Qs
 Cd:Q2
 Cf:Qs
 Cg:Q2
 Ch:Qs
 Ci:Q2
 Cj:Qs
 Ck:Q2
 Cl:Qs
 Cm:Q2
 Cn:Qs
 Co:Q2
 Cp:Qs
 Cq:Q2
 Cr:Qs
 Cs:Q2
 Ct:Qs
 Cu:Q2
 Cv:Qs
 Cw:Q2
 Cy:Qs
 Cz:Q2
 C0:Qs
 C2:Q2
 C3:Qs
 C4:Q2
 C5:Qs
 C6:Q2
 C7:Qs
 C8:Q2
 C9:Qs
 Da:Q2
 Db:Qs
 Dc:Q2
 Dd:Qs
 Df:Q2
 Dg:Qs
 Dh:Q2
 Di:Qs
 Dj:Q2
 Dl:Qs
 Dm:Q2
structure u_ (K:QR) (mg:Rl->Option Qv) (a:Ad):Prop where
 Do:mg "ValueError"=Qh
 Dp:mg "abs"=Qh
 Dq:mg "any"=Qh
 Dr:mg "bool"=Qh
 Dt:mg "enumerate"=Qh
 Du:mg "int"=Qh
 Dv:mg "isinstance"=Qh
 Dw:mg "len"=Qh
 Dx:mg "list"=Qh
 Dy:mg "max"=Qh
 Dz:mg "min"=Qh
 D0:mg "range"=Qh
 D3:mg "reversed"=Qh
 D4:mg "sorted"=Qh
 D5:mg "str"=Qh
 D6:mg "sum"=Qh
 D7:mg "tuple"=Qh
 D8:mg "zip"=Qh
 D9:m7 K mg "MOST" (.int 40)
 Ea:m7 K mg "MOST_COLUMNS" (.int 6)
 Eb:m7 K mg "MOST_ROWS" (.int 4)
 Ec:m7 K mg "WIDE" (.int 500)
 Ed:d5 K "free" "free" zo a.Ag a.Ah
 Ee:mg "free"=on (.ref a.Ag)
 Ef:dh K a.Ah ["rows","columns","pair"] [.tup [.int 0,.int 40]]
 Eg:d5 K "check_sums" "check_sums" lB a.Ai a.Aj
 Eh:mg "check_sums"=on (.ref a.Ai)
 Ei:aB K a.Aj ["rowsums","columnsums"] []
 Ej:d5 K "check_there" "check_there" k6 a.Ak a.Al
 Ek:mg "check_there"=on (.ref a.Ak)
 El:aB K a.Al ["place","many"] []
 Em:d5 K "check_cell" "check_cell" lD a.Am a.An
 En:mg "check_cell"=on (.ref a.Am)
 Eo:aB K a.An ["row","column","rows","columns"] []
 Ep:d5 K "check_pair" "check_pair" lC a.Ao a.Aq
 Er:mg "check_pair"=on (.ref a.Ao)
 Es:aB K a.Aq ["pair"] []
 Et:d5 K "settled_bounds" "settled_bounds" iI a.Ar a.As
 Eu:mg "settled_bounds"=on (.ref a.Ar)
 Ev:aB K a.As ["bounds","rows","columns"] []
 Ew:d5 K "factorial" "factorial" np a.At a.Au
 Ex:mg "factorial"=on (.ref a.At)
 Ey:aB K a.Au ["number"] []
 Ez:d5 K "ways" "ways" zh a.Av a.Aw
 E2:mg "ways"=on (.ref a.Av)
 E3:aB K a.Aw ["parts"] []
 E4:d5 K "common_factor" "common_factor" ji a.Ax a.Ay
 E5:mg "common_factor"=on (.ref a.Ax)
 E6:aB K a.Ay ["one","other"] []
 E7:d5 K "lowest" "lowest" t8 a.Az a.A0
 E8:mg "lowest"=on (.ref a.Az)
 E9:aB K a.A0 ["top","under"] []
 Fa:d5 K "fillings" "fillings" oS a.A1 a.A2
 Fb:mg "fillings"=on (.ref a.A1)
 Fc:aB K a.A2 ["rests","many","pairs"] []
 Fd:d5 K "need_of" "need_of" rb a.A3 a.A4
 Fe:mg "need_of"=on (.ref a.A3)
 Ff:aB K a.A4 ["rowsums","over"] []
 Fg:d5 K "room_inside" "room_inside" kY a.A5 a.A6
 Fh:mg "room_inside"=on (.ref a.A5)
 Fj:aB K a.A6 ["columnsums","bounds","over","column"] []
 Fk:d5 K "room_beside" "room_beside" kZ a.A7 a.A8
 Fl:mg "room_beside"=on (.ref a.A7)
 Fm:aB K a.A8 ["bounds","over","column"] []
 Fn:d5 K "room_of" "room_of" q9 a.A9 a.Ba
 Fo:mg "room_of"=on (.ref a.A9)
 Fp:aB K a.Ba ["columnsums","bounds","over","into"] []
 Fq:d5 K "narrowest" "narrowest" ng a.Bb a.Bc
 Fs:mg "narrowest"=on (.ref a.Bb)
 Ft:aB K a.Bc ["columnsums","bounds","over"] []
 Fu:d5 K "choices" "choices" rf a.Bd a.Be
 Fv:mg "choices"=on (.ref a.Bd)
 Fw:aB K a.Be ["many"] []
 Fy:d5 K "check_fit" "check_fit" nq a.Bf a.Bh
 Fz:mg "check_fit"=on (.ref a.Bf)
 F4:aB K a.Bh ["rowsums","columnsums","bounds"] []
 F5:d5 K "check_wide" "check_wide" lA a.Bi a.Bj
 F6:mg "check_wide"=on (.ref a.Bi)
 F7:aB K a.Bj ["rowsums"] []
 F8:d5 K "settled_for_net" "settled_for_net" ic a.Bk a.Bl
 F9:mg "settled_for_net"=on (.ref a.Bk)
 Ga:aB K a.Bl ["rowsums","columnsums","bounds"] []
 Gb:d5 K "column_fillings" "column_fillings" ie a.Bm a.Bn
 Gc:mg "column_fillings"=on (.ref a.Bm)
 Gd:aB K a.Bn ["rests","columnsums","bounds","column"] []
 Ge:d5 K "rests_behind" "rests_behind" jM a.Bo a.Bp
 Gf:mg "rests_behind"=on (.ref a.Bo)
 Gg:aB K a.Bp ["rests","counts"] []
 Gh:d5 K "nodes_by_level" "nodes_by_level" iJ a.Bq a.Br
 Gi:mg "nodes_by_level"=on (.ref a.Bq)
 Gj:aB K a.Br ["rowsums","columnsums","bounds"] []
 Gk:d5 K "node_counts" "node_counts" k4 a.Bs a.Bt
 Gm:mg "node_counts"=on (.ref a.Bs)
 Gn:aB K a.Bt ["rests","filled","behind"] []
 Go:d5 K "counted_nodes" "counted_nodes" jh a.Bu a.Bv
 Gp:mg "counted_nodes"=on (.ref a.Bu)
 Gq:aB K a.Bv ["rowsums","columnsums","bounds"] []
 Gr:d5 K "check_cell_of" "check_cell_of" jj a.Bw a.Bx
 Gs:mg "check_cell_of"=on (.ref a.Bw)
 Gu:aB K a.Bx ["net","cell"] []
 Gx:d5 K "count_in" "count_in" oU a.By a.Bz
 Gy:mg "count_in"=on (.ref a.By)
 Gz:aB K a.Bz ["cell","level","counts"] []
 G0:d5 K "put_to" "put_to" t7 a.B0 a.B5
 G1:mg "put_to"=on (.ref a.B0)
 G2:aB K a.B5 ["found","here","there","many"] []
 G3:d5 K "sums_added" "sums_added" lz a.B7 a.B8
 G4:mg "sums_added"=on (.ref a.B7)
 G5:aB K a.B8 ["found","more"] []
 G6:d5 K "sums_behind" "sums_behind" kX a.Ca a.Cb
 G7:mg "sums_behind"=on (.ref a.Ca)
 G8:aB K a.Cb ["net","one","other","level","sums"] []
 G9:d5 K "sums_over_tables" "sums_over_tables" gE a.Cc a.Cd
 Ha:mg "sums_over_tables"=on (.ref a.Cc)
 Hb:aB K a.Cd ["net","one","other"] []
 Hc:d5 K "mean" "mean" zm a.Cf a.Cg
 Hd:mg "mean"=on (.ref a.Cf)
 He:aB K a.Cg ["net","row","column"] []
 Hf:d5 K "pair_mean" "pair_mean" nc a.Ch a.Ci
 Hg:mg "pair_mean"=on (.ref a.Ch)
 Hh:aB K a.Ci ["net","one","other"] []
 Hi:d5 K "_law_bag" "_law_bag" vV a.Cj a.Ck
 Hj:mg "_law_bag"=on (.ref a.Cj)
 Hk:aB K a.Ck ["_law_script"] []
 Hl:d5 K "_law_pull" "_law_pull" uc a.Cl a.Cm
 Hm:mg "_law_pull"=on (.ref a.Cl)
 Hn:aB K a.Cm ["_law_bag_here","_law_lot"] []
 Ho:d5 K "_law_same" "_law_same" ub a.Cn a.Co
 Hq:mg "_law_same"=on (.ref a.Cn)
 Hr:aB K a.Co ["_law_found","_law_due"] []
 Ht:d5 K "_law_grid" "_law_grid" ud a.Cp a.Cq
 Hu:mg "_law_grid"=on (.ref a.Cp)
 Hv:aB K a.Cq ["_law_bag_here","_law_block","_law_columns","_law_things"] []
 Hw:d5 K "_law_wide" "_law_wide" ua a.Cr a.Cs
 Hx:mg "_law_wide"=on (.ref a.Cr)
 Hy:aB K a.Cs ["_law_bag_here"] []
 Hz:d5 K "_law_large" "_law_large" re a.Ct a.Cu
 Ia:mg "_law_large"=on (.ref a.Ct)
 Ib:aB K a.Cu ["_law_bag_here"] []
 Id:d5 K "_law_turned" "_law_turned" oQ a.Cv a.Cw
 Ie:mg "_law_turned"=on (.ref a.Cv)
 Ig:aB K a.Cw ["_law_block"] []
 Ih:d5 K "_law_rowsums" "_law_rowsums" nh a.Cy a.Cz
 Ii:mg "_law_rowsums"=on (.ref a.Cy)
 Ij:aB K a.Cz ["_law_grid_here"] []
 Ik:d5 K "_law_columnsums" "_law_columnsums" jN a.C0 a.C2
 Il:mg "_law_columnsums"=on (.ref a.C0)
 Im:aB K a.C2 ["_law_grid_here"] []
 Io:d5 K "_law_gcd" "_law_gcd" vU a.C3 a.C4
 Ip:mg "_law_gcd"=on (.ref a.C3)
 Iq:aB K a.C4 ["_law_one","_law_other"] []
 Ir:d5 K "_law_lowest" "_law_lowest" oR a.C5 a.C6
 Iu:mg "_law_lowest"=on (.ref a.C5)
 Iw:aB K a.C6 ["_law_top","_law_under"] []
 Ix:d5 K "_law_place" "_law_place" rc a.C7 a.C8
 Iy:mg "_law_place"=on (.ref a.C7)
 Iz:aB K a.C8 ["_law_bag_here","_law_grid_here"] []
 I9:d5 K "__init__" "Net.__init__" jO a.C9 a.Da
 Ja:Mk K a.Af a.C9
 Jb:dh K a.Da ["self","rowsums","columnsums","bounds"] [.non]
 Jc:d5 K "rowsums" "Net.rowsums" k7 a.Db a.Dc
 Jd:nB K a.Af "rowsums" a.Db
 Je:aB K a.Dc ["self"] []
 Jf:d5 K "columnsums" "Net.columnsums" iK a.Dd a.Df
 Jg:nB K a.Af "columnsums" a.Dd
 Jh:aB K a.Df ["self"] []
 Ji:d5 K "steps" "Net.steps" nu a.Dg a.Dh
 Jj:nB K a.Af "steps" a.Dg
 Jk:aB K a.Dh ["self","level","rests"] []
 Jl:d5 K "counts_at" "Net.counts_at" jk a.Di a.Dj
 Jm:nB K a.Af "counts_at" a.Di
 Jn:aB K a.Dj ["self","level","rests"] []
 Jo:r_ K a.Af
 Jp:mg "Net"=on (.ref a.Af)
 Jq:dM K a.Af "column_list"
 Jr:dM K a.Af "counted"
 Js:dM K a.Af "pairs"
 Jt:dM K a.Af "row_list"
 Ju:d5 K "__init__" "EdgeError.__init__" tP a.Ab a.Ae
 Jv:aB K a.Ae ["self","word","why"] []
 Jw:mg "EdgeError"=on (.ref a.Aa)
 Jx:ClsFn K a.Aa "__init__" a.Ab
section
variable(P:Rc)(w:Ro){K:QR}{mg:Rl->Option Qv}(base:RQ){a:Ad}
theorem jf:cp ["_law_bag_here","_law_lot","_law_cells","_law_at","_law_cell"] ["_law_bag_here","_law_lot"] (ae uc):=gs
theorem zU(N:u_ K mg a):fw P w K mg base (g_ P w) 2 a.Cl a.Cm ["_law_bag_here","_law_lot"] (zv K 2 bZ):=by
 refine N.Hl.ok (k:=1) jf (λvs H Q E h=>h.1) (λX A outer s H vs Q E hr h=>?_);obtain⟨_,F,ds,β,fr,hd,r,Y,e,k⟩:=h;obtain⟨lot,rfl,ok,C,Z,rfl,rfl⟩:=AB e;obtain⟨v,w',rfl,d1,d2⟩:=bb.two hd;unfold cx at d1;obtain⟨b,l,d,rfl⟩:=d1;cases d2.int;obtain⟨t,I⟩:=fr.bag b l d;obtain⟨ab,al,m⟩:=fr.bgA b l d;obtain⟨U,J,hc0,W⟩:=ok.at;obtain⟨_,_,hcp,_⟩:=v3 ok C;have len:((β.cells.map V.int).length:Int)=(β.cells.length:Int):=by rw[Qi]
 have L:s_ (β.cells.map V.int) (β.pos:Int)=on (.int β.cell):=LE (by rw[Qu,J];rfl);refine⟨_,cz (o5 (i:=2) jf.nd rfl (S5 rfl) (ir eK (pv 0) bJ (λ_ _=>rfl)))
  (cz (o5 (i:=3) jf.nd rfl (S5 rfl) (dF iQ (ir eK (pv 0) bJ (λ_ _=>rfl)) (kD l8 (by rfl) N.Dw PySem.boot_len (dN (pv 2) fI))))
  (cz (o5 (i:=4) jf.nd rfl (S5 rfl) (ir eK (pv 2) (pv 3) (λ_ _=>rfl)))
  (cz (JJ (v5 Pl (pv 4) (dF MQ bJ bJ) (uy _))
   (cz (dy (dF wf (pv 4) (pv 1)) (jS (pv 2) (pv 3) iF)) (mE (az (dF iQ (pv 4) (pv 1))))) qq)
  (cz (dy (dF o7 (ir eK (pv 0) bJ (λ_ _=>rfl)) bJ) (jS (pv 0) bJ iF))
  (cz (dy (dF iQ (dF MS (dF o7 (dF o7 (ir eK (pv 0) bJ (λ_ _=>rfl)) (dF iQ (pv 4) bJ)) bJ) bJ) bJ) (jS (pv 0) bJ iF))
  (mE (az (dF iQ (dF wf (ir eK (pv 0) bJ (λ_ _=>rfl)) bJ) (pv 1))))))))),?_⟩
 refine⟨_,rfl,b,_,_,_,rfl,rfl,f0.of t,rfl,?_⟩;refine⟨_,rfl,b,_,_,_,rfl,rfl,f0.of t,rfl,_,rfl,l,_,rfl,.inl (f0.of I),_,_,rfl,rfl,?_,?_⟩
 .have:=U
  rw[len];omega
 refine⟨_,rfl,_,rfl,l,_,_,_,rfl,rfl,f0.of I,by rw[len,W];exact L,?_⟩;refine⟨_,rfl,_,_,rfl,rfl,⟨by decide,by decide,by decide⟩,_,_,rfl,rfl,_,rfl,?_⟩;have occ:∀{O:Hp} {p:Qs} {o:HO},(∀c,F.A c->O c≠Qh)->∀c,F.A c->upd O p o c≠Qh:=λ{O p o} f c hc z=>by
  by_cases q:c=p
  .subst q;rw[ah]at z;cases z
  .rw[b_ q]at z;exact f c hc z
 refine ite2 (λg=>?_) (λg=>?_)
 .have L4:(10:Int)^18<=β.cell:=RI g
  refine⟨_,rfl,_,rfl,_,_,rfl,rfl,⟨C,Z⟩,_,rfl,_,rfl,l,_,_,β.pos,rfl,rfl,I,?_,?_⟩
  .rw[len,W,Qi]
   exact Lj U
  refine⟨_,rfl,_,rfl,_,_,rfl,rfl,C,?_⟩;have R:jq β lot=β.cell % lot:=Qt L4;have T:kC β lot=⟨β.cells.set β.pos (β.cell/lot),β.i,β.j⟩:=Qt L4;rw[R,T]at k;refine k _ _ ⟨λc o hc n=>by rw[b_ (n b l d).2];exact hc,occ fr.occ,fr.bgA,λb' l' u=>?_⟩ rfl;rw[d]at u;cases u;exact⟨by rw[b_ m];exact t,by rw[ah,TK]⟩
 .have L4:¬(10:Int)^18<=β.cell:=λq=>g (QL q)
  refine⟨_,rfl,b,_,_,_,rfl,rfl,f0.of t,rfl,_,_,rfl,rfl,_,rfl,b,_,_,1,rfl,rfl,t,rfl,?_⟩;have y:(upd H b (.lst [.ref l,.int (β.i+1),.int β.j])) b=on (.lst [.ref l,.int (β.i+1),.int β.j]):=ah;refine⟨_,rfl,b,_,_,_,rfl,rfl,f0.of y,rfl,_,rfl,_,_,rfl,rfl,(by show(0:Int)<2147483629;decide),_,_,rfl,rfl,_,_,rfl,rfl,_,_,rfl,rfl,.inr ⟨by decide,by decide⟩,_,_,rfl,rfl,(by show(0:Int)<2147483629;decide),_,rfl,b,_,_,2,rfl,rfl,y,rfl,?_⟩;have B:(upd (upd H b (.lst [.ref l,.int (β.i+1),.int β.j])) b (.lst [.ref l,.int (β.i+1),.int β.nxt])) b=on (.lst [.ref l,.int (β.i+1),.int β.nxt]):=ah;refine⟨_,rfl,b,_,_,_,rfl,rfl,f0.of B,rfl,_,_,rfl,rfl,⟨by decide,by decide⟩,_,rfl,_,_,rfl,rfl,C,?_⟩;have R:jq β lot=β.nxt/64 % lot:=Qp L4;have T:kC β lot=⟨β.cells,β.i+1,β.nxt⟩:=Qp L4;rw[R,T]at k;refine k _ _ ⟨λc o hc n=>by rw[b_ (n b l d).1,b_ (n b l d).1];exact hc,occ (occ fr.occ),fr.bgA,λb' l' u=>?_⟩ rfl;rw[d]at u;cases u;exact⟨B,by rw[b_ m.symm,b_ m.symm];exact I⟩
theorem DL:cp ["_law_script"] ["_law_script"] (ae vV):=gs
theorem nd1:(["_law_cell"]:List Rl).Nodup:=by decide +kernel
theorem EB(N:u_ K mg a):fw P w K mg base (g_ P w) 1 a.Cj a.Ck ["_law_script"] (O3 K):=by
 refine N.Hi.ok DL (λvs H Q E h=>?_) (λX A outer s H vs Q E hr h=>?_)
 .obtain⟨a,ns,rfl,_⟩:=h
  rfl
 .obtain⟨a,ns,rfl,Y,k⟩:=h
  refine⟨_,mE (az (gF (dN (dF MU (wb rfl (dr:=["_law_cell"]) (dt.plain rfl (by decide +kernel) (by decide +kernel)) (KO (ur vR (pv 0) v8 (v7 bJ)))
   (λcl C fp s H=>⟨wa (i:=0) nd1 rfl (S5 rfl),uq,λD=>aS rfl (kD ou (by rfl) N.Dp PyProof.Rows.Boot.«abs» (dN (pv 0) fI)) rfl⟩)) (gF (dN bJ fI))) (dN bJ (dN bJ fI))))),?_⟩
  obtain⟨q,I,Z⟩:=Qc ns;refine⟨_,rfl,63,rfl,a,_,rfl,Y,λp hp=>?_⟩;rw[I];have L:bE H (upd H p (.lst (q.map V.int))):=bE.upd hp;refine⟨p,rfl,⟨_,f0.of ah⟩,λD B=>?_⟩;have r:D≠p:=λz=>by subst z;rw[ah]at B;cases B
  refine yu (xs:=q.map V.int) (λi F g=>∃cs:List Int,(∃v,F=[v])/\cs.length=i/\(∀c∈cs,0<=c)/\g D=on (.lst (cs.map V.int))/\g p=on (.lst (q.map V.int))/\bE H g) ⟨[],⟨_,rfl⟩,rfl,(λ_ h=>nomatch h),ah,by rw[b_ r.symm,ah],L.trans (bE.upd B)⟩
   (λi F g _ ⟨_,_,_,_,_,e,_⟩=>f0.of e) ?_ ?_
  .rintro i x F g n ⟨cs,⟨v,rfl⟩,l,m,d,t,u⟩
   have hil:i<q.length:=by have:=(QI.mp n).1;rwa[Qi]at this
   obtain⟨z,rfl⟩:∃z,x=V.int z:=by
    rw[Qu]at n;cases e:q[i]? with
    |none=>rw[e]at n;cases n
    |some z=>rw[e]at n;exact⟨z,(Q7 n).symm⟩
   unfold dW LX;refine iteT ?_;refine⟨_,rfl,_,rfl,cs.map V.int,d,by rw[Qi];exact qZ (by omega),cs++[if z<0 then -z else z],⟨_,rfl⟩,by rw[QV,l];rfl,λc hc=>?_,by rw[ah,Rg];rfl,by rw[b_ r.symm];exact t,λb o e=>?_⟩
   .rcases RK.mp hc with hc|hc
    .exact m c hc
    .obtain rfl:c=_:=by simpa using hc
     split<;>omega
   .rw[b_ (ay e (L.free B))]
    exact u b o e
  .rintro F g ⟨cs,⟨v,rfl⟩,l,m,d,t,u⟩
   rw[Qi]at l;refine⟨by decide,λO j=>⟨D,O,_,_,rfl,rfl,by rw[b_ (ay d j)];exact d,ah,by rw[Qi];exact Wm (qZ (by simp;omega)),λR y=>⟨(by show 3<=QN;decide),λT f=>?_⟩⟩⟩;have U:bE g (upd g O (.lst [V.int 1])):=bE.upd j;have W:=U.trans (bE.upd (o:= .lst (cs.map V.int++[V.int 1])) y);have J:R≠T:=λz=>by subst z;rw[ah]at f;cases f
   refine k T R _ ((u.trans W).free f) ((u.trans U).free y) ⟨cs++[1],0,0,ah,by rw[b_ J,ah,Rg];rfl,by simp,by rw[QV];simp;omega,λc hc=>?_,by decide⟩ ((u.trans W).trans (bE.upd f));rcases RK.mp hc with hc|hc
   .exact m c hc
   .obtain rfl:c=1:=by simpa using hc
    decide
theorem gQ(N:u_ K mg a):FB P w K mg base 2 "_law_pull" a.Cl a.Cm ["_law_bag_here","_law_lot"] 2 bZ:=⟨zU P w base N,N.Hm,N.Hl.kp,N.Hn⟩
abbrev QF(K:QR)(a:Ad)(k:Nat)(x:Rl)(f:Qs)(d:Q2)(ps:List Rl)(n:Nat):={m:List D->M D//∀(P:Rc) (w:Ro) {mg:Rl->Option Qv} (base:RQ) (N:u_ K mg a),FB P w K mg base k x f d ps n m}
abbrev QM(K:QR)(a:Ad)(k:Nat)(f:Qs)(d:Q2)(ps:List Rl)(n:Nat):={m:List D->M D//∀(P:Rc) (w:Ro) {mg:Rl->Option Qv} (base:RQ) (N:u_ K mg a),fw P w K mg base (g_ P w) k f d ps (zv K n m)}
theorem KF:cp ["rows","columns","pair"] ["rows","columns","pair"] (ae zo):=gs
def uk(K:QR)(a:Ad):QM K a 2 a.Ag a.Ah ["rows","columns","pair"] 3:=⟨_,λP w mg base N=>by
 exact bj (k:=1) 3 3 _ N.Ed KF rfl rfl λb A outer s H E d=>ak (aM (az (bq rfl (j1 ["row","pair","columns"] ["row"] [2,1]) (cj (by rfl) N.D0 (ee (vv 0))) (λcl C c s H=>⟨(eo 0 g8),aY,λD=>aS rfl (bq rfl (j1 ["column","pair"] ["column"] [1]) (cj (by rfl) N.D0 (ee (vv 2))) (λcl C c s H=>⟨(eo 0 g8),aY,λD=>aS rfl (vv 1) rfl⟩) ar aA (λD=>aX)) rfl⟩) ar aA (λD=>aX))))⟩
theorem rY:cp ["rowsums","columnsums"] ["rowsums","columnsums"] (ae lB):=gs
def iO(K:QR)(a:Ad):QF K a 2 "check_sums" a.Ai a.Aj ["rowsums","columnsums"] 2:=⟨_,λP w mg base N=>⟨by
 exact bj (k:=1) 2 2 _ N.Eg rY rfl rfl λb A outer s H E c=>ad (cc (oI (qc jr jr lT lT (af) (cM N.Dw (ee (vv 0))) (ld N.Eb))) (ak (cR)) (bC))
   (ad (cc (oI (qc jr jr lT lT (af) (cM N.Dw (ee (vv 1))) (ld N.Ea))) (ak (cR)) (bC))
   (ad (cc (lh (tz (oH (cg (ma rfl) xV (by rfl) N.Dq PyProof.Rows.Boot.«any» (ee (bq rfl (j1 ["many"] ["many"] []) (bt (vv 0)) (λcl C d s H=>⟨(eo 0 g8),aY,λD=>aS rfl (jd kH nZ (vv 0) (af)) rfl⟩) ar aA (λD=>aX))))) (oB (oH (cg (ma rfl) xV (by rfl) N.Dq PyProof.Rows.Boot.«any» (ee (bq rfl (j1 ["many"] ["many"] []) (bt (vv 1)) (λcl C d s H=>⟨(eo 0 g8),aY,λD=>aS rfl (jd kH nZ (vv 0) (af)) rfl⟩) ar aA (λD=>aX)))))))) (ak (cR)) (bC))
   (ad (cc (bo (gG c) jv (f9 N.D6 (ee (vv 0))) (f9 N.D6 (ee (vv 1)))) (ak (cR)) (bC))
   (ak (cc (bo mI qz (f9 N.D6 (ee (vv 0))) (ld N.D9)) (ak (cR)) (bC)))))),N.Eh,N.Eg.kp,N.Ei⟩⟩
theorem qh:cp ["place","many"] ["place","many"] (ae k6):=gs
def hZ(K:QR)(a:Ad):QF K a 2 "check_there" a.Ak a.Al ["place","many"] 2:=⟨_,λP w mg base N=>⟨by
 exact bj (k:=1) 2 2 _ N.Ej qh rfl rfl λb A outer s H E c=>ak (cc (oI (qc jr kH lT nZ (af) (vv 0) (vv 1))) (ak (cR)) (bC)),N.Ek,N.Ej.kp,N.El⟩⟩
theorem rZ:cp ["row","column","rows","columns"] ["row","column","rows","columns"] (ae lD):=gs
def iP(K:QR)(a:Ad):QF K a 3 "check_cell" a.Am a.An ["row","column","rows","columns"] 4:=⟨_,λP w mg base N=>⟨by
 have b:=(hZ K a).2 P w base N
 exact bj (k:=2) 4 4 _ N.Em rZ rfl rfl λd A outer s H E c=>ad (eU (cu (vc b c (eg (vv 0) (vv 2)))))
   (ak (eU (cu (vc b c (eg (vv 1) (vv 3)))))),N.En,N.Em.kp,N.Eo⟩⟩
theorem g9:cp ["pair","low","high"] ["pair"] (ae lC):=gs
def ul(K:QR)(a:Ad):QF K a 2 "check_pair" a.Ao a.Aq ["pair"] 1:=⟨_,λP w mg base N=>⟨by
 exact bj (k:=1) 1 3 _ N.Ep g9 rfl rfl λb A outer s H E c=>ad (ku (gM (bh aI (bh aI fj)) (bf (bf dY))) (dy (vv 0) (bN rfl (au (eo 1 g9.nd) (au (eo 2 g9.nd) bz)))))
   (ak (cc (oI (DB jr jr jr lT lT lT (af) (vv 1) (vv 2) (ld N.D9))) (ak (cR)) (bC))),N.Er,N.Ep.kp,N.Es⟩⟩
theorem eM:cp ["bounds","rows","columns","pairs","pair"] ["bounds","rows","columns"] (ae iI):=gs
def dE(K:QR)(a:Ad):QF K a 3 "settled_bounds" a.Ar a.As ["bounds","rows","columns"] 3:=⟨_,λP w mg base N=>⟨by
 have c:=(uk K a).2 P w base N;have b:=(ul K a).2 P w base N
 exact bj (k:=2) 3 5 _ N.Et eM rfl rfl λf A outer s H E d=>ad (cc (bo uv xU (vv 0) (wY)) (ak (aM (az (Ko c (d.mono (by decide)) (by rfl) N.Ee N.Ed.kp N.Ef dU (eg (vv 1) (vv 2)) (λδ β r e h=>by rw[(aN (aN B6)) δ β r e h];rfl))))) (bC))
   (ad (cc (lh (tz (bo (gG d) jv (cM N.Dw (ee (vv 0))) (vv 1)) (oB (oH (cg (ma rfl) xV (by rfl) N.Dq PyProof.Rows.Boot.«any» (ee (bq rfl (j1 ["pairs","columns"] ["pairs"] [2]) (bt (vv 0)) (λcl C g s H=>⟨(eo 0 g8),aY,λD=>aS rfl (jd (gG d) jv (cM N.Dw (ee (vv 0))) (vv 1)) rfl⟩) ar aA (λD=>aX)))))))) (ak (cR)) (bC))
   (ad (cJ aI (bS dz rfl (bt (vv 0)) (eo 3 eM.nd) (ak (cJ aI (bS dz rfl (bt (vv 3)) (eo 4 eM.nd) (ak (eU (cu (vc b d (ee (vv 4)))))))))))
   (ak (aM (az (bq rfl (j1 ["pairs"] ["pairs"] []) (bt (vv 0)) (λcl C g s H=>⟨(eo 0 g8),aY,λD=>aS rfl (bM cD iW (by rfl) N.Dx PyProof.Rows.Boot.«list» (ee (vv 0))) rfl⟩) ar aA (λD=>aX))))))),N.Eu,N.Et.kp,N.Ev⟩⟩
theorem fF:cp ["number","product","factor"] ["number"] (ae np):=gs
def jC(K:QR)(a:Ad):QF K a 2 "factorial" a.At a.Au ["number"] 1:=⟨_,λP w mg base N=>⟨by
 exact bj (k:=1) 1 3 _ N.Ew fF rfl rfl λb A outer s H E c=>ad (aF (fy 1 fF.nd (af)))
   (ad (cJ aI (bS dz rfl (uU (by rfl) N.D0 (eg (af) (aC aP bL (vv 0) (af)))) (eo 2 fF.nd) (ak (oV wr (lL (i:=1) fF.nd rfl (by first|exact S5 rfl|exact Ut rfl) (vv 2) ww)))))
   (ak (aM (az (vv 1))))),N.Ex,N.Ew.kp,N.Ey⟩⟩
theorem jK:cp ["parts","part","told"] ["parts"] (ae zh):=gs
def oX(K:QR)(a:Ad):QF K a 3 "ways" a.Av a.Aw ["parts"] 1:=⟨_,λP w mg base N=>⟨by
 have b:=(jC K a).2 P w base N
 exact bj (k:=2) 1 3 _ N.Ez jK rfl rfl λd A outer s H E c=>ad (cJ aI (bS dz rfl (bt (vv 0)) (eo 1 jK.nd) (ak (cc (bo kH nZ (vv 1) (af)) (ak (cR)) (bC)))))
   (ad (aF (fy 2 jK.nd (vc b c (ee (cg (BV rfl) M7 (by rfl) N.D6 PyProof.Rows.Boot.«sum» (ee (vv 0)))))))
   (ad (cJ aI (bS dz rfl (bt (vv 0)) (eo 1 jK.nd) (ak (oV ET (lL (i:=2) jK.nd rfl (by first|exact S5 rfl|exact Ut rfl) (vc b c (ee (vv 1))) Lm)))))
   (ak (aM (az (vv 2)))))),N.E2,N.Ez.kp,N.E3⟩⟩
theorem iG:cp ["one","other"] ["one","other"] (ae ji):=gs
def fG(K:QR)(a:Ad):QF K a 2 "common_factor" a.Ax a.Ay ["one","other"] 2:=⟨_,λP w mg base N=>⟨by
 exact bj (k:=1) 2 2 _ N.E4 iG rfl rfl λb A outer s H E c=>ad (vT dz (bo mI qz (vv 1) (af)) (ak (O7 (MD (i:=0) (j:=1) rfl iG.nd rfl rfl (by decide) rfl rfl (eg (vv 1) (aC iQ JS (vv 0) (vv 1))) rfl))))
   (ak (aM (az (vv 0)))),N.E5,N.E4.kp,N.E6⟩⟩
theorem q8:cp ["top","under","factor"] ["top","under"] (ae t8):=gs
def kx(K:QR)(a:Ad):QF K a 3 "lowest" a.Az a.A0 ["top","under"] 2:=⟨_,λP w mg base N=>⟨by
 have b:=(fG K a).2 P w base N
 exact bj (k:=2) 2 3 _ N.E7 q8 rfl rfl λc A outer s H E d=>ad (cc (bo kH nZ (vv 1) (af)) (ak (cR)) (bC))
   (ad (aF (fy 2 q8.nd (vc b d (eg (cg ou JW (by rfl) N.Dp PyProof.Rows.Boot.«abs» (ee (vv 0))) (vv 1)))))
   (ak (aM (az (bY (eg (aC kI pq (vv 0) (vv 2)) (aC kI pq (vv 1) (vv 2)))))))),N.E8,N.E7.kp,N.E9⟩⟩
theorem cm:cp ["rests","many","pairs","lows","tops","begun","row","fewest_behind","most_behind"] ["rests","many","pairs"] (ae oS):=gs
def kA(K:QR)(a:Ad):QF K a 2 "fillings" a.A1 a.A2 ["rests","many","pairs"] 3:=⟨_,λP w mg base N=>⟨by
 exact bj (k:=1) 3 9 _ N.Fa cm rfl rfl λc A outer s H E d=>ad (aF (fy 3 cm.nd (bq rfl (j1 ["low","high"] ["low","high"] []) (bt (vv 2)) (λcl C b s H=>⟨(bN rfl (au (eo 0 g8) (au (eo 1 g8) bz))),aY,λD=>aS rfl (vv 0) rfl⟩) (d9 (bi ar (bi ar dB)) (aZ (aZ cw))) (dZ (bc aA (bc aA dm))) (λD=>aX))))
   (ad (aF (fy 4 cm.nd (bq rfl (j1 ["rest","low","high"] ["rest","low","high"] []) (sI (by rfl) N.D8 (eg (vv 0) (vv 2))) (λcl C b s H=>⟨(bN rfl (au (eo 0 g8) (au (bN rfl (au (eo 1 g8) (au (eo 2 g8) bz))) bz))),aY,λD=>aS rfl (cg (rL rfl) JT (by rfl) N.Dz PyProof.Rows.Boot.«min» (eg (vv 0) (vv 2))) rfl⟩) (d9 (bi ar (bi (d9 (bi ar (bi ar dB)) (aZ (aZ cw))) dB)) (aZ (aZ cw))) (dZ (bc aA (bc (dZ (bc aA (bc aA dm))) dm))) (λD=>aX))))
   (ad (aF (fy 5 cm.nd (dR (ee (bY (eg (bY (jI)) (vv 1)))))))
   (ad (cJ aI (bS dz rfl (cj (by rfl) N.D0 (ee (cM N.Dw (ee (vv 0))))) (eo 6 cm.nd) (ad (aF (fy 7 cm.nd (f9 N.D6 (ee (vI (vv 3) (zW (aC aP bL (vv 6) (af))) (zX))))))
   (ad (aF (fy 8 cm.nd (f9 N.D6 (ee (vI (vv 4) (zW (aC aP bL (vv 6) (af))) (zX))))))
   (ak (zj (i:=5) cm.nd rfl (by first|exact S5 rfl|exact Ut rfl) rfl (j1 ["counts","left","count","lows","row","most_behind","tops","fewest_behind"] ["counts","left","count"] [3,6,8,4,7]) (bt (vv 5)) (λcl C b s H=>⟨(bN rfl (au (eo 0 g8) (au (eo 1 g8) bz))),aY,λD=>qt rfl rfl rfl (uU (by rfl) N.D0 (eg (cg (BX rfl) PJ (by rfl) N.Dy PyProof.Rows.Boot.«max» (eg (aO aq aR (vv 3) (vv 4)) (aC eW gu (vv 1) (vv 5)))) (aC aP bL (cg (rL rfl) JT (by rfl) N.Dz PyProof.Rows.Boot.«min» (eg (aO aq aR (vv 6) (vv 4)) (aC eW gu (vv 1) (vv 7)))) (af)))) (eo 2 g8) (aY) (aS rfl (bY (eg (aC aP bL (vv 0) (bY (ee (vv 2)))) (aC eW gu (vv 1) (vv 2)))) rfl)⟩) (d9 (bi ar (bi ar dB)) (aZ (aZ cw))) (dZ (bc aA (bc aA dm))) (λD=>Lg ar aA (aX))))))))
   (ak (aM (az (bq rfl (j1 ["counts","left"] ["counts","left"] []) (bt (vv 5)) (λcl C b s H=>⟨(bN rfl (au (eo 0 g8) (au (eo 1 g8) bz))),sO (bo (d7 d) fQ (vv 1) (af)),λD=>aS rfl (vv 0) rfl⟩) (d9 (bi ar (bi ar dB)) (aZ (aZ cw))) (dZ (bc aA (bc aA dm))) (λD=>aX)))))))),N.Fb,N.Fa.kp,N.Fc⟩⟩
theorem xl:cp ["rowsums","over"] ["rowsums","over"] (ae rb):=gs
def lI(K:QR)(a:Ad):QF K a 2 "need_of" a.A3 a.A4 ["rowsums","over"] 2:=⟨_,λP w mg base N=>⟨by
 exact bj (k:=1) 2 2 _ N.Fd xl rfl rfl λb A outer s H E c=>ak (aM (az (f9 N.D6 (ee (bq rfl (j1 ["row","rowsums"] ["row"] [0]) (bt (vv 1)) (λcl C d s H=>⟨(eo 0 g8),aY,λD=>aS rfl (aO aq aR (vv 1) (vv 0)) rfl⟩) ar aA (λD=>aX)))))),N.Fe,N.Fd.kp,N.Ff⟩⟩
theorem jL:cp ["columnsums","bounds","over","column","lows"] ["columnsums","bounds","over","column"] (ae kY):=gs
def cS(K:QR)(a:Ad):QF K a 2 "room_inside" a.A5 a.A6 ["columnsums","bounds","over","column"] 4:=⟨_,λP w mg base N=>⟨by
 exact bj (k:=1) 4 5 _ N.Fg jL rfl rfl λb A outer s H E c=>ad (zj (i:=4) jL.nd rfl (by first|exact S5 rfl|exact Ut rfl) rfl (j1 ["row","pairs","over","column"] ["row","pairs"] [2,3]) (BB (by rfl) N.Dt (ee (vv 1))) (λcl C d s H=>⟨(bN rfl (au (eo 0 g8) (au (eo 1 g8) bz))),sO (bo lN (EU (neg:=Qo)) (vv 0) (vv 2)),λD=>aS rfl (aO aq aR (aO aq aR (vv 1) (vv 3)) (af)) rfl⟩) (d9 (bi ar (bi ar dB)) (aZ (aZ cw))) (dZ (bc aA (bc aA dm))) (λD=>aX))
   (ak (aM (az (aC eW gu (aO aq aR (vv 0) (vv 3)) (f9 N.D6 (ee (vv 4))))))),N.Fh,N.Fg.kp,N.Fj⟩⟩
theorem qg:cp ["bounds","over","column"] ["bounds","over","column"] (ae kZ):=gs
def cT(K:QR)(a:Ad):QF K a 2 "room_beside" a.A7 a.A8 ["bounds","over","column"] 3:=⟨_,λP w mg base N=>⟨by
 exact bj (k:=1) 3 3 _ N.Fk qg rfl rfl λb A outer s H E c=>ak (aM (az (f9 N.D6 (ee (bq rfl (j1 ["row","bounds","column"] ["row"] [0,2]) (bt (vv 1)) (λcl C d s H=>⟨(eo 0 g8),aY,λD=>aS rfl (aO aq aR (aO aq aR (aO aq aR (vv 1) (vv 0)) (vv 2)) (af)) rfl⟩) ar aA (λD=>aX)))))),N.Fl,N.Fk.kp,N.Fm⟩⟩
theorem xk:cp ["columnsums","bounds","over","into"] ["columnsums","bounds","over","into"] (ae q9):=gs
def lH(K:QR)(a:Ad):QF K a 3 "room_of" a.A9 a.Ba ["columnsums","bounds","over","into"] 4:=⟨_,λP w mg base N=>⟨by
 have b:=(cS K a).2 P w base N;have c:=(cT K a).2 P w base N;exact bj (k:=2) 4 4 _ N.Fn xk rfl rfl λe A outer s H E d=>ak (aM (az (f9 N.D6 (ee (bq rfl (j1 ["column","into","columnsums","bounds","over"] ["column"] [3,0,1,2]) (cj (by rfl) N.D0 (ee (cM N.Dw (ee (vv 0))))) (λcl C f s H=>⟨(eo 0 g8),aY,λD=>aS rfl (LM (bo zR (EU (neg:=Qr)) (vv 0) (vv 1)) (vc b d (up (vv 2) (vv 3) (vv 4) (vv 0))) (vc c d (n_ (vv 3) (vv 4) (vv 0)))) rfl⟩) ar aA (λD=>aX)))))),N.Fo,N.Fn.kp,N.Fp⟩⟩
theorem tX:cp ["columnsums","bounds","over"] ["columnsums","bounds","over"] (ae ng):=gs
def jA(K:QR)(a:Ad):QF K a 3 "narrowest" a.Bb a.Bc ["columnsums","bounds","over"] 3:=⟨_,λP w mg base N=>⟨by
 have b:=(cS K a).2 P w base N;have c:=(cT K a).2 P w base N;exact bj (k:=2) 3 3 _ N.Fq tX rfl rfl λe A outer s H E d=>ak (aM (az (bq rfl (j1 ["column","columnsums","bounds","over"] ["column"] [0,1,2]) (cj (by rfl) N.D0 (ee (cM N.Dw (ee (vv 0))))) (λcl C f s H=>⟨(eo 0 g8),sO (bo kH nZ (vc b d (up (vv 1) (vv 2) (vv 3) (vv 0))) (vc c d (n_ (vv 2) (vv 3) (vv 0)))),λD=>aS rfl (vv 0) rfl⟩) ar aA (λD=>aX)))),N.Fs,N.Fq.kp,N.Ft⟩⟩
theorem im:cp ["many","told","number"] ["many"] (ae rf):=gs
def lJ(K:QR)(a:Ad):QF K a 2 "choices" a.Bd a.Be ["many"] 1:=⟨_,λP w mg base N=>⟨by
 exact bj (k:=1) 1 3 _ N.Fu im rfl rfl λb A outer s H E c=>ad (aF (fy 1 im.nd (dR (ee (dR (jI))))))
   (ad (cJ aI (bS dz rfl (cj (by rfl) N.D0 (ee (vv 0))) (eo 2 im.nd) (ak (aF (fy 1 im.nd (aC aP bL (vv 1) (bq rfl (j1 ["chosen","number"] ["chosen"] [2]) (bt (vv 1)) (λcl C d s H=>⟨(eo 0 g8),aY,λD=>aS rfl (aC aP bL (vv 0) (dR (ee (vv 1)))) rfl⟩) ar aA (λD=>aX))))))))
   (ak (aM (az (vv 1))))),N.Fv,N.Fu.kp,N.Fw⟩⟩
theorem iH:cp ["rowsums","columnsums","bounds","over","into"] ["rowsums","columnsums","bounds"] (ae nq):=gs
def eV(K:QR)(a:Ad):QF K a 4 "check_fit" a.Bf a.Bh ["rowsums","columnsums","bounds"] 3:=⟨_,λP w mg base N=>⟨by
 have c:=(lJ K a).2 P w base N;have b:=(jA K a).2 P w base N;have d:=(lI K a).2 P w base N;have e:=(lH K a).2 P w base N
 exact bj (k:=3) 3 5 _ N.Fy iH rfl rfl λg A outer s H E f=>ak (cJ aI (bS dz rfl (bt (vc c f (ee (cM N.Dw (ee (vv 0)))))) (eo 3 iH.nd) (ad (aF (fy 4 iH.nd (vc b f (n_ (vv 1) (vv 2) (vv 3)))))
   (ak (cc (bo mI qz (vc d f (eg (vv 0) (vv 3))) (vc e f (up (vv 1) (vv 2) (vv 3) (vv 4)))) (ak (cR)) (bC)))))),N.Fz,N.Fy.kp,N.F4⟩⟩
theorem eZ:cp ["rowsums","wide","many"] ["rowsums"] (ae lA):=gs
def iN(K:QR)(a:Ad):QF K a 2 "check_wide" a.Bi a.Bj ["rowsums"] 1:=⟨_,λP w mg base N=>⟨by
 exact bj (k:=1) 1 3 _ N.F5 eZ rfl rfl λb A outer s H E c=>ad (aF (fy 1 eZ.nd (af)))
   (ad (cJ aI (bS dz rfl (bt (vv 0)) (eo 2 eZ.nd) (ak (oV wr (lL (i:=1) eZ.nd rfl (by first|exact S5 rfl|exact Ut rfl) (aC aP bL (vv 2) (af)) ww)))))
   (ak (cc (bo mI qz (vv 1) (ld N.Ec)) (ak (cR)) (bC)))),N.F6,N.F5.kp,N.F7⟩⟩
theorem gB:cp ["rowsums","columnsums","bounds","settled"] ["rowsums","columnsums","bounds"] (ae ic):=gs
def db(K:QR)(a:Ad):QF K a 4 "settled_for_net" a.Bk a.Bl ["rowsums","columnsums","bounds"] 3:=⟨_,λP w mg base N=>⟨by
 have c:=(iO K a).2 P w base N;have b:=(dE K a).2 P w base N;have d:=(iN K a).2 P w base N
 exact bj (k:=3) 3 4 _ N.F8 gB rfl rfl λf A outer s H E e=>ad (eU (cu (vc c e (eg (vv 0) (vv 1)))))
   (ad (aF (fy 3 gB.nd (vc b e (n_ (vv 2) (cM N.Dw (ee (vv 0))) (cM N.Dw (ee (vv 1)))))))
   (ad (eU (cu (vc d e (ee (vv 0)))))
   (ak (aM (az (vv 3)))))),N.F9,N.F8.kp,N.Ga⟩⟩
theorem ly:cp ["rests","columnsums","bounds","column"] ["rests","columnsums","bounds","column"] (ae ie):=gs
def bQ(K:QR)(a:Ad):QF K a 3 "column_fillings" a.Bm a.Bn ["rests","columnsums","bounds","column"] 4:=⟨_,λP w mg base N=>⟨by
 have b:=(kA K a).2 P w base N;exact bj (k:=2) 4 4 _ N.Gb ly rfl rfl λc A outer s H E d=>ak (aM (az (vc b d (n_ (vv 0) (aO aq aR (vv 1) (vv 3)) (bq rfl (j1 ["pairs","column"] ["pairs"] [3]) (bt (vv 2)) (λcl C e s H=>⟨(eo 0 g8),aY,λD=>aS rfl (aO aq aR (vv 0) (vv 1)) rfl⟩) ar aA (λD=>aX)))))),N.Gc,N.Gb.kp,N.Gd⟩⟩
theorem oN:cp ["rests","counts"] ["rests","counts"] (ae jM):=gs
def cr(K:QR)(a:Ad):QF K a 2 "rests_behind" a.Bo a.Bp ["rests","counts"] 2:=⟨_,λP w mg base N=>⟨by
 exact bj (k:=1) 2 2 _ N.Ge oN rfl rfl λb A outer s H E c=>ak (aM (az (bM dL jW (by rfl) N.D7 PyProof.Rows.Boot.«tuple» (ee (bq rfl (j1 ["rest","count"] ["rest","count"] []) (sI (by rfl) N.D8 (eg (vv 0) (vv 1))) (λcl C d s H=>⟨(bN rfl (au (eo 0 g8) (au (eo 1 g8) bz))),aY,λD=>aS rfl (aC eW gu (vv 0) (vv 1)) rfl⟩) (d9 (bi ar (bi ar dB)) (aZ (aZ cw))) (dZ (bc aA (bc aA dm))) (λD=>aX)))))),N.Gf,N.Ge.kp,N.Gg⟩⟩
theorem bP:cp ["rowsums","columnsums","bounds","here","told","column","behind"] ["rowsums","columnsums","bounds"] (ae iJ):=gs
def fc(K:QR)(a:Ad):QF K a 4 "nodes_by_level" a.Bq a.Br ["rowsums","columnsums","bounds"] 3:=⟨_,λP w mg base N=>⟨by
 have c:=(cr K a).2 P w base N;have b:=(bQ K a).2 P w base N
 exact bj (k:=3) 3 7 _ N.Gh bP rfl rfl λe A outer s H E d=>ad (aF (fy 3 bP.nd (dR (ee (bM dL jW (by rfl) N.D7 PyProof.Rows.Boot.«tuple» (ee (vv 0)))))))
   (ad (Jz (fy 4 bP.nd (gF (ee (vv 3)))))
   (ad (cJ aI (bS dz rfl (cj (by rfl) N.D0 (ee (cM N.Dw (ee (vv 1))))) (eo 5 bP.nd) (ad (aF (fy 6 bP.nd (CV (by rfl) N.D4 rfl (j1 ["rests","counts","columnsums","bounds","column"] ["rests","counts"] [1,2,5]) (bt (vv 3)) (λcl C f s H=>⟨(eo 0 g8),aY,λD=>qt rfl rfl rfl (bt (vc b d (up (vv 0) (vv 2) (vv 3) (vv 4)))) (eo 1 g8) (aY) (uu (sK d) rfl (vc c d (eg (vv 0) (vv 1))) rfl)⟩) ar aA (λD=>nX ar aA (EQ)))))
   (ad (JA (cu (xz VM Vy Vz lP (pv 4) (ee (vv 6)))))
   (ak (aF (fy 3 bP.nd (vv 6))))))))
   (ak (aM (az (vv 4)))))),N.Gi,N.Gh.kp,N.Gj⟩⟩
theorem bH:cp ["rests","filled","behind","tables","dealings","counts","tables_behind","dealings_behind"] ["rests","filled","behind"] (ae k4):=gs
def hX(K:QR)(a:Ad):QF K a 4 "node_counts" a.Bs a.Bt ["rests","filled","behind"] 3:=⟨_,λP w mg base N=>⟨by
 have b:=(cr K a).2 P w base N;have c:=(oX K a).2 P w base N
 exact bj (k:=3) 3 8 _ N.Gk bH rfl rfl λe A outer s H E d=>ad (aF (fy 3 bH.nd (af)))
   (ad (aF (fy 4 bH.nd (af)))
   (ad (cJ aI (bS dz rfl (bt (vv 1)) (eo 5 bH.nd) (ad (ku (gM (bh aI (bh aI fj)) (bf (bf dY))) (dy (aO (uN (Ty d)) JV (vv 2) (vc b d (eg (vv 0) (vv 5)))) (bN rfl (au (eo 6 bH.nd) (au (eo 7 bH.nd) bz)))))
   (ad (oV wu (lL (i:=3) bH.nd rfl (by first|exact S5 rfl|exact Ut rfl) (vv 6) AX))
   (ak (oV wu (lL (i:=4) bH.nd rfl (by first|exact S5 rfl|exact Ut rfl) (aC bp cb (vc c d (ee (vv 5))) (vv 7)) AX)))))))
   (ak (aM (az (bY (eg (vv 3) (vv 4)))))))),N.Gm,N.Gk.kp,N.Gn⟩⟩
theorem bv:cp ["rowsums","columnsums","bounds","levels","last","here","told","level","behind"] ["rowsums","columnsums","bounds"] (ae jh):=gs
def dS(K:QR)(a:Ad):QF K a 5 "counted_nodes" a.Bu a.Bv ["rowsums","columnsums","bounds"] 3:=⟨_,λP w mg base N=>⟨by
 have d:=(fc K a).2 P w base N;have c:=(bQ K a).2 P w base N;have e:=(hX K a).2 P w base N
 exact bj (k:=4) 3 9 _ N.Go bv rfl rfl λh A outer s H E f=>ad (aF (fy 3 bv.nd (vc d f (n_ (vv 0) (vv 1) (vv 2)))))
   (ad (aF (fy 4 bv.nd (cM N.Dw (ee (vv 1)))))
   (ad (zi (kb:=Qr) (i:=5) bv.nd rfl (by first|exact S5 rfl|exact Ut rfl) rfl (j1 ["rests"] ["rests"] []) (bt (aO aq aR (vv 3) (vv 4))) (λcl C g s H=>⟨(eo 0 g8),aY,λD=>kE (b:=Qr) (sK f) rfl (vv 0) (bY (eg (af) (af))) rfl⟩) ar aA (λD=>nY))
   (ad (Jz (fy 6 bv.nd (gF (ee (vv 5)))))
   (ad (cJ aI (bS dz rfl (FC (by rfl) N.D3 (by rfl) N.D0 (ee (vv 4))) (eo 7 bv.nd) (ad (aF (fy 8 bv.nd (vv 5)))
   (ad (zi (kb:=Qr) (i:=5) bv.nd rfl (by first|exact S5 rfl|exact Ut rfl) rfl (j1 ["rests","columnsums","bounds","level","behind"] ["rests"] [1,2,7,8]) (bt (aO aq aR (vv 3) (vv 7))) (λcl C g s H=>⟨(eo 0 g8),aY,λD=>kE (b:=Qr) (sK f) rfl (vv 0) (vc e f (n_ (vv 0) (vc c f (up (vv 0) (vv 1) (vv 2) (vv 3))) (vv 4))) rfl⟩) ar aA (λD=>nY))
   (ak (JA (cu (xz VM Vy Vz lP (pv 6) (ee (vv 5))))))))))
   (ak (aM (az (Km (kb:=Qo) rfl (j1 ["level","nodes","rests","counts"] ["level","nodes","rests","counts"] []) (BB (by rfl) N.Dt (ee (OQ (vv 6) (v_un LQ PH (af))))) (λcl C g s H=>⟨(bN rfl (au (eo 0 g8) (au (eo 1 g8) bz))),aY,λD=>qt rfl rfl rfl (wz (vv 1)) (bN rfl (au (eo 2 g8) (au (eo 3 g8) bz))) (aY) (kE (b:=Qo) (sK f) rfl (bY (eg (vv 0) (vv 2))) (vv 3) rfl)⟩) (d9 (bi ar (bi ar dB)) (aZ (aZ cw))) (dZ (bc aA (bc aA dm))) (λD=>nX (d9 (bi ar (bi ar dB)) (aZ (aZ cw))) (dZ (bc aA (bc aA dm))) (nY)))))))))),N.Gp,N.Go.kp,N.Gq⟩⟩
theorem qi:cp ["self"] ["self"] (ae k7):=gs
def h9(K:QR)(a:Ad):QM K a 2 a.Db a.Dc ["self"] 1:=⟨_,λP w mg base N=>by
 exact bj (k:=1) 1 1 _ N.Jc qi rfl rfl λb A outer s H E c=>ak (aM (az (bM cD iW (by rfl) N.Dx PyProof.Rows.Boot.«list» (ee (ki N.Jo N.Jt (vv 0))))))⟩
theorem m8:cp ["self"] ["self"] (ae iK):=gs
def ff(K:QR)(a:Ad):QM K a 2 a.Dd a.Df ["self"] 1:=⟨_,λP w mg base N=>by
 exact bj (k:=1) 1 1 _ N.Jf m8 rfl rfl λb A outer s H E c=>ak (aM (az (bM cD iW (by rfl) N.Dx PyProof.Rows.Boot.«list» (ee (ki N.Jo N.Jq (vv 0))))))⟩
theorem e9:cp ["net","cell","row","column"] ["net","cell"] (ae jj):=gs
def dT(K:QR)(a:Ad):QF K a 4 "check_cell_of" a.Bw a.Bx ["net","cell"] 2:=⟨_,λP w mg base N=>⟨by
 have c:=(h9 K a).2 P w base N;have b:=(ff K a).2 P w base N;have d:=(iP K a).2 P w base N
 exact bj (k:=3) 2 4 _ N.Gr e9 rfl rfl λf A outer s H E e=>ad (ku (gM (bh aI (bh aI fj)) (bf (bf dY))) (dy (vv 1) (bN rfl (au (eo 2 e9.nd) (au (eo 3 e9.nd) bz)))))
   (ak (eU (cu (vc d e (up (vv 2) (vv 3) (cM N.Dw (ee (jJ N.Jo N.Jd c (e.mono (by decide)) (dh.nil N.Je) dU (vv 0) rfl))) (cM N.Dw (ee (jJ N.Jo N.Jg b (e.mono (by decide)) (dh.nil N.Jh) dU (vv 0) rfl)))))))),N.Gs,N.Gr.kp,N.Gu⟩⟩
theorem jz:cp ["cell","level","counts","row","column"] ["cell","level","counts"] (ae oU):=gs
def kB(K:QR)(a:Ad):QF K a 2 "count_in" a.By a.Bz ["cell","level","counts"] 3:=⟨_,λP w mg base N=>⟨by
 exact bj (k:=1) 3 5 _ N.Gx jz rfl rfl λb A outer s H E c=>ad (ku (gM (bh aI (bh aI fj)) (bf (bf dY))) (dy (vv 0) (bN rfl (au (eo 3 jz.nd) (au (eo 4 jz.nd) bz)))))
   (ak (aM (az (LM (bo (d7 c) fQ (vv 4) (vv 1)) (aO aq aR (vv 2) (vv 3)) (af))))),N.Gy,N.Gx.kp,N.Gz⟩⟩
theorem gC:cp ["found","here","there","many","dealings","ones","others","products"] ["found","here","there","many"] (ae t7):=gs
def nV(K:QR)(a:Ad):QF K a 2 "put_to" a.B0 a.B5 ["found","here","there","many"] 4:=⟨_,λP w mg base N=>⟨by
 exact bj (k:=1) 4 8 _ N.G0 gC rfl rfl λb A outer s H E c=>ad (ku (gM (bh aI (bh aI (bh aI (bh aI fj)))) (bf (bf (bf (bf dY))))) (dy (vv 0) (bN rfl (au (eo 4 gC.nd) (au (eo 5 gC.nd) (au (eo 6 gC.nd) (au (eo 7 gC.nd) bz)))))))
   (ak (aM (az (bY (up (aC bp cb (vv 3) (vv 4)) (aC bp cb (vv 3) (aC aP bL (vv 5) (aC bp cb (vv 1) (vv 4)))) (aC bp cb (vv 3) (aC aP bL (vv 6) (aC bp cb (vv 2) (vv 4)))) (aC bp cb (vv 3) (aC aP bL (aC aP bL (aC aP bL (vv 7) (aC bp cb (vv 1) (vv 6))) (aC bp cb (vv 2) (vv 5))) (aC bp cb (aC bp cb (vv 1) (vv 2)) (vv 4))))))))),N.G1,N.G0.kp,N.G2⟩⟩
theorem rX:cp ["found","more"] ["found","more"] (ae lz):=gs
def iM(K:QR)(a:Ad):QF K a 2 "sums_added" a.B7 a.B8 ["found","more"] 2:=⟨_,λP w mg base N=>⟨by
 exact bj (k:=1) 2 2 _ N.G3 rX rfl rfl λb A outer s H E c=>ak (aM (az (bM dL jW (by rfl) N.D7 PyProof.Rows.Boot.«tuple» (ee (bq rfl (j1 ["one","other"] ["one","other"] []) (sI (by rfl) N.D8 (eg (vv 0) (vv 1))) (λcl C d s H=>⟨(bN rfl (au (eo 0 g8) (au (eo 1 g8) bz))),aY,λD=>aS rfl (aC aP bL (vv 0) (vv 1)) rfl⟩) (d9 (bi ar (bi ar dB)) (aZ (aZ cw))) (dZ (bc aA (bc aA dm))) (λD=>aX)))))),N.G4,N.G3.kp,N.G5⟩⟩
theorem nN:cp ["self","level","rests"] ["self","level","rests"] (ae jk):=gs
def jp(K:QR)(a:Ad):QM K a 2 a.Di a.Dj ["self","level","rests"] 3:=⟨_,λP w mg base N=>by
 exact bj (k:=1) 3 3 _ N.Jl nN rfl rfl λb A outer s H E c=>ak (aM (az (IR (Ty c) (ki N.Jo N.Jr (vv 0)) (eg (bY (eg (vv 1) (vv 2))) (bY (eg (af) (af)))))))⟩
theorem tZ:cp ["self","level","rests"] ["self","level","rests"] (ae nu):=gs
def jD(K:QR)(a:Ad):QM K a 4 a.Dg a.Dh ["self","level","rests"] 3:=⟨_,λP w mg base N=>by
 have b:=(bQ K a).2 P w base N;have d:=(cr K a).2 P w base N;have c:=(jp K a).2 P w base N
 exact bj (k:=3) 3 3 _ N.Ji tZ rfl rfl λg A outer s H E e=>ad (cc (lh (tz (bo (we (Ty e)) PF (bY (eg (vv 1) (vv 2))) (ki N.Jo N.Jr (vv 0))) (oB (bo (d7 e) fQ (vv 1) (cM N.Dw (ee (ki N.Jo N.Jq (vv 0)))))))) (ak (aM (az (dR (jI))))) (bC))
   (ak (aM (az (bq rfl (j1 ["counts","self","level","rests"] ["counts"] [0,1,2]) (bt (vc b e (up (vv 2) (ki N.Jo N.Jq (vv 0)) (ki N.Jo N.Js (vv 0)) (vv 1)))) (λcl C i s H=>⟨(eo 0 g8),sO (bo mI qz (aO aq aR (yL N.Jo N.Jm c (e.mono (by decide)) (dh.nil N.Jn) sC (vv 1) (eg (aC aP bL (vv 2) (af)) (vc d e (eg (vv 3) (vv 0)))) (λδ β r f h=>by rw[(aN (aN B6)) δ β r f h];rfl)) (af)) (af)),λD=>aS rfl (vv 0) rfl⟩) ar aA (λD=>aX)))))⟩
theorem bV:cp ["net","one","other","level","sums","behind","rests","found","counts","node","more"] ["net","one","other","level","sums"] (ae kX):=gs
def hV(K:QR)(a:Ad):QF K a 5 "sums_behind" a.Ca a.Cb ["net","one","other","level","sums"] 5:=⟨_,λP w mg base N=>⟨by
 have f:=(jD K a).2 P w base N;have d:=(cr K a).2 P w base N;have c:=(kB K a).2 P w base N;have i:=(oX K a).2 P w base N;have g:=(nV K a).2 P w base N;have e:=(iM K a).2 P w base N
 exact bj (k:=4) 5 11 _ N.G6 bV rfl rfl λm A outer s H E j=>ad (O8 (fy 5 bV.nd (ut (b:=Qr))))
   (ad (cJ (gM (bh aI (bh aI fj)) (bf (bf dY))) (bS dz rfl (wz (vv 4)) (bN rfl (au (eo 6 bV.nd) (au (eo 7 bV.nd) bz))) (ak (cJ aI (bS dz rfl (bt (yL N.Jo N.Jj f (j.mono (by decide)) (dh.nil N.Jk) dU (vv 0) (eg (vv 3) (vv 6)) (λδ β r l h=>by rw[(aN (aN B6)) δ β r l h];rfl))) (eo 8 bV.nd) (ad (aF (fy 9 bV.nd (vc d j (eg (vv 6) (vv 8)))))
   (ad (aF (fy 10 bV.nd (vc g j (up (vv 7) (vc c j (n_ (vv 1) (vv 3) (vv 8))) (vc c j (n_ (vv 2) (vv 3) (vv 8))) (vc i j (ee (vv 8)))))))
   (ak (Mj (dy (vc e j (eg (IR (Ty j) (vv 5) (eg (vv 9) (bY (up (af) (af) (af) (af))))) (vv 10))) (jS (pv 5) (vv 9) (tW (Ty j)))))))))))))
   (ak (aM (az (vv 5))))),N.G7,N.G6.kp,N.G8⟩⟩
theorem cI:cp ["net","one","other","sums","level"] ["net","one","other"] (ae gE):=gs
def cX(K:QR)(a:Ad):QF K a 6 "sums_over_tables" a.Cc a.Cd ["net","one","other"] 3:=⟨_,λP w mg base N=>⟨by
 have c:=(h9 K a).2 P w base N;have d:=(ff K a).2 P w base N;have e:=(hV K a).2 P w base N
 exact bj (k:=5) 3 5 _ N.G9 cI rfl rfl λg A outer s H E f=>ad (aF (fy 3 cI.nd (Kn (b:=Qr) (Ty f) (bM dL jW (by rfl) N.D7 PyProof.Rows.Boot.«tuple» (ee (jJ N.Jo N.Jd c (f.mono (by decide)) (dh.nil N.Je) dU (vv 0) rfl))) (bY (up (af) (af) (af) (af))))))
   (ad (cJ aI (bS dz rfl (cj (by rfl) N.D0 (ee (cM N.Dw (ee (jJ N.Jo N.Jg d (f.mono (by decide)) (dh.nil N.Jh) dU (vv 0) rfl))))) (eo 4 cI.nd) (ak (aF (fy 3 cI.nd (vc e f (bU (vv 0) (bU (vv 1) (bU (vv 2) (bU (vv 4) (bU (vv 3) (jI))))))))))))
   (ak (aM (az (aO (uN (Ty f)) JV (vv 3) (bM dL jW (by rfl) N.D7 PyProof.Rows.Boot.«tuple» (ee (bq rfl (j1 ["row"] ["row"] []) (bt (jJ N.Jo N.Jd c (f.mono (by decide)) (dh.nil N.Je) dU (vv 0) rfl)) (λcl C h s H=>⟨(eo 0 g8),aY,λD=>aS rfl (af) rfl⟩) ar aA (λD=>aX))))))))),N.Ha,N.G9.kp,N.Hb⟩⟩
theorem ix:cp ["net","row","column","cell","dealings","ones","others","products"] ["net","row","column"] (ae zm):=gs
def oY(K:QR)(a:Ad):QF K a 7 "mean" a.Cf a.Cg ["net","row","column"] 3:=⟨_,λP w mg base N=>⟨by
 have c:=(dT K a).2 P w base N;have b:=(cX K a).2 P w base N;have d:=(kx K a).2 P w base N
 exact bj (k:=6) 3 8 _ N.Hc ix rfl rfl λf A outer s H E e=>ad (aF (fy 3 ix.nd (bY (eg (vv 1) (vv 2)))))
   (ad (eU (cu (vc c e (eg (vv 0) (vv 3)))))
   (ad (ku (gM (bh aI (bh aI (bh aI (bh aI fj)))) (bf (bf (bf (bf dY))))) (dy (vc b e (n_ (vv 0) (vv 3) (vv 3))) (bN rfl (au (eo 4 ix.nd) (au (eo 5 ix.nd) (au (eo 6 ix.nd) (au (eo 7 ix.nd) bz)))))))
   (ak (aM (az (vc d e (eg (vv 5) (vv 4)))))))),N.Hd,N.Hc.kp,N.He⟩⟩
theorem d6:cp ["net","one","other","dealings","ones","others","products"] ["net","one","other"] (ae nc):=gs
def gr(K:QR)(a:Ad):QF K a 7 "pair_mean" a.Ch a.Ci ["net","one","other"] 3:=⟨_,λP w mg base N=>⟨by
 have b:=(dT K a).2 P w base N;have c:=(cX K a).2 P w base N;have d:=(kx K a).2 P w base N
 exact bj (k:=6) 3 7 _ N.Hf d6 rfl rfl λf A outer s H E e=>ad (eU (cu (vc b e (eg (vv 0) (vv 1)))))
   (ad (eU (cu (vc b e (eg (vv 0) (vv 2)))))
   (ad (ku (gM (bh aI (bh aI (bh aI (bh aI fj)))) (bf (bf (bf (bf dY))))) (dy (vc c e (n_ (vv 0) (vv 1) (vv 2))) (bN rfl (au (eo 3 d6.nd) (au (eo 4 d6.nd) (au (eo 5 d6.nd) (au (eo 6 d6.nd) bz)))))))
   (ak (aM (az (vc d e (eg (vv 6) (vv 3)))))))),N.Hg,N.Hf.kp,N.Hh⟩⟩
theorem zg:cp ["_law_found","_law_due"] ["_law_found","_law_due"] (ae ub):=gs
def gn(K:QR)(a:Ad)(b:List D->M D):G:=
  aG (ss (u4 (aQ sH (ac (ag 1) (ac (aQ jt (ac (fC (.ty "list")) (ac (fC (.ty "tuple")) (ax)))) (ax))))) (aG (ss (qF (fB (f2 (kJ) (aQ iZ (ac (ag 1) (ac (fC (.ty "list")) (ax)))) (aQ iZ (ac (ag 0) (ac (fC (.ty "list")) (ax)))))) (fB (f2 (kJ) (aQ iZ (ac (ag 1) (ac (fC (.ty "tuple")) (ax)))) (aQ iZ (ac (ag 0) (ac (fC (.ty "tuple")) (ax))))))) (jE (fC (.bl Qr))) (gNil))
  (aG (ss (fB (f2 (kJ) (aQ gl (ac (ag 0) (ax))) (aQ gl (ac (ag 1) (ax))))) (jE (fC (.bl Qr))) (gNil))
  (jE (f2 (Tm Qo) (fC (.bl Qr)) (cK 2 [] (xI (ac (ag 0) (ac (ag 1) (ax)))) (J_ (e8 (iv 0) (e8 (iv 1) kj))) (λ_=>M.ret Qo) (nj (bF b (ac (ag 0) (ac (ag 1) (ax)))))))))) (gNil))
  (aG (ss (fB (f2 (x6) (ag 1) (fC .non))) (jE (f2 (x6) (ag 0) (fC .non))) (gNil))
  (aG (ss (qF (fB (f2 (kJ) (aQ iZ (ac (ag 1) (ac (fC (.ty "str")) (ax)))) (aQ iZ (ac (ag 0) (ac (fC (.ty "str")) (ax)))))) (fB (f2 (kJ) (aQ iZ (ac (ag 1) (ac (fC (.ty "bool")) (ax)))) (aQ iZ (ac (ag 0) (ac (fC (.ty "bool")) (ax))))))) (jE (fC (.bl Qr))) (gNil))
  (jE (yo (aQ sH (ac (ag 0) (ac (aQ jt (ac (fC (.ty "int")) (ac (fC (.ty "str")) (ax)))) (ax)))) (f2 (gq) (ag 0) (ag 1))))))
def c8(K:QR)(a:Ad):Nat->List D->M D
 |0=>λ_=>M.fail
 |n+1=>fX 2 (gn K a (c8 K a n))
theorem o8(N:u_ K mg a):∀n,fw P w K mg base (g_ P w) (n+1) a.Cn a.Co ["_law_found","_law_due"] (zv K 2 (c8 K a n))
 |0=>⟨λvs H Q E h=>h.1,λA outer s H args us vs Q E b g i r h=>by
  obtain⟨_,F,ds,β,_,_,j,β1,e,_⟩:=h;cases e⟩
 |n+1=>by
  have c:=o8 N n;unfold c8;exact bj (k:=n+1) 2 2 (gn K a (c8 K a n)) N.Ho zg rfl rfl λf A outer s H E b=>ad (cc (oH (cg pT AN (by rfl) N.Dv PyProof.Rows.Boot.«isinstance» (eg (vv 1) (bY (eg (q_ (d:= .ty "list") (cU (v:= .ty "list") (by rfl) N.Dx PyProof.Rows.Boot.«list» rfl) (λ_ _=>rfl)) (q_ (d:= .ty "tuple") (cU (v:= .ty "tuple") (by rfl) N.D7 PyProof.Rows.Boot.«tuple» rfl) (λ_ _=>rfl))))))) (ad (cc (lh (tz (bo (gG b) jv (lf N.Dv (eg (vv 1) (q_ (d:= .ty "list") (cU (v:= .ty "list") (by rfl) N.Dx PyProof.Rows.Boot.«list» rfl) (λ_ _=>rfl)))) (lf N.Dv (eg (vv 0) (q_ (d:= .ty "list") (cU (v:= .ty "list") (by rfl) N.Dx PyProof.Rows.Boot.«list» rfl) (λ_ _=>rfl))))) (oB (bo (gG b) jv (lf N.Dv (eg (vv 1) (q_ (d:= .ty "tuple") (cU (v:= .ty "tuple") (by rfl) N.D7 PyProof.Rows.Boot.«tuple» rfl) (λ_ _=>rfl)))) (lf N.Dv (eg (vv 0) (q_ (d:= .ty "tuple") (cU (v:= .ty "tuple") (by rfl) N.D7 PyProof.Rows.Boot.«tuple» rfl) (λ_ _=>rfl)))))))) (ak (aM (az (tE)))) (bC))
   (ad (cc (bo (gG b) jv (cM N.Dw (ee (vv 0))) (cM N.Dw (ee (vv 1)))) (ak (aM (az (tE)))) (bC))
   (ak (aM (az (jd lN (EU (neg:=Qo)) (tE) (bq rfl (j1 ["_law_one","_law_other"] ["_law_one","_law_other"] []) (sI (by rfl) N.D8 (eg (vv 0) (vv 1))) (λcl C l s H=>⟨(bN rfl (au (eo 0 g8) (au (eo 1 g8) bz))),aY,λD=>aS rfl (yM c (b.mono (Qz _)) (by rfl) N.Hq N.Ho.kp N.Hr sC (eg (vv 0) (vv 1)) (aN (aN B6))) rfl⟩) (d9 (bi ar (bi ar dB)) (aZ (aZ cw))) (dZ (bc aA (bc aA dm))) (λD=>aX)))))))) (bC))
   (ad (cc (bo uv xU (vv 1) (wY)) (ak (aM (az (jd uv xU (vv 0) (wY))))) (bC))
   (ad (cc (lh (tz (bo (gG b) jv (lf N.Dv (eg (vv 1) (q_ (d:= .ty "str") (cU (v:= .ty "str") (by rfl) N.D5 PyProof.Rows.Boot.«str» rfl) (λ_ _=>rfl)))) (lf N.Dv (eg (vv 0) (q_ (d:= .ty "str") (cU (v:= .ty "str") (by rfl) N.D5 PyProof.Rows.Boot.«str» rfl) (λ_ _=>rfl))))) (oB (bo (gG b) jv (lf N.Dv (eg (vv 1) (q_ (d:= .ty "bool") (cU (v:= .ty "bool") (by rfl) N.Dr PyProof.Rows.Boot.«bool» rfl) (λ_ _=>rfl)))) (lf N.Dv (eg (vv 0) (q_ (d:= .ty "bool") (cU (v:= .ty "bool") (by rfl) N.Dr PyProof.Rows.Boot.«bool» rfl) (λ_ _=>rfl)))))))) (ak (aM (az (tE)))) (bC))
   (ak (aM (az (OT (cg pT AN (by rfl) N.Dv PyProof.Rows.Boot.«isinstance» (eg (vv 0) (bY (eg (q_ (d:= .ty "int") (cU (v:= .ty "int") (by rfl) N.Du PyProof.Rows.Boot.«int» rfl) (λ_ _=>rfl)) (q_ (d:= .ty "str") (cU (v:= .ty "str") (by rfl) N.D5 PyProof.Rows.Boot.«str» rfl) (λ_ _=>rfl)))))) (OR (jd (d7 b) fQ (vv 0) (vv 1)))))))))
theorem zS(N:u_ K mg a):FB P w K mg base 7 "_law_same" a.Cn a.Co ["_law_found","_law_due"] 2 (c8 K a 5):=⟨(o8 P w base N 5).mono (by decide),N.Hq,N.Ho.kp,N.Hr⟩
theorem gD:cp ["_law_bag_here","_law_block","_law_columns","_law_things","_law_grid_here","_law_thing","_law_at","_law_to"] ["_law_bag_here","_law_block","_law_columns","_law_things"] (ae ud):=gs
def lY(K:QR)(a:Ad):G:=
  aG (oh 4 (jZ 1 [2] (cY ge (ac (ag 1) (ax))) (iv 0) (λ_=>M.ret Qo) (vm (xD (ac (fC (.int 0)) (ax)) (ag 1)))))
  (aG (qC (cY ge (ac (ag 3) (ax))) (sgN 5) (aG (fV 6 (bF bZ (ac (ag 0) (ac (ag 1) (ax)))))
  (aG (fV 7 (bF bZ (ac (ag 0) (ac (ag 2) (ax)))))
  (pI 4 (ag 6) (ag 7) (f2 fZ (f2 jn (f2 jn (ag 4) (ag 6)) (ag 7)) (fC (.int 1)))))))
  (mU 4))
def d8(K:QR)(a:Ad):List D->M (List (List D)):=kW 8 (lY K a)
theorem xC(N:u_ K mg a):fw P w K mg base (g_ P w) 3 a.Cp a.Cq ["_law_bag_here","_law_block","_law_columns","_law_things"] (spG K 4 (d8 K a)):=by
 have b:=gQ P w base N;unfold d8
 exact qD (k:=2) 4 8 (lY K a) N.Ht gD rfl rfl λd A outer s H E c=>ad (Mi (i:=4) gD.nd rfl (by first|exact S5 rfl|exact Ut rfl) rfl (j1 ["_law_row","_law_columns"] ["_law_row"] [2]) (cj (by rfl) N.D0 (ee (vv 1))) (λcl C e s H=>⟨(eo 0 g8),aY,λD=>aS rfl (Pp (ee (af)) (vv 1)) rfl⟩) ar aA (λD=>Lb))
   (ad (cJ aI (bS dz rfl (cj (by rfl) N.D0 (ee (vv 3))) (eo 5 gD.nd) (ad (aF (fy 6 gD.nd (vc b c (eg (vv 0) (vv 1)))))
   (ad (aF (fy 7 gD.nd (vc b c (eg (vv 0) (vv 2)))))
   (ak (zn (dy (aC aP bL (aO aq aR (aO aq aR (vv 4) (vv 6)) (vv 7)) (af)) (jS (ir eK (pv 4) (vv 6) (λ_ _=>rfl)) (vv 7) iF))))))))
   (ak (zk (az (pv 4)))))
theorem je:cp ["_law_bag_here","_law_grid_here","_law_lot","_law_first"] ["_law_bag_here"] (ae ua):=gs
def lX(K:QR)(a:Ad):G:=
  aG (oh 1 Nl)
  (aG (qC (eP (f2 jn (aQ de (ac (aQ de (ac (fC (.int 40)) (ax))) (ac (aQ de (ac (fC (.int 39)) (ac (fC (.int 1)) (ax)))) (ac (aQ de (ac (fC (.int 30)) (ac (fC (.int 10)) (ax)))) (ac (aQ de (ac (fC (.int 20)) (ac (fC (.int 20)) (ax)))) (ac (aQ de (ac (fC (.int 24)) (ac (fC (.int 15)) (ax)))) (ac (aQ de (ac (fC (.int 13)) (ac (fC (.int 27)) (ax)))) (ax)))))))) (bF bZ (ac (ag 0) (ac (fC (.int 6)) (ax)))))) (sgN 2) (aG (fV 3 (bF bZ (ac (ag 0) (ac (f2 fZ (ag 2) (fC (.int 1))) (ax)))))
  (pK 1 (sD P_ (ac (ag 3) (ac (f2 DG (ag 2) (ag 3)) (ax)))))))
  (mU 1))
def gL(K:QR)(a:Ad):List D->M (List (List D)):=kW 4 (lX K a)
theorem xB(N:u_ K mg a):fw P w K mg base (g_ P w) 3 a.Cr a.Cs ["_law_bag_here"] (spG K 1 (gL K a)):=by
 have b:=gQ P w base N;unfold gL;refine qD (k:=2) 1 4 (lX K a) N.Hw je rfl rfl λe A outer s H E c=>?_;refine ad (xm (fy 1 je.nd P4)) ?_;refine ad ?_ ?_
 rotate_left
 exact(ak (zk (az (pv 1))));refine cJ (tgg:=dW 2) ?_ ?_;exact aI;generalize d:Expr.Subscript _ _ _=q;refine bS dz rfl ?_ (eo 2 je.nd) ?_ ?_;subst d;refine bt ?_;refine OS ?_ ?_;refine dR ?_;refine bU ?_ ?_;refine dR ?_;exact ee af;refine bU ?_ ?_;refine dR ?_;exact eg af af;refine bU ?_ ?_;refine dR ?_;exact eg af af;refine bU ?_ ?_;refine dR ?_;exact eg af af;refine bU ?_ ?_;refine dR ?_;exact eg af af;refine bU ?_ ?_;refine dR ?_;exact eg af af;exact jI;exact(vc b c (eg (vv 0) (af)));exact ad (aF (fy 3 je.nd (vc b c (eg (vv 0) (aC aP bL (vv 2) (af)))))) (ak (Ml (cu (xz VM Vy Vz lP (pv 1) (dN (Pq (eg (vv 3) (aC eW gu (vv 2) (vv 3)))) fI)))));subst d;intro _;rfl
theorem il:cp ["_law_bag_here","_law_way","_law_block","_law_columns"] ["_law_bag_here"] (ae re):=gs
def kQ(K:QR)(a:Ad):G:=
  aG (ss (fB (f2 (gq) (bF bZ (ac (ag 0) (ac (fC (.int 6)) (ax)))) (fC (.int 0)))) (gN (i6 (gL K a) (ac (ag 0) (ax)))) (gNil))
  (aG (fV 1 (bF bZ (ac (ag 0) (ac (fC (.int 5)) (ax)))))
  (aG (ss (fB (f2 (gq) (ag 1) (fC (.int 0)))) (gN (i6 (d8 K a) (ac (ag 0) (ac (fC (.int 2)) (ac (f2 fZ (fC (.int 2)) (bF bZ (ac (ag 0) (ac (fC (.int 5)) (ax))))) (ac (bF bZ (ac (ag 0) (ac (fC (.int 25)) (ax)))) (ax))))))) (gNil))
  (aG (ss (fB (f2 (gq) (ag 1) (fC (.int 1)))) (gN (i6 (d8 K a) (ac (ag 0) (ac (fC (.int 4)) (ac (f2 fZ (fC (.int 2)) (bF bZ (ac (ag 0) (ac (fC (.int 2)) (ax))))) (ac (bF bZ (ac (ag 0) (ac (fC (.int 9)) (ax)))) (ax))))))) (gNil))
  (aG (fV 2 (f2 fZ (fC (.int 2)) (bF bZ (ac (ag 0) (ac (fC (.int 2)) (ax))))))
  (aG (fV 3 (f2 fZ (fC (.int 2)) (bF bZ (ac (ag 0) (ac (fC (.int 3)) (ax))))))
  (gN (i6 (d8 K a) (ac (ag 0) (ac (ag 2) (ac (ag 3) (ac (bF bZ (ac (ag 0) (ac (fC (.int 12)) (ax)))) (ax))))))))))))
def iu(K:QR)(a:Ad):List D->M (List (List D)):=kW 4 (kQ K a)
theorem vy(N:u_ K mg a):fw P w K mg base (g_ P w) 4 a.Ct a.Cu ["_law_bag_here"] (spG K 1 (iu K a)):=by
 have b:=gQ P w base N;have e:=xB P w base N;have c:=xC P w base N;unfold iu
 exact qD (k:=3) 1 4 (kQ K a) N.Hz il rfl rfl λf A outer s H E d=>ad (cc (bo (d7 d) fQ (vc b d (eg (vv 0) (af))) (af)) (ak (mB (az (lZ e (d.mono (by decide)) (by rfl) N.Hx N.Hw.kp N.Hy dU (ee (vv 0)) (aN B6))))) (bC))
   (ad (aF (fy 1 il.nd (vc b d (eg (vv 0) (af)))))
   (ad (cc (bo (d7 d) fQ (vv 1) (af)) (ak (mB (az (lZ c (d.mono (by decide)) (by rfl) N.Hu N.Ht.kp N.Hv dU (up (vv 0) (af) (aC aP bL (af) (vc b d (eg (vv 0) (af)))) (vc b d (eg (vv 0) (af)))) (aN (aN (aN (aN B6)))))))) (bC))
   (ad (cc (bo (d7 d) fQ (vv 1) (af)) (ak (mB (az (lZ c (d.mono (by decide)) (by rfl) N.Hu N.Ht.kp N.Hv dU (up (vv 0) (af) (aC aP bL (af) (vc b d (eg (vv 0) (af)))) (vc b d (eg (vv 0) (af)))) (aN (aN (aN (aN B6)))))))) (bC))
   (ad (aF (fy 2 il.nd (aC aP bL (af) (vc b d (eg (vv 0) (af))))))
   (ad (aF (fy 3 il.nd (aC aP bL (af) (vc b d (eg (vv 0) (af))))))
   (ak (mB (az (lZ c (d.mono (by decide)) (by rfl) N.Hu N.Ht.kp N.Hv dU (up (vv 0) (vv 2) (vv 3) (vc b d (eg (vv 0) (af)))) (aN (aN (aN (aN B6)))))))))))))
theorem vx:cp ["_law_block"] ["_law_block"] (ae oQ):=gs
def o3(K:QR)(a:Ad):QF K a 2 "_law_turned" a.Cv a.Cw ["_law_block"] 1:=⟨_,λP w mg base N=>⟨by
 exact bj (k:=1) 1 1 _ N.Id vx rfl rfl λb A outer s H E d=>ak (aM (az (bq rfl (j1 ["_law_to","_law_block"] ["_law_to"] [0]) (cj (by rfl) N.D0 (ee (cM N.Dw (ee (aO aq aR (vv 0) (af)))))) (λcl C c s H=>⟨(eo 0 g8),aY,λD=>aS rfl (bq rfl (j1 ["_law_row","_law_to"] ["_law_row"] [0]) (bt (vv 1)) (λcl C c s H=>⟨(eo 0 g8),aY,λD=>aS rfl (aO aq aR (vv 0) (vv 1)) rfl⟩) ar aA (λD=>aX)) rfl⟩) ar aA (λD=>aX)))),N.Ie,N.Id.kp,N.Ig⟩⟩
theorem tY:cp ["_law_grid_here"] ["_law_grid_here"] (ae nh):=gs
def jB(K:QR)(a:Ad):QF K a 2 "_law_rowsums" a.Cy a.Cz ["_law_grid_here"] 1:=⟨_,λP w mg base N=>⟨by
 exact bj (k:=1) 1 1 _ N.Ih tY rfl rfl λb A outer s H E c=>ak (aM (az (bq rfl (j1 ["_law_row"] ["_law_row"] []) (bt (vv 0)) (λcl C d s H=>⟨(eo 0 g8),aY,λD=>aS rfl (f9 N.D6 (ee (vv 0))) rfl⟩) ar aA (λD=>aX)))),N.Ii,N.Ih.kp,N.Ij⟩⟩
theorem oP:cp ["_law_grid_here"] ["_law_grid_here"] (ae jN):=gs
def gf(K:QR)(a:Ad):QF K a 3 "_law_columnsums" a.C0 a.C2 ["_law_grid_here"] 1:=⟨_,λP w mg base N=>⟨by
 have b:=(o3 K a).2 P w base N;exact bj (k:=2) 1 1 _ N.Ik oP rfl rfl λc A outer s H E d=>ak (aM (az (bq rfl (j1 ["_law_column"] ["_law_column"] []) (bt (vc b d (ee (vv 0)))) (λcl C e s H=>⟨(eo 0 g8),aY,λD=>aS rfl (f9 N.D6 (ee (vv 0))) rfl⟩) ar aA (λD=>aX)))),N.Il,N.Ik.kp,N.Im⟩⟩
theorem kr:cp ["_law_one","_law_other","_law_kept"] ["_law_one","_law_other"] (ae vU):=gs
def qo(K:QR)(a:Ad):QF K a 2 "_law_gcd" a.C3 a.C4 ["_law_one","_law_other"] 2:=⟨_,λP w mg base N=>⟨by
 exact bj (k:=1) 2 3 _ N.Io kr rfl rfl λb A outer s H E c=>ad (vT dz (bo mI qz (vv 1) (af)) (ad (aF (fy 2 kr.nd (aC iQ JS (vv 0) (vv 1))))
   (ad (aF (fy 0 kr.nd (vv 1)))
   (ak (aF (fy 1 kr.nd (vv 2)))))))
   (ak (aM (az (vv 0)))),N.Ip,N.Io.kp,N.Iq⟩⟩
theorem m9:cp ["_law_top","_law_under","_law_both"] ["_law_top","_law_under"] (ae oR):=gs
def kz(K:QR)(a:Ad):QF K a 3 "_law_lowest" a.C5 a.C6 ["_law_top","_law_under"] 2:=⟨_,λP w mg base N=>⟨by
 have b:=(qo K a).2 P w base N
 exact bj (k:=2) 2 3 _ N.Ir m9 rfl rfl λc A outer s H E d=>ad (aF (fy 2 m9.nd (vc b d (eg (cg ou JW (by rfl) N.Dp PyProof.Rows.Boot.«abs» (ee (vv 0))) (vv 1)))))
   (ak (aM (az (bY (eg (aC kI pq (vv 0) (vv 2)) (aC kI pq (vv 1) (vv 2))))))),N.Iu,N.Ir.kp,N.Iw⟩⟩
theorem oO:cp ["_law_bag_here","_law_grid_here","_law_at"] ["_law_bag_here","_law_grid_here"] (ae rc):=gs
def jo(K:QR)(a:Ad):QF K a 3 "_law_place" a.C7 a.C8 ["_law_bag_here","_law_grid_here"] 2:=⟨_,λP w mg base N=>⟨by
 have b:=gQ P w base N
 exact bj (k:=2) 2 3 _ N.Ix oO rfl rfl λd A outer s H E c=>ad (aF (fy 2 oO.nd (vc b c (eg (vv 0) (cM N.Dw (ee (vv 1)))))))
   (ak (aM (az (bY (eg (vv 2) (vc b c (eg (vv 0) (cM N.Dw (ee (aO aq aR (vv 1) (af))))))))))),N.Iy,N.Ix.kp,N.Iz⟩⟩
theorem jg:cp ["self","rowsums","columnsums","bounds","settled"] ["self","rowsums","columnsums","bounds"] (ae jO):=gs
def uR(K:QR)(a:Ad):IP:=
  mS (fV 4 (bF (db K a).1 (ac (ag 1) (ac (ag 2) (ac (ag 3) (ax))))))
  (mS (pJ (bF (eV K a).1 (ac (ag 1) (ac (ag 2) (ac (ag 4) (ax))))))
  (jw (aQ sG (ac (ag 1) (ax)))
  (jw (aQ sG (ac (ag 2) (ax)))
  (jw (ag 4)
  (jw (bF (dS K a).1 (ac (ag 1) (ac (ag 2) (ac (ag 4) (ax)))))
  (J1))))))
def pf(K:QR)(a:Ad):List D->M (List D):=mT 5 (uR K a)
theorem K2(N:u_ K mg a):fw P w K mg base (g_ P w) 6 a.C9 a.Da ["self","rowsums","columnsums","bounds"] (spI K a.Af ["row_list","column_list","pairs","counted"] 3 (pf K a)):=by
 have c:=(dS K a).2 P w base N;have d:=(eV K a).2 P w base N;have b:=(db K a).2 P w base N;unfold pf
 exact Lu (k:=5) 3 5 (uR K a) N.I9 jg rfl rfl λf A outer s H E e=>J3 (aF (fy 4 jg.nd (vc b e (n_ (vv 1) (vv 2) (vv 3)))))
   (J3 (eU (cu (vc d e (n_ (vv 1) (vv 2) (vv 4)))))
   (sJ N.Jo N.Jt (by decide) (by decide) (o6 (pv 0) (bM cD iW (by rfl) N.Dx PyProof.Rows.Boot.«list» (ee (vv 1))) rfl)
   (sJ N.Jo N.Jq (by decide) (by decide) (o6 (pv 0) (bM cD iW (by rfl) N.Dx PyProof.Rows.Boot.«list» (ee (vv 2))) rfl)
   (sJ N.Jo N.Js (by decide) (by decide) (o6 (pv 0) (vv 4) rfl)
   (sJ N.Jo N.Jr (by decide) (by decide) (o6 (pv 0) (vc c e (n_ (vv 1) (vv 2) (vv 4))) rfl)
   (PU))))))
theorem bA:cp ["_law_script","_law_bag_here","_law_grid_here","_law_one","_law_other","_law_rowsums_here","_law_columnsums_here","_law_things","_law_net","_law_alike","_law_down","_law_across","_law_top","_law_more","_law_total","_law_at","_law_part","_law_first"] ["_law_script"] (ae mC):=gs
def oZ(K:QR)(a:Ad):{g:G//∀(P:Rc) (w:Ro) {mg:Rl->Option Qv} (base:RQ) (N:u_ K mg a) (f:Qs) (p:Qv) (A:RG) (outer:List XH) (s:QA) (H:Hp) (E:XK),ej 7 (A.deeper (PyProof.Rows.envOfC "law" (ae mC) s.heap.objs.size f p))->PSs (fi (g_ P w) P w K mg base ["_law_script","_law_bag_here","_law_grid_here","_law_one","_law_other","_law_rowsums_here","_law_columnsums_here","_law_things","_law_net","_law_alike","_law_down","_law_across","_law_top","_law_more","_law_total","_law_at","_law_part","_law_first"] "law" (ae mC) f p A outer s H E) (ci mC).tail (tG K H g (λ_=>E))}:=⟨_,λP w mg base N f p A outer s H E j=>by
 have l:=vy P w base N;have c:=(jB K a).2 P w base N;have i:=(jo K a).2 P w base N;have m:=gQ P w base N;have e:=(gf K a).2 P w base N;have n:=K2 P w base N;have d:=(gr K a).2 P w base N;have b:=(kz K a).2 P w base N;have k:=zS P w base N;have o:=(oY K a).2 P w base N
 exact ad (xm (fy 2 bA.nd (lZ l (j.mono (by decide)) (by rfl) N.Ia N.Hz.kp N.Ib dU (ee (vv 1)) (aN B6))))
   (ad (cc (bo kH nZ (f9 N.D6 (ee (vc c j (ee (vv 2))))) (af)) (ak (zn (dy (aC aP bL (aO aq aR (aO aq aR (vv 2) (af)) (af)) (af)) (jS (ir eK (pv 2) (af) (λ_ _=>rfl)) (af) iF)))) (bC))
   (ue 2 (ad (aF (fy 3 bA.nd (vc i j (eg (vv 1) (vv 2)))))
   (ue 2 (ad (aF (fy 4 bA.nd (vc i j (eg (vv 1) (vv 2)))))
   (ad (cc (bo (d7 j) fQ (vc m j (eg (vv 1) (af))) (af)) (ak (aF (fy 4 bA.nd (vv 3)))) (bC))
   (ue 2 (ad (aF (fy 5 bA.nd (vc c j (ee (vv 2)))))
   (ue 2 (ad (aF (fy 6 bA.nd (vc e j (ee (vv 2)))))
   (ad (aF (fy 7 bA.nd (f9 N.D6 (ee (vv 5)))))
   (ad (aF (fy 8 bA.nd (LL N.Ja n (j.mono (by decide)) (by rfl) N.Jp N.Jb dU (eg (bM cD iW (by rfl) N.Dx PyProof.Rows.Boot.«list» (ee (vv 5))) (bM cD iW (by rfl) N.Dx PyProof.Rows.Boot.«list» (ee (vv 6)))) (λδ β r q h=>by rw[(aN (aN B6)) δ β r q h];rfl))))
   (ad (aF (fy 9 bA.nd (dR (eg (bM rN AO (by rfl) N.Du PyProof.Rows.Boot.«int» (ee (jd (d7 j) fQ (aO aq aR (vv 3) (af)) (aO aq aR (vv 4) (af))))) (bM rN AO (by rfl) N.Du PyProof.Rows.Boot.«int» (ee (jd (d7 j) fQ (aO aq aR (vv 3) (af)) (aO aq aR (vv 4) (af)))))))))
   (ad (aF (fy 10 bA.nd (aC bp cb (aO aq aR (vv 5) (aO aq aR (vv 3) (af))) (aC eW gu (aO aq aR (vv 5) (aO aq aR (vv 4) (af))) (aO aq aR (vv 9) (af))))))
   (ad (aF (fy 11 bA.nd (aC bp cb (aO aq aR (vv 6) (aO aq aR (vv 3) (af))) (aC eW gu (aO aq aR (vv 6) (aO aq aR (vv 4) (af))) (aO aq aR (vv 9) (af))))))
   (ad (aF (fy 12 bA.nd (aC bp cb (vv 10) (vv 11))))
   (ad (cc (bo (d7 j) fQ (vv 3) (vv 4)) (ad (aF (fy 13 bA.nd (aC bp cb (aO aq aR (vv 5) (aO aq aR (vv 3) (af))) (aO aq aR (vv 6) (aO aq aR (vv 3) (af))))))
   (ak (aF (fy 12 bA.nd (aC aP bL (vv 12) (aC bp cb (vv 13) (aC eW gu (vv 7) (af)))))))) (bC))
   (ad (cc (oI (oH (vc k j (eg (vc d j (n_ (vv 8) (vv 3) (vv 4))) (vc b j (eg (vv 12) (aC bp cb (vv 7) (aC eW gu (vv 7) (af))))))))) (ak (aM (az (tE)))) (bC))
   (ad (aF (fy 14 bA.nd (bY (eg (af) (af)))))
   (ue 2 (ad (cJ aI (bS dz rfl (cj (by rfl) N.D0 (ee (cM N.Dw (ee (vv 2))))) (eo 15 bA.nd) (ad (aF (fy 16 bA.nd (vc d j (n_ (vv 8) (vv 3) (bY (eg (vv 15) (aO aq aR (vv 4) (af))))))))
   (ad (aF (fy 12 bA.nd (aC aP bL (aC bp cb (aO aq aR (vv 14) (af)) (aO aq aR (vv 16) (af))) (aC bp cb (aO aq aR (vv 16) (af)) (aO aq aR (vv 14) (af))))))
   (ak (aF (fy 14 bA.nd (vc b j (eg (vv 12) (aC bp cb (aO aq aR (vv 14) (af)) (aO aq aR (vv 16) (af))))))))))))
   (ad (aF (fy 17 bA.nd (vc o j (n_ (vv 8) (aO aq aR (vv 3) (af)) (aO aq aR (vv 3) (af))))))
   (ak (aM (az (vc k j (eg (vv 14) (vc b j (eg (aC bp cb (aO aq aR (vv 17) (af)) (aO aq aR (vv 6) (aO aq aR (vv 4) (af)))) (aO aq aR (vv 17) (af)))))))))))))))))))))))))))))))⟩
theorem MW{f:Qs}{o:Q2}(F:d5 K "law" "law" mC f o)(N:u_ K mg a)(T:∀β:Bg,β.ok->∃d,(oZ K a).1 [Qh,on (.sh .bag),Qh,Qh,Qh,Qh,Qh,Qh,Qh,Qh,Qh,Qh,Qh,Qh,Qh,Qh,Qh,Qh] β=on (.rt (.bl Qo),d)):
  fw P w K mg base (g_ P w) 8 f o ["_law_script"] (IX K):=by
 have c:=EB P w base N;refine F.okE (k:=7) bA (λvs H Q E h=>?_) (λg A outer s H vs Q E p h=>?_)
 .obtain⟨a,ns,rfl,_⟩:=h
  rfl
 .obtain⟨a1,ns,rfl,r,q,k⟩:=h
  have rest:=(oZ K a).2 P w base N f g A outer s H E p;refine⟨_,cz (rest:=(ci mC).tail) (fy 1 bA.nd (mG c (p.mono (by decide)) rfl N.Hj N.Hi.kp N.Hk .nil sC (dN (pv 0) fI))) rest,?_⟩;refine⟨_,rfl,a1,ns,rfl,r,λb l C i j t u=>?_⟩;obtain⟨β,ok,m⟩:=LC (K:=K) (a:=a1) (n:=["_law_script","_law_bag_here","_law_grid_here","_law_one","_law_other","_law_rowsums_here","_law_columnsums_here","_law_things","_law_net","_law_alike","_law_down","_law_across","_law_top","_law_more","_law_total","_law_at","_law_part","_law_first"].length-2) u i j t;obtain⟨d,e⟩:=T β ok;exact⟨_,_,_,β,_,d,m,e,λv I y s fr B=>by cases B.bl;exact k y⟩
end
end Law
namespace Law
open PySem L2 L2.Pu L2.Nt
section
variable{K:QR}{a:Ad}{β:Bg}
abbrev tN(l:List Nat):D:=k_ (nI l)
abbrev eN(b:List Nat×Nat):D:= .tup [tN b.1,.int (b.2:Int)]
abbrev pN(p:Nat×Nat):D:=pD ((p.1:Int),(p.2:Int))
def D2(r:List Nat):Prop:=1<=r.length/\r.length<=4/\r.sum<=40/\pr (r.map (·+1))<=500
theorem oA{f g:FD}{δ:Dn}{x y:D}{ds es:List D}(b:f δ β=on (.ok x,β))(c:g δ β=on (.ok y,β))(d:eY x=on ds)(e:eY y=on es):xI (ac f (ac g ax)) δ β=on (.ok (dP ds es),β):=bG (aa b (aa c rfl)) (by
 unfold CQ;simp only[d,e,UN,Sh])
theorem rg2I{lo:Nat}{h:Int}(b:-1000<=h)(c:h<=1000)(d:lo<=1000):nS [.int (lo:Int),.int h]=on ((Qy (h-lo).toNat).map λi=>D.int ((lo+i:Nat):Int)):=by
 have e:nS [.int (lo:Int),.int h]=on (aU lo (h-lo).toNat):=by
  simp only[nS];rw[Qt (by simp only[Q9,Rm];omega)]
 rw[e];exact RE on (Ra λi _=>by congr 1)
theorem addT{l:List Nat}{c:Nat}(h:l.length<=100):fZ (tN l) (.tup [.int (c:Int)])=on (tN (l++[c])):=by
 cases l with
 |nil=>rfl
 |cons x l=>
  show(if _ then _ else _)=_;rw[Qt (br (by simp at h⊢;omega))];simp[k_]
theorem y6(l:List Nat)(k:Nat):ik [.lst (((nI l).map D.int).drop k)]=on (.int (((l.drop k).sum:Nat):Int)):=by
 rw[<-UT,<-UT];exact(eF _).trans (by rw[<-fJ])
theorem yV:∀{r:List Nat} {ps:List (Nat×Nat)},(r.zip ps).map (λq=>D.int (V0 (q.1:Int) (q.2.2:Int)))=(nI (lj ps r)).map D.int
 |[],_=>by cases ‹List (Nat×Nat)›<;>rfl
 |_::_,[]=>rfl
 |x::r,p::ps=>by
  have e:=yV (r:=r) (ps:=ps);show _::_=D.int ((V0 x p.2:Nat):Int)::(nI (lj ps r)).map D.int;rw[<-e];show D.int (V0 (x:Int) (p.2:Int))::_=_;rw[show V0 (x:Int) (p.2:Int)=((V0 x p.2:Nat):Int) by omega];rfl
theorem yT:∀{ps:List (Nat×Nat)} {r:List Nat} {k:Nat} (b:k<ps.length) (c:k<r.length),(lj ps r)[k]?=on (V0 r[k] ps[k].2)
 |p::ps,x::r,0,_,_=>rfl
 |p::ps,x::r,k+1,b,c=>yT (k:=k) (by simpa using b) (by simpa using c)
abbrev uZ(ps:List (Nat×Nat))(r:List Nat)(c:Nat)(st:D)(b d e:Option Sl):Ds:=[on (.sh (tN r)),on (.sh (.int (c:Int))),on (.sh (.lst (ps.map pN))),on (.sh (.lst ((nI (lg ps)).map .int))),on (.sh (.lst ((nI (lj ps r)).map .int))),on (.sh st),b,d,e]
theorem No{ps:List (Nat×Nat)}{r:List Nat}{c:Nat}(H:D2 r)(v:ps.length=r.length)(A:∀p∈ps,p.1<=40/\p.2<=40)(hc:c<=40):(kA K a).1 [tN r,.int (c:Int),.lst (ps.map pN)] β=on (.ok (.lst ((vB ps r c).map tN)),β):=by
 obtain⟨_,R,hs,T⟩:=H;have I:r.length<=QN:=br (by omega);have o:∀k,k<=r.length->(l_ ps r c k).length<=QN:=λk m=>br (Qw (vO c k m) (Qw (xy r k) (by omega)));unfold kA
 dsimp only
 refine aJ ?_;refine aD (d:= .lst ((nI (lg ps)).map .int)) (β1:=β) ?_ ?_
 .have:=bw (nv:=2) (c_:=[]) (it:=eP (ag 2)) (tg:=J_ (e8 (iv 0) (e8 (iv 1) kj))) (f:=ag 0) (δ:=vw (uZ ps r c .non Qh Qh Qh)) (β:=β) ps pN (λp=> .int (p.1:Int)) rfl (λx _=>⟨[on (.int (x.1:Int)),on (.int (x.2:Int))],rfl,rfl⟩) (by rw[v];exact I)
  refine Eq.trans this ?_;unfold lg;rw[QG,QG];rfl
 refine aD (d:= .lst ((nI (lj ps r)).map .int)) (β1:=β) ?_ ?_
 .rw[<-yV]
  exact bw (nv:=3) (c_:=[]) (it:=xI (ac (ag 0) (ac (ag 2) (ax)))) (tg:=J_ (e8 (iv 0) (e8 (J_ (e8 (iv 1) (e8 (iv 2) kj))) kj))) (f:=aQ uE (ac (ag 0) (ac (ag 2) (ax)))) (δ:=vw (uZ ps r c .non Qh Qh Qh)) (β:=β) (r.zip ps) (λq=>D.tup [.int (q.1:Int),pN q.2]) _ (by
   rw[<-nF (λx:Nat=>D.int (x:Int)) pN];refine oA (x:=tN r) (y:= .lst (ps.map pN)) rfl rfl ?_ rfl;show on _=on _;rw[QG];rfl) (λq _=>⟨[on (.int (q.1:Int)),on (.int (q.2.1:Int)),on (.int (q.2.2:Int))],rfl,aj rfl M0⟩) (br (by rw[Xz];omega))
 refine aD (d:= .lst ((l_ ps r c 0).map eN)) (β1:=β) (aj (aa (aj (aa (aj rfl rfl) (aa rfl rfl)) fA) rfl) xR) ?_;refine da (ds:=aU 0 r.length) (β1:=β) (bG (aa (aj (z:= .int (r.length:Int)) rfl (by show on (D.int _)=_;rw[Qi,Qi])) rfl) (xr (by omega) (by omega))) (λk δ C=>β=C/\∃B t u,δ=uZ ps r c (.lst ((l_ ps r c k).map eN)) B t u) ⟨rfl,Qh,Qh,Qh,rfl⟩ ?_ ?_
 .rintro k d δ _ hd ⟨rfl,B,t,u,rfl⟩
  obtain⟨m,rfl⟩:=sy hd;have j:k<ps.length:=by omega
  have J:ps[k]?=on ps[k]:=Ql j;have b40:=A _ (Rp j);have U:(lg ps).sum<=160:=by
   have g:∀l:List (Nat×Nat),(∀p∈l,p.1<=40/\p.2<=40)->(lg l).sum<=40*l.length:=λl=>by
    induction l with
    |nil=>intro _;exact Qz _
    |cons p l ih=>
     intro h;have:=ih λq v=>h q (Qk _ v);have:=(h p Qq).1;simp only[lg,QB,QT,QP]at*;omega
   have:=g ps A;omega
  have F:∀(l:List Nat) (n:Nat),(l.drop n).sum<=l.sum:=λl n=>by
   conv=>rhs;rw[<-T3 n l,XB]
   omega
  have L:=F (lg ps) (k+1);have N:=Qw (F (lj ps r) (k+1)) yS;refine⟨uZ ps r c (.lst ((l_ ps r c k).map eN)) (on (.sh (.int (k:Int)))) t u,rfl,?_⟩;refine aD (d:= .int ((((lg ps).drop (k+1)).sum:Nat):Int)) (β1:=β) (aj (aa (qR rfl (dq rfl rfl rfl)) rfl) ((RE (λl=>ik [.lst l]) (vd (k:=k+1))).trans (y6 _ _))) ?_;refine aD (d:= .int ((((lj ps r).drop (k+1)).sum:Nat):Int)) (β1:=β) (aj (aa (qR rfl (dq rfl rfl rfl)) rfl) ((RE (λl=>ik [.lst l]) (vd (k:=k+1))).trans (y6 _ _))) ?_;refine ao (aD (d:= .lst ((l_ ps r c (k+1)).map eN)) (β1:=β) ?_ (bx ⟨rfl,_,_,_,rfl⟩));have e:(l_ ps r c (k+1)).map eN=(l_ ps r c k).flatMap λb=>(nxB r[k] ps[k] ((lg ps).drop (k+1)).sum ((lj ps r).drop (k+1)).sum b).map eN:=by
   show((l_ ps r c k).flatMap _).map eN=_;rw[Tz,bR m,bR j]
  rw[e];refine Lz (l_ ps r c k) eN _ rfl (λb A=>⟨[on (tN b.1),on (.int (b.2:Int)),Qh,on (.lst ((nI (lg ps)).map .int)),on (.int (k:Int)),on (.int ((((lj ps r).drop (k+1)).sum:Nat):Int)),on (.lst ((nI (lj ps r)).map .int)),on (.int ((((lg ps).drop (k+1)).sum:Nat):Int))],rfl,?_⟩) (by
   rw[<-e,Qi];exact o (k+1) m)
  obtain⟨b2,b1⟩:=y9 ps r c k b A;have W:=fm (Rp m);unfold nxB;generalize ((lg ps).drop (k+1)).sum=few at*;generalize ((lj ps r).drop (k+1)).sum=most at*;refine(zY (Qy (V0 (V0 r[k] ps[k].2+few) b.2+1-few-max ps[k].1 (b.2-most))) (λi=>D.int ((max ps[k].1 (b.2-most)+i:Nat):Int)) (λi=>eN (b.1++[max ps[k].1 (b.2-most)+i],b.2-(max ps[k].1 (b.2-most)+i))) ?_ ?_).trans (by rw[QG];rfl)
  .refine bG (as:=[.int ((max ps[k].1 (b.2-most):Nat):Int),.int (V0 ((V0 r[k] ps[k].2:Nat):Int) ((b.2:Int)-few)+1)]) (aa (aj (aa (dq rfl rfl (cV (d:= .int (ps[k].1:Int)) ?_)) (aa (dq rfl rfl rfl) rfl)) (max2.trans ?_)) (aa (dq (aj (aa (dq rfl rfl (cV (d:= .int ((V0 r[k] ps[k].2:Nat):Int)) ?_)) (aa (dq rfl rfl rfl) rfl)) M0) rfl rfl) rfl)) ((rg2I (by omega) (by omega) (by omega)).trans ?_)
   .unfold lg
    rw[Qu,Qu,Qu,J];rfl
   .rw[show max (ps[k].1:Int) ((b.2:Int)-(most:Int))=((max ps[k].1 (b.2-most):Nat):Int) by omega]
   .rw[Qu,Qu,yT j m];rfl
   .rw[show(V0 ((V0 r[k] ps[k].2:Nat):Int) ((b.2:Int)-few)+1-((max ps[k].1 (b.2-most):Nat):Int)).toNat=V0 (V0 r[k] ps[k].2+few) b.2+1-few-max ps[k].1 (b.2-most) by omega]
  .refine λi O=>⟨[on (tN b.1),on (.int (b.2:Int)),on (.int ((max ps[k].1 (b.2-most)+i:Nat):Int)),on (.lst ((nI (lg ps)).map .int)),on (.int (k:Int)),on (.int (most:Int)),on (.lst ((nI (lj ps r)).map .int)),on (.int (few:Int))],rfl,aj (aa (dq rfl (aj rfl rfl) (addT (l:=b.1) (c:=max ps[k].1 (b.2-most)+i) (by omega))) (aa (dq rfl rfl rfl) rfl)) (fA.trans ?_)⟩
   have Q:=QW.mp O;show on (D.tup [_,.int _])=on (D.tup [_,.int _]);rw[show(b.2:Int)-((max ps[k].1 (b.2-most)+i:Nat):Int)=((b.2-(max ps[k].1 (b.2-most)+i):Nat):Int) by omega]
 .rintro δ _ ⟨rfl,B,t,u,rfl⟩
  rw[lF];have h:=kT (nv:=2) (c_:=[]) (it:=eP (ag 5)) (tg:=J_ (e8 (iv 0) (e8 (iv 1) kj))) (tt:=fB (f2 (gq) (ag 1) (fC (.int 0)))) (f:=ag 0) (δ:=hW (uZ ps r c (.lst ((l_ ps r c r.length).map eN)) B t u)) (β:=β) (l_ ps r c r.length) eN (λb=>tN b.1) (λb=>decide ((b.2:Int)=0)) rfl (λb _=>⟨[on (tN b.1),on (.int (b.2:Int))],rfl,io (dq rfl rfl eq_int),λ_=>rfl⟩) (o _ (Qz _));refine ao (aT h ⟨rfl,?_⟩);rw[<-Kx v,QG];rfl
theorem vj{α:Type}{tg:m4}{b:FL}{δ:Dn}{β:Bg}(u:α->D)(o:α->List D):∀(xs:List α),(∀x∈xs,∃δ1,tg (u x) δ=on δ1/\b δ1 β=on (.ok (o x),β))->o0 tg (λ_=>M.ret Qo) b (xs.map u) δ β=on (.ok (xs.flatMap o),β)
 |[],_=>rfl
 |x::xs,h=>by
  obtain⟨δ1,c,d⟩:=h x Qq;have e:=vj u o xs λy f=>h y (Qk _ f);rw[QB,o0];simp only[c,M.bind,M.ret,reduceIte,d,e,Sb]
theorem kU{α:Type}{nv:Nat}{c_:List Nat}{it:FL}{tg:m4}{b:FL}{c:List D->Option D}{δ:Dn}{β:Bg}{d:D}(xs:List α)(u:α->D)(o:α->List D)(e:it δ β=on (.ok (xs.map u),β))
  (f:∀x∈xs,∃δ1,tg (u x) (l0 nv c_ δ)=on δ1/\b δ1 β=on (.ok (o x),β)) (g:c (xs.flatMap o)=on d):gR nv c_ it tg (λ_=>M.ret Qo) b c δ β=on (.ok d,β):=by
 unfold gR;rw[e];simp only[vj u o xs f,g,Sh]
theorem Ps{α:Type}{it:FL}{tg:m4}{b:FL}{δ:Dn}{β:Bg}(xs:List α)(u:α->D)(o:α->List D)(c:it δ β=on (.ok (xs.map u),β))(d:∀x∈xs,∃δ1,tg (u x) δ=on δ1/\b δ1 β=on (.ok (o x),β)):cNx it tg (λ_=>M.ret Qo) b δ β=on (.ok (xs.flatMap o),β):=by
 unfold cNx M.bind;rw[c];exact vj u o xs d
noncomputable abbrev pV(B:List (List (Nat×Nat))):LP:=B.map λrow=>row.map λp=>((p.1:Int),(p.2:Int))
abbrev B3(B:List (List (Nat×Nat))):D:=fY (pV B)
noncomputable def oj(B:List (List (Nat×Nat)))(k:Nat):List (Nat×Nat):=B.map λrow=>row.getD k (0,0)
def BOk(r c:Nat)(B:List (List (Nat×Nat))):Prop:=i4 r c B/\∀row∈B,∀p∈row,p.1<=p.2/\p.2<=40
def wB(B:List (List (Nat×Nat)))(cs:List Nat):Wy:=λk r=>vB (oj B k) r (cs.getD k 0)
theorem ON(B:List (List (Nat×Nat)))(cs:List Nat):Wi cs (wB B cs):=λk r=>Zi
theorem BOk.col{r c k:Nat}{B:List (List (Nat×Nat))}(h:BOk r c B)(e:k<c):(oj B k).length=r/\∀p∈oj B k,p.1<=40/\p.2<=40:=by
 refine⟨by unfold oj;rw[Qi,h.1.1],λp d=>?_⟩;obtain⟨row,b,rfl⟩:=QC.mp d;have l:=h.1.2 row b;rw[bR (by omega)];have:=h.2 row b _ (Rp (show k<row.length by omega));omega
theorem LA{r cs:List Nat}{B:List (List (Nat×Nat))}{k:Nat}(c:D2 r)(hB:BOk r.length cs.length B)(hc:cs.sum<=40)(e:k<cs.length):(bQ K a).1 [tN r,nL cs,B3 B,.int (k:Int)] β=on (.ok (.lst ((wB B cs k r).map tN)),β):=by
 have g:cs[k]?=on (cs.getD k 0):=by rw[Qn,Ql e];rfl
 obtain⟨l,q⟩:=hB.col e;unfold bQ
 dsimp only
 refine aJ (ao (aT (am (aa rfl (aa (dq rfl rfl (cV (d:= .int (cs.getD k 0:Int)) (by rw[Qu,Qu,g];rfl))) (aa ?_ rfl))) (No c l q (Qw (fm (Q1 g)) hc))) ⟨rfl,rfl⟩));have h:=bw (nv:=1) (c_:=[3]) (it:=eP (ag 2)) (tg:=iv 0) (f:=f2 jn (ag 0) (ag 1)) (δ:=[on (tN r),on (nL cs),on (B3 B),on (.int (k:Int))]) (β:=β) B (λrow=>D.lst (row.map pN)) (λrow=>pN (row.getD k (0,0))) (dj rfl (by
  show on _=on _;rw[QG,QG];exact RE on (Ra λrow _=>RE D.lst (by show SA pD (SA _ row)=_;rw[QG];rfl)))) (λrow b=>⟨[on (D.lst (row.map pN)),on (.int (k:Int))],rfl,dq rfl rfl (cV (by
   have l:=hB.1.2 row b;rw[Qu,bR (by omega),Ql (by omega)];rfl))⟩) (br (by rw[hB.1.1];have:=c.2.1;omega))
 refine h.trans ?_;unfold oj;rw[QG];rfl
theorem AJ:∀{r v:List Nat},ko v r->(r.zip v).map (λp=>D.int ((p.1:Int)-(p.2:Int)))=(nI (less r v)).map D.int
 |[],[],_=>rfl
 |x::r,y::v,h=>by
  have e:=AJ h.2;have b:=h.1;show _::_=D.int ((x-y:Nat):Int)::(nI (less r v)).map D.int;rw[<-e];show D.int ((x:Int)-(y:Int))::_=_;rw[show(x:Int)-(y:Int)=((x-y:Nat):Int) by omega];rfl
 |[],_::_,h=>h.elim
 |_::_,[],h=>h.elim
theorem sB{r v:List Nat}(h:ko v r)(b:r.length<=4):(cr K a).1 [tN r,tN v] β=on (.ok (tN (less r v)),β):=by
 unfold cr
 dsimp only
 refine aJ (ao (aT (aj (aa (x:= .lst ((nI (less r v)).map D.int)) ?_ rfl) rfl) ⟨rfl,rfl⟩));rw[<-AJ h];refine bw (r.zip v) (λp=>D.tup [.int (p.1:Int),.int (p.2:Int)]) _ ?_ (λp _=>⟨[on (.int (p.1:Int)),on (.int (p.2:Int))],rfl,rfl⟩) (br (by rw[Xz];omega));rw[<-nF (λx:Nat=>D.int (x:Int)) (λx:Nat=>D.int (x:Int))];refine oA (x:=tN r) (y:=tN v) rfl rfl ?_ ?_
 .show on _=on _
  rw[QG];rfl
 .show on _=on _
  rw[QG];rfl
structure Nt0 (rs cs:List Nat):Prop where
 nr:D2 rs
 wd:pr (rs.dropLast.map (·+1))<63
 sm:rs.sum=cs.sum
 c1:1<=cs.length
 c6:cs.length<=6
structure qk (K:QR) (a:Ad) (rs cs:List Nat) (W:Wy) (bd:D):Prop extends Nt0 rs cs where
 ok:Wi cs W
 fl:∀{β:Bg} {k:Nat} {r:List Nat},k<cs.length->D2 r->r.length=rs.length->(bQ K a).1 [tN r,nL cs,bd,.int (k:Int)] β=on (.ok (.lst ((W k r).map tN)),β)
theorem qk.at{rs cs r:List Nat}{k:Nat}{W:Wy}{b:D}(h:qk K a rs cs W b)(c:k<=cs.length)(d:r∈hL W rs k):D2 r/\r.length=rs.length/\r.sum<=40:=by
 have q:=(iU h.ok h.sm k c r d).1;obtain⟨e,f,g,i⟩:=h.nr;have q1:=q.len;have q2:=q.sum;have q3:=q.pr;exact⟨⟨by omega,by omega,by omega,by omega⟩,q1,by omega⟩
abbrev y1(W:Wy)(rs:List Nat)(k:Nat):D:= .lst ((hL W rs k).map tN)
theorem ED{rs cs:List Nat}{W:Wy}{b:D}(h:qk K a rs cs W b):(fc K a).1 [nL rs,nL cs,b] β=on (.ok (.lst ((Qy (cs.length+1)).map (y1 W rs))),β):=by
 have c6:=h.c6;unfold fc
 dsimp only
 refine aJ ?_;refine aD (d:=y1 W rs 0) (β1:=β) (aj (aa (aj rfl rfl) rfl) xR) ?_;refine IM (ds:=[y1 W rs 0]) (β1:=β) rfl (show 1<=QN by decide) ?_;refine da (ds:=aU 0 cs.length) (β1:=β) (bG (aa (aj rfl (eJ (r:=cs.length) (by rw[Qi,Qi]))) rfl) (xr (by omega) (by omega))) (λk δ c=>β=c/\∃e f,δ=[on (.sh (nL rs)),on (.sh (nL cs)),on (.sh (b)),on (.sh (y1 W rs k)),on (.own ((Qy (k+1)).map (y1 W rs))),e,f]) ⟨rfl,Qh,Qh,rfl⟩ ?_ ?_
 .rintro k d δ _ hd ⟨rfl,e,f,rfl⟩
  obtain⟨g,rfl⟩:=sy hd;refine⟨_,rfl,aD (d:=y1 W rs (k+1)) (β1:=β) ?_ (IQ (cs:=(Qy (k+1)).map (y1 W rs)) (d:=y1 W rs (k+1)) rfl rfl (QY (show _<1000 by rw[Qi,Q6];omega) (by decide)) (ao (aD (d:=y1 W rs (k+1)) (β1:=β) rfl (bx ⟨rfl,on (.sh (.int (k:Int))),on (.sh (y1 W rs (k+1))),?_⟩))))⟩
  .refine kU (hL W rs k) tN (λr=>(W k r).map λv=>tN (less r v)) rfl (λr j=>⟨[on (tN r),Qh,on (nL cs),on (b),on (.int (k:Int))],rfl,?_⟩) ?_
   .obtain⟨i,l,_⟩:=h.at (by omega) j
    exact zY _ tN _ (dj (am rfl (h.fl g i l)) rfl) (λv m=>⟨[on (tN r),on (tN v),on (nL cs),on (b),on (.int (k:Int))],rfl,am rfl (sB (cQ ((h.ok k r).subset m)) i.2.1)⟩)
   .rw[<-K4 h.ok h.sm h.nr.1 h.wd g]
    unfold S_;rw[Tz];simp only[QG];rfl
  .rw[TY (n:=k+1),Rg];rfl
 .rintro δ _ ⟨rfl,e,f,rfl⟩
  rw[lF];exact ao (aT rfl ⟨rfl,rfl⟩)
theorem oE{i:Nat}{op:D->D->Option D}{f:FD}{c d z:D}{h:G}{δ:Ds}{β β1:Bg}{Q:p_->Bg->Prop}(b:(vw δ).getD i Qh=on c)(e:f (vw δ) β=on (.ok d,β1))(g:op c d=on z)(k:Gw h (δ.set i (on (.sh z))) β1 Q):Gw (aG (ye i op f) h) δ β Q:=c9 (by unfold ye;simp only[b,e,g,Sh]) k
theorem Ms{m i:Nat}{d:D}(h:(aU 2 m)[i]?=on d):i<m/\d= .int ((i+2:Nat):Int):=by
 obtain⟨x,b,rfl⟩:=fN (f:=λ(i:Nat)=>D.int (2+(i:Int))) (xs:=Qy m) h;have c:=(QI.mp b).1;rw[Q6]at c;rw[R5 c]at b;cases b;exact⟨c,by congr 1;omega⟩
theorem Mq(lo:Int)(m:Nat):(aU lo m).length=m:=by unfold aU;rw[Qi,Q6]
theorem smN{n:Nat}(h:n<=2^11):n<2^1000:=ck h (by decide)
theorem Lw(n:Nat):di (n-1+1)=di n:=by cases n<;>rfl
theorem wE{n:Nat}(h:n<=40):(jC K a).1 [.int (n:Int)] β=on (.ok (.int ((di n:Nat):Int)),β):=by
 unfold jC
 dsimp only
 refine aJ ?_;refine aD (d:= .int 1) (β1:=β) rfl ?_;refine da (ds:=aU 2 (n-1)) (β1:=β) (bG (aa rfl (aa (dq rfl rfl rfl) rfl)) (rg2 (by omega))) (λi δ b=>β=b/\∃c,δ=[on (.sh (.int (n:Int))),on (.sh (.int ((di (i+1):Nat):Int))),c]) ⟨rfl,Qh,rfl⟩ ?_ ?_
 .rintro i d δ _ hd ⟨rfl,c,rfl⟩
  obtain⟨e,rfl⟩:=Ms hd;exact⟨_,rfl,ao (oE rfl rfl (cN (ck (u3 (by omega)) (by decide)) (smN (by omega))) (bx ⟨rfl,_,rfl⟩))⟩
 .rintro δ _ ⟨rfl,c,rfl⟩
  rw[Mq,Lw];exact ao (aT rfl ⟨rfl,rfl⟩)
def O_(l:List Nat):Nat:=di l.sum/pr (l.map di)
theorem OB{l:List Nat}{d:D}(h:Sq l d):oK [d]=on (.int ((l.sum:Nat):Int)):=by
 rw[<-fJ];rcases h with rfl|rfl
 .exact L6 _
 .exact L5 _
theorem lO(l:List Nat):ik [nL l]=on (.int ((l.sum:Nat):Int)):=by rw[<-fJ];exact eF _
theorem Kb{l:List Nat}{i n:Nat}(h:l.sum<=40)(hn:l[i]?=on n):n<=40:=Qw (fm (Q1 hn)) h
theorem vG{l:List Nat}{cd:D}(hs:Sq l cd)(h:l.sum<=40):(oX K a).1 [cd] β=on (.ok (.int ((O_ l:Nat):Int)),β):=by
 unfold oX
 dsimp only
 refine aJ ?_;refine da (ds:=(nI l).map D.int) (β1:=β) (dj rfl hs.seq) (λi δ c=>β=c/\∃b,δ=[on (.sh cd),b,Qh]) ⟨rfl,Qh,rfl⟩ ?_ ?_
 .rintro i d δ _ hd ⟨rfl,b,rfl⟩
  obtain⟨n,hn,rfl⟩:=sF hd;exact⟨_,rfl,ao (ig (β1:=β) (io (dq rfl rfl (by show on (D.bl (decide ((n:Int)<0)))=_;rw[Rk (by omega)]))) (bK (bx ⟨rfl,_,rfl⟩)))⟩
 rintro δ _ ⟨rfl,b,rfl⟩;refine aD (d:= .int ((di l.sum:Nat):Int)) (β1:=β) (am (aa (aj rfl (OB hs)) rfl) (wE h)) ?_;refine da (ds:=(nI l).map D.int) (β1:=β) (dj rfl hs.seq) (λi δ c=>β=c/\∃b,δ=[on (.sh cd),b,on (.sh (.int ((di l.sum/pr ((l.take i).map di):Nat):Int)))]) ⟨rfl,b,by rw[List.take_zero,Vd,ME,Nat.div_one];rfl⟩ ?_ ?_
 .rintro i d δ _ hd ⟨rfl,b,rfl⟩
  obtain⟨n,hn,rfl⟩:=sF hd;refine⟨_,rfl,ao (oE rfl (am rfl (wE (Kb h hn))) (pL (jY n) (ck (u3 (Kb h hn)) (by decide))) (bx ⟨rfl,on (.sh (.int (n:Int))),?_⟩))⟩;rw[qr hn,YH];rfl
 .rintro δ _ ⟨rfl,b,rfl⟩
  rw[pe,Ug];exact ao (aT rfl ⟨rfl,rfl⟩)
theorem yI{l:List Nat}(h:l.sum<=40):O_ l<=2^160:=Qw (Tk _ _) (u3 h)
theorem tw(l:List Nat):O_ l=mu l:=MY l
theorem kK{l:List Nat}(h:l.sum<=40):mu l<=2^160:=by rw[<-tw];exact yI h
theorem xh{α:Type}{l:List α}{i:Nat}{x:α}(f:α->Nat)(h:l[i]?=on x):L2.Nt.sm (l.take (i+1)) f=L2.Nt.sm (l.take i) f+f x:=by
 rw[VJ,h,tT];rfl
abbrev cv(W:Wy)(m k:Nat)(r:List Nat):D:= .tup [.int ((ra W (m-k) k r:Nat):Int),.int ((L3 W (m-k) k r:Nat):Int)]
abbrev oD(W:Wy)(rs:List Nat)(m k:Nat):D:= .dct Qr ((hL W rs k).map λr=>((0:Int),nI r)) ((hL W rs k).map (cv W m k))
theorem AF{f:List Nat->D}{u:List Nat}:∀{L:List (List Nat)},u∈L->la (L.map λr=>((0:Int),nI r)) (L.map f) (0,nI u)=on (f u)
 |r::L,h=>by
  unfold la;rw[QB,QB,Sk,SN];by_cases q:r=u
  .rw[q,QL rfl];rfl
  .rw[Rk λe=>q (fK (TM.mp e).2)]
   exact AF ((QD.mp h).resolve_left λe=>q e.symm)
theorem Nr{W:Wy}{rs u:List Nat}{m k:Nat}(h:u∈hL W rs k):FM (oD W rs m k) (tN u)=on (cv W m k u):=by
 show(dC Qr (dK Qr (0,nI u))).bind _=_;rw[gm λ_=>rfl];exact AF h
theorem xH{rs cs r:List Nat}{W:Wy}{q:D}{k:Nat}(h:qk K a rs cs W q)(o:k<cs.length)(p:r∈hL W rs k):(hX K a).1 [tN r,.lst ((W k r).map tN),oD W rs cs.length (k+1)] β=on (.ok (cv W cs.length k r),β):=by
 obtain⟨t,y,u⟩:=h.at (by omega) p;unfold hX
 dsimp only
 refine aJ ?_;refine aD (d:= .int 0) (β1:=β) rfl (aD (d:= .int 0) (β1:=β) rfl ?_);refine da (ds:=(W k r).map tN) (β1:=β) rfl (λi δ e=>β=e/\∃f g j,δ=[on (.sh (tN r)),on (.sh (.lst ((W k r).map tN))),on (.sh (oD W rs cs.length (k+1))),on (.sh (.int ((L2.Nt.sm ((W k r).take i) λv=>ra W (cs.length-(k+1)) (k+1) (less r v):Nat):Int))),on (.sh (.int ((L2.Nt.sm ((W k r).take i) λv=>mu v*L3 W (cs.length-(k+1)) (k+1) (less r v):Nat):Int))),f,g,j]) ⟨rfl,Qh,Qh,Qh,rfl⟩ ?_ ?_
 .rintro i d δ _ hd ⟨rfl,f,g,j,rfl⟩
  obtain⟨v,l,rfl⟩:=fN hd;have hm:=Q1 l;have m:less r v∈hL W rs (k+1):=jT.mpr ⟨r,p,v,hm,rfl⟩;have b:=(h.ok k r).subset hm;have hs:=(iU h.ok h.sm (k+1) o _ m).2;have c:v.sum<=40:=Qw (cQ b).sum u;have n:=(h.at o m).2.2;refine⟨_,rfl,mr (d:=cv W cs.length (k+1) (less r v)) (β1:=β) (dq rfl (am rfl (sB (cQ b) t.2.1)) (Nr m)) rfl (oE rfl rfl rfl (ao (oE rfl (dq (am rfl (vG (.inr rfl) c)) rfl (cN (ck (yI c) (by decide)) (ck (Qw (BO h.ok _ _ _ (by omega)) (by rw[u7 _ _ hs];exact kK n)) (by decide)))) rfl (bx ⟨rfl,on (.sh (tN v)),on (.sh (.int ((ra W (cs.length-(k+1)) (k+1) (less r v):Nat):Int))),on (.sh (.int ((L3 W (cs.length-(k+1)) (k+1) (less r v):Nat):Int))),?_⟩))))⟩;rw[xh _ l,xh _ l,tw,Wq,Wq];rfl
 .rintro δ _ ⟨rfl,f,g,j,rfl⟩
  rw[Qi,Ug];refine ao (aT (aj rfl fA) ⟨rfl,?_⟩);show SE (D.tup [.int ((ra W (cs.length-k) k r:Nat):Int),.int ((L3 W (cs.length-k) k r:Nat):Int)])=_;rw[show cs.length-k=cs.length-(k+1)+1 by omega];rfl
theorem wU{f g:FD}{δ:Dn}{k v:D}(b:f δ β=on (.ok k,β))(c:g δ β=on (.ok v,β)):FR f g δ β=on (.ok [.tup [k,v]],β):=by
 unfold FR M.bind;rw[b];simp only[c,M.ret]
theorem uX{α b:Type}(f:α->b)(l:List α):(l.flatMap λx=>[f x])=l.map f:=by
 induction l with
 |nil=>rfl
 |cons x l ih=>rw[Sb,ih];rfl
theorem uG{rs cs:List Nat}{W:Wy}{b:D}(h:qk K a rs cs W b){k:Nat}(c:k<=cs.length):(hL W rs k).length<=62:=by
 have:=K9 h.ok h.sm c;have:=h.wd;omega
theorem dk0{rs cs:List Nat}{W:Wy}{b:D}(h:qk K a rs cs W b){k:Nat}(c:k<=cs.length){os:List D}(e:os=(hL W rs k).map λr=> .tup [tN r,cv W cs.length k r]):kS Qr os=on (oD W rs cs.length k):=by
 refine(wN (kvs:=(hL W rs k).map λr=>(((0:Int),nI r),cv W cs.length k r)) ⟨?_,?_,?_,?_⟩).trans ?_
 .rw[e,QG];rfl
 .rw[QG];exact pb (λx y q=>fK (TM.mp q).2) (uH k)
 .rw[Qi];exact br (by have:=uG h c;omega)
 .rintro p d _
  obtain⟨r,_,rfl⟩:=QC.mp d;rfl
 .rw[QG,QG];rfl
theorem O9{n:Nat}(h:n<=1000):sv [.int (n:Int)]=on (iq n):=by
 simp only[sv];rw[Qt (by simp only[Q9,Rm];omega),Sc]
theorem Pa{n i:Nat}{d:D}(h:(iq n)[i]?=on d):i<n/\d= .int ((n-1-i:Nat):Int):=by
 obtain⟨x,b,rfl⟩:=fN (f:=λ(i:Nat)=>D.int ((n:Int)-1-i)) (xs:=Qy n) h;have c:=(QI.mp b).1;rw[Q6]at c;rw[R5 c]at b;cases b;exact⟨c,by congr 1;omega⟩
theorem zw{f:Nat->D}{n k:Nat}(h:k<n):((Qy n).map f)[k]?=on (f k):=by rw[Qu,R5 h];rfl
theorem BM{f:Nat->D}:∀n j,dH j ((List.range' j n).map f)=(List.range' j n).map λk=> .tup [.int (k:Int),f k]
 |0,_=>rfl
 |n+1,j=>by
  rw[List.range'_succ,QB,QB,<-BM n (j+1)];rfl
theorem KI{f:Nat->D}(m:Nat):((Qy (m+1)).map λj=>f (m-j)).reverse=(Qy (m+1)).map f:=SH (by simp) λi b c=>by
 simp only[Zj,Qi,Q6]at b;simp only[Y6,SQ,S9,Qi,Q6];congr 1;omega
abbrev Ox(W:Wy)(rs:List Nat)(m:Nat):List D:=(Qy (m+1)).flatMap λk=>(hL W rs k).map (cv W m k)
abbrev qJ(W:Wy)(rs:List Nat)(m:Nat):D:= .dct Qo (kyW W rs (m+1)) (Ox W rs m)
theorem dk1{rs cs:List Nat}{W:Wy}{b:D}(h:qk K a rs cs W b){os:List D}(e:os=(Qy (cs.length+1)).flatMap λ(k:Nat)=>(hL W rs k).map λr=> .tup [.tup [.int (k:Int),tN r],cv W cs.length k r]):kS Qo os=on (qJ W rs cs.length):=by
 refine(wN (kvs:=(Qy (cs.length+1)).flatMap λ(k:Nat)=>(hL W rs k).map λr=>(((k:Int),nI r),cv W cs.length k r)) ⟨?_,?_,?_,?_⟩).trans ?_
 .rw[e,Tz];simp only[QG];rfl
 .have:=AQ (W:=W) (rs:=rs) (cs.length+1)
  unfold kyW at this;rw[Tz];simp only[QG];exact this
 .refine br (Qw (mW (n:=62) λk c=>?_) (by have:=h.c6;rw[Q6];omega))
  have:=QW.mp c;rw[Qi];exact uG h (by omega)
 .rintro p _ q
  cases q
 .unfold qJ kyW
  rw[Tz,Tz];simp only[QG];rfl
theorem yq{rs cs:List Nat}{W:Wy}{b:D}(h:qk K a rs cs W b):(dS K a).1 [nL rs,nL cs,b] β=on (.ok (qJ W rs cs.length),β):=by
 have c6:=h.c6;unfold dS
 dsimp only
 refine aJ ?_;refine aD (d:= .lst ((Qy (cs.length+1)).map (y1 W rs))) (β1:=β) (am rfl (ED h)) ?_;refine aD (d:= .int (cs.length:Int)) (β1:=β) (aj rfl (eJ (by rw[Qi,Qi]))) ?_;refine aD (d:=oD W rs cs.length cs.length) (β1:=β) (kU (hL W rs cs.length) tN (λr=>[.tup [tN r,.tup [.int 1,.int 1]]]) (dj (dq rfl rfl (cV (zw (by omega)))) rfl) (λr _=>⟨[on (tN r)],rfl,wU rfl (aj rfl fA)⟩) (dk0 h (Qz _) (by rw[uX];simp only[cv,Vl];rfl))) ?_;refine IM (ds:=[oD W rs cs.length cs.length]) (β1:=β) rfl (show 1<=QN by decide) ?_;refine da (ds:=iq cs.length) (β1:=β) (bG rfl (O9 (by omega))) (λi δ c=>β=c/\∃e f,δ=[on (.sh (nL rs)),on (.sh (nL cs)),on (.sh (b)),on (.sh (.lst ((Qy (cs.length+1)).map (y1 W rs)))),on (.sh (.int (cs.length:Int))),on (.sh (oD W rs cs.length (cs.length-i))),on (.own ((Qy (i+1)).map λj=>oD W rs cs.length (cs.length-j))),e,f]) ⟨rfl,Qh,Qh,rfl⟩ ?_ ?_
 .rintro i d δ _ hd ⟨rfl,e,f,rfl⟩
  obtain⟨p,rfl⟩:=Pa hd;have l:cs.length-1-i<cs.length:=by omega
  have o:cs.length-i=(cs.length-1-i)+1:=by omega
  have m:cs.length-(i+1)=cs.length-1-i:=by omega
  rw[o];refine⟨_,rfl,aD (d:=oD W rs cs.length (cs.length-1-i+1)) (β1:=β) rfl (aD (d:=oD W rs cs.length (cs.length-1-i)) (β1:=β) (kU (hL W rs (cs.length-1-i)) tN (λr=>[.tup [tN r,cv W cs.length (cs.length-1-i) r]]) (dj (dq rfl rfl (cV (zw (by omega)))) rfl) (λr g=>⟨[on (tN r),on (nL cs),on (b),on (.int ((cs.length-1-i:Nat):Int)),on (oD W rs cs.length (cs.length-1-i+1))],rfl,wU rfl (am (aa rfl (aa (am rfl (h.fl l (h.at (by omega) g).1 (h.at (by omega) g).2.1)) rfl)) (xH h l g))⟩) (dk0 h (by omega) (uX _ _))) (ao (IQ (cs:=(Qy (i+1)).map λj=>oD W rs cs.length (cs.length-j)) (d:=oD W rs cs.length (cs.length-1-i)) rfl rfl (QY (show _<1000 by rw[Qi,Q6];omega) (by decide)) (bx ⟨rfl,on (.sh (.int ((cs.length-1-i:Nat):Int))),on (.sh (oD W rs cs.length (cs.length-1-i+1))),?_⟩))))⟩;rw[TY (n:=i+1),Rg,m];show _=[_,_,_,_,_,_,on (Sl.own (_++[oD W rs cs.length (cs.length-(i+1))])),_,_];rw[m];rfl
 .rintro δ _ ⟨rfl,e,f,rfl⟩
  rw[show(iq cs.length).length=cs.length by unfold iq;rw[Qi,Q6]];refine ao (aT (kU (Qy (cs.length+1)) (λk=> .tup [.int (k:Int),oD W rs cs.length k]) (λ(k:Nat)=>(hL W rs k).map λr=> .tup [.tup [.int (k:Int),tN r],cv W cs.length k r]) (bG (aa (dq (y:= .int (-1)) rfl rfl rfl) rfl) ?_) (λk _=>⟨[on (.int (k:Int)),on (oD W rs cs.length k),Qh,Qh],rfl,?_⟩) (dk1 h rfl)) ⟨rfl,rfl⟩)
  .show on (dH 0 _)=_
   rw[KI,List.range_eq_range',BM]
  .refine(Ps (hL W rs k) (λr=> .tup [tN r,cv W cs.length k r]) (λr=>[.tup [.tup [.int (k:Int),tN r],cv W cs.length k r]]) ?_ (λr _=>⟨[on (.int (k:Int)),on (oD W rs cs.length k),on (tN r),on (cv W cs.length k r)],rfl,wU (aj rfl fA) rfl⟩)).trans (by rw[uX])
   show on (SE (TL _ _ _),β)=_;rw[List.zipWith_map_left,List.zipWith_map_right,Z4];rfl
theorem BG{r c:Nat}{a_:LI}(h:i4 r c a_):(gI a_).length=r:=by rw[Qi,h.1]
theorem tp_e{r c:Nat}{a_:LI}(sh:i4 r c a_)(r0:1<=r)(r1:r<=30)(c1:c<=30){δ:Dn}(h:δ.getD 0 Qh=on (cZ a_)):cK 1 [0] (cY ge (ac (aQ gl (ac (f2 jn (ag 0) (fC (.int 0))) (ax))) (ax))) (iv 0) (λ_=>M.ret Qo) (nj (cK 1 [0] (eP (ag 1)) (iv 0) (λ_=>M.ret Qo) (nj (f2 jn (ag 0) (ag 1))))) δ β=on (.ok (cZ (tp c a_)),β):=by
 obtain⟨b,d,g⟩:=sh.at (i:=0) (by omega);have k:(gI a_)[0]?=on (b.map D.int):=by rw[Qu,d];rfl
 have o:aQ gl (ac (f2 jn (ag 0) (fC (.int 0))) (ax)) δ β=on (.ok (.int (c:Int)),β):=aj (aa (x:= .lst (b.map D.int)) (dq (x:=cZ a_) (IJ h) rfl (pw k)) rfl) (eJ (by rw[Qi,g]));have e:=bw (nv:=1) (c_:=[0]) (it:=cY ge (ac (aQ gl (ac (f2 jn (ag 0) (fC (.int 0))) (ax))) (ax))) (tg:=iv 0) (f:=cK 1 [0] (eP (ag 1)) (iv 0) (λ_=>M.ret Qo) (nj (f2 jn (ag 0) (ag 1)))) (δ:=δ) (β:=β) (Qy c) (λi=>D.int (0+(i:Int))) (λj=>D.lst (a_.map λrow=>D.int (row.getD j 0))) (bG (ds:=aU 0 c) (aa o rfl) (xr (by omega) (by omega))) ?_ (br (by rw[Q6];omega))
 .rw[e]
  unfold tp y_;show _=on (SE (D.lst (SA D.lst (SA _ (SA _ _)))),β);rw[QG,QG];congr 4;refine Ra λj _=>?_;show _=D.lst ((a_.map λrow=>row.getD j 0).map D.int);rw[QG];rfl
 .intro j p
  have q:=QW.mp p;have m:l0 1 [0] δ=[Qh,on (cZ a_)]:=by
   unfold l0;simp only[QB,Vd,h];rfl
  refine⟨[on (.int (0+(j:Int))),on (cZ a_)],by rw[m];rfl,?_⟩;have hm:(gI a_).map D.lst=a_.map λrow=>D.lst (row.map D.int):=by rw[QG];rfl
  refine bw (nv:=1) (c_:=[0]) a_ (λrow=>D.lst (row.map D.int)) _ (by show on (SE ((gI a_).map D.lst),β)=_;rw[hm]) (λrow t=>⟨_,rfl,dq (x:= .lst (row.map D.int)) (y:= .int (0+(j:Int))) rfl rfl ?_⟩) (br (by rw[sh.1];omega));have u:=sh.2 row t;obtain⟨x,n⟩:=yz (l:=row) (i:=j) (by omega);rw[UI];refine cV ?_;rw[Qu,n,Qn,n];rfl
theorem xQ{r c:Nat}{a_:LI}(sh:i4 r c a_)(r0:1<=r)(r1:r<=30)(c1:c<=30):(o3 K a).1 [cZ a_] β=on (.ok (cZ (tp c a_)),β):=
 aJ (ao (aT (tp_e sh r0 r1 c1 rfl) ⟨rfl,rfl⟩))
noncomputable abbrev iL(xs:List Int):D:= .lst (xs.map D.int)
theorem y0{a_:LI}(h:a_.length<=1000){f:FD}{δ:Dn}(e:f δ β=on (.ok (cZ a_),β)):cK 1 [] (eP f) (iv 0) (λ_=>M.ret Qo) (nj (aQ ik (ac (ag 0) (ax)))) δ β=on (.ok (iL (a_.map RZ)),β):=by
 have hm:(gI a_).map D.lst=a_.map λrow=>D.lst (row.map D.int):=by rw[QG];rfl
 have:=bw (nv:=1) (c_:=[]) (it:=eP f) (tg:=iv 0) (f:=aQ ik (ac (ag 0) (ax))) (δ:=δ) (β:=β) a_ (λrow=>D.lst (row.map D.int)) (λrow=>D.int row.sum) (by rw[<-hm];exact dj e rfl) (λrow _=>⟨_,rfl,aj rfl (eF row)⟩) (br h);rw[this];show _=on (SE (D.lst ((a_.map RZ).map D.int)),β);rw[QG];rfl
theorem oW{a_:LI}(h:a_.length<=1000):(jB K a).1 [cZ a_] β=on (.ok (iL (a_.map RZ)),β):=
 aJ (ao (aT (y0 h rfl) ⟨rfl,rfl⟩))
theorem sd{r c:Nat}{a_:LI}(sh:i4 r c a_)(r0:1<=r)(r1:r<=30)(c1:c<=30):(gf K a).1 [cZ a_] β=on (.ok (iL ((tp c a_).map RZ)),β):=
 aJ (ao (aT (y0 (by rw[(qb (d:=(0:Int)) (c:=c) sh.1).1];omega) (am rfl (xQ sh r0 r1 c1))) ⟨rfl,rfl⟩))
noncomputable def gp(G:LI)(i j:Nat):Int:=(G.getD i []).getD j 0
theorem P3{G:LI}{i j:Nat}{row:List Int}{x:Int}(b:G[i]?=on row)(c:row[j]?=on x):gp G i j=x:=by
 unfold gp;simp only[Qn,b,c,ZH]
theorem BE{G:LI}{i j:Nat}{row:List Int}(b:G[i]?=on row):row.getD j 0=gp G i j:=by
 unfold gp;rw[Qn (l:=G),b];rfl
theorem CN:∀(xs:List Int),S xs.length (λj=>xs.getD j 0)=xs.sum:=λxs=>by
 unfold S;congr 1;refine SH (by simp) λi c b=>?_;rw[SQ,S9,Qn,Ql b];rfl
theorem OD{r c i:Nat}{A:LI}(d:i4 r c A)(e:i<r):S c (gp A i)=(A.map RZ).getD i 0:=by
 obtain⟨f,b,g⟩:=d.at e;rw[Qn,Qu,b];show _=f.sum;rw[<-CN,g];exact dD λj _=>(BE b).symm
theorem OE{r c j:Nat}{A:LI}(b:i4 r c A)(f:j<c):S r (λp=>gp A p j)=((tp c A).map RZ).getD j 0:=by
 have e:(tp c A)[j]?=on (A.map λrow=>row.getD j 0):=by
  show((Qy c).map λj=>A.map λrow=>row.getD j 0)[j]?=_;rw[Qu,R5 f];rfl
 rw[Qn,Qu,e];show _=(A.map λrow=>row.getD j 0).sum;rw[<-CN,Qi,b.1];refine dD λp g=>?_;obtain⟨h,d,i⟩:=b.at g;rw[Qn (l:=A.map _),Qu,d];exact(BE d).symm
theorem mV{r c:Nat}{d:D}(e:r<=1000)(hc:c<=1000):(uk K a).1 [.int (r:Int),.int (c:Int),d] β=on (.ok (lG (QE r (QE c d))),β):=by
 have b:∀x:Nat,cK 1 [1] (cY ge (ac (ag 2) (ax))) (iv 0) (λ_=>M.ret Qo) (nj (ag 1)) [on (.int (0+(x:Int))),on d,on (.int (c:Int))] β=on (.ok (.lst (QE c d)),β):=λx=>by
  have h:=bw (nv:=1) (c_:=[1]) (it:=cY ge (ac (ag 2) (ax))) (tg:=iv 0) (f:=ag 1) (δ:=[on (.int (0+(x:Int))),on d,on (.int (c:Int))]) (β:=β) (Qy c) (λi=>D.int (0+(i:Int))) (λ_=>d)
   (bG rfl (xr (by omega) (by omega))) (λx _=>⟨_,rfl,rfl⟩) (br (by rw[Q6];omega))
  rw[ju]at h;exact h
 have h:=bw (nv:=1) (c_:=[2,1]) (it:=cY ge (ac (ag 0) (ax))) (tg:=iv 0) (f:=cK 1 [1] (cY ge (ac (ag 2) (ax))) (iv 0) (λ_=>M.ret Qo) (nj (ag 1))) (δ:=[on (.int (r:Int)),on (.int (c:Int)),on d]) (β:=β) (Qy r) (λi=>D.int (0+(i:Int))) (λ_=> .lst (QE c d))
  (bG rfl (xr (by omega) (by omega))) (λx _=>⟨_,rfl,b x⟩) (br (by rw[Q6];omega))
 rw[ju]at h;unfold uk
 dsimp only
 refine aJ (ao (aT h ⟨rfl,?_⟩));simp only[lG,RY]
theorem z6{rs:List Int}{b:List Nat}(c:∀i∈b,i<rs.length)(d:b.length<=1000):(lI K a).1 [iL rs,nL b] β=on (.ok (.int (o9 rs b)),β):=by
 unfold lI
 dsimp only
 refine aJ (ao (aT (aj (aa (x:=iL (b.map λi=>rs.getD i 0)) ?_ rfl) (eF _)) ⟨rfl,rfl⟩));have:=bw (nv:=1) (c_:=[0]) (it:=eP (ag 1)) (tg:=iv 0) (f:=f2 jn (ag 1) (ag 0)) (δ:=[on (iL rs),on (nL b)]) (β:=β) b (λi=>D.int (i:Int)) (λi=>D.int (rs.getD i 0)) (by show on (SE ((nI b).map D.int),β)=_;rw[QG];rfl) (λi e=>⟨_,rfl,dq rfl rfl (JZ (c i e))⟩) (br d);refine this.trans ?_;show _=on (SE (D.lst ((b.map λi=>rs.getD i 0).map D.int)),β);rw[QG];rfl
theorem rq{r c j:Nat}{cs:List Int}{b:LP}{g:List Nat}(sh:i4 r c b)(hc:cs.length=c)(k:r<=1000)(l:j<c):(cS K a).1 [iL cs,fY b,nL g,.int (j:Int)] β=on (.ok (.int (eL cs b r g j)),β):=by
 unfold cS
 dsimp only
 refine aJ ?_;refine aD (d:=iL (((Qy r).filter λi=>!decide (i∈g)).map λi=>(bI b i j).1)) (β1:=β) ?_ ?_
 .have m:((gP b).map D.lst).length=r:=by rw[Qi,Qi,sh.1]
  have:=kT (nv:=2) (c_:=[2,3]) (it:=JN (ac (ag 1) ax)) (tg:=J_ (e8 (iv 0) (e8 (iv 1) kj))) (tt:=fB (f2 (Tm Qo) (ag 0) (ag 2))) (f:=f2 jn (f2 jn (ag 1) (ag 3)) (fC (.int 0))) (δ:=[on (iL cs),on (fY b),on (nL g),on (.int (j:Int)),Qh]) (β:=β) (Qy r) (λi=>D.tup [.int (i:Int),.lst ((b.getD i []).map pD)]) (λi=>D.int (bI b i j).1) (λi=>!decide (i∈g)) ?_ (λi h=>⟨_,rfl,io (dq rfl rfl uS),λ_=>dq (dq rfl rfl (uO sh (QW.mp h) l).2) rfl iY⟩) (br (by rw[Q6];exact k))
  .refine this.trans ?_
   show _=on (SE (D.lst ((((Qy r).filter λi=>!decide (i∈g)).map λi=>(bI b i j).1).map D.int)),β);rw[QG];rfl
  .show on (SE (dH 0 ((gP b).map D.lst)),β)=_
   rw[nA,m];congr 3;refine Ra λi h=>?_;rw[RX];congr 3;obtain⟨e,_⟩:=sh.getD (QW.mp h);rw[Qn,Qu,Qu,e];rfl
 refine ao (aT (dq (x:= .int (cs.getD j 0)) (dq rfl rfl (JZ (by omega))) (aj rfl (eF _)) rfl) ⟨rfl,?_⟩);have e:(Qy r).map (λi=>if i∈g then(0:Int)else(bI b i j).1)=(Qy r).map (λx=>if(!decide (x∈g))=Qo then(bI b x j).1 else 0):=Ra λi _=>by by_cases q:i∈g<;>simp[q]
 unfold eL S;rw[wD,e]
theorem rT{r c j:Nat}{b:LP}{d:List Nat}(sh:i4 r c b)(e:∀i∈d,i<r)(k:d.length<=1000)(g:j<c):(cT K a).1 [fY b,nL d,.int (j:Int)] β=on (.ok (.int (fq b d j)),β):=by
 unfold cT
 dsimp only
 refine aJ (ao (aT (aj (aa (x:=iL (d.map λi=>(bI b i j).2)) ?_ rfl) (eF _)) ⟨rfl,rfl⟩));have:=bw (nv:=1) (c_:=[0,2]) (it:=eP (ag 1)) (tg:=iv 0) (f:=f2 jn (f2 jn (f2 jn (ag 1) (ag 0)) (ag 2)) (fC (.int 1))) (δ:=[on (fY b),on (nL d),on (.int (j:Int))]) (β:=β) d (λi=>D.int (i:Int)) (λi=>D.int (bI b i j).2) (by show on (SE ((nI d).map D.int),β)=_;rw[QG];rfl) (λi h=>⟨_,rfl,dq (dq (dq rfl rfl (uO sh (e i h) g).1) rfl (uO sh (e i h) g).2) rfl fR⟩) (br k);refine this.trans ?_;show _=on (SE (D.lst ((d.map λi=>(bI b i j).2).map D.int)),β);rw[QG];rfl
theorem zt{r c:Nat}{cs:List Int}{b:LP}{d e:List Nat}(sh:i4 r c b)(hc:cs.length=c)(k:r<=1000)(h:c<=1000)(l:∀i∈d,i<r)(m:d.length<=1000):(lH K a).1 [iL cs,fY b,nL d,nL e] β=on (.ok (.int (sw cs b r c d e)),β):=by
 unfold lH
 dsimp only
 refine aJ (ao (aT (aj (aa (x:=iL ((Qy c).map λj=>if j∈e then eL cs b r d j else fq b d j)) ?_ rfl) (eF _)) ⟨rfl,rfl⟩));have:=bw (nv:=1) (c_:=[3,0,1,2]) (it:=cY ge (ac (aQ gl (ac (ag 0) (ax))) (ax))) (tg:=iv 0) (f:=fIf (fB (f2 (Tm Qr) (ag 0) (ag 1))) (bF (cS K a).1 (ac (ag 2) (ac (ag 3) (ac (ag 4) (ac (ag 0) (ax)))))) (bF (cT K a).1 (ac (ag 3) (ac (ag 4) (ac (ag 0) (ax)))))) (δ:=[on (iL cs),on (fY b),on (nL d),on (nL e)]) (β:=β) (Qy c) (λj=>D.int (0+(j:Int))) (λj=>D.int (if j∈e then eL cs b r d j else fq b d j)) (bG (ds:=aU 0 c) (aa (aj rfl (eJ (by rw[Qi,hc]))) rfl) (xr (by omega) (by omega))) (λj n=>⟨[on (.int (j:Int)),on (nL e),on (iL cs),on (fY b),on (nL d)],by rw[UI];rfl,?_⟩) (br (by rw[Q6];exact h))
 .refine this.trans ?_
  show _=on (SE (D.lst (((Qy c).map λj=>if j∈e then eL cs b r d j else fq b d j).map D.int)),β);rw[QG];rfl
 .have g:=QW.mp n
  by_cases q:j∈e
  .rw[Qt q]
   exact IK (io (dq rfl rfl (by rw[uS];simp[q]))) (am rfl (rq sh hc k g))
  .rw[Qp q]
   exact IL (io (dq rfl rfl (by rw[uS];simp[q]))) (am rfl (rT sh l m g))
theorem z9{r c:Nat}{cs:List Int}{b:LP}{d:List Nat}(sh:i4 r c b)(hc:cs.length=c)(k:r<=1000)(e:c<=1000)(l:∀i∈d,i<r)(m:d.length<=1000):(jA K a).1 [iL cs,fY b,nL d] β=on (.ok (nL (uA cs b r c d)),β):=by
 unfold jA
 dsimp only
 refine aJ ?_;have h:=kT (nv:=1) (c_:=[0,1,2]) (it:=cY ge (ac (aQ gl (ac (ag 0) (ax))) (ax))) (tg:=iv 0) (tt:=fB (f2 (ltD) (bF (cS K a).1 (ac (ag 1) (ac (ag 2) (ac (ag 3) (ac (ag 0) (ax)))))) (bF (cT K a).1 (ac (ag 2) (ac (ag 3) (ac (ag 0) (ax))))))) (f:=ag 0) (δ:=[on (iL cs),on (fY b),on (nL d)]) (β:=β) (Qy c) (λj=>D.int (0+(j:Int))) (λj=>D.int (j:Int)) (λj=>decide (eL cs b r d j<fq b d j))
  (bG (ds:=aU 0 c) (aa (aj rfl (eJ (by rw[Qi,hc]))) rfl) (xr (by omega) (by omega)))
  (λj g=>⟨[on (.int (j:Int)),on (iL cs),on (fY b),on (nL d)],by rw[UI];rfl,io (dq (am rfl (rq sh hc k (QW.mp g))) (am rfl (rT sh l m (QW.mp g))) rfl),λ_=>rfl⟩) (br (by rw[Q6];exact e))
 refine ao (aT h ⟨rfl,?_⟩);show SE (D.lst ((nI (uA cs b r c d)).map D.int))=_;rw[QG];rfl
theorem Mp{n i:Nat}{d:D}(h:(aU 0 n)[i]?=on d):i<n/\d= .int (i:Int):=by
 obtain⟨x,b,rfl⟩:=fN (f:=λ(i:Nat)=>D.int (0+(i:Int))) (xs:=Qy n) h;have c:=(QI.mp b).1;rw[Q6]at c;rw[R5 c]at b;cases b;exact⟨c,by rw[UI]⟩
theorem yv{n:Nat}(hn:n<=6):(lJ K a).1 [.int (n:Int)] β=on (.ok (.lst ((s9 n).map nL)),β):=by
 unfold lJ
 dsimp only
 refine aJ ?_;refine aD (d:= .lst [.lst []]) (β1:=β) (aj (aa (aj rfl lst0) rfl) xR) ?_;refine da (ds:=aU 0 n) (β1:=β) (bG rfl (xr (by omega) (by omega))) (λi δ b=>β=b/\∃c,δ=[on (.sh (.int (n:Int))),on (.sh (.lst ((s9 i).map nL))),c]) ⟨rfl,Qh,rfl⟩ ?_ ?_
 .rintro i d δ _ hd ⟨rfl,c,rfl⟩
  obtain⟨g,rfl⟩:=Mp hd;have j:(s9 i).length<=64:=by rw[wP];exact Qw (SK (by decide) (show i<=6 by omega)) (by decide)
  refine⟨[on (.sh (.int (n:Int))),on (.sh (.lst ((s9 i).map nL))),on (.sh (.int (i:Int)))],rfl,ao (aD (d:= .lst ((s9 (i+1)).map nL)) (β1:=β) ?_ (bx ⟨rfl,_,rfl⟩))⟩;have h:=bw (nv:=1) (c_:=[2]) (it:=eP (ag 1)) (tg:=iv 0) (f:=f2 fZ (ag 0) (aQ de (ac (ag 1) (ax)))) (δ:=vw [on (.sh (.int (n:Int))),on (.sh (.lst ((s9 i).map nL))),on (.sh (.int (i:Int)))]) (β:=β) (s9 i) nL (λl=>nL (l++[i])) rfl (λl e=>⟨[on (nL l),on (.int (i:Int))],rfl,by
   have k:l.length<=i:=by have:=(iC i l e).length_le;rwa[Q6]at this
   refine dq rfl (aj rfl xR) ((wT ?_).trans ?_)
   .rw[Qi,Qi,Ry];omega
   .simp only[nL,nI,Rg,QB,Vd]⟩) (br (by omega))
  refine dq rfl h ((wT ?_).trans ?_)
  .rw[Qi,Qi];omega
  .rw[s9,Rg,QG];rfl
 .rintro δ _ ⟨rfl,c,rfl⟩
  rw[show(aU 0 n).length=n by unfold aU;rw[Qi,Q6]];exact ao (aT rfl ⟨rfl,rfl⟩)
theorem Nv{r:Nat}{b:List Nat}(h:b∈s9 r):(∀i∈b,i<r)/\b.length<=r:=⟨λi c=>QW.mp ((iC r b h).subset c),by have:=(iC r b h).length_le;rwa[Q6]at this⟩
theorem Nn{r c:Nat}{rs cs:List Int}{b:LP}(sh:i4 r c b)(l:rs.length=r)(hc:cs.length=c)(m:r<=6)(n:c<=6)(ok:∀X Y,0<=slB rs cs b r c X Y):(eV K a).1 [iL rs,iL cs,fY b] β=on (.ok .non,β):=by
 unfold eV
 dsimp only
 refine aJ (ao (da (ds:=(s9 r).map nL) (β1:=β) (dj (am (aa (aj rfl (eJ (r:=r) (by rw[Qi,l]))) rfl) (yv m)) rfl) (λi δ f=>β=f/\∃g h,δ=[on (.sh (iL rs)),on (.sh (iL cs)),on (.sh (fY b)),g,h]) ⟨rfl,Qh,Qh,rfl⟩ ?_ ?_))
 .rintro i d δ _ hd ⟨rfl,g,h,rfl⟩
  obtain⟨e,p,rfl⟩:=fN hd;have hm:=Q1 p;obtain⟨k,q⟩:=Nv hm;refine⟨_,rfl,aD (d:=nL (uA cs b r c e)) (β1:=β) (am rfl (z9 sh hc (by omega) (by omega) k (by omega))) ?_⟩;refine ao (ig (io (dq (am rfl (z6 (by rw[l];exact k) (by omega))) (am rfl (zt sh hc (by omega) (by omega) k (by omega))) ?_)) (bK (bx ⟨rfl,_,_,rfl⟩)));have o:=ok (λi=>decide (i∈e)) (λj=>decide (j∈uA cs b r c e));have sub:(uA cs b r c e).Sublist (Qy c):=Zi;rw[<-Md (iC r e hm) sub]at o;show on (D.bl (decide _))=_;rw[Rk (by omega)]
 .rintro δ _ ⟨rfl,g,h,rfl⟩
  exact bx ⟨rfl,rfl⟩
theorem Ks{r c:Nat}{a_:LI}{b:LP}(sh:i4 r c a_)(m:i4 r c b)(kp:Kp a_ b)(X Y:Nat->Bool):0<=slB (a_.map RZ) ((tp c a_).map RZ) b r c X Y:=by
 refine KA (g:=gp a_) (λi f j h=>?_) (λi f=>(OD sh f).symm) (λj h=>(OE sh h).symm) X Y;obtain⟨row,k,n⟩:=sh.at f;have ex:=mZ (l:=row) (i:=j) (d:=0) (by omega);obtain⟨e,l⟩:=m.getD f;have ep:=mZ (l:=b.getD i []) (i:=j) (d:=((0,0):Int×Int)) (by omega);rw[P3 k ex];exact kp i j _ _ (CG k ex) (CG e ep)
variable{rs cs:List Nat}
theorem J5{g:G}{δ:Ds}{o:p_}(h:Gw g δ β (λc b=>c=o/\b=β)):g δ β=on (o,β):=by
 obtain⟨c,b,e,rfl,rfl⟩:=h;exact e
theorem ii{t:Dn->M Bool}{d b h:G}{δ:Ds}{β1:Bg}{c:Bool}{Q:p_->Bg->Prop}(e:t (hW δ) β=on (.ok c,β1))(hc:c=Qr)(k:Gw (aG b h) δ β1 Q):Gw (aG (ss t d b) h) δ β Q:=by
 subst hc;exact ig e k
theorem zZ(l:List Nat){n:Nat}{δ:Dn}(b:l.length<=1000)(e:δ.getD n Qh=on (nL l)):u4 (aQ yA (ac (cK 1 [] (eP (ag n)) (iv 0) (λ_=>M.ret Qo) (nj (f2 (ltD) (ag 0) (fC (.int 0))))) (ax))) δ β=on (.ok Qr,β):=by
 have c:=bw (nv:=1) (c_:=[]) (it:=eP (ag n)) (tg:=iv 0) (f:=f2 (ltD) (ag 0) (fC (.int 0))) (δ:=δ) (β:=β) (nI l) D.int (λx=>D.bl (decide (x<0))) (dj (IJ e) rfl) (λx _=>⟨_,rfl,rfl⟩) (br (by rw[Qi];exact b));refine se (aj (aa c rfl) (any_map _ _)) (RE on (ZY.mpr λx d=>?_));obtain⟨n,_,rfl⟩:=QC.mp d;simp
theorem lS(l:List Nat):gl [nL l]=on (.int (l.length:Int)):=eJ (by rw[Qi,Qi])
theorem Ly(h:Nt0 rs cs):(iO K a).1 [nL rs,nL cs] β=on (.ok .non,β):=by
 obtain⟨b,c,d,e⟩:=h.nr;have c1:=h.c1;have c6:=h.c6;unfold iO
 dsimp only
 refine aJ ?_;refine ii (sj (io (vE rfl (aj rfl (lS rs)) rfl))) (by simp;omega) (bK ?_);refine ii (sj (io (vE rfl (aj rfl (lS cs)) rfl))) (by simp;omega) (bK ?_);refine ig (sf (zZ rs (by omega) rfl) (zZ cs (by omega) rfl)) (bK ?_);refine ii (io (dq (aj rfl (lO rs)) (aj rfl (lO cs)) ne_int)) (by rw[h.sm];simp) (bK ?_);exact ao (ii (io (dq (aj rfl (lO rs)) rfl gt_int)) (by simp;omega) (bK (bx ⟨rfl,rfl⟩)))
noncomputable abbrev B_(r c:Nat):List (List (Nat×Nat)):=QE r (QE c (0,40))
theorem J7(r c:Nat):pV (B_ r c)=sN r c:=by
 unfold pV B_ sN;rw[RY,RY];rfl
theorem KD(h:Nt0 rs cs):(dE K a).1 [.non,.int (rs.length:Int),.int (cs.length:Int)] β=on (.ok (B3 (B_ rs.length cs.length)),β):=by
 have b:=h.nr.2.1;have c6:=h.c6;unfold dE
 dsimp only
 refine aJ ?_;refine IO (io (dq rfl rfl rfl)) (aT (Ki rfl (mV (by omega) (by omega))) ⟨rfl,?_⟩);show SE (lG (gP _))=_;rw[J7];unfold sN gP;rw[RY,RY];rfl
theorem Kj(h:D2 rs):(iN K a).1 [nL rs] β=on (.ok .non,β):=by
 obtain⟨g,j,k,e⟩:=h;unfold iN
 dsimp only
 refine aJ ?_;refine aD (d:= .int 1) (β1:=β) rfl ?_;refine da (ds:=(nI rs).map D.int) (β1:=β) rfl (λi δ b=>β=b/\∃c,δ=[on (.sh (nL rs)),on (.sh (.int ((pr ((rs.take i).map (·+1)):Nat):Int))),c]) ⟨rfl,Qh,rfl⟩ ?_ ?_
 .rintro i d δ _ hd ⟨rfl,c,rfl⟩
  obtain⟨n,hn,rfl⟩:=sF hd;have f:=fm (Q1 hn);have l:=Qw (xy rs i) e;refine⟨_,rfl,ao (oE rfl (dq (z:= .int ((n+1:Nat):Int)) rfl rfl rfl) (cN (smN (by omega)) (smN (by omega))) (bx ⟨rfl,on (.sh (.int (n:Int))),?_⟩))⟩;rw[qr hn];rfl
 .rintro δ _ ⟨rfl,c,rfl⟩
  rw[pe,Ug];exact ao (ii (io (dq rfl rfl gt_int)) (by simp;omega) (bK (bx ⟨rfl,rfl⟩)))
structure X_ (a_:LI) (B:List (List (Nat×Nat))) (rs cs:List Nat):Prop extends Nt0 rs cs where
 shp:i4 rs.length cs.length a_
 rw1:a_.map RZ=nI rs
 cl1:(tp cs.length a_).map RZ=nI cs
 bok:BOk rs.length cs.length B
 kp:Kp a_ (pV B)
theorem rV{r c:Nat}{B:List (List (Nat×Nat))}(h:i4 r c B):i4 r c (pV B):=h.map
theorem X_.nt{a_:LI}{B:List (List (Nat×Nat))}(h:X_ a_ B rs cs):qk K a rs cs (wB B cs) (B3 B):=⟨h.toNt0,ON B cs,λ{β k r} b c e=>LA c (by rw[e];exact h.bok) (by rw[<-h.sm];exact h.nr.2.2.1) b⟩
theorem X_.fit{a_:LI}{B:List (List (Nat×Nat))}(h:X_ a_ B rs cs):(eV K a).1 [nL rs,nL cs,B3 B] β=on (.ok .non,β):=by
 have b:=h.nr.2.1;have c6:=h.c6;refine Nn (rV h.bok.1) (Qi _) (Qi _) (by omega) (by omega) λX Y=>?_;rw[<-h.rw1,<-h.cl1];exact Ks h.shp (rV h.bok.1) h.kp X Y
abbrev nFs(B:List (List (Nat×Nat)))(rs cs:List Nat):List D:=[nL rs,nL cs,B3 B,qJ (wB B cs) rs cs.length]
theorem Px{a_:LI}{B:List (List (Nat×Nat))}{d:D}(h:X_ a_ B rs cs)(hd:∀{β:Bg},(dE K a).1 [d,.int (rs.length:Int),.int (cs.length:Int)] β=on (.ok (B3 B),β)):pf K a [nL rs,nL cs,d] β=on (.ok (nFs B rs cs),β):=FA λx=>by
 have b:(db K a).1 [nL rs,nL cs,d] β=on (.ok (B3 B),β):=by
  unfold db
  dsimp only
  refine aJ ?_;exact ft (am rfl (Ly h.toNt0)) (aD (am (aa rfl (aa (aj rfl (lS rs)) (aa (aj rfl (lS cs)) rfl))) hd) (ft (am rfl (Kj h.nr)) (ao (aT rfl ⟨rfl,rfl⟩))))
 unfold uR;refine AW (g:=fV 4 _) (δ1:=[on (.sh (.adr x)),on (.sh (nL rs)),on (.sh (nL cs)),on (.sh d),on (.sh (B3 B))]) (β1:=β) (J5 (ao (aD (am rfl b) (bx ⟨rfl,rfl⟩)))) rfl rfl ?_;refine AW (δ1:=[on (.sh (.adr x)),on (.sh (nL rs)),on (.sh (nL cs)),on (.sh d),on (.sh (B3 B))]) (β1:=β) (J5 (ao (ft (am rfl h.fit) (bx ⟨rfl,rfl⟩)))) rfl rfl ?_;exact pB (aj rfl rfl) (pB (aj rfl rfl) (pB rfl (pB (am rfl (yq h.nt)) rfl)))
theorem K6{a_:LI}(h:X_ a_ (B_ rs.length cs.length) rs cs):pf K a [nL rs,nL cs,.non] β=on (.ok (nFs (B_ rs.length cs.length) rs cs),β):=Px h (KD h.toNt0)
theorem OJ{f:FD}{g:FL}{δ:Dn}{b:Bool}{ks:List fh}{vs:List D}{k z d:D}{y:fh}(c:f δ β=on (.ok (.dct b ks vs),β))(e:g δ β=on (.ok [k,z],β))(h:dC b k=on y)(i:la ks vs y=on d):u5 f g δ β=on (.ok d,β):=by
 unfold u5;rw[M.bind_ok c];simp only;rw[M.bind_ok e];simp only[h,i,Sh,ZH,M.ofO]
variable{W:Wy}{bd:D}
abbrev gi(a:Ad)(W:Wy)(bd:D)(rs cs:List Nat):D:= .obj a.Af ["row_list","column_list","pairs","counted"] [nL rs,nL cs,bd,qJ W rs cs.length]
theorem Le{b d:List fh}{c e:List D}{y:fh}(h:b.length=c.length):la (b++d) (c++e) y=(la b c y).or (la d e y):=by
 unfold la;rw[List.zip_append h,List.find?_append];cases(b.zip c).find? λp=>decide (p.1=y)<;>rfl
theorem JQ{f:List Nat->D}{u:List Nat}{k:Int}:∀{L:List (List Nat)},u∈L->la (L.map λr=>(k,nI r)) (L.map f) (k,nI u)=on (f u)
 |r::L,h=>by
  unfold la;rw[QB,QB,Sk,SN];by_cases q:r=u
  .rw[q,QL rfl];rfl
  .rw[Rk λe=>q (fK (TM.mp e).2)]
   exact JQ ((QD.mp h).resolve_left λe=>q e.symm)
theorem AE{f:List Nat->D}{y:fh}{k:Int}(h:k≠y.1):∀{L:List (List Nat)},la (L.map λr=>(k,nI r)) (L.map f) y=Qh
 |[]=>rfl
 |r::L=>by
  have ih:=AE (f:=f) h (L:=L);unfold la at ih⊢;rw[QB,QB,Sk,SN,Rk λe=>h (TM.mp e).1];exact ih
theorem AG{m k:Nat}{u:List Nat}(b:u∈hL W rs k):∀{L:List Nat},k∈L->la (L.flatMap λk=>(hL W rs k).map λr=>((k:Int),nI r)) (L.flatMap λk=>(hL W rs k).map (cv W m k)) ((k:Int),nI u)=on (cv W m k u)
 |j::L,h=>by
  rw[Sb,Sb,Le (by rw[Qi,Qi])];by_cases q:j=k
  .subst q
   rw[JQ b];rfl
  .rw[AE (by show(j:Int)≠(k:Int);omega),Option.none_or]
   exact AG b ((QD.mp h).resolve_left λe=>q e.symm)
theorem z_{k:Nat}{u:List Nat}(c:k<=cs.length)(b:u∈hL W rs k):la (kyW W rs (cs.length+1)) (Ox W rs cs.length) ((k:Int),nI u)=on (cv W cs.length k u):=AG b (QW.mpr (by omega))
theorem Nx{k:Nat}{u:List Nat}(c:k<=cs.length)(d:u∈hL W rs k):(jp K a).1 [gi a W bd rs cs,.int (k:Int),tN u] β=on (.ok (cv W cs.length k u),β):=
 aJ (ao (aT (OJ (kg rfl rfl) (aa (aj rfl fA) (aa (aj rfl fA) rfl)) (gm (b:=Qo) (k:=((k:Int),nI u)) λe=>(by cases e)) (z_ c d)) ⟨rfl,rfl⟩))
theorem MX{k:Nat}{u:List Nat}(b:k<=cs.length)(c:u∈hL W rs k):EE (.tup [.int (k:Int),tN u]) (qJ W rs cs.length)=on (.bl Qr):=by
 show(dC Qo (dK Qo ((k:Int),nI u))).map _=_;rw[gm λe=>(by cases e),Sh,z_ b c];rfl
theorem qk.nx{k:Nat}{r v:List Nat}(h:qk K a rs cs W bd)(b:r∈hL W rs k)(c:v∈W k r):less r v∈hL W rs (k+1):=jT.mpr ⟨r,b,v,c,rfl⟩
theorem OK{k:Nat}{r:List Nat}(h:qk K a rs cs W bd)(b:D2 r):(W k r).length<=500:=by
 have:=(h.ok k r).length_le;have:=kh r (cs.getD k 0);have:=xy r (r.length-1);rw[<-List.dropLast_eq_take]at this;have:=b.2.2.2;omega
abbrev sT(W:Wy)(cs:List Nat)(k:Nat)(r:List Nat):List (List Nat):=KX W (cs.length-(k+1)) k r
abbrev tB(W:Wy)(cs:List Nat)(k:Nat)(r v:List Nat):Nat:=ra W (cs.length-(k+1)) (k+1) (less r v)
theorem DH{k:Nat}{r:List Nat}(h:qk K a rs cs W bd)(d:k<cs.length)(b:r∈hL W rs k):(jD K a).1 [gi a W bd rs cs,.int (k:Int),tN r] β=on (.ok (.lst ((sT W cs k r).map tN)),β):=by
 obtain⟨c,f,g⟩:=h.at (by omega) b;unfold jD
 dsimp only
 refine aJ ?_;refine ii (sf (io (dq (aj rfl fA) (kg rfl rfl) (MX (by omega) b))) (io (dq rfl (aj (aa (kg rfl rfl) rfl) (lS cs)) eq_int))) (by simp;omega) (bK ?_);refine ao (aT (kT (W k r) tN tN (λv=>decide ((0:Int)<((tB W cs k r v:Nat):Int))) (dj (am (aa rfl (aa (kg rfl rfl) (aa (kg rfl rfl) (aa rfl rfl)))) (h.fl d c f)) rfl) (λv e=>⟨[on (tN v),on (gi a W bd rs cs),on (.int (k:Int)),on (tN r)],rfl,?_,λ_=>rfl⟩) (br ?_)) ⟨rfl,rfl⟩)
 .exact io (dq (dq (iD rfl (aa (x:= .int ((k+1:Nat):Int)) (dq rfl rfl rfl) (aa (am rfl (sB (cQ ((h.ok k r).subset e)) c.2.1)) rfl)) (Nx d (h.nx b e))) rfl iY) rfl gt_int)
 .have:=OK (k:=k) h c
  omega
theorem qu:(h9 K a).1 [gi a W bd rs cs] β=on (.ok (nL rs),β):=aJ (ao (aT (aj (aa (kg rfl rfl) rfl) rfl) ⟨rfl,rfl⟩))
theorem wl:(ff K a).1 [gi a W bd rs cs] β=on (.ok (nL cs),β):=aJ (ao (aT (aj (aa (kg rfl rfl) rfl) rfl) ⟨rfl,rfl⟩))
theorem yR(l:List Nat):tF [nL l]=on (tN l):=rfl
abbrev md(q:R4):D:= .tup [.int ((q.1:Nat):Int),.int ((q.2.1:Nat):Int),.int ((q.2.2.1:Nat):Int),.int ((q.2.2.2:Nat):Int)]
abbrev lK(c:Nat×Nat):D:= .tup [.int (c.1:Int),.int (c.2:Int)]
theorem JX{v:List Nat}{i:Nat}(h:i<v.length):jn (tN v) (.int (i:Int))=on (.int ((v.getD i 0:Nat):Int)):=by
 refine cV (xs:=(nI v).map D.int) ?_;rw[Qu,Qu,bR h,Ql h];rfl
theorem BT{c:Nat×Nat}{k:Nat}{v:List Nat}(b:c.1<v.length):(kB K a).1 [lK c,.int (k:Int),tN v] β=on (.ok (.int ((hc c.1 c.2 k v:Nat):Int)),β):=by
 unfold kB
 dsimp only
 refine aJ ?_;refine mr (β1:=β) rfl rfl (ao (aT (d:= .int ((hc c.1 c.2 k v:Nat):Int)) (β1:=β) ?_ ⟨rfl,rfl⟩));by_cases q:c.2=k
 .rw[show hc c.1 c.2 k v=v.getD c.1 0 from Qt q]
  exact IK (β1:=β) (io (dq rfl rfl (eq_int.trans (by rw[QL (by rw[q])])))) (dq rfl rfl (JX b))
 .rw[show hc c.1 c.2 k v=0 from Qp q]
  exact IL (β1:=β) (io (dq rfl rfl (eq_int.trans (by rw[Rk (by omega)])))) rfl
theorem J4{i j k:Nat}{v:List Nat}(h:v.sum<=40):hc i j k v<=40:=by
 show(if j=k then _ else _)<=_;split
 .rcases Vi i v.length with z|z
  .rw[bR z];exact Qw (fm (Rp z)) h
  .rw[Qn,Tc z];exact RB _
 .exact RB _
theorem CY{x y z u:D}:jt [x,y,z,u]=on (.tup [x,y,z,u]):=by
 unfold jt;rw[Qt (br (by show 4<=1000;decide))]
theorem MB{c d:Nat×Nat}{k:Nat}{v:List Nat}{q:R4}(o:v.sum<=40)(g:q.1<=2^200)(l:q.2.1<=2^200)(n:q.2.2.1<=2^200)(F:q.2.2.2<=2^200):(nV K a).1 [md q,.int ((hc c.1 c.2 k v:Nat):Int),.int ((hc d.1 d.2 k v:Nat):Int),.int ((mu v:Nat):Int)] β=on (.ok (md (rM q (cf c d k v))),β):=by
 have hm:mu v<=2^200:=Qw (kK o) (SK (by decide) (by decide));have ha:hc c.1 c.2 k v<=40:=J4 o;have H:hc d.1 d.2 k v<=40:=J4 o;unfold cf;generalize hc c.1 c.2 k v=h at ha⊢;generalize hc d.1 d.2 k v=t at H⊢;generalize mu v=m at hm⊢;obtain⟨x,y,z,u⟩:=q;simp only at g l n F;have j:∀{p q A B:Nat},p<=2^A->q<=2^B->p*q<=2^(A+B):=λr C=>by rw[WC];exact R9 r C
 have I:∀{p q A:Nat},p<=2^A->q<=2^A->p+q<=2^(A+1):=λr C=>by rw[YI];omega
 have i:∀{p A:Nat} (B:Nat),p<=2^A->A<=B->p<=2^B:=λB e h=>Qw e (SK (by decide) h);have b:h<=2^6:=Qw ha (by decide);have f:t<=2^6:=Qw H (by decide);have L:∀{p A:Nat},p<=2^A->A<=999->p<2^1000:=λe h=>ck e h;have J:=I (i 206 l (by decide)) (i 206 (j b g) (by decide));have N:=I (i 206 n (by decide)) (i 206 (j f g) (by decide));have O:=j (j b f) g;have Q:u+h*z+t*y+h*t*x<=2^215:=by
  have r:=i 212 F (by decide);have C:=i 212 (j b n) (by decide);have R:=i 212 (j f l) (by decide);have T:=i 212 O (by decide);have:(2:Nat)^215=2^212*8:=by rw[show(215:Nat)=212+3 from rfl,WC]
  omega
 unfold nV
 dsimp only
 refine aJ (mr (β1:=β) rfl rfl (ao (aT (β1:=β) (aj (aa (dq rfl rfl (cN (L hm (by decide)) (L g (by decide)))) (aa (dq rfl (dq rfl (dq rfl rfl (cN (L b (by decide)) (L g (by decide)))) oy) (cN (L hm (by decide)) (L J (by decide)))) (aa (dq rfl (dq rfl (dq rfl rfl (cN (L f (by decide)) (L g (by decide)))) oy) (cN (L hm (by decide)) (L N (by decide)))) (aa (dq rfl (dq (dq (dq rfl (dq rfl rfl (cN (L b (by decide)) (L n (by decide)))) oy) (dq rfl rfl (cN (L f (by decide)) (L l (by decide)))) oy) (dq (dq rfl rfl (cN (L b (by decide)) (L f (by decide)))) rfl (cN (L (j b f) (by decide)) (L g (by decide)))) oy) (cN (L hm (by decide)) (L Q (by decide)))) rfl)))) CY) ⟨rfl,?_⟩)));have e:(m*x,m*(y+h*x),m*(z+t*x),m*(u+h*z+t*y+h*t*x))=rM (x,y,z,u) (m,m*h,m*t,m*(h*t)):=by
  unfold rM;refine RW ?_ (RW ?_ (RW ?_ ?_))<;>simp only[Uc,Re,Rh,Rj,U2,UJ,Tq]
 rw[<-e]
theorem Mh{p q:R4}:(iM K a).1 [md p,md q] β=on (.ok (md (rA p q)),β):=by
 unfold iM
 dsimp only
 refine aJ (ao (aT (β1:=β) (aj (as:=[.lst [.int ((p.1+q.1:Nat):Int),.int ((p.2.1+q.2.1:Nat):Int),.int ((p.2.2.1+q.2.2.1:Nat):Int),.int ((p.2.2.2+q.2.2.2:Nat):Int)]]) (aa ?_ rfl) rfl) ⟨rfl,rfl⟩));exact bw [(p.1,q.1),(p.2.1,q.2.1),(p.2.2.1,q.2.2.1),(p.2.2.2,q.2.2.2)] (λp=>D.tup [.int (p.1:Int),.int (p.2:Int)]) (λp=>D.int ((p.1+p.2:Nat):Int)) (oA (x:=md p) (y:=md q) rfl rfl rfl rfl) (λp _=>⟨[on (.int (p.1:Int)),on (.int (p.2:Int))],rfl,rfl⟩) (br (by show 4<=1000;decide))
abbrev u0(L:NL):List fh:=L.map λp=>((0:Int),nI p.1)
abbrev wh(L:NL):List D:=L.map λp=>md p.2
abbrev U_(L:NL):D:= .dct Qr (u0 L) (wh L)
theorem JR{u:List Nat}:∀{L:NL},(la (u0 L) (wh L) (0,nI u)).getD (md r0)=md (H_ L u)
 |[]=>rfl
 |p::L=>by
  have ih:=JR (u:=u) (L:=L);unfold la at ih⊢;unfold H_ u0 wh;rw[QB,QB,Sk,SN];by_cases q:p.1=u
  .rw[Qt q,QL (by rw[q])];rfl
  .rw[Qp q,Rk λe=>q (fK (TM.mp e).2)]
   exact ih
theorem mM{u:List Nat}{L:NL}:((0:Int),nI u)∈u0 L↔u∈L.map (·.1):=by
 constructor
 .intro h
  obtain⟨p,b,e⟩:=QC.mp h;exact QC.mpr ⟨p,b,fK (TM.mp e).2⟩
 .intro h
  obtain⟨p,b,rfl⟩:=QC.mp h;exact QC.mpr ⟨p,b,rfl⟩
theorem xW(L:NL):u0 L=(L.map (·.1)).map λu=>((0:Int),nI u):=by rw[QG];rfl
theorem L9{u:List Nat}{q:R4}{L:NL}:R_ (u0 L) (0,nI u)=u0 (o1 L u q):=by
 unfold R_;rw[xW (o1 L u q),m5];by_cases z:u∈L.map (·.1)
 .rw[Qt (mM.mpr z),Qt z,xW]
 .rw[Qp λw=>z (mM.mp w),Qp z,Rg,xW];rfl
theorem L8{u:List Nat}{q:R4}{L:NL}(nd:(L.map (·.1)).Nodup):Q_ (u0 L) (wh L) (0,nI u) (md (rA (H_ L u) q))=wh (o1 L u q):=by
 unfold Q_;by_cases z:u∈L.map (·.1)
 .rw[Qt (mM.mpr z),Kd nd z]
  unfold u0 wh;rw[List.zip_map',QG,QG];refine Ra λp _=>?_;show(if((0:Int),nI p.1)=(0,nI u)then _ else _)=md (if p.1=u then _ else p).2;by_cases y:p.1=u
  .rw[Qt (by rw[y]),Qt y]
  .rw[Qp λe=>y (fK (TM.mp e).2),Qp y]
 .obtain⟨b,c⟩:=CK (q:=q) z
  rw[Qp λw=>z (mM.mp w),b,c,xx];unfold wh;rw[Rg];rfl
theorem LG{f:FD}{g:FL}{δ:Dn}{b:Bool}{ks:List fh}{vs:List D}{k z d:D}{y:fh}(c:f δ β=on (.ok (.dct b ks vs),β))(e:g δ β=on (.ok [k,z],β))(h:dC b k=on y)(i:(la ks vs y).getD z=d):u5 f g δ β=on (.ok d,β):=by
 unfold u5;rw[M.bind_ok c];show M.bind (g δ) _ β=_;rw[M.bind_ok e];show M.ofO ((dC b k).map _) β=_;rw[h,Sh,i];rfl
theorem OM{i:Nat}{b:Bool}{h:G}{δ:Ds}{Q:p_->Bg->Prop}(k:Gw h (δ.set i (on (.odc b [] []))) β Q):Gw (aG (Nm i b) h) δ β Q:=c9 rfl k
theorem LJ{i:Nat}{c e:FD}{h:G}{δ:Ds}{Q:p_->Bg->Prop}{d kd:D}{b:Bool}{ks:List fh}{vs:List D}{k:fh}{β1 β2:Bg}(f:e (hW δ) β=on (.ok d,β1))(g:c (hW δ) β1=on (.ok kd,β2))(j:δ.getD i Qh=on (.odc b ks vs))(l:dC b kd=on k)(hn:noL d=Qo)(m:ks.length<QN)(n:Gw h (δ.set i (on (.odc b (R_ ks k) (Q_ ks vs k d)))) β2 Q):Gw (aG (sM i c e) h) δ β Q:=
 c9 (by unfold sM;simp only[f,g,j,l,hn,QL m,UR,RF]) n
theorem OI{f:FD}{δ:Dn}{L:NL}(e:f δ β=on (.ok (U_ L),β)):EG f δ β=on (.ok (L.map λp=> .tup [tN p.1,md p.2]),β):=by
 unfold EG;rw[M.bind_ok e];show on (SE (TL _ (u0 L) (wh L)),β)=_;unfold u0 wh;rw[List.zipWith_map,Z4];rfl
abbrev sbS(a:Ad)(W:Wy)(bd:D)(rs cs:List Nat)(c d:Nat×Nat)(k:Nat)(L B:NL)(e f g h b:Option Sl):Ds:=[on (.sh (gi a W bd rs cs)),on (.sh (lK c)),on (.sh (lK d)),on (.sh (.int (k:Int))),on (.sh (U_ L)),on (.odc Qr (u0 B) (wh B)),e,f,g,h,b]
theorem O4{c d:Nat×Nat}{k:Nat}{L:NL}{S:R4}(h:qk K a rs cs W bd)(X:k<cs.length)(hc:c.1<rs.length)(hd:d.1<rs.length)(n:v1 W rs (cs.length-k) k L)(e:pa W c d (cs.length-k) k L=S)(Y:S.1<=2^200)(Z:S.2.1<=2^200)(s3:S.2.2.1<=2^200)(s4:S.2.2.2<=2^200):(hV K a).1 [gi a W bd rs cs,lK c,lK d,.int (k:Int),U_ L] β=on (.ok (U_ (x_ W c d (cs.length-(k+1)) k [] L)),β):=by
 have H:∀{B:NL},v1 W rs (cs.length-(k+1)) (k+1) B->B.length<1000:=λ{B} F=>by
  have:=F.len;have:=uG h (k:=k+1) (by omega);omega
 have n0:v1 W rs (cs.length-(k+1)) (k+1) []:=⟨WA,λ_ h=>(by cases h),λ_ h=>(by cases h)⟩;unfold hV
 dsimp only
 refine aJ (OM ?_);show Gw _ (sbS a W bd rs cs c d k L [] Qh Qh Qh Qh Qh) β _;refine da (ds:=L.map λp=> .tup [tN p.1,md p.2]) (β1:=β) (OI rfl) (λi δ o=>β=o/\∃I J g m f,δ=sbS a W bd rs cs c d k L (x_ W c d (cs.length-(k+1)) k [] (L.take i)) I J g m f) ⟨rfl,Qh,Qh,Qh,Qh,Qh,rfl⟩ ?_ ?_
 .rintro i dd δ _ r ⟨rfl,I,J,g,m,f,rfl⟩
  obtain⟨p,R,rfl⟩:=fN r;have u:=Q1 R;have t:=n.lv p.1 (QC.mpr ⟨p,u,rfl⟩);obtain⟨n1,n2,n3⟩:=h.at (by omega) t;obtain⟨b1,b2,b3,b4⟩:=Pg n e u;have F:v1 W rs (cs.length-(k+1)) (k+1) (x_ W c d (cs.length-(k+1)) k [] (L.take i)):=xE (λq hq=>n.lv q.1 (QC.mpr ⟨q,Wz hq,rfl⟩)) n0;have eB:x_ W c d (cs.length-(k+1)) k [] (L.take (i+1))=vl W c d k p (x_ W c d (cs.length-(k+1)) k [] (L.take i)) (sT W cs k p.1):=by
   unfold x_;rw[VJ,R];show WT _ _ (_++[p])=_;rw[Z0];rfl
  rw[eB];generalize x_ W c d (cs.length-(k+1)) k [] (L.take i)=B at F;refine⟨sbS a W bd rs cs c d k L B (on (.sh (tN p.1))) (on (.sh (md p.2))) g m f,rfl,?_⟩;refine ao (da (ds:=(sT W cs k p.1).map tN) (β1:=β) (dj (iD rfl rfl (DH h X t)) rfl) (λj δ o=>β=o/\∃g m f,δ=sbS a W bd rs cs c d k L (vl W c d k p B ((sT W cs k p.1).take j)) (on (.sh (tN p.1))) (on (.sh (md p.2))) g m f) ⟨rfl,g,m,f,rfl⟩ ?_ ?_)
  .rintro j dd δ _ r ⟨rfl,g,m,f,rfl⟩
   obtain⟨v,T,rfl⟩:=fN r;have N:=Q1 T;have O:=(Sm.mp N).1;have le:=cQ ((h.ok k p.1).subset O);have A:v.sum<=40:=Qw le.sum n3;have lv:v.length=rs.length:=by rw[le.len];exact n2
   have Q:v1 W rs (cs.length-(k+1)) (k+1) (vl W c d k p B ((sT W cs k p.1).take j)):=x9 t (λw O=>Wz O) F;have eC:vl W c d k p B ((sT W cs k p.1).take (j+1))=o1 (vl W c d k p B ((sT W cs k p.1).take j)) (less p.1 v) (rM p.2 (cf c d k v)):=by
    unfold vl;rw[VJ,T];show WT _ _ (_++[v])=_;rw[Z0];rfl
   rw[eC];generalize vl W c d k p B ((sT W cs k p.1).take j)=C at Q;have U:=vG (K:=K) (a:=a) (β:=β) (l:=v) (cd:=tN v) (.inr rfl) A;rw[tw]at U;refine⟨_,rfl,aD (d:=tN (less p.1 v)) (β1:=β) (am rfl (sB le n1.2.1)) (aD (d:=md (rM p.2 (cf c d k v))) (β1:=β) (am (aa rfl (aa (am rfl (BT (by omega))) (aa (am rfl (BT (by omega))) (aa (am rfl U) rfl)))) (MB A (Qw b1 Y) (Qw b2 Z) (Qw b3 s3) (Qw b4 s4))) (ao (LJ (d:=md (rA (H_ C (less p.1 v)) (rM p.2 (cf c d k v)))) (kd:=tN (less p.1 v)) (β1:=β) (β2:=β) (b:=Qr) (ks:=u0 C) (vs:=wh C) (k:=(0,nI (less p.1 v))) (am (aa (LG (b:=Qr) (ks:=u0 C) (vs:=wh C) (y:=(0,nI (less p.1 v))) (z:=md r0) rfl (aa rfl (aa (aj rfl CY) rfl)) (gm (b:=Qr) (k:=(0,nI (less p.1 v))) λ_=>rfl) JR) (aa rfl rfl)) Mh) rfl rfl (gm (b:=Qr) (k:=(0,nI (less p.1 v))) λ_=>rfl) rfl (QY (show _<1000 by rw[Qi];exact H Q) (by decide)) (bx ⟨rfl,on (.sh (tN v)),on (.sh (tN (less p.1 v))),on (.sh (md (rM p.2 (cf c d k v)))),?_⟩))))⟩;rw[L9 (q:=rM p.2 (cf c d k v)),L8 Q.nd];rfl
  .rintro δ _ ⟨rfl,g,m,f,rfl⟩
   rw[Qi,Ug];exact bx ⟨rfl,_,_,_,_,_,rfl⟩
 .rintro δ _ ⟨rfl,I,J,g,m,f,rfl⟩
  rw[Qi,Ug];exact ao (aT rfl ⟨rfl,rfl⟩)
theorem OH{u:List Nat}(h:u.sum=0):u=QE u.length 0:=List.eq_replicate_iff.mpr ⟨rfl,λx b=>by have:=fm b;omega⟩
theorem IY{c d:Nat×Nat}{S:R4}(h:qk K a rs cs W bd)(hc:c.1<rs.length)(hd:d.1<rs.length)(p:0<ra W cs.length 0 rs)(e:TW W c d cs.length 0 rs=S)(r:S.1<=2^200)(t:S.2.1<=2^200)(v:S.2.2.1<=2^200)(l:S.2.2.2<=2^200):(cX K a).1 [gi a W bd rs cs,lK c,lK d] β=on (.ok (md S),β):=by
 have c6:=h.c6;have H:=h.nr.2.1;have y:0<S.1:=by rw[<-e];exact pX p
 unfold cX
 dsimp only
 refine aJ (aD (d:=U_ [(rs,r1)]) (β1:=β) (dq (aj (aa (iD rfl rfl qu) rfl) (yR rs)) (aj rfl CY) ?_) ?_)
 .show(dC Qr (dK Qr (0,nI rs))).map _=_
  rw[gm λ_=>rfl];rfl
 refine da (ds:=aU 0 cs.length) (β1:=β) (bG (aa (aj (aa (iD rfl rfl wl) rfl) (lS cs)) rfl) (xr (by omega) (by omega))) (λk δ m=>β=m/\∃L l,δ=[on (.sh (gi a W bd rs cs)),on (.sh (lK c)),on (.sh (lK d)),on (.sh (U_ L)),l]/\(k<=cs.length->v1 W rs (cs.length-k) k L/\pa W c d (cs.length-k) k L=S)) ⟨rfl,[(rs,r1)],Qh,rfl,λ_=>⟨⟨R8 _ _,λu g=>?_,λu g=>?_⟩,?_⟩⟩ ?_ ?_
 .rw[Q5.mp g];exact Q5.mpr rfl
 .rw[Q5.mp g];exact p
 .show rA (rM r1 (TW W c d cs.length 0 rs)) r0=S
  rw[xw,r1_M,e]
 .rintro k I δ _ n ⟨rfl,L,o,rfl,j⟩
  obtain⟨A,rfl⟩:=sy n;obtain⟨b,i⟩:=j (by omega);refine⟨_,rfl,ao (aD (d:=U_ (x_ W c d (cs.length-(k+1)) k [] L)) (β1:=β) (am rfl (O4 h A hc hd b i r t v l)) (bx ⟨rfl,x_ W c d (cs.length-(k+1)) k [] L,on (.sh (.int (k:Int))),rfl,λ_=>⟨xE (λq B=>b.lv q.1 (QC.mpr ⟨q,B,rfl⟩)) ⟨WA,λ_ h=>(by cases h),λ_ h=>(by cases h)⟩,?_⟩⟩))⟩;rw[JM,show cs.length-(k+1)+1=cs.length-k by omega,i];exact xx S
 .rintro δ _ ⟨rfl,L,o,rfl,j⟩
  rw[lF]at j;obtain⟨b,i⟩:=j (Qz _);rw[Vl]at b i;have one:=EA (z:=QE rs.length 0) b.nd i y λu g=>by
   obtain⟨q1,q2⟩:=iU h.ok h.sm cs.length (Qz _) u (b.lv u g);rw[SL (Qz _)]at q2;rw[OH q2,q1.len]
  subst one;have C:∀{δ:Dn} {f:FL},f δ β=on (.ok ((nI rs).map D.int),β)->cK 1 [] f (iv 0) (λ_=>M.ret Qo) (nj (fC (.int 0))) δ β=on (.ok (nL (QE rs.length 0)),β):=λ{δ f} F=>by
   have:=bw (nv:=1) (c_:=[]) (tg:=iv 0) (f:=fC (.int 0)) (δ:=δ) (β:=β) (nI rs) D.int (λ_=> .int 0) F (λx _=>⟨_,rfl,rfl⟩) (br (by rw[Qi];omega));refine this.trans ?_;rw[Wj,Qi];show _=on (SE (D.lst (SA D.int (SA _ (QE _ 0)))),β);rw[RY,RY];rfl
  refine ao (aT (β1:=β) (dq rfl (aj (aa (C (dj (iD rfl rfl qu) rfl)) rfl) (yR _)) ?_) ⟨rfl,rfl⟩);show(dC Qr (dK Qr (0,nI (QE rs.length 0)))).bind _=_;rw[gm λ_=>rfl];show la [_] [_] _=_;unfold la;rw[Sk,SN,QL rfl];rfl
theorem OL{i j:Nat}{f:FL}{c d:D}{h:G}{δ:Ds}{β1:Bg}{Q:p_->Bg->Prop}(e:f (vw δ) β=on (.ok [c,d],β1))(k:Gw h ((δ.set i (on (.sh c))).set j (on (.sh d))) β1 Q):Gw (aG (yb i j f) h) δ β Q:=c9 (by unfold yb;rw[e]) k
theorem JO{x y:Nat}(h:0<y):MZ (.int (x:Int)) (.int (y:Int))=on (.int ((x % y:Nat):Int)):=by
 show(if decide ((0:Int)<(y:Int))=Qo then _ else _)=_;rw[Qt (QL (by omega))];rfl
theorem BF{x y:Nat}:Rz y (x % y)=Rz x y:=by rw[Nat.gcd_comm x y,Nat.gcd_rec y x,Nat.gcd_comm]
theorem LB(x y:Nat):(fG K a).1 [.int (x:Int),.int (y:Int)] β=on (.ok (.int ((Rz x y:Nat):Int)),β):=by
 unfold fG
 dsimp only
 refine aJ ?_;refine vH (λq δ d=>β=d/\∃c b:Nat,δ=[on (.sh (.int (c:Int))),on (.sh (.int (b:Int)))]/\b=q/\Rz c b=Rz x y) ?_ y _ β ⟨rfl,x,y,rfl,rfl,rfl⟩;rintro q δ _ ⟨rfl,c,b,rfl,rfl,e⟩;by_cases z:b=0
 .subst z
  exact .inl ⟨β,(io (dq rfl rfl gt_int)).trans (by rw[Rk (by omega)]),ao (aT rfl ⟨rfl,by rw[<-e,Z5]⟩)⟩
 .exact .inr ⟨β,(io (dq rfl rfl gt_int)).trans (by rw[QL (by omega)]),ao (OL (β1:=β) (aa rfl (aa (dq rfl rfl (JO (by omega))) rfl)) (bx ⟨_,rfl,c % b,Wn _ (by omega),rfl,b,c % b,rfl,rfl,BF.trans e⟩))⟩
theorem Nh(x y:Nat):(qo K a).1 [.int (x:Int),.int (y:Int)] β=on (.ok (.int ((Rz x y:Nat):Int)),β):=by
 unfold qo
 dsimp only
 refine aJ ?_;refine vH (λq δ d=>β=d/\∃c b:Nat,∃f,δ=[on (.sh (.int (c:Int))),on (.sh (.int (b:Int))),f]/\b=q/\Rz c b=Rz x y) ?_ y _ β ⟨rfl,x,y,Qh,rfl,rfl,rfl⟩;rintro q δ _ ⟨rfl,c,b,f,rfl,rfl,e⟩;by_cases z:b=0
 .subst z
  exact .inl ⟨β,(io (dq rfl rfl gt_int)).trans (by rw[Rk (by omega)]),ao (aT rfl ⟨rfl,by rw[<-e,Z5]⟩)⟩
 .exact .inr ⟨β,(io (dq rfl rfl gt_int)).trans (by rw[QL (by omega)]),aD (β1:=β) (dq rfl rfl (JO (by omega))) (aD (β1:=β) rfl (ao (aD (β1:=β) rfl (bx ⟨_,rfl,c % b,Wn _ (by omega),rfl,b,c % b,on (.sh (.int ((c % b:Nat):Int))),rfl,rfl,BF.trans e⟩))))⟩
abbrev dA(p q:Nat):D:= .tup [.int ((p/Rz p q:Nat):Int),.int ((q/Rz p q:Nat):Int)]
theorem JP{p q:Nat}(b:0<q)(h:q<2^1000):(kx K a).1 [.int (p:Int),.int (q:Int)] β=on (.ok (dA p q),β):=by
 have c:0<Rz p q:=Tt _ b;have e:Rz p q<2^1000:=Sn (Xo _ b) h;unfold kx
 dsimp only
 refine aJ (ii (io (dq rfl rfl lt_int)) (by simp;omega) (bK ?_));exact aD (d:= .int ((Rz p q:Nat):Int)) (β1:=β) (am (aa (aj (z:= .int (p:Int)) rfl rfl) (aa rfl rfl)) (LB p q)) (ao (aT (aj (aa (dq rfl rfl (pL c e)) (aa (dq rfl rfl (pL c e)) rfl)) fA) ⟨rfl,rfl⟩))
theorem uI{p q:Nat}(b:0<q)(h:q<2^1000):(kz K a).1 [.int (p:Int),.int (q:Int)] β=on (.ok (dA p q),β):=by
 have c:0<Rz p q:=Tt _ b;have e:Rz p q<2^1000:=Sn (Xo _ b) h;unfold kz
 dsimp only
 exact aJ (aD (d:= .int ((Rz p q:Nat):Int)) (β1:=β) (am (aa (aj (z:= .int (p:Int)) rfl rfl) (aa rfl rfl)) (Nh p q)) (ao (aT (aj (aa (dq rfl rfl (pL c e)) (aa (dq rfl rfl (pL c e)) rfl)) fA) ⟨rfl,rfl⟩)))
theorem tK{n m:Nat}(h:n<m):(hZ K a).1 [.int (n:Int),.int (m:Int)] β=on (.ok .non,β):=by
 unfold hZ
 dsimp only
 exact aJ (ao (ii (sj (io (yH rfl rfl rfl))) (by simp;omega) (bK (bx ⟨rfl,rfl⟩))))
theorem qM{c:Nat×Nat}(b:c.1<rs.length)(d:c.2<cs.length):(dT K a).1 [gi a W bd rs cs,lK c] β=on (.ok .non,β):=by
 have e:∀{β:Bg},(iP K a).1 [.int (c.1:Int),.int (c.2:Int),.int (rs.length:Int),.int (cs.length:Int)] β=on (.ok .non,β):=λ{β}=>by
  unfold iP
  dsimp only
  exact aJ (ft (β1:=β) (am rfl (tK b)) (ao (ft (β1:=β) (am rfl (tK d)) (bx ⟨rfl,rfl⟩))))
 unfold dT
 dsimp only
 exact aJ (mr (β1:=β) rfl rfl (ao (ft (β1:=β) (am (aa rfl (aa rfl (aa (aj (aa (iD rfl rfl qu) rfl) (lS rs)) (aa (aj (aa (iD rfl rfl wl) rfl) (lS cs)) rfl)))) e) (bx ⟨rfl,rfl⟩))))
theorem Ph{c d:Nat×Nat}{S:R4}(h:qk K a rs cs W bd)(hc:c.1<rs.length)(b:c.2<cs.length)(hd:d.1<rs.length)(f:d.2<cs.length)(g:0<ra W cs.length 0 rs)(e:TW W c d cs.length 0 rs=S)(i:S.1<=2^200)(j:S.2.1<=2^200)(k:S.2.2.1<=2^200)(l:S.2.2.2<=2^200):(gr K a).1 [gi a W bd rs cs,lK c,lK d] β=on (.ok (dA S.2.2.2 S.1),β):=by
 have m:0<S.1:=by rw[<-e];exact pX g
 unfold gr
 dsimp only
 exact aJ (ft (β1:=β) (am rfl (qM hc b)) (ft (β1:=β) (am rfl (qM hd f)) (mr (β1:=β) (am rfl (IY h hc hd g e i j k l)) rfl (ao (aT (am rfl (JP m (ck i (by decide)))) ⟨rfl,rfl⟩)))))
theorem Py{c:Nat×Nat}{S:R4}(h:qk K a rs cs W bd)(hc:c.1<rs.length)(b:c.2<cs.length)(f:0<ra W cs.length 0 rs)(e:TW W c c cs.length 0 rs=S)(g:S.1<=2^200)(i:S.2.1<=2^200)(j:S.2.2.1<=2^200)(k:S.2.2.2<=2^200):(oY K a).1 [gi a W bd rs cs,.int (c.1:Int),.int (c.2:Int)] β=on (.ok (dA S.2.1 S.1),β):=by
 have l:0<S.1:=by rw[<-e];exact pX f
 unfold oY
 dsimp only
 exact aJ (aD (d:=lK c) (β1:=β) (aj rfl fA) (ft (β1:=β) (am rfl (qM hc b)) (mr (β1:=β) (am rfl (IY h hc hc f e g i j k)) rfl (ao (aT (am rfl (JP l (ck g (by decide)))) ⟨rfl,rfl⟩)))))
theorem dJ(ok:β.ok){lot:Nat}(d:0<lot)(e:lot<1073741824):∃(v:Nat) (b:Bg),bZ [.bag,.int (lot:Int)] β=on (.ok (.int (v:Int)),b)/\v<lot/\b.ok:=by
 obtain⟨v,b,p,f,g,c⟩:=jR ok (lot:=(lot:Int)) (by omega) (by omega);obtain⟨v,rfl⟩:∃n:Nat,v=(n:Int):=⟨v.toNat,by omega⟩;exact⟨v,b,p,by omega,c⟩
theorem sR(b c:Nat):fZ (.int (b:Int)) (.int (c:Int))=on (.int ((b+c:Nat):Int)):=rfl
theorem x_oA{op:List D->Option (List D)}{g:FL}{δ:Dn}{β1:Bg}{as b:List D}(c:g δ β=on (.ok as,β1))(d:op as=on b):sD op g δ β=on (.ok b,β1):=by
 unfold sD;rw[M.bind_ok c,d];rfl
theorem LK{i:Nat}{f:FL}{a_:List (List D)}{ds:List D}{δ:Ds}{β1:Bg}{h:G}{Q:p_->Bg->Prop}(b:δ.getD i Qh=on (.grd a_))(e:f (vw δ) β=on (.ok ds,β1))(c:noLs ds=Qo)(d:a_.all noLs=Qo)(g:a_.length<QN)(k:Gw h (δ.set i (on (.grd (a_++[ds])))) β1 Q):Gw (aG (pK i f) h) δ β Q:=
 c9 (by unfold pK;simp only[b,e,c,d,QL g,UR,RF]) k
theorem wg(a_:LI):(gI a_).all noLs=Qo:=Tw.mpr λx b=>by
 obtain⟨r,_,rfl⟩:=QC.mp b;exact gH r
structure B9 (a_:LI) (c:Nat) (rs:List Nat):Prop where
 shp:i4 rs.length c a_
 nn:∀row∈a_,∀x∈row,0<=x
 sm:a_.map RZ=nI rs
 c1:1<=c
 c6:c<=6
 nr:D2 rs
 wd:pr (rs.dropLast.map (·+1))<63
theorem oG:∀{xs:List Int},(∀x∈xs,0<=x)->∃l:List Nat,xs=nI l
 |[],_=>⟨[],rfl⟩
 |x::xs,h=>by
  obtain⟨l,e⟩:=oG λy b=>h y (Qk _ b);have:=h x Qq;exact⟨x.toNat::l,by rw[e];show _=((x.toNat:Nat):Int)::_;rw[Int.toNat_of_nonneg this]⟩
theorem few2:∀x<41,∀y<41-x,(x+1)*((y+1)*1)<=500/\(x+1)*1<63:=by decide
theorem few3:∀x<12,∀y<12-x,∀z<12-x-y,(x+1)*((y+1)*((z+1)*1))<=500/\(x+1)*((y+1)*1)<63:=by decide
theorem few4:∀x<9,∀y<9-x,∀z<9-x-y,∀w<9-x-y-z,(x+1)*((y+1)*((z+1)*((w+1)*1)))<=500/\(x+1)*((y+1)*((z+1)*1))<63:=by decide
theorem few:∀{rs:List Nat},(rs.length=1/\rs.sum<=40)\/(rs.length=2/\rs.sum<=40)\/(rs.length=3/\rs.sum<=11)\/(rs.length=4/\rs.sum<=8)->D2 rs/\pr (rs.dropLast.map (·+1))<63
 |[x],h=>by
  have q:x<=40:=by simp at h;omega
  exact⟨⟨by show 1<=1;decide,by show 1<=4;decide,by simp at h⊢;omega,by show(x+1)*1<=500;omega⟩,by show 1<63;decide⟩
 |[x,y],h=>by
  have q:=few2 x (by simp at h;omega) y (by simp at h;omega);exact⟨⟨by show 1<=2;decide,by show 2<=4;decide,by simp at h⊢;omega,q.1⟩,q.2⟩
 |[x,y,z],h=>by
  have q:=few3 x (by simp at h;omega) y (by simp at h;omega) z (by simp at h;omega);exact⟨⟨by show 1<=3;decide,by show 3<=4;decide,by simp at h⊢;omega,q.1⟩,q.2⟩
 |[x,y,z,w],h=>by
  have q:=few4 x (by simp at h;omega) y (by simp at h;omega) z (by simp at h;omega) w (by simp at h;omega);exact⟨⟨by show 1<=4;decide,by show 4<=4;decide,by simp at h⊢;omega,q.1⟩,q.2⟩
 |[],h=>by simp at h
 |_::_::_::_::_::_,h=>by simp at h
abbrev gdS(r c t:Nat)(a_:LI)(b d e:Option Sl):Ds:=[on (.sh .bag),on (.sh (.int (r:Int))),on (.sh (.int (c:Int))),on (.sh (.int (t:Int))),on (.grd (gI a_)),b,d,e]
theorem n9{r c t:Nat}(ok:β.ok)(r0:1<=r)(r1:r<=4)(c1:1<=c)(c6:c<=6)(C:(r=2/\t<=40)\/(r=3/\t<=11)\/(r=4/\t<=8)):∃(a_:LI) (rs:List Nat) (j:Bg),d8 K a [.bag,.int (r:Int),.int (c:Int),.int (t:Int)] β=on (.ok (gI a_),j)/\B9 a_ c rs/\j.ok:=by
 suffices h:∃g j,d8 K a [.bag,.int (r:Int),.int (c:Int),.int (t:Int)] β=on (.ok g,j)/\(∃(a_:LI) (rs:List Nat),g=gI a_/\B9 a_ c rs/\j.ok) by
  obtain⟨g,j,e,a_,rs,rfl,H,I⟩:=h;exact⟨a_,rs,j,e,H,I⟩
 refine qN ?_;unfold lY;refine wX (a_:=(Qy r).map λ_=>QE c (D.int 0)) (β1:=β) (BR (Qy r) (λi=>D.int (0+(i:Int))) _ (bG (ds:=aU 0 r) rfl (xr (by omega) (by omega))) (λx _=>⟨_,rfl,Pr (x:= .int 0) (c:=c) rfl rfl (by omega)⟩) (br (by rw[Q6];omega))) ?_ ?_
 .rw[Tw]
  intro x k;obtain⟨_,_,rfl⟩:=QC.mp k;rw[<-RY (f:=D.int)];exact gH _
 have J:(Qy r).map (λ_=>QE c (D.int 0))=gI (QE r (QE c 0)):=by
  show _=SA _ _;rw[RY,Wj,RY,Q6]
 rw[J];refine da (ds:=aU 0 t) (β1:=β) (bG rfl (xr (by omega) (by omega))) (λi δ β=>β.ok/\∃a_ p q y,δ=gdS r c t a_ p q y/\i4 r c a_/\(∀row∈a_,∀x∈row,0<=x)/\tot a_=(i:Int)) ⟨ok,QE r (QE c 0),Qh,Qh,Qh,rfl,⟨by simp,λrow h=>?_⟩,λrow h x k=>?_,?_⟩ ?_ ?_
 .rw[(SR.mp h).2];simp
 .rw[(SR.mp h).2]at k
  rw[(SR.mp k).2];exact Zh _
 .unfold tot
  rw[RY];have z:∀n:Nat,(QE n (0:Int)).sum=0:=λn=>by
   induction n with
   |zero=>rfl
   |succ n ih=>rw[R6,QT,ih];rfl
  rw[z,z];rfl
 .rintro i d δ j hd ⟨m,a_,p,q,y,rfl,sh,nn,C⟩
  obtain⟨v,β1,L,Q,A⟩:=dJ m (lot:=r) (by omega) (by omega);obtain⟨u,β2,N,R,B⟩:=dJ A (lot:=c) (by omega) (by omega);obtain⟨row,b,o⟩:=sh.at (i:=v) (by omega);obtain⟨x,k⟩:=yz (l:=row) (i:=u) (by omega);refine⟨_,rfl,aD (am rfl L) (aD (am rfl N) (ao (IN (d:= .int (x+1)) (β1:=β2) (β2:=β2) (β3:=β2) (a_:=gI a_) (ds:=row.map D.int) (ka:=v) (kb:=u) (ja:=v) (jb:=u) (dq (dq (dq rfl rfl (pw (row:=row.map D.int) ?_)) rfl (cV (d:= .int x) ?_)) rfl rfl) rfl rfl rfl ?_ ?_ ?_ rfl (bx ⟨B,a_.set v (row.set u (x+1)),on (.sh d),on (.sh (.int (v:Int))),on (.sh (.int (u:Int))),?_,sh.set b,z0 nn b ?_,?_⟩))))⟩
  .rw[Qu,b];rfl
  .rw[Qu,k];rfl
  .rw[Qi,sh.1];exact lV (by omega) (by omega)
  .rw[Qu,b];rfl
  .rw[Qi,o];exact lV (by omega) (by omega)
  .show[_,_,_,_,on (Sl.grd ((gI a_).set v ((row.map D.int).set u (.int (x+1))))),_,_,_]=_
   rw[show(gI a_).set v ((row.map D.int).set u (.int (x+1)))=gI (a_.set v (row.set u (x+1))) by show _=SA _ _;rw[TK,TK]]
  .have:=nn row (Q1 b) x (Q1 k)
   omega
  .have:=vL (v:=x+1) b k
   omega
 .rintro δ j ⟨m,a_,p,q,y,rfl,sh,nn,F⟩
  rw[lF]at F;obtain⟨rs,e⟩:=oG (xs:=a_.map RZ) λx k=>by
   obtain⟨row,O,rfl⟩:=QC.mp k;exact lu (nn row O)
  have l:rs.length=r:=by rw[<-sh.1,<-Qi (as:=a_) RZ,e,Qi]
  have s:rs.sum=t:=by
   have h:(a_.map RZ).sum=(t:Int):=F;rw[e,fJ]at h;omega
  obtain⟨q1,q2⟩:=few (rs:=rs) (by rw[l,s];exact .inr C);exact ao (yJ rfl ⟨a_,rs,rfl,⟨by rw[l];exact sh,nn,e,c1,c6,q1,q2⟩,m⟩)
theorem AC(ok:β.ok):∃(a_:LI) (rs:List Nat) (b:Bg),gL K a [.bag] β=on (.ok (gI a_),b)/\B9 a_ 2 rs/\b.ok:=by
 suffices h:∃g b,gL K a [.bag] β=on (.ok g,b)/\(∃(a_:LI) (rs:List Nat),g=gI a_/\B9 a_ 2 rs/\b.ok) by
  obtain⟨g,b,e,a_,rs,rfl,t,u⟩:=h;exact⟨a_,rs,b,e,t,u⟩
 refine qN ?_;unfold lX;refine wX (a_:=[]) (β1:=β) rfl rfl ?_;obtain⟨c,β1,y,F,a1,m⟩:=jR ok (lot:=6) (by decide) (by decide);have o:∃l:List Nat,jn (.lst [nL [40],nL [39,1],nL [30,10],nL [20,20],nL [24,15],nL [13,27]]) (.int c)=on (nL l)/\(1<=l.length/\l.length<=4/\l.sum<=40/\pr (l.map (·+1))<=500)/\pr (l.dropLast.map (·+1))<63/\l.length<=2/\∀x∈l,x<=40:=by
  obtain rfl|rfl|rfl|rfl|rfl|rfl:c=0\/c=1\/c=2\/c=3\/c=4\/c=5:=by omega
  .exact⟨[40],rfl,by decide⟩
  .exact⟨[39,1],rfl,by decide⟩
  .exact⟨[30,10],rfl,by decide⟩
  .exact⟨[20,20],rfl,by decide⟩
  .exact⟨[24,15],rfl,by decide⟩
  .exact⟨[13,27],rfl,by decide⟩
 obtain⟨l,o,q1,q2,q3,q4⟩:=o;refine da (ds:=(nI l).map D.int) (β1:=β1) (dj (dq (aj rfl rfl) (am rfl y) o) rfl) (λi δ β=>β.ok/\∃a_ p q,δ=[on (.sh .bag),on (.grd (gI a_)),p,q]/\a_.length=i/\(∀row∈a_,row.length=2/\∀x∈row,0<=x)/\a_.map RZ=nI (l.take i)) ⟨m,[],Qh,Qh,rfl,rfl,λ_ h=>(by cases h),rfl⟩ ?_ ?_
 .rintro i d δ b hd ⟨f,a_,p,q,rfl,j,k,hs⟩
  obtain⟨n,hn,rfl⟩:=sF hd;have A:=q4 n (Q1 hn);have H:=(QI.mp hn).1;obtain⟨v,β2,B,I,J,r⟩:=jR f (lot:=(n:Int)+1) (by omega) (by omega);refine⟨_,rfl,aD (am (aa rfl (aa (dq rfl rfl rfl) rfl)) B) (ao (LK (a_:=gI a_) (ds:=[.int v,.int ((n:Int)-v)]) rfl (x_oA (aa rfl (aa (dq rfl rfl rfl) rfl)) (Qt (br (by show 2<=1000;decide)))) rfl (wg a_) (QY (show _<1000 by rw[Qi];omega) (by decide)) (bx ⟨r,a_++[[v,(n:Int)-v]],on (.sh (.int (n:Int))),on (.sh (.int v)),?_,by rw[QV,j];rfl,λrow h=>?_,?_⟩)))⟩
  .show _=[_,on (Sl.grd (SA _ (a_++_))),_,_]
   rw[Rg];rfl
  .rcases RK.mp h with h|h
   .exact k row h
   .cases Q5.mp h
    refine⟨rfl,λx C=>?_⟩;simp at C;omega
  .rw[Rg,hs,VJ,hn]
   show _=SA _ (_++_);rw[Rg];congr 1;simp;omega
 .rintro δ b ⟨f,a_,p,q,rfl,j,k,hs⟩
  rw[pe]at j;rw[pe,Ug]at hs;exact ao (yJ rfl ⟨a_,l,rfl,⟨⟨j,λrow h=>(k row h).1⟩,λrow h=>(k row h).2,hs,by decide,by decide,q1,q2⟩,f⟩)
theorem AM(ok:β.ok):∃(a_:LI) (c:Nat) (rs:List Nat) (b:Bg),iu K a [.bag] β=on (.ok (gI a_),b)/\B9 a_ c rs/\b.ok:=by
 suffices h:∃g b,iu K a [.bag] β=on (.ok g,b)/\(∃(a_:LI) (c:Nat) (rs:List Nat),g=gI a_/\B9 a_ c rs/\b.ok) by
  obtain⟨g,b,e,a_,c,rs,rfl,v,A⟩:=h;exact⟨a_,c,rs,b,e,v,A⟩
 refine qN ?_;unfold kQ;obtain⟨u,β1,B,I,a1,k⟩:=jR ok (lot:=6) (by decide) (by decide);refine k9 (io (dq (am rfl B) rfl eq_int)) ?_;by_cases q:u=0
 .obtain⟨a_,rs,β2,e,g,d⟩:=AC (K:=K) (a:=a) k
  rw[Qt (QL q)];exact mq (jG rfl e) ⟨a_,2,rs,rfl,g,d⟩
 rw[Qp (by simp[q])];refine bK ?_;obtain⟨y,β2,C,b0,b1,d⟩:=jR k (lot:=5) (by decide) (by decide);refine aD (am rfl C) ?_;refine k9 (β1:=β2) (io (dq rfl rfl eq_int)) ?_;by_cases q2:y=0
 .rw[Qt (QL q2)]
  obtain⟨c,β3,l,c1,f⟩:=dJ d (lot:=5) (by decide) (by decide);obtain⟨t,m,n,d1,i⟩:=dJ f (lot:=25) (by decide) (by decide);obtain⟨a_,rs,o,e,g,j⟩:=n9 (K:=K) (a:=a) (r:=2) (c:=2+c) (t:=t) i (by decide) (by decide) (by omega) (by omega) (by omega);exact mq (jG (aa rfl (aa rfl (aa (dq rfl (am rfl l) (sR 2 _)) (aa (am rfl n) rfl)))) e) ⟨a_,2+c,rs,rfl,g,j⟩
 rw[Qp (by simp[q2])];refine bK ?_;refine k9 (β1:=β2) (io (dq rfl rfl eq_int)) ?_;by_cases q3:y=1
 .rw[Qt (QL q3)]
  obtain⟨c,β3,l,c1,f⟩:=dJ d (lot:=2) (by decide) (by decide);obtain⟨t,m,n,d1,i⟩:=dJ f (lot:=9) (by decide) (by decide);obtain⟨a_,rs,o,e,g,j⟩:=n9 (K:=K) (a:=a) (r:=4) (c:=2+c) (t:=t) i (by decide) (by decide) (by omega) (by omega) (by omega);exact mq (jG (aa rfl (aa rfl (aa (dq rfl (am rfl l) (sR 2 _)) (aa (am rfl n) rfl)))) e) ⟨a_,2+c,rs,rfl,g,j⟩
 rw[Qp (by simp[q3])];refine bK ?_;obtain⟨r,β3,l,c1,f⟩:=dJ d (lot:=2) (by decide) (by decide);obtain⟨c,m,n,d1,i⟩:=dJ f (lot:=3) (by decide) (by decide);obtain⟨t,o,F,J,j⟩:=dJ i (lot:=12) (by decide) (by decide);obtain⟨a_,rs,H,e,g,p⟩:=n9 (K:=K) (a:=a) (r:=2+r) (c:=2+c) (t:=t) j (by omega) (by omega) (by omega) (by omega) (by omega);refine aD (dq rfl (am rfl l) (sR 2 _)) ?_;refine aD (dq rfl (am rfl n) (sR 2 _)) ?_;exact ao (mq (jG (aa rfl (aa rfl (aa rfl (aa (am rfl F) rfl)))) e) ⟨a_,2+c,rs,rfl,g,p⟩)
variable{n:Nat}{vs:List (List Nat)}
structure lb (n:Nat) (vs:List (List Nat)):Prop where
 l1:1<=vs.length
 l6:vs.length<=6
 ln:∀v∈vs,v.length=n
 nr:D2 (e_ n vs)
 wd:pr ((e_ n vs).dropLast.map (·+1))<63
abbrev js(vs:List (List Nat)):List Nat:=vs.map RZ
abbrev ri(n:Nat)(vs:List (List Nat)):LI:=tp n (vs.map nI)
theorem Pw(v:List Nat)(j:Nat):(nI v).getD j 0=((v.getD j 0:Nat):Int):=by
 rw[Qn,Qn,Qu];cases v[j]?<;>rfl
theorem lb.len(h:lb n vs):(e_ n vs).length=n:=eG h.ln
theorem nP(c:∀v∈vs,v.length=n):(ri n vs).map RZ=nI (e_ n vs):=by
 have e:e_ n vs=(Qy n).map λj=>(e_ n vs).getD j 0:=SH (by rw[eG c,Qi,Q6]) λi d f=>by
  rw[SQ,S9,bR d]
 rw[e];unfold ri tp y_;show SA _ (SA _ _)=SA _ (SA _ _);rw[QG,QG];refine Ra λj b=>?_;have b:=QW.mp b;show((vs.map nI).map λrow=>row.getD j 0).sum=(((e_ n vs).getD j 0:Nat):Int);rw[zr c b,<-fJ,QG];show _=(SA _ (SA _ _)).sum;rw[QG];exact RE RZ (Ra λv _=>Pw v j)
theorem Me(b:∀v∈vs,v.length=n):i4 vs.length n (vs.map nI):=⟨Qi _,λrow c=>by
 obtain⟨v,d,rfl⟩:=QC.mp c;rw[Qi];exact b v d⟩
theorem zq(b:∀v∈vs,v.length=n):tp vs.length (ri n vs)=vs.map nI:=IU (Me b)
theorem jP:i4 n vs.length (ri n vs):=qb (Qi _)
theorem xJ(vs:List (List Nat)):(vs.map nI).map RZ=nI (js vs):=by
 show _=SA _ (SA _ _);rw[QG,QG];exact Ra λv _=>fJ v
theorem lb.nt0(h:lb n vs):Nt0 (e_ n vs) (js vs):=⟨h.nr,h.wd,qj h.ln,by rw[Qi];exact h.l1,by rw[Qi];exact h.l6⟩
theorem lb.tab(h:lb n vs):Tab n vs.length (ri n vs):=by
 obtain⟨d,e,f,_⟩:=h.nr;have l:=h.len;refine⟨jP,IV λrow b x c=>?_,?_,by omega,by omega,h.l1,h.l6⟩
 .obtain⟨v,_,rfl⟩:=QC.mp b
  obtain⟨y,_,rfl⟩:=QC.mp c;omega
 .rw[yU (Me h.ln).2]
  unfold tot;rw[xJ,fJ,<-qj h.ln];omega
theorem lb.ntb(h:lb n vs):X_ (ri n vs) (B_ (e_ n vs).length (js vs).length) (e_ n vs) (js vs):=by
 have l:=h.len;have b:(js vs).length=vs.length:=Qi _;refine⟨h.nt0,?_,nP h.ln,?_,⟨⟨by simp,λrow h=>by rw[(SR.mp h).2];simp⟩,λrow h q c=>by
  rw[(SR.mp h).2]at c;rw[(SR.mp c).2];decide⟩,?_⟩
 .rw[l,b];exact jP
 .rw[b,zq h.ln,xJ]
 .rw[l,b,J7];exact Kp.free h.tab
abbrev wC(n:Nat)(vs:List (List Nat)):Wy:=wB (B_ (e_ n vs).length (js vs).length) (js vs)
theorem BS{r c k:Nat}(b:k<c):oj (B_ r c) k=QE r (0,40):=by
 unfold oj B_;rw[RY,Qn,SI,Qt b];rfl
theorem JL{r v:List Nat}{m:Nat}(e:r.length=m)(s:r.sum<=40)(le:ko v r):F_ (QE m (0,40)) v=Qo:=by
 have:=uw s le;rw[Wj,e]at this;exact this
theorem lb.s40(h:lb n vs){v:List Nat}(b:v∈vs):v.sum<=40:=by
 have q:v.sum∈js vs:=QC.mpr ⟨v,b,rfl⟩;have:=fm q;have:=h.nt0.sm;have:=h.nr.2.2.1;omega
theorem lb.wk(h:lb n vs):Wk (wC n vs) 0 (e_ n vs) vs:=wV h.ln λi r v b le=>by
 rw[RX];have c:=(QI.mp b).1;have hm:=Q1 b;refine Sm.mpr ⟨?_,?_⟩
 .have e:(js vs).getD i 0=v.sum:=by rw[Qn,Qu,b];rfl
  rw[e];exact iS le
 .rw[BS (by rw[Qi];exact c)]
  exact JL (by rw[h.ln v hm,h.len]) (h.s40 hm) (ko.refl v)
theorem lb.vec(h:lb n vs){k:Nat}{r:List Nat}(b:k<(js vs).length)(e:r.length=n)(s:r.sum<=40):wC n vs k r=bB r ((js vs).getD k 0):=List.filter_eq_self.mpr λv c=>by
 rw[BS b];exact JL (e.trans h.len.symm) s (cQ c)
abbrev ntC(a:Ad)(n:Nat)(vs:List (List Nat)):D:=gi a (wC n vs) (B3 (B_ (e_ n vs).length (js vs).length)) (e_ n vs) (js vs)
theorem vM:∀{xs:LI},(∀row∈xs,∀x∈row,0<=x)->∃l:List (List Nat),xs=l.map nI
 |[],_=>⟨[],rfl⟩
 |x::xs,h=>by
  obtain⟨l,e⟩:=vM λy b=>h y (Qk _ b);obtain⟨m,c⟩:=oG (h x Qq);exact⟨m::l,by rw[e,c];rfl⟩
theorem B9.cols{a_:LI}{c:Nat}{rs:List Nat}(g:B9 a_ c rs):∃vs,a_=ri rs.length vs/\rs=e_ rs.length vs/\vs.length=c/\lb rs.length vs:=by
 obtain⟨vs,e⟩:=vM (IV (c:=c) g.nn);have sh:=qb (d:=(0:Int)) (c:=c) g.shp.1;have b:vs.length=c:=by rw[<-Qi (f:=nI),<-e];exact sh.1
 have ln:∀v∈vs,v.length=rs.length:=λv j=>by
  rw[<-Qi (f:=λ(i:Nat)=>(i:Int))];refine sh.2 (nI v) ?_;show nI v∈tp c a_;rw[e];exact QC.mpr ⟨v,j,rfl⟩
 have h:a_=ri rs.length vs:=by rw[<-IU g.shp,e]
 have es:rs=e_ rs.length vs:=fK (by rw[<-nP ln,<-h,g.sm]);exact⟨vs,h,es,b,by rw[b];exact g.c1,by rw[b];exact g.c6,ln,by rw[<-es];exact g.nr,by rw[<-es];exact g.wd⟩
theorem Mo(h:lb n vs):(jB K a).1 [cZ (ri n vs)] β=on (.ok (nL (e_ n vs)),β):=by
 have:=oW (K:=K) (a:=a) (β:=β) (a_:=ri n vs) (by rw[jP.1];have:=h.tab.r1;omega);rw[nP h.ln]at this;exact this
theorem Nw(h:lb n vs):(gf K a).1 [cZ (ri n vs)] β=on (.ok (nL (js vs)),β):=by
 have t:=h.tab;have:=sd (K:=K) (a:=a) (β:=β) (a_:=ri n vs) jP t.r0 (by have:=t.r1;omega) (by have:=t.c1;omega);rw[zq h.ln,xJ]at this;exact this
theorem uJ{p q:Nat}:p/Rz p q*q=p*(q/Rz p q):=by
 obtain⟨b,d⟩:=Xb p q;obtain⟨c,e⟩:=Xn p q;rcases WY (Rz p q)with z|z
 .rw[z];simp
 .have f:p/Rz p q=c:=X7 z e
  have g:q/Rz p q=b:=X7 z d;rw[f,g]
  conv=>lhs;rw[d]
  conv=>rhs;rw[e]
  simp only[Re,Rh,Rj]
theorem qv{p q d b:Nat}(e:0<q)(c:0<b)(h:p*b=d*q):dA p q=dA d b:=by
 obtain⟨f,g⟩:=M3 e c h;unfold dA;rw[f,g]
theorem zG(h:lb n vs):∀(m k:Nat) (r:List Nat),k+m=(js vs).length->r.length=n->r.sum<=40->j2 (wC n vs) m k r=j2 (W0 (js vs)) m k r
 |0,_,_,_,_,_=>rfl
 |m+1,k,r,hk,hl,hs=>by
  show(wC n vs k r).flatMap _=(W0 (js vs) k r).flatMap _;rw[h.vec (by omega) hl hs];refine kR λv b=>?_;have le:=cQ b;have:=le.less.sum;rw[zG h m (k+1) (less r v) (by omega) (by rw[le.less.len];exact hl) (by omega)]
abbrev pC(n:Nat)(vs:List (List Nat)):List (List (List Nat)):=j2 (wC n vs) (js vs).length 0 (e_ n vs)
theorem pC_e(h:lb n vs):pC n vs=j2 (W0 (js vs)) (js vs).length 0 (e_ n vs):=zG h _ _ _ (RX _) h.len h.nr.2.2.1
theorem eqI(i j:Int):Vf (.int i) (.int j)=decide (i=j):=by unfold Vf;exact Bool.beq_eq_decide_eq i j
theorem rD{α:Type} [DecidableEq α]{f:α->YJ}(b:∀x y,Vf (f x) (f y)=decide (x=y)):∀xs ys:List α,VD (xs.map f) (ys.map f)=decide (xs=ys)
 |[],[]=>by simp[VD]
 |[],y::ys=>by simp[VD]
 |x::xs,[]=>by simp[VD]
 |x::xs,y::ys=>by
  rw[QB,QB,VD,b,rD b xs ys];by_cases h:x=y<;>by_cases q:xs=ys<;>simp[h,q]
theorem tJ{α:Type}{f:α->D}{g:α->YJ}(h:∀x,oa (f x)=on (g x)):∀l:List α,toPs (l.map f)=on (l.map g)
 |[]=>by simp[toPs]
 |x::l=>by
  rw[QB,toPs,h x,tJ h l];rfl
theorem BJ{x y:D}{p q:YJ}(f:eqS x y=Qh)(d:oa x=on p)(e:oa y=on q)(b:mX x=Qo)(c:mX y=Qo):gq x y=on (.bl (Vf p q)):=by
 unfold gq l5;unfold mX at b c;rw[d]at b;rw[e]at c;simp only[f,d,e,b,c,UR,RF,Sh]
theorem P8(xs ys:List Int):gq (k_ xs) (k_ ys)=on (.bl (decide (xs=ys))):=by
 have t:∀l:List Int,oa (k_ l)=on (.tuple (l.map .int)):=λl=>by
  unfold k_ oa;rw[tJ (g:=PyData.int) λx=>rfl];rfl
 have c:∀l:List Int,mX (k_ l)=Qo:=λl=>FP 1 (λx b=>by
  obtain⟨i,_,rfl⟩:=QC.mp b;trivial) (by decide)
 rw[BJ rfl (t xs) (t ys) (c xs) (c ys),Vf,rD eqI]
theorem O6(n:Nat){i:Int}:c8 K a (n+1) [.int i,.int i] β=on (.ok (.bl Qo),β):=by
 show fX 2 (gn K a (c8 K a n)) _ _=_;refine aJ ?_;unfold gn;refine ig (β1:=β) (se (x:= .bl Qr) (aj rfl rfl) rfl) (bK ?_);refine ig (β1:=β) (io (dq rfl rfl rfl)) (bK ?_);refine ig (β1:=β) (sf (io (dq (aj rfl rfl) (aj rfl rfl) rfl)) (io (dq (aj rfl rfl) (aj rfl rfl) rfl))) (bK ?_);exact ao (aT (Kh (aj rfl rfl) (dq rfl rfl (by rw[eq_int,QL rfl]))) ⟨rfl,rfl⟩)
theorem O5{x y:Int}:c8 K a 5 [.tup [.int x,.int y],.tup [.int x,.int y]] β=on (.ok (.bl Qo),β):=by
 show fX 2 (gn K a (c8 K a 4)) _ _=_;refine aJ ?_;unfold gn;refine IO (β1:=β) (se (x:= .bl Qo) (aj rfl rfl) rfl) (p8 ?_);refine ig (β1:=β) (sf (io (dq (aj rfl rfl) (aj rfl rfl) rfl)) (io (dq (aj rfl rfl) (aj rfl rfl) rfl))) (bK (p8 ?_));refine ig (β1:=β) (io (dq (aj rfl rfl) (aj rfl rfl) rfl)) (bK ?_);exact aT (β1:=β) (dq (z:= .bl Qo) rfl (bw [x,y] (λi=>D.tup [.int i,.int i]) (λ_=> .bl Qo) (oA (x:= .tup [.int x,.int y]) (y:= .tup [.int x,.int y]) rfl rfl rfl rfl) (λi _=>⟨[on (.int i),on (.int i)],rfl,am rfl (O6 3)⟩) (br (by show 2<=1000;decide))) rfl) ⟨rfl,rfl⟩
variable{c d:Nat×Nat}
abbrev pZ(n:Nat)(vs:List (List Nat)):List (List (List Nat)):=j2 (W0 (js vs)) (js vs).length 0 (e_ n vs)
abbrev Xm(n:Nat)(vs:List (List Nat))(c:Nat×Nat):Nat:=L2.Nt.sm (pZ n vs) λb=>wt b*at_ c b
abbrev Zm(n:Nat)(vs:List (List Nat))(c d:Nat×Nat):Nat:=L2.Nt.sm (pZ n vs) λb=>wt b*(at_ c b*at_ d b)
theorem yr(i j:Nat)(b:List (List Nat)):cn i j 0 b=at_ (i,j) b:=by rw[Ka,Qt (RB _),Nat.sub_zero]
theorem OF(h:lb n vs):TW (wC n vs) c d (js vs).length 0 (e_ n vs)=(mu (e_ n vs),Xm n vs c,Xm n vs d,Zm n vs c d):=by
 rw[pW,show j2 (wC n vs) (js vs).length 0 (e_ n vs)=pZ n vs from pC_e h,xp];refine RW ?_ (RW ?_ (RW ?_ ?_))
 .exact tq h.nt0.sm h.nr.2.2.1
 .exact bn λb _=>by show wt b*cn c.1 c.2 0 b=_;rw[yr]
 .exact bn λb _=>by show wt b*cn d.1 d.2 0 b=_;rw[yr]
 .exact bn λb _=>by show wt b*(cn c.1 c.2 0 b*cn d.1 d.2 0 b)=_;rw[yr,yr]
theorem gx{l:List Nat}{i:Nat}(h:l.sum<=40):l.getD i 0<=40:=by
 rcases Vi i l.length with z|z
 .rw[bR z];exact Qw (fm (Rp z)) h
 .rw[Qn,Tc z];exact RB _
theorem lb.c40(h:lb n vs):(js vs).sum<=40:=by rw[<-h.nt0.sm];exact h.nr.2.2.1
theorem AA{m e:Nat}(h:m<=2^160)(b:e<=2^24):m*e<=2^184:=by
 rw[show(184:Nat)=160+24 from rfl,WC];exact R9 h b
theorem vq(h:lb n vs)(s:2<=(e_ n vs).sum)(hc:c.1<n)(b:c.2<vs.length):Xm n vs c<=2^184:=by
 have e:=IA (c:=c) h.len h.nt0.sm h.nr.2.2.1 hc (by rw[Qi];exact b);refine Qw (TD _ (show 0<(e_ n vs).sum by omega)) ?_;rw[e];exact AA (kK h.nr.2.2.1) (Qw (R9 (gx h.nr.2.2.1) (gx h.c40)) (by decide))
theorem HZ(h:lb n vs)(s:2<=(e_ n vs).sum)(hc:c.1<n)(f:c.2<vs.length)(hd:d.1<n)(g:d.2<vs.length):Zm n vs c d<=2^184:=by
 have s40:=h.nr.2.2.1;have e:=OA (c:=c) (e:=d) h.len h.nt0.sm s40 hc (by rw[Qi];exact f) hd (by rw[Qi];exact g);refine Qw (TD _ (show 0<(e_ n vs).sum*((e_ n vs).sum-1)from UE (by omega) (by omega))) ?_;rw[e];have a1:=gx (i:=c.1) s40;have a2:=gx (i:=d.1) s40;have a3:=gx (i:=c.2) h.c40;have a4:=gx (i:=d.2) h.c40;refine AA (kK s40) (Qw (WB (b:=2^22) (d:=2^22) (Qw (R9 (R9 a1 (Qw (Vw _ _) a2)) (R9 a3 (Qw (Vw _ _) a4))) (by decide)) ?_) (by decide));split
 .exact Qw (R9 (R9 a1 a3) (Qw (Vw _ _) s40)) (by decide)
 .exact RB _
theorem pmC(h:lb n vs)(s:2<=(e_ n vs).sum)(hc:c.1<n)(b:c.2<vs.length)(hd:d.1<n)(e:d.2<vs.length):(gr K a).1 [ntC a n vs,lK c,lK d] β=on (.ok (dA (Zm n vs c d) (mu (e_ n vs))),β):=by
 have p:(2:Nat)^184<=2^200:=SK (by decide) (by decide);have q:(2:Nat)^160<=2^200:=SK (by decide) (by decide);exact Ph h.ntb.nt (by rw[h.len];exact hc) (by rw[Qi];exact b) (by rw[h.len];exact hd) (by rw[Qi];exact e) (tu h.wk (Qi _).symm) (OF h) (Qw (kK h.nr.2.2.1) q) (Qw (vq h s hc b) p) (Qw (vq h s hd e) p) (Qw (HZ h s hc b hd e) p)
theorem meC(h:lb n vs)(s:2<=(e_ n vs).sum)(hc:c.1<n)(b:c.2<vs.length):(oY K a).1 [ntC a n vs,.int (c.1:Int),.int (c.2:Int)] β=on (.ok (dA (Xm n vs c) (mu (e_ n vs))),β):=by
 have p:(2:Nat)^184<=2^200:=SK (by decide) (by decide);have q:(2:Nat)^160<=2^200:=SK (by decide) (by decide);exact Py h.ntb.nt (by rw[h.len];exact hc) (by rw[Qi];exact b) (tu h.wk (Qi _).symm) (OF h) (Qw (kK h.nr.2.2.1) q) (Qw (vq h s hc b) p) (Qw (vq h s hc b) p) (Qw (HZ h s hc b hc b) p)
theorem Jy{p q g b:Nat}(h:0<q)(f:0<b)(e:p*b=g*q):c8 K a 5 [dA p q,dA g b] β=on (.ok (.bl Qo),β):=by
 rw[qv h f e];exact O5
theorem jV{p q:Nat}(h:0<q):0<q/Rz p q:=Nat.div_pos (Xo _ h) (Tt _ h)
theorem Pz{q:Nat}(h:0<q):dA 0 q= .tup [.int 0,.int 1]:=by
 unfold dA;rw[Nat.gcd_zero_left,Nat.zero_div,Nat.div_self h];rfl
theorem Lc{A B q:Nat}(h:0<q):dA (A/Rz A q*(q/Rz B q)+B/Rz B q*(q/Rz A q)) (q/Rz A q*(q/Rz B q))=dA (A+B) q:=by
 refine qv (UE (jV h) (jV h)) h ?_;have b:=uJ (p:=A) (q:=q);have e:=uJ (p:=B) (q:=q);generalize A/Rz A q=x at*;generalize B/Rz B q=y at*;generalize q/Rz A q=z at*;generalize q/Rz B q=w at*;rw[Ua,Ua,Vv x w q,b,Vv y z q,e];simp only[Re,Rh,Rj]
theorem Ld{A C q:Nat}(h:0<q):dA (A/Rz A q*C) (q/Rz A q)=dA (C*A) q:=by
 refine qv (jV h) h ?_;rw[Vv,uJ];simp only[Re,Rh,Rj]
theorem JY{l:List Nat}{i:Nat}(h:i<l.length):jn (nL l) (.int (i:Int))=on (.int ((l.getD i 0:Nat):Int)):=JX h
theorem y7{x y al:Nat}(b:x<=40)(f:y<=40)(ha:al<=1)(e:al=1->x=y):xK (.int (x:Int)) (.int ((y:Int)-(al:Int)))=on (.int ((x*(y-al):Nat):Int)):=by
 by_cases z:al<=y
 .rw[show((y:Int)-(al:Int))=((y-al:Nat):Int) by omega]
  exact cN (ck (m:=6) (by omega) (by decide)) (ck (m:=6) (by omega) (by decide))
 .obtain rfl:al=1:=by omega
  obtain rfl:y=0:=by omega
  obtain rfl:x=0:=e rfl;rfl
theorem Lo{a_:LI}{c:Nat}{rs:List Nat}(g:B9 a_ c rs)(q:rs.sum<2):∃row x b,a_[0]?=on row/\row[0]?=on x/\B9 (a_.set 0 (row.set 0 (x+2))) c b/\2<=b.sum:=by
 have r1:=g.nr.1;have r:=g.nr.2.1;have c1:=g.c1;obtain⟨row,f,t⟩:=g.shp.at (i:=0) (by omega);obtain⟨x,h⟩:=yz (l:=row) (i:=0) (by omega);have u:=g.nn row (Q1 f) x (Q1 h);have sh:=g.shp.set (j:=0) (v:=x+2) f;have nn:=z0 (j:=0) (v:=x+2) g.nn f (by omega);obtain⟨b,e⟩:=oG (xs:=(a_.set 0 (row.set 0 (x+2))).map RZ) λy k=>by
  obtain⟨w,m,rfl⟩:=QC.mp k;exact lu (nn w m)
 have l:b.length=rs.length:=by
  have:=RE VG e;rw[Qi,Qi,sh.1]at this;exact this.symm
 have o:tot a_=(rs.sum:Int):=by unfold tot;rw[g.sm,fJ]
 have p:=vL (v:=x+2) f h;have s:(b.sum:Int)=rs.sum-x+(x+2):=by rw[<-fJ,<-e,<-o];exact p
 obtain⟨q1,q2⟩:=few (rs:=b) (by rw[l];omega);exact⟨row,x,b,f,h,⟨by rw[l];exact sh,nn,e,g.c1,g.c6,q1,q2⟩,by omega⟩
theorem gh(h:lb n vs)(ok:β.ok):∃(c:Nat×Nat) (b:Bg),(jo K a).1 [.bag,cZ (ri n vs)] β=on (.ok (lK c),b)/\c.1<n/\c.2<vs.length/\b.ok:=by
 have t:=h.tab;have l1:=t.r1;have v:=t.r0;have c0:=t.c0;have c1:=t.c1;obtain⟨row,l,m⟩:=(jP (n:=n) (vs:=vs)).at (i:=0) (by omega);obtain⟨i,β1,o,p,f⟩:=dJ ok (lot:=n) (by omega) (by omega);obtain⟨j,β2,q,u,g⟩:=dJ f (lot:=vs.length) (by omega) (by omega)
 suffices w:∃z b,(jo K a).1 [.bag,cZ (ri n vs)] β=on (z,b)/\z= .ok (lK (i,j))/\b=β2 by
  obtain⟨z,b,e,rfl,rfl⟩:=w;exact⟨(i,j),b,e,p,u,g⟩
 unfold jo
 dsimp only
 refine CC (aD (d:= .int (i:Int)) (β1:=β1) (am (aa rfl (aa (aj rfl (AK (r:=n) (BG t.shp))) rfl)) o) (ao (aT (d:=lK (i,j)) (β1:=β2) (aj (aa rfl (aa (am (aa rfl (aa (aj (aa (x:= .lst (row.map D.int)) (dq rfl rfl (pw (k:=0) (by rw[Qu,l];rfl))) rfl) (eJ (r:=vs.length) (by rw[Qi,m]))) rfl)) q) rfl)) fA) ?_)));exact⟨rfl,rfl⟩
abbrev l51(l m o p q r t u b e f g h i j k:Option Sl):Ds:=[Qh,on (.sh .bag),l,m,o,p,q,r,t,u,b,e,f,g,h,i,j,k]
abbrev y2(x y:Nat):Nat:=if x=y then 1 else 0
theorem Kc{f g:FD}{δ:Dn}{x y:Nat}(b:f δ β=on (.ok (.int (x:Int)),β))(e:g δ β=on (.ok (.int (y:Int)),β)):aQ x8 (ac (f2 (gq) f g) (ax)) δ β=on (.ok (.int ((y2 x y:Nat):Int)),β):=
 aj (aa (dq b e eq_int) rfl) (by
  show on (D.int (if decide ((x:Int)=(y:Int))=Qo then 1 else 0))=_;by_cases q:x=y
  .rw[Qt (QL (by omega)),show y2 x y=1 from Qt q];rfl
  .rw[Qp (by simp;omega),show y2 x y=0 from Qp q];rfl)
abbrev gNm(a:Ad)(n:Nat)(vs:List (List Nat))(c d:Nat×Nat)(b e f g h i j k:Option Sl):Ds:=l51 (on (.sh (cZ (ri n vs)))) (on (.sh (lK c))) (on (.sh (lK d))) (on (.sh (nL (e_ n vs)))) (on (.sh (nL (js vs)))) (on (.sh (.int (((e_ n vs).sum:Nat):Int)))) (on (.sh (ntC a n vs))) (on (.sh (.lst [.int ((y2 c.1 d.1:Nat):Int),.int ((y2 c.2 d.2:Nat):Int)]))) b e f g h i j k
theorem ixl0{x y:D}:jn (.lst [x,y]) (.int 0)=on x:=rfl
theorem ixl1{x y:D}:jn (.lst [x,y]) (.int 1)=on y:=rfl
theorem ER(β:Bg)(ok:β.ok):∃b,(oZ K a).1 [Qh,on (.sh .bag),Qh,Qh,Qh,Qh,Qh,Qh,Qh,Qh,Qh,Qh,Qh,Qh,Qh,Qh,Qh,Qh] β=on (.rt (.bl Qo),b):=by
 suffices h:Gw (oZ K a).1 [Qh,on (.sh .bag),Qh,Qh,Qh,Qh,Qh,Qh,Qh,Qh,Qh,Qh,Qh,Qh,Qh,Qh,Qh,Qh] β (λo _=>o= .rt (.bl Qo)) by
  obtain⟨o,b,e,rfl⟩:=h;exact⟨b,e⟩
 obtain⟨a_,c0,rs,β1,e0,g,ok1⟩:=AM (K:=K) (a:=a) ok;unfold oZ
 dsimp only
 refine wX (a_:=gI a_) (β1:=β1) (jG rfl e0) (wg a_) ?_;refine wW (λδ β=>β1=β/\∃a_ rs,δ=l51 (on (.grd (gI a_))) Qh Qh Qh Qh Qh Qh Qh Qh Qh Qh Qh Qh Qh Qh Qh/\B9 a_ c0 rs/\2<=rs.sum) ?_ ?_
 .have e1:=oW (K:=K) (a:=a) (β:=β1) (a_:=a_) (by rw[g.shp.1];have:=g.nr.2.1;omega)
  rw[g.sm]at e1;refine ao (k9 (β1:=β1) (io (dq (aj (aa (am rfl e1) rfl) (lO rs)) rfl lt_int)) ?_);by_cases q:rs.sum<2
  .rw[Qt (QL (by omega))]
   obtain⟨row,x,rs',hr,hx,g',hs⟩:=Lo g q;have r1:=g.nr.1;have lr:=g.shp.2 row (Q1 hr);have c1:=g.c1;have T:(gI a_)[0]?=on (row.map D.int):=by rw[Qu,hr];rfl
   refine IN (d:= .int (x+2)) (β1:=β1) (β2:=β1) (β3:=β1) (a_:=gI a_) (ds:=row.map D.int) (ka:=0) (kb:=0) (ja:=0) (jb:=0) (dq (dq (dq (x:=cZ a_) rfl rfl (pw (k:=0) T)) rfl (cV (k:=0) (d:= .int x) (by rw[Qu,hx];rfl))) rfl rfl) rfl rfl rfl ?_ T ?_ rfl (jH ⟨rfl,a_.set 0 (row.set 0 (x+2)),rs',?_,g',hs⟩)
   .rw[Qi,g.shp.1];exact lV (by decide) (by omega)
   .rw[Qi,lr];exact lV (by decide) (by omega)
   .show l51 (on (.grd ((gI a_).set 0 ((row.map D.int).set 0 (.int (x+2)))))) Qh Qh Qh Qh Qh Qh Qh Qh Qh Qh Qh Qh Qh Qh Qh=_
    rw[show(gI a_).set 0 ((row.map D.int).set 0 (.int (x+2)))=gI (a_.set 0 (row.set 0 (x+2))) by show _=SA _ _;rw[TK,TK]]
  .rw[Qp (by simp;omega)]
   exact bK (jH ⟨rfl,a_,rs,rfl,g,by omega⟩)
 rintro δ _ ⟨rfl,a_,rs,rfl,g,hs⟩;obtain⟨vs,er,es,lv,cl⟩:=g.cols;generalize rs.length=n at er es cl;subst er es;obtain⟨c,β2,p2,c1,c2,U⟩:=gh (K:=K) (a:=a) cl ok1;obtain⟨d,β3,p3,d1,d2,X⟩:=gh (K:=K) (a:=a) cl U;refine oC (aD (am rfl p2) (oC (aD (am rfl p3) ?_)));refine wW (λδ β=>∃d:Nat×Nat,δ=l51 (on (.sh (cZ (ri n vs)))) (on (.sh (lK c))) (on (.sh (lK d))) Qh Qh Qh Qh Qh Qh Qh Qh Qh Qh Qh Qh Qh/\d.1<n/\d.2<vs.length) ?_ ?_
 .obtain⟨u,β4,p4,B,ok4⟩:=dJ X (lot:=3) (by decide) (by decide)
  refine ao (k9 (β1:=β4) (io (dq (am rfl p4) rfl eq_int)) ?_);split
  .exact aD rfl (jH ⟨c,rfl,c1,c2⟩)
  .exact bK (jH ⟨d,rfl,d1,d2⟩)
 clear p2 p3 U X d1 d2 d β2 β3
 rintro δ β3 ⟨d,rfl,d1,d2⟩;have t:=cl.tab;have s40:=cl.nr.2.2.1;have c40:=cl.c40;have rl:=cl.len;have Y:(js vs).length=vs.length:=Qi _;have v:=uB (e_ n vs);have Z:=kK s40;have X1:=IA (c:=c) rl cl.nt0.sm s40 c1 (by rw[Y];exact c2);have Z1:=OA (c:=c) (e:=d) rl cl.nt0.sm s40 c1 (by rw[Y];exact c2) d1 (by rw[Y];exact d2);have Z2:=Qf (c:=c) (j:=d.2) rl cl.nt0.sm (by rw[Y];exact d2);have xle:=vq cl hs c1 c2;have a1:=gx (i:=c.1) s40;have a2:=gx (i:=d.1) s40;have a3:=gx (i:=c.2) c40;have a4:=gx (i:=d.2) c40;have f:∀{x:Nat},x<=40->x<2^1000:=λh=>ck (m:=6) (Qw h (by decide)) (by decide);have al1:∀x y:Nat,y2 x y<=1:=λx y=>by show(if x=y then 1 else 0)<=1;split<;>omega
 have R1:∀{i:Nat},i<n->jn (nL (e_ n vs)) (.int (i:Int))=on (.int (((e_ n vs).getD i 0:Nat):Int)):=λh=>JY (by rw[rl];exact h);have C1:∀{i:Nat},i<vs.length->jn (nL (js vs)) (.int (i:Int))=on (.int (((js vs).getD i 0:Nat):Int)):=λh=>JY (by rw[Y];exact h);refine oC (aD (am rfl (Mo cl)) (oC (aD (am rfl (Nw cl)) (aD (aj rfl (lO _)) (aD (d:=ntC a n vs) (β1:=β3) (LF (aa (aj rfl rfl) (aa (aj rfl rfl) rfl)) (K6 cl.ntb)) ?_)))));refine aD (d:= .lst [.int ((y2 c.1 d.1:Nat):Int),.int ((y2 c.2 d.2:Nat):Int)]) (β1:=β3) (aj (aa (Kc (dq rfl rfl iY) (dq rfl rfl iY)) (aa (Kc (dq rfl rfl fR) (dq rfl rfl fR)) rfl)) lst2) ?_;show Gw _ (gNm a n vs c d Qh Qh Qh Qh Qh Qh Qh Qh) β3 _;generalize C:(e_ n vs).getD c.1 0*((e_ n vs).getD d.1 0-y2 c.1 d.1)=Dn;generalize H:(js vs).getD c.2 0*((js vs).getD d.2 0-y2 c.2 d.2)=Ac;have hdn:Dn<=2^11:=by
  rw[<-C];exact Qw (R9 a1 (Qw (Vw _ _) a2)) (by decide)
 have hac:Ac<=2^11:=by
  rw[<-H];exact Qw (R9 a3 (Qw (Vw _ _) a4)) (by decide)
 refine aD (d:= .int (Dn:Int)) (β1:=β3) (dq (dq rfl (dq rfl rfl iY) (R1 c1)) (dq (dq rfl (dq rfl rfl iY) (R1 d1)) (dq rfl rfl ixl0) rfl) ((y7 a1 a2 (al1 _ _) λe=>?_).trans (by rw[C]))) ?_
 .have:c.1=d.1:=Xf λz=>by rw[show y2 c.1 d.1=0 from Qp z]at e;cases e
  rw[this]
 refine aD (d:= .int (Ac:Int)) (β1:=β3) (dq (dq rfl (dq rfl rfl fR) (C1 c2)) (dq (dq rfl (dq rfl rfl fR) (C1 d2)) (dq rfl rfl ixl1) rfl) ((y7 a3 a4 (al1 _ _) λe=>?_).trans (by rw[H]))) ?_
 .have:c.2=d.2:=Xf λz=>by rw[show y2 c.2 d.2=0 from Qp z]at e;cases e
  rw[this]
 refine aD (d:= .int ((Dn*Ac:Nat):Int)) (β1:=β3) (dq rfl rfl (cN (ck hdn (by decide)) (ck hac (by decide)))) ?_;generalize l:(Dn*Ac+if c=d then(e_ n vs).getD c.1 0*(js vs).getD c.2 0*((e_ n vs).sum-1)else 0)=Tp;have sb:DG (.int (((e_ n vs).sum:Nat):Int)) (.int 1)=on (.int (((e_ n vs).sum-1:Nat):Int)):=by
  show on (D.int _)=_;rw[show(((e_ n vs).sum:Nat):Int)-1=(((e_ n vs).sum-1:Nat):Int) by omega]
 refine wW (λδ b=>β3=b/\∃I J N,δ=gNm a n vs c d I J (on (.sh (.int (Tp:Int)))) N Qh Qh Qh Qh) ?_ ?_
 .refine ao (k9 (β1:=β3) (io (dq rfl rfl (P8 [(c.1:Int),(c.2:Int)] [(d.1:Int),(d.2:Int)]))) ?_)
  by_cases q:c=d
  .rw[Qt (QL (by rw[q]))]
   rw[Qt q]at l;refine p8 (aD (β1:=β3) (dq (dq rfl (dq rfl rfl iY) (R1 c1)) (dq rfl (dq rfl rfl fR) (C1 c2)) (cN (f a1) (f a3))) (aD (d:= .int (Tp:Int)) (β1:=β3) (dq rfl (dq rfl (dq rfl rfl sb) (cN (ck (m:=11) (Qw (R9 a1 a3) (by decide)) (by decide)) (f (by omega)))) (oy.trans (by rw[l]))) (jH ⟨rfl,_,_,_,rfl⟩)))
  .rw[Qp (by
    intro z;have z:=RI z;simp at z;exact q (RW (by omega) (by omega)))]
   rw[Qp q,Wl]at l;rw[<-l];exact bK (jH ⟨rfl,_,_,_,rfl⟩)
 rintro δ _ ⟨rfl,I,J,N,rfl⟩;have s0:0<(e_ n vs).sum*((e_ n vs).sum-1):=UE (by omega) (by omega);refine ii (sj (se (am (aa (am rfl (pmC cl hs c1 c2 d1 d2)) (aa (am (aa rfl (aa (dq rfl (dq rfl rfl sb) (cN (f s40) (f (by omega)))) rfl)) (uI s0 (ck (m:=11) (Qw (R9 s40 (Qw (Vw _ _) s40)) (by decide)) (by decide)))) rfl)) (Jy v s0 ?_)) rfl)) rfl (bK ?_)
 .rw[Rj Tp,<-l,<-C,<-H]
  exact Z1
 refine aD (d:=dA 0 (mu (e_ n vs))) (β1:=β3) (aj (z:=dA 0 (mu (e_ n vs))) rfl (fA.trans (by rw[Pz v]))) (oC ?_);generalize hF:(λi=>Zm n vs c (i,d.2))=F;have Fi:∀i,Zm n vs c (i,d.2)=F i:=λi=>congrFun hF i;have FS:L2.Nt.sm (Qy n) F=(js vs).getD d.2 0*Xm n vs c:=by rw[<-hF];exact Z2
 have tot:L2.Nt.sm (Qy n) F<=2^190:=by
  rw[FS,show(190:Nat)=6+184 from rfl,WC];exact R9 (Qw a4 (by decide)) xle
 have part:∀i,L2.Nt.sm ((Qy n).take i) F<=2^190:=λi=>Qw (zb (g:=F) (Z3 _ _) λ_ _=>Qz _) tot;have L:∀{p A:Nat},p<=2^A->A<=999->p<2^1000:=λe h=>ck e h;refine da (ds:=aU 0 n) (β1:=β3) (bG (aa (aj rfl (AK (r:=n) (BG t.shp))) rfl) (xr (by have:=t.r1;omega) (by have:=t.r1;omega))) (λi δ b=>β3=b/\∃O Q R,δ=gNm a n vs c d I J O N (on (.sh (dA (L2.Nt.sm ((Qy n).take i) F) (mu (e_ n vs))))) Q R Qh) ⟨rfl,_,_,_,rfl⟩ ?_ ?_
 .rintro i dd δ _ hdd ⟨rfl,O,Q,R,rfl⟩
  obtain⟨hi,rfl⟩:=sy hdd;have fle:F i<=2^184:=by rw[<-Fi];exact HZ cl hs c1 c2 hi d2
  have pm:=pmC (K:=K) (a:=a) (β:=β3) (d:=(i,d.2)) cl hs c1 c2 hi d2;rw[Fi]at pm;have pi:=part i;have tk:L2.Nt.sm ((Qy n).take (i+1)) F=L2.Nt.sm ((Qy n).take i) F+F i:=xh F (R5 hi);generalize L2.Nt.sm ((Qy n).take i) F=A at pi tk;rw[tk,<-Lc v];have B:∀p:Nat,mu (e_ n vs)/Rz p (mu (e_ n vs))<=2^160:=λp=>Qw (Tk _ _) Z;refine⟨_,rfl,aD (am (aa rfl (aa rfl (aa (aj (z:=lK (i,d.2)) (aa rfl (aa (dq rfl rfl fR) rfl)) fA) rfl))) pm) ?_⟩;refine aD (β1:=β3) (dq (dq (dq rfl rfl iY) (dq rfl rfl fR) (cN (L (Qw (Tk _ _) pi) (by decide)) (L (B _) (by decide)))) (dq (dq rfl rfl iY) (dq rfl rfl fR) (cN (L (Qw (Tk _ _) fle) (by decide)) (L (B _) (by decide)))) oy) ?_;exact ao (aD (β1:=β3) (am (aa rfl (aa (dq (dq rfl rfl fR) (dq rfl rfl fR) (cN (L (B _) (by decide)) (L (B _) (by decide)))) rfl)) (uI (UE (jV v) (jV v)) (L (A:=160+160) (by rw[WC];exact R9 (B _) (B _)) (by decide)))) (bx ⟨rfl,_,_,_,rfl⟩))
 .rintro δ _ ⟨rfl,O,Q,R,rfl⟩
  rw[lF,S6 (by rw[Q6];exact Qz _),FS];refine aD (am (aa rfl (aa (dq rfl rfl iY) (aa (dq rfl rfl fR) rfl))) (meC cl hs c1 c2)) ?_;refine ao (aT (d:= .bl Qo) (β1:=β3) (am (aa rfl (aa (am (aa (dq (dq rfl rfl iY) (dq rfl (dq rfl rfl fR) (C1 d2)) (cN (L (Qw (Tk _ _) xle) (by decide)) (f a4))) (aa (dq rfl rfl fR) rfl)) (uI (jV v) (L (Qw (Tk _ _) Z) (by decide)))) rfl)) ?_) rfl);rw[Ld v];exact Jy v v rfl
noncomputable abbrev E(P:X8)(n:String)(t:Nat)(v:Qv):Uv:=⟨PyData.keyHash P (SX n),.str (SX n) t,v⟩
noncomputable abbrev FN(x q:Rl)(s:RT)(e f b g:Qv)(h:Option Qs)(cd ct:Qv):Q2:=UB x q (iB s) (ci s) (ae s) e f b g h cd ct
noncomputable abbrev fO(f:Q2):Q0:=⟨.type "function",Qh,.func f,#[]⟩
noncomputable abbrev tO(l:List Qv):Q0:=⟨.type "tuple",Qh,.seq l.toArray 0,#[]⟩
noncomputable abbrev cO(l:List Qv):Q0:=⟨.type "code",Qh,.fields l.toArray,#[]⟩
noncomputable abbrev eB(P:X8)(n:String)(t:Nat):Uv:=E P n t (.builtin n)
noncomputable abbrev eT(P:X8)(n:String)(t:Nat):Uv:=E P n t (.type n)
noncomputable abbrev eR(P:X8)(n:String)(t r:Nat):Uv:=E P n t (.ref r)
noncomputable abbrev nO(l:List Qv):Q0:=⟨.none,Qh,.fields l.toArray,#[]⟩
noncomputable abbrev fB(x q:Rl)(s:RT):Q0:=⟨.none,Qh,.func ⟨x,q,iB s,.stmts (ci s),ae s,0,[],.none,.none,.none,.none,Qh,.none,.none,0⟩,#[]⟩
noncomputable abbrev cC(n q:Rl)(t l a po e fl r:Nat)(b:Bool)(f g:Nat)(x y z w:Qv)(u h v:Nat):Q0:=cO [.str n t,.str q (t+1),.str "/claim/cut.py" (t+2),.int l 0,.int a 0,.int po 0,.int e 0,.int fl 0,.ref r,.bool b,.int f 0,.ref g,x,y,z,w,.int u 0,.int h 0,.str "/claim/cut.py" v]
noncomputable abbrev cF(n:Rl)(t l a b r e u:Nat):Q0:=cC n n t l a 0 b 3 r Qo e (r+1) .none .none .none (.ref (r+2)) u l (u+1)
noncomputable abbrev cG(n:Rl)(t l a b r e u:Nat):Q0:=cC n n t l a 0 b 3 r Qo e (r+1) .none (.ref (r+2)) (.ref (r+3)) (.ref (r+4)) u l (u+1)
noncomputable abbrev fM(m:Rl)(t:Nat)(x:Rl)(i c:Nat):Q0:=fO (FN x x (dc i) .none .none .none (.str m t) Qh (.ref c) .none)
abbrev eTt:List Qv:=[(.ref 38),(.type "ValueError"),(.type "Exception"),(.type "BaseException"),(.type "object")]
noncomputable abbrev Z_(x:Rl)(a d b t u:Nat):Q0:=⟨(.type "type"),Qh,(.cls ⟨x,[(.ref 38)],(.ref a)::eTt,d,x,Qo,[],[],Qr,Qh,Qr⟩),#[(on (.ref b)),Qh,(on (.str x t)),(on (.str x u)),(on (.builtin "ValueError.__new__")),(on (.bool Qo))]⟩
noncomputable abbrev K_(n:Nat):Q0:=⟨(.type "builtin_function_or_method"),Qh,(.fields #[(.builtin "object.__init_subclass__"),(.ref n)]),#[]⟩
noncomputable abbrev j_:Qv:= .str "edgetally.errors" 194
noncomputable abbrev si:Qv:= .str "edgetally.net" 524
noncomputable abbrev tx2:Qv:= .str "__main__" 164
noncomputable abbrev fL(x q:Rl)(i c:Nat):Q0:=fO (FN x q (dc i) .none .none .none (.str "law_edgetally_k51_whole_pair_means_by_two_le" 786) Qh (.ref c) .none)
noncomputable def trL:List Nat->List Qv
 |a::b::c::l=> .int a 0:: .int b 0:: .ref c::trL l
 |_=>[]
noncomputable abbrev nT(l:List Nat):Q0:=nO (trL l)
noncomputable def stL:Nat->List Rl->List Qv
 |_,[]=>[]
 |t,x::l=> .str x t::stL (t+1) l
noncomputable abbrev tS(t:Nat)(l:List Rl):Q0:=tO (stL t l)
noncomputable def fD(o:Q0):Q2:=match o.data with
 | .func f=>f
 |_=>FN "" "" (dc 0) .none .none .none .none Qh .none .none
end
section
variable(P:X8)
def b0:Q0:=⟨(.type "dict"),Qh,(.dict #[(E P "__name__" 1 (.str "builtins" 160)),(E P "__doc__" 2 (.builtin "builtins.__doc__:str#opaque")),(E P "__package__" 3 (.builtin "builtins.__package__:str#opaque")),(E P "__loader__" 4 (.builtin "builtins.__loader__:shared#opaque")),(E P "__spec__" 5 (.builtin "builtins.__spec__#opaque")),(eB P "__build_class__" 6),(eB P "__import__" 7),(eB P "abs" 8),(eB P "all" 9),(eB P "any" 10),(eB P "ascii" 11),(eB P "bin" 12),(eB P "breakpoint" 13),(eB P "callable" 14),(eB P "chr" 15),(eB P "compile" 16),(eB P "delattr" 17),(eB P "dir" 18),(eB P "divmod" 19),(eB P "eval" 20),(eB P "exec" 21),(eB P "format" 22),(eB P "getattr" 23),(eB P "globals" 24),(eB P "hasattr" 25),(eB P "hash" 26),(eB P "hex" 27),(eB P "id" 28),(eB P "input" 29),(eB P "isinstance" 30),(eB P "issubclass" 31),(eB P "iter" 32),(eB P "aiter" 33),(eB P "len" 34),(eB P "locals" 35),(eB P "max" 36),(eB P "min" 37),(eB P "next" 38),(eB P "anext" 39),(eB P "oct" 40),(eB P "ord" 41),(eB P "pow" 42),(eB P "print" 43),(eB P "repr" 44),(eB P "round" 45),(eB P "setattr" 46),(eB P "sorted" 47),(eB P "sum" 48),(eB P "vars" 49),(E P "None" 50 .none),(E P "Ellipsis" 51 .ellipsis),(E P "NotImplemented" 52 .notImplemented),(E P "False" 53 (.bool Qr)),(E P "True" 54 (.bool Qo)),(eT P "bool" 55),(eT P "memoryview" 56),(eT P "bytearray" 57),(eT P "bytes" 58),(eT P "classmethod" 59),(eT P "complex" 60),(eT P "dict" 61),(eT P "enumerate" 62),(eT P "filter" 63),(eT P "float" 64),(eT P "frozenset" 65),(eT P "property" 66),(eT P "int" 67),(eT P "list" 68),(eT P "map" 69),(eT P "object" 70),(eT P "range" 71),(eT P "reversed" 72),(eT P "set" 73),(eT P "slice" 74),(eT P "staticmethod" 75),(eT P "str" 76),(eT P "super" 77),(eT P "tuple" 78),(eT P "type" 79),(eT P "zip" 80),(E P "__debug__" 81 (.bool Qo)),(eT P "BaseException" 82),(eT P "BaseExceptionGroup" 83),(eT P "Exception" 84),(eT P "GeneratorExit" 85),(eT P "KeyboardInterrupt" 86),(eT P "SystemExit" 87),(eT P "ArithmeticError" 88),(eT P "AssertionError" 89),(eT P "AttributeError" 90),(eT P "BufferError" 91),(eT P "EOFError" 92),(eT P "ImportError" 93),(eT P "LookupError" 94),(eT P "MemoryError" 95),(eT P "NameError" 96),(eT P "OSError" 97),(eT P "ReferenceError" 98),(eT P "RuntimeError" 99),(eT P "StopAsyncIteration" 100),(eT P "StopIteration" 101),(eT P "SyntaxError" 102),(eT P "SystemError" 103),(eT P "TypeError" 104),(eT P "ValueError" 105),(eT P "Warning" 106),(eT P "FloatingPointError" 107),(eT P "OverflowError" 108),(eT P "ZeroDivisionError" 109),(eT P "BytesWarning" 110),(eT P "DeprecationWarning" 111),(eT P "EncodingWarning" 112),(eT P "FutureWarning" 113),(eT P "ImportWarning" 114),(eT P "PendingDeprecationWarning" 115),(eT P "ResourceWarning" 116),(eT P "RuntimeWarning" 117),(eT P "SyntaxWarning" 118),(eT P "UnicodeWarning" 119),(eT P "UserWarning" 120),(eT P "BlockingIOError" 121),(eT P "ChildProcessError" 122),(eT P "ConnectionError" 123),(eT P "FileExistsError" 124),(eT P "FileNotFoundError" 125),(eT P "InterruptedError" 126),(eT P "IsADirectoryError" 127),(eT P "NotADirectoryError" 128),(eT P "PermissionError" 129),(eT P "ProcessLookupError" 130),(eT P "TimeoutError" 131),(eT P "IndentationError" 132),(eT P "_IncompleteInputError" 133),(eT P "IndexError" 134),(eT P "KeyError" 135),(eT P "ModuleNotFoundError" 136),(eT P "NotImplementedError" 137),(eT P "PythonFinalizationError" 138),(eT P "RecursionError" 139),(eT P "UnboundLocalError" 140),(eT P "UnicodeError" 141),(eT P "BrokenPipeError" 142),(eT P "ConnectionAbortedError" 143),(eT P "ConnectionRefusedError" 144),(eT P "ConnectionResetError" 145),(eT P "TabError" 146),(eT P "UnicodeDecodeError" 147),(eT P "UnicodeEncodeError" 148),(eT P "UnicodeTranslateError" 149),(eT P "ExceptionGroup" 150),(E P "EnvironmentError" 151 (.type "OSError")),(E P "IOError" 152 (.type "OSError")),(eB P "open" 153),(E P "quit" 154 (.builtin "builtins.quit#opaque")),(E P "exit" 155 (.builtin "builtins.exit#opaque")),(E P "copyright" 156 (.builtin "builtins.copyright#opaque")),(E P "credits" 157 (.builtin "builtins.credits#opaque")),(E P "license" 158 (.builtin "builtins.license#opaque")),(E P "help" 159 (.builtin "builtins.help#opaque"))] 159),#[]⟩
def b1:Q0:=⟨(.type "dict"),Qh,(.dict #[(eR P "builtins" 162 4),(eR P "__main__" 163 5)] 2),#[]⟩
noncomputable def b2:Q0:=⟨.none,Qh,(.dict #[] 0),#[]⟩
def mL:List Uv:=[(E P "__name__" 165 (.str "law_edgetally_k51_whole_pair_means_by_two_le" 786)),(E P "__doc__" 166 .none),(E P "__package__" 167 .none),(E P "__loader__" 168 (.builtin "__main__.__loader__#opaque")),(E P "__spec__" 169 .none),(eR P "__annotations__" 170 6),(eR P "__builtins__" 171 4),(E P "__file__" 173 (.str "/claim/cut.py" 172)),(E P "__cached__" 174 .none),(eR P "_wall" 193 21),(eR P "EdgeError" 223 38),(eR P "BadSums" 248 59),(eR P "BadBounds" 273 79),(eR P "TooWide" 298 98),(eR P "Barred" 325 117),(eR P "BadCell" 350 137),(eR P "BadNumber" 375 157),(E P "MOST" 379 (.int 40 378)),(E P "MOST_ROWS" 381 (.int 4 380)),(E P "MOST_COLUMNS" 383 (.int 6 382)),(eR P "FREE" 385 160),(eR P "free" 392 166),(eR P "check_sums" 398 171),(eR P "check_there" 406 178),(eR P "check_cell" 416 185),(eR P "check_pair" 425 192),(eR P "settled_bounds" 431 197),(eR P "factorial" 442 204),(eR P "ways" 451 211),(eR P "common_factor" 459 218),(eR P "lowest" 468 225),(eR P "fillings" 474 230),(eR P "need_of" 482 235),(eR P "room_inside" 488 240),(eR P "room_beside" 494 245),(eR P "room_of" 500 250),(eR P "narrowest" 506 255),(eR P "choices" 512 260),(eR P "check_fit" 523 267),(E P "WIDE" 527 (.int 500 526)),(eR P "check_wide" 536 274),(eR P "settled_for_net" 546 281),(eR P "column_fillings" 552 286),(eR P "rests_behind" 558 291),(eR P "nodes_by_level" 564 296),(eR P "node_counts" 578 303),(eR P "counted_nodes" 584 308),(eR P "Net" 692 392),(eR P "check_cell_of" 704 403),(eR P "count_in" 715 410),(eR P "put_to" 729 417),(eR P "sums_added" 735 422),(eR P "sums_behind" 752 429),(eR P "sums_over_tables" 758 434),(eR P "mean" 772 441),(eR P "pair_mean" 785 448),(eR P "_law_bag" 793 453),(eR P "_law_pull" 804 460),(eR P "_law_same" 810 465),(eR P "_law_grid" 816 470),(eR P "_law_wide" 826 477),(eR P "_law_large" 836 484),(eR P "_law_turned" 842 489),(eR P "_law_rowsums" 848 494),(eR P "_law_columnsums" 854 499),(eR P "_law_gcd" 863 506),(eR P "_law_lowest" 872 513),(eR P "_law_place" 881 520),(eR P "law" 905 527)]
noncomputable def b3:Q0:=⟨(.type "dict"),Qh,(.dict (mL P).toArray 69),#[]⟩
noncomputable def b4:Q0:=⟨(.type "module"),(on 0),.plain,#[]⟩
noncomputable def b5:Q0:=⟨(.type "module"),(on 3),.plain,#[]⟩
noncomputable def b6:Q0:=⟨(.type "dict"),Qh,(.dict #[] 0),#[]⟩
def b7:Q0:=tO []
def b8:Q0:=nO []
def b9:Q0:=cC "<module>" "<module>" 176 1 0 0 0 0 7 Qr 175 8 .none .none .none .none 179 1 180
def b10:Q0:=⟨(.type "frame"),Qh,.plain,#[(on (.ref 9)),(on (.ref 3)),(on (.ref 3)),Qh,(on tx2),Qh,(on (.ref 0))]⟩
def b12:Q0:=nT [1,0,20,5,0,27,10,0,47,14,0,67,18,0,87,23,0,106,29,0,125,33,0,145,42,0,165,44,0,170,55,0,177,58,0,184,61,0,191,65,0,196,75,0,203,80,0,210,88,0,217,92,0,224,97,0,229,107,0,234,109,0,239,112,0,244,114,0,249,116,0,254,118,0,259,123,0,266,130,0,273,136,0,280,141,0,285,143,0,290,145,0,295,153,0,302,161,0,307,171,0,314,213,0,402,216,0,409,219,0,416,222,0,421,224,0,428,232,0,433,237,0,440,242,0,447,248,0,452,250,0,459,260,0,464,272,0,469,279,0,476,285,0,483,296,0,488,298,0,493,300,0,498,302,0,505,308,0,512,311,0,519,314,0,526]
def b13:Q0:=cC "<module>" "<module>" 182 1 0 0 0 0 11 Qr 181 12 .none .none .none .none 185 1 186
def b14:Q0:=⟨(.type "frame"),Qh,.plain,#[(on (.ref 13)),(on (.ref 3)),(on (.ref 3)),Qh,(on tx2),Qh,(on (.ref 0))]⟩
def b17:Q0:=tS 190 ["k"]
def b19:Q0:=fB "_wall" "_wall" (dc 0)
def b20:Q0:=cG "_wall" 187 1 1 0 15 181 191
def b21:Q0:=fM "__main__" 164 "_wall" 0 20
def b22:Q0:=tO [(.type "ValueError")]
noncomputable def L_:Q0:=⟨(.type "builtin_function_or_method"),Qh,(.fields #[(.builtin "type.__prepare__"),(.type "type")]),#[]⟩
def b24:Q0:=⟨(.type "dict"),Qh,(.dict #[(E P "__module__" 203 j_),(E P "__qualname__" 205 (.str "EdgeError" 204)),(E P "__firstlineno__" 207 (.int 5 206)),(eR P "__init__" 216 35),(eR P "__static_attributes__" 218 36)] 5),#[]⟩
def b26:Q0:=nT [7,4,34]
def b27:Q0:=cC "EdgeError" "EdgeError" 198 5 0 0 0 0 25 Qr 181 26 .none .none .none .none 201 5 202
def b28:Q0:=⟨(.type "frame"),Qh,.plain,#[(on (.ref 27)),(on (.ref 3)),(on (.ref 24)),Qh,(on j_),Qh,(on (.ref 0))]⟩
def b31:Q0:=tS 211 ["self","word","why"]
def b33:Q0:=fB "__init__" "EdgeError.__init__" (aE (dc 2) 0)
def b34:Q0:=cC "__init__" "EdgeError.__init__" 208 7 3 0 0 3 29 Qo 181 30 .none (.ref 31) (.ref 32) (.ref 33) 214 7 215
def b35:Q0:=fO (FN "__init__" "EdgeError.__init__" (aE (dc 2) 0) .none .none .none j_ Qh (.ref 34) .none)
def b36:Q0:=tS 217 ["word"]
def b37:Q0:=⟨(.type "dict"),Qh,(.dict #[(E P "__module__" 203 j_),(E P "__firstlineno__" 207 (.int 5 206)),(eR P "__init__" 216 35),(eR P "__static_attributes__" 218 36),(eR P "__weakref__" 220 39),(E P "__doc__" 221 .none)] 3),#[]⟩
noncomputable def b38:Q0:=⟨(.type "type"),Qh,(.cls ⟨"EdgeError",[(.type "ValueError")],[(.ref 38),(.type "ValueError"),(.type "Exception"),(.type "BaseException"),(.type "object")],37,"EdgeError",Qo,[],[(.ref 59),(.ref 79),(.ref 98),(.ref 117),(.ref 137),(.ref 157)],Qr,Qh,Qr⟩),#[(on (.ref 22)),Qh,(on (.str "EdgeError" 196)),(on (.str "EdgeError" 204)),(on (.builtin "ValueError.__new__")),(on (.bool Qo))]⟩
noncomputable def b39:Q0:=⟨(.type "getset_descriptor"),Qh,(.fields #[(.str "__weakref__" 219),(.ref 38),(.builtin "ExceptionGroup.__weakref__"),.none]),#[]⟩
noncomputable def b40:Q0:=⟨(.type "super"),Qh,(.fields #[(.ref 38),(.ref 38),(.ref 38)]),#[]⟩
def b41:Q0:=K_ 38
def b42:Q0:=tO [(.ref 38)]
def b44:Q0:=⟨(.type "dict"),Qh,(.dict #[(E P "__module__" 231 j_),(E P "__qualname__" 233 (.str "BadSums" 232)),(E P "__firstlineno__" 235 (.int 10 234)),(eR P "__init__" 244 56),(eR P "__static_attributes__" 245 57)] 5),#[]⟩
def b46:Q0:=nT [12,4,55]
def b47:Q0:=cC "BadSums" "BadSums" 226 10 0 0 0 0 45 Qr 181 46 .none .none .none .none 229 10 230
def b48:Q0:=⟨(.type "frame"),Qh,.plain,#[(on (.ref 47)),(on (.ref 3)),(on (.ref 44)),Qh,(on j_),Qh,(on (.ref 0))]⟩
def b49:Q0:=tS 236 ["these sums are no table's"]
def b52:Q0:=tS 240 ["self","why"]
def b54:Q0:=fB "__init__" "BadSums.__init__" (aE (dc 3) 0)
def b55:Q0:=cC "__init__" "BadSums.__init__" 237 12 2 0 0 3 50 Qo 181 51 .none (.ref 52) (.ref 53) (.ref 54) 242 12 243
def b56:Q0:=fO (FN "__init__" "BadSums.__init__" (aE (dc 3) 0) (.ref 49) .none .none j_ Qh (.ref 55) .none)
def b58:Q0:=⟨(.type "dict"),Qh,(.dict #[(E P "__module__" 231 j_),(E P "__firstlineno__" 235 (.int 10 234)),(eR P "__init__" 244 56),(eR P "__static_attributes__" 245 57),(E P "__doc__" 246 .none)] 2),#[]⟩
def b59:Q0:=Z_ "BadSums" 59 58 42 224 232
noncomputable def b60:Q0:=⟨(.type "super"),Qh,(.fields #[(.ref 59),(.ref 59),(.ref 59)]),#[]⟩
def b61:Q0:=K_ 59
def b64:Q0:=⟨(.type "dict"),Qh,(.dict #[(E P "__module__" 256 j_),(E P "__qualname__" 258 (.str "BadBounds" 257)),(E P "__firstlineno__" 260 (.int 14 259)),(eR P "__init__" 269 76),(eR P "__static_attributes__" 270 77)] 5),#[]⟩
def b66:Q0:=nT [16,4,75]
def b67:Q0:=cC "BadBounds" "BadBounds" 251 14 0 0 0 0 65 Qr 181 66 .none .none .none .none 254 14 255
def b68:Q0:=⟨(.type "frame"),Qh,.plain,#[(on (.ref 67)),(on (.ref 3)),(on (.ref 64)),Qh,(on j_),Qh,(on (.ref 0))]⟩
def b69:Q0:=tS 261 ["these bounds are no table's"]
def b72:Q0:=tS 265 ["self","why"]
def b74:Q0:=fB "__init__" "BadBounds.__init__" (aE (dc 4) 0)
def b75:Q0:=cC "__init__" "BadBounds.__init__" 262 16 2 0 0 3 70 Qo 181 71 .none (.ref 72) (.ref 73) (.ref 74) 267 16 268
def b76:Q0:=fO (FN "__init__" "BadBounds.__init__" (aE (dc 4) 0) (.ref 69) .none .none j_ Qh (.ref 75) .none)
def b78:Q0:=⟨(.type "dict"),Qh,(.dict #[(E P "__module__" 256 j_),(E P "__firstlineno__" 260 (.int 14 259)),(eR P "__init__" 269 76),(eR P "__static_attributes__" 270 77),(E P "__doc__" 271 .none)] 2),#[]⟩
def b79:Q0:=Z_ "BadBounds" 79 78 62 249 257
noncomputable def b80:Q0:=⟨(.type "super"),Qh,(.fields #[(.ref 79),(.ref 79),(.ref 79)]),#[]⟩
def b81:Q0:=K_ 79
def b84:Q0:=⟨(.type "dict"),Qh,(.dict #[(E P "__module__" 281 j_),(E P "__qualname__" 283 (.str "TooWide" 282)),(E P "__firstlineno__" 285 (.int 18 284)),(eR P "__init__" 293 95),(eR P "__static_attributes__" 295 96)] 5),#[]⟩
def b86:Q0:=nT [20,4,94]
def b87:Q0:=cC "TooWide" "TooWide" 276 18 0 0 0 0 85 Qr 181 86 .none .none .none .none 279 18 280
def b88:Q0:=⟨(.type "frame"),Qh,.plain,#[(on (.ref 87)),(on (.ref 3)),(on (.ref 84)),Qh,(on j_),Qh,(on (.ref 0))]⟩
def b91:Q0:=tS 289 ["self","wide"]
def b93:Q0:=fB "__init__" "TooWide.__init__" (aE (dc 5) 0)
def b94:Q0:=cC "__init__" "TooWide.__init__" 286 20 2 0 0 3 89 Qo 181 90 .none (.ref 91) (.ref 92) (.ref 93) 291 20 292
def b95:Q0:=fO (FN "__init__" "TooWide.__init__" (aE (dc 5) 0) .none .none .none j_ Qh (.ref 94) .none)
def b96:Q0:=tS 294 ["wide"]
def b97:Q0:=⟨(.type "dict"),Qh,(.dict #[(E P "__module__" 281 j_),(E P "__firstlineno__" 285 (.int 18 284)),(eR P "__init__" 293 95),(eR P "__static_attributes__" 295 96),(E P "__doc__" 296 .none)] 2),#[]⟩
def b98:Q0:=Z_ "TooWide" 98 97 82 274 282
noncomputable def b99:Q0:=⟨(.type "super"),Qh,(.fields #[(.ref 98),(.ref 98),(.ref 98)]),#[]⟩
def b100:Q0:=K_ 98
def b103:Q0:=⟨(.type "dict"),Qh,(.dict #[(E P "__module__" 306 j_),(E P "__qualname__" 308 (.str "Barred" 307)),(E P "__firstlineno__" 310 (.int 23 309)),(eR P "__init__" 319 114),(eR P "__static_attributes__" 322 115)] 5),#[]⟩
def b105:Q0:=nT [25,4,113]
def b106:Q0:=cC "Barred" "Barred" 301 23 0 0 0 0 104 Qr 181 105 .none .none .none .none 304 23 305
def b107:Q0:=⟨(.type "frame"),Qh,.plain,#[(on (.ref 106)),(on (.ref 3)),(on (.ref 103)),Qh,(on j_),Qh,(on (.ref 0))]⟩
def b110:Q0:=tS 314 ["self","over","into"]
def b112:Q0:=fB "__init__" "Barred.__init__" (aE (dc 6) 0)
def b113:Q0:=cC "__init__" "Barred.__init__" 311 25 3 0 0 3 108 Qo 181 109 .none (.ref 110) (.ref 111) (.ref 112) 317 25 318
def b114:Q0:=fO (FN "__init__" "Barred.__init__" (aE (dc 6) 0) .none .none .none j_ Qh (.ref 113) .none)
def b115:Q0:=tS 320 ["into","over"]
def b116:Q0:=⟨(.type "dict"),Qh,(.dict #[(E P "__module__" 306 j_),(E P "__firstlineno__" 310 (.int 23 309)),(eR P "__init__" 319 114),(eR P "__static_attributes__" 322 115),(E P "__doc__" 323 .none)] 2),#[]⟩
def b117:Q0:=Z_ "Barred" 117 116 101 299 307
noncomputable def b118:Q0:=⟨(.type "super"),Qh,(.fields #[(.ref 117),(.ref 117),(.ref 117)]),#[]⟩
def b119:Q0:=K_ 117
def b122:Q0:=⟨(.type "dict"),Qh,(.dict #[(E P "__module__" 333 j_),(E P "__qualname__" 335 (.str "BadCell" 334)),(E P "__firstlineno__" 337 (.int 29 336)),(eR P "__init__" 346 134),(eR P "__static_attributes__" 347 135)] 5),#[]⟩
def b124:Q0:=nT [31,4,133]
def b125:Q0:=cC "BadCell" "BadCell" 328 29 0 0 0 0 123 Qr 181 124 .none .none .none .none 331 29 332
def b126:Q0:=⟨(.type "frame"),Qh,.plain,#[(on (.ref 125)),(on (.ref 3)),(on (.ref 122)),Qh,(on j_),Qh,(on (.ref 0))]⟩
def b127:Q0:=tS 338 ["there is no such cell"]
def b130:Q0:=tS 342 ["self","why"]
def b132:Q0:=fB "__init__" "BadCell.__init__" (aE (dc 7) 0)
def b133:Q0:=cC "__init__" "BadCell.__init__" 339 31 2 0 0 3 128 Qo 181 129 .none (.ref 130) (.ref 131) (.ref 132) 344 31 345
def b134:Q0:=fO (FN "__init__" "BadCell.__init__" (aE (dc 7) 0) (.ref 127) .none .none j_ Qh (.ref 133) .none)
def b136:Q0:=⟨(.type "dict"),Qh,(.dict #[(E P "__module__" 333 j_),(E P "__firstlineno__" 337 (.int 29 336)),(eR P "__init__" 346 134),(eR P "__static_attributes__" 347 135),(E P "__doc__" 348 .none)] 2),#[]⟩
def b137:Q0:=Z_ "BadCell" 137 136 120 326 334
noncomputable def b138:Q0:=⟨(.type "super"),Qh,(.fields #[(.ref 137),(.ref 137),(.ref 137)]),#[]⟩
def b139:Q0:=K_ 137
def b142:Q0:=⟨(.type "dict"),Qh,(.dict #[(E P "__module__" 358 j_),(E P "__qualname__" 360 (.str "BadNumber" 359)),(E P "__firstlineno__" 362 (.int 33 361)),(eR P "__init__" 371 154),(eR P "__static_attributes__" 372 155)] 5),#[]⟩
def b144:Q0:=nT [35,4,153]
def b145:Q0:=cC "BadNumber" "BadNumber" 353 33 0 0 0 0 143 Qr 181 144 .none .none .none .none 356 33 357
def b146:Q0:=⟨(.type "frame"),Qh,.plain,#[(on (.ref 145)),(on (.ref 3)),(on (.ref 142)),Qh,(on j_),Qh,(on (.ref 0))]⟩
def b147:Q0:=tS 363 ["this number is out of its bounds"]
def b150:Q0:=tS 367 ["self","why"]
def b152:Q0:=fB "__init__" "BadNumber.__init__" (aE (dc 8) 0)
def b153:Q0:=cC "__init__" "BadNumber.__init__" 364 35 2 0 0 3 148 Qo 181 149 .none (.ref 150) (.ref 151) (.ref 152) 369 35 370
def b154:Q0:=fO (FN "__init__" "BadNumber.__init__" (aE (dc 8) 0) (.ref 147) .none .none j_ Qh (.ref 153) .none)
def b156:Q0:=⟨(.type "dict"),Qh,(.dict #[(E P "__module__" 358 j_),(E P "__firstlineno__" 362 (.int 33 361)),(eR P "__init__" 371 154),(eR P "__static_attributes__" 372 155),(E P "__doc__" 373 .none)] 2),#[]⟩
def b157:Q0:=Z_ "BadNumber" 157 156 140 351 359
noncomputable def b158:Q0:=⟨(.type "super"),Qh,(.fields #[(.ref 157),(.ref 157),(.ref 157)]),#[]⟩
def b159:Q0:=K_ 157
def Ou:Q0:=tO [(.int 0 384),(.int 40 378)]
def Ot:Q0:=⟨(.type "dict"),Qh,(.dict #[(eR P "pair" 386 160)] 1),#[]⟩
def b164:Q0:=fB "free" "free" (dc 14)
def Os:Q0:=cF "free" 387 42 2 1 162 181 390
def HX:Q0:=fO (FN "free" "free" (dc 14) .none (.ref 161) .none (.str "edgetally.bounds" 376) Qh (.ref 165) .none)
def b169:Q0:=fB "check_sums" "check_sums" (dc 15)
def Oq:Q0:=cF "check_sums" 393 44 2 0 167 181 396
def HW:Q0:=fM "edgetally.bounds" 376 "check_sums" 15 170
def b174:Q0:=tS 402 ["place","many"]
def b176:Q0:=fB "check_there" "check_there" (dc 16)
def Op:Q0:=cG "check_there" 399 55 2 0 172 181 404
def HV:Q0:=fM "edgetally.bounds" 376 "check_there" 16 177
def b181:Q0:=tS 410 ["row","column","rows","columns"]
def b183:Q0:=fB "check_cell" "check_cell" (dc 17)
def Oo:Q0:=cG "check_cell" 407 58 4 0 179 181 414
def HU:Q0:=fM "edgetally.bounds" 376 "check_cell" 17 184
def b188:Q0:=tS 420 ["pair","low","high"]
def b190:Q0:=fB "check_pair" "check_pair" (dc 18)
def On:Q0:=cG "check_pair" 417 61 1 0 186 181 423
def HS:Q0:=fM "edgetally.bounds" 376 "check_pair" 18 191
def b195:Q0:=fB "settled_bounds" "settled_bounds" (dc 19)
def Om:Q0:=cF "settled_bounds" 426 65 3 0 193 181 429
def HR:Q0:=fM "edgetally.bounds" 376 "settled_bounds" 19 196
def b200:Q0:=tS 437 ["number","product","factor"]
def b202:Q0:=fB "factorial" "factorial" (dc 21)
def Ol:Q0:=cG "factorial" 434 75 1 0 198 181 440
def HQ:Q0:=fM "edgetally.counts" 432 "factorial" 21 203
def b207:Q0:=tS 446 ["parts","part","told"]
def b209:Q0:=fB "ways" "ways" (dc 22)
def Oj:Q0:=cG "ways" 443 80 1 0 205 181 449
def HP:Q0:=fM "edgetally.counts" 432 "ways" 22 210
def b214:Q0:=tS 455 ["one","other"]
def b216:Q0:=fB "common_factor" "common_factor" (dc 23)
def Oi:Q0:=cG "common_factor" 452 88 2 0 212 181 457
def HN:Q0:=fM "edgetally.counts" 432 "common_factor" 23 217
def b221:Q0:=tS 463 ["top","under","factor"]
def b223:Q0:=fB "lowest" "lowest" (dc 24)
def Oh:Q0:=cG "lowest" 460 92 2 0 219 181 466
def HM:Q0:=fM "edgetally.counts" 432 "lowest" 24 224
def b228:Q0:=fB "fillings" "fillings" (dc 25)
def Og:Q0:=cF "fillings" 469 97 3 0 226 181 472
def HL:Q0:=fM "edgetally.counts" 432 "fillings" 25 229
def b233:Q0:=fB "need_of" "need_of" (dc 27)
def Of:Q0:=cF "need_of" 477 107 2 0 231 181 480
def HK:Q0:=fM "edgetally.fits" 475 "need_of" 27 234
def b238:Q0:=fB "room_inside" "room_inside" (dc 28)
def Oe:Q0:=cF "room_inside" 483 109 4 0 236 181 486
def HJ:Q0:=fM "edgetally.fits" 475 "room_inside" 28 239
def b243:Q0:=fB "room_beside" "room_beside" (dc 29)
def Od:Q0:=cF "room_beside" 489 112 3 0 241 181 492
def HI:Q0:=fM "edgetally.fits" 475 "room_beside" 29 244
def b248:Q0:=fB "room_of" "room_of" (dc 30)
def Oc:Q0:=cF "room_of" 495 114 4 0 246 181 498
def HH:Q0:=fM "edgetally.fits" 475 "room_of" 30 249
def b253:Q0:=fB "narrowest" "narrowest" (dc 31)
def Ob:Q0:=cF "narrowest" 501 116 3 0 251 181 504
def HG:Q0:=fM "edgetally.fits" 475 "narrowest" 31 254
def b258:Q0:=fB "choices" "choices" (dc 32)
def Oa:Q0:=cF "choices" 507 118 1 0 256 181 510
def HF:Q0:=fM "edgetally.fits" 475 "choices" 32 259
def b263:Q0:=tS 516 ["rowsums","columnsums","bounds","over","into"]
def b265:Q0:=fB "check_fit" "check_fit" (dc 33)
def N9:Q0:=cG "check_fit" 513 123 3 0 261 181 521
def HE:Q0:=fM "edgetally.fits" 475 "check_fit" 33 266
def b270:Q0:=tS 531 ["rowsums","wide","many"]
def b272:Q0:=fB "check_wide" "check_wide" (dc 36)
def N8:Q0:=cG "check_wide" 528 130 1 0 268 181 534
def HD:Q0:=fM "edgetally.net" 524 "check_wide" 36 273
def b277:Q0:=tS 540 ["rowsums","columnsums","bounds","settled"]
def b279:Q0:=fB "settled_for_net" "settled_for_net" (dc 37)
def N7:Q0:=cG "settled_for_net" 537 136 3 0 275 181 544
def HC:Q0:=fM "edgetally.net" 524 "settled_for_net" 37 280
def b284:Q0:=fB "column_fillings" "column_fillings" (dc 38)
def N6:Q0:=cF "column_fillings" 547 141 4 0 282 181 550
def HB:Q0:=fM "edgetally.net" 524 "column_fillings" 38 285
def b289:Q0:=fB "rests_behind" "rests_behind" (dc 39)
def N5:Q0:=cF "rests_behind" 553 143 2 0 287 181 556
def HA:Q0:=fM "edgetally.net" 524 "rests_behind" 39 290
def b294:Q0:=fB "nodes_by_level" "nodes_by_level" (dc 40)
def N4:Q0:=cF "nodes_by_level" 559 145 3 0 292 181 562
def GZ:Q0:=fM "edgetally.net" 524 "nodes_by_level" 40 295
def b299:Q0:=tS 568 ["rests","filled","behind","tables","dealings","counts","tables_behind","dealings_behind"]
def b301:Q0:=fB "node_counts" "node_counts" (dc 41)
def N3:Q0:=cG "node_counts" 565 153 3 0 297 181 576
def GY:Q0:=fM "edgetally.net" 524 "node_counts" 41 302
def b306:Q0:=fB "counted_nodes" "counted_nodes" (dc 42)
def N2:Q0:=cF "counted_nodes" 579 161 3 0 304 181 582
def GX:Q0:=fM "edgetally.net" 524 "counted_nodes" 42 307
def b311:Q0:=⟨(.type "dict"),Qh,(.dict #[(E P "__module__" 592 si),(E P "__qualname__" 594 (.str "Net" 593)),(E P "__firstlineno__" 596 (.int 171 595)),(eR P "__init__" 608 323),(eR P "__eq__" 616 330),(eR P "__len__" 623 337),(eR P "rowsums" 630 344),(eR P "columnsums" 637 351),(eR P "bounds" 643 356),(eR P "counts_at" 652 363),(eR P "tables" 659 370),(eR P "dealings" 666 377),(eR P "steps" 672 382),(eR P "paper" 679 389),(eR P "__static_attributes__" 684 390)] 15),#[]⟩
def b313:Q0:=nT [173,4,322,181,4,329,184,4,336,187,4,343,190,4,350,193,4,355,196,4,362,199,4,369,202,4,376,205,4,381,210,4,388]
def b314:Q0:=cC "Net" "Net" 587 171 0 0 0 0 312 Qr 181 313 .none .none .none .none 590 171 591
def b315:Q0:=⟨(.type "frame"),Qh,.plain,#[(on (.ref 314)),(on (.ref 3)),(on (.ref 311)),Qh,(on si),Qh,(on (.ref 0))]⟩
def N1:Q0:=⟨(.type "dict"),Qh,(.dict #[(E P "bounds" 597 .none)] 1),#[]⟩
def b319:Q0:=tS 601 ["self","rowsums","columnsums","bounds","settled"]
def b321:Q0:=fB "__init__" "Net.__init__" (aE (dc 43) 0)
def N0:Q0:=cC "__init__" "Net.__init__" 598 173 3 0 1 3 317 Qo 181 318 .none (.ref 319) (.ref 320) (.ref 321) 606 173 607
def GW:Q0:=fO (FN "__init__" "Net.__init__" (aE (dc 43) 0) .none (.ref 316) .none si Qh (.ref 322) .none)
def b326:Q0:=tS 612 ["self","other"]
def b328:Q0:=fB "__eq__" "Net.__eq__" (aE (dc 43) 1)
def b329:Q0:=cC "__eq__" "Net.__eq__" 609 181 2 0 0 3 324 Qo 181 325 .none (.ref 326) (.ref 327) (.ref 328) 614 181 615
def b330:Q0:=fO (FN "__eq__" "Net.__eq__" (aE (dc 43) 1) .none .none .none si Qh (.ref 329) .none)
def b333:Q0:=tS 620 ["self"]
def b335:Q0:=fB "__len__" "Net.__len__" (aE (dc 43) 2)
def b336:Q0:=cC "__len__" "Net.__len__" 617 184 1 0 0 3 331 Qo 181 332 .none (.ref 333) (.ref 334) (.ref 335) 621 184 622
def b337:Q0:=fO (FN "__len__" "Net.__len__" (aE (dc 43) 2) .none .none .none si Qh (.ref 336) .none)
def b340:Q0:=tS 627 ["self"]
def b342:Q0:=fB "rowsums" "Net.rowsums" (aE (dc 43) 3)
def NZ:Q0:=cC "rowsums" "Net.rowsums" 624 187 1 0 0 3 338 Qo 181 339 .none (.ref 340) (.ref 341) (.ref 342) 628 187 629
def GV:Q0:=fO (FN "rowsums" "Net.rowsums" (aE (dc 43) 3) .none .none .none si Qh (.ref 343) .none)
def b347:Q0:=tS 634 ["self"]
def b349:Q0:=fB "columnsums" "Net.columnsums" (aE (dc 43) 4)
def NY:Q0:=cC "columnsums" "Net.columnsums" 631 190 1 0 0 3 345 Qo 181 346 .none (.ref 347) (.ref 348) (.ref 349) 635 190 636
def GU:Q0:=fO (FN "columnsums" "Net.columnsums" (aE (dc 43) 4) .none .none .none si Qh (.ref 350) .none)
def b354:Q0:=fB "bounds" "Net.bounds" (aE (dc 43) 5)
def b355:Q0:=cC "bounds" "Net.bounds" 638 193 1 0 0 3 352 Qo 181 353 .none .none .none (.ref 354) 641 193 642
def b356:Q0:=fO (FN "bounds" "Net.bounds" (aE (dc 43) 5) .none .none .none si Qh (.ref 355) .none)
def b359:Q0:=tS 647 ["self","level","rests"]
def b361:Q0:=fB "counts_at" "Net.counts_at" (aE (dc 43) 6)
def NX:Q0:=cC "counts_at" "Net.counts_at" 644 196 3 0 0 3 357 Qo 181 358 .none (.ref 359) (.ref 360) (.ref 361) 650 196 651
def GT:Q0:=fO (FN "counts_at" "Net.counts_at" (aE (dc 43) 6) .none .none .none si Qh (.ref 362) .none)
def b366:Q0:=tS 656 ["self"]
def b368:Q0:=fB "tables" "Net.tables" (aE (dc 43) 7)
def b369:Q0:=cC "tables" "Net.tables" 653 199 1 0 0 3 364 Qo 181 365 .none (.ref 366) (.ref 367) (.ref 368) 657 199 658
def b370:Q0:=fO (FN "tables" "Net.tables" (aE (dc 43) 7) .none .none .none si Qh (.ref 369) .none)
def b373:Q0:=tS 663 ["self"]
def b375:Q0:=fB "dealings" "Net.dealings" (aE (dc 43) 8)
def b376:Q0:=cC "dealings" "Net.dealings" 660 202 1 0 0 3 371 Qo 181 372 .none (.ref 373) (.ref 374) (.ref 375) 664 202 665
def b377:Q0:=fO (FN "dealings" "Net.dealings" (aE (dc 43) 8) .none .none .none si Qh (.ref 376) .none)
def b380:Q0:=fB "steps" "Net.steps" (aE (dc 43) 9)
def NW:Q0:=cC "steps" "Net.steps" 667 205 3 0 0 3 378 Qo 181 379 .none .none .none (.ref 380) 670 205 671
def GS:Q0:=fO (FN "steps" "Net.steps" (aE (dc 43) 9) .none .none .none si Qh (.ref 381) .none)
def b385:Q0:=tS 676 ["self"]
def b387:Q0:=fB "paper" "Net.paper" (aE (dc 43) 10)
def b388:Q0:=cC "paper" "Net.paper" 673 210 1 0 0 3 383 Qo 181 384 .none (.ref 385) (.ref 386) (.ref 387) 677 210 678
def b389:Q0:=fO (FN "paper" "Net.paper" (aE (dc 43) 10) .none .none .none si Qh (.ref 388) .none)
def b390:Q0:=tS 680 ["column_list","counted","pairs","row_list"]
def NV:Q0:=⟨(.type "dict"),Qh,(.dict #[(E P "__module__" 592 si),(E P "__firstlineno__" 596 (.int 171 595)),(eR P "__init__" 608 323),(eR P "__eq__" 616 330),(eR P "__len__" 623 337),(eR P "rowsums" 630 344),(eR P "columnsums" 637 351),(eR P "bounds" 643 356),(eR P "counts_at" 652 363),(eR P "tables" 659 370),(eR P "dealings" 666 377),(eR P "steps" 672 382),(eR P "paper" 679 389),(eR P "__static_attributes__" 684 390),(eR P "__dict__" 686 393),(eR P "__weakref__" 688 394),(E P "__doc__" 689 .none),(E P "__hash__" 690 .none)] 5),#[]⟩
noncomputable def NU:Q0:=⟨(.type "type"),Qh,(.cls ⟨"Net",[(.type "object")],[(.ref 392),(.type "object")],391,"Net",Qo,[],[],Qr,Qh,Qr⟩),#[Qh,Qh,(on (.str "Net" 585)),(on (.str "Net" 593)),(on (.builtin "object.__new__")),(on (.bool Qo))]⟩
noncomputable def b393:Q0:=⟨(.type "getset_descriptor"),Qh,(.fields #[(.str "__dict__" 685),(.ref 392),(.builtin "function.__dict__"),(.builtin "function.__dict__#set")]),#[]⟩
noncomputable def b394:Q0:=⟨(.type "getset_descriptor"),Qh,(.fields #[(.str "__weakref__" 687),(.ref 392),(.builtin "ExceptionGroup.__weakref__"),.none]),#[]⟩
noncomputable def b395:Q0:=⟨(.type "super"),Qh,(.fields #[(.ref 392),(.ref 392),(.ref 392)]),#[]⟩
def b396:Q0:=K_ 392
def b399:Q0:=tS 698 ["net","cell","row","column"]
def b401:Q0:=fB "check_cell_of" "check_cell_of" (dc 45)
def NT:Q0:=cG "check_cell_of" 695 213 2 0 397 181 702
def GR:Q0:=fM "edgetally.means" 693 "check_cell_of" 45 402
def b406:Q0:=tS 708 ["cell","level","counts","row","column"]
def b408:Q0:=fB "count_in" "count_in" (dc 46)
def NS:Q0:=cG "count_in" 705 216 3 0 404 181 713
def GQ:Q0:=fM "edgetally.means" 693 "count_in" 46 409
def b413:Q0:=tS 719 ["found","here","there","many","dealings","ones","others","products"]
def b415:Q0:=fB "put_to" "put_to" (dc 47)
def NR:Q0:=cG "put_to" 716 219 4 0 411 181 727
def GP:Q0:=fM "edgetally.means" 693 "put_to" 47 416
def b420:Q0:=fB "sums_added" "sums_added" (dc 48)
def NQ:Q0:=cF "sums_added" 730 222 2 0 418 181 733
def GO:Q0:=fM "edgetally.means" 693 "sums_added" 48 421
def b425:Q0:=tS 739 ["net","one","other","level","sums","behind","rests","found","counts","node","more"]
def b427:Q0:=fB "sums_behind" "sums_behind" (dc 49)
def NP:Q0:=cG "sums_behind" 736 224 5 0 423 181 750
def GN:Q0:=fM "edgetally.means" 693 "sums_behind" 49 428
def b432:Q0:=fB "sums_over_tables" "sums_over_tables" (dc 50)
def NO:Q0:=cF "sums_over_tables" 753 232 3 0 430 181 756
def GM:Q0:=fM "edgetally.means" 693 "sums_over_tables" 50 433
def b437:Q0:=tS 762 ["net","row","column","cell","dealings","ones","others","products"]
def b439:Q0:=fB "mean" "mean" (dc 51)
def NN:Q0:=cG "mean" 759 237 3 0 435 181 770
def GL:Q0:=fM "edgetally.means" 693 "mean" 51 440
def b444:Q0:=tS 776 ["net","one","other","dealings","ones","others","products"]
def b446:Q0:=fB "pair_mean" "pair_mean" (dc 52)
def NM:Q0:=cG "pair_mean" 773 242 3 0 442 181 783
def GK:Q0:=fM "edgetally.means" 693 "pair_mean" 52 447
def b451:Q0:=fB "_law_bag" "_law_bag" (dc 54)
def NK:Q0:=cF "_law_bag" 788 248 1 0 449 181 791
def GJ:Q0:=fL "_law_bag" "_law_bag" 54 452
def b456:Q0:=tS 797 ["_law_bag_here","_law_lot","_law_cells","_law_at","_law_cell"]
def b458:Q0:=fB "_law_pull" "_law_pull" (dc 55)
def NJ:Q0:=cG "_law_pull" 794 250 2 0 454 181 802
def GI:Q0:=fL "_law_pull" "_law_pull" 55 459
def b463:Q0:=fB "_law_same" "_law_same" (dc 56)
def NI:Q0:=cF "_law_same" 805 260 2 0 461 181 808
def GH:Q0:=fL "_law_same" "_law_same" 56 464
def b468:Q0:=fB "_law_grid" "_law_grid" (dc 57)
def NH:Q0:=cF "_law_grid" 811 272 4 0 466 181 814
def GG:Q0:=fL "_law_grid" "_law_grid" 57 469
def b473:Q0:=tS 820 ["_law_bag_here","_law_grid_here","_law_lot","_law_first"]
def b475:Q0:=fB "_law_wide" "_law_wide" (dc 58)
def NG:Q0:=cG "_law_wide" 817 279 1 0 471 181 824
def GF:Q0:=fL "_law_wide" "_law_wide" 58 476
def b480:Q0:=tS 830 ["_law_bag_here","_law_way","_law_block","_law_columns"]
def b482:Q0:=fB "_law_large" "_law_large" (dc 59)
def NF:Q0:=cG "_law_large" 827 285 1 0 478 181 834
def GE:Q0:=fL "_law_large" "_law_large" 59 483
def b487:Q0:=fB "_law_turned" "_law_turned" (dc 60)
def NE:Q0:=cF "_law_turned" 837 296 1 0 485 181 840
def GD:Q0:=fL "_law_turned" "_law_turned" 60 488
def b492:Q0:=fB "_law_rowsums" "_law_rowsums" (dc 61)
def ND:Q0:=cF "_law_rowsums" 843 298 1 0 490 181 846
def GC:Q0:=fL "_law_rowsums" "_law_rowsums" 61 493
def b497:Q0:=fB "_law_columnsums" "_law_columnsums" (dc 62)
def NC:Q0:=cF "_law_columnsums" 849 300 1 0 495 181 852
def GB:Q0:=fL "_law_columnsums" "_law_columnsums" 62 498
def b502:Q0:=tS 858 ["_law_one","_law_other","_law_kept"]
def b504:Q0:=fB "_law_gcd" "_law_gcd" (dc 63)
def NB:Q0:=cG "_law_gcd" 855 302 2 0 500 181 861
def GA:Q0:=fL "_law_gcd" "_law_gcd" 63 505
def b509:Q0:=tS 867 ["_law_top","_law_under","_law_both"]
def b511:Q0:=fB "_law_lowest" "_law_lowest" (dc 64)
def NA:Q0:=cG "_law_lowest" 864 308 2 0 507 181 870
def FZ:Q0:=fL "_law_lowest" "_law_lowest" 64 512
def b516:Q0:=tS 876 ["_law_bag_here","_law_grid_here","_law_at"]
def b518:Q0:=fB "_law_place" "_law_place" (dc 65)
def Nz:Q0:=cG "_law_place" 873 311 2 0 514 181 879
def FY:Q0:=fL "_law_place" "_law_place" 65 519
def b523:Q0:=tS 885 ["_law_script","_law_bag_here","_law_grid_here","_law_one","_law_other","_law_rowsums_here","_law_columnsums_here","_law_things","_law_net","_law_alike","_law_down","_law_across","_law_top","_law_more","_law_total","_law_at","_law_part","_law_first"]
def b525:Q0:=fB "law" "law" (dc 66)
def Ny:Q0:=cG "law" 882 314 1 0 521 181 903
def FX:Q0:=fL "law" "law" 66 526
def h0_3:Q0:=⟨(.type "dict"),Qh,(.dict (((mL P).take 9).set 0 (E P "__name__" 165 tx2)).toArray 9),#[]⟩
def P0:Q0:=nO []
def h1_3:Q0:=⟨(.type "dict"),Qh,(.dict (((mL P).take 9).set 0 (E P "__name__" 165 tx2)).toArray 9),#[]⟩
def PR:Q0:=nT [1,0,20,5,0,27,10,0,47,14,0,67,18,0,87]
def k1_3:Q0:=⟨(.type "dict"),Qh,(.dict (((mL P).take 14).set 0 (E P "__name__" 165 j_)).toArray 14),#[]⟩
noncomputable def PQ:Q0:=⟨(.type "type"),Qh,(.cls ⟨"EdgeError",[(.type "ValueError")],[(.ref 38),(.type "ValueError"),(.type "Exception"),(.type "BaseException"),(.type "object")],37,"EdgeError",Qo,[],[(.ref 59),(.ref 79),(.ref 98)],Qr,Qh,Qr⟩),#[(on (.ref 22)),Qh,(on (.str "EdgeError" 196)),(on (.str "EdgeError" 204)),(on (.builtin "ValueError.__new__")),(on (.bool Qo))]⟩
def PP:Q0:=nT [1,0,20,5,0,27,10,0,47,14,0,67,18,0,87,23,0,106,29,0,125,33,0,145,42,0,165,44,0,170,55,0,177,58,0,184,61,0,191,65,0,196]
def k2_3:Q0:=⟨(.type "dict"),Qh,(.dict (((mL P).take 27).set 0 (E P "__name__" 165 (.str "edgetally.counts" 432))).toArray 27),#[]⟩
def PN:Q0:=nT [1,0,20,5,0,27,10,0,47,14,0,67,18,0,87,23,0,106,29,0,125,33,0,145,42,0,165,44,0,170,55,0,177,58,0,184,61,0,191,65,0,196,75,0,203,80,0,210,88,0,217,92,0,224,97,0,229,107,0,234,109,0,239,112,0,244,114,0,249,116,0,254,118,0,259,123,0,266,130,0,273,136,0,280,141,0,285,143,0,290,145,0,295,153,0,302,161,0,307]
def k3_3:Q0:=⟨(.type "dict"),Qh,(.dict (((mL P).take 47).set 0 (E P "__name__" 165 si)).toArray 47),#[]⟩
def PM:Q0:=nT [1,0,20,5,0,27,10,0,47,14,0,67,18,0,87,23,0,106,29,0,125,33,0,145,42,0,165,44,0,170,55,0,177,58,0,184,61,0,191,65,0,196,75,0,203,80,0,210,88,0,217,92,0,224,97,0,229,107,0,234,109,0,239,112,0,244,114,0,249,116,0,254,118,0,259,123,0,266,130,0,273,136,0,280,141,0,285,143,0,290,145,0,295,153,0,302,161,0,307,171,0,314,213,0,402,216,0,409,219,0,416,222,0,421,224,0,428,232,0,433,237,0,440,242,0,447,248,0,452,250,0,459,260,0,464,272,0,469,279,0,476]
noncomputable def k4_3:Q0:=⟨(.type "dict"),Qh,(.dict ((mL P).take 61).toArray 61),#[]⟩
def kL:List Q0:=[b0 P,b1 P,b2,b3 P,b4,b5,b6,b7,b8,b9,b10,b7,b12,b13,b14,b7,b8,b17,b7,b19,b20,b21,b22,L_,b24 P,b7,b26,b27,b28,b7,b8,b31,b7,b33,b34,b35,b36,b37 P,b38,b39,b40,b41,b42,L_,b44 P,b7,b46,b47,b48,b49,b7,b8,b52,b7,b54,b55,b56,b7,b58 P,b59,b60,b61,b42,L_,b64 P,b7,b66,b67,b68,b69,b7,b8,b72,b7,b74,b75,b76,b7,b78 P,b79,b80,b81,b42,L_,b84 P,b7,b86,b87,b88,b7,b8,b91,b7,b93,b94,b95,b96,b97 P,b98,b99,b100,b42,L_,b103 P,b7,b105,b106,b107,b7,b8,b110,b7,b112,b113,b114,b115,b116 P,b117,b118,b119,b42,L_,b122 P,b7,b124,b125,b126,b127,b7,b8,b130,b7,b132,b133,b134,b7,b136 P,b137,b138,b139,b42,L_,b142 P,b7,b144,b145,b146,b147,b7,b8,b150,b7,b152,b153,b154,b7,b156 P,b157,b158,b159,Ou,Ot P,b7,b8,b164,Os,HX,b7,b8,b169,Oq,HW,b7,b8,b174,b7,b176,Op,HV,b7,b8,b181,b7,b183,Oo,HU,b7,b8,b188,b7,b190,On,HS,b7,b8,b195,Om,HR,b7,b8,b200,b7,b202,Ol,HQ,b7,b8,b207,b7,b209,Oj,HP,b7,b8,b214,b7,b216,Oi,HN,b7,b8,b221,b7,b223,Oh,HM,b7,b8,b228,Og,HL,b7,b8,b233,Of,HK,b7,b8,b238,Oe,HJ,b7,b8,b243,Od,HI,b7,b8,b248,Oc,HH,b7,b8,b253,Ob,HG,b7,b8,b258,Oa,HF,b7,b8,b263,b7,b265,N9,HE,b7,b8,b270,b7,b272,N8,HD,b7,b8,b277,b7,b279,N7,HC,b7,b8,b284,N6,HB,b7,b8,b289,N5,HA,b7,b8,b294,N4,GZ,b7,b8,b299,b7,b301,N3,GY,b7,b8,b306,N2,GX,b7,L_,b311 P,b7,b313,b314,b315,N1 P,b7,b8,b319,b7,b321,N0,GW,b7,b8,b326,b7,b328,b329,b330,b7,b8,b333,b7,b335,b336,b337,b7,b8,b340,b7,b342,NZ,GV,b7,b8,b347,b7,b349,NY,GU,b7,b8,b354,b355,b356,b7,b8,b359,b7,b361,NX,GT,b7,b8,b366,b7,b368,b369,b370,b7,b8,b373,b7,b375,b376,b377,b7,b8,b380,NW,GS,b7,b8,b385,b7,b387,b388,b389,b390,NV P,NU,b393,b394,b395,b396,b7,b8,b399,b7,b401,NT,GR,b7,b8,b406,b7,b408,NS,GQ,b7,b8,b413,b7,b415,NR,GP,b7,b8,b420,NQ,GO,b7,b8,b425,b7,b427,NP,GN,b7,b8,b432,NO,GM,b7,b8,b437,b7,b439,NN,GL,b7,b8,b444,b7,b446,NM,GK,b7,b8,b451,NK,GJ,b7,b8,b456,b7,b458,NJ,GI,b7,b8,b463,NI,GH,b7,b8,b468,NH,GG,b7,b8,b473,b7,b475,NG,GF,b7,b8,b480,b7,b482,NF,GE,b7,b8,b487,NE,GD,b7,b8,b492,ND,GC,b7,b8,b497,NC,GB,b7,b8,b502,b7,b504,NB,GA,b7,b8,b509,b7,b511,NA,FZ,b7,b8,b516,b7,b518,Nz,FY,b7,b8,b523,b7,b525,Ny,FX]
def T_:RQ:=⟨⟨((kL P).take 11).set 3 (h0_3 P)⟩,{}⟩
def h1H:RQ:=⟨⟨(((kL P).take 15).set 3 (h1_3 P)).set 12 (P0)⟩,{}⟩
def k1H:RQ:=⟨⟨((((kL P).take 101).set 3 (k1_3 P)).set 12 (PR)).set 38 (PQ)⟩,{}⟩
def k2H:RQ:=⟨⟨(((kL P).take 198).set 3 (k2_3 P)).set 12 (PP)⟩,{}⟩
def k3H:RQ:=⟨⟨(((kL P).take 309).set 3 (k3_3 P)).set 12 (PN)⟩,{}⟩
def k4H:RQ:=⟨⟨(((kL P).take 478).set 3 (k4_3 P)).set 12 (PM)⟩,{}⟩
noncomputable def k5H:RQ:=⟨⟨kL P⟩,{}⟩
end
def KH:X8->QR:=λP=>
[(2,b2),(3,b3 P),(34,b34),(35,b35),(37,b37 P),(38,b38),(160,Ou),(161,Ot P),(165,Os),(166,HX),(170,Oq),(171,HW),(177,Op),(178,HV),(184,Oo),(185,HU),(191,On),(192,HS),(196,Om),(197,HR),(203,Ol),(204,HQ),(210,Oj),(211,HP),(217,Oi),(218,HN),(224,Oh),(225,HM),(229,Og),(230,HL),(234,Of),(235,HK),(239,Oe),(240,HJ),(244,Od),(245,HI),(249,Oc),(250,HH),(254,Ob),(255,HG),(259,Oa),(260,HF),(266,N9),(267,HE),(273,N8),(274,HD),(280,N7),(281,HC),(285,N6),(286,HB),(290,N5),(291,HA),(295,N4),(296,GZ),(302,N3),(303,GY),(307,N2),(308,GX),(316,N1 P),(322,N0),(323,GW),(343,NZ),(344,GV),(350,NY),(351,GU),(362,NX),(363,GT),(381,NW),(382,GS),(391,NV P),(392,NU),(402,NT),(403,GR),(409,NS),(410,GQ),(416,NR),(417,GP),(421,NQ),(422,GO),(428,NP),(429,GN),(433,NO),(434,GM),(440,NN),(441,GL),(447,NM),(448,GK),(452,NK),(453,GJ),(459,NJ),(460,GI),(464,NI),(465,GH),(469,NH),(470,GG),(476,NG),(477,GF),(483,NF),(484,GE),(488,NE),(489,GD),(493,ND),(494,GC),(498,NC),(499,GB),(505,NB),(506,GA),(512,NA),(513,FZ),(519,Nz),(520,FY),(526,Ny),(527,FX)]
noncomputable def aH:List Qs:=[2,3,34,35,37,38,160,161,165,166,170,171,177,178,184,185,191,192,196,197,203,204,210,211,217,218,224,225,229,230,234,235,239,240,244,245,249,250,254,255,259,260,266,267,273,274,280,281,285,286,290,291,295,296,302,303,307,308,316,322,323,343,344,350,351,362,363,381,382,391,392,402,403,409,410,416,417,421,422,428,429,433,434,440,441,447,448,452,453,459,460,464,465,469,470,476,477,483,484,488,489,493,494,498,499,505,506,512,513,519,520,526,527]
theorem eH:∀P,aH=(KH P).map (·.1):=λ_=>by kernel_rfl
noncomputable def qH:Rc:={PySem.Challenge.pw_edgetally_k51_whole_pair_means_by_two_le with main:={PySem.Challenge.pw_edgetally_k51_whole_pair_means_by_two_le.main with body:=[dc 0,dc 2,dc 3,dc 4,dc 5,dc 6,dc 7,dc 8,dc 10,dc 11,dc 12,dc 13,dc 15,dc 16,dc 17,dc 18,dc 19,dc 21,dc 22,dc 23,dc 24,dc 25,dc 27,dc 28,dc 29,dc 30,dc 31,dc 32,dc 33,dc 35,dc 36,dc 37,dc 38,dc 39,dc 40,dc 41,dc 42,dc 43,dc 45,dc 46,dc 47,dc 48,dc 49,dc 50,dc 51,dc 52,dc 54,dc 55,dc 56,dc 57,dc 58,dc 59,dc 60,dc 61,dc 62,dc 63,dc 64,dc 65,dc 66]}}
noncomputable abbrev lvH:List (Rl×PySem.W.WData):=[("FREE",PySem.W.WData.tuple [X4 0,X4 40])]
noncomputable abbrev loH:List Rl:=["BadSums","BadBounds","BadCell","BadNumber","FREE","free","Net"]
abbrev hkH:=PySem.W.kHook KH aH eH
def xtH(s:QA):Bool:=PySem.W.xlAt qH lvH s&&PySem.W.recOk (PySem.W.RowW.records (SW (Ta Q8))) s
noncomputable abbrev pH:Rc:=X9 (SW (Ta Q8))
noncomputable def Iv:List RT:=PySem.W.behindTheImports pH
noncomputable def L1:XH:={scope:=pH.main.scope,locals:=mainNs,globals:=mainNs,cells:=[],code:=(.ref 13),frame:=(on 14)}
def cH:Code:= .body Iv L1
noncomputable abbrev I_:List Frame:=[PySem.W.topFrame ⟨0,0,0,0⟩]
theorem opH(w:Ro):(PySem.W.fencedOpening SB pH w 7638).map (λs=>(s.heap,s.gens,s.drawn,s.toks))=on (T_ w.params,#[],{},181):=by kernel_rfl
theorem szH(w:Ro):((T_ w.params).isNs SS&&(#[]:Array GenState).size==0,(T_ w.params).objs.size,(T_ w.params).nsMap SS "__annotations__")=(Qo,11,(on (.ref 6))):=by kernel_rfl
theorem r1H(w:Ro)(os:Wa):PySem.W.topGo SB pH w 11 (on (.ref 6)) 12 ⟨T_ w.params,#[],{},181,os⟩ (ZL pH)=on (⟨h1H w.params,#[],{},187,os⟩,⟨denote SB (.body Iv L1),cH,⟨0,0,0,0⟩,I_⟩):=by kernel_rfl
theorem r2H(w:Ro)(os:Wa):UC SB pH w 11 (on (.ref 6)) 1 1 ⟨h1H w.params,#[],{},187,os⟩ (PySem.W.blockOf Iv L1 cH ⟨0,0,0,0⟩ I_)=on (.next,⟨h1H w.params,#[],{},187,os⟩,cH,⟨0,0,0,0⟩):=by kernel_rfl
theorem c1H(w:Ro)(os:Wa):UC SB pH w 11 (on (.ref 6)) 1 995 ⟨h1H w.params,#[],{},187,os⟩ (UK (Iv.take 6) L1 cH ⟨0,0,0,0⟩ I_)=on (.next,⟨k1H w.params,#[],{},299,os⟩,cH,⟨18,0,22,24⟩):=by kernel_rfl
theorem c2H(w:Ro)(os:Wa):UC SB pH w 11 (on (.ref 6)) 1 976 ⟨k1H w.params,#[],{},299,os⟩ (UK ((Iv.drop 6).take 15) L1 cH ⟨18,0,22,24⟩ I_)=on (.next,⟨k2H w.params,#[],{},434,os⟩,cH,⟨74,0,74,8⟩):=by kernel_rfl
theorem c3H(w:Ro)(os:Wa):UC SB pH w 11 (on (.ref 6)) 1 569 ⟨k2H w.params,#[],{},434,os⟩ (UK (((Iv.drop 6).drop 15).take 22) L1 cH ⟨74,0,74,8⟩ I_)=on (.next,⟨k3H w.params,#[],{},585,os⟩,cH,⟨161,0,170,112⟩):=by kernel_rfl
theorem c4H(w:Ro)(os:Wa):UC SB pH w 11 (on (.ref 6)) 1 971 ⟨k3H w.params,#[],{},585,os⟩ (UK ((((Iv.drop 6).drop 15).drop 22).take 16) L1 cH ⟨161,0,170,112⟩ I_)=on (.next,⟨k4H w.params,#[],{},827,os⟩,cH,⟨279,0,284,25⟩):=by kernel_rfl
theorem c5H(w:Ro)(os:Wa):UC SB pH w 11 (on (.ref 6)) 1 250 ⟨k4H w.params,#[],{},827,os⟩ (UK (((((Iv.drop 6).drop 15).drop 22).drop 16).take 8) L1 cH ⟨279,0,284,25⟩ I_)=on (.next,⟨k5H w.params,#[],{},906,os⟩,cH,⟨314,0,342,113⟩):=by kernel_rfl
theorem e0H:(((((Iv.drop 6).drop 15).drop 22).drop 16).drop 8)=[]:=by kernel_rfl
theorem r9H(w:Ro)(os:Wa):Z8 SB pH w 11 (on (.ref 6)) 2 ⟨k5H w.params,#[],{},906,os⟩ ⟨PySem.W.doneF .next,cH,⟨314,0,342,113⟩,I_⟩=on ⟨k5H w.params,#[],{},906,os⟩:=by kernel_rfl
theorem rnH(w:Ro)(os:Wa):Z8 SB pH w 11 (on (.ref 6)) (12+(1+(995+(976+(569+(971+(250+2))))))) ⟨T_ w.params,#[],{},181,os⟩ (ZL pH)=on ⟨k5H w.params,#[],{},906,os⟩:=PySem.W.go_top (r1H w os) (PySem.W.piece_block (r2H w os) (i5 6 (c1H w os) (i5 15 (c2H w os) (i5 22 (c3H w os) (i5 16 (c4H w os) (i5 8 (c5H w os) (FF e0H (r9H w os))))))))
theorem hlH:PySem.W.LeftO pH qH loH xtH (PySem.W.Hook.obs hkH) (PySem.W.Hook.val hkH) 7638:=PySem.W.LeftO.of_pieces (H₀:=T_) (H₁:=k5H) opH szH rnH (by decide +kernel) λw=>by kernel_rfl
theorem wsH:PySem.W.OpenLaw.wellSaid Q8=Qo:=by decide +kernel
theorem okH:(PySem.W.chainsOk qH&&PySem.W.opensWell (X9 (SW (Ta Q8)))&&(PySem.W.frees (SW (Ta Q8))&&(PySem.W.RowW.within (SW (Ta Q8))).isEmpty))=Qo:=by decide +kernel
abbrev adH:Ad:={Aa:=38,Ab:=35,Ae:=fD b35,Af:=392,Ag:=166,Ah:=fD HX,Ai:=171,Aj:=fD HW,Ak:=178,Al:=fD HV,Am:=185,An:=fD HU,Ao:=192,Aq:=fD HS,Ar:=197,As:=fD HR,At:=204,Au:=fD HQ,Av:=211,Aw:=fD HP,Ax:=218,Ay:=fD HN,Az:=225,A0:=fD HM,A1:=230,A2:=fD HL,A3:=235,A4:=fD HK,A5:=240,A6:=fD HJ,A7:=245,A8:=fD HI,A9:=250,Ba:=fD HH,Bb:=255,Bc:=fD HG,Bd:=260,Be:=fD HF,Bf:=267,Bh:=fD HE,Bi:=274,Bj:=fD HD,Bk:=281,Bl:=fD HC,Bm:=286,Bn:=fD HB,Bo:=291,Bp:=fD HA,Bq:=296,Br:=fD GZ,Bs:=303,Bt:=fD GY,Bu:=308,Bv:=fD GX,Bw:=403,Bx:=fD GR,By:=410,Bz:=fD GQ,B0:=417,B5:=fD GP,B7:=422,B8:=fD GO,Ca:=429,Cb:=fD GN,Cc:=434,Cd:=fD GM,Cf:=441,Cg:=fD GL,Ch:=448,Ci:=fD GK,Cj:=453,Ck:=fD GJ,Cl:=460,Cm:=fD GI,Cn:=465,Co:=fD GH,Cp:=470,Cq:=fD GG,Cr:=477,Cs:=fD GF,Ct:=484,Cu:=fD GE,Cv:=489,Cw:=fD GD,Cy:=494,Cz:=fD GC,C0:=499,C2:=fD GB,C3:=506,C4:=fD GA,C5:=513,C6:=fD FZ,C7:=520,C8:=fD FY,C9:=323,Da:=fD GW,Db:=344,Dc:=fD GV,Dd:=351,Df:=fD GU,Dg:=382,Dh:=fD GS,Di:=363,Dj:=fD GT,Dl:=527,Dm:=fD FX}
section
variable{P:X8}{h:RQ}{mg:Rl->Option Qv}
theorem fH{x q:Rl}{s:RT}{f:Qs}{a b d e cd ct:Qv}{g:Option Qs}(l:(KH P).lookup f=on (fO (FN x q s a b d e g cd ct)):=by kernel_rfl)(c:U8 (KH P) cd q=Qo:=by kernel_rfl)(k:VZ (KH P) (.ref f)=Qo:=by kernel_rfl):d5 (KH P) x q s f (FN x q s a b d e g cd ct):=Lr l c k
theorem mO(X:(KH P).In h)(G:h.Ns SS mg){n:Rl}{v:Qv}(e:PySem.W.nsIn (KH P) SS n=on (on v):=by kernel_rfl):mg n=on v:=mg_of X G e
theorem mN(X:(KH P).In h)(G:h.Ns SS mg){n:Rl}(e:PySem.W.nsIn (KH P) SS n=on Qh:=by kernel_rfl):mg n=Qh:=PySem.W.mg_none_of X G e
theorem nH(X:(KH P).In h)(G:h.Ns SS mg):u_ (KH P) mg adH where
 Do:=mN X G
 Dp:=mN X G
 Dq:=mN X G
 Dr:=mN X G
 Dt:=mN X G
 Du:=mN X G
 Dv:=mN X G
 Dw:=mN X G
 Dx:=mN X G
 Dy:=mN X G
 Dz:=mN X G
 D0:=mN X G
 D3:=mN X G
 D4:=mN X G
 D5:=mN X G
 D6:=mN X G
 D7:=mN X G
 D8:=mN X G
 D9:=pR (u:=(.int 40 378)) (mO X G) mv
 Ea:=pR (u:=(.int 6 382)) (mO X G) mv
 Eb:=pR (u:=(.int 4 380)) (mO X G) mv
 Ec:=pR (u:=(.int 500 526)) (mO X G) mv
 Ed:=fH
 Ee:=mO X G
 Ef:=BQ (us:=[(.ref 160)]) 2 rfl (λs us b a=>by obtain⟨c,d,rfl⟩:=lU2 a;exact Zt b λS=>by kernel_rfl) (wH (Kk (p:=160) (q1:=(.type "tuple")) (q2:=Qh) (q3:=#[(.int 0 384),(.int 40 378)]) (q4:=0) (q5:=#[]) (by kernel_rfl) rfl (by decide) (by repeat (first|exact trivial|refine⟨rfl,?_⟩))) BN)
 Eg:=fH
 Eh:=mO X G
 Ei:= .all (vr λ_ _=>rfl)
 Ej:=fH
 Ek:=mO X G
 El:= .all (vr λ_ _=>rfl)
 Em:=fH
 En:=mO X G
 Eo:= .all (bA4 λ_ _ _ _=>rfl)
 Ep:=fH
 Er:=mO X G
 Es:= .all (vu λ_=>rfl)
 Et:=fH
 Eu:=mO X G
 Ev:= .all (r8 λ_ _ _=>rfl)
 Ew:=fH
 Ex:=mO X G
 Ey:= .all (vu λ_=>rfl)
 Ez:=fH
 E2:=mO X G
 E3:= .all (vu λ_=>rfl)
 E4:=fH
 E5:=mO X G
 E6:= .all (vr λ_ _=>rfl)
 E7:=fH
 E8:=mO X G
 E9:= .all (vr λ_ _=>rfl)
 Fa:=fH
 Fb:=mO X G
 Fc:= .all (r8 λ_ _ _=>rfl)
 Fd:=fH
 Fe:=mO X G
 Ff:= .all (vr λ_ _=>rfl)
 Fg:=fH
 Fh:=mO X G
 Fj:= .all (bA4 λ_ _ _ _=>rfl)
 Fk:=fH
 Fl:=mO X G
 Fm:= .all (r8 λ_ _ _=>rfl)
 Fn:=fH
 Fo:=mO X G
 Fp:= .all (bA4 λ_ _ _ _=>rfl)
 Fq:=fH
 Fs:=mO X G
 Ft:= .all (r8 λ_ _ _=>rfl)
 Fu:=fH
 Fv:=mO X G
 Fw:= .all (vu λ_=>rfl)
 Fy:=fH
 Fz:=mO X G
 F4:= .all (r8 λ_ _ _=>rfl)
 F5:=fH
 F6:=mO X G
 F7:= .all (vu λ_=>rfl)
 F8:=fH
 F9:=mO X G
 Ga:= .all (r8 λ_ _ _=>rfl)
 Gb:=fH
 Gc:=mO X G
 Gd:= .all (bA4 λ_ _ _ _=>rfl)
 Ge:=fH
 Gf:=mO X G
 Gg:= .all (vr λ_ _=>rfl)
 Gh:=fH
 Gi:=mO X G
 Gj:= .all (r8 λ_ _ _=>rfl)
 Gk:=fH
 Gm:=mO X G
 Gn:= .all (r8 λ_ _ _=>rfl)
 Go:=fH
 Gp:=mO X G
 Gq:= .all (r8 λ_ _ _=>rfl)
 Gr:=fH
 Gs:=mO X G
 Gu:= .all (vr λ_ _=>rfl)
 Gx:=fH
 Gy:=mO X G
 Gz:= .all (r8 λ_ _ _=>rfl)
 G0:=fH
 G1:=mO X G
 G2:= .all (bA4 λ_ _ _ _=>rfl)
 G3:=fH
 G4:=mO X G
 G5:= .all (vr λ_ _=>rfl)
 G6:=fH
 G7:=mO X G
 G8:= .all λus a=>by obtain⟨_,_,_,_,_,rfl⟩:=lU5 a;rfl
 G9:=fH
 Ha:=mO X G
 Hb:= .all (r8 λ_ _ _=>rfl)
 Hc:=fH
 Hd:=mO X G
 He:= .all (r8 λ_ _ _=>rfl)
 Hf:=fH
 Hg:=mO X G
 Hh:= .all (r8 λ_ _ _=>rfl)
 Hi:=fH
 Hj:=mO X G
 Hk:= .all (vu λ_=>rfl)
 Hl:=fH
 Hm:=mO X G
 Hn:= .all (vr λ_ _=>rfl)
 Ho:=fH
 Hq:=mO X G
 Hr:= .all (vr λ_ _=>rfl)
 Ht:=fH
 Hu:=mO X G
 Hv:= .all (bA4 λ_ _ _ _=>rfl)
 Hw:=fH
 Hx:=mO X G
 Hy:= .all (vu λ_=>rfl)
 Hz:=fH
 Ia:=mO X G
 Ib:= .all (vu λ_=>rfl)
 Id:=fH
 Ie:=mO X G
 Ig:= .all (vu λ_=>rfl)
 Ih:=fH
 Ii:=mO X G
 Ij:= .all (vu λ_=>rfl)
 Ik:=fH
 Il:=mO X G
 Im:= .all (vu λ_=>rfl)
 Io:=fH
 Ip:=mO X G
 Iq:= .all (vr λ_ _=>rfl)
 Ir:=fH
 Iu:=mO X G
 Iw:= .all (vr λ_ _=>rfl)
 Ix:=fH
 Iy:=mO X G
 Iz:= .all (vr λ_ _=>rfl)
 I9:=fH
 Ja:=⟨by kernel_rfl,by kernel_rfl,by kernel_rfl,by kernel_rfl⟩
 Jb:=BQ (us:=[.none]) 3 rfl (λs us b a=>by obtain⟨c,d,e,rfl⟩:=lU3 a;exact Zt b λS=>by kernel_rfl) (wH Kl BN)
 Jc:=fH
 Jd:=⟨by kernel_rfl,by kernel_rfl,by kernel_rfl⟩
 Je:= .all (vu λ_=>rfl)
 Jf:=fH
 Jg:=⟨by kernel_rfl,by kernel_rfl,by kernel_rfl⟩
 Jh:= .all (vu λ_=>rfl)
 Ji:=fH
 Jj:=⟨by kernel_rfl,by kernel_rfl,by kernel_rfl⟩
 Jk:= .all (r8 λ_ _ _=>rfl)
 Jl:=fH
 Jm:=⟨by kernel_rfl,by kernel_rfl,by kernel_rfl⟩
 Jn:= .all (r8 λ_ _ _=>rfl)
 Jo:=⟨by kernel_rfl,by kernel_rfl,by kernel_rfl,by kernel_rfl⟩
 Jp:=mO X G
 Jq:=show UL (KH P) _ _=_ by kernel_rfl
 Jr:=show UL (KH P) _ _=_ by kernel_rfl
 Js:=show UL (KH P) _ _=_ by kernel_rfl
 Jt:=show UL (KH P) _ _=_ by kernel_rfl
 Ju:=fH
 Jv:= .all (r8 λ_ _ _=>rfl)
 Jw:=mO X G
 Jx:=⟨by kernel_rfl,by kernel_rfl,by kernel_rfl,by kernel_rfl⟩
theorem wlkH:PySem.W.WalkO qH loH (PySem.W.XL qH lvH) (PySem.W.Hook.says hkH) (SW (Ta Q8)) (Option.get (PySem.W.defOf qH "law") rfl).1 [] (λf vs=>Zu f vs):=
 L2.walk_of (n:=63) (k:=8) (x:="_law_script") (CX:=λw=>g_ _ w) (sp:=λw=>IX (KH w.params)) rfl (by decide) rfl ⟨rfl,by decide,by decide,rfl⟩ (λw h Y=>PySem.W.kIn_of Y) (λw mg i h c G b=>by
  have e:=b.symm.trans (mg_of c G (v:= .ref 527) (by kernel_rfl));cases e;exact⟨FN "law" "law" (dc 66) .none .none .none (.str "law_edgetally_k51_whole_pair_means_by_two_le" 786) Qh (.ref 526) .none,λs v=> .of_eq rfl,λbase _ _=>MW _ _ _ (a:=adH) (fH (by kernel_rfl) (by kernel_rfl) (by kernel_rfl)) (nH c G) λβ ok=>ER (K:=KH w.params) (a:=adH)  β ok⟩) (λ_ _ a ns d _ g=>⟨a,ns,rfl,g,d,λ_=>rfl⟩) λ_ _ _ _ _ h=>by obtain⟨x,C,j,_,fl⟩:=h;obtain⟨_,_,z⟩:=fl.wish;all_goals exact z
end
end Law
open PySem PySem.W PyProof.Rows
set_option maxHeartbeats 0 in
theorem PySem.Challenge.cw_edgetally_k51_whole_pair_means_by_two_le_holds : PySem.Challenge.rw_edgetally_k51_whole_pair_means_by_two_le.Holds := by
 w_on
 refine holds_law Law.wsH λsaid=>?_;refine holds_open (q:=Law.qH) (loose:=Law.loH) (Xt:=Law.xtH) (XP:=XL Law.qH Law.lvH) (Yf:=Hook.obs Law.hkH) (Ya:=Hook.val Law.hkH) (YP:=Hook.says Law.hkH) (N:=7638) Law.hlH (Hook.of Law.hkH) (Hook.keeps Law.hkH) (λs e=>xl_of s (Y2.mp e).1) XL.keeps (by rfl) (by rfl) (by rfl) (λs e=>recFacts_of (Y2.mp e).2) (by rfl) said Law.okH ⟨rfl,rfl,rfl,rfl,rfl,by decide +kernel⟩ ?hw ?hc
 case hw=>w_witness2
 exact Law.wlkH
