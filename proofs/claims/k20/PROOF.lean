import PyProof.Rows.All
import Wide.All
import OpenK.AllK
import Wide.FinOn
import Lean
import PyProof.EqAt
import PyProof.EqKinds
import PyProof.TupleCall
import PyProof.NsDelKeeps
import PyProof.ListRange
import PyProof.ExcArgsOwn
import PySem.Challenge.RW_edgetally_k20_net_holds_its_paper
set_option Elab.async false
set_option linter.all false
set_option genSizeOf false
set_option compiler.extract_closed false
set_option bootstrap.genMatcherCode false
set_option maxHeartbeats 8000000
set_option maxRecDepth 100000
noncomputable section
open And renaming intro->Wv
open Array renaming length_toList->NG,getElem?_toList->Ox,getElem?_eq_some_iff->OA,toList_append->Qn,getElem?_eq_none->Qs,getElem_toList->QC,getElem?_eq_getElem->Rv,forIn_toList->RT,toList_push->R8,toList_setIfInBounds->Tt,getD->Uj,getElem?_extract->Wo,toList_extract->WG,toList_reverse->WH,getElem?_push->W6,append_assoc->Xh,size_extract->Xi,toList_inj->X5,toList_map->X6,toList_zip->X7
open Bool renaming true->Nf,false->Ni,false_ne_true->Nz,false_eq_true->NO,and_eq_true->N5,not_true->Qv,true_and->RO,eq_false_iff->Sc,false_and->Tx,and_self->T9,eq_iff_iff->Ut,not_false->UA,or_eq_true->Vu,and_eq_true_iff->W7
open Classical renaming byContradiction->Qx
open Except renaming ok->Pa
open False renaming elim->PX
open ForIn renaming forIn->WW
open ForInStep renaming yield->Sy
open Function renaming comp->Uz
open Int renaming toNat_natCast->ON,natCast_add->QH,zero_add->Sj,emod_nonneg->S7,emod_lt_of_pos->TK,fdiv_eq_ediv_of_nonneg->TL,natAbs_natCast->UU,le_refl->Xm
open List renaming length_map->M9,getElem?_eq_getElem->Ng,mem_cons_of_mem->Nk,getElem?_map->Nl,mem_map->Nm,getElem?_eq_some_iff->Nn,mem_cons_self->Np,range->Nr,length_append->Nw,map_map->Nx,append_assoc->Ny,getD_eq_getElem?_getD->NA,length_cons->NB,mem_cons->NC,map_cons->NI,mem_of_getElem?->NJ,size_toArray->NM,length_range->NQ,mem_range->NS,mem_singleton->NT,map_append->NV,replicate->NX,sum_cons->N2,mem_append->N4,take_append_drop->N7,length_take->N8,append_nil->Ob,map_congr_left->Od,pairwise_append->Oe,length_set->Om,getElem?_range->Oq,drop_eq_getElem_cons->Os,length_singleton->Oy,mem_append_right->Oz,nodup_cons->OE,getElem_mem->OG,take_of_length_le->OJ,take_length->OS,getElem?_append_right->OU,pairwise_singleton->OW,not_mem_nil->O1,flatMap_cons->O3,mem_flatMap->O7,mem_of_mem_take->O8,getElem?_set->Pf,pairwise_map->Pg,map->Pk,length_drop->Pm,map_flatMap->Pn,filterMap_cons->Pw,replicate_succ->Px,flatten_cons->Py,sum->PF,zip_cons_cons->PP,drop_length->PR,length_eq_zero_iff->PU,getElem?_append_left->P7,mem_or_eq_of_mem_set->P8,length_replicate->P9,perm_append_comm->Qa,mem_replicate->Qf,nil_append->Ql,range_succ->Qm,pairwise_cons->Qy,length_nil->QD,mem_append_left->QI,mem_of_mem_drop->QJ,nodup_append->QK,flatMap_append->QT,all_eq_true->QU,getElem?_replicate->QV,drop_eq_nil_of_le->Q2,getElem?_drop->Q3,map_nil->Q4,map_replicate->Q5,find?_cons->Rb,forIn_cons->Rc,map_drop->Rf,forIn_nil->Rn,getElem?_append->Ro,cons_append->Rw,exists_cons_of_length_eq_add_one->Rx,ext_getElem->Ry,getElem_map->Rz,map_set->RA,pairwise_iff_getElem->RE,length_pos_iff->RJ,length_zip->RV,getElem?_take->RX,flatMap_eq_nil_iff->R0,getElem?_cons_succ->R1,mem_singleton_self->R3,ext_getElem?->Se,take_zero->Sf,getElem?_eq_none->Sz,Perm->SD,any_cons->SI,map_take->SJ,drop_append_of_le_length->SV,length->SW,lookup->SX,length_reverse->S8,reverse_append->S9,zipWith->Tl,getElem_range->TC,mem_filterMap->TD,getElem?_eq_none_iff->TX,reverse_cons->T3,take_add_one->T4,zip_nil_left->T5,all_cons->Ub,flatMap_map->Ug,lookup_cons->Uh,range_succ_eq_map->Ul,mem_filter->Uu,getElem?_toArray->Ux,drop_drop->UD,take_take->UE,getElem_of_mem->UN,map_inj_right->UT,filter_cons->Ve,flatMap_nil->Vf,zipIdx_cons->Vg,map_id->Vn,take_append_of_le_length->Vo,filter_map->Vy,foldl_cons->Vz,of_mem_zip->VA,sum_append->VB,take_left'->VC,foldl->VX,mem_of_find?_eq_some->V2,mem_take_iff_getElem->V3,rel_of_pairwise_cons->V4,getElem?_take_of_lt->Wh,drop_of_length_le->WA,filter_eq_nil_iff->WB,flatMap->WC,getElem?_set_self->WD,set_append_right->WI,getElem?_set_ne->Xb,getElem_reverse->Xc,filter_flatMap->Xn,filter_sublist->Xo,flatten_append->Xp,length_zipWith->Xq,filterMap_map->XM,zip_nil_right->XN,any_eq_false->Yc,filter_congr->Yd
open List.Pairwise renaming nil->SU
open List.Perm renaming append_left->VW,of_eq->Xa
open List.Sublist renaming refl->V1
open List.cons renaming injEq->QX,inj->Rr
open Max renaming max->Wb
open Min renaming min->QN
open Nat renaming le_refl->No,le_trans->NK,lt_of_lt_of_le->NP,lt_of_le_of_lt->Oj,ne_of_lt->Ov,lt_irrefl->OB,zero_le->OH,lt_of_le_of_ne->OI,le_of_lt->OK,lt_of_succ_lt->Ph,zero_add->Pi,le_add_right->Pp,add_sub_cancel_left->PV,pos_of_ne_zero->Qh,ne_of_gt->Qj,min_eq_left->Qo,mul_comm->Qw,not_lt_zero->QL,lt_succ_of_lt->QO,succ_le_succ->QY,le_of_not_lt->RF,sub_self->RG,min_le_left->RY,le_min->R5,sub_add_cancel->R6,le_of_lt_succ->Sk,lt_trichotomy->Sm,mul_left_comm->So,lt_succ_self->SK,min_le_right->SL,mul_assoc->SY,le_succ->SZ,mul_le_mul_right->S3,pow_le_pow_right->S4,add_le_add_left->Tp,add_le_add_right->UG,lt_or_ge->U7,lt_succ_of_le->U8,lt_trans->U9,sub_zero->Va,max_eq_right->Vp,div_le_self->VI,add_le_add->V5,lt_min->V6,mod_lt->V7,sub_le->V8,le_mul_of_pos_right->WE,add_comm->WJ,div_div_eq_div_mul->WK,le_of_eq->WL,zero_mul->WM,add_lt_of_lt_sub'->Xd,add_mul->Xr
open Option renaming some->My,none->Na,map_some->P0,bind_some->Qb,map_eq_some_iff->Q1,isSome_iff_exists->VY,getD_none->XQ
open Option.some renaming inj->N6,injEq->Wj
open Or renaming inl->P5,inr->Re
open Prod renaming ext->Qr,ext_iff->Sg
open Pure renaming pure->P3
open PyProof renaming noPylong_of_log2->VJ
open PyProof.Rows renaming wpS_bind->NY,wpS_pure->NZ,Keyed->Op,callWith_type1->OZ,pendingOf->O5,slot_tuple_getitem->Pc,SortSt->Pe,arrOf->Qp,seqObj->Qq,listUpdate_at->R9,envOfC->Ss,wpS_modify->Sw,IntsAre->SH,wpS->Tk,failedOf->Tw,AllBare->TZ,wpS_get->Us,setArr->Uw,subscriptTail_builtinR->UK,gallopOf->UY,wpS_lift->U3,SortKind->VL,boot_range->WR,subscriptTail->XD,IsTup->XJ,tuples'->Yn
open PyProof.Rows.IsTup renaming new->Yb
open PyProof.Rows.SortSt renaming mk'->Ui
open PySem renaming wpAny_callSpecial?_slot->a1e,wpAny_bind->M8,wpAny_pure->Nb,Addr->Nh,Value->Nj,Shared->Nq,wpAny->ND,starEach->NL,sizeLine->NN,model->N0,FuncData->N1,Obj->N3,Program->N9,wpAny_call_entry->Of,wpAny_newObj_type->Oh,Str->Oi,World->Ol,Around->Ot,foldedSetIterable->OD,wpAny_mono->OL,SetTable->OM,Heap->OO,compareOp->OP,eval->OQ,wpAny_holding->OT,wpAny_field->OY,Stmt->O0,mem_of_lookup->O6,wpAny_truthy_bool->O9,wpAny_setField_rec->Pb,keywordEach->Pr,sizeLine_eq->Ps,Comprehension->Pt,cellsFrom->Pz,wpAny_rule->PH,wpAny_setState_of->PL,wpAny_seqItems->PQ,wpAny_isInstance->PY,treeTable->P6,mainGlobals->Qg,wpAny_standAt->Qk,DictEntry->Qu,backToKw->QE,binaryOp->QG,backTo->QR,wpAny_specialOf->QS,wpAny_attempt->QZ,wpAny_comprehension_free->Q0,IsPair->Q6,firstArgMember->Q7,wpAny_setField->Q8,wpAny_typeNameOfWhole_itemiter->Q9,wpAny_of_eq->Rh,wpAny_typeNameOfWhole_keyiter->Ri,bootBuiltins->Rk,rawInt->Rl,pyNext->Ru,wpAny_dictEntries->RB,NameKind->RK,sliceBounds->RN,wpAny_typeNameOf_itemiter->RZ,wpAny_typeNameOf_keyiter->Sa,codeAny->Sh,wpAny_dictEpoch->Si,wpAny_Call_Name_kw->Sv,Pos->SA,codeAny_mono->SM,isSubtype_type->SN,standAt->SO,wpAny_fieldsOf->SQ,wpAny_pyIter_slot->SR,wpAny_typeOf->SS,swapsWith->Tg,sysModules->Th,wpAny_askSetting->Ti,wpAny_forIn_list->Tj,attributeBase->Tq,behindInMarks->Ts,cLine->Tv,Paired->TM,assign->TR,codeAny_builtin->TU,letOwnedTupleGo->TV,wpAny_passesOwn->TW,holding->T8,IsItemIter->Ud,IsZip->Uk,intKind->Um,wpAny_pyIter_list->Ur,Fin->UF,OsState->UH,assignEach->UI,pyIter->UJ,wpAny_isOneOf_itemiter->UL,wpAny_pyIter_rangeiter->UM,builtinLookup_eq_fast->UQ,isSubtype_tuple_tuple->UR,IsPart->UV,IsRangeIter->UW,Within->UX,isSubtype_stop->UZ,setField->U1,wpAny_updateSeq_pair->U2,BindsTo->U4,call->Vb,wpAny_setEntries_of->Vc,Model->Vh,again->Vj,plainId_quiet->Vk,wpAny_handled->Vl,wpAny_onRaise->Vm,call_meets->Vq,isInstance->Vr,wpAny_pyIter_tuple->Vs,wpAny_tupleItemsOf->Vt,Env->Vv,callerA->VM,getItem->VN,ofAClassStatement->VO,searchCouldBeSeen->VQ,wpAny_assign_Name->VR,Params->V9,newExc->Wc,noFill_tuple_add->Wd,pickOrder->We,Draws->Wf,wpAny_letGo->Wm,wpAny_throw->Wn,typeLookup_type->Wt,wpAny_execs_nil->Wu,Keyword->Wz,PyData->WN,Sem->WP,builtinsNs->WS,compPost->WU,entryFor_alias->WV,intItems->WX,newFunctionEnv->WZ,raiseNew->W1,wpAny_call->W3,wpAny_newTuple->W4,wpAny_runValue->W5,call->Xz,evalPart_none->XA,seq_tuple_add->XB,wpAny_getItem_list_slice->XE,wpAny_newList->XF,list_append->XU,atKey->XW,bindC->XX,bindL->XZ,eqIsQuiet->X0,field->X1,getMethod->X2,lastMarks->X3,slicePick->X4,seqIndex_neg->Ym,wpAny_pyNext_range_end->Yo
open PySem.Around renaming under_plainId->SC,under->US
open PySem.Builtin.Dict renaming showsAll->RU
open PySem.Builtin.Dict_items renaming ownsTuple->P4,ownedTupleFields->TF,ownedTupleIsFree->TH,pairFromOwner->Ua
open PySem.Builtin.Int renaming intBits->VS
open PySem.Builtin.List renaming listExtendWith->QW,listSameRef->Rm,listTooLong->S5,listLengthHint->UO,listTouch->Vd
open PySem.Builtin.Range renaming rangeFitsLong->OX,rangeSize->S6
open PySem.Builtin.Slice renaming slicePlaces->Ra,sliceAdjust->SF,sliceApplied->UP
open PySem.Builtin.SmallTypes renaming nextOf->PM,ownedTupleIsFree->Qc,ownedTupleHandOut->Tz,refuseKeywords->T0
open PySem.Builtin.Tuple renaming tupleExact->Rj,tupleItemsOf->Sx,tupleHashOf->SG
open PySem.Calls renaming Name_function_global->VF,call_function_entry->VT,callWith_builtin->Wp,spliced_cons->Xj,spliced_nil->XG
open PySem.Challenge renaming rw_edgetally_k20_net_holds_its_paper->Oc
open PySem.Code renaming isFrame->Ww
open PySem.Draws renaming list->Xk
open PySem.F renaming slot_dict_itemiterator_next->PD,plainAttrs_list->PN,slot_list_append->Qd,type_list_append->Qe,slot_dict_keyiterator_next->Qt,slot_tuple_iterator_next->RC,args_tuple_add_2->TN,entry_tuple_add->T6,slot_tuple_add->Ue,plain_list_iadd->Uf,slot_zip_next->UB,args_dict_itemiterator_next_1->Vw,args_dict_keyiterator_next_1->VG,entry_dict_itemiterator_next->VH,entry_dict_keyiterator_next->VU,slot_dict_itemiterator_iter->VV,args_tuple_iterator_next_1->V0,entry_tuple_iterator_next->Wg,slot_dict_items_iter->Xl,entry_proto_collect->XH,plain_proto_collect->XI,args_list_append_2->X8
open PySem.Heap renaming get?_push_of_some->Nd,get?_push_size->NE,lt_size->NU,SameBut->Oa,size_push->Pj,get?_update_ne->PZ,get?_update_self->QA,ExtBut->UC,get?_update_other->Wx,get?_none_of_le->W8,get?_push_ne->X9
open PySem.Heap.IsSliceOf renaming new->Vx
open PySem.Heap.SameBut renaming update->O4
open PySem.IntMulOk renaming of_bits->W9
open PySem.IsRange renaming new->Wq
open PySem.IsTupleKey renaming typeIs->Wr
open PySem.Manifest renaming find?->XO
open PySem.NameKind renaming free->QB,cell->VD
open PySem.Obj renaming mapSeq->OV,data_mapFields->Pl,isFreed_of_fields->SE,cls_mapFields->Uc,putSet->Uv,mapFields->Ws
open PySem.P renaming add_list->Xu
open PySem.PyData renaming depth->Rp,eqv->RQ,eqvAll->SB,depthAll->Vi,canLayAll0->Xs
open PySem.SeqAt renaming EqAt->Pd,shaped->Td
open PySem.SeqAt.EqAt renaming int_int->Wk
open PySem.SetTable renaming fits->VE,fresh->XV
open PySem.Str renaming ofString->Pq,empty->RH
open PySem.Value renaming ref->NH,none->On,type->QP,int->Rt,bool->Tu,isInt_shape->TY,isInt->WQ,str->Yh
open PySem.W renaming Frag->NR,fnOf->R7,findIn->Su,codeIn->Ta,segRun->Tc,emptyDict->Te,keepIn->Tf,piecesOf->T7,kia_one->Uo,kia_tup->Uq,instObj->U5,kitx_list->U6,callWith_KW->WF,of_hideAll->WO,cellsFrom_some->WT,kitx_tuple->WY,topFrame->W2,kitx_bool->Xe,kitx_none->Xf,plainOver->Xg,handedIn->Xv,kitx_int->Xw,kitx_own->Xx,kitx_str->Xy,makesIn->XR,takesIn->XS,topStub->XT,kitAny->Ye,topRun->Yg,hideAll->Yj,hideAll_none->Yk
open PySem.W.OpenLaw renaming row->Qz
open PySem.W.OpenRow renaming toRowW->Qi
open PySem.W.RowW renaming prog->Wa
open PySem.W.WData renaming int->VZ
open PySem.pickOrder renaming go->VP
open True renaming intro->Rq
open PySem PySem.Spec PyProof PyProof.Rows
abbrev a1d:=List Bool
abbrev a1b:=Nj->Nj->WP Nj
abbrev a0X:=Int->Int->Prop
abbrev a0U:=Op->Nat
abbrev a0T:=List O0
abbrev a0S:=Option Nh
abbrev a0Q:=List Pt
abbrev a0P:=Nat->Int
abbrev a0O:=List (Oi×RK)
abbrev a0N:=Int->Int->Int
abbrev a0K:=Option Nat
abbrev a0E:=Option Bool
abbrev a0D:=Array Nj
abbrev a0C:=List Vv
abbrev a0A:=List Op
abbrev a0y:=Array (Int×Nj)
abbrev a0x:=Array a0K
abbrev a0v:=Array Op
abbrev a0r:=List Nh
abbrev a0o:=Option Int
abbrev a0n:=List (Oi×Nh)
abbrev a0m:=Option (Nh×Nh)
abbrev a0j:=List Oi
abbrev a0i:=Oi->Option Nj
abbrev a0h:=List (Nat×Nat)
abbrev a0g:=List Nj
abbrev a0f:=List a0h
abbrev a0e:=Nj->Nq->Prop
abbrev a0d:=List Int
abbrev a0q:=List (a0d×Nh)
abbrev a0c:=List (Nh×N3)
abbrev a0a:=List Nat
abbrev a0M:=List a0a
abbrev a0V:=List (Nat×a0a)
abbrev a0Y:=a0a->a0a->Prop
abbrev Nu:=@if_pos
abbrev Nv:=@if_neg
abbrev NF:=@decide_eq_true
abbrev NW:=@absurd
abbrev Og:=@decide_eq_true_eq
abbrev Oo:=@decide_eq_false
abbrev Ou:=@congrArg
abbrev OC:=@if_true
abbrev OF:=@if_false
abbrev OR:=@of_decide_eq_true
abbrev Rg:=@bne_self_eq_false
abbrev RM:=@beq_iff_eq
abbrev RW:=@or_false
abbrev Uy:=@beq_eq_false_iff_ne
abbrev a3a:=@getElem?_pos
abbrev Wl:=@dif_pos
abbrev W0:=@of_decide_eq_false
abbrev Yi:=@beq_self_eq_true
abbrev Yl:=@not_or
open PySem.W (Frag instObj methodObj hideAll hideAll_get hideAll_none lookIn plainGet hasDictIn findIn plainGet_of isFn takerIn emptyDict keepIn specialIn kitOne kia_one kitx_list kitx_tuple cellsFrom_some mg_of kia_tup)
abbrev LI:=List a0d
abbrev LP:=List (List (Int×Int))
--CHANGE:your row's module here,as the last of these ac
namespace L2
inductive V where
 |o|c (b:Bool)|n (i:Int)|q (x:Oi)|r (a:Nh)|ty (n:String)
 deriving DecidableEq
abbrev a0k:=List V
abbrev a0F:=List (Oi×V)
def aS:V->Nj->Prop
 | .o,u=>u=On
 | .c b,u=>u=Tu b
 | .n i,u=>∃t,u=Rt i t
 | .q x,u=>∃t,u=Yh x t
 | .r a,u=>u=NH a
 | .ty n,u=>u=QP n
abbrev az:a0k->a0g->Prop:=TM aS
theorem az.length{xs:a0k}{us:a0g}(r:az xs us):SW xs=SW us:=Paired.length r
theorem az.get:∀{xs:a0k} {D:a0g} {i:Nat} {x:V},az xs D->xs[i]?=My x->∃u,D[i]?=My u/\aS x u
 |_,_,_,_,.nil,e=>by simp at e
 |_,_,0,_,.cons r _,e=>by simp at e;subst e;exact⟨_,rfl,r⟩
 |_,_,i+1,x,.cons _ t,e=>by
  obtain⟨u,a,b⟩:=az.get (i:=i) (x:=x) t (by simpa using e);exact⟨u,by simpa using a,b⟩
theorem az.set(r:aS x u):∀{xs:a0k} {D:a0g} (i:Nat),az xs D->az (xs.set i x) (D.set i u)
 |_,_,_,.nil=> .nil
 |_,_,0,.cons _ t=> .cons r t
 |_,_,i+1,.cons q t=> .cons q (az.set r i t)
theorem az.append:∀{xs D:a0k} {E a:a0g},az xs E->az D a->az (xs++D) (E++a)
 |_,_,_,_,.nil,s=>s
 |_,_,_,_,.cons r t,s=> .cons r (az.append t s)
theorem az.take:∀{xs:a0k} {D:a0g} (n:Nat),az xs D->az (xs.take n) (D.take n)
 |_,_,0,_=> .nil
 |_,_,_+1,.nil=> .nil
 |_,_,n+1,.cons r t=> .cons r (az.take n t)
theorem az.drop:∀{xs:a0k} {D:a0g} (n:Nat),az xs D->az (xs.drop n) (D.drop n)
 |_,_,0,r=>r
 |_,_,_+1,.nil=> .nil
 |_,_,n+1,.cons _ t=>az.drop n t
def iw:Option V->Option Nj->Prop
 |some v,My u=>aS v u
 |none,Na=>True
 |_,_=>False
inductive HO where
 |l (xs:a0k)
 |t (xs:a0k)
 |ins (C dx:Nh) (fs:a0F)
 |u (x:Nh)
 |xd (fs:a0F)
 |met (f x:Nh)
 |rng (lo hi:Int)
 |frz (o:N3) (u:HO)
 |tbl (ps:a0D)
 |ext (φ:OO->Prop)
abbrev Hp:=Nh->Option HO
abbrev a0W:=Bool->Hp->Prop
noncomputable def upd(H:Hp)(a:Nh)(o:HO):Hp:=λb=>if b=a then My o else H b
theorem aw:upd H a o a=My o:=by unfold upd;rw[Nu rfl]
theorem a_(h:b≠a):upd H a o b=H b:=by unfold upd;rw[Nv h]
theorem MB{H:Hp}{a b:Nh}{o u:HO}(h:H a=My o)(D:H b=My u)(d:o≠u):a≠b:=by
 intro e;subst e;rw[h]at D;exact d (N6 D)
theorem aI{H:Hp}{a b:Nh}{o:HO}(h:H a=My o)(D:H b=Na):a≠b:=by
 intro e;subst e;rw[h]at D;cases D
section
variable(P:N9)(w:Ol)
def bR(P:N9)(w:Ol)(H:Hp)(h:OO)(a:Nh):HO->Prop
 | .l xs=>SW xs<=NN/\∃(D:a0g) (n:Nat),az xs D/\h.get? a=My {cls:= .type "list",data:= .seq D.toArray n}
 | .t xs=>SW xs<=NN/\∃D:a0g,az xs D/\XJ h a D.toArray
 | .ins C dx fs=>H dx=My (.u a)/\SW fs<=1000/\dx≠a/\h.get? a=My (U5 C dx)/\
   ∃b,h.Ns1 dx b/\(∀f,iw (fs.lookup f) (b f))/\UX b (fs.map (·.1))
 | .u _=>∃o,h.get? a=My o
 | .xd fs=>∃b,h.Ns1 a b/\∀f,iw (fs.lookup f) (b f)
 | .rng lo hi=>∃t u v,h.get? a=My {cls:= .type "range",data:= .fields #[.int lo t,.int hi u,.int 1 v]}
 | .frz o u=>h.get? a=My o/\bR P w H h a u
 | .tbl ps=>h.get? a=My {cls:= .none,data:= .fields ps}
 | .met f x=>h.get? a=My (methodObj (.ref f) (.ref x))
 | .ext φ=>φ h/\(∃o,h.get? a=My o)/\∀c d:OO,φ c->(∀o,c.get? a=My o->d.get? a=My o)->φ d
def j_(H:Hp)(h:OO):Prop:=∀a o,H a=My o->bR P w H h a o
end
section
variable{P:N9}{w:Ol}{H s:Hp}{h h':OO}{a:Nh}{o:HO}
theorem bR.lt(x:bR P w H h a o):a<h.objs.size:=by
 cases o with
 |l xs=>obtain⟨_,_,_,_,e⟩:=x;exact NU e
 |t xs=>obtain⟨_,_,_,p⟩:=x;exact p.lt
 |ins C dx fs=>obtain⟨_,_,_,e,_⟩:=x;exact NU e
 |u y=>obtain⟨_,e⟩:=x;exact NU e
 |xd fs=>obtain⟨_,⟨_,_,_,e,_⟩,_⟩:=x;exact NU e
 |rng lo hi=>obtain⟨_,_,_,e⟩:=x;exact NU e
 |frz ob u=>obtain⟨e,_⟩:=x;exact NU e
 |tbl ps=>exact NU (show h.get? a=My _ from x)
 |met f y=>exact NU (show h.get? a=My _ from x)
 |ext φ=>obtain⟨_,⟨_,e⟩,_⟩:=x;exact NU e
theorem bR.stay(x:bR P w H h a o)(k:∀b u,(b=a\/H b=My (.u a))->h.get? b=My u->h'.get? b=My u)
  (l:∀b,H b=My (.u a)->s b=My (.u a)) (A:∀b E,H b=My (.t E)->s b=My (.t E)):bR P w s h' a o:=by
 induction o with
 |l E=>obtain⟨z,D,n,r,e⟩:=x;exact⟨z,D,n,r,k _ _ (.inl rfl) e⟩
 |t E=>obtain⟨z,D,r,g,e,c⟩:=x;exact⟨z,D,r,g,k _ _ (.inl rfl) e,c⟩
 |ins C dx fs=>
  obtain⟨d,z,S,e,i,⟨j,G,K,m,c⟩,r⟩:=x;exact⟨l _ d,z,S,k _ _ (.inl rfl) e,i,⟨j,G,K,k _ _ (.inr d) m,c⟩,r⟩
 |u y=>obtain⟨g,e⟩:=x;exact⟨g,k _ _ (.inl rfl) e⟩
 |xd fs=>obtain⟨i,⟨j,G,K,e,c⟩,r⟩:=x;exact⟨i,⟨j,G,K,k _ _ (.inl rfl) e,c⟩,r⟩
 |rng lo hi=>obtain⟨t,u,v,e⟩:=x;exact⟨t,u,v,k _ _ (.inl rfl) e⟩
 |frz g u ih=>obtain⟨e,q⟩:=x;exact⟨k _ _ (.inl rfl) e,ih q⟩
 |tbl ps=>
  have e:h.get? a=My {cls:= .none,data:= .fields ps}:=x;show h'.get? a=My {cls:= .none,data:= .fields ps};exact k a _ (.inl rfl) e
 |met f y=>
  have e:h.get? a=My (methodObj (.ref f) (.ref y)):=x;show h'.get? a=My (methodObj (.ref f) (.ref y));exact k a _ (.inl rfl) e
 |ext φ=>obtain⟨p,⟨o,e⟩,M⟩:=x;exact⟨M _ _ p λo q=>k _ _ (.inl rfl) q,⟨o,k _ _ (.inl rfl) e⟩,M⟩
theorem j_.lt(x:j_ P w H h)(e:H a=My o):a<h.objs.size:=(x a o e).lt
theorem j_.fresh(x:j_ P w H h)(e:h.objs.size<=a):H a=Na:=by
 cases q:H a with
 |none=>rfl
 |some u=>exact NW (NP (x.lt q) e) (OB _)
theorem j_.kept(x:j_ P w H h)(k:∀b u,h.get? b=My u->h'.get? b=My u):j_ P w H h':=λa o e=>
 (x a o e).stay (λb u _ q=>k b u q) (λ_ q=>q) λ_ _ q=>q
theorem j_.laid(x:j_ P w H h)(k:∀b u,h.get? b=My u->h'.get? b=My u)(f:h.objs.size<=a)(s:bR P w (upd H a o) h' a o):j_ P w (upd H a o) h':=λb u e=>by
 have D:=x.fresh f;by_cases d:b=a
 .subst d;rw[aw]at e;cases e;exact s
 .rw[a_ d]at e
  exact(x b u e).stay (λc v _ q=>k c v q) (λc q=>by rw[a_ (aI q D)];exact q) λc E q=>by rw[a_ (aI q D)];exact q
def Rd(H:Hp)(a:Nh)(u:HO):Prop:=H a=My u\/∃o,H a=My (.frz o u)
theorem Rd.ok{P:N9}{w:Ol}{H:Hp}{h:OO}{a:Nh}(r:Rd H a u)(x:j_ P w H h):bR P w H h a u:=by
 rcases r with r|⟨o,r⟩
 .exact x a u r
 .obtain⟨_,q⟩:=x a _ r
  exact q
def Zz:Option HO->Prop
 |some (.l _)=>True
 |some (.ins _ _ _)=>True
 |some (.ext _)=>True
 |_=>False
variable{x e:Nh}{p:HO}
theorem j_.write(s:j_ P w H h)(mu:Zz (H x))(l:e=x\/H e=My (.u x))(k:∀b u,b≠e->h.get? b=My u->h'.get? b=My u)(j:∃u,h'.get? e=My u)
  (o:bR P w (upd H x p) h' x p):j_ P w (upd H x p) h':=λb u q=>by
 have f:∀c y,H c=My (.u y)->c≠x:=λc y r z=>by subst z;rw[r]at mu;exact mu
 have g:∀c a,H c=My (.t a)->c≠x:=λc a r z=>by subst z;rw[r]at mu;exact mu
 by_cases i:b=x
 .subst i;rw[aw]at q;cases q;exact o
 .rw[a_ i]at q
  by_cases d:b=e
  .have m:H b=My (.u x):=by
    rcases l with z|z
    .exact NW (d.trans z) i
    .rw[d];exact z
   rw[q]at m;cases m;obtain⟨v,n⟩:=j;exact⟨v,by rw[d];exact n⟩
  .refine(s b u q).stay (λc v hc r=>k c v ?_ r) (λc r=>by rw[a_ (f c b r)];exact r) λc a r=>by rw[a_ (g c a r)];exact r
   rcases hc with rfl|hc
   .exact d
   .rintro rfl
    rcases l with z|z
    .exact f c b hc z
    .rw[hc]at z;cases z;exact i rfl
structure Un (fs ex:a0r) (H s:Hp) (h h':OO):Prop where
 keep:∀b o,h.get? b=My o->H b=Na->b∉fs->b∉ex->h'.get? b=My o
 slot:∀b o,h.get? b=My o->H b=Na->b∈fs->b∉ex->∃sl,h'.get? b=My {o with slots:=sl}
 free:∀b o,h.get? b=My o->H b=Na->b∉ex->s b=Na
 there:∀b o,h.get? b=My o->b∉ex->∃p,h'.get? b=My p
 tups:∀b xs,H b=My (.t xs)->s b=My (.t xs)
 frzs:∀b o u,H b=My (.frz o u)->s b=My (.frz o u)
 tbls:∀b ps,H b=My (.tbl ps)->∃more,s b=My (.tbl (ps++more))
variable{l g ex i:a0r}{m s:Hp}{k r:OO}
theorem Un.any(u:Un l ex H m h k)(q:h.get? b=My ob)(n:H b=Na)(a:b∉ex):∃e,k.get? b=My {ob with slots:=e}:=by
 by_cases c:b∈l
 .exact u.slot b ob q n c a
 .exact⟨ob.slots,u.keep b ob q n c a⟩
theorem Un.trans(a:Un l ex H m h k)(b:Un l ex m s k r):Un l ex H s h r where
 keep:=λc d q n g e=>b.keep c d (a.keep c d q n g e) (a.free c d q n e) g e
 slot:=λc d q n g e=>by
  obtain⟨E,f⟩:=a.slot c d q n g e;obtain⟨i,j⟩:=b.slot c _ f (a.free c d q n e) g e;exact⟨i,j⟩
 free:=λc d q n e=>by
  obtain⟨p,f⟩:=a.there c d q e;exact b.free c p f (a.free c d q n e) e
 there:=λc d q e=>by
  obtain⟨p,f⟩:=a.there c d q e;exact b.there c p f e
 tups:=λc o q=>b.tups c o (a.tups c o q)
 frzs:=λc d o q=>b.frzs c d o (a.frzs c d o q)
 tbls:=λc w q=>by
  obtain⟨x,f⟩:=a.tbls c w q;obtain⟨D,j⟩:=b.tbls c _ f;exact⟨x++D,by rw[j,Xh]⟩
theorem Un.kept(k:∀b u,h.get? b=My u->h'.get? b=My u):Un l ex H H h h':=
 ⟨λb c q _ _ _=>k b c q,λb c q _ _ _=>⟨c.slots,k b c q⟩,λ_ _ _ n _=>n,λb c q _=>⟨c,k b c q⟩,λ_ _ q=>q,λ_ _ _ q=>q,λ_ a q=>⟨#[],by rw[q];simp⟩⟩
theorem Un.refl:Un l ex H H h h:=Un.kept λ_ _ q=>q
theorem Un.laid(k:∀b u,h.get? b=My u->h'.get? b=My u)(c:h.objs.size<=a)(e:H a=Na):Un l ex H (upd H a o) h h' where
 keep:=λb u q _ _ _=>k b u q
 slot:=λb u q _ _ _=>⟨u.slots,k b u q⟩
 free:=λb u q n _=>by rw[a_ (Ov (NP (NU q) c))];exact n
 there:=λb u q _=>⟨u,k b u q⟩
 tups:=λb g q=>by rw[a_ (aI q e)];exact q
 frzs:=λb u g q=>by rw[a_ (aI q e)];exact q
 tbls:=λb i q=>⟨#[],by rw[a_ (aI q e),q];simp⟩
theorem Un.write(mu:Zz (H x))(g:e=x\/H e=My (.u x))(k:∀b u,b≠e->h.get? b=My u->h'.get? b=My u)(d:∃u,h'.get? e=My u):Un l ex H (upd H x o) h h':=by
 have m:∀b,H b=Na->b≠x:=λb n z=>by subst z;rw[n]at mu;exact mu
 have f:∀b,H b=Na->b≠e:=λb n z=>by
  subst z;rcases g with r|r
  .exact m b n r
  .rw[n]at r;cases r
 have a:∀b u,H b=My u->¬Zz (My u)->b≠x:=λb u q i z=>by subst z;rw[q]at mu;exact i mu
 refine⟨λb u q n _ _=>k b u (f b n) q,λb u q n _ _=>⟨u.slots,k b u (f b n) q⟩,λb u q n _=>by rw[a_ (m b n)];exact n,λb u q _=>?_,
  λb p q=>by rw[a_ (a b _ q λz=>z)];exact q,λb u p q=>by rw[a_ (a b _ q λz=>z)];exact q,λb s q=>⟨#[],by rw[a_ (a b _ q λz=>z),q];simp⟩⟩
 by_cases c:b=e
 .subst c;exact d
 .exact⟨u,k b u c q⟩
theorem Un.mono(u:Un l ex H m h k)(e:∀b∈l,b∈g)(a:∀b∈ex,b∈i):Un g i H m h k:=
 ⟨λb d q n f c=>u.keep b d q n (λz=>f (e b z)) λz=>c (a b z),λ_ _ q n _ c=>u.any q n λz=>c (a _ z),λb d q n c=>u.free b d q n λz=>c (a b z),λb d q c=>u.there b d q λz=>c (a b z),u.tups,u.frzs,u.tbls⟩
noncomputable def Zd(h:OO)(H:Hp):a0r:=(Nr h.objs.size).filter λa=>(H a).isSome
noncomputable def kM(h:OO)(H:Hp):OO:=Yj h (Zd h H)
theorem CB(h:OO)(H:Hp):(kM h H).objs.size=h.objs.size:=PySem.W.hideAll_size _ _
theorem ES{h:OO}{H:Hp}{o:N3}(e:h.get? b=My o)(n:H b=Na):(kM h H).get? b=My o:=
 hideAll_get _ e λa=>by
  have q:(H b).isSome=Nf:=(Uu.mp a).2;rw[n]at q;simp at q
theorem HW{h:OO}{H:Hp}{o:N3}(e:(kM h H).get? b=My o):h.get? b=My o/\H b=Na:=by
 have c:h.get? b=My o:=WO (Zd h H) e;refine⟨c,?_⟩;cases q:H b with
 |none=>rfl
 |some x=>
  have a:b∈Zd h H:=Uu.mpr ⟨NS.mpr (NU c),by simp[q]⟩;have z:(kM h H).get? b=Na:=Yk (Zd h H) a;rw[z]at e;cases e
structure Mod (K:NR) (mg:a0i) (base:OO):Prop where
 kin:K.In base
 glob:base.Ns Qg mg
 blt:∃mb,base.Ns WS mb/\∀x:Oi,x≠"__name__"->mb x=Rk x
 nolimit:base.NoLimit
structure Cx where
 p:N9
 w:Ol
 K:NR
 mg:Oi->Option Nj
 base:OO
 A:Ot
 N:a0j
 s₀:Nq
 H₀:Hp
 e:Vv
 outer:a0C
 k:a0C
 ex:a0r
 fn:Oi->Bool
 calm:Bool
 pn:a0c
 xe:Nj->Nq->Prop
abbrev b0a(X:Cx)(a:Expr)(b:List Expr):=NL (a::b) X.e=(Ni,OQ a X.e)::NL b X.e
abbrev b0b(X:Cx)(a:SA)(b:List Expr):=(QR a (NL b X.e)).any (·.1)=Ni
abbrev b0c(a:Oi):=(a==("__debug__":Oi))=Ni
abbrev b0d(X:Cx)(a:Oi):=X.fn a=Nf\/X.e.scope.names.lookup a=My .local
noncomputable def fy(l:a0C):a0r:=l.filterMap (·.frame)
end
noncomputable abbrev Cx.fs(X:Cx):a0r:=fy X.outer
def Y1(a:Scope)(x:Oi):Prop:=a.names.lookup x=My .local\/a.names.lookup x=My .cell\/a.names.lookup x=My .free
def xl(a:Scope)(x:Oi):Prop:=a.names.lookup x=My .local\/a.names.lookup x=My .cell
def Look(D:Vv)(h:OO)(m:a0i)(x:Oi)(u:Nj):Prop:=
 (D.kindOf x=My .local/\m x=My u)\/((D.kindOf x=My .cell\/D.kindOf x=My .free)/\∃c,D.cells.lookup x=My c/\h.IsCell c (My u))
structure Cx.Ok (X:Cx):Prop where
 mod:Mod X.K X.mg X.base
 kind:X.e.scope.kind= .function
 glob:X.e.globals=Qg
 blt:X.e.builtins=WS
 above:X.s₀.heap.objs.size<=X.e.locals
 inj:∀x y c,X.e.cells.lookup x=My c->X.e.cells.lookup y=My c->x=y
 has:∀x,(X.e.kindOf x=My .cell\/X.e.kindOf x=My .free)->∃c,X.e.cells.lookup x=My c
 cab:∀x c,X.fn x=Nf->X.e.cells.lookup x=My c->X.s₀.heap.objs.size<=c
 hd:X.calm=Nf->X.A.handled=Na
 frames:X.A.frames=My X.k
 stk:X.k=X.outer\/(X.k=X.e::X.outer/\X.e.frame=My X.e.locals)
 exf:∀b∈X.ex,b≠X.e.locals/\∀x c,X.e.cells.lookup x=My c->c≠b
 bs:∀b o,X.base.get? b=My o->X.s₀.heap.get? b=My o/\X.H₀ b=Na
 bsz:X.base.objs.size<=X.s₀.heap.objs.size
 noex:∀b o,X.base.get? b=My o->b∉X.ex
 exfs:∀b∈X.ex,b∉X.fs
 funs:X.s₀.heap.FunFrames X.base X.outer
 frf:∀b∈X.fs,X.H₀ b=Na
structure bt (X:Cx) (ai:a0c) (σ:List (Option V)) (H:Hp) (s:Nq):Prop where
 ok:X.Ok
 os:s.os=X.s₀.os
 bare:TZ s.gens
 base:Un X.fs X.ex X.H₀ H X.s₀.heap s.heap
 loc:∃m,s.heap.Ns X.e.locals m/\∀(i:Nat) (x:Oi) (v:V),X.N[i]?=My x->σ[i]?=My (My v)->Y1 X.e.scope x->∃u,aS v u/\Look X.e s.heap m x u
 cell:∀x c,X.e.cells.lookup x=My c->∃v,s.heap.IsCell c v
 free:H X.e.locals=Na
 freeC:∀x c,X.e.cells.lookup x=My c->H c=Na
 pin:∀p∈X.pn++ai,s.heap.get? p.1=My p.2/\H p.1=Na/\p.1≠X.e.locals/\p.1∉X.fs/\∀v,p.2.data≠ .cell v
 hok:j_ X.p X.w H s.heap
 len:SW σ=SW X.N
section
variable{X:Cx}{ai:a0c}{σ:List (Option V)}{H R:Hp}{s:Nq}{h':OO}
theorem Cx.Ok.nofr(s:X.Ok)(e:X.base.get? b=My o):b∉X.fs:=λa=>by
 have:=(s.funs.mem a).1;rw[e]at this;cases this
theorem bt.bs(I:bt X ai σ H s):∀b o,X.base.get? b=My o->s.heap.get? b=My o/\H b=Na:=λb o e=>
 ⟨I.base.keep b o (I.ok.bs b o e).1 (I.ok.bs b o e).2 (I.ok.nofr e) (I.ok.noex b o e),I.base.free b o (I.ok.bs b o e).1 (I.ok.bs b o e).2 (I.ok.noex b o e)⟩
theorem bt.bk(I:bt X ai σ H s):∀b o,X.base.get? b=My o->s.heap.get? b=My o:=λb o e=>(I.bs b o e).1
theorem bt.mod(I:bt X ai σ H s):Mod X.K X.mg X.base:=I.ok.mod
theorem bt.kIn(I:bt X ai σ H s):X.K.In s.heap:=I.ok.mod.kin.keeps I.bk
theorem bt.lt(I:bt X ai σ H s):X.e.locals<s.heap.objs.size:=let ⟨_,hn,_⟩:=I.loc;hn.lt
theorem bt.sz(I:bt X ai σ H s):X.s₀.heap.objs.size<=s.heap.objs.size:=NK I.ok.above (OK I.lt)
theorem bt.nofs(I:bt X ai σ H s){a:Nh}(h:s.heap.objs.size<=a):a∉X.fs:=λb=>by
 obtain⟨_,o,c,_⟩:=I.ok.funs.mem b;exact NW (NP (NU c) (NK I.sz h)) (OB _)
theorem bt.cne(I:bt X ai σ H s):∀x c,X.e.cells.lookup x=My c->c≠X.e.locals:=λx c e z=>by
 obtain⟨v,o,d,D⟩:=I.cell x c e;obtain⟨m,⟨f,E,G,a,b,_⟩,_⟩:=I.loc;rw[z,a]at d;cases d;rw[b]at D;cases D
theorem bt.funs(I:bt X ai σ H s):s.heap.FunFrames X.base X.outer:=by
 have D:∀(l:a0C),(∀b∈fy l,b∈X.fs)->X.s₀.heap.FunFrames X.base l->s.heap.FunFrames X.base l:=by
  intro l
  induction l with
  |nil=>intro _ _;trivial
  |cons G r K=>
   intro E f;obtain⟨g,⟨L,o,a,M,h,R⟩,i⟩:=f;have c:L∈X.fs:=E L (by unfold fy;rw[Pw,a];exact Np);obtain⟨S,e⟩:=I.base.slot L o h (I.ok.frf L c) c λz=>I.ok.exfs L z c;exact⟨g,⟨L,_,a,M,e,R⟩,K (λb d=>E b (by unfold fy;rw[Pw,a];exact Nk _ d)) i⟩
 exact D X.outer (λ_ d=>d) I.ok.funs
theorem bt.o9(I:bt X ai σ H s):s.heap.FunFrames X.base X.k:=by
 rcases I.ok.stk with e|⟨e,a⟩
 .rw[e];exact I.funs
 .rw[e]
  obtain⟨m,D,_⟩:=I.loc;refine .cons (by rw[I.ok.kind];decide) a D ?_ I.funs;exact W8 (NK I.ok.bsz I.ok.above)
theorem bt.stkSub(I:bt X ai σ H s):∀b∈fy X.k,b∈X.e.locals::X.fs:=λb a=>by
 rcases I.ok.stk with e|⟨e,c⟩
 .rw[e]at a;exact Nk _ a
 .rw[e]at a
  unfold fy at a;rw[Pw,c]at a;exact a
theorem bt.stkFree(I:bt X ai σ H s):∀b∈fy X.k,H b=Na:=λb hb=>by
 rcases NC.mp (I.stkSub b hb)with e|hb
 .rw[e];exact I.free
 .obtain⟨_,o,a,_⟩:=I.ok.funs.mem hb
  exact I.base.free b o a (I.ok.frf b hb) λz=>I.ok.exfs b z hb
theorem bt.step{ch:a0r}(I:bt X ai σ H s)
  (a:∀b∈ch,(b∈X.ex\/X.s₀.heap.objs.size<=b)/\b≠X.e.locals/\(∀x c,X.e.cells.lookup x=My c->c≠b)/\∀p∈X.pn++ai,p.1≠b)
  (G:∀b o,b≠X.e.locals->b∉X.fs->b∉ch->s.heap.get? b=My o->H b=Na->h'.get? b=My o)
  (K:∀b o,b≠X.e.locals->b∈X.fs->b∉ch->s.heap.get? b=My o->H b=Na->∃Y,h'.get? b=My {o with slots:=Y}) (E:∀b o,b∉ch->s.heap.get? b=My o->H b=Na->R b=Na)
  (M:∀b o,b∉ch->s.heap.get? b=My o->∃A,h'.get? b=My A)
  (S:∀b xs,H b=My (.t xs)->R b=My (.t xs)) (V:∀b o u,H b=My (.frz o u)->R b=My (.frz o u)) (Q:∀b U,H b=My (.tbl U)->∃T,R b=My (.tbl (U++T)))
  (ns:∀m,s.heap.Ns X.e.locals m->h'.Ns X.e.locals m) (W:j_ X.p X.w R h') (N:TZ g'):
  bt X ai σ R {s with heap:=h',gens:=g',drawn:=d',toks:=t'}:=by
 have B:∀b o,X.s₀.heap.get? b=My o->b≠X.e.locals:=λb o e=>Ov (NP (NU e) I.ok.above);have h:∀b o,X.s₀.heap.get? b=My o->b∉X.ex->b∉ch:=λb o e D t=>by
  rcases(a b t).1 with z|z
  .exact D z
  .exact NW (NP (NU e) z) (OB _)
 have f:∀x c,X.e.cells.lookup x=My c->∀v,s.heap.IsCell c v->h'.IsCell c v:=λx c e v ⟨o,y,Z⟩=>by
  have g:c∉ch:=λz=>(a c z).2.2.1 x c e rfl;by_cases J:c∈X.fs
  .obtain⟨Y,q⟩:=K c o (I.cne x c e) J g y (I.freeC x c e)
   exact⟨_,q,Z⟩
  .exact⟨o,G c o (I.cne x c e) J g y (I.freeC x c e),Z⟩
 refine⟨I.ok,I.os,N,⟨λb o e n t D=>?_,λb o e n t D=>?_,λb o e n D=>?_,λb o e D=>?_,λb xs e=>S b xs (I.base.tups b xs e),λb o xs e=>V b o xs (I.base.frzs b o xs e),λb U e=>?_⟩,?_,λx c e=>?_,?_,λx c e=>?_,λp L=>?_,W,I.len⟩
 .exact G b o (B b o e) t (h b o e D) (I.base.keep b o e n t D) (I.base.free b o e n D)
 .obtain⟨Y,j⟩:=I.base.slot b o e n t D
  obtain⟨F,C⟩:=K b _ (B b o e) t (h b o e D) j (I.base.free b o e n D);exact⟨F,C⟩
 .obtain⟨A,j⟩:=I.base.there b o e D
  exact E b A (h b o e D) j (I.base.free b o e n D)
 .obtain⟨A,j⟩:=I.base.there b o e D
  exact M b A (h b o e D) j
 .obtain⟨m1,j⟩:=I.base.tbls b U e
  obtain⟨m2,C⟩:=Q b _ j;exact⟨m1++m2,by rw[C,Xh]⟩
 .obtain⟨m,hn,O⟩:=I.loc
  refine⟨m,ns m hn,λi x v j C P=>?_⟩;obtain⟨u,r,l⟩:=O i x v j C P;refine⟨u,r,?_⟩;rcases l with l|⟨k,c,e,z⟩
  .exact .inl l
  .exact .inr ⟨k,c,e,f x c e _ z⟩
 .obtain⟨v,z⟩:=I.cell x c e
  exact⟨v,f x c e v z⟩
 .obtain⟨m,⟨o,_,_,y,_⟩,_⟩:=I.loc
  exact E _ o (λz=>(a _ z).2.1 rfl) y I.free
 .obtain⟨v,o,y,Z⟩:=I.cell x c e
  exact E c o (λz=>(a c z).2.2.1 x c e rfl) y (I.freeC x c e)
 .obtain⟨e,n,ne,nf,d⟩:=I.pin p L
  have g:p.1∉ch:=λz=>(a p.1 z).2.2.2 p L rfl;exact⟨G p.1 p.2 ne nf g e n,E p.1 p.2 g e n,ne,nf,d⟩
theorem bt.un(I:bt X ai σ H s)(u:Un X.fs [] H R s.heap h')(D:j_ X.p X.w R h'):bt X ai σ R {s with heap:=h',toks:=t'}:=by
 obtain⟨m,⟨o,G,K,g,r⟩,_⟩:=id I.loc;obtain⟨M,h⟩:=u.any g I.free (by simp);exact I.step (g':=s.gens) (d':=s.drawn) (ch:=[]) (λ_ z=>nomatch z) (λb o _ c _ e n=>u.keep b o e n c (by simp)) (λb o _ c _ e n=>u.slot b o e n c (by simp)) (λb o _ e n=>u.free b o e n (by simp)) (λb o _ e=>u.there b o e (by simp)) u.tups u.frzs u.tbls (λj E=>by
  obtain⟨k,d,f,a,i⟩:=E;rw[g]at a;cases a;exact⟨_,d,f,h,i⟩) D I.bare
theorem bt.call{ch:a0r}(I:bt X ai σ H s)(u:Un (fy X.k) ch H R s.heap h')(D:j_ X.p X.w R h')(k:TZ g')
  (d:∀b∈ch,(b∈X.ex\/X.s₀.heap.objs.size<=b)/\b≠X.e.locals/\(∀x c,X.e.cells.lookup x=My c->c≠b)/\∀p∈X.pn++ai,p.1≠b):
  bt X ai σ R {s with heap:=h',gens:=g',drawn:=d',toks:=t'}:=by
 obtain⟨m,⟨o,G,K,j,r⟩,_⟩:=id I.loc;obtain⟨M,g⟩:=u.any j I.free λz=>(d _ z).2.1 rfl;exact I.step (ch:=ch) d (λb o g l a e n=>u.keep b o e n (λz=>(NC.mp (I.stkSub b z)).elim g l) a) (λb o _ _ a e n=>u.any e n a) (λb o a e n=>u.free b o e n a) (λb o a e=>u.there b o e a) u.tups u.frzs u.tbls (λt E=>by
  obtain⟨v,h,i,f,q⟩:=E;rw[j]at f;cases f;exact⟨_,h,i,g,q⟩) D k
theorem bt.turned(I:bt X ai σ H s)(k:∀b o,b≠t->s.heap.get? b=My o->h'.get? b=My o)(D:H t=Na)(f:t≠X.e.locals)
  (g:t∈X.ex\/X.s₀.heap.objs.size<=t) (h:∀x c,X.e.cells.lookup x=My c->c≠t) (i:∀p∈X.pn++ai,p.1≠t):bt X ai σ H {s with heap:=h',toks:=t'}:=by
 have d:∀b u,H b=My u->b≠t:=λb u e z=>by rw[z,D]at e;cases e
 refine I.step (g':=s.gens) (d':=s.drawn) (ch:=[t]) (λb j=>?_) (λb o _ _ a e _=>k b o (λz=>a (by simp[z])) e) (λb o _ _ a e _=>⟨o.slots,k b o (λz=>a (by simp[z])) e⟩) (λ_ _ _ _ n=>n)
  (λb o a e=>⟨o,k b o (λz=>a (by simp[z])) e⟩) (λ_ _ e=>e) (λ_ _ _ e=>e) (λb G e=>⟨#[],by rw[e];simp⟩) (λm E=>?_) (λb u e=>?_) I.bare
 .have e:b=t:=by simpa using j
  subst e;exact⟨g,f,h,i⟩
 .obtain⟨o,es,ep,l,r⟩:=E
  exact⟨o,es,ep,k _ o (Ne.symm f) l,r⟩
 .refine(I.hok b u e).stay (λc v a q=>k c v ?_ q) (λ_ q=>q) λ_ _ q=>q
  rcases a with z|z
  .rw[z];exact d b u e
  .exact d c _ z
theorem bt.tok(I:bt X ai σ H s)(t:Nat):bt X ai σ H {s with toks:=t}:=I.un (h':=s.heap) (t':=t) Un.refl I.hok
theorem bt.kept(I:bt X ai σ H s)(k:∀b u,s.heap.get? b=My u->h'.get? b=My u):bt X ai σ H {s with heap:=h',toks:=t'}:=I.un (Un.kept k) (I.hok.kept k)
theorem bt.laid{a:Nh}{o:HO}{t':Nat}(I:bt X ai σ H s)(k:∀b u,s.heap.get? b=My u->h'.get? b=My u)(c:s.heap.objs.size<=a)(D:bR X.p X.w (upd H a o) h' a o):
  bt X ai σ (upd H a o) {s with heap:=h',toks:=t'}:=I.un (Un.laid k c (I.hok.fresh c)) (I.hok.laid k c D)
theorem bt.write(I:bt X ai σ H s)(mu:Zz (H x))(c:e=x\/H e=My (.u x))(k:∀b u,b≠e->s.heap.get? b=My u->h'.get? b=My u)(a:∃u,h'.get? e=My u)
  (D:bR X.p X.w (upd H x o) h' x o):bt X ai σ (upd H x o) {s with heap:=h',toks:=d}:=I.un (Un.write mu c k a) (I.hok.write mu c k a D)
theorem bt.pins_of(I:bt X ai σ H s)(h:∀p∈pins',s.heap.get? p.1=My p.2/\H p.1=Na/\p.1≠X.e.locals/\p.1∉X.fs/\∀v,p.2.data≠ .cell v):bt X pins' σ H s:=
 ⟨I.ok,I.os,I.bare,I.base,I.loc,I.cell,I.free,I.freeC,λp a=>(N4.mp a).elim (λz=>I.pin p (QI _ z)) (h p),I.hok,I.len⟩
theorem u4{N:a0j}(c:N.Nodup){i j:Nat}{x:Oi}(a:N[i]?=My x)(b:N[j]?=My x):i=j:=by
 obtain⟨f,d⟩:=Nn.mp a;obtain⟨g,e⟩:=Nn.mp b;exact(List.getElem_inj c).mp (d.trans e.symm)
theorem lz{M:Vh}{E:a0e}(I:bt X ai σ H s)(hN:X.N.Nodup)(L:X.N[i]?=My x)(G:xl X.e.scope x)(r:aS v u)
  (h:∀S,bt X ai (σ.set i (My v)) H S->(∃a,Oa a s.heap S.heap/\(a=X.e.locals\/X.e.cells.lookup x=My a))->Q () S) (hf:b0d X x:=by first|exact .inl rfl|exact .inr rfl|assumption):ND M A (storeName X.e x u) Q E s:=by
 obtain⟨m,V,hl⟩:=id I.loc;have O:(X.e.scope.kind== .class||(X.e.scope.kind== .module&&X.e.locals !=X.e.globals))=Ni:=by rw[I.ok.kind];rfl
 have B:i<SW σ:=by rw[I.len];exact(Nn.mp L).1
 have K:=I.cne;have f:∀{a:Nh} {h':OO},(∃o,s.heap.get? a=My o/\H a=Na)->Oa a s.heap h'->j_ X.p X.w H h':=λ{a h'} ha D b ob e=>by
  obtain⟨_,_,l⟩:=ha;refine(I.hok b ob e).stay (λc W hc q=>(D.2 c ?_).trans q) (λ_ q=>q) λ_ _ q=>q;rintro rfl;rcases hc with rfl|hc
  .rw[l]at e;cases e
  .rw[l]at hc;cases hc
 rcases G with hk|hk
 .refine wpAny_storeName_local hk V (λh' Z D=>?_) O
  obtain⟨oL,_,_,aa,_⟩:=id V;refine h _ ⟨I.ok,I.os,I.bare,⟨λb o e n C G=>?_,λb o e n C G=>?_,I.base.free,λb o e G=>?_,I.base.tups,I.base.frzs,I.base.tbls⟩,⟨_,Z,λj y v' g t e3=>?_⟩,λy c e=>?_,I.free,I.freeC,λp hp=>?_,f ⟨oL,aa,I.free⟩ D,by simpa using I.len⟩ ⟨_,D,.inl rfl⟩
  .exact(D.2 b (Ov (NP (NU e) I.ok.above))).trans (I.base.keep b o e n C G)
  .obtain⟨sl,g⟩:=I.base.slot b o e n C G
   exact⟨sl,(D.2 b (Ov (NP (NU e) I.ok.above))).trans g⟩
  .obtain⟨o',g⟩:=I.base.there b o e G
   exact⟨o',(D.2 b (Ov (NP (NU e) I.ok.above))).trans g⟩
  .by_cases F:j=i
   .subst F
    rw[L]at g;cases g;rw[WD B]at t;cases t;exact⟨u,r,.inl ⟨hk,by simp⟩⟩
   .rw[Xb (Ne.symm F)]at t
    obtain⟨u',r',q⟩:=hl j y v' g t e3;refine⟨u',r',?_⟩;rcases q with⟨k,e⟩|⟨k,c,e,z⟩
    .refine .inl ⟨k,?_⟩
     have:y≠x:=λe=>F (u4 hN g (e▸L));simp[this,e]
    .exact .inr ⟨k,c,e,z.sameBut D (K y c e)⟩
  .obtain⟨W,z⟩:=I.cell y c e
   exact⟨W,z.sameBut D (K y c e)⟩
  .obtain⟨e,n,ne,nf,d⟩:=I.pin p hp
   exact⟨(D.2 p.1 ne).trans e,n,ne,nf,d⟩
 .have J:X.fn x=Nf:=by
   rcases hf with z|z
   .exact z
   .rw[z]at hk;cases hk
  obtain⟨c,hc⟩:=I.ok.has x (.inl hk);obtain⟨W,z⟩:=I.cell x c hc;refine wpAny_storeName_cell I.ok.kind hk hc z (λh' P D=>?_);obtain⟨oc,R,T⟩:=id z;refine h {s with heap:=h'} ⟨I.ok,I.os,I.bare,⟨λb o e n C G=>?_,λb o e n C G=>?_,I.base.free,λb o e G=>?_,I.base.tups,I.base.frzs,I.base.tbls⟩,⟨m,V.sameBut D (Ne.symm (K x c hc)),λj y v' g t e3=>?_⟩,λy Y e=>?_,I.free,I.freeC,λp hp=>?_,f ⟨oc,R,I.freeC x c hc⟩ D,by simpa using I.len⟩ ⟨c,D,.inr hc⟩
  .exact(D.2 b (Ov (NP (NU e) (I.ok.cab x c J hc)))).trans (I.base.keep b o e n C G)
  .obtain⟨sl,g⟩:=I.base.slot b o e n C G
   exact⟨sl,(D.2 b (Ov (NP (NU e) (I.ok.cab x c J hc)))).trans g⟩
  .obtain⟨o',g⟩:=I.base.there b o e G
   exact⟨o',(D.2 b (Ov (NP (NU e) (I.ok.cab x c J hc)))).trans g⟩
  .by_cases F:j=i
   .subst F
    rw[L]at g;cases g;rw[WD B]at t;cases t;exact⟨u,r,.inr ⟨.inl hk,c,hc,P⟩⟩
   .rw[Xb (Ne.symm F)]at t
    obtain⟨u',r',q⟩:=hl j y v' g t e3;refine⟨u',r',?_⟩;rcases q with q|⟨k,Y,e,z'⟩
    .exact .inl q
    .refine .inr ⟨k,Y,e,z'.sameBut D ?_⟩
     rintro rfl;exact F (u4 hN g (I.ok.inj _ _ _ e hc▸L))
  .by_cases U:Y=c
   .subst U;exact⟨_,P⟩
   .obtain⟨w2,z2⟩:=I.cell y Y e
    exact⟨w2,z2.sameBut D U⟩
  .obtain⟨e,n,ne,nf,d⟩:=I.pin p hp
   refine⟨(D.2 p.1 ?_).trans e,n,ne,nf,d⟩;intro q;rw[q,R]at e;have q':oc=p.2:=N6 e;exact d W (by rw[<-q'];exact T)
theorem nU{M:Vh}{E:a0e}(I:bt X ai σ H s)(a:X.N.Nodup)(b:X.N[i]?=My x)(G:xl X.e.scope x)(r:aS v u)
  (h:∀D,bt X ai (σ.set i (My v)) H D->Q () D) (c:b0d X x:=by first|exact .inl rfl|exact .inr rfl|assumption):ND M A (storeName X.e x u) Q E s:=
 lz I a b G r (λD d _=>h D d) c
theorem bt.call'{s':Nq}{ch:a0r}(I:bt X ai σ H s)(d:s'.os=s.os)(u:Un (fy X.k) ch H R s.heap s'.heap)(D:j_ X.p X.w R s'.heap)(f:TZ s'.gens)
  (a:∀b∈ch,(b∈X.ex\/X.s₀.heap.objs.size<=b)/\b≠X.e.locals/\(∀x c,X.e.cells.lookup x=My c->c≠b)/\∀p∈X.pn++ai,p.1≠b):bt X ai σ R s':=by
 obtain⟨h',g',d',t',g⟩:=s';have e:g=s.os:=d;subst e;exact I.call (g':=g') (t':=t') (d':=d') u D f a
abbrev XK:=Nj->a0S->Hp->Prop
abbrev St:=List (Option V)
abbrev a0t:=St->XK
abbrev a0G:=St->Hp->Prop
abbrev VK:=V->Hp->Prop
abbrev a0J:=a0k->Hp->VK->Prop
abbrev a0R:=V->a0k->Hp->VK->Prop
abbrev TE:=St->Hp->VK->Prop
abbrev TT:=St->Hp->(Bool->Hp->Prop)->Prop
abbrev TA:=St->Hp->(a0k->Hp->Prop)->Prop
structure o_ where
 nx:St->Hp->Prop
 rt:VK
 bk:St->Hp->Prop:=λ_ _=>False
 ct:St->Hp->Prop:=λ_ _=>False
abbrev TS:=o_->St->Hp->Prop
def EP(X:Cx)(ai:a0c)(σ:St)(Q:VK)(u:Nj)(s:Nq):Prop:=∃v R,bt X ai σ R s/\aS v u/\Q v R
def TP(X:Cx)(ai:a0c)(σ:St)(Q:a0W)(b:Bool)(s:Nq):Prop:=∃R,bt X ai σ R s/\Q b R
def AP(X:Cx)(ai:a0c)(σ:St)(Q:a0k->Hp->Prop)(D:a0g)(E:Nq):Prop:=∃s R,bt X ai σ R E/\az s D/\Q s R
def SP(X:Cx)(ai:a0c)(D:o_)(f:Flow)(s:Nq):Prop:=
 match f with
 | .next=>∃a R,bt X ai a R s/\D.nx a R
 | .brk=>∃a R,bt X ai a R s/\D.bk a R
 | .cont=>∃a R,bt X ai a R s/\D.ct a R
 | .ret u=>∃v a R,bt X ai a R s/\aS v u/\D.rt v R
def PE(X:Cx)(e:Expr)(t:TE):Prop:=
 ∀(ai:a0c) (s:Nq) (σ:St) (H:Hp) (Q:VK),bt X ai σ H s->t σ H Q->ND (N0 X.p X.w) X.A (OQ e X.e) (EP X ai σ Q) X.xe s
def PT(X:Cx)(e:Expr)(t:TT):Prop:=
 ∀(ai:a0c) (s:Nq) (σ:St) (H:Hp) (Q:a0W),bt X ai σ H s->t σ H Q->ND (N0 X.p X.w) X.A (isTrue e X.e (OQ e X.e)) (TP X ai σ Q) X.xe s
def PW(X:Cx)(e:Expr)(t:TT):Prop:=
 ∀(a:WP Nj) (ai:a0c) (s:Nq) (σ:St) (H:Hp) (Q:a0W),bt X ai σ H s->t σ H Q->ND (N0 X.p X.w) X.A (isTrue e X.e a) (TP X ai σ Q) X.xe s
theorem PW.pt{X:Cx}(h:PW X e t):PT X e t:=h _
def PA(X:Cx)(E:List Expr)(t:TA):Prop:=
 ∀(D:SA) (ai:a0c) (s:Nq) (σ:St) (H:Hp) (Q:a0k->Hp->Prop),bt X ai σ H s->t σ H Q->ND (N0 X.p X.w) X.A (spliced (QR D (NL E X.e))) (AP X ai σ Q) X.xe s
def PS(X:Cx)(E:O0)(t:TS):Prop:=
 ∀(ai:a0c) (s:Nq) (σ:St) (H:Hp) (D:o_),bt X ai σ H s->t D σ H->ND (N0 X.p X.w) X.A (exec E X.e) (SP X ai D) X.xe s
def PSs(X:Cx)(E:a0T)(t:TS):Prop:=
 ∀(ai:a0c) (s:Nq) (σ:St) (H:Hp) (D:o_),bt X ai σ H s->t D σ H->ND (N0 X.p X.w) X.A (execs E X.e) (SP X ai D) X.xe s
theorem dt{D:Type}{t:WP D}{Q b:D->Nq->Prop}{M:Vh}{A:Ot}{E:a0e}{s:Nq}(h:ND M A t Q E s)(c:∀a s,Q a s->b a s):ND M A t b E s:=OL h c λ_ _ x=>x
def gH(i:Nat):TE:=λσ H Q=>∃v,σ[i]?=My (My v)/\Q v H
def tC(v:V):TE:=λ_ H Q=>Q v H
theorem JH(g:X.N[i]?=My x)(j:Y1 X.e.scope x)(D:b0c x:=by decide)(d:(x==("__classdict__":Oi))=Ni:=by decide):PE X (.Name x n) (gH i):=by
 intro ai s σ H Q I h;obtain⟨v,e,h⟩:=h;obtain⟨m,E,k⟩:=I.loc;obtain⟨u,r,l⟩:=k i x v g e j;have b:EP X ai σ Q u s:=⟨v,H,I,r,h⟩;rcases l with⟨hk,G⟩|⟨hk,c,f,a⟩
 .exact wpAny_Name (wpAny_loadName_local I.ok.kind hk E G b) D
 .rcases hk with hk|hk
  .exact wpAny_Name (wpAny_loadName_cell I.ok.kind hk f a b) D
  .exact wpAny_Name (wpAny_loadName_free I.ok.kind hk f a b d) D
theorem bY{i j a}:PE X (.Constant (.int i) j a) (tC (.n i)):=λ_ _ _ H _ I h=>wpAny_Constant_int ⟨.n i,H,I.tok _,⟨_,rfl⟩,h⟩
theorem Mq{b j a}:PE X (.Constant (.bool b) j a) (tC (.c b)):=λ_ _ _ H _ I h=>Constant_bool ⟨.c b,H,I,rfl,h⟩
theorem JL{j a}:PE X (.Constant .none j a) (tC .o):=λ_ _ _ H _ I h=>Constant_none ⟨.o,H,I,rfl,h⟩
def Gl(X:Cx)(x:Oi):Prop:=X.e.kindOf x=My .globalImplicit
theorem mS{E:a0e}{ai:a0c}{s:Nq}{σ:St}{H:Hp}(I:bt X ai σ H s)(a:Gl X x)(D:X.mg x=My u)(h:Q u s)
  (G:b0c x:=by decide):ND (N0 X.p X.w) X.A (OQ (.Name x b) X.e) Q E s:=
 VF I.ok.kind a (Calls.loadGlobal_global (by rw[I.ok.glob];exact I.mod.glob.keeps I.bk) D h) G
theorem fX{E:a0e}{ai:a0c}{s:Nq}{σ:St}{H:Hp}(I:bt X ai σ H s)(a:Gl X x)(D:X.mg x=Na)(b:Rk x=My u)(h:Q u s)
  (G:x≠"__name__":=by decide) (K:b0c x:=by decide):ND (N0 X.p X.w) X.A (OQ (.Name x f) X.e) Q E s:=by
 obtain⟨e,c,d⟩:=I.mod.blt;exact VF I.ok.kind a (Calls.loadGlobal_builtin (by rw[I.ok.glob];exact I.mod.glob.keeps I.bk) D (by rw[I.ok.blt];exact c.keeps I.bk) ((d x G).trans b) h) K
theorem HM(a:Gl X x)(s:X.mg x=My u)(r:aS v u)(D:b0c x:=by decide):PE X (.Name x b) (tC v):=
 λ_ _ _ H _ I h=>mS I a s ⟨v,H,I,r,h⟩ D
theorem dA(a:Gl X x)(s:X.mg x=Na)(b:Rk x=My u)(r:aS v u)(D:x≠"__name__":=by decide)(E:b0c x:=by decide):PE X (.Name x c) (tC v):=
 λ_ _ _ H _ I h=>fX I a s b ⟨v,H,I,r,h⟩ D E
variable{a b:Expr}{o m:TE}{k:SA}
variable{l p:TT}{j:List Expr}
def tOr(t u:TT):TT:=λσ H Q=>t σ H λc d=>if c=Nf then Q Nf d else u σ d Q
def ZM(t:TT):TT:=λσ H Q=>t σ H λc d=>Q (!c) d
theorem JB(b:PT X a l):PW X (.BoolOp .Or [a] k) l:=by
 intro d ai s σ H Q I h;refine isTrue_or (dt (b ai s σ H Q I h) λc f e=>?_);cases c with
 |false=>exact isTrue_or_nil e
 |true=>exact e
theorem Mn(o:PT X a l)(f:PW X (.BoolOp .Or (b::j) k) p):PW X (.BoolOp .Or (a::b::j) k) (tOr l p):=by
 intro g ai s σ H Q I h;refine isTrue_or (dt (o ai s σ H _ I h) λc i ⟨d,e,m⟩=>?_);cases c with
 |true=>exact⟨d,e,m⟩
 |false=>exact f g ai i σ d Q e m
theorem JD(b:PT X a l):PT X (.UnaryOp .Not a k) (ZM l):=by
 intro ai s σ H Q I h;exact isTrue_not (b ai s σ H (λc d=>Q (!c) d) I h)
def Me(o m:TE):TE:=λσ H Q=>o σ H λx d=>∃c,x= .c c/\if c=Nf then m σ d Q else Q (.c Ni) d
theorem JK{op}(h:PE X a t):PE X (.BoolOp op [a] k) t:=λai s σ H Q I c=>BoolOp_one (h ai s σ H Q I c)
theorem JN(p:PE X a o)(f:PE X (.BoolOp .And (b::j) k) m):PE X (.BoolOp .And (a::b::j) k) (Me o m):=by
 intro ai s σ H Q I h;refine BoolOp_and (dt (p ai s σ H _ I h) λv g ⟨x,d,e,D,l⟩=>?_);obtain⟨c,rfl,l⟩:=l;cases D;refine O9 ?_;cases c with
 |true=>exact f ai g σ d Q e l
 |false=>exact⟨.c Ni,d,e,rfl,l⟩
def tIf(t:TT)(o m:TE):TE:=λσ H Q=>t σ H λc d=>if c=Nf then o σ d Q else m σ d Q
theorem Ec(i:PT X c l)(D:PE X a o)(j:PE X b m):PE X (.IfExp c a b k) (tIf l o m):=by
 intro ai s σ H Q I h;refine wpAny_IfExp (dt (i ai s σ H _ I h) λd e ⟨f,g,p⟩=>?_);cases d with
 |true=>exact D ai e σ f Q g p
 |false=>exact j ai e σ f Q g p
def d_(K:NR)(H:Hp)(a:Nh)(xs:a0k):Prop:=
 Rd H a (.l xs)\/
  ∃(o:N3) (b:a0D) (n:Nat),K.lookup a=My o/\o.cls= .type "list"/\o.dict=Na/\o.data= .seq b n/\b.size<=NN/\az xs b.toList
def f_(K:NR)(H:Hp)(a:Nh)(j:a0k):Prop:=
 Rd H a (.t j)\/
  ∃(o:N3) (b:a0D) (n:Nat),K.lookup a=My o/\o.cls= .type "tuple"/\o.data= .seq b n/\b.size<=NN/\az j b.toList
noncomputable def absV:Nj->Option V
 | .none=>My .o
 | .bool b=>My (.c b)
 | .int i _=>My (.n i)
 | .str x _=>My (.q x)
 | .ref a=>My (.r a)
 | .type n=>My (.ty n)
 |_=>Na
theorem aS.abs(r:aS x u):absV u=My x:=by
 cases x with
 |o=>cases r;rfl
 |c _=>cases r;rfl
 |n _=>obtain⟨t,rfl⟩:=r;rfl
 |q _=>obtain⟨t,rfl⟩:=r;rfl
 |r _=>cases r;rfl
 |ty _=>cases r;rfl
theorem aS.inj(r:aS x u)(q:aS y u):x=y:=N6 (r.abs.symm.trans q.abs)
theorem az.inj:∀{a b:a0k} {j:a0g},az a j->az b j->a=b
 |_,_,_,.nil,.nil=>rfl
 |_,_,_,.cons r t,.cons r' t'=>by rw[r.inj r',az.inj t t']
end
section
variable{X:Cx}{ai:a0c}{σ:St}{H:Hp}{s:Nq}{a:Nh}{xs ys:a0k}
theorem d_.of{K:NR}(h:H a=My (.l xs)):d_ K H a xs:= .inl (.inl h)
theorem bt.list(I:bt X ai σ H s)(h:d_ X.K H a xs):∃its:a0g,az xs its/\PlainL s.heap a its.toArray/\SW xs<=NN:=by
 rcases h with h|⟨o,its,n,b,c,D,E,d,r⟩
 .obtain⟨z,its,n,r,e⟩:=h.ok I.hok
  exact⟨its,r,⟨_,n,e,rfl,rfl,rfl⟩,z⟩
 .refine⟨its.toList,r,⟨o,n,I.kIn a o b,c,D,by simpa using E⟩,?_⟩
  have e:=r.length;simp only[NG]at e;lia
theorem bt.tuple(I:bt X ai σ H s)(h:f_ X.K H a xs):∃D:a0g,az xs D/\XJ s.heap a D.toArray/\SW xs<=NN:=by
 rcases h with h|⟨o,D,n,b,c,E,d,r⟩
 .obtain⟨z,D,r,p⟩:=h.ok I.hok
  exact⟨D,r,p,z⟩
 .refine⟨D.toList,r,⟨o,I.kIn a o b,c,n,by simpa using E⟩,?_⟩
  have e:=r.length;simp only[NG]at e;lia
theorem bt.list_inj(I:bt X ai σ H s)(h:d_ X.K H a xs)(M:d_ X.K H a ys):xs=ys:=by
 obtain⟨E,r,⟨o,n,e,_,_,d⟩,_⟩:=I.list h;obtain⟨D,c,⟨f,g,b,_,_,G⟩,_⟩:=I.list M;rw[e]at b;cases b;rw[d]at G
 injection G with S _
 have:E=D:=by simpa using Ou Array.toList S
 subst this;exact r.inj c
theorem bt.tuple_inj(I:bt X ai σ H s)(h:f_ X.K H a xs)(M:f_ X.K H a ys):xs=ys:=by
 obtain⟨E,r,⟨o,e,_,n,d⟩,_⟩:=I.tuple h;obtain⟨D,c,⟨f,b,_,g,G⟩,_⟩:=I.tuple M;rw[e]at b;cases b;rw[d]at G
 injection G with S _
 have:E=D:=by simpa using Ou Array.toList S
 subst this;exact r.inj c
noncomputable abbrev Cx.wish(X:Cx)(E:a0e):Cx:={X with xe:=E}
noncomputable abbrev Cx.nox(X:Cx):Cx:=X.wish λ_ _=>False
theorem Cx.Ok.wish{X:Cx}(a:X.Ok)(E:a0e):(X.wish E).Ok:=
 ⟨a.mod,a.kind,a.glob,a.blt,a.above,a.inj,a.has,a.cab,a.hd,a.frames,a.stk,a.exf,a.bs,a.bsz,a.noex,a.exfs,a.funs,a.frf⟩
theorem Cx.Ok.f5{X:Cx}{E:a0e}(a:(X.wish E).Ok):X.Ok:=
 ⟨a.mod,a.kind,a.glob,a.blt,a.above,a.inj,a.has,a.cab,a.hd,a.frames,a.stk,a.exf,a.bs,a.bsz,a.noex,a.exfs,a.funs,a.frf⟩
variable{E:a0e}
theorem bt.wish(I:bt X ai σ H s)(E:a0e):bt (X.wish E) ai σ H s:=⟨I.ok.wish E,I.os,I.bare,I.base,I.loc,I.cell,I.free,I.freeC,I.pin,I.hok,I.len⟩
theorem bt.k4(I:bt (X.wish E) ai σ H s):bt X ai σ H s:=⟨I.ok.f5,I.os,I.bare,I.base,I.loc,I.cell,I.free,I.freeC,I.pin,I.hok,I.len⟩
theorem SP.f5{D:o_}(h:SP (X.wish E) ai D f d):SP X ai D f d:=by
 cases f with
 |next=>obtain⟨b,c,I,q⟩:=h;exact⟨b,c,I.k4,q⟩
 |brk=>obtain⟨b,c,I,q⟩:=h;exact⟨b,c,I.k4,q⟩
 |cont=>obtain⟨b,c,I,q⟩:=h;exact⟨b,c,I.k4,q⟩
 |ret u=>obtain⟨v,b,c,I,r,q⟩:=h;exact⟨v,b,c,I.k4,r,q⟩
theorem PSs.nox{a:a0T}(h:PSs X.nox a t):PSs X a t:=λai s σ H D I b=>
 OL (h ai s σ H D (I.wish _) b) (λ_ _ q=>q.f5) λ_ _ z=>PX z
variable{U:O0}{rest:a0T}{t u:TS}{e:Expr}{a:TE}{aa:SA}
noncomputable def Mb:TS:=λD σ H=>D.nx σ H
def ZK(t u:TS):TS:=λD σ H=>t {D with nx:=u D} σ H
theorem qG:PSs X [] Mb:=λ_ _ σ H _ I h=>Wu ⟨σ,H,I,h⟩
theorem c9(c:PS X U t)(d:PSs X rest u):PSs X (U::rest) (ZK t u):=by
 intro ai s σ H D I h;refine wpAny_execs_cons (dt (c ai s σ H {D with nx:=u D} I h) λf g q=>?_);cases f with
 |next=>
  obtain⟨b,i,j,q⟩:=q;exact d ai g b i D j q
 |ret v=>exact q
 |brk=>exact q
 |cont=>exact q
theorem mJ(b:PS X U t):PSs X [U] t:=by
 intro ai s σ H D I h;refine wpAny_execs_cons (dt (b ai s σ H D I h) λf c q=>?_);cases f with
 |next=>exact Wu q
 |ret v=>exact q
 |brk=>exact q
 |cont=>exact q
theorem bt.quiet{ai:a0c}{σ:St}{H:Hp}{s:Nq}(I:bt X ai σ H s):interactive X.e=Ni:=by simp[interactive,I.ok.kind]
def oV(a:TE):TS:=λD σ H=>a σ H λ_ b=>D.nx σ b
theorem dY(b:PE X e a)(t:Tg e Na aa.line X.e=P3 Ni:=by rfl):PS X (.Expr e aa) (oV a):=by
 intro ai s σ H D I h;exact wpAny_Expr_any (dt (b ai s σ H _ I h) λv f ⟨x,c,d,E,u⟩=>⟨σ,c,d,u⟩) I.quiet t
def DQ(a:TE):TS:=λD σ H=>a σ H D.rt
theorem aB(b:PE X e a):PS X (.Return (My e) aa) (DQ a):=by
 intro ai s σ H D I h;exact wpAny_Return_some (dt (b ai s σ H _ I h) λv f ⟨x,c,d,t,u⟩=>⟨x,σ,c,d,t,u⟩)
def ZN(c:TT)(t u:TS):TS:=λD σ H=>c σ H λb d=>if b=Nf then t D σ d else u D σ d
theorem GK{a b:a0T}(j:PT X c tc)(E:PSs X a t)(k:PSs X b u):PS X (.If c a b aa) (ZN tc t u):=by
 intro ai s σ H D I h;refine wpAny_If (dt (j ai s σ H _ I h) λd f ⟨g,i,e⟩=>?_);cases d with
 |true=>exact E ai f σ g D i e
 |false=>exact k ai f σ g D i e
abbrev TG:=V->St->Hp->(St->Hp->Prop)->Prop
abbrev L_:=a0k->St->Hp->(St->Hp->Prop)->Prop
def PG(X:Cx)(b:Expr)(t:TG):Prop:=
 ∀(ai:a0c) (s:Nq) (σ:St) (H:Hp) (v:V) (u:Nj) (Q:a0G),bt X ai σ H s->aS v u->t v σ H Q->
  ND (N0 X.p X.w) X.A (TR b X.e u) (λ_ a=>∃c d,bt X ai c d a/\Q c d) X.xe s
def Zy(X:Cx)(d:List Expr)(t:L_):Prop:=
 ∀(ai:a0c) (s:Nq) (σ:St) (H:Hp) (a:a0k) (e:a0g) (Q:a0G),bt X ai σ H s->az a e->t a σ H Q->
  ND (N0 X.p X.w) X.A (assignInOrder ((UI d X.e).map (·.2)) e) (λ_ u=>∃b c,bt X ai b c u/\Q b c) X.xe s
abbrev Gb:=V->V->V->Hp->(Hp->Prop)->Prop
def Gc(X:Cx)(t:Gb):Prop:=
 ∀(ai:a0c) (s:Nq) (σ:St) (H:Hp) (o i v:V) (b c u:Nj) (Q:Hp->Prop),bt X ai σ H s->aS o b->aS i c->aS v u->t o i v H Q->
  ND (N0 X.p X.w) X.A (setItem b c u) (λ_ a=>∃d,bt X ai σ d a/\Q d) X.xe s
abbrev Zv:=V->V->Hp->VK->Prop
def Zx(X:Cx)(a:Operator)(t:Zv):Prop:=
 ∀(ai:a0c) (s:Nq) (σ:St) (H:Hp) (x y:V) (v u:Nj) (Q:VK),bt X ai σ H s->aS x v->aS y u->t x y H Q->
  ND (N0 X.p X.w) X.A (inplaceOp a v u) (EP X ai σ Q) X.xe s
def dQ(i:Nat):TG:=λv σ H Q=>Q (σ.set i (My v)) H
theorem wN(b:X.N.Nodup)(c:X.N[i]?=My x)(a:xl X.e.scope x)(d:b0d X x:=by first|exact .inl rfl|exact .inr rfl|assumption):PG X (.Name x aa) (dQ i):=by
 intro ai s σ H v u Q I r h;exact VR (nU I b c a r (λe f=>⟨_,H,f,h⟩) d)
noncomputable def gNil:L_:=λa σ H Q=>a=[]/\Q σ H
def yH(t:TG)(u:L_):L_:=λa σ H Q=>∃v r,a=v::r/\t v σ H λb c=>u r b c Q
theorem bL:Zy X [] gNil:=by
 intro ai s σ H a t Q I r h;obtain⟨e,h⟩:=h;subst e;cases r;exact assignInOrder_nil ⟨σ,H,I,h⟩
theorem aE{e:Expr}{t:TG}{u:L_}(c:PG X e t)(d:Zy X m u)
  (a:(UI (e::m) X.e).map (·.2)=TR e X.e::(UI m X.e).map (·.2):=by rfl):Zy X (e::m) (yH t u):=by
 intro ai s σ H E G Q I r h;obtain⟨v,l,f,h⟩:=h;subst f;cases r with
 |cons r g=>
  rw[a];refine assignInOrder_cons (dt (c ai s σ H _ _ _ I r h) λ_ i ⟨b,j,k,D⟩=>?_);exact d ai i b j _ _ Q k g D
def EV(K:NR)(n:Nat)(t:L_):TG:=λv σ H Q=>∃a xs,v= .r a/\f_ K H a xs/\SW xs=n/\t xs σ H Q
theorem bX{t:L_}(g:X.calm=Nf)(h:Zy X w t)
  (D:SW (UI w X.e)=n:=by rfl) (c:(UI w X.e).findIdx? (·.1)=Na:=by rfl):PG X (.Tuple w k aa) (EV X.K n t):=by
 intro ai s σ H v u Q I r d;obtain⟨a,xs,i,j,l,d⟩:=d;subst i;cases r;obtain⟨E,f,m,q⟩:=I.tuple j;refine assign_Tuple_tuple (I.ok.hd g) m (by simp[D,<-l,f.length]) c λG M=>?_;have p:bt X ai σ H {s with heap:=G}:=I.kept (t':=s.toks) λb o e=>M b o (Ov (NU e)) e;exact h ai _ σ H xs _ Q p (by simpa using f) d
def EW(a b:TE)(t:Gb):TG:=λv σ H Q=>a σ H λo c=>b σ c λi d=>t o i v d λf=>Q σ f
theorem cX{t:Gb}(d:PE X o to)(f:PE X i z)(a:Gc X t)
  (e:∀v,TR (.Subscript o i aa) X.e v=(do
   let b <-T8 [v] (OQ o X.e)
   let c <-T8 [v,b] (OQ i X.e)
   SO aa
   T8 [v,b,c] (setItem b c v)
   release [v,b,c] []):=by intro _;rfl):PG X (.Subscript o i aa) (EW to z t):=by
 intro ai s σ H v u Q I r h;rw[e];refine M8 (OT (dt (d ai s σ H _ I h) λb g ⟨x,j,k,D,E⟩=>?_));refine M8 (OT (dt (f ai g σ j _ k E) λc l ⟨y,m,n,p,G⟩=>?_));refine M8 (Qk (M8 (OT (dt (a ai l σ m x y v b c u _ n D p r G) λ_ A ⟨q,w,K⟩=>?_))));exact wpAny_release ⟨σ,q,w,K⟩
def gm(a:TE)(g:TG):TS:=λD σ H=>a σ H λx b=>g x σ b D.nx
theorem ck{t e:Expr}{a:TE}(b:PE X e a)(c:PG X t g)(u:swapsWithSole [t] e aa.line X.e=P3 Ni:=by rfl)(d:swappedStores [t] e X.e=P3 Na:=by rfl)
  (f:(UI [t] X.e).map (·.2)=[TR t X.e]:=by rfl):PS X (.Assign [t] e aa) (gm a g):=by
 intro ai s σ H D I h;refine wpAny_Assign_stores (dt (b ai s σ H _ I h) λv i ⟨x,j,k,E,G⟩=>?_) u d;rw[f];exact dt (c ai i σ j x v _ k E G) λ_ l q=>q
theorem pC{e:Expr}{a:TE}(b:X.N.Nodup)(c:X.N[i]?=My x)(t:xl X.e.scope x)(d:PE X e a)(u:Tg e (My (.Name x pos')) aa.line X.e=P3 Ni:=by rfl)(f:b0d X x:=by first|exact .inl rfl|exact .inr rfl|assumption):
  PS X (.Assign [.Name x pos'] e aa) (gm a (dQ i)):=by
 intro ai s σ H D I h;refine wpAny_Assign_Name (dt (d ai s σ H _ I h) λv l ⟨y,g,j,E,G⟩=>?_) u;exact nU j b c t E (λm k=>⟨_,g,k,G⟩) f
def Ja(i:Nat)(a:TE)(b:Zv):TS:=λD σ H=>∃x,σ[i]?=My (My x)/\a σ H λy c=>b x y c λz d=>D.nx (σ.set i (My z)) d
theorem lN{e:Expr}{a:TE}(n:X.N.Nodup)(j:X.N[i]?=My x)(t:xl X.e.scope x)(o:PE X e a)(p:Zx X op Z)(q:b0d X x:=by first|exact .inl rfl|exact .inr rfl|assumption):
  PS X (.AugAssign (.Name x pos') op e aa) (Ja i a Z):=by
 intro ai s σ H D I h;obtain⟨v,B,h⟩:=h;obtain⟨m,G,C⟩:=I.loc;have g:Y1 X.e.scope x:=by rcases t with k|k;exact .inl k;exact .inr (.inl k)
 obtain⟨u,r,l⟩:=C i x v j B g;refine wpAny_AugAssign_Name ?_;have E:ND (N0 X.p X.w) X.A (OQ e X.e) (λw d=>ND (N0 X.p X.w) X.A (inplaceOp op u w) (λr f=>ND (N0 X.p X.w) X.A (storeName X.e x r) (λ_=>SP X ai D .next) X.xe f) X.xe d) X.xe s:=by
  refine dt (o ai s σ H _ I h) λw F ⟨y,J,L,K,M⟩=>?_;refine dt (p ai F σ J v y u w _ L r K M) λz U ⟨W,O,P,Q,S⟩=>?_;exact nU P n j t Q (λY R=>⟨_,O,R,S⟩) q
 rcases l with⟨hk,V⟩|⟨hk,c,T,b⟩
 .exact wpAny_loadName_local I.ok.kind hk G V E
 .rcases hk with hk|hk
  .exact wpAny_loadName_cell I.ok.kind hk T b E
  .rcases t with k|k
   .have:X.e.scope.names.lookup x=My .free:=hk
    rw[k]at this;cases this
   .have:X.e.scope.names.lookup x=My .free:=hk
    rw[k]at this;cases this
def ipI(f:a0N):Zv:=λx y H Q=>∃i j,x= .n i/\y= .n j/\Q (.n (f i j)) H
theorem BX:Zx X .Add (ipI λi j=>i+j):=by
 intro ai s σ H x y v u Q I a b h;obtain⟨i,j,c,d,q⟩:=h;subst c;subst d;obtain⟨t,rfl⟩:=a;obtain⟨e,rfl⟩:=b;exact iadd_int ⟨.n _,H,I.tok _,⟨_,rfl⟩,q⟩
structure It where
 go:Nat->Hp->Prop
 yld:Nat->Hp->V->Hp->Prop
 stop:Nat->Hp->Prop
def fR(X:Cx)(ai:a0c)(H:Hp)(b:Nh):Prop:=
 H b=Na/\b≠X.e.locals/\b∉X.fs/\(b∈X.ex\/X.s₀.heap.objs.size<=b)/\(∀x c,X.e.cells.lookup x=My c->c≠b)/\∀p∈X.pn++ai,p.1≠b
theorem bt.fpOk{X:Cx}{ai:a0c}{σ:St}{H f:Hp}{s:Nq}{b:Nh}(I:bt X ai σ H s)(d:s.heap.objs.size<=b)(a:f b=Na):fR X ai f b:=by
 refine⟨a,Qj (NP I.lt d),I.nofs d,.inr (NK I.sz d),λx c e z=>?_,λp g z=>?_⟩
 .obtain⟨v,q⟩:=I.cell x c e
  exact NW (NP q.lt (by rw[z];exact d)) (OB _)
 .exact NW (NP (NU (I.pin p g).1) (by rw[z];exact d)) (OB _)
structure ni (P:N9) (w:Ol) (K:NR) (tg:Expr) (J:It) (fp:a0r) (it:Nh) (tn:Nat->OO->Prop):Prop where
 mem:it∈fp
 obj:∀i h,tn i h->∀b∈fp,∃o,h.get? b=My o/\∀v,o.data≠ .cell v
 keep:∀i h h',tn i h->(∀b∈fp,∀o,h.get? b=My o->h'.get? b=My o)->tn i h'
 item:∀(X:Cx),X.p=P->X.w=w->X.K=K->X.calm=Nf->∀(i:Nat) (ai:a0c) (s:Nq) (σ:St) (H:Hp) (E:a0e),bt X ai σ H s->(∀b∈fp,fR X ai H b)->tn i s.heap->J.go i H->
  ND (N0 P w) X.A (Ru (.ref it)) (λr s1=>∃u,r=My u/\
   ND (N0 P w) X.A (TV tg (.ref it) u) (λ_ s2=>∃x H',bt X ai σ H' s2/\aS x u/\J.yld i H x H'/\tn (i+1) s2.heap/\∀b∈fp,H' b=Na) E s1) E s
 done:∀(X:Cx),X.p=P->X.w=w->X.K=K->X.calm=Nf->∀(i:Nat) (ai:a0c) (s:Nq) (σ:St) (H:Hp) (E:a0e),bt X ai σ H s->(∀b∈fp,fR X ai H b)->tn i s.heap->J.stop i H->
  ND (N0 P w) X.A (Ru (.ref it)) (λr s1=>r=Na/\bt X ai σ H s1) E s
 self:∀(A:Ot) (i:Nat) (s:Nq) (Q:a0e) (E:a0e),tn i s.heap->Q (.ref it) s->ND (N0 P w) A (UJ (.ref it)) Q E s
abbrev TI:=St->Hp->(It->Hp->Prop)->Prop
def PIE(X:Cx)(ai:a0c)(σ:St)(e:Expr)(R:It->Hp->Prop)(c:Nj)(f:Nq):Prop:=
 ∃(a:Nh) (g:a0r) (h:Nat->OO->Prop) (J:It) (d:Hp),c= .ref a/\bt X ai σ d f/\ni X.p X.w X.K e J g a h/\h 0 f.heap/\(∀b∈g,fR X ai d b)/\R J d
def PI(X:Cx)(a b:Expr)(c:TI):Prop:=
 ∀(ai:a0c) (s:Nq) (σ:St) (H:Hp) (R:It->Hp->Prop),bt X ai σ H s->c σ H R->
  ND (N0 X.p X.w) X.A (OQ b X.e) (λv d=>ND (N0 X.p X.w) X.A (UJ v) (PIE X ai σ a R) X.xe d) X.xe s
theorem tB{M:Vh}{E:a0e}{s:Nq}{u:Nj}{o:N3}(c:s.heap.get? f=My o)(d:o.cls= .type n)(a:o.data= .fields g)
  (e:["enumerate","zip","dict_itemiterator","dict_reverseitemiterator","odict_iterator","itertools.zip_longest","itertools.pairwise"].contains n=Ni) (b:Q () s):ND M A (TV i (.ref f) u) Q E s:=by
 unfold TV;cases i<;>first
  |exact Nb b
  |(cases u<;>first
   |exact Nb b
   |(refine M8 (wpAny_load c ?_)
     rw[d,a];show ND M A (if(["enumerate","zip","dict_itemiterator","dict_reverseitemiterator","odict_iterator","itertools.zip_longest","itertools.pairwise"].contains n&&g[0]?==My (Rl _))=Nf then _ else _) Q E s;rw[Nv (by intro h;rw[e,Tx]at h;cases h)];exact Nb b))
noncomputable def Y6(K:NR)(a:Nh):It:=
 ⟨λi H=>∃xs x,d_ K H a xs/\xs[i]?=My x,λi H x b=>b=H/\∀xs,d_ K H a xs->xs[i]?=My x,λi H=>∃xs,d_ K H a xs/\SW xs<=i⟩
noncomputable def Itt(K:NR)(a:Nh):It:=
 ⟨λi H=>∃xs x,f_ K H a xs/\xs[i]?=My x,λi H x b=>b=H/\∀xs,f_ K H a xs->xs[i]?=My x,λi H=>∃xs,f_ K H a xs/\SW xs<=i⟩
noncomputable def Y5(a:Int)(n:Nat):It:=⟨λi _=>i<n,λi H x b=>b=H/\x= .n (a+i),λi _=>n<=i⟩
theorem rj{K:NR}(a t:Nh):ni P w K W (Y6 K a) [t] t (λi h=>h.IsListIter t a i) where
 mem:=by simp
 obj:=λi h U b f=>by
  have e:b=t:=by simpa using f
  subst e;obtain⟨o,e,c,d⟩:=U;exact⟨o,e,λv z=>by rw[d]at z;cases z⟩
 keep:=λi h D U k=>U.at λo e=>k t (by simp) o e
 item:=by
  intro X m n q J i ai s σ H E I j U r;subst m n q;obtain⟨xs,x,l,G⟩:=r;obtain⟨M,y,p,L⟩:=I.list l;obtain⟨u,N,O⟩:=y.get G;obtain⟨A,f1,f2,B,C,F⟩:=j t (by simp);refine wpAny_pyNext_list_item U p.isList (x:=u) (by simpa using N) λD g S=>?_;have Q:bt X ai σ H {s with heap:=D}:=I.turned (t':=s.toks) (λb o f e=>(S.2 b f).trans e) A f1 B C F;obtain⟨o,e,c,d⟩:=id g;exact⟨u,rfl,tB (s:={s with heap:=D}) e c d (by decide) ⟨x,H,Q,O,⟨rfl,λys V=>by rw[I.list_inj V l];exact G⟩,g,λb f=>(j b f).1⟩⟩
 done:=by
  intro X m n q J i ai s σ H E I j U r;subst m n q;obtain⟨xs,l,G⟩:=r;obtain⟨M,y,p,L⟩:=I.list l;obtain⟨A,f1,f2,B,C,F⟩:=j t (by simp);have T:=y.length;exact wpAny_pyNext_list_end (I.ok.hd J) U p.isList (by simp;lia) λD R=>⟨rfl,I.turned (t':=s.toks) (λb o f e=>R b o f e) A f1 B C F⟩
 self:=λ_ _ _ _ _ U h=>wpAny_pyIter_listiter U h
theorem xG{K:NR}(a t:Nh):ni P w K W (Itt K a) [t] t (λi h=>h.IsTupleIter t a i) where
 mem:=by simp
 obj:=λi h U b f=>by
  have e:b=t:=by simpa using f
  subst e;obtain⟨o,e,c,d⟩:=U;exact⟨o,e,λv z=>by rw[d]at z;cases z⟩
 keep:=λi h G U k=>U.at λo e=>k t (by simp) o e
 item:=by
  intro X m n q J i ai s σ H E I j U r;subst m n q;obtain⟨xs,x,l,M⟩:=r;obtain⟨D,y,p,L⟩:=I.tuple l;obtain⟨u,N,O⟩:=y.get M;obtain⟨A,f1,f2,B,C,F⟩:=j t (by simp);refine wpAny_pyNext_tuple_item U (show s.heap.IsTuple a D.toArray from p) (x:=u) (by simpa using N) λG g S=>?_;have Q:bt X ai σ H {s with heap:=G}:=I.turned (t':=s.toks) (λb o f e=>(S.2 b f).trans e) A f1 B C F;obtain⟨o,e,c,d⟩:=id g;exact⟨u,rfl,tB (s:={s with heap:=G}) e c d (by decide) ⟨x,H,Q,O,⟨rfl,λys V=>by rw[I.tuple_inj V l];exact M⟩,g,λb f=>(j b f).1⟩⟩
 done:=by
  intro X m n q J i ai s σ H E I j U r;subst m n q;obtain⟨xs,l,M⟩:=r;obtain⟨D,y,p,L⟩:=I.tuple l;obtain⟨A,f1,f2,B,C,F⟩:=j t (by simp);have T:=y.length;exact wpAny_pyNext_tuple_end (I.ok.hd J) U (show s.heap.IsTuple a D.toArray from p) (by simp;lia) λG R=>⟨rfl,I.turned (t':=s.toks) (λb o f e=>R b o f e) A f1 B C F⟩
 self:=λ_ _ _ _ _ U h=>wpAny_pyIter_tupleiter U h
theorem xH{K:NR}(a:Nh)(u:Int)(n:Nat):ni P w K x (Y5 u n) [a] a (λi h=>UW h a (u+(i:Nat)*1) ((n:Int)-(i:Nat)) 1) where
 mem:=by simp
 obj:=λi h U b c=>by
  have e:b=a:=by simpa using c
  subst e;exact⟨_,U,λv z=>by
   have C:Data.fields _=Data.cell v:=z;cases C⟩
 keep:=λi h D U k=>k a (by simp) _ U
 item:=by
  intro X g j l m i ai s σ H E I f U p;subst g j l;obtain⟨q,f1,f2,r,y,A⟩:=f a (by simp);have W:=Walks.range (prog:=X.p) (w:=X.w) (I.ok.hd m) a u 1 n;refine W.item i s _ _ p U λv D B F d J=>?_;obtain⟨t,rfl⟩:=F;have L:bt X ai σ H {s with heap:=D,toks:=B}:=I.turned (λb o c e=>J b o (by simpa using c) e) q f1 r y A;refine⟨_,rfl,tB (s:={s with heap:=D,toks:=B}) (n:="range_iterator") d rfl rfl (by decide) ⟨.n (u+i),H,L,⟨t,?_⟩,⟨rfl,rfl⟩,d,λb c=>(f b c).1⟩⟩;rw[Int.mul_one]
 done:=by
  intro X g j l m i ai s σ H E I f U p;subst g j l;obtain⟨q,f1,f2,r,y,A⟩:=f a (by simp);exact Yo (I.ok.hd m) U (by have:n<=i:=p;lia) λD N=>⟨rfl,I.turned (t':=s.toks) (λb o c e=>N b o c e) q f1 r y A⟩
 self:=λ_ _ _ _ _ U h=>UM U h
variable{z:Expr}
def MW(K:NR)(e:TE):TI:=λσ H R=>e σ H λx b=>∃a,x= .r a/\(∃xs,d_ K b a xs)/\R (Y6 K a) b
theorem HJ(f:PE X l tl):PI X z l (MW X.K tl):=by
 intro ai s σ H R I h;refine dt (f ai s σ H _ I h) λv c ⟨x,g,d,t,u⟩=>?_;obtain⟨a,e,⟨xs,i⟩,q⟩:=u;subst e;cases t;obtain⟨D,k,p,m⟩:=d.list i;refine Ur p.isList ?_;refine⟨c.heap.objs.size,[c.heap.objs.size],_,_,g,rfl,d.kept (t':=c.toks) λb o e=>Nd _ e,rj a _,⟨_,NE _ rfl,rfl,rfl⟩,λb j=>?_,q⟩;have e:b=c.heap.objs.size:=by simpa using j
 subst e;exact d.fpOk (No _) (d.hok.fresh (No _))
theorem uN{ai:a0c}{σ:St}{H:Hp}{s:Nq}{E:a0e}{a c:Int}{t u v:Tok}(I:bt X ai σ H s)(f:-(2^62)<=a)(g:a<2^62)(h:-(2^62)<=c)(i:c<2^62)
  (q:R (Y5 a (c-a).toNat) H):ND (N0 X.p X.w) X.A (UJ (.ref s.heap.objs.size)) (PIE X ai σ z R) E {s with heap:=s.heap.push {cls:= .type "range",data:= .fields #[.int a t,.int c u,.int 1 v]},toks:=m}:=by
 refine wpAny_pyIter_range (Wq ..) (small_one f g h i) ?_;have d:bt X ai σ H {s with heap:=s.heap.push {cls:= .type "range",data:= .fields #[.int a t,.int c u,.int 1 v]},toks:=m}:=I.kept λb o e=>Nd _ e;refine⟨(s.heap.push {cls:= .type "range",data:= .fields #[.int a t,.int c u,.int 1 v]}).objs.size,[(s.heap.push {cls:= .type "range",data:= .fields #[.int a t,.int c u,.int 1 v]}).objs.size],_,_,H,rfl,
  d.kept (t':=m) λb o e=>Nd _ e,xH _ a (c-a).toNat,?_,λb j=>?_,q⟩
 .have k:a+((0:Nat):Int)*1=a:=by simp
  have l:(((c-a).toNat:Nat):Int)-((0:Nat):Int)=S6 a c 1:=by rw[rangeSize_one];split<;>lia
  show UW _ _ (a+((0:Nat):Int)*1) ((((c-a).toNat:Nat):Int)-((0:Nat):Int)) 1;rw[k,l];exact NE _ rfl
 .have e:b=(s.heap.push {cls:= .type "range",data:= .fields #[.int a t,.int c u,.int 1 v]}).objs.size:=by simpa using j
  subst e;exact d.fpOk (No _) (d.hok.fresh (No _))
def MU(b:TA):TI:=λσ H R=>b σ H λa c=>∃j:Int,a=[.n j]/\-(2^62)<=j/\j<2^62/\R (Y5 0 j.toNat) c
def MT(b:TA):TI:=λσ H R=>b σ H λa c=>∃i j:Int,a=[.n i,.n j]/\(-(2^62)<=i/\i<2^62/\-(2^62)<=j/\j<2^62)/\R (Y5 i (j-i).toNat) c
theorem AJ{a:Expr}{p aa:SA}(b:Gl X "range")(D:X.mg "range"=Na)(E:PA X [a] i)(G:NL [a] X.e=[(Ni,OQ a X.e)]:=by rfl):PI X z (.Call (.Name "range" p) [a] [] aa) (MU i):=by
 intro ai s σ H R I h;refine Call_ (fX I b D WR (OZ (dt (E aa ai s σ H _ I h) λS f ⟨U,g,c,K,u⟩=>?_) G rfl));obtain⟨j,e,u,M,q⟩:=u;subst e;cases K with
 |cons r d=>
  cases d;obtain⟨t,rfl⟩:=r;exact call_range_1 (uN c (by lia) (by lia) u M (by simpa using q))
theorem AI{a b:Expr}{p aa:SA}(f:Gl X "range")(D:X.mg "range"=Na)(E:PA X [a,b] n)(G:NL [a,b] X.e=[(Ni,OQ a X.e),(Ni,OQ b X.e)]:=by rfl)(c:NL [b] X.e=[(Ni,OQ b X.e)]:=by rfl):
  PI X z (.Call (.Name "range" p) [a,b] [] aa) (MT n):=by
 intro ai s σ H R I h;refine Call_ (fX I f D WR (OZ (dt (E aa ai s σ H _ I h) λV l ⟨o,m,g,K,u⟩=>?_) (by rw[G,c]) (by rw[c];rfl)));obtain⟨i,j,e,⟨u,M,S,U⟩,q⟩:=u;subst e;cases K with
 |cons r d=>
  cases d with
  |cons k d=>
   cases d;obtain⟨t,rfl⟩:=r;obtain⟨v,rfl⟩:=k;exact call_range_2 (uN g u M S U q)
def xL(h:TI)(g:TG)(j:TS):TS:=λD σ H=>h σ H λJ k=>∃W:Nat->Nat->St->Hp->Prop,(∃m,W 0 m σ k)/\∀i m σ H,W i m σ H->
 (J.stop i H/\D.nx σ H)\/(J.go i H/\∃N:St->Hp->Prop,(∀b c,N b c->∃f,f<m/\W (i+1) f b c)/\∀x c,J.yld i H x c->g x σ c λd l=>j {D with nx:=N,ct:=N,bk:=D.nx} d l)
noncomputable def lO(c:a0r)(h:OO):a0c:=c.filterMap λb=>(h.get? b).map λo=>(b,o)
theorem iH{h:OO}(c:b∈d)(e:h.get? b=My o):(b,o)∈lO d h:=TD.mpr ⟨b,c,by rw[e];rfl⟩
theorem AO{h:OO}{p:Nh×N3}(c:p∈lO g h):p.1∈g/\h.get? p.1=My p.2:=by
 obtain⟨b,d,e⟩:=TD.mp c;cases q:h.get? b with
 |none=>rw[q]at e;cases e
 |some o=>
  rw[q]at e;have f:(b,o)=p:=N6 e;subst f;exact⟨d,q⟩
theorem bt.pinned{ai:a0c}{σ:St}{H:Hp}{s:Nq}(I:bt X ai σ H s)(g:∀b∈k,fR X ai H b)(h:∀b∈k,∃o,s.heap.get? b=My o/\∀v,o.data≠ .cell v):bt X (ai++lO k s.heap) σ H s:=
 I.pins_of λp i=>(N4.mp i).elim (λz=>I.pin p (Oz _ z)) λz=>by
  obtain⟨c,e⟩:=AO z;obtain⟨j,f1,f2,_⟩:=g p.1 c;obtain⟨o,f,d⟩:=h p.1 c;rw[e]at f;cases f;exact⟨e,j,f1,f2,d⟩
theorem bt.h0{ai a:a0c}{σ:St}{H:Hp}{s:Nq}(I:bt X (ai++a) σ H s):bt X ai σ H s:=I.pins_of λp b=>I.pin p (Oz _ (QI _ b))
theorem bE{aa:SA}(L:PassesOwn (N0 X.p X.w) X.A X.e X.xe)(S:X.calm=Nf)(hi:PI X z iter wi)(hg:PG X z g)(j:PSs X body tb)
  (hs:∀x,OD iter X.e x=P3 x:=by intro _;rfl):PS X (.For z iter body [] aa) (xL wi g tb):=by
 intro ai s σ H D I h;refine wpAny_For (dt (hi ai s σ H _ I h) λv s1 h1=>dt h1 λab s2 h2=>?_) hs;obtain⟨it,O,V,J,H2,e,I2,T,Z,f2,W,⟨m0,w0⟩,P⟩:=h2;subst e
 --what stays Nf of the iterator's objects through the loop
 have k:∀{B:Hp},(∀b∈O,B b=Na)->∀b∈O,fR X ai B b:=λhn b j=>⟨hn b j,(f2 b j).2⟩;refine codeAny_forLoop_any (λn s'=>∃i l B,bt X ai l B s'/\V i s'.heap/\(∀b∈O,B b=Na)/\W i n l B) ?_ m0 ⟨0,σ,H2,I2,Z,λb j=>(f2 b j).1,w0⟩;rintro n s3 ⟨i,p,Y,I3,Q,R,w3⟩;rcases P i n p Y w3 with⟨a,qn⟩|⟨go,N,hN,step⟩
 .refine TW L (dt (T.done X rfl rfl rfl S i ai s3 p Y X.xe I3 (k R) Q a) λr s4 ⟨t,I4⟩=>?_)
  subst t;exact Wu ⟨p,Y,I4,qn⟩
 .refine TW L (dt (T.item X rfl rfl rfl S i ai s3 p Y X.xe I3 (k R) Q go) λr s4 ⟨u,t,h4⟩=>?_)
  subst t;refine TW L (dt h4 λ_ s5 ⟨x,H5,I5,r5,y5,F,E⟩=>?_);have G:=I5.pinned (k E) (T.obj _ _ F);refine TW L (dt (hg _ s5 p H5 x u _ G r5 (step x H5 y5)) λ_ s6 ⟨K,H6,I6,q6⟩=>?_);refine TW L (dt (j _ s6 K H6 _ I6 q6) λf M C=>?_);have Vj:∀{c:St} {q:Hp},bt X (ai++lO O s5.heap) c q M->N c q->∃m,m<n/\∃i l B,bt X ai l B M/\V i M.heap/\(∀b∈O,B b=Na)/\W i m l B:=λ{c q} y U=>by
   obtain⟨m',hm,w7⟩:=hN c q U;refine⟨m',hm,i+1,c,q,y.h0,T.keep _ _ _ F λb j o e=>(y.pin (b,o) (Oz _ (Oz _ (iH j e)))).1,λb j=>?_,w7⟩;obtain⟨o,e,d⟩:=T.obj _ _ F b j;exact(y.pin (b,o) (Oz _ (Oz _ (iH j e)))).2.1
  cases f with
  |next=>obtain⟨c,q,y,U⟩:=C;exact Vj y U
  |cont=>obtain⟨c,q,y,U⟩:=C;exact Vj y U
  |brk=>obtain⟨c,q,y,C⟩:=C;exact⟨c,q,y.h0,C⟩
  |ret v=>obtain⟨x7,c,q,y,r7,C⟩:=C;exact⟨x7,c,q,y.h0,r7,C⟩
abbrev R2:=V->V->Hp->VK->Prop
def e_(X:Cx)(f:a1b)(r:R2):Prop:=
 ∀(ai:a0c) (s:Nq) (σ:St) (H:Hp) (x y:V) (v u:Nj) (Q:VK),bt X ai σ H s->aS x v->aS y u->r x y H Q->
  ND (N0 X.p X.w) X.A (f v u) (EP X ai σ Q) X.xe s
def Zt(X:Cx)(f:Nj->WP Nj)(r:V->Hp->VK->Prop):Prop:=
 ∀(ai:a0c) (s:Nq) (σ:St) (H:Hp) (x:V) (v:Nj) (Q:VK),bt X ai σ H s->aS x v->r x H Q->
  ND (N0 X.p X.w) X.A (f v) (EP X ai σ Q) X.xe s
def c7(X:Cx)(f:Nj)(r:a0J):Prop:=
 ∀(ai:a0c) (s:Nq) (σ:St) (H:Hp) (xs:a0k) (a:a0g) (Q:VK),bt X ai σ H s->az xs a->r xs H Q->
  ND (N0 X.p X.w) X.A (Vb f a) (EP X ai σ Q) X.xe s
def TruR(X:Cx)(r:V->Hp->(Bool->Hp->Prop)->Prop):Prop:=
 ∀(ai:a0c) (s:Nq) (σ:St) (H:Hp) (x:V) (v:Nj) (Q:a0W),bt X ai σ H s->aS x v->r x H Q->
  ND (N0 X.p X.w) X.A (truthy v) (TP X ai σ Q) X.xe s
def O2(r:R2)(b c:TE):TE:=λσ H Q=>b σ H λx d=>c σ d λy f=>r x y f Q
def tUn(r:V->Hp->VK->Prop)(b:TE):TE:=λσ H Q=>b σ H λx c=>r x c Q
def rI(C:a0X)(g:Int->Int->V):R2:=λx y H Q=>∃i j,x= .n i/\y= .n j/\C i j/\Q (g i j) H
def ri(g:Int->Int->V):R2:=λx y H Q=>∃i j,x= .n i/\y= .n j/\Q (g i j) H
def rU(g:Int->V):V->Hp->VK->Prop:=λx H Q=>∃i,x= .n i/\Q (g i) H
end
section
variable{X:Cx}{a b c:Expr}{ta tb tc:TE}{aa:SA}
theorem Fb(c:PE X a ta)(m:PE X b tb){d:a0c}{s:Nq}{e:St}{H:Hp}{R:V->V->Hp->Prop}(I:bt X d e H s)
  (h:ta e H λx l=>tb e l λy g=>R x y g) {Q:a0e} {f:a1b}
  (n:∀v u k x y g,bt X d e g k->aS x v->aS y u->R x y g->ND (N0 X.p X.w) X.A (f v u) Q X.xe k):
  ND (N0 X.p X.w) X.A (OQ a X.e) (λv i=>ND (N0 X.p X.w) X.A (OQ b X.e) (λu j=>ND (N0 X.p X.w) X.A (f v u) Q X.xe j) X.xe i) X.xe s:=by
 refine dt (c d s e H _ I h) λv o ⟨x,l,p,D,E⟩=>?_;refine dt (m d o e l _ p E) λu k ⟨y,g,q,r,G⟩=>?_;exact n v u k x y g q D r G
theorem dP(e:e_ X (QG op) r)(c:PE X a ta)(f:PE X b tb):PE X (.BinOp a op b aa) (O2 r ta tb):=by
 intro d s g H Q I h;exact wpAny_BinOp (Fb c f I h λv u i x y j k l m q=>e d i g j x y v u Q k l m q)
theorem Mp(f:Zt X (unaryOp op) r)(b:PE X a ta):PE X (.UnaryOp op a aa) (tUn r ta):=by
 intro d s e H Q I h;exact UnaryOp_ (dt (b d s e H _ I h) λv g ⟨x,i,j,c,D⟩=>f d g e i x v Q j c D)
theorem n_{f:a1b}{C:a0X}{g:a0N}
  (d:∀(i j:Int) (t u:Tok) (s:Nq) (Q:a0e) (E:a0e),C i j->Q (.int (g i j) s.toks) {s with toks:=s.toks+1}->ND (N0 X.p X.w) X.A (f (.int i t) (.int j u)) Q E s):
  e_ X f (rI C λi j=> .n (g i j)):=by
 intro e s n H x y v u Q I k l h;obtain⟨i,j,rfl,rfl,m,q⟩:=h;obtain⟨t,rfl⟩:=k;obtain⟨a,rfl⟩:=l;exact d i j t a s _ _ m ⟨.n (g i j),H,I.tok _,⟨_,rfl⟩,q⟩
theorem JV{f:a1b}{g:a0N}
  (d:∀(i j:Int) (t u:Tok) (s:Nq) (Q:a0e) (E:a0e),Q (.int (g i j) s.toks) {s with toks:=s.toks+1}->ND (N0 X.p X.w) X.A (f (.int i t) (.int j u)) Q E s):
  e_ X f (ri λi j=> .n (g i j)):=by
 intro e s m H x y v u Q I k l h;obtain⟨i,j,rfl,rfl,q⟩:=h;obtain⟨t,rfl⟩:=k;obtain⟨a,rfl⟩:=l;exact d i j t a s _ _ ⟨.n (g i j),H,I.tok _,⟨_,rfl⟩,q⟩
theorem x9{f:a1b}{g:Int->Int->Bool}
  (d:∀(i j:Int) (t u:Tok) (s:Nq) (Q:a0e) (E:a0e),Q (.bool (g i j)) s->ND (N0 X.p X.w) X.A (f (.int i t) (.int j u)) Q E s):
  e_ X f (ri λi j=> .c (g i j)):=by
 intro e s m H x y v u Q I k l h;obtain⟨i,j,rfl,rfl,q⟩:=h;obtain⟨t,rfl⟩:=k;obtain⟨a,rfl⟩:=l;exact d i j t a s _ _ ⟨.c (g i j),H,I,rfl,q⟩
def CDiv(i j:Int):Prop:=0<j/\j<1073741824
def CPow(i j:Int):Prop:=0<=j/\j<=1000000/\i.natAbs<2^64
def Ge(i j:Int):Prop:=(-(2^64)<i/\i<2^64)\/(-(2^64)<j/\j<2^64)
theorem Ge.ok(h:Ge i j):IntMulOk i j:=by
 rcases h with⟨d,e⟩|⟨d,e⟩
 .exact .of_left (intBits_le_64 d e)
 .exact .of_right (intBits_le_64 d e)
theorem pG:e_ X (QG .Add) (ri λi j=> .n (i+j)):=JV λ_ _ _ _ _ _ _ q=>add_int q
theorem dG:e_ X (QG .Sub) (ri λi j=> .n (i-j)):=JV λ_ _ _ _ _ _ _ q=>sub_int q
theorem JS:e_ X (QG .Mult) (rI Ge λi j=> .n (i*j)):=n_ λ_ _ _ _ _ _ _ d q=>mul_int q d.ok
theorem wP:e_ X (QG .FloorDiv) (rI CDiv λi j=> .n (i/j)):=n_ λi j _ _ _ _ _ d q=>by
 have e:(0:Int)<j:=d.1;have f:j<1073741824:=d.2;exact floordiv_int (by lia) (by rw[TL i (by lia)];exact q) (.inl (PyProof.noPylong_small (by lia)))
theorem lQ:e_ X (QG .Mod) (rI (λ_ j=>0<j) λi j=> .n (i % j)):=n_ λi j _ _ _ _ _ d q=>by
 have e:(0:Int)<j:=d;exact mod_int' (by lia) (by rw[Int.fmod_eq_emod_of_nonneg i (by lia)];exact q)
theorem JQ:e_ X (QG .Pow) (rI CPow λi j=> .n (i^j.toNat)):=n_ λ_ _ _ _ _ _ _ d q=>pow_int_small d.1 d.2.1 d.2.2 q
theorem unI{f:Nj->WP Nj}{g:Int->Int}
  (d:∀(i:Int) (t:Tok) (s:Nq) (Q:a0e) (E:a0e),Q (.int (g i) s.toks) {s with toks:=s.toks+1}->ND (N0 X.p X.w) X.A (f (.int i t)) Q E s):
  Zt X f (rU λi=> .n (g i)):=by
 intro e s k H x v Q I j h;obtain⟨i,rfl,q⟩:=h;obtain⟨t,rfl⟩:=j;exact d i t s _ _ ⟨.n (g i),H,I.tok _,⟨_,rfl⟩,q⟩
theorem oQ:Zt X (unaryOp .USub) (rU λi=> .n (-i)):=unI λ_ _ _ _ _ q=>neg_int q
noncomputable def DX:V->V->Bool
 | .o,.o=>Nf| .o,.n _=>Nf| .n _,.o=>Nf| .o,.c _=>Nf| .c _,.o=>Nf| .o,.q _=>Nf| .q _,.o=>Nf
 | .n _,.n _=>Nf| .c _,.c _=>Nf| .q _,.q _=>Nf
 | .n _,.q _=>Nf| .q _,.n _=>Nf| .c _,.q _=>Nf| .q _,.c _=>Nf
 |_,_=>Ni
noncomputable def Z0:R2:=λx y H Q=>DX x y=Nf/\Q (.c (decide (x=y))) H
noncomputable def ZY:R2:=λx y H Q=>DX x y=Nf/\Q (.c (!decide (x=y))) H
theorem xo:decide (V.n i=V.n j)=(i==j):=by
 rw[Ut];simp
theorem y3{i j:Bool}:decide (V.c i=V.c j)=(i==j):=by
 rw[Ut];simp
theorem xm:decide (V.q i=V.q j)=(i==j):=by
 rw[Ut];simp
theorem cy{k d:Bool}(I:bt X ai f H s)(q:Q (.c k) H)(e:k=d):EP X ai f Q (.bool d) s:=by
 subst e;exact⟨.c k,H,I,rfl,q⟩
theorem Mu:e_ X (OP .Eq) Z0:=by
 intro f s g H x y v u Q I e d h;obtain⟨b,q⟩:=h;cases x with
 |o=>
  cases e;cases y with
  |o=>cases d;exact PySem.EqNone.eq_none_none (cy I q (by simp))
  |c j=>cases d;exact PySem.EqNone.eq_none_bool (cy I q (by simp))
  |n j=>obtain⟨a,rfl⟩:=d;exact PySem.EqNone.eq_none_int (cy I q (by simp))
  |q j=>obtain⟨a,rfl⟩:=d;exact PySem.EqNone.eq_none_str (cy I q (by simp))
  |_=>exact NW (show Ni=Nf from b) Nz
 |c i=>
  cases e;cases y with
  |o=>cases d;exact PySem.EqNone.eq_bool_none (cy I q (by simp))
  |c j=>cases d;exact eq_bool (cy I q y3)
  |q j=>obtain⟨a,rfl⟩:=d;exact PySem.EqMixed.eq_bool_str (cy I q (by simp))
  |_=>exact NW (show Ni=Nf from b) Nz
 |n i=>
  obtain⟨t,rfl⟩:=e;cases y with
  |o=>cases d;exact PySem.EqNone.eq_int_none (cy I q (by simp))
  |n j=>obtain⟨a,rfl⟩:=d;exact eq_int (cy I q xo)
  |q j=>obtain⟨a,rfl⟩:=d;exact PySem.EqMixed.eq_int_str (cy I q (by simp))
  |_=>exact NW (show Ni=Nf from b) Nz
 |q i=>
  obtain⟨t,rfl⟩:=e;cases y with
  |o=>cases d;exact PySem.EqNone.eq_str_none (cy I q (by simp))
  |c j=>cases d;exact PySem.EqMixed.eq_str_bool (cy I q (by simp))
  |n j=>obtain⟨a,rfl⟩:=d;exact PySem.EqMixed.eq_str_int (cy I q (by simp))
  |q j=>obtain⟨a,rfl⟩:=d;exact eq_str (cy I q xm)
  |_=>exact NW (show Ni=Nf from b) Nz
 |_=>cases y<;>exact NW (show Ni=Nf from b) Nz
theorem Ms:e_ X (OP .NotEq) ZY:=by
 intro f s g H x y v u Q I e d h;obtain⟨b,q⟩:=h;cases x with
 |o=>
  cases e;cases y with
  |o=>cases d;exact PySem.EqNone.ne_none_none (cy I q (by simp))
  |c j=>cases d;exact PySem.EqNone.ne_none_bool (cy I q (by simp))
  |n j=>obtain⟨a,rfl⟩:=d;exact PySem.EqNone.ne_none_int (cy I q (by simp))
  |q j=>obtain⟨a,rfl⟩:=d;exact PySem.EqNone.ne_none_str (cy I q (by simp))
  |_=>exact NW (show Ni=Nf from b) Nz
 |c i=>
  cases e;cases y with
  |o=>cases d;exact PySem.EqNone.ne_bool_none (cy I q (by simp))
  |c j=>cases d;exact ne_bool (cy I q (Ou not y3))
  |q j=>obtain⟨a,rfl⟩:=d;exact PySem.EqMixed.ne_bool_str (cy I q (by simp))
  |_=>exact NW (show Ni=Nf from b) Nz
 |n i=>
  obtain⟨t,rfl⟩:=e;cases y with
  |o=>cases d;exact PySem.EqNone.ne_int_none (cy I q (by simp))
  |n j=>obtain⟨a,rfl⟩:=d;exact ne_int (cy I q (Ou not xo))
  |q j=>obtain⟨a,rfl⟩:=d;exact PySem.EqMixed.ne_int_str (cy I q (by simp))
  |_=>exact NW (show Ni=Nf from b) Nz
 |q i=>
  obtain⟨t,rfl⟩:=e;cases y with
  |o=>cases d;exact PySem.EqNone.ne_str_none (cy I q (by simp))
  |c j=>cases d;exact PySem.EqMixed.ne_str_bool (cy I q (by simp))
  |n j=>obtain⟨a,rfl⟩:=d;exact PySem.EqMixed.ne_str_int (cy I q (by simp))
  |q j=>obtain⟨a,rfl⟩:=d;exact ne_str (cy I q (Ou not xm))
  |_=>exact NW (show Ni=Nf from b) Nz
 |_=>cases y<;>exact NW (show Ni=Nf from b) Nz
theorem pF:e_ X (OP .Lt) (ri λi j=> .c (decide (i<j))):=x9 λ_ _ _ _ _ _ _ q=>lt_int q
theorem kF:e_ X (OP .LtE) (ri λi j=> .c (decide (i<=j))):=x9 λ_ _ _ _ _ _ _ q=>le_int q
theorem x8:e_ X (OP .Gt) (ri λi j=> .c (decide (j<i))):=x9 λ_ _ _ _ _ _ _ q=>gt_int q
theorem Mt:e_ X (OP .GtE) (ri λi j=> .c (decide (j<=i))):=x9 λ_ _ _ _ _ _ _ q=>ge_int q
theorem uW:e_ X (OP .Is) (λx y H Q=>y= .o/\Q (.c (decide (x= .o))) H):=by
 intro d s g H x y v u Q I e f h;obtain⟨rfl,q⟩:=h;cases f;refine is_none_gen (cy I q ?_);cases x<;>first
  |(cases e;rfl)
  |(obtain⟨t,rfl⟩:=e;rfl)
theorem e_.or(h:e_ X f r)(a:e_ X f j):e_ X f (λx y H Q=>r x y H Q\/j x y H Q):=by
 intro d s e H x y v u Q I g i q;rcases q with q|q
 .exact h d s e H x y v u Q I g i q
 .exact a d s e H x y v u Q I g i q
theorem u3(b:Expr)(h:op≠ .In:=by decide)(d:op≠ .NotIn:=by decide):Ts op b=Ni:=by
 have e:(op==CmpOp.In)=Ni:=by cases op<;>first|rfl|exact NW rfl h
 have f:(op==CmpOp.NotIn)=Ni:=by cases op<;>first|rfl|exact NW rfl d
 cases b<;>simp[Ts,e,f]
theorem HN(e:e_ X (OP op) r)(c:PE X a ta)(f:PE X b tb)(D:Ts op b=Ni):PE X (.Compare a [op] [b] aa) (O2 r ta tb):=by
 intro d s g H Q I h;exact wpAny_Compare1 (Fb c f I h λv u i x y j k l m q=>e d i g j x y v u Q k l m q) D
def xJ(t:TE):TT:=λd H Q=>t d H λx e=>∃k,x= .c k/\Q k e
theorem wH(g:e_ X (OP op) r)(D:PE X a ta)(i:PE X b tb)(E:Ts op b=Ni):PT X (.Compare a [op] [b] aa) (xJ (O2 r ta tb)):=by
 intro d s f H Q I h;refine wpAny_isTrue_Compare1 (dt (D d s f H _ I h) λv j ⟨x,l,m,G,K⟩=>dt (i d j f l _ m K) λu n ⟨y,o,p,q,M⟩=>
  dt (g d n f o x y v u _ p G q M) λc B ⟨z,t,w,A,k,e,S⟩=>?_) E
 subst e;cases A;exact O9 ⟨t,w,S⟩
def zw(r f:R2)(ta tb tc:TE):TE:=λd H Q=>ta d H λx g=>tb d g λy h=>r x y h λz e=>∃k,z= .c k/\
 (if k=Nf then tc d e λi j=>f y i j Q else Q (.c Ni) e)
theorem D5(n:e_ X (OP op) r)(i:e_ X (OP op') r')(E:PE X a ta)(o:PE X b tb)(p:PE X c tc)
  (G:X3 [op,op'] [b,c]=Ni:=by with_unfolding_all rfl):PT X (.Compare a [op,op'] [b,c] aa) (xJ (zw r r' ta tb tc)):=by
 intro f s g H Q I h;refine isTrue_chain (dt (E f s g H _ I h) λv q ⟨x,t,w,K,M⟩=>test_link (dt (o f q g t _ w M) λu A ⟨y,B,C,j,S⟩=>
  dt (n f A g B x y v u _ C K j S) λd F ⟨z,l,m,J,k,e,D⟩=>?_)) G
 subst e;cases J;refine O9 ?_;cases k with
 |false=>
  obtain⟨k',L,N⟩:=D;cases L;exact ite_ff ⟨l,m,N⟩
 |true=>
  refine ite_tt (test_last (dt (p f F g l _ m D) λO P ⟨R,T,U,W,V⟩=>dt (i f P g T y R u O _ U j W V) λd' s5 ⟨z2,Y,Z,r5,k2,e2,q5⟩=>?_));subst e2;cases r5;exact O9 ⟨Y,Z,q5⟩
def Ga(K:NR)(x:V)(H:Hp)(k:Bool):Prop:=
 match x with
 | .o=>k=Ni
 | .c b=>k=b
 | .n i=>k=(i !=0)
 | .q y=>y.length<=NN/\k=((y.length:Int) !=0)
 | .r p=>(∃a,d_ K H p a/\k=!a.isEmpty)\/∃a,f_ K H p a/\k=!a.isEmpty
 |_=>False
theorem pU(r:az e d):(!d.toArray.isEmpty)=!e.isEmpty:=by
 cases r<;>simp
theorem jZ:(NN:Nat)<2^63:=by rw[Ps];decide
theorem IV:TruR X (λx H Q=>∃k,Ga X.K x H k/\Q k H):=by
 intro j s m H x v Q I f h;obtain⟨k,e,q⟩:=h;have n:=jZ;have G:NN=16777216:=Ps;cases x with
 |o=>
  cases f;have d:k=Ni:=e;subst d;exact truthy_none ⟨H,I,q⟩
 |c b=>
  cases f;have d:k=b:=e;subst d;exact O9 ⟨H,I,q⟩
 |n i=>
  obtain⟨t,rfl⟩:=f;have d:k=(i !=0):=e;subst d;exact PySem.P.truthy_int ⟨H,I,q⟩
 |q y=>
  obtain⟨t,rfl⟩:=f;obtain⟨M,d⟩:y.length<=NN/\k=((y.length:Int) !=0):=e;subst d;exact PySem.P.truthy_str (by lia) ⟨H,I.tok _,q⟩
 |r p=>
  cases f;have d:(∃a,d_ X.K H p a/\k=!a.isEmpty)\/∃a,f_ X.K H p a/\k=!a.isEmpty:=e;rcases d with⟨a,c,d⟩|⟨a,c,d⟩
  .subst d
   obtain⟨D,r,E,l⟩:=I.list c;have g:=r.length;exact wpAny_truthy_list E.isList (by simp only[NM];lia) ⟨H,I.tok _,by rw[pU r];exact q⟩
  .subst d
   obtain⟨D,r,E,l⟩:=I.tuple c;have g:=r.length;exact truthy_tuple E (by simp only[NM];lia) ⟨H,I.tok _,by rw[pU r];exact q⟩
 |_=>exact(show False from e).elim
theorem D4(b:PE X a ta)(i:∀d,isTrue a X.e d=(do let v <-d;SO a.pos;T8 [v] (truthy v))):
  PT X a (λf H Q=>ta f H λx g=>∃k,Ga X.K x g k/\Q k g):=by
 intro e s f H Q I h;exact isTrue_plain (dt (b e s f H _ I h) λv j ⟨x,l,m,c,D⟩=>IV e j f l x v Q m c D) (i _)
theorem jo(r:az [x] e):∃u,e=[u]/\aS x u:=by
 cases r with
 |cons a d=>cases d;exact⟨_,rfl,a⟩
theorem xD(r:az [x,y] h):∃u d,h=[u,d]/\aS x u/\aS y d:=by
 cases r with
 |cons a e=>
  cases e with
  |cons f g=>cases g;exact⟨_,_,rfl,a,f⟩
theorem E6:c7 X (.builtin "abs") (λxs H Q=>∃i,xs=[.n i]/\Q (.n (if i<0 then -i else i)) H):=by
 intro d s e H xs a Q I r h;obtain⟨i,rfl,q⟩:=h;obtain⟨u,rfl,t,rfl⟩:=jo r;exact call_abs_int λu f=>⟨.n (if i<0 then -i else i),H,I.tok _,⟨_,rfl⟩,q⟩
theorem sB(f:X.calm=Nf):c7 X (.builtin "max") (λa H Q=>∃i j,a=[.n i,.n j]/\Q (.n (if j>i then j else i)) H):=by
 intro e s g H a b Q I r h;obtain⟨i,j,rfl,q⟩:=h;obtain⟨u,l,rfl,⟨t,rfl⟩,⟨c,rfl⟩⟩:=xD r;refine max_two_ints (I.ok.hd f) λD m k=>⟨_,H,I.kept k,?_,q⟩;by_cases d:j>i
 .rw[Nu d,Nu d];exact⟨_,rfl⟩
 .rw[Nv d,Nv d];exact⟨_,rfl⟩
theorem jE(f:X.calm=Nf):c7 X (.builtin "min") (λa H Q=>∃i j,a=[.n i,.n j]/\Q (.n (if j<i then j else i)) H):=by
 intro e s g H a b Q I r h;obtain⟨i,j,rfl,q⟩:=h;obtain⟨u,l,rfl,⟨t,rfl⟩,⟨c,rfl⟩⟩:=xD r;refine min_two_ints (I.ok.hd f) λD m k=>⟨_,H,I.kept k,?_,q⟩;by_cases d:j<i
 .rw[Nu d,Nu d];exact⟨_,rfl⟩
 .rw[Nv d,Nv d];exact⟨_,rfl⟩
structure s9 (h:OO) (x dx C:Nh) (mA:a0i):Prop where
 obj:h.get? x=My (U5 C dx)
 ns:h.Ns1 dx mA
 ne:dx≠x
theorem BB{h:OO}(n:h.Ns1 k mA):∃f,h.get? k=My f/\∀b,lookIn b f=My (mA b):=by
 obtain⟨o,c,K,g,D,i,_,E⟩:=n;refine⟨o,g,λb=>?_⟩;have e:=E b;unfold nsFind findBy at e;rw[<-Array.find?_toList]at e;unfold lookIn;rw[D]
 dsimp only
 split
 .rename_i y q
  rw[q]at e;exact Ou My e
 .rename_i q
  rw[q]at e;have a:c.toList.any (·.refKey)=Ni:=by
   rw[Yc];intro y G;obtain⟨z,t,d⟩:=i y (Array.mem_toList_iff.mp G);simp[DictEntry.refKey,d]
  have j:¬c.toList.any (·.refKey)=Nf:=by rw[a];exact Nz
  rw[Nv j];exact Ou My e
theorem s9.f5(I:s9 h x e C mA):∃d,PySem.W.InstAt h x (U5 C e) C (My d)/\∀a,lookIn a d=My (mA a):=
 let ⟨d,ho,hl⟩:=BB I.ns
 ⟨d,⟨I.obj,rfl,rfl,ho⟩,hl⟩
variable{z:N9}{w:Ol}{A:Ot}{E:a0e}{s:Nq}{K:NR}{x N C f:Nh}{L:a0i}{c:Oi}{v:Nj}
theorem Iq{d:Bool}(X:K.In s.heap)(I:s9 s.heap x N C L)(g:plainGet K C c=Nf)(i:hasDictIn K C=Nf)
  (a:Su K (.ref C) c=My Na) (j:L c=My v) (e:Xv v=Nf) (h:Q v {s with toks:=s.toks+1}):
  ND (N0 z w) A (getAttr (.ref x) c d) Q E s:=by
 obtain⟨l,J,k⟩:=I.f5;exact PySem.W.get_value X J (plainGet_of g).1 (PySem.W.findObj_own i a rfl (by rw[k,j])) e h
theorem EU(X:K.In s.heap)(I:s9 s.heap x N C L)(d:plainGet K C c=Nf)
  (e:Su K (.ref C) c=My (My (.ref f))) (g:isFn K (.ref f)=Nf) (i:L c=Na) (h:Q (.ref f,[.ref x]) s):
  ND (N0 z w) A (X2 (.ref x) c l) Q E s:=by
 obtain⟨j,J,k⟩:=I.f5;exact PySem.W.method_fn X J (plainGet_of d).1 (plainGet_of d).2 e (beq_iff_eq.mp g) (by show(lookIn c j).map (·.isSome)=My Ni;rw[k,i];rfl) h
theorem Hv{D:a0j}(X:K.In s.heap)(I:s9 s.heap x N C L)
  (G:Su K (.ref C) "__setattr__"=My (My (.builtin "object.__setattr__"))) (l:Xg K C=Nf) (m:takerIn K C c=My Na) (n:hasDictIn K C=Nf)
  (o:UX L D) (p:SW D<=NN)
  (h:∀f,s9 f x N C (λy=>if y=c then My v else L y)->Oa N s.heap f->Q () {s with heap:=f,toks:=s.toks+2}):
  ND (N0 z w) A (setAttr (.ref x) c v) Q E s:=by
 obtain⟨B,J,F⟩:=I.f5;refine PySem.W.set_plain X J G (PySem.W.osa_open (s:={s with toks:=s.toks+1}) (r:=Na) X J l m λb=>?_);obtain⟨S,q,g⟩:=PySem.W.any_some n;have M:s.heap.get? x=My ⟨.ref C,My N,.plain,#[]⟩:=I.obj;refine M8 (Nb (M8 (M8 (wpAny_loadPart M (M8 (PySem.W.Looks.here (s:={s with toks:=s.toks+1}) (PySem.W.looks_clsIn X q) ?_))))));rw[g];refine Nb (a:=My N) (M8 (Nb (M8 ?_)));refine wpAny_nsSet1 (s:={s with toks:=s.toks+1}) I.ns λf d e=>?_;obtain⟨H,t,u,i,j,k⟩:=d.count (UX.cons c v o);refine M8 (wpAny_lookBehind i (by rw[j];exact pastItsLine_dict (NK k (by rw[NB];lia))) ?_);exact Nb (h _ ⟨(e.2 _ (Ne.symm I.ne)).trans I.obj,d,I.ne⟩ e)
theorem Ep(X:K.In s.heap)(b:XR K C=Nf)
  (e:Su K (.ref C) "__init__"=My (My (.ref f))) (i:PySem.W.typeIn K (.ref f)=My (.type "function"))
  (h:Sh (N0 z w) (A.under (.builtin "type.__call__" ⟨.ref C::k,kw⟩)) (.call (.ref f) ⟨.ref (s.heap.objs.size+1)::k,kw⟩) (PySem.W.InitBack (s.heap.objs.size+1) R)
   {s with heap:=(s.heap.push Te).push (U5 C s.heap.objs.size)}):
  Sh (N0 z w) A (.call (.ref C) ⟨k,kw⟩) R s:=by
 obtain⟨j,g,d,t,c⟩:=s;exact PySem.W.make_core (PySem.W.makes_of X b) (PySem.W.looks_findIn X e) (λa=>PySem.W.bind_fn X a i) (.inl rfl) h
noncomputable def dX(f:Oi)(v:V):a0F->a0F
 |[]=>[(f,v)]
 |(g,x)::r=>if g=f then(g,v)::r else(g,x)::dX f v r
theorem nE(f g:Oi)(v:V):∀a:a0F,(dX f v a).lookup g=if g=f then My v else a.lookup g
 |[]=>by
  show SX g [(f,v)]=_;by_cases h:g=f
  .have d:(g==f)=Nf:=beq_iff_eq.mpr h
   simp only[SX,d,Nu h]
  .have d:(g==f)=Ni:=Uy.mpr h
   simp only[SX,d,Nv h]
 |(k,x)::r=>by
  have b:=nE f g v r;rw[show dX f v ((k,x)::r)=(if k=f then(k,v)::r else(k,x)::dX f v r)from rfl];by_cases i:k=f
  .rw[Nu i]
   by_cases h:g=k
   .have d:(g==k)=Nf:=beq_iff_eq.mpr h
    simp only[SX,d,Nu (h.trans i)]
   .have d:(g==k)=Ni:=Uy.mpr h
    simp only[SX,d,Nv (λe:g=f=>h (e.trans i.symm))]
  .rw[Nv i]
   by_cases h:g=k
   .have d:(g==k)=Nf:=beq_iff_eq.mpr h
    simp only[SX,d,Nv (λe:g=f=>i (h.symm.trans e))]
   .have d:(g==k)=Ni:=Uy.mpr h
    simp only[SX,d];exact b
theorem lW(f:Oi)(v:V):∀a:a0F,f∈(dX f v a).map (·.1)/\∀g,g∈a.map (·.1)->g∈(dX f v a).map (·.1)
 |[]=>⟨by simp[dX],λg h=>by simp at h⟩
 |(k,x)::r=>by
  obtain⟨i,i2⟩:=lW f v r;rw[show dX f v ((k,x)::r)=(if k=f then(k,v)::r else(k,x)::dX f v r)from rfl];by_cases d:k=f
  .rw[Nu d]
   subst d;exact⟨by simp,λg h=>by simpa using h⟩
  .rw[Nv d]
   refine⟨?_,λg h=>?_⟩
   .rw[NI]
    exact Nk _ i
   .rw[NI]at h⊢
    rcases NC.mp h with e|e
    .exact NC.mpr (.inl e)
    .exact Nk _ (i2 g e)
theorem nF(f:Oi)(v:V):∀a:a0F,SW (dX f v a)<=SW a+1
 |[]=>by simp[dX]
 |(k,x)::r=>by
  have b:=nF f v r;rw[show dX f v ((k,x)::r)=(if k=f then(k,v)::r else(k,x)::dX f v r)from rfl];by_cases d:k=f
  .rw[Nu d,NB,NB];lia
  .rw[Nv d,NB,NB];lia
theorem iw.f5{v:V}(r:iw (My v) o):∃u,o=My u/\aS v u:=by
 cases o with
 |none=>exact(show False from r).elim
 |some u=>exact⟨u,rfl,r⟩
theorem iw.h0(r:iw Na o):o=Na:=by
 cases o with
 |none=>rfl
 |some u=>exact(show False from r).elim
theorem CC{v:V}(r:aS v u):Xv u=Nf:=by
 cases v with
 |o=>cases(show u=On from r);rfl
 |c b=>cases(show u=Tu b from r);rfl
 |n i=>obtain⟨t,e⟩:=(show ∃t,u=Rt i t from r);cases e;rfl
 |q x=>obtain⟨t,e⟩:=(show ∃t,u=Yh x t from r);cases e;rfl
 |r a=>cases(show u=NH a from r);rfl
 |ty n=>cases(show u=QP n from r);rfl
end
section
variable{P:N9}{w:Ol}{H l:Hp}{h h':OO}{a C dx:Nh}{N n:a0F}
theorem j4(l:j_ P w H h)(e:H a=My (.ins C dx N)):∃b,s9 h a dx C b/\(∀f,iw (N.lookup f) (b f))/\UX b (N.map (·.1))/\SW N<=1000/\H dx=My (.u a):=by
 obtain⟨d,z,D,c,b,n,r,q⟩:=(show bR P w H h a (.ins C dx N)from l a _ e);exact⟨b,⟨c,n,D⟩,r,q,z,d⟩
structure uy (K:NR) (C:Nh):Prop where
 pg:plainGet K C RH=Nf
 hd:hasDictIn K C=Nf
 po:Xg K C=Nf
 sa:Su K (.ref C) "__setattr__"=My (My (.builtin "object.__setattr__"))
theorem uy.get{K:NR}{C:Nh}(c:uy K C)(f:Oi):plainGet K C f=Nf:=c.pg
def eG(K:NR)(C:Nh)(f:Oi):Prop:=Su K (.ref C) f=My Na
theorem eG.f5{K:NR}{C:Nh}(n:eG K C f):takerIn K C f=My Na:=by
 unfold takerIn;rw[show Su K (.ref C) f=My Na from n];rfl
structure Mm (K:NR) (C:Nh) (m:Oi) (f:Nh):Prop where
 at_:Su K (.ref C) m=My (My (.ref f))
 fn:isFn K (.ref f)=Nf
 kp:Tf K (.ref f)=Nf
variable{X:Cx}{R:a0c}{L:St}{s:Nq}{f:Oi}{v:V}{A:Ot}{E:a0e}
theorem yG{b:Bool}(I:bt X R L H s)(e:H a=My (.ins C dx N))(c:uy X.K C)(n:eG X.K C f)(l:N.lookup f=My v)
  (h:∀u D,bt X R L H D->aS v u->Q u D):ND (N0 X.p X.w) A (getAttr (.ref a) f b) Q E s:=by
 obtain⟨g,O,r,_,_,_⟩:=j4 I.hok e;obtain⟨u,i,d⟩:=iw.f5 (v:=v) (o:=g f) (by rw[<-l];exact r f);exact Iq I.kIn O (c.get f) c.hd n i (CC d) (h u _ (I.tok _) d)
theorem yF(I:bt X R L H s)(e:H a=My (.ins C dx N))(c:uy X.K C)(k:Mm X.K C m g)(l:N.lookup m=Na)
  (h:Q (.ref g,[.ref a]) s):ND (N0 X.p X.w) A (X2 (.ref a) m pl) Q E s:=by
 obtain⟨b,O,r,_,_,_⟩:=j4 I.hok e;have f:b m=Na:=iw.h0 (by rw[<-l];exact r m);exact EU I.kIn O (c.get m) k.at_ k.fn f h
theorem xT(I:bt X R L H s)(e:H a=My (.ins C dx N))(c:uy X.K C)(n:eG X.K C f)(B:SW N<1000)(l:aS y u)
  (h:∀v,bt X R L (upd H a (.ins C dx (dX f y N))) v->Q () v):ND (N0 X.p X.w) A (setAttr (.ref a) f u) Q E s:=by
 obtain⟨i,O,r,j,_,k⟩:=j4 I.hok e;have m:SW (N.map (·.1))<=NN:=by rw[M9,Ps];lia
 refine Hv I.kIn O c.sa c.po n.f5 c.hd j m λh' d D=>h _ ?_;have G:∃o,h'.get? dx=My o:=let ⟨o,_,_,e',_⟩:=d.ns;⟨o,e'⟩
 refine I.write (x:=a) (e:=dx) (by rw[e];exact Rq) (.inr k) (λb q p z=>(D.2 b p).trans z) G ?_;refine⟨by rw[a_ O.ne];exact k,?_,O.ne,d.obj,_,d.ns,λg=>?_,λg t=>?_⟩
 .have:=nF f y N;lia
 .show iw ((dX f y N).lookup g) (if g=f then My u else i g)
  rw[nE];by_cases q:g=f
  .rw[Nu q,Nu q];exact l
  .rw[Nv q,Nv q];exact r g
 .by_cases q:g=f
  .rw[q];exact(lW f y N).1
  .refine(lW f y N).2 g (j g λz=>t ?_)
   show(if g=f then My u else i g)=Na;rw[Nv q];exact z
theorem bt.made(I:bt X R L H s):bt X R L (upd (upd H s.heap.objs.size (.u (s.heap.objs.size+1))) (s.heap.objs.size+1) (.ins C s.heap.objs.size []))
  {s with heap:=(s.heap.push Te).push (U5 C s.heap.objs.size)}:=by
 have c:(s.heap.push Te).get? s.heap.objs.size=My Te:=NE s.heap rfl;have d:((s.heap.push Te).push (U5 C s.heap.objs.size)).get? (s.heap.objs.size+1)=My (U5 C s.heap.objs.size):=by
  have:=NE (s.heap.push Te) (o:=U5 C s.heap.objs.size) rfl;rwa[Pj]at this
 have g:(s.heap.push Te).Ns s.heap.objs.size (λ_=>Na):=⟨Te,#[],_,c,rfl,(λe i=>NW i (by simp)),λ_=>rfl⟩;have j:=I.laid (a:=s.heap.objs.size) (o:= .u (s.heap.objs.size+1)) (h':=s.heap.push Te) (t':=s.toks) (λb u q=>Nd _ q) (No _) ⟨_,c⟩;refine j.laid (a:=s.heap.objs.size+1) (o:= .ins C s.heap.objs.size []) (t':=s.toks) (λb u q=>Nd _ q) (WL (Pj _ _)) ?_;have f:s.heap.objs.size≠s.heap.objs.size+1:=Ov (SK _);refine⟨by rw[a_ f,aw],OH _,f,d,λ_=>Na,(Heap.Ns1.of_empty g).at λo q=>Nd _ q,λ_=>Rq,λy h=>NW rfl h⟩
theorem II{w:Ol}{f:Oi}{s:Nq}(c:Tq e f d (OQ e d)=OQ e d)
  (h:ND (N0 prog w) A (OQ e d) (λo b=>ND (N0 prog w) A (getAttr o f Nf) Q E b) E s):ND (N0 prog w) A (OQ (.Attribute e f g) d) Q E s:=
 Attribute_any_ h (by rw[arm_eval_Attribute,c])
def ZO(K:NR)(c:TE)(f:Oi):TE:=λL H Q=>c L H λx b=>∃a C dx N v,x= .r a/\b a=My (.ins C dx N)/\uy K C/\eG K C f/\N.lookup f=My v/\Q v b
def Jq(K:NR)(c d:TE)(f:Oi):TS:=λD L H=>d L H λy e=>c L e λx b=>∃a C dx N,x= .r a/\b a=My (.ins C dx N)/\uy K C/\eG K C f/\SW N<1000/\
 D.nx L (upd b a (.ins C dx (dX f y N)))
variable{o e v:Expr}{O T d:SA}{z U:TE}
theorem JM(b:PE X e z)(d:Tq e f X.e (OQ e X.e)=OQ e X.e):PE X (.Attribute e f O) (ZO X.K z f):=by
 intro R s L H Q I h;refine II d (dt (b R s L H _ I h) λu r ⟨x,g,i,j,a,C,dx,N,v,o,k,c,n,l,q⟩=>?_);subst o;obtain rfl:u=NH a:=j;exact yG i k c n l λt y m p=>⟨v,g,m,p,q⟩
theorem pE(e:PE X o z)(b:PE X v U)(w:Tg v (My (.Attribute o f T)) O.line X.e=P3 Ni):PS X (.Assign [.Attribute o f T] v O) (Jq X.K z U f):=by
 intro R s L H D I h;refine plainObj_wpAny_Assign_Attribute (dt (b R s L H _ I h) λu d ⟨y,g,i,j,q⟩=>dt (e R d L g _ i q) λk B ⟨x,F,m,p,a,C,dx,N,A,r,c,n,l,E⟩=>?_) w;subst A;obtain rfl:k=NH a:=p;exact xT m r c n l j λJ t=>⟨L,_,t,E⟩
variable{Q:a0e}{c:Nj}{b:Bool}
inductive m_ (K:NR) (H:Hp):V->Nj->Prop where
 |o:m_ K H .o (.type "NoneType")
 |c (x:Bool):m_ K H (.c x) (.type "bool")
 |n (i:Int):m_ K H (.n i) (.type "int")
 |q (x:Oi):m_ K H (.q x) (.type "str")
 |l {a:Nh} {xs:a0k} (e:H a=My (.l xs)):m_ K H (.r a) (.type "list")
 |frz {a:Nh} {o:N3} {xs:a0k} (e:H a=My (.frz o (.l xs))):m_ K H (.r a) (.type "list")
 |t {a:Nh} {xs:a0k} (e:H a=My (.t xs)):m_ K H (.r a) (.type "tuple")
 |ins {a C dx:Nh} {N:a0F} (e:H a=My (.ins C dx N)) (cl:uy K C) (ha:Su K (.ref C) "__class__"=My (My (.builtin "object.__class__")))
  (hn:specialIn K (.builtin "object.__class__") "__get__"=My (My (.builtin "getset_descriptor.__get__"))) (htk:XS K (.builtin "object.__class__")=My Nf)
  (hm:PySem.W.mroIn K C (.type "object")=My Nf):m_ K H (.r a) (.ref C)
theorem BV(I:bt X R L H s)(d:aS x u)(f:m_ X.K H x t)(e:kitOne X.K t c=My b)(h:∀j,Q (.bool b) {s with toks:=j}):
  ND (N0 X.p X.w) A (Vb (.builtin "isinstance") [u,c]) Q E s:=by
 cases f with
 |o=>cases(show u=On from d);exact Uo Xf I.kIn Rq e (λz=>nomatch z) h
 |c y=>cases(show u=Tu y from d);exact Uo Xe I.kIn Rq e (λz=>nomatch z) h
 |n i=>obtain⟨t,q⟩:=(show ∃t,u=Rt i t from d);cases q;exact Uo Xw I.kIn Rq e (λz=>nomatch z) h
 |q y=>obtain⟨t,q⟩:=(show ∃t,u=Yh y t from d);cases q;exact Uo Xy I.kIn Rq e (λz=>nomatch z) h
 |@l a xs ea=>
  cases(show u=NH a from d);obtain⟨_,_,n,_,g⟩:=(show bR X.p X.w H s.heap a (.l xs)from I.hok a _ ea);exact Uo U6 I.kIn ⟨_,g,rfl⟩ e (λz=>nomatch z) h
 |@frz a ob xs ea=>
  cases(show u=NH a from d);obtain⟨_,_,_,n,_,g⟩:=(show bR X.p X.w H s.heap a (.frz ob (.l xs))from I.hok a _ ea);exact Uo U6 I.kIn ⟨_,g,rfl⟩ e (λz=>nomatch z) h
 |@t a xs ea=>
  cases(show u=NH a from d);obtain⟨_,_,_,p⟩:=(show bR X.p X.w H s.heap a (.t xs)from I.hok a _ ea);obtain⟨o,g,k,_⟩:=p;exact Uo WY I.kIn ⟨o,g,k⟩ e (λz=>nomatch z) h
 |@ins a C dx N ea cl ha hn htk hm=>
  cases(show u=NH a from d);obtain⟨l,O,_⟩:=j4 I.hok ea;obtain⟨m,J,_⟩:=O.f5;exact Uo (Xx (cl.get _) cl.hd ha hn htk hm) I.kIn J e (λz=>nomatch z) h
structure dr (k:Nat) (A:Ot):Prop where
 hd:A.handled=Na
 dp:A.depth+3*k+5<recursionLimit
 un:A.units+16*k+200<Tv
 gd:A.guards=My []
theorem dr.mono{A:Ot}(r:dr k A)(h:j<=k):dr j A:=⟨r.hd,by have:=r.dp;lia,by have:=r.un;lia,r.gd⟩
theorem dr.deeper{A:Ot}(r:dr (k+1) A)(a:Vv):dr k (A.deeper a):=
 ⟨r.hd,by have:=r.dp;show A.depth+1+3*k+5<_;lia,by have:=r.un;show A.units+3+16*k+200<_;lia,r.gd⟩
theorem yo{A:Ot}{C:Nh}:(A.under (.builtin "type.__call__" ⟨.ref C::g,kw⟩)).depth=A.depth+1:=by
 first|rfl|simp[US,Code.weight,Code.isCreation,Code.isGuard,Code.isCaller,Code.frames,Ww,guardIds]
theorem yn{A:Ot}{C:Nh}:(A.under (.builtin "type.__call__" ⟨.ref C::g,kw⟩)).units=A.units+1:=by
 first|rfl|simp[US,Code.cUnits,Code.frames,Ww]
theorem dr.make{A:Ot}(r:dr (k+1) A)(C:Nh)(a:a0g)(d:List (Oi×Nj)):dr k (A.under (.builtin "type.__call__" ⟨.ref C::a,d⟩)):=
 ⟨r.hd,by have:=r.dp;rw[yo];lia,by have:=r.un;rw[yn];lia,by first|exact r.gd|simp[US,Code.guards,Code.isGuard,guardIds,pushGuards,r.gd]⟩
theorem dr.f5{A:Ot}(r:dr k A):A.depth<recursionLimit:=by have:=r.dp;lia
theorem dr.units{A:Ot}(r:dr k A):A.units+64<Tv:=by have:=r.un;lia
noncomputable def xK:TA:=λ_ H Q=>Q [] H
def xM(z:TE)(a:TA):TA:=λL H Q=>z L H λx d=>a L d λb g=>Q (x::b) g
variable{a:List Expr}{c:TE}{t:TA}
theorem hX:PA X [] xK:=λ_ _ _ _ H Q I h=>XG ⟨[],H,I,.nil,h⟩
theorem eM(b:PE X e c)(d:PA X a t)(f:b0a X e a:=by rfl):PA X (e::a) (xM c t):=by
 intro O R s L H Q I h;rw[f];show ND _ _ (spliced ((Ni,OQ e X.e)::QR O (NL a X.e))) _ _ s;refine Xj (dt (b R s L H _ I h) λu g ⟨x,i,j,o,v⟩=>?_);exact dt (d O R g L i _ j v) λA n ⟨w,k,l,m,z⟩=>⟨x::w,k,l,.cons o m,z⟩
def ZJ(t:TA):TE:=λL H Q=>t L H λa d=>SW a<=NN/\∀p,d p=Na->Q (.r p) (upd d p (.t a))
def IY(t:TA):TE:=λL H Q=>t L H λa d=>SW a<=NN/\∀p,d p=Na->Q (.r p) (upd d p (.l a))
theorem JI{m}(h:PA X a t):PE X (.Tuple a m O) (ZJ t):=by
 intro R s L H Q I j;refine wpAny_Tuple_spliced (dt (h O R s L H _ I j) λc d ⟨f,g,i,r,z,q⟩=>⟨by rw[<-r.length];exact z,?_⟩);have k:g d.heap.objs.size=Na:=i.hok.fresh (No _);refine⟨.r d.heap.objs.size,upd g d.heap.objs.size (.t f),i.laid (t':=d.toks) (λb u e=>Nd _ e) (No _) ?_,rfl,q _ k⟩;exact⟨z,c,r,⟨_,NE _ rfl,rfl,_,rfl⟩⟩
theorem gu(h:PA X a t):PE X (.List a O) (IY t):=by
 intro R s L H Q I j;refine wpAny_List_spliced (dt (h O R s L H _ I j) λc d ⟨f,g,i,r,z,q⟩=>⟨by rw[<-r.length];exact z,?_⟩);have k:g d.heap.objs.size=Na:=i.hok.fresh (No _);refine⟨.r d.heap.objs.size,upd g d.heap.objs.size (.l f),i.laid (t':=d.toks) (λb u e=>Nd _ e) (No _) ?_,rfl,q _ k⟩;exact⟨z,c,0,r,NE _ rfl⟩
abbrev Sp:=a0k->Hp->VK->XK->Prop
abbrev F_:=a0C->Hp->Nq->XK->Nj->Nq->Prop
structure tD (P:N9) (w:Ol) (K:NR) (mg:a0i) (base:OO) (A:Ot) (outer:a0C) (s:Nq) (H:Hp):Prop where
 frames:A.frames=My outer
 mod:Mod K mg base
 bs:∀b o,base.get? b=My o->s.heap.get? b=My o/\H b=Na
 bsz:base.objs.size<=s.heap.objs.size
 funs:s.heap.FunFrames base outer
 frf:∀b∈fy outer,H b=Na
 hok:j_ P w H s.heap
 bare:TZ s.gens
def CE(a:a0C)(P:N9)(w:Ol)(H:Hp)(s:Nq)(Q:VK)(u:Nj)(b:Nq):Prop:=
 ∃v l,b.os=s.os/\TZ b.gens/\Un (fy a) [] H l s.heap b.heap/\j_ P w l b.heap/\aS v u/\Q v l
def CR(c:F_)(a:a0C)(P:N9)(w:Ol)(H:Hp)(s:Nq)(Q:VK)(E:XK)(r:Result)(b:Nq):Prop:=
 match r with
 | .ok (.ret u)=>CE a P w H s Q u b
 | .ok _=>False
 | .error e=>c a H s E e b
structure ee (P:N9) (w:Ol) (K:NR) (mg:a0i) (base:OO) (CX:F_) (k:Nat) (f:Nh) (fd:N1) (ps:a0j) (sp:Sp):Prop where
 len:∀vs H Q E,sp vs H Q E->SW vs=SW ps
 run:∀(A:Ot) (outer:a0C) (s:Nq) (H:Hp) (args:Args) (us:a0g) (vs:a0k) (Q:VK) (E:XK),dr k A->tD P w K mg base A outer s H->U4 s fd args (ps.zip us)->az vs us->sp vs H Q E->
  Sh (N0 P w) A (.call (.ref f) args) (CR CX outer P w H s Q E) s
theorem ee.mono{P:N9}{w:Ol}{K:NR}{f:Nh}(F:ee P w K g base CX j f i ps m)(h:j<=k):
  ee P w K g base CX k f i ps m:=⟨F.len,λA a s H b c e Q E d=>F.run A a s H b c e Q E (d.mono h)⟩
theorem tD.make{P:N9}{w:Ol}{K:NR}{A:Ot}{s:Nq}{H:Hp}(e:tD P w K j i A g s H)(C:Nh)(a:a0g)(d:List (Oi×Nj)):
  tD P w K j i (A.under (.builtin "type.__call__" ⟨.ref C::a,d⟩)) g s H:=⟨by first|exact e.frames|(simpa[US,Code.envs,Ww,pushEnvs]using e.frames),e.mod,e.bs,e.bsz,e.funs,e.frf,e.hok,e.bare⟩
variable{a:Nq}
theorem bt.env0(I:bt X R L H s):tD X.p X.w X.K X.mg X.base X.A X.k s H:=
 ⟨I.ok.frames,I.ok.mod,I.bs,NK I.ok.bsz I.sz,I.o9,I.stkFree,I.hok,I.bare⟩
theorem bt.after{Q:VK}(I:bt X R L H s)(h:CE X.k X.p X.w H s Q u a):EP X R L Q u a:=by
 obtain⟨v,l,f,c,n,e,r,q⟩:=h;obtain⟨j,g,d,t,i⟩:=a;obtain rfl:i=s.os:=f;exact⟨v,l,I.call (h':=j) (g':=g) (d':=d) (t':=t) (ch:=[]) n e c (λb z=>NW z (by simp)),r,q⟩
def Md(a:Sp)(d:a0k)(E:a0t)(t:TA):TE:=λL H Q=>t L H λb g=>a (b++d) g Q (E L)
def Gu(C:Nh)(m:Oi)(b:Sp)(d:a0k)(E:a0t)(z:TE)(t:TA):TE:=λL H Q=>z L H λx g=>∃a dx N,x= .r a/\g a=My (.ins C dx N)/\N.lookup m=Na/\
 t L g λc i=>b (x::(c++d)) i Q (E L)
def fG(K:NR)(d:N1)(b:a0j)(c:a0g):Prop:=
 ∀(s:Nq) (a:a0g),K.In s.heap->SW (a++c)=SW b->U4 s d ⟨a,[]⟩ (b.zip (a++c))
theorem fG.all{K:NR}{a:a0j}(h:∀us:a0g,SW us=SW a->bindArgs g ⟨us,[]⟩=P3 (a.zip us)):fG K g a []:=λs us _ d=>by
 rw[Ob]at d⊢;exact .of_eq (h us d)
def db(b:F_)(X:Cx)(E:a0t):Prop:=∀(R:a0c) (L:St) (H:Hp) (s:Nq) (e:Nj) (a:Nq),bt X R L H s->b X.k H s (E L) e a->X.xe e a
end
section
variable{X:Cx}{CX:F_}{k:Nat}{f C:Nh}{Z:N1}{ps:a0j}{sp:Sp}{O:a0k}{U:a0g}{E:a0t}{x m:Oi}{p z R:SA}{e o:Expr}{Y:List Expr}{ta:TE}{t:TA}
theorem zU(F:ee X.p X.w X.K X.mg X.base CX k f Z ps sp)(c:dr k X.A)(d:fG X.K Z ps U)(m:az O U)(o:db CX X E)
  (I:bt X ai i H s) (r:az vs us) (h:sp (vs++O) H Q (E i)):ND (N0 X.p X.w) X.A (Vb (.ref f) us) (EP X ai i Q) X.xe s:=by
 have b:az (vs++O) (us++U):=r.append m;have g:SW (us++U)=SW ps:=by rw[<-b.length];exact F.len _ _ _ _ h
 refine W3 (SM (F.run X.A X.k s H ⟨us,[]⟩ (us++U) (vs++O) Q (E i) c I.env0 (d s us I.kIn g) b h) λr p a=>?_);cases r with
 |error e=>exact o ai i H s e p I a
 |ok fl=>
  cases fl with
  |ret u=>exact I.after a
  |next=>exact PX a
  |brk=>exact PX a
  |cont=>exact PX a
theorem mM(F:ee X.p X.w X.K X.mg X.base CX k f Z ps sp)(g:dr k X.A)(i:Gl X x)(m:X.mg x=My (.ref f))(j:Tf X.K (.ref f)=Nf)(l:fG X.K Z ps U)(o:az O U)(C:db CX X E)
  (D:PA X (e::Y) t) (b:b0c x:=by decide) (n:b0a X e Y:=by rfl) (c:b0b X z Y:=by rfl):
  PE X (.Call (.Name x p) (e::Y) [] z) (Md sp O E t):=by
 intro a s u H Q I h;refine Sv (mS I i m ?_ b);refine PySem.W.callWith_K (h₀:=X.base) I.ok.mod.kin j (dt (D z a s u H _ I h) λG v ⟨M,y,d,r,q⟩=>⟨d.kIn,?_⟩) n c;exact zU F g l o C d r q
theorem Ea(g:PE X o ta)(c:uy X.K C)(e:Mm X.K C m f)(F:ee X.p X.w X.K X.mg X.base CX k f Z ps sp)(i:dr k X.A)(j:fG X.K Z ps U)(p:az O U)(t:db CX X E)
  (n:OQ (.Call (.Attribute o m R) [] [] z) X.e=(do
   let N <-OQ o X.e
   SO R.atName
   let (f,first) <-T8 [N] (X2 N m pl)
   callWith z f first (QR z (NL [] X.e)) (QE z (Pr [] X.e))):=by rfl):
  PE X (.Call (.Attribute o m R) [] [] z) (Gu C m sp O E ta xK):=by
 intro b s r H Q I h;refine PySem.W.methodCall_KW (pl:=pl) (dt (g b s r H _ I h) λu B ⟨x,J,d,v,a,L,G,D,y,l,q⟩=>?_) n;subst D;obtain rfl:u=NH a:=v;refine yF d y c e l ?_;exact PySem.W.callWith_K0 (first:=[.ref a]) d.kIn e.kp (zU (us:=[.ref a]) (vs:=[.r a]) F i j p t d (.cons rfl .nil) q)
structure Mk (K:NR) (C f:Nh):Prop where
 makes:XR K C=Nf
 init:Su K (.ref C) "__init__"=My (My (.ref f))
 fn:isFn K (.ref f)=Nf
 kp:Tf K (.ref C)=Nf
def PK(X:Cx)(b:List Wz)(t:TA):Prop:=
 ∀(z:SA) (a:a0c) (s:Nq) (c:St) (H:Hp) (Q:a0k->Hp->Prop),bt X a c H s->t c H Q->ND (N0 X.p X.w) X.A (evalAll ((QE z (Pr b X.e)).map (·.2))) (AP X a c Q) X.xe s
variable{o:a0j}{B:SA}{m:List Wz}{F:TE}{tk:TA}{J:Option Oi}
theorem JF:PK X [] xK:=λ_ _ _ _ H Q I h=>wpAny_evalAll_nil ⟨[],H,I,.nil,h⟩
theorem HI(f:PE X e F)(c:PK X m t):PK X (⟨J,e,B⟩::m) (xM F t):=by
 intro z a s b H Q I h;show ND _ _ (evalAll ((do let v <-OQ e X.e;SO z;P3 v)::(QE z (Pr m X.e)).map (·.2))) _ _ s
 refine wpAny_evalAll_cons (M8 (dt (f a s b H _ I h) λu d ⟨x,g,i,k,o⟩=>M8 (Qk (Nb ?_))));exact dt (c z a d b g _ i o) λD q ⟨p,j,l,n,C⟩=>⟨x::p,j,l,.cons k n,C⟩
structure o0 (K:NR) (Z:N1) (ps o:a0j) (g:a0g->a0g->a0g) (gV:a0k->a0k->a0k):Prop where
 to:∀(s:Nq) (us ws:a0g),K.In s.heap->SW (g us ws)=SW ps->U4 s Z ⟨us,o.zip ws⟩ (ps.zip (g us ws))
 rel:∀{vs:a0k} {us:a0g} {zs:a0k} {ws:a0g},az vs us->az zs ws->az (gV vs zs) (g us ws)
def I9(sp:Sp)(b:a0k->a0k->a0k)(E:a0t)(t tk:TA):TE:=λa H Q=>t a H λe c=>tk a c λd g=>sp (b e d) g Q (E a)
variable{g:a0g->a0g->a0g}{C:a0k->a0k->a0k}
theorem HB(F:ee X.p X.w X.K X.mg X.base CX k f Z ps sp)(d:dr k X.A)(b:o0 X.K Z ps o g C)(m:db CX X E)
  (I:bt X ai n H s) (r:az q l) (i:az zs ws) (h:sp (C q zs) H Q (E n)):ND (N0 X.p X.w) X.A (Vb (.ref f) l (o.zip ws)) (EP X ai n Q) X.xe s:=by
 have c:=b.rel r i;have j:SW (g l ws)=SW ps:=by rw[<-c.length];exact F.len _ _ _ _ h
 refine W3 (SM (F.run X.A X.k s H ⟨l,o.zip ws⟩ (g l ws) (C q zs) Q (E n) d I.env0 (b.to s l ws I.kIn j) c h) λr p a=>?_);cases r with
 |error e=>exact m ai n H s e p I a
 |ok fl=>
  cases fl with
  |ret u=>exact I.after a
  |next=>exact PX a
  |brk=>exact PX a
  |cont=>exact PX a
theorem Ee(F:ee X.p X.w X.K X.mg X.base CX k f Z ps sp)(u:dr k X.A)(v:Gl X x)(D:X.mg x=My (.ref f))(y:Tf X.K (.ref f)=Nf)(B:o0 X.K Z ps o g C)(G:db CX X E)
  (M:PA X (e::Y) t) (c:PK X m tk) (b:(QE z (Pr m X.e)).all (·.1.isSome)=Nf:=by rfl) (d:(QE z (Pr m X.e)).filterMap (·.1)=o:=by rfl)
  (i:b0c x:=by decide) (J:b0a X e Y:=by rfl)
  (j:((QR z (NL (e::Y) X.e)).any (·.1)||(QE z (Pr m X.e)).any (·.1.isNone))=Ni:=by rfl):
  PE X (.Call (.Name x p) (e::Y) m z) (I9 sp C E t tk):=by
 intro a s l H Q I h;refine Sv (mS I v D ?_ i);refine WF (h₀:=X.base) I.ok.mod.kin y b (dt (M z a s l H _ I h) λV L ⟨vs,N,O,r,q⟩=>?_) j J;refine dt (c z a L l N _ O q) λR T ⟨U,W,n,P,S⟩=>⟨n.kIn,?_⟩;rw[d];exact HB F u B G n r P S
structure ba (N P:a0j) (sc:Scope):Prop where
 kind:sc.kind= .function
 co:sc.isCoroutine=Ni
 gen:sc.isGenerator=Ni
 nd:N.Nodup
 pre:N.take (SW P)=P
 par:∀x∈P,sc.names.lookup x=My .local\/sc.names.lookup x=My .cell
 nofree:∀y∈sc.names,y.2≠ .free
theorem sC{b:Oi->Option RK}{x:Oi}:∀{a:List (Oi×Nj)} {m:a0i},(∀v,(x,v)∉a)->XZ b a m x=m x
 |[],_,_=>rfl
 |(n,v)::r,m,h=>by
  unfold XZ;rw[sC λw c=>h w (Nk _ c)];split
  .have:x≠n:=by rintro rfl;exact h v Np
   simp[this]
  .rfl
theorem sE{b:Oi->Option RK}{x:Oi}:∀{a:List (Oi×Nj)} {m:a0i},(∀v,(x,v)∉a)->XX b a m x=m x
 |[],_,_=>rfl
 |(n,v)::r,m,h=>by
  unfold XX;rw[sE λw c=>h w (Nk _ c)];split
  .rfl
  .have:x≠n:=by rintro rfl;exact h v Np
   simp[this]
theorem sD{a:Oi->Option RK}{x:Oi}{v:Nj}:∀{P:a0j} {e:a0g} {i:Nat} {m:a0i},P.Nodup->P[i]?=My x->e[i]?=My v->a x=My .local->
  XZ a (P.zip e) m x=My v
 |[],_,_,_,_,h,_,_=>by simp at h
 |_::_,[],_,_,_,_,h,_=>by simp at h
 |p::P,w::e,0,m,nd,h1,h2,hk=>by
  simp at h1 h2;subst h1;subst h2;show XZ a ((p,w)::P.zip e) m p=_;unfold XZ;rw[sC λv b=>(OE.mp nd).1 (VA b).1,Nu hk];simp
 |p::P,w::e,i+1,m,nd,h1,h2,hk=>by
  show XZ a ((p,w)::P.zip e) m x=_;unfold XZ;exact sD (i:=i) (OE.mp nd).2 (by simpa using h1) (by simpa using h2) hk
theorem sF{a:Oi->Option RK}{x:Oi}{v:Nj}:∀{P:a0j} {e:a0g} {i:Nat} {m:a0i},P.Nodup->P[i]?=My x->e[i]?=My v->a x≠My .local->
  XX a (P.zip e) m x=My v
 |[],_,_,_,_,h,_,_=>by simp at h
 |_::_,[],_,_,_,_,h,_=>by simp at h
 |p::P,w::e,0,m,nd,h1,h2,hk=>by
  simp at h1 h2;subst h1;subst h2;show XX a ((p,w)::P.zip e) m p=_;unfold XX;rw[sE λv b=>(OE.mp nd).1 (VA b).1,Nv hk];simp
 |p::P,w::e,i+1,m,nd,h1,h2,hk=>by
  show XX a ((p,w)::P.zip e) m x=_;unfold XX;exact sF (i:=i) (OE.mp nd).2 (by simpa using h1) (by simpa using h2) hk
noncomputable def fY(N:a0j)(e:a0k):St:=e.map My++NX (SW N-SW e) Na
noncomputable def fP(CX:F_)(P:N9)(w:Ol)(K:NR)(mg:a0i)(base:OO)(N:a0j)(a:Oi)(g:Scope)(f:Nh)(k:Nj)(A:Ot)(outer:a0C)(s:Nq)(H:Hp)(E:XK):Cx where
 p:=P
 w:=w
 K:=K
 mg:=mg
 base:=base
 A:=A.deeper (Ss a g s.heap.objs.size f k)
 N:=N
 s₀:=s
 H₀:=H
 e:=Ss a g s.heap.objs.size f k
 outer:=outer
 k:=Ss a g s.heap.objs.size f k::outer
 ex:=[]
 calm:=Nf
 fn:=λ_=>Nf
 pn:=[]
 xe:=λe m=>ND (N0 P w) (A.deeper (Ss a g s.heap.objs.size f k)) (leaving (Ss a g s.heap.objs.size f k) e) (λ_ b=>CX outer H s E e b) (λc b=>CX outer H s E c b) m
theorem vW{a:Scope}{x:Oi}(h:a.names.lookup x=My .cell):∃c,(Pz n a.names []).lookup x=My c:=by
 have q:=WT a.names n [] (.inl h);exact VY.mp q
theorem BY{CX:F_}{K:NR}{N ps:a0j}{g:Scope}{f:Nh}{A:Ot}{s L:Nq}{E:XK}{m:a0k}
  (S:ba N ps g) (o:A.handled=Na) (j:tD P w K mg base A outer s H) (U:SW m=SW ps) (r:az m us)
  (x:InCallC s s.heap.objs.size (XZ (Ss qual g s.heap.objs.size f cd).kindOf (ps.zip us) λ_=>Na) (Pz (s.heap.objs.size+1) g.names []) (XX (Ss qual g s.heap.objs.size f cd).kindOf (ps.zip us) λ_=>Na) L):
  bt (fP CX P w K mg base N qual g f cd A outer s H E) [] (fY N m) H L:=by
 have R:SW ps<=SW N:=by have:=Ou SW S.pre;rw[N8]at this;lia
 obtain⟨I,tk,rfl,O⟩:=x.done;have l:∀b:Nh,b∉(fP CX P w K mg base N qual g f cd A outer s H E).ex:=λb z=>NW (show b∈([]:a0r)from z) (by simp);refine⟨⟨j.mod,S.kind,rfl,rfl,No _,λy z c I d=>?_,λy hy=>?_,λy c _ h=>?_,λ_=>o,Around.frames_deeper j.frames,.inr ⟨rfl,rfl⟩,λb z=>NW z (l b),j.bs,j.bsz,λb _ _=>l b,λb z=>NW z (l b),j.funs,j.frf⟩,
  rfl,j.bare,Un.kept O,⟨_,x.toInCall.ns,λi y v I d W=>?_⟩,λy c h=>⟨_,x.cell y c h⟩,j.hok.fresh (No _),λy c h=>?_,λp B=>NW (show p∈([]:a0c)from B) (by simp),j.hok.kept O,?_⟩
 .exact name_of_addr x.apart (O6 I) (O6 d)
 .have hy:g.names.lookup y=My .cell\/g.names.lookup y=My .free:=hy
  rcases hy with hy|hy
  .exact vW hy
  .exact NW rfl (S.nofree _ (O6 hy))
 .exact OK (x.above y c (O6 h))
 .have J:i<SW m:=by
   unfold fY at d;by_cases J:i<SW m
   .exact J
   .rw[OU (by simpa using J)]at d
    rw[QV]at d;split at d<;>cases d
  have t:m[i]?=My v:=by
   unfold fY at d;rw[P7 (by simpa using J),Nl]at d;cases e:m[i]? with
   |none=>rw[e]at d;cases d
   |some a=>rw[e]at d;cases d;rfl
  obtain⟨u,Q,T⟩:=r.get t;have B:ps[i]?=My y:=by
   rw[<-S.pre,Wh (by lia)];exact I
  have F:ps.Nodup:=by rw[<-S.pre];exact S.nd.sublist (List.take_sublist _ _)
  refine⟨u,T,?_⟩;rcases S.par y (NJ B)with k|k
  .exact .inl ⟨k,sD F B Q k⟩
  .obtain⟨c,e⟩:=vW (n:=s.heap.objs.size+1) k
   refine .inr ⟨.inl k,c,e,?_⟩;have q:=x.cell y c e;rw[sF F B Q (by show g.names.lookup y≠_;rw[k];decide)]at q;exact q
 .exact j.hok.fresh (OK (x.above y c (O6 h)))
 .unfold fY
  show _=SW N;rw[Nw,M9,P9];lia
theorem GZ{CX:F_}{K:NR}{k:Nat}{f:Nh}
  {N ps:a0j} {sp:Sp} (U:K.lookup f=My ⟨oc,od,.func (R7 name qual params body scope dV kV doc pm an cdv ct),osl⟩) (B:Ta K cdv qual=Nf) (S:ba N ps scope)
  (z:∀m H Q E,sp m H Q E->SW m=SW ps)
  (d:∀(A:Ot) (g:a0C) (s:Nq) (H:Hp) (m:a0k) (Q:VK) (E:XK),dr k (A.deeper (Ss qual scope s.heap.objs.size f cdv))->sp m H Q E->
   ∃t,PSs (fP CX P w K mg base N qual scope f cdv A g s H E) body t/\t {nx:=λ_ c=>Q .o c,rt:=Q} (fY N m) H):
  ee P w K mg base CX (k+1) f (R7 name qual params body scope dV kV doc pm an cdv ct) ps sp:=by
 refine⟨z,λA g s H D G m Q E F i Y r j=>?_⟩;have Z:=z _ _ _ _ j;have R:K.In s.heap:=i.mod.kin.keeps λb o e=>(i.bs b o e).1;have L:s.heap.NoLimit:=i.mod.nolimit.keeps λb o e=>(i.bs b o e).1;have h:∀y∈ps.zip G,scope.names.lookup y.1=My .local\/(scope.names.lookup y.1=My .cell/\((Pz (s.heap.objs.size+1) scope.names []).lookup y.1).isSome=Nf):=λ⟨n,v⟩ M=>by
  rcases S.par n (VA M).1 with q|q
  .exact .inl q
  .exact .inr ⟨q,WT _ _ _ (.inl q)⟩
 refine codeAny_call_function F.f5 (R _ _ U) rfl S.co S.gen rfl (PySem.W.codeRec_of R B) (Y _ _ _ _ ?_);refine wpAny_newFunctionEnv_cells S.kind h λX he T x=>?_;subst he;refine⟨L.keeps x.toInCall.keep,codeAny_func ?_⟩;obtain⟨t,ht,hq⟩:=d A g s H m Q E (F.deeper _) j;have I:bt (fP CX P w K mg base N qual scope f cdv A g s H E) [] (fY N m) H T:=BY S F.hd i Z r x;refine OL (ht [] T (fY N m) H _ I hq) (λfl C p=>?_) λe C p=>p;have l:∀{a:St} {c:Hp} {v:V} {u:Nj},bt (fP CX P w K mg base N qual scope f cdv A g s H E) [] a c C->aS v u->Q v c->CE g P w H s Q u C:=
  λ{a c v u} J O q=>⟨v,c,J.os,J.bare,J.base,J.hok,O,q⟩
 cases fl with
 |ret u=>
  obtain⟨v,a,c,J,O,q⟩:=p;exact l J O q
 |next=>
  obtain⟨a,c,J,q⟩:=p;exact l (v:=V.o) (u:=On) J rfl q
 |brk=>
  obtain⟨_,_,_,q⟩:=p;exact PX q
 |cont=>
  obtain⟨_,_,_,q⟩:=p;exact PX q
variable{f T:String}{r:a0J}
def ZP(r:a0J)(t:TA):TE:=λa H Q=>t a H λe b=>r e b Q
theorem kx(i:c7 X (.builtin f) r)(j:Gl X x)(g:X.mg x=Na)(l:Rk x=My (.builtin f))(k:PA X (e::Y) t)(m:x≠"__name__":=by decide)(b:b0c x:=by decide)
  (n:b0a X e Y:=by rfl) (c:b0b X z Y:=by rfl):PE X (.Call (.Name x p) (e::Y) [] z) (ZP r t):=by
 intro a s d H Q I h;refine Sv (fX I j g l ?_ m b);exact Rows.callWith_builtin1 (dt (k z a s d H _ I h) λo q ⟨B,u,v,C,D⟩=>i a q d u B o Q v C D) n c
theorem rQ(i:c7 X (.type T) r)(j:Gl X x)(f:X.mg x=Na)(l:Rk x=My (.type T))(g:PA X (e::Y) t)(k:x≠"__name__":=by decide)(b:b0c x:=by decide)
  (n:b0a X e Y:=by rfl) (c:b0b X z Y:=by rfl):PE X (.Call (.Name x p) (e::Y) [] z) (ZP r t):=by
 intro a s d H Q I h;refine Sv (fX I j f l ?_ k b);exact OZ (dt (g z a s d H _ I h) λm q ⟨o,u,v,B,C⟩=>i a q d u o m Q v B C) n c
end
end L2
namespace HT
def lexLt:a0d->a0d->Bool
 |[],[]=>Ni
 |[],_::_=>Nf
 |_::_,[]=>Ni
 |x::xs,y::ys=>if x=y then lexLt xs ys else decide (x<y)
theorem lexLt_cons(x y:Int)(D E:a0d):lexLt (x::D) (y::E)=if x=y then lexLt D E else decide (x<y):=rfl
theorem sO:lexLt [] []=Ni:=rfl
theorem qL(y:Int)(D:a0d):lexLt [] (y::D)=Nf:=rfl
theorem qM(x:Int)(D:a0d):lexLt (x::D) []=Ni:=rfl
theorem E2(A:Ot)(s:Nq)(a:Int)(t:Tok)(c:Int)(u:Tok):∃e,Pd A s (.int a t) (.int c u) e/\(e=Nf↔a=c):=
 ⟨(a==c),Wk a t c u,by simp⟩
theorem D0(A:Ot)(s:Nq)(a:Int)(t:Tok)(c:Int)(u:Tok)(D:N9)(w:Ol)(E:a0e)(Q:a0e)(h:Q (.bool (decide (a<c))) s):
  ND (N0 D w) A (richCompare .Lt (.int a t) (.int c u)) Q E s:=
 (Rows.lt_int h:ND (N0 D w) A (OP .Lt (.int a t) (.int c u)) Q E s)
section
open PySem.SeqAt
open PySem.AutoSeq1 (wpAny_loadPart')
open PySem.MeetsSeq PySem.MeetsSeq2 PySem.MeetsSeq3
theorem sI(l b:Nh)(i f:a0D)(n Z:Nat)(V P:a0S)(z Q:Array (Option Nj))(G J:a0d)(W:SH i.toList G)(X:SH f.toList J):
  Meets (Builtin.«tuple.__lt__» ⟨[.ref l,.ref b],[]⟩)
   (λ_ R s=>s.heap.get? l=My {cls:= .type "tuple",dict:=V,data:= .seq i n,slots:=z}/\s.heap.get? b=My {cls:= .type "tuple",dict:=P,data:= .seq f Z,slots:=Q}/\
    R (.ok (.ret (.bool (lexLt G J)))) s):=
 .of_wp λD w A R s h=>by
  obtain⟨L,g,d,N,K⟩:=s;obtain⟨hl,hb,h⟩:=h;have f2:=AutoSeq1.sub_tuple_tuple;have z1:i.size=SW G:=by rw[<-W.length];simp
  have z2:f.size=SW J:=by rw[<-X.length];simp
  wp_walk using wpAny_loadPart' hl,wpAny_loadPart' hb,Tj _ (λE b S=>b.1=Na/\S=⟨L,g,d,N,K⟩/\∃(M O:a0g) (k m:a0d),E=M.zip O/\
   SH M k/\SH O m/\SW k+f.size=SW m+i.size/\R (.ok (.ret (.bool (lexLt k m)))) ⟨L,g,d,N,K⟩) _
  case turn=>
   rintro⟨y,x⟩ E b S ⟨B,rfl,M,O,k,m,o,C,p,j,r⟩;cases C with
   |nil=>rw[T5]at o;cases o
   |cons a t H=>
    cases p with
    |nil=>rw[XN]at o;cases o
    |cons c u I=>
     rw[PP]at o
     injection o with T F
     injection T with hy hx
     subst hy hx;rw[lexLt_cons]at r;simp only[NB]at j;obtain⟨e,he,v⟩:=E2 A.in1 ⟨L,g,d,N,K⟩ a t c u;refine M8 (he D w _ _ ?_);cases e with
     |true=>
      rw[Nu (v.mp rfl)]at r
      wp_walk
      exact⟨rfl,rfl,_,_,_,_,F,H,I,by lia,r⟩
     |false=>
      rw[Nv (λq=>NW (v.mpr q) Nz)]at r;have U:=D0 A.in1 ⟨L,g,d,N,K⟩ a t c u D w
      wp_walk using U
      exact⟨_,rfl,by simpa using r⟩
  case fin=>
   rintro⟨b1,b2⟩ S ⟨B,rfl,M,O,k,m,o,C,p,j,r⟩;simp only at B;subst B;have Y:lexLt k m=decide (i.size<f.size):=by
    cases C with
    |nil=>
     cases p with
     |nil=>
      simp only[QD]at j;rw[sO];exact(Oo (by lia)).symm
     |cons c u hw=>
      simp only[QD,NB]at j;rw[qL];exact(NF (by lia)).symm
    |cons a t Y=>
     cases p with
     |nil=>
      simp only[QD,NB]at j;rw[qM];exact(Oo (by lia)).symm
     |cons c u hw=>
      rw[PP]at o;cases o
   rw[Y]at r
   wp_walk
   exact⟨_,rfl,by simpa[Builtin.Tuple.tupleCompareSizes]using r⟩
  case h=>
   exact⟨rfl,rfl,i.toList,f.toList,G,J,rfl,W,X,by lia,h⟩
end
section
variable{z:N9}{w:Ol}{A:Ot}{E:a0e}{s:Nq}
theorem lt_tupInts{c a:a0D}(p:XJ s.heap l c)(q:XJ s.heap b a)(r:SH c.toList ns)(t:SH a.toList ms)
  (u:A.units<Tv) (h:Q (.bool (lexLt ns ms)) s):ND (N0 z w) A (OP .Lt (.ref l) (.ref b)) Q E s:=by
 obtain⟨⟨K,v,D,M⟩,k,m,n,G⟩:=id p;obtain⟨⟨o,g,i,j⟩,d,e,y,f⟩:=id q;simp only at m G e f;subst m G e f;exact richCompare_meets_room (op:= .Lt) ⟨_,k,rfl⟩ ⟨_,d,rfl⟩ PySem.F.slot_tuple_lt PySem.F.entry_tuple_lt (PySem.F.args_tuple_lt_2 _ _) (sI l b c a n y v g M j ns ms r t)
  ⟨k,d,show Tu (lexLt ns ms)≠Value.notImplemented/\Q (.bool (lexLt ns ms)) s from⟨(λx=>nomatch x),h⟩⟩ u
theorem cat_tup{D a:a0g}(u:XJ s.heap t D.toArray)(v:XJ s.heap b a.toArray)(m:D≠[])
  (y:a=[]->Q (.ref t) s) (B:a≠[]->Q (.ref s.heap.objs.size) {s with heap:=s.heap.push {cls:= .type "tuple",data:= .seq (D++a).toArray}})
  (k:SW D+SW a<=NN):ND (N0 z w) A (QG .Add (.ref t) (.ref b)) Q E s:=by
 obtain⟨⟨cls,o,data,G⟩,i,p,n,K⟩:=id u;obtain⟨⟨q,d,l,f⟩,c,g,r,h⟩:=id v;simp only at p K g h;subst p K g h;have e:D.toArray++a.toArray=(D++a).toArray:=by simp
 by_cases j:a=[]
 .exact concat_meets ⟨_,i,rfl⟩ ⟨_,c,rfl⟩ Wd XB Ue T6 (TN _ _)
   (tuple_addW1 t b D.toArray a.toArray n r o d G f (by simpa using m) (by simp[j])) ⟨i,c,y j⟩
 .refine concat_meets ⟨_,i,rfl⟩ ⟨_,c,rfl⟩ Wd XB Ue T6 (TN _ _)
   (tuple_addW2 t b D.toArray a.toArray n r o d G f (by simpa using m) (by simpa using j) (by rw[NM,NM];exact k)) ⟨i,c,?_⟩
  rw[e];exact B j
noncomputable def sIx(n d:Nat):a0o->Nat
 |none=>d
 |some v=>if v<0 then(v+(n:Int)).toNat else QN v.toNat n
theorem sIx_none(n d:Nat):sIx n d Na=d:=rfl
theorem sIx_nat(n d k:Nat):sIx n d (My (k:Int))=QN k n:=by
 show(if(k:Int)<0 then((k:Int)+(n:Int)).toNat else QN (k:Int).toNat n)=QN k n;rw[Nv (by lia),ON]
theorem Jp(n d:Nat)(s:d<=n)(o:a0o):sIx n d o<=n:=by
 cases o with
 |none=>exact s
 |some v=>
  show(if v<0 then(v+(n:Int)).toNat else QN v.toNat n)<=n;by_cases a:v<0
  .rw[Nu a];lia
  .rw[Nv a];exact SL _ _
theorem xt(v:Int)(n d:Nat):(if v<0 then Wb (v+(n:Int)) 0 else QN v (n:Int))=((sIx n d (My v):Nat):Int):=by
 show(if v<0 then Wb (v+(n:Int)) 0 else QN v (n:Int))=(((if v<0 then(v+(n:Int)).toNat else QN v.toNat n):Nat):Int);by_cases a:v<0
 .simp only[Nu a];lia
 .simp only[Nv a];lia
theorem yY(s a:a0o)(n:Nat):SF s a 1 (n:Int)=(((sIx n 0 s:Nat):Int),((sIx n n a:Nat):Int)):=by
 have b:¬((1:Int)<0):=by lia
 unfold SF;simp only[b,OF];refine Qr ?_ ?_
 .cases s with
  |none=>rfl
  |some v=>exact xt v n 0
 .cases a with
  |none=>rfl
  |some v=>exact xt v n n
theorem x5(i j:Nat):Ra (i:Int) (j:Int) 1=j-i:=by
 unfold Ra;have a:(1:Int)>0:=by lia
 simp only[a,OC,Int.ediv_one];split<;>lia
theorem o3(p:UV v o)(h:Q o s):ND (N0 z w) A (Builtin.Slice.slicePartIndex v) Q E s:=by
 cases p with
 |none=>exact slicePart_none h
 |int i t=>exact slicePart_int h
theorem iU{G:Nh}{d e:Nj}{D a:a0o}{n:Nat}{Q:Int×Int×Nat->Nq->Prop}(K:s.heap.IsSliceOf G d e .none)(M:UV d D)(S:UV e a)
  (h:Q (((sIx n 0 D:Nat):Int),1,sIx n n a-sIx n 0 D) s):ND (N0 z w) A (UP (.ref G) (P3 (n:Int))) Q E s:=by
 obtain⟨V,b,f,c⟩:=id K;unfold UP Builtin.Slice.sliceFields;refine M8 (M8 (OY b c (x:=d) rfl (M8 (OY b c (x:=e) rfl (M8 (OY b c (x:= .none) rfl (Nb ?_)))))));refine M8 (slicePart_none ?_);show ND _ _ (if((1:Int)==0)=Nf then _ else _) _ _ s;rw[Nv (by decide)];refine M8 (o3 M (M8 (o3 S (M8 (Nb ?_)))));show ND _ _ (match SF D a 1 (n:Int)with|(D,a)=>P3 (D,(1:Int),Ra D a 1)) _ _ s
 rw[yY D a n];show ND _ _ (P3 (((sIx n 0 D:Nat):Int),(1:Int),Ra ((sIx n 0 D:Nat):Int) ((sIx n n a:Nat):Int) 1)) _ _ s;rw[x5];exact Nb h
theorem D8(s:a0D)(i k:Nat):((Nr k).filterMap λ(m:Nat)=>s[((i:Int)+(m:Int)*1).toNat]?).toArray=((s.toList.drop i).take k).toArray:=by
 have e:(λ(m:Nat)=>s[((i:Int)+(m:Int)*1).toNat]?)=λm=>s[i+m]?:=by
  funext m;have:((i:Int)+(m:Int)*1).toNat=i+m:=by lia
  rw[this]
 rw[e];have:=pick_run s i k;rw[XM]at this;have a:((λx=>s[x]?)∘λx=>i+x)=λm=>s[i+m]?:=rfl;rw[a]at this;rw[this]
theorem getItem_tuple_cut{a:a0D}{D c:a0o}(d:XJ s.heap t a)(G:s.heap.IsSliceOf o vl vu .none)(K:UV vl D)(M:UV vu c)
  (j:¬(sIx a.size 0 D=0/\sIx a.size a.size c=a.size))
  (h:Q (.ref s.heap.objs.size) {s with heap:=s.heap.push {cls:= .type "tuple",data:= .seq ((a.toList.drop (sIx a.size 0 D)).take (sIx a.size a.size c-sIx a.size 0 D)).toArray}})
  (k:a.size<=NN):ND (N0 z w) A (VN (.ref t) (.ref o)) Q E s:=by
 have b:sizeOk (.seq ((a.toList.drop (sIx a.size 0 D)).take (sIx a.size a.size c-sIx a.size 0 D)).toArray):=by
  show((a.toList.drop (sIx a.size 0 D)).take (sIx a.size a.size c-sIx a.size 0 D)).toArray.size<=NN;rw[NM,N8,Pm,NG];lia
 have n:sIx a.size a.size c<=a.size:=Jp _ _ (No _) c;obtain⟨S,e,f,l⟩:=id G;have g:s.TypeIs (.ref o) "slice":=⟨S,e,f⟩;unfold VN
 try with_reducible refine OT ?_
 first|refine M8 (Nb ?_)|skip
 refine M8 (wpAny_sequenceKey d.typeIs (by decide) ?_);refine M8 (a1e (name:=Pq "__getitem__") d.typeIs Pc
  (Of Pc d.typeIs entry_tuple_getitem ?_ (args_tuple_getitem _ _)))
 show ND _ _ (Sx (.ref t)>>=_) _ _ s;refine M8 (tupleItemsOf_ d ?_);refine M8 (SS g ?_);rw[Nu (by decide)];refine M8 (iU G K M ?_);have i:¬((((sIx a.size 0 D:Nat):Int)==0&&(1:Int)==1&&(sIx a.size a.size c-sIx a.size 0 D)==a.size)=Nf):=by
  intro q;rw[N5,N5]at q;have V:((sIx a.size 0 D:Nat):Int)=0:=eq_of_beq q.1.1;have p:sIx a.size a.size c-sIx a.size 0 D=a.size:=eq_of_beq q.2;exact j ⟨by lia,by lia⟩
 show ND _ _ (if(((sIx a.size 0 D:Nat):Int)==0&&(1:Int)==1&&(sIx a.size a.size c-sIx a.size 0 D)==a.size)=Nf then _ else _) _ _ s;rw[Nv i,D8]
 first
  |exact M8 (m:=Rj _) (Oh (Nb ⟨_,rfl,Nb h⟩) b)
  |exact M8 (m:=Rj _) (Oh (M8 (Nb (Nb ⟨_,rfl,Nb h⟩))) b)
  |exact M8 (M8 (m:=Rj _) (Oh (Nb (Nb ⟨_,rfl,Nb h⟩)) b))
  |exact M8 (M8 (m:=Rj _) (Oh (Nb ⟨_,rfl,Nb h⟩) b))
end
end HT
namespace L2
abbrev TO:=St->Hp->(a0o->Hp->Prop)->Prop
def PO(X:Cx)(e:Option Expr)(t:TO):Prop:=
 ∀(a:a0c) (s:Nq) (b:St) (H:Hp) (Q:a0o->Hp->Prop),bt X a b H s->t b H Q->
  ND (N0 X.p X.w) X.A (evalPart e X.e) (λu D=>∃o c,bt X a b c D/\UV u o/\Q o c) X.xe s
noncomputable def Hm:TO:=λ_ H Q=>Q Na H
def Ma(t:TE):TO:=λa H Q=>t a H λx b=>∃i,x= .n i/\Q (My i) b
theorem pX{D:a0d}:∀{E:a0g},az (D.map V.n) E->SH E D:=by
 induction D with
 |nil=>intro E r;rw[Q4]at r;cases r;exact .nil
 |cons n D G=>
  intro E r;rw[NI]at r;cases r with
  |cons K a=>
   obtain⟨t,e⟩:=K;subst e;exact .cons n t (G a)
section
variable{X:Cx}{e:Expr}{Z:TE}{U Y:Option Expr}{tl th:TO}{aa p2:SA}
theorem wL:PO X Na Hm:=by
 intro a s b H Q I h;rw[XA];exact Nb ⟨Na,H,I,.none,h⟩
theorem wK(h:PE X e Z):PO X (My e) (Ma Z):=by
 intro a s b H Q I c;rw[evalPart_some];refine dt (h a s b H _ I c) λu g ⟨x,d,f,D,E⟩=>?_;obtain⟨i,rfl,q⟩:=E;obtain⟨t,rfl⟩:=D;exact⟨My i,d,f,.int i t,q⟩
def Zw(X:Cx)(r:V->a0o->a0o->Hp->VK->Prop):Prop:=
 ∀(a:a0c) (s:Nq) (b:St) (H:Hp) (x:V) (v c d:Nj) (U Y:a0o) (e:Nh) (Q:VK),bt X a b H s->aS x v->s.heap.IsSliceOf e c d .none->UV c U->UV d Y->r x U Y H Q->
  ∃T f,typeLookup (.type T) "__getitem__"=P3 (My (.builtin f))/\s.TypeIs v T/\ND (N0 X.p X.w) X.A (VN v (.ref e)) (EP X a b Q) X.xe s
def tSl(r:V->a0o->a0o->Hp->VK->Prop)(Z:TE)(tl th:TO):TE:=λa H Q=>Z a H λx b=>tl a b λl c=>th a c λu d=>r x l u d Q
theorem n6(j:Zw X r)(k:PE X e Z)(m:PO X U tl)(n:PO X Y th):PE X (.Subscript e (.Slice U Y Na p2) aa) (tSl r Z tl th):=by
 intro a s d H Q I h;refine Subscript_ (dt (k a s d H _ I h) λv o ⟨x,p,t,D,E⟩=>?_);refine wpAny_Slice (dt (m a o d p _ t E) λf y ⟨l,B,C,G,K⟩=>dt (n a y d B _ C K) λg c ⟨u,i,F,M,S⟩=>?_);rw[XA];refine Nb ?_;have J:bt X a d i {c with heap:=c.heap.push {cls:= .type "slice",data:= .fields #[f,g,.none]}}:=F.kept (t':=c.toks) λb P q=>Nd _ q;obtain⟨T,R,L,N,O⟩:=j a {c with heap:=c.heap.push {cls:= .type "slice",data:= .fields #[f,g,.none]}} d i x v f g l u c.heap.objs.size Q J D (Vx ..) G M S;show ND (N0 X.p X.w) X.A (XD e (.Slice U Y Na p2) v (.ref c.heap.objs.size)) (EP X a d Q) X.xe {c with heap:=c.heap.push {cls:= .type "slice",data:= .fields #[f,g,.none]}};exact tail_any (ops:=[.ref c.heap.objs.size,v]) N L O (by with_unfolding_all rfl)
noncomputable def jg(e:a0k)(U Y:a0o):a0k:=(e.drop (HT.sIx (SW e) 0 U)).take (HT.sIx (SW e) (SW e) Y-HT.sIx (SW e) 0 U)
theorem nJ(e:a0k)(U Y:a0o):SW (jg e U Y)<=SW e:=by
 unfold jg;rw[N8,Pm];lia
def ZU(K:NR):V->a0o->a0o->Hp->VK->Prop:=λx U Y H Q=>∃a e,x= .r a/\f_ K H a e/\
 ¬(HT.sIx (SW e) 0 U=0/\HT.sIx (SW e) (SW e) Y=SW e)/\∀p,H p=Na->Q (.r p) (upd H p (.t (jg e U Y)))
theorem Jg:Zw X (ZU X.K):=by
 intro d s k H x v l m U Y V Q I i E G M h;obtain⟨a,e,rfl,S,j,q⟩:=h;cases i;obtain⟨D,r,f,g⟩:=I.tuple S;have c:D.toArray.size=SW e:=by rw[NM];exact r.length.symm
 refine⟨"tuple",_,Pc.lookup,f.typeIs,?_⟩;refine HT.getItem_tuple_cut f E G M (by rw[c];exact j) ?_ (by rw[c];exact g);rw[c];refine⟨.r s.heap.objs.size,_,I.laid (t':=s.toks) (o:= .t (jg e U Y)) (λb n q=>Nd _ q) (No _) ?_,rfl,q _ (I.hok.fresh (No _))⟩;exact⟨NK (nJ e U Y) g,_,(r.drop (HT.sIx (SW e) 0 U)).take (HT.sIx (SW e) (SW e) Y-HT.sIx (SW e) 0 U),Yb _ _⟩
def xY(K:NR):R2:=λx y H Q=>∃a b D e,x= .r a/\y= .r b/\f_ K H a D/\f_ K H b e/\D≠[]/\SW D+SW e<=NN/\
 (e=[]->Q (.r a) H)/\(e≠[]->∀p,H p=Na->Q (.r p) (upd H p (.t (D++e))))
theorem az.nil_iff(r:az a b):b=[]↔a=[]:=by
 cases r with
 |nil=>simp
 |cons _ _=>simp
theorem HS:e_ X (QG .Add) (xY X.K):=by
 intro d s m H x y v u Q I i j h;obtain⟨a,b,D,E,rfl,rfl,G,k,M,f,S,U⟩:=h;cases i;cases j;obtain⟨V,e,l,_⟩:=I.tuple G;obtain⟨g,c,p2,_⟩:=I.tuple k;refine HT.cat_tup l p2 (λz=>M (e.nil_iff.mp z)) (λz=>⟨.r a,H,I,rfl,S (c.nil_iff.mp z)⟩) (λz=>?_) (by rw[<-e.length,<-c.length];exact f);refine⟨.r s.heap.objs.size,_,I.laid (t':=s.toks) (o:= .t (D++E)) (λb n q=>Nd _ q) (No _) ?_,rfl,U (λw=>z (c.nil_iff.mpr w)) _ (I.hok.fresh (No _))⟩;exact⟨by rw[Nw];exact f,_,e.append c,Yb _ _⟩
noncomputable def i4(n:Nat)(i:Int):a0K:=if 0<=i then(if i<n then My i.toNat else Na)else if -(n:Int)<=i then My (i+n).toNat else Na
def la{e:Type}(xs:List e)(i:Int):Option e:=(i4 (SW xs) i).bind λj=>xs[j]?
theorem qQ(h:i4 n i=My j):seqIndex? i n=My j/\j<n/\-(n:Int)<=i/\i<n:=by
 unfold i4 at h;by_cases b:0<=i
 .rw[Nu b]at h
  by_cases a:i<n
  .rw[Nu a]at h
   have e:i.toNat=j:=N6 h;exact⟨by rw[seqIndex_of b a,e],by lia,by lia,a⟩
  .rw[Nv a]at h;cases h
 .rw[Nv b]at h
  by_cases a:-(n:Int)<=i
  .rw[Nu a]at h
   have e:(i+n).toNat=j:=N6 h;exact⟨by rw[Ym (by lia) a,e],by lia,a,by lia⟩
  .rw[Nv a]at h;cases h
theorem xx{E:Type}{D:List E}{i:Int}{v:E}(h:la D i=My v):∃j,seqIndex? i (SW D)=My j/\D[j]?=My v/\j<SW D/\-(SW D:Int)<=i/\i<SW D:=by
 unfold la at h;cases e:i4 (SW D) i with
 |none=>rw[e]at h;cases h
 |some j=>
  rw[e]at h;obtain⟨a,b,c,d⟩:=qQ e;exact⟨j,a,h,b,c,d⟩
theorem IJ{E:Type}{D:List E}{j:Nat}{v:E}(h:D[j]?=My v):la D (j:Int)=My v:=by
 have a:j<SW D:=(Nn.mp h).1;have e:i4 (SW D) (j:Int)=My j:=by
  unfold i4;rw[Nu (by lia),Nu (by lia)];simp
 unfold la;rw[e];exact h
def rf(b:Expr):Prop:=∀o i,subscripted b Ni o i=operate [o,i] (VN o i)
def F3(X:Cx)(r:R2):Prop:=
 ∀(c a:Expr) (b:a0c) (s:Nq) (d:St) (H:Hp) (x y:V) (v u:Nj) (Q:VK),bt X b d H s->aS x v->aS y u->r x y H Q->
  subscripted a Ni v u=operate [v,u] (VN v u)->ND (N0 X.p X.w) X.A (XD c a v u) (EP X b d Q) X.xe s
def MtR(X:Cx)(c:String)(r:a0R):Prop:=
 ∀(a:a0c) (s:Nq) (b:St) (H:Hp) (x:V) (e:a0k) (v:Nj) (D:a0g) (Q:VK),bt X a b H s->aS x v->az e D->r x e H Q->
  ND (N0 X.p X.w) X.A (Vb (.builtin c) (v::D)) (EP X a b Q) X.xe s
variable{a b:Expr}{C B:TE}
theorem F3.or(h:F3 X r)(b:F3 X k):F3 X (λx y H Q=>r x y H Q\/k x y H Q):=by
 intro c d f s g H x y v u Q I i j q a;rcases q with q|q
 .exact h c d f s g H x y v u Q I i j q a
 .exact b c d f s g H x y v u Q I i j q a
theorem cZ(d:F3 X r)(e:PE X a C)(f:PE X b B)(D:rf b):PE X (.Subscript a b aa) (O2 r C B):=by
 intro c s g H Q I h;exact Subscript_ (Fb e f I h λv u i x y j k l m q=>d a b c i g j x y v u Q k l m q (D _ _))
def qC(K:NR):R2:=λx y H Q=>∃p a i v,x= .r p/\y= .n i/\d_ K H p a/\la a i=My v/\Q v H
def D3(K:NR):R2:=λx y H Q=>∃p a i v,x= .r p/\y= .n i/\f_ K H p a/\la a i=My v/\Q v H
theorem bQ:F3 X (qC X.K):=by
 intro g k c s n H x y v u Q I B C h e;obtain⟨p,E,i,z,rfl,rfl,F,J,q⟩:=h;cases B;obtain⟨t,rfl⟩:=C;obtain⟨a,r,b,R⟩:=I.list F;obtain⟨j,f,L,T,N,O⟩:=xx J;obtain⟨w,o,l⟩:=r.get L;have P:=r.length;have G:=jZ;have d:EP X c n Q w s:=⟨z,H,I,l,q⟩;by_cases A:0<=i
 .have m:i.toNat=j:=by
   rw[seqIndex_of A O]at f;exact N6 f
  exact item_listR b.isList A (by lia) (by rw[m];simpa using o) d e
 .have m:(i+(a.toArray.size:Int)).toNat=j:=by
   rw[Ym (by lia) N]at f;rw[NM,<-P];exact N6 f
  exact UK (x:=w) b.isList.typeIs slot_list_getitem.lookup
   (wpAny_getItem_list_neg (Q:=λr D=>r=w/\EP X c n Q r D) b.isList (by lia) (by rw[NM]<;>lia) (by lia) (by rw[m];simpa using o) ⟨rfl,d⟩) e
theorem Kh:F3 X (D3 X.K):=by
 intro d f c s l H x y v u Q I m n h b;obtain⟨p,E,i,z,rfl,rfl,o,A,q⟩:=h;cases m;obtain⟨t,rfl⟩:=n;obtain⟨e,r,a,L⟩:=I.tuple o;obtain⟨j,B,C,N,O,P⟩:=xx A;obtain⟨w,F,g⟩:=r.get C;have J:=r.length;have G:=jZ;have k:EP X c l Q w s:=⟨z,H,I,g,q⟩;exact UK (x:=w) a.typeIs slot_tuple_getitem.lookup
  (getItem_tuple (j:=j) (Q:=λr D=>r=w/\EP X c l Q r D) a (by lia) (by lia) (by rw[NM,<-J];exact B) (by simpa using F) ⟨rfl,k⟩) b
theorem ym(a:a0g)(n j:Nat)(u:Nj):OV (·.setIfInBounds j u) {cls:= .type "list",data:= .seq a.toArray n}={cls:= .type "list",data:= .seq (a.set j u).toArray n}:=by
 simp[OV]
theorem bt.lst{s:Nq}{xs:a0k}(I:bt X ai c H s)(h:H p=My (.l xs)):
  ∃(a:a0g) (n:Nat),az xs a/\s.heap.get? p=My {cls:= .type "list",data:= .seq a.toArray n}/\SW xs<=NN:=by
 obtain⟨z,a,n,r,e⟩:=I.hok p _ h;exact⟨a,n,r,e,z⟩
theorem bt.lstUpd{s:Nq}{D C:a0k}{B a:a0g}(I:bt X ai j H s)(h:H p=My (.l D))
  (d:s.heap.get? p=My {cls:= .type "list",data:= .seq B.toArray n}) (c:f {cls:= .type "list",data:= .seq B.toArray n}={cls:= .type "list",data:= .seq a.toArray n'}) (r:az C a) (g:SW C<=NN) (t:Nat):
  bt X ai j (upd H p (.l C)) {s with heap:=s.heap.update p f,toks:=t}:=by
 have e:(s.heap.update p f).get? p=My {cls:= .type "list",data:= .seq a.toArray n'}:=by
  rw[QA f d (by rw[c]<;>rfl),c]
 refine I.write (x:=p) (e:=p) (by rw[h];trivial) (.inl rfl) (λb u i q=>(Wx _ _ (Ne.symm i)).trans q) ⟨_,e⟩ ?_;exact⟨g,a,n',r,e⟩
def GG:V->V->V->Hp->(Hp->Prop)->Prop:=λo i v H Q=>∃p a k j,o= .r p/\i= .n k/\H p=My (.l a)/\i4 (SW a) k=My j/\Q (upd H p (.l (a.set j v)))
theorem cr:Gc X GG:=by
 intro c s C H o i v P R u Q I F J L h;obtain⟨p,b,k,j,rfl,rfl,m,N,q⟩:=h;cases F;obtain⟨t,rfl⟩:=J;obtain⟨a,n,r,f,O⟩:=I.lst m;obtain⟨d,T,w,y⟩:=qQ N;have g:=r.length;have e:=jZ;have A:bt X c C (upd H p (.l (b.set j v))) {s with heap:=s.heap.update p (OV (·.setIfInBounds j u))}:=
  I.lstUpd m f (ym a n j u) (r.set L j) (by rw[Om];exact O) s.toks
 by_cases B:0<=k
 .have l:k.toNat=j:=by
   rw[seqIndex_of B y]at d;exact N6 d
  exact PySem.W.ki_setAt f B (by lia) (by rw[NM,<-g];exact y) (by rw[l];exact⟨_,A,q⟩)
 .have l:(k+(a.toArray.size:Int)).toNat=j:=by
   rw[Ym (by lia) w]at d;rw[NM,<-g];exact N6 d
  exact PySem.W.ki_setBack f (by lia) (by rw[NM,<-g];exact w) (by lia) (by rw[l];exact⟨_,A,q⟩)
theorem uu(U Y:a0o)(n:Nat):(RN U Y Na n).1=((HT.sIx n 0 U:Nat):Int)/\(RN U Y Na n).2.1=((HT.sIx n n Y:Nat):Int)/\(RN U Y Na n).2.2=1:=by
 refine⟨?_,?_,rfl⟩
 .cases U with
  |none=>simp[RN,HT.sIx]
  |some i=>
   simp only[RN,HT.sIx,XQ,show(1:Int)>0 by decide,OC];by_cases h:i<0
   .simp only[h,OC]<;>lia
   .simp only[h,OF]<;>lia
 .cases Y with
  |none=>simp[RN,HT.sIx]
  |some i=>
   simp only[RN,HT.sIx,XQ,show(1:Int)>0 by decide,OC];by_cases h:i<0
   .simp only[h,OC]<;>lia
   .simp only[h,OF]<;>lia
theorem sJ(a:a0g)(U Y:a0o):X4 a.toArray U Y Na=((a.drop (HT.sIx (SW a) 0 U)).take (HT.sIx (SW a) (SW a) Y-HT.sIx (SW a) 0 U)).toArray:=by
 obtain⟨c,d,f⟩:=uu U Y a.toArray.size;unfold X4;rw[c,d,f];simp only[sliceRange_one,pick_run,NM]<;>rfl
def ZV(K:NR):V->a0o->a0o->Hp->VK->Prop:=λx U Y H Q=>∃a b,x= .r a/\d_ K H a b/\∀p,H p=Na->Q (.r p) (upd H p (.l (jg b U Y)))
theorem wt:Zw X (ZV X.K):=by
 intro d s j H x v k l U Y M Q I g B C D h;obtain⟨a,e,rfl,E,q⟩:=h;cases g;obtain⟨G,r,f,i⟩:=I.list E;have c:=r.length;refine⟨"list",_,slot_list_getitem.lookup,f.isList.typeIs,?_⟩;refine XE f.isList B C D .none (by simp) ?_ (by rw[NM]<;>lia)
 rw[sJ,<-c];refine⟨.r s.heap.objs.size,_,I.laid (t':=s.toks) (o:= .l (jg e U Y)) (λb m q=>Nd _ q) (No _) ?_,rfl,q _ (I.hok.fresh (No _))⟩;exact⟨NK (nJ e U Y) i,_,0,(r.drop (HT.sIx (SW e) 0 U)).take (HT.sIx (SW e) (SW e) Y-HT.sIx (SW e) 0 U),NE _ rfl⟩
noncomputable def gZ:V->Bool
 | .o=>Nf
 | .c _=>Nf
 | .n _=>Nf
 | .q _=>Nf
 |_=>Ni
noncomputable def L1:V->V->Bool
 | .o,.o=>Nf
 | .c a,.c b=>a==b
 | .c a,.n b=>(if a then 1 else 0)==b
 | .n a,.c b=>a==(if b then 1 else 0)
 | .n a,.n b=>a==b
 | .q a,.q b=>a==b
 |_,_=>Ni
theorem KE(d:aS y u)(c:aS x v)(g:gZ y=Nf)(f:gZ x=Nf):Pd A s u v (L1 y x):=by
 cases y with
 |o=>
  cases d;cases x with
  |o=>cases c;exact Pd.same _
  |c b=>cases c;exact Pd.none_bool b
  |n b=>obtain⟨t,rfl⟩:=c;exact Pd.none_int b t
  |q b=>obtain⟨t,rfl⟩:=c;exact Pd.none_str b t
  |_=>exact NW (show Ni=Nf from f) Nz
 |c a=>
  cases d;cases x with
  |o=>cases c;exact Pd.bool_none a
  |c b=>cases c;exact Pd.bool_bool a b
  |n b=>obtain⟨t,rfl⟩:=c;exact Pd.bool_int a b t
  |q b=>obtain⟨t,rfl⟩:=c;exact Pd.bool_str a b t
  |_=>exact NW (show Ni=Nf from f) Nz
 |n a=>
  obtain⟨e,rfl⟩:=d;cases x with
  |o=>cases c;exact Pd.int_none a e
  |c b=>cases c;exact Pd.int_bool a e b
  |n b=>obtain⟨t,rfl⟩:=c;exact Wk a e b t
  |q b=>obtain⟨t,rfl⟩:=c;exact Pd.int_str a e b t
  |_=>exact NW (show Ni=Nf from f) Nz
 |q a=>
  obtain⟨e,rfl⟩:=d;cases x with
  |o=>cases c;exact Pd.str_none a e
  |c b=>cases c;exact Pd.str_bool a e b
  |n b=>obtain⟨t,rfl⟩:=c;exact Pd.str_int a e b t
  |q b=>obtain⟨t,rfl⟩:=c;exact Pd.str_str a e b t
  |_=>exact NW (show Ni=Nf from f) Nz
 |_=>exact NW (show Ni=Nf from g) Nz
def r8(x:V)(u:Nj):Bool:=match u with
 | .none=>L1 .o x
 | .bool b=>L1 (.c b) x
 | .int i _=>L1 (.n i) x
 | .str z _=>L1 (.q z) x
 |_=>Ni
theorem CN(r:aS y u)(f:gZ y=Nf):r8 x u=L1 y x:=by
 cases y with
 |o=>cases r;rfl
 |c b=>cases r;rfl
 |n i=>obtain⟨t,rfl⟩:=r;rfl
 |q z=>obtain⟨t,rfl⟩:=r;rfl
 |_=>exact NW (show Ni=Nf from f) Nz
theorem j8:∀{a:a0k} {b:a0g},az a b->a.all gZ=Nf->b.any (r8 x)=a.any λy=>L1 y x
 |_,_,.nil,_=>rfl
 |y::a,u::b,.cons r t,f=>by
  rw[Ub,N5]at f;rw[SI,SI,CN r f.1,j8 t f.2]
theorem i9(c:aS x v)(d:gZ x=Nf):∀{a:a0k} {b:a0g},az a b->a.all gZ=Nf->∀u∈b,Pd A s u v (r8 x u)
 |_,_,.nil,_=>λu hu=>by cases hu
 |y::a,u::b,.cons r t,f=>λg hu=>by
  rw[Ub,N5]at f;rcases NC.mp hu with rfl|hu
  .rw[CN r f.1];exact KE r c f.1 d
  .exact i9 c d t f.2 g hu
def Zo(x:V)(a:a0k):Bool:=a.any λy=>L1 y x
def ZZ(K:NR)(b:Bool):R2:=λx y H Q=>∃p a,y= .r p/\(d_ K H p a\/f_ K H p a)/\gZ x=Nf/\a.all gZ=Nf/\Q (.c (if b then !Zo x a else Zo x a)) H
theorem AL:e_ X (OP .In) (ZZ X.K Ni):=by
 intro d s k H x y v u Q I f i h;obtain⟨p,b,rfl,hq,g,a,q⟩:=h;cases i;rcases hq with hq|hq
 .obtain⟨its,r,pl,j⟩:=I.list hq
  refine SeqAt.in_listAt (r8 x) pl.isList (λw c=>i9 f g r a w (by simpa using c)) ⟨.c _,H,I,rfl,?_⟩;rw[show its.toArray.any (r8 x)=its.any (r8 x) by simp,j8 r a];exact q
 .obtain⟨its,r,pl,j⟩:=I.tuple hq
  refine SeqAt.in_tupleAt (r8 x) pl (λw c=>i9 f g r a w (by simpa using c)) ⟨.c _,H,I,rfl,?_⟩;rw[show its.toArray.any (r8 x)=its.any (r8 x) by simp,j8 r a];exact q
theorem lP:e_ X (OP .NotIn) (ZZ X.K Nf):=by
 intro d s k H x y v u Q I f i h;obtain⟨p,b,rfl,hq,g,a,q⟩:=h;cases i;rcases hq with hq|hq
 .obtain⟨its,r,pl,j⟩:=I.list hq
  refine SeqAt.notIn_listAt (r8 x) pl.isList (λw c=>i9 f g r a w (by simpa using c)) ⟨.c _,H,I,rfl,?_⟩;rw[show its.toArray.any (r8 x)=its.any (r8 x) by simp,j8 r a];exact q
 .obtain⟨its,r,pl,j⟩:=I.tuple hq
  refine SeqAt.notIn_tupleAt (r8 x) pl (λw c=>i9 f g r a w (by simpa using c)) ⟨.c _,H,I,rfl,?_⟩;rw[show its.toArray.any (r8 x)=its.any (r8 x) by simp,j8 r a];exact q
theorem mj:c7 X (.builtin "len") (λb H Q=>∃p a,b=[.r p]/\(d_ X.K H p a\/f_ X.K H p a)/\Q (.n (SW a)) H):=by
 intro f s j H b e Q I r h;obtain⟨p,a,rfl,hq,q⟩:=h;obtain⟨u,rfl,g⟩:=jo r;cases g;have B:=jZ;rcases hq with hq|hq
 .obtain⟨its,d,pl,i⟩:=I.list hq
  have c:=d.length;exact Calls.call_len_list pl.isList (by simp only[NM]<;>lia) ⟨.n (SW a),H,I.tok _,⟨s.toks+1,by rw[NM,c]⟩,q⟩
 .obtain⟨its,d,pl,i⟩:=I.tuple hq
  have c:=d.length;exact len_tuple pl (by simp only[NM]<;>lia) ⟨.n (SW a),H,I.tok _,⟨s.toks+1,by rw[NM,c]⟩,q⟩
theorem cI:c7 X (.type "list") (λG H Q=>∃p C,G=[.r p]/\(d_ X.K H p C\/f_ X.K H p C)/\∀l,H l=Na->Q (.r l) (upd H l (.l C))):=by
 intro f s v H G M Q I r h;obtain⟨p,C,rfl,hq,q⟩:=h;obtain⟨u,rfl,y⟩:=jo r;cases y
 have g:∀(a:a0g),az C a->SW C<=NN->∀(B:OO) (c:Nat),(∀b t,s.heap.get? b=My t->B.get? b=My t)->
   B.get? s.heap.objs.size=My {cls:= .type "list",dict:=Na,data:= .seq a.toArray c,slots:=#[]}->EP X f v Q (.ref s.heap.objs.size) {s with heap:=B}:=λa d i B c D e=>
  ⟨.r s.heap.objs.size,_,I.laid (t':=s.toks) D (No _) (show bR X.p X.w _ B _ (.l C)from⟨i,a,c,d,e⟩),rfl,q _ (I.hok.fresh (No _))⟩
 rcases hq with hq|hq
 .obtain⟨a,d,pl,i⟩:=I.list hq
  have j:=d.length;obtain⟨o,k,m,n,E⟩:=pl.isList;exact call_list_seq p (.inl rfl) k m E (λB c D e=>g a d i B c D e) (by simp only[NM]<;>lia)
 .obtain⟨a,d,pl,i⟩:=I.tuple hq
  have j:=d.length;obtain⟨o,k,m,n,E⟩:=pl;exact call_list_seq p (.inr rfl) k m E (λB c D e=>g a d i B c D e) (by simp only[NM]<;>lia)
theorem dC:c7 X (.type "tuple") (λC H Q=>∃p a,C=[.r p]/\((d_ X.K H p a/\∀l,H l=Na->Q (.r l) (upd H l (.t a)))\/(f_ X.K H p a/\Q (.r p) H))):=by
 intro c s g H C E Q I r h;obtain⟨p,a,rfl,h⟩:=h;obtain⟨u,rfl,m⟩:=jo r;cases m;rcases h with⟨d,q⟩|⟨d,q⟩
 .obtain⟨its,f,pl,i⟩:=I.list d
  have j:=f.length;refine call_tuple_list pl.isList (λB D=>?_) (by simp only[NM]<;>lia)
  have k:bt X c g H {s with heap:=B}:=I.kept (t':=s.toks) D;have n:bt X c g (upd H B.objs.size (.t a)) {s with heap:=B.push {cls:= .type "tuple",data:= .seq its.toArray}}:=
   k.laid (t':=s.toks) (λb o e=>Nd _ e) (No _) (show bR X.p X.w _ _ _ (.t a)from⟨i,its,f,Yb _ _⟩)
  exact⟨.r B.objs.size,_,n,rfl,q _ (k.hok.fresh (No _))⟩
 .obtain⟨its,f,pl,i⟩:=I.tuple d
  exact call_tuple_same pl ⟨.r p,H,I,rfl,q⟩
def tyV(K:NR)(T:String)(x:V)(H:Hp):Prop:=match x with
 | .q _=>T="str"
 | .n _=>T="int"
 | .r p=>(T="list"/\∃a,d_ K H p a)\/(T="tuple"/\∃o,K.lookup p=My o/\o.cls= .type "tuple"/\o.dict=Na)
 |_=>False
theorem IU{s:Nq}(I:bt X ai j H s)(r:aS x v)(b:tyV X.K T x H):
  s.TypeIs v T/\∀a,v= .ref a->∃d,s.heap.get? a=My d/\d.dict=Na:=by
 cases x with
 |q z=>
  obtain⟨t,rfl⟩:=r;cases(show T="str"from b);exact⟨typeIs_str s z t,λ_ e=>nomatch e⟩
 |n i=>
  obtain⟨t,rfl⟩:=r;cases(show T="int"from b);exact⟨typeIs_int s i t,λ_ e=>nomatch e⟩
 |r p=>
  cases r;rcases b with⟨rfl,C,g⟩|⟨rfl,o,f,h,B⟩
  .obtain⟨its,_,pl,_⟩:=I.list g
   refine⟨pl.isList.typeIs,λa e=>?_⟩;cases e;obtain⟨o,n,e,c,B,_⟩:=pl;exact⟨o,e,B⟩
  .refine⟨⟨o,I.kIn p o f,h⟩,λa e=>?_⟩
   cases e;exact⟨o,I.kIn _ o f,B⟩
 |_=>exact PX b
def Ze(K:NR)(T:String)(r:a0R)(a:TE)(t:TA):TE:=λc H Q=>a c H λx d=>tyV K T x d/\t c d λb f=>r x b f Q
variable{o:Expr}{F:List Expr}{L:TE}{t:TA}{b:Oi}{z a:SA}{T J:String}{r:a0R}
theorem kz(G:PlainAttrs T)(D:Slot T b J)(j:typeOf (.builtin J)=P3 (.type "method_descriptor"))(M:MtR X J r)(n:PE X o L)(S:PA X (e::F) t)
  (f:Tq o b X.e (OQ o X.e)=OQ o X.e:=by rfl)
  (i:((QR a (NL (e::F) X.e)).all (λx=>!x.1)&&(QE a (Pr [] X.e)).all (λx=>x.1.isSome)
   &&decide (SW (e::F)+SW ([]:List Wz)+(if([]:List Wz).isEmpty then 0 else 1)<30))=Nf:=by rfl)
  (g:(z.endLine==a.line)=Nf:=by rfl) (U:b0a X e F:=by rfl) (d:b0b X a F:=by rfl):
  PE X (.Call (.Attribute o b z) (e::F) [] a) (Ze X.K T r L t):=by
 intro c s k H Q I h;refine wpAny_Call_method_late f i g rfl (dt (n c s k H _ I h) λv p ⟨x,q,l,E,V,Y⟩=>?_);obtain⟨u,w⟩:=IU l E V;refine⟨T,J,G,D,j,u,w,?_⟩;have m:=S a c p k q _ l Y;rw[U]at m⊢;refine Wp (by show(Ni||(QR a (NL F X.e)).any (·.1))=Ni;rw[d]<;>rfl) (Calls.evalArgs_plain ?_)
 exact dt m λZ y ⟨N,A,B,C,O⟩=>M c y k A x N v Z Q B E C O
def MtM(X:Cx)(J:String)(r:a0R):Prop:=
 ∀(c:a0c) (s:Nq) (d:St) (H:Hp) (x:V) (a:a0k) (v:Nj) (b:a0g) (Q:VK),bt X c d H s->aS x v->az a b->r x a H Q->
  ND (N0 X.p X.w) X.A (Vb (.builtin J) (v::b)) (EP X c d Q) X.xe s
theorem az.one:∀{x:V} {a:a0g},az [x] a->∃u,a=[u]/\aS x u
 |_,_,.cons r .nil=>⟨_,rfl,r⟩
theorem az.eraseIdx:∀{xs:a0k} {a:a0g} (i:Nat),az xs a->az (xs.eraseIdx i) (a.eraseIdx i)
 |_,_,_,.nil=> .nil
 |_,_,0,.cons _ t=>t
 |_,_,i+1,.cons r t=> .cons r (az.eraseIdx i t)
theorem az.reverse{a:a0k}{b:a0g}(h:az a b):az a.reverse b.reverse:=by
 induction h with
 |nil=>exact .nil
 |cons r t e=>rw[T3,T3];exact az.append e (.cons r .nil)
theorem az.rep(h:az c d):∀k:Nat,az (NX k c).flatten (NX k d).flatten
 |0=> .nil
 |k+1=>by
  rw[Px,Px,Py,Py];exact az.append h (az.rep h k)
theorem rV{a:Type}:∀(l:List a) (i:Nat),SW (l.eraseIdx i)<=SW l
 |[],_=>No _
 |_::_,0=>SZ _
 |_::r,i+1=>QY (rV r i)
theorem rZ(a:a0g):∀(k:Nat) (b:a0g),
  VX (λc d=>c++d) b.toArray (NX k a.toArray)=(b++(NX k a).flatten).toArray
 |0,b=>by simp
 |k+1,b=>by
  have e:b.toArray++a.toArray=(b++a).toArray:=by simp
  have f:(b++a)++(NX k a).flatten=b++(NX (k+1) a).flatten:=by
   rw[Px,Py,Ny]
  rw[<-f,<-rZ a k (b++a),<-e,Px,Vz]
end
section
variable{X:Cx}{R:a0c}{P:St}{H:Hp}{s:Nq}{l b:Nh}{xs ys B:a0k}
theorem bt.lset{b its':a0g}(I:bt X R P H s)(a:H l=My (.l xs))
  (e:s.heap.get? l=My {cls:= .type "list",data:= .seq b.toArray n}) (c:f b.toArray=its'.toArray) (d:az ys its') (g:SW ys<=NN):
  bt X R P (upd H l (.l ys)) {s with heap:=s.heap.update l (OV f),toks:=k}:=by
 have q:=PySem.IsL.update e f;rw[c]at q;refine I.write (x:=l) (e:=l) (by rw[a];exact trivial) (.inl rfl) (λj u h i=>(Wx s.heap (OV f) (Ne.symm h)).trans i) ⟨_,q⟩ ?_;exact⟨g,its',_,d,q⟩
theorem bt.lnew{its:a0g}(I:bt X R P H s)(a:az ys its)(c:SW ys<=NN):
  bt X R P (upd H s.heap.objs.size (.l ys)) {s with heap:=s.heap.push {cls:= .type "list",data:= .seq its.toArray},toks:=t'}:=
 I.laid (λ_ _ q=>Nd _ q) (No _) ⟨c,its,0,a,NE _ rfl⟩
theorem bt.fresh(I:bt X R P H s):H s.heap.objs.size=Na:=I.hok.fresh (No _)
theorem bt.lstM(I:bt X R P H s)(a:H l=My (.l xs)):SW xs<=NN/\∃(b:a0g) (n:Nat),az xs b/\SW xs=SW b/\s.heap.get? l=My {cls:= .type "list",data:= .seq b.toArray n}:=by
 obtain⟨z,b,n,r,e⟩:=I.hok l _ a;exact⟨z,b,n,r,r.length,e⟩
theorem Ei(h:n<=NN):S5 n=Ni:=by
 unfold S5;exact Oo (by lia)
def qE:V->a0k->Hp->VK->Prop:=λx b H Q=>∃l xs y,x= .r l/\b=[y]/\H l=My (.l xs)/\SW xs<NN/\Q .o (upd H l (.l (xs++[y])))
theorem gh:MtM X "list.append" qE:=by
 intro R s P H x B v D Q I c d h;obtain⟨l,xs,y,rfl,rfl,a,g,q⟩:=h;cases c;obtain⟨u,rfl,f⟩:=d.one;obtain⟨z,b,n,r,i,e⟩:=I.lstM a;refine Vq F.slot_list_append ⟨_,e,rfl⟩ F.entry_list_append (X8 _ _) (XU l b.toArray n u (by rw[NM];lia)) ⟨e,?_⟩;refine⟨.o,_,I.lset (its':=b++[u]) a e (by simp) (r.append (.cons f .nil)) ?_,rfl,q⟩;rw[Nw,Oy];lia
def z7:V->a0k->Hp->VK->Prop:=λx b H Q=>∃l xs i k y,x= .r l/\b=[.n i]/\H l=My (.l xs)/\-(2^63)<=i/\i<2^63/\seqIndex? i (SW xs)=My k/\xs[k]?=My y/\Q y (upd H l (.l (xs.eraseIdx k)))
theorem Em:MtM X "list.pop" z7:=by
 intro R s P H x D v E Q I d f h;obtain⟨l,xs,i,k,y,rfl,rfl,c,g,j,m,B,q⟩:=h;cases d;obtain⟨u,rfl,o⟩:=f.one;obtain⟨t,rfl⟩:=o;obtain⟨z,b,n,r,p,e⟩:=I.lstM c;obtain⟨w,A,a⟩:=r.get B;refine Vq F.slot_list_pop ⟨_,e,rfl⟩ F.entry_list_pop (F.args_list_pop_2 _ _)
  (MeetsSeq.list_pop_at l b.toArray n i t k w (fitsIndex_both g j) (by rw[NM,<-p];exact m) (by rw[<-Ox];exact A) (by rw[NM];lia)) ⟨e,?_⟩
 refine⟨y,_,I.lset (its':=b.eraseIdx k) c e ?_ (r.eraseIdx k) ?_,a,q⟩
 .show b.toArray.eraseIdxIfInBounds k=(b.eraseIdx k).toArray
  rw[List.eraseIdxIfInBounds_toArray]
 .have:=rV xs k
  lia
noncomputable def Z1:R2:=λx y H Q=>∃l b xs B,x= .r l/\y= .r b/\H l=My (.l xs)/\H b=My (.l B)/\SW xs+SW B<=NN/\∀p,H p=Na->Q (.r p) (upd H p (.l (xs++B)))
theorem JU:e_ X (QG .Add) Z1:=by
 intro R s P H x y v u Q I c d h;obtain⟨l,b,xs,B,rfl,rfl,f,hB,m,q⟩:=h;cases c;cases d;obtain⟨z,D,n,r,o,e⟩:=I.lstM f;obtain⟨p,a,t,g,i,j⟩:=I.lstM hB;refine Xu e j ?_ (by rw[NM,NM];lia);have k:D.toArray++a.toArray=(D++a).toArray:=by simp
 rw[k];exact⟨.r _,_,I.lnew (t':=s.toks) (r.append g) (by rw[Nw];lia),rfl,q _ I.fresh⟩
noncomputable def ZX:R2:=λx y H Q=>∃l k xs,x= .r l/\y= .n k/\H l=My (.l xs)/\-(2^63)<=k/\k<2^63/\SW xs*k.toNat<=NN/\
 ∀p,H p=Na->Q (.r p) (upd H p (.l (NX k.toNat xs).flatten))
theorem Ig{b:Type}(xs:List b)(k:Nat):(NX k xs).flatten.length=k*SW xs:=by
 induction k with
 |zero=>simp
 |succ k l=>rw[Px,Py,Nw,l,Nat.succ_mul,WJ]
theorem JP:e_ X (QG .Mult) ZX:=by
 intro R s P H x y v u Q I w A h;obtain⟨l,k,xs,rfl,rfl,B,C,J,p,q⟩:=h;cases w;obtain⟨t,rfl⟩:=A;obtain⟨z,b,n,r,L,e⟩:=I.lstM B;have d:b.toArray.size*k.toNat<=NN:=by rw[NM,<-L];exact p
 have f:¬b.toArray.size*k.toNat>(2^63-1)/8:=by
  have:(NN:Nat)<=(2^63-1)/8:=by decide
  lia
 have g:¬(!Builtin.List.listFitsIndex k)=Nf:=by
  rw[fitsIndex_both C J];exact Nz
 have c:¬S5 (b.toArray.size*k.toNat)=Nf:=by
  rw[Ei d];exact Nz
 have i:VX (λj o=>j++o) #[] (NX (if b.toArray.isEmpty=Nf then 0 else k.toNat) b.toArray)=(NX k.toNat b).flatten.toArray:=by
  have N:∀m:Nat,VX (λj o=>j++o) #[] (NX m b.toArray)=(NX m b).flatten.toArray:=λm=>by
   have:=rZ b m [];rw[Ql]at this;exact this
  rw[N];cases b with
  |nil=>simp
  |cons a O=>rw[Nv (by simp)]
 refine wpAny_binaryOp_repeat_ref (T:="list") (U:="int") (by decide) ⟨_,e,rfl⟩ (λD=>typeIs_int D k t) noFill_list_mul F.fills_int_mul F.slot_int_rmul repeat_list F.slot_int_index.lookup
  (Vq F.slot_int_rmul (typeIs_int s k t) F.entry_int_rmul (F.args_int_rmul_2 _ _) (int___rmul___int_list k t l b.toArray n)
   ⟨e,rfl,⟨_,e,rfl⟩,Vq F.slot_list_mul ⟨_,e,rfl⟩ F.entry_list_mul (F.args_list_mul_2 _ _) (AutoListH.list___mul___list_int_3 l b.toArray n k t g f c) ⟨e,?_⟩⟩)
 rw[i];exact⟨.r _,_,I.lnew (t':=s.toks) (r.rep k.toNat) (by rw[Ig,Qw];exact p),rfl,q _ I.fresh⟩
variable{a:N9}{w:Ol}{A:Ot}{E:a0e}
end
end L2
namespace Att
open PySem.W PySem.Calls
theorem pW:∀(D:a0d) (E:a0g),WellAll P h E (D.map WData.int)->SH E D:=by
 intro D
 induction D with
 |nil=>
  intro E w;rw[Q4]at w;cases w;exact .nil
 |cons n D G=>
  intro E w;rw[NI]at w;cases w with
  |cons a b=>
   cases a;exact .cons _ _ (G _ b)
theorem zJ{l:OpenLaw}(G:l.most=My n){h:OO}
  (b:l.row.toRowW.claim.pre args=Nf) (g:WellAll P h vals args):
  ∃a E D,vals=[NH a]/\args=[WData.list (D.map WData.int)]/\h.get? a=My {cls:= .type "list",data:= .seq E.toArray}/\SH E D/\SW D<=n:=by
 have hsh:WShape.hasAll [] args [.list .int]=Nf:=(pre_splitW b).1;have i:l.pre.holds [] {args:=args}=Nf:=(pre_splitW b).2;obtain⟨d,r,rfl,j,k⟩:=hasAllW_cons hsh;obtain rfl:=hasAllW_nil k;obtain⟨K,rfl,m⟩:=hasW_list j;obtain⟨D,rfl⟩:=items_int m;have c:SW D<=n:=by
  unfold OpenLaw.pre at i;have e:(WTm.not (.lt (.lit (.int (n:Int))) (.len (.arg 0)))).holds [] {args:=[.list (D.map .int)]}=Nf:=by
   have e:=(holds_andW i).1;rw[G]at e;exact e
  have f:=condW_of e (w_not (w_lt w_lit (w_len_list (w_arg rfl))));rw[M9]at f;refine RF λq=>?_;have o:(n:Int)<((SW D:Nat):Int):=by lia
  first
   |(rw[NF o]at f;exact NW f (by decide))
   |(simp at f;lia)
 cases g with
 |cons p t=>
  cases t;cases p with
  |list ho hall=>exact⟨_,_,D,rfl,rfl,ho,pW D _ hall,c⟩
theorem AD(l:OpenLaw)(args:List WData):l.row.toRowW.claim.post args (.bool Nf) args=Nf:=
 postW_of (r:=l.row.toRowW) (X:=(Nf==Nf))
  (show WShape.has [] (.bool Nf) .bool=Nf by first|rfl|decide|simp[WShape.has,WShape.arms,WShape.armsAll])
  (show(WTm.eq .res (.lit (.bool Nf))).value [] {args:=args,res:=My (.bool Nf),after:=args}=My (.bool (Nf==Nf))from w_eq_bool (w_res rfl) w_lit) rfl
theorem attach_call{l:OpenLaw}{d:DefRec}
  (P:l.most=My n) (k:d.params.defaults=[])
  (Vb:∀(w:Ol) (D b:Nq) (K m:a0i) (g:Nh) (o:N3) (s M c:Nj) (a:Nh) (E:a0g) (S:a0d),
   Ground q loose [] XP w D K m b.heap->YP w b.heap->
   b.heap.get? g=My o->o.data= .func (docDef d.name d.params d.body d.scope s M c)->b.heap.CodeRec M d.name->K d.name=My (.ref g)->
   b.heap.get? a=My {cls:= .type "list",data:= .seq E.toArray}->SH E S->SW S<=n->b.gens=#[]->
   Sh (N0 l.prog w) VM (.call (.ref g) ⟨[.ref a],[]⟩) (λr V=>r= .ok (.ret (.bool Nf))/\OldK b.heap V.heap/\V.os=b.os/\TZ V.gens) b):
  WalkO q loose XP YP l.row.toRowW d [] (λf E=>Xz f E):=by
 intro w D b K m G Y g o s M c A B C Q p v t F x z T h y H u I;obtain rfl:A= .none:=Dflts.none v k;obtain rfl:B= .none:=Dflts.noKw v;obtain⟨a,E,S,rfl,rfl,i,e,j⟩:=zJ P h u;refine enter_call (SM (Vb w D b K m g o s M c a E S G Y C (fd_plain Q) p t i e j F) λr V J=>?_);obtain⟨rfl,L,N,O⟩:=J;exact⟨.inl ⟨.bool Nf,.bool Nf,[],rfl,λ_=>rfl,.bool Nf,AD l _,λ_=>⟨SU,λ_ R=>(nomatch R)⟩⟩,L,N,O⟩
section
variable{a:N9}{w:Ol}{A:Ot}{E:a0e}{s:Nq}{K:NR}
end
end Att
namespace L2
theorem rh:∀{D:a0g} {E:a0d},SH D E->az (E.map V.n) D
 |_,_,.nil=> .nil
 |_,_,.cons n t h=> .cons ⟨t,rfl⟩ (rh h)
def Gd(H:Hp):Prop:=∀b,H b=Na\/∃o D,H b=My (.frz o (.l D))
theorem EB{K:NR}{c:Nq}{G:a0g}{M:a0d}
  (R:K.In c.heap) (p:c.heap.Ns Qg mg) (g:c.heap.Ns WS mb) (I:∀x:Oi,x≠"__name__"->mb x=Rk x) (t:c.heap.NoLimit) (hg:c.gens=#[])
  (ha:c.heap.get? a=My {cls:= .type "list",data:= .seq G.toArray}) (T:SH G M) (U:SW M<=NN) (hr:dr k VM)
  (F:∀D:OO,K.In D->D.Ns Qg mg->ee P w K mg D CX k fa fd [x] sp) (l:∀(s:Nq) (u:Nj),U4 s fd ⟨[u],[]⟩ [(x,u)])
  (J:∀H:Hp,Gd H->d_ K H a (M.map V.n)->sp [.r a] H (λv _=>v= .c Nf) λ_ _ _=>False)
  (L:∀H e E,CX [] H c (λ_ _ _=>False) e E->False):
  Sh (N0 P w) VM (.call (.ref fa) ⟨[.ref a],[]⟩) (λr E=>r= .ok (.ret (.bool Nf))/\OldK c.heap E.heap/\E.os=c.os/\TZ E.gens) c:=by
 have W:=rh T;have y:=T.length
 --from an abstract heap in which nothing but the script may be tracked
 have j:∀H:Hp,Gd H->d_ K H a (M.map V.n)->j_ P w H c.heap->(∀b,H b≠Na->b=a)->(H a≠Na->K.lookup a=Na)->
   Sh (N0 P w) VM (.call (.ref fa) ⟨[.ref a],[]⟩) (λr E=>r= .ok (.ret (.bool Nf))/\OldK c.heap E.heap/\E.os=c.os/\TZ E.gens) c:=by
  intro H X hS S Y hK;have f:∀{b:Nh} {o:N3},c.heap.get? b=My o->H b=Na->(kM c.heap H).get? b=My o:=λe n=>ES e n;have N:∀{b:Nh} {o:N3} {es:Array Qu} {ep:Nat},c.heap.get? b=My o->o.data= .dict es ep->H b=Na:=λ{b o es ep} e d=>by
   cases q:H b with
   |none=>rfl
   |some u=>
    have O:b=a:=Y b (by rw[q];simp);subst O;rw[ha]at e;cases e;have d':Data.seq G.toArray _=Data.dict es ep:=d;cases d'
  have i:∀{b:Nh} {m:a0i},c.heap.Ns b m->(kM c.heap H).Ns b m:=λ{b m} ⟨o,es,ep,e,d,r⟩=>⟨o,es,ep,f e (N e d),d,r⟩;have A:K.In (kM c.heap H):=λb o e=>f (R b o e) (by
   cases q:H b with
   |none=>rfl
   |some u=>
    have O:b=a:=Y b (by rw[q];simp);subst O;rw[hK (by rw[q];simp)]at e;cases e)
  have hM:Mod K mg (kM c.heap H):=⟨A,i p,⟨mb,i g,I⟩,let ⟨mc,h1,h2⟩:=t;⟨mc,i h1,h2⟩⟩
  have e0:tD P w K mg (kM c.heap H) VM [] c H:=⟨rfl,hM,λb o e=>HW e,WL (CB _ _),trivial,λb g=>NW (show b∈([]:a0r)from g) (by simp),S,.of_eq hg⟩;refine SM ((F _ A (i p)).run VM [] c H ⟨[.ref a],[]⟩ [.ref a] [.r a] _ _ hr e0 (l c (.ref a)) (.cons rfl .nil) (J H X hS)) λr E h=>?_;cases r with
  |error e=>exact(L H e E h).elim
  |ok fl=>
   cases fl with
   |next=>exact PX h
   |brk=>exact PX h
   |cont=>exact PX h
   |ret u=>
    obtain⟨v,H',os,aa,un,B,r',q⟩:=h;have q':v= .c Nf:=q;subst q';obtain rfl:u=Tu Nf:=r';refine⟨rfl,OldK.of_keep λb o e=>?_,os,aa⟩;cases q:H b with
    |none=>exact un.keep b o e q (by intro z;exact NW (show b∈([]:a0r)from z) (by simp)) (by simp)
    |some u=>
     rcases X b with z|⟨ob,xs,z⟩
     .rw[q]at z;cases z
     .have z2:=un.frzs b ob _ z
      obtain⟨Z,_⟩:=S b _ z;obtain⟨e2,_⟩:=B b _ z2;rw[e]at Z;cases Z;exact e2
 cases Q:K.lookup a with
 |some o=>
  --the script is one of the module's own objects
  have e:=R a o Q;rw[ha]at e;cases e;refine j (λ_=>Na) (λ_=> .inl rfl) (.inr ⟨_,G.toArray,_,Q,rfl,rfl,rfl,by rw[NM,y];exact U,by simpa using W⟩) (λb u z=>by have C:(Na:Option HO)=My u:=z;cases C) (λb z=>NW rfl z) λz=>NW rfl z
 |none=>
  refine j (λb=>if b=a then My (.frz {cls:= .type "list",data:= .seq G.toArray} (.l (M.map V.n)))else Na) (λb=>?_) (.inl (.inr ⟨{cls:= .type "list",data:= .seq G.toArray},Nu rfl⟩)) (λb u z=>?_) (λb z=>?_) λ_=>Q
  .by_cases g:b=a
   .exact .inr ⟨_,_,Nu g⟩
   .exact .inl (Nv g)
  .by_cases g:b=a
   .have C:=(Nu g).symm.trans z
    cases C;subst g;exact⟨ha,by rw[M9];exact U,G,_,W,ha⟩
   .have C:=(Nv g).symm.trans z
    cases C
  .by_cases g:b=a
   .exact g
   .exact NW (Nv g) z
theorem walk_of{l:PySem.W.OpenLaw}{n k:Nat}{q:N9}{E:a0j}{XP:(Oi->Option Nj)->OO->Prop}{YP:Ol->OO->Prop}{d:DefRec}{K:V9->NR}{CX:Ol->F_}{sp:Ol->Sp}{x:Oi}
  (hn:l.most=My n) (r:n<=NN) (t:d.params.defaults=[]) (J:dr k VM)
  (L:∀(w:Ol) (h:OO),YP w h->(K w.params).In h)
  (F:∀(w:Ol) (M:a0i) (p:Nh) (h:OO),(K w.params).In h->h.Ns Qg M->M d.name=My (.ref p)->
   ∃B:N1,(∀(s:Nq) (u:Nj),U4 s B ⟨[u],[]⟩ [(x,u)])/\
    ∀D:OO,(K w.params).In D->D.Ns Qg M->ee l.prog w (K w.params) M D (CX w) k p B [x] (sp w))
  (y:∀(w:Ol) (H:Hp) (a:Nh) (S:a0d),SW S<=n->Gd H->d_ (K w.params) H a (S.map V.n)->sp w [.r a] H (λv _=>v= .c Nf) λ_ _ _=>False)
  (A:∀(w:Ol) (H:Hp) (s:Nq) (e:Nj) (z:Nq),CX w [] H s (λ_ _ _=>False) e z->False):
  PySem.W.WalkO q E XP YP l.row.toRowW d [] (λf vs=>Xz f vs):=by
 refine Att.attach_call hn t λw aa j M X p o pm cd N a vs S G Y Z hd O C m i c P=>?_;have I:=L w _ Y;obtain⟨B,Q,hF⟩:=F w M p _ I G.T.g C;exact EB I G.T.g G.T.b G.T.builtins G.T.nolimit P m i (NK c r) J hF Q (λH R U=>y w H a S c R U) λH e z=>A w H j e z
noncomputable def aQ(s:O0)(j:Nat):O0:=match s with
 | .ClassDef _ _ _ body _ _ _ _ _ _ _=>body.getD j (.Pass ⟨0,0,0,0⟩)
 |_=> .Pass ⟨0,0,0,0⟩
noncomputable def iP(s:O0):Arguments:=match s with
 | .FunctionDef _ a _ _ _ _ _ _ _ _=>a
 |_=>{posonlyargs:=[],args:=[],vararg:=Na,kwonlyargs:=[],kw_defaults:=[],kwarg:=Na,defaults:=[]}
noncomputable def cB(s:O0):a0T:=match s with
 | .FunctionDef _ _ b _ _ _ _ _ _ _=>b
 |_=>[]
noncomputable def ak(s:O0):Scope:=match s with
 | .FunctionDef _ _ _ _ _ _ sc _ _ _=>sc
 |_=>{kind:= .function,names:=[],isGenerator:=Ni,isCoroutine:=Ni}
abbrev E0:St->XK:=λ_ _ _ _=>False
structure Fun (K:NR) (x qual:Oi) (st:O0) (f:Nh) (fd:N1):Prop where
 ex:∃(oc:Nj) (od:a0S) (kV doc pm:Nj) (an:a0S) (cdv ct:Nj) (osl:Array (Option Nj)),
  fd=R7 x qual (iP st) (cB st) (ak st) .none kV doc pm an cdv ct/\K.lookup f=My ⟨oc,od,.func fd,osl⟩/\Ta K cdv qual=Nf
 kp:Tf K (.ref f)=Nf
section
variable{P:N9}{w:Ol}{K:NR}{b:a0i}{base:OO}
theorem tz{A:Ot}(a:dr k A):A.units+1<Tv:=Oj (Tp (by decide:1<=64) _) a.units
theorem rC(h:n<=1000):n<NN:=Oj h (by decide)
variable{X:Cx}
theorem pv(i:Nat)(b:X.N[i]?=My x:=by rfl)(c:Y1 X.e.scope x:=by first|exact P5 rfl|exact Re (P5 rfl)|exact Re (Re rfl))(w:b0c x:=by decide)
  (a:(x==("__classdict__":Oi))=Ni:=by decide):PE X (.Name x d) (gH i):=JH b c w a
theorem iteT{A B:Prop}(h:A):if Nf=Nf then A else B:=by
 rw[Nu rfl];exact h
theorem ite2{c A B:Prop} [Decidable c](a:c->A)(b:¬c->B):if c then A else B:=by
 by_cases h:c
 .rw[Nu h]
  exact a h
 .rw[Nv h]
  exact b h
def bT(H a:Hp):Prop:=∀b o,H b=My o->a b=My o
theorem bT.refl(H:Hp):bT H H:=λ_ _ h=>h
theorem bT.trans(a:bT H H1)(b:bT H1 H2):bT H H2:=λc o h=>b c o (a c o h)
theorem bT.free(e:bT H H')(h:H' l=Option.none):H l=Option.none:=by
 cases q:H l with
 |none=>rfl
 |some o=>
  rw[e l o q]at h;cases h
theorem dB:∀(b:a0O) (n:Nat) (acc:a0n),Pz n b acc=Pz n b []++acc
 |[],_,_=>rfl
 |(x,k)::r,n,acc=>by
  unfold Pz;split
  .rw[dB r (n+1) ((x,n)::acc),dB r (n+1) [(x,n)],Ny]
   rfl
  .exact dB r n acc
theorem iu:∀{b:a0O} {n:Nat} {x:Oi} {c:Nh},(x,c)∈Pz n b []->(x,VD)∈b
 |[],_,_,_,h=>by cases h
 |(y,k)::r,n,x,c,h=>by
  unfold Pz at h;split at h
  .rename_i a
   rw[dB]at h;rcases N4.mp h with h|h
   .exact Nk _ (iu h)
   .obtain⟨rfl,_⟩:x=y/\c=n:=by simpa using h
    obtain rfl:k= .cell:=by simpa using a
    exact Np
  .exact Nk _ (iu h)
noncomputable def dj(cells:a0n):a0O->a0n->a0n
 |[],acc=>acc
 |(x,k)::r,acc=>if k== .free then dj cells r ((x,(cells.lookup x).getD 0)::acc)else dj cells r acc
theorem lk{cells:a0n}:∀{b:a0O} {acc:a0n} {x:Oi} {c:Nh},(x,c)∈dj cells b acc->(x,c)∈acc\/((x,QB)∈b/\c=(cells.lookup x).getD 0)
 |[],_,_,_,h=> .inl h
 |(y,k)::r,acc,x,c,h=>by
  unfold dj at h;split at h
  .rename_i a
   obtain rfl:k= .free:=by simpa using a
   rcases lk h with h|⟨h,e⟩
   .rcases NC.mp h with h|h
    .cases h
     exact .inr ⟨Np,rfl⟩
    .exact .inl h
   .exact .inr ⟨Nk _ h,e⟩
  .rcases lk h with h|⟨h,e⟩
   .exact .inl h
   .exact .inr ⟨Nk _ h,e⟩
theorem oF:∀{b:a0O} {w:a0n} {p:Oi×Nh},p∈w->p∈dj cells b w
 |[],_,_,h=>h
 |(y,k)::r,w,p,h=>by
  unfold dj;split
  .exact oF (Nk _ h)
  .exact oF h
theorem oE{cells:a0n}:∀{b:a0O} {acc:a0n} {x:Oi},(x,QB)∈b->(x,(cells.lookup x).getD 0)∈dj cells b acc
 |[],_,_,h=>by cases h
 |(y,k)::r,acc,x,h=>by
  unfold dj;rcases NC.mp h with h|h
  .cases h
   rw[Nu (by decide)];exact oF Np
  .split
   .exact oE h
   .exact oE h
theorem k6{b:Type}:∀{l:List (Oi×b)} {x:Oi} {c:b},(x,c)∈l->∃d,l.lookup x=My d
 |[],_,_,h=>by cases h
 |(y,d)::r,x,c,h=>by
  rw[Uh];cases a:x==y with
  |true=>exact⟨d,rfl⟩
  |false=>
   rcases NC.mp h with h|h
   .cases h
    simp at a
   .exact k6 h
theorem da{w:Type}:∀{l:List (Oi×w)} {x:Oi} {c:w},(l.map (·.1)).Nodup->(x,c)∈l->l.lookup x=My c
 |[],_,_,_,h=>by cases h
 |(y,d)::r,x,c,nd,h=>by
  rw[NI]at nd;obtain⟨a,b⟩:=OE.mp nd;rw[Uh];rcases NC.mp h with h|h
  .cases h
   simp
  .have:x≠y:=λe=>a (e▸List.mem_map_of_mem (f:=(·.1)) h)
   rw[Uy.mpr this];exact da b h
theorem q8{env:Vv}(f:Oi×RK->a0n->WP (ForInStep a0n))
  (g:∀D E K,f (D,E) K=if E== .free then(do let a <-cellOf env D;P3 (.yield ((D,a)::K)))else P3 (.yield K)):
  ∀(w:a0O) (G:a0n),(∀y∈w,y.2= .free->∃c,env.cells.lookup y.1=My c)->WW w G f=P3 (dj env.cells w G)
 |[],_,_=>by rw[Rn];rfl
 |(x,k)::r,G,h=>by
  rw[Rc,g];unfold dj;have i:∀y∈r,y.2= .free->∃c,env.cells.lookup y.1=My c:=λy M=>h y (Nk _ M);by_cases b:(k==QB)=Nf
  .rw[Nu b,Nu b]
   obtain⟨c,j⟩:=h (x,k) Np (by simpa using b);have d:env.cells.lookup x=My c:=j;have e:cellOf env x=P3 c:=by unfold cellOf;rw[d]
   rw[e,d];simp only[pure_bind];exact q8 f g r _ i
  .rw[Nv b,Nv b]
   simp only[pure_bind];exact q8 f g r _ i
theorem yR{b:Scope}{env:Vv}(h:∀y∈b.names,y.2= .free->∃c,env.cells.lookup y.1=My c):closureFor b env=P3 (dj env.cells b.names []):=by
 simp only[closureFor];rw[q8 (env:=env) _ (λD w E=>by cases a:w==QB<;>simp[a]) b.names [] h]
 rfl
theorem E3{M:Vh}{E:a0e}{s:Nq}{w:Scope}
  (f:∀G:OO,G.Ns s.heap.objs.size (λ_=>Na)->(∀b o,s.heap.get? b=My o->G.get? b=My o)->
   (∀n c,(n,c)∈Pz (s.heap.objs.size+1) w.names []->G.IsCell c Na/\s.heap.objs.size+1<=c)->
   ((Pz (s.heap.objs.size+1) w.names []).Pairwise λx y=>x.2≠y.2)->
   Q (newEnv w s.heap.objs.size globals (Pz (s.heap.objs.size+1) w.names cl) g Na .none (My h) WS) {s with heap:=G}):
  ND M A (WZ w globals cl [] g Na .none (My h)) Q E s:=by
 simp only[WZ,Option.isSome_some,OC];refine M8 (wpAny_alloc ?_);refine M8 (wpAny_layCells _ (λS D K=>by cases a:D==VD<;>simp[a]) _ _ _ _ ?_)
 have P:=cellsFrom_ok w.names (s.heap.push {cls:= .type "dict",data:= .dict #[]}) (s.heap.objs.size+1) [] ⟨λ_ _ V=>(nomatch V),SU⟩ (by rw[Pj];exact No _);rw[Pj]at P;rw[show({s with heap:=s.heap.push {cls:= .type "dict",data:= .dict #[]}}:Nq).heap.objs.size=s.heap.objs.size+1 from Pj ..];have d:=f (pushCells (s.heap.push {cls:= .type "dict",data:= .dict #[]}) w.names) ((Heap.Ns.new s.heap (.type "dict")).keeps (pushCells_keeps _ _)) (λb o e=>pushCells_keeps _ _ b o (Nd _ e)) P.empty P.apart;exact M8 (Nb (Nb d))
noncomputable abbrev aM(X:Cx)(a:a0j)(w:Scope)(D:a0n)(C:Nh)(b:a0r)(s:Nq)(H:Hp):Cx:=
 {X with N:=a,s₀:=s,H₀:=H,e:=compEnvC w D C X.e,outer:=X.k,k:=X.k,ex:=b,fn:=λx=>w.names.lookup x !=My .free,pn:=[],xe:=λ_ _=>False}
theorem ij{b:Scope}{y:Oi×RK}(h:y∈(relabel b c).names):y∈b.names\/(y.2= .cell/\(y.1,QB)∈b.names):=by
 obtain⟨⟨n,k⟩,w,e⟩:=Nm.mp h
 dsimp only at e
 split at e
 .rename_i a
  cases e;simp only[N5,RM]at a;obtain⟨⟨a,_⟩,_⟩:=a;subst a;exact .inr ⟨rfl,w⟩
 .cases e
  exact .inl w
theorem EM{X:Cx}{R:St}{s:Nq}{Nc G:a0j}{K:a0a}{w:Scope}{h':OO}(I:bt X ai R H s)
  (hk:w.kind= .function) (g:(w.names.map (·.1)).Nodup) (f:∀y∈w.names,y.2= .free->X.e.kindOf y.1=My .cell\/X.e.kindOf y.1=My .free)
  (T:Nc=G++K.map (λj=>X.N.getD j RH)) (U:∀j∈K,j<SW X.N/\w.names.lookup (X.N.getD j RH)=My .free)
  (F:∀b∈fp,fR X ai H b) (W:∀b∈fp,∃o,s.heap.get? b=My o) (ns:h'.Ns s.heap.objs.size λ_=>Na) (D:∀b o,s.heap.get? b=My o->h'.get? b=My o)
  (O:∀n c,(n,c)∈Pz (s.heap.objs.size+1) w.names []->h'.IsCell c Na/\s.heap.objs.size+1<=c) (ca:(Pz (s.heap.objs.size+1) w.names []).Pairwise λx y=>x.2≠y.2):
  bt (aM X Nc w (Pz (s.heap.objs.size+1) w.names (dj X.e.cells w.names [])) s.heap.objs.size fp s H) [] (NX (SW G) Na++K.map (λj=>R.getD j Na)) H {s with heap:=h'}:=by
 --the cells
 have aa:∀{x:Oi} {c:Nh},(x,c)∈dj X.e.cells w.names []->X.e.cells.lookup x=My c/\(x,QB)∈w.names:=λ{x c} h=>by
  rcases lk h with h|⟨hm,e⟩
  .cases h
  .obtain⟨d,hd⟩:=I.ok.has x (f _ hm rfl)
   rw[hd]at e;exact⟨by rw[hd,e];rfl,hm⟩
 have a:∀{x:Oi} {c:Nh},(Pz (s.heap.objs.size+1) w.names (dj X.e.cells w.names [])).lookup x=My c->
   (x,c)∈Pz (s.heap.objs.size+1) w.names []\/(X.e.cells.lookup x=My c/\(x,QB)∈w.names):=λ{x c} h=>by
  have h:=O6 h;rw[dB]at h;rcases N4.mp h with h|h
  .exact .inl h
  .exact .inr (aa h)
 have E:∀{x:Oi},(x,QB)∈w.names->∃c,X.e.cells.lookup x=My c/\(Pz (s.heap.objs.size+1) w.names (dj X.e.cells w.names [])).lookup x=My c:=λ{x} hm=>by
  obtain⟨d,hd⟩:=I.ok.has x (f _ hm rfl);have e:=oE (cells:=X.e.cells) (acc:=[]) hm;obtain⟨c,Q⟩:=k6 (l:=Pz (s.heap.objs.size+1) w.names (dj X.e.cells w.names [])) (x:=x) (c:=(X.e.cells.lookup x).getD 0) (by rw[dB];exact Oz _ e);rcases a Q with z|⟨z,_⟩
  .have B:=da g (iu z)
   rw[da g hm]at B;cases B
  .exact⟨c,z,Q⟩
 have k:∀{x:Oi} {c:Nh},X.e.cells.lookup x=My c->c<s.heap.objs.size:=λ{x c} h=>let ⟨v,q⟩:=I.cell x c h;q.lt
 have M:H s.heap.objs.size=Na:=I.hok.fresh (No _);have Y:∀b∈fy X.k,b∈X.e.locals::X.fs:=I.stkSub;refine⟨⟨I.ok.mod,hk,I.ok.glob,I.ok.blt,No _,λx y c h1 h2=>?_,λx hx=>?_,λx c hf h=>?_,I.ok.hd,I.ok.frames,.inl rfl,λb J=>⟨?_,λx c h e=>?_⟩,I.bs,NK I.ok.bsz I.sz,λb o e J=>?_,λb J hf=>?_,I.o9,I.stkFree⟩,
  rfl,I.bare,Un.kept D,⟨_,ns,λi x v e1 A e3=>?_⟩,λx c h=>?_,M,λx c h=>?_,λp hp=>NW hp (by simp),I.hok.kept D,?_⟩
 .rcases a h1 with B|⟨B,_⟩<;>rcases a h2 with Z|⟨Z,_⟩
  .exact name_of_addr ca B Z
  .exact NW (NP (k Z) (NK (SZ _) (O _ _ B).2)) (OB _)
  .exact NW (NP (k B) (NK (SZ _) (O _ _ Z).2)) (OB _)
  .exact I.ok.inj _ _ _ B Z
 .--has
  have hx:(relabel w X.e).names.lookup x=My .cell\/(relabel w X.e).names.lookup x=My .free:=hx;have hm:(x,VD)∈w.names\/(x,QB)∈w.names:=by
   rcases hx with hx|hx
   .rcases ij (O6 hx)with z|⟨_,z⟩
    .exact .inl z
    .exact .inr z
   .rcases ij (O6 hx)with z|⟨_,z⟩
    .exact .inr z
    .exact .inr z
  rcases hm with hm|hm
  .have q:=WT w.names (s.heap.objs.size+1) (dj X.e.cells w.names []) (x:=x) (.inl (da g hm))
   exact VY.mp q
  .obtain⟨c,_,Q⟩:=E hm
   exact⟨c,Q⟩
 .--cab
  rcases a h with z|⟨_,z⟩
  .exact NK (SZ _) (O _ _ z).2
  .have z':(w.names.lookup x !=My .free)=Nf:=hf
   rw[da g z]at z';exact NW z' (by decide)
 .obtain⟨o,e⟩:=W b J
  exact Ov (NU e)
 .rcases a h with z|⟨z,_⟩
  .obtain⟨o,e'⟩:=W b J
   subst e;exact NW (NP (NU e') (NK (SZ _) (O _ _ z).2)) (OB _)
  .exact(F b J).2.2.2.2.1 x c z e
 .obtain⟨_,_,_,h4,_⟩:=F b J
  rcases h4 with z|z
  .exact I.ok.noex b o e z
  .exact NW (NP (NU (I.ok.bs b o e).1) z) (OB _)
 .obtain⟨_,h2,h3,_⟩:=F b J
  rcases NC.mp (Y b hf)with z|z
  .exact h2 z
  .exact h3 z
 .--the names' values
  have hi:¬i<SW G:=λhi=>by
   rw[P7 (by simpa using hi),QV]at A;split at A<;>cases A
  have L:(G++K.map (λj=>X.N.getD j RH))[i]?=My x:=by rw[<-T];exact e1
  rw[OU (by lia)]at L;rw[OU (by simpa using hi)]at A;rw[P9]at A;cases q:K[i-SW G]? with
  |none=>rw[Nl,q]at A;cases A
  |some j=>
   rw[Nl,q]at L A;have C:X.N.getD j RH=x:=N6 L;have P:R.getD j Na=My v:=N6 A;obtain⟨hj,t⟩:=U j (NJ q);rw[C]at t;obtain⟨c,Q,ab⟩:=E (O6 t);have ac:X.N[j]?=My x:=by
    rw[<-C,NA,Ng hj];rfl
   have S:R[j]?=My (My v):=by
    have hl:j<SW R:=by rw[I.len];exact hj
    rw[NA,Ng hl]at P;rw[Ng hl];exact Ou My P
   have V:=f _ (O6 t) rfl;obtain⟨m,hn,hl⟩:=I.loc;obtain⟨u,r,l⟩:=hl j x v ac S (V.elim (λz=> .inr (.inl z)) λz=> .inr (.inr z));refine⟨u,r,.inr ⟨?_,c,ab,?_⟩⟩
   .rcases e3 with z|z|z
    .exfalso
     rcases ij (O6 z)with y|⟨y,_⟩
     .rw[da g y]at t;cases t
     .cases y
    .exact .inl z
    .exact .inr z
   .rcases l with⟨l,_⟩|⟨_,c',e,z⟩
    .exfalso
     rcases V with y|y
     .have y':X.e.kindOf x=My .cell:=y
      rw[l]at y';cases y'
     .have y':X.e.kindOf x=My .free:=y
      rw[l]at y';cases y'
    .rw[Q]at e
     cases e;exact z.keeps D
 .rcases a h with z|⟨z,_⟩
  .exact⟨Na,(O _ _ z).1⟩
  .obtain⟨v,q⟩:=I.cell x c z
   exact⟨v,q.keeps D⟩
 .rcases a h with z|⟨z,_⟩
  .exact I.hok.fresh (NK (SZ _) (O _ _ z).2)
  .exact I.freeC x c z
 .show _=SW Nc
  rw[T,Nw,Nw,P9,M9,M9]
abbrev TB:=St->Hp->(St->Hp->Prop)->Prop
abbrev a0Z:=Nh->TB
inductive Yy where
 |L (e:Expr)|S (e:Expr)|D (k v:Expr)
instance:Coe Expr Yy:=⟨.L⟩
noncomputable def p3(c:Yy)(gens:a0Q)(b:Scope)(w:SA):Expr:=match c with
 | .L e=> .ListComp e gens b w
 | .S e=> .SetComp e gens b w
 | .D k v=> .DictComp k v gens b w
noncomputable def Zr(c:Yy)(w:Nj)(b:Vv):WP Unit:=match c with
 | .L e=>do let _ <-Vb (.builtin "list.append") [w,<-OQ e b]
 | .S e=>do let v <-OQ e b;SO e.pos;let _ <-Vb (.builtin "set.add") [w,v]
 | .D k v=>do
   let kv <-OQ k b
   let vv <-T8 [kv] (OQ v b)
   match w with
   | .ref d=>do
    SO {k.pos with endLine:=v.pos.endLine,endCol:=v.pos.endCol}
    T8 [kv,vv] (dictSet d kv vv)
   |_=>unsupported "internal:dictcomp"
noncomputable def ii(c:Yy)(w:a0Q)(D:Scope)(K:SA)(d:Nat)(G:Nj)(b:Vv)(k:WP UF):WP UF:=
 match w[d+1]? with
 |some E=>do
  let x <-OQ E.iter b
  SO E.iter.pos
  let x <-if E.is_async !=0 then foldedIterable E.iter x else OD E.iter b x
  let _ <-runOwn (.compStart (p3 c w D K) (d+1) (<-T8 [x] (if E.is_async !=0 then asyncIter x else UJ x)) G b) b
  k
 |none=>do
  Zr c G b
  k
theorem vT{a b:Expr}(e:f[d]?=My ⟨a,b,l,0⟩):
  compTurn (p3 c f g i) d k j h=(do
   SO b.pos
   match <-Ru k with
   |none=>P3 (.done .next)
   |some v=>
    TV a k v
    TR a h v
    let mut ok:=Nf
    for y in l do
     if ok then ok <-isTrue y h (OQ y h)
    if ok then ii c f g i d j h (Vj (.compLoop (p3 c f g i) d k j h))
    else Vj (.compLoop (p3 c f g i) d k j h)):=by
 cases c<;>(
  unfold compTurn ii p3 Zr
  dsimp only
  rw[e]
  dsimp only
  cases f[d+1]?<;>rfl)
variable{O:N9}{A:Ot}{R:Result->Nq->Prop}{s:Nq}
theorem Ev(C:J[d]?=My ⟨bb,U,T,0⟩)(I:Nat->Nq->Prop)
  (p:∀n s,I n s->ND (N0 O w) A (Ru Q) (λr a=>match r with
   |none=>R (.ok .next) a
   |some v=>ND (N0 O w) A (TV bb Q v) (λ_ b=>ND (N0 O w) A (TR bb F v) (λ_ j=>
    ND (N0 O w) A (WW T Nf λy r=>if r=Nf then do let G <-isTrue y F (OQ y F);P3 (Sy G)else P3 (Sy r)) (λG g=>
     if G=Nf then ∀(k:WP UF) (u:UF->Nq->Prop) (B:a0e),(∀i m,m<n->I m i->ND (N0 O w) A k u B i)->ND (N0 O w) A (ii c J H L d N F k) u B g
     else ∃m,m<n/\I m g) (λ_ _=>False) j) (λ_ _=>False) b) (λ_ _=>False) a) (λ_ _=>False) s)
  (n:Nat) (h:I n s):
  Sh (N0 O w) A (.compLoop (p3 c J H L) d Q N F) R s:=by
 refine codeAny_loop rfl I (λn s hI=>?_) n h
 suffices z:ND (N0 O w) A ((compTurn (p3 c J H L) d Q N F).onRaise (λx=>do noteFrame x F;theTreesLotGoes x)) (λt K=>match t with
   |Fin.done f=>R (Pa f) K
   |Fin.again c'=>c'=Code.compLoop (p3 c J H L) d Q N F/\∃m,m<n/\I m K) (λe K=>R (Except.error e) K) s by cases c<;>exact z
 refine wpAny_noted ?_;rw[vT C];refine M8 (Qk (M8 (OL (p n s hI) (λr a D=>?_) λ_ _ E=>E.elim)));cases r with
 |none=>exact Nb D
 |some v=>
  refine M8 (OL D (λ_ b o=>?_) λ_ _ E=>E.elim);refine M8 (OL o (λ_ j q=>M8 (OL q (λG g l=>?_) λ_ _ E=>E.elim)) λ_ _ E=>E.elim);cases G with
  |false=>exact Nb ⟨rfl,l⟩
  |true=>exact l _ _ _ λi m M hI=>Nb ⟨rfl,m,M,hI⟩
theorem zB(j:l[d]?=My ⟨bb,o,q,0⟩)
  (i:Sh (N0 O w) A (.compLoop (p3 c l k m) d r p n) R s)
  (h:ND (N0 O w) A (UJ r) (λa D=>Sh (N0 O w) A (.compLoop (p3 c l k m) d a p n) R D) (λ_ _=>False) s):
  Sh (N0 O w) A (.compStart (p3 c l k m) d r p n) R s:=by
 refine codeAny_of_tree ?_
 suffices z:ND (N0 O w) A ((compStart (p3 c l k m) d r p n).onRaise (λx=>do noteFrame x n;SO theWindowsPlace)) (λg D=>match g with
   |Fin.done f=>R (Pa f) D
   |Fin.again c'=>c'.quiet=Nf/\Sh (N0 O w) A c' R D) (λe D=>R (Except.error e) D) s by cases c<;>exact z
 refine wpAny_notedAt ?_;unfold compStart;have b:(clausesOf (p3 c l k m))[d]?=My ⟨bb,o,q,0⟩:=by cases c<;>exact j
 generalize (clausesOf (p3 c l k m))[d]?=og at b⊢;subst b;show ND _ _ (ask>>=_) _ _ s;refine M8 (Ti (wpAny_ite ?_));split
 .first
   |exact M8 (Nb (Nb (Wv rfl i)))
   |exact Nb (Wv rfl i)
 .first
   |exact M8 (PH (M8 (Qk (M8 (OL h (λa D E=>Nb (Wv rfl E)) λ_ _ x=>x.elim)))))
   |(refine M8 (PH ?_);show ND _ _ (SO o.pos>>=_) _ _ s;exact M8 (Qk (M8 (OL h (λa D E=>Nb (Wv rfl E)) λ_ _ x=>x.elim))))
def d9(X:Cx)(b:List Expr)(t:TT):Prop:=
 ∀(a:a0c) (s:Nq) (d:St) (H:Hp) (Q:a0W),bt X a d H s->t d H Q->
  ND (N0 X.p X.w) X.A (WW b Nf λc r=>if r=Nf then do let ok <-isTrue c X.e (OQ c X.e);P3 (Sy ok)else P3 (Sy r)) (TP X a d Q) X.xe s
noncomputable def IZ:TT:=λ_ H Q=>Q Nf H
theorem uS{X:Cx}:d9 X [] IZ:=λ_ _ _ H _ I h=>Nb ⟨H,I,h⟩
theorem D6{X:Cx}(d:PT X c t):d9 X [c] t:=λa s e H Q I h=>by
 simp only[Rc,Rn,OC];exact M8 (M8 (OL (d a s e H Q I h) (λb w f=>Nb (Nb f)) λ_ _ x=>x))
def PB(X:Cx)(c:Yy)(gens:a0Q)(E:Scope)(G:SA)(d:Nat)(D:Nh)(t:TB):Prop:=
 ∀(a:a0c) (s:Nq) (e:St) (H:Hp) (Q:a0G),bt X a e H s->t e H Q->
  ∀(k:WP UF) (f:UF->Nq->Prop) (g:a0e),(∀K b h,bt X a b h K->Q b h->ND (N0 X.p X.w) X.A k f g K)->ND (N0 X.p X.w) X.A (ii c gens E G d (.ref D) X.e k) f g s
def dh(J:It)(g:TG)(s:TT)(j:TB):TB:=λc H Q=>∃W:Nat->Nat->St->Hp->Prop,(∃m,W 0 m c H)/\∀i m c H,W i m c H->
 (J.stop i H/\Q c H)\/(J.go i H/\∃N:St->Hp->Prop,(∀d e,N d e->∃f,f<m/\W (i+1) f d e)/\∀x e,J.yld i H x e->g x c e λa k=>s a k λb h=>if b=Nf then j a h N else N a h)
def yW(D:Nh)(c:TE):TB:=λa H Q=>c a H λv b=>∃s,b D=My (.l s)/\SW s<NN/\Q a (upd b D (.l (s++[v])))
def yV(b:TI)(lp:It->TB):TB:=λa H Q=>b a H λJ c=>lp J a c Q
variable{c:Yy}{ac bb P:Expr}{ab:List Expr}{gens:a0Q}{scope:Scope}{aa:SA}{d:Nat}{D:Nh}
theorem so(hg:gens[d]?=My ⟨bb,P,ab,0⟩)(hc:X.calm=Nf)(F:X.xe=λ_ _=>False)(R:PG X bb g)(S:d9 X ab tt)(j:PB X c gens scope aa d D tb)
  {s:Nq}
  (I:bt X ai σ H s) (T:ni X.p X.w X.K bb J fp it tn) (st:tn 0 s.heap) (hf:∀b∈fp,fR X ai H b) (h:dh J g tt tb σ H Q):
  Sh (N0 X.p X.w) X.A (.compStart (p3 c gens scope aa) d (.ref it) (.ref D) X.e) (λr E=>r= .ok .next/\∃a f,bt X ai a f E/\Q a f) s:=by
 obtain⟨W,⟨m0,w0⟩,L⟩:=h;have l:∀{f:Hp},(∀b∈fp,f b=Na)->∀b∈fp,fR X ai f b:=λhn b j=>⟨hn b j,(hf b j).2⟩;have t:Sh (N0 X.p X.w) X.A (.compLoop (p3 c gens scope aa) d (.ref it) (.ref D) X.e) (λr E=>r= .ok .next/\∃a f,bt X ai a f E/\Q a f) s:=by
  refine Ev hg (λn E=>∃i a f,bt X ai a f E/\tn i E.heap/\(∀b∈fp,f b=Na)/\W i n a f) ?_ m0 ⟨0,σ,H,I,st,λb j=>(hf b j).1,w0⟩;rintro n s3 ⟨i,p,Z,I3,O,U,w3⟩;rcases L i n p Z w3 with⟨G,qn⟩|⟨go,N,hN,step⟩
  .refine dt (T.done X rfl rfl rfl hc i ai s3 p Z _ I3 (l U) O G) λr s4 ⟨V,I4⟩=>?_
   subst V;exact⟨rfl,p,Z,I4,qn⟩
  .refine dt (T.item X rfl rfl rfl hc i ai s3 p Z _ I3 (l U) O go) λr s4 ⟨u,V,h4⟩=>?_
   subst V;refine dt h4 λ_ s5 ⟨x,H5,I5,r5,y5,v,ac⟩=>?_;have ad:=I5.pinned (l ac) (T.obj _ _ v);have Vj:∀{q:St} {y:Hp} {B:Nq},bt X (ai++lO fp s5.heap) q y B->N q y->∃m,m<n/\∃i a f,bt X ai a f B/\tn i B.heap/\(∀b∈fp,f b=Na)/\W i m a f:=λ{q y B} C n7=>by
    obtain⟨m',hm,w7⟩:=hN q y n7;refine⟨m',hm,i+1,q,y,C.h0,T.keep _ _ _ v λb j o e=>(C.pin (b,o) (Oz _ (Oz _ (iH j e)))).1,λb j=>?_,w7⟩;obtain⟨o,e,d⟩:=T.obj _ _ v b j;exact(C.pin (b,o) (Oz _ (Oz _ (iH j e)))).2.1
   have h6:=R _ s5 p H5 x u _ ad r5 (step x H5 y5);rw[F]at h6;refine dt h6 λ_ s6 ⟨Y,H6,I6,q6⟩=>?_;have h7:=S _ s6 Y H6 _ I6 q6;rw[F]at h7;refine dt h7 λb B ⟨y,C,M⟩=>?_;cases b with
   |true=>
    rw[Nu rfl]at M⊢;intro k Q' E' hk;refine j _ B Y y N C M k Q' E' λs8 ae H8 I8 n8=>?_;obtain⟨m,hm,z⟩:=Vj I8 n8;exact hk s8 m hm z
   |false=>
    rw[Nv Nz]at M⊢;exact Vj C M
 exact zB hg t (T.self X.A 0 s _ _ st t)
theorem aP(m:gens[d+1]?=Na)(o:PE X ac x)(b:X.xe=λ_ _=>False):PB X ac gens scope aa d D (yW D x):=by
 intro a s g H Q I h k y B p;unfold ii;rw[m];show ND _ _ ((do let _ <-Vb (.builtin "list.append") [.ref D,<-OQ ac X.e])>>=λ_=>k) _ _ _
 have i:=o a s g H _ I h;rw[b]at i;refine M8 (M8 (OL i (λu C ⟨v,J,j,r,w,l,L,q⟩=>?_) λ_ _ f=>f.elim));obtain⟨z,c,n,t,N,e⟩:=j.lstM l;refine M8 (Vq F.slot_list_append ⟨_,e,rfl⟩ F.entry_list_append (X8 _ _) (XU D c.toArray n u (by rw[NM];lia)) ⟨e,?_⟩);refine Nb (p _ g _ (j.lset (its':=c++[u]) l e (by simp) (t.append (.cons r .nil)) ?_) q);rw[Nw,Oy];lia
theorem qI(o:gens[d+1]?=My ⟨target',iter',ifs',0⟩)(p:X.calm=Nf)(a:X.xe=λ_ _=>False)(t:PI X target' iter' wi)
  (j:PG X target' g) (l:d9 X ifs' tt) (u:PB X c gens scope aa (d+1) D tb) (w:∀x,OD iter' X.e x=P3 x:=by intro _;rfl):PB X c gens scope aa d D (yV wi λJ=>dh J g tt tb):=by
 intro b s y H Q I h k Y Z B;unfold ii;rw[o];have i:=t b s y H _ I h;rw[a]at i;refine M8 (OL i (λv E i=>M8 (Qk ?_)) λ_ _ f=>f.elim);show ND _ _ (OD iter' X.e v>>=_) _ _ _;refine M8 (Rh (w v) ?_);show ND _ _ (T8 [v] (UJ v)>>=_) _ _ _;refine M8 (OT (OL i (λC G F=>?_) λ_ _ f=>f.elim));obtain⟨K,M,P,J,R,e,L,T,m,f2,q⟩:=F;subst e;refine M8 (wpAny_runOwn (SM (so o p a j l u L T m f2 q) λr A ⟨N,z⟩=>?_));subst N;obtain⟨n,O,U,W⟩:=z;exact B A n O U W
noncomputable def j7(b:a0j)(c:a0a)(a:St):St:=NX (SW b) Na++c.map (λj=>a.getD j Na)
def ZA(X:Cx)(mk:WP Nj)(g:Nh->HO):Prop:=∀(a:a0c) (s:Nq) (f:St) (H:Hp) (E:a0e) (Q:a0e),bt X a f H s->
 (∀e:Nq,bt X a f (upd H s.heap.objs.size (g s.heap.objs.size)) e->(∀b o,s.heap.get? b=My o->e.heap.get? b=My o)->Q (.ref s.heap.objs.size) e)->ND (N0 X.p X.w) X.A mk Q E s
theorem u7{X:Cx}:ZA X (newList []) λ_=> .l []:=λa s f H E Q I h=>Oh (h _ (I.lnew (t':=s.toks) .nil (OH _)) λb o e=>Nd _ e)
def oW(c:a0j)(d:a0a)(e:TI)(lp:Nh->It->TB):TE:=λa H Q=>e a H λJ b=>∀D,b D=Na->lp D J (j7 c d a) (upd b D (.l [])) λ_ f=>Q (.r D) f
structure cp (X:Cx) (scope:Scope) (Nc b_:a0j) (br:a0a):Prop where
 kind:scope.kind= .function
 nd:(scope.names.map (·.1)).Nodup
 free:∀y∈scope.names,y.2= .free->X.e.kindOf y.1=My .cell\/X.e.kindOf y.1=My .free
 names:Nc=b_++br.map (λj=>X.N.getD j RH)
 cap:∀j∈br,j<SW X.N/\scope.names.lookup (X.N.getD j RH)=My .free
variable{R:a0Q}{Nc b_:a0j}{br:a0a}{g:TG}{tt:TT}{tb:a0Z}{wi:TI}
def LT(X:Cx)(a:a0c)(H:Hp)(C:Nh):Prop:=H C=Na/\C≠X.e.locals/\X.s₀.heap.objs.size<=C/\(∀x c,X.e.cells.lookup x=My c->c≠C)/\∀p∈X.pn++a,p.1≠C
theorem ig{c:Yy}{mk:WP Nj}{B:Nh->HO}(O:ZA X mk B){f:a0c}{F:St}{H:Hp}{s:Nq}{it:Nh}{h:a0r}{Q:Nat->OO->Prop}{J:It}{E:a0e}{QQ:Nh->Hp->Prop}{RR:Nj->Nh->Result->Nq->Prop}
  (hc:X.calm=Nf) (S:cp X scope Nc b_ br)
  (L:∀(cl:a0n) (C:Nh) (h:a0r) (s:Nq) (H:Hp),PG (aM X Nc scope cl C h s H) bb g/\d9 (aM X Nc scope cl C h s H) ab tt/\∀D,PB (aM X Nc scope cl C h s H) c (⟨bb,P,ab,0⟩::R) scope aa 0 D (tb D))
  (I:bt X f F H s) (T:ni X.p X.w X.K bb J h it Q) (st:Q 0 s.heap) (U:∀b∈h,fR X f H b)
  (q:∀D,H D=Na->dh J g tt (tb D) (j7 b_ br F) (upd H D (B D)) λ_ k=>QQ D k)
  (W:∀(D C:Nh) (M:Nq) (k:Hp) (m:a0i),bt X f F k M->M.heap.Ns C m->LT X f k C->QQ D k->RR (.ref D) C (.ok .next) M):
  ND (N0 X.p X.w) X.A mk (λV t=>ND (N0 X.p X.w) X.A (WZ scope X.e.globals (dj X.e.cells scope.names []) [] X.e.qual Na .none (My X.e)) (λj u=>
   Sh (N0 X.p X.w) X.A (.compStart (p3 c (⟨bb,P,ab,0⟩::R) scope aa) 0 (.ref it) V {j with scope:=relabel scope X.e}) (RR V j.locals) u) E t) E s:=by
 refine O f s F H _ _ I λi l y=>?_;have hD:H s.heap.objs.size=Na:=I.fresh;have q3:=q s.heap.objs.size hD;have Y:∀b∈h,∃o,i.heap.get? b=My o:=λb L=>let ⟨o,e,_⟩:=T.obj _ _ st b L;⟨o,y b o e⟩
 have Z:∀b∈h,fR X f (upd H s.heap.objs.size (B s.heap.objs.size)) b:=λb a=>⟨by
  rw[a_]
  .exact(U b a).1
  .obtain⟨o,e,_⟩:=T.obj _ _ st b a
   exact Ov (NU e),(U b a).2⟩
 generalize ac:upd H s.heap.objs.size (B s.heap.objs.size)=H3 at l q3 Z;generalize s.heap.objs.size=D at hD ac q3⊢;refine E3 λh' ns G ce ca=>?_;have N:=EM l S.kind S.nd S.free S.names S.cap Z Y ns G ce ca;obtain⟨b1,b2,b3⟩:=L (Pz (i.heap.objs.size+1) scope.names (dj X.e.cells scope.names [])) i.heap.objs.size h i H3;have ad:Q 0 h':=T.keep _ _ _ st λb L o e=>G b o (y b o e);have f4:∀b∈h,fR (aM X Nc scope (Pz (i.heap.objs.size+1) scope.names (dj X.e.cells scope.names [])) i.heap.objs.size h i H3) [] H3 b:=λb a=>
  ⟨(Z b a).1,(N.ok.exf b a).1,N.ok.exfs b a,.inl a,(N.ok.exf b a).2,λp hp=>NW hp (by simp)⟩
 refine SM (so (X:=aM X Nc scope (Pz (i.heap.objs.size+1) scope.names (dj X.e.cells scope.names [])) i.heap.objs.size h i H3) (gens:=⟨bb,P,ab,0⟩::R) (d:=0) rfl hc rfl b1 b2 (b3 D) N T ad f4 q3) λr M ⟨hr,ae,k,n,q'⟩=>?_;subst hr;obtain⟨m,hm,_⟩:=n.loc;have C1:X.e.locals<i.heap.objs.size:=l.lt;refine W D _ M k m (l.call' (ch:=h) n.os n.base n.hok n.bare λb a=>?_) hm ⟨n.free,Qj C1,l.sz,λx c e z=>?_,λp hp z=>?_⟩ q'
 .obtain⟨_,h2,h3,h4,h5,h6⟩:=U b a
  exact⟨h4,h2,h5,h6⟩
 .obtain⟨v,e'⟩:=l.cell x c e
  exact NW (z▸e'.lt) (OB _)
 .have:=NU (l.pin p hp).1
  rw[z]at this;exact NW this (OB _)
theorem bt.letgo{s:Nq}(I:bt X ai h H s)(o:LT X ai H C)(c:Oa C s.heap i):bt X ai h H {s with heap:=i}:=
 I.turned (t':=s.toks) (λb f a e=>(c.2 b a).trans e) o.1 (Ne.symm (Ne.symm o.2.1)) (.inr o.2.2.1) o.2.2.2.1 o.2.2.2.2
theorem cp.clo(S:cp X scope Nc b_ br)(b:X.Ok):closureFor scope X.e=P3 (dj X.e.cells scope.names []):=yR λy c a=>b.has y.1 (S.free y c a)
theorem cp.h0(S:cp X scope Nc b_ br):∀x∈scope.names,x.2= .local->scope.names.lookup x.1=My .local:=λx b a=>da S.nd (by rw[<-a];exact b)
theorem mK(j:X.calm=Nf)(S:cp X scope Nc b_ br)(k:PI X bb P wi)
  (l:∀(d:a0n) (C:Nh) (b:a0r) (s:Nq) (H:Hp),PG (aM X Nc scope d C b s H) bb g/\d9 (aM X Nc scope d C b s H) ab tt/\∀D,PB (aM X Nc scope d C b s H) ac (⟨bb,P,ab,0⟩::R) scope aa 0 D (tb D))
  (G:∀x,OD P X.e x=P3 x:=by intro _;rfl):PE X (.ListComp ac (⟨bb,P,ab,0⟩::R) scope aa) (oW b_ br wi λD J=>dh J g tt (tb D)):=by
 intro a s n H Q I h;rw[eval_ListComp];refine Q0 (use:=Na) rfl G (S.clo I.ok) S.kind S.h0 (OL (k a s n H _ I h) (λv N o=>OL o (λp O r=>?_) λ_ _ x=>x) λ_ _ x=>x);obtain⟨M,b,U,J,W,e,t,T,f,f2,q⟩:=r;subst e;refine ig (c:= .L ac) u7 (RR:=λE C=>WU (N0 X.p X.w) X.A X.xe Na _ E C) j S l t T f f2 q λD C V u m y K B F=>?_;exact⟨m,K,λz i=>⟨.r D,u,y.letgo B i,rfl,F⟩⟩
theorem wI{b f:SA}(y:X.N.Nodup)(l:X.N[i]?=My x)(G:xl X.e.scope x)(B:X.calm=Nf)(S:cp X scope Nc b_ br)(F:PI X bb P wi)
  (O:∀(d:a0n) (C:Nh) (k:a0r) (s:Nq) (H:Hp),PG (aM X Nc scope d C k s H) bb g/\d9 (aM X Nc scope d C k s H) ab tt/\∀D,PB (aM X Nc scope d C k s H) ac (⟨bb,P,ab,0⟩::R) scope aa 0 D (tb D))
  (n:Tg (.ListComp ac (⟨bb,P,ab,0⟩::R) scope aa) (My (.Name x b)) f.line X.e=P3 Nf:=by rfl)
  (K:∀x,OD P X.e x=P3 x:=by intro _;rfl) (U:b0d X x:=by first|exact .inl rfl|exact .inr rfl|assumption):
  PS X (.Assign [.Name x b] (.ListComp ac (⟨bb,P,ab,0⟩::R) scope aa) f) (gm (oW b_ br wi λD J=>dh J g tt (tb D)) (dQ i)):=by
 intro j s W H D I h;rw[exec_Assign_Name_used _ _ _ _ n];refine M8 (Qk (M8 ?_));show ND _ X.A (do let _ <-comprehension (.ListComp ac (⟨bb,P,ab,0⟩::R) scope aa) scope X.e _ (newList []) Ni (OQ P X.e) (My (TR (.Name x b) X.e))) _ _ s
 refine M8 (OL (Q0 (use:=My (TR (.Name x b) X.e)) (Q:=λ_ s'=>SP X j D .next s') rfl K (S.clo I.ok) S.kind S.h0
  (OL (F j s W H _ I h) (λv s1 Y=>OL Y (λZ M V=>?_) λ_ _ e=>e) λ_ _ e=>e)) (λ_ s' hq=>Nb (Nb hq)) λ_ _ e=>e)
 obtain⟨it,k,tn,J,H2,e,o,T,p,f2,q⟩:=V;subst e;refine ig (c:= .L ac) u7 (RR:=λE C=>WU (N0 X.p X.w) X.A X.xe (My (TR (.Name x b) X.e)) _ E C) B S O o T p f2 q λA C s' H' m I' ns r q'=>?_;show ND _ X.A (TR (.Name x b) X.e (.ref A)) _ _ s';refine VR (lz I' y l G (v:= .r A) rfl (λM o ⟨a,sb,ha⟩=>?_) U);have t:C≠a:=by
  rcases ha with rfl|ha
  .exact r.2.1
  .exact λz=>r.2.2.2.1 x a ha z.symm
 exact⟨m,ns.sameBut sb t,λh' u=>⟨_,H',o.letgo r u,q'⟩⟩
end
end L2
namespace L2
open Sem (wp)
open Builtin Builtin.ObjectAttr
structure Yv (h:OO) (C:Nh) (bm:a0g):Prop where
 at_:∃(nm q:Oi) (N:Nh) (bs:a0g) (hdct:Bool) (sn:a0j) (sub:a0g) (ab:Bool) (col:a0E) (dd:a0S) (k0 k1 k2 k3 k5:Option Nj),
  h.get? C=My (excClassObj nm q C N bs bm hdct sn sub ab col dd k0 k1 k2 k3 k5 "ValueError.__new__")
 val:bm.contains (.type "ValueError")=Nf
 bas:bm.contains (.type "BaseException")=Nf
 att:bm.contains (.type "AttributeError")=Ni
 nam:bm.contains (.type "NameError")=Ni
section
variable{i:N9}{w:Ol}{A:Ot}{E:a0e}{h:OO}{g:Array GenState}{d:Drawn}{t:Nat}{j:UH}{C:Nh}{k f:a0g}
noncomputable def xk:a0g->Bool
 |[.type a,.type b,.type c,.type d]=>a=="ValueError"&&b=="Exception"&&c=="BaseException"&&d=="object"
 | .ref _::r=>xk r
 |_=>Ni
variable{s:Nq}{e:Nh}{K:NR}{b:ClassData}{a:Oi}{v:Nj}
end
end L2
namespace L2
theorem bR.there{h:OO}(x:bR P w H h a o):∃b,h.get? a=My b:=by
 cases o with
 |l xs=>obtain⟨_,_,_,_,e⟩:=x;exact⟨_,e⟩
 |t xs=>obtain⟨_,_,_,_,e,_⟩:=x;exact⟨_,e⟩
 |ins C dx fs=>obtain⟨_,_,_,e,_⟩:=x;exact⟨_,e⟩
 |u y=>exact x
 |xd fs=>obtain⟨_,⟨_,_,_,e,_⟩,_⟩:=x;exact⟨_,e⟩
 |rng lo hi=>obtain⟨_,_,_,e⟩:=x;exact⟨_,e⟩
 |frz b u=>obtain⟨e,_⟩:=x;exact⟨_,e⟩
 |tbl ps=>exact⟨_,(show h.get? a=My _ from x)⟩
 |met f y=>exact⟨_,(show h.get? a=My _ from x)⟩
 |ext φ=>obtain⟨_,e,_⟩:=x;exact e
structure S_ (P:N9) (w:Ol) (outer:a0C) (H:Hp) (s:Nq) (E:XK) (x C:Nh) (H':Hp) (s':Nq):Prop where
 os:s'.os=s.os
 bare:TZ s'.gens
 un:Un (fy outer) [] H H' s.heap s'.heap
 hok:j_ P w H' s'.heap
 tr:∃(oe:N3) (vs:a0D) (T:Nh) (oT:N3) (ts:a0D) (a0:Nj),s'.heap.get? x=My oe/\(oe.cls= .ref C/\vs[0]?=My a0)/\oe.data= .fields vs/\vs[1]?=My (.ref T)/\T≠x/\s'.heap.get? T=My oT/\oT.data= .fields ts/\ts[3]?=My .none/\H' T=Na/\s.heap.get? T=Na
 xn:H' x=Na
 xs:s.heap.get? x=Na
 wish:E (.ref C) Na H'
def fx(P:N9)(w:Ol):F_:=λD H s E e G=>∃x C a,e= .ref x/\S_ P w D H s E x C a G
theorem BK{X:Cx}{s G:Nq}{E:XK}(I:bt X ai σ H s)(g:X.k=X.e::X.outer)(i:X.e.frame=My X.e.locals)(Q:X.ex=[])
  (os:G.os=X.s₀.os) (M:TZ G.gens) (d:Un (fy X.k) [] X.H₀ H' X.s₀.heap G.heap) (S:j_ X.p X.w H' G.heap) (y:∀b∈fy X.k,H' b=Na)
  (c:∀b∈ext,X.s₀.heap.get? b=Na/\H' b=Na) (hx:x∈ext) (V:E (.ref C) Na H')
  (L:Heap.LeftW (Yj G.heap (ext++fy X.k)) (X.e::X.outer) x (.ref C) a0 G.heap h'):S_ X.p X.w X.outer X.H₀ X.s₀ E x C H' {G with heap:=h'}:=by
 obtain⟨R,L2,U,W⟩:=L;have j:∀b∈fy X.outer,b∈fy X.k:=λb hb=>by
  rw[g];unfold fy;rw[Pw,i];exact Nk _ hb
 have h:∀b∈fy X.k,b=X.e.locals\/b∈fy X.outer:=λb hb=>by
  rw[g]at hb;unfold fy at hb;rw[Pw,i]at hb;exact NC.mp hb
 have A:∀b o,X.s₀.heap.get? b=My o->b≠X.e.locals:=λb o e=>Ov (NP (NU e) I.ok.above);have D:∀b o,G.heap.get? b=My o->b∉ext->b∉fy X.k->h'.get? b=My o:=λb o e B Y=>
  R b o (hideAll_get _ e λhm=>(N4.mp hm).elim B Y)
 have k:∀b o,X.s₀.heap.get? b=My o->b∉ext:=λb o e hb=>by rw[(c b hb).1]at e;cases e
 have f:∀b∈fy X.k,∃o,h'.get? b=My o/\∀vs,o.data≠ .fields vs:=λb hb=>(L2.mem (by rw[<-g];exact hb)).2;obtain⟨Z,vs,T,oT,O,he,hc,hd,B,l,F,P,m,h3⟩:=U;have p:H' T=Na/\X.s₀.heap.get? T=Na:=by
  by_cases hm:T∈ext++fy X.k
  .rcases N4.mp hm with hm|hm
   .exact⟨(c T hm).2,(c T hm).1⟩
   .obtain⟨o,e,K⟩:=f T hm
    rw[P]at e;cases e;exact NW m (K O)
  .have hs:G.heap.get? T=Na:=by
    cases q:G.heap.get? T with
    |none=>rfl
    |some o=>rw[hideAll_get _ q hm]at l;cases l
   constructor
   .cases q:H' T with
    |none=>rfl
    |some o=>obtain⟨ob,e⟩:=(S T o q).there;rw[hs]at e;cases e
   .cases q:X.s₀.heap.get? T with
    |none=>rfl
    |some o=>obtain⟨ob,e⟩:=d.there T o q (by simp);rw[hs]at e;cases e
 refine⟨os,M,⟨λb o e n hb _=>?_,λb o e n hb _=>?_,λb o e n hb=>d.free b o e n hb,λb o e _=>?_,d.tups,d.frzs,d.tbls⟩,λa o e=>?_,⟨Z,vs,T,oT,O,a0,he,hc,hd,B,F,P,m,h3,p.1,p.2⟩,(c x hx).2,(c x hx).1,V⟩
 .have K:b∉fy X.k:=λz=>(h b z).elim (A b o e) hb
  exact D b o (d.keep b o e n K (by simp)) (k b o e) K
 .obtain⟨sl,r⟩:=d.slot b o e n (j b hb) (by simp)
  obtain⟨_,J,v,K⟩:=I.ok.funs.mem hb;rw[e]at v;cases v;obtain⟨N,e3⟩:=W b _ r K;exact⟨N,e3⟩
 .obtain⟨J,r⟩:=d.there b o e (by simp)
  by_cases hb:b∈fy X.k
  .obtain⟨o2,v,_⟩:=f b hb
   exact⟨o2,v⟩
  .exact⟨J,D b J r (k b o e) hb⟩
 .refine(S a o e).stay (λb u hb r=>?_) (λ_ q=>q) λ_ _ q=>q
  have t:H' b≠Na:=by
   rcases hb with rfl|hb
   .rw[e];simp
   .rw[hb];simp
  exact D b u r (λz=>t (c b z).2) λz=>t (y b z)
theorem CH{h base:OO}(d:h.FunFrames base l)(c:∀b∈fy l,b∈as):h.FunFrames (Yj h as) l:=
 PySem.W.funFrames_hide d λD e a E=>c a (by unfold fy;exact TD.mpr ⟨D,e,E⟩)
theorem HP{X:Cx}{E F:XK}(a:X.k=X.e::X.outer)(d:X.e.frame=My X.e.locals)(f:X.ex=[])(R:∀D J H,F D J H->E D J H)
  (I:bt X ai σ H s) (h:fx X.p X.w X.k H s F e s'):
  ND (N0 X.p X.w) X.A (leaving X.e e) (λ_ j=>fx X.p X.w X.outer X.H₀ X.s₀ E e j) E1 s':=by
 obtain⟨x,C,N,rfl,os,G,S,V,⟨U,vs,T,W,Y,a0,Z,hc,hd,h1,k,hT,m,h3,n,p⟩,xn,xs,K⟩:=h;have M:∀b∈X.fs,b∈fy X.k:=λb hb=>by
  rw[a];unfold fy;rw[Pw,d];exact Nk _ hb
 have O:Un (fy X.k) [] X.H₀ H X.s₀.heap s.heap:=by
  have b:=I.base;rw[f]at b;exact b.mono M λ_ z=>z
 have U0:=O.trans S;have g:∀b,s.heap.get? b=Na->X.s₀.heap.get? b=Na:=λb e=>by
  cases q:X.s₀.heap.get? b with
  |none=>rfl
  |some o=>obtain⟨o',P⟩:=O.there b o q (by simp);rw[e]at P;cases P
 have c:=I.o9;have i:s'.heap.FunFrames X.base X.k:=by
  have aa:∀(l:a0C),(∀b∈fy l,b∈fy X.k)->s.heap.FunFrames X.base l->s'.heap.FunFrames X.base l:=by
   intro l
   induction l with
   |nil=>intro _ _;trivial
   |cons ab r ih=>
    intro hs hl;obtain⟨hk,⟨L,o,t,hn,u,v⟩,hr⟩:=hl;have Q:L∈fy X.k:=hs L (by unfold fy;rw[Pw,t];exact Np);obtain⟨sl,e⟩:=S.slot L o u (I.stkFree L Q) Q (by simp);exact⟨hk,⟨L,_,t,hn,e,v⟩,ih (λb hb=>hs b (by unfold fy;rw[Pw,t];exact Nk _ hb)) hr⟩
  exact aa X.k (λ_ hb=>hb) c
 have y:∀b∈fy X.k,N b=Na:=λb hb=>by
  obtain⟨_,o,u,_⟩:=c.mem hb;exact S.free b o u (I.stkFree b hb) (by simp)
 have B:∀b∈fy X.k,b∈[x,T]++fy X.k:=λb hb=>Oz _ hb;have hF:s'.heap.FunFrames (Yj s'.heap ([x,T]++fy X.k)) (X.e::X.outer):=by
  have z:=CH i B;rw[a]at z⊢;exact z
 refine wpAny_leaving_nextW (base:=Yj s'.heap ([x,T]++fy X.k)) (by rw[<-a];exact I.ok.frames) hF d ⟨U,vs,T,W,Y,Z,hc,hd,h1,Yk _ (by simp),k,hT,m,h3⟩ (λb o q=>WO _ q) (Yk _ (by simp)) λh' L=>?_;refine⟨x,C,N,rfl,BK I a d f (os.trans I.os) G U0 V y (λb hb=>?_) (by simp) (R _ _ _ K) L⟩;rcases NC.mp hb with rfl|hb
 .exact⟨g _ xs,xn⟩
 .obtain rfl:b=T:=by simpa using hb
  exact⟨g _ p,n⟩
section
variable{X:Cx}{c:a0c}{a:St}{H d:Hp}{s b:Nq}{E:XK}{x C:Nh}
structure XC (K:NR) (C:Nh):Prop where
 sh:∃bm,∀h:OO,K.In h->Yv h C bm
 sa:Su K (.ref C) "__setattr__"=My (My (.builtin "object.__setattr__"))
 cd:∃cd,PySem.W.clsIn K C=My cd/\cd.hasDict=Nf/\xk cd.mro=Nf
structure XMk (K:NR) (C f:Nh):Prop where
 xc:XC K C
 init:Su K (.ref C) "__init__"=My (My (.ref f))
 fn:isFn K (.ref f)=Nf
 kp:Tf K (.ref C)=Nf
end
section
variable{X:Cx}{n:F_}{k:Nat}{f C:Nh}{i:N1}{h:a0j}{g:Sp}{c:a0k}{l:a0g}{E:a0t}{x m:Oi}{p b a:SA}{e o:Expr}{j:List Expr}{d:TE}{t:TA}
structure Y7 (K:NR) (D:Nh) (m:Oi) (f:Nh):Prop where
 ga:specialIn K (.ref D) "__getattribute__"=My (My (.builtin "type.__getattribute__"))
 rd:PySem.W.readsIn K D (.type "type")=Nf
 fnd:PySem.W.findCls K (.ref D) (.type "type") m=My (.val (.ref f))
 kp:Tf K (.ref f)=Nf
end
section
variable{P:N9}{w:Ol}{K:NR}{y:a0i}{base:OO}{N:a0j}{u:Oi}{i:Scope}{f:Nh}{j:Nj}{A:Ot}{v:a0C}{s:Nq}{H:Hp}{E:XK}
theorem kC:db (fx P w) (fP (fx P w) P w K y base N u i f j A v s H E) (λ_=>E):=λa b c d e D I h=>HP (X:=fP (fx P w) P w K y base N u i f j A v s H E) rfl rfl rfl (λ_ _ _ z=>z) I h
theorem x6:db (fx P w) X E0:=λ_ _ _ _ _ _ _ h=>by
 obtain⟨_,_,_,_,F⟩:=h;exact F.wish.elim
theorem cj:PassesOwn (N0 P w) (A.deeper (Ss u i s.heap.objs.size f j)) (Ss u i s.heap.objs.size f j) (fP (fx P w) P w K y base N u i f j A v s H E).xe:=PassesOwn.leaving
structure io (K:NR) (x u:Oi) (st:O0) (f:Nh) (fd:N1):Prop where
 ex:∃(oc:Nj) (od:a0S) (dV kV doc pm:Nj) (an:a0S) (cdv ct:Nj) (osl:Array (Option Nj)),
  fd=R7 x u (iP st) (cB st) (ak st) dV kV doc pm an cdv ct/\K.lookup f=My ⟨oc,od,.func fd,osl⟩/\Ta K cdv u=Nf
 kp:Tf K (.ref f)=Nf
theorem Ir{K:NR}{x u:Oi}{i:O0}{f:Nh}(l:K.lookup f=My ⟨oc,od,.func (R7 x u (iP i) (cB i) (ak i) dV kV doc pm an a ct),b⟩)
  (c:Ta K a u=Nf) (k:Tf K (.ref f)=Nf):io K x u i f (R7 x u (iP i) (cB i) (ak i) dV kV doc pm an a ct):=⟨⟨oc,od,dV,kV,doc,pm,an,a,ct,b,rfl,l,c⟩,k⟩
theorem io.okE{x u:Oi}{G:O0}{f:Nh}{N M:a0j}(F:io K x u G f r)(S:ba N M (ak G))(V:∀D H Q E,q D H Q E->SW D=SW M)
  (b:∀(a:Nj) (A:Ot) (v:a0C) (s:Nq) (H:Hp) (D:a0k) (Q:VK) (E:XK),dr k (A.deeper (Ss u (ak G) s.heap.objs.size f a))->q D H Q E->
   ∃t,PSs (fP (fx P w) P w K y base N u (ak G) f a A v s H E) (cB G) t/\t {nx:=λ_ e=>Q .o e,rt:=Q} (fY N D) H):ee P w K y base (fx P w) (k+1) f r M q:=by
 obtain⟨l,m,n,o,g,z,p,a,B,h,rfl,i,c⟩:=F.ex;exact GZ i c S V λA v s H D Q E j d=>b a A v s H D Q E j d
theorem io.ok{x u:Oi}{G:O0}{f:Nh}{N M:a0j}(F:io K x u G f z)(S:ba N M (ak G))(V:∀D H Q E,sp D H Q E->SW D=SW M)
  (b:∀(a:Nj) (A:Ot) (v:a0C) (s:Nq) (H:Hp) (D:a0k) (Q:VK) (E:XK),dr k (A.deeper (Ss u (ak G) s.heap.objs.size f a))->sp D H Q E->
   ∃t,PSs (fP (fx P w) P w K y base N u (ak G) f a A v s H E).nox (cB G) t/\t {nx:=λ_ e=>Q .o e,rt:=Q} (fY N D) H):ee P w K y base (fx P w) (k+1) f z M sp:=by
 obtain⟨m,n,o,p,g,B,r,a,C,i,rfl,j,c⟩:=F.ex;refine GZ j c S V λA v s H D Q E l d=>?_;obtain⟨t,h,q⟩:=b a A v s H D Q E l d;exact⟨t,h.nox,q⟩
abbrev TJ:=St->Hp->Nat->(Nat->Hp->Prop)->Prop
variable{X:Cx}{es:List Expr}{t:TJ}{b:SA}
theorem su(i:X.calm=Nf):c7 X (.builtin "sum") (λf H Q=>∃(a:Nh) (t:a0d),f=[.r a]/\d_ X.K H a (t.map V.n)/\Q (.n t.sum) H):=by
 intro b s o H f D Q I r h;obtain⟨a,t,rfl,j,q⟩:=h;cases r with
 |cons A k=>
  cases A;cases k;obtain⟨w,l,p,u⟩:=I.list j;have c:=pX l;obtain⟨f,y⟩:=c.allInts.items;have d:=p.isList;rw[y]at d;refine sum_intListG (I.ok.hd i) d λE v G m=>?_;have e:preSum (numAt f) f.size=t.sum:=by
   have g:=c.numsOf;have n:w=(WX f).toList:=by rw[<-y]
   rw[n,nums_intItems]at g;rw[preSum_eq,OJ (by simp),g]
  rw[e];exact⟨.n t.sum,H,I.kept m,⟨_,rfl⟩,q⟩
def tU(i j:Int):Prop:=0<j/\j.natAbs.log2<9000
theorem Ef:e_ X (QG .FloorDiv) (rI tU λi j=> .n (i/j)):=n_ λi j _ _ _ _ _ a q=>by
 have b:(0:Int)<j:=a.1;refine floordiv_int (by lia) ?_ (.inl (VJ a.2));rw[TL _ (by lia)];exact q
def YT(C:a0X)(f:a0N):Zv:=λx y H Q=>∃i j,x= .n i/\y= .n j/\C i j/\Q (.n (f i j)) H
theorem Io:Zx X .FloorDiv (YT tU λi j=>i/j):=by
 intro a s d H x y v u Q I f b h;obtain⟨i,j,rfl,rfl,c,q⟩:=h;obtain⟨t,rfl⟩:=f;obtain⟨w,rfl⟩:=b;have e:(0:Int)<j:=c.1;refine ifloordiv_int (by lia) ?_ (.inl (VJ c.2));rw[TL _ (by lia)];exact⟨.n _,H,I.tok _,⟨_,rfl⟩,q⟩
theorem zh:∀{b:List String} {f:a0g},az (b.map V.ty) f->f=b.map QP
 |[],_,r=>by cases r;rfl
 |c::b,_,r=>by
  cases r with
  |cons i a=>
   cases i;rw[zh a];rfl
theorem yS{K:NR}{xs:a0k}{H:Hp}(Pv:Nat->St->Hp->Prop)(u:Pv 0 c H)(k:∀i c H,i<=SW xs->Pv i c H->d_ K H a xs)
  (h:∀i x c H,xs[i]?=My x->Pv i c H->g x c H λd v=>z d v λb r=>if b=Nf then B d r (Pv (i+1))else Pv (i+1) d r) (l:∀c H,Pv (SW xs) c H->Q c H):dh (Y6 K a) g z B c H Q:=by
 refine⟨λi m c H=>i<=SW xs/\m+i=SW xs/\Pv i c H,⟨SW xs,OH _,by lia,u⟩,λi m c H ⟨n,s,j⟩=>?_⟩;by_cases o:i<SW xs
 .refine .inr ⟨⟨xs,xs[i],k i c H n j,Ng o⟩,Pv (i+1),λy p q=>⟨m-1,by lia,by lia,by lia,q⟩,λx p ⟨e,f⟩=>?_⟩
  subst e;exact h i x c p (f xs (k i c p n j)) j
 .obtain rfl:i=SW xs:=by lia
  exact .inl ⟨⟨xs,k _ c H n j,No _⟩,l c H j⟩
theorem cp.f5{X:Cx}{i:Scope}(k:i.kind= .function)(b:(i.names.map (·.1)).Nodup)(f:∀y∈i.names,y.2≠ .free):cp X i b_ b_ []:=
 ⟨k,b,λy s e=>NW e (f y s),by simp,λj a=>NW a (by simp)⟩
def tT(i j:Int):Prop:=i.natAbs<2^1000/\j.natAbs<2^1000
theorem jF{k:Int}(h:k.natAbs<2^1000):VS k<=2^20:=by
 unfold VS;split
 .exact OH _
 .rename_i a
  have b:k.natAbs≠0:=by
   intro z;have:k=0:=Int.natAbs_eq_zero.mp z;subst this;simp at a
  have:=(Nat.log2_lt b).mpr h;have e:(2:Nat)^20=1048576:=by decide
  lia
theorem gM{X:Cx}:e_ X (QG .Mult) (rI tT λi j=> .n (i*j)):=n_ λ_ _ _ _ _ _ _ a q=>mul_int q (W9 (jF a.1) (jF a.2))
theorem bT.upd{H:Hp}(h:H a=Na):bT H (upd H a o):=λb u e=>by rw[a_ (aI e h)];exact e
abbrev dv:=Int×a0d
abbrev a0p:=List (dv×Nh×V)
abbrev a0B:=List (dv×Nh×Nj)
abbrev a0H:=List dv
noncomputable def hI(k:a0d):Int:=reduceHash (SG (k.map hashInt))
def hB:Bool->dv->Int
 |true,k=>reduceHash (SG [hashInt k.1,hI k.2])
 |false,k=>hI k.2
def yZ(a:Nh)(b:Bool)(i:Nat)(j:a0p)(h:OO):Prop:=
 ∃o es,∃f:a0B,h.get? a=My o/\o.ExactDict/\o.data= .dict es i/\es.toList=f.map (λy=>⟨hB b y.1,.ref y.2.1,y.2.2⟩)/\(f.map (·.1)).Nodup/\(a==Th)=Ni/\SW f<=NN/\
  TM (λ(x:dv×Nh×V) (y:dv×Nh×Nj)=>x.1=y.1/\x.2.1=y.2.1/\aS x.2.2 y.2.2) j f
noncomputable def cU(a:Nh)(b:Bool)(f:Nat)(i:a0p):HO:= .ext (yZ a b f i)
theorem qY{P:N9}{w:Ol}{b:Bool}{H:Hp}(S:yZ a b g l h):bR P w H h a (cU a b g l):=by
 refine⟨S,?_,λc d z k=>?_⟩
 .obtain⟨o,_,_,e,_⟩:=S
  exact⟨o,e⟩
 .obtain⟨o,es,ys,e,r⟩:=z
  exact⟨o,es,ys,k _ e,r⟩
end
end L2
namespace L2.Pu
theorem i_{D d e:Sort _}{P Q R:D->d->e->Prop}{C:Prop}(h:∃a b c,P a b c/\Q a b c/\R a b c)(k:∀a b c,P a b c->Q a b c->R a b c->C):C:=by
 obtain⟨a,b,c,x,y,z⟩:=h;exact k a b c x y z
theorem ot{D c:Sort _}{P Q R:D->c->Prop}{C:Prop}(h:∃a b,P a b/\Q a b/\R a b)(k:∀a b,P a b->Q a b->R a b->C):C:=by
 obtain⟨a,b,x,y,z⟩:=h;exact k a b x y z
inductive D where
 |o|c (b:Bool)|n (i:Int)|q (x:Oi)|ty (n:String)|txt
 |l (xs:List D)|t (xs:List D)|scr (xs:a0d)|obj (C:Nh) (ns:a0j) (xs:List D)|bag|adr (a:Nh)|dct (b:Bool) (ks:a0H) (vs:List D)
abbrev a0b:=List D
abbrev a0l:=Option D
abbrev a0u:=List a0b
abbrev a0z:=Option a0b
abbrev a1a:=D->D->a0l
structure Bg where
 cells:a0d
 i:Int
 j:Int
structure Fx where
 A:Nh->Prop
 bg:a0m
def KL(K:NR)(a:Nh)(E:a0k):Prop:=
 ∃(o:N3) (D:a0D) (n:Nat),K.lookup a=My o/\o.cls= .type "list"/\o.dict=Na/\o.data= .seq D n/\D.size<=NN/\az E D.toList
def KT(K:NR)(a:Nh)(E:a0k):Prop:=
 ∃(o:N3) (D:a0D) (n:Nat),K.lookup a=My o/\o.cls= .type "tuple"/\o.data= .seq D n/\D.size<=NN/\az E D.toList
def TQ(K:NR)(F:Fx)(H:Hp)(c:Nh)(D:a0k):Prop:=(¬F.A c/\Rd H c (.t D))\/KT K c D
def fQ(K:NR)(F:Fx)(H:Hp):Bool->dv->Nh->Prop
 |true,k,c=>∃e,TQ K F H c [.n k.1,.r e]/\TQ K F H e (k.2.map V.n)
 |false,k,c=>k.1=0/\TQ K F H c (k.2.map V.n)
mutual
noncomputable def bc(K:NR)(F:Fx)(H:Hp):D->V->Prop
 | .o,v=>v= .o
 | .c b,v=>v= .c b
 | .n i,v=>v= .n i
 | .q x,v=>v= .q x
 | .ty n,v=>v= .ty n
 | .txt,v=>∃z,v= .q z
 | .l ds,v=>∃a E,v= .r a/\(¬F.A a/\Rd H a (.l E))/\aj K F H ds E
 | .scr ns,v=>∃a,v= .r a/\((¬F.A a/\Rd H a (.l (ns.map V.n)))\/KL K a (ns.map V.n))
 | .t ds,v=>∃a E,v= .r a/\((¬F.A a/\Rd H a (.t E))\/KT K a E)/\aj K F H ds E
 | .obj C ns ds,v=>∃a c E,v= .r a/\¬F.A a/\H a=My (.ins C c (ns.zip E))/\SW ns=SW E/\aj K F H ds E
 | .bag,v=>∃b l,F.bg=My (b,l)/\v= .r b
 | .adr a,v=>v= .r a
 | .dct b ks vs,v=>∃a G E,v= .r a/\(¬F.A a/\H a=My (cU a b G E))/\ks=E.map (·.1)/\(∀x∈E,fQ K F H b x.1 x.2.1)/\aj K F H vs (E.map (·.2.2))
noncomputable def aj(K:NR)(F:Fx)(H:Hp):a0b->a0k->Prop
 |[],xs=>xs=[]
 |d::ds,xs=>∃x r,xs=x::r/\bc K F H d x/\aj K F H ds r
end
structure Tr (F:Fx) (H:Hp) (F2:Fx) (H2:Hp):Prop where
 av:∀a,¬F.A a->H a≠Na->¬F2.A a
 kp:∀a o,¬F.A a->H a=My o->H2 a=My o
 bg:F2.bg=F.bg
theorem Tr.refl(F:Fx)(H:Hp):Tr F H F H:=⟨λ_ h _=>h,λ_ _ _ h=>h,rfl⟩
theorem Tr.trans(a:Tr F H F1 H1)(b:Tr F1 H1 F2 H2):Tr F H F2 H2:=
 ⟨λx c d=>b.av x (a.av x c d) (by
   cases q:H x with
   |none=>exact NW q d
   |some o=>rw[a.kp x o c q];simp),
  λx o c d=>b.kp x o (a.av x c (by rw[d];simp)) (a.kp x o c d),b.bg.trans a.bg⟩
theorem Rd.tr{F b:Fx}(t:Tr F H b H2)(h:¬F.A a)(r:Rd H a u):¬b.A a/\Rd H2 a u:=by
 rcases r with r|⟨o,r⟩
 .exact⟨t.av a h (by rw[r];simp),.inl (t.kp a _ h r)⟩
 .exact⟨t.av a h (by rw[r];simp),.inr ⟨o,t.kp a _ h r⟩⟩
theorem TQ.tr{K:NR}(t:Tr F H F2 H2)(h:TQ K F H c xs):TQ K F2 H2 c xs:=h.imp (λh=>Rd.tr t h.1 h.2) id
theorem fQ.tr{K:NR}{b:Bool}(t:Tr F H F2 H2)(h:fQ K F H b k c):fQ K F2 H2 b k c:=by
 cases b with
 |true=>
  obtain⟨e,a,d⟩:=h;exact⟨e,a.tr t,d.tr t⟩
 |false=>exact⟨h.1,h.2.tr t⟩
mutual
theorem bc.tr{K:NR}(t:Tr F H F2 H2):∀(d:D) (v:V),bc K F H d v->bc K F2 H2 d v
 | .o,v,h=>h
 | .c b,v,h=>h
 | .n i,v,h=>h
 | .q x,v,h=>h
 | .ty n,v,h=>h
 | .txt,v,h=>h
 | .l ds,v,h=>by
  unfold bc at h⊢;obtain⟨a,E,e,c,f⟩:=h;exact⟨a,E,e,Rd.tr t c.1 c.2,aj.tr t ds E f⟩
 | .scr ns,v,h=>by
  unfold bc at h⊢;obtain⟨a,e,c⟩:=h;exact⟨a,e,c.imp (λ⟨p,q⟩=>Rd.tr t p q) id⟩
 | .t ds,v,h=>by
  unfold bc at h⊢;obtain⟨a,E,e,c,f⟩:=h;exact⟨a,E,e,c.imp (λ⟨p,q⟩=>Rd.tr t p q) id,aj.tr t ds E f⟩
 | .obj C ns ds,v,h=>by
  unfold bc at h⊢;obtain⟨a,k,E,e,c,f,g,j⟩:=h;exact⟨a,k,E,e,t.av a c (by rw[f];simp),t.kp a _ c f,g,aj.tr t ds E j⟩
 | .bag,v,h=>by
  unfold bc at h⊢;rw[t.bg];exact h
 | .adr a,v,h=>by
  unfold bc at h⊢;exact h
 | .dct b ks vs,v,h=>by
  unfold bc at h⊢;obtain⟨a,G,E,e,c,f,g,j⟩:=h;exact⟨a,G,E,e,⟨t.av a c.1 (by rw[c.2];simp),t.kp a _ c.1 c.2⟩,f,λx M=>(g x M).tr t,aj.tr t vs _ j⟩
theorem aj.tr{K:NR}(t:Tr F H F2 H2):∀(ds:a0b) (xs:a0k),aj K F H ds xs->aj K F2 H2 ds xs
 |[],xs,h=>h
 |d::ds,xs,h=>by
  unfold aj at h⊢;obtain⟨x,r,e,a,b⟩:=h;exact⟨x,r,e,bc.tr t d x a,aj.tr t ds r b⟩
end
section
variable{K:NR}{F:Fx}{H:Hp}
theorem aj.f5:aj K F H [] []:=rfl
theorem aj.cons(h:bc K F H d x)(t:aj K F H ds xs):aj K F H (d::ds) (x::xs):=⟨x,xs,rfl,h,t⟩
theorem aj.length:∀{ds:a0b} {xs:a0k},aj K F H ds xs->SW ds=SW xs
 |[],xs,h=>by have e:xs=[]:=h;subst e;rfl
 |d::ds,xs,h=>by
  obtain⟨x,r,e,_,a⟩:=h;subst e;rw[NB,NB,aj.length a]
theorem aj.get:∀{ds:a0b} {xs:a0k} {i:Nat} {d:D},aj K F H ds xs->ds[i]?=My d->∃x,xs[i]?=My x/\bc K F H d x
 |[],_,_,_,_,e=>by simp at e
 |c::ds,xs,0,d,h,e=>by
  obtain⟨x,r,q,a,b⟩:=h;subst q;simp at e;subst e;exact⟨x,rfl,a⟩
 |c::ds,xs,i+1,d,h,e=>by
  obtain⟨x,r,q,a,b⟩:=h;subst q;obtain⟨y,f,g⟩:=aj.get (i:=i) (d:=d) b (by simpa using e);exact⟨y,by simpa using f,g⟩
theorem aj.getV:∀{E:a0b} {D:a0k} {i:Nat} {x:V},aj K F H E D->D[i]?=My x->∃d,E[i]?=My d/\bc K F H d x
 |[],D,_,_,h,e=>by have q:D=[]:=h;subst q;simp at e
 |c::E,D,0,d,h,e=>by
  obtain⟨x,r,q,a,b⟩:=h;subst q;simp at e;subst e;exact⟨c,rfl,a⟩
 |c::E,D,i+1,d,h,e=>by
  obtain⟨x,r,q,a,b⟩:=h;subst q;obtain⟨y,f,g⟩:=aj.getV (i:=i) (x:=d) b (by simpa using e);exact⟨y,by simpa using f,g⟩
theorem aj.append:∀{ds E:a0b} {xs D:a0k},aj K F H ds xs->aj K F H E D->aj K F H (ds++E) (xs++D)
 |[],_,xs,_,h,h'=>by have q:xs=[]:=h;subst q;exact h'
 |c::ds,E,xs,D,h,h'=>by
  obtain⟨x,r,q,a,b⟩:=h;subst q;exact⟨x,r++D,rfl,a,aj.append b h'⟩
theorem aj.take:∀{ds:a0b} {xs:a0k} (n:Nat),aj K F H ds xs->aj K F H (ds.take n) (xs.take n)
 |[],xs,n,h=>by have q:xs=[]:=h;subst q;simp;rfl
 |c::ds,xs,0,h=>by simp;rfl
 |c::ds,xs,n+1,h=>by
  obtain⟨x,r,q,a,b⟩:=h;subst q;exact⟨x,r.take n,rfl,a,aj.take n b⟩
theorem aj.drop:∀{ds:a0b} {xs:a0k} (n:Nat),aj K F H ds xs->aj K F H (ds.drop n) (xs.drop n)
 |[],xs,n,h=>by have q:xs=[]:=h;subst q;simp;rfl
 |c::ds,xs,0,h=>h
 |c::ds,xs,n+1,h=>by
  obtain⟨x,r,q,b,a⟩:=h;subst q;exact aj.drop n a
theorem aj.set:∀{ds:a0b} {xs:a0k} (i:Nat) {d:D} {x:V},aj K F H ds xs->bc K F H d x->aj K F H (ds.set i d) (xs.set i x)
 |[],xs,i,_,_,h,_=>by have q:xs=[]:=h;subst q;simp;rfl
 |c::ds,xs,0,d,x,h,hd=>by
  obtain⟨y,r,q,b,a⟩:=h;subst q;exact⟨x,r,rfl,hd,a⟩
 |c::ds,xs,i+1,d,x,h,hd=>by
  obtain⟨y,r,q,b,a⟩:=h;subst q;exact⟨y,r.set i x,rfl,b,aj.set i a hd⟩
theorem bc.h0(h:bc K F H (.l d) v):∃a D,v= .r a/\d_ K H a D/\aj K F H d D:=by
 unfold bc at h;obtain⟨a,D,e,b,c⟩:=h;exact⟨a,D,e,.inl b.2,c⟩
theorem bc.rdL(h:bc K F H (.l d) v):∃a D,v= .r a/\Rd H a (.l D)/\aj K F H d D:=by
 unfold bc at h;obtain⟨a,D,e,b,c⟩:=h;exact⟨a,D,e,b.2,c⟩
theorem bc.scr{D:a0d}(h:bc K F H (.scr D) v):∃a,v= .r a/\d_ K H a (D.map V.n):=by
 unfold bc at h;obtain⟨a,e,b⟩:=h;exact⟨a,e,b.imp (λp=>p.2) id⟩
theorem bc.f5(h:bc K F H (.t d) v):∃a D,v= .r a/\f_ K H a D/\aj K F H d D:=by
 unfold bc at h;obtain⟨a,D,e,b,c⟩:=h;exact⟨a,D,e,b.imp (λp=>p.2) id,c⟩
theorem bc.int(h:bc K F H (.n i) v):v= .n i:=h
theorem bc.bl{i:Bool}(h:bc K F H (.c i) v):v= .c i:=h
theorem bc.o9(h:bc K F H (.q i) v):v= .q i:=h
theorem bc.o7(h:bc K F H .o v):v= .o:=h
theorem bc.ty(h:bc K F H (.ty n) v):v= .ty n:=h
theorem aj.o7:∀(E:a0d) {G:a0k},aj K F H (E.map D.n) G->G=E.map V.n
 |[],G,h=>h
 |n::E,G,h=>by
  obtain⟨x,r,e,a,b⟩:=h;rw[e,aj.o7 E b];have q:x= .n n:=a;rw[q];rfl
theorem aj.k4:∀(E:a0d),aj K F H (E.map D.n) (E.map V.n)
 |[]=>rfl
 |n::E=>⟨.n n,E.map V.n,rfl,rfl,aj.k4 E⟩
structure Fr (F:Fx) (H:Hp) (β:Bg):Prop where
 occ:∀a,F.A a->H a≠Na
 bgA:∀b l,F.bg=My (b,l)->F.A b/\F.A l/\b≠l
 bag:∀b l,F.bg=My (b,l)->H b=My (.l [.r l,.n β.i,.n β.j])/\H l=My (.l (β.cells.map V.n))
structure To (F:Fx) (H H':Hp) (β':Bg):Prop where
 kp:∀a o,H a=My o->(∀b l,F.bg=My (b,l)->a≠b/\a≠l)->H' a=My o
 fr:Fr F H' β'
theorem To.refl{F:Fx}{H:Hp}(fr:Fr F H a):To F H H a:=⟨λ_ _ h _=>h,fr⟩
theorem To.trans{F:Fx}{H c d:Hp}(a:To F H c β1)(b:To F c d β2):To F H d β2:=⟨λx o h n=>b.kp x o (a.kp x o h n) n,b.fr⟩
theorem Fr.same{F:Fx}{H c:Hp}(fr:Fr F H d)(s:bT H c):To F H c d:=
 ⟨λa o h _=>s a o h,⟨λa h q=>(by
  cases e:H a with
  |none=>exact fr.occ a h e
  |some o=>exact NW ((s a o e).symm.trans q) (by simp)),fr.bgA,λb l e=>⟨s _ _ (fr.bag b l e).1,s _ _ (fr.bag b l e).2⟩⟩⟩
theorem Fr.upd{F:Fx}{H:Hp}(fr:Fr F H a)(o:HO)(h:H p=Na):To F H (upd H p o) a:=fr.same (bT.upd h)
theorem Fr.fresh{F:Fx}{H:Hp}(fr:Fr F H a)(h:H p=Na):¬F.A p:=λq=>fr.occ p q h
theorem To.tr{F:Fx}{H c:Hp}(fr:Fr F H f)(t:To F H c d):Tr F H F c:=
 ⟨λ_ h _=>h,λa o h e=>t.kp a o e λb l q=>⟨λz=>h (z▸(fr.bgA b l q).1),λz=>h (z▸(fr.bgA b l q).2.1)⟩,rfl⟩
abbrev Dn:=List a0l
structure hW (K:NR) (F:Fx) (H:Hp) (δ:Dn) (σ:St):Prop where
 len:SW δ=SW σ
 tell:∀(i:Nat) (d:D),δ[i]?=My (My d)->∃v,σ[i]?=My (My v)/\bc K F H d v
theorem hW.tr{K:NR}{F a:Fx}{H b:Hp}(t:Tr F H a b)(h:hW K F H c f):hW K a b c f:=⟨h.len,λi d e=>let ⟨v,h1,h2⟩:=h.tell i d e;⟨v,h1,bc.tr t d v h2⟩⟩
theorem hW.set{K:NR}{F:Fx}{H:Hp}{D:Dn}{a:St}(h:hW K F H D a)(E:bc K F H d v):hW K F H (D.set i (My d)) (a.set i (My v)):=by
 refine⟨by rw[Om,Om,h.len],λj c e=>?_⟩;rw[Pf]at e;rw[Pf];by_cases q:i=j
 .subst q
  rw[Nu rfl]at e⊢;split at e
  .rename_i b
   cases e;rw[Nu (by rw[<-h.len];exact b)];exact⟨v,rfl,E⟩
  .cases e
 .rw[Nv q]at e⊢
  exact h.tell j c e
def Sub(F E:Dn):Prop:=∀(i:Nat) (d:D),F[i]?=My (My d)->E[i]?=My (My d)
theorem hW.sub{K:NR}{F:Fx}{H:Hp}{E D:Dn}(h:hW K F H D a)(s:Sub E D)(l:SW E=SW D):hW K F H E a:=⟨l.trans h.len,λi d e=>h.tell i d (s i d e)⟩
abbrev M(D:Type):=Bg->Option (Except Nh D×Bg)
abbrev a0s:=Dn->M Bool
noncomputable def M.h0{D:Type}(a:D):M D:=λE=>My (.ok a,E)
noncomputable def M.v{D b:Type}(m:M D)(k:D->M b):M b:=λE=>match m E with
 |none=>Na
 |some (.error C,β1)=>My (.error C,β1)
 |some (.ok a,β1)=>k a β1
noncomputable def M.f{D:Type}(o:Option D):M D:=λE=>match o with
 |some a=>My (.ok a,E)
 |none=>Na
noncomputable def M.o8{D:Type}:M D:=λ_=>Na
theorem M.o9{D b:Type}(a:D)(k:D->M b):M.v (M.f (My a)) k=k a:=rfl
theorem M.k4{D b:Type}{m:M D}{k:D->M b}{β β1:Bg}{a:D}(h:m β=My (.ok a,β1)):M.v m k β=k a β1:=by unfold M.v;rw[h]
theorem M.o7{E a:Type}{m:M E}{k:E->M a}{F D:Bg}{C:Nh}(h:m F=My (.error C,D)):M.v m k F=My (.error C,D):=by unfold M.v;rw[h]
def run{D c:Type}(R:Hp->D->c->Prop)(F:Fx)(E:a0t)(e:St)(m:M D)(H:Hp)(Q:c->Hp->Prop)(G:Bg):Prop:=
 ∃r a,m G=My (r,a)/\match r with
  | .ok d=>∀v b,To F H b a->R b d v->Q v b
  | .error C=>∀b,To F H b a->E e (.ref C) Na b
theorem run.mono{D c:Type}{R:Hp->D->c->Prop}{F:Fx}{E:a0t}{g:St}{m:M D}{H:Hp}{Q i:c->Hp->Prop}{β:Bg}(h:run R F E g m H Q β)(f:∀v a,Q v a->i v a):run R F E g m H i β:=by
 obtain⟨r,b,e,h⟩:=h;refine⟨r,b,e,?_⟩;cases r with
 |ok d=>exact λv a t q=>f v a (h v a t q)
 |error C=>exact h
theorem run.bind{D j g i:Type}{R:Hp->D->j->Prop}{R2:Hp->g->i->Prop}{F:Fx}{E:a0t}{b:St}{m:M D}{k:D->M g}{H:Hp}{Q:i->Hp->Prop}{G:Bg}(h:run R2 F E b (M.v m k) H Q G):
  run R F E b m H (λv a=>∃d β1,To F H a β1/\R a d v/\run R2 F E b (k d) a Q β1) G:=by
 obtain⟨r,c,e,h⟩:=h;cases q:m G with
 |none=>unfold M.v at e;rw[q]at e;cases e
 |some z=>
  obtain⟨K,β1⟩:=z;refine⟨K,β1,q,?_⟩;cases K with
  |error C=>
   rw[M.o7 q]at e;cases e;exact h
  |ok d=>
   rw[M.k4 q]at e;intro v a t S;refine⟨d,β1,t,S,r,c,e,?_⟩;cases r with
   |ok V=>exact λl f t2 n=>h l f (t.trans t2) n
   |error C=>exact λf t2=>h f (t.trans t2)
theorem run.k4{D b:Type}{R:Hp->D->b->Prop}{F:Fx}{E:a0t}{c:St}{a:D}{v:b}{H:Hp}{Q:b->Hp->Prop}{β:Bg}(fr:Fr F H β)(h:run R F E c (M.h0 a) H Q β)(r:R H a v):Q v H:=by
 obtain⟨_,_,e,h⟩:=h;cases e;exact h v H (To.refl fr) r
theorem run.h0{D c:Type}{R:Hp->D->c->Prop}{F:Fx}{E:a0t}{d:St}{o:Option D}{H:Hp}{Q:c->Hp->Prop}{G:Bg}(h:run R F E d (M.f o) H Q G):∃a,o=My a/\∀v b,To F H b G->R b a v->Q v b:=by
 obtain⟨_,_,e,h⟩:=h;cases o with
 |none=>cases e
 |some a=>cases e;exact⟨a,rfl,h⟩
abbrev FD:=Dn->M D
abbrev a1c:=Option (FD)
abbrev FL:=Dn->M a0b
def tV(K:NR)(f:FD)(E:a0t):TE:=λa H Q=>∃F D G,Fr F H G/\hW K F H D a/\run (bc K F) F E a (f D) H Q G
def hO(K:NR)(f:FL)(E:a0t):TA:=λa H Q=>∃F D G,Fr F H G/\hW K F H D a/\run (aj K F) F E a (f D) H Q G
def hL(K:NR)(f:a0s)(E:a0t):TT:=λc H Q=>∃F D G,Fr F H G/\hW K F H D c/\run (λ_ (a b:Bool)=>b=a) F E c (f D) H Q G
theorem _root_.L2.PE.imp(h:PE X e t)(f:∀a H Q,c a H Q->t a H Q):PE X e c:=λb s a H Q I q=>h b s a H Q I (f a H Q q)
theorem _root_.L2.PT.imp(h:PT X e t)(f:∀a H Q,c a H Q->t a H Q):PT X e c:=λb s a H Q I q=>h b s a H Q I (f a H Q q)
theorem _root_.L2.PW.imp(h:PW X e t)(f:∀a H Q,d a H Q->t a H Q):PW X e d:=λc b s a H Q I q=>h c b s a H Q I (f a H Q q)
theorem _root_.L2.PA.imp(h:PA X e t)(f:∀a H Q,c a H Q->t a H Q):PA X e c:=λD b s a H Q I q=>h D b s a H Q I (f a H Q q)
def ah(i:Nat):FD:=λD=>M.f (D.getD i Na)
def fC(d:D):FD:=λ_=>M.h0 d
def f1(E:D->a0l)(f:FD):FD:=λF=>M.v (f F) λa=>M.f (E a)
def f2(E:a1a)(f g:FD):FD:=λD=>M.v (f D) λa=>M.v (g D) λb=>M.f (E a b)
noncomputable def aA:FL:=λ_=>M.h0 []
def aa(f:FD)(g:FL):FL:=λD=>M.v (f D) λa=>M.v (g D) λE=>M.h0 (a::E)
def aT(D:a0b->a0l)(g:FL):FD:=λE=>M.v (g E) λF=>M.f (D F)
def bK(m:a0b->M D)(g:FL):FD:=λE=>M.v (g E) λF=>m F
variable{X:Cx}{E:a0t}{e a b:Expr}{U:List Expr}{ab:SA}
theorem L0(i:Nat)(h:PE X (.Name x ab) (gH i)):PE X (.Name x ab) (tV X.K (ah i) E):=h.imp λl H Q c=>by
 obtain⟨F,a,b,fr,f,r⟩:=c;obtain⟨d,e,r⟩:=run.h0 r;have g:a[i]?=My (My d):=by
  rw[NA]at e;cases q:a[i]? with
  |none=>rw[q]at e;cases e
  |some z=>rw[q]at e;simp at e;rw[e]
 obtain⟨v,j,k⟩:=f.tell i d g;exact⟨v,j,r v H (To.refl fr) k⟩
theorem q_(h:PE X e (tC v))(a:∀F H,bc X.K F H d v):PE X e (tV X.K (fC d) E):=h.imp λf H Q c=>by obtain⟨F,b,D,fr,g,r⟩:=c;exact run.k4 fr r (a F H)
theorem ae{i j ab}:PE X (.Constant (.int i) j ab) (tV X.K (fC (.n i)) E):=q_ bY λ_ _=>rfl
theorem lf{i j ab}:PE X (.Constant (.bool i) j ab) (tV X.K (fC (.c i)) E):=q_ Mq λ_ _=>rfl
theorem xF{j ab}:PE X (.Constant .none j ab) (tV X.K (fC .o) E):=q_ JL λ_ _=>rfl
theorem iT:PA X [] (hO X.K aA E):=hX.imp λd H Q c=>by obtain⟨F,a,b,fr,f,r⟩:=c;exact run.k4 fr r aj.f5
theorem eK(D:PE X e (tV X.K f E))(j:PA X U (hO X.K g E))(G:b0a X e U:=by rfl):PA X (e::U) (hO X.K (aa f g) E):=
 (eM D j G).imp λl H Q c=>i_ c λF b M fr i r=>⟨F,b,M,fr,i,(run.bind (R:=bc X.K F) r).mono λv m ⟨d,a,t,S,V⟩=>
  ⟨F,b,a,t.fr,i.tr (t.tr fr),(run.bind (R:=aj X.K F) V).mono λp n c=>ot c λq o t2 h k=>run.k4 t2.fr k (aj.cons (bc.tr (t2.tr t.fr) _ _ S) h)⟩⟩
def bz(K:NR)(r:R2)(E:a1a):Prop:=∀(F:Fx) (H:Hp) (a:Bg) (Q:VK) (b e d:D) (f g:V),Fr F H a->bc K F H b f->bc K F H e g->E b e=My d->
 (∀v c,To F H c a->bc K F c d v->Q v c)->r f g H Q
def G6(K:NR)(r:V->Hp->VK->Prop)(e:D->a0l):Prop:=∀(F:Fx) (H:Hp) (a:Bg) (Q:VK) (b d:D) (f:V),Fr F H a->bc K F H b f->e b=My d->
 (∀v c,To F H c a->bc K F c d v->Q v c)->r f H Q
def dT(K:NR)(r:a0J)(E:a0b->a0l):Prop:=∀(F:Fx) (H:Hp) (a:Bg) (Q:VK) (b:a0b) (d:D) (e:a0k),Fr F H a->aj K F H b e->E b=My d->
 (∀v c,To F H c a->bc K F c d v->Q v c)->r e H Q
theorem oU{K:NR}(l:bz K r op){H:Hp}(h:tV K (f2 op f g) E s H Q):O2 r (tV K f E) (tV K g E) s H Q:=by
 obtain⟨F,e,D,fr,j,h⟩:=h;refine⟨F,e,D,fr,j,(run.bind (R:=bc K F) h).mono λv q c=>ot c λd a t G M=>⟨F,e,a,t.fr,j.tr (t.tr fr),(run.bind (R:=bc K F) M).mono λm n c=>ot c λS b t2 i o=>?_⟩⟩;obtain⟨U,p,k⟩:=run.h0 o;exact l F n b Q d S U v m t2.fr (bc.tr (t2.tr t.fr) _ _ G) i p k
theorem aF(c:e_ X (QG op) r)(l:bz X.K r o)(e:PE X a (tV X.K f E))(d:PE X b (tV X.K g E)):PE X (.BinOp a op b ab) (tV X.K (f2 o f g) E):=
 (dP c e d).imp λ_ _ _=>oU l
theorem iB(c:e_ X (OP op) r)(l:bz X.K r o)(e:PE X a (tV X.K f E))(d:PE X b (tV X.K g E))(D:Ts op b=Ni:=by first|exact u3 _|rfl):PE X (.Compare a [op] [b] ab) (tV X.K (f2 o f g) E):=
 (HN c e d D).imp λ_ _ _=>oU l
theorem xE(g:Zt X (unaryOp op) r)(l:G6 X.K r o)(e:PE X a (tV X.K f E)):PE X (.UnaryOp op a ab) (tV X.K (f1 o f) E):=
 (Mp g e).imp λm H Q c=>i_ c λF D G fr i h=>⟨F,D,G,fr,i,(run.bind (R:=bc X.K F) h).mono λv j c=>ot c λd b t M S=>let ⟨d3,e3,k⟩:=run.h0 S;l F j b Q d d3 v t.fr M e3 k⟩
theorem bn(c:F3 X r)(l:bz X.K r o)(e:PE X a (tV X.K f E))(d:PE X b (tV X.K g E))(D:rf b:=by exact λ_ _=>rfl):PE X (.Subscript a b ab) (tV X.K (f2 o f g) E):=
 (cZ c e d D).imp λ_ _ _=>oU l
theorem zy{K:NR}(l:dT K r op){H:Hp}(h:tV K (aT op g) E m H Q):ZP r (hO K g E) m H Q:=by
 obtain⟨F,b,e,fr,c,h⟩:=h;refine⟨F,b,e,fr,c,(run.bind (R:=aj K F) h).mono λv f i=>ot i λd a t D G=>?_⟩;obtain⟨M,j,k⟩:=run.h0 G;exact l F f a Q d M v t.fr D j k
theorem bV{f:String}(h:c7 X (.builtin f) r)(l:dT X.K r op)(i:Gl X x)(a:X.mg x=Na)(j:Rk x=My (.builtin f))(b:PA X (e::U) (hO X.K g E))(D:x≠"__name__":=by decide)(c:b0c x:=by decide)
  (k:b0a X e U:=by rfl) (d:b0b X ab U:=by rfl):PE X (.Call (.Name x p) (e::U) [] ab) (tV X.K (aT op g) E):=
 (kx h i a j b D c k d).imp λ_ _ _=>zy l
theorem cq(f:c7 X (.type T) r)(l:dT X.K r op)(h:Gl X x)(a:X.mg x=Na)(i:Rk x=My (.type T))(b:PA X (e::U) (hO X.K g E))(D:x≠"__name__":=by decide)(c:b0c x:=by decide)
  (j:b0a X e U:=by rfl) (d:b0b X ab U:=by rfl):PE X (.Call (.Name x p) (e::U) [] ab) (tV X.K (aT op g) E):=
 (rQ f h a i b D c j d).imp λ_ _ _=>zy l
noncomputable def f7(a:a0b):a0l:=if SW a<=NN then My (.t a)else Na
noncomputable def dH(ds:a0b):a0l:=if SW ds<=NN then My (.l ds)else Na
theorem bc.o8{K:NR}{F:Fx}{H:Hp}(fr:Fr F H f)(h:H p=Na)(a:aj K F H d c):bc K F (upd H p (.t c)) (.t d) (.r p):=
 ⟨p,c,rfl,.inl ⟨fr.fresh h,.inl aw⟩,aj.tr ((fr.upd _ h).tr fr) _ _ a⟩
theorem bc.k4{K:NR}{F:Fx}{H:Hp}(fr:Fr F H f)(h:H p=Na)(a:aj K F H d c):bc K F (upd H p (.l c)) (.l d) (.r p):=
 ⟨p,c,rfl,⟨fr.fresh h,.inl aw⟩,aj.tr ((fr.upd _ h).tr fr) _ _ a⟩
theorem dg{m}(h:PA X U (hO X.K g E)):PE X (.Tuple U m ab) (tV X.K (aT f7 g) E):=
 (JI h).imp λj H Q d=>i_ d λF b e fr i r=>⟨F,b,e,fr,i,(run.bind (R:=aj X.K F) r).mono λM l d=>by
  obtain⟨S,D,t,a,G⟩:=d;obtain⟨V,c,k⟩:=run.h0 G;unfold f7 at c;split at c
  .cases c
   exact⟨by rw[<-a.length];assumption,λp f=>k _ _ (t.fr.upd _ f) (bc.o8 t.fr f a)⟩
  .cases c⟩
theorem cY(h:PA X U (hO X.K g E)):PE X (.List U ab) (tV X.K (aT dH g) E):=
 (gu h).imp λj H Q d=>i_ d λF b e fr i r=>⟨F,b,e,fr,i,(run.bind (R:=aj X.K F) r).mono λM l d=>by
  obtain⟨S,D,t,a,G⟩:=d;obtain⟨V,c,k⟩:=run.h0 G;unfold dH at c;split at c
  .cases c
   exact⟨by rw[<-a.length];assumption,λp f=>k _ _ (t.fr.upd _ f) (bc.k4 t.fr f a)⟩
  .cases c⟩
def A_(K:NR)(n:Nat)(m:a0b->M D):Sp:=λa H Q E=>SW a=n/\∃F b e,Fr F H e/\aj K F H b a/\run (bc K F) F (λ_=>E) [] (m b) H Q e
variable{p:SA}{x:Oi}{k n:Nat}{f:Nh}{fd:N1}{ps:a0j}
theorem run.toE{a c:Type}{R:Hp->a->c->Prop}{F:Fx}{E:a0t}{d:St}{m:M a}{H:Hp}{Q:c->Hp->Prop}{b:Bg}(h:run R F E d m H Q b):run R F (λ_=>E d) [] m H Q b:=h
theorem zg(G:ee X.p X.w X.K X.mg X.base (fx X.p X.w) k f fd ps (A_ X.K n m))(q:dr k X.A)(u:Gl X x)(V:X.mg x=My (.ref f))(v:Tf X.K (.ref f)=Nf)(y:fG X.K fd ps [])(s:db (fx X.p X.w) X E)
  (z:PA X (e::U) (hO X.K g E)) (P:∀a b r h,g a b=My (.ok r,h)->SW r=n) (c:b0c x:=by decide) (B:b0a X e U:=by rfl) (d:b0b X ab U:=by rfl):
  PE X (.Call (.Name x p) (e::U) [] ab) (tV X.K (bK m g) E):=
 (mM G q u V v y .nil s z c B d).imp λO H Q I=>i_ I λF a b fr J r=>⟨F,a,b,fr,J,by
  obtain⟨M,i,l,o⟩:=run.bind (R:=aj X.K F) r;refine⟨M,i,l,?_⟩;cases M with
  |error C=>exact o
  |ok Z=>
   intro T L t S;obtain⟨W,D,t1,j,Y⟩:=o T L t S;have N:=P _ _ _ _ l;refine⟨by rw[Ob,<-S.length,N],F,W,D,t1.fr,by rw[Ob];exact j,run.toE Y⟩⟩
theorem F9{r:a0b}(h:aA d g=My (.ok r,c)):SW r=0:=by cases h;rfl
theorem bF{f:FD}{n:Nat}(d:∀a b r c,g a b=My (.ok r,c)->SW r=n):∀a b r c,aa f g a b=My (.ok r,c)->SW r=n+1:=by
 intro a b r c h;unfold aa M.v at h;split at h
 .cases h
 .cases h
 .dsimp only at h
  split at h
  .cases h
  .cases h
  .rename_i as _ i
   cases h;rw[NB,d _ _ _ _ i]
noncomputable def n_(g:Int->Int->a0l):D->D->a0l
 | .n i,.n j=>g i j
 |_,_=>Na
theorem i7{a b d:D}(h:n_ g a b=My d):∃i j,a= .n i/\b= .n j/\g i j=My d:=by
 cases a<;>first|cases h|(cases b<;>first|cases h|exact⟨_,_,rfl,rfl,h⟩)
theorem BG{g:a0N}:bz K (ri λi j=> .n (g i j)) (n_ λi j=>My (.n (g i j))):=λF H a Q b f d l m fr c h e k=>by
 obtain⟨i,j,rfl,rfl,e⟩:=i7 e;cases e;exact⟨i,j,c,h,k _ H (To.refl fr) rfl⟩
theorem kH{g:Int->Int->Bool}:bz K (ri λi j=> .c (g i j)) (n_ λi j=>My (.c (g i j))):=λF H a Q b f d l m fr c h e k=>by
 obtain⟨i,j,rfl,rfl,e⟩:=i7 e;cases e;exact⟨i,j,c,h,k _ H (To.refl fr) rfl⟩
theorem rT{C:a0X}{c:Int->Int->Bool}{g:a0N}(l:∀i j,c i j=Nf->C i j):bz K (rI C λi j=> .n (g i j)) (n_ λi j=>if c i j=Nf then My (.n (g i j))else Na):=λF H a Q b f d q r fr m o e k=>by
 obtain⟨i,j,rfl,rfl,h⟩:=i7 e;split at h
 .cases h
  exact⟨i,j,m,o,l _ _ (by assumption),k _ H (To.refl fr) rfl⟩
 .cases h
noncomputable def cf(i:Int):Bool:=decide (i.natAbs<2^1000)
def Jd:D->D->a0l:=n_ λi j=>My (.n (i-j))
def yM:D->D->a0l:=n_ λi j=>if(decide (0<j)&&decide (j.natAbs.log2<9000))=Nf then My (.n (i/j))else Na
def YR:D->D->a0l:=n_ λi j=>My (.c (decide (i<j)))
def X_:D->D->a0l:=n_ λi j=>My (.c (decide (i<=j)))
def gtD:D->D->a0l:=n_ λi j=>My (.c (decide (j<i)))
theorem eS:bz K (ri λi j=> .n (i-j)) Jd:=BG
theorem vi:bz K (ri λi j=> .c (decide (i<j))) YR:=kH
theorem ow:bz K (ri λi j=> .c (decide (i<=j))) X_:=kH
theorem EF:bz K (ri λi j=> .c (decide (j<i))) gtD:=kH
theorem Kg:bz K (rI tU λi j=> .n (i/j)) yM:=rT λi j h=>by
 simp only[N5,Og]at h;exact h
noncomputable def xZ:R2:=λx y H Q=>∃l b a c,x= .r l/\y= .r b/\Rd H l (.l a)/\Rd H b (.l c)/\SW a+SW c<=NN/\∀p,H p=Na->Q (.r p) (upd H p (.l (a++c)))
theorem wQ:e_ X (QG .Add) xZ:=by
 intro d s t H x y v u Q I i j h;obtain⟨l,b,f,w,rfl,rfl,m,hB,A,q⟩:=h;cases i;cases j;obtain⟨z,a,n,r,e⟩:=m.ok I.hok;obtain⟨B,c,C,g,o⟩:=hB.ok I.hok;have J:=r.length;have L:=g.length;refine Xu e o ?_ (by simp only[NM];lia);rw[show a.toArray++c.toArray=(a++c).toArray by simp];exact⟨.r _,_,I.lnew (t':=s.toks) (r.append g) (by rw[Nw];lia),rfl,q _ I.fresh⟩
def x3(K:NR):R2:=λx y H Q=>∃a b e,x= .r a/\y= .r b/\f_ K H a []/\f_ K H b e/\Q (.r b) H
theorem HU:e_ X (QG .Add) (x3 X.K):=by
 intro l s N H x y v u Q I t w h;obtain⟨a,b,F,rfl,rfl,f,A,q⟩:=h;cases t;cases w;obtain⟨k,p,B,_⟩:=I.tuple f;obtain⟨m,O,p2,_⟩:=I.tuple A;cases p;obtain⟨⟨G,D,C,i⟩,o,r,n,e⟩:=B;obtain⟨⟨M,E,J,j⟩,c,d,L,g⟩:=p2;simp only at r e d g;subst r e d g;exact PySem.concat_meets ⟨_,o,rfl⟩ ⟨_,c,rfl⟩ Wd XB Ue T6 (TN _ _) (tuple_addW0 a b _ _ n L D E i j (by simp)) ⟨o,c,⟨.r b,H,I,rfl,q⟩⟩
noncomputable def fi:D->D->a0l
 | .n i,.n j=>My (.n (i+j))
 | .t [],.t b=>My (.t b)
 | .l a,.l b=>if SW a+SW b<=NN then My (.l (a++b))else Na
 | .t (c::a),.t b=>if(c::a).length+SW b<=NN then My (.t (c::a++b))else Na
 |_,_=>Na
theorem bv:bz K (λx y H Q=>(ri λi j=> .n (i+j)) x y H Q\/xZ x y H Q\/xY K x y H Q\/x3 K x y H Q) fi:=λF H E Q G M d v w fr h l e k=>by
 unfold fi at e;split at e
 .cases e
  exact .inl ⟨_,_,h,l,k _ H (To.refl fr) rfl⟩
 .cases e
  obtain⟨a,f,rfl,n,c⟩:=bc.f5 h;obtain⟨b,D,rfl,m,g⟩:=bc.f5 l;have q:f=[]:=c;subst q;exact .inr (.inr (.inr ⟨a,b,D,rfl,rfl,n,m,k _ H (To.refl fr) l⟩))
 .split at e
  .cases e
   obtain⟨a,f,rfl,n,c⟩:=bc.rdL h;obtain⟨b,D,rfl,m,g⟩:=bc.rdL l;exact .inr (.inl ⟨a,b,f,D,rfl,rfl,n,m,by rw[<-c.length,<-g.length];assumption,λp o=>k _ _ (fr.upd _ o) (bc.k4 fr o (c.append g))⟩)
  .cases e
 .split at e
  .cases e
   obtain⟨a,f,rfl,n,c⟩:=bc.f5 h;obtain⟨b,D,rfl,m,g⟩:=bc.f5 l;have r:=c.length;have t:=g.length;refine .inr (.inr (.inl ⟨a,b,f,D,rfl,rfl,n,m,(λz=>by subst z;cases r),by rw[<-r,<-t];assumption,λz=>?_,λ_ p o=>k _ _ (fr.upd _ o) (bc.o8 fr o (c.append g))⟩));subst z;have u:=PU.mp t;subst u;rw[Ob]at k;exact k _ H (To.refl fr) h
  .cases e
 .cases e
theorem aC:e_ X (QG .Add) (λx y H Q=>(ri λi j=> .n (i+j)) x y H Q\/xZ x y H Q\/xY X.K x y H Q\/x3 X.K x y H Q):=pG.or (wQ.or (HS.or HU))
def u6:D->D->a0l:=n_ λi j=>if(cf i&&cf j)=Nf then My (.n (i*j))else Na
theorem kI:bz K (rI tT λi j=> .n (i*j)) u6:=rT λi j h=>by
 simp only[N5,cf,Og]at h;exact h
noncomputable def YW:D->D->a0E
 | .o,.o=>My Nf
 | .n i,.n j=>My (decide (i=j))
 | .c i,.c j=>My (decide (i=j))
 | .q i,.q j=>My (decide (i=j))
 | .n _,.q _=>My Ni
 | .q _,.n _=>My Ni
 | .c _,.q _=>My Ni
 | .q _,.c _=>My Ni
 | .o,.n _=>My Ni
 | .n _,.o=>My Ni
 | .o,.q _=>My Ni
 | .q _,.o=>My Ni
 |_,_=>Na
theorem CO{F:Fx}{H:Hp}{a b:D}{c:Bool}(h:YW a b=My c)(d:bc K F H a v)(g:bc K F H b w):DX v w=Nf/\decide (v=w)=c:=by
 cases a<;>first|cases h|(cases b<;>first|(cases h;cases d;cases g;exact⟨rfl,rfl⟩)|(cases h;cases d;cases g;exact⟨rfl,by simp⟩)|cases h)
noncomputable def isN:D->Bool
 | .o=>Nf
 |_=>Ni
theorem Ki{F:Fx}{H:Hp}(h:bc K F H d v):decide (v= .o)=isN d:=by
 cases d with
 |o=>cases h.o7;rfl
 |c b=>cases h.bl;rfl
 |n b=>cases h.int;rfl
 |q b=>cases h.o9;rfl
 |ty b=>cases h.ty;rfl
 |txt=>unfold bc at h;obtain⟨z,rfl⟩:=h;rfl
 |l ds=>obtain⟨a,e,rfl,_⟩:=bc.h0 h;rfl
 |t ds=>obtain⟨a,e,rfl,_⟩:=bc.f5 h;rfl
 |scr ds=>obtain⟨a,rfl,_⟩:=bc.scr h;rfl
 |obj C ns ds=>
  unfold bc at h;obtain⟨a,_,_,rfl,_⟩:=h;rfl
 |bag=>
  unfold bc at h;obtain⟨a,_,_,rfl⟩:=h;rfl
 |adr a=>
  unfold bc at h;obtain rfl:=h;rfl
 |dct b ks vs=>
  unfold bc at h;obtain⟨a,_,e,rfl,_⟩:=h;rfl
noncomputable def yE:D->D->a0l
 |a,.o=>My (.c (isN a))
 |_,_=>Na
theorem yt:bz K (λx y H Q=>y= .o/\Q (.c (decide (x= .o))) H) yE:=λF H a Q b f d h i fr c g e k=>by
 unfold yE at e;split at e
 .cases e
  exact⟨g,by rw[Ki c];exact k _ H (To.refl fr) rfl⟩
 .cases e
noncomputable def dR:D->Bool
 | .n _=>Nf| .c _=>Nf| .q _=>Nf| .o=>Nf|_=>Ni
noncomputable def eqF:D->D->Bool
 | .o,.o=>Nf
 | .c a,.c b=>a==b
 | .c a,.n b=>(if a then 1 else 0)==b
 | .n a,.c b=>a==(if b then 1 else 0)
 | .n a,.n b=>a==b
 | .q a,.q b=>a==b
 |_,_=>Ni
noncomputable def dE:D->a0z
 | .l a=>My a
 | .t a=>My a
 |_=>Na
def Yp(x:D)(a:a0b):Bool:=a.any λy=>eqF y x
def K_(a:Bool)(x y:D):a0l:=(dE y).bind λb=>if(dR x&&b.all dR)=Nf then My (.c (if a then !Yp x b else Yp x b))else Na
theorem qS{F:Fx}{H:Hp}(f:dR d=Nf)(h:bc K F H d v):gZ v=Nf:=by
 cases d<;>first|(cases h.int;rfl)|(cases h.bl;rfl)|(cases h.o9;rfl)|(cases h.o7;rfl)|cases f
theorem KD{F:Fx}{H:Hp}{a b:D}(g:dR a=Nf)(h:dR b=Nf)(c:bc K F H a v)(d:bc K F H b w):L1 v w=eqF a b:=by
 cases a<;>first
  |(exfalso;exact Nz g)
  |(cases b<;>first
   |(exfalso;exact Nz h)
   |(cases c.int;cases d.int;rfl)|(cases c.int;cases d.bl;rfl)|(cases c.int;cases d.o9;rfl)|(cases c.int;cases d.o7;rfl)
   |(cases c.bl;cases d.int;rfl)|(cases c.bl;cases d.bl;rfl)|(cases c.bl;cases d.o9;rfl)|(cases c.bl;cases d.o7;rfl)
   |(cases c.o9;cases d.int;rfl)|(cases c.o9;cases d.bl;rfl)|(cases c.o9;cases d.o9;rfl)|(cases c.o9;cases d.o7;rfl)
   |(cases c.o7;cases d.int;rfl)|(cases c.o7;cases d.bl;rfl)|(cases c.o7;cases d.o9;rfl)|(cases c.o7;cases d.o7;rfl))
theorem vC{F:Fx}{H:Hp}{x:D}(c:dR x=Nf)(e:bc K F H x v):∀{b:a0b} {a:a0k},b.all dR=Nf->aj K F H b a->a.all gZ=Nf/\Zo v a=Yp x b
 |[],a,_,h=>by have q:a=[]:=h;subst q;exact⟨rfl,rfl⟩
 |d::b,a,f,h=>by
  obtain⟨y,r,q,g,i⟩:=h;subst q;rw[Ub,N5]at f;obtain⟨j,i2⟩:=vC c e f.2 i;refine⟨by rw[Ub,qS f.1 g,j];rfl,?_⟩;unfold Zo Yp at i2⊢;rw[SI,SI,i2,KD f.1 c g e]
theorem EE{neg:Bool}:bz K (ZZ K neg) (K_ neg):=λF H p Q x n d l m fr g j e k=>by
 unfold K_ at e;cases q:dE n with
 |none=>rw[q]at e;cases e
 |some D=>
  rw[q]at e;simp only[Qb]at e;split at e
  .rename_i c
   rw[N5]at c;cases e;cases n<;>first|(cases q;obtain⟨a,b,rfl,f,h⟩:=bc.h0 j;obtain⟨i,i2⟩:=vC c.1 g c.2 h;exact⟨a,b,rfl,.inl f,qS c.1 g,i,by rw[i2];exact k _ H (To.refl fr) rfl⟩)|(cases q;obtain⟨a,b,rfl,f,h⟩:=bc.f5 j;obtain⟨i,i2⟩:=vC c.1 g c.2 h;exact⟨a,b,rfl,.inr f,qS c.1 g,i,by rw[i2];exact k _ H (To.refl fr) rfl⟩)|cases q
  .cases e
def hU:D->D->a0l
 | .l xs,.n i=>la xs i
 | .t xs,.n i=>la xs i
 |_,_=>Na
theorem qp{F:Fx}{H:Hp}(h:aj K F H ds c)(e:la ds i=My d):∃v,la c i=My v/\bc K F H d v:=by
 unfold la at e⊢;rw[<-h.length];cases q:i4 (SW ds) i with
 |none=>rw[q]at e;cases e
 |some j=>
  rw[q]at e;exact h.get e
theorem bq:bz K (λx y H Q=>qC K x y H Q\/D3 K x y H Q) hU:=λF H f Q n p d j l fr h i e k=>by
 unfold hU at e;split at e
 .obtain⟨a,xs,rfl,r1,c⟩:=bc.h0 h
  obtain⟨v,g,b⟩:=qp c e;exact .inl ⟨a,xs,_,v,rfl,i,r1,g,k _ H (To.refl fr) b⟩
 .obtain⟨a,xs,rfl,r1,c⟩:=bc.f5 h
  obtain⟨v,g,b⟩:=qp c e;exact .inr ⟨a,xs,_,v,rfl,i,r1,g,k _ H (To.refl fr) b⟩
 .cases e
theorem aD:F3 X (λx y H Q=>qC X.K x y H Q\/D3 X.K x y H Q):=bQ.or Kh
noncomputable def gx:a0b->a0l
 |[.l xs]=>My (.n (SW xs))
 |[.t xs]=>My (.n (SW xs))
 |_=>Na
theorem aj.h0{F:Fx}{H:Hp}(h:aj K F H [d] i):∃v,i=[v]/\bc K F H d v:=by
 obtain⟨x,r,e,c,g⟩:=h;have q:r=[]:=g;subst q;exact⟨x,e,c⟩
theorem aj.o8{F:Fx}{H:Hp}(h:aj K F H [d,c] l):∃v w,l=[v,w]/\bc K F H d v/\bc K F H c w:=by
 obtain⟨x,r,e,g,i⟩:=h;obtain⟨y,rfl,j⟩:=aj.h0 i;exact⟨x,y,e,g,j⟩
theorem ML:dT K (λb H Q=>∃p f,b=[.r p]/\(d_ K H p f\/f_ K H p f)/\Q (.n (SW f)) H) gx:=λF H n Q x d D fr h e k=>by
 unfold gx at e;split at e
 .cases e
  obtain⟨v,rfl,g⟩:=aj.h0 h;obtain⟨a,b,rfl,r,c⟩:=bc.h0 g;exact⟨a,b,rfl,.inl r,by rw[<-c.length];exact k _ H (To.refl fr) rfl⟩
 .cases e
  obtain⟨v,rfl,g⟩:=aj.h0 h;obtain⟨a,b,rfl,r,c⟩:=bc.f5 g;exact⟨a,b,rfl,.inr r,by rw[<-c.length];exact k _ H (To.refl fr) rfl⟩
 .cases e
noncomputable def u8:a0b->a0l
 |[.n i,.n j]=>My (.n (if j<i then j else i))
 |_=>Na
noncomputable def yk:a0b->a0l
 |[.n i,.n j]=>My (.n (if j>i then j else i))
 |_=>Na
theorem tj:dT K (λa H Q=>∃i j,a=[.n i,.n j]/\Q (.n (if j<i then j else i)) H) u8:=λF H f Q n d p fr h e k=>by
 unfold u8 at e;split at e
 .cases e
  obtain⟨v,w,rfl,g,b⟩:=aj.o8 h;cases g.int;cases b.int;exact⟨_,_,rfl,k _ H (To.refl fr) rfl⟩
 .cases e
theorem GQ:dT K (λa H Q=>∃i j,a=[.n i,.n j]/\Q (.n (if j>i then j else i)) H) yk:=λF H f Q n d p fr h e k=>by
 unfold yk at e;split at e
 .cases e
  obtain⟨v,w,rfl,g,b⟩:=aj.o8 h;cases g.int;cases b.int;exact⟨_,_,rfl,k _ H (To.refl fr) rfl⟩
 .cases e
noncomputable def eZ:a0b->Option a0d
 |[]=>My []
 | .n i::r=>(eZ r).map (i::·)
 |_=>Na
theorem iv:∀{a:a0b} {b:a0d},eZ a=My b->a=b.map D.n
 |[],b,h=>by cases h;rfl
 |d::a,b,h=>by
  cases d with
  |n i=>
   unfold eZ at h;cases q:eZ a with
   |none=>rw[q]at h;cases h
   |some c=>rw[q]at h;cases h;rw[iv q];rfl
  |_=>cases h
def DS:a0b->a0l
 |[.l xs]=>(eZ xs).map λa=> .n a.sum
 |_=>Na
theorem MK:dT K (λf H Q=>∃(a:Nh) (b:a0d),f=[.r a]/\d_ K H a (b.map V.n)/\Q (.n b.sum) H) DS:=λF H n Q p d x fr h e k=>by
 unfold DS at e;split at e
 .rename_i f
  cases q:eZ f with
  |none=>rw[q]at e;cases e
  |some b=>
   rw[q]at e;cases e;obtain⟨v,rfl,g⟩:=aj.h0 h;obtain⟨a,D,rfl,r,c⟩:=bc.h0 g;rw[iv q]at c;have i:=aj.o7 b c;subst i;exact⟨a,b,rfl,r,k _ H (To.refl fr) rfl⟩
 .cases e
noncomputable def sZ:a0b->a0l
 |[.l xs]=>My (.l xs)
 |[.t xs]=>My (.l xs)
 |_=>Na
theorem jd:dT K (λb H Q=>∃p f,b=[.r p]/\(d_ K H p f\/f_ K H p f)/\∀l,H l=Na->Q (.r l) (upd H l (.l f))) sZ:=λF H n Q x d D fr h e k=>by
 unfold sZ at e;split at e
 .cases e
  obtain⟨v,rfl,g⟩:=aj.h0 h;obtain⟨a,b,rfl,r,i⟩:=bc.h0 g;exact⟨a,b,rfl,.inl r,λl c=>k _ _ (fr.upd _ c) (bc.k4 fr c i)⟩
 .cases e
  obtain⟨v,rfl,g⟩:=aj.h0 h;obtain⟨a,b,rfl,r,i⟩:=bc.f5 g;exact⟨a,b,rfl,.inr r,λl c=>k _ _ (fr.upd _ c) (bc.k4 fr c i)⟩
 .cases e
noncomputable def uh:a0b->a0l
 |[.l xs]=>My (.t xs)
 |[.t xs]=>My (.t xs)
 |_=>Na
theorem iO:dT K (λb H Q=>∃p f,b=[.r p]/\((d_ K H p f/\∀l,H l=Na->Q (.r l) (upd H l (.t f)))\/(f_ K H p f/\Q (.r p) H))) uh:=λF H n Q x d D fr h e k=>by
 unfold uh at e;split at e
 .cases e
  obtain⟨v,rfl,g⟩:=aj.h0 h;obtain⟨a,b,rfl,r,c⟩:=bc.h0 g;exact⟨a,b,rfl,.inl ⟨r,λl i=>k _ _ (fr.upd _ i) (bc.o8 fr i c)⟩⟩
 .cases e
  obtain⟨v,rfl,g⟩:=aj.h0 h;obtain⟨a,b,rfl,r,c⟩:=bc.f5 g;exact⟨a,b,rfl,.inr ⟨r,k _ H (To.refl fr) g⟩⟩
 .cases e
noncomputable def asB:D->a0E
 | .c b=>My b
 |_=>Na
theorem jk{b:Bool}(h:asB d=My b):d= .c b:=by cases d<;>first|(cases h;rfl)|cases h
noncomputable def DO:D->a0E
 | .o=>My Ni
 | .c b=>My b
 | .n i=>My (i !=0)
 | .l xs=>My (!xs.isEmpty)
 | .t xs=>My (!xs.isEmpty)
 |_=>Na
def fB(f:FD):Dn->M Bool:=λa=>M.v (f a) λd=>M.f (asB d)
def vJ(f:FD):Dn->M Bool:=λa=>M.v (f a) λd=>M.f (DO d)
def qT(f g:a0s):Dn->M Bool:=λa=>M.v (f a) λc=>if c=Nf then M.h0 Nf else g a
def yO(f:a0s):Dn->M Bool:=λa=>M.v (f a) λc=>M.h0 (!c)
def yP(f g:FD):FD:=λa=>M.v (f a) λd=>M.v (M.f (asB d)) λc=>if c=Nf then g a else M.h0 (.c Ni)
def YD(t:a0s)(f g:FD):FD:=λa=>M.v (t a) λc=>if c=Nf then f a else g a
def qa(o d:a1a)(f g h:FD):FD:=λe=>M.v (f e) λa=>M.v (g e) λb=>M.v (M.f (o a b)) λz=>M.v (M.f (asB z)) λc=>if c=Nf then M.v (h e) (λw=>M.f (d b w))else M.h0 (.c Ni)
variable{c:Expr}{n:List Expr}
theorem M.ofO_bind{b d:Type}{o:Option b}{k:b->M d}{c:Bg}{z:Except Nh d×Bg}(h:M.v (M.f o) k c=My z):∃a,o=My a/\k a c=My z:=by
 cases o with
 |none=>cases h
 |some a=>exact⟨a,rfl,h⟩
theorem run.f5{b g i:Type}{R:Hp->g->i->Prop}{F:Fx}{j:St}{o:Option b}{k:b->M g}{H:Hp}{Q:i->Hp->Prop}{c:Bg}(h:run R F E j (M.v (M.f o) k) H Q c):∃a,o=My a/\run R F E j (k a) H Q c:=by
 obtain⟨r,d,e,h⟩:=h;obtain⟨a,q,e⟩:=M.ofO_bind e;exact⟨a,q,r,d,e,h⟩
theorem run.bOk{F:Fx}{H:Hp}(fr:Fr F H g)(c:bc K F H d v)(h:run (λ_ (a b:Bool)=>b=a) F E i (M.f (asB d)) H Q g):∃k,v= .c k/\Q k H:=by
 obtain⟨b,e,k⟩:=run.h0 h;rw[jk e]at c;exact⟨b,c,k b H (To.refl fr) rfl⟩
theorem nP{f:FD}{H:Hp}(h:hL K (fB f) E m H Q):tV K f E m H λx g=>∃k,x= .c k/\Q k g:=by
 obtain⟨F,a,b,fr,i,h⟩:=h;exact⟨F,a,b,fr,i,(run.bind (R:=bc K F) h).mono λv l j=>ot j λd c t e n=>run.bOk t.fr e n⟩
theorem bo{f g:FD}(d:e_ X (OP op) r)(l:bz X.K r o)(c:PE X a (tV X.K f E))(i:PE X b (tV X.K g E))(e:Ts op b=Ni:=by first|exact u3 _|rfl):PT X (.Compare a [op] [b] ab) (hL X.K (fB (f2 o f g)) E):=
 (wH d c i e).imp λj H Q h=>oU l (nP h)
theorem zu{f g h:FD}(l:bz K r o)(T:bz K r' s){H:Hp}(y:tV K (qa o s f g h) E σ H Q):zw r r' (tV K f E) (tV K g E) (tV K h E) σ H Q:=by
 obtain⟨F,b,D,fr,A,y⟩:=y;refine⟨F,b,D,fr,A,(run.bind (R:=bc K F) y).mono λv H1 i=>ot i λd n t G S=>⟨F,b,n,t.fr,A.tr (t.tr fr),(run.bind (R:=bc K F) S).mono λN U i=>ot i λp a t2 j W=>?_⟩⟩;obtain⟨z,O,Y⟩:=run.f5 W;obtain⟨c,Z,u⟩:=run.f5 Y;rw[jk Z]at O;refine l F U a _ d p _ v N t2.fr (bc.tr (t2.tr t.fr) _ _ G) j O λvz P t3 V=>⟨c,V,?_⟩;cases c with
 |true=>
  rw[Nu rfl]at u;refine⟨F,b,a,t3.fr,A.tr ((t.tr fr).trans ((t2.tr t.fr).trans (t3.tr t2.fr))),?_⟩;have X:run (bc K F) F E σ (M.v (h b) λw=>M.f (s p w)) P Q a:=by
   obtain⟨B,m,e,q⟩:=u;refine⟨B,m,e,?_⟩;cases B with
   |ok d=>exact λv I x=>q v I (t3.trans x)
   |error C=>exact λI x=>q I (t3.trans x)
  refine(run.bind (R:=bc K F) X).mono λw H4 i=>ot i λdw J t4 L r6=>?_;obtain⟨d3,e3,k⟩:=run.h0 r6;exact T F H4 J Q p dw d3 N w t4.fr (bc.tr ((t3.tr t2.fr).trans (t4.tr t3.fr)) _ _ j) L e3 k
 |false=>
  rw[Nv Nz]at u;obtain⟨B,m,e,q⟩:=u;cases e;exact q _ P t3 rfl
theorem wj{f g h:FD}(i:e_ X (OP op) r)(d:e_ X (OP s) v)(l:bz X.K r o)(j:bz X.K v w)(e:PE X a (tV X.K f E))(m:PE X b (tV X.K g E))(t:PE X c (tV X.K h E))(k:X3 [op,s] [b,c]=Ni:=by with_unfolding_all rfl):
  PT X (.Compare a [op,s] [b,c] ab) (hL X.K (fB (qa o w f g h)) E):=(D5 i d e m t k).imp λu H Q q=>zu l j (nP q)
theorem Hi{F:Fx}{H:Hp}{k:Bool}(h:DO d=My k)(c:bc K F H d v):Ga K v H k:=by
 cases d with
 |o=>cases h;cases c.o7;rfl
 |c b=>cases h;cases c.bl;rfl
 |n i=>cases h;cases c.int;rfl
 |l xs=>
  cases h;obtain⟨a,e,rfl,r,g⟩:=bc.h0 c;refine .inl ⟨e,r,?_⟩;have:=g.length;cases xs<;>cases e<;>first|rfl|(simp at this)
 |t xs=>
  cases h;obtain⟨a,e,rfl,r,g⟩:=bc.f5 c;refine .inr ⟨e,r,?_⟩;have:=g.length;cases xs<;>cases e<;>first|rfl|(simp at this)
 |_=>cases h
theorem oS{f:FD}(b:PE X a (tV X.K f E))(j:∀g,isTrue a X.e g=(do let v <-g;SO a.pos;T8 [v] (truthy v)):=by intro _;rfl):PT X a (hL X.K (vJ f) E):=
 (D4 b j).imp λo H Q i=>i_ i λF c n fr l h=>⟨F,c,n,fr,l,(run.bind (R:=bc X.K F) h).mono λv m i=>by
  obtain⟨d,p,t,x,D⟩:=i;obtain⟨k,e,q⟩:=run.h0 D;exact⟨k,Hi e x,q k m (To.refl t.fr) rfl⟩⟩
theorem sS{f:a0s}(c:PT X a (hL X.K f E)):PT X (.UnaryOp .Not a ab) (hL X.K (yO f) E):=
 (JD c).imp λj H Q g=>i_ g λF e k fr i h=>⟨F,e,k,fr,i,(run.bind (R:=λ_ (a b:Bool)=>b=a) h).mono λv l g=>by
  obtain⟨d,n,t,p,x⟩:=g;subst p;exact run.k4 t.fr x rfl⟩
theorem IW{f g:a0s}{H:Hp}(h:hL K (qT f g) E m H Q):tOr (hL K f E) (hL K g E) m H Q:=by
 obtain⟨F,k,n,fr,i,h⟩:=h;refine⟨F,k,n,fr,i,(run.bind (R:=λ_ (a b:Bool)=>b=a) h).mono λv l j=>ot j λd e t p c=>?_⟩;subst p;cases v with
 |false=>rw[Nv Nz]at c⊢;exact⟨F,k,e,t.fr,i.tr (t.tr fr),c⟩
 |true=>rw[Nu rfl]at c⊢;exact run.k4 t.fr c rfl
theorem oM{f:a0s}(b:PT X a (hL X.K f E)):PW X (.BoolOp .Or [a] ab) (hL X.K f E):=JB b
theorem ud{f g:a0s}(c:PT X a (hL X.K f E))(d:PW X (.BoolOp .Or (b::n) ab) (hL X.K g E)):PW X (.BoolOp .Or (a::b::n) ab) (hL X.K (qT f g) E):=(Mn c d).imp λ_ _ _=>IW
theorem li{e:Expr}{f:a0s}(h:PW X e (hL X.K f E)):PT X e (hL X.K f E):=PW.pt h
theorem Gn{op}{f:FD}(h:PE X a (tV X.K f E)):PE X (.BoolOp op [a] ab) (tV X.K f E):=JK h
theorem run.asB{F:Fx}{k:Bool->M D}{H:Hp}(a:bc K F H d v)(h:run (bc K F) F E g (M.v (M.f (asB d)) k) H Q i):∃c,v= .c c/\run (bc K F) F E g (k c) H Q i:=by
 obtain⟨c,e,h⟩:=run.f5 h;rw[jk e]at a;exact⟨c,a,h⟩
theorem Gp{f g:FD}(x:PE X a (tV X.K f E))(m:PE X (.BoolOp .And (b::n) ab) (tV X.K g E)):PE X (.BoolOp .And (a::b::n) ab) (tV X.K (yP f g) E):=
 (JN x m).imp λo H Q j=>i_ j λF p D fr l h=>⟨F,p,D,fr,l,(run.bind (R:=bc X.K F) h).mono λv q j=>by
  obtain⟨d,k,t,G,M⟩:=j;obtain⟨c,e,i⟩:=run.asB G M;refine⟨c,e,?_⟩;cases c with
  |true=>rw[Nu rfl]at i⊢;exact⟨F,p,k,t.fr,l.tr (t.tr fr),i⟩
  |false=>rw[Nv Nz]at i⊢;exact run.k4 t.fr i rfl⟩
theorem ZG{f g:FD}(l:PT X c (hL X.K t E))(p:PE X a (tV X.K f E))(m:PE X b (tV X.K g E)):PE X (.IfExp c a b ab) (tV X.K (YD t f g) E):=
 (Ec l p m).imp λo H Q i=>i_ i λF n x fr j h=>⟨F,n,x,fr,j,(run.bind (R:=λ_ (a b:Bool)=>b=a) h).mono λv q i=>by
  obtain⟨d,e,t,D,k⟩:=i;subst D;cases v with
  |true=>rw[Nu rfl]at k⊢;exact⟨F,n,e,t.fr,j.tr (t.tr fr),k⟩
  |false=>rw[Nv Nz]at k⊢;exact⟨F,n,e,t.fr,j.tr (t.tr fr),k⟩⟩
noncomputable def YL:D->Option String
 | .o=>My "NoneType"| .c _=>My "bool"| .n _=>My "int"| .q _=>My "str"| .l _=>My "list"| .t _=>My "tuple"|_=>Na
def YK:List String:=["int","bool","str","NoneType","list","tuple"]
noncomputable def yy(a b:String):a0E:=if YK.contains a&&YK.contains b&&b !="NoneType"&&(b !="int"||a==b)then My (a==b)else Na
noncomputable def yx(a b c:String):a0E:=if YK.contains a&&(b=="list"&&c=="tuple"||b=="int"&&c=="str")then My (a==b||a==c||a=="bool"&&b=="int")else Na
theorem ry{a:String}(h:YK.contains a=Nf):a="int"\/a="bool"\/a="str"\/a="NoneType"\/a="list"\/a="tuple":=by
 simpa[YK]using h
theorem Ik{a b:String}{c:Bool}(h:yy a b=My c):kitOne K (.type a) (.type b)=My c:=by
 unfold yy at h;split at h
 case isFalse=>cases h
 rename_i q;simp only[N5]at q;cases h;rcases ry q.1.1.1 with rfl|rfl|rfl|rfl|rfl|rfl<;>rcases ry q.1.1.2 with rfl|rfl|rfl|rfl|rfl|rfl<;>first|exact NW q.1.2 (by decide)|exact NW q.2 (by decide)|kernel_rfl
theorem Ij{a b d:String}{c:Bool}(h:yx a b d=My c):Ye K (.type a) ([b,d].map QP)=My c:=by
 unfold yx at h;split at h
 case isFalse=>cases h
 rename_i q;simp only[N5,Vu,RM]at q;cases h;rcases q.2 with⟨rfl,rfl⟩|⟨rfl,rfl⟩<;>rcases ry q.1 with rfl|rfl|rfl|rfl|rfl|rfl<;>kernel_rfl
def TyG(K:NR)(H:Hp)(x:V)(t:Nj):Prop:=m_ K H x t\/(∃a b,x= .r a/\d_ K H a b/\t= .type "list")\/(∃a b,x= .r a/\f_ K H a b/\t= .type "tuple")
def GJ(K:NR):a0k->Hp->VK->Prop:=λa H Q=>∃x c t b,a=[x,.ty c]/\TyG K H x t/\kitOne K t (.type c)=My b/\Q (.c b) H
theorem CV:c7 X (.builtin "isinstance") (GJ X.K):=by
 intro j s u H F G Q I r h;obtain⟨x,c,t,b,rfl,f,e,q⟩:=h;cases r with
 |cons k d=>
  cases d with
  |cons d m=>
   cases m;cases d;rcases f with f|⟨a,E,rfl,n,rfl⟩|⟨a,E,rfl,n,rfl⟩
   .exact BV I k f e λl=>⟨.c b,H,I.tok _,rfl,q⟩
   .cases k
    obtain⟨p,_,D,_⟩:=I.list n;obtain⟨o,g,i,_⟩:=D.isList;exact Uo U6 I.kIn ⟨o,g,i⟩ e (λz=>nomatch z) λl=>⟨.c b,H,I.tok _,rfl,q⟩
   .cases k
    obtain⟨p,_,D,_⟩:=I.tuple n;obtain⟨o,g,i,_⟩:=D;exact Uo WY I.kIn ⟨o,g,i⟩ e (λz=>nomatch z) λl=>⟨.c b,H,I.tok _,rfl,q⟩
theorem zj{F:Fx}{H:Hp}(h:YL d=My t)(c:bc K F H d v):TyG K H v (.type t):=by
 cases d with
 |o=>cases h;cases c.o7;exact .inl .o
 |c b=>cases h;cases c.bl;exact .inl (.c b)
 |n b=>cases h;cases c.int;exact .inl (.n b)
 |q b=>cases h;cases c.o9;exact .inl (.q b)
 |l ds=>cases h;obtain⟨a,e,rfl,f,_⟩:=bc.h0 c;exact .inr (.inl ⟨a,e,rfl,f,rfl⟩)
 |t ds=>cases h;obtain⟨a,e,rfl,f,_⟩:=bc.f5 c;exact .inr (.inr ⟨a,e,rfl,f,rfl⟩)
 |_=>cases h
def jf:a0b->a0l
 |[x,.ty c]=>(YL x).bind λt=>(yy t c).map D.c
 |_=>Na
theorem MM:dT K (GJ K) jf:=λF H f Q n d p fr h e k=>by
 unfold jf at e;split at e
 .rename_i x c
  cases q:YL x with
  |none=>rw[q]at e;cases e
  |some t=>
   rw[q]at e;simp only[Qb]at e;cases a:yy t c with
   |none=>rw[a]at e;cases e
   |some b=>
    rw[a]at e;cases e;obtain⟨v,w,rfl,g,i⟩:=aj.o8 h;cases i.ty;exact⟨v,c,_,b,rfl,zj q g,Ik a,k _ H (To.refl fr) rfl⟩
 .cases e
def z9(K:NR):a0k->Hp->VK->Prop:=λc H Q=>∃(x:V) (tp:Nh) (a:List String) (t:Nj) (b:Bool),c=[x,.r tp]/\f_ K H tp (a.map V.ty)/\TyG K H x t/\Ye K t (a.map QP)=My b/\Q (.c b) H
theorem ql:c7 X (.builtin "isinstance") (z9 X.K):=by
 intro m s P H f M Q I r h;obtain⟨x,tp,S,t,b,rfl,A,D,e,q⟩:=h;cases r with
 |cons c B=>
  cases B with
  |cons B R=>
   cases R;cases B;obtain⟨k,T,⟨⟨V,U,W,Y⟩,g,u,n,j⟩,_⟩:=I.tuple A;rw[zh T]at j
   dsimp only at u j
   subst u j;have d:∀N,EP X m P Q (.bool b) {s with toks:=N}:=λN=>⟨.c b,H,I.tok _,rfl,q⟩;rcases D with D|⟨a,G,rfl,E,rfl⟩|⟨a,G,rfl,E,rfl⟩
   .cases D with
    |o=>cases c;exact Uq Xf I.kIn Rq g e (λz=>nomatch z) d
    |c y=>cases c;exact Uq Xe I.kIn Rq g e (λz=>nomatch z) d
    |n i=>obtain⟨t,rfl⟩:=c;exact Uq Xw I.kIn Rq g e (λz=>nomatch z) d
    |q y=>obtain⟨t,rfl⟩:=c;exact Uq Xy I.kIn Rq g e (λz=>nomatch z) d
    |@l a f ea=>
     cases c;obtain⟨_,_,n,_,v⟩:=(show bR X.p X.w H s.heap a (.l f)from I.hok a _ ea);exact Uq U6 I.kIn ⟨_,v,rfl⟩ g e (λz=>nomatch z) d
    |@frz a ob f ea=>
     cases c;obtain⟨_,_,_,n,_,v⟩:=(show bR X.p X.w H s.heap a (.frz ob (.l f))from I.hok a _ ea);exact Uq U6 I.kIn ⟨_,v,rfl⟩ g e (λz=>nomatch z) d
    |@t a f ea=>
     cases c;obtain⟨_,_,_,p⟩:=(show bR X.p X.w H s.heap a (.t f)from I.hok a _ ea);obtain⟨o,v,Z,_⟩:=p;exact Uq WY I.kIn ⟨o,v,Z⟩ g e (λz=>nomatch z) d
    |@ins a C dx fs ea cl ha hn htk hm=>
     cases c;obtain⟨mA,O,_⟩:=j4 I.hok ea;obtain⟨U,J,_⟩:=O.f5;exact Uq (Xx (cl.get _) cl.hd ha hn htk hm) I.kIn J g e (λz=>nomatch z) d
   .cases c
    obtain⟨k,_,F,_⟩:=I.list E;obtain⟨o,l,L,_⟩:=F.isList;exact Uq U6 I.kIn ⟨o,l,L⟩ g e (λz=>nomatch z) d
   .cases c
    obtain⟨k,_,F,_⟩:=I.tuple E;obtain⟨o,l,L,_⟩:=F;exact Uq WY I.kIn ⟨o,l,L⟩ g e (λz=>nomatch z) d
def tu:a0b->a0l
 |[x,.t [.ty a,.ty b]]=>(YL x).bind λt=>(yx t a b).map D.c
 |_=>Na
theorem BN:dT K (z9 K) tu:=λF H D Q E d G fr h e k=>by
 unfold tu at e;split at e
 .rename_i x a b
  cases q:YL x with
  |none=>rw[q]at e;cases e
  |some t=>
   rw[q]at e;simp only[Qb]at e;cases f:yx t a b with
   |none=>rw[f]at e;cases e
   |some c=>
    rw[f]at e;cases e;obtain⟨v,w,rfl,g,i⟩:=aj.o8 h;obtain⟨p,M,rfl,n,j⟩:=bc.f5 i;obtain⟨y,z,rfl,l,m⟩:=aj.o8 j;cases l.ty;cases m.ty;exact⟨v,p,[a,b],_,c,rfl,n,zj q g,Ij f,k _ H (To.refl fr) rfl⟩
 .cases e
def ux(K:NR)(J:It)(F:Fx)(H:Hp)(b:a0b):Prop:=∀(h:Fx) (g:Hp) (a:Bg),Tr F H h g->Fr h g a->∀i,(∀d,b[i]?=My d->J.go i g/\∀x j,J.yld i g x j->bT g j/\bc K h j d x)/\(i=SW b->J.stop i g)
theorem ux.tr{K:NR}{F d:Fx}{H g:Hp}(t:Tr F H d g)(h:ux K J F H ds):ux K J d g ds:=λi j a t3 fr=>h i j a (t.trans t3) fr
def iV(K:NR)(f:FL)(E:a0t):TI:=λd H R=>∃F a b,Fr F H b/\hW K F H a d/\run (λg (c:a0b) (J:It)=>ux K J F g c) F E d (f a) H R b
theorem _root_.L2.PI.imp{X:Cx}{a e:Expr}(h:PI X a e t)(f:∀d H Q,i d H Q->t d H Q):PI X a e i:=λg s d H Q I q=>h g s d H Q I (f d H Q q)
variable{tg:Expr}
def Kk(K:NR)(c:TE):TI:=λg H R=>c g H λx d=>(∃a,x= .r a/\(∃b,d_ K d a b)/\R (Y6 K a) d)\/(∃a,x= .r a/\(∃b,f_ K d a b)/\R (Itt K a) d)
theorem AF(t:PE X l tl):PI X tg l (Kk X.K tl):=by
 intro g s u H R I h;refine dt (t g s u H _ I h) λv d ⟨x,m,i,f,k⟩=>?_;have j:∀b∈[d.heap.objs.size],fR X g m b:=λb w=>by
  obtain rfl:b=d.heap.objs.size:=by simpa using w
  exact i.fpOk (No _) (i.hok.fresh (No _))
 rcases k with⟨a,e,⟨n,r⟩,q⟩|⟨a,e,⟨n,r⟩,q⟩
 .subst e
  cases f;obtain⟨c,y,p,A⟩:=i.list r;exact Ur p.isList ⟨d.heap.objs.size,[d.heap.objs.size],_,_,m,rfl,i.kept (t':=d.toks) λb o e=>Nd _ e,rj a _,⟨_,NE _ rfl,rfl,rfl⟩,j,q⟩
 .subst e
  cases f;obtain⟨c,y,p,A⟩:=i.tuple r;exact Vs (show d.heap.IsTuple a c.toArray from p) ⟨d.heap.objs.size,[d.heap.objs.size],_,_,m,rfl,i.kept (t':=d.toks) λb o e=>Nd _ e,xG a _,⟨_,NE _ rfl,rfl,rfl⟩,j,q⟩
theorem vt{F:Fx}{H:Hp}{a:Nh}(h:bc K F H (.l s) (.r a)):ux K (Y6 K a) F H s:=λq r n t fr i=>by
 have m:=bc.tr t _ _ h;obtain⟨u,b,e,c,g⟩:=bc.h0 m;cases e;refine⟨λd k=>?_,λo=>⟨b,c,by rw[<-g.length,o];exact No _⟩⟩;obtain⟨x,p,_⟩:=g.get k;refine⟨⟨b,x,c,p⟩,λy v f=>?_⟩;obtain⟨rfl,f⟩:=f;obtain⟨D,l,j⟩:=g.getV (f b c);rw[k]at l;cases l;exact⟨bT.refl _,j⟩
theorem wZ{F:Fx}{H:Hp}{a:Nh}(h:bc K F H (.t s) (.r a)):ux K (Itt K a) F H s:=λq r n t fr i=>by
 have m:=bc.tr t _ _ h;obtain⟨u,b,e,c,g⟩:=bc.f5 m;cases e;refine⟨λd k=>?_,λo=>⟨b,c,by rw[<-g.length,o];exact No _⟩⟩;obtain⟨x,p,_⟩:=g.get k;refine⟨⟨b,x,c,p⟩,λy v f=>?_⟩;obtain⟨rfl,f⟩:=f;obtain⟨D,l,j⟩:=g.getV (f b c);rw[k]at l;cases l;exact⟨bT.refl _,j⟩
def di(f:FD):FL:=λa=>M.v (f a) λd=>M.f (dE d)
theorem bj{f:FD}(j:PE X l (tV X.K f E)):PI X tg l (iV X.K (di f) E):=
 (AF j).imp λq H R g=>i_ g λF p x fr m h=>⟨F,p,x,fr,m,(run.bind (R:=bc X.K F) h).mono λv i g=>by
  obtain⟨d,D,t,b,G⟩:=g;obtain⟨M,e,k⟩:=run.h0 G;cases d<;>first
   |(cases e;obtain⟨a,c,rfl,n,o⟩:=bc.h0 b;exact .inl ⟨a,rfl,⟨c,n⟩,k _ i (To.refl t.fr) (vt b)⟩)
   |(cases e;obtain⟨a,c,rfl,n,o⟩:=bc.f5 b;exact .inr ⟨a,rfl,⟨c,n⟩,k _ i (To.refl t.fr) (wZ b)⟩)
   |cases e⟩
noncomputable def bx(a:Int)(n:Nat):a0b:=(Nr n).map λ(i:Nat)=> .n (a+(i:Int))
theorem rW{F:Fx}{H:Hp}{b:Int}{n:Nat}:ux K (Y5 b n) F H (bx b n):=λl m c t fr i=>by
 refine⟨λd a=>?_,λg=>?_⟩
 .unfold bx at a
  have g:i<n:=by
   have:=(Nn.mp a).1;simpa using this
  rw[Nl,Oq g]at a;cases a;exact⟨g,λx o ⟨h,j⟩=>by subst h j;exact⟨bT.refl _,rfl⟩⟩
 .show n<=i
  rw[g];simp[bx]
def f9:a0b->a0z
 |[.n j]=>if(decide (-(2^62)<=j)&&decide (j<2^62))=Nf then My (bx 0 j.toNat)else Na
 |_=>Na
def nY:a0b->a0z
 |[.n i,.n j]=>if(decide (-(2^62)<=i)&&decide (i<2^62)&&decide (-(2^62)<=j)&&decide (j<2^62))=Nf then My (bx i (j-i).toNat)else Na
 |_=>Na
def cL(a:a0b->a0z)(g:FL):FL:=λb=>M.v (g b) λc=>M.f (a c)
theorem cT{a:Expr}{p ab:SA}(j:Gl X "range")(b:X.mg "range"=Na)(c:PA X [a] (hO X.K g E))(f:NL [a] X.e=[(Ni,OQ a X.e)]:=by rfl):PI X tg (.Call (.Name "range" p) [a] [] ab) (iV X.K (cL f9 g) E):=
 (AJ j b c f).imp λr H R d=>i_ d λF n x fr m h=>⟨F,n,x,fr,m,(run.bind (R:=aj X.K F) h).mono λS o d=>by
  obtain⟨U,D,t,G,M⟩:=d;obtain⟨l,e,k⟩:=run.h0 M;unfold f9 at e;split at e
  .split at e
   .rename_i i
    cases e;simp only[N5,Og]at i;obtain⟨v,rfl,q⟩:=aj.h0 G;cases q.int;exact⟨_,rfl,i.1,i.2,k _ o (To.refl t.fr) rW⟩
   .cases e
  .cases e⟩
theorem kK{a b:Expr}{p ab:SA}(m:Gl X "range")(c:X.mg "range"=Na)(f:PA X [a,b] (hO X.K g E))(n:NL [a,b] X.e=[(Ni,OQ a X.e),(Ni,OQ b X.e)]:=by rfl)(i:NL [b] X.e=[(Ni,OQ b X.e)]:=by rfl):PI X tg (.Call (.Name "range" p) [a,b] [] ab) (iV X.K (cL nY g) E):=
 (AI m c f n i).imp λy H R j=>i_ j λF x D fr o h=>⟨F,x,D,fr,o,(run.bind (R:=aj X.K F) h).mono λU q j=>by
  obtain⟨V,G,t,M,S⟩:=j;obtain⟨l,e,k⟩:=run.h0 S;unfold nY at e;split at e
  .split at e
   .rename_i d
    cases e;simp only[N5,Og]at d;obtain⟨v,w,rfl,r,u⟩:=aj.o8 M;cases r.int;cases u.int;exact⟨_,_,rfl,⟨d.1.1.1,d.1.1.2,d.1.2,d.2⟩,k _ q (To.refl t.fr) rW⟩
   .cases e
  .cases e⟩
abbrev lu:=D->Dn->Option Dn
abbrev jl:=a0b->Dn->Option Dn
def cQ(K:NR)(g:TG)(tg:lu):Prop:=∀(F:Fx) (H:Hp) (b a:Dn) (i:St) (d:D) (v:V) (Q:a0G),hW K F H b i->bc K F H d v->tg d b=My a->(∀h,hW K F H a h->Q h H)->g v i H Q
def qs(K:NR)(g:L_)(tg:jl):Prop:=∀(F:Fx) (H:Hp) (b a:Dn) (h:St) (c:a0b) (e:a0k) (Q:a0G),hW K F H b h->aj K F H c e->tg c b=My a->(∀d,hW K F H a d->Q d H)->g e h H Q
noncomputable def gs(i:Nat):lu:=λd a=>if(a.getD i (My .o)).isNone then My (a.set i (My d))else Na
noncomputable def kj:jl:=λa b=>match a with
 |[]=>My b
 |_=>Na
noncomputable def f8(t:lu)(u:jl):jl:=λb c=>match b with
 |[]=>Na
 |d::r=>(t d c).bind λa=>u r a
noncomputable def N_(t:jl):lu:=λd a=>match d with
 | .t ds=>t ds a
 |_=>Na
theorem uk{b a:Dn}(h:gs i d b=My a):b[i]?=My Na/\a=b.set i (My d):=by
 unfold gs at h;split at h
 .rename_i q
  cases h;refine⟨?_,rfl⟩;rw[NA]at q;cases e:b[i]? with
  |none=>rw[e]at q;cases q
  |some z=>
   rw[e]at q;cases z with
   |none=>rfl
   |some w=>cases q
 .cases h
theorem ax:cQ K (dQ i) (gs i):=λF H c a h d v Q g b e k=>by
 obtain⟨_,rfl⟩:=uk e;exact k _ (g.set b)
theorem cN:qs K gNil kj:=λF H f a g b n Q d c e k=>by
 cases b with
 |nil=>cases e;exact⟨c,k _ d⟩
 |cons _ _=>cases e
theorem aY(m:cQ K t s)(o:qs K u uf):qs K (yH t u) (f8 s uf):=λF H b a v c p Q w f e k=>by
 cases c with
 |nil=>cases e
 |cons d r=>
  obtain⟨x,l,rfl,n,y⟩:=f;have h:(s d b).bind (λa=>uf r a)=My a:=e;cases q:s d b with
  |none=>rw[q]at h;cases h
  |some g=>
   rw[q]at h;exact⟨x,l,rfl,m F H b g v d x _ w n q λi j=>o F H g a i r l Q j y h k⟩
theorem dI{n:Nat}(h:qs K t l)(x:∀f c b,l f c=My b->SW f=n):cQ K (EV K n t) (N_ l):=λF H c b i d v Q j D e k=>by
 cases d<;>first
  |(obtain⟨a,p,rfl,E,g⟩:=bc.f5 D;exact⟨a,p,rfl,E,by rw[<-g.length];exact x _ _ _ e,h F H c b i _ p Q j g e k⟩)
  |cases e
theorem cc:∀b c a,kj b c=My a->SW b=0:=λb c a h=>by
 cases b with
 |nil=>rfl
 |cons _ _=>cases h
theorem aW{n:Nat}(h:∀b c a,u b c=My a->SW b=n):∀b c a,f8 t u b c=My a->SW b=n+1:=λb c a e=>by
 cases b with
 |nil=>cases e
 |cons d r=>
  have g:(t d c).bind (λa=>u r a)=My a:=e;cases q:t d c with
  |none=>rw[q]at g;cases g
  |some i=>rw[q]at g;rw[NB,h _ _ _ g]
def d7(tg:lu):Prop:=∀d b a,tg d b=My a->Sub b a/\SW b=SW a
def tQ(tg:jl):Prop:=∀d b a,tg d b=My a->Sub b a/\SW b=SW a
theorem ay:d7 (gs i):=λd b a e=>by
 obtain⟨q,rfl⟩:=uk e;refine⟨λj c g=>?_,by rw[Om]⟩;rw[Pf];by_cases z:i=j
 .subst z;rw[q]at g;cases g
 .rw[Nv z];exact g
theorem cK:tQ kj:=λa c b e=>by
 cases a with
 |nil=>cases e;exact⟨λ_ _ h=>h,rfl⟩
 |cons _ _=>cases e
theorem aX(j:d7 t)(l:tQ u):tQ (f8 t u):=λf b a e=>by
 cases f with
 |nil=>cases e
 |cons d r=>
  have g:(t d b).bind (λa=>u r a)=My a:=e;cases q:t d b with
  |none=>rw[q]at g;cases g
  |some m=>
   rw[q]at g;obtain⟨k,n⟩:=j _ _ _ q;obtain⟨b1,b2⟩:=l _ _ _ g;exact⟨λi c h=>b1 i c (k i c h),n.trans b2⟩
theorem dD(h:tQ t):d7 (N_ t):=λd b a e=>by
 cases d<;>first|exact h _ _ _ e|cases e
structure l_ (F:Fx) (D:Nh) (H H':Hp) (β':Bg):Prop where
 kp:∀a o,H a=My o->a≠D->(∀b l,F.bg=My (b,l)->a≠b/\a≠l)->H' a=My o
 fr:Fr F H' β'
theorem l_.trans{F:Fx}{D:Nh}{H d g:Hp}(a:l_ F D H d β1)(b:l_ F D d g β2):l_ F D H g β2:=⟨λx o h n m=>b.kp x o (a.kp x o h n m) n m,b.fr⟩
theorem To.toD{F:Fx}{H d:Hp}(t:To F H d g)(D:Nh):l_ F D H d g:=⟨λa o h _ m=>t.kp a o h m,t.fr⟩
theorem l_.tr{F:Fx}{D:Nh}{H d:Hp}(fr:Fr F H j)(g:F.A D)(t:l_ F D H d i):Tr F H F d:=
 ⟨λ_ h _=>h,λa o h e=>t.kp a o e (λz=>h (z▸g)) λb l q=>⟨λz=>h (z▸(fr.bgA b l q).1),λz=>h (z▸(fr.bgA b l q).2.1)⟩,rfl⟩
structure AR where
 R:Fx->Hp->Nh->List Pu.D->Prop
 Z:List Pu.D->Prop
 tr:∀{F F2:Fx} {H H':Hp} {D:Nh} {as:List Pu.D},R F H D as->(∀o,H D=My o->H' D=My o)->Tr F H F2 H'->R F2 H' D as
 zp:∀{as os:List Pu.D},Z (as++os)->Z as
noncomputable def RL(K:NR):AR where
 R:=λF H D b=>∃a,H D=My (.l a)/\aj K F H b a
 Z:=λl=>SW l<=NN
 tr:=λh k t=>by
  obtain⟨a,d,g⟩:=h;exact⟨a,k _ d,aj.tr t _ _ g⟩
 zp:=λh=>by rw[Nw]at h;lia
def fj(K:NR)(R:AR)(D:Nh)(j:TB)(f:Dn->M (List Pu.D)):Prop:=∀(F:Fx) (H:Hp) (a:Dn) (k d:Bg) (i:St) (c e:List Pu.D) (Q:a0G),Fr F H k->F.A D->(∀b l,F.bg=My (b,l)->D≠b/\D≠l)->hW K F H a i->R.R F H D c->
 f a k=My (.ok e,d)->R.Z (c++e)->(∀g h,l_ F D H h d->hW K F h a g->R.R F h D (c++e)->Q g h)->j i H Q
abbrev jH(K:NR):=fj K (RL K)
def ko(f:Dn->M Pu.D):Dn->M (List Pu.D):=λa=>M.v (f a) λd=>M.h0 [d]
theorem M.f5{c g:Type}{m:M c}{k:c->M g}{f d:Bg}{r:g}(h:M.v m k f=My (.ok r,d)):∃a b,m f=My (.ok a,b)/\k a b=My (.ok r,d):=by
 unfold M.v at h;split at h
 .cases h
 .cases h
 .rename_i a b e
  exact⟨a,b,e,h⟩
theorem E0.run{b i:Type}{R:Hp->b->i->Prop}{F:Fx}{j:St}{m:M b}{H:Hp}{Q:i->Hp->Prop}{c d:Bg}{a:b}(e:m c=My (.ok a,d))(h:∀v g,To F H g d->R g a v->Q v g):run R F E0 j m H Q c:=⟨.ok a,d,e,h⟩
theorem aZ{D:Nh}{f:Dn->M Pu.D}:jH K D (yW D (tV K f E0)) (ko f):=λF H E G g w S V Q fr y i m A e B k=>by
 obtain⟨c,C,x⟩:=A;obtain⟨d,U,I,J⟩:=M.f5 e;cases J;refine⟨F,E,G,fr,m,E0.run I λv r t L=>?_⟩;have j:=t.kp D _ C i;have N:=aj.tr (t.tr fr) _ _ x;refine⟨c,j,by rw[<-x.length];have:=(show(S++[d]).length<=NN from B);simp at this;lia,?_⟩;have u:l_ F D r (upd r D (.l (c++[v]))) g:=by
  refine⟨λa o h n _=>by rw[a_ n];exact h,λa h q=>?_,fr.bgA,λb l q=>?_⟩
  .by_cases z:a=D
   .subst z;rw[aw]at q;cases q
   .rw[a_ z]at q;exact t.fr.occ a h q
  .rw[a_ (i b l q).1.symm,a_ (i b l q).2.symm]
   exact t.fr.bag b l q
 have p:=u.tr t.fr y;exact k w _ ((t.toD D).trans u) (m.tr ((t.tr fr).trans p)) ⟨_,aw,aj.append (aj.tr p _ _ N) ⟨v,[],rfl,bc.tr p _ _ L,rfl⟩⟩
def mY(tg:lu)(e:a0s)(b:Dn->M (List Pu.D)):List Pu.D->Dn->M (List Pu.D)
 |[],_=>M.h0 []
 |d::ds,δ=>match tg d δ with
  |none=>M.o8
  |some a=>M.v (e a) λc=>M.v (if c=Nf then b a else M.h0 []) λo=>M.v (mY tg e b ds δ) λf=>M.h0 (o++f)
theorem mT{R:AR}{D:Nh}{tg:lu}{b:Dn->M (List Pu.D)}(hg:cQ K g tg)(sg:d7 tg)(hb:fj K R D tb b){F:Fx}{H:Hp}{as os f:List Pu.D}(fr:Fr F H β)(hA:F.A D)(hn:∀b l,F.bg=My (b,l)->D≠b/\D≠l)(vk:hW K F H s σ)(hR:R.R F H D as)
  (it:ux K J F H f) (e:mY tg tt b f s β=My (.ok os,β')) (hz:R.Z (as++os)) (k:∀j t,l_ F D H t β'->hW K F t s j->R.R F t D (as++os)->Q j t):dh J g (hL K tt E0) tb σ H Q:=by
 refine⟨λi m j t=>m+i=SW f/\∃a r v,l_ F D H t a/\hW K F t s j/\R.R F t D r/\mY tg tt b (f.drop i) s a=My (.ok v,β')/\r++v=as++os,
  ⟨SW f,by lia,β,as,os,⟨λ_ _ h _ _=>h,fr⟩,vk,hR,e,rfl⟩,?_⟩
 rintro i m j t ⟨hm,a,r,v,t1,B,C,u,Y⟩;have G:=t1.tr fr hA;obtain⟨iy,is⟩:=it F t a G t1.fr i;cases P:f[i]? with
 |none=>
  have T:SW f<=i:=TX.mp P;rw[Q2 T]at u;cases u;refine .inl ⟨is (by lia),k j t t1 B ?_⟩;rw[<-Y,Ob];exact C
 |some d=>
  have T:i<SW f:=(Nn.mp P).1;obtain⟨go,yl⟩:=iy d P;have ed:f.drop i=d::f.drop (i+1):=by
   rw[Os T];congr 1;exact N6 ((Ng T).symm.trans P)
  rw[ed]at u;unfold mY at u;cases q:tg d s with
  |none=>rw[q]at u;cases u
  |some n=>
   rw[q]at u;obtain⟨c,E,e2,e3⟩:=M.f5 u;obtain⟨o,p,U,e5⟩:=M.f5 e3;obtain⟨S,ad,e6,e7⟩:=M.f5 e5;cases e7;obtain⟨s1,s2⟩:=sg _ _ _ q;refine .inr ⟨go,λI W=>l_ F D H W p/\hW K F W s I/\R.R F W D (r++o),?_,λx V hy=>?_⟩
   .rintro I W ⟨t9,vk9,hR9⟩
    exact⟨m-1,by lia,by lia,p,r++o,S,t9,vk9,hR9,e6,by rw[Ny];exact Y⟩
   .obtain⟨sm,dx⟩:=yl x V hy
    have t2:To F t V a:=t1.fr.same sm;have L:=t2.tr t1.fr;refine hg F V s n j d x _ (B.tr L) dx q λX w=>⟨F,n,a,t2.fr,w,E0.run e2 λc' H3 t3 ec=>?_⟩;subst ec;have y:=t3.tr t2.fr;have N:=R.tr C (λo z=>t3.kp D o (sm _ _ z) hn) (L.trans y);have O:l_ F D H H3 E:=t1.trans ((t2.trans t3).toD D);have aa:R.Z (r++o):=by
     rw[<-Y,<-Ny]at hz;exact R.zp hz
    cases c' with
    |true=>
     rw[Nu rfl]at U⊢;refine hb F H3 n E p X r o _ t3.fr hA hn (w.tr y) N U aa λae H4 t4 ab ac=>?_;exact⟨O.trans t4,ab.sub s1 s2,ac⟩
    |false=>
     rw[Nv Nz]at U⊢;cases U;exact⟨O,(w.tr y).sub s1 s2,by rw[Ob];exact N⟩
def YF(c:Dn->M (List Pu.D))(tg:lu)(e:a0s)(b:Dn->M (List Pu.D)):Dn->M (List Pu.D):=λa=>M.v (c a) λf=>mY tg e b f a
theorem oq{D:Nh}{tg:lu}{b:Dn->M (List Pu.D)}(j:cQ K g tg)(l:d7 tg)(m:fj K R D s b):fj K R D (yV (iV K C E0) λJ=>dh J g (hL K I E0) s) (YF C tg I b):=λF H c f q B p x Q fr r a h u e v k=>by
 obtain⟨E,n,w,y⟩:=M.f5 e;refine⟨F,c,f,fr,h,E0.run w λJ i t A=>?_⟩;exact mT j l m t.fr r a (h.tr (t.tr fr)) (R.tr u (λo z=>t.kp D o z a) (t.tr fr)) A y v λd i t1=>k d i ((t.toD D).trans t1)
theorem Ii{D:Nh}{tg:lu}{b:Dn->M (List Pu.D)}(d:cQ K g tg)(h:d7 tg)(i:jH K D j b):jH K D (yV (iV K l E0) λJ=>dh J g (hL K m E0) j) (YF l tg m b):=oq d h i
noncomputable def j0(nv:Nat)(br:a0a)(δ:Dn):Dn:=NX nv Na++br.map λj=>δ.getD j Na
def dJ(nv:Nat)(br:a0a)(it:Dn->M (List Pu.D))(tg:lu)(c:a0s)(b:Dn->M (List Pu.D)):Dn->M Pu.D:=λa e=>match it a e with
 |none=>Na
 |some (.error C,β1)=>My (.error C,β1)
 |some (.ok ds,β1)=>match mY tg c b ds (j0 nv br a) β1 with
  |some (.ok os,β2)=>if SW os<=NN then My (.ok (.l os),β2)else Na
  |_=>Na
theorem qm{F:Fx}{H:Hp}{a:a0j}(h:hW K F H r s):hW K F H (j0 (SW a) br r) (j7 a br s):=by
 refine⟨by simp[j0,j7],λi d e=>?_⟩;unfold j0 at e;unfold j7;rw[Ro]at e⊢;rw[P9]at e⊢;by_cases g:i<SW a
 .rw[Nu g,QV,Nu g]at e
  cases e
 .rw[Nv g,Nl]at e⊢
  cases q:br[i-SW a]? with
  |none=>rw[q]at e;cases e
  |some j=>
   rw[q]at e;simp only[P0,Wj]at e⊢;rw[NA]at e;cases z:r[j]? with
   |none=>rw[z]at e;cases e
   |some w=>
    rw[z]at e;have l:w=My d:=e;subst l;obtain⟨v,m,o⟩:=h.tell j d z;exact⟨v,by rw[NA,m];rfl,o⟩
theorem ul{c:a0j}{f:a0a}{k:Dn->M (List Pu.D)}{g:TG}{tg:lu}{p:a0s}{O:a0Z}{b:Dn->M (List Pu.D)}(W:cQ K g tg)(Y:d7 tg)(Z:∀D,jH K D (O D) b){P:St}{H:Hp}{Q:VK}(h:tV K (dJ (SW c) f k tg p b) E P H Q):
  oW c f (iV K k E) (λD J=>dh J g (hL K p E0) (O D)) P H Q:=by
 obtain⟨F,G,S,fr,T,r,v,e,h⟩:=h;unfold dJ at e;refine⟨F,G,S,fr,T,?_⟩;split at e
 .cases e
 .rename_i C β1 q
  cases e;exact⟨.error C,_,q,h⟩
 .rename_i ds β1 q
  split at e
  .rename_i os β2 q2
   split at e
   .rename_i hz
    cases e;refine⟨.ok ds,β1,q,λJ u t V D i=>?_⟩;have d:¬F.A D:=t.fr.fresh i;have X:∀b l,F.bg=My (b,l)->D≠b/\D≠l:=λb l z=>⟨λw=>d (w▸(fr.bgA b l z).1),λw=>d (w▸(fr.bgA b l z).2.1)⟩;have t2:=t.fr.upd (.l []) i;have B:Fr ⟨λa=>F.A a\/a=D,F.bg⟩ (upd u D (.l [])) β1:=by
     refine⟨λa ha z=>?_,λb l z=>let ⟨x,y,w⟩:=fr.bgA b l z;⟨.inl x,.inl y,w⟩,t2.fr.bag⟩
     rcases ha with ha|ha
     .exact t2.fr.occ a ha z
     .subst ha;rw[aw]at z;cases z
    have j:Tr F u ⟨λa=>F.A a\/a=D,F.bg⟩ (upd u D (.l [])):=⟨λa ha s z=>by
     rcases z with z|z
     .exact ha z
     .subst z;exact s i,λa o ha z=>by rw[a_ (aI z i)];exact z,rfl⟩
    refine mT (R:=RL K) (D:=D) (as:=[]) (os:=os) W Y (Z D) B (.inr rfl) X (qm (T.tr ((t.tr fr).trans j))) ⟨[],aw,rfl⟩ (V.tr j) q2 (show SW os<=NN from hz) λaa U t3 ab I=>?_;obtain⟨m,L,N⟩:=I;have tf:To F u U v:=by
     refine⟨λa o z n=>t3.kp a o (by rw[a_ (aI z i)];exact z) (aI z i) n,λa ha z=>t3.fr.occ a (P5 ha) z,fr.bgA,t3.fr.bag⟩
    refine h _ U (t.trans tf) ⟨D,m,rfl,⟨d,.inl L⟩,aj.tr (F:=⟨λa=>F.A a\/a=D,F.bg⟩) ⟨λa ha _ z=>ha (P5 z),λa o _ z=>z,rfl⟩ _ _ N⟩
   .cases e
  .cases e
inductive Sl where
 |h (d:D)|u (ds:a0b)|grd (ac:a0u)|odc (b:Bool) (ks:a0H) (vs:a0b)
abbrev a0L:=Option Sl
abbrev Ds:=List a0L
inductive nl where
 |nx (δ:Ds)|rt (d:D)|bk (δ:Ds)|ct (δ:Ds)|ex (C:Nh) (δ:Ds)|rg (ac:a0u)
abbrev a0w:=nl->Bg->Prop
abbrev G:=Ds->Bg->Option (nl×Bg)
abbrev Ow:=Nh->a0K
noncomputable def dy(B:Ow)(b:a0m):Fx:=⟨λa=>B a≠Na,b⟩
noncomputable def o1(B:Ow)(b:a0m):Fx:=⟨λa=>B a=My 0\/B a=My 1,b⟩
def bA(K:NR)(F:Fx)(H:Hp)(P:Nh->Prop):a0u->a0r->Prop
 |[],[]=>True
 |ds::ac,r::rs=>P r/\(∃a,H r=My (.l a)/\aj K F H ds a)/\bA K F H P ac rs
 |_,_=>False
theorem bA.tr{K:NR}{F i:Fx}{H d:Hp}(t:Tr F H i d):∀{b:a0u} {a:a0r},bA K F H P b a->(∀r xs,r∈a->P r->H r=My (.l xs)->P2 r/\d r=My (.l xs))->bA K i d P2 b a
 |[],[],_,_=>trivial
 |ds::b,r::a,h,f=>by
  obtain⟨j,⟨xs,l,m⟩,o⟩:=h;obtain⟨p,q⟩:=f r xs Np j l;exact⟨p,⟨xs,q,aj.tr t _ _ m⟩,bA.tr t o λu g v=>f u g (Nk _ v)⟩
 |[],_::_,h,_=>h.elim
 |_::_,[],h,_=>h.elim
theorem bA.all{K:NR}{F:Fx}{H:Hp}:∀{c:a0u} {a:a0r},bA K F H P c a->∀r∈a,P r/\∃b,H r=My (.l b)
 |[],[],_,r,hr=>by cases hr
 |ds::c,r0::a,h,r,hr=>by
  obtain⟨d,⟨b,g,j⟩,i⟩:=h;rcases NC.mp hr with rfl|hr
  .exact⟨d,b,g⟩
  .exact bA.all i r hr
 |[],_::_,h,_,_=>h.elim
 |_::_,[],h,_,_=>h.elim
theorem bA.den{K:NR}{F d:Fx}{H:Hp}(t:Tr F H d H):∀{b:a0u} {a:a0r},bA K F H P b a->(∀r,r∈a->P r->¬d.A r)->aj K d H (b.map D.l) (a.map V.r)
 |[],[],_,_=>rfl
 |ds::b,r::a,h,f=>by
  obtain⟨g,⟨c,i,j⟩,l⟩:=h;exact aj.cons ⟨r,c,rfl,⟨f r Np g,.inl i⟩,aj.tr t _ _ j⟩ (bA.den t l λm o=>f m (Nk _ o))
 |[],_::_,h,_=>h.elim
 |_::_,[],h,_=>h.elim
theorem bA.len{K:NR}{F:Fx}{H:Hp}:∀{a:a0u} {b:a0r},bA K F H P a b->SW a=SW b
 |[],[],_=>rfl
 |ds::a,r::b,h=>by simp[bA.len h.2.2]
 |[],_::_,h=>h.elim
 |_::_,[],h=>h.elim
def ik(K:NR)(F:Fx)(c H:Hp)(e:a0u)(v:V):Prop:=∃a b,v= .r a/\c a=Na/\H a=My (.l (b.map V.r))/\(a::b).Nodup/\bA K F H (λr=>c r=Na) e b
def YI(K:NR)(F:Fx)(H:Hp)(a:Nh)(b:Bool)(d:a0H)(e:a0b):Prop:=∃f c,H a=My (cU a b f c)/\d=c.map (·.1)/\(∀x∈c,fQ K F H b x.1 x.2.1)/\aj K F H e (c.map (·.2.2))
theorem YI.tr{K:NR}{F g:Fx}{H d:Hp}{a:Nh}{b:Bool}(t:Tr F H g d)(h:YI K F H a b q r)(k:∀o,H a=My o->d a=My o):YI K g d a b q r:=by
 obtain⟨c,e,i,j,l,m⟩:=h;exact⟨c,e,k _ i,j,λx f=>(l x f).tr t,aj.tr t _ _ m⟩
theorem YI.ne{K:NR}{F:Fx}{H:Hp}{a:Nh}{b:Bool}(h:YI K F H a b g i):H a≠Na:=by
 obtain⟨c,e,d,_⟩:=h;rw[d];simp
def w_(H:Hp)(a:Nh):Prop:=(∃b,H a=My (.l b))\/∃d,H a=My (.ext d)
theorem w_.imp{H d:Hp}{a:Nh}(h:w_ H a)(k:∀o,H a=My o->d a=My o):w_ d a:=Or.imp (λ⟨b,z⟩=>⟨b,k _ z⟩) (λ⟨g,z⟩=>⟨g,k _ z⟩) h
def mz(K:NR)(B:Ow)(c:a0m)(H:Hp)(i:Nat):Sl->V->Prop
 | .h d,v=>bc K (dy B c) H d v
 | .u ds,v=>∃a f,v= .r a/\B a=My (i+2)/\H a=My (.l f)/\aj K (dy B c) H ds f
 | .grd ac,v=>∃a e,v= .r a/\B a=My (i+2)/\H a=My (.l (e.map V.r))/\(a::e).Nodup/\bA K (dy B c) H (λr=>B r=My (i+2)) ac e
 | .odc b ks vs,v=>∃a,v= .r a/\B a=My (i+2)/\YI K (dy B c) H a b ks vs
theorem mz.tr{K:NR}{H g:Hp}(h:mz K B u H j s v)(t:Tr (dy B u) H (dy B2 u) g)(k:∀c,B c=My (j+2)->B2 c=My (j+2)/\∀o,H c=My o->g c=My o):mz K B2 u g j s v:=by
 cases s with
 |h d=>exact bc.tr t _ _ h
 |u cs=>
  obtain⟨c,l,e,a,f,i⟩:=h;exact⟨c,l,e,(k c a).1,(k c a).2 _ f,aj.tr t _ _ i⟩
 |grd ac=>
  obtain⟨c,n,e,a,f,i,m⟩:=h;exact⟨c,n,e,(k c a).1,(k c a).2 _ f,i,bA.tr t m λr _ _ p q=>⟨(k r p).1,(k r p).2 _ q⟩⟩
 |odc b ks vs=>
  obtain⟨c,e,a,f⟩:=h;exact⟨c,e,(k c a).1,f.tr t (k c a).2⟩
structure eg (K:NR) (H₀:Hp) (B:Ow) (bg:a0m) (H:Hp) (δ:Ds) (β:Bg) (σ:St):Prop where
 fr:Fr (dy B bg) H β
 bgt:∀b l,bg=My (b,l)->B b=My 1/\B l=My 1
 len:SW δ=SW σ
 cov:∀a,H₀ a≠Na->H a≠Na
 new:∀a k,B a=My (k+2)->H₀ a=Na
 lst:∀a k,B a=My (k+2)->w_ H a
 tell:∀(i:Nat) (s:Sl),δ[i]?=My (My s)->∃v,σ[i]?=My (My v)/\mz K B bg H i s v
structure f0 (B:Ow) (H:Hp) (B':Ow) (H':Hp):Prop where
 kp:∀a o,H a=My o->(B a=Na\/B a=My 0)->H' a=My o
 tg:∀a,B a=My 0\/B a=My 1->B' a=B a
 nn:∀a o,H a=My o->B a=Na->B' a=Na
 al:∀a,H a≠Na->H' a≠Na
theorem f0.refl(B:Ow)(H:Hp):f0 B H B H:=⟨λ_ _ h _=>h,λ_ _=>rfl,λ_ _ _ h=>h,λ_ h=>h⟩
theorem f0.trans{H d g:Hp}(a:f0 B H B1 d)(b:f0 B1 d B2 g):f0 B H B2 g:=by
 refine⟨λx o h n=>b.kp x o (a.kp x o h n) ?_,λx h=>?_,λx o h n=>b.nn x o (a.kp x o h (.inl n)) (a.nn x o h n),λx h=>b.al x (a.al x h)⟩
 .rcases n with n|n
  .exact .inl (a.nn x o h n)
  .exact .inr ((a.tg x (.inl n)).trans n)
 .have e:=a.tg x h
  rw[<-e]at h;exact(b.tg x h).trans e
def g9(K:NR)(a:Hp)(b:a0m)(E:a0t)(Dn:o_)(B:Ow)(H:Hp)(o:nl)(j:Bg):Prop:=match o with
 | .nx δ'=>∀h i g,f0 B H i g->eg K a i b g δ' j h->Dn.nx h g
 | .bk δ'=>∀h i g,f0 B H i g->eg K a i b g δ' j h->Dn.bk h g
 | .ct δ'=>∀h i g,f0 B H i g->eg K a i b g δ' j h->Dn.ct h g
 | .rt d=>∀v i g,f0 B H i g->Fr (dy i b) g j->bc K (dy i b) g d v->Dn.rt v g
 | .rg ac=>∀v i g,f0 B H i g->Fr (dy i b) g j->ik K (dy i b) a g ac v->Dn.rt v g
 | .ex C δ'=>∀h i g,f0 B H i g->eg K a i b g δ' j h->E h (.ref C) Na g
theorem g9.pre{K:NR}{E:a0t}{Dn:o_}{H l:Hp}(s:f0 B H B1 l)(h:g9 K H₀ q E Dn B H o m):g9 K H₀ q E Dn B1 l o m:=by
 cases o with
 |nx δ=>exact λg i j t=>h g i j (s.trans t)
 |bk δ=>exact λg i j t=>h g i j (s.trans t)
 |ct δ=>exact λg i j t=>h g i j (s.trans t)
 |rt d=>exact λv i j t=>h v i j (s.trans t)
 |rg d=>exact λv i j t=>h v i j (s.trans t)
 |ex C δ=>exact λg i j t=>h g i j (s.trans t)
def tG(K:NR)(a:Hp)(g:G)(E:a0t):TS:=λDn h H=>∃B b c e o d,eg K a B b H c e h/\g c e=My (o,d)/\g9 K a b E Dn B H o d
theorem _root_.L2.PS.imp{X:Cx}{e:O0}(h:PS X e t)(f:∀D d H,i D d H->t D d H):PS X e i:=λg s d H D I q=>h g s d H D I (f D d H q)
theorem _root_.L2.PSs.imp{X:Cx}{e:a0T}(h:PSs X e t)(f:∀D d H,i D d H->t D d H):PSs X e i:=λg s d H D I q=>h g s d H D I (f D d H q)
noncomputable def vw(δ:Ds):Dn:=δ.map λs=>match s with
 |some (.h d)=>My d
 |_=>Na
noncomputable def fh(δ:Ds):Dn:=δ.map λs=>match s with
 |some (.h d)=>My d
 |some (.u ds)=>My (.l ds)
 |some (.grd ac)=>My (.l (ac.map D.l))
 |some (.odc b ks vs)=>My (.dct b ks vs)
 |none=>Na
variable{f:Hp}{B:Ow}{bg:a0m}{H':Hp}{δ:Ds}{β aa:Bg}{σ:St}
theorem LZ{i:Nat}{d:D}(e:(vw δ)[i]?=My (My d)):δ[i]?=My (My (.h d)):=by
 unfold vw at e;rw[Nl]at e;cases q:δ[i]? with
 |none=>rw[q]at e;cases e
 |some z=>
  rw[q]at e;cases z with
  |none=>cases e
  |some s=>
   cases s with
   |h c=>cases e;rfl
   |u ds=>cases e
   |grd ac=>cases e
   |odc b ks vs=>cases e
theorem eg.view(h:eg K f B bg H δ β σ):hW K (dy B bg) H (vw δ) σ:=⟨by unfold vw;rw[M9,h.len],λi d e=>h.tell i _ (LZ e)⟩
theorem YM:Tr (dy B bg) H (o1 B bg) H:=⟨λa h _ z=>by
 have b:¬(B a≠Na):=h;rcases z with z|z
 .exact b (by rw[z];simp)
 .exact b (by rw[z];simp),λ_ _ _ h=>h,rfl⟩
theorem eg.h0(h:eg K f B bg H δ β σ):Fr (o1 B bg) H β:=⟨λa c=>h.fr.occ a (by
 show B a≠Na;rcases c with z|z<;>rw[z]<;>simp),λb l e=>⟨.inr (h.bgt b l e).1,.inr (h.bgt b l e).2,(h.fr.bgA b l e).2.2⟩,h.fr.bag⟩
theorem eg.f5(h:eg K f B bg H δ β σ):hW K (o1 B bg) H (fh δ) σ:=by
 refine⟨by unfold fh;rw[M9,h.len],λi d e=>?_⟩;unfold fh at e;rw[Nl]at e;cases q:δ[i]? with
 |none=>rw[q]at e;cases e
 |some z=>
  rw[q]at e;cases z with
  |none=>cases e
  |some s=>
   obtain⟨v,m,o⟩:=h.tell i s q;cases s with
   |h c=>cases e;exact⟨v,m,bc.tr YM _ _ o⟩
   |u ds=>
    cases e;obtain⟨a,k,g,j,l,t⟩:=o;refine⟨v,m,a,k,g,⟨λz=>?_,.inl l⟩,aj.tr YM _ _ t⟩;have z':B a=My 0\/B a=My 1:=z;rw[j]at z';rcases z' with z'|z'<;>cases z'
   |grd ac=>
    cases e;obtain⟨a,D,g,j,l,t,u⟩:=o;have w:∀c,B c=My (i+2)->¬(o1 B bg).A c:=λc y z=>by
     have z':B c=My 0\/B c=My 1:=z;rw[y]at z';rcases z' with z'|z'<;>cases z'
    exact⟨v,m,a,_,g,⟨w a j,.inl l⟩,bA.den YM u λr _ C=>w r C⟩
   |odc b ks vs=>
    cases e;obtain⟨a,g,j,n,k,l,t,u,I⟩:=o;refine⟨v,m,?_⟩;unfold bc;refine⟨a,n,k,g,⟨λz=>?_,l⟩,t,λx p=>(u x p).tr YM,aj.tr YM _ _ I⟩;have z':B a=My 0\/B a=My 1:=z;rw[j]at z';rcases z' with z'|z'<;>cases z'
theorem eg.to{F:Fx}(h:eg K f B bg H δ β σ)(hF:F.bg=bg)(t:To F H H' aa):eg K f B bg H' δ aa σ/\f0 B H B H':=by
 have u:∀a,B a≠My 1->∀b l,F.bg=My (b,l)->a≠b/\a≠l:=λa p b l e=>by
  rw[hF]at e;exact⟨λz=>p (z▸(h.bgt b l e).1),λz=>p (z▸(h.bgt b l e).2)⟩
 have x:∀a o,H a=My o->B a≠My 1->H' a=My o:=λa o e n=>t.kp a o e (u a n);have fr:Fr (dy B bg) H' aa:=⟨λa p z=>(by
  by_cases y:B a=My 1
  .by_cases g:∃b l,bg=My (b,l)/\(a=b\/a=l)
   .obtain⟨b,l,e,q⟩:=g
    obtain⟨j,m⟩:=t.fr.bag b l (hF.trans e);rcases q with rfl|rfl
    .rw[j]at z;cases z
    .rw[m]at z;cases z
   .cases q:H a with
    |none=>exact h.fr.occ a p q
    |some o=>
     rw[t.kp a o q λb l e=>⟨λw=>g ⟨b,l,hF.symm.trans e,.inl w⟩,λw=>g ⟨b,l,hF.symm.trans e,.inr w⟩⟩]at z;cases z
  .cases q:H a with
   |none=>exact h.fr.occ a p q
   |some o=>rw[x a o q y]at z;cases z),h.fr.bgA,λb l e=>t.fr.bag b l (hF.trans e)⟩
 have E:Tr (dy B bg) H (dy B bg) H':=⟨λ_ n _=>n,λa o n e=>x a o e (λz=>n (by show B a≠Na;rw[z];simp)),rfl⟩;have D:∀a,H a≠Na->H' a≠Na:=λa p z=>by
  by_cases g:∃b l,bg=My (b,l)/\(a=b\/a=l)
  .obtain⟨b,l,e,q⟩:=g
   obtain⟨j,m⟩:=t.fr.bag b l (hF.trans e);rcases q with rfl|rfl
   .rw[j]at z;cases z
   .rw[m]at z;cases z
  .cases q:H a with
   |none=>exact p q
   |some o=>
    rw[t.kp a o q λb l e=>⟨λw=>g ⟨b,l,hF.symm.trans e,.inl w⟩,λw=>g ⟨b,l,hF.symm.trans e,.inr w⟩⟩]at z;cases z
 refine⟨⟨fr,h.bgt,h.len,λa p=>D a (h.cov a p),h.new,λc k r=>(h.lst c k r).imp λo z=>x c o z (by rw[r];intro z;cases z),λi s e=>?_⟩,λa o e n=>x a o e (by rcases n with n|n<;>rw[n]<;>simp),λ_ _=>rfl,λ_ _ _ n=>n,D⟩
 obtain⟨v,A,C⟩:=h.tell i s e;exact⟨v,A,C.tr E λc d=>⟨d,λo q=>x c o q (by rw[d];intro z;cases z)⟩⟩
theorem eg.set(h:eg K f B bg H δ β σ)(a:bc K (dy B bg) H d v):eg K f B bg H (δ.set i (My (.h d))) β (σ.set i (My v)):=by
 refine⟨h.fr,h.bgt,by rw[Om,Om,h.len],h.cov,h.new,h.lst,λj c e=>?_⟩;rw[Pf]at e;rw[Pf];by_cases q:i=j
 .subst q
  rw[Nu rfl]at e⊢;split at e
  .rename_i g
   cases e;rw[Nu (by rw[<-h.len];exact g)];exact⟨v,rfl,a⟩
  .cases e
 .rw[Nv q]at e⊢
  exact h.tell j c e
noncomputable def gNil:G:=λδ β=>My (.nx δ,β)
noncomputable def aJ(g h:G):G:=λδ β=>match g δ β with
 |some (.nx δ1,β1)=>h δ1 β1
 |r=>r
def gA(i:Nat)(f:FD):G:=λδ β=>match f (vw δ) β with
 |some (.ok d,β1)=>My (.nx (δ.set i (My (.h d))),β1)
 |some (.error C,β1)=>My (.ex C δ,β1)
 |none=>Na
def tF(i:Nat)(f:FD):G:=λδ β=>match f (fh δ) β with
 |some (.ok d,β1)=>if dR d=Nf then My (.nx (δ.set i (My (.h d))),β1)else Na
 |some (.error C,β1)=>My (.ex C δ,β1)
 |none=>Na
noncomputable def pZ(f:FD):G:=λδ β=>match f (fh δ) β with
 |some (.ok _,β1)=>My (.nx δ,β1)
 |some (.error C,β1)=>My (.ex C δ,β1)
 |none=>Na
noncomputable def fK(f:FD):G:=λδ β=>match f (fh δ) β with
 |some (.ok d,β1)=>My (.rt d,β1)
 |some (.error C,β1)=>My (.ex C δ,β1)
 |none=>Na
noncomputable def ro(t:a0s)(g h:G):G:=λδ β=>match t (fh δ) β with
 |some (.ok Nf,β1)=>g δ β1
 |some (.ok Ni,β1)=>h δ β1
 |some (.error C,β1)=>My (.ex C δ,β1)
 |none=>Na
variable{st:O0}{f:a0T}
theorem bu:PSs X [] (tG X.K X.H₀ gNil E):=qG.imp λD σ H d=>by
 obtain⟨B,bg,δ,β,o,aa,ok,e,h⟩:=d;cases e;exact h σ B H (f0.refl B H) ok
theorem ag(i:PS X st (tG X.K X.H₀ g E))(j:PSs X f (tG X.K X.H₀ h E)):PSs X (st::f) (tG X.K X.H₀ (aJ g h) E):=(c9 i j).imp λD σ H l=>by
 obtain⟨B,bg,δ,β,o,aa,ok,e,q⟩:=l;unfold aJ at e;split at e
 .rename_i δ1 β1 m
  refine⟨B,bg,δ,β,.nx δ1,β1,ok,m,λt u H' s d=>⟨u,bg,δ1,β1,o,aa,d,e,g9.pre s ?_⟩⟩;exact q
 .rename_i r v
  refine⟨B,bg,δ,β,o,aa,ok,e,?_⟩;cases o with
  |nx δ1=>exact NW e (v δ1 aa)
  |_=>exact q
theorem aq(d:PS X st (tG X.K X.H₀ g E)):PSs X [st] (tG X.K X.H₀ g E):=mJ d
theorem aK{x:Oi}{f:FD}(h:PS X (.Assign [.Name x pos'] e ab) (gm (tV X.K f E) (dQ i))):PS X (.Assign [.Name x pos'] e ab) (tG X.K X.H₀ (gA i f) E):=h.imp λD σ H m=>by
 obtain⟨B,bg,δ,β,o,aa,ok,e,q⟩:=m;refine⟨dy B bg,vw δ,β,ok.fr,ok.view,?_⟩;unfold gA at e;split at e
 .rename_i d β1 j
  cases e;refine⟨.ok d,_,j,λv H' t a=>?_⟩;obtain⟨g,l⟩:=ok.to rfl t;exact q _ B H' l (g.set a)
 .rename_i C β1 j
  cases e;refine⟨.error C,_,j,λH' t=>?_⟩;obtain⟨g,l⟩:=ok.to rfl t;exact q _ B H' l g
 .cases e
theorem EY{K:NR}{F g:Fx}{H:Hp}(i:dR d=Nf)(h:bc K F H d v):bc K g H d v:=by
 cases d<;>first|exact h|cases i
theorem Jl{x:Oi}{f:FD}(h:PS X (.Assign [.Name x pos'] e ab) (gm (tV X.K f E) (dQ i))):PS X (.Assign [.Name x pos'] e ab) (tG X.K X.H₀ (tF i f) E):=h.imp λD σ H m=>by
 obtain⟨B,bg,δ,β,o,aa,ok,e,q⟩:=m;refine⟨o1 B bg,fh δ,β,ok.h0,ok.f5,?_⟩;unfold tF at e;split at e
 .rename_i d β1 j
  split at e
  .rename_i r
   cases e;refine⟨.ok d,_,j,λv H' t a=>?_⟩;obtain⟨g,l⟩:=ok.to rfl t;exact q _ B H' l (g.set (EY r a))
  .cases e
 .rename_i C β1 j
  cases e;refine⟨.error C,_,j,λH' t=>?_⟩;obtain⟨g,l⟩:=ok.to rfl t;exact q _ B H' l g
 .cases e
theorem ph{f:FD}(h:PS X (.Expr e ab) (oV (tV X.K f E))):PS X (.Expr e ab) (tG X.K X.H₀ (pZ f) E):=h.imp λD σ H l=>by
 obtain⟨B,bg,δ,β,o,aa,ok,e,q⟩:=l;refine⟨o1 B bg,fh δ,β,ok.h0,ok.f5,?_⟩;unfold pZ at e;split at e
 .rename_i d β1 i
  cases e;refine⟨.ok d,_,i,λv H' t a=>?_⟩;obtain⟨g,j⟩:=ok.to rfl t;exact q _ B H' j g
 .rename_i C β1 i
  cases e;refine⟨.error C,_,i,λH' t=>?_⟩;obtain⟨g,j⟩:=ok.to rfl t;exact q _ B H' j g
 .cases e
noncomputable def gR(B:Ow):Ow:=λa=>if B a=My 0\/B a=My 1 then B a else Na
theorem Ka{B:Ow}{bg:a0m}{H:Hp}:Tr (o1 B bg) H (dy (gR B) bg) H:=⟨λa h _ z=>by
 have d:gR B a≠Na:=z;unfold gR at d;split at d
 .rename_i q;exact h q
 .exact d rfl,λ_ _ _ h=>h,rfl⟩
theorem Ey{B:Ow}{H:Hp}:f0 B H (gR B) H:=⟨λ_ _ h _=>h,λa h=>by unfold gR;rw[Nu h],λa o h n=>by unfold gR;rw[n];simp,λ_ h=>h⟩
theorem aO{f:FD}(h:PS X (.Return (My e) ab) (DQ (tV X.K f E))):PS X (.Return (My e) ab) (tG X.K X.H₀ (fK f) E):=h.imp λD σ H r=>by
 obtain⟨B,bg,δ,β,o,aa,ok,e,q⟩:=r;refine⟨o1 B bg,fh δ,β,ok.h0,ok.f5,?_⟩;unfold fK at e;split at e
 .rename_i d β1 j
  cases e;refine⟨.ok d,_,j,λv H' t c=>?_⟩;obtain⟨g,m⟩:=ok.to rfl t;refine q _ (gR B) H' (m.trans Ey) ⟨λa k=>g.fr.occ a ?_,λb l e=>?_,g.fr.bag⟩ (bc.tr Ka _ _ c)
  .have i:gR B a≠Na:=k
   show B a≠Na;unfold gR at i;split at i
   .exact i
   .exact NW rfl i
  .refine⟨?_,?_,(g.fr.bgA b l e).2.2⟩
   .show gR B b≠Na
    unfold gR;rw[Nu (.inr (ok.bgt b l e).1),(ok.bgt b l e).1];simp
   .show gR B l≠Na
    unfold gR;rw[Nu (.inr (ok.bgt b l e).2),(ok.bgt b l e).2];simp
 .rename_i C β1 j
  cases e;refine⟨.error C,_,j,λH' t=>?_⟩;obtain⟨g,m⟩:=ok.to rfl t;exact q _ B H' m g
 .cases e
theorem bH{c:Expr}{a b:a0T}(l:PT X c (hL X.K t E))(k:PSs X a (tG X.K X.H₀ g E))(m:PSs X b (tG X.K X.H₀ h E)):PS X (.If c a b ab) (tG X.K X.H₀ (ro t g h) E):=(GK l k m).imp λD σ H r=>by
 obtain⟨B,bg,δ,β,o,aa,ok,e,q⟩:=r;refine⟨o1 B bg,fh δ,β,ok.h0,ok.f5,?_⟩;unfold ro at e;split at e
 .rename_i β1 i
  refine⟨.ok Nf,_,i,λv H' t f=>?_⟩;subst f;obtain⟨d,j⟩:=ok.to rfl t;rw[Nu rfl];exact⟨B,bg,δ,β1,o,aa,d,e,g9.pre j q⟩
 .rename_i β1 i
  refine⟨.ok Ni,_,i,λv H' t f=>?_⟩;subst f;obtain⟨d,j⟩:=ok.to rfl t;rw[Nv Nz];exact⟨B,bg,δ,β1,o,aa,d,e,g9.pre j q⟩
 .rename_i C β1 i
  cases e;refine⟨.error C,_,i,λH' t=>?_⟩;obtain⟨d,j⟩:=ok.to rfl t;exact q _ B H' j d
 .cases e
abbrev y_:=D->Ds->Option Ds
abbrev mr:=a0b->Ds->Option Ds
def kU(K:NR)(g:TG)(tg:y_):Prop:=∀(f:Hp) (B:Ow) (bg:a0m) (H:Hp) (δ a:Ds) (β:Bg) (σ:St) (d:D) (v:V) (Q:a0G),eg K f B bg H δ β σ->bc K (dy B bg) H d v->tg d δ=My a->(∀h,eg K f B bg H a β h->Q h H)->g v σ H Q
def qq(K:NR)(g:L_)(tg:mr):Prop:=∀(f:Hp) (B:Ow) (bg:a0m) (H:Hp) (δ a:Ds) (β:Bg) (σ:St) (b:a0b) (c:a0k) (Q:a0G),eg K f B bg H δ β σ->aj K (dy B bg) H b c->tg b δ=My a->(∀d,eg K f B bg H a β d->Q d H)->g c σ H Q
noncomputable def ZS(i:Nat):y_:=λd δ=>My (δ.set i (My (.h d)))
noncomputable def Jj:mr:=λa δ=>match a with
 |[]=>My δ
 |_=>Na
noncomputable def Ji(t:y_)(u:mr):mr:=λb δ=>match b with
 |[]=>Na
 |d::r=>(t d δ).bind λa=>u r a
noncomputable def sgT(t:mr):y_:=λd δ=>match d with
 | .t ds=>t ds δ
 |_=>Na
theorem aR:kU K (dQ i) (ZS i):=λf B bg H δ a β σ d v Q b c e k=>by
 cases e;exact k _ (b.set c)
theorem iM:qq K L2.gNil Jj:=λf B bg H δ a β σ b p Q c n e k=>by
 cases b with
 |nil=>cases e;exact⟨n,k _ c⟩
 |cons _ _=>cases e
theorem cS(m:kU K t s)(o:qq K u uf):qq K (yH t u) (Ji s uf):=λf B bg H δ a β σ b D Q c n e k=>by
 cases b with
 |nil=>cases e
 |cons d r=>
  obtain⟨x,l,rfl,p,v⟩:=n;have h:(s d δ).bind (λa=>uf r a)=My a:=e;cases q:s d δ with
  |none=>rw[q]at h;cases h
  |some g=>
   rw[q]at h;exact⟨x,l,rfl,m f B bg H δ g β σ d x _ c p q λi j=>o f B bg H g a β i r l Q j v h k⟩
theorem gJ:∀b δ a,Jj b δ=My a->SW b=0:=λb δ a h=>by
 cases b with
 |nil=>rfl
 |cons _ _=>cases h
theorem cR{n:Nat}(h:∀b δ a,u b δ=My a->SW b=n):∀b δ a,Ji t u b δ=My a->SW b=n+1:=λb δ a e=>by
 cases b with
 |nil=>cases e
 |cons d r=>
  have g:(t d δ).bind (λa=>u r a)=My a:=e;cases q:t d δ with
  |none=>rw[q]at g;cases g
  |some i=>rw[q]at g;rw[NB,h _ _ _ g]
theorem jX{n:Nat}(h:qq K t i)(x:∀c δ b,i c δ=My b->SW c=n):kU K (EV K n t) (sgT i):=λf B bg H δ b β σ d v Q D E e k=>by
 cases d<;>first
  |(obtain⟨a,p,rfl,F,g⟩:=bc.f5 E;exact⟨a,p,rfl,F,by rw[<-g.length];exact x _ _ _ e,h f B bg H δ b β σ _ p Q D g e k⟩)
  |cases e
def yJ(f:FD)(tg:y_):G:=λδ β=>match f (vw δ) β with
 |some (.ok d,β1)=>(tg d δ).map λa=>(.nx a,β1)
 |some (.error C,β1)=>My (.ex C δ,β1)
 |none=>Na
theorem GB{f:FD}{tg:y_}(l:kU X.K g tg)(h:PS X (.Assign [s] e ab) (gm (tV X.K f E) g)):PS X (.Assign [s] e ab) (tG X.K X.H₀ (yJ f tg) E):=h.imp λD σ H w=>by
 obtain⟨B,bg,δ,β,o,aa,ok,e,q⟩:=w;refine⟨dy B bg,vw δ,β,ok.fr,ok.view,?_⟩;unfold yJ at e;split at e
 .rename_i d β1 j
  cases a:tg d δ with
  |none=>rw[a]at e;cases e
  |some b=>
   rw[a]at e;cases e;refine⟨.ok d,_,j,λv H' t c=>?_⟩;obtain⟨i,m⟩:=ok.to rfl t;exact l X.H₀ B bg H' δ b _ σ d v _ i c a λr u=>q r B H' m u
 .rename_i C β1 j
  cases e;refine⟨.error C,_,j,λH' t=>?_⟩;obtain⟨i,m⟩:=ok.to rfl t;exact q _ B H' m i
 .cases e
def yI(i:Nat)(a:a1a)(f:FD):G:=λδ β=>match(vw δ).getD i Na with
 |none=>Na
 |some c=>match f (vw δ) β with
  |some (.ok d,β1)=>(a c d).map λz=>(.nx (δ.set i (My (.h z))),β1)
  |some (.error C,β1)=>My (.ex C δ,β1)
  |none=>Na
theorem pi{f:FD}(l:bz X.K s op)(h:PS X st (Ja i (tV X.K f E) s)):PS X st (tG X.K X.H₀ (yI i op f) E):=h.imp λD σ H I=>by
 obtain⟨B,bg,δ,β,o,aa,ok,e,q⟩:=I;unfold yI at e;split at e
 .cases e
 .rename_i c j
  have m:(vw δ)[i]?=My (My c):=by
   rw[NA]at j;cases z:(vw δ)[i]? with
   |none=>rw[z]at j;cases j
   |some w=>rw[z]at j;simp at j;rw[j]
  obtain⟨v,J,L⟩:=ok.view.tell i c m;refine⟨v,J,dy B bg,vw δ,β,ok.fr,ok.view,?_⟩;split at e
  .rename_i d β1 r
   cases a:op c d with
   |none=>rw[a]at e;cases e
   |some z=>
    rw[a]at e;cases e;refine⟨.ok d,_,r,λw H' t b=>?_⟩;obtain⟨g,y⟩:=ok.to rfl t;refine l (dy B bg) H' aa _ c d z v w t.fr (bc.tr (t.tr ok.fr) _ _ L) b a λu N t2 O=>?_;obtain⟨A,P⟩:=g.to rfl t2;exact q _ B N (y.trans P) (A.set O)
  .rename_i C β1 r
   cases e;refine⟨.error C,_,r,λH' t=>?_⟩;obtain⟨g,y⟩:=ok.to rfl t;exact q _ B H' y g
  .cases e
theorem f0.tr{B d:Ow}{H H':Hp}{bg:a0m}(s:f0 B H d H'):Tr (dy B bg) H (dy d bg) H':=
 ⟨λa h b z=>by
  have c:B a=Na:=by
   cases q:B a with
   |none=>rfl
   |some t=>exact NW (show B a≠Na by rw[q];simp) h
  cases q:H a with
  |none=>exact b q
  |some o=>exact z (s.nn a o q c),λa o h e=>s.kp a o e (.inl (by
  cases q:B a with
  |none=>rfl
  |some t=>exact NW (show B a≠Na by rw[q];simp) h)),rfl⟩
noncomputable def oa(tg:y_)(g:G):a0b->G
 |[],δ,β=>My (.nx δ,β)
 |d::ds,δ,β=>match tg d δ with
  |none=>Na
  |some a=>match g a β with
   |some (.nx δ2,β2)=>oa tg g ds δ2 β2
   |some (.ct δ2,β2)=>oa tg g ds δ2 β2
   |some (.bk δ2,β2)=>My (.nx δ2,β2)
   |r=>r
def m3(a:Ds->M a0b)(tg:y_)(g:G):G:=λδ β=>match a δ β with
 |some (.ok ds,β1)=>oa tg g ds δ β1
 |some (.error C,β1)=>My (.ex C δ,β1)
 |none=>Na
abbrev EX(a:FL):y_->G->G:=m3 λδ=>a (vw δ)
theorem zS{tg:y_}(hw:∀{B bg H δ β σ R},eg X.K X.H₀ B bg H δ β σ->run (λH' (b:a0b) (J:It)=>ux X.K J (dy B bg) H' b) (dy B bg) E σ (it δ) H R β->wi σ H R)(l:kU X.K tgg tg)(h:PS X (.For tgt s body [] ab) (xL wi tgg (tG X.K X.H₀ g E))):PS X (.For tgt s body [] ab) (tG X.K X.H₀ (m3 it tg g) E):=h.imp λD σ H h_=>by
 obtain⟨B,bg,δ,β,o,aa,ok,e,q⟩:=h_;refine hw ok ?_;unfold m3 at e;split at e
 .rename_i b β1 e1
  refine⟨.ok b,_,e1,λJ p t hJ=>?_⟩;obtain⟨F,G⟩:=ok.to rfl t;refine⟨λi m A T=>m+i=SW b/\∃y I a,f0 B p y T/\eg X.K X.H₀ y bg T I a A/\oa tg g (b.drop i) I a=My (o,aa),⟨SW b,by lia,B,δ,β1,f0.refl B p,F,e⟩,?_⟩;rintro i m A T ⟨hm,y,I,a,U,u,r⟩;obtain⟨iy,is⟩:=hJ (dy y bg) T a U.tr u.fr i;cases f:b[i]? with
  |none=>
   have k:SW b<=i:=TX.mp f;rw[Q2 k]at r;cases r;exact .inl ⟨is (by lia),q A y T (G.trans U) u⟩
  |some d=>
   have k:i<SW b:=(Nn.mp f).1;obtain⟨go,yl⟩:=iy d f;have ed:b.drop i=d::b.drop (i+1):=by
    rw[Os k];congr 1;exact N6 ((Ng k).symm.trans f)
   rw[ed]at r;unfold oa at r;split at r
   .cases r
   .rename_i v e3
    refine .inr ⟨go,λW M=>∃n L N,f0 B p n M/\eg X.K X.H₀ n bg M L N W/\oa tg g (b.drop (i+1)) L N=My (o,aa),λW M ⟨n,L,N,z1,z2,z3⟩=>⟨m-1,by lia,by lia,n,L,N,z1,z2,z3⟩,λx H3 hy=>?_⟩;obtain⟨sm,dx⟩:=yl x H3 hy;obtain⟨S,s3⟩:=u.to rfl (u.fr.same sm);refine l X.H₀ y bg H3 I v a A d x _ S dx e3 λac O=>?_;have P:=U.trans s3;split at r
    .rename_i j β5 Y
     exact⟨y,bg,v,a,.nx j,β5,O,Y,λQ Z V c w=>⟨Z,j,β5,P.trans c,w,r⟩⟩
    .rename_i j β5 Y
     exact⟨y,bg,v,a,.ct j,β5,O,Y,λQ Z V c w=>⟨Z,j,β5,P.trans c,w,r⟩⟩
    .rename_i j β5 Y
     cases r;exact⟨y,bg,v,a,.bk j,_,O,Y,λQ Z V c w=>q Q Z V (G.trans (P.trans c)) w⟩
    .rename_i x h1 h2 h3
     refine⟨y,bg,v,a,o,aa,O,r,?_⟩;have z:=g9.pre (G.trans P) q;cases o with
     |nx j=>exact NW r (h1 _ _)
     |ct j=>exact NW r (h2 _ _)
     |bk j=>exact NW r (h3 _ _)
     |rt d=>exact z
     |rg d=>exact z
     |ex C j=>exact z
 .rename_i C β1 e1
  cases e;refine⟨.error C,_,e1,λH' t=>?_⟩;obtain⟨u,U⟩:=ok.to rfl t;exact q _ B H' U u
 .cases e
theorem bP{tg:y_}(l:kU X.K tgg tg)(h:PS X (.For i d body [] ab) (xL (iV X.K j E) tgg (tG X.K X.H₀ g E))):PS X (.For i d body [] ab) (tG X.K X.H₀ (EX j tg g) E):=zS (λa r=>⟨_,_,_,a.fr,a.view,r⟩) l h
theorem eg.claim{f:Hp}{B:Ow}{bg:a0m}{H H':Hp}{δ:Ds}{β aa:Bg}{σ:St}(S:Nh->Prop)(a:eg K f B bg H δ β σ)(t:To (dy B bg) H H' aa)(r:∀c,S c->H c=Na/\w_ H' c)(x:∀{C:Ow},(∀c,S c->C c=My (i+2))->(∀c,C c≠Na->B c≠Na\/S c)->Tr (dy B bg) H (dy C bg) H'->mz K C bg H' i Q v):
  ∃J,eg K f J bg H' (δ.set i (My Q)) aa (σ.set i (My v))/\f0 B H J H':=by
 classical
 obtain⟨g,L⟩:=a.to rfl t;have hB:∀c,S c->B c=Na:=λc m=>Qx λz=>a.fr.occ c z (r c m).1;have u:∀c n,B c=My n->¬S c:=λc n e z=>by rw[hB c z]at e;cases e
 have A:f0 B H (λc=>if S c then My (i+2)else B c) H':=⟨L.kp,λc m=>Nv (m.elim (u c 0) (u c 1)),λc o h n=>(Nv λz=>by rw[(r c z).1]at h;cases h).trans n,L.al⟩;have p:Tr (dy B bg) H (dy (λc=>if S c then My (i+2)else B c) bg) H':=A.tr;have I:∀b l,bg=My (b,l)->(if S b then My (i+2)else B b)=My 1/\(if S l then My (i+2)else B l)=My 1:=λb l e=>by
  obtain⟨b1,b2⟩:=a.bgt b l e;exact⟨(Nv (u b 1 b1)).trans b1,(Nv (u l 1 b2)).trans b2⟩
 refine⟨λc=>if S c then My (i+2)else B c,⟨⟨λc m z=>?_,λb l e=>⟨λz=>(by cases z.symm.trans (I b l e).1),λz=>(by cases z.symm.trans (I b l e).2),(a.fr.bgA b l e).2.2⟩,g.fr.bag⟩,I,by rw[Om,Om,a.len],g.cov,λc k m=>?_,λc k m=>?_,λj s e=>?_⟩,A⟩
 .by_cases q:S c
  .rcases(r c q).2 with⟨_,w⟩|⟨_,w⟩<;>(rw[w]at z;cases z)
  .exact g.fr.occ c (λy=>m ((Nv q).trans y)) z
 .by_cases z:S c
  .cases w:f c with
   |none=>rfl
   |some o=>exact NW (r c z).1 (a.cov c (by rw[w];simp))
  .exact a.new c k ((Nv z).symm.trans m)
 .by_cases z:S c
  .exact(r c z).2
  .exact g.lst c k ((Nv z).symm.trans m)
 .rw[Pf]at e⊢
  by_cases q:i=j
  .subst q
   rw[Nu rfl]at e⊢;split at e
   .rename_i N
    cases e;rw[Nu (by rw[<-a.len];exact N)];exact⟨_,rfl,x (λc z=>Nu z) (λc z=>Qx λy=>z ((Nv λw=>y (.inr w)).trans (Qx λw=>y (.inl w)))) p⟩
   .cases e
  .rw[Nv q]at e⊢
   obtain⟨w,O,P⟩:=a.tell j s e;exact⟨w,O,P.tr p λc d=>⟨(Nv (u c _ d)).trans d,λo h=>t.kp c o h λb l z=>⟨λy=>(by subst y;rw[(a.bgt _ _ z).1]at d;cases d),λy=>(by subst y;rw[(a.bgt _ _ z).2]at d;cases d)⟩⟩⟩
theorem eg.newAt{f:Hp}{B:Ow}{bg:a0m}{H:Hp}{δ:Ds}{β:Bg}{σ:St}{p:Nh}(a:eg K f B bg H δ β σ)(g:H p=Na)(j:w_ (upd H p u) p)(b:∀{d:Ow},d p=My (i+2)->Tr (dy B bg) H (dy d bg) (upd H p u)->mz K d bg (upd H p u) i sl (.r p)):
  ∃h,eg K f h bg (upd H p u) (δ.set i (My sl)) β (σ.set i (My (.r p)))/\f0 B H h (upd H p u):=a.claim (·=p) (a.fr.upd u g) (λc z=>by cases z;exact⟨g,j⟩) λl _ e=>b (l p rfl) e
theorem eg.writeAt{f:Hp}{B:Ow}{bg:a0m}{H:Hp}{δ:Ds}{β:Bg}{σ:St}{a:Nh}(p:eg K f B bg H δ β σ)(D:σ[i]?=My (My (.r a)))(hB:B a=My (i+2))(r:w_ (upd H a u) a)(E:Tr (dy B bg) H (dy B bg) (upd H a u)->mz K B bg (upd H a u) i sl (.r a)):
  eg K f B bg (upd H a u) (δ.set i (My sl)) β σ/\f0 B H B (upd H a u):=by
 have g:f0 B H B (upd H a u):=by
  refine⟨λc o h n=>?_,λ_ _=>rfl,λ_ _ _ n=>n,λc m=>?_⟩
  .rw[a_]
   .exact h
   .intro z;subst z;rw[hB]at n;rcases n with n|n<;>cases n
  .by_cases z:c=a
   .subst z;rw[aw];simp
   .rw[a_ z];exact m
 have x:Tr (dy B bg) H (dy B bg) (upd H a u):=g.tr;refine⟨⟨⟨λc m z=>?_,p.fr.bgA,λb l e=>?_⟩,p.bgt,by rw[Om,p.len],λa F=>g.al a (p.cov a F),p.new,λc k m=>(by
  by_cases z:c=a
  .subst z;exact r
  .exact(p.lst c k m).imp λo y=>by rw[a_ z];exact y),λj s e=>?_⟩,g⟩
 .by_cases q:c=a
  .subst q;rw[aw]at z;cases z
  .rw[a_ q]at z;exact p.fr.occ c m z
 .obtain⟨b1,b2⟩:=p.bgt b l e
  rw[a_ (λz=>by subst z;rw[hB]at b1;cases b1),a_ (λz=>by subst z;rw[hB]at b2;cases b2)];exact p.fr.bag b l e
 .rw[Pf]at e
  by_cases q:i=j
  .subst q
   rw[Nu rfl]at e;split at e
   .cases e
    exact⟨_,D,E x⟩
   .cases e
  .rw[Nv q]at e
   obtain⟨v,t,w⟩:=p.tell j s e;exact⟨v,t,w.tr x λc d=>⟨d,λo z=>(a_ λy=>by subst y;rw[hB]at d;cases d;exact q rfl).trans z⟩⟩
theorem eg.newOwn{f:Hp}{B:Ow}{bg:a0m}{H:Hp}{δ:Ds}{β:Bg}{σ:St}{p:Nh}(a:eg K f B bg H δ β σ)(g:H p=Na)(b:aj K (dy B bg) H j h):
  ∃d,eg K f d bg (upd H p (.l h)) (δ.set i (My (.u j))) β (σ.set i (My (.r p)))/\f0 B H d (upd H p (.l h)):=a.newAt g (.inl ⟨h,aw⟩) λe t=>⟨p,h,rfl,e,aw,aj.tr t _ _ b⟩
theorem eg.writeOwn{f:Hp}{B:Ow}{bg:a0m}{H:Hp}{δ:Ds}{β:Bg}{σ:St}{a:Nh}(b:eg K f B bg H δ β σ)(c:σ[i]?=My (My (.r a)))(hB:B a=My (i+2))(k:H a=My (.l d))(e:aj K (dy B bg) H ds xs):
  eg K f B bg (upd H a (.l xs)) (δ.set i (My (.u ds))) β σ/\f0 B H B (upd H a (.l xs)):=b.writeAt c hB (.inl ⟨xs,aw⟩) λt=>⟨a,xs,rfl,hB,aw,aj.tr t _ _ e⟩
def vD(i:Nat)(f:FL):G:=λδ β=>match f (vw δ) β with
 |some (.ok ds,β1)=>if SW ds<=NN then My (.nx (δ.set i (My (.u ds))),β1)else Na
 |some (.error C,β1)=>My (.ex C δ,β1)
 |none=>Na
theorem o6{f:FL}(h:PS X st (gm (IY (hO X.K f E)) (dQ i))):PS X st (tG X.K X.H₀ (vD i f) E):=h.imp λD σ H m=>by
 obtain⟨B,bg,δ,β,o,aa,ok,e,q⟩:=m;refine⟨dy B bg,vw δ,β,ok.fr,ok.view,?_⟩;unfold vD at e;split at e
 .rename_i ds β1 g
  split at e
  .rename_i r
   cases e;refine⟨.ok ds,_,g,λb H' t a=>⟨by rw[<-a.length];exact r,λp u=>?_⟩⟩;obtain⟨d,j⟩:=ok.to rfl t;obtain⟨w,l,v⟩:=d.newOwn (i:=i) u a;exact q _ _ _ (j.trans v) l
  .cases e
 .rename_i C β1 g
  cases e;refine⟨.error C,_,g,λH' t=>?_⟩;obtain⟨d,j⟩:=ok.to rfl t;exact q _ B H' j d
 .cases e
def vE(i:Nat)(f:FL):G:=λδ β=>match δ.getD i Na with
 |some (.u cs)=>match f (vw δ) β with
  |some (.ok [d],β1)=>if SW cs<NN then My (.nx (δ.set i (My (.u (cs++[d])))),β1)else Na
  |some (.error C,β1)=>My (.ex C δ,β1)
  |_=>Na
 |_=>Na
theorem a2a{a:Type}{δ:List (Option a)}{i:Nat}{s:a}(h:δ.getD i Na=My s):δ[i]?=My (My s):=by
 rw[NA]at h;cases z:δ[i]? with
 |none=>rw[z]at h;cases h
 |some w=>rw[z]at h;simp at h;rw[h]
theorem pk{f:FL}(h:PS X st (oV (Ze X.K "list" qE (gH i) (hO X.K f E)))):PS X st (tG X.K X.H₀ (vE i f) E):=h.imp λD σ H L=>by
 obtain⟨B,bg,δ,β,o,aa,ok,e,q⟩:=L;unfold vE at e;split at e
 .rename_i cs J
  obtain⟨v,u,a,b,rfl,N,O,U⟩:=ok.tell i _ (a2a J);refine⟨_,u,.inl ⟨rfl,b,d_.of O⟩,dy B bg,vw δ,β,ok.fr,ok.view,?_⟩;split at e
  .rename_i d β1 w
   split at e
   .rename_i P
    cases e;refine⟨.ok [d],_,w,λk H' t c=>?_⟩;obtain⟨g,y⟩:=ok.to rfl t;obtain⟨v,rfl,Q⟩:=aj.h0 c;obtain⟨W,j,Y,l,A,R,m,r⟩:=g.tell i _ (a2a J);rw[u]at j;cases j;cases A;refine⟨a,l,v,rfl,rfl,m,by rw[<-r.length];exact P,?_⟩;obtain⟨I,T⟩:=g.writeOwn (ds:=cs++[d]) (xs:=l++[v]) u N m (aj.append r (aj.cons Q aj.f5));exact q _ _ _ (y.trans T) I
   .cases e
  .rename_i C β1 w
   cases e;refine⟨.error C,_,w,λH' t=>?_⟩;obtain⟨g,y⟩:=ok.to rfl t;exact q _ B H' y g
  .cases e
 .cases e
noncomputable def fz(i:Nat)(δ:Ds):Ds:=match δ.getD i Na with
 |some (.u ds)=>δ.set i (My (.h (.l ds)))
 |some (.grd ac)=>δ.set i (My (.h (.l (ac.map D.l))))
 |some (.odc b ks vs)=>δ.set i (My (.h (.dct b ks vs)))
 |_=>δ
theorem eg.letGo{f:Hp}{B:Ow}{bg:a0m}{H:Hp}{δ:Ds}{β:Bg}{σ:St}(S:Nh->Prop)(a:eg K f B bg H δ β σ)(y:∀c,S c->B c=My (i+2))(I:σ[i]?=My (My v))(D:∀{r:Ow},(∀c,S c->r c=Na)->(∀c,¬S c->r c=B c)->Tr (dy B bg) H (dy r bg) H->mz K r bg H i N v):∃A,eg K f A bg H (δ.set i (My N)) β σ/\f0 B H A H:=by
 classical
 have p:∀c n,(if S c then Na else B c)=My n->B c=My n:=λc n e=>by
  by_cases z:S c
  .rw[Nu z]at e;cases e
  .exact(Nv z).symm.trans e
 have C:∀c,B c=Na->(if S c then Na else B c)=Na:=λc e=>by rw[e];exact ite_self _
 have t:∀c,B c=My 0\/B c=My 1->¬S c:=λc h z=>by rw[y c z]at h;rcases h with h|h<;>cases h
 have m:f0 B H (λc=>if S c then Na else B c) H:=⟨λ_ _ h _=>h,λc g=>Nv (t c g),λc o h n=>C c n,λ_ h=>h⟩;have x:Tr (dy B bg) H (dy (λc=>if S c then Na else B c) bg) H:=m.tr;have u:∀b l,bg=My (b,l)->(if S b then Na else B b)=My 1/\(if S l then Na else B l)=My 1:=λb l e=>by
  obtain⟨b1,b2⟩:=a.bgt b l e;exact⟨(Nv (t b (.inr b1))).trans b1,(Nv (t l (.inr b2))).trans b2⟩
 refine⟨λc=>if S c then Na else B c,⟨⟨λc g=>a.fr.occ c λz=>g (C c z),λb l e=>⟨λz=>(by cases z.symm.trans (u b l e).1),λz=>(by cases z.symm.trans (u b l e).2),(a.fr.bgA b l e).2.2⟩,a.fr.bag⟩,u,by rw[Om,a.len],a.cov,λc k g=>a.new c k (p c _ g),λc k g=>a.lst c k (p c _ g),λj s e=>?_⟩,m⟩;rw[Pf]at e;by_cases q:i=j
 .subst q
  rw[Nu rfl]at e;split at e
  .cases e
   exact⟨v,I,D (λc z=>Nu z) (λc z=>Nv z) x⟩
  .cases e
 .rw[Nv q]at e
  obtain⟨w,J,L⟩:=a.tell j s e;exact⟨w,J,L.tr x λc d=>⟨(Nv λz=>by rw[y c z]at d;cases d;exact q rfl).trans d,λ_ z=>z⟩⟩
theorem eg.freeze{f:Hp}{B:Ow}{bg:a0m}{H:Hp}{δ:Ds}{β:Bg}{σ:St}(i:Nat)(b:eg K f B bg H δ β σ):∃u,eg K f u bg H (fz i δ) β σ/\f0 B H u H:=by
 unfold fz;split
 .rename_i ds g
  obtain⟨v,h,a,k,j,l,m,o⟩:=b.tell i _ (a2a g);exact b.letGo (·=a) (λc z=>z▸l) h λd _ e=>⟨a,k,j,⟨λz=>z (d a rfl),.inl m⟩,aj.tr e _ _ o⟩
 .rename_i ac g
  obtain⟨v,h,a,n,j,l,m,E,w⟩:=b.tell i _ (a2a g);exact b.letGo (λc=>c=a\/c∈n) (λc z=>z.elim (·▸l) λz=>(w.all c z).1) h λd _ e=>⟨a,_,j,⟨λz=>z (d a (.inl rfl)),.inl m⟩,bA.den e w λr y _ z=>z (d r (.inr y))⟩
 .rename_i b0 q t g
  obtain⟨v,h,a,j,l,p,k,m,o,A,C⟩:=b.tell i _ (a2a g);exact b.letGo (·=a) (λc z=>z▸l) h λd _ e=>by
   show bc _ _ _ (.dct b0 q t) _;unfold bc;exact⟨a,p,k,j,⟨λz=>z (d a rfl),m⟩,o,λx D=>(A x D).tr e,aj.tr e _ _ C⟩
 .exact⟨B,b,f0.refl B H⟩
noncomputable def fzG(i:Nat)(g:G):G:=λδ β=>g (fz i δ) β
theorem uJ(i:Nat)(h:PSs X f (tG X.K X.H₀ g E)):PSs X f (tG X.K X.H₀ (fzG i g) E):=h.imp λD σ H j=>by
 obtain⟨B,bg,δ,β,o,aa,ok,e,q⟩:=j;obtain⟨l,d,s⟩:=ok.freeze i;exact⟨l,bg,fz i δ,β,o,aa,d,e,g9.pre s q⟩
noncomputable def nS(n:Nat)(ds:a0b):Ds:=ds.map (λd=>My (Sl.h d))++NX (n-SW ds) Na
def dS(n:Nat)(g:G):a0b->M D:=λa β=>match g (nS n a) β with
 |some (.rt d,aa)=>My (.ok d,aa)
 |some (.nx _,aa)=>My (.ok .o,aa)
 |some (.ex C _,aa)=>My (.error C,aa)
 |_=>Na
theorem uo{F:Fx}{H:Hp}{β:Bg}{N:a0j}(fr:Fr F H β)(n:aj K F H I J):∃B,eg K H B F.bg H (nS (SW N) I) β (fY N J)/\(∀a,F.A a->B a=My 0\/B a=My 1)/\(∀a,B a=My 1->∃b l,F.bg=My (b,l)/\(a=b\/a=l))/\(∀a,B a≠Na->F.A a):=by
 classical
 refine⟨λa=>if F.A a then(if ∃b l,F.bg=My (b,l)/\(a=b\/a=l)then My 1 else My 0)else Na,⟨⟨λa f=>fr.occ a ?_,λb l e=>?_,fr.bag⟩,λb l e=>?_,?_,λ_ h=>h,λc k o=>(by
  have g:(if F.A c then(if ∃b l,F.bg=My (b,l)/\(c=b\/c=l)then My 1 else My 0)else Na)=My (k+2):=o;split at g
  .split at g<;>cases g
  .cases g),λc k o=>(by
  have g:(if F.A c then(if ∃b l,F.bg=My (b,l)/\(c=b\/c=l)then My 1 else My 0)else Na)=My (k+2):=o;split at g
  .split at g<;>cases g
  .cases g),λi s e=>?_⟩,λa f=>?_,λa f=>?_,λa f=>?_⟩
 .have j:(if F.A a then(if ∃b l,F.bg=My (b,l)/\(a=b\/a=l)then My 1 else My 0)else Na)≠(Na:a0K):=f
  split at j
  .assumption
  .exact NW rfl j
 .obtain⟨a1,a2,a3⟩:=fr.bgA b l e
  refine⟨?_,?_,a3⟩
  .show(if F.A b then(if ∃m l,F.bg=My (m,l)/\(b=m\/b=l)then My 1 else My 0)else Na)≠(Na:a0K)
   rw[Nu a1];split<;>simp
  .show(if F.A l then(if ∃m t,F.bg=My (m,t)/\(l=m\/l=t)then My 1 else My 0)else Na)≠(Na:a0K)
   rw[Nu a2];split<;>simp
 .obtain⟨a1,a2,a3⟩:=fr.bgA b l e
  exact⟨by rw[Nu a1,Nu ⟨b,l,e,.inl rfl⟩],by rw[Nu a2,Nu ⟨b,l,e,.inr rfl⟩]⟩
 .unfold nS fY
  rw[Nw,Nw,M9,M9,P9,P9,n.length]
 .unfold nS at e
  unfold fY;rw[Ro,M9]at e;rw[Ro,M9,<-n.length];by_cases q:i<SW I
  .rw[Nu q,Nl]at e
   rw[Nu q,Nl];cases z:I[i]? with
   |none=>rw[z]at e;cases e
   |some d=>
    rw[z]at e;cases e;obtain⟨v,w,y⟩:=n.get z;refine⟨v,by rw[w];rfl,?_⟩;have r:Tr F H (dy (λa=>if F.A a then(if ∃b l,F.bg=My (b,l)/\(a=b\/a=l)then My 1 else My 0)else Na) F.bg) H:=by
     refine⟨λa f _ C=>?_,λ_ _ _ h=>h,rfl⟩;have u:(if F.A a then(if ∃b l,F.bg=My (b,l)/\(a=b\/a=l)then My 1 else My 0)else Na)≠(Na:a0K):=C;rw[Nv f]at u;exact u rfl
    exact bc.tr r _ _ y
  .rw[Nv q,QV]at e
   split at e<;>cases e
 .simp only[Nu f]
  split
  .exact .inr rfl
  .exact .inl rfl
 .simp only at f
  split at f
  .split at f
   .assumption
   .cases f
  .cases f
 .simp only at f
  split at f
  .assumption
  .exact NW rfl f
variable{P:N9}{w:Ol}{p:a0i}{c:OO}
theorem Iu{x i:Oi}{st:O0}{f:Nh}{fd:N1}{N ps:a0j}{k:Nat}(F:io K x i st f fd)(S:ba N ps (ak st))
  (I:∀(j:Nj) (A:Ot) (D:a0C) (s:Nq) (H:Hp) (E:XK),dr k (A.deeper (Ss i (ak st) s.heap.objs.size f j))->
   PSs (fP (fx P w) P w K p c N i (ak st) f j A D s H E) (cB st) (tG K H g (λ_=>E))):ee P w K p c (fx P w) (k+1) f fd ps (A_ K (SW ps) (dS (SW N) g)):=by
 refine F.okE S (λX H Q E h=>h.1) λj A D s H X Q E W h=>?_;obtain⟨hl,u,M,β,fr,hd,r,aa,e,h⟩:=h;refine⟨_,I j A D s H E W,?_⟩;obtain⟨B,ok,T,Y,hn⟩:=uo (N:=N) fr hd;have J:∀{y:Ow} {H':Hp},f0 B H y H'->Fr (dy y u.bg) H' aa->To u H H' aa/\Tr (dy y u.bg) H' u H':=λ{y H'} s m=>by
  have V:∀a,u.A a->y a≠Na:=λa G=>by
   rw[s.tg a (T a G)];rcases T a G with z|z<;>rw[z]<;>simp
  refine⟨⟨λa o G n=>s.kp a o G ?_,λa G=>m.occ a (V a G),λb l e=>fr.bgA b l e,m.bag⟩,λa G _ z=>G (V a z),λ_ _ _ h=>h,rfl⟩;cases q:B a with
  |none=>exact .inl rfl
  |some t=>
   have:=T a (hn a (by rw[q];simp));rcases this with z|z
   .rw[q]at z;exact .inr z
   .obtain⟨b,l,e,w⟩:=Y a z
    obtain⟨Z,n2⟩:=n b l e;rcases w with w|w
    .exact NW w Z
    .exact NW w n2
 unfold dS at e;split at e
 .rename_i d β1 R
  cases e;refine⟨B,u.bg,nS (SW N) M,β,.rt d,aa,ok,R,λv y H' s m hv=>?_⟩;obtain⟨t1,t2⟩:=J s m;exact h v H' t1 (bc.tr t2 _ _ hv)
 .rename_i L β1 R
  cases e;refine⟨B,u.bg,nS (SW N) M,β,.nx L,aa,ok,R,λU y H' s O=>?_⟩;obtain⟨t1,t2⟩:=J s O.fr;exact h _ H' t1 rfl
 .rename_i C L β1 R
  cases e;refine⟨B,u.bg,nS (SW N) M,β,.ex C L,aa,ok,R,λU y H' s O=>?_⟩;obtain⟨t1,t2⟩:=J s O.fr;exact h H' t1
 .cases e
variable{b:N9}{A:Ot}
theorem M2(u:A.handled=Na)(c t:Nh)(B:t≠c)(d:a0D):Wf b w A c [c,t] d.size (λi v=>d[i]?=My v) (λi h=>h.IsTupleIter c t i/\h.IsTuple t d) where
 live:=λ_ _ st=>let ⟨o,e,_⟩:=st.1;⟨o,e⟩
 frame:=λ_ _ _ st k=>⟨st.1.at λo e=>k c (by simp) o e,by
  obtain⟨o,e,r⟩:=st.2;exact⟨o,k t (by simp) o e,r⟩⟩
 item:=λi s Q E C st I=>by
  obtain⟨o,j,n,g⟩:=id st.1;obtain⟨y,l,_,p,q⟩:=st.2;have f:d[i]?=My d[i]:=by simp[C]
  unfold PM;refine M8 (a1e (name:=Pq "__next__") st.1.typeIs RC (Of RC st.1.typeIs Wg ?_ (V0 _)));show ND _ _ (X1 (.ref c) 0>>=_) _ _ _;refine M8 (OY j g (x:= .ref t) rfl ?_);show ND _ _ (if(NH t==On)=Nf then _ else _) _ _ _;rw[Nv (show ¬((NH t==On)=Nf)from Nz)];show ND _ _ (X1 (.ref c) 1>>=_) _ _ _;refine M8 (OY j g (x:= .int i 0) rfl ?_);show ND _ _ (seqItems? (.ref t)>>=_) _ _ _;refine M8 (PQ l q ?_);simp only[ON,f];refine M8 (Q8 j g (by simp) (Nb ⟨d[i],rfl,Nb (I _ _ s.toks f ⟨?_,?_⟩ (O4 ..))⟩))
  .exact⟨_,QA _ j (SE (Pl g _)),(Uc ..).trans n,by rw[Pl g];simp[Rl]⟩
  .exact⟨y,(O4 ..).extBut _ _ B l,by assumption,p,q⟩
 done:=λs Q E st J=>by
  obtain⟨o,j,n,g⟩:=id st.1;obtain⟨y,l,_,p,q⟩:=st.2;have f:d[d.size]?=Na:=by simp
  unfold PM;refine M8 (a1e (name:=Pq "__next__") st.1.typeIs RC (Of RC st.1.typeIs Wg ?_ (V0 _)));show ND _ _ (X1 (.ref c) 0>>=_) _ _ _;refine M8 (OY j g (x:= .ref t) rfl ?_);show ND _ _ (if(NH t==On)=Nf then _ else _) _ _ _;rw[Nv (show ¬((NH t==On)=Nf)from Nz)];show ND _ _ (X1 (.ref c) 1>>=_) _ _ _;refine M8 (OY j g (x:= .int d.size 0) rfl ?_);show ND _ _ (seqItems? (.ref t)>>=_) _ _ _;refine M8 (PQ l q ?_);simp only[ON,f];refine M8 (PH (M8 (Q8 j g (by simp) ?_)));show ND _ _ (Wc (.type "StopIteration") []>>=_) _ _ _;refine M8 ?_;simp only[Wc,newTuple];refine M8 (Oh ?_ (by size_fits));refine M8 (m:=Q7 _ _) (Rh (a:=On) (by first|rfl|(simp only[Q7];rfl)) ?_);refine Oh ?_ (by size_fits)
  simp only[W1];refine M8 (Vl ?_)
  first|rw[show A.in1.handled=Na from u]|rw[u];skip
  refine M8 (Nb (Wn ?_));exact J _ _ (((O4 ..).extBut.push _).push _) ⟨_,NE _ rfl,rfl⟩
structure Ap (z TI TO i1 i2:Nh) (f1 f2:a0r):Prop where
 a1:TI≠z
 a2:TO≠z
 a3:i1≠z
 a4:i2≠z
 a5:TI≠TO
 a6:TI≠i1
 a7:TI≠i2
 a8:TO≠i1
 a9:TO≠i2
 b1:i1≠i2
 c1:z∉f1
 c2:TO∉f1
 c3:i2∉f1
 d1:z∉f2
 d2:TO∉f2
 d3:i1∉f2
 m1:i1∈f1
 m2:i2∈f2
end
section
variable{prog:N9}{w:Ol}{A:Ot}{E:a0e}{s:Nq}
theorem cu{s:Nh}{f:a0r}{h w:OO}(A:Oa s h w)(n:s∉f):∀b∈f,∀o,h.get? b=My o->w.get? b=My o:=λb a o e=>A.extBut b o (λq=>n (q▸a)) e
theorem y8{z TI TO r i2:Nh}{f1 f2:a0r}{t u k:Nat}{P1 P2:Nat->Nj->Prop}{U W:Nat->OO->Prop}{a b:Nj}{Q:a0e}(J:Wf prog w A r f1 t P1 U)(L:Wf prog w A i2 f2 u P2 W)(d:Ap z TI TO r i2 f1 f2)
  (O:Uk s.heap z TI TO .none) (eI:Q6 s.heap TI (.ref r) (.ref i2)) (eO:Q6 s.heap TO a b) (s1:U k s.heap) (s2:W k s.heap) (k1:k<t) (k2:k<u)
  (hQ:∀D tk x y,P1 k x->P2 k y->Uk D z TI TO (Rl s.heap.objs.size)->Q6 D TO x y->U (k+1) D->W (k+1) D->Q6 D s.heap.objs.size x y->D.objs.size=s.heap.objs.size+1->(∀c o,c≠z->c≠TO->c≠r->c≠i2->s.heap.get? c=My o->D.get? c=My o)->Q (.ref s.heap.objs.size) {s with heap:=D,toks:=tk}):
  ND (N0 prog w) A (Builtin.«zip.__next__» ⟨[.ref z],[]⟩) (λY s'=>∃v,Y= .done (.ret v)/\Q v s') E s:=by
 obtain⟨Z,gg,dd,af,os⟩:=s;show ND _ _ (X1 (.ref z) 2>>=_) _ _ _;refine M8 (OY O rfl (x:= .bool Ni) rfl ?_);show ND _ _ (X1 (.ref z) 3>>=_) _ _ _;refine M8 (OY O rfl (x:= .ref TI) rfl ?_);refine M8 (PQ eI rfl ?_);show ND _ _ (Qc (.ref z)>>=_) _ _ _;refine M8 ?_;unfold Qc;refine M8 (OY O rfl (x:= .none) rfl (Nb ?_));simp only[OC];refine M8 (PH ?_);refine M8 (OY O rfl (x:= .ref TO) rfl ?_);refine M8 (Pb O (by simp) λG B g=>?_)
 replace B:Uk G z TI TO .ellipsis:=B
 replace g:Oa z Z G:=g
 refine M8 ?_;simp only[Vg,List.zipIdx_nil,Rc,Rn];refine M8 (M8 (Vm ?_));show ND _ _ (PM (.ref r)>>=_) _ _ _;refine M8 (J.item k _ _ _ k1 (J.frame _ _ _ s1 (cu g d.c1)) λx K ag px M h=>Nb ?_)
 replace h:Oa r G K:=h
 have P:Q6 K TO a b:=h.extBut _ _ d.a8 (g.extBut _ _ d.a2 eO);refine M8 (PQ P rfl ?_);refine M8 (U2 P λS C i=>?_)
 replace C:Q6 S TO x b:=C
 replace i:Oa TO K S:=i
 refine M8 (Wm (Nb ?_));refine M8 (M8 (Vm ?_));show ND _ _ (PM (.ref i2)>>=_) _ _ _;refine M8 (L.item k _ _ _ k2 (L.frame _ _ _ (L.frame _ _ _ (L.frame _ _ _ s2 (cu g d.d1)) (cu h d.d3)) (cu i d.d2)) λy V ah py aa j=>Nb ?_)
 replace j:Oa i2 S V:=j
 have R:Q6 V TO x b:=j.extBut _ _ d.a9 C;refine M8 (PQ R rfl ?_);refine M8 (U2 R λf m l=>?_)
 replace m:Q6 f TO x y:=m
 replace l:Oa TO V f:=l
 refine M8 (Wm (Nb (Nb ?_)));refine M8 (PQ m rfl ?_);refine M8 (W4 ?_);have zs:f.objs.size=Z.objs.size:=by rw[l.1,j.1,i.1,h.1,g.1]
 have T:Uk f z TI TO .ellipsis:=l.extBut _ _ d.a2.symm (j.extBut _ _ d.a4.symm (i.extBut _ _ d.a2.symm (h.extBut _ _ d.a3.symm B)));have ab:∀c o,c≠z->c≠TO->c≠r->c≠i2->Z.get? c=My o->f.get? c=My o:=λc o t u n3 n4 e=>l.extBut _ _ u (j.extBut _ _ n4 (i.extBut _ _ u (h.extBut _ _ n3 (g.extBut _ _ t e))));have ac:U (k+1) f:=J.frame _ _ _ (J.frame _ _ _ (J.frame _ _ _ M (cu i d.c2)) (cu j d.c3)) (cu l d.c2);have ad:W (k+1) f:=L.frame _ _ _ aa (cu l d.d2);have zl:z<f.objs.size:=NU T;show ND _ _ (Tz (.ref z) (.ref f.objs.size)>>=_) _ _ _;refine M8 ?_;unfold Tz;have ae:Uk (f.push {cls:= .type "tuple",data:= .seq #[x,y]}) z TI TO .ellipsis:=Nd _ T;refine M8 (Pb ae (by simp) λg7 F H=>?_)
 replace F:Uk g7 z TI TO (Rl f.objs.size):=F
 refine Pb F (by simp) λN p I=>?_
 replace p:Uk N z TI TO (Rl f.objs.size):=p
 have X:∀c o,c≠z->f.get? c=My o->N.get? c=My o:=λc o n e=>I.extBut _ _ n (H.extBut _ _ n (Nd _ e));have eT:Q6 N f.objs.size x y:=I.extBut _ _ (Qj zl) (H.extBut _ _ (Qj zl) (NE _ rfl));have z8:N.objs.size=f.objs.size+1:=by rw[I.1,H.1,Pj]
 rw[zs]at p eT z8;refine Nb ⟨_,rfl,?_⟩;show Q (.ref f.objs.size) ⟨N,gg,dd,_,os⟩;rw[zs];exact hQ N _ x y px py p (X _ _ d.a2 m) (J.frame _ _ _ ac λb hb o e=>X b o (λq=>d.c1 (q▸hb)) e) (L.frame _ _ _ ad λb hb o e=>X b o (λq=>d.d1 (q▸hb)) e) eT z8 λc o t u n3 n4 e=>X c o t (ab c o t u n3 n4 e)
theorem DG{z TI TO n i2:Nh}{f1 f2:a0r}(F:Wf prog w A n f1 m P1 S1)(H:Wf prog w A i2 f2 R P2 S2)(i:Ap z TI TO n i2 f1 f2)
  (t:Uk s.heap z TI TO .none) (X:Q6 s.heap TI (.ref n) (.ref i2)) (Y:Q6 s.heap TO a b) (T:S1 k s.heap) (Z:S2 k s.heap) (L:k=m\/(k<m/\k=R))
  (U:∀D e G,(∀c o,c≠z->c≠TO->c≠n->c≠i2->s.heap.get? c=My o->D.get? c=My o)->(∃o,D.get? e=My o/\o.cls= .type "StopIteration")->E (.ref e) {s with heap:=D,toks:=G}):
  ND (N0 prog w) A (Builtin.«zip.__next__» ⟨[.ref z],[]⟩) Q E s:=by
 obtain⟨K,gg,dd,M,os⟩:=s;show ND _ _ (X1 (.ref z) 2>>=_) _ _ _;refine M8 (OY t rfl (x:= .bool Ni) rfl ?_);show ND _ _ (X1 (.ref z) 3>>=_) _ _ _;refine M8 (OY t rfl (x:= .ref TI) rfl ?_);refine M8 (PQ X rfl ?_);show ND _ _ (Qc (.ref z)>>=_) _ _ _;refine M8 ?_;unfold Qc;refine M8 (OY t rfl (x:= .none) rfl (Nb ?_));simp only[OC];refine M8 (PH ?_);refine M8 (OY t rfl (x:= .ref TO) rfl ?_);refine M8 (Pb t (by simp) λI j f=>?_)
 replace j:Uk I z TI TO .ellipsis:=j
 replace f:Oa z K I:=f
 refine M8 ?_;simp only[Vg,List.zipIdx_nil,Rc,Rn];refine M8 (M8 (Vm ?_));show ND _ _ (PM (.ref n)>>=_) _ _ _;rcases L with rfl|⟨L,rfl⟩
 .refine M8 (F.done _ _ _ (F.frame _ _ _ T (cu f i.c1)) λr e d N=>?_)
  replace d:UC n I r:=d
  obtain⟨O,h,u⟩:=N;have v:Uk r z TI TO .ellipsis:=d _ _ i.a3.symm j;have p:e≠z:=λq=>by subst q;rw[v]at h;cases h;simp at u
  exact Pb v (by simp) λJ _ g=>U J e _ (λc o m _ P _ q=>g.extBut _ _ m (d _ _ P (f.extBut _ _ m q))) ⟨O,g.extBut _ _ p h,u⟩
 .refine M8 (F.item k _ _ _ L (F.frame _ _ _ T (cu f i.c1)) λx r S px V d=>Nb ?_)
  replace d:Oa n I r:=d
  have y:Q6 r TO a b:=d.extBut _ _ i.a8 (f.extBut _ _ i.a2 Y);refine M8 (PQ y rfl ?_);refine M8 (U2 y λJ aa g=>?_)
  replace g:Oa TO r J:=g
  refine M8 (Wm (Nb ?_));refine M8 (M8 (Vm ?_));show ND _ _ (PM (.ref i2)>>=_) _ _ _;refine M8 (H.done _ _ _ (H.frame _ _ _ (H.frame _ _ _ (H.frame _ _ _ Z (cu f i.d1)) (cu d i.d3)) (cu g i.d2)) λW e l N=>?_)
  replace l:UC i2 J W:=l
  obtain⟨O,h,u⟩:=N;have B:Uk W z TI TO .ellipsis:=l _ _ i.a4.symm (g.extBut _ _ i.a2.symm (d.extBut _ _ i.a3.symm j));have p:e≠z:=λq=>by subst q;rw[B]at h;cases h;simp at u
  exact Pb B (by simp) λg5 _ C=>U g5 e _ (λc o m R P n4 q=>C.extBut _ _ m (l _ _ n4 (g.extBut _ _ R (d.extBut _ _ P (f.extBut _ _ m q))))) ⟨O,C.extBut _ _ p h,u⟩
theorem y7{z TI TO e i2:Nh}{f1 f2:a0r}(h:∀d:Ot,d.handled=A.handled->Wf prog w d e f1 I P1 S1)(i:∀d:Ot,d.handled=A.handled->Wf prog w d i2 f2 n2 P2 S2)(j:Ap z TI TO e i2 f1 f2)
  (g:Uk s.heap z TI TO .none) (l:Q6 s.heap TI (.ref e) (.ref i2)) (m:Q6 s.heap TO a b) (n:S1 k s.heap) (p:S2 k s.heap) (q:k<I) (r:k<n2)
  (t:∀D f x y,P1 k x->P2 k y->Uk D z TI TO (Rl s.heap.objs.size)->Q6 D TO x y->S1 (k+1) D->S2 (k+1) D->Q6 D s.heap.objs.size x y->D.objs.size=s.heap.objs.size+1->(∀c o,c≠z->c≠TO->c≠e->c≠i2->s.heap.get? c=My o->D.get? c=My o)->Q (My (.ref s.heap.objs.size)) {s with heap:=D,toks:=f}):
  ND (N0 prog w) A (Ru (.ref z)) Q E s:=by
 have G:s.TypeIs (.ref z) "zip":=⟨_,g,rfl⟩;unfold Ru;exact M8 (QZ (a1e (name:=Pq "__next__") G UB (Of UB G F.entry_zip_next (y8 (h _ rfl) (i _ rfl) j g l m n p q r λD f x y K M S V u v B C H=>Nb (t D f x y K M S V u v B C H)) (F.args_zip_next_1 _))))
theorem DF{z TI TO f i2:Nh}{f1 f2:a0r}(i:∀d:Ot,d.handled=A.handled->Wf prog w d f f1 x P1 S1)(j:∀d:Ot,d.handled=A.handled->Wf prog w d i2 f2 n2 P2 S2)(l:Ap z TI TO f i2 f1 f2)
  (g:Uk s.heap z TI TO .none) (m:Q6 s.heap TI (.ref f) (.ref i2)) (n:Q6 s.heap TO a b) (p:S1 k s.heap) (q:S2 k s.heap) (r:k=x\/(k<x/\k=n2))
  (t:∀D h,(∀c o,c≠z->c≠TO->c≠f->c≠i2->s.heap.get? c=My o->D.get? c=My o)->Q Na {s with heap:=D,toks:=h}):ND (N0 prog w) A (Ru (.ref z)) Q E s:=by
 have G:s.TypeIs (.ref z) "zip":=⟨_,g,rfl⟩;unfold Ru;refine M8 (QZ (a1e (name:=Pq "__next__") G UB (Of UB G F.entry_zip_next (DG (i _ rfl) (j _ rfl) l g m n p q r λD e h u v=>?_) (F.args_zip_next_1 _))));obtain⟨o,y,B⟩:=v;refine M8 (PY (T:="StopIteration") (b:=Nf) ⟨o,y,B⟩ UZ ?_);exact Nb (t _ _ u)
def uY(b:Bool)(h:OO)(a:Nh)(s:a0D):Prop:=if b=Nf then h.IsList a s else h.IsTuple a s
noncomputable def GU(b:Bool):String:=if b=Nf then "list_iterator"else "tuple_iterator"
noncomputable abbrev pT(b:Bool)(a:Nh):N3:={cls:= .type (GU b),data:= .fields #[.ref a,.int 0 0]}
def gC(b:Bool)(h:OO)(s a:Nh)(k:Nat):Prop:=if b=Nf then h.IsListIter s a k else h.IsTupleIter s a k
theorem uY.keep{b:Bool}{h s:OO}(x:uY b h a c)(k:∀o,h.get? a=My o->s.get? a=My o):uY b s a c:=by
 unfold uY at x⊢;split at x
 .rename_i q;rw[Nu q];exact x.at λo e=>k o e
 .rename_i q;rw[Nv q]
  obtain⟨o,e,r⟩:=x;exact⟨o,k o e,r⟩
theorem pB{b:Bool}(x:uY b s.heap a c)(h:Q (.ref s.heap.objs.size) {s with heap:=s.heap.push (pT b a)}):ND (N0 prog w) A (UJ (.ref a)) Q E s:=by
 cases b with
 |true=>exact Ur (show s.heap.IsList a c from x) h
 |false=>exact Vs (show s.heap.IsTuple a c from x) h
theorem tM(b:Bool)(c:A.handled=Na)(D a:Nh)(E:a≠D)(s:a0D):Wf prog w A D [D,a] s.size (λi v=>s[i]?=My v) (λi h=>gC b h D a i/\uY b h a s):=by
 cases b with
 |true=>exact Xk c D a E s
 |false=>exact M2 c D a E s
abbrev Za(b1:Bool)(h:OO)(a:Nh):OO:=h.push (pT b1 a)
abbrev Y_(b1 b2:Bool)(h:OO)(a b:Nh):OO:=(Za b1 h a).push (pT b2 b)
abbrev Y9(b1 b2:Bool)(h:OO)(a b:Nh):OO:=(Y_ b1 b2 h a b).push {cls:= .type "tuple",data:= .seq #[.ref h.objs.size,.ref (Za b1 h a).objs.size]}
abbrev Y8(b1 b2:Bool)(h:OO)(a b:Nh):OO:=(Y9 b1 b2 h a b).push {cls:= .type "tuple",data:= .seq #[.none,.none]}
abbrev T1(b1 b2:Bool)(h:OO)(a b:Nh):OO:=(Y8 b1 b2 h a b).push {cls:= .type "zip",data:= .fields #[.none,.bool Ni,.bool Ni,.ref (Y_ b1 b2 h a b).objs.size,.ref (Y9 b1 b2 h a b).objs.size]}
theorem yj(b1 b2:Bool)(a b:Nh)(D E:a0D):
  Meets (Builtin.«zip.__new__» ⟨[.type "zip",.ref a,.ref b],[]⟩) (λ_ R s=>uY b1 s.heap a D/\uY b2 s.heap b E/\R (.ok (.ret (.ref (Y8 b1 b2 s.heap a b).objs.size))) {s with heap:=T1 b1 b2 s.heap a b}):=
 .of_wp λprog w A R s h=>by
  obtain⟨c,g,d,f,G⟩:=s;obtain⟨j,k,q⟩:=h;have i:=sub_zip;have l:uY b1 (Shared.heap ⟨c,g,d,f,G⟩) a D:=j;have m:uY b2 (Shared.heap ⟨c.push (pT b1 a),g,d,f,G⟩) b E:=k.keep λo e=>Nd _ e
  wp_walk using pB l,pB m
  exact⟨_,rfl,q⟩
theorem CS{b1 b2:Bool}(q:uY b1 s.heap v z)(r:uY b2 s.heap y B)
  (h:∀D,Uk D (s.heap.objs.size+4) (s.heap.objs.size+2) (s.heap.objs.size+3) .none->Q6 D (s.heap.objs.size+2) (.ref s.heap.objs.size) (.ref (s.heap.objs.size+1))->Q6 D (s.heap.objs.size+3) .none .none->gC b1 D s.heap.objs.size v 0->gC b2 D (s.heap.objs.size+1) y 0->D.objs.size=s.heap.objs.size+5->(∀c o,s.heap.get? c=My o->D.get? c=My o)->Q (.ref (s.heap.objs.size+4)) {s with heap:=D}):
  ND (N0 prog w) A (Vb (.type "zip") [.ref v,.ref y]) Q E s:=by
 refine callType_new F.called_zip (by decide) (F.typeCall_zip_2 _ _) (F.newCall_zip_2 _ _) (λG=>F.args_object_init_3 G _ _) F.entry_zip_new (yj b1 b2 v y z B) ⟨q,r,?_⟩;have f:(Za b1 s.heap v).objs.size=s.heap.objs.size+1:=Pj ..;have g:(Y_ b1 b2 s.heap v y).objs.size=s.heap.objs.size+2:=by rw[Pj,f]
 have i:(Y9 b1 b2 s.heap v y).objs.size=s.heap.objs.size+3:=by rw[Pj,g]
 have j:(Y8 b1 b2 s.heap v y).objs.size=s.heap.objs.size+4:=by rw[Pj,i]
 have t:(T1 b1 b2 s.heap v y).objs.size=s.heap.objs.size+5:=by rw[Pj,j]
 have k:(T1 b1 b2 s.heap v y).get? (Y8 b1 b2 s.heap v y).objs.size=My _:=NE _ rfl;have l:(T1 b1 b2 s.heap v y).get? (Y9 b1 b2 s.heap v y).objs.size=My _:=Nd _ (NE _ rfl);have m:(T1 b1 b2 s.heap v y).get? (Y_ b1 b2 s.heap v y).objs.size=My _:=Nd _ (Nd _ (NE _ rfl));have n:(T1 b1 b2 s.heap v y).get? (Za b1 s.heap v).objs.size=My _:=Nd _ (Nd _ (Nd _ (NE _ rfl)));have u:(T1 b1 b2 s.heap v y).get? s.heap.objs.size=My _:=Nd _ (Nd _ (Nd _ (Nd _ (NE _ rfl))));show _/\_;rw[g,i,j]at k;rw[f,g]at m;rw[i]at l;rw[f]at n;rw[j];have d:∀(b:Bool) (D:OO) (p a:Nh),D.get? p=My (pT b a)->gC b D p a 0:=λb D p a e=>by
  cases b with
  |true=>exact⟨_,e,rfl,rfl⟩
  |false=>exact⟨_,e,rfl,rfl⟩
 exact⟨⟨_,k,rfl⟩,h _ k m l (d _ _ _ _ u) (d _ _ _ _ n) t λc o x=>Nd _ (Nd _ (Nd _ (Nd _ (Nd _ x))))⟩
def ss(b:Bool)(K:NR)(H:Hp)(a:Nh)(s:a0k):Prop:=if b=Nf then d_ K H a s else f_ K H a s
noncomputable def ZB(b1 b2:Bool)(K:NR)(a b:Nh):It:=
 ⟨λi H=>∃s w x y,ss b1 K H a s/\ss b2 K H b w/\s[i]?=My x/\w[i]?=My y,
  λi H v c=>∃p x y,H p=Na/\v= .r p/\c=upd H p (.t [x,y])/\∀s w,ss b1 K H a s->ss b2 K H b w->s[i]?=My x/\w[i]?=My y,
  λi H=>∃s w,ss b1 K H a s/\ss b2 K H b w/\(SW s=i\/(i<SW s/\SW w=i))⟩
variable{X:Cx}{A:a0c}{σ:St}{H:Hp}
theorem bt.src{b:Bool}(I:bt X A σ H s)(h:ss b X.K H a c):∃w:a0g,az c w/\uY b s.heap a w.toArray:=by
 cases b with
 |true=>
  obtain⟨w,r,p,_⟩:=I.list (show d_ X.K H a c from h);exact⟨w,r,p.isList⟩
 |false=>
  obtain⟨w,r,p,_⟩:=I.tuple (show f_ X.K H a c from h);exact⟨w,r,p⟩
theorem bt.o8{b:Bool}(I:bt X A σ H s)(h:ss b X.K H a c)(w:ss b X.K H a d):c=d:=by
 cases b with
 |true=>exact I.list_inj (show d_ X.K H a c from h) w
 |false=>exact I.tuple_inj (show f_ X.K H a c from h) w
theorem gC.get{b:Bool}{h:OO}(x:gC b h f a k):∃o,h.get? f=My o/\o.cls= .type (GU b)/\∃s,o.data= .fields s:=by
 cases b with
 |true=>obtain⟨o,e,c,d⟩:=(show h.IsListIter f a k from x);exact⟨o,e,c,_,d⟩
 |false=>obtain⟨o,e,c,d⟩:=(show h.IsTupleIter f a k from x);exact⟨o,e,c,_,d⟩
theorem gC.keep{b:Bool}{h s:OO}(x:gC b h c a k)(q:∀o,h.get? c=My o->s.get? c=My o):gC b s c a k:=by
 cases b with
 |true=>exact(show h.IsListIter c a k from x).at λo e=>q o e
 |false=>exact(show h.IsTupleIter c a k from x).at λo e=>q o e
theorem bt.o7{E:OO}{t':Nat}{ch:a0r}{p:Nh}{o:HO}(I:bt X A σ H s)(a:∀b∈ch,fR X A H b)(k:∀b u,b∉ch->s.heap.get? b=My u->E.get? b=My u)(d:s.heap.objs.size<=p)(G:bR X.p X.w (upd H p o) E p o):bt X A σ (upd H p o) {s with heap:=E,toks:=t'}:=by
 have D:H p=Na:=I.hok.fresh d;have K:∀b u,H b=My u->b∉ch:=λb u e z=>by rw[(a b z).1]at e;cases e
 refine I.call' (s':={s with heap:=E,toks:=t'}) (ch:=ch) rfl ⟨λb u e _ _ hc=>k b u hc e,λb u e _ _ hc=>⟨u.slots,k b u hc e⟩,λb u e z hc=>?_,λb u e hc=>⟨u,k b u hc e⟩,λb M e=>?_,λb u M e=>?_,λb M e=>⟨#[],?_⟩⟩ (λb u e=>?_) I.bare λb f=>?_
 .rw[a_ (Ov (NP (NU e) d))];exact z
 .rw[a_ (aI e D)];exact e
 .rw[a_ (aI e D)];exact e
 .rw[a_ (aI e D),e];simp
 .by_cases z:b=p
  .subst z;rw[aw]at e;cases e;exact G
  .rw[a_ z]at e
   refine(I.hok b u e).stay (λc v hc q=>k c v ?_ q) (λc q=>by rw[a_ (aI q D)];exact q) λc S q=>by rw[a_ (aI q D)];exact q
   rcases hc with rfl|hc
   .exact K _ _ e
   .exact K _ _ hc
 .obtain⟨j,f1,f2,g,h,i⟩:=a b f
  exact⟨g,f1,h,i⟩
theorem bt.turnL{w:OO}{ch:a0r}(I:bt X A σ H s)(a:∀b∈ch,fR X A H b)(k:∀b u,b∉ch->s.heap.get? b=My u->w.get? b=My u):bt X A σ H {s with heap:=w,toks:=t'}:=by
 have D:∀b u,H b=My u->b∉ch:=λb u e z=>by rw[(a b z).1]at e;cases e
 refine I.call' (s':={s with heap:=w,toks:=t'}) (ch:=ch) rfl ⟨λb u e _ _ hc=>k b u hc e,λb u e _ _ hc=>⟨u.slots,k b u hc e⟩,λb u e z hc=>z,λb u e hc=>⟨u,k b u hc e⟩,λb E e=>e,λb u E e=>e,λb E e=>⟨#[],by rw[e];simp⟩⟩ (λb u e=>?_) I.bare λb d=>?_
 .refine(I.hok b u e).stay (λc v hc q=>k c v ?_ q) (λc q=>q) λc G q=>q
  rcases hc with rfl|hc
  .exact D _ _ e
  .exact D _ _ hc
 .obtain⟨i,f1,f2,f,g,h⟩:=a b d
  exact⟨f,f1,g,h⟩
theorem bt.f5{b:Bool}(I:bt X A σ H s)(h:ss b X.K H a l)(f:fR X A H c):a≠c:=by
 obtain⟨i,f1,f2,f3,j,k⟩:=f;have d:∀o,X.K.lookup a=My o->a≠c:=λo e z=>by
  have g:=I.ok.mod.kin a o e;subst z;rcases f3 with f3|f3
  .exact I.ok.noex a o g f3
  .exact NW (NP (NU (I.ok.bs a o g).1) f3) (OB _)
 have w:∀u,Rd H a u->a≠c:=λu r z=>by
  subst z;rcases r with r|⟨_,r⟩<;>rw[i]at r<;>cases r
 cases b with
 |true=>
  rcases(show d_ X.K H a l from h)with h|⟨o,_,_,e,_⟩
  .exact w _ h
  .exact d o e
 |false=>
  rcases(show f_ X.K H a l from h)with h|⟨o,_,_,e,_⟩
  .exact w _ h
  .exact d o e
theorem DN{w:Ol}{K:NR}{x1}(b1 b2:Bool)(B C z TI TO f i2:Nh)(nd:[z,TI,TO,f,i2].Nodup):
  ni P w K (.Tuple elts x1 pos) (ZB b1 b2 K B C) [z,TI,TO,f,i2] z (λi h=>Uk h z TI TO .none/\Q6 h TI (.ref f) (.ref i2)/\(∃a b,Q6 h TO a b)/\gC b1 h f B i/\gC b2 h i2 C i) where
 mem:=by simp
 obj:=λi h G b g=>by
  obtain⟨n,p,⟨a,Z,F⟩,J,L⟩:=G;simp only[NC,O1,RW]at g;rcases g with rfl|rfl|rfl|rfl|rfl
  .exact⟨_,n,λv q=>by cases q⟩
  .exact⟨_,p,λv q=>by cases q⟩
  .exact⟨_,F,λv q=>by cases q⟩
  .obtain⟨o,e,_,fs,d⟩:=J.get
   exact⟨o,e,λv q=>by rw[d]at q;cases q⟩
  .obtain⟨o,e,_,fs,d⟩:=L.get
   exact⟨o,e,λv q=>by rw[d]at q;cases q⟩
 keep:=λi h D G k=>by
  obtain⟨n,p,⟨a,Z,F⟩,J,L⟩:=G;exact⟨k z (by simp) _ n,k TI (by simp) _ p,⟨a,Z,k TO (by simp) _ F⟩,J.keep λo e=>k f (by simp) o e,L.keep λo e=>k i2 (by simp) o e⟩
 item:=by
  intro X hP hw hK m i A s σ H E I N G hg;subst hP hw hK;obtain⟨xs,ys,x,y,S,V,hx,hy⟩:=hg;obtain⟨n,p,⟨a,Z,F⟩,J,L⟩:=G;obtain⟨j,r1,p1⟩:=bt.src I S;obtain⟨l,r2,p2⟩:=bt.src I V;have hd:=I.ok.hd m;simp only[OE,NC,O1,RW,Yl]at nd;obtain⟨⟨U,z2,R,T⟩,⟨t1,t2,t3⟩,⟨W,o2⟩,O,_⟩:=nd;have r:∀c∈[z,TI,TO,f,i2],B≠c:=λc m=>bt.f5 I S (N c m);have t:∀c∈[z,TI,TO,f,i2],C≠c:=λc m=>bt.f5 I V (N c m);have ap:Ap z TI TO f i2 [f,B] [i2,C]:=⟨Ne.symm U,Ne.symm z2,Ne.symm R,Ne.symm T,t1,t2,t3,W,o2,O,by simp[R,(r z (by simp)).symm],by simp[W,(r TO (by simp)).symm],by simp[Ne.symm O,(r i2 (by simp)).symm],by simp[T,(t z (by simp)).symm],by simp[o2,(t TO (by simp)).symm],by simp[O,(t f (by simp)).symm],by simp,by simp⟩;have k1:i<j.toArray.size:=by
   rw[NM,<-r1.length];exact(Nn.mp hx).1
  have k2:i<l.toArray.size:=by
   rw[NM,<-r2.length];exact(Nn.mp hy).1
  refine y7 (λA' D=>tM b1 (D.trans hd) f B (r f (by simp)) j.toArray) (λA' D=>tM b2 (D.trans hd) i2 C (t i2 (by simp)) l.toArray) ap n p F ⟨J,p1⟩ ⟨L,p2⟩ k1 k2 λD tk u v pu pv fz fO f1 f2 fT sz kp=>?_;refine⟨_,rfl,wpAny_letOwnedTupleGo_zip (s:={s with heap:=D,toks:=tk}) fz λQ Y M=>?_⟩
  replace M:Oa z D Q:=M
  have zT:s.heap.objs.size≠z:=Qj (NU n);obtain⟨u',hu,ru⟩:=r1.get hx;obtain⟨v',hv,rv⟩:=r2.get hy;have eu:u=u':=by
   have:j[i]?=My u:=by simpa using pu
   rw[this]at hu;exact N6 hu
  have ev:v=v':=by
   have:l[i]?=My v:=by simpa using pv
   rw[this]at hv;exact N6 hv
  subst eu ev;have kk:∀b o,b∉[z,TI,TO,f,i2]->s.heap.get? b=My o->Q.get? b=My o:=λb o g e=>by
   simp only[NC,O1,RW,Yl]at g;exact M.extBut b o g.1 (kp b o g.1 g.2.2.1 g.2.2.2.1 g.2.2.2.2 e)
  have I2:bt X A σ (upd H s.heap.objs.size (.t [x,y])) {s with heap:=Q,toks:=tk}:=by
   refine bt.o7 I N kk (No _) ⟨by show 2<=NN;decide,[u,v],.cons ru (.cons rv .nil),_,M.extBut _ _ zT fT,rfl,_,rfl⟩
  refine⟨.r s.heap.objs.size,_,I2,rfl,⟨s.heap.objs.size,x,y,I.hok.fresh (No _),rfl,rfl,λas bs h1 h2=>⟨by rw[bt.o8 I h1 S];exact hx,by rw[bt.o8 I h2 V];exact hy⟩⟩,⟨Y,?_,⟨u,v,?_⟩,?_,?_⟩,λb g=>?_⟩
  .exact M.extBut _ _ (Ne.symm U) (kp TI _ (Ne.symm U) t1 t2 t3 p)
  .exact M.extBut _ _ (Ne.symm z2) fO
  .exact f1.1.keep λo e=>M.extBut _ _ (Ne.symm R) e
  .exact f2.1.keep λo e=>M.extBut _ _ (Ne.symm T) e
  .rw[a_]
   .exact(N b g).1
   .intro q
    have ol:∃o,s.heap.get? b=My o:=by
     simp only[NC,O1,RW]at g;rcases g with rfl|rfl|rfl|rfl|rfl
     .exact⟨_,n⟩
     .exact⟨_,p⟩
     .exact⟨_,F⟩
     .obtain⟨o,e,_⟩:=J.get;exact⟨o,e⟩
     .obtain⟨o,e,_⟩:=L.get;exact⟨o,e⟩
    obtain⟨o,e⟩:=ol;exact NW (NU e) (by rw[q];exact OB _)
 done:=by
  intro X hP hw hK m i A s σ H E I N G hg;subst hP hw hK;obtain⟨xs,ys,S,V,hl⟩:=hg;obtain⟨n,p,⟨a,Z,F⟩,J,L⟩:=G;obtain⟨j,r1,p1⟩:=bt.src I S;obtain⟨l,r2,p2⟩:=bt.src I V;have hd:=I.ok.hd m;simp only[OE,NC,O1,RW,Yl]at nd;obtain⟨⟨U,z2,R,T⟩,⟨t1,t2,t3⟩,⟨W,o2⟩,O,_⟩:=nd;have r:∀c∈[z,TI,TO,f,i2],B≠c:=λc m=>bt.f5 I S (N c m);have t:∀c∈[z,TI,TO,f,i2],C≠c:=λc m=>bt.f5 I V (N c m);have ap:Ap z TI TO f i2 [f,B] [i2,C]:=⟨Ne.symm U,Ne.symm z2,Ne.symm R,Ne.symm T,t1,t2,t3,W,o2,O,by simp[R,(r z (by simp)).symm],by simp[W,(r TO (by simp)).symm],by simp[Ne.symm O,(r i2 (by simp)).symm],by simp[T,(t z (by simp)).symm],by simp[o2,(t TO (by simp)).symm],by simp[O,(t f (by simp)).symm],by simp,by simp⟩;have g1:j.toArray.size=SW xs:=by rw[NM,<-r1.length]
  have g2:l.toArray.size=SW ys:=by rw[NM,<-r2.length]
  refine DF (λA' D=>tM b1 (D.trans hd) f B (r f (by simp)) j.toArray) (λA' D=>tM b2 (D.trans hd) i2 C (t i2 (by simp)) l.toArray) ap n p F ⟨J,p1⟩ ⟨L,p2⟩ ?_ λD tk kp=>⟨rfl,bt.turnL I N λb o g e=>?_⟩
  .rw[g1,g2]
   rcases hl with hl|⟨h1,h2⟩
   .exact .inl hl.symm
   .exact .inr ⟨h1,h2.symm⟩
  .simp only[NC,O1,RW,Yl]at g
   exact kp b o g.1 g.2.2.1 g.2.2.2.1 g.2.2.2.2 e
 self:=λ_ _ _ _ _ G h=>wpAny_pyIter_zip G.1 h
end
section
variable{X:Cx}{E:a0t}{K:NR}
def iZp(K:NR)(d:TA):TI:=λe H R=>d e H λD a=>∃b1 b2 b c E G,D=[.r b,.r c]/\ss b1 K a b E/\ss b2 K a c G/\R (ZB b1 b2 K b c) a
theorem JG{W}(y:Gl X "zip")(G:X.mg "zip"=Na)(M:PA X [a,b] Y)(S:NL [a,b] X.e=[(Ni,OQ a X.e),(Ni,OQ b X.e)]:=by rfl)(g:NL [b] X.e=[(Ni,OQ b X.e)]:=by rfl):
  PI X (.Tuple z W Q) (.Call (.Name "zip" p) [a,b] [] x) (iZp X.K Y):=by
 intro f s n H R I h;refine Call_ (fX I y G Boot.«zip» (OZ (dt (M x f s n H _ I h) λZ d ⟨vs,o,i,V,D⟩=>?_) (by rw[S,g]) (by rw[g];rfl)));obtain⟨b1,b2,t,u,xs,ys,e,D,T,q⟩:=D;subst e;cases V with
 |cons r k=>
  cases k with
  |cons A k=>
   cases k;cases r;cases A;obtain⟨B,O,C⟩:=bt.src i D;obtain⟨F,P,p2⟩:=bt.src i T;refine CS C p2 λE v J L l m sz U=>?_;refine wpAny_pyIter_zip (s:={d with heap:=E}) v ?_;have N:bt X f n o {d with heap:=E}:=i.kept (t':=d.toks) U;refine⟨_,[d.heap.objs.size+4,d.heap.objs.size+2,d.heap.objs.size+3,d.heap.objs.size,d.heap.objs.size+1],_,ZB b1 b2 X.K t u,o,rfl,N,DN b1 b2 t u (d.heap.objs.size+4) (d.heap.objs.size+2) (d.heap.objs.size+3) d.heap.objs.size (d.heap.objs.size+1) (by simp),⟨v,J,⟨_,_,L⟩,l,m⟩,λc w=>?_,q⟩;have j:d.heap.objs.size<=c:=by
    simp only[NC,O1,RW]at w;rcases w with rfl|rfl|rfl|rfl|rfl
    .exact Pp _ _
    .exact Pp _ _
    .exact Pp _ _
    .exact No _
    .exact Pp _ _
   exact i.fpOk j (i.hok.fresh j)
noncomputable def dU:a0b->a0b->a0b
 |x::xs,y::ys=> .t [x,y]::dU xs ys
 |_,_=>[]
theorem tX:∀(D E:a0b),SW (dU D E)=QN (SW D) (SW E)
 |[],E=>by simp[dU]
 |x::D,[]=>by simp[dU]
 |x::D,y::E=>by
  show(dU D E).length+1=_;rw[tX D E,NB,NB];lia
theorem tY:∀{E G:a0b} {i:Nat} {d:D},(dU E G)[i]?=My d->∃x y,E[i]?=My x/\G[i]?=My y/\d= .t [x,y]
 |[],G,i,d,h=>by simp[dU]at h
 |x::E,[],i,d,h=>by simp[dU]at h
 |x::E,y::G,0,d,h=>by
  simp[dU]at h;exact⟨x,y,rfl,rfl,h.symm⟩
 |x::E,y::G,i+1,d,h=>by
  have K:(dU E G)[i]?=My d:=by simpa[dU]using h
  obtain⟨a,b,c,e,f⟩:=tY K;exact⟨a,b,by simpa using c,by simpa using e,f⟩
def DH:a0b->a0z
 |[a,b]=>(dE a).bind λD=>(dE b).map λE=>dU D E
 |_=>Na
theorem bc.sqS(h:bc K F H d v)(e:dE d=My k):∃b a,v= .r a/\∀f c,Tr F H f c->∃D,ss b K c a D/\aj K f c k D:=by
 cases d<;>first
  |(cases e;obtain⟨a,D,rfl,_⟩:=bc.h0 h;refine⟨Nf,a,rfl,λf c t=>?_⟩;obtain⟨j,E,g,G,i⟩:=bc.h0 (bc.tr t _ _ h);cases g;exact⟨E,G,i⟩)
  |(cases e;obtain⟨a,D,rfl,_⟩:=bc.f5 h;refine⟨Ni,a,rfl,λf c t=>?_⟩;obtain⟨j,E,g,G,i⟩:=bc.f5 (bc.tr t _ _ h);cases g;exact⟨E,G,i⟩)
  |cases e
theorem Im{b1 b2:Bool}(n:∀b a,Tr F H b a->∃D,ss b1 K a s D/\aj K b a J D)(o:∀b a,Tr F H b a->∃D,ss b2 K a L D/\aj K b a N D):ux K (ZB b1 b2 K s L) F H (dU J N):=λb a S t fr i=>by
 obtain⟨D,c,G⟩:=n b a t;obtain⟨E,e,M⟩:=o b a t;refine⟨λd V=>?_,λq=>?_⟩
 .obtain⟨x,y,f,g,rfl⟩:=tY V
  obtain⟨u,h,X⟩:=G.get f;obtain⟨v,j,r⟩:=M.get g;refine⟨⟨D,E,u,v,c,e,h,j⟩,λz B w=>?_⟩;obtain⟨p,C,I,k,rfl,rfl,A⟩:=w;obtain⟨l,m⟩:=A D E c e;rw[h]at l;rw[j]at m;cases l;cases m;exact⟨bT.upd k,bc.o8 fr k (aj.cons X (aj.cons r aj.f5))⟩
 .rw[tX]at q
  have f:=G.length;have g:=M.length;refine⟨D,E,c,e,?_⟩;rw[<-f,<-g];lia
def yg(g:FL):FL:=cL DH g
theorem pY{T}(o:Gl X "zip")(M:X.mg "zip"=Na)(S:PA X [a,b] (hO X.K g E))(V:NL [a,b] X.e=[(Ni,OQ a X.e),(Ni,OQ b X.e)]:=by rfl)(i:NL [b] X.e=[(Ni,OQ b X.e)]:=by rfl):
  PI X (.Tuple s T x) (.Call (.Name "zip" p) [a,b] [] U) (iV X.K (yg g) E):=
 (JG o M S V i).imp λI H R j=>i_ j λF z L fr q h=>⟨F,z,L,fr,q,(run.bind (R:=aj X.K F) h).mono λW f j=>by
  obtain⟨Y,N,t,O,P⟩:=j;obtain⟨l,e,k⟩:=run.h0 P;unfold DH at e;split at e
  .rename_i c d
   obtain⟨v,J,rfl,r,u⟩:=aj.o8 O;cases D:dE c with
   |none=>rw[D]at e;cases e
   |some Z=>
    cases G:dE d with
    |none=>rw[D,G]at e;cases e
    |some ys=>
     rw[D,G]at e;cases e;obtain⟨b1,w,rfl,m⟩:=bc.sqS r D;obtain⟨b2,y,rfl,n⟩:=bc.sqS u G;obtain⟨Q,A,_⟩:=m F f (Tr.refl F f);obtain⟨B,C,_⟩:=n F f (Tr.refl F f);exact⟨b1,b2,w,y,Q,B,rfl,A,C,k _ f (To.refl t.fr) (Im m n)⟩
  .cases e⟩
variable{a:List Expr}
end
section
variable{P:N9}{w:Ol}{K:NR}{e:a0i}{d:OO}{N:a0j}{c:Oi}{a:Scope}{f:Nh}{g:Nj}{A:Ot}{b:a0C}{s:Nq}{H:Hp}{E:XK}
end
section
variable{X:Cx}{E:a0t}{K:NR}
variable{y A v:Expr}{w:List Expr}{rest:a0Q}{u:Scope}{z:SA}{B b_:a0j}{br:a0a}{g:TG}{I:a0Z}
theorem aU:d9 X [] (hL X.K (λ_=>M.h0 Nf) E0):=λa s b H Q I c=>by obtain⟨F,g,u,fr,d,r⟩:=c;exact uS a s b H Q I (run.k4 fr r rfl)
theorem tK(a:PT X c (hL X.K t E0)):d9 X [c] (hL X.K t E0):=D6 a
theorem bC(c:X.calm=Nf)(S:cp X u B b_ br)(d:PI X A v (iV X.K m E))
  (e:∀(G:a0n) (C:Nh) (a:a0r) (s:Nq) (H:Hp),PG (aM X B u G C a s H) A g/\d9 (aM X B u G C a s H) w (hL X.K n E0)/\∀D,PB (aM X B u G C a s H) y (⟨A,v,w,0⟩::rest) u z 0 D (I D))
  (f:cQ X.K g l) (i:d7 l) (j:∀D,jH X.K D (I D) b) (M:∀x,OD v X.e x=P3 x:=by intro _;rfl):PE X (.ListComp y (⟨A,v,w,0⟩::rest) u z) (tV X.K (dJ (SW b_) br m l n b) E):=
 (mK c S d e M).imp λk H Q h=>ul f i j h
theorem zQ{a c:SA}(j:X.N.Nodup)(d:X.N[i]?=My x)(M:xl X.e.scope x)(k:X.calm=Nf)(S:cp X u B b_ br)(l:PI X A v (iV X.K F E))
  (m:∀(G:a0n) (C:Nh) (f:a0r) (s:Nq) (H:Hp),PG (aM X B u G C f s H) A g/\d9 (aM X B u G C f s H) w (hL X.K J E0)/\∀D,PB (aM X B u G C f s H) y (⟨A,v,w,0⟩::rest) u z 0 D (I D))
  (n:cQ X.K g t) (o:d7 t) (p:∀D,jH X.K D (I D) b)
  (e:Tg (.ListComp y (⟨A,v,w,0⟩::rest) u z) (My (.Name x a)) c.line X.e=P3 Nf:=by rfl)
  (V:∀x,OD v X.e x=P3 x:=by intro _;rfl) (q:b0d X x:=by first|exact .inl rfl|exact .inr rfl|assumption):
  PS X (.Assign [.Name x a] (.ListComp y (⟨A,v,w,0⟩::rest) u z) c) (tG X.K X.H₀ (gA i (dJ (SW b_) br F t J b)) E):=
 aK ((wI j d M k S l m e V q).imp λD r H h=>ul n o p h)
noncomputable def Z3:D->a0l
 | .n i=>My (.n (-i))
 |_=>Na
theorem s0:G6 K (rU λi=> .n (-i)) Z3:=λF H u Q g d b fr a e k=>by
 cases g<;>first|(cases e;exact⟨_,a,k _ H (To.refl fr) rfl⟩)|cases e
noncomputable def mq:D->a0o
 | .n i=>My i
 |_=>Na
noncomputable def eE(xs:a0b)(g a:a0o):a0b:=(xs.drop (HT.sIx (SW xs) 0 g)).take (HT.sIx (SW xs) (SW xs) a-HT.sIx (SW xs) 0 g)
def ZR:D->a0o->a0o->a0l
 | .l xs,lo,hi=>My (.l (eE xs lo hi))
 | .scr ns,lo,hi=>My (.l (eE (ns.map D.n) lo hi))
 |_,_,_=>Na
def iJ(f:a1c):Dn->M a0o:=λu=>match f with
 |none=>M.h0 Na
 |some g=>M.v (g u) λd=>M.v (M.f (mq d)) λi=>M.h0 (My i)
def YV(f:FD)(u a:a1c):FD:=λg=>M.v (f g) λd=>M.v (iJ u g) λl=>M.v (iJ a g) λh=>M.f (ZR d l h)
def re(X:Cx)(e:Option Expr)(f:a1c)(E:a0t):Prop:=PO X e (λc H Q=>∃F g u,Fr F H u/\hW X.K F H g c/\run (λ_ (a b:a0o)=>b=a) F E c (iJ f g) H Q u)
theorem fW:re X Na Na E:=λa s b H Q I c=>by obtain⟨F,g,u,fr,d,r⟩:=c;exact wL a s b H Q I (run.k4 fr r rfl)
theorem fV(h:PE X e (tV X.K f E)):re X (My e) (My f) E:=λa s c H Q I b=>i_ b λF g u fr j r=>wK h a s c H Q I ⟨F,g,u,fr,j,(run.bind (R:=bc X.K F) r).mono λv l b=>by
  obtain⟨d,w,t,y,z⟩:=b;obtain⟨i,e,k⟩:=run.f5 z;cases d<;>first|(cases e;exact⟨_,y,run.k4 t.fr k rfl⟩)|cases e⟩
theorem aj.cut(h:aj K F H b c)(g a:a0o):aj K F H (eE b g a) (jg c g a):=by
 unfold eE jg;rw[h.length];exact(h.drop _).take _
theorem ge{S u:Option Expr}{fl w:a1c}{p2:SA}(y:PE X e (tV X.K f E))(A:re X S fl E)(B:re X u w E):PE X (.Subscript e (.Slice S u Na p2) z) (tV X.K (YV f fl w) E):=
 (n6 wt y A B).imp λL H Q m=>i_ m λF g V fr n r=>⟨F,g,V,fr,n,(run.bind (R:=bc X.K F) r).mono λv N ⟨d,D,t,s,x⟩=>
  ⟨F,g,D,t.fr,n.tr (t.tr fr),(run.bind (R:=λ_ (a b:a0o)=>b=a) x).mono λl O ⟨P,G,t2,o,C⟩=>
   ⟨F,g,G,t2.fr,n.tr ((t.tr fr).trans (t2.tr t.fr)),(run.bind (R:=λ_ (a b:a0o)=>b=a) C).mono λh T m=>by
    obtain⟨Y,U,t3,q,I⟩:=m;subst o q;obtain⟨c,e,k⟩:=run.h0 I;have i:=bc.tr ((t2.tr t.fr).trans (t3.tr t2.fr)) _ _ s;cases d<;>first
     |(cases e;obtain⟨a,W,rfl,M,J⟩:=bc.h0 i;exact⟨a,W,rfl,M,λp j=>k _ _ (t3.fr.upd _ j) (bc.k4 t3.fr j (J.cut l h))⟩)
     |(cases e;obtain⟨a,rfl,M⟩:=bc.scr i;exact⟨a,_,rfl,M,λp j=>k _ _ (t3.fr.upd _ j) (bc.k4 t3.fr j ((aj.k4 _).cut l h))⟩)
     |cases e⟩⟩⟩
def Bg.ok(β:Bg):Prop:=β.cells≠[]/\SW β.cells<=64/\(∀c∈β.cells,0<=c)/\0<=β.j
end
noncomputable def Bg.pos(D:Bg):Nat:=(D.i % (SW D.cells:Int)).toNat
def Bg.cell(D:Bg):Int:=D.cells.getD D.pos 0
noncomputable def Bg.f5(D:Bg):Int:=(D.j+D.cell % 2147483629+77)*48271 % 2147483629
noncomputable def jz(E:Bg)(D:Int):Int:=if 10^18<=E.cell then E.cell % D else E.f5/64 % D
noncomputable def ku(D:Bg)(E:Int):Bg:=if 10^18<=D.cell then⟨D.cells.set D.pos (D.cell/E),D.i,D.j⟩else⟨D.cells,D.i+1,D.f5⟩
open Classical in
def cM:a0b->M D:=λG E=>match G with
 |[.bag,.n lot]=>if E.ok/\0<lot/\lot<1073741824 then My (Pa (D.n (jz E lot)),ku E lot)else Na
 |_=>Na
theorem Es{D:Bg}(h:D.ok)(a:0<c)(b:c<1073741824):cM [.bag,.n c] D=My (.ok (.n (jz D c)),ku D c):=by
 unfold cM;exact Nu ⟨h,a,b⟩
theorem AZ{E:Bg}(h:cM b E=My (r,a)):∃D,b=[.bag,.n D]/\E.ok/\0<D/\D<1073741824/\r= .ok (.n (jz E D))/\a=ku E D:=by
 unfold cM at h;split at h
 .split at h
  .rename_i D q
   cases h;exact⟨D,rfl,q.1,q.2.1,q.2.2,rfl,rfl⟩
  .cases h
 .cases h
theorem Bg.ok.at{β:Bg}(h:β.ok):β.pos<SW β.cells/\β.cells[β.pos]?=My β.cell/\0<=β.cell/\β.i % (SW β.cells:Int)=(β.pos:Int):=by
 obtain⟨D,G,E,b⟩:=id h;have c:0<SW β.cells:=RJ.mpr D;have K:0<=β.i % (SW β.cells:Int):=S7 _ (by lia);have M:β.i % (SW β.cells:Int)<SW β.cells:=TK _ (by lia);have a:β.pos<SW β.cells:=by unfold Bg.pos;lia
 have e:β.cell=β.cells[β.pos]:=by
  unfold Bg.cell;rw[NA,Ng a];rfl
 refine⟨a,by rw[e];exact Ng a,by rw[e];exact E _ (OG a),?_⟩;unfold Bg.pos;lia
theorem wG{D:Bg}(h:D.ok)(b:0<g):0<=jz D g/\jz D g<g/\(ku D g).ok:=by
 obtain⟨f,_,d,_⟩:=h.at;obtain⟨E,G,K,e⟩:=id h;unfold jz ku;split
 .refine⟨S7 _ (by lia),TK _ b,?_,by rw[Om];exact G,λc a=>?_,e⟩
  .intro z
   have:=Ou SW z;rw[Om]at this;exact E (PU.mp this)
  .rcases P8 a with a|rfl
   .exact K c a
   .exact Int.ediv_nonneg d (by lia)
 .exact⟨S7 _ (by lia),TK _ b,E,G,K,S7 _ (by decide)⟩
end L2.Pu
namespace L2.Hs
open PySem.SetTable
def Rs(xs:Array Nat):Prop:=∀i k x y:Nat,i<k->xs[i]?=My x->xs[k]?=My y->x<y
theorem oI{E:Array Nat}(r:Rs E):∀(fuel D c:Nat),D<=c->c<=E.size->c-D<=fuel->(∀i x,i<D->E[i]?=My x->x<j)->(∀i x,c<=i->E[i]?=My x->j<=x)->
  below.go E j fuel D c<=E.size/\(∀i x,i<below.go E j fuel D c->E[i]?=My x->x<j)/\∀i x,below.go E j fuel D c<=i->E[i]?=My x->j<=x
 |0,D,c,h1,h2,h3,a,b=>by
  have:D=c:=by lia
  subst this;exact⟨h2,a,b⟩
 |fuel+1,D,c,h1,h2,h3,a,b=>by
  unfold below.go;by_cases q:D<c
  .rw[Nu q]
   simp only;have K:(D+c)/2<E.size:=by lia
   have e:E[(D+c)/2]?=My (E.getD ((D+c)/2) j):=by simp[Uj,K]
   by_cases z:E.getD ((D+c)/2) j<j
   .rw[Nu z]
    refine oI r fuel _ _ (by lia) h2 (by lia) (λi x d G=>?_) b;by_cases w:i=(D+c)/2
    .subst w
     rw[e]at G;cases G;exact z
    .exact U9 (r i ((D+c)/2) x _ (by lia) G e) z
   .rw[Nv z]
    refine oI r fuel _ _ (by lia) (by lia) (by lia) a (λi x d G=>?_);by_cases w:i=(D+c)/2
    .subst w
     rw[e]at G;cases G;lia
    .have:=r ((D+c)/2) i _ x (by lia) e G
     lia
  .rw[Nv q]
   have:D=c:=by lia
   subst this;exact⟨h2,a,b⟩
theorem jj{D:Array Nat}(r:Rs D):below D j<=D.size/\(∀i x,i<below D j->D[i]?=My x->x<j)/\∀i x,below D j<=i->D[i]?=My x->j<=x:=
 oI r D.size 0 D.size (OH _) (No _) (by lia) (λi x h=>NW h (QL i)) (λi x h e=>by
  have:=(OA.mp e).1;lia)
theorem Fc(r:Rs f)(h:f[i]?=My j):below f j=i:=by
 obtain⟨c,a,b⟩:=jj (j:=j) r;rcases Sm (below f j) i with q|q|q
 .have d:=(OA.mp h).1
  have e:f[below f j]?=My f[below f j]:=a3a f _ (by lia);have:=b _ _ (No _) e;have:=r _ _ _ _ q e h;lia
 .exact q
 .have:=a _ _ q h
  lia
theorem rE{t:OM}(r:Rs t.place)(h:t.place[i]?=My j):t.slot j= .live i:=by
 unfold slot;simp only[Fc r h,h,Yi,OC]
theorem xR{t:OM}(d:t.dummies=#[])(h:∀i:Nat,t.place[i]?≠My j):t.slot j= .empty:=by
 unfold slot;have a:(t.place[below t.place j]?==My j)=Ni:=by
  rw[Uy];exact h _
 have b:has t.dummies j=Ni:=by unfold has;rw[d];rfl
 simp only[a,b,NO,OF]
noncomputable def d5(t:OM):Nat->Probe->Probe
 |0,p=>p
 |n+1,p=>d5 t n (t.advance p)
theorem ox(t:OM):∀(n:Nat) (p:Probe),d5 t (n+1) p=t.advance (d5 t n p)
 |0,p=>rfl
 |n+1,p=>by
  show d5 t (n+1) (t.advance p)=t.advance (d5 t n (t.advance p));exact ox t n (t.advance p)
theorem mU(t:OM):∀(n m:Nat) (p:Probe),d5 t (n+m) p=d5 t m (d5 t n p)
 |0,m,p=>by rw[Pi];rfl
 |n+1,m,p=>by
  rw[show n+1+m=(n+m)+1 by lia];exact mU t n m (t.advance p)
structure Pv (t:OM) (p:Probe):Prop where
 j:p.j+p.more<=t.mask
 more:p.more<=9
 i:p.i<=t.mask
 pt:p.perturb<2^64
 du:p.dummy=Na
theorem rN{D i:Nat}(h:i<=D):i<=runEnd D i/\runEnd D i<=D/\runEnd D i-i<=9:=by
 unfold runEnd;by_cases q:i+9<=D
 .rw[Nu q];lia
 .rw[Nv q];lia
noncomputable def rx(t:OM)(i D:Nat):Probe:={j:=i,more:=runEnd t.mask i-i,i,perturb:=D,dummy:=Na}
theorem qo{t:OM}(h:i<=t.mask)(a:pt<2^64):Pv t (rx t i pt):=by
 obtain⟨c,d,b⟩:=rN h;refine⟨?_,b,h,a,rfl⟩;show i+(runEnd t.mask i-i)<=t.mask;lia
theorem rA(t:OM)(h:Int):t.probeStart h=rx t (bits h % (t.mask+1)) (bits h):=rfl
theorem m8(h:Int):bits h<2^64:=by
 unfold bits;have:=TK h (show(0:Int)<2^64 by decide);have:=S7 h (show(2^64:Int)≠0 by decide);lia
theorem nV(t:OM)(h:Int):Pv t (t.probeStart h):=by
 rw[rA];exact qo (by have:=V7 (bits h) (show t.mask+1>0 by lia);lia) (m8 h)
noncomputable abbrev J_(D i E:Nat):Nat:=(i*5+1+E/32) % (D+1)
theorem DB{t:OM}{p:Probe}(h:0<p.more):t.advance p={p with j:=p.j+1,more:=p.more-1}:=by
 unfold advance;rw[Nu h]
theorem xz{t:OM}{p:Probe}(h:p.more=0)(D:p.dummy=Na):t.advance p=rx t (J_ t.mask p.i p.perturb) (p.perturb/32):=by
 unfold advance;rw[Nv (by lia)];unfold leap rx;simp only[D]
theorem yq(D i E:Nat):J_ D i E<=D:=by
 have:=V7 (i*5+1+E/32) (show D+1>0 by lia);unfold J_;lia
theorem DA{t:OM}(v:Pv t p):Pv t (t.advance p):=by
 by_cases q:0<p.more
 .rw[DB q]
  exact⟨by have:=v.j;show p.j+1+(p.more-1)<=t.mask;lia,by have:=v.more;show p.more-1<=9;lia,v.i,v.pt,v.du⟩
 .rw[xz (by lia) v.du]
  exact qo (yq _ _ _) (Oj (VI _ _) v.pt)
theorem lX:∀(n:Nat) {p:Probe},Pv t p->Pv t (d5 t n p)
 |0,_,v=>v
 |n+1,_,v=>lX n (DA v)
theorem qR:∀(k:Nat) {p:Probe},Pv t p->k<=p.more->d5 t k p={p with j:=p.j+k,more:=p.more-k}
 |0,p,v,h=>by cases p;rfl
 |k+1,p,v,h=>by
  rw[ox,qR k v (by lia)];rw[DB (show 0<p.more-k by lia)];simp only[Probe.mk.injEq,and_true,true_and];lia
theorem oy{t:OM}{p:Probe}(v:Pv t p):d5 t (p.more+1) p=rx t (J_ t.mask p.i p.perturb) (p.perturb/32):=by
 rw[ox,qR _ v (No _)];exact xz (RG _) v.du
def cw(D:Nat):Nat->Nat×Nat->Nat×Nat
 |0,x=>x
 |k+1,x=>cw D k (J_ D x.1 x.2,x.2/32)
theorem jw(D:Nat):∀(k:Nat) (x:Nat×Nat),cw D (k+1) x=(J_ D (cw D k x).1 (cw D k x).2,(cw D k x).2/32)
 |0,x=>rfl
 |k+1,x=>jw D k _
theorem vp{t:OM}:∀(k:Nat) {p:Probe},Pv t p->∃n,n<=10*(k+1)/\d5 t n p=rx t (cw t.mask (k+1) (p.i,p.perturb)).1 (cw t.mask (k+1) (p.i,p.perturb)).2
 |0,p,v=>⟨p.more+1,by have:=v.more;lia,oy v⟩
 |k+1,p,v=>by
  obtain⟨n,D,e⟩:=vp k v;have a:=lX n v;rw[e]at a;refine⟨n+((rx t (cw t.mask (k+1) (p.i,p.perturb)).1 (cw t.mask (k+1) (p.i,p.perturb)).2).more+1),by have:=a.more;lia,?_⟩;rw[mU,e,oy a,jw t.mask (k+1)];rfl
def Mk(D:Nat):Prop:=D=7\/D=31\/D=127
noncomputable def I_(D:Nat):Nat->Nat->Nat
 |0,i=>i
 |k+1,i=>I_ D k ((i*5+1) % (D+1))
theorem mP(D:Nat):∀(a b i:Nat),I_ D (a+b) i=I_ D b (I_ D a i)
 |0,b,i=>by rw[Pi];rfl
 |a+1,b,i=>by
  rw[show a+1+b=(a+b)+1 by lia];exact mP D a b _
def GL(D:Nat):Bool:=(I_ D (D+1) 0==0)&&(Nr (D+1)).all λj=>(Nr (D+1)).any λk=>I_ D k 0==j
theorem JO{D:Nat}(h:Mk D):GL D=Nf:=by
 rcases h with rfl|rfl|rfl<;>decide +kernel
theorem wO{D i j:Nat}(h:Mk D)(l:i<=D)(m:j<=D):∃k,k<=D/\I_ D k i=j:=by
 have o:=JO h;unfold GL at o;rw[N5,RM,QU]at o;obtain⟨g,E⟩:=o;obtain⟨a,e,c⟩:=List.any_eq_true.mp (E i (NS.mpr (by lia)));obtain⟨b,f,d⟩:=List.any_eq_true.mp (E j (NS.mpr (by lia)));rw[RM]at c d;have:=NS.mp e;have:=NS.mp f;by_cases q:a<=b
 .refine⟨b-a,by lia,?_⟩
  rw[<-c,<-mP,show a+(b-a)=b by lia,d]
 .refine⟨b+(D+1)-a,by lia,?_⟩
  rw[<-c,<-mP,show a+(b+(D+1)-a)=(D+1)+b by lia,mP,g,d]
theorem lI(D:Nat):∀(k i:Nat),cw D k (i,0)=(I_ D k i,0)
 |0,i=>rfl
 |k+1,i=>by
  show cw D k (J_ D i 0,0/32)=_;rw[show(0/32:Nat)=0 from rfl,lI D k];rfl
theorem nX(D:Nat):∀(a b:Nat) (x:Nat×Nat),cw D (a+b) x=cw D b (cw D a x)
 |0,b,x=>by rw[Pi];rfl
 |a+1,b,x=>by
  rw[show a+1+b=(a+b)+1 by lia];exact nX D a b _
theorem nW(D:Nat):∀(k:Nat) (x:Nat×Nat),(cw D k x).2=x.2/32^k
 |0,x=>by simp[cw]
 |k+1,x=>by
  rw[jw,nW D k x,WK,Nat.pow_succ]
theorem wz(D:Nat):∀(k:Nat) (x:Nat×Nat),x.1<=D->(cw D k x).1<=D
 |0,x,h=>h
 |k+1,x,h=>by rw[jw];exact yq _ _ _
theorem M4{t:OM}(h:Mk t.mask)(v:Pv t p)(a:j<=t.mask):∃n,n<10*turns t.mask/\(d5 t n p).j=j:=by
 have z:(cw t.mask 13 (p.i,p.perturb)).2=0:=by
  rw[nW];exact Nat.div_eq_of_lt (NP v.pt (by decide))
 have l:=wz t.mask 13 (p.i,p.perturb) v.i;obtain⟨k,c,e⟩:=wO h l a;obtain⟨n,D,b⟩:=vp (12+k) v;refine⟨n,by unfold turns;lia,?_⟩;rw[b];show(cw t.mask (12+k+1) (p.i,p.perturb)).1=j;rw[show 12+k+1=13+k by lia,nX,show cw t.mask 13 (p.i,p.perturb)=((cw t.mask 13 (p.i,p.perturb)).1,0)from Qr rfl z,lI];exact e
abbrev Lv(t:OM)(j:Nat):Prop:=∃k:Nat,t.place[k]?=My j
structure Tb (t:OM) (hs:a0d):Prop where
 km:Mk t.mask
 sz:t.place.size=SW hs
 rs:Rs t.place
 le:∀i j:Nat,t.place[i]?=My j->j<=t.mask
 du:t.dummies=#[]
 nf:t.place.size*5<t.mask*3
 rch:∀(i:Nat) (h:Int) (j:Nat),hs[i]?=My h->t.place[i]?=My j->∃n,(d5 t n (t.probeStart h)).j=j/\∀m<n,Lv t (d5 t m (t.probeStart h)).j
theorem Mk.f5(h:Mk m):m % 2=1/\7<=m/\m<=127:=by
 rcases h with rfl|rfl|rfl<;>decide
theorem gap{D:Array Nat}(r:Rs D):∀n,n<=D.size->(∀i:Nat,i<n->D[i]?=My i)\/∃j,j<n/\∀i:Nat,D[i]?≠My j
 |0,_=> .inl λi h=>NW h (QL i)
 |n+1,h=>by
  rcases gap r n (by lia)with q|⟨j,c,b⟩
  .have e:D[n]?=My D[n]:=a3a D n (by lia)
   by_cases z:D[n]=n
   .refine .inl λi d=>?_
    by_cases w:i=n
    .subst w;rw[e,z]
    .exact q i (by lia)
   .have lt:n<=D[n]:=by
     cases n with
     |zero=>lia
     |succ m=>
      have:=r m (m+1) _ _ (by lia) (q m (by lia)) e;lia
    refine .inr ⟨n,by lia,λi a=>?_⟩;rcases Sm i n with w|w|w
    .rw[q i w]at a;cases a;lia
    .subst w;rw[e]at a;exact z (N6 a)
    .have:=r n i _ _ w e a
     lia
  .exact .inr ⟨j,by lia,b⟩
theorem Kq{D:Array Nat}(r:Rs D):∃j,j<=D.size/\∀i:Nat,D[i]?≠My j:=by
 rcases gap r D.size (No _)with q|⟨j,c,a⟩
 .refine⟨D.size,No _,λi e=>?_⟩
  have b:=(OA.mp e).1;rw[q i b]at e;cases e;lia
 .exact⟨j,by lia,a⟩
theorem GY{t:OM}(r:Rs t.place)(d:t.dummies=#[]):∀(fuel:Nat) (p:Probe) (e:Nat),Pv t p->e<fuel->¬Lv t (d5 t e p).j->
  ∃m,m<=e/\(∀a<m,∃i,t.place[i]?=My (d5 t a p).j/\hashAt i≠h)/\
   ((¬Lv t (d5 t m p).j/\probe.go t hashAt h fuel p=My (.empty (d5 t m p).j Na))\/∃i,t.place[i]?=My (d5 t m p).j/\hashAt i=h/\probe.go t hashAt h fuel p=My (.candidate (d5 t m p).j i (d5 t (m+1) p)))
 |0,_,_,_,h,_=>NW h (QL _)
 |fuel+1,p,e,v,hf,he=>by
  unfold probe.go;by_cases q:Lv t p.j
  .obtain⟨i,b⟩:=q
   rw[rE r b];simp only;by_cases z:hashAt i=h
   .refine⟨0,OH _,λa D=>NW D (QL _),.inr ⟨i,b,z,?_⟩⟩
    rw[Nu (by rw[RM];exact z)];rfl
   .rw[Nv (by rw[RM];exact z)]
    cases e with
    |zero=>exact NW ⟨i,b⟩ he
    |succ e=>
     obtain⟨m,D,E,c⟩:=GY r d fuel (t.advance p) e (DA v) (by lia) he;refine⟨m+1,by lia,λa f=>?_,c⟩;cases a with
     |zero=>exact⟨i,b,z⟩
     |succ a=>exact E a (by lia)
  .rw[xR d (λi b=>q ⟨i,b⟩)]
   refine⟨0,OH _,λa D=>NW D (QL _),.inl ⟨q,?_⟩⟩;simp only[v.du];rfl
theorem Tb.free{t:OM}(T:Tb t hs)(v:Pv t p):∃e,e<10*turns t.mask/\¬Lv t (d5 t e p).j:=by
 obtain⟨j,f,a⟩:=Kq T.rs;have:=T.nf;have:=T.km.f5;obtain⟨e,b,c⟩:=M4 T.km v (show j<=t.mask by lia);exact⟨e,b,λ⟨k,d⟩=>a k (by rw[<-c];exact d)⟩
theorem BZ{E:Type}{D:Array E}{p:Nat}{x:E}(b:p<=D.size)(i:Nat):(insertAt D p x)[i]?=if i<p then D[i]? else if i=p then My x else D[i-1]?:=by
 unfold insertAt;rw[Array.getElem?_append];have a:((D.extract 0 p).push x).size=p+1:=by simp;lia
 rw[a];by_cases q:i<p
 .rw[Nu (by lia),Nu q,W6,Xi]
  rw[Nv (by lia),Wo];simp;lia
 .by_cases z:i=p
  .subst z
   rw[Nu (by lia),Nv (by lia),Nu rfl,W6,Xi];rw[Nu (by lia)]
  .rw[Nv (by lia),Nv q,Nv z,Wo]
   by_cases w:i-1<D.size
   .rw[Nu (by lia)]
    congr 1;lia
   .rw[Nv (by lia),Qs (by lia)]
theorem gy{E:Type}{D:Array E}{p:Nat}{x:E}(a:p<=D.size):(insertAt D p x).size=D.size+1:=by
 unfold insertAt;simp;lia
theorem Tb.put{t:OM}{hs:a0d}(T:Tb t hs)(w:¬Lv t j)(V:(d5 t n (t.probeStart h)).j=j)(s:∀m<n,Lv t (d5 t m (t.probeStart h)).j)(I:(t.place.size+1)*5<t.mask*3):
  (t.put j).1.dummies=#[]/\(t.put j).1.mask=t.mask/\(t.put j).1.place.size=t.place.size+1/\(t.put j).2<=t.place.size/\Tb (t.put j).1 (hs.take (t.put j).2++h::hs.drop (t.put j).2):=by
 obtain⟨b1,b2,b3⟩:=jj (j:=j) T.rs;have J:has t.dummies j=Ni:=by unfold has;rw[T.du];rfl
 have r:(t.put j).1.dummies=#[]:=by
  show(if has t.dummies j=Nf then _ else t.dummies)=#[];rw[J,Nv Nz,T.du]
 have G:(t.put j).1.place=insertAt t.place (below t.place j) j:=rfl;have g:=λi=>BZ (x:=j) b1 i;have u:∀x,Lv t x->Lv (t.put j).1 x:=λx ⟨k,e⟩=>by
  by_cases q:k<below t.place j
  .exact⟨k,by rw[G,g,Nu q];exact e⟩
  .exact⟨k+1,by rw[G,g,Nv (by lia),Nv (by lia)];exact e⟩
 have K:∀m p,d5 (t.put j).1 m p=d5 t m p:=λm=>by
  induction m with
  |zero=>intro p;rfl
  |succ m L=>intro p;exact L (t.advance p)
 refine⟨r,rfl,by rw[G,gy b1],b1,⟨T.km,?_,?_,?_,r,?_,?_⟩⟩
 .rw[G,gy b1,T.sz]
  have:(t.put j).2<=SW hs:=by rw[<-T.sz];exact b1
  simp;lia
 .intro i k x y l hx hy
  rw[G,g]at hx hy;have A:∀k,t.place[k]?≠My j:=λk e=>w ⟨k,e⟩;by_cases E:i<below t.place j
  .rw[Nu E]at hx
   by_cases S:k<below t.place j
   .rw[Nu S]at hy
    exact T.rs i k x y l hx hy
   .rw[Nv S]at hy
    by_cases D:k=below t.place j
    .rw[Nu D]at hy;cases hy
     exact b2 i x E hx
    .rw[Nv D]at hy
     exact T.rs i (k-1) x y (by lia) hx hy
  .rw[Nv E]at hx
   rw[Nv (by lia),Nv (by lia)]at hy;by_cases D:i=below t.place j
   .rw[Nu D]at hx;cases hx
    have H:=b3 (k-1) y (by lia) hy;have:y≠j:=λz=>A (k-1) (by rw[hy,z]);lia
   .rw[Nv D]at hx
    exact T.rs (i-1) (k-1) x y (by lia) hx hy
 .intro i x hx
  rw[G,g]at hx;by_cases E:i<below t.place j
  .rw[Nu E]at hx;exact T.le i x hx
  .rw[Nv E]at hx
   by_cases D:i=below t.place j
   .rw[Nu D]at hx;cases hx
    have v:=lX n (nV t h);have:=v.j;show j<=t.mask;lia
   .rw[Nv D]at hx;exact T.le _ x hx
 .rw[G,gy b1];exact I
 .intro i h' x B hx
  have l0:(t.put j).2<=SW hs:=by rw[<-T.sz];exact b1
  have o:(t.put j).2=below t.place j:=rfl;rw[G,g]at hx;have c:(if i<below t.place j then hs[i]? else if i=below t.place j then My h else hs[i-1]?)=My h':=by
   rw[<-B,o];by_cases E:i<below t.place j
   .rw[Nu E,P7 (by rw[N8];lia),Wh E]
   .rw[Nv E,OU (by rw[N8];lia),N8,Qo (by lia)]
    by_cases D:i=below t.place j
    .rw[Nu D,D,RG];rfl
    .rw[Nv D,show i-below t.place j=(i-1-below t.place j)+1 by lia,R1,Q3]
     congr 1;lia
  have d:∀f,hs[f]?=My h'->t.place[f]?=My x->∃n,(d5 (t.put j).1 n ((t.put j).1.probeStart h')).j=x/\∀m<n,Lv (t.put j).1 (d5 (t.put j).1 m ((t.put j).1.probeStart h')).j:=λf a b=>by
   obtain⟨C,F,o⟩:=T.rch f h' x a b;refine⟨C,by rw[K];exact F,λm M=>?_⟩;rw[K];exact u _ (o m M)
  by_cases E:i<below t.place j
  .rw[Nu E]at hx c
   exact d i c hx
  .rw[Nv E]at hx c
   by_cases D:i=below t.place j
   .rw[Nu D]at hx c
    cases hx;cases c;refine⟨n,by rw[K];exact V,λm M=>?_⟩;rw[K];exact u _ (s m M)
   .rw[Nv D]at hx c
    exact d (i-1) c hx
theorem vq{t u:OM}(h:t.mask=u.mask):∀(n:Nat) (p:Probe),d5 t n p=d5 u n p
 |0,p=>rfl
 |n+1,p=>by
  show d5 t n (t.advance p)=d5 u n (u.advance p);have:t.advance p=u.advance p:=by unfold advance;rw[h]
  rw[this];exact vq h n _
theorem xO{t u:OM}(h:t.mask=u.mask)(x:Int):t.probeStart x=u.probeStart x:=by unfold probeStart;rw[h]
noncomputable abbrev tm(mask:Nat):OM:={mask,place:=#[],dummies:=#[],finger:=0,led:=Nf,moves:=0,plain:=Nf}
noncomputable abbrev fr(owner:a0x)(j:Nat):Bool:=(owner.getD j (My 0)).isNone
theorem xf{D:Nat}{owner:a0x}:∀(fuel i E:Nat),i<=D->E<2^64->(∃b,b<fuel/\fr owner (cw D b (i,E)).1=Nf)->
  ∃n,layClean.free D owner fuel i E=My (d5 (tm D) n (rx (tm D) i E)).j/\fr owner (d5 (tm D) n (rx (tm D) i E)).j=Nf/\∀m<n,fr owner (d5 (tm D) m (rx (tm D) i E)).j=Ni
 |0,_,_,_,_,⟨b,h,_⟩=>NW h (QL b)
 |fuel+1,i,E,hi,hp,⟨b,hb,hf⟩=>by
  have v:=qo (t:=tm D) hi hp;obtain⟨M,A,B⟩:=rN hi;have f:(rx (tm D) i E).more=runEnd D i-i:=rfl;have d:∀k,k<=runEnd D i-i->(d5 (tm D) k (rx (tm D) i E)).j=i+k:=λk c=>by
   rw[qR k v c];rfl
  unfold layClean.free;split
  .rename_i k c
   obtain⟨g,l,o⟩:=List.find?_range_eq_some.mp c;have:=NS.mp l;refine⟨k,by rw[d k (by lia)],by rw[d k (by lia)];exact g,λm G=>?_⟩;rw[d m (by lia)];have:=o m G;simpa using this
  .rename_i c
   have K:∀k,k<=runEnd D i-i->fr owner (i+k)=Ni:=λk p=>by
    have:=List.find?_range_eq_none.mp c k (by lia);simpa using this
   cases b with
   |zero=>
    have r:=K 0 (by lia);exact NW hf (by rw[show(cw D 0 (i,E)).1=i+0 from rfl,r];exact Nz)
   |succ b=>
    obtain⟨n,u,w,y⟩:=xf fuel (J_ D i E) (E/32) (yq _ _ _) (Oj (VI _ _) hp) ⟨b,by lia,hf⟩;have a:∀m,d5 (tm D) (runEnd D i-i+1+m) (rx (tm D) i E)=d5 (tm D) m (rx (tm D) (J_ D i E) (E/32)):=λm=>by
     rw[mU,<-f,oy v];rfl
    refine⟨runEnd D i-i+1+n,by rw[a];exact u,by rw[a];exact w,λm G=>?_⟩;by_cases q:m<=runEnd D i-i
    .rw[d m q];exact K m q
    .obtain⟨e,rfl⟩:∃e,m=runEnd D i-i+1+e:=⟨m-(runEnd D i-i+1),by lia⟩
     rw[a];exact y e (by lia)
structure Ow (mask:Nat) (owner:a0x) (hs:a0d):Prop where
 sz:owner.size=mask+1
 lt:∀j k:Nat,owner[j]?=My (My k)->k<SW hs
 un:∀j j' k:Nat,owner[j]?=My (My k)->owner[j']?=My (My k)->j=j'
 cn:owner.toList.countP (·.isSome)=SW hs
 ex:∀(k:Nat) (h:Int),hs[k]?=My h->∃j n:Nat,owner[j]?=My (My k)/\(d5 (tm mask) n ((tm mask).probeStart h)).j=j/\∀m<n,∃k':Nat,owner[(d5 (tm mask) m ((tm mask).probeStart h)).j]?=My (My k')
theorem yK{D:Nat}{owner:a0x}(E:owner.size=D+1){j:Nat}(b:j<=D):(fr owner j=Nf↔owner[j]?=My Na)/\(fr owner j=Ni↔∃k:Nat,owner[j]?=My (My k)):=by
 have e:owner[j]?=My owner[j]:=a3a owner j (by lia);have a:owner.getD j (My 0)=owner[j]:=by simp[Uj,show j<owner.size by lia]
 unfold fr;rw[a,e];cases owner[j]<;>simp
theorem Ow.step{D:Nat}{owner:a0x}{G:a0d}(O:Ow D owner G)(h:Int)(M:Mk D)(Q:SW G<=D):
  ∃j,layClean.free D owner (turns D) (bits h % (D+1)) (bits h)=My j/\Ow D (owner.setIfInBounds j (My (SW G))) (G++[h]):=by
 have o:bits h % (D+1)<=D:=by have:=V7 (bits h) (show D+1>0 by lia);lia
 have⟨p,h1,h2⟩:∃p,p<=D/\fr owner p=Nf:=by
  refine Qx λz=>?_;have S:∀a∈owner.toList,Option.isSome a=Nf:=λa s=>by
   obtain⟨i,d,e⟩:=UN s;have H:i<owner.size:=by simpa using d
   have I:fr owner i=Ni:=by
    cases q:fr owner i with
    |false=>rfl
    |true=>exact NW ⟨i,by have:=O.sz;lia,q⟩ z
   obtain⟨k,r⟩:=(yK O.sz (show i<=D by have:=O.sz;lia)).2.mp I;have:owner[i]?=My a:=by rw[<-Ox,Ng d,e]
   rw[this]at r;cases r;rfl
  have:=List.countP_eq_length.mpr S;rw[O.cn]at this;have:=O.sz;simp at*;lia
 have z:(cw D 13 (bits h % (D+1),bits h)).2=0:=by
  rw[nW];exact Nat.div_eq_of_lt (NP (m8 h) (by decide))
 have l:=wz D 13 (bits h % (D+1),bits h) o;obtain⟨k,r,e⟩:=wO M l h1;have J:fr owner (cw D (13+k) (bits h % (D+1),bits h)).1=Nf:=by
  rw[nX,show cw D 13 (bits h % (D+1),bits h)=((cw D 13 (bits h % (D+1),bits h)).1,0)from Qr rfl z,lI];show fr owner (I_ D k _)=Nf;rw[e];exact h2
 obtain⟨n,A,B,L⟩:=xf (owner:=owner) (turns D) (bits h % (D+1)) (bits h) o (m8 h) ⟨13+k,by unfold turns;lia,J⟩;have C:∀m,(d5 (tm D) m (rx (tm D) (bits h % (D+1)) (bits h))).j<=D:=λm=>by
  have:=(lX m (qo (t:=tm D) o (m8 h))).j;show _<=(tm D).mask;lia
 generalize F:(d5 (tm D) n (rx (tm D) (bits h % (D+1)) (bits h))).j=j at A B;have N:j<=D:=by rw[<-F];exact C n
 have jn:owner[j]?=My Na:=(yK O.sz N).1.mp B;have f:j<owner.size:=by have:=O.sz;lia
 have set:∀x:Nat,(owner.setIfInBounds j (My (SW G)))[x]?=if j=x then My (My (SW G))else owner[x]?:=λx=>by
  rw[Array.getElem?_setIfInBounds];by_cases q:j=x
  .rw[Nu q,Nu q,Nu f]
  .rw[Nv q,Nv q]
 refine⟨j,A,⟨by rw[Array.size_setIfInBounds];exact O.sz,λx k E=>?_,λx y k E K=>?_,?_,λk R c=>?_⟩⟩
 .rw[set]at E
  rw[Nw];by_cases q:j=x
  .rw[Nu q]at E;cases E;simp
  .rw[Nv q]at E
   have:=O.lt x k E;lia
 .rw[set]at E K
  by_cases q:j=x
  .rw[Nu q]at E;cases E
   by_cases g:j=y
   .lia
   .rw[Nv g]at K
    exact NW (O.lt y _ K) (OB _)
  .rw[Nv q]at E
   by_cases g:j=y
   .rw[Nu g]at K;cases K
    exact NW (O.lt x _ E) (OB _)
   .rw[Nv g]at K
    exact O.un x y k E K
 .rw[Tt,List.countP_set (by simpa using f),O.cn]
  have:owner.toList[j]'(by simpa using f)=Na:=by
   have e:=a3a owner j f;rw[jn]at e;rw[QC];exact(N6 e).symm
  rw[this];simp
 .by_cases q:k<SW G
  .rw[P7 q]at c
   obtain⟨x,P,V,T,U⟩:=O.ex k R c;refine⟨x,P,?_,T,λm M=>?_⟩
   .rw[set,Nv (λw=>by subst w;rw[jn]at V;cases V)];exact V
   .obtain⟨u,b⟩:=U m M
    exact⟨u,by rw[set,Nv (λw=>by rw[<-w,jn]at b;cases b)];exact b⟩
  .have v:=(Nn.mp c).1
   rw[Nw,Oy]at v;have:k=SW G:=by lia
   subst this;rw[OU (No _),RG]at c;cases c;refine⟨j,n,by rw[set,Nu rfl],F,λm M=>?_⟩;obtain⟨u,b⟩:=(yK O.sz (C m)).2.mp (L m M);exact⟨u,by rw[rA,set,Nv (λw=>by rw[<-w,jn]at b;cases b)];exact b⟩
theorem Ow.nil(D:Nat):Ow D (Array.replicate (D+1) Na) []:=by
 have g:∀x:Nat,(Array.replicate (D+1) (Na:a0K))[x]?=if x<D+1 then My Na else Na:=λx=>Array.getElem?_replicate;refine⟨by simp,λj k h=>?_,λj b k h=>?_,by simp,λk h a=>by simp at a⟩
 .rw[g]at h
  split at h<;>cases h
 .rw[g]at h
  split at h<;>cases h
theorem vh{E:Nat}(M:Mk E):∀(l:a0d) (D:a0x) (G:a0d),Ow E D G->SW G+SW l<=E+1->∃a,l.foldl (λ(K:Option (a0x×Nat)) h=>do
   let (D,k) <-K
   let j <-layClean.free E D (turns E) (bits h % (E+1)) (bits h)
   P3 (D.setIfInBounds j (My k),k+1)) (My (D,SW G))=My (a,SW G+SW l)/\Ow E a (G++l)
 |[],D,G,O,_=>⟨D,rfl,by rw[Ob];exact O⟩
 |h::l,D,G,O,hl=>by
  rw[NB]at hl;obtain⟨j,e,d⟩:=O.step h M (by lia);obtain⟨f,b,c⟩:=vh M l _ (G++[h]) d (by rw[Nw,Oy];lia);refine⟨f,?_,by rw[Ny]at c;exact c⟩;rw[Vz];simp only[Option.bind_eq_bind,Qb,e];rw[Nw,Oy]at b;rw[NB,show SW G+(SW l+1)=SW G+1+SW l by lia];exact b
theorem Kc{D:Nat}(K:Mk D)(G:Array Int)(b:G.size<=D+1):∃E,layClean D G=My E/\Ow D E G.toList:=by
 obtain⟨o,e,O⟩:=vh K G.toList _ [] (Ow.nil D) (by simpa using b);refine⟨o,?_,O⟩;unfold layClean;rw[<-Array.foldl_toList];have a:=e;simp only[QD]at a;exact(Ou (Option.map (·.1)) a).trans rfl
theorem vF{D E:Type}{f:D->Option E}{g:D->E}:∀{l:List D},(∀a∈l,f a=My (g a))->l.filterMap f=l.map g
 |[],_=>rfl
 |a::l,h=>by
  rw[Pw,h a Np,NI,vF λb c=>h b (Nk a c)]
noncomputable def cm(E:Nat)(D:a0x):a0h:=(Nr (E+1)).filterMap λj=>(D.getD j Na).map (j,·)
theorem Ex{E:Nat}{D:a0x}(G:D.size=E+1){j k:Nat}:(j,k)∈cm E D↔D[j]?=My (My k):=by
 unfold cm;rw[TD];constructor
 .rintro⟨x,hx,e⟩
  have c:=NS.mp hx;have a:D.getD x Na=D[x]:=by simp[Uj,show x<D.size by lia]
  rw[a]at e;cases q:D[x]with
  |none=>rw[q]at e;cases e
  |some d=>
   rw[q]at e;simp only[P0,Wj,Prod.mk.injEq]at e;obtain⟨rfl,rfl⟩:=e;rw[a3a D x (by lia),q]
 .intro e
  have b:=(OA.mp e).1;refine⟨j,NS.mpr (by lia),?_⟩;have a:D.getD j Na=D[j]:=by simp[Uj,b]
  rw[a3a D j b]at e;rw[a,N6 e];rfl
theorem BF(E:Nat)(D:a0x):(cm E D).Pairwise λa b=>a.1<b.1:=by
 unfold cm;refine List.Pairwise.filterMap _ (λa f h b d g c=>?_) List.pairwise_lt_range;cases q:D.getD a Na with
 |none=>rw[q]at d;cases d
 |some k=>
  rw[q]at d;cases e:D.getD f Na with
  |none=>rw[e]at c;cases c
  |some i=>
   rw[e]at c;cases d;cases c;exact h
theorem z0{t:OM}{hs:Array Int}(M:Mk (sizeAbove wanted-1))(nf:hs.size*5<(sizeAbove wanted-1)*3):
  ∃(G:OM) (c:Array Nat),t.relaid hs wanted=My (G,c)/\c.toList.Perm (Nr hs.size)/\Tb G (c.toList.map λk=>hs.getD k 0)/\G.led=t.led/\G.plain=t.plain:=by
 have ho:=M.f5;obtain⟨D,e,O⟩:=Kc M hs (by lia);generalize P:sizeAbove wanted-1=mask at*;have d:SW hs.toList=hs.size:=by simp
 have f:=BF mask D;have l:∀{j k:Nat},(j,k)∈cm mask D↔D[j]?=My (My k):=Ex O.sz;have Q:t.relaid hs wanted=My ({mask,place:=((cm mask D).map (·.1)).toArray,dummies:=#[],finger:=t.finger,led:=t.led,moves:=t.movedTo mask,plain:=t.plain},((cm mask D).map (·.2)).toArray):=by
  unfold relaid laid;rw[P,e];rfl
 have g:((cm mask D).map (·.2)).Perm (Nr hs.size):=by
  refine(List.perm_ext_iff_of_nodup ?_ List.nodup_range).mpr λk=>?_
  .unfold List.Nodup
   rw[Pg];refine List.Pairwise.imp_of_mem (R:=λa b=>a.1<b.1) (λ{a b} E B h z=>?_) f;obtain⟨j,k⟩:=a;obtain⟨v,w⟩:=b;have T:k=w:=z;subst T;have:=O.un j v k (l.mp E) (l.mp B);have h':j<v:=h;lia
  .rw[Nm,NS]
   constructor
   .rintro⟨⟨j,w⟩,h,rfl⟩
    have:=O.lt j w (l.mp h);rwa[d]at this
   .intro A
    obtain⟨j,n,C,_⟩:=O.ex k _ (Ng (by rw[d];exact A));exact⟨(j,k),l.mpr C,rfl⟩
 have o:SW (cm mask D)=hs.size:=by
  have:=g.length_eq;rwa[M9,NQ]at this
 refine⟨_,_,Q,by simpa using g,?_,rfl,rfl⟩;have K:∀{i:Nat} {x:Nat},(((cm mask D).map (·.1)).toArray)[i]?=My x->∃k,(cm mask D)[i]?=My (x,k):=λ{i x} h=>by
  rw[Ux,Nl]at h;cases q:(cm mask D)[i]? with
  |none=>rw[q]at h;cases h
  |some a=>
   rw[q]at h;cases h;exact⟨a.2,rfl⟩
 have F:∀{j k:Nat},D[j]?=My (My k)->∃i:Nat,(((cm mask D).map (·.1)).toArray)[i]?=My j:=λ{j k} h=>by
  obtain⟨i,U,W⟩:=UN (l.mpr h);exact⟨i,by rw[Ux,Nl,Ng U,W];rfl⟩
 refine⟨M,?_,?_,?_,rfl,?_,?_⟩
 .show(((cm mask D).map (·.1)).toArray).size=_
  simp
 .intro i k x y H hx hy
  obtain⟨a,E⟩:=K hx;obtain⟨b,B⟩:=K hy;obtain⟨C,I⟩:=Nn.mp E;obtain⟨X,Y⟩:=Nn.mp B;have:=RE.mp f i k C X H;rw[I,Y]at this;exact this
 .intro i j h
  obtain⟨a,E⟩:=K h;have:=(OA.mp (l.mp (NJ E))).1;have:=O.sz;show j<=mask;lia
 .show(((cm mask D).map (·.1)).toArray).size*5<mask*3
  have:(((cm mask D).map (·.1)).toArray).size=hs.size:=by simp[o]
  lia
 .intro i h j J Z
  obtain⟨k,A⟩:=K Z;have p:=l.mp (NJ A);have V:hs.toList[k]?=My h:=by
   rw[Nl]at J;have I:((cm mask D).map (·.2)).toArray.toList[i]?=My k:=by
    show((cm mask D).map (·.2))[i]?=_;rw[Nl,A];rfl
   rw[I]at J;have kl:k<hs.size:=by have:=O.lt j k p;rwa[d]at this
   have:hs.getD k 0=h:=N6 J;rw[Ox,a3a hs k kl,<-this];simp[Uj,kl]
  obtain⟨v,n,s,a2,a3⟩:=O.ex k h V;have:=O.un j v k p s;subst this;have S:∀(u:OM),u.mask=mask->∀m,d5 u m (u.probeStart h)=d5 (tm mask) m ((tm mask).probeStart h):=λu N m=>by
   rw[xO (u:=tm mask) N,vq (u:=tm mask) N]
  refine⟨n,by rw[S _ rfl];exact a2,λm L=>?_⟩;rw[S _ rfl];obtain⟨w,r⟩:=a3 m L;exact F r
theorem rP{t:OM}(a:t.probe f h p=r)(T:Tb t g)(v:Pv t p)(b:e<10*turns t.mask)(c:¬Lv t (d5 t e p).j):
  ∃m,m<=e/\(∀d<m,∃i,t.place[i]?=My (d5 t d p).j/\f i≠h)/\
   ((¬Lv t (d5 t m p).j/\r=My (.empty (d5 t m p).j Na))\/∃i,t.place[i]?=My (d5 t m p).j/\f i=h/\r=My (.candidate (d5 t m p).j i (d5 t (m+1) p))):=by
 subst a;exact GY T.rs T.du _ p e v b c
section
variable{prog:N9}{w:Ol}{A:Ot}{E:a0e}{s:Nq}
noncomputable abbrev g_(prog:N9)(w:Ol):HeapKind prog w a0d:=tupleKind (Um prog w)
noncomputable abbrev hsh(prog:N9)(w:Ol)(k:a0d):Int:=(g_ prog w).hash k
theorem Tb.fits{t:OM}{hs:a0d}(T:Tb t hs)(s:SW hs=n):t.fits n=Nf:=by
 have:=T.nf;have:=T.sz;have:=T.km.f5;unfold VE SetTable.fill;rw[T.du];simp;lia
theorem items_int(h:ItemsAre (Um prog w) b a):∀v∈a,∃n t,v=Rt n t:=by
 induction h with
 |nil=>intro v hv;cases hv
 |@cons k v' b a h1 _ ih=>
  intro v hv;rcases NC.mp hv with rfl|hv
  .obtain⟨t,e⟩:=TY h1
   exact⟨_,t,e⟩
  .exact ih v hv
theorem zi{M:Vh}{o:N3}(b:s.heap.get? a=My o)(h:Q o.cls s):ND M A (typeOf (.ref a)) Q E s:=by
 show ND M A (loadPart a _>>=_) Q E s;exact M8 (wpAny_loadPart b (Nb h))
theorem uZ(f:(g_ prog w).is s.heap k x)(h:Q Ni s):ND (N0 prog w) A (VO 8 (.ref x)) Q E s:=by
 obtain⟨o,b,n,e,g,K,i⟩:=f;unfold VO;refine M8 (zi e ?_);rw[g];simp only[Yi,OC];refine M8 (Nb ?_);simp only[Qv,NO,OF];refine M8 (PQ e K ?_);refine M8 ?_;show ND _ _ (WW b _ _) _ _ s;rw[<-RT];refine Tj _ (λD r G=>r.1=Na/\G=s/\∀v∈D,∃n t,v=Rt n t) _ ?_ ?_ _ _ ⟨rfl,rfl,items_int i⟩
 .rintro v D r G ⟨c,rfl,a⟩
  obtain⟨n,t,rfl⟩:=a v Np;unfold VO;refine M8 (Nb ?_);simp only[NO,OF];exact Nb ⟨rfl,rfl,λu d=>a u (Nk _ d)⟩
 .rintro⟨r1,j⟩ G ⟨c,rfl,_⟩
  simp only at c;subst c;exact Nb h
theorem E8(e:(g_ prog w).is s.heap k x)(h:Q Nf s):ND (N0 prog w) A (hashByValue 8 (.ref x)) Q E s:=by
 have f:=Wr (s:=s) e;obtain⟨o,b,n,g,j,K,i⟩:=e;unfold hashByValue;refine M8 (QS f F.slot_tuple_hash.lookup ?_);simp only;refine M8 (PQ g K ?_);refine M8 ?_;show ND _ _ (WW b _ _) _ _ s;rw[<-RT];refine Tj _ (λD r G=>r.1=Na/\G=s/\∀v∈D,∃n t,v=Rt n t) _ ?_ ?_ _ _ ⟨rfl,rfl,items_int i⟩
 .rintro v D r G ⟨c,rfl,a⟩
  obtain⟨n,t,rfl⟩:=a v Np;unfold hashByValue;refine M8 (Nb ?_);simp only[Qv,NO,OF];exact Nb ⟨rfl,rfl,λu d=>a u (Nk _ d)⟩
 .rintro⟨r1,l⟩ G ⟨c,rfl,_⟩
  simp only at c;subst c;exact Nb h
theorem HY(f:(g_ prog w).is s.heap k x):∀(l:a0q) {Q:Bool->Nq->Prop},(∀y∈l,(g_ prog w).is s.heap y.1 y.2)->Q Ni s->ND (N0 prog w) A (VQ (.ref x) (l.map λy=>NH y.2)) Q E s:=by
 intro l Q g h;unfold VQ;refine M8 ?_;refine Tj _ (λD r G=>r.1=Na/\G=s/\∃b:a0q,D=b.map (λy=>NH y.2)/\∀y∈b,(g_ prog w).is s.heap y.1 y.2) _ ?_ ?_ _ _ ⟨rfl,rfl,l,rfl,g⟩
 .rintro v D r G ⟨d,rfl,b,e,a⟩
  cases b with
  |nil=>cases e
  |cons y b=>
   cases e;have M:=a y Np;have K:(Na:a0E)=Na/\G=G/\∃c:a0q,b.map (λy=>NH y.2)=c.map (λy=>NH y.2)/\∀y∈c,(g_ prog w).is G.heap y.1 y.2:=⟨rfl,rfl,b,rfl,λu i=>a u (Nk y i)⟩;by_cases q:x==y.2
   .simp only[q,Bool.true_or,OC]
    exact Nb K
   .simp only[q,Bool.false_or,carriedByValue,Tx,NO,OF]
    refine M8 ((g_ prog w).quiet f ?_);simp only[Qv,NO,OF];refine M8 ((g_ prog w).quiet M ?_);simp only[Qv,NO,OF];refine M8 (uZ f ?_);simp only[NO,OF];refine M8 (uZ M ?_);simp only[NO,OF];exact Nb K
 .rintro⟨r1,j⟩ G ⟨d,rfl,_⟩
  simp only at d;subst d;exact Nb h
theorem zI{o:N3}{K:a0y}{t:OM}{D:a0q}(hu:A.units<Tv)(ho:s.heap.get? a=My o)(hd:o.data= .set K ep t)
  (H:K.toList=D.map λx=>(hsh prog w x.1,NH x.2)) (hx:∀x∈D,(g_ prog w).is s.heap x.1 x.2) (T:Tb t (D.map λx=>hsh prog w x.1)) (hk:(g_ prog w).is s.heap k b)
  (he:e<10*turns t.mask) (R:¬Lv t (d5 t e (t.probeStart (hsh prog w k))).j) (ha:∀m<e,Lv t (d5 t m (t.probeStart (hsh prog w k))).j)
  (q1:k∈D.map (·.1)->Q (.there Na) s) (q2:k∉D.map (·.1)->Q (.free (d5 t e (t.probeStart (hsh prog w k))).j Ni) s):
  ∀(n c m:Nat) (st:Option Probe),e=m+n->n<c->st.getD (t.probeStart (hsh prog w k))=d5 t m (t.probeStart (hsh prog w k))->(∀g<m,∀(i:Nat) x,t.place[i]?=My (d5 t g (t.probeStart (hsh prog w k))).j->D[i]?=My x->x.1≠k)->
   ND (N0 prog w) A (setSearchFrom a (.ref b) (hsh prog w k) Nf c st) Q E s:=by
 have ac:K.size=SW D:=by rw[<-NG,H,M9]
 have U:t.fits K.size=Nf:=T.fits (by rw[M9,ac]);have l:∀i:Nat,K[i]?=(D[i]?).map λx=>(hsh prog w x.1,NH x.2):=λi=>by rw[<-Ox,H,Nl]
 have gw:t.gaveWay=Ni:=by
  have:=T.km.f5;unfold SetTable.gaveWay;rw[Uy];lia
 intro n
 induction n using Nat.strongRecOn with
 |_ n ih=>
  intro c m st em al ad p;cases c with
  |zero=>lia
  |succ c=>
   unfold setSearchFrom;refine M8 (PL ho hd U ?_)
   dsimp only
   rw[ad,gw];simp only[NO,OF];have v:=lX m (nV t (hsh prog w k));have M:∀n',d5 t n' (d5 t m (t.probeStart (hsh prog w k)))=d5 t (m+n') (t.probeStart (hsh prog w k)):=λn'=>(mU t m n' _).symm;have G:∀{i O j:Nat},t.place[i]?=My j->t.place[O]?=My j->i=O:=λ{i O j} u C=>by
    rcases Sm i O with q|q|q
    .exact NW (T.rs i O j j q u C) (OB j)
    .exact q
    .exact NW (T.rs O i j j q C u) (OB j)
   split
   .rename_i W heq
    obtain⟨g,ae,r,d⟩:=rP heq T v (e:=n) (by lia) (by rw[M,<-em];exact R);rcases d with⟨X,I⟩|⟨i,P,am,I⟩
    .cases I
     have Y:g=n:=by
      rcases U7 g n with q|q
      .rw[M]at X
       exact NW (ha (m+g) (by lia)) X
      .lia
     subst Y;refine Nb ?_;rw[M,<-em];refine q2 λZ=>?_;obtain⟨x,af,J⟩:=Nm.mp Z;obtain⟨B,ag,ah⟩:=UN af;have h:D[B]?=My x:=by rw[Ng ag,ah]
     have L:B<t.place.size:=by have:=T.sz;rw[M9]at this;lia
     obtain⟨F,a1,a2⟩:=T.rch B (hsh prog w k) t.place[B] (by rw[Nl,h,<-J];rfl) (a3a t.place B L);have an:F<e:=by
      rcases Sm F e with q|q|q
      .exact q
      .subst q
       exact NW ⟨B,by rw[a1];exact a3a t.place B L⟩ R
      .exact NW (a2 e q) R
     have V:t.place[B]?=My (d5 t F (t.probeStart (hsh prog w k))).j:=by rw[a1];exact a3a t.place B L
     by_cases q:F<m
     .exact p F q B x V h J
     .obtain⟨i,u,C⟩:=r (F-m) (by lia)
      rw[M,show m+(F-m)=F by lia]at u;have:=G u V;subst this;refine C ?_;show(K[i]?.map (·.1)).getD 0=_;rw[l,h,<-J];rfl
    .cases I
     have N:i<SW D:=by
      have u:=(OA.mp P).1;have:=T.sz;rw[M9]at this;lia
     have h:D[i]?=My D[i]:=Ng N;have aa:K[i]?=My (hsh prog w D[i].1,NH D[i].2):=by rw[l,h];rfl
     have ai:=hx D[i] (OG N);rw[M]at P;simp only;have el:(Pk (λx=>x.snd) (Array.filter (λx=>x.fst==hsh prog w k) K).toList)=(D.filter λy=>hsh prog w y.1==hsh prog w k).map λy=>NH y.2:=by
      rw[Array.toList_filter,H,Vy,Nx];rfl
     rw[el];have ab:∀{Q':Bool->Nq->Prop},Q' Ni s->ND (N0 prog w) A (VQ (.ref b) ((D.filter λy=>hsh prog w y.1==hsh prog w k).map λy=>NH y.2)) Q' E s:=λhq=>HY hk _ (λy hy=>hx y (Uu.mp hy).1) hq;have sm:t.sameMemory t.moves t.mask=My Nf:=by unfold sameMemory;simp
     have sl:t.slot (d5 t (m+g) (t.probeStart (hsh prog w k))).j= .live i:=rE T.rs P;cases ak:t.led
     all_goals simp only[UA,Qv,NO,OC,OF,M,aa]
     all_goals try refine M8 (ab ?_)
     all_goals try simp only[NO,OF]
     all_goals
      refine M8 (OT ((g_ prog w).eqBool hu ai hk (M8 (PL ho hd U ?_))));simp only[RO];by_cases q:D[i].1=k
      .rw[Nu (NF q)]
       exact Nb (q1 (Nm.mpr ⟨D[i],OG N,q⟩))
      .rw[Nv (by simpa using q)]
       simp only[sm,OC,sl,aa];refine M8 ?_;unfold isSame;simp only[Yi,OC];refine Nb (M8 (Nb ?_));simp only[OC];rw[Nv (by simpa using q)];have Y:g<n:=by
        rcases U7 g n with z|z
        .exact z
        .obtain rfl:g=n:=by lia
         rw[<-em]at P;exact NW ⟨i,P⟩ R
       refine ih (n-(g+1)) (by lia) c (m+g+1) _ (by lia) (by lia) rfl λS ao i2 x2 u C z=>?_;by_cases q1:S<m
       .exact p S q1 i2 x2 u C z
       .by_cases q2:S=m+g
        .subst q2
         have:=G P u;subst this;rw[h]at C;cases C;exact q z
        .obtain⟨i3,h3,h4⟩:=r (S-m) (by lia)
         rw[M,show m+(S-m)=S by lia]at h3;have:=G h3 u;subst this;refine h4 ?_;show(K[i3]?.map (·.1)).getD 0=_;rw[l,C,<-z];rfl
   .rename_i hno
    have aj:∀f:Nat->Int,(∀W,t.probe f (hsh prog w k) (d5 t m (t.probeStart (hsh prog w k)))=My W->False)->False:=λf U=>by
     obtain⟨g,ae,r,d⟩:=rP (f:=f) rfl T v (e:=n) (by lia) (by rw[M,<-em];exact R);rcases d with⟨_,I⟩|⟨i,_,_,I⟩
     .exact U _ I
     .exact U _ I
    exact(aj _ hno).elim
theorem MJ{P:Nat->Prop}:∀n,P n->∃m,m<=n/\P m/\∀k<m,¬P k:=by
 intro n
 induction n using Nat.strongRecOn with
 |_ n ih=>
  intro h;by_cases q:∃k,k<n/\P k
  .obtain⟨k,a,b⟩:=q
   obtain⟨m,d,c⟩:=ih k a b;exact⟨m,by lia,c⟩
  .exact⟨n,No n,h,λk a b=>q ⟨k,a,b⟩⟩
def rb(prog:N9)(w:Ol)(h:OO)(a:Nh)(s:a0q):Prop:=
 ∃o A D t,h.get? a=My o/\o.ExactSet/\o.data= .set A D t/\(A.toList=s.map λx=>(hsh prog w x.1,NH x.2))/\(s.map (·.1)).Nodup/\(∀x∈s,(g_ prog w).is h x.1 x.2)/\(Tb t (s.map λx=>hsh prog w x.1))/\t.plain=Nf/\t.led=!(w.params.followText "set-order")
theorem oJ{h s:OO}{o:N3}{m p t}(x:(g_ prog w).is h k b)(i:h.get? a=My o)(A:o.data= .set m p t)(hs:Oa a h s):(g_ prog w).is s k b:=by
 obtain⟨g,c,n,e,j,d,l⟩:=x;have f:b≠a:=by
  rintro rfl;obtain rfl:g=o:=N6 (e.symm.trans i);rw[A]at d;exact nomatch d
 exact⟨g,c,n,(hs.2 b f).trans e,j,d,l⟩
theorem rq{h:OO}{o:N3}(c:h.get? a=My o)(w:o.data= .set e d t)(b:a0y)(s:OM):(h.update a (Uv b s)).get? a=My {o with data:= .set b (d+1) s}:=by
 have:=QA (Uv b s) c (by rw[putSet_of b s w];rfl);rw[putSet_of b s w]at this;exact this
theorem JC{t:OM}(T:Tb t hs)(j:Nat):(t.put j).1.dummies=#[]/\(t.put j).1.place.size=t.place.size+1/\(t.put j).2<=t.place.size:=by
 obtain⟨b1,b2,b3⟩:=jj (j:=j) T.rs;have s:has t.dummies j=Ni:=by unfold has;rw[T.du];rfl
 refine⟨?_,gy b1,b1⟩;show(if has t.dummies j=Nf then _ else t.dummies)=#[];rw[s,Nv Nz,T.du]
theorem Ip{w D:Type}{A:List w}{s:Array D}{f:w->D}(e:s.toList=A.map f){p:Nat}(c:p<=s.size)(x:w):(insertAt s p (f x)).toList=(A.take p++x::A.drop p).map f:=by
 unfold insertAt;simp only[Qn,R8,WG];have a:(s.toList.extract 0 p)=s.toList.take p:=by simp[List.extract]
 have b:(s.toList.extract p s.size)=s.toList.drop p:=by
  simp only[List.extract];rw[OJ (by simp)]
 rw[a,b,e,NV,NI,SJ,Rf,Ny];rfl
theorem LN{D:a0q}(hu:A.units<Tv)(S:rb prog w s.heap a D)(hk:(g_ prog w).is s.heap k b)(hn:SW D<63)
  (h:∀K q,Oa a s.heap K->rb prog w K a q->(k∈D.map (·.1)->q=D)->(k∉D.map (·.1)->q.Perm ((k,b)::D))->Q (decide (k∉D.map (·.1))) {s with heap:=K}):
  ND (N0 prog w) A (setAddHashed a (.ref b) (hsh prog w k)) Q E s:=by
 have S0:=S;obtain⟨o,G,ep,t,R,W,V,U,af,hx,T,hp,I⟩:=S;have C:G.size=SW D:=by rw[<-NG,U,M9]
 have hf:t.fits G.size=Nf:=T.fits (by rw[M9,C]);have X:t.place.size=SW D:=by rw[T.sz,M9]
 obtain⟨e0,ag,ah⟩:=T.free (nV t (hsh prog w k));obtain⟨e,aj,hl,Y⟩:=MJ (P:=λe=>¬Lv t (d5 t e (t.probeStart (hsh prog w k))).j) e0 ah;have ha:∀m<e,Lv t (d5 t m (t.probeStart (hsh prog w k))).j:=λm M=>Classical.not_not.mp (Y m M);have ak:=T.km.f5;unfold setAddHashed setAddHashedIn;refine OT (M8 (PL R V hf ?_));have hb:byScan (NH b) G=Ni:=rfl;simp only[hb,NO,OF];refine M8 ?_;unfold setSearch;refine zI (e:=e) hu R V U hx T hk (by lia) hl ha (λM=>?_) (λM=>?_) e 100000 0 Na (by lia) (by unfold turns at ag;lia) rfl (λm' ai=>NW ai (QL _))
 .refine Nb ?_
  have:=h s.heap D (Oa.refl a s.heap) S0 (λ_=>rfl) (λz=>NW M z);rw[Oo (λz=>z M)]at this;exact this
 .have hQ:∀K q,Oa a s.heap K->rb prog w K a q->q.Perm ((k,b)::D)->Q Nf {s with heap:=K}:=λK q h1 Z h3=>by
   have:=h K q h1 Z (λz=>NW z M) (λ_=>h3);rwa[NF M]at this
  simp only;refine M8 (PL R V hf ?_);generalize hj:(d5 t e (t.probeStart (hsh prog w k))).j=j at hl;obtain⟨pd,ps,pl⟩:=JC T j;generalize v:t.put j=tp at pd ps pl;obtain⟨t1,p⟩:=tp;simp only at pd ps pl⊢;have l:t1.plain=Nf:=by
   have:(t.put j).1.plain=t.plain:=rfl;rw[v]at this;rw[this,hp]
  have J:t1.led=t.led:=by
   have:(t.put j).1.led=t.led:=rfl;rw[v]at this;exact this
  have u:t1.mask=t.mask:=by
   have:(t.put j).1.mask=t.mask:=rfl;rw[v]at this;exact this
  rw[l];simp only[OC];refine M8 (E8 hk ?_);simp only[OC];have L:=Ip (f:=λx:a0d×Nh=>(hsh prog w x.1,NH x.2)) U (p:=p) (by lia) (k,b);have y:(insertAt G p (hsh prog w k,NH b)).size=G.size+1:=gy (by lia);have d:(D.take p++(k,b)::D.drop p).Perm ((k,b)::D):=by
   have:=List.perm_middle (a:=(k,b)) (l₁:=D.take p) (l₂:=D.drop p);rwa[N7]at this
  have nd1:((D.take p++(k,b)::D.drop p).map (·.1)).Nodup:=by
   refine(d.map (·.1)).nodup_iff.mpr ?_;rw[NI,OE];exact⟨M,af⟩
  refine M8 (wpAny_storeSet_of R V ?_ (by rw[y,Ps];lia));have F:=O4 s.heap a (Uv (insertAt G p (hsh prog w k,NH b)) t1);have g1:=rq R V (insertAt G p (hsh prog w k,NH b)) t1;have aa:∀x∈D.take p++(k,b)::D.drop p,(g_ prog w).is (s.heap.update a (Uv (insertAt G p (hsh prog w k,NH b)) t1)) x.1 x.2:=λx hx'=>by
   rcases NC.mp (d.mem_iff.mp hx')with rfl|hx'
   .exact oJ hk R V F
   .exact oJ (hx x hx') R V F
  by_cases r:t1.tooFull=Nf
  .simp only[r,UA,T9,OC]
   have fu:t1.fill*5≥t1.mask*3:=by unfold tooFull at r;exact OR r
   have fe:t1.fill=SW D+1:=by unfold SetTable.fill;rw[pd,ps,X];rfl
   have al:=T.nf;have f1:t1.fits (insertAt G p (hsh prog w k,NH b)).size=Nf:=by
    unfold VE;rw[y,fe,ps,X,C,u];simp;lia
   have wm:Mk (sizeAbove (grown (G.size+1))-1)/\(G.size+1)*5<(sizeAbove (grown (G.size+1))-1)*3/\sizeAbove (grown (G.size+1))<=128:=by
    rw[fe,u]at fu;rw[C];rcases T.km with z|z|z
    .have:SW D=4:=by lia
     rw[this];exact⟨.inr (.inl (by decide)),by decide,by decide⟩
    .have:SW D=18:=by lia
     rw[this];exact⟨.inr (.inr (by decide)),by decide,by decide⟩
    .lia
   have B:(Array.map (λx=>x.fst) (insertAt G p (hsh prog w k,NH b))).size=G.size+1:=by rw[Array.size_map,y]
   obtain⟨t2,c,er,op,T2,ab,H⟩:=z0 (t:=t1) (hs:=(insertAt G p (hsh prog w k,NH b)).map (·.1)) (wanted:=grown (G.size+1)) wm.1 (by rw[B];exact wm.2.1);refine M8 ?_;unfold setRelay;refine M8 (PL g1 rfl f1 ?_);simp only;rw[Nv (by rw[Ps];lia)];rw[er];generalize am:insertAt G p (hsh prog w k,NH b)=es1 at*;generalize an:D.take p++(k,b)::D.drop p=xs1 at*;have l1:SW xs1=G.size+1:=by rw[d.length_eq,NB,C]
   have N:∀i,i<SW xs1->es1[i]?=My (hsh prog w (xs1.getD i (k,b)).1,NH (xs1.getD i (k,b)).2):=λi O=>by
    rw[<-Ox,L,Nl,Ng O,NA,Ng O];rfl
   have om:∀i∈c.toList,i<SW xs1:=λi O=>by
    have:=NS.mp (op.mem_iff.mp O);rw[B]at this;lia
   have ac:(c.filterMap λx=>es1[x]?).toList=(c.toList.map λi=>xs1.getD i (k,b)).map λx=>(hsh prog w x.1,NH x.2):=by
    rw[Array.toList_filterMap,vF (g:=λi=>(hsh prog w (xs1.getD i (k,b)).1,NH (xs1.getD i (k,b)).2)) λi O=>N i (om i O),Nx];rfl
   have n:(c.toList.map λi=>xs1.getD i (k,b)).Perm xs1:=by
    refine(op.map _).trans (Xa ?_);rw[B,<-l1];refine Ry (by simp) λi h1 Z=>?_;rw[Rz,TC,NA,Ng Z];rfl
   have ad:(c.filterMap λx=>es1[x]?).size=es1.size:=by
    rw[<-NG,ac,M9,n.length_eq,l1,y]
   refine M8 ?_;show ND _ _ (if((c.filterMap λx=>es1[x]?).size !=es1.size)=Nf then _ else _) _ _ _;rw[Nv (by rw[ad];simp)];refine Nb ?_;refine wpAny_storeSet_of g1 rfl ?_ (by rw[ad,y,Ps];lia);have ae:=O4 (s.heap.update a (Uv es1 t1)) a (Uv (c.filterMap λx=>es1[x]?) t2);have g2:=rq g1 rfl (c.filterMap λx=>es1[x]?) t2;refine Nb (hQ _ (c.toList.map λi=>xs1.getD i (k,b)) (F.trans ae) ⟨_,_,_,t2,g2,W,rfl,ac,?_,λx hx'=>?_,?_,by rw[H,l],by rw[ab,J,I]⟩ (n.trans d))
   .exact(n.map (·.1)).nodup_iff.mpr nd1
   .exact oJ (aa x (n.mem_iff.mp hx')) g1 rfl ae
   .have eh:(c.toList.map λi=>xs1.getD i (k,b)).map (λx=>hsh prog w x.1)=c.toList.map λi=>(es1.map (·.1)).getD i 0:=by
     rw[Nx];refine Od λi O=>?_;have h1:=N i (om i O);have Z:(es1.map (·.1))[i]?=My (hsh prog w (xs1.getD i (k,b)).1):=by rw[Array.getElem?_map,h1];rfl
     have h3:=(OA.mp Z);obtain⟨h4,h5⟩:=h3;simp only[Uz];rw[<-h5];simp[Uj,h4];lia
    rw[eh];exact T2
  .simp only[r,UA,Bool.and_false,OF,RO,NO]
   refine Nb (hQ _ (D.take p++(k,b)::D.drop p) F ⟨_,_,_,t1,g1,W,rfl,L,nd1,aa,?_,l,by rw[J,I]⟩ d);have nf:(t.place.size+1)*5<t.mask*3:=by
    have:¬(t1.fill*5≥t1.mask*3):=by
     intro z;exact r (by unfold tooFull;exact NF z)
    unfold SetTable.fill at this;rw[pd,ps,u]at this;simp at this;lia
   have:=(T.put (h:=hsh prog w k) hl hj (by exact ha) nf).2.2.2.2;rw[v]at this;rw[NV,NI,SJ,Rf];exact this
end
namespace F2
theorem si_next:Slot "set_iterator" "__next__" "set_iterator.__next__":= .of (owner:="set_iterator") (n:="__next__") (by rw[Wt,UQ];kernel_rfl) (by decide +kernel) (by decide +kernel) (by decide +kernel)
  (by first|exact .inl (by decide +kernel)|exact .inr (by decide +kernel)) (by rw[SN];kernel_rfl)
theorem si_iter:Slot "set_iterator" "__iter__" "set_iterator.__iter__":= .of (owner:="set_iterator") (n:="__iter__") (by rw[Wt,UQ];kernel_rfl) (by decide +kernel) (by decide +kernel) (by decide +kernel)
  (by first|exact .inl (by decide +kernel)|exact .inr (by decide +kernel)) (by rw[SN];kernel_rfl)
theorem ent_next:entryFor table "set_iterator.__next__"=My Builtin.«set_iterator.__next__»:=entryFor_of_tree (by kernel_rfl)
theorem ent_iter:entryFor table "set_iterator.__iter__"=My Builtin.«dict_keyiterator.__iter__»:=WV (id':="dict_keyiterator.__iter__") (by kernel_rfl) rfl (by decide +kernel) (by kernel_rfl)
theorem ent_set_iter:entryFor table "set.__iter__"=My Builtin.«frozenset.__iter__»:=WV (id':="frozenset.__iter__") (by kernel_rfl) rfl (by decide +kernel) (by kernel_rfl)
theorem args_next(a:Nj):argsOk "set_iterator.__next__" ⟨[a],[]⟩:=by unfold argsOk;kernel_rfl
theorem args_iter(a:Nj):argsOk "set_iterator.__iter__" ⟨[a],[]⟩:=by unfold argsOk;kernel_rfl
end F2
theorem qb{D:Type}:∀{l:List D} {i:Nat} (h:i<SW l),(l[i]::l.eraseIdx i).Perm l
 |[],i,h=>NW h (QL i)
 |a::l,0,h=> .refl _
 |a::l,i+1,h=>by
  show(l[i]'(by simpa using h)::a::l.eraseIdx i).Perm (a::l);exact(SD.swap _ _ _).trans ((qb (by simpa using h)).cons a)
theorem wM{D:Type}(next:Nat->Nat):∀(fuel k:Nat) (left:List D) (a:Array D),SW left<=fuel->(VP next fuel k left a).toList.Perm (a.toList++left)
 |0,k,left,a,h=>by
  have:left=[]:=PU.mp (by lia);subst this;unfold VP;rw[Ob]
 |fuel+1,k,left,a,h=>by
  unfold VP;cases left with
  |nil=>simp
  |cons c l0=>
   have b:next k % SW (c::l0)<SW (c::l0):=V7 _ (by simp)
   rw[Ng b];simp only;refine(wM next fuel (k+1) _ _ (by rw[List.length_eraseIdx_of_lt b];lia)).trans ?_
   rw[R8,Ny];exact VW _ (qb b)
theorem AE{D:Type}(next:Nat->Nat)(xs:Array D):(We next xs).toList.Perm xs.toList:=by
 unfold We;refine(wM next xs.size 0 xs.toList #[] (by simp)).trans ?_
 simp
section
variable{prog:N9}{w:Ol}{A:Ot}{E:a0e}{s:Nq}
noncomputable def eD(w:Ol)(a:Nh)(ep:Nat)(s:a0y):a0y:=if w.params.followText "set-order"=Nf then We (w.params.setOrder a ep) s else s
theorem kE(w:Ol)(a:Nh)(ep:Nat)(s:a0y):(eD w a ep s).toList.Perm s.toList:=by
 unfold eD;split
 .exact AE _ _
 .exact .refl _
structure R_ (w:Ol) (h:OO) (I a:Nh) (es:a0y) (ep:Nat) (t:OM) (i:Nat):Prop where
 st:∃o,h.get? a=My o/\o.data= .set es ep t
 it:∃(o:N3) (sl:Nat),h.get? I=My o/\o.cls= .type "set_iterator"/\o.data= .fields #[.int sl 0,.int i 0,.ref a,.int es.size 0,.int ep 0]/\(w.params.followText "set-order"=Ni->below t.place sl=i)
theorem mn{M:Vh}(h:Q (M.w.params.followText "set-order") s):ND M A setsByText Q E s:=by
 unfold setsByText;exact M8 (Ti (Nb h))
theorem AT{D:a0y}{t:OM}{e:Int×Nj}(T:Tb t Y)(h:t.fits D.size=Nf)(H:t.plain=Nf)(J:t.led=!(w.params.followText "set-order"))(x:R_ w s.heap I a D X t i)(k:I≠a)(l:(eD w a X D)[i]?=My e)
  (L:∀M,R_ w M I a D X t (i+1)->Oa I s.heap M->Q (My e.2) {s with heap:=M}):ND (N0 prog w) A (Ru (.ref I)) Q E s:=by
 obtain⟨⟨N,b,c⟩,o,V,n,u,G,p⟩:=id x;have y:s.TypeIs (.ref I) "set_iterator":=⟨o,n,u⟩;unfold Ru;refine M8 (QZ (a1e (name:=Pq "__next__") y F2.si_next (Of F2.si_next y F2.ent_next ?_ (F2.args_next _))));unfold Builtin.«set_iterator.__next__»;refine M8 (Nb ?_);refine M8 (SQ n G ?_);simp only;refine M8 (Vc b c h ?_);simp only[Rg,NO,OF];refine M8 ?_;simp only[ON]
 have d:∀K:Nat,(w.params.followText "set-order"=Ni->below t.place K=i+1)->ND (N0 prog w) A.in1 (do
    U1 (NH I) 0 (Rl K)
    U1 (NH I) 1 (Rl (i+1))
    ret e.2) (λd S=>∃v,d=Fin.done (Flow.ret v)/\ND (N0 prog w) A (P3 (My v)) Q E S) (λe S=>ND (N0 prog w) A (do
     if(<-Vr e (QP "StopIteration"))=Nf then P3 Na else throw e) Q E S) s:=λK r=>by
  refine M8 (Q8 n G (by simp) ?_);have B:(s.heap.update I (Ws (·.setIfInBounds 0 (Rl K)))).get? I=My _:=QA _ n (SE (Pl G _));refine M8 (Q8 B (Pl G _) (by simp) ?_);refine Nb ⟨_,rfl,Nb (L _ ⟨⟨N,?_,c⟩,⟨_,K,QA _ B (SE (Pl (Pl G _) _)),?_,?_,r⟩⟩ ((O4 ..).trans (O4 ..)))⟩
  .rw[PZ _ _ _ _ (Ne.symm k),PZ _ _ _ _ (Ne.symm k)];exact b
  .rw[Uc,Uc];exact u
  .rw[Pl (Pl G _)];simp[Rl]
 unfold setNext;refine M8 (PL b c h (M8 (mn ?_)));have C:(N0 prog w).w=w:=rfl;rw[C];cases q:w.params.followText "set-order"
 .have f:eD w a X D=D:=by unfold eD;rw[q];rfl
  rw[f]at l;have O:=p q;have R:=(OA.mp l).1;simp only[NO,OF];have P:t.place.size=D.size:=by
   unfold VE at h;simp only[N5,RM,Og]at h;exact h.1
  rw[Nv (λz=>by
   have F:(!t.plain&&decide (D.size>1))=Nf:=z;rw[H]at F;cases F)]
  refine M8 ?_;show ND _ _ (if(!t.led&&!D.isEmpty)=Nf then _ else _) _ _ _;rw[Nv (by rw[J,q];exact Nz)];refine Nb (Nb ?_);have g:t.place[i]?=My t.place[i]:=a3a t.place i (by lia);rw[O,l,g];simp only;refine d _ λ_=>?_;obtain⟨b1,b2,b3⟩:=jj (j:=t.place[i]+1) T.rs;rcases Sm (below t.place (t.place[i]+1)) (i+1)with z|z|z
  .have:=b3 i _ (by lia) g
   lia
  .exact z
  .have m:t.place[i+1]?=My t.place[i+1]:=a3a t.place (i+1) (by lia)
   have U:=b2 (i+1) _ z m;have W:=T.rs i (i+1) _ _ (by lia) g m;lia
 .have f:eD w a X D=We (w.params.setOrder a X) D:=by unfold eD;rw[q];rfl
  rw[f]at l;simp only[OC,Rg,NO,OF];refine M8 ?_;unfold setWalk;refine M8 (PL b c h (M8 (mn ?_)));rw[C,q];simp only[OC];refine M8 (Ti (Nb ?_));refine Nb ?_;rw[show((N0 prog w).w.params.setOrder a X)=w.params.setOrder a X from rfl,l];simp only[P0];exact d _ λz=>by rw[q]at z;cases z
theorem Ek{D:a0y}{t:OM}(r:A.handled=Na)(T:Tb t J)(g:t.fits D.size=Nf)(u:t.plain=Nf)(y:t.led=!(w.params.followText "set-order"))(x:R_ w s.heap I a D H t D.size)
  (B:∀K,UC I s.heap K->Q Na {s with heap:=K}):ND (N0 prog w) A (Ru (.ref I)) Q E s:=by
 obtain⟨⟨F,d,f⟩,o,S,h,C,M,i⟩:=id x;have l:s.TypeIs (.ref I) "set_iterator":=⟨o,h,C⟩;unfold Ru;refine M8 (QZ (a1e (name:=Pq "__next__") l F2.si_next (Of F2.si_next l F2.ent_next ?_ (F2.args_next _))));unfold Builtin.«set_iterator.__next__»;refine M8 (Nb ?_);refine M8 (SQ h M ?_);simp only;refine M8 (Vc d f g ?_);simp only[Rg,NO,OF];refine M8 ?_;simp only[ON]
 have c:ND (N0 prog w) A.in1 (do
    U1 (NH I) 2 On
    let e <-Wc (QP "StopIteration") []
    (W1 e:WP Fin)) (λc G=>∃v,c=Fin.done (Flow.ret v)/\ND (N0 prog w) A (P3 (My v)) Q E G) (λe G=>ND (N0 prog w) A (do
     if(<-Vr e (QP "StopIteration"))=Nf then P3 Na else throw e) Q E G) s:=by
  refine M8 (Q8 h M (by simp) ?_);refine M8 ?_;simp only[Wc,newTuple];refine M8 (Oh ?_ (by size_fits));refine M8 (m:=Q7 _ _) (Rh (a:=On) (by first|rfl|(simp only[Q7];rfl)) ?_)
  refine Oh ?_ (by size_fits);simp only[W1];refine M8 (Vl ?_);rw[show A.in1.handled=Na from r];refine M8 (Nb (Wn ?_));refine M8 (PY (T:="StopIteration") (b:=Nf) ⟨_,NE _ rfl,rfl⟩ UZ ?_);exact Nb (B _ (((O4 ..).extBut.push _).push _))
 unfold setNext;refine M8 (PL d f g (M8 (mn ?_)));have n:(N0 prog w).w=w:=rfl;rw[n];have j:(eD w a H D).size=D.size:=by rw[<-NG,(kE w a H D).length_eq,NG]
 cases q:w.params.followText "set-order"
 .simp only[NO,OF]
  rw[Nv (λz=>by
   have p:(!t.plain&&decide (D.size>1))=Nf:=z;rw[u]at p;cases p)]
  refine M8 ?_;show ND _ _ (if(!t.led&&!D.isEmpty)=Nf then _ else _) _ _ _;rw[Nv (by rw[y,q];exact Nz)];refine Nb (Nb ?_);rw[i q,Qs (No _)];exact c
 .have k:eD w a H D=We (w.params.setOrder a H) D:=by unfold eD;rw[q];rfl
  simp only[OC,Rg,NO,OF];refine M8 ?_;unfold setWalk;refine M8 (PL d f g (M8 (mn ?_)));rw[n,q];simp only[OC];refine M8 (Ti (Nb ?_));refine Nb ?_;rw[show((N0 prog w).w.params.setOrder a H)=w.params.setOrder a H from rfl,<-k,Qs (by rw[j];exact No _)];exact c
theorem R_.at{h h':OO}(x:R_ w h I a es ep t i)(k:∀b,b=I\/b=a->∀o,h.get? b=My o->h'.get? b=My o):R_ w h' I a es ep t i:=by
 obtain⟨⟨e,c,d⟩,o,s,f,r⟩:=x;exact⟨⟨e,k a (.inr rfl) e c,d⟩,o,s,k I (.inl rfl) o f,r⟩
theorem DK(q:A.handled=Na){D:a0y}{t:OM}(T:Tb t x)(l:t.fits D.size=Nf)(m:t.plain=Nf)(n:t.led=!(w.params.followText "set-order"))(f:I≠a):
  Walks prog w A I [I,a] [I] D.size (λi v=>∃e,(eD w a ep D)[i]?=My e/\v=e.2) (λi h=>R_ w h I a D ep t i) where
 sub:=λb c=>by simp at c;simp[c]
 frame:=λ_ _ _ G r=>G.at λb c o e=>r b (by simpa using c) o e
 item:=λi s Q E J G d=>by
  have u:(eD w a ep D).size=D.size:=by rw[<-NG,(kE w a ep D).length_eq,NG]
  have p:(eD w a ep D)[i]?=My (eD w a ep D)[i]:=a3a _ i (by lia);exact AT T l m n G f p λK g M=>d _ K s.toks ⟨_,p,rfl⟩ g λb o c e=>M.extBut b o (λh=>c (by simp[h])) e
 done:=λs Q E G d=>Ek q T l m n G λK j=>d K s.toks λb o c e=>j b o (λh=>c (by simp[h])) e
 self:=λi s Q E G d=>by
  obtain⟨⟨L,y,B⟩,o,S,C,F,V,H⟩:=G;have k:s.TypeIs (.ref I) "set_iterator":=⟨o,C,F⟩;refine SR k F2.si_iter (Of F2.si_iter k F2.ent_iter ?_ (F2.args_iter _));show ND _ _ (ret (.ref I)) _ _ s;exact Nb ⟨_,rfl,"set_iterator",_,k,F2.si_next.lookup,d⟩
end
end L2.Hs
namespace L2.Hs
open PySem.SetTable
section
variable{prog:N9}{w:Ol}{A:Ot}{E:a0e}{s:Nq}
theorem EJ{o:N3}{D:a0y}{t:OM}(b:s.heap.get? a=My o)(f:o.cls= .type "set")(G:o.data= .set D ep t)(c:t.fits D.size=Nf)(g:t.plain=Nf)
  (h:Q (.ref s.heap.objs.size) {s with heap:=s.heap.push {cls:= .type "set_iterator",data:= .fields #[.int (0:Nat) 0,.int (0:Nat) 0,.ref a,.int D.size 0,.int ep 0]}}):ND (N0 prog w) A (UJ (.ref a)) Q E s:=by
 have d:s.TypeIs (.ref a) "set":=⟨o,b,f⟩;refine SR d F.slot_set_iter (Of F.slot_set_iter d F2.ent_set_iter ?_ (F.args_set_iter_1 _));unfold Builtin.«frozenset.__iter__»;refine M8 (Rh (a:=a) rfl ?_);refine M8 (M8 (Vc b G c (Nb ?_)));refine M8 ?_;unfold setDrawn;refine M8 (PL b G c (M8 (mn (Nb ?_))));rw[Nv (λz=>by
  have e:(!((N0 prog w).w.params.followText "set-order")&&(!t.plain&&decide (D.size>1)))=Nf:=z;rw[g]at e;simp at e)]
 refine M8 (Nb ?_);refine M8 (wpAny_setEpoch_of b G c ?_);unfold newFields;refine M8 (Oh (Nb ⟨_,rfl,"set_iterator",_,⟨_,NE _ rfl,rfl⟩,F2.si_next.lookup,?_⟩));exact h
theorem v8{o:N3}{G:a0y}{t:OM}(hh:A.handled=Na)(R:s.heap.get? a=My o)(B:o.cls= .type "set")(V:o.data= .set G ep t)(T:Tb t hs)(U:t.fits G.size=Nf)(X:t.plain=Nf)(hl:t.led=!(w.params.followText "set-order"))
  (aa:G.size<=1000)
  (hQ:∀S Y x,(∀b o,s.heap.get? b=My o->S.get? b=My o)->s.heap.objs.size<=S.objs.size->s.toks<=Y->x.Perm (G.toList.map (·.2))->Q x {s with heap:=S,toks:=Y}):ND (N0 prog w) A (collect (.ref a)) Q E s:=by
 unfold collect;refine M8 (W5 (TU XH ?_));rw[SC XI _];show ND _ A.in1 (newList []>>=λl=>Vj (.builtin "list.__iadd__" ⟨[l,.ref a],[]⟩)) _ _ s;refine M8 (Oh ?_);refine Nb ⟨Vk Uf _,TU F.entry_list_iadd ?_⟩;rw[SC Uf _];have ha:=NU R;have g:(s.heap.push {cls:= .type "list",data:= .seq ([]:a0g).toArray}).get? a=My o:=Nd _ R;have C:(s.heap.push {cls:= .type "list",data:= .seq ([]:a0g).toArray}).get? s.heap.objs.size=My {cls:= .type "list",data:= .seq ([]:a0g).toArray}:=NE _ rfl;have r:s.heap.objs.size≠a:=Qj ha;have y:Rm (.ref s.heap.objs.size) (.ref a)=Ni:=by simp[Rm,r]
 have H:(⟨s.heap.push {cls:= .type "list",data:= .seq ([]:a0g).toArray},s.gens,s.drawn,s.toks,s.os⟩:Nq).TypeIs (.ref a) "set":=⟨o,g,B⟩;show ND _ A.in1 (QW (.ref s.heap.objs.size) (.ref a) (.ref s.heap.objs.size)) _ _ _;unfold QW;refine M8 (SS H ?_);rw[Nv (by rw[y];decide)];refine M8 (EJ g B V U X ?_);refine M8 (OT ?_);unfold UO;have n:(⟨(s.heap.push {cls:= .type "list",data:= .seq ([]:a0g).toArray}).push {cls:= .type "set_iterator",data:= .fields #[.int (0:Nat) 0,.int (0:Nat) 0,.ref a,.int G.size 0,.int ep 0]},s.gens,s.drawn,s.toks,s.os⟩:Nq).TypeIs (.ref a) "set":=⟨o,Nd _ g,B⟩;refine M8 (QS n F.slot_set_len.lookup ?_)
 (generalize u:("set.__len__":String)=id0;wp_delta;rw[show splitId id0=My ("set","__len__")from by subst u;decide +kernel];subst u)
 refine M8 (PY (b:=Nf) n (by rw[SN];kernel_rfl) ?_);rw[Nv (by decide)];show ND _ _ (if _ then _ else _) _ _ _;rw[Nu (by decide)];refine M8 (SS n ?_);refine Nb ?_;rw[Nu (by decide)];refine M8 (PH ?_);have Z:(s.heap.push {cls:= .type "list",data:= .seq ([]:a0g).toArray}).objs.size=s.heap.objs.size+1:=by rw[size_push']
 generalize h:(s.heap.push {cls:= .type "list",data:= .seq ([]:a0g).toArray}).push {cls:= .type "set_iterator",data:= .fields #[.int (0:Nat) 0,.int (0:Nat) 0,.ref a,.int G.size 0,.int ep 0]}=d;have gS:d.get? s.heap.objs.size=My (Qq "list" #[] 0):=by rw[<-h];exact Nd _ C
 have gI:d.get? (s.heap.objs.size+1)=My {cls:= .type "set_iterator",data:= .fields #[.int (0:Nat) 0,.int (0:Nat) 0,.ref a,.int G.size 0,.int ep 0]}:=by rw[<-h,<-Z];exact NE _ rfl
 have ga:d.get? a=My o:=by rw[<-h];exact Nd _ g
 have p:∀b f,s.heap.get? b=My f->d.get? b=My f:=λb f e=>by rw[<-h];exact Nd _ (Nd _ e)
 unfold Vd;refine M8 (M8 (R9 gS rfl ?_ (by show 0<=_;lia) (by show 1<=_;lia)));obtain⟨e1,g1⟩:∃e1,(d.update s.heap.objs.size (OV λD=>D.push On)).get? s.heap.objs.size=My (Qq "list" #[On] e1):=⟨_,get?_update_seq gS λD=>D.push On⟩;refine R9 g1 rfl ?_ (by show 1<=NN;decide) (by show 0<=_;lia);obtain⟨J,g2⟩:∃J,((d.update s.heap.objs.size (OV λD=>D.push On)).update s.heap.objs.size (OV λD=>D.pop)).get? s.heap.objs.size=My (Qq "list" #[] J):=⟨_,get?_update_seq g1 λD=>D.pop⟩;have c:∀b f,b≠s.heap.objs.size->d.get? b=My f->((d.update s.heap.objs.size (OV λD=>D.push On)).update s.heap.objs.size (OV λD=>D.pop)).get? b=My f:=λb f q e=>by
  rw[PZ _ _ _ _ q,PZ _ _ _ _ q];exact e
 generalize (d.update s.heap.objs.size (OV λD=>D.push On)).update s.heap.objs.size (OV λD=>D.pop)=h4 at g2 c;have L:s.heap.objs.size+1≠a:=Qj (QO ha);have st:R_ w h4 (s.heap.objs.size+1) a G ep t 0:=⟨⟨o,c a o (Ne.symm r) ga,V⟩,_,0,c _ _ (by lia) gI,rfl,rfl,λ_=>by
  have:=jj (j:=0) T.rs;rcases Nat.eq_zero_or_pos (below t.place 0)with z|z
  .exact z
  .have e:=a3a t.place 0 (by lia)
   have:=this.2.1 0 _ z e;lia⟩
 have W:=DK (prog:=prog) (w:=w) (A:=A.in1) (I:=s.heap.objs.size+1) (a:=a) (ep:=ep) hh T U X hl L;show ND _ _ (Vj _) _ _ _;rw[Z];refine Nb ⟨Vk F.plain_extend_loop _,codeAny_extend_loopS W.toS (by rw[Ps];lia) s.heap.objs.size (by simp;lia) _ G.size 0 _ #[] J rfl (OH _) st g2 (ItemsOf.nil _) λK k c' M v m=>?_⟩;show ND _ A (load s.heap.objs.size>>=_) _ _ K;refine M8 (wpAny_load v ?_);refine Nb ?_;have N:K={s with heap:=K.heap,toks:=K.toks}:=by
  have y:=M.gens;have d:=M.drawn;have h3:=M.os;obtain⟨a1,a2,a3,a4,a5⟩:=K;simp only at y d h3;subst y d h3;rfl
 rw[N];refine hQ _ _ _ (λb f e=>?_) (OK (NU v)) M.toks ?_
 .have q:=NU e
  exact M.heap b f (by simp only[NC,O1,RW,Yl];exact⟨Ov q,Ov (QO q)⟩) (c b f (Ov q) (p b f e))
 .refine SD.trans (Xa ?_) ((kE w a ep G).map (·.2))
  have O:(eD w a ep G).size=G.size:=by rw[<-NG,(kE w a ep G).length_eq,NG]
  refine Ry (by rw[NG,M9,NG,O,m.1]) λi q1 q2=>?_;have P:i<k.size:=by simpa using q1
  obtain⟨e,he,hv⟩:=m.2 i _ (a3a k i P);rw[QC,hv,Rz,QC];have:=OA.mp he;obtain⟨z1,z2⟩:=this;rw[z2]
end
end L2.Hs
namespace L2.Hb
section
variable{M:Vh}{A:Ot}{E:a0e}{s:Nq}
structure Cm (M:Vh) (A:Ot) (E:a0e) (s:Nq) (κ:VL) (U:Op->Prop) (rk:a0U):Prop where
 lt:∀{x y:Op} {st:Pe} {Q:a0E->Pe->Prop},U x->U y->kindOf st=κ->Q (My (decide (rk x<rk y))) st->Tk M A E s ((sortPriv% PySem.Builtin.lt) x y) Q st
theorem el{D:Pe}(h:a[i]?=My x)(k:Q x D):Tk M A E s ((sortPriv% PySem.Builtin.elem) a i) Q D:=by
 show Tk M A E s (elem' a i) Q D;rw[elem'_eq,h];exact NZ k
theorem lp{G e:Type}{a b:Nat}{f:Nat->G->StateT Pe WP (ForInStep G)}{g:G->StateT Pe WP e}{Q:e->Pe->Prop}{c:G}{D:Pe}(I:Nat->G->Pe->Prop)(P:G->Pe->Prop)(h:I a c D)
  (K:∀i c D,a<=i->i<b->I i c D->Tk M A E s (f i c) (λr d=>match r with| .done l=>P l d| .yield l=>I (i+1) l d) D) (j:∀c D,I (Wb a b) c D->P c D) (k:∀c D,P c D->Tk M A E s (g c) Q D):Tk M A E s (WW [a:b] c f>>=g) Q D:=
 NY (wpS_mono (wpS_forRange I K j h) k)
variable{κ:VL}{U:Op->Prop}{rk:a0U}
theorem U_{s A f D g:Type}{p:s×A×f×D×g->Prop}(h:∀a b c d e,p (a,b,c,d,e))(c):p c:=h c.1 c.2.1 c.2.2.1 c.2.2.2.1 c.2.2.2.2
theorem T_{s A g D i j:Type}{p:s×A×g×D×i×j->Prop}(h:∀a b c d e f,p (a,b,c,d,e,f)):∀c,p c:=U_ λa b c d e=>h a b c d e.1 e.2
theorem Zc{s A i D j k l:Type}{p:s×A×i×D×j×k×l->Prop}(h:∀a b c d e f g,p (a,b,c,d,e,f,g)):∀c,p c:=T_ λa b c d e f=>h a b c d e f.1 f.2
theorem YE{a b c d p:Prop}(k:a->b->c->d->p)(h:a/\b/\c/\d):p:=k h.1 h.2.1 h.2.2.1 h.2.2.2
theorem YZ{a b c d e f p:Prop}(k:a->b->c->d->e->f->p):a/\b/\c/\d/\e/\f->p:=YE λx y z w=>k x y z w.1 w.2.1 w.2.2
theorem CG(C:Cm M A E s κ U rk){left:Bool}{p:Op}{u:a0v}{D n a:Nat}{G:Pe}{Q:a0K->Pe->Prop}{bey:Nat->Bool}(P:kindOf G=κ)(R:U p)(X:∀i,i<n->∃x,u[D+i]?=My x/\U x/\bey i=if left then decide (rk x<rk p)else !decide (rk p<rk x))(L:∀i j,i<=j->j<n->bey j=Nf->bey i=Nf)(T:a<n)
  (h:∀k,k<=n->(∀i,i<k->bey i=Nf)->(∀i,k<=i->i<n->bey i=Ni)->Q (My k) G):Tk M A E s ((sortPriv% PySem.Builtin.gallop) left p u D n a) Q G:=by
 have N:∀{i:Nat} {Q:a0E->Pe->Prop},i<n->Q (My (bey i)) G->Tk M A E s ((sortPriv% PySem.Builtin.elem) u (D+i)>>=λx=>if left=Nf then(sortPriv% PySem.Builtin.lt) x p else(sortPriv% PySem.Builtin.lt) p x>>=λr=>P3 (r.map λx=>!x)) Q G:=λ{i Q} d k=>by
  obtain⟨x,e,W,Y⟩:=X i d;refine NY (el e ?_);rw[Y]at k;cases left
  .exact NY (C.lt R W P (NZ k))
  .exact C.lt W R P k
 have v:∀i j,i<=j->j<n->bey i=Ni->bey j=Ni:=λi j O Z z=>by
  cases e:bey j
  .rfl
  .rw[L i j O Z e]at z;cases z
 refine NY (N T ?_)
 dsimp -zeta only
 extract_lets F
 have K:∀(x y V d:Nat),V<=d->d<=n->(∀i,i<V->bey i=Nf)->(∀i,d<=i->i<n->bey i=Ni)->Tk M A E s (F () x y V d) Q G:=λ_ _ V d w B H J=>by
  refine lp (λi c b=>G=b/\c.1=Na/\c.2.1<=c.2.2/\c.2.2<=n/\c.2.2-c.2.1+i<=n/\(∀i,i<c.2.1->bey i=Nf)/\∀i,c.2.2<=i->i<n->bey i=Ni) (λc b=>G=b/\c.1=Na/\c.2.2<=n/\(∀i,i<c.2.2->bey i=Nf)/\∀i,c.2.2<=i->i<n->bey i=Ni) ⟨rfl,rfl,w,B,by dsimp only;lia,H,J⟩ ?_ ?_ ?_
  .rintro i ⟨_,l,o⟩ _ _ d ⟨rfl,rfl,m,t,g,f,h5⟩
   dsimp only at*
   by_cases z:l≥o
   .rw[Nu z]
    exact NZ ⟨rfl,rfl,t,λi d=>f i (by dsimp only at d;lia),h5⟩
   .rw[Nv z]
    refine NY (N (by lia) ?_)
    dsimp only
    by_cases y:bey (l+(o-l)/2)=Nf
    .rw[Nu y]
     exact NZ ⟨rfl,rfl,by dsimp only;lia,t,by dsimp only;lia,λi d=>L _ _ (by dsimp only at d;lia) (by lia) y,h5⟩
    .rw[Nv y]
     exact NZ ⟨rfl,rfl,by dsimp only;lia,by dsimp only;lia,by dsimp only;lia,f,λi d S=>v _ _ d S (Sc.mpr y)⟩
  .rintro⟨_,l,o⟩ _ ⟨rfl,rfl,m,t,g,f,h5⟩
   dsimp only at*
   exact⟨rfl,rfl,t,λi d=>f i (by lia),h5⟩
  .rintro⟨_,l,o⟩ _ ⟨rfl,rfl,m,t,g⟩
   exact NZ (h _ m t g)
 clear_value F
 dsimp +zetaDelta only
 let I:Nat->Option a0K×Nat×Nat->Pe->Prop:=λi c b=>G=b/\c.1=Na/\c.2.1<c.2.2/\i<c.2.2
 by_cases q:bey a=Nf;rw[Nu q];refine lp (λi c b=>I i c b/\a+c.2.1<n/\bey (a+c.2.1)=Nf) (λc b=>I 0 c b/\a+c.2.1<n/\bey (a+c.2.1)=Nf/\(n-a<=c.2.2\/bey (a+c.2.2)=Ni)) ⟨⟨rfl,rfl,by decide,by decide⟩,T,q⟩ ?_ ?_ ?_
 .rintro i ⟨_,l,o⟩ _ _ d ⟨⟨rfl,rfl,m,t⟩,g,f⟩
  dsimp only at*
  by_cases z:o≥n-a
  .rw[Nu z]
   exact NZ ⟨⟨rfl,rfl,m,by dsimp only;lia⟩,g,f,.inl z⟩
  .rw[Nv z]
   refine NY (N (by lia) ?_)
   dsimp only
   by_cases y:bey (a+o)=Nf
   .rw[y]
    exact NZ ⟨⟨rfl,rfl,by dsimp only;lia,by dsimp only;lia⟩,by dsimp only;lia,y⟩
   .rw[Sc.mpr y]
    exact NZ ⟨⟨rfl,rfl,m,by dsimp only;lia⟩,g,f,.inr (Sc.mpr y)⟩
 .rintro⟨_,l,o⟩ _ ⟨⟨rfl,rfl,m,t⟩,g,f⟩
  dsimp only at*
  exact⟨⟨rfl,rfl,m,by dsimp only;lia⟩,g,f,.inl (by lia)⟩
 rintro⟨_,l,o⟩ _ ⟨⟨rfl,rfl,m,_⟩,g,f,h5⟩
 dsimp only at*
 have w:a+l+1<=a+QN o (n-a):=by lia
 have B:a+QN o (n-a)<=n:=by lia
 have H:∀i,i<a+l+1->bey i=Nf:=λi d=>L i (a+l) (by lia) g f;have J:∀i,a+QN o (n-a)<=i->i<n->bey i=Ni:=λi d S=>by
  rcases h5 with h5|h5
  .lia
  .exact v _ _ (by lia) S h5
 exact K _ _ _ _ w B H J;rw[Nv q];have q:=Sc.mpr q;refine lp (λi c b=>I i c b/\c.2.1<=a/\bey (a-c.2.1)=Ni) (λc b=>I 0 c b/\c.2.1<=a/\bey (a-c.2.1)=Ni/\(a+1<=c.2.2\/bey (a-c.2.2)=Nf)) ⟨⟨rfl,rfl,by decide,by decide⟩,OH _,q⟩ ?_ ?_ ?_
 .rintro i ⟨_,l,o⟩ _ _ d ⟨⟨rfl,rfl,m,t⟩,g,f⟩
  dsimp only at*
  by_cases z:o≥a+1
  .rw[Nu z]
   exact NZ ⟨⟨rfl,rfl,m,by dsimp only;lia⟩,g,f,.inl z⟩
  .rw[Nv z]
   refine NY (N (by lia) ?_)
   dsimp only
   by_cases y:bey (a-o)=Nf
   .rw[Nu y]
    exact NZ ⟨⟨rfl,rfl,m,by dsimp only;lia⟩,g,f,.inr y⟩
   .rw[Nv y]
    exact NZ ⟨⟨rfl,rfl,by dsimp only;lia,by dsimp only;lia⟩,by dsimp only;lia,Sc.mpr y⟩
 .rintro⟨_,l,o⟩ _ ⟨⟨rfl,rfl,m,t⟩,g,f⟩
  dsimp only at*
  exact⟨⟨rfl,rfl,m,by dsimp only;lia⟩,g,f,.inl (by lia)⟩
 rintro⟨_,l,o⟩ _ ⟨⟨rfl,rfl,m,_⟩,g,f,h5⟩
 dsimp only at*
 have w:a+1-QN o (a+1)<=a-l:=by lia
 have B:a-l<=n:=by lia
 have H:∀i,i<a+1-QN o (a+1)->bey i=Nf:=λi d=>by
  rcases h5 with h5|h5
  .lia
  .exact L _ _ (by lia) (by lia) h5
 have J:∀i,a-l<=i->i<n->bey i=Ni:=λi d S=>v _ _ d S f;exact K _ _ _ _ w B H J
end
section
variable{M:Vh}{A:Ot}{E:a0e}{s:Nq}{κ:VL}{U:Op->Prop}{rk:a0U}
abbrev Sd(rk:a0U)(l:a0A):Prop:=l.Pairwise λx y=>rk x<rk y
theorem lv{xs:a0v}{D:Pe}(h:xs.toList[i]?=My x)(k:Q x D):Tk M A E s ((sortPriv% PySem.Builtin.elem) xs i) Q D:=el (by rw[<-Ox];exact h) k
theorem Zq(C:Cm M A E s κ U rk){left:Bool}{a:a0v}{D:Pe}{L:a0A}(g:(a.toList.drop y).take n=L)(v:SW L=n)(m:kindOf D=κ)(o:U key)(f:∀x∈L,U x/\rk x≠rk key)(S:Sd rk L)(p:hint<n)
  (h:∀k,k<=n->(∀x∈L.take k,rk x<rk key)->(∀x∈L.drop k,rk key<rk x)->Q (My k) D):Tk M A E s ((sortPriv% PySem.Builtin.gallop) left key a y n hint) Q D:=by
 have G:∀i (b:i<n),a[y+i]?=My (L[i]'(by lia)):=λi b=>by
  rw[<-Ox,<-Q3,<-Ng (l:=L) (by lia),<-g,RX,Nu b]
 refine CG C (bey:=λi=>if z:i<SW L then decide (rk L[i]<rk key)else Ni) m o (λi b=>?_) (λi j c w e=>?_) p λk d r t=>h k d (λx K=>?_) λx K=>?_
 .have z:i<SW L:=by lia
  obtain⟨u,V⟩:=f _ (OG z);refine⟨L[i],G i b,u,?_⟩;rw[Wl z];cases left
  .by_cases q:rk L[i]<rk key
   .rw[NF q,Oo (by lia)];rfl
   .rw[Oo q,NF (by lia)];rfl
  .rfl
 .rw[Wl (by lia)]at e⊢
  have e:=OR e;rcases Nat.lt_or_eq_of_le c with q|rfl
  .have:=RE.mp S i j (by lia) (by lia) q
   exact NF (by lia)
  .exact NF e
 .obtain⟨i,b,rfl⟩:=V3.mp K
  have:=r i (by lia);rw[Wl (by lia)]at this;exact OR this
 .obtain⟨i,b,rfl⟩:=List.mem_drop_iff_getElem.mp K
  have:=t (k+i) (by lia) (by lia);rw[Wl (by lia)]at this;have:=W0 this;have:=(f (L[k+i]'(by lia)) (OG _)).2;lia
structure Iv (rk:a0U) (X Y O:a0A) (i j:Nat):Prop where
 pm:O.Perm (X.take i++Y.take j)
 sx:Sd rk (O++X.drop i)
 sy:Sd rk (O++Y.drop j)
variable{X Y O:a0A}{i j k:Nat}{x:Op}
theorem Iv.sw(h:Iv rk X Y O i j):Iv rk Y X O j i:=⟨h.pm.trans Qa,h.sy,h.sx⟩
theorem Iv.ad(h:Iv rk X Y O i j)(D:∀x∈(X.drop i).take k,∀y∈Y.drop j,rk x<rk y):Iv rk X Y (O++(X.drop i).take k) (i+k) j:=by
 have e:O++X.drop i=O++(X.drop i).take k++X.drop (i+k):=by rw[Ny,<-UD,N7]
 have s:=h.sx;rw[e]at s;refine⟨?_,s,?_⟩
 .rw[List.take_add]
  refine(h.pm.append_right _).trans ?_;rw[Ny,Ny];exact Qa.append_left _
 .obtain⟨c,a,b⟩:=Oe.mp h.sy
  refine Oe.mpr ⟨(Oe.mp s).1,a,λx hx y A=>?_⟩;rcases N4.mp hx with hx|hx
  .exact b x hx y A
  .exact D x hx y A
theorem YX(h:X[i]?=My x):X.drop i=x::X.drop (i+1):=by
 obtain⟨a,e⟩:=Nn.mp h;rw[Os a,e]
theorem Iv.px(h:Iv rk X Y O i j)(s:X[i]?=My x)(A:∀y∈Y.drop j,rk x<rk y):Iv rk X Y (O++[x]) (i+1) j:=by
 have e:(X.drop i).take 1=[x]:=by rw[YX s];rfl
 have:=h.ad (k:=1) λz a y D=>by
  rw[e]at a;cases NT.mp a;exact A y D
 rw[e]at this;exact this
theorem Sd.hd(s:Sd rk X)(h:X[i]?=My x)(j:n<=rk x):∀y∈X.drop i,n<=rk y:=λy hy=>by
 rw[YX h]at hy;have s:=s.drop (i:=i);rw[YX h]at s;rcases NC.mp hy with rfl|hy
 .exact j
 .have:=V4 s hy
  lia
def Rs(rk:a0U)(X Y R:a0A):Prop:=R.Perm (X++Y)/\Sd rk R
theorem Iv.all(h:Iv rk X Y O i j):(O++X.drop i++Y.drop j).Perm (X++Y):=by
 refine((h.pm.append_right _).append_right _).trans ?_;rw[Ny (X.take i)];refine((Qa.append_left _).append_right _).trans ?_;rw[<-Ny,N7,Ny,N7]
theorem Iv.done(h:Iv rk X Y O i j)(e:j=SW Y\/i=SW X):Rs rk X Y (O++X.drop i++Y.drop j):=by
 refine⟨h.all,?_⟩
 .rcases e with rfl|rfl
  .rw[PR,Ob];exact h.sx
  .rw[PR,Ob];exact h.sy
theorem Iv.last(h:Iv rk X Y O i j)(s:X[i]?=My x)(e:i+1=SW X)(A:∀y∈Y,rk y<rk x):Rs rk X Y (O++Y.drop j++X.drop i):=by
 have k:X.drop i=[x]:=by rw[YX s,e,PR]
 refine⟨?_,?_⟩
 .refine SD.trans ?_ h.all
  rw[Ny,Ny];exact Qa.append_left _
 .rw[k]
  refine Oe.mpr ⟨h.sy,OW _ _,λy hy z a=>?_⟩;cases NT.mp a;rcases N4.mp hy with hy|hy
  .exact(Oe.mp h.sx).2.2 y hy x (by rw[k];exact R3 _)
  .exact A y (QJ hy)
abbrev sG(i:Pe)(g:Nat):Pe:=Ui (kindOf i) (Qp i) (O5 i) g (Tw i)
theorem qU(a:a0v)(i k:Nat):(a.extract i k).toList=(a.toList.drop i).take (k-i):=by
 rw[WG]
theorem KA(a:a0v)(i:Nat):(a.extract i).toList=a.toList.drop i:=by
 rw[qU,OJ (by rw[Pm,NG];exact No _)]
theorem KG(o a b:a0v)(i j:Nat):(o++a.extract i++b.extract j).toList=o.toList++a.toList.drop i++b.toList.drop j:=by rw[Qn,Qn,KA,KA]
section
variable{p l d:Type}{c:Prop} [Decidable c]{m n:StateT Pe WP p}{Q:p->Pe->Prop}{j:Pe}
theorem wC(a:c->Tk M A E s m Q j)(b:¬c->Tk M A E s n Q j):Tk M A E s (if c then m else n) Q j:=by
 split
 .exact a ‹_›
 .exact b ‹_›
theorem wT(h:c)(k:Tk M A E s m Q j):Tk M A E s (if c then m else n) Q j:=wC (λ_=>k) λz=>NW h z
theorem wF(h:¬c)(k:Tk M A E s n Q j):Tk M A E s (if c then m else n) Q j:=wC (λz=>NW z h) λ_=>k
theorem H_(a:Tk M A E s m Q j)(b:Tk M A E s n Q j):Tk M A E s (if c then m else n) Q j:=wC (λ_=>a) λ_=>b
theorem wD(a:c->Tk M A E s m Q j)(b:¬c->Tk M A E s n Q j):Tk M A E s (if decide c=Nf then m else n) Q j:=wC (λh=>a (OR h)) λh=>b λz=>h (NF z)
theorem wE{x y:Nat}(a:x=y->Tk M A E s m Q j)(b:x≠y->Tk M A E s n Q j):Tk M A E s (if(x==y)=Nf then m else n) Q j:=wC (λh=>a (beq_iff_eq.mp h)) λh=>b λz=>h (beq_iff_eq.mpr z)
theorem i2{F:l->StateT Pe WP p}(x y:l)(e:m=F x)(h:∀y,Tk M A E s (F y) Q j):Tk M A E s (if c then m else F y) Q j:=H_ (e▸h x) (h y)
theorem jn{F:l->d->StateT Pe WP p}(o:l)(i:d)(V:l->d->Prop)(h:∀o i,V o i->Tk M A E s (F o i) Q j)(a:c->(∀o i,V o i->Tk M A E s (F o i) Q j)->Tk M A E s m Q j)(b:¬c->V o i):Tk M A E s (if c then m else F o i) Q j:=wC (λq=>a q h) λq=>h _ _ (b q)
theorem jx(F:Unit->l->d->StateT Pe WP p)(V:l->d->Prop)(h:∀o i,V o i->Tk M A E s (F () o i) Q j)(k:(∀o i,V o i->Tk M A E s (F () o i) Q j)->Tk M A E s m Q j):Tk M A E s m Q j:=k h
theorem l0{c:l}(I:Nat->l->Pe->Prop)(P:l->Pe->Prop)(h:I 0 c j)
  (m:∀i c j,i<b->I i c j->Tk M A E s (f i c) (λr a=>match r with| .done e=>P e a| .yield e=>I (i+1) e a) j) (d:∀c j,I b c j->P c j) (k:∀c j,P c j->Tk M A E s (g c) Q j):Tk M A E s (WW [0:b] c f>>=g) Q j:=
 lp I P h (λi c j _=>m i c j) (λc j z=>d c j (by rw[Nat.zero_max]at z;exact z)) k
end
structure Mc (U:Op->Prop) (rk:a0U) (a b:a0v) (x y:Op):Prop where
 ua:∀x∈a.toList,U x
 ub:∀y∈b.toList,U y
 sa:Sd rk a.toList
 sb:Sd rk b.toList
 ne:∀x∈a.toList,∀y∈b.toList,rk x≠rk y
 hx:a.toList[a.size-1]?=My x
 hy:b.toList[0]?=My y
 lx:∀y∈b.toList,rk y<rk x
 ly:∀x∈a.toList,rk y<rk x
theorem PJ{a:a0v}{i:Nat}(h:i<a.size):∃x,a.toList[i]?=My x/\x∈a.toList:=⟨_,Ng (by rw[NG];exact h),OG _⟩
section
variable{a b o:a0v}{x0 y0:Op}
def Go(rk:a0U)(a b:a0v)(n:Nat)(r:Option a0v)(o:a0v)(i j:Nat):Prop:=match r with
 |some R=>Rs rk a.toList b.toList R.toList
 |none=>Iv rk a.toList b.toList o.toList i j/\i+1<a.size/\j<b.size/\n<=i+j
theorem Iv.dn(v:Iv rk a.toList b.toList o.toList i j)(e:j=b.size\/i=a.size):Rs rk a.toList b.toList (o++a.extract i++b.extract j).toList:=by
 rw[KG];exact v.done (by rw[NG,NG];exact e)
theorem Mc.last(m:Mc U rk a b x0 y0)(v:Iv rk a.toList b.toList o.toList i j)(e:i+1=a.size):Rs rk a.toList b.toList (o++b.extract j++a.extract i).toList:=by
 rw[KG];exact v.last (x:=x0) (by rw[<-m.hx,<-e];rfl) (by rw[NG];exact e) m.lx
theorem Iv.pa(v:Iv rk a.toList b.toList o.toList i j)(k:a.toList[i]?=My x)(s:∀y∈b.toList.drop j,rk x<rk y):Iv rk a.toList b.toList (o.push x).toList (i+1) j:=by
 rw[R8];exact v.px k s
theorem Iv.ca(v:Iv rk a.toList b.toList o.toList i j)(s:∀x∈(a.toList.drop i).take k,∀y∈b.toList.drop j,rk x<rk y):Iv rk a.toList b.toList (o++a.extract i (i+k)).toList (i+k) j:=by
 rw[Qn,qU,PV];exact v.ad s
theorem Ks(C:Cm M A E s κ U rk){left:Bool}{b:Pe}(m:i<a.size)(e:kindOf b=κ)(f:U key)(j:∀x∈a.toList,U x)(o:∀x∈a.toList,rk x≠rk key)(D:Sd rk a.toList)
  (h:∀k,i+k<=a.size->(∀x∈(a.toList.drop i).take k,rk x<rk key)->(∀x∈a.toList.drop (i+k),rk key<rk x)->Q (My k) b):Tk M A E s ((sortPriv% PySem.Builtin.gallop) left key a i (a.size-i) 0) Q b:=by
 have l:SW (a.toList.drop i)=a.size-i:=by rw[Pm,NG]
 refine Zq C (OJ (WL l)) l e f (λz c=>⟨j z (QJ c),o z (QJ c)⟩) D.drop (by lia) λk n g d=>h k (by lia) g ?_;rw[UD]at d;exact d
theorem sA{n i j:Nat}(h:n<=i+j):n+1<=i+1+j:=by lia
theorem sK{n i j k:Nat}(h:n<=i+j):n<=i+k+j:=by lia
theorem sL{n k i:Nat}(h:i+k<=n)(c:i+k+1≠n)(d:i+k≠n):i+k+1<n:=by lia
theorem k0{k:Nat}(h:¬k>0):k=0:=by lia
theorem mlo(C:Cm M A E s κ U rk)(m:Mc U rk a b x0 y0){D:Pe}(hk:kindOf D=κ)(h:∀(R:a0v) (g:Nat),Rs rk a.toList b.toList R.toList->Q R (sG D g)):Tk M A E s ((sortPriv% PySem.Builtin.mergeLo) a b) Q D:=by
 refine NY (U3 (PH ⟨rfl,NY (lv m.hy ?_)⟩));have v:Iv rk a.toList b.toList #[y0].toList 0 1:=(Iv.px (rk:=rk) (X:=b.toList) (Y:=a.toList) (O:=[]) (i:=0) (j:=0) ⟨.refl _,m.sb,m.sa⟩ m.hy m.ly).sw;have b1:=(Nn.mp m.hy).1;have a1:=(Nn.mp m.hx).1;rw[NG]at a1 b1;refine wE (λe=>NZ (h _ (UY D) (v.dn (.inl e)))) λq1=>wE (λe=>NZ (h _ (UY D) (m.last v e))) λq2=>NY (Us ?_);refine l0 (λn c d=>(∃g,sG D g=d)/\c.1=Na/\Go rk a b (n+1) c.1 c.2.1 c.2.2.1 c.2.2.2.1) (λc d=>(∃g,sG D g=d)/\∃R,c.1=My R/\Rs rk a.toList b.toList R.toList) ⟨⟨UY D,rfl⟩,rfl,v,OI (Oj (OH _) a1) q2,OI b1 q1,No _⟩ ?_ ?_ ?_
 .intro n
  refine U_ ?_;rintro _ o i j S _ hn ⟨⟨g,rfl⟩,rfl,B⟩
  refine YE (λv f l u=>?_) B;refine l0 (λt c d=>sG D g=d/\c.1=Na/\Go rk a b (n+1+t) c.1 c.2.1 c.2.2.1 c.2.2.2.1) (λc d=>sG D g=d/\Go rk a b (n+1+1) c.1 c.2.1 c.2.2.1 c.2.2.2.1) ⟨rfl,rfl,v,f,l,u⟩ ?_ ?_ ?_
  .intro t
   refine T_ ?_;rintro _ o i j T W _ ht ⟨rfl,rfl,B⟩
   refine YE (λv f l u=>?_) B;obtain⟨x,G,J⟩:=PJ (Ph f);obtain⟨y,F,L⟩:=PJ l;have h4:n+1<=i+j:=NK (Pp _ t) u;refine NY (lv F (NY (lv G (NY (C.lt (m.ub y L) (m.ua x J) hk (wD (λq=>NY (lv F ?_)) λq=>NY (lv G ?_)))))))
   .have H:=(Iv.pa (Iv.sw v) F (m.sa.hd G q)).sw
    exact wE (λe=>NZ ⟨rfl,H.dn (.inl e)⟩) λq=>H_ (NZ ⟨rfl,H,f,OI l q,QY h4⟩) (NZ ⟨rfl,rfl,H,f,OI l q,QY u⟩)
   .have H:=Iv.pa v G (m.sb.hd F (OI (RF q) (m.ne x J y L)))
    exact wE (λe=>NZ ⟨rfl,m.last H e⟩) λq=>H_ (NZ ⟨rfl,H,OI f q,l,sA h4⟩) (NZ ⟨rfl,rfl,H,OI f q,l,sA u⟩)
  .refine T_ ?_
   rintro _ o i j T W _ ⟨rfl,rfl,B⟩
   refine YE (λv f l u=>?_) B;exact⟨rfl,v,f,l,NK (Tp (Oj (OH _) hn) _) u⟩
  refine T_ ?_;rintro r o i j T W _ ⟨rfl,N⟩;cases r with
  |some R=>exact NZ ⟨⟨g,rfl⟩,R,rfl,N⟩
  |none=>?_
  refine NY (U3 (PH ⟨rfl,l0 (λt c d=>(∃g,sG D g=d)/\c.1=Na/\Go rk a b (n+1+1) c.1 c.2.1 c.2.2.1 c.2.2.2.1) (λc d=>(∃g,sG D g=d)/\Go rk a b (n+1+1) c.1 c.2.1 c.2.2.1 c.2.2.2.1) ⟨⟨g,rfl⟩,rfl,N⟩ ?_ (λc D z=>⟨z.1,z.2.2⟩) ?_⟩))
  .intro t
   refine Zc ?_;rintro _ o i j S T W _ ht ⟨⟨g,rfl⟩,rfl,B⟩
   refine YE (λv f l u=>?_) B;obtain⟨y,F,L⟩:=PJ l;apply i2 (S-1) S
   .rfl
   intro p;refine NY (Sw (NY (lv F (NY (Ks C (i:=i) (Ph f) hk (m.ub y L) m.ua (λz I=>m.ne z I y L) m.sa λk Z g1 V=>?_)))));apply jn o i (λo i=>Iv rk a.toList b.toList o.toList i j/\(∀x∈a.toList.drop i,rk y<rk x)/\i+1<a.size/\n+1+1<=i+j)
   .rintro o i ⟨v,V,f,u⟩
    refine NY (lv F ?_);have v:=(Iv.pa (Iv.sw v) F V).sw;refine wE (λe=>NZ ⟨⟨_,rfl⟩,v.dn (.inl e)⟩) λq3=>?_;have l2:j+1<b.size:=OI l q3;have l3:n+1+1<=i+(j+1):=Nat.le_succ_of_le u;obtain⟨x,G,J⟩:=PJ (Ph f);refine NY (lv G (NY (Ks C (i:=j+1) l2 hk (m.ua x J) m.ub (λz I=>(m.ne x J z I).symm) m.sb λk Z g3 P=>?_)));show Tk M A E s (if k>0 then _ else _) _ _;generalize o.push y=o at v⊢;generalize j+1=j at v g3 P Z l2 l3⊢;apply jn o j (λo j=>Iv rk a.toList b.toList o.toList i j/\(∀z∈b.toList.drop j,rk x<rk z)/\j<b.size/\n+1+1<=i+j)
    .rintro o j ⟨v,P,l,u⟩
     refine NY (lv G ?_);have v:=Iv.pa v G P;exact wE (λe=>NZ ⟨⟨_,rfl⟩,m.last v e⟩) λq=>H_ (NZ ⟨⟨_,rfl⟩,v,OI f q,l,Nat.le_of_succ_le (sA u)⟩) (NZ ⟨⟨_,rfl⟩,rfl,v,OI f q,l,Nat.le_of_succ_le (sA u)⟩)
    .intro q K
     have w:=(Iv.ca (Iv.sw v) λz I w hw=>NP (g3 z I) (m.sa.hd G (No _) w hw)).sw;exact wE (λe=>NZ ⟨⟨_,rfl⟩,w.dn (.inl e)⟩) λq=>K _ _ ⟨w,P,OI Z q,NK l3 (Tp (Pp _ _) _)⟩
    .intro q
     cases k0 q;exact⟨v,P,l2,l3⟩
   .intro q K
    have w:=Iv.ca v λz I w hw=>NP (g1 z I) (m.sb.hd F (No _) w hw);exact wE (λe=>NZ ⟨⟨_,rfl⟩,m.last w e⟩) λq3=>wE (λe=>NZ ⟨⟨_,rfl⟩,w.dn (.inr e)⟩) λq4=>K _ _ ⟨w,V,sL Z q3 q4,sK u⟩
   .intro q
    cases k0 q;exact⟨v,V,f,u⟩
  refine Zc ?_;rintro r o i j S T W _ ⟨⟨g,rfl⟩,N⟩;cases r with
  |some R=>exact NZ ⟨⟨g,rfl⟩,R,rfl,N⟩
  |none=>exact NY (Sw (NZ ⟨⟨_,rfl⟩,rfl,N⟩))
 .refine U_ ?_
  rintro _ o i j S _ ⟨⟨g,rfl⟩,rfl,B⟩
  refine YE (λv f l u=>?_) B;exact NW u (Nat.not_le_of_lt (QO (Nat.add_lt_add (Ph f) l)))
 .refine U_ ?_
  rintro _ o i j S _ ⟨⟨g,rfl⟩,R,rfl,hR⟩;exact NZ (h R g hR)
end
end
section
variable{M:Vh}{A:Ot}{E:a0e}{s:Nq}{κ:VL}{U:Op->Prop}{rk:a0U}
structure Jv (rk:a0U) (X Y O:a0A) (i j:Nat):Prop where
 pm:O.Perm (X.drop i++Y.drop j)
 sx:Sd rk (X.take i++O)
 sy:Sd rk (Y.take j++O)
variable{X Y O:a0A}{i j k:Nat}{x:Op}
theorem Jv.sw(h:Jv rk X Y O i j):Jv rk Y X O j i:=⟨h.pm.trans Qa,h.sy,h.sx⟩
theorem Jv.ad(h:Jv rk X Y O i j)(f:i<=SW X)(a:k<=i)(D:∀x∈(X.take i).drop k,∀y∈Y.take j,rk y<rk x):Jv rk X Y ((X.take i).drop k++O) k j:=by
 have e:X.take i++O=X.take k++((X.take i).drop k++O):=by
  rw[<-Ny];have:=N7 k (X.take i);rw[UE,Qo a]at this;rw[this]
 have s:=h.sx;rw[e]at s;refine⟨?_,s,?_⟩
 .have b:X.drop k=(X.take i).drop k++X.drop i:=by
   conv=>lhs;rw[<-N7 i X]
   rw[SV (by rw[N8];lia)]
  rw[b,Ny];exact h.pm.append_left _
 .obtain⟨c,g,d⟩:=Oe.mp h.sy
  refine Oe.mpr ⟨c,(Oe.mp s).2.1,λy A x hx=>?_⟩;rcases N4.mp hx with hx|hx
  .exact D x hx y A
  .exact d y A x hx
theorem zx(h:X[i]?=My x):X.take (i+1)=X.take i++[x]:=by rw[T4,h];rfl
theorem Jv.px(h:Jv rk X Y O (i+1) j)(s:X[i]?=My x)(A:∀y∈Y.take j,rk y<rk x):Jv rk X Y (x::O) i j:=by
 have b:=(Nn.mp s).1;have e:(X.take (i+1)).drop i=[x]:=by
  rw[zx s,SV (by rw[N8];lia),WA (by rw[N8];lia)];rfl
 have:=h.ad (k:=i) (by lia) (by lia) λz a y D=>by
  rw[e]at a;cases NT.mp a;exact A y D
 rw[e]at this;exact this
theorem Sd.tl(s:Sd rk X)(h:X[i]?=My x)(j:rk x<=n):∀y∈X.take (i+1),rk y<=n:=λy hy=>by
 rw[zx h]at hy;have s:=s.take (i:=i+1);rw[zx h]at s;rcases N4.mp hy with hy|hy
 .have:=(Oe.mp s).2.2 y hy x (R3 _)
  lia
 .cases NT.mp hy
  exact j
theorem Jv.all(h:Jv rk X Y O i j):(X.take i++Y.take j++O).Perm (X++Y):=by
 refine(h.pm.append_left _).trans ?_;rw[Ny,<-Ny (Y.take j)];refine((Qa.append_right _).append_left _).trans ?_;rw[Ny,<-Ny,N7,N7]
theorem Jv.done(h:Jv rk X Y O i j)(e:j=0\/i=0):Rs rk X Y (X.take i++Y.take j++O):=by
 refine⟨h.all,?_⟩;rcases e with rfl|rfl
 .rw[Sf,Ob];exact h.sx
 .rw[Sf,Ql];exact h.sy
theorem Jv.fst(h:Jv rk X Y O i 1)(hy:Y[0]?=My x)(j:∀y∈X,rk x<rk y):Rs rk X Y (Y.take 1++X.take i++O):=by
 have a:Y.take 1=[x]:=by rw[zx (i:=0) hy];rfl
 refine⟨(Qa.append_right _).trans h.all,?_⟩;rw[a,Ny];refine Oe.mpr ⟨OW _ _,h.sx,λz b y hy=>?_⟩;cases NT.mp b;rcases N4.mp hy with hy|hy
 .exact j y (O8 hy)
 .exact(Oe.mp h.sy).2.2 x (by rw[a];exact R3 _) y hy
theorem KC(a:a0v)(i:Nat):(a.extract 0 i).toList=a.toList.take i:=by rw[qU];rfl
theorem KJ(o a b:a0v)(i j:Nat):(a.extract 0 i++b.extract 0 j++o.reverse).toList=a.toList.take i++b.toList.take j++o.toList.reverse:=by rw[Qn,Qn,KC,KC,WH]
section
variable{a b o:a0v}{X Y:Op}
def Gh(rk:a0U)(a b:a0v)(n:Nat)(r:Option a0v)(o:a0v)(i j:Nat):Prop:=match r with
 |some R=>Rs rk a.toList b.toList R.toList
 |none=>Jv rk a.toList b.toList o.toList.reverse i j/\0<i/\i<=a.size/\1<j/\j<=b.size/\i+j+n<=a.size+b.size
theorem Jv.dn(v:Jv rk a.toList b.toList o.toList.reverse i j)(e:j=0\/i=0):Rs rk a.toList b.toList (a.extract 0 i++b.extract 0 j++o.reverse).toList:=by
 rw[KJ];exact v.done e
theorem Mc.fst(m:Mc U rk a b X Y)(v:Jv rk a.toList b.toList o.toList.reverse i j)(e:j=1):Rs rk a.toList b.toList (b.extract 0 j++a.extract 0 i++o.reverse).toList:=by
 subst e;rw[KJ];exact v.fst m.hy m.ly
theorem Jv.pa(v:Jv rk a.toList b.toList o.toList.reverse (i+1) j)(k:a.toList[i]?=My x)(s:∀y∈b.toList.take j,rk y<rk x):Jv rk a.toList b.toList (o.push x).toList.reverse i j:=by
 rw[R8,S9];exact v.px k s
theorem Jv.ca(v:Jv rk a.toList b.toList o.toList.reverse i j)(c:i<=a.size)(d:k<=i)(s:∀x∈(a.toList.take i).drop k,∀y∈b.toList.take j,rk y<rk x):Jv rk a.toList b.toList (o++(a.extract k i).reverse).toList.reverse k j:=by
 rw[Qn,S9,WH,List.reverse_reverse,qU,<-List.drop_take];exact v.ad (by rw[NG];exact c) d s
theorem Kr(C:Cm M A E s κ U rk){left:Bool}{b:Pe}(m:0<i)(n:i<=a.size)(f:kindOf b=κ)(g:U key)(j:∀x∈a.toList,U x)(o:∀x∈a.toList,rk x≠rk key)(D:Sd rk a.toList)
  (h:∀k,k<=i->(∀x∈a.toList.take k,rk x<rk key)->(∀x∈(a.toList.take i).drop k,rk key<rk x)->Q (My k) b):Tk M A E s ((sortPriv% PySem.Builtin.gallop) left key a 0 i (i-1)) Q b:=by
 refine Zq C (L:=a.toList.take i) rfl (by rw[N8,NG];lia) f g (λz c=>⟨j z (O8 c),o z (O8 c)⟩) D.take (by lia) λk d e l=>h k d ?_ l;rw[UE,Qo d]at e;exact e
theorem t1{i j m N:Nat}(h:i+1+j+m<=N):i+j+(m+1)<=N:=by lia
theorem t2{i j m N:Nat}(h:i+(j+1)+m<=N):i+j+(m+1)<=N:=by lia
theorem t3{i m N:Nat}(t:Nat)(h:i+(m+t)<=N):i+m<=N:=by lia
theorem t4{i j k m N:Nat}(h:i+j+m<=N)(l:k<=i):k+j+m<=N:=by lia
theorem t5{i j k m N:Nat}(h:i+j+m<=N)(l:k<=j):i+k+m<=N:=by lia
theorem t6{j:Nat}(h:1<j+1)(q:j≠1):1<j:=by lia
theorem t7{k i:Nat}(h:¬i-k>0)(l:k<=i):k=i:=by lia
theorem t8{k:Nat}(h:k≠1)(l:k≠0):1<k:=by lia
theorem mhi(C:Cm M A E s κ U rk)(m:Mc U rk a b X Y){D:Pe}(hk:kindOf D=κ)(h:∀(R:a0v) (g:Nat),Rs rk a.toList b.toList R.toList->Q R (sG D g)):Tk M A E s ((sortPriv% PySem.Builtin.mergeHi) a b) Q D:=by
 refine NY (U3 (PH ⟨rfl,NY (lv m.hx ?_)⟩));have b1:=(Nn.mp m.hy).1;have a1:=(Nn.mp m.hx).1;rw[NG]at a1 b1;have v:Jv rk a.toList b.toList #[X].toList.reverse (a.size-1) b.size:=by
  refine Jv.px (O:=[]) ?_ m.hx λy hy=>m.lx y (O8 hy);rw[show a.size-1+1=SW a.toList by rw[NG];lia,<-NG];refine⟨?_,?_,?_⟩
  .rw[PR,PR];exact .refl _
  .rw[OS,Ob];exact m.sa
  .rw[OS,Ob];exact m.sb
 have i0:a.size-1+b.size+1<=a.size+b.size:=by lia
 refine wE (λe=>NZ (h _ (UY D) (v.dn (.inr e)))) λq1=>wE (λe=>NZ (h _ (UY D) (m.fst v e))) λq2=>NY (Us ?_);refine l0 (λn c d=>(∃g,sG D g=d)/\c.1=Na/\Gh rk a b (n+1) c.1 c.2.2.2.1 c.2.1 c.2.2.1) (λc d=>(∃g,sG D g=d)/\∃R,c.1=My R/\Rs rk a.toList b.toList R.toList) ⟨⟨UY D,rfl⟩,rfl,v,Qh q1,V8 _ _,t8 q2 (Qj b1),No _,i0⟩ ?_ ?_ ?_
 .intro n
  refine U_ ?_;rintro _ i j o S _ hn ⟨⟨g,rfl⟩,rfl,J⟩
  revert J
  refine YZ λv H l B u f=>?_;refine l0 (λt c d=>sG D g=d/\c.1=Na/\Gh rk a b (n+1+t) c.1 c.2.2.2.1 c.2.1 c.2.2.1) (λc d=>sG D g=d/\Gh rk a b (n+1+1) c.1 c.2.2.2.1 c.2.1 c.2.2.1) ⟨rfl,rfl,v,H,l,B,u,f⟩ ?_ ?_ ?_
  .intro t
   refine T_ ?_;rintro _ i j o T W _ ht ⟨rfl,rfl,J⟩
   revert J
   refine YZ λv H l B u f=>?_;obtain⟨i,rfl⟩:∃p,i=p+1:=⟨i-1,(R6 H).symm⟩;obtain⟨j,rfl⟩:∃p,j=p+1:=⟨j-1,(R6 (OK B)).symm⟩;obtain⟨x,G,Z⟩:=PJ l;obtain⟨y,L,V⟩:=PJ u;refine NY (lv L (NY (lv G (NY (C.lt (m.ub y V) (m.ua x Z) hk (wD (λq=>NY (lv G ?_)) λq=>NY (lv L ?_)))))))
   .have P:=Jv.pa v G λz I=>Oj (m.sb.tl L (No _) z I) q
    exact wE (λe=>NZ ⟨rfl,P.dn (.inr e)⟩) λq=>H_ (NZ ⟨rfl,P,Qh q,OK l,B,u,t1 (t3 t f)⟩) (NZ ⟨rfl,rfl,P,Qh q,OK l,B,u,t1 f⟩)
   .have P:=(Jv.pa (Jv.sw v) L λz I=>Oj (m.sa.tl G (No _) z I) (OI (RF q) (m.ne x Z y V))).sw
    exact wE (λe=>NZ ⟨rfl,m.fst P e⟩) λq=>H_ (NZ ⟨rfl,P,H,l,t6 B q,OK u,t2 (t3 t f)⟩) (NZ ⟨rfl,rfl,P,H,l,t6 B q,OK u,t2 f⟩)
  .refine T_ ?_
   rintro _ i j o T W _ ⟨rfl,rfl,J⟩
   revert J
   refine YZ λv H l B u f=>?_;exact NW f (by dsimp only at*;lia)
  refine T_ ?_;rintro r i j o T W _ ⟨rfl,hg⟩;cases r with
  |some R=>exact NZ ⟨⟨g,rfl⟩,R,rfl,hg⟩
  |none=>?_
  refine NY (U3 (PH ⟨rfl,l0 (λt c d=>(∃g,sG D g=d)/\c.1=Na/\Gh rk a b (n+1+1) c.1 c.2.2.2.1 c.2.1 c.2.2.1) (λc d=>(∃g,sG D g=d)/\Gh rk a b (n+1+1) c.1 c.2.2.2.1 c.2.1 c.2.2.1) ⟨⟨g,rfl⟩,rfl,hg⟩ ?_ (λc D z=>⟨z.1,z.2.2⟩) ?_⟩))
  .intro t
   refine Zc ?_;rintro _ i j o S T W _ ht ⟨⟨g,rfl⟩,rfl,J⟩
   revert J
   refine YZ λv H l B u f=>?_;obtain⟨j,rfl⟩:∃p,j=p+1:=⟨j-1,(R6 (OK B)).symm⟩;obtain⟨y,L,V⟩:=PJ u;apply i2 (S-1) S
   .rfl
   intro p;refine NY (Sw (NY (lv L (NY (Kr C (i:=i) H l hk (m.ub y V) m.ua (λz I=>m.ne z I y V) m.sa λk N g1 g2=>?_)))))
   dsimp -zeta only
   extract_lets kk T nb F
   refine jx F (λi o=>Jv rk a.toList b.toList o.toList.reverse i (j+1)/\(∀x∈a.toList.take i,rk x<rk y)/\0<i/\i<=a.size/\i+(j+1)+(n+1+1)<=a.size+b.size) ?_ λK=>?_
   .rintro i o ⟨v,g1,H,l,f⟩
    refine NY (lv L ?_);have v:=(Jv.pa (Jv.sw v) L g1).sw;refine wE (λe=>NZ ⟨⟨_,rfl⟩,m.fst v e⟩) λq3=>?_;have l2:1<j:=t6 B q3;obtain⟨i,rfl⟩:∃p,i=p+1:=⟨i-1,(R6 H).symm⟩;obtain⟨x,G,Z⟩:=PJ l;refine NY (lv G (NY (Kr C (i:=j) (Ph l2) (OK u) hk (m.ua x Z) m.ub (λz I=>(m.ne x Z z I).symm) m.sb λk N g3 g4=>?_)))
    dsimp -zeta only
    extract_lets kk2 W na F
    refine jx F (λj o=>Jv rk a.toList b.toList o.toList.reverse (i+1) j/\(∀z∈b.toList.take j,rk z<rk x)/\1<j/\j<=b.size/\i+1+j+(n+1+1)<=a.size+b.size) ?_ λK=>?_
    .rintro j o ⟨v,g3,B,u,f⟩
     refine NY (lv G ?_);have v:=Jv.pa v G g3;exact wE (λe=>NZ ⟨⟨_,rfl⟩,v.dn (.inr e)⟩) λq=>H_ (NZ ⟨⟨_,rfl⟩,v,Qh q,OK l,B,u,t3 1 (t1 f)⟩) (NZ ⟨⟨_,rfl⟩,rfl,v,Qh q,OK l,B,u,t3 1 (t1 f)⟩)
    clear_value F
    refine wC (λq=>?_) λq=>?_
    .have w:=(Jv.ca (Jv.sw v) (OK u) N λz I w hw=>Oj (m.sa.tl G (No _) w hw) (g4 z I)).sw
     have l3:i+1+k+(n+1+1)<=a.size+b.size:=t5 f (Nat.le_succ_of_le N);have l4:=NK N (OK u);refine wE (λe=>NZ ⟨⟨_,rfl⟩,m.fst w e⟩) λq1=>wE (λe=>NZ ⟨⟨_,rfl⟩,w.dn (.inl e)⟩) λq2=>?_;exact K k (o.push y++(b.extract k j).reverse) ⟨w,g3,t8 q1 q2,l4,l3⟩
    .cases t7 q N
     exact K _ _ ⟨v,g3,l2,OK u,t3 1 (t2 f)⟩
   clear_value F
   refine wC (λq=>?_) λq=>?_
   .have w:=Jv.ca v l N λz I w hw=>Oj (m.sb.tl L (No _) w hw) (g2 z I)
    exact wE (λe=>NZ ⟨⟨_,rfl⟩,w.dn (.inr e)⟩) λq3=>K _ _ ⟨w,g1,Qh q3,NK N l,t4 f N⟩
   .cases t7 q N
    exact K _ _ ⟨v,g1,H,l,f⟩
  refine Zc ?_;rintro r i j o S T W _ ⟨⟨g,rfl⟩,hg⟩;cases r with
  |some R=>exact NZ ⟨⟨g,rfl⟩,R,rfl,hg⟩
  |none=>exact NY (Sw (NZ ⟨⟨_,rfl⟩,rfl,hg⟩))
 .refine U_ ?_
  rintro _ i j o S _ ⟨⟨g,rfl⟩,rfl,J⟩
  revert J
  refine YZ λv H l B u f=>?_;exact NW f (by dsimp only at*;lia)
 .refine U_ ?_
  rintro _ i j o S _ ⟨⟨g,rfl⟩,R,rfl,hR⟩;exact NZ (h R g hR)
end
end
section
variable{M:Vh}{A:Ot}{E:a0e}{s:Nq}{κ:VL}{U:Op->Prop}{rk:a0U}
theorem wr:∀(R:a0A) (n b:Nat) (c:a0v) (P T S:a0A),c.toList=P++T++S->SW P=b+n->SW T=SW R->((R.zipIdx n).foldl (λa (p,j)=>a.setIfInBounds (b+j) p) c).toList=P++R++S
 |[],n,b,c,P,T,S,h,h1,h2=>by
  obtain rfl:T=[]:=PU.mp h2;exact h
 |x::R,n,b,c,P,[],S,h,h1,h2=>by simp at h2
 |x::R,n,b,c,P,t::T,S,h,h1,h2=>by
  have e:(c.setIfInBounds (b+n) x).toList=(P++[x])++T++S:=by
   rw[Tt,h,<-h1,Ny,WI _ _ (No _),RG];simp
  have:=wr R (n+1) b (c.setIfInBounds (b+n) x) (P++[x]) T S e (by rw[Nw,h1];rfl) (by simpa using h2);rw[Vg,Vz];rw[this];simp
theorem ZF{x D:Pe}(h:Q ⟨⟩ x):Tk M A E s (set x:StateT Pe WP PUnit) Q D:=by
 unfold Tk;rw[StateT.run_set];exact Nb ⟨rfl,h⟩
variable{X Y:a0A}
theorem Sd.app(s:Sd rk X)(A:Sd rk Y)(h:∀x∈X,∀y∈Y,rk x<rk y):Rs rk X Y (X++Y):=⟨.refl _,Oe.mpr ⟨s,A,h⟩⟩
theorem mat(C:Cm M A E s κ U rk){D:Pe}{P S:a0A}(c:kindOf D=κ)(O:Tw D=Na)(ha:(Qp D).toList=P++X++Y++S)(u:∀x∈X++Y,U x)(ne:∀x∈X,∀y∈Y,rk x≠rk y)(K:Sd rk X)(V:Sd rk Y)(T:X≠[])(W:Y≠[])(p1:(O5 D)[i]?=My (SW P,SW X,pw))(p2:(O5 D)[i+1]?=My (SW P+SW X,SW Y,pw2))
  (h:∀(Z:a0A) (a:a0v) (g:Nat),Rs rk X Y Z->a.toList=P++Z++S->Q Nf (Ui (kindOf D) a (((O5 D).setIfInBounds i (SW P,SW X+SW Y,pw)).eraseIdxIfInBounds (i+1)) g (Tw D))):Tk M A E s (mergeAt' i) Q D:=by
 have lx:=RJ.mpr T;have ly:=RJ.mpr W;have n:∀x∈X,U x:=λx G=>u x (N4.mpr (.inl G));have o:∀x∈Y,U x:=λx G=>u x (N4.mpr (.inr G));have d:(Qp D).toList.drop (SW P)=X++Y++S:=by rw[ha,Ny,Ny,List.drop_left,Ny]
 have p:(Qp D).toList.drop (SW P+SW X)=Y++S:=by rw[<-UD,d,Ny,List.drop_left]
 obtain⟨y,f⟩:∃y,Y[0]?=My y:=⟨Y[0],Ng ly⟩;obtain⟨x,ex⟩:∃x,X[SW X-1]?=My x:=⟨X[SW X-1],Ng (by lia)⟩;have v:=NJ f;have B:=NJ ex;have eY:(Qp D).toList[SW P+SW X]?=My y:=by
  have:=Q3 (xs:=(Qp D).toList) (i:=SW P+SW X) (j:=0);rw[p,P7 ly,f]at this;exact this.symm
 have eX:(Qp D).toList[SW P+(SW X-1)]?=My x:=by
  rw[<-Q3,d,Ny,P7 (by lia),ex]
 unfold mergeAt';refine NY (Us ?_)
 dsimp only
 rw[p1,p2];refine NY (ZF (NY (lv eY (NY (Zq C (L:=X) (by rw[d,Ny,List.take_left]) rfl c (o y v) (λz hz=>⟨n z hz,ne z hz y v⟩) K lx λk k1 l F=>?_)))));have H:∀z∈Y,rk y<=rk z:=V.hd (i:=0) f (No _);refine wE (λq1=>?_) λq1=>?_
 .rw[OJ (by lia)]at l
  exact NZ (h (X++Y) _ _ (K.app V λx G y hy=>NP (l x G) (H y hy)) (by rw[ha,Ny P]))
 have q:∀z∈X,rk z<=rk x:=λz hz=>K.tl ex (No _) z (by rw[OJ (by lia)];exact hz);refine NY (lv (x:=x) (by rw[<-eX];congr 1;lia) (NY (Zq C (L:=Y) (by rw[p,List.take_left]) rfl c (n x B) (λz hz=>⟨o z hz,(ne x B z hz).symm⟩) V (by lia) λm m1 I J=>?_)));refine wE (λq2=>?_) λq2=>?_
 .cases q2
  exact NZ (h (X++Y) _ _ (K.app V λz hz y hy=>Oj (q z hz) (J y hy)) (by rw[ha,Ny P]))
 have t:((Qp D).extract (SW P+k) (SW P+SW X)).toList=X.drop k:=by
  rw[qU,<-UD,d,Ny,SV k1,VC (by rw[Pm];lia)]
 have ty:((Qp D).extract (SW P+SW X) (SW P+SW X+m)).toList=Y.take m:=by
  rw[qU,p,PV,Vo m1]
 have b:∀(R:a0v) (g:Nat),Rs rk (X.drop k) (Y.take m) R.toList->Tk M A E s (modify (λs=>Ui (kindOf s) (VX (λa x=>a.setIfInBounds (SW P+k+x.snd) x.fst) (Qp s) R.toList.zipIdx) (O5 s) (UY s) (Tw s))>>=λ_=>get>>=λr=>P3 (Tw r).isNone) Q (Ui (kindOf D) (Qp D) (((O5 D).setIfInBounds i (SW P,SW X+SW Y,pw)).eraseIdxIfInBounds (i+1)) g (Tw D)):=λR g ⟨r1,r2⟩=>by
  refine NY (Sw (NY (Us ?_)));have hz:Rs rk X Y (X.take k++R.toList++Y.drop m):=by
   have aa:∀z,z∈R.toList->z∈X.drop k\/z∈Y.take m:=λz hz=>N4.mp (r1.mem_iff.mp hz);refine⟨((r1.append_left _).append_right _).trans (by rw[<-Ny,N7,Ny,N7]),?_⟩;refine Oe.mpr ⟨Oe.mpr ⟨K.take,r2,λz hz w hw=>?_⟩,V.drop,λz hz w hw=>?_⟩
   .rcases aa w hw with hw|hw
    .have:=l z hz
     have:=F w hw;lia
    .exact NP (l z hz) (H w (O8 hw))
   .have gw:=J w hw
    rcases N4.mp hz with hz|hz
    .have:=q z (O8 hz)
     lia
    .rcases aa z hz with hz|hz
     .have:=q z (QJ hz)
      lia
     .have:=I z hz
      lia
  have e:=wr R.toList 0 (SW P+k) (Qp D) (P++X.take k) (X.drop k++Y.take m) (Y.drop m++S) (by
   rw[ha];simp only[Ny];rw[<-Ny (Y.take m),N7,<-Ny (X.take k),N7]) (by rw[Nw,N8];lia) (r1.length_eq.symm)
  have:=h _ _ g hz (e.trans (by simp only[Ny]));rw[O]at this⊢;exact NZ this
 have sz:((Qp D).extract (SW P+k) (SW P+SW X)).size=SW X-k:=by rw[<-NG,t,Pm]
 have N:Mc U rk ((Qp D).extract (SW P+k) (SW P+SW X)) ((Qp D).extract (SW P+SW X) (SW P+SW X+m)) x y:=by
  refine⟨?_,?_,?_,?_,?_,?_,?_,?_,?_⟩
  all_goals simp only[t,ty,sz]
  .exact λz hz=>n z (QJ hz)
  .exact λz hz=>o z (O8 hz)
  .exact K.drop
  .exact V.take
  .exact λx G y hy=>ne x (QJ G) y (O8 hy)
  .rw[Q3,<-ex];congr 1;lia
  .rw[RX,Nu (Qh q2),f]
  .exact I
  .exact F
 rw[<-t,<-ty]at b;exact H_ (NY (mlo C N c b)) (NY (mhi C N c b))
theorem mir{a:a0v}{P X S:a0A}(h:a.toList=P++X++S):(mirror a (SW P) (SW P+SW X) ((SW P+SW X-SW P)/2)).toList=P++X.reverse++S:=by
 have s:SW P+SW X<=a.size:=by
  rw[<-NG,h,Nw,Nw];lia
 refine Se λk=>?_;rw[Ox,getElem?_mirror_all s];simp only[<-Ox,h,Ro,Nw,S8]
 repeat' split
 all_goals first|rfl|(exfalso;lia)|skip
 rw[List.getElem?_reverse (by lia)];congr 1;lia
theorem bub{a:a0v}{P Y S:a0A}(h:a.toList=P++Y++z::S):(bubble a (SW P+SW Y) (SW Y)).toList=P++z::Y++S:=by
 have s:SW P+SW Y<a.size:=by
  rw[<-NG,h,Nw,Nw,NB];lia
 refine Se λk=>?_;rw[Ox,getElem?_bubble s _ (by lia)];simp only[<-Ox,h,Ro,Nw,NB]
 repeat' split
 all_goals first|rfl|(exfalso;lia)|skip
 .rw[show SW P+SW Y-(SW P+SW Y)=0 by lia,show k-SW P=0 by lia];rfl
 .rw[show k-SW P=k-1-SW P+1 by lia,R1]
 .rw[show k-(SW P+SW Y)=k-(SW P+(SW Y+1))+1 by lia,R1]
theorem Zl(C:Cm M A E s κ U rk){D:Pe}(a:kindOf D=κ)(b:(Qp D).toList[i]?=My x)(c:(Qp D).toList[j]?=My y)(d:U x)(e:U y)(h:Q (My (decide (rk x<rk y))) D):Tk M A E s (ltAt' i j) Q D:=by
 rw[ltAt'_eq];exact NY (Us (NY (lv b (NY (lv c (C.lt d e a h))))))
variable{P T:a0A}{i:Nat}{x y:Op}
theorem Sd.sn(h:Sd rk (T.take (i+1)))(A:T[i]?=My x)(a:T[i+1]?=My y)(s:rk x<rk y):Sd rk (T.take (i+2)):=by
 rw[zx a];refine Oe.mpr ⟨h,OW _ _,λz hz w b=>?_⟩;cases NT.mp b;rw[zx A]at h hz;rcases N4.mp hz with hz|hz
 .exact U9 ((Oe.mp h).2.2 z hz x (R3 _)) s
 .cases NT.mp hz
  exact s
theorem Sd.rn(h:Sd rk (T.take (i+1)).reverse)(A:T[i]?=My x)(a:T[i+1]?=My y)(s:rk y<rk x):Sd rk (T.take (i+2)).reverse:=by
 rw[zx a,S9];refine Qy.mpr ⟨λz hz=>?_,h⟩;rw[zx A,S9]at h hz;rcases NC.mp hz with rfl|hz
 .exact s
 .exact U9 s (V4 h hz)
theorem ye(s:(T.map rk).Nodup)(a:T[i]?=My x)(b:T[j]?=My y)(c:i<j):rk x≠rk y:=by
 obtain⟨d,rfl⟩:=Nn.mp a;obtain⟨e,rfl⟩:=Nn.mp b;have:=RE.mp (Pg.mp s) i j d e c;exact this
theorem mo(k:Nat):(P++T)[SW P+k]?=T[k]?:=by rw[OU (Pp _ _),PV]
theorem cnt(C:Cm M A E s κ U rk){K:Pe}(r:kindOf K=κ)(V:(Qp K).toList=P++T)(u:∀x∈T,U x)(nd:(T.map rk).Nodup)(N:T≠[])
  (h:∀(n:Nat) (f:a0A) (a:a0v),1<=n->n<=SW T->f.Perm T->Sd rk (f.take n)->a.toList=P++f->Q (My n) (Uw K a)):Tk M A E s (countRun' (SW P) (SW T)) Q K:=by
 have Y:=RJ.mpr N;have p:∀{T:a0A} i,i<SW T->∃x,T[i]?=My x/\x∈T:=λi g=>⟨_,Ng g,OG g⟩;have t:∀{K:Pe} {f:a0A} {i:Nat} {x y:Op} {Q:a0E->Pe->Prop},kindOf K=κ->(Qp K).toList=P++f->f.Perm T->f[i]?=My x->f[i+1]?=My y->Q (My (decide (rk y<rk x))) K->Tk M A E s (ltAt' (SW P+(i+1)) (SW P+(i+1)-1)) Q K:=λ{K f i x y Q} r V J D b k=>
  Zl C r (by rw[V,mo,b]) (by rw[V,show SW P+(i+1)-1=SW P+i by lia,mo,D]) (u y (J.mem_iff.mp (NJ b))) (u x (J.mem_iff.mp (NJ D))) k
 have v:∀{i:Nat} {x y:Op},T[i]?=My x->T[i+1]?=My y->¬rk y<rk x->rk x<rk y:=λD b q=>OI (RF q) (ye nd D b (SK _));have z:∀{n:Nat},1<=n->∃k,n=k+1:=λ{n} h=>⟨n-1,(R6 h).symm⟩;rw[countRun'_eq];refine lp (λi c d=>K=d/\c.1=Na/\c.2=i/\Sd rk (T.take i)) (λc d=>K=d/\c.1=Na/\1<=c.2/\c.2<=SW T/\Sd rk (T.take c.2)/\(c.2=SW T\/∃x y,T[c.2-1]?=My x/\T[c.2]?=My y/\rk y<rk x)) ⟨rfl,rfl,rfl,?_⟩ ?_ ?_ ?_
 .obtain⟨x,D,_⟩:=p 0 Y
  rw[zx (i:=0) D];exact OW _ _
 .rintro i ⟨_,n⟩ _ j g ⟨rfl,rfl,rfl,G⟩
  obtain⟨i,rfl⟩:∃k,n=k+1:=z j;obtain⟨x,D,_⟩:=p (T:=T) i (Ph g);obtain⟨y,b,_⟩:=p (T:=T) (i+1) g;exact NY (t r V (.refl _) D b (wD (λq=>NZ ⟨rfl,rfl,j,OK g,G,.inr ⟨x,y,D,b,q⟩⟩) λq=>NZ ⟨rfl,rfl,rfl,G.sn D b (v D b q)⟩))
 .rintro⟨_,n⟩ _ ⟨rfl,rfl,e,G⟩
  rw[Vp Y]at e G;cases e;exact⟨rfl,rfl,Y,No _,G,.inl rfl⟩
 rintro⟨_,n⟩ _ ⟨rfl,rfl,l,o,G,O⟩;refine wE (λ_=>NZ (h n T (Qp K) l o (.refl _) G V)) λq1=>wC (λq2=>?_) λq2=>?_
 .have q2:1<n:=q2
  have o:n<=SW T:=o;have l:0<n:=l;obtain⟨x,D,B⟩:=p (T:=T) 0 Y;obtain⟨y,b,F⟩:=p (T:=T) (n-1) (NP (Nat.sub_lt l Nat.one_pos) o);refine NY (Zl C r (by rw[V,show SW P=SW P+0 from rfl,mo,D]) (x:=x) (y:=y) (by rw[V,Nat.add_sub_assoc l,mo,b]) (u x B) (u y F) (wT (NF ?_) (NZ (h n T (Qp K) l o (.refl _) G V))));have D:(T.take n)[0]?=My x:=by rw[RX,Nu l,D]
  have b:(T.take n)[n-1]?=My y:=by rw[RX,Nu (Nat.sub_lt l Nat.one_pos),b]
  obtain⟨j,rfl⟩:=Nn.mp D;obtain⟨R,rfl⟩:=Nn.mp b;exact RE.mp G 0 (n-1) j R (Nat.sub_pos_of_lt q2)
 cases Nat.le_antisymm (RF q2) l;obtain⟨x,y,D,b,H⟩:=O.resolve_left q1;refine NY (U3 (PH ⟨rfl,lp (λi c d=>K=d/\c.1=Na/\c.2.1=i/\c.2.2=0/\Sd rk (T.take i).reverse) (λc d=>K=d/\c.1=Na/\1<=c.2.1/\c.2.1<=SW T/\c.2.2=0/\Sd rk (T.take c.2.1).reverse) ⟨rfl,rfl,rfl,rfl,Sd.rn (i:=0) (by rw[zx (i:=0) D];exact OW _ _) D b H⟩ ?_ ?_ ?_⟩))
 .rintro i ⟨_,n,m⟩ _ j g ⟨rfl,rfl,rfl,rfl,G⟩
  have j:=OK j;obtain⟨i,rfl⟩:∃k,n=k+1:=z j;obtain⟨x,D,B⟩:=p (T:=T) i (Ph g);obtain⟨y,b,F⟩:=p (T:=T) (i+1) g;exact NY (t r V (.refl _) D b (wD (λq=>NZ ⟨rfl,rfl,rfl,rfl,G.rn D b q⟩) λq=>NY (Zl C r (x:=x) (y:=y) (by rw[V];exact(mo i).trans D) (by rw[V];exact(mo (i+1)).trans b) (u x B) (u y F) (wT (NF (v D b q)) (NZ ⟨rfl,rfl,j,OK g,rfl,G⟩)))))
 .rintro⟨_,n,m⟩ _ ⟨rfl,rfl,e,rfl,G⟩
  rw[Vp (OI Y q1)]at e G;cases e;exact⟨rfl,rfl,Y,No _,rfl,G⟩
 rintro⟨_,n,_⟩ _ ⟨rfl,rfl,l,o,rfl,G⟩;have w:=mir (a:=Qp K) (P:=P) (X:=T.take n) (S:=T.drop n) (by rw[V,Ny,N7]);rw[N8,Qo o,Ny]at w;have pm:((T.take n).reverse++T.drop n).Perm T:=(List.reverse_perm _|>.append_right _).trans (by rw[N7]);have W:((T.take n).reverse++T.drop n).take n=(T.take n).reverse:=VC (by rw[S8,N8,Qo o]);rw[<-W]at G;generalize (T.take n).reverse++T.drop n=f at w pm G;have L:=pm.length_eq;have I:(f.map rk).Nodup:=(pm.map rk).nodup_iff.mpr nd;refine wF (OB 0) (NY (Sw ?_));refine lp (λi c d=>Uw K (mirror (Qp K) (SW P) (SW P+n) ((SW P+n-SW P)/2))=d/\c.1=Na/\c.2=i/\Sd rk (f.take i)) (λc d=>Uw K (mirror (Qp K) (SW P) (SW P+n) ((SW P+n-SW P)/2))=d/\c.1=Na/\1<=c.2/\c.2<=SW T/\Sd rk (f.take c.2)) ⟨rfl,rfl,rfl,G⟩ ?_ ?_ ?_
 .rintro i ⟨_,k⟩ _ j g ⟨rfl,rfl,rfl,G⟩
  have j:=NK l j;obtain⟨i,rfl⟩:∃Z,k=Z+1:=z j;rw[<-L]at g;obtain⟨x,D,_⟩:=p (T:=f) i (Ph g);obtain⟨y,b,_⟩:=p (T:=f) (i+1) g;rw[L]at g;exact NY (t r w pm D b (wD (λq=>NZ ⟨rfl,rfl,j,OK g,G⟩) λq=>NZ ⟨rfl,rfl,rfl,G.sn D b (OI (RF q) (ye I D b (SK _)))⟩))
 .rintro⟨_,k⟩ _ ⟨rfl,rfl,e,G⟩
  rw[Vp o]at e G;cases e;exact⟨rfl,rfl,Y,No _,G⟩
 rintro⟨_,k⟩ _ ⟨rfl,rfl,l,o,G⟩;exact NZ (h k f _ l o pm G w)
theorem bin(C:Cm M A E s κ U rk){K:Pe}(B:kindOf K=κ)(ha:(Qp K).toList=P++T)(t:∀x∈T,U x)(nd:(T.map rk).Nodup)(Z:1<=ok)(on:ok<=n)(hn:n<=SW T)(G:Sd rk (T.take ok))
  (h:∀(b:a0A) (a:a0v),b.Perm T->Sd rk (b.take n)->a.toList=P++b->Q Nf (Uw K a)):Tk M A E s (binarySort' (SW P) n ok) Q K:=by
 rw[binarySort'_eq];rw[show Wb ok 1=ok by lia];refine lp (λk c d=>c.1=Na/\∃(b:a0A) (a:a0v),Uw K a=d/\b.Perm T/\Sd rk (b.take k)/\a.toList=P++b) (λc d=>c.1=Na/\∃(b:a0A) (a:a0v),Uw K a=d/\b.Perm T/\Sd rk (b.take n)/\a.toList=P++b) ⟨rfl,T,Qp K,rfl,.refl _,G,ha⟩ ?_ ?_ ?_
 .rintro k ⟨_,u⟩ _ v F ⟨rfl,b,a,rfl,V,G,e⟩
  have lT:=V.length_eq;have p:(b.map rk).Nodup:=(V.map rk).nodup_iff.mpr nd;obtain⟨z,o⟩:∃z,b[k]?=My z:=⟨_,Ng (by lia)⟩;have H:=t z (V.mem_iff.mp (NJ o));have I:∀x∈(b.take k).drop k,rk z<rk x:=λx hx=>by
   rw[WA (by rw[N8];lia)]at hx;cases hx
  dsimp only at*
  refine lp (λi c d=>Uw K a=d/\c.1=Na/\c.2.1<=c.2.2/\c.2.2<=k/\c.2.2-c.2.1+i<=k/\(∀x∈b.take c.2.1,rk x<rk z)/\∀x∈(b.take k).drop c.2.2,rk z<rk x) (λc d=>Uw K a=d/\c.1=Na/\c.2.1<=k/\(∀x∈b.take c.2.1,rk x<rk z)/\∀x∈(b.take k).drop c.2.1,rk z<rk x) ⟨rfl,rfl,OH _,No _,No _,λx hx=>(by rw[Sf]at hx;cases hx),I⟩ ?_ ?_ ?_
  .rintro i ⟨_,l,r⟩ _ _ F ⟨rfl,rfl,v,f,J,g,j⟩
   dsimp only at*
   by_cases q:l≥r
   .rw[Nu q]
    obtain rfl:l=r:=by lia
    exact NZ ⟨rfl,rfl,f,g,j⟩
   rw[Nv q];obtain⟨x,ex⟩:∃x,b[(l+r)/2]?=My x:=⟨_,Ng (by lia)⟩;refine NY (Zl C B (by rw[e,mo,o]) (by rw[e,mo,ex]) H (t x (V.mem_iff.mp (NJ ex))) ?_)
   dsimp only
   have m:(b.take k)[(l+r)/2]?=My x:=by rw[RX,Nu (by lia),ex]
   by_cases q2:rk z<rk x
   .rw[Nu (NF q2)]
    exact NZ ⟨rfl,rfl,by dsimp only;lia,by dsimp only;lia,by dsimp only;lia,g,G.hd m q2⟩
   .rw[Nv (λz=>q2 (OR z))]
    have ne:=ye p ex o (by lia);refine NZ ⟨rfl,rfl,by dsimp only;lia,f,by dsimp only;lia,λy hy=>?_,j⟩;exact Oj (G.tl m (No _) y (by rw[UE,Qo (by lia)];exact hy)) (by lia)
  .rintro⟨_,l,r⟩ _ ⟨rfl,rfl,v,f,J,g,j⟩
   dsimp only at*
   obtain rfl:l=r:=by lia
   exact⟨rfl,rfl,f,g,j⟩
  rintro⟨_,l,r⟩ _ ⟨rfl,rfl,f,g,j⟩
  dsimp only at*
  rw[moveDown'_eq];have w:b.take l++(b.take k).drop l=b.take k:=by
   have:=N7 l (b.take k);rw[UE,Qo f]at this;exact this
  have L:b=b.take l++(b.take k).drop l++z::b.drop (k+1):=by
   rw[w,<-YX o,N7]
  have l1:SW (b.take l)=l:=by rw[N8];lia
  have l2:SW ((b.take k).drop l)=k-l:=by rw[Pm,N8];lia
  rw[<-w]at G;generalize b.take l=X at*;generalize (b.take k).drop l=D at*;generalize b.drop (k+1)=S at*;subst L;refine NY (Sw (NZ ⟨rfl,X++z::(D++S),_,rfl,?_,?_,?_⟩))
  .refine SD.trans ?_ V
   rw[Ny];exact List.perm_middle.symm.append_left _
  .obtain⟨N,O,R⟩:=Oe.mp G
   have W:(X++z::(D++S)).take (k+1)=X++z::D:=by
    rw[show X++z::(D++S)=(X++z::D)++S by simp,VC (by rw[Nw,NB];lia)]
   rw[W];refine Oe.mpr ⟨N,Qy.mpr ⟨j,O⟩,λx hx y hy=>?_⟩;rcases NC.mp hy with rfl|hy
   .exact g x hx
   .exact R x hx y hy
  .have:=bub (a:=a) (P:=P++X) (Y:=D) (S:=S) (z:=z) (by rw[e];simp)
   rw[Nw,show SW P+SW X+SW D=SW P+k by lia]at this;show(bubble a (SW P+k) (SW P+k-(SW P+l))).toList=_;rw[show SW P+k-(SW P+l)=SW D by lia,this];simp
 .rintro⟨_,u⟩ _ ⟨rfl,b,a,rfl,V,G,e⟩
  exact⟨rfl,b,a,rfl,V,by rw[show Wb ok n=n by lia]at G;exact G,e⟩
 rintro⟨_,u⟩ _ ⟨rfl,b,a,rfl,V,G,e⟩;exact NZ (h b a V G e)
def fJ:Nat->List a0A->a0h
 |_,[]=>[]
 |n,r::rs=>(n,SW r)::fJ (n+SW r) rs
theorem kG:∀(n:Nat) (i R:List a0A),fJ n (i++R)=fJ n i++fJ (n+SW i.flatten) R
 |n,[],R=>rfl
 |n,r::i,R=>by
  show(n,SW r)::fJ (n+SW r) (i++R)=(n,SW r)::(fJ (n+SW r) i++_);rw[kG,Py,Nw,Nat.add_assoc]
theorem oh:∀(n:Nat) (i:List a0A),SW (fJ n i)=SW i
 |_,[]=>rfl
 |n,r::i=>Ou (·+1) (oh (n+SW r) i)
abbrev p2(q:Nat×Nat×Nat):Nat×Nat:=(q.1,q.2.1)
theorem J7{s a:Type}(f:s->a):∀(l:List s) (i:Nat),(l.eraseIdx i).map f=(l.map f).eraseIdx i
 |[],_=>rfl
 |_::_,0=>rfl
 |x::l,i+1=>Ou (f x::·) (J7 f l i)
structure RI (κ:VL) (rk:a0U) (L:a0A) (rs:List a0A) (T:a0A) (st:Pe):Prop where
 kd:kindOf st=κ
 fl:Tw st=Na
 ar:(Qp st).toList=rs.flatten++T
 pm:(Qp st).toList.Perm L
 sd:∀r∈rs,Sd rk r/\r≠[]
 pe:(O5 st).toList.map p2=fJ 0 rs
variable{L:a0A}{rs:List a0A}{st:Pe}
theorem RI.len(h:RI κ rk L rs T st):(O5 st).size=SW rs:=by
 rw[<-NG,<-M9 (f:=p2),h.pe,oh]
theorem RI.mg(C:Cm M A E s κ U rk)(p:∀x∈L,U x)(V:(L.map rk).Nodup)(h:RI κ rk L rs T st){i:Nat}(t:i+1<SW rs)(k:∀c f,RI κ rk L c T f->SW c+1=SW rs->SW c.flatten=SW rs.flatten->Q Nf f):Tk M A E s (mergeAt' i) Q st:=by
 obtain⟨R,X,Y,R2,rfl,rfl⟩:∃R X Y R2,rs=R++X::Y::R2/\SW R=i:=⟨rs.take i,rs[i],rs[i+1],rs.drop (i+2),by
  rw[<-Os,<-Os,N7],by rw[N8];lia⟩
 have K:=h.ar;have D:=h.pe;have z:=h.pm;have l:=h.sd X (by simp);have n:=h.sd Y (by simp);simp only[Xp,Py,Ny]at K;rw[kG]at D;have G:=oh 0 R;have m:∃w,(O5 st)[SW R]?=My (SW R.flatten,SW X,w):=by
  have:((O5 st).toList.map p2)[SW R]?=My (SW R.flatten,SW X):=by
   rw[D,OU (by lia),G,RG];show My (0+SW R.flatten,SW X)=_;rw[Pi]
  rw[Nl,Ox]at this;obtain⟨⟨u,v,w⟩,e,d⟩:=Q1.mp this;cases d;exact⟨w,e⟩
 have d:∃w,(O5 st)[SW R+1]?=My (SW R.flatten+SW X,SW Y,w):=by
  have:((O5 st).toList.map p2)[SW R+1]?=My (SW R.flatten+SW X,SW Y):=by
   rw[D,OU (by lia),G,PV];show My (0+SW R.flatten+SW X,SW Y)=_;rw[Pi]
  rw[Nl,Ox]at this;obtain⟨⟨u,v,w⟩,e,d⟩:=Q1.mp this;cases d;exact⟨w,e⟩
 obtain⟨q,m⟩:=m;obtain⟨B,d⟩:=d;have b:=z;rw[K]at b;have F:∀x∈X,∀y∈Y,rk x≠rk y:=by
  have:=(b.map rk).nodup_iff.mpr V;simp only[NV]at this;have:=(QK.mp (QK.mp this).2.1).2.2;exact λx hx y H=>this _ (Nm.mpr ⟨x,hx,rfl⟩) _ (N4.mpr (.inl (Nm.mpr ⟨y,H,rfl⟩)))
 refine mat C (P:=R.flatten) (X:=X) (Y:=Y) (S:=R2.flatten++T) h.kd h.fl (by rw[K];simp) (λx hx=>p x (b.mem_iff.mp (by simp at hx⊢;rcases hx with hx|hx<;>simp[hx]))) F l.1 n.1 l.2 n.2 m d λZ a g j o=>k (R++Z::R2) _ ⟨h.kd,h.fl,?_,?_,?_,?_⟩ ?_ ?_
 .show a.toList=_
  rw[o];simp
 .show a.toList.Perm L
  refine SD.trans ?_ b;rw[o,Ny];refine VW _ ?_;rw[<-Ny X];exact j.1.append_right _
 .intro r hr
  rcases N4.mp hr with hr|hr
  .exact h.sd r (by simp[hr])
  .rcases NC.mp hr with rfl|hr
   .exact⟨j.2,λe=>l.2 (by have:=j.1.length_eq;rw[e]at this;simp at this;exact PU.mp (by lia))⟩
   .exact h.sd r (by simp[hr])
 .show Pk p2 (((O5 st).setIfInBounds (SW R) (SW R.flatten,SW X+SW Y,q)).eraseIdxIfInBounds (SW R+1)).toList=_
  rw[Array.toList_eraseIdxIfInBounds,J7,Tt,RA,D,WI _ _ (by lia),G,RG];show(fJ 0 R++(SW R.flatten,SW X+SW Y)::(0+SW R.flatten+SW X,SW Y)::fJ (0+SW R.flatten+SW X+SW Y) R2).eraseIdx (SW R+1)=_;rw[List.eraseIdx_append_of_length_le (by lia),G,PV,kG];show fJ 0 R++(SW R.flatten,SW X+SW Y)::fJ (0+SW R.flatten+SW X+SW Y) R2=fJ 0 R++(0+SW R.flatten,SW Z)::fJ (0+SW R.flatten+SW Z) R2;have:=j.1.length_eq;rw[Nw]at this;rw[this,Pi,Nat.add_assoc (SW R.flatten)]
 .simp only[Nw,NB]
  lia
 .have:=j.1.length_eq
  simp at this⊢;lia
theorem RI.tl(h:RI κ rk L rs T st){b:a0A}{a:a0v}(i:b.Perm T)(c:a.toList=rs.flatten++b):RI κ rk L rs b (Uw st a):=⟨h.kd,h.fl,c,by
 show a.toList.Perm L;rw[c];refine(i.append_left _).trans ?_;rw[<-h.ar];exact h.pm,h.sd,h.pe⟩
theorem RI.pw(h:RI κ rk L rs T st):RI κ rk L rs T (setPending st ((O5 st).modify k λx=>(x.1,x.2.1,w))):=⟨h.kd,h.fl,h.ar,h.pm,h.sd,by
 show Pk p2 ((O5 st).modify k λx=>(x.1,x.2.1,w)).toList=_;rw[<-h.pe,Array.toList_modify];refine Se λj=>?_;rw[Nl,Nl,List.getElem?_modify];cases(O5 st).toList[j]? with
 |none=>rfl
 |some q=>by_cases z:k=j<;>simp[z]⟩
theorem RI.pu(h:RI κ rk L rs T st)(b:1<=n)(a:n<=SW T)(s:Sd rk (T.take n)){i:Nat}(el:i=SW rs.flatten):RI κ rk L (rs++[T.take n]) (T.drop n) (setPending st ((O5 st).push (i,n,0))):=by
 refine⟨h.kd,h.fl,?_,h.pm,λr hr=>?_,?_⟩
 .show(Qp st).toList=_
  rw[h.ar];simp
 .rcases N4.mp hr with hr|hr
  .exact h.sd r hr
  .cases NT.mp hr
   exact⟨s,λe=>(by have:=Ou SW e;rw[N8,QD]at this;lia)⟩
 .show Pk p2 ((O5 st).push (i,n,0)).toList=_
  rw[R8,NV,h.pe,kG,Pi,<-el];show fJ 0 rs++[(i,n)]=fJ 0 rs++[(i,SW (T.take n))];rw[N8,Qo a]
theorem CJ:∀{rs:List a0A},(∀r∈rs,Sd rk r/\r≠[])->SW rs<=SW rs.flatten
 |[],_=>No _
 |r::rs,h=>by
  have:=CJ (rs:=rs) λx i=>h x (Nk _ i);have:=RJ.mpr (h r Np).2;rw[Py,Nw,NB];lia
theorem srt(C:Cm M A E s κ U rk)(W:kindOf st=κ)(Z:Tw st=Na)(v:O5 st=#[])(G:(Qp st).toList=L)(F:∀x∈L,U x)(K:(L.map rk).Nodup)(h:∀f,Tw f=Na->(Qp f).toList.Perm L->Sd rk (Qp f).toList->Q () f):Tk M A E s sortRuns' Q st:=by
 have X:(Qp st).size=SW L:=by rw[<-G,NG]
 rw[sortRuns'_eq];refine NY (Us ?_)
 dsimp only
 rw[X];refine lp (λt c f=>c.1=Na/\∃rs T,RI κ rk L rs T f/\c.2=SW rs.flatten/\(t<=c.2\/SW L<=c.2)) (λc f=>c.1=Na/\∃rs,RI κ rk L rs [] f) ⟨rfl,[],L,⟨W,Z,G,by rw[G],λ_ Y=>(by cases Y),by rw[v];rfl⟩,rfl,.inl (OH _)⟩ ?_ ?_ ?_
 .rintro t ⟨_,lo⟩ st _ ht ⟨rfl,rs,T,d,rfl,hl⟩
  dsimp only at*
  have o:=d.pm.length_eq;rw[d.ar,Nw]at o;by_cases q:SW rs.flatten≥SW L
  .rw[Nu q]
   obtain rfl:T=[]:=PU.mp (by lia);exact NZ ⟨rfl,rs,d⟩
  rw[Nv q];have H:SW L-SW rs.flatten=SW T:=by lia
  have O:∀{w:a0A},w.Perm T->(∀x∈w,U x)/\(w.map rk).Nodup:=λ{w} v=>by
   have:=d.pm;rw[d.ar]at this;exact⟨λx z=>F x (this.mem_iff.mp (N4.mpr (.inr (v.mem_iff.mp z)))),(v.map rk).nodup_iff.mpr (by
    have:=(this.map rk).nodup_iff.mpr K;rw[NV]at this;exact(QK.mp this).2.1)⟩
  rw[H];obtain⟨u0,I⟩:=O (.refl _);refine NY (cnt C (P:=rs.flatten) d.kd d.ar u0 I (λe=>(by rw[e]at H;simp only[QD]at H;lia)) λn l a B m S y ea=>?_);have d:=d.tl S ea;have aa:=S.length_eq
  dsimp only
  by_cases V:n<minRun' (SW L) (SW L) 0;rw[Nu V];refine NY (U3 (PH ⟨rfl,?_⟩));obtain⟨u1,nd1⟩:=O S;refine NY (bin C (P:=rs.flatten) d.kd d.ar u1 nd1 B (by lia) (by lia) y λR a2 p y J=>?_);rw[Nv (by decide)];have d:=d.tl p J;have ab:=p.length_eq;have B:1<=QN (SW T) (minRun' (SW L) (SW L) 0):=by lia
  have m:QN (SW T) (minRun' (SW L) (SW L) 0)<=SW R:=by lia
  generalize Uw (Uw st a) a2=st at d⊢;generalize QN (SW T) (minRun' (SW L) (SW L) 0)=n at B m y⊢;generalize R=l at d m y
  rotate_left
  rw[Nv V];have m:n<=SW l:=by lia
  generalize Uw st a=st at d⊢
  all_goals
   refine NY (Us ?_);have u:∀{g:List a0A} {st:Pe},RI κ rk L g l st->SW g.flatten=SW rs.flatten->Tk M A E s ((modify λs=>setPending s ((O5 s).push (SW rs.flatten,n,0)))>>=λ_=>P3 (Sy ((Na:Option Unit),SW rs.flatten+n))) (λr f=>match r with| .done c'=>c'.1=Na/\∃rs,RI κ rk L rs [] f| .yield c'=>c'.1=Na/\∃rs T,RI κ rk L rs T f/\c'.2=SW rs.flatten/\(t+1<=c'.2\/SW L<=c'.2)) st:=λ{g st} d i=>by
    refine NY (Sw (NZ ⟨rfl,_,_,d.pu B m y i.symm,?_,?_⟩))
    .rw[Xp,Nw,i]
     show SW rs.flatten+n=SW rs.flatten+SW (l.take n++[]);rw[Ob,N8,Qo m]
    .show t+1<=SW rs.flatten+n\/SW L<=SW rs.flatten+n
     lia
   cases(O5 st).back? with
   |none=>exact u d rfl
   |some b=>
    obtain⟨b1,b2,b3⟩:=b
    dsimp only
    refine lp (λ_ c f=>c.1=Na/\∃g,RI κ rk L g l f/\SW g.flatten=SW rs.flatten) (λc f=>c.1=Na/\∃g,RI κ rk L g l f/\SW g.flatten=SW rs.flatten) ⟨rfl,rs,d,rfl⟩ ?_ (λ_ _ h=>h) ?_
    .rintro _ ⟨_,_⟩ st _ _ ⟨rfl,g,d,i⟩
     refine NY (Us ?_);have rl:=d.len;by_cases D:(O5 st).size>1
     .rw[Nu D,a3a (O5 st) ((O5 st).size-2) (by lia)]
      dsimp only
      refine H_ (NZ ⟨rfl,g,d,i⟩) (NY (d.mg C F K (by lia) λj N k _ l2=>?_));exact NZ ⟨rfl,j,k,l2.trans i⟩
     .rw[Nv D]
      exact NZ ⟨rfl,g,d,i⟩
    .rintro⟨_,_⟩ st ⟨rfl,g,d,i⟩
     exact NY (Sw (u d.pw i))
 .rintro⟨_,lo⟩ st ⟨rfl,rs,T,d,el,hl⟩
  dsimp only at*
  have o:=d.pm.length_eq;rw[d.ar,Nw,<-el]at o;obtain rfl:T=[]:=PU.mp (by lia);exact⟨rfl,rs,d⟩
 .rintro⟨_,lo⟩ st ⟨rfl,rs,d⟩
  have o:=d.pm.length_eq;rw[d.ar,Ob]at o;have fl:=CJ d.sd;refine lp (λt c f=>c.1=Na/\∃rs,RI κ rk L rs [] f/\SW rs+t<=SW L) (λc f=>c.1=Na/\∃rs,RI κ rk L rs [] f/\SW rs<=1) ⟨rfl,rs,d,by lia⟩ ?_ ?_ ?_
  .rintro t ⟨_,_⟩ st _ ht ⟨rfl,rs,d,i⟩
   refine NY (Us ?_);have rl:=d.len;by_cases D:(O5 st).size<=1
   .rw[Nu D]
    exact NZ ⟨rfl,rs,d,by lia⟩
   .rw[Nv D]
    have dc:∀(c:Prop) [Decidable c],(if c then(O5 st).size-2-1 else(O5 st).size-2)+1<SW rs:=λc _=>by split<;>lia
    refine NY (d.mg C F K (dc _) λj N k l1 _=>?_);exact NZ ⟨rfl,j,k,by lia⟩
  .rintro⟨_,_⟩ st ⟨rfl,rs,d,i⟩
   exact⟨rfl,rs,d,by lia⟩
  .rintro⟨_,_⟩ st ⟨rfl,rs,d,i⟩
   refine NZ (h st d.fl d.pm ?_);rw[d.ar]
   match rs,i,d.sd with
   |[],_,_=>exact SU
   |[r],_,y=>
    have:=(y r Np).1;simpa using this
   |_::_::_,i,_=>simp at i
end
end L2.Hb
namespace L2.Hs
open PySem.W
noncomputable def bZ:a0d->a0d->Bool
 |[],[]=>Ni
 |[],_::_=>Nf
 |_::_,[]=>Ni
 |a::as,b::bs=>if a=b then bZ as bs else decide (a<b)
theorem gQ:∀x,bZ x x=Ni
 |[]=>rfl
 |a::as=>by unfold bZ;rw[Nu rfl];exact gQ as
theorem pP:∀{x y z},bZ x y=Nf->bZ y z=Nf->bZ x z=Nf
 |[],[],_,h,_=>by cases h
 |[],_::_,[],_,h=>by cases h
 |[],_::_,_::_,_,_=>rfl
 |_::_,[],_,h,_=>by cases h
 |_::_,_::_,[],_,h=>by cases h
 |a::as,b::bs,c::cs,h1,h2=>by
  unfold bZ at h1 h2⊢;by_cases E:a=b
  .rw[Nu E]at h1
   by_cases D:b=c
   .rw[Nu D]at h2
    rw[Nu (E.trans D)];exact pP h1 h2
   .rw[Nv D]at h2
    rw[Nv (by rw[E];exact D),E];exact h2
  .rw[Nv E]at h1
   have d:=OR h1;by_cases D:b=c
   .rw[Nv (by rw[<-D];exact E),<-D];exact h1
   .rw[Nv D]at h2
    have e:=OR h2;rw[Nv (by lia)];exact NF (by lia)
theorem mR:∀{x y},bZ x y=Ni->bZ y x=Ni->x=y
 |[],[],_,_=>rfl
 |[],_::_,h,_=>by cases h
 |_::_,[],_,h=>by cases h
 |a::as,b::bs,h1,h2=>by
  unfold bZ at h1 h2;by_cases q:a=b
  .rw[Nu q]at h1
   rw[Nu q.symm]at h2;rw[q,mR h1 h2]
  .rw[Nv q]at h1
   rw[Nv (Ne.symm q)]at h2;have:=W0 h1;have:=W0 h2;lia
theorem vS{D:Type}{p q:D->Bool}:∀{L:List D},(∀l∈L,p l=Nf->q l=Nf)->∀{i},i∈L->p i=Ni->q i=Nf->L.countP p<L.countP q
 |[],_,i,h,_,_=>by cases h
 |a::L,hpq,i,hi,h1,h2=>by
  have E:L.countP p<=L.countP q:=List.countP_mono_left λl b=>hpq l (Nk a b);rcases NC.mp hi with rfl|hi
  .rw[List.countP_cons_of_neg (by rw[h1];exact Nz),List.countP_cons_of_pos h2]
   lia
  .have ih:=vS (λl b=>hpq l (Nk a b)) hi h1 h2
   rw[List.countP_cons,List.countP_cons];have:(if p a=Nf then 1 else 0)<=(if q a=Nf then 1 else 0):=by
    by_cases z:p a=Nf
    .rw[Nu z,Nu (hpq a Np z)];exact No 1
    .rw[Nv z];exact OH _
   lia
def O_(K:LI)(k:a0d):Nat:=K.countP λj=>bZ j k
section
variable{K:LI}{k l:a0d}
theorem GC(a:k∈K)(h:bZ k l=Nf):O_ K k<O_ K l:=vS (λ_ _ z=>pP z h) a (gQ _) h
theorem pq(b:k∈K)(c:l∈K):decide (O_ K k<O_ K l)=bZ k l:=by
 cases h:bZ k l with
 |true=>exact NF (GC b h)
 |false=>
  refine Oo λz=>?_;cases a:bZ l k with
  |true=>exact Nat.lt_asymm z (GC c a)
  |false=>exact OB _ (mR h a▸z)
theorem Jt(a:k∈K)(b:l∈K)(h:O_ K k=O_ K l):k=l:=by
 refine mR ?_ ?_
 .rw[<-pq a b,h];exact Oo (OB _)
 .rw[<-pq b a,h];exact Oo (OB _)
abbrev Up(l:LI):Prop:=l.Pairwise λa b=>bZ a b=Nf
theorem mE:∀{l m:LI},Up l->Up m->(∀x,x∈l↔x∈m)->l=m
 |[],[],_,_,_=>rfl
 |[],b::m,_,_,h=>by have:=(h b).mpr Np;cases this
 |a::l,[],_,_,h=>by have:=(h a).mp Np;cases this
 |a::l,b::m,h1,h2,h=>by
  obtain⟨c,p2⟩:=Qy.mp h1;obtain⟨D,E⟩:=Qy.mp h2;have e:a=b:=by
   rcases NC.mp ((h a).mp Np)with z|z
   .exact z
   .rcases NC.mp ((h b).mpr Np)with w|w
    .exact w.symm
    .have:=pP (D a z) (c b w)
     rw[gQ]at this;cases this
  subst e;congr 1;refine mE p2 E λx=>⟨λk=>?_,λk=>?_⟩
  .rcases NC.mp ((h x).mp (Nk a k))with rfl|z
   .have:=c x k;rw[gQ]at this;cases this
   .exact z
  .rcases NC.mp ((h x).mpr (Nk a k))with rfl|z
   .have:=D x k;rw[gQ]at this;cases this
   .exact z
variable{aa:N9}{w:Ol}{A:Ot}{E:a0e}{s:Nq}
theorem wW{b:Bool}:∀{K G:a0d} {D E:a0g} (i:Nat),ItemsAre (Um aa w) K D->ItemsAre (Um aa w) G E->∀n m:Nat,(decide (n+SW D<m+SW E)=decide (SW K<SW G))->Q (bZ K G) s->KatLex aa w A Nf (decide (n+SW D<m+SW E)) Q (D.zip E) i s
 |[],G,D,E,i,hx,hy,n,m,e,q=>by
  cases hx;cases hy with
  |nil=>rw[T5];exact kat_nil (by rw[e];exact q)
  |cons c d=>rw[T5];exact kat_nil (by rw[e];exact q)
 |x::K,G,D,E,i,hx,hy,n,m,e,q=>by
  cases hx with
  |@cons _ u _ us' c d=>
   cases hy with
   |nil=>rw[XN];exact kat_nil (by rw[e];exact q)
   |@cons y v ys' vs' h3 h4=>
    obtain⟨t1,rfl⟩:=TY c;obtain⟨t2,rfl⟩:=TY h3;rw[PP];refine kat_cons (wpAny_eqBool_int ?_);unfold bZ at q;by_cases z:x=y
    .rw[Nu z]at q
     rw[show(x==y)=Nf by rw[RM];exact z];refine kat_yes ?_;have f:∀k l:Nat,decide (k+(SW us'+1)<l+(SW vs'+1))=decide (k+1+SW us'<l+1+SW vs'):=λk l=>decide_eq_decide.mpr (by lia);rw[NB,NB,f];refine wW (b:=b) (i+1) d h4 (n+1) (m+1) ?_ q;rw[<-f,<-NB (a:=Rt x t1),<-NB (a:=Rt y t2),e,NB,NB];exact decide_eq_decide.mpr (by lia)
    .rw[Nv z]at q
     rw[show(x==y)=Ni by rw[Uy];exact z];refine kat_no ?_;cases g:(Nf&&i==0)with
     |true=>exact oneLt_int q
     |false=>exact kat_one _ _ (lt_int (show PySem.W.BoolBack Q (.bool _) s from q))
theorem BA(k:(g_ aa w).is s.heap q x)(l:(g_ aa w).is s.heap r y)(h:Q (bZ q r) s):ND (N0 aa w) A (keyLt' (Yn Nf) (.ref x) (.ref y)) Q E s:=by
 obtain⟨m,n,o,d,i,e,a⟩:=k;obtain⟨o2,i2,p,f,j,g,c⟩:=l;refine kat_lt d e f g ?_;have:=wW (A:=A) (b:=Nf) (Q:=Q) (s:=s) 0 a c 0 0 (by rw[Pi,Pi,a.length,c.length]) h;rw[Pi,Pi,NG,NG]at this;exact this
structure Y4 (aa:N9) (w:Ol) (A:Ot) (is:OO->a0d->Nh->Prop):Prop where
 fr:∀{h h':OO} {k:a0d} {x:Nh},is h k x->(∀b o,o.cls= .type "tuple"->h.get? b=My o->h'.get? b=My o)->is h' k x
 tup:∀{h:OO} {k:a0d} {x:Nh},is h k x->∃o its n i t,h.get? x=My o/\o.cls= .type "tuple"/\o.data= .seq its n/\its[0]?=My (.int i t)
 fn:∀{h:OO} {k k':a0d} {x:Nh},is h k x->is h k' x->k=k'
 lt:∀{E:a0e} {s:Nq} {Q:Bool->Nq->Prop} {x y:Nh} {xs ys:a0d},is s.heap xs x->is s.heap ys y->Q (bZ xs ys) s->ND (N0 aa w) A (keyLt' (Yn Nf) (.ref x) (.ref y)) Q E s
theorem wf(S:Y4 aa w A is):∀{a:a0q},(∀k∈a,is s.heap k.1 k.2)->∃l:a0g,KatTups s.heap (a.map λk=>NH k.2) l/\SW l=SW a/\∀v∈l,∃n t,v=Rt n t
 |[],_=>⟨[],trivial,rfl,λv hv=>by cases hv⟩
 |k::a,h=>by
  obtain⟨l,b,c,d⟩:=wf S λf g=>h f (Nk k g);obtain⟨o,D,n,i,t,j,m,E,e⟩:=S.tup (h k Np);refine⟨_::l,KatTups.cons j m E e b,by rw[NB,NB,c],λv hv=>?_⟩;rcases NC.mp hv with rfl|hv
  .exact⟨i,t,rfl⟩
  .exact d v hv
abbrev isI(aa:N9)(w:Ol)(h:OO)(k:a0d)(x:Nh):Prop:=(g_ aa w).is h k x/\1<=SW k
theorem xP:Y4 aa w A (isI aa w) where
 fr:=λ⟨⟨o,s,n,b,a,f,d⟩,l⟩ k=>⟨⟨o,s,n,k _ _ a b,a,f,d⟩,l⟩
 tup:=λ⟨⟨o,s,n,b,a,f,d⟩,l⟩=>by
  have c:=d.length;have g:0<s.size:=by rw[<-NG,<-c];lia
  obtain⟨i,t,e⟩:=items_int d s[0] (by rw[<-QC];exact OG _);exact⟨o,s,n,i,t,b,a,f,by rw[a3a s 0 g,e]⟩
 fn:=λb a=>(g_ aa w).inj b.1 a.1
 lt:=λD E h=>BA D.1 E.1 h
theorem uU{s w:Type}{f:s->w}{A h:List w}(p:A.Perm h):∀{k:List s},h=k.map f->∃c:List s,c.Perm k/\A=c.map f:=by
 induction p with
 |nil=>
  intro k e;cases k with
  |nil=>exact⟨[],.refl _,rfl⟩
  |cons _ _=>cases e
 |cons x _ D=>
  intro k e;cases k with
  |nil=>cases e
  |cons a k=>
   cases e;obtain⟨c,d,g⟩:=D rfl;exact⟨a::c,d.cons a,by rw[g];rfl⟩
 |swap x y l=>
  intro k e
  match k,e with
  |[],e=>cases e
  |[_],e=>cases e
  |a::b::k,e=>
   cases e;exact⟨b::a::k,.swap _ _ _,rfl⟩
 |trans _ _ ih1 ih2=>
  intro k e;obtain⟨c,d,g⟩:=ih2 e;obtain⟨i,j,m⟩:=ih1 g;exact⟨i,j.trans d,m⟩
def yz(a:a0q)(v:Nj):a0d:=match a.find? λy=>decide (v= .ref y.2)with
 |some y=>y.1
 |none=>[]
theorem rB(S:Y4 aa w A is){c:a0q}(J:s.heap.get? a=My (Qq "list" (c.map λk=>NH k.2).toArray n))(d:∀k∈c,is s.heap k.1 k.2)(nd:(c.map (·.1)).Nodup)(ab:SW c<=1000)
  (h:∀(G:OO) (j:a0q) (n':Nat),j.Perm c->Up (j.map (·.1))->G.get? a=My (Qq "list" (j.map λk=>NH k.2).toArray n')->(∀b o,b≠a->s.heap.get? b=My o->G.get? b=My o)->P (.done (.ret .none)) {s with heap:=G}):
  ND (N0 aa w) A (Builtin.«list.sort» ⟨[.ref a],[]⟩) P E s:=by
 have M:a<s.heap.objs.size:=NU J;rw[list_sort_plain];refine M8 (listItems_at J rfl ?_);refine M8 (R9 J rfl ?_ (by simp[Ps];lia) (by simp));obtain⟨U,N⟩:∃U,(s.heap.update a (OV λ_=>#[])).get? a=My (Qq "list" #[] U):=⟨_,get?_update_seq J (λ_=>#[])⟩;refine M8 (seqEpoch_at N rfl ?_);refine M8 (W4 ?_ (by simp[Ps];lia));refine M8 (XF ?_ (OH _));refine OT ?_;generalize p:(c.map λk=>NH k.2)=vs at*;have O:SW vs=SW c:=by rw[<-p,M9]
 have g:(((s.heap.update a (OV λ_=>#[])).push (Qq "tuple" vs.toArray 0)).push (Qq "list" #[] 0)).get? a=My (Qq "list" #[] U):=by
  rw[X9 _ _ _ (by rw[size_push',Heap.size_update];exact Ov (QO M)),X9 _ _ _ (by rw[Heap.size_update];exact Ov M)];exact N
 have D:∀b o,b≠a->s.heap.get? b=My o->(((s.heap.update a (OV λ_=>#[])).push (Qq "tuple" vs.toArray 0)).push (Qq "list" #[] 0)).get? b=My o:=λb o B e=>by
  refine Nd _ (Nd _ ?_);rw[PZ _ _ _ _ B];exact e
 show ND (N0 aa w) A _ P E {s with heap:=((s.heap.update a (OV λ_=>#[])).push (Qq "tuple" vs.toArray 0)).push (Qq "list" #[] 0)};generalize ac:((s.heap.update a (OV λ_=>#[])).push (Qq "tuple" vs.toArray 0)).push (Qq "list" #[] 0)=h6 at g D
 dsimp only
 have R:∀(j:a0q) (u:a0D),j.Perm c->Up (j.map (·.1))->u=(j.map λk=>NH k.2).toArray->P (.done (.ret .none)) {s with heap:=h6.update a (OV λ_=>u)}:=λj u F p2 e=>by
  refine h _ j _ F p2 (by rw[<-e];exact get?_update_seq g λ_=>u) λb o B W=>?_;rw[PZ _ _ _ _ B];exact D b o B W
 by_cases H:vs.toArray.size<2
 .rw[Nu H,Nu H]
  refine M8 (Nb ?_);rw[StateT.run_pure];refine M8 (Nb ?_)
  dsimp only
  refine M8 (seqEpoch_at g rfl ?_);have X:((Qp (Ui general' (vs.toArray.zip vs.toArray) #[] 7 Na)).map (·.2))=vs.toArray:=by
   show(vs.toArray.zip vs.toArray).map (·.2)=_;apply X5.mp;rw[X6,X7];exact List.map_snd_zip (No _)
  rw[X];refine M8 (R9 g rfl ?_ (by simp) (by simp[Ps];lia));simp only[Rg,NO,OF];refine Nb (R c _ (.refl _) ?_ (by rw[p]));have f:SW c<2:=by rw[<-O];simpa using H
  match c,f with
  |[],_=>exact SU
  |[k],_=>exact OW _ _
  |_::_::_,f=>simp at f;lia
 .rw[Nv H,Nv H]
  have ad:2<=SW c:=by rw[<-O];simp at H;lia
  have m:∀k∈c,is h6 k.1 k.2:=λk Y=>S.fr (d k Y) λb o hc B=>D b o (λz=>by
   subst z;rw[J]at B;cases B;exact NW (QP.inj hc) (by decide)) B
  obtain⟨fs,t1,t2,t3⟩:=wf S (s:={s with heap:=h6}) m;rw[p]at t1;refine M8 (kat_kind (T:= .type "int") t1 (by lia) (λv hv=>?_) rfl ?_)
  .obtain⟨x,t,rfl⟩:=t3 v hv
   exact Looks.of_pure rfl
  show ND _ _ (StateT.run sortRuns' (Ui (Yn Nf) (vs.toArray.zip vs.toArray) #[] 7 Na)>>=_) _ _ _;have ez:(vs.toArray.zip vs.toArray).toList=c.map λk=>(NH k.2,NH k.2):=by
   rw[X7,<-p];show List.zip (c.map _) (c.map _)=_;rw[List.zip_map',]
  have I:∀k∈c,yz c (NH k.2)=k.1:=λk d=>by
   unfold yz;cases e:c.find? λy=>decide (NH k.2=NH y.2)with
   |none=>exact NW (List.find?_eq_none.mp e k d) (by simp)
   |some y=>
    have y0:=List.find?_some e;have y1:k.2=y.2:=NH.inj (OR y0);have Z:=m y (V2 e);rw[<-y1]at Z;exact S.fn Z (m k d)
  have mk:∀k∈c,k.1∈c.map (·.1):=λk d=>Nm.mpr ⟨k,d,rfl⟩;have C:Hb.Cm (N0 aa w) A E {s with heap:=h6} (Yn Nf) (λx=>∃k∈c,x=(NH k.2,NH k.2)) (λx=>O_ (c.map (·.1)) (yz c x.1)):=⟨by
   rintro _ _ st Q ⟨k,d,rfl⟩ ⟨l,f,rfl⟩ hs q;show Tk _ _ _ _ (lt' _ _) Q st;rw[lt'_eq];refine NY (Us ?_);rw[hs];refine NY (U3 (QZ (S.lt (m k d) (m l f) ⟨rfl,?_⟩)));rw[I k d,I l f,pq (mk k d) (mk l f)]at q;exact NZ q⟩
  refine M8 (OL (Hb.srt C (L:=c.map λk=>(NH k.2,NH k.2)) (Q:=λ_ i=>Tw i=Na/\(Qp i).toList.Perm (c.map λk=>(NH k.2,NH k.2))/\Hb.Sd (λx=>O_ (c.map (·.1)) (yz c x.1)) (Qp i).toList) rfl rfl rfl ez ?_ ?_ λi q1 q2 q3=>⟨q1,q2,q3⟩) (λr s' hr=>?_) λ_ _ e=>e)
  .intro x hx
   obtain⟨k,d,rfl⟩:=Nm.mp hx;exact⟨k,d,rfl⟩
  .rw[Nx]
   refine Pg.mpr ((Pg.mp nd).imp_of_mem λ{k l} d f ne e=>ne ?_);simp only[Uz,I k d,I l f]at e;exact Jt (mk k d) (mk l f) e
  .obtain⟨⟨⟩,i⟩:=r
   obtain⟨rfl,V,pm,K⟩:=hr;obtain⟨j,F,e⟩:=uU pm rfl
   dsimp only at V e K⊢
   have X:(Qp i).map (·.2)=(j.map λk=>NH k.2).toArray:=by
    apply X5.mp;rw[X6,e,Nx];rfl
   rw[X];refine M8 (seqEpoch_at g rfl ?_);refine M8 (R9 g rfl ?_ (by simp) (by simp[Ps,F.length_eq];lia));rw[V];simp only[Rg,NO,OF];refine Nb (R j _ F ?_ rfl);rw[e]at K;refine Pg.mpr ((Pg.mp K).imp_of_mem λ{k l} d f z=>?_);have d:=F.mem_iff.mp d;have f:=F.mem_iff.mp f;simp only[I k d,I l f]at z;rw[<-pq (mk k d) (mk l f)];exact NF z
theorem xQ{D:a0q}(H:A.handled=Na)(S:rb aa w s.heap a D)(I:∀x∈D,1<=SW x.1)(J:SW D<64)
  (h:∀(l:Nh) (G:OO) (f v:Nat) (g:a0q),g.Perm D->Up (g.map (·.1))->G.get? l=My (Qq "list" (g.map λk=>NH k.2).toArray v)->s.heap.objs.size<=l->(∀b o,s.heap.get? b=My o->G.get? b=My o)->s.toks<=f->Q (.ref l) {s with heap:=G,toks:=f}):
  ND (N0 aa w) A (Vb (.builtin "sorted") [.ref a]) Q E s:=by
 obtain⟨o,V,ep,t,L,y,Z,i,B,hx,T,N,j⟩:=S;have C:V.size=SW D:=by rw[<-NG,i,M9]
 have O:t.fits V.size=Nf:=T.fits (by rw[M9,C]);refine VT kind_sorted plain_sorted entry_sorted (args_sorted1 _) ?_;unfold Builtin.«sorted»;refine M8 (m:=checkCount "sorted" 1 1 _) (Nb ?_);refine M8 (v8 H L y.1 Z T O N j (by lia) λn f vs K p M pv=>?_);rw[i,Nx]at pv;obtain⟨q,r,rfl⟩:=uU pv rfl;have P:SW q=SW D:=r.length_eq;refine M8 (XF ?_ (by rw[M9,Ps];lia));have c:∀b d,s.heap.get? b=My d->(n.push (Qq "list" (q.map λk=>NH k.2).toArray 0)).get? b=My d:=λb d e=>Nd _ (K b d e);have u:(n.push (Qq "list" (q.map λk=>NH k.2).toArray 0)).get? n.objs.size=My (Qq "list" (q.map λk=>NH k.2).toArray 0):=NE _ rfl;show ND _ _ _ _ _ {s with heap:=n.push (Qq "list" (q.map λk=>NH k.2).toArray 0),toks:=f};refine M8 (OT (Of slot_list_sort ⟨_,u,rfl⟩ entry_list_sort (rB xP u (λk F=>⟨?_,I k (r.mem_iff.mp F)⟩) ((r.map (·.1)).nodup_iff.mpr B) (by lia) λG g v q1 q2 q3 q4=>⟨_,rfl,?_⟩) (args_list_sort _)))
 .obtain⟨R,its,m,U,W,X,Y⟩:=hx k (r.mem_iff.mp F)
  exact⟨R,its,m,c _ _ U,W,X,Y⟩
 .refine Nb ⟨_,rfl,h n.objs.size G f v g (q1.trans r) q2 q3 p (λb d e=>q4 b d (λz=>?_) (c b d e)) M⟩
  have:=NU e;exact NW (z▸this) (Nat.not_lt.mpr p)
end
end L2.Hs
namespace L2.Hs
section
variable{j:N9}{w:Ol}
def rc(j:N9)(w:Ol)(a:Nh)(D:a0q)(h:OO):Prop:=
 ∃o E G t,h.get? a=My o/\o.ExactSet/\o.data= .set E G t/\(E.toList=D.map λx=>(hsh j w x.1,NH x.2))/\(D.map (·.1)).Nodup/\(Tb t (D.map λx=>hsh j w x.1))/\t.plain=Nf/\t.led=!(w.params.followText "set-order")
noncomputable def mv(j:N9)(w:Ol)(a:Nh)(D:a0q):HO:= .ext (rc j w a D)
theorem rc.to(S:rc j w a xs h)(D:∀x∈xs,(g_ j w).is h x.1 x.2):rb j w h a xs:=by
 obtain⟨o,E,G,t,b,c,d,e,f,g⟩:=S;exact⟨o,E,G,t,b,c,d,e,f,D,g⟩
theorem wu(S:rc j w a d h):bR j w H h a (mv j w a d):=by
 refine⟨S,?_,λb c z k=>?_⟩
 .obtain⟨o,_,_,_,e,_⟩:=S
  exact⟨o,e⟩
 .obtain⟨o,es,ep,t,e,r⟩:=z
  exact⟨o,es,ep,t,k _ e,r⟩
theorem EK{k:a0d}:∀{D:a0g},az (k.map V.n) D->ItemsAre (Um j w) k D:=by
 induction k with
 |nil=>intro D h;cases h;exact .nil
 |cons i k E=>
  intro D h;cases h with
  |cons a b=>
   obtain⟨t,rfl⟩:=a;exact .cons (by simp[Um,WQ]) (E b)
variable{X:Cx}
theorem mV{s:Nq}{k:a0d}(I:bt X ai d H s)(h:f_ X.K H b (k.map V.n)):(g_ X.p X.w).is s.heap k b:=by
 obtain⟨j,a,⟨o,e,c,n,D⟩,_⟩:=I.tuple h;exact⟨o,j.toArray,n,e,c,D,EK a⟩
theorem tb0{b:Bool}:Tb (.fresh 0 0 b) []:=⟨.inl rfl,rfl,λi j a b h=>by simp[XV]at*,λi j h=>by simp[XV]at h,rfl,by show 0*5<7*3;decide,λi h j c=>by simp at c⟩
theorem k9:∀a:a0q,az (a.map λz=>V.r z.2) (a.map λk=>NH k.2)
 |[]=> .nil
 |_::a=> .cons rfl (k9 a)
theorem HZ:ZA X (newSet (.type "set")) λD=>mv X.p X.w D []:=λa s c H E Q I h=>by
 unfold newSet setsByText;refine M8 (M8 (Ti (Nb ?_)))
 dsimp only
 simp only[newObj];refine M8 (wpAny_alloc (Nb (h _ (I.laid (t':=s.toks) (λ_ _ q=>Nd _ q) (No _) (wu ?_)) λb o e=>Nd _ e)));exact⟨_,#[],0,_,NE _ rfl,⟨rfl,rfl,rfl⟩,rfl,rfl,.nil,tb0,rfl,rfl⟩
def CW(P:N9)(w:Ol)(K:NR)(D:Nh)(e:TE):TB:=λd H Q=>e d H λv c=>∃j k b,c D=My (mv P w D j)/\v= .r b/\f_ K c b (k.map V.n)/\(∀x∈j,f_ K c x.2 (x.1.map V.n))/\SW j<63/\
 ∀a,(k∈j.map (·.1)->a=j)->(k∉j.map (·.1)->a.Perm ((k,b)::j))->Q d (upd c D (mv P w D a))
theorem uV{D:Nh}(p:X.A.units+1<Tv)(J:z[d+1]?=Na)(L:PE X elt te)(j:X.xe=λ_ _=>False):PB X (.S elt) z scope pos d D (CW X.p X.w X.K D te):=by
 intro a s y H Q I h k Q' E' N;unfold ii;rw[J];show ND _ _ ((do let v <-OQ elt X.e;SO elt.pos;let _ <-Vb (.builtin "set.add") [.ref D,v])>>=λ_=>k) _ _ _
 have c:=L a s y H _ I h;rw[j]at c;refine M8 (M8 (OL c (λu g l=>?_) λ_ _ f=>f.elim));obtain⟨v,H1,i,r,E,O,b,B,rfl,C,G,hn,q⟩:=l;cases r;have S:rc X.p X.w D E g.heap:=(i.hok D _ B).1;have P:rb X.p X.w g.heap D E:=S.to λx h=>mV i (G x h);obtain⟨o,M,V,t,R,T,_⟩:=S;refine M8 (Qk (M8 (Of F.slot_set_add ⟨o,R,T.1⟩ F.entry_set_add ?_ (F.args_set_add_2 _ _))));unfold Builtin.«set.add» Builtin.Frozenset.oneOther;simp only[List.isEmpty_nil,bind_assoc];unfold Builtin.Frozenset.addrOf setAdd;refine M8 (Nb ?_)
 try dsimp only
 refine M8 (Nb ?_)
 try dsimp only
 refine M8 (OT (M8 ((g_ X.p X.w).pyHash p (mV i C) ?_)));refine LN (s:={g with toks:=g.toks+(g_ X.p X.w).draws O}) p P (mV (s:=g) i C) hn λh' m sb U c1 c2=>?_;show ND _ _ (ret On) _ _ _;refine Nb ⟨_,rfl,Nb (N _ y _ (i.write (by rw[B];trivial) (.inl rfl) (λb u n e=>(sb.2 b n).trans e) ?_ (wu ?_)) (q m c1 c2))⟩
 all_goals obtain⟨o,M,V,t,c,l,W,Y,Z,G,h6⟩:=U
 .exact⟨o,c⟩
 .exact⟨o,M,V,t,c,l,W,Y,Z,h6⟩
def lj(c:Nh->HO)(j:a0j)(w:a0a)(d:TI)(lp:Nh->It->TB):TE:=λa H Q=>d a H λJ b=>∀D,b D=Na->lp D J (j7 j w a) (upd b D (c D)) λ_ e=>Q (.r D) e
theorem HL{d a b:Expr}{f:List Expr}{G:a0Q}{E:Scope}{K:SA}{j z:a0j}{br:a0a}{g:TG}{tt:TT}{o:a0Z}{p:TI}(r:X.calm=Nf)(S:cp X E j z br)(t:PI X a b p)
  (u:∀(M:a0n) (C:Nh) (k:a0r) (s:Nq) (H:Hp),PG (aM X j E M C k s H) a g/\d9 (aM X j E M C k s H) f tt/\∀D,PB (aM X j E M C k s H) (.S d) (⟨a,b,f,0⟩::G) E K 0 D (o D))
  (hs:∀x,OD b X.e x=P3 x:=by intro _;rfl):PE X (.SetComp d (⟨a,b,f,0⟩::G) E K) (lj (λD=>mv X.p X.w D []) z br p λD J=>dh J g tt (o D)):=by
 intro i s y H Q I h;refine Q0 (use:=Na) rfl hs (S.clo I.ok) S.kind S.h0 (OL (t i s y H _ I h) (λv W B=>OL B (λF Y L=>?_) λ_ _ x=>x) λ_ _ x=>x);obtain⟨it,k,Z,J,H2,e,N,T,l,f2,q⟩:=L;subst e;refine ig (c:= .S d) HZ (RR:=λV C=>WU (N0 X.p X.w) X.A X.xe Na _ V C) r S u N T l f2 q λD C s' O m P ns R U=>?_;exact⟨m,ns,λh' n=>⟨.r D,O,P.letgo R n,rfl,U⟩⟩
def wA(P:N9)(w:Ol)(K:NR):a0k->Hp->VK->Prop:=λD H Q=>∃a j,D=[.r a]/\H a=My (mv P w a j)/\(∀x∈j,f_ K H x.2 (x.1.map V.n)/\1<=SW x.1)/\SW j<64/\
 ∀(l:Nh) (b:a0q),H l=Na->b.Perm j->Up (b.map (·.1))->Q (.r l) (upd H l (.l (b.map λz=>V.r z.2)))
theorem v9(d:X.calm=Nf):c7 X (.builtin "sorted") (wA X.p X.w X.K):=by
 intro c s j H v y Q I r h;obtain⟨a,M,rfl,n,E,t,q⟩:=h;obtain⟨u,rfl,rfl⟩:=jo r;have S:rc X.p X.w a M s.heap:=(I.hok a _ n).1;refine xQ (I.ok.hd d) (S.to λx h=>mV I (E x h).1) (λx h=>(E x h).2) t λl A e f b p g i G D m=>?_;refine⟨.r l,_,I.laid (t':=e) (o:= .l (b.map λz=>V.r z.2)) D G ⟨?_,b.map λk=>NH k.2,f,?_,i⟩,rfl,q l b (I.hok.fresh G) p g⟩
 .rw[M9,p.length_eq,Ps];lia
 .exact k9 b
end
end L2.Hs
namespace L2.Pu
open L2.Hs
def ic(E:Nat)(G:a0a)(K:FL)(M:lu)(S:a0s)(b:FL)(a:a0b->a0l):FD:=λD V=>match K D V with
 |none=>Na
 |some (.error C,β1)=>My (.error C,β1)
 |some (.ok ds,β1)=>match mY M S b ds (j0 E G D) β1 with
  |some (.ok os,β2)=>(a os).map λd=>(.ok d,β2)
  |_=>Na
section
variable{K:NR}{E:a0t}
theorem rm{R:AR}{p:Nh->HO}{c:a0b->a0l}{S:a0j}{V:a0a}{s:FL}{g:TG}{M:lu}{tt:a0s}{O:a0Z}{b:FL}(X:cQ K g M)(Y:d7 M)(hb:∀D,fj K R D (O D) b)
  (r0:∀F H D,R.R F (upd H D (p D)) D []) (hp:∀os d,c os=My d->R.Z os) {P:St} {H:Hp} {Q T:VK} (h:tV K (ic (SW S) V s M tt b c) E P H T)
  (k:∀F B f D os d,Fr F B f->¬F.A D->R.R F B D os->c os=My d->(∀v j,To F B j f->bc K F j d v->T v j)->Q (.r D) B):
  lj p S V (iV K s E) (λD J=>dh J g (hL K tt E0) (O D)) P H Q:=by
 obtain⟨F,δ,β,fr,U,r,f,e,h⟩:=h;unfold ic at e;refine⟨F,δ,β,fr,U,?_⟩;split at e
 .cases e
 .rename_i C β1 q
  cases e;exact⟨.error C,_,q,h⟩
 .rename_i ds β1 q
  split at e
  .rename_i os β2 q2
   cases G:c os with
   |none=>rw[G]at e;cases e
   |some d=>
    rw[G]at e;cases e;refine⟨.ok ds,β1,q,λJ I t hJ D m=>?_⟩;have i:¬F.A D:=t.fr.fresh m;have nb:∀b l,F.bg=My (b,l)->D≠b/\D≠l:=λb l z=>⟨λw=>i (w▸(fr.bgA b l z).1),λw=>i (w▸(fr.bgA b l z).2.1)⟩;have t2:=t.fr.upd (p D) m;have L:Fr ⟨λa=>F.A a\/a=D,F.bg⟩ (upd I D (p D)) β1:=by
     refine⟨λa ha z=>?_,λb l z=>let ⟨x,y,w⟩:=fr.bgA b l z;⟨.inl x,.inl y,w⟩,t2.fr.bag⟩
     rcases ha with ha|ha
     .exact t2.fr.occ a ha z
     .subst ha;rw[aw]at z;cases z
    have u:Tr F I ⟨λa=>F.A a\/a=D,F.bg⟩ (upd I D (p D)):=⟨λa ha hs z=>by
     rcases z with z|z
     .exact ha z
     .subst z;exact hs m,λa o ha z=>by rw[a_ (aI z m)];exact z,rfl⟩
    refine mT (R:=R) (D:=D) (as:=[]) (os:=os) X Y (hb D) L (.inr rfl) nb (qm (U.tr ((t.tr fr).trans u))) (r0 _ _ _) (hJ.tr u) q2 (hp os d G) λaa j t3 ab N=>?_;have W:To F I j f:=by
     refine⟨λa o z n=>t3.kp a o (by rw[a_ (aI z m)];exact z) (aI z m) n,λa ha z=>t3.fr.occ a (P5 ha) z,fr.bgA,t3.fr.bag⟩
    exact k F j f D os d W.fr i (R.tr (F:=⟨λa=>F.A a\/a=D,F.bg⟩) N (λ_ z=>z) ⟨λa ha _ z=>ha (P5 z),λa o _ z=>z,rfl⟩) G λv H3 t4 hv=>h v H3 ((t.trans W).trans t4) hv
  .cases e
noncomputable abbrev hE(k:a0d):D:= .t (k.map .n)
theorem qX{k:a0d}(h:bc K F H (hE k) v):∃b,v= .r b/\f_ K H b (k.map V.n):=by
 obtain⟨a,E,rfl,D,c⟩:=bc.f5 h;cases aj.o7 k c;exact⟨a,rfl,D⟩
theorem fm(h:hE k=hE l):k=l:=by
 injection h with h
 exact UT (λa b z=>by injection z)|>.mp h
theorem nd_len{D:Type} [BEq D] [LawfulBEq D]:∀{l m:List D},l.Nodup->(∀x∈l,x∈m)->SW l<=SW m
 |[],_,_,_=>OH _
 |a::l,m,nd,h=>by
  obtain⟨b,c⟩:=OE.mp nd;have:=nd_len (m:=m.erase a) c λx E=>(List.mem_erase_of_ne (λ(z:x=a)=>b (z▸E))).mpr (h x (Nk a E));rw[List.length_erase_of_mem (h a Np)]at this;have:=List.length_pos_of_mem (h a Np);rw[NB];lia
noncomputable def RS(P:N9)(w:Ol)(K:NR):AR where
 R:=λF H D G=>∃E,H D=My (mv P w D E)/\(E.map (·.1)).Nodup/\(∀x∈E,bc K F H (hE x.1) (.r x.2)/\hE x.1∈G)/\∀d∈G,∃k∈E.map (·.1),d=hE k
 Z:=λl=>∃a:LI,SW a<63/\∀d∈l,∃k∈a,d=hE k
 tr:=λh k t=>by
  obtain⟨E,b,c,e,f⟩:=h;exact⟨E,k _ b,c,λx M=>⟨bc.tr t _ _ (e x M).1,(e x M).2⟩,f⟩
 zp:=λh=>by
  obtain⟨a,b,c⟩:=h;exact⟨a,b,λd S=>c d (QI _ S)⟩
theorem Ez{D:Nh}:fj K (RS P w K) D (CW P w K D (tV K f E0)) (ko f):=λF H δ β r O as os Q fr R u I T e U k=>by
 obtain⟨E,W,s,G,ha⟩:=T;obtain⟨d,aa,X,Y⟩:=M.f5 e;cases Y;refine⟨F,δ,β,fr,I,E0.run X λv A t J=>?_⟩;have B:=t.kp D _ W u;obtain⟨Z,z1,L⟩:=U;obtain⟨j,ab,rfl⟩:=L d (Oz _ Np);obtain⟨b,rfl,sq⟩:=qX J;have c:∀x∈E,bc K F A (hE x.1) (.r x.2):=λx h=>bc.tr (t.tr fr) _ _ (G x h).1;have g:SW E<63:=by
  have:=nd_len (m:=Z) s λx C=>by
   obtain⟨y,hy,rfl⟩:=Nm.mp C;obtain⟨l,hl,e⟩:=L _ (QI _ (G y hy).2);rw[fm e];exact hl
  rw[M9]at this;lia
 refine⟨E,j,b,B,rfl,sq,λx h=>?_,g,λi c1 c2=>?_⟩
 .obtain⟨b',e,q⟩:=qX (c x h)
  cases e;exact q
 have N:l_ F D A (upd A D (mv P w D i)) r:=by
  refine⟨λa o h n _=>by rw[a_ n];exact h,λa h q=>?_,fr.bgA,λb l q=>?_⟩
  .by_cases z:a=D
   .subst z;rw[aw]at q;cases q
   .rw[a_ z]at q;exact t.fr.occ a h q
  .rw[a_ (u b l q).1.symm,a_ (u b l q).2.symm]
   exact t.fr.bag b l q
 have S:=N.tr t.fr R;refine k O _ ((t.toD D).trans N) (I.tr ((t.tr fr).trans S)) ⟨i,aw,?_⟩;by_cases V:j∈E.map (·.1)
 .cases c1 V
  refine⟨s,λx h=>⟨bc.tr S _ _ (c x h),QI _ (G x h).2⟩,λd hd=>?_⟩;rcases N4.mp hd with hd|hd
  .exact ha d hd
  .exact⟨j,V,NT.mp hd⟩
 .have p:=c2 V
  refine⟨(p.map (·.1)).nodup_iff.mpr (OE.mpr ⟨V,s⟩),λx h=>?_,λd hd=>?_⟩
  .rcases NC.mp (p.mem_iff.mp h)with rfl|h
   .exact⟨bc.tr S _ _ J,Oz _ Np⟩
   .exact⟨bc.tr S _ _ (c x h),QI _ (G x h).2⟩
  .rcases N4.mp hd with hd|hd
   .obtain⟨k2,h2,e⟩:=ha d hd
    exact⟨k2,(p.map (·.1)).mem_iff.mpr (Nk _ h2),e⟩
   .exact⟨j,(p.map (·.1)).mem_iff.mpr Np,NT.mp hd⟩
def Yw(a:LI)(D:a0b):Prop:=Up a/\SW a<63/\(∀k∈a,1<=SW k/\hE k∈D)/\∀d∈D,∃k∈a,d=hE k
theorem Yw.eq{D:a0b}(a:Yw d D)(b:Yw ls D):d=ls:=mE a.1 b.1 λx=>⟨λh=>by
 obtain⟨l,c,e⟩:=b.2.2.2 _ (a.2.2.1 x h).2;rw[fm e];exact c,λh=>by
 obtain⟨l,c,e⟩:=a.2.2.2 _ (b.2.2.1 x h).2;rw[fm e];exact c⟩
open Classical in
def gn(D:a0b):a0l:=if h:∃a,Yw a D then My (.l (h.choose.map hE))else Na
theorem ur{a:LI}{D:a0b}(h:Yw a D):gn D=My (.l (a.map hE)):=by
 have q:∃a,Yw a D:=⟨a,h⟩;unfold gn;rw[Wl q,q.choose_spec.eq h]
theorem jp{D:a0b}(h:gn D=My d):∃a,Yw a D/\d= .l (a.map hE):=by
 unfold gn at h;split at h
 .rename_i q
  cases h;exact⟨_,q.choose_spec,rfl⟩
 .cases h
theorem me:∀{a:a0q},(∀z∈a,bc K F H (hE z.1) (.r z.2))->aj K F H ((a.map (·.1)).map hE) (a.map λz=>V.r z.2)
 |[],_=>aj.f5
 |z::a,h=>aj.cons (h z Np) (me λx D=>h x (Nk z D))
end
section
variable{X:Cx}{E:a0t}{ag bb ab:Expr}{ad:List Expr}{ac:a0Q}{aa:Scope}{af p ae:SA}{Nc b_:a0j}{br:a0a}{g:TG}{tb:a0Z}
theorem DM(f:Gl X "sorted")(hm:X.mg "sorted"=Na)(k:X.calm=Nf)(S:cp X aa Nc b_ br)(n:PI X bb ab (iV X.K it E))
  (o:∀(V:a0n) (C:Nh) (i:a0r) (s:Nq) (H:Hp),PG (aM X Nc aa V C i s H) bb g/\d9 (aM X Nc aa V C i s H) ad (hL X.K tt E0)/\∀D,PB (aM X Nc aa V C i s H) (.S ag) (⟨bb,ab,ad,0⟩::ac) aa af 0 D (tb D))
  (r:cQ X.K g tg) (t:d7 tg) (u:∀D,fj X.K (RS X.p X.w X.K) D (tb D) b) (hs:∀x,OD ab X.e x=P3 x:=by intro _;rfl):
  PE X (.Call (.Name "sorted" p) [.SetComp ag (⟨bb,ab,ad,0⟩::ac) aa af] [] ae) (tV X.K (ic (SW b_) br it tg tt b gn) E):=
 (kx (v9 k) f hm (by kernel_rfl) (eM (HL k S n o hs) hX)).imp λU H Q h=>by
  refine rm (Q:=λv A=>wA X.p X.w X.K [v] A Q) r t u (λF H D=>⟨[],aw,.nil,λx G=>NW G (by simp),λd hd=>NW hd (by simp)⟩) (λos d e=>?_) h λF W B D os d fr I J e q=>?_
  .obtain⟨a,s,_⟩:=jp e
   exact⟨a,s.2.1,s.2.2.2⟩
  .obtain⟨a,s,rfl⟩:=jp e
   obtain⟨xs,L,nd,G,ha⟩:=J;have j:∀x∈xs,x.1∈a:=λx h=>by
    obtain⟨l,c,e⟩:=s.2.2.2 _ (G x h).2;rw[fm e];exact c
   have hn:SW xs<64:=by
    have:=nd_len (m:=a) nd λy M=>by
     obtain⟨x,h,rfl⟩:=Nm.mp M;exact j x h
    rw[M9]at this;have:=s.2.1;lia
   refine⟨D,xs,rfl,L,λx h=>?_,hn,λl N c pm O=>?_⟩
   .obtain⟨Y,e,q⟩:=qX (G x h).1
    cases e;exact⟨q,(s.2.2.1 _ (j x h)).1⟩
   .have P:a=N.map (·.1):=mE s.1 O λy=>by
     refine⟨λM=>?_,λM=>?_⟩
     .obtain⟨Z,R,e⟩:=ha _ (s.2.2.1 y M).2
      rw[fm e];exact(pm.map (·.1)).mem_iff.mpr R
     .obtain⟨x,h,rfl⟩:=Nm.mp ((pm.map (·.1)).mem_iff.mp M)
      exact j x h
    rw[P]at q;exact q _ _ (fr.upd _ c) (bc.k4 fr c (me λz T=>(G z (pm.mem_iff.mp T)).1))
end
end L2.Pu
namespace L2.Hs
section
variable{I:N9}{w:Ol}{A:Ot}{E:a0e}{s:Nq}
def u_(I:N9)(w:Ol)(h:OO)(k:dv)(a:Nh):Prop:=∃o n t b,h.get? a=My o/\o.cls= .type "tuple"/\o.data= .seq #[.int k.1 t,.ref b] n/\(g_ I w).is h k.2 b
theorem u_.ty(x:u_ I w s.heap k a):s.TypeIs (.ref a) "tuple":=let ⟨o,_,_,_,ho,hc,_⟩:=x;⟨o,ho,hc⟩
theorem u_.inj(s:u_ I w h x a)(A:u_ I w h y a):x=y:=by
 obtain⟨o,n,t,b,f,_,D,g⟩:=s;obtain⟨i,l,E,m,d,_,c,e⟩:=A;obtain rfl:o=i:=N6 (f.symm.trans d);rw[D]at c;simp only[Data.seq.injEq,Array.mk.injEq,QX,Rt.injEq,NH.injEq]at c;obtain⟨⟨⟨j,_⟩,k,_⟩,_⟩:=c;subst k;exact Qr j ((g_ I w).inj g e)
theorem Km(k:a0d):hsh I w k=hI k:=by unfold hsh hI;show tupleKeyHash _ _=_;unfold tupleKeyHash;rfl
theorem Kn{k:dv}(g:A.units+1<Tv)(f:u_ I w s.heap k a)(h:Q (hB Nf k) {s with toks:=s.toks+(SW k.2+3)}):ND (N0 I w) A (pyHash (.ref a)) Q E s:=by
 have c:=f.ty;obtain⟨o,n,t,b,i,_,G,j⟩:=f;unfold pyHash
 first|unfold pyHashByItsType|skip
 refine M8 (wpAny_cRoomFor_or (.inr (by lia)) ?_);refine M8 (QS c F.slot_tuple_hash.lookup ?_);show ND _ _ (if(My (Value.builtin "tuple.__hash__")==My On)=Nf then _ else _) Q E s;rw[Nv (by rw[beq_builtin_none];exact Nz)];refine M8 (QS c F.slot_tuple_hash.lookup ?_);show ND _ _ (callSpecialIfBoundUnlessNone? (.ref a) "__hash__" _>>=_) Q E s;refine M8 (wpAny_callSpecialIfBoundUnlessNone?_slot c F.slot_tuple_hash (Of F.slot_tuple_hash c F.entry_tuple_hash ?_ (F.args_tuple_hash_1 _)));show ND _ _ (Sx (.ref a)>>=_) _ _ s;refine M8 (Vt i G ?_);refine M8 ?_;rw[<-RT];simp only[Rc,Rn];refine M8 (M8 (wpAny_pyHash_int ?_));refine Nb (M8 (M8 ((g_ I w).pyHash g j ?_)));refine Nb (Nb ?_);have D:Q (hB Nf k) {s with toks:=s.toks+1+(SW k.2+1)+1}:=by
  have e:s.toks+1+(SW k.2+1)+1=s.toks+(SW k.2+3):=by lia
  rw[e];exact h
 refine wpAny_ret_mkInt ?_;generalize l:SG _=z;have m:hB Nf k=reduceHash z:=by rw[<-l,show(g_ I w).hash k.2=hI k.2 from Km k.2];rfl
 rw[m]at D;show ND _ _ (if(decide (-(2:Int)^63<=z)&&decide (z<2^63))=Nf then _ else _) Q E _;unfold reduceHash at D;by_cases d:(decide (-(2:Int)^63<=z)&&decide (z<2^63))=Nf
 .rw[Nu d]
  rw[Nu d]at D;exact Nb D
 .rw[Nv d]
  rw[Nv d]at D;exact M8 (PH (Nb D))
theorem eq_p(o:A.units+1<Tv)(D:u_ I w s.heap x a)(G:u_ I w s.heap y b)(h:Q (decide (x=y)) s):ND (N0 I w) A (eqBool (.ref a) (.ref b)) Q E s:=by
 unfold eqBool
 try with_reducible refine OT ?_
 show ND _ _ (if(NH a==NH b)=Nf then _ else _) Q E s;by_cases c:(NH a==NH b)=Nf
 .rw[Nu c]
  have e:a=b:=by have:=eq_of_beq c;injection this
  subst e;obtain rfl:=D.inj G;exact M8 (PH (Nb (by simpa using h)))
 .rw[Nv c]
  refine M8 (wpAny_richCompare_same_room (op:= .Eq) D.ty G.ty F.slot_tuple_eq
   (Of F.slot_tuple_eq D.ty F.entry_tuple_eq ?_ (F.args_tuple_eq_2 _ _)) (by lia))
  have g:=G.ty;obtain⟨p,q,r,t,i,_,j,k⟩:=D;obtain⟨u,v,B,C,l,_,m,n⟩:=G;show ND _ _ (Vr (.ref b) (.type "tuple")>>=_) _ _ s;refine M8 (PY g UR ?_);simp only[Qv,NO,OF];refine M8 (Vt i j ?_);refine M8 (Vt l m ?_);refine M8 ?_;simp only[PP,T5,Rc,Rn];refine M8 (M8 ((Um I w).eqBool (a:=x.1) (b:=y.1) (by simp[Um,WQ]) (by simp[Um,WQ]) ?_));by_cases d:x.1=y.1
  .rw[NF d]
   refine Nb (M8 (M8 ((g_ I w).eqBool o k n ?_)));by_cases f:x.2=y.2
   .rw[NF f]
    rw[NF (Qr d f)]at h;exact Nb (Nb (Nb ⟨_,rfl,(λe=>nomatch e),O9 h⟩))
   .rw[Oo f]
    rw[Oo (λe=>f (Ou _ e))]at h;exact M8 (Nb (Nb (Nb (Nb ⟨_,rfl,(λe=>nomatch e),O9 h⟩))))
  .rw[Oo d]
   rw[Oo (λe=>d (Ou _ e))]at h;exact M8 (Nb (Nb (Nb (Nb ⟨_,rfl,(λe=>nomatch e),O9 h⟩))))
theorem HE(f:(g_ I w).is s.heap k a)(h:Q Nf s):ND (N0 I w) A (X0 (m+1) (.ref a)) Q E s:=by
 have g:=Wr f;obtain⟨o,c,n,i,_,K,j⟩:=f;unfold X0;refine M8 (QS g F.slot_tuple_eq.lookup ?_);show ND _ _ (Vr (.ref a) (.type "tuple")>>=_) _ _ s;refine M8 (PY g UR ?_);simp only[Qv,NO,OF];refine M8 (PQ i K ?_);refine M8 ?_;show ND _ _ (WW c _ _) _ _ s;rw[<-RT];refine Tj _ (λD r G=>r.1=Na/\G=s/\∀v∈D,carriedByValue v=Nf) _ ?_ ?_ _ _ ⟨rfl,rfl,j.byValue⟩
 .rintro v D r G ⟨d,rfl,b⟩
  rw[eqIsQuiet_byValue _ (b v Np)];refine M8 (Nb ?_);simp only[Qv,NO,OF];exact Nb ⟨rfl,rfl,λu e=>b u (Nk _ e)⟩
 .rintro⟨r1,l⟩ G ⟨d,rfl,_⟩
  simp only at d;subst d;exact Nb h
theorem HF(c:u_ I w s.heap k a)(h:Q Nf s):ND (N0 I w) A (X0 8 (.ref a)) Q E s:=by
 have d:=c.ty;obtain⟨o,n,t,b,e,_,D,f⟩:=c;unfold X0;refine M8 (QS d F.slot_tuple_eq.lookup ?_);show ND _ _ (Vr (.ref a) (.type "tuple")>>=_) _ _ s;refine M8 (PY d UR ?_);simp only[Qv,NO,OF];refine M8 (PQ e D ?_);refine M8 ?_;show ND _ _ (WW #[Rt k.1 t,NH b] _ _) _ _ s;rw[<-RT];simp only[Rc,Rn];rw[eqIsQuiet_byValue _ (v:= .int k.1 t) rfl];exact M8 (M8 (Nb (Nb (M8 (M8 (HE (m:=6) f (Nb (Nb (Nb h)))))))))
def PKd(I:N9)(w:Ol):HeapKind I w dv where
 is:=u_ I w
 hash:=hB Nf
 draws:=λk=>SW k.2+3
 room:=λA=>A.units+1<Tv
 inj:=λs D=>s.inj D
 keeps:=λx f E G=>by
  obtain⟨g,n,t,b,c,i,a,j⟩:=x;refine⟨g,n,t,b,(G.2 _ ?_).trans c,i,a,(g_ I w).keeps j f E G⟩;rintro rfl;obtain rfl:=N6 (c.symm.trans f);rw[E]at a;exact nomatch a
 pyHash:=λd e h=>Kn d e h
 eqBool:=λd s D h=>eq_p d s D h
 quiet:=λe h=>HF e h
def FKd(I:N9)(w:Ol):HeapKind I w dv where
 is:=λh k a=>k.1=0/\(g_ I w).is h k.2 a
 hash:=hB Ni
 draws:=λk=>SW k.2+1
 room:=λA=>A.units+1<Tv
 inj:=λD G=>Qr (D.1.trans G.1.symm) ((g_ I w).inj D.2 G.2)
 keeps:=λx f K M=>⟨x.1,(g_ I w).keeps x.2 f K M⟩
 pyHash:=λc d h=>(g_ I w).pyHash (Ph c) d.2 h
 eqBool:=λ{A E s x y a b Q} c D G h=>(g_ I w).eqBool (Ph c) D.2 G.2 (by
  have e:decide (x.2=y.2)=decide (x=y):=by
   by_cases q:x.2=y.2
   .rw[NF q,NF (Qr (D.1.trans G.1.symm) q)]
   .rw[Oo q,Oo (λz=>q (Ou _ z))]
  rw[e];exact h)
 quiet:=λd h=>(g_ I w).quiet d.2 h
def KB(I:N9)(w:Ol):Bool->HeapKind I w dv
 |true=>PKd I w
 |false=>FKd I w
theorem qP{b:Bool}:(KB I w b).hash=hB b:=by cases b<;>rfl
theorem qO{b:Bool}{A:Ot}(h:A.units+1<Tv):(KB I w b).room A:=by cases b<;>exact h
def E_(K:NR)(H:Hp):Bool->dv->Nh->Prop
 |true,k,c=>∃e,f_ K H c [.n k.1,.r e]/\f_ K H e (k.2.map V.n)
 |false,k,c=>k.1=0/\f_ K H c (k.2.map V.n)
abbrev XY(x:dv×Nh×V)(y:dv×Nh×Nj):Prop:=x.1=y.1/\x.2.1=y.2.1/\aS x.2.2 y.2.2
theorem jM:∀{xs:a0p} {s:a0B},TM XY xs s->xs.map (·.1)=s.map (·.1)
 |_,_,.nil=>rfl
 |_,_,.cons h t=>by rw[NI,NI,h.1,jM t]
theorem y9:∀{s:a0p} {w:a0B},TM XY s w->∀y∈w,∃x∈s,XY x y
 |_,_,.nil,y,h=>by cases h
 |_,_,.cons (a:=a) h t,y,hy=>by
  rcases NC.mp hy with rfl|hy
  .exact⟨a,Np,h⟩
  .obtain⟨x,hx,e⟩:=y9 t y hy
   exact⟨x,Nk _ hx,e⟩
noncomputable def uX(xs:a0p)(k:dv):Option V:=(xs.find? λx=>decide (x.1=k)).map (·.2.2)
theorem qu:∀{s:a0p} {w:a0B},TM XY s w->iw (uX s k) ((XW w k).map (·.2))
 |_,_,.nil=>by simp[uX,XW,iw]
 |_,_,.cons (a:=a) (b:=b) h t=>by
  have A:=qu (k:=k) t;unfold uX XW at A⊢;rw[Rb,Rb,<-h.1];by_cases q:a.1=k
  .rw[NF q];exact h.2.2
  .rw[Oo q];exact A
theorem qt(h:XY x y):∀{s:a0p} {w:a0B},TM XY s w->TM XY (s++[x]) (w++[y])
 |_,_,.nil=> .cons h .nil
 |_,_,.cons h' t=> .cons h' (qt h t)
variable{X:Cx}{ai:a0c}{z:St}{H:Hp}
theorem pQ{b:Bool}(I:bt X ai z H s)(h:E_ X.K H b k c):(KB X.p X.w b).is s.heap k c:=by
 cases b with
 |true=>
  obtain⟨e,a,d⟩:=h;obtain⟨A,f,⟨o,g,i,n,D⟩,_⟩:=I.tuple a;obtain⟨j,l,rfl,⟨t,rfl⟩,rfl⟩:=xD f;exact⟨o,n,t,e,g,i,D,mV I d⟩
 |false=>exact⟨h.1,mV I h.2⟩
theorem Yt{ai:a0c}{z:St}{H:Hp}{s:Nq}(I:bt X ai z H s):Th<s.heap.objs.size:=U9 (by decide) (show Qg<s.heap.objs.size from(I.mod.glob.keeps I.bk).lt)
theorem qf{b:Bool}(I:bt X ai z H s)(d:H a=My (cU a b p xs))(e:∀x∈xs,E_ X.K H b x.1 x.2.1):∃A,s.heap.DictOfH (KB X.p X.w b) a A/\TM XY xs A/\SW A<=NN/\(a==Th)=Ni:=by
 obtain⟨o,D,A,f,g,h,i,j,k,l,c⟩:yZ a b p xs s.heap:=(I.hok a _ d).1;refine⟨A,⟨o,D,p,f,g,h,?_,λy E=>?_,j⟩,c,l,k⟩
 .rw[i];unfold entryOfKey;rw[qP]
 .obtain⟨x,hx,m,n,_⟩:=y9 c y E
  rw[<-m,<-n];exact pQ I (e x hx)
def Jz(K:NR):R2:=λx y H Q=>∃a b w s k c v,x= .r a/\y= .r c/\H a=My (cU a b w s)/\(∀x∈s,E_ K H b x.1 x.2.1)/\E_ K H b k c/\uX s k=My v/\Q v H
theorem pR(l:X.A.units+2<Tv):F3 X (Jz X.K):=by
 intro g i ai s z H x y v u Q I m n h w;obtain⟨a,b,G,M,k,c,o,rfl,rfl,t,B,C,J,q⟩:=h;cases m;cases n;obtain⟨D,d,p,_,_⟩:=qf I t B;have f:=qu (k:=k) p;rw[J]at f;cases e:XW D k with
 |none=>rw[e]at f;exact f.elim
 |some r=>
  rw[e]at f;exact UK (x:=r.2) d.typeIs PySem.F.slot_dict_getitem.lookup (wpAny_getItem_heap (Q:=λj E=>j=r.2/\EP X ai z Q j E) (qO l) (pQ I C) d e ⟨rfl,o,H,I.tok _,f,q⟩) w
theorem oi{b:Bool}:ZA X newDict λD=>cU D b 0 []:=λai s z H E Q I h=>Oh (h _ (I.laid (t':=s.toks) (λ_ _ q=>Nd _ q) (No _) (qY ⟨_,#[],[],NE _ rfl,⟨rfl,rfl,rfl⟩,rfl,rfl,.nil,Uy.mpr (Ne.symm (Ov (Yt I))),OH _,.nil⟩)) λb o e=>Nd _ e)
def CY(K:NR)(b:Bool)(D:Nh)(e f:TE):TB:=λz H Q=>e z H λx g=>f z g λy a=>∃w s k c,x= .r c/\a D=My (cU D b w s)/\(∀x∈s,E_ K a b x.1 x.2.1)/\E_ K a b k c/\k∉s.map (·.1)/\SW s<NN/\∀d,Q z (upd a D (cU D b d (s++[(k,c,y)])))
theorem kB{D:Nh}{b:Bool}(L:X.A.units+1<Tv)(N:gens[d+1]?=Na)(O:PE X ke tk)(P:PE X ve tv)(a:X.xe=λ_ _=>False):PB X (.D ke ve) gens scope pos d D (CY X.K b D tk tv):=by
 intro ai s z H Q I h k Q' E' R;unfold ii;rw[N];show ND _ _ (Zr (.D ke ve) (.ref D) X.e>>=λ_=>k) _ _ _;unfold Zr;have t:=O ai s z H _ I h;rw[a]at t;refine M8 (M8 (OL t (λu T U=>?_) λ_ _ f=>f.elim));obtain⟨v,W,Y,r,G⟩:=U;have B:=P ai T z W _ Y G;rw[a]at B;refine M8 (OT (OL B (λu2 s2 Z=>?_) λ_ _ f=>f.elim));obtain⟨v2,H2,i,M,S,V,j,c,rfl,C,hx,hc,hn,hl,q⟩:=Z;cases r;obtain⟨w,dd,p,hz,l⟩:=qf i C hx;have F:=jM p;have e0:XW w j=Na:=by
  cases e:XW w j with
  |none=>rfl
  |some r=>
   exfalso
   unfold XW at e;cases m:w.find? (λx=>decide (x.1=j))with
   |none=>rw[m]at e;cases e
   |some y=>
    have:=List.find?_some m;exact hn (by rw[F];exact Nm.mpr ⟨y,V2 m,OR this⟩)
 refine M8 (Qk (OT (wpAny_dictSet_heap (qO L) (pQ i hc) dd (λh' E sb=>?_) hz)));rw[storedH_new e0]at E;obtain⟨o,es,ep,J,g2,g3,g4,g5,g6⟩:=E;have g:SW w=SW V:=by rw[<-M9 (f:=(·.1)),<-F,M9]
 refine R _ z _ (i.write (by rw[C];trivial) (.inl rfl) (λb u n e=>(sb.2 b n).trans e) ⟨o,J⟩ (qY ⟨o,es,_,J,g2,g3,?_,g6,l,?_,qt ⟨rfl,rfl,M⟩ p⟩)) (q ep)
 .rw[g4];unfold entryOfKey;rw[qP]
 .rw[Nw,g,Oy];lia
theorem Ed{b:Bool}{k l a d:Expr}{f:List Expr}{G:a0Q}{E:Scope}{K:SA}{i b_:a0j}{br:a0a}{g:TG}{tt:TT}{p:a0Z}{r:TI}(t:X.calm=Nf)(S:cp X E i b_ br)(u:PI X a d r)
  (y:∀(M:a0n) (C:Nh) (j:a0r) (s:Nq) (H:Hp),PG (aM X i E M C j s H) a g/\d9 (aM X i E M C j s H) f tt/\∀D,PB (aM X i E M C j s H) (.D k l) (⟨a,d,f,0⟩::G) E K 0 D (p D))
  (hs:∀x,OD d X.e x=P3 x:=by intro _;rfl):PE X (.DictComp k l (⟨a,d,f,0⟩::G) E K) (lj (λD=>cU D b 0 []) b_ br r λD J=>dh J g tt (p D)):=by
 intro ai s z H Q I h;refine Q0 (use:=Na) rfl hs (S.clo I.ok) S.kind S.h0 (OL (u ai s z H _ I h) (λv W B=>OL B (λF Y L=>?_) λ_ _ x=>x) λ_ _ x=>x);obtain⟨it,j,Z,J,H2,e,N,T,n,f2,q⟩:=L;subst e;refine ig (c:= .D k l) oi (RR:=λV C=>WU (N0 X.p X.w) X.A X.xe Na _ V C) t S y N T n f2 q λD C s' O m P ns R U=>?_;exact⟨m,ns,λh' o=>⟨.r D,O,P.letgo R o,rfl,U⟩⟩
end
end L2.Hs
namespace L2.Pu
open L2.Hs
def dK:Bool->dv->D
 |true,k=> .t [.n k.1,hE k.2]
 |false,k=>hE k.2
def xr(b:Bool)(k:dv):Prop:=b=Ni->k.1=0
theorem KM{b:Bool}(a:xr b k)(c:xr b l)(h:dK b k=dK b l):k=l:=by
 cases b with
 |true=>
  simp only[dK,D.t.injEq,QX,D.n.injEq,and_true]at h;exact Qr h.1 (fm (Ou D.t h.2))
 |false=>exact Qr ((a rfl).trans (c rfl).symm) (fm h)
section
variable{K:NR}{F:Fx}{H:Hp}{E:a0t}
theorem vP(h:bc K F H (.t b) v):∃a D,v= .r a/\TQ K F H a D/\aj K F H b D:=by
 unfold bc at h;exact h
theorem oR(h:TQ K F H a b)(D:aj K F H c b):bc K F H (.t c) (.r a):=by
 unfold bc;exact⟨a,b,rfl,h,D⟩
theorem TQ.sq(h:TQ K F H c a):f_ K H c a:=h.imp (·.2) id
theorem fQ.s{b:Bool}(h:fQ K F H b k c):E_ K H b k c:=by
 cases b with
 |true=>
  obtain⟨e,a,d⟩:=h;exact⟨e,a.sq,d.sq⟩
 |false=>exact⟨h.1,h.2.sq⟩
theorem fQ.z{b:Bool}(h:fQ K F H b k c):xr b k:=λe=>by subst e;exact h.1
theorem yw{b:Bool}(g:xr b k)(h:bc K F H (dK b k) v):∃c,v= .r c/\fQ K F H b k c:=by
 cases b with
 |true=>
  obtain⟨a,D,rfl,q,d⟩:=vP h;obtain⟨i,j,rfl,E,G⟩:=aj.o8 d;cases E.int;obtain⟨e,S,rfl,M,f⟩:=vP G;cases aj.o7 k.2 f;exact⟨a,rfl,e,q,M⟩
 |false=>
  obtain⟨a,D,rfl,q,d⟩:=vP h;cases aj.o7 k.2 d;exact⟨a,rfl,g rfl,q⟩
theorem yc{b:Bool}(h:fQ K F H b k c):bc K F H (dK b k) (.r c):=by
 cases b with
 |true=>
  obtain⟨e,a,d⟩:=h;exact oR a (aj.cons rfl (aj.cons (oR d (aj.k4 k.2)) aj.f5))
 |false=>exact oR h.2 (aj.k4 k.2)
abbrev v3(b:Bool)(p:dv×D):D:= .t [dK b p.1,p.2]
def Dk(b:Bool)(E:List (dv×D))(F:a0b):Prop:=F=E.map (v3 b)/\(E.map (·.1)).Nodup/\SW E<=NN/\∀p∈E,xr b p.1
theorem HQ{b:Bool}{p q:dv×D}(a:xr b p.1)(c:xr b q.1)(h:v3 b p=v3 b q):p=q:=by
 simp only[v3,D.t.injEq,QX,and_true]at h;exact Qr (KM a c h.1) h.2
theorem kD{b:Bool}:∀{l m:List (dv×D)},(∀p∈l,xr b p.1)->(∀p∈m,xr b p.1)->l.map (v3 b)=m.map (v3 b)->l=m
 |[],[],_,_,_=>rfl
 |[],_::_,_,_,h=>by cases h
 |_::_,[],_,_,h=>by cases h
 |p::l,q::m,hl,hm,h=>by
  rw[NI,NI,QX]at h;rw[HQ (hl p Np) (hm q Np) h.1,kD (λx E=>hl x (Nk _ E)) (λx E=>hm x (Nk _ E)) h.2]
theorem Dk.eq{b:Bool}{D:a0b}(x:Dk b l D)(y:Dk b m D):l=m:=kD x.2.2.2 y.2.2.2 (x.1.symm.trans y.1)
open Classical in
def kQ(b:Bool)(E:a0b):a0l:=if h:∃D,Dk b D E then My (.dct b (h.choose.map (·.1)) (h.choose.map (·.2)))else Na
theorem xp{b:Bool}{kvs:List (dv×D)}{E:a0b}(h:Dk b kvs E):kQ b E=My (.dct b (kvs.map (·.1)) (kvs.map (·.2))):=by
 have q:∃kvs,Dk b kvs E:=⟨kvs,h⟩;unfold kQ;rw[Wl q,q.choose_spec.eq h]
theorem vR{b:Bool}{E:a0b}(h:kQ b E=My d):∃D,Dk b D E/\d= .dct b (D.map (·.1)) (D.map (·.2)):=by
 unfold kQ at h;split at h
 .rename_i q
  cases h;exact⟨_,q.choose_spec,rfl⟩
 .cases h
noncomputable def RD(K:NR)(b:Bool):AR where
 R:=λF H D S=>∃M,∃a:List ((dv×Pu.D)×Nh×V),S=a.map (λz=>v3 b z.1)/\H D=My (cU D b M (a.map λz=>(z.1.1,z.2)))/\∀z∈a,fQ K F H b z.1.1 z.2.1/\bc K F H z.1.2 z.2.2
 Z:=λl=>∃G E,Dk b G (l++E)
 tr:=λh k t=>by
  obtain⟨M,a,e,f,c⟩:=h;exact⟨M,a,e,k _ f,λz d=>⟨(c z d).1.tr t,bc.tr t _ _ (c z d).2⟩⟩
 zp:=λh=>by
  obtain⟨G,E,h⟩:=h;exact⟨G,_,by rw[<-Ny];exact h⟩
def E7(f g:FD):FL:=λD=>M.v (f D) λk=>M.v (g D) λv=>M.h0 [.t [k,v]]
theorem ou{b:Bool}{D:Nh}:fj K (RD K b) D (CY K b D (tV K f E0) (tV K g E0)) (E7 f g):=λF H δ β A σ as os Q fr hA y B hR e hz k=>by
 obtain⟨ep,d,rfl,hD,S⟩:=hR;obtain⟨O,V,e1,e2⟩:=M.f5 e;obtain⟨P,ab,e3,e4⟩:=M.f5 e2;cases e4;obtain⟨E,aa,C,R,z3,T⟩:=hz;have I:∀p∈d.map (·.1),xr b p.1:=λp m=>by
  obtain⟨z,h,rfl⟩:=Nm.mp m;exact(S z h).1.z
 have J:SW d<SW E:=by
  have:=Ou SW C;simp at this;lia
 have ez:(d.map (·.1)).map (v3 b)=(E.take (SW d)).map (v3 b):=by
  rw[SJ,<-C,Ny,Vo (by simp),OJ (by simp),Nx];rfl
 have ek:=kD I (λp m=>T p (O8 m)) ez;have el:v3 b E[SW d]= .t [O,P]:=by
  have U:(E.map (v3 b))[SW d]?=My (.t [O,P]):=by
   rw[<-C,Ny,OU (by simp)];simp
  rw[Nl,Ng J]at U;exact N6 U
 have r:=T _ (OG J);generalize m:E[SW d]=p at el r;obtain⟨j,vv⟩:=p;simp only[v3,Pu.D.t.injEq,QX,and_true]at el;obtain⟨rfl,rfl⟩:=el;have u:j∉d.map (·.1.1):=λhm=>by
  have h2:E.take (SW d)++(j,vv)::E.drop (SW d+1)=E:=by
   rw[<-m,<-Os J,N7]
  rw[<-h2,<-ek,NV,NI,QK]at R;refine R.2.2 j ?_ j Np rfl;rw[Nx];exact hm
 refine⟨F,δ,β,fr,B,E0.run e1 λv H1 t hv=>⟨F,δ,V,t.fr,B.tr (t.tr fr),E0.run e3 λW X t2 L=>?_⟩⟩;have N:=bc.tr (t2.tr t.fr) _ _ hv;obtain⟨c,rfl,Y⟩:=yw r N;have i:=(t.tr fr).trans (t2.tr t.fr);refine⟨ep,_,j,c,rfl,t2.kp D _ (t.kp D _ hD y) y,λx h=>?_,Y.s,?_,?_,λw=>?_⟩
 .obtain⟨z,h',rfl⟩:=Nm.mp h
  exact((S z h').1.tr i).s
 .rw[Nx];exact u
 .rw[M9];lia
 have Z:l_ F D X (upd X D (cU D b w ((d.map λz=>(z.1.1,z.2))++[(j,c,W)]))) A:=by
  refine⟨λa o h n _=>by rw[a_ n];exact h,λa h q=>?_,fr.bgA,λb l q=>?_⟩
  .by_cases z:a=D
   .subst z;rw[aw]at q;cases q
   .rw[a_ z]at q;exact t2.fr.occ a h q
  .rw[a_ (y b l q).1.symm,a_ (y b l q).2.symm]
   exact t2.fr.bag b l q
 have G:=Z.tr t2.fr hA;refine k σ _ (((t.trans t2).toD D).trans Z) (B.tr (i.trans G)) ⟨w,d++[((j,vv),c,W)],by rw[NV];rfl,by rw[NV];exact aw,λz h=>?_⟩;rcases N4.mp h with h|h
 .exact⟨(S z h).1.tr (i.trans G),bc.tr (i.trans G) _ _ (S z h).2⟩
 .cases NT.mp h
  exact⟨Y.tr G,bc.tr G _ _ L⟩
theorem vQ{F:Fx}{H:Hp}{E:Type}{f:E->D}{g:E->V}:∀{a:List E},(∀z∈a,bc K F H (f z) (g z))->aj K F H (a.map f) (a.map g)
 |[],_=>aj.f5
 |z::a,h=>aj.cons (h z Np) (vQ λx G=>h x (Nk z G))
end
theorem vO{K:NR}{E:a0t}{kb:Bool}{S:a0j}{V:a0a}{g:TG}{c:a0Z}{v:FL}{M:lu}{w:a0s}{b:FL}(i:cQ K g M)(j:d7 M)(k:∀D,fj K (RD K kb) D (c D) b){f:St}{H:Hp}{Q:VK}(h:tV K (ic (SW S) V v M w b (kQ kb)) E f H Q):
  lj (λD=>cU D kb 0 []) S V (iV K v E) (λD J=>dh J g (hL K w E0) (c D)) f H Q:=by
 refine rm i j k (λF H D=>⟨0,[],rfl,aw,λx G=>NW G (by simp)⟩) (λy d e=>?_) h λF u l D y d fr a m e q=>?_
 .obtain⟨kvs,s,_⟩:=vR e
  exact⟨kvs,[],by rw[Ob];exact s⟩
 .obtain⟨kvs,s,rfl⟩:=vR e
  obtain⟨A,n,rfl,o,G⟩:=m;have r:kvs=n.map (·.1):=kD s.2.2.2 (λp t=>by
   obtain⟨z,h,rfl⟩:=Nm.mp t;exact(G z h).1.z) (by rw[<-s.1,Nx];rfl)
  refine q _ _ (To.refl fr) ?_;unfold bc;subst r;refine⟨D,A,_,rfl,⟨a,o⟩,by simp,λx h=>?_,?_⟩
  .obtain⟨z,h',rfl⟩:=Nm.mp h
   exact(G z h').1
  .rw[Nx,Nx]
   exact vQ λz h=>(G z h).2
section
variable{X:Cx}{E:a0t}{A w t m:Expr}{p:List Expr}{n:a0Q}{l:Scope}{q:SA}{u I:a0j}{B:a0a}{g:TG}{z:a0Z}
theorem Hg{kb:Bool}(c:X.calm=Nf)(S:cp X l u I B)(d:PI X t m (iV X.K r E))
  (e:∀(G:a0n) (C:Nh) (a:a0r) (s:Nq) (H:Hp),PG (aM X u l G C a s H) t g/\d9 (aM X u l G C a s H) p (hL X.K v E0)/\∀D,PB (aM X u l G C a s H) (.D A w) (⟨t,m,p,0⟩::n) l q 0 D (z D))
  (f:cQ X.K g o) (i:d7 o) (j:∀D,fj X.K (RD X.K kb) D (z D) b) (M:∀x,OD m X.e x=P3 x:=by intro _;rfl):
  PE X (.DictComp A w (⟨t,m,p,0⟩::n) l q) (tV X.K (ic (SW I) B r o v b (kQ kb)) E):=
 (Ed (b:=kb) c S d e M).imp λk H Q h=>vO f i j h
noncomputable def il:a0b->Option a0d
 |[]=>My []
 | .n i::r=>(il r).map (i::·)
 |_=>Na
def jL:Bool->D->Option dv
 |false,.t ds=>(il ds).map λl=>(0,l)
 |true,.t [.n i,.t ds]=>(il ds).map λl=>(i,l)
 |_,_=>Na
theorem qz:∀(l:a0d),il (l.map .n)=My l
 |[]=>rfl
 |i::l=>by show(il (l.map .n)).map _=_;rw[qz l];rfl
theorem lg:∀{n:a0b} {l:a0d},il n=My l->n=l.map .n
 |[],l,h=>by cases h;rfl
 | .n i::r,l,h=>by
  have g:(il r).map (i::·)=My l:=h;cases q:il r with
  |none=>rw[q]at g;cases g
  |some m=>rw[q]at g;cases g;rw[lg q];rfl
 | .o::_,_,h=>by cases h
 | .c _::_,_,h=>by cases h
 | .q _::_,_,h=>by cases h
 | .ty _::_,_,h=>by cases h
 | .txt::_,_,h=>by cases h
 | .l _::_,_,h=>by cases h
 | .t _::_,_,h=>by cases h
 | .scr _::_,_,h=>by cases h
 | .obj _ _ _::_,_,h=>by cases h
 | .bag::_,_,h=>by cases h
 | .adr _::_,_,h=>by cases h
 | .dct _ _ _::_,_,h=>by cases h
theorem j3{b:Bool}(h:xr b k):jL b (dK b k)=My k:=by
 cases b with
 |true=>show(il _).map _=_;rw[qz];rfl
 |false=>show(il _).map _=_;rw[qz];exact Ou My (Qr (h rfl).symm rfl)
theorem vn{b:Bool}(h:jL b d=My k):xr b k/\d=dK b k:=by
 unfold jL at h;split at h
 .rename_i ds
  cases q:il ds with
  |none=>rw[q]at h;cases h
  |some l=>rw[q]at h;cases h;exact⟨λ_=>rfl,by rw[lg q];rfl⟩
 .rename_i i ds
  cases q:il ds with
  |none=>rw[q]at h;cases h
  |some l=>rw[q]at h;cases h;exact⟨λz=>(by cases z),by rw[lg q];rfl⟩
 .cases h
noncomputable def KX(a:a0H)(g:a0b)(k:dv):a0l:=((a.zip g).find? λp=>decide (p.1=k)).map (·.2)
variable{K:NR}{F:Fx}{H:Hp}
def RelD(K:NR)(F:Fx)(H:Hp):a0l->Option V->Prop
 |none,v=>v=Na
 |some d,v=>∃u,v=My u/\bc K F H d u
theorem BE:∀{l:a0p} {g:a0b},aj K F H g (l.map (·.2.2))->RelD K F H (KX (l.map (·.1)) g k) (uX l k)
 |[],g,_=>by unfold KX uX;rfl
 |x::l,g,h=>by
  cases g with
  |nil=>cases h
  |cons d g=>
   obtain⟨u,r,e,a,b⟩:=h;rw[NI,QX]at e;obtain⟨rfl,rfl⟩:=e;have m:=BE (k:=k) b;unfold KX uX at m⊢;rw[NI,PP,Rb,Rb];by_cases q:x.1=k
   .rw[NF q];exact⟨_,rfl,a⟩
   .rw[Oo q];exact m
def yQ:D->D->a0l
 | .dct b ks vs,y=>(jL b y).bind (KX ks vs)
 |_,_=>Na
theorem yu:bz K (Jz K) yQ:=λF H D Q E g d w y fr h i e k=>by
 unfold yQ at e;split at e
 .rename_i b j vs
  cases q:jL b g with
  |none=>rw[q]at e;cases e
  |some f=>
   rw[q]at e;have l:KX j vs f=My d:=e;obtain⟨m,rfl⟩:=vn q;obtain⟨c,rfl,n⟩:=yw m i;unfold bc at h;obtain⟨a,z,A,rfl,o,rfl,p,r⟩:=h;have:=BE (k:=f) r;rw[l]at this;obtain⟨u,t,v⟩:=this;exact⟨a,b,z,A,f,c,u,rfl,rfl,o.2,λx B=>(p x B).s,n.s,t,k u H (To.refl fr) v⟩
 .cases e
variable{o e:Expr}{c:List Expr}{b a:SA}
end
end L2.Pu
namespace L2.Hs
section
variable{prog:N9}{w:Ol}{A:Ot}{E:a0e}{s:Nq}{d z v:Nh}{Z:N3}{es:Array Qu}{ep i:Nat}{ok ov:Nj}
theorem yU(a:s.TypeIs (.ref d) "dict")(i:(d==Th)=Ni)(h:Q (.ref s.heap.objs.size) {s with heap:=s.heap.push {cls:= .type "dict_items",data:= .fields #[.ref d]}}):ND (N0 prog w) A (Vb (.builtin "dict.items") [.ref d]) Q E s:=by
 refine Of F.slot_dict_items a F.entry_dict_items ?_ (F.args_dict_items_1 _);unfold Builtin.«dict.items»;refine M8 ?_;unfold Builtin.Dict.noArgs;refine M8 (wpAny_notOrdered_dict a ?_);show ND _ _ (P3 d) _ _ s;refine Nb ?_;show ND _ _ (RU d>>=_) _ _ s;unfold RU;rw[Nv (by rw[i];exact Nz)];exact M8 (Nb (M8 (Oh (Nb ⟨_,rfl,h⟩))))
theorem yD(a:s.heap.IsItemsView v d)(e:s.heap.get? d=My Z)(i:Z.data= .dict es ep)
  (h:Q (.ref s.heap.objs.size) {s with heap:=s.heap.push {cls:= .type "dict_itemiterator",data:= .fields #[.none,.bool Ni,.ref d,.int 0 0,.int es.size 0,.int ep 0,.none,.none]}}):ND (N0 prog w) A (UJ (.ref v)) Q E s:=by
 obtain⟨o,b,f,c⟩:=id a;refine SR a.typeIs Xl (Of Xl a.typeIs F.entry_dict_items_iter ?_ (F.args_dict_items_iter_1 _));unfold Builtin.«dict_items.__iter__»;refine M8 (Nb (M8 ?_));unfold Builtin.Dict_items.dictOf;refine M8 (OY b c (x:= .ref d) rfl (Nb (M8 ?_)));unfold Builtin.Dict_items.newIterator;refine M8 (RB e i (M8 (Si e i ?_)));simp only[show P4 "dict_itemiterator"=Nf from by decide,OC];refine Oh (Nb ⟨_,rfl,"dict_itemiterator",_,⟨_,NE _ rfl,rfl⟩,PD.lookup,?_⟩)
  (by simp only[sizeOk,TF,NM,Nw,NB,QD,Ps];lia)
 simpa[Rl,TF]using h
theorem yB(a:Ud s.heap z d i es.size ep ok ov)(h:Q (.ref z) s):ND (N0 prog w) A (UJ (.ref z)) Q E s:=by
 have c:s.TypeIs (.ref z) "dict_itemiterator":=⟨_,a,rfl⟩;refine SR c VV (Of VV c (b:=Builtin.«dict_keyiterator.__iter__») (WV (id':="dict_keyiterator.__iter__") (by kernel_rfl) rfl (by decide +kernel) (by kernel_rfl)) ?_ (F.args_dict_itemiterator_iter_1 _));show ND _ _ (ret (.ref z)) _ _ s;exact Nb ⟨_,rfl,"dict_itemiterator",_,c,PD.lookup,h⟩
theorem yC{e:Qu}(l:Ud s.heap z d i es.size ep ok ov)(X:s.heap.get? d=My Z)(S:Z.data= .dict es ep)(K:es[i]?=My e)
  (Y:∀D,IsItemIterOut D z d (i+1) es.size ep e.key e.val s.heap.objs.size->D.get? s.heap.objs.size=My {cls:= .type "tuple",data:= .seq #[e.key,e.val]}->D.objs.size=s.heap.objs.size+1->
   (∀b o,b≠z->s.heap.get? b=My o->D.get? b=My o)->Q (My (.ref s.heap.objs.size)) {s with heap:=D}):ND (N0 prog w) A (Ru (.ref z)) Q E s:=by
 obtain⟨m,g,P,R,G⟩:=s;have t:Shared.TypeIs ⟨m,g,P,R,G⟩ (.ref z) "dict_itemiterator":=⟨_,l,rfl⟩;have T:i<es.size:=by
  rcases U7 i es.size with h|h
  .exact h
  .simp[Qs h]at K
 obtain rfl:es[i]=e:=by rw[Rv T]at K;exact N6 K
 unfold Ru;refine M8 (QZ (a1e (name:=Pq "__next__") t PD
  (Of PD t VH ?_ (Vw _))))
 refine M8 (Nb (M8 (M8 ?_)))
 first|refine M8 (Q9 t (Nb ?_))|refine M8 (RZ t (Nb ?_))
 refine M8 (SQ l rfl ?_);simp only[show P4 "dict_itemiterator"=Nf from by decide,OC];show ND _ _ (if(NH d==On)=Nf then _ else _) _ _ _;rw[Nv (show ¬((NH d==On)=Nf)from Nz)];refine M8 (Nb (M8 (RB X S ?_)));rw[Nv (by simp)];refine M8 (Nb (M8 (Si X S ?_)));rw[Nv (by simp)];refine Nb ?_;simp only[show ¬((i:Int)<0)from by lia,OF,ON,Rv T];refine M8 ?_
 first|refine M8 (Q9 t (Nb ?_))|refine M8 (RZ t (Nb ?_))
 refine M8 (UL t ?_);show ND _ _ (U1 (.ref z) 3 (Rl ((i:Int)+1))>>=_) _ _ ⟨m,g,P,R,G⟩;refine M8 (Pb l (by simp) λv a c=>?_)
 replace c:Oa z m v:=c
 replace a:Ud v z d (i+1) es.size ep ok ov:=by
  have e:((i+1:Nat):Int)=(i:Int)+1:=by lia
  unfold Ud;rw[e];simpa[Rl]using a
 have k:Shared.TypeIs ⟨v,g,P,R,G⟩ (.ref z) "dict_itemiterator":=⟨_,a,rfl⟩;refine M8 (OT (M8 (UL k (M8 (UL k ?_)))));show ND _ _ (Ua (.ref z) 6 es[i].key es[i].val) _ _ ⟨v,g,P,R,G⟩;unfold Ua;refine M8 (W4 ?_);have f:Ud (v.push {cls:= .type "tuple",data:= .seq #[es[i].key,es[i].val]}) z d (i+1) es.size ep ok ov:=Nd _ a;have j:v.objs.size=m.objs.size:=c.1;have W:z≠m.objs.size:=Ov (NU l);have u:(v.push {cls:= .type "tuple",data:= .seq #[es[i].key,es[i].val]}).get? m.objs.size=My {cls:= .type "tuple",data:= .seq #[es[i].key,es[i].val]}:=by rw[<-j];exact NE _ rfl
 have y:(v.push {cls:= .type "tuple",data:= .seq #[es[i].key,es[i].val]}).objs.size=m.objs.size+1:=by rw[Pj,j]
 have B:∀b o,b≠z->m.get? b=My o->(v.push {cls:= .type "tuple",data:= .seq #[es[i].key,es[i].val]}).get? b=My o:=λb o U e=>Nd _ (c.extBut b o U e);generalize v.push {cls:= .type "tuple",data:= .seq #[es[i].key,es[i].val]}=h₂ at*;show ND _ _ (TH (.ref z)>>=_) _ _ ⟨h₂,g,P,R,G⟩;rw[j];refine M8 ?_;unfold TH;refine M8 (OY f rfl (x:= .none) rfl (Nb ?_));simp only[OC];refine M8 (OY f rfl (x:=ok) rfl (M8 (OY f rfl (x:=ov) rfl ?_)));refine M8 (Pb f (by simp) λn C F=>?_);refine M8 (Pb C (by simp) λp H I=>?_);refine M8 (Pb H (by simp) λq J L=>?_);refine M8 (Pb J (by simp) λr N O=>?_);have M:=((show Oa z h₂ n from F).trans (show Oa z n p from I)).trans ((show Oa z p q from L).trans (show Oa z q r from O));exact M8 (Wm (Nb (Nb ⟨_,rfl,Nb (Y r N (M.extBut _ _ W.symm u) (by rw[M.1,y]) λb o U e=>M.extBut b o U (B b o U e))⟩)))
theorem BT(g:A.handled=Na)(c:Ud s.heap z d i es.size ep ok ov)(f:s.heap.get? d=My Z)(v:Z.data= .dict es ep)(G:es.size<=i)
  (h:∀D,UC z s.heap D->Q Na {s with heap:=D}):ND (N0 prog w) A (Ru (.ref z)) Q E s:=by
 have e:s.TypeIs (.ref z) "dict_itemiterator":=⟨_,c,rfl⟩;unfold Ru;refine M8 (QZ (a1e (name:=Pq "__next__") e PD
  (Of PD e VH ?_ (Vw _))))
 refine M8 (Nb (M8 (M8 ?_)))
 first|refine M8 (Q9 e (Nb ?_))|refine M8 (RZ e (Nb ?_))
 refine M8 (SQ c rfl ?_);simp only[show P4 "dict_itemiterator"=Nf from by decide,OC];show ND _ _ (if(NH d==On)=Nf then _ else _) _ _ s;rw[Nv (show ¬((NH d==On)=Nf)from Nz)];refine M8 (Nb (M8 (RB f v ?_)));rw[Nv (by simp)];refine M8 (Nb (M8 (Si f v ?_)));rw[Nv (by simp)];refine Nb ?_;simp only[show ¬((i:Int)<0)from by lia,OF,ON,Qs G];refine M8 ?_
 first|refine M8 (Q9 e (Nb ?_))|refine M8 (RZ e (Nb ?_))
 show ND _ _ (U1 (.ref z) 2 .none>>=_) _ _ s;refine M8 (Q8 c rfl (by simp) ?_);show ND _ _ (Wc (.type "StopIteration") []>>=_) _ _ _;refine M8 ?_;simp only[Wc,newTuple];refine M8 (Oh ?_ (by size_fits));refine M8 (m:=Q7 _ _) (Rh (a:=On) (by first|rfl|(simp only[Q7];rfl)) ?_)
 refine Oh ?_ (by size_fits);simp only[W1];refine M8 (Vl ?_);rw[show A.in1.handled=Na from g];refine M8 (Nb (Wn ?_));refine M8 (PY (T:="StopIteration") (b:=Nf) ⟨_,NE _ rfl,rfl⟩ UZ ?_);exact Nb (h _ (((O4 ..).extBut.push _).push _))
theorem BQ(v:(d==Th)=Ni)(a:s.heap.get? d=My Z)(c:Z.cls= .type "dict")(i:Z.data= .dict es ep)
  (h:Q (.ref s.heap.objs.size) {s with heap:=s.heap.push {cls:= .type "dict_keyiterator",data:= .fields #[.ref d,.int 0 0,.int es.size 0,.int ep 0]}}):ND (N0 prog w) A (UJ (.ref d)) Q E s:=by
 have b:s.TypeIs (.ref d) "dict":=⟨Z,a,c⟩;refine SR b F.slot_dict_iter (Of F.slot_dict_iter b F.entry_dict_iter ?_ (F.args_dict_iter_1 _));unfold Builtin.«dict.__iter__» Builtin.Dict.dictSlotNone;refine M8 (M8 (wpAny_notOrdered_dict b ?_));show ND _ _ (P3 (NH d)) _ _ s;refine Nb ?_;show ND _ _ (RU d>>=_) _ _ s;unfold RU;rw[Nv (by rw[v];exact Nz)];refine M8 (Nb (M8 (RB a i (M8 (Si a i (M8 (Oh (Nb ⟨_,rfl,"dict_keyiterator",_,⟨_,NE _ rfl,rfl⟩,Qt.lookup,?_⟩))))))));simpa[Rl]using h
theorem BP{e:Qu}(c:s.heap.IsKeyIter z d i es.size ep)(j:s.heap.get? d=My Z)(D:Z.data= .dict es ep)(G:es[i]?=My e)
  (k:∀v,v.IsKeyIter z d (i+1) es.size ep->Oa z s.heap v->Q (My e.key) {s with heap:=v}):ND (N0 prog w) A (Ru (.ref z)) Q E s:=by
 obtain⟨o,g,l,f⟩:=id c;have b:=c.typeIs;obtain⟨h,rfl⟩:=OA.mp G;unfold Ru;refine M8 (QZ (a1e (name:=Pq "__next__") b Qt (Of Qt b VU ?_ (VG _))));refine M8 (Nb (M8 (M8 ?_)))
 first|refine M8 (Ri b (Nb ?_))|refine M8 (Sa b (Nb ?_))
 refine M8 (SQ g f ?_);simp only[show P4 "dict_keyiterator"=Ni from by decide,NO,OF];show ND _ _ (if(NH d==On)=Nf then _ else _) _ _ s;rw[Nv (show ¬((NH d==On)=Nf)from Nz)];refine M8 (Nb (M8 (RB j D ?_)));rw[Nv (by simp)];refine M8 (Nb (M8 (Si j D ?_)));rw[Nv (by simp)];refine Nb ?_;simp only[show ¬((i:Int)<0)from by lia,OF,ON,Rv h];refine M8 ?_
 first|refine M8 (Ri b (Nb ?_))|refine M8 (Sa b (Nb ?_))
 refine M8 (wpAny_isOneOf_keyiter b ?_);show ND _ _ (U1 (.ref z) 1 (Rl ((i:Int)+1))>>=_) _ _ s;refine M8 (Q8 g f (by simp) ?_);have a:(s.heap.update z (Ws (·.setIfInBounds 1 (Rl ((i:Int)+1))))).IsKeyIter z d (i+1) es.size ep:=⟨_,QA _ g (SE (Pl f _)),(Uc ..).trans l,by rw[Pl f];simp[Rl]⟩;refine M8 (OT (M8 (wpAny_isOneOf_keyiter (s:={s with heap:=s.heap.update z (Ws (·.setIfInBounds 1 (Rl ((i:Int)+1))))}) a.typeIs ?_)));show ND _ _ (P3 es[i].key) _ _ _;exact Nb (Nb ⟨_,rfl,Nb (k _ a (O4 ..))⟩)
theorem EG(j:A.handled=Na)(e:s.heap.IsKeyIter z d i es.size ep)(f:s.heap.get? d=My Z)(v:Z.data= .dict es ep)(G:es.size<=i)
  (k:∀D,UC z s.heap D->Q Na {s with heap:=D}):ND (N0 prog w) A (Ru (.ref z)) Q E s:=by
 obtain⟨o,g,l,h⟩:=id e;have c:=e.typeIs;unfold Ru;refine M8 (QZ (a1e (name:=Pq "__next__") c Qt (Of Qt c VU ?_ (VG _))));refine M8 (Nb (M8 (M8 ?_)))
 first|refine M8 (Ri c (Nb ?_))|refine M8 (Sa c (Nb ?_))
 refine M8 (SQ g h ?_);simp only[show P4 "dict_keyiterator"=Ni from by decide,NO,OF];show ND _ _ (if(NH d==On)=Nf then _ else _) _ _ s;rw[Nv (show ¬((NH d==On)=Nf)from Nz)];refine M8 (Nb (M8 (RB f v ?_)));rw[Nv (by simp)];refine M8 (Nb (M8 (Si f v ?_)));rw[Nv (by simp)];refine Nb ?_;simp only[show ¬((i:Int)<0)from by lia,OF,ON,Qs G];refine M8 ?_
 first|refine M8 (Ri c (Nb ?_))|refine M8 (Sa c (Nb ?_))
 show ND _ _ (U1 (.ref z) 0 .none>>=_) _ _ s;refine M8 (Q8 g h (by simp) ?_);show ND _ _ (Wc (.type "StopIteration") []>>=_) _ _ _;refine M8 ?_;simp only[Wc,newTuple];refine M8 (Oh ?_ (by size_fits));refine M8 (m:=Q7 _ _) (Rh (a:=On) (by first|rfl|(simp only[Q7];rfl)) ?_)
 refine Oh ?_ (by size_fits);simp only[W1];refine M8 (Vl ?_);rw[show A.in1.handled=Na from j];refine M8 (Nb (Wn ?_));refine M8 (PY (T:="StopIteration") (b:=Nf) ⟨_,NE _ rfl,rfl⟩ UZ ?_);exact Nb (k _ (((O4 ..).extBut.push _).push _))
def KIt(h:OO)(I d:Nh)(es:Array Qu)(ep i:Nat):Prop:=h.IsKeyIter I d i es.size ep/\∃Z,h.get? d=My Z/\Z.data= .dict es ep
theorem zb(p:A.handled=Na)(j:I≠d):Walks prog w A I [I,d] [I] es.size (λi v=>∃e,es[i]?=My e/\v=e.key) (λi h=>KIt h I d es ep i) where
 sub:=λb a=>by simp at a;simp[a]
 frame:=λ_ _ _ D m=>by
  obtain⟨⟨o,q,r⟩,Z,c,f⟩:=D;exact⟨⟨o,m I (by simp) o q,r⟩,Z,m d (by simp) Z c,f⟩
 item:=λi s Q E t D g=>by
  obtain⟨D,Z,c,f⟩:=D;have n:es[i]?=My es[i]:=a3a es i t;exact BP D c f n λG k K=>g _ G s.toks ⟨_,n,rfl⟩ ⟨k,Z,K.extBut d Z (Ne.symm j) c,f⟩ λb o a e=>K.extBut b o (λz=>a (by simp[z])) e
 done:=λs Q E D g=>by
  obtain⟨D,Z,c,f⟩:=D;exact EG p D c f (No _) λG l=>g G s.toks λb o a e=>l b o (λz=>a (by simp[z])) e
 self:=λ_ _ _ _ D g=>wpAny_pyIter_keyiter D.1 g
end
end L2.Hs
namespace L2.Hs
open PySem.SetTable
section
variable{prog:N9}{w:Ol}{A:Ot}{E:a0e}{s:Nq}
theorem vU{o:N3}{es:Array Qu}(z:A.handled=Na)(hs:(a==Th)=Ni)(O:s.heap.get? a=My o)(y:o.cls= .type "dict")(S:o.data= .dict es ep)
  (aa:es.size<=1000)
  (hQ:∀M P V,(∀b o,s.heap.get? b=My o->M.get? b=My o)->s.heap.objs.size<=M.objs.size->s.toks<=P->V=es.toList.map (·.key)->Q V {s with heap:=M,toks:=P}):ND (N0 prog w) A (collect (.ref a)) Q E s:=by
 unfold collect;refine M8 (W5 (TU XH ?_));rw[SC XI _];show ND _ A.in1 (newList []>>=λl=>Vj (.builtin "list.__iadd__" ⟨[l,.ref a],[]⟩)) _ _ s;refine M8 (Oh ?_);refine Nb ⟨Vk Uf _,TU F.entry_list_iadd ?_⟩;rw[SC Uf _];have x:=NU O;have h:(s.heap.push {cls:= .type "list",data:= .seq ([]:a0g).toArray}).get? a=My o:=Nd _ O;have B:(s.heap.push {cls:= .type "list",data:= .seq ([]:a0g).toArray}).get? s.heap.objs.size=My {cls:= .type "list",data:= .seq ([]:a0g).toArray}:=NE _ rfl;have r:s.heap.objs.size≠a:=Qj x;have v:Rm (.ref s.heap.objs.size) (.ref a)=Ni:=by simp[Rm,r]
 have C:(⟨s.heap.push {cls:= .type "list",data:= .seq ([]:a0g).toArray},s.gens,s.drawn,s.toks,s.os⟩:Nq).TypeIs (.ref a) "dict":=⟨o,h,y⟩;show ND _ A.in1 (QW (.ref s.heap.objs.size) (.ref a) (.ref s.heap.objs.size)) _ _ _;unfold QW;refine M8 (SS C ?_);rw[Nv (by rw[v];decide)];refine M8 (BQ hs h y S ?_);refine M8 (OT ?_);unfold UO;have n:(⟨(s.heap.push {cls:= .type "list",data:= .seq ([]:a0g).toArray}).push {cls:= .type "dict_keyiterator",data:= .fields #[.ref a,.int 0 0,.int es.size 0,.int ep 0]},s.gens,s.drawn,s.toks,s.os⟩:Nq).TypeIs (.ref a) "dict":=⟨o,Nd _ h,y⟩;refine M8 (QS n F.slot_dict_len.lookup ?_)
 (generalize t:("dict.__len__":String)=id0;wp_delta;rw[show splitId id0=My ("dict","__len__")from by subst t;decide +kernel];subst t)
 refine M8 (PY (b:=Nf) n (by rw[SN];kernel_rfl) ?_);rw[Nv (by decide)];show ND _ _ (if _ then _ else _) _ _ _;rw[Nu (by decide)];refine M8 (SS n ?_);refine Nb ?_;rw[Nu (by decide)];refine M8 (PH ?_);have R:(s.heap.push {cls:= .type "list",data:= .seq ([]:a0g).toArray}).objs.size=s.heap.objs.size+1:=by rw[size_push']
 generalize j:(s.heap.push {cls:= .type "list",data:= .seq ([]:a0g).toArray}).push {cls:= .type "dict_keyiterator",data:= .fields #[.ref a,.int 0 0,.int es.size 0,.int ep 0]}=f;have T:f.get? s.heap.objs.size=My (Qq "list" #[] 0):=by rw[<-j];exact Nd _ B
 have gI:f.get? (s.heap.objs.size+1)=My {cls:= .type "dict_keyiterator",data:= .fields #[.ref a,.int 0 0,.int es.size 0,.int ep 0]}:=by rw[<-j,<-R];exact NE _ rfl
 have ga:f.get? a=My o:=by rw[<-j];exact Nd _ h
 have p:∀b g,s.heap.get? b=My g->f.get? b=My g:=λb g e=>by rw[<-j];exact Nd _ (Nd _ e)
 unfold Vd;refine M8 (M8 (R9 T rfl ?_ (by show 0<=_;lia) (by show 1<=_;lia)));obtain⟨U,X⟩:∃U,(f.update s.heap.objs.size (OV λD=>D.push On)).get? s.heap.objs.size=My (Qq "list" #[On] U):=⟨_,get?_update_seq T λD=>D.push On⟩;refine R9 X rfl ?_ (by show 1<=NN;decide) (by show 0<=_;lia);obtain⟨H,Y⟩:∃H,((f.update s.heap.objs.size (OV λD=>D.push On)).update s.heap.objs.size (OV λD=>D.pop)).get? s.heap.objs.size=My (Qq "list" #[] H):=⟨_,get?_update_seq X λD=>D.pop⟩;have c:∀b g,b≠s.heap.objs.size->f.get? b=My g->((f.update s.heap.objs.size (OV λD=>D.push On)).update s.heap.objs.size (OV λD=>D.pop)).get? b=My g:=λb g q e=>by
  rw[PZ _ _ _ _ q,PZ _ _ _ _ q];exact e
 generalize (f.update s.heap.objs.size (OV λD=>D.push On)).update s.heap.objs.size (OV λD=>D.pop)=h4 at Y c;have J:s.heap.objs.size+1≠a:=Qj (QO x);have st:KIt h4 (s.heap.objs.size+1) a es ep 0:=⟨⟨_,c _ _ (by lia) gI,rfl,rfl⟩,o,c a o (Ne.symm r) ga,S⟩;have W:=zb (prog:=prog) (w:=w) (A:=A.in1) (I:=s.heap.objs.size+1) (d:=a) (es:=es) (ep:=ep) z J;show ND _ _ (Vj _) _ _ _;rw[R];refine Nb ⟨Vk F.plain_extend_loop _,codeAny_extend_loopS W.toS (by rw[Ps];lia) s.heap.objs.size (by simp;lia) _ es.size 0 _ #[] H rfl (OH _) st Y (ItemsOf.nil _) λG k c' K u m=>?_⟩;show ND _ A (load s.heap.objs.size>>=_) _ _ G;refine M8 (wpAny_load u ?_);refine Nb ?_;have L:G={s with heap:=G.heap,toks:=G.toks}:=by
  have v:=K.gens;have f:=K.drawn;have Z:=K.os;obtain⟨a1,a2,a3,a4,a5⟩:=G;simp only at v f Z;subst v f Z;rfl
 rw[L];refine hQ _ _ _ (λb g e=>?_) (OK (NU u)) K.toks ?_
 .have q:=NU e
  exact K.heap b g (by simp only[NC,O1,RW,Yl];exact⟨Ov q,Ov (QO q)⟩) (c b g (Ov q) (p b g e))
 .refine Ry (by rw[NG,M9,NG,m.1]) λi q1 q2=>?_
  have N:i<k.size:=by simpa using q1
  obtain⟨e,he,hv⟩:=m.2 i _ (a3a k i N);rw[QC,hv,Rz,QC];obtain⟨z1,z2⟩:=OA.mp he;rw[z2]
theorem v5{o:N3}{K:Array Qu}{xs:a0q}(u:A.handled=Na)(V:(a==Th)=Ni)(v:s.heap.get? a=My o)(y:o.cls= .type "dict")(I:o.data= .dict K T)(t:K.toList.map (·.key)=xs.map λk=>NH k.2)(q:(xs.map (·.1)).Nodup)(S:∀{B:Ot},B.units<=A.units+3->Y4 prog w B is)(J:∀x∈xs,is s.heap x.1 x.2)(C:SW xs<=1000)
  (h:∀(l:Nh) (D:OO) (g r:Nat) (i:a0q),i.Perm xs->Up (i.map (·.1))->D.get? l=My (Qq "list" (i.map λk=>NH k.2).toArray r)->s.heap.objs.size<=l->(∀b o,s.heap.get? b=My o->D.get? b=My o)->s.toks<=g->Q (.ref l) {s with heap:=D,toks:=g}):
  ND (N0 prog w) A (Vb (.builtin "sorted") [.ref a]) Q E s:=by
 have F:K.size=SW xs:=by rw[<-NG,<-M9 (f:=λe:Qu=>e.key),t,M9]
 refine VT kind_sorted plain_sorted entry_sorted (args_sorted1 _) ?_;unfold Builtin.«sorted»;refine M8 (m:=checkCount "sorted" 1 1 _) (Nb ?_);refine M8 (vU u V v y I (by lia) λj g R G n M pv=>?_);rw[t]at pv;subst pv;refine M8 (XF ?_ (by rw[M9,Ps];lia));have c:∀b d,s.heap.get? b=My d->(j.push (Qq "list" (xs.map λk=>NH k.2).toArray 0)).get? b=My d:=λb d e=>Nd _ (G b d e);have p:(j.push (Qq "list" (xs.map λk=>NH k.2).toArray 0)).get? j.objs.size=My (Qq "list" (xs.map λk=>NH k.2).toArray 0):=NE _ rfl;show ND _ _ _ _ _ {s with heap:=j.push (Qq "list" (xs.map λk=>NH k.2).toArray 0),toks:=g};refine M8 (OT (Of slot_list_sort ⟨_,p,rfl⟩ entry_list_sort (rB (S ?_) p (λk H=>(S (Pp A.units 3)).fr (J k H) λb o _=>c b o) q (by lia) λD i r L N O P=>⟨_,rfl,?_⟩) (args_list_sort _)))
 .first|(show A.units+1<=A.units+3;lia)|(show A.units+2<=A.units+3;lia)|(show A.units+3<=A.units+3;lia)|(show A.units<=A.units+3;lia)
 .refine Nb ⟨_,rfl,h j.objs.size D g r i L N O n (λb d e=>P b d (λz=>?_) (c b d e)) M⟩
  have:=NU e;exact NW (z▸this) (Nat.not_lt.mpr n)
open PySem.W (kat_lt kat_cons kat_yes kat_no kat_nil kat_one)
theorem BI:∀l m:a0d,HT.lexLt l m=bZ l m
 |[],[]=>rfl
 |[],_::_=>rfl
 |_::_,[]=>rfl
 |a::l,b::m=>by rw[HT.lexLt_cons,BI l m];rfl
theorem vy(h:PySem.ItemsAre (Um prog w) b c):SH c b:=by
 induction h with
 |nil=>exact .nil
 |cons a _ s=>
  obtain⟨t,rfl⟩:=TY a;exact .cons _ t s
theorem Z7{x y:dv}(j:A.units+1<Tv)(D:u_ prog w s.heap x a)(G:u_ prog w s.heap y b)(h:Q (bZ (x.1::x.2) (y.1::y.2)) s):ND (N0 prog w) A (keyLt' (Yn Nf) (.ref a) (.ref b)) Q E s:=by
 obtain⟨o,n,t,c,k,_,K,i⟩:=D;obtain⟨F,H,M,I,e,_,f,d⟩:=G;refine kat_lt k K e f ?_;unfold bZ at h;refine kat_cons (wpAny_eqBool_int ?_);by_cases z:x.1=y.1
 .rw[Nu z]at h
  rw[show(x.1==y.1)=Nf by rw[RM];exact z];refine kat_yes (kat_cons ((g_ prog w).eqBool (Ph j) i d ?_));by_cases g:x.2=y.2
  .rw[NF g]
   rw[g,gQ]at h;exact kat_yes (kat_nil h)
  .rw[Oo g]
   obtain⟨l,J,m,p,q,r,u⟩:=i;obtain⟨o2,i2,v,f1,f2,B,C⟩:=d;exact kat_no (kat_one _ _ (HT.lt_tupInts ⟨l,p,q,m,r⟩ ⟨o2,f1,f2,v,B⟩ (vy u) (vy C) (by lia) (by rw[BI];exact h)))
 .rw[Nv z]at h
  rw[show(x.1==y.1)=Ni by rw[Uy];exact z];exact kat_no (oneLt_int h)
abbrev kl(b:Bool)(k:dv):a0d:=cond b (k.1::k.2) k.2
def isB(prog:N9)(w:Ol)(b:Bool)(h:OO)(k:a0d)(x:Nh):Prop:=∃y,k=kl b y/\(KB prog w b).is h y x/\1<=SW k
theorem Mf(p:A.units+1<Tv):∀b,Y4 prog w A (isB prog w b)
 |false=>⟨λ⟨y,e,⟨z,g⟩,l⟩ k=>⟨y,e,⟨z,((xP (A:=A)).fr (k:=y.2) ⟨g,by rw[e]at l;exact l⟩ k).1⟩,l⟩,λ⟨y,e,⟨z,g⟩,l⟩=>(xP (A:=A)).tup (k:=y.2) ⟨g,by rw[e]at l;exact l⟩,λ⟨y,e,⟨_,g⟩,_⟩ ⟨q,a,⟨_,s⟩,_⟩=>by rw[e,a];exact(g_ prog w).inj g s,λ⟨y,e,⟨_,g⟩,_⟩ ⟨q,a,⟨_,s⟩,_⟩ h=>BA g s (by rw[e,a]at h;exact h)⟩
 |true=>⟨λ⟨y,e,⟨o,n,t,b,d,c,f,r,D,m,u,j,v,B⟩,l⟩ k=>⟨y,e,⟨o,n,t,b,k _ _ c d,c,f,r,D,m,k _ _ j u,j,v,B⟩,l⟩,λ⟨y,e,⟨o,n,t,b,d,c,f,_⟩,l⟩=>⟨o,_,n,y.1,t,d,c,f,rfl⟩,λ⟨y,e,E,_⟩ ⟨z,a,i,_⟩=>by rw[e,a,u_.inj E i],λ⟨y,e,E,_⟩ ⟨z,a,i,_⟩ h=>Z7 p E i (by rw[e,a]at h;exact h)⟩
theorem MG{b:Bool}{l:a0H}(s:l.Nodup)(h:b=Ni->∀x∈l,x.1=0):(l.map (kl b)).Nodup:=Pg.mpr (s.imp_of_mem λ{x y} w A D e=>D (by
 cases b with
 |true=>exact Qr (Rr e).1 (Rr e).2
 |false=>exact Qr ((h rfl x w).trans (h rfl y A).symm) e))
end
section
variable{X:Cx}
abbrev kA(b:Bool)(y:dv×Nh×V):a0d×Nh:=(kl b y.1,y.2.1)
def nZ(K:NR):a0k->Hp->VK->Prop:=λE H Q=>∃a b G D,E=[.r a]/\H a=My (cU a b G D)/\(∀x∈D,E_ K H b x.1 x.2.1/\1<=SW (kl b x.1))/\SW D<=1000/\
 ∀(l:Nh) (c:a0q),H l=Na->c.Perm (D.map (kA b))->Up (c.map (·.1))->Q (.r l) (upd H l (.l (c.map λz=>V.r z.2)))
theorem Gg{b:Bool}:∀{xs:a0p} {D:a0B},TM XY xs D->xs.map (kA b)=D.map λy=>(kl b y.1,y.2.1)
 |_,_,.nil=>rfl
 |_,_,.cons h t=>by
  rw[NI,NI,Gg t];unfold kA;rw[h.1,h.2.1]
theorem jh(j:X.calm=Nf)(P:X.A.units+64<Tv):c7 X (.builtin "sorted") (nZ X.K):=by
 intro g s R H xs us Q I r h;obtain⟨a,b,ep,Z,rfl,ha,E,hn,q⟩:=h;obtain⟨u,rfl,m⟩:=jo r;cases m;obtain⟨T,⟨o,es,n,t,v,w,B,U,C⟩,p,W,f⟩:=qf I ha λx h=>(E x h).1;have i:=Gg (b:=b) p;have F:=jM p;refine v5 (xs:=Z.map (kA b)) (I.ok.hd j) f t v.1 w ?_ ?_ (λhB=>Mf (by lia) b) ?_ (by rw[M9];exact hn) λl h' J L c M N O S D Y=>?_
 .rw[B,i,Nx,Nx];rfl
 .have:=MG (b:=b) C λe x d=>by
   subst e;rw[<-F]at d;obtain⟨y,G,rfl⟩:=Nm.mp d;exact(E y G).1.1
  rw[Nx]at this;rw[i,Nx];exact this
 .intro x d
  obtain⟨y,G,rfl⟩:=Nm.mp d;exact⟨y.1,rfl,pQ I (E y G).1,(E y G).2⟩
 .refine⟨.r l,_,I.laid (t':=J) (o:= .l (c.map λz=>V.r z.2)) D S ⟨?_,c.map λk=>NH k.2,L,?_,O⟩,rfl,q l c (I.hok.fresh S) M N⟩
  .rw[M9,M.length_eq,M9,Ps];lia
  .exact k9 c
end
end L2.Hs
namespace L2.Pu
section
variable{X:Cx}{E:a0t}{K:NR}{a b:Expr}{es:List Expr}{s:SA}
theorem To.none(t:To F H H1 f)(h:H1 p=Na):H p=Na:=by
 cases q:H p with
 |none=>rfl
 |some o=>
  have:H1 p=My o:=t.kp p o q λb l e=>by
   obtain⟨c,d⟩:=t.fr.bag b l e;exact⟨λw=>(by subst w;rw[c]at h;cases h),λw=>(by subst w;rw[d]at h;cases h)⟩
  rw[this]at h;cases h
noncomputable def Fx.but(F:Fx)(a:Nh):Fx:=⟨λc=>F.A c\/c=a,F.bg⟩
theorem Fx.h0{F:Fx}(fr:Fr F H g)(d:H p=Na)(a:∀c o,H c=My o->H1 c=My o):Tr F H (F.but p) H1:=⟨λc e f z=>by
 rcases z with z|z
 .exact e z
 .subst z;exact f d,λc o _ h=>a c o h,rfl⟩
theorem Fx.f5{F:Fx}:Tr (F.but p) H F H:=⟨λc h _ z=>h (P5 z),λ_ _ _ h=>h,rfl⟩
def gE(K:NR)(F:Fx)(s H:Hp)(D:a0b)(v:V):Prop:=∃a b,v= .r a/\s a=Na/\H a=My (.l b)/\aj K (F.but a) H D b
def Yz(K:NR)(f:FL)(E:a0t):TE:=λc H Q=>∃F a b,Fr F H b/\hW K F H a c/\run (gE K F H) F E c (f a) H Q b
def YN(K:NR)(f:Dn->M a0u)(E:a0t):TE:=λc H Q=>∃F a b,Fr F H b/\hW K F H a c/\run (ik K F H) F E c (f a) H Q b
noncomputable def Zf(ds:a0b):a0z:=if SW ds<=NN then My ds else Na
def Mx(a:a0b->a0z)(g:FL):FL:=λb=>M.v (g b) λs=>M.f (a s)
theorem gE.new(t:To F H H1 f)(d:H1 p=Na)(a:aj K F H1 g e):gE K F H (upd H1 p (.l e)) g (.r p):=
 ⟨p,e,rfl,t.none d,aw,aj.tr (Fx.h0 t.fr d λc o h=>by rw[a_ (aI h d)];exact h) _ _ a⟩
def G5(K:NR)(r:a0J)(G:a0b->a0z):Prop:=∀(F:Fx) (a H:Hp) (b:Bg) (Q:VK) (s D:a0b) (E:a0k),To F a H b->aj K F H s E->G s=My D->
 (∀v c,To F H c b->gE K F a c D v->Q v c)->r E H Q
theorem Eh(i:c7 X (.type T) r)(l:G5 X.K r op)(j:Gl X x)(b:X.mg x=Na)(m:Rk x=My (.type T))(D:PA X (e::es) (hO X.K g E))(G:x≠"__name__":=by decide)(c:b0c x:=by decide)
  (n:b0a X e es:=by rfl) (d:b0b X s es:=by rfl):PE X (.Call (.Name x p) (e::es) [] s) (Yz X.K (Mx op g) E):=
 (rQ i j b m D G c n d).imp λv H Q f=>i_ f λF M S fr o h=>⟨F,M,S,fr,o,(run.bind (R:=aj X.K F) h).mono λV q f=>by
  obtain⟨w,a,t,y,z⟩:=f;obtain⟨A,u,k⟩:=run.h0 z;exact l F H q a Q w A V t y u k⟩
def GP:a0b->a0z
 |[.l xs]=>My xs
 |[.t xs]=>My xs
 |_=>Na
theorem Id:G5 K (λb H Q=>∃p s,b=[.r p]/\(d_ K H p s\/f_ K H p s)/\∀l,H l=Na->Q (.r l) (upd H l (.l s))) GP:=λF D H E Q G M S t h e k=>by
 unfold GP at e;split at e
 .cases e
  obtain⟨v,rfl,g⟩:=aj.h0 h;obtain⟨a,b,rfl,r,d⟩:=bc.h0 g;exact⟨a,b,rfl,.inl r,λl c=>k _ _ (t.fr.upd _ c) (gE.new t c d)⟩
 .cases e
  obtain⟨v,rfl,g⟩:=aj.h0 h;obtain⟨a,b,rfl,r,d⟩:=bc.f5 g;exact⟨a,b,rfl,.inr r,λl c=>k _ _ (t.fr.upd _ c) (gE.new t c d)⟩
 .cases e
theorem aj.rep(h:aj K F H c d):∀n:Nat,aj K F H (NX n c).flatten (NX n d).flatten
 |0=>rfl
 |n+1=>by
  rw[Px,Py,Px,Py];exact aj.append h (aj.rep h n)
noncomputable def uM(a:a0b)(d:D):a0z:=match d with
 | .n k=>if(decide (-(2^63)<=k)&&decide (k<2^63)&&decide (SW a<=NN)&&decide (SW a*k.toNat<=NN))=Nf then My (NX k.toNat a).flatten else Na
 |_=>Na
def yd(g:FL)(f:FD):FL:=λb=>M.v (g b) λa=>M.v (M.f (Zf a)) λa=>M.v (f b) λd=>M.f (uM a d)
theorem Mv(ha:PA X es (hO X.K g E))(L:PE X b (tV X.K f E)):PE X (.BinOp (.List es pos') .Mult b s) (Yz X.K (yd g f) E):=
 (dP JP (gu ha) L).imp λN H Q i=>i_ i λF G β fr y r=>⟨F,G,β,fr,y,(run.bind (R:=aj X.K F) r).mono λD O i=>by
  obtain⟨ds,a,t,S,r1⟩:=i;obtain⟨P,j,T⟩:=run.f5 r1;unfold Zf at j;split at j
  .rename_i U
   cases j;refine⟨by rw[<-S.length];exact U,λp A=>?_⟩;have t1:=t.fr.upd (.l D) A;have B:=t.fr.fresh A;refine⟨F,G,a,t1.fr,(y.tr (t.tr fr)).tr (t1.tr t.fr),?_⟩;obtain⟨I,V,e,h⟩:=T;have n:run (gE X.K F H) F E N (M.v (f G) λd=>M.f (uM ds d)) (upd O p (.l D)) Q a:=by
    refine⟨I,V,e,?_⟩;cases I with
    |ok d=>exact λv o t2=>h v o (t1.trans t2)
    |error C=>exact λo t2=>h o (t1.trans t2)
   refine(run.bind (R:=bc X.K F) n).mono λw W i=>ot i λd aa t2 Y Z=>?_;obtain⟨os,c,k⟩:=run.h0 Z;unfold uM at c;split at c
   .split at c
    .rename_i kk m
     cases c;simp only[N5,Og]at m;cases Y;have u:W p=My (.l D):=t2.kp p _ aw λb l q=>⟨λz=>B (z▸(fr.bgA b l q).1),λz=>B (z▸(fr.bgA b l q).2.1)⟩;have x:=t1.trans t2;exact⟨p,_,D,rfl,rfl,u,m.1.1.1,m.1.1.2,by rw[<-S.length];exact m.2,λq J=>k _ _ (t2.fr.upd _ J) (gE.new (t.trans x) J ((aj.tr (x.tr t.fr) _ _ S).rep _))⟩
    .cases c
   .cases c
  .cases j⟩
def ie(nv:Nat)(br:a0a)(it:Dn->M (List Pu.D))(tg:lu)(s:a0s)(b:Dn->M (List Pu.D)):Dn->M (List Pu.D):=λa E=>match it a E with
 |none=>Na
 |some (.error C,β1)=>My (.error C,β1)
 |some (.ok ds,β1)=>match mY tg s b ds (j0 nv br a) β1 with
  |some (.ok os,β2)=>if SW os<=NN then My (.ok os,β2)else Na
  |_=>Na
theorem zt{G:a0j}{S:a0a}{V:Dn->M (List Pu.D)}{g:TG}{s:lu}{X:a0s}{B:a0Z}{b:Dn->M (List Pu.D)}(O:cQ K g s)(P:d7 s)(T:∀D,jH K D (B D) b){I:St}{H:Hp}{Q:VK}(h:Yz K (ie (SW G) S V s X b) E I H Q):
  oW G S (iV K V E) (λD J=>dh J g (hL K X E0) (B D)) I H Q:=by
 obtain⟨F,δ,β,fr,L,r,k,e,h⟩:=h;unfold ie at e;refine⟨F,δ,β,fr,L,?_⟩;split at e
 .cases e
 .rename_i C β1 q
  cases e;exact⟨.error C,_,q,h⟩
 .rename_i ds β1 q
  split at e
  .rename_i os β2 q2
   split at e
   .rename_i U
    cases e;refine⟨.ok ds,β1,q,λJ j t W D c=>?_⟩;have d:¬F.A D:=t.fr.fresh c;have Y:∀b l,F.bg=My (b,l)->D≠b/\D≠l:=λb l z=>⟨λw=>d (w▸(fr.bgA b l z).1),λw=>d (w▸(fr.bgA b l z).2.1)⟩;have t2:=t.fr.upd (.l []) c;have m:Fr ⟨λa=>F.A a\/a=D,F.bg⟩ (upd j D (.l [])) β1:=by
     refine⟨λa ha z=>?_,λb l z=>let ⟨x,y,w⟩:=fr.bgA b l z;⟨.inl x,.inl y,w⟩,t2.fr.bag⟩
     rcases ha with ha|ha
     .exact t2.fr.occ a ha z
     .subst ha;rw[aw]at z;cases z
    have f:Tr F j ⟨λa=>F.A a\/a=D,F.bg⟩ (upd j D (.l [])):=⟨λa ha hs z=>by
     rcases z with z|z
     .exact ha z
     .subst z;exact hs c,λa o ha z=>by rw[a_ (aI z c)];exact z,rfl⟩
    refine mT (R:=RL K) (D:=D) (as:=[]) (os:=os) O P (T D) m (.inr rfl) Y (qm (L.tr ((t.tr fr).trans f))) ⟨[],aw,rfl⟩ (W.tr f) q2 (show SW os<=NN from U) λZ N t3 aa p=>?_;obtain⟨i,u,v⟩:=p;have tf:To F j N k:=by
     refine⟨λa o z n=>t3.kp a o (by rw[a_ (aI z c)];exact z) (aI z c) n,λa ha z=>t3.fr.occ a (P5 ha) z,fr.bgA,t3.fr.bag⟩
    exact h _ N (t.trans tf) ⟨D,i,rfl,t.none c,u,v⟩
   .cases e
  .cases e
def oG(s:lu)(E:a0s)(b:Dn->M (List (List Pu.D))):List Pu.D->Dn->M (List (List Pu.D))
 |[],_=>M.h0 []
 |d::ds,δ=>match s d δ with
  |none=>M.o8
  |some a=>M.v (E a) λc=>M.v (if c=Nf then b a else M.h0 []) λo=>M.v (oG s E b ds δ) λG=>M.h0 (o++G)
def D2(K:NR)(F:Fx)(D:Nh)(s H:Hp)(E:List (List Pu.D))(a:a0k):Prop:=(∀c,s c≠Na->H c≠Na)/\∃b,a=b.map V.r/\(D::b).Nodup/\bA K F H (λr=>s r=Na) E b
theorem D2.mono{F:Fx}{D:Nh}(g:F.A D)(i:∀b l,F.bg=My (b,l)->H0 b≠Na/\H0 l≠Na)(fr:Fr F H β)(t:l_ F D H H1 β1)(h:D2 K F D H0 H as n):D2 K F D H0 H1 as n:=by
 obtain⟨cv,E,e,a,j⟩:=h;refine⟨λc k z=>?_,E,e,a,bA.tr (t.tr fr g) j λr G m p q=>⟨p,t.kp r _ q (λz=>?_) λb l w=>⟨λz=>?_,λz=>?_⟩⟩⟩
 .cases q:H c with
  |none=>exact cv c k q
  |some o=>
   by_cases s:c=D
   .subst s;exact t.fr.occ _ g z
   .by_cases d:∃b l,F.bg=My (b,l)/\(c=b\/c=l)
    .obtain⟨b,l,w,f⟩:=d
     rcases f with rfl|rfl
     .exact t.fr.occ _ (fr.bgA _ _ w).1 z
     .exact t.fr.occ _ (fr.bgA _ _ w).2.1 z
    .rw[t.kp c o q s λb l w=>⟨λy=>d ⟨b,l,w,.inl y⟩,λy=>d ⟨b,l,w,.inr y⟩⟩]at z
     cases z
 .subst z;exact(OE.mp a).1 m
 .subst z;exact(i _ _ w).1 p
 .subst z;exact(i _ _ w).2 p
def qr(K:NR)(D:Nh)(i:TB)(f:Dn->M (List (List Pu.D))):Prop:=∀(F:Fx) (s H:Hp) (E:Dn) (V d:Bg) (h:St) (a:a0k) (G S:List (List Pu.D)) (Q:a0G),Fr F H V->F.A D->(∀b l,F.bg=My (b,l)->D≠b/\D≠l)->(∀b l,F.bg=My (b,l)->s b≠Na/\s l≠Na)->hW K F H E h->H D=My (.l a)->D2 K F D s H G a->
 f E V=My (.ok S,d)->SW G+SW S<=NN->(∀e g c,l_ F D H g d->hW K F g E e->g D=My (.l c)->D2 K F D s g (G++S) c->Q e g)->i h H Q
def oH(f:Dn->M (List Pu.D)):Dn->M (List (List Pu.D)):=λa=>M.v (f a) λd=>M.h0 [d]
theorem bA.snoc(p:P r)(c:H r=My (.l e))(d:aj K F H f e):∀{a:List (List Pu.D)} {b:a0r},bA K F H P a b->bA K F H P (a++[f]) (b++[r])
 |[],[],_=>⟨p,⟨e,c,d⟩,trivial⟩
 |_::_,_::_,h=>⟨h.1,h.2.1,bA.snoc p c d h.2.2⟩
 |[],_::_,h=>h.elim
 |_::_,[],h=>h.elim
theorem jY{D:Nh}:qr K D (yW D (Yz K f E0)) (oH f):=λF E H X β j Y s as os Q fr m p P R T G e Z k=>by
 obtain⟨d,aa,e1,e2⟩:=M.f5 e;cases e2;refine⟨F,X,β,fr,R,E0.run e1 λv U t hv=>?_⟩;have u:=t.kp D _ T p;have w:=G.mono m P fr (t.toD D);obtain⟨r,xs,rfl,g,n1,n2⟩:=hv;obtain⟨cv,S,A,nd,W⟩:=w;obtain⟨B,c,C,I,J⟩:=G;have i:SW s=SW as:=by rw[A,M9,W.len]
 have L:c=S:=by
  have:c.map V.r=S.map V.r:=C.symm.trans A;exact UT (λa b q=>by cases q;rfl)|>.mp this
 subst L;have nD:r≠D:=λz=>by subst z;rw[T]at g;cases g
 have nr:r∉c:=λz=>by
  obtain⟨_,ys,q⟩:=J.all r z;rw[q]at g;cases g
 have N:E r=Na:=by
  cases q:E r with
  |none=>rfl
  |some o=>exact NW g (B r (by rw[q];simp))
 refine⟨s,u,by rw[i];simp at Z;lia,?_⟩;have O:l_ F D U (upd U D (.l (s++[.r r]))) j:=by
  refine⟨λa o h n _=>by rw[a_ n];exact h,λa h q=>?_,fr.bgA,λb l q=>?_⟩
  .by_cases z:a=D
   .subst z;rw[aw]at q;cases q
   .rw[a_ z]at q;exact t.fr.occ a h q
  .rw[a_ (p b l q).1.symm,a_ (p b l q).2.symm]
   exact t.fr.bag b l q
 have tt:=O.tr t.fr m;refine k Y _ _ ((t.toD D).trans O) (R.tr ((t.tr fr).trans tt)) aw (D2.mono m P t.fr O ⟨cv,c++[r],by rw[A,NV];rfl,?_,bA.snoc N n1 (aj.tr Fx.f5 _ _ n2) W⟩);rw[<-Rw,QK];refine⟨I,by simp,λx hx y hy=>?_⟩;obtain rfl:y=r:=by simpa using hy
 rcases NC.mp hx with rfl|hx
 .exact nD.symm
 .exact λz=>nr (z▸hx)
end
section
variable{X:Cx}{E:a0t}{K:NR}
theorem Ib{D:Nh}(hg:cQ K g tg)(sg:d7 tg)(hb:qr K D tb b){F:Fx}{as os:List (List Pu.D)}(fr:Fr F H β)(R:F.A D)(hn:∀b l,F.bg=My (b,l)->D≠b/\D≠l)(Y:∀b l,F.bg=My (b,l)->H0 b≠Na/\H0 l≠Na)(vk:hW K F H z σ)(hD:H D=My (.l acc))(hd:D2 K F D H0 H as acc)
  (it:ux K J F H s) (e:oG tg tt b s z β=My (.ok os,β')) (hz:SW as+SW os<=NN) (k:∀f n a,l_ F D H n β'->hW K F n z f->n D=My (.l a)->D2 K F D H0 n (as++os) a->Q f n):dh J g (hL K tt E0) tb σ H Q:=by
 refine⟨λi m f n=>m+i=SW s/\∃E a j t,l_ F D H n E/\hW K F n z f/\n D=My (.l a)/\D2 K F D H0 n j a/\oG tg tt b (s.drop i) z E=My (.ok t,β')/\j++t=as++os,
  ⟨SW s,by lia,β,acc,as,os,⟨λ_ _ h _ _=>h,fr⟩,vk,hD,hd,e,rfl⟩,?_⟩
 rintro i m f n ⟨hm,E,a,j,t,t1,v,w,y,r,Z⟩;have X:=t1.tr fr R;obtain⟨iy,is⟩:=it F n E X t1.fr i;cases T:s[i]? with
 |none=>
  have U:SW s<=i:=TX.mp T;rw[Q2 U]at r;cases r;refine .inl ⟨is (by lia),k f n a t1 v w ?_⟩;rw[<-Z,Ob];exact y
 |some d=>
  have U:i<SW s:=(Nn.mp T).1;obtain⟨go,yl⟩:=iy d T;have ed:s.drop i=d::s.drop (i+1):=by
   rw[Os U];congr 1;exact N6 ((Ng U).symm.trans T)
  rw[ed]at r;unfold oG at r;cases q:tg d z with
  |none=>rw[q]at r;cases r
  |some G=>
   rw[q]at r;obtain⟨c,V,e2,e3⟩:=M.f5 r;obtain⟨o,S,W,e5⟩:=M.f5 e3;obtain⟨B,ah,e6,e7⟩:=M.f5 e5;cases e7;obtain⟨s1,s2⟩:=sg _ _ _ q;refine .inr ⟨go,λC I=>∃p,l_ F D H I S/\hW K F I z C/\I D=My (.l p)/\D2 K F D H0 I (j++o) p,?_,λx H2 hy=>?_⟩
   .rintro C I ⟨p,t9,vk9,hD9,hd9⟩
    exact⟨m-1,by lia,by lia,S,p,j++o,B,t9,vk9,hD9,hd9,e6,by rw[Ny];exact Z⟩
   .obtain⟨sm,dx⟩:=yl x H2 hy
    have t2:To F n H2 E:=t1.fr.same sm;have aa:=t2.tr t1.fr;refine hg F H2 z G f d x _ (v.tr aa) dx q λab u=>⟨F,G,E,t2.fr,u,E0.run e2 λc' H3 t3 ec=>?_⟩;subst ec;have ac:=sm _ _ w;have L:=t3.kp D _ ac hn;have N:=t3.tr t2.fr;have d3:=(y.mono R Y t1.fr (t2.toD D)).mono R Y t2.fr (t3.toD D);have O:l_ F D H H3 V:=t1.trans ((t2.trans t3).toD D);have ad:SW j+SW (o++B)<=NN:=by
     have:=Ou SW Z;simp only[Nw]at this⊢;lia
    cases c' with
    |true=>
     rw[Nu rfl]at W⊢;refine hb F H0 H3 G V S ab a j o _ t3.fr R hn Y (u.tr N) L d3 W (by rw[Nw]at ad;lia) λai H4 P t4 ae af ag=>?_;exact⟨P,O.trans t4,ae.sub s1 s2,af,ag⟩
    |false=>
     rw[Nv Nz]at W⊢;cases W;exact⟨a,O,(u.tr N).sub s1 s2,L,by rw[Ob];exact d3⟩
def gB(G:Nat)(K:a0a)(S:Dn->M (List Pu.D))(V:lu)(X:a0s)(b:Dn->M (List (List Pu.D))):Dn->M (List (List Pu.D)):=λE a=>match S E a with
 |none=>Na
 |some (.error C,β1)=>My (.error C,β1)
 |some (.ok ds,β1)=>match oG V X b ds (j0 G K E) β1 with
  |some (.ok os,β2)=>if SW os<=NN then My (.ok os,β2)else Na
  |_=>Na
theorem rp{S:a0j}{V:a0a}{X:Dn->M (List Pu.D)}{g:TG}{G:lu}{s:a0s}{B:a0Z}{b:Dn->M (List (List Pu.D))}(P:cQ K g G)(R:d7 G)(T:∀D,qr K D (B D) b){I:St}{H:Hp}{Q:VK}(h:YN K (gB (SW S) V X G s b) E I H Q):
  oW S V (iV K X E) (λD J=>dh J g (hL K s E0) (B D)) I H Q:=by
 obtain⟨F,δ,β,fr,L,r,k,e,h⟩:=h;unfold gB at e;refine⟨F,δ,β,fr,L,?_⟩;split at e
 .cases e
 .rename_i C β1 q
  cases e;exact⟨.error C,_,q,h⟩
 .rename_i ds β1 q
  split at e
  .rename_i os β2 q2
   split at e
   .rename_i U
    cases e;refine⟨.ok ds,β1,q,λJ f t W D d=>?_⟩;have i:¬F.A D:=t.fr.fresh d;have Y:∀b l,F.bg=My (b,l)->D≠b/\D≠l:=λb l z=>⟨λw=>i (w▸(fr.bgA b l z).1),λw=>i (w▸(fr.bgA b l z).2.1)⟩;have t2:=t.fr.upd (.l []) d;have m:Fr ⟨λa=>F.A a\/a=D,F.bg⟩ (upd f D (.l [])) β1:=by
     refine⟨λa ha z=>?_,λb l z=>let ⟨x,y,w⟩:=fr.bgA b l z;⟨.inl x,.inl y,w⟩,t2.fr.bag⟩
     rcases ha with ha|ha
     .exact t2.fr.occ a ha z
     .subst ha;rw[aw]at z;cases z
    have j:Tr F f ⟨λa=>F.A a\/a=D,F.bg⟩ (upd f D (.l [])):=⟨λa ha hs z=>by
     rcases z with z|z
     .exact ha z
     .subst z;exact hs d,λa o ha z=>by rw[a_ (aI z d)];exact z,rfl⟩
    have cv:∀c,H c≠Na->upd f D (.l []) c≠Na:=λc Z z=>by
     by_cases w:c=D
     .subst w;rw[aw]at z;cases z
     .rw[a_ w]at z;exact Z (t.none z)
    refine Ib (D:=D) (H0:=H) (as:=[]) (os:=os) P R (T D) m (.inr rfl) Y (λb l z=>⟨fr.occ _ (fr.bgA b l z).1,fr.occ _ (fr.bgA b l z).2.1⟩) (qm (L.tr ((t.tr fr).trans j))) aw ⟨cv,[],rfl,by simp,trivial⟩ (W.tr j) q2 (by simpa using U) λaa N O t3 ab u v=>?_;have tf:To F f N k:=by
     refine⟨λa o z n=>t3.kp a o (by rw[a_ (aI z d)];exact z) (aI z d) n,λa ha z=>t3.fr.occ a (P5 ha) z,fr.bgA,t3.fr.bag⟩
    obtain⟨_,rs,ea,nd,rl⟩:=v;subst ea;exact h _ N (t.trans tf) ⟨D,rs,rfl,t.none d,u,nd,bA.tr (F:=⟨λa=>F.A a\/a=D,F.bg⟩) ⟨λa ha _ z=>ha (P5 z),λa o _ z=>z,rfl⟩ rl λr xs _ p q=>⟨p,q⟩⟩
   .cases e
  .cases e
section
variable{q r m:Expr}{o:List Expr}{n:a0Q}{l:Scope}{p:SA}{t w:a0j}{v:a0a}{g:TG}{u:a0Z}
theorem JX(c:X.calm=Nf)(S:cp X l t w v)(d:PI X r m (iV X.K z E))
  (e:∀(G:a0n) (C:Nh) (a:a0r) (s:Nq) (H:Hp),PG (aM X t l G C a s H) r g/\d9 (aM X t l G C a s H) o (hL X.K A E0)/\∀D,PB (aM X t l G C a s H) q (⟨r,m,o,0⟩::n) l p 0 D (u D))
  (f:cQ X.K g y) (i:d7 y) (j:∀D,jH X.K D (u D) b) (M:∀x,OD m X.e x=P3 x:=by intro _;rfl):PE X (.ListComp q (⟨r,m,o,0⟩::n) l p) (Yz X.K (ie (SW w) v z y A b) E):=
 (mK c S d e M).imp λk H Q h=>zt f i j h
theorem Kt(c:X.calm=Nf)(S:cp X l t w v)(d:PI X r m (iV X.K z E))
  (e:∀(G:a0n) (C:Nh) (a:a0r) (s:Nq) (H:Hp),PG (aM X t l G C a s H) r g/\d9 (aM X t l G C a s H) o (hL X.K A E0)/\∀D,PB (aM X t l G C a s H) q (⟨r,m,o,0⟩::n) l p 0 D (u D))
  (f:cQ X.K g y) (i:d7 y) (j:∀D,qr X.K D (u D) b) (M:∀x,OD m X.e x=P3 x:=by intro _;rfl):PE X (.ListComp q (⟨r,m,o,0⟩::n) l p) (YN X.K (gB (SW w) v z y A b) E):=
 (mK c S d e M).imp λk H Q h=>rp f i j h
end
mutual
noncomputable def noL:D->Bool
 | .n _=>Nf
 | .c _=>Nf
 | .q _=>Nf
 | .o=>Nf
 | .t ds=>noLs ds
 |_=>Ni
noncomputable def noLs:a0b->Bool
 |[]=>Nf
 |d::ds=>noL d&&noLs ds
end
mutual
theorem wS{F b:Fx}(hF:∀c,b.A c->F.A c\/w_ H c):∀(d:D) (v:V),noL d=Nf->bc K F H d v->bc K b H d v
 | .n i,v,_,h=>h
 | .c i,v,_,h=>h
 | .q i,v,_,h=>h
 | .o,v,_,h=>h
 | .t ds,v,n,h=>by
  obtain⟨a,E,e,h1,f⟩:=h;refine⟨a,E,e,?_,noLs_den hF ds E (by simpa[noL]using n) f⟩;rcases h1 with⟨h1,r⟩|h1
  .refine .inl ⟨λz=>?_,r⟩
   rcases hF a z with z|⟨G,z⟩|⟨G,z⟩
   .exact h1 z
   .rcases r with r|⟨o,r⟩<;>rw[z]at r<;>cases r
   .rcases r with r|⟨o,r⟩<;>rw[z]at r<;>cases r
  .exact .inr h1
 | .l _,_,n,_=>by simp[noL]at n
 | .scr _,_,n,_=>by simp[noL]at n
 | .ty _,_,n,_=>by simp[noL]at n
 | .txt,_,n,_=>by simp[noL]at n
 | .obj _ _ _,_,n,_=>by simp[noL]at n
 | .bag,_,n,_=>by simp[noL]at n
 | .adr _,_,n,_=>by simp[noL]at n
 | .dct _ _ _,_,n,_=>by simp[noL]at n
theorem noLs_den{F a:Fx}(hF:∀c,a.A c->F.A c\/w_ H c):∀(D:a0b) (E:a0k),noLs D=Nf->aj K F H D E->aj K a H D E
 |[],E,_,h=>h
 |d::D,E,n,h=>by
  have b:noL d=Nf/\noLs D=Nf:=by simpa[noLs]using n
  obtain⟨x,f,e,g,i⟩:=h;exact⟨x,f,e,wS hF d x b.1 g,noLs_den hF D f b.2 i⟩
end
theorem bA.noL{F a:Fx}(hF:∀c,a.A c->F.A c\/w_ H c):∀{ac:a0u} {D:a0r},(∀ds∈ac,noLs ds=Nf)->bA K F H P ac D->(∀r∈D,P2 r)->bA K a H P2 ac D
 |[],[],_,_,_=>trivial
 |ds::ac,r::D,n,h,p=>by
  obtain⟨f,⟨G,b,d⟩,e⟩:=h;exact⟨p r Np,⟨G,b,noLs_den hF _ _ (n ds Np) d⟩,bA.noL hF (λx E=>n x (Nk _ E)) e λx E=>p x (Nk _ E)⟩
 |[],_::_,_,h,_=>h.elim
 |_::_,[],_,h,_=>h.elim
theorem eg.newGrd{E:Ds}{d:St}(G:eg K H₀ B n H E q d)(t:To (dy B n) H H' o)(M:∀S∈p,noLs S=Nf)(j:ik K (dy B n) H H' p v):
  ∃e,eg K H₀ e n H' (E.set i (My (.grd p))) o (d.set i (My v))/\f0 B H e H':=by
 obtain⟨a,D,rfl,k,f,V,b⟩:=j;have g:∀c,c=a\/c∈D->H c=Na/\w_ H' c:=λc hc=>by
  rcases hc with rfl|hc
  .exact⟨k,.inl ⟨_,f⟩⟩
  .exact⟨(b.all c hc).1,.inl (b.all c hc).2⟩
 exact G.claim (λc=>c=a\/c∈D) t g λh l _=>⟨a,D,rfl,h a (.inl rfl),f,V,bA.noL (F:=dy B n) (λc hc=>(l c hc).imp id λw=>(g c w).2) M b λr m=>h r (.inr m)⟩
end
section
variable{X:Cx}{E:a0t}{K:NR}{st:O0}{J:Hp}{B:Ow}{I:a0m}{H H':Hp}{δ:Ds}{β aa:Bg}{Y:St}
def oB(i:Nat)(f:Dn->M a0u):G:=λδ β=>match f (vw δ) β with
 |some (.ok ac,β1)=>if(ac.all noLs)=Nf then My (.nx (δ.set i (My (.grd ac))),β1)else Na
 |some (.error C,β1)=>My (.ex C δ,β1)
 |none=>Na
theorem Gz(h:PS X st (gm (YN X.K f E) (dQ i))):PS X st (tG X.K X.H₀ (oB i f) E):=h.imp λD Y H g=>by
 obtain⟨B,I,δ,β,o,aa,ok,e,q⟩:=g;refine⟨dy B I,vw δ,β,ok.fr,ok.view,?_⟩;unfold oB at e;split at e
 .rename_i ac β1 b
  split at e
  .rename_i hn
   cases e;refine⟨.ok ac,_,b,λv H' t G=>?_⟩;obtain⟨j,a,c⟩:=ok.newGrd (i:=i) t (λJ d=>QU.mp hn J d) G;exact q _ _ _ c a
  .cases e
 .rename_i C β1 b
  cases e;refine⟨.error C,_,b,λH' t=>?_⟩;obtain⟨a,c⟩:=ok.to rfl t;exact q _ B H' c a
 .cases e
theorem bA.put{H:Hp}(t:Tr F H F (upd H r (.l k)))(E:aj K F (upd H r (.l k)) ds k):∀{ac:a0u} {B:a0r} (j:Nat),bA K F H P ac B->B.Nodup->B[j]?=My r->bA K F (upd H r (.l k)) P (ac.set j ds) B
 |d0::ac,r0::B,0,h,nd,e=>by
  obtain rfl:r0=r:=by simpa using e
  have D:∀a∈B,a≠r0:=λa b z=>(OE.mp nd).1 (z▸b);exact⟨h.1,⟨k,aw,E⟩,bA.tr t h.2.2 λa G b p q=>⟨p,by rw[a_ (D a b)];exact q⟩⟩
 |d0::ac,r0::B,j+1,h,nd,e=>by
  have c:B[j]?=My r:=by simpa using e
  obtain⟨d,⟨G,f,g⟩,i⟩:=h;have D:r0≠r:=λz=>(OE.mp nd).1 (z▸NJ c);exact⟨d,⟨G,by rw[a_ D];exact f,aj.tr t _ _ g⟩,bA.put t E j i (OE.mp nd).2 c⟩
 |[],[],_,_,_,e=>by simp at e
 |[],_::_,_,h,_,_=>h.elim
 |_::_,[],_,h,_,_=>h.elim
theorem bA.at{H:Hp}:∀{ac:a0u} {rs:a0r} {j:Nat} {ds:a0b},bA K F H P ac rs->ac[j]?=My ds->∃r xs,rs[j]?=My r/\P r/\H r=My (.l xs)/\aj K F H ds xs
 |d0::ac,r0::rs,0,ds,h,e=>by
  obtain rfl:d0=ds:=by simpa using e
  obtain⟨a,⟨B,b,c⟩,g⟩:=h;exact⟨r0,B,rfl,a,b,c⟩
 |d0::ac,r0::rs,j+1,ds,h,e=>by
  obtain⟨r,xs,d,f⟩:=bA.at h.2.2 (j:=j) (ds:=ds) (by simpa using e);exact⟨r,xs,by simpa using d,f⟩
 |[],[],_,_,_,e=>by simp at e
 |[],_::_,_,_,h,_=>h.elim
 |_::_,[],_,_,h,_=>h.elim
theorem eg.writeRow{E:a0r}{X:a0u}(D:eg K J B I H δ β Y)(x:Y[i]?=My (My (.r a)))(hB:B a=My (i+2))(G:H a=My (.l (E.map V.r)))(M:(a::E).Nodup)(u:bA K (dy B I) H (λr=>B r=My (i+2)) X E)(w:E[j]?=My r)(F:H r=My (.l N))(L:aj K (dy B I) H ds xs):
  eg K J B I (upd H r (.l xs)) (δ.set i (My (.grd (X.set j ds)))) β Y/\f0 B H B (upd H r (.l xs)):=by
 have m:r∈E:=NJ w;have f:B r=My (i+2):=(u.all r m).1;have g:f0 B H B (upd H r (.l xs)):=by
  refine⟨λc o h n=>?_,λ_ _=>rfl,λ_ _ _ n=>n,λc p=>?_⟩
  .rw[a_]
   .exact h
   .intro z;subst z;rw[f]at n;rcases n with n|n<;>cases n
  .by_cases z:c=r
   .subst z;rw[aw];simp
   .rw[a_ z];exact p
 have S:Tr (dy B I) H (dy B I) (upd H r (.l xs)):=g.tr;refine⟨⟨⟨λc p z=>?_,D.fr.bgA,λb l e=>?_⟩,D.bgt,by rw[Om,D.len],λa G=>g.al a (D.cov a G),D.new,λc k p=>(by
  by_cases z:c=r
  .subst z;exact .inl ⟨xs,aw⟩
  .exact(D.lst c k p).imp λo y=>by rw[a_ z];exact y),λk s e=>?_⟩,g⟩
 .by_cases q:c=r
  .subst q;rw[aw]at z;cases z
  .rw[a_ q]at z;exact D.fr.occ c p z
 .obtain⟨b1,b2⟩:=D.bgt b l e
  rw[a_ (λz=>by subst z;rw[f]at b1;cases b1),a_ (λz=>by subst z;rw[f]at b2;cases b2)];exact D.fr.bag b l e
 .rw[Pf]at e
  by_cases q:i=k
  .subst q
   rw[Nu rfl]at e;split at e
   .cases e
    have t:a≠r:=λz=>(OE.mp M).1 (z▸m);exact⟨_,x,a,E,rfl,hB,by rw[a_ t];exact G,M,bA.put S (aj.tr S _ _ L) j u (OE.mp M).2 w⟩
   .cases e
  .rw[Nv q]at e
   obtain⟨v,A,C⟩:=D.tell k s e;exact⟨v,A,C.tr S λc d=>⟨d,λo z=>(a_ λy=>by subst y;rw[f]at d;cases d;exact q rfl).trans z⟩⟩
def l5(f:Dn->M a0u):G:=λδ β=>match f (vw δ) β with
 |some (.ok ac,β1)=>My (.rg ac,β1)
 |some (.error C,β1)=>My (.ex C δ,β1)
 |none=>Na
theorem HA(h:PS X (.Return (My e) s) (DQ (YN X.K f E))):PS X (.Return (My e) s) (tG X.K X.H₀ (l5 f) E):=h.imp λD Y H j=>by
 obtain⟨B,I,δ,β,o,aa,ok,e,q⟩:=j;refine⟨dy B I,vw δ,β,ok.fr,ok.view,?_⟩;unfold l5 at e;split at e
 .rename_i ac β1 d
  cases e;refine⟨.ok ac,_,d,λv H' t G=>?_⟩;obtain⟨b,g⟩:=ok.to rfl t;have i:∀c,H c=Na->X.H₀ c=Na:=λc k=>by
   cases w:X.H₀ c with
   |none=>rfl
   |some o=>exact NW k (ok.cov c (by rw[w];simp))
  obtain⟨a,J,rfl,l,m,M,n⟩:=G;exact q _ B H' g b.fr ⟨a,J,rfl,i a l,m,M,bA.tr (Tr.refl _ _) n λr S _ p y=>⟨i r p,y⟩⟩
 .rename_i C β1 d
  cases e;refine⟨.error C,_,d,λH' t=>?_⟩;obtain⟨b,g⟩:=ok.to rfl t;exact q _ B H' g b
 .cases e
def ZQ(K:NR)(n:Nat)(m:a0b->M a0u):Sp:=λB H Q E=>SW B=n/\∃F D β,Fr F H β/\aj K F H D B/\run (ik K F H) F (λ_=>E) [] (m D) H Q β
def m7(n:Nat)(g:G):a0b->M a0u:=λB β=>match g (nS n B) β with
 |some (.rg ac,aa)=>My (.ok ac,aa)
 |some (.ex C _,aa)=>My (.error C,aa)
 |_=>Na
variable{P:N9}{w:Ol}{mg:a0i}{ab:OO}
theorem Ix{st:O0}{N V:a0j}(n m:Nat)(g:G)(F:io K x qual st f fd)(S:ba N V (ak st))(L:SW V=n)(O:SW N=m)
  (j:∀(c:Nj) (A:Ot) (D:a0C) (s:Nq) (H:Hp) (E:XK),dr k (A.deeper (Ss qual (ak st) s.heap.objs.size f c))->
   PSs (fP (fx P w) P w K mg ab N qual (ak st) f c A D s H E) (cB st) (tG K H g (λ_=>E))):ee P w K mg ab (fx P w) (k+1) f fd V (ZQ K n (m7 m g)):=by
 subst L O;refine F.okE S (λvs H Q E h=>h.1) λc A D s H vs Q E Z h=>?_;obtain⟨hl,u,X,β,fr,hd,r,aa,e,h⟩:=h;refine⟨_,j c A D s H E Z,?_⟩;obtain⟨B,ok,R,h1,hn⟩:=uo (N:=N) fr hd;have J:∀{I:Ow} {H':Hp},f0 B H I H'->Fr (dy I u.bg) H' aa->To u H H' aa/\Tr (dy I u.bg) H' u H':=λ{I H'} s i=>by
  have hs:∀a,u.A a->I a≠Na:=λa M=>by
   rw[s.tg a (R a M)];rcases R a M with z|z<;>rw[z]<;>simp
  refine⟨⟨λa o M n=>s.kp a o M ?_,λa M=>i.occ a (hs a M),λb l e=>fr.bgA b l e,i.bag⟩,λa M _ z=>M (hs a z),λ_ _ _ h=>h,rfl⟩;cases q:B a with
  |none=>exact .inl rfl
  |some t=>
   have:=R a (hn a (by rw[q];simp));rcases this with z|z
   .rw[q]at z;exact .inr z
   .obtain⟨b,l,e,w⟩:=h1 a z
    obtain⟨T,n2⟩:=n b l e;rcases w with w|w
    .exact NW w T
    .exact NW w n2
 unfold m7 at e;split at e
 .rename_i d β1 U
  cases e;refine⟨B,u.bg,nS (SW N) X,β,.rg d,aa,ok,U,λv I H' s i hv=>?_⟩;obtain⟨t1,t2⟩:=J s i;obtain⟨a,rs,ev,n0,T,nd,rl⟩:=hv;exact h v H' t1 ⟨a,rs,ev,n0,T,nd,bA.tr t2 rl λr xs _ p y=>⟨p,y⟩⟩
 .rename_i C W β1 U
  cases e;refine⟨B,u.bg,nS (SW N) X,β,.ex C W,aa,ok,U,λac I H' s Y=>?_⟩;obtain⟨t1,t2⟩:=J s Y.fr;exact h H' t1
 .cases e
variable{e:Expr}{z:List Expr}{s p:SA}{x:Oi}{k n:Nat}{f:Nh}{P:N1}{B:a0j}
def vM(m:a0b->M a0u)(g:FL):Dn->M a0u:=λδ=>M.v (g δ) λe=>m e
theorem ik.pre{K:NR}{H b H':Hp}(t:To F H b j)(h:ik K F b H' l v):ik K F H H' l v:=by
 obtain⟨a,e,c,d,g,f,i⟩:=h;exact⟨a,e,c,t.none d,g,f,bA.tr (Tr.refl _ _) i λr k _ p y=>⟨t.none p,y⟩⟩
theorem Ku(G:ee X.p X.w X.K X.mg X.base (fx X.p X.w) k f P B (ZQ X.K n m))(o:dr k X.A)(q:Gl X x)(W:X.mg x=My (.ref f))(u:Tf X.K (.ref f)=Nf)(y:fG X.K P B [])(Z:db (fx X.p X.w) X E)
  (ha:PA X (e::z) (hO X.K g E)) (hn:∀δ β r aa,g δ β=My (.ok r,aa)->SW r=n) (a:b0c x:=by decide) (I:b0a X e z:=by rfl) (b:b0b X s z:=by rfl):
  PE X (.Call (.Name x p) (e::z) [] s) (YN X.K (vM m g) E):=
 (mM G o q W u y .nil Z ha a I b).imp λY H Q J=>i_ J λF δ β fr L r=>⟨F,δ,β,fr,L,by
  obtain⟨S,c,h,i⟩:=run.bind (R:=aj X.K F) r;refine⟨S,c,h,?_⟩;cases S with
  |error C=>exact i
  |ok ds=>
   intro vs N t V;obtain⟨d',D,t1,d,r1⟩:=i vs N t V;have O:=hn _ _ _ _ h;refine⟨by rw[Ob,<-V.length,O],F,d',D,t1.fr,by rw[Ob];exact d,?_⟩;obtain⟨j,M,T,l⟩:=r1;refine⟨j,M,T,?_⟩;cases j with
   |ok ac=>exact λv H' t2 U=>l v H' t2 (ik.pre t1 U)
   |error C=>exact l⟩
end
end L2.Pu
namespace L2
end L2
namespace L2.Pu
section
variable{X:Cx}{E:a0t}{K:NR}
def nc(K:NR)(E:a0i)(x:Oi)(d:D):Prop:=∃u v,E x=My u/\aS v u/\∀F H,bc K F H d v
theorem ld(c:nc X.K X.mg x d)(a:Gl X x:=by rfl)(D:b0c x:=by decide):PE X (.Name x g) (tV X.K (fC d) E):=by
 obtain⟨u,v,b,e,f⟩:=c;exact q_ (HM a b e D) f
mutual
noncomputable def nw:D->Option WN
 | .o=>My .none
 | .c b=>My (.bool b)
 | .n i=>My (.int i)
 | .q x=>My (.str x)
 | .l xs=>(toPs xs).map PyData.list
 | .t xs=>(toPs xs).map PyData.tuple
 |_=>Na
noncomputable def toPs:a0b->Option (List WN)
 |[]=>My []
 |x::xs=>match nw x,toPs xs with
  |some p,My ps=>My (p::ps)
  |_,_=>Na
end
mutual
theorem jU{s:Nq}(I:bt X ai y H s):∀(d:D) (v:V) (u:Nj) (p:WN),bc X.K F H d v->nw d=My p->aS v u->∃G,Reads s.heap u p G
 | .o,v,u,p,h,e,r=>by cases e;cases h.o7;cases r;exact⟨_,.none⟩
 | .c b,v,u,p,h,e,r=>by cases e;cases h.bl;cases r;exact⟨_,.bool b⟩
 | .n i,v,u,p,h,e,r=>by cases e;cases h.int;obtain⟨t,rfl⟩:=r;exact⟨_,.int i t⟩
 | .q x,v,u,p,h,e,r=>by cases e;cases h.o9;obtain⟨t,rfl⟩:=r;exact⟨_,.str x t⟩
 | .l xs,v,u,p,h,e,r=>by
  unfold nw at e;cases q:toPs xs with
  |none=>rw[q]at e;cases e
  |some M=>
   rw[q]at e;cases e;obtain⟨a,S,rfl,l,c⟩:=bc.h0 h;cases r;obtain⟨E,f,m,_⟩:=I.list l;obtain⟨G,g⟩:=reads_L I xs S E M c q f;obtain⟨o,j,k,n,w⟩:=m.isList;exact⟨_,.list j k w (by simpa using g)⟩
 | .t xs,v,u,p,h,e,r=>by
  unfold nw at e;cases q:toPs xs with
  |none=>rw[q]at e;cases e
  |some M=>
   rw[q]at e;cases e;obtain⟨a,S,rfl,l,c⟩:=bc.f5 h;cases r;obtain⟨E,f,m,_⟩:=I.tuple l;obtain⟨G,g⟩:=reads_L I xs S E M c q f;obtain⟨o,j,k,n,w⟩:=m;exact⟨_,.tuple j k w (by simpa using g)⟩
 | .ty _,_,_,_,_,e,_=>by cases e
 | .txt,_,_,_,_,e,_=>by cases e
 | .scr _,_,_,_,_,e,_=>by cases e
 | .obj _ _ _,_,_,_,_,e,_=>by cases e
 | .bag,_,_,_,_,e,_=>by cases e
 | .adr _,_,_,_,_,e,_=>by cases e
 | .dct _ _ _,_,_,_,_,e,_=>by cases e
theorem reads_L{s:Nq}(I:bt X ai m H s):∀(E:a0b) (D:a0k) (G:a0g) (M:List WN),aj X.K F H E D->toPs E=My M->az D G->∃S,ReadsAll s.heap G M S
 |[],D,G,M,h,e,r=>by
  have q:D=[]:=h;subst q;cases e;cases r;exact⟨_,.nil⟩
 |d::E,D,G,M,h,e,r=>by
  obtain⟨x,a,rfl,b,c⟩:=h;unfold toPs at e;split at e
  .rename_i p pr f g
   cases e;cases r with
   |cons V i=>
    obtain⟨S,j⟩:=jU I d x _ p b f V;obtain⟨l,k⟩:=reads_L I E a _ pr c g i;exact⟨_,.cons j k⟩
  .cases e
end
def kT(a b:D):a0E:=match nw a,nw b with
 |some p,My q=>if(Td p&&Td q)=Nf then My (RQ p q)else Na
 |_,_=>Na
def fN(a b:D):a0l:=match YW a b with
 |some c=>My (.c c)
 |none=>(kT a b).map D.c
def ir(a b:D):a0l:=match YW a b with
 |some c=>My (.c (!c))
 |none=>(kT a b).map λc=>D.c (!c)
def qD(X:Cx)(g:Bool->Bool):R2:=λx y H Q=>∃(F:Fx) (a b:D) (c:Bool),bc X.K F H a x/\bc X.K F H b y/\kT a b=My c/\Q (.c (g c)) H
theorem sr{c:Bool}(h:kT a b=My c):∃p q,nw a=My p/\nw b=My q/\Td p=Nf/\Td q=Nf/\c=RQ p q:=by
 unfold kT at h;split at h
 .rename_i p q d e
  split at h
  .rename_i hs
   rw[N5]at hs;cases h;exact⟨p,q,d,e,hs.1,hs.2,rfl⟩
  .cases h
 .cases h
theorem JT(f:dr k X.A):e_ X (OP .Eq) (qD X id):=by
 intro d s r H x y v u Q I g i h;obtain⟨F,a,b,c,D,E,e,q⟩:=h;obtain⟨p,G,j,l,m,n,rfl⟩:=sr e;obtain⟨M,K⟩:=jU I a x v p D j g;obtain⟨S,o⟩:=jU I b y u G E l i;exact eq_dataH K o m n f.units ⟨.c _,H,I,rfl,q⟩
theorem JR(f:dr k X.A):e_ X (OP .NotEq) (qD X not):=by
 intro d s r H x y v u Q I g i h;obtain⟨F,a,b,c,D,E,e,q⟩:=h;obtain⟨p,G,j,l,m,n,rfl⟩:=sr e;obtain⟨M,K⟩:=jU I a x v p D j g;obtain⟨S,o⟩:=jU I b y u G E l i;exact ne_dataH K o m n f.units ⟨.c _,H,I,rfl,q⟩
theorem bJ(a:dr k X.A):e_ X (OP .Eq) (λx y H Q=>Z0 x y H Q\/qD X id x y H Q):=Mu.or (JT a)
theorem gv(a:dr k X.A):e_ X (OP .NotEq) (λx y H Q=>ZY x y H Q\/qD X not x y H Q):=Ms.or (JR a)
theorem bU:bz X.K (λx y H Q=>Z0 x y H Q\/qD X id x y H Q) fN:=λF H G Q D E d h i fr a b e k=>by
 unfold fN at e;split at e
 .rename_i c q
  cases e;obtain⟨f,g⟩:=CO q a b;exact .inl ⟨f,by rw[g];exact k _ H (To.refl fr) rfl⟩
 .cases q:kT D E with
  |none=>rw[q]at e;cases e
  |some c=>rw[q]at e;cases e;exact .inr ⟨F,D,E,c,a,b,q,k _ H (To.refl fr) rfl⟩
theorem iI:bz X.K (λx y H Q=>ZY x y H Q\/qD X not x y H Q) ir:=λF H G Q D E d h i fr a b e k=>by
 unfold ir at e;split at e
 .rename_i c q
  cases e;obtain⟨f,g⟩:=CO q a b;exact .inl ⟨f,by rw[g];exact k _ H (To.refl fr) rfl⟩
 .cases q:kT D E with
  |none=>rw[q]at e;cases e
  |some c=>rw[q]at e;cases e;exact .inr ⟨F,D,E,c,a,b,q,k _ H (To.refl fr) rfl⟩
theorem M1(i j:Int):fN (.n i) (.n j)=My (.c (decide (i=j))):=rfl
theorem M0(i j:Int):ir (.n i) (.n j)=My (.c (!decide (i=j))):=rfl
def m6(d:D):Bool:=match nw d with
 |some p=>Td p
 |none=>Ni
theorem GR{C:a0X}{c:Int->Int->Bool}{g:a0N}(b:∀i j,c i j=Nf->C i j):bz K (YT C g) (n_ λi j=>if c i j=Nf then My (.n (g i j))else Na):=λF H D Q E G d l m fr f h e k=>by
 obtain⟨i,j,rfl,rfl,a⟩:=i7 e;split at a
 .cases a
  exact⟨i,j,f,h,b _ _ (by assumption),k _ H (To.refl fr) rfl⟩
 .cases a
def addI:D->D->a0l:=n_ λi j=>My (.n (i+j))
theorem wY:bz K (ipI λi j=>i+j) addI:=λF H D Q E G d f g fr a b e k=>by
 obtain⟨i,j,rfl,rfl,c⟩:=i7 e;cases c;exact⟨i,j,a,b,k _ H (To.refl fr) rfl⟩
theorem w4:Zx X .Mult (YT tT λi j=>i*j):=by
 intro a s e H x y v u Q I b d h;obtain⟨i,j,rfl,rfl,c,q⟩:=h;obtain⟨t,rfl⟩:=b;obtain⟨D,rfl⟩:=d;exact imul_int ⟨.n _,H,I.tok _,⟨_,rfl⟩,q⟩ (W9 (jF c.1) (jF c.2))
theorem wX:bz K (YT tT λi j=>i*j) u6:=GR λi j h=>by
 simp only[N5,cf,Og]at h;exact h
theorem ED:bz K (YT tU λi j=>i/j) yM:=GR λi j h=>by
 simp only[N5,Og]at h;exact h
abbrev gW:=DS
theorem CU(b:X.calm=Nf):c7 X (.builtin "sum") (λE H Q=>∃(a:Nh) (D:a0d),E=[.r a]/\d_ X.K H a (D.map V.n)/\Q (.n D.sum) H):=su b
theorem Ke:dT K (λE H Q=>∃(a:Nh) (D:a0d),E=[.r a]/\d_ K H a (D.map V.n)/\Q (.n D.sum) H) gW:=MK
def G7(H:Hp)(b l:Nh):Prop:=∃(D:a0d) (i j:Int),H b=My (.l [.r l,.n i,.n j])/\H l=My (.l (D.map V.n))/\D≠[]/\SW D<=64/\(∀c∈D,0<=c)/\0<=j
theorem Il(h:k<n):i4 n (k:Int)=My k:=by
 unfold i4;rw[Nu (by lia),Nu (by lia)];simp
theorem M3(D:a0d):∃a:a0d,jg (D.map V.n) Na (My 63)=a.map V.n/\SW a<=63:=by
 refine⟨(D.drop (HT.sIx (SW D) 0 Na)).take (HT.sIx (SW D) (SW D) (My 63)-HT.sIx (SW D) 0 Na),?_,?_⟩
 .unfold jg
  rw[M9,SJ,Rf]
 .rw[N8]
  have:HT.sIx (SW D) (SW D) (My 63)<=63:=by
   unfold HT.sIx;simp;lia
  lia
def Mg(K:NR):Sp:=λD H Q _=>∃(a:Nh) (E:a0d),D=[.r a]/\d_ K H a (E.map V.n)/\∀(b l:Nh) (c:Hp),H b=Na->H l=Na->G7 c b l->bT H c->Q (.r b) c
def Gv(K:NR):Sp:=λE H Q _=>∃(a:Nh) (D:a0d),E=[.r a]/\d_ K H a (D.map V.n)/\SW D<=63/\∀b,Q (.c Nf) b
theorem IH(sm:bT H₀ H)(A:H₀ b=Na)(C:H₀ l=Na)(B:G7 H b l):∃E,E.ok/\eg K H₀ (λc=>if c=b\/c=l then My 1 else Na) (My (b,l)) H (Na::My (.h .bag)::NX n Na) E (My (.r a)::My (.r b)::NX n Na):=by
 obtain⟨D,i,j,g,h,p,v,w,y⟩:=B;have m:b≠l:=MB g h (by
  intro z;cases D with
  |nil=>exact p rfl
  |cons c r=>simp at z)
 refine⟨⟨D,i,j⟩,⟨p,v,w,y⟩,⟨⟨λc f=>?_,λt u e=>?_,λt u e=>?_⟩,λt u e=>?_,by simp,λc f=>?_,λc k f=>(by
  have d:(if c=b\/c=l then My 1 else Na)=My (k+2):=f;split at d<;>cases d),λc k f=>(by
  have d:(if c=b\/c=l then My 1 else Na)=My (k+2):=f;split at d<;>cases d),λk s e=>?_⟩⟩
 .have d:(if c=b\/c=l then My 1 else Na)≠(Na:a0K):=f
  split at d
  .rename_i q
   rcases q with rfl|rfl
   .rw[g];simp
   .rw[h];simp
  .exact NW rfl d
 .cases e
  refine⟨?_,?_,m⟩
  .show(if b=b\/b=l then My 1 else Na)≠(Na:a0K)
   rw[Nu (.inl rfl)];simp
  .show(if l=b\/l=l then My 1 else Na)≠(Na:a0K)
   rw[Nu (.inr rfl)];simp
 .cases e
  exact⟨g,h⟩
 .cases e
  exact⟨Nu (.inl rfl),Nu (.inr rfl)⟩
 .cases q:H₀ c with
  |none=>exact NW q f
  |some o=>rw[sm c o q];simp
 .match k with
  |0=>simp at e
  |1=>
   simp at e;subst e;exact⟨.r b,rfl,b,l,rfl,rfl⟩
  |k+2=>
   simp only[R1,QV]at e;split at e<;>cases e
variable{P:N9}{w:Ol}{mg:a0i}{base:OO}
theorem l6{M:O0}{N V:a0j}(n m:Nat)(g:G)(F:io K x c M f h)(S:ba N V (ak M))(d:SW V=n)(e:SW N=m)
  (a:∀(b:Nj) (A:Ot) (D:a0C) (s:Nq) (H:Hp) (E:XK),dr k (A.deeper (Ss c (ak M) s.heap.objs.size f b))->
   PSs (fP (fx P w) P w K mg base N c (ak M) f b A D s H E) (cB M) (tG K H g (λ_=>E))):ee P w K mg base (fx P w) (k+1) f h V (A_ K n (dS m g)):=by
 subst d e;exact Iu F S a
end
end L2.Pu
namespace L2
theorem cp.ofB{X:Cx}{w:Scope}{D:a0a}(k:w.kind= .function)(E:(w.names.map (·.1)).Nodup)
  (fr:(w.names.all λy=>y.2 != .free||(X.e.scope.names.lookup y.1==My .cell||X.e.scope.names.lookup y.1==My .free))=Nf) (a:Nc=b_++D.map (λj=>X.N.getD j RH))
  (b:(D.all λj=>decide (j<SW X.N)&&w.names.lookup (X.N.getD j RH)==My .free)=Nf):cp X w Nc b_ D:=by
 refine⟨k,E,λy G e=>?_,a,λj c=>?_⟩
 .have:=QU.mp fr y G
  rw[e]at this;simp only[Rg,Bool.false_or,Vu,RM]at this;exact this
 .have:=QU.mp b j c
  simp only[N5,Og,RM]at this;exact this
end L2
namespace L2.Pu
end L2.Pu
namespace L2.Pu
section
variable{X:Cx}{E:a0t}{K:NR}{z A u:Expr}{w:List Expr}{v:a0Q}{t:Scope}{y:SA}{B J:a0j}{I:a0a}{g:TG}{F:a0Z}
theorem pb{a c:SA}(j:X.N.Nodup)(d:X.N[i]?=My x)(M:xl X.e.scope x)(k:X.calm=Nf)(S:cp X t B J I)(l:PI X A u (iV X.K O E))
  (m:∀(G:a0n) (C:Nh) (f:a0r) (s:Nq) (H:Hp),PG (aM X B t G C f s H) A g/\d9 (aM X B t G C f s H) w (hL X.K Q E0)/\∀D,PB (aM X B t G C f s H) z (⟨A,u,w,0⟩::v) t y 0 D (F D))
  (n:cQ X.K g L) (o:d7 L) (p:∀D,qr X.K D (F D) b)
  (e:Tg (.ListComp z (⟨A,u,w,0⟩::v) t y) (My (.Name x a)) c.line X.e=P3 Nf:=by rfl)
  (P:∀x,OD u X.e x=P3 x:=by intro _;rfl) (q:b0d X x:=by first|exact .inl rfl|exact .inr rfl|assumption):
  PS X (.Assign [.Name x a] (.ListComp z (⟨A,u,w,0⟩::v) t y) c) (tG X.K X.H₀ (oB i (gB (SW J) I O L Q b)) E):=
 Gz ((wI j d M k S l m e P q).imp λD r H h=>rp n o p h)
end
end L2.Pu
namespace L2
section
variable{X:Cx}
theorem E9{D:a1d}{w:a0g}(r:az (D.map V.c) w){i:Nat}{v:Nj}(h:w.toArray[i]?=My v):v= .bool (D.getD i Ni):=by
 have E:w[i]?=My v:=by simpa using h
 have a:=r.length;rw[M9]at a;have b:i<SW D:=by rw[a];exact(Nn.mp E).1
 obtain⟨u,c,d⟩:=r.get (i:=i) (x:=V.c D[i]) (by rw[Nl,Ng b];rfl);rw[E]at c;cases c;rw[NA,Ng b];exact d
theorem z5{α:Type}(f:Bool->Bool)(w:a1d):(Nr (SW w)).map (λi=>w.getD i Ni)=w:=by
 apply Se;intro i;rw[Nl];by_cases h:i<SW w
 .rw[Oq h,Ng h]
  simp[NA,Ng h]
 .rw[Sz (by simpa using h),Sz (by lia)];rfl
theorem z6(w:a1d):((Nr (SW w)).any λi=>w.getD i Ni)=w.any id:=by
 conv=>rhs;rw[<-z5 (α:=Bool) id w]
 rw[List.any_map];rfl
theorem ml(l:X.calm=Nf):c7 X (.builtin "any") (λG H Q=>∃(a:Nh) (E:a1d),G=[.r a]/\d_ X.K H a (E.map V.c)/\Q (.c (E.any id)) H):=by
 intro j s B H G P Q I r h;obtain⟨a,E,rfl,m,q⟩:=h;cases r with
 |cons M n=>
  cases M;cases n;obtain⟨D,k,p,C⟩:=I.list m;have f:=p.isList;have c:D.toArray.size=SW E:=by rw[NM,<-k.length,M9]
  have d:∀b o,s.heap.get? b=My o->b≠s.heap.objs.size:=λb o e z=>by
   rw[z,W8 (No _)]at e;cases e
  have g:a≠s.heap.objs.size:=by
   obtain⟨o,e,_⟩:=f;exact d a o e
  have W:=Walks.list (prog:=X.p) (w:=X.w) (A:=X.A.in1) (show X.A.in1.handled=Na from I.ok.hd l) s.heap.objs.size a g D.toArray;refine call_any_walk (Ur f ⟨s.heap.objs.size,[s.heap.objs.size,a],[s.heap.objs.size],D.toArray.size,_,_,λi=>E.getD i Ni,rfl,W,⟨⟨_,NE s.heap rfl,rfl,rfl⟩,f.push _⟩,λi v S F J t u=>?_,λx L y=>?_⟩)
  .rw[E9 k t]
   exact O9 u
  .rw[c,z6]
   exact⟨.c (E.any id),H,I.kept λb o e=>y b o (λz=>d b o e (by simpa using z)) (Nd _ e),rfl,q⟩
end
end L2
namespace L2.Pu
noncomputable def eQ:a0b->Option a1d
 |[]=>My []
 | .c b::r=>(eQ r).map (b::·)
 |_=>Na
theorem nK{K:NR}:∀{w:a0b} {D:a0k} {E:a1d},eQ w=My E->aj K F H w D->D=E.map V.c
 |[],D,E,e,h=>by
  cases e;cases h;rfl
 |d::w,D,E,e,h=>by
  obtain⟨x,f,rfl,a,c⟩:=h;cases d<;>first
   |(rename_i b
     cases q:eQ w with
     |none=>simp[eQ,q]at e
     |some r=>
     simp[eQ,q]at e;subst e;cases a.bl;rw[nK q c];rfl)
   |simp[eQ]at e
def yX:a0b->a0l
 |[.l ds]=>(eQ ds).map λw=> .c (w.any id)
 |_=>Na
variable{K:NR}
theorem yv:dT K (λD H Q=>∃(a:Nh) (w:a1d),D=[.r a]/\d_ K H a (w.map V.c)/\Q (.c (w.any id)) H) yX:=λF H E Q G d M fr h e k=>by
 unfold yX at e;split at e
 .obtain⟨v,rfl,g⟩:=aj.h0 h
  obtain⟨a,D,rfl,r,b⟩:=bc.h0 g;obtain⟨w,q,e⟩:=Q1.mp e;subst e;rw[nK q b]at r;exact⟨a,w,rfl,r,k _ H (To.refl fr) rfl⟩
 .cases e
end L2.Pu
namespace L2
section
variable{X:Cx}{a b c d:Expr}{ta w tc P:TE}{aa:SA}
def L9(i e:R2)(tc P:TE)(y:V):TE:=λf H Q=>tc f H λw j=>i y w j λk g=>∃h,k= .c h/\(if h=Nf then P f g λl m=>e w l m Q else Q (.c Ni) g)
def wk(r h e:R2)(ta w tc P:TE):TE:=λf H Q=>ta f H λx i=>w f i λy j=>r x y j λz g=>∃k,z= .c k/\(if k=Nf then L9 h e tc P y f g Q else Q (.c Ni) g)
theorem AB(J:e_ X (OP op) r)(l:e_ X (OP op') r')(i:e_ X (OP op'') r'')(G:PE X a ta)(L:PE X b w)(N:PE X c tc)(K:PE X d P)
  (M:X3 [op,op',op''] [b,c,d]=Ni:=by with_unfolding_all rfl):PT X (.Compare a [op,op',op''] [b,c,d] aa) (xJ (wk r r' r'' ta w tc P)):=by
 intro f s g H Q I h;refine isTrue_chain (dt (G f s g H _ I h) λv O ⟨x,R,T,S,V⟩=>test_link (dt (L f O g R _ T V) λu U ⟨y,W,Y,o,q2⟩=>
  dt (J f U g W x y v u _ Y S o q2) λZ s3 ⟨z,p,q,r3,k,e,D⟩=>?_)) M
 subst e;cases r3;refine O9 ?_;cases k with
 |false=>
  obtain⟨m,j,n⟩:=D;cases j;exact ite_ff ⟨p,q,n⟩
 |true=>
  refine ite_tt (test_link (dt (N f s3 g p _ q D) λt s4 ⟨A,H4,I4,B,q4⟩=>dt (l f s4 g H4 y A u t _ I4 o B q4) λZ s5 ⟨z',C,F,r5,m,j,E⟩=>?_));subst j;cases r5;refine O9 ?_;cases m with
  |false=>
   obtain⟨m,j,n⟩:=E;cases j;exact ite_ff ⟨C,F,n⟩
  |true=>
   refine ite_tt (test_last (dt (K f s5 g C _ F E) λw' s6 ⟨z2,H6,I6,r6,q6⟩=>dt (i f s6 g H6 A z2 t w' _ I6 B r6 q6) λd' s7 ⟨z3,H7,I7,r7,k3,e3,q7⟩=>?_));subst e3;cases r7;exact O9 ⟨H7,I7,q7⟩
end
end L2
namespace L2.Pu
section
variable{X:Cx}{E:a0t}{a b c d:Expr}{pos:SA}{K:NR}
def G1(f e:a1a)(h i:FD)(y:D):FD:=λa=>M.v (h a) λw=>M.v (M.f (f y w)) λz=>M.v (M.f (asB z)) λc=>if c=Nf then M.v (i a) (λg=>M.f (e w g))else M.h0 (.c Ni)
def m5(o j e:a1a)(f g h i:FD):FD:=λd=>M.v (f d) λa=>M.v (g d) λb=>M.v (M.f (o a b)) λz=>M.v (M.f (asB z)) λc=>if c=Nf then G1 j e h i b d else M.h0 (.c Ni)
theorem run.o7{c i:Type}{R:Hp->c->i->Prop}{F:Fx}{j:St}{m:M c}{H k:Hp}{Q:i->Hp->Prop}{a:Bg}(t:To F H k a)(h:run R F E j m H Q a):run R F E j m k Q a:=by
 obtain⟨l,f,e,q⟩:=h;refine⟨l,f,e,?_⟩;cases l with
 |ok d=>exact λv g b=>q v g (t.trans b)
 |error C=>exact λg b=>q g (t.trans b)
theorem xN(l:bz K r o)(X:bz K r' o')(I:bz K s x)(J:tV K (m5 o o' x f g h i) E σ H Q):wk r r' s (tV K f E) (tV K g E) (tV K h E) (tV K i E) σ H Q:=by
 obtain⟨F,b,β,fr,L,J⟩:=J;refine⟨F,b,β,fr,L,(run.bind (R:=bc K F) J).mono λv H1 j=>ot j λd D t hd r1=>⟨F,b,D,t.fr,L.tr (t.tr fr),(run.bind (R:=bc K F) r1).mono λG H2 j=>ot j λM a t2 m r2=>?_⟩⟩;obtain⟨z,P,r3⟩:=run.f5 r2;obtain⟨c,ec,B⟩:=run.f5 r3;rw[jk ec]at P;have N:=L.tr ((t.tr fr).trans (t2.tr t.fr));refine l F H2 a _ d M _ v G t2.fr (bc.tr (t2.tr t.fr) _ _ hd) m P λvz H3 t3 hz=>⟨c,hz,?_⟩;cases c with
 |true=>
  rw[Nu rfl]at B;have O:=bc.tr (t3.tr t2.fr) _ _ m;have n:=N.tr (t3.tr t2.fr);have r5:=run.o7 t3 B;refine⟨F,b,a,t3.fr,n,(run.bind (R:=bc K F) r5).mono λw H4 j=>ot j λS p t4 u r6=>?_⟩;obtain⟨z',y,r7⟩:=run.f5 r6;obtain⟨V,T,C⟩:=run.f5 r7;rw[jk T]at y;refine X F H4 p _ M S _ G w t4.fr (bc.tr (t4.tr t3.fr) _ _ O) u y λaa H5 t5 U=>⟨V,U,?_⟩;cases V with
  |true=>
   rw[Nu rfl]at C;refine⟨F,b,p,t5.fr,n.tr ((t4.tr t3.fr).trans (t5.tr t4.fr)),(run.bind (R:=bc K F) (run.o7 t5 C)).mono λw' H6 ⟨W,Y,t6,A,r9⟩=>?_⟩;obtain⟨d3,e3,k⟩:=run.h0 r9;exact I F H6 Y Q S W d3 w w' t6.fr (bc.tr ((t5.tr t4.fr).trans (t6.tr t5.fr)) _ _ u) A e3 k
  |false=>
   rw[Nv Nz]at C;obtain⟨rr,Z,e,q⟩:=C;cases e;exact q _ H5 t5 rfl
 |false=>
  rw[Nv Nz]at B;obtain⟨rr,Z,e,q⟩:=B;cases e;exact q _ H3 t3 rfl
theorem DP(m:e_ X (OP op) r)(j:e_ X (OP v) z)(e:e_ X (OP s) x)(l:bz X.K r o)(n:bz X.K z A)(k:bz X.K x y)(w:PE X a (tV X.K f E))(p:PE X b (tV X.K g E))(t:PE X c (tV X.K h E))(D:PE X d (tV X.K i E))(G:X3 [op,v,s] [b,c,d]=Ni:=by with_unfolding_all rfl):
  PT X (.Compare a [op,v,s] [b,c,d] pos) (hL X.K (fB (m5 o A y f g h i)) E):=(AB m j e w p t D G).imp λu H Q q=>xN l n k (nP q)
variable{st:O0}{o:Hp}{B:Ow}{bg:a0m}{H u:Hp}{δ:Ds}{β P:Bg}{σ:St}
theorem eg.AtoB(a:eg K o B bg H δ β σ):∀c,(dy B bg).A c->(o1 B bg).A c\/w_ H c:=λc f=>by
 have e:B c≠Na:=f;cases q:B c with
 |none=>exact NW q e
 |some k=>
  match k,q with
  |0,q=>exact .inl (.inl q)
  |1,q=>exact .inl (.inr q)
  |k+2,q=>exact .inr (a.lst c k q)
theorem eg.noB{d:D}(a:eg K o B bg H δ β σ)(b:noL d=Nf)(h:bc K (o1 B bg) H d v):bc K (dy B bg) H d v:=wS a.AtoB d v b h
def tE(i:Nat)(f:FD):G:=λδ β=>match f (fh δ) β with
 |some (.ok d,β1)=>if noL d=Nf then My (.nx (δ.set i (My (.h d))),β1)else Na
 |some (.error C,β1)=>My (.ex C δ,β1)
 |none=>Na
theorem zO(h:PS X st (gm (tV X.K f E) (dQ i))):PS X st (tG X.K X.H₀ (tE i f) E):=h.imp λD σ H l=>by
 obtain⟨B,bg,δ,β,o,P,ok,e,q⟩:=l;refine⟨o1 B bg,fh δ,β,ok.h0,ok.f5,?_⟩;unfold tE at e;split at e
 .rename_i d β1 j
  split at e
  .rename_i hn
   cases e;refine⟨.ok d,_,j,λv u t a=>?_⟩;obtain⟨g,k⟩:=ok.to rfl t;exact q _ B u k (g.set (g.noB hn a))
  .cases e
 .rename_i C β1 j
  cases e;refine⟨.error C,_,j,λu t=>?_⟩;obtain⟨g,k⟩:=ok.to rfl t;exact q _ B u k g
 .cases e
def kO(i:Nat)(e f g:FD):G:=λδ β=>match g (fh δ) β with
 |some (.ok d,β1)=>match e (fh δ) β1 with
  |some (.ok (.n ka),β2)=>match f (fh δ) β2 with
   |some (.ok (.n kb),β3)=>match δ.getD i Na with
    |some (.grd ac)=>match i4 (SW ac) ka with
     |some a=>match ac[a]? with
      |some b=>match i4 (SW b) kb with
       |some c=>if noL d=Nf then My (.nx (δ.set i (My (.grd (ac.set a (b.set c d))))),β3)else Na
       |none=>Na
      |none=>Na
     |none=>Na
    |_=>Na
   |_=>Na
  |_=>Na
 |_=>Na
theorem fS(h:PS X st (gm (tV X.K fv E) (EW (O2 (qC X.K) (gH i) (tV X.K fa E)) (tV X.K fb E) GG))):PS X st (tG X.K X.H₀ (kO i fa fb fv) E):=h.imp λD σ H h_=>by
 obtain⟨B,bg,δ,β,o,P,ok,e,q⟩:=h_;refine⟨o1 B bg,fh δ,β,ok.h0,ok.f5,?_⟩;unfold kO at e;split at e
 .rename_i d β1 e1
  refine⟨.ok d,_,e1,λv H1 t1 c=>?_⟩;obtain⟨f,s1⟩:=ok.to rfl t1;split at e
  .rename_i ka β2 e2
   split at e
   .rename_i kb β3 e3
    split at e
    .rename_i ac Q
     split at e
     .rename_i ja ea
      split at e
      .rename_i ds er
       split at e
       .rename_i jb eb
        split at e
        .rename_i R
         cases e;have c:=f.noB R c;obtain⟨w,N,a,rs,rfl,hB,ha,nd,rl⟩:=f.tell i _ (a2a Q);refine⟨_,N,o1 B bg,fh δ,β1,f.h0,f.f5,.ok (.n ka),β2,e2,λy H2 t2 hy=>?_⟩;cases hy;obtain⟨j,S⟩:=f.to (F:=o1 B bg) rfl t2;obtain⟨w2,s,a2,g,ew,k,m,aa,n⟩:=j.tell i _ (a2a Q);rw[N]at s;cases s;cases ew;obtain⟨r,xs,T,hp,hx,dl⟩:=n.at er;refine⟨a,g.map V.r,ka,.r r,rfl,rfl,d_.of m,?_,?_⟩
         .unfold la
          rw[M9,<-n.len,ea];show(g.map V.r)[ja]?=_;rw[Nl,T];rfl
         .refine⟨o1 B bg,fh δ,β2,j.h0,j.f5,.ok (.n kb),_,e3,λz x t3 hz=>?_⟩
          cases hz;obtain⟨p,s3⟩:=j.to (F:=o1 B bg) rfl t3;obtain⟨w3,h3,a3,t,U,W,u,Y,A⟩:=p.tell i _ (a2a Q);rw[N]at h3;cases h3;cases U;have Z:g=t:=by
           have O:x a=My (.l (g.map V.r)):=t3.kp a _ m (λb l y=>⟨λw=>(by subst w;rw[(ok.bgt _ _ y).1]at k;cases k),λw=>(by subst w;rw[(ok.bgt _ _ y).2]at k;cases k)⟩);rw[u]at O;have k2:t.map V.r=g.map V.r:=by injection O with O;injection O
           exact(UT (λa b q=>by cases q;rfl)|>.mp k2).symm
          subst Z;obtain⟨r',C,I,ab,J,L⟩:=A.at er;rw[T]at I;cases I;have G:bc X.K (dy B bg) x d v:=bc.tr (s3.tr) _ _ (bc.tr (S.tr) _ _ c);refine⟨r,C,kb,jb,rfl,rfl,J,by rw[<-L.length];exact eb,?_⟩;obtain⟨M,s4⟩:=p.writeRow (ds:=ds.set jb d) (xs:=C.set jb v) N W u Y A T J (aj.set jb L G);exact q _ _ _ (s1.trans (S.trans (s3.trans s4))) M
        .cases e
       .cases e
      .cases e
     .cases e
    .cases e
   .cases e
  .cases e
 .cases e
variable{e:Expr}{z:List Expr}
def vX(x y:D):a0z:=match x,y with
 | .l a,.l b=>if SW a+SW b<=NN then My (a++b)else Na
 |_,_=>Na
def o2(c:D->D->a0z)(f g:FD):FL:=λδ=>M.v (f δ) λa=>M.v (g δ) λb=>M.f (c a b)
theorem GM(z:PE X a (tV X.K f E))(A:PE X b (tV X.K g E)):PE X (.BinOp a .Add b pos) (Yz X.K (o2 vX f g) E):=
 (dP wQ z A).imp λσ H Q i=>i_ i λF δ β fr u r=>⟨F,δ,β,fr,u,(run.bind (R:=bc X.K F) r).mono λv C i=>ot i λd e t B w=>⟨F,δ,e,t.fr,u.tr (t.tr fr),(run.bind (R:=bc X.K F) w).mono λI J i=>by
  obtain⟨P,D,t2,m,n⟩:=i;obtain⟨S,h,k⟩:=run.h0 n;have o:=bc.tr (t2.tr t.fr) _ _ B;unfold vX at h;split at h
  .split at h
   .cases h
    obtain⟨p,G,rfl,w,j⟩:=bc.rdL o;obtain⟨q,M,rfl,n,l⟩:=bc.rdL m;exact⟨p,q,G,M,rfl,rfl,w,n,by rw[<-j.length,<-l.length];assumption,λc y=>k _ _ (t2.fr.upd _ y) (gE.new (t.trans t2) y (j.append l))⟩
   .cases h
  .cases h⟩⟩
noncomputable def ZC(K:NR)(l:Nh):It:=
 ⟨λi H=>∃a x,d_ K H l a/\a[i]?=My x,
  λi H v u=>∃p x,H p=Na/\v= .r p/\u=upd H p (.t [.n (i:Int),x])/\∀a,d_ K H l a->a[i]?=My x,
  λi H=>∃a,d_ K H l a/\SW a=i⟩
theorem zk{P:N9}{w:Ol}{K:NR}{x1}{pos:SA}(l e a:Nh)(t:e≠a):
  ni P w K (.Tuple elts x1 pos) (ZC K l) [e,a] e (λi h=>(∃f,IsEnum h e a (i:Int) f)/\h.IsListIter a l i) where
 mem:=by simp
 obj:=λi h st b j=>by
  obtain⟨⟨f,m⟩,p⟩:=st;simp only[NC,O1,RW]at j;rcases j with rfl|rfl
  .exact⟨_,m,λv q=>by cases q⟩
  .obtain⟨o,q,_,d⟩:=p
   exact⟨o,q,λv z=>by rw[d]at z;cases z⟩
 keep:=λi h D st k=>by
  obtain⟨⟨f,m⟩,p⟩:=st;exact⟨⟨f,k e (by simp) _ m⟩,p.at λo q=>k a (by simp) o q⟩
 item:=by
  intro X J L N O i r s σ H E I y st Q;subst J L N;obtain⟨xs,x,c,M⟩:=Q;obtain⟨⟨f,m⟩,p⟩:=st;obtain⟨g,G,R⟩:=bt.src (b:=Nf) I c;have S:=I.ok.hd O;have ne:l≠e:=bt.f5 (b:=Nf) I c (y e (by simp));have T:l≠a:=bt.f5 (b:=Nf) I c (y a (by simp));have Y:i<g.toArray.size:=by
   rw[NM,<-G.length];exact(Nn.mp M).1
  refine wpAny_pyNext_enum_itemD (Xk (show(X.A.in1).handled=Na from S) a l T g.toArray) m ⟨p,R⟩ Y t (by simp[t,ne.symm]) λu D U pu Z f1 fT sz V=>?_;refine⟨_,rfl,wpAny_letOwnedTupleGo_enum (s:={s with heap:=D,toks:=U+1}) Z λC F B=>?_⟩
  replace B:Oa e D C:=B
  have zT:s.heap.objs.size≠e:=Qj (NU m);obtain⟨u',W,ru⟩:=G.get M;have eu:u=u':=by
   have:g[i]?=My u:=by simpa using pu
   rw[this]at W;exact N6 W
  subst eu;have kk:∀b o,b∉[e,a]->s.heap.get? b=My o->C.get? b=My o:=λb o j q=>by
   simp only[NC,O1,RW,Yl]at j;exact B.extBut b o j.1 (V b o j.1 j.2 q)
  have I2:bt X r σ (upd H s.heap.objs.size (.t [.n (i:Int),x])) {s with heap:=C,toks:=U+1}:=by
   refine bt.o7 I y kk (No _) ⟨by show 2<=NN;decide,[.int i U,u],.cons ⟨_,rfl⟩ (.cons ru .nil),_,B.extBut _ _ zT fT,rfl,_,rfl⟩
  refine⟨.r s.heap.objs.size,_,I2,rfl,⟨s.heap.objs.size,x,I.hok.fresh (No _),rfl,rfl,λas h1=>by rw[bt.o8 (b:=Nf) I h1 c];exact M⟩,⟨⟨_,by simpa using F⟩,?_⟩,λb j=>?_⟩
  .exact f1.1.at λo q=>B.extBut _ _ t.symm q
  .rw[a_]
   .exact(y b j).1
   .intro q
    have ol:∃o,s.heap.get? b=My o:=by
     simp only[NC,O1,RW]at j;rcases j with rfl|rfl
     .exact⟨_,m⟩
     .obtain⟨o,z,_⟩:=p;exact⟨o,z⟩
    obtain⟨o,z⟩:=ol;exact NW (NU z) (by rw[q];exact OB _)
 done:=by
  intro X J L N O i r s σ H E I y st Q;subst J L N;obtain⟨xs,c,hl⟩:=Q;obtain⟨⟨f,m⟩,p⟩:=st;obtain⟨g,G,R⟩:=bt.src (b:=Nf) I c;have S:=I.ok.hd O;have T:l≠a:=bt.f5 (b:=Nf) I c (y a (by simp));have g1:g.toArray.size=i:=by rw[NM,<-G.length,hl]
  refine wpAny_pyNext_enum_endD (n:=g.toArray.size) (Xk (show(X.A.in1).handled=Na from S) a l T g.toArray) m (by rw[g1];exact⟨p,R⟩) λD V=>⟨rfl,?_⟩;refine bt.turnL (t':=s.toks) I y λb o j q=>?_;simp only[NC,O1,RW,Yl]at j;exact V b o j.2 q
 self:=λ_ _ _ _ _ st h=>by
  obtain⟨⟨f,m⟩,p⟩:=st;exact wpAny_pyIter_enum m h
def iEn(K:NR)(g:TA):TI:=λσ H R=>g σ H λa f=>∃l b,a=[.r l]/\d_ K f l b/\R (ZC K l) f
theorem HK{a:Expr}{p pos:SA}{J}(o:Gl X "enumerate")(z:X.mg "enumerate"=Na)(B:PA X [a] L)(D:NL [a] X.e=[(Ni,OQ a X.e)]:=by rfl):
  PI X (.Tuple x J F) (.Call (.Name "enumerate" p) [a] [] pos) (iEn X.K L):=by
 intro f s σ H R I h;refine Call_ (fX I o z Boot.«enumerate» (OZ (dt (B pos f s σ H _ I h) λM g ⟨P,k,j,E,d⟩=>?_) (by rw[D];rfl) (by rfl)));obtain⟨l,S,e,d,q⟩:=d;subst e;cases E with
 |cons r t=>
  cases t;cases r;obtain⟨u,C,v⟩:=bt.src (b:=Nf) j d;refine call_enumerate_list v λw m y V G=>?_;refine wpAny_pyIter_enum (s:={g with heap:=w}) m ?_;have A:bt X f σ k {g with heap:=w}:=j.kept (t':=g.toks) G;refine⟨_,[g.heap.objs.size+1,g.heap.objs.size],_,ZC X.K l,k,rfl,A,zk l (g.heap.objs.size+1) g.heap.objs.size (Nat.succ_ne_self _),⟨⟨_,m⟩,y⟩,λc n=>?_,q⟩;have i:g.heap.objs.size<=c:=by
   simp only[NC,O1,RW]at n;rcases n with rfl|rfl
   .exact Pp _ _
   .exact No _
  exact j.fpOk i (j.hok.fresh i)
noncomputable def c5:Nat->a0b->a0b
 |_,[]=>[]
 |n,x::xs=> .t [.n (n:Int),x]::c5 (n+1) xs
theorem ma:∀(n:Nat) (a:a0b),SW (c5 n a)=SW a
 |_,[]=>rfl
 |n,x::a=>by
  show(c5 (n+1) a).length+1=SW a+1;rw[ma (n+1) a]
theorem md:∀{n:Nat} {b:a0b} {i:Nat} {d:D},(c5 n b)[i]?=My d->∃x,b[i]?=My x/\d= .t [.n ((n+i:Nat):Int),x]
 |n,[],i,d,h=>by simp[c5]at h
 |n,x::b,0,d,h=>by
  simp[c5]at h;exact⟨x,rfl,by rw[<-h];simp⟩
 |n,x::b,i+1,d,h=>by
  have c:(c5 (n+1) b)[i]?=My d:=by simpa[c5]using h
  obtain⟨a,f,g⟩:=md c;exact⟨a,by simpa using f,by rw[g,show n+1+i=n+(i+1) by lia]⟩
def G2:a0b->a0z
 |[.l xs]=>My (c5 0 xs)
 |_=>Na
theorem EL{H:Hp}(o:∀g f,Tr F H g f->∃a,d_ K f l a/\aj K g f s a):ux K (ZC K l) F H (c5 0 s):=λg f c t fr i=>by
 obtain⟨a,h,b⟩:=o g f t;refine⟨λd e=>?_,λj=>?_⟩
 .obtain⟨x,q,rfl⟩:=md e
  obtain⟨u,k,w⟩:=b.get q;refine⟨⟨a,u,h,k⟩,λz y r=>?_⟩;obtain⟨p,A,m,rfl,rfl,v⟩:=r;have n:=v a h;rw[k]at n;cases n;rw[Pi];exact⟨bT.upd m,bc.o8 fr m (aj.cons rfl (aj.cons w aj.f5))⟩
 .rw[ma]at j
  exact⟨a,h,by rw[<-b.length,j]⟩
def GO(g:FL):FL:=cL G2 g
theorem lY{a:Expr}{p pos:SA}{I}(q:Gl X "enumerate")(c:X.mg "enumerate"=Na)(d:PA X [a] (hO X.K g E))(w:NL [a] X.e=[(Ni,OQ a X.e)]:=by rfl):
  PI X (.Tuple s I x) (.Call (.Name "enumerate" p) [a] [] pos) (iV X.K (GO g) E):=
 (HK q c d w).imp λσ H R j=>i_ j λF δ β fr r h=>⟨F,δ,β,fr,r,(run.bind (R:=aj X.K F) h).mono λS f j=>by
  obtain⟨V,B,t,D,G⟩:=j;obtain⟨l,e,k⟩:=run.h0 G;unfold G2 at e;split at e
  .rename_i xs
   cases e;obtain⟨v,rfl,o⟩:=aj.h0 D;have z:∃a,v= .r a/\∀m i,Tr F f m i->∃b,d_ X.K i a b/\aj X.K m i xs b:=by
    obtain⟨a,b,rfl,_⟩:=bc.h0 o;refine⟨a,rfl,λm i t2=>?_⟩;obtain⟨C,n,u,M,y⟩:=bc.h0 (bc.tr t2 _ _ o);cases u;exact⟨n,M,y⟩
   obtain⟨a,rfl,z⟩:=z;obtain⟨P,A,_⟩:=z F f (Tr.refl F f);exact⟨a,P,rfl,A,k _ f (To.refl t.fr) (EL z)⟩
  .cases e⟩
def kW(K:NR)(g:N1)(b:a0j)(h:a0b):Prop:=∃a f,fG K g b a/\az f a/\∀F H,aj K F H h f
inductive Sr (α:Type) where
 |kw (j:Nat)|df (a:α)
noncomputable def Sr.f5{b:Type}(z:b)(f:List b):Sr b->b
 | .kw j=>f.getD j z
 | .df a=>a
def gK{a:Type}(z:a)(n k:Nat)(b:List (Sr a))(c f:List a):List a:=if SW c=n/\SW f=k then c++b.map (Sr.f5 z f)else[]
inductive ky {α γ:Type} (R:α->γ->Prop):List (Sr α)->List (Sr γ)->Prop where
 |nil:ky R [] []
 |kw {j:Nat} {a:List (Sr α)} {c:List (Sr γ)}:ky R a c->ky R (.kw j::a) (.kw j::c)
 |df {x:α} {y:γ} {a:List (Sr α)} {c:List (Sr γ)}:R x y->ky R a c->ky R (.df x::a) (.df y::c)
theorem az.getD:∀{f:a0k} {g:a0g} (j:Nat),az f g->aS (f.getD j .o) (g.getD j .none)
 |_,_,_,.nil=>rfl
 |_,_,0,.cons r _=>r
 |_,_,j+1,.cons _ t=>az.getD j t
theorem ky.vals(r:az zs ws):∀{a:List (Sr V)} {c:List (Sr Nj)},ky aS a c->az (a.map (Sr.f5 .o zs)) (c.map (Sr.f5 .none ws))
 |_,_,.nil=> .nil
 |_,_,.kw (j:=j) h=> .cons (az.getD j r) (ky.vals r h)
 |_,_,.df q h=> .cons q (ky.vals r h)
theorem aj.getD{K:NR}{H:Hp}:∀{ds:a0b} {f:a0k} (j:Nat),aj K F H ds f->bc K F H (ds.getD j .o) (f.getD j .o)
 |[],f,j,h=>by have q:f=[]:=h;subst q;rfl
 |d::ds,f,0,h=>by
  obtain⟨x,r,e,g,i⟩:=h;subst e;exact g
 |d::ds,f,j+1,h=>by
  obtain⟨x,r,e,g,i⟩:=h;subst e;exact aj.getD j i
theorem ky.den{K:NR}{H:Hp}(r:aj K F H f zs):∀{a:List (Sr D)} {c:List (Sr V)},ky (λd v=>∀F H,bc K F H d v) a c->aj K F H (a.map (Sr.f5 .o f)) (c.map (Sr.f5 .o zs))
 |_,_,.nil=>aj.f5
 |_,_,.kw (j:=j) h=>aj.cons (aj.getD j r) (ky.den r h)
 |_,_,.df q h=>aj.cons (q F H) (ky.den r h)
theorem ky.len{b f:Type}{R:b->f->Prop}:∀{a:List (Sr b)} {c:List (Sr f)},ky R a c->SW a=SW c
 |_,_,.nil=>rfl
 |_,_,.kw h=>by rw[NB,NB,ky.len h]
 |_,_,.df _ h=>by rw[NB,NB,ky.len h]
structure s_ (K:NR) (fd:N1) (ps ks:a0j) (n:Nat) (src:List (Sr D)):Prop where
 ex:∃(sv:List (Sr Nj)) (sx:List (Sr V)),ky aS sx sv/\ky (λd v=>∀F H,bc K F H d v) src sx/\∀(s:Nq) (us ws:a0g),K.In s.heap->SW us=n->SW ws=SW ks->U4 s fd ⟨us,ks.zip ws⟩ (ps.zip (us++sv.map (Sr.f5 .none ws)))
 len:SW ps=n+SW src
 pos:0<SW ps
theorem s_.kb{K:NR}{e f:a0j}(h:s_ K p e f n src):∃(c:List (Sr Nj)) (a:List (Sr V)),ky (λd v=>∀F H,bc K F H d v) src a/\o0 K p e f (gK .none n (SW f) c) (gK .o n (SW f) a):=by
 obtain⟨c,a,w,l,b⟩:=h.ex;refine⟨c,a,l,λs u k m g=>?_,λ{z u o k} i j=>?_⟩
 .unfold gK at g⊢
  split at g
  .rename_i q
   rw[Nu q];exact b s u k m q.1 q.2
  .exact NW g (by have:=h.pos;simp;lia)
 .unfold gK
  by_cases q:SW z=n/\SW o=SW f
  .rw[Nu q,Nu (by rw[<-i.length,<-j.length];exact q)]
   exact i.append (ky.vals j w)
  .rw[Nv q,Nv (by rw[<-i.length,<-j.length];exact q)]
   exact .nil
variable{p y:SA}{x:Oi}{k n:Nat}{f:Nh}{d:N1}{c b:a0j}{a:List Wz}{B:Option Oi}
def Kz(m:a0b->M D)(g:FL)(h:a0b):FD:=λδ=>M.v (g δ) λa=>m (a++h)
theorem Hh{h:a0b}(G:ee X.p X.w X.K X.mg X.base (fx X.p X.w) k f d c (A_ X.K n m))(y:dr k X.A)(I:Gl X x)(S:X.mg x=My (.ref f))(J:Tf X.K (.ref f)=Nf)(L:kW X.K d c h)(V:db (fx X.p X.w) X E)
  (s:PA X (e::z) (hO X.K g E)) (hn:∀δ β r P,g δ β=My (.ok r,P)->SW r+SW h=n) (i:b0c x:=by decide) (N:b0a X e z:=by rfl) (j:b0b X pos z:=by rfl):
  PE X (.Call (.Name x p) (e::z) [] pos) (tV X.K (Kz m g h) E):=by
 obtain⟨ds,O,b,T,B⟩:=L;refine(mM G y I S J b T V s i N j).imp λσ H Q U=>i_ U λF δ β fr W r=>⟨F,δ,β,fr,W,?_⟩;obtain⟨D,l,u,v⟩:=run.bind (R:=aj X.K F) r;refine⟨D,l,u,?_⟩;cases D with
 |error C=>exact v
 |ok as=>
  intro vs o t M;obtain⟨d',a,t1,q,r1⟩:=v vs o t M;have Y:=hn _ _ _ _ u;have Z:=(B F o).length;refine⟨by rw[Nw,<-M.length,<-Z,Y],F,d'++h,a,t1.fr,aj.append q (B F o),run.toE r1⟩
theorem ue:PK X [] (hO X.K aA E):=λpos g s σ H Q I h=>by obtain⟨F,δ,β,fr,i,r⟩:=h;exact JF pos g s σ H Q I (run.k4 fr r aj.f5)
theorem qx{f:FD}(c:PE X e (tV X.K f E))(l:PK X a (hO X.K g E)):PK X (⟨B,e,y⟩::a) (hO X.K (aa f g) E):=λpos h s σ H Q I ⟨F,δ,β,fr,j,r⟩=>
 HI c l pos h s σ H Q I ⟨F,δ,β,fr,j,(run.bind (R:=bc X.K F) r).mono λv q ⟨d,b,t,k,n⟩=>
  ⟨F,δ,b,t.fr,j.tr (t.tr fr),(run.bind (R:=aj X.K F) n).mono λw u m=>ot m λx p t2 i o=>run.k4 t2.fr o (aj.cons (bc.tr (t2.tr t.fr) _ _ k) i)⟩⟩
def vL(m:a0b->M D)(g h:FL)(a:List (Sr D)):FD:=λδ=>M.v (g δ) λc=>M.v (h δ) λb=>m (c++a.map (Sr.f5 .o b))
theorem we{B:List (Sr D)}(G:ee X.p X.w X.K X.mg X.base (fx X.p X.w) k f d c (A_ X.K n m))(hr:dr k X.A)(hg:Gl X x)(hm:X.mg x=My (.ref f))(hk:Tf X.K (.ref f)=Nf)(hb:s_ X.K d c b n1 B)(hx:db (fx X.p X.w) X E)
  (ha:PA X (e::z) (hO X.K g E)) (i:PK X a (hO X.K gk E)) (hn:∀δ β r P,g δ β=My (.ok r,P)->SW r=n1) (j:∀δ β r P,gk δ β=My (.ok r,P)->SW r=SW b) (h3:n1+SW B=n)
  (h:(QE pos (Pr a X.e)).all (·.1.isSome)=Nf:=by rfl) (l:(QE pos (Pr a X.e)).filterMap (·.1)=b:=by rfl)
  (o:b0c x:=by decide) (he:b0a X e z:=by rfl)
  (q:((QR pos (NL (e::z) X.e)).any (·.1)||(QE pos (Pr a X.e)).any (·.1.isNone))=Ni:=by rfl):
  PE X (.Call (.Name x p) (e::z) a pos) (tV X.K (vL m g gk B) E):=by
 obtain⟨sv,sx,rd,kb⟩:=hb.kb;refine(Ee G hr hg hm hk kb hx ha i h l o he q).imp λσ H Q h_=>i_ h_ λF δ β fr L r=>⟨F,δ,β,fr,L,?_⟩;obtain⟨r0,u,N,O⟩:=run.bind (R:=aj X.K F) r;refine⟨r0,u,N,?_⟩;cases r0 with
 |error C=>exact O
 |ok as=>
  intro M H1 t S;obtain⟨d',s,t1,v,r1⟩:=O M H1 t S;refine⟨F,δ,s,t1.fr,L.tr (t1.tr fr),?_⟩;obtain⟨T,aa,U,W⟩:=run.bind (R:=aj X.K F) r1;refine⟨T,aa,U,?_⟩;cases T with
  |error C=>exact W
  |ok bs=>
   intro y Y t2 Z;obtain⟨d2,ab,t3,I,r3⟩:=W y Y t2 Z;have l1:=hn _ _ _ _ N;have l2:=j _ _ _ _ U;have g1:gK V.o n1 (SW b) sx M y=M++sx.map (Sr.f5 .o y):=Nu ⟨by rw[<-S.length,l1],by rw[<-Z.length,l2]⟩;rw[g1];have J:aj X.K F Y d' M:=aj.tr (t3.tr t1.fr) _ _ v;refine⟨by rw[Nw,M9,<-S.length,l1,<-rd.len,h3],F,d'++B.map (Sr.f5 .o d2),ab,t3.fr,aj.append J (ky.den I rd),run.toE r3⟩
theorem qZ{b:FL}{δ:Dn}{β a c:Bg}{e d:a0b}(g:j δ β=My (.ok e,a))(h:mY l m b e (j0 q br δ) a=My (.ok d,c))(i:SW d<=NN):dJ q br j l m b δ β=My (.ok (.l d),c):=by
 unfold dJ;simp only[g,h,i,OC]
def YO:Nat->D->Prop
 |_,.n _=>True
 |_,.c _=>True
 |_,.o=>True
 |n+1,.l xs=>∀x∈xs,YO n x
 |n+1,.t xs=>∀x∈xs,YO n x
 |_,_=>False
theorem HH:∀(n:Nat) (d:D),YO n d->∃p,nw d=My p/\p.canLay0=Nf/\p.depth<=n+1:=by
 have g:∀(n:Nat) (a:a0b),(∀x∈a,∃p,nw x=My p/\p.canLay0=Nf/\p.depth<=n)->∃c,toPs a=My c/\Xs c=Nf/\Vi c<=n:=by
  intro n a
  induction a with
  |nil=>intro _;exact⟨[],rfl,rfl,by simp[Vi]⟩
  |cons x a b=>
   intro h;obtain⟨p,o,q,r⟩:=h x Np;obtain⟨c,j,l,m⟩:=b λy f=>h y (Nk _ f);refine⟨p::c,?_,?_,?_⟩
   .unfold toPs;simp only[o,j]
   .simp[Xs,q,l]
   .simp only[Vi];lia
 intro n
 induction n with
 |zero=>
  intro d h;cases d with
  |n i=>exact⟨.int i,rfl,rfl,by simp[Rp]⟩
  |c i=>exact⟨.bool i,rfl,rfl,by simp[Rp]⟩
  |o=>exact⟨.none,rfl,rfl,by simp[Rp]⟩
  |_=>exact h.elim
 |succ n b=>
  intro d h;cases d with
  |n i=>exact⟨.int i,rfl,rfl,by simp[Rp]⟩
  |c i=>exact⟨.bool i,rfl,rfl,by simp[Rp]⟩
  |o=>exact⟨.none,rfl,rfl,by simp[Rp]⟩
  |l a=>
   obtain⟨c,j,l,m⟩:=g (n+1) a λx e=>b x (h x e);exact⟨.list c,by unfold nw;simp[j],by simp[PyData.canLay0,l],by simp only[Rp];lia⟩
  |t a=>
   obtain⟨c,j,l,m⟩:=g (n+1) a λx e=>b x (h x e);exact⟨.tuple c,by unfold nw;simp[j],by simp[PyData.canLay0,l],by simp only[Rp];lia⟩
  |_=>exact h.elim
theorem E4{d:D}(n:Nat)(h:YO n d)(a:n<=60):m6 d=Nf:=by
 obtain⟨p,g,i,j⟩:=HH n d h;unfold m6;simp only[g,Td,i,RO,Og];lia
def Gw(g:G)(δ:Ds)(β:Bg)(Q:a0w):Prop:=∃o P,g δ β=My (o,P)/\Q o P
end
section
variable{g h a b s p:G}{δ δ1:Ds}{β β1 β2 β3:Bg}{Q R:a0w}{i:Nat}{f q u v:FD}{fl:FL}{j:Dn->M a0u}{d x y z:D}{ds as:a0b}{t:a0s}{c:Bool}{C:Nh}{K:NR}
theorem Gw.mono(k:Gw g δ β R)(q:∀o β,R o β->Q o β):Gw g δ β Q:=let ⟨o,β',e,r⟩:=k;⟨o,β',e,q _ _ r⟩
theorem Hx:aJ g gNil=g:=by
 funext δ β;unfold aJ gNil;split
 .rename_i δ1 β1 e;exact e.symm
 .rfl
theorem au(k:Gw (aJ g gNil) δ β Q):Gw g δ β Q:=by rw[Hx]at k;exact k
theorem bf(q:Q (.nx δ) β):Gw gNil δ β Q:=⟨_,_,rfl,q⟩
theorem de(e:g δ β=My (.nx δ1,β1))(k:Gw h δ1 β1 Q):Gw (aJ g h) δ β Q:=by
 obtain⟨o,j,l,q⟩:=k;exact⟨o,j,by unfold aJ;rw[e];exact l,q⟩
theorem wc(k:Gw (aJ a (aJ b h)) δ β Q):Gw (aJ (aJ a b) h) δ β Q:=by
 obtain⟨o,j,l,q⟩:=k;refine⟨o,j,?_,q⟩;rw[<-l];unfold aJ;split<;>rename_i e<;>(split at e<;>simp_all)
theorem bB(k:Gw h δ β Q):Gw (aJ gNil h) δ β Q:=de rfl k
theorem sR(k:Gw g (fz i δ) β Q):Gw (fzG i g) δ β Q:=k
theorem aG(e:f (vw δ) β=My (.ok d,β1))(k:Gw h (δ.set i (My (.h d))) β1 Q):Gw (aJ (gA i f) h) δ β Q:=de (by unfold gA;rw[e]) k
theorem IO(e:f (fh δ) β=My (.ok d,β1))(k:Gw h (δ.set i (My (.h d))) β1 Q)(j:dR d=Nf:=by rfl):Gw (aJ (tF i f) h) δ β Q:=de (by unfold tF;simp only[e,j,OC]) k
theorem zc(e:f (fh δ) β=My (.ok d,β1))(k:Gw h (δ.set i (My (.h d))) β1 Q)(j:noL d=Nf:=by rfl):Gw (aJ (tE i f) h) δ β Q:=de (by unfold tE;simp only[e,j,OC]) k
theorem oN(e:f (fh δ) β=My (.ok d,β1))(k:Gw h δ β1 Q):Gw (aJ (pZ f) h) δ β Q:=de (by unfold pZ;rw[e]) k
theorem gl(e:t (fh δ) β=My (.ok c,β1))(k:Gw (aJ (if c=Nf then s else p) h) δ β1 Q):Gw (aJ (ro t s p) h) δ β Q:=by
 obtain⟨o,j,l,q⟩:=k;refine⟨o,j,?_,q⟩;rw[<-l];unfold aJ ro;rw[e];cases c<;>rfl
theorem LX(e:t (fh δ) β=My (.ok Nf,β1))(k:Gw (aJ s h) δ β1 Q):Gw (aJ (ro t s p) h) δ β Q:=gl e k
theorem dN(e:t (fh δ) β=My (.ok Ni,β1))(k:Gw (aJ p h) δ β1 Q):Gw (aJ (ro t s p) h) δ β Q:=gl e k
theorem aV(e:f (fh δ) β=My (.ok d,β1))(q:Q (.rt d) β1):Gw (aJ (fK f) h) δ β Q:=⟨_,_,by unfold aJ fK;rw[e],q⟩
theorem Hc(e:j (vw δ) β=My (.ok k,β1))(q:Q (.rg k) β1):Gw (aJ (l5 j) h) δ β Q:=⟨_,_,by unfold aJ l5;rw[e],q⟩
theorem sQ{ac:a0u}(e:j (vw δ) β=My (.ok ac,β1))(a:ac.all noLs=Nf)(k:Gw h (δ.set i (My (.grd ac))) β1 Q):Gw (aJ (oB i j) h) δ β Q:=de (by unfold oB;simp only[e,a,OC]) k
theorem xC{ac:a0u}(e:v (fh δ) β=My (.ok d,β1))(j:q (fh δ) β1=My (.ok (.n ka),β2))(l:u (fh δ) β2=My (.ok (.n kb),β3))(m:δ.getD i Na=My (.grd ac))
  (n:i4 (SW ac) ka=My ja) (o:ac[ja]?=My ds) (p:i4 (SW ds) kb=My jb) (a:noL d=Nf) (k:Gw h (δ.set i (My (.grd (ac.set ja (ds.set jb d))))) β3 Q):Gw (aJ (kO i q u v) h) δ β Q:=
 de (by unfold kO;simp only[e,j,l,m,n,o,p,a,OC]) k
theorem oK(e:fl (vw δ) β=My (.ok ds,β1))(j:SW ds<=NN)(k:Gw h (δ.set i (My (.u ds))) β1 Q):Gw (aJ (vD i fl) h) δ β Q:=de (by unfold vD;simp only[e,j,OC]) k
theorem oP{cs:a0b}(j:δ.getD i Na=My (.u cs))(e:fl (vw δ) β=My (.ok [d],β1))(l:SW cs<NN)(k:Gw h (δ.set i (My (.u (cs++[d])))) β1 Q):Gw (aJ (vE i fl) h) δ β Q:=
 de (by unfold vE;simp only[j,e,l,OC]) k
theorem Gm(e:f (vw δ) β=My (.ok d,β1))(j:l d δ=My δ1)(k:Gw h δ1 β1 Q):Gw (aJ (yJ f l) h) δ β Q:=de (by unfold yJ;simp only[e,j,P0]) k
def Tn(I:Ds->Bg->Prop)(h:G)(Q:a0w):nl->Bg->Prop:=λo β=>match o with
 | .nx δ=>I δ β
 | .ct δ=>I δ β
 | .bk δ=>Gw h δ β Q
 |o=>Q o β
theorem bM(e:it δ β=My (.ok ds,β1))(Iv:Nat->Ds->Bg->Prop)(L:Iv 0 δ β1)(b:∀i d δ β,ds[i]?=My d->Iv i δ β->∃δ1,tg d δ=My δ1/\Gw g δ1 β (Tn (Iv (i+1)) h Q))(k:∀δ β,Iv (SW ds) δ β->Gw h δ β Q):
  Gw (aJ (m3 it tg g) h) δ β Q:=by
 have c:∀(a:a0b) (j:Nat) (δ:Ds) (β:Bg),a=ds.drop j->j+SW a=SW ds->Iv j δ β->Gw (aJ (oa tg g a) h) δ β Q:=by
  intro a
  induction a with
  |nil=>
   intro j δ β _ A B;simp at A;exact de (g:=oa tg g []) rfl (k δ β (A▸B))
  |cons d a s=>
   intro j δ β J A B;have N:ds[j]?=My d:=by
    have:=Ou (λl=>l[0]?) J;simpa[Q3]using this.symm
   obtain⟨δ1,u,o,β2,v,q⟩:=b j d δ β N B;have F:a=ds.drop (j+1):=by
    have:=Ou List.tail J;simpa[List.tail_drop]using this
   have f:∀m,Iv (j+1) m β2->Gw (aJ (oa tg g a) h) m β2 Q:=λm H=>s (j+1) m β2 F (by simp at A;lia) H;have n:∀{r:G} {m:Ds},Gw (aJ r h) m β2 Q->oa tg g (d::a) δ β=r m β2->Gw (aJ (oa tg g (d::a)) h) δ β Q:=λ{r m} ⟨O,p,I,T⟩ U=>⟨O,p,by rw[<-I];unfold aJ;rw[U],T⟩;cases o with
   |nx m=>exact n (r:=oa tg g a) (f m q) (by rw[oa];simp only[u,v])
   |ct m=>exact n (r:=oa tg g a) (f m q) (by rw[oa];simp only[u,v])
   |bk m=>exact n (r:=gNil) (bB q) (by rw[oa];simp only[u,v];rfl)
   |rt d'=>exact⟨_,β2,by unfold aJ;rw[oa];simp only[u,v],q⟩
   |rg d'=>exact⟨_,β2,by unfold aJ;rw[oa];simp only[u,v],q⟩
   |ex C m=>exact⟨_,β2,by unfold aJ;rw[oa];simp only[u,v],q⟩
 obtain⟨o,p,I,q⟩:=c ds 0 δ β1 (by simp) (by simp) L;refine⟨o,p,?_,q⟩;rw[<-I];unfold aJ m3;rw[e]
theorem ji{S:Except Nh D->Bg->Prop}(k:Gw g (nS n ds) β (λo j=>match o with| .rt d=>S (.ok d) j| .nx _=>S (.ok .o) j| .ex C _=>S (.error C) j|_=>False)):∃r j,dS n g ds β=My (r,j)/\S r j:=by
 obtain⟨o,j,e,q⟩:=k;cases o with
 |rt d=>exact⟨.ok d,j,by unfold dS;rw[e],q⟩
 |nx δ=>exact⟨.ok .o,j,by unfold dS;rw[e],q⟩
 |ex C δ=>exact⟨.error C,j,by unfold dS;rw[e],q⟩
 |_=>exact q.elim
theorem IE{S:a0u->Bg->Prop}(k:Gw g (nS n ds) β (λo j=>match o with| .rg d=>S d j|_=>False)):∃r j,m7 n g ds β=My (.ok r,j)/\S r j:=by
 obtain⟨o,j,e,q⟩:=k;cases o with
 |rg d=>exact⟨d,j,by unfold m7;rw[e],q⟩
 |_=>exact q.elim
theorem bh(k:Gw g (nS n ds) β (λo j=>j=β/\(match o with| .rt d=>r= .ok d| .nx _=>r= .ok .o| .ex C _=>r= .error C|_=>False))):dS n g ds β=My (r,β):=by
 obtain⟨l,j,e,a,b⟩:=ji (S:=λl j=>j=β/\r=l) (n:=n) (ds:=ds) (β:=β) (k.mono λo j h=>by
  cases o<;>first|exact h|exact h.2)
 subst a b;exact e
theorem IF(k:Gw g (nS n ds) β (λo j=>j=β/\(match o with| .rg d=>r=d|_=>False))):m7 n g ds β=My (.ok r,β):=by
 obtain⟨l,j,e,a,b⟩:=IE (S:=λl j=>j=β/\r=l) (n:=n) (ds:=ds) (β:=β) (k.mono λo j h=>by
  cases o<;>first|exact h|exact h.2)
 subst a b;exact e
theorem ao{δ:Dn}(e:fl δ β=My (.ok as,β1))(j:m as β1=My r):bK m fl δ β=My r:=by unfold bK M.v;rw[e];exact j
theorem G8{δ:Dn}(e:fl δ β=My (.ok as,β1))(j:m as β1=My r):vM m fl δ β=My r:=by unfold vM M.v;rw[e];exact j
theorem cx{δ:Dn}(e:q δ β=My (.ok x,β1))(j:u δ β1=My (.ok y,β2))(k:op x y=My z):f2 op q u δ β=My (.ok z,β2):=by unfold f2 M.v;rw[e];simp only[j,M.f,k]
theorem ZE{δ:Dn}(e:q δ β=My (.ok x,β1))(j:op x=My z):f1 op q δ β=My (.ok z,β1):=by unfold f1 M.v;rw[e];simp only[M.f,j]
theorem am{δ:Dn}(e:fl δ β=My (.ok as,β1))(j:op as=My z):aT op fl δ β=My (.ok z,β1):=by unfold aT M.v;rw[e];simp only[M.f,j]
theorem af{δ:Dn}(e:q δ β=My (.ok x,β1))(j:fl δ β1=My (.ok as,β2)):aa q fl δ β=My (.ok (x::as),β2):=by unfold aa M.v;rw[e];simp only[j,M.h0]
theorem bO{δ:Dn}(e:fl δ β=My (.ok as,β1))(j:op as=My ds):cL op fl δ β=My (.ok ds,β1):=by unfold cL M.v;rw[e];simp only[j,M.f]
theorem cD{δ:Dn}(e:q δ β=My (.ok x,β1))(j:dE x=My ds):di q δ β=My (.ok ds,β1):=by unfold di M.v;rw[e];simp only[j,M.f]
theorem g8{δ:Dn}(e:q δ β=My (.ok (.c c),β1)):fB q δ β=My (.ok c,β1):=by unfold fB M.v;rw[e];rfl
theorem mB{δ:Dn}(e:q δ β=My (.ok x,β1))(j:DO x=My c):vJ q δ β=My (.ok c,β1):=by unfold vJ M.v;rw[e];simp only[M.f,j]
theorem sP{δ:Dn}(e:t δ β=My (.ok c,β1)):yO t δ β=My (.ok (!c),β1):=by unfold yO M.v;rw[e];rfl
theorem bi(a:β.ok)(k:0<lot)(l:lot<1073741824):∃v e,cM [.bag,.n lot] β=My (.ok (.n v),e)/\0<=v/\v<lot/\e.ok:=by
 obtain⟨m,b,j⟩:=wG a k;exact⟨_,_,Es a k l,m,b,j⟩
theorem je{n:Nat}{k:Int}(e:0<=k)(j:k<n):i4 n k=My k.toNat:=by unfold i4;rw[Nu e,Nu j]
theorem BS{k:Int}{d:D}(e:0<=k)(h:l[k.toNat]?=My d):hU (.l l) (.n k)=My d:=by
 have j:k.toNat<SW l:=(Nn.mp h).1;show la l k=My d;unfold la;rw[je e (by lia)];exact h
theorem EI{x y:D}:hU (.t [x,y]) (.n 0)=My x:=rfl
theorem EH{x y:D}:hU (.t [x,y]) (.n 1)=My y:=rfl
end
section
variable{β β1 β2:Bg}{f g h i:FD}{t u:a0s}{δ:Dn}{c e:Bool}{x y z w:Int}{d:D}
theorem mC(a:t δ β=My (.ok Ni,β1))(b:u δ β1=My (.ok e,β2)):qT t u δ β=My (.ok e,β2):=by
 unfold qT M.v;rw[a];simp[b]
theorem qv(a:f δ β=My (.ok (.c Nf),β1))(b:g δ β1=My (.ok d,β2)):yP f g δ β=My (.ok d,β2):=by
 unfold yP M.v;rw[a];simp[asB,M.f,b]
theorem le_int:X_ (.n x) (.n y)=My (.c (decide (x<=y))):=rfl
theorem lt_int:YR (.n x) (.n y)=My (.c (decide (x<y))):=rfl
theorem gt_int:gtD (.n x) (.n y)=My (.c (decide (y<x))):=rfl
theorem wa(a:f δ β=My (.ok (.n x),β))(b:g δ β=My (.ok (.n y),β))(j:h δ β=My (.ok (.n z),β)):qa X_ X_ f g h δ β=My (.ok (.c (decide (x<=y)&&decide (y<=z))),β):=by
 unfold qa M.v;rw[a];simp only[b,le_int,M.f,asB];by_cases q:x<=y
 .simp only[q,decide_true,OC,j,le_int,RO]
 .simp only[q,decide_false,NO,OF,M.h0,Tx]
theorem DJ(a:f δ β=My (.ok (.n x),β))(b:g δ β=My (.ok (.n y),β))(j:h δ β=My (.ok (.n z),β))(k:i δ β=My (.ok (.n w),β)):m5 X_ X_ X_ f g h i δ β=My (.ok (.c (decide (x<=y)&&decide (y<=z)&&decide (z<=w))),β):=by
 unfold m5 G1 M.v;rw[a];simp only[b,le_int,M.f,asB];by_cases q:x<=y
 .simp only[q,decide_true,OC,j,le_int,RO]
  by_cases c:y<=z
  .simp only[c,decide_true,OC,k,le_int,RO]
  .simp only[c,decide_false,NO,OF,M.h0,Tx]
 .simp only[q,decide_false,NO,OF,M.h0,Tx]
theorem gj{g h:G}{δ:Ds}{β:Bg}(P:Ds->Bg->Prop)(a:Gw g δ β (λo β1=>∃c,o= .nx c/\P c β1))(b:∀c β1,P c β1->Gw h c β1 Q):Gw (aJ g h) δ β Q:=by
 obtain⟨o,β1,e,c,rfl,p⟩:=a;exact de e (b c β1 p)
theorem zd{δ:Ds}{β:Bg}{P:Ds->Bg->Prop}(p:P δ β):Gw gNil δ β (λo β1=>∃c,o= .nx c/\P c β1):=bf ⟨_,rfl,p⟩
theorem wb{δ:Dn}{fl a:FL}{β β1 β2:Bg}{c:List (Sr D)}(b:fl δ β=My (.ok as,β1))(j:a δ β1=My (.ok l,β2))(k:m (as++c.map (Sr.f5 .o l)) β2=My r):vL m fl a c δ β=My r:=by unfold vL;rw[M.k4 b,M.k4 j];exact k
noncomputable abbrev gI(ac:LI):a0u:=ac.map λr=>r.map D.n
noncomputable abbrev lG(c:a0u):D:= .l (c.map D.l)
abbrev cg(ac:LI):D:=lG (gI ac)
noncomputable def pD(p:Int×Int):D:= .t [.n p.1,.n p.2]
abbrev gP(b:LP):a0u:=b.map λr=>r.map pD
abbrev dM(b:LP):D:=lG (gP b)
def ix{e:Type}(r c:Nat)(m:List (List e)):Prop:=SW m=r/\∀d∈m,SW d=c
noncomputable def tot(ac:LI):Int:=(ac.map PF).sum
theorem bp(h:n<=1000):n<=NN:=NK h (by decide)
theorem gf:∀r:a0d,noLs (r.map D.n)=Nf
 |[]=>rfl
 |x::r=>by
  show(noL (.n x)&&noLs (r.map D.n))=Nf;rw[gf r];rfl
theorem pJ:∀r:List (Int×Int),noLs (r.map pD)=Nf
 |[]=>rfl
 |x::r=>by
  show(noL (pD x)&&noLs (r.map pD))=Nf;rw[pJ r];rfl
theorem JY(b:LP):(gP b).all noLs=Nf:=by
 rw[QU];intro x c;obtain⟨r,_,rfl⟩:=Nm.mp c;exact pJ r
theorem ix.map{d a:Type}{f:d->a}{r c:Nat}{m:List (List d)}(h:ix r c m):ix r c (m.map λx=>x.map f):=⟨by rw[M9,h.1],λe b=>by
 obtain⟨x,g,rfl⟩:=Nm.mp b;rw[M9];exact h.2 x g⟩
theorem ix.set{d:Type}{r c i j:Nat}{m:List (List d)}{row:List d}{v:d}(h:ix r c m)(a:m[i]?=My row):ix r c (m.set i (row.set j v)):=⟨by rw[Om,h.1],λx e=>by
 rcases P8 e with e|rfl
 .exact h.2 x e
 .rw[Om];exact h.2 row (NJ a)⟩
theorem ix.at{d:Type}{r c i:Nat}{m:List (List d)}(h:ix r c m)(b:i<r):∃row,m[i]?=My row/\SW row=c:=by
 have a:i<SW m:=by rw[h.1];exact b
 exact⟨m[i],Ng a,h.2 _ (OG a)⟩
theorem G3{c:Type}{l:List c}{i:Nat}(h:i<SW l):∃x,l[i]?=My x:=⟨l[i],Ng h⟩
theorem jN:∀{c:a0d} {j:Nat} {x v:Int},c[j]?=My x->(c.set j v).sum=c.sum-x+v
 |[],j,x,v,h=>by simp at h
 |y::c,0,x,v,h=>by
  simp at h;subst h;simp only[List.set_cons_zero,N2];lia
 |y::c,j+1,x,v,h=>by
  have d:c[j]?=My x:=by simpa using h
  simp only[List.set_cons_succ,N2,jN d];lia
theorem Hj{ac:LI}{i j:Nat}{row:a0d}{x v:Int}(a:ac[i]?=My row)(b:row[j]?=My x):tot (ac.set i (row.set j v))=tot ac-x+v:=by
 unfold tot;rw[RA,jN (x:=row.sum) (by rw[Nl,a];rfl),jN b];lia
theorem JZ{ac:LI}{i j:Nat}{row:a0d}(h:∀r∈ac,∀x∈r,0<=x)(b:ac[i]?=My row)(k:0<=v):∀r∈ac.set i (row.set j v),∀x∈r,0<=x:=λr a x c=>by
 rcases P8 a with a|rfl
 .exact h r a x c
 .rcases P8 c with c|rfl
  .exact h row (NJ b) x c
  .exact k
theorem lq:∀{xs:a0d},(∀x∈xs,0<=x)->0<=xs.sum
 |[],_=>by simp
 |y::xs,h=>by
  have:=lq (xs:=xs) λx c=>h x (Nk _ c);have:=h y Np;simp only[N2];lia
theorem vg:∀{xs:a0d},(∀x∈xs,0<=x)->∀x∈xs,x<=xs.sum
 |[],_,x,hx=>by cases hx
 |y::xs,h,x,hx=>by
  have:=lq (xs:=xs) λx hx=>h x (Nk _ hx);have:=h y Np;rcases NC.mp hx with rfl|hx
  .simp only[N2];lia
  .have:=vg (xs:=xs) (λx hx=>h x (Nk _ hx)) x hx
   simp only[N2];lia
theorem Kb(h:∀r∈l,∀x∈r,0<=x):∀r∈l,∀x∈r,x<=tot l:=λr a x c=>by
 have j:=vg (h r a) x c;have k:=vg (xs:=l.map PF) (λs d=>by
  obtain⟨q,b,rfl⟩:=Nm.mp d;exact lq (h q b)) r.sum (Nm.mpr ⟨r,a,rfl⟩)
 unfold tot;lia
structure Y3 (r c:Nat) (ac:LI):Prop where
 shp:ix r c ac
 nn:∀row∈ac,∀x∈row,0<=x
 tot:tot ac<=40
 r0:1<=r
 r1:r<=4
 c0:1<=c
 c1:c<=6
theorem fq(c:a0d):gW [.l (c.map D.n)]=My (.n c.sum):=by
 show((eZ (c.map D.n)).map λl=>D.n l.sum)=_;have:∀c:a0d,eZ (c.map D.n)=My c:=λc=>by
  induction c with
  |nil=>rfl
  |cons n c d=>simp[eZ,d]
 rw[this];rfl
theorem B6{n:Int}(a:0<=n)(h:n<=10^9):f9 [.n n]=My (bx 0 n.toNat):=by
 have q:(decide (-(2^62)<=n)&&decide (n<2^62))=Nf:=by
  simp only[N5,Og];lia
 show(if(decide (-(2^62)<=n)&&decide (n<2^62))=Nf then My (bx 0 n.toNat)else Na)=_;rw[Nu q]
theorem GD{d:D}(h:(bx 0 n)[k]?=My d):k<n/\d= .n (k:Int):=by
 unfold bx at h;have a:k<n:=by
  have:=(Nn.mp h).1;simpa using this
 rw[Nl,Oq a]at h;exact⟨a,by cases h;simp⟩
theorem uL(n:Nat):SW (bx 0 n)=n:=by simp[bx]
theorem bD{d:Type}{f:FD}{δ:Dn}{β:Bg}(xs:List d)(u v:d->D)(a:it δ β=My (.ok (xs.map u),β))
  (b:∀x∈xs,∃c,tg (u x) (j0 nv br δ)=My c/\f c β=My (.ok (v x),β)) (j:SW xs<=NN):dJ nv br it tg (λ_=>M.h0 Nf) (ko f) δ β=My (.ok (.l (xs.map v)),β):=by
 refine qZ a ?_ (by rw[M9];exact j);have e:∀xs:List d,(∀x∈xs,∃c,tg (u x) (j0 nv br δ)=My c/\f c β=My (.ok (v x),β))->mY tg (λ_=>M.h0 Nf) (ko f) (xs.map u) (j0 nv br δ) β=My (.ok (xs.map v),β):=by
  intro xs
  induction xs with
  |nil=>intro _;rfl
  |cons x xs g=>
   intro h;obtain⟨c,k,l⟩:=h x Np;have m:=g λy i=>h y (Nk _ i);rw[NI,mY];simp only[k,M.v,M.h0,reduceIte,ko,l,m,NI,Rw,Ql]
 exact e xs b
theorem jD{d:Type}{f:FL}{δ:Dn}{β:Bg}(xs:List d)(u:d->D)(v:d->a0b)(a:it δ β=My (.ok (xs.map u),β))
  (b:∀x∈xs,∃c,tg (u x) (j0 nv br δ)=My c/\f c β=My (.ok (v x),β)) (j:SW xs<=NN):gB nv br it tg (λ_=>M.h0 Nf) (oH f) δ β=My (.ok (xs.map v),β):=by
 have e:∀xs:List d,(∀x∈xs,∃c,tg (u x) (j0 nv br δ)=My c/\f c β=My (.ok (v x),β))->oG tg (λ_=>M.h0 Nf) (oH f) (xs.map u) (j0 nv br δ) β=My (.ok (xs.map v),β):=by
  intro xs
  induction xs with
  |nil=>intro _;rfl
  |cons x xs g=>
   intro h;obtain⟨c,k,l⟩:=h x Np;have m:=g λy i=>h y (Nk _ i);rw[NI,oG];simp only[k,M.v,M.h0,reduceIte,oH,l,m,NI,Rw,Ql]
 unfold gB;simp only[a,e xs b,M9,j,OC]
theorem CQ{e:Type}{f:FD}{δ:Dn}{β:Bg}(d:List e)(u:e->D)(v:e->D)(a:it δ β=My (.ok (d.map u),β))
  (b:∀x∈d,∃c,tg (u x) (j0 nv br δ)=My c/\f c β=My (.ok (v x),β)) (j:SW d<=NN):ie nv br it tg (λ_=>M.h0 Nf) (ko f) δ β=My (.ok (d.map v),β):=by
 have g:∀d:List e,(∀x∈d,∃c,tg (u x) (j0 nv br δ)=My c/\f c β=My (.ok (v x),β))->mY tg (λ_=>M.h0 Nf) (ko f) (d.map u) (j0 nv br δ) β=My (.ok (d.map v),β):=by
  intro d
  induction d with
  |nil=>intro _;rfl
  |cons x d i=>
   intro h;obtain⟨c,k,l⟩:=h x Np;have m:=i λy t=>h y (Nk _ t);rw[NI,mY];simp only[k,M.v,M.h0,reduceIte,ko,l,m,NI,Rw,Ql]
 unfold ie;simp only[a,g d b,M9,j,OC]
theorem Jx{ds:a0b}{c:Nat}(a:SW ds<=NN)(b:SW ds*c<=NN)(j:c<=1000000):uM ds (.n (c:Int))=My (NX c ds).flatten:=by
 have q:(decide (-(2^63)<=(c:Int))&&decide ((c:Int)<2^63)&&decide (SW ds<=NN)&&decide (SW ds*(c:Int).toNat<=NN))=Nf:=by
  simp only[N5,Og];exact⟨⟨⟨by lia,by lia⟩,a⟩,by rw[ON];exact b⟩
 unfold uM;simp only[q,OC];rw[ON]
theorem vH{d:Type}(x:d):∀c:Nat,(NX c [x]).flatten=NX c x
 |0=>rfl
 |c+1=>by rw[Px,Py,vH x c];rfl
theorem Mw{f:FD}{g:FD}{x:D}{c:Nat}{δ:Dn}{β:Bg}(b:f δ β=My (.ok x,β))(j:g δ β=My (.ok (.n (c:Int)),β))(k:c<=1000):yd (aa f aA) g δ β=My (.ok (NX c x),β):=by
 have a:[x].length<=NN:=by rw[Oy];decide
 have l:[x].length*c<=NN:=by rw[Oy,Nat.one_mul];exact bp k
 have r:=Jx (ds:=[x]) (c:=c) a l (by lia);rw[vH]at r;have s:Zf [x]=My [x]:=by
  unfold Zf;rw[Nu a]
 have m:aa f aA δ β=My (.ok [x],β):=af b rfl;unfold yd;rw[M.k4 m,s,M.o9,M.k4 j,r];rfl
theorem Dz(c:a1d):eQ (c.map D.c)=My c:=by
 induction c with
 |nil=>rfl
 |cons b c d=>simp[eQ,d]
theorem any_map{α:Type}(c:List α)(p:α->Bool):yX [.l (c.map λx=>D.c (p x))]=My (.c (c.any p)):=by
 show(eQ _).map _=_;rw[show(c.map λx=>D.c (p x))=(c.map p).map D.c by rw[Nx];rfl,Dz];simp only[P0,List.any_map];rfl
theorem jA{c:Type}(r:Nat)(x:c):(Nr r).map (λ_=>x)=NX r x:=by rw[List.map_const',NQ]
theorem d6{xs:a0b}(h:SW xs=r):gx [.l xs]=My (.n (r:Int)):=by subst h;rfl
theorem BJ{ac:a0u}(h:SW ac=r):gx [lG ac]=My (.n (r:Int)):=d6 (by rw[M9,h])
theorem tq{ac:a0u}{k:Nat}{row:a0b}(h:ac[k]?=My row):hU (lG ac) (.n (k:Int))=My (.l row):=BS (by lia) (by rw[ON,Nl,h];rfl)
theorem cP{xs:a0b}{k:Nat}{d:D}(h:xs[k]?=My d):hU (.l xs) (.n (k:Int))=My d:=BS (by lia) (by rw[ON];exact h)
theorem gG{x y:D}:f7 [x,y]=My (.t [x,y]):=by
 unfold f7;rw[Nu (show[x,y].length<=NN by rw[NB,Oy];decide)]
theorem J9:dH []=My (.l []):=by
 unfold dH;rw[Nu (show([]:a0b).length<=NN by rw[QD];decide)]
theorem oo{x:D}:dH [x]=My (.l [x]):=by
 unfold dH;rw[Nu (show[x].length<=NN by rw[Oy];decide)]
theorem yi{x y:Int}:u8 [.n x,.n y]=My (.n (QN x y)):=by
 unfold u8;simp only;congr 2;split<;>lia
theorem J6{x y:Int}:yk [.n x,.n y]=My (.n (Wb x y)):=by
 unfold yk;simp only;congr 2;split<;>lia
theorem eq_int{x y:Int}:fN (.n x) (.n y)=My (.c (decide (x=y))):=by rw[M1]
theorem ne_int{x y:Int}:ir (.n x) (.n y)=My (.c (!decide (x=y))):=by rw[M0]
theorem qV{i:Nat}{d:D}(h:(c5 0 j)[i]?=My d):∃x,j[i]?=My x/\d= .t [.n (i:Int),x]:=by
 obtain⟨x,b,a⟩:=md h;rw[Pi]at a;exact⟨x,b,a⟩
theorem bS{c a:Type}{f:c->a}{xs:List c}{i:Nat}{d:a}(h:(xs.map f)[i]?=My d):∃x,xs[i]?=My x/\d=f x:=by
 rw[Nl]at h;cases q:xs[i]? with
 |none=>rw[q]at h;cases h
 |some x=>rw[q]at h;exact⟨x,rfl,by cases h;rfl⟩
noncomputable abbrev m4(r c:Nat):LP:=NX r (NX c (0,40))
theorem CI(r c:Nat):ix r c (m4 r c):=⟨by simp,λd h=>by rw[(Qf.mp h).2];simp⟩
noncomputable def C_{d:Type}(m:List (List d))(i j:Nat):Option d:=(m[i]?).bind λc=>c[j]?
theorem L4{d:Type}{m:List (List d)}{i j k l:Nat}{c:List d}{v x:d}(a:m[i]?=My c)(h:C_ (m.set i (c.set j v)) k l=My x):(k=i/\l=j/\x=v)\/(C_ m k l=My x/\¬(k=i/\l=j)):=by
 unfold C_ at h⊢;rw[Pf]at h;by_cases q:i=k
 .subst q
  rw[Nu rfl]at h;split at h
  .simp only[Qb]at h
   rw[Pf]at h;by_cases w:j=l
   .subst w
    rw[Nu rfl]at h;split at h
    .exact .inl ⟨rfl,rfl,(N6 h).symm⟩
    .cases h
   .rw[Nv w]at h
    exact .inr ⟨by rw[a];exact h,λz=>w z.2.symm⟩
  .cases h
 .rw[Nv q]at h
  exact .inr ⟨h,λz=>q z.1.symm⟩
theorem xy{d:Type}{m:List (List d)}{i j:Nat}{x:d}(h:C_ m i j=My x):∃c∈m,x∈c:=by
 unfold C_ at h;cases q:m[i]? with
 |none=>rw[q]at h;cases h
 |some c=>rw[q]at h;exact⟨c,NJ q,NJ h⟩
theorem vZ{d:Type}{m:List (List d)}{i j:Nat}{c:List d}{x:d}(a:m[i]?=My c)(b:c[j]?=My x):C_ m i j=My x:=by unfold C_;rw[a];exact b
structure oD (p:Int×Int):Prop where
 l:0<=p.1
 m:p.1<=p.2
 h:p.2<=40
def Kp(ac:LI)(b:LP):Prop:=∀i j x p,C_ ac i j=My x->C_ b i j=My p->p.1<=x/\x<=p.2
structure t0 (r c:Nat) (b:LP):Prop where
 shp:ix r c b
 ok:∀row∈b,∀p∈row,oD p
theorem t0.set{r c i j:Nat}{b:LP}{row:List (Int×Int)}(h:t0 r c b)(k:b[i]?=My row)(l:oD p):t0 r c (b.set i (row.set j p)):=⟨h.shp.set k,λq a x d=>by
 rcases P8 a with a|rfl
 .exact h.ok q a x d
 .rcases P8 d with d|rfl
  .exact h.ok row (NJ k) x d
  .exact l⟩
theorem t0.free(r c:Nat):t0 r c (m4 r c):=⟨CI r c,λd b p a=>by
 rw[(Qf.mp b).2]at a;rw[(Qf.mp a).2];exact⟨by decide,by decide,by decide⟩⟩
theorem Y3.le40{r c:Nat}(t:Y3 r c ac):∀d∈ac,∀x∈d,0<=x/\x<=40:=λd a x e=>⟨t.nn d a x e,by
 have:=Kb t.nn d a x e;have:=t.tot;lia⟩
theorem Kp.free{r c:Nat}(t:Y3 r c ac):Kp ac (m4 r c):=λi j x p e k=>by
 obtain⟨d,l,b⟩:=xy e;obtain⟨q,m,a⟩:=xy k;rw[(Qf.mp m).2]at a;rw[(Qf.mp a).2];exact t.le40 d l x b
theorem Kp.set{b:LP}{i j:Nat}{row:List (Int×Int)}{p:Int×Int}{x:Int}(h:Kp ac b)(m:b[i]?=My row)(d:C_ ac i j=My x)(n:p.1<=x)(o:x<=p.2):Kp ac (b.set i (row.set j p)):=λk l y q c a=>by
 rcases L4 m a with⟨rfl,rfl,rfl⟩|⟨a,_⟩
 .rw[d]at c
  cases c;exact⟨n,o⟩
 .exact h k l y q c a
theorem IC{e:Type}{δ:Dn}{β:Bg}(d:List e)(u:e->D)(o:e->a0b)(a:it δ β=My (.ok (d.map u),β))
  (j:∀x∈d,∃c,tg (u x) (j0 nv br δ)=My c/\b c β=My (.ok (o x),β)) (k:SW (d.flatMap o)<=NN):dJ nv br it tg (λ_=>M.h0 Nf) b δ β=My (.ok (.l (d.flatMap o)),β):=by
 refine qZ a ?_ k;have f:∀d:List e,(∀x∈d,∃c,tg (u x) (j0 nv br δ)=My c/\b c β=My (.ok (o x),β))->mY tg (λ_=>M.h0 Nf) b (d.map u) (j0 nv br δ) β=My (.ok (d.flatMap o),β):=by
  intro d
  induction d with
  |nil=>intro _;rfl
  |cons x d g=>
   intro h;obtain⟨c,l,m⟩:=h x Np;have n:=g λy i=>h y (Nk _ i);rw[NI,mY];simp only[l,M.v,M.h0,reduceIte,m,n,O3]
 exact f d j
theorem AQ{e:Type}{f:FD}{δ:Dn}{β:Bg}(d:List e)(u v:e->D)(a:it δ β=My (.ok (d.map u),β))
  (b:∀x∈d,∃c,tg (u x) δ=My c/\f c β=My (.ok (v x),β)):YF it tg (λ_=>M.h0 Nf) (ko f) δ β=My (.ok (d.map v),β):=by
 have g:∀d:List e,(∀x∈d,∃c,tg (u x) δ=My c/\f c β=My (.ok (v x),β))->mY tg (λ_=>M.h0 Nf) (ko f) (d.map u) δ β=My (.ok (d.map v),β):=by
  intro d
  induction d with
  |nil=>intro _;rfl
  |cons x d i=>
   intro h;obtain⟨c,j,k⟩:=h x Np;have l:=i λy t=>h y (Nk _ t);rw[NI,mY];simp only[j,M.v,M.h0,reduceIte,ko,k,l,NI,Rw,Ql]
 unfold YF;rw[M.k4 a];exact g d b
theorem iS{e a:Type}(u:e->D)(v:a->D):∀(c:List e) (d:List a),dU (c.map u) (d.map v)=(c.zip d).map λp=>D.t [u p.1,v p.2]
 |[],d=>by simp[dU]
 |x::c,[]=>by simp[dU]
 |x::c,y::d=>by simp[dU,iS u v c d]
theorem qh{xs:a0b}{k:Nat}:eE xs Na (My (k:Int))=xs.take k:=by
 unfold eE;rw[HT.sIx_none,HT.sIx_nat,List.drop_zero,Va];by_cases h:k<=SW xs
 .rw[show QN k (SW xs)=k by lia]
 .rw[OJ (by lia),OJ (by lia)]
theorem gU{xs:a0b}{k:Nat}:eE xs (My (k:Int)) Na=xs.drop k:=by
 unfold eE;rw[HT.sIx_none,HT.sIx_nat];by_cases h:k<=SW xs
 .rw[show QN k (SW xs)=k by lia]
  rw[OJ (by rw[Pm];lia)]
 .rw[Q2 (by lia),Q2 (by lia)]
  simp
theorem qw{f g:FD}{δ:Dn}{β:Bg}(a:f δ β=My (.ok (.l xs),β))(b:g δ β=My (.ok (.n k),β)):YV f Na (My g) δ β=My (.ok (.l (eE xs Na (My k))),β):=by
 unfold YV iJ;simp only[M.v,a,b,M.h0,M.f,mq,ZR]
theorem hC{f g:FD}{δ:Dn}{β:Bg}(a:f δ β=My (.ok (.l xs),β))(b:g δ β=My (.ok (.n k),β)):YV f (My g) Na δ β=My (.ok (.l (eE xs (My k) Na)),β):=by
 unfold YV iJ;simp only[M.v,a,b,M.h0,M.f,mq,ZR]
theorem KO{xs ys:a0b}(h:SW xs+SW ys<=1000):vX (.l xs) (.l ys)=My (xs++ys):=by
 unfold vX;simp only;rw[Nu (bp h)]
theorem iR{xs c:a0b}(h:SW xs+SW c<=1000):fi (.l xs) (.l c)=My (.l (xs++c)):=by
 unfold fi;simp only;rw[Nu (bp h)]
theorem IM{f g:FD}{δ:Dn}{β β1 β2:Bg}{x y:D}(a:f δ β=My (.ok x,β1))(b:g δ β1=My (.ok y,β2))(j:op x y=My zs):o2 op f g δ β=My (.ok zs,β2):=by
 unfold o2 M.v;rw[a];simp only[b,M.f,j]
def j9:a0b->a0g->Prop
 |[],[]=>True
 | .n i::ds,.int j _::vs=>i=j/\j9 ds vs
 | .q x::ds,.str y _::vs=>x=y/\j9 ds vs
 | .c x::ds,.bool y::vs=>x=y/\j9 ds vs
 | .o::ds,.none::vs=>j9 ds vs
 |_,_=>False
theorem ib{K:NR}:∀{ds:a0b} {vs:a0g},j9 ds vs->∃c,az c vs/\∀F H,aj K F H ds c
 |[],[],_=>⟨[],.nil,λ_ _=>aj.f5⟩
 | .n i::ds,.int j t::vs,h=>by
  obtain⟨e,h⟩:=h;subst e;obtain⟨c,a,b⟩:=ib (K:=K) h;exact⟨.n i::c,.cons ⟨t,rfl⟩ a,λF H=>aj.cons rfl (b F H)⟩
 | .q i::ds,.str j t::vs,h=>by
  obtain⟨e,h⟩:=h;subst e;obtain⟨c,a,b⟩:=ib (K:=K) h;exact⟨.q i::c,.cons ⟨t,rfl⟩ a,λF H=>aj.cons rfl (b F H)⟩
 | .c i::ds,.bool j::vs,h=>by
  obtain⟨e,h⟩:=h;subst e;obtain⟨c,a,b⟩:=ib (K:=K) h;exact⟨.c i::c,.cons rfl a,λF H=>aj.cons rfl (b F H)⟩
 | .o::ds,.none::vs,h=>by
  obtain⟨c,a,b⟩:=ib (K:=K) (ds:=ds) (vs:=vs) h;exact⟨.o::c,.cons rfl a,λF H=>aj.cons rfl (b F H)⟩
def Y2(K:NR)(d:D)(u:Nj):Prop:=∃v,aS v u/\∀F H,bc K F H d v
theorem mD{K:NR}{i:Int}{t:Tok}:Y2 K (.n i) (.int i t):=⟨.n i,⟨t,rfl⟩,λ_ _=>rfl⟩
theorem Hd{K:NR}{q3:a0D}(a:K.lookup p=My ⟨q1,q2,.seq q3 q4,q5⟩)(b:q1= .type "tuple")(j:q3.size<=NN)(k:j9 n q3.toList):Y2 K (.t n) (.ref p):=by
 obtain⟨c,l,m⟩:=ib (K:=K) k;exact⟨.r p,rfl,λF H=>⟨p,c,rfl,.inr ⟨_,q3,q4,a,b,rfl,j,l⟩,m F H⟩⟩
theorem qi{K:NR}{mg:a0i}{x:Oi}{d:D}{u:Nj}(h:mg x=My u)(v:Y2 K d u):nc K mg x d:=let ⟨w,h1,h2⟩:=v;⟨u,w,h,h1,h2⟩
theorem KK{K:NR}{d:a0j}{us:a0g}(n:Nat)(l:SW d=n+SW us)(b:∀(s:Nq) (c:a0g),K.In s.heap->SW c=n->U4 s m ⟨c,[]⟩ (d.zip (c++us)))(h:∃c,az c us/\∀F H,aj K F H dd c):kW K m d dd:=
 let ⟨c,h1,h2⟩:=h
 ⟨us,c,λs a j k=>b s a j (by rw[Nw]at k;lia),h1,h2⟩
theorem KF{K:NR}:∃c,az c []/\∀F H,aj K F H [] c:=⟨[],.nil,λ_ _=>aj.f5⟩
theorem Iz{K:NR}{d:D}{u:Nj}(v:Y2 K d u)(h:∃c,az c us/\∀F H,aj K F H l c):∃c,az c (u::us)/\∀F H,aj K F H (d::l) c:=by
 obtain⟨w,a,b⟩:=v;obtain⟨c,j,k⟩:=h;exact⟨w::c,.cons a j,λF H=>aj.cons (b F H) (k F H)⟩
inductive F0 (K:NR):List (Sr D)->List (Sr Nj)->Prop where
 |nil:F0 K [] []
 |kw {j:Nat} {a:List (Sr D)} {c:List (Sr Nj)}:F0 K a c->F0 K (.kw j::a) (.kw j::c)
 |df {x:D} {y:Nj} {a:List (Sr D)} {c:List (Sr Nj)}:Y2 K x y->F0 K a c->F0 K (.df x::a) (.df y::c)
theorem F0.mid{K:NR}:∀{a:List (Sr D)} {c:List (Sr Nj)},F0 K a c->∃b:List (Sr V),ky aS b c/\ky (λd v=>∀F H,bc K F H d v) a b
 |_,_,.nil=>⟨[],.nil,.nil⟩
 |_,_,.kw (j:=j) h=>let ⟨b,h1,h2⟩:=F0.mid h;⟨.kw j::b,.kw h1,.kw h2⟩
 |_,_,.df v h=>let ⟨b,h1,h2⟩:=F0.mid h;let ⟨w,g1,g2⟩:=v;⟨.df w::b,.df g1 h1,.df g2 h2⟩
theorem GS{K:NR}{d a:a0j}{c:List (Sr D)}{sv:List (Sr Nj)}(h:F0 K c sv)(k:SW d=n+SW c)(l:0<SW d)(b:∀(s:Nq) (us j:a0g),K.In s.heap->SW us=n->SW j=SW a->U4 s m ⟨us,a.zip j⟩ (d.zip (us++sv.map (Sr.f5 .none j)))):s_ K m d a n c:=
 ⟨let ⟨sx,h1,h2⟩:=h.mid;⟨sv,sx,h1,h2,b⟩,k,l⟩
variable{X:Cx}{E:a0t}{K:NR}{a:O0}
theorem aj.erase:∀{ds:a0b} {xs:a0k} (i:Nat),aj K F H ds xs->aj K F H (ds.eraseIdx i) (xs.eraseIdx i)
 |[],xs,i,h=>by have q:xs=[]:=h;subst q;simp;rfl
 |c::ds,xs,0,h=>by
  obtain⟨y,r,q,b,a⟩:=h;subst q;exact a
 |c::ds,xs,i+1,h=>by
  obtain⟨y,r,q,b,a⟩:=h;subst q;exact⟨y,r.eraseIdx i,rfl,b,aj.erase i a⟩
end
section
variable{h:G}{δ:Ds}{β c b a:Bg}{Q:a0w}{i:Nat}{l k j:FD}{fl:FL}{d o m:D}{ds:a0b}{e:a1a}
theorem LU{δ:Dn}{β c:Bg}(a:t δ β=My (.ok Nf,c))(b:f δ c=My r):YD t f g δ β=My r:=by
 unfold YD M.v;rw[a];exact b
theorem LV{δ:Dn}{β c:Bg}(a:t δ β=My (.ok Ni,c))(b:g δ c=My r):YD t f g δ β=My r:=by
 unfold YD M.v;rw[a];exact b
theorem xA{d:D}{δ:Dn}{β:Bg}(e:δ.getD n Na=My d):ah n δ β=My (.ok d,β):=by unfold ah;rw[e];rfl
end
section
variable{β β1 a:Bg}{f g h:FD}{δ:Dn}{x y z:Int}
theorem pO{K:NR}{f:Oi}:∀{w:a0j} {y:a0b} {g:a0k},aj K F H y g->(w.zip y).lookup f=My d->∃v,(w.zip g).lookup f=My v/\bc K F H d v
 |[],y,g,h,e=>by simp at e
 |n::w,[],g,h,e=>by simp at e
 |n::w,c::y,g,h,e=>by
  obtain⟨x,r,q,a,b⟩:=h;subst q;rw[PP,Uh]at e⊢;split at e
  .rename_i z
   cases e;exact⟨x,rfl,a⟩
  .rename_i z
   exact pO b e
theorem rS{w:Type}:∀{f:a0j} {g:List w},m∉f->(f.zip g).lookup m=Na
 |[],g,_=>by simp
 |n::f,[],_=>by simp
 |n::f,x::g,h=>by
  rw[PP,Uh];have a:m≠n:=λz=>h (by rw[z];exact Np);have b:m∉f:=λz=>h (Nk _ z);rw[show(m==n)=Ni by simpa using a];exact rS b
theorem kW.nil{K:NR}(b:fG K c ps []):kW K c ps []:=⟨[],[],b,.nil,λ_ _=>aj.f5⟩
end
section
variable{X:Cx}{E:a0t}{o e:Expr}{es:List Expr}{P p s c:SA}{x m:Oi}{k n:Nat}{f C:Nh}{fd:N1}{ps ks:a0j}{aa:List Wz}
noncomputable def yL(C:Nh)(f:Oi):D->a0l
 | .obj C' ns ds=>if C'=C then(ns.zip ds).lookup f else Na
 |_=>Na
theorem L7{f:Oi}(c:uy X.K C)(n:eG X.K C f)(j:PE X e (tV X.K g E))(l:Tq e f X.e (OQ e X.e)=OQ e X.e:=by rfl):PE X (.Attribute e f P) (tV X.K (f1 (yL C f) g) E):=
 (JM j l).imp λL H Q i=>i_ i λF o p fr q h=>⟨F,o,p,fr,q,(run.bind (R:=bc X.K F) h).mono λv r i=>by
  obtain⟨d,s,t,m,x⟩:=i;obtain⟨D,b,k⟩:=run.h0 x;cases d<;>first|cases b|skip
  rename_i u G M;unfold yL at b;simp only at b;split at b
  .rename_i z
   subst z;unfold bc at m;obtain⟨a,y,S,rfl,N,A,O,B⟩:=m;obtain⟨w,I,J⟩:=pO B b;exact⟨a,u,y,_,w,rfl,A,c,n,I,k w r (To.refl t.fr) J⟩
  .cases b⟩
def tL{e:Type}(C:Nh)(m:Oi)(a:a0b->M e)(b:FD)(g:FL)(c:a0b):Dn->M e:=λf=>M.v (b f) λd=>match d with
 | .obj C' ns _=>if C'=C/\m∉ns then M.v (g f) λk=>a (d::(k++c))else M.o8
 |_=>M.o8
def spT{c:Type}(K:NR)(T:Fx->Hp->Hp->c->V->Prop)(n:Nat)(m:a0b->M c):Sp:=λe H Q E=>SW e=n/\∃F f k,Fr F H k/\aj K F H f e/\run (T F H) F (λ_=>E) [] (m f) H Q k
theorem En{w:Type}{T:Fx->Hp->Hp->w->V->Prop}{O:a0b->M w}{U:FD}{g:FL}{j:a0b}{K:NR}{b:a0k}{l:St}{H:Hp}{Q:VK}(hT:∀{F H q u f d v},To F H q f->T F q u d v->T F H u d v)(G:∀F H,aj K F H j b)(hn:∀o f r c,g o f=My (.ok r,c)->SW r+SW j+1=n)(h:∃F o f,Fr F H f/\hW K F H o l/\run (T F H) F E l (tL C m O U g j o) H Q f):Gu C m (spT K T n O) b E (tV K U E) (hO K g E) l H Q:=by
 obtain⟨F,o,f,fr,W,h⟩:=h;refine⟨F,o,f,fr,W,(run.bind (R:=bc K F) h).mono λv q h_=>ot h_ λd p t x s=>?_⟩;have k:∀{y:M w},y=M.o8->run (T F H) F E l y q Q p->False:=λ{y} e r=>by
  obtain⟨r,c,Y,_⟩:=r;rw[e]at Y;cases Y
 cases d<;>first|exact(k rfl s).elim|skip
 rename_i C' ns ds;simp only at s;split at s
 .rename_i z
  obtain⟨rfl,hm⟩:=z;have A:=x;unfold bc at x;obtain⟨a,dx,xs,rfl,h1,h2,h3,B⟩:=x;refine⟨a,dx,_,rfl,h2,rS hm,F,o,p,t.fr,W.tr (t.tr fr),?_⟩;obtain⟨P,I,Z,S⟩:=run.bind (R:=aj K F) s;refine⟨P,I,Z,?_⟩;cases P with
  |error C=>exact S
  |ok as=>
   intro vs J t2 i;obtain⟨d',D,t3,L,r3⟩:=S vs J t2 i;have hl:=hn _ _ _ _ Z;have hz:=(G F J).length;refine⟨by rw[NB,Nw,<-i.length,<-hz,hl],F,_::(d'++j),D,t3.fr,aj.cons (bc.tr (t3.tr t.fr) _ _ A) (aj.append L (G F J)),?_⟩;obtain⟨X,N,e4,B⟩:=r3;refine⟨X,N,e4,?_⟩;cases X with
   |error C=>exact B
   |ok d=>exact λv u t5 hv=>B v u t5 (hT (t.trans t3) hv)
 .exact(k rfl s).elim
theorem He{d:a0b}(c:uy X.K C)(D:Mm X.K C m f)(G:ee X.p X.w X.K X.mg X.base (fx X.p X.w) k f fd ps (A_ X.K n mf))(i:dr k X.A)(j:kW X.K fd ps d)(M:db (fx X.p X.w) X E)
  (l:PE X o (tV X.K fo E)) (S:SW d+1=n)
  (q:OQ (.Call (.Attribute o m s) [] [] P) X.e=(do
   let Z <-OQ o X.e
   SO s.atName
   let (f,first) <-T8 [Z] (X2 Z m pl)
   callWith P f first (QR P (NL [] X.e)) (QE P (Pr [] X.e))):=by rfl):
  PE X (.Call (.Attribute o m s) [] [] P) (tV X.K (tL C m mf fo aA d) E):=by
 obtain⟨ds,t,b,u,V⟩:=j;refine(Ea (pl:=pl) l c D G i b u M q).imp λU H Q h=>?_;obtain⟨F,p,x,fr,y,h⟩:=En (T:=λF _=>bc _ F) (λ_ z=>z) V (λp x r B e=>by cases e;simpa using S) h;refine⟨F,p,x,fr,y,h.mono λv W ⟨a,I,fs,J,ha,L,Y,N,aa,g,O,R⟩=>⟨a,I,fs,J,ha,L,?_⟩⟩;exact run.k4 g R aj.f5
structure Zu (F:Fx) (x:Nh) (H H':Hp) (β':Bg):Prop where
 kp:∀a o,a≠x->H a=My o->(∀b l,F.bg=My (b,l)->a≠b/\a≠l)->H' a=My o
 fr:Fr F H' β'
def Zg(K:NR)(C:Nh)(k:a0j)(n:Nat)(g:a0b->M a0b):Sp:=λp H Q E=>∃x e F m o d,p= .r x::e/\SW e=n/\Fr F H o/\F.A x/\(∀b l,F.bg=My (b,l)->x≠b/\x≠l)/\H x=My (.ins C d [])/\aj K F H m e/\
 ∃r a,g m o=My (r,a)/\match r with
  | .ok es=>∀c f,Zu F x H c a->c x=My (.ins C d (k.zip f))->SW k=SW f->aj K F c es f->Q .o c
  | .error Ce=>∀c,Zu F x H c a->E (.ref Ce) Na c
variable{m:a0j}
theorem Eo{K:NR}{f:a0k}(fr:Fr F H2 β2)(O:SW f=n)(D:aj K F H2 ds f)(r:run (bc K F) F E σ (M.v (mi ds) λs=>M.h0 (.obj C m s)) H2 Q β2):
  ∀x c,H2 x=Na->H2 c=Na->c≠x->Zg K C m n mi (.r x::f) (upd (upd H2 c (.u x)) x (.ins C c [])) (λv R=>v= .o/\Q (.r x) R) (E σ):=by
 intro x c k H P;have I:¬F.A x:=fr.fresh k;have e:bT H2 (upd (upd H2 c (.u x)) x (.ins C c [])):=λa o h=>by
  rw[a_ (aI h k),a_ (aI h H)];exact h
 have t:=fr.same e;have J:Fr (F.but x) (upd (upd H2 c (.u x)) x (.ins C c [])) β2:=⟨λa ha z=>(by
  rcases ha with ha|ha
  .exact t.fr.occ a ha z
  .subst ha;rw[aw]at z;cases z),λb l q=>let ⟨z1,z2,z3⟩:=fr.bgA b l q;⟨.inl z1,.inl z2,z3⟩,t.fr.bag⟩
 have T:∀b l,F.bg=My (b,l)->x≠b/\x≠l:=λb l q=>⟨λz=>I (z▸(fr.bgA b l q).1),λz=>I (z▸(fr.bgA b l q).2.1)⟩;have L:Tr F H2 (F.but x) (upd (upd H2 c (.u x)) x (.ins C c [])):=⟨λa U W z=>by
  rcases z with z|z
  .exact U z
  .subst z;exact W k,λa o _ h=>e a o h,rfl⟩
 obtain⟨Y,d,g,h⟩:=r;refine⟨x,f,F.but x,ds,β2,c,rfl,O,J,.inr rfl,T,aw,aj.tr L _ _ D,?_⟩;have u:∀{i:Hp} {d:Bg},Zu (F.but x) x (upd (upd H2 c (.u x)) x (.ins C c [])) i d->To F H2 i d:=λ{i d} j=>⟨λa o ha n=>j.kp a o (aI ha k) (e a o ha) n,⟨λa ha=>j.fr.occ a (.inl ha),fr.bgA,j.fr.bag⟩⟩;cases q:mi ds β2 with
 |none=>unfold M.v at g;rw[q]at g;cases g
 |some z=>
  obtain⟨w,p⟩:=z;refine⟨w,p,rfl,?_⟩;cases w with
  |error Z=>
   rw[M.o7 q]at g;cases g;exact λi j=>h i (u j)
  |ok s=>
   rw[M.k4 q]at g;cases g;refine λi G j N y B=>⟨rfl,h (.r x) i (u j) ⟨x,c,G,rfl,I,N,y,aj.tr Fx.f5 _ _ B⟩⟩
def CK(C:Nh)(m:a0j)(a:a0b->M a0b)(g b:FL)(c:List (Sr D)):FD:=λe=>M.v (g e) λf=>M.v (b e) λks=>M.v (a (f++c.map (Sr.f5 .o ks))) λk=>M.h0 (.obj C m k)
def IX(C:Nh)(e:Sp)(d:a0k->a0k->a0k)(E:a0t)(t g:TA):TE:=λb H Q=>t b H λf h=>g b h λi c=>∀x a,c x=Na->c a=Na->a≠x->
 e (d (.r x::f) i) (upd (upd c a (.u x)) x (.ins C a [])) (λv j=>v= .o/\Q (.r x) j) (E b)
theorem Eb(M:Mk X.K C f)(F:ee X.p X.w X.K X.mg X.base CX k f fd ps sp)(U:dr (k+1) X.A)(W:Gl X x)(n:X.mg x=My (.ref C))(O:o0 X.K fd ps ks g gV)(o:db CX X E)
  (D:PA X (e::es) t) (B:PK X aa tk) (i:(QE P (Pr aa X.e)).all (·.1.isSome)=Nf:=by rfl) (J:(QE P (Pr aa X.e)).filterMap (·.1)=ks:=by rfl)
  (L:b0c x:=by decide) (Y:b0a X e es:=by rfl)
  (N:((QR P (NL (e::es) X.e)).any (·.1)||(QE P (Pr aa X.e)).any (·.1.isNone))=Ni:=by rfl):
  PE X (.Call (.Name x p) (e::es) aa P) (IX C sp gV E t tk):=by
 intro a s l H Q I h;refine Sv (mS I W n ?_ L);refine WF (h₀:=X.base) I.ok.mod.kin M.kp i (dt (D P a s l H _ I h) λm Z ⟨vs,G,S,r,q⟩=>?_) N Y;refine dt (B P a Z l G _ S q) λd c ⟨zs,H2,j,z,q2⟩=>⟨j.kIn,?_⟩;rw[J];have R:=q2 (c.heap.objs.size+1) c.heap.objs.size (j.hok.fresh (SZ _)) (j.hok.fresh (No _)) (Ov (SK _));have y:=bt.made (C:=C) j;have T:=O.rel (.cons (show aS (V.r (c.heap.objs.size+1)) (NH (c.heap.objs.size+1))from rfl) r) z;have hl:SW (g (NH (c.heap.objs.size+1)::m) d)=SW ps:=by rw[<-T.length];exact F.len _ _ _ _ R
 refine W3 (Ep (f:=f) j.kIn M.makes M.init (beq_iff_eq.mp M.fn) (SM (F.run _ X.k _ _ ⟨NH (c.heap.objs.size+1)::m,ks.zip d⟩ (g (NH (c.heap.objs.size+1)::m) d) _ _ (E l) (U.make C m (ks.zip d))
  (y.env0.make C m (ks.zip d)) (O.to _ (NH (c.heap.objs.size+1)::m) d y.kIn hl) T R) λr s' b=>?_))
 cases r with
 |error e=>exact o a l _ _ e s' y b
 |ok fl=>
  cases fl with
  |ret u=>
   obtain⟨v,H',I4,rv,ev,q4⟩:=y.after b;subst ev;exact⟨rv,⟨V.r (c.heap.objs.size+1),H',I4,rfl,q4⟩⟩
  |next=>exact PX b
  |brk=>exact PX b
  |cont=>exact PX b
theorem Hf{o:List (Sr D)}(Z:Mk X.K C f)(G:ee X.p X.w X.K X.mg X.base (fx X.p X.w) k f fd ps (Zg X.K C m n mi))(hr:dr (k+1) X.A)(hg:Gl X x)(hm:X.mg x=My (.ref C))(hb:s_ X.K fd ps ks (n1+1) o)(hx:db (fx X.p X.w) X E)
  (ha:PA X (e::es) (hO X.K g E)) (c:PK X aa (hO X.K gk E)) (hn:∀s M r a,g s M=My (.ok r,a)->SW r=n1) (d:∀s M r a,gk s M=My (.ok r,a)->SW r=SW ks) (h3:n1+SW o=n)
  (b:(QE P (Pr aa X.e)).all (·.1.isSome)=Nf:=by rfl) (h:(QE P (Pr aa X.e)).filterMap (·.1)=ks:=by rfl)
  (i:b0c x:=by decide) (he:b0a X e es:=by rfl)
  (j:((QR P (NL (e::es) X.e)).any (·.1)||(QE P (Pr aa X.e)).any (·.1.isNone))=Ni:=by rfl):
  PE X (.Call (.Name x p) (e::es) aa P) (tV X.K (CK C m mi g gk o) E):=by
 obtain⟨sv,sx,rd,kb⟩:=hb.kb;refine(Eb Z G hr hg hm kb hx ha c b h i he j).imp λσ H Q h_=>i_ h_ λF s M fr I r=>⟨F,s,M,fr,I,?_⟩;obtain⟨r0,l,J,L⟩:=run.bind (R:=aj X.K F) r;refine⟨r0,l,J,?_⟩;cases r0 with
 |error C=>exact L
 |ok as=>
  intro S H1 t z;obtain⟨d',ab,t1,q,r1⟩:=L S H1 t z;refine⟨F,s,ab,t1.fr,I.tr (t1.tr fr),?_⟩;obtain⟨N,ac,O,T⟩:=run.bind (R:=aj X.K F) r1;refine⟨N,ac,O,?_⟩;cases N with
  |error C=>exact T
  |ok bs=>
   intro u U t2 W;obtain⟨d2,ad,t3,v,r3⟩:=T u U t2 W;have Y:=hn _ _ _ _ J;have l2:=d _ _ _ _ O;have B:aj X.K F U d' S:=aj.tr (t3.tr t1.fr) _ _ q;intro y dx;have g1:gK V.o (n1+1) (SW ks) sx (.r y::S) u= .r y::(S++sx.map (Sr.f5 .o u)):=Nu ⟨by rw[NB,<-z.length,Y],by rw[<-W.length,l2]⟩;rw[g1];exact Eo t3.fr (by rw[Nw,M9,<-z.length,Y,<-rd.len,h3]) (aj.append B (ky.den v rd)) r3 y dx
abbrev IP:=Ds->a0b->Bg->Option (Except Nh a0b×Bg)
noncomputable def GV:IP:=λ_ c e=>My (.ok c,e)
noncomputable def mW(g:G)(a:IP):IP:=λe c f=>match g e f with
 |some (.nx δ1,β1)=>match e[0]?,δ1[0]? with
  |some (My (Sl.h (D.adr x))),My (My (Sl.h (D.adr y)))=>if x=y then a δ1 c β1 else Na
  |_,_=>Na
 |some (.ex C _,β1)=>My (.error C,β1)
 |_=>Na
def jC(f:FD)(a:IP):IP:=λe c k=>match f (vw e) k with
 |some (.ok d,β1)=>a e (c++[d]) β1
 |some (.error C,β1)=>My (.error C,β1)
 |none=>Na
structure nj (x:Nh) (B:Ow) (H:Hp) (B':Ow) (H':Hp):Prop where
 kp:∀a o,a≠x->H a=My o->(B a=Na\/B a=My 0)->H' a=My o
 tg:∀a,B a=My 0\/B a=My 1->B' a=B a
 nn:∀a o,a≠x->H a=My o->B a=Na->B' a=Na
 al:∀a,H a≠Na->H' a≠Na
end
theorem f0.x{x:Nh}{B b:Ow}{H c:Hp}(s:f0 B H b c):nj x B H b c:=⟨λa o _=>s.kp a o,s.tg,λa o _=>s.nn a o,s.al⟩
theorem nj.trans(a:nj x B H B1 H1)(b:nj x B1 H1 B2 H2):nj x B H B2 H2:=by
 refine⟨λc o w h n=>b.kp c o w (a.kp c o w h n) ?_,λc h=>?_,λc o w h n=>b.nn c o w (a.kp c o w h (.inl n)) (a.nn c o w h n),λc h=>b.al c (a.al c h)⟩
 .rcases n with n|n
  .exact .inl (a.nn c o w h n)
  .exact .inr ((a.tg c (.inl n)).trans n)
 .have e:=a.tg c h
  rw[<-e]at h;exact(b.tg c h).trans e
def kf(K:NR)(D:a0m)(E:a0t)(Dn:o_)(B:Ow)(H:Hp)(x C e:Nh)(w:a0j)(r:Except Nh a0b)(d:Bg):Prop:=match r with
 | .ok ds=>∀b c a G,nj x B H c a->Fr (dy c D) a d->a x=My (.ins C e (w.zip G))->SW w=SW G->aj K (dy c D) a ds G->Dn.nx b a
 | .error Ce=>∀b c a,nj x B H c a->Fr (dy c D) a d->E b (.ref Ce) Na a
theorem kf.pre{K:NR}{E:a0t}{Dn:o_}(s:nj x B H B1 H1)(h:kf K f E Dn B H x C g all r e):kf K f E Dn B1 H1 x C g all r e:=by
 cases r with
 |ok D=>exact λa b c w t=>h a b c w (s.trans t)
 |error d=>exact λa b c t=>h a b c (s.trans t)
def tI(K:NR)(D:Hp)(C:Nh)(a w:a0j)(f:IP)(E:a0t):TS:=λDn g H=>∃B G M P x e b c r d,eg K D B G H M P g/\M[0]?=My (My (.h (.adr x)))/\B x=My 0/\H x=My (.ins C e (a.zip b))/\SW a=SW b/\aj K (dy B G) H c b/\f M c P=My (r,d)/\kf K G E Dn B H x C e (a++w) r d
theorem rO:∀{w:a0j} {D:a0k},SW w=SW D->f∉w->dX f y (w.zip D)=(w++[f]).zip (D++[y])
 |[],[],_,_=>rfl
 |n::w,v::D,h,hf=>by
  have a:¬n=f:=λz=>hf (by rw[z];exact Np);show(if n=f then(n,y)::w.zip D else(n,v)::dX f y (w.zip D))=_;rw[Nv a,rO (by simpa using h) λz=>hf (Nk _ z)];rfl
 |[],_::_,h,_=>by simp at h
 |_::_,[],h,_=>by simp at h
theorem eg.upd0{K:NR}(w:eg K H₀ B t H A C F)(D:B x=My 0):eg K H₀ B t (upd H x o) A C F/\nj x B H B (upd H x o):=by
 have E:∀c,H c≠Na->upd H x o c≠Na:=λc a=>by
  by_cases z:c=x
  .subst z;rw[aw];simp
  .rw[a_ z];exact a
 have f:∀b l,t=My (b,l)->b≠x/\l≠x:=λb l e=>by
  obtain⟨b1,b2⟩:=w.bgt b l e;exact⟨λz=>(by rw[z,D]at b1;cases b1),λz=>(by rw[z,D]at b2;cases b2)⟩
 have G:Tr (dy B t) H (dy B t) (upd H x o):=⟨λ_ h _=>h,λc u a e=>by
  rw[a_]
  .exact e
  .intro z;subst z;exact a (by show B c≠Na;rw[D];simp),rfl⟩
 refine⟨⟨⟨λc a=>E c (w.fr.occ c a),w.fr.bgA,λb l e=>?_⟩,w.bgt,w.len,λc a=>E c (w.cov c a),w.new,λc k a=>?_,λi s e=>?_⟩,λc u M h _=>by rw[a_ M];exact h,λ_ _=>rfl,λ_ _ _ _ n=>n,E⟩
 .obtain⟨g,j⟩:=w.fr.bag b l e
  obtain⟨m,p⟩:=f b l e;exact⟨by rw[a_ m];exact g,by rw[a_ p];exact j⟩
 .exact(w.lst c k a).imp λo h=>by rw[a_];exact h;intro z;subst z;rw[D]at a;cases a
 .obtain⟨v,q,r⟩:=w.tell i s e
  exact⟨v,q,r.tr G λc d=>⟨d,λo z=>(a_ λy=>by subst y;rw[D]at d;cases d).trans z⟩⟩
section
variable{X:Cx}{E:a0t}{st:O0}{aa:a0T}{C:Nh}{w P:a0j}{ip:IP}
theorem MR:PSs X [] (tI X.K X.H₀ C w [] GV E):=qG.imp λDn b H c=>by
 obtain⟨B,G,M,P,x,i,a,d,r,f,ok,j,S,g,h,D,e,k⟩:=c;cases e;rw[Ob]at k;exact k b B H a (f0.refl B H).x ok.fr g h D
theorem GW(l:PS X st (tG X.K X.H₀ g E))(m:PSs X aa (tI X.K X.H₀ C w P ip E)):PSs X (st::aa) (tI X.K X.H₀ C w P (mW g ip) E):=(c9 l m).imp λDn v H n=>by
 obtain⟨B,D,M,S,x,o,c,d,r,f,ok,p,G,q,t,V,e,k⟩:=n;unfold mW at e;split at e
 .rename_i δ1 β1 h
  split at e
  .rename_i y A q1 q2
   split at e
   .rename_i z
    subst z;rw[p]at q1;cases q1;refine⟨B,D,M,S,.nx δ1,β1,ok,h,λb i j s a=>?_⟩;exact⟨i,D,δ1,β1,x,o,c,d,r,f,a,q2,(s.tg x (.inl G)).trans G,s.kp x _ q (.inr G),t,aj.tr s.tr _ _ V,e,kf.pre s.x k⟩
   .cases e
  .cases e
 .rename_i u δ1 β1 h
  cases e;exact⟨B,D,M,S,.ex u δ1,_,ok,h,λb i j s a=>k b i j s.x a.fr⟩
 .cases e
theorem tw(c:uy X.K C)(n:eG X.K C f)(N:f∉w)(I:SW w<1000)(O:PS X st (Jq X.K (gH 0) (tV X.K fv E) f))(Q:PSs X aa (tI X.K X.H₀ C (w++[f]) P ip E)):PSs X (st::aa) (tI X.K X.H₀ C w (f::P) (jC fv ip) E):=(c9 O Q).imp λDn R H T=>by
 obtain⟨B,D,M,S,x,l,g,p,r,q,ok,J,G,U,L,V,e,k⟩:=T;refine⟨dy B D,vw M,S,ok.fr,ok.view,?_⟩;unfold jC at e;split at e
 .rename_i d β1 t
  refine⟨.ok d,β1,t,λy m t1 s=>?_⟩;obtain⟨b,i⟩:=ok.to rfl t1;obtain⟨v,W,Y⟩:=b.tell 0 _ J;have Z:v= .r x:=Y;subst Z;have A:=i.kp x _ U (.inr G);refine⟨_,W,x,C,l,_,rfl,A,c,n,?_,?_⟩
  .rw[RV];lia
  obtain⟨F,s2⟩:=b.upd0 (o:= .ins C l (dX f y (w.zip g))) G;have j:Tr (dy B D) m (dy B D) (upd m x (.ins C l (dX f y (w.zip g)))):=⟨λ_ h _=>h,λa u ha e=>by
   rw[a_]
   .exact e
   .intro z;subst z;exact ha (by show B a≠Na;rw[G];simp),rfl⟩
  refine⟨B,D,M,β1,x,l,g++[y],p++[d],r,q,F,J,G,by rw[aw,rO L N],by simp[L],aj.append (aj.tr j _ _ (aj.tr i.tr _ _ V)) (aj.cons (bc.tr j _ _ s) aj.f5),e,?_⟩;rw[Ny];exact kf.pre (i.x.trans s2) k
 .rename_i Ce β1 t
  cases e;refine⟨.error Ce,_,t,λm t1=>?_⟩;obtain⟨b,i⟩:=ok.to rfl t1;exact k R B m i.x b.fr
 .cases e
end
open Classical in
def mZ(m:Nat)(a:IP):a0b->M a0b:=λw D=>if h:∃r,∀x,a (nS m (.adr x::w)) [] D=My r then My h.choose else Na
theorem EN(h:∀x,a (nS m (.adr x::b)) [] c=My r):mZ m a b c=My r:=by
 have w:∃r,∀x,a (nS m (.adr x::b)) [] c=My r:=⟨r,h⟩;unfold mZ;rw[Wl w];have:=w.choose_spec 0;rw[h 0]at this;exact this.symm
theorem CA(h:mZ m a b c=My r):∀x,a (nS m (.adr x::b)) [] c=My r:=by
 unfold mZ at h;split at h
 .rename_i hx
  have:=hx.choose_spec;cases h;exact this
 .cases h
section
variable{P:N9}{w:Ol}{K:NR}{mg:a0i}{aa:OO}
theorem Iw{st:O0}{N ps G:a0j}(n m:Nat)(ip:IP)(F:io K x qual st f fd)(S:ba N ps (ak st))(O:SW ps=n+1)(R:SW N=m)
  (p:∀(i:Nj) (A:Ot) (D:a0C) (s:Nq) (H:Hp) (E:XK),dr k (A.deeper (Ss qual (ak st) s.heap.objs.size f i))->
   PSs (fP (fx P w) P w K mg aa N qual (ak st) f i A D s H E) (cB st) (tI K H C [] G ip (λ_=>E))):ee P w K mg aa (fx P w) (k+1) f fd ps (Zg K C G n (mZ m ip)):=by
 subst R;refine F.okE S (λvs H Q E h=>?_) λi A D s H vs Q E hr h=>?_
 .obtain⟨y,M,j,ds,β,dx,rfl,hl,_⟩:=h
  rw[NB,hl,O]
 obtain⟨y,M,j,ds,β,dx,rfl,hl,fr,T,nb,hH,hd,r,d,e,h⟩:=h;refine⟨_,p i A D s H E hr,?_⟩;have U:aj K j H (.adr y::ds) (.r y::M):=aj.cons rfl hd;obtain⟨B,ok,L,h1,hn⟩:=uo (N:=N) fr U;have hy:B y=My 0:=by
  rcases L y T with z|z
  .exact z
  .obtain⟨b,l,q,w⟩:=h1 y z
   obtain⟨W,X⟩:=nb b l q;rcases w with w|w
   .exact NW w W
   .exact NW w X
 have v:∀{u:Ow} {g:Hp} {d:Bg},nj y B H u g->Fr (dy u j.bg) g d->Zu j y H g d/\Tr (dy u j.bg) g j g:=λ{u g d} s c=>by
  have hs:∀a,j.A a->u a≠Na:=λa V=>by
   rw[s.tg a (L a V)];rcases L a V with z|z<;>rw[z]<;>simp
  refine⟨⟨λa o ne V n=>s.kp a o ne V ?_,λa V=>c.occ a (hs a V),λb l e=>fr.bgA b l e,c.bag⟩,λa V _ z=>V (hs a z),λ_ _ _ h=>h,rfl⟩;cases q:B a with
  |none=>exact .inl rfl
  |some t=>
   have:=L a (hn a (by rw[q];simp));rcases this with z|z
   .rw[q]at z;exact .inr z
   .obtain⟨b,l,e,w⟩:=h1 a z
    obtain⟨W,X⟩:=n b l e;rcases w with w|w
    .exact NW w W
    .exact NW w X
 refine⟨B,j.bg,nS (SW N) (.adr y::ds),β,y,dx,[],[],r,d,ok,rfl,hy,hH,rfl,aj.f5,CA e y,?_⟩;cases r with
 |ok es=>
  intro Y u g vs s c Z I J;obtain⟨t1,t2⟩:=v s c;exact h g vs t1 Z I (aj.tr t2 _ _ J)
 |error Ce=>
  intro Y u g s c;exact h g (v s c).1
variable{X:Cx}{E:a0t}{d:O0}
variable{h:G}{b:Ds}{c a:Bg}{Q:a0w}{i:Nat}{f:FD}
end
section
variable{C t:Nh}{m:Oi}{e:a0j}{k:a0b->M D}{p:a0b->M a0b}{l:FD}{g s:FL}{n j as q:a0b}{o:List (Sr D)}{δ:Dn}{β β1 β2 b:Bg}{r:Except Nh D×Bg}{d:D}{f:Oi}{h:G}{Q:a0w}{i:Nat}{a:Ds}
theorem IN{d:Type}{k:a0b->M d}{r:Except Nh d×Bg}(a:l δ β=My (.ok (.obj C e j),β1))(b:g δ β1=My (.ok as,β2))(c:k (.obj C e j::(as++n)) β2=My r)(f:m∉e:=by decide):tL C m k l g n δ β=My r:=by
 unfold tL;rw[M.k4 a];simp only[f,not_false_eq_true,and_self,OC];rw[M.k4 b];exact c
theorem LW(a:x δ β=My (.ok (.obj C e j),β1))(b:(e.zip j).lookup f=My d):f1 (yL C f) x δ β=My (.ok d,β1):=by
 refine ZE a ?_;unfold yL;simp only[OC];exact b
theorem BW{g:G}{δ δ1:Ds}{r:Except Nh a0b×Bg}(e:g δ β=My (.nx δ1,β1))(a:δ[0]?=My (My (.h (.adr x))))(b:δ1[0]?=My (My (.h (.adr x))))(k:c δ1 done β1=My r):mW g c δ done β=My r:=by
 unfold mW;simp only[e,a,b,OC];exact k
theorem pV{f:FD}{δ:Ds}{d:D}{r:Except Nh a0b×Bg}(e:f (vw δ) β=My (.ok d,β1))(k:c δ (done++[d]) β1=My r):jC f c δ done β=My r:=by
 unfold jC;rw[e];exact k
noncomputable def M_{a:Type}(d:a)(c:Nat)(ac:List (List a)):List (List a):=(Nr c).map λj=>ac.map λb=>b.getD j d
abbrev tp(c:Nat)(ac:LI):LI:=M_ 0 c ac
theorem wg{b:Type}{d:b}{r c:Nat}{e:List (List b)}(h:SW e=r):ix c r (M_ d c e):=⟨by simp[M_],λf a=>by
 obtain⟨j,_,rfl⟩:=Nm.mp a;rw[M9,h]⟩
theorem xX{d:Int}:∀(a:a0d),(Nr (SW a)).map (λj=>a.getD j d)=a:=λa=>by
 refine Se λi=>?_;rw[Nl];by_cases h:i<SW a
 .rw[Oq h]
  show My (a.getD i d)=_;rw[NA,Ng h];rfl
 .rw[Sz (by simpa using h),Sz (by lia)];rfl
theorem qA{a:Type}(f g:a->Int):∀l:List a,(l.map λx=>f x+g x).sum=(l.map f).sum+(l.map g).sum
 |[]=>by simp
 |x::l=>by
  simp only[NI,N2,qA f g l];lia
theorem nQ{a:Type}:∀l:List a,(l.map λ_=>(0:Int)).sum=0
 |[]=>rfl
 |x::l=>by simp only[NI,N2,nQ l];rfl
theorem zq:∀{ac:LI},(∀row∈ac,SW row=c)->tot (tp c ac)=tot ac
 |[],_=>by
  show((M_ 0 c []).map PF).sum=0;unfold M_;rw[Nx];exact nQ (Nr c)
 |row::ac,h=>by
  have b:=zq (c:=c) (ac:=ac) λx d=>h x (Nk _ d);have a:=h row Np;unfold tot tp M_ at b⊢;rw[Nx]at b⊢;have e:(λj=>(PF ((row::ac).map λrow=>row.getD j 0)))=λj=>row.getD j 0+(ac.map λrow=>row.getD j 0).sum:=by
   funext j;rw[NI,N2]
  show((Nr c).map λj=>(PF ((row::ac).map λrow=>row.getD j 0))).sum=_;rw[e,qA,<-a,xX,a,NI,N2];congr 1
theorem L8(h:∀d∈u,∀x∈d,0<=x):∀d∈tp c u,∀x∈d,0<=x:=λd a x f=>by
 obtain⟨j,_,rfl⟩:=Nm.mp a;obtain⟨q,b,rfl⟩:=Nm.mp f;rw[NA];cases e:q[j]? with
 |none=>exact Xm 0
 |some y=>exact h q b y (NJ e)
end
end L2.Pu
namespace L2.Pu
section
variable{X:Cx}
variable{a:N9}{w:Ol}{A:Ot}{E:a0e}{s:Nq}{l:Nh}{b:Array (Int×Tok)}
variable{K:NR}
end
end L2.Pu
namespace L2
end L2
namespace L2.Pu
section
variable{X:Cx}{E:a0t}{K:NR}{f k c:Expr}{e:List Expr}{b:a0Q}{a:Scope}{d:SA}{m l:a0j}{j:a0a}{g:TG}{i:a0Z}
variable{f:O0}{a:Hp}{B:Ow}{g:a0m}{H h:Hp}{d:Ds}{e b:Bg}{c:St}
theorem Zn{us:a0g}(h:SW us=1):∃a,us=[a]:=List.length_eq_one_iff.mp h
theorem Z8{us:a0g}(h:SW us=2):∃c d,us=[c,d]:=by
 obtain⟨a,l,rfl⟩:=Rx h;obtain⟨b,rfl⟩:=Zn (us:=l) (by simpa using h);exact⟨_,_,rfl⟩
theorem Zm{us:a0g}(h:SW us=3):∃d e f,us=[d,e,f]:=by
 obtain⟨a,l,rfl⟩:=Rx h;obtain⟨b,c,rfl⟩:=Z8 (us:=l) (by simpa using h);exact⟨_,_,_,rfl⟩
theorem lU4{us:a0g}(h:SW us=4):∃e f g i,us=[e,f,g,i]:=by
 obtain⟨a,l,rfl⟩:=Rx h;obtain⟨b,c,d,rfl⟩:=Zm (us:=l) (by simpa using h);exact⟨_,_,_,_,rfl⟩
end
section
variable{X:Cx}{E:a0t}{e u o z B i:Expr}{t:List Expr}{q p:SA}{f1 f2 I J d:FD}{g:FL}{k j n:Nat}{f:Nh}{y:N1}{v:a0j}{x:Oi}{a:a0b->a0l}{r:a0J}{c T:String}
theorem vv(i:Nat){x:Oi}(b:X.N[i]?=My x:=by rfl)(c:Y1 X.e.scope x:=by first|exact P5 rfl|exact Re (P5 rfl)|exact Re (Re rfl))(d:b0c x:=by decide)
  (a:(x==("__classdict__":Oi))=Ni:=by decide):PE X (.Name x q) (tV X.K (ah i) E):=L0 i (pv i b c d a)
theorem c4(a:PE X u (tV X.K f1 E))(b:b0a X u []:=by rfl):PA X [u] (hO X.K (aa f1 aA) E):=eK a iT b
theorem dk(a:PE X u (tV X.K f1 E))(b:PE X o (tV X.K f2 E))(c:b0a X u [o]:=by rfl)(d:b0a X o []:=by rfl):PA X [u,o] (hO X.K (aa f1 (aa f2 aA)) E):=eK a (c4 b d) c
theorem mm(a:PE X u (tV X.K f1 E))(b:PE X o (tV X.K f2 E))(c:PE X z (tV X.K I E))(d:b0a X u [o,z]:=by rfl)(h:b0a X o [z]:=by rfl)(i:b0a X z []:=by rfl):PA X [u,o,z] (hO X.K (aa f1 (aa f2 (aa I aA))) E):=eK a (dk b c h i) d
theorem uz(a:PE X u (tV X.K f1 E))(b:PE X o (tV X.K f2 E))(c:PE X z (tV X.K I E))(d:PE X B (tV X.K J E))(h:b0a X u [o,z,B]:=by rfl)(i:b0a X o [z,B]:=by rfl)(l:b0a X z [B]:=by rfl)(m:b0a X B []:=by rfl):PA X [u,o,z,B] (hO X.K (aa f1 (aa f2 (aa I (aa J aA)))) E):=eK a (mm b c d i l m) h
theorem D1(c:Dn)(d:Bg)(r:a0b)(a:Bg)(h:aA c d=My (.ok r,a)):SW r=0:=F9 h
structure FB (P:N9) (w:Ol) (K:NR) (mg:a0i) (base:OO) (k:Nat) (x:Oi) (f:Nh) (y:N1) (v:a0j) (n:Nat) (m:a0b->M D):Prop where
 ok:ee P w K mg base (fx P w) k f y v (A_ K n m)
 m:mg x=My (.ref f)
 kp:Tf K (.ref f)=Nf
 b:fG K y v []
theorem vc(G:FB X.p X.w X.K X.mg X.base j x f y v n m)(h:dr k X.A)(u:PA X (e::t) (hO X.K g E))(i:j<=k:=by decide)(z:db (fx X.p X.w) X E:=by first|exact kC|exact x6|assumption)(l:Gl X x:=by rfl)
  (B:∀D I r d,g D I=My (.ok r,d)->SW r=n:=by repeat (first|exact D1|apply bF)) (a:b0c x:=by decide) (o:b0a X e t:=by rfl) (c:b0b X q t:=by rfl):
  PE X (.Call (.Name x p) (e::t) [] q) (tV X.K (bK m g) E):=zg G.ok (h.mono i) l G.m G.kp G.b z u B a o c
theorem dW(d:X.mg "len"=Na)(f:PA X (e::t) (hO X.K g E))(b:Gl X "len":=by rfl)(c:b0a X e t:=by rfl)(a:b0b X q t:=by rfl):PE X (.Call (.Name "len" p) (e::t) [] q) (tV X.K (aT gx g) E):=bV mj ML b d PySem.boot_len f (by decide) (by decide) c a
theorem gF(f:X.mg "sum"=Na)(i:PA X (e::t) (hO X.K g E))(b:Gl X "sum":=by rfl)(c:X.calm=Nf:=by rfl)(d:b0a X e t:=by rfl)(a:b0b X q t:=by rfl):PE X (.Call (.Name "sum" p) (e::t) [] q) (tV X.K (aT gW g) E):=bV (CU c) Ke b f Boot.«sum» i (by decide) (by decide) d a
theorem lh(d:X.mg "isinstance"=Na)(f:PA X (e::t) (hO X.K g E))(b:Gl X "isinstance":=by rfl)(c:b0a X e t:=by rfl)(a:b0b X q t:=by rfl):PE X (.Call (.Name "isinstance" p) (e::t) [] q) (tV X.K (aT jf g) E):=bV CV MM b d Boot.«isinstance» f (by decide) (by decide) c a
theorem gt{d:Scope}(a f:a0j)(e:a0a)(k:d.kind= .function:=by rfl)(g:(d.names.map (·.1)).Nodup:=by decide +kernel)
  (fr:(d.names.all λy=>y.2 != .free||(X.e.scope.names.lookup y.1==My .cell||X.e.scope.names.lookup y.1==My .free))=Nf:=by rfl) (b:a=f++e.map (λj=>X.N.getD j RH):=by rfl)
  (c:(e.all λj=>decide (j<SW X.N)&&d.names.lookup (X.N.getD j RH)==My .free)=Nf:=by rfl):cp X d a f e:=cp.ofB k g fr b c
theorem en{a:a0j}(h:a.Nodup:=by decide +kernel):(aM X a b cl C l s H).N.Nodup:=h
theorem dq(i:Nat){x:Oi}(a:X.N.Nodup)(b:X.N[i]?=My x:=by rfl)(d:xl X.e.scope x:=by first|exact P5 rfl|exact Re rfl)(c:b0d X x:=by first|exact .inl rfl|exact .inr rfl|assumption):PG X (.Name x q) (dQ i):=wN a b d c
theorem d4(i:Nat){x:Oi}{e:Expr}{q a:SA}(b:X.N.Nodup)(c:PE X e l)(d:X.N[i]?=My x:=by rfl)(f:xl X.e.scope x:=by first|exact P5 rfl|exact Re rfl)(g:Tg e (My (.Name x a)) q.line X.e=P3 Ni:=by rfl)(h:b0d X x:=by first|exact .inl rfl|exact .inr rfl|assumption):PS X (.Assign [.Name x a] e q) (gm l (dQ i)):=pC b d f c g h
theorem p_{Q:a0g->Prop}(h:∀a,Q [a])(us:a0g)(b:SW us=1):Q us:=by obtain⟨_,rfl⟩:=Zn b;exact h _
theorem L3{Q:a0g->Prop}(h:∀a b,Q [a,b])(us:a0g)(c:SW us=2):Q us:=by obtain⟨_,_,rfl⟩:=Z8 c;exact h _ _
theorem t_{Q:a0g->Prop}(h:∀a b c,Q [a,b,c])(us:a0g)(d:SW us=3):Q us:=by obtain⟨_,_,_,rfl⟩:=Zm d;exact h _ _ _
theorem Zs{Q:a0g->Prop}(h:∀a b c d,Q [a,b,c,d])(us:a0g)(i:SW us=4):Q us:=by obtain⟨_,_,_,_,rfl⟩:=lU4 i;exact h _ _ _ _
theorem ff{N Q:a0j}{c:Scope}(a:c.kind= .function:=by rfl)(b:c.isCoroutine=Ni:=by rfl)(g:c.isGenerator=Ni:=by rfl)(d:N.Nodup:=by decide +kernel)(e:N.take (SW Q)=Q:=by rfl)(f:∀x∈Q,c.names.lookup x=My .local\/c.names.lookup x=My .cell:=by decide +kernel)(h:∀y∈c.names,y.2≠ .free:=by decide +kernel):ba N Q c:=⟨a,b,g,d,e,f,h⟩
structure fw (K:NR) (mg:a0i) (x:Oi) (st:O0) (f:Nh) (y:N1) (v:a0j):Prop where
 F:io K x x st f y
 m:mg x=My (.ref f)
 b:fG K y v []
theorem hY{P:N9}{w:Ol}{K:NR}{mg:a0i}{base:OO}{x:Oi}{e:O0}{f:Nh}{y:N1}{N v:a0j}{k n:Nat}{g:G}(m:Nat)(F:fw K mg x e f y v)(S:ba N v (ak e))(a:∀(c:Nj) (A:Ot) (d:a0C) (s:Nq) (H:Hp) (E:XK),dr k (A.deeper (Ss x (ak e) s.heap.objs.size f c))->PSs (fP (fx P w) P w K mg base N x (ak e) f c A d s H E) (cB e) (tG K H g (λ_=>E)))(i:SW v=n:=by rfl)(j:SW N=m:=by rfl):FB P w K mg base (k+1) x f y v n (dS m g):=⟨l6 n m g F.F S i j a,F.m,F.F.kp,F.b⟩
def Al:List Prop->Prop
 |[]=>True
 |p::l=>p/\Al l
theorem aN{p:Prop}(h:p)(t:Al l):Al (p::l):=⟨h,t⟩
theorem LM:∀{l:List Prop},Al l->∀i,l.getD i True
 |[],_,_=>trivial
 |_::_,h,0=>h.1
 |_::_,h,i+1=>LM h.2 i
end
end L2.Pu
namespace L2
section
variable{a:N9}{w:Ol}{A:Ot}{E:a0e}{s:Nq}{K:NR}
variable{X:Cx}
end
namespace Pu
section
variable{X:Cx}{E:a0t}
end
end Pu
end L2
namespace L2.Pu
section
variable{X:Cx}{E:a0t}{a b:Expr}{l:SA}{k:Nat}{f C:Nh}{m:N1}{ps:a0j}{K:NR}
noncomputable def GN:D->D->a0l
 | .c a,.c b=>My (.c (!decide (a=b)))
 |_,_=>Na
def Jy(g:Bool->Bool->Bool):R2:=λx y H Q=>∃p q,x= .c p/\y= .c q/\Q (.c (g p q)) H
theorem Fa(p q:Bool):(Tu p==Tu q)=decide (p=q):=by cases p<;>cases q<;>rfl
theorem HR:e_ X (OP .IsNot) (Jy λp q=>!decide (p=q)):=by
 intro c s g H x y v u Q I d e h;obtain⟨p,q,rfl,rfl,h⟩:=h;cases d;cases e;exact wpAny_isNot_plain rfl ⟨_,H,I,by rw[Fa];exact rfl,h⟩
theorem Kf:bz K (Jy λp q=>!decide (p=q)) GN:=λF H a Q b f d h i fr c g e k=>by
 unfold GN at e;split at e
 .cases e
  exact⟨_,_,c,g,k _ H (To.refl fr) rfl⟩
 .cases e
structure IsC (K:NR) (C:Nh):Prop where
 cl:uy K C
 ha:Su K (.ref C) "__class__"=My (My (.builtin "object.__class__"))
 hn:specialIn K (.builtin "object.__class__") "__get__"=My (My (.builtin "getset_descriptor.__get__"))
 htk:XS K (.builtin "object.__class__")=My Nf
 hm:PySem.W.mroIn K C (.type "object")=My Nf
theorem J8:dH [x,y]=My (.l [x,y]):=by
 unfold dH;rw[Nu (show[x,y].length<=NN by rw[NB,Oy];decide)]
variable{f p2 e b:SA}
noncomputable def S(n:Nat)(f:a0P):Int:=((Nr n).map f).sum
theorem LQ(f:a0P):S 0 f=0:=rfl
theorem gD(n:Nat)(f:a0P):S (n+1) f=S n f+f n:=by
 unfold S;rw[Qm,NV,VB];simp
theorem d8{f g:a0P}(h:∀i<n,f i=g i):S n f=S n g:=by
 unfold S;rw[Od λi c=>h i (NS.mp c)]
theorem tR(n:Nat)(f g:a0P):S n (λi=>f i+g i)=S n f+S n g:=qA f g _
theorem mw(n:Nat):S n (λ_=>0)=0:=nQ _
theorem M7(n:Nat)(f:a0P):S n (λi=>-f i)=-S n f:=by
 induction n with
 |zero=>rfl
 |succ n a=>rw[gD,gD,a];lia
theorem DC(n m:Nat)(h:Nat->Nat->Int):S n (λi=>S m (λj=>h i j))=S m (λj=>S n (λi=>h i j)):=by
 induction n with
 |zero=>rw[LQ];exact(mw m).symm
 |succ n a=>
  rw[gD,a,<-tR];exact d8 λj _=>(gD n _).symm
theorem nR{g:a0P}:∀{l L:a0a},l.Sublist L->L.Nodup->(l.map g).sum=(L.map λx=>if x∈l then g x else 0).sum
 |_,_,.slnil,_=>rfl
 |l,_,.cons a (l₂:=L) h,nd=>by
  have c:=(OE.mp nd);have b:a∉l:=λz=>c.1 (h.subset z);rw[NI,N2,Nv b,nR h c.2,Sj]
 |_,_,.cons₂ a (l₁:=l) (l₂:=L) h,nd=>by
  have c:=(OE.mp nd);rw[NI,NI,N2,N2,Nu Np,nR h c.2];congr 2;refine Od λx e=>?_;have d:x≠a:=λz=>c.1 (z▸e);by_cases q:x∈l
  .rw[Nu q,Nu (Nk _ q)]
  .rw[Nv q,Nv λz=>(NC.mp z).elim d q]
theorem mF{l:a0a}(h:l.Sublist (Nr n)):(l.map g).sum=S n λx=>if x∈l then g x else 0:=nR h List.nodup_range
theorem xg{p:Nat->Bool}{g:a0P}:∀l:a0a,((l.filter p).map g).sum=(l.map λx=>if p x=Nf then g x else 0).sum
 |[]=>rfl
 |x::l=>by
  rw[Ve,NI,N2,<-xg l];by_cases q:p x=Nf
  .rw[Nu q,Nu q,NI,N2]
  .rw[Nv q,Nv q,Sj]
noncomputable abbrev nI(l:a0a):a0d:=l.map λ(i:Nat)=>(i:Int)
noncomputable abbrev nL(l:a0a):D:= .l ((nI l).map D.n)
theorem w6:∀a:a0d,Yp (.n i) (a.map D.n)=decide (i∈a)
 |[]=>rfl
 |x::a=>by
  have b:=w6 (i:=i) a;unfold Yp at b⊢;rw[NI,SI,b];show(decide (x=i)||_)=_;rw[Ut];simp only[Vu,Og,NC];constructor
  .rintro(h|h)
   .exact .inl h.symm
   .exact .inr h
  .rintro(h|h)
   .exact .inl h.symm
   .exact .inr h
theorem se:∀a:a0d,(a.map D.n).all dR=Nf
 |[]=>rfl
 |_::a=>se a
theorem Kj{b:a0d}{a:Bool}:K_ a (.n i) (.l (b.map D.n))=My (.c (if a then !decide (i∈b)else decide (i∈b))):=by
 show(if(dR (.n i)&&(b.map D.n).all dR)=Nf then _ else _)=_;rw[se,Bool.and_true,Nu (show dR (.n i)=Nf from rfl),w6]
theorem J5{i:Nat}{l:a0a}:((i:Int)∈nI l)↔i∈l:=by
 constructor
 .intro h
  obtain⟨j,c,e⟩:=Nm.mp h;exact(Int.ofNat.inj e)▸c
 .intro h
  exact Nm.mpr ⟨i,h,rfl⟩
theorem vA{i:Nat}{l:a0a}{a:Bool}:K_ a (.n (i:Int)) (nL l)=My (.c (if a then !decide (i∈l)else decide (i∈l))):=by
 rw[Kj];simp only[J5]
theorem kR{k:Type}{f:FD}(b:List k)(u v:k->D)(p:k->Bool)(g:it δ β=My (.ok (b.map u),β))
  (i:∀x∈b,∃a,tg (u x) (j0 nv br δ)=My a/\tt a β=My (.ok (p x),β)/\(p x=Nf->f a β=My (.ok (v x),β))) (j:SW b<=NN):dJ nv br it tg tt (ko f) δ β=My (.ok (.l ((b.filter p).map v)),β):=by
 refine qZ g ?_ (by rw[M9];exact NK (List.length_filter_le _ _) j);have m:∀b:List k,(∀x∈b,∃a,tg (u x) (j0 nv br δ)=My a/\tt a β=My (.ok (p x),β)/\(p x=Nf->f a β=My (.ok (v x),β)))->mY tg tt (ko f) (b.map u) (j0 nv br δ) β=My (.ok ((b.filter p).map v),β):=by
  intro b
  induction b with
  |nil=>intro _;rfl
  |cons x b w=>
   intro h;obtain⟨a,d,c,l⟩:=h x Np;have e:=w λy C=>h y (Nk _ C);rw[NI,mY,Ve];cases q:p x with
   |true=>
    rw[q]at c;simp only[d,M.v,M.h0,c,ko,l q,e,Nu,NI,Rw,Ql]
   |false=>
    rw[q]at c;simp only[d,M.v,M.h0,c,e,NO,OF,Ql]
 exact m b i
theorem nG:∀(n:Nat) (a:a0b),c5 n a=(Nr (SW a)).map λ(i:Nat)=>D.t [.n ((n+i:Nat):Int),a.getD i .o]
 |n,[]=>rfl
 |n,x::a=>by
  rw[c5,nG (n+1) a,NB,Ul,NI,Nx];congr 1;refine Od λi _=>?_;simp only[Uz];rw[show n+1+i=n+(i+1) by lia];rfl
noncomputable abbrev bI(b:LP)(i j:Nat):Int×Int:=(b.getD i []).getD j (0,0)
theorem ix.getD{α:Type}{m:List (List α)}(h:ix r c m)(d:i<r):m[i]?=My (m.getD i [])/\SW (m.getD i [])=c:=by
 obtain⟨a,e,l⟩:=h.at d;have:m.getD i []=a:=by rw[NA,e];rfl
 rw[this];exact⟨e,l⟩
theorem m9{a:Type}{l:List a}{i:Nat}{d:a}(h:i<SW l):l[i]?=My (l.getD i d):=by
 rw[NA,Ng h];rfl
theorem GT{a:a0d}(h:i<SW a):hU (.l (a.map D.n)) (.n (i:Int))=My (.n (a.getD i 0)):=cP (by rw[Nl,m9 h];rfl)
theorem vo{b:LP}(a:ix r c b)(g:i<r)(h:j<c):hU (dM b) (.n (i:Int))=My (.l ((b.getD i []).map pD))/\hU (.l ((b.getD i []).map pD)) (.n (j:Int))=My (pD (bI b i j)):=by
 obtain⟨e,l⟩:=a.getD g;refine⟨tq (by rw[Nl,e];rfl),cP ?_⟩;rw[Nl,m9 (d:=(0,0)) (by lia)];rfl
noncomputable def pK(a:a0d)(c:a0a):Int:=(c.map λi=>a.getD i 0).sum
def fE(a:a0d)(b:LP)(r:Nat)(c:a0a)(j:Nat):Int:=a.getD j 0-S r λi=>if i∈c then 0 else(bI b i j).1
def gi(b:LP)(c:a0a)(j:Nat):Int:=(c.map λi=>(bI b i j).2).sum
def sW(a:a0d)(b:LP)(r c:Nat)(d e:a0a):Int:=S c λj=>if j∈e then fE a b r d j else gi b d j
def hF(b:LP)(c d:a0a)(i j:Nat):Int:=(if i∈c/\j∉d then(bI b i j).2 else 0)-(if i∉c/\j∈d then(bI b i j).1 else 0)
theorem HC{b:LP}{d e:a0a}(h:d.Sublist (Nr r))(g:e.Sublist (Nr c)):
  sW cs b r c d e=pK cs e+S r λi=>S c λj=>hF b d e i j:=by
 unfold sW pK;rw[mF g,DC,<-tR];refine d8 λj l=>?_;by_cases q:j∈e
 .rw[Nu q,Nu q]
  unfold fE;rw[Int.sub_eq_add_neg,<-M7];congr 1;refine d8 λi g=>?_;unfold hF;by_cases z:i∈d
  .simp[z,q]
  .simp[z,q]
 .rw[Nv q,Nv q,Sj]
  unfold gi;rw[mF h];refine d8 λi g=>?_;unfold hF;by_cases z:i∈d
  .simp[z,q]
  .simp[z,q]
end
end L2.Pu
namespace L2.Pu
section
variable{X:Cx}{K:NR}
variable{E:a0t}{o e:Expr}{b a:SA}
end
end L2.Pu
namespace L2.Pu
noncomputable def Kv:G:=λ_ _=>Na
theorem eL{w:O0}{K:NR}{E:a0t}:PS X w (tG K H Kv E):=λ_ _ _ _ _ _ h=>by
 obtain⟨_,_,_,_,_,_,_,e,_⟩:=h;cases e
section
variable{j:N9}{w:Ol}{A:Ot}{E:a0e}{s:Nq}{l:Nh}{t:Array (Int×Tok)}
theorem DR(f:A.handled=Na)(c:s.heap.IsTuple l (WX t))
  (h:∀D d G,(∀b o,s.heap.get? b=My o->D.get? b=My o)->Q (.int (preSum (numAt t) t.size) G) {s with heap:=D,toks:=d}):
  ND (N0 j w) A (Vb (.builtin "sum") [.ref l]) Q E s:=by
 have a:l<s.heap.objs.size:=by obtain⟨_,e,_⟩:=c;exact NU e
 refine call_sum_walkG (Vs c ⟨_,_,_,_,_,_,numAt t,rfl,Walks.tuple (A:=A.in1) f _ l (Ov a) (WX t),⟨⟨_,NE _ rfl,rfl,rfl⟩,c.at λo e=>Nd _ e⟩,λb hb=>?_,(λ_ _=>intItems_at),λD d G g=>?_⟩)
 .show b<(s.heap.push _).objs.size
  rw[Pj];rcases NC.mp hb with rfl|hb
  .exact SK _
  .rcases NC.mp hb with rfl|hb
   .exact QO a
   .cases hb
 .have:=h D d G λb o e=>g b o (λhm=>by
   rcases NC.mp hm with i|hm
   .exact NW (i▸NU e) (OB _)
   .cases hm) (Nd _ e)
  simpa[WX]using this
variable{X:Cx}{K:NR}
abbrev GF(K:NR):a0k->Hp->VK->Prop:=λt H Q=>∃(p:Nh) (j:a0d),t=[.r p]/\(d_ K H p (j.map V.n)\/f_ K H p (j.map V.n))/\Q (.n j.sum) H
theorem CT(b:X.calm=Nf):c7 X (.builtin "sum") (GF X.K):=by
 intro a s f H t E Q I r h;obtain⟨p,l,rfl,hq|hq,q⟩:=h
 .exact su b a s f H _ E Q I r ⟨p,l,rfl,hq,q⟩
 .obtain⟨u,rfl,g⟩:=jo r
  cases g;obtain⟨w,i,A,m⟩:=I.tuple hq;have c:=pX i;obtain⟨t,D⟩:=c.allInts.items;have d:=c.numsOf;have j:w=(WX t).toList:=by rw[<-D]
  rw[j,nums_intItems]at d;rw[D]at A;refine DR (I.ok.hd b) A λG n M k=>?_;have e:preSum (numAt t) t.size=l.sum:=by rw[preSum_eq,OJ (by simp),d]
  rw[e];exact⟨.n l.sum,H,I.kept k,⟨_,rfl⟩,q⟩
def oX:a0b->a0l
 |[.l t]=>(eZ t).map λj=> .n j.sum
 |[.t t]=>(eZ t).map λj=> .n j.sum
 |_=>Na
theorem Kd:dT K (GF K) oX:=λF H s Q w d A fr h e k=>by
 unfold oX at e;split at e
 .rename_i t
  obtain⟨j,q,rfl⟩:=Q1.mp e;obtain⟨v,rfl,g⟩:=aj.h0 h;obtain⟨a,l,rfl,r,b⟩:=bc.h0 g;rw[iv q]at b;have c:=aj.o7 j b;subst c;exact⟨a,j,rfl,.inl r,k _ H (To.refl fr) rfl⟩
 .rename_i t
  obtain⟨j,q,rfl⟩:=Q1.mp e;obtain⟨v,rfl,g⟩:=aj.h0 h;obtain⟨a,l,rfl,r,b⟩:=bc.f5 g;rw[iv q]at b;have c:=aj.o7 j b;subst c;exact⟨a,j,rfl,.inr r,k _ H (To.refl fr) rfl⟩
 .cases e
theorem Jc(j:a0d):oX [.l (j.map D.n)]=My (.n j.sum):=fq j
theorem Jb(j:a0d):oX [.t (j.map D.n)]=My (.n j.sum):=fq j
end
end L2.Pu
namespace L2.Pu
open L2.Hs
noncomputable def Iti(a:Nh)(D n:Nat):It:=
 ⟨λi H=>∃b w,H a=My (cU a b D w)/\SW w=n/\i<n,
  λi H v c=>∃p x,H p=Na/\v= .r p/\c=upd H p (.t [.r x.1,x.2])/\∀b w,H a=My (cU a b D w)->(w[i]?).map (·.2)=My x,
  λi H=>∃b w,H a=My (cU a b D w)/\SW w=n/\i=n⟩
theorem Gi:∀{w:a0p} {D:a0B} {i:Nat} {y:dv×Nh×Nj},TM XY w D->D[i]?=My y->∃x,w[i]?=My x/\XY x y
 |_,_,0,_,.cons h t,e=>by cases e;exact⟨_,rfl,h⟩
 |_,_,i+1,_,.cons h t,e=>Gi (i:=i) t e
 |_,_,0,_,.nil,e=>by cases e
 |_,_,_+1,_,.nil,e=>by cases e
section
variable{X:Cx}{ai:a0c}{σ:St}{H:Hp}{s:Nq}{a:Nh}{b:Bool}{ep i:Nat}{xs:a0p}
theorem qg(I:bt X ai σ H s)(h:H a=My (cU a b ep xs)):∃(o:N3) (es:Array Qu),s.heap.get? a=My o/\o.data= .dict es ep/\es.size=SW xs/\o.ExactDict/\(a==Th)=Ni/\∀(i:Nat) (e:Qu),es[i]?=My e->∃x,xs[i]?=My x/\e.key= .ref x.2.1/\aS x.2.2 e.val:=by
 obtain⟨o,es,w,j,k,l,d,t,m,u,g⟩:yZ a b ep xs s.heap:=(I.hok a _ h).1;have n:SW w=SW xs:=by rw[<-M9 (f:=(·.1)),<-jM g,M9]
 refine⟨o,es,j,l,by rw[<-NG,d,M9,n],k,m,λi e c=>?_⟩;rw[<-Ox,d,Nl]at c;cases q:w[i]? with
 |none=>rw[q]at c;cases c
 |some y=>
  rw[q]at c;cases c;obtain⟨x,D,_,p,r⟩:=Gi g q;exact⟨x,D,by rw[p],r⟩
theorem xI{P:N9}{w:Ol}{K:NR}{x1}(a M:Nh)(n ep:Nat):
  ni P w K (.Tuple elts x1 pos) (Iti a ep n) [M] M (λi h=>∃G d,Ud h M a i n ep G d) where
 mem:=by simp
 obj:=λi h D b c=>by
  obtain⟨G,d,e⟩:=D;cases NT.mp c;exact⟨_,e,λv q=>by cases q⟩
 keep:=λi h S D k=>by
  obtain⟨G,d,e⟩:=D;exact⟨G,d,k M (by simp) _ e⟩
 item:=by
  intro X m p r F i ai s σ H E I f D t;subst m p r;obtain⟨G,d,e⟩:=D;obtain⟨b,xs,A,T,J⟩:=t;obtain⟨o,es,g,j,U,h4,h5,W⟩:=qg I A;have V:n=es.size:=by lia
  subst V;have hx:es[i]?=My es[i]:=Rv J;refine yC e g j hx λS Y Z sz kp=>⟨_,rfl,wpAny_letOwnedTupleGo_items (s:={s with heap:=S}) Y λB ei sb=>?_⟩;obtain⟨x,ex,L,N⟩:=W i _ hx;have O:s.heap.objs.size≠M:=Qj (NU e);have I2:bt X ai σ (upd H s.heap.objs.size (.t [.r x.2.1,x.2.2])) {s with heap:=B,toks:=s.toks}:=
   bt.o7 I f (λb u c q=>sb.extBut b u (λz=>c (by rw[z];simp)) (kp b u (λz=>c (by rw[z];simp)) q)) (No _) ⟨by show 2<=NN;decide,[es[i].key,es[i].val],.cons L (.cons N .nil),_,sb.extBut _ _ O Z,rfl,_,rfl⟩
  refine⟨.r s.heap.objs.size,_,I2,rfl,⟨s.heap.objs.size,x.2,I.hok.fresh (No _),rfl,rfl,λb' aa C=>?_⟩,⟨_,_,ei⟩,λb c=>?_⟩
  .obtain⟨o',es',Q,R,_,_,_,g6⟩:=qg I C
   rw[g]at Q;cases Q;rw[j]at R;cases R;obtain⟨y,ey,l,fv⟩:=g6 i _ hx;rw[ey];rw[L]at l
   injection l with l
   exact Ou My (Qr l.symm (aS.inj fv N))
  .cases NT.mp c
   rw[a_ O.symm];exact(f _ c).1
 done:=by
  intro X m p r F i ai s σ H E I f D t;subst m p r;obtain⟨G,d,e⟩:=D;obtain⟨b,xs,A,T,J⟩:=t;obtain⟨o,es,g,j,U,_⟩:=qg I A;have V:n=es.size:=by lia
  subst V;refine BT (I.ok.hd F) e g j (by lia) λS kp=>⟨rfl,bt.turnL (t':=s.toks) I f λb o c q=>kp b o (λz=>c (by rw[z];simp)) q⟩
 self:=λ_ _ _ _ _ D h=>by
  obtain⟨G,d,e⟩:=D;exact yB (es:=(NX n (⟨0,.none,.none⟩:Qu)).toArray) (by rw[NM,P9];exact e) h
variable{E:a0t}{K:NR}{o:Expr}{w i z:SA}{B:List Expr}{C:Nat}
def iItm(i:TE):TI:=λσ H R=>i σ H λx c=>∃a b ep xs,x= .r a/\c a=My (cU a b ep xs)/\R (Iti a ep (SW xs)) c
theorem D9(p:PE X o to)(c:Tq o "items" X.e (OQ o X.e)=OQ o X.e:=by rfl)(d:(w.endLine==i.line)=Nf:=by rfl):PI X (.Tuple B C z) (.Call (.Attribute o "items" w) [] [] i) (iItm to):=by
 intro ai s σ H R I h;refine wpAny_Call_method0_late c d (dt (p ai s σ H _ I h) λv f g=>?_);obtain⟨x,m,n,D,a,b,ep,xs,rfl,r,q⟩:=g;cases D;obtain⟨j,E,g,t,u,k,y,_⟩:=qg n r;refine⟨"dict","dict.items",PySem.F.plainAttrs_dict,PySem.F.slot_dict_items,PySem.F.type_dict_items,⟨j,g,k.1⟩,λb e=>?_,?_⟩
 .cases e;exact⟨j,g,k.2.1⟩
 refine Wp rfl (PySem.evalArgs_none (yU ⟨j,g,k.1⟩ y ?_));have l:bt X ai σ m {f with heap:=f.heap.push {cls:= .type "dict_items",data:= .fields #[.ref a]},toks:=f.toks}:=n.kept λb o e=>Nd _ e;refine yD (s:={f with heap:=f.heap.push {cls:= .type "dict_items",data:= .fields #[.ref a]}}) ⟨_,NE _ rfl,rfl,rfl⟩ (Nd _ g) t ?_;rw[u];exact⟨_,[_],_,_,m,rfl,l.kept (t':=f.toks) λb o e=>Nd _ e,xI a _ _ ep,⟨_,_,NE _ rfl⟩,λb A=>by
  cases NT.mp A;exact l.fpOk (No _) (l.hok.fresh (No _)),q⟩
def itmD:D->a0z
 | .dct b ks vs=>My (Tl (λk v=> .t [dK b k,v]) ks vs)
 |_=>Na
theorem BU{F:Fx}{H:Hp}{b:Bool}{a:Nh}{ep:Nat}{xs:a0p}(B:¬F.A a)(C:H a=My (cU a b ep xs))(g:R=xs.map (·.1))(I:∀x∈xs,fQ K F H b x.1 x.2.1)(h:aj K F H T (xs.map (·.2.2))):ux K (Iti a ep (SW xs)) F H (Tl (λk v=> .t [dK b k,v]) R T):=λO j s t fr i=>by
 have J:SW T=SW xs:=by rw[h.length,M9]
 have L:SW R=SW xs:=by rw[g,M9]
 have c:=t.kp a _ B C;refine⟨λd o=>?_,λe=>⟨b,xs,c,rfl,by rw[e,Xq,L,J,Nat.min_self]⟩⟩;have e:i<SW xs:=by
  have:=(Nn.mp o).1;rw[Xq]at this;lia
 refine⟨⟨b,xs,c,rfl,e⟩,λy Q w=>?_⟩;obtain⟨p,x,l,rfl,rfl,z⟩:=w;have m:=z b xs c;rw[Ng e]at m;have f:xs[i].2=x:=N6 m;subst f;have n:bT j (upd j p (.t [.r xs[i].2.1,xs[i].2.2])):=bT.upd l;obtain⟨v,q⟩:∃v,T[i]?=My v:=⟨_,Ng (by lia)⟩;have N:R[i]?=My xs[i].1:=by rw[g,Nl,Ng e];rfl
 rw[List.getElem?_zipWith,N,q]at o;cases o;have D:=aj.tr t _ _ h;obtain⟨u,r,E⟩:=D.get q;rw[Nl,Ng e]at r;cases r;have t3:=(fr.same n).tr fr;exact⟨n,oR (.inl ⟨fr.fresh l,.inl aw⟩) (aj.cons (bc.tr t3 _ _ (yc ((I _ (OG e)).tr t))) (aj.cons (bc.tr t3 _ _ E) aj.f5))⟩
def Z5(f:FD):FL:=λa=>M.v (f a) λd=>M.f (itmD d)
theorem w8(m:PE X o (tV X.K f E))(c:Tq o "items" X.e (OQ o X.e)=OQ o X.e:=by rfl)(g:(w.endLine==i.line)=Nf:=by rfl):PI X (.Tuple B C z) (.Call (.Attribute o "items" w) [] [] i) (iV X.K (Z5 f) E):=
 (D9 m c g).imp λσ H R j=>i_ j λF s D fr n h=>⟨F,s,D,fr,n,(run.bind (R:=bc X.K F) h).mono λv p j=>by
  obtain⟨d,G,t,b,M⟩:=j;obtain⟨P,e,k⟩:=run.h0 M;cases d<;>first|(cases e;done)|skip
  cases e;unfold bc at b;obtain⟨a,ep,xs,rfl,l,q,r,u⟩:=b;exact⟨a,_,ep,xs,rfl,l.2,k _ p (To.refl t.fr) (BU l.1 l.2 q r u)⟩⟩
end
end L2.Pu
namespace L2.Hs
theorem wU:mroOf (.type "reversed")=P3 [.type "reversed",.type "object"]:=by rw[mroOf_type];kernel_rfl
theorem Ew:typeLookup (.type "reversed") "__new__"=P3 (My (.builtin "reversed.__new__")):=by rw[Wt,UQ];kernel_rfl
theorem Er:Bind.madeBy (.type "reversed")=P3 (My "reversed.__new__"):=madeBy_type wU Ew (by decide +kernel)
theorem Hn:isSubtype (.type "reversed") (.type "reversed")=P3 Nf:=by rw[SN];kernel_rfl
theorem DT:isSubtype (.type "range_iterator") (.type "reversed")=P3 Ni:=by rw[SN];kernel_rfl
theorem Iy:entryFor table "reversed.__new__"=My Builtin.«reversed.__new__»:=entryFor_of_tree (by kernel_rfl)
section
variable{l:N9}{w:Ol}{A:Ot}{E:a0e}{s:Nq}
theorem E5(a:IsRange s.heap r 0 n 1 t u v)(j:0<=n)(g:n<2^62)
  (h:Q (.ref s.heap.objs.size) {s with heap:=s.heap.push {cls:= .type "range_iterator",data:= .fields #[Rl (n-1),Rl n,Rl (-1)]}}):ND (N0 l w) A (Vb (.type "reversed") [.ref r]) Q E s:=by
 refine W3 (codeAny_of_tree ?_);show ND _ _ (callAny (.type "reversed") _) _ _ _;refine Nb ⟨Code.quiet_builtin _ (by decide +kernel),TU F.entry_type_call ?_⟩;rw[Around.under_plain (weight_type_call_type "reversed" [.ref r] []) (units_type_call_type "reversed" [.ref r] [])];have g:(QP "reversed"==QP "type")=Ni:=by decide +kernel
 have k:((XO "reversed").bind (·.mro.findSome? λt=>(XO t).bind λb=>if b.noNew then My Nf else if b.attrs.any (·.1=="__new__")then My Ni else Na)).getD Ni=Ni:=by decide +kernel
 have e:=wU;have c:=Er;have i:checkTypeCall "reversed" ⟨[.ref r],[]⟩=P3 ():=by kernel_rfl
 repeat (any_goals (first|assumption|wp_step))
 refine codeAny_call_builtin (by decide +kernel) Iy (Rh (show checkBuiltinCall "reversed.__new__" ⟨[.type "reversed",.ref r],[]⟩=P3 () by kernel_rfl) ?_);have f:s.TypeIs (.ref r) "range":=⟨_,a,rfl⟩;unfold Builtin.«reversed.__new__»
 repeat (any_goals (first|assumption|wp_step))
 refine Rh Hn (Nb ?_);refine M8 (m:=T0 _ _ _) ?_;refine Rh (show T0 "reversed" (QP "reversed") ⟨[.type "reversed",.ref r],[]⟩=P3 ()from rfl) ?_;refine M8 (m:=checkCount "reversed" 1 1 _) (Nb ?_);show ND _ _ (specialOf (.ref r) (Pq "__reversed__")>>=_) _ _ s;refine M8 (QS f F.slot_range_reversed.lookup ?_);show ND _ _ (bindSpecial (.builtin "range.__reversed__") (.ref r)>>=_) _ _ s;refine M8 (Rh (F.slot_range_reversed.bind _) ?_);show ND _ _ (rule "reversed.__new__.own-method">>=_) _ _ s;refine M8 (PH (M8 (W5 (codeAny_call_builtin F.slot_range_reversed.plain F.entry_range_reversed (F.slot_range_reversed.check _ _ _ _ _ _ _ _ f (F.args_range_reversed_1 _) ?_)))));unfold Builtin.«range.__reversed__»;refine M8 (m:=selfOnly "range.__reversed__" _) (Nb (M8 ?_));unfold Builtin.Range.rangeFields;refine M8 (OY a rfl (x:= .int 0 t) rfl (M8 (m:=asInt? _) (Nb ?_)));refine M8 (OY a rfl (x:= .int n u) rfl (M8 (m:=asInt? _) (Nb ?_)));refine M8 (OY a rfl (x:= .int 1 v) rfl (M8 (m:=asInt? _) (Nb (Nb ?_))));have D:S6 0 n 1=n:=by rw[rangeSize_one];split<;>lia
 simp only[D];have d:(OX 0&&OX n&&OX 1&&OX (-1)&&OX (0-1)&&OX n)=Nf:=by
  have:OX n=Nf:=by unfold OX;simp;lia
  rw[this];decide
 simp only[d,OC,Qv,NO,OF];rw[show(0:Int)+(n-1)*1=n-1 by lia];refine M8 (Oh (Nb (Nb ?_)));exact M8 (PY (T:="range_iterator") (b:=Ni) ⟨_,NE _ rfl,rfl⟩ DT (M8 (PH (Nb h))))
end
end L2.Hs
namespace L2.Pu
open L2.Hs
noncomputable def ZD(n:Nat):It:=⟨λi _=>i<n,λi H v a=>v= .n ((n:Int)-1-i)/\a=H,λi _=>n<=i⟩
theorem ng{P:N9}{w:Ol}{K:NR}(G:Nh)(n:Nat):ni P w K x (ZD n) [G] G (λi h=>UW h G ((n:Int)-1+(i:Nat)*-1) ((n:Int)-(i:Nat)) (-1)) where
 mem:=by simp
 obj:=λi h D b c=>by
  cases NT.mp c;exact⟨_,D,λv z=>by
   have C:Data.fields _=Data.cell v:=z;cases C⟩
 keep:=λi h M D k=>k G (by simp) _ D
 item:=by
  intro X g j l m i a s A H E I f D p;subst g j l;obtain⟨q,f1,f2,r,u,y⟩:=f G (by simp);refine(Walks.range (prog:=X.p) (w:=X.w) (I.ok.hd m) G ((n:Int)-1) (-1) n).item i s _ _ p D λv M B F d J=>?_;obtain⟨t,rfl⟩:=F;have L:bt X a A H {s with heap:=M,toks:=B}:=I.turned (λb o c e=>J b o (by simpa using c) e) q f1 r u y;exact⟨_,rfl,tB (s:={s with heap:=M,toks:=B}) (n:="range_iterator") d rfl rfl (by decide) ⟨.n ((n:Int)-1-i),H,L,⟨t,by rw[show(n:Int)-1+(i:Int)*-1=(n:Int)-1-i by lia]⟩,⟨rfl,rfl⟩,d,λb c=>(f b c).1⟩⟩
 done:=by
  intro X g j l m i a s A H E I f D p;subst g j l;obtain⟨q,f1,f2,r,u,y⟩:=f G (by simp);exact Yo (I.ok.hd m) D (by have:n<=i:=p;lia) λM N=>⟨rfl,I.turned (t':=s.toks) (λb o c e=>N b o c e) q f1 r u y⟩
 self:=λ_ _ _ _ _ D h=>UM D h
section
variable{X:Cx}{E:a0t}{K:NR}{B:Expr}
def MV(a:TA):TI:=λb H R=>a b H λw c=>∃j:Int,w=[.n j]/\0<=j/\j<2^62/\R (ZD j.toNat) c
theorem AG{p w p2 f:SA}(g:Gl X "reversed")(i:X.mg "reversed"=Na)(r:Gl X "range")(D:X.mg "range"=Na)(E:PA X [a] z)(G:NL [a] X.e=[(Ni,OQ a X.e)]:=by rfl)
  (k:NL [.Call (.Name "range" p) [a] [] w] X.e=[(Ni,OQ (.Call (.Name "range" p) [a] [] w) X.e)]:=by rfl):PI X B (.Call (.Name "reversed" p2) [.Call (.Name "range" p) [a] [] w] [] f) (MV z):=by
 intro c s m H R I h;refine Call_ (fX I g i Boot.«reversed» (OZ ?_ k rfl));refine Xj (Call_ (fX I r D WR (OZ (dt (E w c s m H _ I h) λS d v=>?_) G rfl)));obtain⟨V,n,y,K,j,rfl,M,P,q⟩:=v;obtain⟨u,rfl,t,rfl⟩:=jo K;refine call_range_1 (XG (E5 (Wq ..) M P (UM (x:=j-1) (left:=j) (step:=-1) (NE _ rfl) ?_)));have l:bt X c m n {d with heap:=d.heap.push {cls:= .type "range",data:= .fields #[.int 0 d.toks,.int j t,.int 1 (d.toks+1)]},toks:=d.toks+1+1}:=y.kept λb o e=>Nd _ e;refine⟨_,[_],_,_,n,rfl,l.kept (t':=d.toks+1+1) λb o e=>Nd _ e,ng _ j.toNat,?_,λb A=>?_,q⟩
 .show UW _ _ (((j.toNat:Nat):Int)-1+((0:Nat):Int)*-1) (((j.toNat:Nat):Int)-((0:Nat):Int)) (-1)
  rw[show((j.toNat:Nat):Int)-1+((0:Nat):Int)*-1=j-1 by lia,show((j.toNat:Nat):Int)-((0:Nat):Int)=j by lia];exact NE _ rfl
 .cases NT.mp A
  exact l.fpOk (No _) (l.hok.fresh (No _))
noncomputable def dO(n:Nat):a0b:=(Nr n).map λ(i:Nat)=> .n ((n:Int)-1-i)
theorem pS:ux K (ZD n) F H (dO n):=λe f B t fr i=>by
 refine⟨λd w=>?_,λa=>?_⟩
 .unfold dO at w
  have a:i<n:=by
   have:=(Nn.mp w).1;simpa using this
  rw[Nl,Oq a]at w;cases w;exact⟨a,λx g ⟨b,c⟩=>by subst b c;exact⟨bT.refl _,rfl⟩⟩
 .show n<=i
  rw[a];simp[dO]
def sV:a0b->a0z
 |[.n j]=>if(decide (0<=j)&&decide (j<2^62))=Nf then My (dO j.toNat)else Na
 |_=>Na
theorem EO{p w p2 b:SA}(c:Gl X "reversed")(d:X.mg "reversed"=Na)(m:Gl X "range")(D:X.mg "range"=Na)(G:PA X [a] (hO X.K g E))(M:NL [a] X.e=[(Ni,OQ a X.e)]:=by rfl)
  (f:NL [.Call (.Name "range" p) [a] [] w] X.e=[(Ni,OQ (.Call (.Name "range" p) [a] [] w) X.e)]:=by rfl):PI X B (.Call (.Name "reversed" p2) [.Call (.Name "range" p) [a] [] w] [] b) (iV X.K (cL sV g) E):=
 (AG c d m D G M f).imp λr H R i=>i_ i λF P S fr n h=>⟨F,P,S,fr,n,(run.bind (R:=aj X.K F) h).mono λx o i=>by
  obtain⟨y,V,t,s,u⟩:=i;obtain⟨l,e,k⟩:=run.h0 u;unfold sV at e;split at e
  .split at e
   .rename_i j
    cases e;simp only[N5,Og]at j;obtain⟨v,rfl,q⟩:=aj.h0 s;cases q.int;exact⟨_,rfl,j.1,j.2,k _ o (To.refl t.fr) pS⟩
   .cases e
  .cases e⟩
variable{e m:Expr}{z tm:TE}{L p2:SA}
theorem D7(a:a0g):X4 a.toArray Na Na (My (-1))=a.reverse.toArray:=by
 have b:RN Na Na (My (-1)) a.toArray.size=((SW a:Int)-1,-1,-1):=by simp[RN]
 unfold X4;rw[b];refine Ou _ ?_;have c:sliceRange ((SW a:Int)-1) (-1) (-1)=(Nr (SW a)).map λk=>SW a-1-k:=by
  unfold sliceRange;have d:(if(-1:Int)>0 then(if(SW a:Int)-1< -1 then(-1-((SW a:Int)-1)+-1-1)/ -1 else 0)else(if(SW a:Int)-1>-1 then((SW a:Int)-1- -1- -1-1)/(- -1)else 0)).toNat=SW a:=by
   rw[Nv (by decide)];split
   .rw[show(- -1:Int)=1 by decide,Int.ediv_one];lia
   .lia
  simp only[d];exact Od λk _=>by lia
 show(sliceRange ((SW a:Int)-1) (-1) (-1)).filterMap _=_;rw[c,XM];rcases a with _|⟨x,r⟩
 .rfl
 generalize j:x::r=a;rw[vF (g:=λk=>a.getD (SW a-1-k) x) λk f=>by
  have:k<SW a:=NS.mp f;simp only[Uz,Ux];rw[NA,Ng (by lia)];rfl]
 refine Ry (by simp) λi h l=>?_;have n:i<SW a:=by simpa using h
 rw[Rz,TC,Xc,NA,Ng (by lia)];rfl
def ZL(K:NR)(z tm:TE):TE:=λc H Q=>z c H λx d=>tm c d λy b=>∃a e,x= .r a/\y= .n (-1)/\d_ K b a e/\∀p,b p=Na->Q (.r p) (upd b p (.l e.reverse))
theorem JJ(l:PE X e z)(E:PE X m tm):PE X (.Subscript e (.Slice Na Na (My m) p2) L) (ZL X.K z tm):=by
 intro c s f H Q I h;refine Subscript_ (dt (l c s f H _ I h) λv n o=>?_);obtain⟨x,p,r,G,M⟩:=o;refine wpAny_Slice ?_;rw[XA];refine Nb (Nb ?_);rw[evalPart_some];refine dt (E c n f p _ r M) λu d B=>?_;obtain⟨y,C,g,F,a,P,rfl,rfl,S,q⟩:=B;cases G;obtain⟨t,rfl⟩:=F;obtain⟨its,i,D,j⟩:=g.list S;have k:bt X c f C {d with heap:=d.heap.push {cls:= .type "slice",data:= .fields #[.none,.none,.int (-1) t]}}:=g.kept (t':=d.toks) λb J q=>Nd _ q;show ND (N0 X.p X.w) X.A (XD e (.Slice Na Na (My m) p2) (.ref a) (.ref d.heap.objs.size)) (EP X c f Q) X.xe {d with heap:=d.heap.push {cls:= .type "slice",data:= .fields #[.none,.none,.int (-1) t]}};refine tail_any (ops:=[.ref a,.ref d.heap.objs.size]) (D.isList.push _).typeIs slot_list_getitem.lookup (XE (D.isList.push _) (Vx ..) .none .none (.int (-1) t) (by simp) ?_ (by rw[NM,<-i.length];exact j)) (by with_unfolding_all rfl)
 rw[D7];exact⟨.r _,_,k.lnew (t':=d.toks) (its:=its.reverse) (ys:=P.reverse) i.reverse (by rw[S8];exact j),rfl,q _ (k.hok.fresh (No _))⟩
noncomputable def Jw:D->D->a0l
 | .l ds,.n (-1)=>My (.l ds.reverse)
 |_,_=>Na
theorem aj.reverse:∀{m:a0b} {e:a0k},aj K F H m e->aj K F H m.reverse e.reverse
 |[],e,h=>by have q:e=[]:=h;subst q;exact aj.f5
 |d::m,e,h=>by
  obtain⟨x,r,rfl,a,b⟩:=h;rw[T3,T3];exact aj.append (aj.reverse b) (aj.cons a aj.f5)
theorem L5(n:PE X e (tV X.K f E))(D:PE X m (tV X.K g E)):PE X (.Subscript e (.Slice Na Na (My m) p2) L) (tV X.K (f2 Jw f g) E):=
 (JJ n D).imp λr H Q b=>i_ b λF B G fr j h=>⟨F,B,G,fr,j,(run.bind (R:=bc X.K F) h).mono λv u b=>ot b λd w t M P=>⟨F,B,w,t.fr,j.tr (t.tr fr),(run.bind (R:=bc X.K F) P).mono λy A b=>ot b λx S t2 i o=>by
  obtain⟨z,c,k⟩:=run.h0 o;unfold Jw at c;split at c
  .cases c
   obtain⟨a,V,rfl,s,q⟩:=bc.h0 (bc.tr (t2.tr t.fr) _ _ M);cases i.int;exact⟨a,V,rfl,rfl,s,λp l=>k _ _ (t2.fr.upd _ l) (bc.k4 t2.fr l (aj.reverse q))⟩
  .cases c⟩⟩
end
end L2.Pu
namespace L2.Pu
theorem YC{A:Ot}(a:dr k A):A.units+2<Tv:=Oj (Tp (by decide:2<=64) _) a.units
open L2.Hs
section
variable{X:Cx}{E:a0t}{ke ve bb aa:Expr}{ad:List Expr}{ab:a0Q}{P:Scope}{ac:SA}{Nc b_:a0j}{br:a0a}{g:TG}{tb:a0Z}
theorem HG{kb:Bool}{b d:SA}(y:X.N.Nodup)(k:X.N[i]?=My x)(K:xl X.e.scope x)(B:X.calm=Nf)(S:cp X P Nc b_ br)(F:PI X bb aa wi)
  (L:∀(E:a0n) (C:Nh) (j:a0r) (s:Nq) (H:Hp),PG (aM X Nc P E C j s H) bb g/\d9 (aM X Nc P E C j s H) ad tt/\∀D,PB (aM X Nc P E C j s H) (.D ke ve) (⟨bb,aa,ad,0⟩::ab) P ac 0 D (tb D))
  (l:Tg (.DictComp ke ve (⟨bb,aa,ad,0⟩::ab) P ac) (My (.Name x b)) d.line X.e=P3 Nf:=by rfl)
  (M:∀x,OD aa X.e x=P3 x:=by intro _;rfl) (O:b0d X x:=by first|exact .inl rfl|exact .inr rfl|assumption):
  PS X (.Assign [.Name x b] (.DictComp ke ve (⟨bb,aa,ad,0⟩::ab) P ac) d) (gm (lj (λD=>cU D kb 0 []) b_ br wi λD J=>dh J g tt (tb D)) (dQ i)):=by
 intro f s R H D I h;rw[exec_Assign_Name_used _ _ _ _ l];refine M8 (Qk (M8 ?_));show ND _ X.A (do let _ <-comprehension (.DictComp ke ve (⟨bb,aa,ad,0⟩::ab) P ac) P X.e _ newDict Ni (OQ aa X.e) (My (TR (.Name x b) X.e))) _ _ s
 refine M8 (OL (Q0 (use:=My (TR (.Name x b) X.e)) (Q:=λ_ s'=>SP X f D .next s') rfl M (S.clo I.ok) S.kind S.h0
  (OL (F f s R H _ I h) (λv s1 U=>OL U (λW Y n=>?_) λ_ _ e=>e) λ_ _ e=>e)) (λ_ s' Z=>Nb (Nb Z)) λ_ _ e=>e)
 obtain⟨it,j,tn,J,H2,e,o,T,p,f2,q⟩:=n;subst e;refine ig (c:= .D ke ve) oi (RR:=λG C=>WU (N0 X.p X.w) X.A X.xe (My (TR (.Name x b) X.e)) _ G C) B S L o T p f2 q λA C s' V m I' ns r q'=>?_;show ND _ X.A (TR (.Name x b) X.e (.ref A)) _ _ s';refine VR (lz I' y k K (v:= .r A) rfl (λY o n=>?_) O);obtain⟨a,sb,ha⟩:=n;have t:C≠a:=by
  rcases ha with rfl|ha
  .exact r.2.1
  .exact λz=>r.2.2.2.1 x a ha z.symm
 exact⟨m,ns.sameBut sb t,λh' u=>⟨_,V,o.letgo r u,q'⟩⟩
theorem zP{kb:Bool}{a c:SA}(j:X.N.Nodup)(d:X.N[i]?=My x)(G:xl X.e.scope x)(k:X.calm=Nf)(S:cp X P Nc b_ br)(l:PI X bb aa (iV X.K u E))
  (m:∀(w:a0n) (C:Nh) (f:a0r) (s:Nq) (H:Hp),PG (aM X Nc P w C f s H) bb g/\d9 (aM X Nc P w C f s H) ad (hL X.K v E0)/\∀D,PB (aM X Nc P w C f s H) (.D ke ve) (⟨bb,aa,ad,0⟩::ab) P ac 0 D (tb D))
  (n:cQ X.K g t) (o:d7 t) (p:∀D,fj X.K (RD X.K kb) D (tb D) b)
  (e:Tg (.DictComp ke ve (⟨bb,aa,ad,0⟩::ab) P ac) (My (.Name x a)) c.line X.e=P3 Nf:=by rfl)
  (M:∀x,OD aa X.e x=P3 x:=by intro _;rfl) (q:b0d X x:=by first|exact .inl rfl|exact .inr rfl|assumption):
  PS X (.Assign [.Name x a] (.DictComp ke ve (⟨bb,aa,ad,0⟩::ab) P ac) c) (tG X.K X.H₀ (gA i (ic (SW b_) br u t v b (kQ kb))) E):=
 aK ((HG (kb:=kb) j d G k S l m e M q).imp λD r H h=>vO n o p h)
theorem L6{X:Cx}{E:a0t}{f g:FD}{ac:SA}(w:PE X e1 (tV X.K f E))(a:PE X e2 (tV X.K g E))(D:rf e2:=by exact λ_ _=>rfl):PE X (.Subscript e1 e2 ac) (tV X.K (f2 hU f g) E):=bn aD bq w a D
end
end L2.Pu
namespace L2.Hs
section
variable{X:Cx}
end
end L2.Hs
namespace L2.Pu
open L2.Hs
section
variable{K:NR}
end
end L2.Pu
namespace L2.Pu
section
variable{X:Cx}{E:a0t}{K:NR}{f:O0}{a:Hp}{B:Ow}{g:a0m}{H h:Hp}{d:Ds}{e b:Bg}{c:St}
end
end L2.Pu
namespace L2.Pu
open PySem.SeqAt
open PySem.AutoSeq1 (wpAny_loadPart')
open PySem.MeetsSeq PySem.MeetsSeq2 PySem.MeetsSeq3
end L2.Pu
namespace L2.Hs
section
variable{X:Cx}
def I0(b:Bool):TE:=λ_ H Q=>∀D,H D=Na->Q (.r D) (upd H D (cU D b 0 []))
theorem n9{b:Bool}:PE X (.Dict [] [] f) (I0 b):=by
 intro a s c H Q I h;rw[arm_eval_Dict];refine M8 (Qk ?_);show ND _ _ newDict _ _ _;exact oi a s c H _ _ I λe d _=>⟨.r _,_,d,rfl,h _ (I.hok.fresh (No _))⟩
def vr(xs:a0p)(k:dv)(c:Nh)(v:V):a0p:=if(uX xs k).isSome then xs.map (λx=>if x.1=k then(x.1,x.2.1,v)else x)else xs++[(k,c,v)]
theorem za(h:∀x y,XY x y->XY (f x) (g y)):∀{w:a0p} {D:a0B},TM XY w D->TM XY (w.map f) (D.map g)
 |_,_,.nil=> .nil
 |_,_,.cons a t=> .cons (h _ _ a) (za h t)
theorem DI(p:TM XY b d)(r:aS v u):TM XY (vr b k c v) (storedH d k c u):=by
 have f:=qu (k:=k) p;unfold vr;cases e:XW d k with
 |none=>
  rw[e]at f;cases q:uX b k with
  |some w=>rw[q]at f;exact f.elim
  |none=>
   rw[storedH_new e];exact qt ⟨rfl,rfl,r⟩ p
 |some w=>
  rw[e]at f;cases q:uX b k with
  |none=>rw[q]at f;exact f.elim
  |some a=>
   rw[storedH_old e];refine za (λx y h=>?_) p;unfold putAt;rw[<-h.1];by_cases z:x.1=k
   .rw[Nu z,Nu z];exact⟨rfl,h.2.1,r⟩
   .rw[Nv z,Nv z];exact h
theorem Ho(w:a0p)(k:dv)(c:Nh)(v:V):SW (vr w k c v)<=SW w+1:=by
 unfold vr;split
 .rw[M9];lia
 .simp
def GH(K:NR):V->V->V->Hp->(Hp->Prop)->Prop:=λo i v H Q=>∃a b D w k c,o= .r a/\i= .r c/\H a=My (cU a b D w)/\(∀x∈w,E_ K H b x.1 x.2.1)/\E_ K H b k c/\SW w<NN/\∀d,Q (upd H a (cU a b d (vr w k c v)))
theorem kn(r:X.A.units+2<Tv):Gc X (GH X.K):=by
 intro j s U H o i v W Y u Q I t y B h;obtain⟨a,b,P,D,k,c,rfl,rfl,l,C,F,Z,q⟩:=h;cases t;cases y;obtain⟨S,J,p,L,f⟩:=qf I l C;refine wpAny_setItem_heap (qO r) (pQ I F) J (λV E G=>?_) L;have w:=DI (k:=k) (c:=c) p B;obtain⟨o,M,g,m,N,O,R,x,T⟩:=E;have d:=Ou SW (jM w);rw[M9,M9]at d;have:=Ho D k c v;exact⟨_,I.write (by rw[l];trivial) (.inl rfl) (λb u n e=>(G.2 b n).trans e) ⟨o,m⟩ (qY ⟨o,M,_,m,N,O,by rw[R];unfold entryOfKey;rw[qP],T,f,by lia,w⟩),q g⟩
end
end L2.Hs
namespace L2.Pu
open L2.Hs
def z_(a:a0H)(k:dv):a0H:=if k∈a then a else a++[k]
def YA(a:a0H)(w:a0b)(k:dv)(d:D):a0b:=if k∈a then(a.zip w).map (λp=>if p.1=k then d else p.2)else w++[d]
section
variable{K:NR}{F:Fx}{H:Hp}
theorem qK:∀{xs:a0p},(uX xs k).isSome=decide (k∈xs.map (·.1))
 |[]=>by simp[uX]
 |x::xs=>by
  have w:=qK (k:=k) (xs:=xs);unfold uX at w⊢;rw[Rb];by_cases q:x.1=k
  .rw[NF q];simp[q]
  .rw[Oo q]
   dsimp only
   rw[w];exact decide_eq_decide.mpr (by rw[NI,NC];exact⟨.inr,λz=>z.resolve_left λy=>q y.symm⟩)
theorem DU{w:a0p}:(vr w k c v).map (·.1)=z_ (w.map (·.1)) k:=by
 unfold vr z_;rw[qK];by_cases q:k∈w.map (·.1)
 .rw[Nu (NF q),Nu q,Nx]
  refine Od λx _=>?_;show(if x.1=k then(x.1,x.2.1,v)else x).1=x.1;split<;>rfl
 .rw[Nv (λz=>q (OR z)),Nv q,NV];rfl
theorem Hq{xs:a0p}(D:bc K F H d v)(h:aj K F H f (xs.map (·.2.2))):aj K F H (YA (xs.map (·.1)) f k d) ((vr xs k c v).map (·.2.2)):=by
 unfold vr YA;rw[qK];by_cases q:k∈xs.map (·.1)
 .rw[Nu (NF q),Nu q]
  clear q
  induction xs generalizing f with
  |nil=>exact aj.f5
  |cons x xs E=>
   cases f with
   |nil=>cases h
   |cons w f=>
    obtain⟨u,r,e,a,b⟩:=h;rw[NI,QX]at e;obtain⟨rfl,rfl⟩:=e;refine aj.cons (xs:=((xs.map λx=>if x.1=k then(x.1,x.2.1,v)else x).map (·.2.2))) ?_ (E b);show bc K F H (if x.1=k then d else w) (if x.1=k then(x.1,x.2.1,v)else x).2.2;by_cases z:x.1=k
    .rw[Nu z,Nu z];exact D
    .rw[Nv z,Nv z];exact a
 .rw[Nv (λz=>q (OR z)),Nv q,NV]
  exact aj.append h (aj.cons D aj.f5)
theorem Je{b:Bool}(a:∀x∈e,fQ K F H b x.1 x.2.1)(d:fQ K F H b k c):∀x∈vr e k c v,fQ K F H b x.1 x.2.1:=λx w=>by
 unfold vr at w;split at w
 .obtain⟨y,hy,rfl⟩:=Nm.mp w
  split
  .exact a y hy
  .exact a y hy
 .rcases N4.mp w with h|h
  .exact a x h
  .cases NT.mp h
   exact d
variable{X:Cx}{E:a0t}{z:O0}
def Kw(i:Nat)(b:Bool):G:=λw z=>My (.nx (w.set i (My (.odc b [] []))),z)
theorem GA{b:Bool}(h:PS X z (gm (I0 b) (dQ i))):PS X z (tG X.K X.H₀ (Kw i b) E):=h.imp λD j H c=>by
 obtain⟨B,F,G,M,o,d,ok,e,q⟩:=c;cases e;intro p f;obtain⟨k,a,g⟩:=ok.newAt (i:=i) (sl:= .odc b [] []) (u:=cU p b 0 []) f (.inr ⟨_,aw⟩) λe _=>⟨p,rfl,e,0,[],aw,rfl,(λx w=>by cases w),aj.f5⟩;exact q _ _ _ g a
def p8(i:Nat)(a c:FD):G:=λw z=>match c (fh w) z with
 |some (.ok d,β1)=>match a (fh w) β1 with
  |some (.ok kd,β2)=>match w.getD i Na with
   |some (.odc b ks vs)=>match jL b kd with
    |some k=>if(noL d&&decide (SW ks<NN))=Nf then My (.nx (w.set i (My (.odc b (z_ ks k) (YA ks vs k d)))),β2)else Na
    |none=>Na
   |_=>Na
  |_=>Na
 |some (.error C,β1)=>My (.ex C w,β1)
 |none=>Na
theorem uK(h:PS X z (gm (tV X.K fv E) (EW (gH i) (tV X.K fk E) (GH X.K)))):PS X z (tG X.K X.H₀ (p8 i fk fv) E):=h.imp λD σ H Q=>by
 obtain⟨B,M,P,S,o,R,ok,e,q⟩:=Q;refine⟨o1 B M,fh P,S,ok.h0,ok.f5,?_⟩;unfold p8 at e;split at e
 .rename_i d β1 p
  refine⟨.ok d,_,p,λv H1 t V=>?_⟩;obtain⟨g,T⟩:=ok.to rfl t;split at e
  .rename_i kd β2 U
   split at e
   .rename_i b ks vs L
    split at e
    .rename_i k W
     split at e
     .rename_i hn
      cases e;rw[N5,Og]at hn;obtain⟨w,r,a,rfl,hB,h2⟩:=g.tell i _ (a2a L);refine⟨_,r,o1 B M,fh P,β1,g.h0,g.f5,.ok kd,_,U,λkv H2 t2 y=>?_⟩;obtain⟨j,n⟩:=g.to rfl t2;obtain⟨_,l,a',Y,Z,ep,F,hD,A,N,dl⟩:=j.tell i _ (a2a L);rw[r]at l;cases l;cases Y;obtain⟨hz,rfl⟩:=vn W;have nk:noL (dK b k)=Nf:=by
       cases b with
       |true=>show(Nf&&(noLs (k.2.map Pu.D.n)&&Nf))=Nf;rw[gf];rfl
       |false=>exact gf k.2
      obtain⟨c,rfl,O⟩:=yw hz (j.noB nk y);have I:=bc.tr n.tr _ _ (g.noB hn.1 V);subst A;refine⟨a,b,ep,F,k,c,rfl,rfl,hD,λx G=>(N x G).s,O.s,by rw[<-M9 (f:=(·.1))];exact hn.2,λm=>?_⟩;obtain⟨J,s3⟩:=j.writeAt (sl:= .odc b (z_ (F.map (·.1)) k) (YA (F.map (·.1)) vs k d)) (u:=cU a b m (vr F k c v)) r hB (.inr ⟨_,aw⟩) λt=>⟨a,rfl,hB,m,_,aw,DU.symm,Je (λx G=>(N x G).tr t) (O.tr t),Hq (bc.tr t _ _ I) (aj.tr t _ _ dl)⟩;exact q _ B _ ((T.trans n).trans s3) J
     .cases e
    .cases e
   .cases e
  .cases e
 .rename_i C β1 p
  cases e;refine⟨.error C,_,p,λH' t=>?_⟩;obtain⟨j,n⟩:=ok.to rfl t;exact q _ B H' n j
 .cases e
def uq:a0b->a0l
 |[.dct Ni ks _]=>if SW ks<64 then gn (ks.map λk=>hE k.2)else Na
 |_=>Na
theorem BM{K:NR}:dT K (nZ K) uq:=λF H S Q V d X fr h e k=>by
 unfold uq at e;split at e
 .rename_i r t
  obtain⟨v,rfl,c⟩:=aj.h0 h;unfold bc at c;obtain⟨a,P,G,rfl,i,rfl,f,u⟩:=c;split at e
  .rename_i hn
   rw[M9]at hn;obtain⟨g,s,rfl⟩:=jp e;have M:∀x∈G,x.1.2∈g:=λx w=>by
    obtain⟨l,b,e⟩:=s.2.2.2 (hE x.1.2) (Nm.mpr ⟨x.1,Nm.mpr ⟨x,w,rfl⟩,rfl⟩);rw[fm e];exact b
   refine⟨a,Ni,P,G,rfl,i.2,λx w=>⟨(f x w).s,(s.2.2.1 _ (M x w)).1⟩,by lia,λl j b D m=>?_⟩;have n:g=j.map (·.1):=mE s.1 m λy=>by
    refine⟨λE=>?_,λE=>?_⟩
    .obtain⟨q,o,e⟩:=Nm.mp (s.2.2.1 y E).2
     obtain⟨x,w,rfl⟩:=Nm.mp o;refine(D.map (·.1)).mem_iff.mpr ?_;rw[Nx];exact Nm.mpr ⟨x,w,fm e⟩
    .have:=(D.map (·.1)).mem_iff.mp E
     rw[Nx]at this;obtain⟨x,w,rfl⟩:=Nm.mp this;exact M x w
   rw[n]at k;refine k _ _ (fr.upd _ b) (bc.k4 fr b (me λz p=>?_));obtain⟨x,w,rfl⟩:=Nm.mp (D.mem_iff.mp p);exact yc (f x w)
  .cases e
 .cases e
end
end L2.Pu
namespace L2.Pu
section
variable{X:Cx}
end
end L2.Pu
namespace L2.Pu
open L2.Hs
section
variable{X:Cx}{E:a0t}{K:NR}{w:Expr}
def MS(a:TA):TI:=λb H R=>a b H λw c=>∃j:Int,w=[.n j,.n (-1),.n (-1)]/\-1<=j/\j<2^62/\R (ZD (j+1).toNat) c
theorem AH(n:Gl X "range")(D:X.mg "range"=Na)(E:PA X [a,b,c] z)(G:NL [a,b,c] X.e=[(Ni,OQ a X.e),(Ni,OQ b X.e),(Ni,OQ c X.e)]:=by rfl)(f:NL [b,c] X.e=[(Ni,OQ b X.e),(Ni,OQ c X.e)]:=by rfl):
  PI X w (.Call (.Name "range" p) [a,b,c] [] x) (MS z):=by
 intro d s l H R I h;refine Call_ (fX I n D WR (OZ (dt (E x d s l H _ I h) λP i u=>?_) (by rw[G,f]) (by rw[f];rfl)));obtain⟨S,m,v,K,j,rfl,V,M,q⟩:=u;cases K with
 |cons r g=>cases g with
  |cons y g=>cases g with
   |cons A g=>
    cases g;obtain⟨t,rfl⟩:=r;obtain⟨t',rfl⟩:=y;obtain⟨t2,rfl⟩:=A;refine call_range_3 (by decide) (wpAny_pyIter_range (Wq ..) (PySem.W.small_down (by lia) M (by decide) (by decide)) ?_);have k:bt X d l m {i with heap:=i.heap.push {cls:= .type "range",data:= .fields #[.int j t,.int (-1) t',.int (-1) t2]}}:=v.kept (t':=i.toks) λb o e=>Nd _ e;refine⟨_,[_],_,_,m,rfl,k.kept (t':=i.toks) λb o e=>Nd _ e,ng _ (j+1).toNat,?_,λb B=>?_,q⟩
    .show UW _ _ ((((j+1).toNat:Nat):Int)-1+((0:Nat):Int)*-1) ((((j+1).toNat:Nat):Int)-((0:Nat):Int)) (-1)
     have C:(((j+1).toNat:Nat):Int)-1+((0:Nat):Int)*-1=j:=by lia
     have F:(((j+1).toNat:Nat):Int)-((0:Nat):Int)=S6 j (-1) (-1):=by
      rw[PySem.W.rangeSize_downNat];lia
     rw[C,F];exact NE _ rfl
    .cases NT.mp B
     exact k.fpOk (No _) (k.hok.fresh (No _))
def Js:a0b->a0z
 |[.n j,.n (-1),.n (-1)]=>if(decide (-1<=j)&&decide (j<2^62))=Nf then My (dO (j+1).toNat)else Na
 |_=>Na
theorem EQ(j:Gl X "range")(D:X.mg "range"=Na)(G:PA X [a,b,c] (hO X.K g E))(M:NL [a,b,c] X.e=[(Ni,OQ a X.e),(Ni,OQ b X.e),(Ni,OQ c X.e)]:=by rfl)(d:NL [b,c] X.e=[(Ni,OQ b X.e),(Ni,OQ c X.e)]:=by rfl):PI X w (.Call (.Name "range" p) [a,b,c] [] z) (iV X.K (cL Js g) E):=
 (AH j D G M d).imp λA H R f=>i_ f λF P S fr m h=>⟨F,P,S,fr,m,(run.bind (R:=aj X.K F) h).mono λI n f=>by
  obtain⟨J,V,t,s,x⟩:=f;obtain⟨l,e,k⟩:=run.h0 x;unfold Js at e;split at e
  .split at e
   .rename_i i
    cases e;simp only[N5,Og]at i;obtain⟨v,r,rfl,o,q⟩:=s;obtain⟨B,C,rfl,u,y⟩:=aj.o8 q;cases o.int;cases u.int;cases y.int;exact⟨_,rfl,i.1,i.2,k _ n (To.refl t.fr) pS⟩
   .cases e
  .cases e⟩
end
end L2.Pu
namespace L2.Pu
section
variable{P:N9}{w:Ol}{K:NR}{v:a0i}{q:OO}
variable{X:Cx}{E:a0t}{o e c:Expr}{x:List Expr}{s l:SA}{m:Oi}{k n:Nat}{f C:Nh}{u:N1}{q:a0j}{a r:a0T}{t:a0s}{g h:FL}
def Kl(i j:Nat):Ds->M a0b:=λa=>match a.getD i Na,a.getD j Na with
 |some (.u ds),My (.h d)=>M.f ((hU (.l ds) d).bind dE)
 |_,_=>M.o8
theorem Jn{g:G}(l:kU X.K O T)(h:PS X (.For Q z body [] s) (xL (Kk X.K (O2 (qC X.K) (gH i) (gH j))) O (tG X.K X.H₀ g E))):PS X (.For Q z body [] s) (tG X.K X.H₀ (m3 (Kl i j) T g) E):=zS (λ{B C H M P N R} f r=>by
 unfold Kl at r;split at r
 .rename_i ds d b p
  obtain⟨x,e,k⟩:=run.h0 r;obtain⟨v,u,a,D,rfl,_,y,A⟩:=f.tell i _ (a2a b);obtain⟨w,F,I⟩:=f.tell j _ (a2a p);cases d<;>first|cases e|skip
  rename_i n;cases(show bc X.K (dy B C) H (.n n) w from I).int;cases q:la ds n with
  |none=>rw[show hU (.l ds) (.n n)=la ds n from rfl,q]at e;cases e
  |some c=>
   rw[show hU (.l ds) (.n n)=la ds n from rfl,q]at e;obtain⟨v,J,m⟩:=qp A q;refine⟨_,u,_,F,a,D,n,v,rfl,rfl,d_.of y,J,?_⟩;cases c<;>first
    |(cases e;obtain⟨a,o,rfl,t,L⟩:=bc.h0 m;exact .inl ⟨a,rfl,⟨o,t⟩,k _ H (To.refl f.fr) (vt m)⟩)
    |(cases e;obtain⟨a,o,rfl,t,L⟩:=bc.f5 m;exact .inr ⟨a,rfl,⟨o,t⟩,k _ H (To.refl f.fr) (wZ m)⟩)
    |cases e
 .obtain⟨_,_,e,_⟩:=r
  cases e) l h
variable{c:O0}
def th(i:Nat)(a:Ds):Ds:=match a.getD i Na with
 |some (.grd ac)=>a.set i (My (.u (ac.map D.l)))
 |_=>a
def thG(i:Nat)(g:G):G:=λa c=>g (th i a) c
theorem eg.thaw(i:Nat)(e:eg K H₀ B I H J L N):∃b,eg K H₀ b I H (th i J) L N/\f0 B H b H:=by
 unfold th;split
 .rename_i ac j
  obtain⟨v,l,a,f,p,q,u,g,d⟩:=e.tell i _ (a2a j);exact e.letGo (·∈f) (λc z=>(d.all c z).1) l λy A h=>⟨a,f.map V.r,p,(A a (OE.mp g).1).trans q,u,bA.den h d λr F _ z=>z (y r F)⟩
 .exact⟨B,e,f0.refl B H⟩
theorem Jk{g:G}(i:Nat)(h:PSs X r (tG X.K X.H₀ g E)):PSs X r (tG X.K X.H₀ (thG i g) E):=h.imp λD p H j=>by
 obtain⟨B,a,c,f,o,b,ok,e,q⟩:=j;obtain⟨l,d,s⟩:=ok.thaw i;exact⟨l,a,th i c,f,o,b,d,e,g9.pre s q⟩
def tH(i:Nat)(f:FL):G:=λa c=>match a.getD i Na with
 |some (.u cs)=>match f (vw a) c with
  |some (.ok [.n k],β1)=>match i4 (SW cs) k with
   |some j=>if SW cs<=NN then My (.nx (a.set i (My (.u (cs.eraseIdx j)))),β1)else Na
   |none=>Na
  |_=>Na
 |_=>Na
theorem Jm{f:FL}(h:PS X c (oV (Ze X.K "list" z7 (gH i) (hO X.K f E)))):PS X c (tG X.K X.H₀ (tH i f) E):=h.imp λD V H J=>by
 obtain⟨B,g,m,n,o,L,ok,e,q⟩:=J;unfold tH at e;split at e
 case h_2=>cases e
 rename_i s I;split at e
 case h_2=>cases e
 rename_i k x N;split at e
 case h_2=>cases e
 rename_i j O;split at e
 case isFalse=>cases e
 rename_i z;cases e;obtain⟨v,y,a,C,rfl,Q,R,e4⟩:=ok.tell i _ (a2a I);refine⟨_,y,.inl ⟨rfl,C,d_.of R⟩,dy B g,vw m,n,ok.fr,ok.view,?_⟩;refine⟨.ok [.n k],_,N,λvs H' t G=>?_⟩;obtain⟨d,T⟩:=ok.to rfl t;obtain⟨u,rfl,U⟩:=aj.h0 G;cases U;obtain⟨v',l,a',p,A,W,r,b⟩:=d.tell i _ (a2a I);rw[y]at l;cases l;cases A;obtain⟨Y,Z,z3,z4⟩:=qQ O;obtain⟨w,M,dw⟩:=b.get (Ng Z);have hn:=jZ;have P:=b.length;refine⟨a,p,k,j,w,rfl,rfl,r,by lia,by lia,by rw[<-P];exact Y,M,?_⟩;obtain⟨F,S⟩:=d.writeOwn (ds:=s.eraseIdx j) (xs:=p.eraseIdx j) y Q r (aj.erase j b);exact q _ _ _ (T.trans S) F
def tJ(i j:Nat):G:=λa c=>match a.getD i Na,a.getD j Na with
 |some (.u cs),My (.h (.n k))=>match la cs k with
  |some d=>if SW cs<NN then My (.nx (a.set i (My (.u (cs++[d])))),c)else Na
  |none=>Na
 |_,_=>Na
theorem Jo(h:PS X c (oV (Ze X.K "list" qE (gH i) (xM (O2 (qC X.K) (gH i) (gH j)) xK)))):PS X c (tG X.K X.H₀ (tJ i j) E):=h.imp λD U H y=>by
 obtain⟨B,g,s,t,o,A,ok,e,q⟩:=y;unfold tJ at e;split at e
 case h_2=>cases e
 rename_i m k F I;split at e
 case h_2=>cases e
 rename_i d J;split at e
 case isFalse=>cases e
 rename_i L;cases e;obtain⟨v,l,a,f,rfl,N,b,p⟩:=ok.tell i _ (a2a F);obtain⟨u,O,n⟩:=ok.tell j _ (a2a I);cases(show bc X.K (dy B g) H (.n k) u from n).int;obtain⟨w,Q,R⟩:=qp p J;refine⟨_,l,.inl ⟨rfl,f,d_.of b⟩,_,l,_,O,a,f,k,w,rfl,rfl,d_.of b,Q,a,f,w,rfl,rfl,b,by rw[<-p.length];exact L,?_⟩;obtain⟨r,T⟩:=ok.writeOwn (ds:=m++[d]) (xs:=f++[w]) l N b (aj.append p (aj.cons R aj.f5));exact q _ _ _ T r
end
end L2.Pu
namespace L2.Pu
open L2.Hs
def Yx(a w:a0H):Prop:=Up (a.map (kl Nf))/\SW w<=1000/\∀k,k∈a↔k∈w
theorem vm:∀{a b:a0H},a.map (kl Nf)=b.map (kl Nf)->a=b
 |[],[],_=>rfl
 |[],_::_,h=>by cases h
 |_::_,[],h=>by cases h
 |x::a,y::b,h=>by
  obtain⟨c,d⟩:=Rr h;rw[vm d,show x=y from Qr (Rr c).1 (Rr c).2]
theorem vj{a:a0H}:kl Nf k∈a.map (kl Nf)↔k∈a:=⟨λh=>by
 obtain⟨y,w,e⟩:=Nm.mp h;rw[show k=y from Qr (Rr e).1.symm (Rr e).2.symm];exact w,λh=>Nm.mpr ⟨k,h,rfl⟩⟩
theorem Yx.eq{c d D:a0H}(a:Yx c D)(b:Yx d D):c=d:=vm (mE a.1 b.1 λx=>⟨λh=>by
 obtain⟨y,w,rfl⟩:=Nm.mp h;exact vj.mpr ((b.2.2 y).mpr ((a.2.2 y).mp w)),λh=>by
 obtain⟨y,w,rfl⟩:=Nm.mp h;exact vj.mpr ((a.2.2 y).mpr ((b.2.2 y).mp w))⟩)
open Classical in
def oY:a0b->a0l
 |[.dct Nf ks _]=>if h:∃a,Yx a ks then My (.l (h.choose.map (dK Nf)))else Na
 |_=>Na
theorem DV{b a:a0H}(h:Yx a b):oY [.dct Nf b c]=My (.l (a.map (dK Nf))):=by
 have q:∃a,Yx a b:=⟨a,h⟩;unfold oY;simp only[Wl q];rw[q.choose_spec.eq h]
theorem sj{K:NR}{F:Fx}{H:Hp}{w:Type}{f:w->D}{g:w->Nh}:∀{a:List w},(∀z∈a,bc K F H (f z) (.r (g z)))->aj K F H (a.map f) (a.map λz=>V.r (g z))
 |[],_=>aj.f5
 |z::a,h=>aj.cons (h z Np) (sj λx E=>h x (Nk z E))
theorem BL{K:NR}:dT K (nZ K) oY:=λF H M Q P d S fr h e k=>by
 unfold oY at e;split at e
 .rename_i t u
  split at e
  .rename_i q
   cases e;have s:=q.choose_spec;generalize q.choose=ls at s k;obtain⟨v,rfl,g⟩:=aj.h0 h;unfold bc at g;obtain⟨a,G,D,rfl,n,rfl,i,A⟩:=g;refine⟨a,Nf,G,D,rfl,n.2,λx w=>⟨(i x w).s,QY (OH _)⟩,by have:=s.2.1;rw[M9]at this;exact this,λl j m E o=>?_⟩;have c:∀z∈j,∃x∈D,z=kA Nf x:=λz b=>by
    obtain⟨x,w,e⟩:=Nm.mp (E.mem_iff.mp b);exact⟨x,w,e.symm⟩
   have p:ls=j.map λz=>(z.1.headD 0,z.1.tail):=vm (by
    rw[Nx];refine(mE s.1 o λy=>?_).trans (Od λz b=>?_)
    .constructor
     .intro hy
      obtain⟨r,f,rfl⟩:=Nm.mp hy;obtain⟨x,w,rfl⟩:=Nm.mp ((s.2.2 r).mp f);exact Nm.mpr ⟨kA Nf x,E.mem_iff.mpr (Nm.mpr ⟨x,w,rfl⟩),rfl⟩
     .intro hy
      obtain⟨z,b,rfl⟩:=Nm.mp hy;obtain⟨x,w,rfl⟩:=c z b;exact vj.mpr ((s.2.2 x.1).mpr (Nm.mpr ⟨x,w,rfl⟩))
    .obtain⟨x,w,rfl⟩:=c z b
     rfl)
   rw[p,Nx]at k;refine k _ _ (fr.upd _ m) (bc.k4 fr m (sj λz b=>?_));obtain⟨x,w,rfl⟩:=c z b;exact yc (i x w)
  .cases e
 .cases e
end L2.Pu
namespace HT
open PySem.SeqAt
open PySem.AutoSeq1 (wpAny_loadPart')
open PySem.MeetsSeq PySem.MeetsSeq2 PySem.MeetsSeq3
section
variable{j:N9}{w:Ol}{A:Ot}{E:a0e}{s:Nq}
theorem getItem_tuple_all{a:a0D}{D c:a0o}(b:XJ s.heap t a)(G:s.heap.IsSliceOf k vl vu .none)(K:UV vl D)(M:UV vu c)
  (g:sIx a.size 0 D=0/\sIx a.size a.size c=a.size) (h:Q (.ref t) s):ND (N0 j w) A (VN (.ref t) (.ref k)) Q E s:=by
 obtain⟨P,d,e,i⟩:=id G;have f:s.TypeIs (.ref k) "slice":=⟨P,d,e⟩;unfold VN
 try with_reducible refine OT ?_
 first|refine M8 (Nb ?_)|skip
 refine M8 (wpAny_sequenceKey b.typeIs (by decide) ?_);refine M8 (a1e (name:=Pq "__getitem__") b.typeIs Pc
  (Of Pc b.typeIs entry_tuple_getitem ?_ (args_tuple_getitem _ _)))
 show ND _ _ (Sx (.ref t)>>=_) _ _ s;refine M8 (tupleItemsOf_ b ?_);refine M8 (SS f ?_);rw[Nu (by decide)];refine M8 (iU G K M ?_);show ND _ _ (if(((sIx a.size 0 D:Nat):Int)==0&&(1:Int)==1&&(sIx a.size a.size c-sIx a.size 0 D)==a.size)=Nf then _ else _) _ _ s;rw[Nu (by rw[g.1,g.2];simp)];refine M8 ?_;unfold Builtin.Tuple.tupleIsExact;refine M8 (SS b.typeIs (Nb ?_));rw[Nu (by decide)];exact M8 (PH (Nb ⟨_,rfl,Nb h⟩))
end
end HT
namespace L2
section
variable{X:Cx}
def ZW(K:NR):V->a0o->a0o->Hp->VK->Prop:=λx D b H Q=>∃a w,x= .r a/\f_ K H a w/\
 (HT.sIx (SW w) 0 D=0/\HT.sIx (SW w) (SW w) b=SW w->Q (.r a) H)/\(¬(HT.sIx (SW w) 0 D=0/\HT.sIx (SW w) (SW w) b=SW w)->∀p,H p=Na->Q (.r p) (upd H p (.t (jg w D b))))
theorem Hu:Zw X (ZW X.K):=by
 intro b s i H x v j k E e V Q I f G M P h;obtain⟨a,w,rfl,S,m,n⟩:=h;by_cases d:HT.sIx (SW w) 0 E=0/\HT.sIx (SW w) (SW w) e=SW w
 .cases f
  obtain⟨D,r,g,l⟩:=I.tuple S;have c:D.toArray.size=SW w:=by rw[NM];exact r.length.symm
  exact⟨"tuple",_,Pc.lookup,g.typeIs,HT.getItem_tuple_all g G M P (by rw[c];exact d) ⟨.r a,H,I,rfl,m d⟩⟩
 .exact Jg b s i H _ v j k E e V Q I f G M P ⟨a,w,rfl,S,d,n d⟩
end
end L2
namespace L2.Pu
def xS:D->a0o->a0o->a0l
 | .t xs,lo,hi=>My (.t (eE xs lo hi))
 |_,_,_=>Na
def vK(f:FD)(D a:a1c):FD:=λw=>M.v (f w) λd=>M.v (iJ D w) λl=>M.v (iJ a w) λh=>M.f (xS d l h)
theorem IA{w:a0b}{D a:a0o}(h:HT.sIx (SW w) 0 D=0/\HT.sIx (SW w) (SW w) a=SW w):eE w D a=w:=by
 unfold eE;rw[h.1,h.2,List.drop_zero,Va,OS]
theorem ug{X:Cx}{E:a0t}{M o:Option Expr}{fl q:a1c}{p2:SA}(B:PE X e (tV X.K f E))(C:re X M fl E)(I:re X o q E):PE X (.Subscript e (.Slice M o Na p2) Y) (tV X.K (vK f fl q) E):=
 (n6 Hu B C I).imp λN H Q i=>i_ i λF w P fr j r=>⟨F,w,P,fr,j,(run.bind (R:=bc X.K F) r).mono λv O ⟨d,D,t,S,V⟩=>
  ⟨F,w,D,t.fr,j.tr (t.tr fr),(run.bind (R:=λ_ (a b:a0o)=>b=a) V).mono λl T ⟨U,G,t2,m,J⟩=>
   ⟨F,w,G,t2.fr,j.tr ((t.tr fr).trans (t2.tr t.fr)),(run.bind (R:=λ_ (a b:a0o)=>b=a) J).mono λh W i=>by
    obtain⟨Z,s,t3,n,L⟩:=i;subst m n;obtain⟨c,e,k⟩:=run.h0 L;have g:=bc.tr ((t2.tr t.fr).trans (t3.tr t2.fr)) _ _ S;unfold xS at e;split at e
    .cases e
     obtain⟨a,x,rfl,z,u⟩:=bc.f5 g;refine⟨a,x,rfl,z,λy=>k _ _ (To.refl t3.fr) ?_,λ_ p A=>k _ _ (t3.fr.upd _ A) (bc.o8 t3.fr A (u.cut l h))⟩;rw[<-u.length]at y;rw[IA y];exact g
    .cases e⟩⟩⟩
end L2.Pu
set_option tactic.hygienic false
namespace Law
open L2 L2.Pu
open L2.Hs (uV pR kB n9 kn jh)
noncomputable def bw(i:Nat):O0:=PySem.Challenge.pw_edgetally_k20_net_holds_its_paper.main.body.getD i (.Pass ⟨0,0,0,0⟩)
abbrev mH:O0:=bw 63
set_option genInjectivity false in
structure Ad where
 Aa:Nh
 Ab:Nh
 Ac:N1
 Ae:Nh
 Af:Nh
 Ag:N1
 Ah:Nh
 Ai:N1
 Aj:Nh
 Ak:N1
 Am:Nh
 An:N1
 Ao:Nh
 Aq:N1
 Ar:Nh
 As:N1
 At:Nh
 Au:N1
 Av:Nh
 Aw:N1
 Ax:Nh
 Ay:N1
 Az:Nh
 A0:N1
 A1:Nh
 A2:N1
 A3:Nh
 A4:N1
 A5:Nh
 A6:N1
 A7:Nh
 A8:N1
 A9:Nh
 Ba:N1
 Bb:Nh
 Bc:N1
 Bd:Nh
 Be:N1
 Bf:Nh
 Bh:N1
 Bi:Nh
 Bj:N1
 Bk:Nh
 Bl:N1
 Bm:Nh
 Bn:N1
 Bo:Nh
 Bp:N1
 Bq:Nh
 Br:N1
 Bs:Nh
 Bt:N1
 Bu:Nh
 Bv:N1
 Bw:Nh
 Bx:N1
 By:Nh
 Bz:N1
 B0:Nh
 B4:N1
 B5:Nh
 B7:N1
 B8:Nh
 Ca:N1
 Cb:Nh
 Cc:N1
 Cd:Nh
 Cf:N1
 Cg:Nh
 Ch:N1
 Ci:Nh
 Cj:N1
 Ck:Nh
 Cl:N1
 Cn:Nh
 Co:N1
 Cp:Nh
 Cq:N1
 Cr:Nh
 Cs:N1
 Ct:Nh
 Cu:N1
 Cv:Nh
 Cw:N1
 Cy:Nh
 Cz:N1
 C0:Nh
 C2:N1
 C3:Nh
 C4:N1
 C5:Nh
 C6:N1
 C7:Nh
 C8:N1
 C9:Nh
 Da:N1
 Db:Nh
 Dc:N1
def FnL(K:NR)(mg:a0i)(a:Ad):List Prop:=[
 nc K mg "MOST" (.n 40),
 nc K mg "MOST_COLUMNS" (.n 6),
 nc K mg "MOST_ROWS" (.n 4),
 nc K mg "WIDE" (.n 500),
 io K "free" "free" (bw 13) a.Af a.Ag,
 mg "free"=My (.ref a.Af),
 kW K a.Ag ["rows","columns","pair"] [.t [.n 0,.n 40]],
 fw K mg "check_sums" (bw 14) a.Ah a.Ai ["rowsums","columnsums"],
 fw K mg "check_pair" (bw 15) a.Aj a.Ak ["pair"],
 fw K mg "settled_bounds" (bw 16) a.Am a.An ["bounds","rows","columns"],
 fw K mg "factorial" (bw 18) a.Ao a.Aq ["number"],
 fw K mg "ways" (bw 19) a.Ar a.As ["parts"],
 fw K mg "fillings" (bw 20) a.At a.Au ["rests","many","pairs"],
 fw K mg "need_of" (bw 22) a.Av a.Aw ["rowsums","over"],
 fw K mg "room_inside" (bw 23) a.Ax a.Ay ["columnsums","bounds","over","column"],
 fw K mg "room_beside" (bw 24) a.Az a.A0 ["bounds","over","column"],
 fw K mg "room_of" (bw 25) a.A1 a.A2 ["columnsums","bounds","over","into"],
 fw K mg "narrowest" (bw 26) a.A3 a.A4 ["columnsums","bounds","over"],
 fw K mg "choices" (bw 27) a.A5 a.A6 ["many"],
 fw K mg "check_fit" (bw 28) a.A7 a.A8 ["rowsums","columnsums","bounds"],
 fw K mg "check_wide" (bw 31) a.A9 a.Ba ["rowsums"],
 fw K mg "settled_for_net" (bw 32) a.Bb a.Bc ["rowsums","columnsums","bounds"],
 fw K mg "column_fillings" (bw 33) a.Bd a.Be ["rests","columnsums","bounds","column"],
 fw K mg "rests_behind" (bw 34) a.Bf a.Bh ["rests","counts"],
 fw K mg "nodes_by_level" (bw 35) a.Bi a.Bj ["rowsums","columnsums","bounds"],
 fw K mg "node_counts" (bw 36) a.Bk a.Bl ["rests","filled","behind"],
 fw K mg "counted_nodes" (bw 37) a.Bm a.Bn ["rowsums","columnsums","bounds"],
 fw K mg "paper_rows" (bw 38) a.Bo a.Bp ["counted"],
 io K "net_holds" "net_holds" (bw 40) a.Bq a.Br,
 mg "net_holds"=My (.ref a.Bq),
 s_ K a.Br ["rowsums","columnsums","paper","bounds"] ["bounds"] 3 [.kw 0],
 fw K mg "_law_bag" (bw 42) a.Bs a.Bt ["_law_script"],
 fw K mg "_law_pull" (bw 43) a.Bu a.Bv ["_law_bag_here","_law_lot"],
 fw K mg "_law_same" (bw 44) a.Bw a.Bx ["_law_found","_law_due"],
 fw K mg "_law_grid" (bw 45) a.By a.Bz ["_law_bag_here","_law_block","_law_columns","_law_things"],
 fw K mg "_law_small" (bw 46) a.B0 a.B4 ["_law_bag_here"],
 fw K mg "_law_wide" (bw 47) a.B5 a.B7 ["_law_bag_here"],
 fw K mg "_law_large" (bw 48) a.B8 a.Ca ["_law_bag_here"],
 fw K mg "_law_turned" (bw 49) a.Cb a.Cc ["_law_block"],
 fw K mg "_law_rowsums" (bw 50) a.Cd a.Cf ["_law_grid_here"],
 fw K mg "_law_columnsums" (bw 51) a.Cg a.Ch ["_law_grid_here"],
 fw K mg "_law_free" (bw 52) a.Ci a.Cj ["_law_block","_law_columns"],
 fw K mg "_law_bounds" (bw 53) a.Ck a.Cl ["_law_bag_here","_law_grid_here"],
 fw K mg "_law_copied" (bw 54) a.Cn a.Co ["_law_block"],
 fw K mg "_law_fit" (bw 55) a.Cp a.Cq ["_law_rests","_law_lot","_law_pairs"],
 fw K mg "_law_less" (bw 56) a.Cr a.Cs ["_law_rests","_law_column"],
 fw K mg "_law_factorial" (bw 57) a.Ct a.Cu ["_law_lot"],
 fw K mg "_law_ways" (bw 58) a.Cv a.Cw ["_law_parts"],
 fw K mg "_law_net" (bw 59) a.Cy a.Cz ["_law_grid_here","_law_limits"],
 fw K mg "_law_nodes" (bw 60) a.C0 a.C2 ["_law_rowsums_here","_law_columnsums_here","_law_limits"],
 fw K mg "_law_counted" (bw 61) a.C3 a.C4 ["_law_rowsums_here","_law_columnsums_here","_law_limits"],
 fw K mg "_law_bent" (bw 62) a.C5 a.C6 ["_law_bag_here","_law_block","_law_where"],
 io K "paper" "Net.paper" (aQ (bw 39) 10) a.C7 a.C8,
 Mm K a.Ae "paper" a.C7,
 fG K a.C8 ["self"] [],
 io K "__init__" "Net.__init__" (aQ (bw 39) 0) a.C9 a.Da,
 Mk K a.Ae a.C9,
 s_ K a.Da ["self","rowsums","columnsums","bounds"] ["bounds"] 3 [.kw 0],
 uy K a.Ae,
 mg "Net"=My (.ref a.Ae),
 eG K a.Ae "column_list",
 eG K a.Ae "counted",
 eG K a.Ae "pairs",
 eG K a.Ae "row_list",
 io K "__init__" "EdgeError.__init__" (aQ (bw 2) 0) a.Ab a.Ac,
 fG K a.Ac ["self","word","why"] [],
 mg "EdgeError"=My (.ref a.Aa),
 Y7 K a.Aa "__init__" a.Ab]
structure tx (K:NR) (mg:a0i) (a:Ad):Prop where
 Dd:∀i,(FnL K mg a).getD i True
 De:mg "ValueError"=Na
 Df:mg "abs"=Na
 Dg:mg "any"=Na
 Dh:mg "bool"=Na
 Di:mg "enumerate"=Na
 Dj:mg "int"=Na
 Dl:mg "isinstance"=Na
 Dm:mg "len"=Na
 Do:mg "list"=Na
 Dp:mg "max"=Na
 Dq:mg "min"=Na
 Dr:mg "range"=Na
 Dt:mg "reversed"=Na
 Du:mg "sorted"=Na
 Dv:mg "str"=Na
 Dw:mg "sum"=Na
 Dx:mg "tuple"=Na
 Dy:mg "zip"=Na
section
variable{P:N9}{w:Ol}{K:NR}{mg:a0i}{ac:OO}{a:Ad}
theorem jt:ba ["_law_bag_here","_law_lot","_law_cells","_law_at","_law_cell"] ["_law_bag_here","_law_lot"] (ak (bw 43)):=ff
theorem AN(N:tx K mg a):ee P w K mg ac (fx P w) 2 a.Bu a.Bv ["_law_bag_here","_law_lot"] (A_ K 2 cM):=by
 refine(N.1 32).F.ok (k:=1) jt (λvs H Q E h=>h.1) (λY A x s H vs Q E hr h=>?_);obtain⟨_,F,ds,D,fr,hd,r,Z,e,k⟩:=h;obtain⟨G,rfl,ok,I,h1,rfl,rfl⟩:=AZ e;obtain⟨v,w',rfl,d1,d2⟩:=aj.o8 hd;unfold bc at d1;obtain⟨b,l,d,rfl⟩:=d1;cases d2.int;obtain⟨t,J⟩:=fr.bag b l d;obtain⟨ab,al,m⟩:=fr.bgA b l d;obtain⟨W,L,aa,X⟩:=ok.at;obtain⟨_,_,ad,_⟩:=wG ok I;have M:(SW (D.cells.map V.n):Int)=(SW D.cells:Int):=by rw[M9]
 have O:la (D.cells.map V.n) (D.pos:Int)=My (.n D.cell):=IJ (by rw[Nl,L];rfl);refine⟨_,c9 (pC (i:=2) jt.nd rfl (P5 rfl) (cZ bQ (pv 0) bY (λ_ _=>rfl)))
  (c9 (pC (i:=3) jt.nd rfl (P5 rfl) (dP lQ (cZ bQ (pv 0) bY (λ_ _=>rfl)) (kx mj (by rfl) N.Dm PySem.boot_len (eM (pv 2) hX))))
  (c9 (pC (i:=4) jt.nd rfl (P5 rfl) (cZ bQ (pv 2) (pv 3) (λ_ _=>rfl)))
  (c9 (GK (wH Mt (pv 4) (dP JQ bY bY) (u3 _))
   (c9 (ck (dP wP (pv 4) (pv 1)) (cX (pv 2) (pv 3) cr)) (mJ (aB (dP lQ (pv 4) (pv 1))))) qG)
  (c9 (ck (dP pG (cZ bQ (pv 0) bY (λ_ _=>rfl)) bY) (cX (pv 0) bY cr))
  (c9 (ck (dP lQ (dP JS (dP pG (dP pG (cZ bQ (pv 0) bY (λ_ _=>rfl)) (dP lQ (pv 4) bY)) bY) bY) bY) (cX (pv 0) bY cr))
  (mJ (aB (dP lQ (dP wP (cZ bQ (pv 0) bY (λ_ _=>rfl)) bY) (pv 1))))))))),?_⟩
 refine⟨_,rfl,b,_,_,_,rfl,rfl,d_.of t,rfl,?_⟩;refine⟨_,rfl,b,_,_,_,rfl,rfl,d_.of t,rfl,_,rfl,l,_,rfl,.inl (d_.of J),_,_,rfl,rfl,?_,?_⟩
 .have:=W
  rw[M];lia
 refine⟨_,rfl,_,rfl,l,_,_,_,rfl,rfl,d_.of J,by rw[M,X];exact O,?_⟩;refine⟨_,rfl,_,_,rfl,rfl,⟨by decide,by decide,by decide⟩,_,_,rfl,rfl,_,rfl,?_⟩;have S:∀{R:Hp} {p:Nh} {o:HO},(∀c,F.A c->R c≠Na)->∀c,F.A c->upd R p o c≠Na:=λ{R p o} f c u z=>by
  by_cases q:c=p
  .subst q;rw[aw]at z;cases z
  .rw[a_ q]at z;exact f c u z
 refine ite2 (λg=>?_) (λg=>?_)
 .have Yt:(10:Int)^18<=D.cell:=OR g
  refine⟨_,rfl,_,rfl,_,_,rfl,rfl,⟨I,h1⟩,_,rfl,_,rfl,l,_,_,D.pos,rfl,rfl,J,?_,?_⟩
  .rw[M,X,M9]
   exact Il W
  refine⟨_,rfl,_,rfl,_,_,rfl,rfl,I,?_⟩;have T:jz D G=D.cell % G:=Nu Yt;have U:ku D G=⟨D.cells.set D.pos (D.cell/G),D.i,D.j⟩:=Nu Yt;rw[T,U]at k;refine k _ _ ⟨λc o u n=>by rw[a_ (n b l d).2];exact u,S fr.occ,fr.bgA,λb' l' y=>?_⟩ rfl;rw[d]at y;cases y;exact⟨by rw[a_ m];exact t,by rw[aw,RA]⟩
 .have Yt:¬(10:Int)^18<=D.cell:=λq=>g (NF q)
  refine⟨_,rfl,b,_,_,_,rfl,rfl,d_.of t,rfl,_,_,rfl,rfl,_,rfl,b,_,_,1,rfl,rfl,t,rfl,?_⟩;have B:(upd H b (.l [.r l,.n (D.i+1),.n D.j])) b=My (.l [.r l,.n (D.i+1),.n D.j]):=aw;refine⟨_,rfl,b,_,_,_,rfl,rfl,d_.of B,rfl,_,rfl,_,_,rfl,rfl,(by show(0:Int)<2147483629;decide),_,_,rfl,rfl,_,_,rfl,rfl,_,_,rfl,rfl,.inr ⟨by decide,by decide⟩,_,_,rfl,rfl,(by show(0:Int)<2147483629;decide),_,rfl,b,_,_,2,rfl,rfl,B,rfl,?_⟩;have C:(upd (upd H b (.l [.r l,.n (D.i+1),.n D.j])) b (.l [.r l,.n (D.i+1),.n D.f5])) b=My (.l [.r l,.n (D.i+1),.n D.f5]):=aw;refine⟨_,rfl,b,_,_,_,rfl,rfl,d_.of C,rfl,_,_,rfl,rfl,⟨by decide,by decide⟩,_,rfl,_,_,rfl,rfl,I,?_⟩;have T:jz D G=D.f5/64 % G:=Nv Yt;have U:ku D G=⟨D.cells,D.i+1,D.f5⟩:=Nv Yt;rw[T,U]at k;refine k _ _ ⟨λc o u n=>by rw[a_ (n b l d).1,a_ (n b l d).1];exact u,S (S fr.occ),fr.bgA,λb' l' y=>?_⟩ rfl;rw[d]at y;cases y;exact⟨C,by rw[a_ m.symm,a_ m.symm];exact J⟩
theorem DZ:ba ["_law_script"] ["_law_script"] (ak (bw 42)):=ff
theorem nd1:(["_law_cell"]:a0j).Nodup:=by decide +kernel
theorem Eg(N:tx K mg a):ee P w K mg ac (fx P w) 1 a.Bs a.Bt ["_law_script"] (Mg K):=by
 refine(N.1 31).F.ok DZ (λS H Q E h=>?_) (λX A M s H S Q E hr h=>?_)
 .obtain⟨a,ns,rfl,_⟩:=h
  rfl
 .obtain⟨a,ns,rfl,Y,k⟩:=h
  refine⟨_,mJ (aB (gu (eM (dP JU (mK rfl (b_:=["_law_cell"]) (cp.f5 rfl (by decide +kernel) (by decide +kernel)) (HJ (n6 wt (pv 0) wL (wK bY)))
   (λcl C fp s H=>⟨wN (i:=0) nd1 rfl (P5 rfl),uS,λD=>aP rfl (kx E6 (by rfl) N.Df Boot.«abs» (eM (pv 0) hX)) rfl⟩)) (gu (eM bY hX))) (eM bY (eM bY hX))))),?_⟩
  obtain⟨q,J,Z⟩:=M3 ns;refine⟨_,rfl,63,rfl,a,_,rfl,Y,λp hp=>?_⟩;rw[J];have O:bT H (upd H p (.l (q.map V.n))):=bT.upd hp;refine⟨p,rfl,⟨_,d_.of aw⟩,λD B=>?_⟩;have r:D≠p:=λz=>by subst z;rw[aw]at B;cases B
  refine yS (xs:=q.map V.n) (λi I g=>∃G:a0d,(∃v,I=[v])/\SW G=i/\(∀c∈G,0<=c)/\g D=My (.l (G.map V.n))/\g p=My (.l (q.map V.n))/\bT H g) ⟨[],⟨_,rfl⟩,rfl,(λ_ h=>nomatch h),aw,by rw[a_ r.symm,aw],O.trans (bT.upd B)⟩
   (λi I g _ ⟨_,_,_,_,_,e,_⟩=>d_.of e) ?_ ?_
  .rintro i x I g n ⟨G,⟨v,rfl⟩,l,m,d,t,u⟩
   have aa:i<SW q:=by have:=(Nn.mp n).1;rwa[M9]at this
   obtain⟨z,rfl⟩:∃z,x=V.n z:=by
    rw[Nl]at n;cases e:q[i]? with
    |none=>rw[e]at n;cases n
    |some z=>rw[e]at n;exact⟨z,(N6 n).symm⟩
   unfold dQ IZ;refine iteT ?_;refine⟨_,rfl,_,rfl,G.map V.n,d,by rw[M9];exact rC (by lia),G++[if z<0 then -z else z],⟨_,rfl⟩,by rw[Nw,l];rfl,λc hc=>?_,by rw[aw,NV];rfl,by rw[a_ r.symm];exact t,λb o e=>?_⟩
   .rcases N4.mp hc with hc|hc
    .exact m c hc
    .obtain rfl:c=_:=by simpa using hc
     split<;>lia
   .rw[a_ (aI e (O.free B))]
    exact u b o e
  .rintro I g ⟨G,⟨v,rfl⟩,l,m,d,t,u⟩
   rw[M9]at l;refine⟨by decide,λp2 j=>⟨D,p2,_,_,rfl,rfl,by rw[a_ (aI d j)];exact d,aw,by rw[M9];exact OK (rC (by simp;lia)),λR y=>⟨(by show 3<=NN;decide),λT f=>?_⟩⟩⟩;have U:bT g (upd g p2 (.l [V.n 1])):=bT.upd j;have W:=U.trans (bT.upd (o:= .l (G.map V.n++[V.n 1])) y);have L:R≠T:=λz=>by subst z;rw[aw]at f;cases f
   refine k T R _ ((u.trans W).free f) ((u.trans U).free y) ⟨G++[1],0,0,aw,by rw[a_ L,aw,NV];rfl,by simp,by rw[Nw];simp;lia,λc hc=>?_,by decide⟩ ((u.trans W).trans (bT.upd f));rcases N4.mp hc with hc|hc
   .exact m c hc
   .obtain rfl:c=1:=by simpa using hc
    decide
theorem aL(N:tx K mg a):FB P w K mg ac 2 "_law_pull" a.Bu a.Bv ["_law_bag_here","_law_lot"] 2 cM:=⟨AN N,(N.1 32).m,(N.1 32).F.kp,(N.1 32).b⟩
abbrev QF(K:NR)(a:Ad)(k:Nat)(x:Oi)(f:Nh)(d:N1)(E:a0j)(n:Nat):={m:a0b->M D//∀{P:N9} {w:Ol} {mg:a0i} {ac:OO} (N:tx K mg a),FB P w K mg ac k x f d E n m}
abbrev QM(K:NR)(a:Ad)(k:Nat)(f:Nh)(d:N1)(E:a0j)(n:Nat):={m:a0b->M D//∀{P:N9} {w:Ol} {mg:a0i} {ac:OO} (N:tx K mg a),ee P w K mg ac (fx P w) k f d E (A_ K n m)}
theorem Hy:ba ["rows","columns","pair"] ["rows","columns","pair"] (ak (bw 13)):=ff
def JA(K:NR)(a:Ad):QM K a 2 a.Af a.Ag ["rows","columns","pair"] 3:=⟨_,λN=>by
 exact l6 (k:=1) 3 3 _ (N.1 4) Hy rfl rfl λb A w s H E d=>aq (aO (aB (bC rfl (gt ["row","pair","columns"] ["row"] [2,1]) (cT (by rfl) N.Dr (c4 (vv 0))) (λG C c s H=>⟨(dq 0 en),aU,λD=>aP rfl (bC rfl (gt ["column","pair"] ["column"] [1]) (cT (by rfl) N.Dr (c4 (vv 2))) (λG C c s H=>⟨(dq 0 en),aU,λD=>aP rfl (vv 1) rfl⟩) ax ay (λD=>aZ)) rfl⟩) ax ay (λD=>aZ))))⟩
theorem sN:ba ["rowsums","columnsums"] ["rowsums","columnsums"] (ak (bw 14)):=ff
def i5(K:NR)(a:Ad):QF K a 2 "check_sums" a.Ah a.Ai ["rowsums","columnsums"] 2:=⟨_,λN=>by
 exact hY 2 (N.1 7) sN λb A w s H E c=>ag (bH (sS (wj kF kF ow ow (ae) (dW N.Dm (c4 (vv 0))) (ld (N.1 2)))) (aq (eL)) (bu))
   (ag (bH (sS (wj kF kF ow ow (ae) (dW N.Dm (c4 (vv 1))) (ld (N.1 1)))) (aq (eL)) (bu))
   (ag (bH (li (ud (oS (bV (ml rfl) yv (by rfl) N.Dg Boot.«any» (c4 (bC rfl (gt ["many"] ["many"] []) (bj (vv 0)) (λG C d s H=>⟨(dq 0 en),aU,λD=>aP rfl (iB pF vi (vv 0) (ae)) rfl⟩) ax ay (λD=>aZ))))) (oM (oS (bV (ml rfl) yv (by rfl) N.Dg Boot.«any» (c4 (bC rfl (gt ["many"] ["many"] []) (bj (vv 1)) (λG C d s H=>⟨(dq 0 en),aU,λD=>aP rfl (iB pF vi (vv 0) (ae)) rfl⟩) ax ay (λD=>aZ)))))))) (aq (eL)) (bu))
   (ag (bH (bo (gv c) iI (gF N.Dw (c4 (vv 0))) (gF N.Dw (c4 (vv 1)))) (aq (eL)) (bu))
   (aq (bH (bo x8 EF (gF N.Dw (c4 (vv 0))) (ld (N.1 0))) (aq (eL)) (bu))))))⟩
theorem im:ba ["pair","low","high"] ["pair"] (ak (bw 15)):=ff
def i6(K:NR)(a:Ad):QF K a 2 "check_pair" a.Aj a.Ak ["pair"] 1:=⟨_,λN=>by
 exact hY 3 (N.1 8) im λb A w s H E c=>ag (GB (jX (cS aR (cS aR iM)) (cR (cR gJ))) (ck (vv 0) (bX rfl (aE (dq 1 im.nd) (aE (dq 2 im.nd) bL)))))
   (aq (bH (sS (DP kF kF kF ow ow ow (ae) (vv 1) (vv 2) (ld (N.1 0)))) (aq (eL)) (bu)))⟩
theorem fI:ba ["bounds","rows","columns","pairs","pair"] ["bounds","rows","columns"] (ak (bw 16)):=ff
def cz(K:NR)(a:Ad):QF K a 3 "settled_bounds" a.Am a.An ["bounds","rows","columns"] 3:=⟨_,λN=>by
 exact hY 5 (N.1 9) fI λd A w s H E b=>ag (bH (bo uW yt (vv 0) (xF)) (aq (aO (aB (Hh ((JA K a).2 N) (b.mono (by decide)) (by rfl) (N.1 5) (N.1 4).kp (N.1 6) kC (dk (vv 1) (vv 2)) (λG M r c h=>by rw[(bF (bF D1)) G M r c h];rfl))))) (bu))
   (ag (bH (li (ud (bo (gv b) iI (dW N.Dm (c4 (vv 0))) (vv 1)) (oM (oS (bV (ml rfl) yv (by rfl) N.Dg Boot.«any» (c4 (bC rfl (gt ["pairs","columns"] ["pairs"] [2]) (bj (vv 0)) (λP C e s H=>⟨(dq 0 en),aU,λD=>aP rfl (iB (gv b) iI (dW N.Dm (c4 (vv 0))) (vv 1)) rfl⟩) ax ay (λD=>aZ)))))))) (aq (eL)) (bu))
   (ag (bP aR (bE cj rfl (bj (vv 0)) (dq 3 fI.nd) (aq (bP aR (bE cj rfl (bj (vv 3)) (dq 4 fI.nd) (aq (ph (dY (vc ((i6 K a).2 N) b (c4 (vv 4)))))))))))
   (aq (aO (aB (bC rfl (gt ["pairs"] ["pairs"] []) (bj (vv 0)) (λP C e s H=>⟨(dq 0 en),aU,λD=>aP rfl (cq cI jd (by rfl) N.Do Boot.«list» (c4 (vv 0))) rfl⟩) ax ay (λD=>aZ)))))))⟩
theorem gq:ba ["number","product","factor"] ["number"] (ak (bw 18)):=ff
def gY(K:NR)(a:Ad):QF K a 2 "factorial" a.Ao a.Aq ["number"] 1:=⟨_,λN=>by
 exact hY 3 (N.1 10) gq λb A w s H E c=>ag (aK (d4 1 gq.nd (ae)))
   (ag (bP aR (bE cj rfl (kK (by rfl) N.Dr (dk (ae) (aF aC bv (vv 0) (ae)))) (dq 2 gq.nd) (aq (pi wX (lN (i:=1) gq.nd rfl (by first|exact P5 rfl|exact Re rfl) (vv 2) w4)))))
   (aq (aO (aB (vv 1)))))⟩
theorem jP:ba ["parts","part","told"] ["parts"] (ak (bw 19)):=ff
def uO(K:NR)(a:Ad):QF K a 3 "ways" a.Ar a.As ["parts"] 1:=⟨_,λN=>by
 exact hY 3 (N.1 11) jP λc A w s H E b=>ag (bP aR (bE cj rfl (bj (vv 0)) (dq 1 jP.nd) (aq (bH (bo pF vi (vv 1) (ae)) (aq (eL)) (bu)))))
   (ag (aK (d4 2 jP.nd (vc ((gY K a).2 N) b (c4 (bV (CT rfl) Kd (by rfl) N.Dw Boot.«sum» (c4 (vv 0)))))))
   (ag (bP aR (bE cj rfl (bj (vv 0)) (dq 1 jP.nd) (aq (pi ED (lN (i:=2) jP.nd rfl (by first|exact P5 rfl|exact Re rfl) (vc ((gY K a).2 N) b (c4 (vv 1))) Io)))))
   (aq (aO (aB (vv 2))))))⟩
theorem c8:ba ["rests","many","pairs","lows","tops","begun","row","fewest_behind","most_behind"] ["rests","many","pairs"] (ak (bw 20)):=ff
def kt(K:NR)(a:Ad):QF K a 2 "fillings" a.At a.Au ["rests","many","pairs"] 3:=⟨_,λN=>by
 exact hY 9 (N.1 12) c8 λc A w s H E d=>ag (aK (d4 3 c8.nd (bC rfl (gt ["low","high"] ["low","high"] []) (bj (vv 2)) (λG C b s H=>⟨(bX rfl (aE (dq 0 en) (aE (dq 1 en) bL))),aU,λD=>aP rfl (vv 0) rfl⟩) (dI (aY ax (aY ax cN)) (aW (aW cc))) (dD (aX ay (aX ay cK))) (λD=>aZ))))
   (ag (aK (d4 4 c8.nd (bC rfl (gt ["rest","low","high"] ["rest","low","high"] []) (pY (by rfl) N.Dy (dk (vv 0) (vv 2))) (λG C b s H=>⟨(bX rfl (aE (dq 0 en) (aE (bX rfl (aE (dq 1 en) (aE (dq 2 en) bL))) bL))),aU,λD=>aP rfl (bV (jE rfl) tj (by rfl) N.Dq Boot.«min» (dk (vv 0) (vv 2))) rfl⟩) (dI (aY ax (aY (dI (aY ax (aY ax cN)) (aW (aW cc))) cN)) (aW (aW cc))) (dD (aX ay (aX (dD (aX ay (aX ay cK))) cK))) (λD=>aZ))))
   (ag (aK (d4 5 c8.nd (cY (c4 (dg (dk (dg (iT)) (vv 1)))))))
   (ag (bP aR (bE cj rfl (cT (by rfl) N.Dr (c4 (dW N.Dm (c4 (vv 0))))) (dq 6 c8.nd) (ag (aK (d4 7 c8.nd (gF N.Dw (c4 (ge (vv 3) (fV (aF aC bv (vv 6) (ae))) (fW))))))
   (ag (aK (d4 8 c8.nd (gF N.Dw (c4 (ge (vv 4) (fV (aF aC bv (vv 6) (ae))) (fW))))))
   (aq (zQ (i:=5) c8.nd rfl (by first|exact P5 rfl|exact Re rfl) rfl (gt ["counts","left","count","lows","row","most_behind","tops","fewest_behind"] ["counts","left","count"] [3,6,8,4,7]) (bj (vv 5)) (λG C b s H=>⟨(bX rfl (aE (dq 0 en) (aE (dq 1 en) bL))),aU,λD=>qI rfl rfl rfl (kK (by rfl) N.Dr (dk (bV (sB rfl) GQ (by rfl) N.Dp Boot.«max» (dk (bn aD bq (vv 3) (vv 4)) (aF dG eS (vv 1) (vv 5)))) (aF aC bv (bV (jE rfl) tj (by rfl) N.Dq Boot.«min» (dk (bn aD bq (vv 6) (vv 4)) (aF dG eS (vv 1) (vv 7)))) (ae)))) (dq 2 en) (aU) (aP rfl (dg (dk (aF aC bv (vv 0) (dg (c4 (vv 2)))) (aF dG eS (vv 1) (vv 2)))) rfl)⟩) (dI (aY ax (aY ax cN)) (aW (aW cc))) (dD (aX ay (aX ay cK))) (λD=>Ii ax ay (aZ))))))))
   (aq (aO (aB (bC rfl (gt ["counts","left"] ["counts","left"] []) (bj (vv 5)) (λG C b s H=>⟨(bX rfl (aE (dq 0 en) (aE (dq 1 en) bL))),tK (bo (bJ d) bU (vv 1) (ae)),λD=>aP rfl (vv 0) rfl⟩) (dI (aY ax (aY ax cN)) (aW (aW cc))) (dD (aX ay (aX ay cK))) (λD=>aZ))))))))⟩
theorem xV:ba ["rowsums","over"] ["rowsums","over"] (ak (bw 22)):=ff
def lK(K:NR)(a:Ad):QF K a 2 "need_of" a.Av a.Aw ["rowsums","over"] 2:=⟨_,λN=>by
 exact hY 2 (N.1 13) xV λb A w s H E c=>aq (aO (aB (gF N.Dw (c4 (bC rfl (gt ["row","rowsums"] ["row"] [0]) (bj (vv 1)) (λG C d s H=>⟨(dq 0 en),aU,λD=>aP rfl (bn aD bq (vv 1) (vv 0)) rfl⟩) ax ay (λD=>aZ))))))⟩
theorem jQ:ba ["columnsums","bounds","over","column","lows"] ["columnsums","bounds","over","column"] (ak (bw 23)):=ff
def dm(K:NR)(a:Ad):QF K a 2 "room_inside" a.Ax a.Ay ["columnsums","bounds","over","column"] 4:=⟨_,λN=>by
 exact hY 5 (N.1 14) jQ λb A w s H E c=>ag (zQ (i:=4) jQ.nd rfl (by first|exact P5 rfl|exact Re rfl) rfl (gt ["row","pairs","over","column"] ["row","pairs"] [2,3]) (lY (by rfl) N.Di (c4 (vv 1))) (λG C d s H=>⟨(bX rfl (aE (dq 0 en) (aE (dq 1 en) bL))),tK (bo lP (EE (neg:=Nf)) (vv 0) (vv 2)),λD=>aP rfl (bn aD bq (bn aD bq (vv 1) (vv 3)) (ae)) rfl⟩) (dI (aY ax (aY ax cN)) (aW (aW cc))) (dD (aX ay (aX ay cK))) (λD=>aZ))
   (aq (aO (aB (aF dG eS (bn aD bq (vv 0) (vv 3)) (gF N.Dw (c4 (vv 4)))))))⟩
theorem qB:ba ["bounds","over","column"] ["bounds","over","column"] (ak (bw 24)):=ff
def dz(K:NR)(a:Ad):QF K a 2 "room_beside" a.Az a.A0 ["bounds","over","column"] 3:=⟨_,λN=>by
 exact hY 3 (N.1 15) qB λb A w s H E c=>aq (aO (aB (gF N.Dw (c4 (bC rfl (gt ["row","bounds","column"] ["row"] [0,2]) (bj (vv 1)) (λG C d s H=>⟨(dq 0 en),aU,λD=>aP rfl (bn aD bq (bn aD bq (bn aD bq (vv 1) (vv 0)) (vv 2)) (ae)) rfl⟩) ax ay (λD=>aZ))))))⟩
theorem xU:ba ["columnsums","bounds","over","into"] ["columnsums","bounds","over","into"] (ak (bw 25)):=ff
def lJ(K:NR)(a:Ad):QF K a 3 "room_of" a.A1 a.A2 ["columnsums","bounds","over","into"] 4:=⟨_,λN=>by
 exact hY 4 (N.1 16) xU λc A w s H E b=>aq (aO (aB (gF N.Dw (c4 (bC rfl (gt ["column","into","columnsums","bounds","over"] ["column"] [3,0,1,2]) (cT (by rfl) N.Dr (c4 (dW N.Dm (c4 (vv 0))))) (λG C d s H=>⟨(dq 0 en),aU,λD=>aP rfl (ZG (bo AL (EE (neg:=Ni)) (vv 0) (vv 1)) (vc ((dm K a).2 N) b (uz (vv 2) (vv 3) (vv 4) (vv 0))) (vc ((dz K a).2 N) b (mm (vv 3) (vv 4) (vv 0)))) rfl⟩) ax ay (λD=>aZ))))))⟩
theorem uv:ba ["columnsums","bounds","over"] ["columnsums","bounds","over"] (ak (bw 26)):=ff
def jI(K:NR)(a:Ad):QF K a 3 "narrowest" a.A3 a.A4 ["columnsums","bounds","over"] 3:=⟨_,λN=>by
 exact hY 3 (N.1 17) uv λc A w s H E b=>aq (aO (aB (bC rfl (gt ["column","columnsums","bounds","over"] ["column"] [0,1,2]) (cT (by rfl) N.Dr (c4 (dW N.Dm (c4 (vv 0))))) (λG C d s H=>⟨(dq 0 en),tK (bo pF vi (vc ((dm K a).2 N) b (uz (vv 1) (vv 2) (vv 3) (vv 0))) (vc ((dz K a).2 N) b (mm (vv 2) (vv 3) (vv 0)))),λD=>aP rfl (vv 0) rfl⟩) ax ay (λD=>aZ))))⟩
theorem iE:ba ["many","told","number"] ["many"] (ak (bw 27)):=ff
def lM(K:NR)(a:Ad):QF K a 2 "choices" a.A5 a.A6 ["many"] 1:=⟨_,λN=>by
 exact hY 3 (N.1 18) iE λb A w s H E c=>ag (aK (d4 1 iE.nd (cY (c4 (cY (iT))))))
   (ag (bP aR (bE cj rfl (cT (by rfl) N.Dr (c4 (vv 0))) (dq 2 iE.nd) (aq (aK (d4 1 iE.nd (aF aC bv (vv 1) (bC rfl (gt ["chosen","number"] ["chosen"] [2]) (bj (vv 1)) (λG C d s H=>⟨(dq 0 en),aU,λD=>aP rfl (aF aC bv (vv 0) (cY (c4 (vv 1)))) rfl⟩) ax ay (λD=>aZ))))))))
   (aq (aO (aB (vv 1)))))⟩
theorem iW:ba ["rowsums","columnsums","bounds","over","into"] ["rowsums","columnsums","bounds"] (ak (bw 28)):=ff
def fU(K:NR)(a:Ad):QF K a 4 "check_fit" a.A7 a.A8 ["rowsums","columnsums","bounds"] 3:=⟨_,λN=>by
 exact hY 5 (N.1 19) iW λc A w s H E b=>aq (bP aR (bE cj rfl (bj (vc ((lM K a).2 N) b (c4 (dW N.Dm (c4 (vv 0)))))) (dq 3 iW.nd) (ag (aK (d4 4 iW.nd (vc ((jI K a).2 N) b (mm (vv 1) (vv 2) (vv 3)))))
   (aq (bH (bo x8 EF (vc ((lK K a).2 N) b (dk (vv 0) (vv 3))) (vc ((lJ K a).2 N) b (uz (vv 1) (vv 2) (vv 3) (vv 4)))) (aq (eL)) (bu))))))⟩
theorem fZ:ba ["rowsums","wide","many"] ["rowsums"] (ak (bw 31)):=ff
def iZ(K:NR)(a:Ad):QF K a 2 "check_wide" a.A9 a.Ba ["rowsums"] 1:=⟨_,λN=>by
 exact hY 3 (N.1 20) fZ λb A w s H E c=>ag (aK (d4 1 fZ.nd (ae)))
   (ag (bP aR (bE cj rfl (bj (vv 0)) (dq 2 fZ.nd) (aq (pi wX (lN (i:=1) fZ.nd rfl (by first|exact P5 rfl|exact Re rfl) (aF aC bv (vv 2) (ae)) w4)))))
   (aq (bH (bo x8 EF (vv 1) (ld (N.1 3))) (aq (eL)) (bu))))⟩
theorem hG:ba ["rowsums","columnsums","bounds","settled"] ["rowsums","columnsums","bounds"] (ak (bw 32)):=ff
def cV(K:NR)(a:Ad):QF K a 4 "settled_for_net" a.Bb a.Bc ["rowsums","columnsums","bounds"] 3:=⟨_,λN=>by
 exact hY 4 (N.1 21) hG λc A w s H E b=>ag (ph (dY (vc ((i5 K a).2 N) b (dk (vv 0) (vv 1)))))
   (ag (aK (d4 3 hG.nd (vc ((cz K a).2 N) b (mm (vv 2) (dW N.Dm (c4 (vv 0))) (dW N.Dm (c4 (vv 1)))))))
   (ag (ph (dY (vc ((iZ K a).2 N) b (c4 (vv 0)))))
   (aq (aO (aB (vv 3))))))⟩
theorem lC:ba ["rests","columnsums","bounds","column"] ["rests","columnsums","bounds","column"] (ak (bw 33)):=ff
def cW(K:NR)(a:Ad):QF K a 3 "column_fillings" a.Bd a.Be ["rests","columnsums","bounds","column"] 4:=⟨_,λN=>by
 exact hY 4 (N.1 22) lC λb A w s H E c=>aq (aO (aB (vc ((kt K a).2 N) c (mm (vv 0) (bn aD bq (vv 1) (vv 3)) (bC rfl (gt ["pairs","column"] ["pairs"] [3]) (bj (vv 2)) (λG C d s H=>⟨(dq 0 en),aU,λD=>aP rfl (bn aD bq (vv 0) (vv 1)) rfl⟩) ax ay (λD=>aZ))))))⟩
theorem o4:ba ["rests","counts"] ["rests","counts"] (ak (bw 34)):=ff
def fA(K:NR)(a:Ad):QF K a 2 "rests_behind" a.Bf a.Bh ["rests","counts"] 2:=⟨_,λN=>by
 exact hY 2 (N.1 23) o4 λb A w s H E c=>aq (aO (aB (cq dC iO (by rfl) N.Dx Boot.«tuple» (c4 (bC rfl (gt ["rest","count"] ["rest","count"] []) (pY (by rfl) N.Dy (dk (vv 0) (vv 1))) (λG C d s H=>⟨(bX rfl (aE (dq 0 en) (aE (dq 1 en) bL))),aU,λD=>aP rfl (aF dG eS (vv 0) (vv 1)) rfl⟩) (dI (aY ax (aY ax cN)) (aW (aW cc))) (dD (aX ay (aX ay cK))) (λD=>aZ))))))⟩
theorem ci:ba ["rowsums","columnsums","bounds","here","told","column","behind"] ["rowsums","columnsums","bounds"] (ak (bw 35)):=ff
def gb(K:NR)(a:Ad):QF K a 4 "nodes_by_level" a.Bi a.Bj ["rowsums","columnsums","bounds"] 3:=⟨_,λN=>by
 exact hY 7 (N.1 24) ci λc A w s H E b=>ag (aK (d4 3 ci.nd (cY (c4 (cq dC iO (by rfl) N.Dx Boot.«tuple» (c4 (vv 0)))))))
   (ag (o6 (d4 4 ci.nd (gu (c4 (vv 3)))))
   (ag (bP aR (bE cj rfl (cT (by rfl) N.Dr (c4 (dW N.Dm (c4 (vv 1))))) (dq 5 ci.nd) (ag (aK (d4 6 ci.nd (DM (by rfl) N.Du rfl (gt ["rests","counts","columnsums","bounds","column"] ["rests","counts"] [1,2,5]) (bj (vv 3)) (λG C d s H=>⟨(dq 0 en),aU,λD=>qI rfl rfl rfl (bj (vc ((cW K a).2 N) b (uz (vv 0) (vv 2) (vv 3) (vv 4)))) (dq 1 en) (aU) (uV (tz b) rfl (vc ((fA K a).2 N) b (dk (vv 0) (vv 1))) rfl)⟩) ax ay (λD=>oq ax ay (Ez)))))
   (ag (pk (dY (kz PN Qd Qe gh (pv 4) (c4 (vv 6)))))
   (aq (aK (d4 3 ci.nd (vv 6))))))))
   (aq (aO (aB (vv 4))))))⟩
theorem bW:ba ["rests","filled","behind","tables","dealings","counts","tables_behind","dealings_behind"] ["rests","filled","behind"] (ak (bw 36)):=ff
def iq(K:NR)(a:Ad):QF K a 4 "node_counts" a.Bk a.Bl ["rests","filled","behind"] 3:=⟨_,λN=>by
 exact hY 8 (N.1 25) bW λc A w s H E b=>ag (aK (d4 3 bW.nd (ae)))
   (ag (aK (d4 4 bW.nd (ae)))
   (ag (bP aR (bE cj rfl (bj (vv 1)) (dq 5 bW.nd) (ag (GB (jX (cS aR (cS aR iM)) (cR (cR gJ))) (ck (bn (pR (YC b)) yu (vv 2) (vc ((fA K a).2 N) b (dk (vv 0) (vv 5)))) (bX rfl (aE (dq 6 bW.nd) (aE (dq 7 bW.nd) bL)))))
   (ag (pi wY (lN (i:=3) bW.nd rfl (by first|exact P5 rfl|exact Re rfl) (vv 6) BX))
   (aq (pi wY (lN (i:=4) bW.nd rfl (by first|exact P5 rfl|exact Re rfl) (aF gM kI (vc ((uO K a).2 N) b (c4 (vv 5))) (vv 7)) BX)))))))
   (aq (aO (aB (dg (dk (vv 3) (vv 4))))))))⟩
theorem bN:ba ["rowsums","columnsums","bounds","levels","last","here","told","level","behind"] ["rowsums","columnsums","bounds"] (ak (bw 37)):=ff
def dF(K:NR)(a:Ad):QF K a 5 "counted_nodes" a.Bm a.Bn ["rowsums","columnsums","bounds"] 3:=⟨_,λN=>by
 exact hY 9 (N.1 26) bN λe A w s H E c=>ag (aK (d4 3 bN.nd (vc ((gb K a).2 N) c (mm (vv 0) (vv 1) (vv 2)))))
   (ag (aK (d4 4 bN.nd (dW N.Dm (c4 (vv 1)))))
   (ag (zP (kb:=Ni) (i:=5) bN.nd rfl (by first|exact P5 rfl|exact Re rfl) rfl (gt ["rests"] ["rests"] []) (bj (bn aD bq (vv 3) (vv 4))) (λG C d s H=>⟨(dq 0 en),aU,λD=>kB (b:=Ni) (tz c) rfl (vv 0) (dg (dk (ae) (ae))) rfl⟩) ax ay (λD=>ou))
   (ag (o6 (d4 6 bN.nd (gu (c4 (vv 5)))))
   (ag (bP aR (bE cj rfl (EO (by rfl) N.Dt (by rfl) N.Dr (c4 (vv 4))) (dq 7 bN.nd) (ag (aK (d4 8 bN.nd (vv 5)))
   (ag (zP (kb:=Ni) (i:=5) bN.nd rfl (by first|exact P5 rfl|exact Re rfl) rfl (gt ["rests","columnsums","bounds","level","behind"] ["rests"] [1,2,7,8]) (bj (bn aD bq (vv 3) (vv 7))) (λG C d s H=>⟨(dq 0 en),aU,λD=>kB (b:=Ni) (tz c) rfl (vv 0) (vc ((iq K a).2 N) c (mm (vv 0) (vc ((cW K a).2 N) c (uz (vv 0) (vv 1) (vv 2) (vv 3))) (vv 4))) rfl⟩) ax ay (λD=>ou))
   (aq (pk (dY (kz PN Qd Qe gh (pv 6) (c4 (vv 5))))))))))
   (aq (aO (aB (Hg (kb:=Nf) rfl (gt ["level","nodes","rests","counts"] ["level","nodes","rests","counts"] []) (lY (by rfl) N.Di (c4 (L5 (vv 6) (xE oQ s0 (ae))))) (λG C d s H=>⟨(bX rfl (aE (dq 0 en) (aE (dq 1 en) bL))),aU,λD=>qI rfl rfl rfl (w8 (vv 1)) (bX rfl (aE (dq 2 en) (aE (dq 3 en) bL))) (aU) (kB (b:=Nf) (tz c) rfl (dg (dk (vv 0) (vv 2))) (vv 3) rfl)⟩) (dI (aY ax (aY ax cN)) (aW (aW cc))) (dD (aX ay (aX ay cK))) (λD=>oq (dI (aY ax (aY ax cN)) (aW (aW cc))) (dD (aX ay (aX ay cK))) (ou))))))))))⟩
theorem sM:ba ["counted"] ["counted"] (ak (bw 38)):=ff
def gr(K:NR)(a:Ad):QF K a 2 "paper_rows" a.Bo a.Bp ["counted"] 1:=⟨_,λN=>by
 exact hY 1 (N.1 27) sM λb A w s H E c=>aq (aO (aB (bC rfl (gt ["level","rests","tables","dealings"] ["level","rests","tables","dealings"] []) (w8 (vv 0)) (λG C d s H=>⟨(bX rfl (aE (bX rfl (aE (dq 0 en) (aE (dq 1 en) bL))) (aE (bX rfl (aE (dq 2 en) (aE (dq 3 en) bL))) bL))),aU,λD=>aP rfl (dg (uz (vv 0) (vv 1) (vv 2) (vv 3))) rfl⟩) (dI (aY (dI (aY ax (aY ax cN)) (aW (aW cc))) (aY (dI (aY ax (aY ax cN)) (aW (aW cc))) cN)) (aW (aW cc))) (dD (aX (dD (aX ay (aX ay cK))) (aX (dD (aX ay (aX ay cK))) cK))) (λD=>aZ))))⟩
theorem lB:ba ["rowsums","columnsums","paper","bounds","settled"] ["rowsums","columnsums","paper","bounds"] (ak (bw 40)):=ff
def gX(K:NR)(a:Ad):QM K a 6 a.Bq a.Br ["rowsums","columnsums","paper","bounds"] 4:=⟨_,λN=>by
 exact l6 (k:=5) 4 5 _ (N.1 28) lB rfl rfl λc A w s H E b=>ag (aK (d4 4 lB.nd (vc ((cV K a).2 N) b (mm (vv 0) (vv 1) (vv 3)))))
   (aq (aO (aB (iB (bJ b) bU (vv 2) (vc ((gr K a).2 N) b (c4 (vc ((dF K a).2 N) b (mm (vv 0) (vv 1) (vv 4)))))))))⟩
theorem zK:ba ["_law_found","_law_due"] ["_law_found","_law_due"] (ak (bw 44)):=ff
def fc(K:NR)(a:Ad)(b:a0b->M D):G:=
  aJ (ro (vJ (aT tu (aa (ah 1) (aa (aT f7 (aa (fC (.ty "list")) (aa (fC (.ty "tuple")) (aA)))) (aA))))) (aJ (ro (qT (fB (f2 (ir) (aT jf (aa (ah 1) (aa (fC (.ty "list")) (aA)))) (aT jf (aa (ah 0) (aa (fC (.ty "list")) (aA)))))) (fB (f2 (ir) (aT jf (aa (ah 1) (aa (fC (.ty "tuple")) (aA)))) (aT jf (aa (ah 0) (aa (fC (.ty "tuple")) (aA))))))) (fK (fC (.c Ni))) (gNil))
  (aJ (ro (fB (f2 (ir) (aT gx (aa (ah 0) (aA))) (aT gx (aa (ah 1) (aA))))) (fK (fC (.c Ni))) (gNil))
  (fK (f2 (K_ Nf) (fC (.c Ni)) (dJ 2 [] (yg (aa (ah 0) (aa (ah 1) (aA)))) (N_ (f8 (gs 0) (f8 (gs 1) kj))) (λ_=>M.h0 Nf) (ko (bK b (aa (ah 0) (aa (ah 1) (aA)))))))))) (gNil))
  (aJ (ro (fB (f2 (yE) (ah 1) (fC .o))) (fK (f2 (yE) (ah 0) (fC .o))) (gNil))
  (aJ (ro (qT (fB (f2 (ir) (aT jf (aa (ah 1) (aa (fC (.ty "str")) (aA)))) (aT jf (aa (ah 0) (aa (fC (.ty "str")) (aA)))))) (fB (f2 (ir) (aT jf (aa (ah 1) (aa (fC (.ty "bool")) (aA)))) (aT jf (aa (ah 0) (aa (fC (.ty "bool")) (aA))))))) (fK (fC (.c Ni))) (gNil))
  (fK (yP (aT tu (aa (ah 0) (aa (aT f7 (aa (fC (.ty "int")) (aa (fC (.ty "str")) (aA)))) (aA)))) (f2 (fN) (ah 0) (ah 1))))))
def cA(K:NR)(a:Ad):Nat->a0b->M D
 |0=>λ_=>M.o8
 |n+1=>dS 2 (fc K a (cA K a n))
theorem pI(N:tx K mg a):∀n,ee P w K mg ac (fx P w) (n+1) a.Bw a.Bx ["_law_found","_law_due"] (A_ K 2 (cA K a n))
 |0=>⟨λS H Q E h=>h.1,λA G s H M p S Q E c i j r h=>by
  obtain⟨_,F,q,t,_,_,l,V,e,_⟩:=h;cases e⟩
 |n+1=>by
  have f:=pI N n;unfold cA;exact l6 (k:=n+1) 2 2 (fc K a (cA K a n)) (N.1 33).F zK rfl rfl λg A G s H E c=>ag (bH (oS (bV ql BN (by rfl) N.Dl Boot.«isinstance» (dk (vv 1) (dg (dk (q_ (d:= .ty "list") (dA (v:= .ty "list") (by rfl) N.Do Boot.«list» rfl) (λ_ _=>rfl)) (q_ (d:= .ty "tuple") (dA (v:= .ty "tuple") (by rfl) N.Dx Boot.«tuple» rfl) (λ_ _=>rfl))))))) (ag (bH (li (ud (bo (gv c) iI (lh N.Dl (dk (vv 1) (q_ (d:= .ty "list") (dA (v:= .ty "list") (by rfl) N.Do Boot.«list» rfl) (λ_ _=>rfl)))) (lh N.Dl (dk (vv 0) (q_ (d:= .ty "list") (dA (v:= .ty "list") (by rfl) N.Do Boot.«list» rfl) (λ_ _=>rfl))))) (oM (bo (gv c) iI (lh N.Dl (dk (vv 1) (q_ (d:= .ty "tuple") (dA (v:= .ty "tuple") (by rfl) N.Dx Boot.«tuple» rfl) (λ_ _=>rfl)))) (lh N.Dl (dk (vv 0) (q_ (d:= .ty "tuple") (dA (v:= .ty "tuple") (by rfl) N.Dx Boot.«tuple» rfl) (λ_ _=>rfl)))))))) (aq (aO (aB (lf)))) (bu))
   (ag (bH (bo (gv c) iI (dW N.Dm (c4 (vv 0))) (dW N.Dm (c4 (vv 1)))) (aq (aO (aB (lf)))) (bu))
   (aq (aO (aB (iB lP (EE (neg:=Nf)) (lf) (bC rfl (gt ["_law_one","_law_other"] ["_law_one","_law_other"] []) (pY (by rfl) N.Dy (dk (vv 0) (vv 1))) (λu C o s H=>⟨(bX rfl (aE (dq 0 en) (aE (dq 1 en) bL))),aU,λD=>aP rfl (zg f (c.mono (No _)) (by rfl) (N.1 33).m (N.1 33).F.kp (N.1 33).b x6 (dk (vv 0) (vv 1)) (bF (bF D1))) rfl⟩) (dI (aY ax (aY ax cN)) (aW (aW cc))) (dD (aX ay (aX ay cK))) (λD=>aZ)))))))) (bu))
   (ag (bH (bo uW yt (vv 1) (xF)) (aq (aO (aB (iB uW yt (vv 0) (xF))))) (bu))
   (ag (bH (li (ud (bo (gv c) iI (lh N.Dl (dk (vv 1) (q_ (d:= .ty "str") (dA (v:= .ty "str") (by rfl) N.Dv Boot.«str» rfl) (λ_ _=>rfl)))) (lh N.Dl (dk (vv 0) (q_ (d:= .ty "str") (dA (v:= .ty "str") (by rfl) N.Dv Boot.«str» rfl) (λ_ _=>rfl))))) (oM (bo (gv c) iI (lh N.Dl (dk (vv 1) (q_ (d:= .ty "bool") (dA (v:= .ty "bool") (by rfl) N.Dh Boot.«bool» rfl) (λ_ _=>rfl)))) (lh N.Dl (dk (vv 0) (q_ (d:= .ty "bool") (dA (v:= .ty "bool") (by rfl) N.Dh Boot.«bool» rfl) (λ_ _=>rfl)))))))) (aq (aO (aB (lf)))) (bu))
   (aq (aO (aB (Gp (bV ql BN (by rfl) N.Dl Boot.«isinstance» (dk (vv 0) (dg (dk (q_ (d:= .ty "int") (dA (v:= .ty "int") (by rfl) N.Dj Boot.«int» rfl) (λ_ _=>rfl)) (q_ (d:= .ty "str") (dA (v:= .ty "str") (by rfl) N.Dv Boot.«str» rfl) (λ_ _=>rfl)))))) (Gn (iB (bJ c) bU (vv 0) (vv 1)))))))))
theorem rR(N:tx K mg a):FB P w K mg ac 7 "_law_same" a.Bw a.Bx ["_law_found","_law_due"] 2 (cA K a 5):=⟨(pI N 5).mono (by decide),(N.1 33).m,(N.1 33).F.kp,(N.1 33).b⟩
theorem hV:ba ["_law_bag_here","_law_block","_law_columns","_law_things","_law_grid_here","_law_thing","_law_at","_law_to"] ["_law_bag_here","_law_block","_law_columns","_law_things"] (ak (bw 45)):=ff
def oA(K:NR)(a:Ad):G:=
  aJ (oB 4 (gB 1 [2] (cL f9 (aa (ah 1) (aA))) (gs 0) (λ_=>M.h0 Nf) (oH (yd (aa (fC (.n 0)) (aA)) (ah 1)))))
  (aJ (EX (cL f9 (aa (ah 3) (aA))) (ZS 5) (aJ (gA 6 (bK cM (aa (ah 0) (aa (ah 1) (aA)))))
  (aJ (gA 7 (bK cM (aa (ah 0) (aa (ah 2) (aA)))))
  (kO 4 (ah 6) (ah 7) (f2 fi (f2 hU (f2 hU (ah 4) (ah 6)) (ah 7)) (fC (.n 1)))))))
  (fK (ah 4)))
def gc(K:NR)(a:Ad):a0b->M D:=dS 8 (oA K a)
theorem eW(N:tx K mg a):FB P w K mg ac 3 "_law_grid" a.By a.Bz ["_law_bag_here","_law_block","_law_columns","_law_things"] 4 (gc K a):=⟨by
 unfold gc
 exact l6 (k:=2) 4 8 (oA K a) (N.1 34).F hV rfl rfl λd A G s H E c=>ag (pb (i:=4) hV.nd rfl (by first|exact P5 rfl|exact Re rfl) rfl (gt ["_law_row","_law_columns"] ["_law_row"] [2]) (cT (by rfl) N.Dr (c4 (vv 1))) (λM C e s H=>⟨(dq 0 en),aU,λD=>aP rfl (Mv (c4 (ae)) (vv 1)) rfl⟩) ax ay (λD=>jY))
   (ag (bP aR (bE cj rfl (cT (by rfl) N.Dr (c4 (vv 3))) (dq 5 hV.nd) (ag (aK (d4 6 hV.nd (vc (aL N) c (dk (vv 0) (vv 1)))))
   (ag (aK (d4 7 hV.nd (vc (aL N) c (dk (vv 0) (vv 2)))))
   (aq (fS (ck (aF aC bv (bn aD bq (bn aD bq (vv 4) (vv 6)) (vv 7)) (ae)) (cX (cZ bQ (pv 4) (vv 6) (λ_ _=>rfl)) (vv 7) cr))))))))
   (aq (aO (aB (vv 4))))),(N.1 34).m,(N.1 34).F.kp,(N.1 34).b⟩
theorem iC:ba ["_law_bag_here","_law_way","_law_block","_law_columns"] ["_law_bag_here"] (ak (bw 46)):=ff
def jy(K:NR)(a:Ad):QF K a 4 "_law_small" a.B0 a.B4 ["_law_bag_here"] 1:=⟨_,λN=>by
 exact hY 4 (N.1 35) iC λc A w s H E b=>ag (aK (d4 1 iC.nd (vc (aL N) b (dk (vv 0) (ae)))))
   (ag (bH (bo (bJ b) bU (vv 1) (ae)) (aq (aO (aB (vc (eW N) b (uz (vv 0) (ae) (ae) (vc (aL N) b (dk (vv 0) (ae)))))))) (bu))
   (ag (bH (bo (bJ b) bU (vv 1) (ae)) (aq (aO (aB (vc (eW N) b (uz (vv 0) (ae) (aF aC bv (ae) (vc (aL N) b (dk (vv 0) (ae)))) (vc (aL N) b (dk (vv 0) (ae)))))))) (bu))
   (ag (bH (bo (bJ b) bU (vv 1) (ae)) (aq (aO (aB (vc (eW N) b (uz (vv 0) (aF aC bv (ae) (vc (aL N) b (dk (vv 0) (ae)))) (ae) (vc (aL N) b (dk (vv 0) (ae)))))))) (bu))
   (ag (aK (d4 2 iC.nd (aF aC bv (ae) (vc (aL N) b (dk (vv 0) (ae))))))
   (ag (aK (d4 3 iC.nd (aF aC bv (ae) (vc (aL N) b (dk (vv 0) (ae))))))
   (aq (aO (aB (vc (eW N) b (uz (vv 0) (vv 2) (vv 3) (vc (aL N) b (dk (vv 0) (ae)))))))))))))⟩
theorem jq:ba ["_law_bag_here","_law_grid_here","_law_lot","_law_first"] ["_law_bag_here"] (ak (bw 47)):=ff
def oz(K:NR)(a:Ad):G:=
  aJ (vD 1 (aA))
  (aJ (EX (di (f2 hU (aT dH (aa (aT dH (aa (fC (.n 40)) (aA))) (aa (aT dH (aa (fC (.n 39)) (aa (fC (.n 1)) (aA)))) (aa (aT dH (aa (fC (.n 30)) (aa (fC (.n 10)) (aA)))) (aa (aT dH (aa (fC (.n 20)) (aa (fC (.n 20)) (aA)))) (aa (aT dH (aa (fC (.n 24)) (aa (fC (.n 15)) (aA)))) (aa (aT dH (aa (fC (.n 13)) (aa (fC (.n 27)) (aA)))) (aA)))))))) (bK cM (aa (ah 0) (aa (fC (.n 6)) (aA)))))) (ZS 2) (aJ (gA 3 (bK cM (aa (ah 0) (aa (f2 fi (ah 2) (fC (.n 1))) (aA)))))
  (vE 1 (aa (aT dH (aa (ah 3) (aa (f2 Jd (ah 2) (ah 3)) (aA)))) (aA)))))
  (fK (ah 1)))
def jc(K:NR)(a:Ad):a0b->M D:=dS 4 (oz K a)
theorem AM(N:tx K mg a):FB P w K mg ac 3 "_law_wide" a.B5 a.B7 ["_law_bag_here"] 1 (jc K a):=⟨by
 unfold jc;refine l6 (k:=2) 1 4 (oz K a) (N.1 36).F jq rfl rfl λe A D s H E c=>?_;refine ag (o6 (d4 1 jq.nd (gu (iT)))) ?_;refine ag ?_ ?_
 rotate_left
 exact(aq (aO (aB (vv 1))));refine bP (tgg:=dQ 2) ?_ ?_;exact aR;generalize d:Expr.Subscript _ _ _=q;refine bE cj rfl ?_ (dq 2 jq.nd) ?_ ?_;subst d;refine bj ?_;refine L6 ?_ ?_;refine cY ?_;refine eK ?_ ?_;refine cY ?_;exact c4 ae;refine eK ?_ ?_;refine cY ?_;exact dk ae ae;refine eK ?_ ?_;refine cY ?_;exact dk ae ae;refine eK ?_ ?_;refine cY ?_;exact dk ae ae;refine eK ?_ ?_;refine cY ?_;exact dk ae ae;refine eK ?_ ?_;refine cY ?_;exact dk ae ae;exact iT;exact(vc (aL N) c (dk (vv 0) (ae)));exact ag (aK (d4 3 jq.nd (vc (aL N) c (dk (vv 0) (aF aC bv (vv 2) (ae)))))) (aq (pk (dY (kz PN Qd Qe gh (pv 1) (c4 (cY (dk (vv 3) (aF dG eS (vv 2) (vv 3)))))))));subst d;intro _;rfl,(N.1 36).m,(N.1 36).F.kp,(N.1 36).b⟩
theorem iD:ba ["_law_bag_here","_law_way","_law_block","_law_columns"] ["_law_bag_here"] (ak (bw 48)):=ff
def lZ(K:NR)(a:Ad):G:=
  aJ (ro (fB (f2 (fN) (bK cM (aa (ah 0) (aa (fC (.n 6)) (aA)))) (fC (.n 0)))) (fK (bK (jc K a) (aa (ah 0) (aA)))) (gNil))
  (aJ (gA 1 (bK cM (aa (ah 0) (aa (fC (.n 5)) (aA)))))
  (aJ (ro (fB (f2 (fN) (ah 1) (fC (.n 0)))) (fK (bK (gc K a) (aa (ah 0) (aa (fC (.n 2)) (aa (f2 fi (fC (.n 2)) (bK cM (aa (ah 0) (aa (fC (.n 5)) (aA))))) (aa (bK cM (aa (ah 0) (aa (fC (.n 25)) (aA)))) (aA))))))) (gNil))
  (aJ (ro (fB (f2 (fN) (ah 1) (fC (.n 1)))) (fK (bK (gc K a) (aa (ah 0) (aa (fC (.n 4)) (aa (f2 fi (fC (.n 2)) (bK cM (aa (ah 0) (aa (fC (.n 2)) (aA))))) (aa (bK cM (aa (ah 0) (aa (fC (.n 9)) (aA)))) (aA))))))) (gNil))
  (aJ (gA 2 (f2 fi (fC (.n 2)) (bK cM (aa (ah 0) (aa (fC (.n 2)) (aA))))))
  (aJ (gA 3 (f2 fi (fC (.n 2)) (bK cM (aa (ah 0) (aa (fC (.n 3)) (aA))))))
  (fK (bK (gc K a) (aa (ah 0) (aa (ah 2) (aa (ah 3) (aa (bK cM (aa (ah 0) (aa (fC (.n 12)) (aA)))) (aA))))))))))))
def jB(K:NR)(a:Ad):a0b->M D:=dS 4 (lZ K a)
theorem yb(N:tx K mg a):FB P w K mg ac 4 "_law_large" a.B8 a.Ca ["_law_bag_here"] 1 (jB K a):=⟨by
 unfold jB
 exact l6 (k:=3) 1 4 (lZ K a) (N.1 37).F iD rfl rfl λd A D s H E c=>ag (bH (bo (bJ c) bU (vc (aL N) c (dk (vv 0) (ae))) (ae)) (aq (aO (aB (vc (AM N) c (c4 (vv 0)))))) (bu))
   (ag (aK (d4 1 iD.nd (vc (aL N) c (dk (vv 0) (ae)))))
   (ag (bH (bo (bJ c) bU (vv 1) (ae)) (aq (aO (aB (vc (eW N) c (uz (vv 0) (ae) (aF aC bv (ae) (vc (aL N) c (dk (vv 0) (ae)))) (vc (aL N) c (dk (vv 0) (ae)))))))) (bu))
   (ag (bH (bo (bJ c) bU (vv 1) (ae)) (aq (aO (aB (vc (eW N) c (uz (vv 0) (ae) (aF aC bv (ae) (vc (aL N) c (dk (vv 0) (ae)))) (vc (aL N) c (dk (vv 0) (ae)))))))) (bu))
   (ag (aK (d4 2 iD.nd (aF aC bv (ae) (vc (aL N) c (dk (vv 0) (ae))))))
   (ag (aK (d4 3 iD.nd (aF aC bv (ae) (vc (aL N) c (dk (vv 0) (ae))))))
   (aq (aO (aB (vc (eW N) c (uz (vv 0) (vv 2) (vv 3) (vc (aL N) c (dk (vv 0) (ae))))))))))))),(N.1 37).m,(N.1 37).F.kp,(N.1 37).b⟩
theorem v6:ba ["_law_block"] ["_law_block"] (ak (bw 49)):=ff
def pA(K:NR)(a:Ad):QF K a 2 "_law_turned" a.Cb a.Cc ["_law_block"] 1:=⟨_,λN=>by
 exact hY 1 (N.1 38) v6 λb A w s H E d=>aq (aO (aB (bC rfl (gt ["_law_to","_law_block"] ["_law_to"] [0]) (cT (by rfl) N.Dr (c4 (dW N.Dm (c4 (bn aD bq (vv 0) (ae)))))) (λG C c s H=>⟨(dq 0 en),aU,λD=>aP rfl (bC rfl (gt ["_law_row","_law_to"] ["_law_row"] [0]) (bj (vv 1)) (λG C c s H=>⟨(dq 0 en),aU,λD=>aP rfl (bn aD bq (vv 0) (vv 1)) rfl⟩) ax ay (λD=>aZ)) rfl⟩) ax ay (λD=>aZ))))⟩
theorem uw:ba ["_law_grid_here"] ["_law_grid_here"] (ak (bw 50)):=ff
def jJ(K:NR)(a:Ad):QF K a 2 "_law_rowsums" a.Cd a.Cf ["_law_grid_here"] 1:=⟨_,λN=>by
 exact hY 1 (N.1 39) uw λb A w s H E c=>aq (aO (aB (bC rfl (gt ["_law_row"] ["_law_row"] []) (bj (vv 0)) (λG C d s H=>⟨(dq 0 en),aU,λD=>aP rfl (gF N.Dw (c4 (vv 0))) rfl⟩) ax ay (λD=>aZ))))⟩
theorem o5:ba ["_law_grid_here"] ["_law_grid_here"] (ak (bw 51)):=ff
def gL(K:NR)(a:Ad):QF K a 3 "_law_columnsums" a.Cg a.Ch ["_law_grid_here"] 1:=⟨_,λN=>by
 exact hY 1 (N.1 40) o5 λb A w s H E c=>aq (aO (aB (bC rfl (gt ["_law_column"] ["_law_column"] []) (bj (vc ((pA K a).2 N) c (c4 (vv 0)))) (λG C d s H=>⟨(dq 0 en),aU,λD=>aP rfl (gF N.Dw (c4 (vv 0))) rfl⟩) ax ay (λD=>aZ))))⟩
theorem zM:ba ["_law_block","_law_columns"] ["_law_block","_law_columns"] (ak (bw 52)):=ff
def rY(K:NR)(a:Ad):G:=
  l5 (gB 1 [1] (cL f9 (aa (ah 0) (aA))) (gs 0) (λ_=>M.h0 Nf) (oH (ie 1 [] (cL f9 (aa (ah 1) (aA))) (gs 0) (λ_=>M.h0 Nf) (ko (aT f7 (aa (fC (.n 0)) (aa (fC (.n 40)) (aA))))))))
def lV(K:NR)(a:Ad):a0b->M a0u:=m7 2 (rY K a)
theorem ya(N:tx K mg a):ee P w K mg ac (fx P w) 2 a.Ci a.Cj ["_law_block","_law_columns"] (ZQ K 2 (lV K a)):=by
 unfold lV;exact Ix (k:=1) 2 2 (rY K a) (N.1 41).F zM rfl rfl λb A G s H E d=>aq (HA (aB (Kt rfl (gt ["_law_at","_law_columns"] ["_law_at"] [1]) (cT (by rfl) N.Dr (c4 (vv 0))) (λM C c s H=>⟨(dq 0 en),aU,λD=>aP rfl (JX rfl (gt ["_law_to"] ["_law_to"] []) (cT (by rfl) N.Dr (c4 (vv 1))) (λM C c s H=>⟨(dq 0 en),aU,λD=>aP rfl (dg (dk (ae) (ae))) rfl⟩) ax ay (λD=>aZ)) rfl⟩) ax ay (λD=>jY))))
theorem dL:ba ["_law_bag_here","_law_grid_here","_law_told","_law_at","_law_row","_law_to","_law_count","_law_way"] ["_law_bag_here","_law_grid_here"] (ak (bw 53)):=ff
def iG(K:NR)(a:Ad):QF K a 3 "_law_bounds" a.Ck a.Cl ["_law_bag_here","_law_grid_here"] 2:=⟨_,λN=>by
 exact hY 8 (N.1 42) dL λd A w s H E c=>ag (Gz (d4 2 dL.nd (Ku (ya N) (c.mono (by decide)) (by rfl) (N.1 41).m (N.1 41).F.kp (N.1 41).b kC (dk (dW N.Dm (c4 (vv 1))) (dW N.Dm (c4 (bn aD bq (vv 1) (ae))))) (bF (bF D1)))))
   (ag (bH (bo (bJ c) bU (vc (aL N) c (dk (vv 0) (ae))) (ae)) (aq (aO (aB (vv 2)))) (bu))
   (ag (bP (jX (cS aR (cS aR iM)) (cR (cR gJ))) (bE cj rfl (lY (by rfl) N.Di (c4 (vv 1))) (bX rfl (aE (dq 3 dL.nd) (aE (dq 4 dL.nd) bL))) (aq (bP (jX (cS aR (cS aR iM)) (cR (cR gJ))) (bE cj rfl (lY (by rfl) N.Di (c4 (vv 4))) (bX rfl (aE (dq 5 dL.nd) (aE (dq 6 dL.nd) bL))) (ag (aK (d4 7 dL.nd (vc (aL N) c (dk (vv 0) (ae)))))
   (ag (bH (bo (bJ c) bU (vv 7) (ae)) (aq (fS (ck (dg (dk (aF dG eS (vv 6) (vc (aL N) c (dk (vv 0) (aF aC bv (vv 6) (ae))))) (bV (jE rfl) tj (by rfl) N.Dq Boot.«min» (dk (ae) (aF aC bv (vv 6) (vc (aL N) c (dk (vv 0) (ae)))))))) (cX (cZ bQ (pv 2) (vv 3) (λ_ _=>rfl)) (vv 5) cr)))) (bu))
   (aq (bH (bo (bJ c) bU (vv 7) (ae)) (aq (fS (ck (dg (dk (ae) (bV (sB rfl) GQ (by rfl) N.Dp Boot.«max» (dk (vv 6) (vc (aL N) c (dk (vv 0) (ae))))))) (cX (cZ bQ (pv 2) (vv 3) (λ_ _=>rfl)) (vv 5) cr)))) (bu))))))))))
   (aq (aO (aB (vv 2))))))⟩
theorem v7:ba ["_law_block"] ["_law_block"] (ak (bw 54)):=ff
def iF(K:NR)(a:Ad):QF K a 2 "_law_copied" a.Cn a.Co ["_law_block"] 1:=⟨_,λN=>by
 exact hY 1 (N.1 43) v7 λb A w s H E c=>aq (aO (aB (bC rfl (gt ["_law_row"] ["_law_row"] []) (bj (vv 0)) (λG C d s H=>⟨(dq 0 en),aU,λD=>aP rfl (cq cI jd (by rfl) N.Do Boot.«list» (c4 (vv 0))) rfl⟩) ax ay (λD=>aZ))))⟩
theorem eV:ba ["_law_rests","_law_lot","_law_pairs","_law_found","_law_rest","_law_duo","_law_longer","_law_one","_law_count"] ["_law_rests","_law_lot","_law_pairs"] (ak (bw 55)):=ff
def mI(K:NR)(a:Ad):QF K a 2 "_law_fit" a.Cp a.Cq ["_law_rests","_law_lot","_law_pairs"] 3:=⟨_,λN=>by
 exact hY 9 (N.1 44) eV λb A w s H E c=>ag (aK (d4 3 eV.nd (cY (c4 (cY (iT))))))
   (ag (bP (jX (cS aR (cS aR iM)) (cR (cR gJ))) (bE cj rfl (pY (by rfl) N.Dy (dk (vv 0) (vv 2))) (bX rfl (aE (dq 4 eV.nd) (aE (dq 5 eV.nd) bL))) (ag (o6 (d4 6 eV.nd (gu (iT))))
   (ag (bP aR (bE cj rfl (bj (vv 3)) (dq 7 eV.nd) (aq (bP aR (bE cj rfl (kK (by rfl) N.Dr (dk (bn aD bq (vv 5) (ae)) (aF aC bv (bV (jE rfl) tj (by rfl) N.Dq Boot.«min» (dk (bn aD bq (vv 5) (ae)) (vv 4))) (ae)))) (dq 8 eV.nd) (aq (pk (dY (kz PN Qd Qe gh (pv 6) (c4 (aF aC bv (vv 7) (cY (c4 (vv 8))))))))))))))
   (uJ 6 (aq (aK (d4 3 eV.nd (vv 6)))))))))
   (aq (aO (aB (bC rfl (gt ["_law_one","_law_lot"] ["_law_one"] [1]) (bj (vv 3)) (λG C d s H=>⟨(dq 0 en),tK (bo (bJ c) bU (gF N.Dw (c4 (vv 0))) (vv 1)),λD=>aP rfl (vv 0) rfl⟩) ax ay (λD=>aZ))))))⟩
theorem zL:ba ["_law_rests","_law_column"] ["_law_rests","_law_column"] (ak (bw 56)):=ff
def kq(K:NR)(a:Ad):QF K a 2 "_law_less" a.Cr a.Cs ["_law_rests","_law_column"] 2:=⟨_,λN=>by
 exact hY 2 (N.1 45) zL λb A w s H E c=>aq (aO (aB (bC rfl (gt ["_law_rest","_law_count"] ["_law_rest","_law_count"] []) (pY (by rfl) N.Dy (dk (vv 0) (vv 1))) (λG C d s H=>⟨(bX rfl (aE (dq 0 en) (aE (dq 1 en) bL))),aU,λD=>aP rfl (aF dG eS (vv 0) (vv 1)) rfl⟩) (dI (aY ax (aY ax cN)) (aW (aW cc))) (dD (aX ay (aX ay cK))) (λD=>aZ))))⟩
theorem ft:ba ["_law_lot","_law_found","_law_k"] ["_law_lot"] (ak (bw 57)):=ff
def f6(K:NR)(a:Ad):QF K a 2 "_law_factorial" a.Ct a.Cu ["_law_lot"] 1:=⟨_,λN=>by
 exact hY 3 (N.1 46) ft λb A w s H E c=>ag (aK (d4 1 ft.nd (ae)))
   (ag (bP aR (bE cj rfl (kK (by rfl) N.Dr (dk (ae) (aF aC bv (vv 0) (ae)))) (dq 2 ft.nd) (aq (aK (d4 1 ft.nd (aF gM kI (vv 1) (vv 2)))))))
   (aq (aO (aB (vv 1)))))⟩
theorem jr:ba ["_law_parts","_law_under","_law_part"] ["_law_parts"] (ak (bw 58)):=ff
def n5(K:NR)(a:Ad):QF K a 3 "_law_ways" a.Cv a.Cw ["_law_parts"] 1:=⟨_,λN=>by
 exact hY 3 (N.1 47) jr λc A w s H E b=>ag (aK (d4 1 jr.nd (ae)))
   (ag (bP aR (bE cj rfl (bj (vv 0)) (dq 2 jr.nd) (aq (aK (d4 1 jr.nd (aF gM kI (vv 1) (vc ((f6 K a).2 N) b (c4 (vv 2)))))))))
   (aq (aO (aB (aF Ef Kg (vc ((f6 K a).2 N) b (c4 (gF N.Dw (c4 (vv 0))))) (vv 1))))))⟩
theorem ju:ba ["self","rowsums","columnsums","bounds","settled"] ["self","rowsums","columnsums","bounds"] (ak (aQ (bw 39) 0)):=ff
def vx(K:NR)(a:Ad):IP:=
  mW (gA 4 (bK (cV K a).1 (aa (ah 1) (aa (ah 2) (aa (ah 3) (aA))))))
  (mW (pZ (bK (fU K a).1 (aa (ah 1) (aa (ah 2) (aa (ah 4) (aA))))))
  (jC (aT sZ (aa (ah 1) (aA)))
  (jC (aT sZ (aa (ah 2) (aA)))
  (jC (ah 4)
  (jC (bK (dF K a).1 (aa (ah 1) (aa (ah 2) (aa (ah 4) (aA)))))
  (GV))))))
def pL(K:NR)(a:Ad):a0b->M a0b:=mZ 5 (vx K a)
theorem HV(N:tx K mg a):ee P w K mg ac (fx P w) 6 a.C9 a.Da ["self","rowsums","columnsums","bounds"] (Zg K a.Ae ["row_list","column_list","pairs","counted"] 3 (pL K a)):=by
 unfold pL
 exact Iw (k:=5) 3 5 (vx K a) (N.1 55) ju rfl rfl λc A D s H E b=>GW (aK (d4 4 ju.nd (vc ((cV K a).2 N) b (mm (vv 1) (vv 2) (vv 3)))))
   (GW (ph (dY (vc ((fU K a).2 N) b (mm (vv 1) (vv 2) (vv 4)))))
   (tw (N.1 58) (N.1 63) (by decide) (by decide) (pE (pv 0) (cq cI jd (by rfl) N.Do Boot.«list» (c4 (vv 1))) rfl)
   (tw (N.1 58) (N.1 60) (by decide) (by decide) (pE (pv 0) (cq cI jd (by rfl) N.Do Boot.«list» (c4 (vv 2))) rfl)
   (tw (N.1 58) (N.1 62) (by decide) (by decide) (pE (pv 0) (vv 4) rfl)
   (tw (N.1 58) (N.1 61) (by decide) (by decide) (pE (pv 0) (vc ((dF K a).2 N) b (mm (vv 1) (vv 2) (vv 4))) rfl)
   (MR))))))
theorem DY:ba ["_law_grid_here","_law_limits"] ["_law_grid_here","_law_limits"] (ak (bw 59)):=ff
def qF(K:NR)(a:Ad):QF K a 8 "_law_net" a.Cy a.Cz ["_law_grid_here","_law_limits"] 2:=⟨_,λN=>by
 exact hY 2 (N.1 48) DY λc A w s H E b=>aq (aO (aB (Hf (N.1 56) (HV N) (b.mono (by decide)) (by rfl) (N.1 59) (N.1 57) kC (dk (vc ((jJ K a).2 N) b (c4 (vv 0))) (vc ((gL K a).2 N) b (c4 (vv 0)))) (qx (vc ((iF K a).2 N) b (c4 (vv 1))) (ue)) (bF (bF D1)) (bF D1) rfl)))⟩
theorem eC:ba ["_law_rowsums_here","_law_columnsums_here","_law_limits","_law_levels","_law_to","_law_lot","_law_seen","_law_rests","_law_column"] ["_law_rowsums_here","_law_columnsums_here","_law_limits"] (ak (bw 60)):=ff
def lL(K:NR)(a:Ad):QF K a 3 "_law_nodes" a.C0 a.C2 ["_law_rowsums_here","_law_columnsums_here","_law_limits"] 3:=⟨_,λN=>by
 exact hY 9 (N.1 49) eC λd A w s H E c=>ag (o6 (d4 3 eC.nd (gu (c4 (cY (c4 (cq dC iO (by rfl) N.Dx Boot.«tuple» (c4 (vv 0)))))))))
   (ag (bP (jX (cS aR (cS aR iM)) (cR (cR gJ))) (bE cj rfl (lY (by rfl) N.Di (c4 (vv 1))) (bX rfl (aE (dq 4 eC.nd) (aE (dq 5 eC.nd) bL))) (ag (GA (d4 6 eC.nd (n9 (b:=Ni))))
   (ag (Jn aR (bE cj rfl (AF (cZ bQ (pv 3) (pv 4) (λ_ _=>rfl))) (dq 7 eC.nd) (aq (bP aR (bE cj rfl (bj (vc ((mI K a).2 N) c (mm (vv 7) (vv 5) (bC rfl (gt ["_law_row","_law_to"] ["_law_row"] [4]) (bj (vv 2)) (λG C e s H=>⟨(dq 0 en),aU,λD=>aP rfl (bn aD bq (vv 0) (vv 1)) rfl⟩) ax ay (λD=>aZ))))) (dq 8 eC.nd) (aq (uK (ck (lf) (cX (pv 6) (cq dC iO (by rfl) N.Dx Boot.«tuple» (c4 (vc ((kq K a).2 N) c (dk (vv 7) (vv 8))))) (kn (YC c)))))))))))
   (uJ 6 (aq (pk (dY (kz PN Qd Qe gh (pv 3) (c4 (bV (jh rfl c.units) BM (by rfl) N.Du Boot.«sorted» (c4 (vv 6)))))))))))))
   (aq (aO (aB (vv 3)))))⟩
theorem bG:ba ["_law_rowsums_here","_law_columnsums_here","_law_limits","_law_levels","_law_told","_law_rests","_law_stage","_law_tables","_law_dealings","_law_column","_law_more"] ["_law_rowsums_here","_law_columnsums_here","_law_limits"] (ak (bw 61)):=ff
def jK(K:NR)(a:Ad):QF K a 4 "_law_counted" a.C3 a.C4 ["_law_rowsums_here","_law_columnsums_here","_law_limits"] 3:=⟨_,λN=>by
 exact hY 11 (N.1 50) bG λd A w s H E c=>ag (aK (d4 3 bG.nd (vc ((lL K a).2 N) c (mm (vv 0) (vv 1) (vv 2)))))
   (ag (GA (d4 4 bG.nd (n9 (b:=Nf))))
   (ag (bP aR (bE cj rfl (bj (bn aD bq (vv 3) (xE oQ s0 (ae)))) (dq 5 bG.nd) (aq (uK (ck (dg (dk (ae) (ae))) (cX (pv 4) (dg (dk (dW N.Dm (c4 (vv 1))) (vv 5))) (kn (YC c))))))))
   (ag (bP aR (bE cj rfl (EQ (by rfl) N.Dr (mm (aF dG eS (dW N.Dm (c4 (vv 1))) (ae)) (aF dG eS (ae) (ae)) (aF dG eS (ae) (ae)))) (dq 6 bG.nd) (aq (bP aR (bE cj rfl (bj (bn aD bq (vv 3) (vv 6))) (dq 5 bG.nd) (ag (aK (d4 7 bG.nd (ae)))
   (ag (aK (d4 8 bG.nd (ae)))
   (ag (bP aR (bE cj rfl (bj (vc ((mI K a).2 N) c (mm (vv 5) (bn aD bq (vv 1) (vv 6)) (bC rfl (gt ["_law_row","_law_stage"] ["_law_row"] [6]) (bj (vv 2)) (λG C e s H=>⟨(dq 0 en),aU,λD=>aP rfl (bn aD bq (vv 0) (vv 1)) rfl⟩) ax ay (λD=>aZ))))) (dq 9 bG.nd) (ag (zO (d4 10 bG.nd (bn (pR (YC c)) yu (vv 4) (dg (dk (aF aC bv (vv 6) (ae)) (cq dC iO (by rfl) N.Dx Boot.«tuple» (c4 (vc ((kq K a).2 N) c (dk (vv 5) (vv 9))))))))))
   (ag (aK (d4 7 bG.nd (aF aC bv (vv 7) (bn aD bq (vv 10) (ae)))))
   (aq (aK (d4 8 bG.nd (aF aC bv (vv 8) (aF gM kI (bn aD bq (vv 10) (ae)) (vc ((n5 K a).2 N) c (c4 (vv 9))))))))))))
   (aq (uK (ck (dg (dk (vv 7) (vv 8))) (cX (pv 4) (dg (dk (vv 6) (vv 5))) (kn (YC c))))))))))))))
   (aq (aO (aB (bC rfl (gt ["_law_key","_law_told"] ["_law_key"] [4]) (bj (bV (jh rfl c.units) BL (by rfl) N.Du Boot.«sorted» (c4 (vv 4)))) (λG C e s H=>⟨(dq 0 en),aU,λD=>aP rfl (aF aC bv (vv 0) (bn (pR (YC c)) yu (vv 1) (vv 0))) rfl⟩) ax ay (λD=>aZ))))))))⟩
theorem ef:ba ["_law_bag_here","_law_block","_law_where","_law_told","_law_at","_law_way","_law_kept"] ["_law_bag_here","_law_block","_law_where"] (ak (bw 62)):=ff
def kr(K:NR)(a:Ad):QF K a 3 "_law_bent" a.C5 a.C6 ["_law_bag_here","_law_block","_law_where"] 3:=⟨_,λN=>by
 exact hY 7 (N.1 51) ef λd A w s H E b=>ag (pb (i:=3) ef.nd rfl (by first|exact P5 rfl|exact Re rfl) rfl (gt ["_law_row"] ["_law_row"] []) (bj (vv 1)) (λG C c s H=>⟨(dq 0 en),aU,λD=>aP rfl (Eh cI Id (by rfl) N.Do Boot.«list» (c4 (vv 0))) rfl⟩) ax ay (λD=>jY))
   (ag (Jl (d4 4 ef.nd (vc (aL N) b (dk (vv 0) (dW N.Dm (c4 (vv 3)))))))
   (ag (aK (d4 5 ef.nd (vc (aL N) b (dk (vv 0) (ae)))))
   (ag (bH (bo pF vi (vv 5) (ae)) (aq (fS (ck (aF dG eS (aF aC bv (bn aD bq (bn aD bq (vv 3) (vv 4)) (vv 2)) (ae)) (aF gM kI (ae) (vv 5))) (cX (cZ bQ (pv 3) (vv 4) (λ_ _=>rfl)) (vv 2) cr)))) (bu))
   (ag (bH (bo (bJ b) bU (vv 5) (ae)) (Jk 3 (aq (Jm (dY (kz PN PySem.F.slot_list_pop PySem.F.type_list_pop Em (pv 3) (c4 (vv 4))))))) (bu))
   (ag (bH (bo (bJ b) bU (vv 5) (ae)) (Jk 3 (aq (Jo (dY (kz PN Qd Qe gh (pv 3) (eM (cZ bQ (pv 3) (pv 4) (λ_ _=>rfl)) hX)))))) (bu))
   (ag (bH (bo (bJ b) bU (vv 5) (ae)) (uJ 3 (aq (aK (d4 3 ef.nd (aF aC bv (ge (vv 3) (fV (ae)) (fW)) (ge (vv 3) (fW) (fV (ae)))))))) (bu))
   (ag (bH (bo (bJ b) bU (vv 5) (ae)) (uJ 3 (aq (pb (i:=3) ef.nd rfl (by first|exact P5 rfl|exact Re rfl) rfl (gt ["_law_row"] ["_law_row"] []) (bj (vv 3)) (λG C c s H=>⟨(dq 0 en),aU,λD=>aP rfl (GM (aF aC bv (ge (vv 0) (fW) (fV (ae))) (cY (dk (aF gM kI (ae) (bn aD bq (vv 0) (ae))) (aF gM kI (ae) (bn aD bq (vv 0) (ae)))))) (ge (vv 0) (fV (ae)) (fW))) rfl⟩) ax ay (λD=>jY)))) (bu))
   (ag (bH (bo (bJ b) bU (vv 5) (ae)) (uJ 3 (aq (pb (i:=3) ef.nd rfl (by first|exact P5 rfl|exact Re rfl) rfl (gt ["_law_row"] ["_law_row"] []) (bj (vv 3)) (λG C c s H=>⟨(dq 0 en),aU,λD=>aP rfl (GM (aF aC bv (ge (vv 0) (fW) (fV (ae))) (cY (dk (aF aC bv (bn aD bq (vv 0) (ae)) (ae)) (aF aC bv (bn aD bq (vv 0) (ae)) (ae))))) (ge (vv 0) (fV (ae)) (fW))) rfl⟩) ax ay (λD=>jY)))) (bu))
   (ag (bH (bo (bJ b) bU (vv 5) (ae)) (aq (fS (ck (aF aC bv (ug (bn aD bq (bn aD bq (vv 3) (vv 4)) (ae)) (fV (ae)) (fW)) (ug (bn aD bq (bn aD bq (vv 3) (vv 4)) (ae)) (fW) (fV (ae)))) (cX (cZ bQ (pv 3) (vv 4) (λ_ _=>rfl)) (ae) cr)))) (bu))
   (ag (bH (bo (bJ b) bU (vv 5) (ae)) (ag (zO (d4 6 ef.nd (bn aD bq (bn aD bq (vv 3) (vv 4)) (ae))))
   (ag (fS (ck (bn aD bq (bn aD bq (vv 3) (aF dG eS (vv 4) (ae))) (ae)) (cX (cZ bQ (pv 3) (vv 4) (λ_ _=>rfl)) (ae) cr)))
   (aq (fS (ck (vv 6) (cX (cZ bQ (pv 3) (aF dG eS (vv 4) (ae)) (λ_ _=>rfl)) (ae) cr)))))) (bu))
   (ag (bH (bo (bJ b) bU (vv 5) (ae)) (aq (fS (ck (aF aC bv (bn aD bq (bn aD bq (vv 3) (vv 4)) (ae)) (ae)) (cX (cZ bQ (pv 3) (vv 4) (λ_ _=>rfl)) (ae) cr)))) (bu))
   (ag (bH (bo (bJ b) bU (vv 5) (ae)) (ag (fS (ck (aF aC bv (bn aD bq (bn aD bq (vv 3) (ae)) (vv 2)) (ae)) (cX (cZ bQ (pv 3) (ae) (λ_ _=>rfl)) (vv 2) cr)))
   (aq (fS (ck (aF aC bv (bn aD bq (bn aD bq (vv 3) (xE oQ s0 (ae))) (vv 2)) (ae)) (cX (cZ bQ (pv 3) (xE oQ s0 (ae)) (λ_ _=>rfl)) (vv 2) cr))))) (bu))
   (aq (aO (aB (bC rfl (gt ["_law_row"] ["_law_row"] []) (bj (vv 3)) (λG C c s H=>⟨(dq 0 en),aU,λD=>aP rfl (cq dC iO (by rfl) N.Dx Boot.«tuple» (c4 (vv 0))) rfl⟩) ax ay (λD=>aZ)))))))))))))))))⟩
theorem uA:ba ["self"] ["self"] (ak (aQ (bw 39) 10)):=ff
def nC(K:NR)(a:Ad):QM K a 3 a.C7 a.C8 ["self"] 1:=⟨_,λN=>by
 exact l6 (k:=2) 1 1 _ (N.1 52) uA rfl rfl λb A w s H E c=>aq (aO (aB (vc ((gr K a).2 N) c (c4 (L7 (N.1 58) (N.1 61) (vv 0))))))⟩
theorem eF:ba ["_law_script","_law_bag_here","_law_grid_here","_law_limits","_law_rowsums_here","_law_columnsums_here","_law_due","_law_paper","_law_bent_here","_law_handed","_law_told"] ["_law_script"] (ak mH):=ff
def pz(K:NR)(a:Ad):{g:G//∀(P:N9) (w:Ol) {mg:a0i} (ac:OO) (N:tx K mg a) (f:Nh) (c:Nj) (A:Ot) (D:a0C) (s:Nq) (H:Hp) (E:XK),dr 8 (A.deeper (Rows.envOfC "law" (ak mH) s.heap.objs.size f c))->PSs (fP (fx P w) P w K mg ac ["_law_script","_law_bag_here","_law_grid_here","_law_limits","_law_rowsums_here","_law_columnsums_here","_law_due","_law_paper","_law_bent_here","_law_handed","_law_told"] "law" (ak mH) f c A D s H E) (cB mH).tail (tG K H g (λ_=>E))}:=⟨_,λP w mg ac N f c A D s H E b=>by
 exact ag (aK (d4 2 eF.nd (vc ((jy K a).2 N) b (c4 (vv 1)))))
   (ag (bH (bo (bJ b) bU (vc (aL N) b (dk (vv 1) (ae))) (ae)) (aq (aK (d4 2 eF.nd (vc (yb N) b (c4 (vv 1)))))) (bu))
   (ag (aK (d4 3 eF.nd (vc ((iG K a).2 N) b (dk (vv 1) (vv 2)))))
   (ag (aK (d4 4 eF.nd (vc ((jJ K a).2 N) b (c4 (vv 2)))))
   (ag (aK (d4 5 eF.nd (vc ((gL K a).2 N) b (c4 (vv 2)))))
   (ag (aK (d4 6 eF.nd (vc ((jK K a).2 N) b (mm (vv 4) (vv 5) (vv 3)))))
   (ag (aK (d4 7 eF.nd (He (N.1 58) (N.1 53) ((nC K a).2 N) (b.mono (by decide)) (kW.nil (N.1 54)) kC (vc ((qF K a).2 N) b (dk (vv 2) (vv 3))) rfl)))
   (ag (bH (sS (oS (vc (rR N) b (dk (vv 7) (vv 6))))) (aq (aO (aB (lf)))) (bu))
   (ag (bH (li (ud (bo HR Kf (we ((gX K a).2 N) (b.mono (by decide)) (by rfl) (N.1 29) (N.1 28).kp (N.1 30) kC (mm (vv 4) (vv 5) (vv 7)) (qx (vc ((iF K a).2 N) b (c4 (vv 3))) (ue)) (bF (bF (bF D1))) (bF D1) rfl) (lf)) (oM (bo (gv b) iI (vv 7) (vv 6))))) (aq (aO (aB (lf)))) (bu))
   (ag (aK (d4 8 eF.nd (vc ((kr K a).2 N) b (mm (vv 1) (vv 6) (aF aC bv (ae) (vc (aL N) b (dk (vv 1) (ae))))))))
   (ag (aK (d4 9 eF.nd (cq cI jd (by rfl) N.Do Boot.«list» (c4 (vv 8)))))
   (ag (aK (d4 10 eF.nd (we ((gX K a).2 N) (b.mono (by decide)) (by rfl) (N.1 29) (N.1 28).kp (N.1 30) kC (mm (cq cI jd (by rfl) N.Do Boot.«list» (c4 (vv 4))) (cq cI jd (by rfl) N.Do Boot.«list» (c4 (vv 5))) (vv 9)) (qx (vc ((iF K a).2 N) b (c4 (vv 3))) (ue)) (bF (bF (bF D1))) (bF D1) rfl)))
   (aq (aO (aB (Gp (vc (rR N) b (dk (vv 10) (iB (bJ b) bU (vv 8) (vv 6)))) (Gn (iB (bJ b) bU (vv 9) (vv 8))))))))))))))))))⟩
theorem JW{f:Nh}{o:N1}(F:io K "law" "law" mH f o)(N:tx K mg a)(T:∀G:Bg,G.ok->∃c,(pz K a).1 [Na,My (.h .bag),Na,Na,Na,Na,Na,Na,Na,Na,Na] G=My (.rt (.c Nf),c)):
  ee P w K mg ac (fx P w) 9 f o ["_law_script"] (Gv K):=by
 refine F.okE (k:=8) eF (λM H Q E h=>?_) (λd A D s H M Q E p h=>?_)
 .obtain⟨a,ns,rfl,_⟩:=h
  rfl
 .obtain⟨a1,ns,rfl,r,q,k⟩:=h
  have rest:=(pz K a).2 P w ac N f d A D s H E p;refine⟨_,c9 (rest:=(cB mH).tail) (d4 1 eF.nd (mM (Eg N) (p.mono (by decide)) rfl (N.1 31).m (N.1 31).F.kp (N.1 31).b .nil x6 (eM (pv 0) hX))) rest,?_⟩;refine⟨_,rfl,a1,ns,rfl,r,λb l C g i t u=>?_⟩;obtain⟨G,ok,j⟩:=IH (K:=K) (a:=a1) (n:=["_law_script","_law_bag_here","_law_grid_here","_law_limits","_law_rowsums_here","_law_columnsums_here","_law_due","_law_paper","_law_bent_here","_law_handed","_law_told"].length-2) u g i t;obtain⟨c,e⟩:=T G ok;exact⟨_,_,_,G,_,c,j,e,λv I y s fr B=>by cases B.bl;exact k y⟩
end
end Law
namespace L2.Pu
noncomputable def c_:Nat->Nat
 |0=>1
 |n+1=>c_ n*(n+1)
noncomputable def pr(l:a0a):Nat:=l.foldr (·*·) 1
theorem JE:pr []=1:=rfl
theorem AC(l m:a0a):pr (l++m)=pr l*pr m:=by
 induction l with
 |nil=>simp[pr]
 |cons x l w=>
  show x*pr (l++m)=x*pr l*pr m;rw[w,SY]
theorem Hk{w:Type}{l:List w}{i:Nat}{x:w}(h:l[i]?=My x):l.take (i+1)=l.take i++[x]:=by
 rw[List.take_succ,h];rfl
theorem jV{w:Type}{f:w->Nat}{l:List w}{i:Nat}{x:w}(h:l[i]?=My x):pr ((l.take (i+1)).map f)=pr ((l.take i).map f)*f x:=by
 rw[Hk h,NV,AC];simp[pr]
theorem j5:∀n,0<c_ n
 |0=>by decide
 |n+1=>Nat.mul_pos (j5 n) (by lia)
theorem EZ:∀{n m:Nat},n<=m->c_ n<=c_ m:=by
 intro n m h
 induction h with
 |refl=>exact No _
 |step h w=>exact NK w (WE _ (by lia))
theorem MZ:c_ 40<=2^160:=by decide +kernel
theorem j6{n:Nat}(h:n<=40):c_ n<=2^160:=NK (EZ h) MZ
theorem uQ{l:a0a}(h:∀x∈l,0<x):0<pr l:=by
 induction l with
 |nil=>decide
 |cons x l w=>exact Nat.mul_pos (h x Np) (w λy D=>h y (Nk _ D))
theorem Mo{l:a0a}{m:Nat}(h:∀x∈l,x<=2^m):pr l<=2^(m*SW l):=by
 induction l with
 |nil=>exact Nat.one_le_two_pow
 |cons x l w=>
  show x*pr l<=_;rw[NB,Nat.mul_succ,WJ,Nat.pow_add];exact Nat.mul_le_mul (h x Np) (w λy D=>h y (Nk _ D))
theorem iN{l:a0a}{x:Nat}(h:x∈l):x<=l.sum:=by
 induction l with
 |nil=>cases h
 |cons y l w=>
  rw[N2];rcases NC.mp h with rfl|h
  .lia
  .have:=w h;lia
theorem dZ{t m:Nat}(h:t<=2^m)(w:m<=999):t<2^1000:=Oj (NK h (S4 (by decide) w)) (Nat.pow_lt_pow_right (by decide) (by decide))
theorem qJ{t n:Nat}(a:t<2^1000)(b:n<2^1000):u6 (.n (t:Int)) (.n (n:Int))=My (.n ((t*n:Nat):Int)):=by
 have c:cf (t:Int)=Nf:=NF (by rw[UU];exact a);have d:cf (n:Int)=Nf:=NF (by rw[UU];exact b);show(if(cf (t:Int)&&cf (n:Int))=Nf then _ else _)=_;simp only[c,d,T9,OC];rfl
theorem G0{t g:Nat}(d:0<g)(a:g<2^1000):yM (.n (t:Int)) (.n (g:Int))=My (.n ((t/g:Nat):Int)):=by
 have b:decide ((0:Int)<(g:Int))=Nf:=NF (by lia);have c:decide (((g:Int)).natAbs.log2<9000)=Nf:=NF (by
  rw[UU];have:=(Nat.log2_lt (n:=g) (k:=1000) (by lia)).mpr a;lia)
 show(if(decide ((0:Int)<(g:Int))&&decide (((g:Int)).natAbs.log2<9000))=Nf then _ else _)=_;simp only[b,c,T9,OC];rfl
theorem i8(l:a0a):(nI l).sum=((l.sum:Nat):Int):=by
 induction l with
 |nil=>rfl
 |cons x l w=>
  show(x:Int)+(nI l).sum=_;rw[w,N2,QH]
theorem mQ{l:a0a}{i:Nat}{d:D}(h:((nI l).map D.n)[i]?=My d):∃n,l[i]?=My n/\d= .n (n:Int):=by
 obtain⟨x,w,rfl⟩:=bS h;obtain⟨n,E,rfl⟩:=bS w;exact⟨n,E,rfl⟩
theorem lS(l:a0a):SW ((nI l).map D.n)=SW l:=by rw[M9,M9]
def Sq(l:a0a)(d:D):Prop:=d=nL l\/d= .t ((nI l).map D.n)
theorem Sq.seq{l:a0a}{d:D}(h:Sq l d):dE d=My ((nI l).map D.n):=by rcases h with rfl|rfl<;>rfl
theorem ZT{i j:Int}(a:0<=i)(b:i<=10^9)(c:0<=j)(d:j<=10^9):nY [.n i,.n j]=My (bx i (j-i).toNat):=by
 have q:(decide (-(2^62)<=i)&&decide (i<2^62)&&decide (-(2^62)<=j)&&decide (j<2^62))=Nf:=by
  simp only[N5,Og];lia
 show(if(decide (-(2^62)<=i)&&decide (i<2^62)&&decide (-(2^62)<=j)&&decide (j<2^62))=Nf then My (bx i (j-i).toNat)else Na)=_;rw[Nu q]
theorem rg2{n:Nat}(h:n<=1000):nY [.n 2,.n ((n:Int)+1)]=My (bx 2 (n-1)):=by
 rw[ZT (by decide) (by decide) (by lia) (by lia),show((n:Int)+1-2).toNat=n-1 by lia]
end L2.Pu
namespace L2.Pu
open L2.Hs
def kJ(k:a0d):LI->LI
 |[]=>[k]
 |x::l=>if bZ k x=Nf then k::x::l else if k=x then x::l else x::kJ k l
set_option tactic.hygienic true in
theorem ll{k y:a0d}:∀{l:LI},y∈kJ k l↔y=k\/y∈l
 |[]=>by simp[kJ]
 |x::l=>by
  unfold kJ;split
  .simp
  .split
   .rename_i h
    subst h;simp
   .rw[NC,ll,NC]
    exact or_left_comm
set_option tactic.hygienic true in
theorem w5{k:a0d}:∀{l:LI},Up l->Up (kJ k l)
 |[],_=>by unfold kJ;exact OW _ _
 |x::l,h=>by
  obtain⟨a,b⟩:=Qy.mp h;unfold kJ;split
  .rename_i q
   refine Qy.mpr ⟨λy hy=>?_,h⟩;rcases NC.mp hy with rfl|hy
   .exact q
   .exact pP q (a y hy)
  .split
   .exact h
   .rename_i q1 q2
    refine Qy.mpr ⟨λy hy=>?_,w5 b⟩;rcases ll.mp hy with rfl|hy
    .cases q:bZ x y with
     |true=>rfl
     |false=>exact NW (mR (by simpa using q1) q) q2
    .exact a y hy
def lA(a:LI):LI:=a.foldr kJ []
theorem jO:∀a,Up (lA a)
 |[]=> .nil
 |k::a=>w5 (jO a)
theorem eU{y:a0d}:∀{a:LI},y∈lA a↔y∈a
 |[]=>by simp[lA]
 |k::a=>by
  show y∈kJ k (lA a)↔_;rw[ll,eU,NC]
theorem Gr{l:LI}(h:Up l):l.Nodup:=h.imp λ{a b} q e=>by
 subst e;rw[gQ]at q;cases q
theorem Jf{a:LI}(c:∀k∈a,1<=SW k){m:LI}(w:SW m<63)(e:∀k∈a,k∈m):gn (a.map hE)=My (.l ((lA a).map hE)):=by
 refine ur ⟨jO a,Oj (nd_len (Gr (jO a)) λx D=>e x (eU.mp D)) w,λk b=>⟨c k (eU.mp b),Nm.mpr ⟨k,eU.mp b,rfl⟩⟩,λd E=>?_⟩;obtain⟨k,b,rfl⟩:=Nm.mp E;exact⟨k,eU.mpr b,rfl⟩
end L2.Pu
namespace L2.Nt
noncomputable def sm{w:Type}(l:List w)(f:w->Nat):Nat:=(l.map f).sum
section
variable{d e:Type}
theorem zF{f:d->Nat}:sm [] f=0:=rfl
theorem cJ{a:d}{l:List d}{f:d->Nat}:sm (a::l) f=f a+sm l f:=by unfold sm;rw[NI,N2]
theorem ut{l m:List d}{f:d->Nat}:sm (l++m) f=sm l f+sm m f:=by unfold sm;rw[NV,VB]
theorem eA{f g:d->Nat}:∀{l:List d},(∀a∈l,f a=g a)->sm l f=sm l g
 |[],_=>rfl
 |a::l,h=>by rw[cJ,cJ,h a Np,eA λb c=>h b (Nk a c)]
theorem zG{g:e->d}{f:d->Nat}{l:List e}:sm (l.map g) f=sm l λb=>f (g b):=by unfold sm;rw[Nx];rfl
theorem wq{g:e->List d}{f:d->Nat}:∀{l:List e},sm (l.flatMap g) f=sm l λb=>sm (g b) f
 |[]=>rfl
 |b::l=>by rw[O3,ut,cJ,wq]
theorem wo:∀{l:List d},(sm l λ_=>0)=0
 |[]=>rfl
 |a::l=>by rw[cJ,wo]
theorem zH{f g:d->Nat}:∀{l:List d},(sm l λa=>f a+g a)=sm l f+sm l g
 |[]=>rfl
 |a::l=>by rw[cJ,cJ,cJ,zH];lia
theorem oZ{c:Nat}{f:d->Nat}:∀{l:List d},(sm l λa=>c*f a)=c*sm l f
 |[]=>rfl
 |a::l=>by rw[cJ,cJ,oZ,Nat.mul_add]
theorem Gy{f:Nat->Nat}{m:Nat}:∀{n:Nat},m<=n->sm (Nr (m+1)) f=sm (Nr (n+1)) λa=>if a<=m then f a else 0
 |0,h=>by
  obtain rfl:m=0:=by lia
  exact eA λa d=>by
   have:=NS.mp d;rw[Nu (by lia)]
 |n+1,h=>by
  rcases U7 m (n+1)with q|q
  .rw[Qm (n:=n+1),ut,<-Gy (by lia:m<=n),cJ,zF,Nv (by lia)]
   lia
  .obtain rfl:m=n+1:=by lia
   exact eA λa d=>by
    have:=NS.mp d;rw[Nu (by lia)]
noncomputable def cE:a0a->Nat->a0M
 |[],0=>[[]]
 |[],_+1=>[]
 |x::r,c=>(Nr (QN x c+1)).flatMap λa=>(cE r (c-a)).map (a::·)
noncomputable def less(r v:a0a):a0a:=Tl (·-·) r v
theorem zf{x c:Nat}{r:a0a}{f:a0a->Nat}:sm (cE (x::r) c) f=sm (Nr (QN x c+1)) λa=>sm (cE r (c-a)) λv=>f (a::v):=by
 show sm ((Nr (QN x c+1)).flatMap λa=>(cE r (c-a)).map (a::·)) f=_;rw[wq];exact eA λa _=>zG
end
end L2.Nt
namespace L2.Nt
open L2.Pu
noncomputable def ch:Nat->Nat->Nat
 |_,0=>1
 |0,_+1=>0
 |n+1,k+1=>ch n k+ch n (k+1)
theorem qk:∀{n k:Nat},n<k->ch n k=0
 |0,k+1,_=>by simp[ch]
 |n+1,k+1,h=>by
  show ch n k+ch n (k+1)=0;rw[qk (by lia),qk (by lia)]
theorem q9(n:Nat):ch n 0=1:=by cases n<;>rfl
theorem xu:∀n,ch n n=1
 |0=>rfl
 |n+1=>by
  show ch n n+ch n (n+1)=1;rw[xu n,qk (by lia)]
theorem yN(n:Nat):c_ (n+1)=(n+1)*c_ n:=Qw (c_ n) (n+1)
theorem mh:∀n a b:Nat,a+b=n->ch (a+b) a*(c_ a*c_ b)=c_ (a+b)
 |n,0,b,_=>by rw[q9];simp[c_]
 |n,a+1,0,_=>by rw[Nat.add_zero,xu];simp[c_]
 |0,a+1,b+1,h=>by lia
 |n+1,a+1,b+1,h=>by
  have c:=mh n a (b+1) (by lia);have i2:=mh n (a+1) b (by lia);have d:a+1+(b+1)=(a+b+1)+1:=by lia
  have e:a+(b+1)=a+b+1:=by lia
  have f:a+1+b=a+b+1:=by lia
  rw[e]at c;rw[f]at i2;rw[d];show(ch (a+b+1) a+ch (a+b+1) (a+1))*(c_ (a+1)*c_ (b+1))=c_ (a+b+1+1);rw[yN (a+b+1),Xr];have g:ch (a+b+1) a*(c_ (a+1)*c_ (b+1))=(a+1)*c_ (a+b+1):=by
   rw[<-c,yN a];simp only[SY,So,Qw]
  have i:ch (a+b+1) (a+1)*(c_ (a+1)*c_ (b+1))=(b+1)*c_ (a+b+1):=by
   rw[<-i2,yN b];simp only[SY,So,Qw]
  rw[g,i,<-Xr,show a+1+(b+1)=a+b+1+1 by lia]
theorem mG{f:Nat->Nat}{n:Nat}:sm (Nr (n+1)) f=f 0+sm (Nr n) λa=>f (a+1):=by
 rw[Ul,cJ,zG]
theorem DL:∀(x y c:Nat),(sm (Nr (c+1)) λa=>ch x a*ch y (c-a))=ch (x+y) c
 |0,y,c=>by
  rw[mG,q9,Nat.one_mul,Va,Pi];have:(sm (Nr c) λa=>ch 0 (a+1)*ch y (c-(a+1)))=0:=(eA λa _=>by rw[qk (by lia),WM]).trans wo;rw[this];rfl
 |x+1,y,0=>by rw[mG];simp[q9,zF]
 |x+1,y,c+1=>by
  have b:=DL x y (c+1);have i2:=DL x y c;rw[mG]at b;rw[mG];have e:(sm (Nr (c+1)) λa=>ch (x+1) (a+1)*ch y (c+1-(a+1)))=(sm (Nr (c+1)) λa=>ch x a*ch y (c-a))+sm (Nr (c+1)) λa=>ch x (a+1)*ch y (c+1-(a+1)):=by
   rw[<-zH];refine eA λa _=>?_;show(ch x a+ch x (a+1))*_=_;rw[Xr,Nat.add_sub_add_right]
  rw[e,i2];have d:x+1+y=x+y+1:=by lia
  rw[d];show _=ch (x+y) c+ch (x+y) (c+1);rw[<-b,q9,q9];lia
theorem vdm(x y c:Nat):(sm (Nr (QN x c+1)) λa=>ch x a*ch y (c-a))=ch (x+y) c:=by
 rw[Gy (SL x c),<-DL];refine eA λa w=>?_;have:=NS.mp w;by_cases q:a<=x
 .rw[Nu (by lia)]
 .rw[Nv (by lia),qk (by lia),WM]
def pc:a0a->a0a->Nat
 |x::r,a::v=>ch x a*pc r v
 |_,_=>1
theorem AK:∀(r:a0a) (c:Nat),sm (cE r c) (pc r)=ch r.sum c
 |[],0=>rfl
 |[],c+1=>rfl
 |x::r,c=>by
  rw[zf,N2,<-vdm];exact eA λa _=>by rw[<-AK r (c-a),<-oZ];rfl
theorem ki:∀{r:a0a} {c:Nat} {v:a0a},v∈cE r c->v.sum=c/\(less r v).sum+c=r.sum/\SW v=SW r/\pr (r.map c_)=pc r v*(pr (v.map c_)*pr ((less r v).map c_))
 |[],0,v,h=>by cases NT.mp h;exact⟨rfl,rfl,rfl,rfl⟩
 |[],c+1,v,h=>by cases h
 |x::r,c,v,h=>by
  have D:v∈(Nr (QN x c+1)).flatMap λa=>(cE r (c-a)).map (a::·):=h;obtain⟨a,E,b⟩:=O7.mp D;obtain⟨u,d,rfl⟩:=Nm.mp b;have e:=NS.mp E;obtain⟨f,i2,g,i⟩:=ki d;refine⟨by rw[N2,f];lia,?_,by rw[NB,g,NB],?_⟩
  .show((x-a)::less r u).sum+c=_
   rw[N2,N2,<-i2];lia
  .show c_ x*pr (r.map c_)=(ch x a*pc r u)*((c_ a*pr (u.map c_))*(c_ (x-a)*pr ((less r u).map c_)))
   have w:=mh x a (x-a) (by lia);rw[show a+(x-a)=x by lia]at w;rw[i,<-w];simp only[SY,So,Qw]
def mu:a0a->Nat
 |[]=>1
 |x::r=>ch (x+r.sum) x*mu r
theorem jW:∀r:a0a,mu r*pr (r.map c_)=c_ r.sum
 |[]=>rfl
 |x::r=>by
  show(ch (x+r.sum) x*mu r)*(c_ x*pr (r.map c_))=c_ (x::r).sum;rw[N2,<-mh _ x r.sum rfl,<-jW r];simp only[SY,So,Qw]
theorem wJ(r:a0a):0<pr (r.map c_):=uQ λx w=>by
 obtain⟨n,_,rfl⟩:=Nm.mp w;exact j5 n
theorem J4(r:a0a):c_ r.sum/pr (r.map c_)=mu r:=by rw[<-jW,Nat.mul_div_cancel _ (wJ r)]
def YY:a0a->a0a->Nat
 |_,[]=>1
 |r,c::cs=>sm (cE r c) λv=>mu v*YY (less r v) cs
theorem Gf:∀{r:a0a},r.sum=0->mu r=1
 |[],_=>rfl
 |x::r,h=>by
  rw[N2]at h;obtain rfl:x=0:=by lia
  show ch _ 0*mu r=1;rw[q9,Gf (by lia)]
theorem qd:∀(cs r:a0a),r.sum=cs.sum->YY r cs=mu r
 |[],r,h=>(Gf h).symm
 |c::cs,r,h=>by
  rw[N2]at h;refine Nat.eq_of_mul_eq_mul_right (wJ r) ?_;rw[jW];show sm (cE r c) (λv=>mu v*YY (less r v) cs)*_=_;rw[Qw,<-oZ];have e:(sm (cE r c) λv=>pr (r.map c_)*(mu v*YY (less r v) cs))=sm (cE r c) λv=>(c_ c*c_ (r.sum-c))*pc r v:=by
   refine eA λv a=>?_;obtain⟨b,i2,f,d⟩:=ki a;rw[qd cs (less r v) (by lia),d];have w:=jW v;have D:=jW (less r v);rw[b]at w;rw[show(less r v).sum=r.sum-c by lia]at D;rw[<-w,<-D];simp only[SY,So,Qw]
  rw[e,oZ,AK,Qw];have:=mh r.sum c (r.sum-c) (by lia);rw[show c+(r.sum-c)=r.sum by lia]at this;exact this
def lb:a0a->a0a->Prop
 |[],[]=>True
 |a::v,x::r=>a<=x/\lb v r
 |_,_=>False
theorem lb.refl:∀r,lb r r
 |[]=>trivial
 |_::r=>⟨No _,lb.refl r⟩
theorem lb.tr:∀{u v r:a0a},lb u v->lb v r->lb u r
 |[],[],[],_,_=>trivial
 |_::_,_::_,_::_,h,q=>⟨NK h.1 q.1,h.2.tr q.2⟩
 |[],_::_,_,h,_=>h.elim
 |_::_,[],_,h,_=>h.elim
 |[],[],_::_,_,q=>q.elim
 |_::_,_::_,[],_,q=>q.elim
theorem lb.len:∀{v r:a0a},lb v r->SW v=SW r
 |[],[],_=>rfl
 |_::_,_::_,h=>Ou (·+1) h.2.len
 |[],_::_,h=>h.elim
 |_::_,[],h=>h.elim
theorem lb.less:∀{v r:a0a},lb v r->lb (less r v) r
 |[],[],_=>trivial
 |a::v,x::r,h=>⟨V8 x a,h.2.less⟩
 |[],_::_,h=>h.elim
 |_::_,[],h=>h.elim
theorem lb.pr:∀{v r:a0a},lb v r->L2.Pu.pr (v.map (·+1))<=L2.Pu.pr (r.map (·+1))
 |[],[],_=>No _
 |_::_,_::_,h=>Nat.mul_le_mul (QY h.1) h.2.pr
 |[],_::_,h=>h.elim
 |_::_,[],h=>h.elim
theorem lb.sum:∀{v r:a0a},lb v r->v.sum<=r.sum
 |[],[],_=>No _
 |_::_,_::_,h=>by rw[N2,N2];exact V5 h.1 h.2.sum
 |[],_::_,h=>h.elim
 |_::_,[],h=>h.elim
theorem eJ:∀{r:a0a} {c:Nat} {v:a0a},v∈cE r c->lb v r
 |[],0,v,h=>by cases NT.mp h;exact trivial
 |[],c+1,v,h=>by cases h
 |x::r,c,v,h=>by
  have w:v∈(Nr (QN x c+1)).flatMap λa=>(cE r (c-a)).map (a::·):=h;obtain⟨a,D,b⟩:=O7.mp w;obtain⟨u,d,rfl⟩:=Nm.mp b;have e:=NS.mp D;exact⟨by lia,eJ d⟩
theorem oj:∀{r v:a0a},lb v r->v∈cE r v.sum
 |[],[],_=>NT.mpr rfl
 |x::r,a::v,h=>by
  refine O7.mpr ⟨a,NS.mpr (by rw[N2];have:=h.1;lia),Nm.mpr ⟨v,?_,rfl⟩⟩;rw[N2,PV];exact oj h.2
 |[],_::_,h=>h.elim
 |_::_,[],h=>h.elim
theorem eP{w a:Type}{f:w->List a}{n:Nat}:∀{l:List w},(∀x∈l,SW (f x)<=n)->SW (l.flatMap f)<=SW l*n
 |[],_=>by simp
 |x::l,h=>by
  rw[O3,Nw,NB,Nat.succ_mul,WJ];exact V5 (eP λy D=>h y (Nk _ D)) (h x Np)
theorem nM:∀(r:a0a) (c:Nat),SW (cE r c)<=pr (r.dropLast.map (·+1))
 |[],0=>No _
 |[],_+1=>OH _
 |[x],c=>by
  have h:cE [x] c=(Nr (QN x c+1)).flatMap λa=>(cE [] (c-a)).map (a::·):=rfl;rw[h,Qm,QT,Nw];have e:((Nr (QN x c)).flatMap λa=>(cE [] (c-a)).map (a::·))=[]:=by
   refine R0.mpr λa w=>?_;have:=NS.mp w;obtain⟨n,D⟩:∃n,c-a=n+1:=⟨c-a-1,by lia⟩;rw[D];rfl
  rw[e];cases q:c-QN x c<;>simp[cE,q,pr]
 |x::y::r,c=>by
  have h:=eP (l:=Nr (QN x c+1)) (f:=λa=>(cE (y::r) (c-a)).map (a::·)) (n:=pr ((y::r).dropLast.map (·+1))) λa _=>by rw[M9];exact nM (y::r) (c-a)
  rw[NQ]at h;refine NK h ?_;show _<=(x+1)*pr ((y::r).dropLast.map (·+1));exact S3 _ (by lia)
theorem p9{w D a:Type}{f:w->List D}{g:D->List a}(l:List w):(l.flatMap f).flatMap g=l.flatMap λx=>(f x).flatMap g:=List.flatMap_assoc
theorem x4(r:a0a)(k:Nat):pr ((r.take k).map (·+1))<=pr (r.map (·+1)):=by
 conv=>rhs;rw[<-N7 k r,NV,AC]
 exact WE _ (uQ λx w=>by
  obtain⟨n,_,rfl⟩:=Nm.mp w;lia)
theorem sY(l:a0a):(nI l).map Int.toNat=l:=by
 rw[Nx];exact(Od λx _=>rfl).trans (Vn l)
theorem lU{l m:a0a}(h:nI l=nI m):l=m:=by rw[<-sY l,h,sY]
theorem AV{w a:Type}{f:w->a}{l:List w}(h:(l.map f).Nodup):l.Nodup:=(Pg.mp h).imp λq e=>q (Ou f e)
theorem AX{D c:Type}{f:D->c}(w:∀a b,f a=f b->a=b){l:List D}(h:l.Nodup):(l.map f).Nodup:=Pg.mpr (h.imp λq e=>q (w _ _ e))
theorem sf{w:a0a}{k:Nat}(h:k<SW w):w.drop k=w.getD k 0::w.drop (k+1):=by
 rw[Os h,NA,Ng h];rfl
noncomputable def YB:a0h->a0a->Bool
 |p::ps,a::v=>decide (p.1<=a)&&decide (a<=p.2)&&YB ps v
 |_,_=>Nf
def vB(w:a0h)(r:a0a)(c:Nat):a0M:=(cE r c).filter (YB w)
theorem IT{w:a0h}{r v:a0a}{c:Nat}(h:v∈vB w r c):v∈cE r c:=(Uu.mp h).1
theorem qy{p:Nat×Nat}{w:a0h}{x:Nat}{r:a0a}{c:Nat}:vB (p::w) (x::r) c=(Nr (QN x c+1)).flatMap λa=>if p.1<=a/\a<=p.2 then(vB w r (c-a)).map (a::·)else[]:=by
 show((Nr (QN x c+1)).flatMap λa=>(cE r (c-a)).map (a::·)).filter (YB (p::w))=_;rw[Xn];refine Ou (WC · _) (funext λa=>?_);rw[Vy];by_cases q:p.1<=a/\a<=p.2
 .rw[Nu q]
  refine Ou (Pk (a::·)) (Yd λv _=>?_);show(decide (p.1<=a)&&decide (a<=p.2)&&YB w v)=YB w v;rw[NF q.1,NF q.2];rfl
 .rw[Nv q,WB.mpr,Q4]
  intro v _ h;have h:(decide (p.1<=a)&&decide (a<=p.2)&&YB w v)=Nf:=h;simp only[N5,Og]at h;exact q h.1
noncomputable def k_:a0h->a0a->a0a
 |p::ps,x::r=>QN x p.2::k_ ps r
 |_,_=>[]
noncomputable def j1(w:a0h):a0a:=w.map (·.1)
theorem Gq:∀{w:a0h} {r:a0a} {c:Nat} {v:a0a},SW w=SW r->v∈vB w r c->(j1 w).sum<=c/\c<=(k_ w r).sum
 |[],[],c,v,_,h=>by
  have:=ki (IT h);simp at this;simp[j1,k_];lia
 |p::w,x::r,c,v,e,h=>by
  rw[qy]at h;obtain⟨a,D,h⟩:=O7.mp h;by_cases q:p.1<=a/\a<=p.2
  .rw[Nu q]at h
   obtain⟨u,b,rfl⟩:=Nm.mp h;have i:=Gq (by simpa using e) b;have:=NS.mp D;simp only[j1,k_,NI,N2]at i⊢;lia
  .rw[Nv q]at h;cases h
noncomputable def YQ(x:Nat)(p:Nat×Nat)(few a:Nat)(b:a0a×Nat):List (a0a×Nat):=(Nr (QN (QN x p.2+few) b.2+1-few-Wb p.1 (b.2-a))).map λi=>(b.1++[Wb p.1 (b.2-a)+i],b.2-(Wb p.1 (b.2-a)+i))
def mx(w:a0h)(r:a0a)(c:Nat):Nat->List (a0a×Nat)
 |0=>[([],c)]
 |k+1=>(mx w r c k).flatMap (YQ (r.getD k 0) (w.getD k (0,0)) ((j1 w).drop (k+1)).sum ((k_ w r).drop (k+1)).sum)
theorem l7{b:Type}{f:Nat->List b}{lo n N:Nat}(h:∀a<N,f a≠[]->lo<=a/\a<n)(D:n<=N):(Nr N).flatMap f=(Nr (n-lo)).flatMap λi=>f (lo+i):=by
 have e:∀{a},a<N->¬(lo<=a/\a<n)->f a=[]:=λ{a} w q=>Qx λz=>q (h a w z);obtain⟨d,rfl⟩:∃d,N=n+d:=⟨N-n,by lia⟩;have z:(Nr d).flatMap (λa=>f (n+a))=[]:=R0.mpr λa w=>e (by have:=NS.mp w;lia) (by lia);rw[List.range_add,QT,Ug,z,Ob];rcases Nat.le_total lo n with q|q
 .obtain⟨m,rfl⟩:∃m,n=lo+m:=⟨n-lo,by lia⟩
  rw[List.range_add,QT,R0.mpr λa w=>e (by have:=NS.mp w;lia) (by have:=NS.mp w;lia),Ql,Ug,PV]
 .rw[show n-lo=0 by lia,R0.mpr λa w=>e (by have:=NS.mp w;lia) (by have:=NS.mp w;lia)];rfl
theorem ui:∀{w:a0h} {r:a0a} (k:Nat),k_ (w.drop k) (r.drop k)=(k_ w r).drop k
 |_,_,0=>rfl
 |[],r,k+1=>by simp[k_]
 |p::w,[],k+1=>by cases h:(w.drop k)<;>simp[k_,h]
 |p::w,x::r,k+1=>ui k
theorem gz{w:Type}{l:List w}{k:Nat}{d:w}(h:k<SW l):l.getD k d=l[k]:=by rw[NA,Ng h];rfl
theorem fF{w a:Type}{f g:w->List a}:∀{l:List w},(∀x∈l,f x=g x)->l.flatMap f=l.flatMap g
 |[],_=>rfl
 |x::l,h=>by rw[O3,O3,h x Np,fF λy D=>h y (Nk _ D)]
theorem wn{D:a0h}{r:a0a}(j:SW D=SW r)(c:Nat):∀k,k<=SW r->((mx D r c k).flatMap λb=>(vB (D.drop k) (r.drop k) b.2).map (b.1++·))=vB D r c
 |0,_=>by simp[mx]
 |k+1,h=>by
  rw[<-wn j c k (by lia)];show((mx D r c k).flatMap _).flatMap _=_;rw[p9];refine Ou (WC · (mx D r c k)) (funext λb=>?_);have o:k<SW r:=by lia
  have p:k<SW D:=by lia
  rw[Os o,Os p,gz o,gz p,qy,Pn];rw[l7 (f:=λa=>(if D[k].1<=a/\a<=D[k].2 then(vB (D.drop (k+1)) (r.drop (k+1)) (b.2-a)).map (a::·)else[]).map (b.1++·)) (N:=QN r[k] b.2+1) (lo:=Wb D[k].1 (b.2-((k_ D r).drop (k+1)).sum)) (n:=QN (QN r[k] b.2+1) (QN (QN r[k] D[k].2+((j1 D).drop (k+1)).sum) b.2+1-((j1 D).drop (k+1)).sum)) (λa d E=>?_) (RY _ _)]
  .unfold YQ
   rw[Ug,show QN (QN r[k] b.2+1) (QN (QN r[k] D[k].2+((j1 D).drop (k+1)).sum) b.2+1-((j1 D).drop (k+1)).sum)=QN (QN r[k] D[k].2+((j1 D).drop (k+1)).sum) b.2+1-((j1 D).drop (k+1)).sum from Nat.min_eq_right (by have:=RY r[k] D[k].2;generalize QN r[k] D[k].2=m at*;lia)];refine fF λi t=>?_;have:=NS.mp t;have g:=NK (RY (QN r[k] D[k].2+((j1 D).drop (k+1)).sum) b.2) (UG (SL _ _) _);rw[Nu ⟨NK (Nat.le_max_left _ _) (Pp _ _),by generalize QN (_+_) b.2=x at*;generalize Wb D[k].1 _=y at*;lia⟩,Nx];exact Od λv _=>by simp
  .by_cases q:D[k].1<=a/\a<=D[k].2
   .rw[Nu q]at E
    obtain⟨w,e⟩:=List.exists_mem_of_ne_nil _ E;obtain⟨w,e,_⟩:=Nm.mp e;obtain⟨v,u,_⟩:=Nm.mp e;have:=Gq (by simp[j]) u;rw[ui]at this;unfold j1 at this⊢;rw[Rf]at this;have l:=R5.mp (Sk d);have m:=R5.mpr ⟨l.1,q.2⟩;have l:=l.2;refine⟨Nat.max_le.mpr ⟨q.1,?_⟩,V6.mpr ⟨d,Nat.lt_sub_of_add_lt (U8 (R5.mpr ⟨UG m _,?_⟩))⟩⟩<;>clear d m<;>lia
   .rw[Nv q]at E;exact NW rfl E
theorem IS(c:Nat):vB [] [] c=if(c:Int)=0 then[[]]else[]:=by
 cases c with
 |zero=>rfl
 |succ n=>rw[Nv (by lia)];rfl
theorem Hr{w:a0h}{r:a0a}(a:SW w=SW r)(c:Nat):((mx w r c (SW r)).filter λb=>decide ((b.2:Int)=0)).map (·.1)=vB w r c:=by
 rw[<-wn a c (SW r) (No _),PR,<-a,PR,a];generalize mx w r c (SW r)=l
 induction l with
 |nil=>rfl
 |cons b l D=>
  rw[O3,Ve,<-D,IS];by_cases q:(b.2:Int)=0
  .rw[Nu q,Nu (NF q)];simp
  .rw[Nv q,Nv (by simp;lia)];rfl
theorem wl{w:a0h}{r:a0a}(c:Nat):∀k,k<=SW r->SW (mx w r c k)<=pr ((r.take k).map (·+1))
 |0,_=>No _
 |k+1,h=>by
  have e:r[k]?=My r[k]:=Ng (by lia);rw[jV e];refine NK (eP (n:=r[k]+1) λb _=>?_) (S3 _ (wl c k (by lia)));unfold YQ;rw[M9,NQ,gz (show k<SW r by lia)];refine NK (V8 _ _) (Nat.sub_le_of_le_add ?_);rw[Nat.add_right_comm];exact QY (NK (RY _ _) (UG (RY _ _) _))
theorem zC(w:a0h)(r:a0a)(c:Nat):∀k,∀b∈mx w r c k,b.2<=c/\SW b.1=k
 |0,b,h=>by cases NT.mp h;exact⟨No _,rfl⟩
 |k+1,b,h=>by
  obtain⟨d,D,a⟩:=O7.mp (show b∈(mx w r c k).flatMap _ from h);obtain⟨i,_,rfl⟩:=Nm.mp a;obtain⟨G,E⟩:=zC w r c k d D;exact⟨by show d.2-_<=c;lia,by rw[Nw,E];rfl⟩
theorem zn:∀{ps:a0h} {r:a0a},(k_ ps r).sum<=r.sum
 |[],r=>OH _
 |_::_,[]=>No _
 |p::ps,x::r=>by
  have:=zn (ps:=ps) (r:=r);simp only[k_,N2];lia
abbrev Wy:=Nat->a0a->a0M
def YH(w:a0a)(W:Wy):Prop:=∀k r,(W k r).Sublist (cE r (w.getD k 0))
def W_(W:Wy)(L:a0M)(k:Nat):LI:=L.flatMap λr=>(W k r).map λv=>nI (less r v)
def Wi(W:Wy)(L:a0M)(k:Nat):a0M:=(lA (W_ W L k)).map λk=>k.map Int.toNat
section
variable{W:Wy}{cs rs:a0a}
theorem gO{L:a0M}{k:Nat}{y:a0d}:y∈W_ W L k↔∃r∈L,∃v∈W k r,y=nI (less r v):=by
 unfold W_;constructor
 .intro h
  obtain⟨r,a,h⟩:=O7.mp h;obtain⟨v,b,rfl⟩:=Nm.mp h;exact⟨r,a,v,b,rfl⟩
 .rintro⟨r,a,v,b,rfl⟩
  exact O7.mpr ⟨r,a,Nm.mpr ⟨v,b,rfl⟩⟩
theorem sX(L:a0M)(k:Nat):(Wi W L k).map nI=lA (W_ W L k):=by
 unfold Wi;rw[Nx];refine(Od λy w=>?_).trans (Vn _);obtain⟨r,_,v,_,rfl⟩:=gO.mp (eU.mp w);show nI ((nI _).map Int.toNat)=_;rw[sY];rfl
theorem gN{L:a0M}{k:Nat}{u:a0a}:u∈Wi W L k↔∃r∈L,∃v∈W k r,u=less r v:=by
 constructor
 .intro h
  have:nI u∈lA (W_ W L k):=by rw[<-sX];exact Nm.mpr ⟨u,h,rfl⟩
  obtain⟨r,a,v,b,e⟩:=gO.mp (eU.mp this);exact⟨r,a,v,b,lU e⟩
 .rintro⟨r,a,v,b,rfl⟩
  exact Nm.mpr ⟨nI (less r v),eU.mpr (gO.mpr ⟨r,a,v,b,rfl⟩),sY _⟩
def eo(W:Wy)(rs:a0a):Nat->a0M
 |0=>[rs]
 |k+1=>Wi W (eo W rs k) k
theorem pM:∀k,(eo W rs k).Nodup
 |0=>OW _ _
 |k+1=>AV (f:=nI) (by show(Pk nI (Wi _ _ _)).Nodup;rw[sX];exact Gr (jO _))
theorem ia(b:YH cs W)(w:rs.sum=cs.sum):∀k,k<=SW cs->∀r∈eo W rs k,lb r rs/\r.sum=(cs.drop k).sum
 |0,_,r,h=>by cases NT.mp h;exact⟨lb.refl _,w⟩
 |k+1,hk,u,h=>by
  obtain⟨r,c,v,a,rfl⟩:=gN.mp (show u∈Wi W (eo W rs k) k from h);have a:=(b k r).subset a;obtain⟨D,E⟩:=ia b w k (by lia) r c;have G:=(ki a).2.1;rw[E,sf (by lia),N2]at G;exact⟨(eJ a).less.tr D,by lia⟩
theorem Ia(a:YH cs W)(w:rs.sum=cs.sum){k:Nat}(b:k<=SW cs):SW (eo W rs k)<=pr (rs.dropLast.map (·+1)):=
 NK (nd_len (pM k) (m:=cE rs (cs.drop k).sum) λr c=>by
  obtain⟨d,e⟩:=ia a w k b r c;rw[<-e];exact oj d) (nM _ _)
theorem wR(a:YH cs W)(w:rs.sum=cs.sum)(d:1<=SW rs)(e:pr (rs.dropLast.map (·+1))<63){k:Nat}(f:k<SW cs):gn ((W_ W (eo W rs k) k).map hE)=My (.l ((eo W rs (k+1)).map λr=>hE (nI r))):=by
 refine(Jf (m:=(cE rs (cs.drop (k+1)).sum).map nI) ?_ (by rw[M9];exact Oj (nM _ _) e) ?_).trans ?_
 .intro x hx
  obtain⟨r,b,v,c,rfl⟩:=gO.mp hx;rw[M9,((eJ ((a k r).subset c)).less.tr (ia a w k (by lia) r b).1).len];exact d
 .intro x hx
  obtain⟨r,b,v,c,rfl⟩:=gO.mp hx;obtain⟨D,E⟩:=ia a w (k+1) f (less r v) (gN.mpr ⟨r,b,v,c,rfl⟩);exact Nm.mpr ⟨less r v,by rw[<-E];exact oj D,rfl⟩
 .rw[<-sX,Nx];rfl
def PC(W:Wy)(rs:a0a)(n:Nat):List (Int×a0d):=(Nr n).flatMap λk=>(eo W rs k).map λr=>((k:Int),nI r)
theorem BO:∀n,(PC W rs n).Nodup
 |0=>List.nodup_nil
 |n+1=>by
  unfold PC;rw[Qm,QT,O3,Vf,Ob];refine QK.mpr ⟨BO n,AX (λr s e=>lU (Sg.mp e).2) (pM n),λx w y D e=>?_⟩;subst e;obtain⟨k,a,h⟩:=O7.mp w;obtain⟨r,_,rfl⟩:=Nm.mp h;obtain⟨s,_,e⟩:=Nm.mp D;have:=(Sg.mp e).1;have b:=NS.mp a;simp only at this;lia
def uT(W:Wy):Nat->Nat->a0a->Nat
 |0,_,_=>1
 |j+1,k,r=>sm (W k r) λv=>uT W j (k+1) (less r v)
def r_(W:Wy):Nat->Nat->a0a->Nat
 |0,_,_=>1
 |j+1,k,r=>sm (W k r) λv=>mu v*r_ W j (k+1) (less r v)
theorem zE{E:Type}{f g:E->Nat}{l m:List E}(h:l.Sublist m)(q:∀a∈m,f a<=g a):sm l f<=sm m g:=by
 induction h with
 |slnil=>exact No _
 |cons a _ w=>rw[cJ];exact NK (w λx D=>q x (Nk _ D)) (Nat.le_add_left _ _)
 |cons_cons a _ w=>rw[cJ,cJ];exact V5 (q a Np) (w λx D=>q x (Nk _ D))
theorem qe(a:YH cs W):∀(j k:Nat) (r:a0a),k+j=SW cs->r_ W j k r<=YY r (cs.drop k)
 |0,k,r,h=>by rw[show k=SW cs by lia,PR];exact No _
 |j+1,k,r,h=>by
  rw[sf (by lia)];exact zE (a k r) λv _=>Nat.mul_le_mul_left _ (qe a j (k+1) (less r v) (by lia))
noncomputable def B_:a0h->a0a->a0M
 |p::ps,x::r=>(Nr (QN p.2 x+1-p.1)).flatMap λi=>(B_ ps r).map ((p.1+i)::·)
 |_,_=>[[]]
theorem CZ:∀{w:a0h} {r:a0a} {c:Nat},SW w=SW r->(B_ w r).filter (λv=>decide (v.sum=c))=vB w r c
 |[],[],c,_=>by cases c<;>rfl
 |p::w,x::r,c,h=>by
  have E:SW w=SW r:=by simpa using h
  rw[qy,l7 (lo:=p.1) (n:=QN (QN x c+1) (QN p.2 x+1)) (N:=QN x c+1) (λa b D=>?_) (RY _ _)]
  .show((Nr (QN p.2 x+1-p.1)).flatMap λi=>(B_ w r).map ((p.1+i)::·)).filter _=_
   rw[Xn];have e:∀i,List.filter (λv=>decide (v.sum=c)) ((B_ w r).map ((p.1+i)::·))=if p.1+i<=c then(vB w r (c-(p.1+i))).map ((p.1+i)::·)else[]:=λi=>by
    rw[Vy];by_cases q:p.1+i<=c
    .rw[Nu q,<-CZ E]
     refine Ou (Pk _) (Yd λv _=>?_);show decide (((p.1+i)::v).sum=c)=_;rw[N2];exact decide_eq_decide.mpr (by lia)
    .rw[Nv q,WB.mpr,Q4]
     intro v _ z;have z:decide (((p.1+i)::v).sum=c)=Nf:=z;rw[N2,Og]at z;lia
   rw[fF λi _=>e i];rw[l7 (f:=λi=>if p.1+i<=c then(vB w r (c-(p.1+i))).map ((p.1+i)::·)else[]) (lo:=0) (n:=QN (QN x c+1) (QN p.2 x+1)-p.1) (N:=QN p.2 x+1-p.1) (λa D q=>⟨OH _,?_⟩) (Nat.sub_le_sub_right (SL _ _) _),Va]
   .refine fF λi d=>?_
    have g:=V6.mp (Xd (NS.mp d));rw[Pi,Nu (R5.mp (Sk g.1)).2,Nu ⟨Pp _ _,(R5.mp (Sk g.2)).1⟩]
   .by_cases z:p.1+a<=c
    .have g:=Xd D
     exact Nat.lt_sub_iff_add_lt'.mpr (V6.mpr ⟨U8 (R5.mpr ⟨(R5.mp (Sk g)).2,z⟩),g⟩)
    .rw[Nv z]at q;exact NW rfl q
  .by_cases q:p.1<=a/\a<=p.2
   .exact⟨q.1,V6.mpr ⟨b,U8 (R5.mpr ⟨q.2,(R5.mp (Sk b)).1⟩)⟩⟩
   .rw[Nv q]at D;exact NW rfl D
noncomputable def lr(w:a0h)(r:a0a):Nat->a0M
 |0=>[[]]
 |k+1=>(lr w r k).flatMap λu=>(Nr (QN (w.getD k (0,0)).2 (r.getD k 0)+1-(w.getD k (0,0)).1)).map λi=>u++[(w.getD k (0,0)).1+i]
theorem xb{w:a0h}{r:a0a}(c:SW w=SW r):∀k,k<=SW r->((lr w r k).flatMap λu=>(B_ (w.drop k) (r.drop k)).map (u++·))=B_ w r
 |0,_=>by simp[lr]
 |k+1,h=>by
  rw[<-xb c k (by lia)];show((lr w r k).flatMap _).flatMap _=_;rw[p9];refine fF λu _=>?_;have a:k<SW r:=by lia
  have b:k<SW w:=by lia
  rw[Os a,Os b,gz a,gz b];show _=((Nr (QN w[k].2 r[k]+1-w[k].1)).flatMap λi=>(B_ (w.drop (k+1)) (r.drop (k+1))).map ((w[k].1+i)::·)).map (u++·);rw[Pn,Ug];refine fF λi _=>?_;rw[Nx];exact Od λv _=>by simp
theorem xa{w:a0h}{r:a0a}(a:SW w=SW r):lr w r (SW r)=B_ w r:=by
 rw[<-xb a (SW r) (No _),PR,<-a,PR];show _=(lr w r (SW w)).flatMap λu=>[u++[]];generalize lr w r (SW w)=l
 induction l with
 |nil=>rfl
 |cons x l D=>rw[O3,<-D,Ob];rfl
theorem w9{w:a0h}{r:a0a}:∀k,k<=SW r->SW (lr w r k)<=pr ((r.take k).map (·+1))
 |0,_=>No _
 |k+1,h=>by
  have e:r[k]?=My r[k]:=Ng (by lia);rw[jV e];refine NK (eP (n:=r[k]+1) λb _=>?_) (S3 _ (w9 k (by lia)));rw[M9,NQ,gz (show k<SW r by lia)];exact NK (V8 _ _) (QY (SL _ _))
theorem CD{w:a0h}{r:a0a}:∀k,∀u∈lr w r k,SW u=k
 |0,b,h=>by cases NT.mp h;rfl
 |k+1,b,h=>by
  obtain⟨d,D,a⟩:=O7.mp (show b∈(lr w r k).flatMap _ from h);obtain⟨i,_,rfl⟩:=Nm.mp a;rw[Nw,CD k d D];rfl
theorem J3(r:a0a):0<mu r:=Qh λz=>by
 have:=jW r;rw[z,WM]at this;have:=j5 r.sum;lia
end
end L2.Nt
namespace L2.Pu
theorem DD{n:Nat}{f g:a0P}(h:∀i<n,f i<=g i):S n f<=S n g:=by
 induction n with
 |zero=>exact Xm _
 |succ n w=>
  rw[gD,gD];have a:=w λi b=>h i (by lia);have c:=h n (by lia);lia
theorem G4(n:Nat)(f g:a0P):S n (λi=>f i-g i)=S n f-S n g:=by
 induction n with
 |zero=>rfl
 |succ n w=>rw[gD,gD,gD,w];lia
noncomputable def fl(x y:Bool)(l h:Int):Int:=(if x=Nf/\y=Ni then h else 0)-(if x=Ni/\y=Nf then l else 0)
def Zi(w D:a0P)(E a:Nat->Nat->Int)(r c:Nat)(X Y:Nat->Bool):Int:=
 S c (λj=>if Y j=Nf then D j else 0)-S r (λi=>if X i=Nf then w i else 0)+S r λi=>S c λj=>fl (X i) (Y j) (E i j) (a i j)
section
variable{m o:a0P}{p l:Nat->Nat->Int}{r c:Nat}
theorem Ht{g:Nat->Nat->Int}(h:∀i<r,∀j<c,p i j<=g i j/\g i j<=l i j)(d:∀i<r,m i=S c (g i))(e:∀j<c,o j=S r λi=>g i j)(X Y:Nat->Bool):0<=Zi m o p l r c X Y:=by
 have f:S c (λj=>if Y j=Nf then o j else 0)=S r λi=>S c λj=>if Y j=Nf then g i j else 0:=by
  rw[DC];refine d8 λj a=>?_;cases q:Y j with
  |true=>simp only[Nu];exact e j a
  |false=>simp only[NO,OF];exact(mw r).symm
 have k:S r (λi=>if X i=Nf then m i else 0)=S r λi=>S c λj=>if X i=Nf then g i j else 0:=by
  refine d8 λi l=>?_;cases q:X i with
  |true=>simp only[Nu];exact d i l
  |false=>simp only[NO,OF];exact(mw c).symm
 unfold Zi;rw[f,k,<-G4,<-tR];refine Int.le_trans (Int.le_of_eq (mw r).symm) (DD λi b=>?_);rw[<-G4,<-tR];refine Int.le_trans (Int.le_of_eq (mw c).symm) (DD λj a=>?_);have:=h i b j a;unfold fl;cases X i<;>cases Y j<;>simp<;>lia
noncomputable def si:Nat->a0M
 |0=>[[]]
 |n+1=>si n++(si n).map (·++[n])
theorem iQ:∀(n:Nat) (l:a0a),l∈si n->l.Sublist (Nr n)
 |0,l,h=>by rw[NT.mp h];exact .slnil
 |n+1,l,h=>by
  rw[Qm];rcases N4.mp h with h|h
  .exact(iQ n l h).trans (List.sublist_append_left _ _)
  .obtain⟨a,h',rfl⟩:=Nm.mp h
   exact(iQ n a h').append (V1 _)
theorem xv:∀n:Nat,SW (si n)=2^n
 |0=>rfl
 |n+1=>by
  rw[si,Nw,M9,xv n,Nat.pow_succ];lia
end
section
variable{o m:a0d}{b:LP}{r c:Nat}
abbrev Zj(o m:a0d)(b:LP)(r c:Nat)(X Y:Nat->Bool):Int:=Zi (λi=>o.getD i 0) (λj=>m.getD j 0) (λi j=>(bI b i j).1) (λi j=>(bI b i j).2) r c X Y
theorem Jh{a d:a0a}(e:a.Sublist (Nr r))(f:d.Sublist (Nr c)):sW m b r c a d-pK o a=Zj o m b r c (λi=>decide (i∈a)) (λj=>decide (j∈d)):=by
 rw[HC e f];unfold pK Zj Zi;rw[mF f,mF e];have h:∀(n:Nat) (l:a0a) (g:a0P),S n (λj=>if decide (j∈l)=Nf then g j else 0)=S n (λj=>if j∈l then g j else 0):=λn l g=>d8 λj _=>by simp
 rw[h,h];have k:(S r λi=>S c λj=>hF b a d i j)=S r λi=>S c λj=>fl (decide (i∈a)) (decide (j∈d)) (bI b i j).1 (bI b i j).2:=by
  refine d8 λi _=>d8 λj _=>?_;unfold hF fl;simp
 simp only[k];lia
def u5(m:a0d)(b:LP)(r c:Nat)(a:a0a):a0a:=(Nr c).filter λj=>decide (fE m b r a j<gi b a j)
end
end L2.Pu
namespace L2.Nt
open L2.Pu
section
variable{W:Wy}{b:a0a}
theorem jN:∀{l:a0a} {i x y:Nat},l[i]?=My x->(l.set i y).sum+x=l.sum+y
 |a::l,0,x,y,h=>by
  cases h;show(y::l).sum+a=(a::l).sum+y;rw[N2,N2];lia
 |a::l,i+1,x,y,h=>by
  have:=jN (l:=l) (i:=i) (x:=x) (y:=y) h;show(a::l.set i y).sum+x=(a::l).sum+y;rw[N2,N2];lia
variable{a:a0a}
end
end L2.Nt
namespace L2.Pu
theorem zD{w a:a0b}{d:D}(h:gn w=My d)(q:∀d,d∈w↔d∈a):gn a=My d:=by
 obtain⟨c,s,rfl⟩:=jp h;exact ur ⟨s.1,s.2.1,λk b=>⟨(s.2.2.1 k b).1,(q _).mp (s.2.2.1 k b).2⟩,λd E=>s.2.2.2 d ((q d).mpr E)⟩
end L2.Pu
namespace Law
open L2 L2.Pu L2.Nt
section
variable{K:NR}{a:Ad}{β:Bg}
abbrev tN(l:a0a):D:=hE (nI l)
abbrev eN(b:a0a×Nat):D:= .t [tN b.1,.n (b.2:Int)]
abbrev pN(p:Nat×Nat):D:=pD ((p.1:Int),(p.2:Int))
def D_(r:a0a):Prop:=1<=SW r/\SW r<=4/\r.sum<=40/\pr (r.map (·+1))<=500
theorem k8{f g:FD}{δ:Dn}{x y:D}{ds a:a0b}(b:f δ β=My (.ok x,β))(c:g δ β=My (.ok y,β))(d:dE x=My ds)(e:dE y=My a):yg (aa f (aa g aA)) δ β=My (.ok (dU ds a),β):=bO (af b (af c rfl)) (by
 unfold DH;simp only[d,e,Qb,P0])
theorem tW{a:Type}{f g:a->D}:∀l:List a,dU (l.map f) (l.map g)=l.map λx=> .t [f x,g x]
 |[]=>rfl
 |x::l=>Ou (_::·) (tW l)
theorem Ju{a:Nat}{h:Int}(b:-1000<=h)(c:h<=1000)(d:a<=1000):nY [.n (a:Int),.n h]=My ((Nr (h-a).toNat).map λi=>D.n ((a+i:Nat):Int)):=by
 have e:nY [.n (a:Int),.n h]=My (bx a (h-a).toNat):=by
  simp only[nY];rw[Nu (by simp only[N5,Og];lia)]
 rw[e];exact Ou My (Od λi _=>by congr 1)
theorem addT{l:a0a}{c:Nat}(h:SW l<=100):fi (tN l) (.t [.n (c:Int)])=My (tN (l++[c])):=by
 cases l with
 |nil=>rfl
 |cons x l=>
  show(if _ then _ else _)=_;rw[Nu (bp (by simp at h⊢;lia))];simp[hE]
theorem zA(l:a0a)(k:Nat):gW [.l (((nI l).map D.n).drop k)]=My (.n (((l.drop k).sum:Nat):Int)):=by
 rw[<-Rf,<-Rf];exact(fq _).trans (by rw[<-i8])
theorem zr:∀{r:a0a} {ps:a0h},(r.zip ps).map (λq=>D.n (QN (q.1:Int) (q.2.2:Int)))=(nI (k_ ps r)).map D.n
 |[],_=>by cases ‹a0h›<;>rfl
 |_::_,[]=>rfl
 |x::r,p::ps=>by
  have e:=zr (r:=r) (ps:=ps);show _::_=D.n ((QN x p.2:Nat):Int)::(nI (k_ ps r)).map D.n;rw[<-e];show D.n (QN (x:Int) (p.2:Int))::_=_;rw[show QN (x:Int) (p.2:Int)=((QN x p.2:Nat):Int) by lia];rfl
theorem zo:∀{a:a0h} {r:a0a} {k:Nat} (b:k<SW a) (c:k<SW r),(k_ a r)[k]?=My (QN r[k] a[k].2)
 |p::a,x::r,0,_,_=>rfl
 |p::a,x::r,k+1,b,c=>zo (k:=k) (by simpa using b) (by simpa using c)
abbrev vI(a:a0h)(r:a0a)(c:Nat)(w:D)(b d e:a0L):Ds:=[My (.h (tN r)),My (.h (.n (c:Int))),My (.h (.l (a.map pN))),My (.h (.l ((nI (j1 a)).map .n))),My (.h (.l ((nI (k_ a r)).map .n))),My (.h w),b,d,e]
theorem Ky{w:a0h}{r:a0a}{c:Nat}(H:D_ r)(v:SW w=SW r)(A:∀p∈w,p.1<=40/\p.2<=40)(R:c<=40):(kt K a).1 [tN r,.n (c:Int),.l (w.map pN)] β=My (.ok (.l ((vB w r c).map tN)),β):=by
 obtain⟨_,T,G,U⟩:=H;have I:SW r<=NN:=bp (by lia);have o:∀k,k<=SW r->SW (mx w r c k)<=NN:=λk m=>bp (NK (wl c k m) (NK (x4 r k) (by lia)));unfold kt
 dsimp only
 refine bh ?_;refine aG (d:= .l ((nI (j1 w)).map .n)) (β1:=β) ?_ ?_
 .have:=bD (nv:=2) (br:=[]) (it:=di (ah 2)) (tg:=N_ (f8 (gs 0) (f8 (gs 1) kj))) (f:=ah 0) (δ:=vw (vI w r c .o Na Na Na)) (β:=β) w pN (λp=> .n (p.1:Int)) rfl (λx _=>⟨[My (.n (x.1:Int)),My (.n (x.2:Int))],rfl,rfl⟩) (by rw[v];exact I)
  refine Eq.trans this ?_;unfold j1;rw[Nx,Nx];rfl
 refine aG (d:= .l ((nI (k_ w r)).map .n)) (β1:=β) ?_ ?_
 .rw[<-zr]
  exact bD (nv:=3) (br:=[]) (it:=yg (aa (ah 0) (aa (ah 2) (aA)))) (tg:=N_ (f8 (gs 0) (f8 (N_ (f8 (gs 1) (f8 (gs 2) kj))) kj))) (f:=aT u8 (aa (ah 0) (aa (ah 2) (aA)))) (δ:=vw (vI w r c .o Na Na Na)) (β:=β) (r.zip w) (λq=>D.t [.n (q.1:Int),pN q.2]) _ (by
   rw[<-iS (λx:Nat=>D.n (x:Int)) pN];refine k8 (x:=tN r) (y:= .l (w.map pN)) rfl rfl ?_ rfl;show My _=My _;rw[Nx];rfl) (λq _=>⟨[My (.n (q.1:Int)),My (.n (q.2.1:Int)),My (.n (q.2.2:Int))],rfl,am rfl yi⟩) (bp (by rw[RV];lia))
 refine aG (d:= .l ((mx w r c 0).map eN)) (β1:=β) (am (af (am (af (am rfl rfl) (af rfl rfl)) gG) rfl) oo) ?_;refine bM (ds:=bx 0 (SW r)) (β1:=β) (bO (af (am (z:= .n (SW r:Int)) rfl (by show My (D.n _)=_;rw[M9,M9])) rfl) (B6 (by lia) (by lia))) (λk δ C=>β=C/\∃B t u,δ=vI w r c (.l ((mx w r c k).map eN)) B t u) ⟨rfl,Na,Na,Na,rfl⟩ ?_ ?_
 .rintro k d δ _ hd ⟨rfl,B,t,u,rfl⟩
  obtain⟨m,rfl⟩:=GD hd;have j:k<SW w:=by lia
  have J:w[k]?=My w[k]:=Ng j;have b40:=A _ (OG j);have W:(j1 w).sum<=160:=by
   have g:∀l:a0h,(∀p∈l,p.1<=40/\p.2<=40)->(j1 l).sum<=40*SW l:=λl=>by
    induction l with
    |nil=>intro _;exact No _
    |cons p l E=>
     intro h;have:=E λq v=>h q (Nk _ v);have:=(h p Np).1;simp only[j1,NI,N2,NB]at*;lia
   have:=g w A;lia
  have F:∀(l:a0a) (n:Nat),(l.drop n).sum<=l.sum:=λl n=>by
   conv=>rhs;rw[<-N7 n l,VB]
   lia
  have L:=F (j1 w) (k+1);have N:=NK (F (k_ w r) (k+1)) zn;refine⟨vI w r c (.l ((mx w r c k).map eN)) (My (.h (.n (k:Int)))) t u,rfl,?_⟩;refine aG (d:= .n ((((j1 w).drop (k+1)).sum:Nat):Int)) (β1:=β) (am (af (hC rfl (cx rfl rfl rfl)) rfl) ((Ou (λl=>gW [.l l]) (gU (k:=k+1))).trans (zA _ _))) ?_;refine aG (d:= .n ((((k_ w r).drop (k+1)).sum:Nat):Int)) (β1:=β) (am (af (hC rfl (cx rfl rfl rfl)) rfl) ((Ou (λl=>gW [.l l]) (gU (k:=k+1))).trans (zA _ _))) ?_;refine au (aG (d:= .l ((mx w r c (k+1)).map eN)) (β1:=β) ?_ (bf ⟨rfl,_,_,_,rfl⟩));have e:(mx w r c (k+1)).map eN=(mx w r c k).flatMap λb=>(YQ r[k] w[k] ((j1 w).drop (k+1)).sum ((k_ w r).drop (k+1)).sum b).map eN:=by
   show((mx w r c k).flatMap _).map eN=_;rw[Pn,gz m,gz j]
  rw[e];refine IC (mx w r c k) eN _ rfl (λb A=>⟨[My (tN b.1),My (.n (b.2:Int)),Na,My (.l ((nI (j1 w)).map .n)),My (.n (k:Int)),My (.n ((((k_ w r).drop (k+1)).sum:Nat):Int)),My (.l ((nI (k_ w r)).map .n)),My (.n ((((j1 w).drop (k+1)).sum:Nat):Int))],rfl,?_⟩) (by
   rw[<-e,M9];exact o (k+1) m)
  obtain⟨b2,b1⟩:=zC w r c k b A;have M:=iN (OG m);unfold YQ;generalize ((j1 w).drop (k+1)).sum=few at*;generalize ((k_ w r).drop (k+1)).sum=most at*;refine(AQ (Nr (QN (QN r[k] w[k].2+few) b.2+1-few-Wb w[k].1 (b.2-most))) (λi=>D.n ((Wb w[k].1 (b.2-most)+i:Nat):Int)) (λi=>eN (b.1++[Wb w[k].1 (b.2-most)+i],b.2-(Wb w[k].1 (b.2-most)+i))) ?_ ?_).trans (by rw[Nx];rfl)
  .refine bO (as:=[.n ((Wb w[k].1 (b.2-most):Nat):Int),.n (QN ((QN r[k] w[k].2:Nat):Int) ((b.2:Int)-few)+1)]) (af (am (af (cx rfl rfl (cP (d:= .n (w[k].1:Int)) ?_)) (af (cx rfl rfl rfl) rfl)) (J6.trans ?_)) (af (cx (am (af (cx rfl rfl (cP (d:= .n ((QN r[k] w[k].2:Nat):Int)) ?_)) (af (cx rfl rfl rfl) rfl)) yi) rfl rfl) rfl)) ((Ju (by lia) (by lia) (by lia)).trans ?_)
   .unfold j1
    rw[Nl,Nl,Nl,J];rfl
   .rw[show Wb (w[k].1:Int) ((b.2:Int)-(most:Int))=((Wb w[k].1 (b.2-most):Nat):Int) by lia]
   .rw[Nl,Nl,zo j m];rfl
   .rw[show(QN ((QN r[k] w[k].2:Nat):Int) ((b.2:Int)-few)+1-((Wb w[k].1 (b.2-most):Nat):Int)).toNat=QN (QN r[k] w[k].2+few) b.2+1-few-Wb w[k].1 (b.2-most) by generalize QN r[k] w[k].2=x;generalize Wb w[k].1 (b.2-most)=y;lia]
  .refine λi O=>⟨[My (tN b.1),My (.n (b.2:Int)),My (.n ((Wb w[k].1 (b.2-most)+i:Nat):Int)),My (.l ((nI (j1 w)).map .n)),My (.n (k:Int)),My (.n (most:Int)),My (.l ((nI (k_ w r)).map .n)),My (.n (few:Int))],rfl,am (af (cx rfl (am rfl rfl) (addT (l:=b.1) (c:=Wb w[k].1 (b.2-most)+i) (by lia))) (af (cx rfl rfl rfl) rfl)) (gG.trans ?_)⟩
   have Q:=NS.mp O;show My (D.t [_,.n _])=My (D.t [_,.n _]);rw[show(b.2:Int)-((Wb w[k].1 (b.2-most)+i:Nat):Int)=((b.2-(Wb w[k].1 (b.2-most)+i):Nat):Int) by lia]
 .rintro δ _ ⟨rfl,B,t,u,rfl⟩
  rw[uL];have h:=kR (nv:=2) (br:=[]) (it:=di (ah 5)) (tg:=N_ (f8 (gs 0) (f8 (gs 1) kj))) (tt:=fB (f2 (fN) (ah 1) (fC (.n 0)))) (f:=ah 0) (δ:=fh (vI w r c (.l ((mx w r c (SW r)).map eN)) B t u)) (β:=β) (mx w r c (SW r)) eN (λb=>tN b.1) (λb=>decide ((b.2:Int)=0)) rfl (λb _=>⟨[My (tN b.1),My (.n (b.2:Int))],rfl,g8 (cx rfl rfl eq_int),λ_=>rfl⟩) (o _ (No _));refine au (aV h ⟨rfl,?_⟩);rw[<-Hr v,Nx];rfl
theorem vY{E:Type}{G:lu}{b:FL}{K:Dn}{β:Bg}(u:E->D)(o:E->a0b):∀(w:List E),(∀x∈w,∃a,G (u x) K=My a/\b a β=My (.ok (o x),β))->mY G (λ_=>M.h0 Nf) b (w.map u) K β=My (.ok (w.flatMap o),β)
 |[],_=>rfl
 |x::w,h=>by
  obtain⟨a,c,d⟩:=h x Np;have e:=vY u o w λy P=>h y (Nk _ P);rw[NI,mY];simp only[c,M.v,M.h0,reduceIte,d,e,O3]
theorem kS{E:Type}{K:Nat}{P:a0a}{S:FL}{V:lu}{b:FL}{c:a0b->a0l}{G:Dn}{β:Bg}{d:D}(w:List E)(u:E->D)(o:E->a0b)(e:S G β=My (.ok (w.map u),β))
  (f:∀x∈w,∃a,V (u x) (j0 K P G)=My a/\b a β=My (.ok (o x),β)) (g:c (w.flatMap o)=My d):ic K P S V (λ_=>M.h0 Nf) b c G β=My (.ok d,β):=by
 unfold ic;rw[e];simp only[vY u o w f,g,P0]
theorem Mz{E:Type}{K:FL}{P:lu}{b:FL}{G:Dn}{β:Bg}(w:List E)(u:E->D)(o:E->a0b)(c:K G β=My (.ok (w.map u),β))(d:∀x∈w,∃a,P (u x) G=My a/\b a β=My (.ok (o x),β)):YF K P (λ_=>M.h0 Nf) b G β=My (.ok (w.flatMap o),β):=by
 unfold YF M.v;rw[c];exact vY u o w d
noncomputable abbrev g0(B:a0f):LP:=B.map λa=>a.map λp=>((p.1:Int),(p.2:Int))
abbrev j2(B:a0f):D:=dM (g0 B)
noncomputable def oC(B:a0f)(k:Nat):a0h:=B.map λa=>a.getD k (0,0)
def G_(r c:Nat)(B:a0f):Prop:=ix r c B/\∀a∈B,∀p∈a,p.1<=p.2/\p.2<=40
def wB(B:a0f)(cs:a0a):Wy:=λk r=>vB (oC B k) r (cs.getD k 0)
theorem LY(B:a0f)(a:a0a):YH a (wB B a):=λk r=>Xo
theorem G_.col{r c k:Nat}{B:a0f}(h:G_ r c B)(e:k<c):SW (oC B k)=r/\∀p∈oC B k,p.1<=40/\p.2<=40:=by
 refine⟨by unfold oC;rw[M9,h.1.1],λp d=>?_⟩;obtain⟨a,b,rfl⟩:=Nm.mp d;have l:=h.1.2 a b;rw[gz (by lia)];have:=h.2 a b _ (OG (show k<SW a by lia));lia
theorem ID{r E:a0a}{B:a0f}{k:Nat}(c:D_ r)(hB:G_ (SW r) (SW E) B)(i:E.sum<=40)(e:k<SW E):(cW K a).1 [tN r,nL E,j2 B,.n (k:Int)] β=My (.ok (.l ((wB B E k r).map tN)),β):=by
 have g:E[k]?=My (E.getD k 0):=by rw[NA,Ng e];rfl
 obtain⟨l,q⟩:=hB.col e;unfold cW
 dsimp only
 refine bh (au (aV (ao (af rfl (af (cx rfl rfl (cP (d:= .n (E.getD k 0:Int)) (by rw[Nl,Nl,g];rfl))) (af ?_ rfl))) (Ky c l q (NK (iN (NJ g)) i))) ⟨rfl,rfl⟩));have h:=bD (nv:=1) (br:=[3]) (it:=di (ah 2)) (tg:=gs 0) (f:=f2 hU (ah 0) (ah 1)) (δ:=[My (tN r),My (nL E),My (j2 B),My (.n (k:Int))]) (β:=β) B (λw=>D.l (w.map pN)) (λw=>pN (w.getD k (0,0))) (cD rfl (by
  show My _=My _;rw[Nx,Nx];exact Ou My (Od λw _=>Ou D.l (by show Pk pD (Pk _ w)=_;rw[Nx];rfl)))) (λw b=>⟨[My (D.l (w.map pN)),My (.n (k:Int))],rfl,cx rfl rfl (cP (by
   have l:=hB.1.2 w b;rw[Nl,gz (by lia),Ng (by lia)];rfl))⟩) (bp (by rw[hB.1.1];have:=c.2.1;lia))
 refine h.trans ?_;unfold oC;rw[Nx];rfl
theorem vf:∀{r v:a0a},lb v r->(r.zip v).map (λp=>D.n ((p.1:Int)-(p.2:Int)))=(nI (less r v)).map D.n
 |[],[],_=>rfl
 |x::r,y::v,h=>by
  have e:=vf h.2;have b:=h.1;show _::_=D.n ((x-y:Nat):Int)::(nI (less r v)).map D.n;rw[<-e];show D.n ((x:Int)-(y:Int))::_=_;rw[show(x:Int)-(y:Int)=((x-y:Nat):Int) by lia];rfl
 |[],_::_,h=>h.elim
 |_::_,[],h=>h.elim
theorem GE{r v:a0a}(h:lb v r)(b:SW r<=4):(fA K a).1 [tN r,tN v] β=My (.ok (tN (less r v)),β):=by
 unfold fA
 dsimp only
 refine bh (au (aV (am (af (x:= .l ((nI (less r v)).map D.n)) ?_ rfl) rfl) ⟨rfl,rfl⟩));rw[<-vf h];refine bD (r.zip v) (λp=>D.t [.n (p.1:Int),.n (p.2:Int)]) _ ?_ (λp _=>⟨[My (.n (p.1:Int)),My (.n (p.2:Int))],rfl,rfl⟩) (bp (by rw[RV];lia));rw[<-iS (λx:Nat=>D.n (x:Int)) (λx:Nat=>D.n (x:Int))];refine k8 (x:=tN r) (y:=tN v) rfl rfl ?_ ?_
 .show My _=My _
  rw[Nx];rfl
 .show My _=My _
  rw[Nx];rfl
structure Nt0 (rs cs:a0a):Prop where
 nr:D_ rs
 wd:pr (rs.dropLast.map (·+1))<63
 sm:rs.sum=cs.sum
 c1:1<=SW cs
 c6:SW cs<=6
structure up (K:NR) (a:Ad) (rs cs:a0a) (W:Wy) (bd:D):Prop extends Nt0 rs cs where
 ok:YH cs W
 fl:∀{β:Bg} {k:Nat} {r:a0a},k<SW cs->D_ r->SW r=SW rs->(cW K a).1 [tN r,nL cs,bd,.n (k:Int)] β=My (.ok (.l ((W k r).map tN)),β)
theorem up.at{rs cs r:a0a}{k:Nat}{W:Wy}{b:D}(h:up K a rs cs W b)(c:k<=SW cs)(d:r∈eo W rs k):D_ r/\SW r=SW rs/\r.sum<=40:=by
 have q:=(ia h.ok h.sm k c r d).1;obtain⟨e,f,g,i⟩:=h.nr;have w:=q.len;have E:=q.sum;have G:=q.pr;exact⟨⟨by lia,by lia,by lia,by lia⟩,w,by lia⟩
abbrev js(W:Wy)(a:a0a)(k:Nat):D:= .l ((eo W a k).map tN)
theorem Ej{w cs:a0a}{W:Wy}{b:D}(h:up K a w cs W b):(gb K a).1 [nL w,nL cs,b] β=My (.ok (.l ((Nr (SW cs+1)).map (js W w))),β):=by
 have G:=h.c6;unfold gb
 dsimp only
 refine bh ?_;refine aG (d:=js W w 0) (β1:=β) (am (af (am rfl rfl) rfl) oo) ?_;refine oK (ds:=[js W w 0]) (β1:=β) rfl (show 1<=NN by decide) ?_;refine bM (ds:=bx 0 (SW cs)) (β1:=β) (bO (af (am rfl (d6 (r:=SW cs) (by rw[M9,M9]))) rfl) (B6 (by lia) (by lia))) (λk E c=>β=c/\∃e f,E=[My (.h (nL w)),My (.h (nL cs)),My (.h (b)),My (.h (js W w k)),My (.u ((Nr (k+1)).map (js W w))),e,f]) ⟨rfl,Na,Na,rfl⟩ ?_ ?_
 .rintro k d E _ hd ⟨rfl,e,f,rfl⟩
  obtain⟨g,rfl⟩:=GD hd;refine⟨_,rfl,aG (d:=js W w (k+1)) (β1:=β) ?_ (oP (cs:=(Nr (k+1)).map (js W w)) (d:=js W w (k+1)) rfl rfl (NP (show _<1000 by rw[M9,NQ];lia) (by decide)) (au (aG (d:=js W w (k+1)) (β1:=β) rfl (bf ⟨rfl,My (.h (.n (k:Int))),My (.h (js W w (k+1))),?_⟩))))⟩
  .refine kS (eo W w k) tN (λr=>(W k r).map λv=>tN (less r v)) rfl (λr j=>⟨[My (tN r),Na,My (nL cs),My (b),My (.n (k:Int))],rfl,?_⟩) ?_
   .obtain⟨i,l,_⟩:=h.at (by lia) j
    exact AQ _ tN _ (cD (ao rfl (h.fl g i l)) rfl) (λv m=>⟨[My (tN r),My (tN v),My (nL cs),My (b),My (.n (k:Int))],rfl,ao rfl (GE (eJ ((h.ok k r).subset m)) i.2.1)⟩)
   .rw[<-wR h.ok h.sm h.nr.1 h.wd g]
    unfold W_;rw[Pn];simp only[Nx];rfl
  .rw[Qm (n:=k+1),NV];rfl
 .rintro E _ ⟨rfl,e,f,rfl⟩
  rw[uL];exact au (aV rfl ⟨rfl,rfl⟩)
theorem oO{i:Nat}{w:a1a}{f:FD}{c d z:D}{h:G}{a:Ds}{β β1:Bg}{Q:a0w}(b:(vw a).getD i Na=My c)(e:f (vw a) β=My (.ok d,β1))(g:w c d=My z)(k:Gw h (a.set i (My (.h z))) β1 Q):Gw (aJ (yI i w f) h) a β Q:=de (by unfold yI;simp only[b,e,g,P0]) k
theorem zZ{m i:Nat}{d:D}(h:(bx 2 m)[i]?=My d):i<m/\d= .n ((i+2:Nat):Int):=by
 obtain⟨x,a,rfl⟩:=bS (f:=λ(i:Nat)=>D.n (2+(i:Int))) (xs:=Nr m) h;have b:=(Nn.mp a).1;rw[NQ]at b;rw[Oq b]at a;cases a;exact⟨b,by congr 1;lia⟩
theorem zX(a:Int)(m:Nat):SW (bx a m)=m:=by unfold bx;rw[M9,NQ]
theorem Zh{n:Nat}(h:n<=2^11):n<2^1000:=dZ h (by decide)
theorem xj(n:Nat):c_ (n-1+1)=c_ n:=by cases n<;>rfl
theorem xh{n:Nat}(h:n<=40):(gY K a).1 [.n (n:Int)] β=My (.ok (.n ((c_ n:Nat):Int)),β):=by
 unfold gY
 dsimp only
 refine bh ?_;refine aG (d:= .n 1) (β1:=β) rfl ?_;refine bM (ds:=bx 2 (n-1)) (β1:=β) (bO (af rfl (af (cx rfl rfl rfl) rfl)) (rg2 (by lia))) (λi w b=>β=b/\∃c,w=[My (.h (.n (n:Int))),My (.h (.n ((c_ (i+1):Nat):Int))),c]) ⟨rfl,Na,rfl⟩ ?_ ?_
 .rintro i d w _ hd ⟨rfl,c,rfl⟩
  obtain⟨e,rfl⟩:=zZ hd;exact⟨_,rfl,au (oO rfl rfl (qJ (dZ (j6 (by lia)) (by decide)) (Zh (by lia))) (bf ⟨rfl,_,rfl⟩))⟩
 .rintro w _ ⟨rfl,c,rfl⟩
  rw[zX,xj];exact au (aV rfl ⟨rfl,rfl⟩)
theorem vd{n:Nat}(h:n<=40):(f6 K a).1 [.n (n:Int)] β=My (.ok (.n ((c_ n:Nat):Int)),β):=by
 unfold f6
 dsimp only
 refine bh ?_;refine aG (d:= .n 1) (β1:=β) rfl ?_;refine bM (ds:=bx 2 (n-1)) (β1:=β) (bO (af rfl (af (cx rfl rfl rfl) rfl)) (rg2 (by lia))) (λi w b=>β=b/\∃c,w=[My (.h (.n (n:Int))),My (.h (.n ((c_ (i+1):Nat):Int))),c]) ⟨rfl,Na,rfl⟩ ?_ ?_
 .rintro i d w _ hd ⟨rfl,c,rfl⟩
  obtain⟨e,rfl⟩:=zZ hd;exact⟨_,rfl,au (aG (cx rfl rfl (qJ (dZ (j6 (by lia)) (by decide)) (Zh (by lia)))) (bf ⟨rfl,_,rfl⟩))⟩
 .rintro w _ ⟨rfl,c,rfl⟩
  rw[zX,xj];exact au (aV rfl ⟨rfl,rfl⟩)
def Ic(l:a0a):Nat:=c_ l.sum/pr (l.map c_)
theorem LO{l:a0a}{d:D}(h:Sq l d):oX [d]=My (.n ((l.sum:Nat):Int)):=by
 rw[<-i8];rcases h with rfl|rfl
 .exact Jc _
 .exact Jb _
theorem lR(l:a0a):gW [nL l]=My (.n ((l.sum:Nat):Int)):=by rw[<-i8];exact fq _
theorem tP{l:a0a}{i n:Nat}(h:l.sum<=40)(a:l[i]?=My n):n<=40:=NK (iN (NJ a)) h
theorem Ha{l:a0a}{E:D}(M:Sq l E)(h:l.sum<=40):(uO K a).1 [E] β=My (.ok (.n ((Ic l:Nat):Int)),β):=by
 unfold uO
 dsimp only
 refine bh ?_;refine bM (ds:=(nI l).map D.n) (β1:=β) (cD rfl M.seq) (λi w c=>β=c/\∃b,w=[My (.h E),b,Na]) ⟨rfl,Na,rfl⟩ ?_ ?_
 .rintro i d w _ hd ⟨rfl,b,rfl⟩
  obtain⟨n,G,rfl⟩:=mQ hd;exact⟨_,rfl,au (dN (β1:=β) (g8 (cx rfl rfl (by show My (D.c (decide ((n:Int)<0)))=_;rw[Oo (by lia)]))) (bB (bf ⟨rfl,_,rfl⟩)))⟩
 rintro w _ ⟨rfl,b,rfl⟩;refine aG (d:= .n ((c_ l.sum:Nat):Int)) (β1:=β) (ao (af (am rfl (LO M)) rfl) (xh h)) ?_;refine bM (ds:=(nI l).map D.n) (β1:=β) (cD rfl M.seq) (λi w c=>β=c/\∃b,w=[My (.h E),b,My (.h (.n ((c_ l.sum/pr ((l.take i).map c_):Nat):Int)))]) ⟨rfl,b,by rw[Sf,Q4,JE,Nat.div_one];rfl⟩ ?_ ?_
 .rintro i d w _ hd ⟨rfl,b,rfl⟩
  obtain⟨n,G,rfl⟩:=mQ hd;refine⟨_,rfl,au (oO rfl (ao rfl (xh (tP h G))) (G0 (j5 n) (dZ (j6 (tP h G)) (by decide))) (bf ⟨rfl,My (.h (.n (n:Int))),?_⟩))⟩;rw[jV G,WK];rfl
 .rintro w _ ⟨rfl,b,rfl⟩
  rw[lS,OS];exact au (aV rfl ⟨rfl,rfl⟩)
theorem xi{l:a0a}{i:Nat}(h:l.sum<=40)(b:SW l<=4):pr ((l.take i).map c_)<=2^640:=by
 refine NK (Mo (m:=160) λx a=>?_) (S4 (by decide) ?_)
 .obtain⟨n,hn,rfl⟩:=Nm.mp a
  exact j6 (NK (iN (O8 hn)) h)
 .rw[M9,N8];lia
theorem Eu{l:a0a}(h:l.sum<=40)(e:SW l<=4):(n5 K a).1 [nL l] β=My (.ok (.n ((Ic l:Nat):Int)),β):=by
 unfold n5
 dsimp only
 refine bh ?_;refine aG (d:= .n 1) (β1:=β) rfl ?_;refine bM (ds:=(nI l).map D.n) (β1:=β) rfl (λi w b=>β=b/\∃c,w=[My (.h (nL l)),My (.h (.n ((pr ((l.take i).map c_):Nat):Int))),c]) ⟨rfl,Na,rfl⟩ ?_ ?_
 .rintro i d w _ hd ⟨rfl,c,rfl⟩
  obtain⟨n,E,rfl⟩:=mQ hd;refine⟨_,rfl,au (aG (cx rfl (ao rfl (vd (tP h E))) (qJ (dZ (xi h e) (by decide)) (dZ (j6 (tP h E)) (by decide)))) (bf ⟨rfl,My (.h (.n (n:Int))),?_⟩))⟩;rw[jV E];rfl
 .rintro w _ ⟨rfl,c,rfl⟩
  rw[lS,OS];have f:=xi (i:=SW l) h e;rw[OS]at f;exact au (aV (cx (ao (af (am rfl (lR l)) rfl) (vd h)) rfl (G0 (uQ λx G=>by obtain⟨n,_,rfl⟩:=Nm.mp G;exact j5 n) (dZ f (by decide)))) ⟨rfl,rfl⟩)
theorem uc{l:a0a}(h:l.sum<=40):Ic l<=2^160:=NK (VI _ _) (j6 h)
theorem tZ(l:a0a):Ic l=mu l:=J4 l
theorem yh{l:a0a}(h:l.sum<=40):mu l<=2^160:=by rw[<-tZ];exact uc h
theorem sT{a:Type}{l:List a}{i:Nat}{x:a}(f:a->Nat)(h:l[i]?=My x):L2.Nt.sm (l.take (i+1)) f=L2.Nt.sm (l.take i) f+f x:=by
 rw[T4,h,ut];rfl
abbrev cv(W:Wy)(m k:Nat)(r:a0a):D:= .t [.n ((uT W (m-k) k r:Nat):Int),.n ((r_ W (m-k) k r:Nat):Int)]
abbrev pj(W:Wy)(a:a0a)(m k:Nat):D:= .dct Ni ((eo W a k).map λr=>((0:Int),nI r)) ((eo W a k).map (cv W m k))
theorem BD{f:a0a->D}{u:a0a}:∀{L:a0M},u∈L->KX (L.map λr=>((0:Int),nI r)) (L.map f) (0,nI u)=My (f u)
 |r::L,h=>by
  unfold KX;rw[NI,NI,PP,Rb];by_cases q:r=u
  .rw[q,NF rfl];rfl
  .rw[Oo λe=>q (lU (Sg.mp e).2)]
   exact BD ((NC.mp h).resolve_left λe=>q e.symm)
theorem KI{W:Wy}{a u:a0a}{m k:Nat}(h:u∈eo W a k):yQ (pj W a m k) (tN u)=My (cv W m k u):=by
 show(jL Ni (dK Ni (0,nI u))).bind _=_;rw[j3 λ_=>rfl];exact BD h
theorem yf{w cs r:a0a}{W:Wy}{q:D}{k:Nat}(h:up K a w cs W q)(o:k<SW cs)(p:r∈eo W w k):(iq K a).1 [tN r,.l ((W k r).map tN),pj W w (SW cs) (k+1)] β=My (.ok (cv W (SW cs) k r),β):=by
 obtain⟨t,y,u⟩:=h.at (by lia) p;unfold iq
 dsimp only
 refine bh ?_;refine aG (d:= .n 0) (β1:=β) rfl (aG (d:= .n 0) (β1:=β) rfl ?_);refine bM (ds:=(W k r).map tN) (β1:=β) rfl (λi E e=>β=e/\∃f g j,E=[My (.h (tN r)),My (.h (.l ((W k r).map tN))),My (.h (pj W w (SW cs) (k+1))),My (.h (.n ((L2.Nt.sm ((W k r).take i) λv=>uT W (SW cs-(k+1)) (k+1) (less r v):Nat):Int))),My (.h (.n ((L2.Nt.sm ((W k r).take i) λv=>mu v*r_ W (SW cs-(k+1)) (k+1) (less r v):Nat):Int))),f,g,j]) ⟨rfl,Na,Na,Na,rfl⟩ ?_ ?_
 .rintro i d E _ hd ⟨rfl,f,g,j,rfl⟩
  obtain⟨v,l,rfl⟩:=bS hd;have G:=NJ l;have m:less r v∈eo W w (k+1):=gN.mpr ⟨r,p,v,G,rfl⟩;have b:=(h.ok k r).subset G;have M:=(ia h.ok h.sm (k+1) o _ m).2;have c:v.sum<=40:=NK (eJ b).sum u;have n:=(h.at o m).2.2;refine⟨_,rfl,Gm (d:=cv W (SW cs) (k+1) (less r v)) (β1:=β) (cx rfl (ao rfl (GE (eJ b) t.2.1)) (KI m)) rfl (oO rfl rfl rfl (au (oO rfl (cx (ao rfl (Ha (.inr rfl) c)) rfl (qJ (dZ (uc c) (by decide)) (dZ (NK (qe h.ok _ _ _ (by lia)) (by rw[qd _ _ M];exact yh n)) (by decide)))) rfl (bf ⟨rfl,My (.h (tN v)),My (.h (.n ((uT W (SW cs-(k+1)) (k+1) (less r v):Nat):Int))),My (.h (.n ((r_ W (SW cs-(k+1)) (k+1) (less r v):Nat):Int))),?_⟩))))⟩;rw[sT _ l,sT _ l,tZ,QH,QH];rfl
 .rintro E _ ⟨rfl,f,g,j,rfl⟩
  rw[M9,OS];refine au (aV (am rfl gG) ⟨rfl,?_⟩);show Pa (D.t [.n ((uT W (SW cs-k) k r:Nat):Int),.n ((r_ W (SW cs-k) k r:Nat):Int)])=_;rw[show SW cs-k=SW cs-(k+1)+1 by lia];rfl
theorem xB{f g:FD}{a:Dn}{k v:D}(b:f a β=My (.ok k,β))(c:g a β=My (.ok v,β)):E7 f g a β=My (.ok [.t [k,v]],β):=by
 unfold E7 M.v;rw[b];simp only[c,M.h0]
theorem vG{a b:Type}(f:a->b)(l:List a):(l.flatMap λx=>[f x])=l.map f:=by
 induction l with
 |nil=>rfl
 |cons x l w=>rw[O3,w];rfl
theorem hZ{rs cs:a0a}{W:Wy}{b:D}(h:up K a rs cs W b){k:Nat}(c:k<=SW cs):SW (eo W rs k)<=62:=by
 have:=Ia h.ok h.sm c;have:=h.wd;lia
theorem dk0{w cs:a0a}{W:Wy}{b:D}(h:up K a w cs W b){k:Nat}(c:k<=SW cs){E:a0b}(e:E=(eo W w k).map λr=> .t [tN r,cv W (SW cs) k r]):kQ Ni E=My (pj W w (SW cs) k):=by
 refine(xp (kvs:=(eo W w k).map λr=>(((0:Int),nI r),cv W (SW cs) k r)) ⟨?_,?_,?_,?_⟩).trans ?_
 .rw[e,Nx];rfl
 .rw[Nx];exact AX (λx y q=>lU (Sg.mp q).2) (pM k)
 .rw[M9];exact bp (by have:=hZ h c;lia)
 .rintro p d _
  obtain⟨r,_,rfl⟩:=Nm.mp d;rfl
 .rw[Nx,Nx];rfl
theorem Mi{n:Nat}(h:n<=1000):sV [.n (n:Int)]=My (dO n):=by
 simp only[sV];rw[Nu (by simp only[N5,Og];lia),ON]
theorem Mj{n i:Nat}{d:D}(h:(dO n)[i]?=My d):i<n/\d= .n ((n-1-i:Nat):Int):=by
 obtain⟨x,a,rfl⟩:=bS (f:=λ(i:Nat)=>D.n ((n:Int)-1-i)) (xs:=Nr n) h;have b:=(Nn.mp a).1;rw[NQ]at b;rw[Oq b]at a;cases a;exact⟨b,by congr 1;lia⟩
theorem zY{f:Nat->D}{n k:Nat}(h:k<n):((Nr n).map f)[k]?=My (f k):=by rw[Nl,Oq h];rfl
theorem CP{f:Nat->D}:∀n j,c5 j ((List.range' j n).map f)=(List.range' j n).map λk=> .t [.n (k:Int),f k]
 |0,_=>rfl
 |n+1,j=>by
  rw[List.range'_succ,NI,NI,<-CP n (j+1)];rfl
theorem HD{f:Nat->D}(m:Nat):((Nr (m+1)).map λj=>f (m-j)).reverse=(Nr (m+1)).map f:=Ry (by simp) λi b c=>by
 simp only[S8,M9,NQ]at b;simp only[Xc,Rz,TC,M9,NQ];congr 1;lia
abbrev F8(W:Wy)(a:a0a)(m:Nat):a0b:=(Nr (m+1)).flatMap λk=>(eo W a k).map (cv W m k)
abbrev vV(W:Wy)(rs:a0a)(m:Nat):D:= .dct Nf (PC W rs (m+1)) (F8 W rs m)
theorem dk1{rs cs:a0a}{W:Wy}{b:D}(h:up K a rs cs W b){w:a0b}(e:w=(Nr (SW cs+1)).flatMap λ(k:Nat)=>(eo W rs k).map λr=> .t [.t [.n (k:Int),tN r],cv W (SW cs) k r]):kQ Nf w=My (vV W rs (SW cs)):=by
 refine(xp (kvs:=(Nr (SW cs+1)).flatMap λ(k:Nat)=>(eo W rs k).map λr=>(((k:Int),nI r),cv W (SW cs) k r)) ⟨?_,?_,?_,?_⟩).trans ?_
 .rw[e,Pn];simp only[Nx];rfl
 .have:=BO (W:=W) (rs:=rs) (SW cs+1)
  unfold PC at this;rw[Pn];simp only[Nx];exact this
 .refine bp (NK (eP (n:=62) λk c=>?_) (by have:=h.c6;rw[NQ];lia))
  have:=NS.mp c;rw[M9];exact hZ h (by lia)
 .rintro p _ q
  cases q
 .unfold vV PC
  rw[Pn,Pn];simp only[Nx];rfl
theorem qj{w cs:a0a}{W:Wy}{b:D}(h:up K a w cs W b):(dF K a).1 [nL w,nL cs,b] β=My (.ok (vV W w (SW cs)),β):=by
 have G:=h.c6;unfold dF
 dsimp only
 refine bh ?_;refine aG (d:= .l ((Nr (SW cs+1)).map (js W w))) (β1:=β) (ao rfl (Ej h)) ?_;refine aG (d:= .n (SW cs:Int)) (β1:=β) (am rfl (d6 (by rw[M9,M9]))) ?_;refine aG (d:=pj W w (SW cs) (SW cs)) (β1:=β) (kS (eo W w (SW cs)) tN (λr=>[.t [tN r,.t [.n 1,.n 1]]]) (cD (cx rfl rfl (cP (zY (by lia)))) rfl) (λr _=>⟨[My (tN r)],rfl,xB rfl (am rfl gG)⟩) (dk0 h (No _) (by rw[vG];simp only[cv,RG];rfl))) ?_;refine oK (ds:=[pj W w (SW cs) (SW cs)]) (β1:=β) rfl (show 1<=NN by decide) ?_;refine bM (ds:=dO (SW cs)) (β1:=β) (bO rfl (Mi (by lia))) (λi E c=>β=c/\∃e f,E=[My (.h (nL w)),My (.h (nL cs)),My (.h (b)),My (.h (.l ((Nr (SW cs+1)).map (js W w)))),My (.h (.n (SW cs:Int))),My (.h (pj W w (SW cs) (SW cs-i))),My (.u ((Nr (i+1)).map λj=>pj W w (SW cs) (SW cs-j))),e,f]) ⟨rfl,Na,Na,rfl⟩ ?_ ?_
 .rintro i d E _ hd ⟨rfl,e,f,rfl⟩
  obtain⟨p,rfl⟩:=Mj hd;have l:SW cs-1-i<SW cs:=by lia
  have o:SW cs-i=(SW cs-1-i)+1:=by lia
  have m:SW cs-(i+1)=SW cs-1-i:=by lia
  rw[o];refine⟨_,rfl,aG (d:=pj W w (SW cs) (SW cs-1-i+1)) (β1:=β) rfl (aG (d:=pj W w (SW cs) (SW cs-1-i)) (β1:=β) (kS (eo W w (SW cs-1-i)) tN (λr=>[.t [tN r,cv W (SW cs) (SW cs-1-i) r]]) (cD (cx rfl rfl (cP (zY (by lia)))) rfl) (λr g=>⟨[My (tN r),My (nL cs),My (b),My (.n ((SW cs-1-i:Nat):Int)),My (pj W w (SW cs) (SW cs-1-i+1))],rfl,xB rfl (ao (af rfl (af (ao rfl (h.fl l (h.at (by lia) g).1 (h.at (by lia) g).2.1)) rfl)) (yf h l g))⟩) (dk0 h (by lia) (vG _ _))) (au (oP (cs:=(Nr (i+1)).map λj=>pj W w (SW cs) (SW cs-j)) (d:=pj W w (SW cs) (SW cs-1-i)) rfl rfl (NP (show _<1000 by rw[M9,NQ];lia) (by decide)) (bf ⟨rfl,My (.h (.n ((SW cs-1-i:Nat):Int))),My (.h (pj W w (SW cs) (SW cs-1-i+1))),?_⟩))))⟩;rw[Qm (n:=i+1),NV,m];show _=[_,_,_,_,_,_,My (Sl.u (_++[pj W w (SW cs) (SW cs-(i+1))])),_,_];rw[m];rfl
 .rintro E _ ⟨rfl,e,f,rfl⟩
  rw[show(dO (SW cs)).length=SW cs by unfold dO;rw[M9,NQ]];refine au (aV (kS (Nr (SW cs+1)) (λk=> .t [.n (k:Int),pj W w (SW cs) k]) (λ(k:Nat)=>(eo W w k).map λr=> .t [.t [.n (k:Int),tN r],cv W (SW cs) k r]) (bO (af (cx (y:= .n (-1)) rfl rfl rfl) rfl) ?_) (λk _=>⟨[My (.n (k:Int)),My (pj W w (SW cs) k),Na,Na],rfl,?_⟩) (dk1 h rfl)) ⟨rfl,rfl⟩)
  .show My (c5 0 _)=_
   rw[HD,List.range_eq_range',CP]
  .refine(Mz (eo W w k) (λr=> .t [tN r,cv W (SW cs) k r]) (λr=>[.t [.t [.n (k:Int),tN r],cv W (SW cs) k r]]) ?_ (λr _=>⟨[My (.n (k:Int)),My (pj W w (SW cs) k),My (tN r),My (cv W (SW cs) k r)],rfl,xB (am rfl gG) rfl⟩)).trans (by rw[vG])
   show My (Pa (Tl _ _ _),β)=_;rw[List.zipWith_map_left,List.zipWith_map_right,List.zipWith_self];rfl
theorem ZI{r c:Nat}{w:LI}(E:ix r c w)(P:1<=r)(S:r<=30)(V:c<=30){δ:Dn}(h:δ.getD 0 Na=My (cg w)):dJ 1 [0] (cL f9 (aa (aT gx (aa (f2 hU (ah 0) (fC (.n 0))) (aA))) (aA))) (gs 0) (λ_=>M.h0 Nf) (ko (dJ 1 [0] (di (ah 1)) (gs 0) (λ_=>M.h0 Nf) (ko (f2 hU (ah 0) (ah 1))))) δ β=My (.ok (cg (tp c w)),β):=by
 obtain⟨b,d,g⟩:=E.at (i:=0) (by lia);have k:(gI w)[0]?=My (b.map D.n):=by rw[Nl,d];rfl
 have el:aT gx (aa (f2 hU (ah 0) (fC (.n 0))) (aA)) δ β=My (.ok (.n (c:Int)),β):=am (af (x:= .l (b.map D.n)) (cx (x:=cg w) (xA h) rfl (tq k)) rfl) (d6 (by rw[M9,g]));have e:=bD (nv:=1) (br:=[0]) (it:=cL f9 (aa (aT gx (aa (f2 hU (ah 0) (fC (.n 0))) (aA))) (aA))) (tg:=gs 0) (f:=dJ 1 [0] (di (ah 1)) (gs 0) (λ_=>M.h0 Nf) (ko (f2 hU (ah 0) (ah 1)))) (δ:=δ) (β:=β) (Nr c) (λi=>D.n (0+(i:Int))) (λj=>D.l (w.map λa=>D.n (a.getD j 0))) (bO (ds:=bx 0 c) (af el rfl) (B6 (by lia) (by lia))) ?_ (bp (by rw[NQ];lia))
 .rw[e]
  unfold tp M_;show _=My (Pa (D.l (Pk D.l (Pk _ (Pk _ _)))),β);rw[Nx,Nx];congr 4;refine Od λj _=>?_;show _=D.l ((w.map λa=>a.getD j 0).map D.n);rw[Nx];rfl
 .intro j n
  have o:=NS.mp n;have m:j0 1 [0] δ=[Na,My (cg w)]:=by
   unfold j0;simp only[NI,Q4,h];rfl
  refine⟨[My (.n (0+(j:Int))),My (cg w)],by rw[m];rfl,?_⟩;have K:(gI w).map D.l=w.map λa=>D.l (a.map D.n):=by rw[Nx];rfl
  refine bD (nv:=1) (br:=[0]) w (λa=>D.l (a.map D.n)) _ (by show My (Pa ((gI w).map D.l),β)=_;rw[K]) (λa p=>⟨_,rfl,cx (x:= .l (a.map D.n)) (y:= .n (0+(j:Int))) rfl rfl ?_⟩) (bp (by rw[E.1];lia));have q:=E.2 a p;obtain⟨x,G⟩:=G3 (l:=a) (i:=j) (by lia);rw[Sj];refine cP ?_;rw[Nl,G,NA,G];rfl
theorem yp{r c:Nat}{w:LI}(D:ix r c w)(E:1<=r)(G:r<=30)(M:c<=30):(pA K a).1 [cg w] β=My (.ok (cg (tp c w)),β):=
 bh (au (aV (ZI D E G M rfl) ⟨rfl,rfl⟩))
noncomputable abbrev iL(a:a0d):D:= .l (a.map D.n)
theorem zz{w:LI}(h:SW w<=1000){f:FD}{δ:Dn}(e:f δ β=My (.ok (cg w),β)):dJ 1 [] (di f) (gs 0) (λ_=>M.h0 Nf) (ko (aT gW (aa (ah 0) (aA)))) δ β=My (.ok (iL (w.map PF)),β):=by
 have E:(gI w).map D.l=w.map λa=>D.l (a.map D.n):=by rw[Nx];rfl
 have:=bD (nv:=1) (br:=[]) (it:=di f) (tg:=gs 0) (f:=aT gW (aa (ah 0) (aA))) (δ:=δ) (β:=β) w (λa=>D.l (a.map D.n)) (λa=>D.n a.sum) (by rw[<-E];exact cD e rfl) (λa _=>⟨_,rfl,am rfl (fq a)⟩) (bp h);rw[this];show _=My (Pa (D.l ((w.map PF).map D.n)),β);rw[Nx];rfl
theorem pp{ac:LI}(h:SW ac<=1000):(jJ K a).1 [cg ac] β=My (.ok (iL (ac.map PF)),β):=
 bh (au (aV (zz h rfl) ⟨rfl,rfl⟩))
theorem k7{r c:Nat}{ac:LI}(w:ix r c ac)(D:1<=r)(E:r<=30)(G:c<=30):(gL K a).1 [cg ac] β=My (.ok (iL ((tp c ac).map PF)),β):=
 bh (au (aV (zz (by rw[(wg (d:=(0:Int)) (c:=c) w.1).1];lia) (ao rfl (yp w D E G))) ⟨rfl,rfl⟩))
noncomputable def gp(G:LI)(i j:Nat):Int:=(G.getD i []).getD j 0
theorem MY{G:LI}{i j:Nat}{a:a0d}{x:Int}(b:G[i]?=My a)(c:a[j]?=My x):gp G i j=x:=by
 unfold gp;simp only[NA,b,c,Option.getD_some]
theorem CF{G:LI}{i j:Nat}{a:a0d}(b:G[i]?=My a):a.getD j 0=gp G i j:=by
 unfold gp;rw[NA (l:=G),b];rfl
theorem DE:∀(a:a0d),S (SW a) (λj=>a.getD j 0)=a.sum:=λa=>by
 unfold S;congr 1;refine Ry (by simp) λi c b=>?_;rw[Rz,TC,NA,Ng b];rfl
theorem LR{r c i:Nat}{A:LI}(sA:ix r c A)(d:i<r):S c (gp A i)=(A.map PF).getD i 0:=by
 obtain⟨e,b,f⟩:=sA.at d;rw[NA,Nl,b];show _=e.sum;rw[<-DE,f];exact d8 λj _=>(CF b).symm
theorem LS{r c j:Nat}{A:LI}(sA:ix r c A)(d:j<c):S r (λp=>gp A p j)=((tp c A).map PF).getD j 0:=by
 have e:(tp c A)[j]?=My (A.map λa=>a.getD j 0):=by
  show((Nr c).map λj=>A.map λa=>a.getD j 0)[j]?=_;rw[Nl,Oq d];rfl
 rw[NA,Nl,e];show _=(A.map λa=>a.getD j 0).sum;rw[<-DE,M9,sA.1];refine d8 λp f=>?_;obtain⟨g,b,h⟩:=sA.at f;rw[NA (l:=A.map _),Nl,b];exact(CF b).symm
theorem AU{w:a0d}{b:a0a}(c:∀i∈b,i<SW w)(d:SW b<=1000):(lK K a).1 [iL w,nL b] β=My (.ok (.n (pK w b)),β):=by
 unfold lK
 dsimp only
 refine bh (au (aV (am (af (x:=iL (b.map λi=>w.getD i 0)) ?_ rfl) (fq _)) ⟨rfl,rfl⟩));have:=bD (nv:=1) (br:=[0]) (it:=di (ah 1)) (tg:=gs 0) (f:=f2 hU (ah 1) (ah 0)) (δ:=[My (iL w),My (nL b)]) (β:=β) b (λi=>D.n (i:Int)) (λi=>D.n (w.getD i 0)) (by show My (Pa ((nI b).map D.n),β)=_;rw[Nx];rfl) (λi e=>⟨_,rfl,cx rfl rfl (GT (c i e))⟩) (bp d);refine this.trans ?_;show _=My (Pa (D.l ((b.map λi=>w.getD i 0).map D.n)),β);rw[Nx];rfl
theorem rX{r c j:Nat}{w:a0d}{b:LP}{g:a0a}(E:ix r c b)(n:SW w=c)(k:r<=1000)(l:j<c):(dm K a).1 [iL w,dM b,nL g,.n (j:Int)] β=My (.ok (.n (fE w b r g j)),β):=by
 unfold dm
 dsimp only
 refine bh ?_;refine aG (d:=iL (((Nr r).filter λi=>!decide (i∈g)).map λi=>(bI b i j).1)) (β1:=β) ?_ ?_
 .have m:SW ((gP b).map D.l)=r:=by rw[M9,M9,E.1]
  have:=kR (nv:=2) (br:=[2,3]) (it:=GO (aa (ah 1) aA)) (tg:=N_ (f8 (gs 0) (f8 (gs 1) kj))) (tt:=fB (f2 (K_ Nf) (ah 0) (ah 2))) (f:=f2 hU (f2 hU (ah 1) (ah 3)) (fC (.n 0))) (δ:=[My (iL w),My (dM b),My (nL g),My (.n (j:Int)),Na]) (β:=β) (Nr r) (λi=>D.t [.n (i:Int),.l ((b.getD i []).map pD)]) (λi=>D.n (bI b i j).1) (λi=>!decide (i∈g)) ?_ (λi h=>⟨_,rfl,g8 (cx rfl rfl vA),λ_=>cx (cx rfl rfl (vo E (NS.mp h) l).2) rfl EI⟩) (bp (by rw[NQ];exact k))
  .refine this.trans ?_
   show _=My (Pa (D.l ((((Nr r).filter λi=>!decide (i∈g)).map λi=>(bI b i j).1).map D.n)),β);rw[Nx];rfl
  .show My (Pa (c5 0 ((gP b).map D.l)),β)=_
   rw[nG,m];congr 3;refine Od λi h=>?_;rw[Pi];congr 3;obtain⟨e,_⟩:=E.getD (NS.mp h);rw[NA,Nl,Nl,e];rfl
 refine au (aV (cx (x:= .n (w.getD j 0)) (cx rfl rfl (GT (by lia))) (am rfl (fq _)) rfl) ⟨rfl,?_⟩);have e:(Nr r).map (λi=>if i∈g then(0:Int)else(bI b i j).1)=(Nr r).map (λx=>if(!decide (x∈g))=Nf then(bI b x j).1 else 0):=Od λi _=>by by_cases q:i∈g<;>simp[q]
 unfold fE S;rw[xg,e]
theorem sH{r c j:Nat}{b:LP}{d:a0a}(w:ix r c b)(e:∀i∈d,i<r)(k:SW d<=1000)(g:j<c):(dz K a).1 [dM b,nL d,.n (j:Int)] β=My (.ok (.n (gi b d j)),β):=by
 unfold dz
 dsimp only
 refine bh (au (aV (am (af (x:=iL (d.map λi=>(bI b i j).2)) ?_ rfl) (fq _)) ⟨rfl,rfl⟩));have:=bD (nv:=1) (br:=[0,2]) (it:=di (ah 1)) (tg:=gs 0) (f:=f2 hU (f2 hU (f2 hU (ah 1) (ah 0)) (ah 2)) (fC (.n 1))) (δ:=[My (dM b),My (nL d),My (.n (j:Int))]) (β:=β) d (λi=>D.n (i:Int)) (λi=>D.n (bI b i j).2) (by show My (Pa ((nI d).map D.n),β)=_;rw[Nx];rfl) (λi h=>⟨_,rfl,cx (cx (cx rfl rfl (vo w (e i h) g).1) rfl (vo w (e i h) g).2) rfl EH⟩) (bp k);refine this.trans ?_;show _=My (Pa (D.l ((d.map λi=>(bI b i j).2).map D.n)),β);rw[Nx];rfl
theorem zW{r c:Nat}{w:a0d}{b:LP}{d e:a0a}(E:ix r c b)(k:SW w=c)(l:r<=1000)(h:c<=1000)(m:∀i∈d,i<r)(n:SW d<=1000):(lJ K a).1 [iL w,dM b,nL d,nL e] β=My (.ok (.n (sW w b r c d e)),β):=by
 unfold lJ
 dsimp only
 refine bh (au (aV (am (af (x:=iL ((Nr c).map λj=>if j∈e then fE w b r d j else gi b d j)) ?_ rfl) (fq _)) ⟨rfl,rfl⟩));have:=bD (nv:=1) (br:=[3,0,1,2]) (it:=cL f9 (aa (aT gx (aa (ah 0) (aA))) (aA))) (tg:=gs 0) (f:=YD (fB (f2 (K_ Ni) (ah 0) (ah 1))) (bK (dm K a).1 (aa (ah 2) (aa (ah 3) (aa (ah 4) (aa (ah 0) (aA)))))) (bK (dz K a).1 (aa (ah 3) (aa (ah 4) (aa (ah 0) (aA)))))) (δ:=[My (iL w),My (dM b),My (nL d),My (nL e)]) (β:=β) (Nr c) (λj=>D.n (0+(j:Int))) (λj=>D.n (if j∈e then fE w b r d j else gi b d j)) (bO (ds:=bx 0 c) (af (am rfl (d6 (by rw[M9,k]))) rfl) (B6 (by lia) (by lia))) (λj o=>⟨[My (.n (j:Int)),My (nL e),My (iL w),My (dM b),My (nL d)],by rw[Sj];rfl,?_⟩) (bp (by rw[NQ];exact h))
 .refine this.trans ?_
  show _=My (Pa (D.l (((Nr c).map λj=>if j∈e then fE w b r d j else gi b d j).map D.n)),β);rw[Nx];rfl
 .have g:=NS.mp o
  by_cases q:j∈e
  .rw[Nu q]
   exact LU (g8 (cx rfl rfl (by rw[vA];simp[q]))) (ao rfl (rX E k l g))
  .rw[Nv q]
   exact LV (g8 (cx rfl rfl (by rw[vA];simp[q]))) (ao rfl (sH E m n g))
theorem AY{r c:Nat}{w:a0d}{b:LP}{d:a0a}(E:ix r c b)(g:SW w=c)(l:r<=1000)(e:c<=1000)(m:∀i∈d,i<r)(n:SW d<=1000):(jI K a).1 [iL w,dM b,nL d] β=My (.ok (nL (u5 w b r c d)),β):=by
 unfold jI
 dsimp only
 refine bh ?_;have h:=kR (nv:=1) (br:=[0,1,2]) (it:=cL f9 (aa (aT gx (aa (ah 0) (aA))) (aA))) (tg:=gs 0) (tt:=fB (f2 (YR) (bK (dm K a).1 (aa (ah 1) (aa (ah 2) (aa (ah 3) (aa (ah 0) (aA)))))) (bK (dz K a).1 (aa (ah 2) (aa (ah 3) (aa (ah 0) (aA))))))) (f:=ah 0) (δ:=[My (iL w),My (dM b),My (nL d)]) (β:=β) (Nr c) (λj=>D.n (0+(j:Int))) (λj=>D.n (j:Int)) (λj=>decide (fE w b r d j<gi b d j))
  (bO (ds:=bx 0 c) (af (am rfl (d6 (by rw[M9,g]))) rfl) (B6 (by lia) (by lia)))
  (λj k=>⟨[My (.n (j:Int)),My (iL w),My (dM b),My (nL d)],by rw[Sj];rfl,g8 (cx (ao rfl (rX E g l (NS.mp k))) (ao rfl (sH E m n (NS.mp k))) rfl),λ_=>rfl⟩) (bp (by rw[NQ];exact e))
 refine au (aV h ⟨rfl,?_⟩);show Pa (D.l ((nI (u5 w b r c d)).map D.n))=_;rw[Nx];rfl
theorem Jr{n i:Nat}{d:D}(h:(bx 0 n)[i]?=My d):i<n/\d= .n (i:Int):=by
 obtain⟨x,a,rfl⟩:=bS (f:=λ(i:Nat)=>D.n (0+(i:Int))) (xs:=Nr n) h;have b:=(Nn.mp a).1;rw[NQ]at b;rw[Oq b]at a;cases a;exact⟨b,by rw[Sj]⟩
theorem yT{n:Nat}(w:n<=6):(lM K a).1 [.n (n:Int)] β=My (.ok (.l ((si n).map nL)),β):=by
 unfold lM
 dsimp only
 refine bh ?_;refine aG (d:= .l [.l []]) (β1:=β) (am (af (am rfl J9) rfl) oo) ?_;refine bM (ds:=bx 0 n) (β1:=β) (bO rfl (B6 (by lia) (by lia))) (λi δ b=>β=b/\∃c,δ=[My (.h (.n (n:Int))),My (.h (.l ((si i).map nL))),c]) ⟨rfl,Na,rfl⟩ ?_ ?_
 .rintro i d δ _ hd ⟨rfl,c,rfl⟩
  obtain⟨g,rfl⟩:=Jr hd;have j:SW (si i)<=64:=by rw[xv];exact NK (S4 (by decide) (show i<=6 by lia)) (by decide)
  refine⟨[My (.h (.n (n:Int))),My (.h (.l ((si i).map nL))),My (.h (.n (i:Int)))],rfl,au (aG (d:= .l ((si (i+1)).map nL)) (β1:=β) ?_ (bf ⟨rfl,_,rfl⟩))⟩;have h:=bD (nv:=1) (br:=[2]) (it:=di (ah 1)) (tg:=gs 0) (f:=f2 fi (ah 0) (aT dH (aa (ah 1) (aA)))) (δ:=vw [My (.h (.n (n:Int))),My (.h (.l ((si i).map nL))),My (.h (.n (i:Int)))]) (β:=β) (si i) nL (λl=>nL (l++[i])) rfl (λl e=>⟨[My (nL l),My (.n (i:Int))],rfl,by
   have k:SW l<=i:=by have:=(iQ i l e).length_le;rwa[NQ]at this
   refine cx rfl (am rfl oo) ((iR ?_).trans ?_)
   .rw[M9,M9,Oy];lia
   .simp only[nL,nI,NV,NI,Q4]⟩) (bp (by lia))
  refine cx rfl h ((iR ?_).trans ?_)
  .rw[M9,M9];lia
  .rw[si,NV,Nx];rfl
 .rintro δ _ ⟨rfl,c,rfl⟩
  rw[show(bx 0 n).length=n by unfold bx;rw[M9,NQ]];exact au (aV rfl ⟨rfl,rfl⟩)
theorem KN{r:Nat}{b:a0a}(h:b∈si r):(∀i∈b,i<r)/\SW b<=r:=⟨λi c=>NS.mp ((iQ r b h).subset c),by have:=(iQ r b h).length_le;rwa[NQ]at this⟩
theorem Kx{r c:Nat}{E w:a0d}{b:LP}(P:ix r c b)(l:SW E=r)(m:SW w=c)(n:r<=6)(p:c<=6)(V:∀X Y,0<=Zj E w b r c X Y):(fU K a).1 [iL E,iL w,dM b] β=My (.ok .o,β):=by
 unfold fU
 dsimp only
 refine bh (au (bM (ds:=(si r).map nL) (β1:=β) (cD (ao (af (am rfl (d6 (r:=r) (by rw[M9,l]))) rfl) (yT n)) rfl) (λi G f=>β=f/\∃g h,G=[My (.h (iL E)),My (.h (iL w)),My (.h (dM b)),g,h]) ⟨rfl,Na,Na,rfl⟩ ?_ ?_))
 .rintro i d G _ hd ⟨rfl,g,h,rfl⟩
  obtain⟨e,q,rfl⟩:=bS hd;have S:=NJ q;obtain⟨k,t⟩:=KN S;refine⟨_,rfl,aG (d:=nL (u5 w b r c e)) (β1:=β) (ao rfl (AY P m (by lia) (by lia) k (by lia))) ?_⟩;refine au (dN (g8 (cx (ao rfl (AU (by rw[l];exact k) (by lia))) (ao rfl (zW P m (by lia) (by lia) k (by lia))) ?_)) (bB (bf ⟨rfl,_,_,rfl⟩)));have o:=V (λi=>decide (i∈e)) (λj=>decide (j∈u5 w b r c e));have M:(u5 w b r c e).Sublist (Nr c):=Xo;rw[<-Jh (iQ r e S) M]at o;show My (D.c (decide _))=_;rw[Oo (by lia)]
 .rintro G _ ⟨rfl,g,h,rfl⟩
  exact bf ⟨rfl,rfl⟩
theorem Hl{r c:Nat}{a:LI}{b:LP}(w:ix r c a)(G:ix r c b)(K:Kp a b)(X Y:Nat->Bool):0<=Zj (a.map PF) ((tp c a).map PF) b r c X Y:=by
 refine Ht (g:=gp a) (λi f j h=>?_) (λi f=>(LR w f).symm) (λj h=>(LS w h).symm) X Y;obtain⟨D,k,m⟩:=w.at f;have E:=m9 (l:=D) (i:=j) (d:=0) (by lia);obtain⟨e,l⟩:=G.getD f;have M:=m9 (l:=b.getD i []) (i:=j) (d:=((0,0):Int×Int)) (by lia);rw[MY k E];exact K i j _ _ (vZ k E) (vZ e M)
variable{rs cs:a0a}
theorem GX{g:G}{a:Ds}{o:nl}(h:Gw g a β (λc b=>c=o/\b=β)):g a β=My (o,β):=by
 obtain⟨c,b,e,rfl,rfl⟩:=h;exact e
theorem kh{t:a0s}{d b h:G}{a:Ds}{β1:Bg}{c:Bool}{Q:a0w}(e:t (fh a) β=My (.ok c,β1))(f:c=Ni)(k:Gw (aJ b h) a β1 Q):Gw (aJ (ro t d b) h) a β Q:=by
 subst f;exact dN e k
theorem Mr{p:Int×Int}(h:oD p):(i6 K a).1 [pD p] β=My (.ok .o,β):=by
 obtain⟨b,c,e⟩:=h;unfold i6
 dsimp only
 refine bh ?_;exact Gm (d:=pD p) (β1:=β) rfl rfl (au (kh (sP (g8 (DJ rfl rfl rfl rfl))) (by simp;lia) (bB (bf ⟨rfl,rfl⟩))))
theorem Hw{r c:Nat}{b:LP}(g:t0 r c b)(n:r<=1000):(cz K a).1 [dM b,.n (r:Int),.n (c:Int)] β=My (.ok (dM b),β):=by
 unfold cz
 dsimp only
 refine bh ?_;refine dN (β1:=β) (g8 (cx rfl rfl rfl)) (bB ?_);have o:dJ 1 [2] (di (ah 0)) (gs 0) (λ_=>M.h0 Nf) (ko (f2 (ir) (aT gx (aa (ah 0) (aA))) (ah 1))) [My (dM b),My (.n (r:Int)),My (.n (c:Int)),Na,Na] β=My (.ok (.l (b.map λ_=>D.c Ni)),β):=
  bD (nv:=1) (br:=[2]) b (λw=>D.l (w.map pD)) _ (by show My _=_;rw[Nx];rfl) (λw h=>⟨_,rfl,cx (am rfl (d6 (r:=c) (by rw[M9];exact g.shp.2 w h))) rfl (ne_int.trans (by rw[NF rfl];rfl))⟩) (bp (by rw[g.shp.1];exact n))
 refine kh (mC (g8 (cx (am rfl (BJ (r:=r) (by rw[M9];exact g.shp.1))) rfl (ne_int.trans (by rw[NF rfl];rfl)))) (mB (am (af o rfl) (any_map b λ_=>Ni)) rfl)) (by simp) (bB ?_);refine bM (ds:=(gP b).map D.l) (β1:=β) rfl (λi E e=>β=e/\∃l f,E=[My (.h (dM b)),My (.h (.n (r:Int))),My (.h (.n (c:Int))),l,f]) ⟨rfl,Na,Na,rfl⟩ ?_ ?_
 .rintro i d E _ hd ⟨rfl,l,f,rfl⟩
  obtain⟨y,G,rfl⟩:=bS hd;obtain⟨w,k,rfl⟩:=bS G;refine⟨_,rfl,au (bM (ds:=w.map pD) (β1:=β) rfl (λj E e=>β=e/\∃f,E=[My (.h (dM b)),My (.h (.n (r:Int))),My (.h (.n (c:Int))),My (.h (.l (w.map pD))),f]) ⟨rfl,_,rfl⟩ ?_ ?_)⟩
  .rintro j d E _ hd ⟨rfl,f,rfl⟩
   obtain⟨p,m,rfl⟩:=bS hd;exact⟨_,rfl,au (oN (ao rfl (Mr (g.ok w (NJ k) p (NJ m)))) (bf ⟨rfl,_,rfl⟩))⟩
  .rintro E _ ⟨rfl,f,rfl⟩
   exact bf ⟨rfl,_,_,rfl⟩
 .rintro E _ ⟨rfl,l,f,rfl⟩
  exact au (aV (bD (nv:=1) (br:=[]) (gP b) D.l D.l rfl (λx _=>⟨_,rfl,rfl⟩) (bp (by rw[M9,g.shp.1];exact n))) ⟨rfl,rfl⟩)
theorem AS(l:a0a){n:Nat}{δ:Dn}(b:SW l<=1000)(e:δ.getD n Na=My (nL l)):vJ (aT yX (aa (dJ 1 [] (di (ah n)) (gs 0) (λ_=>M.h0 Nf) (ko (f2 (YR) (ah 0) (fC (.n 0))))) (aA))) δ β=My (.ok Ni,β):=by
 have c:=bD (nv:=1) (br:=[]) (it:=di (ah n)) (tg:=gs 0) (f:=f2 (YR) (ah 0) (fC (.n 0))) (δ:=δ) (β:=β) (nI l) D.n (λx=>D.c (decide (x<0))) (cD (xA e) rfl) (λx _=>⟨_,rfl,rfl⟩) (bp (by rw[M9];exact b));refine mB (am (af c rfl) (any_map _ _)) (Ou My (Yc.mpr λx a=>?_));obtain⟨n,_,rfl⟩:=Nm.mp a;simp
theorem qN(l:a0a):gx [nL l]=My (.n (SW l:Int)):=d6 (by rw[M9,M9])
theorem IB(h:Nt0 rs cs):(i5 K a).1 [nL rs,nL cs] β=My (.ok .o,β):=by
 obtain⟨b,c,d,e⟩:=h.nr;have w:=h.c1;have D:=h.c6;unfold i5
 dsimp only
 refine bh ?_;refine kh (sP (g8 (wa rfl (am rfl (qN rs)) rfl))) (by simp;lia) (bB ?_);refine kh (sP (g8 (wa rfl (am rfl (qN cs)) rfl))) (by simp;lia) (bB ?_);refine dN (mC (AS rs (by lia) rfl) (AS cs (by lia) rfl)) (bB ?_);refine kh (g8 (cx (am rfl (lR rs)) (am rfl (lR cs)) ne_int)) (by rw[h.sm];simp) (bB ?_);exact au (kh (g8 (cx (am rfl (lR rs)) rfl gt_int)) (by simp;lia) (bB (bf ⟨rfl,rfl⟩)))
theorem G9(h:D_ rs):(iZ K a).1 [nL rs] β=My (.ok .o,β):=by
 obtain⟨g,j,k,e⟩:=h;unfold iZ
 dsimp only
 refine bh ?_;refine aG (d:= .n 1) (β1:=β) rfl ?_;refine bM (ds:=(nI rs).map D.n) (β1:=β) rfl (λi w b=>β=b/\∃c,w=[My (.h (nL rs)),My (.h (.n ((pr ((rs.take i).map (·+1)):Nat):Int))),c]) ⟨rfl,Na,rfl⟩ ?_ ?_
 .rintro i d w _ hd ⟨rfl,c,rfl⟩
  obtain⟨n,E,rfl⟩:=mQ hd;have f:=iN (NJ E);have l:=NK (x4 rs i) e;refine⟨_,rfl,au (oO rfl (cx (z:= .n ((n+1:Nat):Int)) rfl rfl rfl) (qJ (Zh (by lia)) (Zh (by lia))) (bf ⟨rfl,My (.h (.n (n:Int))),?_⟩))⟩;rw[jV E];rfl
 .rintro w _ ⟨rfl,c,rfl⟩
  rw[lS,OS];exact au (kh (g8 (cx rfl rfl gt_int)) (by simp;lia) (bB (bf ⟨rfl,rfl⟩)))
structure zv (ac:LI) (B:a0f) (rs cs:a0a):Prop extends Nt0 rs cs where
 shp:ix (SW rs) (SW cs) ac
 rw1:ac.map PF=nI rs
 cl1:(tp (SW cs) ac).map PF=nI cs
 bok:G_ (SW rs) (SW cs) B
 kp:Kp ac (g0 B)
theorem jG{r c:Nat}{B:a0f}(h:ix r c B):ix r c (g0 B):=h.map
theorem G_.bnd{r c:Nat}{B:a0f}(h:G_ r c B):t0 r c (g0 B):=⟨jG h.1,λa e p f=>by
 obtain⟨b,g,rfl⟩:=Nm.mp e;obtain⟨d,i,rfl⟩:=Nm.mp f;have:=h.2 b g d i;exact⟨by show(0:Int)<=(d.1:Int);lia,by show(d.1:Int)<=(d.2:Int);lia,by show(d.2:Int)<=40;lia⟩⟩
theorem zv.nt{ac:LI}{B:a0f}(h:zv ac B rs cs):up K a rs cs (wB B cs) (j2 B):=⟨h.toNt0,LY B cs,λ{β k r} b c e=>ID c (by rw[e];exact h.bok) (by rw[<-h.sm];exact h.nr.2.2.1) b⟩
theorem zv.fit{w:LI}{B:a0f}(h:zv w B rs cs):(fU K a).1 [nL rs,nL cs,j2 B] β=My (.ok .o,β):=by
 have b:=h.nr.2.1;have D:=h.c6;refine Kx (jG h.bok.1) (M9 _) (M9 _) (by lia) (by lia) λX Y=>?_;rw[<-h.rw1,<-h.cl1];exact Hl h.shp (jG h.bok.1) h.kp X Y
theorem wv{w:LI}{B:a0f}(h:zv w B rs cs):(cz K a).1 [j2 B,.n (SW rs:Int),.n (SW cs:Int)] β=My (.ok (j2 B),β):=Hw h.bok.bnd (by have:=h.nr.2.1;lia)
abbrev Z6(B:a0f)(rs cs:a0a):a0b:=[nL rs,nL cs,j2 B,vV (wB B cs) rs (SW cs)]
abbrev El(a:Ad)(B:a0f)(rs cs:a0a):D:= .obj a.Ae ["row_list","column_list","pairs","counted"] (Z6 B rs cs)
theorem Gx{w:LI}{B:a0f}{d:D}(h:zv w B rs cs)(E:∀{β:Bg},(cz K a).1 [d,.n (SW rs:Int),.n (SW cs:Int)] β=My (.ok (j2 B),β)):(cV K a).1 [nL rs,nL cs,d] β=My (.ok (j2 B),β):=by
 unfold cV
 dsimp only
 refine bh ?_;exact oN (ao rfl (IB h.toNt0)) (aG (ao (af rfl (af (am rfl (qN rs)) (af (am rfl (qN cs)) rfl))) E) (oN (ao rfl (G9 h.nr)) (au (aV rfl ⟨rfl,rfl⟩))))
theorem MH{w:LI}{B:a0f}{d:D}(h:zv w B rs cs)(E:∀{β:Bg},(cz K a).1 [d,.n (SW rs:Int),.n (SW cs:Int)] β=My (.ok (j2 B),β)):pL K a [nL rs,nL cs,d] β=My (.ok (Z6 B rs cs),β):=EN λx=>by
 unfold vx;refine BW (g:=gA 4 _) (δ1:=[My (.h (.adr x)),My (.h (nL rs)),My (.h (nL cs)),My (.h d),My (.h (j2 B))]) (β1:=β) (GX (au (aG (ao rfl (Gx h E)) (bf ⟨rfl,rfl⟩)))) rfl rfl ?_;refine BW (δ1:=[My (.h (.adr x)),My (.h (nL rs)),My (.h (nL cs)),My (.h d),My (.h (j2 B))]) (β1:=β) (GX (au (oN (ao rfl h.fit) (bf ⟨rfl,rfl⟩)))) rfl rfl ?_;exact pV (am rfl rfl) (pV (am rfl rfl) (pV rfl (pV (ao rfl (qj h.nt)) rfl)))
theorem J0{ac:LI}{B:a0f}(h:zv ac B rs cs):pL K a [nL rs,nL cs,j2 B] β=My (.ok (Z6 B rs cs),β):=MH h (wv h)
theorem eqI(i j:Int):RQ (.int i) (.int j)=decide (i=j):=by unfold RQ;exact Bool.beq_eq_decide_eq i j
theorem l8{D:Type} [DecidableEq D]{f:D->WN}(b:∀x y,RQ (f x) (f y)=decide (x=y)):∀a w:List D,SB (a.map f) (w.map f)=decide (a=w)
 |[],[]=>by simp[SB]
 |[],y::w=>by simp[SB]
 |x::a,[]=>by simp[SB]
 |x::a,y::w=>by
  rw[NI,NI,SB,b,l8 b a w];by_cases h:x=y<;>by_cases q:a=w<;>simp[h,q]
theorem nN{a:Type}{f:a->D}{g:a->WN}(h:∀x,nw (f x)=My (g x)):∀l:List a,toPs (l.map f)=My (l.map g)
 |[]=>by simp[toPs]
 |x::l=>by
  rw[NI,toPs,h x,nN h l];rfl
theorem CM{x y:D}{p q:WN}(d:YW x y=Na)(a:nw x=My p)(w:nw y=My q)(b:m6 x=Nf)(c:m6 y=Nf):fN x y=My (.c (RQ p q)):=by
 unfold fN kT;unfold m6 at b c;rw[a]at b;rw[w]at c;simp only[d,a,w,b,c,T9,OC,P0]
variable{W:Wy}{j:D}
abbrev R4:=Int×a0d×Int×Int
abbrev a0I:=List R4
abbrev rL(p:R4):a0b:=[.n p.1,hE p.2.1,.n p.2.2.1,.n p.2.2.2]
abbrev rD(p:R4):D:= .t (rL p)
abbrev p0(l:a0I):D:= .l (l.map rD)
def jm(W:Wy)(rs:a0a)(m:Nat):a0V:=(Nr (m+1)).flatMap λk=>(eo W rs k).map λr=>(k,r)
abbrev B3(W:Wy)(m:Nat)(p:Nat×a0a):R4:=((p.1:Int),nI p.2,((uT W (m-p.1) p.1 p.2:Nat):Int),((r_ W (m-p.1) p.1 p.2:Nat):Int))
theorem MF(m:Nat):PC W rs (m+1)=(jm W rs m).map λp=>((p.1:Int),nI p.2):=by
 unfold PC jm;rw[Pn];simp only[Nx];rfl
theorem MD(m:Nat):F8 W rs m=(jm W rs m).map λp=>cv W m p.1 p.2:=by
 unfold jm;rw[Pn];simp only[Nx];rfl
theorem AW{m:Nat}{p:Nat×a0a}:p∈jm W rs m↔p.1<=m/\p.2∈eo W rs p.1:=by
 constructor
 .intro h
  obtain⟨k,c,b⟩:=O7.mp h;obtain⟨r,d,rfl⟩:=Nm.mp b;exact⟨by have:=NS.mp c;show k<=m;lia,d⟩
 .rintro⟨e,b⟩
  exact O7.mpr ⟨p.1,NS.mpr (by lia),Nm.mpr ⟨p.2,b,rfl⟩⟩
theorem y6{a:Type}{f:dv->D->D}{g:a->dv}{u:a->D}:∀l:List a,Tl f (l.map g) (l.map u)=l.map λx=>f (g x) (u x)
 |[]=>rfl
 |x::l=>Ou (_::·) (y6 l)
theorem ZH{x y z v:D}:f7 [x,y,z,v]=My (.t [x,y,z,v]):=by
 unfold f7;rw[Nu (bp (by show 4<=1000;decide))]
theorem uP(j:SW (jm W rs (SW cs))<=1000):(gr K a).1 [vV W rs (SW cs)] β=My (.ok (p0 ((jm W rs (SW cs)).map (B3 W (SW cs)))),β):=by
 unfold gr
 dsimp only
 refine bh (au (aV (d:= .l ((jm W rs (SW cs)).map λp=>rD (B3 W (SW cs) p))) (β1:=β) (bD (jm W rs (SW cs)) (λp=> .t [.t [.n (p.1:Int),tN p.2],cv W (SW cs) p.1 p.2]) _ ?_ (λp _=>⟨[My (.n (p.1:Int)),My (tN p.2),My (.n ((uT W (SW cs-p.1) p.1 p.2:Nat):Int)),My (.n ((r_ W (SW cs-p.1) p.1 p.2:Nat):Int))],rfl,am rfl ZH⟩) (bp j)) ⟨rfl,by show Pa (D.l _)=Pa (D.l _);rw[Nx];rfl⟩));show My (Pa (Tl _ (PC W rs (SW cs+1)) (F8 W rs (SW cs))),β)=_;rw[MF,MD,y6];rfl
theorem HX{B:a0f}(j:SW (jm (wB B cs) rs (SW cs))<=1000):(nC K a).1 [El a B rs cs] β=My (.ok (p0 ((jm (wB B cs) rs (SW cs)).map (B3 (wB B cs) (SW cs)))),β):=bh (au (aV (ao (af (LW rfl rfl) rfl) (uP j)) ⟨rfl,rfl⟩))
theorem MC{x y:D}{c:Bool}(h:fN x y=My (.c c)):ir x y=My (.c (!c)):=by
 unfold fN at h;unfold ir;cases e:YW x y with
 |some d=>
  rw[e]at h;cases h;rfl
 |none=>
  rw[e]at h
  dsimp only at h⊢
  cases z:kT x y with
  |none=>rw[z]at h;cases h
  |some d=>
   rw[z]at h;cases h;rfl
theorem Z2(p:R4):YO 2 (rD p):=λx hx=>by
 rcases NC.mp hx with rfl|hx
 .trivial
 rcases NC.mp hx with rfl|hx
 .intro z b
  obtain⟨i,_,rfl⟩:=Nm.mp b;trivial
 rcases NC.mp hx with rfl|hx
 .trivial
 cases NT.mp hx;trivial
theorem qc(l m:a0I):fN (p0 l) (p0 m)=My (.c (decide (l=m))):=by
 have t1:∀u:a0d,toPs (u.map D.n)=My (u.map .int):=λu=>nN (λx=>rfl) u;have t2:∀p:R4,nw (rD p)=My (.tuple [.int p.1,.tuple (p.2.1.map .int),.int p.2.2.1,.int p.2.2.2]):=λp=>by
  simp only[rD,rL,hE,nw,toPs,t1,P0]
 have t3:∀l:a0I,nw (p0 l)=My (.list (l.map λp=> .tuple [.int p.1,.tuple (p.2.1.map .int),.int p.2.2.1,.int p.2.2.2])):=λl=>by
  unfold p0 nw;rw[nN t2];rfl
 have c:∀l:a0I,m6 (p0 l)=Nf:=λl=>E4 3 (λx a=>by
  obtain⟨p,_,rfl⟩:=Nm.mp a;exact Z2 p) (by decide)
 rw[CM rfl (t3 l) (t3 m) (c l) (c m),RQ,l8 λp q=>?_];rw[RQ];simp only[SB,eqI,Bool.and_true];rw[RQ,l8 eqI];obtain⟨j,b1,w,E⟩:=p;obtain⟨G,b2,K,M⟩:=q;by_cases b:j=G<;>by_cases d:b1=b2<;>by_cases e:w=K<;>by_cases f:E=M<;>simp[b,d,e,f]
theorem ER{ac:LI}{B:a0f}(h:zv ac B rs cs)(j:SW (jm (wB B cs) rs (SW cs))<=1000)(l:a0I):(gX K a).1 [nL rs,nL cs,p0 l,j2 B] β=My (.ok (.c (decide (l=(jm (wB B cs) rs (SW cs)).map (B3 (wB B cs) (SW cs))))),β):=by
 unfold gX
 dsimp only
 refine bh ?_;exact aG (ao rfl (Gx h (wv h))) (au (aV (cx rfl (ao (af (ao rfl (qj h.nt)) rfl) (uP j)) (qc _ _)) ⟨rfl,rfl⟩))
theorem M6{l:a0a}{c:Nat}(h:SW l<=100):fi (nL l) (.l [.n (c:Int)])=My (nL (l++[c])):=by
 refine(iR (by rw[M9,M9,Oy];lia)).trans ?_;show _=My (D.l (Pk D.n (Pk _ (l++[c]))));rw[NV,NV];rfl
abbrev YU(a:a0h)(x:D)(c:Nat)(f:D)(b d e g h:a0L):Ds:=[My (.h x),My (.h (.n (c:Int))),My (.h (.l (a.map pN))),My (.h f),b,d,e,g,h]
theorem Ml{j:Nat}{n i:Nat}{d:D}(h:((Nr n).map λi=>D.n ((j+i:Nat):Int))[i]?=My d):i<n/\d= .n ((j+i:Nat):Int):=by
 obtain⟨x,a,rfl⟩:=bS h;have b:=(Nn.mp a).1;rw[NQ]at b;rw[Oq b]at a;cases a;exact⟨b,rfl⟩
theorem iK{a:Type}{l:List a}{i:Nat}{x:a}(h:l[i]?=My x):l.take (i+1)=l.take i++[x]:=by rw[T4,h];rfl
theorem wV{w:a0h}{x:D}{r:a0a}{c:Nat}(G:dE x=My ((nI r).map D.n))(J:D_ r)(A:SW w=SW r)(L:∀p∈w,p.1<=40/\p.2<=40):(mI K a).1 [x,.n (c:Int),.l (w.map pN)] β=My (.ok (.l ((vB w r c).map nL)),β):=by
 obtain⟨_,T,M,N⟩:=J;have n:∀k,k<=SW r->SW (lr w r k)<=500:=λk B=>NK (w9 k B) (NK (x4 r k) N);unfold mI
 dsimp only
 refine bh ?_;refine aG (d:= .l ((lr w r 0).map nL)) (β1:=β) (am (af (am rfl J9) rfl) oo) ?_;refine bM (ds:=(r.zip w).map λq=> .t [.n (q.1:Int),pN q.2]) (β1:=β) ?_ (λk δ g=>β=g/\∃C F o m b,δ=YU w x c (.l ((lr w r k).map nL)) C F o m b) ⟨rfl,Na,Na,Na,Na,Na,rfl⟩ ?_ ?_
 .rw[<-iS (λx:Nat=>D.n (x:Int)) pN]
  exact k8 (x:=x) (y:= .l (w.map pN)) rfl rfl (G.trans (by rw[Nx];rfl)) rfl
 .rintro k d δ _ hd ⟨rfl,C,F,o,m,b,rfl⟩
  obtain⟨q,I,rfl⟩:=bS hd;have B:k<SW r:=by
   have:=(Nn.mp I).1;rw[RV]at this;lia
  have t:k<SW w:=by lia
  obtain rfl:q=(r[k],w[k]):=by
   have:=(Nn.mp I).2;rw[List.getElem_zip]at this;exact this.symm
  have b40:=L _ (OG t);have O:=iN (OG B);refine⟨YU w x c (.l ((lr w r k).map nL)) (My (.h (.n (r[k]:Int)))) (My (.h (pN w[k]))) o m b,rfl,?_⟩;refine oK (ds:=[]) (β1:=β) rfl (OH _) ?_;have E:∀u:a0a,SW ((Nr (QN w[k].2 r[k]+1-w[k].1)).map λi=>u++[w[k].1+i])<=41:=λu=>by rw[M9,NQ];lia
  refine bM (ds:=(lr w r k).map nL) (β1:=β) rfl (λi δ g=>β=g/\∃m b,δ=YU w x c (.l ((lr w r k).map nL)) (My (.h (.n (r[k]:Int)))) (My (.h (pN w[k]))) (My (.u ((((lr w r k).take i).flatMap λu=>(Nr (QN w[k].2 r[k]+1-w[k].1)).map λj=>u++[w[k].1+j]).map nL))) m b) ⟨rfl,m,b,rfl⟩ ?_ ?_
  .rintro i d δ _ hd ⟨rfl,m,b,rfl⟩
   obtain⟨u,H,rfl⟩:=bS hd;have U:=CD k u (NJ H);have X:=(Nn.mp H).1;have Y:=n k (by lia);have Z:SW (((lr w r k).take i).flatMap λu=>(Nr (QN w[k].2 r[k]+1-w[k].1)).map λj=>u++[w[k].1+j])<=500*41:=NK (eP λu _=>E u) (S3 _ (by rw[N8];lia));refine⟨_,rfl,au (bM (ds:=(Nr (QN w[k].2 r[k]+1-w[k].1)).map λj=>D.n ((w[k].1+j:Nat):Int)) (β1:=β) (bO (as:=[.n (w[k].1:Int),.n ((QN w[k].2 r[k]:Nat)+1)]) (af (cx rfl rfl EI) (af (cx (x:= .n ((QN w[k].2 r[k]:Nat):Int)) (am (af (cx rfl rfl EH) (af rfl rfl)) (yi.trans ?_)) rfl rfl) rfl)) ((Ju (by lia) (by lia) (by lia)).trans ?_)) (λj δ g=>β=g/\∃b,δ=YU w x c (.l ((lr w r k).map nL)) (My (.h (.n (r[k]:Int)))) (My (.h (pN w[k]))) (My (.u ((((lr w r k).take i).flatMap λu=>(Nr (QN w[k].2 r[k]+1-w[k].1)).map λj=>u++[w[k].1+j]).map nL++((Nr (QN w[k].2 r[k]+1-w[k].1)).take j).map λj=>nL (u++[w[k].1+j])))) (My (.h (nL u))) b) ⟨rfl,b,by rw[Sf,Q4,Ob];rfl⟩ ?_ ?_)⟩
   .rw[show QN (w[k].2:Int) (r[k]:Int)=((QN w[k].2 r[k]:Nat):Int) by lia]
   .rw[show((QN w[k].2 r[k]:Nat)+1-(w[k].1:Int):Int).toNat=QN w[k].2 r[k]+1-w[k].1 by lia]
   .rintro j d δ _ hd ⟨rfl,b,rfl⟩
    obtain⟨Q,rfl⟩:=Ml hd;have e:(Nr (QN w[k].2 r[k]+1-w[k].1))[j]?=My j:=Oq Q;refine⟨_,rfl,au (oP (d:=nL (u++[w[k].1+j])) rfl (af (cx rfl (am rfl oo) (M6 (by lia))) rfl) (NP (show _<50000 by rw[Nw,M9,M9,N8,NQ];lia) (by decide)) (bf ⟨rfl,My (.h (.n ((w[k].1+j:Nat):Int))),?_⟩))⟩;rw[iK e,NV];show[_,_,_,_,_,_,My (Sl.u (_++_++[_])),_,_]=[_,_,_,_,_,_,My (Sl.u (_++(_++[_]))),_,_];rw[Ny]
   .rintro δ _ ⟨rfl,b,rfl⟩
    rw[M9,NQ];refine bf ⟨rfl,My (.h (nL u)),b,?_⟩;rw[iK H,QT,NV,O3,Vf,Ob,Nx,OJ (l:=Nr (QN w[k].2 r[k]+1-w[k].1)) (by rw[NQ];exact No _)];rfl
  .rintro δ _ ⟨rfl,m,b,rfl⟩
   rw[M9,OS];refine sR (au (aG (d:= .l ((lr w r (k+1)).map nL)) (β1:=β) ?_ (bf ⟨rfl,_,_,_,_,_,rfl⟩)));have R:lr w r (k+1)=(lr w r k).flatMap λu=>(Nr (QN w[k].2 r[k]+1-w[k].1)).map λi=>u++[w[k].1+i]:=by
    show WC _ _=_;rw[gz B,gz t]
   rw[R];rfl
 .rintro δ _ ⟨rfl,C,F,o,m,b,rfl⟩
  rw[M9,RV,A,Nat.min_self,xa A];have h:=kR (nv:=1) (br:=[1]) (it:=di (ah 3)) (tg:=gs 0) (tt:=fB (f2 (fN) (aT gW (aa (ah 0) (aA))) (ah 1))) (f:=ah 0) (δ:=fh (YU w x c (.l ((B_ w r).map nL)) C F o m b)) (β:=β) (B_ w r) nL nL (λv=>decide (v.sum=c)) rfl (λv _=>⟨[My (nL v),My (.n (c:Int))],rfl,g8 (cx (am rfl (lR v)) rfl (eq_int.trans (by rw[decide_eq_decide.mpr (show((v.sum:Nat):Int)=(c:Int)↔v.sum=c by lia)]))),λ_=>rfl⟩) (bp (by rw[<-xa A];have:=n (SW r) (No _);lia));refine au (aV h ⟨rfl,?_⟩);rw[CZ A]
theorem va{x:D}{r v:a0a}(j:dE x=My ((nI r).map D.n))(h:lb v r)(b:SW r<=4):(kq K a).1 [x,nL v] β=My (.ok (nL (less r v)),β):=by
 unfold kq
 dsimp only
 refine bh (au (aV ?_ ⟨rfl,rfl⟩));unfold nL;rw[<-vf h];refine bD (r.zip v) (λp=>D.t [.n (p.1:Int),.n (p.2:Int)]) _ ?_ (λp _=>⟨[My (.n (p.1:Int)),My (.n (p.2:Int))],rfl,rfl⟩) (bp (by rw[RV];lia));rw[<-iS (λx:Nat=>D.n (x:Int)) (λx:Nat=>D.n (x:Int))];refine k8 (x:=x) (y:=nL v) rfl rfl (j.trans (by rw[Nx];rfl)) ?_
 .show My _=My _
  rw[Nx];rfl
theorem xq{r c k n i:Nat}{B:a0f}(hB:G_ r c B)(g:r<=4)(j:k<c){δ:Dn}(d:δ.getD i Na=My (j2 B))(e:j0 1 [n] δ=[Na,My (.n (k:Int))]):dJ 1 [n] (di (ah i)) (gs 0) (λ_=>M.h0 Nf) (ko (f2 hU (ah 0) (ah 1))) δ β=My (.ok (.l ((oC B k).map pN)),β):=by
 have h:=bD (nv:=1) (br:=[n]) (it:=di (ah i)) (tg:=gs 0) (f:=f2 hU (ah 0) (ah 1)) (δ:=δ) (β:=β) B (λa=>D.l (a.map pN)) (λa=>pN (a.getD k (0,0))) (cD (xA d) (by
  show My _=My _;rw[Nx,Nx];exact Ou My (Od λa _=>Ou D.l (by show Pk pD (Pk _ a)=_;rw[Nx];rfl)))) (λa b=>⟨[My (D.l (a.map pN)),My (.n (k:Int))],by rw[e];rfl,cx rfl rfl (cP (by
   have l:=hB.1.2 a b;rw[Nl,gz (by lia),Ng (by lia)];rfl))⟩) (bp (by rw[hB.1.1];lia))
 refine h.trans ?_;unfold oC;rw[Nx];rfl
theorem zm(l:a0a):uh [nL l]=My (tN l):=rfl
theorem Gk{i:Nat}{b:Bool}{h:G}{a:Ds}{Q:a0w}(k:Gw h (a.set i (My (.odc b [] []))) β Q):Gw (aJ (Kw i b) h) a β Q:=de rfl k
theorem ze{i:Nat}{e f:FD}{h:G}{a:Ds}{Q:a0w}{d kd:D}{b:Bool}{c:a0H}{w:a0b}{k:dv}{β1 β2:Bg}(g:f (fh a) β=My (.ok d,β1))(j:e (fh a) β1=My (.ok kd,β2))(l:a.getD i Na=My (.odc b c w))(m:jL b kd=My k)(E:noL d=Nf)(n:SW c<NN)(o:Gw h (a.set i (My (.odc b (z_ c k) (YA c w k d)))) β2 Q):Gw (aJ (p8 i e f) h) a β Q:=
 de (by unfold p8;simp only[g,j,l,m,E,NF n,T9,OC]) o
def Sn(W:Wy)(rs:a0a)(k:Nat)(P:a0Y)(b:a0H):Prop:=b.Nodup/\(∀y∈b,∃u∈eo W rs (k+1),y=(0,nI u))/\∀r v,P r v->(0,nI (less r v))∈b
theorem Sn.mono{k:Nat}{P b:a0Y}{c:a0H}(h:Sn W rs k P c)(q:∀r v,b r v->P r v):Sn W rs k b c:=⟨h.1,h.2.1,λr v z=>h.2.2 r v (q r v z)⟩
set_option tactic.hygienic true in
theorem Sn.add{k:Nat}{P f:a0Y}{d:a0H}{r v:a0a}(h:Sn W rs k P d)(i:r∈eo W rs k)(j:v∈W k r)(q:∀b c,f b c->P b c\/(b=r/\c=v)):Sn W rs k f (z_ d (0,nI (less r v))):=by
 obtain⟨g,l,m⟩:=h;have D:∀y,y∈z_ d (0,nI (less r v))↔y∈d\/y=(0,nI (less r v)):=λy=>by
  unfold z_;split
  .rename_i z
   exact⟨.inl,λw=>w.elim id λe=>e▸z⟩
  .simp
 refine⟨?_,λy a=>?_,λb c z=>(D _).mpr ?_⟩
 .unfold z_
  split
  .exact g
  .rename_i z
   exact QK.mpr ⟨g,OW _ _,λx E y a e=>z (by rw[<-NT.mp a,<-e];exact E)⟩
 .rcases(D y).mp a with z|z
  .exact l y z
  .exact⟨less r v,gN.mpr ⟨r,i,v,j,rfl⟩,z⟩
 .rcases q b c z with z|⟨rfl,rfl⟩
  .exact .inl (m _ _ z)
  .exact .inr rfl
theorem Sn.len{k:Nat}{P:a0Y}{b:a0H}(h:Sn W rs k P b)(c:up K a rs cs W j)(e:k<SW cs):SW b<=62:=by
 have:=L2.Pu.nd_len h.1 (m:=(eo W rs (k+1)).map λu=>((0:Int),nI u)) λy w=>by
  obtain⟨u,d,rfl⟩:=h.2.1 y w;exact Nm.mpr ⟨u,d,rfl⟩
 rw[M9]at this;exact NK this (hZ c (by lia))
theorem Sn.srt{k:Nat}{P:a0Y}{c:a0H}{w:a0b}(h:Sn W rs k P c)(b:up K a rs cs W j)(g:k<SW cs)(q:∀r∈eo W rs k,∀v∈W k r,P r v):uq [.dct Ni c w]=My (js W rs (k+1)):=by
 have:=h.len b g;show(if SW c<64 then gn (c.map λk=>hE k.2)else Na)=_;rw[Nu (by lia)];refine zD (wR b.ok b.sm b.nr.1 b.wd g) λd=>⟨λz=>?_,λz=>?_⟩
 .obtain⟨y,hy,rfl⟩:=Nm.mp z
  obtain⟨r,e,v,f,rfl⟩:=gO.mp hy;exact Nm.mpr ⟨_,h.2.2 r v (q r e v f),rfl⟩
 .obtain⟨y,hy,rfl⟩:=Nm.mp z
  obtain⟨u,i,rfl⟩:=h.2.1 y hy;obtain⟨r,e,v,f,rfl⟩:=gN.mp i;exact Nm.mpr ⟨_,gO.mpr ⟨r,e,v,f,rfl⟩,rfl⟩
abbrev Z4(rs cs:a0a)(B:a0f)(l:a0b)(b c d e f:a0L):Ds:=[My (.h (nL rs)),My (.h (nL cs)),My (.h (j2 B)),My (.u l),b,c,d,e,f]
theorem BC{B:a0f}(h:up K a rs cs (wB B cs) (j2 B))(hB:G_ (SW rs) (SW cs) B):(lL K a).1 [nL rs,nL cs,j2 B] β=My (.ok (.l ((Nr (SW cs+1)).map (js (wB B cs) rs))),β):=by
 have W:=h.c6;have H:=h.nr.2.1;unfold lL
 dsimp only
 refine bh ?_;refine oK (ds:=[js (wB B cs) rs 0]) (β1:=β) (af (am (af (am rfl rfl) rfl) oo) rfl) (show 1<=NN by decide) ?_;refine bM (ds:=c5 0 ((nI cs).map D.n)) (β1:=β) (bO rfl rfl) (λk w f=>β=f/\∃q t u g b,w=Z4 rs cs B ((Nr (k+1)).map (js (wB B cs) rs)) q t u g b) ⟨rfl,Na,Na,Na,Na,Na,rfl⟩ ?_ ?_
 .rintro k d w _ hd ⟨rfl,q,t,u,g,b,rfl⟩
  obtain⟨x,P,rfl⟩:=qV hd;obtain⟨n,G,rfl⟩:=mQ P;have m:=(Nn.mp G).1;have I:cs.getD k 0=n:=by rw[NA,G];rfl
  obtain⟨S,J⟩:=hB.col m;refine⟨_,rfl,Gk ?_⟩;refine bM (ds:=(eo (wB B cs) rs k).map tN) (β1:=β) ?_ (λi w f=>β=f/\∃e E g b,w=Z4 rs cs B ((Nr (k+1)).map (js (wB B cs) rs)) (My (.h (.n (k:Int)))) (My (.h (.n (n:Int)))) (My (.odc Ni e E)) g b/\Sn (wB B cs) rs k (λr v=>r∈(eo (wB B cs) rs k).take i/\v∈wB B cs k r) e) ⟨rfl,[],[],g,b,rfl,List.nodup_nil,(λy V=>by cases V),λr v z=>by simp at z⟩ ?_ ?_
  .show M.f ((hU (.l ((Nr (k+1)).map (js (wB B cs) rs))) (.n (k:Int))).bind dE) β=_
   rw[cP (d:=js (wB B cs) rs k) (by rw[Nl,Oq (by lia)];rfl)];rfl
  .rintro i d w _ hd ⟨rfl,e,E,g,b,rfl,sn⟩
   obtain⟨r,A,rfl⟩:=bS hd;have o:=NJ A;obtain⟨C,L,N⟩:=h.at (by lia) o;refine⟨_,rfl,au (bM (ds:=(wB B cs k r).map nL) (β1:=β) (cD (ao (af rfl (af rfl (af (xq hB H m rfl rfl) rfl))) (wV (c:=n) rfl C (by rw[S,L]) J)) (by unfold wB;rw[I];rfl)) (λj w f=>β=f/\∃e E b,w=Z4 rs cs B ((Nr (k+1)).map (js (wB B cs) rs)) (My (.h (.n (k:Int)))) (My (.h (.n (n:Int)))) (My (.odc Ni e E)) (My (.h (tN r))) b/\Sn (wB B cs) rs k (λl v=>(l∈(eo (wB B cs) rs k).take i/\v∈wB B cs k l)\/(l=r/\v∈(wB B cs k r).take j)) e) ⟨rfl,e,E,b,rfl,sn.mono λr v z=>z.elim id λz=>by simp at z⟩ ?_ ?_)⟩
   .rintro j d w _ hd ⟨rfl,e,E,b,rfl,sn⟩
    obtain⟨v,F,rfl⟩:=bS hd;have p:=NJ F;have O:=sn.len h m;refine⟨_,rfl,au (ze (d:= .c Nf) (kd:=dK Ni (0,nI (less r v))) (β1:=β) (β2:=β) rfl (am (af (ao rfl (va rfl (eJ ((h.ok k r).subset p)) C.2.1)) rfl) (zm _)) rfl (j3 λ_=>rfl) rfl (NP (show _<100 by lia) (by decide)) (bf ⟨rfl,_,_,_,rfl,sn.add o p λl Q z=>?_⟩))⟩;rcases z with z|⟨z1,z2⟩
    .exact .inl (.inl z)
    .rw[iK F]at z2
     rcases N4.mp z2 with z2|z2
     .exact .inl (.inr ⟨z1,z2⟩)
     .exact .inr ⟨z1,NT.mp z2⟩
   .rintro w _ ⟨rfl,e,E,b,rfl,sn⟩
    rw[M9,OS]at sn;refine bf ⟨rfl,e,E,_,_,rfl,sn.mono λl v z=>?_⟩;obtain⟨z1,z2⟩:=z;rw[iK A]at z1;rcases N4.mp z1 with z1|z1
    .exact .inl ⟨z1,z2⟩
    .cases NT.mp z1
     exact .inr ⟨rfl,z2⟩
  .rintro w _ ⟨rfl,e,E,g,b,rfl,sn⟩
   rw[M9,OS]at sn;refine sR (au (oP (cs:=(Nr (k+1)).map (js (wB B cs) rs)) (d:=js (wB B cs) rs (k+1)) rfl (af (am rfl (sn.srt h m λr o v p=>⟨o,p⟩)) rfl) (NP (show _<1000 by rw[M9,NQ];lia) (by decide)) (bf ⟨rfl,My (.h (.n (k:Int))),My (.h (.n (n:Int))),My (.h (.dct Ni e E)),g,b,?_⟩)));rw[Qm (n:=k+1),NV];rfl
 .rintro w _ ⟨rfl,q,t,u,g,b,rfl⟩
  rw[ma,M9,M9];exact au (aV rfl ⟨rfl,rfl⟩)
end
section
variable{K:NR}{a:Ad}{β:Bg}{rs cs:a0a}{W:Wy}{s:D}
open L2.Hs (Up bZ kl)
abbrev kP(p:Nat×a0a):dv:=((p.1:Int),nI p.2)
theorem BR{p q:Nat×a0a}(h:kP p=kP q):p=q:=Qr (by have:=(Sg.mp h).1;simp only at this;lia) (lU (Sg.mp h).2)
theorem vb{f:Nat×a0a->D}{p:Nat×a0a}:∀{N:a0V},p∈N->KX (N.map kP) (N.map f) (kP p)=My (f p)
 |q::N,h=>by
  unfold KX;rw[NI,NI,PP,Rb];by_cases z:q=p
  .rw[z,NF rfl];rfl
  .rw[Oo λe=>z (BR e)]
   exact vb ((NC.mp h).resolve_left λe=>z e.symm)
def mX(W:Wy)(rs:a0a)(m t:Nat):a0V:=(Nr t).flatMap λi=>(eo W rs (m-i)).map λr=>(m-i,r)
theorem qW{m t:Nat}{p:Nat×a0a}(f:t<=m+1):p∈mX W rs m t↔(p.1<=m/\m<p.1+t)/\p.2∈eo W rs p.1:=by
 constructor
 .intro h
  obtain⟨i,c,b⟩:=O7.mp h;obtain⟨r,d,rfl⟩:=Nm.mp b;have:=NS.mp c;exact⟨⟨by show m-i<=m;lia,by show m<m-i+t;lia⟩,d⟩
 .rintro⟨⟨g,b⟩,e⟩
  refine O7.mpr ⟨m-p.1,NS.mpr (by lia),Nm.mpr ⟨p.2,?_,?_⟩⟩
  .rw[show m-(m-p.1)=p.1 by lia];exact e
  .rw[show m-(m-p.1)=p.1 by lia]
theorem vN(m t:Nat):mX W rs m (t+1)=mX W rs m t++(eo W rs (m-t)).map λr=>(m-t,r):=by
 unfold mX;rw[Qm,QT,O3,Vf,Ob]
abbrev y4(W:Wy)(m:Nat)(p:Nat×a0a):D:=cv W m p.1 p.2
abbrev P_(W:Wy)(rs cs:a0a)(s:D)(N:a0V)(c d e f g b:a0L):Ds:=[My (.h (nL rs)),My (.h (nL cs)),My (.h s),My (.h (.l ((Nr (SW cs+1)).map (js W rs)))),My (.odc Nf (N.map kP) (N.map (y4 W (SW cs)))),c,d,e,f,g,b]
theorem AA{W:Wy}{s:D}{N:a0V}{c f g i j b:a0L}{l m:FD}{h:G}{Q:a0w}{p:Nat×a0a}(o:p∉N)(r:SW N<=1000)(t:l (fh (P_ W rs cs s N c f g i j b)) β=My (.ok (.t [.n (p.1:Int),tN p.2]),β))(u:m (fh (P_ W rs cs s N c f g i j b)) β=My (.ok (y4 W (SW cs) p),β))
  (k:Gw h (P_ W rs cs s (N++[p]) c f g i j b) β Q):Gw (aJ (p8 4 l m) h) (P_ W rs cs s N c f g i j b) β Q:=by
 have n:kP p∉N.map kP:=λz=>by
  obtain⟨q,v,e⟩:=Nm.mp z;exact o (BR e▸v)
 refine ze (d:=y4 W (SW cs) p) (kd:=dK Nf (kP p)) (β1:=β) (β2:=β) u t rfl (j3 λe=>(by cases e)) rfl (Oj (show _<=1000 by rw[M9];exact r) (by decide)) ?_;unfold z_ YA;rw[Nv n,Nv n];have y:N.map kP++[kP p]=(N++[p]).map kP:=by rw[NV];rfl
 have A:N.map (y4 W (SW cs))++[y4 W (SW cs) p]=(N++[p]).map (y4 W (SW cs)):=by rw[NV];rfl
 rw[y,A];exact k
theorem xw{m t i:Nat}{r:a0a}(h:t<=m)(b:(eo W rs (m-t))[i]?=My r):(m-t,r)∉mX W rs m t++((eo W rs (m-t)).take i).map λr=>(m-t,r):=λz=>by
 rcases N4.mp z with z|z
 .have:=((qW (by lia)).mp z).1.2
  simp only at this;lia
 .obtain⟨q,c,e⟩:=Nm.mp z
  cases(Sg.mp e).2;obtain⟨j,k,d⟩:=V3.mp c;obtain⟨f,g⟩:=Nn.mp b;have:=(List.getElem_inj (h₀:=by lia) (h₁:=f) (pM (W:=W) (rs:=rs) (m-t))).mp (d.trans g.symm);lia
theorem MI(k:Nat):Up ((eo W rs k).map nI):=by
 cases k with
 |zero=>exact OW _ _
 |succ k=>rw[show eo W rs (k+1)=Wi W (eo W rs k) k from rfl,sX];exact jO _
theorem ME(m:Nat):Up ((jm W rs m).map λp=>kl Nf (kP p)):=by
 unfold jm;rw[Pn];refine List.pairwise_flatMap.mpr ⟨λk _=>?_,?_⟩
 .rw[Nx]
  refine Pg.mpr ((Pg.mp (MI k)).imp λ{x y} h=>?_);show bZ ((k:Int)::nI x) ((k:Int)::nI y)=Nf;unfold bZ;rw[Nu rfl];exact h
 .refine List.pairwise_lt_range.imp λ{i j} b x a y s=>?_
  obtain⟨_,c,rfl⟩:=Nm.mp a;obtain⟨u,_,rfl⟩:=Nm.mp c;obtain⟨_,d,rfl⟩:=Nm.mp s;obtain⟨v,_,rfl⟩:=Nm.mp d;show bZ ((i:Int)::nI u) ((j:Int)::nI v)=Nf;unfold bZ;rw[Nv (by lia)];exact NF (by lia)
theorem Ih{B:a0f}(h:up K a rs cs (wB B cs) (j2 B))(hB:G_ (SW rs) (SW cs) B)(P:SW (mX (wB B cs) rs (SW cs) (SW cs+1))<=1000):(jK K a).1 [nL rs,nL cs,j2 B] β=My (.ok (p0 ((jm (wB B cs) rs (SW cs)).map (B3 (wB B cs) (SW cs)))),β):=by
 have c6:=h.c6;have S:=h.nr.2.1;have Y:∀t,t<=SW cs->∀i,SW (mX (wB B cs) rs (SW cs) t++((eo (wB B cs) rs (SW cs-t)).take i).map λr=>(SW cs-t,r))<=1000:=λt Z i=>by
  have l1:SW (mX (wB B cs) rs (SW cs) t)<=62*t:=by
   unfold mX;refine NK (eP (n:=62) λk o=>?_) (by rw[NQ,Qw];exact No _);rw[M9];exact hZ h (by lia)
  have l2:=hZ h (k:=SW cs-t) (by lia);rw[Nw,M9,N8];lia
 unfold jK
 dsimp only
 refine bh ?_;refine aG (ao rfl (BC h hB)) (Gk ?_);have J:∀k,k<=SW cs->hU (.l ((Nr (SW cs+1)).map (js (wB B cs) rs))) (.n (k:Int))=My (js (wB B cs) rs k):=λk o=>cP (by rw[Nl,Oq (by lia)];rfl);have L:hU (.l ((Nr (SW cs+1)).map (js (wB B cs) rs))) (.n (-1))=My (js (wB B cs) rs (SW cs)):=by
  show la _ _=_;unfold la i4;rw[M9,NQ,Nv (by decide),Nu (by lia),show((-1:Int)+((SW cs+1:Nat):Int)).toNat=SW cs by lia,Qb,Nl,Oq (by lia)];rfl
 refine bM (ds:=(eo (wB B cs) rs (SW cs-0)).map tN) (β1:=β) (cD (cx rfl rfl L) rfl) (λi s c=>β=c/\∃g,s=P_ (wB B cs) rs cs (j2 B) (mX (wB B cs) rs (SW cs) 0++((eo (wB B cs) rs (SW cs-0)).take i).map λr=>(SW cs-0,r)) g Na Na Na Na Na) ⟨rfl,Na,rfl⟩ ?_ ?_
 .rintro i d s _ hd ⟨rfl,g,rfl⟩
  obtain⟨r,A,rfl⟩:=bS hd;refine⟨_,rfl,au (AA (p:=(SW cs-0,r)) (xw (OH _) A) (Y 0 (OH _) i) (am (af (am rfl (qN cs)) (af rfl rfl)) gG) (am rfl (gG.trans ?_)) (bf ⟨rfl,My (.h (tN r)),?_⟩))⟩
  .show My (D.t [.n 1,.n 1])=My (cv (wB B cs) (SW cs) (SW cs) r)
   unfold cv;rw[RG];rfl
  .rw[iK A,NV,Ny];rfl
 rintro s _ ⟨rfl,g,rfl⟩;rw[M9,OS,<-vN];refine bM (ds:=dO (SW cs)) (β1:=β) (bO (as:=[.n ((SW cs:Int)-1),.n (-1),.n (-1)]) (af (cx (am rfl (qN cs)) rfl rfl) rfl) ?_) (λt s c=>β=c/\∃g O q u l b,s=P_ (wB B cs) rs cs (j2 B) (mX (wB B cs) rs (SW cs) (t+1)) g O q u l b) ⟨rfl,g,Na,Na,Na,Na,Na,rfl⟩ ?_ ?_
 .show(if(decide (-1<=(SW cs:Int)-1)&&decide ((SW cs:Int)-1<2^62))=Nf then My (dO ((SW cs:Int)-1+1).toNat)else Na)=_
  rw[Nu (by simp;lia),show((SW cs:Int)-1+1).toNat=SW cs by lia]
 .rintro t d s _ hd ⟨rfl,g,O,q,u,l,b,rfl⟩
  have Z:t<SW cs:=by
   have:=(Nn.mp hd).1;simpa[dO]using this
  obtain rfl:d= .n ((SW cs-(t+1):Nat):Int):=by
   unfold dO at hd;rw[Nl,Oq Z]at hd;cases hd;exact Ou D.n (by lia)
  have o:SW cs-(t+1)<SW cs:=by lia
  obtain⟨V,W⟩:=hB.col o;refine⟨_,rfl,au (bM (ds:=(eo (wB B cs) rs (SW cs-(t+1))).map tN) (β1:=β) (cD (cx rfl rfl (J _ (by lia))) rfl) (λi s c=>β=c/\∃g q u l b,s=P_ (wB B cs) rs cs (j2 B) (mX (wB B cs) rs (SW cs) (t+1)++((eo (wB B cs) rs (SW cs-(t+1))).take i).map λr=>(SW cs-(t+1),r)) g (My (.h (.n ((SW cs-(t+1):Nat):Int)))) q u l b) ⟨rfl,g,q,u,l,b,by rw[Sf,Q4,Ob];rfl⟩ ?_ ?_)⟩
  .rintro i d s _ hd ⟨rfl,g,q,u,l,b,rfl⟩
   obtain⟨r,A,rfl⟩:=bS hd;have Q:=NJ A;have E:=xw (m:=SW cs) (t:=t+1) (by lia) A;have G:=Y (t+1) (by lia) i;have C:∀v∈wB B cs (SW cs-(t+1)) r,(SW cs-(t+1)+1,less r v)∈mX (wB B cs) rs (SW cs) (t+1)++((eo (wB B cs) rs (SW cs-(t+1))).take i).map λr=>(SW cs-(t+1),r):=λv F=>N4.mpr (.inl ((qW (by lia)).mpr ⟨⟨by show _+1<=_;lia,by show _<_+1+(t+1);lia⟩,gN.mpr ⟨r,Q,v,F,rfl⟩⟩));have e9:mX (wB B cs) rs (SW cs) (t+1)++((eo (wB B cs) rs (SW cs-(t+1))).take (i+1)).map (λr=>(SW cs-(t+1),r))=(mX (wB B cs) rs (SW cs) (t+1)++((eo (wB B cs) rs (SW cs-(t+1))).take i).map (λr=>(SW cs-(t+1),r)))++[(SW cs-(t+1),r)]:=by
    rw[iK A,NV,Ny];rfl
   rw[e9];generalize mX (wB B cs) rs (SW cs) (t+1)++((eo (wB B cs) rs (SW cs-(t+1))).take i).map (λr=>(SW cs-(t+1),r))=N at E G C;obtain⟨R,n2,n3⟩:=h.at (OK o) Q;have et:uT (wB B cs) (SW cs-(SW cs-(t+1))) (SW cs-(t+1)) r=L2.Nt.sm (wB B cs (SW cs-(t+1)) r) λv=>uT (wB B cs) (SW cs-(SW cs-(t+1)+1)) (SW cs-(t+1)+1) (less r v):=by rw[show SW cs-(SW cs-(t+1))=SW cs-(SW cs-(t+1)+1)+1 by lia];rfl
   have ed:r_ (wB B cs) (SW cs-(SW cs-(t+1))) (SW cs-(t+1)) r=L2.Nt.sm (wB B cs (SW cs-(t+1)) r) λv=>mu v*r_ (wB B cs) (SW cs-(SW cs-(t+1)+1)) (SW cs-(t+1)+1) (less r v):=by rw[show SW cs-(SW cs-(t+1))=SW cs-(SW cs-(t+1)+1)+1 by lia];rfl
   generalize SW cs-(t+1)=k at*;refine⟨_,rfl,aG (d:= .n 0) (β1:=β) rfl (aG (d:= .n 0) (β1:=β) rfl ?_)⟩;refine bM (ds:=(wB B cs k r).map nL) (β1:=β) (cD (ao (af rfl (af (x:= .n ((cs.getD k 0:Nat):Int)) (cx rfl rfl (cP (by rw[Nl,Nl,gz o,Ng o];rfl))) (af (xq hB S o rfl rfl) rfl))) (wV rfl R (by rw[V,n2]) W)) rfl) (λj s c=>β=c/\∃l b,s=P_ (wB B cs) rs cs (j2 B) N (My (.h (tN r))) (My (.h (.n (k:Int)))) (My (.h (.n ((L2.Nt.sm ((wB B cs k r).take j) λv=>uT (wB B cs) (SW cs-(k+1)) (k+1) (less r v):Nat):Int)))) (My (.h (.n ((L2.Nt.sm ((wB B cs k r).take j) λv=>mu v*r_ (wB B cs) (SW cs-(k+1)) (k+1) (less r v):Nat):Int)))) l b) ⟨rfl,l,b,rfl⟩ ?_ ?_
   .rintro j d s _ hd ⟨rfl,l,b,rfl⟩
    obtain⟨v,F,rfl⟩:=bS hd;have w:=NJ F;have y:=(h.ok k r).subset w;have M:=gN.mpr ⟨r,Q,v,w,rfl⟩;have T:=(ia h.ok h.sm (k+1) o _ M).2;have H:v.sum<=40:=NK (eJ y).sum n3;have U:=(h.at o M).2.2;have v4:SW v<=4:=by rw[(eJ y).len];exact R.2.1
    have dx:yQ (.dct Nf (N.map kP) (N.map (y4 (wB B cs) (SW cs)))) (.t [.n ((k+1:Nat):Int),tN (less r v)])=My (cv (wB B cs) (SW cs) (k+1) (less r v)):=by
     show(jL Nf (dK Nf (((k+1:Nat):Int),nI (less r v)))).bind _=_;rw[j3 λe=>(by cases e)];exact vb (f:=y4 (wB B cs) (SW cs)) (C v w)
    refine⟨_,rfl,zc (d:=cv (wB B cs) (SW cs) (k+1) (less r v)) (β1:=β) (cx rfl (am (af (cx rfl rfl rfl) (af (am (af (ao rfl (va rfl (eJ y) R.2.1)) rfl) (zm _)) rfl)) gG) dx) ?_⟩;refine aG (d:= .n ((L2.Nt.sm ((wB B cs k r).take (j+1)) λv=>uT (wB B cs) (SW cs-(k+1)) (k+1) (less r v):Nat):Int)) (β1:=β) (cx rfl (cx rfl rfl EI) (by rw[sT _ F];rfl)) ?_;exact au (aG (d:= .n ((L2.Nt.sm ((wB B cs k r).take (j+1)) λv=>mu v*r_ (wB B cs) (SW cs-(k+1)) (k+1) (less r v):Nat):Int)) (β1:=β) (cx rfl (cx (cx rfl rfl EH) (ao rfl (Eu H v4)) (qJ (dZ (NK (qe h.ok _ _ _ (by lia)) (by rw[qd _ _ T];exact yh U)) (by decide)) (dZ (uc H) (by decide)))) (by rw[sT _ F,tZ,Qw];rfl)) (bf ⟨rfl,_,_,rfl⟩))
   .rintro s _ ⟨rfl,l,b,rfl⟩
    rw[M9,OS,<-et,<-ed];exact au (AA (p:=(k,r)) E G (am rfl gG) (am rfl gG) (bf ⟨rfl,_,_,_,_,_,rfl⟩))
  .rintro s _ ⟨rfl,g,q,u,l,b,rfl⟩
   rw[M9,OS,<-vN];exact bf ⟨rfl,_,_,_,_,_,_,rfl⟩
 .rintro s _ ⟨rfl,g,O,q,u,l,b,rfl⟩
  rw[show(dO (SW cs)).length=SW cs by simp[dO]];have X:∀p,p∈jm (wB B cs) rs (SW cs)↔p∈mX (wB B cs) rs (SW cs) (SW cs+1):=λp=>by
   rw[AW,qW (No _)];exact⟨λz=>⟨⟨z.1,by lia⟩,z.2⟩,λz=>⟨z.1.1,z.2⟩⟩
  have sp:Yx ((jm (wB B cs) rs (SW cs)).map kP) ((mX (wB B cs) rs (SW cs) (SW cs+1)).map kP):=⟨by rw[Nx];exact ME _,by rw[M9];exact P,λk=>⟨λz=>by
   obtain⟨p,I,rfl⟩:=Nm.mp z;exact Nm.mpr ⟨p,(X p).mp I,rfl⟩,λz=>by
   obtain⟨p,I,rfl⟩:=Nm.mp z;exact Nm.mpr ⟨p,(X p).mpr I,rfl⟩⟩⟩
  have l9:SW (jm (wB B cs) rs (SW cs))<=1000:=NK (eP (n:=62) λk o=>by
   have:=NS.mp o;rw[M9];exact hZ h (by lia)) (by rw[NQ];lia)
  refine au (aV (d:= .l ((jm (wB B cs) rs (SW cs)).map λp=>rD (B3 (wB B cs) (SW cs) p))) (β1:=β) (bD (jm (wB B cs) rs (SW cs)) (λp=>dK Nf (kP p)) _ (cD (am rfl (DV sp)) (by rw[Nx];rfl)) (λp I=>⟨[My (dK Nf (kP p)),My (.dct Nf ((mX (wB B cs) rs (SW cs) (SW cs+1)).map kP) ((mX (wB B cs) rs (SW cs) (SW cs+1)).map (y4 (wB B cs) (SW cs))))],rfl,cx rfl (cx (z:=y4 (wB B cs) (SW cs) p) rfl rfl ?_) ?_⟩) (bp l9)) ⟨rfl,by show Pa (D.l _)=Pa (D.l _);rw[Nx];rfl⟩)
  .show(jL Nf (dK Nf (kP p))).bind _=_
   rw[j3 λe=>(by cases e)];exact vb (f:=y4 (wB B cs) (SW cs)) ((X p).mp I)
  .show fi (.t [.n (p.1:Int),tN p.2]) (.t [.n ((uT (wB B cs) (SW cs-p.1) p.1 p.2:Nat):Int),.n ((r_ (wB B cs) (SW cs-p.1) p.1 p.2:Nat):Int)])=_
   unfold fi;simp only;rw[Nu (bp (by show 4<=1000;decide))];rfl
end
section
variable{K:NR}{a:Ad}{β:Bg}
theorem sk{ac:a0u}(h:SW ac<=1000):(iF K a).1 [lG ac] β=My (.ok (lG ac),β):=
 bh (au (aV (bD ac D.l D.l rfl (λx _=>⟨_,rfl,rfl⟩) (bp h)) ⟨rfl,rfl⟩))
theorem BH{r c:Nat}(d:r<=1000)(e:c<=1000):lV K a [.n (r:Int),.n (c:Int)] β=My (.ok (gP (m4 r c)),β):=by
 have b:∀x:Nat,ie 1 [] (cL f9 (aa (ah 1) (aA))) (gs 0) (λ_=>M.h0 Nf) (ko (aT f7 (aa (fC (.n 0)) (aa (fC (.n 40)) (aA))))) [My (.n (0+(x:Int))),My (.n (c:Int))] β=My (.ok ((NX c ((0:Int),(40:Int))).map pD),β):=λx=>by
  have h:=CQ (nv:=1) (br:=[]) (it:=cL f9 (aa (ah 1) (aA))) (tg:=gs 0) (f:=aT f7 (aa (fC (.n 0)) (aa (fC (.n 40)) (aA)))) (δ:=[My (.n (0+(x:Int))),My (.n (c:Int))]) (β:=β) (Nr c) (λi=>D.n (0+(i:Int))) (λ_=>pD (0,40))
   (bO rfl (B6 (by lia) (by lia))) (λx _=>⟨_,rfl,am rfl gG⟩) (bp (by rw[NQ];lia))
  rw[jA]at h;rw[Q5];exact h
 have h:=jD (nv:=1) (br:=[1]) (it:=cL f9 (aa (ah 0) (aA))) (tg:=gs 0) (f:=ie 1 [] (cL f9 (aa (ah 1) (aA))) (gs 0) (λ_=>M.h0 Nf) (ko (aT f7 (aa (fC (.n 0)) (aa (fC (.n 40)) (aA)))))) (δ:=[My (.n (r:Int)),My (.n (c:Int))]) (β:=β) (Nr r) (λi=>D.n (0+(i:Int))) (λ_=>(NX c ((0:Int),(40:Int))).map pD)
  (bO rfl (B6 (by lia) (by lia))) (λx _=>⟨_,rfl,b x⟩) (bp (by rw[NQ];lia))
 rw[jA]at h;refine IF (au (Hc h ⟨rfl,?_⟩));show gP (m4 r c)=_;show Pk _ _=_;rw[Q5]
abbrev YG(ac:LI)(b:LP)(c d e f g:a0L):Ds:=[My (.h .bag),My (.h (cg ac)),My (.grd (gP b)),c,d,e,f,g]
def BdI(r c:Nat)(ac:LI)(d e:a0L)(a:Ds)(β:Bg):Prop:=β.ok/\∃(b:LP) (f g h:a0L),a=YG ac b d e f g h/\t0 r c b/\Kp ac b
theorem yr{r c:Nat}{ac:LI}(t:Y3 r c ac)(ok:β.ok):∃(b:LP) (f:Bg),(iG K a).1 [.bag,cg ac] β=My (.ok (dM b),f)/\t0 r c b/\Kp ac b/\f.ok:=by
 suffices h:∃g f,(iG K a).1 [.bag,cg ac] β=My (g,f)/\(∃(b:LP),g= .ok (dM b)/\t0 r c b/\Kp ac b/\f.ok) by
  obtain⟨g,f,e,b,rfl,Z,S⟩:=h;exact⟨b,f,e,Z,S⟩
 have r1:=t.r1;have c1:=t.c1;have c0:=t.c0;have r0:=t.r0;obtain⟨F,H,I⟩:=t.shp.at (i:=0) (by lia);have V:(gI ac)[0]?=My (F.map D.n):=by rw[Nl,H];rfl
 unfold iG
 dsimp only
 refine ji ?_;refine sQ (β1:=β) (G8 (as:=[.n (r:Int),.n (c:Int)]) (β1:=β) (af (am rfl (BJ (by rw[M9,t.shp.1]))) (af (am (af (x:= .l (F.map D.n)) (cx rfl rfl (tq V)) rfl) (d6 (by rw[M9,I]))) rfl)) (BH (by lia) (by lia))) (JY _) ?_;obtain⟨s,β1,p1,a0,a1,R⟩:=bi ok (lot:=3) (by decide) (by decide);refine gl (c:=decide (s=0)) (β1:=β1) (g8 (cx (ao rfl p1) rfl eq_int)) ?_;by_cases hw:s=0
 .rw[Nu (by simpa using hw)]
  exact aV rfl ⟨_,rfl,t0.free r c,Kp.free t,R⟩
 rw[Nv (by simpa using hw)];refine bB ?_;refine bM (ds:=c5 0 ((gI ac).map D.l)) (β1:=β1) rfl (λ_ M β=>∃z s4,BdI r c ac z s4 M β) ⟨Na,Na,R,m4 r c,Na,Na,Na,rfl,t0.free r c,Kp.free t⟩ ?_ ?_
 .rintro i d M β2 hd ⟨z,s4,J,b,X,Y,T,rfl,o,B⟩
  obtain⟨x,hx,rfl⟩:=qV hd;obtain⟨y,hy,rfl⟩:=bS hx;obtain⟨E,m,rfl⟩:=bS hy;have hi:i<r:=by rw[<-t.shp.1];exact(Nn.mp m).1
  have U:SW E=c:=t.shp.2 E (NJ m);refine⟨YG ac b (My (.h (.n i))) (My (.h (.l (E.map D.n)))) X Y T,rfl,au ?_⟩;refine bM (ds:=c5 0 (E.map D.n)) (β1:=β2) rfl (λ_=>BdI r c ac (My (.h (.n i))) (My (.h (.l (E.map D.n))))) ⟨J,b,X,Y,T,rfl,o,B⟩ ?_ (λM β h=>bf ⟨_,_,h⟩);rintro j d M ae hd ⟨aa,b,X,Y,T,rfl,o,B⟩;obtain⟨x,hx,rfl⟩:=qV hd;obtain⟨n,hn,rfl⟩:=bS hx;have hj:j<c:=by rw[<-U];exact(Nn.mp hn).1
  have ad:=t.le40 E (NJ m) n (NJ hn);obtain⟨q,l,L⟩:=o.shp.at hi;refine⟨YG ac b (My (.h (.n i))) (My (.h (.l (E.map D.n)))) (My (.h (.n j))) (My (.h (.n n))) T,rfl,?_⟩;obtain⟨w,A,p4,s,w1,N⟩:=bi aa (lot:=4) (by decide) (by decide);refine aG (d:= .n w) (β1:=A) (ao rfl p4) ?_
  have P:∀(p:Int×Int) (M:Ds),oD p->p.1<=n->n<=p.2->∀{β5:Bg} {fv:FD} {h:G} {Q:a0w},fv (fh (YG ac b (My (.h (.n i))) (My (.h (.l (E.map D.n)))) (My (.h (.n j))) (My (.h (.n n))) (My (.h (.n w))))) A=My (.ok (pD p),β5)->
    (∀b,t0 r c b->Kp ac b->Gw h (YG ac b (My (.h (.n i))) (My (.h (.l (E.map D.n)))) (My (.h (.n j))) (My (.h (.n n))) (My (.h (.n w)))) β5 Q)->
    Gw (aJ (kO 2 (ah 3) (ah 5) fv) h) (YG ac b (My (.h (.n i))) (My (.h (.l (E.map D.n)))) (My (.h (.n j))) (My (.h (.n n))) (My (.h (.n w)))) A Q:=λp M hp Z S β5 fv h Q e k=>by
   refine xC (d:=pD p) (ac:=gP b) (ds:=q.map pD) (ka:=i) (kb:=j) (ja:=i) (jb:=j) e rfl rfl rfl ?_ ?_ ?_ rfl ?_
   .rw[M9,o.shp.1];exact je (by lia) (by lia)
   .rw[Nl,l];rfl
   .rw[M9,L];exact je (by lia) (by lia)
   .have W:(gP b).set i ((q.map pD).set j (pD p))=gP (b.set i (q.set j p)):=by
     show _=Pk _ _;rw[RA,RA]
    rw[W];exact k _ (o.set l hp) (B.set l (vZ m hn) Z S)
  refine gl (c:=decide (w=0)) (β1:=A) (g8 (cx rfl rfl eq_int)) ?_;by_cases q0:w=0
  .rw[Nu (by simpa using q0)]
   obtain⟨u,β5,p5,u0,u1,ab⟩:=bi N (lot:=n+1) (by lia) (by lia);obtain⟨v,C,p6,v0,v1,O⟩:=bi ab (lot:=3) (by decide) (by decide);refine P (n-u,QN 40 (n+v)) [] ⟨by show 0<=n-u;lia,by show n-u<=QN 40 (n+v);lia,by show QN 40 (n+v)<=40;lia⟩ (by show n-u<=n;lia) (by show n<=QN 40 (n+v);lia) (β5:=C) ?_ λb o B=>?_
   .exact am (af (cx rfl (ao (af rfl (af (cx rfl rfl rfl) rfl)) p5) rfl) (af (am (af rfl (af (cx rfl (ao rfl p6) rfl) rfl)) yi) rfl)) gG
   .refine au (dN (β1:=C) ?_ (bB (bf ⟨O,b,_,_,_,rfl,o,B⟩)))
    rw[show(Ni:Bool)=decide (w=1) by rw[q0];rfl];exact g8 (cx rfl rfl eq_int)
  .rw[Nv (by simpa using q0)]
   refine bB (au (gl (c:=decide (w=1)) (β1:=A) (g8 (cx rfl rfl eq_int)) ?_));by_cases q1:w=1
   .rw[Nu (by simpa using q1)]
    obtain⟨v,C,p6,v0,v1,O⟩:=bi N (lot:=3) (by decide) (by decide);refine P (0,Wb n v) [] ⟨by show(0:Int)<=0;lia,by show 0<=Wb n v;lia,by show Wb n v<=40;lia⟩ (by show 0<=n;lia) (by show n<=Wb n v;lia) (β5:=C) ?_ λb o B=>bf ⟨O,b,_,_,_,rfl,o,B⟩;exact am (af rfl (af (am (af rfl (af (ao rfl p6) rfl)) J6) rfl)) gG
   .rw[Nv (by simpa using q1)]
    exact bB (bf ⟨N,b,_,_,_,rfl,o,B⟩)
 .rintro M β2 ⟨z,s4,J,b,X,Y,T,rfl,o,B⟩
  exact au (aV rfl ⟨b,rfl,o,B,J⟩)
structure x_ (ac:LI) (c:Nat) (rs:a0a):Prop where
 shp:ix (SW rs) c ac
 nn:∀row∈ac,∀x∈row,0<=x
 sm:ac.map PF=nI rs
 c1:1<=c
 c6:c<=6
 nr:D_ rs
 wd:pr (rs.dropLast.map (·+1))<63
theorem uj:∀{xs:a0d},(∀x∈xs,0<=x)->∃l:a0a,xs=nI l
 |[],_=>⟨[],rfl⟩
 |x::xs,h=>by
  obtain⟨l,e⟩:=uj λy a=>h y (Nk _ a);have:=h x Np;exact⟨x.toNat::l,by rw[e];show _=((x.toNat:Nat):Int)::_;rw[Int.toNat_of_nonneg this]⟩
theorem few2:∀x<41,∀y<41-x,(x+1)*((y+1)*1)<=500/\(x+1)*1<63:=by decide
theorem few3:∀x<12,∀y<12-x,∀z<12-x-y,(x+1)*((y+1)*((z+1)*1))<=500/\(x+1)*((y+1)*1)<63:=by decide
theorem few4:∀x<9,∀y<9-x,∀z<9-x-y,∀w<9-x-y-z,(x+1)*((y+1)*((z+1)*((w+1)*1)))<=500/\(x+1)*((y+1)*((z+1)*1))<63:=by decide
theorem few:∀{rs:a0a},(SW rs=1/\rs.sum<=40)\/(SW rs=2/\rs.sum<=40)\/(SW rs=3/\rs.sum<=11)\/(SW rs=4/\rs.sum<=8)->D_ rs/\pr (rs.dropLast.map (·+1))<63
 |[x],h=>by
  have q:x<=40:=by simp at h;lia
  exact⟨⟨by show 1<=1;decide,by show 1<=4;decide,by simp at h⊢;lia,by show(x+1)*1<=500;lia⟩,by show 1<63;decide⟩
 |[x,y],h=>by
  have q:=few2 x (by simp at h;lia) y (by simp at h;lia);exact⟨⟨by show 1<=2;decide,by show 2<=4;decide,by simp at h⊢;lia,q.1⟩,q.2⟩
 |[x,y,z],h=>by
  have q:=few3 x (by simp at h;lia) y (by simp at h;lia) z (by simp at h;lia);exact⟨⟨by show 1<=3;decide,by show 3<=4;decide,by simp at h⊢;lia,q.1⟩,q.2⟩
 |[x,y,z,w],h=>by
  have q:=few4 x (by simp at h;lia) y (by simp at h;lia) z (by simp at h;lia) w (by simp at h;lia);exact⟨⟨by show 1<=4;decide,by show 4<=4;decide,by simp at h⊢;lia,q.1⟩,q.2⟩
 |[],h=>by simp at h
 |_::_::_::_::_::_,h=>by simp at h
abbrev gdS(r c t:Nat)(ac:LI)(b d e:a0L):Ds:=[My (.h .bag),My (.h (.n (r:Int))),My (.h (.n (c:Int))),My (.h (.n (t:Int))),My (.grd (gI ac)),b,d,e]
theorem gT{r c t:Nat}(G:β.ok)(U:1<=r)(W:r<=4)(M:1<=c)(P:c<=6)(B:(r=1/\t<=40)\/(r=2/\t<=40)\/(r=3/\t<=11)\/(r=4/\t<=8)):∃(ac:LI) (rs:a0a) (j:Bg),gc K a [.bag,.n (r:Int),.n (c:Int),.n (t:Int)] β=My (.ok (cg ac),j)/\x_ ac c rs/\j.ok:=by
 suffices h:∃g j,gc K a [.bag,.n (r:Int),.n (c:Int),.n (t:Int)] β=My (g,j)/\(∃(ac:LI) (rs:a0a),g= .ok (cg ac)/\x_ ac c rs/\j.ok) by
  obtain⟨g,j,e,ac,rs,rfl,F,H⟩:=h;exact⟨ac,rs,j,e,F,H⟩
 refine ji ?_;unfold oA;refine sQ (ac:=(Nr r).map λ_=>NX c (D.n 0)) (β1:=β) (jD (Nr r) (λi=>D.n (0+(i:Int))) _ (bO (ds:=bx 0 r) rfl (B6 (by lia) (by lia))) (λx _=>⟨_,rfl,Mw (x:= .n 0) (c:=c) rfl rfl (by lia)⟩) (bp (by rw[NQ];lia))) ?_ ?_
 .rw[QU]
  intro x w;obtain⟨_,_,rfl⟩:=Nm.mp w;rw[<-Q5 (f:=D.n)];exact gf _
 have I:(Nr r).map (λ_=>NX c (D.n 0))=gI (NX r (NX c 0)):=by
  show _=Pk _ _;rw[Q5,List.map_const',Q5,NQ]
 rw[I];refine bM (ds:=bx 0 t) (β1:=β) (bO rfl (B6 (by lia) (by lia))) (λi E β=>β.ok/\∃ac o p q,E=gdS r c t ac o p q/\ix r c ac/\(∀row∈ac,∀x∈row,0<=x)/\tot ac=(i:Int)) ⟨G,NX r (NX c 0),Na,Na,Na,rfl,⟨by simp,λrow h=>?_⟩,λrow h x w=>?_,?_⟩ ?_ ?_
 .rw[(Qf.mp h).2];simp
 .rw[(Qf.mp h).2]at w
  rw[(Qf.mp w).2];exact Xm _
 .unfold tot
  rw[Q5];have z:∀n:Nat,(NX n (0:Int)).sum=0:=λn=>by
   induction n with
   |zero=>rfl
   |succ n S=>rw[Px,N2,S];rfl
  rw[z,z];rfl
 .rintro i d E j hd ⟨k,ac,o,p,q,rfl,sh,nn,B⟩
  obtain⟨v,β1,J,N,O,y⟩:=bi k (lot:=(r:Int)) (by lia) (by lia);obtain⟨u,β2,p2,Q,R,A⟩:=bi y (lot:=(c:Int)) (by lia) (by lia);obtain⟨v,rfl⟩:∃n:Nat,v=(n:Int):=⟨v.toNat,by lia⟩;obtain⟨u,rfl⟩:∃n:Nat,u=(n:Int):=⟨u.toNat,by lia⟩;obtain⟨row,b,m⟩:=sh.at (i:=v) (by lia);obtain⟨x,w⟩:=G3 (l:=row) (i:=u) (by lia);refine⟨_,rfl,aG (ao rfl J) (aG (ao rfl p2) (au (xC (d:= .n (x+1)) (β1:=β2) (β2:=β2) (β3:=β2) (ac:=gI ac) (ds:=row.map D.n) (ka:=v) (kb:=u) (ja:=v) (jb:=u) (cx (cx (cx rfl rfl (tq (row:=row.map D.n) ?_)) rfl (cP (d:= .n x) ?_)) rfl rfl) rfl rfl rfl ?_ ?_ ?_ rfl (bf ⟨A,ac.set v (row.set u (x+1)),My (.h d),My (.h (.n (v:Int))),My (.h (.n (u:Int))),?_,sh.set b,JZ nn b ?_,?_⟩))))⟩
  .rw[Nl,b];rfl
  .rw[Nl,w];rfl
  .rw[M9,sh.1];exact je (by lia) (by lia)
  .rw[Nl,b];rfl
  .rw[M9,m];exact je (by lia) (by lia)
  .show[_,_,_,_,My (Sl.grd ((gI ac).set v ((row.map D.n).set u (.n (x+1))))),_,_,_]=_
   rw[show(gI ac).set v ((row.map D.n).set u (.n (x+1)))=gI (ac.set v (row.set u (x+1))) by show _=Pk _ _;rw[RA,RA]]
  .have:=nn row (NJ b) x (NJ w)
   lia
  .have:=Hj (v:=x+1) b w
   lia
 .rintro E j ⟨k,ac,o,p,q,rfl,sh,nn,C⟩
  rw[uL]at C;obtain⟨rs,e⟩:=uj (xs:=ac.map PF) λx w=>by
   obtain⟨row,L,rfl⟩:=Nm.mp w;exact lq (nn row L)
  have l:SW rs=r:=by rw[<-sh.1,<-M9 (as:=ac) PF,e,M9]
  have s:rs.sum=t:=by
   have h:(ac.map PF).sum=(t:Int):=C;rw[e,i8]at h;lia
  obtain⟨V,T⟩:=few (rs:=rs) (by rw[l,s];exact B);exact au (aV rfl ⟨ac,rs,rfl,⟨by rw[l];exact sh,nn,e,M,P,V,T⟩,k⟩)
theorem Et(S:β.ok):∃(w:LI) (G:a0a) (b:Bg),jc K a [.bag] β=My (.ok (cg w),b)/\x_ w 2 G/\b.ok:=by
 suffices h:∃g b,jc K a [.bag] β=My (g,b)/\(∃(w:LI) (G:a0a),g= .ok (cg w)/\x_ w 2 G/\b.ok) by
  obtain⟨g,b,e,w,G,rfl,t,u⟩:=h;exact⟨w,G,b,e,t,u⟩
 refine ji ?_;unfold oz;refine oK (ds:=[]) (β1:=β) rfl (OH _) ?_;obtain⟨c,β1,y,B,L,m⟩:=bi S (lot:=6) (by decide) (by decide);have o:∃l:a0a,hU (.l [nL [40],nL [39,1],nL [30,10],nL [20,20],nL [24,15],nL [13,27]]) (.n c)=My (nL l)/\D_ l/\pr (l.dropLast.map (·+1))<63/\SW l<=2/\∀x∈l,x<=40:=by
  obtain rfl|rfl|rfl|rfl|rfl|rfl:c=0\/c=1\/c=2\/c=3\/c=4\/c=5:=by lia
  .exact⟨[40],rfl,⟨by decide,by decide,by decide,by decide⟩,by decide,by decide,by decide⟩
  .exact⟨[39,1],rfl,⟨by decide,by decide,by decide,by decide⟩,by decide,by decide,by decide⟩
  .exact⟨[30,10],rfl,⟨by decide,by decide,by decide,by decide⟩,by decide,by decide,by decide⟩
  .exact⟨[20,20],rfl,⟨by decide,by decide,by decide,by decide⟩,by decide,by decide,by decide⟩
  .exact⟨[24,15],rfl,⟨by decide,by decide,by decide,by decide⟩,by decide,by decide,by decide⟩
  .exact⟨[13,27],rfl,⟨by decide,by decide,by decide,by decide⟩,by decide,by decide,by decide⟩
 obtain⟨l,o,V,s,N,z⟩:=o;refine bM (ds:=(nI l).map D.n) (β1:=β1) (cD (cx (am rfl rfl) (ao rfl y) o) rfl) (λi M β=>β.ok/\∃w p q,M=[My (.h .bag),My (.u ((gI w).map D.l)),p,q]/\SW w=i/\(∀E∈w,SW E=2/\∀x∈E,0<=x)/\w.map PF=nI (l.take i)) ⟨m,[],Na,Na,rfl,rfl,λ_ h=>(by cases h),rfl⟩ ?_ ?_
 .rintro i d M b hd ⟨f,w,p,q,rfl,j,k,hs⟩
  obtain⟨n,P,rfl⟩:=mQ hd;have A:=z n (NJ P);have C:=(Nn.mp P).1;obtain⟨v,I,p2,F,H,r⟩:=bi f (lot:=(n:Int)+1) (by lia) (by lia);refine⟨_,rfl,aG (ao (af rfl (af (cx rfl rfl rfl) rfl)) p2) (au (oP (cs:=(gI w).map D.l) (d:= .l [.n v,.n ((n:Int)-v)]) rfl (af (am (af rfl (af (cx rfl rfl rfl) rfl)) rfl) rfl) (NP (show _<1000 by rw[M9,M9];lia) (by decide)) (bf ⟨r,w++[[v,(n:Int)-v]],My (.h (.n (n:Int))),My (.h (.n v)),?_,by rw[Nw,j];rfl,λE h=>?_,?_⟩)))⟩
  .show _=[_,My (Sl.u (Pk _ (Pk _ (w++_)))),_,_]
   rw[NV,NV];rfl
  .rcases N4.mp h with h|h
   .exact k E h
   .cases NT.mp h
    refine⟨rfl,λx J=>?_⟩;simp at J;lia
  .rw[NV,hs,T4,P]
   show _=Pk _ (_++_);rw[NV];congr 1;simp;lia
 .rintro M b ⟨f,w,p,q,rfl,j,k,hs⟩
  rw[lS]at j;rw[lS,OS]at hs;exact au (aV rfl ⟨w,l,rfl,⟨⟨j,λE h=>(k E h).1⟩,λE h=>(k E h).2,hs,by decide,by decide,V,s⟩,f⟩)
theorem EC(x:β.ok):∃(ac:LI) (c:Nat) (rs:a0a) (b:Bg),jB K a [.bag] β=My (.ok (cg ac),b)/\x_ ac c rs/\b.ok:=by
 suffices h:∃g b,jB K a [.bag] β=My (g,b)/\(∃(ac:LI) (c:Nat) (rs:a0a),g= .ok (cg ac)/\x_ ac c rs/\b.ok) by
  obtain⟨g,b,e,ac,c,rs,rfl,B,C⟩:=h;exact⟨ac,c,rs,b,e,B,C⟩
 refine ji ?_;unfold lZ;obtain⟨u,β1,F,J,O,l⟩:=bi x (lot:=6) (by decide) (by decide);refine gl (g8 (cx (ao rfl F) rfl eq_int)) ?_;by_cases q:u=0
 .obtain⟨ac,rs,w,e,g,f⟩:=Et (K:=K) (a:=a) l
  rw[Nu (NF q)];exact aV (ao rfl e) ⟨ac,2,rs,rfl,g,f⟩
 rw[Nv (by simp[q])];refine bB ?_;obtain⟨y,w,p2,b0,b1,f⟩:=bi l (lot:=5) (by decide) (by decide);refine aG (ao rfl p2) ?_;refine gl (β1:=w) (g8 (cx rfl rfl eq_int)) ?_;by_cases M:y=0
 .rw[Nu (NF M)]
  obtain⟨c,E,m,P,S,i⟩:=bi f (lot:=5) (by decide) (by decide);obtain⟨t,o,p,A,V,j⟩:=bi i (lot:=25) (by decide) (by decide);obtain⟨c,rfl⟩:∃n:Nat,c=(n:Int):=⟨c.toNat,by lia⟩;obtain⟨t,rfl⟩:∃n:Nat,t=(n:Int):=⟨t.toNat,by lia⟩;obtain⟨ac,rs,G,e,g,k⟩:=gT (K:=K) (a:=a) (r:=2) (c:=2+c) (t:=t) j (by decide) (by decide) (by lia) (by lia) (by lia);exact aV (ao (af rfl (af rfl (af (cx (z:= .n ((2+c:Nat):Int)) rfl (ao rfl m) (by show My (D.n _)=_;rw[QH];rfl)) (af (ao rfl p) rfl)))) e) ⟨ac,2+c,rs,rfl,g,k⟩
 rw[Nv (by simp[M])];refine bB ?_;refine gl (β1:=w) (g8 (cx rfl rfl eq_int)) ?_;by_cases s:y=1
 .rw[Nu (NF s)]
  obtain⟨c,E,m,P,S,i⟩:=bi f (lot:=2) (by decide) (by decide);obtain⟨t,o,p,A,V,j⟩:=bi i (lot:=9) (by decide) (by decide);obtain⟨c,rfl⟩:∃n:Nat,c=(n:Int):=⟨c.toNat,by lia⟩;obtain⟨t,rfl⟩:∃n:Nat,t=(n:Int):=⟨t.toNat,by lia⟩;obtain⟨ac,rs,G,e,g,k⟩:=gT (K:=K) (a:=a) (r:=4) (c:=2+c) (t:=t) j (by decide) (by decide) (by lia) (by lia) (by lia);exact aV (ao (af rfl (af rfl (af (cx (z:= .n ((2+c:Nat):Int)) rfl (ao rfl m) (by show My (D.n _)=_;rw[QH];rfl)) (af (ao rfl p) rfl)))) e) ⟨ac,2+c,rs,rfl,g,k⟩
 rw[Nv (by simp[s])];refine bB ?_;obtain⟨r,E,m,P,S,i⟩:=bi f (lot:=2) (by decide) (by decide);obtain⟨c,o,p,A,V,j⟩:=bi i (lot:=3) (by decide) (by decide);obtain⟨t,G,H,L,N,k⟩:=bi j (lot:=12) (by decide) (by decide);obtain⟨r,rfl⟩:∃n:Nat,r=(n:Int):=⟨r.toNat,by lia⟩;obtain⟨c,rfl⟩:∃n:Nat,c=(n:Int):=⟨c.toNat,by lia⟩;obtain⟨t,rfl⟩:∃n:Nat,t=(n:Int):=⟨t.toNat,by lia⟩;obtain⟨ac,rs,I,e,g,v⟩:=gT (K:=K) (a:=a) (r:=2+r) (c:=2+c) (t:=t) k (by lia) (by lia) (by lia) (by lia) (by lia);refine aG (d:= .n ((2+r:Nat):Int)) (cx rfl (ao rfl m) (by show My (D.n _)=_;rw[QH];rfl)) ?_;refine aG (d:= .n ((2+c:Nat):Int)) (cx rfl (ao rfl p) (by show My (D.n _)=_;rw[QH];rfl)) ?_;exact au (aV (ao (af rfl (af rfl (af rfl (af (ao rfl H) rfl)))) e) ⟨ac,2+c,rs,rfl,g,v⟩)
theorem DW(x:β.ok):∃(ac:LI) (c:Nat) (rs:a0a) (b:Bg),(jy K a).1 [.bag] β=My (.ok (cg ac),b)/\x_ ac c rs/\b.ok:=by
 suffices h:∃g b,(jy K a).1 [.bag] β=My (g,b)/\(∃(ac:LI) (c:Nat) (rs:a0a),g= .ok (cg ac)/\x_ ac c rs/\b.ok) by
  obtain⟨g,b,e,ac,c,rs,rfl,p,q⟩:=h;exact⟨ac,c,rs,b,e,p,q⟩
 unfold jy
 dsimp only
 refine ji ?_;have G:∀(k n:Nat),fi (.n (k:Int)) (.n (n:Int))=My (.n ((k+n:Nat):Int)):=λk n=>by show My (D.n _)=_;rw[QH]
 obtain⟨y,β1,u,A,C,j⟩:=bi x (lot:=8) (by decide) (by decide);refine aG (ao rfl u) ?_;refine gl (β1:=β1) (g8 (cx rfl rfl eq_int)) ?_;by_cases M:y=0
 .rw[Nu (NF M)]
  obtain⟨t,w,p2,b0,b1,d⟩:=bi j (lot:=5) (by decide) (by decide);obtain⟨t,rfl⟩:∃n:Nat,t=(n:Int):=⟨t.toNat,by lia⟩;obtain⟨ac,rs,E,e,g,f⟩:=gT (K:=K) (a:=a) (r:=4) (c:=6) (t:=t) d (by decide) (by decide) (by decide) (by decide) (by lia);exact aV (ao (af rfl (af rfl (af rfl (af (ao rfl p2) rfl)))) e) ⟨ac,6,rs,rfl,g,f⟩
 rw[Nv (by simp[M])];refine bB ?_;refine gl (β1:=β1) (g8 (cx rfl rfl eq_int)) ?_;by_cases P:y=1
 .rw[Nu (NF P)]
  obtain⟨c,w,p2,b0,b1,d⟩:=bi j (lot:=6) (by decide) (by decide);obtain⟨t,E,l,S,V,f⟩:=bi d (lot:=8) (by decide) (by decide);obtain⟨c,rfl⟩:∃n:Nat,c=(n:Int):=⟨c.toNat,by lia⟩;obtain⟨t,rfl⟩:∃n:Nat,t=(n:Int):=⟨t.toNat,by lia⟩;obtain⟨ac,rs,m,e,g,i⟩:=gT (K:=K) (a:=a) (r:=1) (c:=1+c) (t:=t) f (by decide) (by decide) (by lia) (by lia) (by lia);exact aV (ao (af rfl (af rfl (af (cx rfl (ao rfl p2) (G 1 c)) (af (ao rfl l) rfl)))) e) ⟨ac,1+c,rs,rfl,g,i⟩
 rw[Nv (by simp[P])];refine bB ?_;refine gl (β1:=β1) (g8 (cx rfl rfl eq_int)) ?_;by_cases s:y=2
 .rw[Nu (NF s)]
  obtain⟨c,w,p2,b0,b1,d⟩:=bi j (lot:=4) (by decide) (by decide);obtain⟨t,E,l,S,V,f⟩:=bi d (lot:=8) (by decide) (by decide);obtain⟨c,rfl⟩:∃n:Nat,c=(n:Int):=⟨c.toNat,by lia⟩;obtain⟨t,rfl⟩:∃n:Nat,t=(n:Int):=⟨t.toNat,by lia⟩;obtain⟨ac,rs,m,e,g,i⟩:=gT (K:=K) (a:=a) (r:=1+c) (c:=1) (t:=t) f (by lia) (by lia) (by decide) (by decide) (by lia);exact aV (ao (af rfl (af (cx rfl (ao rfl p2) (G 1 c)) (af rfl (af (ao rfl l) rfl)))) e) ⟨ac,1,rs,rfl,g,i⟩
 rw[Nv (by simp[s])];refine bB ?_;obtain⟨r,w,p2,b0,b1,d⟩:=bi j (lot:=2) (by decide) (by decide);obtain⟨c,E,l,S,V,f⟩:=bi d (lot:=3) (by decide) (by decide);obtain⟨t,m,v,B,F,i⟩:=bi f (lot:=8) (by decide) (by decide);obtain⟨r,rfl⟩:∃n:Nat,r=(n:Int):=⟨r.toNat,by lia⟩;obtain⟨c,rfl⟩:∃n:Nat,c=(n:Int):=⟨c.toNat,by lia⟩;obtain⟨t,rfl⟩:∃n:Nat,t=(n:Int):=⟨t.toNat,by lia⟩;obtain⟨ac,rs,z,e,g,o⟩:=gT (K:=K) (a:=a) (r:=2+r) (c:=2+c) (t:=t) i (by lia) (by lia) (by lia) (by lia) (by lia);refine aG (cx rfl (ao rfl p2) (G 2 r)) (aG (cx rfl (ao rfl l) (G 2 c)) ?_);exact au (aV (ao (af rfl (af rfl (af rfl (af (ao rfl v) rfl)))) e) ⟨ac,2+c,rs,rfl,g,o⟩)
theorem toB{r c:Nat}{b:LP}(h:t0 r c b):∃B,b=g0 B/\G_ r c B:=by
 have e:b=g0 (b.map λa=>a.map λp=>(p.1.toNat,p.2.toNat)):=by
  unfold g0;rw[Nx];refine(Vn b).symm.trans (Od λa g=>?_);show a=Pk _ (Pk _ a);rw[Nx];refine(Vn a).symm.trans (Od λp i=>?_);obtain⟨w,D,E⟩:=h.ok a g p i;exact Qr (show p.1=((p.1.toNat:Nat):Int) by lia) (show p.2=((p.2.toNat:Nat):Int) by lia)
 refine⟨_,e,h.shp.map,λa g p i=>?_⟩;obtain⟨d,j,rfl⟩:=Nm.mp g;obtain⟨f,k,rfl⟩:=Nm.mp i;obtain⟨w,D,E⟩:=h.ok d j f k;show f.1.toNat<=f.2.toNat/\f.2.toNat<=40;lia
theorem Ie{ac:LI}{B:a0f}{rs cs:a0a}(h:zv ac B rs cs):(qF K a).1 [cg ac,j2 B] β=My (.ok (El a B rs cs),β):=by
 obtain⟨e,g,_,_⟩:=h.nr;have w:=h.c6;have b:=pp (K:=K) (a:=a) (β:=β) (ac:=ac) (by rw[h.shp.1];lia);have c:=k7 (K:=K) (a:=a) (β:=β) h.shp e (by lia) (by lia);rw[h.rw1]at b;rw[h.cl1]at c;have f:=sk (K:=K) (a:=a) (β:=β) (ac:=gP (g0 B)) (by rw[M9,(jG h.bok.1).1];lia);unfold qF
 dsimp only
 refine bh (au (aV (d:=El a B rs cs) (β1:=β) ?_ ⟨rfl,rfl⟩));unfold CK;rw[M.k4 (af (ao rfl b) (af (ao rfl c) rfl)),M.k4 (af (ao rfl f) rfl)];exact(M.k4 (J0 h)).trans rfl
theorem x_.tab{ac:LI}{c:Nat}{rs:a0a}(g:x_ ac c rs):Y3 (SW rs) c ac:=by
 obtain⟨b,d,e,_⟩:=g.nr;refine⟨g.shp,g.nn,?_,b,d,g.c1,g.c6⟩;show(ac.map PF).sum<=40;rw[g.sm,i8];lia
theorem Ko{ac:LI}{c:Nat}{rs:a0a}{b:LP}(g:x_ ac c rs)(f:t0 (SW rs) c b)(w:Kp ac b):∃B cs,b=g0 B/\zv ac B rs cs/\SW cs=c:=by
 obtain⟨B,rfl,ok⟩:=toB f;obtain⟨cs,e⟩:=uj (xs:=(tp c ac).map PF) λx D=>by
  obtain⟨a,i,rfl⟩:=Nm.mp D;exact lq (L8 g.nn a i)
 have j:SW cs=c:=by rw[<-(wg (d:=(0:Int)) (c:=c) g.shp.1).1,<-M9 (as:=M_ 0 c ac) PF];exact(Ou SW e).symm▸(M9 _).symm
 have k:rs.sum=cs.sum:=by
  have h:tot (tp c ac)=tot ac:=zq g.shp.2;unfold tot at h;rw[e,g.sm,i8,i8]at h;lia
 subst j;exact⟨B,cs,rfl,⟨⟨g.nr,g.wd,k,g.c1,g.c6⟩,g.shp,g.sm,e,ok,w⟩,rfl⟩
theorem J1{x y:Int}(a:0<=x/\x<=40)(w:0<=y/\y<=40):u6 (.n x) (.n y)=My (.n (x*y)):=by
 have sm:∀z:Int,0<=z/\z<=40->cf z=Nf:=λz b=>by
  unfold cf;rw[Og];exact Oj (show z.natAbs<=40 by lia) (by decide +kernel)
 show(if(cf x&&cf y)=Nf then _ else _)=_;rw[sm x a,sm y w,Nu (show(Nf&&Nf)=Nf from rfl)]
theorem sU(n:Nat){i:Int}:cA K a (n+1) [.n i,.n i] β=My (.ok (.c Nf),β):=by
 show dS 2 (fc K a (cA K a n)) _ _=_;refine bh ?_;unfold fc;refine dN (β1:=β) (mB (x:= .c Ni) (am rfl rfl) rfl) (bB ?_);refine dN (β1:=β) (g8 (cx rfl rfl rfl)) (bB ?_);refine dN (β1:=β) (mC (g8 (cx (am rfl rfl) (am rfl rfl) rfl)) (g8 (cx (am rfl rfl) (am rfl rfl) rfl))) (bB ?_);exact au (aV (qv (am rfl rfl) (cx rfl rfl (by rw[Pu.eq_int,NF rfl]))) ⟨rfl,rfl⟩)
theorem MA(a:a0b):K_ Nf (.c Ni) (.l (a.map λ_=> .c Nf))=My (.c Nf):=by
 have h:(a.map λ_=>D.c Nf).all dR=Nf/\(a.map λ_=>D.c Nf).any (λy=>eqF y (.c Ni))=Ni:=by
  induction a with
  |nil=>exact⟨rfl,rfl⟩
  |cons x a w=>exact⟨by rw[NI,Ub,w.1];rfl,by rw[NI,SI,w.2];rfl⟩
 unfold K_ Yp;simp only[dE,Qb,dR,RO,h.1,h.2,OC,UA]
theorem xW(n:Nat){d:D}{w:a0b}(E:d= .l w\/d= .t w)(b:SW w<=1000)(h:∀x∈w,cA K a (n+1) [x,x] β=My (.ok (.c Nf),β)):cA K a (n+2) [d,d] β=My (.ok (.c Nf),β):=by
 have z:dU w w=w.map λx=> .t [x,x]:=by simpa using tW (f:=id) (g:=id) w
 show dS 2 (fc K a (cA K a (n+1))) _ _=_;refine bh ?_;unfold fc;rcases E with rfl|rfl
 all_goals
  refine LX (β1:=β) (mB (x:= .c Nf) (am rfl rfl) rfl) (wc ?_);refine dN (β1:=β) (mC (g8 (cx (am rfl rfl) (am rfl rfl) rfl)) (g8 (cx (am rfl rfl) (am rfl rfl) rfl))) (bB (wc ?_));refine dN (β1:=β) (g8 (cx (am rfl rfl) (am rfl rfl) (ne_int.trans (by simp)))) (bB ?_);exact aV (β1:=β) (cx (z:= .c Nf) rfl (bD w (λx=>D.t [x,x]) (λ_=> .c Nf) ((k8 rfl rfl rfl rfl).trans (by rw[z])) (λx G=>⟨[My x,My x],rfl,ao rfl (h x G)⟩) (bp b)) (MA w)) ⟨rfl,rfl⟩
theorem M5(x y:a0d)(h:SW x+SW y<=1000):fi (hE x) (hE y)=My (hE (x++y)):=by
 cases x with
 |nil=>rfl
 |cons i x=>
  show(if(D.n i::x.map D.n).length+SW (y.map D.n)<=NN then _ else _)=_;rw[Nu (bp (by rw[NB,M9,M9];simpa using h))];show My (D.t (D.n i::x.map D.n++y.map D.n))=My (D.t ((i::x++y).map D.n));rw[NV];rfl
theorem IK{f:FD}{a:Dn}{l:a0d}(e:f a β=My (.ok (hE l),β)):vK f (My (fC (.n 1))) Na a β=My (.ok (hE (l.drop 1)),β):=by
 unfold vK iJ;simp only[M.v,e,M.h0,M.f,fC,mq,xS];rw[show(1:Int)=((1:Nat):Int)from rfl,gU,<-Rf]
theorem IL{f:FD}{a:Dn}{l:a0d}(e:f a β=My (.ok (hE l),β)):vK f Na (My (fC (.n 1))) a β=My (.ok (hE (l.take 1)),β):=by
 unfold vK iJ;simp only[M.v,e,M.h0,M.f,fC,mq,xS];rw[show(1:Int)=((1:Nat):Int)from rfl,qh,<-SJ]
theorem yA{ac:a0I}{a:Int}{w:Nat}{p:R4}(E:i4 (SW ac) a=My w)(b:ac[w]?=My p):hU (.l ((ac.map rL).map D.l)) (.n a)=My (.l (rL p)):=by
 show la _ _=_;unfold la;rw[M9,M9,E,Qb,Nl,Nl,b];rfl
theorem GI(ac:a0I):(ac.map rL).all noLs=Nf:=QU.mpr λx a=>by
 obtain⟨p,_,rfl⟩:=Nm.mp a;show(Nf&&(noLs (p.2.1.map D.n)&&(Nf&&(Nf&&Nf))))=Nf;rw[gf];rfl
abbrev v_(R:a0I)(b:Nat)(c:Sl)(i w:Nat)(d:a0L):Ds:=[My (.h .bag),My (.h (p0 R)),My (.h (.n (b:Int))),My c,My (.h (.n (i:Int))),My (.h (.n (w:Int))),d]
abbrev lw(ac:a0I):a0b:=ac.map λp=>D.l (rL p)
theorem CL{a b:Type}(f:a->b):∀(l:List a) (i:Nat),(l.map f).eraseIdx i=(l.eraseIdx i).map f
 |[],_=>rfl
 |_::_,0=>rfl
 |x::l,i+1=>Ou (f x::·) (CL f l i)
theorem u9(ac:a0I):(ac.map rL).map D.l=lw ac:=by rw[Nx];rfl
def Sb(s:Sl):Prop:=∃a:a0I,SW a<=1000/\(s= .grd (a.map rL)\/s= .u (lw a)\/s= .h (.l (lw a)))
theorem kg{R ac:a0I}{p p':R4}{b i w:Nat}{ka kb:Int}{ja jb:Nat}{d:D}{e f g:FD}{h:G}{Q:a0w}{c:a0L}(j:ac[ja]?=My p)(a:i4 (SW ac) ka=My ja)(l:i4 4 kb=My jb)(E:(rL p).set jb d=rL p')(K:noL d=Nf)(m:g (fh (v_ R b (.grd (ac.map rL)) i w c)) β=My (.ok d,β))
  (n:e (fh (v_ R b (.grd (ac.map rL)) i w c)) β=My (.ok (.n ka),β)) (o:f (fh (v_ R b (.grd (ac.map rL)) i w c)) β=My (.ok (.n kb),β)) (k:Gw h (v_ R b (.grd ((ac.set ja p').map rL)) i w c) β Q):Gw (aJ (kO 3 e f g) h) (v_ R b (.grd (ac.map rL)) i w c) β Q:=by
 refine xC (d:=d) (ac:=ac.map rL) (ds:=rL p) (ka:=ka) (kb:=kb) (ja:=ja) (jb:=jb) m n o rfl (by rw[M9];exact a) (by rw[Nl,j];rfl) l K ?_;rw[E,<-RA];exact k
def RP(p:R4):Prop:=SW p.2.1<=4/\cf p.2.2.1=Nf/\cf p.2.2.2=Nf
abbrev Po(R:a0I)(c i w:Nat)(β:Bg):nl->Bg->Prop:=λo D=>∃a,o= .nx a/\β=D/\∃b d,a=v_ R c b i w d/\Sb b
section
variable{R:a0I}{P i w:Nat}{s:a0L}{p:R4}
theorem uR{ac:a0I}(h:SW ac<=1000):Gw gNil (v_ R P (.grd (ac.map rL)) i w s) β (Po R P i w β):=bf ⟨_,rfl,rfl,_,_,rfl,ac,h,.inl rfl⟩
theorem fld(b:P=2\/P=3)(p:R4):i4 4 (P:Int)=My P/\∃y,hU (.l (rL p)) (.n (P:Int))=My (.n y)/\∀x:Int,∃p',(rL p).set P (.n x)=rL p':=by
 rcases b with rfl|rfl
 .exact⟨rfl,p.2.2.1,rfl,λx=>⟨(p.1,p.2.1,x,p.2.2.2),rfl⟩⟩
 .exact⟨rfl,p.2.2.2,rfl,λx=>⟨(p.1,p.2.1,p.2.2.1,x),rfl⟩⟩
theorem Gj{g:G}{n:Nat}{a:Ds}{Q:a0w}(k:Gw g (th n a) β Q):Gw (thG n g) a β Q:=k
theorem ixB(n:Nat)(b:i<n):∃j,j<n/\i4 n ((i:Int)-1)=My j:=by
 unfold i4;by_cases z:0<=(i:Int)-1
 .exact⟨i-1,by lia,by rw[Nu z,Nu (by lia),show((i:Int)-1).toNat=i-1 by lia]⟩
 .exact⟨n-1,by lia,by rw[Nv z,Nu (by lia),show((i:Int)-1+(n:Int)).toNat=n-1 by lia]⟩
theorem ixZ(n:Nat)(a:1<=n):i4 n (-1)=My (n-1):=by
 unfold i4;rw[Nv (by decide),Nu (by lia),show((-1:Int)+(n:Int)).toNat=n-1 by lia]
theorem zV{ac:a0I}(f:R4->R4){b:FL}(c:SW ac<=1000)(d:∀p∈ac,b [My (.l (rL p))] β=My (.ok (rL (f p)),β)):Gw (fzG 3 (oB 3 (gB 1 [] (di (ah 3)) (gs 0) (λ_=>M.h0 Nf) (oH b)))) (v_ R P (.grd (ac.map rL)) i w s) β (Po R P i w β):=by
 refine sR (au (sQ (ac:=(ac.map f).map rL) (β1:=β) ?_ (GI _) (uR (by rw[M9];exact c))));rw[Nx];exact jD ac (λp=>D.l (rL p)) (λp=>rL (f p)) (cD (x:= .l (lw ac)) (by show My (Pa (D.l ((ac.map rL).map D.l)),β)=_;rw[u9]) rfl) (λp e=>⟨_,rfl,d p e⟩) (bp c)
theorem IQ{cs:a0b}{k:Int}{j n:Nat}{fl:FL}{h:G}{a:Ds}{β1:Bg}{Q:a0w}(b:a.getD n Na=My (.u cs))(e:fl (vw a) β=My (.ok [.n k],β1))(c:i4 (SW cs) k=My j)(d:SW cs<=NN)(f:Gw h (a.set n (My (.u (cs.eraseIdx j)))) β1 Q):Gw (aJ (tH n fl) h) a β Q:=de (by unfold tH;simp only[b,e,c,d,OC]) f
theorem IR{cs:a0b}{k:Int}{n j:Nat}{d:D}{h:G}{a:Ds}{Q:a0w}(b:a.getD n Na=My (.u cs))(c:a.getD j Na=My (.h (.n k)))(e:la cs k=My d)(f:SW cs<NN)(g:Gw h (a.set n (My (.u (cs++[d])))) β Q):Gw (aJ (tJ n j) h) a β Q:=de (by unfold tJ;simp only[b,c,e,f,OC]) g
theorem J2{x:Int}(h:cf x=Nf):u6 (.n 2) (.n x)=My (.n (2*x)):=by
 have b:cf 2=Nf:=by
  unfold cf;exact NF (NP (by decide:2<2^2) (S4 (by decide) (by decide)))
 show(if(cf 2&&cf x)=Nf then _ else _)=_;rw[b,h];rfl
theorem KP{x y z v:D}:vX (.l [x,y,z,v]) (.l [])=My [x,y,z,v]:=KO (xs:=[x,y,z,v]) (ys:=[]) (by show 4<=1000;decide)
theorem Zk(l:a0d):noL (hE l)=Nf:=gf l
theorem IG(Z:1<=SW R)(h1:SW R<=900)(T:∀p∈R,RP p)(B:P=2\/P=3)(ok:β.ok):∃(ac:a0I) (b:Bg),(kr K a).1 [.bag,p0 R,.n (P:Int)] β=My (.ok (p0 ac),b)/\b.ok:=by
 suffices h:∃x b,(kr K a).1 [.bag,p0 R,.n (P:Int)] β=My (x,b)/\(∃ac,x= .ok (p0 ac)/\b.ok) by
  obtain⟨x,b,e,ac,rfl,C⟩:=h;exact⟨ac,b,e,C⟩
 unfold kr
 dsimp only
 refine ji ?_;refine sQ (ac:=R.map rL) (β1:=β) (jD R rD rL rfl (λp _=>⟨[My (rD p)],rfl,rfl⟩) (bp (by lia))) (GI _) ?_;obtain⟨i,β1,p1,i0,i1,F⟩:=bi ok (lot:=(SW R:Int)) (by lia) (by lia);obtain⟨w,M,p2,w0,w1,H⟩:=bi F (lot:=11) (by decide) (by decide);obtain⟨i,rfl⟩:∃n:Nat,i=(n:Int):=⟨i.toNat,by lia⟩;obtain⟨w,rfl⟩:∃n:Nat,w=(n:Int):=⟨w.toNat,by lia⟩;have I:i<SW R:=by lia
 have u:R[i]?=My R[i]:=Ng I;have m:i4 (SW R) (i:Int)=My i:=by rw[je (by lia) (by lia),ON]
 have t:=yA m u;have A:=T _ (OG I);refine IO (ao (af rfl (af (am rfl (d6 (r:=SW R) (by rw[M9,M9]))) rfl)) p1) (aG (ao rfl p2) ?_);show Gw _ (v_ R P (.grd (R.map rL)) i w Na) M _
 let bt:Nat->Ds->Bg->Prop:=λn S β=>M=β/\∃l s,S=v_ R P l i w s/\((n<=w/\l= .grd (R.map rL))\/(w<n/\Sb l))
 have E:∀{n:Nat} {g:G} {S:Ds} {β:Bg},bt n S β->(w=n->∀s,Gw g (v_ R P (.grd (R.map rL)) i w s) M (Po R P i w M))->Gw (ro (fB (f2 fN (ah 5) (fC (.n (n:Int))))) g gNil) S β (λo β1=>∃V,o= .nx V/\bt (n+1) V β1):=by
  rintro n g S β ⟨rfl,l,s,rfl,hs⟩ k;refine au (gl (β1:=M) (g8 (cx rfl rfl eq_int)) ?_);by_cases q:w=n
  .rw[Nu (NF (by lia))]
   rcases hs with⟨_,rfl⟩|⟨z,_⟩
   .obtain⟨o,β3,e,V,rfl,rfl,l,J,rfl,sb⟩:=k q s
    exact de e (bf ⟨_,rfl,rfl,l,J,rfl,.inr ⟨by lia,sb⟩⟩)
   .lia
  .rw[Nv (λz=>q (by have:=OR z;lia))]
   refine bB (bf ⟨_,rfl,rfl,l,s,rfl,hs.imp (λz=>⟨by lia,z.2⟩) λz=>⟨by lia,z.2⟩⟩)
 refine gj (bt 2) (au (gl (β1:=M) (g8 (cx rfl rfl lt_int)) ?_)) ?_
 .by_cases q:w<2
  .rw[Nu (NF (by lia))]
   obtain⟨b1,y,e,f⟩:=fld B R[i];obtain⟨p',ep⟩:=f (y+1-2*(w:Int));exact kg u m b1 ep rfl (cx (cx (cx (cx rfl rfl t) rfl e) rfl rfl) (cx rfl rfl (J1 (by lia) (by lia))) rfl) rfl rfl (bf ⟨_,rfl,rfl,_,Na,rfl,.inr ⟨q,_,by rw[Om];lia,.inl rfl⟩⟩)
  .rw[Nv (λz=>q (by have:=OR z;lia))]
   exact bB (bf ⟨_,rfl,rfl,_,Na,rfl,.inl ⟨by lia,rfl⟩⟩)
 intro S β C;refine gj (bt 3) (E (n:=2) C λ_ s=>?_) ?_
 .refine Gj (au (IQ (cs:=(R.map rL).map D.l) (k:=(i:Int)) (j:=i) rfl rfl (by rw[M9,M9];exact m) (bp (by rw[M9,M9];lia)) (bf ⟨_,rfl,rfl,.u (lw (R.eraseIdx i)),s,?_,R.eraseIdx i,NK (List.length_eraseIdx_le _ _) (by lia),.inr (.inl rfl)⟩)))
  rw[u9];unfold lw;rw[<-CL];rfl
 intro S β h3;refine gj (bt 4) (E (n:=3) h3 λ_ s=>?_) ?_
 .refine Gj (au (IR (cs:=(R.map rL).map D.l) (k:=(i:Int)) rfl rfl t (Oj (show _<=1000 by rw[M9,M9];lia) (by decide)) (bf ⟨_,rfl,rfl,.u (lw (R++[R[i]])),s,?_,R++[R[i]],by rw[Nw,Oy];lia,.inr (.inl rfl)⟩)))
  rw[u9];show[_,_,_,My (Sl.u (lw R++[_])),_,_,_]=[_,_,_,My (Sl.u ((R++[R[i]]).map _)),_,_,_];rw[NV];rfl
 intro S β h4;refine gj (bt 5) (E (n:=4) h4 λ_ s=>?_) ?_
 .refine sR (au (aG (d:= .l (lw (R.drop 1++R.take 1))) (β1:=M) (cx (hC (xs:=(R.map rL).map D.l) rfl rfl) (qw (xs:=(R.map rL).map D.l) rfl rfl) ?_) (bf ⟨_,rfl,rfl,_,s,rfl,R.drop 1++R.take 1,by rw[Nw,Pm,N8];lia,.inr (.inr rfl)⟩)))
  rw[show eE ((R.map rL).map D.l) (My 1) Na=((R.map rL).map D.l).drop 1 from gU (k:=1),show eE ((R.map rL).map D.l) Na (My 1)=((R.map rL).map D.l).take 1 from qh (k:=1),u9,iR (by rw[Pm,N8,M9];lia)];unfold lw;rw[NV,Rf,SJ]
 intro S β h5;refine gj (bt 6) (E (n:=5) h5 λ_ s=>?_) ?_
 .refine zV (λp=>(p.1,p.2.1,2*p.2.2.1,2*p.2.2.2)) (by lia) λp A=>?_
  obtain⟨_,q1,q2⟩:=T p A;exact IM (cx ((qw (xs:=rL p) rfl rfl).trans (by rw[show eE (rL p) Na (My 2)=[.n p.1,hE p.2.1]from qh (k:=2)])) (am (af (cx rfl (cx rfl rfl rfl) (J2 q1)) (af (cx rfl (cx rfl rfl rfl) (J2 q2)) rfl)) J8) (iR (by show 4<=1000;decide))) ((hC (xs:=rL p) rfl rfl).trans (by rw[show eE (rL p) (My 4) Na=[]from gU (k:=4)])) KP
 intro S β h6;refine gj (bt 7) (E (n:=6) h6 λ_ s=>?_) ?_
 .refine zV (λp=>(p.1,p.2.1,p.2.2.1+1,p.2.2.2+1)) (by lia) λp A=>?_
  exact IM (cx ((qw (xs:=rL p) rfl rfl).trans (by rw[show eE (rL p) Na (My 2)=[.n p.1,hE p.2.1]from qh (k:=2)])) (am (af (cx (cx rfl rfl rfl) rfl rfl) (af (cx (cx rfl rfl rfl) rfl rfl) rfl)) J8) (iR (by show 4<=1000;decide))) ((hC (xs:=rL p) rfl rfl).trans (by rw[show eE (rL p) (My 4) Na=[]from gU (k:=4)])) KP
 intro S β h7;refine gj (bt 8) (E (n:=7) h7 λ_ s=>?_) ?_
 .exact au (kg (p':=(R[i].1,R[i].2.1.drop 1++R[i].2.1.take 1,R[i].2.2)) u m rfl rfl (Zk _) (cx (IK (cx (cx rfl rfl t) rfl rfl)) (IL (cx (cx rfl rfl t) rfl rfl)) (M5 _ _ (by have:=A.1;rw[Pm,N8];lia))) rfl rfl (uR (by rw[Om];lia)))
 intro S β h8;refine gj (bt 9) (E (n:=8) h8 λ_ s=>?_) ?_
 .obtain⟨j,U,W⟩:=ixB (SW R) I
  have ej:R[j]?=My R[j]:=Ng U;have c:SW (R.set i (R[i].1,R[j].2.1,R[i].2.2))=SW R:=Om;have v:(R.set i (R[i].1,R[j].2.1,R[i].2.2))[j]?=My (R.set i (R[i].1,R[j].2.1,R[i].2.2))[j]:=Ng (by rw[c];exact U);generalize hq:(R.set i (R[i].1,R[j].2.1,R[i].2.2))[j]=q at v;exact zc (d:=hE R[i].2.1) (β1:=M) (cx (cx rfl rfl t) rfl rfl) (kg (p':=(R[i].1,R[j].2.1,R[i].2.2)) u m rfl rfl (Zk _) (cx (cx rfl (cx rfl rfl rfl) (yA W ej)) rfl rfl) rfl rfl (au (kg (p':=(q.1,R[i].2.1,q.2.2)) v (by rw[c];exact W) rfl rfl (Zk _) rfl (cx rfl rfl rfl) rfl (uR (by rw[Om,c];lia))))) (Zk _)
 intro S β h9;refine gj (bt 10) (E (n:=9) h9 λ_ s=>?_) ?_
 .exact au (kg (p':=(R[i].1+1,R[i].2)) u m rfl rfl rfl (cx (cx (cx rfl rfl t) rfl rfl) rfl rfl) rfl rfl (uR (by rw[Om];lia)))
 intro S β L;refine gj (bt 11) (E (n:=10) L λ_ s=>?_) ?_
 .have X:R[0]?=My R[0]:=Ng (by lia)
  have Y:i4 (SW R) 0=My 0:=by
   have:=je (n:=SW R) (k:=0) (by lia) (by lia);exact this
  obtain⟨b1,y,e,f⟩:=fld B R[0];obtain⟨p',ep⟩:=f (y+1);have c:SW (R.set 0 p')=SW R:=Om;have N:(R.set 0 p')[SW R-1]?=My (R.set 0 p')[SW R-1]:=Ng (by rw[c];lia);have a1:i4 (SW (R.set 0 p')) (-1)=My (SW R-1):=by rw[c];exact ixZ _ Z
  generalize (R.set 0 p')[SW R-1]=q at N;obtain⟨b2,y2,e2,O⟩:=fld B q;obtain⟨q',Q⟩:=O (y2+1);exact kg X Y b1 ep rfl (cx (cx (cx rfl rfl (yA Y X)) rfl e) rfl rfl) rfl rfl (au (kg N a1 b2 Q rfl (cx (cx (cx rfl (ZE rfl rfl) (yA a1 N)) rfl e2) rfl rfl) (ZE rfl rfl) rfl (uR (by rw[Om,c];lia))))
 rintro S β ⟨rfl,l,s,rfl,hs⟩;rcases hs with⟨z,_⟩|⟨_,ac,hl,hs⟩
 .lia
 have e:di (ah 3) (fh (v_ R P l i w s)) M=My (.ok (lw ac),M):=by
  rcases hs with rfl|rfl|rfl
  .show My (Pa ((ac.map rL).map D.l),M)=_
   rw[u9]
  .rfl
  .rfl
 exact au (aV (bD ac (λp=>D.l (rL p)) rD e (λp _=>⟨[My (.l (rL p))],rfl,rfl⟩) (bp hl)) ⟨ac,rfl,H⟩)
end
end
section
variable{K:NR}{a:Ad}{β:Bg}{rs cs:a0a}{W:Wy}
theorem Hz{R:a0I}(b:SW R<=1000)(c:∀p∈R,SW p.2.1<=4):cA K a 5 [p0 R,p0 R] β=My (.ok (.c Nf),β):=xW 3 (.inl rfl) (by rw[M9];exact b) λz hz=>by
 obtain⟨p,d,rfl⟩:=Nm.mp hz;refine xW 2 (.inr rfl) (by show 4<=1000;decide) λz hz=>?_;rcases NC.mp hz with rfl|hz
 .exact sU 2
 rcases NC.mp hz with rfl|hz
 .refine xW 1 (.inr rfl) (by have:=c p d;rw[M9];lia) λz hz=>?_
  obtain⟨i,_,rfl⟩:=Nm.mp hz;exact sU 1
 rcases NC.mp hz with rfl|hz
 .exact sU 2
 cases NT.mp hz;exact sU 2
theorem Mh{i:Bool}:cA K a 5 [.c i,.c i] β=My (.ok (.c Nf),β):=by
 show dS 2 (fc K a (cA K a 4)) _ _=_;refine bh ?_;unfold fc;refine dN (β1:=β) (mB (x:= .c Ni) (am rfl rfl) rfl) (bB ?_);refine dN (β1:=β) (g8 (cx rfl rfl rfl)) (bB ?_);refine dN (β1:=β) (mC (g8 (cx (am rfl rfl) (am rfl rfl) rfl)) (g8 (cx (am rfl rfl) (am rfl rfl) rfl))) (bB ?_);exact au (aV (qv (am rfl rfl) (cx rfl rfl (by cases i<;>rfl))) ⟨rfl,rfl⟩)
theorem Gs:∀(j k:Nat) (r:a0a),uT W j k r<=r_ W j k r
 |0,_,_=>No _
 |j+1,k,r=>zE (V1 _) λv _=>NK (Gs j (k+1) (less r v)) (Nat.le_mul_of_pos_left _ (J3 v))
theorem EA(β:Bg)(ok:β.ok):∃i,(pz K a).1 [Na,My (.h .bag),Na,Na,Na,Na,Na,Na,Na,Na,Na] β=My (.rt (.c Nf),i):=by
 suffices h:Gw (pz K a).1 [Na,My (.h .bag),Na,Na,Na,Na,Na,Na,Na,Na,Na] β (λo _=>o= .rt (.c Nf)) by
  obtain⟨o,i,e,rfl⟩:=h;exact⟨i,e⟩
 obtain⟨g,c,rs,β1,Q,m,y⟩:=DW (K:=K) (a:=a) ok;obtain⟨w,β2,pw,w0,w1,t⟩:=bi y (lot:=3) (by decide) (by decide);unfold pz
 dsimp only
 refine aG (ao rfl Q) (gj (λM β=>∃g c rs,M=[Na,My (.h .bag),My (.h (cg g)),Na,Na,Na,Na,Na,Na,Na,Na]/\x_ g c rs/\β.ok) (au (gl (β1:=β2) (g8 (cx (ao rfl pw) rfl eq_int)) ?_)) ?_)
 .by_cases q:w=0
  .rw[Nu (NF q)]
   obtain⟨g,c,rs,G,T,m,j⟩:=EC (K:=K) (a:=a) t;exact aG (ao rfl T) (zd ⟨g,c,rs,rfl,m,j⟩)
  .rw[Nv (λz=>q (OR z))]
   exact bB (zd ⟨g,c,rs,rfl,m,t⟩)
 rintro M G ⟨g,c,rs,rfl,m,j⟩;obtain⟨l,b,U,P,kl,A⟩:=yr (K:=K) (a:=a) m.tab j;obtain⟨B,cs,rfl,E,lc⟩:=Ko m P kl;have r:up K a rs cs (wB B cs) (j2 B):=E.nt;have r1:=E.nr.1;have r4:=E.nr.2.1;have c6:=E.c6;have I:=pp (K:=K) (a:=a) (β:=b) (ac:=g) (by rw[E.shp.1];lia);have J:=k7 (K:=K) (a:=a) (β:=b) E.shp r1 (by lia) (by lia);rw[E.rw1]at I;rw[E.cl1]at J;have dn:SW (mX (wB B cs) rs (SW cs) (SW cs+1))<=1000:=NK (eP (n:=62) λk L=>by rw[M9];exact hZ r (by lia)) (by rw[NQ];lia);have X:SW (jm (wB B cs) rs (SW cs))<=900:=NK (eP (n:=62) λk L=>by
  have:=NS.mp L;rw[M9];exact hZ r (by lia)) (by rw[NQ];lia)
 have N:∀p∈(jm (wB B cs) rs (SW cs)).map (B3 (wB B cs) (SW cs)),RP p:=λp C=>by
  obtain⟨q,Y,rfl⟩:=Nm.mp C;obtain⟨S,V⟩:=AW.mp Y;obtain⟨_,n2,Z⟩:=r.at S V;have F:=(ia r.ok E.sm q.1 S _ V).2;have O:r_ (wB B cs) (SW cs-q.1) q.1 q.2<=2^160:=NK (qe r.ok _ _ _ (by lia)) (by rw[qd _ _ F];exact yh Z);refine⟨?_,NF (dZ (NK (Gs _ _ _) O) (by decide)),NF (dZ O (by decide))⟩;show(nI q.2).length<=4;rw[M9];lia
 have hn:1<=SW ((jm (wB B cs) rs (SW cs)).map (B3 (wB B cs) (SW cs))):=by
  unfold jm;rw[Ul,O3,show eo (wB B cs) rs 0=[rs]from rfl];exact Nat.le_add_left _ _
 have W:=λ(l:a0I) (β:Bg)=>ER (K:=K) (a:=a) (β:=β) E (by lia) l;have s:=λ(β:Bg)=>sk (K:=K) (a:=a) (β:=β) (ac:=gP (g0 B)) (by rw[M9,P.shp.1];lia);have lm:SW ((jm (wB B cs) rs (SW cs)).map (B3 (wB B cs) (SW cs)))<=900:=by rw[M9];exact X
 have np:=HX (K:=K) (a:=a) (β:=b) (rs:=rs) (cs:=cs) (B:=B) (by lia);have le:=Ih (K:=K) (a:=a) (β:=b) r E.bok dn;generalize (jm (wB B cs) rs (SW cs)).map (B3 (wB B cs) (SW cs))=R at*;obtain⟨v,aa,p7,v0,v1,H⟩:=bi A (lot:=2) (by decide) (by decide);obtain⟨w,hw,ew⟩:∃w:Nat,(w=2\/w=3)/\2+v=(w:Int):=⟨(2+v).toNat,by lia,by lia⟩;obtain⟨u,f,e8,ab⟩:=IG (K:=K) (a:=a) hn lm N hw H;refine aG (ao rfl U) (aG (ao rfl I) (aG (ao rfl J) (aG (ao rfl le) (aG (IN (ao rfl (Ie E)) rfl np) ?_))));refine dN (β1:=b) (sP (c:=Nf) (mB (ao rfl (Hz (by lia) λp C=>(N p C).1)) rfl)) (bB ?_);refine dN (β1:=b) (mC (g8 (cx (x:= .c Nf) (wb rfl (af (ao rfl (s b)) rfl) ((W R b).trans (by rw[NF rfl]))) rfl rfl)) (g8 (cx (β1:=b) rfl rfl ((MC (qc R R)).trans (by rw[NF rfl];rfl))))) (bB ?_);refine aG (ao (af rfl (af rfl (af (cx rfl (ao rfl p7) (by show My (D.n _)=_;rw[ew])) rfl))) e8) ?_;refine aG (d:=p0 u) (β1:=f) (am rfl rfl) ?_;refine aG (wb rfl (af (ao rfl (s f)) rfl) (W u f)) (au (aV (qv (β2:=f) (ao (af rfl (af (cx rfl rfl (qc _ _)) rfl)) Mh) (cx (β1:=f) rfl rfl ((qc u u).trans (by rw[NF rfl])))) rfl))
end
end Law
namespace L2.Pu
open PySem.W
section
variable{i:String->Option Builtin}{p:N9}{w:Ol}{d:Nat}{f:Option Nj}{g:Vv}{q:SA}
theorem kN(k:Nat){n N:Nat}{s E r:Nq}{b:a0T}{c:Code}{D G:SA}(h:segRun i p w d f 1 n s (piecesOf (b.take k) g c D [W2 q])=My (.next,E,c,G))
  (a:topRun i p w d f N E (restOf (b.drop k) g c G [W2 q])=My r):topRun i p w d f (n+N) s (restOf b g c D [W2 q])=My r:=by
 have:=piece_app h a;rwa[N7]at this
theorem ET{N:Nat}{s r:Nq}{b:a0T}{c:Code}{D:SA}(e:b=[])(k:topRun i p w d f N s ⟨doneF .next,c,D,[W2 q]⟩=My r):topRun i p w d f N s (restOf b g c D [W2 q])=My r:=by
 subst e;exact piece_nil k
end
end L2.Pu
namespace Law
open L2 L2.Pu
noncomputable abbrev E(P:V9)(n:String)(t:Nat)(v:Nj):Qu:=⟨PyData.keyHash P (Pq n),.str (Pq n) t,v⟩
noncomputable abbrev FN(x q:Oi)(s:O0)(b c a w:Nj)(d:a0S)(D E:Nj):N1:=R7 x q (iP s) (cB s) (ak s) b c a w d D E
noncomputable abbrev fO(f:N1):N3:=⟨.type "function",Na,.func f,#[]⟩
noncomputable abbrev tO(l:a0g):N3:=⟨.type "tuple",Na,.seq l.toArray 0,#[]⟩
noncomputable abbrev cO(l:a0g):N3:=⟨.type "code",Na,.fields l.toArray,#[]⟩
noncomputable abbrev eB(P:V9)(n:String)(t:Nat):Qu:=E P n t (.builtin n)
noncomputable abbrev eT(P:V9)(n:String)(t:Nat):Qu:=E P n t (.type n)
noncomputable abbrev eR(P:V9)(n:String)(t r:Nat):Qu:=E P n t (.ref r)
noncomputable abbrev nO(l:a0g):N3:=⟨.none,Na,.fields l.toArray,#[]⟩
noncomputable abbrev fB(x q:Oi)(s:O0):N3:=⟨.none,Na,.func ⟨x,q,iP s,.stmts (cB s),ak s,0,[],.none,.none,.none,.none,Na,.none,.none,0⟩,#[]⟩
noncomputable abbrev cC(n q:Oi)(t l a D c fl r:Nat)(b:Bool)(d e:Nat)(x y z w:Nj)(u f v:Nat):N3:=cO [.str n t,.str q (t+1),.str "/claim/cut.py" (t+2),.int l 0,.int a 0,.int D 0,.int c 0,.int fl 0,.ref r,.bool b,.int d 0,.ref e,x,y,z,w,.int u 0,.int f 0,.str "/claim/cut.py" v]
noncomputable abbrev cF(n:Oi)(t l a b r c u:Nat):N3:=cC n n t l a 0 b 3 r Nf c (r+1) .none .none .none (.ref (r+2)) u l (u+1)
noncomputable abbrev cG(n:Oi)(t l a b r c u:Nat):N3:=cC n n t l a 0 b 3 r Nf c (r+1) .none (.ref (r+2)) (.ref (r+3)) (.ref (r+4)) u l (u+1)
noncomputable abbrev fM(m:Oi)(t:Nat)(x:Oi)(i c:Nat):N3:=fO (FN x x (bw i) .none .none .none (.str m t) Na (.ref c) .none)
abbrev eTt:a0g:=[(.ref 38),(.type "ValueError"),(.type "Exception"),(.type "BaseException"),(.type "object")]
noncomputable abbrev YJ(x:Oi)(a d b t u:Nat):N3:=⟨(.type "type"),Na,(.cls ⟨x,[(.ref 38)],(.ref a)::eTt,d,x,Nf,[],[],Ni,Na,Ni⟩),#[(My (.ref b)),Na,(My (.str x t)),(My (.str x u)),(My (.builtin "ValueError.__new__")),(My (.bool Nf))]⟩
noncomputable abbrev Yq(n:Nat):N3:=⟨(.type "builtin_function_or_method"),Na,(.fields #[(.builtin "object.__init_subclass__"),(.ref n)]),#[]⟩
noncomputable abbrev kc:Nj:= .str "edgetally.errors" 194
noncomputable abbrev ra:Nj:= .str "edgetally.net" 464
noncomputable abbrev Zb:Nj:= .str "__main__" 164
noncomputable abbrev fL(x q:Oi)(i c:Nat):N3:=fO (FN x q (bw i) .none .none .none (.str "law_edgetally_k20_net_holds_its_paper" 654) Na (.ref c) .none)
noncomputable def trL:a0a->a0g
 |a::b::c::l=> .int a 0:: .int b 0:: .ref c::trL l
 |_=>[]
noncomputable abbrev nT(l:a0a):N3:=nO (trL l)
noncomputable def stL:Nat->a0j->a0g
 |_,[]=>[]
 |t,x::l=> .str x t::stL (t+1) l
noncomputable abbrev tS(t:Nat)(l:a0j):N3:=tO (stL t l)
noncomputable def fD(o:N3):N1:=match o.data with
 | .func f=>f
 |_=>FN "" "" (bw 0) .none .none .none .none Na .none .none
section
variable(P:V9)
def b0:N3:=⟨(.type "dict"),Na,(.dict #[(E P "__name__" 1 (.str "builtins" 160)),(E P "__doc__" 2 (.builtin "builtins.__doc__:str#opaque")),(E P "__package__" 3 (.builtin "builtins.__package__:str#opaque")),(E P "__loader__" 4 (.builtin "builtins.__loader__:shared#opaque")),(E P "__spec__" 5 (.builtin "builtins.__spec__#opaque")),(eB P "__build_class__" 6),(eB P "__import__" 7),(eB P "abs" 8),(eB P "all" 9),(eB P "any" 10),(eB P "ascii" 11),(eB P "bin" 12),(eB P "breakpoint" 13),(eB P "callable" 14),(eB P "chr" 15),(eB P "compile" 16),(eB P "delattr" 17),(eB P "dir" 18),(eB P "divmod" 19),(eB P "eval" 20),(eB P "exec" 21),(eB P "format" 22),(eB P "getattr" 23),(eB P "globals" 24),(eB P "hasattr" 25),(eB P "hash" 26),(eB P "hex" 27),(eB P "id" 28),(eB P "input" 29),(eB P "isinstance" 30),(eB P "issubclass" 31),(eB P "iter" 32),(eB P "aiter" 33),(eB P "len" 34),(eB P "locals" 35),(eB P "max" 36),(eB P "min" 37),(eB P "next" 38),(eB P "anext" 39),(eB P "oct" 40),(eB P "ord" 41),(eB P "pow" 42),(eB P "print" 43),(eB P "repr" 44),(eB P "round" 45),(eB P "setattr" 46),(eB P "sorted" 47),(eB P "sum" 48),(eB P "vars" 49),(E P "None" 50 .none),(E P "Ellipsis" 51 .ellipsis),(E P "NotImplemented" 52 .notImplemented),(E P "False" 53 (.bool Ni)),(E P "True" 54 (.bool Nf)),(eT P "bool" 55),(eT P "memoryview" 56),(eT P "bytearray" 57),(eT P "bytes" 58),(eT P "classmethod" 59),(eT P "complex" 60),(eT P "dict" 61),(eT P "enumerate" 62),(eT P "filter" 63),(eT P "float" 64),(eT P "frozenset" 65),(eT P "property" 66),(eT P "int" 67),(eT P "list" 68),(eT P "map" 69),(eT P "object" 70),(eT P "range" 71),(eT P "reversed" 72),(eT P "set" 73),(eT P "slice" 74),(eT P "staticmethod" 75),(eT P "str" 76),(eT P "super" 77),(eT P "tuple" 78),(eT P "type" 79),(eT P "zip" 80),(E P "__debug__" 81 (.bool Nf)),(eT P "BaseException" 82),(eT P "BaseExceptionGroup" 83),(eT P "Exception" 84),(eT P "GeneratorExit" 85),(eT P "KeyboardInterrupt" 86),(eT P "SystemExit" 87),(eT P "ArithmeticError" 88),(eT P "AssertionError" 89),(eT P "AttributeError" 90),(eT P "BufferError" 91),(eT P "EOFError" 92),(eT P "ImportError" 93),(eT P "LookupError" 94),(eT P "MemoryError" 95),(eT P "NameError" 96),(eT P "OSError" 97),(eT P "ReferenceError" 98),(eT P "RuntimeError" 99),(eT P "StopAsyncIteration" 100),(eT P "StopIteration" 101),(eT P "SyntaxError" 102),(eT P "SystemError" 103),(eT P "TypeError" 104),(eT P "ValueError" 105),(eT P "Warning" 106),(eT P "FloatingPointError" 107),(eT P "OverflowError" 108),(eT P "ZeroDivisionError" 109),(eT P "BytesWarning" 110),(eT P "DeprecationWarning" 111),(eT P "EncodingWarning" 112),(eT P "FutureWarning" 113),(eT P "ImportWarning" 114),(eT P "PendingDeprecationWarning" 115),(eT P "ResourceWarning" 116),(eT P "RuntimeWarning" 117),(eT P "SyntaxWarning" 118),(eT P "UnicodeWarning" 119),(eT P "UserWarning" 120),(eT P "BlockingIOError" 121),(eT P "ChildProcessError" 122),(eT P "ConnectionError" 123),(eT P "FileExistsError" 124),(eT P "FileNotFoundError" 125),(eT P "InterruptedError" 126),(eT P "IsADirectoryError" 127),(eT P "NotADirectoryError" 128),(eT P "PermissionError" 129),(eT P "ProcessLookupError" 130),(eT P "TimeoutError" 131),(eT P "IndentationError" 132),(eT P "_IncompleteInputError" 133),(eT P "IndexError" 134),(eT P "KeyError" 135),(eT P "ModuleNotFoundError" 136),(eT P "NotImplementedError" 137),(eT P "PythonFinalizationError" 138),(eT P "RecursionError" 139),(eT P "UnboundLocalError" 140),(eT P "UnicodeError" 141),(eT P "BrokenPipeError" 142),(eT P "ConnectionAbortedError" 143),(eT P "ConnectionRefusedError" 144),(eT P "ConnectionResetError" 145),(eT P "TabError" 146),(eT P "UnicodeDecodeError" 147),(eT P "UnicodeEncodeError" 148),(eT P "UnicodeTranslateError" 149),(eT P "ExceptionGroup" 150),(E P "EnvironmentError" 151 (.type "OSError")),(E P "IOError" 152 (.type "OSError")),(eB P "open" 153),(E P "quit" 154 (.builtin "builtins.quit#opaque")),(E P "exit" 155 (.builtin "builtins.exit#opaque")),(E P "copyright" 156 (.builtin "builtins.copyright#opaque")),(E P "credits" 157 (.builtin "builtins.credits#opaque")),(E P "license" 158 (.builtin "builtins.license#opaque")),(E P "help" 159 (.builtin "builtins.help#opaque"))] 159),#[]⟩
def b1:N3:=⟨(.type "dict"),Na,(.dict #[(eR P "builtins" 162 4),(eR P "__main__" 163 5)] 2),#[]⟩
noncomputable def b2:N3:=⟨.none,Na,(.dict #[] 0),#[]⟩
def mL:List Qu:=[(E P "__name__" 165 (.str "law_edgetally_k20_net_holds_its_paper" 654)),(E P "__doc__" 166 .none),(E P "__package__" 167 .none),(E P "__loader__" 168 (.builtin "__main__.__loader__#opaque")),(E P "__spec__" 169 .none),(eR P "__annotations__" 170 6),(eR P "__builtins__" 171 4),(E P "__file__" 173 (.str "/claim/cut.py" 172)),(E P "__cached__" 174 .none),(eR P "_wall" 193 21),(eR P "EdgeError" 223 38),(eR P "BadSums" 248 59),(eR P "BadBounds" 273 79),(eR P "TooWide" 298 98),(eR P "Barred" 325 117),(eR P "BadNumber" 350 137),(E P "MOST" 354 (.int 40 353)),(E P "MOST_ROWS" 356 (.int 4 355)),(E P "MOST_COLUMNS" 358 (.int 6 357)),(eR P "FREE" 360 140),(eR P "free" 367 146),(eR P "check_sums" 373 151),(eR P "check_pair" 382 158),(eR P "settled_bounds" 388 163),(eR P "factorial" 399 170),(eR P "ways" 408 177),(eR P "fillings" 414 182),(eR P "need_of" 422 187),(eR P "room_inside" 428 192),(eR P "room_beside" 434 197),(eR P "room_of" 440 202),(eR P "narrowest" 446 207),(eR P "choices" 452 212),(eR P "check_fit" 463 219),(E P "WIDE" 467 (.int 500 466)),(eR P "check_wide" 476 226),(eR P "settled_for_net" 486 233),(eR P "column_fillings" 492 238),(eR P "rests_behind" 498 243),(eR P "nodes_by_level" 504 248),(eR P "node_counts" 518 255),(eR P "counted_nodes" 524 260),(eR P "paper_rows" 530 265),(eR P "Net" 641 351),(eR P "net_holds" 653 363),(eR P "_law_bag" 661 368),(eR P "_law_pull" 672 375),(eR P "_law_same" 678 380),(eR P "_law_grid" 684 385),(eR P "_law_small" 694 392),(eR P "_law_wide" 704 399),(eR P "_law_large" 714 406),(eR P "_law_turned" 720 411),(eR P "_law_rowsums" 726 416),(eR P "_law_columnsums" 732 421),(eR P "_law_free" 738 426),(eR P "_law_bounds" 752 433),(eR P "_law_copied" 758 438),(eR P "_law_fit" 764 443),(eR P "_law_less" 770 448),(eR P "_law_factorial" 779 455),(eR P "_law_ways" 788 462),(eR P "_law_net" 796 469),(eR P "_law_nodes" 802 474),(eR P "_law_counted" 808 479),(eR P "_law_bent" 814 484),(eR P "law" 831 491)]
noncomputable def b3:N3:=⟨(.type "dict"),Na,(.dict (mL P).toArray 67),#[]⟩
noncomputable def b4:N3:=⟨(.type "module"),(My 0),.plain,#[]⟩
noncomputable def b5:N3:=⟨(.type "module"),(My 3),.plain,#[]⟩
noncomputable def b6:N3:=⟨(.type "dict"),Na,(.dict #[] 0),#[]⟩
def b7:N3:=tO []
def b8:N3:=nO []
def b9:N3:=cC "<module>" "<module>" 176 1 0 0 0 0 7 Ni 175 8 .none .none .none .none 179 1 180
def b10:N3:=⟨(.type "frame"),Na,.plain,#[(My (.ref 9)),(My (.ref 3)),(My (.ref 3)),Na,(My Zb),Na,(My (.ref 0))]⟩
def b12:N3:=nT [1,0,20,5,0,27,10,0,47,14,0,67,18,0,87,23,0,106,29,0,125,38,0,145,40,0,150,51,0,157,55,0,162,65,0,169,70,0,176,78,0,181,88,0,186,90,0,191,93,0,196,95,0,201,97,0,206,99,0,211,104,0,218,111,0,225,117,0,232,122,0,237,124,0,242,126,0,247,134,0,254,142,0,259,152,0,264,154,0,271,193,0,362,197,0,367,199,0,374,209,0,379,221,0,384,228,0,391,239,0,398,245,0,405,256,0,410,258,0,415,260,0,420,262,0,425,264,0,432,276,0,437,278,0,442,287,0,447,289,0,454,294,0,461,299,0,468,301,0,473,310,0,478,325,0,483,353,0,490]
def b13:N3:=cC "<module>" "<module>" 182 1 0 0 0 0 11 Ni 181 12 .none .none .none .none 185 1 186
def b14:N3:=⟨(.type "frame"),Na,.plain,#[(My (.ref 13)),(My (.ref 3)),(My (.ref 3)),Na,(My Zb),Na,(My (.ref 0))]⟩
def b17:N3:=tS 190 ["k"]
def b19:N3:=fB "_wall" "_wall" (bw 0)
def b20:N3:=cG "_wall" 187 1 1 0 15 181 191
def b21:N3:=fM "__main__" 164 "_wall" 0 20
def b22:N3:=tO [(.type "ValueError")]
noncomputable def Yu:N3:=⟨(.type "builtin_function_or_method"),Na,(.fields #[(.builtin "type.__prepare__"),(.type "type")]),#[]⟩
def b24:N3:=⟨(.type "dict"),Na,(.dict #[(E P "__module__" 203 kc),(E P "__qualname__" 205 (.str "EdgeError" 204)),(E P "__firstlineno__" 207 (.int 5 206)),(eR P "__init__" 216 35),(eR P "__static_attributes__" 218 36)] 5),#[]⟩
def b26:N3:=nT [7,4,34]
def b27:N3:=cC "EdgeError" "EdgeError" 198 5 0 0 0 0 25 Ni 181 26 .none .none .none .none 201 5 202
def b28:N3:=⟨(.type "frame"),Na,.plain,#[(My (.ref 27)),(My (.ref 3)),(My (.ref 24)),Na,(My kc),Na,(My (.ref 0))]⟩
def b31:N3:=tS 211 ["self","word","why"]
def b33:N3:=fB "__init__" "EdgeError.__init__" (aQ (bw 2) 0)
def b34:N3:=cC "__init__" "EdgeError.__init__" 208 7 3 0 0 3 29 Nf 181 30 .none (.ref 31) (.ref 32) (.ref 33) 214 7 215
def b35:N3:=fO (FN "__init__" "EdgeError.__init__" (aQ (bw 2) 0) .none .none .none kc Na (.ref 34) .none)
def b36:N3:=tS 217 ["word"]
def b37:N3:=⟨(.type "dict"),Na,(.dict #[(E P "__module__" 203 kc),(E P "__firstlineno__" 207 (.int 5 206)),(eR P "__init__" 216 35),(eR P "__static_attributes__" 218 36),(eR P "__weakref__" 220 39),(E P "__doc__" 221 .none)] 3),#[]⟩
noncomputable def b38:N3:=⟨(.type "type"),Na,(.cls ⟨"EdgeError",[(.type "ValueError")],[(.ref 38),(.type "ValueError"),(.type "Exception"),(.type "BaseException"),(.type "object")],37,"EdgeError",Nf,[],[(.ref 59),(.ref 79),(.ref 98),(.ref 117),(.ref 137)],Ni,Na,Ni⟩),#[(My (.ref 22)),Na,(My (.str "EdgeError" 196)),(My (.str "EdgeError" 204)),(My (.builtin "ValueError.__new__")),(My (.bool Nf))]⟩
noncomputable def b39:N3:=⟨(.type "getset_descriptor"),Na,(.fields #[(.str "__weakref__" 219),(.ref 38),(.builtin "ExceptionGroup.__weakref__"),.none]),#[]⟩
noncomputable def b40:N3:=⟨(.type "super"),Na,(.fields #[(.ref 38),(.ref 38),(.ref 38)]),#[]⟩
def b41:N3:=Yq 38
def Y0:N3:=tO [(.ref 38)]
def b44:N3:=⟨(.type "dict"),Na,(.dict #[(E P "__module__" 231 kc),(E P "__qualname__" 233 (.str "BadSums" 232)),(E P "__firstlineno__" 235 (.int 10 234)),(eR P "__init__" 244 56),(eR P "__static_attributes__" 245 57)] 5),#[]⟩
def b46:N3:=nT [12,4,55]
def b47:N3:=cC "BadSums" "BadSums" 226 10 0 0 0 0 45 Ni 181 46 .none .none .none .none 229 10 230
def b48:N3:=⟨(.type "frame"),Na,.plain,#[(My (.ref 47)),(My (.ref 3)),(My (.ref 44)),Na,(My kc),Na,(My (.ref 0))]⟩
def b49:N3:=tS 236 ["these sums are no table's"]
def b52:N3:=tS 240 ["self","why"]
def b54:N3:=fB "__init__" "BadSums.__init__" (aQ (bw 3) 0)
def b55:N3:=cC "__init__" "BadSums.__init__" 237 12 2 0 0 3 50 Nf 181 51 .none (.ref 52) (.ref 53) (.ref 54) 242 12 243
def b56:N3:=fO (FN "__init__" "BadSums.__init__" (aQ (bw 3) 0) (.ref 49) .none .none kc Na (.ref 55) .none)
def b58:N3:=⟨(.type "dict"),Na,(.dict #[(E P "__module__" 231 kc),(E P "__firstlineno__" 235 (.int 10 234)),(eR P "__init__" 244 56),(eR P "__static_attributes__" 245 57),(E P "__doc__" 246 .none)] 2),#[]⟩
def b59:N3:=YJ "BadSums" 59 58 42 224 232
noncomputable def b60:N3:=⟨(.type "super"),Na,(.fields #[(.ref 59),(.ref 59),(.ref 59)]),#[]⟩
def b61:N3:=Yq 59
def b64:N3:=⟨(.type "dict"),Na,(.dict #[(E P "__module__" 256 kc),(E P "__qualname__" 258 (.str "BadBounds" 257)),(E P "__firstlineno__" 260 (.int 14 259)),(eR P "__init__" 269 76),(eR P "__static_attributes__" 270 77)] 5),#[]⟩
def b66:N3:=nT [16,4,75]
def b67:N3:=cC "BadBounds" "BadBounds" 251 14 0 0 0 0 65 Ni 181 66 .none .none .none .none 254 14 255
def b68:N3:=⟨(.type "frame"),Na,.plain,#[(My (.ref 67)),(My (.ref 3)),(My (.ref 64)),Na,(My kc),Na,(My (.ref 0))]⟩
def b69:N3:=tS 261 ["these bounds are no table's"]
def b72:N3:=tS 265 ["self","why"]
def b74:N3:=fB "__init__" "BadBounds.__init__" (aQ (bw 4) 0)
def b75:N3:=cC "__init__" "BadBounds.__init__" 262 16 2 0 0 3 70 Nf 181 71 .none (.ref 72) (.ref 73) (.ref 74) 267 16 268
def b76:N3:=fO (FN "__init__" "BadBounds.__init__" (aQ (bw 4) 0) (.ref 69) .none .none kc Na (.ref 75) .none)
def b78:N3:=⟨(.type "dict"),Na,(.dict #[(E P "__module__" 256 kc),(E P "__firstlineno__" 260 (.int 14 259)),(eR P "__init__" 269 76),(eR P "__static_attributes__" 270 77),(E P "__doc__" 271 .none)] 2),#[]⟩
def b79:N3:=YJ "BadBounds" 79 78 62 249 257
noncomputable def b80:N3:=⟨(.type "super"),Na,(.fields #[(.ref 79),(.ref 79),(.ref 79)]),#[]⟩
def b81:N3:=Yq 79
def b84:N3:=⟨(.type "dict"),Na,(.dict #[(E P "__module__" 281 kc),(E P "__qualname__" 283 (.str "TooWide" 282)),(E P "__firstlineno__" 285 (.int 18 284)),(eR P "__init__" 293 95),(eR P "__static_attributes__" 295 96)] 5),#[]⟩
def b86:N3:=nT [20,4,94]
def b87:N3:=cC "TooWide" "TooWide" 276 18 0 0 0 0 85 Ni 181 86 .none .none .none .none 279 18 280
def b88:N3:=⟨(.type "frame"),Na,.plain,#[(My (.ref 87)),(My (.ref 3)),(My (.ref 84)),Na,(My kc),Na,(My (.ref 0))]⟩
def b91:N3:=tS 289 ["self","wide"]
def b93:N3:=fB "__init__" "TooWide.__init__" (aQ (bw 5) 0)
def b94:N3:=cC "__init__" "TooWide.__init__" 286 20 2 0 0 3 89 Nf 181 90 .none (.ref 91) (.ref 92) (.ref 93) 291 20 292
def b95:N3:=fO (FN "__init__" "TooWide.__init__" (aQ (bw 5) 0) .none .none .none kc Na (.ref 94) .none)
def b96:N3:=tS 294 ["wide"]
def b97:N3:=⟨(.type "dict"),Na,(.dict #[(E P "__module__" 281 kc),(E P "__firstlineno__" 285 (.int 18 284)),(eR P "__init__" 293 95),(eR P "__static_attributes__" 295 96),(E P "__doc__" 296 .none)] 2),#[]⟩
def b98:N3:=YJ "TooWide" 98 97 82 274 282
noncomputable def b99:N3:=⟨(.type "super"),Na,(.fields #[(.ref 98),(.ref 98),(.ref 98)]),#[]⟩
def b100:N3:=Yq 98
def b103:N3:=⟨(.type "dict"),Na,(.dict #[(E P "__module__" 306 kc),(E P "__qualname__" 308 (.str "Barred" 307)),(E P "__firstlineno__" 310 (.int 23 309)),(eR P "__init__" 319 114),(eR P "__static_attributes__" 322 115)] 5),#[]⟩
def b105:N3:=nT [25,4,113]
def b106:N3:=cC "Barred" "Barred" 301 23 0 0 0 0 104 Ni 181 105 .none .none .none .none 304 23 305
def b107:N3:=⟨(.type "frame"),Na,.plain,#[(My (.ref 106)),(My (.ref 3)),(My (.ref 103)),Na,(My kc),Na,(My (.ref 0))]⟩
def b110:N3:=tS 314 ["self","over","into"]
def b112:N3:=fB "__init__" "Barred.__init__" (aQ (bw 6) 0)
def b113:N3:=cC "__init__" "Barred.__init__" 311 25 3 0 0 3 108 Nf 181 109 .none (.ref 110) (.ref 111) (.ref 112) 317 25 318
def b114:N3:=fO (FN "__init__" "Barred.__init__" (aQ (bw 6) 0) .none .none .none kc Na (.ref 113) .none)
def b115:N3:=tS 320 ["into","over"]
def b116:N3:=⟨(.type "dict"),Na,(.dict #[(E P "__module__" 306 kc),(E P "__firstlineno__" 310 (.int 23 309)),(eR P "__init__" 319 114),(eR P "__static_attributes__" 322 115),(E P "__doc__" 323 .none)] 2),#[]⟩
def b117:N3:=YJ "Barred" 117 116 101 299 307
noncomputable def b118:N3:=⟨(.type "super"),Na,(.fields #[(.ref 117),(.ref 117),(.ref 117)]),#[]⟩
def b119:N3:=Yq 117
def b122:N3:=⟨(.type "dict"),Na,(.dict #[(E P "__module__" 333 kc),(E P "__qualname__" 335 (.str "BadNumber" 334)),(E P "__firstlineno__" 337 (.int 29 336)),(eR P "__init__" 346 134),(eR P "__static_attributes__" 347 135)] 5),#[]⟩
def b124:N3:=nT [31,4,133]
def b125:N3:=cC "BadNumber" "BadNumber" 328 29 0 0 0 0 123 Ni 181 124 .none .none .none .none 331 29 332
def b126:N3:=⟨(.type "frame"),Na,.plain,#[(My (.ref 125)),(My (.ref 3)),(My (.ref 122)),Na,(My kc),Na,(My (.ref 0))]⟩
def b127:N3:=tS 338 ["this number is out of its bounds"]
def b130:N3:=tS 342 ["self","why"]
def b132:N3:=fB "__init__" "BadNumber.__init__" (aQ (bw 7) 0)
def b133:N3:=cC "__init__" "BadNumber.__init__" 339 31 2 0 0 3 128 Nf 181 129 .none (.ref 130) (.ref 131) (.ref 132) 344 31 345
def b134:N3:=fO (FN "__init__" "BadNumber.__init__" (aQ (bw 7) 0) (.ref 127) .none .none kc Na (.ref 133) .none)
def b136:N3:=⟨(.type "dict"),Na,(.dict #[(E P "__module__" 333 kc),(E P "__firstlineno__" 337 (.int 29 336)),(eR P "__init__" 346 134),(eR P "__static_attributes__" 347 135),(E P "__doc__" 348 .none)] 2),#[]⟩
def b137:N3:=YJ "BadNumber" 137 136 120 326 334
noncomputable def b138:N3:=⟨(.type "super"),Na,(.fields #[(.ref 137),(.ref 137),(.ref 137)]),#[]⟩
def b139:N3:=Yq 137
def LL:N3:=tO [(.int 0 359),(.int 40 353)]
def LK:N3:=⟨(.type "dict"),Na,(.dict #[(eR P "pair" 361 140)] 1),#[]⟩
def b144:N3:=fB "free" "free" (bw 13)
def LJ:N3:=cF "free" 362 38 2 1 142 181 365
def F7:N3:=fO (FN "free" "free" (bw 13) .none (.ref 141) .none (.str "edgetally.bounds" 351) Na (.ref 145) .none)
def b149:N3:=fB "check_sums" "check_sums" (bw 14)
def LH:N3:=cF "check_sums" 368 40 2 0 147 181 371
def F6:N3:=fM "edgetally.bounds" 351 "check_sums" 14 150
def b154:N3:=tS 377 ["pair","low","high"]
def b156:N3:=fB "check_pair" "check_pair" (bw 15)
def LG:N3:=cG "check_pair" 374 51 1 0 152 181 380
def F5:N3:=fM "edgetally.bounds" 351 "check_pair" 15 157
def b161:N3:=fB "settled_bounds" "settled_bounds" (bw 16)
def LF:N3:=cF "settled_bounds" 383 55 3 0 159 181 386
def F4:N3:=fM "edgetally.bounds" 351 "settled_bounds" 16 162
def b166:N3:=tS 394 ["number","product","factor"]
def b168:N3:=fB "factorial" "factorial" (bw 18)
def LE:N3:=cG "factorial" 391 65 1 0 164 181 397
def FZ:N3:=fM "edgetally.counts" 389 "factorial" 18 169
def b173:N3:=tS 403 ["parts","part","told"]
def b175:N3:=fB "ways" "ways" (bw 19)
def LD:N3:=cG "ways" 400 70 1 0 171 181 406
def FY:N3:=fM "edgetally.counts" 389 "ways" 19 176
def b180:N3:=fB "fillings" "fillings" (bw 20)
def LC:N3:=cF "fillings" 409 78 3 0 178 181 412
def FX:N3:=fM "edgetally.counts" 389 "fillings" 20 181
def b185:N3:=fB "need_of" "need_of" (bw 22)
def LB:N3:=cF "need_of" 417 88 2 0 183 181 420
def FW:N3:=fM "edgetally.fits" 415 "need_of" 22 186
def b190:N3:=fB "room_inside" "room_inside" (bw 23)
def LA:N3:=cF "room_inside" 423 90 4 0 188 181 426
def FV:N3:=fM "edgetally.fits" 415 "room_inside" 23 191
def b195:N3:=fB "room_beside" "room_beside" (bw 24)
def Lz:N3:=cF "room_beside" 429 93 3 0 193 181 432
def FU:N3:=fM "edgetally.fits" 415 "room_beside" 24 196
def b200:N3:=fB "room_of" "room_of" (bw 25)
def Ly:N3:=cF "room_of" 435 95 4 0 198 181 438
def FT:N3:=fM "edgetally.fits" 415 "room_of" 25 201
def b205:N3:=fB "narrowest" "narrowest" (bw 26)
def Lx:N3:=cF "narrowest" 441 97 3 0 203 181 444
def FS:N3:=fM "edgetally.fits" 415 "narrowest" 26 206
def b210:N3:=fB "choices" "choices" (bw 27)
def Lw:N3:=cF "choices" 447 99 1 0 208 181 450
def FR:N3:=fM "edgetally.fits" 415 "choices" 27 211
def b215:N3:=tS 456 ["rowsums","columnsums","bounds","over","into"]
def b217:N3:=fB "check_fit" "check_fit" (bw 28)
def Lu:N3:=cG "check_fit" 453 104 3 0 213 181 461
def FQ:N3:=fM "edgetally.fits" 415 "check_fit" 28 218
def b222:N3:=tS 471 ["rowsums","wide","many"]
def b224:N3:=fB "check_wide" "check_wide" (bw 31)
def Ls:N3:=cG "check_wide" 468 111 1 0 220 181 474
def FP:N3:=fM "edgetally.net" 464 "check_wide" 31 225
def b229:N3:=tS 480 ["rowsums","columnsums","bounds","settled"]
def b231:N3:=fB "settled_for_net" "settled_for_net" (bw 32)
def Lr:N3:=cG "settled_for_net" 477 117 3 0 227 181 484
def FO:N3:=fM "edgetally.net" 464 "settled_for_net" 32 232
def b236:N3:=fB "column_fillings" "column_fillings" (bw 33)
def Lq:N3:=cF "column_fillings" 487 122 4 0 234 181 490
def FM:N3:=fM "edgetally.net" 464 "column_fillings" 33 237
def b241:N3:=fB "rests_behind" "rests_behind" (bw 34)
def Lp:N3:=cF "rests_behind" 493 124 2 0 239 181 496
def FK:N3:=fM "edgetally.net" 464 "rests_behind" 34 242
def b246:N3:=fB "nodes_by_level" "nodes_by_level" (bw 35)
def Lo:N3:=cF "nodes_by_level" 499 126 3 0 244 181 502
def FJ:N3:=fM "edgetally.net" 464 "nodes_by_level" 35 247
def b251:N3:=tS 508 ["rests","filled","behind","tables","dealings","counts","tables_behind","dealings_behind"]
def b253:N3:=fB "node_counts" "node_counts" (bw 36)
def Ln:N3:=cG "node_counts" 505 134 3 0 249 181 516
def FI:N3:=fM "edgetally.net" 464 "node_counts" 36 254
def b258:N3:=fB "counted_nodes" "counted_nodes" (bw 37)
def Lm:N3:=cF "counted_nodes" 519 142 3 0 256 181 522
def FH:N3:=fM "edgetally.net" 464 "counted_nodes" 37 259
def b263:N3:=fB "paper_rows" "paper_rows" (bw 38)
def Ll:N3:=cF "paper_rows" 525 152 1 0 261 181 528
def FG:N3:=fM "edgetally.net" 464 "paper_rows" 38 264
def b268:N3:=⟨(.type "dict"),Na,(.dict #[(E P "__module__" 538 ra),(E P "__qualname__" 540 (.str "Net" 539)),(E P "__firstlineno__" 542 (.int 154 541)),(eR P "__init__" 554 280),(eR P "__eq__" 562 287),(eR P "__len__" 569 294),(eR P "rowsums" 576 301),(eR P "columnsums" 583 308),(eR P "bounds" 589 313),(eR P "counts_at" 598 320),(eR P "tables" 605 327),(eR P "dealings" 612 334),(eR P "steps" 621 341),(eR P "paper" 628 348),(eR P "__static_attributes__" 633 349)] 15),#[]⟩
def b270:N3:=nT [156,4,279,164,4,286,167,4,293,170,4,300,173,4,307,176,4,312,179,4,319,182,4,326,185,4,333,188,4,340,191,4,347]
def b271:N3:=cC "Net" "Net" 533 154 0 0 0 0 269 Ni 181 270 .none .none .none .none 536 154 537
def b272:N3:=⟨(.type "frame"),Na,.plain,#[(My (.ref 271)),(My (.ref 3)),(My (.ref 268)),Na,(My ra),Na,(My (.ref 0))]⟩
def Lk:N3:=⟨(.type "dict"),Na,(.dict #[(E P "bounds" 543 .none)] 1),#[]⟩
def b276:N3:=tS 547 ["self","rowsums","columnsums","bounds","settled"]
def b278:N3:=fB "__init__" "Net.__init__" (aQ (bw 39) 0)
def Lj:N3:=cC "__init__" "Net.__init__" 544 156 3 0 1 3 274 Nf 181 275 .none (.ref 276) (.ref 277) (.ref 278) 552 156 553
def FF:N3:=fO (FN "__init__" "Net.__init__" (aQ (bw 39) 0) .none (.ref 273) .none ra Na (.ref 279) .none)
def b283:N3:=tS 558 ["self","other"]
def b285:N3:=fB "__eq__" "Net.__eq__" (aQ (bw 39) 1)
def b286:N3:=cC "__eq__" "Net.__eq__" 555 164 2 0 0 3 281 Nf 181 282 .none (.ref 283) (.ref 284) (.ref 285) 560 164 561
def b287:N3:=fO (FN "__eq__" "Net.__eq__" (aQ (bw 39) 1) .none .none .none ra Na (.ref 286) .none)
def b290:N3:=tS 566 ["self"]
def b292:N3:=fB "__len__" "Net.__len__" (aQ (bw 39) 2)
def b293:N3:=cC "__len__" "Net.__len__" 563 167 1 0 0 3 288 Nf 181 289 .none (.ref 290) (.ref 291) (.ref 292) 567 167 568
def b294:N3:=fO (FN "__len__" "Net.__len__" (aQ (bw 39) 2) .none .none .none ra Na (.ref 293) .none)
def b297:N3:=tS 573 ["self"]
def b299:N3:=fB "rowsums" "Net.rowsums" (aQ (bw 39) 3)
def b300:N3:=cC "rowsums" "Net.rowsums" 570 170 1 0 0 3 295 Nf 181 296 .none (.ref 297) (.ref 298) (.ref 299) 574 170 575
def b301:N3:=fO (FN "rowsums" "Net.rowsums" (aQ (bw 39) 3) .none .none .none ra Na (.ref 300) .none)
def b304:N3:=tS 580 ["self"]
def b306:N3:=fB "columnsums" "Net.columnsums" (aQ (bw 39) 4)
def b307:N3:=cC "columnsums" "Net.columnsums" 577 173 1 0 0 3 302 Nf 181 303 .none (.ref 304) (.ref 305) (.ref 306) 581 173 582
def b308:N3:=fO (FN "columnsums" "Net.columnsums" (aQ (bw 39) 4) .none .none .none ra Na (.ref 307) .none)
def b311:N3:=fB "bounds" "Net.bounds" (aQ (bw 39) 5)
def b312:N3:=cC "bounds" "Net.bounds" 584 176 1 0 0 3 309 Nf 181 310 .none .none .none (.ref 311) 587 176 588
def b313:N3:=fO (FN "bounds" "Net.bounds" (aQ (bw 39) 5) .none .none .none ra Na (.ref 312) .none)
def b316:N3:=tS 593 ["self","level","rests"]
def b318:N3:=fB "counts_at" "Net.counts_at" (aQ (bw 39) 6)
def b319:N3:=cC "counts_at" "Net.counts_at" 590 179 3 0 0 3 314 Nf 181 315 .none (.ref 316) (.ref 317) (.ref 318) 596 179 597
def b320:N3:=fO (FN "counts_at" "Net.counts_at" (aQ (bw 39) 6) .none .none .none ra Na (.ref 319) .none)
def b323:N3:=tS 602 ["self"]
def b325:N3:=fB "tables" "Net.tables" (aQ (bw 39) 7)
def b326:N3:=cC "tables" "Net.tables" 599 182 1 0 0 3 321 Nf 181 322 .none (.ref 323) (.ref 324) (.ref 325) 603 182 604
def b327:N3:=fO (FN "tables" "Net.tables" (aQ (bw 39) 7) .none .none .none ra Na (.ref 326) .none)
def b330:N3:=tS 609 ["self"]
def b332:N3:=fB "dealings" "Net.dealings" (aQ (bw 39) 8)
def b333:N3:=cC "dealings" "Net.dealings" 606 185 1 0 0 3 328 Nf 181 329 .none (.ref 330) (.ref 331) (.ref 332) 610 185 611
def b334:N3:=fO (FN "dealings" "Net.dealings" (aQ (bw 39) 8) .none .none .none ra Na (.ref 333) .none)
def b337:N3:=tS 616 ["self","level","rests"]
def b339:N3:=fB "steps" "Net.steps" (aQ (bw 39) 9)
def b340:N3:=cC "steps" "Net.steps" 613 188 3 0 0 3 335 Nf 181 336 .none (.ref 337) (.ref 338) (.ref 339) 619 188 620
def b341:N3:=fO (FN "steps" "Net.steps" (aQ (bw 39) 9) .none .none .none ra Na (.ref 340) .none)
def b344:N3:=tS 625 ["self"]
def b346:N3:=fB "paper" "Net.paper" (aQ (bw 39) 10)
def Li:N3:=cC "paper" "Net.paper" 622 191 1 0 0 3 342 Nf 181 343 .none (.ref 344) (.ref 345) (.ref 346) 626 191 627
def FE:N3:=fO (FN "paper" "Net.paper" (aQ (bw 39) 10) .none .none .none ra Na (.ref 347) .none)
def b349:N3:=tS 629 ["column_list","counted","pairs","row_list"]
def Lh:N3:=⟨(.type "dict"),Na,(.dict #[(E P "__module__" 538 ra),(E P "__firstlineno__" 542 (.int 154 541)),(eR P "__init__" 554 280),(eR P "__eq__" 562 287),(eR P "__len__" 569 294),(eR P "rowsums" 576 301),(eR P "columnsums" 583 308),(eR P "bounds" 589 313),(eR P "counts_at" 598 320),(eR P "tables" 605 327),(eR P "dealings" 612 334),(eR P "steps" 621 341),(eR P "paper" 628 348),(eR P "__static_attributes__" 633 349),(eR P "__dict__" 635 352),(eR P "__weakref__" 637 353),(E P "__doc__" 638 .none),(E P "__hash__" 639 .none)] 5),#[]⟩
noncomputable def Lg:N3:=⟨(.type "type"),Na,(.cls ⟨"Net",[(.type "object")],[(.ref 351),(.type "object")],350,"Net",Nf,[],[],Ni,Na,Ni⟩),#[Na,Na,(My (.str "Net" 531)),(My (.str "Net" 539)),(My (.builtin "object.__new__")),(My (.bool Nf))]⟩
noncomputable def b352:N3:=⟨(.type "getset_descriptor"),Na,(.fields #[(.str "__dict__" 634),(.ref 351),(.builtin "function.__dict__"),(.builtin "function.__dict__#set")]),#[]⟩
noncomputable def b353:N3:=⟨(.type "getset_descriptor"),Na,(.fields #[(.str "__weakref__" 636),(.ref 351),(.builtin "ExceptionGroup.__weakref__"),.none]),#[]⟩
noncomputable def b354:N3:=⟨(.type "super"),Na,(.fields #[(.ref 351),(.ref 351),(.ref 351)]),#[]⟩
def b355:N3:=Yq 351
def Lf:N3:=⟨(.type "dict"),Na,(.dict #[(E P "bounds" 642 .none)] 1),#[]⟩
def b359:N3:=tS 646 ["rowsums","columnsums","paper","bounds","settled"]
def b361:N3:=fB "net_holds" "net_holds" (bw 40)
def Le:N3:=cG "net_holds" 643 193 3 1 357 181 651
def FC:N3:=fO (FN "net_holds" "net_holds" (bw 40) .none (.ref 356) .none ra Na (.ref 362) .none)
def b366:N3:=fB "_law_bag" "_law_bag" (bw 42)
def Ld:N3:=cF "_law_bag" 656 197 1 0 364 181 659
def FA:N3:=fL "_law_bag" "_law_bag" 42 367
def b371:N3:=tS 665 ["_law_bag_here","_law_lot","_law_cells","_law_at","_law_cell"]
def b373:N3:=fB "_law_pull" "_law_pull" (bw 43)
def Lc:N3:=cG "_law_pull" 662 199 2 0 369 181 670
def Fz:N3:=fL "_law_pull" "_law_pull" 43 374
def b378:N3:=fB "_law_same" "_law_same" (bw 44)
def Lb:N3:=cF "_law_same" 673 209 2 0 376 181 676
def Fy:N3:=fL "_law_same" "_law_same" 44 379
def b383:N3:=fB "_law_grid" "_law_grid" (bw 45)
def La:N3:=cF "_law_grid" 679 221 4 0 381 181 682
def Fw:N3:=fL "_law_grid" "_law_grid" 45 384
def b388:N3:=tS 688 ["_law_bag_here","_law_way","_law_block","_law_columns"]
def b390:N3:=fB "_law_small" "_law_small" (bw 46)
def K9:N3:=cG "_law_small" 685 228 1 0 386 181 692
def Fv:N3:=fL "_law_small" "_law_small" 46 391
def b395:N3:=tS 698 ["_law_bag_here","_law_grid_here","_law_lot","_law_first"]
def b397:N3:=fB "_law_wide" "_law_wide" (bw 47)
def K8:N3:=cG "_law_wide" 695 239 1 0 393 181 702
def Fu:N3:=fL "_law_wide" "_law_wide" 47 398
def b402:N3:=tS 708 ["_law_bag_here","_law_way","_law_block","_law_columns"]
def b404:N3:=fB "_law_large" "_law_large" (bw 48)
def K7:N3:=cG "_law_large" 705 245 1 0 400 181 712
def Ft:N3:=fL "_law_large" "_law_large" 48 405
def b409:N3:=fB "_law_turned" "_law_turned" (bw 49)
def K6:N3:=cF "_law_turned" 715 256 1 0 407 181 718
def Fs:N3:=fL "_law_turned" "_law_turned" 49 410
def b414:N3:=fB "_law_rowsums" "_law_rowsums" (bw 50)
def K5:N3:=cF "_law_rowsums" 721 258 1 0 412 181 724
def Fq:N3:=fL "_law_rowsums" "_law_rowsums" 50 415
def b419:N3:=fB "_law_columnsums" "_law_columnsums" (bw 51)
def K4:N3:=cF "_law_columnsums" 727 260 1 0 417 181 730
def Fp:N3:=fL "_law_columnsums" "_law_columnsums" 51 420
def b424:N3:=fB "_law_free" "_law_free" (bw 52)
def K3:N3:=cF "_law_free" 733 262 2 0 422 181 736
def Fo:N3:=fL "_law_free" "_law_free" 52 425
def b429:N3:=tS 742 ["_law_bag_here","_law_grid_here","_law_told","_law_at","_law_row","_law_to","_law_count","_law_way"]
def b431:N3:=fB "_law_bounds" "_law_bounds" (bw 53)
def K2:N3:=cG "_law_bounds" 739 264 2 0 427 181 750
def Fn:N3:=fL "_law_bounds" "_law_bounds" 53 432
def b436:N3:=fB "_law_copied" "_law_copied" (bw 54)
def K1:N3:=cF "_law_copied" 753 276 1 0 434 181 756
def Fm:N3:=fL "_law_copied" "_law_copied" 54 437
def b441:N3:=fB "_law_fit" "_law_fit" (bw 55)
def K0:N3:=cF "_law_fit" 759 278 3 0 439 181 762
def Fl:N3:=fL "_law_fit" "_law_fit" 55 442
def b446:N3:=fB "_law_less" "_law_less" (bw 56)
def KZ:N3:=cF "_law_less" 765 287 2 0 444 181 768
def Fk:N3:=fL "_law_less" "_law_less" 56 447
def b451:N3:=tS 774 ["_law_lot","_law_found","_law_k"]
def b453:N3:=fB "_law_factorial" "_law_factorial" (bw 57)
def KY:N3:=cG "_law_factorial" 771 289 1 0 449 181 777
def Fj:N3:=fL "_law_factorial" "_law_factorial" 57 454
def b458:N3:=tS 783 ["_law_parts","_law_under","_law_part"]
def b460:N3:=fB "_law_ways" "_law_ways" (bw 58)
def KW:N3:=cG "_law_ways" 780 294 1 0 456 181 786
def Fi:N3:=fL "_law_ways" "_law_ways" 58 461
def b465:N3:=tS 792 ["_law_grid_here","_law_limits"]
def b467:N3:=fB "_law_net" "_law_net" (bw 59)
def KV:N3:=cG "_law_net" 789 299 2 0 463 181 794
def Fh:N3:=fL "_law_net" "_law_net" 59 468
def b472:N3:=fB "_law_nodes" "_law_nodes" (bw 60)
def KU:N3:=cF "_law_nodes" 797 301 3 0 470 181 800
def Fg:N3:=fL "_law_nodes" "_law_nodes" 60 473
def b477:N3:=fB "_law_counted" "_law_counted" (bw 61)
def KS:N3:=cF "_law_counted" 803 310 3 0 475 181 806
def Ff:N3:=fL "_law_counted" "_law_counted" 61 478
def b482:N3:=fB "_law_bent" "_law_bent" (bw 62)
def KR:N3:=cF "_law_bent" 809 325 3 0 480 181 812
def Fe:N3:=fL "_law_bent" "_law_bent" 62 483
def b487:N3:=tS 818 ["_law_script","_law_bag_here","_law_grid_here","_law_limits","_law_rowsums_here","_law_columnsums_here","_law_due","_law_paper","_law_bent_here","_law_handed","_law_told"]
def b489:N3:=fB "law" "law" (bw 63)
def KQ:N3:=cG "law" 815 353 1 0 485 181 829
def Fd:N3:=fL "law" "law" 63 490
def h0_3:N3:=⟨(.type "dict"),Na,(.dict (((mL P).take 9).set 0 (E P "__name__" 165 Zb)).toArray 9),#[]⟩
def MX:N3:=nO []
def h1_3:N3:=⟨(.type "dict"),Na,(.dict (((mL P).take 9).set 0 (E P "__name__" 165 Zb)).toArray 9),#[]⟩
def MQ:N3:=nT [1,0,20,5,0,27,10,0,47,14,0,67,18,0,87]
def k1_3:N3:=⟨(.type "dict"),Na,(.dict (((mL P).take 14).set 0 (E P "__name__" 165 kc)).toArray 14),#[]⟩
noncomputable def MP:N3:=⟨(.type "type"),Na,(.cls ⟨"EdgeError",[(.type "ValueError")],[(.ref 38),(.type "ValueError"),(.type "Exception"),(.type "BaseException"),(.type "object")],37,"EdgeError",Nf,[],[(.ref 59),(.ref 79),(.ref 98)],Ni,Na,Ni⟩),#[(My (.ref 22)),Na,(My (.str "EdgeError" 196)),(My (.str "EdgeError" 204)),(My (.builtin "ValueError.__new__")),(My (.bool Nf))]⟩
def MO:N3:=nT [1,0,20,5,0,27,10,0,47,14,0,67,18,0,87,23,0,106,29,0,125,38,0,145,40,0,150,51,0,157,55,0,162,65,0,169,70,0,176,78,0,181,88,0,186,90,0,191,93,0,196,95,0,201,97,0,206,99,0,211,104,0,218]
def Z_:N3:=⟨(.type "dict"),Na,(.dict (((mL P).take 35).set 0 (E P "__name__" 165 ra)).toArray 35),#[]⟩
def MN:N3:=nT [1,0,20,5,0,27,10,0,47,14,0,67,18,0,87,23,0,106,29,0,125,38,0,145,40,0,150,51,0,157,55,0,162,65,0,169,70,0,176,78,0,181,88,0,186,90,0,191,93,0,196,95,0,201,97,0,206,99,0,211,104,0,218,111,0,225,117,0,232,122,0,237,124,0,242,126,0,247,134,0,254,142,0,259,152,0,264,154,0,271,193,0,362,197,0,367,199,0,374,209,0,379,221,0,384,228,0,391]
noncomputable def Z9:N3:=⟨(.type "dict"),Na,(.dict ((mL P).take 50).toArray 50),#[]⟩
def kL:List N3:=[b0 P,b1 P,b2,b3 P,b4,b5,b6,b7,b8,b9,b10,b7,b12,b13,b14,b7,b8,b17,b7,b19,b20,b21,b22,Yu,b24 P,b7,b26,b27,b28,b7,b8,b31,b7,b33,b34,b35,b36,b37 P,b38,b39,b40,b41,Y0,Yu,b44 P,b7,b46,b47,b48,b49,b7,b8,b52,b7,b54,b55,b56,b7,b58 P,b59,b60,b61,Y0,Yu,b64 P,b7,b66,b67,b68,b69,b7,b8,b72,b7,b74,b75,b76,b7,b78 P,b79,b80,b81,Y0,Yu,b84 P,b7,b86,b87,b88,b7,b8,b91,b7,b93,b94,b95,b96,b97 P,b98,b99,b100,Y0,Yu,b103 P,b7,b105,b106,b107,b7,b8,b110,b7,b112,b113,b114,b115,b116 P,b117,b118,b119,Y0,Yu,b122 P,b7,b124,b125,b126,b127,b7,b8,b130,b7,b132,b133,b134,b7,b136 P,b137,b138,b139,LL,LK P,b7,b8,b144,LJ,F7,b7,b8,b149,LH,F6,b7,b8,b154,b7,b156,LG,F5,b7,b8,b161,LF,F4,b7,b8,b166,b7,b168,LE,FZ,b7,b8,b173,b7,b175,LD,FY,b7,b8,b180,LC,FX,b7,b8,b185,LB,FW,b7,b8,b190,LA,FV,b7,b8,b195,Lz,FU,b7,b8,b200,Ly,FT,b7,b8,b205,Lx,FS,b7,b8,b210,Lw,FR,b7,b8,b215,b7,b217,Lu,FQ,b7,b8,b222,b7,b224,Ls,FP,b7,b8,b229,b7,b231,Lr,FO,b7,b8,b236,Lq,FM,b7,b8,b241,Lp,FK,b7,b8,b246,Lo,FJ,b7,b8,b251,b7,b253,Ln,FI,b7,b8,b258,Lm,FH,b7,b8,b263,Ll,FG,b7,Yu,b268 P,b7,b270,b271,b272,Lk P,b7,b8,b276,b7,b278,Lj,FF,b7,b8,b283,b7,b285,b286,b287,b7,b8,b290,b7,b292,b293,b294,b7,b8,b297,b7,b299,b300,b301,b7,b8,b304,b7,b306,b307,b308,b7,b8,b311,b312,b313,b7,b8,b316,b7,b318,b319,b320,b7,b8,b323,b7,b325,b326,b327,b7,b8,b330,b7,b332,b333,b334,b7,b8,b337,b7,b339,b340,b341,b7,b8,b344,b7,b346,Li,FE,b349,Lh P,Lg,b352,b353,b354,b355,Lf P,b7,b8,b359,b7,b361,Le,FC,b7,b8,b366,Ld,FA,b7,b8,b371,b7,b373,Lc,Fz,b7,b8,b378,Lb,Fy,b7,b8,b383,La,Fw,b7,b8,b388,b7,b390,K9,Fv,b7,b8,b395,b7,b397,K8,Fu,b7,b8,b402,b7,b404,K7,Ft,b7,b8,b409,K6,Fs,b7,b8,b414,K5,Fq,b7,b8,b419,K4,Fp,b7,b8,b424,K3,Fo,b7,b8,b429,b7,b431,K2,Fn,b7,b8,b436,K1,Fm,b7,b8,b441,K0,Fl,b7,b8,b446,KZ,Fk,b7,b8,b451,b7,b453,KY,Fj,b7,b8,b458,b7,b460,KW,Fi,b7,b8,b465,b7,b467,KV,Fh,b7,b8,b472,KU,Fg,b7,b8,b477,KS,Ff,b7,b8,b482,KR,Fe,b7,b8,b487,b7,b489,KQ,Fd]
def Yr:OO:=⟨⟨((kL P).take 11).set 3 (h0_3 P)⟩,{}⟩
def Zp:OO:=⟨⟨(((kL P).take 15).set 3 (h1_3 P)).set 12 (MX)⟩,{}⟩
def k1H:OO:=⟨⟨((((kL P).take 101).set 3 (k1_3 P)).set 12 (MQ)).set 38 (MP)⟩,{}⟩
def k2H:OO:=⟨⟨(((kL P).take 220).set 3 (Z_ P)).set 12 (MO)⟩,{}⟩
def k3H:OO:=⟨⟨(((kL P).take 393).set 3 (Z9 P)).set 12 (MN)⟩,{}⟩
noncomputable def YS:OO:=⟨⟨kL P⟩,{}⟩
end
def KH:V9->NR:=λP=>
[(2,b2),(3,b3 P),(34,b34),(35,b35),(37,b37 P),(38,b38),(140,LL),(141,LK P),(145,LJ),(146,F7),(150,LH),(151,F6),(157,LG),(158,F5),(162,LF),(163,F4),(169,LE),(170,FZ),(176,LD),(177,FY),(181,LC),(182,FX),(186,LB),(187,FW),(191,LA),(192,FV),(196,Lz),(197,FU),(201,Ly),(202,FT),(206,Lx),(207,FS),(211,Lw),(212,FR),(218,Lu),(219,FQ),(225,Ls),(226,FP),(232,Lr),(233,FO),(237,Lq),(238,FM),(242,Lp),(243,FK),(247,Lo),(248,FJ),(254,Ln),(255,FI),(259,Lm),(260,FH),(264,Ll),(265,FG),(273,Lk P),(279,Lj),(280,FF),(347,Li),(348,FE),(350,Lh P),(351,Lg),(356,Lf P),(362,Le),(363,FC),(367,Ld),(368,FA),(374,Lc),(375,Fz),(379,Lb),(380,Fy),(384,La),(385,Fw),(391,K9),(392,Fv),(398,K8),(399,Fu),(405,K7),(406,Ft),(410,K6),(411,Fs),(415,K5),(416,Fq),(420,K4),(421,Fp),(425,K3),(426,Fo),(432,K2),(433,Fn),(437,K1),(438,Fm),(442,K0),(443,Fl),(447,KZ),(448,Fk),(454,KY),(455,Fj),(461,KW),(462,Fi),(468,KV),(469,Fh),(473,KU),(474,Fg),(478,KS),(479,Ff),(483,KR),(484,Fe),(490,KQ),(491,Fd)]
noncomputable def aH:a0r:=[2,3,34,35,37,38,140,141,145,146,150,151,157,158,162,163,169,170,176,177,181,182,186,187,191,192,196,197,201,202,206,207,211,212,218,219,225,226,232,233,237,238,242,243,247,248,254,255,259,260,264,265,273,279,280,347,348,350,351,356,362,363,367,368,374,375,379,380,384,385,391,392,398,399,405,406,410,411,415,416,420,421,425,426,432,433,437,438,442,443,447,448,454,455,461,462,468,469,473,474,478,479,483,484,490,491]
theorem eH:∀P,aH=(KH P).map (·.1):=λ_=>by kernel_rfl
noncomputable def qH:N9:={PySem.Challenge.pw_edgetally_k20_net_holds_its_paper with main:={PySem.Challenge.pw_edgetally_k20_net_holds_its_paper.main with body:=[bw 0,bw 2,bw 3,bw 4,bw 5,bw 6,bw 7,bw 9,bw 10,bw 11,bw 12,bw 14,bw 15,bw 16,bw 18,bw 19,bw 20,bw 22,bw 23,bw 24,bw 25,bw 26,bw 27,bw 28,bw 30,bw 31,bw 32,bw 33,bw 34,bw 35,bw 36,bw 37,bw 38,bw 39,bw 42,bw 43,bw 44,bw 45,bw 46,bw 47,bw 48,bw 49,bw 50,bw 51,bw 52,bw 53,bw 54,bw 55,bw 56,bw 57,bw 58,bw 59,bw 60,bw 61,bw 62,bw 63]}}
noncomputable abbrev lvH:List (Oi×PySem.W.WData):=[("FREE",PySem.W.WData.tuple [VZ 0,VZ 40])]
noncomputable abbrev loH:a0j:=["BadSums","BadBounds","BadNumber","FREE","free","Net","net_holds"]
abbrev hkH:=PySem.W.kHook KH aH eH
def xtH(s:Nq):Bool:=PySem.W.xlAt qH lvH s&&PySem.W.recOk (PySem.W.RowW.records (Qi (Qz Oc))) s
noncomputable abbrev pH:N9:=Wa (Qi (Qz Oc))
noncomputable def Q_:a0T:=PySem.W.behindTheImports pH
noncomputable def Ys:Vv:={scope:=pH.main.scope,locals:=mainNs,globals:=mainNs,cells:=[],code:=(.ref 13),frame:=(My 14)}
def cH:Code:= .body Q_ Ys
noncomputable abbrev V_:List Frame:=[PySem.W.topFrame ⟨0,0,0,0⟩]
theorem opH(w:Ol):(PySem.W.fencedOpening P6 pH w 6978).map (λs=>(s.heap,s.gens,s.drawn,s.toks))=My (Yr w.params,#[],{},181):=by kernel_rfl
theorem szH(w:Ol):((Yr w.params).isNs Qg&&(#[]:Array GenState).size==0,(Yr w.params).objs.size,(Yr w.params).nsMap Qg "__annotations__")=(Nf,11,(My (.ref 6))):=by kernel_rfl
theorem r1H(w:Ol)(D:UH):PySem.W.topGo P6 pH w 11 (My (.ref 6)) 12 ⟨Yr w.params,#[],{},181,D⟩ (XT pH)=My (⟨Zp w.params,#[],{},187,D⟩,⟨denote P6 (.body Q_ Ys),cH,⟨0,0,0,0⟩,V_⟩):=by kernel_rfl
theorem r2H(w:Ol)(D:UH):Tc P6 pH w 11 (My (.ref 6)) 1 1 ⟨Zp w.params,#[],{},187,D⟩ (PySem.W.blockOf Q_ Ys cH ⟨0,0,0,0⟩ V_)=My (.next,⟨Zp w.params,#[],{},187,D⟩,cH,⟨0,0,0,0⟩):=by kernel_rfl
theorem c1H(w:Ol)(D:UH):Tc P6 pH w 11 (My (.ref 6)) 1 995 ⟨Zp w.params,#[],{},187,D⟩ (T7 (Q_.take 6) Ys cH ⟨0,0,0,0⟩ V_)=My (.next,⟨k1H w.params,#[],{},299,D⟩,cH,⟨18,0,22,24⟩):=by kernel_rfl
theorem c2H(w:Ol)(D:UH):Tc P6 pH w 11 (My (.ref 6)) 1 972 ⟨k1H w.params,#[],{},299,D⟩ (T7 ((Q_.drop 6).take 25) Ys cH ⟨18,0,22,24⟩ V_)=My (.next,⟨k2H w.params,#[],{},468,D⟩,cH,⟨110,0,110,4⟩):=by kernel_rfl
theorem c3H(w:Ol)(D:UH):Tc P6 pH w 11 (My (.ref 6)) 1 971 ⟨k2H w.params,#[],{},468,D⟩ (T7 (((Q_.drop 6).drop 25).take 16) Ys cH ⟨110,0,110,4⟩ V_)=My (.next,⟨k3H w.params,#[],{},695,D⟩,cH,⟨228,0,238,90⟩):=by kernel_rfl
theorem c4H(w:Ol)(D:UH):Tc P6 pH w 11 (My (.ref 6)) 1 492 ⟨k3H w.params,#[],{},695,D⟩ (T7 ((((Q_.drop 6).drop 25).drop 16).take 17) Ys cH ⟨228,0,238,90⟩ V_)=My (.next,⟨YS w.params,#[],{},832,D⟩,cH,⟨353,0,370,93⟩):=by kernel_rfl
theorem e0H:((((Q_.drop 6).drop 25).drop 16).drop 17)=[]:=by kernel_rfl
theorem r9H(w:Ol)(D:UH):Yg P6 pH w 11 (My (.ref 6)) 2 ⟨YS w.params,#[],{},832,D⟩ ⟨PySem.W.doneF .next,cH,⟨353,0,370,93⟩,V_⟩=My ⟨YS w.params,#[],{},832,D⟩:=by kernel_rfl
theorem rnH(w:Ol)(D:UH):Yg P6 pH w 11 (My (.ref 6)) (12+(1+(995+(972+(971+(492+2)))))) ⟨Yr w.params,#[],{},181,D⟩ (XT pH)=My ⟨YS w.params,#[],{},832,D⟩:=PySem.W.go_top (r1H w D) (PySem.W.piece_block (r2H w D) (kN 6 (c1H w D) (kN 25 (c2H w D) (kN 16 (c3H w D) (kN 17 (c4H w D) (ET e0H (r9H w D)))))))
theorem hlH:PySem.W.LeftO pH qH loH xtH (PySem.W.Hook.obs hkH) (PySem.W.Hook.val hkH) 6978:=PySem.W.LeftO.of_pieces (H₀:=Yr) (H₁:=YS) opH szH rnH (by decide +kernel) λw=>by kernel_rfl
theorem wsH:PySem.W.OpenLaw.wellSaid Oc=Nf:=by decide +kernel
theorem okH:(PySem.W.chainsOk qH&&PySem.W.opensWell (Wa (Qi (Qz Oc)))&&(PySem.W.frees (Qi (Qz Oc))&&(PySem.W.RowW.within (Qi (Qz Oc))).isEmpty))=Nf:=by decide +kernel
abbrev adH:Ad:={Aa:=38,Ab:=35,Ac:=fD b35,Ae:=351,Af:=146,Ag:=fD F7,Ah:=151,Ai:=fD F6,Aj:=158,Ak:=fD F5,Am:=163,An:=fD F4,Ao:=170,Aq:=fD FZ,Ar:=177,As:=fD FY,At:=182,Au:=fD FX,Av:=187,Aw:=fD FW,Ax:=192,Ay:=fD FV,Az:=197,A0:=fD FU,A1:=202,A2:=fD FT,A3:=207,A4:=fD FS,A5:=212,A6:=fD FR,A7:=219,A8:=fD FQ,A9:=226,Ba:=fD FP,Bb:=233,Bc:=fD FO,Bd:=238,Be:=fD FM,Bf:=243,Bh:=fD FK,Bi:=248,Bj:=fD FJ,Bk:=255,Bl:=fD FI,Bm:=260,Bn:=fD FH,Bo:=265,Bp:=fD FG,Bq:=363,Br:=fD FC,Bs:=368,Bt:=fD FA,Bu:=375,Bv:=fD Fz,Bw:=380,Bx:=fD Fy,By:=385,Bz:=fD Fw,B0:=392,B4:=fD Fv,B5:=399,B7:=fD Fu,B8:=406,Ca:=fD Ft,Cb:=411,Cc:=fD Fs,Cd:=416,Cf:=fD Fq,Cg:=421,Ch:=fD Fp,Ci:=426,Cj:=fD Fo,Ck:=433,Cl:=fD Fn,Cn:=438,Co:=fD Fm,Cp:=443,Cq:=fD Fl,Cr:=448,Cs:=fD Fk,Ct:=455,Cu:=fD Fj,Cv:=462,Cw:=fD Fi,Cy:=469,Cz:=fD Fh,C0:=474,C2:=fD Fg,C3:=479,C4:=fD Ff,C5:=484,C6:=fD Fe,C7:=348,C8:=fD FE,C9:=280,Da:=fD FF,Db:=491,Dc:=fD Fd}
section
variable{P:V9}{h:OO}{l:a0i}
theorem fH{x q:Oi}{s:O0}{f:Nh}{a b d w h D:Nj}{e:a0S}(l:(KH P).lookup f=My (fO (FN x q s a b d w e h D)):=by kernel_rfl)(c:Ta (KH P) h q=Nf:=by kernel_rfl)(k:Tf (KH P) (.ref f)=Nf:=by kernel_rfl):io (KH P) x q s f (FN x q s a b d w e h D):=Ir l c k
theorem mO(X:(KH P).In h)(G:h.Ns Qg l){n:Oi}{v:Nj}(e:PySem.W.nsIn (KH P) Qg n=My (My v):=by kernel_rfl):l n=My v:=mg_of X G e
theorem mN(X:(KH P).In h)(G:h.Ns Qg l){n:Oi}(e:PySem.W.nsIn (KH P) Qg n=My Na:=by kernel_rfl):l n=Na:=PySem.W.mg_none_of X G e
theorem nH(X:(KH P).In h)(G:h.Ns Qg l):tx (KH P) l adH where
 Dd:=LM (aN (qi (u:=(.int 40 353)) (mO X G) mD) (aN (qi (u:=(.int 6 357)) (mO X G) mD) (aN (qi (u:=(.int 4 355)) (mO X G) mD) (aN (qi (u:=(.int 500 466)) (mO X G) mD) (aN (fH) (aN (mO X G) (aN (KK (us:=[(.ref 140)]) 2 rfl (λs us a f=>by obtain⟨d,e,rfl⟩:=Z8 f;exact PySem.W.kp_binds a λS=>by kernel_rfl) (Iz (Hd (p:=140) (q1:=(.type "tuple")) (q2:=Na) (q3:=#[(.int 0 359),(.int 40 353)]) (q4:=0) (q5:=#[]) (by kernel_rfl) rfl (by decide) (by repeat (first|exact trivial|refine⟨rfl,?_⟩))) KF)) (aN (⟨fH,mO X G,.all (L3 λ_ _=>rfl)⟩) (aN (⟨fH,mO X G,.all (p_ λ_=>rfl)⟩) (aN (⟨fH,mO X G,.all (t_ λ_ _ _=>rfl)⟩) (aN (⟨fH,mO X G,.all (p_ λ_=>rfl)⟩) (aN (⟨fH,mO X G,.all (p_ λ_=>rfl)⟩) (aN (⟨fH,mO X G,.all (t_ λ_ _ _=>rfl)⟩) (aN (⟨fH,mO X G,.all (L3 λ_ _=>rfl)⟩) (aN (⟨fH,mO X G,.all (Zs λ_ _ _ _=>rfl)⟩) (aN (⟨fH,mO X G,.all (t_ λ_ _ _=>rfl)⟩) (aN (⟨fH,mO X G,.all (Zs λ_ _ _ _=>rfl)⟩) (aN (⟨fH,mO X G,.all (t_ λ_ _ _=>rfl)⟩) (aN (⟨fH,mO X G,.all (p_ λ_=>rfl)⟩) (aN (⟨fH,mO X G,.all (t_ λ_ _ _=>rfl)⟩) (aN (⟨fH,mO X G,.all (p_ λ_=>rfl)⟩) (aN (⟨fH,mO X G,.all (t_ λ_ _ _=>rfl)⟩) (aN (⟨fH,mO X G,.all (Zs λ_ _ _ _=>rfl)⟩) (aN (⟨fH,mO X G,.all (L3 λ_ _=>rfl)⟩) (aN (⟨fH,mO X G,.all (t_ λ_ _ _=>rfl)⟩) (aN (⟨fH,mO X G,.all (t_ λ_ _ _=>rfl)⟩) (aN (⟨fH,mO X G,.all (t_ λ_ _ _=>rfl)⟩) (aN (⟨fH,mO X G,.all (p_ λ_=>rfl)⟩) (aN (fH) (aN (mO X G) (aN (GS (sv:=[.kw 0]) (.kw .nil) rfl (by decide) λs us g a b c=>by obtain⟨d,e,i,rfl⟩:=Zm b;obtain⟨j,rfl⟩:=Zn c;exact .of_eq rfl) (aN (⟨fH,mO X G,.all (p_ λ_=>rfl)⟩) (aN (⟨fH,mO X G,.all (L3 λ_ _=>rfl)⟩) (aN (⟨fH,mO X G,.all (L3 λ_ _=>rfl)⟩) (aN (⟨fH,mO X G,.all (Zs λ_ _ _ _=>rfl)⟩) (aN (⟨fH,mO X G,.all (p_ λ_=>rfl)⟩) (aN (⟨fH,mO X G,.all (p_ λ_=>rfl)⟩) (aN (⟨fH,mO X G,.all (p_ λ_=>rfl)⟩) (aN (⟨fH,mO X G,.all (p_ λ_=>rfl)⟩) (aN (⟨fH,mO X G,.all (p_ λ_=>rfl)⟩) (aN (⟨fH,mO X G,.all (p_ λ_=>rfl)⟩) (aN (⟨fH,mO X G,.all (L3 λ_ _=>rfl)⟩) (aN (⟨fH,mO X G,.all (L3 λ_ _=>rfl)⟩) (aN (⟨fH,mO X G,.all (p_ λ_=>rfl)⟩) (aN (⟨fH,mO X G,.all (t_ λ_ _ _=>rfl)⟩) (aN (⟨fH,mO X G,.all (L3 λ_ _=>rfl)⟩) (aN (⟨fH,mO X G,.all (p_ λ_=>rfl)⟩) (aN (⟨fH,mO X G,.all (p_ λ_=>rfl)⟩) (aN (⟨fH,mO X G,.all (L3 λ_ _=>rfl)⟩) (aN (⟨fH,mO X G,.all (t_ λ_ _ _=>rfl)⟩) (aN (⟨fH,mO X G,.all (t_ λ_ _ _=>rfl)⟩) (aN (⟨fH,mO X G,.all (t_ λ_ _ _=>rfl)⟩) (aN (fH) (aN (⟨by kernel_rfl,by kernel_rfl,by kernel_rfl⟩) (aN (.all (p_ λ_=>rfl)) (aN (fH) (aN (⟨by kernel_rfl,by kernel_rfl,by kernel_rfl,by kernel_rfl⟩) (aN (GS (sv:=[.kw 0]) (.kw .nil) rfl (by decide) λs us g a b c=>by obtain⟨d,e,i,rfl⟩:=Zm b;obtain⟨j,rfl⟩:=Zn c;exact .of_eq rfl) (aN (⟨by kernel_rfl,by kernel_rfl,by kernel_rfl,by kernel_rfl⟩) (aN (mO X G) (aN (show Su (KH P) _ _=_ by kernel_rfl) (aN (show Su (KH P) _ _=_ by kernel_rfl) (aN (show Su (KH P) _ _=_ by kernel_rfl) (aN (show Su (KH P) _ _=_ by kernel_rfl) (aN (fH) (aN (.all (t_ λ_ _ _=>rfl)) (aN (mO X G) (aN (⟨by kernel_rfl,by kernel_rfl,by kernel_rfl,by kernel_rfl⟩) trivial))))))))))))))))))))))))))))))))))))))))))))))))))))))))))))))))))))
 De:=mN X G
 Df:=mN X G
 Dg:=mN X G
 Dh:=mN X G
 Di:=mN X G
 Dj:=mN X G
 Dl:=mN X G
 Dm:=mN X G
 Do:=mN X G
 Dp:=mN X G
 Dq:=mN X G
 Dr:=mN X G
 Dt:=mN X G
 Du:=mN X G
 Dv:=mN X G
 Dw:=mN X G
 Dx:=mN X G
 Dy:=mN X G
theorem wlkH:PySem.W.WalkO qH loH (PySem.W.XL qH lvH) (PySem.W.Hook.says hkH) (Qi (Qz Oc)) (Option.get (PySem.W.defOf qH "law") rfl).1 [] (λf D=>Xz f D):=
 L2.walk_of (n:=63) (k:=9) (x:="_law_script") (CX:=λw=>fx _ w) (sp:=λw=>Gv (KH w.params)) rfl (by decide) rfl ⟨rfl,by decide,by decide,rfl⟩ (λw h Y=>PySem.W.kIn_of Y) (λw l i h c G b=>by
  have e:=b.symm.trans (mg_of c G (v:= .ref 491) (by kernel_rfl));cases e;exact⟨FN "law" "law" (bw 63) .none .none .none (.str "law_edgetally_k20_net_holds_its_paper" 654) Na (.ref 490) .none,λs v=> .of_eq rfl,λbase _ _=>JW (a:=adH) (fH (by kernel_rfl) (by kernel_rfl) (by kernel_rfl)) (nH c G) λE M=>EA (K:=KH w.params) (a:=adH)  E M⟩) (λ_ _ a P d _ g=>⟨a,P,rfl,g,d,λ_=>rfl⟩) λ_ _ _ _ _ h=>by obtain⟨x,C,j,_,fl⟩:=h;obtain⟨_,_,z⟩:=fl.wish;all_goals exact z
end
end Law
open PySem.W
set_option maxHeartbeats 0 in
theorem PySem.Challenge.cw_edgetally_k20_net_holds_its_paper_holds : PySem.Challenge.rw_edgetally_k20_net_holds_its_paper.Holds := by
 w_on
 refine holds_law Law.wsH λsaid=>?_;refine holds_open (q:=Law.qH) (loose:=Law.loH) (Xt:=Law.xtH) (XP:=XL Law.qH Law.lvH) (Yf:=Hook.obs Law.hkH) (Ya:=Hook.val Law.hkH) (YP:=Hook.says Law.hkH) (N:=6978) Law.hlH (Hook.of Law.hkH) (Hook.keeps Law.hkH) (λs e=>xl_of s (W7.mp e).1) XL.keeps (by rfl) (by rfl) (by rfl) (λs e=>recFacts_of (W7.mp e).2) (by rfl) said Law.okH ⟨rfl,rfl,rfl,rfl,rfl,by decide +kernel⟩ ?hw ?hc
 case hw=>w_witness2
 exact Law.wlkH
