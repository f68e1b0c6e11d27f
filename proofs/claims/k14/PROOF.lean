import PyProof.Rows.All
import Wide.All
import OpenK.AllK
import Wide.FinOn
import Lean
import PyProof.EqAt
import PyProof.EqKinds
import PyProof.TupleCall
import PyProof.NsDelKeeps
import PyProof.ListRange
import PyProof.ExcArgsOwn
import PySem.Challenge.RW_edgetally_k14_sums_at_every_door
set_option Elab.async false
set_option linter.all false
set_option genSizeOf false
set_option compiler.extract_closed false
set_option bootstrap.genMatcherCode false
set_option maxHeartbeats 8000000
set_option maxRecDepth 100000
theorem Law.wsH:PySem.W.OpenLaw.wellSaid PySem.Challenge.rw_edgetally_k14_sums_at_every_door=true:=by decide +kernel
noncomputable section
open And renaming intro->Wq
open Array renaming length_toList->Nx,getElem?_eq_some_iff->On,getElem?_toList->OF,toList_append->Qe,getElem?_eq_none->QI,forIn_toList->Rt,toList_push->RH,toList_setIfInBounds->SL,getElem?_eq_getElem->SY,getElem_toList->T4,getD->Vy,getElem?_extract->Wh,toList_extract->WC,toList_reverse->WD,getElem?_push->W1,append_assoc->Xb,size_extract->Xc,toList_inj->XW,toList_map->XX,toList_zip->XZ
open Bool renaming true->M3,false->M5,false_ne_true->Nb,false_eq_true->NF,and_eq_true->NN,not_true->P5,true_and->P6,not_eq_true'->Qa,eq_false_iff->QW,or_eq_false_iff->Q7,and_self->Ro,eq_iff_iff->Ru,false_and->SQ,not_false->SR,or_true->UV,and_eq_true_iff->W2
open Classical renaming byContradiction->Pc
open Decidable renaming byContradiction->U9
open Except renaming ok->Pi
open False renaming elim->O9
open ForIn renaming forIn->WT
open ForInStep renaming yield->RW
open Function renaming comp->Vo
open Int renaming toNat_natCast->Pn,natAbs_natCast->RA,zero_add->RM,le_refl->Sk,natCast_add->Sv,fdiv_eq_ediv_of_nonneg->S4,emod_nonneg->TZ,toNat->Ut,emod_lt_of_pos->UK,le_trans->U2
open List renaming length_map->MZ,mem_cons_of_mem->M2,mem_cons_self->M7,getElem?_eq_getElem->M9,getElem?_eq_some_iff->Nd,length_append->Ni,range->Nj,getElem?_map->Nk,append_assoc->Nm,mem_cons->Nn,map_map->No,length_cons->Np,mem_of_getElem?->Nq,map_cons->Nv,getD_eq_getElem?_getD->Nz,replicate->NB,mem_map->NE,size_toArray->NG,mem_range->NQ,length_range->NS,mem_append->NU,take_append_drop->NV,append_nil->NW,mem_singleton->NX,sum_cons->NZ,nodup_cons->N2,pairwise_append->N3,length_singleton->N5,length_set->N9,mem_append_right->Oa,length_take->Oe,map_append->Of,map_congr_left->Oh,drop_eq_getElem_cons->Ox,getElem_mem->OC,getElem?_append_right->OE,replicate_succ->OI,sum->OJ,all_eq_true->OM,nil_append->ON,getElem?_set->OO,not_mem_nil->OW,mem_of_mem_take->OX,take_of_length_le->OZ,cons_append->O4,filterMap_cons->O5,pairwise_singleton->O8,map_replicate->Pb,map_set->Pd,mem_or_eq_of_mem_set->Pf,flatMap_cons->Pj,flatten_cons->Pk,length_replicate->Pq,getElem?_replicate->Pz,length_eq_zero_iff->PD,map_flatMap->PF,getElem?_range->PM,getElem_of_mem->PN,mem_filter->PQ,range_succ->PR,getElem?_append_left->PU,perm_append_comm->PV,mem_flatMap->PY,map->P8,mem_append_left->P9,exists_cons_of_length_eq_add_one->Qb,pairwise_map->Qc,map_nil->Qj,drop_length->Qn,pairwise_cons->Qo,mem_of_mem_drop->Qv,filter_sublist->QA,length_drop->QC,contains_cons->QJ,drop_eq_nil_of_le->QK,getElem?_drop->QL,mem_replicate->QN,forIn_cons->QS,any_eq_false->QX,nodup_append->QY,forIn_nil->Q8,getElem?_append->Q9,take_length->Rg,pairwise_iff_getElem->Ri,length_pos_iff->Rj,length_nil->Rv,getElem?_take->Ry,flatMap_eq_nil_iff->RB,getElem?_cons_succ->RC,mem_singleton_self->RE,ext_getElem?->RK,getElem?_eq_none->RX,length_filter_le->RY,Perm->R3,ext_getElem->R5,filter_cons->R6,getElem_map->R7,map_drop->R9,drop_append_of_le_length->Si,lookup->Sj,find?_cons->Su,flatMap_append->Sw,length_reverse->Sx,reverse_append->Sy,zipWith->SI,getElem_range->SU,mem_filterMap->SV,set_cons_succ->SW,zip_cons_cons->SX,getElem?_eq_none_iff->Ta,reverse_cons->Tf,any_cons->Tk,lookup_cons->Tx,length_eq_one_iff->TH,drop_drop->Ub,length->Uc,length_dropLast->Ud,take_take->Ue,take_zero->Uf,getD_cons_succ->Uu,getD_cons_zero->Uv,replicate_zero->Uw,all_cons->UA,map_take->UB,foldl->UG,map_inj_right->UH,set_cons_zero->UI,zip_nil_left->UY,any_eq_true->Va,flatMap_map->Vb,zipIdx_cons->Vc,map_id->Vg,take_append_of_le_length->Vh,foldl_cons->Vq,length_zip->Vr,of_mem_zip->Vs,sum_append->Vt,take_left'->Vu,mem_of_find?_eq_some->VY,rel_of_pairwise_cons->VZ,getElem?_take_of_lt->Wa,drop_of_length_le->Ww,getElem?_set_self->Wx,mem_set->Wz,range_succ_eq_map->WA,dropLast_eq_take->WF,getElem?_toArray->WG,set_append_right->WH,getElem?_set_ne->W6,getElem_reverse->W7,flatten_append->Xi,length_zipWith->Xj,map_dropLast->X4,take_add_one->X5
open List.Pairwise renaming nil->Sh
open List.Perm renaming append_left->VS,of_eq->W5
open List.Sublist renaming refl->T0
open List.cons renaming injEq->Rf
open Max renaming max->TK
open Min renaming min->Q2
open Nat renaming le_refl->Nh,le_trans->NJ,lt_of_lt_of_le->NM,lt_of_le_of_lt->NT,ne_of_lt->Og,lt_irrefl->Oi,lt_of_le_of_ne->Oq,le_of_lt->OA,zero_le->OV,lt_of_succ_lt->Po,zero_add->Px,add_sub_cancel_left->PH,le_add_right->P3,ne_of_gt->P7,min_eq_left->Qf,pos_of_ne_zero->Qq,not_lt_zero->Qw,sub_self->Qx,le_of_not_lt->QD,lt_succ_self->QE,lt_succ_of_lt->Q4,sub_add_cancel->RF,lt_trichotomy->RN,max_eq_right->Sa,le_succ->Sn,pow_le_pow_right->So,min_le_left->Sz,add_le_add_left->SJ,mul_comm->SM,le_mul_of_pos_right->TC,succ_le_succ->TD,lt_trans->TR,mod_lt->TU,div_le_self->T3,add_le_add_right->Ui,mul_le_mul->Uj,mul_le_mul_right->Uk,gcd->Ux,le_of_eq->U3,lt_or_ge->U4,pow_succ->U5,log2_lt->Vw,strongRecOn->VB,add_le_add->V0,mul_assoc->Wl,add_comm->WJ,div_div_eq_div_mul->WK,le_min->X6,sub_le->X7
open Option renaming some->My,none->M0,map_some->Pa,bind_some->Qy,map_eq_some_iff->QH,isSome_iff_exists->VT,getD_none->XA,getD_some->XB
open Option.some renaming inj->N0,injEq->Wb
open Or renaming inl->PP,inr->QT
open Prod renaming ext->Rq,ext_iff->UZ
open Pure renaming pure->Ps
open PyProof renaming noPylong_of_log2->VC
open PyProof.Rows renaming wpS_bind->NO,wpS_pure->NP,Keyed->Oc,pendingOf->OQ,callWith_type1->O1,SortSt->O7,arrOf->Qg,seqObj->Re,envOfC->RP,wpS_modify->RT,wpS->SH,failedOf->SO,AllBare->Td,wpS_get->TN,listUpdate_at->TW,setArr->TX,callWith_builtin1->Ug,subscriptTail_builtinR->Uq,gallopOf->UM,wpS_lift->UT,assignInOrder_cons->Vj,SortKind->VG,IntsAre->Wu,subscriptTail->Xv
open PyProof.Rows.IsTup renaming new->X3
open PyProof.Rows.SortSt renaming mk'->Tz
open PySem renaming wpAny_bind->MY,wpAny_pure->M1,Addr->M6,Value->M8,Shared->Na,starEach->Nr,wpAny->Nu,sizeLine->Nw,model->NK,FuncData->NL,Program->NY,World->N6,treeTable->N7,Str->N8,wpAny_mono->Od,foldedSetIterable->Oj,Around->Om,Heap->Op,wpAny_call_entry->Ot,SetTable->Ou,Obj->Oz,Stmt->OB,wpAny_newObj_type->OH,wpAny_field->OL,compareOp->OP,eval->OS,wpAny_truthy_bool->OT,mem_of_lookup->OU,wpAny_holding->O0,wpAny_setField_rec->O3,Comprehension->Pe,wpAny_standAt->Pg,cellsFrom->Pm,wpAny_setState_of->Pt,wpAny_seqItems->Py,wpAny_rule->PL,mainGlobals->PZ,sizeLine_eq->P0,OsState->Qd,wpAny_loadPart_at->Qk,backTo->Ql,wpAny_isInstance->Qr,binaryOp->Qt,wpAny_setField->Qu,keywordEach->QB,wpAny_comprehension_free->QG,codeAny->QO,IsPair->QP,wpAny_typeNameOfWhole_itemiter->QR,codeAny_mono->Q1,wpAny_Call_Name_kw->Q3,wpAny_passesOwn->Q5,wpAny_specialOf->Q6,wpAny_attempt->Rb,rawInt->Rc,NameKind->Rk,sliceBounds->Rm,wpAny_of_eq->Rn,bootBuiltins->Rw,swapsWith->Rx,wpAny_typeNameOf_itemiter->Rz,intItems->RJ,call->RO,DictEntry->RU,Pos->RV,backToKw->Sb,firstArgMember->Sc,pyNext->Sf,standAt->Sg,Within->SB,wpAny_askSetting->SE,wpAny_call->SG,behindInMarks->SK,codeAny_call_builtin->SN,assign->S6,letOwnedTupleGo->S8,wpAny_execs_nil->S9,wpAny_isSubtype_exc->Tc,holding->Ti,IsItemIter->Tl,Model->Tp,evalEach->Tt,isInstance->Tu,isSubtype_type->Tv,wpAny_pyIter_tuple->Tw,IsZip->TF,wpAny_pyIter_list->TL,wpAny_pyIter_slot->TM,wpAny_onRaise->TY,setFlight->T8,wpAny_forIn_list->T9,Fin->Uh,assignEach->Ul,intKind->Uo,wpAny_isOneOf_itemiter->Ur,wpAny_pyIter_rangeiter->Us,cLine->Uy,builtinLookup_eq_fast->UC,isSubtype_tuple_tuple->UD,pyIter->UO,wpAny_fieldsOf->UP,wpAny_letGo->UQ,wpAny_newTuple->UR,wpAny_updateSeq_pair->US,BindsTo->UU,wpAny_setEntries_of->U8,Paired->Vi,sysModules->Vk,wpAny_tupleItemsOf->Vl,Env->Vm,callerA->VH,numAt->VJ,ofAClassStatement->VL,searchCouldBeSeen->VN,wpAny_assign_Name->VO,wpAny_dictEntries->VP,plainObj_wpAny_Assign_Attribute->VW,Params->V1,checkBuiltinCall->V4,noFill_tuple_add->V5,pickOrder->V6,Draws->V7,IsRangeIter->V9,again->We,intItems_at->Wg,codeAny_builtin->Wm,codeAny_of_tree->Wn,typeLookup_type->Wo,wpAny_dictEpoch->Wp,Keyword->Wv,Sem->WB,PyData->WL,builtinsNs->WN,call_meets->WP,compPost->WR,entryFor_alias->WS,isSubtype_stop->WU,newFunctionEnv->WV,setField->WY,wpAny_loadPart->W0,call->Xo,assignInOrder->Xp,attributeBase->Xq,evalPart_none->Xr,nums_intItems->Xs,seq_tuple_add->Xu,wpAny_getItem_list_slice->Xw,wpAny_handled->Xx,PassesOwn->XD,list_append->XJ,bindC->XO,bindL->XQ,eqIsQuiet->XR,field->XS,lastMarks->XT,noteFrame->XU,slicePick->XV,newExc->X9,seqIndex_neg->Yb,typeOf->Yc,wpAny_pyNext_range_end->Yd
open PySem.Around renaming under->UE,under_plainId->Wr
open PySem.BindsTo renaming of_defaults->Ws
open PySem.Builtin.BaseException renaming bexcPut->Xd
open PySem.Builtin.Dict renaming showsAll->Ve
open PySem.Builtin.Dict_items renaming ownsTuple->Rp,ownedTupleFields->SZ,ownedTupleIsFree->S3,pairFromOwner->Tj
open PySem.Builtin.Int renaming intBits->VQ
open PySem.Builtin.List renaming listTooLong->Ss,listExtendWith->Uz,listSameRef->UW
open PySem.Builtin.Range renaming rangeFitsLong->OK,rangeSize->UX
open PySem.Builtin.SmallTypes renaming nextOf->Pw,ownedTupleIsFree->PX,ownedTupleHandOut->SS,refuseKeywords->Te
open PySem.Builtin.Tuple renaming tupleHashOf->R8
open PySem.Calls renaming Name_function_global->Vz,callWith_builtin->Wj,Constant_str->Xe,spliced_cons->Xf,spliced_nil->Xy
open PySem.Challenge renaming rw_edgetally_k14_sums_at_every_door->N4
open PySem.Code renaming quiet_builtin->UF,isFrame->Wt
open PySem.Draws renaming list->Xg
open PySem.F renaming slot_dict_itemiterator_next->Pr,excBase_ValueError->Q0,slot_tuple_iterator_next->Rh,args_tuple_add_2->S5,entry_tuple_add->Tg,slot_tuple_add->Ts,slot_zip_next->Ua,args_dict_itemiterator_next_1->Vn,entry_dict_itemiterator_next->VA,slot_list_append->VD,type_list_append->VE,slot_dict_itemiterator_iter->VR,plainAttrs_list->VU,args_tuple_iterator_next_1->VX,entry_tuple_iterator_next->V8,slot_dict_items_iter->Xh,args_list_append_2->X0
open PySem.Heap renaming get?_push_of_some->M4,get?_push_size->NA,lt_size->NI,SameBut->N1,size_push->OD,get?_update_self->O6,get?_update_other->Qi,get?_update_ne->Qz,ExtBut->Vf,get?_none_of_le->W3,get?_push_ne->X2
open PySem.Heap.IsSliceOf renaming new->Vp
open PySem.Heap.Ns1 renaming of_empty->WE
open PySem.Heap.SameBut renaming update->OY
open PySem.IntMulOk renaming of_bits->W4
open PySem.IsTupleKey renaming typeIs->Wk
open PySem.Manifest renaming find?->Xz
open PySem.NameKind renaming free->Qs,cell->Vv
open PySem.Obj renaming data_mapFields->OR,mapSeq->Pl,isFreed_of_fields->QZ,mapFields->Tq,putSet->TV,cls_mapFields->U6
open PySem.P renaming add_list->Xl
open PySem.PyData renaming depth->Ra,eqv->Rr,eqvAll->RZ,depthAll->Vd,canLayAll0->Xk
open PySem.SeqAt renaming shaped->SC
open PySem.SetTable renaming fits->Vx,fresh->XM
open PySem.Str renaming ofString->Nl,empty->QV
open PySem.Value renaming ref->Ny,none->Ov,int->R0,type->R1,isInt_shape->UL,isInt->WM
open PySem.W renaming Frag->ND,piecesOf->Oo,segRun->Os,Looks->Qh,findIn->Qm,fnOf->RG,keepIn->Se,codeIn->SA,emptyDict->SD,exmOne->S7,hideAll_none->Th,hideAll->Um,hideAll_get->UN,instObj->U1,looks_findIn->VI,methodCall_KW->Wc,callWith_K->WO,cellsFrom_some->WQ,of_hideAll->WX,topFrame->WZ,boot_heap->W8,hasDictIn->W9,plainOver->Xa,boot_o_3->Xm,kp_binds->Xn,bind_fn->XE,findCls->XF,makesIn->XG,takesIn->XH,topStub->XI,topRun->X8
open PySem.W.Looks renaming ld->T6,here->VF
open PySem.W.OpenLaw renaming row->Qp
open PySem.W.OpenRow renaming toRowW->P4
open PySem.W.RowW renaming prog->V2
open PySem.W.WData renaming int->VV
open PySem.Within renaming cons->V3
open PySem.pickOrder renaming go->VM
open True renaming intro->XN
open PySem PySem.Spec PyProof PyProof.Rows
abbrev a1e:=List Bool
abbrev a1d:=Option M8
abbrev a1a:=M8->M8->WB M8
abbrev a0X:=Int->Int->Prop
abbrev a0V:=Oc->Nat
abbrev a0U:=Nat->Nat->Int
abbrev a0S:=List Pe
abbrev a0R:=List OB
abbrev a0P:=Nat->Bool
abbrev a0N:=List<|N8×Rk
abbrev a0M:=Int->Int->Int
abbrev a0L:=Array M8
abbrev a0K:=Option Bool
abbrev a0J:=List Oz
abbrev a0H:=Option Nat
abbrev a0D:=Nat->Int
abbrev a0C:=List<|Int×Int
abbrev a0B:=List Vm
abbrev a0z:=Option M6
abbrev a0y:=List Oc
abbrev a0w:=Array<|Int×M8
abbrev a0v:=Array a0H
abbrev a0t:=Array Oc
abbrev a0s:=Option<|M6×M6
abbrev a0q:=Option Int
abbrev a0n:=List M6
abbrev a0l:=List<|Nat×Nat
abbrev a1c:=List a0l
abbrev a0j:=List<|N8×M6
abbrev a0h:=N8->a1d
abbrev a0g:=List N8
abbrev a0f:=List M8
abbrev a0d:=M8->Na->Prop
abbrev a0c:=List<|M6×Oz
abbrev a0b:=List Int
abbrev a0p:=List<|a0b×M6
abbrev a0a:=List Nat
abbrev a0O:=List a0a
abbrev Nf:=@if_neg
abbrev Ng:=@if_pos
abbrev NC:=@decide_eq_true
abbrev NH:=@absurd
abbrev NR:=@decide_eq_true_eq
abbrev Ob:=@decide_eq_false
abbrev Ol:=@if_true
abbrev Oy:=@if_false
abbrev OG:=@congrArg
abbrev Ph:=@of_decide_eq_true
abbrev Pp:=@decide_eq_false_iff_not
abbrev QU:=@bne_self_eq_false
abbrev Rl:=@beq_iff_eq
abbrev RQ:=@or_false
abbrev T7:=@decide_false
abbrev UJ:=@decide_true
abbrev U7:=@beq_self_eq_true
abbrev Wf:=@dif_pos
abbrev WW:=@of_decide_eq_false
open PySem.W (Frag instObj methodObj hideAll hideAll_get of_hideAll hideAll_none lookIn findIn takerIn looks_clsIn emptyDict looks_findIn isFn keepIn specialIn mroIn callWith_K cellsFrom_some mg_of clsIn exmOne)
abbrev LI:=List a0b
abbrev LP:=List a0C
--CHANGE:your row's module here,as the last of these a_
namespace L2
inductive V where
 |o|c (b:Bool)|n (i:Int)|q (x:N8)|r (a:M6)|ty (n:String)
 deriving DecidableEq
abbrev a0i:=List V
abbrev a0E:=List<|N8×V
def aT:V->M8->Prop
 | .o,u=>u=Ov
 | .c b,u=>u=Value.bool b
 | .n i,u=>∃t,u=R0 i t
 | .q x,u=>∃t,u=Value.str x t
 | .r a,u=>u=Ny a
 | .ty n,u=>u=R1 n
abbrev ay:a0i->a0f->Prop:=Vi aT
theorem ay.length{xs:a0i}{us:a0f}(r:ay xs us):Uc xs=Uc us:=Paired.length r
theorem ay.get:∀{xs:a0i} {D:a0f} {i:Nat} {x:V},ay xs D->xs[i]?=My x->∃u,D[i]?=My u/\aT x u
 |_,_,_,_,.nil,e=>by simp at e
 |_,_,0,_,.cons r _,e=>by simp at e;subst e;exact⟨_,rfl,r⟩
 |_,_,i+1,x,.cons _ t,e=>by
  obtain⟨u,a,b⟩:=ay.get (i:=i) (x:=x) t (by simpa using e);exact⟨u,by simpa using a,b⟩
theorem ay.set(r:aT x u):∀{xs:a0i} {D:a0f} (i:Nat),ay xs D->ay (xs.set i x) (D.set i u)
 |_,_,_,.nil=> .nil
 |_,_,0,.cons _ t=> .cons r t
 |_,_,i+1,.cons q t=> .cons q<|ay.set r i t
theorem ay.append:∀{xs D:a0i} {E a:a0f},ay xs E->ay D a->ay (xs++D) (E++a)
 |_,_,_,_,.nil,s=>s
 |_,_,_,_,.cons r t,s=> .cons r<|ay.append t s
theorem ay.take:∀{xs:a0i} {D:a0f} (n:Nat),ay xs D->ay (xs.take n) (D.take n)
 |_,_,0,_=> .nil
 |_,_,_+1,.nil=> .nil
 |_,_,n+1,.cons r t=> .cons r<|ay.take n t
theorem ay.drop:∀{xs:a0i} {D:a0f} (n:Nat),ay xs D->ay (xs.drop n) (D.drop n)
 |_,_,0,r=>r
 |_,_,_+1,.nil=> .nil
 |_,_,n+1,.cons _ t=>ay.drop n t
def sJ:Option V->a1d->Prop
 |some v,My u=>aT v u
 |none,M0=>True
 |_,_=>False
inductive HO where
 |l (xs:a0i)
 |t (xs:a0i)
 |ins (C dx:M6) (fs:a0E)
 |u (x:M6)
 |xd (fs:a0E)
 |met (f x:M6)
 |rng (lo hi:Int)
 |frz (o:Oz) (u:HO)
 |tbl (ps:a0L)
 |ext (φ:Op->Prop)
abbrev Hp:=M6->Option HO
abbrev a0W:=Bool->Hp->Prop
noncomputable def upd(H:Hp)(a:M6)(o:HO):Hp:=λb=>if b=a then My o else H b
theorem aq:upd H a o a=My o:=by unfold upd;rw[Ng rfl]
theorem bb(h:b≠a):upd H a o b=H b:=by unfold upd;rw[Nf h]
theorem L6{H:Hp}{a b:M6}{o u:HO}(h:H a=My o)(D:H b=My u)(d:o≠u):a≠b:=by
 intro e;subst e;rw[h]at D;exact d<|N0 D
theorem bw{H:Hp}{a b:M6}{o:HO}(h:H a=My o)(h':H b=M0):a≠b:=by
 intro e;subst e;rw[h]at h';cases h'
section
variable(P:NY)(w:N6)
def cq(P:NY)(w:N6)(H:Hp)(h:Op)(a:M6):HO->Prop
 | .l xs=>Uc xs<=Nw/\∃(D:a0f) (n:Nat),ay xs D/\h.get? a=My {cls:= .type "list",data:= .seq D.toArray n}
 | .t xs=>Uc xs<=Nw/\∃D:a0f,ay xs D/\IsTup h a D.toArray
 | .ins C dx fs=>H dx=My (.u a)/\Uc fs<=1000/\dx≠a/\h.get? a=My (U1 C dx)/\
   ∃b,h.Ns1 dx b/\(∀f,sJ (fs.lookup f)<|b f)/\SB b (fs.map (·.1))
 | .u _=>∃o,h.get? a=My o
 | .xd fs=>∃b,h.Ns1 a b/\∀f,sJ (fs.lookup f)<|b f
 | .rng lo hi=>∃t u v,h.get? a=My {cls:= .type "range",data:= .fields #[.int lo t,.int hi u,.int 1 v]}
 | .frz o u=>h.get? a=My o/\cq P w H h a u
 | .tbl ps=>h.get? a=My {cls:= .none,data:= .fields ps}
 | .met f x=>h.get? a=My (methodObj (.ref f)<|.ref x)
 | .ext φ=>φ h/\(∃o,h.get? a=My o)/\∀c d:Op,φ c->(∀o,c.get? a=My o->d.get? a=My o)->φ d
def i_(H:Hp)(h:Op):Prop:=∀a o,H a=My o->cq P w H h a o
end
section
variable{P:NY}{w:N6}{H s:Hp}{h h':Op}{a:M6}{o:HO}
theorem cq.lt(x:cq P w H h a o):a<h.objs.size:=by
 cases o with
 |l xs=>obtain⟨_,_,_,_,e⟩:=x;exact NI e
 |t xs=>obtain⟨_,_,_,p⟩:=x;exact p.lt
 |ins C dx fs=>obtain⟨_,_,_,e,_⟩:=x;exact NI e
 |u y=>obtain⟨_,e⟩:=x;exact NI e
 |xd fs=>obtain⟨_,⟨_,_,_,e,_⟩,_⟩:=x;exact NI e
 |rng lo hi=>obtain⟨_,_,_,e⟩:=x;exact NI e
 |frz ob u=>obtain⟨e,_⟩:=x;exact NI e
 |tbl ps=>exact NI (show h.get? a=My _ from x)
 |met f y=>exact NI (show h.get? a=My _ from x)
 |ext φ=>obtain⟨_,⟨_,e⟩,_⟩:=x;exact NI e
theorem cq.stay(x:cq P w H h a o)(k:∀b u,(b=a\/H b=My (.u a))->h.get? b=My u->h'.get? b=My u)
  (l:∀b,H b=My (.u a)->s b=My (.u a)) (A:∀b E,H b=My (.t E)->s b=My (.t E)):cq P w s h' a o:=by
 induction o with
 |l E=>obtain⟨z,D,n,r,e⟩:=x;exact⟨z,D,n,r,k _ _ (.inl rfl) e⟩
 |t E=>obtain⟨z,D,r,g,e,c⟩:=x;exact⟨z,D,r,g,k _ _ (.inl rfl) e,c⟩
 |ins C dx fs=>
  obtain⟨d,z,S,e,i,⟨j,G,K,m,c⟩,r⟩:=x;exact⟨l _ d,z,S,k _ _ (.inl rfl) e,i,⟨j,G,K,k _ _ (.inr d) m,c⟩,r⟩
 |u y=>obtain⟨g,e⟩:=x;exact⟨g,k _ _ (.inl rfl) e⟩
 |xd fs=>obtain⟨i,⟨j,G,K,e,c⟩,r⟩:=x;exact⟨i,⟨j,G,K,k _ _ (.inl rfl) e,c⟩,r⟩
 |rng lo hi=>obtain⟨t,u,v,e⟩:=x;exact⟨t,u,v,k _ _ (.inl rfl) e⟩
 |frz g u ih=>obtain⟨e,q⟩:=x;exact⟨k _ _ (.inl rfl) e,ih q⟩
 |tbl ps=>
  have e:h.get? a=My {cls:= .none,data:= .fields ps}:=x;show h'.get? a=My {cls:= .none,data:= .fields ps};exact k a _ (.inl rfl) e
 |met f y=>
  have e:h.get? a=My (methodObj (.ref f)<|.ref y):=x;show h'.get? a=My (methodObj (.ref f)<|.ref y);exact k a _ (.inl rfl) e
 |ext φ=>obtain⟨p,⟨o,e⟩,M⟩:=x;exact⟨M _ _ p λo q=>k _ _ (.inl rfl) q,⟨o,k _ _ (.inl rfl) e⟩,M⟩
theorem i_.lt(x:i_ P w H h)(e:H a=My o):a<h.objs.size:=(x a o e).lt
theorem i_.fresh(x:i_ P w H h)(e:h.objs.size<=a):H a=M0:=by
 cases q:H a with
 |none=>rfl
 |some u=>exact NH (NM (x.lt q) e)<|Oi _
theorem i_.kept(x:i_ P w H h)(k:∀b u,h.get? b=My u->h'.get? b=My u):i_ P w H h':=λa o e=>
 (x a o e).stay (λb u _ q=>k b u q) (λ_ q=>q) λ_ _ q=>q
theorem i_.laid(x:i_ P w H h)(k:∀b u,h.get? b=My u->h'.get? b=My u)(f:h.objs.size<=a)(s:cq P w (upd H a o) h' a o):i_ P w (upd H a o) h':=λb u e=>by
 have D:=x.fresh f;by_cases d:b=a
 .subst d;rw[aq]at e;cases e;exact s
 .rw[bb d]at e
  exact(x b u e).stay (λc v _ q=>k c v q) (λc q=>by rw[bb<|bw q D];exact q) λc E q=>by rw[bb<|bw q D];exact q
def Rd(H:Hp)(a:M6)(u:HO):Prop:=H a=My u\/∃o,H a=My (.frz o u)
theorem Rd.ok{P:NY}{w:N6}{H:Hp}{h:Op}{a:M6}(r:Rd H a u)(x:i_ P w H h):cq P w H h a u:=by
 rcases r with r|⟨o,r⟩
 .exact x a u r
 .obtain⟨_,q⟩:=x a _ r
  exact q
def Y3:Option HO->Prop
 |some (.l _)=>True
 |some (.ins _ _ _)=>True
 |some (.ext _)=>True
 |_=>False
variable{x e:M6}{p:HO}
theorem i_.write(s:i_ P w H h)(mu:Y3<|H x)(l:e=x\/H e=My (.u x))(k:∀b u,b≠e->h.get? b=My u->h'.get? b=My u)(j:∃u,h'.get? e=My u)
  (o:cq P w (upd H x p) h' x p):i_ P w (upd H x p) h':=λb u q=>by
 have f:∀c y,H c=My (.u y)->c≠x:=λc y r z=>by subst z;rw[r]at mu;exact mu
 have g:∀c a,H c=My (.t a)->c≠x:=λc a r z=>by subst z;rw[r]at mu;exact mu
 by_cases i:b=x
 .subst i;rw[aq]at q;cases q;exact o
 .rw[bb i]at q
  by_cases d:b=e
  .have m:H b=My (.u x):=by
    rcases l with z|z
    .exact NH (d.trans z) i
    .rw[d];exact z
   rw[q]at m;cases m;obtain⟨v,n⟩:=j;exact⟨v,by rw[d];exact n⟩
  .refine(s b u q).stay (λc v hc r=>k c v ?_ r) (λc r=>by rw[bb<|f c b r];exact r) λc a r=>by rw[bb<|g c a r];exact r
   rcases hc with rfl|hc
   .exact d
   .rintro rfl
    rcases l with z|z
    .exact f c b hc z
    .rw[hc]at z;cases z;exact i rfl
structure Un (fs ex:a0n) (H s:Hp) (h h':Op):Prop where
 keep:∀b o,h.get? b=My o->H b=M0->b∉fs->b∉ex->h'.get? b=My o
 slot:∀b o,h.get? b=My o->H b=M0->b∈fs->b∉ex->∃sl,h'.get? b=My {o with slots:=sl}
 free:∀b o,h.get? b=My o->H b=M0->b∉ex->s b=M0
 there:∀b o,h.get? b=My o->b∉ex->∃p,h'.get? b=My p
 tups:∀b xs,H b=My (.t xs)->s b=My (.t xs)
 frzs:∀b o u,H b=My (.frz o u)->s b=My (.frz o u)
 tbls:∀b ps,H b=My (.tbl ps)->∃more,s b=My (.tbl<|ps++more)
variable{l g ex i:a0n}{H1 s:Hp}{m r:Op}
theorem Un.any(u:Un l ex H H1 h m)(q:h.get? b=My ob)(n:H b=M0)(a:b∉ex):∃d,m.get? b=My {ob with slots:=d}:=by
 by_cases c:b∈l
 .exact u.slot b ob q n c a
 .exact⟨ob.slots,u.keep b ob q n c a⟩
theorem Un.trans(a:Un l ex H H1 h m)(b:Un l ex H1 s m r):Un l ex H s h r where
 keep:=λc d q n g e=>b.keep c d (a.keep c d q n g e) (a.free c d q n e) g e
 slot:=λc d q n g e=>by
  obtain⟨k,f⟩:=a.slot c d q n g e;obtain⟨i,j⟩:=b.slot c _ f (a.free c d q n e) g e;exact⟨i,j⟩
 free:=λc d q n e=>by
  obtain⟨p,f⟩:=a.there c d q e;exact b.free c p f (a.free c d q n e) e
 there:=λc d q e=>by
  obtain⟨p,f⟩:=a.there c d q e;exact b.there c p f e
 tups:=λc o q=>b.tups c o (a.tups c o q)
 frzs:=λc d o q=>b.frzs c d o (a.frzs c d o q)
 tbls:=λc w q=>by
  obtain⟨x,f⟩:=a.tbls c w q;obtain⟨D,j⟩:=b.tbls c _ f;exact⟨x++D,by rw[j,Xb]⟩
theorem Un.kept(k:∀b u,h.get? b=My u->h'.get? b=My u):Un l ex H H h h':=
 ⟨λb c q _ _ _=>k b c q,λb c q _ _ _=>⟨c.slots,k b c q⟩,λ_ _ _ n _=>n,λb c q _=>⟨c,k b c q⟩,λ_ _ q=>q,λ_ _ _ q=>q,λ_ a q=>⟨#[],by rw[q];simp⟩⟩
theorem Un.refl:Un l ex H H h h:=Un.kept λ_ _ q=>q
theorem Un.laid(k:∀b u,h.get? b=My u->h'.get? b=My u)(c:h.objs.size<=a)(e:H a=M0):Un l ex H (upd H a o) h h' where
 keep:=λb u q _ _ _=>k b u q
 slot:=λb u q _ _ _=>⟨u.slots,k b u q⟩
 free:=λb u q n _=>by rw[bb<|Og<|NM (NI q) c];exact n
 there:=λb u q _=>⟨u,k b u q⟩
 tups:=λb g q=>by rw[bb<|bw q e];exact q
 frzs:=λb u g q=>by rw[bb<|bw q e];exact q
 tbls:=λb i q=>⟨#[],by rw[bb<|bw q e,q];simp⟩
theorem Un.write(mu:Y3<|H x)(g:e=x\/H e=My (.u x))(k:∀b u,b≠e->h.get? b=My u->h'.get? b=My u)(d:∃u,h'.get? e=My u):Un l ex H (upd H x o) h h':=by
 have i:∀b,H b=M0->b≠x:=λb n z=>by subst z;rw[n]at mu;exact mu
 have f:∀b,H b=M0->b≠e:=λb n z=>by
  subst z;rcases g with r|r
  .exact i b n r
  .rw[n]at r;cases r
 have a:∀b u,H b=My u->¬Y3 (My u)->b≠x:=λb u q m z=>by subst z;rw[q]at mu;exact m mu
 refine⟨λb u q n _ _=>k b u (f b n) q,λb u q n _ _=>⟨u.slots,k b u (f b n) q⟩,λb u q n _=>by rw[bb<|i b n];exact n,λb u q _=>?_,
  λb p q=>by rw[bb<|a b _ q λz=>z];exact q,λb u p q=>by rw[bb<|a b _ q λz=>z];exact q,λb s q=>⟨#[],by rw[bb<|a b _ q λz=>z,q];simp⟩⟩
 by_cases c:b=e
 .subst c;exact d
 .exact⟨u,k b u c q⟩
theorem Un.mono(u:Un l ex H H1 h m)(e:∀b∈l,b∈g)(a:∀b∈ex,b∈i):Un g i H H1 h m:=
 ⟨λb d q n f c=>u.keep b d q n (λz=>f<|e b z) λz=>c<|a b z,λ_ _ q n _ c=>u.any q n λz=>c<|a _ z,λb d q n c=>u.free b d q n λz=>c<|a b z,λb d q c=>u.there b d q λz=>c<|a b z,u.tups,u.frzs,u.tbls⟩
noncomputable def YH(h:Op)(H:Hp):a0n:=(Nj h.objs.size).filter λa=>(H a).isSome
noncomputable def lH(h:Op)(H:Hp):Op:=Um h<|YH h H
theorem DD(h:Op)(H:Hp):(lH h H).objs.size=h.objs.size:=PySem.W.hideAll_size _ _
theorem FU{h:Op}{H:Hp}{o:Oz}(e:h.get? b=My o)(n:H b=M0):(lH h H).get? b=My o:=
 UN _ e λa=>by
  have q:(H b).isSome=M3:=(PQ.mp a).2;rw[n]at q;simp at q
theorem Iq{h:Op}{H:Hp}{o:Oz}(e:(lH h H).get? b=My o):h.get? b=My o/\H b=M0:=by
 have c:h.get? b=My o:=WX (YH h H) e;refine⟨c,?_⟩;cases q:H b with
 |none=>rfl
 |some x=>
  have a:b∈YH h H:=PQ.mpr ⟨NQ.mpr<|NI c,by simp[q]⟩;have z:(lH h H).get? b=M0:=Th (YH h H) a;rw[z]at e;cases e
structure Mod (K:ND) (mg:a0h) (base:Op):Prop where
 kin:K.In base
 glob:base.Ns PZ mg
 blt:∃mb,base.Ns WN mb/\∀x:N8,x≠"__name__"->mb x=Rw x
 nolimit:base.NoLimit
structure Cx where
 p:NY
 w:N6
 K:ND
 mg:N8->a1d
 base:Op
 A:Om
 N:a0g
 s₀:Na
 H₀:Hp
 e:Vm
 outer:a0B
 k:a0B
 ex:a0n
 fn:N8->Bool
 calm:Bool
 pn:a0c
 xe:M8->Na->Prop
abbrev b0a(X:Cx)(a:Expr)(b:List Expr):=Nr (a::b) X.e=(M5,OS a X.e)::Nr b X.e
abbrev b0b(X:Cx)(a:RV)(b:List Expr):=(Ql a<|Nr b X.e).any (·.1)=M5
abbrev b0c(a:N8):=(a==("__debug__":N8))=M5
abbrev b0d(X:Cx)(a:N8):=X.fn a=M3\/X.e.scope.names.lookup a=My .local
noncomputable def et(l:a0B):a0n:=l.filterMap (·.frame)
end
noncomputable abbrev Cx.fs(X:Cx):a0n:=et X.outer
def Yw(a:Scope)(x:N8):Prop:=a.names.lookup x=My .local\/a.names.lookup x=My .cell\/a.names.lookup x=My .free
def si(a:Scope)(x:N8):Prop:=a.names.lookup x=My .local\/a.names.lookup x=My .cell
def Look(D:Vm)(h:Op)(m:a0h)(x:N8)(u:M8):Prop:=
 (D.kindOf x=My .local/\m x=My u)\/((D.kindOf x=My .cell\/D.kindOf x=My .free)/\∃c,D.cells.lookup x=My c/\h.IsCell c (My u))
structure Cx.Ok (X:Cx):Prop where
 mod:Mod X.K X.mg X.base
 kind:X.e.scope.kind= .function
 glob:X.e.globals=PZ
 blt:X.e.builtins=WN
 above:X.s₀.heap.objs.size<=X.e.locals
 inj:∀x y c,X.e.cells.lookup x=My c->X.e.cells.lookup y=My c->x=y
 has:∀x,(X.e.kindOf x=My .cell\/X.e.kindOf x=My .free)->∃c,X.e.cells.lookup x=My c
 cab:∀x c,X.fn x=M3->X.e.cells.lookup x=My c->X.s₀.heap.objs.size<=c
 hd:X.calm=M3->X.A.handled=M0
 frames:X.A.frames=My X.k
 stk:X.k=X.outer\/(X.k=X.e::X.outer/\X.e.frame=My X.e.locals)
 exf:∀b∈X.ex,b≠X.e.locals/\∀x c,X.e.cells.lookup x=My c->c≠b
 bs:∀b o,X.base.get? b=My o->X.s₀.heap.get? b=My o/\X.H₀ b=M0
 bsz:X.base.objs.size<=X.s₀.heap.objs.size
 noex:∀b o,X.base.get? b=My o->b∉X.ex
 exfs:∀b∈X.ex,b∉X.fs
 funs:X.s₀.heap.FunFrames X.base X.outer
 frf:∀b∈X.fs,X.H₀ b=M0
structure bx (X:Cx) (ac:a0c) (σ:List<|Option V) (H:Hp) (s:Na):Prop where
 ok:X.Ok
 os:s.os=X.s₀.os
 bare:Td s.gens
 base:Un X.fs X.ex X.H₀ H X.s₀.heap s.heap
 loc:∃m,s.heap.Ns X.e.locals m/\∀(i:Nat) (x:N8) (v:V),X.N[i]?=My x->σ[i]?=My (My v)->Yw X.e.scope x->∃u,aT v u/\Look X.e s.heap m x u
 cell:∀x c,X.e.cells.lookup x=My c->∃v,s.heap.IsCell c v
 free:H X.e.locals=M0
 freeC:∀x c,X.e.cells.lookup x=My c->H c=M0
 pin:∀p∈X.pn++ac,s.heap.get? p.1=My p.2/\H p.1=M0/\p.1≠X.e.locals/\p.1∉X.fs/\∀v,p.2.data≠ .cell v
 hok:i_ X.p X.w H s.heap
 len:Uc σ=Uc X.N
section
variable{X:Cx}{ac:a0c}{σ:List (Option V)}{H R:Hp}{s:Na}{h':Op}
theorem Cx.Ok.nofr(s:X.Ok)(e:X.base.get? b=My o):b∉X.fs:=λa=>by
 have:=(s.funs.mem a).1;rw[e]at this;cases this
theorem bx.bs(I:bx X ac σ H s):∀b o,X.base.get? b=My o->s.heap.get? b=My o/\H b=M0:=λb o e=>
 ⟨I.base.keep b o (I.ok.bs b o e).1 (I.ok.bs b o e).2 (I.ok.nofr e)<|I.ok.noex b o e,I.base.free b o (I.ok.bs b o e).1 (I.ok.bs b o e).2<|I.ok.noex b o e⟩
theorem bx.bk(I:bx X ac σ H s):∀b o,X.base.get? b=My o->s.heap.get? b=My o:=λb o e=>(I.bs b o e).1
theorem bx.mod(I:bx X ac σ H s):Mod X.K X.mg X.base:=I.ok.mod
theorem bx.kIn(I:bx X ac σ H s):X.K.In s.heap:=I.ok.mod.kin.keeps I.bk
theorem bx.fr(I:bx X ac σ H s):∃m,Fr X.base X.e.locals s.heap m:=
 let ⟨m,hn,_⟩:=I.loc
 ⟨m,hn,I.bk,NJ I.ok.bsz I.ok.above⟩
theorem bx.lt(I:bx X ac σ H s):X.e.locals<s.heap.objs.size:=let ⟨_,hn,_⟩:=I.loc;hn.lt
theorem bx.sz(I:bx X ac σ H s):X.s₀.heap.objs.size<=s.heap.objs.size:=NJ I.ok.above<|OA I.lt
theorem bx.nofs(I:bx X ac σ H s){a:M6}(h:s.heap.objs.size<=a):a∉X.fs:=λb=>by
 obtain⟨_,o,c,_⟩:=I.ok.funs.mem b;exact NH (NM (NI c)<|NJ I.sz h)<|Oi _
theorem bx.cne(I:bx X ac σ H s):∀x c,X.e.cells.lookup x=My c->c≠X.e.locals:=λx c e z=>by
 obtain⟨v,o,d,D⟩:=I.cell x c e;obtain⟨m,⟨f,E,G,a,b,_⟩,_⟩:=I.loc;rw[z,a]at d;cases d;rw[b]at D;cases D
theorem bx.funs(I:bx X ac σ H s):s.heap.FunFrames X.base X.outer:=by
 have D:∀(l:a0B),(∀b∈et l,b∈X.fs)->X.s₀.heap.FunFrames X.base l->s.heap.FunFrames X.base l:=by
  intro l
  induction l with
  |nil=>intro _ _;trivial
  |cons G r K=>
   intro E f;obtain⟨g,⟨L,o,a,M,h,R⟩,i⟩:=f;have c:L∈X.fs:=E L (by unfold et;rw[O5,a];exact M7);obtain⟨j,e⟩:=I.base.slot L o h (I.ok.frf L c) c λz=>I.ok.exfs L z c;exact⟨g,⟨L,_,a,M,e,R⟩,K (λb d=>E b<|by unfold et;rw[O5,a];exact M2 _ d) i⟩
 exact D X.outer (λ_ d=>d) I.ok.funs
theorem bx.stack(I:bx X ac σ H s):s.heap.FunFrames X.base X.k:=by
 rcases I.ok.stk with e|⟨e,a⟩
 .rw[e];exact I.funs
 .rw[e]
  obtain⟨m,D,_⟩:=I.loc;refine .cons (by rw[I.ok.kind];decide) a D ?_ I.funs;exact W3<|NJ I.ok.bsz I.ok.above
theorem bx.stkSub(I:bx X ac σ H s):∀b∈et X.k,b∈X.e.locals::X.fs:=λb a=>by
 rcases I.ok.stk with e|⟨e,c⟩
 .rw[e]at a;exact M2 _ a
 .rw[e]at a
  unfold et at a;rw[O5,c]at a;exact a
theorem bx.stkFree(I:bx X ac σ H s):∀b∈et X.k,H b=M0:=λb hb=>by
 rcases Nn.mp (I.stkSub b hb)with e|hb
 .rw[e];exact I.free
 .obtain⟨_,o,a,_⟩:=I.ok.funs.mem hb
  exact I.base.free b o a (I.ok.frf b hb) λz=>I.ok.exfs b z hb
theorem bx.step{ch:a0n}(I:bx X ac σ H s)
  (a:∀b∈ch,(b∈X.ex\/X.s₀.heap.objs.size<=b)/\b≠X.e.locals/\(∀x c,X.e.cells.lookup x=My c->c≠b)/\∀p∈X.pn++ac,p.1≠b)
  (G:∀b o,b≠X.e.locals->b∉X.fs->b∉ch->s.heap.get? b=My o->H b=M0->h'.get? b=My o)
  (K:∀b o,b≠X.e.locals->b∈X.fs->b∉ch->s.heap.get? b=My o->H b=M0->∃F,h'.get? b=My {o with slots:=F}) (E:∀b o,b∉ch->s.heap.get? b=My o->H b=M0->R b=M0)
  (S:∀b o,b∉ch->s.heap.get? b=My o->∃A,h'.get? b=My A)
  (V:∀b M,H b=My (.t M)->R b=My (.t M)) (T:∀b o u,H b=My (.frz o u)->R b=My (.frz o u)) (U:∀b Y,H b=My (.tbl Y)->∃W,R b=My (.tbl<|Y++W))
  (ns:∀m,s.heap.Ns X.e.locals m->h'.Ns X.e.locals m) (Z:i_ X.p X.w R h') (O:Td g'):
  bx X ac σ R {s with heap:=h',gens:=g',drawn:=d',toks:=t'}:=by
 have B:∀b o,X.s₀.heap.get? b=My o->b≠X.e.locals:=λb o e=>Og<|NM (NI e) I.ok.above;have h:∀b o,X.s₀.heap.get? b=My o->b∉X.ex->b∉ch:=λb o e D t=>by
  rcases(a b t).1 with z|z
  .exact D z
  .exact NH (NM (NI e) z) (Oi _)
 have f:∀x c,X.e.cells.lookup x=My c->∀v,s.heap.IsCell c v->h'.IsCell c v:=λx c e v ⟨o,y,hd⟩=>by
  have g:c∉ch:=λz=>(a c z).2.2.1 x c e rfl;by_cases L:c∈X.fs
  .obtain⟨F,q⟩:=K c o (I.cne x c e) L g y<|I.freeC x c e
   exact⟨_,q,hd⟩
  .exact⟨o,G c o (I.cne x c e) L g y<|I.freeC x c e,hd⟩
 refine⟨I.ok,I.os,O,⟨λb o e n t D=>?_,λb o e n t D=>?_,λb o e n D=>?_,λb o e D=>?_,λb M e=>V b M<|I.base.tups b M e,λb o M e=>T b o M<|I.base.frzs b o M e,λb Y e=>?_⟩,?_,λx c e=>?_,?_,λx c e=>?_,λp N=>?_,Z,I.len⟩
 .exact G b o (B b o e) t (h b o e D) (I.base.keep b o e n t D) (I.base.free b o e n D)
 .obtain⟨F,j⟩:=I.base.slot b o e n t D
  obtain⟨J,C⟩:=K b _ (B b o e) t (h b o e D) j<|I.base.free b o e n D;exact⟨J,C⟩
 .obtain⟨A,j⟩:=I.base.there b o e D
  exact E b A (h b o e D) j<|I.base.free b o e n D
 .obtain⟨A,j⟩:=I.base.there b o e D
  exact S b A (h b o e D) j
 .obtain⟨m1,j⟩:=I.base.tbls b Y e
  obtain⟨m2,C⟩:=U b _ j;exact⟨m1++m2,by rw[C,Xb]⟩
 .obtain⟨m,hn,P⟩:=I.loc
  refine⟨m,ns m hn,λi x v j C Q=>?_⟩;obtain⟨u,r,l⟩:=P i x v j C Q;refine⟨u,r,?_⟩;rcases l with l|⟨k,c,e,z⟩
  .exact .inl l
  .exact .inr ⟨k,c,e,f x c e _ z⟩
 .obtain⟨v,z⟩:=I.cell x c e
  exact⟨v,f x c e v z⟩
 .obtain⟨m,⟨o,_,_,y,_⟩,_⟩:=I.loc
  exact E _ o (λz=>(a _ z).2.1 rfl) y I.free
 .obtain⟨v,o,y,hd⟩:=I.cell x c e
  exact E c o (λz=>(a c z).2.2.1 x c e rfl) y<|I.freeC x c e
 .obtain⟨e,n,ne,nf,d⟩:=I.pin p N
  have g:p.1∉ch:=λz=>(a p.1 z).2.2.2 p N rfl;exact⟨G p.1 p.2 ne nf g e n,E p.1 p.2 g e n,ne,nf,d⟩
theorem bx.un(I:bx X ac σ H s)(u:Un X.fs [] H R s.heap h')(D:i_ X.p X.w R h'):bx X ac σ R {s with heap:=h',toks:=t'}:=by
 obtain⟨m,⟨o,G,K,g,r⟩,_⟩:=id I.loc;obtain⟨j,h⟩:=u.any g I.free (by simp);exact I.step (g':=s.gens) (d':=s.drawn) (ch:=[]) (λ_ z=>nomatch z) (λb o _ c _ e n=>u.keep b o e n c<|by simp) (λb o _ c _ e n=>u.slot b o e n c<|by simp) (λb o _ e n=>u.free b o e n<|by simp) (λb o _ e=>u.there b o e<|by simp) u.tups u.frzs u.tbls (λM E=>by
  obtain⟨k,d,f,a,i⟩:=E;rw[g]at a;cases a;exact⟨_,d,f,h,i⟩) D I.bare
theorem bx.call{ch:a0n}(I:bx X ac σ H s)(u:Un (et X.k) ch H R s.heap h')(D:i_ X.p X.w R h')(k:Td g')
  (d:∀b∈ch,(b∈X.ex\/X.s₀.heap.objs.size<=b)/\b≠X.e.locals/\(∀x c,X.e.cells.lookup x=My c->c≠b)/\∀p∈X.pn++ac,p.1≠b):
  bx X ac σ R {s with heap:=h',gens:=g',drawn:=d',toks:=t'}:=by
 obtain⟨m,⟨o,G,K,j,r⟩,_⟩:=id I.loc;obtain⟨t,g⟩:=u.any j I.free λz=>(d _ z).2.1 rfl;exact I.step (ch:=ch) d (λb o g l a e n=>u.keep b o e n (λz=>(Nn.mp<|I.stkSub b z).elim g l) a) (λb o _ _ a e n=>u.any e n a) (λb o a e n=>u.free b o e n a) (λb o a e=>u.there b o e a) u.tups u.frzs u.tbls (λM E=>by
  obtain⟨v,h,i,f,q⟩:=E;rw[j]at f;cases f;exact⟨_,h,i,g,q⟩) D k
theorem bx.turned(I:bx X ac σ H s)(k:∀b o,b≠t->s.heap.get? b=My o->h'.get? b=My o)(D:H t=M0)(f:t≠X.e.locals)
  (g:t∈X.ex\/X.s₀.heap.objs.size<=t) (h:∀x c,X.e.cells.lookup x=My c->c≠t) (i:∀p∈X.pn++ac,p.1≠t):bx X ac σ H {s with heap:=h',toks:=t'}:=by
 have d:∀b u,H b=My u->b≠t:=λb u e z=>by rw[z,D]at e;cases e
 refine I.step (g':=s.gens) (d':=s.drawn) (ch:=[t]) (λb j=>?_) (λb o _ _ a e _=>k b o (λz=>a<|by simp[z]) e) (λb o _ _ a e _=>⟨o.slots,k b o (λz=>a<|by simp[z]) e⟩) (λ_ _ _ _ n=>n)
  (λb o a e=>⟨o,k b o (λz=>a<|by simp[z]) e⟩) (λ_ _ e=>e) (λ_ _ _ e=>e) (λb G e=>⟨#[],by rw[e];simp⟩) (λm E=>?_) (λb u e=>?_) I.bare
 .have e:b=t:=by simpa using j
  subst e;exact⟨g,f,h,i⟩
 .obtain⟨o,es,ep,l,r⟩:=E
  exact⟨o,es,ep,k _ o (Ne.symm f) l,r⟩
 .refine(I.hok b u e).stay (λc v a q=>k c v ?_ q) (λ_ q=>q) λ_ _ q=>q
  rcases a with z|z
  .rw[z];exact d b u e
  .exact d c _ z
theorem bx.tok(I:bx X ac σ H s)(t:Nat):bx X ac σ H {s with toks:=t}:=I.un (h':=s.heap) (t':=t) Un.refl I.hok
theorem bx.kept(I:bx X ac σ H s)(k:∀b u,s.heap.get? b=My u->h'.get? b=My u):bx X ac σ H {s with heap:=h',toks:=t'}:=I.un (Un.kept k)<|I.hok.kept k
theorem bx.laid{a:M6}{o:HO}{t':Nat}(I:bx X ac σ H s)(k:∀b u,s.heap.get? b=My u->h'.get? b=My u)(c:s.heap.objs.size<=a)(D:cq X.p X.w (upd H a o) h' a o):
  bx X ac σ (upd H a o) {s with heap:=h',toks:=t'}:=I.un (Un.laid k c<|I.hok.fresh c)<|I.hok.laid k c D
theorem bx.write(I:bx X ac σ H s)(mu:Y3<|H x)(c:e=x\/H e=My (.u x))(k:∀b u,b≠e->s.heap.get? b=My u->h'.get? b=My u)(a:∃u,h'.get? e=My u)
  (D:cq X.p X.w (upd H x o) h' x o):bx X ac σ (upd H x o) {s with heap:=h',toks:=t'}:=I.un (Un.write mu c k a)<|I.hok.write mu c k a D
theorem bx.pins_of(I:bx X ac σ H s)(h:∀p∈pins',s.heap.get? p.1=My p.2/\H p.1=M0/\p.1≠X.e.locals/\p.1∉X.fs/\∀v,p.2.data≠ .cell v):bx X pins' σ H s:=
 ⟨I.ok,I.os,I.bare,I.base,I.loc,I.cell,I.free,I.freeC,λp a=>(NU.mp a).elim (λz=>I.pin p<|P9 _ z)<|h p,I.hok,I.len⟩
theorem vU{N:a0g}(c:N.Nodup){i j:Nat}{x:N8}(a:N[i]?=My x)(b:N[j]?=My x):i=j:=by
 obtain⟨f,d⟩:=Nd.mp a;obtain⟨g,e⟩:=Nd.mp b;exact(List.getElem_inj c).mp<|d.trans e.symm
theorem mh{M:Tp}{E:a0d}(I:bx X ac σ H s)(hN:X.N.Nodup)(L:X.N[i]?=My x)(G:si X.e.scope x)(r:aT v u)
  (h:∀S,bx X ac (σ.set i<|My v) H S->(∃a,N1 a s.heap S.heap/\(a=X.e.locals\/X.e.cells.lookup x=My a))->Q () S) (hf:b0d X x:=by first|exact .inl rfl|exact .inr rfl|assumption):Nu M A (storeName X.e x u) Q E s:=by
 obtain⟨m,V,hl⟩:=id I.loc;have O:(X.e.scope.kind== .class||(X.e.scope.kind== .module&&X.e.locals !=X.e.globals))=M5:=by rw[I.ok.kind];rfl
 have B:i<Uc σ:=by rw[I.len];exact(Nd.mp L).1
 have K:=I.cne;have f:∀{a:M6} {h':Op},(∃o,s.heap.get? a=My o/\H a=M0)->N1 a s.heap h'->i_ X.p X.w H h':=λ{a h'} ha D b ob e=>by
  obtain⟨_,_,l⟩:=ha;refine(I.hok b ob e).stay (λc W hc q=>(D.2 c ?_).trans q) (λ_ q=>q) λ_ _ q=>q;rintro rfl;rcases hc with rfl|hc
  .rw[l]at e;cases e
  .rw[l]at hc;cases hc
 rcases G with hk|hk
 .refine wpAny_storeName_local hk V (λh' Z D=>?_) O
  obtain⟨oL,_,_,aa,_⟩:=id V;refine h _ ⟨I.ok,I.os,I.bare,⟨λb o e n C G=>?_,λb o e n C G=>?_,I.base.free,λb o e G=>?_,I.base.tups,I.base.frzs,I.base.tbls⟩,⟨_,Z,λj y v' g t e3=>?_⟩,λy c e=>?_,I.free,I.freeC,λp hp=>?_,f ⟨oL,aa,I.free⟩ D,by simpa using I.len⟩ ⟨_,D,.inl rfl⟩
  .exact(D.2 b<|Og<|NM (NI e) I.ok.above).trans (I.base.keep b o e n C G)
  .obtain⟨sl,g⟩:=I.base.slot b o e n C G
   exact⟨sl,(D.2 b<|Og<|NM (NI e) I.ok.above).trans g⟩
  .obtain⟨o',g⟩:=I.base.there b o e G
   exact⟨o',(D.2 b<|Og<|NM (NI e) I.ok.above).trans g⟩
  .by_cases F:j=i
   .subst F
    rw[L]at g;cases g;rw[Wx B]at t;cases t;exact⟨u,r,.inl ⟨hk,by simp⟩⟩
   .rw[W6<|Ne.symm F]at t
    obtain⟨u',r',q⟩:=hl j y v' g t e3;refine⟨u',r',?_⟩;rcases q with⟨k,e⟩|⟨k,c,e,z⟩
    .refine .inl ⟨k,?_⟩
     have:y≠x:=λe=>F<|vU hN g<|e▸L;simp[this,e]
    .exact .inr ⟨k,c,e,z.sameBut D<|K y c e⟩
  .obtain⟨W,z⟩:=I.cell y c e
   exact⟨W,z.sameBut D<|K y c e⟩
  .obtain⟨e,n,ne,nf,d⟩:=I.pin p hp
   exact⟨(D.2 p.1 ne).trans e,n,ne,nf,d⟩
 .have J:X.fn x=M3:=by
   rcases hf with z|z
   .exact z
   .rw[z]at hk;cases hk
  obtain⟨c,hc⟩:=I.ok.has x<|.inl hk;obtain⟨W,z⟩:=I.cell x c hc;refine wpAny_storeName_cell I.ok.kind hk hc z (λh' P D=>?_);obtain⟨oc,R,T⟩:=id z;refine h {s with heap:=h'} ⟨I.ok,I.os,I.bare,⟨λb o e n C G=>?_,λb o e n C G=>?_,I.base.free,λb o e G=>?_,I.base.tups,I.base.frzs,I.base.tbls⟩,⟨m,V.sameBut D<|Ne.symm<|K x c hc,λj y v' g t e3=>?_⟩,λy Y e=>?_,I.free,I.freeC,λp hp=>?_,f ⟨oc,R,I.freeC x c hc⟩ D,by simpa using I.len⟩ ⟨c,D,.inr hc⟩
  .exact(D.2 b<|Og<|NM (NI e)<|I.ok.cab x c J hc).trans (I.base.keep b o e n C G)
  .obtain⟨sl,g⟩:=I.base.slot b o e n C G
   exact⟨sl,(D.2 b<|Og<|NM (NI e)<|I.ok.cab x c J hc).trans g⟩
  .obtain⟨o',g⟩:=I.base.there b o e G
   exact⟨o',(D.2 b<|Og<|NM (NI e)<|I.ok.cab x c J hc).trans g⟩
  .by_cases F:j=i
   .subst F
    rw[L]at g;cases g;rw[Wx B]at t;cases t;exact⟨u,r,.inr ⟨.inl hk,c,hc,P⟩⟩
   .rw[W6<|Ne.symm F]at t
    obtain⟨u',r',q⟩:=hl j y v' g t e3;refine⟨u',r',?_⟩;rcases q with q|⟨k,Y,e,z'⟩
    .exact .inl q
    .refine .inr ⟨k,Y,e,z'.sameBut D ?_⟩
     rintro rfl;exact F<|vU hN g<|I.ok.inj _ _ _ e hc▸L
  .by_cases U:Y=c
   .subst U;exact⟨_,P⟩
   .obtain⟨w2,z2⟩:=I.cell y Y e
    exact⟨w2,z2.sameBut D U⟩
  .obtain⟨e,n,ne,nf,d⟩:=I.pin p hp
   refine⟨(D.2 p.1 ?_).trans e,n,ne,nf,d⟩;intro q;rw[q,R]at e;have q':oc=p.2:=N0 e;exact d W (by rw[<-q'];exact T)
theorem jr{M:Tp}{E:a0d}(I:bx X ac σ H s)(a:X.N.Nodup)(b:X.N[i]?=My x)(G:si X.e.scope x)(r:aT v u)
  (h:∀D,bx X ac (σ.set i<|My v) H D->Q () D) (c:b0d X x:=by first|exact .inl rfl|exact .inr rfl|assumption):Nu M A (storeName X.e x u) Q E s:=
 mh I a b G r (λD d _=>h D d) c
theorem bx.call'{s':Na}{ch:a0n}(I:bx X ac σ H s)(d:s'.os=s.os)(u:Un (et X.k) ch H R s.heap s'.heap)(D:i_ X.p X.w R s'.heap)(f:Td s'.gens)
  (a:∀b∈ch,(b∈X.ex\/X.s₀.heap.objs.size<=b)/\b≠X.e.locals/\(∀x c,X.e.cells.lookup x=My c->c≠b)/\∀p∈X.pn++ac,p.1≠b):bx X ac σ R s':=by
 obtain⟨h',g',d',t',g⟩:=s';have e:g=s.os:=d;subst e;exact I.call (g':=g') (t':=t') (d':=d') u D f a
abbrev XK:=M8->a0z->Hp->Prop
abbrev St:=List<|Option V
abbrev a0r:=St->XK
abbrev a0F:=St->Hp->Prop
abbrev VK:=V->Hp->Prop
abbrev a0G:=a0i->Hp->VK->Prop
abbrev a0T:=V->a0i->Hp->VK->Prop
abbrev TE:=St->Hp->VK->Prop
abbrev TT:=St->Hp->(Bool->Hp->Prop)->Prop
abbrev TA:=St->Hp->(a0i->Hp->Prop)->Prop
structure l9 where
 nx:St->Hp->Prop
 rt:VK
 bk:St->Hp->Prop:=λ_ _=>False
 ct:St->Hp->Prop:=λ_ _=>False
abbrev TS:=l9->St->Hp->Prop
def EP(X:Cx)(ac:a0c)(σ:St)(Q:VK)(u:M8)(s:Na):Prop:=∃v R,bx X ac σ R s/\aT v u/\Q v R
def TP(X:Cx)(ac:a0c)(σ:St)(Q:a0W)(b:Bool)(s:Na):Prop:=∃R,bx X ac σ R s/\Q b R
def AP(X:Cx)(ac:a0c)(σ:St)(Q:a0i->Hp->Prop)(D:a0f)(E:Na):Prop:=∃s R,bx X ac σ R E/\ay s D/\Q s R
def SP(X:Cx)(ac:a0c)(D:l9)(f:Flow)(s:Na):Prop:=
 match f with
 | .next=>∃a R,bx X ac a R s/\D.nx a R
 | .brk=>∃a R,bx X ac a R s/\D.bk a R
 | .cont=>∃a R,bx X ac a R s/\D.ct a R
 | .ret u=>∃v a R,bx X ac a R s/\aT v u/\D.rt v R
def PE(X:Cx)(e:Expr)(t:TE):Prop:=
 ∀(ac:a0c) (s:Na) (σ:St) (H:Hp) (Q:VK),bx X ac σ H s->t σ H Q->Nu (NK X.p X.w) X.A (OS e X.e) (EP X ac σ Q) X.xe s
def PT(X:Cx)(e:Expr)(t:TT):Prop:=
 ∀(ac:a0c) (s:Na) (σ:St) (H:Hp) (Q:a0W),bx X ac σ H s->t σ H Q->Nu (NK X.p X.w) X.A (isTrue e X.e<|OS e X.e) (TP X ac σ Q) X.xe s
def PW(X:Cx)(e:Expr)(t:TT):Prop:=
 ∀(a:WB M8) (ac:a0c) (s:Na) (σ:St) (H:Hp) (Q:a0W),bx X ac σ H s->t σ H Q->Nu (NK X.p X.w) X.A (isTrue e X.e a) (TP X ac σ Q) X.xe s
theorem PW.pt{X:Cx}(h:PW X e t):PT X e t:=h _
def PA(X:Cx)(E:List Expr)(t:TA):Prop:=
 ∀(D:RV) (ac:a0c) (s:Na) (σ:St) (H:Hp) (Q:a0i->Hp->Prop),bx X ac σ H s->t σ H Q->Nu (NK X.p X.w) X.A (spliced<|Ql D<|Nr E X.e) (AP X ac σ Q) X.xe s
def PS(X:Cx)(E:OB)(t:TS):Prop:=
 ∀(ac:a0c) (s:Na) (σ:St) (H:Hp) (D:l9),bx X ac σ H s->t D σ H->Nu (NK X.p X.w) X.A (exec E X.e) (SP X ac D) X.xe s
def PSs(X:Cx)(E:a0R)(t:TS):Prop:=
 ∀(ac:a0c) (s:Na) (σ:St) (H:Hp) (D:l9),bx X ac σ H s->t D σ H->Nu (NK X.p X.w) X.A (execs E X.e) (SP X ac D) X.xe s
theorem dy{D:Type}{t:WB D}{Q b:D->Na->Prop}{M:Tp}{A:Om}{E:a0d}{s:Na}(h:Nu M A t Q E s)(c:∀a s,Q a s->b a s):Nu M A t b E s:=Od h c λ_ _ x=>x
def kZ(i:Nat):TE:=λσ H Q=>∃v,σ[i]?=My (My v)/\Q v H
def tC(v:V):TE:=λ_ H Q=>Q v H
theorem J0(g:X.N[i]?=My x)(j:Yw X.e.scope x)(D:b0c x:=by decide)(d:(x==("__classdict__":N8))=M5:=by decide):PE X (.Name x n) (kZ i):=by
 intro ac s σ H Q I h;obtain⟨v,e,h⟩:=h;obtain⟨m,E,k⟩:=I.loc;obtain⟨u,r,l⟩:=k i x v g e j;have b:EP X ac σ Q u s:=⟨v,H,I,r,h⟩;rcases l with⟨hk,G⟩|⟨hk,c,f,a⟩
 .exact wpAny_Name (wpAny_loadName_local I.ok.kind hk E G b) D
 .rcases hk with hk|hk
  .exact wpAny_Name (wpAny_loadName_cell I.ok.kind hk f a b) D
  .exact wpAny_Name (wpAny_loadName_free I.ok.kind hk f a b d) D
theorem b8{i j a}:PE X (.Constant (.int i) j a) (tC<|.n i):=λ_ _ _ H _ I h=>wpAny_Constant_int ⟨.n i,H,I.tok _,⟨_,rfl⟩,h⟩
theorem LT{b j a}:PE X (.Constant (.bool b) j a) (tC<|.c b):=λ_ _ _ H _ I h=>Constant_bool ⟨.c b,H,I,rfl,h⟩
theorem J5{j a}:PE X (.Constant .none j a) (tC .o):=λ_ _ _ H _ I h=>Constant_none ⟨.o,H,I,rfl,h⟩
theorem vO{x j a}:PE X (.Constant (.str x) j a) (tC<|.q x):=λ_ _ _ H _ I h=>Xe ⟨.q x,H,I.tok _,⟨_,rfl⟩,h⟩
def Gl(X:Cx)(x:N8):Prop:=X.e.kindOf x=My .globalImplicit
theorem h9{E:a0d}{ac:a0c}{s:Na}{σ:St}{H:Hp}(I:bx X ac σ H s)(a:Gl X x)(D:X.mg x=My u)(h:Q u s)
  (G:b0c x:=by decide):Nu (NK X.p X.w) X.A (OS (.Name x b) X.e) Q E s:=
 Vz I.ok.kind a (Calls.loadGlobal_global (by rw[I.ok.glob];exact I.mod.glob.keeps I.bk) D h) G
theorem gT{E:a0d}{ac:a0c}{s:Na}{σ:St}{H:Hp}(I:bx X ac σ H s)(a:Gl X x)(D:X.mg x=M0)(b:Rw x=My u)(h:Q u s)
  (G:x≠"__name__":=by decide) (K:b0c x:=by decide):Nu (NK X.p X.w) X.A (OS (.Name x f) X.e) Q E s:=by
 obtain⟨e,c,d⟩:=I.mod.blt;exact Vz I.ok.kind a (Calls.loadGlobal_builtin (by rw[I.ok.glob];exact I.mod.glob.keeps I.bk) D (by rw[I.ok.blt];exact c.keeps I.bk) ((d x G).trans b) h) K
theorem Ig(a:Gl X x)(s:X.mg x=My u)(r:aT v u)(D:b0c x:=by decide):PE X (.Name x b) (tC v):=
 λ_ _ _ H _ I h=>h9 I a s ⟨v,H,I,r,h⟩ D
variable{a b:Expr}{m p:TE}{j:RV}
variable{l o:TT}{k:List Expr}
def Ju(t u:TT):TT:=λσ H Q=>t σ H λc a=>if c=M3 then u σ a Q else Q M5 a
def tOr(t u:TT):TT:=λσ H Q=>t σ H λc a=>if c=M3 then Q M3 a else u σ a Q
def Zh(t:TT):TT:=λσ H Q=>t σ H λc a=>Q (!c) a
theorem HV(b:PT X a l):PW X (.BoolOp .And [a] j) l:=by
 intro d ac s σ H Q I h;refine isTrue_and<|dy (b ac s σ H Q I h) λc f e=>?_;cases c with
 |true=>exact isTrue_and_nil e
 |false=>exact e
theorem JN(b:PT X a l):PW X (.BoolOp .Or [a] j) l:=by
 intro d ac s σ H Q I h;refine isTrue_or<|dy (b ac s σ H Q I h) λc f e=>?_;cases c with
 |false=>exact isTrue_or_nil e
 |true=>exact e
theorem JO(D:PT X a l)(e:PW X (.BoolOp .And (b::k) j) o):PW X (.BoolOp .And (a::b::k) j) (Ju l o):=by
 intro f ac s σ H Q I h;refine isTrue_and<|dy (D ac s σ H _ I h) λc g ⟨m,d,p⟩=>?_;cases c with
 |true=>exact e f ac g σ m Q d p
 |false=>exact⟨m,d,p⟩
theorem LR(D:PT X a l)(e:PW X (.BoolOp .Or (b::k) j) o):PW X (.BoolOp .Or (a::b::k) j) (tOr l o):=by
 intro f ac s σ H Q I h;refine isTrue_or<|dy (D ac s σ H _ I h) λc g ⟨m,d,p⟩=>?_;cases c with
 |true=>exact⟨m,d,p⟩
 |false=>exact e f ac g σ m Q d p
theorem JQ(b:PT X a l):PT X (.UnaryOp .Not a j) (Zh l):=by
 intro ac s σ H Q I h;exact isTrue_not<|b ac s σ H (λc k=>Q (!c) k) I h
def LJ(m p:TE):TE:=λσ H Q=>m σ H λx a=>∃c,x= .c c/\if c=M3 then p σ a Q else Q (.c M5) a
def LE(m:TE):TE:=λσ H Q=>m σ H λx a=>∃c,x= .c c/\Q (.c<|!c) a
theorem J3{op}(h:PE X a t):PE X (.BoolOp op [a] j) t:=λac s σ H Q I c=>BoolOp_one<|h ac s σ H Q I c
theorem J6(D:PE X a m)(e:PE X (.BoolOp .And (b::k) j) p):PE X (.BoolOp .And (a::b::k) j) (LJ m p):=by
 intro ac s σ H Q I h;refine BoolOp_and<|dy (D ac s σ H _ I h) λv f ⟨x,o,d,E,l⟩=>?_;obtain⟨c,rfl,l⟩:=l;cases E;refine OT ?_;cases c with
 |true=>exact e ac f σ o Q d l
 |false=>exact⟨.c M5,o,d,rfl,l⟩
theorem J4(k:PE X a m):PE X (.UnaryOp .Not a j) (LE m):=by
 intro ac s σ H Q I h;refine UnaryOp_<|dy (k ac s σ H _ I h) λv e ⟨x,l,d,o,b⟩=>?_;obtain⟨c,rfl,b⟩:=b;cases o;exact not_of<|OT ⟨.c<|!c,l,d,rfl,b⟩
def tIf(t:TT)(m p:TE):TE:=λσ H Q=>t σ H λc a=>if c=M3 then m σ a Q else p σ a Q
theorem Fa(g:PT X c l)(D:PE X a m)(i:PE X b p):PE X (.IfExp c a b j) (tIf l m p):=by
 intro ac s σ H Q I h;refine wpAny_IfExp<|dy (g ac s σ H _ I h) λd e ⟨k,f,o⟩=>?_;cases d with
 |true=>exact D ac e σ k Q f o
 |false=>exact i ac e σ k Q f o
def en(K:ND)(H:Hp)(a:M6)(xs:a0i):Prop:=
 Rd H a (.l xs)\/
  ∃(o:Oz) (b:a0L) (n:Nat),K.lookup a=My o/\o.cls= .type "list"/\o.dict=M0/\o.data= .seq b n/\b.size<=Nw/\ay xs b.toList
def hU(K:ND)(H:Hp)(a:M6)(j:a0i):Prop:=
 Rd H a (.t j)\/
  ∃(o:Oz) (b:a0L) (n:Nat),K.lookup a=My o/\o.cls= .type "tuple"/\o.data= .seq b n/\b.size<=Nw/\ay j b.toList
noncomputable def absV:M8->Option V
 | .none=>My .o
 | .bool b=>My<|.c b
 | .int i _=>My<|.n i
 | .str x _=>My<|.q x
 | .ref a=>My<|.r a
 | .type n=>My<|.ty n
 |_=>M0
theorem aT.abs(r:aT x u):absV u=My x:=by
 cases x with
 |o=>cases r;rfl
 |c _=>cases r;rfl
 |n _=>obtain⟨t,rfl⟩:=r;rfl
 |q _=>obtain⟨t,rfl⟩:=r;rfl
 |r _=>cases r;rfl
 |ty _=>cases r;rfl
theorem aT.inj(r:aT x u)(q:aT y u):x=y:=N0<|r.abs.symm.trans q.abs
theorem ay.inj:∀{a b:a0i} {j:a0f},ay a j->ay b j->a=b
 |_,_,_,.nil,.nil=>rfl
 |_,_,_,.cons r t,.cons r' t'=>by rw[r.inj r',ay.inj t t']
end
section
variable{X:Cx}{ac:a0c}{σ:St}{H:Hp}{s:Na}{a:M6}{xs ys:a0i}
theorem en.of{K:ND}(h:H a=My (.l xs)):en K H a xs:= .inl<|.inl h
theorem bx.list(I:bx X ac σ H s)(h:en X.K H a xs):∃its:a0f,ay xs its/\PlainL s.heap a its.toArray/\Uc xs<=Nw:=by
 rcases h with h|⟨o,its,n,b,c,D,E,d,r⟩
 .obtain⟨z,its,n,r,e⟩:=h.ok I.hok
  exact⟨its,r,⟨_,n,e,rfl,rfl,rfl⟩,z⟩
 .refine⟨its.toList,r,⟨o,n,I.kIn a o b,c,D,by simpa using E⟩,?_⟩
  have e:=r.length;simp only[Nx]at e;lia
theorem bx.tuple(I:bx X ac σ H s)(h:hU X.K H a xs):∃D:a0f,ay xs D/\IsTup s.heap a D.toArray/\Uc xs<=Nw:=by
 rcases h with h|⟨o,D,n,b,c,E,d,r⟩
 .obtain⟨z,D,r,p⟩:=h.ok I.hok
  exact⟨D,r,p,z⟩
 .refine⟨D.toList,r,⟨o,I.kIn a o b,c,n,by simpa using E⟩,?_⟩
  have e:=r.length;simp only[Nx]at e;lia
theorem bx.list_inj(I:bx X ac σ H s)(h:en X.K H a xs)(M:en X.K H a ys):xs=ys:=by
 obtain⟨E,r,⟨o,n,e,_,_,d⟩,_⟩:=I.list h;obtain⟨D,c,⟨f,g,b,_,_,G⟩,_⟩:=I.list M;rw[e]at b;cases b;rw[d]at G
 injection G with S _
 have:E=D:=by simpa using OG Array.toList S
 subst this;exact r.inj c
theorem bx.tuple_inj(I:bx X ac σ H s)(h:hU X.K H a xs)(M:hU X.K H a ys):xs=ys:=by
 obtain⟨E,r,⟨o,e,_,n,d⟩,_⟩:=I.tuple h;obtain⟨D,c,⟨f,b,_,g,G⟩,_⟩:=I.tuple M;rw[e]at b;cases b;rw[d]at G
 injection G with S _
 have:E=D:=by simpa using OG Array.toList S
 subst this;exact r.inj c
noncomputable abbrev Cx.wish(X:Cx)(E:a0d):Cx:={X with xe:=E}
noncomputable abbrev Cx.nox(X:Cx):Cx:=X.wish λ_ _=>False
theorem Cx.Ok.wish{X:Cx}(a:X.Ok)(E:a0d):(X.wish E).Ok:=
 ⟨a.mod,a.kind,a.glob,a.blt,a.above,a.inj,a.has,a.cab,a.hd,a.frames,a.stk,a.exf,a.bs,a.bsz,a.noex,a.exfs,a.funs,a.frf⟩
theorem Cx.Ok.f5{X:Cx}{E:a0d}(a:(X.wish E).Ok):X.Ok:=
 ⟨a.mod,a.kind,a.glob,a.blt,a.above,a.inj,a.has,a.cab,a.hd,a.frames,a.stk,a.exf,a.bs,a.bsz,a.noex,a.exfs,a.funs,a.frf⟩
variable{E:a0d}
theorem bx.wish(I:bx X ac σ H s)(E:a0d):bx (X.wish E) ac σ H s:=⟨I.ok.wish E,I.os,I.bare,I.base,I.loc,I.cell,I.free,I.freeC,I.pin,I.hok,I.len⟩
theorem bx.unwish(I:bx (X.wish E) ac σ H s):bx X ac σ H s:=⟨I.ok.f5,I.os,I.bare,I.base,I.loc,I.cell,I.free,I.freeC,I.pin,I.hok,I.len⟩
theorem SP.f5{D:l9}(h:SP (X.wish E) ac D f d):SP X ac D f d:=by
 cases f with
 |next=>obtain⟨b,c,I,q⟩:=h;exact⟨b,c,I.unwish,q⟩
 |brk=>obtain⟨b,c,I,q⟩:=h;exact⟨b,c,I.unwish,q⟩
 |cont=>obtain⟨b,c,I,q⟩:=h;exact⟨b,c,I.unwish,q⟩
 |ret u=>obtain⟨v,b,c,I,r,q⟩:=h;exact⟨v,b,c,I.unwish,r,q⟩
theorem PSs.nox{a:a0R}(h:PSs X.nox a t):PSs X a t:=λac s σ H D I b=>
 Od (h ac s σ H D (I.wish _) b) (λ_ _ q=>q.f5) λ_ _ z=>O9 z
variable{U:OB}{rest:a0R}{t u:TS}{e:Expr}{a:TE}{aa:RV}
noncomputable def LF:TS:=λD σ H=>D.nx σ H
def Zf(t u:TS):TS:=λD σ H=>t {D with nx:=u D} σ H
theorem rN:PSs X [] LF:=λ_ _ σ H _ I h=>S9 ⟨σ,H,I,h⟩
theorem cR(c:PS X U t)(d:PSs X rest u):PSs X (U::rest) (Zf t u):=by
 intro ac s σ H D I h;refine wpAny_execs_cons<|dy (c ac s σ H {D with nx:=u D} I h) λf g q=>?_;cases f with
 |next=>
  obtain⟨b,i,j,q⟩:=q;exact d ac g b i D j q
 |ret v=>exact q
 |brk=>exact q
 |cont=>exact q
theorem hX(b:PS X U t):PSs X [U] t:=by
 intro ac s σ H D I h;refine wpAny_execs_cons<|dy (b ac s σ H D I h) λf c q=>?_;cases f with
 |next=>exact S9 q
 |ret v=>exact q
 |brk=>exact q
 |cont=>exact q
theorem bx.quiet{ac:a0c}{σ:St}{H:Hp}{s:Na}(I:bx X ac σ H s):interactive X.e=M5:=by simp[interactive,I.ok.kind]
def yE(a:TE):TS:=λD σ H=>a σ H λ_ e=>D.nx σ e
theorem bV(b:PE X e a)(t:Rx e M0 aa.line X.e=Ps M5:=by rfl):PS X (.Expr e aa) (yE a):=by
 intro ac s σ H D I h;exact wpAny_Expr_any (dy (b ac s σ H _ I h) λv d ⟨x,u,c,G,E⟩=>⟨σ,u,c,E⟩) I.quiet t
def EG(a:TE):TS:=λD σ H=>a σ H D.rt
theorem aA(b:PE X e a):PS X (.Return (My e) aa) (EG a):=by
 intro ac s σ H D I h;exact wpAny_Return_some<|dy (b ac s σ H _ I h) λv d ⟨x,t,c,u,E⟩=>⟨x,σ,t,c,u,E⟩
def Zi(c:TT)(t u:TS):TS:=λD σ H=>c σ H λb a=>if b=M3 then t D σ a else u D σ a
theorem GU{a b:a0R}(i:PT X c tc)(G:PSs X a t)(j:PSs X b u):PS X (.If c a b aa) (Zi tc t u):=by
 intro ac s σ H D I h;refine wpAny_If<|dy (i ac s σ H _ I h) λd f ⟨e,g,E⟩=>?_;cases d with
 |true=>exact G ac f σ e D g E
 |false=>exact j ac f σ e D g E
abbrev TG:=V->St->Hp->(St->Hp->Prop)->Prop
abbrev A_:=a0i->St->Hp->(St->Hp->Prop)->Prop
def PG(X:Cx)(b:Expr)(t:TG):Prop:=
 ∀(ac:a0c) (s:Na) (σ:St) (H:Hp) (v:V) (u:M8) (Q:a0F),bx X ac σ H s->aT v u->t v σ H Q->
  Nu (NK X.p X.w) X.A (S6 b X.e u) (λ_ a=>∃c d,bx X ac c d a/\Q c d) X.xe s
def Y2(X:Cx)(d:List Expr)(t:A_):Prop:=
 ∀(ac:a0c) (s:Na) (σ:St) (H:Hp) (a:a0i) (e:a0f) (Q:a0F),bx X ac σ H s->ay a e->t a σ H Q->
  Nu (NK X.p X.w) X.A (Xp ((Ul d X.e).map (·.2)) e) (λ_ u=>∃b c,bx X ac b c u/\Q b c) X.xe s
abbrev Gr:=V->V->V->Hp->(Hp->Prop)->Prop
def Ll(X:Cx)(t:Gr):Prop:=
 ∀(ac:a0c) (s:Na) (σ:St) (H:Hp) (o i v:V) (b c u:M8) (Q:Hp->Prop),bx X ac σ H s->aT o b->aT i c->aT v u->t o i v H Q->
  Nu (NK X.p X.w) X.A (setItem b c u) (λ_ a=>∃d,bx X ac σ d a/\Q d) X.xe s
abbrev Y0:=V->V->Hp->VK->Prop
def Y1(X:Cx)(a:Operator)(t:Y0):Prop:=
 ∀(ac:a0c) (s:Na) (σ:St) (H:Hp) (x y:V) (v u:M8) (Q:VK),bx X ac σ H s->aT x v->aT y u->t x y H Q->
  Nu (NK X.p X.w) X.A (inplaceOp a v u) (EP X ac σ Q) X.xe s
def fi(i:Nat):TG:=λv σ H Q=>Q (σ.set i<|My v) H
theorem xH(b:X.N.Nodup)(c:X.N[i]?=My x)(a:si X.e.scope x)(d:b0d X x:=by first|exact .inl rfl|exact .inr rfl|assumption):PG X (.Name x aa) (fi i):=by
 intro ac s σ H v u Q I r h;exact VO<|jr I b c a r (λe f=>⟨_,H,f,h⟩) d
noncomputable def gNil:A_:=λa σ H Q=>a=[]/\Q σ H
def zy(t:TG)(u:A_):A_:=λa σ H Q=>∃v r,a=v::r/\t v σ H λb c=>u r b c Q
theorem b6:Y2 X [] gNil:=by
 intro ac s σ H a t Q I r h;obtain⟨e,h⟩:=h;subst e;cases r;exact assignInOrder_nil ⟨σ,H,I,h⟩
theorem aK{e:Expr}{t:TG}{u:A_}(c:PG X e t)(d:Y2 X l u)
  (a:(Ul (e::l) X.e).map (·.2)=S6 e X.e::(Ul l X.e).map (·.2):=by rfl):Y2 X (e::l) (zy t u):=by
 intro ac s σ H G K Q I r h;obtain⟨v,k,f,h⟩:=h;subst f;cases r with
 |cons r g=>
  rw[a];refine Vj<|dy (c ac s σ H _ _ _ I r h) λ_ i ⟨b,D,j,E⟩=>?_;exact d ac i b D _ _ Q j g E
def FW(K:ND)(n:Nat)(t:A_):TG:=λv σ H Q=>∃a xs,v= .r a/\hU K H a xs/\Uc xs=n/\t xs σ H Q
theorem cJ{t:A_}(g:X.calm=M3)(h:Y2 X w t)
  (D:Uc (Ul w X.e)=n:=by rfl) (c:(Ul w X.e).findIdx? (·.1)=M0:=by rfl):PG X (.Tuple w k aa) (FW X.K n t):=by
 intro ac s σ H v u Q I r d;obtain⟨a,xs,i,j,l,d⟩:=d;subst i;cases r;obtain⟨E,f,m,q⟩:=I.tuple j;refine assign_Tuple_tuple (I.ok.hd g) m (by simp[D,<-l,f.length]) c λG M=>?_;have p:bx X ac σ H {s with heap:=G}:=I.kept (t':=s.toks) λb o e=>M b o (Og<|NI e) e;exact h ac _ σ H xs _ Q p (by simpa using f) d
def wq(a b:TE)(t:Gr):TG:=λv σ H Q=>a σ H λo e=>b σ e λi c=>t o i v c λd=>Q σ d
theorem db{t:Gr}(d:PE X o to)(f:PE X i z)(a:Ll X t)
  (e:∀v,S6 (.Subscript o i aa) X.e v=(do
   let b <-Ti [v] (OS o X.e)
   let c <-Ti [v,b] (OS i X.e)
   Sg aa
   Ti [v,b,c] (setItem b c v)
   release [v,b,c] []):=by intro _;rfl):PG X (.Subscript o i aa) (wq to z t):=by
 intro ac s σ H v u Q I r h;rw[e];refine MY<|O0<|dy (d ac s σ H _ I h) λb g ⟨x,D,j,E,G⟩=>?_;refine MY<|O0<|dy (f ac g σ D _ j G) λc k ⟨y,l,m,n,K⟩=>?_;refine MY<|Pg<|MY<|O0<|dy (a ac k σ l x y v b c u _ m E n r K) λ_ w ⟨p,q,M⟩=>?_;exact wpAny_release ⟨σ,p,q,M⟩
def gr(a:TE)(g:TG):TS:=λD σ H=>a σ H λx e=>g x σ e D.nx
theorem cf{t e:Expr}{a:TE}(b:PE X e a)(c:PG X t g)(u:swapsWithSole [t] e aa.line X.e=Ps M5:=by rfl)(d:swappedStores [t] e X.e=Ps M0:=by rfl)
  (f:(Ul [t] X.e).map (·.2)=[S6 t X.e]:=by rfl):PS X (.Assign [t] e aa) (gr a g):=by
 intro ac s σ H D I h;refine wpAny_Assign_stores (dy (b ac s σ H _ I h) λv i ⟨x,E,j,G,K⟩=>?_) u d;rw[f];exact dy (c ac i σ E x v _ j G K) λ_ k q=>q
theorem qx{e:Expr}{a:TE}(b:X.N.Nodup)(c:X.N[i]?=My x)(t:si X.e.scope x)(d:PE X e a)(u:Rx e (My<|.Name x pos') aa.line X.e=Ps M5:=by rfl)(f:b0d X x:=by first|exact .inl rfl|exact .inr rfl|assumption):
  PS X (.Assign [.Name x pos'] e aa) (gr a<|fi i):=by
 intro ac s σ H D I h;refine wpAny_Assign_Name (dy (d ac s σ H _ I h) λv k ⟨y,E,g,G,K⟩=>?_) u;exact jr g b c t G (λl j=>⟨_,E,j,K⟩) f
def Jm(i j:Nat)(b:TA):TS:=λD σ H=>b σ H λa e=>∃v w,a=[v,w]/\D.nx ((σ.set i<|My v).set j<|My w) e
theorem JS{a b:Expr}{kt k2 pt2}(r:X.calm=M3)(m:X.N.Nodup)(B:X.N[i]?=My x)(C:X.N[j]?=My y)(g:i≠j)
  (u:X.e.scope.names.lookup x=My .local) (E:X.e.scope.names.lookup y=My .local) (K:PA X [a,b] z)
  (F:swappedStores [.Tuple [.Name x px,.Name y py] kt pt] (.Tuple [a,b] k2 pt2) X.e=Ps (My [x,y]))
  (M:swapsWithSole [.Tuple [.Name x px,.Name y py] kt pt] (.Tuple [a,b] k2 pt2) aa.line X.e=Ps M5:=by rfl):
  PS X (.Assign [.Tuple [.Name x px,.Name y py] kt pt] (.Tuple [a,b] k2 pt2) aa) (Jm i j z):=by
 intro ac s σ H D I h;rw[exec_Assign_arm];refine MY<|Pg ?_;rw[M];refine MY<|M1 ?_;rw[Nf<|by decide];refine MY<|Tuple_<|dy (K _ ac s σ H _ I h) λS c ⟨Z,G,J,V,t⟩=>?_;obtain⟨v,w,L,t⟩:=t;subst L;obtain⟨d,f,rfl,O,k⟩:∃d f,S=[d,f]/\aT v d/\aT w f:=by
  cases V with
  |cons p q=>
   cases q with
   |cons P Q=>
    cases Q;exact⟨_,_,rfl,p,P⟩
 refine OH ?_ (by show 2<=Nw;decide);have R:bx X ac σ G {c with heap:=c.heap.push {cls:= .type "tuple",data:= .seq [d,f].toArray}}:=J.kept (t':=c.toks) λb o e=>M4 _ e;rw[F];refine MY<|M1 ?_;show Nu (NK X.p X.w) X.A (do rule "assign.swapped-stores";let items <-unpackItems (.ref c.heap.objs.size) 2 M0;Xp [λv=>bindName X.e y v,λv=>bindName X.e x v] items.reverse;Ps Flow.next) _ _ _
 refine MY<|PL<|MY<|unpackItems_tuple (items:=#[d,f]) (I.ok.hd r) (X3 c.heap _) λh' l=>?_;have T:=R.kept (h':=h') (t':=c.toks) λb o e=>l b o (Og<|NI e) e;show Nu _ _ (Xp [λv=>bindName X.e y v,λv=>bindName X.e x v] [f,d]>>=λ_=>Ps Flow.next) _ _ _;refine MY<|Vj<|wpAny_bindName<|jr T m C (.inl E) k (λW U=>?_)<|.inr E;refine Vj<|wpAny_bindName<|jr U m B (.inl u) O (λY n=>assignInOrder_nil<|M1 ?_)<|.inr u;rw[List.set_comm _ _<|Ne.symm g]at n;exact⟨_,G,n,t⟩
def Jt(i:Nat)(a:TE)(b:Y0):TS:=λD σ H=>∃x,σ[i]?=My (My x)/\a σ H λy e=>b x y e λz c=>D.nx (σ.set i<|My z) c
theorem mF{e:Expr}{a:TE}(n:X.N.Nodup)(j:X.N[i]?=My x)(t:si X.e.scope x)(o:PE X e a)(p:Y1 X op Z)(q:b0d X x:=by first|exact .inl rfl|exact .inr rfl|assumption):
  PS X (.AugAssign (.Name x pos') op e aa) (Jt i a Z):=by
 intro ac s σ H D I h;obtain⟨v,B,h⟩:=h;obtain⟨m,G,C⟩:=I.loc;have g:Yw X.e.scope x:=by rcases t with k|k;exact .inl k;exact .inr (.inl k)
 obtain⟨u,r,l⟩:=C i x v j B g;refine wpAny_AugAssign_Name ?_;have E:Nu (NK X.p X.w) X.A (OS e X.e) (λw d=>Nu (NK X.p X.w) X.A (inplaceOp op u w) (λr f=>Nu (NK X.p X.w) X.A (storeName X.e x r) (λ_=>SP X ac D .next) X.xe f) X.xe d) X.xe s:=by
  refine dy (o ac s σ H _ I h) λw F ⟨y,K,J,M,S⟩=>?_;refine dy (p ac F σ K v y u w _ J r M S) λz T ⟨U,L,O,P,V⟩=>?_;exact jr O n j t P (λW Q=>⟨_,L,Q,V⟩) q
 rcases l with⟨hk,Y⟩|⟨hk,c,R,b⟩
 .exact wpAny_loadName_local I.ok.kind hk G Y E
 .rcases hk with hk|hk
  .exact wpAny_loadName_cell I.ok.kind hk R b E
  .rcases t with k|k
   .have:X.e.scope.names.lookup x=My .free:=hk
    rw[k]at this;cases this
   .have:X.e.scope.names.lookup x=My .free:=hk
    rw[k]at this;cases this
def ipI(f:a0M):Y0:=λx y H Q=>∃i j,x= .n i/\y= .n j/\Q (.n<|f i j) H
theorem CY:Y1 X .Add (ipI λi j=>i+j):=by
 intro ac s σ H x y v u Q I a b h;obtain⟨i,j,c,d,q⟩:=h;subst c;subst d;obtain⟨t,rfl⟩:=a;obtain⟨e,rfl⟩:=b;exact iadd_int ⟨.n _,H,I.tok _,⟨_,rfl⟩,q⟩
def Jl(c:TT)(g:TS):TS:=λD σ H=>∃W:Nat->St->Hp->Prop,(∃m,W m σ H)/\∀m σ H,W m σ H->
 c σ H λb a=>if b=M3 then ∃N:St->Hp->Prop,(∀d f,N d f->∃e,e<m/\W e d f)/\g {D with nx:=N,ct:=N,bk:=D.nx} σ a else D.nx σ a
theorem EY(p:XD (NK X.p X.w) X.A X.e X.xe)(C:PT X c tc)(F:PSs X body x):PS X (.While c body [] aa) (Jl tc x):=by
 intro ac s σ H D I h;obtain⟨W,⟨J,L⟩,i⟩:=h;refine wpAny_While<|codeAny_whileLoop (λn G=>∃j q,bx X ac j q G/\W n j q) ?_ J ⟨σ,H,I,L⟩;rintro n O ⟨g,E,P,Q⟩;refine Q5 p<|dy (C ac O g E _ P<|i n g E Q) λb R ⟨r,y,a⟩=>?_;cases b with
 |true=>
  obtain⟨N,B,a⟩:=a;rw[Ng rfl];refine Q5 p<|dy (F ac R g r _ y a) λf T e=>?_;cases f with
  |next=>
   obtain⟨d,k,l,m⟩:=e;obtain⟨t,u,o⟩:=B d k m;exact⟨t,u,d,k,l,o⟩
  |cont=>
   obtain⟨d,k,l,m⟩:=e;obtain⟨t,u,o⟩:=B d k m;exact⟨t,u,d,k,l,o⟩
  |brk=>exact e
  |ret v=>exact e
 |false=>
  rw[Nf Nb];exact S9 ⟨g,r,y,a⟩
structure It where
 go:Nat->Hp->Prop
 yld:Nat->Hp->V->Hp->Prop
 stop:Nat->Hp->Prop
def fZ(X:Cx)(ac:a0c)(H:Hp)(b:M6):Prop:=
 H b=M0/\b≠X.e.locals/\b∉X.fs/\(b∈X.ex\/X.s₀.heap.objs.size<=b)/\(∀x c,X.e.cells.lookup x=My c->c≠b)/\∀p∈X.pn++ac,p.1≠b
theorem bx.fpOk{X:Cx}{ac:a0c}{σ:St}{H f:Hp}{s:Na}{b:M6}(I:bx X ac σ H s)(d:s.heap.objs.size<=b)(a:f b=M0):fZ X ac f b:=by
 refine⟨a,P7<|NM I.lt d,I.nofs d,.inr<|NJ I.sz d,λx c e z=>?_,λp g z=>?_⟩
 .obtain⟨v,q⟩:=I.cell x c e
  exact NH (NM q.lt<|by rw[z];exact d)<|Oi _
 .exact NH (NM (NI (I.pin p g).1)<|by rw[z];exact d) (Oi _)
structure ni (P:NY) (w:N6) (K:ND) (tg:Expr) (J:It) (fp:a0n) (it:M6) (tn:Nat->Op->Prop):Prop where
 mem:it∈fp
 obj:∀i h,tn i h->∀b∈fp,∃o,h.get? b=My o/\∀v,o.data≠ .cell v
 keep:∀i h h',tn i h->(∀b∈fp,∀o,h.get? b=My o->h'.get? b=My o)->tn i h'
 item:∀(X:Cx),X.p=P->X.w=w->X.K=K->X.calm=M3->∀(i:Nat) (ac:a0c) (s:Na) (σ:St) (H:Hp) (E:a0d),bx X ac σ H s->(∀b∈fp,fZ X ac H b)->tn i s.heap->J.go i H->
  Nu (NK P w) X.A (Sf<|.ref it) (λr s1=>∃u,r=My u/\
   Nu (NK P w) X.A (S8 tg (.ref it) u) (λ_ s2=>∃x H',bx X ac σ H' s2/\aT x u/\J.yld i H x H'/\tn (i+1) s2.heap/\∀b∈fp,H' b=M0) E s1) E s
 done:∀(X:Cx),X.p=P->X.w=w->X.K=K->X.calm=M3->∀(i:Nat) (ac:a0c) (s:Na) (σ:St) (H:Hp) (E:a0d),bx X ac σ H s->(∀b∈fp,fZ X ac H b)->tn i s.heap->J.stop i H->
  Nu (NK P w) X.A (Sf<|.ref it) (λr s1=>r=M0/\bx X ac σ H s1) E s
 self:∀(A:Om) (i:Nat) (s:Na) (Q:a0d) (E:a0d),tn i s.heap->Q (.ref it) s->Nu (NK P w) A (UO<|.ref it) Q E s
abbrev TI:=St->Hp->(It->Hp->Prop)->Prop
def PIE(X:Cx)(ac:a0c)(σ:St)(e:Expr)(R:It->Hp->Prop)(c:M8)(f:Na):Prop:=
 ∃(a:M6) (g:a0n) (h:Nat->Op->Prop) (J:It) (d:Hp),c= .ref a/\bx X ac σ d f/\ni X.p X.w X.K e J g a h/\h 0 f.heap/\(∀b∈g,fZ X ac d b)/\R J d
def PI(X:Cx)(a b:Expr)(c:TI):Prop:=
 ∀(ac:a0c) (s:Na) (σ:St) (H:Hp) (R:It->Hp->Prop),bx X ac σ H s->c σ H R->
  Nu (NK X.p X.w) X.A (OS b X.e) (λv d=>Nu (NK X.p X.w) X.A (UO v) (PIE X ac σ a R) X.xe d) X.xe s
theorem uQ{M:Tp}{E:a0d}{s:Na}{u:M8}{o:Oz}(c:s.heap.get? f=My o)(d:o.cls= .type n)(a:o.data= .fields g)
  (e:["enumerate","zip","dict_itemiterator","dict_reverseitemiterator","odict_iterator","itertools.zip_longest","itertools.pairwise"].contains n=M5) (b:Q () s):Nu M A (S8 i (.ref f) u) Q E s:=by
 unfold S8;cases i<;>first
  |exact M1 b
  |(cases u<;>first
   |exact M1 b
   |(refine MY (wpAny_load c ?_)
     rw[d,a];show Nu M A (if(["enumerate","zip","dict_itemiterator","dict_reverseitemiterator","odict_iterator","itertools.zip_longest","itertools.pairwise"].contains n&&g[0]?==My (Rc _))=M3 then _ else _) Q E s;rw[Nf<|by intro h;rw[e,SQ]at h;cases h];exact M1 b))
noncomputable def Yz(K:ND)(a:M6):It:=
 ⟨λi H=>∃xs x,en K H a xs/\xs[i]?=My x,λi H x b=>b=H/\∀xs,en K H a xs->xs[i]?=My x,λi H=>∃xs,en K H a xs/\Uc xs<=i⟩
noncomputable def Itt(K:ND)(a:M6):It:=
 ⟨λi H=>∃xs x,hU K H a xs/\xs[i]?=My x,λi H x b=>b=H/\∀xs,hU K H a xs->xs[i]?=My x,λi H=>∃xs,hU K H a xs/\Uc xs<=i⟩
noncomputable def Yy(a:Int)(n:Nat):It:=⟨λi _=>i<n,λi H x b=>b=H/\x= .n (a+i),λi _=>n<=i⟩
theorem sQ{K:ND}(a t:M6):ni P w K W (Yz K a) [t] t (λi h=>h.IsListIter t a i) where
 mem:=by simp
 obj:=λi h U b f=>by
  have e:b=t:=by simpa using f
  subst e;obtain⟨o,e,c,d⟩:=U;exact⟨o,e,λv z=>by rw[d]at z;cases z⟩
 keep:=λi h D U k=>U.at λo e=>k t (by simp) o e
 item:=by
  intro X m n q J i ac s σ H E I j U r;subst m n q;obtain⟨xs,x,l,G⟩:=r;obtain⟨M,y,p,L⟩:=I.list l;obtain⟨u,N,O⟩:=y.get G;obtain⟨A,f1,f2,B,C,F⟩:=j t (by simp);refine wpAny_pyNext_list_item U p.isList (x:=u) (by simpa using N) λD g S=>?_;have Q:bx X ac σ H {s with heap:=D}:=I.turned (t':=s.toks) (λb o f e=>(S.2 b f).trans e) A f1 B C F;obtain⟨o,e,c,d⟩:=id g;exact⟨u,rfl,uQ (s:={s with heap:=D}) e c d (by decide) ⟨x,H,Q,O,⟨rfl,λys V=>by rw[I.list_inj V l];exact G⟩,g,λb f=>(j b f).1⟩⟩
 done:=by
  intro X m n q J i ac s σ H E I j U r;subst m n q;obtain⟨xs,l,G⟩:=r;obtain⟨M,y,p,L⟩:=I.list l;obtain⟨A,f1,f2,B,C,F⟩:=j t (by simp);have T:=y.length;exact wpAny_pyNext_list_end (I.ok.hd J) U p.isList (by simp;lia) λD R=>⟨rfl,I.turned (t':=s.toks) (λb o f e=>R b o f e) A f1 B C F⟩
 self:=λ_ _ _ _ _ U h=>wpAny_pyIter_listiter U h
theorem yA{K:ND}(a t:M6):ni P w K W (Itt K a) [t] t (λi h=>h.IsTupleIter t a i) where
 mem:=by simp
 obj:=λi h U b f=>by
  have e:b=t:=by simpa using f
  subst e;obtain⟨o,e,c,d⟩:=U;exact⟨o,e,λv z=>by rw[d]at z;cases z⟩
 keep:=λi h G U k=>U.at λo e=>k t (by simp) o e
 item:=by
  intro X m n q J i ac s σ H E I j U r;subst m n q;obtain⟨xs,x,l,M⟩:=r;obtain⟨D,y,p,L⟩:=I.tuple l;obtain⟨u,N,O⟩:=y.get M;obtain⟨A,f1,f2,B,C,F⟩:=j t (by simp);refine wpAny_pyNext_tuple_item U (show s.heap.IsTuple a D.toArray from p) (x:=u) (by simpa using N) λG g S=>?_;have Q:bx X ac σ H {s with heap:=G}:=I.turned (t':=s.toks) (λb o f e=>(S.2 b f).trans e) A f1 B C F;obtain⟨o,e,c,d⟩:=id g;exact⟨u,rfl,uQ (s:={s with heap:=G}) e c d (by decide) ⟨x,H,Q,O,⟨rfl,λys V=>by rw[I.tuple_inj V l];exact M⟩,g,λb f=>(j b f).1⟩⟩
 done:=by
  intro X m n q J i ac s σ H E I j U r;subst m n q;obtain⟨xs,l,M⟩:=r;obtain⟨D,y,p,L⟩:=I.tuple l;obtain⟨A,f1,f2,B,C,F⟩:=j t (by simp);have T:=y.length;exact wpAny_pyNext_tuple_end (I.ok.hd J) U (show s.heap.IsTuple a D.toArray from p) (by simp;lia) λG R=>⟨rfl,I.turned (t':=s.toks) (λb o f e=>R b o f e) A f1 B C F⟩
 self:=λ_ _ _ _ _ U h=>wpAny_pyIter_tupleiter U h
theorem yB{K:ND}(a:M6)(u:Int)(n:Nat):ni P w K x (Yy u n) [a] a (λi h=>V9 h a (u+(i:Nat)*1) ((n:Int)-(i:Nat)) 1) where
 mem:=by simp
 obj:=λi h U b c=>by
  have e:b=a:=by simpa using c
  subst e;exact⟨_,U,λv z=>by
   have C:Data.fields _=Data.cell v:=z;cases C⟩
 keep:=λi h D U k=>k a (by simp) _ U
 item:=by
  intro X g j l m i ac s σ H E I f U p;subst g j l;obtain⟨q,f1,f2,r,y,A⟩:=f a (by simp);have W:=Walks.range (prog:=X.p) (w:=X.w) (I.ok.hd m) a u 1 n;refine W.item i s _ _ p U λv D B F d J=>?_;obtain⟨t,rfl⟩:=F;have L:bx X ac σ H {s with heap:=D,toks:=B}:=I.turned (λb o c e=>J b o (by simpa using c) e) q f1 r y A;refine⟨_,rfl,uQ (s:={s with heap:=D,toks:=B}) (n:="range_iterator") d rfl rfl (by decide) ⟨.n<|u+i,H,L,⟨t,?_⟩,⟨rfl,rfl⟩,d,λb c=>(f b c).1⟩⟩;rw[Int.mul_one]
 done:=by
  intro X g j l m i ac s σ H E I f U p;subst g j l;obtain⟨q,f1,f2,r,y,A⟩:=f a (by simp);exact Yd (I.ok.hd m) U (by have:n<=i:=p;lia) λD N=>⟨rfl,I.turned (t':=s.toks) (λb o c e=>N b o c e) q f1 r y A⟩
 self:=λ_ _ _ _ _ U h=>Us U h
variable{z:Expr}
def ML(K:ND)(s:TE):TI:=λσ H R=>s σ H λx e=>∃a,x= .r a/\(∃xs,en K e a xs)/\R (Yz K a) e
theorem HZ(f:PE X l tl):PI X z l (ML X.K tl):=by
 intro ac s σ H R I h;refine dy (f ac s σ H _ I h) λv c ⟨x,t,d,u,D⟩=>?_;obtain⟨a,e,⟨xs,g⟩,q⟩:=D;subst e;cases u;obtain⟨E,j,p,k⟩:=d.list g;refine TL p.isList ?_;refine⟨c.heap.objs.size,[c.heap.objs.size],_,_,t,rfl,d.kept (t':=c.toks) λb o e=>M4 _ e,sQ a _,⟨_,NA _ rfl,rfl,rfl⟩,λb i=>?_,q⟩;have e:b=c.heap.objs.size:=by simpa using i
 subst e;exact d.fpOk (Nh _)<|d.hok.fresh<|Nh _
theorem vK{ac:a0c}{σ:St}{H:Hp}{s:Na}{E:a0d}{a c:Int}{t u v:Tok}(I:bx X ac σ H s)(f:-(2^62)<=a)(g:a<2^62)(h:-(2^62)<=c)(i:c<2^62)
  (q:R (Yy a (c-a).toNat) H):Nu (NK X.p X.w) X.A (UO<|.ref s.heap.objs.size) (PIE X ac σ z R) E {s with heap:=s.heap.push {cls:= .type "range",data:= .fields #[.int a t,.int c u,.int 1 v]},toks:=m}:=by
 refine wpAny_pyIter_range (IsRange.new ..) (small_one f g h i) ?_;have d:bx X ac σ H {s with heap:=s.heap.push {cls:= .type "range",data:= .fields #[.int a t,.int c u,.int 1 v]},toks:=m}:=I.kept λb o e=>M4 _ e;refine⟨(s.heap.push {cls:= .type "range",data:= .fields #[.int a t,.int c u,.int 1 v]}).objs.size,[(s.heap.push {cls:= .type "range",data:= .fields #[.int a t,.int c u,.int 1 v]}).objs.size],_,_,H,rfl,
  d.kept (t':=m) λb o e=>M4 _ e,yB _ a (c-a).toNat,?_,λb j=>?_,q⟩
 .have k:a+((0:Nat):Int)*1=a:=by simp
  have l:(((c-a).toNat:Nat):Int)-((0:Nat):Int)=UX a c 1:=by rw[rangeSize_one];split<;>lia
  show V9 _ _ (a+((0:Nat):Int)*1) ((((c-a).toNat:Nat):Int)-((0:Nat):Int)) 1;rw[k,l];exact NA _ rfl
 .have e:b=(s.heap.push {cls:= .type "range",data:= .fields #[.int a t,.int c u,.int 1 v]}).objs.size:=by simpa using j
  subst e;exact d.fpOk (Nh _)<|d.hok.fresh<|Nh _
def MJ(b:TA):TI:=λσ H R=>b σ H λa e=>∃j:Int,a=[.n j]/\-(2^62)<=j/\j<2^62/\R (Yy 0 j.toNat) e
def MI(b:TA):TI:=λσ H R=>b σ H λa e=>∃i j:Int,a=[.n i,.n j]/\(-(2^62)<=i/\i<2^62/\-(2^62)<=j/\j<2^62)/\R (Yy i (j-i).toNat) e
theorem BV{a:Expr}{p aa:RV}(b:Gl X "range")(D:X.mg "range"=M0)(E:PA X [a] g)(G:Nr [a] X.e=[(M5,OS a X.e)]:=by rfl):PI X z (.Call (.Name "range" p) [a] [] aa) (MJ g):=by
 intro ac s σ H R I h;refine Call_<|gT I b D boot_range<|O1 (dy (E aa ac s σ H _ I h) λS f ⟨U,V,c,K,u⟩=>?_) G rfl;obtain⟨j,e,u,M,q⟩:=u;subst e;cases K with
 |cons r d=>
  cases d;obtain⟨t,rfl⟩:=r;exact call_range_1 (vK c (by lia) (by lia) u M<|by simpa using q)
theorem BU{a b:Expr}{p aa:RV}(f:Gl X "range")(D:X.mg "range"=M0)(E:PA X [a,b] m)(G:Nr [a,b] X.e=[(M5,OS a X.e),(M5,OS b X.e)]:=by rfl)(c:Nr [b] X.e=[(M5,OS b X.e)]:=by rfl):
  PI X z (.Call (.Name "range" p) [a,b] [] aa) (MI m):=by
 intro ac s σ H R I h;refine Call_ (gT I f D boot_range<|O1 (dy (E aa ac s σ H _ I h) λV l ⟨n,o,g,K,u⟩=>?_) (by rw[G,c])<|by rw[c];rfl);obtain⟨i,j,e,⟨u,M,S,U⟩,q⟩:=u;subst e;cases K with
 |cons r d=>
  cases d with
  |cons k d=>
   cases d;obtain⟨t,rfl⟩:=r;obtain⟨v,rfl⟩:=k;exact call_range_2<|vK g u M S U q
def EH(f:TI)(g:TG)(h:TS):TS:=λD σ H=>f σ H λJ e=>∃W:Nat->Nat->St->Hp->Prop,(∃m,W 0 m σ e)/\∀i m σ H,W i m σ H->
 (J.stop i H/\D.nx σ H)\/(J.go i H/\∃N:St->Hp->Prop,(∀b c,N b c->∃a,a<m/\W (i+1) a b c)/\∀x c,J.yld i H x c->g x σ c λd j=>h {D with nx:=N,ct:=N,bk:=D.nx} d j)
noncomputable def mG(c:a0n)(h:Op):a0c:=c.filterMap λb=>(h.get? b).map λo=>(b,o)
theorem i7{h:Op}(c:b∈d)(e:h.get? b=My o):(b,o)∈mG d h:=SV.mpr ⟨b,c,by rw[e];rfl⟩
theorem BY{h:Op}{p:M6×Oz}(c:p∈mG g h):p.1∈g/\h.get? p.1=My p.2:=by
 obtain⟨b,d,e⟩:=SV.mp c;cases q:h.get? b with
 |none=>rw[q]at e;cases e
 |some o=>
  rw[q]at e;have f:(b,o)=p:=N0 e;subst f;exact⟨d,q⟩
theorem bx.pinned{ac:a0c}{σ:St}{H:Hp}{s:Na}(I:bx X ac σ H s)(g:∀b∈k,fZ X ac H b)(h:∀b∈k,∃o,s.heap.get? b=My o/\∀v,o.data≠ .cell v):bx X (ac++mG k s.heap) σ H s:=
 I.pins_of λp i=>(NU.mp i).elim (λz=>I.pin p<|Oa _ z) λz=>by
  obtain⟨c,e⟩:=BY z;obtain⟨j,f1,f2,_⟩:=g p.1 c;obtain⟨o,f,d⟩:=h p.1 c;rw[e]at f;cases f;exact⟨e,j,f1,f2,d⟩
theorem bx.p3{ac a:a0c}{σ:St}{H:Hp}{s:Na}(I:bx X (ac++a) σ H s):bx X ac σ H s:=I.pins_of λp b=>I.pin p<|Oa _<|P9 _ b
theorem bT{aa:RV}(L:XD (NK X.p X.w) X.A X.e X.xe)(S:X.calm=M3)(hi:PI X z iter wi)(hg:PG X z g)(j:PSs X body tb)
  (hs:∀x,Oj iter X.e x=Ps x:=by intro _;rfl):PS X (.For z iter body [] aa) (EH wi g tb):=by
 intro ac s σ H D I h;refine wpAny_For (dy (hi ac s σ H _ I h) λv s1 h1=>dy h1 λab s2 h2=>?_) hs;obtain⟨it,O,V,J,H2,e,I2,T,Z,f2,W,⟨m0,w0⟩,P⟩:=h2;subst e
 --what stays M3 of the iterator's objects through the loop
 have k:∀{B:Hp},(∀b∈O,B b=M0)->∀b∈O,fZ X ac B b:=λhn b j=>⟨hn b j,(f2 b j).2⟩;refine codeAny_forLoop_any (λn s'=>∃i l B,bx X ac l B s'/\V i s'.heap/\(∀b∈O,B b=M0)/\W i n l B) ?_ m0 ⟨0,σ,H2,I2,Z,λb j=>(f2 b j).1,w0⟩;rintro n s3 ⟨i,p,Y,I3,Q,R,w3⟩;rcases P i n p Y w3 with⟨a,qn⟩|⟨go,N,hN,step⟩
 .refine Q5 L (dy (T.done X rfl rfl rfl S i ac s3 p Y X.xe I3 (k R) Q a) λr s4 ⟨t,I4⟩=>?_)
  subst t;exact S9 ⟨p,Y,I4,qn⟩
 .refine Q5 L (dy (T.item X rfl rfl rfl S i ac s3 p Y X.xe I3 (k R) Q go) λr s4 ⟨u,t,h4⟩=>?_)
  subst t;refine Q5 L<|dy h4 λ_ s5 ⟨x,H5,I5,r5,y5,F,E⟩=>?_;have G:=I5.pinned (k E)<|T.obj _ _ F;refine Q5 L<|dy (hg _ s5 p H5 x u _ G r5<|step x H5 y5) λ_ s6 ⟨K,H6,I6,q6⟩=>?_;refine Q5 L<|dy (j _ s6 K H6 _ I6 q6) λf M C=>?_;have We:∀{c:St} {q:Hp},bx X (ac++mG O s5.heap) c q M->N c q->∃m,m<n/\∃i l B,bx X ac l B M/\V i M.heap/\(∀b∈O,B b=M0)/\W i m l B:=λ{c q} y U=>by
   obtain⟨m',hm,w7⟩:=hN c q U;refine⟨m',hm,i+1,c,q,y.p3,T.keep _ _ _ F λb j o e=>(y.pin (b,o)<|Oa _<|Oa _<|i7 j e).1,λb j=>?_,w7⟩;obtain⟨o,e,d⟩:=T.obj _ _ F b j;exact(y.pin (b,o)<|Oa _<|Oa _<|i7 j e).2.1
  cases f with
  |next=>obtain⟨c,q,y,U⟩:=C;exact We y U
  |cont=>obtain⟨c,q,y,U⟩:=C;exact We y U
  |brk=>obtain⟨c,q,y,C⟩:=C;exact⟨c,q,y.p3,C⟩
  |ret v=>obtain⟨x7,c,q,y,r7,C⟩:=C;exact⟨x7,c,q,y.p3,r7,C⟩
abbrev R2:=V->V->Hp->VK->Prop
def f0(X:Cx)(f:a1a)(r:R2):Prop:=
 ∀(ac:a0c) (s:Na) (σ:St) (H:Hp) (x y:V) (v u:M8) (Q:VK),bx X ac σ H s->aT x v->aT y u->r x y H Q->
  Nu (NK X.p X.w) X.A (f v u) (EP X ac σ Q) X.xe s
def YX(X:Cx)(f:M8->WB M8)(r:V->Hp->VK->Prop):Prop:=
 ∀(ac:a0c) (s:Na) (σ:St) (H:Hp) (x:V) (v:M8) (Q:VK),bx X ac σ H s->aT x v->r x H Q->
  Nu (NK X.p X.w) X.A (f v) (EP X ac σ Q) X.xe s
def dM(X:Cx)(f:M8)(r:a0G):Prop:=
 ∀(ac:a0c) (s:Na) (σ:St) (H:Hp) (xs:a0i) (a:a0f) (Q:VK),bx X ac σ H s->ay xs a->r xs H Q->
  Nu (NK X.p X.w) X.A (RO f a) (EP X ac σ Q) X.xe s
def TruR(X:Cx)(r:V->Hp->(Bool->Hp->Prop)->Prop):Prop:=
 ∀(ac:a0c) (s:Na) (σ:St) (H:Hp) (x:V) (v:M8) (Q:a0W),bx X ac σ H s->aT x v->r x H Q->
  Nu (NK X.p X.w) X.A (truthy v) (TP X ac σ Q) X.xe s
def P_(r:R2)(b c:TE):TE:=λσ H Q=>b σ H λx a=>c σ a λy d=>r x y d Q
def tUn(r:V->Hp->VK->Prop)(b:TE):TE:=λσ H Q=>b σ H λx a=>r x a Q
def rI(C:a0X)(g:Int->Int->V):R2:=λx y H Q=>∃i j,x= .n i/\y= .n j/\C i j/\Q (g i j) H
def p7(g:Int->Int->V):R2:=λx y H Q=>∃i j,x= .n i/\y= .n j/\Q (g i j) H
def rU(g:Int->V):V->Hp->VK->Prop:=λx H Q=>∃i,x= .n i/\Q (g i) H
end
section
variable{X:Cx}{a b c:Expr}{ta tb tc:TE}{aa:RV}
theorem Gk(D:PE X a ta)(l:PE X b tb){d:a0c}{s:Na}{e:St}{H:Hp}{R:V->V->Hp->Prop}(I:bx X d e H s)
  (h:ta e H λx c=>tb e c λy g=>R x y g) {Q:a0d} {f:a1a}
  (m:∀v u k x y g,bx X d e g k->aT x v->aT y u->R x y g->Nu (NK X.p X.w) X.A (f v u) Q X.xe k):
  Nu (NK X.p X.w) X.A (OS a X.e) (λv i=>Nu (NK X.p X.w) X.A (OS b X.e) (λu j=>Nu (NK X.p X.w) X.A (f v u) Q X.xe j) X.xe i) X.xe s:=by
 refine dy (D d s e H _ I h) λv n ⟨x,c,o,E,G⟩=>?_;refine dy (l d n e c _ o G) λu k ⟨y,g,p,q,K⟩=>?_;exact m v u k x y g p E q K
theorem dR(e:f0 X (Qt op) r)(c:PE X a ta)(f:PE X b tb):PE X (.BinOp a op b aa) (P_ r ta tb):=by
 intro d s g H Q I h;exact wpAny_BinOp<|Gk c f I h λv u i x y j k l m q=>e d i g j x y v u Q k l m q
theorem LS(f:YX X (unaryOp op) r)(b:PE X a ta):PE X (.UnaryOp op a aa) (tUn r ta):=by
 intro d s e H Q I h;exact UnaryOp_<|dy (b d s e H _ I h) λv g ⟨x,c,i,D,E⟩=>f d g e c x v Q i D E
theorem ny{f:a1a}{C:a0X}{g:a0M}
  (d:∀(i j:Int) (t u:Tok) (s:Na) (Q:a0d) (E:a0d),C i j->Q (.int (g i j) s.toks) {s with toks:=s.toks+1}->Nu (NK X.p X.w) X.A (f (.int i t)<|.int j u) Q E s):
  f0 X f (rI C λi j=> .n<|g i j):=by
 intro e s n H x y v u Q I k l h;obtain⟨i,j,rfl,rfl,m,q⟩:=h;obtain⟨t,rfl⟩:=k;obtain⟨a,rfl⟩:=l;exact d i j t a s _ _ m ⟨.n<|g i j,H,I.tok _,⟨_,rfl⟩,q⟩
theorem Ke{f:a1a}{g:a0M}
  (d:∀(i j:Int) (t u:Tok) (s:Na) (Q:a0d) (E:a0d),Q (.int (g i j) s.toks) {s with toks:=s.toks+1}->Nu (NK X.p X.w) X.A (f (.int i t)<|.int j u) Q E s):
  f0 X f (p7 λi j=> .n<|g i j):=by
 intro e s m H x y v u Q I k l h;obtain⟨i,j,rfl,rfl,q⟩:=h;obtain⟨t,rfl⟩:=k;obtain⟨a,rfl⟩:=l;exact d i j t a s _ _ ⟨.n<|g i j,H,I.tok _,⟨_,rfl⟩,q⟩
theorem yY{f:a1a}{g:Int->Int->Bool}
  (d:∀(i j:Int) (t u:Tok) (s:Na) (Q:a0d) (E:a0d),Q (.bool<|g i j) s->Nu (NK X.p X.w) X.A (f (.int i t)<|.int j u) Q E s):
  f0 X f (p7 λi j=> .c<|g i j):=by
 intro e s m H x y v u Q I k l h;obtain⟨i,j,rfl,rfl,q⟩:=h;obtain⟨t,rfl⟩:=k;obtain⟨a,rfl⟩:=l;exact d i j t a s _ _ ⟨.c<|g i j,H,I,rfl,q⟩
def CDiv(i j:Int):Prop:=0<j/\j<1073741824
def CPow(i j:Int):Prop:=0<=j/\j<=1000000/\i.natAbs<2^64
def Gu(i j:Int):Prop:=(-(2^64)<i/\i<2^64)\/(-(2^64)<j/\j<2^64)
theorem Gu.ok(h:Gu i j):IntMulOk i j:=by
 rcases h with⟨d,e⟩|⟨d,e⟩
 .exact .of_left (intBits_le_64 d e)
 .exact .of_right (intBits_le_64 d e)
theorem qB:f0 X (Qt .Add) (p7 λi j=> .n<|i+j):=Ke λ_ _ _ _ _ _ _ q=>add_int q
theorem dg:f0 X (Qt .Sub) (p7 λi j=> .n<|i-j):=Ke λ_ _ _ _ _ _ _ q=>sub_int q
theorem Kb:f0 X (Qt .Mult) (rI Gu λi j=> .n<|i*j):=ny λ_ _ _ _ _ _ _ d q=>mul_int q d.ok
theorem xJ:f0 X (Qt .FloorDiv) (rI CDiv λi j=> .n<|i/j):=ny λi j _ _ _ _ _ d q=>by
 have e:(0:Int)<j:=d.1;have f:j<1073741824:=d.2;exact floordiv_int (by lia) (by rw[S4 i<|by lia];exact q) (.inl<|PyProof.noPylong_small<|by lia)
theorem kJ:f0 X (Qt .Mod) (rI (λ_ j=>0<j) λi j=> .n<|i % j):=ny λi j _ _ _ _ _ d q=>by
 have e:(0:Int)<j:=d;exact mod_int' (by lia) (by rw[Int.fmod_eq_emod_of_nonneg i<|by lia];exact q)
theorem J9:f0 X (Qt .Pow) (rI CPow λi j=> .n<|i^j.toNat):=ny λ_ _ _ _ _ _ _ d q=>pow_int_small d.1 d.2.1 d.2.2 q
theorem unI{f:M8->WB M8}{g:Int->Int}
  (d:∀(i:Int) (t:Tok) (s:Na) (Q:a0d) (E:a0d),Q (.int (g i) s.toks) {s with toks:=s.toks+1}->Nu (NK X.p X.w) X.A (f<|.int i t) Q E s):
  YX X f (rU λi=> .n<|g i):=by
 intro e s k H x v Q I j h;obtain⟨i,rfl,q⟩:=h;obtain⟨t,rfl⟩:=j;exact d i t s _ _ ⟨.n<|g i,H,I.tok _,⟨_,rfl⟩,q⟩
theorem jq:YX X (unaryOp .USub) (rU λi=> .n<|-i):=unI λ_ _ _ _ _ q=>neg_int q
noncomputable def ER:V->V->Bool
 | .o,.o=>M3| .o,.n _=>M3| .n _,.o=>M3| .o,.c _=>M3| .c _,.o=>M3| .o,.q _=>M3| .q _,.o=>M3
 | .n _,.n _=>M3| .c _,.c _=>M3| .q _,.q _=>M3
 | .n _,.q _=>M3| .q _,.n _=>M3| .c _,.q _=>M3| .q _,.c _=>M3
 |_,_=>M5
noncomputable def Zu:R2:=λx y H Q=>ER x y=M3/\Q (.c<|decide (x=y)) H
noncomputable def Zs:R2:=λx y H Q=>ER x y=M3/\Q (.c<|!decide (x=y)) H
theorem yg:decide (V.n i=V.n j)=(i==j):=by
 rw[Ru];simp
theorem ux{i j:Bool}:decide (V.c i=V.c j)=(i==j):=by
 rw[Ru];simp
theorem yf:decide (V.q i=V.q j)=(i==j):=by
 rw[Ru];simp
theorem dq{k d:Bool}(I:bx X f g H s)(q:Q (.c k) H)(e:k=d):EP X f g Q (.bool d) s:=by
 subst e;exact⟨.c k,H,I,rfl,q⟩
theorem LW:f0 X (OP .Eq) Zu:=by
 intro f s g H x y v u Q I e d h;obtain⟨b,q⟩:=h;cases x with
 |o=>
  cases e;cases y with
  |o=>cases d;exact PySem.EqNone.eq_none_none (dq I q<|by simp)
  |c j=>cases d;exact PySem.EqNone.eq_none_bool (dq I q<|by simp)
  |n j=>obtain⟨a,rfl⟩:=d;exact PySem.EqNone.eq_none_int (dq I q<|by simp)
  |q j=>obtain⟨a,rfl⟩:=d;exact PySem.EqNone.eq_none_str (dq I q<|by simp)
  |_=>exact NH (show M5=M3 from b) Nb
 |c i=>
  cases e;cases y with
  |o=>cases d;exact PySem.EqNone.eq_bool_none (dq I q<|by simp)
  |c j=>cases d;exact eq_bool<|dq I q ux
  |q j=>obtain⟨a,rfl⟩:=d;exact PySem.EqMixed.eq_bool_str (dq I q<|by simp)
  |_=>exact NH (show M5=M3 from b) Nb
 |n i=>
  obtain⟨t,rfl⟩:=e;cases y with
  |o=>cases d;exact PySem.EqNone.eq_int_none (dq I q<|by simp)
  |n j=>obtain⟨a,rfl⟩:=d;exact eq_int<|dq I q yg
  |q j=>obtain⟨a,rfl⟩:=d;exact PySem.EqMixed.eq_int_str (dq I q<|by simp)
  |_=>exact NH (show M5=M3 from b) Nb
 |q i=>
  obtain⟨t,rfl⟩:=e;cases y with
  |o=>cases d;exact PySem.EqNone.eq_str_none (dq I q<|by simp)
  |c j=>cases d;exact PySem.EqMixed.eq_str_bool (dq I q<|by simp)
  |n j=>obtain⟨a,rfl⟩:=d;exact PySem.EqMixed.eq_str_int (dq I q<|by simp)
  |q j=>obtain⟨a,rfl⟩:=d;exact eq_str<|dq I q yf
  |_=>exact NH (show M5=M3 from b) Nb
 |_=>cases y<;>exact NH (show M5=M3 from b) Nb
theorem LU:f0 X (OP .NotEq) Zs:=by
 intro f s g H x y v u Q I e d h;obtain⟨b,q⟩:=h;cases x with
 |o=>
  cases e;cases y with
  |o=>cases d;exact PySem.EqNone.ne_none_none (dq I q<|by simp)
  |c j=>cases d;exact PySem.EqNone.ne_none_bool (dq I q<|by simp)
  |n j=>obtain⟨a,rfl⟩:=d;exact PySem.EqNone.ne_none_int (dq I q<|by simp)
  |q j=>obtain⟨a,rfl⟩:=d;exact PySem.EqNone.ne_none_str (dq I q<|by simp)
  |_=>exact NH (show M5=M3 from b) Nb
 |c i=>
  cases e;cases y with
  |o=>cases d;exact PySem.EqNone.ne_bool_none (dq I q<|by simp)
  |c j=>cases d;exact ne_bool<|dq I q<|OG not ux
  |q j=>obtain⟨a,rfl⟩:=d;exact PySem.EqMixed.ne_bool_str (dq I q<|by simp)
  |_=>exact NH (show M5=M3 from b) Nb
 |n i=>
  obtain⟨t,rfl⟩:=e;cases y with
  |o=>cases d;exact PySem.EqNone.ne_int_none (dq I q<|by simp)
  |n j=>obtain⟨a,rfl⟩:=d;exact ne_int<|dq I q<|OG not yg
  |q j=>obtain⟨a,rfl⟩:=d;exact PySem.EqMixed.ne_int_str (dq I q<|by simp)
  |_=>exact NH (show M5=M3 from b) Nb
 |q i=>
  obtain⟨t,rfl⟩:=e;cases y with
  |o=>cases d;exact PySem.EqNone.ne_str_none (dq I q<|by simp)
  |c j=>cases d;exact PySem.EqMixed.ne_str_bool (dq I q<|by simp)
  |n j=>obtain⟨a,rfl⟩:=d;exact PySem.EqMixed.ne_str_int (dq I q<|by simp)
  |q j=>obtain⟨a,rfl⟩:=d;exact ne_str<|dq I q<|OG not yf
  |_=>exact NH (show M5=M3 from b) Nb
 |_=>cases y<;>exact NH (show M5=M3 from b) Nb
theorem gN:f0 X (OP .Lt) (p7 λi j=> .c<|decide (i<j)):=yY λ_ _ _ _ _ _ _ q=>lt_int q
theorem im:f0 X (OP .LtE) (p7 λi j=> .c<|decide (i<=j)):=yY λ_ _ _ _ _ _ _ q=>le_int q
theorem fR:f0 X (OP .Gt) (p7 λi j=> .c<|decide (j<i)):=yY λ_ _ _ _ _ _ _ q=>gt_int q
theorem LV:f0 X (OP .GtE) (p7 λi j=> .c<|decide (j<=i)):=yY λ_ _ _ _ _ _ _ q=>ge_int q
theorem qA:f0 X (OP .Is) (λx y H Q=>y= .o/\Q (.c<|decide (x= .o)) H):=by
 intro d s g H x y v u Q I e f h;obtain⟨rfl,q⟩:=h;cases f;refine is_none_gen<|dq I q ?_;cases x<;>first
  |(cases e;rfl)
  |(obtain⟨t,rfl⟩:=e;rfl)
theorem f0.or(h:f0 X f r)(a:f0 X f j):f0 X f (λx y H Q=>r x y H Q\/j x y H Q):=by
 intro d s e H x y v u Q I g i q;rcases q with q|q
 .exact h d s e H x y v u Q I g i q
 .exact a d s e H x y v u Q I g i q
theorem vT(b:Expr)(h:op≠ .In:=by decide)(d:op≠ .NotIn:=by decide):SK op b=M5:=by
 have e:(op==CmpOp.In)=M5:=by cases op<;>first|rfl|exact NH rfl h
 have f:(op==CmpOp.NotIn)=M5:=by cases op<;>first|rfl|exact NH rfl d
 cases b<;>simp[SK,e,f]
theorem Ii(e:f0 X (OP op) r)(c:PE X a ta)(f:PE X b tb)(D:SK op b=M5):PE X (.Compare a [op] [b] aa) (P_ r ta tb):=by
 intro d s g H Q I h;exact wpAny_Compare1 (Gk c f I h λv u i x y j k l m q=>e d i g j x y v u Q k l m q) D
def yD(t:TE):TT:=λd H Q=>t d H λx e=>∃k,x= .c k/\Q k e
theorem xC(g:f0 X (OP op) r)(D:PE X a ta)(i:PE X b tb)(E:SK op b=M5):PT X (.Compare a [op] [b] aa) (yD<|P_ r ta tb):=by
 intro d s f H Q I h;refine wpAny_isTrue_Compare1 (dy (D d s f H _ I h) λv j ⟨x,G,l,K,M⟩=>dy (i d j f G _ l M) λu m ⟨y,n,o,p,S⟩=>
  dy (g d m f n x y v u _ o K p S) λc A ⟨z,q,t,w,k,e,V⟩=>?_) E
 subst e;cases w;exact OT ⟨q,t,V⟩
def AL(r f:R2)(ta tb tc:TE):TE:=λd H Q=>ta d H λx a=>tb d a λy g=>r x y g λz e=>∃k,z= .c k/\
 (if k=M3 then tc d e λh i=>f y h i Q else Q (.c M5) e)
theorem EX(n:f0 X (OP op) r)(i:f0 X (OP op') r')(E:PE X a ta)(o:PE X b tb)(p:PE X c tc)
  (G:XT [op,op'] [b,c]=M5:=by with_unfolding_all rfl):PT X (.Compare a [op,op'] [b,c] aa) (yD<|AL r r' ta tb tc):=by
 intro f s g H Q I h;refine isTrue_chain (dy (E f s g H _ I h) λv q ⟨x,K,t,M,S⟩=>test_link (dy (o f q g K _ t S) λu w ⟨y,A,B,j,V⟩=>
  dy (n f w g A x y v u _ B M j V) λd C ⟨z,l,m,F,k,e,D⟩=>?_)) G
 subst e;cases F;refine OT ?_;cases k with
 |false=>
  obtain⟨k',J,L⟩:=D;cases J;exact ite_ff ⟨l,m,L⟩
 |true=>
  refine ite_tt<|test_last<|dy (p f C g l _ m D) λN O ⟨P,R,T,U,q4⟩=>dy (i f O g R y P u N _ T j U q4) λd' s5 ⟨z2,W,Y,Z,k2,e2,q5⟩=>?_;subst e2;cases Z;exact OT ⟨W,Y,q5⟩
def Gq(K:ND)(x:V)(H:Hp)(k:Bool):Prop:=
 match x with
 | .o=>k=M5
 | .c b=>k=b
 | .n i=>k=(i !=0)
 | .q y=>y.length<=Nw/\k=((y.length:Int) !=0)
 | .r p=>(∃a,en K H p a/\k=!a.isEmpty)\/∃a,hU K H p a/\k=!a.isEmpty
 |_=>False
theorem qL(r:ay e d):(!d.toArray.isEmpty)=!e.isEmpty:=by
 cases r<;>simp
theorem mR:(Nw:Nat)<2^63:=by rw[P0];decide
theorem Jk:TruR X (λx H Q=>∃k,Gq X.K x H k/\Q k H):=by
 intro j s m H x v Q I f h;obtain⟨k,e,q⟩:=h;have n:=mR;have G:Nw=16777216:=P0;cases x with
 |o=>
  cases f;have d:k=M5:=e;subst d;exact truthy_none ⟨H,I,q⟩
 |c b=>
  cases f;have d:k=b:=e;subst d;exact OT ⟨H,I,q⟩
 |n i=>
  obtain⟨t,rfl⟩:=f;have d:k=(i !=0):=e;subst d;exact PySem.P.truthy_int ⟨H,I,q⟩
 |q y=>
  obtain⟨t,rfl⟩:=f;obtain⟨M,d⟩:y.length<=Nw/\k=((y.length:Int) !=0):=e;subst d;exact PySem.P.truthy_str (by lia) ⟨H,I.tok _,q⟩
 |r p=>
  cases f;have d:(∃a,en X.K H p a/\k=!a.isEmpty)\/∃a,hU X.K H p a/\k=!a.isEmpty:=e;rcases d with⟨a,c,d⟩|⟨a,c,d⟩
  .subst d
   obtain⟨D,r,E,l⟩:=I.list c;have g:=r.length;exact wpAny_truthy_list E.isList (by simp only[NG];lia) ⟨H,I.tok _,by rw[qL r];exact q⟩
  .subst d
   obtain⟨D,r,E,l⟩:=I.tuple c;have g:=r.length;exact truthy_tuple E (by simp only[NG];lia) ⟨H,I.tok _,by rw[qL r];exact q⟩
 |_=>exact(show False from e).elim
theorem EW(b:PE X a ta)(i:∀d,isTrue a X.e d=(do let v <-d;Sg a.pos;Ti [v] (truthy v))):
  PT X a (λf H Q=>ta f H λx g=>∃k,Gq X.K x g k/\Q k g):=by
 intro e s f H Q I h;exact isTrue_plain (dy (b e s f H _ I h) λv j ⟨x,c,l,D,E⟩=>Jk e j f c x v Q l D E)<|i _
theorem jM(r:ay [x] e):∃u,e=[u]/\aT x u:=by
 cases r with
 |cons a d=>cases d;exact⟨_,rfl,a⟩
theorem yy(r:ay [x,y] h):∃u d,h=[u,d]/\aT x u/\aT y d:=by
 cases r with
 |cons a e=>
  cases e with
  |cons f g=>cases g;exact⟨_,_,rfl,a,f⟩
theorem Gf:dM X (.builtin "abs") (λxs H Q=>∃i,xs=[.n i]/\Q (.n (if i<0 then -i else i)) H):=by
 intro d s e H xs a Q I r h;obtain⟨i,rfl,q⟩:=h;obtain⟨u,rfl,t,rfl⟩:=jM r;exact call_abs_int λu f=>⟨.n (if i<0 then -i else i),H,I.tok _,⟨_,rfl⟩,q⟩
theorem m9(f:X.calm=M3):dM X (.builtin "max") (λa H Q=>∃i j,a=[.n i,.n j]/\Q (.n (if j>i then j else i)) H):=by
 intro e s g H a b Q I r h;obtain⟨i,j,rfl,q⟩:=h;obtain⟨u,l,rfl,⟨t,rfl⟩,⟨c,rfl⟩⟩:=yy r;refine max_two_ints (I.ok.hd f) λD m k=>⟨_,H,I.kept k,?_,q⟩;by_cases d:j>i
 .rw[Ng d,Ng d];exact⟨_,rfl⟩
 .rw[Nf d,Nf d];exact⟨_,rfl⟩
theorem m8(f:X.calm=M3):dM X (.builtin "min") (λa H Q=>∃i j,a=[.n i,.n j]/\Q (.n (if j<i then j else i)) H):=by
 intro e s g H a b Q I r h;obtain⟨i,j,rfl,q⟩:=h;obtain⟨u,l,rfl,⟨t,rfl⟩,⟨c,rfl⟩⟩:=yy r;refine min_two_ints (I.ok.hd f) λD m k=>⟨_,H,I.kept k,?_,q⟩;by_cases d:j<i
 .rw[Ng d,Ng d];exact⟨_,rfl⟩
 .rw[Nf d,Nf d];exact⟨_,rfl⟩
structure uz (h:Op) (x dx C:M6) (mA:a0h):Prop where
 obj:h.get? x=My (U1 C dx)
 ns:h.Ns1 dx mA
 ne:dx≠x
theorem CI{h:Op}(n:h.Ns1 k mA):∃f,h.get? k=My f/\∀b,lookIn b f=My (mA b):=by
 obtain⟨o,c,K,g,D,i,_,E⟩:=n;refine⟨o,g,λb=>?_⟩;have e:=E b;unfold nsFind findBy at e;rw[<-Array.find?_toList]at e;unfold lookIn;rw[D]
 dsimp only
 split
 .rename_i y q
  rw[q]at e;exact OG My e
 .rename_i q
  rw[q]at e;have a:c.toList.any (·.refKey)=M5:=by
   rw[QX];intro y G;obtain⟨z,t,d⟩:=i y<|Array.mem_toList_iff.mp G;simp[DictEntry.refKey,d]
  have j:¬c.toList.any (·.refKey)=M3:=by rw[a];exact Nb
  rw[Nf j];exact OG My e
theorem uz.look(I:uz h x e C mA):∃d,PySem.W.InstAt h x (U1 C e) C (My d)/\∀a,lookIn a d=My (mA a):=
 let ⟨d,ho,hl⟩:=CI I.ns
 ⟨d,⟨I.obj,rfl,rfl,ho⟩,hl⟩
variable{z:NY}{w:N6}{A:Om}{E:a0d}{s:Na}{K:ND}{x L C f:M6}{N:a0h}{c:N8}{v:M8}
theorem HK{D:a0g}(X:K.In s.heap)(I:uz s.heap x L C N)
  (G:Qm K (.ref C) "__setattr__"=My (My<|.builtin "object.__setattr__")) (l:Xa K C=M3) (m:takerIn K C c=My M0) (n:W9 K C=M3)
  (o:SB N D) (p:Uc D<=Nw)
  (h:∀f,uz f x L C (λy=>if y=c then My v else N y)->N1 L s.heap f->Q () {s with heap:=f,toks:=s.toks+2}):
  Nu (NK z w) A (setAttr (.ref x) c v) Q E s:=by
 obtain⟨B,J,F⟩:=I.look;refine PySem.W.set_plain X J G<|PySem.W.osa_open (s:={s with toks:=s.toks+1}) (r:=M0) X J l m λb=>?_;obtain⟨S,q,g⟩:=PySem.W.any_some n;have M:s.heap.get? x=My ⟨.ref C,My L,.plain,#[]⟩:=I.obj;refine MY<|M1<|MY<|MY<|W0 M<|MY<|VF (s:={s with toks:=s.toks+1}) (looks_clsIn X q) ?_;rw[g];refine M1 (a:=My L)<|MY<|M1<|MY ?_;refine wpAny_nsSet1 (s:={s with toks:=s.toks+1}) I.ns λf d e=>?_;obtain⟨H,t,u,i,j,k⟩:=d.count<|V3 c v o;refine MY<|wpAny_lookBehind i (by rw[j];exact pastItsLine_dict<|NJ k<|by rw[Np];lia) ?_;exact M1<|h _ ⟨(e.2 _<|Ne.symm I.ne).trans I.obj,d,I.ne⟩ e
theorem Fs(X:K.In s.heap)(b:XG K C=M3)
  (e:Qm K (.ref C) "__init__"=My (My<|.ref f)) (i:PySem.W.typeIn K (.ref f)=My (.type "function"))
  (h:QO (NK z w) (A.under<|.builtin "type.__call__" ⟨.ref C::k,kw⟩) (.call (.ref f) ⟨.ref (s.heap.objs.size+1)::k,kw⟩) (PySem.W.InitBack (s.heap.objs.size+1) R)
   {s with heap:=(s.heap.push SD).push (U1 C s.heap.objs.size)}):
  QO (NK z w) A (.call (.ref C) ⟨k,kw⟩) R s:=by
 obtain⟨j,g,d,t,c⟩:=s;exact PySem.W.make_core (PySem.W.makes_of X b) (VI X e) (λa=>XE X a i) (.inl rfl) h
noncomputable def d9(f:N8)(v:V):a0E->a0E
 |[]=>[(f,v)]
 |(g,x)::r=>if g=f then(g,v)::r else(g,x)::d9 f v r
theorem oQ(f g:N8)(v:V):∀a:a0E,(d9 f v a).lookup g=if g=f then My v else a.lookup g
 |[]=>by
  show Sj g [(f,v)]=_;by_cases h:g=f
  .have d:(g==f)=M3:=beq_iff_eq.mpr h
   simp only[Sj,d,Ng h]
  .have d:(g==f)=M5:=beq_eq_false_iff_ne.mpr h
   simp only[Sj,d,Nf h]
 |(k,x)::r=>by
  have b:=oQ f g v r;rw[show d9 f v ((k,x)::r)=(if k=f then(k,v)::r else(k,x)::d9 f v r)from rfl];by_cases i:k=f
  .rw[Ng i]
   by_cases h:g=k
   .have d:(g==k)=M3:=beq_iff_eq.mpr h
    simp only[Sj,d,Ng<|h.trans i]
   .have d:(g==k)=M5:=beq_eq_false_iff_ne.mpr h
    simp only[Sj,d,Nf (λe:g=f=>h<|e.trans i.symm)]
  .rw[Nf i]
   by_cases h:g=k
   .have d:(g==k)=M3:=beq_iff_eq.mpr h
    simp only[Sj,d,Nf (λe:g=f=>i<|h.symm.trans e)]
   .have d:(g==k)=M5:=beq_eq_false_iff_ne.mpr h
    simp only[Sj,d];exact b
theorem mT(f:N8)(v:V):∀a:a0E,f∈(d9 f v a).map (·.1)/\∀g,g∈a.map (·.1)->g∈(d9 f v a).map (·.1)
 |[]=>⟨by simp[d9],λg h=>by simp at h⟩
 |(k,x)::r=>by
  obtain⟨i,i2⟩:=mT f v r;rw[show d9 f v ((k,x)::r)=(if k=f then(k,v)::r else(k,x)::d9 f v r)from rfl];by_cases d:k=f
  .rw[Ng d]
   subst d;exact⟨by simp,λg h=>by simpa using h⟩
  .rw[Nf d]
   refine⟨?_,λg h=>?_⟩
   .rw[Nv]
    exact M2 _ i
   .rw[Nv]at h⊢
    rcases Nn.mp h with e|e
    .exact Nn.mpr (.inl e)
    .exact M2 _ (i2 g e)
theorem oR(f:N8)(v:V):∀a:a0E,Uc (d9 f v a)<=Uc a+1
 |[]=>by simp[d9]
 |(k,x)::r=>by
  have b:=oR f v r;rw[show d9 f v ((k,x)::r)=(if k=f then(k,v)::r else(k,x)::d9 f v r)from rfl];by_cases d:k=f
  .rw[Ng d,Np,Np];lia
  .rw[Nf d,Np,Np];lia
end
section
variable{P:NY}{w:N6}{H l:Hp}{h h':Op}{a C dx:M6}{L g:a0E}
theorem IL(g:i_ P w H h)(e:H a=My (.ins C dx L)):∃b,uz h a dx C b/\(∀f,sJ (L.lookup f)<|b f)/\SB b (L.map (·.1))/\Uc L<=1000/\H dx=My (.u a):=by
 obtain⟨d,z,l,c,b,n,r,q⟩:=(show cq P w H h a (.ins C dx L)from g a _ e);exact⟨b,⟨c,n,l⟩,r,q,z,d⟩
structure Yg (K:ND) (C:M6):Prop where
 pg:PySem.W.plainGet K C QV=M3
 hd:W9 K C=M3
 po:Xa K C=M3
 sa:Qm K (.ref C) "__setattr__"=My (My<|.builtin "object.__setattr__")
def ge(K:ND)(C:M6)(f:N8):Prop:=Qm K (.ref C) f=My M0
theorem ge.f5{K:ND}{C:M6}(n:ge K C f):takerIn K C f=My M0:=by
 unfold takerIn;rw[show Qm K (.ref C) f=My M0 from n];rfl
structure Meth (K:ND) (C:M6) (m:N8) (f:M6):Prop where
 at_:Qm K (.ref C) m=My (My<|.ref f)
 fn:isFn K (.ref f)=M3
 kp:Se K (.ref f)=M3
variable{X:Cx}{N:a0c}{J:St}{s:Na}{f:N8}{v:V}{A:Om}{E:a0d}
theorem yM(I:bx X N J H s)(e:H a=My (.ins C dx L))(c:Yg X.K C)(n:ge X.K C f)(B:Uc L<1000)(l:aT y u)
  (h:∀v,bx X N J (upd H a<|.ins C dx<|d9 f y L) v->Q () v):Nu (NK X.p X.w) A (setAttr (.ref a) f u) Q E s:=by
 obtain⟨i,O,r,j,_,k⟩:=IL I.hok e;have m:Uc (L.map (·.1))<=Nw:=by rw[MZ,P0];lia
 refine HK I.kIn O c.sa c.po n.f5 c.hd j m λh' d D=>h _ ?_;have G:∃o,h'.get? dx=My o:=let ⟨o,_,_,e',_⟩:=d.ns;⟨o,e'⟩
 refine I.write (x:=a) (e:=dx) (by rw[e];exact XN) (.inr k) (λb q p z=>(D.2 b p).trans z) G ?_;refine⟨by rw[bb O.ne];exact k,?_,O.ne,d.obj,_,d.ns,λg=>?_,λg t=>?_⟩
 .have:=oR f y L;lia
 .show sJ ((d9 f y L).lookup g) (if g=f then My u else i g)
  rw[oQ];by_cases q:g=f
  .rw[Ng q,Ng q];exact l
  .rw[Nf q,Nf q];exact r g
 .by_cases q:g=f
  .rw[q];exact(mT f y L).1
  .refine(mT f y L).2 g (j g λz=>t ?_)
   show(if g=f then My u else i g)=M0;rw[Nf q];exact z
theorem bx.made(I:bx X N J H s):bx X N J (upd (upd H s.heap.objs.size<|.u<|s.heap.objs.size+1) (s.heap.objs.size+1)<|.ins C s.heap.objs.size [])
  {s with heap:=(s.heap.push SD).push (U1 C s.heap.objs.size)}:=by
 have c:(s.heap.push SD).get? s.heap.objs.size=My SD:=NA s.heap rfl;have d:((s.heap.push SD).push<|U1 C s.heap.objs.size).get? (s.heap.objs.size+1)=My (U1 C s.heap.objs.size):=by
  have:=NA (s.heap.push SD) (o:=U1 C s.heap.objs.size) rfl;rwa[OD]at this
 have g:(s.heap.push SD).Ns s.heap.objs.size (λ_=>M0):=⟨SD,#[],_,c,rfl,(λe i=>NH i<|by simp),λ_=>rfl⟩;have j:=I.laid (a:=s.heap.objs.size) (o:= .u<|s.heap.objs.size+1) (h':=s.heap.push SD) (t':=s.toks) (λb u q=>M4 _ q) (Nh _) ⟨_,c⟩;refine j.laid (a:=s.heap.objs.size+1) (o:= .ins C s.heap.objs.size []) (t':=s.toks) (λb u q=>M4 _ q) (U3<|OD _ _) ?_;have f:s.heap.objs.size≠s.heap.objs.size+1:=Og<|QE _;refine⟨by rw[bb f,aq],OV _,f,d,λ_=>M0,(WE g).at λo q=>M4 _ q,λ_=>XN,λy h=>NH rfl h⟩
def JG(K:ND)(c d:TE)(f:N8):TS:=λD J H=>d J H λy g=>c J g λx b=>∃a C dx L,x= .r a/\b a=My (.ins C dx L)/\Yg K C/\ge K C f/\Uc L<1000/\
 D.nx J (upd b a<|.ins C dx<|d9 f y L)
variable{o e z:Expr}{v O d:RV}{R T:TE}
theorem mE(e:PE X o R)(b:PE X z T)(w:Rx z (My<|.Attribute o f O) v.line X.e=Ps M5):PS X (.Assign [.Attribute o f O] z v) (JG X.K R T f):=by
 intro N s J H D I h;refine VW (dy (b N s J H _ I h) λu d ⟨y,A,g,i,q⟩=>dy (e N d J A _ g q) λj t ⟨x,B,k,m,a,C,dx,L,E,p,c,n,l,G⟩=>?_) w;subst E;obtain rfl:j=Ny a:=m;exact yM k p c n l i λF r=>⟨J,_,r,G⟩
variable{Q:a0d}{c:M8}{b:Bool}
inductive p5 (K:ND) (H:Hp):V->M8->Prop where
 |o:p5 K H .o (.type "NoneType")
 |c (x:Bool):p5 K H (.c x) (.type "bool")
 |n (i:Int):p5 K H (.n i) (.type "int")
 |q (x:N8):p5 K H (.q x) (.type "str")
 |l {a:M6} {xs:a0i} (e:H a=My (.l xs)):p5 K H (.r a) (.type "list")
 |frz {a:M6} {o:Oz} {xs:a0i} (e:H a=My (.frz o (.l xs))):p5 K H (.r a) (.type "list")
 |t {a:M6} {xs:a0i} (e:H a=My (.t xs)):p5 K H (.r a) (.type "tuple")
 |ins {a C dx:M6} {L:a0E} (e:H a=My (.ins C dx L)) (cl:Yg K C) (ha:Qm K (.ref C) "__class__"=My (My (.builtin "object.__class__")))
  (hn:specialIn K (.builtin "object.__class__") "__get__"=My (My<|.builtin "getset_descriptor.__get__")) (htk:XH K (.builtin "object.__class__")=My M3)
  (hm:mroIn K C (.type "object")=My M3):p5 K H (.r a)<|.ref C
structure dv (k:Nat) (A:Om):Prop where
 hd:A.handled=M0
 dp:A.depth+3*k+5<recursionLimit
 un:A.units+16*k+200<Uy
 gd:A.guards=My []
theorem dv.mono{A:Om}(r:dv k A)(h:j<=k):dv j A:=⟨r.hd,by have:=r.dp;lia,by have:=r.un;lia,r.gd⟩
theorem dv.deeper{A:Om}(r:dv (k+1) A)(a:Vm):dv k (A.deeper a):=
 ⟨r.hd,by have:=r.dp;show A.depth+1+3*k+5<_;lia,by have:=r.un;show A.units+3+16*k+200<_;lia,r.gd⟩
theorem zf{A:Om}{C:M6}:(A.under<|.builtin "type.__call__" ⟨.ref C::i,kw⟩).depth=A.depth+1:=by
 first|rfl|simp[UE,Code.weight,Code.isCreation,Code.isGuard,Code.isCaller,Code.frames,Wt,guardIds]
theorem ze{A:Om}{C:M6}:(A.under<|.builtin "type.__call__" ⟨.ref C::i,kw⟩).units=A.units+1:=by
 first|rfl|simp[UE,Code.cUnits,Code.frames,Wt]
theorem dv.make{A:Om}(r:dv (k+1) A)(C:M6)(a:a0f)(d:List<|N8×M8):dv k (A.under<|.builtin "type.__call__" ⟨.ref C::a,d⟩):=
 ⟨r.hd,by have:=r.dp;rw[zf];lia,by have:=r.un;rw[ze];lia,by first|exact r.gd|simp[UE,Code.guards,Code.isGuard,guardIds,pushGuards,r.gd]⟩
theorem dv.p3{A:Om}(r:dv k A):A.depth<recursionLimit:=by have:=r.dp;lia
theorem dv.f5{A:Om}(r:dv k A):A.units+64<Uy:=by have:=r.un;lia
noncomputable def Jo:TA:=λ_ H Q=>Q [] H
def GH(R:TE)(a:TA):TA:=λJ H Q=>R J H λx b=>a J b λc d=>Q (x::c) d
variable{a:List Expr}{c:TE}{t:TA}
theorem f9:PA X [] Jo:=λ_ _ _ _ H Q I h=>Xy ⟨[],H,I,.nil,h⟩
theorem b9(b:PE X e c)(d:PA X a t)(f:b0a X e a:=by rfl):PA X (e::a) (GH c t):=by
 intro v N s J H Q I h;rw[f];show Nu _ _ (spliced<|(M5,OS e X.e)::Ql v (Nr a X.e)) _ _ s;refine Xf<|dy (b N s J H _ I h) λu g ⟨x,o,i,w,z⟩=>?_;exact dy (d v N g J o _ i z) λD m ⟨A,j,k,l,C⟩=>⟨x::A,j,k,.cons w l,C⟩
def Zd(t:TA):TE:=λJ H Q=>t J H λa b=>Uc a<=Nw/\∀p,b p=M0->Q (.r p) (upd b p<|.t a)
def Jp(t:TA):TE:=λJ H Q=>t J H λa b=>Uc a<=Nw/\∀p,b p=M0->Q (.r p) (upd b p<|.l a)
theorem J1{k}(h:PA X a t):PE X (.Tuple a k v) (Zd t):=by
 intro N s J H Q I i;refine wpAny_Tuple_spliced<|dy (h v N s J H _ I i) λf d ⟨l,c,g,r,z,q⟩=>⟨by rw[<-r.length];exact z,?_⟩;have j:c d.heap.objs.size=M0:=g.hok.fresh<|Nh _;refine⟨.r d.heap.objs.size,upd c d.heap.objs.size<|.t l,g.laid (t':=d.toks) (λb u e=>M4 _ e) (Nh _) ?_,rfl,q _ j⟩;exact⟨z,f,r,⟨_,NA _ rfl,rfl,_,rfl⟩⟩
theorem kG(h:PA X a t):PE X (.List a v) (Jp t):=by
 intro N s J H Q I i;refine wpAny_List_spliced<|dy (h v N s J H _ I i) λf d ⟨l,c,g,r,z,q⟩=>⟨by rw[<-r.length];exact z,?_⟩;have j:c d.heap.objs.size=M0:=g.hok.fresh<|Nh _;refine⟨.r d.heap.objs.size,upd c d.heap.objs.size<|.l l,g.laid (t':=d.toks) (λb u e=>M4 _ e) (Nh _) ?_,rfl,q _ j⟩;exact⟨z,f,0,r,NA _ rfl⟩
abbrev Sp:=a0i->Hp->VK->XK->Prop
abbrev v_:=a0B->Hp->Na->XK->M8->Na->Prop
structure ro (P:NY) (w:N6) (K:ND) (mg:a0h) (base:Op) (A:Om) (outer:a0B) (s:Na) (H:Hp):Prop where
 frames:A.frames=My outer
 mod:Mod K mg base
 bs:∀b o,base.get? b=My o->s.heap.get? b=My o/\H b=M0
 bsz:base.objs.size<=s.heap.objs.size
 funs:s.heap.FunFrames base outer
 frf:∀b∈et outer,H b=M0
 hok:i_ P w H s.heap
 bare:Td s.gens
def CE(a:a0B)(P:NY)(w:N6)(H:Hp)(s:Na)(Q:VK)(u:M8)(b:Na):Prop:=
 ∃v l,b.os=s.os/\Td b.gens/\Un (et a) [] H l s.heap b.heap/\i_ P w l b.heap/\aT v u/\Q v l
def CR(c:v_)(a:a0B)(P:NY)(w:N6)(H:Hp)(s:Na)(Q:VK)(E:XK)(r:Result)(b:Na):Prop:=
 match r with
 | .ok (.ret u)=>CE a P w H s Q u b
 | .ok _=>False
 | .error e=>c a H s E e b
structure d_ (P:NY) (w:N6) (K:ND) (mg:a0h) (base:Op) (CX:v_) (k:Nat) (f:M6) (fd:NL) (ps:a0g) (sp:Sp):Prop where
 len:∀vs H Q E,sp vs H Q E->Uc vs=Uc ps
 run:∀(A:Om) (outer:a0B) (s:Na) (H:Hp) (args:Args) (us:a0f) (vs:a0i) (Q:VK) (E:XK),dv k A->ro P w K mg base A outer s H->UU s fd args (ps.zip us)->ay vs us->sp vs H Q E->
  QO (NK P w) A (.call (.ref f) args) (CR CX outer P w H s Q E) s
theorem ro.make{P:NY}{w:N6}{K:ND}{A:Om}{s:Na}{H:Hp}(e:ro P w K k j A i s H)(C:M6)(a:a0f)(d:List<|N8×M8):
  ro P w K k j (A.under<|.builtin "type.__call__" ⟨.ref C::a,d⟩) i s H:=⟨by first|exact e.frames|(simpa[UE,Code.envs,Wt,pushEnvs]using e.frames),e.mod,e.bs,e.bsz,e.funs,e.frf,e.hok,e.bare⟩
variable{a:Na}
theorem bx.env0(I:bx X N J H s):ro X.p X.w X.K X.mg X.base X.A X.k s H:=
 ⟨I.ok.frames,I.ok.mod,I.bs,NJ I.ok.bsz I.sz,I.stack,I.stkFree,I.hok,I.bare⟩
theorem bx.after{Q:VK}(I:bx X N J H s)(h:CE X.k X.p X.w H s Q u a):EP X N J Q u a:=by
 obtain⟨v,l,f,c,o,e,r,q⟩:=h;obtain⟨j,g,d,t,i⟩:=a;obtain rfl:i=s.os:=f;exact⟨v,l,I.call (h':=j) (g':=g) (d':=d) (t':=t) (ch:=[]) o e c (λb z=>NH z<|by simp),r,q⟩
def GI(a:Sp)(d:a0i)(E:a0r)(t:TA):TE:=λJ H Q=>t J H λb c=>a (b++d) c Q<|E J
def LG(C:M6)(b:Sp)(d:a0i)(E:a0r)(t:TA):TE:=λJ H Q=>t J H λc a=>∀x dx,a x=M0->a dx=M0->dx≠x->
 b (.r x::(c++d)) (upd (upd a dx<|.u x) x<|.ins C dx []) (λv g=>v= .o/\Q (.r x) g) (E J)
def dN(K:ND)(d:NL)(b:a0g)(c:a0f):Prop:=
 ∀(s:Na) (a:a0f),K.In s.heap->Uc (a++c)=Uc b->UU s d ⟨a,[]⟩ (b.zip<|a++c)
theorem dN.all{K:ND}{a:a0g}(h:∀us:a0f,Uc us=Uc a->bindArgs i ⟨us,[]⟩=Ps (a.zip us)):dN K i a []:=λs us _ d=>by
 rw[NW]at d⊢;exact .of_eq<|h us d
def bX(b:v_)(X:Cx)(E:a0r):Prop:=∀(N:a0c) (J:St) (H:Hp) (s:Na) (e:M8) (a:Na),bx X N J H s->b X.k H s (E J) e a->X.xe e a
end
section
variable{X:Cx}{CX:v_}{k:Nat}{f C:M6}{Z:NL}{ps:a0g}{sp:Sp}{J:a0i}{L:a0f}{E:a0r}{x m:N8}{p z a:RV}{e o:Expr}{Y:List Expr}{b:TE}{t:TA}
theorem BI(F:d_ X.p X.w X.K X.mg X.base CX k f Z ps sp)(c:dv k X.A)(d:dN X.K Z ps L)(m:ay J L)(o:bX CX X E)
  (I:bx X n j H s) (r:ay l i) (h:sp (l++J) H Q<|E j):Nu (NK X.p X.w) X.A (RO (.ref f) i) (EP X n j Q) X.xe s:=by
 have b:ay (l++J) (i++L):=r.append m;have g:Uc (i++L)=Uc ps:=by rw[<-b.length];exact F.len _ _ _ _ h
 refine SG<|Q1 (F.run X.A X.k s H ⟨i,[]⟩ (i++L) (l++J) Q (E j) c I.env0 (d s i I.kIn g) b h) λr p a=>?_;cases r with
 |error e=>exact o n j H s e p I a
 |ok fl=>
  cases fl with
  |ret u=>exact I.after a
  |next=>exact O9 a
  |brk=>exact O9 a
  |cont=>exact O9 a
theorem kH(F:d_ X.p X.w X.K X.mg X.base CX k f Z ps sp)(g:dv k X.A)(i:Gl X x)(m:X.mg x=My (.ref f))(j:Se X.K (.ref f)=M3)(l:dN X.K Z ps L)(o:ay J L)(C:bX CX X E)
  (D:PA X (e::Y) t) (b:b0c x:=by decide) (n:b0a X e Y:=by rfl) (c:b0b X z Y:=by rfl):
  PE X (.Call (.Name x p) (e::Y) [] z) (GI sp J E t):=by
 intro a s u H Q I h;refine Q3<|h9 I i m ?_ b;refine WO (h₀:=X.base) I.ok.mod.kin j (dy (D z a s u H _ I h) λG v ⟨M,S,d,r,q⟩=>⟨d.kIn,?_⟩) n c;exact BI F g l o C d r q
structure Mk (K:ND) (C f:M6):Prop where
 makes:XG K C=M3
 init:Qm K (.ref C) "__init__"=My (My<|.ref f)
 fn:isFn K (.ref f)=M3
 kp:Se K (.ref C)=M3
theorem ET(M:Mk X.K C f)(F:d_ X.p X.w X.K X.mg X.base CX k f Z ps sp)(g:dv (k+1) X.A)(i:dN X.K Z ps L)(o:ay J L)
  (p:bX CX X E) (I:bx X P O H s) (r:ay R N)
  (h:∀x m,H x=M0->H m=M0->m≠x->sp (.r x::(R++J)) (upd (upd H m<|.u x) x<|.ins C m []) (λv j=>v= .o/\Q (.r x) j) (E O)):
  Nu (NK X.p X.w) X.A (RO (.ref C) N) (EP X P O Q) X.xe s:=by
 have c:=h (s.heap.objs.size+1) s.heap.objs.size (I.hok.fresh<|Sn _) (I.hok.fresh<|Nh _)<|Og<|QE _;have b:=bx.made (C:=C) I;have d:ay (V.r (s.heap.objs.size+1)::(R++J)) (Ny (s.heap.objs.size+1)::(N++L)):= .cons rfl<|r.append o;have l:Uc (Ny (s.heap.objs.size+1)::N++L)=Uc ps:=by
  have e:=d.length;rw[F.len _ _ _ _ c]at e;exact e.symm
 refine SG<|Fs (f:=f) I.kIn M.makes M.init (beq_iff_eq.mp M.fn)<|Q1 (F.run _ X.k _ _ ⟨Ny (s.heap.objs.size+1)::N,[]⟩ (Ny (s.heap.objs.size+1)::(N++L)) _ _ (E O) (g.make C N [])
  (b.env0.make C N []) (i _ (Ny (s.heap.objs.size+1)::N) b.kIn l) d c) λr t a=>?_
 cases r with
 |error e=>exact p P O _ _ e t b a
 |ok fl=>
  cases fl with
  |ret u=>
   obtain⟨v,n,q,y,B,z⟩:=b.after a;subst B;exact⟨y,⟨V.r<|s.heap.objs.size+1,n,q,rfl,z⟩⟩
  |next=>exact O9 a
  |brk=>exact O9 a
  |cont=>exact O9 a
theorem Ie(M:Mk X.K C f)(F:d_ X.p X.w X.K X.mg X.base CX k f Z ps sp)(g:dv (k+1) X.A)(i:Gl X x)(m:X.mg x=My (.ref C))(j:dN X.K Z ps L)(o:ay J L)(D:bX CX X E)
  (G:PA X (e::Y) t) (b:b0c x:=by decide) (l:b0a X e Y:=by rfl) (c:b0b X z Y:=by rfl):
  PE X (.Call (.Name x p) (e::Y) [] z) (LG C sp J E t):=by
 intro a s n H Q I h;refine Q3<|h9 I i m ?_ b;refine WO (h₀:=X.base) I.ok.mod.kin M.kp (dy (G z a s n H _ I h) λS u ⟨V,v,d,r,q⟩=>⟨d.kIn,?_⟩) l c;exact ET M F g j o D d r q
def PK(X:Cx)(b:List Wv)(t:TA):Prop:=
 ∀(z:RV) (a:a0c) (s:Na) (c:St) (H:Hp) (Q:a0i->Hp->Prop),bx X a c H s->t c H Q->Nu (NK X.p X.w) X.A (evalAll<|(Sb z<|QB b X.e).map (·.2)) (AP X a c Q) X.xe s
variable{o:a0g}{q:RV}{m:List Wv}{B:TE}{tk:TA}{F:Option N8}
theorem JU:PK X [] Jo:=λ_ _ _ _ H Q I h=>wpAny_evalAll_nil ⟨[],H,I,.nil,h⟩
theorem HY(f:PE X e B)(c:PK X m t):PK X (⟨F,e,q⟩::m) (GH B t):=by
 intro z a s b H Q I h;show Nu _ _ (evalAll<|(do let v <-OS e X.e;Sg z;Ps v)::(Sb z<|QB m X.e).map (·.2)) _ _ s
 refine wpAny_evalAll_cons<|MY<|dy (f a s b H _ I h) λu d ⟨x,k,g,o,p⟩=>MY<|Pg<|M1 ?_;exact dy (c z a d b k _ g p) λE n ⟨C,i,j,l,D⟩=>⟨x::C,i,j,.cons o l,D⟩
structure ri (K:ND) (Z:NL) (ps o:a0g) (g:a0f->a0f->a0f) (gV:a0i->a0i->a0i):Prop where
 to:∀(s:Na) (us ws:a0f),K.In s.heap->Uc (g us ws)=Uc ps->UU s Z ⟨us,o.zip ws⟩ (ps.zip<|g us ws)
 rel:∀{vs:a0i} {us:a0f} {zs:a0i} {ws:a0f},ay vs us->ay zs ws->ay (gV vs zs) (g us ws)
def Js(sp:Sp)(b:a0i->a0i->a0i)(E:a0r)(t tk:TA):TE:=λa H Q=>t a H λe f=>tk a f λc d=>sp (b e c) d Q<|E a
variable{g:a0f->a0f->a0f}{C:a0i->a0i->a0i}
theorem HN(F:d_ X.p X.w X.K X.mg X.base CX k f Z ps sp)(d:dv k X.A)(b:ri X.K Z ps o g C)(m:bX CX X E)
  (I:bx X v n H s) (r:ay y l) (i:ay zs ws) (h:sp (C y zs) H Q<|E n):Nu (NK X.p X.w) X.A (RO (.ref f) l<|o.zip ws) (EP X v n Q) X.xe s:=by
 have c:=b.rel r i;have j:Uc (g l ws)=Uc ps:=by rw[<-c.length];exact F.len _ _ _ _ h
 refine SG<|Q1 (F.run X.A X.k s H ⟨l,o.zip ws⟩ (g l ws) (C y zs) Q (E n) d I.env0 (b.to s l ws I.kIn j) c h) λr p a=>?_;cases r with
 |error e=>exact m v n H s e p I a
 |ok fl=>
  cases fl with
  |ret u=>exact I.after a
  |next=>exact O9 a
  |brk=>exact O9 a
  |cont=>exact O9 a
theorem Fc(F:d_ X.p X.w X.K X.mg X.base CX k f Z ps sp)(u:dv k X.A)(v:Gl X x)(D:X.mg x=My (.ref f))(y:Se X.K (.ref f)=M3)(B:ri X.K Z ps o g C)(G:bX CX X E)
  (M:PA X (e::Y) t) (c:PK X m tk) (b:(Sb z<|QB m X.e).all (·.1.isSome)=M3:=by rfl) (d:(Sb z<|QB m X.e).filterMap (·.1)=o:=by rfl)
  (i:b0c x:=by decide) (J:b0a X e Y:=by rfl)
  (j:((Ql z<|Nr (e::Y) X.e).any (·.1)||(Sb z (QB m X.e)).any (·.1.isNone))=M5:=by rfl):
  PE X (.Call (.Name x p) (e::Y) m z) (Js sp C E t tk):=by
 intro a s l H Q I h;refine Q3<|h9 I v D ?_ i;refine PySem.W.callWith_KW (h₀:=X.base) I.ok.mod.kin y b (dy (M z a s l H _ I h) λus L ⟨vs,S,N,r,q⟩=>?_) j J;refine dy (c z a L l S _ N q) λP R ⟨T,U,n,O,V⟩=>⟨n.kIn,?_⟩;rw[d];exact HN F u B G n r O V
structure bc (N P:a0g) (sc:Scope):Prop where
 kind:sc.kind= .function
 co:sc.isCoroutine=M5
 gen:sc.isGenerator=M5
 nd:N.Nodup
 pre:N.take (Uc P)=P
 par:∀x∈P,sc.names.lookup x=My .local\/sc.names.lookup x=My .cell
 nofree:∀y∈sc.names,y.2≠ .free
theorem ul{b:N8->Option Rk}{x:N8}:∀{a:List (N8×M8)} {m:a0h},(∀v,(x,v)∉a)->XQ b a m x=m x
 |[],_,_=>rfl
 |(n,v)::r,m,h=>by
  unfold XQ;rw[ul λw c=>h w<|M2 _ c];split
  .have:x≠n:=by rintro rfl;exact h v M7
   simp[this]
  .rfl
theorem uo{b:N8->Option Rk}{x:N8}:∀{a:List (N8×M8)} {m:a0h},(∀v,(x,v)∉a)->XO b a m x=m x
 |[],_,_=>rfl
 |(n,v)::r,m,h=>by
  unfold XO;rw[uo λw c=>h w<|M2 _ c];split
  .rfl
  .have:x≠n:=by rintro rfl;exact h v M7
   simp[this]
theorem um{a:N8->Option Rk}{x:N8}{v:M8}:∀{P:a0g} {e:a0f} {i:Nat} {m:a0h},P.Nodup->P[i]?=My x->e[i]?=My v->a x=My .local->
  XQ a (P.zip e) m x=My v
 |[],_,_,_,_,h,_,_=>by simp at h
 |_::_,[],_,_,_,_,h,_=>by simp at h
 |p::P,w::e,0,m,nd,h1,h2,hk=>by
  simp at h1 h2;subst h1;subst h2;show XQ a ((p,w)::P.zip e) m p=_;unfold XQ;rw[ul λv b=>(N2.mp nd).1 (Vs b).1,Ng hk];simp
 |p::P,w::e,i+1,m,nd,h1,h2,hk=>by
  show XQ a ((p,w)::P.zip e) m x=_;unfold XQ;exact um (i:=i) (N2.mp nd).2 (by simpa using h1) (by simpa using h2) hk
theorem uq{a:N8->Option Rk}{x:N8}{v:M8}:∀{P:a0g} {e:a0f} {i:Nat} {m:a0h},P.Nodup->P[i]?=My x->e[i]?=My v->a x≠My .local->
  XO a (P.zip e) m x=My v
 |[],_,_,_,_,h,_,_=>by simp at h
 |_::_,[],_,_,_,_,h,_=>by simp at h
 |p::P,w::e,0,m,nd,h1,h2,hk=>by
  simp at h1 h2;subst h1;subst h2;show XO a ((p,w)::P.zip e) m p=_;unfold XO;rw[uo λv b=>(N2.mp nd).1 (Vs b).1,Nf hk];simp
 |p::P,w::e,i+1,m,nd,h1,h2,hk=>by
  show XO a ((p,w)::P.zip e) m x=_;unfold XO;exact uq (i:=i) (N2.mp nd).2 (by simpa using h1) (by simpa using h2) hk
noncomputable def gh(N:a0g)(a:a0i):St:=a.map My++NB (Uc N-Uc a) M0
noncomputable def dz(CX:v_)(P:NY)(w:N6)(K:ND)(mg:a0h)(base:Op)(N:a0g)(a:N8)(g:Scope)(f:M6)(k:M8)(A:Om)(outer:a0B)(s:Na)(H:Hp)(E:XK):Cx where
 p:=P
 w:=w
 K:=K
 mg:=mg
 base:=base
 A:=A.deeper (RP a g s.heap.objs.size f k)
 N:=N
 s₀:=s
 H₀:=H
 e:=RP a g s.heap.objs.size f k
 outer:=outer
 k:=RP a g s.heap.objs.size f k::outer
 ex:=[]
 calm:=M3
 fn:=λ_=>M3
 pn:=[]
 xe:=λe m=>Nu (NK P w) (A.deeper<|RP a g s.heap.objs.size f k) (leaving (RP a g s.heap.objs.size f k) e) (λ_ b=>CX outer H s E e b) (λc b=>CX outer H s E c b) m
theorem wQ{a:Scope}{x:N8}(h:a.names.lookup x=My .cell):∃c,(Pm n a.names []).lookup x=My c:=by
 have q:=WQ a.names n []<|.inl h;exact VT.mp q
theorem CZ{CX:v_}{K:ND}{N ps:a0g}{g:Scope}{f:M6}{A:Om}{s L:Na}{E:XK}{m:a0i}
  (S:bc N ps g) (o:A.handled=M0) (j:ro P w K mg base A outer s H) (U:Uc m=Uc ps) (r:ay m us)
  (x:InCallC s s.heap.objs.size (XQ (RP qual g s.heap.objs.size f cd).kindOf (ps.zip us) λ_=>M0) (Pm (s.heap.objs.size+1) g.names []) (XO (RP qual g s.heap.objs.size f cd).kindOf (ps.zip us) λ_=>M0) L):
  bx (dz CX P w K mg base N qual g f cd A outer s H E) [] (gh N m) H L:=by
 have R:Uc ps<=Uc N:=by have:=OG Uc S.pre;rw[Oe]at this;lia
 obtain⟨I,tk,rfl,O⟩:=x.done;have l:∀b:M6,b∉(dz CX P w K mg base N qual g f cd A outer s H E).ex:=λb z=>NH (show b∈([]:a0n)from z) (by simp);refine⟨⟨j.mod,S.kind,rfl,rfl,Nh _,λy z c I d=>?_,λy hy=>?_,λy c _ h=>?_,λ_=>o,Around.frames_deeper j.frames,.inr ⟨rfl,rfl⟩,λb z=>NH z<|l b,j.bs,j.bsz,λb _ _=>l b,λb z=>NH z<|l b,j.funs,j.frf⟩,
  rfl,j.bare,Un.kept O,⟨_,x.toInCall.ns,λi y v I d W=>?_⟩,λy c h=>⟨_,x.cell y c h⟩,j.hok.fresh<|Nh _,λy c h=>?_,λp B=>NH (show p∈([]:a0c)from B) (by simp),j.hok.kept O,?_⟩
 .exact name_of_addr x.apart (OU I) (OU d)
 .have hy:g.names.lookup y=My .cell\/g.names.lookup y=My .free:=hy
  rcases hy with hy|hy
  .exact wQ hy
  .exact NH rfl (S.nofree _<|OU hy)
 .exact OA (x.above y c<|OU h)
 .have J:i<Uc m:=by
   unfold gh at d;by_cases J:i<Uc m
   .exact J
   .rw[OE<|by simpa using J]at d
    rw[Pz]at d;split at d<;>cases d
  have t:m[i]?=My v:=by
   unfold gh at d;rw[PU (by simpa using J),Nk]at d;cases e:m[i]? with
   |none=>rw[e]at d;cases d
   |some a=>rw[e]at d;cases d;rfl
  obtain⟨u,Q,T⟩:=r.get t;have B:ps[i]?=My y:=by
   rw[<-S.pre,Wa<|by lia];exact I
  have F:ps.Nodup:=by rw[<-S.pre];exact S.nd.sublist<|List.take_sublist _ _
  refine⟨u,T,?_⟩;rcases S.par y (Nq B)with k|k
  .exact .inl ⟨k,um F B Q k⟩
  .obtain⟨c,e⟩:=wQ (n:=s.heap.objs.size+1) k
   refine .inr ⟨.inl k,c,e,?_⟩;have q:=x.cell y c e;rw[uq F B Q (by show g.names.lookup y≠_;rw[k];decide)]at q;exact q
 .exact j.hok.fresh (OA<|x.above y c<|OU h)
 .unfold gh
  show _=Uc N;rw[Ni,MZ,Pq];lia
theorem Hc{CX:v_}{K:ND}{k:Nat}{f:M6}
  {N ps:a0g} {sp:Sp} (U:K.lookup f=My ⟨oc,od,.func<|RG name qual params body scope dV kV doc pm an cdv ct,osl⟩) (B:SA K cdv qual=M3) (S:bc N ps scope)
  (z:∀m H Q E,sp m H Q E->Uc m=Uc ps)
  (d:∀(A:Om) (g:a0B) (s:Na) (H:Hp) (m:a0i) (Q:VK) (E:XK),dv k (A.deeper<|RP qual scope s.heap.objs.size f cdv)->sp m H Q E->
   ∃t,PSs (dz CX P w K mg base N qual scope f cdv A g s H E) body t/\t {nx:=λ_ c=>Q .o c,rt:=Q} (gh N m) H):
  d_ P w K mg base CX (k+1) f (RG name qual params body scope dV kV doc pm an cdv ct) ps sp:=by
 refine⟨z,λA g s H D G m Q E F i Y r j=>?_⟩;have Z:=z _ _ _ _ j;have R:K.In s.heap:=i.mod.kin.keeps λb o e=>(i.bs b o e).1;have L:s.heap.NoLimit:=i.mod.nolimit.keeps λb o e=>(i.bs b o e).1;have h:∀y∈ps.zip G,scope.names.lookup y.1=My .local\/(scope.names.lookup y.1=My .cell/\((Pm (s.heap.objs.size+1) scope.names []).lookup y.1).isSome=M3):=λ⟨n,v⟩ M=>by
  rcases S.par n (Vs M).1 with q|q
  .exact .inl q
  .exact .inr ⟨q,WQ _ _ _<|.inl q⟩
 refine codeAny_call_function F.p3 (R _ _ U) rfl S.co S.gen rfl (PySem.W.codeRec_of R B)<|Y _ _ _ _ ?_;refine wpAny_newFunctionEnv_cells S.kind h λX he T x=>?_;subst he;refine⟨L.keeps x.toInCall.keep,codeAny_func ?_⟩;obtain⟨t,ht,hq⟩:=d A g s H m Q E (F.deeper _) j;have I:bx (dz CX P w K mg base N qual scope f cdv A g s H E) [] (gh N m) H T:=CZ S F.hd i Z r x;refine Od (ht [] T (gh N m) H _ I hq) (λfl C p=>?_) λe C p=>p;have l:∀{a:St} {c:Hp} {v:V} {u:M8},bx (dz CX P w K mg base N qual scope f cdv A g s H E) [] a c C->aT v u->Q v c->CE g P w H s Q u C:=
  λ{a c v u} J O q=>⟨v,c,J.os,J.bare,J.base,J.hok,O,q⟩
 cases fl with
 |ret u=>
  obtain⟨v,a,c,J,O,q⟩:=p;exact l J O q
 |next=>
  obtain⟨a,c,J,q⟩:=p;exact l (v:=V.o) (u:=Ov) J rfl q
 |brk=>
  obtain⟨_,_,_,q⟩:=p;exact O9 q
 |cont=>
  obtain⟨_,_,_,q⟩:=p;exact O9 q
variable{f T:String}{r:a0G}
def Zj(r:a0G)(t:TA):TE:=λa H Q=>t a H λb e=>r b e Q
theorem lf(i:dM X (.builtin f) r)(j:Gl X x)(g:X.mg x=M0)(l:Rw x=My (.builtin f))(k:PA X (e::Y) t)(m:x≠"__name__":=by decide)(b:b0c x:=by decide)
  (n:b0a X e Y:=by rfl) (c:b0b X z Y:=by rfl):PE X (.Call (.Name x p) (e::Y) [] z) (Zj r t):=by
 intro a s d H Q I h;refine Q3<|gT I j g l ?_ m b;exact Ug (dy (k z a s d H _ I h) λo q ⟨B,C,u,D,E⟩=>i a q d C B o Q u D E) n c
theorem tK(i:dM X (.type T) r)(j:Gl X x)(f:X.mg x=M0)(l:Rw x=My (.type T))(g:PA X (e::Y) t)(k:x≠"__name__":=by decide)(b:b0c x:=by decide)
  (n:b0a X e Y:=by rfl) (c:b0b X z Y:=by rfl):PE X (.Call (.Name x p) (e::Y) [] z) (Zj r t):=by
 intro a s d H Q I h;refine Q3<|gT I j f l ?_ k b;exact O1 (dy (g z a s d H _ I h) λm q ⟨o,B,u,C,D⟩=>i a q d B o m Q u C D) n c
end
end L2
namespace HT
section
open PySem.SeqAt
open PySem.AutoSeq1 (wpAny_loadPart')
open PySem.MeetsSeq PySem.MeetsSeq2 PySem.MeetsSeq3
end
section
variable{x:NY}{w:N6}{A:Om}{E:a0d}{s:Na}
theorem cat_tup{D a:a0f}(u:IsTup s.heap t D.toArray)(v:IsTup s.heap b a.toArray)(m:D≠[])
  (y:a=[]->Q (.ref t) s) (B:a≠[]->Q (.ref s.heap.objs.size) {s with heap:=s.heap.push {cls:= .type "tuple",data:= .seq (D++a).toArray}})
  (k:Uc D+Uc a<=Nw):Nu (NK x w) A (Qt .Add (.ref t)<|.ref b) Q E s:=by
 obtain⟨⟨cls,G,data,o⟩,i,p,n,K⟩:=id u;obtain⟨⟨q,d,l,f⟩,c,g,r,h⟩:=id v;simp only at p K g h;subst p K g h;have e:D.toArray++a.toArray=(D++a).toArray:=by simp
 by_cases j:a=[]
 .exact concat_meets ⟨_,i,rfl⟩ ⟨_,c,rfl⟩ V5 Xu Ts Tg (S5 _ _)
   (tuple_addW1 t b D.toArray a.toArray n r G d o f (by simpa using m)<|by simp[j]) ⟨i,c,y j⟩
 .refine concat_meets ⟨_,i,rfl⟩ ⟨_,c,rfl⟩ V5 Xu Ts Tg (S5 _ _)
   (tuple_addW2 t b D.toArray a.toArray n r G d o f (by simpa using m) (by simpa using j)<|by rw[NG,NG];exact k) ⟨i,c,?_⟩
  rw[e];exact B j
noncomputable def sIx(n d:Nat):a0q->Nat
 |none=>d
 |some v=>if v<0 then(v+(n:Int)).toNat else Q2 v.toNat n
theorem sIx_none(n d:Nat):sIx n d M0=d:=rfl
theorem sIx_nat(n d k:Nat):sIx n d (My (k:Int))=Q2 k n:=by
 show(if(k:Int)<0 then((k:Int)+(n:Int)).toNat else Q2 (k:Int).toNat n)=Q2 k n;rw[Nf (by lia),Pn]
end
end HT
namespace L2
abbrev TO:=St->Hp->(a0q->Hp->Prop)->Prop
def PO(X:Cx)(e:Option Expr)(t:TO):Prop:=
 ∀(a:a0c) (s:Na) (b:St) (H:Hp) (Q:a0q->Hp->Prop),bx X a b H s->t b H Q->
  Nu (NK X.p X.w) X.A (evalPart e X.e) (λu D=>∃o c,bx X a b c D/\IsPart u o/\Q o c) X.xe s
noncomputable def HF:TO:=λ_ H Q=>Q M0 H
def LD(t:TE):TO:=λa H Q=>t a H λx D=>∃i,x= .n i/\Q (My i) D
theorem lE{D:a0b}:∀{E:a0f},ay (D.map V.n) E->Wu E D:=by
 induction D with
 |nil=>intro E r;rw[Qj]at r;cases r;exact .nil
 |cons n D G=>
  intro E r;rw[Nv]at r;cases r with
  |cons K a=>
   obtain⟨t,e⟩:=K;subst e;exact .cons n t<|G a
section
variable{X:Cx}{e:Expr}{Y:TE}{R U:Option Expr}{tl th:TO}{Z p2:RV}
theorem xF:PO X M0 HF:=by
 intro a s b H Q I h;rw[Xr];exact M1 ⟨M0,H,I,.none,h⟩
theorem xE(h:PE X e Y):PO X (My e) (LD Y):=by
 intro a s b H Q I c;rw[evalPart_some];refine dy (h a s b H _ I c) λu f ⟨x,D,d,E,G⟩=>?_;obtain⟨i,rfl,q⟩:=G;obtain⟨t,rfl⟩:=E;exact⟨My i,D,d,.int i t,q⟩
def SlR(X:Cx)(r:V->a0q->a0q->Hp->VK->Prop):Prop:=
 ∀(a:a0c) (s:Na) (b:St) (H:Hp) (x:V) (v c d:M8) (R U:a0q) (f:M6) (Q:VK),bx X a b H s->aT x v->s.heap.IsSliceOf f c d .none->IsPart c R->IsPart d U->r x R U H Q->
  ∃T g,typeLookup (.type T) "__getitem__"=Ps (My<|.builtin g)/\s.TypeIs v T/\Nu (NK X.p X.w) X.A (getItem v<|.ref f) (EP X a b Q) X.xe s
def tSl(r:V->a0q->a0q->Hp->VK->Prop)(Y:TE)(tl th:TO):TE:=λa H Q=>Y a H λx e=>tl a e λl b=>th a b λu c=>r x l u c Q
theorem o9(j:SlR X r)(k:PE X e Y)(m:PO X R tl)(n:PO X U th):PE X (.Subscript e (.Slice R U M0 p2) Z) (tSl r Y tl th):=by
 intro a s d H Q I h;refine Subscript_<|dy (k a s d H _ I h) λv o ⟨x,D,p,E,G⟩=>?_;refine wpAny_Slice<|dy (m a o d D _ p G) λf t ⟨l,y,B,K,M⟩=>dy (n a t d y _ B M) λg c ⟨u,i,C,S,V⟩=>?_;rw[Xr];refine M1 ?_;have F:bx X a d i {c with heap:=c.heap.push {cls:= .type "slice",data:= .fields #[f,g,.none]}}:=C.kept (t':=c.toks) λb O q=>M4 _ q;obtain⟨T,P,J,L,N⟩:=j a {c with heap:=c.heap.push {cls:= .type "slice",data:= .fields #[f,g,.none]}} d i x v f g l u c.heap.objs.size Q F E (Vp ..) K S V;show Nu (NK X.p X.w) X.A (Xv e (.Slice R U M0 p2) v<|.ref c.heap.objs.size) (EP X a d Q) X.xe {c with heap:=c.heap.push {cls:= .type "slice",data:= .fields #[f,g,.none]}};exact tail_any (ops:=[.ref c.heap.objs.size,v]) L J N (by with_unfolding_all rfl)
noncomputable def m5(e:a0i)(R U:a0q):a0i:=(e.drop<|HT.sIx (Uc e) 0 R).take<|HT.sIx (Uc e) (Uc e) U-HT.sIx (Uc e) 0 R
theorem w6(e:a0i)(R U:a0q):Uc (m5 e R U)<=Uc e:=by
 unfold m5;rw[Oe,QC];lia
def yV(K:ND):R2:=λx y H Q=>∃a b D e,x= .r a/\y= .r b/\hU K H a D/\hU K H b e/\D≠[]/\Uc D+Uc e<=Nw/\
 (e=[]->Q (.r a) H)/\(e≠[]->∀p,H p=M0->Q (.r p) (upd H p<|.t<|D++e))
theorem ay.nil_iff(r:ay a b):b=[]↔a=[]:=by
 cases r with
 |nil=>simp
 |cons _ _=>simp
theorem Io:f0 X (Qt .Add) (yV X.K):=by
 intro d s m H x y v u Q I i j h;obtain⟨a,b,D,E,rfl,rfl,G,k,M,f,R,S⟩:=h;cases i;cases j;obtain⟨U,e,l,_⟩:=I.tuple G;obtain⟨g,c,p2,_⟩:=I.tuple k;refine HT.cat_tup l p2 (λz=>M<|e.nil_iff.mp z) (λz=>⟨.r a,H,I,rfl,R<|c.nil_iff.mp z⟩) (λz=>?_) (by rw[<-e.length,<-c.length];exact f);refine⟨.r s.heap.objs.size,_,I.laid (t':=s.toks) (o:= .t<|D++E) (λb n q=>M4 _ q) (Nh _) ?_,rfl,S (λw=>z<|c.nil_iff.mpr w) _<|I.hok.fresh<|Nh _⟩;exact⟨by rw[Ni];exact f,_,e.append c,X3 _ _⟩
noncomputable def lb(n:Nat)(i:Int):a0H:=if 0<=i then(if i<n then My i.toNat else M0)else if -(n:Int)<=i then My (i+n).toNat else M0
def p4{e:Type}(xs:List e)(i:Int):Option e:=(lb (Uc xs) i).bind λj=>xs[j]?
theorem x3(h:lb n i=My j):seqIndex? i n=My j/\j<n/\-(n:Int)<=i/\i<n:=by
 unfold lb at h;by_cases b:0<=i
 .rw[Ng b]at h
  by_cases a:i<n
  .rw[Ng a]at h
   have e:i.toNat=j:=N0 h;exact⟨by rw[seqIndex_of b a,e],by lia,by lia,a⟩
  .rw[Nf a]at h;cases h
 .rw[Nf b]at h
  by_cases a:-(n:Int)<=i
  .rw[Ng a]at h
   have e:(i+n).toNat=j:=N0 h;exact⟨by rw[Yb (by lia) a,e],by lia,a,by lia⟩
  .rw[Nf a]at h;cases h
theorem yq{E:Type}{D:List E}{i:Int}{v:E}(h:p4 D i=My v):∃j,seqIndex? i (Uc D)=My j/\D[j]?=My v/\j<Uc D/\-(Uc D:Int)<=i/\i<Uc D:=by
 unfold p4 at h;cases e:lb (Uc D) i with
 |none=>rw[e]at h;cases h
 |some j=>
  rw[e]at h;obtain⟨a,b,c,d⟩:=x3 e;exact⟨j,a,h,b,c,d⟩
theorem I9{E:Type}{D:List E}{j:Nat}{v:E}(h:D[j]?=My v):p4 D (j:Int)=My v:=by
 have a:j<Uc D:=(Nd.mp h).1;have e:lb (Uc D) (j:Int)=My j:=by
  unfold lb;rw[Ng (by lia),Ng<|by lia];simp
 unfold p4;rw[e];exact h
def yt(b:Expr):Prop:=∀o i,subscripted b M5 o i=operate [o,i] (getItem o i)
def vr(X:Cx)(r:R2):Prop:=
 ∀(c a:Expr) (b:a0c) (s:Na) (d:St) (H:Hp) (x y:V) (v u:M8) (Q:VK),bx X b d H s->aT x v->aT y u->r x y H Q->
  subscripted a M5 v u=operate [v,u] (getItem v u)->Nu (NK X.p X.w) X.A (Xv c a v u) (EP X b d Q) X.xe s
def MtR(X:Cx)(c:String)(r:a0T):Prop:=
 ∀(a:a0c) (s:Na) (b:St) (H:Hp) (x:V) (e:a0i) (v:M8) (D:a0f) (Q:VK),bx X a b H s->aT x v->ay e D->r x e H Q->
  Nu (NK X.p X.w) X.A (RO (.builtin c)<|v::D) (EP X a b Q) X.xe s
variable{a b:Expr}{L B:TE}
theorem vr.or(h:vr X r)(b:vr X k):vr X (λx y H Q=>r x y H Q\/k x y H Q):=by
 intro c d f s g H x y v u Q I i j q a;rcases q with q|q
 .exact h c d f s g H x y v u Q I i j q a
 .exact b c d f s g H x y v u Q I i j q a
theorem gn(d:vr X r)(e:PE X a L)(f:PE X b B)(D:yt b):PE X (.Subscript a b Z) (P_ r L B):=by
 intro c s g H Q I h;exact Subscript_<|Gk e f I h λv u i x y j k l m q=>d a b c i g j x y v u Q k l m q<|D _ _
def yU(K:ND):R2:=λx y H Q=>∃p a i v,x= .r p/\y= .n i/\en K H p a/\p4 a i=My v/\Q v H
def EU(K:ND):R2:=λx y H Q=>∃p a i v,x= .r p/\y= .n i/\hU K H p a/\p4 a i=My v/\Q v H
theorem dF:vr X (yU X.K):=by
 intro g k c s n H x y v u Q I B C h e;obtain⟨p,E,i,z,rfl,rfl,F,J,q⟩:=h;cases B;obtain⟨t,rfl⟩:=C;obtain⟨a,r,b,P⟩:=I.list F;obtain⟨j,f,L,R,N,h5⟩:=yq J;obtain⟨w,o,l⟩:=r.get L;have O:=r.length;have G:=mR;have d:EP X c n Q w s:=⟨z,H,I,l,q⟩;by_cases A:0<=i
 .have m:i.toNat=j:=by
   rw[seqIndex_of A h5]at f;exact N0 f
  exact item_listR b.isList A (by lia) (by rw[m];simpa using o) d e
 .have m:(i+(a.toArray.size:Int)).toNat=j:=by
   rw[Yb (by lia) N]at f;rw[NG,<-O];exact N0 f
  exact Uq (x:=w) b.isList.typeIs slot_list_getitem.lookup
   (wpAny_getItem_list_neg (Q:=λr D=>r=w/\EP X c n Q r D) b.isList (by lia) (by rw[NG]<;>lia) (by lia) (by rw[m];simpa using o) ⟨rfl,d⟩) e
theorem KP:vr X (EU X.K):=by
 intro d f c s l H x y v u Q I m n h b;obtain⟨p,E,i,z,rfl,rfl,o,A,q⟩:=h;cases m;obtain⟨t,rfl⟩:=n;obtain⟨e,r,a,L⟩:=I.tuple o;obtain⟨j,B,C,N,O,h5⟩:=yq A;obtain⟨w,F,g⟩:=r.get C;have J:=r.length;have G:=mR;have k:EP X c l Q w s:=⟨z,H,I,g,q⟩;exact Uq (x:=w) a.typeIs slot_tuple_getitem.lookup
  (getItem_tuple (j:=j) (Q:=λr D=>r=w/\EP X c l Q r D) a (by lia) (by lia) (by rw[NG,<-J];exact B) (by simpa using F) ⟨rfl,k⟩) b
theorem zd(a:a0f)(n j:Nat)(u:M8):Pl (·.setIfInBounds j u) {cls:= .type "list",data:= .seq a.toArray n}={cls:= .type "list",data:= .seq (a.set j u).toArray n}:=by
 simp[Pl]
theorem bx.lst{s:Na}{xs:a0i}(I:bx X c d H s)(h:H p=My (.l xs)):
  ∃(a:a0f) (n:Nat),ay xs a/\s.heap.get? p=My {cls:= .type "list",data:= .seq a.toArray n}/\Uc xs<=Nw:=by
 obtain⟨z,a,n,r,e⟩:=I.hok p _ h;exact⟨a,n,r,e,z⟩
theorem bx.lstUpd{s:Na}{E D:a0i}{B a:a0f}(I:bx X j k H s)(h:H p=My (.l E))
  (d:s.heap.get? p=My {cls:= .type "list",data:= .seq B.toArray n}) (c:f {cls:= .type "list",data:= .seq B.toArray n}={cls:= .type "list",data:= .seq a.toArray n'}) (r:ay D a) (g:Uc D<=Nw) (t:Nat):
  bx X j k (upd H p<|.l D) {s with heap:=s.heap.update p f,toks:=t}:=by
 have e:(s.heap.update p f).get? p=My {cls:= .type "list",data:= .seq a.toArray n'}:=by
  rw[O6 f d (by rw[c]<;>rfl),c]
 refine I.write (x:=p) (e:=p) (by rw[h];trivial) (.inl rfl) (λb u i q=>(Qi _ _<|Ne.symm i).trans q) ⟨_,e⟩ ?_;exact⟨g,a,n',r,e⟩
def qq:V->V->V->Hp->(Hp->Prop)->Prop:=λo i v H Q=>∃p a k j,o= .r p/\i= .n k/\H p=My (.l a)/\lb (Uc a) k=My j/\Q (upd H p<|.l<|a.set j v)
theorem bZ:Ll X qq:=by
 intro c s C H o i v P R u Q I F J L h;obtain⟨p,b,k,j,rfl,rfl,m,N,q⟩:=h;cases F;obtain⟨t,rfl⟩:=J;obtain⟨a,n,r,f,O⟩:=I.lst m;obtain⟨d,T,w,y⟩:=x3 N;have g:=r.length;have e:=mR;have A:bx X c C (upd H p<|.l<|b.set j v) {s with heap:=s.heap.update p (Pl (·.setIfInBounds j u))}:=
  I.lstUpd m f (zd a n j u) (r.set L j) (by rw[N9];exact O) s.toks
 by_cases B:0<=k
 .have l:k.toNat=j:=by
   rw[seqIndex_of B y]at d;exact N0 d
  exact PySem.W.ki_setAt f B (by lia) (by rw[NG,<-g];exact y) (by rw[l];exact⟨_,A,q⟩)
 .have l:(k+(a.toArray.size:Int)).toNat=j:=by
   rw[Yb (by lia) w]at d;rw[NG,<-g];exact N0 d
  exact PySem.W.ki_setBack f (by lia) (by rw[NG,<-g];exact w) (by lia) (by rw[l];exact⟨_,A,q⟩)
theorem vn(R U:a0q)(n:Nat):(Rm R U M0 n).1=((HT.sIx n 0 R:Nat):Int)/\(Rm R U M0 n).2.1=((HT.sIx n n U:Nat):Int)/\(Rm R U M0 n).2.2=1:=by
 refine⟨?_,?_,rfl⟩
 .cases R with
  |none=>simp[Rm,HT.sIx]
  |some i=>
   simp only[Rm,HT.sIx,XA,show(1:Int)>0 by decide,Ol];by_cases h:i<0
   .simp only[h,Ol]<;>lia
   .simp only[h,Oy]<;>lia
 .cases U with
  |none=>simp[Rm,HT.sIx]
  |some i=>
   simp only[Rm,HT.sIx,XA,show(1:Int)>0 by decide,Ol];by_cases h:i<0
   .simp only[h,Ol]<;>lia
   .simp only[h,Oy]<;>lia
theorem ut(a:a0f)(R U:a0q):XV a.toArray R U M0=((a.drop<|HT.sIx (Uc a) 0 R).take<|HT.sIx (Uc a) (Uc a) U-HT.sIx (Uc a) 0 R).toArray:=by
 obtain⟨c,d,f⟩:=vn R U a.toArray.size;unfold XV;rw[c,d,f];simp only[sliceRange_one,pick_run,NG]<;>rfl
def Zq(K:ND):V->a0q->a0q->Hp->VK->Prop:=λx R U H Q=>∃a b,x= .r a/\en K H a b/\∀p,H p=M0->Q (.r p) (upd H p<|.l<|m5 b R U)
theorem rG:SlR X (Zq X.K):=by
 intro d s j H x v k l R U m Q I g B D E h;obtain⟨a,e,rfl,G,q⟩:=h;cases g;obtain⟨L,r,f,i⟩:=I.list G;have c:=r.length;refine⟨"list",_,slot_list_getitem.lookup,f.isList.typeIs,?_⟩;refine Xw f.isList B D E .none (by simp) ?_ (by rw[NG]<;>lia)
 rw[ut,<-c];refine⟨.r s.heap.objs.size,_,I.laid (t':=s.toks) (o:= .l<|m5 e R U) (λb n q=>M4 _ q) (Nh _) ?_,rfl,q _<|I.hok.fresh<|Nh _⟩;exact⟨NJ (w6 e R U) i,_,0,(r.drop<|HT.sIx (Uc e) 0 R).take<|HT.sIx (Uc e) (Uc e) U-HT.sIx (Uc e) 0 R,NA _ rfl⟩
noncomputable def iq:V->Bool
 | .o=>M3
 | .c _=>M3
 | .n _=>M3
 | .q _=>M3
 |_=>M5
noncomputable def zv:V->V->Bool
 | .o,.o=>M3
 | .c a,.c b=>a==b
 | .c a,.n b=>(if a then 1 else 0)==b
 | .n a,.c b=>a==(if b then 1 else 0)
 | .n a,.n b=>a==b
 | .q a,.q b=>a==b
 |_,_=>M5
theorem K7(d:aT y u)(c:aT x v)(g:iq y=M3)(f:iq x=M3):SeqAt.EqAt A s u v (zv y x):=by
 cases y with
 |o=>
  cases d;cases x with
  |o=>cases c;exact SeqAt.EqAt.same _
  |c b=>cases c;exact SeqAt.EqAt.none_bool b
  |n b=>obtain⟨t,rfl⟩:=c;exact SeqAt.EqAt.none_int b t
  |q b=>obtain⟨t,rfl⟩:=c;exact SeqAt.EqAt.none_str b t
  |_=>exact NH (show M5=M3 from f) Nb
 |c a=>
  cases d;cases x with
  |o=>cases c;exact SeqAt.EqAt.bool_none a
  |c b=>cases c;exact SeqAt.EqAt.bool_bool a b
  |n b=>obtain⟨t,rfl⟩:=c;exact SeqAt.EqAt.bool_int a b t
  |q b=>obtain⟨t,rfl⟩:=c;exact SeqAt.EqAt.bool_str a b t
  |_=>exact NH (show M5=M3 from f) Nb
 |n a=>
  obtain⟨e,rfl⟩:=d;cases x with
  |o=>cases c;exact SeqAt.EqAt.int_none a e
  |c b=>cases c;exact SeqAt.EqAt.int_bool a e b
  |n b=>obtain⟨t,rfl⟩:=c;exact SeqAt.EqAt.int_int a e b t
  |q b=>obtain⟨t,rfl⟩:=c;exact SeqAt.EqAt.int_str a e b t
  |_=>exact NH (show M5=M3 from f) Nb
 |q a=>
  obtain⟨e,rfl⟩:=d;cases x with
  |o=>cases c;exact SeqAt.EqAt.str_none a e
  |c b=>cases c;exact SeqAt.EqAt.str_bool a e b
  |n b=>obtain⟨t,rfl⟩:=c;exact SeqAt.EqAt.str_int a e b t
  |q b=>obtain⟨t,rfl⟩:=c;exact SeqAt.EqAt.str_str a e b t
  |_=>exact NH (show M5=M3 from f) Nb
 |_=>exact NH (show M5=M3 from g) Nb
def q_(x:V)(u:M8):Bool:=match u with
 | .none=>zv .o x
 | .bool b=>zv (.c b) x
 | .int i _=>zv (.n i) x
 | .str z _=>zv (.q z) x
 |_=>M5
theorem DR(r:aT y u)(f:iq y=M3):q_ x u=zv y x:=by
 cases y with
 |o=>cases r;rfl
 |c b=>cases r;rfl
 |n i=>obtain⟨t,rfl⟩:=r;rfl
 |q z=>obtain⟨t,rfl⟩:=r;rfl
 |_=>exact NH (show M5=M3 from f) Nb
theorem kT:∀{a:a0i} {b:a0f},ay a b->a.all iq=M3->b.any (q_ x)=a.any λy=>zv y x
 |_,_,.nil,_=>rfl
 |y::a,u::b,.cons r t,f=>by
  rw[UA,NN]at f;rw[Tk,Tk,DR r f.1,kT t f.2]
theorem jC(c:aT x v)(d:iq x=M3):∀{a:a0i} {b:a0f},ay a b->a.all iq=M3->∀u∈b,SeqAt.EqAt A s u v<|q_ x u
 |_,_,.nil,_=>λu hu=>by cases hu
 |y::a,u::b,.cons r t,f=>λg hu=>by
  rw[UA,NN]at f;rcases Nn.mp hu with rfl|hu
  .rw[DR r f.1];exact K7 r c f.1 d
  .exact jC c d t f.2 g hu
def YN(x:V)(a:a0i):Bool:=a.any λy=>zv y x
def Zt(K:ND)(b:Bool):R2:=λx y H Q=>∃p a,y= .r p/\(en K H p a\/hU K H p a)/\iq x=M3/\a.all iq=M3/\Q (.c (if b then !YN x a else YN x a)) H
theorem mI:f0 X (OP .In) (Zt X.K M5):=by
 intro d s k H x y v u Q I f i h;obtain⟨p,b,rfl,hq,g,a,q⟩:=h;cases i;rcases hq with hq|hq
 .obtain⟨its,r,pl,j⟩:=I.list hq
  refine SeqAt.in_listAt (q_ x) pl.isList (λw c=>jC f g r a w<|by simpa using c) ⟨.c _,H,I,rfl,?_⟩;rw[show its.toArray.any (q_ x)=its.any (q_ x) by simp,kT r a];exact q
 .obtain⟨its,r,pl,j⟩:=I.tuple hq
  refine SeqAt.in_tupleAt (q_ x) pl (λw c=>jC f g r a w<|by simpa using c) ⟨.c _,H,I,rfl,?_⟩;rw[show its.toArray.any (q_ x)=its.any (q_ x) by simp,kT r a];exact q
theorem mH:f0 X (OP .NotIn) (Zt X.K M3):=by
 intro d s k H x y v u Q I f i h;obtain⟨p,b,rfl,hq,g,a,q⟩:=h;cases i;rcases hq with hq|hq
 .obtain⟨its,r,pl,j⟩:=I.list hq
  refine SeqAt.notIn_listAt (q_ x) pl.isList (λw c=>jC f g r a w<|by simpa using c) ⟨.c _,H,I,rfl,?_⟩;rw[show its.toArray.any (q_ x)=its.any (q_ x) by simp,kT r a];exact q
 .obtain⟨its,r,pl,j⟩:=I.tuple hq
  refine SeqAt.notIn_tupleAt (q_ x) pl (λw c=>jC f g r a w<|by simpa using c) ⟨.c _,H,I,rfl,?_⟩;rw[show its.toArray.any (q_ x)=its.any (q_ x) by simp,kT r a];exact q
theorem nc:dM X (.builtin "len") (λb H Q=>∃p a,b=[.r p]/\(en X.K H p a\/hU X.K H p a)/\Q (.n<|Uc a) H):=by
 intro f s j H b e Q I r h;obtain⟨p,a,rfl,hq,q⟩:=h;obtain⟨u,rfl,g⟩:=jM r;cases g;have B:=mR;rcases hq with hq|hq
 .obtain⟨its,d,pl,i⟩:=I.list hq
  have c:=d.length;exact Calls.call_len_list pl.isList (by simp only[NG]<;>lia) ⟨.n<|Uc a,H,I.tok _,⟨s.toks+1,by rw[NG,c]⟩,q⟩
 .obtain⟨its,d,pl,i⟩:=I.tuple hq
  have c:=d.length;exact len_tuple pl (by simp only[NG]<;>lia) ⟨.n<|Uc a,H,I.tok _,⟨s.toks+1,by rw[NG,c]⟩,q⟩
theorem bE:dM X (.type "list") (λL H Q=>∃p D,L=[.r p]/\(en X.K H p D\/hU X.K H p D)/\∀l,H l=M0->Q (.r l) (upd H l<|.l D)):=by
 intro f s v H L M Q I r h;obtain⟨p,D,rfl,hq,q⟩:=h;obtain⟨u,rfl,y⟩:=jM r;cases y
 have g:∀(a:a0f),ay D a->Uc D<=Nw->∀(B:Op) (c:Nat),(∀b t,s.heap.get? b=My t->B.get? b=My t)->
   B.get? s.heap.objs.size=My {cls:= .type "list",dict:=M0,data:= .seq a.toArray c,slots:=#[]}->EP X f v Q (.ref s.heap.objs.size) {s with heap:=B}:=λa d i B c E e=>
  ⟨.r s.heap.objs.size,_,I.laid (t':=s.toks) E (Nh _) (show cq X.p X.w _ B _ (.l D)from⟨i,a,c,d,e⟩),rfl,q _<|I.hok.fresh<|Nh _⟩
 rcases hq with hq|hq
 .obtain⟨a,d,pl,i⟩:=I.list hq
  have j:=d.length;obtain⟨o,k,m,n,G⟩:=pl.isList;exact call_list_seq p (.inl rfl) k m G (λB c E e=>g a d i B c E e) (by simp only[NG]<;>lia)
 .obtain⟨a,d,pl,i⟩:=I.tuple hq
  have j:=d.length;obtain⟨o,k,m,n,G⟩:=pl;exact call_list_seq p (.inr rfl) k m G (λB c E e=>g a d i B c E e) (by simp only[NG]<;>lia)
theorem l5:dM X (.type "tuple") (λD H Q=>∃p a,D=[.r p]/\((en X.K H p a/\∀l,H l=M0->Q (.r l) (upd H l<|.t a))\/(hU X.K H p a/\Q (.r p) H))):=by
 intro c s g H D G Q I r h;obtain⟨p,a,rfl,h⟩:=h;obtain⟨u,rfl,m⟩:=jM r;cases m;rcases h with⟨d,q⟩|⟨d,q⟩
 .obtain⟨its,f,pl,i⟩:=I.list d
  have j:=f.length;refine call_tuple_list pl.isList (λB E=>?_) (by simp only[NG]<;>lia)
  have k:bx X c g H {s with heap:=B}:=I.kept (t':=s.toks) E;have n:bx X c g (upd H B.objs.size<|.t a) {s with heap:=B.push {cls:= .type "tuple",data:= .seq its.toArray}}:=
   k.laid (t':=s.toks) (λb o e=>M4 _ e) (Nh _) (show cq X.p X.w _ _ _ (.t a)from⟨i,its,f,X3 _ _⟩)
  exact⟨.r B.objs.size,_,n,rfl,q _<|k.hok.fresh<|Nh _⟩
 .obtain⟨its,f,pl,i⟩:=I.tuple d
  exact call_tuple_same pl ⟨.r p,H,I,rfl,q⟩
def tyV(K:ND)(T:String)(x:V)(H:Hp):Prop:=match x with
 | .q _=>T="str"
 | .n _=>T="int"
 | .r p=>(T="list"/\∃a,en K H p a)\/(T="tuple"/\∃o,K.lookup p=My o/\o.cls= .type "tuple"/\o.dict=M0)
 |_=>False
theorem Jj{s:Na}(I:bx X j k H s)(r:aT x v)(b:tyV X.K T x H):
  s.TypeIs v T/\∀a,v= .ref a->∃d,s.heap.get? a=My d/\d.dict=M0:=by
 cases x with
 |q z=>
  obtain⟨t,rfl⟩:=r;cases(show T="str"from b);exact⟨typeIs_str s z t,λ_ e=>nomatch e⟩
 |n i=>
  obtain⟨t,rfl⟩:=r;cases(show T="int"from b);exact⟨typeIs_int s i t,λ_ e=>nomatch e⟩
 |r p=>
  cases r;rcases b with⟨rfl,D,g⟩|⟨rfl,o,f,h,B⟩
  .obtain⟨its,_,pl,_⟩:=I.list g
   refine⟨pl.isList.typeIs,λa e=>?_⟩;cases e;obtain⟨o,n,e,c,B,_⟩:=pl;exact⟨o,e,B⟩
  .refine⟨⟨o,I.kIn p o f,h⟩,λa e=>?_⟩
   cases e;exact⟨o,I.kIn _ o f,B⟩
 |_=>exact O9 b
def tBM(K:ND)(T:String)(r:a0T)(b:TE)(t:TA):TE:=λc H Q=>b c H λx a=>tyV K T x a/\t c a λe d=>r x e d Q
variable{o:Expr}{C:List Expr}{J:TE}{t:TA}{b:N8}{z a:RV}{T F:String}{r:a0T}
theorem GW(G:PlainAttrs T)(D:Slot T b F)(j:Yc (.builtin F)=Ps (.type "method_descriptor"))(L:MtR X F r)(n:PE X o J)(M:PA X (e::C) t)
  (f:Xq o b X.e (OS o X.e)=OS o X.e:=by rfl)
  (i:((Ql a<|Nr (e::C) X.e).all (λx=>!x.1)&&(Sb a<|QB [] X.e).all (λx=>x.1.isSome)
   &&decide (Uc (e::C)+Uc ([]:List Wv)+(if([]:List Wv).isEmpty then 0 else 1)<30))=M3:=by rfl)
  (g:(z.endLine==a.line)=M3:=by rfl) (R:b0a X e C:=by rfl) (d:b0b X a C:=by rfl):
  PE X (.Call (.Attribute o b z) (e::C) [] a) (tBM X.K T r J t):=by
 intro c s k H Q I h;refine wpAny_Call_method_late f i g rfl<|dy (n c s k H _ I h) λv p ⟨x,S,l,E,U,V⟩=>?_;obtain⟨q,u⟩:=Jj l E U;refine⟨T,F,G,D,j,q,u,?_⟩;have m:=M a c p k S _ l V;rw[R]at m⊢;refine Wj (by show(M5||(Ql a (Nr C X.e)).any (·.1))=M5;rw[d]<;>rfl) (Calls.evalArgs_plain ?_)
 exact dy m λY w ⟨Z,y,A,B,N⟩=>L c w k y x Z v Y Q A E B N
def MtM(X:Cx)(F:String)(r:a0T):Prop:=
 ∀(c:a0c) (s:Na) (d:St) (H:Hp) (x:V) (a:a0i) (v:M8) (b:a0f) (Q:VK),bx X c d H s->aT x v->ay a b->r x a H Q->
  Nu (NK X.p X.w) X.A (RO (.builtin F)<|v::b) (EP X c d Q) X.xe s
theorem ay.one:∀{x:V} {a:a0f},ay [x] a->∃u,a=[u]/\aT x u
 |_,_,.cons r .nil=>⟨_,rfl,r⟩
theorem ay.reverse{a:a0i}{b:a0f}(h:ay a b):ay a.reverse b.reverse:=by
 induction h with
 |nil=>exact .nil
 |cons r t e=>rw[Tf,Tf];exact ay.append e<|.cons r .nil
theorem ay.rep(h:ay c d):∀k:Nat,ay (NB k c).flatten (NB k d).flatten
 |0=> .nil
 |k+1=>by
  rw[OI,OI,Pk,Pk];exact ay.append h<|ay.rep h k
theorem tY(a:a0f):∀(k:Nat) (b:a0f),
  UG (λc d=>c++d) b.toArray (NB k a.toArray)=(b++(NB k a).flatten).toArray
 |0,b=>by simp
 |k+1,b=>by
  have e:b.toArray++a.toArray=(b++a).toArray:=by simp
  have f:(b++a)++(NB k a).flatten=b++(NB (k+1) a).flatten:=by
   rw[OI,Pk,Nm]
  rw[<-f,<-tY a k (b++a),<-e,OI,Vq]
end
section
variable{X:Cx}{R:a0c}{P:St}{H:Hp}{s:Na}{l b:M6}{xs ys B:a0i}
theorem bx.lset{b its':a0f}(I:bx X R P H s)(a:H l=My (.l xs))
  (e:s.heap.get? l=My {cls:= .type "list",data:= .seq b.toArray n}) (c:f b.toArray=its'.toArray) (d:ay ys its') (g:Uc ys<=Nw):
  bx X R P (upd H l<|.l ys) {s with heap:=s.heap.update l<|Pl f,toks:=k}:=by
 have q:=PySem.IsL.update e f;rw[c]at q;refine I.write (x:=l) (e:=l) (by rw[a];exact trivial) (.inl rfl) (λj u h i=>(Qi s.heap (Pl f)<|Ne.symm h).trans i) ⟨_,q⟩ ?_;exact⟨g,its',_,d,q⟩
theorem bx.lnew{its:a0f}(I:bx X R P H s)(a:ay ys its)(c:Uc ys<=Nw):
  bx X R P (upd H s.heap.objs.size<|.l ys) {s with heap:=s.heap.push {cls:= .type "list",data:= .seq its.toArray},toks:=t'}:=
 I.laid (λ_ _ q=>M4 _ q) (Nh _) ⟨c,its,0,a,NA _ rfl⟩
theorem bx.fresh(I:bx X R P H s):H s.heap.objs.size=M0:=I.hok.fresh<|Nh _
theorem bx.lstM(I:bx X R P H s)(a:H l=My (.l xs)):Uc xs<=Nw/\∃(b:a0f) (n:Nat),ay xs b/\Uc xs=Uc b/\s.heap.get? l=My {cls:= .type "list",data:= .seq b.toArray n}:=by
 obtain⟨z,b,n,r,e⟩:=I.hok l _ a;exact⟨z,b,n,r,r.length,e⟩
theorem Fh(h:n<=Nw):Ss n=M5:=by
 unfold Ss;exact Ob (by lia)
def xA:V->a0i->Hp->VK->Prop:=λx b H Q=>∃l xs y,x= .r l/\b=[y]/\H l=My (.l xs)/\Uc xs<Nw/\Q .o (upd H l<|.l<|xs++[y])
theorem tR:MtM X "list.append" xA:=by
 intro R s P H x B v D Q I c d h;obtain⟨l,xs,y,rfl,rfl,a,g,q⟩:=h;cases c;obtain⟨u,rfl,f⟩:=d.one;obtain⟨z,b,n,r,i,e⟩:=I.lstM a;refine WP F.slot_list_append ⟨_,e,rfl⟩ F.entry_list_append (X0 _ _) (XJ l b.toArray n u<|by rw[NG];lia) ⟨e,?_⟩;refine⟨.o,_,I.lset (its':=b++[u]) a e (by simp) (r.append<|.cons f .nil) ?_,rfl,q⟩;rw[Ni,N5];lia
noncomputable def Zv:R2:=λx y H Q=>∃l b xs B,x= .r l/\y= .r b/\H l=My (.l xs)/\H b=My (.l B)/\Uc xs+Uc B<=Nw/\∀p,H p=M0->Q (.r p) (upd H p<|.l<|xs++B)
theorem Kd:f0 X (Qt .Add) Zv:=by
 intro R s P H x y v u Q I c d h;obtain⟨l,b,xs,B,rfl,rfl,f,hB,m,q⟩:=h;cases c;cases d;obtain⟨z,D,n,r,o,e⟩:=I.lstM f;obtain⟨p,a,t,g,i,j⟩:=I.lstM hB;refine Xl e j ?_ (by rw[NG,NG];lia);have k:D.toArray++a.toArray=(D++a).toArray:=by simp
 rw[k];exact⟨.r _,_,I.lnew (t':=s.toks) (r.append g) (by rw[Ni];lia),rfl,q _ I.fresh⟩
noncomputable def Zr:R2:=λx y H Q=>∃l k xs,x= .r l/\y= .n k/\H l=My (.l xs)/\-(2^63)<=k/\k<2^63/\Uc xs*k.toNat<=Nw/\
 ∀p,H p=M0->Q (.r p) (upd H p<|.l (NB k.toNat xs).flatten)
theorem ID{b:Type}(xs:List b)(k:Nat):(NB k xs).flatten.length=k*Uc xs:=by
 induction k with
 |zero=>simp
 |succ k l=>rw[OI,Pk,Ni,l,Nat.succ_mul,WJ]
theorem J8:f0 X (Qt .Mult) Zr:=by
 intro R s P H x y v u Q I w A h;obtain⟨l,k,xs,rfl,rfl,B,C,J,p,q⟩:=h;cases w;obtain⟨t,rfl⟩:=A;obtain⟨z,b,n,r,L,e⟩:=I.lstM B;have d:b.toArray.size*k.toNat<=Nw:=by rw[NG,<-L];exact p
 have f:¬b.toArray.size*k.toNat>(2^63-1)/8:=by
  have:(Nw:Nat)<=(2^63-1)/8:=by decide
  lia
 have g:¬(!Builtin.List.listFitsIndex k)=M3:=by
  rw[fitsIndex_both C J];exact Nb
 have c:¬Ss (b.toArray.size*k.toNat)=M3:=by
  rw[Fh d];exact Nb
 have i:UG (λj o=>j++o) #[] (NB (if b.toArray.isEmpty=M3 then 0 else k.toNat) b.toArray)=(NB k.toNat b).flatten.toArray:=by
  have N:∀m:Nat,UG (λj o=>j++o) #[] (NB m b.toArray)=(NB m b).flatten.toArray:=λm=>by
   have:=tY b m [];rw[ON]at this;exact this
  rw[N];cases b with
  |nil=>simp
  |cons a O=>rw[Nf<|by simp]
 refine wpAny_binaryOp_repeat_ref (T:="list") (U:="int") (by decide) ⟨_,e,rfl⟩ (λD=>typeIs_int D k t) noFill_list_mul F.fills_int_mul F.slot_int_rmul repeat_list F.slot_int_index.lookup
  (WP F.slot_int_rmul (typeIs_int s k t) F.entry_int_rmul (F.args_int_rmul_2 _ _) (int___rmul___int_list k t l b.toArray n)
   ⟨e,rfl,⟨_,e,rfl⟩,WP F.slot_list_mul ⟨_,e,rfl⟩ F.entry_list_mul (F.args_list_mul_2 _ _) (AutoListH.list___mul___list_int_3 l b.toArray n k t g f c) ⟨e,?_⟩⟩)
 rw[i];exact⟨.r _,_,I.lnew (t':=s.toks) (r.rep k.toNat) (by rw[ID,SM];exact p),rfl,q _ I.fresh⟩
variable{a:NY}{w:N6}{A:Om}{E:a0d}
end
end L2
namespace Att
open PySem.W PySem.Calls
theorem qN:∀(D:a0b) (E:a0f),WellAll P h E (D.map WData.int)->Wu E D:=by
 intro D
 induction D with
 |nil=>
  intro E w;rw[Qj]at w;cases w;exact .nil
 |cons n D G=>
  intro E w;rw[Nv]at w;cases w with
  |cons a b=>
   cases a;exact .cons _ _<|G _ b
theorem BB{l:OpenLaw}(G:l.most=My n){h:Op}
  (b:l.row.toRowW.claim.pre args=M3) (f:WellAll P h vals args):
  ∃a E D,vals=[Ny a]/\args=[WData.list<|D.map WData.int]/\h.get? a=My {cls:= .type "list",data:= .seq E.toArray}/\Wu E D/\Uc D<=n:=by
 have hsh:WShape.hasAll [] args [.list .int]=M3:=(pre_splitW b).1;have g:l.pre.holds [] {args:=args}=M3:=(pre_splitW b).2;obtain⟨d,r,rfl,i,j⟩:=hasAllW_cons hsh;obtain rfl:=hasAllW_nil j;obtain⟨K,rfl,k⟩:=hasW_list i;obtain⟨D,rfl⟩:=items_int k;have c:Uc D<=n:=by
  unfold OpenLaw.pre at g;have e:(WTm.not<|.lt (.lit<|.int (n:Int))<|.len<|.arg 0).holds [] {args:=[.list<|D.map .int]}=M3:=by
   have e:=(holds_andW g).1;rw[G]at e;exact e
  have h5:=condW_of e<|w_not<|w_lt w_lit<|w_len_list<|w_arg rfl;rw[MZ]at h5;refine QD λq=>?_;have m:(n:Int)<((Uc D:Nat):Int):=by lia
  first
   |(rw[NC m]at h5;exact NH h5 (by decide))
   |(simp at h5;lia)
 cases f with
 |cons o p=>
  cases p;cases o with
  |list ho hall=>exact⟨_,_,D,rfl,rfl,ho,qN D _ hall,c⟩
theorem BR(l:OpenLaw)(args:List WData):l.row.toRowW.claim.post args (.bool M3) args=M3:=
 postW_of (r:=l.row.toRowW) (X:=(M3==M3))
  (show WShape.has [] (.bool M3) .bool=M3 by first|rfl|decide|simp[WShape.has,WShape.arms,WShape.armsAll])
  (show(WTm.eq .res<|.lit<|.bool M3).value [] {args:=args,res:=My<|.bool M3,after:=args}=My (.bool<|M3==M3)from w_eq_bool (w_res rfl) w_lit) rfl
theorem attach_call{l:OpenLaw}{d:DefRec}
  (P:l.most=My n) (k:d.params.defaults=[])
  (RO:∀(w:N6) (D b:Na) (K m:a0h) (g:M6) (o:Oz) (s M c:M8) (a:M6) (E:a0f) (S:a0b),
   Ground q loose [] XP w D K m b.heap->YP w b.heap->
   b.heap.get? g=My o->o.data= .func (docDef d.name d.params d.body d.scope s M c)->b.heap.CodeRec M d.name->K d.name=My (.ref g)->
   b.heap.get? a=My {cls:= .type "list",data:= .seq E.toArray}->Wu E S->Uc S<=n->b.gens=#[]->
   QO (NK l.prog w) VH (.call (.ref g) ⟨[.ref a],[]⟩) (λr V=>r= .ok (.ret<|.bool M3)/\OldK b.heap V.heap/\V.os=b.os/\Td V.gens) b):
  WalkO q loose XP YP l.row.toRowW d [] (λf E=>Xo f E):=by
 intro w D b K m G Y g o s M c A B C Q p v t F x z T h y H u I;obtain rfl:A= .none:=Dflts.none v k;obtain rfl:B= .none:=Dflts.noKw v;obtain⟨a,E,S,rfl,rfl,i,e,j⟩:=BB P h u;refine enter_call<|Q1 (RO w D b K m g o s M c a E S G Y C (fd_plain Q) p t i e j F) λr V J=>?_;obtain⟨rfl,L,N,O⟩:=J;exact⟨.inl ⟨.bool M3,.bool M3,[],rfl,λ_=>rfl,.bool M3,BR l _,λ_=>⟨Sh,λ_ R=>(nomatch R)⟩⟩,L,N,O⟩
section
variable{a:NY}{w:N6}{A:Om}{E:a0d}{s:Na}{K:ND}
end
end Att
namespace L2
theorem sP:∀{D:a0f} {E:a0b},Wu D E->ay (E.map V.n) D
 |_,_,.nil=> .nil
 |_,_,.cons n t h=> .cons ⟨t,rfl⟩<|sP h
def Gs(H:Hp):Prop:=∀b,H b=M0\/∃o D,H b=My (.frz o<|.l D)
theorem FH{K:ND}{c:Na}{G:a0f}{M:a0b}
  (R:K.In c.heap) (p:c.heap.Ns PZ mg) (g:c.heap.Ns WN mb) (I:∀x:N8,x≠"__name__"->mb x=Rw x) (t:c.heap.NoLimit) (hg:c.gens=#[])
  (ha:c.heap.get? a=My {cls:= .type "list",data:= .seq G.toArray}) (T:Wu G M) (U:Uc M<=Nw) (hr:dv k VH)
  (F:∀D:Op,K.In D->D.Ns PZ mg->d_ P w K mg D CX k fa fd [x] sp) (l:∀(s:Na) (u:M8),UU s fd ⟨[u],[]⟩ [(x,u)])
  (J:∀H:Hp,Gs H->en K H a (M.map V.n)->sp [.r a] H (λv _=>v= .c M3) λ_ _ _=>False)
  (L:∀H e E,CX [] H c (λ_ _ _=>False) e E->False):
  QO (NK P w) VH (.call (.ref fa) ⟨[.ref a],[]⟩) (λr E=>r= .ok (.ret<|.bool M3)/\OldK c.heap E.heap/\E.os=c.os/\Td E.gens) c:=by
 have W:=sP T;have y:=T.length
 --from an abstract heap in which nothing but the script may be tracked
 have j:∀H:Hp,Gs H->en K H a (M.map V.n)->i_ P w H c.heap->(∀b,H b≠M0->b=a)->(H a≠M0->K.lookup a=M0)->
   QO (NK P w) VH (.call (.ref fa) ⟨[.ref a],[]⟩) (λr E=>r= .ok (.ret<|.bool M3)/\OldK c.heap E.heap/\E.os=c.os/\Td E.gens) c:=by
  intro H X hS S Y hK;have f:∀{b:M6} {o:Oz},c.heap.get? b=My o->H b=M0->(lH c.heap H).get? b=My o:=λe n=>FU e n;have N:∀{b:M6} {o:Oz} {es:Array RU} {ep:Nat},c.heap.get? b=My o->o.data= .dict es ep->H b=M0:=λ{b o es ep} e d=>by
   cases q:H b with
   |none=>rfl
   |some u=>
    have O:b=a:=Y b (by rw[q];simp);subst O;rw[ha]at e;cases e;have d':Data.seq G.toArray _=Data.dict es ep:=d;cases d'
  have i:∀{b:M6} {m:a0h},c.heap.Ns b m->(lH c.heap H).Ns b m:=λ{b m} ⟨o,es,ep,e,d,r⟩=>⟨o,es,ep,f e<|N e d,d,r⟩;have A:K.In (lH c.heap H):=λb o e=>f (R b o e) (by
   cases q:H b with
   |none=>rfl
   |some u=>
    have O:b=a:=Y b (by rw[q];simp);subst O;rw[hK<|by rw[q];simp]at e;cases e)
  have hM:Mod K mg (lH c.heap H):=⟨A,i p,⟨mb,i g,I⟩,let ⟨mc,h1,h2⟩:=t;⟨mc,i h1,h2⟩⟩
  have e0:ro P w K mg (lH c.heap H) VH [] c H:=⟨rfl,hM,λb o e=>Iq e,U3<|DD _ _,trivial,λb g=>NH (show b∈([]:a0n)from g) (by simp),S,.of_eq hg⟩;refine Q1 ((F _ A<|i p).run VH [] c H ⟨[.ref a],[]⟩ [.ref a] [.r a] _ _ hr e0 (l c<|.ref a) (.cons rfl .nil)<|J H X hS) λr E h=>?_;cases r with
  |error e=>exact(L H e E h).elim
  |ok fl=>
   cases fl with
   |next=>exact O9 h
   |brk=>exact O9 h
   |cont=>exact O9 h
   |ret u=>
    obtain⟨v,H',os,aa,un,B,r',q⟩:=h;have q':v= .c M3:=q;subst q';obtain rfl:u=Value.bool M3:=r';refine⟨rfl,OldK.of_keep λb o e=>?_,os,aa⟩;cases q:H b with
    |none=>exact un.keep b o e q (by intro z;exact NH (show b∈([]:a0n)from z)<|by simp) (by simp)
    |some u=>
     rcases X b with z|⟨ob,xs,z⟩
     .rw[q]at z;cases z
     .have z2:=un.frzs b ob _ z
      obtain⟨Z,_⟩:=S b _ z;obtain⟨e2,_⟩:=B b _ z2;rw[e]at Z;cases Z;exact e2
 cases Q:K.lookup a with
 |some o=>
  --the script is one of the module's own objects
  have e:=R a o Q;rw[ha]at e;cases e;refine j (λ_=>M0) (λ_=> .inl rfl) (.inr ⟨_,G.toArray,_,Q,rfl,rfl,rfl,by rw[NG,y];exact U,by simpa using W⟩) (λb u z=>by have C:(M0:Option HO)=My u:=z;cases C) (λb z=>NH rfl z) λz=>NH rfl z
 |none=>
  refine j (λb=>if b=a then My (.frz {cls:= .type "list",data:= .seq G.toArray} (.l<|M.map V.n))else M0) (λb=>?_) (.inl<|.inr ⟨{cls:= .type "list",data:= .seq G.toArray},Ng rfl⟩) (λb u z=>?_) (λb z=>?_) λ_=>Q
  .by_cases g:b=a
   .exact .inr ⟨_,_,Ng g⟩
   .exact .inl (Nf g)
  .by_cases g:b=a
   .have C:=(Ng g).symm.trans z
    cases C;subst g;exact⟨ha,by rw[MZ];exact U,G,_,W,ha⟩
   .have C:=(Nf g).symm.trans z
    cases C
  .by_cases g:b=a
   .exact g
   .exact NH (Nf g) z
theorem walk_of{l:PySem.W.OpenLaw}{n k:Nat}{q:NY}{E:a0g}{XP:(N8->a1d)->Op->Prop}{YP:N6->Op->Prop}{d:DefRec}{K:V1->ND}{CX:N6->v_}{sp:N6->Sp}{x:N8}
  (hn:l.most=My n) (r:n<=Nw) (t:d.params.defaults=[]) (J:dv k VH)
  (L:∀(w:N6) (h:Op),YP w h->(K w.params).In h)
  (F:∀(w:N6) (M:a0h) (p:M6) (h:Op),(K w.params).In h->h.Ns PZ M->M d.name=My (.ref p)->
   ∃B:NL,(∀(s:Na) (u:M8),UU s B ⟨[u],[]⟩ [(x,u)])/\
    ∀D:Op,(K w.params).In D->D.Ns PZ M->d_ l.prog w (K w.params) M D (CX w) k p B [x] (sp w))
  (y:∀(w:N6) (H:Hp) (a:M6) (S:a0b),Uc S<=n->Gs H->en (K w.params) H a (S.map V.n)->sp w [.r a] H (λv _=>v= .c M3) λ_ _ _=>False)
  (A:∀(w:N6) (H:Hp) (s:Na) (e:M8) (z:Na),CX w [] H s (λ_ _ _=>False) e z->False):
  PySem.W.WalkO q E XP YP l.row.toRowW d [] (λf vs=>Xo f vs):=by
 refine Att.attach_call hn t λw aa j M X p o pm cd N a vs S G Y Z hd O C m i c P=>?_;have I:=L w _ Y;obtain⟨B,Q,hF⟩:=F w M p _ I G.T.g C;exact FH I G.T.g G.T.b G.T.builtins G.T.nolimit P m i (NJ c r) J hF Q (λH R U=>y w H a S c R U) λH e z=>A w H j e z
noncomputable def eW(s:OB)(j:Nat):OB:=match s with
 | .ClassDef _ _ _ body _ _ _ _ _ _ _=>body.getD j<|.Pass ⟨0,0,0,0⟩
 |_=> .Pass ⟨0,0,0,0⟩
noncomputable def jk(s:OB):Arguments:=match s with
 | .FunctionDef _ a _ _ _ _ _ _ _ _=>a
 |_=>{posonlyargs:=[],args:=[],vararg:=M0,kwonlyargs:=[],kw_defaults:=[],kwarg:=M0,defaults:=[]}
noncomputable def cB(s:OB):a0R:=match s with
 | .FunctionDef _ _ b _ _ _ _ _ _ _=>b
 |_=>[]
noncomputable def ai(s:OB):Scope:=match s with
 | .FunctionDef _ _ _ _ _ _ sc _ _ _=>sc
 |_=>{kind:= .function,names:=[],isGenerator:=M5,isCoroutine:=M5}
abbrev E0:St->XK:=λ_ _ _ _=>False
structure Fun (K:ND) (x qual:N8) (st:OB) (f:M6) (fd:NL):Prop where
 ex:∃(oc:M8) (od:a0z) (kV doc pm:M8) (an:a0z) (cdv ct:M8) (osl:Array a1d),
  fd=RG x qual (jk st) (cB st) (ai st) .none kV doc pm an cdv ct/\K.lookup f=My ⟨oc,od,.func fd,osl⟩/\SA K cdv qual=M3
 kp:Se K (.ref f)=M3
section
variable{P:NY}{w:N6}{K:ND}{b:a0h}{base:Op}
theorem uP{A:Om}(a:dv k A):A.units+1<Uy:=NT (SJ (by decide:1<=64) _) a.f5
theorem sX(h:n<=1000):n<Nw:=NT h (by decide)
variable{X:Cx}
theorem pv(i:Nat)(b:X.N[i]?=My x:=by rfl)(c:Yw X.e.scope x:=by first|exact PP rfl|exact QT (PP rfl)|exact QT (QT rfl))(w:b0c x:=by decide)
  (a:(x==("__classdict__":N8))=M5:=by decide):PE X (.Name x d) (kZ i):=J0 b c w a
theorem ZU{A B:Prop}(h:A):if M3=M3 then A else B:=by
 rw[Ng rfl];exact h
theorem ZV{c A B:Prop} [Decidable c](a:c->A)(b:¬c->B):if c then A else B:=by
 by_cases h:c
 .rw[Ng h]
  exact a h
 .rw[Nf h]
  exact b h
def bW(H a:Hp):Prop:=∀b o,H b=My o->a b=My o
theorem bW.refl(H:Hp):bW H H:=λ_ _ h=>h
theorem bW.trans(a:bW H H1)(b:bW H1 H2):bW H H2:=λc o h=>b c o<|a c o h
theorem bW.free(e:bW H H')(h:H' l=Option.none):H l=Option.none:=by
 cases q:H l with
 |none=>rfl
 |some o=>
  rw[e l o q]at h;cases h
theorem dG:∀(b:a0N) (n:Nat) (acc:a0j),Pm n b acc=Pm n b []++acc
 |[],_,_=>rfl
 |(x,k)::r,n,acc=>by
  unfold Pm;split
  .rw[dG r (n+1)<|(x,n)::acc,dG r (n+1) [(x,n)],Nm]
   rfl
  .exact dG r n acc
theorem iO:∀{b:a0N} {n:Nat} {x:N8} {c:M6},(x,c)∈Pm n b []->(x,Vv)∈b
 |[],_,_,_,h=>by cases h
 |(y,k)::r,n,x,c,h=>by
  unfold Pm at h;split at h
  .rename_i a
   rw[dG]at h;rcases NU.mp h with h|h
   .exact M2 _ (iO h)
   .obtain⟨rfl,_⟩:x=y/\c=n:=by simpa using h
    obtain rfl:k= .cell:=by simpa using a
    exact M7
  .exact M2 _ (iO h)
noncomputable def dA(cells:a0j):a0N->a0j->a0j
 |[],acc=>acc
 |(x,k)::r,acc=>if k== .free then dA cells r ((x,(cells.lookup x).getD 0)::acc)else dA cells r acc
theorem lk{cells:a0j}:∀{b:a0N} {acc:a0j} {x:N8} {c:M6},(x,c)∈dA cells b acc->(x,c)∈acc\/((x,Qs)∈b/\c=(cells.lookup x).getD 0)
 |[],_,_,_,h=> .inl h
 |(y,k)::r,acc,x,c,h=>by
  unfold dA at h;split at h
  .rename_i a
   obtain rfl:k= .free:=by simpa using a
   rcases lk h with h|⟨h,e⟩
   .rcases Nn.mp h with h|h
    .cases h
     exact .inr ⟨M7,rfl⟩
    .exact .inl h
   .exact .inr ⟨M2 _ h,e⟩
  .rcases lk h with h|⟨h,e⟩
   .exact .inl h
   .exact .inr ⟨M2 _ h,e⟩
theorem pG:∀{b:a0N} {w:a0j} {p:N8×M6},p∈w->p∈dA cells b w
 |[],_,_,h=>h
 |(y,k)::r,w,p,h=>by
  unfold dA;split
  .exact pG (M2 _ h)
  .exact pG h
theorem pF{cells:a0j}:∀{b:a0N} {acc:a0j} {x:N8},(x,Qs)∈b->(x,(cells.lookup x).getD 0)∈dA cells b acc
 |[],_,_,h=>by cases h
 |(y,k)::r,acc,x,h=>by
  unfold dA;rcases Nn.mp h with h|h
  .cases h
   rw[Ng<|by decide];exact pG M7
  .split
   .exact pF h
   .exact pF h
theorem lZ{b:Type}:∀{l:List (N8×b)} {x:N8} {c:b},(x,c)∈l->∃d,l.lookup x=My d
 |[],_,_,h=>by cases h
 |(y,d)::r,x,c,h=>by
  rw[Tx];cases a:x==y with
  |true=>exact⟨d,rfl⟩
  |false=>
   rcases Nn.mp h with h|h
   .cases h
    simp at a
   .exact lZ h
theorem dh{w:Type}:∀{l:List (N8×w)} {x:N8} {c:w},(l.map (·.1)).Nodup->(x,c)∈l->l.lookup x=My c
 |[],_,_,_,h=>by cases h
 |(y,d)::r,x,c,nd,h=>by
  rw[Nv]at nd;obtain⟨a,b⟩:=N2.mp nd;rw[Tx];rcases Nn.mp h with h|h
  .cases h
   simp
  .have:x≠y:=λe=>a<|e▸List.mem_map_of_mem (f:=(·.1)) h
   rw[beq_eq_false_iff_ne.mpr this];exact dh b h
theorem su{env:Vm}(f:N8×Rk->a0j->WB (ForInStep a0j))
  (g:∀D E K,f (D,E) K=if E== .free then(do let a <-cellOf env D;Ps (.yield<|(D,a)::K))else Ps (.yield K)):
  ∀(w:a0N) (G:a0j),(∀y∈w,y.2= .free->∃c,env.cells.lookup y.1=My c)->WT w G f=Ps (dA env.cells w G)
 |[],_,_=>by rw[Q8];rfl
 |(x,k)::r,G,h=>by
  rw[QS,g];unfold dA;have i:∀y∈r,y.2= .free->∃c,env.cells.lookup y.1=My c:=λy M=>h y<|M2 _ M;by_cases b:(k==Qs)=M3
  .rw[Ng b,Ng b]
   obtain⟨c,j⟩:=h (x,k) M7 (by simpa using b);have d:env.cells.lookup x=My c:=j;have e:cellOf env x=Ps c:=by unfold cellOf;rw[d]
   rw[e,d];simp only[pure_bind];exact su f g r _ i
  .rw[Nf b,Nf b]
   simp only[pure_bind];exact su f g r _ i
theorem zL{b:Scope}{env:Vm}(h:∀y∈b.names,y.2= .free->∃c,env.cells.lookup y.1=My c):closureFor b env=Ps (dA env.cells b.names []):=by
 simp only[closureFor];rw[su (env:=env) _ (λD w E=>by cases a:w==Qs<;>simp[a]) b.names [] h]
 rfl
theorem Ga{M:Tp}{E:a0d}{s:Na}{w:Scope}
  (f:∀G:Op,G.Ns s.heap.objs.size (λ_=>M0)->(∀b o,s.heap.get? b=My o->G.get? b=My o)->
   (∀n c,(n,c)∈Pm (s.heap.objs.size+1) w.names []->G.IsCell c M0/\s.heap.objs.size+1<=c)->
   ((Pm (s.heap.objs.size+1) w.names []).Pairwise λx y=>x.2≠y.2)->
   Q (newEnv w s.heap.objs.size globals (Pm (s.heap.objs.size+1) w.names cl) g M0 .none (My h) WN) {s with heap:=G}):
  Nu M A (WV w globals cl [] g M0 .none<|My h) Q E s:=by
 simp only[WV,Option.isSome_some,Ol];refine MY<|wpAny_alloc ?_;refine MY<|wpAny_layCells _ (λS D K=>by cases a:D==Vv<;>simp[a]) _ _ _ _ ?_
 have P:=cellsFrom_ok w.names (s.heap.push {cls:= .type "dict",data:= .dict #[]}) (s.heap.objs.size+1) [] ⟨λ_ _ V=>(nomatch V),Sh⟩ (by rw[OD];exact Nh _);rw[OD]at P;rw[show({s with heap:=s.heap.push {cls:= .type "dict",data:= .dict #[]}}:Na).heap.objs.size=s.heap.objs.size+1 from OD ..];have d:=f (pushCells (s.heap.push {cls:= .type "dict",data:= .dict #[]}) w.names) ((Heap.Ns.new s.heap<|.type "dict").keeps<|pushCells_keeps _ _) (λb o e=>pushCells_keeps _ _ b o<|M4 _ e) P.empty P.apart;exact MY<|M1<|M1 d
noncomputable abbrev aE(X:Cx)(a:a0g)(w:Scope)(D:a0j)(C:M6)(b:a0n)(s:Na)(H:Hp):Cx:=
 {X with N:=a,s₀:=s,H₀:=H,e:=compEnvC w D C X.e,outer:=X.k,k:=X.k,ex:=b,fn:=λx=>w.names.lookup x !=My .free,pn:=[],xe:=λ_ _=>False}
theorem ij{b:Scope}{y:N8×Rk}(h:y∈(relabel b c).names):y∈b.names\/(y.2= .cell/\(y.1,Qs)∈b.names):=by
 obtain⟨⟨n,k⟩,w,e⟩:=NE.mp h
 dsimp only at e
 split at e
 .rename_i a
  cases e;simp only[NN,Rl]at a;obtain⟨⟨a,_⟩,_⟩:=a;subst a;exact .inr ⟨rfl,w⟩
 .cases e
  exact .inl w
theorem FR{X:Cx}{R:St}{s:Na}{Nc G:a0g}{K:a0a}{w:Scope}{h':Op}(I:bx X ac R H s)
  (hk:w.kind= .function) (g:(w.names.map (·.1)).Nodup) (f:∀y∈w.names,y.2= .free->X.e.kindOf y.1=My .cell\/X.e.kindOf y.1=My .free)
  (T:Nc=G++K.map (λj=>X.N.getD j QV)) (U:∀j∈K,j<Uc X.N/\w.names.lookup (X.N.getD j QV)=My .free)
  (F:∀b∈fp,fZ X ac H b) (W:∀b∈fp,∃o,s.heap.get? b=My o) (ns:h'.Ns s.heap.objs.size λ_=>M0) (D:∀b o,s.heap.get? b=My o->h'.get? b=My o)
  (O:∀n c,(n,c)∈Pm (s.heap.objs.size+1) w.names []->h'.IsCell c M0/\s.heap.objs.size+1<=c) (ca:(Pm (s.heap.objs.size+1) w.names []).Pairwise λx y=>x.2≠y.2):
  bx (aE X Nc w (Pm (s.heap.objs.size+1) w.names<|dA X.e.cells w.names []) s.heap.objs.size fp s H) [] (NB (Uc G) M0++K.map (λj=>R.getD j M0)) H {s with heap:=h'}:=by
 --the cells
 have aa:∀{x:N8} {c:M6},(x,c)∈dA X.e.cells w.names []->X.e.cells.lookup x=My c/\(x,Qs)∈w.names:=λ{x c} h=>by
  rcases lk h with h|⟨hm,e⟩
  .cases h
  .obtain⟨d,hd⟩:=I.ok.has x<|f _ hm rfl
   rw[hd]at e;exact⟨by rw[hd,e];rfl,hm⟩
 have a:∀{x:N8} {c:M6},(Pm (s.heap.objs.size+1) w.names<|dA X.e.cells w.names []).lookup x=My c->
   (x,c)∈Pm (s.heap.objs.size+1) w.names []\/(X.e.cells.lookup x=My c/\(x,Qs)∈w.names):=λ{x c} h=>by
  have h:=OU h;rw[dG]at h;rcases NU.mp h with h|h
  .exact .inl h
  .exact .inr (aa h)
 have E:∀{x:N8},(x,Qs)∈w.names->∃c,X.e.cells.lookup x=My c/\(Pm (s.heap.objs.size+1) w.names<|dA X.e.cells w.names []).lookup x=My c:=λ{x} hm=>by
  obtain⟨d,hd⟩:=I.ok.has x<|f _ hm rfl;have e:=pF (cells:=X.e.cells) (acc:=[]) hm;obtain⟨c,Q⟩:=lZ (l:=Pm (s.heap.objs.size+1) w.names<|dA X.e.cells w.names []) (x:=x) (c:=(X.e.cells.lookup x).getD 0) (by rw[dG];exact Oa _ e);rcases a Q with z|⟨z,_⟩
  .have B:=dh g<|iO z
   rw[dh g hm]at B;cases B
  .exact⟨c,z,Q⟩
 have k:∀{x:N8} {c:M6},X.e.cells.lookup x=My c->c<s.heap.objs.size:=λ{x c} h=>let ⟨v,q⟩:=I.cell x c h;q.lt
 have M:H s.heap.objs.size=M0:=I.hok.fresh<|Nh _;have Y:∀b∈et X.k,b∈X.e.locals::X.fs:=I.stkSub;refine⟨⟨I.ok.mod,hk,I.ok.glob,I.ok.blt,Nh _,λx y c h1 h2=>?_,λx hx=>?_,λx c hf h=>?_,I.ok.hd,I.ok.frames,.inl rfl,λb J=>⟨?_,λx c h e=>?_⟩,I.bs,NJ I.ok.bsz I.sz,λb o e J=>?_,λb J hf=>?_,I.stack,I.stkFree⟩,
  rfl,I.bare,Un.kept D,⟨_,ns,λi x v e1 A e3=>?_⟩,λx c h=>?_,M,λx c h=>?_,λp hp=>NH hp (by simp),I.hok.kept D,?_⟩
 .rcases a h1 with B|⟨B,_⟩<;>rcases a h2 with Z|⟨Z,_⟩
  .exact name_of_addr ca B Z
  .exact NH (NM (k Z)<|NJ (Sn _) (O _ _ B).2) (Oi _)
  .exact NH (NM (k B)<|NJ (Sn _) (O _ _ Z).2) (Oi _)
  .exact I.ok.inj _ _ _ B Z
 .--has
  have hx:(relabel w X.e).names.lookup x=My .cell\/(relabel w X.e).names.lookup x=My .free:=hx;have hm:(x,Vv)∈w.names\/(x,Qs)∈w.names:=by
   rcases hx with hx|hx
   .rcases ij (OU hx)with z|⟨_,z⟩
    .exact .inl z
    .exact .inr z
   .rcases ij (OU hx)with z|⟨_,z⟩
    .exact .inr z
    .exact .inr z
  rcases hm with hm|hm
  .have q:=WQ w.names (s.heap.objs.size+1) (dA X.e.cells w.names []) (x:=x)<|.inl<|dh g hm
   exact VT.mp q
  .obtain⟨c,_,Q⟩:=E hm
   exact⟨c,Q⟩
 .--cab
  rcases a h with z|⟨_,z⟩
  .exact NJ (Sn _) (O _ _ z).2
  .have z':(w.names.lookup x !=My .free)=M3:=hf
   rw[dh g z]at z';exact NH z' (by decide)
 .obtain⟨o,e⟩:=W b J
  exact Og<|NI e
 .rcases a h with z|⟨z,_⟩
  .obtain⟨o,e'⟩:=W b J
   subst e;exact NH (NM (NI e')<|NJ (Sn _) (O _ _ z).2)<|Oi _
  .exact(F b J).2.2.2.2.1 x c z e
 .obtain⟨_,_,_,h4,_⟩:=F b J
  rcases h4 with z|z
  .exact I.ok.noex b o e z
  .exact NH (NM (NI (I.ok.bs b o e).1) z) (Oi _)
 .obtain⟨_,h2,h3,_⟩:=F b J
  rcases Nn.mp (Y b hf)with z|z
  .exact h2 z
  .exact h3 z
 .--the names' values
  have hi:¬i<Uc G:=λhi=>by
   rw[PU (by simpa using hi),Pz]at A;split at A<;>cases A
  have L:(G++K.map (λj=>X.N.getD j QV))[i]?=My x:=by rw[<-T];exact e1
  rw[OE<|by lia]at L;rw[OE<|by simpa using hi]at A;rw[Pq]at A;cases q:K[i-Uc G]? with
  |none=>rw[Nk,q]at A;cases A
  |some j=>
   rw[Nk,q]at L A;have C:X.N.getD j QV=x:=N0 L;have P:R.getD j M0=My v:=N0 A;obtain⟨hj,t⟩:=U j<|Nq q;rw[C]at t;obtain⟨c,Q,ab⟩:=E<|OU t;have ad:X.N[j]?=My x:=by
    rw[<-C,Nz,M9 hj];rfl
   have S:R[j]?=My (My v):=by
    have hl:j<Uc R:=by rw[I.len];exact hj
    rw[Nz,M9 hl]at P;rw[M9 hl];exact OG My P
   have V:=f _ (OU t) rfl;obtain⟨m,hn,hl⟩:=I.loc;obtain⟨u,r,l⟩:=hl j x v ad S<|V.elim (λz=> .inr<|.inl z) λz=> .inr<|.inr z;refine⟨u,r,.inr ⟨?_,c,ab,?_⟩⟩
   .rcases e3 with z|z|z
    .exfalso
     rcases ij (OU z)with y|⟨y,_⟩
     .rw[dh g y]at t;cases t
     .cases y
    .exact .inl z
    .exact .inr z
   .rcases l with⟨l,_⟩|⟨_,c',e,z⟩
    .exfalso
     rcases V with y|y
     .have y':X.e.kindOf x=My .cell:=y
      rw[l]at y';cases y'
     .have y':X.e.kindOf x=My .free:=y
      rw[l]at y';cases y'
    .rw[Q]at e
     cases e;exact z.keeps D
 .rcases a h with z|⟨z,_⟩
  .exact⟨M0,(O _ _ z).1⟩
  .obtain⟨v,q⟩:=I.cell x c z
   exact⟨v,q.keeps D⟩
 .rcases a h with z|⟨z,_⟩
  .exact I.hok.fresh (NJ (Sn _) (O _ _ z).2)
  .exact I.freeC x c z
 .show _=Uc Nc
  rw[T,Ni,Ni,Pq,MZ,MZ]
abbrev TB:=St->Hp->(St->Hp->Prop)->Prop
abbrev a0Y:=M6->TB
inductive O_ where
 |L (e:Expr)|S (e:Expr)|D (k v:Expr)
instance:Coe Expr O_:=⟨.L⟩
noncomputable def pj(c:O_)(gens:a0S)(b:Scope)(w:RV):Expr:=match c with
 | .L e=> .ListComp e gens b w
 | .S e=> .SetComp e gens b w
 | .D k v=> .DictComp k v gens b w
noncomputable def YV(c:O_)(w:M8)(b:Vm):WB Unit:=match c with
 | .L e=>do let _ <-RO (.builtin "list.append") [w,<-OS e b]
 | .S e=>do let v <-OS e b;Sg e.pos;let _ <-RO (.builtin "set.add") [w,v]
 | .D k v=>do
   let kv <-OS k b
   let vv <-Ti [kv] (OS v b)
   match w with
   | .ref d=>do
    Sg {k.pos with endLine:=v.pos.endLine,endCol:=v.pos.endCol}
    Ti [kv,vv] (dictSet d kv vv)
   |_=>unsupported "internal:dictcomp"
noncomputable def iG(c:O_)(w:a0S)(D:Scope)(K:RV)(d:Nat)(G:M8)(b:Vm)(k:WB Uh):WB Uh:=
 match w[d+1]? with
 |some E=>do
  let x <-OS E.iter b
  Sg E.iter.pos
  let x <-if E.is_async !=0 then foldedIterable E.iter x else Oj E.iter b x
  let _ <-runOwn (.compStart (pj c w D K) (d+1) (<-Ti [x] (if E.is_async !=0 then asyncIter x else UO x)) G b) b
  k
 |none=>do
  YV c G b
  k
theorem wO{a b:Expr}(e:f[d]?=My ⟨a,b,l,0⟩):
  compTurn (pj c f g i) d k j h=(do
   Sg b.pos
   match <-Sf k with
   |none=>Ps<|.done .next
   |some v=>
    S8 a k v
    S6 a h v
    let mut ok:=M3
    for y in l do
     if ok then ok <-isTrue y h (OS y h)
    if ok then iG c f g i d j h (We<|.compLoop (pj c f g i) d k j h)
    else We (.compLoop (pj c f g i) d k j h)):=by
 cases c<;>(
  unfold compTurn iG pj YV
  dsimp only
  rw[e]
  dsimp only
  cases f[d+1]?<;>rfl)
variable{O:NY}{A:Om}{R:Result->Na->Prop}{s:Na}
theorem Fw(F:L[d]?=My ⟨br,W,U,0⟩)(I:Nat->Na->Prop)
  (q:∀n s,I n s->Nu (NK O w) A (Sf T) (λr a=>match r with
   |none=>R (.ok .next) a
   |some v=>Nu (NK O w) A (S8 br T v) (λ_ b=>Nu (NK O w) A (S6 br H v) (λ_ j=>
    Nu (NK O w) A (WT U M3 λy r=>if r=M3 then do let E <-isTrue y H (OS y H);Ps (RW E)else Ps (RW r)) (λE g=>
     if E=M3 then ∀(k:WB Uh) (B:Uh->Na->Prop) (C:a0d),(∀i m,m<n->I m i->Nu (NK O w) A k B C i)->Nu (NK O w) A (iG c L J N d Q H k) B C g
     else ∃m,m<n/\I m g) (λ_ _=>False) j) (λ_ _=>False) b) (λ_ _=>False) a) (λ_ _=>False) s)
  (n:Nat) (h:I n s):
  QO (NK O w) A (.compLoop (pj c L J N) d T Q H) R s:=by
 refine codeAny_loop rfl I (λn s hI=>?_) n h
 suffices z:Nu (NK O w) A ((compTurn (pj c L J N) d T Q H).onRaise (λx=>do XU x H;theTreesLotGoes x)) (λu G=>match u with
   |Fin.done f=>R (Pi f) G
   |Fin.again c'=>c'=Code.compLoop (pj c L J N) d T Q H/\∃m,m<n/\I m G) (λe G=>R (Except.error e) G) s by cases c<;>exact z
 refine wpAny_noted ?_;rw[wO F];refine MY<|Pg<|MY<|Od (q n s hI) (λr a l=>?_) λ_ _ D=>D.elim;cases r with
 |none=>exact M1 l
 |some v=>
  refine MY<|Od l (λ_ b p=>?_) λ_ _ D=>D.elim;refine MY<|Od p (λ_ j t=>MY<|Od t (λE g o=>?_) λ_ _ D=>D.elim) λ_ _ D=>D.elim;cases E with
  |false=>exact M1 ⟨rfl,o⟩
  |true=>exact o _ _ _ λi m K hI=>M1 ⟨rfl,m,K,hI⟩
theorem AS(j:l[d]?=My ⟨br,o,q,0⟩)
  (i:QO (NK O w) A (.compLoop (pj c l k m) d r p n) R s)
  (h:Nu (NK O w) A (UO r) (λa D=>QO (NK O w) A (.compLoop (pj c l k m) d a p n) R D) (λ_ _=>False) s):
  QO (NK O w) A (.compStart (pj c l k m) d r p n) R s:=by
 refine Wn ?_
 suffices z:Nu (NK O w) A ((compStart (pj c l k m) d r p n).onRaise (λx=>do XU x n;Sg theWindowsPlace)) (λg D=>match g with
   |Fin.done f=>R (Pi f) D
   |Fin.again c'=>c'.quiet=M3/\QO (NK O w) A c' R D) (λe D=>R (Except.error e) D) s by cases c<;>exact z
 refine wpAny_notedAt ?_;unfold compStart;have b:(clausesOf<|pj c l k m)[d]?=My ⟨br,o,q,0⟩:=by cases c<;>exact j
 generalize (clausesOf<|pj c l k m)[d]?=og at b⊢;subst b;show Nu _ _ (ask>>=_) _ _ s;refine MY<|SE<|wpAny_ite ?_;split
 .first
   |exact MY (M1 (M1 (Wq rfl i)))
   |exact M1 (Wq rfl i)
 .first
   |exact MY (PL (MY (Pg (MY (Od h (λa D E=>M1<|Wq rfl E) λ_ _ x=>x.elim)))))
   |(refine MY (PL ?_);show Nu _ _ (Sg o.pos>>=_) _ _ s;exact MY (Pg (MY (Od h (λa D E=>M1<|Wq rfl E) λ_ _ x=>x.elim))))
def dP(X:Cx)(b:List Expr)(t:TT):Prop:=
 ∀(a:a0c) (s:Na) (d:St) (H:Hp) (Q:a0W),bx X a d H s->t d H Q->
  Nu (NK X.p X.w) X.A (WT b M3 λc r=>if r=M3 then do let ok <-isTrue c X.e (OS c X.e);Ps (RW ok)else Ps (RW r)) (TP X a d Q) X.xe s
noncomputable def Jq:TT:=λ_ H Q=>Q M3 H
theorem vM{X:Cx}:dP X [] Jq:=λ_ _ _ H _ I h=>M1 ⟨H,I,h⟩
theorem E5{X:Cx}(d:PT X c t):dP X [c] t:=λa s e H Q I h=>by
 simp only[QS,Q8,Ol];exact MY<|MY<|Od (d a s e H Q I h) (λb w f=>M1<|M1 f) λ_ _ x=>x
def PB(X:Cx)(c:O_)(gens:a0S)(E:Scope)(G:RV)(d:Nat)(D:M6)(t:TB):Prop:=
 ∀(a:a0c) (s:Na) (e:St) (H:Hp) (Q:a0F),bx X a e H s->t e H Q->
  ∀(k:WB Uh) (f:Uh->Na->Prop) (g:a0d),(∀K b h,bx X a b h K->Q b h->Nu (NK X.p X.w) X.A k f g K)->Nu (NK X.p X.w) X.A (iG c gens E G d (.ref D) X.e k) f g s
def dj(J:It)(g:TG)(w:TT)(h:TB):TB:=λc H Q=>∃W:Nat->Nat->St->Hp->Prop,(∃m,W 0 m c H)/\∀i m c H,W i m c H->
 (J.stop i H/\Q c H)\/(J.go i H/\∃N:St->Hp->Prop,(∀d e,N d e->∃s,s<m/\W (i+1) s d e)/\∀x e,J.yld i H x e->g x c e λa j=>w a j λb f=>if b=M3 then h a f N else N a f)
def zS(D:M6)(b:TE):TB:=λa H Q=>b a H λv w=>∃s,w D=My (.l s)/\Uc s<Nw/\Q a (upd w D<|.l<|s++[v])
def zR(b:TI)(lp:It->TB):TB:=λa H Q=>b a H λJ s=>lp J a s Q
variable{c:O_}{ad br P:Expr}{ab:List Expr}{gens:a0S}{scope:Scope}{aa:RV}{d:Nat}{D:M6}
theorem uh(hg:gens[d]?=My ⟨br,P,ab,0⟩)(hc:X.calm=M3)(F:X.xe=λ_ _=>False)(R:PG X br g)(S:dP X ab tt)(j:PB X c gens scope aa d D tb)
  {s:Na}
  (I:bx X ac σ H s) (T:ni X.p X.w X.K br J fp it tn) (st:tn 0 s.heap) (hf:∀b∈fp,fZ X ac H b) (h:dj J g tt tb σ H Q):
  QO (NK X.p X.w) X.A (.compStart (pj c gens scope aa) d (.ref it) (.ref D) X.e) (λr E=>r= .ok .next/\∃a f,bx X ac a f E/\Q a f) s:=by
 obtain⟨W,⟨m0,w0⟩,L⟩:=h;have l:∀{f:Hp},(∀b∈fp,f b=M0)->∀b∈fp,fZ X ac f b:=λhn b j=>⟨hn b j,(hf b j).2⟩;have t:QO (NK X.p X.w) X.A (.compLoop (pj c gens scope aa) d (.ref it) (.ref D) X.e) (λr E=>r= .ok .next/\∃a f,bx X ac a f E/\Q a f) s:=by
  refine Fw hg (λn E=>∃i a f,bx X ac a f E/\tn i E.heap/\(∀b∈fp,f b=M0)/\W i n a f) ?_ m0 ⟨0,σ,H,I,st,λb j=>(hf b j).1,w0⟩;rintro n s3 ⟨i,p,Z,I3,O,U,w3⟩;rcases L i n p Z w3 with⟨G,qn⟩|⟨go,N,hN,step⟩
  .refine dy (T.done X rfl rfl rfl hc i ac s3 p Z _ I3 (l U) O G) λr s4 ⟨V,I4⟩=>?_
   subst V;exact⟨rfl,p,Z,I4,qn⟩
  .refine dy (T.item X rfl rfl rfl hc i ac s3 p Z _ I3 (l U) O go) λr s4 ⟨u,V,h4⟩=>?_
   subst V;refine dy h4 λ_ s5 ⟨x,H5,I5,r5,y5,v,ad⟩=>?_;have ae:=I5.pinned (l ad)<|T.obj _ _ v;have We:∀{q:St} {y:Hp} {B:Na},bx X (ac++mG fp s5.heap) q y B->N q y->∃m,m<n/\∃i a f,bx X ac a f B/\tn i B.heap/\(∀b∈fp,f b=M0)/\W i m a f:=λ{q y B} C n7=>by
    obtain⟨m',hm,w7⟩:=hN q y n7;refine⟨m',hm,i+1,q,y,C.p3,T.keep _ _ _ v λb j o e=>(C.pin (b,o)<|Oa _<|Oa _<|i7 j e).1,λb j=>?_,w7⟩;obtain⟨o,e,d⟩:=T.obj _ _ v b j;exact(C.pin (b,o)<|Oa _<|Oa _<|i7 j e).2.1
   have h6:=R _ s5 p H5 x u _ ae r5<|step x H5 y5;rw[F]at h6;refine dy h6 λ_ s6 ⟨Y,H6,I6,q6⟩=>?_;have h7:=S _ s6 Y H6 _ I6 q6;rw[F]at h7;refine dy h7 λb B ⟨y,C,M⟩=>?_;cases b with
   |true=>
    rw[Ng rfl]at M⊢;intro k Q' E' hk;refine j _ B Y y N C M k Q' E' λs8 af H8 I8 n8=>?_;obtain⟨m,hm,z⟩:=We I8 n8;exact hk s8 m hm z
   |false=>
    rw[Nf Nb]at M⊢;exact We C M
 exact AS hg t<|T.self X.A 0 s _ _ st t
theorem aM(m:gens[d+1]?=M0)(o:PE X ad x)(b:X.xe=λ_ _=>False):PB X ad gens scope aa d D (zS D x):=by
 intro a s g H Q I h k y B p;unfold iG;rw[m];show Nu _ _ ((do let _ <-RO (.builtin "list.append") [.ref D,<-OS ad X.e])>>=λ_=>k) _ _ _
 have i:=o a s g H _ I h;rw[b]at i;refine MY<|MY<|Od i (λu C ⟨v,w,j,r,A,l,J,q⟩=>?_) λ_ _ f=>f.elim;obtain⟨z,c,n,t,L,e⟩:=j.lstM l;refine MY<|WP F.slot_list_append ⟨_,e,rfl⟩ F.entry_list_append (X0 _ _) (XJ D c.toArray n u<|by rw[NG];lia) ⟨e,?_⟩;refine M1<|p _ g _ (j.lset (its':=c++[u]) l e (by simp) (t.append<|.cons r .nil) ?_) q;rw[Ni,N5];lia
theorem nX(o:gens[d+1]?=My ⟨target',iter',ifs',0⟩)(p:X.calm=M3)(a:X.xe=λ_ _=>False)(t:PI X target' iter' wi)
  (j:PG X target' g) (l:dP X ifs' tt) (u:PB X c gens scope aa (d+1) D tb) (w:∀x,Oj iter' X.e x=Ps x:=by intro _;rfl):PB X c gens scope aa d D (zR wi λJ=>dj J g tt tb):=by
 intro b s y H Q I h k Y Z B;unfold iG;rw[o];have i:=t b s y H _ I h;rw[a]at i;refine MY<|Od i (λv E i=>MY<|Pg ?_) λ_ _ f=>f.elim;show Nu _ _ (Oj iter' X.e v>>=_) _ _ _;refine MY<|Rn (w v) ?_;show Nu _ _ (Ti [v] (UO v)>>=_) _ _ _;refine MY<|O0<|Od i (λC G F=>?_) λ_ _ f=>f.elim;obtain⟨K,M,P,J,R,e,L,T,m,f2,q⟩:=F;subst e;refine MY<|wpAny_runOwn<|Q1 (uh o p a j l u L T m f2 q) λr A ⟨N,z⟩=>?_;subst N;obtain⟨n,O,U,W⟩:=z;exact B A n O U W
noncomputable def kS(b:a0g)(c:a0a)(a:St):St:=NB (Uc b) M0++c.map (λj=>a.getD j M0)
def Y4(X:Cx)(mk:WB M8)(g:M6->HO):Prop:=∀(a:a0c) (s:Na) (f:St) (H:Hp) (E:a0d) (Q:a0d),bx X a f H s->
 (∀e:Na,bx X a f (upd H s.heap.objs.size<|g s.heap.objs.size) e->(∀b o,s.heap.get? b=My o->e.heap.get? b=My o)->Q (.ref s.heap.objs.size) e)->Nu (NK X.p X.w) X.A mk Q E s
theorem vV{X:Cx}:Y4 X (newList []) λ_=> .l []:=λa s f H E Q I h=>OH<|h _ (I.lnew (t':=s.toks) .nil<|OV _) λb o e=>M4 _ e
def pY(d:a0g)(s:a0a)(b:TI)(lp:M6->It->TB):TE:=λa H Q=>b a H λJ c=>∀D,c D=M0->lp D J (kS d s a) (upd c D<|.l []) λ_ e=>Q (.r D) e
structure cy (X:Cx) (scope:Scope) (Nc cx:a0g) (bt:a0a):Prop where
 kind:scope.kind= .function
 nd:(scope.names.map (·.1)).Nodup
 free:∀y∈scope.names,y.2= .free->X.e.kindOf y.1=My .cell\/X.e.kindOf y.1=My .free
 names:Nc=cx++bt.map (λj=>X.N.getD j QV)
 cap:∀j∈bt,j<Uc X.N/\scope.names.lookup (X.N.getD j QV)=My .free
variable{R:a0S}{Nc cx:a0g}{bt:a0a}{g:TG}{tt:TT}{tb:a0Y}{wi:TI}
def Lm(X:Cx)(a:a0c)(H:Hp)(C:M6):Prop:=H C=M0/\C≠X.e.locals/\X.s₀.heap.objs.size<=C/\(∀x c,X.e.cells.lookup x=My c->c≠C)/\∀p∈X.pn++a,p.1≠C
theorem iF{c:O_}{mk:WB M8}{B:M6->HO}(O:Y4 X mk B){f:a0c}{F:St}{H:Hp}{s:Na}{it:M6}{h:a0n}{Q:Nat->Op->Prop}{J:It}{E:a0d}{QQ:M6->Hp->Prop}{RR:M8->M6->Result->Na->Prop}
  (hc:X.calm=M3) (S:cy X scope Nc cx bt)
  (L:∀(cl:a0j) (C:M6) (h:a0n) (s:Na) (H:Hp),PG (aE X Nc scope cl C h s H) br g/\dP (aE X Nc scope cl C h s H) ab tt/\∀D,PB (aE X Nc scope cl C h s H) c (⟨br,P,ab,0⟩::R) scope aa 0 D<|tb D)
  (I:bx X f F H s) (T:ni X.p X.w X.K br J h it Q) (st:Q 0 s.heap) (U:∀b∈h,fZ X f H b)
  (q:∀D,H D=M0->dj J g tt (tb D) (kS cx bt F) (upd H D<|B D) λ_ k=>QQ D k)
  (W:∀(D C:M6) (M:Na) (k:Hp) (m:a0h),bx X f F k M->M.heap.Ns C m->Lm X f k C->QQ D k->RR (.ref D) C (.ok .next) M):
  Nu (NK X.p X.w) X.A mk (λV t=>Nu (NK X.p X.w) X.A (WV scope X.e.globals (dA X.e.cells scope.names []) [] X.e.qual M0 .none<|My X.e) (λj u=>
   QO (NK X.p X.w) X.A (.compStart (pj c (⟨br,P,ab,0⟩::R) scope aa) 0 (.ref it) V {j with scope:=relabel scope X.e}) (RR V j.locals) u) E t) E s:=by
 refine O f s F H _ _ I λi l y=>?_;have hD:H s.heap.objs.size=M0:=I.fresh;have q3:=q s.heap.objs.size hD;have Y:∀b∈h,∃o,i.heap.get? b=My o:=λb L=>let ⟨o,e,_⟩:=T.obj _ _ st b L;⟨o,y b o e⟩
 have Z:∀b∈h,fZ X f (upd H s.heap.objs.size<|B s.heap.objs.size) b:=λb a=>⟨by
  rw[bb]
  .exact(U b a).1
  .obtain⟨o,e,_⟩:=T.obj _ _ st b a
   exact Og<|NI e,(U b a).2⟩
 generalize ac:upd H s.heap.objs.size (B s.heap.objs.size)=H3 at l q3 Z;generalize s.heap.objs.size=D at hD ac q3⊢;refine Ga λh' ns G ce ca=>?_;have N:=FR l S.kind S.nd S.free S.names S.cap Z Y ns G ce ca;obtain⟨b1,b2,b3⟩:=L (Pm (i.heap.objs.size+1) scope.names<|dA X.e.cells scope.names []) i.heap.objs.size h i H3;have ad:Q 0 h':=T.keep _ _ _ st λb L o e=>G b o<|y b o e;have f4:∀b∈h,fZ (aE X Nc scope (Pm (i.heap.objs.size+1) scope.names<|dA X.e.cells scope.names []) i.heap.objs.size h i H3) [] H3 b:=λb a=>
  ⟨(Z b a).1,(N.ok.exf b a).1,N.ok.exfs b a,.inl a,(N.ok.exf b a).2,λp hp=>NH hp<|by simp⟩
 refine Q1 (uh (X:=aE X Nc scope (Pm (i.heap.objs.size+1) scope.names<|dA X.e.cells scope.names []) i.heap.objs.size h i H3) (gens:=⟨br,P,ab,0⟩::R) (d:=0) rfl hc rfl b1 b2 (b3 D) N T ad f4 q3) λr M ⟨hr,ae,k,n,q'⟩=>?_;subst hr;obtain⟨m,hm,_⟩:=n.loc;have C1:X.e.locals<i.heap.objs.size:=l.lt;refine W D _ M k m (l.call' (ch:=h) n.os n.base n.hok n.bare λb a=>?_) hm ⟨n.free,P7 C1,l.sz,λx c e z=>?_,λp hp z=>?_⟩ q'
 .obtain⟨_,h2,h3,h4,h5,h6⟩:=U b a
  exact⟨h4,h2,h5,h6⟩
 .obtain⟨v,e'⟩:=l.cell x c e
  exact NH (z▸e'.lt)<|Oi _
 .have:=NI (l.pin p hp).1
  rw[z]at this;exact NH this<|Oi _
theorem bx.letgo{s:Na}(I:bx X h i H s)(o:Lm X h H C)(c:N1 C s.heap j):bx X h i H {s with heap:=j}:=
 I.turned (t':=s.toks) (λb f a e=>(c.2 b a).trans e) o.1 (Ne.symm<|Ne.symm o.2.1) (.inr o.2.2.1) o.2.2.2.1 o.2.2.2.2
theorem cy.clo(S:cy X scope Nc cx bt)(b:X.Ok):closureFor scope X.e=Ps (dA X.e.cells scope.names []):=zL λy c a=>b.has y.1<|S.free y c a
theorem cy.p3(S:cy X scope Nc cx bt):∀x∈scope.names,x.2= .local->scope.names.lookup x.1=My .local:=λx b a=>dh S.nd (by rw[<-a];exact b)
theorem nW(j:X.calm=M3)(S:cy X scope Nc cx bt)(k:PI X br P wi)
  (l:∀(d:a0j) (C:M6) (b:a0n) (s:Na) (H:Hp),PG (aE X Nc scope d C b s H) br g/\dP (aE X Nc scope d C b s H) ab tt/\∀D,PB (aE X Nc scope d C b s H) ad (⟨br,P,ab,0⟩::R) scope aa 0 D<|tb D)
  (G:∀x,Oj P X.e x=Ps x:=by intro _;rfl):PE X (.ListComp ad (⟨br,P,ab,0⟩::R) scope aa) (pY cx bt wi λD J=>dj J g tt<|tb D):=by
 intro a s n H Q I h;rw[eval_ListComp];refine QG (use:=M0) rfl G (S.clo I.ok) S.kind S.p3<|Od (k a s n H _ I h) (λv N o=>Od o (λp O r=>?_) λ_ _ x=>x) λ_ _ x=>x;obtain⟨M,b,U,J,W,e,t,T,f,f2,q⟩:=r;subst e;refine iF (c:= .L ad) vV (RR:=λE C=>WR (NK X.p X.w) X.A X.xe M0 _ E C) j S l t T f f2 q λD C V u m y K B F=>?_;exact⟨m,K,λz i=>⟨.r D,u,y.letgo B i,rfl,F⟩⟩
theorem rO{b f:RV}(y:X.N.Nodup)(l:X.N[i]?=My x)(G:si X.e.scope x)(B:X.calm=M3)(S:cy X scope Nc cx bt)(F:PI X br P wi)
  (O:∀(d:a0j) (C:M6) (k:a0n) (s:Na) (H:Hp),PG (aE X Nc scope d C k s H) br g/\dP (aE X Nc scope d C k s H) ab tt/\∀D,PB (aE X Nc scope d C k s H) ad (⟨br,P,ab,0⟩::R) scope aa 0 D<|tb D)
  (n:Rx (.ListComp ad (⟨br,P,ab,0⟩::R) scope aa) (My<|.Name x b) f.line X.e=Ps M3:=by rfl)
  (K:∀x,Oj P X.e x=Ps x:=by intro _;rfl) (U:b0d X x:=by first|exact .inl rfl|exact .inr rfl|assumption):
  PS X (.Assign [.Name x b] (.ListComp ad (⟨br,P,ab,0⟩::R) scope aa) f) (gr (pY cx bt wi λD J=>dj J g tt<|tb D)<|fi i):=by
 intro j s W H D I h;rw[exec_Assign_Name_used _ _ _ _ n];refine MY<|Pg<|MY ?_;show Nu _ X.A (do let _ <-comprehension (.ListComp ad (⟨br,P,ab,0⟩::R) scope aa) scope X.e _ (newList []) M5 (OS P X.e) (My<|S6 (.Name x b) X.e)) _ _ s
 refine MY<|Od (QG (use:=My<|S6 (.Name x b) X.e) (Q:=λ_ s'=>SP X j D .next s') rfl K (S.clo I.ok) S.kind S.p3
  (Od (F j s W H _ I h) (λv s1 Y=>Od Y (λZ M V=>?_) λ_ _ e=>e) λ_ _ e=>e)) (λ_ s' hq=>M1<|M1 hq) λ_ _ e=>e
 obtain⟨it,k,tn,J,H2,e,o,T,p,f2,q⟩:=V;subst e;refine iF (c:= .L ad) vV (RR:=λE C=>WR (NK X.p X.w) X.A X.xe (My<|S6 (.Name x b) X.e) _ E C) B S O o T p f2 q λA C s' H' m I' ns r q'=>?_;show Nu _ X.A (S6 (.Name x b) X.e<|.ref A) _ _ s';refine VO<|mh I' y l G (v:= .r A) rfl (λM o ⟨a,sb,ha⟩=>?_) U;have t:C≠a:=by
  rcases ha with rfl|ha
  .exact r.2.1
  .exact λz=>r.2.2.2.1 x a ha z.symm
 exact⟨m,ns.sameBut sb t,λh' u=>⟨_,H',o.letgo r u,q'⟩⟩
end
end L2
namespace L2
open Sem (wp)
open Builtin Builtin.ObjectAttr
noncomputable abbrev di(C:M6)(D:a0z)(t:M6):Oz:={cls:= .ref C,dict:=D,data:= .fields #[.ref t,.none,.none,.none,.bool M5,.none]}
structure iv (h:Op) (C:M6) (bm:a0f):Prop where
 at_:∃(nm q:N8) (N:M6) (bs:a0f) (hdct:Bool) (sn:a0g) (sub:a0f) (ab:Bool) (col:a0K) (dd:a0z) (k0 k1 k2 k3 k5:a1d),
  h.get? C=My (excClassObj nm q C N bs bm hdct sn sub ab col dd k0 k1 k2 k3 k5 "ValueError.__new__")
 val:bm.contains (.type "ValueError")=M3
 bas:bm.contains (.type "BaseException")=M3
 att:bm.contains (.type "AttributeError")=M5
 nam:bm.contains (.type "NameError")=M5
section
variable{O:NY}{w:N6}{A:Om}{E:a0d}{h:Op}{g:Array GenState}{d:Drawn}{t:Nat}{I:Qd}{C:M6}{bm z:a0f}
theorem IU(S:iv h C bm)
  (l:R (.ok<|.ret<|.ref<|h.objs.size+1) ⟨(h.push {cls:= .type "tuple",data:= .seq z.toArray}).push<|di C M0 h.objs.size,g,d,t,I⟩) (b:Uc z<=Nw):
  QO (NK O w) A (.builtin "ValueError.__new__" ⟨.ref C::z,[]⟩) R ⟨h,g,d,t,I⟩:=by
 obtain⟨⟨K,q,N,M,D,V,E,r,G,s,k0,u,v,x,y,c⟩,m,hB,n,o⟩:=S;have a:=Q0;have e:=a.ends;have f:(Ny C::bm).contains (.type "ValueError")=M3:=by rw[QJ,m,UV]
 have i:(Ny C::bm).contains (.type "AttributeError")=M5:=by rw[QJ,n];rfl
 have j:(Ny C::bm).contains (.type "NameError")=M5:=by rw[QJ,o];rfl
 refine codeAny_builtinAt a.entry ?_;unfold Builtin.«BaseException.__new__»;refine PySem.wpAt_bind ?_;show PySem.wpAt _ _ _ (stack>>=_) _ _ _;refine PySem.wpAt_bind (PySem.wpAt_stack λp k=>PySem.wpAt_of_wpAny ?_)
 wp_walk
 refine wpAt_of_wpAny ?_;rw[a.owner]
 repeat (first|with_reducible refine wpAny_madeHere_exc a.canon c ?_|with_reducible refine Qk c ?_|(with_reducible refine Tc c ?_;first|rw[f]|rw[i]|rw[j])|wp_step)
 show R _ _;rw[OD];exact l
theorem uF{K:ND}(X:K.In h)(S:iv h C bm)(m:Qm K (.ref C) "__init__"=My (My<|.ref fI))(n:isFn K (.ref fI)=M3)(a:Uc z<=Nw)
  (p:Nu (NK O w) A (RO (.ref fI)<|.ref (h.objs.size+1)::z) (λr G=>r= .none/\Q (.done<|.ret<|.ref<|h.objs.size+1) G) E
   ⟨(h.push {cls:= .type "tuple",data:= .seq z.toArray}).push {cls:= .ref C,data:= .fields #[.ref h.objs.size,.none,.none,.none,.bool M5,.none]},g,d,t,I⟩):
  Nu (NK O w) A (Builtin.«type.__call__» ⟨.ref C::z,[]⟩) Q E ⟨h,g,d,t,I⟩:=by
 have u:=S;obtain⟨⟨J,q,N,L,M,P,V,R,s,T,k0,U,W,Y,Z,f⟩,v,hB,F,H⟩:=S;have k:=Q0
 repeat (first|with_reducible refine Qk f ?_|with_reducible refine wpAny_madeBy_exc f ?_|wp_step)
 refine codeAny_call_builtin_code (UF _ k.quiet)<|wpAny_check_new_subU k v (OwnTail.base (bmB:=bm)) f ?_;refine IU u ?_ a;show Nu _ _ _ _ _ _;have D:∀b o,h.get? b=My o->((h.push {cls:= .type "tuple",data:= .seq z.toArray}).push {cls:= .ref C,data:= .fields #[.ref h.objs.size,.none,.none,.none,.bool M5,.none]}).get? b=My o:=λb o e=>M4 _<|M4 _ e;have i:=D _ _ f;have l:=X.keeps D;have c:((h.push {cls:= .type "tuple",data:= .seq z.toArray}).push {cls:= .ref C,data:= .fields #[.ref h.objs.size,.none,.none,.none,.bool M5,.none]}).get? (h.objs.size+1)=My {cls:= .ref C,data:= .fields #[.ref h.objs.size,.none,.none,.none,.bool M5,.none]}:=by heap_get
 have j:(Ny C::bm).contains (.ref C)=M3:=by simp
 unfold Tu
 repeat (first|with_reducible refine Qk c ?_|(with_reducible refine Tc i ?_;rw[j])|wp_step)
 show Nu _ _ (typeLookup (.ref C) _) _ _ _;refine(VI l m).here ?_;refine O0<|MY<|(XE l (.ref<|h.objs.size+1)<|beq_iff_eq.mp n).here ?_;refine MY<|Od p (λr G y=>?_) λ_ _ x=>x;obtain⟨rfl,B⟩:=y
 wp_walk
 exact B
theorem F9{K:ND}(X:K.In h)(S:iv h C bm)(c:Qm K (.ref C) "__init__"=My (My<|.ref fI))(e:isFn K (.ref fI)=M3)(a:Uc z<=Nw)
  (f:Nu (NK O w) (A.under<|.builtin "type.__call__" ⟨.ref C::z,[]⟩) (RO (.ref fI)<|.ref (h.objs.size+1)::z) (λr G=>r= .none/\Q (.ref<|h.objs.size+1) G) E
   ⟨(h.push {cls:= .type "tuple",data:= .seq z.toArray}).push {cls:= .ref C,data:= .fields #[.ref h.objs.size,.none,.none,.none,.bool M5,.none]},g,d,t,I⟩):
  Nu (NK O w) A (RO (.ref C) z) Q E ⟨h,g,d,t,I⟩:=by
 have i:=S;obtain⟨⟨n,q,N,o,D,p,M,s,V,u,k0,v,x,y,B,b⟩,j,hB,k,l⟩:=S;have f1:=tc_lookup;have f2:=tc_bind<|.ref C;have m:(⟨h,g,d,t,I⟩:Na).TypeIs (.ref C) "type":=⟨_,b,rfl⟩;refine SG<|Wn ?_;show Nu _ _ (callAny (.ref C) _) _ _ _
 repeat (any_goals (first|assumption|with_reducible refine Qk b ?_|wp_step))
 refine⟨rfl,?_⟩;exact codeAny_call_builtin_at (UF _<|by decide +kernel) entry_typeCall<|wpAny_check_type_call_sub b<|uF X i c e a f
theorem sj{l:Oz}{M:Tp}(S:iv h C bm)(o:h.get? e=My l)(c:l.cls= .ref C)(p:Q () ⟨h,g,d,t,I⟩):
  Nu M A (V4 "ValueError.__init__" ⟨.ref e::z,[]⟩) Q E ⟨h,g,d,t,I⟩:=by
 obtain⟨⟨K,q,N,O,w,V,D,s,G,y,k0,B,F,H,J,m⟩,r,hB,u,v⟩:=S;have i:=Q0;have k:(Ny C::bm).contains (.type "ValueError")=M3:=by rw[QJ,r,UV]
 have j:=i.noStar;simp only[V4,i.initKind,i.initSplit,i.initRow]
 repeat (first|(with_reducible refine Qk o ?_;rw[c])|with_reducible refine Qk m ?_|(with_reducible refine Tc m ?_;rw[k])|wp_step)
 refine TY ?_;have f:∀(a b:String) (n:Nat),Bind.check ⟨.positional,"*","ValueError",.self,[⟨"args",.varPos,M5⟩]⟩ a b n (P8 (λx=>x.fst) ({pos:=Ny e::z}:Args).kw)=Ps ():=λa b n=>check_star_args _ _ _ _ _ _;rw[f];exact M1 p
theorem DM(S:iv h C bm)(f:h.get? e=My (di C m t0))(a:Uc z<=Nw)
  (j:∀D:Op,D.get? e=My (di C m h.objs.size)->(∀b o,b≠e->h.get? b=My o->D.get? b=My o)->Q .none ⟨D,g,d,t,I⟩):
  Nu (NK O w) A (RO (.builtin "ValueError.__init__")<|.ref e::z) Q E ⟨h,g,d,t,I⟩:=by
 have i:=Q0;refine SG<|SN i.init.plain i.initEntry<|sj S f rfl ?_;have c:=M4 {cls:= .type "tuple",data:= .seq z.toArray} f;unfold Builtin.«BaseException.__init__»
 dsimp only
 refine MY ?_;refine UR ?_ a;unfold Xd;refine MY<|MY<|OL c rfl (x:= .ref t0) rfl ?_;refine MY<|Qu c rfl (by simp) ?_
 dsimp only
 refine UQ<|M1 ?_;refine j _ ?_ λb o k l=>?_
 .rw[O6 _ c rfl]
  rfl
 .rw[Qi _ _<|Ne.symm k]
  exact M4 _ l
noncomputable def fV:a0f->Bool
 |[.type a,.type b,.type c,.type d]=>a=="ValueError"&&b=="Exception"&&c=="BaseException"&&d=="object"
 | .ref _::r=>fV r
 |_=>M5
theorem vJ(d:M8):refuseLoop d "__setattr__" [.type "ValueError",.type "Exception",.type "BaseException",.type "object"]=Ps ():=by kernel_rfl
theorem qp(g:M8):∀{l:a0f},fV l=M3->refuseLoop g "__setattr__" l=Ps ()
 |[.type a,.type b,.type c,.type d],e=>by
  simp only[fV,NN,Rl]at e;obtain⟨⟨⟨rfl,rfl⟩,rfl⟩,rfl⟩:=e;exact vJ g
 | .ref c::r,e=>by rw[refuseLoop_ref];exact qp g (by cases r<;>exact e)
theorem yd:∀{l:a0f},fV l=M3->l.contains (.type "object")=M3
 |[.type a,.type b,.type c,.type d],e=>by
  simp only[fV,NN,Rl]at e;obtain⟨⟨⟨rfl,rfl⟩,rfl⟩,rfl⟩:=e;decide
 | .ref c::r,e=>by rw[QJ,yd (l:=r) (by cases r<;>exact e),UV]
variable{s:Na}{e:M6}{K:ND}{g:ClassData}{d:N8}{v:M8}
theorem F8{k:Oz}(X:K.In s.heap)(m:s.heap.get? e=My k)(a:k.cls= .ref C)(l:clsIn K C=My g)(i:fV g.mro=M3)(n:Qm K (.ref C) d=My M0)
  (h:∀b,Nu (NK O w) A.in1 (storeInOwnDict (.ref e) (.ref C) (.str d o) d v b)
   (λj t=>match j with| .done f=>R (.ok f) t| .again p=>p.quiet=M3/\QO (NK O w) A p R t) (λx t=>R (.error x) t) s):
  QO (NK O w) A (.call (.builtin "object.__setattr__") ⟨[.ref e,.str d o,v],[]⟩) R s:=by
 have c:=PySem.F.store_object;have tp:Qh (NK O w) s.heap (Yc<|.ref e) (.ref C):=by
  have:=(T6 (M:=NK O w) (part:=My headPart) m);exact this.andThen (by rw[a];exact .now)
 have D:g.mro.isEmpty=M5:=by cases q:g.mro with|nil=>rw[q]at i;cases i|cons _ _=>rfl
 have z:Qh (NK O w) s.heap (Tu (.ref e)<|.type "object") M3:=tp.andThen (PySem.W.looks_mroIn X<|by unfold mroIn;rw[l,Qy,Nf (by rw[D];decide),yd i]);refine SN c.slot.plain c.entry<|@PySem.W.check_slot (NK O w) _ _ s "object.__setattr__" "object" "__setattr__" (.ref e) [.str d o,v] [] _ c.kind c.split z (c.args (.ref e) (.str d o) v) ?_;have E:Qh (NK O w) s.heap (mroOf<|.ref C) g.mro:=(looks_clsIn X l).andThen .now;rw[PySem.W.osa_eq,refuse_eq];refine MY<|MY<|tp.here<|MY<|E.here ?_;rw[qp _ i];refine M1<|MY<|tp.here<|MY<|(VI X n).here<|MY<|M1 ?_;exact h _
theorem DO{b:Oz}(X:K.In s.heap)(c:s.heap.get? e=My b)(a:b.cls= .ref C)(t:Qm K (.ref C) "__setattr__"=My (My<|.builtin "object.__setattr__"))
  (h:QO (NK O w) A (.call (.builtin "object.__setattr__") ⟨[.ref e,.str d s.toks,v],[]⟩) (λr g=>match r with| .ok (.ret _)=>Q () g| .ok _=>False| .error x=>E x g) {s with toks:=s.toks+1}):
  Nu (NK O w) A (setAttr (.ref e) d v) Q E s:=by
 have tp:Qh (NK O w) s.heap (Yc<|.ref e) (.ref C):=by
  have:=(T6 (M:=NK O w) (part:=My headPart) c);exact this.andThen (by rw[a];exact .now)
 refine MY<|wpAny_mkText<|MY<|MY<|MY<|tp _ _ _ _ (λ_ _ e=>e)<|VI X t _ _ _ _ (λ_ _ e=>e)<|O0 ?_;rw[PySem.F.store_object.slot.bind];refine MY<|M1<|MY<|SG<|Q1 h λr g z=>?_;rcases r with x|(v|_|_|_)<;>first|exact z|exact M1 (M1 z)
theorem F7(X:K.In s.heap)(a:s.heap.get? e=My (di C M0 t0))
  (h:Qm K (.ref C) "__setattr__"=My (My<|.builtin "object.__setattr__")) (p:clsIn K C=My g) (t:g.hasDict=M3) (r:fV g.mro=M3) (u:Qm K (.ref C) d=My M0)
  (B:∀h':Op,h'.get? e=My (di C (My s.heap.objs.size) t0)->h'.Ns1 s.heap.objs.size (λy=>if y=d then My v else M0)->
   (∀b o,b≠e->s.heap.get? b=My o->h'.get? b=My o)->Q () {s with heap:=h',toks:=s.toks+2}):
  Nu (NK O w) A (setAttr (.ref e) d v) Q E s:=by
 refine DO X a rfl h<|F8 (s:={s with toks:=s.toks+1}) X a rfl p r u λb=>?_;refine MY<|M1<|MY<|MY<|W0 a<|MY<|VF (s:={s with toks:=s.toks+1}) (looks_clsIn X p) ?_;rw[t];refine MY<|wpAny_alloc ?_;have c:=M4 {cls:= .type "dict",data:= .dict #[]} a;refine MY<|wpAny_update c<|M1 ?_;have F:((s.heap.push {cls:= .type "dict",data:= .dict #[]}).update e λo=>{o with dict:=My s.heap.objs.size}).get? e=My (di C (My s.heap.objs.size) t0):=O6 _ c rfl;have f:s.heap.objs.size≠e:=P7<|NI a;have z:((s.heap.push {cls:= .type "dict",data:= .dict #[]}).update e λo=>{o with dict:=My s.heap.objs.size}).Ns1 s.heap.objs.size λ_=>M0:=by
  refine WE<|(Heap.Ns.new s.heap<|.type "dict").sameBut (OY ..) f
 refine MY<|M1<|MY ?_;refine wpAny_nsSet1 z λh' i j=>?_;obtain⟨L,H,I,k,l,m⟩:=i.count<|V3 d v SB.nil;refine MY<|wpAny_lookBehind k (by rw[l];exact pastItsLine_dict<|NJ m (by show 1<=Nw+1;decide)) ?_;refine M1<|B h' ((j.2 _<|Ne.symm f).trans F) i λb o J q=>?_;have n:b≠s.heap.objs.size:=Og<|NI q;refine(j.2 _ n).trans ?_;rw[Qi _ _<|Ne.symm J];exact M4 _ q
theorem DP{f:Oz}{b:Bool}{M:Tp}(X:K.In s.heap)(i:s.heap.get? e=My f)(a:f.cls= .ref C)(d:S7 K (.ref C) c=My b)(j:Q b s):
  Nu M A (excMatches (.ref e) c) Q E s:=by
 have tp:Qh M s.heap (Yc<|.ref e) (.ref C):=by
  have:=(T6 (M:=M) (part:=My headPart) i);exact this.andThen (by rw[a];exact .now)
 exact(PySem.W.exm_one X tp d).here j
theorem DN{bm:a0f}{dx:a0z}{t0:M6}{env:Vm}{M:Tp}{x:WB M8}{Q:Flow->Na->Prop}(j:A.handled=M0)
  (h:Nu M A x (λv a=>∃e t0 dx C bm,v= .ref e/\iv a.heap C bm/\a.heap.get? e=My (di C dx t0)/\E (.ref e) a) E s):Nu M A (raiseStmt env (My x) M0) Q E s:=by
 unfold raiseStmt;refine MY<|Od h (λv a b=>?_) λ_ _ x=>x;obtain⟨e,t0,dx,C,bm,rfl,S,k,l⟩:=b;obtain⟨⟨D,q,N,G,t,K,w,O,z,V,k0,u,y,B,F,i⟩,m,hB,n,o⟩:=S;have c:(Ny C::bm).contains (.type "BaseException")=M3:=by rw[QJ,hB,UV]
 have f:a.heap.get? e=My {cls:= .ref C,dict:=dx,data:= .fields #[.ref t0,.none,.none,.none,.bool M5,.none]}:=k;obtain⟨p,g,d,r,I⟩:=a
 repeat (first|with_reducible refine Qk f ?_|with_reducible refine Qk i ?_|(with_reducible refine Tc i ?_;rw[c])|wp_step)
 exact wpAny_raiseNew_none j l
end
end L2
namespace L2
noncomputable def eL(C x:M6)(D:a0z):HO:= .ext λh=>∃t,h.get? x=My (di C D t)
theorem cq.there{h:Op}(x:cq P w H h a o):∃b,h.get? a=My b:=by
 cases o with
 |l xs=>obtain⟨_,_,_,_,e⟩:=x;exact⟨_,e⟩
 |t xs=>obtain⟨_,_,_,_,e,_⟩:=x;exact⟨_,e⟩
 |ins C dx fs=>obtain⟨_,_,_,e,_⟩:=x;exact⟨_,e⟩
 |u y=>exact x
 |xd fs=>obtain⟨_,⟨_,_,_,e,_⟩,_⟩:=x;exact⟨_,e⟩
 |rng lo hi=>obtain⟨_,_,_,e⟩:=x;exact⟨_,e⟩
 |frz b u=>obtain⟨e,_⟩:=x;exact⟨_,e⟩
 |tbl ps=>exact⟨_,(show h.get? a=My _ from x)⟩
 |met f y=>exact⟨_,(show h.get? a=My _ from x)⟩
 |ext φ=>obtain⟨_,e,_⟩:=x;exact e
theorem sk{h:Op}(e:h.get? x=My (di C b t)):cq P w H h x (eL C x b):=
 ⟨⟨t,e⟩,⟨_,e⟩,λ_ _ ⟨t,a⟩ k=>⟨t,k _ a⟩⟩
theorem lL{h:Op}(q:cq P w H h x<|eL C x dx):∃t,h.get? x=My (di C dx t):=q.1
noncomputable def gy(H:Hp)(x:M6):Hp:=λb=>if b=x then M0 else H b
theorem DY:gy H x x=M0:=by unfold gy;rw[Ng rfl]
theorem jj(h:b≠x):gy H x b=H b:=by unfold gy;rw[Nf h]
theorem DX(h:gy H x b=My o):b≠x/\H b=My o:=by
 unfold gy at h;split at h
 .cases h
 .exact⟨by assumption,h⟩
structure f_ (P:NY) (w:N6) (outer:a0B) (H:Hp) (s:Na) (E:XK) (x C:M6) (H':Hp) (s':Na):Prop where
 os:s'.os=s.os
 bare:Td s'.gens
 un:Un (et outer) [] H H' s.heap s'.heap
 hok:i_ P w H' s'.heap
 tr:∃(oe:Oz) (vs:a0L) (T:M6) (oT:Oz) (ts:a0L) (a0:M8),s'.heap.get? x=My oe/\(oe.cls= .ref C/\vs[0]?=My a0)/\oe.data= .fields vs/\vs[1]?=My (.ref T)/\T≠x/\s'.heap.get? T=My oT/\oT.data= .fields ts/\ts[3]?=My .none/\H' T=M0/\s.heap.get? T=M0
 xn:H' x=M0
 xs:s.heap.get? x=M0
 wish:E (.ref C) M0 H'
def e_(P:NY)(w:N6):v_:=λD H s E e G=>∃x C a,e= .ref x/\f_ P w D H s E x C a G
theorem tU{X:Cx}{s G:Na}{E:XK}(I:bx X ac σ H s)(g:X.k=X.e::X.outer)(i:X.e.frame=My X.e.locals)(Q:X.ex=[])
  (os:G.os=X.s₀.os) (M:Td G.gens) (d:Un (et X.k) [] X.H₀ H' X.s₀.heap G.heap) (S:i_ X.p X.w H' G.heap) (y:∀b∈et X.k,H' b=M0)
  (c:∀b∈ext,X.s₀.heap.get? b=M0/\H' b=M0) (hx:x∈ext) (V:E (.ref C) M0 H')
  (L:Heap.LeftW (Um G.heap<|ext++et X.k) (X.e::X.outer) x (.ref C) a0 G.heap h'):f_ X.p X.w X.outer X.H₀ X.s₀ E x C H' {G with heap:=h'}:=by
 obtain⟨R,L2,U,W⟩:=L;have j:∀b∈et X.outer,b∈et X.k:=λb hb=>by
  rw[g];unfold et;rw[O5,i];exact M2 _ hb
 have h:∀b∈et X.k,b=X.e.locals\/b∈et X.outer:=λb hb=>by
  rw[g]at hb;unfold et at hb;rw[O5,i]at hb;exact Nn.mp hb
 have A:∀b o,X.s₀.heap.get? b=My o->b≠X.e.locals:=λb o e=>Og<|NM (NI e) I.ok.above;have D:∀b o,G.heap.get? b=My o->b∉ext->b∉et X.k->h'.get? b=My o:=λb o e B Y=>
  R b o (UN _ e λhm=>(NU.mp hm).elim B Y)
 have k:∀b o,X.s₀.heap.get? b=My o->b∉ext:=λb o e hb=>by rw[(c b hb).1]at e;cases e
 have f:∀b∈et X.k,∃o,h'.get? b=My o/\∀vs,o.data≠ .fields vs:=λb hb=>(L2.mem<|by rw[<-g];exact hb).2;obtain⟨Z,vs,T,oT,O,he,hc,hd,B,l,F,P,m,h3⟩:=U;have p:H' T=M0/\X.s₀.heap.get? T=M0:=by
  by_cases hm:T∈ext++et X.k
  .rcases NU.mp hm with hm|hm
   .exact⟨(c T hm).2,(c T hm).1⟩
   .obtain⟨o,e,K⟩:=f T hm
    rw[P]at e;cases e;exact NH m<|K O
  .have hs:G.heap.get? T=M0:=by
    cases q:G.heap.get? T with
    |none=>rfl
    |some o=>rw[UN _ q hm]at l;cases l
   constructor
   .cases q:H' T with
    |none=>rfl
    |some o=>obtain⟨ob,e⟩:=(S T o q).there;rw[hs]at e;cases e
   .cases q:X.s₀.heap.get? T with
    |none=>rfl
    |some o=>obtain⟨ob,e⟩:=d.there T o q (by simp);rw[hs]at e;cases e
 refine⟨os,M,⟨λb o e n hb _=>?_,λb o e n hb _=>?_,λb o e n hb=>d.free b o e n hb,λb o e _=>?_,d.tups,d.frzs,d.tbls⟩,λa o e=>?_,⟨Z,vs,T,oT,O,a0,he,hc,hd,B,F,P,m,h3,p.1,p.2⟩,(c x hx).2,(c x hx).1,V⟩
 .have K:b∉et X.k:=λz=>(h b z).elim (A b o e) hb
  exact D b o (d.keep b o e n K<|by simp) (k b o e) K
 .obtain⟨sl,r⟩:=d.slot b o e n (j b hb) (by simp)
  obtain⟨_,J,v,K⟩:=I.ok.funs.mem hb;rw[e]at v;cases v;obtain⟨N,e3⟩:=W b _ r K;exact⟨N,e3⟩
 .obtain⟨J,r⟩:=d.there b o e (by simp)
  by_cases hb:b∈et X.k
  .obtain⟨o2,v,_⟩:=f b hb
   exact⟨o2,v⟩
  .exact⟨J,D b J r (k b o e) hb⟩
 .refine(S a o e).stay (λb u hb r=>?_) (λ_ q=>q) λ_ _ q=>q
  have t:H' b≠M0:=by
   rcases hb with rfl|hb
   .rw[e];simp
   .rw[hb];simp
  exact D b u r (λz=>t (c b z).2) λz=>t<|y b z
theorem m3{h base:Op}(d:h.FunFrames base l)(c:∀b∈et l,b∈as):h.FunFrames (Um h as) l:=
 PySem.W.funFrames_hide d λD e a E=>c a (by unfold et;exact SV.mpr ⟨D,e,E⟩)
theorem Ij{X:Cx}{E F:XK}(a:X.k=X.e::X.outer)(d:X.e.frame=My X.e.locals)(f:X.ex=[])(Q:∀D dx H,F D dx H->E D dx H)
  (I:bx X ac σ H s) (h:e_ X.p X.w X.k H s F e s'):
  Nu (NK X.p X.w) X.A (leaving X.e e) (λ_ j=>e_ X.p X.w X.outer X.H₀ X.s₀ E e j) E1 s':=by
 obtain⟨x,C,J,rfl,os,G,S,V,⟨R,vs,T,U,W,a0,Y,Z,hd,h1,k,hT,m,h3,n,p⟩,xn,xs,K⟩:=h;have M:∀b∈X.fs,b∈et X.k:=λb hb=>by
  rw[a];unfold et;rw[O5,d];exact M2 _ hb
 have N:Un (et X.k) [] X.H₀ H X.s₀.heap s.heap:=by
  have b:=I.base;rw[f]at b;exact b.mono M λ_ z=>z
 have U0:=N.trans S;have g:∀b,s.heap.get? b=M0->X.s₀.heap.get? b=M0:=λb e=>by
  cases q:X.s₀.heap.get? b with
  |none=>rfl
  |some o=>obtain⟨o',O⟩:=N.there b o q (by simp);rw[e]at O;cases O
 have c:=I.stack;have i:s'.heap.FunFrames X.base X.k:=by
  have aa:∀(l:a0B),(∀b∈et l,b∈et X.k)->s.heap.FunFrames X.base l->s'.heap.FunFrames X.base l:=by
   intro l
   induction l with
   |nil=>intro _ _;trivial
   |cons ab r ih=>
    intro hs hl;obtain⟨hk,⟨L,o,t,hn,u,v⟩,hr⟩:=hl;have P:L∈et X.k:=hs L (by unfold et;rw[O5,t];exact M7);obtain⟨sl,e⟩:=S.slot L o u (I.stkFree L P) P (by simp);exact⟨hk,⟨L,_,t,hn,e,v⟩,ih (λb hb=>hs b<|by unfold et;rw[O5,t];exact M2 _ hb) hr⟩
  exact aa X.k (λ_ hb=>hb) c
 have y:∀b∈et X.k,J b=M0:=λb hb=>by
  obtain⟨_,o,u,_⟩:=c.mem hb;exact S.free b o u (I.stkFree b hb) (by simp)
 have B:∀b∈et X.k,b∈[x,T]++et X.k:=λb hb=>Oa _ hb;have hF:s'.heap.FunFrames (Um s'.heap<|[x,T]++et X.k) (X.e::X.outer):=by
  have z:=m3 i B;rw[a]at z⊢;exact z
 refine wpAny_leaving_nextW (base:=Um s'.heap<|[x,T]++et X.k) (by rw[<-a];exact I.ok.frames) hF d ⟨R,vs,T,U,W,Y,Z,hd,h1,Th _ (by simp),k,hT,m,h3⟩ (λb o q=>WX _ q) (Th _<|by simp) λh' L=>?_;refine⟨x,C,J,rfl,tU I a d f (os.trans I.os) G U0 V y (λb hb=>?_) (by simp) (Q _ _ _ K) L⟩;rcases Nn.mp hb with rfl|hb
 .exact⟨g _ xs,xn⟩
 .obtain rfl:b=T:=by simpa using hb
  exact⟨g _ p,n⟩
theorem Fd{X:Cx}{E:XK}(c:X.k=X.e::X.outer)(g:X.e.frame=My X.e.locals)(h:X.ex=[])
  (I:bx X O P H s) (j:H x=My (eL C x dx)) (m:X.H₀ x=M0) (D:E (.ref C) M0<|gy H x):
  Nu (NK X.p X.w) X.A (leaving X.e<|.ref x) (λ_ k=>e_ X.p X.w X.outer X.H₀ X.s₀ E (.ref x) k) E1 s:=by
 obtain⟨t,p⟩:=lL<|I.hok x _ j;have G:∀b∈X.fs,b∈et X.k:=λb d=>by
  rw[c];unfold et;rw[O5,g];exact M2 _ d
 have f:Un (et X.k) [] X.H₀ H X.s₀.heap s.heap:=by
  have b:=I.base;rw[h]at b;exact b.mono G λ_ z=>z
 have V:X.s₀.heap.get? x=M0:=by
  cases q:X.s₀.heap.get? x with
  |none=>rfl
  |some o=>have:=f.free x o q m (by simp);rw[j]at this;cases this
 have K:∀b o,H b=My o->(∀r,o≠ .ext r)->b≠x:=λb o e F z=>by subst z;rw[j]at e;cases e;exact F _ rfl
 have v:Un (et X.k) [] X.H₀ (gy H x) X.s₀.heap s.heap:=by
  refine⟨f.keep,f.slot,λb o e n d=>?_,f.there,λb S q=>?_,λb o u q=>?_,λb J q=>?_⟩
  .unfold gy;split
   .rfl
   .exact f.free b o e n d
  .have:=f.tups b S q
   rw[jj<|K b _ this λ_ z=>by cases z];exact this
  .have:=f.frzs b o u q
   rw[jj<|K b _ this λ_ z=>by cases z];exact this
  .obtain⟨more,this⟩:=f.tbls b J q
   exact⟨more,by rw[jj<|K b _ this λ_ z=>by cases z];exact this⟩
 have M:i_ X.p X.w (gy H x) s.heap:=λa o e=>by
  obtain⟨B,y⟩:=DX e;refine(I.hok a o y).stay (λ_ _ _ q=>q) (λb q=>?_) λb S q=>?_
  .rw[jj<|K b _ q λ_ z=>by cases z];exact q
  .rw[jj<|K b _ q λ_ z=>by cases z];exact q
 have i:=I.stack;have l:∀b∈et X.k,gy H x b=M0:=λb d=>by
  unfold gy;split
  .rfl
  .exact I.stkFree b d
 have hF:s.heap.FunFrames (Um s.heap<|[x]++et X.k) (X.e::X.outer):=by
  have z:=m3 i (as:=[x]++et X.k) λb d=>Oa _ d;rw[c]at z⊢;exact z
 refine wpAny_leaving_firstW (base:=Um s.heap<|[x]++et X.k) (a0:= .ref t) (by rw[<-c];exact I.ok.frames) hF g p (λb o q=>WX _ q) (Th _<|by simp) rfl rfl rfl λN L=>?_;refine⟨x,C,gy H x,rfl,tU (ext:=[x]) I c g h I.os I.bare v M l (λb d=>?_) (by simp) D L⟩;obtain rfl:b=x:=by simpa using d
 exact⟨V,DY⟩
theorem yG{P:NY}{w:N6}{c ext:a0n}{H f:Hp}{s s':Na}{h':Op}(D:Un c [] H f s.heap s'.heap)(E:i_ P w f s'.heap)(d:∀b∈ext,s.heap.get? b=M0/\f b=M0)(l:∀b∈c,f b=M0)
  (h:∀b∈c,∃o,s'.heap.get? b=My o/\∀K,o.data≠ .fields K) (G:∀b o,s'.heap.get? b=My o->b∉ext->b∉c->h'.get? b=My o)
  (S:∀b o,s'.heap.get? b=My o->(∀K,o.data≠ .fields K)->∃m,h'.get? b=My {o with slots:=m}):Un c [] H f s.heap h'/\i_ P w f h':=by
 have i:∀b o,s.heap.get? b=My o->b∉ext:=λb o e hb=>by rw[(d b hb).1]at e;cases e
 refine⟨⟨λb o e n hb _=>G b o (D.keep b o e n hb<|by simp) (i b o e) hb,λb o e n hb _=>?_,λb o e n hb=>D.free b o e n hb,λb o e _=>?_,D.tups,D.frzs,D.tbls⟩,λa o e=>?_⟩
 .obtain⟨m,g⟩:=D.slot b o e n hb (by simp)
  obtain⟨o2,k,M⟩:=h b hb;rw[g]at k;cases k;obtain⟨p,r⟩:=S b _ g M;exact⟨p,r⟩
 .obtain⟨t,g⟩:=D.there b o e (by simp)
  by_cases hb:b∈c
  .obtain⟨o2,k,M⟩:=h b hb
   obtain⟨m,r⟩:=S b o2 k M;exact⟨_,r⟩
  .exact⟨t,G b t g (i b o e) hb⟩
 .refine(E a o e).stay (λb u hb g=>?_) (λ_ q=>q) λ_ _ q=>q
  have j:f b≠M0:=by
   rcases hb with rfl|hb
   .rw[e];simp
   .rw[hb];simp
  exact G b u g (λz=>j (d b z).2) λz=>j<|l b z
section
variable{X:Cx}{ac:a0c}{σ:St}{H H':Hp}{s s':Na}{E:XK}{x C:M6}
theorem f_.inv(I:bx X ac σ H s)(F:f_ X.p X.w X.k H s E x C H' s'):bx X ac σ H' s':=
 I.call' (ch:=[]) F.os F.un F.hok F.bare λb a=>NH a (by simp)
theorem f_.frames(I:bx X ac σ H s)(F:f_ X.p X.w X.k H s E x C H' s'):s'.heap.FunFrames X.base X.k/\(∀b∈et X.k,H' b=M0)/\∀b∈et X.k,∃o,s'.heap.get? b=My o/\∀D,o.data≠ .fields D:=by
 have a:=F.inv I;exact⟨a.stack,a.stkFree,λb c=>(a.stack.mem c).2⟩
theorem f_.noted(m:X.k=X.e::X.outer)(O:X.e.frame=My X.e.locals)(I:bx X ac σ H s)(F:f_ X.p X.w X.k H s E x C H' s'){M:Tp}
  (h:∀s2,f_ X.p X.w X.k H s E x C H' s2->Q () s2):Nu M X.A (XU (.ref x) X.e) (λ_ s1=>Nu M A2 (T8 (.ref x) M0) Q E2 s1) E1 s':=by
 obtain⟨p,r,P⟩:=F.frames I;obtain⟨os,D,un,G,⟨oe,K,T,oT,ts,a0,he,hc,hd,h1,R,hT,U,h3,W,Y⟩,xn,xs,S⟩:=F;have hF:s'.heap.FunFrames (Um s'.heap<|[x,T]++et X.k) (X.e::X.outer):=by
  have z:=m3 p (as:=[x,T]++et X.k) λb hb=>Oa _ hb;rw[m]at z⊢;exact z
 refine wpAny_noteFrame_onW (base:=Um s'.heap<|[x,T]++et X.k) (by rw[<-m];exact I.ok.frames) hF O ⟨oe,K,T,oT,ts,he,hc,hd,h1,Th _ (by simp),R,hT,U,h3⟩ (λb o q=>WX _ q) (Th _<|by simp) λh' L=>?_;obtain⟨L1,L2,L3,L4⟩:=L;have d:∀b∈[x,T],s.heap.get? b=M0/\H' b=M0:=λb hb=>by
  rcases Nn.mp hb with rfl|hb
  .exact⟨xs,xn⟩
  .obtain rfl:b=T:=by simpa using hb
   exact⟨Y,W⟩
 have k1:∀b o,s'.heap.get? b=My o->b∉[x,T]->b∉et X.k->h'.get? b=My o:=λb o e Z n2=>L1 b o<|UN _ e λhm=>(NU.mp hm).elim Z n2;obtain⟨aa,t⟩:=yG un G d r P k1 L4;have j:∀b∈et X.k,∃o,h'.get? b=My o/\∀K,o.data≠ .fields K:=λb hb=>(L2.mem<|by rw[<-m];exact hb).2;obtain⟨ab,ad,a,ai,u,v,ae,y,B,k,l,g,c,af⟩:=L3;have i:H' a=M0/\s.heap.get? a=M0:=by
  by_cases hm:a∈[x,T]++et X.k
  .rcases NU.mp hm with hm|hm
   .exact⟨(d a hm).2,(d a hm).1⟩
   .obtain⟨o,e,V⟩:=j a hm
    rw[g]at e;cases e;exact NH c<|V u
  .have hs:s'.heap.get? a=M0:=by
    cases q:s'.heap.get? a with
    |none=>rfl
    |some o=>rw[UN _ q hm]at k;cases k
   constructor
   .cases q:H' a with
    |none=>rfl
    |some o=>obtain⟨ob,e⟩:=(G a o q).there;rw[hs]at e;cases e
   .cases q:s.heap.get? a with
    |none=>rfl
    |some o=>obtain⟨ob,e⟩:=un.there a o q (by simp);rw[hs]at e;cases e
 --T8
 have J:3<u.size:=(On.mp af).1;unfold T8;refine MY<|OL v y B ?_;rw[Ng (show(Ny a !=Ov)=M3 from by simp)];refine Qu g c J<|h _ ?_;have n:∀b,b≠a->(h'.update a<|Tq (·.setIfInBounds 3 ((M0:a0z).elim Ov λf=>Rc f))).get? b=h'.get? b:=λb hb=>Qi _ _<|Ne.symm hb;have ag:∀b o,h'.get? b=My o->(∀K,o.data≠ .fields K)->b≠a:=λb o e V z=>by subst z;rw[g]at e;cases e;exact V _ c
 obtain⟨ah,N⟩:=yG (s':={s' with heap:=h'}) (ext:=[a]) (h':=h'.update a<|Tq (·.setIfInBounds 3 ((M0:a0z).elim Ov λf=>Rc f))) aa t (λb hb=>by
  obtain rfl:b=a:=by simpa using hb
  exact⟨i.2,i.1⟩) r j (λb o e Z _=>by rw[n b<|by simpa using Z];exact e) λb o e V=>⟨o.slots,by rw[n b<|ag b o e V];exact e⟩
 refine⟨os,D,ah,N,⟨ab,ad,a,_,_,a0,?_,ae,y,B,l,O6 _ g<|QZ<|OR c _,OR c _,by simp[J],i.1,i.2⟩,xn,xs,S⟩;rw[n x<|Ne.symm l];exact v
theorem f_.landed(I:bx X ac σ H s)(F:f_ X.p X.w X.k H s E x C H' s'){M:Tp}
  (h:∀O,f_ X.p X.w X.k H s E x C H' O->Q () O):Nu M A2 (T8 (.ref x) M0) Q E2 s':=by
 obtain⟨P,r,t⟩:=F.frames I;obtain⟨V,D,U,K,⟨u,v,c,R,y,W,j,A,k,l,d,g,a,B,m,n⟩,Y,Z,G⟩:=F;have p:3<y.size:=(On.mp B).1;unfold T8;refine MY<|OL j k l ?_;rw[Ng (show(Ny c !=Ov)=M3 from by simp)];refine Qu g a p<|h _ ?_;have i:∀b,b≠c->(s'.heap.update c<|Tq (·.setIfInBounds 3 ((M0:a0z).elim Ov λf=>Rc f))).get? b=s'.heap.get? b:=λb J=>Qi _ _<|Ne.symm J;have L:∀b o,s'.heap.get? b=My o->(∀vs,o.data≠ .fields vs)->b≠c:=λb o e S z=>by subst z;rw[g]at e;cases e;exact S _ a
 obtain⟨N,q⟩:=yG (ext:=[c]) (h':=s'.heap.update c<|Tq (·.setIfInBounds 3 ((M0:a0z).elim Ov λf=>Rc f))) U K (λb J=>by
  obtain rfl:b=c:=by simpa using J
  exact⟨n,m⟩) r t (λb o e T _=>by rw[i b<|by simpa using T];exact e) λb o e S=>⟨o.slots,by rw[i b<|L b o e S];exact e⟩
 refine⟨V,D,N,q,⟨u,v,c,_,_,W,?_,A,k,l,d,O6 _ g<|QZ<|OR a _,OR a _,by simp[p],m,n⟩,Y,Z,G⟩;rw[i x<|Ne.symm d];exact j
theorem f_.cls(F:f_ X.p X.w X.k H s E x C H' s'):∃a,s'.heap.get? x=My a/\a.cls= .ref C:=by obtain⟨a,_,_,_,_,_,b,c,_⟩:=F.tr;exact⟨a,b,c.1⟩
abbrev Cx.inA(X:Cx)(A:Om):Cx:={X with A:=A,calm:=M5,xe:=λ_ _=>False}
theorem bx.inA{X:Cx}{ac:a0c}{σ:St}{H:Hp}{s:Na}(I:bx X ac σ H s)(A:Om)(a:A.frames=X.A.frames):bx (X.inA A) ac σ H s:=
 ⟨⟨I.ok.mod,I.ok.kind,I.ok.glob,I.ok.blt,I.ok.above,I.ok.inj,I.ok.has,I.ok.cab,λh=>NH h (by simp),a.trans I.ok.frames,I.ok.stk,I.ok.exf,I.ok.bs,I.ok.bsz,I.ok.noex,I.ok.exfs,I.ok.funs,I.ok.frf⟩,I.os,I.bare,I.base,I.loc,I.cell,I.free,I.freeC,I.pin,I.hok,I.len⟩
theorem bx.outA{X:Cx}{ac:a0c}{σ:St}{H:Hp}{s:Na}(x:X.Ok)(I:bx (X.inA A) ac σ H s):bx X ac σ H s:=
 ⟨x,I.os,I.bare,I.base,I.loc,I.cell,I.free,I.freeC,I.pin,I.hok,I.len⟩
theorem SP.outA{X:Cx}{ac:a0c}{D:l9}{s:Na}(x:X.Ok)(h:SP (X.inA A) ac D f s):SP X ac D f s:=by
 cases f with
 |next=>obtain⟨a,H',I,q⟩:=h;exact⟨a,H',I.outA x,q⟩
 |brk=>obtain⟨a,H',I,q⟩:=h;exact⟨a,H',I.outA x,q⟩
 |cont=>obtain⟨a,H',I,q⟩:=h;exact⟨a,H',I.outA x,q⟩
 |ret u=>obtain⟨v,a,H',I,r,q⟩:=h;exact⟨v,a,H',I.outA x,r,q⟩
def PHd(X:Cx)(K:List ExceptHandler)(t:M6->TS):Prop:=
 ∀(ac:a0c) (σ:St) (G H:Hp) (a s:Na) (E:XK) (x C:M6) (D:l9),bx X ac σ G a->f_ X.p X.w X.k G a E x C H s->t C D σ H->Nu (NK X.p X.w) X.A (handleBy (.ref x) X.e K) (SP X ac D) X.xe s
def MM:M6->TS:=λ_ _ _ _=>False
def MN(K:ND)(a:M6)(c:TS)(r:M6->TS):M6->TS:=λC D σ H=>∃b,S7 K (.ref C) (.ref a)=My b/\if b=M3 then c D σ H else r C D σ H
theorem Ib:PHd X [] MM:=λ_ _ _ _ _ _ _ _ _ _ _ _ h=>h.elim
theorem E8(c:Gl X cn)(G:X.mg cn=My (.ref Dc))(M:∀A,PSs (X.inA A) (b0::suite) ts)(d:PHd X rest r)
  (S:b0c cn:=by decide):PHd X (.ExceptHandler (My<|.Name cn np) M0 (b0::suite) t::rest) (MN X.K Dc ts r):=by
 intro ac σ V H e s E x C D a F h;obtain⟨b,g,h⟩:=h;have I:=F.inv a;obtain⟨o,i,j⟩:=F.cls;have k:=I.inA (X.A.mark<|My<|.ref x) rfl;refine wpAny_handleBy_cons (codeAny_handlers_test<|h9 (X:=X.inA<|X.A.mark<|My<|.ref x) k c G ?_ S) (by intro q;cases q);refine DP I.kIn i j g ?_;cases b with
 |true=>
  rw[Ng rfl]at h;refine codeAny_handlers_suite<|F.landed a λl m=>?_;have n:=(m.inv a).inA (X.A.mark<|My<|.ref x) rfl;exact Od (M _ ac l σ H D n h) (λf p q=>q.outA I.ok) λ_ _ z=>z.elim
 |false=>
  rw[Nf Nb]at h;exact d ac σ V H e s E x C D a F h
abbrev Cx.inTry(X:Cx)(pn:a0c)(xe:a0d):Cx:={X with pn:=pn,xe:=xe}
theorem bx.inTry{X:Cx}{ac:a0c}{σ:St}{H:Hp}{s:Na}(I:bx X ac σ H s)(x:a0d):bx (X.inTry (X.pn++ac) x) [] σ H s:=
 ⟨⟨I.ok.mod,I.ok.kind,I.ok.glob,I.ok.blt,I.ok.above,I.ok.inj,I.ok.has,I.ok.cab,I.ok.hd,I.ok.frames,I.ok.stk,I.ok.exf,I.ok.bs,I.ok.bsz,I.ok.noex,I.ok.exfs,I.ok.funs,I.ok.frf⟩,I.os,I.bare,I.base,I.loc,I.cell,I.free,I.freeC,λp a=>I.pin p (by simpa using a),I.hok,I.len⟩
theorem bx.outTry{X:Cx}{ac a:a0c}{σ:St}{H:Hp}{s:Na}(x:X.Ok)(I:bx (X.inTry (X.pn++ac) xe) a σ H s):bx X ac σ H s:=
 ⟨x,I.os,I.bare,I.base,I.loc,I.cell,I.free,I.freeC,λp b=>I.pin p<|P9 _ b,I.hok,I.len⟩
def Ze(b:(St->XK)->TS)(c:M6->TS):TS:=λD σ H=>∃E:St->XK,(∀a C s H',E a (.ref C) s H'->c C D a H')/\b E D σ H
theorem JR(j:X.k=X.e::X.outer)(k:X.e.frame=My X.e.locals)
  (o:∀(E:a0r) (G:a0c) (K:a0d),bX (e_ X.p X.w) (X.inTry G K) E->PSs (X.inTry G K) body (Q E)) (p:PHd X (h0::P) th):PS X (.Try body (h0::P) [] [] R) (Ze Q th):=by
 intro ac s σ H D I h;obtain⟨E,t,y⟩:=h;rw[arm_exec_Try];refine MY<|Pg ?_;unfold tryStmt;show Nu _ _ ((execs body X.e).attempt>>=_) _ _ s;have g:bX (e_ X.p X.w) (X.inTry (X.pn++ac) λe s'=>Nu (NK X.p X.w) X.A (XU e X.e) (λ_ b=>Nu (NK X.p X.w) X.A (T8 e M0) (λ_ i=>Nu (NK X.p X.w) X.A (handleBy e X.e<|h0::P) (SP X ac D) X.xe i) X.xe b) X.xe s') E:=by
  intro l a M b e s' B S;obtain⟨x,C,m,rfl,F⟩:=S;have J:=B.outTry I.ok;have L:f_ X.p X.w X.k M b (E a) x C m s':=F;exact L.noted j k J λi n=>p ac a M m b i (E a) x C D J n<|t a C M0 m n.wish
 refine MY<|Rb<|Od (o E _ _ g [] s σ H D (I.inTry _) y) (λf b c=>?_) λe b c=>?_
 .have d:SP X ac D f b:=by
   cases f with
   |next=>obtain⟨a,H',J,q⟩:=c;exact⟨a,H',J.outTry I.ok,q⟩
   |brk=>obtain⟨a,H',J,q⟩:=c;exact⟨a,H',J.outTry I.ok,q⟩
   |cont=>obtain⟨a,H',J,q⟩:=c;exact⟨a,H',J.outTry I.ok,q⟩
   |ret u=>obtain⟨v,a,H',J,r,q⟩:=c;exact⟨v,a,H',J.outTry I.ok,r,q⟩
  cases f with
  |next=>exact S9 d
  |brk=>exact M1 d
  |cont=>exact M1 d
  |ret u=>exact M1 d
 .refine MY (Od c (λ_ i d=>?_) λ_ _ z=>z)
  show Nu _ _ (T8 e M0>>=_) _ _ i;exact MY<|Od d (λ_ O N=>N) λ_ _ z=>z
structure XC (K:ND) (C:M6):Prop where
 sh:∃bm,∀h:Op,K.In h->iv h C bm
 sa:Qm K (.ref C) "__setattr__"=My (My<|.builtin "object.__setattr__")
 cd:∃cd,clsIn K C=My cd/\cd.hasDict=M3/\fV cd.mro=M3
theorem Gz{K:ND}{C N:M6}{bs bm:a0f}{hdct:Bool}{ab:Bool}{k0 k1 k2 k3 k5:a1d}{cd:ClassData}
  (l:K.lookup C=My (excClassObj nm q C N bs bm hdct sn sub ab col dd k0 k1 k2 k3 k5 "ValueError.__new__")) (s:Qm K (.ref C) "__setattr__"=My (My<|.builtin "object.__setattr__")) (c:clsIn K C=My cd)
  (g:(bm.contains (.type "ValueError")&&bm.contains (.type "BaseException")&&!bm.contains (.type "AttributeError")&&!bm.contains (.type "NameError")&&cd.hasDict&&fV cd.mro)=M3):XC K C:=by
 simp only[NN,Qa]at g;obtain⟨⟨⟨⟨⟨a,b⟩,i⟩,d⟩,e⟩,f⟩:=g;exact⟨⟨bm,λh X=>⟨⟨nm,q,N,bs,hdct,sn,sub,ab,col,dd,k0,k1,k2,k3,k5,X _ _ l⟩,a,b,i,d⟩⟩,s,cd,c,e,f⟩
structure YW (K:ND) (C f:M6):Prop where
 xc:XC K C
 init:Qm K (.ref C) "__init__"=My (My<|.ref f)
 fn:isFn K (.ref f)=M3
 kp:Se K (.ref C)=M3
end
section
variable{X:Cx}{CX:v_}{k:Nat}{f C:M6}{fd:NL}{ps:a0g}{sp:Sp}{ab:a0i}{ds:a0f}{E:a0r}{x m:N8}{p aa z:RV}{e o:Expr}{J:List Expr}{ta:TE}{t:TA}
def Jr(C:M6)(sp:Sp)(ab:a0i)(E:a0r)(t:TA):TE:=λa H Q=>t a H λe f=>Uc e<=Nw/\∀x,f x=M0->
 sp (.r x::(e++ab)) (upd f x<|eL C x M0) (λv b=>v= .o/\Q (.r x) b) (E a)
theorem HP{m:a0i}(M:YW X.K C f)(F:d_ X.p X.w X.K X.mg X.base CX k f fd ps sp)(y:dv (k+1) X.A)(B:dN X.K fd ps ds)(t:ay ab ds)
  (z:bX CX X E) (I:bx X ac σ H s) (r:ay m us) (J:Uc m<=Nw)
  (h:∀x,H x=M0->sp (.r x::(m++ab)) (upd H x<|eL C x M0) (λv L=>v= .o/\Q (.r x) L) (E σ)):
  Nu (NK X.p X.w) X.A (RO (.ref C) us) (EP X ac σ Q) X.xe s:=by
 have l:=h (s.heap.objs.size+1)<|I.hok.fresh<|Sn _;obtain⟨S,D⟩:=M.xc.sh;have N:bx X ac σ H {s with heap:=s.heap.push {cls:= .type "tuple",data:= .seq us.toArray}}:=I.kept (t':=s.toks) λb o q=>M4 _ q;have O:((s.heap.push {cls:= .type "tuple",data:= .seq us.toArray}).push<|di C M0 s.heap.objs.size).get? (s.heap.objs.size+1)=My (di C M0 s.heap.objs.size):=by
  have:=NA (s.heap.push {cls:= .type "tuple",data:= .seq us.toArray}) (o:=di C M0 s.heap.objs.size) rfl;rwa[OD]at this
 have j:bx X ac σ (upd H (s.heap.objs.size+1)<|eL C (s.heap.objs.size+1) M0) {s with heap:=(s.heap.push {cls:= .type "tuple",data:= .seq us.toArray}).push (di C M0 s.heap.objs.size)}:=
  N.laid (a:=s.heap.objs.size+1) (o:=eL C (s.heap.objs.size+1) M0) (t':=s.toks) (λb u q=>M4 _ q) (U3<|OD _ _) (sk O)
 have n:ay (V.r (s.heap.objs.size+1)::(m++ab)) (Ny (s.heap.objs.size+1)::(us++ds)):= .cons rfl<|r.append t;have P:Uc (Ny (s.heap.objs.size+1)::us++ds)=Uc ps:=by
  have e:=n.length;rw[F.len _ _ _ _ l]at e;exact e.symm
 have i:Nu (NK X.p X.w) (X.A.under<|.builtin "type.__call__" ⟨.ref C::us,[]⟩) (RO (.ref f)<|.ref (s.heap.objs.size+1)::us) (λr p=>r= .none/\EP X ac σ Q (.ref<|s.heap.objs.size+1) p) X.xe
   {s with heap:=(s.heap.push {cls:= .type "tuple",data:= .seq us.toArray}).push (di C M0 s.heap.objs.size)}:=by
  refine SG<|Q1 (F.run _ X.k _ _ ⟨Ny (s.heap.objs.size+1)::us,[]⟩ (Ny (s.heap.objs.size+1)::(us++ds)) _ _ (E σ) (y.make C us [])
   (j.env0.make C us []) (B _ (Ny (s.heap.objs.size+1)::us) j.kIn P) n l) λr p c=>?_
  cases r with
  |error e=>exact z ac σ _ _ e p j c
  |ok fl=>
   cases fl with
   |ret u=>
    obtain⟨v,R,T,U,W,G⟩:=j.after c;subst W;exact⟨U,⟨V.r<|s.heap.objs.size+1,R,T,rfl,G⟩⟩
   |next=>exact O9 c
   |brk=>exact O9 c
   |cont=>exact O9 c
 obtain⟨Y,g,d,Z,os⟩:=s;exact F9 I.kIn (D _ I.kIn) M.init M.fn (by rw[<-r.length];exact J) i
theorem iB(M:YW X.K C f)(F:d_ X.p X.w X.K X.mg X.base CX k f fd ps sp)(g:dv (k+1) X.A)(i:Gl X x)(m:X.mg x=My (.ref C))(j:dN X.K fd ps ds)(o:ay ab ds)(z:bX CX X E)
  (D:PA X (e::J) t) (b:b0c x:=by decide) (l:b0a X e J:=by rfl) (c:b0b X aa J:=by rfl):
  PE X (.Call (.Name x p) (e::J) [] aa) (Jr C sp ab E t):=by
 intro a s n H Q I h;refine Q3<|h9 I i m ?_ b;refine WO (h₀:=X.base) I.ok.mod.kin M.kp (dy (D aa a s n H _ I h) λG v ⟨S,V,d,r,u,q⟩=>⟨d.kIn,?_⟩) l c;exact HP M F g j o z d r u q
structure F3 (K:ND) (D:M6) (m:N8) (f:M6):Prop where
 ga:specialIn K (.ref D) "__getattribute__"=My (My<|.builtin "type.__getattribute__")
 rd:PySem.W.readsIn K D (.type "type")=M3
 fnd:XF K (.ref D) (.type "type") m=My (.val<|.ref f)
 kp:Se K (.ref f)=M3
theorem qy{D:M6}(c:F3 X.K D m f)(F:d_ X.p X.w X.K X.mg X.base CX k f fd ps sp)(j:dv k X.A)(l:Gl X x)(o:X.mg x=My (.ref D))(n:dN X.K fd ps ds)(C:ay ab ds)(G:bX CX X E)
  (M:PA X (e::J) t) (b:b0c x:=by decide) (d:b0a X e J:=by rfl) (g:b0b X aa J:=by rfl)
  (q:OS (.Call (.Attribute (.Name x p) m z) (e::J) [] aa) X.e=(do
   let L <-OS (.Name x p) X.e
   Sg z.atName
   let (f,first) <-Ti [L] (getMethod L m pl)
   callWith aa f first (Ql aa<|Nr (e::J) X.e) (Sb aa<|QB [] X.e)):=by rfl):
  PE X (.Call (.Attribute (.Name x p) m z) (e::J) [] aa) (GI sp ab E t):=by
 intro a s u H Q I h;refine Wc (pl:=pl) (h9 I l o ?_ b) q;refine PySem.W.method_cls I.kIn c.ga<|PySem.W.cls_value I.kIn c.rd c.fnd rfl ?_;have v:=I.tok<|s.toks+1;refine WO (first:=[]) (h₀:=X.base) I.ok.mod.kin c.kp (dy (M aa a _ u H _ v h) λV y ⟨N,B,i,r,S⟩=>⟨i.kIn,?_⟩) d g
 exact BI F j n C G i r S
def Zc(K:ND)(t:TA):TE:=λa H Q=>t a H λm f=>∃x C k e,m= .r x::e/\Uc e<=Nw/\f x=My (eL C x k)/\XC K C/\Q .o (upd f x<|eL C x k)
theorem zP(I:bx X F L H s)(r:ay N O)
  (h:∃x C m f,N= .r x::f/\Uc f<=Nw/\H x=My (eL C x m)/\XC X.K C/\Q .o (upd H x<|eL C x m)):Nu (NK X.p X.w) X.A (RO (.builtin "ValueError.__init__") O) (EP X F L Q) X.xe s:=by
 obtain⟨x,C,m,f,rfl,j,o,c,q⟩:=h;cases r with
 |cons p l=>
  cases p;obtain⟨E,n⟩:=lL<|I.hok x _ o;obtain⟨G,t⟩:=c.sh;obtain⟨B,g,d,a,z⟩:=s;refine DM (t _ I.kIn) n (by rw[<-l.length];exact j) λD i k=>?_;have v:bx X F L (upd H x<|eL C x m) ⟨D,g,d,a,z⟩:=I.write (t':=a) (x:=x) (e:=x) (by rw[o];exact XN) (.inl rfl) (λb u y q=>k b u y q) ⟨_,i⟩<|sk i;exact⟨.o,_,v,rfl,q⟩
theorem Hx:Yc (.type "ValueError")=Ps (.type "type"):=by kernel_rfl
theorem Hy:Manifest.isStub "ValueError"=M5:=by decide +kernel
theorem Hz{K:ND}:XF K (.type "ValueError") (.type "type") "__init__"=My (.val<|.builtin "ValueError.__init__"):=by kernel_rfl
set_option maxHeartbeats 4000000 in
theorem E9(d:Gl X "ValueError")(k:X.mg "ValueError"=M0)(o:PA X (e::J) t)(b:b0a X e J:=by rfl)(c:b0b X aa J:=by rfl)
  (g:OS (.Call (.Attribute (.Name "ValueError" p) "__init__" z) (e::J) [] aa) X.e=(do
   let q <-OS (.Name "ValueError" p) X.e
   Sg z.atName
   let (f,first) <-Ti [q] (getMethod q "__init__" pl)
   callWith aa f first (Ql aa<|Nr (e::J) X.e) (Sb aa<|QB [] X.e)):=by rfl):
  PE X (.Call (.Attribute (.Name "ValueError" p) "__init__" z) (e::J) [] aa) (Zc X.K t):=by
 intro a s i H Q I h;obtain⟨m,F⟩:=I.fr;refine Wc (pl:=pl) (gT I d k Boot.«ValueError» ?_) g;refine PySem.W.method_type (v:= .builtin "ValueError.__init__") F I.mod.kin Hx Hy Hz rfl ?_;have j:=I.tok<|s.toks+1;exact Ug (dy (o aa a _ i H _ j h) λD n ⟨E,G,l,x,C⟩=>zP l x C) b c
def JF(K:ND)(ta g:TE)(f:N8):TS:=λD b H=>g b H λy e=>ta b e λx c=>∃a C,x= .r a/\c a=My (eL C a M0)/\XC K C/\Qm K (.ref C) f=My M0/\
 ∀d,c d=M0->d≠a->D.nx b (upd (upd c d<|.xd [(f,y)]) a<|eL C a<|My d)
theorem EZ{o d:Expr}{f:N8}(t:PE X o ta)(R:PE X d tv)(E:Rx d (My<|.Attribute o f pos') aa.line X.e=Ps M5):PS X (.Assign [.Attribute o f pos'] d aa) (JF X.K ta tv f):=by
 intro l s B H D I h;refine VW (dy (R l s B H _ I h) λu T F=>?_) E;obtain⟨y,G,U,W,q⟩:=F;refine dy (t l T B G _ U q) λY r Z=>?_;obtain⟨x,L,w,M,a,C,S,A,c,n,V⟩:=Z;subst S;obtain rfl:Y=Ny a:=M;obtain⟨t0,N⟩:=lL<|w.hok a _ A;obtain⟨cd,c1,c2,c3⟩:=c.cd;refine F7 w.kIn N c.sa c1 c2 c3 n λh' O P k=>?_;have m:L r.heap.objs.size=M0:=w.fresh;have J:r.heap.objs.size≠a:=P7<|NI N;have od:∃o,h'.get? r.heap.objs.size=My o:=let ⟨o,_,_,e,_⟩:=P;⟨o,e⟩
 have i:∀b o,L b=My o->(∀φ,o≠ .ext φ)->b≠a:=λb o e hn z=>by subst z;rw[A]at e;cases e;exact hn _ rfl
 refine⟨B,_,w.un (h':=h') (t':=r.toks+2) ⟨λb o e j _ _=>k b o (λz=>by subst z;rw[A]at j;cases j) e,λb o e j _ _=>⟨o.slots,k b o (λz=>by subst z;rw[A]at j;cases j) e⟩,λb o e j _=>?_,λb o e _=>?_,λb p e=>?_,λb o p e=>?_,λb p e=>?_⟩ λb o e=>?_,V _ m J⟩
 .rw[bb (λz=>by subst z;rw[A]at j;cases j),bb<|Og<|NI e];exact j
 .by_cases z:b=a
  .subst z;exact⟨_,O⟩
  .exact⟨o,k b o z e⟩
 .rw[bb (i b _ e λ_ z=>by cases z),bb<|bw e m];exact e
 .rw[bb (i b _ e λ_ z=>by cases z),bb<|bw e m];exact e
 .exact⟨#[],by rw[bb (i b _ e λ_ z=>by cases z),bb<|bw e m,e];simp⟩
 .by_cases z:b=a
  .subst z
   rw[aq]at e;cases e;exact sk O
  .rw[bb z]at e
   by_cases Q:b=r.heap.objs.size
   .subst Q
    rw[aq]at e;cases e;refine⟨_,P,λg=>?_⟩;by_cases q:g=f
    .subst q
     simp only[Tx,U7,Ol];exact W
    .have hb:(g==f)=M5:=beq_eq_false_iff_ne.mpr q
     simp only[Tx,hb,List.lookup_nil,Nf q];trivial
   .rw[bb Q]at e
    refine(w.hok b o e).stay (λc v hc q=>k c v ?_ q) (λc q=>?_) λc p q=>?_
    .rcases hc with rfl|hc
     .exact z
     .exact i c _ hc λ_ z=>by cases z
    .rw[bb (i c _ q λ_ z=>by cases z),bb<|bw q m];exact q
    .rw[bb (i c _ q λ_ z=>by cases z),bb<|bw q m];exact q
def AJ(e:Hp)(K:ND)(E:XK)(a:TE):TS:=λ_ b H=>a b H λv f=>∃x C k,v= .r x/\f x=My (eL C x k)/\e x=M0/\XC K C/\E (.ref C) M0 (gy f x)
end
section
variable{P:NY}{w:N6}{K:ND}{J:a0h}{base:Op}{N:a0g}{y:N8}{F:Scope}{f:M6}{L:M8}{A:Om}{B:a0B}{s:Na}{H:Hp}{E:XK}
theorem qz:bX (e_ P w) (dz (e_ P w) P w K J base N y F f L A B s H E) (λ_=>E):=λa b D c e G I h=>Ij (X:=dz (e_ P w) P w K J base N y F f L A B s H E) rfl rfl rfl (λ_ _ _ z=>z) I h
theorem gp:bX (e_ P w) X E0:=λ_ _ _ _ _ _ _ h=>by
 obtain⟨_,_,_,_,F⟩:=h;exact F.wish.elim
theorem de:XD (NK P w) (A.deeper<|RP y F s.heap.objs.size f L) (RP y F s.heap.objs.size f L) (dz (e_ P w) P w K J base N y F f L A B s H E).xe:=PassesOwn.leaving
theorem fE(M:A.handled=M0)(g:PE (dz (e_ P w) P w K J base N y F f L A B s H E) e p):PS (dz (e_ P w) P w K J base N y F f L A B s H E) (.Raise (My e) M0 t) (AJ H K E p):=by
 intro a i j S D I h;rw[arm_exec_Raise];refine MY<|Pg ?_;refine DN (env:=(dz (e_ P w) P w K J base N y F f L A B s H E).e) (bm:=[]) (dx:=M0) (t0:=0) M ?_;refine MY<|dy (g a i j S _ I h) λu n k=>?_;obtain⟨v,o,b,r,x,C,dx,l,G,m,c,q⟩:=k;refine MY<|Pg<|M1 ?_;subst l;obtain rfl:u=Ny x:=r;obtain⟨t0,d⟩:=lL<|b.hok x _ G;obtain⟨bm,V⟩:=c.sh;exact⟨x,t0,dx,C,bm,rfl,V _ b.kIn,d,Fd (X:=dz (e_ P w) P w K J base N y F f L A B s H E) rfl rfl rfl b G m q⟩
structure hV (K:ND) (x y:N8) (st:OB) (f:M6) (fd:NL):Prop where
 ex:∃(oc:M8) (od:a0z) (dV kV doc pm:M8) (an:a0z) (cdv ct:M8) (osl:Array a1d),
  fd=RG x y (jk st) (cB st) (ai st) dV kV doc pm an cdv ct/\K.lookup f=My ⟨oc,od,.func fd,osl⟩/\SA K cdv y=M3
 kp:Se K (.ref f)=M3
theorem IO{K:ND}{x y:N8}{s:OB}{f:M6}(l:K.lookup f=My ⟨oc,od,.func<|RG x y (jk s) (cB s) (ai s) dV kV doc pm an a ct,b⟩)
  (c:SA K a y=M3) (k:Se K (.ref f)=M3):hV K x y s f (RG x y (jk s) (cB s) (ai s) dV kV doc pm an a ct):=⟨⟨oc,od,dV,kV,doc,pm,an,a,ct,b,rfl,l,c⟩,k⟩
theorem hV.okE{x y:N8}{G:OB}{f:M6}{N L:a0g}(F:hV K x y G f r)(S:bc N L<|ai G)(M:∀D H Q E,q D H Q E->Uc D=Uc L)
  (b:∀(a:M8) (A:Om) (B:a0B) (s:Na) (H:Hp) (D:a0i) (Q:VK) (E:XK),dv k (A.deeper<|RP y (ai G) s.heap.objs.size f a)->q D H Q E->
   ∃t,PSs (dz (e_ P w) P w K J base N y (ai G) f a A B s H E) (cB G) t/\t {nx:=λ_ e=>Q .o e,rt:=Q} (gh N D) H):d_ P w K J base (e_ P w) (k+1) f r L q:=by
 obtain⟨l,m,n,o,g,V,p,a,u,h,rfl,i,c⟩:=F.ex;exact Hc i c S M λA B s H D Q E j d=>b a A B s H D Q E j d
theorem hV.ok{x y:N8}{G:OB}{f:M6}{N L:a0g}(F:hV K x y G f u)(S:bc N L<|ai G)(M:∀D H Q E,sp D H Q E->Uc D=Uc L)
  (b:∀(a:M8) (A:Om) (B:a0B) (s:Na) (H:Hp) (D:a0i) (Q:VK) (E:XK),dv k (A.deeper<|RP y (ai G) s.heap.objs.size f a)->sp D H Q E->
   ∃t,PSs (dz (e_ P w) P w K J base N y (ai G) f a A B s H E).nox (cB G) t/\t {nx:=λ_ e=>Q .o e,rt:=Q} (gh N D) H):d_ P w K J base (e_ P w) (k+1) f u L sp:=by
 obtain⟨m,n,o,p,g,V,r,a,v,i,rfl,j,c⟩:=F.ex;refine Hc j c S M λA B s H D Q E l d=>?_;obtain⟨t,h,q⟩:=b a A B s H D Q E l d;exact⟨t,h.nox,q⟩
abbrev TJ:=St->Hp->Nat->(Nat->Hp->Prop)->Prop
def PJ(X:Cx)(y:List Expr)(t:TJ):Prop:=
 ∀(a:a0c) (s:Na) (b:St) (H:Hp) (f:N8) (Q:VK),bx X a b H s->f.length<=Nw->(t b H f.length λn c=>n<=Nw/\∀z:N8,z.length<=n->Q (.q z) c)->
  Nu (NK X.p X.w) X.A (joinParts f<|Tt y X.e) (EP X a b Q) X.xe s
noncomputable def ZR:TJ:=λ_ H n Q=>Q n H
def ZQ(m:Nat)(t:TJ):TJ:=λa H n Q=>n+m<=Nw/\t a H (n+m) Q
def ZS(b:TE)(t:TJ):TJ:=λa H n Q=>b a H λv f=>∃i,v= .n i/\i.natAbs.log2<1920/\n+1921<=Nw/\∀m,m<=n+1921->t a f m Q
def LH(t:TJ):TE:=λa H Q=>t a H 0 λn b=>n<=Nw/\∀z:N8,z.length<=n->Q (.q z) b
variable{X:Cx}{es:List Expr}{t:TJ}{d:RV}
theorem JW:PJ X [] ZR:=λa s c H d Q I b h=>joinParts_nil ⟨.q d,H,I.tok _,⟨_,rfl⟩,h.2 d<|Nh _⟩ b
theorem JV{x:N8}(h:PJ X es t)(c:Tt (.Constant (.str x) j p::es) X.e=OS (.Constant (.str x) j p) X.e::Tt es X.e:=by rfl):PJ X (.Constant (.str x) j p::es) (ZQ x.length t):=by
 intro a s d H f Q I k g;rw[c];obtain⟨b,i⟩:=g;refine joinParts_cons<|Xe ?_;have e:(f++x).length=f.length+x.length:=strLen_append f x;exact⟨by rw[e];exact b,h a _ d H (f++x) Q (I.tok _) (by rw[e];exact b)<|by rw[e];exact i⟩
theorem JX(g:PE X v x)(h:PJ X es t)(j:Tt (.FormattedValue v (-1) M0 p::es) X.e=OS (.FormattedValue v (-1) M0 p) X.e::Tt es X.e:=by rfl):PJ X (.FormattedValue v (-1) M0 p::es) (ZS x t):=by
 intro a s c H f Q I n k;rw[j];refine joinParts_cons<|FormattedValue_plain<|dy (g a s c H _ I k) λu o ⟨y,w,l,r,i,m,d,B,q⟩=>?_;subst m;obtain⟨C,rfl⟩:=r;refine wpAny_formatField_int d ?_;have e:(f++Nl (toString i)).length=f.length+(Nl<|toString i).length:=strLen_append f _;have F:=int_text_len_1921 d;have b:(f++Nl (toString i)).length<=Nw:=by rw[e];lia
 refine⟨b,h a _ c w _ Q (l.tok _) b ?_⟩;rw[e];exact q _ (by lia)
theorem Ih(h:PJ X (v1::v2::rest) t):PE X (.JoinedStr (v1::v2::rest) d) (LH t):=λa s b H Q I c=>
 JoinedStr_many (h a s b H QV Q I (by decide) c)
theorem uj(i:X.calm=M3):dM X (.builtin "sum") (λf H Q=>∃(a:M6) (t:a0b),f=[.r a]/\en X.K H a (t.map V.n)/\Q (.n t.sum) H):=by
 intro b s o H f B Q I r h;obtain⟨a,t,rfl,j,q⟩:=h;cases r with
 |cons A k=>
  cases A;cases k;obtain⟨w,l,p,u⟩:=I.list j;have c:=lE l;obtain⟨f,y⟩:=c.allInts.items;have d:=p.isList;rw[y]at d;refine sum_intListG (I.ok.hd i) d λD v E m=>?_;have e:preSum (VJ f) f.size=t.sum:=by
   have g:=c.numsOf;have n:w=(RJ f).toList:=by rw[<-y]
   rw[n,Xs]at g;rw[preSum_eq,OZ (by simp),g]
  rw[e];exact⟨.n t.sum,H,I.kept m,⟨_,rfl⟩,q⟩
def u7(i j:Int):Prop:=0<j/\j.natAbs.log2<9000
theorem Fe:f0 X (Qt .FloorDiv) (rI u7 λi j=> .n<|i/j):=ny λi j _ _ _ _ _ a q=>by
 have b:(0:Int)<j:=a.1;refine floordiv_int (by lia) ?_<|.inl<|VC a.2;rw[S4 _<|by lia];exact q
def Yo(C:a0X)(f:a0M):Y0:=λx y H Q=>∃i j,x= .n i/\y= .n j/\C i j/\Q (.n<|f i j) H
theorem IJ:Y1 X .FloorDiv (Yo u7 λi j=>i/j):=by
 intro a s d H x y v u Q I f b h;obtain⟨i,j,rfl,rfl,c,q⟩:=h;obtain⟨t,rfl⟩:=f;obtain⟨w,rfl⟩:=b;have e:(0:Int)<j:=c.1;refine ifloordiv_int (by lia) ?_<|.inl<|VC c.2;rw[S4 _<|by lia];exact⟨.n _,H,I.tok _,⟨_,rfl⟩,q⟩
theorem zM{K:ND}{xs:a0i}{H:Hp}(Pv:Nat->St->Hp->Prop)(u:Pv 0 c H)(k:∀i c H,i<=Uc xs->Pv i c H->en K H a xs)
  (h:∀i x c H,xs[i]?=My x->Pv i c H->g x c H λd v=>z d v λb r=>if b=M3 then C d r (Pv<|i+1)else Pv (i+1) d r) (l:∀c H,Pv (Uc xs) c H->Q c H):dj (Yz K a) g z C c H Q:=by
 refine⟨λi m c H=>i<=Uc xs/\m+i=Uc xs/\Pv i c H,⟨Uc xs,OV _,by lia,u⟩,λi m c H ⟨n,s,j⟩=>?_⟩;by_cases o:i<Uc xs
 .refine .inr ⟨⟨xs,xs[i],k i c H n j,M9 o⟩,Pv<|i+1,λy p q=>⟨m-1,by lia,by lia,by lia,q⟩,λx p ⟨e,f⟩=>?_⟩
  subst e;exact h i x c p (f xs<|k i c p n j) j
 .obtain rfl:i=Uc xs:=by lia
  exact .inl ⟨⟨xs,k _ c H n j,Nh _⟩,l c H j⟩
theorem cy.f5{X:Cx}{F:Scope}(k:F.kind= .function)(d:(F.names.map (·.1)).Nodup)(f:∀y∈F.names,y.2≠ .free):cy X F cx cx []:=
 ⟨k,d,λy s e=>NH e<|f y s,by simp,λj a=>NH a<|by simp⟩
def u6(i j:Int):Prop:=i.natAbs<2^1000/\j.natAbs<2^1000
theorem kf{k:Int}(h:k.natAbs<2^1000):VQ k<=2^20:=by
 unfold VQ;split
 .exact OV _
 .rename_i a
  have b:k.natAbs≠0:=by
   intro z;have:k=0:=Int.natAbs_eq_zero.mp z;subst this;simp at a
  have:=(Vw b).mpr h;have e:(2:Nat)^20=1048576:=by decide
  lia
theorem kI{X:Cx}:f0 X (Qt .Mult) (rI u6 λi j=> .n<|i*j):=ny λ_ _ _ _ _ _ _ a q=>mul_int q<|W4 (kf a.1)<|kf a.2
theorem bW.upd{H:Hp}(h:H a=M0):bW H (upd H a o):=λb u e=>by rw[bb<|bw e h];exact e
abbrev g8:=Int×a0b
abbrev a0u:=List<|g8×M6×V
abbrev a0I:=List<|g8×M6×M8
noncomputable def hI(k:a0b):Int:=reduceHash<|R8<|k.map hashInt
def hB:Bool->g8->Int
 |true,k=>reduceHash<|R8 [hashInt k.1,hI k.2]
 |false,k=>hI k.2
def zX(a:M6)(b:Bool)(f:Nat)(s:a0u)(h:Op):Prop:=
 ∃o es,∃d:a0I,h.get? a=My o/\o.ExactDict/\o.data= .dict es f/\es.toList=d.map (λy=>⟨hB b y.1,.ref y.2.1,y.2.2⟩)/\(d.map (·.1)).Nodup/\(a==Vk)=M5/\Uc d<=Nw/\
  Vi (λ(x:g8×M6×V) (y:g8×M6×M8)=>x.1=y.1/\x.2.1=y.2.1/\aT x.2.2 y.2.2) s d
noncomputable def eP(a:M6)(b:Bool)(d:Nat)(f:a0u):HO:= .ext<|zX a b d f
theorem yh{P:NY}{w:N6}{b:Bool}{H:Hp}(S:zX a b g i h):cq P w H h a (eP a b g i):=by
 refine⟨S,?_,λc d z k=>?_⟩
 .obtain⟨o,_,_,e,_⟩:=S
  exact⟨o,e⟩
 .obtain⟨o,es,ys,e,r⟩:=z
  exact⟨o,es,ys,k _ e,r⟩
end
end L2
namespace L2.Pu
theorem ix{D d e:Sort _}{P Q R:D->d->e->Prop}{C:Prop}(h:∃a b c,P a b c/\Q a b c/\R a b c)(k:∀a b c,P a b c->Q a b c->R a b c->C):C:=by
 grind
theorem nS{D c:Sort _}{P Q R:D->c->Prop}{C:Prop}(h:∃a b,P a b/\Q a b/\R a b)(k:∀a b,P a b->Q a b->R a b->C):C:=by
 grind
inductive D where
 |o|c (b:Bool)|n (i:Int)|q (x:N8)|ty (n:String)|txt
 |l (xs:List D)|t (xs:List D)|scr (xs:a0b)|obj (C:M6) (ns:a0g) (xs:List D)|bag|adr (a:M6)|dct (b:Bool) (ks:List g8) (vs:List D)
abbrev a0e:=List D
abbrev a0k:=Option D
abbrev a0o:=List a0e
abbrev a0x:=Option a0e
abbrev a0Z:=D->D->a0k
structure Bg where
 cells:a0b
 i:Int
 j:Int
structure Fx where
 A:M6->Prop
 bg:a0s
def KL(K:ND)(a:M6)(E:a0i):Prop:=
 ∃(o:Oz) (D:a0L) (n:Nat),K.lookup a=My o/\o.cls= .type "list"/\o.dict=M0/\o.data= .seq D n/\D.size<=Nw/\ay E D.toList
def KT(K:ND)(a:M6)(E:a0i):Prop:=
 ∃(o:Oz) (D:a0L) (n:Nat),K.lookup a=My o/\o.cls= .type "tuple"/\o.data= .seq D n/\D.size<=Nw/\ay E D.toList
def TQ(K:ND)(F:Fx)(H:Hp)(c:M6)(D:a0i):Prop:=(¬F.A c/\Rd H c (.t D))\/KT K c D
def ig(K:ND)(F:Fx)(H:Hp):Bool->g8->M6->Prop
 |true,k,c=>∃e,TQ K F H c [.n k.1,.r e]/\TQ K F H e (k.2.map V.n)
 |false,k,c=>k.1=0/\TQ K F H c (k.2.map V.n)
mutual
noncomputable def b_(K:ND)(F:Fx)(H:Hp):D->V->Prop
 | .o,v=>v= .o
 | .c b,v=>v= .c b
 | .n i,v=>v= .n i
 | .q x,v=>v= .q x
 | .ty n,v=>v= .ty n
 | .txt,v=>∃z,v= .q z
 | .l ds,v=>∃a E,v= .r a/\(¬F.A a/\Rd H a (.l E))/\ba K F H ds E
 | .scr ns,v=>∃a,v= .r a/\((¬F.A a/\Rd H a (.l<|ns.map V.n))\/KL K a (ns.map V.n))
 | .t ds,v=>∃a E,v= .r a/\((¬F.A a/\Rd H a (.t E))\/KT K a E)/\ba K F H ds E
 | .obj C ns ds,v=>∃a G E,v= .r a/\¬F.A a/\H a=My (.ins C G<|ns.zip E)/\Uc ns=Uc E/\ba K F H ds E
 | .bag,v=>∃b l,F.bg=My (b,l)/\v= .r b
 | .adr a,v=>v= .r a
 | .dct b ks vs,v=>∃a M E,v= .r a/\(¬F.A a/\H a=My (eP a b M E))/\ks=E.map (·.1)/\(∀x∈E,ig K F H b x.1 x.2.1)/\ba K F H vs (E.map (·.2.2))
noncomputable def ba(K:ND)(F:Fx)(H:Hp):a0e->a0i->Prop
 |[],xs=>xs=[]
 |d::ds,xs=>∃x r,xs=x::r/\b_ K F H d x/\ba K F H ds r
end
structure Tr (F:Fx) (H:Hp) (F2:Fx) (H2:Hp):Prop where
 av:∀a,¬F.A a->H a≠M0->¬F2.A a
 kp:∀a o,¬F.A a->H a=My o->H2 a=My o
 bg:F2.bg=F.bg
theorem Tr.refl(F:Fx)(H:Hp):Tr F H F H:=⟨λ_ h _=>h,λ_ _ _ h=>h,rfl⟩
theorem Tr.trans(a:Tr F H F1 H1)(b:Tr F1 H1 F2 H2):Tr F H F2 H2:=
 ⟨λx c d=>b.av x (a.av x c d) (by
   cases q:H x with
   |none=>exact NH q d
   |some o=>rw[a.kp x o c q];simp),
  λx o c d=>b.kp x o (a.av x c<|by rw[d];simp)<|a.kp x o c d,b.bg.trans a.bg⟩
theorem Rd.tr{F b:Fx}(t:Tr F H b H2)(h:¬F.A a)(r:Rd H a u):¬b.A a/\Rd H2 a u:=by
 rcases r with r|⟨o,r⟩
 .exact⟨t.av a h (by rw[r];simp),.inl<|t.kp a _ h r⟩
 .exact⟨t.av a h (by rw[r];simp),.inr ⟨o,t.kp a _ h r⟩⟩
theorem TQ.tr{K:ND}(t:Tr F H F2 H2)(h:TQ K F H c xs):TQ K F2 H2 c xs:=h.imp (λh=>Rd.tr t h.1 h.2) id
theorem ig.tr{K:ND}{b:Bool}(t:Tr F H F2 H2)(h:ig K F H b k c):ig K F2 H2 b k c:=by
 cases b with
 |true=>
  obtain⟨e,a,d⟩:=h;exact⟨e,a.tr t,d.tr t⟩
 |false=>exact⟨h.1,h.2.tr t⟩
mutual
theorem b_.tr{K:ND}(t:Tr F H F2 H2):∀(d:D) (v:V),b_ K F H d v->b_ K F2 H2 d v
 | .o,v,h=>h
 | .c b,v,h=>h
 | .n i,v,h=>h
 | .q x,v,h=>h
 | .ty n,v,h=>h
 | .txt,v,h=>h
 | .l ds,v,h=>by
  unfold b_ at h⊢;obtain⟨a,E,e,c,f⟩:=h;exact⟨a,E,e,Rd.tr t c.1 c.2,ba.tr t ds E f⟩
 | .scr ns,v,h=>by
  unfold b_ at h⊢;obtain⟨a,e,c⟩:=h;exact⟨a,e,c.imp (λ⟨p,q⟩=>Rd.tr t p q) id⟩
 | .t ds,v,h=>by
  unfold b_ at h⊢;obtain⟨a,E,e,c,f⟩:=h;exact⟨a,E,e,c.imp (λ⟨p,q⟩=>Rd.tr t p q) id,ba.tr t ds E f⟩
 | .obj C ns ds,v,h=>by
  unfold b_ at h⊢;obtain⟨a,G,E,e,c,f,g,j⟩:=h;exact⟨a,G,E,e,t.av a c (by rw[f];simp),t.kp a _ c f,g,ba.tr t ds E j⟩
 | .bag,v,h=>by
  unfold b_ at h⊢;rw[t.bg];exact h
 | .adr a,v,h=>by
  unfold b_ at h⊢;exact h
 | .dct b ks vs,v,h=>by
  unfold b_ at h⊢;obtain⟨a,M,E,e,c,f,g,j⟩:=h;exact⟨a,M,E,e,⟨t.av a c.1 (by rw[c.2];simp),t.kp a _ c.1 c.2⟩,f,λx S=>(g x S).tr t,ba.tr t vs _ j⟩
theorem ba.tr{K:ND}(t:Tr F H F2 H2):∀(ds:a0e) (xs:a0i),ba K F H ds xs->ba K F2 H2 ds xs
 |[],xs,h=>h
 |d::ds,xs,h=>by
  unfold ba at h⊢;obtain⟨x,r,e,a,b⟩:=h;exact⟨x,r,e,b_.tr t d x a,ba.tr t ds r b⟩
end
section
variable{K:ND}{F:Fx}{H:Hp}
theorem ba.nil:ba K F H [] []:=rfl
theorem ba.cons(h:b_ K F H d x)(t:ba K F H ds xs):ba K F H (d::ds) (x::xs):=⟨x,xs,rfl,h,t⟩
theorem ba.f5:∀{ds:a0e} {xs:a0i},ba K F H ds xs->Uc ds=Uc xs
 |[],xs,h=>by have e:xs=[]:=h;subst e;rfl
 |d::ds,xs,h=>by
  obtain⟨x,r,e,_,a⟩:=h;subst e;rw[Np,Np,ba.f5 a]
theorem ba.get:∀{E:a0e} {xs:a0i} {i:Nat} {d:D},ba K F H E xs->E[i]?=My d->∃x,xs[i]?=My x/\b_ K F H d x
 |[],_,_,_,_,e=>by simp at e
 |c::E,xs,0,d,h,e=>by
  obtain⟨x,r,q,b,a⟩:=h
  simp_all
 |c::E,xs,i+1,d,h,e=>by
  obtain⟨x,r,q,b,a⟩:=h;subst q;obtain⟨y,f,g⟩:=ba.get (i:=i) (d:=d) a (by simpa using e)
  simp_all
theorem ba.getV:∀{E:a0e} {D:a0i} {i:Nat} {x:V},ba K F H E D->D[i]?=My x->∃d,E[i]?=My d/\b_ K F H d x
 |[],D,_,_,h,e=>by have q:D=[]:=h;subst q;simp at e
 |c::E,D,0,d,h,e=>by
  obtain⟨x,r,q,b,a⟩:=h
  simp_all
 |c::E,D,i+1,d,h,e=>by
  obtain⟨x,r,q,b,a⟩:=h;subst q;obtain⟨y,f,g⟩:=ba.getV (i:=i) (x:=d) a (by simpa using e)
  simp_all
theorem ba.append:∀{ds E:a0e} {xs D:a0i},ba K F H ds xs->ba K F H E D->ba K F H (ds++E) (xs++D)
 |[],_,xs,_,h,h'=>by have q:xs=[]:=h;subst q;exact h'
 |c::ds,E,xs,D,h,h'=>by
  obtain⟨x,r,q,a,b⟩:=h;subst q;exact⟨x,r++D,rfl,a,ba.append b h'⟩
theorem ba.take:∀{ds:a0e} {xs:a0i} (n:Nat),ba K F H ds xs->ba K F H (ds.take n) (xs.take n)
 |[],xs,n,h=>by have q:xs=[]:=h;subst q;simp;rfl
 |c::ds,xs,0,h=>by simp;rfl
 |c::ds,xs,n+1,h=>by
  obtain⟨x,r,q,a,b⟩:=h;subst q;exact⟨x,r.take n,rfl,a,ba.take n b⟩
theorem ba.drop:∀{ds:a0e} {xs:a0i} (n:Nat),ba K F H ds xs->ba K F H (ds.drop n) (xs.drop n)
 |[],xs,n,h=>by have q:xs=[]:=h;subst q;simp;rfl
 |c::ds,xs,0,h=>h
 |c::ds,xs,n+1,h=>by
  obtain⟨x,r,q,b,a⟩:=h;subst q;exact ba.drop n a
theorem ba.set:∀{ds:a0e} {xs:a0i} (i:Nat) {d:D} {x:V},ba K F H ds xs->b_ K F H d x->ba K F H (ds.set i d) (xs.set i x)
 |[],xs,i,_,_,h,_=>by have q:xs=[]:=h;subst q;simp;rfl
 |c::ds,xs,0,d,x,h,hd=>by
  obtain⟨y,r,q,b,a⟩:=h;subst q;exact⟨x,r,rfl,hd,a⟩
 |c::ds,xs,i+1,d,x,h,hd=>by
  obtain⟨y,r,q,b,a⟩:=h;subst q;exact⟨y,r.set i x,rfl,b,ba.set i a hd⟩
theorem b_.p3(h:b_ K F H (.l d) v):∃a D,v= .r a/\en K H a D/\ba K F H d D:=by
 obtain⟨a,D,e,b,c⟩:=h;exact⟨a,D,e,.inl b.2,c⟩
theorem b_.rdL(h:b_ K F H (.l d) v):∃a D,v= .r a/\Rd H a (.l D)/\ba K F H d D:=by
 unfold b_ at h;obtain⟨a,D,e,b,c⟩:=h;exact⟨a,D,e,b.2,c⟩
theorem b_.scr{D:a0b}(h:b_ K F H (.scr D) v):∃a,v= .r a/\en K H a (D.map V.n):=by
 obtain⟨a,e,b⟩:=h;exact⟨a,e,b.imp (λp=>p.2) id⟩
theorem b_.f5(h:b_ K F H (.t d) v):∃a D,v= .r a/\hU K H a D/\ba K F H d D:=by
 obtain⟨a,D,e,b,c⟩:=h;exact⟨a,D,e,b.imp (λp=>p.2) id,c⟩
theorem b_.int(h:b_ K F H (.n i) v):v= .n i:=h
theorem b_.bl{i:Bool}(h:b_ K F H (.c i) v):v= .c i:=h
theorem b_.str(h:b_ K F H (.q i) v):v= .q i:=h
theorem b_.non(h:b_ K F H .o v):v= .o:=h
theorem b_.ty(h:b_ K F H (.ty n) v):v= .ty n:=h
theorem ba.ints:∀(E:a0b) {G:a0i},ba K F H (E.map D.n) G->G=E.map V.n
 |[],G,h=>h
 |n::E,G,h=>by
  obtain⟨x,r,e,a,b⟩:=h;rw[e,ba.ints E b];have q:x= .n n:=a;rw[q];rfl
theorem ba.ofInts:∀(E:a0b),ba K F H (E.map D.n)<|E.map V.n
 |[]=>rfl
 |n::E=>⟨.n n,E.map V.n,rfl,rfl,ba.ofInts E⟩
structure Fr (F:Fx) (H:Hp) (β:Bg):Prop where
 occ:∀a,F.A a->H a≠M0
 bgA:∀b l,F.bg=My (b,l)->F.A b/\F.A l/\b≠l
 bag:∀b l,F.bg=My (b,l)->H b=My (.l [.r l,.n β.i,.n β.j])/\H l=My (.l<|β.cells.map V.n)
structure To (F:Fx) (H H':Hp) (β':Bg):Prop where
 kp:∀a o,H a=My o->(∀b l,F.bg=My (b,l)->a≠b/\a≠l)->H' a=My o
 fr:Fr F H' β'
theorem To.refl{F:Fx}{H:Hp}(fr:Fr F H a):To F H H a:=⟨λ_ _ h _=>h,fr⟩
theorem To.trans{F:Fx}{H H1 c:Hp}(a:To F H H1 β1)(b:To F H1 c d):To F H c d:=⟨λx o h n=>b.kp x o (a.kp x o h n) n,b.fr⟩
theorem Fr.same{F:Fx}{H c:Hp}(fr:Fr F H d)(s:bW H c):To F H c d:=
 ⟨λa o h _=>s a o h,⟨λa h q=>(by
  cases e:H a with
  |none=>exact fr.occ a h e
  |some o=>exact NH ((s a o e).symm.trans q)<|by simp),fr.bgA,λb l e=>⟨s _ _ (fr.bag b l e).1,s _ _ (fr.bag b l e).2⟩⟩⟩
theorem Fr.upd{F:Fx}{H:Hp}(fr:Fr F H a)(o:HO)(h:H p=M0):To F H (upd H p o) a:=fr.same<|bW.upd h
theorem Fr.fresh{F:Fx}{H:Hp}(fr:Fr F H a)(h:H p=M0):¬F.A p:=λq=>fr.occ p q h
theorem To.tr{F:Fx}{H c:Hp}(fr:Fr F H f)(t:To F H c d):Tr F H F c:=
 ⟨λ_ h _=>h,λa o h e=>t.kp a o e λb l q=>⟨λz=>h<|z▸(fr.bgA b l q).1,λz=>h<|z▸(fr.bgA b l q).2.1⟩,rfl⟩
abbrev Dn:=List a0k
structure hY (K:ND) (F:Fx) (H:Hp) (δ:Dn) (σ:St):Prop where
 len:Uc δ=Uc σ
 tell:∀(i:Nat) (d:D),δ[i]?=My (My d)->∃v,σ[i]?=My (My v)/\b_ K F H d v
theorem hY.tr{K:ND}{F a:Fx}{H b:Hp}(t:Tr F H a b)(h:hY K F H c f):hY K a b c f:=⟨h.len,λi d e=>let ⟨v,h1,h2⟩:=h.tell i d e;⟨v,h1,b_.tr t d v h2⟩⟩
theorem hY.set{K:ND}{F:Fx}{H:Hp}{δ:Dn}{a:St}(h:hY K F H δ a)(D:b_ K F H d v):hY K F H (δ.set i<|My d) (a.set i<|My v):=by
 refine⟨by rw[N9,N9,h.len],λj c e=>?_⟩;rw[OO]at e;rw[OO];by_cases q:i=j
 .subst q
  rw[Ng rfl]at e⊢;split at e
  .rename_i b
   cases e;rw[Ng<|by rw[<-h.len];exact b];exact⟨v,rfl,D⟩
  .cases e
 .rw[Nf q]at e⊢
  exact h.tell j c e
def Sub(F E:Dn):Prop:=∀(i:Nat) (d:D),F[i]?=My (My d)->E[i]?=My (My d)
theorem hY.sub{K:ND}{F:Fx}{H:Hp}{E D:Dn}(h:hY K F H D a)(s:Sub E D)(l:Uc E=Uc D):hY K F H E a:=⟨l.trans h.len,λi d e=>h.tell i d<|s i d e⟩
abbrev M(D:Type):=Bg->Option (Except M6 D×Bg)
abbrev a0m:=Dn->M Bool
noncomputable def M.f5{D:Type}(a:D):M D:=λE=>My (.ok a,E)
noncomputable def M.v{D b:Type}(m:M D)(k:D->M b):M b:=λE=>match m E with
 |none=>M0
 |some (.error C,β1)=>My (.error C,β1)
 |some (.ok a,β1)=>k a β1
noncomputable def M.f{D:Type}(o:Option D):M D:=λE=>match o with
 |some a=>My (.ok a,E)
 |none=>M0
noncomputable def M.fail{D:Type}:M D:=λ_=>M0
theorem M.bind_some{D b:Type}(a:D)(k:D->M b):M.v (M.f<|My a) k=k a:=rfl
theorem M.bind_ok{D b:Type}{m:M D}{k:D->M b}{β β1:Bg}{a:D}(h:m β=My (.ok a,β1)):M.v m k β=k a β1:=by unfold M.v;rw[h]
theorem M.bind_err{E a:Type}{m:M E}{k:E->M a}{F D:Bg}{C:M6}(h:m F=My (.error C,D)):M.v m k F=My (.error C,D):=by unfold M.v;rw[h]
def run{D c:Type}(R:Hp->D->c->Prop)(F:Fx)(E:a0r)(e:St)(m:M D)(H:Hp)(Q:c->Hp->Prop)(G:Bg):Prop:=
 ∃r a,m G=My (r,a)/\match r with
  | .ok d=>∀v b,To F H b a->R b d v->Q v b
  | .error C=>∀b,To F H b a->E e (.ref C) M0 b
theorem run.mono{D b:Type}{R:Hp->D->b->Prop}{F:Fx}{E:a0r}{c:St}{m:M D}{H:Hp}{Q d:b->Hp->Prop}{β:Bg}(h:run R F E c m H Q β)(f:∀v g,Q v g->d v g):run R F E c m H d β:=by
 obtain⟨r,a,e,h⟩:=h;refine⟨r,a,e,?_⟩
 grind
theorem run.bind{K i f g:Type}{R:Hp->K->i->Prop}{R2:Hp->f->g->Prop}{F:Fx}{E:a0r}{a:St}{m:M K}{k:K->M f}{H:Hp}{Q:g->Hp->Prop}{S:Bg}(h:run R2 F E a (M.v m k) H Q S):
  run R F E a m H (λv G=>∃d D,To F H G D/\R G d v/\run R2 F E a (k d) G Q D) S:=by
 obtain⟨r,b,e,h⟩:=h;cases q:m S with
 |none=>unfold M.v at e;rw[q]at e;cases e
 |some z=>
  obtain⟨V,D⟩:=z;refine⟨V,D,q,?_⟩;cases V with
  |error C=>
   rw[M.bind_err q]at e;cases e;exact h
  |ok d=>
   rw[M.bind_ok q]at e;intro v G t n;refine⟨d,D,t,n,r,b,e,?_⟩;cases r with
   |ok o=>exact λj c t2 l=>h j c (t.trans t2) l
   |error C=>exact λc t2=>h c<|t.trans t2
theorem run.ret{D b:Type}{R:Hp->D->b->Prop}{F:Fx}{E:a0r}{c:St}{a:D}{v:b}{H:Hp}{Q:b->Hp->Prop}{β:Bg}(fr:Fr F H β)(h:run R F E c (M.f5 a) H Q β)(r:R H a v):Q v H:=by
 obtain⟨_,_,e,h⟩:=h;cases e;exact h v H (To.refl fr) r
theorem run.p3{D c:Type}{R:Hp->D->c->Prop}{F:Fx}{E:a0r}{d:St}{o:Option D}{H:Hp}{Q:c->Hp->Prop}{G:Bg}(h:run R F E d (M.f o) H Q G):∃a,o=My a/\∀v b,To F H b G->R b a v->Q v b:=by
 obtain⟨_,_,e,h⟩:=h;cases o with
 |none=>cases e
 |some a=>cases e;exact⟨a,rfl,h⟩
abbrev FD:=Dn->M D
abbrev a1b:=Option<|FD
abbrev FL:=Dn->M a0e
def tV(K:ND)(f:FD)(E:a0r):TE:=λa H Q=>∃F D G,Fr F H G/\hY K F H D a/\run (b_ K F) F E a (f D) H Q G
def h8(K:ND)(f:FL)(E:a0r):TA:=λa H Q=>∃F D G,Fr F H G/\hY K F H D a/\run (ba K F) F E a (f D) H Q G
def gt(K:ND)(f:a0m)(E:a0r):TT:=λc H Q=>∃F D G,Fr F H G/\hY K F H D c/\run (λ_ (a b:Bool)=>b=a) F E c (f D) H Q G
theorem _root_.L2.PE.imp(h:PE X e t)(f:∀a H Q,c a H Q->t a H Q):PE X e c:=λb s a H Q I q=>h b s a H Q I<|f a H Q q
theorem _root_.L2.PT.imp(h:PT X e t)(f:∀a H Q,c a H Q->t a H Q):PT X e c:=λb s a H Q I q=>h b s a H Q I<|f a H Q q
theorem _root_.L2.PW.imp(h:PW X e t)(f:∀a H Q,d a H Q->t a H Q):PW X e d:=λc b s a H Q I q=>h c b s a H Q I<|f a H Q q
theorem _root_.L2.PA.imp(h:PA X e t)(f:∀a H Q,c a H Q->t a H Q):PA X e c:=λD b s a H Q I q=>h D b s a H Q I<|f a H Q q
def aa(i:Nat):FD:=λD=>M.f<|D.getD i M0
def fC(d:D):FD:=λ_=>M.f5 d
def f1(E:D->a0k)(f:FD):FD:=λF=>M.v (f F) λa=>M.f<|E a
def f2(E:a0Z)(f g:FD):FD:=λD=>M.v (f D) λa=>M.v (g D) λb=>M.f<|E a b
noncomputable def ak:FL:=λ_=>M.f5 []
def ae(f:FD)(g:FL):FL:=λD=>M.v (f D) λa=>M.v (g D) λE=>M.f5<|a::E
def aJ(D:a0e->a0k)(g:FL):FD:=λE=>M.v (g E) λF=>M.f<|D F
def bC(m:a0e->M D)(g:FL):FD:=λE=>M.v (g E) λF=>m F
variable{X:Cx}{E:a0r}{e a b:Expr}{U:List Expr}{O:RV}
theorem Lr(i:Nat)(h:PE X (.Name x O)<|kZ i):PE X (.Name x O) (tV X.K (aa i) E):=h.imp λl H Q c=>by
 obtain⟨F,a,b,fr,f,r⟩:=c;obtain⟨d,e,r⟩:=run.p3 r;have g:a[i]?=My (My d):=by
  grind
 obtain⟨v,j,k⟩:=f.tell i d g;exact⟨v,j,r v H (To.refl fr) k⟩
theorem Yh(h:PE X e<|tC v)(a:∀F H,b_ X.K F H d v):PE X e (tV X.K (fC d) E):=h.imp λf H Q c=>by obtain⟨F,b,D,fr,g,r⟩:=c;exact run.ret fr r<|a F H
theorem ah{i j O}:PE X (.Constant (.int i) j O) (tV X.K (fC<|.n i) E):=Yh b8 λ_ _=>rfl
theorem kY{i j O}:PE X (.Constant (.bool i) j O) (tV X.K (fC<|.c i) E):=Yh LT λ_ _=>rfl
theorem nJ{j O}:PE X (.Constant .none j O) (tV X.K (fC .o) E):=Yh J5 λ_ _=>rfl
theorem dQ{i j O}:PE X (.Constant (.str i) j O) (tV X.K (fC<|.q i) E):=Yh vO λ_ _=>rfl
theorem l7:PA X [] (h8 X.K ak E):=f9.imp λd H Q c=>by obtain⟨F,a,b,fr,f,r⟩:=c;exact run.ret fr r ba.nil
theorem fN(D:PE X e<|tV X.K f E)(j:PA X U<|h8 X.K g E)(G:b0a X e U:=by rfl):PA X (e::U) (h8 X.K (ae f g) E):=
 (b9 D j G).imp λl H Q c=>ix c λF b M fr i r=>⟨F,b,M,fr,i,(run.bind (R:=b_ X.K F) r).mono λv n ⟨d,a,t,O,S⟩=>
  ⟨F,b,a,t.fr,i.tr<|t.tr fr,(run.bind (R:=ba X.K F) S).mono λo m c=>nS c λp V t2 h k=>run.ret t2.fr k<|ba.cons (b_.tr (t2.tr t.fr) _ _ O) h⟩⟩
def bq(K:ND)(r:R2)(E:a0Z):Prop:=∀(F:Fx) (H:Hp) (a:Bg) (Q:VK) (b e d:D) (f g:V),Fr F H a->b_ K F H b f->b_ K F H e g->E b e=My d->
 (∀v c,To F H c a->b_ K F c d v->Q v c)->r f g H Q
def Hk(K:ND)(r:V->Hp->VK->Prop)(e:D->a0k):Prop:=∀(F:Fx) (H:Hp) (a:Bg) (Q:VK) (b d:D) (f:V),Fr F H a->b_ K F H b f->e b=My d->
 (∀v c,To F H c a->b_ K F c d v->Q v c)->r f H Q
def fX(K:ND)(r:a0G)(E:a0e->a0k):Prop:=∀(F:Fx) (H:Hp) (a:Bg) (Q:VK) (b:a0e) (d:D) (e:a0i),Fr F H a->ba K F H b e->E b=My d->
 (∀v c,To F H c a->b_ K F c d v->Q v c)->r e H Q
theorem pX{K:ND}(l:bq K r op){H:Hp}(h:tV K (f2 op f g) E q H Q):P_ r (tV K f E) (tV K g E) q H Q:=by
 obtain⟨F,e,D,fr,j,h⟩:=h;refine⟨F,e,D,fr,j,(run.bind (R:=b_ K F) h).mono λv U c=>nS c λd a t G M=>⟨F,e,a,t.fr,j.tr<|t.tr fr,(run.bind (R:=b_ K F) M).mono λm n c=>nS c λO b t2 i o=>?_⟩⟩;obtain⟨S,p,k⟩:=run.p3 o;exact l F n b Q d O S v m t2.fr (b_.tr (t2.tr t.fr) _ _ G) i p k
theorem aY(c:f0 X (Qt op) r)(l:bq X.K r o)(e:PE X a<|tV X.K f E)(d:PE X b<|tV X.K g E):PE X (.BinOp a op b O) (tV X.K (f2 o f g) E):=
 (dR c e d).imp λ_ _ _=>pX l
theorem iU(c:f0 X (OP op) r)(l:bq X.K r o)(e:PE X a<|tV X.K f E)(d:PE X b<|tV X.K g E)(D:SK op b=M5:=by first|exact vT _|rfl):PE X (.Compare a [op] [b] O) (tV X.K (f2 o f g) E):=
 (Ii c e d D).imp λ_ _ _=>pX l
theorem oX(g:YX X (unaryOp op) r)(l:Hk X.K r o)(e:PE X a<|tV X.K f E):PE X (.UnaryOp op a O) (tV X.K (f1 o f) E):=
 (LS g e).imp λj H Q c=>ix c λF D G fr i h=>⟨F,D,G,fr,i,(run.bind (R:=b_ X.K F) h).mono λv M c=>nS c λd b t S U=>let ⟨d3,e3,k⟩:=run.p3 U;l F M b Q d d3 v t.fr S e3 k⟩
theorem bB(c:vr X r)(l:bq X.K r o)(e:PE X a<|tV X.K f E)(d:PE X b<|tV X.K g E)(D:yt b:=by exact λ_ _=>rfl):PE X (.Subscript a b O) (tV X.K (f2 o f g) E):=
 (gn c e d D).imp λ_ _ _=>pX l
theorem AM{K:ND}(l:fX K r op){H:Hp}(h:tV K (aJ op g) E j H Q):Zj r (h8 K g E) j H Q:=by
 obtain⟨F,b,e,fr,c,h⟩:=h;refine⟨F,b,e,fr,c,(run.bind (R:=ba K F) h).mono λv D f=>nS f λd a t G M=>?_⟩;obtain⟨O,i,k⟩:=run.p3 M;exact l F D a Q d O v t.fr G i k
theorem cu{f:String}(h:dM X (.builtin f) r)(l:fX X.K r op)(i:Gl X x)(a:X.mg x=M0)(j:Rw x=My (.builtin f))(b:PA X (e::U)<|h8 X.K g E)(D:x≠"__name__":=by decide)(c:b0c x:=by decide)
  (k:b0a X e U:=by rfl) (d:b0b X O U:=by rfl):PE X (.Call (.Name x p) (e::U) [] O) (tV X.K (aJ op g) E):=
 (lf h i a j b D c k d).imp λ_ _ _=>AM l
theorem cr(f:dM X (.type T) r)(l:fX X.K r op)(h:Gl X x)(a:X.mg x=M0)(i:Rw x=My (.type T))(b:PA X (e::U)<|h8 X.K g E)(D:x≠"__name__":=by decide)(c:b0c x:=by decide)
  (j:b0a X e U:=by rfl) (d:b0b X O U:=by rfl):PE X (.Call (.Name x p) (e::U) [] O) (tV X.K (aJ op g) E):=
 (tK f h a i b D c j d).imp λ_ _ _=>AM l
noncomputable def gQ(a:a0e):a0k:=if Uc a<=Nw then My (.t a)else M0
noncomputable def iZ(ds:a0e):a0k:=if Uc ds<=Nw then My (.l ds)else M0
theorem b_.newT{K:ND}{F:Fx}{H:Hp}(fr:Fr F H f)(h:H p=M0)(a:ba K F H d c):b_ K F (upd H p<|.t c) (.t d) (.r p):=
 ⟨p,c,rfl,.inl ⟨fr.fresh h,.inl aq⟩,ba.tr ((fr.upd _ h).tr fr) _ _ a⟩
theorem b_.newL{K:ND}{F:Fx}{H:Hp}(fr:Fr F H f)(h:H p=M0)(a:ba K F H d c):b_ K F (upd H p<|.l c) (.l d) (.r p):=
 ⟨p,c,rfl,⟨fr.fresh h,.inl aq⟩,ba.tr ((fr.upd _ h).tr fr) _ _ a⟩
theorem dI{l}(h:PA X U<|h8 X.K g E):PE X (.Tuple U l O) (tV X.K (aJ gQ g) E):=
 (J1 h).imp λj H Q d=>ix d λF b e fr i r=>⟨F,b,e,fr,i,(run.bind (R:=ba X.K F) r).mono λM S d=>by
  obtain⟨V,D,t,a,G⟩:=d;obtain⟨m,c,k⟩:=run.p3 G;unfold gQ at c;split at c
  .cases c
   exact⟨by rw[<-a.f5];assumption,λp f=>k _ _ (t.fr.upd _ f)<|b_.newT t.fr f a⟩
  .cases c⟩
theorem jN(h:PA X U<|h8 X.K g E):PE X (.List U O) (tV X.K (aJ iZ g) E):=
 (kG h).imp λj H Q d=>ix d λF b e fr i r=>⟨F,b,e,fr,i,(run.bind (R:=ba X.K F) r).mono λM S d=>by
  obtain⟨V,D,t,a,G⟩:=d;obtain⟨l,c,k⟩:=run.p3 G;unfold iZ at c;split at c
  .cases c
   exact⟨by rw[<-a.f5];assumption,λp f=>k _ _ (t.fr.upd _ f)<|b_.newL t.fr f a⟩
  .cases c⟩
def B6(K:ND)(n:Nat)(m:a0e->M D):Sp:=λa H Q E=>Uc a=n/\∃F b e,Fr F H e/\ba K F H b a/\run (b_ K F) F (λ_=>E) [] (m b) H Q e
variable{p:RV}{x:N8}{k n:Nat}{f:M6}{Y:NL}{W:a0g}
theorem run.toE{a c:Type}{R:Hp->a->c->Prop}{F:Fx}{E:a0r}{d:St}{m:M a}{H:Hp}{Q:c->Hp->Prop}{b:Bg}(h:run R F E d m H Q b):run R F (λ_=>E d) [] m H Q b:=h
theorem Jg(G:d_ X.p X.w X.K X.mg X.base (e_ X.p X.w) k f Y W<|B6 X.K n m)(q:dv k X.A)(u:Gl X x)(V:X.mg x=My (.ref f))(v:Se X.K (.ref f)=M3)(y:dN X.K Y W [])(s:bX (e_ X.p X.w) X E)
  (z:PA X (e::U)<|h8 X.K g E) (P:∀a b r h,g a b=My (.ok r,h)->Uc r=n) (c:b0c x:=by decide) (B:b0a X e U:=by rfl) (d:b0b X O U:=by rfl):
  PE X (.Call (.Name x p) (e::U) [] O) (tV X.K (bC m g) E):=
 (kH G q u V v y .nil s z c B d).imp λN H Q I=>ix I λF a b fr J r=>⟨F,a,b,fr,J,by
  obtain⟨M,i,l,o⟩:=run.bind (R:=ba X.K F) r;refine⟨M,i,l,?_⟩;cases M with
  |error C=>exact o
  |ok ds=>
   intro T Z t S;obtain⟨d',D,t1,j,r1⟩:=o T Z t S;have L:=P _ _ _ _ l;refine⟨by rw[NW,<-S.f5,L],F,d',D,t1.fr,by rw[NW];exact j,run.toE r1⟩⟩
theorem Gp{r:a0e}(h:ak d g=My (.ok r,c)):Uc r=0:=by cases h;rfl
theorem aR{f:FD}{n:Nat}(d:∀a b r c,g a b=My (.ok r,c)->Uc r=n):∀a b r c,ae f g a b=My (.ok r,c)->Uc r=n+1:=by
 intro a b r c h;unfold ae M.v at h;split at h
 .cases h
 .cases h
 .dsimp only at h
  split at h
  .cases h
  .cases h
  .rename_i as _ i
   cases h
   grind
noncomputable def ny(g:Int->Int->a0k):D->D->a0k
 | .n i,.n j=>g i j
 |_,_=>M0
theorem jB{a b d:D}(h:ny g a b=My d):∃i j,a= .n i/\b= .n j/\g i j=My d:=by
 cases a<;>first|cases h|(cases b<;>first|cases h|exact⟨_,_,rfl,rfl,h⟩)
theorem CN{g:a0M}:bq K (p7 λi j=> .n<|g i j) (ny λi j=>My<|.n<|g i j):=λF H a Q b f d l m fr c h e k=>by
 obtain⟨i,j,rfl,rfl,e⟩:=jB e;cases e;exact⟨i,j,c,h,k _ H (To.refl fr) rfl⟩
theorem lz{g:Int->Int->Bool}:bq K (p7 λi j=> .c<|g i j) (ny λi j=>My<|.c<|g i j):=λF H a Q b f d l m fr c h e k=>by
 obtain⟨i,j,rfl,rfl,e⟩:=jB e;cases e;exact⟨i,j,c,h,k _ H (To.refl fr) rfl⟩
theorem mS{C:a0X}{c:Int->Int->Bool}{g:a0M}(l:∀i j,c i j=M3->C i j):bq K (rI C λi j=> .n<|g i j) (ny λi j=>if c i j=M3 then My (.n<|g i j)else M0):=λF H a Q b f d q r fr m o e k=>by
 obtain⟨i,j,rfl,rfl,h⟩:=jB e;split at h
 .cases h
  exact⟨i,j,m,o,l _ _ (by assumption),k _ H (To.refl fr) rfl⟩
 .cases h
noncomputable def c7(i:Int):Bool:=decide (i.natAbs<2^1000)
def Jy:D->D->a0k:=ny λi j=>My<|.n<|i-j
def uV:D->D->a0k:=ny λi j=>if(decide (0<j)&&decide (j.natAbs.log2<9000))=M3 then My (.n<|i/j)else M0
def Fn:D->D->a0k:=ny λi j=>if decide (0<j)=M3 then My (.n<|i % j)else M0
def Yn:D->D->a0k:=ny λi j=>My<|.c<|decide (i<j)
def C_:D->D->a0k:=ny λi j=>My<|.c<|decide (i<=j)
def L_:D->D->a0k:=ny λi j=>My<|.c<|decide (j<i)
theorem eJ:bq K (p7 λi j=> .n<|i-j) Jy:=CN
theorem jD:bq K (p7 λi j=> .c<|decide (i<j)) Yn:=lz
theorem kn:bq K (p7 λi j=> .c<|decide (i<=j)) C_:=lz
theorem ia:bq K (p7 λi j=> .c<|decide (j<i)) L_:=lz
theorem Kv:bq K (rI u7 λi j=> .n<|i/j) uV:=mS λi j h=>by
 simp only[NN,NR]at h;exact h
theorem Md:bq K (rI (λ_ j=>0<j) λi j=> .n<|i % j) Fn:=mS λi j h=>Ph h
noncomputable def yW:R2:=λx y H Q=>∃l b a c,x= .r l/\y= .r b/\Rd H l (.l a)/\Rd H b (.l c)/\Uc a+Uc c<=Nw/\∀p,H p=M0->Q (.r p) (upd H p<|.l<|a++c)
theorem xK:f0 X (Qt .Add) yW:=by
 intro d s t H x y v u Q I i j h;obtain⟨l,b,f,w,rfl,rfl,m,hB,A,q⟩:=h;cases i;cases j;obtain⟨z,a,n,r,e⟩:=m.ok I.hok;obtain⟨B,c,C,g,o⟩:=hB.ok I.hok;have J:=r.length;have L:=g.length;refine Xl e o ?_ (by simp only[NG];lia);rw[show a.toArray++c.toArray=(a++c).toArray by simp];exact⟨.r _,_,I.lnew (t':=s.toks) (r.append g) (by rw[Ni];lia),rfl,q _ I.fresh⟩
def yX(K:ND):R2:=λx y H Q=>∃a b e,x= .r a/\y= .r b/\hU K H a []/\hU K H b e/\Q (.r b) H
theorem Ip:f0 X (Qt .Add) (yX X.K):=by
 intro l s N H x y v u Q I t w h;obtain⟨a,b,F,rfl,rfl,f,A,q⟩:=h;cases t;cases w;obtain⟨k,p,B,_⟩:=I.tuple f;obtain⟨m,O,p2,_⟩:=I.tuple A;cases p;obtain⟨⟨G,D,C,i⟩,o,r,n,e⟩:=B;obtain⟨⟨c2,E,J,j⟩,c,d,L,g⟩:=p2;simp only at r e d g;subst r e d g;exact PySem.concat_meets ⟨_,o,rfl⟩ ⟨_,c,rfl⟩ V5 Xu Ts Tg (S5 _ _) (tuple_addW0 a b _ _ n L D E i j<|by simp) ⟨o,c,⟨.r b,H,I,rfl,q⟩⟩
noncomputable def lP:D->D->a0k
 | .n i,.n j=>My<|.n<|i+j
 | .t [],.t b=>My<|.t b
 | .l a,.l b=>if Uc a+Uc b<=Nw then My (.l<|a++b)else M0
 | .t (c::a),.t b=>if(c::a).length+Uc b<=Nw then My (.t<|c::a++b)else M0
 |_,_=>M0
theorem cD:bq K (λx y H Q=>(p7 λi j=> .n<|i+j) x y H Q\/yW x y H Q\/yV K x y H Q\/yX K x y H Q) lP:=λF H E Q G M d v w fr h l e k=>by
 unfold lP at e;split at e
 .cases e
  exact .inl ⟨_,_,h,l,k _ H (To.refl fr) rfl⟩
 .cases e
  obtain⟨a,f,rfl,n,c⟩:=b_.f5 h;obtain⟨b,D,rfl,m,g⟩:=b_.f5 l;have q:f=[]:=c;subst q;exact .inr<|.inr<|.inr ⟨a,b,D,rfl,rfl,n,m,k _ H (To.refl fr) l⟩
 .split at e
  .cases e
   obtain⟨a,f,rfl,n,c⟩:=b_.rdL h;obtain⟨b,D,rfl,m,g⟩:=b_.rdL l;exact .inr<|.inl ⟨a,b,f,D,rfl,rfl,n,m,by rw[<-c.f5,<-g.f5];assumption,λp o=>k _ _ (fr.upd _ o)<|b_.newL fr o<|c.append g⟩
  .cases e
 .split at e
  .cases e
   obtain⟨a,f,rfl,n,c⟩:=b_.f5 h;obtain⟨b,D,rfl,m,g⟩:=b_.f5 l;have r:=c.f5;have t:=g.f5;refine .inr<|.inr<|.inl ⟨a,b,f,D,rfl,rfl,n,m,(λz=>by subst z;cases r),by rw[<-r,<-t];assumption,λz=>?_,λ_ p o=>k _ _ (fr.upd _ o)<|b_.newT fr o<|c.append g⟩;subst z;have u:=PD.mp t;subst u;rw[NW]at k;exact k _ H (To.refl fr) h
  .cases e
 .cases e
theorem bo:f0 X (Qt .Add) (λx y H Q=>(p7 λi j=> .n<|i+j) x y H Q\/yW x y H Q\/yV X.K x y H Q\/yX X.K x y H Q):=qB.or<|xK.or<|Io.or Ip
def iN:D->D->a0k:=ny λi j=>if(c7 i&&c7 j)=M3 then My (.n<|i*j)else M0
theorem qJ:bq K (rI u6 λi j=> .n<|i*j) iN:=mS λi j h=>by
 simp only[NN,c7,NR]at h;exact h
noncomputable def YU:D->D->a0K
 | .o,.o=>My M3
 | .n i,.n j=>My<|decide (i=j)
 | .c i,.c j=>My<|decide (i=j)
 | .q i,.q j=>My<|decide (i=j)
 | .n _,.q _=>My M5
 | .q _,.n _=>My M5
 | .c _,.q _=>My M5
 | .q _,.c _=>My M5
 | .o,.n _=>My M5
 | .n _,.o=>My M5
 | .o,.q _=>My M5
 | .q _,.o=>My M5
 |_,_=>M0
theorem DS{F:Fx}{H:Hp}{a b:D}{c:Bool}(h:YU a b=My c)(d:b_ K F H a v)(g:b_ K F H b w):ER v w=M3/\decide (v=w)=c:=by
 cases a<;>first|cases h|(cases b<;>first|(cases h;cases d;cases g;exact⟨rfl,rfl⟩)|(cases h;cases d;cases g;exact⟨rfl,by simp⟩)|cases h)
noncomputable def isN:D->Bool
 | .o=>M3
 |_=>M5
theorem KQ{F:Fx}{H:Hp}(h:b_ K F H d v):decide (v= .o)=isN d:=by
 cases d with
 |o=>cases h.non;rfl
 |c b=>cases h.bl;rfl
 |n b=>cases h.int;rfl
 |q b=>cases h.str;rfl
 |ty b=>cases h.ty;rfl
 |txt=>unfold b_ at h;obtain⟨z,rfl⟩:=h;rfl
 |l ds=>obtain⟨a,e,rfl,_⟩:=b_.p3 h;rfl
 |t ds=>obtain⟨a,e,rfl,_⟩:=b_.f5 h;rfl
 |scr ds=>obtain⟨a,rfl,_⟩:=b_.scr h;rfl
 |obj C ns ds=>
  unfold b_ at h;obtain⟨a,_,_,rfl,_⟩:=h;rfl
 |bag=>
  unfold b_ at h;obtain⟨a,_,_,rfl⟩:=h;rfl
 |adr a=>
  unfold b_ at h;obtain rfl:=h;rfl
 |dct b ks vs=>
  unfold b_ at h;obtain⟨a,_,e,rfl,_⟩:=h;rfl
noncomputable def FQ:D->D->a0k
 |a,.o=>My<|.c<|isN a
 |_,_=>M0
theorem uM:bq K (λx y H Q=>y= .o/\Q (.c<|decide (x= .o)) H) FQ:=λF H a Q b f d h i fr c g e k=>by
 unfold FQ at e;split at e
 .cases e
  exact⟨g,by rw[KQ c];exact k _ H (To.refl fr) rfl⟩
 .cases e
noncomputable def dL:D->Bool
 | .n _=>M3| .c _=>M3| .q _=>M3| .o=>M3|_=>M5
noncomputable def eqF:D->D->Bool
 | .o,.o=>M3
 | .c a,.c b=>a==b
 | .c a,.n b=>(if a then 1 else 0)==b
 | .n a,.c b=>a==(if b then 1 else 0)
 | .n a,.n b=>a==b
 | .q a,.q b=>a==b
 |_,_=>M5
noncomputable def gi:D->a0x
 | .l a=>My a
 | .t a=>My a
 |_=>M0
def U_(x:D)(a:a0e):Bool:=a.any λy=>eqF y x
def D2(a:Bool)(x y:D):a0k:=(gi y).bind λb=>if(dL x&&b.all dL)=M3 then My (.c (if a then !U_ x b else U_ x b))else M0
theorem rY{F:Fx}{H:Hp}(f:dL d=M3)(h:b_ K F H d v):iq v=M3:=by
 cases d<;>first|(cases h.int;rfl)|(cases h.bl;rfl)|(cases h.str;rfl)|(cases h.non;rfl)|cases f
theorem K6{F:Fx}{H:Hp}{a b:D}(g:dL a=M3)(h:dL b=M3)(c:b_ K F H a v)(d:b_ K F H b w):zv v w=eqF a b:=by
 cases a<;>first
  |(exfalso;exact Nb g)
  |(cases b<;>first
   |(exfalso;exact Nb h)
   |(cases c.int;cases d.int;rfl)|(cases c.int;cases d.bl;rfl)|(cases c.int;cases d.str;rfl)|(cases c.int;cases d.non;rfl)
   |(cases c.bl;cases d.int;rfl)|(cases c.bl;cases d.bl;rfl)|(cases c.bl;cases d.str;rfl)|(cases c.bl;cases d.non;rfl)
   |(cases c.str;cases d.int;rfl)|(cases c.str;cases d.bl;rfl)|(cases c.str;cases d.str;rfl)|(cases c.str;cases d.non;rfl)
   |(cases c.non;cases d.int;rfl)|(cases c.non;cases d.bl;rfl)|(cases c.non;cases d.str;rfl)|(cases c.non;cases d.non;rfl))
theorem wk{F:Fx}{H:Hp}{x:D}(c:dL x=M3)(e:b_ K F H x v):∀{b:a0e} {a:a0i},b.all dL=M3->ba K F H b a->a.all iq=M3/\YN v a=U_ x b
 |[],a,_,h=>by have q:a=[]:=h;subst q;exact⟨rfl,rfl⟩
 |d::b,a,f,h=>by
  obtain⟨y,r,q,g,i⟩:=h;subst q;rw[UA,NN]at f;obtain⟨j,i2⟩:=wk c e f.2 i;refine⟨by rw[UA,rY f.1 g,j];rfl,?_⟩;unfold YN U_ at i2⊢;rw[Tk,Tk,i2,K6 f.1 c g e]
theorem v9{neg:Bool}:bq K (Zt K neg) (D2 neg):=λF H p Q x n d l m fr g j e k=>by
 unfold D2 at e;cases q:gi n with
 |none=>rw[q]at e;cases e
 |some D=>
  rw[q]at e;simp only[Qy]at e;split at e
  .rename_i c
   rw[NN]at c;cases e;cases n<;>first|(cases q;obtain⟨a,b,rfl,f,h⟩:=b_.p3 j;obtain⟨i,i2⟩:=wk c.1 g c.2 h;exact⟨a,b,rfl,.inl f,rY c.1 g,i,by rw[i2];exact k _ H (To.refl fr) rfl⟩)|(cases q;obtain⟨a,b,rfl,f,h⟩:=b_.f5 j;obtain⟨i,i2⟩:=wk c.1 g c.2 h;exact⟨a,b,rfl,.inr f,rY c.1 g,i,by rw[i2];exact k _ H (To.refl fr) rfl⟩)|cases q
  .cases e
def i4:D->D->a0k
 | .l xs,.n i=>p4 xs i
 | .t xs,.n i=>p4 xs i
 |_,_=>M0
theorem Eo{F:Fx}{H:Hp}(h:ba K F H c g)(e:p4 c i=My d):∃v,p4 g i=My v/\b_ K F H d v:=by
 unfold p4 at e⊢;rw[<-h.f5];cases q:lb (Uc c) i with
 |none=>rw[q]at e;cases e
 |some j=>
  rw[q]at e;exact h.get e
theorem bD:bq K (λx y H Q=>yU K x y H Q\/EU K x y H Q) i4:=λF H f Q n p d j l fr h i e k=>by
 unfold i4 at e;split at e
 .obtain⟨a,xs,rfl,r1,c⟩:=b_.p3 h
  obtain⟨v,g,b⟩:=Eo c e;exact .inl ⟨a,xs,_,v,rfl,i,r1,g,k _ H (To.refl fr) b⟩
 .obtain⟨a,xs,rfl,r1,c⟩:=b_.f5 h
  obtain⟨v,g,b⟩:=Eo c e;exact .inr ⟨a,xs,_,v,rfl,i,r1,g,k _ H (To.refl fr) b⟩
 .cases e
theorem aI:vr X (λx y H Q=>yU X.K x y H Q\/EU X.K x y H Q):=dF.or KP
noncomputable def cW:a0e->a0k
 |[.l xs]=>My<|.n<|Uc xs
 |[.t xs]=>My<|.n<|Uc xs
 |_=>M0
theorem ba.p3{F:Fx}{H:Hp}(h:ba K F H [d] i):∃v,i=[v]/\b_ K F H d v:=by
 obtain⟨x,r,e,c,g⟩:=h;have q:r=[]:=g;subst q;exact⟨x,e,c⟩
theorem ba.two{F:Fx}{H:Hp}(h:ba K F H [d,c] l):∃v w,l=[v,w]/\b_ K F H d v/\b_ K F H c w:=by
 obtain⟨x,r,e,g,i⟩:=h;obtain⟨y,rfl,j⟩:=ba.p3 i;exact⟨x,y,e,g,j⟩
theorem Me:fX K (λb H Q=>∃p f,b=[.r p]/\(en K H p f\/hU K H p f)/\Q (.n<|Uc f) H) cW:=λF H n Q x d D fr h e k=>by
 unfold cW at e;split at e
 .cases e
  obtain⟨v,rfl,g⟩:=ba.p3 h;obtain⟨a,b,rfl,r,c⟩:=b_.p3 g;exact⟨a,b,rfl,.inl r,by rw[<-c.f5];exact k _ H (To.refl fr) rfl⟩
 .cases e
  obtain⟨v,rfl,g⟩:=ba.p3 h;obtain⟨a,b,rfl,r,c⟩:=b_.f5 g;exact⟨a,b,rfl,.inr r,by rw[<-c.f5];exact k _ H (To.refl fr) rfl⟩
 .cases e
noncomputable def vX:a0e->a0k
 |[.n i,.n j]=>My<|.n (if j<i then j else i)
 |_=>M0
noncomputable def vZ:a0e->a0k
 |[.n i,.n j]=>My<|.n (if j>i then j else i)
 |_=>M0
theorem zi:fX K (λa H Q=>∃i j,a=[.n i,.n j]/\Q (.n (if j<i then j else i)) H) vX:=λF H f Q n d p fr h e k=>by
 unfold vX at e;split at e
 .cases e
  obtain⟨v,w,rfl,g,b⟩:=ba.two h;cases g.int;cases b.int;exact⟨_,_,rfl,k _ H (To.refl fr) rfl⟩
 .cases e
theorem zj:fX K (λa H Q=>∃i j,a=[.n i,.n j]/\Q (.n (if j>i then j else i)) H) vZ:=λF H f Q n d p fr h e k=>by
 unfold vZ at e;split at e
 .cases e
  obtain⟨v,w,rfl,g,b⟩:=ba.two h;cases g.int;cases b.int;exact⟨_,_,rfl,k _ H (To.refl fr) rfl⟩
 .cases e
noncomputable def cU:a0e->Option a0b
 |[]=>My []
 | .n i::r=>(cU r).map (i::·)
 |_=>M0
theorem gx:∀{a:a0e} {b:a0b},cU a=My b->a=b.map D.n
 |[],b,h=>by cases h;rfl
 |d::a,b,h=>by
  cases d with
  |n i=>
   unfold cU at h;cases q:cU a with
   |none=>rw[q]at h;cases h
   |some c=>rw[q]at h;cases h;rw[gx q];rfl
  |_=>cases h
def EK:a0e->a0k
 |[.l xs]=>(cU xs).map λa=> .n a.sum
 |_=>M0
theorem Mb:fX K (λf H Q=>∃(a:M6) (b:a0b),f=[.r a]/\en K H a (b.map V.n)/\Q (.n b.sum) H) EK:=λF H n Q p d x fr h e k=>by
 unfold EK at e;split at e
 .rename_i f
  cases q:cU f with
  |none=>rw[q]at e;cases e
  |some b=>
   rw[q]at e;cases e;obtain⟨v,rfl,g⟩:=ba.p3 h;obtain⟨a,D,rfl,r,c⟩:=b_.p3 g;rw[gx q]at c;have i:=ba.ints b c;subst i;exact⟨a,b,rfl,r,k _ H (To.refl fr) rfl⟩
 .cases e
noncomputable def dS:a0e->a0k
 |[.l xs]=>My<|.l xs
 |[.t xs]=>My<|.l xs
 |_=>M0
theorem fJ:fX K (λb H Q=>∃p f,b=[.r p]/\(en K H p f\/hU K H p f)/\∀l,H l=M0->Q (.r l) (upd H l<|.l f)) dS:=λF H n Q x d D fr h e k=>by
 unfold dS at e;split at e
 .cases e
  obtain⟨v,rfl,g⟩:=ba.p3 h;obtain⟨a,b,rfl,r,i⟩:=b_.p3 g;exact⟨a,b,rfl,.inl r,λl c=>k _ _ (fr.upd _ c)<|b_.newL fr c i⟩
 .cases e
  obtain⟨v,rfl,g⟩:=ba.p3 h;obtain⟨a,b,rfl,r,i⟩:=b_.f5 g;exact⟨a,b,rfl,.inr r,λl c=>k _ _ (fr.upd _ c)<|b_.newL fr c i⟩
 .cases e
noncomputable def AE:a0e->a0k
 |[.l xs]=>My<|.t xs
 |[.t xs]=>My<|.t xs
 |_=>M0
theorem xV:fX K (λb H Q=>∃p f,b=[.r p]/\((en K H p f/\∀l,H l=M0->Q (.r l) (upd H l<|.t f))\/(hU K H p f/\Q (.r p) H))) AE:=λF H n Q x d D fr h e k=>by
 unfold AE at e;split at e
 .cases e
  obtain⟨v,rfl,g⟩:=ba.p3 h;obtain⟨a,b,rfl,r,c⟩:=b_.p3 g;exact⟨a,b,rfl,.inl ⟨r,λl i=>k _ _ (fr.upd _ i)<|b_.newT fr i c⟩⟩
 .cases e
  obtain⟨v,rfl,g⟩:=ba.p3 h;obtain⟨a,b,rfl,r,c⟩:=b_.f5 g;exact⟨a,b,rfl,.inr ⟨r,k _ H (To.refl fr) g⟩⟩
 .cases e
noncomputable def asB:D->a0K
 | .c b=>My b
 |_=>M0
theorem jI{b:Bool}(h:asB d=My b):d= .c b:=by cases d<;>first|(cases h;rfl)|cases h
noncomputable def EE:D->a0K
 | .o=>My M5
 | .c b=>My b
 | .n i=>My<|i !=0
 | .l xs=>My<|!xs.isEmpty
 | .t xs=>My<|!xs.isEmpty
 |_=>M0
def fB(f:FD):Dn->M Bool:=λa=>M.v (f a) λd=>M.f<|asB d
def se(f:FD):Dn->M Bool:=λa=>M.v (f a) λd=>M.f<|EE d
def je(f g:a0m):Dn->M Bool:=λa=>M.v (f a) λc=>if c=M3 then g a else M.f5 M5
def jF(f g:a0m):Dn->M Bool:=λa=>M.v (f a) λc=>if c=M3 then M.f5 M3 else g a
def zF(f:a0m):Dn->M Bool:=λa=>M.v (f a) λc=>M.f5<|!c
def sf(f g:FD):FD:=λa=>M.v (f a) λd=>M.v (M.f<|asB d) λc=>if c=M3 then g a else M.f5 (.c M5)
def zG(f:FD):FD:=λa=>M.v (f a) λd=>M.v (M.f<|asB d) λc=>M.f5<|.c<|!c
def V_(t:a0m)(f g:FD):FD:=λa=>M.v (t a) λc=>if c=M3 then f a else g a
def qX(o d:a0Z)(f g h:FD):FD:=λe=>M.v (f e) λa=>M.v (g e) λb=>M.v (M.f<|o a b) λz=>M.v (M.f<|asB z) λc=>if c=M3 then M.v (h e) (λw=>M.f<|d b w)else M.f5 (.c M5)
variable{c:Expr}{rest:List Expr}
theorem M.ofO_bind{b d:Type}{o:Option b}{k:b->M d}{c:Bg}{z:Except M6 d×Bg}(h:M.v (M.f o) k c=My z):∃a,o=My a/\k a c=My z:=by
 cases o with
 |none=>cases h
 |some a=>exact⟨a,rfl,h⟩
theorem run.f5{b g i:Type}{R:Hp->g->i->Prop}{F:Fx}{j:St}{o:Option b}{k:b->M g}{H:Hp}{Q:i->Hp->Prop}{c:Bg}(h:run R F E j (M.v (M.f o) k) H Q c):∃a,o=My a/\run R F E j (k a) H Q c:=by
 obtain⟨r,d,e,h⟩:=h;obtain⟨a,q,e⟩:=M.ofO_bind e;exact⟨a,q,r,d,e,h⟩
theorem run.bOk{F:Fx}{H:Hp}(fr:Fr F H g)(c:b_ K F H d v)(h:run (λ_ (a b:Bool)=>b=a) F E i (M.f<|asB d) H Q g):∃k,v= .c k/\Q k H:=by
 obtain⟨b,e,k⟩:=run.p3 h;rw[jI e]at c;exact⟨b,c,k b H (To.refl fr) rfl⟩
theorem oZ{f:FD}{H:Hp}(h:gt K (fB f) E l H Q):tV K f E l H λx g=>∃k,x= .c k/\Q k g:=by
 obtain⟨F,a,b,fr,i,h⟩:=h;exact⟨F,a,b,fr,i,(run.bind (R:=b_ K F) h).mono λv p j=>nS j λd c t e n=>run.bOk t.fr e n⟩
theorem aL{f g:FD}(d:f0 X (OP op) r)(l:bq X.K r o)(c:PE X a<|tV X.K f E)(i:PE X b<|tV X.K g E)(e:SK op b=M5:=by first|exact vT _|rfl):PT X (.Compare a [op] [b] O) (gt X.K (fB (f2 o f g)) E):=
 (xC d c i e).imp λj H Q h=>pX l<|oZ h
theorem AK{f g h:FD}(l:bq K r o)(P:bq K r' s){H:Hp}(y:tV K (qX o s f g h) E σ H Q):AL r r' (tV K f E) (tV K g E) (tV K h E) σ H Q:=by
 obtain⟨F,b,G,fr,A,y⟩:=y;refine⟨F,b,G,fr,A,(run.bind (R:=b_ K F) y).mono λv H1 i=>nS i λd n t S V=>⟨F,b,n,t.fr,A.tr<|t.tr fr,(run.bind (R:=b_ K F) V).mono λL T i=>nS i λp a t2 j U=>?_⟩⟩;obtain⟨z,N,W⟩:=run.f5 U;obtain⟨c,Y,u⟩:=run.f5 W;rw[jI Y]at N;refine l F T a _ d p _ v L t2.fr (b_.tr (t2.tr t.fr) _ _ S) j N λvz O t3 Z=>⟨c,Z,?_⟩;cases c with
 |true=>
  rw[Ng rfl]at u;refine⟨F,b,a,t3.fr,A.tr<|(t.tr fr).trans<|(t2.tr t.fr).trans<|t3.tr t2.fr,?_⟩;have X:run (b_ K F) F E σ (M.v (h b) λw=>M.f<|s p w) O Q a:=by
   obtain⟨B,m,e,q⟩:=u;refine⟨B,m,e,?_⟩;cases B with
   |ok d=>exact λv I x=>q v I<|t3.trans x
   |error C=>exact λI x=>q I<|t3.trans x
  refine(run.bind (R:=b_ K F) X).mono λw H4 i=>nS i λdw D t4 J r6=>?_;obtain⟨d3,e3,k⟩:=run.p3 r6;exact P F H4 D Q p dw d3 L w t4.fr (b_.tr ((t3.tr t2.fr).trans<|t4.tr t3.fr) _ _ j) J e3 k
 |false=>
  rw[Nf Nb]at u;obtain⟨B,m,e,q⟩:=u;cases e;exact q _ O t3 rfl
theorem rE{f g h:FD}(i:f0 X (OP op) r)(d:f0 X (OP s) v)(l:bq X.K r o)(j:bq X.K v w)(e:PE X a<|tV X.K f E)(m:PE X b<|tV X.K g E)(t:PE X c<|tV X.K h E)(k:XT [op,s] [b,c]=M5:=by with_unfolding_all rfl):
  PT X (.Compare a [op,s] [b,c] O) (gt X.K (fB<|qX o w f g h) E):=(EX i d e m t k).imp λu H Q q=>AK l j<|oZ q
theorem HC{F:Fx}{H:Hp}{k:Bool}(h:EE d=My k)(c:b_ K F H d v):Gq K v H k:=by
 cases d with
 |o=>cases h;cases c.non;rfl
 |c b=>cases h;cases c.bl;rfl
 |n i=>cases h;cases c.int;rfl
 |l xs=>
  cases h;obtain⟨a,e,rfl,r,g⟩:=b_.p3 c;refine .inl ⟨e,r,?_⟩;have:=g.f5;cases xs<;>cases e<;>first|rfl|(simp at this)
 |t xs=>
  cases h;obtain⟨a,e,rfl,r,g⟩:=b_.f5 c;refine .inr ⟨e,r,?_⟩;have:=g.f5;cases xs<;>cases e<;>first|rfl|(simp at this)
 |_=>cases h
theorem nK{f:FD}(b:PE X a<|tV X.K f E)(j:∀g,isTrue a X.e g=(do let v <-g;Sg a.pos;Ti [v] (truthy v)):=by intro _;rfl):PT X a (gt X.K (se f) E):=
 (EW b j).imp λm H Q i=>ix i λF c n fr l h=>⟨F,c,n,fr,l,(run.bind (R:=b_ X.K F) h).mono λv p i=>by
  obtain⟨d,x,t,D,G⟩:=i;obtain⟨k,e,q⟩:=run.p3 G;exact⟨k,HC e D,q k p (To.refl t.fr) rfl⟩⟩
theorem nM{f:a0m}(c:PT X a<|gt X.K f E):PT X (.UnaryOp .Not a O) (gt X.K (zF f) E):=
 (JQ c).imp λj H Q g=>ix g λF e k fr i h=>⟨F,e,k,fr,i,(run.bind (R:=λ_ (a b:Bool)=>b=a) h).mono λv D g=>by
  obtain⟨d,n,t,p,x⟩:=g;subst p;exact run.ret t.fr x rfl⟩
theorem HG{f g:a0m}{H:Hp}(h:gt K (je f g) E l H Q):Ju (gt K f E) (gt K g E) l H Q:=by
 obtain⟨F,k,n,fr,i,h⟩:=h;refine⟨F,k,n,fr,i,(run.bind (R:=λ_ (a b:Bool)=>b=a) h).mono λv x j=>nS j λd e t p c=>?_⟩;subst p;cases v with
 |true=>rw[Ng rfl]at c⊢;exact⟨F,k,e,t.fr,i.tr<|t.tr fr,c⟩
 |false=>rw[Nf Nb]at c⊢;exact run.ret t.fr c rfl
theorem Jn{f g:a0m}{H:Hp}(h:gt K (jF f g) E l H Q):tOr (gt K f E) (gt K g E) l H Q:=by
 obtain⟨F,k,n,fr,i,h⟩:=h;refine⟨F,k,n,fr,i,(run.bind (R:=λ_ (a b:Bool)=>b=a) h).mono λv x j=>nS j λd e t p c=>?_⟩;subst p;cases v with
 |false=>rw[Nf Nb]at c⊢;exact⟨F,k,e,t.fr,i.tr<|t.tr fr,c⟩
 |true=>rw[Ng rfl]at c⊢;exact run.ret t.fr c rfl
theorem pT{f:a0m}(b:PT X a<|gt X.K f E):PW X (.BoolOp .And [a] O) (gt X.K f E):=HV b
theorem kX{f:a0m}(b:PT X a<|gt X.K f E):PW X (.BoolOp .Or [a] O) (gt X.K f E):=JN b
theorem pU{f g:a0m}(c:PT X a<|gt X.K f E)(d:PW X (.BoolOp .And (b::rest) O)<|gt X.K g E):PW X (.BoolOp .And (a::b::rest) O) (gt X.K (je f g) E):=(JO c d).imp λ_ _ _=>HG
theorem kg{f g:a0m}(c:PT X a<|gt X.K f E)(d:PW X (.BoolOp .Or (b::rest) O)<|gt X.K g E):PW X (.BoolOp .Or (a::b::rest) O) (gt X.K (jF f g) E):=(LR c d).imp λ_ _ _=>Jn
theorem fm{e:Expr}{f:a0m}(h:PW X e<|gt X.K f E):PT X e (gt X.K f E):=PW.pt h
theorem Lu{op}{f:FD}(h:PE X a<|tV X.K f E):PE X (.BoolOp op [a] O) (tV X.K f E):=J3 h
theorem run.asB{F:Fx}{k:Bool->M D}{H:Hp}(a:b_ K F H d v)(h:run (b_ K F) F E g (M.v (M.f<|asB d) k) H Q i):∃c,v= .c c/\run (b_ K F) F E g (k c) H Q i:=by
 obtain⟨c,e,h⟩:=run.f5 h;rw[jI e]at a;exact⟨c,a,h⟩
theorem Lx{f g:FD}(p:PE X a<|tV X.K f E)(m:PE X (.BoolOp .And (b::rest) O)<|tV X.K g E):PE X (.BoolOp .And (a::b::rest) O) (tV X.K (sf f g) E):=
 (J6 p m).imp λo H Q j=>ix j λF n x fr l h=>⟨F,n,x,fr,l,(run.bind (R:=b_ X.K F) h).mono λv M j=>by
  obtain⟨d,k,t,D,G⟩:=j;obtain⟨c,e,i⟩:=run.asB D G;refine⟨c,e,?_⟩;cases c with
  |true=>rw[Ng rfl]at i⊢;exact⟨F,n,k,t.fr,l.tr<|t.tr fr,i⟩
  |false=>rw[Nf Nb]at i⊢;exact run.ret t.fr i rfl⟩
theorem Lw{f:FD}(b:PE X a<|tV X.K f E):PE X (.UnaryOp .Not a O) (tV X.K (zG f) E):=
 (J4 b).imp λl H Q g=>ix g λF k n fr i h=>⟨F,k,n,fr,i,(run.bind (R:=b_ X.K F) h).mono λv G g=>by
  obtain⟨d,p,t,x,D⟩:=g;obtain⟨c,e,j⟩:=run.asB x D;exact⟨c,e,run.ret t.fr j rfl⟩⟩
theorem Y9{f g:FD}(l:PT X c<|gt X.K t E)(p:PE X a<|tV X.K f E)(m:PE X b<|tV X.K g E):PE X (.IfExp c a b O) (tV X.K (V_ t f g) E):=
 (Fa l p m).imp λo H Q i=>ix i λF n x fr j h=>⟨F,n,x,fr,j,(run.bind (R:=λ_ (a b:Bool)=>b=a) h).mono λv G i=>by
  obtain⟨d,e,t,D,k⟩:=i;subst D;cases v with
  |true=>rw[Ng rfl]at k⊢;exact⟨F,n,e,t.fr,j.tr<|t.tr fr,k⟩
  |false=>rw[Nf Nb]at k⊢;exact⟨F,n,e,t.fr,j.tr<|t.tr fr,k⟩⟩
def r4(K:ND)(J:It)(F:Fx)(H:Hp)(b:a0e):Prop:=∀(h:Fx) (g:Hp) (a:Bg),Tr F H h g->Fr h g a->∀i,(∀d,b[i]?=My d->J.go i g/\∀x j,J.yld i g x j->bW g j/\b_ K h j d x)/\(i=Uc b->J.stop i g)
theorem r4.tr{K:ND}{F d:Fx}{H g:Hp}(t:Tr F H d g)(h:r4 K J F H ds):r4 K J d g ds:=λi j a t3 fr=>h i j a (t.trans t3) fr
def iV(K:ND)(f:FL)(E:a0r):TI:=λd H R=>∃F a b,Fr F H b/\hY K F H a d/\run (λg (c:a0e) (J:It)=>r4 K J F g c) F E d (f a) H R b
theorem _root_.L2.PI.imp{X:Cx}{a e:Expr}(h:PI X a e t)(f:∀d H Q,i d H Q->t d H Q):PI X a e i:=λg s d H Q I q=>h g s d H Q I<|f d H Q q
variable{tg:Expr}
def ZX(K:ND)(e:TE):TI:=λd H R=>e d H λx b=>(∃a,x= .r a/\(∃c,en K b a c)/\R (Yz K a) b)\/(∃a,x= .r a/\(∃c,hU K b a c)/\R (Itt K a) b)
theorem JZ(r:PE X l tl):PI X tg l (ZX X.K tl):=by
 intro g s t H R I h;refine dy (r g s t H _ I h) λv d ⟨x,f,i,k,n⟩=>?_;have j:∀b∈[d.heap.objs.size],fZ X g f b:=λb u=>by
  obtain rfl:b=d.heap.objs.size:=by simpa using u
  exact i.fpOk (Nh _)<|i.hok.fresh<|Nh _
 rcases n with⟨a,e,⟨D,m⟩,q⟩|⟨a,e,⟨D,m⟩,q⟩
 .subst e
  cases k;obtain⟨c,w,p,y⟩:=i.list m;exact TL p.isList ⟨d.heap.objs.size,[d.heap.objs.size],_,_,f,rfl,i.kept (t':=d.toks) λb o e=>M4 _ e,sQ a _,⟨_,NA _ rfl,rfl,rfl⟩,j,q⟩
 .subst e
  cases k;obtain⟨c,w,p,y⟩:=i.tuple m;exact Tw (show d.heap.IsTuple a c.toArray from p) ⟨d.heap.objs.size,[d.heap.objs.size],_,_,f,rfl,i.kept (t':=d.toks) λb o e=>M4 _ e,yA a _,⟨_,NA _ rfl,rfl,rfl⟩,j,q⟩
theorem FO{F:Fx}{H:Hp}{a:M6}(h:b_ K F H (.l s)<|.r a):r4 K (Yz K a) F H s:=λq r n t fr i=>by
 have m:=b_.tr t _ _ h;obtain⟨u,b,e,c,g⟩:=b_.p3 m;cases e;refine⟨λd k=>?_,λo=>⟨b,c,by rw[<-g.f5,o];exact Nh _⟩⟩;obtain⟨x,p,_⟩:=g.get k;refine⟨⟨b,x,c,p⟩,λy v f=>?_⟩;obtain⟨rfl,f⟩:=f;obtain⟨D,l,j⟩:=g.getV<|f b c;rw[k]at l;cases l;exact⟨bW.refl _,j⟩
theorem IH{F:Fx}{H:Hp}{a:M6}(h:b_ K F H (.t s)<|.r a):r4 K (Itt K a) F H s:=λq r n t fr i=>by
 have m:=b_.tr t _ _ h;obtain⟨u,b,e,c,g⟩:=b_.f5 m;cases e;refine⟨λd k=>?_,λo=>⟨b,c,by rw[<-g.f5,o];exact Nh _⟩⟩;obtain⟨x,p,_⟩:=g.get k;refine⟨⟨b,x,c,p⟩,λy v f=>?_⟩;obtain⟨rfl,f⟩:=f;obtain⟨D,l,j⟩:=g.getV<|f b c;rw[k]at l;cases l;exact⟨bW.refl _,j⟩
def bM(f:FD):FL:=λa=>M.v (f a) λd=>M.f<|gi d
theorem bj{f:FD}(i:PE X l<|tV X.K f E):PI X tg l (iV X.K (bM f) E):=
 (JZ i).imp λo H R g=>ix g λF x D fr j h=>⟨F,x,D,fr,j,(run.bind (R:=b_ X.K F) h).mono λv p g=>by
  obtain⟨d,G,t,b,M⟩:=g;obtain⟨O,e,k⟩:=run.p3 M;cases d<;>first
   |(cases e;obtain⟨a,c,rfl,n,m⟩:=b_.p3 b;exact .inl ⟨a,rfl,⟨c,n⟩,k _ p (To.refl t.fr) (FO b)⟩)
   |(cases e;obtain⟨a,c,rfl,n,m⟩:=b_.f5 b;exact .inr ⟨a,rfl,⟨c,n⟩,k _ p (To.refl t.fr) (IH b)⟩)
   |cases e⟩
noncomputable def bi(a:Int)(n:Nat):a0e:=(Nj n).map λ(i:Nat)=> .n<|a+(i:Int)
theorem tW{F:Fx}{H:Hp}{b:Int}{n:Nat}:r4 K (Yy b n) F H (bi b n):=λl m c t fr i=>by
 refine⟨λd a=>?_,λg=>?_⟩
 .unfold bi at a
  have g:i<n:=by
   have:=(Nd.mp a).1;simpa using this
  rw[Nk,PM g]at a;cases a;exact⟨g,λx o ⟨h,j⟩=>by subst h j;exact⟨bW.refl _,rfl⟩⟩
 .show n<=i
  rw[g];simp[bi]
def cQ:a0e->a0x
 |[.n j]=>if(decide (-(2^62)<=j)&&decide (j<2^62))=M3 then My (bi 0 j.toNat)else M0
 |_=>M0
def o8:a0e->a0x
 |[.n i,.n j]=>if(decide (-(2^62)<=i)&&decide (i<2^62)&&decide (-(2^62)<=j)&&decide (j<2^62))=M3 then My (bi i (j-i).toNat)else M0
 |_=>M0
def bP(a:a0e->a0x)(g:FL):FL:=λb=>M.v (g b) λc=>M.f<|a c
theorem bN{a:Expr}{p O:RV}(j:Gl X "range")(b:X.mg "range"=M0)(c:PA X [a]<|h8 X.K g E)(f:Nr [a] X.e=[(M5,OS a X.e)]:=by rfl):PI X tg (.Call (.Name "range" p) [a] [] O) (iV X.K (bP cQ g) E):=
 (BV j b c f).imp λq H R d=>ix d λF n x fr m h=>⟨F,n,x,fr,m,(run.bind (R:=ba X.K F) h).mono λU D d=>by
  obtain⟨V,G,t,M,S⟩:=d;obtain⟨l,e,k⟩:=run.p3 S;unfold cQ at e;split at e
  .split at e
   .rename_i i
    cases e;simp only[NN,NR]at i;obtain⟨v,rfl,o⟩:=ba.p3 M;cases o.int;exact⟨_,rfl,i.1,i.2,k _ D (To.refl t.fr) tW⟩
   .cases e
  .cases e⟩
theorem wl{a b:Expr}{p O:RV}(m:Gl X "range")(c:X.mg "range"=M0)(f:PA X [a,b]<|h8 X.K g E)(n:Nr [a,b] X.e=[(M5,OS a X.e),(M5,OS b X.e)]:=by rfl)(i:Nr [b] X.e=[(M5,OS b X.e)]:=by rfl):PI X tg (.Call (.Name "range" p) [a,b] [] O) (iV X.K (bP o8 g) E):=
 (BU m c f n i).imp λu H R j=>ix j λF x D fr o h=>⟨F,x,D,fr,o,(run.bind (R:=ba X.K F) h).mono λV G j=>by
  obtain⟨W,M,t,S,U⟩:=j;obtain⟨l,e,k⟩:=run.p3 U;unfold o8 at e;split at e
  .split at e
   .rename_i d
    cases e;simp only[NN,NR]at d;obtain⟨v,w,rfl,q,r⟩:=ba.two S;cases q.int;cases r.int;exact⟨_,_,rfl,⟨d.1.1.1,d.1.1.2,d.1.2,d.2⟩,k _ G (To.refl t.fr) tW⟩
   .cases e
  .cases e⟩
abbrev ky:=D->Dn->Option Dn
abbrev jJ:=a0e->Dn->Option Dn
def cF(K:ND)(g:TG)(tg:ky):Prop:=∀(F:Fx) (H:Hp) (b a:Dn) (i:St) (d:D) (v:V) (Q:a0F),hY K F H b i->b_ K F H d v->tg d b=My a->(∀h,hY K F H a h->Q h H)->g v i H Q
def rm(K:ND)(g:A_)(tg:jJ):Prop:=∀(F:Fx) (H:Hp) (b a:Dn) (h:St) (c:a0e) (e:a0i) (Q:a0F),hY K F H b h->ba K F H c e->tg c b=My a->(∀d,hY K F H a d->Q d H)->g e h H Q
noncomputable def ej(i:Nat):ky:=λd a=>if(a.getD i<|My .o).isNone then My (a.set i<|My d)else M0
noncomputable def kh:jJ:=λa b=>match a with
 |[]=>My b
 |_=>M0
noncomputable def fj(t:ky)(u:jJ):jJ:=λb c=>match b with
 |[]=>M0
 |d::r=>(t d c).bind λa=>u r a
noncomputable def xr(t:jJ):ky:=λd a=>match d with
 | .t ds=>t ds a
 |_=>M0
theorem vg{b a:Dn}(h:ej i d b=My a):b[i]?=My M0/\a=b.set i (My d):=by
 unfold ej at h;split at h
 .rename_i q
  cases h;refine⟨?_,rfl⟩;rw[Nz]at q;cases e:b[i]? with
  |none=>rw[e]at q;cases q
  |some z=>
   rw[e]at q;cases z with
   |none=>rfl
   |some w=>cases q
 .cases h
theorem aw:cF K (fi i) (ej i):=λF H c a h d v Q g b e k=>by
 obtain⟨_,rfl⟩:=vg e;exact k _<|g.set b
theorem c5:rm K gNil kh:=λF H f a g b n Q d c e k=>by
 cases b with
 |nil=>cases e;exact⟨c,k _ d⟩
 |cons _ _=>cases e
theorem bh(m:cF K t s)(o:rm K u uf):rm K (zy t u) (fj s uf):=λF H b a v c p Q w f e k=>by
 cases c with
 |nil=>cases e
 |cons d r=>
  obtain⟨x,l,rfl,n,y⟩:=f;have h:(s d b).bind (λa=>uf r a)=My a:=e;cases q:s d b with
  |none=>rw[q]at h;cases h
  |some g=>
   rw[q]at h;exact⟨x,l,rfl,m F H b g v d x _ w n q λi j=>o F H g a i r l Q j y h k⟩
theorem ef{n:Nat}(h:rm K t l)(x:∀f c b,l f c=My b->Uc f=n):cF K (FW K n t) (xr l):=λF H c b i d v Q j D e k=>by
 cases d<;>first
  |(obtain⟨a,p,rfl,E,g⟩:=b_.f5 D;exact⟨a,p,rfl,E,by rw[<-g.f5];exact x _ _ _ e,h F H c b i _ p Q j g e k⟩)
  |cases e
theorem cw:∀b c a,kh b c=My a->Uc b=0:=λb c a h=>by
 cases b with
 |nil=>rfl
 |cons _ _=>cases h
theorem aZ{n:Nat}(h:∀b c a,u b c=My a->Uc b=n):∀b c a,fj t u b c=My a->Uc b=n+1:=λb c a e=>by
 cases b with
 |nil=>cases e
 |cons d r=>
  have g:(t d c).bind (λa=>u r a)=My a:=e;cases q:t d c with
  |none=>rw[q]at g;cases g
  |some i=>rw[q]at g;rw[Np,h _ _ _ g]
def dO(tg:ky):Prop:=∀d b a,tg d b=My a->Sub b a/\Uc b=Uc a
def u5(tg:jJ):Prop:=∀d b a,tg d b=My a->Sub b a/\Uc b=Uc a
theorem ax:dO (ej i):=λd b a e=>by
 obtain⟨q,rfl⟩:=vg e;refine⟨λj c g=>?_,by rw[N9]⟩;rw[OO];by_cases z:i=j
 .subst z;rw[q]at g;cases g
 .rw[Nf z];exact g
theorem cY:u5 kh:=λa c b e=>by
 cases a with
 |nil=>cases e;exact⟨λ_ _ h=>h,rfl⟩
 |cons _ _=>cases e
theorem bf(j:dO t)(l:u5 u):u5 (fj t u):=λf b a e=>by
 cases f with
 |nil=>cases e
 |cons d r=>
  have g:(t d b).bind (λa=>u r a)=My a:=e;cases q:t d b with
  |none=>rw[q]at g;cases g
  |some m=>
   rw[q]at g;obtain⟨k,n⟩:=j _ _ _ q;obtain⟨p,o⟩:=l _ _ _ g;exact⟨λi c h=>p i c<|k i c h,n.trans o⟩
theorem d6(h:u5 t):dO (xr t):=λd b a e=>by
 cases d<;>first|exact h _ _ _ e|cases e
structure my (F:Fx) (D:M6) (H H':Hp) (β':Bg):Prop where
 kp:∀a o,H a=My o->a≠D->(∀b l,F.bg=My (b,l)->a≠b/\a≠l)->H' a=My o
 fr:Fr F H' β'
theorem my.trans{F:Fx}{D:M6}{H H1 d:Hp}(a:my F D H H1 β1)(b:my F D H1 d g):my F D H d g:=⟨λx o h n m=>b.kp x o (a.kp x o h n m) n m,b.fr⟩
theorem To.toD{F:Fx}{H d:Hp}(t:To F H d g)(D:M6):my F D H d g:=⟨λa o h _ m=>t.kp a o h m,t.fr⟩
theorem my.tr{F:Fx}{D:M6}{H d:Hp}(fr:Fr F H j)(g:F.A D)(t:my F D H d i):Tr F H F d:=
 ⟨λ_ h _=>h,λa o h e=>t.kp a o e (λz=>h<|z▸g) λb l q=>⟨λz=>h<|z▸(fr.bgA b l q).1,λz=>h<|z▸(fr.bgA b l q).2.1⟩,rfl⟩
structure AR where
 R:Fx->Hp->M6->List Pu.D->Prop
 Z:List Pu.D->Prop
 tr:∀{F F2:Fx} {H H':Hp} {D:M6} {as:List Pu.D},R F H D as->(∀o,H D=My o->H' D=My o)->Tr F H F2 H'->R F2 H' D as
 zp:∀{as os:List Pu.D},Z (as++os)->Z as
noncomputable def RL(K:ND):AR where
 R:=λF H D b=>∃a,H D=My (.l a)/\ba K F H b a
 Z:=λl=>Uc l<=Nw
 tr:=λh k t=>by
  obtain⟨a,d,g⟩:=h;exact⟨a,k _ d,ba.tr t _ _ g⟩
 zp:=λh=>by rw[Ni]at h;lia
def fK(K:ND)(R:AR)(D:M6)(i:TB)(f:Dn->M (List Pu.D)):Prop:=∀(F:Fx) (H:Hp) (c:Dn) (n d:Bg) (h:St) (e k:List Pu.D) (Q:a0F),Fr F H n->F.A D->(∀b l,F.bg=My (b,l)->D≠b/\D≠l)->hY K F H c h->R.R F H D e->
 f c n=My (.ok k,d)->R.Z (e++k)->(∀g a,my F D H a d->hY K F a c g->R.R F a D (e++k)->Q g a)->i h H Q
abbrev jf(K:ND):=fK K<|RL K
def hL(f:Dn->M Pu.D):Dn->M (List Pu.D):=λa=>M.v (f a) λd=>M.f5 [d]
theorem M.p3{c g:Type}{m:M c}{k:c->M g}{f d:Bg}{r:g}(h:M.v m k f=My (.ok r,d)):∃a b,m f=My (.ok a,b)/\k a b=My (.ok r,d):=by
 unfold M.v at h;split at h
 .cases h
 .cases h
 .rename_i a b e
  exact⟨a,b,e,h⟩
theorem E0.run{b i:Type}{R:Hp->b->i->Prop}{F:Fx}{j:St}{m:M b}{H:Hp}{Q:i->Hp->Prop}{c d:Bg}{a:b}(e:m c=My (.ok a,d))(h:∀v g,To F H g d->R g a v->Q v g):run R F E0 j m H Q c:=⟨.ok a,d,e,h⟩
theorem aS{D:M6}{f:Dn->M Pu.D}:jf K D (zS D<|tV K f E0) (hL f):=λF H G O g u S V Q fr w i m y e A k=>by
 obtain⟨c,B,x⟩:=y;obtain⟨d,U,C,I⟩:=M.p3 e;cases I;refine⟨F,G,O,fr,m,E0.run C λv E t J=>?_⟩;have j:=t.kp D _ B i;have L:=ba.tr (t.tr fr) _ _ x;refine⟨c,j,by rw[<-x.f5];have:=(show(S++[d]).length<=Nw from A);simp at this;lia,?_⟩;have r:my F D E (upd E D<|.l<|c++[v]) g:=by
  refine⟨λa o h n _=>by rw[bb n];exact h,λa h q=>?_,fr.bgA,λb l q=>?_⟩
  .by_cases z:a=D
   .subst z;rw[aq]at q;cases q
   .rw[bb z]at q;exact t.fr.occ a h q
  .rw[bb (i b l q).1.symm,bb (i b l q).2.symm]
   exact t.fr.bag b l q
 have p:=r.tr t.fr w;exact k u _ ((t.toD D).trans r) (m.tr<|(t.tr fr).trans p) ⟨_,aq,ba.append (ba.tr p _ _ L) ⟨v,[],rfl,b_.tr p _ _ J,rfl⟩⟩
def ko(tg:ky)(e:a0m)(b:Dn->M (List Pu.D)):List Pu.D->Dn->M (List Pu.D)
 |[],_=>M.f5 []
 |d::ds,δ=>match tg d δ with
  |none=>M.fail
  |some a=>M.v (e a) λc=>M.v (if c=M3 then b a else M.f5 []) λo=>M.v (ko tg e b ds δ) λf=>M.f5<|o++f
theorem oj{R:AR}{D:M6}{tg:ky}{b:Dn->M (List Pu.D)}(hg:cF K g tg)(sg:dO tg)(hb:fK K R D tb b){F:Fx}{H:Hp}{as os n:List Pu.D}(fr:Fr F H β)(hA:F.A D)(hn:∀b l,F.bg=My (b,l)->D≠b/\D≠l)(vk:hY K F H s σ)(hR:R.R F H D as)
  (it:r4 K J F H n) (e:ko tg tt b n s β=My (.ok os,β')) (hz:R.Z<|as++os) (k:∀j f,my F D H f β'->hY K F f s j->R.R F f D (as++os)->Q j f):dj J g (gt K tt E0) tb σ H Q:=by
 refine⟨λi m j f=>m+i=Uc n/\∃a r u,my F D H f a/\hY K F f s j/\R.R F f D r/\ko tg tt b (n.drop i) s a=My (.ok u,β')/\r++u=as++os,
  ⟨Uc n,by lia,β,as,os,⟨λ_ _ h _ _=>h,fr⟩,vk,hR,e,rfl⟩,?_⟩
 rintro i m j f ⟨hm,a,r,u,t1,y,B,t,W⟩;have Y:=t1.tr fr hA;obtain⟨iy,is⟩:=it F f a Y t1.fr i;cases O:n[i]? with
 |none=>
  have P:Uc n<=i:=Ta.mp O;rw[QK P]at t;cases t;refine .inl ⟨is (by lia),k j f t1 y ?_⟩;rw[<-W,NW];exact B
 |some d=>
  have P:i<Uc n:=(Nd.mp O).1;obtain⟨go,yl⟩:=iy d O;have ed:n.drop i=d::n.drop (i+1):=by
   rw[Ox P];congr 1;exact N0<|(M9 P).symm.trans O
  rw[ed]at t;unfold ko at t;cases q:tg d s with
  |none=>rw[q]at t;cases t
  |some p=>
   rw[q]at t;obtain⟨c,G,e2,e3⟩:=M.p3 t;obtain⟨o,E,T,e5⟩:=M.p3 e3;obtain⟨S,ad,e6,e7⟩:=M.p3 e5;cases e7;obtain⟨s1,s2⟩:=sg _ _ _ q;refine .inr ⟨go,λC U=>my F D H U E/\hY K F U s C/\R.R F U D (r++o),?_,λx V hy=>?_⟩
   .rintro C U ⟨t9,vk9,hR9⟩
    exact⟨m-1,by lia,by lia,E,r++o,S,t9,vk9,hR9,e6,by rw[Nm];exact W⟩
   .obtain⟨sm,dx⟩:=yl x V hy
    have t2:To F f V a:=t1.fr.same sm;have I:=t2.tr t1.fr;refine hg F V s p j d x _ (y.tr I) dx q λX v=>⟨F,p,a,t2.fr,v,E0.run e2 λc' H3 t3 ec=>?_⟩;subst ec;have w:=t3.tr t2.fr;have L:=R.tr B (λo z=>t3.kp D o (sm _ _ z) hn)<|I.trans w;have N:my F D H H3 G:=t1.trans<|(t2.trans t3).toD D;have aa:R.Z (r++o):=by
     rw[<-W,<-Nm]at hz;exact R.zp hz
    cases c' with
    |true=>
     rw[Ng rfl]at T⊢;refine hb F H3 p G E X r o _ t3.fr hA hn (v.tr w) L T aa λae H4 t4 ab ac=>?_;exact⟨N.trans t4,ab.sub s1 s2,ac⟩
    |false=>
     rw[Nf Nb]at T⊢;cases T;exact⟨N,(v.tr w).sub s1 s2,by rw[NW];exact L⟩
def uy(c:Dn->M (List Pu.D))(tg:ky)(e:a0m)(b:Dn->M (List Pu.D)):Dn->M (List Pu.D):=λa=>M.v (c a) λf=>ko tg e b f a
theorem pi{D:M6}{tg:ky}{b:Dn->M (List Pu.D)}(i:cF K g tg)(j:dO tg)(l:fK K R D s b):fK K R D (zR (iV K B E0) λJ=>dj J g (gt K C E0) s) (uy B tg C b):=λF H f n m A x E Q fr q a h r e u k=>by
 obtain⟨G,p,v,w⟩:=M.p3 e;refine⟨F,f,n,fr,h,E0.run v λJ c t y=>?_⟩;exact oj i j l t.fr q a (h.tr<|t.tr fr) (R.tr r (λo z=>t.kp D o z a)<|t.tr fr) y w u λd c t1=>k d c<|(t.toD D).trans t1
theorem xU{D:M6}{tg:ky}{b:Dn->M (List Pu.D)}(d:cF K g tg)(h:dO tg)(i:jf K D j b):jf K D (zR (iV K l E0) λJ=>dj J g (gt K m E0) j) (uy l tg m b):=pi d h i
noncomputable def io(nv:Nat)(bt:a0a)(δ:Dn):Dn:=NB nv M0++bt.map λj=>δ.getD j M0
def bY(nv:Nat)(bt:a0a)(it:Dn->M (List Pu.D))(tg:ky)(c:a0m)(b:Dn->M (List Pu.D)):Dn->M Pu.D:=λa e=>match it a e with
 |none=>M0
 |some (.error C,β1)=>My (.error C,β1)
 |some (.ok ds,β1)=>match ko tg c b ds (io nv bt a) β1 with
  |some (.ok os,β2)=>if Uc os<=Nw then My (.ok<|.l os,β2)else M0
  |_=>M0
theorem rb{F:Fx}{H:Hp}{a:a0g}(h:hY K F H r t):hY K F H (io (Uc a) s r) (kS a s t):=by
 refine⟨by simp[io,kS],λi d e=>?_⟩;unfold io at e;unfold kS;rw[Q9]at e⊢;rw[Pq]at e⊢;by_cases g:i<Uc a
 .rw[Ng g,Pz,Ng g]at e
  cases e
 .rw[Nf g,Nk]at e⊢
  cases q:s[i-Uc a]? with
  |none=>rw[q]at e;cases e
  |some j=>
   rw[q]at e;simp only[Pa,Wb]at e⊢;rw[Nz]at e;cases z:r[j]? with
   |none=>rw[z]at e;cases e
   |some w=>
    rw[z]at e;have l:w=My d:=e;subst l;obtain⟨v,m,o⟩:=h.tell j d z;exact⟨v,by rw[Nz,m];rfl,o⟩
theorem vh{f:a0g}{k:a0a}{p:Dn->M (List Pu.D)}{g:TG}{tg:ky}{G:a0m}{N:a0Y}{b:Dn->M (List Pu.D)}(U:cF K g tg)(W:dO tg)(Y:∀D,jf K D (N D) b){O:St}{H:Hp}{Q:VK}(h:tV K (bY (Uc f) k p tg G b) E O H Q):
  pY f k (iV K p E) (λD J=>dj J g (gt K G E0)<|N D) O H Q:=by
 obtain⟨F,S,V,fr,P,r,u,e,h⟩:=h;unfold bY at e;refine⟨F,S,V,fr,P,?_⟩;split at e
 .cases e
 .rename_i C β1 q
  cases e;exact⟨.error C,_,q,h⟩
 .rename_i ds β1 q
  split at e
  .rename_i os β2 q2
   split at e
   .rename_i Z
    cases e;refine⟨.ok ds,β1,q,λJ c t X D i=>?_⟩;have d:¬F.A D:=t.fr.fresh i;have s:∀b l,F.bg=My (b,l)->D≠b/\D≠l:=λb l z=>⟨λw=>d<|w▸(fr.bgA b l z).1,λw=>d<|w▸(fr.bgA b l z).2.1⟩;have t2:=t.fr.upd (.l []) i;have v:Fr ⟨λa=>F.A a\/a=D,F.bg⟩ (upd c D<|.l []) β1:=by
     refine⟨λa ha z=>?_,λb l z=>let ⟨x,y,w⟩:=fr.bgA b l z;⟨.inl x,.inl y,w⟩,t2.fr.bag⟩
     rcases ha with ha|ha
     .exact t2.fr.occ a ha z
     .subst ha;rw[aq]at z;cases z
    have j:Tr F c ⟨λa=>F.A a\/a=D,F.bg⟩ (upd c D<|.l []):=⟨λa ha hs z=>by
     rcases z with z|z
     .exact ha z
     .subst z;exact hs i,λa o ha z=>by rw[bb<|bw z i];exact z,rfl⟩
    refine oj (R:=RL K) (D:=D) (as:=[]) (os:=os) U W (Y D) v (.inr rfl) s (rb<|P.tr<|(t.tr fr).trans j) ⟨[],aq,rfl⟩ (X.tr j) q2 (show Uc os<=Nw from Z) λaa T t3 ab B=>?_;obtain⟨m,I,L⟩:=B;have tf:To F c T u:=by
     refine⟨λa o z n=>t3.kp a o (by rw[bb<|bw z i];exact z) (bw z i) n,λa ha z=>t3.fr.occ a (PP ha) z,fr.bgA,t3.fr.bag⟩
    refine h _ T (t.trans tf) ⟨D,m,rfl,⟨d,.inl I⟩,ba.tr (F:=⟨λa=>F.A a\/a=D,F.bg⟩) ⟨λa ha _ z=>ha<|PP z,λa o _ z=>z,rfl⟩ _ _ L⟩
   .cases e
  .cases e
inductive Sl where
 |h (d:D)|u (ds:a0e)|grd (a_:a0o)|odc (b:Bool) (ks:List g8) (vs:a0e)
abbrev a0Q:=Option Sl
abbrev Ds:=List a0Q
inductive qv where
 |nx (δ:Ds)|rt (d:D)|bk (δ:Ds)|ct (δ:Ds)|ex (C:M6) (δ:Ds)|rg (a_:a0o)
abbrev a0A:=qv->Bg->Prop
abbrev G:=Ds->Bg->Option (qv×Bg)
abbrev Ow:=M6->a0H
noncomputable def d5(B:Ow)(b:a0s):Fx:=⟨λa=>B a≠M0,b⟩
noncomputable def j2(B:Ow)(b:a0s):Fx:=⟨λa=>B a=My 0\/B a=My 1,b⟩
def aU(K:ND)(F:Fx)(H:Hp)(P:M6->Prop):a0o->a0n->Prop
 |[],[]=>True
 |ds::a_,r::rs=>P r/\(∃a,H r=My (.l a)/\ba K F H ds a)/\aU K F H P a_ rs
 |_,_=>False
theorem aU.tr{K:ND}{F i:Fx}{H d:Hp}(t:Tr F H i d):∀{b:a0o} {a:a0n},aU K F H P b a->(∀r xs,r∈a->P r->H r=My (.l xs)->P2 r/\d r=My (.l xs))->aU K i d P2 b a
 |[],[],_,_=>trivial
 |ds::b,r::a,h,f=>by
  obtain⟨j,⟨xs,l,m⟩,o⟩:=h;obtain⟨p,q⟩:=f r xs M7 j l;exact⟨p,⟨xs,q,ba.tr t _ _ m⟩,aU.tr t o λu g v=>f u g<|M2 _ v⟩
 |[],_::_,h,_=>h.elim
 |_::_,[],h,_=>h.elim
theorem aU.all{K:ND}{F:Fx}{H:Hp}:∀{c:a0o} {a:a0n},aU K F H P c a->∀r∈a,P r/\∃b,H r=My (.l b)
 |[],[],_,r,hr=>by cases hr
 |ds::c,r0::a,h,r,hr=>by
  obtain⟨d,⟨b,g,j⟩,i⟩:=h;rcases Nn.mp hr with rfl|hr
  .exact⟨d,b,g⟩
  .exact aU.all i r hr
 |[],_::_,h,_,_=>h.elim
 |_::_,[],h,_,_=>h.elim
theorem aU.den{K:ND}{F d:Fx}{H:Hp}(t:Tr F H d H):∀{b:a0o} {a:a0n},aU K F H P b a->(∀r,r∈a->P r->¬d.A r)->ba K d H (b.map D.l) (a.map V.r)
 |[],[],_,_=>rfl
 |ds::b,r::a,h,f=>by
  obtain⟨g,⟨c,i,j⟩,l⟩:=h;exact ba.cons ⟨r,c,rfl,⟨f r M7 g,.inl i⟩,ba.tr t _ _ j⟩<|aU.den t l λm o=>f m<|M2 _ o
 |[],_::_,h,_=>h.elim
 |_::_,[],h,_=>h.elim
theorem aU.len{K:ND}{F:Fx}{H:Hp}:∀{a:a0o} {b:a0n},aU K F H P a b->Uc a=Uc b
 |[],[],_=>rfl
 |ds::a,r::b,h=>by simp[aU.len h.2.2]
 |[],_::_,h=>h.elim
 |_::_,[],h=>h.elim
def iH(K:ND)(F:Fx)(c H:Hp)(e:a0o)(v:V):Prop:=∃a b,v= .r a/\c a=M0/\H a=My (.l<|b.map V.r)/\(a::b).Nodup/\aU K F H (λr=>c r=M0) e b
def X_(K:ND)(F:Fx)(H:Hp)(a:M6)(b:Bool)(e:List g8)(f:a0e):Prop:=∃k c,H a=My (eP a b k c)/\e=c.map (·.1)/\(∀x∈c,ig K F H b x.1 x.2.1)/\ba K F H f (c.map (·.2.2))
theorem X_.tr{K:ND}{F g:Fx}{H d:Hp}{a:M6}{b:Bool}(t:Tr F H g d)(h:X_ K F H a b q r)(k:∀o,H a=My o->d a=My o):X_ K g d a b q r:=by
 obtain⟨c,e,i,j,l,m⟩:=h;exact⟨c,e,k _ i,j,λx f=>(l x f).tr t,ba.tr t _ _ m⟩
theorem X_.ne{K:ND}{F:Fx}{H:Hp}{a:M6}{b:Bool}(h:X_ K F H a b g i):H a≠M0:=by
 obtain⟨c,e,d,_⟩:=h;rw[d];simp
def tD(H:Hp)(a:M6):Prop:=(∃b,H a=My (.l b))\/∃d,H a=My (.ext d)
theorem tD.imp{H d:Hp}{a:M6}(h:tD H a)(k:∀o,H a=My o->d a=My o):tD d a:=Or.imp (λ⟨b,z⟩=>⟨b,k _ z⟩) (λ⟨g,z⟩=>⟨g,k _ z⟩) h
def pM(K:ND)(B:Ow)(c:a0s)(H:Hp)(i:Nat):Sl->V->Prop
 | .h d,v=>b_ K (d5 B c) H d v
 | .u ds,v=>∃a f,v= .r a/\B a=My (i+2)/\H a=My (.l f)/\ba K (d5 B c) H ds f
 | .grd a_,v=>∃a e,v= .r a/\B a=My (i+2)/\H a=My (.l<|e.map V.r)/\(a::e).Nodup/\aU K (d5 B c) H (λr=>B r=My (i+2)) a_ e
 | .odc b ks vs,v=>∃a,v= .r a/\B a=My (i+2)/\X_ K (d5 B c) H a b ks vs
theorem pM.tr{K:ND}{H g:Hp}(h:pM K B u H j s v)(t:Tr (d5 B u) H (d5 B2 u) g)(k:∀c,B c=My (j+2)->B2 c=My (j+2)/\∀o,H c=My o->g c=My o):pM K B2 u g j s v:=by
 cases s with
 |h d=>exact b_.tr t _ _ h
 |u cs=>
  obtain⟨c,l,e,a,f,i⟩:=h;exact⟨c,l,e,(k c a).1,(k c a).2 _ f,ba.tr t _ _ i⟩
 |grd a_=>
  obtain⟨c,n,e,a,f,i,m⟩:=h;exact⟨c,n,e,(k c a).1,(k c a).2 _ f,i,aU.tr t m λr _ _ p q=>⟨(k r p).1,(k r p).2 _ q⟩⟩
 |odc b ks vs=>
  obtain⟨c,e,a,f⟩:=h;exact⟨c,e,(k c a).1,f.tr t (k c a).2⟩
structure ee (K:ND) (H₀:Hp) (B:Ow) (bg:a0s) (H:Hp) (δ:Ds) (β:Bg) (σ:St):Prop where
 fr:Fr (d5 B bg) H β
 bgt:∀b l,bg=My (b,l)->B b=My 1/\B l=My 1
 len:Uc δ=Uc σ
 cov:∀a,H₀ a≠M0->H a≠M0
 new:∀a k,B a=My (k+2)->H₀ a=M0
 lst:∀a k,B a=My (k+2)->tD H a
 tell:∀(i:Nat) (s:Sl),δ[i]?=My (My s)->∃v,σ[i]?=My (My v)/\pM K B bg H i s v
structure hC (B:Ow) (H:Hp) (B':Ow) (H':Hp):Prop where
 kp:∀a o,H a=My o->(B a=M0\/B a=My 0)->H' a=My o
 tg:∀a,B a=My 0\/B a=My 1->B' a=B a
 nn:∀a o,H a=My o->B a=M0->B' a=M0
 al:∀a,H a≠M0->H' a≠M0
theorem hC.refl(B:Ow)(H:Hp):hC B H B H:=⟨λ_ _ h _=>h,λ_ _=>rfl,λ_ _ _ h=>h,λ_ h=>h⟩
theorem hC.trans{H H1 d:Hp}(a:hC B H B1 H1)(b:hC B1 H1 B2 d):hC B H B2 d:=by
 refine⟨λx o h n=>b.kp x o (a.kp x o h n) ?_,λx h=>?_,λx o h n=>b.nn x o (a.kp x o h<|.inl n)<|a.nn x o h n,λx h=>b.al x<|a.al x h⟩
 .rcases n with n|n
  .exact .inl (a.nn x o h n)
  .exact .inr ((a.tg x<|.inl n).trans n)
 .have e:=a.tg x h
  rw[<-e]at h;exact(b.tg x h).trans e
def ir(K:ND)(a:Hp)(b:a0s)(E:a0r)(Dn:l9)(B:Ow)(H:Hp)(o:qv)(j:Bg):Prop:=match o with
 | .nx δ'=>∀h i g,hC B H i g->ee K a i b g δ' j h->Dn.nx h g
 | .bk δ'=>∀h i g,hC B H i g->ee K a i b g δ' j h->Dn.bk h g
 | .ct δ'=>∀h i g,hC B H i g->ee K a i b g δ' j h->Dn.ct h g
 | .rt d=>∀v i g,hC B H i g->Fr (d5 i b) g j->b_ K (d5 i b) g d v->Dn.rt v g
 | .rg a_=>∀v i g,hC B H i g->Fr (d5 i b) g j->iH K (d5 i b) a g a_ v->Dn.rt v g
 | .ex C δ'=>∀h i g,hC B H i g->ee K a i b g δ' j h->E h (.ref C) M0 g
theorem ir.pre{K:ND}{E:a0r}{Dn:l9}{H a:Hp}(s:hC B H B1 a)(h:ir K H₀ m E Dn B H o l):ir K H₀ m E Dn B1 a o l:=by
 cases o with
 |nx δ=>exact λg i j t=>h g i j<|s.trans t
 |bk δ=>exact λg i j t=>h g i j<|s.trans t
 |ct δ=>exact λg i j t=>h g i j<|s.trans t
 |rt d=>exact λv i j t=>h v i j<|s.trans t
 |rg d=>exact λv i j t=>h v i j<|s.trans t
 |ex C δ=>exact λg i j t=>h g i j<|s.trans t
def tG(K:ND)(a:Hp)(g:G)(E:a0r):TS:=λDn h H=>∃B b c e o d,ee K a B b H c e h/\g c e=My (o,d)/\ir K a b E Dn B H o d
theorem _root_.L2.PS.imp{X:Cx}{e:OB}(h:PS X e t)(f:∀D d H,i D d H->t D d H):PS X e i:=λg s d H D I q=>h g s d H D I<|f D d H q
theorem _root_.L2.PSs.imp{X:Cx}{e:a0R}(h:PSs X e t)(f:∀D d H,i D d H->t D d H):PSs X e i:=λg s d H D I q=>h g s d H D I<|f D d H q
noncomputable def vw(δ:Ds):Dn:=δ.map λs=>match s with
 |some (.h d)=>My d
 |_=>M0
noncomputable def fh(δ:Ds):Dn:=δ.map λs=>match s with
 |some (.h d)=>My d
 |some (.u ds)=>My<|.l ds
 |some (.grd a_)=>My<|.l<|a_.map D.l
 |some (.odc b ks vs)=>My<|.dct b ks vs
 |none=>M0
variable{f:Hp}{B:Ow}{p:a0s}{Q:Hp}{δ:Ds}{β R:Bg}{T:St}
theorem Lq{i:Nat}{d:D}(e:(vw δ)[i]?=My (My d)):δ[i]?=My (My<|.h d):=by
 unfold vw at e;rw[Nk]at e;cases q:δ[i]? with
 |none=>rw[q]at e;cases e
 |some z=>
  rw[q]at e;cases z with
  |none=>cases e
  |some s=>
   cases s with
   |h c=>cases e;rfl
   |u ds=>cases e
   |grd a_=>cases e
   |odc b ks vs=>cases e
theorem ee.view(h:ee K f B p H δ β T):hY K (d5 B p) H (vw δ) T:=⟨by unfold vw;rw[MZ,h.len],λi d e=>h.tell i _<|Lq e⟩
theorem Yi:Tr (d5 B p) H (j2 B p) H:=⟨λa h _ z=>by
 have b:¬(B a≠M0):=h;rcases z with z|z
 .exact b (by rw[z];simp)
 .exact b (by rw[z];simp),λ_ _ _ h=>h,rfl⟩
theorem ee.p3(h:ee K f B p H δ β T):Fr (j2 B p) H β:=⟨λa c=>h.fr.occ a (by
 show B a≠M0;rcases c with z|z<;>rw[z]<;>simp),λb l e=>⟨.inr (h.bgt b l e).1,.inr (h.bgt b l e).2,(h.fr.bgA b l e).2.2⟩,h.fr.bag⟩
theorem ee.f5(h:ee K f B p H δ β T):hY K (j2 B p) H (fh δ) T:=by
 refine⟨by unfold fh;rw[MZ,h.len],λi d e=>?_⟩;unfold fh at e;rw[Nk]at e;cases q:δ[i]? with
 |none=>rw[q]at e;cases e
 |some z=>
  rw[q]at e;cases z with
  |none=>cases e
  |some s=>
   obtain⟨v,m,o⟩:=h.tell i s q;cases s with
   |h c=>cases e;exact⟨v,m,b_.tr Yi _ _ o⟩
   |u ds=>
    cases e;obtain⟨a,k,g,j,l,t⟩:=o;refine⟨v,m,a,k,g,⟨λz=>?_,.inl l⟩,ba.tr Yi _ _ t⟩;have z':B a=My 0\/B a=My 1:=z;rw[j]at z';rcases z' with z'|z'<;>cases z'
   |grd a_=>
    cases e;obtain⟨a,E,g,j,l,t,u⟩:=o;have w:∀c,B c=My (i+2)->¬(j2 B p).A c:=λc y z=>by
     have z':B c=My 0\/B c=My 1:=z;rw[y]at z';rcases z' with z'|z'<;>cases z'
    exact⟨v,m,a,_,g,⟨w a j,.inl l⟩,aU.den Yi u λr _ C=>w r C⟩
   |odc b ks vs=>
    cases e;obtain⟨a,g,j,n,k,l,t,u,I⟩:=o;refine⟨v,m,?_⟩;unfold b_;refine⟨a,n,k,g,⟨λz=>?_,l⟩,t,λx D=>(u x D).tr Yi,ba.tr Yi _ _ I⟩;have z':B a=My 0\/B a=My 1:=z;rw[j]at z';rcases z' with z'|z'<;>cases z'
theorem ee.to{F:Fx}(h:ee K f B p H δ β T)(hF:F.bg=p)(t:To F H Q R):ee K f B p Q δ R T/\hC B H B Q:=by
 have u:∀a,B a≠My 1->∀b l,F.bg=My (b,l)->a≠b/\a≠l:=λa x b l e=>by
  rw[hF]at e;exact⟨λz=>x<|z▸(h.bgt b l e).1,λz=>x<|z▸(h.bgt b l e).2⟩
 have D:∀a o,H a=My o->B a≠My 1->Q a=My o:=λa o e n=>t.kp a o e<|u a n;have fr:Fr (d5 B p) Q R:=⟨λa x z=>(by
  by_cases y:B a=My 1
  .by_cases g:∃b l,p=My (b,l)/\(a=b\/a=l)
   .obtain⟨b,l,e,q⟩:=g
    obtain⟨j,m⟩:=t.fr.bag b l<|hF.trans e;rcases q with rfl|rfl
    .rw[j]at z;cases z
    .rw[m]at z;cases z
   .cases q:H a with
    |none=>exact h.fr.occ a x q
    |some o=>
     rw[t.kp a o q λb l e=>⟨λw=>g ⟨b,l,hF.symm.trans e,.inl w⟩,λw=>g ⟨b,l,hF.symm.trans e,.inr w⟩⟩]at z;cases z
  .cases q:H a with
   |none=>exact h.fr.occ a x q
   |some o=>rw[D a o q y]at z;cases z),h.fr.bgA,λb l e=>t.fr.bag b l<|hF.trans e⟩
 have G:Tr (d5 B p) H (d5 B p) Q:=⟨λ_ n _=>n,λa o n e=>D a o e (λz=>n (by show B a≠M0;rw[z];simp)),rfl⟩;have E:∀a,H a≠M0->Q a≠M0:=λa x z=>by
  by_cases g:∃b l,p=My (b,l)/\(a=b\/a=l)
  .obtain⟨b,l,e,q⟩:=g
   obtain⟨j,m⟩:=t.fr.bag b l<|hF.trans e;rcases q with rfl|rfl
   .rw[j]at z;cases z
   .rw[m]at z;cases z
  .cases q:H a with
   |none=>exact x q
   |some o=>
    rw[t.kp a o q λb l e=>⟨λw=>g ⟨b,l,hF.symm.trans e,.inl w⟩,λw=>g ⟨b,l,hF.symm.trans e,.inr w⟩⟩]at z;cases z
 refine⟨⟨fr,h.bgt,h.len,λa x=>E a<|h.cov a x,h.new,λc k r=>(h.lst c k r).imp λo z=>D c o z (by rw[r];intro z;cases z),λi s e=>?_⟩,λa o e n=>D a o e (by rcases n with n|n<;>rw[n]<;>simp),λ_ _=>rfl,λ_ _ _ n=>n,E⟩
 obtain⟨v,A,C⟩:=h.tell i s e;exact⟨v,A,C.tr G λc d=>⟨d,λo q=>D c o q<|by rw[d];intro z;cases z⟩⟩
theorem ee.set(h:ee K f B p H δ β T)(a:b_ K (d5 B p) H d v):ee K f B p H (δ.set i<|My<|.h d) β (T.set i<|My v):=by
 refine⟨h.fr,h.bgt,by rw[N9,N9,h.len],h.cov,h.new,h.lst,λj c e=>?_⟩;rw[OO]at e;rw[OO];by_cases q:i=j
 .subst q
  rw[Ng rfl]at e⊢;split at e
  .rename_i g
   cases e;rw[Ng<|by rw[<-h.len];exact g];exact⟨v,rfl,a⟩
  .cases e
 .rw[Nf q]at e⊢
  exact h.tell j c e
noncomputable def gNil:G:=λδ β=>My (.nx δ,β)
noncomputable def aB(g h:G):G:=λδ β=>match g δ β with
 |some (.nx δ1,β1)=>h δ1 β1
 |r=>r
def cS(i:Nat)(f:FD):G:=λδ β=>match f (vw δ) β with
 |some (.ok d,β1)=>My (.nx<|δ.set i<|My<|.h d,β1)
 |some (.error C,β1)=>My (.ex C δ,β1)
 |none=>M0
def uR(i:Nat)(f:FD):G:=λδ β=>match f (fh δ) β with
 |some (.ok d,β1)=>if dL d=M3 then My (.nx<|δ.set i<|My<|.h d,β1)else M0
 |some (.error C,β1)=>My (.ex C δ,β1)
 |none=>M0
noncomputable def dW(f:FD):G:=λδ β=>match f (fh δ) β with
 |some (.ok _,β1)=>My (.nx δ,β1)
 |some (.error C,β1)=>My (.ex C δ,β1)
 |none=>M0
noncomputable def gv(f:FD):G:=λδ β=>match f (fh δ) β with
 |some (.ok d,β1)=>My (.rt d,β1)
 |some (.error C,β1)=>My (.ex C δ,β1)
 |none=>M0
noncomputable def ry(t:a0m)(g h:G):G:=λδ β=>match t (fh δ) β with
 |some (.ok M3,β1)=>g δ β1
 |some (.ok M5,β1)=>h δ β1
 |some (.error C,β1)=>My (.ex C δ,β1)
 |none=>M0
variable{a:OB}{b:a0R}
theorem aV:PSs X [] (tG X.K X.H₀ gNil E):=rN.imp λD T H d=>by
 obtain⟨B,p,δ,β,o,R,ok,e,h⟩:=d;cases e;exact h T B H (hC.refl B H) ok
theorem ag(i:PS X a<|tG X.K X.H₀ g E)(j:PSs X b<|tG X.K X.H₀ h E):PSs X (a::b) (tG X.K X.H₀ (aB g h) E):=(cR i j).imp λD T H l=>by
 obtain⟨B,p,δ,β,o,R,ok,e,q⟩:=l;unfold aB at e;split at e
 .rename_i δ1 β1 m
  refine⟨B,p,δ,β,.nx δ1,β1,ok,m,λt u Q s d=>⟨u,p,δ1,β1,o,R,d,e,ir.pre s ?_⟩⟩;exact q
 .rename_i r v
  refine⟨B,p,δ,β,o,R,ok,e,?_⟩;cases o with
  |nx δ1=>exact NH e<|v δ1 R
  |_=>exact q
theorem aj(d:PS X a<|tG X.K X.H₀ g E):PSs X [a] (tG X.K X.H₀ g E):=hX d
theorem aP{x:N8}{f:FD}(h:PS X (.Assign [.Name x pos'] e O)<|gr (tV X.K f E)<|fi i):PS X (.Assign [.Name x pos'] e O) (tG X.K X.H₀ (cS i f) E):=h.imp λD T H m=>by
 obtain⟨B,p,δ,β,o,R,ok,e,q⟩:=m;refine⟨d5 B p,vw δ,β,ok.fr,ok.view,?_⟩;unfold cS at e;split at e
 .rename_i d β1 j
  cases e;refine⟨.ok d,_,j,λv Q t a=>?_⟩;obtain⟨g,l⟩:=ok.to rfl t;exact q _ B Q l<|g.set a
 .rename_i C β1 j
  cases e;refine⟨.error C,_,j,λQ t=>?_⟩;obtain⟨g,l⟩:=ok.to rfl t;exact q _ B Q l g
 .cases e
theorem FZ{K:ND}{F g:Fx}{H:Hp}(i:dL d=M3)(h:b_ K F H d v):b_ K g H d v:=by
 cases d<;>first|exact h|cases i
theorem vA{x:N8}{f:FD}(h:PS X (.Assign [.Name x pos'] e O)<|gr (tV X.K f E)<|fi i):PS X (.Assign [.Name x pos'] e O) (tG X.K X.H₀ (uR i f) E):=h.imp λD T H m=>by
 obtain⟨B,p,δ,β,o,R,ok,e,q⟩:=m;refine⟨j2 B p,fh δ,β,ok.p3,ok.f5,?_⟩;unfold uR at e;split at e
 .rename_i d β1 j
  split at e
  .rename_i r
   cases e;refine⟨.ok d,_,j,λv Q t a=>?_⟩;obtain⟨g,l⟩:=ok.to rfl t;exact q _ B Q l<|g.set<|FZ r a
  .cases e
 .rename_i C β1 j
  cases e;refine⟨.error C,_,j,λQ t=>?_⟩;obtain⟨g,l⟩:=ok.to rfl t;exact q _ B Q l g
 .cases e
theorem d7{f:FD}(h:PS X (.Expr e O)<|yE<|tV X.K f E):PS X (.Expr e O) (tG X.K X.H₀ (dW f) E):=h.imp λD T H l=>by
 obtain⟨B,p,δ,β,o,R,ok,e,q⟩:=l;refine⟨j2 B p,fh δ,β,ok.p3,ok.f5,?_⟩;unfold dW at e;split at e
 .rename_i d β1 i
  cases e;refine⟨.ok d,_,i,λv Q t a=>?_⟩;obtain⟨g,j⟩:=ok.to rfl t;exact q _ B Q j g
 .rename_i C β1 i
  cases e;refine⟨.error C,_,i,λQ t=>?_⟩;obtain⟨g,j⟩:=ok.to rfl t;exact q _ B Q j g
 .cases e
noncomputable def hZ(B:Ow):Ow:=λa=>if B a=My 0\/B a=My 1 then B a else M0
theorem Kq{B:Ow}{p:a0s}{H:Hp}:Tr (j2 B p) H (d5 (hZ B) p) H:=⟨λa h _ z=>by
 have d:hZ B a≠M0:=z;unfold hZ at d;split at d
 .rename_i q;exact h q
 .exact d rfl,λ_ _ _ h=>h,rfl⟩
theorem FC{B:Ow}{H:Hp}:hC B H (hZ B) H:=⟨λ_ _ h _=>h,λa h=>by unfold hZ;rw[Ng h],λa o h n=>by unfold hZ;rw[n];simp,λ_ h=>h⟩
theorem aG{f:FD}(h:PS X (.Return (My e) O)<|EG<|tV X.K f E):PS X (.Return (My e) O) (tG X.K X.H₀ (gv f) E):=h.imp λD T H r=>by
 obtain⟨B,p,δ,β,o,R,ok,e,q⟩:=r;refine⟨j2 B p,fh δ,β,ok.p3,ok.f5,?_⟩;unfold gv at e;split at e
 .rename_i d β1 j
  cases e;refine⟨.ok d,_,j,λv Q t c=>?_⟩;obtain⟨g,m⟩:=ok.to rfl t;refine q _ (hZ B) Q (m.trans FC) ⟨λa k=>g.fr.occ a ?_,λb l e=>?_,g.fr.bag⟩<|b_.tr Kq _ _ c
  .have i:hZ B a≠M0:=k
   show B a≠M0;unfold hZ at i;split at i
   .exact i
   .exact NH rfl i
  .refine⟨?_,?_,(g.fr.bgA b l e).2.2⟩
   .show hZ B b≠M0
    unfold hZ;rw[Ng<|.inr (ok.bgt b l e).1,(ok.bgt b l e).1];simp
   .show hZ B l≠M0
    unfold hZ;rw[Ng<|.inr (ok.bgt b l e).2,(ok.bgt b l e).2];simp
 .rename_i C β1 j
  cases e;refine⟨.error C,_,j,λQ t=>?_⟩;obtain⟨g,m⟩:=ok.to rfl t;exact q _ B Q m g
 .cases e
theorem bv{c:Expr}{a b:a0R}(l:PT X c<|gt X.K t E)(k:PSs X a<|tG X.K X.H₀ g E)(m:PSs X b<|tG X.K X.H₀ h E):PS X (.If c a b O) (tG X.K X.H₀ (ry t g h) E):=(GU l k m).imp λD T H r=>by
 obtain⟨B,p,δ,β,o,R,ok,e,q⟩:=r;refine⟨j2 B p,fh δ,β,ok.p3,ok.f5,?_⟩;unfold ry at e;split at e
 .rename_i β1 i
  refine⟨.ok M3,_,i,λv Q t f=>?_⟩;subst f;obtain⟨d,j⟩:=ok.to rfl t;rw[Ng rfl];exact⟨B,p,δ,β1,o,R,d,e,ir.pre j q⟩
 .rename_i β1 i
  refine⟨.ok M5,_,i,λv Q t f=>?_⟩;subst f;obtain⟨d,j⟩:=ok.to rfl t;rw[Nf Nb];exact⟨B,p,δ,β1,o,R,d,e,ir.pre j q⟩
 .rename_i C β1 i
  cases e;refine⟨.error C,_,i,λQ t=>?_⟩;obtain⟨d,j⟩:=ok.to rfl t;exact q _ B Q j d
 .cases e
abbrev z_:=D->Ds->Option Ds
abbrev nq:=a0e->Ds->Option Ds
def oF(K:ND)(g:TG)(tg:z_):Prop:=∀(f:Hp) (B:Ow) (p:a0s) (H:Hp) (δ a:Ds) (β:Bg) (T:St) (d:D) (v:V) (Q:a0F),ee K f B p H δ β T->b_ K (d5 B p) H d v->tg d δ=My a->(∀h,ee K f B p H a β h->Q h H)->g v T H Q
def rh(K:ND)(g:A_)(tg:nq):Prop:=∀(f:Hp) (B:Ow) (p:a0s) (H:Hp) (δ a:Ds) (β:Bg) (T:St) (b:a0e) (c:a0i) (Q:a0F),ee K f B p H δ β T->ba K (d5 B p) H b c->tg b δ=My a->(∀d,ee K f B p H a β d->Q d H)->g c T H Q
noncomputable def uY(i:Nat):z_:=λd δ=>My<|δ.set i<|My<|.h d
noncomputable def EQ:nq:=λa δ=>match a with
 |[]=>My δ
 |_=>M0
noncomputable def vp(t:z_)(u:nq):nq:=λb δ=>match b with
 |[]=>M0
 |d::r=>(t d δ).bind λa=>u r a
noncomputable def sgT(t:nq):z_:=λd δ=>match d with
 | .t ds=>t ds δ
 |_=>M0
theorem aX:oF K (fi i) (uY i):=λf B p H δ a β T d v Q b c e k=>by
 cases e;exact k _<|b.set c
theorem n5:rh K L2.gNil EQ:=λf B p H δ a β T b x Q c n e k=>by
 cases b with
 |nil=>cases e;exact⟨n,k _ c⟩
 |cons _ _=>cases e
theorem eG(m:oF K t s)(o:rh K u uf):rh K (zy t u) (vp s uf):=λf B p H δ a β T b E Q c n e k=>by
 cases b with
 |nil=>cases e
 |cons d r=>
  obtain⟨x,l,rfl,D,v⟩:=n;have h:(s d δ).bind (λa=>uf r a)=My a:=e;cases q:s d δ with
  |none=>rw[q]at h;cases h
  |some g=>
   rw[q]at h;exact⟨x,l,rfl,m f B p H δ g β T d x _ c D q λi j=>o f B p H g a β i r l Q j v h k⟩
theorem k7:∀b δ a,EQ b δ=My a->Uc b=0:=λb δ a h=>by
 cases b with
 |nil=>rfl
 |cons _ _=>cases h
theorem eE{n:Nat}(h:∀b δ a,u b δ=My a->Uc b=n):∀b δ a,vp t u b δ=My a->Uc b=n+1:=λb δ a e=>by
 cases b with
 |nil=>cases e
 |cons d r=>
  have g:(t d δ).bind (λa=>u r a)=My a:=e;cases q:t d δ with
  |none=>rw[q]at g;cases g
  |some i=>rw[q]at g;rw[Np,h _ _ _ g]
theorem qG{n:Nat}(h:rh K t i)(D:∀c δ b,i c δ=My b->Uc c=n):oF K (FW K n t) (sgT i):=λf B p H δ b β T d v Q E F e k=>by
 cases d<;>first
  |(obtain⟨a,x,rfl,G,g⟩:=b_.f5 F;exact⟨a,x,rfl,G,by rw[<-g.f5];exact D _ _ _ e,h f B p H δ b β T _ x Q E g e k⟩)
  |cases e
def wt(f:FD)(tg:z_):G:=λδ β=>match f (vw δ) β with
 |some (.ok d,β1)=>(tg d δ).map λa=>(.nx a,β1)
 |some (.error C,β1)=>My (.ex C δ,β1)
 |none=>M0
theorem uI{f:FD}{tg:z_}(l:oF X.K g tg)(h:PS X (.Assign [s] e O)<|gr (tV X.K f E) g):PS X (.Assign [s] e O) (tG X.K X.H₀ (wt f tg) E):=h.imp λD T H w=>by
 obtain⟨B,p,δ,β,o,R,ok,e,q⟩:=w;refine⟨d5 B p,vw δ,β,ok.fr,ok.view,?_⟩;unfold wt at e;split at e
 .rename_i d β1 j
  cases a:tg d δ with
  |none=>rw[a]at e;cases e
  |some b=>
   rw[a]at e;cases e;refine⟨.ok d,_,j,λv Q t c=>?_⟩;obtain⟨i,m⟩:=ok.to rfl t;exact l X.H₀ B p Q δ b _ T d v _ i c a λr u=>q r B Q m u
 .rename_i C β1 j
  cases e;refine⟨.error C,_,j,λQ t=>?_⟩;obtain⟨i,m⟩:=ok.to rfl t;exact q _ B Q m i
 .cases e
def rW(i j:Nat)(f:FL):G:=λδ β=>match f (vw δ) β with
 |some (.ok [c,d],β1)=>My (.nx<|(δ.set i<|My<|.h c).set j<|My<|.h d,β1)
 |some (.error C,β1)=>My (.ex C δ,β1)
 |_=>M0
theorem LN{f:FL}(h:PS X a<|Jm i j<|h8 X.K f E):PS X a (tG X.K X.H₀ (rW i j f) E):=h.imp λD T H r=>by
 obtain⟨B,p,δ,β,o,R,ok,e,q⟩:=r;refine⟨d5 B p,vw δ,β,ok.fr,ok.view,?_⟩;unfold rW at e;split at e
 .rename_i c d β1 l
  cases e;refine⟨.ok [c,d],_,l,λk Q t b=>?_⟩;obtain⟨g,m⟩:=ok.to rfl t;obtain⟨v,w,rfl,u,y⟩:=ba.two b;exact⟨v,w,rfl,q _ B Q m<|(g.set u).set y⟩
 .rename_i C β1 l
  cases e;refine⟨.error C,_,l,λQ t=>?_⟩;obtain⟨g,m⟩:=ok.to rfl t;exact q _ B Q m g
 .cases e
def zz(i:Nat)(a:a0Z)(f:FD):G:=λδ β=>match(vw δ).getD i M0 with
 |none=>M0
 |some c=>match f (vw δ) β with
  |some (.ok d,β1)=>(a c d).map λz=>(.nx<|δ.set i<|My<|.h z,β1)
  |some (.error C,β1)=>My (.ex C δ,β1)
  |none=>M0
theorem qm{f:FD}(l:bq X.K s op)(h:PS X a<|Jt i (tV X.K f E) s):PS X a (tG X.K X.H₀ (zz i op f) E):=h.imp λD T H I=>by
 obtain⟨B,p,δ,β,o,R,ok,e,q⟩:=I;unfold zz at e;split at e
 .cases e
 .rename_i c j
  have m:(vw δ)[i]?=My (My c):=by
   rw[Nz]at j;cases z:(vw δ)[i]? with
   |none=>rw[z]at j;cases j
   |some w=>rw[z]at j;simp at j;rw[j]
  obtain⟨v,J,L⟩:=ok.view.tell i c m;refine⟨v,J,d5 B p,vw δ,β,ok.fr,ok.view,?_⟩;split at e
  .rename_i d β1 r
   cases b:op c d with
   |none=>rw[b]at e;cases e
   |some z=>
    rw[b]at e;cases e;refine⟨.ok d,_,r,λw Q t k=>?_⟩;obtain⟨g,y⟩:=ok.to rfl t;refine l (d5 B p) Q R _ c d z v w t.fr (b_.tr (t.tr ok.fr) _ _ L) k b λu N t2 O=>?_;obtain⟨A,P⟩:=g.to rfl t2;exact q _ B N (y.trans P)<|A.set O
  .rename_i C β1 r
   cases e;refine⟨.error C,_,r,λQ t=>?_⟩;obtain⟨g,y⟩:=ok.to rfl t;exact q _ B Q y g
  .cases e
theorem hC.tr{B d:Ow}{H Q:Hp}{p:a0s}(s:hC B H d Q):Tr (d5 B p) H (d5 d p) Q:=
 ⟨λa h b z=>by
  have c:B a=M0:=by
   cases q:B a with
   |none=>rfl
   |some t=>exact NH (show B a≠M0 by rw[q];simp) h
  cases q:H a with
  |none=>exact b q
  |some o=>exact z<|s.nn a o q c,λa o h e=>s.kp a o e<|.inl (by
  cases q:B a with
  |none=>rfl
  |some t=>exact NH (show B a≠M0 by rw[q];simp) h),rfl⟩
def cg(t:a0m)(g:G):Nat->G
 |0,_,_=>M0
 |n+1,δ,β=>match t (fh δ) β with
  |some (.ok M3,β1)=>match g δ β1 with
   |some (.nx δ1,β2)=>cg t g n δ1 β2
   |some (.ct δ1,β2)=>cg t g n δ1 β2
   |some (.bk δ1,β2)=>My (.nx δ1,β2)
   |r=>r
  |some (.ok M5,β1)=>My (.nx δ,β1)
  |some (.error C,β1)=>My (.ex C δ,β1)
  |none=>M0
theorem mW:∀{n:Nat} {δ:Ds} {β:Bg} {r:qv×Bg},cg t g n δ β=My r->cg t g (n+1) δ β=My r
 |0,_,_,_,h=>by cases h
 |n+1,δ,β,r,h=>by
  have e:∀m,cg t g (m+1) δ β=match t (fh δ) β with
    |some (.ok M3,a)=>match g δ a with
     |some (.nx δ1,c)=>cg t g m δ1 c
     |some (.ct δ1,c)=>cg t g m δ1 c
     |some (.bk δ1,c)=>My (.nx δ1,c)
     |r=>r
    |some (.ok M5,a)=>My (.nx δ,a)
    |some (.error C,a)=>My (.ex C δ,a)
    |none=>M0:=λm=>rfl
  rw[e]at h⊢;cases q:t (fh δ) β with
  |none=>rw[q]at h;cases h
  |some z=>
   obtain⟨b,a⟩:=z;rw[q]at h;cases b with
   |error C=>exact h
   |ok b=>
    cases b with
    |false=>exact h
    |true=>
     dsimp only at h⊢
     cases f:g δ a with
     |none=>rw[f]at h;cases h
     |some y=>
      obtain⟨o,c⟩:=y;rw[f]at h;cases o with
      |nx δ1=>exact mW h
      |ct δ1=>exact mW h
      |bk δ1=>exact h
      |rt d=>exact h
      |rg d=>exact h
      |ex C δ1=>exact h
theorem mZ{n m:Nat}{δ:Ds}{β:Bg}(h:cg t g n δ β=My r)(l:n<=m):cg t g m δ β=My r:=by
 induction m with
 |zero=>
  obtain rfl:n=0:=by lia
  exact h
 |succ m a=>
  by_cases q:n=m+1
  .subst q;exact h
  .exact mW (a<|by lia)
end
open Classical in
def Yp(t:a0m)(g:G):G:=λD E=>if h:∃r n,cg t g n D E=My r then My h.choose else M0
theorem KZ(h:cg t g n c d=My r):Yp t g c d=My r:=by
 have D:∃r n,cg t g n c d=My r:=⟨r,n,h⟩;unfold Yp;rw[Wf D];obtain⟨m,E⟩:=D.choose_spec;have b:=mZ h<|Nat.le_max_left n m;have a:=mZ E<|Nat.le_max_right n m;rw[b]at a;rw[<-N0 a]
theorem IN(h:Yp t g a b=My r):∃n,cg t g n a b=My r:=by
 unfold Yp at h;split at h
 .rename_i hx
  obtain⟨m,D⟩:=hx.choose_spec;cases h;exact⟨m,D⟩
 .cases h
section
variable{X:Cx}{E:a0r}{e:Expr}{st:OB}{h:a0R}{s:RV}{K:ND}
theorem HM(R:XD (NK X.p X.w) X.A X.e X.xe)(T:PT X c<|gt X.K t E)(U:PSs X body<|tG X.K X.H₀ g E):PS X (.While c body [] s) (tG X.K X.H₀ (Yp t g) E):=(EY R T U).imp λD σ H W=>by
 obtain⟨B,V,δ,β,o,l,ok,e,q⟩:=W;obtain⟨n,e⟩:=IN e;refine⟨λm u H1=>∃j M S,hC B H j H1/\ee X.K X.H₀ j V H1 M S u/\cg t g m M S=My (o,l),⟨n,B,δ,β,hC.refl B H,ok,e⟩,?_⟩;rintro m u H1 ⟨j,M,S,r,h,f⟩;refine⟨j2 j V,fh M,S,h.p3,h.f5,?_⟩;cases m with
 |zero=>cases f
 |succ m=>
  unfold cg at f;split at f
  .rename_i β2 y
   refine⟨.ok M3,_,y,λv N tt hd=>?_⟩;subst hd;obtain⟨b,k⟩:=h.to rfl tt;rw[Ng rfl];refine⟨λF P=>∃O a G,hC B H O P/\ee X.K X.H₀ O V P a G F/\cg t g m a G=My (o,l),λF P ⟨O,a,G,z⟩=>⟨m,QE m,O,a,G,z⟩,?_⟩;split at f
   .rename_i a G I
    exact⟨j,V,M,β2,.nx a,G,b,I,λp J Q L i=>⟨J,a,G,r.trans<|k.trans L,i,f⟩⟩
   .rename_i a G I
    exact⟨j,V,M,β2,.ct a,G,b,I,λp J Q L i=>⟨J,a,G,r.trans<|k.trans L,i,f⟩⟩
   .rename_i a G I
    cases f;exact⟨j,V,M,β2,.bk a,_,b,I,λp J Q L i=>q p J Q (r.trans<|k.trans L) i⟩
   .rename_i x Y Z h3
    refine⟨j,V,M,β2,o,l,b,f,?_⟩;have q2:=ir.pre (r.trans k) q;cases o with
    |nx a=>exact NH f<|Y _ _
    |ct a=>exact NH f<|Z _ _
    |bk a=>exact NH f<|h3 _ _
    |rt d=>exact q2
    |rg d=>exact q2
    |ex C a=>exact q2
  .rename_i β2 y
   cases f;refine⟨.ok M5,_,y,λv N tt hd=>?_⟩;subst hd;obtain⟨b,k⟩:=h.to rfl tt;rw[Nf Nb];exact q _ j N (r.trans k) b
  .rename_i C β2 y
   cases f;refine⟨.error C,_,y,λN tt=>?_⟩;obtain⟨b,k⟩:=h.to rfl tt;exact q _ j N (r.trans k) b
  .cases f
noncomputable def n_(e:z_)(g:G):a0e->G
 |[],δ,β=>My (.nx δ,β)
 |d::ds,δ,β=>match e d δ with
  |none=>M0
  |some h=>match g h β with
   |some (.nx δ2,β2)=>n_ e g ds δ2 β2
   |some (.ct δ2,β2)=>n_ e g ds δ2 β2
   |some (.bk δ2,β2)=>My (.nx δ2,β2)
   |r=>r
def qT(h:Ds->M a0e)(s:z_)(g:G):G:=λe D=>match h e D with
 |some (.ok ds,β1)=>n_ s g ds e β1
 |some (.error C,β1)=>My (.ex C e,β1)
 |none=>M0
abbrev pC(e:FL):z_->G->G:=qT λh=>e<|vw h
theorem JE(hw:∀{B z H δ β T R},ee X.K X.H₀ B z H δ β T->run (λZ (M:a0e) (J:It)=>r4 X.K J (d5 B z) Z M) (d5 B z) E T (it δ) H R β->wi T H R)(l:oF X.K tgg tg)(h:PS X (.For tgt iter body [] s)<|EH wi tgg<|tG X.K X.H₀ g E):PS X (.For tgt iter body [] s) (tG X.K X.H₀ (qT it tg g) E):=h.imp λD T H h_=>by
 obtain⟨B,z,δ,β,o,A,ok,e,q⟩:=h_;refine hw ok ?_;unfold qT at e;split at e
 .rename_i M β1 e1
  refine⟨.ok M,_,e1,λJ S t hJ=>?_⟩;obtain⟨V,s1⟩:=ok.to rfl t;refine⟨λi m p I=>m+i=Uc M/\∃n r G,hC B S n I/\ee X.K X.H₀ n z I r G p/\n_ tg g (M.drop i) r G=My (o,A),⟨Uc M,by lia,B,δ,β1,hC.refl B S,V,e⟩,?_⟩;rintro i m p I ⟨hm,n,r,G,L,c,b⟩;obtain⟨iy,is⟩:=hJ (d5 n z) I G L.tr c.fr i;cases U:M[i]? with
  |none=>
   have W:Uc M<=i:=Ta.mp U;rw[QK W]at b;cases b;exact .inl ⟨is (by lia),q p n I (s1.trans L) c⟩
  |some d=>
   have W:i<Uc M:=(Nd.mp U).1;obtain⟨go,yl⟩:=iy d U;have ed:M.drop i=d::M.drop (i+1):=by
    rw[Ox W];congr 1;exact N0<|(M9 W).symm.trans U
   rw[ed]at b;unfold n_ at b;split at b
   .cases b
   .rename_i j e3
    refine .inr ⟨go,λN H9=>∃Y u v,hC B S Y H9/\ee X.K X.H₀ Y z H9 u v N/\n_ tg g (M.drop<|i+1) u v=My (o,A),λN H9 ⟨Y,u,v,z1,z2,z3⟩=>⟨m-1,by lia,by lia,Y,u,v,z1,z2,z3⟩,λx H3 hy=>?_⟩;obtain⟨sm,dx⟩:=yl x H3 hy;obtain⟨aa,s3⟩:=c.to rfl<|c.fr.same sm;refine l X.H₀ n z H3 r j G p d x _ aa dx e3 λab w=>?_;have y:=L.trans s3;split at b
    .rename_i a f O
     exact⟨n,z,j,G,.nx a,f,w,O,λF P H6 Q k=>⟨P,a,f,y.trans Q,k,b⟩⟩
    .rename_i a f O
     exact⟨n,z,j,G,.ct a,f,w,O,λF P H6 Q k=>⟨P,a,f,y.trans Q,k,b⟩⟩
    .rename_i a f O
     cases b;exact⟨n,z,j,G,.bk a,_,w,O,λF P H6 Q k=>q F P H6 (s1.trans<|y.trans Q) k⟩
    .rename_i x h1 h2 h3
     refine⟨n,z,j,G,o,A,w,b,?_⟩;have q2:=ir.pre (s1.trans y) q;cases o with
     |nx a=>exact NH b<|h1 _ _
     |ct a=>exact NH b<|h2 _ _
     |bk a=>exact NH b<|h3 _ _
     |rt d=>exact q2
     |rg d=>exact q2
     |ex C a=>exact q2
 .rename_i C β1 e1
  cases e;refine⟨.error C,_,e1,λZ t=>?_⟩;obtain⟨c,L⟩:=ok.to rfl t;exact q _ B Z L c
 .cases e
theorem cm(l:oF X.K b d)(h:PS X (.For c a body [] s)<|EH (iV X.K f E) b<|tG X.K X.H₀ g E):PS X (.For c a body [] s) (tG X.K X.H₀ (pC f d g) E):=JE (λe r=>⟨_,_,_,e.fr,e.view,r⟩) l h
theorem ee.claim{E:Ds}{A:St}(S:M6->Prop)(D:ee K H₀ B x H E Q A)(t:To (d5 B x) H H' O)(g:∀c,S c->H c=M0/\tD H' c)(V:∀{r:Ow},(∀c,S c->r c=My (i+2))->(∀c,r c≠M0->B c≠M0\/S c)->Tr (d5 B x) H (d5 r x) H'->pM K r x H' i P v):
  ∃C,ee K H₀ C x H' (E.set i<|My P) O (A.set i<|My v)/\hC B H C H':=by
 classical
 obtain⟨a,F⟩:=D.to rfl t;have hB:∀c,S c->B c=M0:=λc f=>Pc λz=>D.fr.occ c z (g c f).1;have m:∀c n,B c=My n->¬S c:=λc n e z=>by rw[hB c z]at e;cases e
 have p:hC B H (λc=>if S c then My (i+2)else B c) H':=⟨F.kp,λc f=>Nf<|f.elim (m c 0)<|m c 1,λc o h n=>(Nf λz=>by rw[(g c z).1]at h;cases h).trans n,F.al⟩;have G:Tr (d5 B x) H (d5 (λc=>if S c then My (i+2)else B c) x) H':=p.tr;have u:∀b l,x=My (b,l)->(if S b then My (i+2)else B b)=My 1/\(if S l then My (i+2)else B l)=My 1:=λb l e=>by
  obtain⟨M,I⟩:=D.bgt b l e;exact⟨(Nf<|m b 1 M).trans M,(Nf<|m l 1 I).trans I⟩
 refine⟨λc=>if S c then My (i+2)else B c,⟨⟨λc f z=>?_,λb l e=>⟨λz=>(by cases z.symm.trans (u b l e).1),λz=>(by cases z.symm.trans (u b l e).2),(D.fr.bgA b l e).2.2⟩,a.fr.bag⟩,u,by rw[N9,N9,D.len],a.cov,λc k f=>?_,λc k f=>?_,λj s e=>?_⟩,p⟩
 .by_cases q:S c
  .rcases(g c q).2 with⟨_,w⟩|⟨_,w⟩<;>(rw[w]at z;cases z)
  .exact a.fr.occ c (λy=>f<|(Nf q).trans y) z
 .by_cases z:S c
  .cases w:H₀ c with
   |none=>rfl
   |some o=>exact NH (g c z).1 (D.cov c<|by rw[w];simp)
  .exact D.new c k ((Nf z).symm.trans f)
 .by_cases z:S c
  .exact(g c z).2
  .exact a.lst c k ((Nf z).symm.trans f)
 .rw[OO]at e⊢
  by_cases q:i=j
  .subst q
   rw[Ng rfl]at e⊢;split at e
   .rename_i J
    cases e;rw[Ng<|by rw[<-D.len];exact J];exact⟨_,rfl,V (λc z=>Ng z) (λc z=>Pc λy=>z<|(Nf λw=>y<|.inr w).trans<|Pc λw=>y<|.inl w) G⟩
   .cases e
  .rw[Nf q]at e⊢
   obtain⟨w,L,N⟩:=D.tell j s e;exact⟨w,L,N.tr G λc d=>⟨(Nf<|m c _ d).trans d,λo h=>t.kp c o h λb l z=>⟨λy=>(by subst y;rw[(D.bgt _ _ z).1]at d;cases d),λy=>(by subst y;rw[(D.bgt _ _ z).2]at d;cases d)⟩⟩⟩
theorem ee.newAt{e:Ds}{b:St}(h:ee K H₀ B j H e k b)(d:H p=M0)(g:tD (upd H p u) p)(s:∀{a:Ow},a p=My (i+2)->Tr (d5 B j) H (d5 a j) (upd H p u)->pM K a j (upd H p u) i l (.r p)):
  ∃f,ee K H₀ f j (upd H p u) (e.set i<|My l) k (b.set i<|My<|.r p)/\hC B H f (upd H p u):=h.claim (·=p) (h.fr.upd u d) (λc z=>by cases z;exact⟨d,g⟩) λD _ E=>s (D p rfl) E
theorem ee.writeAt{E:Ds}(D:ee K H₀ B w H E A x)(M:x[i]?=My (My<|.r a))(hB:B a=My (i+2))(p:tD (upd H a u) a)(S:Tr (d5 B w) H (d5 B w) (upd H a u)->pM K B w (upd H a u) i C (.r a)):
  ee K H₀ B w (upd H a u) (E.set i<|My C) A x/\hC B H B (upd H a u):=by
 have f:hC B H B (upd H a u):=by
  refine⟨λc o h n=>?_,λ_ _=>rfl,λ_ _ _ n=>n,λc g=>?_⟩
  .rw[bb]
   .exact h
   .intro z;subst z;rw[hB]at n;rcases n with n|n<;>cases n
  .by_cases z:c=a
   .subst z;rw[aq];simp
   .rw[bb z];exact g
 have G:Tr (d5 B w) H (d5 B w) (upd H a u):=f.tr;refine⟨⟨⟨λc g z=>?_,D.fr.bgA,λb l e=>?_⟩,D.bgt,by rw[N9,D.len],λa V=>f.al a<|D.cov a V,D.new,λc k g=>(by
  by_cases z:c=a
  .subst z;exact p
  .exact(D.lst c k g).imp λo y=>by rw[bb z];exact y),λj s e=>?_⟩,f⟩
 .by_cases q:c=a
  .subst q;rw[aq]at z;cases z
  .rw[bb q]at z;exact D.fr.occ c g z
 .obtain⟨b1,m⟩:=D.bgt b l e
  rw[bb (λz=>by subst z;rw[hB]at b1;cases b1),bb (λz=>by subst z;rw[hB]at m;cases m)];exact D.fr.bag b l e
 .rw[OO]at e
  by_cases q:i=j
  .subst q
   rw[Ng rfl]at e;split at e
   .cases e
    exact⟨_,M,S G⟩
   .cases e
  .rw[Nf q]at e
   obtain⟨v,r,t⟩:=D.tell j s e;exact⟨v,r,t.tr G λc d=>⟨d,λo z=>(bb λy=>by subst y;rw[hB]at d;cases d;exact q rfl).trans z⟩⟩
theorem ee.newOwn{h:Ds}{a:St}(s:ee K H₀ B f H h g a)(c:H p=M0)(D:ba K (d5 B f) H j d):
  ∃b,ee K H₀ b f (upd H p<|.l d) (h.set i<|My<|.u j) g (a.set i<|My<|.r p)/\hC B H b (upd H p<|.l d):=s.newAt c (.inl ⟨d,aq⟩) λe t=>⟨p,d,rfl,e,aq,ba.tr t _ _ D⟩
theorem ee.writeOwn{e:Ds}(h:ee K H₀ B b H e d c)(s:c[i]?=My (My<|.r a))(hB:B a=My (i+2))(E:H a=My (.l f))(D:ba K (d5 B b) H ds xs):
  ee K H₀ B b (upd H a<|.l xs) (e.set i<|My<|.u ds) d c/\hC B H B (upd H a<|.l xs):=h.writeAt s hB (.inl ⟨xs,aq⟩) λt=>⟨a,xs,rfl,hB,aq,ba.tr t _ _ D⟩
def zx(i:Nat)(f:FL):G:=λe h=>match f (vw e) h with
 |some (.ok ds,β1)=>if Uc ds<=Nw then My (.nx<|e.set i<|My<|.u ds,β1)else M0
 |some (.error C,β1)=>My (.ex C e,β1)
 |none=>M0
theorem GM(h:PS X st<|gr (Jp<|h8 X.K f E)<|fi i):PS X st (tG X.K X.H₀ (zx i f) E):=h.imp λD r H j=>by
 obtain⟨B,G,M,S,o,k,ok,e,q⟩:=j;refine⟨d5 B G,vw M,S,ok.fr,ok.view,?_⟩;unfold zx at e;split at e
 .rename_i ds β1 b
  split at e
  .rename_i l
   cases e;refine⟨.ok ds,_,b,λV g t s=>⟨by rw[<-s.f5];exact l,λp m=>?_⟩⟩;obtain⟨a,c⟩:=ok.to rfl t;obtain⟨u,d,n⟩:=a.newOwn (i:=i) m s;exact q _ _ _ (c.trans n) d
  .cases e
 .rename_i C β1 b
  cases e;refine⟨.error C,_,b,λg t=>?_⟩;obtain⟨a,c⟩:=ok.to rfl t;exact q _ B g c a
 .cases e
def zA(i:Nat)(f:FL):G:=λe h=>match e.getD i M0 with
 |some (.u cs)=>match f (vw e) h with
  |some (.ok [d],β1)=>if Uc cs<Nw then My (.nx<|e.set i<|My<|.u<|cs++[d],β1)else M0
  |some (.error C,β1)=>My (.ex C e,β1)
  |_=>M0
 |_=>M0
theorem getD_some{D:Type}{e:List (Option D)}{i:Nat}{s:D}(h:e.getD i M0=My s):e[i]?=My (My s):=by
 rw[Nz]at h;cases z:e[i]? with
 |none=>rw[z]at h;cases h
 |some w=>rw[z]at h;simp at h;rw[h]
theorem GN(h:PS X st<|yE<|tBM X.K "list" xA (kZ i)<|h8 X.K f E):PS X st (tG X.K X.H₀ (zA i f) E):=h.imp λD P H y=>by
 obtain⟨B,s,G,M,o,A,ok,e,q⟩:=y;unfold zA at e;split at e
 .rename_i cs u
  obtain⟨v,l,a,S,rfl,F,I,Q⟩:=ok.tell i _<|getD_some u;refine⟨_,l,.inl ⟨rfl,S,en.of I⟩,d5 B s,vw G,M,ok.fr,ok.view,?_⟩;split at e
  .rename_i d β1 m
   split at e
   .rename_i J
    cases e;refine⟨.ok [d],_,m,λx w t V=>?_⟩;obtain⟨b,n⟩:=ok.to rfl t;obtain⟨v,rfl,L⟩:=ba.p3 V;obtain⟨R,c,T,g,p,N,j,k⟩:=b.tell i _<|getD_some u;rw[l]at c;cases c;cases p;refine⟨a,g,v,rfl,rfl,j,by rw[<-k.f5];exact J,?_⟩;obtain⟨r,O⟩:=b.writeOwn (ds:=cs++[d]) (xs:=g++[v]) l F j<|ba.append k<|ba.cons L ba.nil;exact q _ _ _ (n.trans O) r
   .cases e
  .rename_i C β1 m
   cases e;refine⟨.error C,_,m,λw t=>?_⟩;obtain⟨b,n⟩:=ok.to rfl t;exact q _ B w n b
  .cases e
 .cases e
noncomputable def lh(n:Nat)(ds:a0e):Ds:=ds.map (λd=>My<|Sl.h d)++NB (n-Uc ds) M0
def fW(n:Nat)(g:G):a0e->M D:=λe h=>match g (lh n e) h with
 |some (.rt d,β')=>My (.ok d,β')
 |some (.nx _,β')=>My (.ok .o,β')
 |some (.ex C _,β')=>My (.error C,β')
 |_=>M0
theorem vj{F:Fx}{N:a0g}(fr:Fr F H x)(E:ba K F H w y):∃B,ee K H B F.bg H (lh (Uc N) w) x (gh N y)/\(∀a,F.A a->B a=My 0\/B a=My 1)/\(∀a,B a=My 1->∃b l,F.bg=My (b,l)/\(a=b\/a=l))/\(∀a,B a≠M0->F.A a):=by
 classical
 refine⟨λa=>if F.A a then(if ∃b l,F.bg=My (b,l)/\(a=b\/a=l)then My 1 else My 0)else M0,⟨⟨λa D=>fr.occ a ?_,λb l e=>?_,fr.bag⟩,λb l e=>?_,?_,λ_ h=>h,λc k m=>(by
  have f:(if F.A c then(if ∃b l,F.bg=My (b,l)/\(c=b\/c=l)then My 1 else My 0)else M0)=My (k+2):=m;split at f
  .split at f<;>cases f
  .cases f),λc k m=>(by
  have f:(if F.A c then(if ∃b l,F.bg=My (b,l)/\(c=b\/c=l)then My 1 else My 0)else M0)=My (k+2):=m;split at f
  .split at f<;>cases f
  .cases f),λi s e=>?_⟩,λa D=>?_,λa D=>?_,λa D=>?_⟩
 .have g:(if F.A a then(if ∃b l,F.bg=My (b,l)/\(a=b\/a=l)then My 1 else My 0)else M0)≠(M0:a0H):=D
  split at g
  .assumption
  .exact NH rfl g
 .obtain⟨a1,a2,a3⟩:=fr.bgA b l e
  refine⟨?_,?_,a3⟩
  .show(if F.A b then(if ∃j l,F.bg=My (j,l)/\(b=j\/b=l)then My 1 else My 0)else M0)≠(M0:a0H)
   rw[Ng a1];split<;>simp
  .show(if F.A l then(if ∃j p,F.bg=My (j,p)/\(l=j\/l=p)then My 1 else My 0)else M0)≠(M0:a0H)
   rw[Ng a2];split<;>simp
 .obtain⟨a1,a2,a3⟩:=fr.bgA b l e
  exact⟨by rw[Ng a1,Ng ⟨b,l,e,.inl rfl⟩],by rw[Ng a2,Ng ⟨b,l,e,.inr rfl⟩]⟩
 .unfold lh gh
  rw[Ni,Ni,MZ,MZ,Pq,Pq,E.f5]
 .unfold lh at e
  unfold gh;rw[Q9,MZ]at e;rw[Q9,MZ,<-E.f5];by_cases n:i<Uc w
  .rw[Ng n,Nk]at e
   rw[Ng n,Nk];cases z:w[i]? with
   |none=>rw[z]at e;cases e
   |some d=>
    rw[z]at e;cases e;obtain⟨v,r,t⟩:=E.get z;refine⟨v,by rw[r];rfl,?_⟩;have o:Tr F H (d5 (λa=>if F.A a then(if ∃b l,F.bg=My (b,l)/\(a=b\/a=l)then My 1 else My 0)else M0) F.bg) H:=by
     refine⟨λa D _ u=>?_,λ_ _ _ h=>h,rfl⟩;have q:(if F.A a then(if ∃b l,F.bg=My (b,l)/\(a=b\/a=l)then My 1 else My 0)else M0)≠(M0:a0H):=u;rw[Nf D]at q;exact q rfl
    exact b_.tr o _ _ t
  .rw[Nf n,Pz]at e
   split at e<;>cases e
 .simp only[Ng D]
  split
  .exact .inr rfl
  .exact .inl rfl
 .simp only at D
  split at D
  .split at D
   .assumption
   .cases D
  .cases D
 .simp only at D
  split at D
  .assumption
  .exact NH rfl D
variable{P:NY}{w:N6}{mg:a0h}{X:Op}
theorem IR{st:OB}{N M:a0g}(F:hV K x qual st f fd)(S:bc N M<|ai st)
  (y:∀(j:M8) (A:Om) (D:a0B) (s:Na) (H:Hp) (E:XK),dv k (A.deeper<|RP qual (ai st) s.heap.objs.size f j)->
   PSs (dz (e_ P w) P w K mg X N qual (ai st) f j A D s H E) (cB st) (tG K H g (λ_=>E))):d_ P w K mg X (e_ P w) (k+1) f fd M (B6 K (Uc M)<|fW (Uc N) g):=by
 refine F.okE S (λvs H Q E h=>h.1) λj A D s H vs Q E U h=>?_;obtain⟨hl,p,V,β,fr,hd,r,i,e,h⟩:=h;refine⟨_,y j A D s H E U,?_⟩;obtain⟨B,ok,R,W,hn⟩:=vj (N:=N) fr hd;have I:∀{u:Ow} {c:Hp},hC B H u c->Fr (d5 u p.bg) c i->To p H c i/\Tr (d5 u p.bg) c p c:=λ{u c} s m=>by
  have hs:∀a,p.A a->u a≠M0:=λa G=>by
   rw[s.tg a<|R a G];rcases R a G with z|z<;>rw[z]<;>simp
  refine⟨⟨λa o G n=>s.kp a o G ?_,λa G=>m.occ a<|hs a G,λb l e=>fr.bgA b l e,m.bag⟩,λa G _ z=>G<|hs a z,λ_ _ _ h=>h,rfl⟩;cases q:B a with
  |none=>exact .inl rfl
  |some t=>
   have:=R a (hn a<|by rw[q];simp);rcases this with z|z
   .rw[q]at z;exact .inr z
   .obtain⟨b,l,e,w⟩:=W a z
    obtain⟨Y,Z⟩:=n b l e;rcases w with w|w
    .exact NH w Y
    .exact NH w Z
 unfold fW at e;split at e
 .rename_i d β1 O
  cases e;refine⟨B,p.bg,lh (Uc N) V,β,.rt d,i,ok,O,λv u c s m hv=>?_⟩;obtain⟨t1,t2⟩:=I s m;exact h v c t1<|b_.tr t2 _ _ hv
 .rename_i J β1 O
  cases e;refine⟨B,p.bg,lh (Uc N) V,β,.nx J,i,ok,O,λT u c s L=>?_⟩;obtain⟨t1,t2⟩:=I s L.fr;exact h _ c t1 rfl
 .rename_i C J β1 O
  cases e;refine⟨B,p.bg,lh (Uc N) V,β,.ex C J,i,ok,O,λT u c s L=>?_⟩;obtain⟨t1,t2⟩:=I s L.fr;exact h c t1
 .cases e
variable{u:NY}{A:Om}
theorem MS(g:A.handled=M0)(G t:M6)(P:t≠G)(D:a0L):V7 u w A G [G,t] D.size (λi v=>D[i]?=My v) (λi h=>h.IsTupleIter G t i/\h.IsTuple t D) where
 live:=λ_ _ st=>let ⟨o,e,_⟩:=st.1;⟨o,e⟩
 frame:=λ_ _ _ st k=>⟨st.1.at λo e=>k G (by simp) o e,by
  obtain⟨o,e,r⟩:=st.2;exact⟨o,k t (by simp) o e,r⟩⟩
 item:=λi s Q E n st p=>by
  obtain⟨o,c,M,b⟩:=id st.1;obtain⟨j,d,_,l,f⟩:=st.2;have K:D[i]?=My D[i]:=by simp[n]
  unfold Pw;refine MY<|wpAny_callSpecial?_slot (name:=Nl "__next__") st.1.typeIs Rh<|Ot Rh st.1.typeIs V8 ?_<|VX _;show Nu _ _ (XS (.ref G) 0>>=_) _ _ _;refine MY<|OL c b (x:= .ref t) rfl ?_;show Nu _ _ (if(Ny t==Ov)=M3 then _ else _) _ _ _;rw[Nf (show ¬((Ny t==Ov)=M3)from Nb)];show Nu _ _ (XS (.ref G) 1>>=_) _ _ _;refine MY<|OL c b (x:= .int i 0) rfl ?_;show Nu _ _ (seqItems? (.ref t)>>=_) _ _ _;refine MY<|Py d f ?_;simp only[Pn,K];refine MY<|Qu c b (by simp)<|M1 ⟨D[i],rfl,M1<|p _ _ s.toks K ⟨?_,?_⟩<|OY ..⟩
  .exact⟨_,O6 _ c<|QZ<|OR b _,(U6 ..).trans M,by rw[OR b];simp[Rc]⟩
  .exact⟨j,(OY ..).extBut _ _ P d,by assumption,l,f⟩
 done:=λs Q E st q=>by
  obtain⟨o,c,M,b⟩:=id st.1;obtain⟨j,d,_,l,f⟩:=st.2;have K:D[D.size]?=M0:=by simp
  unfold Pw;refine MY<|wpAny_callSpecial?_slot (name:=Nl "__next__") st.1.typeIs Rh<|Ot Rh st.1.typeIs V8 ?_<|VX _;show Nu _ _ (XS (.ref G) 0>>=_) _ _ _;refine MY<|OL c b (x:= .ref t) rfl ?_;show Nu _ _ (if(Ny t==Ov)=M3 then _ else _) _ _ _;rw[Nf (show ¬((Ny t==Ov)=M3)from Nb)];show Nu _ _ (XS (.ref G) 1>>=_) _ _ _;refine MY<|OL c b (x:= .int D.size 0) rfl ?_;show Nu _ _ (seqItems? (.ref t)>>=_) _ _ _;refine MY<|Py d f ?_;simp only[Pn,K];refine MY<|PL<|MY<|Qu c b (by simp) ?_;show Nu _ _ (X9 (.type "StopIteration") []>>=_) _ _ _;refine MY ?_;simp only[X9,newTuple];refine MY (OH ?_<|by size_fits);refine MY (m:=Sc _ _)<|Rn (a:=Ov) (by first|rfl|(simp only[Sc];rfl)) ?_;refine OH ?_ (by size_fits)
  simp only[raiseNew];refine MY<|Xx ?_
  first|rw[show A.in1.handled=M0 from g]|rw[g];skip
  refine MY<|M1<|wpAny_throw ?_;exact q _ _ (((OY ..).extBut.push _).push _) ⟨_,NA _ rfl,rfl⟩
structure Ap (z TI TO i1 i2:M6) (f1 f2:a0n):Prop where
 a1:TI≠z
 a2:TO≠z
 a3:i1≠z
 a4:i2≠z
 a5:TI≠TO
 a6:TI≠i1
 a7:TI≠i2
 a8:TO≠i1
 a9:TO≠i2
 b1:i1≠i2
 c1:z∉f1
 c2:TO∉f1
 c3:i2∉f1
 d1:z∉f2
 d2:TO∉f2
 d3:i1∉f2
 m1:i1∈f1
 m2:i2∈f2
end
section
variable{prog:NY}{w:N6}{A:Om}{E:a0d}{s:Na}
theorem cA{s:M6}{f:a0n}{h w:Op}(A:N1 s h w)(n:s∉f):∀b∈f,∀o,h.get? b=My o->w.get? b=My o:=λb a o e=>A.extBut b o (λq=>n<|q▸a) e
theorem z0{z TI TO r i2:M6}{f1 f2:a0n}{t u k:Nat}{P1 P2:Nat->M8->Prop}{U W:Nat->Op->Prop}{a b:M8}{Q:a0d}(J:V7 prog w A r f1 t P1 U)(L:V7 prog w A i2 f2 u P2 W)(d:Ap z TI TO r i2 f1 f2)
  (O:TF s.heap z TI TO .none) (eI:QP s.heap TI (.ref r)<|.ref i2) (eO:QP s.heap TO a b) (s1:U k s.heap) (s2:W k s.heap) (k1:k<t) (k2:k<u)
  (hQ:∀D tk x y,P1 k x->P2 k y->TF D z TI TO (Rc s.heap.objs.size)->QP D TO x y->U (k+1) D->W (k+1) D->QP D s.heap.objs.size x y->D.objs.size=s.heap.objs.size+1->(∀c o,c≠z->c≠TO->c≠r->c≠i2->s.heap.get? c=My o->D.get? c=My o)->Q (.ref s.heap.objs.size) {s with heap:=D,toks:=tk}):
  Nu (NK prog w) A (Builtin.«zip.__next__» ⟨[.ref z],[]⟩) (λX s'=>∃v,X= .done (.ret v)/\Q v s') E s:=by
 obtain⟨Y,gg,dd,af,os⟩:=s;show Nu _ _ (XS (.ref z) 2>>=_) _ _ _;refine MY<|OL O rfl (x:= .bool M5) rfl ?_;show Nu _ _ (XS (.ref z) 3>>=_) _ _ _;refine MY<|OL O rfl (x:= .ref TI) rfl ?_;refine MY<|Py eI rfl ?_;show Nu _ _ (PX (.ref z)>>=_) _ _ _;refine MY ?_;unfold PX;refine MY<|OL O rfl (x:= .none) rfl<|M1 ?_;simp only[Ol];refine MY<|PL ?_;refine MY<|OL O rfl (x:= .ref TO) rfl ?_;refine MY<|O3 O (by simp) λZ B g=>?_
 replace B:TF Z z TI TO .ellipsis:=B
 replace g:N1 z Y Z:=g
 refine MY ?_;simp only[Vc,List.zipIdx_nil,QS,Q8];refine MY<|MY<|TY ?_;show Nu _ _ (Pw (.ref r)>>=_) _ _ _;refine MY<|J.item k _ _ _ k1 (J.frame _ _ _ s1<|cA g d.c1) λx K ag px M h=>M1 ?_
 replace h:N1 r Z K:=h
 have P:QP K TO a b:=h.extBut _ _ d.a8<|g.extBut _ _ d.a2 eO;refine MY<|Py P rfl ?_;refine MY<|US P λS C i=>?_
 replace C:QP S TO x b:=C
 replace i:N1 TO K S:=i
 refine MY<|UQ<|M1 ?_;refine MY<|MY<|TY ?_;show Nu _ _ (Pw (.ref i2)>>=_) _ _ _;refine MY<|L.item k _ _ _ k2 (L.frame _ _ _ (L.frame _ _ _ (L.frame _ _ _ s2<|cA g d.d1)<|cA h d.d3)<|cA i d.d2) λy V ah py aa j=>M1 ?_
 replace j:N1 i2 S V:=j
 have R:QP V TO x b:=j.extBut _ _ d.a9 C;refine MY<|Py R rfl ?_;refine MY<|US R λf m l=>?_
 replace m:QP f TO x y:=m
 replace l:N1 TO V f:=l
 refine MY<|UQ<|M1<|M1 ?_;refine MY<|Py m rfl ?_;refine MY<|UR ?_;have zs:f.objs.size=Y.objs.size:=by rw[l.1,j.1,i.1,h.1,g.1]
 have T:TF f z TI TO .ellipsis:=l.extBut _ _ d.a2.symm<|j.extBut _ _ d.a4.symm<|i.extBut _ _ d.a2.symm<|h.extBut _ _ d.a3.symm B;have ab:∀c o,c≠z->c≠TO->c≠r->c≠i2->Y.get? c=My o->f.get? c=My o:=λc o t u n3 n4 e=>l.extBut _ _ u<|j.extBut _ _ n4<|i.extBut _ _ u<|h.extBut _ _ n3<|g.extBut _ _ t e;have ac:U (k+1) f:=J.frame _ _ _ (J.frame _ _ _ (J.frame _ _ _ M<|cA i d.c2)<|cA j d.c3)<|cA l d.c2;have ad:W (k+1) f:=L.frame _ _ _ aa<|cA l d.d2;have zl:z<f.objs.size:=NI T;show Nu _ _ (SS (.ref z) (.ref f.objs.size)>>=_) _ _ _;refine MY ?_;unfold SS;have ae:TF (f.push {cls:= .type "tuple",data:= .seq #[x,y]}) z TI TO .ellipsis:=M4 _ T;refine MY<|O3 ae (by simp) λg7 F H=>?_
 replace F:TF g7 z TI TO (Rc f.objs.size):=F
 refine O3 F (by simp) λN p I=>?_
 replace p:TF N z TI TO (Rc f.objs.size):=p
 have G:∀c o,c≠z->f.get? c=My o->N.get? c=My o:=λc o n e=>I.extBut _ _ n<|H.extBut _ _ n<|M4 _ e;have eT:QP N f.objs.size x y:=I.extBut _ _ (P7 zl)<|H.extBut _ _ (P7 zl)<|NA _ rfl;have z8:N.objs.size=f.objs.size+1:=by rw[I.1,H.1,OD]
 rw[zs]at p eT z8;refine M1 ⟨_,rfl,?_⟩;show Q (.ref f.objs.size) ⟨N,gg,dd,_,os⟩;rw[zs];exact hQ N _ x y px py p (G _ _ d.a2 m) (J.frame _ _ _ ac λb hb o e=>G b o (λq=>d.c1<|q▸hb) e) (L.frame _ _ _ ad λb hb o e=>G b o (λq=>d.d1<|q▸hb) e) eT z8 λc o t u n3 n4 e=>G c o t<|ab c o t u n3 n4 e
theorem Et{z TI TO n i2:M6}{f1 f2:a0n}(F:V7 prog w A n f1 m P1 S1)(H:V7 prog w A i2 f2 P P2 S2)(i:Ap z TI TO n i2 f1 f2)
  (t:TF s.heap z TI TO .none) (W:QP s.heap TI (.ref n)<|.ref i2) (X:QP s.heap TO a b) (R:S1 k s.heap) (Y:S2 k s.heap) (D:k=m\/(k<m/\k=P))
  (T:∀G e Z,(∀c o,c≠z->c≠TO->c≠n->c≠i2->s.heap.get? c=My o->G.get? c=My o)->(∃o,G.get? e=My o/\o.cls= .type "StopIteration")->E (.ref e) {s with heap:=G,toks:=Z}):
  Nu (NK prog w) A (Builtin.«zip.__next__» ⟨[.ref z],[]⟩) Q E s:=by
 obtain⟨K,gg,dd,M,os⟩:=s;show Nu _ _ (XS (.ref z) 2>>=_) _ _ _;refine MY<|OL t rfl (x:= .bool M5) rfl ?_;show Nu _ _ (XS (.ref z) 3>>=_) _ _ _;refine MY<|OL t rfl (x:= .ref TI) rfl ?_;refine MY<|Py W rfl ?_;show Nu _ _ (PX (.ref z)>>=_) _ _ _;refine MY ?_;unfold PX;refine MY<|OL t rfl (x:= .none) rfl<|M1 ?_;simp only[Ol];refine MY<|PL ?_;refine MY<|OL t rfl (x:= .ref TO) rfl ?_;refine MY<|O3 t (by simp) λI j f=>?_
 replace j:TF I z TI TO .ellipsis:=j
 replace f:N1 z K I:=f
 refine MY ?_;simp only[Vc,List.zipIdx_nil,QS,Q8];refine MY<|MY<|TY ?_;show Nu _ _ (Pw (.ref n)>>=_) _ _ _;rcases D with rfl|⟨D,rfl⟩
 .refine MY (F.done _ _ _ (F.frame _ _ _ R<|cA f i.c1) λr e d L=>?_)
  replace d:Vf n I r:=d
  obtain⟨N,h,u⟩:=L;have v:TF r z TI TO .ellipsis:=d _ _ i.a3.symm j;have p:e≠z:=λq=>by subst q;rw[v]at h;cases h;simp at u
  exact O3 v (by simp) λJ _ g=>T J e _ (λc o m _ O _ q=>g.extBut _ _ m<|d _ _ O<|f.extBut _ _ m q) ⟨N,g.extBut _ _ p h,u⟩
 .refine MY (F.item k _ _ _ D (F.frame _ _ _ R<|cA f i.c1) λx r S px V d=>M1 ?_)
  replace d:N1 n I r:=d
  have y:QP r TO a b:=d.extBut _ _ i.a8<|f.extBut _ _ i.a2 X;refine MY<|Py y rfl ?_;refine MY<|US y λJ aa g=>?_
  replace g:N1 TO r J:=g
  refine MY<|UQ<|M1 ?_;refine MY<|MY<|TY ?_;show Nu _ _ (Pw (.ref i2)>>=_) _ _ _;refine MY<|H.done _ _ _ (H.frame _ _ _ (H.frame _ _ _ (H.frame _ _ _ Y<|cA f i.d1)<|cA d i.d3)<|cA g i.d2) λU e l L=>?_
  replace l:Vf i2 J U:=l
  obtain⟨N,h,u⟩:=L;have B:TF U z TI TO .ellipsis:=l _ _ i.a4.symm<|g.extBut _ _ i.a2.symm<|d.extBut _ _ i.a3.symm j;have p:e≠z:=λq=>by subst q;rw[B]at h;cases h;simp at u
  exact O3 B (by simp) λg5 _ C=>T g5 e _ (λc o m P O n4 q=>C.extBut _ _ m<|l _ _ n4<|g.extBut _ _ P<|d.extBut _ _ O<|f.extBut _ _ m q) ⟨N,C.extBut _ _ p h,u⟩
theorem zZ{z TI TO e i2:M6}{f1 f2:a0n}(h:∀d:Om,d.handled=A.handled->V7 prog w d e f1 I P1 S1)(i:∀d:Om,d.handled=A.handled->V7 prog w d i2 f2 n2 P2 S2)(j:Ap z TI TO e i2 f1 f2)
  (g:TF s.heap z TI TO .none) (l:QP s.heap TI (.ref e)<|.ref i2) (m:QP s.heap TO a b) (n:S1 k s.heap) (p:S2 k s.heap) (K:k<I) (M:k<n2)
  (q:∀D f x y,P1 k x->P2 k y->TF D z TI TO (Rc s.heap.objs.size)->QP D TO x y->S1 (k+1) D->S2 (k+1) D->QP D s.heap.objs.size x y->D.objs.size=s.heap.objs.size+1->(∀c o,c≠z->c≠TO->c≠e->c≠i2->s.heap.get? c=My o->D.get? c=My o)->Q (My<|.ref s.heap.objs.size) {s with heap:=D,toks:=f}):
  Nu (NK prog w) A (Sf<|.ref z) Q E s:=by
 have G:s.TypeIs (.ref z) "zip":=⟨_,g,rfl⟩;unfold Sf;exact MY<|Rb<|wpAny_callSpecial?_slot (name:=Nl "__next__") G Ua<|Ot Ua G F.entry_zip_next (z0 (h _ rfl) (i _ rfl) j g l m n p K M λD f x y S V r t u v B C H=>M1<|q D f x y S V r t u v B C H)<|F.args_zip_next_1 _
theorem Es{z TI TO f i2:M6}{f1 f2:a0n}(i:∀d:Om,d.handled=A.handled->V7 prog w d f f1 x P1 S1)(j:∀d:Om,d.handled=A.handled->V7 prog w d i2 f2 n2 P2 S2)(l:Ap z TI TO f i2 f1 f2)
  (g:TF s.heap z TI TO .none) (m:QP s.heap TI (.ref f)<|.ref i2) (n:QP s.heap TO a b) (p:S1 k s.heap) (q:S2 k s.heap) (K:k=x\/(k<x/\k=n2))
  (r:∀D h,(∀c o,c≠z->c≠TO->c≠f->c≠i2->s.heap.get? c=My o->D.get? c=My o)->Q M0 {s with heap:=D,toks:=h}):Nu (NK prog w) A (Sf<|.ref z) Q E s:=by
 have G:s.TypeIs (.ref z) "zip":=⟨_,g,rfl⟩;unfold Sf;refine MY<|Rb<|wpAny_callSpecial?_slot (name:=Nl "__next__") G Ua<|Ot Ua G F.entry_zip_next (Et (i _ rfl) (j _ rfl) l g m n p q K λD e h t u=>?_)<|F.args_zip_next_1 _;obtain⟨o,v,y⟩:=u;refine MY<|Qr (T:="StopIteration") (b:=M3) ⟨o,v,y⟩ WU ?_;exact M1<|r _ _ t
def r_(b:Bool)(h:Op)(a:M6)(s:a0L):Prop:=if b=M3 then h.IsList a s else h.IsTuple a s
noncomputable def G5(b:Bool):String:=if b=M3 then "list_iterator"else "tuple_iterator"
noncomputable abbrev qK(b:Bool)(a:M6):Oz:={cls:= .type<|G5 b,data:= .fields #[.ref a,.int 0 0]}
def gZ(b:Bool)(h:Op)(s a:M6)(k:Nat):Prop:=if b=M3 then h.IsListIter s a k else h.IsTupleIter s a k
theorem r_.keep{b:Bool}{h h':Op}(x:r_ b h a c)(k:∀o,h.get? a=My o->h'.get? a=My o):r_ b h' a c:=by
 unfold r_ at x⊢;split at x
 .rename_i q;rw[Ng q];exact x.at λo e=>k o e
 .rename_i q;rw[Nf q]
  obtain⟨o,e,r⟩:=x;exact⟨o,k o e,r⟩
theorem qw{b:Bool}(x:r_ b s.heap a c)(h:Q (.ref s.heap.objs.size) {s with heap:=s.heap.push (qK b a)}):Nu (NK prog w) A (UO<|.ref a) Q E s:=by
 cases b with
 |true=>exact TL (show s.heap.IsList a c from x) h
 |false=>exact Tw (show s.heap.IsTuple a c from x) h
theorem uW(b:Bool)(c:A.handled=M0)(D a:M6)(E:a≠D)(s:a0L):V7 prog w A D [D,a] s.size (λi v=>s[i]?=My v) (λi h=>gZ b h D a i/\r_ b h a s):=by
 cases b with
 |true=>exact Xg c D a E s
 |false=>exact MS c D a E s
abbrev YF(s:Bool)(h:Op)(a:M6):Op:=h.push<|qK s a
abbrev YE(s a:Bool)(h:Op)(b c:M6):Op:=(YF s h b).push<|qK a c
abbrev YD(s b:Bool)(h:Op)(a c:M6):Op:=(YE s b h a c).push {cls:= .type "tuple",data:= .seq #[.ref h.objs.size,.ref (YF s h a).objs.size]}
abbrev YC(s a:Bool)(h:Op)(b c:M6):Op:=(YD s a h b c).push {cls:= .type "tuple",data:= .seq #[.none,.none]}
abbrev F_(s a:Bool)(h:Op)(b c:M6):Op:=(YC s a h b c).push {cls:= .type "zip",data:= .fields #[.none,.bool M5,.bool M5,.ref (YE s a h b c).objs.size,.ref (YD s a h b c).objs.size]}
theorem zc(D c:Bool)(a b:M6)(E G:a0L):
  Meets (Builtin.«zip.__new__» ⟨[.type "zip",.ref a,.ref b],[]⟩) (λ_ R s=>r_ D s.heap a E/\r_ c s.heap b G/\R (.ok<|.ret<|.ref (YC D c s.heap a b).objs.size) {s with heap:=F_ D c s.heap a b}):=
 .of_wp λprog w A R s h=>by
  obtain⟨f,g,d,i,K⟩:=s;obtain⟨k,l,q⟩:=h;have j:=sub_zip;have m:r_ D (Shared.heap ⟨f,g,d,i,K⟩) a E:=k;have n:r_ c (Shared.heap ⟨f.push<|qK D a,g,d,i,K⟩) b G:=l.keep λo e=>M4 _ e
  wp_walk using qw m,qw n
  exact⟨_,rfl,q⟩
theorem Ei{D d:Bool}(r:r_ D s.heap y B)(t:r_ d s.heap z C)
  (h:∀G,TF G (s.heap.objs.size+4) (s.heap.objs.size+2) (s.heap.objs.size+3) .none->QP G (s.heap.objs.size+2) (.ref s.heap.objs.size) (.ref<|s.heap.objs.size+1)->QP G (s.heap.objs.size+3) .none .none->gZ D G s.heap.objs.size y 0->gZ d G (s.heap.objs.size+1) z 0->G.objs.size=s.heap.objs.size+5->(∀c o,s.heap.get? c=My o->G.get? c=My o)->Q (.ref<|s.heap.objs.size+4) {s with heap:=G}):
  Nu (NK prog w) A (RO (.type "zip") [.ref y,.ref z]) Q E s:=by
 refine callType_new F.called_zip (by decide) (F.typeCall_zip_2 _ _) (F.newCall_zip_2 _ _) (λK=>F.args_object_init_3 K _ _) F.entry_zip_new (zc D d y z B C) ⟨r,t,?_⟩;have g:(YF D s.heap y).objs.size=s.heap.objs.size+1:=OD ..;have i:(YE D d s.heap y z).objs.size=s.heap.objs.size+2:=by rw[OD,g]
 have j:(YD D d s.heap y z).objs.size=s.heap.objs.size+3:=by rw[OD,i]
 have k:(YC D d s.heap y z).objs.size=s.heap.objs.size+4:=by rw[OD,j]
 have u:(F_ D d s.heap y z).objs.size=s.heap.objs.size+5:=by rw[OD,k]
 have l:(F_ D d s.heap y z).get? (YC D d s.heap y z).objs.size=My _:=NA _ rfl;have m:(F_ D d s.heap y z).get? (YD D d s.heap y z).objs.size=My _:=M4 _<|NA _ rfl;have n:(F_ D d s.heap y z).get? (YE D d s.heap y z).objs.size=My _:=M4 _<|M4 _<|NA _ rfl;have q:(F_ D d s.heap y z).get? (YF D s.heap y).objs.size=My _:=M4 _<|M4 _<|M4 _<|NA _ rfl;have v:(F_ D d s.heap y z).get? s.heap.objs.size=My _:=M4 _<|M4 _<|M4 _<|M4 _<|NA _ rfl;show _/\_;rw[i,j,k]at l;rw[g,i]at n;rw[j]at m;rw[g]at q;rw[k];have f:∀(b:Bool) (G:Op) (p a:M6),G.get? p=My (qK b a)->gZ b G p a 0:=λb G p a e=>by
  cases b with
  |true=>exact⟨_,e,rfl,rfl⟩
  |false=>exact⟨_,e,rfl,rfl⟩
 exact⟨⟨_,l,rfl⟩,h _ l n m (f _ _ _ _ v) (f _ _ _ _ q) u λc o x=>M4 _<|M4 _<|M4 _<|M4 _<|M4 _ x⟩
def ra(b:Bool)(K:ND)(H:Hp)(a:M6)(s:a0i):Prop:=if b=M3 then en K H a s else hU K H a s
noncomputable def Y5(A a:Bool)(K:ND)(b c:M6):It:=
 ⟨λi H=>∃s w x y,ra A K H b s/\ra a K H c w/\s[i]?=My x/\w[i]?=My y,
  λi H v d=>∃p x y,H p=M0/\v= .r p/\d=upd H p (.t [x,y])/\∀s w,ra A K H b s->ra a K H c w->s[i]?=My x/\w[i]?=My y,
  λi H=>∃s w,ra A K H b s/\ra a K H c w/\(Uc s=i\/(i<Uc s/\Uc w=i))⟩
variable{X:Cx}{A:a0c}{σ:St}{H:Hp}
theorem bx.src{b:Bool}(I:bx X A σ H s)(h:ra b X.K H a c):∃w:a0f,ay c w/\r_ b s.heap a w.toArray:=by
 cases b with
 |true=>
  obtain⟨w,r,p,_⟩:=I.list (show en X.K H a c from h);exact⟨w,r,p.isList⟩
 |false=>
  obtain⟨w,r,p,_⟩:=I.tuple (show hU X.K H a c from h);exact⟨w,r,p⟩
theorem bx.src_inj{b:Bool}(I:bx X A σ H s)(h:ra b X.K H a c)(w:ra b X.K H a d):c=d:=by
 cases b with
 |true=>exact I.list_inj (show en X.K H a c from h) w
 |false=>exact I.tuple_inj (show hU X.K H a c from h) w
theorem gZ.get{b:Bool}{h:Op}(x:gZ b h f a k):∃o,h.get? f=My o/\o.cls= .type (G5 b)/\∃s,o.data= .fields s:=by
 cases b with
 |true=>obtain⟨o,e,c,d⟩:=(show h.IsListIter f a k from x);exact⟨o,e,c,_,d⟩
 |false=>obtain⟨o,e,c,d⟩:=(show h.IsTupleIter f a k from x);exact⟨o,e,c,_,d⟩
theorem gZ.keep{b:Bool}{h h':Op}(x:gZ b h c a k)(q:∀o,h.get? c=My o->h'.get? c=My o):gZ b h' c a k:=by
 cases b with
 |true=>exact(show h.IsListIter c a k from x).at λo e=>q o e
 |false=>exact(show h.IsTupleIter c a k from x).at λo e=>q o e
theorem bx.turnNew{E:Op}{t':Nat}{ch:a0n}{p:M6}{o:HO}(I:bx X A σ H s)(a:∀b∈ch,fZ X A H b)(k:∀b u,b∉ch->s.heap.get? b=My u->E.get? b=My u)(d:s.heap.objs.size<=p)(G:cq X.p X.w (upd H p o) E p o):bx X A σ (upd H p o) {s with heap:=E,toks:=t'}:=by
 have D:H p=M0:=I.hok.fresh d;have f:∀b u,H b=My u->b∉ch:=λb u e z=>by rw[(a b z).1]at e;cases e
 refine I.call' (s':={s with heap:=E,toks:=t'}) (ch:=ch) rfl ⟨λb u e _ _ hc=>k b u hc e,λb u e _ _ hc=>⟨u.slots,k b u hc e⟩,λb u e z hc=>?_,λb u e hc=>⟨u,k b u hc e⟩,λb K e=>?_,λb u K e=>?_,λb K e=>⟨#[],?_⟩⟩ (λb u e=>?_) I.bare λb g=>?_
 .rw[bb<|Og<|NM (NI e) d];exact z
 .rw[bb<|bw e D];exact e
 .rw[bb<|bw e D];exact e
 .rw[bb<|bw e D,e];simp
 .by_cases z:b=p
  .subst z;rw[aq]at e;cases e;exact G
  .rw[bb z]at e
   refine(I.hok b u e).stay (λc v hc q=>k c v ?_ q) (λc q=>by rw[bb<|bw q D];exact q) λc M q=>by rw[bb<|bw q D];exact q
   rcases hc with rfl|hc
   .exact f _ _ e
   .exact f _ _ hc
 .obtain⟨l,f1,f2,h,i,j⟩:=a b g
  exact⟨h,f1,i,j⟩
theorem bx.turnL{w:Op}{ch:a0n}(I:bx X A σ H s)(a:∀b∈ch,fZ X A H b)(k:∀b u,b∉ch->s.heap.get? b=My u->w.get? b=My u):bx X A σ H {s with heap:=w,toks:=t'}:=by
 have d:∀b u,H b=My u->b∉ch:=λb u e z=>by rw[(a b z).1]at e;cases e
 refine I.call' (s':={s with heap:=w,toks:=t'}) (ch:=ch) rfl ⟨λb u e _ _ hc=>k b u hc e,λb u e _ _ hc=>⟨u.slots,k b u hc e⟩,λb u e z hc=>z,λb u e hc=>⟨u,k b u hc e⟩,λb D e=>e,λb u D e=>e,λb D e=>⟨#[],by rw[e];simp⟩⟩ (λb u e=>?_) I.bare λb f=>?_
 .refine(I.hok b u e).stay (λc v hc q=>k c v ?_ q) (λc q=>q) λc E q=>q
  rcases hc with rfl|hc
  .exact d _ _ e
  .exact d _ _ hc
 .obtain⟨j,f1,f2,g,h,i⟩:=a b f
  exact⟨g,f1,h,i⟩
theorem bx.f5{b:Bool}(I:bx X A σ H s)(h:ra b X.K H a l)(f:fZ X A H c):a≠c:=by
 obtain⟨i,f1,f2,f3,j,k⟩:=f;have d:∀o,X.K.lookup a=My o->a≠c:=λo e z=>by
  have g:=I.ok.mod.kin a o e;subst z;rcases f3 with f3|f3
  .exact I.ok.noex a o g f3
  .exact NH (NM (NI (I.ok.bs a o g).1) f3) (Oi _)
 have w:∀u,Rd H a u->a≠c:=λu r z=>by
  subst z;rcases r with r|⟨_,r⟩<;>rw[i]at r<;>cases r
 cases b with
 |true=>
  rcases(show en X.K H a l from h)with h|⟨o,_,_,e,_⟩
  .exact w _ h
  .exact d o e
 |false=>
  rcases(show hU X.K H a l from h)with h|⟨o,_,_,e,_⟩
  .exact w _ h
  .exact d o e
theorem ED{w:N6}{K:ND}{x1}(b1 Z:Bool)(B C z TI TO f i2:M6)(nd:[z,TI,TO,f,i2].Nodup):
  ni P w K (.Tuple elts x1 pos) (Y5 b1 Z K B C) [z,TI,TO,f,i2] z (λi h=>TF h z TI TO .none/\QP h TI (.ref f) (.ref i2)/\(∃a b,QP h TO a b)/\gZ b1 h f B i/\gZ Z h i2 C i) where
 mem:=by simp
 obj:=λi h G b g=>by
  obtain⟨n,p,⟨a,b',F⟩,J,L⟩:=G;simp only[Nn,OW,RQ]at g;rcases g with rfl|rfl|rfl|rfl|rfl
  .exact⟨_,n,λv q=>by cases q⟩
  .exact⟨_,p,λv q=>by cases q⟩
  .exact⟨_,F,λv q=>by cases q⟩
  .obtain⟨o,e,_,fs,d⟩:=J.get
   exact⟨o,e,λv q=>by rw[d]at q;cases q⟩
  .obtain⟨o,e,_,fs,d⟩:=L.get
   exact⟨o,e,λv q=>by rw[d]at q;cases q⟩
 keep:=λi h D G k=>by
  obtain⟨n,p,⟨a,b',F⟩,J,L⟩:=G;exact⟨k z (by simp) _ n,k TI (by simp) _ p,⟨a,b',k TO (by simp) _ F⟩,J.keep λo e=>k f (by simp) o e,L.keep λo e=>k i2 (by simp) o e⟩
 item:=by
  intro X hP hw hK m i A s σ H E I N G hg;subst hP hw hK;obtain⟨xs,ys,x,y,S,V,hx,hy⟩:=hg;obtain⟨n,p,⟨a,b',F⟩,J,L⟩:=G;obtain⟨j,r1,p1⟩:=bx.src I S;obtain⟨l,r2,p2⟩:=bx.src I V;have hd:=I.ok.hd m;simp only[N2,Nn,OW,RQ,not_or]at nd;obtain⟨⟨U,z2,R,T⟩,⟨t1,t2,t3⟩,⟨W,o2⟩,O,_⟩:=nd;have r:∀c∈[z,TI,TO,f,i2],B≠c:=λc m=>bx.f5 I S<|N c m;have t:∀c∈[z,TI,TO,f,i2],C≠c:=λc m=>bx.f5 I V<|N c m;have ap:Ap z TI TO f i2 [f,B] [i2,C]:=⟨Ne.symm U,Ne.symm z2,Ne.symm R,Ne.symm T,t1,t2,t3,W,o2,O,by simp[R,(r z<|by simp).symm],by simp[W,(r TO<|by simp).symm],by simp[Ne.symm O,(r i2<|by simp).symm],by simp[T,(t z<|by simp).symm],by simp[o2,(t TO<|by simp).symm],by simp[O,(t f<|by simp).symm],by simp,by simp⟩;have k1:i<j.toArray.size:=by
   rw[NG,<-r1.length];exact(Nd.mp hx).1
  have k2:i<l.toArray.size:=by
   rw[NG,<-r2.length];exact(Nd.mp hy).1
  refine zZ (λA' D=>uW b1 (D.trans hd) f B (r f<|by simp) j.toArray) (λA' D=>uW Z (D.trans hd) i2 C (t i2<|by simp) l.toArray) ap n p F ⟨J,p1⟩ ⟨L,p2⟩ k1 k2 λD tk u v pu pv fz fO f1 f2 fT sz kp=>?_;refine⟨_,rfl,wpAny_letOwnedTupleGo_zip (s:={s with heap:=D,toks:=tk}) fz λQ Y M=>?_⟩
  replace M:N1 z D Q:=M
  have zT:s.heap.objs.size≠z:=P7<|NI n;obtain⟨u',hu,ru⟩:=r1.get hx;obtain⟨v',hv,rv⟩:=r2.get hy;have eu:u=u':=by
   have:j[i]?=My u:=by simpa using pu
   rw[this]at hu;exact N0 hu
  have ev:v=v':=by
   have:l[i]?=My v:=by simpa using pv
   rw[this]at hv;exact N0 hv
  subst eu ev;have kk:∀b o,b∉[z,TI,TO,f,i2]->s.heap.get? b=My o->Q.get? b=My o:=λb o g e=>by
   simp only[Nn,OW,RQ,not_or]at g;exact M.extBut b o g.1<|kp b o g.1 g.2.2.1 g.2.2.2.1 g.2.2.2.2 e
  have I2:bx X A σ (upd H s.heap.objs.size<|.t [x,y]) {s with heap:=Q,toks:=tk}:=by
   refine bx.turnNew I N kk (Nh _) ⟨by show 2<=Nw;decide,[u,v],.cons ru<|.cons rv .nil,_,M.extBut _ _ zT fT,rfl,_,rfl⟩
  refine⟨.r s.heap.objs.size,_,I2,rfl,⟨s.heap.objs.size,x,y,I.hok.fresh<|Nh _,rfl,rfl,λas bs h1 h2=>⟨by rw[bx.src_inj I h1 S];exact hx,by rw[bx.src_inj I h2 V];exact hy⟩⟩,⟨Y,?_,⟨u,v,?_⟩,?_,?_⟩,λb g=>?_⟩
  .exact M.extBut _ _ (Ne.symm U) (kp TI _ (Ne.symm U) t1 t2 t3 p)
  .exact M.extBut _ _ (Ne.symm z2) fO
  .exact f1.1.keep λo e=>M.extBut _ _ (Ne.symm R) e
  .exact f2.1.keep λo e=>M.extBut _ _ (Ne.symm T) e
  .rw[bb]
   .exact(N b g).1
   .intro q
    have ol:∃o,s.heap.get? b=My o:=by
     simp only[Nn,OW,RQ]at g;rcases g with rfl|rfl|rfl|rfl|rfl
     .exact⟨_,n⟩
     .exact⟨_,p⟩
     .exact⟨_,F⟩
     .obtain⟨o,e,_⟩:=J.get;exact⟨o,e⟩
     .obtain⟨o,e,_⟩:=L.get;exact⟨o,e⟩
    obtain⟨o,e⟩:=ol;exact NH (NI e) (by rw[q];exact Oi _)
 done:=by
  intro X hP hw hK m i A s σ H E I N G hg;subst hP hw hK;obtain⟨xs,ys,S,V,hl⟩:=hg;obtain⟨n,p,⟨a,b',F⟩,J,L⟩:=G;obtain⟨j,r1,p1⟩:=bx.src I S;obtain⟨l,r2,p2⟩:=bx.src I V;have hd:=I.ok.hd m;simp only[N2,Nn,OW,RQ,not_or]at nd;obtain⟨⟨U,z2,R,T⟩,⟨t1,t2,t3⟩,⟨W,o2⟩,O,_⟩:=nd;have r:∀c∈[z,TI,TO,f,i2],B≠c:=λc m=>bx.f5 I S<|N c m;have t:∀c∈[z,TI,TO,f,i2],C≠c:=λc m=>bx.f5 I V<|N c m;have ap:Ap z TI TO f i2 [f,B] [i2,C]:=⟨Ne.symm U,Ne.symm z2,Ne.symm R,Ne.symm T,t1,t2,t3,W,o2,O,by simp[R,(r z<|by simp).symm],by simp[W,(r TO<|by simp).symm],by simp[Ne.symm O,(r i2<|by simp).symm],by simp[T,(t z<|by simp).symm],by simp[o2,(t TO<|by simp).symm],by simp[O,(t f<|by simp).symm],by simp,by simp⟩;have g1:j.toArray.size=Uc xs:=by rw[NG,<-r1.length]
  have g2:l.toArray.size=Uc ys:=by rw[NG,<-r2.length]
  refine Es (λA' D=>uW b1 (D.trans hd) f B (r f<|by simp) j.toArray) (λA' D=>uW Z (D.trans hd) i2 C (t i2<|by simp) l.toArray) ap n p F ⟨J,p1⟩ ⟨L,p2⟩ ?_ λD tk kp=>⟨rfl,bx.turnL I N λb o g e=>?_⟩
  .rw[g1,g2]
   rcases hl with hl|⟨h1,h2⟩
   .exact .inl hl.symm
   .exact .inr ⟨h1,h2.symm⟩
  .simp only[Nn,OW,RQ,not_or]at g
   exact kp b o g.1 g.2.2.1 g.2.2.2.1 g.2.2.2.2 e
 self:=λ_ _ _ _ _ G h=>wpAny_pyIter_zip G.1 h
end
section
variable{X:Cx}{E:a0r}{K:ND}
def iZp(K:ND)(d:TA):TI:=λe H R=>d e H λG D=>∃E c a b M S,G=[.r a,.r b]/\ra E K D a M/\ra c K D b S/\R (Y5 E c K a b) D
theorem JY{Z}(y:Gl X "zip")(S:X.mg "zip"=M0)(V:PA X [a,b] ta)(T:Nr [a,b] X.e=[(M5,OS a X.e),(M5,OS b X.e)]:=by rfl)(g:Nr [b] X.e=[(M5,OS b X.e)]:=by rfl):
  PI X (.Tuple z Z Q) (.Call (.Name "zip" p) [a,b] [] x) (iZp X.K ta):=by
 intro f s n H R I h;refine Call_ (gT I y S Boot.«zip»<|O1 (dy (V x f s n H _ I h) λus d ⟨vs,E,i,U,D⟩=>?_) (by rw[T,g])<|by rw[g];rfl);obtain⟨G,o,t,u,xs,ys,e,D,W,q⟩:=D;subst e;cases U with
 |cons r k=>
  cases k with
  |cons A k=>
   cases k;cases r;cases A;obtain⟨B,O,C⟩:=bx.src i D;obtain⟨F,P,p2⟩:=bx.src i W;refine Ei C p2 λM v J L l m sz Y=>?_;refine wpAny_pyIter_zip (s:={d with heap:=M}) v ?_;have N:bx X f n E {d with heap:=M}:=i.kept (t':=d.toks) Y;refine⟨_,[d.heap.objs.size+4,d.heap.objs.size+2,d.heap.objs.size+3,d.heap.objs.size,d.heap.objs.size+1],_,Y5 G o X.K t u,E,rfl,N,ED G o t u (d.heap.objs.size+4) (d.heap.objs.size+2) (d.heap.objs.size+3) d.heap.objs.size (d.heap.objs.size+1) (by simp),⟨v,J,⟨_,_,L⟩,l,m⟩,λc w=>?_,q⟩;have j:d.heap.objs.size<=c:=by
    simp only[Nn,OW,RQ]at w;rcases w with rfl|rfl|rfl|rfl|rfl
    .exact P3 _ _
    .exact P3 _ _
    .exact P3 _ _
    .exact Nh _
    .exact P3 _ _
   exact i.fpOk j<|i.hok.fresh j
noncomputable def e9:a0e->a0e->a0e
 |x::xs,y::ys=> .t [x,y]::e9 xs ys
 |_,_=>[]
theorem u8:∀(D E:a0e),Uc (e9 D E)=Q2 (Uc D) (Uc E)
 |[],E=>by simp[e9]
 |x::D,[]=>by simp[e9]
 |x::D,y::E=>by
  show(e9 D E).length+1=_;rw[u8 D E,Np,Np];lia
theorem u9:∀{E G:a0e} {i:Nat} {d:D},(e9 E G)[i]?=My d->∃x y,E[i]?=My x/\G[i]?=My y/\d= .t [x,y]
 |[],G,i,d,h=>by simp[e9]at h
 |x::E,[],i,d,h=>by simp[e9]at h
 |x::E,y::G,0,d,h=>by
  simp[e9]at h;exact⟨x,y,rfl,rfl,h.symm⟩
 |x::E,y::G,i+1,d,h=>by
  have K:(e9 E G)[i]?=My d:=by simpa[e9]using h
  obtain⟨a,b,c,e,f⟩:=u9 K;exact⟨a,b,by simpa using c,by simpa using e,f⟩
def Eu:a0e->a0x
 |[a,b]=>(gi a).bind λD=>(gi b).map λE=>e9 D E
 |_=>M0
theorem b_.sqS(h:b_ K F H d v)(e:gi d=My k):∃b a,v= .r a/\∀f c,Tr F H f c->∃D,ra b K c a D/\ba K f c k D:=by
 cases d<;>first
  |(cases e;obtain⟨a,D,rfl,_⟩:=b_.p3 h;refine⟨M3,a,rfl,λf c t=>?_⟩;obtain⟨j,E,g,G,i⟩:=b_.p3<|b_.tr t _ _ h;cases g;exact⟨E,G,i⟩)
  |(cases e;obtain⟨a,D,rfl,_⟩:=b_.f5 h;refine⟨M5,a,rfl,λf c t=>?_⟩;obtain⟨j,E,g,G,i⟩:=b_.f5<|b_.tr t _ _ h;cases g;exact⟨E,G,i⟩)
  |cases e
theorem IG{G h:Bool}(o:∀b a,Tr F H b a->∃D,ra G K a L D/\ba K b a N D)(q:∀b a,Tr F H b a->∃D,ra h K a O D/\ba K b a P D):r4 K (Y5 G h K L O) F H (e9 N P):=λb a V t fr i=>by
 obtain⟨D,c,M⟩:=o b a t;obtain⟨E,e,S⟩:=q b a t;refine⟨λd X=>?_,λr=>?_⟩
 .obtain⟨x,y,f,g,rfl⟩:=u9 X
  obtain⟨u,j,s⟩:=M.get f;obtain⟨v,k,w⟩:=S.get g;refine⟨⟨D,E,u,v,c,e,j,k⟩,λz C A=>?_⟩;obtain⟨p,I,J,l,rfl,rfl,B⟩:=A;obtain⟨m,n⟩:=B D E c e;rw[j]at m;rw[k]at n;cases m;cases n;exact⟨bW.upd l,b_.newT fr l<|ba.cons s<|ba.cons w ba.nil⟩
 .rw[u8]at r
  have f:=M.f5;have g:=S.f5;refine⟨D,E,c,e,?_⟩;rw[<-f,<-g];lia
def Fl(g:FL):FL:=bP Eu g
theorem G7{W}(n:Gl X "zip")(S:X.mg "zip"=M0)(V:PA X [a,b]<|h8 X.K g E)(z:Nr [a,b] X.e=[(M5,OS a X.e),(M5,OS b X.e)]:=by rfl)(f:Nr [b] X.e=[(M5,OS b X.e)]:=by rfl):
  PI X (.Tuple s W x) (.Call (.Name "zip" p) [a,b] [] Y) (iV X.K (Fl g) E):=
 (JY n S V z f).imp λI H R i=>ix i λF L N fr o h=>⟨F,L,N,fr,o,(run.bind (R:=ba X.K F) h).mono λZ D i=>by
  obtain⟨ds,O,t,P,Q⟩:=i;obtain⟨l,e,k⟩:=run.p3 Q;unfold Eu at e;split at e
  .rename_i c d
   obtain⟨v,J,rfl,q,r⟩:=ba.two P;cases G:gi c with
   |none=>rw[G]at e;cases e
   |some xs=>
    cases M:gi d with
    |none=>rw[G,M]at e;cases e
    |some ys=>
     rw[G,M]at e;cases e;obtain⟨T,u,rfl,j⟩:=b_.sqS q G;obtain⟨w,y,rfl,m⟩:=b_.sqS r M;obtain⟨U,A,_⟩:=j F D<|Tr.refl F D;obtain⟨B,C,_⟩:=m F D<|Tr.refl F D;exact⟨T,w,u,y,U,B,rfl,A,C,k _ D (To.refl t.fr)<|IG j m⟩
  .cases e⟩
def jV(K:ND)(f:Dn->M Unit)(c:Nat)(E:a0r):TJ:=λa H n Q=>n+c<=Nw/\∃F D G,Fr F H G/\hY K F H D a/\run (λ_ (_:Unit) (m:Nat)=>m<=n+c) F E a (f D) H Q G
theorem _root_.L2.PJ.imp{X:Cx}(h:PJ X e t)(f:∀a H n Q,g a H n Q->t a H n Q):PJ X e g:=λb s a H D Q I c d=>h b s a H D Q I c<|f a H _ _ d
def zn:Dn->M Unit:=λ_=>M.f5 ()
def lB(f:FD)(g:Dn->M Unit):Dn->M Unit:=λD=>M.v (f D) λd=>match d with
 | .n i=>if i.natAbs.log2<1920 then g D else M.fail
 |_=>M.fail
variable{s:List Expr}
theorem lC:PJ X [] (jV X.K zn 0 E):=JW.imp λb H n Q a=>by obtain⟨_,F,s,D,fr,c,r⟩:=a;exact run.ret fr r<|Nh _
theorem dT{x:N8}(h:PJ X s<|jV X.K g c E)(b:Tt (.Constant (.str x) j p::s) X.e=OS (.Constant (.str x) j p) X.e::Tt s X.e:=by rfl):PJ X (.Constant (.str x) j p::s) (jV X.K g (x.length+c) E):=
 (JV h b).imp λl H n Q d=>by
  obtain⟨o,F,D,G,fr,f,r,a,e,k⟩:=d;exact⟨by lia,by lia,F,D,G,fr,f,r,a,e,by
   cases r with
   |ok u=>exact λm i t M=>k m i t (by lia)
   |error C=>exact k⟩
theorem fU(l:PE X v<|tV X.K f E)(h:PJ X s<|jV X.K g c E)(o:Tt (.FormattedValue v (-1) M0 p::s) X.e=OS (.FormattedValue v (-1) M0 p) X.e::Tt s X.e:=by rfl):PJ X (.FormattedValue v (-1) M0 p::s) (jV X.K (lB f g) (1921+c) E):=
 (JX l h o).imp λB H n Q ⟨I,F,M,S,fr,j,r⟩=>⟨F,M,S,fr,j,(run.bind (R:=b_ X.K F) r).mono λv J w=>by
  obtain⟨d,G,t,V,D⟩:=w;cases d with
  |n i=>
   by_cases q:i.natAbs.log2<1920
   .simp only[Ng q]at D
    refine⟨i,V,q,by lia,λm L=>⟨by lia,F,M,G,t.fr,j.tr<|t.tr fr,?_⟩⟩;obtain⟨b,a,e,k⟩:=D;refine⟨b,a,e,?_⟩;cases b with
    |ok u=>exact λx y z A=>k x y z (by lia)
    |error C=>exact k
   .simp only[Nf q]at D
    obtain⟨b,a,e,k⟩:=D;cases e
  |_=>obtain⟨b,a,e,k⟩:=D;cases e⟩
def qW(f:Dn->M Unit):FD:=λs=>M.v (f s) λ_=>M.f5 .txt
theorem jp(h:PJ X (v1::v2::rest)<|jV X.K f c E)(e:c<=Nw):PE X (.JoinedStr (v1::v2::rest) j) (tV X.K (qW f) E):=
 (Ih h).imp λg H Q a=>ix a λF s D fr b r=>⟨by lia,F,s,D,fr,b,(run.bind (R:=λ_ (_:Unit) (m:Nat)=>m<=0+c) r).mono λm S a=>nS a λd G t V M=>⟨by lia,λz i=>run.ret t.fr M ⟨z,rfl⟩⟩⟩
def yI(C:M6)(n:Nat):Sp:=λD H Q _=>∃(x:M6) (s:a0i),D= .r x::s/\Uc s=n/\H x=My (eL C x M0)/\
 ∀(E:a0z) (a:Hp),a x=My (eL C x E)->(∀b o,H b=My o->b≠x->a b=My o)->Q .o a
noncomputable def kP(C:M6)(f:FL):G:=λs D=>match f (fh s) D with
 |some (.ok _,β1)=>My (.ex C s,β1)
 |some (.error C',β1)=>My (.ex C' s,β1)
 |none=>M0
end
section
variable{P:NY}{w:N6}{K:ND}{W:a0h}{U:Op}{N:a0g}{T:N8}{z:Scope}{f:M6}{X:M8}{A:Om}{R:a0B}{s:Na}{H:Hp}{E:XK}
theorem gB(Z:XC K C)(hn:∀G M r c,g G M=My (.ok r,c)->Uc r=n)(u:n<=Nw)
  (h:PS (dz (e_ P w) P w K W U N T z f X A R s H E) (.Raise (My e) M0 Y)<|AJ H K E<|Jr C (yI C n) [] E'<|h8 K g (λ_=>E)):
  PS (dz (e_ P w) P w K W U N T z f X A R s H E) (.Raise (My e) M0 Y) (tG K H (kP C g) (λ_=>E)):=h.imp λD v H1 y=>by
 obtain⟨B,bg,G,M,o,c,ok,e,q⟩:=y;refine⟨j2 B bg,fh G,M,ok.p3,ok.f5,?_⟩;unfold kP at e;split at e
 .rename_i ds β1 d
  cases e;refine⟨.ok ds,_,d,λS F t hd=>?_⟩;obtain⟨a,i⟩:=ok.to rfl t;have m:Uc S=n:=by rw[<-hd.f5];exact hn _ _ _ _ d
  refine⟨by rw[m];exact u,λx V=>⟨x,S++[],rfl,by rw[NW];exact m,aq,λdx j I J=>⟨rfl,x,C,dx,rfl,I,?_,Z,?_⟩⟩⟩
  .cases L:H x with
   |none=>rfl
   |some o=>exact NH V (a.cov x<|by rw[L];simp)
  .have sm:∀b o,F b=My o->gy j x b=My o:=λb o p=>by
    have k:b≠x:=bw p V;rw[jj k];exact J b o (by rw[bb k];exact p) k
   obtain⟨l,O⟩:=a.to rfl<|a.fr.same sm;exact q v B _ (i.trans O) l
 .rename_i Q β1 d
  cases e;refine⟨.error Q,_,d,λj t=>?_⟩;obtain⟨a,i⟩:=ok.to rfl t;exact q _ B j i a
 .cases e
end
section
variable{X:Cx}{E:a0r}{K:ND}
abbrev Gh:=M6->G
noncomputable def YO:Gh:=λ_ _ _=>M0
noncomputable def iQ(K:ND)(a:M6)(g:G)(r:Gh):Gh:=λC D E=>match S7 K (.ref C) (.ref a)with
 |some M3=>g D E
 |some M5=>r C D E
 |none=>M0
def tH(K:ND)(D:Hp)(g:Gh)(E:a0r):M6->TS:=λC=>tG K D (g C) E
theorem _root_.L2.PHd.imp{X:Cx}(h:PHd X d t)(f:∀C D a H,e C D a H->t C D a H):PHd X d e:=λb a G H c s E x C D I F q=>h b a G H c s E x C D I F<|f C D a H q
theorem zw:PHd X [] (tH X.K X.H₀ YO E):=Ib.imp λC D c H a=>by obtain⟨B,G,M,S,o,b,ok,e,q⟩:=a;cases e
theorem kO(b:Gl X cn)(V:X.mg cn=My (.ref Dc))(h:∀A,PSs (X.inA A) (b0::suite)<|tG X.K X.H₀ g E)(c:PHd X rest<|tH X.K X.H₀ r E)(i:b0c cn:=by decide):
  PHd X (.ExceptHandler (My<|.Name cn np) M0 (b0::suite) j::rest) (tH X.K X.H₀ (iQ X.K Dc g r) E):=(E8 b V h c i).imp λC D f H d=>by
 obtain⟨B,G,M,S,o,a,ok,e,q⟩:=d;unfold iQ at e;split at e
 .rename_i eq
  exact⟨M3,eq,by rw[Ng rfl];exact⟨B,G,M,S,o,a,ok,e,q⟩⟩
 .rename_i eq
  exact⟨M5,eq,by rw[Nf Nb];exact⟨B,G,M,S,o,a,ok,e,q⟩⟩
 .cases e
noncomputable def lK(g:G)(h:Gh):G:=λD E=>match g D E with
 |some (.ex C δ1,β1)=>h C δ1 β1
 |r=>r
theorem yQ(c:X.k=X.e::X.outer)(d:X.e.frame=My X.e.locals)
  (k:∀(j:a0r) (M:a0c) (S:a0d),bX (e_ X.p X.w) (X.inTry M S) j->PSs (X.inTry M S) body (tG X.K X.H₀ g j)) (l:PHd X (h0::F)<|tH X.K X.H₀ h E):PS X (.Try body (h0::F) [] [] I) (tG X.K X.H₀ (lK g h) E):=(JR c d k l).imp λD y H m=>by
 obtain⟨B,G,V,x,o,a,ok,e,q⟩:=m;refine⟨λb v _ f=>∃C,v= .ref C/\tH X.K X.H₀ h E C D b f,λb C J f ⟨A,n,z⟩=>by cases n;exact z,?_⟩;unfold lK at e;split at e
 .rename_i C δ1 β1 p
  exact⟨B,G,V,x,.ex C δ1,β1,ok,p,λb t f s i=>⟨C,rfl,t,G,δ1,β1,o,a,i,e,ir.pre s q⟩⟩
 .rename_i r u
  refine⟨B,G,V,x,o,a,ok,e,?_⟩;cases o with
  |ex C δ1=>exact NH e<|u C δ1 a
  |_=>exact q
variable{y A v:Expr}{w:List Expr}{rest:a0S}{u:Scope}{z:RV}{B cx:a0g}{bt:a0a}{g:TG}{I:a0Y}
theorem aQ:dP X [] (gt X.K (λ_=>M.f5 M3) E0):=λa s b H Q I c=>by obtain⟨F,g,u,fr,d,r⟩:=c;exact vM a s b H Q I<|run.ret fr r rfl
theorem qV(a:PT X c<|gt X.K t E0):dP X [c] (gt X.K t E0):=E5 a
theorem bA(c:X.calm=M3)(S:cy X u B cx bt)(d:PI X A v<|iV X.K m E)
  (e:∀(G:a0j) (C:M6) (a:a0n) (s:Na) (H:Hp),PG (aE X B u G C a s H) A g/\dP (aE X B u G C a s H) w (gt X.K n E0)/\∀D,PB (aE X B u G C a s H) y (⟨A,v,w,0⟩::rest) u z 0 D<|I D)
  (f:cF X.K g l) (i:dO l) (j:∀D,jf X.K D (I D) b) (M:∀x,Oj v X.e x=Ps x:=by intro _;rfl):PE X (.ListComp y (⟨A,v,w,0⟩::rest) u z) (tV X.K (bY (Uc cx) bt m l n b) E):=
 (nW c S d e M).imp λk H Q h=>vh f i j h
theorem vC{a c:RV}(j:X.N.Nodup)(d:X.N[i]?=My x)(M:si X.e.scope x)(k:X.calm=M3)(S:cy X u B cx bt)(l:PI X A v<|iV X.K F E)
  (m:∀(G:a0j) (C:M6) (f:a0n) (s:Na) (H:Hp),PG (aE X B u G C f s H) A g/\dP (aE X B u G C f s H) w (gt X.K J E0)/\∀D,PB (aE X B u G C f s H) y (⟨A,v,w,0⟩::rest) u z 0 D<|I D)
  (n:cF X.K g t) (o:dO t) (p:∀D,jf X.K D (I D) b)
  (e:Rx (.ListComp y (⟨A,v,w,0⟩::rest) u z) (My<|.Name x a) c.line X.e=Ps M3:=by rfl)
  (V:∀x,Oj v X.e x=Ps x:=by intro _;rfl) (q:b0d X x:=by first|exact .inl rfl|exact .inr rfl|assumption):
  PS X (.Assign [.Name x a] (.ListComp y (⟨A,v,w,0⟩::rest) u z) c) (tG X.K X.H₀ (cS i<|bY (Uc cx) bt F t J b) E):=
 aP ((rO j d M k S l m e V q).imp λD r H h=>vh n o p h)
noncomputable def Zy:D->a0k
 | .n i=>My<|.n<|-i
 |_=>M0
theorem lA:Hk K (rU λi=> .n<|-i) Zy:=λF H u Q g d b fr a e k=>by
 cases g<;>first|(cases e;exact⟨_,a,k _ H (To.refl fr) rfl⟩)|cases e
noncomputable def re:D->a0q
 | .n i=>My i
 |_=>M0
noncomputable def iR(g:a0e)(u a:a0q):a0e:=(g.drop<|HT.sIx (Uc g) 0 u).take<|HT.sIx (Uc g) (Uc g) a-HT.sIx (Uc g) 0 u
def Zm:D->a0q->a0q->a0k
 | .l xs,lo,hi=>My<|.l<|iR xs lo hi
 | .scr ns,lo,hi=>My<|.l<|iR (ns.map D.n) lo hi
 |_,_,_=>M0
def j7(f:a1b):Dn->M a0q:=λu=>match f with
 |none=>M.f5 M0
 |some g=>M.v (g u) λd=>M.v (M.f<|re d) λi=>M.f5<|My i
def Yr(f:FD)(u a:a1b):FD:=λg=>M.v (f g) λd=>M.v (j7 u g) λl=>M.v (j7 a g) λh=>M.f<|Zm d l h
def sM(X:Cx)(e:Option Expr)(f:a1b)(E:a0r):Prop:=PO X e (λc H Q=>∃F g u,Fr F H u/\hY X.K F H g c/\run (λ_ (a b:a0q)=>b=a) F E c (j7 f g) H Q u)
theorem qD:sM X M0 M0 E:=λa s b H Q I c=>by obtain⟨F,g,u,fr,d,r⟩:=c;exact xF a s b H Q I<|run.ret fr r rfl
theorem qC(h:PE X e<|tV X.K f E):sM X (My e) (My f) E:=λa s c H Q I b=>ix b λF g u fr j r=>xE h a s c H Q I ⟨F,g,u,fr,j,(run.bind (R:=b_ X.K F) r).mono λv A b=>by
  obtain⟨d,w,t,y,z⟩:=b;obtain⟨i,e,k⟩:=run.f5 z;cases d<;>first|(cases e;exact⟨_,y,run.ret t.fr k rfl⟩)|cases e⟩
theorem ba.cut(h:ba K F H b c)(g a:a0q):ba K F H (iR b g a) (m5 c g a):=by
 unfold iR m5;rw[h.f5];exact(h.drop _).take _
theorem rA{S u:Option Expr}{fl w:a1b}{p2:RV}(y:PE X e<|tV X.K f E)(A:sM X S fl E)(B:sM X u w E):PE X (.Subscript e (.Slice S u M0 p2) z) (tV X.K (Yr f fl w) E):=
 (o9 rG y A B).imp λL H Q m=>ix m λF g V fr n r=>⟨F,g,V,fr,n,(run.bind (R:=b_ X.K F) r).mono λv W ⟨d,D,t,s,x⟩=>
  ⟨F,g,D,t.fr,n.tr<|t.tr fr,(run.bind (R:=λ_ (a b:a0q)=>b=a) x).mono λl N ⟨O,G,t2,o,C⟩=>
   ⟨F,g,G,t2.fr,n.tr<|(t.tr fr).trans<|t2.tr t.fr,(run.bind (R:=λ_ (a b:a0q)=>b=a) C).mono λh P m=>by
    obtain⟨Y,T,t3,q,I⟩:=m;subst o q;obtain⟨c,e,k⟩:=run.p3 I;have i:=b_.tr ((t2.tr t.fr).trans<|t3.tr t2.fr) _ _ s;cases d<;>first
     |(cases e;obtain⟨a,U,rfl,M,J⟩:=b_.p3 i;exact⟨a,U,rfl,M,λp j=>k _ _ (t3.fr.upd _ j)<|b_.newL t3.fr j<|J.cut l h⟩)
     |(cases e;obtain⟨a,rfl,M⟩:=b_.scr i;exact⟨a,_,rfl,M,λp j=>k _ _ (t3.fr.upd _ j)<|b_.newL t3.fr j<|(ba.ofInts _).cut l h⟩)
     |cases e⟩⟩⟩
def Bg.ok(β:Bg):Prop:=β.cells≠[]/\Uc β.cells<=64/\(∀c∈β.cells,0<=c)/\0<=β.j
end
noncomputable def Bg.pos(D:Bg):Nat:=(D.i % (Uc D.cells:Int)).toNat
def Bg.cell(D:Bg):Int:=D.cells.getD D.pos 0
noncomputable def Bg.f5(D:Bg):Int:=(D.j+D.cell % 2147483629+77)*48271 % 2147483629
noncomputable def j3(E:Bg)(D:Int):Int:=if 10^18<=E.cell then E.cell % D else E.f5/64 % D
noncomputable def la(D:Bg)(E:Int):Bg:=if 10^18<=D.cell then⟨D.cells.set D.pos<|D.cell/E,D.i,D.j⟩else⟨D.cells,D.i+1,D.f5⟩
open Classical in
def fS:a0e->M D:=λG E=>match G with
 |[.bag,.n lot]=>if E.ok/\0<lot/\lot<1073741824 then My (Pi<|D.n<|j3 E lot,la E lot)else M0
 |_=>M0
theorem Fu{D:Bg}(h:D.ok)(a:0<c)(b:c<1073741824):fS [.bag,.n c] D=My (.ok<|.n<|j3 D c,la D c):=by
 unfold fS;exact Ng ⟨h,a,b⟩
theorem CG{E:Bg}(h:fS b E=My (r,a)):∃D,b=[.bag,.n D]/\E.ok/\0<D/\D<1073741824/\r= .ok (.n<|j3 E D)/\a=la E D:=by
 unfold fS at h;split at h
 .split at h
  .rename_i D q
   cases h;exact⟨D,rfl,q.1,q.2.1,q.2.2,rfl,rfl⟩
  .cases h
 .cases h
theorem Bg.ok.at{β:Bg}(h:β.ok):β.pos<Uc β.cells/\β.cells[β.pos]?=My β.cell/\0<=β.cell/\β.i % (Uc β.cells:Int)=(β.pos:Int):=by
 obtain⟨D,c2,E,c4⟩:=id h;have b:0<Uc β.cells:=Rj.mpr D;have G:0<=β.i % (Uc β.cells:Int):=TZ _ (by lia);have K:β.i % (Uc β.cells:Int)<Uc β.cells:=UK _ (by lia);have a:β.pos<Uc β.cells:=by unfold Bg.pos;lia
 have e:β.cell=β.cells[β.pos]:=by
  unfold Bg.cell;rw[Nz,M9 a];rfl
 refine⟨a,by rw[e];exact M9 a,by rw[e];exact E _<|OC a,?_⟩;unfold Bg.pos;lia
theorem xB{D:Bg}(h:D.ok)(b:0<f):0<=j3 D f/\j3 D f<f/\(la D f).ok:=by
 obtain⟨e,_,d,_⟩:=h.at;obtain⟨E,c2,G,c4⟩:=id h;unfold j3 la;split
 .refine⟨TZ _ (by lia),UK _ b,?_,by rw[N9];exact c2,λc a=>?_,c4⟩
  .intro z
   have:=OG Uc z;rw[N9]at this;exact E<|PD.mp this
  .rcases Pf a with a|rfl
   .exact G c a
   .exact Int.ediv_nonneg d (by lia)
 .exact⟨TZ _ (by lia),UK _ b,E,c2,G,TZ _<|by decide⟩
end L2.Pu
namespace L2.Hs
open PySem.SetTable
def Rs(xs:Array Nat):Prop:=∀i k x y:Nat,i<k->xs[i]?=My x->xs[k]?=My y->x<y
theorem pJ{E:Array Nat}(r:Rs E):∀(fuel D c:Nat),D<=c->c<=E.size->c-D<=fuel->(∀i x,i<D->E[i]?=My x->x<j)->(∀i x,c<=i->E[i]?=My x->j<=x)->
  below.go E j fuel D c<=E.size/\(∀i x,i<below.go E j fuel D c->E[i]?=My x->x<j)/\∀i x,below.go E j fuel D c<=i->E[i]?=My x->j<=x
 |0,D,c,h1,h2,h3,a,b=>by
  have:D=c:=by lia
  subst this;exact⟨h2,a,b⟩
 |fuel+1,D,c,h1,h2,h3,a,b=>by
  unfold below.go;by_cases q:D<c
  .rw[Ng q]
   have K:(D+c)/2<E.size:=by lia
   have e:E[(D+c)/2]?=My (E.getD ((D+c)/2) j):=by simp[Vy,K]
   by_cases z:E.getD ((D+c)/2) j<j
   .rw[Ng z]
    refine pJ r fuel _ _ (by lia) h2 (by lia) (λi x d G=>?_) b;by_cases w:i=(D+c)/2
    .simp_all
    .exact TR (r i ((D+c)/2) x _ (by lia) G e) z
   .rw[Nf z]
    refine pJ r fuel _ _ (by lia) (by lia) (by lia) a (λi x d G=>?_);by_cases w:i=(D+c)/2
    .simp_all
    .have:=r ((D+c)/2) i _ x (by lia) e G
     lia
  grind
theorem jH{D:Array Nat}(r:Rs D):below D j<=D.size/\(∀i x,i<below D j->D[i]?=My x->x<j)/\∀i x,below D j<=i->D[i]?=My x->j<=x:=
 pJ r D.size 0 D.size (OV _) (Nh _) (by lia) (λi x h=>NH h<|Qw i) (λi x h e=>by
  have:=(On.mp e).1;lia)
theorem Gm(r:Rs f)(h:f[i]?=My j):below f j=i:=by
 obtain⟨b,c,a⟩:=jH (j:=j) r;rcases RN (below f j) i with q|q|q
 .have d:=(On.mp h).1
  have e:f[below f j]?=My f[below f j]:=getElem?_pos f _ (by lia);have:=a _ _ (Nh _) e;have:=r _ _ _ _ q e h;lia
 .exact q
 grind
theorem sY{t:Ou}(r:Rs t.place)(h:t.place[i]?=My j):t.slot j= .live i:=by
 unfold slot;simp only[Gm r h,h,U7,Ol]
theorem yK{t:Ou}(d:t.dummies=#[])(h:∀i:Nat,t.place[i]?≠My j):t.slot j= .empty:=by
 unfold slot;have a:(t.place[below t.place j]?==My j)=M5:=by
  simp_all
 have b:has t.dummies j=M5:=by unfold has;rw[d];rfl
 simp_all
noncomputable def ei(t:Ou):Nat->Probe->Probe
 |0,p=>p
 |n+1,p=>ei t n<|t.advance p
theorem pp(t:Ou):∀(n:Nat) (p:Probe),ei t (n+1) p=t.advance (ei t n p)
 |0,p=>rfl
 |n+1,p=>by
  exact pp t n<|t.advance p
theorem oo(t:Ou):∀(n m:Nat) (p:Probe),ei t (n+m) p=ei t m (ei t n p)
 |0,m,p=>by rw[Px];rfl
 |n+1,m,p=>by
  rw[show n+1+m=(n+m)+1 by lia];exact oo t n m<|t.advance p
structure Pv (t:Ou) (p:Probe):Prop where
 j:p.j+p.more<=t.mask
 more:p.more<=9
 i:p.i<=t.mask
 pt:p.perturb<2^64
 du:p.dummy=M0
theorem tB{D i:Nat}(h:i<=D):i<=runEnd D i/\runEnd D i<=D/\runEnd D i-i<=9:=by
 unfold runEnd
 grind
noncomputable def p8(t:Ou)(i D:Nat):Probe:={j:=i,more:=runEnd t.mask i-i,i,perturb:=D,dummy:=M0}
theorem rc{t:Ou}(h:i<=t.mask)(a:pt<2^64):Pv t (p8 t i pt):=by
 obtain⟨c,d,b⟩:=tB h;refine⟨?_,b,h,a,rfl⟩;show i+(runEnd t.mask i-i)<=t.mask;lia
theorem AT(t:Ou)(h:Int):t.probeStart h=p8 t (bits h % (t.mask+1)) (bits h):=rfl
theorem oE(h:Int):bits h<2^64:=by
 unfold bits;lia
theorem o5(t:Ou)(h:Int):Pv t (t.probeStart h):=by
 exact rc (by have:=TU (bits h) (show t.mask+1>0 by lia);lia)<|oE h
noncomputable abbrev y_(D i E:Nat):Nat:=(i*5+1+E/32) % (D+1)
theorem Er{t:Ou}{p:Probe}(h:0<p.more):t.advance p={p with j:=p.j+1,more:=p.more-1}:=by
 unfold advance;rw[Ng h]
theorem yr{t:Ou}{p:Probe}(h:p.more=0)(D:p.dummy=M0):t.advance p=p8 t (y_ t.mask p.i p.perturb) (p.perturb/32):=by
 unfold advance;rw[Nf<|by lia];unfold leap p8;simp only[D]
theorem zh(D i E:Nat):y_ D i E<=D:=by
 have:=TU (i*5+1+E/32) (show D+1>0 by lia);unfold y_;lia
theorem Ep{t:Ou}(v:Pv t p):Pv t (t.advance p):=by
 by_cases q:0<p.more
 .rw[Er q]
  exact⟨by have:=v.j;show p.j+1+(p.more-1)<=t.mask;lia,by have:=v.more;show p.more-1<=9;lia,v.i,v.pt,v.du⟩
 .rw[yr (by lia) v.du]
  exact rc (zh _ _ _)<|NT (T3 _ _) v.pt
theorem mU:∀(n:Nat) {p:Probe},Pv t p->Pv t (ei t n p)
 |0,_,v=>v
 |n+1,_,v=>mU n<|Ep v
theorem rT:∀(k:Nat) {p:Probe},Pv t p->k<=p.more->ei t k p={p with j:=p.j+k,more:=p.more-k}
 |0,p,v,h=>by cases p;rfl
 |k+1,p,v,h=>by
  rw[pp,rT k v<|by lia];rw[Er (show 0<p.more-k by lia)]
  grind
theorem pq{t:Ou}{p:Probe}(v:Pv t p):ei t (p.more+1) p=p8 t (y_ t.mask p.i p.perturb) (p.perturb/32):=by
 rw[pp,rT _ v<|Nh _];exact yr (Qx _) v.du
def cG(D:Nat):Nat->Nat×Nat->Nat×Nat
 |0,x=>x
 |k+1,x=>cG D k (y_ D x.1 x.2,x.2/32)
theorem jT(D:Nat):∀(k:Nat) (x:Nat×Nat),cG D (k+1) x=(y_ D (cG D k x).1 (cG D k x).2,(cG D k x).2/32)
 |0,x=>rfl
 |k+1,x=>jT D k _
theorem we{t:Ou}:∀(k:Nat) {p:Probe},Pv t p->∃n,n<=10*(k+1)/\ei t n p=p8 t (cG t.mask (k+1) (p.i,p.perturb)).1 (cG t.mask (k+1) (p.i,p.perturb)).2
 |0,p,v=>⟨p.more+1,by have:=v.more;lia,pq v⟩
 |k+1,p,v=>by
  obtain⟨n,D,e⟩:=we k v;have a:=mU n v;rw[e]at a;refine⟨n+((p8 t (cG t.mask (k+1) (p.i,p.perturb)).1 (cG t.mask (k+1) (p.i,p.perturb)).2).more+1),by have:=a.more;lia,?_⟩;rw[oo,e,pq a,jT t.mask<|k+1];rfl
def Mk(D:Nat):Prop:=D=7\/D=31\/D=127
noncomputable def B_(D:Nat):Nat->Nat->Nat
 |0,i=>i
 |k+1,i=>B_ D k<|(i*5+1) % (D+1)
theorem nY(D:Nat):∀(a b i:Nat),B_ D (a+b) i=B_ D b (B_ D a i)
 |0,b,i=>by rw[Px];rfl
 |a+1,b,i=>by
  rw[show a+1+b=(a+b)+1 by lia];exact nY D a b _
def GX(D:Nat):Bool:=(B_ D (D+1) 0==0)&&(Nj<|D+1).all λj=>(Nj<|D+1).any λk=>B_ D k 0==j
theorem J7{D:Nat}(h:Mk D):GX D=M3:=by
 rcases h with rfl|rfl|rfl<;>decide +kernel
theorem xI{D i j:Nat}(h:Mk D)(l:i<=D)(m:j<=D):∃k,k<=D/\B_ D k i=j:=by
 have o:=J7 h;unfold GX at o;rw[NN,Rl,OM]at o;obtain⟨g,E⟩:=o;obtain⟨a,e,c⟩:=Va.mp (E i<|NQ.mpr<|by lia);obtain⟨b,f,d⟩:=Va.mp (E j<|NQ.mpr<|by lia);rw[Rl]at c d;have:=NQ.mp e;have:=NQ.mp f;by_cases q:a<=b
 .refine⟨b-a,by lia,?_⟩
  rw[<-c,<-nY,show a+(b-a)=b by lia,d]
 .refine⟨b+(D+1)-a,by lia,?_⟩
  rw[<-c,<-nY,show a+(b+(D+1)-a)=(D+1)+b by lia,nY,g,d]
theorem mC(D:Nat):∀(k i:Nat),cG D k (i,0)=(B_ D k i,0)
 |0,i=>rfl
 |k+1,i=>by
  show cG D k (y_ D i 0,0/32)=_;rw[show(0/32:Nat)=0 from rfl,mC D k];rfl
theorem o7(D:Nat):∀(a b:Nat) (x:Nat×Nat),cG D (a+b) x=cG D b (cG D a x)
 |0,b,x=>by rw[Px];rfl
 |a+1,b,x=>by
  rw[show a+1+b=(a+b)+1 by lia];exact o7 D a b _
theorem o6(D:Nat):∀(k:Nat) (x:Nat×Nat),(cG D k x).2=x.2/32^k
 |0,x=>by simp[cG]
 |k+1,x=>by
  rw[jT,o6 D k x,WK,U5]
theorem xy(D:Nat):∀(k:Nat) (x:Nat×Nat),x.1<=D->(cG D k x).1<=D
 |0,x,h=>h
 |k+1,x,h=>by rw[jT];exact zh _ _ _
theorem MU{t:Ou}(h:Mk t.mask)(v:Pv t p)(a:j<=t.mask):∃n,n<10*turns t.mask/\(ei t n p).j=j:=by
 have z:(cG t.mask 13 (p.i,p.perturb)).2=0:=by
  rw[o6];exact Nat.div_eq_of_lt (NM v.pt<|by decide)
 have l:=xy t.mask 13 (p.i,p.perturb) v.i;obtain⟨k,c,e⟩:=xI h l a;obtain⟨n,D,b⟩:=we (12+k) v;refine⟨n,by unfold turns;lia,?_⟩;rw[b];rw[show 12+k+1=13+k by lia,o7,show cG t.mask 13 (p.i,p.perturb)=((cG t.mask 13 (p.i,p.perturb)).1,0)from Rq rfl z,mC];exact e
abbrev Lv(t:Ou)(j:Nat):Prop:=∃k:Nat,t.place[k]?=My j
structure Tb (t:Ou) (hs:a0b):Prop where
 km:Mk t.mask
 sz:t.place.size=Uc hs
 rs:Rs t.place
 le:∀i j:Nat,t.place[i]?=My j->j<=t.mask
 du:t.dummies=#[]
 nf:t.place.size*5<t.mask*3
 rch:∀(i:Nat) (h:Int) (j:Nat),hs[i]?=My h->t.place[i]?=My j->∃n,(ei t n<|t.probeStart h).j=j/\∀m<n,Lv t (ei t m<|t.probeStart h).j
theorem Mk.f5(h:Mk m):m % 2=1/\7<=m/\m<=127:=by
 rcases h with rfl|rfl|rfl<;>decide
theorem YR{D:Array Nat}(r:Rs D):∀n,n<=D.size->(∀i:Nat,i<n->D[i]?=My i)\/∃j,j<n/\∀i:Nat,D[i]?≠My j
 |0,_=> .inl λi h=>NH h<|Qw i
 |n+1,h=>by
  rcases YR r n (by lia)with q|⟨j,c,b⟩
  .have e:D[n]?=My D[n]:=getElem?_pos D n (by lia)
   by_cases z:D[n]=n
   .refine .inl λi d=>?_
    by_cases w:i=n
    .subst w;rw[e,z]
    .exact q i (by lia)
   .have lt:n<=D[n]:=by
     cases n with
     |zero=>lia
     |succ m=>
      have:=r m (m+1) _ _ (by lia) (q m<|by lia) e;lia
    refine .inr ⟨n,by lia,λi a=>?_⟩;rcases RN i n with w|w|w
    .rw[q i w]at a;cases a;lia
    .subst w;rw[e]at a;exact z<|N0 a
    .have:=r n i _ _ w e a
     lia
  .exact .inr ⟨j,by lia,b⟩
theorem KV{D:Array Nat}(r:Rs D):∃j,j<=D.size/\∀i:Nat,D[i]?≠My j:=by
 rcases YR r D.size (Nh _)with q|⟨j,c,a⟩
 .refine⟨D.size,Nh _,λi e=>?_⟩
  have b:=(On.mp e).1;rw[q i b]at e;cases e;lia
 .exact⟨j,by lia,a⟩
theorem G9{t:Ou}(r:Rs t.place)(d:t.dummies=#[]):∀(fuel:Nat) (p:Probe) (e:Nat),Pv t p->e<fuel->¬Lv t (ei t e p).j->
  ∃m,m<=e/\(∀D<m,∃i,t.place[i]?=My (ei t D p).j/\hashAt i≠h)/\
   ((¬Lv t (ei t m p).j/\probe.go t hashAt h fuel p=My (.empty (ei t m p).j M0))\/∃i,t.place[i]?=My (ei t m p).j/\hashAt i=h/\probe.go t hashAt h fuel p=My (.candidate (ei t m p).j i<|ei t (m+1) p))
 |0,_,_,_,h,_=>NH h<|Qw _
 |fuel+1,p,e,v,hf,he=>by
  unfold probe.go;by_cases q:Lv t p.j
  .obtain⟨i,a⟩:=q
   rw[sY r a];simp only;by_cases z:hashAt i=h
   .refine⟨0,OV _,λD E=>NH E<|Qw _,.inr ⟨i,a,z,?_⟩⟩
    rw[Ng<|by rw[Rl];exact z];rfl
   .rw[Nf<|by rw[Rl];exact z]
    cases e with
    |zero=>exact NH ⟨i,a⟩ he
    |succ e=>
     obtain⟨m,E,G,b⟩:=G9 r d fuel (t.advance p) e (Ep v) (by lia) he;refine⟨m+1,by lia,λD c=>?_,b⟩;cases D with
     |zero=>exact⟨i,a,z⟩
     |succ D=>exact G D (by lia)
  .rw[yK d (λi a=>q ⟨i,a⟩)]
   refine⟨0,OV _,λD E=>NH E<|Qw _,.inl ⟨q,?_⟩⟩;simp only[v.du];rfl
theorem Tb.free{t:Ou}(T:Tb t hs)(v:Pv t p):∃e,e<10*turns t.mask/\¬Lv t (ei t e p).j:=by
 obtain⟨j,f,a⟩:=KV T.rs;have:=T.nf;have:=T.km.f5;obtain⟨e,b,c⟩:=MU T.km v (show j<=t.mask by lia);exact⟨e,b,λ⟨k,d⟩=>a k<|by rw[<-c];exact d⟩
theorem DA{E:Type}{D:Array E}{p:Nat}{x:E}(b:p<=D.size)(i:Nat):(insertAt D p x)[i]?=if i<p then D[i]? else if i=p then My x else D[i-1]?:=by
 unfold insertAt;rw[Array.getElem?_append];have a:((D.extract 0 p).push x).size=p+1:=by simp;lia
 rw[a];by_cases q:i<p
 .rw[Ng (by lia),Ng q,W1,Xc]
  rw[Nf (by lia),Wh];simp;lia
 .by_cases z:i=p
  .subst z
   rw[Ng (by lia),Nf (by lia),Ng rfl,W1,Xc];rw[Ng<|by lia]
  .rw[Nf (by lia),Nf q,Nf z,Wh]
   by_cases w:i-1<D.size
   .rw[Ng<|by lia]
    congr 1;lia
   .rw[Nf (by lia),QI<|by lia]
theorem gW{E:Type}{D:Array E}{p:Nat}{x:E}(a:p<=D.size):(insertAt D p x).size=D.size+1:=by
 unfold insertAt;simp;lia
theorem Tb.put{t:Ou}{hs:a0b}(T:Tb t hs)(w:¬Lv t j)(s:(ei t n<|t.probeStart h).j=j)(J:∀m<n,Lv t (ei t m<|t.probeStart h).j)(L:(t.place.size+1)*5<t.mask*3):
  (t.put j).1.dummies=#[]/\(t.put j).1.mask=t.mask/\(t.put j).1.place.size=t.place.size+1/\(t.put j).2<=t.place.size/\Tb (t.put j).1 (hs.take (t.put j).2++h::hs.drop (t.put j).2):=by
 obtain⟨K,A,b3⟩:=jH (j:=j) T.rs;have N:has t.dummies j=M5:=by unfold has;rw[T.du];rfl
 have r:(t.put j).1.dummies=#[]:=by
  show(if has t.dummies j=M3 then _ else t.dummies)=#[];rw[N,Nf Nb,T.du]
 have G:(t.put j).1.place=insertAt t.place (below t.place j) j:=rfl;have g:=λi=>DA (x:=j) K i;have u:∀x,Lv t x->Lv (t.put j).1 x:=λx ⟨k,e⟩=>by
  by_cases q:k<below t.place j
  .exact⟨k,by rw[G,g,Ng q];exact e⟩
  .exact⟨k+1,by rw[G,g,Nf (by lia),Nf<|by lia];exact e⟩
 have M:∀m p,ei (t.put j).1 m p=ei t m p:=λm=>by
  induction m with
  |zero=>intro p;rfl
  |succ m O=>intro p;exact O<|t.advance p
 refine⟨r,rfl,by rw[G,gW K],K,⟨T.km,?_,?_,?_,r,?_,?_⟩⟩
 .rw[G,gW K,T.sz]
  have:(t.put j).2<=Uc hs:=by rw[<-T.sz];exact K
  simp;lia
 .intro i k x y l hx hy
  rw[G,g]at hx hy;have B:∀k,t.place[k]?≠My j:=λk e=>w ⟨k,e⟩;by_cases E:i<below t.place j
  .rw[Ng E]at hx
   by_cases V:k<below t.place j
   .rw[Ng V]at hy
    exact T.rs i k x y l hx hy
   .rw[Nf V]at hy
    by_cases D:k=below t.place j
    .rw[Ng D]at hy;cases hy
     exact A i x E hx
    .rw[Nf D]at hy
     exact T.rs i (k-1) x y (by lia) hx hy
  .rw[Nf E]at hx
   rw[Nf (by lia),Nf<|by lia]at hy;by_cases D:i=below t.place j
   .rw[Ng D]at hx;cases hx
    have I:=b3 (k-1) y (by lia) hy;have:y≠j:=λz=>B (k-1) (by rw[hy,z]);lia
   .rw[Nf D]at hx
    exact T.rs (i-1) (k-1) x y (by lia) hx hy
 .intro i x hx
  rw[G,g]at hx;by_cases E:i<below t.place j
  .rw[Ng E]at hx;exact T.le i x hx
  .rw[Nf E]at hx
   by_cases D:i=below t.place j
   .rw[Ng D]at hx;cases hx
    have v:=mU n<|o5 t h;have:=v.j;show j<=t.mask;lia
   .rw[Nf D]at hx;exact T.le _ x hx
 .rw[G,gW K];exact L
 .intro i h' x C hx
  have l0:(t.put j).2<=Uc hs:=by rw[<-T.sz];exact K
  have o:(t.put j).2=below t.place j:=rfl;rw[G,g]at hx;have c:(if i<below t.place j then hs[i]? else if i=below t.place j then My h else hs[i-1]?)=My h':=by
   rw[<-C,o];by_cases E:i<below t.place j
   .rw[Ng E,PU (by rw[Oe];lia),Wa E]
   .rw[Nf E,OE (by rw[Oe];lia),Oe,Qf<|by lia]
    by_cases D:i=below t.place j
    .rw[Ng D,D,Qx];rfl
    .rw[Nf D,show i-below t.place j=(i-1-below t.place j)+1 by lia,RC,QL]
     congr 1;lia
  have d:∀f,hs[f]?=My h'->t.place[f]?=My x->∃n,(ei (t.put j).1 n<|(t.put j).1.probeStart h').j=x/\∀m<n,Lv (t.put j).1 (ei (t.put j).1 m<|(t.put j).1.probeStart h').j:=λf a b=>by
   obtain⟨F,H,o⟩:=T.rch f h' x a b;refine⟨F,by rw[M];exact H,λm S=>?_⟩;rw[M];exact u _<|o m S
  by_cases E:i<below t.place j
  .rw[Ng E]at hx c
   exact d i c hx
  .rw[Nf E]at hx c
   by_cases D:i=below t.place j
   .rw[Ng D]at hx c
    cases hx;cases c;refine⟨n,by rw[M];exact s,λm S=>?_⟩;rw[M];exact u _<|J m S
   .rw[Nf D]at hx c
    exact d (i-1) c hx
theorem wf{t u:Ou}(h:t.mask=u.mask):∀(n:Nat) (p:Probe),ei t n p=ei u n p
 |0,p=>rfl
 |n+1,p=>by
  show ei t n (t.advance p)=ei u n (u.advance p);have:t.advance p=u.advance p:=by unfold advance;rw[h]
  rw[this];exact wf h n _
theorem yH{t u:Ou}(h:t.mask=u.mask)(x:Int):t.probeStart x=u.probeStart x:=by unfold probeStart;rw[h]
noncomputable abbrev tm(mask:Nat):Ou:={mask,place:=#[],dummies:=#[],finger:=0,led:=M3,moves:=0,plain:=M3}
noncomputable abbrev fr(owner:a0v)(j:Nat):Bool:=(owner.getD j<|My 0).isNone
theorem oy{D:Nat}{owner:a0v}:∀(fuel i E:Nat),i<=D->E<2^64->(∃b,b<fuel/\fr owner (cG D b (i,E)).1=M3)->
  ∃n,layClean.free D owner fuel i E=My (ei (tm D) n<|p8 (tm D) i E).j/\fr owner (ei (tm D) n<|p8 (tm D) i E).j=M3/\∀m<n,fr owner (ei (tm D) m<|p8 (tm D) i E).j=M5
 |0,_,_,_,_,⟨b,h,_⟩=>NH h<|Qw b
 |fuel+1,i,E,hi,hp,⟨b,hb,hf⟩=>by
  have v:=rc (t:=tm D) hi hp;obtain⟨S,u,w⟩:=tB hi;have e:(p8 (tm D) i E).more=runEnd D i-i:=rfl;have d:∀k,k<=runEnd D i-i->(ei (tm D) k<|p8 (tm D) i E).j=i+k:=λk a=>by
   rw[rT k v a];rfl
  unfold layClean.free;split
  .rename_i k a
   obtain⟨f,g,y⟩:=List.find?_range_eq_some.mp a;have:=NQ.mp g;refine⟨k,by rw[d k<|by lia],by rw[d k<|by lia];exact f,λm M=>?_⟩;rw[d m<|by lia]
   simp_all
  .rename_i a
   have G:∀k,k<=runEnd D i-i->fr owner (i+k)=M5:=λk l=>by
    have:=List.find?_range_eq_none.mp a k (by lia);simpa using this
   cases b with
   |zero=>
    have o:=G 0 (by lia);exact NH hf (by rw[show(cG D 0 (i,E)).1=i+0 from rfl,o];exact Nb)
   |succ b=>
    obtain⟨n,p,r,A⟩:=oy fuel (y_ D i E) (E/32) (zh _ _ _) (NT (T3 _ _) hp) ⟨b,by lia,hf⟩;have c:∀m,ei (tm D) (runEnd D i-i+1+m) (p8 (tm D) i E)=ei (tm D) m (p8 (tm D) (y_ D i E)<|E/32):=λm=>by
     rw[oo,<-e,pq v];rfl
    refine⟨runEnd D i-i+1+n,by rw[c];exact p,by rw[c];exact r,λm M=>?_⟩;by_cases q:m<=runEnd D i-i
    .rw[d m q];exact G m q
    .obtain⟨K,rfl⟩:∃K,m=runEnd D i-i+1+K:=⟨m-(runEnd D i-i+1),by lia⟩
     simp_all
structure Ow (mask:Nat) (owner:a0v) (hs:a0b):Prop where
 sz:owner.size=mask+1
 lt:∀j k:Nat,owner[j]?=My (My k)->k<Uc hs
 un:∀j j' k:Nat,owner[j]?=My (My k)->owner[j']?=My (My k)->j=j'
 cn:owner.toList.countP (·.isSome)=Uc hs
 ex:∀(k:Nat) (h:Int),hs[k]?=My h->∃j n:Nat,owner[j]?=My (My k)/\(ei (tm mask) n<|(tm mask).probeStart h).j=j/\∀m<n,∃k':Nat,owner[(ei (tm mask) m<|(tm mask).probeStart h).j]?=My (My k')
theorem Ha{D:Nat}{owner:a0v}(E:owner.size=D+1){j:Nat}(b:j<=D):(fr owner j=M3↔owner[j]?=My M0)/\(fr owner j=M5↔∃k:Nat,owner[j]?=My (My k)):=by
 have e:owner[j]?=My owner[j]:=getElem?_pos owner j (by lia);have a:owner.getD j (My 0)=owner[j]:=by simp[Vy,show j<owner.size by lia]
 unfold fr;rw[a,e];cases owner[j]<;>simp
theorem Ow.step{D:Nat}{owner:a0v}{G:a0b}(O:Ow D owner G)(h:Int)(M:Mk D)(N:Uc G<=D):
  ∃j,layClean.free D owner (turns D) (bits h % (D+1)) (bits h)=My j/\Ow D (owner.setIfInBounds j<|My<|Uc G) (G++[h]):=by
 have f:bits h % (D+1)<=D:=by have:=TU (bits h) (show D+1>0 by lia);lia
 have⟨g,h1,h2⟩:∃g,g<=D/\fr owner g=M3:=by
  refine Pc λz=>?_;have S:∀a∈owner.toList,Option.isSome a=M3:=λa s=>by
   obtain⟨i,o,e⟩:=PN s;have C:i<owner.size:=by simpa using o
   have P:fr owner i=M5:=by
    cases q:fr owner i with
    |false=>rfl
    |true=>exact NH ⟨i,by have:=O.sz;lia,q⟩ z
   simp_all
  have:=List.countP_eq_length.mpr S;rw[O.cn]at this;have:=O.sz;simp at*;lia
 have z:(cG D 13 (bits h % (D+1),bits h)).2=0:=by
  rw[o6];exact Nat.div_eq_of_lt (NM (oE h)<|by decide)
 have l:=xy D 13 (bits h % (D+1),bits h) f;obtain⟨k,Q,e⟩:=xI M l h1;have F:fr owner (cG D (13+k) (bits h % (D+1),bits h)).1=M3:=by
  rw[o7,show cG D 13 (bits h % (D+1),bits h)=((cG D 13 (bits h % (D+1),bits h)).1,0)from Rq rfl z,mC]
  simp_all
 obtain⟨n,u,v,H⟩:=oy (owner:=owner) (turns D) (bits h % (D+1)) (bits h) f (oE h) ⟨13+k,by unfold turns;lia,F⟩;have A:∀m,(ei (tm D) m<|p8 (tm D) (bits h % (D+1))<|bits h).j<=D:=λm=>by
  have:=(mU m<|rc (t:=tm D) f<|oE h).j;show _<=(tm D).mask;lia
 generalize B:(ei (tm D) n<|p8 (tm D) (bits h % (D+1))<|bits h).j=j at u v;have I:j<=D:=by rw[<-B];exact A n
 have jn:owner[j]?=My M0:=(Ha O.sz I).1.mp v;have J:j<owner.size:=by have:=O.sz;lia
 have set:∀x:Nat,(owner.setIfInBounds j<|My<|Uc G)[x]?=if j=x then My (My<|Uc G)else owner[x]?:=λx=>by
  rw[Array.getElem?_setIfInBounds];by_cases q:j=x
  .simp_all
  .rw[Nf q,Nf q]
 refine⟨j,u,⟨by rw[Array.size_setIfInBounds];exact O.sz,λx k E=>?_,λx y k E K=>?_,?_,λk R c=>?_⟩⟩
 .rw[set]at E
  rw[Ni];by_cases q:j=x
  .simp_all
  .rw[Nf q]at E
   have:=O.lt x k E;lia
 .rw[set]at E K
  by_cases q:j=x
  .rw[Ng q]at E;cases E
   by_cases d:j=y
   .lia
   .rw[Nf d]at K
    exact NH (O.lt y _ K)<|Oi _
  .rw[Nf q]at E
   by_cases d:j=y
   .rw[Ng d]at K;cases K
    exact NH (O.lt x _ E)<|Oi _
   .rw[Nf d]at K
    exact O.un x y k E K
 .rw[SL,List.countP_set (by simpa using J),O.cn]
  simp_all
 .by_cases q:k<Uc G
  .rw[PU q]at c
   obtain⟨x,L,V,T,U⟩:=O.ex k R c;refine⟨x,L,?_,T,λm M=>?_⟩
   .rw[set,Nf (λw=>by subst w;rw[jn]at V;cases V)];exact V
   .obtain⟨p,b⟩:=U m M
    exact⟨p,by rw[set,Nf (λw=>by rw[<-w,jn]at b;cases b)];exact b⟩
  .have r:=(Nd.mp c).1
   rw[Ni,N5]at r;have:k=Uc G:=by lia
   subst this;rw[OE<|Nh _,Qx]at c;cases c;refine⟨j,n,by rw[set,Ng rfl],B,λm M=>?_⟩;obtain⟨p,b⟩:=(Ha O.sz<|A m).2.mp<|H m M;exact⟨p,by rw[AT,set,Nf (λw=>by rw[<-w,jn]at b;cases b)];exact b⟩
theorem Ow.nil(D:Nat):Ow D (Array.replicate (D+1) M0) []:=by
 have g:∀x:Nat,(Array.replicate (D+1) (M0:a0H))[x]?=if x<D+1 then My M0 else M0:=λx=>Array.getElem?_replicate;refine⟨by simp,λj k h=>?_,λj b k h=>?_,by simp,λk h a=>by simp at a⟩
 .simp_all
 simp_all
theorem v8{E:Nat}(M:Mk E):∀(l:a0b) (D:a0v) (G:a0b),Ow E D G->Uc G+Uc l<=E+1->∃a,l.foldl (λ(K:Option<|a0v×Nat) h=>do
   let (D,k) <-K
   let j <-layClean.free E D (turns E) (bits h % (E+1)) (bits h)
   Ps (D.setIfInBounds j<|My k,k+1)) (My (D,Uc G))=My (a,Uc G+Uc l)/\Ow E a (G++l)
 |[],D,G,O,_=>⟨D,rfl,by rw[NW];exact O⟩
 |h::l,D,G,O,hl=>by
  rw[Np]at hl;obtain⟨j,e,d⟩:=O.step h M (by lia);obtain⟨f,b,c⟩:=v8 M l _ (G++[h]) d (by rw[Ni,N5];lia);refine⟨f,?_,by rw[Nm]at c;exact c⟩;rw[Vq];simp only[Option.bind_eq_bind,Qy,e];rw[Ni,N5]at b;rw[Np,show Uc G+(Uc l+1)=Uc G+1+Uc l by lia];exact b
theorem Ks{D:Nat}(K:Mk D)(G:Array Int)(a:G.size<=D+1):∃E,layClean D G=My E/\Ow D E G.toList:=by
 obtain⟨o,e,O⟩:=v8 K G.toList _ [] (Ow.nil D) (by simpa using a);refine⟨o,?_,O⟩;unfold layClean
 simp_all
theorem wv{D E:Type}{f:D->Option E}{g:D->E}:∀{l:List D},(∀a∈l,f a=My (g a))->l.filterMap f=l.map g
 |[],_=>rfl
 |a::l,h=>by
  rw[O5,h a M7,Nv,wv λb c=>h b<|M2 a c]
noncomputable def eS(E:Nat)(D:a0v):a0l:=(Nj<|E+1).filterMap λj=>(D.getD j M0).map (j,·)
theorem Fz{E:Nat}{D:a0v}(G:D.size=E+1){j k:Nat}:(j,k)∈eS E D↔D[j]?=My (My k):=by
 unfold eS;rw[SV];constructor
 .rintro⟨x,hx,e⟩
  have a:=NQ.mp hx;have b:D.getD x M0=D[x]:=by simp[Vy,show x<D.size by lia]
  rw[b]at e;cases q:D[x]with
  |none=>rw[q]at e;cases e
  |some c=>
   rw[q]at e;simp only[Pa,Wb,Prod.mk.injEq]at e
   simp_all
 .intro e
  have d:=(On.mp e).1
  simp_all
theorem CM(E:Nat)(D:a0v):(eS E D).Pairwise λa b=>a.1<b.1:=by
 refine List.Pairwise.filterMap _ (λa f h b d g c=>?_) List.pairwise_lt_range;cases q:D.getD a M0 with
 |none=>rw[q]at d;cases d
 |some k=>
  rw[q]at d;cases e:D.getD f M0 with
  |none=>rw[e]at c;cases c
  |some i=>
   rw[e]at c;cases d;cases c;exact h
theorem BK{t:Ou}{hs:Array Int}(M:Mk<|sizeAbove wanted-1)(nf:hs.size*5<(sizeAbove wanted-1)*3):
  ∃(G:Ou) (c:Array Nat),t.relaid hs wanted=My (G,c)/\c.toList.Perm (Nj hs.size)/\Tb G (c.toList.map λk=>hs.getD k 0)/\G.led=t.led/\G.plain=t.plain:=by
 have Z:=M.f5;obtain⟨D,e,O⟩:=Ks M hs (by lia);generalize N:sizeAbove wanted-1=mask at*;have d:Uc hs.toList=hs.size:=by simp
 have f:=CM mask D;have l:∀{j k:Nat},(j,k)∈eS mask D↔D[j]?=My (My k):=Fz O.sz;have P:t.relaid hs wanted=My ({mask,place:=((eS mask D).map (·.1)).toArray,dummies:=#[],finger:=t.finger,led:=t.led,moves:=t.movedTo mask,plain:=t.plain},((eS mask D).map (·.2)).toArray):=by
  unfold relaid laid;rw[N,e];rfl
 have g:((eS mask D).map (·.2)).Perm (Nj hs.size):=by
  refine(List.perm_ext_iff_of_nodup ?_ List.nodup_range).mpr λk=>?_
  .unfold List.Nodup
   rw[Qc];refine List.Pairwise.imp_of_mem (R:=λa b=>a.1<b.1) (λ{a b} E r h z=>?_) f;obtain⟨j,k⟩:=a;obtain⟨v,q⟩:=b;have Q:k=q:=z;subst Q;have:=O.un j v k (l.mp E)<|l.mp r;lia
  .rw[NE,NQ]
   constructor
   .rintro⟨⟨j,q⟩,h,rfl⟩
    have:=O.lt j q<|l.mp h;rwa[d]at this
   .intro w
    obtain⟨j,n,A,_⟩:=O.ex k _ (M9<|by rw[d];exact w);exact⟨(j,k),l.mpr A,rfl⟩
 have H:Uc (eS mask D)=hs.size:=by
  have:=g.length_eq
  simp_all
 refine⟨_,_,P,by simpa using g,?_,rfl,rfl⟩;have K:∀{i:Nat} {x:Nat},(((eS mask D).map (·.1)).toArray)[i]?=My x->∃k,(eS mask D)[i]?=My (x,k):=λ{i x} h=>by
  simp_all
 have B:∀{j k:Nat},D[j]?=My (My k)->∃i:Nat,(((eS mask D).map (·.1)).toArray)[i]?=My j:=λ{j k} h=>by
  obtain⟨i,T,U⟩:=PN<|l.mpr h;exact⟨i,by rw[WG,Nk,M9 T,U];rfl⟩
 refine⟨M,?_,?_,?_,rfl,?_,?_⟩
 .simp_all
 .intro i k x y C hx hy
  obtain⟨a,E⟩:=K hx;obtain⟨b,r⟩:=K hy;obtain⟨A,I⟩:=Nd.mp E;obtain⟨W,e2⟩:=Nd.mp r;have:=Ri.mp f i k A W C
  simp_all
 .intro i j h
  obtain⟨a,E⟩:=K h;have:=(On.mp<|l.mp<|Nq E).1;have:=O.sz;show j<=mask;lia
 .simp_all
 .intro i h j J X
  obtain⟨k,w⟩:=K X;have o:=l.mp<|Nq w;have Y:hs.toList[k]?=My h:=by
   rw[Nk]at J;have I:((eS mask D).map (·.2)).toArray.toList[i]?=My k:=by
    simp_all
   rw[I]at J;have kl:k<hs.size:=by have:=O.lt j k o;rwa[d]at this
   simp_all
  obtain⟨v,n,V,s,a3⟩:=O.ex k h Y;have:=O.un j v k o V;subst this;have S:∀(u:Ou),u.mask=mask->∀m,ei u m (u.probeStart h)=ei (tm mask) m ((tm mask).probeStart h):=λu L m=>by
   rw[yH (u:=tm mask) L,wf (u:=tm mask) L]
  refine⟨n,by rw[S _ rfl];exact s,λm F=>?_⟩;rw[S _ rfl];obtain⟨q,p⟩:=a3 m F;exact B p
theorem tJ{t:Ou}(a:t.probe f h p=r)(T:Tb t d)(v:Pv t p)(b:e<10*turns t.mask)(c:¬Lv t (ei t e p).j):
  ∃m,m<=e/\(∀D<m,∃i,t.place[i]?=My (ei t D p).j/\f i≠h)/\
   ((¬Lv t (ei t m p).j/\r=My (.empty (ei t m p).j M0))\/∃i,t.place[i]?=My (ei t m p).j/\f i=h/\r=My (.candidate (ei t m p).j i<|ei t (m+1) p)):=by
 subst a;exact G9 T.rs T.du _ p e v b c
section
variable{prog:NY}{w:N6}{A:Om}{E:a0d}{s:Na}
noncomputable abbrev hW(prog:NY)(w:N6):HeapKind prog w a0b:=tupleKind<|Uo prog w
noncomputable abbrev hsh(prog:NY)(w:N6)(k:a0b):Int:=(hW prog w).hash k
theorem Tb.fits{t:Ou}{hs:a0b}(T:Tb t hs)(s:Uc hs=n):t.fits n=M3:=by
 have:=T.nf;have:=T.sz;have:=T.km.f5;unfold Vx SetTable.fill;rw[T.du];simp;lia
theorem items_int(h:ItemsAre (Uo prog w) b a):∀v∈a,∃n t,v=R0 n t:=by
 induction h with
 |nil=>intro v hv;cases hv
 |@cons k v' b a h1 _ ih=>
  intro v hv;rcases Nn.mp hv with rfl|hv
  .obtain⟨t,e⟩:=UL h1
   exact⟨_,t,e⟩
  .exact ih v hv
theorem AC{M:Tp}{o:Oz}(b:s.heap.get? a=My o)(h:Q o.cls s):Nu M A (Yc<|.ref a) Q E s:=by
 show Nu M A (loadPart a _>>=_) Q E s;exact MY<|W0 b<|M1 h
theorem vS(e:(hW prog w).is s.heap k x)(h:Q M5 s):Nu (NK prog w) A (VL 8<|.ref x) Q E s:=by
 obtain⟨o,G,n,d,f,M,g⟩:=e;unfold VL;refine MY<|AC d ?_;rw[f];simp only[U7,Ol];refine MY<|M1 ?_;simp only[P5,NF,Oy];refine MY<|Py d M ?_;refine MY ?_;show Nu _ _ (WT G _ _) _ _ s;rw[<-Rt];refine T9 _ (λD r K=>r.1=M0/\K=s/\∀v∈D,∃n t,v=R0 n t) _ ?_ ?_ _ _ ⟨rfl,rfl,items_int g⟩
 .rintro v D r K ⟨b,rfl,a⟩
  obtain⟨n,t,rfl⟩:=a v M7;unfold VL;refine MY<|M1 ?_;simp only[NF,Oy];exact M1 ⟨rfl,rfl,λu c=>a u<|M2 _ c⟩
 .rintro⟨r1,i⟩ K ⟨b,rfl,_⟩
  simp only at b;subst b;exact M1 h
theorem Gi(d:(hW prog w).is s.heap k x)(h:Q M3 s):Nu (NK prog w) A (hashByValue 8<|.ref x) Q E s:=by
 have e:=Wk (s:=s) d;obtain⟨o,G,n,f,i,M,g⟩:=d;unfold hashByValue;refine MY<|Q6 e F.slot_tuple_hash.lookup ?_;simp only;refine MY<|Py f M ?_;refine MY ?_;show Nu _ _ (WT G _ _) _ _ s;rw[<-Rt];refine T9 _ (λD r K=>r.1=M0/\K=s/\∀v∈D,∃n t,v=R0 n t) _ ?_ ?_ _ _ ⟨rfl,rfl,items_int g⟩
 .rintro v D r K ⟨b,rfl,a⟩
  obtain⟨n,t,rfl⟩:=a v M7;unfold hashByValue;refine MY<|M1 ?_;simp only[P5,NF,Oy];exact M1 ⟨rfl,rfl,λu c=>a u<|M2 _ c⟩
 .rintro⟨r1,j⟩ K ⟨b,rfl,_⟩
  simp only at b;subst b;exact M1 h
theorem Ix(f:(hW prog w).is s.heap k x):∀(l:a0p) {Q:Bool->Na->Prop},(∀y∈l,(hW prog w).is s.heap y.1 y.2)->Q M5 s->Nu (NK prog w) A (VN (.ref x)<|l.map λy=>Ny y.2) Q E s:=by
 intro l Q g h;unfold VN;refine MY ?_;refine T9 _ (λD r G=>r.1=M0/\G=s/\∃b:a0p,D=b.map (λy=>Ny y.2)/\∀y∈b,(hW prog w).is s.heap y.1 y.2) _ ?_ ?_ _ _ ⟨rfl,rfl,l,rfl,g⟩
 .rintro v D r G ⟨d,rfl,b,e,a⟩
  cases b with
  |nil=>cases e
  |cons y b=>
   cases e;have M:=a y M7;have K:(M0:a0K)=M0/\G=G/\∃c:a0p,b.map (λy=>Ny y.2)=c.map (λy=>Ny y.2)/\∀y∈c,(hW prog w).is G.heap y.1 y.2:=⟨rfl,rfl,b,rfl,λu i=>a u<|M2 y i⟩;by_cases q:x==y.2
   .simp only[q,Bool.true_or,Ol]
    exact M1 K
   .simp only[q,Bool.false_or,carriedByValue,SQ,NF,Oy]
    refine MY<|(hW prog w).quiet f ?_;simp only[P5,NF,Oy];refine MY<|(hW prog w).quiet M ?_;simp only[P5,NF,Oy];refine MY<|vS f ?_;simp only[NF,Oy];refine MY<|vS M ?_;simp only[NF,Oy];exact M1 K
 .rintro⟨r1,j⟩ G ⟨d,rfl,_⟩
  simp only at d;subst d;exact M1 h
theorem BA{o:Oz}{M:a0w}{t:Ou}{D:a0p}(hu:A.units<Uy)(ho:s.heap.get? a=My o)(hd:o.data= .set M ep t)
  (F:M.toList=D.map λx=>(hsh prog w x.1,Ny x.2)) (hx:∀x∈D,(hW prog w).is s.heap x.1 x.2) (T:Tb t<|D.map λx=>hsh prog w x.1) (hk:(hW prog w).is s.heap k b)
  (he:e<10*turns t.mask) (P:¬Lv t (ei t e<|t.probeStart<|hsh prog w k).j) (ha:∀m<e,Lv t (ei t m<|t.probeStart<|hsh prog w k).j)
  (q1:k∈D.map (·.1)->Q (.there M0) s) (q2:k∉D.map (·.1)->Q (.free (ei t e<|t.probeStart<|hsh prog w k).j M5) s):
  ∀(n c m:Nat) (st:Option Probe),e=m+n->n<c->st.getD (t.probeStart<|hsh prog w k)=ei t m (t.probeStart<|hsh prog w k)->(∀G<m,∀(i:Nat) x,t.place[i]?=My (ei t G<|t.probeStart<|hsh prog w k).j->D[i]?=My x->x.1≠k)->
   Nu (NK prog w) A (setSearchFrom a (.ref b) (hsh prog w k) M3 c st) Q E s:=by
 have ac:M.size=Uc D:=by rw[<-Nx,F,MZ]
 have R:t.fits M.size=M3:=T.fits (by rw[MZ,ac]);have h:∀i:Nat,M[i]?=(D[i]?).map λx=>(hsh prog w x.1,Ny x.2):=λi=>by rw[<-OF,F,Nk]
 have gw:t.gaveWay=M5:=by
  have:=T.km.f5;unfold SetTable.gaveWay;rw[beq_eq_false_iff_ne];lia
 intro n
 induction n using VB with
 |_ n ih=>
  intro c m st em al ad l;cases c with
  |zero=>lia
  |succ c=>
   unfold setSearchFrom;refine MY<|Pt ho hd R ?_
   dsimp only
   rw[ad,gw];simp only[NF,Oy];have v:=mU m<|o5 t<|hsh prog w k;have S:∀n',ei t n' (ei t m<|t.probeStart<|hsh prog w k)=ei t (m+n') (t.probeStart<|hsh prog w k):=λn'=>(oo t m n' _).symm;have K:∀{i N j:Nat},t.place[i]?=My j->t.place[N]?=My j->i=N:=λ{i N j} r B=>by
    rcases RN i N with q|q|q
    .exact NH (T.rs i N j j q r B) (Oi j)
    .exact q
    .exact NH (T.rs N i j j q B r) (Oi j)
   split
   .rename_i U heq
    obtain⟨G,ae,p,d⟩:=tJ heq T v (e:=n) (by lia) (by rw[S,<-em];exact P);rcases d with⟨W,H⟩|⟨i,O,am,H⟩
    .cases H
     have X:G=n:=by
      rcases U4 G n with q|q
      .rw[S]at W
       exact NH (ha (m+G)<|by lia) W
      .lia
     subst X;refine M1 ?_;rw[S,<-em];refine q2 λY=>?_;obtain⟨x,af,I⟩:=NE.mp Y;obtain⟨u,ag,ah⟩:=PN af;have g:D[u]?=My x:=by rw[M9 ag,ah]
     have J:u<t.place.size:=by have:=T.sz;rw[MZ]at this;lia
     obtain⟨C,a1,a2⟩:=T.rch u (hsh prog w k) t.place[u] (by rw[Nk,g,<-I];rfl)<|getElem?_pos t.place u J;have an:C<e:=by
      rcases RN C e with q|q|q
      .exact q
      .subst q
       exact NH ⟨u,by rw[a1];exact getElem?_pos t.place u J⟩ P
      .exact NH (a2 e q) P
     have Z:t.place[u]?=My (ei t C<|t.probeStart<|hsh prog w k).j:=by rw[a1];exact getElem?_pos t.place u J
     by_cases q:C<m
     .exact l C q u x Z g I
     .obtain⟨i,r,B⟩:=p (C-m) (by lia)
      rw[S,show m+(C-m)=C by lia]at r;have:=K r Z;subst this;refine B ?_;show(M[i]?.map (·.1)).getD 0=_;rw[h,g,<-I];rfl
    .cases H
     have L:i<Uc D:=by
      have r:=(On.mp O).1;have:=T.sz;rw[MZ]at this;lia
     have g:D[i]?=My D[i]:=M9 L;have aa:M[i]?=My (hsh prog w D[i].1,Ny D[i].2):=by rw[h,g];rfl
     have ai:=hx D[i]<|OC L;rw[S]at O;simp only;have el:(P8 (λx=>x.snd) (Array.filter (λx=>x.fst==hsh prog w k) M).toList)=(D.filter λy=>hsh prog w y.1==hsh prog w k).map λy=>Ny y.2:=by
      rw[Array.toList_filter,F,List.filter_map,No];rfl
     rw[el];have ab:∀{Q':Bool->Na->Prop},Q' M5 s->Nu (NK prog w) A (VN (.ref b)<|(D.filter λy=>hsh prog w y.1==hsh prog w k).map λy=>Ny y.2) Q' E s:=λhq=>Ix hk _ (λy hy=>hx y (PQ.mp hy).1) hq;have sm:t.sameMemory t.moves t.mask=My M3:=by unfold sameMemory;simp
     have sl:t.slot (ei t (m+G)<|t.probeStart<|hsh prog w k).j= .live i:=sY T.rs O;cases ak:t.led
     all_goals simp only[SR,P5,NF,Ol,Oy,S,aa]
     all_goals try refine MY<|ab ?_
     all_goals try simp only[NF,Oy]
     all_goals
      refine MY<|O0<|(hW prog w).eqBool hu ai hk<|MY<|Pt ho hd R ?_;simp only[P6];by_cases q:D[i].1=k
      .rw[Ng<|NC q]
       exact M1<|q1<|NE.mpr ⟨D[i],OC L,q⟩
      .rw[Nf<|by simpa using q]
       simp only[sm,Ol,sl,aa];refine MY ?_;unfold isSame;simp only[U7,Ol];refine M1<|MY<|M1 ?_;simp only[Ol];rw[Nf<|by simpa using q];have X:G<n:=by
        rcases U4 G n with z|z
        .exact z
        .obtain rfl:G=n:=by lia
         rw[<-em]at O;exact NH ⟨i,O⟩ P
       refine ih (n-(G+1)) (by lia) c (m+G+1) _ (by lia) (by lia) rfl λV ao i2 x2 r B z=>?_;by_cases q1:V<m
       .exact l V q1 i2 x2 r B z
       .by_cases q2:V=m+G
        .subst q2
         have:=K O r;subst this;rw[g]at B;cases B;exact q z
        .obtain⟨i3,h3,h4⟩:=p (V-m) (by lia)
         rw[S,show m+(V-m)=V by lia]at h3;have:=K h3 r;subst this;refine h4 ?_;show(M[i3]?.map (·.1)).getD 0=_;rw[h,B,<-z];rfl
   .rename_i hno
    have aj:∀f:Nat->Int,(∀U,t.probe f (hsh prog w k) (ei t m<|t.probeStart<|hsh prog w k)=My U->False)->False:=λf R=>by
     obtain⟨G,ae,p,d⟩:=tJ (f:=f) rfl T v (e:=n) (by lia) (by rw[S,<-em];exact P);rcases d with⟨_,H⟩|⟨i,_,_,H⟩
     .exact R _ H
     .exact R _ H
    exact(aj _ hno).elim
theorem Ma{P:Nat->Prop}:∀n,P n->∃m,m<=n/\P m/\∀k<m,¬P k:=by
 intro n
 induction n using VB with
 |_ n ih=>
  intro h;by_cases q:∃k,k<n/\P k
  .obtain⟨k,a,b⟩:=q
   obtain⟨m,d,c⟩:=ih k a b;exact⟨m,by lia,c⟩
  .exact⟨n,Nh n,h,λk a b=>q ⟨k,a,b⟩⟩
def sH(prog:NY)(w:N6)(h:Op)(a:M6)(s:a0p):Prop:=
 ∃o A D t,h.get? a=My o/\o.ExactSet/\o.data= .set A D t/\(A.toList=s.map λx=>(hsh prog w x.1,Ny x.2))/\(s.map (·.1)).Nodup/\(∀x∈s,(hW prog w).is h x.1 x.2)/\(Tb t<|s.map λx=>hsh prog w x.1)/\t.plain=M3/\t.led=!(w.params.followText "set-order")
theorem pL{h A:Op}{o:Oz}{l m t}(x:(hW prog w).is h k b)(g:h.get? a=My o)(D:o.data= .set l m t)(hs:N1 a h A):(hW prog w).is A k b:=by
 obtain⟨f,s,n,d,i,c,j⟩:=x;have e:b≠a:=by
  rintro rfl;obtain rfl:f=o:=N0<|d.symm.trans g;rw[D]at c;exact nomatch c
 exact⟨f,s,n,(hs.2 b e).trans d,i,c,j⟩
theorem sU{h:Op}{o:Oz}(c:h.get? a=My o)(w:o.data= .set e d t)(b:a0w)(s:Ou):(h.update a<|TV b s).get? a=My {o with data:= .set b (d+1) s}:=by
 have:=O6 (TV b s) c (by rw[putSet_of b s w];rfl);rw[putSet_of b s w]at this;exact this
theorem JP{t:Ou}(T:Tb t hs)(j:Nat):(t.put j).1.dummies=#[]/\(t.put j).1.place.size=t.place.size+1/\(t.put j).2<=t.place.size:=by
 obtain⟨s,a,b3⟩:=jH (j:=j) T.rs;have w:has t.dummies j=M5:=by unfold has;rw[T.du];rfl
 refine⟨?_,gW s,s⟩;show(if has t.dummies j=M3 then _ else t.dummies)=#[];rw[w,Nf Nb,T.du]
theorem IK{w D:Type}{A:List w}{s:Array D}{f:w->D}(e:s.toList=A.map f){p:Nat}(c:p<=s.size)(x:w):(insertAt s p<|f x).toList=(A.take p++x::A.drop p).map f:=by
 unfold insertAt;simp only[Qe,RH,WC];have a:(s.toList.extract 0 p)=s.toList.take p:=by simp[List.extract]
 have b:(s.toList.extract p s.size)=s.toList.drop p:=by
  simp only[List.extract];rw[OZ<|by simp]
 rw[a,b,e,Of,Nv,UB,R9,Nm];rfl
theorem Lg{D:a0p}(hu:A.units<Uy)(S:sH prog w s.heap a D)(hk:(hW prog w).is s.heap k b)(hn:Uc D<76)
  (h:∀K q,N1 a s.heap K->sH prog w K a q->(k∈D.map (·.1)->q=D)->(k∉D.map (·.1)->q.Perm ((k,b)::D))->Q (decide (k∉D.map (·.1))) {s with heap:=K}):
  Nu (NK prog w) A (setAddHashed a (.ref b)<|hsh prog w k) Q E s:=by
 have S0:=S;obtain⟨o,G,ep,t,R,W,V,U,af,hx,T,hp,I⟩:=S;have C:G.size=Uc D:=by rw[<-Nx,U,MZ]
 have hf:t.fits G.size=M3:=T.fits (by rw[MZ,C]);have X:t.place.size=Uc D:=by rw[T.sz,MZ]
 obtain⟨e0,ag,ah⟩:=T.free<|o5 t<|hsh prog w k;obtain⟨e,aj,hl,Y⟩:=Ma (P:=λe=>¬Lv t (ei t e<|t.probeStart<|hsh prog w k).j) e0 ah;have ha:∀m<e,Lv t (ei t m<|t.probeStart<|hsh prog w k).j:=λm M=>Classical.not_not.mp<|Y m M;have ak:=T.km.f5;unfold setAddHashed setAddHashedIn;refine O0<|MY<|Pt R V hf ?_;have hb:byScan (Ny b) G=M5:=rfl;simp only[hb,NF,Oy];refine MY ?_;unfold setSearch;refine BA (e:=e) hu R V U hx T hk (by lia) hl ha (λM=>?_) (λM=>?_) e 100000 0 M0 (by lia) (by unfold turns at ag;lia) rfl (λm' ai=>NH ai<|Qw _)
 .refine M1 ?_
  have:=h s.heap D (N1.refl a s.heap) S0 (λ_=>rfl) (λz=>NH M z);rw[Ob (λz=>z M)]at this;exact this
 .have hQ:∀K q,N1 a s.heap K->sH prog w K a q->q.Perm ((k,b)::D)->Q M3 {s with heap:=K}:=λK q h1 Z h3=>by
   have:=h K q h1 Z (λz=>NH z M) (λ_=>h3);rwa[NC M]at this
  simp only;refine MY<|Pt R V hf ?_;generalize hj:(ei t e<|t.probeStart<|hsh prog w k).j=j at hl;obtain⟨pd,ps,pl⟩:=JP T j;generalize v:t.put j=tp at pd ps pl;obtain⟨t1,p⟩:=tp;simp only at pd ps pl⊢;have l:t1.plain=M3:=by
   have:(t.put j).1.plain=t.plain:=rfl;rw[v]at this;rw[this,hp]
  have J:t1.led=t.led:=by
   have:(t.put j).1.led=t.led:=rfl;rw[v]at this;exact this
  have u:t1.mask=t.mask:=by
   have:(t.put j).1.mask=t.mask:=rfl;rw[v]at this;exact this
  rw[l];simp only[Ol];refine MY<|Gi hk ?_;simp only[Ol];have L:=IK (f:=λx:a0b×M6=>(hsh prog w x.1,Ny x.2)) U (p:=p) (by lia) (k,b);have y:(insertAt G p (hsh prog w k,Ny b)).size=G.size+1:=gW (by lia);have d:(D.take p++(k,b)::D.drop p).Perm ((k,b)::D):=by
   have:=List.perm_middle (a:=(k,b)) (l₁:=D.take p) (l₂:=D.drop p);rwa[NV]at this
  have nd1:((D.take p++(k,b)::D.drop p).map (·.1)).Nodup:=by
   refine(d.map (·.1)).nodup_iff.mpr ?_;rw[Nv,N2];exact⟨M,af⟩
  refine MY (wpAny_storeSet_of R V ?_<|by rw[y,P0];lia);have F:=OY s.heap a<|TV (insertAt G p (hsh prog w k,Ny b)) t1;have g1:=sU R V (insertAt G p (hsh prog w k,Ny b)) t1;have aa:∀x∈D.take p++(k,b)::D.drop p,(hW prog w).is (s.heap.update a<|TV (insertAt G p (hsh prog w k,Ny b)) t1) x.1 x.2:=λx hx'=>by
   rcases Nn.mp (d.mem_iff.mp hx')with rfl|hx'
   .exact pL hk R V F
   .exact pL (hx x hx') R V F
  by_cases r:t1.tooFull=M3
  .simp only[r,SR,Ro,Ol]
   have fu:t1.fill*5≥t1.mask*3:=by unfold tooFull at r;exact Ph r
   have fe:t1.fill=Uc D+1:=by unfold SetTable.fill;rw[pd,ps,X];rfl
   have al:=T.nf;have f1:t1.fits (insertAt G p (hsh prog w k,Ny b)).size=M3:=by
    unfold Vx;rw[y,fe,ps,X,C,u];simp;lia
   have wm:Mk (sizeAbove (grown<|G.size+1)-1)/\(G.size+1)*5<(sizeAbove (grown<|G.size+1)-1)*3/\sizeAbove (grown<|G.size+1)<=128:=by
    rw[fe,u]at fu;rw[C];rcases T.km with z|z|z
    .have:Uc D=4:=by lia
     rw[this];exact⟨.inr (.inl<|by decide),by decide,by decide⟩
    .have:Uc D=18:=by lia
     rw[this];exact⟨.inr (.inr<|by decide),by decide,by decide⟩
    .lia
   have B:(Array.map (λx=>x.fst)<|insertAt G p (hsh prog w k,Ny b)).size=G.size+1:=by rw[Array.size_map,y]
   obtain⟨t2,c,er,op,T2,ab,H⟩:=BK (t:=t1) (hs:=(insertAt G p (hsh prog w k,Ny b)).map (·.1)) (wanted:=grown<|G.size+1) wm.1 (by rw[B];exact wm.2.1);refine MY ?_;unfold setRelay;refine MY<|Pt g1 rfl f1 ?_;simp only;rw[Nf<|by rw[P0];lia];rw[er];generalize am:insertAt G p (hsh prog w k,Ny b)=es1 at*;generalize an:D.take p++(k,b)::D.drop p=xs1 at*;have l1:Uc xs1=G.size+1:=by rw[d.length_eq,Np,C]
   have N:∀i,i<Uc xs1->es1[i]?=My (hsh prog w (xs1.getD i (k,b)).1,Ny (xs1.getD i (k,b)).2):=λi O=>by
    rw[<-OF,L,Nk,M9 O,Nz,M9 O];rfl
   have om:∀i∈c.toList,i<Uc xs1:=λi O=>by
    have:=NQ.mp<|op.mem_iff.mp O;rw[B]at this;lia
   have ac:(c.filterMap λx=>es1[x]?).toList=(c.toList.map λi=>xs1.getD i (k,b)).map λx=>(hsh prog w x.1,Ny x.2):=by
    rw[Array.toList_filterMap,wv (g:=λi=>(hsh prog w (xs1.getD i (k,b)).1,Ny (xs1.getD i (k,b)).2)) λi O=>N i<|om i O,No];rfl
   have n:(c.toList.map λi=>xs1.getD i (k,b)).Perm xs1:=by
    refine(op.map _).trans<|W5 ?_;rw[B,<-l1];refine R5 (by simp) λi h1 Z=>?_;rw[R7,SU,Nz,M9 Z];rfl
   have ad:(c.filterMap λx=>es1[x]?).size=es1.size:=by
    rw[<-Nx,ac,MZ,n.length_eq,l1,y]
   refine MY ?_;show Nu _ _ (if((c.filterMap λx=>es1[x]?).size !=es1.size)=M3 then _ else _) _ _ _;rw[Nf<|by rw[ad];simp];refine M1 ?_;refine wpAny_storeSet_of g1 rfl ?_ (by rw[ad,y,P0];lia);have ae:=OY (s.heap.update a<|TV es1 t1) a<|TV (c.filterMap λx=>es1[x]?) t2;have g2:=sU g1 rfl (c.filterMap λx=>es1[x]?) t2;refine M1<|hQ _ (c.toList.map λi=>xs1.getD i (k,b)) (F.trans ae) ⟨_,_,_,t2,g2,W,rfl,ac,?_,λx hx'=>?_,?_,by rw[H,l],by rw[ab,J,I]⟩<|n.trans d
   .exact(n.map (·.1)).nodup_iff.mpr nd1
   .exact pL (aa x<|n.mem_iff.mp hx') g1 rfl ae
   .have eh:(c.toList.map λi=>xs1.getD i (k,b)).map (λx=>hsh prog w x.1)=c.toList.map λi=>(es1.map (·.1)).getD i 0:=by
     rw[No];refine Oh λi O=>?_;have h1:=N i<|om i O;have Z:(es1.map (·.1))[i]?=My (hsh prog w (xs1.getD i (k,b)).1):=by rw[Array.getElem?_map,h1];rfl
     have h3:=(On.mp Z);obtain⟨h4,h5⟩:=h3;simp only[Vo];rw[<-h5];simp[Vy,h4];lia
    rw[eh];exact T2
  .simp only[r,SR,Bool.and_false,Oy,P6,NF]
   refine M1<|hQ _ (D.take p++(k,b)::D.drop p) F ⟨_,_,_,t1,g1,W,rfl,L,nd1,aa,?_,l,by rw[J,I]⟩ d;have nf:(t.place.size+1)*5<t.mask*3:=by
    have:¬(t1.fill*5≥t1.mask*3):=by
     intro z;exact r (by unfold tooFull;exact NC z)
    unfold SetTable.fill at this;rw[pd,ps,u]at this;simp at this;lia
   have:=(T.put (h:=hsh prog w k) hl hj (by exact ha) nf).2.2.2.2;rw[v]at this;rw[Of,Nv,UB,R9];exact this
end
namespace F2
theorem si_next:Slot "set_iterator" "__next__" "set_iterator.__next__":= .of (owner:="set_iterator") (n:="__next__") (by rw[Wo,UC];kernel_rfl) (by decide +kernel) (by decide +kernel) (by decide +kernel)
  (by first|exact .inl (by decide +kernel)|exact .inr (by decide +kernel)) (by rw[Tv];kernel_rfl)
theorem si_iter:Slot "set_iterator" "__iter__" "set_iterator.__iter__":= .of (owner:="set_iterator") (n:="__iter__") (by rw[Wo,UC];kernel_rfl) (by decide +kernel) (by decide +kernel) (by decide +kernel)
  (by first|exact .inl (by decide +kernel)|exact .inr (by decide +kernel)) (by rw[Tv];kernel_rfl)
theorem ent_next:entryFor table "set_iterator.__next__"=My Builtin.«set_iterator.__next__»:=entryFor_of_tree (by kernel_rfl)
theorem ent_iter:entryFor table "set_iterator.__iter__"=My Builtin.«dict_keyiterator.__iter__»:=WS (id':="dict_keyiterator.__iter__") (by kernel_rfl) rfl (by decide +kernel) (by kernel_rfl)
theorem ent_set_iter:entryFor table "set.__iter__"=My Builtin.«frozenset.__iter__»:=WS (id':="frozenset.__iter__") (by kernel_rfl) rfl (by decide +kernel) (by kernel_rfl)
theorem args_next(a:M8):argsOk "set_iterator.__next__" ⟨[a],[]⟩:=by unfold argsOk;kernel_rfl
theorem args_iter(a:M8):argsOk "set_iterator.__iter__" ⟨[a],[]⟩:=by unfold argsOk;kernel_rfl
end F2
theorem qY{D:Type}:∀{l:List D} {i:Nat} (h:i<Uc l),(l[i]::l.eraseIdx i).Perm l
 |[],i,h=>NH h<|Qw i
 |a::l,0,h=> .refl _
 |a::l,i+1,h=>by
  show(l[i]'(by simpa using h)::a::l.eraseIdx i).Perm (a::l);exact(R3.swap _ _ _).trans<|(qY<|by simpa using h).cons a
theorem xG{D:Type}(next:Nat->Nat):∀(fuel k:Nat) (left:List D) (a:Array D),Uc left<=fuel->(VM next fuel k left a).toList.Perm (a.toList++left)
 |0,k,left,a,h=>by
  have:left=[]:=PD.mp (by lia);subst this;unfold VM;rw[NW]
 |fuel+1,k,left,a,h=>by
  unfold VM;cases left with
  |nil=>simp
  |cons c l0=>
   have b:next k % Uc (c::l0)<Uc (c::l0):=TU _ (by simp)
   rw[M9 b];simp only;refine(xG next fuel (k+1) _ _ (by rw[List.length_eraseIdx_of_lt b];lia)).trans ?_
   rw[RH,Nm];exact VS _<|qY b
theorem BS{D:Type}(next:Nat->Nat)(xs:Array D):(V6 next xs).toList.Perm xs.toList:=by
 unfold V6;refine(xG next xs.size 0 xs.toList #[] (by simp)).trans ?_
 simp
section
variable{prog:NY}{w:N6}{A:Om}{E:a0d}{s:Na}
noncomputable def eF(w:N6)(a:M6)(ep:Nat)(s:a0w):a0w:=if w.params.followText "set-order"=M3 then V6 (w.params.setOrder a ep) s else s
theorem ln(w:N6)(a:M6)(ep:Nat)(s:a0w):(eF w a ep s).toList.Perm s.toList:=by
 unfold eF;split
 .exact BS _ _
 .exact .refl _
structure Fv (w:N6) (h:Op) (I a:M6) (es:a0w) (ep:Nat) (t:Ou) (i:Nat):Prop where
 st:∃o,h.get? a=My o/\o.data= .set es ep t
 it:∃(o:Oz) (sl:Nat),h.get? I=My o/\o.cls= .type "set_iterator"/\o.data= .fields #[.int sl 0,.int i 0,.ref a,.int es.size 0,.int ep 0]/\(w.params.followText "set-order"=M5->below t.place sl=i)
theorem nh{M:Tp}(h:Q (M.w.params.followText "set-order") s):Nu M A setsByText Q E s:=by
 unfold setsByText;exact MY<|SE<|M1 h
theorem CA{D:a0w}{t:Ou}{e:Int×M8}(T:Tb t hs)(h:t.fits D.size=M3)(H:t.plain=M3)(J:t.led=!(w.params.followText "set-order"))(x:Fv w s.heap I a D Z t i)(k:I≠a)(l:(eF w a Z D)[i]?=My e)
  (L:∀M,Fv w M I a D Z t (i+1)->N1 I s.heap M->Q (My e.2) {s with heap:=M}):Nu (NK prog w) A (Sf<|.ref I) Q E s:=by
 obtain⟨⟨N,b,c⟩,o,U,n,u,G,p⟩:=id x;have y:s.TypeIs (.ref I) "set_iterator":=⟨o,n,u⟩;unfold Sf;refine MY<|Rb<|wpAny_callSpecial?_slot (name:=Nl "__next__") y F2.si_next<|Ot F2.si_next y F2.ent_next ?_<|F2.args_next _;unfold Builtin.«set_iterator.__next__»;refine MY<|M1 ?_;refine MY<|UP n G ?_;simp only;refine MY<|U8 b c h ?_;simp only[QU,NF,Oy];refine MY ?_;simp only[Pn]
 have d:∀K:Nat,(w.params.followText "set-order"=M5->below t.place K=i+1)->Nu (NK prog w) A.in1 (do
    WY (Ny I) 0 (Rc K)
    WY (Ny I) 1 (Rc<|i+1)
    ret e.2) (λd S=>∃v,d=Fin.done (Flow.ret v)/\Nu (NK prog w) A (Ps<|My v) Q E S) (λe S=>Nu (NK prog w) A (do
     if(<-Tu e (R1 "StopIteration"))=M3 then Ps M0 else throw e) Q E S) s:=λK r=>by
  refine MY<|Qu n G (by simp) ?_;have B:(s.heap.update I<|Tq (·.setIfInBounds 0 (Rc K))).get? I=My _:=O6 _ n<|QZ<|OR G _;refine MY<|Qu B (OR G _) (by simp) ?_;refine M1 ⟨_,rfl,M1<|L _ ⟨⟨N,?_,c⟩,⟨_,K,O6 _ B<|QZ<|OR (OR G _) _,?_,?_,r⟩⟩<|(OY ..).trans<|OY ..⟩
  .rw[Qz _ _ _ _<|Ne.symm k,Qz _ _ _ _<|Ne.symm k];exact b
  .rw[U6,U6];exact u
  .rw[OR<|OR G _];simp[Rc]
 unfold setNext;refine MY<|Pt b c h<|MY<|nh ?_;have C:(NK prog w).w=w:=rfl;rw[C];cases q:w.params.followText "set-order"
 .have f:eF w a Z D=D:=by unfold eF;rw[q];rfl
  rw[f]at l;have O:=p q;have W:=(On.mp l).1;simp only[NF,Oy];have P:t.place.size=D.size:=by
   unfold Vx at h;simp only[NN,Rl,NR]at h;exact h.1
  rw[Nf (λz=>by
   have F:(!t.plain&&decide (D.size>1))=M3:=z;rw[H]at F;cases F)]
  refine MY ?_;show Nu _ _ (if(!t.led&&!D.isEmpty)=M3 then _ else _) _ _ _;rw[Nf<|by rw[J,q];exact Nb];refine M1<|M1 ?_;have g:t.place[i]?=My t.place[i]:=getElem?_pos t.place i (by lia);rw[O,l,g];simp only;refine d _ λ_=>?_;obtain⟨V,R,b3⟩:=jH (j:=t.place[i]+1) T.rs;rcases RN (below t.place<|t.place[i]+1) (i+1)with z|z|z
  .have:=b3 i _ (by lia) g
   lia
  .exact z
  .have m:t.place[i+1]?=My t.place[i+1]:=getElem?_pos t.place (i+1) (by lia)
   have X:=R (i+1) _ z m;have Y:=T.rs i (i+1) _ _ (by lia) g m;lia
 .have f:eF w a Z D=V6 (w.params.setOrder a Z) D:=by unfold eF;rw[q];rfl
  rw[f]at l;simp only[Ol,QU,NF,Oy];refine MY ?_;unfold setWalk;refine MY<|Pt b c h<|MY<|nh ?_;rw[C,q];simp only[Ol];refine MY<|SE<|M1 ?_;refine M1 ?_;rw[show((NK prog w).w.params.setOrder a Z)=w.params.setOrder a Z from rfl,l];simp only[Pa];exact d _ λz=>by rw[q]at z;cases z
theorem Fj{D:a0w}{t:Ou}(r:A.handled=M0)(T:Tb t L)(g:t.fits D.size=M3)(u:t.plain=M3)(y:t.led=!(w.params.followText "set-order"))(x:Fv w s.heap I a D J t D.size)
  (B:∀K,Vf I s.heap K->Q M0 {s with heap:=K}):Nu (NK prog w) A (Sf<|.ref I) Q E s:=by
 obtain⟨⟨F,d,f⟩,o,H,h,C,M,i⟩:=id x;have l:s.TypeIs (.ref I) "set_iterator":=⟨o,h,C⟩;unfold Sf;refine MY<|Rb<|wpAny_callSpecial?_slot (name:=Nl "__next__") l F2.si_next<|Ot F2.si_next l F2.ent_next ?_<|F2.args_next _;unfold Builtin.«set_iterator.__next__»;refine MY<|M1 ?_;refine MY<|UP h M ?_;simp only;refine MY<|U8 d f g ?_;simp only[QU,NF,Oy];refine MY ?_;simp only[Pn]
 have c:Nu (NK prog w) A.in1 (do
    WY (Ny I) 2 Ov
    let e <-X9 (R1 "StopIteration") []
    (raiseNew e:WB Fin)) (λc G=>∃v,c=Fin.done (Flow.ret v)/\Nu (NK prog w) A (Ps<|My v) Q E G) (λe G=>Nu (NK prog w) A (do
     if(<-Tu e (R1 "StopIteration"))=M3 then Ps M0 else throw e) Q E G) s:=by
  refine MY<|Qu h M (by simp) ?_;refine MY ?_;simp only[X9,newTuple];refine MY (OH ?_<|by size_fits);refine MY (m:=Sc _ _)<|Rn (a:=Ov) (by first|rfl|(simp only[Sc];rfl)) ?_
  refine OH ?_ (by size_fits);simp only[raiseNew];refine MY<|Xx ?_;rw[show A.in1.handled=M0 from r];refine MY<|M1<|wpAny_throw ?_;refine MY<|Qr (T:="StopIteration") (b:=M3) ⟨_,NA _ rfl,rfl⟩ WU ?_;exact M1<|B _<|((OY ..).extBut.push _).push _
 unfold setNext;refine MY<|Pt d f g<|MY<|nh ?_;have n:(NK prog w).w=w:=rfl;rw[n];have j:(eF w a J D).size=D.size:=by rw[<-Nx,(ln w a J D).length_eq,Nx]
 cases q:w.params.followText "set-order"
 .simp only[NF,Oy]
  rw[Nf (λz=>by
   have p:(!t.plain&&decide (D.size>1))=M3:=z;rw[u]at p;cases p)]
  refine MY ?_;show Nu _ _ (if(!t.led&&!D.isEmpty)=M3 then _ else _) _ _ _;rw[Nf<|by rw[y,q];exact Nb];refine M1<|M1 ?_;rw[i q,QI<|Nh _];exact c
 .have k:eF w a J D=V6 (w.params.setOrder a J) D:=by unfold eF;rw[q];rfl
  simp only[Ol,QU,NF,Oy];refine MY ?_;unfold setWalk;refine MY<|Pt d f g<|MY<|nh ?_;rw[n,q];simp only[Ol];refine MY<|SE<|M1 ?_;refine M1 ?_;rw[show((NK prog w).w.params.setOrder a J)=w.params.setOrder a J from rfl,<-k,QI<|by rw[j];exact Nh _];exact c
theorem Fv.at{h h':Op}(x:Fv w h I a es ep t i)(k:∀b,b=I\/b=a->∀o,h.get? b=My o->h'.get? b=My o):Fv w h' I a es ep t i:=by
 obtain⟨⟨e,c,d⟩,o,f,g,r⟩:=x;exact⟨⟨e,k a (.inr rfl) e c,d⟩,o,f,k I (.inl rfl) o g,r⟩
theorem Ez(q:A.handled=M0){D:a0w}{t:Ou}(T:Tb t x)(l:t.fits D.size=M3)(m:t.plain=M3)(n:t.led=!(w.params.followText "set-order"))(f:I≠a):
  Walks prog w A I [I,a] [I] D.size (λi v=>∃e,(eF w a ep D)[i]?=My e/\v=e.2) (λi h=>Fv w h I a D ep t i) where
 sub:=λb c=>by simp at c;simp[c]
 frame:=λ_ _ _ G r=>G.at λb c o e=>r b (by simpa using c) o e
 item:=λi s Q E J G d=>by
  have u:(eF w a ep D).size=D.size:=by rw[<-Nx,(ln w a ep D).length_eq,Nx]
  have p:(eF w a ep D)[i]?=My (eF w a ep D)[i]:=getElem?_pos _ i (by lia);exact CA T l m n G f p λK g M=>d _ K s.toks ⟨_,p,rfl⟩ g λb o c e=>M.extBut b o (λh=>c<|by simp[h]) e
 done:=λs Q E G d=>Fj q T l m n G λK j=>d K s.toks λb o c e=>j b o (λh=>c<|by simp[h]) e
 self:=λi s Q E G d=>by
  obtain⟨⟨L,y,B⟩,o,N,C,F,S,H⟩:=G;have k:s.TypeIs (.ref I) "set_iterator":=⟨o,C,F⟩;refine TM k F2.si_iter<|Ot F2.si_iter k F2.ent_iter ?_<|F2.args_iter _;show Nu _ _ (ret<|.ref I) _ _ s;exact M1 ⟨_,rfl,"set_iterator",_,k,F2.si_next.lookup,d⟩
end
end L2.Hs
namespace L2.Hs
open PySem.SetTable
section
variable{prog:NY}{w:N6}{A:Om}{E:a0d}{s:Na}
theorem FK{o:Oz}{D:a0w}{t:Ou}(b:s.heap.get? a=My o)(f:o.cls= .type "set")(G:o.data= .set D ep t)(c:t.fits D.size=M3)(g:t.plain=M3)
  (h:Q (.ref s.heap.objs.size) {s with heap:=s.heap.push {cls:= .type "set_iterator",data:= .fields #[.int (0:Nat) 0,.int (0:Nat) 0,.ref a,.int D.size 0,.int ep 0]}}):Nu (NK prog w) A (UO<|.ref a) Q E s:=by
 have d:s.TypeIs (.ref a) "set":=⟨o,b,f⟩;refine TM d F.slot_set_iter<|Ot F.slot_set_iter d F2.ent_set_iter ?_<|F.args_set_iter_1 _;unfold Builtin.«frozenset.__iter__»;refine MY<|Rn (a:=a) rfl ?_;refine MY<|MY<|U8 b G c<|M1 ?_;refine MY ?_;unfold setDrawn;refine MY<|Pt b G c<|MY<|nh<|M1 ?_;rw[Nf (λz=>by
  have e:(!((NK prog w).w.params.followText "set-order")&&(!t.plain&&decide (D.size>1)))=M3:=z;rw[g]at e;simp at e)]
 refine MY<|M1 ?_;refine MY<|wpAny_setEpoch_of b G c ?_;unfold newFields;refine MY<|OH<|M1 ⟨_,rfl,"set_iterator",_,⟨_,NA _ rfl,rfl⟩,F2.si_next.lookup,?_⟩;exact h
theorem w8{o:Oz}{G:a0w}{t:Ou}(hh:A.handled=M0)(R:s.heap.get? a=My o)(B:o.cls= .type "set")(V:o.data= .set G ep t)(T:Tb t hs)(U:t.fits G.size=M3)(X:t.plain=M3)(hl:t.led=!(w.params.followText "set-order"))
  (aa:G.size<=1000)
  (hQ:∀S Y x,(∀b o,s.heap.get? b=My o->S.get? b=My o)->s.heap.objs.size<=S.objs.size->s.toks<=Y->x.Perm (G.toList.map (·.2))->Q x {s with heap:=S,toks:=Y}):Nu (NK prog w) A (collect<|.ref a) Q E s:=by
 unfold collect;refine MY<|wpAny_runValue<|Wm F.entry_proto_collect ?_;rw[Wr F.plain_proto_collect _];show Nu _ A.in1 (newList []>>=λl=>We<|.builtin "list.__iadd__" ⟨[l,.ref a],[]⟩) _ _ s;refine MY<|OH ?_;refine M1 ⟨plainId_quiet F.plain_list_iadd _,Wm F.entry_list_iadd ?_⟩;rw[Wr F.plain_list_iadd _];have ha:=NI R;have g:(s.heap.push {cls:= .type "list",data:= .seq ([]:a0f).toArray}).get? a=My o:=M4 _ R;have C:(s.heap.push {cls:= .type "list",data:= .seq ([]:a0f).toArray}).get? s.heap.objs.size=My {cls:= .type "list",data:= .seq ([]:a0f).toArray}:=NA _ rfl;have r:s.heap.objs.size≠a:=P7 ha;have y:UW (.ref s.heap.objs.size) (.ref a)=M5:=by simp[UW,r]
 have H:(⟨s.heap.push {cls:= .type "list",data:= .seq ([]:a0f).toArray},s.gens,s.drawn,s.toks,s.os⟩:Na).TypeIs (.ref a) "set":=⟨o,g,B⟩;show Nu _ A.in1 (Uz (.ref s.heap.objs.size) (.ref a)<|.ref s.heap.objs.size) _ _ _;unfold Uz;refine MY<|wpAny_typeOf H ?_;rw[Nf<|by rw[y];decide];refine MY<|FK g B V U X ?_;refine MY<|O0 ?_;unfold Builtin.List.listLengthHint;have n:(⟨(s.heap.push {cls:= .type "list",data:= .seq ([]:a0f).toArray}).push {cls:= .type "set_iterator",data:= .fields #[.int (0:Nat) 0,.int (0:Nat) 0,.ref a,.int G.size 0,.int ep 0]},s.gens,s.drawn,s.toks,s.os⟩:Na).TypeIs (.ref a) "set":=⟨o,M4 _ g,B⟩;refine MY (Q6 n F.slot_set_len.lookup ?_)
 (generalize u:("set.__len__":String)=id0;wp_delta;rw[show splitId id0=My ("set","__len__")from by subst u;decide +kernel];subst u)
 refine MY<|Qr (b:=M3) n (by rw[Tv];kernel_rfl) ?_;rw[Nf<|by decide];show Nu _ _ (if _ then _ else _) _ _ _;rw[Ng<|by decide];refine MY<|wpAny_typeOf n ?_;refine M1 ?_;rw[Ng<|by decide];refine MY<|PL ?_;have Z:(s.heap.push {cls:= .type "list",data:= .seq ([]:a0f).toArray}).objs.size=s.heap.objs.size+1:=by rw[size_push']
 generalize h:(s.heap.push {cls:= .type "list",data:= .seq ([]:a0f).toArray}).push {cls:= .type "set_iterator",data:= .fields #[.int (0:Nat) 0,.int (0:Nat) 0,.ref a,.int G.size 0,.int ep 0]}=d;have gS:d.get? s.heap.objs.size=My (Re "list" #[] 0):=by rw[<-h];exact M4 _ C
 have gI:d.get? (s.heap.objs.size+1)=My {cls:= .type "set_iterator",data:= .fields #[.int (0:Nat) 0,.int (0:Nat) 0,.ref a,.int G.size 0,.int ep 0]}:=by rw[<-h,<-Z];exact NA _ rfl
 have ga:d.get? a=My o:=by rw[<-h];exact M4 _ g
 have p:∀b f,s.heap.get? b=My f->d.get? b=My f:=λb f e=>by rw[<-h];exact M4 _<|M4 _ e
 unfold Builtin.List.listTouch;refine MY<|MY<|TW gS rfl ?_ (by show 0<=_;lia) (by show 1<=_;lia);obtain⟨e1,g1⟩:∃e1,(d.update s.heap.objs.size<|Pl λD=>D.push Ov).get? s.heap.objs.size=My (Re "list" #[Ov] e1):=⟨_,get?_update_seq gS λD=>D.push Ov⟩;refine TW g1 rfl ?_ (by show 1<=Nw;decide) (by show 0<=_;lia);obtain⟨J,g2⟩:∃J,((d.update s.heap.objs.size<|Pl λD=>D.push Ov).update s.heap.objs.size<|Pl λD=>D.pop).get? s.heap.objs.size=My (Re "list" #[] J):=⟨_,get?_update_seq g1 λD=>D.pop⟩;have c:∀b f,b≠s.heap.objs.size->d.get? b=My f->((d.update s.heap.objs.size<|Pl λD=>D.push Ov).update s.heap.objs.size<|Pl λD=>D.pop).get? b=My f:=λb f q e=>by
  rw[Qz _ _ _ _ q,Qz _ _ _ _ q];exact e
 generalize (d.update s.heap.objs.size<|Pl λD=>D.push Ov).update s.heap.objs.size (Pl λD=>D.pop)=h4 at g2 c;have L:s.heap.objs.size+1≠a:=P7<|Q4 ha;have st:Fv w h4 (s.heap.objs.size+1) a G ep t 0:=⟨⟨o,c a o (Ne.symm r) ga,V⟩,_,0,c _ _ (by lia) gI,rfl,rfl,λ_=>by
  have:=jH (j:=0) T.rs;rcases Nat.eq_zero_or_pos (below t.place 0)with z|z
  .exact z
  .have e:=getElem?_pos t.place 0 (by lia)
   have:=this.2.1 0 _ z e;lia⟩
 have W:=Ez (prog:=prog) (w:=w) (A:=A.in1) (I:=s.heap.objs.size+1) (a:=a) (ep:=ep) hh T U X hl L;show Nu _ _ (We _) _ _ _;rw[Z];refine M1 ⟨plainId_quiet F.plain_extend_loop _,codeAny_extend_loopS W.toS (by rw[P0];lia) s.heap.objs.size (by simp;lia) _ G.size 0 _ #[] J rfl (OV _) st g2 (ItemsOf.nil _) λK k c' M v m=>?_⟩;show Nu _ A (load s.heap.objs.size>>=_) _ _ K;refine MY<|wpAny_load v ?_;refine M1 ?_;have N:K={s with heap:=K.heap,toks:=K.toks}:=by
  have y:=M.gens;have d:=M.drawn;have h3:=M.os;obtain⟨a1,a2,a3,a4,a5⟩:=K;simp only at y d h3;subst y d h3;rfl
 rw[N];refine hQ _ _ _ (λb f e=>?_) (OA<|NI v) M.toks ?_
 .have q:=NI e
  exact M.heap b f (by simp only[Nn,OW,RQ,not_or];exact⟨Og q,Og<|Q4 q⟩)<|c b f (Og q)<|p b f e
 .refine R3.trans (W5 ?_) ((ln w a ep G).map (·.2))
  have O:(eF w a ep G).size=G.size:=by rw[<-Nx,(ln w a ep G).length_eq,Nx]
  refine R5 (by rw[Nx,MZ,Nx,O,m.1]) λi q1 q2=>?_;have P:i<k.size:=by simpa using q1
  obtain⟨e,he,hv⟩:=m.2 i _<|getElem?_pos k i P;rw[T4,hv,R7,T4];have:=On.mp he;obtain⟨z1,z2⟩:=this;rw[z2]
end
end L2.Hs
namespace L2.Hb
section
variable{M:Tp}{A:Om}{E:a0d}{s:Na}
structure Cm (M:Tp) (A:Om) (E:a0d) (s:Na) (κ:VG) (U:Oc->Prop) (rk:a0V):Prop where
 lt:∀{x y:Oc} {st:O7} {Q:a0K->O7->Prop},U x->U y->kindOf st=κ->Q (My<|decide (rk x<rk y)) st->SH M A E s ((sortPriv% PySem.Builtin.lt) x y) Q st
theorem el{D:O7}(h:xs[i]?=My x)(k:Q x D):SH M A E s ((sortPriv% PySem.Builtin.elem) xs i) Q D:=by
 show SH M A E s (elem' xs i) Q D;rw[elem'_eq,h];exact NP k
theorem lp{G e:Type}{a b:Nat}{f:Nat->G->StateT O7 WB (ForInStep G)}{g:G->StateT O7 WB e}{Q:e->O7->Prop}{c:G}{D:O7}(I:Nat->G->O7->Prop)(P:G->O7->Prop)(h:I a c D)
  (K:∀i c D,a<=i->i<b->I i c D->SH M A E s (f i c) (λr d=>match r with| .done l=>P l d| .yield l=>I (i+1) l d) D) (j:∀c D,I (TK a b) c D->P c D) (k:∀c D,P c D->SH M A E s (g c) Q D):SH M A E s (WT [a:b] c f>>=g) Q D:=
 NO (wpS_mono (wpS_forRange I K j h) k)
variable{κ:VG}{U:Oc->Prop}{rk:a0V}
theorem Ic{s A f D g:Type}{p:s×A×f×D×g->Prop}(h:∀a b c d e,p (a,b,c,d,e))  (c):p c:=h c.1 c.2.1 c.2.2.1 c.2.2.2.1 c.2.2.2.2
theorem H_{s A g D i j:Type}{p:s×A×g×D×i×j->Prop}(h:∀a b c d e f,p (a,b,c,d,e,f)):∀c,p c:=Ic λa b c d e=>h a b c d e.1 e.2
theorem YG{s A i D j k l:Type}{p:s×A×i×D×j×k×l->Prop}(h:∀a b c d e f g,p (a,b,c,d,e,f,g)):∀c,p c:=H_ λa b c d e f=>h a b c d e f.1 f.2
theorem Wi{a b c d p:Prop}(k:a->b->c->d->p)(h:a/\b/\c/\d):p:=k h.1 h.2.1 h.2.2.1 h.2.2.2
theorem Yu{a b c d e f p:Prop}(k:a->b->c->d->e->f->p):a/\b/\c/\d/\e/\f->p:=Wi λx y z w=>k x y z w.1 w.2.1 w.2.2
theorem DE(C:Cm M A E s κ U rk){left:Bool}{p:Oc}{u:a0t}{D n a:Nat}{G:O7}{Q:a0H->O7->Prop}{bey:a0P}(P:kindOf G=κ)(R:U p)(X:∀i,i<n->∃x,u[D+i]?=My x/\U x/\bey i=if left then decide (rk x<rk p)else !decide (rk p<rk x))(L:∀i j,i<=j->j<n->bey j=M3->bey i=M3)(T:a<n)
  (h:∀k,k<=n->(∀i,i<k->bey i=M3)->(∀i,k<=i->i<n->bey i=M5)->Q (My k) G):SH M A E s ((sortPriv% PySem.Builtin.gallop) left p u D n a) Q G:=by
 have N:∀{i:Nat} {Q:a0K->O7->Prop},i<n->Q (My<|bey i) G->SH M A E s ((sortPriv% PySem.Builtin.elem) u (D+i)>>=λx=>if left=M3 then(sortPriv% PySem.Builtin.lt) x p else(sortPriv% PySem.Builtin.lt) p x>>=λr=>Ps<|r.map λx=>!x) Q G:=λ{i Q} d k=>by
  obtain⟨x,e,W,Y⟩:=X i d;refine NO<|el e ?_;rw[Y]at k;cases left
  .exact NO (C.lt R W P<|NP k)
  .exact C.lt W R P k
 have v:∀i j,i<=j->j<n->bey i=M5->bey j=M5:=λi j O Z z=>by
  cases e:bey j
  .rfl
  .rw[L i j O Z e]at z;cases z
 refine NO<|N T ?_
 dsimp -zeta only
 extract_lets F
 have K:∀(x y V d:Nat),V<=d->d<=n->(∀i,i<V->bey i=M3)->(∀i,d<=i->i<n->bey i=M5)->SH M A E s (F () x y V d) Q G:=λ_ _ V d w B H J=>by
  refine lp (λi c b=>G=b/\c.1=M0/\c.2.1<=c.2.2/\c.2.2<=n/\c.2.2-c.2.1+i<=n/\(∀i,i<c.2.1->bey i=M3)/\∀i,c.2.2<=i->i<n->bey i=M5) (λc b=>G=b/\c.1=M0/\c.2.2<=n/\(∀i,i<c.2.2->bey i=M3)/\∀i,c.2.2<=i->i<n->bey i=M5) ⟨rfl,rfl,w,B,by dsimp only;lia,H,J⟩ ?_ ?_ ?_
  .rintro i ⟨_,l,o⟩ _ _ d ⟨rfl,rfl,m,t,g,f,h5⟩
   dsimp only at*
   by_cases z:l≥o
   .rw[Ng z]
    exact NP ⟨rfl,rfl,t,λi d=>f i (by dsimp only at d;lia),h5⟩
   .rw[Nf z]
    refine NO<|N (by lia) ?_
    dsimp only
    by_cases y:bey (l+(o-l)/2)=M3
    .rw[Ng y]
     exact NP ⟨rfl,rfl,by dsimp only;lia,t,by dsimp only;lia,λi d=>L _ _ (by dsimp only at d;lia) (by lia) y,h5⟩
    .rw[Nf y]
     exact NP ⟨rfl,rfl,by dsimp only;lia,by dsimp only;lia,by dsimp only;lia,f,λi d S=>v _ _ d S<|QW.mpr y⟩
  .rintro⟨_,l,o⟩ _ ⟨rfl,rfl,m,t,g,f,h5⟩
   dsimp only at*
   exact⟨rfl,rfl,t,λi d=>f i (by lia),h5⟩
  .rintro⟨_,l,o⟩ _ ⟨rfl,rfl,m,t,g⟩
   exact NP (h _ m t g)
 clear_value F
 dsimp +zetaDelta only
 let I:Nat->Option a0H×Nat×Nat->O7->Prop:=λi c b=>G=b/\c.1=M0/\c.2.1<c.2.2/\i<c.2.2
 by_cases q:bey a=M3;rw[Ng q];refine lp (λi c b=>I i c b/\a+c.2.1<n/\bey (a+c.2.1)=M3) (λc b=>I 0 c b/\a+c.2.1<n/\bey (a+c.2.1)=M3/\(n-a<=c.2.2\/bey (a+c.2.2)=M5)) ⟨⟨rfl,rfl,by decide,by decide⟩,T,q⟩ ?_ ?_ ?_
 .rintro i ⟨_,l,o⟩ _ _ d ⟨⟨rfl,rfl,m,t⟩,g,f⟩
  dsimp only at*
  by_cases z:o≥n-a
  .rw[Ng z]
   exact NP ⟨⟨rfl,rfl,m,by dsimp only;lia⟩,g,f,.inl z⟩
  .rw[Nf z]
   refine NO<|N (by lia) ?_
   dsimp only
   by_cases y:bey (a+o)=M3
   .rw[y]
    exact NP ⟨⟨rfl,rfl,by dsimp only;lia,by dsimp only;lia⟩,by dsimp only;lia,y⟩
   .rw[QW.mpr y]
    exact NP ⟨⟨rfl,rfl,m,by dsimp only;lia⟩,g,f,.inr<|QW.mpr y⟩
 .rintro⟨_,l,o⟩ _ ⟨⟨rfl,rfl,m,t⟩,g,f⟩
  dsimp only at*
  exact⟨⟨rfl,rfl,m,by dsimp only;lia⟩,g,f,.inl<|by lia⟩
 rintro⟨_,l,o⟩ _ ⟨⟨rfl,rfl,m,_⟩,g,f,h5⟩
 dsimp only at*
 have w:a+l+1<=a+Q2 o (n-a):=by lia
 have B:a+Q2 o (n-a)<=n:=by lia
 have H:∀i,i<a+l+1->bey i=M3:=λi d=>L i (a+l) (by lia) g f;have J:∀i,a+Q2 o (n-a)<=i->i<n->bey i=M5:=λi d S=>by
  rcases h5 with h5|h5
  .lia
  .exact v _ _ (by lia) S h5
 exact K _ _ _ _ w B H J;rw[Nf q];have q:=QW.mpr q;refine lp (λi c b=>I i c b/\c.2.1<=a/\bey (a-c.2.1)=M5) (λc b=>I 0 c b/\c.2.1<=a/\bey (a-c.2.1)=M5/\(a+1<=c.2.2\/bey (a-c.2.2)=M3)) ⟨⟨rfl,rfl,by decide,by decide⟩,OV _,q⟩ ?_ ?_ ?_
 .rintro i ⟨_,l,o⟩ _ _ d ⟨⟨rfl,rfl,m,t⟩,g,f⟩
  dsimp only at*
  by_cases z:o≥a+1
  .rw[Ng z]
   exact NP ⟨⟨rfl,rfl,m,by dsimp only;lia⟩,g,f,.inl z⟩
  .rw[Nf z]
   refine NO<|N (by lia) ?_
   dsimp only
   by_cases y:bey (a-o)=M3
   .rw[Ng y]
    exact NP ⟨⟨rfl,rfl,m,by dsimp only;lia⟩,g,f,.inr y⟩
   .rw[Nf y]
    exact NP ⟨⟨rfl,rfl,by dsimp only;lia,by dsimp only;lia⟩,by dsimp only;lia,QW.mpr y⟩
 .rintro⟨_,l,o⟩ _ ⟨⟨rfl,rfl,m,t⟩,g,f⟩
  dsimp only at*
  exact⟨⟨rfl,rfl,m,by dsimp only;lia⟩,g,f,.inl<|by lia⟩
 rintro⟨_,l,o⟩ _ ⟨⟨rfl,rfl,m,_⟩,g,f,h5⟩
 dsimp only at*
 have w:a+1-Q2 o (a+1)<=a-l:=by lia
 have B:a-l<=n:=by lia
 have H:∀i,i<a+1-Q2 o (a+1)->bey i=M3:=λi d=>by
  rcases h5 with h5|h5
  .lia
  .exact L _ _ (by lia) (by lia) h5
 have J:∀i,a-l<=i->i<n->bey i=M5:=λi d S=>v _ _ d S f;exact K _ _ _ _ w B H J
end
section
variable{M:Tp}{A:Om}{E:a0d}{s:Na}{κ:VG}{U:Oc->Prop}{rk:a0V}
abbrev Sd(rk:a0V)(l:a0y):Prop:=l.Pairwise λx y=>rk x<rk y
theorem l_{xs:a0t}{D:O7}(h:xs.toList[i]?=My x)(k:Q x D):SH M A E s ((sortPriv% PySem.Builtin.elem) xs i) Q D:=el (by rw[<-OF];exact h) k
theorem YS(C:Cm M A E s κ U rk){left:Bool}{a:a0t}{D:O7}{L:a0y}(g:(a.toList.drop y).take n=L)(v:Uc L=n)(m:kindOf D=κ)(o:U key)(f:∀x∈L,U x/\rk x≠rk key)(S:Sd rk L)(p:hint<n)
  (h:∀k,k<=n->(∀x∈L.take k,rk x<rk key)->(∀x∈L.drop k,rk key<rk x)->Q (My k) D):SH M A E s ((sortPriv% PySem.Builtin.gallop) left key a y n hint) Q D:=by
 have G:∀i (b:i<n),a[y+i]?=My (L[i]'(by lia)):=λi b=>by
  rw[<-OF,<-QL,<-M9 (l:=L) (by lia),<-g,Ry,Ng b]
 refine DE C (bey:=λi=>if z:i<Uc L then decide (rk L[i]<rk key)else M5) m o (λi b=>?_) (λi j c w e=>?_) p λk d r t=>h k d (λx K=>?_) λx K=>?_
 .have z:i<Uc L:=by lia
  obtain⟨u,V⟩:=f _<|OC z;refine⟨L[i],G i b,u,?_⟩;rw[Wf z];cases left
  .by_cases q:rk L[i]<rk key
   .rw[NC q,Ob<|by lia];rfl
   .rw[Ob q,NC<|by lia];rfl
  .rfl
 .rw[Wf<|by lia]at e⊢
  have e:=Ph e;rcases Nat.lt_or_eq_of_le c with q|rfl
  .have:=Ri.mp S i j (by lia) (by lia) q
   exact NC (by lia)
  .exact NC e
 .obtain⟨i,b,rfl⟩:=List.mem_take_iff_getElem.mp K
  have:=r i (by lia);rw[Wf<|by lia]at this;exact Ph this
 .obtain⟨i,b,rfl⟩:=List.mem_drop_iff_getElem.mp K
  have:=t (k+i) (by lia) (by lia);rw[Wf<|by lia]at this;have:=WW this;have:=(f (L[k+i]'(by lia))<|OC _).2;lia
structure Iv (rk:a0V) (X Y O:a0y) (i j:Nat):Prop where
 pm:O.Perm (X.take i++Y.take j)
 sx:Sd rk (O++X.drop i)
 sy:Sd rk<|O++Y.drop j
variable{X Y O:a0y}{i j k:Nat}{x:Oc}
theorem Iv.sw(h:Iv rk X Y O i j):Iv rk Y X O j i:=⟨h.pm.trans PV,h.sy,h.sx⟩
theorem Iv.ad(h:Iv rk X Y O i j)(D:∀x∈(X.drop i).take k,∀y∈Y.drop j,rk x<rk y):Iv rk X Y (O++(X.drop i).take k) (i+k) j:=by
 have e:O++X.drop i=O++(X.drop i).take k++X.drop (i+k):=by rw[Nm,<-Ub,NV]
 have s:=h.sx;rw[e]at s;refine⟨?_,s,?_⟩
 .rw[List.take_add]
  refine(h.pm.append_right _).trans ?_;rw[Nm,Nm];exact PV.append_left _
 .obtain⟨c,a,b⟩:=N3.mp h.sy
  refine N3.mpr ⟨(N3.mp s).1,a,λx hx y A=>?_⟩;rcases NU.mp hx with hx|hx
  .exact b x hx y A
  .exact D x hx y A
theorem Ys(h:X[i]?=My x):X.drop i=x::X.drop (i+1):=by
 obtain⟨a,e⟩:=Nd.mp h;rw[Ox a,e]
theorem Iv.px(h:Iv rk X Y O i j)(s:X[i]?=My x)(A:∀y∈Y.drop j,rk x<rk y):Iv rk X Y (O++[x]) (i+1) j:=by
 have e:(X.drop i).take 1=[x]:=by rw[Ys s];rfl
 have:=h.ad (k:=1) λz a y D=>by
  rw[e]at a;cases NX.mp a;exact A y D
 rw[e]at this;exact this
theorem Sd.hd(s:Sd rk X)(h:X[i]?=My x)(j:n<=rk x):∀y∈X.drop i,n<=rk y:=λy hy=>by
 rw[Ys h]at hy;have s:=s.drop (i:=i);rw[Ys h]at s;rcases Nn.mp hy with rfl|hy
 .exact j
 .have:=VZ s hy
  lia
def Rs(rk:a0V)(X Y R:a0y):Prop:=R.Perm (X++Y)/\Sd rk R
theorem Iv.all(h:Iv rk X Y O i j):(O++X.drop i++Y.drop j).Perm (X++Y):=by
 refine((h.pm.append_right _).append_right _).trans ?_;rw[Nm<|X.take i];refine((PV.append_left _).append_right _).trans ?_;rw[<-Nm,NV,Nm,NV]
theorem Iv.done(h:Iv rk X Y O i j)(e:j=Uc Y\/i=Uc X):Rs rk X Y (O++X.drop i++Y.drop j):=by
 refine⟨h.all,?_⟩
 .rcases e with rfl|rfl
  .rw[Qn,NW];exact h.sx
  .rw[Qn,NW];exact h.sy
theorem Iv.last(h:Iv rk X Y O i j)(s:X[i]?=My x)(e:i+1=Uc X)(A:∀y∈Y,rk y<rk x):Rs rk X Y (O++Y.drop j++X.drop i):=by
 have k:X.drop i=[x]:=by rw[Ys s,e,Qn]
 refine⟨?_,?_⟩
 .refine R3.trans ?_ h.all
  rw[Nm,Nm];exact PV.append_left _
 .rw[k]
  refine N3.mpr ⟨h.sy,O8 _ _,λy hy z a=>?_⟩;cases NX.mp a;rcases NU.mp hy with hy|hy
  .exact(N3.mp h.sx).2.2 y hy x (by rw[k];exact RE _)
  .exact A y (Qv hy)
abbrev sG(i:O7)(g:Nat):O7:=Tz (kindOf i) (Qg i) (OQ i) g<|SO i
theorem so(a:a0t)(i k:Nat):(a.extract i k).toList=(a.toList.drop i).take (k-i):=by
 rw[WC]
theorem K2(a:a0t)(i:Nat):(a.extract i).toList=a.toList.drop i:=by
 rw[so,OZ<|by rw[QC,Nx];exact Nh _]
theorem K9(o a b:a0t)(i j:Nat):(o++a.extract i++b.extract j).toList=o.toList++a.toList.drop i++b.toList.drop j:=by rw[Qe,Qe,K2,K2]
section
variable{l β d:Type}{c:Prop} [Decidable c]{m n:StateT O7 WB l}{Q:l->O7->Prop}{j:O7}
theorem wC(a:c->SH M A E s m Q j)(b:¬c->SH M A E s n Q j):SH M A E s (if c then m else n) Q j:=by
 split
 .exact a ‹_›
 .exact b ‹_›
theorem wT(h:c)(k:SH M A E s m Q j):SH M A E s (if c then m else n) Q j:=wC (λ_=>k) λz=>NH h z
theorem wF(h:¬c)(k:SH M A E s n Q j):SH M A E s (if c then m else n) Q j:=wC (λz=>NH z h) λ_=>k
theorem wh(a:SH M A E s m Q j)(b:SH M A E s n Q j):SH M A E s (if c then m else n) Q j:=wC (λ_=>a) λ_=>b
theorem wD(a:c->SH M A E s m Q j)(b:¬c->SH M A E s n Q j):SH M A E s (if decide c=M3 then m else n) Q j:=wC (λh=>a<|Ph h) λh=>b λz=>h<|NC z
theorem wE{x y:Nat}(a:x=y->SH M A E s m Q j)(b:x≠y->SH M A E s n Q j):SH M A E s (if(x==y)=M3 then m else n) Q j:=wC (λh=>a<|beq_iff_eq.mp h) λh=>b λz=>h<|beq_iff_eq.mpr z
theorem i2{F:β->StateT O7 WB l}(x y:β)(e:m=F x)(h:∀y,SH M A E s (F y) Q j):SH M A E s (if c then m else F y) Q j:=wh (e▸h x)<|h y
theorem jn{F:β->d->StateT O7 WB l}(o:β)(i:d)(V:β->d->Prop)(h:∀o i,V o i->SH M A E s (F o i) Q j)(a:c->(∀o i,V o i->SH M A E s (F o i) Q j)->SH M A E s m Q j)(b:¬c->V o i):SH M A E s (if c then m else F o i) Q j:=wC (λq=>a q h) λq=>h _ _<|b q
theorem jx(F:Unit->β->d->StateT O7 WB l)(V:β->d->Prop)(h:∀o i,V o i->SH M A E s (F () o i) Q j)(k:(∀o i,V o i->SH M A E s (F () o i) Q j)->SH M A E s m Q j):SH M A E s m Q j:=k h
theorem l0{c:β}(I:Nat->β->O7->Prop)(P:β->O7->Prop)(h:I 0 c j)
  (l:∀i c j,i<b->I i c j->SH M A E s (f i c) (λr a=>match r with| .done e=>P e a| .yield e=>I (i+1) e a) j) (d:∀c j,I b c j->P c j) (k:∀c j,P c j->SH M A E s (g c) Q j):SH M A E s (WT [0:b] c f>>=g) Q j:=
 lp I P h (λi c j _=>l i c j) (λc j z=>d c j<|by rw[Nat.zero_max]at z;exact z) k
end
structure Mc (U:Oc->Prop) (rk:a0V) (a b:a0t) (x y:Oc):Prop where
 ua:∀x∈a.toList,U x
 ub:∀y∈b.toList,U y
 sa:Sd rk a.toList
 sb:Sd rk b.toList
 ne:∀x∈a.toList,∀y∈b.toList,rk x≠rk y
 hx:a.toList[a.size-1]?=My x
 hy:b.toList[0]?=My y
 lx:∀y∈b.toList,rk y<rk x
 ly:∀x∈a.toList,rk y<rk x
theorem D_{a:a0t}{i:Nat}(h:i<a.size):∃x,a.toList[i]?=My x/\x∈a.toList:=⟨_,M9 (by rw[Nx];exact h),OC _⟩
section
variable{a b o:a0t}{x0 y0:Oc}
def Go(rk:a0V)(a b:a0t)(n:Nat)(r:Option a0t)(o:a0t)(i j:Nat):Prop:=match r with
 |some R=>Rs rk a.toList b.toList R.toList
 |none=>Iv rk a.toList b.toList o.toList i j/\i+1<a.size/\j<b.size/\n<=i+j
theorem Iv.dn(v:Iv rk a.toList b.toList o.toList i j)(e:j=b.size\/i=a.size):Rs rk a.toList b.toList (o++a.extract i++b.extract j).toList:=by
 rw[K9];exact v.done (by rw[Nx,Nx];exact e)
theorem Mc.last(m:Mc U rk a b x0 y0)(v:Iv rk a.toList b.toList o.toList i j)(e:i+1=a.size):Rs rk a.toList b.toList (o++b.extract j++a.extract i).toList:=by
 rw[K9];exact v.last (x:=x0) (by rw[<-m.hx,<-e];rfl) (by rw[Nx];exact e) m.lx
theorem Iv.pa(v:Iv rk a.toList b.toList o.toList i j)(k:a.toList[i]?=My x)(s:∀y∈b.toList.drop j,rk x<rk y):Iv rk a.toList b.toList (o.push x).toList (i+1) j:=by
 rw[RH];exact v.px k s
theorem Iv.ca(v:Iv rk a.toList b.toList o.toList i j)(s:∀x∈(a.toList.drop i).take k,∀y∈b.toList.drop j,rk x<rk y):Iv rk a.toList b.toList (o++a.extract i (i+k)).toList (i+k) j:=by
 rw[Qe,so,PH];exact v.ad s
theorem KY(C:Cm M A E s κ U rk){left:Bool}{b:O7}(m:i<a.size)(e:kindOf b=κ)(f:U key)(j:∀x∈a.toList,U x)(o:∀x∈a.toList,rk x≠rk key)(D:Sd rk a.toList)
  (h:∀k,i+k<=a.size->(∀x∈(a.toList.drop i).take k,rk x<rk key)->(∀x∈a.toList.drop (i+k),rk key<rk x)->Q (My k) b):SH M A E s ((sortPriv% PySem.Builtin.gallop) left key a i (a.size-i) 0) Q b:=by
 have l:Uc (a.toList.drop i)=a.size-i:=by rw[QC,Nx]
 refine YS C (OZ<|U3 l) l e f (λz c=>⟨j z<|Qv c,o z<|Qv c⟩) D.drop (by lia) λk G g d=>h k (by lia) g ?_;rw[Ub]at d;exact d
theorem sA{n i j:Nat}(h:n<=i+j):n+1<=i+1+j:=by lia
theorem sK{n i j k:Nat}(h:n<=i+j):n<=i+k+j:=by lia
theorem sL{n k i:Nat}(h:i+k<=n)(c:i+k+1≠n)(d:i+k≠n):i+k+1<n:=by lia
theorem k0{k:Nat}(h:¬k>0):k=0:=by lia
theorem mlo(C:Cm M A E s κ U rk)(m:Mc U rk a b x0 y0){D:O7}(hk:kindOf D=κ)(h:∀(R:a0t) (g:Nat),Rs rk a.toList b.toList R.toList->Q R (sG D g)):SH M A E s ((sortPriv% PySem.Builtin.mergeLo) a b) Q D:=by
 refine NO<|UT<|PL ⟨rfl,NO<|l_ m.hy ?_⟩;have v:Iv rk a.toList b.toList #[y0].toList 0 1:=(Iv.px (rk:=rk) (X:=b.toList) (Y:=a.toList) (O:=[]) (i:=0) (j:=0) ⟨.refl _,m.sb,m.sa⟩ m.hy m.ly).sw;have b1:=(Nd.mp m.hy).1;have a1:=(Nd.mp m.hx).1;rw[Nx]at a1 b1;refine wE (λe=>NP<|h _ (UM D)<|v.dn<|.inl e) λq1=>wE (λe=>NP<|h _ (UM D)<|m.last v e) λq2=>NO<|TN ?_;refine l0 (λn c d=>(∃g,sG D g=d)/\c.1=M0/\Go rk a b (n+1) c.1 c.2.1 c.2.2.1 c.2.2.2.1) (λc d=>(∃g,sG D g=d)/\∃R,c.1=My R/\Rs rk a.toList b.toList R.toList) ⟨⟨UM D,rfl⟩,rfl,v,Oq (NT (OV _) a1) q2,Oq b1 q1,Nh _⟩ ?_ ?_ ?_
 .intro n
  refine Ic ?_;rintro _ o i j S _ hn ⟨⟨g,rfl⟩,rfl,B⟩;refine Wi (λv f l u=>?_) B;refine l0 (λt c d=>sG D g=d/\c.1=M0/\Go rk a b (n+1+t) c.1 c.2.1 c.2.2.1 c.2.2.2.1) (λc d=>sG D g=d/\Go rk a b (n+1+1) c.1 c.2.1 c.2.2.1 c.2.2.2.1) ⟨rfl,rfl,v,f,l,u⟩ ?_ ?_ ?_
  .intro t
   refine H_ ?_;rintro _ o i j T W _ ht ⟨rfl,rfl,B⟩;refine Wi (λv f l u=>?_) B;obtain⟨x,G,J⟩:=D_<|Po f;obtain⟨y,F,L⟩:=D_ l;have h4:n+1<=i+j:=NJ (P3 _ t) u;refine NO<|l_ F<|NO<|l_ G<|NO<|C.lt (m.ub y L) (m.ua x J) hk<|wD (λq=>NO<|l_ F ?_) λq=>NO<|l_ G ?_
   .have H:=(Iv.pa (Iv.sw v) F<|m.sa.hd G q).sw
    exact wE (λe=>NP ⟨rfl,H.dn<|.inl e⟩) λq=>wh (NP ⟨rfl,H,f,Oq l q,TD h4⟩)<|NP ⟨rfl,rfl,H,f,Oq l q,TD u⟩
   .have H:=Iv.pa v G<|m.sb.hd F<|Oq (QD q)<|m.ne x J y L
    exact wE (λe=>NP ⟨rfl,m.last H e⟩) λq=>wh (NP ⟨rfl,H,Oq f q,l,sA h4⟩)<|NP ⟨rfl,rfl,H,Oq f q,l,sA u⟩
  .refine H_ ?_
   rintro _ o i j T W _ ⟨rfl,rfl,B⟩;refine Wi (λv f l u=>?_) B;exact⟨rfl,v,f,l,NJ (SJ (NT (OV _) hn) _) u⟩
  refine H_ ?_;rintro r o i j T W _ ⟨rfl,N⟩;cases r with
  |some R=>exact NP ⟨⟨g,rfl⟩,R,rfl,N⟩
  |none=>?_
  refine NO<|UT<|PL ⟨rfl,l0 (λt c d=>(∃g,sG D g=d)/\c.1=M0/\Go rk a b (n+1+1) c.1 c.2.1 c.2.2.1 c.2.2.2.1) (λc d=>(∃g,sG D g=d)/\Go rk a b (n+1+1) c.1 c.2.1 c.2.2.1 c.2.2.2.1) ⟨⟨g,rfl⟩,rfl,N⟩ ?_ (λc D z=>⟨z.1,z.2.2⟩) ?_⟩
  .intro t
   refine YG ?_;rintro _ o i j S T W _ ht ⟨⟨g,rfl⟩,rfl,B⟩;refine Wi (λv f l u=>?_) B;obtain⟨y,F,L⟩:=D_ l;apply i2 (S-1) S
   .rfl
   intro p;refine NO<|RT<|NO<|l_ F<|NO<|KY C (i:=i) (Po f) hk (m.ub y L) m.ua (λz I=>m.ne z I y L) m.sa λk V g1 Z=>?_;apply jn o i (λo i=>Iv rk a.toList b.toList o.toList i j/\(∀x∈a.toList.drop i,rk y<rk x)/\i+1<a.size/\n+1+1<=i+j)
   .rintro o i ⟨v,Z,f,u⟩
    refine NO<|l_ F ?_;have v:=(Iv.pa (Iv.sw v) F Z).sw;refine wE (λe=>NP ⟨⟨_,rfl⟩,v.dn<|.inl e⟩) λq3=>?_;have l2:j+1<b.size:=Oq l q3;have l3:n+1+1<=i+(j+1):=Nat.le_succ_of_le u;obtain⟨x,G,J⟩:=D_<|Po f;refine NO<|l_ G<|NO<|KY C (i:=j+1) l2 hk (m.ua x J) m.ub (λz I=>(m.ne x J z I).symm) m.sb λk V g3 P=>?_;show SH M A E s (if k>0 then _ else _) _ _;generalize o.push y=o at v⊢;generalize j+1=j at v g3 P V l2 l3⊢;apply jn o j (λo j=>Iv rk a.toList b.toList o.toList i j/\(∀z∈b.toList.drop j,rk x<rk z)/\j<b.size/\n+1+1<=i+j)
    .rintro o j ⟨v,P,l,u⟩
     refine NO<|l_ G ?_;have v:=Iv.pa v G P;exact wE (λe=>NP ⟨⟨_,rfl⟩,m.last v e⟩) λq=>wh (NP ⟨⟨_,rfl⟩,v,Oq f q,l,Nat.le_of_succ_le<|sA u⟩)<|NP ⟨⟨_,rfl⟩,rfl,v,Oq f q,l,Nat.le_of_succ_le<|sA u⟩
    .intro q K
     have w:=(Iv.ca (Iv.sw v) λz I w hw=>NM (g3 z I)<|m.sa.hd G (Nh _) w hw).sw;exact wE (λe=>NP ⟨⟨_,rfl⟩,w.dn<|.inl e⟩) λq=>K _ _ ⟨w,P,Oq V q,NJ l3<|SJ (P3 _ _) _⟩
    .intro q
     cases k0 q;exact⟨v,P,l2,l3⟩
   .intro q K
    have w:=Iv.ca v λz I w hw=>NM (g1 z I)<|m.sb.hd F (Nh _) w hw;exact wE (λe=>NP ⟨⟨_,rfl⟩,m.last w e⟩) λq3=>wE (λe=>NP ⟨⟨_,rfl⟩,w.dn<|.inr e⟩) λq4=>K _ _ ⟨w,Z,sL V q3 q4,sK u⟩
   .intro q
    cases k0 q;exact⟨v,Z,f,u⟩
  refine YG ?_;rintro r o i j S T W _ ⟨⟨g,rfl⟩,N⟩;cases r with
  |some R=>exact NP ⟨⟨g,rfl⟩,R,rfl,N⟩
  |none=>exact NO<|RT<|NP ⟨⟨_,rfl⟩,rfl,N⟩
 .refine Ic ?_
  rintro _ o i j S _ ⟨⟨g,rfl⟩,rfl,B⟩;refine Wi (λv f l u=>?_) B;exact NH u<|Nat.not_le_of_lt<|Q4<|Nat.add_lt_add (Po f) l
 .refine Ic ?_
  rintro _ o i j S _ ⟨⟨g,rfl⟩,R,rfl,hR⟩;exact NP<|h R g hR
end
end
section
variable{M:Tp}{A:Om}{E:a0d}{s:Na}{κ:VG}{U:Oc->Prop}{rk:a0V}
structure Jv (rk:a0V) (X Y O:a0y) (i j:Nat):Prop where
 pm:O.Perm (X.drop i++Y.drop j)
 sx:Sd rk (X.take i++O)
 sy:Sd rk<|Y.take j++O
variable{X Y O:a0y}{i j k:Nat}{x:Oc}
theorem Jv.sw(h:Jv rk X Y O i j):Jv rk Y X O j i:=⟨h.pm.trans PV,h.sy,h.sx⟩
theorem Jv.ad(h:Jv rk X Y O i j)(f:i<=Uc X)(a:k<=i)(D:∀x∈(X.take i).drop k,∀y∈Y.take j,rk y<rk x):Jv rk X Y ((X.take i).drop k++O) k j:=by
 have e:X.take i++O=X.take k++((X.take i).drop k++O):=by
  rw[<-Nm];have:=NV k<|X.take i;rw[Ue,Qf a]at this;rw[this]
 have s:=h.sx;rw[e]at s;refine⟨?_,s,?_⟩
 .have b:X.drop k=(X.take i).drop k++X.drop i:=by
   conv=>lhs;rw[<-NV i X]
   rw[Si<|by rw[Oe];lia]
  rw[b,Nm];exact h.pm.append_left _
 .obtain⟨c,g,d⟩:=N3.mp h.sy
  refine N3.mpr ⟨c,(N3.mp s).2.1,λy A x hx=>?_⟩;rcases NU.mp hx with hx|hx
  .exact D x hx y A
  .exact d y A x hx
theorem uT(h:X[i]?=My x):X.take (i+1)=X.take i++[x]:=by rw[X5,h];rfl
theorem Jv.px(h:Jv rk X Y O (i+1) j)(s:X[i]?=My x)(A:∀y∈Y.take j,rk y<rk x):Jv rk X Y (x::O) i j:=by
 have b:=(Nd.mp s).1;have e:(X.take<|i+1).drop i=[x]:=by
  rw[uT s,Si (by rw[Oe];lia),Ww<|by rw[Oe];lia];rfl
 have:=h.ad (k:=i) (by lia) (by lia) λz a y D=>by
  rw[e]at a;cases NX.mp a;exact A y D
 rw[e]at this;exact this
theorem Sd.tl(s:Sd rk X)(h:X[i]?=My x)(j:rk x<=n):∀y∈X.take (i+1),rk y<=n:=λy hy=>by
 rw[uT h]at hy;have s:=s.take (i:=i+1);rw[uT h]at s;rcases NU.mp hy with hy|hy
 .have:=(N3.mp s).2.2 y hy x<|RE _
  lia
 .cases NX.mp hy
  exact j
theorem Jv.all(h:Jv rk X Y O i j):(X.take i++Y.take j++O).Perm (X++Y):=by
 refine(h.pm.append_left _).trans ?_;rw[Nm,<-Nm (Y.take j)];refine((PV.append_right _).append_left _).trans ?_;rw[Nm,<-Nm,NV,NV]
theorem Jv.done(h:Jv rk X Y O i j)(e:j=0\/i=0):Rs rk X Y (X.take i++Y.take j++O):=by
 refine⟨h.all,?_⟩;rcases e with rfl|rfl
 .rw[Uf,NW];exact h.sx
 .rw[Uf,ON];exact h.sy
theorem Jv.fst(h:Jv rk X Y O i 1)(hy:Y[0]?=My x)(j:∀y∈X,rk x<rk y):Rs rk X Y (Y.take 1++X.take i++O):=by
 have a:Y.take 1=[x]:=by rw[uT (i:=0) hy];rfl
 refine⟨(PV.append_right _).trans h.all,?_⟩;rw[a,Nm];refine N3.mpr ⟨O8 _ _,h.sx,λz b y hy=>?_⟩;cases NX.mp b;rcases NU.mp hy with hy|hy
 .exact j y (OX hy)
 .exact(N3.mp h.sy).2.2 x (by rw[a];exact RE _) y hy
theorem K3(a:a0t)(i:Nat):(a.extract 0 i).toList=a.toList.take i:=by rw[so];rfl
theorem Lb(o a b:a0t)(i j:Nat):(a.extract 0 i++b.extract 0 j++o.reverse).toList=a.toList.take i++b.toList.take j++o.toList.reverse:=by rw[Qe,Qe,K3,K3,WD]
section
variable{a b o:a0t}{X Y:Oc}
def Gh(rk:a0V)(a b:a0t)(n:Nat)(r:Option a0t)(o:a0t)(i j:Nat):Prop:=match r with
 |some R=>Rs rk a.toList b.toList R.toList
 |none=>Jv rk a.toList b.toList o.toList.reverse i j/\0<i/\i<=a.size/\1<j/\j<=b.size/\i+j+n<=a.size+b.size
theorem Jv.dn(v:Jv rk a.toList b.toList o.toList.reverse i j)(e:j=0\/i=0):Rs rk a.toList b.toList (a.extract 0 i++b.extract 0 j++o.reverse).toList:=by
 rw[Lb];exact v.done e
theorem Mc.fst(m:Mc U rk a b X Y)(v:Jv rk a.toList b.toList o.toList.reverse i j)(e:j=1):Rs rk a.toList b.toList (b.extract 0 j++a.extract 0 i++o.reverse).toList:=by
 subst e;rw[Lb];exact v.fst m.hy m.ly
theorem Jv.pa(v:Jv rk a.toList b.toList o.toList.reverse (i+1) j)(k:a.toList[i]?=My x)(s:∀y∈b.toList.take j,rk y<rk x):Jv rk a.toList b.toList (o.push x).toList.reverse i j:=by
 rw[RH,Sy];exact v.px k s
theorem Jv.ca(v:Jv rk a.toList b.toList o.toList.reverse i j)(c:i<=a.size)(d:k<=i)(s:∀x∈(a.toList.take i).drop k,∀y∈b.toList.take j,rk y<rk x):Jv rk a.toList b.toList (o++(a.extract k i).reverse).toList.reverse k j:=by
 rw[Qe,Sy,WD,List.reverse_reverse,so,<-List.drop_take];exact v.ad (by rw[Nx];exact c) d s
theorem KW(C:Cm M A E s κ U rk){left:Bool}{b:O7}(l:0<i)(m:i<=a.size)(e:kindOf b=κ)(f:U key)(o:∀x∈a.toList,U x)(D:∀x∈a.toList,rk x≠rk key)(G:Sd rk a.toList)
  (h:∀k,k<=i->(∀x∈a.toList.take k,rk x<rk key)->(∀x∈(a.toList.take i).drop k,rk key<rk x)->Q (My k) b):SH M A E s ((sortPriv% PySem.Builtin.gallop) left key a 0 i (i-1)) Q b:=by
 refine YS C (L:=a.toList.take i) rfl (by rw[Oe,Nx];lia) e f (λz c=>⟨o z<|OX c,D z<|OX c⟩) G.take (by lia) λk j d g=>h k j ?_ g;rw[Ue,Qf j]at d;exact d
theorem t1{i j m N:Nat}(h:i+1+j+m<=N):i+j+(m+1)<=N:=by lia
theorem t2{i j m N:Nat}(h:i+(j+1)+m<=N):i+j+(m+1)<=N:=by lia
theorem t3{i m N:Nat}(t:Nat)(h:i+(m+t)<=N):i+m<=N:=by lia
theorem t4{i j k m N:Nat}(h:i+j+m<=N)(l:k<=i):k+j+m<=N:=by lia
theorem t5{i j k m N:Nat}(h:i+j+m<=N)(l:k<=j):i+k+m<=N:=by lia
theorem t6{j:Nat}(h:1<j+1)(q:j≠1):1<j:=by lia
theorem t7{k i:Nat}(h:¬i-k>0)(l:k<=i):k=i:=by lia
theorem t8{k:Nat}(h:k≠1)(l:k≠0):1<k:=by lia
theorem mhi(C:Cm M A E s κ U rk)(m:Mc U rk a b X Y){D:O7}(hk:kindOf D=κ)(h:∀(R:a0t) (g:Nat),Rs rk a.toList b.toList R.toList->Q R (sG D g)):SH M A E s ((sortPriv% PySem.Builtin.mergeHi) a b) Q D:=by
 refine NO<|UT<|PL ⟨rfl,NO<|l_ m.hx ?_⟩;have b1:=(Nd.mp m.hy).1;have a1:=(Nd.mp m.hx).1;rw[Nx]at a1 b1;have v:Jv rk a.toList b.toList #[X].toList.reverse (a.size-1) b.size:=by
  refine Jv.px (O:=[]) ?_ m.hx λy hy=>m.lx y<|OX hy;rw[show a.size-1+1=Uc a.toList by rw[Nx];lia,<-Nx];refine⟨?_,?_,?_⟩
  .rw[Qn,Qn];exact .refl _
  .rw[Rg,NW];exact m.sa
  .rw[Rg,NW];exact m.sb
 have i0:a.size-1+b.size+1<=a.size+b.size:=by lia
 refine wE (λe=>NP<|h _ (UM D)<|v.dn<|.inr e) λq1=>wE (λe=>NP<|h _ (UM D)<|m.fst v e) λq2=>NO<|TN ?_;refine l0 (λn c d=>(∃g,sG D g=d)/\c.1=M0/\Gh rk a b (n+1) c.1 c.2.2.2.1 c.2.1 c.2.2.1) (λc d=>(∃g,sG D g=d)/\∃R,c.1=My R/\Rs rk a.toList b.toList R.toList) ⟨⟨UM D,rfl⟩,rfl,v,Qq q1,X7 _ _,t8 q2<|P7 b1,Nh _,i0⟩ ?_ ?_ ?_
 .intro n
  refine Ic ?_;rintro _ i j o V _ hn ⟨⟨g,rfl⟩,rfl,I⟩
  revert I
  refine Yu λv B l u h5 f=>?_;refine l0 (λt c d=>sG D g=d/\c.1=M0/\Gh rk a b (n+1+t) c.1 c.2.2.2.1 c.2.1 c.2.2.1) (λc d=>sG D g=d/\Gh rk a b (n+1+1) c.1 c.2.2.2.1 c.2.1 c.2.2.1) ⟨rfl,rfl,v,B,l,u,h5,f⟩ ?_ ?_ ?_
  .intro t
   refine H_ ?_;rintro _ i j o N P _ ht ⟨rfl,rfl,I⟩
   revert I
   refine Yu λv B l u h5 f=>?_;obtain⟨i,rfl⟩:∃p,i=p+1:=⟨i-1,(RF B).symm⟩;obtain⟨j,rfl⟩:∃p,j=p+1:=⟨j-1,(RF<|OA u).symm⟩;obtain⟨x,G,T⟩:=D_ l;obtain⟨y,J,W⟩:=D_ h5;refine NO<|l_ J<|NO<|l_ G<|NO<|C.lt (m.ub y W) (m.ua x T) hk<|wD (λq=>NO<|l_ G ?_) λq=>NO<|l_ J ?_
   .have L:=Jv.pa v G λz H=>NT (m.sb.tl J (Nh _) z H) q
    exact wE (λe=>NP ⟨rfl,L.dn<|.inr e⟩) λq=>wh (NP ⟨rfl,L,Qq q,OA l,u,h5,t1<|t3 t f⟩)<|NP ⟨rfl,rfl,L,Qq q,OA l,u,h5,t1 f⟩
   .have L:=(Jv.pa (Jv.sw v) J λz H=>NT (m.sa.tl G (Nh _) z H)<|Oq (QD q)<|m.ne x T y W).sw
    exact wE (λe=>NP ⟨rfl,m.fst L e⟩) λq=>wh (NP ⟨rfl,L,B,l,t6 u q,OA h5,t2<|t3 t f⟩)<|NP ⟨rfl,rfl,L,B,l,t6 u q,OA h5,t2 f⟩
  .refine H_ ?_
   rintro _ i j o N P _ ⟨rfl,rfl,I⟩
   revert I
   refine Yu λv B l u h5 f=>?_;exact NH f (by dsimp only at*;lia)
  refine H_ ?_;rintro r i j o N P _ ⟨rfl,Z⟩;cases r with
  |some R=>exact NP ⟨⟨g,rfl⟩,R,rfl,Z⟩
  |none=>?_
  refine NO<|UT<|PL ⟨rfl,l0 (λt c d=>(∃g,sG D g=d)/\c.1=M0/\Gh rk a b (n+1+1) c.1 c.2.2.2.1 c.2.1 c.2.2.1) (λc d=>(∃g,sG D g=d)/\Gh rk a b (n+1+1) c.1 c.2.2.2.1 c.2.1 c.2.2.1) ⟨⟨g,rfl⟩,rfl,Z⟩ ?_ (λc D z=>⟨z.1,z.2.2⟩) ?_⟩
  .intro t
   refine YG ?_;rintro _ i j o V N P _ ht ⟨⟨g,rfl⟩,rfl,I⟩
   revert I
   refine Yu λv B l u h5 f=>?_;obtain⟨j,rfl⟩:∃p,j=p+1:=⟨j-1,(RF<|OA u).symm⟩;obtain⟨y,J,W⟩:=D_ h5;apply i2 (V-1) V
   .rfl
   intro p;refine NO<|RT<|NO<|l_ J<|NO<|KW C (i:=i) B l hk (m.ub y W) m.ua (λz H=>m.ne z H y W) m.sa λk S g1 g2=>?_
   dsimp -zeta only
   extract_lets kk N nb F
   refine jx F (λi o=>Jv rk a.toList b.toList o.toList.reverse i (j+1)/\(∀x∈a.toList.take i,rk x<rk y)/\0<i/\i<=a.size/\i+(j+1)+(n+1+1)<=a.size+b.size) ?_ λK=>?_
   .rintro i o ⟨v,g1,B,l,f⟩
    refine NO<|l_ J ?_;have v:=(Jv.pa (Jv.sw v) J g1).sw;refine wE (λe=>NP ⟨⟨_,rfl⟩,m.fst v e⟩) λq3=>?_;have l2:1<j:=t6 u q3;obtain⟨i,rfl⟩:∃p,i=p+1:=⟨i-1,(RF B).symm⟩;obtain⟨x,G,T⟩:=D_ l;refine NO<|l_ G<|NO<|KW C (i:=j) (Po l2) (OA h5) hk (m.ua x T) m.ub (λz H=>(m.ne x T z H).symm) m.sb λk S g3 g4=>?_
    dsimp -zeta only
    extract_lets kk2 P na F
    refine jx F (λj o=>Jv rk a.toList b.toList o.toList.reverse (i+1) j/\(∀z∈b.toList.take j,rk z<rk x)/\1<j/\j<=b.size/\i+1+j+(n+1+1)<=a.size+b.size) ?_ λK=>?_
    .rintro j o ⟨v,g3,u,h5,f⟩
     refine NO<|l_ G ?_;have v:=Jv.pa v G g3;exact wE (λe=>NP ⟨⟨_,rfl⟩,v.dn<|.inr e⟩) λq=>wh (NP ⟨⟨_,rfl⟩,v,Qq q,OA l,u,h5,t3 1<|t1 f⟩) (NP ⟨⟨_,rfl⟩,rfl,v,Qq q,OA l,u,h5,t3 1<|t1 f⟩)
    clear_value F
    refine wC (λq=>?_) λq=>?_
    .have w:=(Jv.ca (Jv.sw v) (OA h5) S λz H w hw=>NT (m.sa.tl G (Nh _) w hw)<|g4 z H).sw
     have l3:i+1+k+(n+1+1)<=a.size+b.size:=t5 f<|Nat.le_succ_of_le S;have l4:=NJ S<|OA h5;refine wE (λe=>NP ⟨⟨_,rfl⟩,m.fst w e⟩) λq1=>wE (λe=>NP ⟨⟨_,rfl⟩,w.dn<|.inl e⟩) λq2=>?_;exact K k (o.push y++(b.extract k j).reverse) ⟨w,g3,t8 q1 q2,l4,l3⟩
    .cases t7 q S
     exact K _ _ ⟨v,g3,l2,OA h5,t3 1<|t2 f⟩
   clear_value F
   refine wC (λq=>?_) λq=>?_
   .have w:=Jv.ca v l S λz H w hw=>NT (m.sb.tl J (Nh _) w hw)<|g2 z H
    exact wE (λe=>NP ⟨⟨_,rfl⟩,w.dn<|.inr e⟩) λq3=>K _ _ ⟨w,g1,Qq q3,NJ S l,t4 f S⟩
   .cases t7 q S
    exact K _ _ ⟨v,g1,B,l,f⟩
  refine YG ?_;rintro r i j o V N P _ ⟨⟨g,rfl⟩,Z⟩;cases r with
  |some R=>exact NP ⟨⟨g,rfl⟩,R,rfl,Z⟩
  |none=>exact NO<|RT<|NP ⟨⟨_,rfl⟩,rfl,Z⟩
 .refine Ic ?_
  rintro _ i j o V _ ⟨⟨g,rfl⟩,rfl,I⟩
  revert I
  refine Yu λv B l u h5 f=>?_;exact NH f (by dsimp only at*;lia)
 .refine Ic ?_
  rintro _ i j o V _ ⟨⟨g,rfl⟩,R,rfl,hR⟩;exact NP<|h R g hR
end
end
section
variable{M:Tp}{A:Om}{E:a0d}{s:Na}{κ:VG}{U:Oc->Prop}{rk:a0V}
theorem wr:∀(R:a0y) (n b:Nat) (c:a0t) (P T S:a0y),c.toList=P++T++S->Uc P=b+n->Uc T=Uc R->((R.zipIdx n).foldl (λa (p,j)=>a.setIfInBounds (b+j) p) c).toList=P++R++S
 |[],n,b,c,P,T,S,h,h1,h2=>by
  obtain rfl:T=[]:=PD.mp h2;exact h
 |x::R,n,b,c,P,[],S,h,h1,h2=>by simp at h2
 |x::R,n,b,c,P,t::T,S,h,h1,h2=>by
  have e:(c.setIfInBounds (b+n) x).toList=(P++[x])++T++S:=by
   rw[SL,h,<-h1,Nm,WH _ _<|Nh _,Qx];simp
  have:=wr R (n+1) b (c.setIfInBounds (b+n) x) (P++[x]) T S e (by rw[Ni,h1];rfl) (by simpa using h2);rw[Vc,Vq];rw[this];simp
theorem Y8{x D:O7}(h:Q ⟨⟩ x):SH M A E s (set x:StateT O7 WB PUnit) Q D:=by
 unfold SH;rw[StateT.run_set];exact M1 ⟨rfl,h⟩
variable{X Y:a0y}
theorem Sd.app(s:Sd rk X)(A:Sd rk Y)(h:∀x∈X,∀y∈Y,rk x<rk y):Rs rk X Y (X++Y):=⟨.refl _,N3.mpr ⟨s,A,h⟩⟩
theorem mat(C:Cm M A E s κ U rk){D:O7}{P S:a0y}(c:kindOf D=κ)(N:SO D=M0)(ha:(Qg D).toList=P++X++Y++S)(t:∀x∈X++Y,U x)(ne:∀x∈X,∀y∈Y,rk x≠rk y)(K:Sd rk X)(V:Sd rk Y)(O:X≠[])(T:Y≠[])(W:(OQ D)[i]?=My (Uc P,Uc X,pw))(p2:(OQ D)[i+1]?=My (Uc P+Uc X,Uc Y,pw2))
  (h:∀(Z:a0y) (a:a0t) (g:Nat),Rs rk X Y Z->a.toList=P++Z++S->Q M3 (Tz (kindOf D) a (((OQ D).setIfInBounds i (Uc P,Uc X+Uc Y,pw)).eraseIdxIfInBounds<|i+1) g<|SO D)):SH M A E s (mergeAt' i) Q D:=by
 have lx:=Rj.mpr O;have ly:=Rj.mpr T;have l:∀x∈X,U x:=λx G=>t x<|NU.mpr<|.inl G;have n:∀x∈Y,U x:=λx G=>t x<|NU.mpr<|.inr G;have dx:(Qg D).toList.drop (Uc P)=X++Y++S:=by rw[ha,Nm,Nm,List.drop_left,Nm]
 have o:(Qg D).toList.drop (Uc P+Uc X)=Y++S:=by rw[<-Ub,dx,Nm,List.drop_left]
 obtain⟨y,d⟩:∃y,Y[0]?=My y:=⟨Y[0],M9 ly⟩;obtain⟨x,ex⟩:∃x,X[Uc X-1]?=My x:=⟨X[Uc X-1],M9<|by lia⟩;have u:=Nq d;have v:=Nq ex;have eY:(Qg D).toList[Uc P+Uc X]?=My y:=by
  have:=QL (xs:=(Qg D).toList) (i:=Uc P+Uc X) (j:=0);rw[o,PU ly,d]at this;exact this.symm
 have eX:(Qg D).toList[Uc P+(Uc X-1)]?=My x:=by
  rw[<-QL,dx,Nm,PU (by lia),ex]
 unfold mergeAt';refine NO<|TN ?_
 dsimp only
 rw[W,p2];refine NO<|Y8<|NO<|l_ eY<|NO<|YS C (L:=X) (by rw[dx,Nm,List.take_left]) rfl c (n y u) (λz hz=>⟨l z hz,ne z hz y u⟩) K lx λk k1 f B=>?_;have F:∀z∈Y,rk y<=rk z:=V.hd (i:=0) d<|Nh _;refine wE (λq1=>?_) λq1=>?_
 .rw[OZ<|by lia]at f
  exact NP (h (X++Y) _ _ (K.app V λx G y hy=>NM (f x G)<|F y hy)<|by rw[ha,Nm P])
 have p:∀z∈X,rk z<=rk x:=λz hz=>K.tl ex (Nh _) z (by rw[OZ<|by lia];exact hz);refine NO<|l_ (x:=x) (by rw[<-eX];congr 1;lia)<|NO<|YS C (L:=Y) (by rw[o,List.take_left]) rfl c (l x v) (λz hz=>⟨n z hz,(ne x v z hz).symm⟩) V (by lia) λm m1 H I=>?_;refine wE (λq2=>?_) λq2=>?_
 .cases q2
  exact NP (h (X++Y) _ _ (K.app V λz hz y hy=>NT (p z hz)<|I y hy)<|by rw[ha,Nm P])
 have q:((Qg D).extract (Uc P+k)<|Uc P+Uc X).toList=X.drop k:=by
  rw[so,<-Ub,dx,Nm,Si k1,Vu<|by rw[QC];lia]
 have ty:((Qg D).extract (Uc P+Uc X)<|Uc P+Uc X+m).toList=Y.take m:=by
  rw[so,o,PH,Vh m1]
 have b:∀(R:a0t) (g:Nat),Rs rk (X.drop k) (Y.take m) R.toList->SH M A E s (modify (λs=>Tz (kindOf s) (UG (λa x=>a.setIfInBounds (Uc P+k+x.snd) x.fst) (Qg s) R.toList.zipIdx) (OQ s) (UM s)<|SO s)>>=λ_=>get>>=λr=>Ps (SO r).isNone) Q (Tz (kindOf D) (Qg D) (((OQ D).setIfInBounds i (Uc P,Uc X+Uc Y,pw)).eraseIdxIfInBounds<|i+1) g<|SO D):=λR g ⟨r1,r2⟩=>by
  refine NO<|RT<|NO<|TN ?_;have hz:Rs rk X Y (X.take k++R.toList++Y.drop m):=by
   have aa:∀z,z∈R.toList->z∈X.drop k\/z∈Y.take m:=λz hz=>NU.mp<|r1.mem_iff.mp hz;refine⟨((r1.append_left _).append_right _).trans (by rw[<-Nm,NV,Nm,NV]),?_⟩;refine N3.mpr ⟨N3.mpr ⟨K.take,r2,λz hz w hw=>?_⟩,V.drop,λz hz w hw=>?_⟩
   .rcases aa w hw with hw|hw
    .have:=f z hz
     have:=B w hw;lia
    .exact NM (f z hz) (F w<|OX hw)
   .have gw:=I w hw
    rcases NU.mp hz with hz|hz
    .have:=p z<|OX hz
     lia
    .rcases aa z hz with hz|hz
     .have:=p z<|Qv hz
      lia
     .have:=H z hz
      lia
  have e:=wr R.toList 0 (Uc P+k) (Qg D) (P++X.take k) (X.drop k++Y.take m) (Y.drop m++S) (by
   rw[ha];simp only[Nm];rw[<-Nm (Y.take m),NV,<-Nm (X.take k),NV]) (by rw[Ni,Oe];lia)<|r1.length_eq.symm
  have:=h _ _ g hz (e.trans<|by simp only[Nm]);rw[N]at this⊢;exact NP this
 have sz:((Qg D).extract (Uc P+k)<|Uc P+Uc X).size=Uc X-k:=by rw[<-Nx,q,QC]
 have J:Mc U rk ((Qg D).extract (Uc P+k)<|Uc P+Uc X) ((Qg D).extract (Uc P+Uc X)<|Uc P+Uc X+m) x y:=by
  refine⟨?_,?_,?_,?_,?_,?_,?_,?_,?_⟩
  all_goals simp only[q,ty,sz]
  .exact λz hz=>l z<|Qv hz
  .exact λz hz=>n z<|OX hz
  .exact K.drop
  .exact V.take
  .exact λx G y hy=>ne x (Qv G) y<|OX hy
  .rw[QL,<-ex];congr 1;lia
  .rw[Ry,Ng<|Qq q2,d]
  .exact H
  .exact B
 rw[<-q,<-ty]at b;exact wh (NO<|mlo C J c b)<|NO<|mhi C J c b
theorem mir{a:a0t}{P X S:a0y}(h:a.toList=P++X++S):(mirror a (Uc P) (Uc P+Uc X)<|(Uc P+Uc X-Uc P)/2).toList=P++X.reverse++S:=by
 have s:Uc P+Uc X<=a.size:=by
  rw[<-Nx,h,Ni,Ni];lia
 refine RK λk=>?_;rw[OF,getElem?_mirror_all s];simp only[<-OF,h,Q9,Ni,Sx]
 repeat' split
 all_goals first|rfl|(exfalso;lia)|skip
 rw[List.getElem?_reverse<|by lia];congr 1;lia
theorem bub{a:a0t}{P Y S:a0y}(h:a.toList=P++Y++z::S):(bubble a (Uc P+Uc Y)<|Uc Y).toList=P++z::Y++S:=by
 have s:Uc P+Uc Y<a.size:=by
  rw[<-Nx,h,Ni,Ni,Np];lia
 refine RK λk=>?_;rw[OF,getElem?_bubble s _<|by lia];simp only[<-OF,h,Q9,Ni,Np]
 repeat' split
 all_goals first|rfl|(exfalso;lia)|skip
 .rw[show Uc P+Uc Y-(Uc P+Uc Y)=0 by lia,show k-Uc P=0 by lia];rfl
 .rw[show k-Uc P=k-1-Uc P+1 by lia,RC]
 .rw[show k-(Uc P+Uc Y)=k-(Uc P+(Uc Y+1))+1 by lia,RC]
theorem YK(C:Cm M A E s κ U rk){D:O7}(a:kindOf D=κ)(b:(Qg D).toList[i]?=My x)(c:(Qg D).toList[j]?=My y)(d:U x)(e:U y)(h:Q (My<|decide (rk x<rk y)) D):SH M A E s (ltAt' i j) Q D:=by
 rw[ltAt'_eq];exact NO<|TN<|NO<|l_ b<|NO<|l_ c<|C.lt d e a h
variable{P T:a0y}{i:Nat}{x y:Oc}
theorem Sd.sn(h:Sd rk<|T.take<|i+1)(A:T[i]?=My x)(a:T[i+1]?=My y)(s:rk x<rk y):Sd rk (T.take<|i+2):=by
 rw[uT a];refine N3.mpr ⟨h,O8 _ _,λz hz w b=>?_⟩;cases NX.mp b;rw[uT A]at h hz;rcases NU.mp hz with hz|hz
 .exact TR ((N3.mp h).2.2 z hz x<|RE _) s
 .cases NX.mp hz
  exact s
theorem Sd.rn(h:Sd rk (T.take<|i+1).reverse)(A:T[i]?=My x)(a:T[i+1]?=My y)(s:rk y<rk x):Sd rk (T.take<|i+2).reverse:=by
 rw[uT a,Sy];refine Qo.mpr ⟨λz hz=>?_,h⟩;rw[uT A,Sy]at h hz;rcases Nn.mp hz with rfl|hz
 .exact s
 .exact TR s (VZ h hz)
theorem y8(s:(T.map rk).Nodup)(a:T[i]?=My x)(b:T[j]?=My y)(c:i<j):rk x≠rk y:=by
 obtain⟨d,rfl⟩:=Nd.mp a;obtain⟨e,rfl⟩:=Nd.mp b;have:=Ri.mp (Qc.mp s) i j d e c;exact this
theorem nk(k:Nat):(P++T)[Uc P+k]?=T[k]?:=by rw[OE<|P3 _ _,PH]
theorem cnt(C:Cm M A E s κ U rk){K:O7}(r:kindOf K=κ)(V:(Qg K).toList=P++T)(u:∀x∈T,U x)(nd:(T.map rk).Nodup)(t0:T≠[])
  (h:∀(n:Nat) (f:a0y) (a:a0t),1<=n->n<=Uc T->f.Perm T->Sd rk (f.take n)->a.toList=P++f->Q (My n) (TX K a)):SH M A E s (countRun' (Uc P)<|Uc T) Q K:=by
 have Y:=Rj.mpr t0;have p:∀{T:a0y} i,i<Uc T->∃x,T[i]?=My x/\x∈T:=λi g=>⟨_,M9 g,OC g⟩;have t:∀{K:O7} {f:a0y} {i:Nat} {x y:Oc} {Q:a0K->O7->Prop},kindOf K=κ->(Qg K).toList=P++f->f.Perm T->f[i]?=My x->f[i+1]?=My y->Q (My<|decide (rk y<rk x)) K->SH M A E s (ltAt' (Uc P+(i+1))<|Uc P+(i+1)-1) Q K:=λ{K f i x y Q} r V J D b k=>
  YK C r (by rw[V,nk,b]) (by rw[V,show Uc P+(i+1)-1=Uc P+i by lia,nk,D]) (u y<|J.mem_iff.mp<|Nq b) (u x<|J.mem_iff.mp<|Nq D) k
 have v:∀{i:Nat} {x y:Oc},T[i]?=My x->T[i+1]?=My y->¬rk y<rk x->rk x<rk y:=λD b q=>Oq (QD q)<|y8 nd D b<|QE _;have z:∀{n:Nat},1<=n->∃k,n=k+1:=λ{n} h=>⟨n-1,(RF h).symm⟩;rw[countRun'_eq];refine lp (λi c d=>K=d/\c.1=M0/\c.2=i/\Sd rk (T.take i)) (λc d=>K=d/\c.1=M0/\1<=c.2/\c.2<=Uc T/\Sd rk (T.take c.2)/\(c.2=Uc T\/∃x y,T[c.2-1]?=My x/\T[c.2]?=My y/\rk y<rk x)) ⟨rfl,rfl,rfl,?_⟩ ?_ ?_ ?_
 .obtain⟨x,D,_⟩:=p 0 Y
  rw[uT (i:=0) D];exact O8 _ _
 .rintro i ⟨_,n⟩ _ j g ⟨rfl,rfl,rfl,G⟩
  obtain⟨i,rfl⟩:∃k,n=k+1:=z j;obtain⟨x,D,_⟩:=p (T:=T) i<|Po g;obtain⟨y,b,_⟩:=p (T:=T) (i+1) g;exact NO<|t r V (.refl _) D b<|wD (λq=>NP ⟨rfl,rfl,j,OA g,G,.inr ⟨x,y,D,b,q⟩⟩) λq=>NP ⟨rfl,rfl,rfl,G.sn D b<|v D b q⟩
 .rintro⟨_,n⟩ _ ⟨rfl,rfl,e,G⟩
  rw[Sa Y]at e G;cases e;exact⟨rfl,rfl,Y,Nh _,G,.inl rfl⟩
 rintro⟨_,n⟩ _ ⟨rfl,rfl,l,o,G,N⟩;refine wE (λ_=>NP<|h n T (Qg K) l o (.refl _) G V) λq1=>wC (λZ=>?_) λZ=>?_
 .have Z:1<n:=Z
  have o:n<=Uc T:=o;have l:0<n:=l;obtain⟨x,D,B⟩:=p (T:=T) 0 Y;obtain⟨y,b,F⟩:=p (T:=T) (n-1)<|NM (Nat.sub_lt l Nat.one_pos) o;refine NO<|YK C r (by rw[V,show Uc P=Uc P+0 from rfl,nk,D]) (x:=x) (y:=y) (by rw[V,Nat.add_sub_assoc l,nk,b]) (u x B) (u y F)<|wT (NC ?_)<|NP<|h n T (Qg K) l o (.refl _) G V;have D:(T.take n)[0]?=My x:=by rw[Ry,Ng l,D]
  have b:(T.take n)[n-1]?=My y:=by rw[Ry,Ng<|Nat.sub_lt l Nat.one_pos,b]
  obtain⟨j,rfl⟩:=Nd.mp D;obtain⟨O,rfl⟩:=Nd.mp b;exact Ri.mp G 0 (n-1) j O<|Nat.sub_pos_of_lt Z
 cases Nat.le_antisymm (QD Z) l;obtain⟨x,y,D,b,H⟩:=N.resolve_left q1;refine NO<|UT<|PL ⟨rfl,lp (λi c d=>K=d/\c.1=M0/\c.2.1=i/\c.2.2=0/\Sd rk (T.take i).reverse) (λc d=>K=d/\c.1=M0/\1<=c.2.1/\c.2.1<=Uc T/\c.2.2=0/\Sd rk (T.take c.2.1).reverse) ⟨rfl,rfl,rfl,rfl,Sd.rn (i:=0) (by rw[uT (i:=0) D];exact O8 _ _) D b H⟩ ?_ ?_ ?_⟩
 .rintro i ⟨_,n,m⟩ _ j g ⟨rfl,rfl,rfl,rfl,G⟩
  have j:=OA j;obtain⟨i,rfl⟩:∃k,n=k+1:=z j;obtain⟨x,D,B⟩:=p (T:=T) i<|Po g;obtain⟨y,b,F⟩:=p (T:=T) (i+1) g;exact NO<|t r V (.refl _) D b<|wD (λq=>NP ⟨rfl,rfl,rfl,rfl,G.rn D b q⟩) λq=>NO<|YK C r (x:=x) (y:=y) (by rw[V];exact(nk i).trans D) (by rw[V];exact(nk<|i+1).trans b) (u x B) (u y F)<|wT (NC<|v D b q)<|NP ⟨rfl,rfl,j,OA g,rfl,G⟩
 .rintro⟨_,n,m⟩ _ ⟨rfl,rfl,e,rfl,G⟩
  rw[Sa<|Oq Y q1]at e G;cases e;exact⟨rfl,rfl,Y,Nh _,rfl,G⟩
 rintro⟨_,n,_⟩ _ ⟨rfl,rfl,l,o,rfl,G⟩;have w:=mir (a:=Qg K) (P:=P) (X:=T.take n) (S:=T.drop n) (by rw[V,Nm,NV]);rw[Oe,Qf o,Nm]at w;have pm:((T.take n).reverse++T.drop n).Perm T:=(List.reverse_perm _|>.append_right _).trans (by rw[NV]);have R:((T.take n).reverse++T.drop n).take n=(T.take n).reverse:=Vu (by rw[Sx,Oe,Qf o]);rw[<-R]at G;generalize (T.take n).reverse++T.drop n=f at w pm G;have L:=pm.length_eq;have I:(f.map rk).Nodup:=(pm.map rk).nodup_iff.mpr nd;refine wF (Oi 0)<|NO<|RT ?_;refine lp (λi c d=>TX K (mirror (Qg K) (Uc P) (Uc P+n)<|(Uc P+n-Uc P)/2)=d/\c.1=M0/\c.2=i/\Sd rk (f.take i)) (λc d=>TX K (mirror (Qg K) (Uc P) (Uc P+n)<|(Uc P+n-Uc P)/2)=d/\c.1=M0/\1<=c.2/\c.2<=Uc T/\Sd rk (f.take c.2)) ⟨rfl,rfl,rfl,G⟩ ?_ ?_ ?_
 .rintro i ⟨_,k⟩ _ j g ⟨rfl,rfl,rfl,G⟩
  have j:=NJ l j;obtain⟨i,rfl⟩:∃W,k=W+1:=z j;rw[<-L]at g;obtain⟨x,D,_⟩:=p (T:=f) i<|Po g;obtain⟨y,b,_⟩:=p (T:=f) (i+1) g;rw[L]at g;exact NO<|t r w pm D b<|wD (λq=>NP ⟨rfl,rfl,j,OA g,G⟩) λq=>NP ⟨rfl,rfl,rfl,G.sn D b<|Oq (QD q)<|y8 I D b<|QE _⟩
 .rintro⟨_,k⟩ _ ⟨rfl,rfl,e,G⟩
  rw[Sa o]at e G;cases e;exact⟨rfl,rfl,Y,Nh _,G⟩
 rintro⟨_,k⟩ _ ⟨rfl,rfl,l,o,G⟩;exact NP<|h k f _ l o pm G w
theorem bin(C:Cm M A E s κ U rk){K:O7}(w:kindOf K=κ)(ha:(Qg K).toList=P++T)(p:∀x∈T,U x)(nd:(T.map rk).Nodup)(W:1<=ok)(Z:ok<=n)(hn:n<=Uc T)(G:Sd rk<|T.take ok)
  (h:∀(b:a0y) (a:a0t),b.Perm T->Sd rk (b.take n)->a.toList=P++b->Q M3 (TX K a)):SH M A E s (binarySort' (Uc P) n ok) Q K:=by
 rw[binarySort'_eq];rw[show TK ok 1=ok by lia];refine lp (λk c d=>c.1=M0/\∃(b:a0y) (a:a0t),TX K a=d/\b.Perm T/\Sd rk (b.take k)/\a.toList=P++b) (λc d=>c.1=M0/\∃(b:a0y) (a:a0t),TX K a=d/\b.Perm T/\Sd rk (b.take n)/\a.toList=P++b) ⟨rfl,T,Qg K,rfl,.refl _,G,ha⟩ ?_ ?_ ?_
 .rintro k ⟨_,u⟩ _ t B ⟨rfl,b,a,rfl,V,G,e⟩
  have lT:=V.length_eq;have o:(b.map rk).Nodup:=(V.map rk).nodup_iff.mpr nd;obtain⟨z,m⟩:∃z,b[k]?=My z:=⟨_,M9<|by lia⟩;have F:=p z<|V.mem_iff.mp<|Nq m;have H:∀x∈(b.take k).drop k,rk z<rk x:=λx hx=>by
   rw[Ww<|by rw[Oe];lia]at hx;cases hx
  dsimp only at*
  refine lp (λi c d=>TX K a=d/\c.1=M0/\c.2.1<=c.2.2/\c.2.2<=k/\c.2.2-c.2.1+i<=k/\(∀x∈b.take c.2.1,rk x<rk z)/\∀x∈(b.take k).drop c.2.2,rk z<rk x) (λc d=>TX K a=d/\c.1=M0/\c.2.1<=k/\(∀x∈b.take c.2.1,rk x<rk z)/\∀x∈(b.take k).drop c.2.1,rk z<rk x) ⟨rfl,rfl,OV _,Nh _,Nh _,λx hx=>(by rw[Uf]at hx;cases hx),H⟩ ?_ ?_ ?_
  .rintro i ⟨_,l,r⟩ _ _ B ⟨rfl,rfl,t,f,I,g,h5⟩
   dsimp only at*
   by_cases q:l≥r
   .rw[Ng q]
    obtain rfl:l=r:=by lia
    exact NP ⟨rfl,rfl,f,g,h5⟩
   rw[Nf q];obtain⟨x,ex⟩:∃x,b[(l+r)/2]?=My x:=⟨_,M9<|by lia⟩;refine NO<|YK C w (by rw[e,nk,m]) (by rw[e,nk,ex]) F (p x<|V.mem_iff.mp<|Nq ex) ?_
   dsimp only
   have j:(b.take k)[(l+r)/2]?=My x:=by rw[Ry,Ng (by lia),ex]
   by_cases q2:rk z<rk x
   .rw[Ng<|NC q2]
    exact NP ⟨rfl,rfl,by dsimp only;lia,by dsimp only;lia,by dsimp only;lia,g,G.hd j q2⟩
   .rw[Nf (λz=>q2<|Ph z)]
    have ne:=y8 o ex m (by lia);refine NP ⟨rfl,rfl,by dsimp only;lia,f,by dsimp only;lia,λy hy=>?_,h5⟩;exact NT (G.tl j (Nh _) y<|by rw[Ue,Qf<|by lia];exact hy) (by lia)
  .rintro⟨_,l,r⟩ _ ⟨rfl,rfl,t,f,I,g,h5⟩
   dsimp only at*
   obtain rfl:l=r:=by lia
   exact⟨rfl,rfl,f,g,h5⟩
  rintro⟨_,l,r⟩ _ ⟨rfl,rfl,f,g,h5⟩
  dsimp only at*
  rw[moveDown'_eq];have v:b.take l++(b.take k).drop l=b.take k:=by
   have:=NV l<|b.take k;rw[Ue,Qf f]at this;exact this
  have J:b=b.take l++(b.take k).drop l++z::b.drop (k+1):=by
   rw[v,<-Ys m,NV]
  have l1:Uc (b.take l)=l:=by rw[Oe];lia
  have l2:Uc ((b.take k).drop l)=k-l:=by rw[QC,Oe];lia
  rw[<-v]at G;generalize b.take l=X at*;generalize (b.take k).drop l=D at*;generalize b.drop (k+1)=S at*;subst J;refine NO<|RT<|NP ⟨rfl,X++z::(D++S),_,rfl,?_,?_,?_⟩
  .refine R3.trans ?_ V
   rw[Nm];exact List.perm_middle.symm.append_left _
  .obtain⟨L,N,O⟩:=N3.mp G
   have R:(X++z::(D++S)).take (k+1)=X++z::D:=by
    rw[show X++z::(D++S)=(X++z::D)++S by simp,Vu<|by rw[Ni,Np];lia]
   rw[R];refine N3.mpr ⟨L,Qo.mpr ⟨h5,N⟩,λx hx y hy=>?_⟩;rcases Nn.mp hy with rfl|hy
   .exact g x hx
   .exact O x hx y hy
  .have:=bub (a:=a) (P:=P++X) (Y:=D) (S:=S) (z:=z) (by rw[e];simp)
   rw[Ni,show Uc P+Uc X+Uc D=Uc P+k by lia]at this;show(bubble a (Uc P+k)<|Uc P+k-(Uc P+l)).toList=_;rw[show Uc P+k-(Uc P+l)=Uc D by lia,this];simp
 .rintro⟨_,u⟩ _ ⟨rfl,b,a,rfl,V,G,e⟩
  exact⟨rfl,b,a,rfl,V,by rw[show TK ok n=n by lia]at G;exact G,e⟩
 rintro⟨_,u⟩ _ ⟨rfl,b,a,rfl,V,G,e⟩;exact NP<|h b a V G e
def fY:Nat->List a0y->a0l
 |_,[]=>[]
 |n,r::rs=>(n,Uc r)::fY (n+Uc r) rs
theorem lq:∀(n:Nat) (i R:List a0y),fY n (i++R)=fY n i++fY (n+Uc i.flatten) R
 |n,[],R=>rfl
 |n,r::i,R=>by
  show(n,Uc r)::fY (n+Uc r) (i++R)=(n,Uc r)::(fY (n+Uc r) i++_);rw[lq,Pk,Ni,Nat.add_assoc]
theorem pf:∀(n:Nat) (i:List a0y),Uc (fY n i)=Uc i
 |_,[]=>rfl
 |n,r::i=>OG (·+1)<|pf (n+Uc r) i
abbrev p2(q:Nat×Nat×Nat):Nat×Nat:=(q.1,q.2.1)
theorem Km{s a:Type}(f:s->a):∀(l:List s) (i:Nat),(l.eraseIdx i).map f=(l.map f).eraseIdx i
 |[],_=>rfl
 |_::_,0=>rfl
 |x::l,i+1=>OG (f x::·)<|Km f l i
structure RI (κ:VG) (rk:a0V) (L:a0y) (rs:List a0y) (T:a0y) (st:O7):Prop where
 kd:kindOf st=κ
 fl:SO st=M0
 ar:(Qg st).toList=rs.flatten++T
 pm:(Qg st).toList.Perm L
 sd:∀r∈rs,Sd rk r/\r≠[]
 pe:(OQ st).toList.map p2=fY 0 rs
variable{L:a0y}{rs:List a0y}{st:O7}
theorem RI.len(h:RI κ rk L rs T st):(OQ st).size=Uc rs:=by
 rw[<-Nx,<-MZ (f:=p2),h.pe,pf]
theorem RI.mg(C:Cm M A E s κ U rk)(p:∀x∈L,U x)(V:(L.map rk).Nodup)(h:RI κ rk L rs T st){i:Nat}(t:i+1<Uc rs)(k:∀c f,RI κ rk L c T f->Uc c+1=Uc rs->Uc c.flatten=Uc rs.flatten->Q M3 f):SH M A E s (mergeAt' i) Q st:=by
 obtain⟨R,X,Y,R2,rfl,rfl⟩:∃R X Y R2,rs=R++X::Y::R2/\Uc R=i:=⟨rs.take i,rs[i],rs[i+1],rs.drop<|i+2,by
  rw[<-Ox,<-Ox,NV],by rw[Oe];lia⟩
 have K:=h.ar;have D:=h.pe;have z:=h.pm;have l:=h.sd X (by simp);have n:=h.sd Y (by simp);simp only[Xi,Pk,Nm]at K;rw[lq]at D;have G:=pf 0 R;have m:∃w,(OQ st)[Uc R]?=My (Uc R.flatten,Uc X,w):=by
  have:((OQ st).toList.map p2)[Uc R]?=My (Uc R.flatten,Uc X):=by
   rw[D,OE (by lia),G,Qx];show My (0+Uc R.flatten,Uc X)=_;rw[Px]
  rw[Nk,OF]at this;obtain⟨⟨u,v,w⟩,e,d⟩:=QH.mp this;cases d;exact⟨w,e⟩
 have d:∃w,(OQ st)[Uc R+1]?=My (Uc R.flatten+Uc X,Uc Y,w):=by
  have:((OQ st).toList.map p2)[Uc R+1]?=My (Uc R.flatten+Uc X,Uc Y):=by
   rw[D,OE (by lia),G,PH];show My (0+Uc R.flatten+Uc X,Uc Y)=_;rw[Px]
  rw[Nk,OF]at this;obtain⟨⟨u,v,w⟩,e,d⟩:=QH.mp this;cases d;exact⟨w,e⟩
 obtain⟨q,m⟩:=m;obtain⟨B,d⟩:=d;have b:=z;rw[K]at b;have F:∀x∈X,∀y∈Y,rk x≠rk y:=by
  have:=(b.map rk).nodup_iff.mpr V;simp only[Of]at this;have:=(QY.mp (QY.mp this).2.1).2.2;exact λx hx y H=>this _ (NE.mpr ⟨x,hx,rfl⟩) _<|NU.mpr<|.inl<|NE.mpr ⟨y,H,rfl⟩
 refine mat C (P:=R.flatten) (X:=X) (Y:=Y) (S:=R2.flatten++T) h.kd h.fl (by rw[K];simp) (λx hx=>p x<|b.mem_iff.mp (by simp at hx⊢;rcases hx with hx|hx<;>simp[hx])) F l.1 n.1 l.2 n.2 m d λZ a g j o=>k (R++Z::R2) _ ⟨h.kd,h.fl,?_,?_,?_,?_⟩ ?_ ?_
 .show a.toList=_
  rw[o];simp
 .show a.toList.Perm L
  refine R3.trans ?_ b;rw[o,Nm];refine VS _ ?_;rw[<-Nm X];exact j.1.append_right _
 .intro r hr
  rcases NU.mp hr with hr|hr
  .exact h.sd r (by simp[hr])
  .rcases Nn.mp hr with rfl|hr
   .exact⟨j.2,λe=>l.2 (by have:=j.1.length_eq;rw[e]at this;simp at this;exact PD.mp<|by lia)⟩
   .exact h.sd r (by simp[hr])
 .show P8 p2 (((OQ st).setIfInBounds (Uc R) (Uc R.flatten,Uc X+Uc Y,q)).eraseIdxIfInBounds<|Uc R+1).toList=_
  rw[Array.toList_eraseIdxIfInBounds,Km,SL,Pd,D,WH _ _ (by lia),G,Qx];show(fY 0 R++(Uc R.flatten,Uc X+Uc Y)::(0+Uc R.flatten+Uc X,Uc Y)::fY (0+Uc R.flatten+Uc X+Uc Y) R2).eraseIdx (Uc R+1)=_;rw[List.eraseIdx_append_of_length_le (by lia),G,PH,lq];show fY 0 R++(Uc R.flatten,Uc X+Uc Y)::fY (0+Uc R.flatten+Uc X+Uc Y) R2=fY 0 R++(0+Uc R.flatten,Uc Z)::fY (0+Uc R.flatten+Uc Z) R2;have:=j.1.length_eq;rw[Ni]at this;rw[this,Px,Nat.add_assoc<|Uc R.flatten]
 .simp only[Ni,Np]
  lia
 .have:=j.1.length_eq
  simp at this⊢;lia
theorem RI.tl(h:RI κ rk L rs T st){b:a0y}{a:a0t}(i:b.Perm T)(c:a.toList=rs.flatten++b):RI κ rk L rs b (TX st a):=⟨h.kd,h.fl,c,by
 show a.toList.Perm L;rw[c];refine(i.append_left _).trans ?_;rw[<-h.ar];exact h.pm,h.sd,h.pe⟩
theorem RI.pw(h:RI κ rk L rs T st):RI κ rk L rs T (setPending st<|(OQ st).modify k λx=>(x.1,x.2.1,w)):=⟨h.kd,h.fl,h.ar,h.pm,h.sd,by
 show P8 p2 ((OQ st).modify k λx=>(x.1,x.2.1,w)).toList=_;rw[<-h.pe,Array.toList_modify];refine RK λj=>?_;rw[Nk,Nk,List.getElem?_modify];cases(OQ st).toList[j]? with
 |none=>rfl
 |some q=>by_cases z:k=j<;>simp[z]⟩
theorem RI.pu(h:RI κ rk L rs T st)(b:1<=n)(a:n<=Uc T)(s:Sd rk<|T.take n){i:Nat}(el:i=Uc rs.flatten):RI κ rk L (rs++[T.take n]) (T.drop n) (setPending st<|(OQ st).push (i,n,0)):=by
 refine⟨h.kd,h.fl,?_,h.pm,λr hr=>?_,?_⟩
 .show(Qg st).toList=_
  rw[h.ar];simp
 .rcases NU.mp hr with hr|hr
  .exact h.sd r hr
  .cases NX.mp hr
   exact⟨s,λe=>(by have:=OG Uc e;rw[Oe,Rv]at this;lia)⟩
 .show P8 p2 ((OQ st).push (i,n,0)).toList=_
  rw[RH,Of,h.pe,lq,Px,<-el];show fY 0 rs++[(i,n)]=fY 0 rs++[(i,Uc<|T.take n)];rw[Oe,Qf a]
theorem DK:∀{rs:List a0y},(∀r∈rs,Sd rk r/\r≠[])->Uc rs<=Uc rs.flatten
 |[],_=>Nh _
 |r::rs,h=>by
  have:=DK (rs:=rs) λx i=>h x<|M2 _ i;have:=Rj.mpr (h r M7).2;rw[Pk,Ni,Np];lia
theorem srt(C:Cm M A E s κ U rk)(W:kindOf st=κ)(Z:SO st=M0)(v:OQ st=#[])(G:(Qg st).toList=L)(F:∀x∈L,U x)(K:(L.map rk).Nodup)(h:∀f,SO f=M0->(Qg f).toList.Perm L->Sd rk (Qg f).toList->Q () f):SH M A E s sortRuns' Q st:=by
 have X:(Qg st).size=Uc L:=by rw[<-G,Nx]
 rw[sortRuns'_eq];refine NO<|TN ?_
 dsimp only
 rw[X];refine lp (λt c f=>c.1=M0/\∃rs T,RI κ rk L rs T f/\c.2=Uc rs.flatten/\(t<=c.2\/Uc L<=c.2)) (λc f=>c.1=M0/\∃rs,RI κ rk L rs [] f) ⟨rfl,[],L,⟨W,Z,G,by rw[G],λ_ Y=>(by cases Y),by rw[v];rfl⟩,rfl,.inl<|OV _⟩ ?_ ?_ ?_
 .rintro t ⟨_,lo⟩ st _ ht ⟨rfl,rs,T,d,rfl,hl⟩
  dsimp only at*
  have o:=d.pm.length_eq;rw[d.ar,Ni]at o;by_cases q:Uc rs.flatten≥Uc L
  .rw[Ng q]
   obtain rfl:T=[]:=PD.mp (by lia);exact NP ⟨rfl,rs,d⟩
  rw[Nf q];have H:Uc L-Uc rs.flatten=Uc T:=by lia
  have O:∀{w:a0y},w.Perm T->(∀x∈w,U x)/\(w.map rk).Nodup:=λ{w} v=>by
   have:=d.pm;rw[d.ar]at this;exact⟨λx z=>F x<|this.mem_iff.mp<|NU.mpr<|.inr<|v.mem_iff.mp z,(v.map rk).nodup_iff.mpr (by
    have:=(this.map rk).nodup_iff.mpr K;rw[Of]at this;exact(QY.mp this).2.1)⟩
  rw[H];obtain⟨u0,I⟩:=O<|.refl _;refine NO<|cnt C (P:=rs.flatten) d.kd d.ar u0 I (λe=>(by rw[e]at H;simp only[Rv]at H;lia)) λn l a B m S y ea=>?_;have d:=d.tl S ea;have aa:=S.length_eq
  dsimp only
  by_cases V:n<minRun' (Uc L) (Uc L) 0;rw[Ng V];refine NO<|UT<|PL ⟨rfl,?_⟩;obtain⟨u1,nd1⟩:=O S;refine NO<|bin C (P:=rs.flatten) d.kd d.ar u1 nd1 B (by lia) (by lia) y λR a2 p y J=>?_;rw[Nf<|by decide];have d:=d.tl p J;have ab:=p.length_eq;have B:1<=Q2 (Uc T) (minRun' (Uc L) (Uc L) 0):=by lia
  have m:Q2 (Uc T) (minRun' (Uc L) (Uc L) 0)<=Uc R:=by lia
  generalize TX (TX st a) a2=st at d⊢;generalize Q2 (Uc T) (minRun' (Uc L) (Uc L) 0)=n at B m y⊢;generalize R=l at d m y
  rotate_left
  rw[Nf V];have m:n<=Uc l:=by lia
  generalize TX st a=st at d⊢
  all_goals
   refine NO<|TN ?_;have u:∀{g:List a0y} {st:O7},RI κ rk L g l st->Uc g.flatten=Uc rs.flatten->SH M A E s ((modify λs=>setPending s<|(OQ s).push (Uc rs.flatten,n,0))>>=λ_=>Ps<|RW ((M0:Option Unit),Uc rs.flatten+n)) (λr f=>match r with| .done c'=>c'.1=M0/\∃rs,RI κ rk L rs [] f| .yield c'=>c'.1=M0/\∃rs T,RI κ rk L rs T f/\c'.2=Uc rs.flatten/\(t+1<=c'.2\/Uc L<=c'.2)) st:=λ{g st} d i=>by
    refine NO<|RT<|NP ⟨rfl,_,_,d.pu B m y i.symm,?_,?_⟩
    .rw[Xi,Ni,i]
     show Uc rs.flatten+n=Uc rs.flatten+Uc (l.take n++[]);rw[NW,Oe,Qf m]
    .show t+1<=Uc rs.flatten+n\/Uc L<=Uc rs.flatten+n
     lia
   cases(OQ st).back? with
   |none=>exact u d rfl
   |some b=>
    obtain⟨b1,b2,b3⟩:=b
    dsimp only
    refine lp (λ_ c f=>c.1=M0/\∃g,RI κ rk L g l f/\Uc g.flatten=Uc rs.flatten) (λc f=>c.1=M0/\∃g,RI κ rk L g l f/\Uc g.flatten=Uc rs.flatten) ⟨rfl,rs,d,rfl⟩ ?_ (λ_ _ h=>h) ?_
    .rintro _ ⟨_,_⟩ st _ _ ⟨rfl,g,d,i⟩
     refine NO<|TN ?_;have rl:=d.len;by_cases D:(OQ st).size>1
     .rw[Ng D,getElem?_pos (OQ st) ((OQ st).size-2)<|by lia]
      dsimp only
      refine wh (NP ⟨rfl,g,d,i⟩)<|NO<|d.mg C F K (by lia) λj N k _ l2=>?_;exact NP ⟨rfl,j,k,l2.trans i⟩
     .rw[Nf D]
      exact NP ⟨rfl,g,d,i⟩
    .rintro⟨_,_⟩ st ⟨rfl,g,d,i⟩
     exact NO<|RT<|u d.pw i
 .rintro⟨_,lo⟩ st ⟨rfl,rs,T,d,el,hl⟩
  dsimp only at*
  have o:=d.pm.length_eq;rw[d.ar,Ni,<-el]at o;obtain rfl:T=[]:=PD.mp (by lia);exact⟨rfl,rs,d⟩
 .rintro⟨_,lo⟩ st ⟨rfl,rs,d⟩
  have o:=d.pm.length_eq;rw[d.ar,NW]at o;have fl:=DK d.sd;refine lp (λt c f=>c.1=M0/\∃rs,RI κ rk L rs [] f/\Uc rs+t<=Uc L) (λc f=>c.1=M0/\∃rs,RI κ rk L rs [] f/\Uc rs<=1) ⟨rfl,rs,d,by lia⟩ ?_ ?_ ?_
  .rintro t ⟨_,_⟩ st _ ht ⟨rfl,rs,d,i⟩
   refine NO<|TN ?_;have rl:=d.len;by_cases D:(OQ st).size<=1
   .rw[Ng D]
    exact NP ⟨rfl,rs,d,by lia⟩
   .rw[Nf D]
    have dc:∀(c:Prop) [Decidable c],(if c then(OQ st).size-2-1 else(OQ st).size-2)+1<Uc rs:=λc _=>by split<;>lia
    refine NO<|d.mg C F K (dc _) λj N k l1 _=>?_;exact NP ⟨rfl,j,k,by lia⟩
  .rintro⟨_,_⟩ st ⟨rfl,rs,d,i⟩
   exact⟨rfl,rs,d,by lia⟩
  .rintro⟨_,_⟩ st ⟨rfl,rs,d,i⟩
   refine NP<|h st d.fl d.pm ?_;rw[d.ar]
   match rs,i,d.sd with
   |[],_,_=>exact Sh
   |[r],_,y=>
    have:=(y r M7).1;simpa using this
   |_::_::_,i,_=>simp at i
end
end L2.Hb
namespace L2.Hs
open PySem.W
noncomputable def dm:a0b->a0b->Bool
 |[],[]=>M5
 |[],_::_=>M3
 |_::_,[]=>M5
 |a::as,b::bs=>if a=b then dm as bs else decide (a<b)
theorem ji:∀x,dm x x=M5
 |[]=>rfl
 |a::as=>by unfold dm;rw[Ng rfl];exact ji as
theorem qI:∀{x y z},dm x y=M3->dm y z=M3->dm x z=M3
 |[],[],_,h,_=>by cases h
 |[],_::_,[],_,h=>by cases h
 |[],_::_,_::_,_,_=>rfl
 |_::_,[],_,h,_=>by cases h
 |_::_,_::_,[],_,h=>by cases h
 |a::as,b::bs,c::cs,h1,h2=>by
  unfold dm at h1 h2⊢;by_cases E:a=b
  .rw[Ng E]at h1
   by_cases D:b=c
   .rw[Ng D]at h2
    rw[Ng<|E.trans D];exact qI h1 h2
   .rw[Nf D]at h2
    rw[Nf (by rw[E];exact D),E];exact h2
  .rw[Nf E]at h1
   have d:=Ph h1;by_cases D:b=c
   .rw[Nf (by rw[<-D];exact E),<-D];exact h1
   .rw[Nf D]at h2
    have e:=Ph h2;rw[Nf<|by lia];exact NC (by lia)
theorem oh:∀{x y},dm x y=M5->dm y x=M5->x=y
 |[],[],_,_=>rfl
 |[],_::_,h,_=>by cases h
 |_::_,[],_,h=>by cases h
 |a::as,b::bs,h1,h2=>by
  unfold dm at h1 h2;by_cases q:a=b
  .rw[Ng q]at h1
   rw[Ng q.symm]at h2;rw[q,oh h1 h2]
  .rw[Nf q]at h1
   rw[Nf<|Ne.symm q]at h2;have:=WW h1;have:=WW h2;lia
theorem wN{D:Type}{p q:D->Bool}:∀{L:List D},(∀l∈L,p l=M3->q l=M3)->∀{i},i∈L->p i=M5->q i=M3->L.countP p<L.countP q
 |[],_,i,h,_,_=>by cases h
 |a::L,hpq,i,hi,h1,h2=>by
  have E:L.countP p<=L.countP q:=List.countP_mono_left λl b=>hpq l<|M2 a b;rcases Nn.mp hi with rfl|hi
  .rw[List.countP_cons_of_neg (by rw[h1];exact Nb),List.countP_cons_of_pos h2]
   lia
  .have ih:=wN (λl b=>hpq l<|M2 a b) hi h1 h2
   rw[List.countP_cons,List.countP_cons];have:(if p a=M3 then 1 else 0)<=(if q a=M3 then 1 else 0):=by
    by_cases z:p a=M3
    .rw[Ng z,Ng<|hpq a M7 z];exact Nh 1
    .rw[Nf z];exact OV _
   lia
def B9(K:LI)(k:a0b):Nat:=K.countP λj=>dm j k
section
variable{K:LI}{k l:a0b}
theorem GO(a:k∈K)(h:dm k l=M3):B9 K k<B9 K l:=wN (λ_ _ z=>qI z h) a (ji _) h
theorem qo(b:k∈K)(c:l∈K):decide (B9 K k<B9 K l)=dm k l:=by
 cases h:dm k l with
 |true=>exact NC<|GO b h
 |false=>
  refine Ob λz=>?_;cases a:dm l k with
  |true=>exact Nat.lt_asymm z<|GO c a
  |false=>exact Oi _<|oh h a▸z
theorem JI(a:k∈K)(b:l∈K)(h:B9 K k=B9 K l):k=l:=by
 refine oh ?_ ?_
 .rw[<-qo a b,h];exact Ob<|Oi _
 .rw[<-qo b a,h];exact Ob<|Oi _
abbrev Up(l:LI):Prop:=l.Pairwise λa b=>dm a b=M3
theorem yz:∀{l m:LI},Up l->Up m->(∀x,x∈l↔x∈m)->l=m
 |[],[],_,_,_=>rfl
 |[],b::m,_,_,h=>by have:=(h b).mpr M7;cases this
 |a::l,[],_,_,h=>by have:=(h a).mp M7;cases this
 |a::l,b::m,h1,h2,h=>by
  obtain⟨c,p2⟩:=Qo.mp h1;obtain⟨D,E⟩:=Qo.mp h2;have e:a=b:=by
   rcases Nn.mp ((h a).mp M7)with z|z
   .exact z
   .rcases Nn.mp ((h b).mpr M7)with w|w
    .exact w.symm
    .have:=qI (D a z)<|c b w
     rw[ji]at this;cases this
  subst e;congr 1;refine yz p2 E λx=>⟨λk=>?_,λk=>?_⟩
  .rcases Nn.mp ((h x).mp<|M2 a k)with rfl|z
   .have:=c x k;rw[ji]at this;cases this
   .exact z
  .rcases Nn.mp ((h x).mpr<|M2 a k)with rfl|z
   .have:=D x k;rw[ji]at this;cases this
   .exact z
variable{aa:NY}{w:N6}{A:Om}{E:a0d}{s:Na}
theorem xT{b:Bool}:∀{K G:a0b} {D E:a0f} (i:Nat),ItemsAre (Uo aa w) K D->ItemsAre (Uo aa w) G E->∀n m:Nat,(decide (n+Uc D<m+Uc E)=decide (Uc K<Uc G))->Q (dm K G) s->KatLex aa w A M3 (decide (n+Uc D<m+Uc E)) Q (D.zip E) i s
 |[],G,D,E,i,hx,hy,n,m,e,q=>by
  cases hx;cases hy with
  |nil=>rw[UY];exact kat_nil (by rw[e];exact q)
  |cons c d=>rw[UY];exact kat_nil (by rw[e];exact q)
 |x::K,G,D,E,i,hx,hy,n,m,e,q=>by
  cases hx with
  |@cons _ u _ us' c d=>
   cases hy with
   |nil=>rw[List.zip_nil_right];exact kat_nil (by rw[e];exact q)
   |@cons y v ys' vs' h3 h4=>
    obtain⟨t1,rfl⟩:=UL c;obtain⟨t2,rfl⟩:=UL h3;rw[SX];refine kat_cons<|wpAny_eqBool_int ?_;unfold dm at q;by_cases z:x=y
    .rw[Ng z]at q
     rw[show(x==y)=M3 by rw[Rl];exact z];refine kat_yes ?_;have f:∀k l:Nat,decide (k+(Uc us'+1)<l+(Uc vs'+1))=decide (k+1+Uc us'<l+1+Uc vs'):=λk l=>decide_eq_decide.mpr (by lia);rw[Np,Np,f];refine xT (b:=b) (i+1) d h4 (n+1) (m+1) ?_ q;rw[<-f,<-Np (a:=R0 x t1),<-Np (a:=R0 y t2),e,Np,Np];exact decide_eq_decide.mpr (by lia)
    .rw[Nf z]at q
     rw[show(x==y)=M5 by rw[beq_eq_false_iff_ne];exact z];refine kat_no ?_;cases g:(M3&&i==0)with
     |true=>exact oneLt_int q
     |false=>exact kat_one _ _<|lt_int (show PySem.W.BoolBack Q (.bool _) s from q)
theorem Kn(k:(hW aa w).is s.heap q x)(l:(hW aa w).is s.heap r y)(h:Q (dm q r) s):Nu (NK aa w) A (keyLt' (tuples' M3) (.ref x)<|.ref y) Q E s:=by
 obtain⟨m,n,o,d,i,e,a⟩:=k;obtain⟨o2,i2,p,f,j,g,c⟩:=l;refine kat_lt d e f g ?_;have:=xT (A:=A) (b:=M3) (Q:=Q) (s:=s) 0 a c 0 0 (by rw[Px,Px,a.length,c.length]) h;rw[Px,Px,Nx,Nx]at this;exact this
structure Srb (aa:NY) (w:N6) (A:Om) (is:Op->a0b->M6->Prop):Prop where
 fr:∀{h h':Op} {k:a0b} {x:M6},is h k x->(∀b o,o.cls= .type "tuple"->h.get? b=My o->h'.get? b=My o)->is h' k x
 tup:∀{h:Op} {k:a0b} {x:M6},is h k x->∃o its n i t,h.get? x=My o/\o.cls= .type "tuple"/\o.data= .seq its n/\its[0]?=My (.int i t)
 fn:∀{h:Op} {k k':a0b} {x:M6},is h k x->is h k' x->k=k'
 lt:∀{E:a0d} {s:Na} {Q:Bool->Na->Prop} {x y:M6} {xs ys:a0b},is s.heap xs x->is s.heap ys y->Q (dm xs ys) s->Nu (NK aa w) A (keyLt' (tuples' M3) (.ref x)<|.ref y) Q E s
theorem xm(S:Srb aa w A is):∀{D:a0p},(∀k∈D,is s.heap k.1 k.2)->∃l:a0f,KatTups s.heap (D.map λk=>Ny k.2) l/\Uc l=Uc D/\∀v∈l,∃n t,v=R0 n t
 |[],_=>⟨[],trivial,rfl,λv hv=>by cases hv⟩
 |k::D,h=>by
  obtain⟨l,a,b,c⟩:=xm S λd f=>h d<|M2 k f;obtain⟨o,E,n,i,t,g,j,G,e⟩:=S.tup<|h k M7;refine⟨_::l,KatTups.cons g j G e a,by rw[Np,Np,b],λv hv=>?_⟩;rcases Nn.mp hv with rfl|hv
  .exact⟨i,t,rfl⟩
  .exact c v hv
abbrev isI(aa:NY)(w:N6)(h:Op)(k:a0b)(x:M6):Prop:=(hW aa w).is h k x/\1<=Uc k
theorem LL:Srb aa w A (isI aa w) where
 fr:=λ⟨⟨o,s,n,b,a,f,d⟩,l⟩ k=>⟨⟨o,s,n,k _ _ a b,a,f,d⟩,l⟩
 tup:=λ⟨⟨o,s,n,b,a,f,d⟩,l⟩=>by
  have c:=d.length;have g:0<s.size:=by rw[<-Nx,<-c];lia
  obtain⟨i,t,e⟩:=items_int d s[0] (by rw[<-T4];exact OC _);exact⟨o,s,n,i,t,b,a,f,by rw[getElem?_pos s 0 g,e]⟩
 fn:=λb a=>(hW aa w).inj b.1 a.1
 lt:=λD E h=>Kn D.1 E.1 h
theorem vN{w A:Type}{f:w->A}{D g:List A}(p:D.Perm g):∀{k:List w},g=k.map f->∃s:List w,s.Perm k/\D=s.map f:=by
 induction p with
 |nil=>
  intro k e;cases k with
  |nil=>exact⟨[],.refl _,rfl⟩
  |cons _ _=>cases e
 |cons x _ E=>
  intro k e;cases k with
  |nil=>cases e
  |cons a k=>
   cases e;obtain⟨s,c,d⟩:=E rfl;exact⟨a::s,c.cons a,by rw[d];rfl⟩
 |swap x y l=>
  intro k e
  match k,e with
  |[],e=>cases e
  |[_],e=>cases e
  |a::b::k,e=>
   cases e;exact⟨b::a::k,.swap _ _ _,rfl⟩
 |trans _ _ ih1 ih2=>
  intro k e;obtain⟨s,c,d⟩:=ih2 e;obtain⟨h,i,j⟩:=ih1 d;exact⟨h,i.trans c,j⟩
def zm(k:a0p)(v:M8):a0b:=match k.find? λy=>decide (v= .ref y.2)with
 |some y=>y.1
 |none=>[]
theorem AV(S:Srb aa w A is){D:a0p}(I:s.heap.get? a=My (Re "list" (D.map λk=>Ny k.2).toArray n))(c:∀k∈D,is s.heap k.1 k.2)(nd:(D.map (·.1)).Nodup)(ab:Uc D<=1000)
  (h:∀(K:Op) (i:a0p) (n':Nat),i.Perm D->Up (i.map (·.1))->K.get? a=My (Re "list" (i.map λk=>Ny k.2).toArray n')->(∀b o,b≠a->s.heap.get? b=My o->K.get? b=My o)->P (.done<|.ret .none) {s with heap:=K}):
  Nu (NK aa w) A (Builtin.«list.sort» ⟨[.ref a],[]⟩) P E s:=by
 have V:a<s.heap.objs.size:=NI I;rw[list_sort_plain];refine MY<|listItems_at I rfl ?_;refine MY (TW I rfl ?_ (by simp[P0];lia)<|by simp);obtain⟨R,J⟩:∃R,(s.heap.update a<|Pl λ_=>#[]).get? a=My (Re "list" #[] R):=⟨_,get?_update_seq I (λ_=>#[])⟩;refine MY<|seqEpoch_at J rfl ?_;refine MY (UR ?_<|by simp[P0];lia);refine MY<|wpAny_newList ?_<|OV _;refine O0 ?_;generalize m:(D.map λk=>Ny k.2)=vs at*;have N:Uc vs=Uc D:=by rw[<-m,MZ]
 have f:(((s.heap.update a<|Pl λ_=>#[]).push<|Re "tuple" vs.toArray 0).push<|Re "list" #[] 0).get? a=My (Re "list" #[] R):=by
  rw[X2 _ _ _ (by rw[size_push',Heap.size_update];exact Og<|Q4 V),X2 _ _ _<|by rw[Heap.size_update];exact Og V];exact J
 have G:∀b o,b≠a->s.heap.get? b=My o->(((s.heap.update a<|Pl λ_=>#[]).push<|Re "tuple" vs.toArray 0).push<|Re "list" #[] 0).get? b=My o:=λb o u e=>by
  refine M4 _<|M4 _ ?_;rw[Qz _ _ _ _ u];exact e
 show Nu (NK aa w) A _ P E {s with heap:=((s.heap.update a<|Pl λ_=>#[]).push<|Re "tuple" vs.toArray 0).push (Re "list" #[] 0)};generalize ac:((s.heap.update a<|Pl λ_=>#[]).push<|Re "tuple" vs.toArray 0).push (Re "list" #[] 0)=h6 at f G
 dsimp only
 have O:∀(i:a0p) (p:a0L),i.Perm D->Up (i.map (·.1))->p=(i.map λk=>Ny k.2).toArray->P (.done<|.ret .none) {s with heap:=h6.update a (Pl λ_=>p)}:=λi p B p2 e=>by
  refine h _ i _ B p2 (by rw[<-e];exact get?_update_seq f λ_=>p) λb o u U=>?_;rw[Qz _ _ _ _ u];exact G b o u U
 by_cases F:vs.toArray.size<2
 .rw[Ng F,Ng F]
  refine MY<|M1 ?_;rw[StateT.run_pure];refine MY<|M1 ?_
  dsimp only
  refine MY<|seqEpoch_at f rfl ?_;have W:((Qg<|Tz general' (vs.toArray.zip vs.toArray) #[] 7 M0).map (·.2))=vs.toArray:=by
   show(vs.toArray.zip vs.toArray).map (·.2)=_;apply XW.mp;rw[XX,XZ];exact List.map_snd_zip<|Nh _
  rw[W];refine MY (TW f rfl ?_ (by simp)<|by simp[P0];lia);simp only[QU,NF,Oy];refine M1 (O D _ (.refl _) ?_<|by rw[m]);have d:Uc D<2:=by rw[<-N];simpa using F
  match D,d with
  |[],_=>exact Sh
  |[k],_=>exact O8 _ _
  |_::_::_,d=>simp at d;lia
 .rw[Nf F,Nf F]
  have ad:2<=Uc D:=by rw[<-N];simp at F;lia
  have j:∀k∈D,is h6 k.1 k.2:=λk X=>S.fr (c k X) λb o hc u=>G b o (λz=>by
   subst z;rw[I]at u;cases u;exact NH (R1.inj hc)<|by decide) u
  obtain⟨fs,t1,t2,t3⟩:=xm S (s:={s with heap:=h6}) j;rw[m]at t1;refine MY<|kat_kind (T:= .type "int") t1 (by lia) (λv hv=>?_) rfl ?_
  .obtain⟨x,t,rfl⟩:=t3 v hv
   exact Looks.of_pure rfl
  show Nu _ _ (StateT.run sortRuns' (Tz (tuples' M3) (vs.toArray.zip vs.toArray) #[] 7 M0)>>=_) _ _ _;have ez:(vs.toArray.zip vs.toArray).toList=D.map λk=>(Ny k.2,Ny k.2):=by
   rw[XZ,<-m];show List.zip (D.map _) (D.map _)=_;rw[List.zip_map',]
  have H:∀k∈D,zm D (Ny k.2)=k.1:=λk c=>by
   unfold zm;cases e:D.find? λy=>decide (Ny k.2=Ny y.2)with
   |none=>exact NH (List.find?_eq_none.mp e k c) (by simp)
   |some y=>
    have y0:=List.find?_some e;have y1:k.2=y.2:=Ny.inj<|Ph y0;have Y:=j y<|VY e;rw[<-y1]at Y;exact S.fn Y<|j k c
  have mk:∀k∈D,k.1∈D.map (·.1):=λk c=>NE.mpr ⟨k,c,rfl⟩;have C:Hb.Cm (NK aa w) A E {s with heap:=h6} (tuples' M3) (λx=>∃k∈D,x=(Ny k.2,Ny k.2)) (λx=>B9 (D.map (·.1))<|zm D x.1):=⟨by
   rintro _ _ st Q ⟨k,c,rfl⟩ ⟨l,d,rfl⟩ hs q;show SH _ _ _ _ (lt' _ _) Q st;rw[lt'_eq];refine NO<|TN ?_;rw[hs];refine NO<|UT<|Rb<|S.lt (j k c) (j l d) ⟨rfl,?_⟩;rw[H k c,H l d,qo (mk k c)<|mk l d]at q;exact NP q⟩
  refine MY<|Od (Hb.srt C (L:=D.map λk=>(Ny k.2,Ny k.2)) (Q:=λ_ g=>SO g=M0/\(Qg g).toList.Perm (D.map λk=>(Ny k.2,Ny k.2))/\Hb.Sd (λx=>B9 (D.map (·.1))<|zm D x.1) (Qg g).toList) rfl rfl rfl ez ?_ ?_ λg q1 q2 q3=>⟨q1,q2,q3⟩) (λr s' hr=>?_) λ_ _ e=>e
  .intro x hx
   obtain⟨k,c,rfl⟩:=NE.mp hx;exact⟨k,c,rfl⟩
  .rw[No]
   refine Qc.mpr<|(Qc.mp nd).imp_of_mem λ{k l} c d ne e=>ne ?_;simp only[Vo,H k c,H l d]at e;exact JI (mk k c) (mk l d) e
  .obtain⟨⟨⟩,g⟩:=r
   obtain⟨rfl,Z,pm,M⟩:=hr;obtain⟨i,B,e⟩:=vN pm rfl
   dsimp only at Z e M⊢
   have W:(Qg g).map (·.2)=(i.map λk=>Ny k.2).toArray:=by
    apply XW.mp;rw[XX,e,No];rfl
   rw[W];refine MY<|seqEpoch_at f rfl ?_;refine MY (TW f rfl ?_ (by simp)<|by simp[P0,B.length_eq];lia);rw[Z];simp only[QU,NF,Oy];refine M1<|O i _ B ?_ rfl;rw[e]at M;refine Qc.mpr<|(Qc.mp M).imp_of_mem λ{k l} c d z=>?_;have c:=B.mem_iff.mp c;have d:=B.mem_iff.mp d;simp only[H k c,H l d]at z;rw[<-qo (mk k c) (mk l d)];exact NC z
theorem yJ{D:a0p}(F:A.handled=M0)(S:sH aa w s.heap a D)(H:∀x∈D,1<=Uc x.1)(I:Uc D<77)
  (h:∀(l:M6) (G:Op) (f u:Nat) (g:a0p),g.Perm D->Up (g.map (·.1))->G.get? l=My (Re "list" (g.map λk=>Ny k.2).toArray u)->s.heap.objs.size<=l->(∀b o,s.heap.get? b=My o->G.get? b=My o)->s.toks<=f->Q (.ref l) {s with heap:=G,toks:=f}):
  Nu (NK aa w) A (RO (.builtin "sorted") [.ref a]) Q E s:=by
 obtain⟨o,Y,ep,t,J,v,Z,i,y,hx,T,L,j⟩:=S;have B:Y.size=Uc D:=by rw[<-Nx,i,MZ]
 have N:t.fits Y.size=M3:=T.fits (by rw[MZ,B]);refine Calls.call_function_entry kind_sorted plain_sorted entry_sorted (args_sorted1 _) ?_;unfold Builtin.«sorted»;refine MY (m:=checkCount "sorted" 1 1 _)<|M1 ?_;refine MY<|w8 F J v.1 Z T N L j (by lia) λn f vs K p V pv=>?_;rw[i,No]at pv;obtain⟨M,q,rfl⟩:=vN pv rfl;have O:Uc M=Uc D:=q.length_eq;refine MY (wpAny_newList ?_<|by rw[MZ,P0];lia);have c:∀b d,s.heap.get? b=My d->(n.push<|Re "list" (M.map λk=>Ny k.2).toArray 0).get? b=My d:=λb d e=>M4 _<|K b d e;have r:(n.push<|Re "list" (M.map λk=>Ny k.2).toArray 0).get? n.objs.size=My (Re "list" (M.map λk=>Ny k.2).toArray 0):=NA _ rfl;show Nu _ _ _ _ _ {s with heap:=n.push<|Re "list" (M.map λk=>Ny k.2).toArray 0,toks:=f};refine MY<|O0<|Ot slot_list_sort ⟨_,r,rfl⟩ entry_list_sort (AV LL r (λk C=>⟨?_,H k<|q.mem_iff.mp C⟩) ((q.map (·.1)).nodup_iff.mpr y) (by lia) λG g u q1 q2 q3 q4=>⟨_,rfl,?_⟩)<|args_list_sort _
 .obtain⟨P,its,m,R,U,W,X⟩:=hx k<|q.mem_iff.mp C
  exact⟨P,its,m,c _ _ R,U,W,X⟩
 .refine M1 ⟨_,rfl,h n.objs.size G f u g (q1.trans q) q2 q3 p (λb d e=>q4 b d (λz=>?_)<|c b d e) V⟩
  have:=NI e;exact NH (z▸this)<|Nat.not_lt.mpr p
end
end L2.Hs
namespace L2.Hs
section
variable{g:NY}{w:N6}
def sI(g:NY)(w:N6)(a:M6)(D:a0p)(h:Op):Prop:=
 ∃o E G t,h.get? a=My o/\o.ExactSet/\o.data= .set E G t/\(E.toList=D.map λx=>(hsh g w x.1,Ny x.2))/\(D.map (·.1)).Nodup/\(Tb t<|D.map λx=>hsh g w x.1)/\t.plain=M3/\t.led=!(w.params.followText "set-order")
noncomputable def nu(g:NY)(w:N6)(a:M6)(D:a0p):HO:= .ext<|sI g w a D
theorem sI.to(S:sI g w a xs h)(D:∀x∈xs,(hW g w).is h x.1 x.2):sH g w h a xs:=by
 obtain⟨o,E,G,t,b,c,d,e,h5,f⟩:=S;exact⟨o,E,G,t,b,c,d,e,h5,D,f⟩
theorem xv(S:sI g w a d h):cq g w H h a (nu g w a d):=by
 refine⟨S,?_,λb c z k=>?_⟩
 .obtain⟨o,_,_,_,e,_⟩:=S
  exact⟨o,e⟩
 .obtain⟨o,es,ep,t,e,r⟩:=z
  exact⟨o,es,ep,t,k _ e,r⟩
theorem FM{k:a0b}:∀{D:a0f},ay (k.map V.n) D->ItemsAre (Uo g w) k D:=by
 induction k with
 |nil=>intro D h;cases h;exact .nil
 |cons i k E=>
  intro D h;cases h with
  |cons a b=>
   obtain⟨t,rfl⟩:=a;exact .cons (by simp[Uo,WM])<|E b
variable{X:Cx}
theorem oq{s:Na}{k:a0b}(I:bx X d f H s)(h:hU X.K H b<|k.map V.n):(hW X.p X.w).is s.heap k b:=by
 obtain⟨g,a,⟨o,e,c,n,D⟩,_⟩:=I.tuple h;exact⟨o,g.toArray,n,e,c,D,FM a⟩
theorem tb0{b:Bool}:Tb (.fresh 0 0 b) []:=⟨.inl rfl,rfl,λi j a b h=>by simp[XM]at*,λi j h=>by simp[XM]at h,rfl,by show 0*5<7*3;decide,λi h j c=>by simp at c⟩
theorem sO:∀a:a0p,ay (a.map λz=>V.r z.2)<|a.map λk=>Ny k.2
 |[]=> .nil
 |_::a=> .cons rfl<|sO a
theorem Iz:Y4 X (newSet<|.type "set") λD=>nu X.p X.w D []:=λa s c H E Q I h=>by
 unfold newSet setsByText;refine MY<|MY<|SE<|M1 ?_
 dsimp only
 simp only[newObj];refine MY<|wpAny_alloc<|M1<|h _ (I.laid (t':=s.toks) (λ_ _ q=>M4 _ q) (Nh _)<|xv ?_) λb o e=>M4 _ e;exact⟨_,#[],0,_,NA _ rfl,⟨rfl,rfl,rfl⟩,rfl,rfl,.nil,tb0,rfl,rfl⟩
def El(P:NY)(w:N6)(K:ND)(D:M6)(d:TE):TB:=λc H Q=>d c H λv E=>∃g k b,E D=My (nu P w D g)/\v= .r b/\hU K E b (k.map V.n)/\(∀x∈g,hU K E x.2<|x.1.map V.n)/\Uc g<76/\
 ∀a,(k∈g.map (·.1)->a=g)->(k∉g.map (·.1)->a.Perm ((k,b)::g))->Q c (upd E D<|nu P w D a)
theorem vP{D:M6}(p:X.A.units+1<Uy)(J:z[d+1]?=M0)(L:PE X elt te)(j:X.xe=λ_ _=>False):PB X (.S elt) z scope pos d D (El X.p X.w X.K D te):=by
 intro a s y H Q I h k Q' E' N;unfold iG;rw[J];show Nu _ _ ((do let v <-OS elt X.e;Sg elt.pos;let _ <-RO (.builtin "set.add") [.ref D,v])>>=λ_=>k) _ _ _
 have c:=L a s y H _ I h;rw[j]at c;refine MY<|MY<|Od c (λu g l=>?_) λ_ _ f=>f.elim;obtain⟨v,H1,i,r,E,O,b,B,rfl,C,G,hn,q⟩:=l;cases r;have S:sI X.p X.w D E g.heap:=(i.hok D _ B).1;have P:sH X.p X.w g.heap D E:=S.to λx h=>oq i<|G x h;obtain⟨o,M,V,t,R,T,_⟩:=S;refine MY<|Pg<|MY<|Ot F.slot_set_add ⟨o,R,T.1⟩ F.entry_set_add ?_<|F.args_set_add_2 _ _;unfold Builtin.«set.add» Builtin.Frozenset.oneOther;simp only[List.isEmpty_nil,bind_assoc];unfold Builtin.Frozenset.addrOf setAdd;refine MY<|M1 ?_
 try dsimp only
 refine MY<|M1 ?_
 try dsimp only
 refine MY<|O0<|MY<|(hW X.p X.w).pyHash p (oq i C) ?_;refine Lg (s:={g with toks:=g.toks+(hW X.p X.w).draws O}) p P (oq (s:=g) i C) hn λh' m sb U c1 c2=>?_;show Nu _ _ (ret Ov) _ _ _;refine M1 ⟨_,rfl,M1<|N _ y _ (i.write (by rw[B];trivial) (.inl rfl) (λb u n e=>(sb.2 b n).trans e) ?_<|xv ?_)<|q m c1 c2⟩
 all_goals obtain⟨o,M,V,t,c,l,W,Y,h5,G,Z⟩:=U
 .exact⟨o,c⟩
 .exact⟨o,M,V,t,c,l,W,Y,h5,Z⟩
def l8(b:M6->HO)(w:a0g)(E:a0a)(c:TI)(lp:M6->It->TB):TE:=λa H Q=>c a H λJ g=>∀D,g D=M0->lp D J (kS w E a) (upd g D<|b D) λ_ d=>Q (.r D) d
theorem Id{d a b:Expr}{f:List Expr}{G:a0S}{E:Scope}{K:RV}{j z:a0g}{bt:a0a}{g:TG}{tt:TT}{o:a0Y}{p:TI}(r:X.calm=M3)(S:cy X E j z bt)(t:PI X a b p)
  (u:∀(M:a0j) (C:M6) (k:a0n) (s:Na) (H:Hp),PG (aE X j E M C k s H) a g/\dP (aE X j E M C k s H) f tt/\∀D,PB (aE X j E M C k s H) (.S d) (⟨a,b,f,0⟩::G) E K 0 D<|o D)
  (hs:∀x,Oj b X.e x=Ps x:=by intro _;rfl):PE X (.SetComp d (⟨a,b,f,0⟩::G) E K) (l8 (λD=>nu X.p X.w D []) z bt p λD J=>dj J g tt<|o D):=by
 intro i s y H Q I h;refine QG (use:=M0) rfl hs (S.clo I.ok) S.kind S.p3<|Od (t i s y H _ I h) (λv W B=>Od B (λF Y L=>?_) λ_ _ x=>x) λ_ _ x=>x;obtain⟨it,k,Z,J,H2,e,N,T,l,f2,q⟩:=L;subst e;refine iF (c:= .S d) Iz (RR:=λV C=>WR (NK X.p X.w) X.A X.xe M0 _ V C) r S u N T l f2 q λD C s' O m P ns R U=>?_;exact⟨m,ns,λh' n=>⟨.r D,O,P.letgo R n,rfl,U⟩⟩
def xz(P:NY)(w:N6)(K:ND):a0i->Hp->VK->Prop:=λD H Q=>∃a g,D=[.r a]/\H a=My (nu P w a g)/\(∀x∈g,hU K H x.2 (x.1.map V.n)/\1<=Uc x.1)/\Uc g<77/\
 ∀(l:M6) (b:a0p),H l=M0->b.Perm g->Up (b.map (·.1))->Q (.r l) (upd H l<|.l<|b.map λz=>V.r z.2)
theorem w9(d:X.calm=M3):dM X (.builtin "sorted") (xz X.p X.w X.K):=by
 intro c s i H v y Q I r h;obtain⟨a,M,rfl,m,E,n,q⟩:=h;obtain⟨u,rfl,rfl⟩:=jM r;have S:sI X.p X.w a M s.heap:=(I.hok a _ m).1;refine yJ (I.ok.hd d) (S.to λx h=>oq I (E x h).1) (λx h=>(E x h).2) n λl A e f b p t g G D j=>?_;refine⟨.r l,_,I.laid (t':=e) (o:= .l<|b.map λz=>V.r z.2) D G ⟨?_,b.map λk=>Ny k.2,f,?_,g⟩,rfl,q l b (I.hok.fresh G) p t⟩
 .rw[MZ,p.length_eq,P0];lia
 .exact sO b
end
end L2.Hs
namespace L2.Pu
open L2.Hs
def iE(E:Nat)(G:a0a)(K:FL)(M:ky)(S:a0m)(b:FL)(a:a0e->a0k):FD:=λD V=>match K D V with
 |none=>M0
 |some (.error C,β1)=>My (.error C,β1)
 |some (.ok ds,β1)=>match ko M S b ds (io E G D) β1 with
  |some (.ok os,β2)=>(a os).map λd=>(.ok d,β2)
  |_=>M0
section
variable{K:ND}{E:a0r}
theorem sR{R:AR}{p:M6->HO}{c:a0e->a0k}{V:a0g}{s:a0a}{it:FL}{g:TG}{S:ky}{tt:a0m}{N:a0Y}{b:FL}(W:cF K g S)(X:dO S)(Y:∀D,fK K R D (N D) b)
  (r0:∀F H D,R.R F (upd H D<|p D) D []) (hp:∀os d,c os=My d->R.Z os) {O:St} {H:Hp} {Q P:VK} (h:tV K (iE (Uc V) s it S tt b c) E O H P)
  (k:∀F B f D os d,Fr F B f->¬F.A D->R.R F B D os->c os=My d->(∀v j,To F B j f->b_ K F j d v->P v j)->Q (.r D) B):
  l8 p V s (iV K it E) (λD J=>dj J g (gt K tt E0)<|N D) O H Q:=by
 obtain⟨F,δ,β,fr,T,r,f,e,h⟩:=h;unfold iE at e;refine⟨F,δ,β,fr,T,?_⟩;split at e
 .cases e
 .rename_i C β1 q
  cases e;exact⟨.error C,_,q,h⟩
 .rename_i ds β1 q
  split at e
  .rename_i os β2 q2
   cases G:c os with
   |none=>rw[G]at e;cases e
   |some d=>
    rw[G]at e;cases e;refine⟨.ok ds,β1,q,λJ M t hJ D m=>?_⟩;have i:¬F.A D:=t.fr.fresh m;have nb:∀b l,F.bg=My (b,l)->D≠b/\D≠l:=λb l z=>⟨λw=>i<|w▸(fr.bgA b l z).1,λw=>i<|w▸(fr.bgA b l z).2.1⟩;have t2:=t.fr.upd (p D) m;have I:Fr ⟨λa=>F.A a\/a=D,F.bg⟩ (upd M D<|p D) β1:=by
     refine⟨λa ha z=>?_,λb l z=>let ⟨x,y,w⟩:=fr.bgA b l z;⟨.inl x,.inl y,w⟩,t2.fr.bag⟩
     rcases ha with ha|ha
     .exact t2.fr.occ a ha z
     .subst ha;rw[aq]at z;cases z
    have u:Tr F M ⟨λa=>F.A a\/a=D,F.bg⟩ (upd M D<|p D):=⟨λa ha hs z=>by
     rcases z with z|z
     .exact ha z
     .subst z;exact hs m,λa o ha z=>by rw[bb<|bw z m];exact z,rfl⟩
    refine oj (R:=R) (D:=D) (as:=[]) (os:=os) W X (Y D) I (.inr rfl) nb (rb<|T.tr<|(t.tr fr).trans u) (r0 _ _ _) (hJ.tr u) q2 (hp os d G) λaa j t3 ab L=>?_;have U:To F M j f:=by
     refine⟨λa o z n=>t3.kp a o (by rw[bb<|bw z m];exact z) (bw z m) n,λa ha z=>t3.fr.occ a (PP ha) z,fr.bgA,t3.fr.bag⟩
    exact k F j f D os d U.fr i (R.tr (F:=⟨λa=>F.A a\/a=D,F.bg⟩) L (λ_ z=>z) ⟨λa ha _ z=>ha<|PP z,λa o _ z=>z,rfl⟩) G λv H3 t4 hv=>h v H3 ((t.trans U).trans t4) hv
  .cases e
noncomputable abbrev kc(k:a0b):D:= .t<|k.map .n
theorem sr{k:a0b}(h:b_ K F H (kc k) v):∃b,v= .r b/\hU K H b (k.map V.n):=by
 obtain⟨a,E,rfl,D,c⟩:=b_.f5 h;cases ba.ints k c;exact⟨a,rfl,D⟩
theorem hG(h:kc k=kc l):k=l:=by
 injection h with h
 exact UH (λa b z=>by injection z)|>.mp h
theorem mK{D:Type} [BEq D] [LawfulBEq D]:∀{l m:List D},l.Nodup->(∀x∈l,x∈m)->Uc l<=Uc m
 |[],_,_,_=>OV _
 |a::l,m,nd,h=>by
  obtain⟨b,c⟩:=N2.mp nd;have:=mK (m:=m.erase a) c λx E=>(List.mem_erase_of_ne (λ(z:x=a)=>b<|z▸E)).mpr<|h x<|M2 a E;rw[List.length_erase_of_mem<|h a M7]at this;have:=List.length_pos_of_mem<|h a M7;rw[Np];lia
noncomputable def RS(P:NY)(w:N6)(K:ND):AR where
 R:=λF H D M=>∃E,H D=My (nu P w D E)/\(E.map (·.1)).Nodup/\(∀x∈E,b_ K F H (kc x.1) (.r x.2)/\kc x.1∈M)/\∀d∈M,∃k∈E.map (·.1),d=kc k
 Z:=λl=>∃G:LI,Uc G<76/\∀d∈l,∃k∈G,d=kc k
 tr:=λh k t=>by
  obtain⟨E,a,b,c,e⟩:=h;exact⟨E,k _ a,b,λx S=>⟨b_.tr t _ _ (c x S).1,(c x S).2⟩,e⟩
 zp:=λh=>by
  obtain⟨G,a,b⟩:=h;exact⟨G,a,λd V=>b d<|P9 _ V⟩
theorem FF{D:M6}:fK K (RS P w K) D (El P w K D<|tV K f E0) (hL f):=λF H δ β r N as os Q fr O u C R e T k=>by
 obtain⟨E,U,s,G,ha⟩:=R;obtain⟨d,aa,W,X⟩:=M.p3 e;cases X;refine⟨F,δ,β,fr,C,E0.run W λv H1 t I=>?_⟩;have A:=t.kp D _ U u;obtain⟨ks,z1,J⟩:=T;obtain⟨j,Y,rfl⟩:=J d<|Oa _ M7;obtain⟨b,rfl,sq⟩:=sr I;have c:∀x∈E,b_ K F H1 (kc x.1) (.r x.2):=λx h=>b_.tr (t.tr fr) _ _ (G x h).1;have g:Uc E<76:=by
  have:=mK (m:=ks) s λx B=>by
   obtain⟨y,hy,rfl⟩:=NE.mp B;obtain⟨l,Z,e⟩:=J _<|P9 _ (G y hy).2;rw[hG e];exact Z
  rw[MZ]at this;lia
 refine⟨E,j,b,A,rfl,sq,λx h=>?_,g,λi c1 c2=>?_⟩
 .obtain⟨b',e,q⟩:=sr<|c x h
  cases e;exact q
 have L:my F D H1 (upd H1 D<|nu P w D i) r:=by
  refine⟨λa o h n _=>by rw[bb n];exact h,λa h q=>?_,fr.bgA,λb l q=>?_⟩
  .by_cases z:a=D
   .subst z;rw[aq]at q;cases q
   .rw[bb z]at q;exact t.fr.occ a h q
  .rw[bb (u b l q).1.symm,bb (u b l q).2.symm]
   exact t.fr.bag b l q
 have S:=L.tr t.fr O;refine k N _ ((t.toD D).trans L) (C.tr<|(t.tr fr).trans S) ⟨i,aq,?_⟩;by_cases V:j∈E.map (·.1)
 .cases c1 V
  refine⟨s,λx h=>⟨b_.tr S _ _<|c x h,P9 _ (G x h).2⟩,λd hd=>?_⟩;rcases NU.mp hd with hd|hd
  .exact ha d hd
  .exact⟨j,V,NX.mp hd⟩
 .have p:=c2 V
  refine⟨(p.map (·.1)).nodup_iff.mpr<|N2.mpr ⟨V,s⟩,λx h=>?_,λd hd=>?_⟩
  .rcases Nn.mp (p.mem_iff.mp h)with rfl|h
   .exact⟨b_.tr S _ _ I,Oa _ M7⟩
   .exact⟨b_.tr S _ _<|c x h,P9 _ (G x h).2⟩
  .rcases NU.mp hd with hd|hd
   .obtain⟨k2,h2,e⟩:=ha d hd
    exact⟨k2,(p.map (·.1)).mem_iff.mpr<|M2 _ h2,e⟩
   .exact⟨j,(p.map (·.1)).mem_iff.mpr M7,NX.mp hd⟩
def M_(D:LI)(E:a0e):Prop:=Up D/\Uc D<76/\(∀k∈D,1<=Uc k/\kc k∈E)/\∀d∈E,∃k∈D,d=kc k
theorem M_.eq{D:a0e}(a:M_ d D)(b:M_ ls D):d=ls:=yz a.1 b.1 λx=>⟨λh=>by
 obtain⟨l,c,e⟩:=b.2.2.2 _ (a.2.2.1 x h).2;rw[hG e];exact c,λh=>by
 obtain⟨l,c,e⟩:=a.2.2.2 _ (b.2.2.1 x h).2;rw[hG e];exact c⟩
open Classical in
def k6(D:a0e):a0k:=if h:∃E,M_ E D then My (.l<|h.choose.map kc)else M0
theorem EM{D:LI}{E:a0e}(h:M_ D E):k6 E=My (.l<|D.map kc):=by
 have q:∃D,M_ D E:=⟨D,h⟩;unfold k6;rw[Wf q,q.choose_spec.eq h]
theorem sV{D:a0e}(h:k6 D=My d):∃E,M_ E D/\d= .l (E.map kc):=by
 unfold k6 at h;split at h
 .rename_i q
  cases h;exact⟨_,q.choose_spec,rfl⟩
 .cases h
theorem ug:∀{a:a0p},(∀z∈a,b_ K F H (kc z.1)<|.r z.2)->ba K F H ((a.map (·.1)).map kc) (a.map λz=>V.r z.2)
 |[],_=>ba.nil
 |z::a,h=>ba.cons (h z M7)<|ug λx D=>h x<|M2 z D
end
section
variable{X:Cx}{E:a0r}{ac br W:Expr}{Z:List Expr}{Y:a0S}{U:Scope}{ab p aa:RV}{Nc cx:a0g}{bt:a0a}{g:TG}{tb:a0Y}
theorem EC(c:Gl X "sorted")(hm:X.mg "sorted"=M0)(j:X.calm=M3)(S:cy X U Nc cx bt)(k:PI X br W<|iV X.K it E)
  (n:∀(V:a0j) (C:M6) (f:a0n) (s:Na) (H:Hp),PG (aE X Nc U V C f s H) br g/\dP (aE X Nc U V C f s H) Z (gt X.K tt E0)/\∀D,PB (aE X Nc U V C f s H) (.S ac) (⟨br,W,Z,0⟩::Y) U ab 0 D<|tb D)
  (o:cF X.K g tg) (r:dO tg) (t:∀D,fK X.K (RS X.p X.w X.K) D (tb D) b) (hs:∀x,Oj W X.e x=Ps x:=by intro _;rfl):
  PE X (.Call (.Name "sorted" p) [.SetComp ac (⟨br,W,Z,0⟩::Y) U ab] [] aa) (tV X.K (iE (Uc cx) bt it tg tt b k6) E):=
 (lf (w9 j) c hm (by kernel_rfl)<|b9 (Id j S k n hs) f9).imp λP H Q h=>by
  refine sR (Q:=λv H1=>xz X.p X.w X.K [v] H1 Q) o r t (λF H D=>⟨[],aq,.nil,λx G=>NH G (by simp),λd hd=>NH hd<|by simp⟩) (λos d e=>?_) h λF R u D os d fr A B e q=>?_
  .obtain⟨ks,s,_⟩:=sV e
   exact⟨ks,s.2.1,s.2.2.2⟩
  .obtain⟨ks,s,rfl⟩:=sV e
   obtain⟨xs,I,nd,G,ha⟩:=B;have i:∀x∈xs,x.1∈ks:=λx h=>by
    obtain⟨l,a,e⟩:=s.2.2.2 _ (G x h).2;rw[hG e];exact a
   have hn:Uc xs<77:=by
    have:=mK (m:=ks) nd λy M=>by
     obtain⟨x,h,rfl⟩:=NE.mp M;exact i x h
    rw[MZ]at this;have:=s.2.1;lia
   refine⟨D,xs,rfl,I,λx h=>?_,hn,λl J a pm up=>?_⟩
   .obtain⟨T,e,q⟩:=sr (G x h).1
    cases e;exact⟨q,(s.2.2.1 _<|i x h).1⟩
   .have L:ks=J.map (·.1):=yz s.1 up λy=>by
     refine⟨λM=>?_,λM=>?_⟩
     .obtain⟨k2,N,e⟩:=ha _ (s.2.2.1 y M).2
      rw[hG e];exact(pm.map (·.1)).mem_iff.mpr N
     .obtain⟨x,h,rfl⟩:=NE.mp<|(pm.map (·.1)).mem_iff.mp M
      exact i x h
    rw[L]at q;exact q _ _ (fr.upd _ a)<|b_.newL fr a<|ug λz O=>(G z<|pm.mem_iff.mp O).1
end
end L2.Pu
namespace L2.Hs
section
variable{I:NY}{w:N6}{A:Om}{E:a0d}{s:Na}
def vu(I:NY)(w:N6)(h:Op)(k:g8)(a:M6):Prop:=∃o n t b,h.get? a=My o/\o.cls= .type "tuple"/\o.data= .seq #[.int k.1 t,.ref b] n/\(hW I w).is h k.2 b
theorem vu.ty(x:vu I w s.heap k a):s.TypeIs (.ref a) "tuple":=let ⟨o,_,_,_,ho,hc,_⟩:=x;⟨o,ho,hc⟩
theorem vu.inj(s:vu I w h x a)(A:vu I w h y a):x=y:=by
 obtain⟨o,n,t,b,f,_,D,g⟩:=s;obtain⟨i,l,E,m,d,_,c,e⟩:=A;obtain rfl:o=i:=N0<|f.symm.trans d;rw[D]at c;simp only[Data.seq.injEq,Array.mk.injEq,Rf,R0.injEq,Ny.injEq]at c;obtain⟨⟨⟨j,_⟩,k,_⟩,_⟩:=c;subst k;exact Rq j<|(hW I w).inj g e
theorem KS(k:a0b):hsh I w k=hI k:=by unfold hsh hI;show tupleKeyHash _ _=_;unfold tupleKeyHash;rfl
theorem KU{k:g8}(g:A.units+1<Uy)(f:vu I w s.heap k a)(h:Q (hB M3 k) {s with toks:=s.toks+(Uc k.2+3)}):Nu (NK I w) A (pyHash<|.ref a) Q E s:=by
 have c:=f.ty;obtain⟨o,n,t,b,i,_,G,j⟩:=f;unfold pyHash
 first|unfold pyHashByItsType|skip
 refine MY<|wpAny_cRoomFor_or (.inr<|by lia) ?_;refine MY<|Q6 c F.slot_tuple_hash.lookup ?_;show Nu _ _ (if(My (Value.builtin "tuple.__hash__")==My Ov)=M3 then _ else _) Q E s;rw[Nf<|by rw[beq_builtin_none];exact Nb];refine MY<|Q6 c F.slot_tuple_hash.lookup ?_;show Nu _ _ (callSpecialIfBoundUnlessNone? (.ref a) "__hash__" _>>=_) Q E s;refine MY<|wpAny_callSpecialIfBoundUnlessNone?_slot c F.slot_tuple_hash<|Ot F.slot_tuple_hash c F.entry_tuple_hash ?_<|F.args_tuple_hash_1 _;show Nu _ _ (Builtin.Tuple.tupleItemsOf (.ref a)>>=_) _ _ s;refine MY<|Vl i G ?_;refine MY ?_;rw[<-Rt];simp only[QS,Q8];refine MY<|MY<|wpAny_pyHash_int ?_;refine M1<|MY<|MY<|(hW I w).pyHash g j ?_;refine M1<|M1 ?_;have D:Q (hB M3 k) {s with toks:=s.toks+1+(Uc k.2+1)+1}:=by
  have e:s.toks+1+(Uc k.2+1)+1=s.toks+(Uc k.2+3):=by lia
  rw[e];exact h
 refine wpAny_ret_mkInt ?_;generalize l:R8 _=z;have m:hB M3 k=reduceHash z:=by rw[<-l,show(hW I w).hash k.2=hI k.2 from KS k.2];rfl
 rw[m]at D;show Nu _ _ (if(decide (-(2:Int)^63<=z)&&decide (z<2^63))=M3 then _ else _) Q E _;unfold reduceHash at D;by_cases d:(decide (-(2:Int)^63<=z)&&decide (z<2^63))=M3
 .rw[Ng d]
  rw[Ng d]at D;exact M1 D
 .rw[Nf d]
  rw[Nf d]at D;exact MY<|PL<|M1 D
theorem Z3(o:A.units+1<Uy)(D:vu I w s.heap x a)(G:vu I w s.heap y b)(h:Q (decide (x=y)) s):Nu (NK I w) A (eqBool (.ref a)<|.ref b) Q E s:=by
 unfold eqBool
 try with_reducible refine O0 ?_
 show Nu _ _ (if(Ny a==Ny b)=M3 then _ else _) Q E s;by_cases c:(Ny a==Ny b)=M3
 .rw[Ng c]
  have e:a=b:=by have:=eq_of_beq c;injection this
  subst e;obtain rfl:=D.inj G;exact MY (PL<|M1<|by simpa using h)
 .rw[Nf c]
  refine MY (wpAny_richCompare_same_room (op:= .Eq) D.ty G.ty F.slot_tuple_eq
   (Ot F.slot_tuple_eq D.ty F.entry_tuple_eq ?_<|F.args_tuple_eq_2 _ _) (by lia))
  have g:=G.ty;obtain⟨p,q,r,t,i,_,j,k⟩:=D;obtain⟨u,v,B,C,l,_,m,n⟩:=G;show Nu _ _ (Tu (.ref b) (.type "tuple")>>=_) _ _ s;refine MY<|Qr g UD ?_;simp only[P5,NF,Oy];refine MY<|Vl i j ?_;refine MY<|Vl l m ?_;refine MY ?_;simp only[SX,UY,QS,Q8];refine MY<|MY<|(Uo I w).eqBool (a:=x.1) (b:=y.1) (by simp[Uo,WM]) (by simp[Uo,WM]) ?_;by_cases d:x.1=y.1
  .rw[NC d]
   refine M1<|MY<|MY<|(hW I w).eqBool o k n ?_;by_cases f:x.2=y.2
   .rw[NC f]
    rw[NC<|Rq d f]at h;exact M1<|M1<|M1 ⟨_,rfl,(λe=>nomatch e),OT h⟩
   .rw[Ob f]
    rw[Ob (λe=>f<|OG _ e)]at h;exact MY<|M1<|M1<|M1<|M1 ⟨_,rfl,(λe=>nomatch e),OT h⟩
  .rw[Ob d]
   rw[Ob (λe=>d<|OG _ e)]at h;exact MY<|M1<|M1<|M1<|M1 ⟨_,rfl,(λe=>nomatch e),OT h⟩
theorem HS(e:(hW I w).is s.heap k a)(h:Q M3 s):Nu (NK I w) A (XR (m+1)<|.ref a) Q E s:=by
 have f:=Wk e;obtain⟨o,G,n,g,_,M,i⟩:=e;unfold XR;refine MY<|Q6 f F.slot_tuple_eq.lookup ?_;show Nu _ _ (Tu (.ref a) (.type "tuple")>>=_) _ _ s;refine MY<|Qr f UD ?_;simp only[P5,NF,Oy];refine MY<|Py g M ?_;refine MY ?_;show Nu _ _ (WT G _ _) _ _ s;rw[<-Rt];refine T9 _ (λD r K=>r.1=M0/\K=s/\∀v∈D,carriedByValue v=M3) _ ?_ ?_ _ _ ⟨rfl,rfl,i.byValue⟩
 .rintro v D r K ⟨c,rfl,b⟩
  rw[eqIsQuiet_byValue _<|b v M7];refine MY<|M1 ?_;simp only[P5,NF,Oy];exact M1 ⟨rfl,rfl,λu d=>b u<|M2 _ d⟩
 .rintro⟨r1,j⟩ K ⟨c,rfl,_⟩
  simp only at c;subst c;exact M1 h
theorem HU(c:vu I w s.heap k a)(h:Q M3 s):Nu (NK I w) A (XR 8<|.ref a) Q E s:=by
 have d:=c.ty;obtain⟨o,n,t,b,e,_,D,f⟩:=c;unfold XR;refine MY<|Q6 d F.slot_tuple_eq.lookup ?_;show Nu _ _ (Tu (.ref a) (.type "tuple")>>=_) _ _ s;refine MY<|Qr d UD ?_;simp only[P5,NF,Oy];refine MY<|Py e D ?_;refine MY ?_;show Nu _ _ (WT #[R0 k.1 t,Ny b] _ _) _ _ s;rw[<-Rt];simp only[QS,Q8];rw[eqIsQuiet_byValue _ (v:= .int k.1 t) rfl];exact MY<|MY<|M1<|M1<|MY<|MY<|HS (m:=6) f<|M1<|M1<|M1 h
def PKd(I:NY)(w:N6):HeapKind I w g8 where
 is:=vu I w
 hash:=hB M3
 draws:=λk=>Uc k.2+3
 room:=λA=>A.units+1<Uy
 inj:=λs D=>s.inj D
 keeps:=λx f E G=>by
  obtain⟨g,n,t,b,c,i,a,j⟩:=x;refine⟨g,n,t,b,(G.2 _ ?_).trans c,i,a,(hW I w).keeps j f E G⟩;rintro rfl;obtain rfl:=N0<|c.symm.trans f;rw[E]at a;exact nomatch a
 pyHash:=λd e h=>KU d e h
 eqBool:=λd s D h=>Z3 d s D h
 quiet:=λe h=>HU e h
def FKd(I:NY)(w:N6):HeapKind I w g8 where
 is:=λh k a=>k.1=0/\(hW I w).is h k.2 a
 hash:=hB M5
 draws:=λk=>Uc k.2+1
 room:=λA=>A.units+1<Uy
 inj:=λD G=>Rq (D.1.trans G.1.symm) ((hW I w).inj D.2 G.2)
 keeps:=λx f K M=>⟨x.1,(hW I w).keeps x.2 f K M⟩
 pyHash:=λc d h=>(hW I w).pyHash (Po c) d.2 h
 eqBool:=λ{A E s x y a b Q} c D G h=>(hW I w).eqBool (Po c) D.2 G.2 (by
  have e:decide (x.2=y.2)=decide (x=y):=by
   by_cases q:x.2=y.2
   .rw[NC q,NC<|Rq (D.1.trans G.1.symm) q]
   .rw[Ob q,Ob (λz=>q<|OG _ z)]
  rw[e];exact h)
 quiet:=λd h=>(hW I w).quiet d.2 h
def KB(I:NY)(w:N6):Bool->HeapKind I w g8
 |true=>PKd I w
 |false=>FKd I w
theorem xZ{b:Bool}:(KB I w b).hash=hB b:=by cases b<;>rfl
theorem xY{b:Bool}{A:Om}(h:A.units+1<Uy):(KB I w b).room A:=by cases b<;>exact h
def O2(K:ND)(H:Hp):Bool->g8->M6->Prop
 |true,k,c=>∃e,hU K H c [.n k.1,.r e]/\hU K H e (k.2.map V.n)
 |false,k,c=>k.1=0/\hU K H c (k.2.map V.n)
abbrev XY(x:g8×M6×V)(y:g8×M6×M8):Prop:=x.1=y.1/\x.2.1=y.2.1/\aT x.2.2 y.2.2
theorem rp:∀{s:a0u} {w:a0I},Vi XY s w->s.map (·.1)=w.map (·.1)
 |_,_,.nil=>rfl
 |_,_,.cons h t=>by rw[Nv,Nv,h.1,rp t]
theorem z5:∀{s:a0u} {w:a0I},Vi XY s w->∀y∈w,∃x∈s,XY x y
 |_,_,.nil,y,h=>by cases h
 |_,_,.cons (a:=a) h t,y,hy=>by
  rcases Nn.mp hy with rfl|hy
  .exact⟨a,M7,h⟩
  .obtain⟨x,hx,e⟩:=z5 t y hy
   exact⟨x,M2 _ hx,e⟩
noncomputable def J_(s:a0u)(k:g8):Option V:=(s.find? λx=>decide (x.1=k)).map (·.2.2)
theorem xb:∀{s:a0u} {w:a0I},Vi XY s w->sJ (J_ s k) ((atKey w k).map (·.2))
 |_,_,.nil=>by simp[J_,atKey,sJ]
 |_,_,.cons (a:=a) (b:=b) h t=>by
  have A:=xb (k:=k) t;unfold J_ atKey at A⊢;rw[Su,Su,<-h.1];by_cases q:a.1=k
  .rw[NC q];exact h.2.2
  .rw[Ob q];exact A
theorem xa(h:XY x y):∀{s:a0u} {w:a0I},Vi XY s w->Vi XY (s++[x]) (w++[y])
 |_,_,.nil=> .cons h .nil
 |_,_,.cons h' t=> .cons h'<|xa h t
variable{X:Cx}{ac:a0c}{z:St}{H:Hp}
theorem zk{b:Bool}(I:bx X ac z H s)(h:O2 X.K H b k c):(KB X.p X.w b).is s.heap k c:=by
 cases b with
 |true=>
  obtain⟨e,a,d⟩:=h;obtain⟨A,f,⟨o,g,i,n,D⟩,_⟩:=I.tuple a;obtain⟨j,l,rfl,⟨t,rfl⟩,rfl⟩:=yy f;exact⟨o,n,t,e,g,i,D,oq I d⟩
 |false=>exact⟨h.1,oq I h.2⟩
theorem Mm{ac:a0c}{z:St}{H:Hp}{s:Na}(I:bx X ac z H s):Vk<s.heap.objs.size:=TR (by decide) (show PZ<s.heap.objs.size from(I.mod.glob.keeps I.bk).lt)
theorem Ed{b:Bool}(I:bx X ac z H s)(d:H a=My (eP a b p n))(e:∀x∈n,O2 X.K H b x.1 x.2.1):∃A,s.heap.DictOfH (KB X.p X.w b) a A/\Vi XY n A/\Uc A<=Nw/\(a==Vk)=M5:=by
 obtain⟨o,D,A,f,g,h,i,h5,j,k,c⟩:zX a b p n s.heap:=(I.hok a _ d).1;refine⟨A,⟨o,D,p,f,g,h,?_,λy E=>?_,h5⟩,c,k,j⟩
 .rw[i];unfold entryOfKey;rw[xZ]
 .obtain⟨x,hx,l,m,_⟩:=z5 c y E
  rw[<-l,<-m];exact zk I<|e x hx
def JM(K:ND):R2:=λx y H Q=>∃a b w s k c v,x= .r a/\y= .r c/\H a=My (eP a b w s)/\(∀x∈s,O2 K H b x.1 x.2.1)/\O2 K H b k c/\J_ s k=My v/\Q v H
theorem CU(l:X.A.units+2<Uy):vr X (JM X.K):=by
 intro g i ac s z H x y v u Q I m n h w;obtain⟨a,b,G,M,k,c,o,rfl,rfl,t,B,C,J,q⟩:=h;cases m;cases n;obtain⟨D,d,p,_,_⟩:=Ed I t B;have f:=xb (k:=k) p;rw[J]at f;cases e:atKey D k with
 |none=>rw[e]at f;exact f.elim
 |some r=>
  rw[e]at f;exact Uq (x:=r.2) d.typeIs PySem.F.slot_dict_getitem.lookup (wpAny_getItem_heap (Q:=λj E=>j=r.2/\EP X ac z Q j E) (xY l) (zk I C) d e ⟨rfl,o,H,I.tok _,f,q⟩) w
theorem vW{b:Bool}:Y4 X newDict λD=>eP D b 0 []:=λac s z H E Q I h=>OH<|h _ (I.laid (t':=s.toks) (λ_ _ q=>M4 _ q) (Nh _)<|yh ⟨_,#[],[],NA _ rfl,⟨rfl,rfl,rfl⟩,rfl,rfl,.nil,beq_eq_false_iff_ne.mpr<|Ne.symm<|Og<|Mm I,OV _,.nil⟩) λb o e=>M4 _ e
def Em(K:ND)(b:Bool)(D:M6)(e f:TE):TB:=λz H Q=>e z H λx w=>f z w λy a=>∃A s k c,x= .r c/\a D=My (eP D b A s)/\(∀x∈s,O2 K a b x.1 x.2.1)/\O2 K a b k c/\k∉s.map (·.1)/\Uc s<Nw/\∀d,Q z<|upd a D<|eP D b d<|s++[(k,c,y)]
theorem li{D:M6}{b:Bool}(L:X.A.units+1<Uy)(N:gens[d+1]?=M0)(O:PE X ke tk)(P:PE X ve tv)(a:X.xe=λ_ _=>False):PB X (.D ke ve) gens scope pos d D (Em X.K b D tk tv):=by
 intro ac s z H Q I h k Q' E' R;unfold iG;rw[N];show Nu _ _ (YV (.D ke ve) (.ref D) X.e>>=λ_=>k) _ _ _;unfold YV;have t:=O ac s z H _ I h;rw[a]at t;refine MY<|MY<|Od t (λu T U=>?_) λ_ _ f=>f.elim;obtain⟨v,G,W,r,M⟩:=U;have B:=P ac T z G _ W M;rw[a]at B;refine MY<|O0<|Od B (λu2 s2 Y=>?_) λ_ _ f=>f.elim;obtain⟨v2,H2,i,Z,S,V,j,c,rfl,C,hx,hc,hn,hl,q⟩:=Y;cases r;obtain⟨w,dd,p,hz,l⟩:=Ed i C hx;have F:=rp p;have e0:atKey w j=M0:=by
  cases e:atKey w j with
  |none=>rfl
  |some r=>
   exfalso
   unfold atKey at e;cases m:w.find? (λx=>decide (x.1=j))with
   |none=>rw[m]at e;cases e
   |some y=>
    have:=List.find?_some m;exact hn (by rw[F];exact NE.mpr ⟨y,VY m,Ph this⟩)
 refine MY<|Pg<|O0<|wpAny_dictSet_heap (xY L) (zk i hc) dd (λh' E sb=>?_) hz;rw[storedH_new e0]at E;obtain⟨o,es,ep,J,g2,g3,g4,g5,g6⟩:=E;have g:Uc w=Uc V:=by rw[<-MZ (f:=(·.1)),<-F,MZ]
 refine R _ z _ (i.write (by rw[C];trivial) (.inl rfl) (λb u n e=>(sb.2 b n).trans e) ⟨o,J⟩<|yh ⟨o,es,_,J,g2,g3,?_,g6,l,?_,xa ⟨rfl,rfl,Z⟩ p⟩)<|q ep
 .rw[g4];unfold entryOfKey;rw[xZ]
 .rw[Ni,g,N5];lia
theorem Fb{b:Bool}{k l a d:Expr}{f:List Expr}{G:a0S}{E:Scope}{K:RV}{i cx:a0g}{bt:a0a}{g:TG}{tt:TT}{p:a0Y}{r:TI}(t:X.calm=M3)(S:cy X E i cx bt)(u:PI X a d r)
  (y:∀(M:a0j) (C:M6) (j:a0n) (s:Na) (H:Hp),PG (aE X i E M C j s H) a g/\dP (aE X i E M C j s H) f tt/\∀D,PB (aE X i E M C j s H) (.D k l) (⟨a,d,f,0⟩::G) E K 0 D<|p D)
  (hs:∀x,Oj d X.e x=Ps x:=by intro _;rfl):PE X (.DictComp k l (⟨a,d,f,0⟩::G) E K) (l8 (λD=>eP D b 0 []) cx bt r λD J=>dj J g tt<|p D):=by
 intro ac s z H Q I h;refine QG (use:=M0) rfl hs (S.clo I.ok) S.kind S.p3<|Od (u ac s z H _ I h) (λv W B=>Od B (λF Y L=>?_) λ_ _ x=>x) λ_ _ x=>x;obtain⟨it,j,Z,J,H2,e,N,T,n,f2,q⟩:=L;subst e;refine iF (c:= .D k l) vW (RR:=λV C=>WR (NK X.p X.w) X.A X.xe M0 _ V C) t S y N T n f2 q λD C s' O m P ns R U=>?_;exact⟨m,ns,λh' o=>⟨.r D,O,P.letgo R o,rfl,U⟩⟩
end
end L2.Hs
namespace L2.Pu
open L2.Hs
def dK:Bool->g8->D
 |true,k=> .t [.n k.1,kc k.2]
 |false,k=>kc k.2
def t_(b:Bool)(k:g8):Prop:=b=M5->k.1=0
theorem Lc{b:Bool}(a:t_ b k)(c:t_ b l)(h:dK b k=dK b l):k=l:=by
 cases b with
 |true=>
  simp only[dK,D.t.injEq,Rf,D.n.injEq,and_true]at h;exact Rq h.1<|hG<|OG D.t h.2
 |false=>exact Rq ((a rfl).trans (c rfl).symm)<|hG h
section
variable{K:ND}{F:Fx}{H:Hp}{E:a0r}
theorem wI(h:b_ K F H (.t b) v):∃a D,v= .r a/\TQ K F H a D/\ba K F H b D:=by
 unfold b_ at h;exact h
theorem pV(h:TQ K F H a b)(D:ba K F H c b):b_ K F H (.t c) (.r a):=by
 unfold b_;exact⟨a,b,rfl,h,D⟩
theorem TQ.sq(h:TQ K F H c a):hU K H c a:=h.imp (·.2) id
theorem ig.s{b:Bool}(h:ig K F H b k c):O2 K H b k c:=by
 cases b with
 |true=>
  obtain⟨e,a,d⟩:=h;exact⟨e,a.sq,d.sq⟩
 |false=>exact⟨h.1,h.2.sq⟩
theorem ig.z{b:Bool}(h:ig K F H b k c):t_ b k:=λe=>by subst e;exact h.1
theorem G1{b:Bool}(g:t_ b k)(h:b_ K F H (dK b k) v):∃c,v= .r c/\ig K F H b k c:=by
 cases b with
 |true=>
  obtain⟨a,D,rfl,q,d⟩:=wI h;obtain⟨i,j,rfl,E,G⟩:=ba.two d;cases E.int;obtain⟨e,S,rfl,M,f⟩:=wI G;cases ba.ints k.2 f;exact⟨a,rfl,e,q,M⟩
 |false=>
  obtain⟨a,D,rfl,q,d⟩:=wI h;cases ba.ints k.2 d;exact⟨a,rfl,g rfl,q⟩
theorem LX{b:Bool}(h:ig K F H b k c):b_ K F H (dK b k) (.r c):=by
 cases b with
 |true=>
  obtain⟨e,a,d⟩:=h;exact pV a<|ba.cons rfl<|ba.cons (pV d<|ba.ofInts k.2) ba.nil
 |false=>exact pV h.2<|ba.ofInts k.2
abbrev s_(b:Bool)(p:g8×D):D:= .t [dK b p.1,p.2]
def Dk(b:Bool)(E:List<|g8×D)(F:a0e):Prop:=F=E.map (s_ b)/\(E.map (·.1)).Nodup/\Uc E<=Nw/\∀p∈E,t_ b p.1
theorem Il{b:Bool}{p q:g8×D}(a:t_ b p.1)(c:t_ b q.1)(h:s_ b p=s_ b q):p=q:=by
 simp only[s_,D.t.injEq,Rf,and_true]at h;exact Rq (Lc a c h.1) h.2
theorem lj{b:Bool}:∀{l m:List (g8×D)},(∀p∈l,t_ b p.1)->(∀p∈m,t_ b p.1)->l.map (s_ b)=m.map (s_ b)->l=m
 |[],[],_,_,_=>rfl
 |[],_::_,_,_,h=>by cases h
 |_::_,[],_,_,h=>by cases h
 |p::l,q::m,hl,hm,h=>by
  rw[Nv,Nv,Rf]at h;rw[Il (hl p M7) (hm q M7) h.1,lj (λx E=>hl x<|M2 _ E) (λx E=>hm x<|M2 _ E) h.2]
theorem Dk.eq{b:Bool}{D:a0e}(x:Dk b l D)(y:Dk b m D):l=m:=lj x.2.2.2 y.2.2.2<|x.1.symm.trans y.1
open Classical in
def lM(b:Bool)(E:a0e):a0k:=if h:∃D,Dk b D E then My (.dct b (h.choose.map (·.1))<|h.choose.map (·.2))else M0
theorem yi{b:Bool}{kvs:List (g8×D)}{E:a0e}(h:Dk b kvs E):lM b E=My (.dct b (kvs.map (·.1))<|kvs.map (·.2)):=by
 have q:∃kvs,Dk b kvs E:=⟨kvs,h⟩;unfold lM;rw[Wf q,q.choose_spec.eq h]
theorem wK{b:Bool}{E:a0e}(h:lM b E=My d):∃D,Dk b D E/\d= .dct b (D.map (·.1)) (D.map (·.2)):=by
 unfold lM at h;split at h
 .rename_i q
  cases h;exact⟨_,q.choose_spec,rfl⟩
 .cases h
noncomputable def RD(K:ND)(b:Bool):AR where
 R:=λF H D S=>∃M,∃a:List<|(g8×Pu.D)×M6×V,S=a.map (λz=>s_ b z.1)/\H D=My (eP D b M<|a.map λz=>(z.1.1,z.2))/\∀z∈a,ig K F H b z.1.1 z.2.1/\b_ K F H z.1.2 z.2.2
 Z:=λl=>∃G E,Dk b G (l++E)
 tr:=λh k t=>by
  obtain⟨M,a,e,f,c⟩:=h;exact⟨M,a,e,k _ f,λz d=>⟨(c z d).1.tr t,b_.tr t _ _ (c z d).2⟩⟩
 zp:=λh=>by
  obtain⟨G,E,h⟩:=h;exact⟨G,_,by rw[<-Nm];exact h⟩
def Gg(f g:FD):FL:=λD=>M.v (f D) λk=>M.v (g D) λv=>M.f5 [.t [k,v]]
theorem pk{b:Bool}{D:M6}:fK K (RD K b) D (Em K b D (tV K f E0)<|tV K g E0) (Gg f g):=λF H δ β A σ as os Q fr hA y B hR e hz k=>by
 obtain⟨ep,d,rfl,hD,S⟩:=hR;obtain⟨O,V,e1,e2⟩:=M.p3 e;obtain⟨P,ab,e3,e4⟩:=M.p3 e2;cases e4;obtain⟨E,aa,C,R,z3,T⟩:=hz;have I:∀p∈d.map (·.1),t_ b p.1:=λp m=>by
  obtain⟨z,h,rfl⟩:=NE.mp m;exact(S z h).1.z
 have J:Uc d<Uc E:=by
  have:=OG Uc C;simp at this;lia
 have ez:(d.map (·.1)).map (s_ b)=(E.take<|Uc d).map (s_ b):=by
  rw[UB,<-C,Nm,Vh (by simp),OZ (by simp),No];rfl
 have ek:=lj I (λp m=>T p<|OX m) ez;have el:s_ b E[Uc d]= .t [O,P]:=by
  have U:(E.map<|s_ b)[Uc d]?=My (.t [O,P]):=by
   rw[<-C,Nm,OE<|by simp];simp
  rw[Nk,M9 J]at U;exact N0 U
 have r:=T _<|OC J;generalize m:E[Uc d]=p at el r;obtain⟨j,vv⟩:=p;simp only[s_,Pu.D.t.injEq,Rf,and_true]at el;obtain⟨rfl,rfl⟩:=el;have u:j∉d.map (·.1.1):=λhm=>by
  have h2:E.take (Uc d)++(j,vv)::E.drop (Uc d+1)=E:=by
   rw[<-m,<-Ox J,NV]
  rw[<-h2,<-ek,Of,Nv,QY]at R;refine R.2.2 j ?_ j M7 rfl;rw[No];exact hm
 refine⟨F,δ,β,fr,B,E0.run e1 λv H1 t hv=>⟨F,δ,V,t.fr,B.tr<|t.tr fr,E0.run e3 λW X t2 L=>?_⟩⟩;have N:=b_.tr (t2.tr t.fr) _ _ hv;obtain⟨c,rfl,Y⟩:=G1 r N;have i:=(t.tr fr).trans<|t2.tr t.fr;refine⟨ep,_,j,c,rfl,t2.kp D _ (t.kp D _ hD y) y,λx h=>?_,Y.s,?_,?_,λw=>?_⟩
 .obtain⟨z,h',rfl⟩:=NE.mp h
  exact((S z h').1.tr i).s
 .rw[No];exact u
 .rw[MZ];lia
 have Z:my F D X (upd X D<|eP D b w<|(d.map λz=>(z.1.1,z.2))++[(j,c,W)]) A:=by
  refine⟨λa o h n _=>by rw[bb n];exact h,λa h q=>?_,fr.bgA,λb l q=>?_⟩
  .by_cases z:a=D
   .subst z;rw[aq]at q;cases q
   .rw[bb z]at q;exact t2.fr.occ a h q
  .rw[bb (y b l q).1.symm,bb (y b l q).2.symm]
   exact t2.fr.bag b l q
 have G:=Z.tr t2.fr hA;refine k σ _ (((t.trans t2).toD D).trans Z) (B.tr<|i.trans G) ⟨w,d++[((j,vv),c,W)],by rw[Of];rfl,by rw[Of];exact aq,λz h=>?_⟩;rcases NU.mp h with h|h
 .exact⟨(S z h).1.tr<|i.trans G,b_.tr (i.trans G) _ _ (S z h).2⟩
 .cases NX.mp h
  exact⟨Y.tr G,b_.tr G _ _ L⟩
theorem wJ{F:Fx}{H:Hp}{E:Type}{f:E->D}{g:E->V}:∀{a:List E},(∀z∈a,b_ K F H (f z)<|g z)->ba K F H (a.map f) (a.map g)
 |[],_=>ba.nil
 |z::a,h=>ba.cons (h z M7)<|wJ λx G=>h x<|M2 z G
end
theorem wH{K:ND}{E:a0r}{kb:Bool}{S:a0g}{V:a0a}{g:TG}{c:a0Y}{v:FL}{M:ky}{w:a0m}{b:FL}(i:cF K g M)(j:dO M)(k:∀D,fK K (RD K kb) D (c D) b){f:St}{H:Hp}{Q:VK}(h:tV K (iE (Uc S) V v M w b<|lM kb) E f H Q):
  l8 (λD=>eP D kb 0 []) S V (iV K v E) (λD J=>dj J g (gt K w E0)<|c D) f H Q:=by
 refine sR i j k (λF H D=>⟨0,[],rfl,aq,λx G=>NH G<|by simp⟩) (λy d e=>?_) h λF u l D y d fr a m e q=>?_
 .obtain⟨kvs,s,_⟩:=wK e
  exact⟨kvs,[],by rw[NW];exact s⟩
 .obtain⟨kvs,s,rfl⟩:=wK e
  obtain⟨A,n,rfl,o,G⟩:=m;have r:kvs=n.map (·.1):=lj s.2.2.2 (λp t=>by
   obtain⟨z,h,rfl⟩:=NE.mp t;exact(G z h).1.z) (by rw[<-s.1,No];rfl)
  refine q _ _ (To.refl fr) ?_;unfold b_;subst r;refine⟨D,A,_,rfl,⟨a,o⟩,by simp,λx h=>?_,?_⟩
  .obtain⟨z,h',rfl⟩:=NE.mp h
   exact(G z h').1
  .rw[No,No]
   exact wJ λz h=>(G z h).2
section
variable{X:Cx}{E:a0r}{A w t m:Expr}{p:List Expr}{n:a0S}{l:Scope}{q:RV}{u B:a0g}{I:a0a}{g:TG}{z:a0Y}
theorem HA{kb:Bool}(c:X.calm=M3)(S:cy X l u B I)(d:PI X t m<|iV X.K r E)
  (e:∀(G:a0j) (C:M6) (a:a0n) (s:Na) (H:Hp),PG (aE X u l G C a s H) t g/\dP (aE X u l G C a s H) p (gt X.K v E0)/\∀D,PB (aE X u l G C a s H) (.D A w) (⟨t,m,p,0⟩::n) l q 0 D<|z D)
  (f:cF X.K g o) (i:dO o) (j:∀D,fK X.K (RD X.K kb) D (z D) b) (M:∀x,Oj m X.e x=Ps x:=by intro _;rfl):
  PE X (.DictComp A w (⟨t,m,p,0⟩::n) l q) (tV X.K (iE (Uc B) I r o v b<|lM kb) E):=
 (Fb (b:=kb) c S d e M).imp λk H Q h=>wH f i j h
noncomputable def iI:a0e->Option a0b
 |[]=>My []
 | .n i::r=>(iI r).map (i::·)
 |_=>M0
def rR:Bool->D->Option g8
 |false,.t ds=>(iI ds).map λl=>(0,l)
 |true,.t [.n i,.t ds]=>(iI ds).map λl=>(i,l)
 |_,_=>M0
theorem rB:∀(l:a0b),iI (l.map .n)=My l
 |[]=>rfl
 |i::l=>by show(iI<|l.map .n).map _=_;rw[rB l];rfl
theorem lg:∀{n:a0e} {l:a0b},iI n=My l->n=l.map .n
 |[],l,h=>by cases h;rfl
 | .n i::r,l,h=>by
  have g:(iI r).map (i::·)=My l:=h;cases q:iI r with
  |none=>rw[q]at g;cases g
  |some m=>rw[q]at g;cases g;rw[lg q];rfl
 | .o::_,_,h=>by cases h
 | .c _::_,_,h=>by cases h
 | .q _::_,_,h=>by cases h
 | .ty _::_,_,h=>by cases h
 | .txt::_,_,h=>by cases h
 | .l _::_,_,h=>by cases h
 | .t _::_,_,h=>by cases h
 | .scr _::_,_,h=>by cases h
 | .obj _ _ _::_,_,h=>by cases h
 | .bag::_,_,h=>by cases h
 | .adr _::_,_,h=>by cases h
 | .dct _ _ _::_,_,h=>by cases h
theorem IE{b:Bool}(h:t_ b k):rR b (dK b k)=My k:=by
 cases b with
 |true=>show(iI _).map _=_;rw[rB];rfl
 |false=>show(iI _).map _=_;rw[rB];exact OG My<|Rq (h rfl).symm rfl
theorem FJ{b:Bool}(h:rR b d=My k):t_ b k/\d=dK b k:=by
 unfold rR at h;split at h
 .rename_i ds
  cases q:iI ds with
  |none=>rw[q]at h;cases h
  |some l=>rw[q]at h;cases h;exact⟨λ_=>rfl,by rw[lg q];rfl⟩
 .rename_i i ds
  cases q:iI ds with
  |none=>rw[q]at h;cases h
  |some l=>rw[q]at h;cases h;exact⟨λz=>(by cases z),by rw[lg q];rfl⟩
 .cases h
noncomputable def KX(g:List g8)(l:a0e)(k:g8):a0k:=((g.zip l).find? λp=>decide (p.1=k)).map (·.2)
variable{K:ND}{F:Fx}{H:Hp}
def RelD(K:ND)(F:Fx)(H:Hp):a0k->Option V->Prop
 |none,v=>v=M0
 |some d,v=>∃u,v=My u/\b_ K F H d u
theorem CL:∀{l:a0u} {g:a0e},ba K F H g (l.map (·.2.2))->RelD K F H (KX (l.map (·.1)) g k) (J_ l k)
 |[],g,_=>by unfold KX J_;rfl
 |x::l,g,h=>by
  cases g with
  |nil=>cases h
  |cons d g=>
   obtain⟨u,r,e,a,b⟩:=h;rw[Nv,Rf]at e;obtain⟨rfl,rfl⟩:=e;have m:=CL (k:=k) b;unfold KX J_ at m⊢;rw[Nv,SX,Su,Su];by_cases q:x.1=k
   .rw[NC q];exact⟨_,rfl,a⟩
   .rw[Ob q];exact m
def Gc:D->D->a0k
 | .dct b ks vs,y=>(rR b y).bind<|KX ks vs
 |_,_=>M0
theorem Mf:bq K (JM K) Gc:=λF H D Q E g d v w fr h i e k=>by
 unfold Gc at e;split at e
 .rename_i b ks vs
  cases q:rR b g with
  |none=>rw[q]at e;cases e
  |some f=>
   rw[q]at e;have j:KX ks vs f=My d:=e;obtain⟨l,rfl⟩:=FJ q;obtain⟨c,rfl,m⟩:=G1 l i;unfold b_ at h;obtain⟨a,z,A,rfl,n,rfl,o,p⟩:=h;have:=CL (k:=f) p;rw[j]at this;obtain⟨u,r,t⟩:=this;exact⟨a,b,z,A,f,c,u,rfl,rfl,n.2,λx B=>(o x B).s,m.s,r,k u H (To.refl fr) t⟩
 .cases e
variable{o e:Expr}{c:List Expr}{b a:RV}
end
end L2.Pu
namespace L2.Hs
section
variable{aa:NY}{w:N6}{A:Om}{E:a0d}{s:Na}{d z v:M6}{od:Oz}{es:Array RU}{ep i:Nat}{ok ov:M8}
theorem zQ(a:s.TypeIs (.ref d) "dict")(i:(d==Vk)=M5)(h:Q (.ref s.heap.objs.size) {s with heap:=s.heap.push {cls:= .type "dict_items",data:= .fields #[.ref d]}}):Nu (NK aa w) A (RO (.builtin "dict.items") [.ref d]) Q E s:=by
 refine Ot F.slot_dict_items a F.entry_dict_items ?_<|F.args_dict_items_1 _;unfold Builtin.«dict.items»;refine MY ?_;unfold Builtin.Dict.noArgs;refine MY<|wpAny_notOrdered_dict a ?_;show Nu _ _ (Ps d) _ _ s;refine M1 ?_;show Nu _ _ (Ve d>>=_) _ _ s;unfold Ve;rw[Nf<|by rw[i];exact Nb];exact MY<|M1<|MY<|OH<|M1 ⟨_,rfl,h⟩
theorem zr(a:s.heap.IsItemsView v d)(e:s.heap.get? d=My od)(i:od.data= .dict es ep)
  (h:Q (.ref s.heap.objs.size) {s with heap:=s.heap.push {cls:= .type "dict_itemiterator",data:= .fields #[.none,.bool M5,.ref d,.int 0 0,.int es.size 0,.int ep 0,.none,.none]}}):Nu (NK aa w) A (UO<|.ref v) Q E s:=by
 obtain⟨o,b,f,c⟩:=id a;refine TM a.typeIs Xh<|Ot Xh a.typeIs F.entry_dict_items_iter ?_<|F.args_dict_items_iter_1 _;unfold Builtin.«dict_items.__iter__»;refine MY<|M1<|MY ?_;unfold Builtin.Dict_items.dictOf;refine MY<|OL b c (x:= .ref d) rfl<|M1<|MY ?_;unfold Builtin.Dict_items.newIterator;refine MY<|VP e i<|MY<|Wp e i ?_;simp only[show Rp "dict_itemiterator"=M3 from by decide,Ol];refine OH (M1 ⟨_,rfl,"dict_itemiterator",_,⟨_,NA _ rfl,rfl⟩,Pr.lookup,?_⟩)
  (by simp only[sizeOk,SZ,NG,Ni,Np,Rv,P0];lia)
 simpa[Rc,SZ]using h
theorem zo(a:Tl s.heap z d i es.size ep ok ov)(h:Q (.ref z) s):Nu (NK aa w) A (UO<|.ref z) Q E s:=by
 have c:s.TypeIs (.ref z) "dict_itemiterator":=⟨_,a,rfl⟩;refine TM c VR<|Ot VR c (b:=Builtin.«dict_keyiterator.__iter__») (WS (id':="dict_keyiterator.__iter__") (by kernel_rfl) rfl (by decide +kernel)<|by kernel_rfl) ?_<|F.args_dict_itemiterator_iter_1 _;show Nu _ _ (ret<|.ref z) _ _ s;exact M1 ⟨_,rfl,"dict_itemiterator",_,c,Pr.lookup,h⟩
theorem zq{e:RU}(m:Tl s.heap z d i es.size ep ok ov)(Y:s.heap.get? d=My od)(M:od.data= .dict es ep)(G:es[i]?=My e)
  (Z:∀v,IsItemIterOut v z d (i+1) es.size ep e.key e.val s.heap.objs.size->v.get? s.heap.objs.size=My {cls:= .type "tuple",data:= .seq #[e.key,e.val]}->v.objs.size=s.heap.objs.size+1->
   (∀b o,b≠z->s.heap.get? b=My o->v.get? b=My o)->Q (My<|.ref s.heap.objs.size) {s with heap:=v}):Nu (NK aa w) A (Sf<|.ref z) Q E s:=by
 obtain⟨n,g,R,T,D⟩:=s;have u:Shared.TypeIs ⟨n,g,R,T,D⟩ (.ref z) "dict_itemiterator":=⟨_,m,rfl⟩;have U:i<es.size:=by
  rcases U4 i es.size with h|h
  .exact h
  .simp[QI h]at G
 obtain rfl:es[i]=e:=by rw[SY U]at G;exact N0 G
 unfold Sf;refine MY<|Rb (wpAny_callSpecial?_slot (name:=Nl "__next__") u Pr
  (Ot Pr u VA ?_<|Vn _))
 refine MY<|M1<|MY<|MY ?_
 first|refine MY (QR u (M1 ?_))|refine MY (Rz u (M1 ?_))
 refine MY<|UP m rfl ?_;simp only[show Rp "dict_itemiterator"=M3 from by decide,Ol];show Nu _ _ (if(Ny d==Ov)=M3 then _ else _) _ _ _;rw[Nf (show ¬((Ny d==Ov)=M3)from Nb)];refine MY<|M1<|MY<|VP Y M ?_;rw[Nf<|by simp];refine MY<|M1<|MY<|Wp Y M ?_;rw[Nf<|by simp];refine M1 ?_;simp only[show ¬((i:Int)<0)from by lia,Oy,Pn,SY U];refine MY ?_
 first|refine MY (QR u (M1 ?_))|refine MY (Rz u (M1 ?_))
 refine MY<|Ur u ?_;show Nu _ _ (WY (.ref z) 3 (Rc<|(i:Int)+1)>>=_) _ _ ⟨n,g,R,T,D⟩;refine MY<|O3 m (by simp) λa c f=>?_
 replace f:N1 z n a:=f
 replace c:Tl a z d (i+1) es.size ep ok ov:=by
  have e:((i+1:Nat):Int)=(i:Int)+1:=by lia
  unfold Tl;rw[e];simpa[Rc]using c
 have l:Shared.TypeIs ⟨a,g,R,T,D⟩ (.ref z) "dict_itemiterator":=⟨_,c,rfl⟩;refine MY<|O0<|MY<|Ur l<|MY<|Ur l ?_;show Nu _ _ (Tj (.ref z) 6 es[i].key es[i].val) _ _ ⟨a,g,R,T,D⟩;unfold Tj;refine MY<|UR ?_;have j:Tl (a.push {cls:= .type "tuple",data:= .seq #[es[i].key,es[i].val]}) z d (i+1) es.size ep ok ov:=M4 _ c;have k:a.objs.size=n.objs.size:=f.1;have X:z≠n.objs.size:=Og<|NI m;have y:(a.push {cls:= .type "tuple",data:= .seq #[es[i].key,es[i].val]}).get? n.objs.size=My {cls:= .type "tuple",data:= .seq #[es[i].key,es[i].val]}:=by rw[<-k];exact NA _ rfl
 have B:(a.push {cls:= .type "tuple",data:= .seq #[es[i].key,es[i].val]}).objs.size=n.objs.size+1:=by rw[OD,k]
 have C:∀b o,b≠z->n.get? b=My o->(a.push {cls:= .type "tuple",data:= .seq #[es[i].key,es[i].val]}).get? b=My o:=λb o W e=>M4 _<|f.extBut b o W e;generalize a.push {cls:= .type "tuple",data:= .seq #[es[i].key,es[i].val]}=h₂ at*;show Nu _ _ (S3 (.ref z)>>=_) _ _ ⟨h₂,g,R,T,D⟩;rw[k];refine MY ?_;unfold S3;refine MY<|OL j rfl (x:= .none) rfl<|M1 ?_;simp only[Ol];refine MY<|OL j rfl (x:=ok) rfl<|MY<|OL j rfl (x:=ov) rfl ?_;refine MY<|O3 j (by simp) λp F H=>?_;refine MY<|O3 F (by simp) λq I J=>?_;refine MY<|O3 I (by simp) λr L N=>?_;refine MY<|O3 L (by simp) λt O P=>?_;have K:=((show N1 z h₂ p from H).trans (show N1 z p q from J)).trans<|(show N1 z q r from N).trans (show N1 z r t from P);exact MY<|UQ<|M1<|M1 ⟨_,rfl,M1<|Z t O (K.extBut _ _ X.symm y) (by rw[K.1,B]) λb o W e=>K.extBut b o W<|C b o W e⟩
theorem CV(g:A.handled=M0)(c:Tl s.heap z d i es.size ep ok ov)(f:s.heap.get? d=My od)(v:od.data= .dict es ep)(G:es.size<=i)
  (h:∀D,Vf z s.heap D->Q M0 {s with heap:=D}):Nu (NK aa w) A (Sf<|.ref z) Q E s:=by
 have e:s.TypeIs (.ref z) "dict_itemiterator":=⟨_,c,rfl⟩;unfold Sf;refine MY<|Rb (wpAny_callSpecial?_slot (name:=Nl "__next__") e Pr
  (Ot Pr e VA ?_<|Vn _))
 refine MY<|M1<|MY<|MY ?_
 first|refine MY (QR e (M1 ?_))|refine MY (Rz e (M1 ?_))
 refine MY<|UP c rfl ?_;simp only[show Rp "dict_itemiterator"=M3 from by decide,Ol];show Nu _ _ (if(Ny d==Ov)=M3 then _ else _) _ _ s;rw[Nf (show ¬((Ny d==Ov)=M3)from Nb)];refine MY<|M1<|MY<|VP f v ?_;rw[Nf<|by simp];refine MY<|M1<|MY<|Wp f v ?_;rw[Nf<|by simp];refine M1 ?_;simp only[show ¬((i:Int)<0)from by lia,Oy,Pn,QI G];refine MY ?_
 first|refine MY (QR e (M1 ?_))|refine MY (Rz e (M1 ?_))
 show Nu _ _ (WY (.ref z) 2 .none>>=_) _ _ s;refine MY<|Qu c rfl (by simp) ?_;show Nu _ _ (X9 (.type "StopIteration") []>>=_) _ _ _;refine MY ?_;simp only[X9,newTuple];refine MY (OH ?_<|by size_fits);refine MY (m:=Sc _ _)<|Rn (a:=Ov) (by first|rfl|(simp only[Sc];rfl)) ?_
 refine OH ?_ (by size_fits);simp only[raiseNew];refine MY<|Xx ?_;rw[show A.in1.handled=M0 from g];refine MY<|M1<|wpAny_throw ?_;refine MY<|Qr (T:="StopIteration") (b:=M3) ⟨_,NA _ rfl,rfl⟩ WU ?_;exact M1<|h _<|((OY ..).extBut.push _).push _
end
end L2.Hs
namespace L2.Hs
open PySem.SetTable
section
variable{a:NY}{w:N6}{A:Om}{E:a0d}{s:Na}
open PySem.W (kat_lt kat_cons kat_yes kat_no kat_nil kat_one)
abbrev kl(b:Bool)(k:g8):a0b:=cond b (k.1::k.2) k.2
end
section
variable{X:Cx}
end
end L2.Hs
namespace L2.Pu
section
variable{X:Cx}{E:a0r}{K:ND}{a b:Expr}{es:List Expr}{s:RV}
theorem To.none(t:To F H H1 f)(h:H1 p=M0):H p=M0:=by
 cases q:H p with
 |none=>rfl
 |some o=>
  have:H1 p=My o:=t.kp p o q λb l e=>by
   obtain⟨c,d⟩:=t.fr.bag b l e;exact⟨λw=>(by subst w;rw[c]at h;cases h),λw=>(by subst w;rw[d]at h;cases h)⟩
  rw[this]at h;cases h
noncomputable def Fx.but(F:Fx)(a:M6):Fx:=⟨λc=>F.A c\/c=a,F.bg⟩
theorem Fx.p3{F:Fx}(fr:Fr F H g)(d:H p=M0)(a:∀c o,H c=My o->H1 c=My o):Tr F H (F.but p) H1:=⟨λc e f z=>by
 rcases z with z|z
 .exact e z
 .subst z;exact f d,λc o _ h=>a c o h,rfl⟩
theorem Fx.f5{F:Fx}:Tr (F.but p) H F H:=⟨λc h _ z=>h<|PP z,λ_ _ _ h=>h,rfl⟩
def fL(K:ND)(F:Fx)(s H:Hp)(D:a0e)(v:V):Prop:=∃a b,v= .r a/\s a=M0/\H a=My (.l b)/\ba K (F.but a) H D b
def x_(K:ND)(f:FL)(E:a0r):TE:=λc H Q=>∃F a b,Fr F H b/\hY K F H a c/\run (fL K F H) F E c (f a) H Q b
def PC(K:ND)(f:Dn->M a0o)(E:a0r):TE:=λc H Q=>∃F a b,Fr F H b/\hY K F H a c/\run (iH K F H) F E c (f a) H Q b
noncomputable def YI(ds:a0e):a0x:=if Uc ds<=Nw then My ds else M0
def qE(a:a0e->a0x)(g:FL):FL:=λb=>M.v (g b) λs=>M.f<|a s
theorem fL.new(t:To F H H1 f)(d:H1 p=M0)(a:ba K F H1 g e):fL K F H (upd H1 p<|.l e) g (.r p):=
 ⟨p,e,rfl,t.none d,aq,ba.tr (Fx.p3 t.fr d λc o h=>by rw[bb<|bw h d];exact h) _ _ a⟩
def Hj(K:ND)(r:a0G)(G:a0e->a0x):Prop:=∀(F:Fx) (a H:Hp) (b:Bg) (Q:VK) (s D:a0e) (E:a0i),To F a H b->ba K F H s E->G s=My D->
 (∀v c,To F H c b->fL K F a c D v->Q v c)->r E H Q
theorem vR(i:dM X (.type T) r)(l:Hj X.K r op)(j:Gl X x)(b:X.mg x=M0)(m:Rw x=My (.type T))(D:PA X (e::es)<|h8 X.K g E)(G:x≠"__name__":=by decide)(c:b0c x:=by decide)
  (n:b0a X e es:=by rfl) (d:b0b X s es:=by rfl):PE X (.Call (.Name x p) (e::es) [] s) (x_ X.K (qE op g) E):=
 (tK i j b m D G c n d).imp λu H Q f=>ix f λF M S fr o h=>⟨F,M,S,fr,o,(run.bind (R:=ba X.K F) h).mono λV v f=>by
  obtain⟨w,a,t,y,z⟩:=f;obtain⟨A,q,k⟩:=run.p3 z;exact l F H v a Q w A V t y q k⟩
def n9:a0e->a0x
 |[.l xs]=>My xs
 |[.t xs]=>My xs
 |_=>M0
theorem xS:Hj K (λb H Q=>∃p s,b=[.r p]/\(en K H p s\/hU K H p s)/\∀l,H l=M0->Q (.r l) (upd H l<|.l s)) n9:=λF D H E Q G M S t h e k=>by
 unfold n9 at e;split at e
 .cases e
  obtain⟨v,rfl,g⟩:=ba.p3 h;obtain⟨a,b,rfl,r,d⟩:=b_.p3 g;exact⟨a,b,rfl,.inl r,λl c=>k _ _ (t.fr.upd _ c)<|fL.new t c d⟩
 .cases e
  obtain⟨v,rfl,g⟩:=ba.p3 h;obtain⟨a,b,rfl,r,d⟩:=b_.f5 g;exact⟨a,b,rfl,.inr r,λl c=>k _ _ (t.fr.upd _ c)<|fL.new t c d⟩
 .cases e
theorem ba.rep(h:ba K F H c d):∀n:Nat,ba K F H (NB n c).flatten (NB n d).flatten
 |0=>rfl
 |n+1=>by
  rw[OI,Pk,OI,Pk];exact ba.append h<|ba.rep h n
noncomputable def vI(a:a0e)(d:D):a0x:=match d with
 | .n k=>if(decide (-(2^63)<=k)&&decide (k<2^63)&&decide (Uc a<=Nw)&&decide (Uc a*k.toNat<=Nw))=M3 then My (NB k.toNat a).flatten else M0
 |_=>M0
def yZ(g:FL)(f:FD):FL:=λb=>M.v (g b) λa=>M.v (M.f<|YI a) λa=>M.v (f b) λd=>M.f<|vI a d
theorem LY(ha:PA X es<|h8 X.K g E)(L:PE X b<|tV X.K f E):PE X (.BinOp (.List es pos') .Mult b s) (x_ X.K (yZ g f) E):=
 (dR J8 (kG ha) L).imp λN H Q i=>ix i λF G β fr y r=>⟨F,G,β,fr,y,(run.bind (R:=ba X.K F) r).mono λD H1 i=>by
  obtain⟨ds,a,t,S,r1⟩:=i;obtain⟨O,j,P⟩:=run.f5 r1;unfold YI at j;split at j
  .rename_i T
   cases j;refine⟨by rw[<-S.f5];exact T,λp A=>?_⟩;have t1:=t.fr.upd (.l D) A;have B:=t.fr.fresh A;refine⟨F,G,a,t1.fr,(y.tr<|t.tr fr).tr<|t1.tr t.fr,?_⟩;obtain⟨I,V,e,h⟩:=P;have n:run (fL X.K F H) F E N (M.v (f G) λd=>M.f<|vI ds d) (upd H1 p<|.l D) Q a:=by
    refine⟨I,V,e,?_⟩;cases I with
    |ok d=>exact λv o t2=>h v o<|t1.trans t2
    |error C=>exact λo t2=>h o<|t1.trans t2
   refine(run.bind (R:=b_ X.K F) n).mono λw U i=>nS i λd aa t2 W Y=>?_;obtain⟨os,c,k⟩:=run.p3 Y;unfold vI at c;split at c
   .split at c
    .rename_i Z m
     cases c;simp only[NN,NR]at m;cases W;have u:U p=My (.l D):=t2.kp p _ aq λb l q=>⟨λz=>B<|z▸(fr.bgA b l q).1,λz=>B<|z▸(fr.bgA b l q).2.1⟩;have x:=t1.trans t2;exact⟨p,_,D,rfl,rfl,u,m.1.1.1,m.1.1.2,by rw[<-S.f5];exact m.2,λq J=>k _ _ (t2.fr.upd _ J)<|fL.new (t.trans x) J<|(ba.tr (x.tr t.fr) _ _ S).rep _⟩
    .cases c
   .cases c
  .cases j⟩
def eV(nv:Nat)(bt:a0a)(it:Dn->M (List Pu.D))(tg:ky)(s:a0m)(b:Dn->M (List Pu.D)):Dn->M (List Pu.D):=λa E=>match it a E with
 |none=>M0
 |some (.error C,β1)=>My (.error C,β1)
 |some (.ok ds,β1)=>match ko tg s b ds (io nv bt a) β1 with
  |some (.ok os,β2)=>if Uc os<=Nw then My (.ok os,β2)else M0
  |_=>M0
theorem sS{S:a0g}{V:a0a}{X:Dn->M (List Pu.D)}{g:TG}{G:ky}{tt:a0m}{v:a0Y}{b:Dn->M (List Pu.D)}(N:cF K g G)(O:dO G)(P:∀D,jf K D (v D) b){B:St}{H:Hp}{Q:VK}(h:x_ K (eV (Uc S) V X G tt b) E B H Q):
  pY S V (iV K X E) (λD J=>dj J g (gt K tt E0)<|v D) B H Q:=by
 obtain⟨F,δ,β,fr,I,r,j,e,h⟩:=h;unfold eV at e;refine⟨F,δ,β,fr,I,?_⟩;split at e
 .cases e
 .rename_i C β1 q
  cases e;exact⟨.error C,_,q,h⟩
 .rename_i ds β1 q
  split at e
  .rename_i os β2 q2
   split at e
   .rename_i T
    cases e;refine⟨.ok ds,β1,q,λJ s t U D c=>?_⟩;have d:¬F.A D:=t.fr.fresh c;have W:∀b l,F.bg=My (b,l)->D≠b/\D≠l:=λb l z=>⟨λw=>d<|w▸(fr.bgA b l z).1,λw=>d<|w▸(fr.bgA b l z).2.1⟩;have t2:=t.fr.upd (.l []) c;have k:Fr ⟨λa=>F.A a\/a=D,F.bg⟩ (upd s D<|.l []) β1:=by
     refine⟨λa ha z=>?_,λb l z=>let ⟨x,y,w⟩:=fr.bgA b l z;⟨.inl x,.inl y,w⟩,t2.fr.bag⟩
     rcases ha with ha|ha
     .exact t2.fr.occ a ha z
     .subst ha;rw[aq]at z;cases z
    have f:Tr F s ⟨λa=>F.A a\/a=D,F.bg⟩ (upd s D<|.l []):=⟨λa ha hs z=>by
     rcases z with z|z
     .exact ha z
     .subst z;exact hs c,λa o ha z=>by rw[bb<|bw z c];exact z,rfl⟩
    refine oj (R:=RL K) (D:=D) (as:=[]) (os:=os) N O (P D) k (.inr rfl) W (rb<|I.tr<|(t.tr fr).trans f) ⟨[],aq,rfl⟩ (U.tr f) q2 (show Uc os<=Nw from T) λY L t3 Z m=>?_;obtain⟨i,p,u⟩:=m;have tf:To F s L j:=by
     refine⟨λa o z n=>t3.kp a o (by rw[bb<|bw z c];exact z) (bw z c) n,λa ha z=>t3.fr.occ a (PP ha) z,fr.bgA,t3.fr.bag⟩
    exact h _ L (t.trans tf) ⟨D,i,rfl,t.none c,p,u⟩
   .cases e
  .cases e
def pI(s:ky)(E:a0m)(b:Dn->M (List<|List Pu.D)):List Pu.D->Dn->M (List<|List Pu.D)
 |[],_=>M.f5 []
 |d::ds,δ=>match s d δ with
  |none=>M.fail
  |some a=>M.v (E a) λc=>M.v (if c=M3 then b a else M.f5 []) λo=>M.v (pI s E b ds δ) λG=>M.f5<|o++G
def u_(K:ND)(F:Fx)(D:M6)(s H:Hp)(E:List<|List Pu.D)(a:a0i):Prop:=(∀c,s c≠M0->H c≠M0)/\∃b,a=b.map V.r/\(D::b).Nodup/\aU K F H (λr=>s r=M0) E b
theorem u_.mono{F:Fx}{D:M6}(g:F.A D)(i:∀b l,F.bg=My (b,l)->H0 b≠M0/\H0 l≠M0)(fr:Fr F H β)(t:my F D H H1 u)(h:u_ K F D H0 H as n):u_ K F D H0 H1 as n:=by
 obtain⟨cv,E,e,a,j⟩:=h;refine⟨λc k z=>?_,E,e,a,aU.tr (t.tr fr g) j λr G m p q=>⟨p,t.kp r _ q (λz=>?_) λb l w=>⟨λz=>?_,λz=>?_⟩⟩⟩
 .cases q:H c with
  |none=>exact cv c k q
  |some o=>
   by_cases s:c=D
   .subst s;exact t.fr.occ _ g z
   .by_cases d:∃b l,F.bg=My (b,l)/\(c=b\/c=l)
    .obtain⟨b,l,w,f⟩:=d
     rcases f with rfl|rfl
     .exact t.fr.occ _ (fr.bgA _ _ w).1 z
     .exact t.fr.occ _ (fr.bgA _ _ w).2.1 z
    .rw[t.kp c o q s λb l w=>⟨λy=>d ⟨b,l,w,.inl y⟩,λy=>d ⟨b,l,w,.inr y⟩⟩]at z
     cases z
 .subst z;exact(N2.mp a).1 m
 .subst z;exact(i _ _ w).1 p
 .subst z;exact(i _ _ w).2 p
def rj(K:ND)(D:M6)(h:TB)(f:Dn->M (List<|List Pu.D)):Prop:=∀(F:Fx) (E H:Hp) (G:Dn) (X d:Bg) (g:St) (a:a0i) (S V:List<|List Pu.D) (Q:a0F),Fr F H X->F.A D->(∀b l,F.bg=My (b,l)->D≠b/\D≠l)->(∀b l,F.bg=My (b,l)->E b≠M0/\E l≠M0)->hY K F H G g->H D=My (.l a)->u_ K F D E H S a->
 f G X=My (.ok V,d)->Uc S+Uc V<=Nw->(∀e s c,my F D H s d->hY K F s G e->s D=My (.l c)->u_ K F D E s (S++V) c->Q e s)->h g H Q
def ng(f:Dn->M (List Pu.D)):Dn->M (List<|List Pu.D):=λa=>M.v (f a) λd=>M.f5 [d]
theorem aU.snoc(p:P r)(c:H r=My (.l e))(d:ba K F H f e):∀{a:List (List Pu.D)} {b:a0n},aU K F H P a b->aU K F H P (a++[f]) (b++[r])
 |[],[],_=>⟨p,⟨e,c,d⟩,trivial⟩
 |_::_,_::_,h=>⟨h.1,h.2.1,aU.snoc p c d h.2.2⟩
 |[],_::_,h=>h.elim
 |_::_,[],h=>h.elim
theorem n6{D:M6}:rj K D (zS D<|x_ K f E0) (ng f):=λF E H δ β j W s as os Q fr m p P R T G e Y k=>by
 obtain⟨d,aa,Z,e2⟩:=M.p3 e;cases e2;refine⟨F,δ,β,fr,R,E0.run Z λv S t hv=>?_⟩;have u:=t.kp D _ T p;have w:=G.mono m P fr<|t.toD D;obtain⟨r,xs,rfl,g,n1,n2⟩:=hv;obtain⟨cv,X,A,nd,U⟩:=w;obtain⟨B,c,C,I,J⟩:=G;have i:Uc s=Uc as:=by rw[A,MZ,U.len]
 have L:c=X:=by
  have:c.map V.r=X.map V.r:=C.symm.trans A;exact UH (λa b q=>by cases q;rfl)|>.mp this
 subst L;have nD:r≠D:=λz=>by subst z;rw[T]at g;cases g
 have nr:r∉c:=λz=>by
  obtain⟨_,ys,q⟩:=J.all r z;rw[q]at g;cases g
 have N:E r=M0:=by
  cases q:E r with
  |none=>rfl
  |some o=>exact NH g (B r<|by rw[q];simp)
 refine⟨s,u,by rw[i];simp at Y;lia,?_⟩;have O:my F D S (upd S D<|.l<|s++[.r r]) j:=by
  refine⟨λa o h n _=>by rw[bb n];exact h,λa h q=>?_,fr.bgA,λb l q=>?_⟩
  .by_cases z:a=D
   .subst z;rw[aq]at q;cases q
   .rw[bb z]at q;exact t.fr.occ a h q
  .rw[bb (p b l q).1.symm,bb (p b l q).2.symm]
   exact t.fr.bag b l q
 have tt:=O.tr t.fr m;refine k W _ _ ((t.toD D).trans O) (R.tr<|(t.tr fr).trans tt) aq<|u_.mono m P t.fr O ⟨cv,c++[r],by rw[A,Of];rfl,?_,aU.snoc N n1 (ba.tr Fx.f5 _ _ n2) U⟩;rw[<-O4,QY];refine⟨I,by simp,λx hx y hy=>?_⟩;obtain rfl:y=r:=by simpa using hy
 rcases Nn.mp hx with rfl|hx
 .exact nD.symm
 .exact λz=>nr<|z▸hx
end
section
variable{X:Cx}{E:a0r}{K:ND}
theorem IC{D:M6}(hg:cF K g tg)(sg:dO tg)(hb:rj K D tb b){F:Fx}{as os:List (List Pu.D)}(fr:Fr F H β)(P:F.A D)(hn:∀b l,F.bg=My (b,l)->D≠b/\D≠l)(W:∀b l,F.bg=My (b,l)->H0 b≠M0/\H0 l≠M0)(vk:hY K F H z σ)(hD:H D=My (.l acc))(hd:u_ K F D H0 H as acc)
  (it:r4 K J F H s) (e:pI tg tt b s z β=My (.ok os,β')) (hz:Uc as+Uc os<=Nw) (k:∀f E a,my F D H E β'->hY K F E z f->E D=My (.l a)->u_ K F D H0 E (as++os) a->Q f E):dj J g (gt K tt E0) tb σ H Q:=by
 refine⟨λi m f E=>m+i=Uc s/\∃G a j r,my F D H E G/\hY K F E z f/\E D=My (.l a)/\u_ K F D H0 E j a/\pI tg tt b (s.drop i) z G=My (.ok r,β')/\j++r=as++os,
  ⟨Uc s,by lia,β,acc,as,os,⟨λ_ _ h _ _=>h,fr⟩,vk,hD,hd,e,rfl⟩,?_⟩
 rintro i m f E ⟨hm,G,a,j,r,t1,u,v,w,p,Y⟩;have Z:=t1.tr fr P;obtain⟨iy,is⟩:=it F E G Z t1.fr i;cases R:s[i]? with
 |none=>
  have T:Uc s<=i:=Ta.mp R;rw[QK T]at p;cases p;refine .inl ⟨is (by lia),k f E a t1 u v ?_⟩;rw[<-Y,NW];exact w
 |some d=>
  have T:i<Uc s:=(Nd.mp R).1;obtain⟨go,yl⟩:=iy d R;have ed:s.drop i=d::s.drop (i+1):=by
   rw[Ox T];congr 1;exact N0<|(M9 T).symm.trans R
  rw[ed]at p;unfold pI at p;cases q:tg d z with
  |none=>rw[q]at p;cases p
  |some S=>
   rw[q]at p;obtain⟨c,X,e2,e3⟩:=M.p3 p;obtain⟨o,V,U,e5⟩:=M.p3 e3;obtain⟨y,ah,e6,e7⟩:=M.p3 e5;cases e7;obtain⟨s1,s2⟩:=sg _ _ _ q;refine .inr ⟨go,λB C=>∃n,my F D H C V/\hY K F C z B/\C D=My (.l n)/\u_ K F D H0 C (j++o) n,?_,λx H2 hy=>?_⟩
   .rintro B C ⟨n,t9,vk9,hD9,hd9⟩
    exact⟨m-1,by lia,by lia,V,n,j++o,y,t9,vk9,hD9,hd9,e6,by rw[Nm];exact Y⟩
   .obtain⟨sm,dx⟩:=yl x H2 hy
    have t2:To F E H2 G:=t1.fr.same sm;have aa:=t2.tr t1.fr;refine hg F H2 z S f d x _ (u.tr aa) dx q λab t=>⟨F,S,G,t2.fr,t,E0.run e2 λc' H3 t3 ec=>?_⟩;subst ec;have ac:=sm _ _ v;have I:=t3.kp D _ ac hn;have L:=t3.tr t2.fr;have d3:=(w.mono P W t1.fr<|t2.toD D).mono P W t2.fr<|t3.toD D;have N:my F D H H3 X:=t1.trans<|(t2.trans t3).toD D;have ad:Uc j+Uc (o++y)<=Nw:=by
     have:=OG Uc Y;simp only[Ni]at this⊢;lia
    cases c' with
    |true=>
     rw[Ng rfl]at U⊢;refine hb F H0 H3 S X V ab a j o _ t3.fr P hn W (t.tr L) I d3 U (by rw[Ni]at ad;lia) λai H4 O t4 ae af ag=>?_;exact⟨O,N.trans t4,ae.sub s1 s2,af,ag⟩
    |false=>
     rw[Nf Nb]at U⊢;cases U;exact⟨a,N,(t.tr L).sub s1 s2,I,by rw[NW];exact d3⟩
def gc(G:Nat)(K:a0a)(S:Dn->M (List Pu.D))(V:ky)(X:a0m)(b:Dn->M (List<|List Pu.D)):Dn->M (List<|List Pu.D):=λE a=>match S E a with
 |none=>M0
 |some (.error C,β1)=>My (.error C,β1)
 |some (.ok ds,β1)=>match pI V X b ds (io G K E) β1 with
  |some (.ok os,β2)=>if Uc os<=Nw then My (.ok os,β2)else M0
  |_=>M0
theorem sT{V:a0g}{X:a0a}{s:Dn->M (List Pu.D)}{g:TG}{S:ky}{tt:a0m}{v:a0Y}{b:Dn->M (List<|List Pu.D)}(O:cF K g S)(P:dO S)(R:∀D,rj K D (v D) b){B:St}{H:Hp}{Q:VK}(h:PC K (gc (Uc V) X s S tt b) E B H Q):
  pY V X (iV K s E) (λD J=>dj J g (gt K tt E0)<|v D) B H Q:=by
 obtain⟨F,δ,β,fr,I,r,j,e,h⟩:=h;unfold gc at e;refine⟨F,δ,β,fr,I,?_⟩;split at e
 .cases e
 .rename_i C β1 q
  cases e;exact⟨.error C,_,q,h⟩
 .rename_i ds β1 q
  split at e
  .rename_i os β2 q2
   split at e
   .rename_i T
    cases e;refine⟨.ok ds,β1,q,λJ G t U D d=>?_⟩;have f:¬F.A D:=t.fr.fresh d;have W:∀b l,F.bg=My (b,l)->D≠b/\D≠l:=λb l z=>⟨λw=>f<|w▸(fr.bgA b l z).1,λw=>f<|w▸(fr.bgA b l z).2.1⟩;have t2:=t.fr.upd (.l []) d;have k:Fr ⟨λa=>F.A a\/a=D,F.bg⟩ (upd G D<|.l []) β1:=by
     refine⟨λa ha z=>?_,λb l z=>let ⟨x,y,w⟩:=fr.bgA b l z;⟨.inl x,.inl y,w⟩,t2.fr.bag⟩
     rcases ha with ha|ha
     .exact t2.fr.occ a ha z
     .subst ha;rw[aq]at z;cases z
    have i:Tr F G ⟨λa=>F.A a\/a=D,F.bg⟩ (upd G D<|.l []):=⟨λa ha hs z=>by
     rcases z with z|z
     .exact ha z
     .subst z;exact hs d,λa o ha z=>by rw[bb<|bw z d];exact z,rfl⟩
    have cv:∀c,H c≠M0->upd G D (.l []) c≠M0:=λc Y z=>by
     by_cases w:c=D
     .subst w;rw[aq]at z;cases z
     .rw[bb w]at z;exact Y<|t.none z
    refine IC (D:=D) (H0:=H) (as:=[]) (os:=os) O P (R D) k (.inr rfl) W (λb l z=>⟨fr.occ _ (fr.bgA b l z).1,fr.occ _ (fr.bgA b l z).2.1⟩) (rb<|I.tr<|(t.tr fr).trans i) aq ⟨cv,[],rfl,by simp,trivial⟩ (U.tr i) q2 (by simpa using T) λZ L N t3 aa m u=>?_;have tf:To F G L j:=by
     refine⟨λa o z n=>t3.kp a o (by rw[bb<|bw z d];exact z) (bw z d) n,λa ha z=>t3.fr.occ a (PP ha) z,fr.bgA,t3.fr.bag⟩
    obtain⟨_,rs,ea,nd,rl⟩:=u;subst ea;exact h _ L (t.trans tf) ⟨D,rs,rfl,t.none d,m,nd,aU.tr (F:=⟨λa=>F.A a\/a=D,F.bg⟩) ⟨λa ha _ z=>ha<|PP z,λa o _ z=>z,rfl⟩ rl λr xs _ p q=>⟨p,q⟩⟩
   .cases e
  .cases e
section
variable{q r m:Expr}{o:List Expr}{n:a0S}{l:Scope}{p:RV}{t v:a0g}{w:a0a}{g:TG}{u:a0Y}
theorem Kg(c:X.calm=M3)(S:cy X l t v w)(d:PI X r m<|iV X.K z E)
  (e:∀(G:a0j) (C:M6) (a:a0n) (s:Na) (H:Hp),PG (aE X t l G C a s H) r g/\dP (aE X t l G C a s H) o (gt X.K A E0)/\∀D,PB (aE X t l G C a s H) q (⟨r,m,o,0⟩::n) l p 0 D<|u D)
  (f:cF X.K g y) (i:dO y) (j:∀D,jf X.K D (u D) b) (M:∀x,Oj m X.e x=Ps x:=by intro _;rfl):PE X (.ListComp q (⟨r,m,o,0⟩::n) l p) (x_ X.K (eV (Uc v) w z y A b) E):=
 (nW c S d e M).imp λk H Q h=>sS f i j h
theorem wo(c:X.calm=M3)(S:cy X l t v w)(d:PI X r m<|iV X.K z E)
  (e:∀(G:a0j) (C:M6) (a:a0n) (s:Na) (H:Hp),PG (aE X t l G C a s H) r g/\dP (aE X t l G C a s H) o (gt X.K A E0)/\∀D,PB (aE X t l G C a s H) q (⟨r,m,o,0⟩::n) l p 0 D<|u D)
  (f:cF X.K g y) (i:dO y) (j:∀D,rj X.K D (u D) b) (M:∀x,Oj m X.e x=Ps x:=by intro _;rfl):PE X (.ListComp q (⟨r,m,o,0⟩::n) l p) (PC X.K (gc (Uc v) w z y A b) E):=
 (nW c S d e M).imp λk H Q h=>sT f i j h
end
mutual
noncomputable def noL:D->Bool
 | .n _=>M3
 | .c _=>M3
 | .q _=>M3
 | .o=>M3
 | .t ds=>noLs ds
 |_=>M5
noncomputable def noLs:a0e->Bool
 |[]=>M3
 |d::ds=>noL d&&noLs ds
end
mutual
theorem xM{F b:Fx}(hF:∀c,b.A c->F.A c\/tD H c):∀(d:D) (v:V),noL d=M3->b_ K F H d v->b_ K b H d v
 | .n i,v,_,h=>h
 | .c i,v,_,h=>h
 | .q i,v,_,h=>h
 | .o,v,_,h=>h
 | .t ds,v,n,h=>by
  obtain⟨a,E,e,h1,f⟩:=h;refine⟨a,E,e,?_,noLs_den hF ds E (by simpa[noL]using n) f⟩;rcases h1 with⟨h1,r⟩|h1
  .refine .inl ⟨λz=>?_,r⟩
   rcases hF a z with z|⟨G,z⟩|⟨G,z⟩
   .exact h1 z
   .rcases r with r|⟨o,r⟩<;>rw[z]at r<;>cases r
   .rcases r with r|⟨o,r⟩<;>rw[z]at r<;>cases r
  .exact .inr h1
 | .l _,_,n,_=>by simp[noL]at n
 | .scr _,_,n,_=>by simp[noL]at n
 | .ty _,_,n,_=>by simp[noL]at n
 | .txt,_,n,_=>by simp[noL]at n
 | .obj _ _ _,_,n,_=>by simp[noL]at n
 | .bag,_,n,_=>by simp[noL]at n
 | .adr _,_,n,_=>by simp[noL]at n
 | .dct _ _ _,_,n,_=>by simp[noL]at n
theorem noLs_den{F a:Fx}(hF:∀c,a.A c->F.A c\/tD H c):∀(D:a0e) (E:a0i),noLs D=M3->ba K F H D E->ba K a H D E
 |[],E,_,h=>h
 |d::D,E,n,h=>by
  have b:noL d=M3/\noLs D=M3:=by simpa[noLs]using n
  obtain⟨x,f,e,g,i⟩:=h;exact⟨x,f,e,xM hF d x b.1 g,noLs_den hF D f b.2 i⟩
end
theorem aU.noL{F a:Fx}(hF:∀c,a.A c->F.A c\/tD H c):∀{D:a0o} {E:a0n},(∀ds∈D,noLs ds=M3)->aU K F H P D E->(∀r∈E,P2 r)->aU K a H P2 D E
 |[],[],_,_,_=>trivial
 |ds::D,r::E,n,h,p=>by
  obtain⟨f,⟨M,b,d⟩,e⟩:=h;exact⟨p r M7,⟨M,b,noLs_den hF _ _ (n ds M7) d⟩,aU.noL hF (λx G=>n x<|M2 _ G) e λx G=>p x<|M2 _ G⟩
 |[],_::_,_,h,_=>h.elim
 |_::_,[],_,h,_=>h.elim
theorem ee.newGrd{E:Ds}{d:St}(M:ee K H₀ B l H E q d)(t:To (d5 B l) H H' m)(S:∀V∈n,noLs V=M3)(h:iH K (d5 B l) H H' n v):
  ∃e,ee K H₀ e l H' (E.set i<|My<|.grd n) m (d.set i<|My v)/\hC B H e H':=by
 obtain⟨a,D,rfl,j,f,o,b⟩:=h;have g:∀c,c=a\/c∈D->H c=M0/\tD H' c:=λc hc=>by
  rcases hc with rfl|hc
  .exact⟨j,.inl ⟨_,f⟩⟩
  .exact⟨(b.all c hc).1,.inl (b.all c hc).2⟩
 exact M.claim (λc=>c=a\/c∈D) t g λG p _=>⟨a,D,rfl,G a<|.inl rfl,f,o,aU.noL (F:=d5 B l) (λc hc=>(p c hc).imp id λw=>(g c w).2) S b λr k=>G r<|.inr k⟩
end
section
variable{X:Cx}{E:a0r}{K:ND}{st:OB}{L:Hp}{B:Ow}{J:a0s}{H H':Hp}{δ:Ds}{β aa:Bg}{Y:St}
theorem ee.newOwnE(E:ee K L B J H δ β Y)(t:To (d5 B J) H H' aa)(e:fL K (d5 B J) H H' k v):
  ∃b,ee K L b J H' (δ.set i<|My<|.u k) aa (Y.set i<|My v)/\hC B H b H':=by
 obtain⟨a,D,rfl,f,d,g⟩:=e;exact E.claim (·=a) t (λc z=>by cases z;exact⟨f,.inl ⟨D,d⟩⟩) λ{j} G M _=>⟨a,D,rfl,G a rfl,d,ba.tr (show Tr ((d5 B J).but a) H' (d5 j J) H' from⟨λc h _ z=>h<|M c z,λ_ _ _ h=>h,rfl⟩) _ _ g⟩
def qR(i:Nat)(f:FL):G:=λδ β=>match f (vw δ) β with
 |some (.ok ds,β1)=>My (.nx<|δ.set i<|My<|.u ds,β1)
 |some (.error C,β1)=>My (.ex C δ,β1)
 |none=>M0
theorem JB(h:PS X st<|gr (x_ X.K f E)<|fi i):PS X st (tG X.K X.H₀ (qR i f) E):=h.imp λD Y H d=>by
 obtain⟨B,J,δ,β,o,aa,ok,e,q⟩:=d;refine⟨d5 B J,vw δ,β,ok.fr,ok.view,?_⟩;unfold qR at e;split at e
 .rename_i ds β1 b
  cases e;refine⟨.ok ds,_,b,λv H' t G=>?_⟩;obtain⟨g,a,c⟩:=ok.newOwnE (i:=i) t G;exact q _ _ _ c a
 .rename_i C β1 b
  cases e;refine⟨.error C,_,b,λH' t=>?_⟩;obtain⟨a,c⟩:=ok.to rfl t;exact q _ B H' c a
 .cases e
def pB(i:Nat)(f:Dn->M a0o):G:=λδ β=>match f (vw δ) β with
 |some (.ok a_,β1)=>if(a_.all noLs)=M3 then My (.nx<|δ.set i<|My<|.grd a_,β1)else M0
 |some (.error C,β1)=>My (.ex C δ,β1)
 |none=>M0
theorem yR(h:PS X st<|gr (PC X.K f E)<|fi i):PS X st (tG X.K X.H₀ (pB i f) E):=h.imp λD Y H g=>by
 obtain⟨B,J,δ,β,o,aa,ok,e,q⟩:=g;refine⟨d5 B J,vw δ,β,ok.fr,ok.view,?_⟩;unfold pB at e;split at e
 .rename_i a_ β1 b
  split at e
  .rename_i hn
   cases e;refine⟨.ok a_,_,b,λv H' t G=>?_⟩;obtain⟨j,a,c⟩:=ok.newGrd (i:=i) t (λL d=>OM.mp hn L d) G;exact q _ _ _ c a
  .cases e
 .rename_i C β1 b
  cases e;refine⟨.error C,_,b,λH' t=>?_⟩;obtain⟨a,c⟩:=ok.to rfl t;exact q _ B H' c a
 .cases e
theorem aU.put{H:Hp}(t:Tr F H F<|upd H r<|.l xs)(E:ba K F (upd H r<|.l xs) ds xs):∀{a_:a0o} {B:a0n} (j:Nat),aU K F H P a_ B->B.Nodup->B[j]?=My r->aU K F (upd H r<|.l xs) P (a_.set j ds) B
 |d0::a_,r0::B,0,h,nd,e=>by
  obtain rfl:r0=r:=by simpa using e
  have D:∀a∈B,a≠r0:=λa b z=>(N2.mp nd).1<|z▸b;exact⟨h.1,⟨xs,aq,E⟩,aU.tr t h.2.2 λa G b p q=>⟨p,by rw[bb<|D a b];exact q⟩⟩
 |d0::a_,r0::B,j+1,h,nd,e=>by
  have c:B[j]?=My r:=by simpa using e
  obtain⟨d,⟨G,f,g⟩,i⟩:=h;have D:r0≠r:=λz=>(N2.mp nd).1<|z▸Nq c;exact⟨d,⟨G,by rw[bb D];exact f,ba.tr t _ _ g⟩,aU.put t E j i (N2.mp nd).2 c⟩
 |[],[],_,_,_,e=>by simp at e
 |[],_::_,_,h,_,_=>h.elim
 |_::_,[],_,h,_,_=>h.elim
theorem aU.at{H:Hp}:∀{a_:a0o} {rs:a0n} {j:Nat} {ds:a0e},aU K F H P a_ rs->a_[j]?=My ds->∃r xs,rs[j]?=My r/\P r/\H r=My (.l xs)/\ba K F H ds xs
 |d0::a_,r0::rs,0,ds,h,e=>by
  obtain rfl:d0=ds:=by simpa using e
  obtain⟨a,⟨B,b,c⟩,g⟩:=h;exact⟨r0,B,rfl,a,b,c⟩
 |d0::a_,r0::rs,j+1,ds,h,e=>by
  obtain⟨r,xs,d,f⟩:=aU.at h.2.2 (j:=j) (ds:=ds) (by simpa using e);exact⟨r,xs,by simpa using d,f⟩
 |[],[],_,_,_,e=>by simp at e
 |[],_::_,_,_,h,_=>h.elim
 |_::_,[],_,_,h,_=>h.elim
theorem ee.writeRow{E:a0n}{X:a0o}(D:ee K L B J H δ β Y)(x:Y[i]?=My (My<|.r a))(hB:B a=My (i+2))(G:H a=My (.l<|E.map V.r))(M:(a::E).Nodup)(u:aU K (d5 B J) H (λr=>B r=My (i+2)) X E)(w:E[j]?=My r)(I:H r=My (.l O))(N:ba K (d5 B J) H ds xs):
  ee K L B J (upd H r<|.l xs) (δ.set i<|My<|.grd<|X.set j ds) β Y/\hC B H B (upd H r<|.l xs):=by
 have m:r∈E:=Nq w;have f:B r=My (i+2):=(u.all r m).1;have g:hC B H B (upd H r<|.l xs):=by
  refine⟨λc o h n=>?_,λ_ _=>rfl,λ_ _ _ n=>n,λc p=>?_⟩
  .rw[bb]
   .exact h
   .intro z;subst z;rw[f]at n;rcases n with n|n<;>cases n
  .by_cases z:c=r
   .subst z;rw[aq];simp
   .rw[bb z];exact p
 have S:Tr (d5 B J) H (d5 B J) (upd H r<|.l xs):=g.tr;refine⟨⟨⟨λc p z=>?_,D.fr.bgA,λb l e=>?_⟩,D.bgt,by rw[N9,D.len],λa G=>g.al a<|D.cov a G,D.new,λc k p=>(by
  by_cases z:c=r
  .subst z;exact .inl ⟨xs,aq⟩
  .exact(D.lst c k p).imp λo y=>by rw[bb z];exact y),λk s e=>?_⟩,g⟩
 .by_cases q:c=r
  .subst q;rw[aq]at z;cases z
  .rw[bb q]at z;exact D.fr.occ c p z
 .obtain⟨b1,A⟩:=D.bgt b l e
  rw[bb (λz=>by subst z;rw[f]at b1;cases b1),bb (λz=>by subst z;rw[f]at A;cases A)];exact D.fr.bag b l e
 .rw[OO]at e
  by_cases q:i=k
  .subst q
   rw[Ng rfl]at e;split at e
   .cases e
    have t:a≠r:=λz=>(N2.mp M).1<|z▸m;exact⟨_,x,a,E,rfl,hB,by rw[bb t];exact G,M,aU.put S (ba.tr S _ _ N) j u (N2.mp M).2 w⟩
   .cases e
  .rw[Nf q]at e
   obtain⟨v,C,F⟩:=D.tell k s e;exact⟨v,C,F.tr S λc d=>⟨d,λo z=>(bb λy=>by subst y;rw[f]at d;cases d;exact q rfl).trans z⟩⟩
def iC(f:Dn->M a0o):G:=λδ β=>match f (vw δ) β with
 |some (.ok a_,β1)=>My (.rg a_,β1)
 |some (.error C,β1)=>My (.ex C δ,β1)
 |none=>M0
theorem nR(h:PS X (.Return (My e) s)<|EG<|PC X.K f E):PS X (.Return (My e) s) (tG X.K X.H₀ (iC f) E):=h.imp λD Y H j=>by
 obtain⟨B,J,δ,β,o,aa,ok,e,q⟩:=j;refine⟨d5 B J,vw δ,β,ok.fr,ok.view,?_⟩;unfold iC at e;split at e
 .rename_i a_ β1 d
  cases e;refine⟨.ok a_,_,d,λv H' t G=>?_⟩;obtain⟨b,g⟩:=ok.to rfl t;have i:∀c,H c=M0->X.H₀ c=M0:=λc k=>by
   cases w:X.H₀ c with
   |none=>rfl
   |some o=>exact NH k (ok.cov c<|by rw[w];simp)
  obtain⟨a,L,rfl,l,m,M,n⟩:=G;exact q _ B H' g b.fr ⟨a,L,rfl,i a l,m,M,aU.tr (Tr.refl _ _) n λr S _ p y=>⟨i r p,y⟩⟩
 .rename_i C β1 d
  cases e;refine⟨.error C,_,d,λH' t=>?_⟩;obtain⟨b,g⟩:=ok.to rfl t;exact q _ B H' g b
 .cases e
def Q_(K:ND)(n:Nat)(m:a0e->M a0o):Sp:=λB H Q E=>Uc B=n/\∃F D β,Fr F H β/\ba K F H D B/\run (iH K F H) F (λ_=>E) [] (m D) H Q β
def gY(n:Nat)(g:G):a0e->M a0o:=λB β=>match g (lh n B) β with
 |some (.rg a_,aa)=>My (.ok a_,aa)
 |some (.ex C _,aa)=>My (.error C,aa)
 |_=>M0
variable{P:NY}{w:N6}{mg:a0h}{ab:Op}
theorem rX{st:OB}{N V:a0g}(n m:Nat)(g:G)(F:hV K x qual st f fd)(S:bc N V<|ai st)(L:Uc V=n)(O:Uc N=m)
  (j:∀(c:M8) (A:Om) (D:a0B) (s:Na) (H:Hp) (E:XK),dv k (A.deeper<|RP qual (ai st) s.heap.objs.size f c)->
   PSs (dz (e_ P w) P w K mg ab N qual (ai st) f c A D s H E) (cB st) (tG K H g (λ_=>E))):d_ P w K mg ab (e_ P w) (k+1) f fd V (Q_ K n<|gY m g):=by
 subst L O;refine F.okE S (λvs H Q E h=>h.1) λc A D s H vs Q E Z h=>?_;obtain⟨hl,u,X,β,fr,hd,r,aa,e,h⟩:=h;refine⟨_,j c A D s H E Z,?_⟩;obtain⟨B,ok,R,h1,hn⟩:=vj (N:=N) fr hd;have J:∀{I:Ow} {H':Hp},hC B H I H'->Fr (d5 I u.bg) H' aa->To u H H' aa/\Tr (d5 I u.bg) H' u H':=λ{I H'} s i=>by
  have hs:∀a,u.A a->I a≠M0:=λa M=>by
   rw[s.tg a<|R a M];rcases R a M with z|z<;>rw[z]<;>simp
  refine⟨⟨λa o M n=>s.kp a o M ?_,λa M=>i.occ a<|hs a M,λb l e=>fr.bgA b l e,i.bag⟩,λa M _ z=>M<|hs a z,λ_ _ _ h=>h,rfl⟩;cases q:B a with
  |none=>exact .inl rfl
  |some t=>
   have:=R a (hn a<|by rw[q];simp);rcases this with z|z
   .rw[q]at z;exact .inr z
   .obtain⟨b,l,e,w⟩:=h1 a z
    obtain⟨T,n2⟩:=n b l e;rcases w with w|w
    .exact NH w T
    .exact NH w n2
 unfold gY at e;split at e
 .rename_i d β1 U
  cases e;refine⟨B,u.bg,lh (Uc N) X,β,.rg d,aa,ok,U,λv I H' s i hv=>?_⟩;obtain⟨t1,t2⟩:=J s i;obtain⟨a,rs,ev,n0,T,nd,rl⟩:=hv;exact h v H' t1 ⟨a,rs,ev,n0,T,nd,aU.tr t2 rl λr xs _ p y=>⟨p,y⟩⟩
 .rename_i C W β1 U
  cases e;refine⟨B,u.bg,lh (Uc N) X,β,.ex C W,aa,ok,U,λac I H' s Y=>?_⟩;obtain⟨t1,t2⟩:=J s Y.fr;exact h H' t1
 .cases e
variable{e:Expr}{z:List Expr}{s p:RV}{x:N8}{k n:Nat}{f:M6}{P:NL}{B:a0g}
def wA(m:a0e->M a0o)(g:FL):Dn->M a0o:=λδ=>M.v (g δ) λe=>m e
theorem iH.pre{K:ND}{H e H':Hp}(t:To F H e i)(h:iH K F e H' j v):iH K F H H' j v:=by
 obtain⟨a,f,b,c,d,k,g⟩:=h;exact⟨a,f,b,t.none c,d,k,aU.tr (Tr.refl _ _) g λr n _ p y=>⟨t.none p,y⟩⟩
theorem DF(G:d_ X.p X.w X.K X.mg X.base (e_ X.p X.w) k f P B<|Q_ X.K n m)(o:dv k X.A)(q:Gl X x)(U:X.mg x=My (.ref f))(u:Se X.K (.ref f)=M3)(y:dN X.K P B [])(W:bX (e_ X.p X.w) X E)
  (Z:PA X (e::z)<|h8 X.K g E) (hn:∀δ β r aa,g δ β=My (.ok r,aa)->Uc r=n) (a:b0c x:=by decide) (I:b0a X e z:=by rfl) (b:b0b X s z:=by rfl):
  PE X (.Call (.Name x p) (e::z) [] s) (PC X.K (wA m g) E):=
 (kH G o q U u y .nil W Z a I b).imp λY H Q J=>ix J λF δ β fr L r=>⟨F,δ,β,fr,L,by
  obtain⟨S,c,h,i⟩:=run.bind (R:=ba X.K F) r;refine⟨S,c,h,?_⟩;cases S with
  |error C=>exact i
  |ok ds=>
   intro vs H1 t V;obtain⟨d',D,t1,d,r1⟩:=i vs H1 t V;have N:=hn _ _ _ _ h;refine⟨by rw[NW,<-V.f5,N],F,d',D,t1.fr,by rw[NW];exact d,?_⟩;obtain⟨j,M,O,l⟩:=r1;refine⟨j,M,O,?_⟩;cases j with
   |ok a_=>exact λv H' t2 T=>l v H' t2<|iH.pre t1 T
   |error C=>exact l⟩
end
end L2.Pu
namespace L2
end L2
namespace L2.Pu
section
variable{X:Cx}{E:a0r}{K:ND}
def jg(K:ND)(E:a0h)(x:N8)(d:D):Prop:=∃u v,E x=My u/\aT v u/\∀F H,b_ K F H d v
theorem gE(c:jg X.K X.mg x d)(a:Gl X x:=by rfl)(D:b0c x:=by decide):PE X (.Name x g) (tV X.K (fC d) E):=by
 obtain⟨u,v,b,e,f⟩:=c;exact Yh (Ig a b e D) f
theorem xi(c:jg X.K X.mg x d)(a:Gl X x:=by rfl)(D:b0c x:=by decide):PE X (.Name x b) (tV X.K (fC d) E):=gE c a D
mutual
noncomputable def nt:D->Option WL
 | .o=>My .none
 | .c b=>My<|.bool b
 | .n i=>My<|.int i
 | .q x=>My<|.str x
 | .l xs=>(toPs xs).map PyData.list
 | .t xs=>(toPs xs).map PyData.tuple
 |_=>M0
noncomputable def toPs:a0e->Option (List WL)
 |[]=>My []
 |x::xs=>match nt x,toPs xs with
  |some p,My ps=>My<|p::ps
  |_,_=>M0
end
mutual
theorem kE{s:Na}(I:bx X y z H s):∀(d:D) (v:V) (u:M8) (p:WL),b_ X.K F H d v->nt d=My p->aT v u->∃G,Reads s.heap u p G
 | .o,v,u,p,h,e,r=>by cases e;cases h.non;cases r;exact⟨_,.none⟩
 | .c b,v,u,p,h,e,r=>by cases e;cases h.bl;cases r;exact⟨_,.bool b⟩
 | .n i,v,u,p,h,e,r=>by cases e;cases h.int;obtain⟨t,rfl⟩:=r;exact⟨_,.int i t⟩
 | .q x,v,u,p,h,e,r=>by cases e;cases h.str;obtain⟨t,rfl⟩:=r;exact⟨_,.str x t⟩
 | .l xs,v,u,p,h,e,r=>by
  unfold nt at e;cases q:toPs xs with
  |none=>rw[q]at e;cases e
  |some M=>
   rw[q]at e;cases e;obtain⟨a,S,rfl,l,c⟩:=b_.p3 h;cases r;obtain⟨E,f,m,_⟩:=I.list l;obtain⟨G,g⟩:=reads_L I xs S E M c q f;obtain⟨o,j,k,n,w⟩:=m.isList;exact⟨_,.list j k w<|by simpa using g⟩
 | .t xs,v,u,p,h,e,r=>by
  unfold nt at e;cases q:toPs xs with
  |none=>rw[q]at e;cases e
  |some M=>
   rw[q]at e;cases e;obtain⟨a,S,rfl,l,c⟩:=b_.f5 h;cases r;obtain⟨E,f,m,_⟩:=I.tuple l;obtain⟨G,g⟩:=reads_L I xs S E M c q f;obtain⟨o,j,k,n,w⟩:=m;exact⟨_,.tuple j k w<|by simpa using g⟩
 | .ty _,_,_,_,_,e,_=>by cases e
 | .txt,_,_,_,_,e,_=>by cases e
 | .scr _,_,_,_,_,e,_=>by cases e
 | .obj _ _ _,_,_,_,_,e,_=>by cases e
 | .bag,_,_,_,_,e,_=>by cases e
 | .adr _,_,_,_,_,e,_=>by cases e
 | .dct _ _ _,_,_,_,_,e,_=>by cases e
theorem reads_L{s:Na}(I:bx X m n H s):∀(E:a0e) (D:a0i) (G:a0f) (M:List WL),ba X.K F H E D->toPs E=My M->ay D G->∃S,ReadsAll s.heap G M S
 |[],D,G,M,h,e,r=>by
  have q:D=[]:=h;subst q;cases e;cases r;exact⟨_,.nil⟩
 |d::E,D,G,M,h,e,r=>by
  obtain⟨x,a,rfl,b,c⟩:=h;unfold toPs at e;split at e
  .rename_i p pr f g
   cases e;cases r with
   |cons V i=>
    obtain⟨S,j⟩:=kE I d x _ p b f V;obtain⟨l,k⟩:=reads_L I E a _ pr c g i;exact⟨_,.cons j k⟩
  .cases e
end
def m6(a b:D):a0K:=match nt a,nt b with
 |some p,My q=>if(SC p&&SC q)=M3 then My (Rr p q)else M0
 |_,_=>M0
def ib(a b:D):a0k:=match YU a b with
 |some c=>My<|.c c
 |none=>(m6 a b).map D.c
def gR(a b:D):a0k:=match YU a b with
 |some c=>My<|.c<|!c
 |none=>(m6 a b).map λc=>D.c<|!c
def rM(X:Cx)(g:Bool->Bool):R2:=λx y H Q=>∃(F:Fx) (a b:D) (c:Bool),b_ X.K F H a x/\b_ X.K F H b y/\m6 a b=My c/\Q (.c<|g c) H
theorem ui{c:Bool}(h:m6 a b=My c):∃p q,nt a=My p/\nt b=My q/\SC p=M3/\SC q=M3/\c=Rr p q:=by
 unfold m6 at h;split at h
 .rename_i p q d e
  split at h
  .rename_i hs
   rw[NN]at hs;cases h;exact⟨p,q,d,e,hs.1,hs.2,rfl⟩
  .cases h
 .cases h
theorem Kc(f:dv k X.A):f0 X (OP .Eq) (rM X id):=by
 intro d s t H x y v u Q I g i h;obtain⟨F,a,b,c,D,E,e,q⟩:=h;obtain⟨p,j,l,m,n,o,rfl⟩:=ui e;obtain⟨K,G⟩:=kE I a x v p D l g;obtain⟨M,r⟩:=kE I b y u j E m i;exact eq_dataH G r n o f.f5 ⟨.c _,H,I,rfl,q⟩
theorem Ka(f:dv k X.A):f0 X (OP .NotEq) (rM X not):=by
 intro d s t H x y v u Q I g i h;obtain⟨F,a,b,c,D,E,e,q⟩:=h;obtain⟨p,j,l,m,n,o,rfl⟩:=ui e;obtain⟨K,G⟩:=kE I a x v p D l g;obtain⟨M,r⟩:=kE I b y u j E m i;exact ne_dataH G r n o f.f5 ⟨.c _,H,I,rfl,q⟩
theorem cb(a:dv k X.A):f0 X (OP .Eq) (λx y H Q=>Zu x y H Q\/rM X id x y H Q):=LW.or<|Kc a
theorem fF(a:dv k X.A):f0 X (OP .NotEq) (λx y H Q=>Zs x y H Q\/rM X not x y H Q):=LU.or<|Ka a
theorem cN:bq X.K (λx y H Q=>Zu x y H Q\/rM X id x y H Q) ib:=λF H G Q D E d h i fr a b e k=>by
 unfold ib at e;split at e
 .rename_i c q
  cases e;obtain⟨f,g⟩:=DS q a b;exact .inl ⟨f,by rw[g];exact k _ H (To.refl fr) rfl⟩
 .cases q:m6 D E with
  |none=>rw[q]at e;cases e
  |some c=>rw[q]at e;cases e;exact .inr ⟨F,D,E,c,a,b,q,k _ H (To.refl fr) rfl⟩
theorem gU:bq X.K (λx y H Q=>Zs x y H Q\/rM X not x y H Q) gR:=λF H G Q D E d h i fr a b e k=>by
 unfold gR at e;split at e
 .rename_i c q
  cases e;obtain⟨f,g⟩:=DS q a b;exact .inl ⟨f,by rw[g];exact k _ H (To.refl fr) rfl⟩
 .cases q:m6 D E with
  |none=>rw[q]at e;cases e
  |some c=>rw[q]at e;cases e;exact .inr ⟨F,D,E,c,a,b,q,k _ H (To.refl fr) rfl⟩
theorem MR(i j:Int):ib (.n i) (.n j)=My (.c<|decide (i=j)):=rfl
theorem MQ(i j:Int):gR (.n i) (.n j)=My (.c<|!decide (i=j)):=rfl
def oC(d:D):Bool:=match nt d with
 |some p=>SC p
 |none=>M5
theorem G0{C:a0X}{c:Int->Int->Bool}{g:a0M}(b:∀i j,c i j=M3->C i j):bq K (Yo C g) (ny λi j=>if c i j=M3 then My (.n<|g i j)else M0):=λF H D Q E G d l m fr f h e k=>by
 obtain⟨i,j,rfl,rfl,a⟩:=jB e;split at a
 .cases a
  exact⟨i,j,f,h,b _ _ (by assumption),k _ H (To.refl fr) rfl⟩
 .cases a
def addI:D->D->a0k:=ny λi j=>My<|.n<|i+j
theorem xX:bq K (ipI λi j=>i+j) addI:=λF H D Q E G d f g fr a b e k=>by
 obtain⟨i,j,rfl,rfl,c⟩:=jB e;cases c;exact⟨i,j,a,b,k _ H (To.refl fr) rfl⟩
theorem x4:Y1 X .Mult (Yo u6 λi j=>i*j):=by
 intro a s e H x y v u Q I b d h;obtain⟨i,j,rfl,rfl,c,q⟩:=h;obtain⟨t,rfl⟩:=b;obtain⟨D,rfl⟩:=d;exact imul_int ⟨.n _,H,I.tok _,⟨_,rfl⟩,q⟩<|W4 (kf c.1)<|kf c.2
theorem xW:bq K (Yo u6 λi j=>i*j) iN:=G0 λi j h=>by
 simp only[NN,c7,NR]at h;exact h
theorem FI:bq K (Yo u7 λi j=>i/j) uV:=G0 λi j h=>by
 simp only[NN,NR]at h;exact h
abbrev gF:=EK
theorem Ek(b:X.calm=M3):dM X (.builtin "sum") (λE H Q=>∃(a:M6) (D:a0b),E=[.r a]/\en X.K H a (D.map V.n)/\Q (.n D.sum) H):=uj b
theorem Ku:fX K (λE H Q=>∃(a:M6) (D:a0b),E=[.r a]/\en K H a (D.map V.n)/\Q (.n D.sum) H) gF:=Mb
def Hl(H:Hp)(b l:M6):Prop:=∃(D:a0b) (i j:Int),H b=My (.l [.r l,.n i,.n j])/\H l=My (.l<|D.map V.n)/\D≠[]/\Uc D<=64/\(∀c∈D,0<=c)/\0<=j
theorem IF(h:k<n):lb n (k:Int)=My k:=by
 unfold lb;rw[Ng (by lia),Ng<|by lia];simp
theorem MT(D:a0b):∃a:a0b,m5 (D.map V.n) M0 (My 63)=a.map V.n/\Uc a<=63:=by
 refine⟨(D.drop<|HT.sIx (Uc D) 0 M0).take<|HT.sIx (Uc D) (Uc D) (My 63)-HT.sIx (Uc D) 0 M0,?_,?_⟩
 .unfold m5
  rw[MZ,UB,R9]
 .rw[Oe]
  have:HT.sIx (Uc D) (Uc D) (My 63)<=63:=by
   unfold HT.sIx;simp;lia
  lia
def LM(K:ND):Sp:=λD H Q _=>∃(a:M6) (E:a0b),D=[.r a]/\en K H a (E.map V.n)/\∀(b l:M6) (c:Hp),H b=M0->H l=M0->Hl c b l->bW H c->Q (.r b) c
def GJ(K:ND):Sp:=λE H Q _=>∃(a:M6) (D:a0b),E=[.r a]/\en K H a (D.map V.n)/\Uc D<=63/\∀b,Q (.c M3) b
theorem IZ(sm:bW H₀ H)(A:H₀ b=M0)(C:H₀ l=M0)(B:Hl H b l):∃E,E.ok/\ee K H₀ (λc=>if c=b\/c=l then My 1 else M0) (My (b,l)) H (M0::My (.h .bag)::NB n M0) E (My (.r a)::My (.r b)::NB n M0):=by
 obtain⟨D,i,j,g,h,p,v,w,y⟩:=B;have m:b≠l:=L6 g h (by
  intro z;cases D with
  |nil=>exact p rfl
  |cons c r=>simp at z)
 refine⟨⟨D,i,j⟩,⟨p,v,w,y⟩,⟨⟨λc f=>?_,λt u e=>?_,λt u e=>?_⟩,λt u e=>?_,by simp,λc f=>?_,λc k f=>(by
  have d:(if c=b\/c=l then My 1 else M0)=My (k+2):=f;split at d<;>cases d),λc k f=>(by
  have d:(if c=b\/c=l then My 1 else M0)=My (k+2):=f;split at d<;>cases d),λk s e=>?_⟩⟩
 .have d:(if c=b\/c=l then My 1 else M0)≠(M0:a0H):=f
  split at d
  .rename_i q
   rcases q with rfl|rfl
   .rw[g];simp
   .rw[h];simp
  .exact NH rfl d
 .cases e
  refine⟨?_,?_,m⟩
  .show(if b=b\/b=l then My 1 else M0)≠(M0:a0H)
   rw[Ng<|.inl rfl];simp
  .show(if l=b\/l=l then My 1 else M0)≠(M0:a0H)
   rw[Ng<|.inr rfl];simp
 .cases e
  exact⟨g,h⟩
 .cases e
  exact⟨Ng<|.inl rfl,Ng<|.inr rfl⟩
 .cases q:H₀ c with
  |none=>exact NH q f
  |some o=>rw[sm c o q];simp
 .match k with
  |0=>simp at e
  |1=>
   simp at e;subst e;exact⟨.r b,rfl,b,l,rfl,rfl⟩
  |k+2=>
   simp only[RC,Pz]at e;split at e<;>cases e
variable{P:NY}{w:N6}{mg:a0h}{base:Op}
theorem pE{M:OB}{N V:a0g}(n m:Nat)(g:G)(F:hV K x c M f h)(S:bc N V<|ai M)(d:Uc V=n)(e:Uc N=m)
  (a:∀(b:M8) (A:Om) (D:a0B) (s:Na) (H:Hp) (E:XK),dv k (A.deeper<|RP c (ai M) s.heap.objs.size f b)->
   PSs (dz (e_ P w) P w K mg base N c (ai M) f b A D s H E) (cB M) (tG K H g (λ_=>E))):d_ P w K mg base (e_ P w) (k+1) f h V (B6 K n<|fW m g):=by
 subst d e;exact IR F S a
end
end L2.Pu
namespace L2
theorem cy.ofB{X:Cx}{w:Scope}{D:a0a}(k:w.kind= .function)(E:(w.names.map (·.1)).Nodup)
  (fr:(w.names.all λy=>y.2 != .free||(X.e.scope.names.lookup y.1==My .cell||X.e.scope.names.lookup y.1==My .free))=M3) (G:Nc=cx++D.map (λj=>X.N.getD j QV))
  (a:(D.all λj=>decide (j<Uc X.N)&&w.names.lookup (X.N.getD j QV)==My .free)=M3):cy X w Nc cx D:=by
 refine⟨k,E,λy K e=>?_,G,λj b=>?_⟩
 .have:=OM.mp fr y K
  rw[e]at this;simp only[QU,Bool.false_or,Bool.or_eq_true,Rl]at this;exact this
 .have:=OM.mp a j b
  simp only[NN,NR,Rl]at this;exact this
end L2
namespace L2.Pu
theorem zH(i j:Int):Fn (.n i) (.n j)=if decide (0<j)=M3 then My (.n<|i % j)else M0:=rfl
theorem Gb(i j:Int):L_ (.n i) (.n j)=My (.c<|decide (j<i)):=rfl
end L2.Pu
namespace L2.Pu
section
variable{X:Cx}{E:a0r}{K:ND}{z A u:Expr}{w:List Expr}{v:a0S}{t:Scope}{y:RV}{B I:a0g}{J:a0a}{g:TG}{F:a0Y}
theorem JD{a c:RV}(j:X.N.Nodup)(d:X.N[i]?=My x)(M:si X.e.scope x)(k:X.calm=M3)(S:cy X t B I J)(l:PI X A u<|iV X.K O E)
  (m:∀(G:a0j) (C:M6) (f:a0n) (s:Na) (H:Hp),PG (aE X B t G C f s H) A g/\dP (aE X B t G C f s H) w (gt X.K Q E0)/\∀D,PB (aE X B t G C f s H) z (⟨A,u,w,0⟩::v) t y 0 D<|F D)
  (n:cF X.K g L) (o:dO L) (p:∀D,rj X.K D (F D) b)
  (e:Rx (.ListComp z (⟨A,u,w,0⟩::v) t y) (My<|.Name x a) c.line X.e=Ps M3:=by rfl)
  (P:∀x,Oj u X.e x=Ps x:=by intro _;rfl) (q:b0d X x:=by first|exact .inl rfl|exact .inr rfl|assumption):
  PS X (.Assign [.Name x a] (.ListComp z (⟨A,u,w,0⟩::v) t y) c) (tG X.K X.H₀ (pB i<|gc (Uc I) J O L Q b) E):=
 yR ((rO j d M k S l m e P q).imp λD r H h=>sT n o p h)
end
end L2.Pu
namespace L2
section
variable{X:Cx}
theorem Gj{D:a1e}{w:a0f}(r:ay (D.map V.c) w){i:Nat}{v:M8}(h:w.toArray[i]?=My v):v= .bool (D.getD i M5):=by
 have E:w[i]?=My v:=by simpa using h
 have a:=r.length;rw[MZ]at a;have b:i<Uc D:=by rw[a];exact(Nd.mp E).1
 obtain⟨u,c,d⟩:=r.get (i:=i) (x:=V.c D[i]) (by rw[Nk,M9 b];rfl);rw[E]at c;cases c;rw[Nz,M9 b];exact d
theorem BL{α:Type}(f:Bool->Bool)(w:a1e):(Nj<|Uc w).map (λi=>w.getD i M5)=w:=by
 apply RK;intro i;rw[Nk];by_cases h:i<Uc w
 .rw[PM h,M9 h]
  simp[Nz,M9 h]
 .rw[RX (by simpa using h),RX<|by lia];rfl
theorem BM(w:a1e):((Nj<|Uc w).any λi=>w.getD i M5)=w.any id:=by
 conv=>rhs;rw[<-BL (α:=Bool) id w]
 rw[List.any_map];rfl
theorem j9(l:X.calm=M3):dM X (.builtin "any") (λG H Q=>∃(a:M6) (E:a1e),G=[.r a]/\en X.K H a (E.map V.c)/\Q (.c<|E.any id) H):=by
 intro j s B H G P Q I r h;obtain⟨a,E,rfl,m,q⟩:=h;cases r with
 |cons M n=>
  cases M;cases n;obtain⟨D,k,p,C⟩:=I.list m;have f:=p.isList;have c:D.toArray.size=Uc E:=by rw[NG,<-k.length,MZ]
  have d:∀b o,s.heap.get? b=My o->b≠s.heap.objs.size:=λb o e z=>by
   rw[z,W3<|Nh _]at e;cases e
  have g:a≠s.heap.objs.size:=by
   obtain⟨o,e,_⟩:=f;exact d a o e
  have W:=Walks.list (prog:=X.p) (w:=X.w) (A:=X.A.in1) (show X.A.in1.handled=M0 from I.ok.hd l) s.heap.objs.size a g D.toArray;refine call_any_walk<|TL f ⟨s.heap.objs.size,[s.heap.objs.size,a],[s.heap.objs.size],D.toArray.size,_,_,λi=>E.getD i M5,rfl,W,⟨⟨_,NA s.heap rfl,rfl,rfl⟩,f.push _⟩,λi v S F J t u=>?_,λx L y=>?_⟩
  .rw[Gj k t]
   exact OT u
  .rw[c,BM]
   exact⟨.c<|E.any id,H,I.kept λb o e=>y b o (λz=>d b o e<|by simpa using z)<|M4 _ e,rfl,q⟩
end
end L2
namespace L2.Pu
noncomputable def eZ:a0e->Option a1e
 |[]=>My []
 | .c b::r=>(eZ r).map (b::·)
 |_=>M0
theorem oV{K:ND}:∀{w:a0e} {D:a0i} {E:a1e},eZ w=My E->ba K F H w D->D=E.map V.c
 |[],D,E,e,h=>by
  cases e;cases h;rfl
 |d::w,D,E,e,h=>by
  obtain⟨x,f,rfl,a,c⟩:=h;cases d<;>first
   |(rename_i b
     cases q:eZ w with
     |none=>simp[eZ,q]at e
     |some r=>
     simp[eZ,q]at e;subst e;cases a.bl;rw[oV q c];rfl)
   |simp[eZ]at e
def sE:a0e->a0k
 |[.l ds]=>(eZ ds).map λw=> .c<|w.any id
 |_=>M0
variable{K:ND}
theorem uO:fX K (λD H Q=>∃(a:M6) (w:a1e),D=[.r a]/\en K H a (w.map V.c)/\Q (.c<|w.any id) H) sE:=λF H E Q G d M fr h e k=>by
 unfold sE at e;split at e
 .obtain⟨v,rfl,g⟩:=ba.p3 h
  obtain⟨a,D,rfl,r,b⟩:=b_.p3 g;obtain⟨w,q,e⟩:=QH.mp e;subst e;rw[oV q b]at r;exact⟨a,w,rfl,r,k _ H (To.refl fr) rfl⟩
 .cases e
end L2.Pu
namespace L2
section
variable{X:Cx}{a b c d:Expr}{ta w tc P:TE}{aa:RV}
def LC(i e:R2)(tc P:TE)(y:V):TE:=λf H Q=>tc f H λw j=>i y w j λk g=>∃h,k= .c h/\(if h=M3 then P f g λl m=>e w l m Q else Q (.c M5) g)
def xo(r h e:R2)(ta w tc P:TE):TE:=λf H Q=>ta f H λx a=>w f a λy i=>r x y i λz g=>∃k,z= .c k/\(if k=M3 then LC h e tc P y f g Q else Q (.c M5) g)
theorem BN(J:f0 X (OP op) r)(l:f0 X (OP op') r')(i:f0 X (OP op'') r'')(G:PE X a ta)(L:PE X b w)(N:PE X c tc)(K:PE X d P)
  (M:XT [op,op',op''] [b,c,d]=M5:=by with_unfolding_all rfl):PT X (.Compare a [op,op',op''] [b,c,d] aa) (yD<|xo r r' r'' ta w tc P):=by
 intro f s g H Q I h;refine isTrue_chain (dy (G f s g H _ I h) λv O ⟨x,S,R,V,q1⟩=>test_link (dy (L f O g S _ R q1) λu T ⟨y,U,W,o,q2⟩=>
  dy (J f T g U x y v u _ W V o q2) λdd Y ⟨z,p,q,Z,k,e,D⟩=>?_)) M
 subst e;cases Z;refine OT ?_;cases k with
 |false=>
  obtain⟨m,j,n⟩:=D;cases j;exact ite_ff ⟨p,q,n⟩
 |true=>
  refine ite_tt<|test_link<|dy (N f Y g p _ q D) λt s4 ⟨A,H4,I4,B,q4⟩=>dy (l f s4 g H4 y A u t _ I4 o B q4) λdd s5 ⟨z',C,F,r5,m,j,E⟩=>?_;subst j;cases r5;refine OT ?_;cases m with
  |false=>
   obtain⟨m,j,n⟩:=E;cases j;exact ite_ff ⟨C,F,n⟩
  |true=>
   refine ite_tt<|test_last<|dy (K f s5 g C _ F E) λw' s6 ⟨z2,H6,I6,r6,q6⟩=>dy (i f s6 g H6 A z2 t w' _ I6 B r6 q6) λd' s7 ⟨z3,H7,I7,r7,k3,e3,q7⟩=>?_;subst e3;cases r7;exact OT ⟨H7,I7,q7⟩
end
end L2
namespace L2.Pu
section
variable{X:Cx}{E:a0r}{a b c d:Expr}{pos:RV}{K:ND}
def Hd(f e:a0Z)(h i:FD)(y:D):FD:=λa=>M.v (h a) λw=>M.v (M.f<|f y w) λz=>M.v (M.f<|asB z) λc=>if c=M3 then M.v (i a) (λg=>M.f<|e w g)else M.f5 (.c M5)
def oA(o j e:a0Z)(f g h i:FD):FD:=λd=>M.v (f d) λa=>M.v (g d) λb=>M.v (M.f<|o a b) λz=>M.v (M.f<|asB z) λc=>if c=M3 then Hd j e h i b d else M.f5 (.c M5)
theorem run.later{c i:Type}{R:Hp->c->i->Prop}{F:Fx}{j:St}{m:M c}{H w:Hp}{Q:i->Hp->Prop}{a:Bg}(t:To F H w a)(h:run R F E j m H Q a):run R F E j m w Q a:=by
 obtain⟨k,f,e,q⟩:=h;refine⟨k,f,e,?_⟩;cases k with
 |ok d=>exact λv g b=>q v g<|t.trans b
 |error C=>exact λg b=>q g<|t.trans b
theorem yF(l:bq K r o)(X:bq K r' o')(C:bq K s x)(I:tV K (oA o o' x f g h i) E σ H Q):xo r r' s (tV K f E) (tV K g E) (tV K h E) (tV K i E) σ H Q:=by
 obtain⟨F,D,β,fr,J,I⟩:=I;refine⟨F,D,β,fr,J,(run.bind (R:=b_ K F) I).mono λv H1 j=>nS j λd G t hd r1=>⟨F,D,G,t.fr,J.tr<|t.tr fr,(run.bind (R:=b_ K F) r1).mono λZ H2 j=>nS j λM a t2 m r2=>?_⟩⟩;obtain⟨z,P,r3⟩:=run.f5 r2;obtain⟨c,ec,A⟩:=run.f5 r3;rw[jI ec]at P;have L:=J.tr<|(t.tr fr).trans<|t2.tr t.fr;refine l F H2 a _ d M _ v Z t2.fr (b_.tr (t2.tr t.fr) _ _ hd) m P λvz H3 t3 hz=>⟨c,hz,?_⟩;cases c with
 |true=>
  rw[Ng rfl]at A;have N:=b_.tr (t3.tr t2.fr) _ _ m;have n:=L.tr<|t3.tr t2.fr;have r5:=run.later t3 A;refine⟨F,D,a,t3.fr,n,(run.bind (R:=b_ K F) r5).mono λw H4 j=>nS j λS b t4 p r6=>?_⟩;obtain⟨z',u,r7⟩:=run.f5 r6;obtain⟨V,O,B⟩:=run.f5 r7;rw[jI O]at u;refine X F H4 b _ M S _ Z w t4.fr (b_.tr (t4.tr t3.fr) _ _ N) p u λaa H5 t5 T=>⟨V,T,?_⟩;cases V with
  |true=>
   rw[Ng rfl]at B;refine⟨F,D,b,t5.fr,n.tr<|(t4.tr t3.fr).trans<|t5.tr t4.fr,(run.bind (R:=b_ K F)<|run.later t5 B).mono λw' H6 ⟨U,W,t6,y,r9⟩=>?_⟩;obtain⟨d3,e3,k⟩:=run.p3 r9;exact C F H6 W Q S U d3 w w' t6.fr (b_.tr ((t5.tr t4.fr).trans<|t6.tr t5.fr) _ _ p) y e3 k
  |false=>
   rw[Nf Nb]at B;obtain⟨rr,Y,e,q⟩:=B;cases e;exact q _ H5 t5 rfl
 |false=>
  rw[Nf Nb]at A;obtain⟨rr,Y,e,q⟩:=A;cases e;exact q _ H3 t3 rfl
theorem EF(m:f0 X (OP op) r)(j:f0 X (OP v) z)(e:f0 X (OP s) x)(l:bq X.K r o)(n:bq X.K z A)(k:bq X.K x y)(w:PE X a<|tV X.K f E)(p:PE X b<|tV X.K g E)(t:PE X c<|tV X.K h E)(D:PE X d<|tV X.K i E)(G:XT [op,v,s] [b,c,d]=M5:=by with_unfolding_all rfl):
  PT X (.Compare a [op,v,s] [b,c,d] pos) (gt X.K (fB<|oA o A y f g h i) E):=(BN m j e w p t D G).imp λu H Q q=>yF l n k<|oZ q
variable{st:OB}{ab:Hp}{B:Ow}{bg:a0s}{H H':Hp}{δ:Ds}{β aa:Bg}{σ:St}
theorem aU.put2{H:Hp}{P:M6->Prop}(p:P r)(e:H r=My (.l f))(a:ba K F H g f):∀{b:a0o} {c:a0n} (j:Nat),aU K F H P b c->aU K F H P (b.set j g) (c.set j r)
 |[],[],_,_=>trivial
 |_::_,_::_,0,h=>⟨p,⟨f,e,a⟩,h.2.2⟩
 |_::_,_::_,j+1,h=>⟨h.1,h.2.1,aU.put2 p e a j h.2.2⟩
 |[],_::_,_,h=>h.elim
 |_::_,[],_,h=>h.elim
theorem fw{b:Type}{x y:b}:∀{l:List b} {j:Nat},x∈l.set j y->x=y\/x∈l
 |[],_,h=>by cases h
 |a::l,0,h=>by
  rcases Nn.mp h with rfl|h
  .exact .inl rfl
  .exact .inr (M2 _ h)
 |a::l,j+1,h=>by
  rcases Nn.mp h with rfl|h
  .exact .inr M7
  .rcases fw h with z|z
   .exact .inl z
   .exact .inr (M2 _ z)
theorem tL:∀{b:a0n} {j:Nat},b.Nodup->r∉b->(b.set j r).Nodup
 |[],_,h,_=>h
 |a::b,0,h,n=>N2.mpr ⟨λz=>n<|M2 _ z,(N2.mp h).2⟩
 |a::b,j+1,h,n=>N2.mpr ⟨λz=>(by
  rcases fw z with z|z
  .exact n (z▸M7)
  .exact(N2.mp h).1 z),tL (N2.mp h).2 λz=>n<|M2 _ z⟩
theorem ee.putRow{H1 g:Hp}{β1 S:Bg}{a r:M6}{D:a0n}{X:a0o}(E:ee K ab B bg H δ β σ)(t:ee K ab B bg g δ S σ)(s2:hC B H B g)(kk:∀c o,H c=My o->B c≠My 1->g c=My o)
  (hs:σ[i]?=My (My<|.r a)) (hB:B a=My (i+2)) (ha:g a=My (.l<|D.map V.r)) (U:H a=My (.l<|D.map V.r)) (nd:(a::D).Nodup) (rl:aU K (d5 B bg) g (λr=>B r=My (i+2)) X D) (G:H r=M0) (R:g r=My (.l xs)) (hn:noLs ds=M3) (hd:ba K (d5 B bg) g ds xs) (J:∀c∈D,H c≠M0) (W:∀w∈X,noLs w=M3):
  ∃B',ee K ab B' bg (upd g a<|.l<|(D.map V.r).set j<|.r r) (δ.set i<|My<|.grd<|X.set j ds) S σ/\hC B H B' (upd g a<|.l<|(D.map V.r).set j<|.r r):=by
 classical
 have C:B r=M0:=Pc λz=>E.fr.occ r z G;have u:a≠r:=λz=>by rw[<-z,U]at G;cases G
 have Y:r∉D:=λz=>J r z G;have own:∀c,c∈D->B c=My (i+2):=λc hc=>(rl.all c hc).1;have nb:∀b l,bg=My (b,l)->b≠r/\l≠r:=λb l e=>by
  obtain⟨M,I⟩:=E.bgt b l e;exact⟨λz=>(by rw[z,C]at M;cases M),λz=>(by rw[z,C]at I;cases I)⟩
 have Z:∀b l,bg=My (b,l)->b≠a/\l≠a:=λb l e=>by
  obtain⟨M,I⟩:=E.bgt b l e;exact⟨λz=>(by rw[z,hB]at M;cases M),λz=>(by rw[z,hB]at I;cases I)⟩
 have L:hC B H (λc=>if c=r then My (i+2)else B c) (upd g a<|.l<|(D.map V.r).set j<|.r r):=by
  refine⟨λc o h n=>?_,λc hc=>?_,λc o h n=>?_,λc hc=>?_⟩
  .rw[bb (λz=>by subst z;rw[hB]at n;rcases n with n|n<;>cases n)]
   exact s2.kp c o h n
  .have:c≠r:=λz=>by rw[z,C]at hc;rcases hc with hc|hc<;>cases hc
   simp only[Nf this]
  .have:c≠r:=λz=>by rw[z,G]at h;cases h
   simp only[Nf this];exact n
  .by_cases z:c=a
   .subst z;rw[aq];simp
   .rw[bb z];exact s2.al c hc
 have x:Tr (d5 B bg) H (d5 (λc=>if c=r then My (i+2)else B c) bg) (upd g a<|.l<|(D.map V.r).set j<|.r r):=L.tr;refine⟨λc=>if c=r then My (i+2)else B c,⟨⟨λc hc z=>?_,λb l e=>?_,λb l e=>?_⟩,λb l e=>?_,by rw[N9,E.len],λc hc=>?_,λc k hc=>?_,λc k hc=>(by
  have f:(if c=r then My (i+2)else B c)=My (k+2):=hc;by_cases w:c=a
  .subst w;exact .inl ⟨_,aq⟩
  .by_cases z:c=r
   .subst z;exact .inl ⟨xs,by rw[bb w];exact R⟩
   .rw[Nf z]at f;exact(t.lst c k f).imp λo y=>by rw[bb w];exact y),λk s e=>?_⟩,L⟩
 .by_cases q:c=a
  .subst q;rw[aq]at z;cases z
  .rw[bb q]at z
   by_cases w:c=r
   .subst w;rw[R]at z;cases z
   .have f:(if c=r then My (i+2)else B c)≠M0:=hc
    rw[Nf w]at f;exact t.fr.occ c f z
 .obtain⟨N,O⟩:=nb b l e
  obtain⟨M,I⟩:=E.bgt b l e;refine⟨?_,?_,(E.fr.bgA b l e).2.2⟩
  .show(if b=r then My (i+2)else B b)≠M0
   rw[Nf N,M];simp
  .show(if l=r then My (i+2)else B l)≠M0
   rw[Nf O,I];simp
 .obtain⟨N,O⟩:=Z b l e
  rw[bb N,bb O];exact t.fr.bag b l e
 .obtain⟨N,O⟩:=nb b l e
  simp only[Nf N,Nf O];exact E.bgt b l e
 .by_cases z:c=a
  .subst z;rw[aq];simp
  .rw[bb z];exact t.cov c hc
 .have f:(if c=r then My (i+2)else B c)=My (k+2):=hc
  by_cases z:c=r
  .cases w:ab c with
   |none=>rfl
   |some o=>exact NH (z▸G) (E.cov c<|by rw[w];simp)
  .rw[Nf z]at f;exact E.new c k f
 .rw[OO]at e
  by_cases q:i=k
  .subst q
   rw[Ng rfl]at e;split at e
   .cases e
    have aa:=aU.put2 (P:=λc=>c=r\/B c=My (i+2)) (.inl rfl) R hd j<|aU.tr (Tr.refl _ _) rl λc ys _ p y=>⟨.inr p,y⟩;have ac:aU K (d5 B bg) (upd g a<|.l<|(D.map V.r).set j<|.r r) (λc=>c=r\/B c=My (i+2)) (X.set j ds) (D.set j r):=aU.tr (⟨λ_ n _=>n,λc o n h=>by rw[bb (λz=>n (by subst z;show B c≠M0;rw[hB];simp))];exact h,rfl⟩) aa λc ys hc p y=>⟨p,by
     rw[bb (λz=>by
      subst z;rcases fw hc with w|w
      .exact u w
      .exact(N2.mp nd).1 w)]
     exact y⟩
    have ad:∀c∈D.set j r,(if c=r then My (i+2)else B c)=My (i+2):=λc hc=>by
     rcases fw hc with w|w
     .rw[Ng w]
     .split
      .rfl
      .exact own c w
    refine⟨_,hs,a,D.set j r,rfl,by simp only[Nf u];exact hB,by rw[aq,Pd],N2.mpr ⟨λz=>?_,tL (N2.mp nd).2 Y⟩,aU.noL (F:=d5 B bg) (λc hc=>?_) (λw hw=>?_) ac ad⟩
    .rcases fw z with w|w
     .exact u w
     .exact(N2.mp nd).1 w
    .have f:(if c=r then My (i+2)else B c)≠M0:=hc
     by_cases w:c=r
     .subst w;exact .inr<|.inl ⟨xs,by rw[bb u.symm];exact R⟩
     .rw[Nf w]at f;exact .inl f
    .rcases fw hw with w|w
     .subst w;exact hn
     .exact W _ w
   .cases e
  .rw[Nf q]at e
   obtain⟨v,h1,T⟩:=E.tell k s e;refine⟨v,h1,?_⟩;have na:∀c,B c=My (k+2)->c≠a:=λc m z=>by subst z;rw[hB]at m;cases m;exact q rfl
   have nr:∀c,H c≠M0->c≠r:=λc hc z=>hc<|z▸G;have k3:∀c o,H c=My o->B c=My (k+2)->upd g a (.l<|(D.map V.r).set j<|.r r) c=My o:=λc o h h'=>by
    rw[bb<|na c h'];exact kk c o h (by rw[h'];intro z;cases z)
   cases s with
   |h d=>exact b_.tr x _ _ T
   |u cs=>
    obtain⟨c,zs,Q,m,A,e4⟩:=T;exact⟨c,zs,Q,by simp only[Nf<|nr c<|by rw[A];simp];exact m,k3 c _ A m,ba.tr x _ _ e4⟩
   |grd rows2=>
    obtain⟨c,qs,Q,m,A,e4,e5⟩:=T;exact⟨c,qs,Q,by simp only[Nf<|nr c<|by rw[A];simp];exact m,k3 c _ A m,e4,aU.tr x e5 λr' zs _ p y=>⟨by simp only[Nf<|nr r'<|by rw[y];simp];exact p,k3 r' _ y p⟩⟩
   |odc b ks vs=>
    obtain⟨c,Q,m,A⟩:=T;exact⟨c,Q,by simp only[Nf<|nr c A.ne];exact m,A.tr x λo z=>k3 c o z m⟩
def uU(i:Nat)(e f:FD):G:=λδ β=>match f (vw δ) β with
 |some (.ok d,β1)=>match e (fh δ) β1 with
  |some (.ok (.n ka),β2)=>match δ.getD i M0 with
   |some (.u ds)=>match lb (Uc ds) ka with
    |some a=>My (.nx<|δ.set i<|My<|.u<|ds.set a d,β2)
    |none=>M0
   |_=>M0
  |_=>M0
 |_=>M0
theorem JC(h:PS X st<|gr (tV X.K s E)<|wq (kZ i) (tV X.K fa E) qq):PS X st (tG X.K X.H₀ (uU i fa s) E):=h.imp λD σ H A=>by
 obtain⟨B,bg,δ,β,o,aa,ok,e,q⟩:=A;refine⟨d5 B bg,vw δ,β,ok.fr,ok.view,?_⟩;unfold uU at e;split at e
 .rename_i d β1 C
  refine⟨.ok d,_,C,λv G t1 b=>?_⟩;obtain⟨f,I⟩:=ok.to rfl t1;split at e
  .rename_i ka β2 J
   split at e
   .rename_i ds r
    split at e
    .rename_i ja L
     cases e;obtain⟨w,m,a,xs,rfl,hB,M,Q⟩:=f.tell i _<|getD_some r;refine⟨_,m,j2 B bg,fh δ,β1,f.p3,f.f5,.ok<|.n ka,_,J,λy R t2 c=>?_⟩;cases c;obtain⟨g,t⟩:=f.to (F:=j2 B bg) rfl t2;obtain⟨T,u,P,j,N,n,k,l⟩:=g.tell i _<|getD_some r;rw[m]at u;cases u;cases N;refine⟨a,j,ka,ja,rfl,rfl,k,by rw[<-l.f5];exact L,?_⟩;obtain⟨p,O⟩:=g.writeOwn (ds:=ds.set ja d) (xs:=j.set ja v) m n k<|ba.set ja l<|b_.tr t.tr _ _ b;exact q _ _ _ (I.trans<|t.trans O) p
    .cases e
   .cases e
  .cases e
 .cases e
theorem ee.AtoB(a:ee K ab B bg H δ β σ):∀c,(d5 B bg).A c->(j2 B bg).A c\/tD H c:=λc f=>by
 have e:B c≠M0:=f;cases q:B c with
 |none=>exact NH q e
 |some k=>
  match k,q with
  |0,q=>exact .inl<|.inl q
  |1,q=>exact .inl<|.inr q
  |k+2,q=>exact .inr<|a.lst c k q
theorem ee.noB{d:D}(a:ee K ab B bg H δ β σ)(b:noL d=M3)(h:b_ K (j2 B bg) H d v):b_ K (d5 B bg) H d v:=xM a.AtoB d v b h
theorem ee.noBs(a:ee K ab B bg H δ β σ)(b:noLs ds=M3)(h:ba K (j2 B bg) H ds e):ba K (d5 B bg) H ds e:=noLs_den a.AtoB ds e b h
def ox(i:Nat)(e f g:FD):G:=λδ β=>match g (fh δ) β with
 |some (.ok d,β1)=>match e (fh δ) β1 with
  |some (.ok (.n ka),β2)=>match f (fh δ) β2 with
   |some (.ok (.n kb),β3)=>match δ.getD i M0 with
    |some (.grd a_)=>match lb (Uc a_) ka with
     |some a=>match a_[a]? with
      |some b=>match lb (Uc b) kb with
       |some c=>if noL d=M3 then My (.nx<|δ.set i<|My<|.grd<|a_.set a<|b.set c d,β3)else M0
       |none=>M0
      |none=>M0
     |none=>M0
    |_=>M0
   |_=>M0
  |_=>M0
 |_=>M0
theorem mr(h:PS X st<|gr (tV X.K fv E)<|wq (P_ (yU X.K) (kZ i)<|tV X.K fa E) (tV X.K fb E) qq):PS X st (tG X.K X.H₀ (ox i fa fb fv) E):=h.imp λD σ H h_=>by
 obtain⟨B,bg,δ,β,o,aa,ok,e,q⟩:=h_;refine⟨j2 B bg,fh δ,β,ok.p3,ok.f5,?_⟩;unfold ox at e;split at e
 .rename_i d β1 e1
  refine⟨.ok d,_,e1,λv H1 t1 G=>?_⟩;obtain⟨f,s1⟩:=ok.to rfl t1;split at e
  .rename_i ka β2 e2
   split at e
   .rename_i kb β3 e3
    split at e
    .rename_i a_ O
     split at e
     .rename_i ja ea
      split at e
      .rename_i ds er
       split at e
       .rename_i jb eb
        split at e
        .rename_i Q
         cases e;have G:=f.noB Q G;obtain⟨w,N,a,rs,rfl,hB,ha,nd,rl⟩:=f.tell i _<|getD_some O;refine⟨_,N,j2 B bg,fh δ,β1,f.p3,f.f5,.ok<|.n ka,β2,e2,λy H2 t2 hy=>?_⟩;cases hy;obtain⟨j,P⟩:=f.to (F:=j2 B bg) rfl t2;obtain⟨w2,S,a2,g,ew,k,m,ab,n⟩:=j.tell i _<|getD_some O;rw[N]at S;cases S;cases ew;obtain⟨r,xs,R,hp,hx,dl⟩:=n.at er;refine⟨a,g.map V.r,ka,.r r,rfl,rfl,en.of m,?_,?_⟩
         .unfold p4
          rw[MZ,<-n.len,ea];show(g.map V.r)[ja]?=_;rw[Nk,R];rfl
         .refine⟨j2 B bg,fh δ,β2,j.p3,j.f5,.ok<|.n kb,_,e3,λz s t3 hz=>?_⟩
          cases hz;obtain⟨p,x⟩:=j.to (F:=j2 B bg) rfl t3;obtain⟨w3,h3,a3,t,T,U,u,W,A⟩:=p.tell i _<|getD_some O;rw[N]at h3;cases h3;cases T;have Y:g=t:=by
           have c:s a=My (.l<|g.map V.r):=t3.kp a _ m (λb l y=>⟨λw=>(by subst w;rw[(ok.bgt _ _ y).1]at k;cases k),λw=>(by subst w;rw[(ok.bgt _ _ y).2]at k;cases k)⟩);rw[u]at c;have k2:t.map V.r=g.map V.r:=by injection c with c;injection c
           exact(UH (λa b q=>by cases q;rfl)|>.mp k2).symm
          subst Y;obtain⟨r',C,I,ac,J,L⟩:=A.at er;rw[R]at I;cases I;have Z:b_ X.K (d5 B bg) s d v:=b_.tr (x.tr) _ _<|b_.tr (P.tr) _ _ G;refine⟨r,C,kb,jb,rfl,rfl,J,by rw[<-L.f5];exact eb,?_⟩;obtain⟨M,s4⟩:=p.writeRow (ds:=ds.set jb d) (xs:=C.set jb v) N U u W A R J<|ba.set jb L Z;exact q _ _ _ (s1.trans<|P.trans<|x.trans s4) M
        .cases e
       .cases e
      .cases e
     .cases e
    .cases e
   .cases e
  .cases e
 .cases e
def uS(i:Nat)(e:FD)(f:FL):G:=λδ β=>match f (fh δ) β with
 |some (.ok ds,β1)=>match e (fh δ) β1 with
  |some (.ok (.n ka),β2)=>match δ.getD i M0 with
   |some (.grd a_)=>match lb (Uc a_) ka with
    |some a=>if(noLs ds&&a_.all noLs)=M3 then My (.nx<|δ.set i<|My<|.grd<|a_.set a ds,β2)else M0
    |none=>M0
   |_=>M0
  |_=>M0
 |_=>M0
theorem BF(h:PS X st<|gr (x_ X.K fv E)<|wq (kZ i) (tV X.K fa E) qq):PS X st (tG X.K X.H₀ (uS i fa fv) E):=h.imp λD σ H W=>by
 obtain⟨B,bg,δ,β,o,aa,ok,e,q⟩:=W;refine⟨j2 B bg,fh δ,β,ok.p3,ok.f5,?_⟩;unfold uS at e;split at e
 .rename_i ds β1 Y
  refine⟨.ok ds,_,Y,λv H1 t1 Z=>?_⟩;obtain⟨r,P,rfl,d,u,S⟩:=Z;obtain⟨f,Q⟩:=ok.to rfl t1;split at e
  .rename_i ka β2 e2
   split at e
   .rename_i a_ ec
    split at e
    .rename_i ja ea
     split at e
     .rename_i hn
      cases e;rw[NN]at hn;obtain⟨w,R,a,G,rfl,hB,M,s,T⟩:=ok.tell i _<|getD_some ec;refine⟨_,R,j2 B bg,fh δ,β1,f.p3,f.f5,.ok<|.n ka,_,e2,λy A t2 x=>?_⟩;cases x;obtain⟨C,I⟩:=f.to (F:=j2 B bg) rfl t2;have g:∀c,B c≠My 1->∀b l,bg=My (b,l)->c≠b/\c≠l:=λc t b l e=>⟨λz=>t<|z▸(ok.bgt b l e).1,λz=>t<|z▸(ok.bgt b l e).2⟩;have J:∀c o,H c=My o->B c≠My 1->A c=My o:=λc o h n=>t2.kp c o (t1.kp c o h<|g c n)<|g c n;have L:B r=M0:=Pc λz=>ok.fr.occ r z d;have N:A r=My (.l P):=t2.kp r _ u (g r<|by rw[L];simp);have U:∀c,B c=My (i+2)->B c≠My 1:=λc h=>by rw[h];intro z;cases z
      have k:=J a _ M<|U a hB;have m:aU X.K (d5 B bg) A (λr=>B r=My (i+2)) a_ G:=aU.tr (Q.trans I).tr T λc ys _ p y=>⟨p,J c _ y<|U c p⟩;refine⟨a,G.map V.r,ka,ja,rfl,rfl,k,by rw[MZ,<-m.len];exact ea,?_⟩;obtain⟨B',O,s3⟩:=ee.putRow (i:=i) (j:=ja) (r:=r) (ds:=ds) (β1:=β1) (H1:=H1) ok C (Q.trans I) J R hB k M s m d N hn.1 (ba.tr I.tr _ _<|f.noBs hn.1<|ba.tr Fx.f5 _ _ S) (λc t z=>by
       obtain⟨_,ys,y⟩:=T.all c t;rw[y]at z;cases z) (λw hw=>OM.mp hn.2 w hw)
      exact q _ _ _ s3 O
     .cases e
    .cases e
   .cases e
  .cases e
 .cases e
variable{e:Expr}{z:List Expr}
def zO(x y:D):a0x:=match x,y with
 | .l a,.l b=>if Uc a+Uc b<=Nw then My (a++b)else M0
 |_,_=>M0
def o2(c:D->D->a0x)(f g:FD):FL:=λδ=>M.v (f δ) λa=>M.v (g δ) λb=>M.f<|c a b
theorem LZ(z:PE X a<|tV X.K f E)(A:PE X b<|tV X.K g E):PE X (.BinOp a .Add b pos) (x_ X.K (o2 zO f g) E):=
 (dR xK z A).imp λσ H Q i=>ix i λF δ β fr u r=>⟨F,δ,β,fr,u,(run.bind (R:=b_ X.K F) r).mono λv P i=>nS i λd e t B w=>⟨F,δ,e,t.fr,u.tr<|t.tr fr,(run.bind (R:=b_ X.K F) w).mono λC I i=>by
  obtain⟨S,D,t2,m,n⟩:=i;obtain⟨V,h,k⟩:=run.p3 n;have o:=b_.tr (t2.tr t.fr) _ _ B;unfold zO at h;split at h
  .split at h
   .cases h
    obtain⟨p,G,rfl,w,j⟩:=b_.rdL o;obtain⟨q,M,rfl,n,l⟩:=b_.rdL m;exact⟨p,q,G,M,rfl,rfl,w,n,by rw[<-j.f5,<-l.f5];assumption,λc y=>k _ _ (t2.fr.upd _ y)<|fL.new (t.trans t2) y<|j.append l⟩
   .cases h
  .cases h⟩⟩
def slO:D->a0q->a0q->a0x
 | .l xs,lo,hi=>My<|iR xs lo hi
 |_,_,_=>M0
def Zx(f:FD)(a g:a1b):FL:=λδ=>M.v (f δ) λd=>M.v (j7 a δ) λl=>M.v (j7 g δ) λh=>M.f<|slO d l h
theorem Ir{B o:Option Expr}{fl q:a1b}{p2:RV}(y:PE X e<|tV X.K f E)(A:sM X B fl E)(C:sM X o q E):PE X (.Subscript e (.Slice B o M0 p2) pos) (x_ X.K (Zx f fl q) E):=
 (o9 rG y A C).imp λσ H Q g=>ix g λF δ β fr i r=>⟨F,δ,β,fr,i,(run.bind (R:=b_ X.K F) r).mono λv V ⟨d,w,t,D,G⟩=>
  ⟨F,δ,w,t.fr,i.tr<|t.tr fr,(run.bind (R:=λ_ (a b:a0q)=>b=a) G).mono λl N ⟨O,z,t2,j,I⟩=>
   ⟨F,δ,z,t2.fr,i.tr<|(t.tr fr).trans<|t2.tr t.fr,(run.bind (R:=λ_ (a b:a0q)=>b=a) I).mono λh T g=>by
    obtain⟨s,M,t3,m,J⟩:=g;subst j m;obtain⟨c,e,k⟩:=run.p3 J;have n:=b_.tr ((t2.tr t.fr).trans<|t3.tr t2.fr) _ _ D;cases d<;>first
     |(cases e;obtain⟨a,P,rfl,S,L⟩:=b_.p3 n;exact⟨a,P,rfl,S,λp u=>k _ _ (t3.fr.upd _ u)<|fL.new ((t.trans t2).trans t3) u<|L.cut l h⟩)
     |cases e⟩⟩⟩
noncomputable def Y6(K:ND)(l:M6):It:=
 ⟨λi H=>∃a x,en K H l a/\a[i]?=My x,
  λi H v H'=>∃p x,H p=M0/\v= .r p/\H'=upd H p (.t [.n (i:Int),x])/\∀a,en K H l a->a[i]?=My x,
  λi H=>∃a,en K H l a/\Uc a=i⟩
theorem AD{P:NY}{w:N6}{K:ND}{x1}{pos:RV}(l e a:M6)(t:e≠a):
  ni P w K (.Tuple elts x1 pos) (Y6 K l) [e,a] e (λi h=>(∃f,IsEnum h e a (i:Int) f)/\h.IsListIter a l i) where
 mem:=by simp
 obj:=λi h st b j=>by
  obtain⟨⟨f,m⟩,p⟩:=st;simp only[Nn,OW,RQ]at j;rcases j with rfl|rfl
  .exact⟨_,m,λv q=>by cases q⟩
  .obtain⟨o,q,_,d⟩:=p
   exact⟨o,q,λv z=>by rw[d]at z;cases z⟩
 keep:=λi h D st k=>by
  obtain⟨⟨f,m⟩,p⟩:=st;exact⟨⟨f,k e (by simp) _ m⟩,p.at λo q=>k a (by simp) o q⟩
 item:=by
  intro X J L N O i r s σ H E I y st Q;subst J L N;obtain⟨xs,x,c,M⟩:=Q;obtain⟨⟨f,m⟩,p⟩:=st;obtain⟨g,G,R⟩:=bx.src (b:=M3) I c;have S:=I.ok.hd O;have ne:l≠e:=bx.f5 (b:=M3) I c (y e<|by simp);have T:l≠a:=bx.f5 (b:=M3) I c (y a<|by simp);have k1:i<g.toArray.size:=by
   rw[NG,<-G.length];exact(Nd.mp M).1
  refine wpAny_pyNext_enum_itemD (Xg (show(X.A.in1).handled=M0 from S) a l T g.toArray) m ⟨p,R⟩ k1 t (by simp[t,ne.symm]) λu D U pu Y f1 Z sz V=>?_;refine⟨_,rfl,wpAny_letOwnedTupleGo_enum (s:={s with heap:=D,toks:=U+1}) Y λC F B=>?_⟩
  replace B:N1 e D C:=B
  have zT:s.heap.objs.size≠e:=P7<|NI m;obtain⟨u',W,ru⟩:=G.get M;have eu:u=u':=by
   have:g[i]?=My u:=by simpa using pu
   rw[this]at W;exact N0 W
  subst eu;have kk:∀b o,b∉[e,a]->s.heap.get? b=My o->C.get? b=My o:=λb o j q=>by
   simp only[Nn,OW,RQ,not_or]at j;exact B.extBut b o j.1<|V b o j.1 j.2 q
  have I2:bx X r σ (upd H s.heap.objs.size<|.t [.n (i:Int),x]) {s with heap:=C,toks:=U+1}:=by
   refine bx.turnNew I y kk (Nh _) ⟨by show 2<=Nw;decide,[.int i U,u],.cons ⟨_,rfl⟩<|.cons ru .nil,_,B.extBut _ _ zT Z,rfl,_,rfl⟩
  refine⟨.r s.heap.objs.size,_,I2,rfl,⟨s.heap.objs.size,x,I.hok.fresh<|Nh _,rfl,rfl,λas h1=>by rw[bx.src_inj (b:=M3) I h1 c];exact M⟩,⟨⟨_,by simpa using F⟩,?_⟩,λb j=>?_⟩
  .exact f1.1.at λo q=>B.extBut _ _ t.symm q
  .rw[bb]
   .exact(y b j).1
   .intro q
    have ol:∃o,s.heap.get? b=My o:=by
     simp only[Nn,OW,RQ]at j;rcases j with rfl|rfl
     .exact⟨_,m⟩
     .obtain⟨o,z,_⟩:=p;exact⟨o,z⟩
    obtain⟨o,z⟩:=ol;exact NH (NI z) (by rw[q];exact Oi _)
 done:=by
  intro X J L N O i r s σ H E I y st Q;subst J L N;obtain⟨xs,c,hl⟩:=Q;obtain⟨⟨f,m⟩,p⟩:=st;obtain⟨g,G,R⟩:=bx.src (b:=M3) I c;have S:=I.ok.hd O;have T:l≠a:=bx.f5 (b:=M3) I c (y a<|by simp);have g1:g.toArray.size=i:=by rw[NG,<-G.length,hl]
  refine wpAny_pyNext_enum_endD (n:=g.toArray.size) (Xg (show(X.A.in1).handled=M0 from S) a l T g.toArray) m (by rw[g1];exact⟨p,R⟩) λD V=>⟨rfl,?_⟩;refine bx.turnL (t':=s.toks) I y λb o j q=>?_;simp only[Nn,OW,RQ,not_or]at j;exact V b o j.2 q
 self:=λ_ _ _ _ _ st h=>by
  obtain⟨⟨f,m⟩,p⟩:=st;exact wpAny_pyIter_enum m h
def iEn(K:ND)(f:TA):TI:=λσ H R=>f σ H λb a=>∃l c,b=[.r l]/\en K a l c/\R (Y6 K l) a
theorem Ia{a:Expr}{p pos:RV}{F}(n:Gl X "enumerate")(B:X.mg "enumerate"=M0)(D:PA X [a] J)(E:Nr [a] X.e=[(M5,OS a X.e)]:=by rfl):
  PI X (.Tuple x F C) (.Call (.Name "enumerate" p) [a] [] pos) (iEn X.K J):=by
 intro f s σ H R I h;refine Call_ (gT I n B Boot.«enumerate»<|O1 (dy (D pos f s σ H _ I h) λP g ⟨S,w,j,G,d⟩=>?_) (by rw[E];rfl)<|by rfl);obtain⟨l,V,e,d,q⟩:=d;subst e;cases G with
 |cons r o=>
  cases o;cases r;obtain⟨t,A,u⟩:=bx.src (b:=M3) j d;refine call_enumerate_list u λz k v L M=>?_;refine wpAny_pyIter_enum (s:={g with heap:=z}) k ?_;have y:bx X f σ w {g with heap:=z}:=j.kept (t':=g.toks) M;refine⟨_,[g.heap.objs.size+1,g.heap.objs.size],_,Y6 X.K l,w,rfl,y,AD l (g.heap.objs.size+1) g.heap.objs.size<|Nat.succ_ne_self _,⟨⟨_,k⟩,v⟩,λc m=>?_,q⟩;have i:g.heap.objs.size<=c:=by
   simp only[Nn,OW,RQ]at m;rcases m with rfl|rfl
   .exact P3 _ _
   .exact Nh _
  exact j.fpOk i<|j.hok.fresh i
noncomputable def eM:Nat->a0e->a0e
 |_,[]=>[]
 |n,x::xs=> .t [.n (n:Int),x]::eM (n+1) xs
theorem uc:∀(n:Nat) (a:a0e),Uc (eM n a)=Uc a
 |_,[]=>rfl
 |n,x::a=>by
  show(eM (n+1) a).length+1=Uc a+1;rw[uc (n+1) a]
theorem ud:∀{n:Nat} {b:a0e} {i:Nat} {d:D},(eM n b)[i]?=My d->∃x,b[i]?=My x/\d= .t [.n ((n+i:Nat):Int),x]
 |n,[],i,d,h=>by simp[eM]at h
 |n,x::b,0,d,h=>by
  simp[eM]at h;exact⟨x,rfl,by rw[<-h];simp⟩
 |n,x::b,i+1,d,h=>by
  have c:(eM (n+1) b)[i]?=My d:=by simpa[eM]using h
  obtain⟨a,f,g⟩:=ud c;exact⟨a,by simpa using f,by rw[g,show n+1+i=n+(i+1) by lia]⟩
def He:a0e->a0x
 |[.l xs]=>My<|eM 0 xs
 |_=>M0
theorem FP{H:Hp}(o:∀g f,Tr F H g f->∃a,en K f l a/\ba K g f s a):r4 K (Y6 K l) F H (eM 0 s):=λg f c t fr i=>by
 obtain⟨a,h,b⟩:=o g f t;refine⟨λd e=>?_,λj=>?_⟩
 .obtain⟨x,q,rfl⟩:=ud e
  obtain⟨u,k,w⟩:=b.get q;refine⟨⟨a,u,h,k⟩,λz y r=>?_⟩;obtain⟨p,A,m,rfl,rfl,v⟩:=r;have n:=v a h;rw[k]at n;cases n;rw[Px];exact⟨bW.upd m,b_.newT fr m<|ba.cons rfl<|ba.cons w ba.nil⟩
 .rw[uc]at j
  exact⟨a,h,by rw[<-b.f5,j]⟩
def GZ(g:FL):FL:=bP He g
theorem DC{a:Expr}{p pos:RV}{C}(o:Gl X "enumerate")(d:X.mg "enumerate"=M0)(w:PA X [a]<|h8 X.K g E)(B:Nr [a] X.e=[(M5,OS a X.e)]:=by rfl):
  PI X (.Tuple s C x) (.Call (.Name "enumerate" p) [a] [] pos) (iV X.K (GZ g) E):=
 (Ia o d w B).imp λσ H R i=>ix i λF δ β fr q h=>⟨F,δ,β,fr,q,(run.bind (R:=ba X.K F) h).mono λV b i=>by
  obtain⟨I,D,t,G,M⟩:=i;obtain⟨l,e,k⟩:=run.p3 M;unfold He at e;split at e
  .rename_i xs
   cases e;obtain⟨v,rfl,n⟩:=ba.p3 G;have z:∃a,v= .r a/\∀j f,Tr F b j f->∃c,en X.K f a c/\ba X.K j f xs c:=by
    obtain⟨a,c,rfl,_⟩:=b_.p3 n;refine⟨a,rfl,λj f t2=>?_⟩;obtain⟨A,m,r,P,u⟩:=b_.p3<|b_.tr t2 _ _ n;cases r;exact⟨m,P,u⟩
   obtain⟨a,rfl,z⟩:=z;obtain⟨S,y,_⟩:=z F b<|Tr.refl F b;exact⟨a,S,rfl,y,k _ b (To.refl t.fr)<|FP z⟩
  .cases e⟩
def oG(K:ND)(g:NL)(b:a0g)(c:a0e):Prop:=∃a f,dN K g b a/\ay f a/\∀F H,ba K F H c f
inductive Sr (α:Type) where
 |kw (j:Nat)|df (a:α)
noncomputable def Sr.f5{b:Type}(z:b)(f:List b):Sr b->b
 | .kw j=>f.getD j z
 | .df a=>a
def gK{a:Type}(z:a)(n k:Nat)(b:List<|Sr a)(c f:List a):List a:=if Uc c=n/\Uc f=k then c++b.map (Sr.f5 z f)else[]
inductive lc {α γ:Type} (R:α->γ->Prop):List (Sr α)->List (Sr γ)->Prop where
 |nil:lc R [] []
 |kw {j:Nat} {a:List (Sr α)} {c:List (Sr γ)}:lc R a c->lc R (.kw j::a) (.kw j::c)
 |df {x:α} {y:γ} {a:List (Sr α)} {c:List (Sr γ)}:R x y->lc R a c->lc R (.df x::a) (.df y::c)
theorem ay.getD:∀{f:a0i} {g:a0f} (j:Nat),ay f g->aT (f.getD j .o) (g.getD j .none)
 |_,_,_,.nil=>rfl
 |_,_,0,.cons r _=>r
 |_,_,j+1,.cons _ t=>ay.getD j t
theorem lc.vals(r:ay zs ws):∀{a:List (Sr V)} {c:List (Sr M8)},lc aT a c->ay (a.map<|Sr.f5 .o zs) (c.map<|Sr.f5 .none ws)
 |_,_,.nil=> .nil
 |_,_,.kw (j:=j) h=> .cons (ay.getD j r)<|lc.vals r h
 |_,_,.df q h=> .cons q<|lc.vals r h
theorem ba.getD{K:ND}{H:Hp}:∀{ds:a0e} {f:a0i} (j:Nat),ba K F H ds f->b_ K F H (ds.getD j .o) (f.getD j .o)
 |[],f,j,h=>by have q:f=[]:=h;subst q;rfl
 |d::ds,f,0,h=>by
  obtain⟨x,r,e,g,i⟩:=h;subst e;exact g
 |d::ds,f,j+1,h=>by
  obtain⟨x,r,e,g,i⟩:=h;subst e;exact ba.getD j i
theorem lc.den{K:ND}{H:Hp}(r:ba K F H f zs):∀{a:List (Sr D)} {c:List (Sr V)},lc (λd v=>∀F H,b_ K F H d v) a c->ba K F H (a.map<|Sr.f5 .o f) (c.map<|Sr.f5 .o zs)
 |_,_,.nil=>ba.nil
 |_,_,.kw (j:=j) h=>ba.cons (ba.getD j r)<|lc.den r h
 |_,_,.df q h=>ba.cons (q F H)<|lc.den r h
theorem lc.len{b f:Type}{R:b->f->Prop}:∀{a:List (Sr b)} {c:List (Sr f)},lc R a c->Uc a=Uc c
 |_,_,.nil=>rfl
 |_,_,.kw h=>by rw[Np,Np,lc.len h]
 |_,_,.df _ h=>by rw[Np,Np,lc.len h]
structure s0 (K:ND) (fd:NL) (ps ks:a0g) (n:Nat) (src:List<|Sr D):Prop where
 ex:∃(sv:List<|Sr M8) (sx:List<|Sr V),lc aT sx sv/\lc (λd v=>∀F H,b_ K F H d v) src sx/\∀(s:Na) (us ws:a0f),K.In s.heap->Uc us=n->Uc ws=Uc ks->UU s fd ⟨us,ks.zip ws⟩ (ps.zip<|us++sv.map (Sr.f5 .none ws))
 len:Uc ps=n+Uc src
 pos:0<Uc ps
theorem s0.kb{K:ND}{w a:a0g}(h:s0 K o w a n src):∃(e:List<|Sr M8) (c:List<|Sr V),lc (λd v=>∀F H,b_ K F H d v) src c/\ri K o w a (gK .none n (Uc a) e) (gK .o n (Uc a) c):=by
 obtain⟨e,c,B,k,b⟩:=h.ex;refine⟨e,c,k,λs z j l f=>?_,λ{D z m j} g i=>?_⟩
 .unfold gK at f⊢
  split at f
  .rename_i q
   rw[Ng q];exact b s z j l q.1 q.2
  .exact NH f (by have:=h.pos;simp;lia)
 .unfold gK
  by_cases q:Uc D=n/\Uc m=Uc a
  .rw[Ng q,Ng<|by rw[<-g.length,<-i.length];exact q]
   exact g.append<|lc.vals i B
  .rw[Nf q,Nf<|by rw[<-g.length,<-i.length];exact q]
   exact .nil
variable{p u:RV}{x:N8}{k n:Nat}{f:M6}{c:NL}{a ks:a0g}{b:List Wv}{y:Option N8}
def wG(m:a0e->M D)(g:FL)(a:a0e):FD:=λδ=>M.v (g δ) λb=>m<|b++a
theorem HB{d:a0e}(G:d_ X.p X.w X.K X.mg X.base (e_ X.p X.w) k f c a<|B6 X.K n m)(u:dv k X.A)(v:Gl X x)(V:X.mg x=My (.ref f))(y:Se X.K (.ref f)=M3)(I:oG X.K c a d)(s:bX (e_ X.p X.w) X E)
  (Y:PA X (e::z)<|h8 X.K g E) (Z:∀δ β r aa,g δ β=My (.ok r,aa)->Uc r+Uc d=n) (h:b0c x:=by decide) (J:b0a X e z:=by rfl) (i:b0b X pos z:=by rfl):
  PE X (.Call (.Name x p) (e::z) [] pos) (tV X.K (wG m g d) E):=by
 obtain⟨ds,L,b,N,M⟩:=I;refine(kH G u v V y b N s Y h J i).imp λσ H Q O=>ix O λF δ β fr T r=>⟨F,δ,β,fr,T,?_⟩;obtain⟨P,j,o,q⟩:=run.bind (R:=ba X.K F) r;refine⟨P,j,o,?_⟩;cases P with
 |error C=>exact q
 |ok as=>
  intro vs B t S;obtain⟨d',D,t1,l,r1⟩:=q vs B t S;have U:=Z _ _ _ _ o;have W:=(M F B).f5;refine⟨by rw[Ni,<-S.f5,<-W,U],F,d'++d,D,t1.fr,ba.append l<|M F B,run.toE r1⟩
theorem AB:PK X [] (h8 X.K ak E):=λpos g s σ H Q I h=>by obtain⟨F,δ,β,fr,i,r⟩:=h;exact JU pos g s σ H Q I<|run.ret fr r ba.nil
theorem xh{f:FD}(c:PE X e<|tV X.K f E)(l:PK X b<|h8 X.K g E):PK X (⟨y,e,u⟩::b) (h8 X.K (ae f g) E):=λpos h s σ H Q I ⟨F,δ,β,fr,j,r⟩=>
 HY c l pos h s σ H Q I ⟨F,δ,β,fr,j,(run.bind (R:=b_ X.K F) r).mono λv w ⟨d,a,t,k,n⟩=>
  ⟨F,δ,a,t.fr,j.tr<|t.tr fr,(run.bind (R:=ba X.K F) n).mono λx q m=>nS m λz p t2 i o=>run.ret t2.fr o<|ba.cons (b_.tr (t2.tr t.fr) _ _ k) i⟩⟩
def jG(m:a0e->M D)(g h:FL)(a:List<|Sr D):FD:=λδ=>M.v (g δ) λb=>M.v (h δ) λks=>m<|b++a.map (Sr.f5 .o ks)
theorem xj{d:List (Sr D)}(G:d_ X.p X.w X.K X.mg X.base (e_ X.p X.w) k f c a<|B6 X.K n m)(hr:dv k X.A)(hg:Gl X x)(hm:X.mg x=My (.ref f))(hk:Se X.K (.ref f)=M3)(hb:s0 X.K c a ks n1 d)(hx:bX (e_ X.p X.w) X E)
  (ha:PA X (e::z)<|h8 X.K g E) (i:PK X b<|h8 X.K gk E) (hn:∀δ β r aa,g δ β=My (.ok r,aa)->Uc r=n1) (j:∀δ β r aa,gk δ β=My (.ok r,aa)->Uc r=Uc ks) (h3:n1+Uc d=n)
  (h:(Sb pos<|QB b X.e).all (·.1.isSome)=M3:=by rfl) (l:(Sb pos<|QB b X.e).filterMap (·.1)=ks:=by rfl)
  (o:b0c x:=by decide) (he:b0a X e z:=by rfl)
  (q:((Ql pos<|Nr (e::z) X.e).any (·.1)||(Sb pos (QB b X.e)).any (·.1.isNone))=M5:=by rfl):
  PE X (.Call (.Name x p) (e::z) b pos) (tV X.K (jG m g gk d) E):=by
 obtain⟨sv,sx,rd,kb⟩:=hb.kb;refine(Fc G hr hg hm hk kb hx ha i h l o he q).imp λσ H Q h_=>ix h_ λF δ β fr L r=>⟨F,δ,β,fr,L,?_⟩;obtain⟨r0,u,N,O⟩:=run.bind (R:=ba X.K F) r;refine⟨r0,u,N,?_⟩;cases r0 with
 |error C=>exact O
 |ok as=>
  intro B H1 t Mq;obtain⟨d',P,t1,v,r1⟩:=O B H1 t Mq;refine⟨F,δ,P,t1.fr,L.tr<|t1.tr fr,?_⟩;obtain⟨T,S,U,W⟩:=run.bind (R:=ba X.K F) r1;refine⟨T,S,U,?_⟩;cases T with
  |error C=>exact W
  |ok bs=>
   intro y Y t2 Z;obtain⟨d2,s,t3,I,r3⟩:=W y Y t2 Z;have l1:=hn _ _ _ _ N;have l2:=j _ _ _ _ U;have g1:gK V.o n1 (Uc ks) sx B y=B++sx.map (Sr.f5 .o y):=Ng ⟨by rw[<-Mq.f5,l1],by rw[<-Z.f5,l2]⟩;rw[g1];have J:ba X.K F Y d' B:=ba.tr (t3.tr t1.fr) _ _ v;refine⟨by rw[Ni,MZ,<-Mq.f5,l1,<-rd.len,h3],F,d'++d.map (Sr.f5 .o d2),s,t3.fr,ba.append J<|lc.den I rd,run.toE r3⟩
def oB(m:a0e->M a0o)(g:FL)(a:a0e):Dn->M a0o:=λδ=>M.v (g δ) λb=>m<|b++a
theorem IM{d:a0e}(G:d_ X.p X.w X.K X.mg X.base (e_ X.p X.w) k f c a<|Q_ X.K n m)(I:dv k X.A)(J:Gl X x)(s:X.mg x=My (.ref f))(L:Se X.K (.ref f)=M3)(N:oG X.K c a d)(hx:bX (e_ X.p X.w) X E)
  (ha:PA X (e::z)<|h8 X.K g E) (hn:∀δ β r aa,g δ β=My (.ok r,aa)->Uc r+Uc d=n) (h:b0c x:=by decide) (O:b0a X e z:=by rfl) (i:b0b X pos z:=by rfl):
  PE X (.Call (.Name x p) (e::z) [] pos) (PC X.K (oB m g d) E):=by
 obtain⟨ds,T,b,U,P⟩:=N;refine(kH G I J s L b U hx ha h O i).imp λσ H Q W=>ix W λF δ β fr Y r=>⟨F,δ,β,fr,Y,?_⟩;obtain⟨S,j,o,u⟩:=run.bind (R:=ba X.K F) r;refine⟨S,j,o,?_⟩;cases S with
 |error C=>exact u
 |ok as=>
  intro vs B t V;obtain⟨d',D,t1,l,r1⟩:=u vs B t V;have Z:=hn _ _ _ _ o;have hz:=(P F B).f5;refine⟨by rw[Ni,<-V.f5,<-hz,Z],F,d'++d,D,t1.fr,ba.append l<|P F B,?_⟩;obtain⟨y,M,e2,q⟩:=r1;refine⟨y,M,e2,?_⟩;cases y with
  |error C=>exact q
  |ok a_=>exact λv H' t2 hv=>q v H' t2<|hv.pre t1
theorem ss{b:FL}{δ:Dn}{β a c:Bg}{e d:a0e}(g:j δ β=My (.ok e,a))(h:ko l m b e (io o q δ) a=My (.ok d,c))(i:Uc d<=Nw):bY o q j l m b δ β=My (.ok<|.l d,c):=by
 unfold bY;simp only[g,h,i,Ol]
def Yl:Nat->D->Prop
 |_,.n _=>True
 |_,.c _=>True
 |_,.o=>True
 |n+1,.l xs=>∀x∈xs,Yl n x
 |n+1,.t xs=>∀x∈xs,Yl n x
 |_,_=>False
theorem HX:∀(n:Nat) (d:D),Yl n d->∃p,nt d=My p/\p.canLay0=M3/\p.depth<=n+1:=by
 have g:∀(n:Nat) (b:a0e),(∀x∈b,∃p,nt x=My p/\p.canLay0=M3/\p.depth<=n)->∃a,toPs b=My a/\Xk a=M3/\Vd a<=n:=by
  intro n b
  induction b with
  |nil=>intro _;exact⟨[],rfl,rfl,by simp[Vd]⟩
  |cons x b c=>
   intro h;obtain⟨p,o,q,r⟩:=h x M7;obtain⟨a,j,l,m⟩:=c λy f=>h y<|M2 _ f;refine⟨p::a,?_,?_,?_⟩
   .unfold toPs;simp only[o,j]
   .simp[Xk,q,l]
   .simp only[Vd];lia
 intro n
 induction n with
 |zero=>
  intro d h;cases d with
  |n i=>exact⟨.int i,rfl,rfl,by simp[Ra]⟩
  |c i=>exact⟨.bool i,rfl,rfl,by simp[Ra]⟩
  |o=>exact⟨.none,rfl,rfl,by simp[Ra]⟩
  |_=>exact h.elim
 |succ n c=>
  intro d h;cases d with
  |n i=>exact⟨.int i,rfl,rfl,by simp[Ra]⟩
  |c i=>exact⟨.bool i,rfl,rfl,by simp[Ra]⟩
  |o=>exact⟨.none,rfl,rfl,by simp[Ra]⟩
  |l b=>
   obtain⟨a,j,l,m⟩:=g (n+1) b λx e=>c x<|h x e;exact⟨.list a,by unfold nt;simp[j],by simp[PyData.canLay0,l],by simp only[Ra];lia⟩
  |t b=>
   obtain⟨a,j,l,m⟩:=g (n+1) b λx e=>c x<|h x e;exact⟨.tuple a,by unfold nt;simp[j],by simp[PyData.canLay0,l],by simp only[Ra];lia⟩
  |_=>exact h.elim
theorem Gd{d:D}(n:Nat)(h:Yl n d)(a:n<=60):oC d=M3:=by
 obtain⟨p,g,i,j⟩:=HX n d h;unfold oC;simp only[g,SC,i,P6,NR];lia
def Gw(g:G)(δ:Ds)(β:Bg)(Q:a0A):Prop:=∃o aa,g δ β=My (o,aa)/\Q o aa
end
section
variable{g h a b s p:G}{δ δ1:Ds}{β β1 β2 β3:Bg}{Q R:a0A}{i:Nat}{f q v u:FD}{fl:FL}{j:Dn->M a0o}{d x y z:D}{ds as:a0e}{t:a0m}{c:Bool}{C:M6}{K:ND}
theorem Gw.mono(k:Gw g δ β R)(q:∀o β,R o β->Q o β):Gw g δ β Q:=let ⟨o,β',e,r⟩:=k;⟨o,β',e,q _ _ r⟩
theorem HL:aB g gNil=g:=by
 funext δ β;unfold aB gNil;split
 .rename_i δ1 β1 e;exact e.symm
 .rfl
theorem ao(k:Gw (aB g gNil) δ β Q):Gw g δ β Q:=by rw[HL]at k;exact k
theorem bK(q:Q (.nx δ) β):Gw gNil δ β Q:=⟨_,_,rfl,q⟩
theorem dH(e:g δ β=My (.nx δ1,β1))(k:Gw h δ1 β1 Q):Gw (aB g h) δ β Q:=by
 obtain⟨o,j,l,q⟩:=k;exact⟨o,j,by unfold aB;rw[e];exact l,q⟩
theorem nE(k:Gw (aB a<|aB b h) δ β Q):Gw (aB (aB a b) h) δ β Q:=by
 obtain⟨o,j,l,q⟩:=k;refine⟨o,j,?_,q⟩;rw[<-l];unfold aB;split<;>rename_i e<;>(split at e<;>simp_all)
theorem az(k:Gw h δ β Q):Gw (aB gNil h) δ β Q:=dH rfl k
theorem aN(e:f (vw δ) β=My (.ok d,β1))(k:Gw h (δ.set i<|My<|.h d) β1 Q):Gw (aB (cS i f) h) δ β Q:=dH (by unfold cS;rw[e]) k
theorem vb(e:f (fh δ) β=My (.ok d,β1))(k:Gw h (δ.set i<|My<|.h d) β1 Q)(j:dL d=M3:=by rfl):Gw (aB (uR i f) h) δ β Q:=dH (by unfold uR;simp only[e,j,Ol]) k
theorem pQ(e:g δ β=My (.ex C δ1,β1))(q:Q (.ex C δ1) β1):Gw (aB g h) δ β Q:=⟨_,_,by unfold aB;rw[e],q⟩
theorem va(e:f (vw δ) β=My (.error C,β1))(q:Q (.ex C δ) β1):Gw (aB (cS i f) h) δ β Q:=pQ (by unfold cS;rw[e]) q
theorem gD(e:f (fh δ) β=My (.ok d,β1))(k:Gw h δ β1 Q):Gw (aB (dW f) h) δ β Q:=dH (by unfold dW;rw[e]) k
theorem gz(e:f (fh δ) β=My (.error C,β1))(q:Q (.ex C δ) β1):Gw (aB (dW f) h) δ β Q:=pQ (by unfold dW;rw[e]) q
theorem cV(e:t (fh δ) β=My (.ok c,β1))(k:Gw (aB (if c=M3 then s else p) h) δ β1 Q):Gw (aB (ry t s p) h) δ β Q:=by
 obtain⟨o,j,l,q⟩:=k;refine⟨o,j,?_,q⟩;rw[<-l];unfold aB ry;rw[e];cases c<;>rfl
theorem fM(e:t (fh δ) β=My (.ok M3,β1))(k:Gw (aB s h) δ β1 Q):Gw (aB (ry t s p) h) δ β Q:=cV e k
theorem aF(e:t (fh δ) β=My (.ok M5,β1))(k:Gw (aB p h) δ β1 Q):Gw (aB (ry t s p) h) δ β Q:=cV e k
theorem aD(e:f (fh δ) β=My (.ok d,β1))(q:Q (.rt d) β1):Gw (aB (gv f) h) δ β Q:=⟨_,_,by unfold aB gv;rw[e],q⟩
theorem nB(e:j (vw δ) β=My (.ok k,β1))(q:Q (.rg k) β1):Gw (aB (iC j) h) δ β Q:=⟨_,_,by unfold aB iC;rw[e],q⟩
theorem g0(e:fl (fh δ) β=My (.ok ds,β1))(q:Q (.ex C δ) β1):Gw (aB (kP C fl) h) δ β Q:=pQ (by unfold kP;rw[e]) q
theorem yx{a_:a0o}(e:j (vw δ) β=My (.ok a_,β1))(a:a_.all noLs=M3)(k:Gw h (δ.set i<|My<|.grd a_) β1 Q):Gw (aB (pB i j) h) δ β Q:=dH (by unfold pB;simp only[e,a,Ol]) k
theorem yw{a_:a0o}(e:u (fh δ) β=My (.ok d,β1))(j:q (fh δ) β1=My (.ok<|.n ka,β2))(l:v (fh δ) β2=My (.ok<|.n kb,β3))(m:δ.getD i M0=My (.grd a_))
  (n:lb (Uc a_) ka=My ja) (o:a_[ja]?=My ds) (p:lb (Uc ds) kb=My jb) (a:noL d=M3) (k:Gw h (δ.set i<|My<|.grd<|a_.set ja<|ds.set jb d) β3 Q):Gw (aB (ox i q v u) h) δ β Q:=
 dH (by unfold ox;simp only[e,j,l,m,n,o,p,a,Ol]) k
theorem GC{a_:a0o}(e:fl (fh δ) β=My (.ok ds,β1))(j:q (fh δ) β1=My (.ok<|.n ka,β2))(l:δ.getD i M0=My (.grd a_))(m:lb (Uc a_) ka=My ja)(a:noLs ds=M3)(b:a_.all noLs=M3)
  (k:Gw h (δ.set i<|My<|.grd<|a_.set ja ds) β2 Q):Gw (aB (uS i q fl) h) δ β Q:=dH (by unfold uS;simp only[e,j,l,m,a,b,Ro,Ol]) k
theorem Jd{cs:a0e}(e:u (vw δ) β=My (.ok d,β1))(j:q (fh δ) β1=My (.ok<|.n ka,β2))(l:δ.getD i M0=My (.u cs))(m:lb (Uc cs) ka=My ja)(k:Gw h (δ.set i<|My<|.u<|cs.set ja d) β2 Q):Gw (aB (uU i q u) h) δ β Q:=
 dH (by unfold uU;simp only[e,j,l,m]) k
theorem GD(e:fl (vw δ) β=My (.ok ds,β1))(j:Uc ds<=Nw)(k:Gw h (δ.set i<|My<|.u ds) β1 Q):Gw (aB (zx i fl) h) δ β Q:=dH (by unfold zx;simp only[e,j,Ol]) k
theorem GE{cs:a0e}(j:δ.getD i M0=My (.u cs))(e:fl (vw δ) β=My (.ok [d],β1))(l:Uc cs<Nw)(k:Gw h (δ.set i<|My<|.u<|cs++[d]) β1 Q):Gw (aB (zA i fl) h) δ β Q:=
 dH (by unfold zA;simp only[j,e,l,Ol]) k
theorem uH(e:f (vw δ) β=My (.ok d,β1))(j:tg d δ=My δ1)(k:Gw h δ1 β1 Q):Gw (aB (wt f tg) h) δ β Q:=dH (by unfold wt;simp only[e,j,Pa]) k
theorem yv(k:Gw g δ β (λo β1=>match o with| .nx δ1=>Gw h δ1 β1 Q| .ex C δ1=>Gw (aB (hd C) h) δ1 β1 Q|o=>Q o β1)):Gw (aB (lK g hd) h) δ β Q:=by
 obtain⟨o,e,j,q⟩:=k;cases o with
 |nx δ1=>exact dH (by unfold lK;rw[j]) q
 |ex C δ1=>
  obtain⟨o,β2,l,a⟩:=q;refine⟨o,β2,?_,a⟩;rw[<-l];unfold aB lK;rw[j]
 |_=>exact⟨_,e,by unfold aB lK;rw[j],q⟩
theorem vd(e:S7 K (.ref C) (.ref Dc)=My M3)(k:Gw (aB g h) δ β Q):Gw (aB (iQ K Dc g r C) h) δ β Q:=by
 obtain⟨o,j,l,q⟩:=k;refine⟨o,j,?_,q⟩;rw[<-l];unfold aB iQ;rw[e]
theorem Je(e:S7 K (.ref C) (.ref Dc)=My M5)(k:Gw (aB (r C) h) δ β Q):Gw (aB (iQ K Dc g r C) h) δ β Q:=by
 obtain⟨o,j,l,q⟩:=k;refine⟨o,j,?_,q⟩;rw[<-l];unfold aB iQ;rw[e]
def Tn(I:Ds->Bg->Prop)(h:G)(Q:a0A):qv->Bg->Prop:=λo β=>match o with
 | .nx δ=>I δ β
 | .ct δ=>I δ β
 | .bk δ=>Gw h δ β Q
 |o=>Q o β
theorem cL(e:it δ β=My (.ok ds,β1))(Iv:Nat->Ds->Bg->Prop)(L:Iv 0 δ β1)(b:∀i d δ β,ds[i]?=My d->Iv i δ β->∃δ1,tg d δ=My δ1/\Gw g δ1 β (Tn (Iv<|i+1) h Q))(k:∀δ β,Iv (Uc ds) δ β->Gw h δ β Q):
  Gw (aB (qT it tg g) h) δ β Q:=by
 have c:∀(a:a0e) (j:Nat) (δ:Ds) (β:Bg),a=ds.drop j->j+Uc a=Uc ds->Iv j δ β->Gw (aB (n_ tg g a) h) δ β Q:=by
  intro a
  induction a with
  |nil=>
   intro j δ β _ A B;simp at A;exact dH (g:=n_ tg g []) rfl<|k δ β<|A▸B
  |cons d a s=>
   intro j δ β J A B;have N:ds[j]?=My d:=by
    have:=OG (λl=>l[0]?) J;simpa[QL]using this.symm
   obtain⟨δ1,u,o,β2,v,q⟩:=b j d δ β N B;have F:a=ds.drop (j+1):=by
    have:=OG List.tail J;simpa[List.tail_drop]using this
   have f:∀m,Iv (j+1) m β2->Gw (aB (n_ tg g a) h) m β2 Q:=λm H=>s (j+1) m β2 F (by simp at A;lia) H;have n:∀{r:G} {m:Ds},Gw (aB r h) m β2 Q->n_ tg g (d::a) δ β=r m β2->Gw (aB (n_ tg g<|d::a) h) δ β Q:=λ{r m} ⟨O,p,I,T⟩ U=>⟨O,p,by rw[<-I];unfold aB;rw[U],T⟩;cases o with
   |nx m=>exact n (r:=n_ tg g a) (f m q) (by rw[n_];simp only[u,v])
   |ct m=>exact n (r:=n_ tg g a) (f m q) (by rw[n_];simp only[u,v])
   |bk m=>exact n (r:=gNil) (az q) (by rw[n_];simp only[u,v];rfl)
   |rt d'=>exact⟨_,β2,by unfold aB;rw[n_];simp only[u,v],q⟩
   |rg d'=>exact⟨_,β2,by unfold aB;rw[n_];simp only[u,v],q⟩
   |ex C m=>exact⟨_,β2,by unfold aB;rw[n_];simp only[u,v],q⟩
 obtain⟨o,p,I,q⟩:=c ds 0 δ β1 (by simp) (by simp) L;refine⟨o,p,?_,q⟩;rw[<-I];unfold aB qT;rw[e]
theorem gX{S:Except M6 D->Bg->Prop}(k:Gw g (lh n ds) β (λo j=>match o with| .rt d=>S (.ok d) j| .nx _=>S (.ok .o) j| .ex C _=>S (.error C) j|_=>False)):∃r j,fW n g ds β=My (r,j)/\S r j:=by
 obtain⟨o,j,e,q⟩:=k;cases o with
 |rt d=>exact⟨.ok d,j,by unfold fW;rw[e],q⟩
 |nx δ=>exact⟨.ok .o,j,by unfold fW;rw[e],q⟩
 |ex C δ=>exact⟨.error C,j,by unfold fW;rw[e],q⟩
 |_=>exact q.elim
theorem IY{S:a0o->Bg->Prop}(k:Gw g (lh n ds) β (λo j=>match o with| .rg d=>S d j|_=>False)):∃r j,gY n g ds β=My (.ok r,j)/\S r j:=by
 obtain⟨o,j,e,q⟩:=k;cases o with
 |rg d=>exact⟨d,j,by unfold gY;rw[e],q⟩
 |_=>exact q.elim
theorem aO(k:Gw g (lh n ds) β (λo j=>j=β/\(match o with| .rt d=>r= .ok d| .nx _=>r= .ok .o| .ex C _=>r= .error C|_=>False))):fW n g ds β=My (r,β):=by
 obtain⟨l,j,e,a,b⟩:=gX (S:=λl j=>j=β/\r=l) (n:=n) (ds:=ds) (β:=β) (k.mono λo j h=>by
  cases o<;>first|exact h|exact h.2)
 subst a b;exact e
theorem sD(k:Gw g (lh n ds) β (λo j=>j=β/\(match o with| .rg d=>r=d|_=>False))):gY n g ds β=My (.ok r,β):=by
 obtain⟨l,j,e,a,b⟩:=IY (S:=λl j=>j=β/\r=l) (n:=n) (ds:=ds) (β:=β) (k.mono λo j h=>by
  cases o<;>first|exact h|exact h.2)
 subst a b;exact e
theorem am{δ:Dn}(e:fl δ β=My (.ok as,β1))(j:m as β1=My r):bC m fl δ β=My r:=by unfold bC M.v;rw[e];exact j
theorem Ht{δ:Dn}(e:fl δ β=My (.ok as,β1))(j:m (as++dd) β1=My r):wG m fl dd δ β=My r:=by unfold wG M.v;rw[e];exact j
theorem rq{δ:Dn}(e:fl δ β=My (.ok as,β1))(j:m as β1=My r):wA m fl δ β=My r:=by unfold wA M.v;rw[e];exact j
theorem Ex{δ:Dn}(e:fl δ β=My (.ok as,β1))(j:m (as++dd) β1=My r):oB m fl dd δ β=My r:=by unfold oB M.v;rw[e];exact j
theorem cp{δ:Dn}(e:q δ β=My (.ok x,β1))(j:v δ β1=My (.ok y,β2))(k:op x y=My z):f2 op q v δ β=My (.ok z,β2):=by unfold f2 M.v;rw[e];simp only[j,M.f,k]
theorem x_1{δ:Dn}(e:q δ β=My (.ok x,β1))(j:op x=My z):f1 op q δ β=My (.ok z,β1):=by unfold f1 M.v;rw[e];simp only[M.f,j]
theorem au{δ:Dn}(e:fl δ β=My (.ok as,β1))(j:op as=My z):aJ op fl δ β=My (.ok z,β1):=by unfold aJ M.v;rw[e];simp only[M.f,j]
theorem af{δ:Dn}(e:q δ β=My (.ok x,β1))(j:fl δ β1=My (.ok as,β2)):ae q fl δ β=My (.ok<|x::as,β2):=by unfold ae M.v;rw[e];simp only[j,M.f5]
theorem bH{δ:Dn}(e:fl δ β=My (.ok as,β1))(j:op as=My ds):bP op fl δ β=My (.ok ds,β1):=by unfold bP M.v;rw[e];simp only[j,M.f]
theorem eQ{δ:Dn}(e:q δ β=My (.ok x,β1))(j:gi x=My ds):bM q δ β=My (.ok ds,β1):=by unfold bM M.v;rw[e];simp only[j,M.f]
theorem dr{δ:Dn}(e:q δ β=My (.ok<|.c c,β1)):fB q δ β=My (.ok c,β1):=by unfold fB M.v;rw[e];rfl
theorem pO{δ:Dn}(e:q δ β=My (.ok x,β1))(j:EE x=My c):se q δ β=My (.ok c,β1):=by unfold se M.v;rw[e];simp only[M.f,j]
theorem nA{δ:Dn}(e:t δ β=My (.ok c,β1)):zF t δ β=My (.ok<|!c,β1):=by unfold zF M.v;rw[e];rfl
theorem bJ(a:β.ok)(k:0<lot)(l:lot<1073741824):∃v e,fS [.bag,.n lot] β=My (.ok<|.n v,e)/\0<=v/\v<lot/\e.ok:=by
 obtain⟨b,c,j⟩:=xB a k;exact⟨_,_,Fu a k l,b,c,j⟩
theorem eU{n:Nat}{k:Int}(e:0<=k)(j:k<n):lb n k=My k.toNat:=by unfold lb;rw[Ng e,Ng j]
theorem CT{k:Int}{d:D}(e:0<=k)(h:l[k.toNat]?=My d):i4 (.l l) (.n k)=My d:=by
 have j:k.toNat<Uc l:=(Nd.mp h).1;show p4 l k=My d;unfold p4;rw[eU e<|by lia];exact h
theorem rS{x y:D}:i4 (.t [x,y]) (.n 0)=My x:=rfl
theorem wb{x y:D}:i4 (.t [x,y]) (.n 1)=My y:=rfl
end
section
variable{β β1 β2:Bg}{f g h i:FD}{t u:a0m}{δ:Dn}{c e:Bool}{x y z w:Int}{d:D}
theorem jL(a:t δ β=My (.ok c,β))(b:u δ β=My (.ok e,β)):jF t u δ β=My (.ok (c||e),β):=by
 unfold jF M.v;rw[a];cases c<;>simp[M.f5,b]
theorem GA(a:t δ β=My (.ok M3,β1)):jF t u δ β=My (.ok M3,β1):=by
 unfold jF M.v;rw[a];rfl
theorem GB(a:t δ β=My (.ok M5,β1))(b:u δ β1=My (.ok e,β2)):jF t u δ β=My (.ok e,β2):=by
 unfold jF M.v;rw[a];simp[b]
theorem pP(a:t δ β=My (.ok c,β))(b:u δ β=My (.ok e,β)):je t u δ β=My (.ok<|c&&e,β):=by
 unfold je M.v;rw[a];cases c<;>simp[M.f5,b]
theorem Jc(a:t δ β=My (.ok M5,β1)):je t u δ β=My (.ok M5,β1):=by
 unfold je M.v;rw[a];rfl
theorem Jb(a:t δ β=My (.ok M3,β1))(b:u δ β1=My (.ok e,β2)):je t u δ β=My (.ok e,β2):=by
 unfold je M.v;rw[a];simp[b]
theorem Hm(a:f δ β=My (.ok<|.c M3,β1))(b:g δ β1=My (.ok d,β2)):sf f g δ β=My (.ok d,β2):=by
 unfold sf M.v;rw[a];simp[asB,M.f,b]
theorem Ho(a:f δ β=My (.ok<|.c M5,β1)):sf f g δ β=My (.ok<|.c M5,β1):=by
 unfold sf M.v;rw[a];simp[asB,M.f,M.f5]
theorem Hn(a:f δ β=My (.ok<|.c c,β))(b:g δ β=My (.ok<|.c e,β)):sf f g δ β=My (.ok<|.c<|c&&e,β):=by
 cases c
 .exact Ho a
 .exact Hm a b
theorem le_int:C_ (.n x) (.n y)=My (.c<|decide (x<=y)):=rfl
theorem lt_int:Yn (.n x) (.n y)=My (.c<|decide (x<y)):=rfl
theorem gt_int:L_ (.n x) (.n y)=My (.c<|decide (y<x)):=rfl
theorem xf(a:f δ β=My (.ok<|.n x,β))(b:g δ β=My (.ok<|.n y,β))(j:h δ β=My (.ok<|.n z,β)):qX C_ C_ f g h δ β=My (.ok<|.c<|decide (x<=y)&&decide (y<=z),β):=by
 unfold qX M.v;rw[a];simp only[b,le_int,M.f,asB];by_cases q:x<=y
 .simp only[q,UJ,Ol,j,le_int,P6]
 .simp only[q,T7,NF,Oy,M.f5,SQ]
theorem Ew(a:f δ β=My (.ok<|.n x,β))(b:g δ β=My (.ok<|.n y,β))(j:h δ β=My (.ok<|.n z,β))(k:i δ β=My (.ok<|.n w,β)):oA C_ C_ C_ f g h i δ β=My (.ok<|.c<|decide (x<=y)&&decide (y<=z)&&decide (z<=w),β):=by
 unfold oA Hd M.v;rw[a];simp only[b,le_int,M.f,asB];by_cases q:x<=y
 .simp only[q,UJ,Ol,j,le_int,P6]
  by_cases c:y<=z
  .simp only[c,UJ,Ol,k,le_int,P6]
  .simp only[c,T7,NF,Oy,M.f5,SQ]
 .simp only[q,T7,NF,Oy,M.f5,SQ]
theorem CJ{x:Int}(a:-1000000<=x)(b:x<=1000000):x.natAbs.log2<1920:=by
 have h:x.natAbs<2^20:=by lia
 by_cases z:x.natAbs=0
 .rw[z];decide
 .have:=(Vw z).mpr h
  lia
theorem jl(a:f δ β=My (.ok<|.n x,β))(b:-1000000<=x)(k:x<=1000000)(l:j δ β=My (.ok (),β)):lB f j δ β=My (.ok (),β):=by
 unfold lB M.v;rw[a];simp only[CJ b k,Ol,l]
theorem kr(a:j δ β=My (.ok (),β)):qW j δ β=My (.ok .txt,β):=by
 unfold qW M.v;rw[a];rfl
theorem pR{g h:G}{δ:Ds}{β:Bg}(P:Ds->Bg->Prop)(d:Gw g δ β (λo β1=>∃c,o= .nx c/\P c β1))(f:∀c β1,P c β1->Gw h c β1 Q):Gw (aB g h) δ β Q:=by
 obtain⟨o,β1,e,c,rfl,p⟩:=d;exact dH e<|f c β1 p
theorem f6{δ:Ds}{β:Bg}{P:Ds->Bg->Prop}(p:P δ β):Gw gNil δ β (λo β1=>∃c,o= .nx c/\P c β1):=bK ⟨_,rfl,p⟩
theorem xg{δ:Dn}{fl fk:FL}{β β1 β2:Bg}{c:List (Sr D)}(a:fl δ β=My (.ok as,β1))(b:fk δ β1=My (.ok ks,β2))(j:m (as++c.map (Sr.f5 .o ks)) β2=My r):jG m fl fk c δ β=My r:=by unfold jG;rw[M.bind_ok a,M.bind_ok b];exact j
noncomputable abbrev gI(a_:LI):a0o:=a_.map λr=>r.map D.n
noncomputable abbrev lG(c:a0o):D:= .l<|c.map D.l
abbrev eK(a_:LI):D:=lG<|gI a_
noncomputable def pD(p:Int×Int):D:= .t [.n p.1,.n p.2]
abbrev gP(b:LP):a0o:=b.map λr=>r.map pD
abbrev bF(b:LP):D:=lG<|gP b
def jm{e:Type}(r c:Nat)(m:List<|List e):Prop:=Uc m=r/\∀d∈m,Uc d=c
noncomputable def tot(a_:LI):Int:=(a_.map OJ).sum
theorem bn(h:n<=1000):n<=Nw:=NJ h (by decide)
theorem tM:∀r:a0b,noLs (r.map D.n)=M3
 |[]=>rfl
 |x::r=>by
  show(noL (.n x)&&noLs (r.map D.n))=M3;rw[tM r];rfl
theorem i5:∀r:a0C,noLs (r.map pD)=M3
 |[]=>rfl
 |x::r=>by
  show(noL (pD x)&&noLs (r.map pD))=M3;rw[i5 r];rfl
theorem qF(b:LP):(gP b).all noLs=M3:=by
 rw[OM];intro x c;obtain⟨r,_,rfl⟩:=NE.mp c;exact i5 r
theorem jm.map{d a:Type}{f:d->a}{r c:Nat}{m:List (List d)}(h:jm r c m):jm r c (m.map λx=>x.map f):=⟨by rw[MZ,h.1],λe b=>by
 obtain⟨x,g,rfl⟩:=NE.mp b;rw[MZ];exact h.2 x g⟩
theorem jm.set{d:Type}{r c i j:Nat}{m:List (List d)}{row:List d}{v:d}(h:jm r c m)(a:m[i]?=My row):jm r c (m.set i<|row.set j v):=⟨by rw[N9,h.1],λx e=>by
 rcases Pf e with e|rfl
 .exact h.2 x e
 .rw[N9];exact h.2 row<|Nq a⟩
theorem jm.at{d:Type}{r c i:Nat}{m:List (List d)}(h:jm r c m)(b:i<r):∃row,m[i]?=My row/\Uc row=c:=by
 have a:i<Uc m:=by rw[h.1];exact b
 exact⟨m[i],M9 a,h.2 _<|OC a⟩
theorem u4{c:Type}{l:List c}{i:Nat}(h:i<Uc l):∃x,l[i]?=My x:=⟨l[i],M9 h⟩
theorem ku:∀{c:a0b} {j:Nat} {x v:Int},c[j]?=My x->(c.set j v).sum=c.sum-x+v
 |[],j,x,v,h=>by simp at h
 |y::c,0,x,v,h=>by
  grind
 |y::c,j+1,x,v,h=>by
  have d:c[j]?=My x:=by simpa using h
  simp only[SW,NZ,ku d];lia
theorem HD{a_:LI}{i j:Nat}{row:a0b}{x v:Int}(a:a_[i]?=My row)(b:row[j]?=My x):tot (a_.set i<|row.set j v)=tot a_-x+v:=by
 unfold tot;rw[Pd,ku (x:=row.sum) (by rw[Nk,a];rfl),ku b];lia
theorem Kh{a_:LI}{i j:Nat}{row:a0b}(h:∀r∈a_,∀x∈r,0<=x)(b:a_[i]?=My row)(k:0<=v):∀r∈a_.set i (row.set j v),∀x∈r,0<=x:=λr a x c=>by
 grind
theorem me:∀{xs:a0b},(∀x∈xs,0<=x)->0<=xs.sum
 |[],_=>by simp
 |y::xs,h=>by
  have:=me (xs:=xs) λx c=>h x<|M2 _ c;have:=h y M7
  grind
structure YZ (r c:Nat) (a_:LI):Prop where
 shp:jm r c a_
 nn:∀row∈a_,∀x∈row,0<=x
 tot:tot a_<=40
 r0:1<=r
 r1:r<=4
 c0:1<=c
 c1:c<=6
theorem dZ(c:a0b):gF [.l<|c.map D.n]=My (.n c.sum):=by
 show((cU<|c.map D.n).map λl=>D.n l.sum)=_;have:∀c:a0b,cU (c.map D.n)=My c:=λc=>by
  induction c with
  |nil=>rfl
  |cons n c d=>simp[cU,d]
 rw[this];rfl
theorem o_{n:Int}(a:0<=n)(h:n<=10^9):cQ [.n n]=My (bi 0 n.toNat):=by
 have q:(decide (-(2^62)<=n)&&decide (n<2^62))=M3:=by
  grind
 show(if(decide (-(2^62)<=n)&&decide (n<2^62))=M3 then My (bi 0 n.toNat)else M0)=_;rw[Ng q]
theorem GP{d:D}(h:(bi 0 n)[k]?=My d):k<n/\d= .n (k:Int):=by
 unfold bi at h
 grind
theorem vH(n:Nat):Uc (bi 0 n)=n:=by simp[bi]
theorem bu{e:Type}{f:FD}{δ:Dn}{β:Bg}(d:List e)(u v:e->D)(a:it δ β=My (.ok<|d.map u,β))
  (b:∀x∈d,∃c,tg (u x) (io nv bt δ)=My c/\f c β=My (.ok<|v x,β)) (j:Uc d<=Nw):bY nv bt it tg (λ_=>M.f5 M3) (hL f) δ β=My (.ok<|.l<|d.map v,β):=by
 refine ss a ?_ (by rw[MZ];exact j);have g:∀d:List e,(∀x∈d,∃c,tg (u x) (io nv bt δ)=My c/\f c β=My (.ok<|v x,β))->ko tg (λ_=>M.f5 M3) (hL f) (d.map u) (io nv bt δ) β=My (.ok<|d.map v,β):=by
  intro d
  induction d with
  |nil=>intro _;rfl
  |cons x d i=>
   intro h;obtain⟨c,k,l⟩:=h x M7;have m:=i λy t=>h y<|M2 _ t;rw[Nv,ko];simp only[k,M.v,M.f5,reduceIte,hL,l,m,Nv,O4,ON]
 exact g d b
theorem j8{d:Type}{f:FL}{δ:Dn}{β:Bg}(xs:List d)(u:d->D)(v:d->a0e)(a:it δ β=My (.ok<|xs.map u,β))
  (b:∀x∈xs,∃c,tg (u x) (io nv bt δ)=My c/\f c β=My (.ok<|v x,β)) (j:Uc xs<=Nw):gc nv bt it tg (λ_=>M.f5 M3) (ng f) δ β=My (.ok<|xs.map v,β):=by
 have e:∀xs:List d,(∀x∈xs,∃c,tg (u x) (io nv bt δ)=My c/\f c β=My (.ok<|v x,β))->pI tg (λ_=>M.f5 M3) (ng f) (xs.map u) (io nv bt δ) β=My (.ok<|xs.map v,β):=by
  intro xs
  induction xs with
  |nil=>intro _;rfl
  |cons x xs g=>
   intro h;obtain⟨c,k,l⟩:=h x M7;have m:=g λy i=>h y<|M2 _ i;rw[Nv,pI];simp only[k,M.v,M.f5,reduceIte,ng,l,m,Nv,O4,ON]
 unfold gc;simp only[a,e xs b,MZ,j,Ol]
theorem Ef{e:Type}{f:FD}{δ:Dn}{β:Bg}(d:List e)(u:e->D)(v:e->D)(a:it δ β=My (.ok<|d.map u,β))
  (b:∀x∈d,∃c,tg (u x) (io nv bt δ)=My c/\f c β=My (.ok<|v x,β)) (j:Uc d<=Nw):eV nv bt it tg (λ_=>M.f5 M3) (hL f) δ β=My (.ok<|d.map v,β):=by
 have g:∀d:List e,(∀x∈d,∃c,tg (u x) (io nv bt δ)=My c/\f c β=My (.ok<|v x,β))->ko tg (λ_=>M.f5 M3) (hL f) (d.map u) (io nv bt δ) β=My (.ok<|d.map v,β):=by
  intro d
  induction d with
  |nil=>intro _;rfl
  |cons x d i=>
   intro h;obtain⟨c,k,l⟩:=h x M7;have m:=i λy t=>h y<|M2 _ t;rw[Nv,ko];simp only[k,M.v,M.f5,reduceIte,hL,l,m,Nv,O4,ON]
 unfold eV;simp only[a,g d b,MZ,j,Ol]
theorem JL{ds:a0e}{c:Nat}(a:Uc ds<=Nw)(b:Uc ds*c<=Nw)(j:c<=1000000):vI ds (.n (c:Int))=My (NB c ds).flatten:=by
 have q:(decide (-(2^63)<=(c:Int))&&decide ((c:Int)<2^63)&&decide (Uc ds<=Nw)&&decide (Uc ds*(c:Int).toNat<=Nw))=M3:=by
  grind
 unfold vI
 simp_all
theorem wx{d:Type}(x:d):∀c:Nat,(NB c [x]).flatten=NB c x
 |0=>rfl
 |c+1=>by rw[OI,Pk,wx x c];rfl
theorem L0{f:FD}{g:FD}{x:D}{c:Nat}{δ:Dn}{β:Bg}(b:f δ β=My (.ok x,β))(j:g δ β=My (.ok<|.n (c:Int),β))(k:c<=1000):yZ (ae f ak) g δ β=My (.ok<|NB c x,β):=by
 have a:[x].length<=Nw:=by rw[N5];decide
 have l:[x].length*c<=Nw:=by rw[N5,Nat.one_mul];exact bn k
 have r:=JL (ds:=[x]) (c:=c) a l (by lia);rw[wx]at r;have s:YI [x]=My [x]:=by
  unfold YI;rw[Ng a]
 have m:ae f ak δ β=My (.ok [x],β):=af b rfl;unfold yZ;rw[M.bind_ok m,s,M.bind_some,M.bind_ok j,r];rfl
theorem En(c:a1e):eZ (c.map D.c)=My c:=by
 induction c with
 |nil=>rfl
 |cons b c d=>simp[eZ,d]
theorem any_map{α:Type}(c:List α)(p:α->Bool):sE [.l<|c.map λx=>D.c<|p x]=My (.c<|c.any p):=by
 show(eZ _).map _=_;rw[show(c.map λx=>D.c<|p x)=(c.map p).map D.c by rw[No];rfl,En]
 simp_all
theorem cM{c:Type}(r:Nat)(x:c):(Nj r).map (λ_=>x)=NB r x:=by rw[List.map_const',NS]
theorem bz{xs:a0e}(h:Uc xs=r):cW [.l xs]=My (.n (r:Int)):=by subst h;rfl
theorem v6{a_:a0o}(h:Uc a_=r):cW [lG a_]=My (.n (r:Int)):=bz (by rw[MZ,h])
theorem lD{a_:a0o}{k:Nat}{row:a0e}(h:a_[k]?=My row):i4 (lG a_) (.n (k:Int))=My (.l row):=CT (by lia) (by rw[Pn,Nk,h];rfl)
theorem dE{xs:a0e}{k:Nat}{d:D}(h:xs[k]?=My d):i4 (.l xs) (.n (k:Int))=My d:=CT (by lia) (by rw[Pn];exact h)
theorem g9{x y:D}:gQ [x,y]=My (.t [x,y]):=by
 unfold gQ;rw[Ng (show[x,y].length<=Nw by rw[Np,N5];decide)]
theorem Ko:iZ []=My (.l []):=by
 unfold iZ
 simp_all
theorem rQ{x:D}:iZ [x]=My (.l [x]):=by
 unfold iZ;rw[Ng (show[x].length<=Nw by rw[N5];decide)]
theorem Fp{x y:Int}:vX [.n x,.n y]=My (.n<|Q2 x y):=by
 unfold vX
 grind
theorem Kl{x y:Int}:vZ [.n x,.n y]=My (.n<|TK x y):=by
 unfold vZ
 grind
theorem eq_int{x y:Int}:ib (.n x) (.n y)=My (.c<|decide (x=y)):=by rw[MR]
theorem ne_int{x y:Int}:gR (.n x) (.n y)=My (.c<|!decide (x=y)):=by rw[MQ]
theorem cK{c a:Type}{f:c->a}{xs:List c}{i:Nat}{d:a}(h:(xs.map f)[i]?=My d):∃x,xs[i]?=My x/\d=f x:=by
 grind
noncomputable abbrev dX(r c:Nat):LP:=NB r<|NB c (0,40)
theorem DH(r c:Nat):jm r c (dX r c):=⟨by simp,λd h=>by rw[(QN.mp h).2];simp⟩
structure lr (p:Int×Int):Prop where
 l:0<=p.1
 m:p.1<=p.2
 h:p.2<=40
noncomputable def fy(p:Int×Int):Bool:=decide (0<=p.1)&&decide (p.1<=p.2)&&decide (p.2<=40)
theorem j5:fy p=M3↔lr p:=by
 unfold fy;simp only[NN,NR];exact⟨λ⟨⟨a,b⟩,c⟩=>⟨a,b,c⟩,λ⟨a,b,c⟩=>⟨⟨a,b⟩,c⟩⟩
def cE(b:LP)(r c:Nat):Bool:=decide (Uc b=r)&&b.all λd=>decide (Uc d=c)&&d.all fy
structure o1 (r c:Nat) (b:LP):Prop where
 shp:jm r c b
 ok:∀row∈b,∀p∈row,lr p
theorem gC{r c:Nat}:cE b r c=M3↔o1 r c b:=by
 unfold cE;simp only[NN,NR,OM,j5];exact⟨λ⟨k,j⟩=>⟨⟨k,λd a=>(j d a).1⟩,λd a=>(j d a).2⟩,λ⟨⟨k,j⟩,l⟩=>⟨k,λd a=>⟨j d a,l d a⟩⟩⟩
theorem o1.set{r c i j:Nat}{b:LP}{row:a0C}(h:o1 r c b)(k:b[i]?=My row)(l:lr p):o1 r c (b.set i<|row.set j p):=⟨h.shp.set k,λq a x d=>by
 rcases Pf a with a|rfl
 .exact h.ok q a x d
 .rcases Pf d with d|rfl
  .exact h.ok row (Nq k) x d
  .exact l⟩
theorem o1.free(r c:Nat):o1 r c (dX r c):=⟨DH r c,λd b p a=>by
 rw[(QN.mp b).2]at a;rw[(QN.mp a).2];exact⟨by decide,by decide,by decide⟩⟩
theorem yj{e:Type}{δ:Dn}{β:Bg}(d:List e)(u:e->D)(o:e->a0e)(a:it δ β=My (.ok<|d.map u,β))
  (j:∀x∈d,∃c,tg (u x) (io nv bt δ)=My c/\b c β=My (.ok<|o x,β)) (k:Uc (d.flatMap o)<=Nw):bY nv bt it tg (λ_=>M.f5 M3) b δ β=My (.ok<|.l<|d.flatMap o,β):=by
 refine ss a ?_ k;have f:∀d:List e,(∀x∈d,∃c,tg (u x) (io nv bt δ)=My c/\b c β=My (.ok<|o x,β))->ko tg (λ_=>M.f5 M3) b (d.map u) (io nv bt δ) β=My (.ok<|d.flatMap o,β):=by
  intro d
  induction d with
  |nil=>intro _;rfl
  |cons x d g=>
   intro h;obtain⟨c,l,m⟩:=h x M7;have n:=g λy i=>h y<|M2 _ i;rw[Nv,ko];simp only[l,M.v,M.f5,reduceIte,m,n,Pj]
 exact f d j
theorem BZ{e:Type}{f:FD}{δ:Dn}{β:Bg}(d:List e)(u v:e->D)(a:it δ β=My (.ok<|d.map u,β))
  (b:∀x∈d,∃c,tg (u x) δ=My c/\f c β=My (.ok<|v x,β)):uy it tg (λ_=>M.f5 M3) (hL f) δ β=My (.ok<|d.map v,β):=by
 have g:∀d:List e,(∀x∈d,∃c,tg (u x) δ=My c/\f c β=My (.ok<|v x,β))->ko tg (λ_=>M.f5 M3) (hL f) (d.map u) δ β=My (.ok<|d.map v,β):=by
  intro d
  induction d with
  |nil=>intro _;rfl
  |cons x d i=>
   intro h;obtain⟨c,j,k⟩:=h x M7;have l:=i λy t=>h y<|M2 _ t;rw[Nv,ko];simp only[j,M.v,M.f5,reduceIte,hL,k,l,Nv,O4,ON]
 unfold uy;rw[M.bind_ok a];exact g d b
theorem wu{c a:Type}{f:c->List a}:∀{l:List c},(∀x∈l,Uc (f x)<=n)->Uc (l.flatMap f)<=n*Uc l
 |[],_=>by simp
 |x::l,h=>by
  have b:=h x M7;have j:=wu (l:=l) λy d=>h y<|M2 _ d;rw[Pj,Ni,Np,Nat.mul_add];lia
theorem oW{e a:Type}(u:e->D)(v:a->D):∀(c:List e) (d:List a),e9 (c.map u) (d.map v)=(c.zip d).map λp=>D.t [u p.1,v p.2]
 |[],d=>by simp[e9]
 |x::c,[]=>by simp[e9]
 |x::c,y::d=>by simp[e9,oW u v c d]
theorem wL{xs:a0e}(h:0<Uc xs):iR xs M0 (My<|-1)=xs.dropLast:=by
 unfold iR HT.sIx;simp;rw[WF];congr 1;lia
theorem wM{c:a0e}{k:Nat}:iR c (My (k:Int)) M0=c.drop k:=by
 unfold iR;rw[HT.sIx_none,HT.sIx_nat];by_cases h:k<=Uc c
 .rw[show Q2 k (Uc c)=k by lia]
  rw[OZ<|by rw[QC];lia]
 .rw[QK (by lia),QK<|by lia]
  simp
theorem Hq{f g:FD}{δ:Dn}{β:Bg}(a:f δ β=My (.ok<|.l xs,β))(b:g δ β=My (.ok<|.n k,β)):Yr f M0 (My g) δ β=My (.ok<|.l<|iR xs M0<|My k,β):=by
 unfold Yr j7;simp only[M.v,a,b,M.f5,M.f,re,Zm]
theorem sN{f g:FD}{δ:Dn}{β:Bg}(a:f δ β=My (.ok<|.l j,β))(b:g δ β=My (.ok<|.n k,β)):Yr f (My g) M0 δ β=My (.ok<|.l<|iR j (My k) M0,β):=by
 unfold Yr j7;simp only[M.v,a,b,M.f5,M.f,re,Zm]
theorem Ev{f g:FD}{δ:Dn}{β:Bg}(a:f δ β=My (.ok<|.l xs,β))(b:g δ β=My (.ok<|.n k,β)):Zx f M0 (My g) δ β=My (.ok<|iR xs M0<|My k,β):=by
 unfold Zx j7;simp only[M.v,a,b,M.f5,M.f,re,slO]
theorem Ld{xs c:a0e}(h:Uc xs+Uc c<=1000):zO (.l xs) (.l c)=My (xs++c):=by
 unfold zO;simp only;rw[Ng<|bn h]
theorem sF{xs c:a0e}(h:Uc xs+Uc c<=1000):lP (.l xs) (.l c)=My (.l<|xs++c):=by
 unfold lP;simp only;rw[Ng<|bn h]
theorem Y7{f g:FD}{δ:Dn}{β β1 β2:Bg}{x y:D}(a:f δ β=My (.ok x,β1))(b:g δ β1=My (.ok y,β2))(j:op x y=My zs):o2 op f g δ β=My (.ok zs,β2):=by
 unfold o2 M.v;rw[a];simp only[b,M.f,j]
def kU:a0e->a0f->Prop
 |[],[]=>True
 | .n i::ds,.int j _::vs=>i=j/\kU ds vs
 | .q x::ds,.str y _::vs=>x=y/\kU ds vs
 | .c x::ds,.bool y::vs=>x=y/\kU ds vs
 | .o::ds,.none::vs=>kU ds vs
 |_,_=>False
theorem iD{K:ND}:∀{ds:a0e} {vs:a0f},kU ds vs->∃c,ay c vs/\∀F H,ba K F H ds c
 |[],[],_=>⟨[],.nil,λ_ _=>ba.nil⟩
 | .n i::ds,.int j t::vs,h=>by
  obtain⟨e,h⟩:=h;subst e;obtain⟨c,a,b⟩:=iD (K:=K) h;exact⟨.n i::c,.cons ⟨t,rfl⟩ a,λF H=>ba.cons rfl<|b F H⟩
 | .q i::ds,.str j t::vs,h=>by
  obtain⟨e,h⟩:=h;subst e;obtain⟨c,a,b⟩:=iD (K:=K) h;exact⟨.q i::c,.cons ⟨t,rfl⟩ a,λF H=>ba.cons rfl<|b F H⟩
 | .c i::ds,.bool j::vs,h=>by
  obtain⟨e,h⟩:=h;subst e;obtain⟨c,a,b⟩:=iD (K:=K) h;exact⟨.c i::c,.cons rfl a,λF H=>ba.cons rfl<|b F H⟩
 | .o::ds,.none::vs,h=>by
  obtain⟨c,a,b⟩:=iD (K:=K) (ds:=ds) (vs:=vs) h;exact⟨.o::c,.cons rfl a,λF H=>ba.cons rfl<|b F H⟩
def Yx(K:ND)(d:D)(u:M8):Prop:=∃v,aT v u/\∀F H,b_ K F H d v
theorem nG{K:ND}{i:Int}{t:Tok}:Yx K (.n i) (.int i t):=⟨.n i,⟨t,rfl⟩,λ_ _=>rfl⟩
theorem nF{K:ND}{q3:a0L}(a:K.lookup p=My ⟨q1,q2,.seq q3 q4,q5⟩)(b:q1= .type "tuple")(j:q3.size<=Nw)(k:kU n q3.toList):Yx K (.t n) (.ref p):=by
 obtain⟨c,l,m⟩:=iD (K:=K) k;exact⟨.r p,rfl,λF H=>⟨p,c,rfl,.inr ⟨_,q3,q4,a,b,rfl,j,l⟩,m F H⟩⟩
theorem kR{K:ND}{mg:a0h}{x:N8}{d:D}{u:M8}(h:mg x=My u)(v:Yx K d u):jg K mg x d:=let ⟨w,h1,h2⟩:=v;⟨u,w,h,h1,h2⟩
theorem DZ{K:ND}{d:a0g}{us:a0f}(n:Nat)(l:Uc d=n+Uc us)(b:∀(s:Na) (c:a0f),K.In s.heap->Uc c=n->UU s m ⟨c,[]⟩ (d.zip<|c++us))(h:∃c,ay c us/\∀F H,ba K F H dd c):oG K m d dd:=
 let ⟨c,h1,h2⟩:=h
 ⟨us,c,λs a j k=>b s a j (by rw[Ni]at k;lia),h1,h2⟩
theorem DU{K:ND}:∃c,ay c []/\∀F H,ba K F H [] c:=⟨[],.nil,λ_ _=>ba.nil⟩
theorem ye{K:ND}{d:D}{u:M8}(v:Yx K d u)(h:∃c,ay c us/\∀F H,ba K F H l c):∃c,ay c (u::us)/\∀F H,ba K F H (d::l) c:=by
 obtain⟨w,a,b⟩:=v;obtain⟨c,j,k⟩:=h;exact⟨w::c,.cons a j,λF H=>ba.cons (b F H)<|k F H⟩
inductive vl (K:ND):List (Sr D)->List (Sr M8)->Prop where
 |nil:vl K [] []
 |kw {j:Nat} {a:List (Sr D)} {c:List (Sr M8)}:vl K a c->vl K (.kw j::a) (.kw j::c)
 |df {x:D} {y:M8} {a:List (Sr D)} {c:List (Sr M8)}:Yx K x y->vl K a c->vl K (.df x::a) (.df y::c)
theorem vl.mid{K:ND}:∀{a:List (Sr D)} {c:List (Sr M8)},vl K a c->∃b:List<|Sr V,lc aT b c/\lc (λd v=>∀F H,b_ K F H d v) a b
 |_,_,.nil=>⟨[],.nil,.nil⟩
 |_,_,.kw (j:=j) h=>let ⟨b,h1,h2⟩:=vl.mid h;⟨.kw j::b,.kw h1,.kw h2⟩
 |_,_,.df v h=>let ⟨b,h1,h2⟩:=vl.mid h;let ⟨w,g1,g2⟩:=v;⟨.df w::b,.df g1 h1,.df g2 h2⟩
theorem G2{K:ND}{d e:a0g}{c:List (Sr D)}{sv:List (Sr M8)}(h:vl K c sv)(j:Uc d=n+Uc c)(k:0<Uc d)(b:∀(s:Na) (us a:a0f),K.In s.heap->Uc us=n->Uc a=Uc e->UU s l ⟨us,e.zip a⟩ (d.zip<|us++sv.map (Sr.f5 .none a))):s0 K l d e n c:=
 ⟨let ⟨sx,h1,h2⟩:=h.mid;⟨sv,sx,h1,h2,b⟩,j,k⟩
variable{X:Cx}{E:a0r}{K:ND}{a:OB}
end
section
variable{h:G}{δ:Ds}{β β1 β2 a:Bg}{Q:a0A}{i:Nat}{j e c:FD}{fl:FL}{d l k:D}{ds:a0e}{b:a0Z}
theorem Ln{δ:Dn}{β β1:Bg}(a:t δ β=My (.ok M3,β1))(b:f δ β1=My r):V_ t f g δ β=My r:=by
 unfold V_ M.v;rw[a];exact b
theorem Lo{δ:Dn}{β β1:Bg}(a:t δ β=My (.ok M5,β1))(b:g δ β1=My r):V_ t f g δ β=My r:=by
 unfold V_ M.v;rw[a];exact b
theorem gf{d:D}{δ:Dn}{β:Bg}(e:δ.getD n M0=My d):aa n δ β=My (.ok d,β):=by unfold aa;rw[e];rfl
end
section
variable{d b a:Bg}{f g h:FD}{c:Dn}{x y z:Int}
end
section
variable{X:Cx}{E:a0r}{o e:Expr}{s:List Expr}{z p h c:RV}{x m:N8}{k n:Nat}{f C:M6}{W:NL}{P j:a0g}{i:List Wv}
structure YY (F:Fx) (x:M6) (H H':Hp) (β':Bg):Prop where
 kp:∀a o,a≠x->H a=My o->(∀b l,F.bg=My (b,l)->a≠b/\a≠l)->H' a=My o
 fr:Fr F H' β'
def YJ(K:ND)(C:M6)(h:a0g)(n:Nat)(d:a0e->M a0e):Sp:=λm H Q E=>∃x e F i j k,m= .r x::e/\Uc e=n/\Fr F H j/\F.A x/\(∀b l,F.bg=My (b,l)->x≠b/\x≠l)/\H x=My (.ins C k [])/\ba K F H i e/\
 ∃r a,d i j=My (r,a)/\match r with
  | .ok s=>∀c f,YY F x H c a->c x=My (.ins C k<|h.zip f)->Uc h=Uc f->ba K F c s f->Q .o c
  | .error Ce=>∀c,YY F x H c a->E (.ref Ce) M0 c
variable{m:a0g}
def oz(C:M6)(m:a0g)(a:a0e->M a0e)(g:FL)(c:a0e):FD:=λe=>M.v (g e) λf=>M.v (a<|f++c) λh=>M.f5<|.obj C m h
theorem Fq{K:ND}{k:a0i}(fr:Fr F H2 Z)(N:Uc k=n)(G:ba K F H2 ds k)(r:run (b_ K F) F E σ (M.v (mi ds) λw=>M.f5<|.obj C m w) H2 Q Z):
  ∀x e,H2 x=M0->H2 e=M0->e≠x->YJ K C m n mi (.r x::k) (upd (upd H2 e<|.u x) x<|.ins C e []) (λv O=>v= .o/\Q (.r x) O) (E σ):=by
 intro x e p B S;have H:¬F.A x:=fr.fresh p;have f:bW H2 (upd (upd H2 e<|.u x) x<|.ins C e []):=λa o h=>by
  rw[bb<|bw h p,bb<|bw h B];exact h
 have t:=fr.same f;have I:Fr (F.but x) (upd (upd H2 e<|.u x) x<|.ins C e []) Z:=⟨λa ha z=>(by
  rcases ha with ha|ha
  .exact t.fr.occ a ha z
  .subst ha;rw[aq]at z;cases z),λb l q=>let ⟨z1,z2,z3⟩:=fr.bgA b l q;⟨.inl z1,.inl z2,z3⟩,t.fr.bag⟩
 have R:∀b l,F.bg=My (b,l)->x≠b/\x≠l:=λb l q=>⟨λz=>H<|z▸(fr.bgA b l q).1,λz=>H<|z▸(fr.bgA b l q).2.1⟩;have J:Tr F H2 (F.but x) (upd (upd H2 e<|.u x) x<|.ins C e []):=⟨λa T U z=>by
  rcases z with z|z
  .exact T z
  .subst z;exact U p,λa o _ h=>f a o h,rfl⟩
 obtain⟨W,c,d,h⟩:=r;refine⟨x,k,F.but x,ds,Z,e,rfl,N,I,.inr rfl,R,aq,ba.tr J _ _ G,?_⟩;have j:∀{g:Hp} {c:Bg},YY (F.but x) x (upd (upd H2 e<|.u x) x<|.ins C e []) g c->To F H2 g c:=λ{g c} i=>⟨λa o ha n=>i.kp a o (bw ha p) (f a o ha) n,⟨λa ha=>i.fr.occ a<|.inl ha,fr.bgA,i.fr.bag⟩⟩;cases q:mi ds Z with
 |none=>unfold M.v at d;rw[q]at d;cases d
 |some z=>
  obtain⟨D,s⟩:=z;refine⟨D,s,rfl,?_⟩;cases D with
  |error Y=>
   rw[M.bind_err q]at d;cases d;exact λg i=>h g<|j i
  |ok w=>
   rw[M.bind_ok q]at d;cases d;refine λg P i L u y=>⟨rfl,h (.r x) g (j i) ⟨x,e,P,rfl,H,L,u,ba.tr Fx.f5 _ _ y⟩⟩
theorem Jf{o:a0e}(q:Mk X.K C f)(G:d_ X.p X.w X.K X.mg X.base (e_ X.p X.w) k f W P<|YJ X.K C m n mi)(u:dv (k+1) X.A)(v:Gl X x)(hm:X.mg x=My (.ref C))(y:oG X.K W P o)(hx:bX (e_ X.p X.w) X E)
  (ha:PA X (e::s)<|h8 X.K g E) (hn:∀D M r d,g D M=My (.ok r,d)->Uc r+Uc o=n) (a:b0c x:=by decide) (B:b0a X e s:=by rfl) (c:b0b X z s:=by rfl):
  PE X (.Call (.Name x p) (e::s) [] z) (tV X.K (oz C m mi g o) E):=by
 obtain⟨ds,I,b,J,V⟩:=y;refine(Ie q G u v hm b J hx ha a B c).imp λU H Q L=>ix L λF D M fr N r=>⟨F,D,M,fr,N,?_⟩;obtain⟨Y,h,j,l⟩:=run.bind (R:=ba X.K F) r;refine⟨Y,h,j,?_⟩;cases Y with
 |error C=>exact l
 |ok as=>
  intro vs S t Z;obtain⟨d',aa,t1,i,r1⟩:=l vs S t Z;have O:=hn _ _ _ _ j;have T:=(V F S).f5;exact Fq t1.fr (by rw[Ni,<-Z.f5,<-T,O]) (ba.append i<|V F S) r1
abbrev IP:=Ds->a0e->Bg->Option (Except M6 a0e×Bg)
noncomputable def G6:IP:=λ_ c e=>My (.ok c,e)
noncomputable def jc(g:G)(a:IP):IP:=λe c f=>match g e f with
 |some (.nx δ1,β1)=>match e[0]?,δ1[0]? with
  |some (My (Sl.h (D.adr x))),My (My (Sl.h (D.adr y)))=>if x=y then a δ1 c β1 else M0
  |_,_=>M0
 |some (.ex C _,β1)=>My (.error C,β1)
 |_=>M0
def jd(f:FD)(a:IP):IP:=λe c h=>match f (vw e) h with
 |some (.ok d,β1)=>a e (c++[d]) β1
 |some (.error C,β1)=>My (.error C,β1)
 |none=>M0
structure nj (x:M6) (B:Ow) (H:Hp) (B':Ow) (H':Hp):Prop where
 kp:∀a o,a≠x->H a=My o->(B a=M0\/B a=My 0)->H' a=My o
 tg:∀a,B a=My 0\/B a=My 1->B' a=B a
 nn:∀a o,a≠x->H a=My o->B a=M0->B' a=M0
 al:∀a,H a≠M0->H' a≠M0
end
theorem hC.x{x:M6}{B b:Ow}{H c:Hp}(s:hC B H b c):nj x B H b c:=⟨λa o _=>s.kp a o,s.tg,λa o _=>s.nn a o,s.al⟩
theorem nj.trans(a:nj x B H B1 H1)(b:nj x B1 H1 B2 H2):nj x B H B2 H2:=by
 refine⟨λc o w h n=>b.kp c o w (a.kp c o w h n) ?_,λc h=>?_,λc o w h n=>b.nn c o w (a.kp c o w h<|.inl n)<|a.nn c o w h n,λc h=>b.al c<|a.al c h⟩
 .rcases n with n|n
  .exact .inl (a.nn c o w h n)
  .exact .inr ((a.tg c<|.inl n).trans n)
 .have e:=a.tg c h
  rw[<-e]at h;exact(b.tg c h).trans e
def kW(K:ND)(D:a0s)(E:a0r)(Dn:l9)(B:Ow)(H:Hp)(x C M:M6)(w:a0g)(r:Except M6 a0e)(d:Bg):Prop:=match r with
 | .ok ds=>∀b c a G,nj x B H c a->Fr (d5 c D) a d->a x=My (.ins C M<|w.zip G)->Uc w=Uc G->ba K (d5 c D) a ds G->Dn.nx b a
 | .error Ce=>∀b c a,nj x B H c a->Fr (d5 c D) a d->E b (.ref Ce) M0 a
theorem kW.pre{K:ND}{E:a0r}{Dn:l9}(s:nj x B H B1 H1)(h:kW K f E Dn B H x C g all r e):kW K f E Dn B1 H1 x C g all r e:=by
 cases r with
 |ok D=>exact λa b c w t=>h a b c w<|s.trans t
 |error d=>exact λa b c t=>h a b c<|s.trans t
def tI(K:ND)(D:Hp)(C:M6)(a w:a0g)(e:IP)(E:a0r):TS:=λDn f H=>∃B G M P x S b c r d,ee K D B G H M P f/\M[0]?=My (My<|.h<|.adr x)/\B x=My 0/\H x=My (.ins C S<|a.zip b)/\Uc a=Uc b/\ba K (d5 B G) H c b/\e M c P=My (r,d)/\kW K G E Dn B H x C S (a++w) r d
theorem tF:∀{w:a0g} {D:a0i},Uc w=Uc D->f∉w->d9 f y (w.zip D)=(w++[f]).zip (D++[y])
 |[],[],_,_=>rfl
 |n::w,v::D,h,hf=>by
  have a:¬n=f:=λz=>hf (by rw[z];exact M7);show(if n=f then(n,y)::w.zip D else(n,v)::d9 f y (w.zip D))=_;rw[Nf a,tF (by simpa using h) λz=>hf<|M2 _ z];rfl
 |[],_::_,h,_=>by simp at h
 |_::_,[],h,_=>by simp at h
theorem ee.upd0{K:ND}(w:ee K H₀ B A H C F I)(D:B x=My 0):ee K H₀ B A (upd H x o) C F I/\nj x B H B (upd H x o):=by
 have E:∀c,H c≠M0->upd H x o c≠M0:=λc a=>by
  by_cases z:c=x
  .subst z;rw[aq];simp
  .rw[bb z];exact a
 have g:∀b l,A=My (b,l)->b≠x/\l≠x:=λb l e=>by
  obtain⟨G,f⟩:=w.bgt b l e;exact⟨λz=>(by rw[z,D]at G;cases G),λz=>(by rw[z,D]at f;cases f)⟩
 have M:Tr (d5 B A) H (d5 B A) (upd H x o):=⟨λ_ h _=>h,λc u a e=>by
  rw[bb]
  .exact e
  .intro z;subst z;exact a (by show B c≠M0;rw[D];simp),rfl⟩
 refine⟨⟨⟨λc a=>E c<|w.fr.occ c a,w.fr.bgA,λb l e=>?_⟩,w.bgt,w.len,λc a=>E c<|w.cov c a,w.new,λc k a=>?_,λi s e=>?_⟩,λc u P h _=>by rw[bb P];exact h,λ_ _=>rfl,λ_ _ _ _ n=>n,E⟩
 .obtain⟨j,m⟩:=w.fr.bag b l e
  obtain⟨p,q⟩:=g b l e;exact⟨by rw[bb p];exact j,by rw[bb q];exact m⟩
 .exact(w.lst c k a).imp λo h=>by rw[bb];exact h;intro z;subst z;rw[D]at a;cases a
 .obtain⟨v,r,t⟩:=w.tell i s e
  exact⟨v,r,t.tr M λc d=>⟨d,λo z=>(bb λy=>by subst y;rw[D]at d;cases d).trans z⟩⟩
section
variable{X:Cx}{E:a0r}{st:OB}{aa:a0R}{C:M6}{w P:a0g}{ip:IP}
theorem MH:PSs X [] (tI X.K X.H₀ C w [] G6 E):=rN.imp λDn b H c=>by
 obtain⟨B,G,M,P,x,S,a,d,r,f,ok,i,V,g,h,D,e,k⟩:=c;cases e;rw[NW]at k;exact k b B H a (hC.refl B H).x ok.fr g h D
theorem zu(l:PS X st<|tG X.K X.H₀ g E)(m:PSs X aa<|tI X.K X.H₀ C w P ip E):PSs X (st::aa) (tI X.K X.H₀ C w P (jc g ip) E):=(cR l m).imp λDn u H n=>by
 obtain⟨B,D,M,S,x,V,c,d,r,f,ok,o,G,p,q,A,e,k⟩:=n;unfold jc at e;split at e
 .rename_i δ1 β1 h
  split at e
  .rename_i v y q1 q2
   split at e
   .rename_i z
    subst z;rw[o]at q1;cases q1;refine⟨B,D,M,S,.nx δ1,β1,ok,h,λb i j s a=>?_⟩;exact⟨i,D,δ1,β1,x,V,c,d,r,f,a,q2,(s.tg x<|.inl G).trans G,s.kp x _ p<|.inr G,q,ba.tr s.tr _ _ A,e,kW.pre s.x k⟩
   .cases e
  .cases e
 .rename_i t δ1 β1 h
  cases e;exact⟨B,D,M,S,.ex t δ1,_,ok,h,λb i j s a=>k b i j s.x a.fr⟩
 .cases e
theorem qP(c:Yg X.K C)(n:ge X.K C f)(J:f∉w)(A:Uc w<1000)(L:PS X st<|JG X.K (kZ 0) (tV X.K fv E) f)(N:PSs X aa<|tI X.K X.H₀ C (w++[f]) P ip E):PSs X (st::aa) (tI X.K X.H₀ C w (f::P) (jd fv ip) E):=(cR L N).imp λDn O H Q=>by
 obtain⟨B,D,V,s,x,G,g,l,r,m,ok,F,M,R,I,hd,e,k⟩:=Q;refine⟨d5 B D,vw V,s,ok.fr,ok.view,?_⟩;unfold jd at e;split at e
 .rename_i d β1 p
  refine⟨.ok d,β1,p,λy S t1 hy=>?_⟩;obtain⟨b,i⟩:=ok.to rfl t1;obtain⟨v,T,U⟩:=b.tell 0 _ F;have W:v= .r x:=U;subst W;have q:=i.kp x _ R<|.inr M;refine⟨_,T,x,C,G,_,rfl,q,c,n,?_,?_⟩
  .rw[Vr];lia
  obtain⟨t,Y⟩:=b.upd0 (o:= .ins C G<|d9 f y<|w.zip g) M;have j:Tr (d5 B D) S (d5 B D) (upd S x<|.ins C G<|d9 f y<|w.zip g):=⟨λ_ h _=>h,λa u ha e=>by
   rw[bb]
   .exact e
   .intro z;subst z;exact ha (by show B a≠M0;rw[M];simp),rfl⟩
  refine⟨B,D,V,β1,x,G,g++[y],l++[d],r,m,t,F,M,by rw[aq,tF I J],by simp[I],ba.append (ba.tr j _ _<|ba.tr i.tr _ _ hd)<|ba.cons (b_.tr j _ _ hy) ba.nil,e,?_⟩;rw[Nm];exact kW.pre (i.x.trans Y) k
 .rename_i Z β1 p
  cases e;refine⟨.error Z,_,p,λS t1=>?_⟩;obtain⟨b,i⟩:=ok.to rfl t1;exact k O B S i.x b.fr
 .cases e
end
open Classical in
def ou(m:Nat)(a:IP):a0e->M a0e:=λw D=>if h:∃r,∀x,a (lh m<|.adr x::w) [] D=My r then My h.choose else M0
theorem wj(h:∀x,a (lh m<|.adr x::b) [] β=My r):ou m a b β=My r:=by
 have w:∃r,∀x,a (lh m<|.adr x::b) [] β=My r:=⟨r,h⟩;unfold ou;rw[Wf w];have:=w.choose_spec 0;rw[h 0]at this;exact this.symm
theorem DB(h:ou m a b c=My r):∀x,a (lh m<|.adr x::b) [] c=My r:=by
 unfold ou at h;split at h
 .rename_i hx
  have:=hx.choose_spec;cases h;exact this
 .cases h
section
variable{P:NY}{w:N6}{K:ND}{mg:a0h}{aa:Op}
theorem IS{st:OB}{N ps G:a0g}(n m:Nat)(ip:IP)(F:hV K x qual st f fd)(S:bc N ps<|ai st)(O:Uc ps=n+1)(R:Uc N=m)
  (p:∀(i:M8) (A:Om) (D:a0B) (s:Na) (H:Hp) (E:XK),dv k (A.deeper<|RP qual (ai st) s.heap.objs.size f i)->
   PSs (dz (e_ P w) P w K mg aa N qual (ai st) f i A D s H E) (cB st) (tI K H C [] G ip (λ_=>E))):d_ P w K mg aa (e_ P w) (k+1) f fd ps (YJ K C G n<|ou m ip):=by
 subst R;refine F.okE S (λvs H Q E h=>?_) λi A D s H vs Q E hr h=>?_
 .obtain⟨y,M,j,ds,β,dx,rfl,hl,_⟩:=h
  rw[Np,hl,O]
 obtain⟨y,M,j,ds,β,dx,rfl,hl,fr,T,nb,hH,hd,r,d,e,h⟩:=h;refine⟨_,p i A D s H E hr,?_⟩;have U:ba K j H (.adr y::ds) (.r y::M):=ba.cons rfl hd;obtain⟨B,ok,L,h1,hn⟩:=vj (N:=N) fr U;have hy:B y=My 0:=by
  rcases L y T with z|z
  .exact z
  .obtain⟨b,l,q,w⟩:=h1 y z
   obtain⟨W,X⟩:=nb b l q;rcases w with w|w
   .exact NH w W
   .exact NH w X
 have v:∀{u:Ow} {g:Hp} {d:Bg},nj y B H u g->Fr (d5 u j.bg) g d->YY j y H g d/\Tr (d5 u j.bg) g j g:=λ{u g d} s c=>by
  have hs:∀a,j.A a->u a≠M0:=λa V=>by
   rw[s.tg a<|L a V];rcases L a V with z|z<;>rw[z]<;>simp
  refine⟨⟨λa o ne V n=>s.kp a o ne V ?_,λa V=>c.occ a<|hs a V,λb l e=>fr.bgA b l e,c.bag⟩,λa V _ z=>V<|hs a z,λ_ _ _ h=>h,rfl⟩;cases q:B a with
  |none=>exact .inl rfl
  |some t=>
   have:=L a (hn a<|by rw[q];simp);rcases this with z|z
   .rw[q]at z;exact .inr z
   .obtain⟨b,l,e,w⟩:=h1 a z
    obtain⟨W,X⟩:=n b l e;rcases w with w|w
    .exact NH w W
    .exact NH w X
 refine⟨B,j.bg,lh (Uc N)<|.adr y::ds,β,y,dx,[],[],r,d,ok,rfl,hy,hH,rfl,ba.nil,DB e y,?_⟩;cases r with
 |ok es=>
  intro Y u g vs s c Z I J;obtain⟨t1,t2⟩:=v s c;exact h g vs t1 Z I<|ba.tr t2 _ _ J
 |error Ce=>
  intro Y u g s c;exact h g (v s c).1
variable{X:Cx}{E:a0r}{d:OB}
variable{h:G}{b:Ds}{c a:Bg}{Q:a0A}{i:Nat}{f:FD}
end
section
variable{C k:M6}{m:N8}{l:a0g}{p:a0e->M D}{e:a0e->M a0e}{t:FD}{g s:FL}{j n as q:a0e}{o:List (Sr D)}{δ:Dn}{β β1 β2 b:Bg}{r:Except M6 D×Bg}{d:D}{f:N8}{h:G}{Q:a0A}{i:Nat}{a:Ds}
theorem Ja(a:g δ β=My (.ok as,β1))(b:e (as++j) β1=My (.ok n,β2)):oz C l e g j δ β=My (.ok<|.obj C l n,β2):=by
 unfold oz;rw[M.bind_ok a,M.bind_ok b];rfl
theorem Hr(a:g δ β=My (.ok as,β1))(b:e (as++j) β1=My (.error k,β2)):oz C l e g j δ β=My (.error k,β2):=by
 unfold oz;rw[M.bind_ok a,M.bind_err b]
theorem AA{fl:FL}(e:fl (vw a) β=My (.ok c,β1))(k:Gw h (a.set i<|My<|.u c) β1 Q):Gw (aB (qR i fl) h) a β Q:=dH (by unfold qR;simp only[e]) k
theorem wg{g:G}{δ δ1:Ds}{r:Except M6 a0e×Bg}(e:g δ β=My (.nx δ1,β1))(a:δ[0]?=My (My<|.h<|.adr x))(b:δ1[0]?=My (My<|.h<|.adr x))(k:c δ1 done β1=My r):jc g c δ done β=My r:=by
 unfold jc;simp only[e,a,b,Ol];exact k
theorem II{g:G}{δ δ1:Ds}(e:g δ β=My (.ex k δ1,β1)):jc g c δ done β=My (.error k,β1):=by
 unfold jc;simp only[e]
theorem mV{f:FD}{δ:Ds}{d:D}{r:Except M6 a0e×Bg}(e:f (vw δ) β=My (.ok d,β1))(k:c δ (done++[d]) β1=My r):jd f c δ done β=My r:=by
 unfold jd;rw[e];exact k
noncomputable def Im{a:Type}(d:a)(c:Nat)(a_:List<|List a):List (List a):=(Nj c).map λj=>a_.map λb=>b.getD j d
abbrev tp(c:Nat)(a_:LI):LI:=Im 0 c a_
theorem rC{b:Type}{d:b}{r c:Nat}{e:List (List b)}(h:Uc e=r):jm c r (Im d c e):=⟨by simp[Im],λf a=>by
 obtain⟨j,_,rfl⟩:=NE.mp a;rw[MZ,h]⟩
theorem yT{d:Int}:∀(a:a0b),(Nj<|Uc a).map (λj=>a.getD j d)=a:=λa=>by
 refine RK λi=>?_;rw[Nk];by_cases h:i<Uc a
 .rw[PM h]
  show My (a.getD i d)=_;rw[Nz,M9 h];rfl
 .rw[RX (by simpa using h),RX<|by lia];rfl
theorem rF{a:Type}(f g:a->Int):∀l:List a,(l.map λx=>f x+g x).sum=(l.map f).sum+(l.map g).sum
 |[]=>by simp
 |x::l=>by
  simp only[Nv,NZ,rF f g l];lia
theorem o3{a:Type}:∀l:List a,(l.map λ_=>(0:Int)).sum=0
 |[]=>rfl
 |x::l=>by simp only[Nv,NZ,o3 l];rfl
theorem AH:∀{a_:LI},(∀row∈a_,Uc row=c)->tot (tp c a_)=tot a_
 |[],_=>by
  show((Im 0 c []).map OJ).sum=0;unfold Im;rw[No];exact o3<|Nj c
 |row::a_,h=>by
  have b:=AH (c:=c) (a_:=a_) λx d=>h x<|M2 _ d;have a:=h row M7;unfold tot tp Im at b⊢;rw[No]at b⊢;have e:(λj=>(OJ<|(row::a_).map λrow=>row.getD j 0))=λj=>row.getD j 0+(a_.map λrow=>row.getD j 0).sum:=by
   funext j;rw[Nv,NZ]
  show((Nj c).map λj=>(OJ<|(row::a_).map λrow=>row.getD j 0)).sum=_;rw[e,rF,<-a,yT,a,Nv,NZ];congr 1
theorem LB(h:∀d∈u,∀x∈d,0<=x):∀d∈tp c u,∀x∈d,0<=x:=λd a x f=>by
 obtain⟨j,_,rfl⟩:=NE.mp a;obtain⟨q,b,rfl⟩:=NE.mp f;rw[Nz];cases e:q[j]? with
 |none=>exact Sk 0
 |some y=>exact h q b y<|Nq e
end
end L2.Pu
namespace L2.Pu
def iP(ns:a0b):Int:=ns.foldl Q2<|ns.headD 0
theorem lm:∀(w:a0b) (z:Int),w.foldl Q2 z<=z/\(∀a∈w,w.foldl Q2 z<=a)/\(w.foldl Q2 z=z\/w.foldl Q2 z∈w)
 |[],z=>⟨Sk _,λ_ h=>(by cases h),.inl rfl⟩
 |x::w,z=>by
  obtain⟨c,b,h3⟩:=lm w<|Q2 z x;show w.foldl Q2 (Q2 z x)<=z/\_/\(w.foldl Q2 (Q2 z x)=z\/_);refine⟨by lia,λa ha=>?_,?_⟩
  .rcases Nn.mp ha with rfl|ha
   .show w.foldl Q2 (Q2 z a)<=a
    lia
   .exact b a ha
  .rcases h3 with h3|h3
   .by_cases q:z<=x
    .exact .inl (by rw[h3];lia)
    .exact .inr (by rw[Nn];left;rw[show UG Q2 z (x::w)=w.foldl Q2 (Q2 z x)from rfl,h3];lia)
   .exact .inr (M2 _ h3)
theorem v5(h:ns≠[]):iP ns∈ns:=by
 cases ns with
 |nil=>exact NH rfl h
 |cons x ns=>
  rcases(lm (x::ns) x).2.2 with h|h
  .unfold iP
   show(x::ns).foldl Q2 x∈_;rw[h];exact M7
  .exact h
theorem xR(h:a∈ns):iP ns<=a:=(lm ns _).2.1 a h
theorem Kp(b:m∈ns)(c:∀a∈ns,m<=a):m=iP ns:=by
 have:=c _ (v5 (ns:=ns) λz=>by rw[z]at b;cases b);have:=xR b;lia
section
variable{X:Cx}
theorem wU{w:Array (Int×Tok)}(E:0<w.size)(e:w.toList.map (·.1)=ns):VJ w (argBest (λi j=>decide (VJ w i<VJ w j))<|w.size-1)=iP ns:=by
 obtain⟨d,b⟩:=argBest_lt (VJ w)<|w.size-1;refine Kp ?_ λa D=>?_
 .rw[numAt_eq,e];exact getD_mem (by rw[<-e,MZ,Nx];lia)
 .obtain⟨j,c,rfl⟩:=mem_getD D
  rw[<-e,MZ,Nx]at c;rw[<-e,<-numAt_eq];exact b j (by lia)
variable{p:NY}{w:N6}{A:Om}{E:a0d}{s:Na}{l:M6}{x:Array (Int×Tok)}
theorem Fo(g:A.handled=M0)(c:s.heap.IsTuple l<|RJ x)(d:0<x.size)
  (h:∀v D f,(RJ x)[argBest (λi j=>decide (VJ x i<VJ x j))<|x.size-1]?=My v->(∀b o,s.heap.get? b=My o->D.get? b=My o)->Q v {s with heap:=D,toks:=f}):
  Nu (NK p w) A (RO (.builtin "min") [.ref l]) Q E s:=by
 have a:l<s.heap.objs.size:=by obtain⟨_,e,_⟩:=c;exact NI e
 refine call_min_walk<|Tw c ⟨_,_,_,_,_,_,_,rfl,Walks.tuple (A:=A.in1) g _ l (Og a)<|RJ x,⟨⟨_,NA _ rfl,rfl,rfl⟩,c.at λo e=>M4 _ e⟩,λb hb=>?_,by simpa[RJ]using d,CmpOf.ints_lt (VJ x) (λ_ _=>Wg),λv D f k m=>?_⟩
 .show b<(s.heap.push _).objs.size
  rw[OD];rcases Nn.mp hb with rfl|hb
  .exact QE _
  .rcases Nn.mp hb with rfl|hb
   .exact Q4 a
   .cases hb
 .exact h v D f (by simpa[RJ]using k) λb o e=>m b o (λhm=>by
   rcases Nn.mp hm with n|hm
   .exact NH (n▸NI e) (Oi _)
   .cases hm)<|M4 _ e
variable{K:ND}
abbrev GS(K:ND):a0i->Hp->VK->Prop:=λx H Q=>∃(p:M6) (l:a0b),x=[.r p]/\(en K H p (l.map V.n)\/hU K H p (l.map V.n))/\l≠[]/\Q (.n<|iP l) H
theorem uk(f:X.calm=M3):dM X (.builtin "min") (GS X.K):=by
 intro g s y H x M Q I r h;obtain⟨p,w,rfl,hq,c,q⟩:=h;obtain⟨u,rfl,k⟩:=jM r;cases k;have E:∀{l:a0f},ay (w.map V.n) l->∃x:Array<|Int×Tok,l.toArray=RJ x/\x.toList.map (·.1)=w/\0<x.size:=λ{l} b=>by
  have i:=lE b;obtain⟨x,A⟩:=i.allInts.items;have a:=i.numsOf;have m:l=(RJ x).toList:=by rw[<-A]
  rw[m,Xs]at a;refine⟨x,A,a,?_⟩;have:Uc (x.toList.map (·.1))=Uc w:=by rw[a]
  rw[MZ,Nx]at this;cases w with
  |nil=>exact NH rfl c
  |cons=>rw[this];exact Nat.succ_pos _
 rcases hq with hq|hq
 .obtain⟨l,b,pl,n⟩:=I.list hq
  obtain⟨x,A,a,D⟩:=E b;have j:=pl.isList;rw[A]at j;refine min_intList (I.ok.hd f) j D λv G o d e=>?_;obtain⟨t,rfl⟩:=Wg d;rw[wU D a];exact⟨.n<|iP w,H,I.kept e,⟨_,rfl⟩,q⟩
 .obtain⟨l,b,pl,n⟩:=I.tuple hq
  obtain⟨x,A,a,D⟩:=E b;rw[A]at pl;refine Fo (I.ok.hd f) pl D λv G o d e=>?_;obtain⟨t,rfl⟩:=Wg d;rw[wU D a];exact⟨.n<|iP w,H,I.kept e,⟨_,rfl⟩,q⟩
def uL:Option a0b->a0k
 |some (n::ns)=>My<|.n<|iP<|n::ns
 |_=>M0
def zb:a0e->a0k
 |[.l x]=>uL<|cU x
 |[.t x]=>uL<|cU x
 |_=>M0
theorem tT(e:uL o=My d):∃l,o=My l/\l≠[]/\d= .n (iP l):=by
 match o,e with
 |some (n::l),e=>cases e;exact⟨_,rfl,(λz=>by cases z),rfl⟩
theorem CQ:fX K (GS K) zb:=λF H s Q w d A fr h e k=>by
 unfold zb at e;split at e
 .rename_i x
  obtain⟨l,q,b,rfl⟩:=tT e;obtain⟨v,rfl,g⟩:=ba.p3 h;obtain⟨a,p,rfl,r,c⟩:=b_.p3 g;rw[gx q]at c;have f:=ba.ints l c;subst f;exact⟨a,l,rfl,.inl r,b,k _ H (To.refl fr) rfl⟩
 .rename_i x
  obtain⟨l,q,b,rfl⟩:=tT e;obtain⟨v,rfl,g⟩:=ba.p3 h;obtain⟨a,p,rfl,r,c⟩:=b_.f5 g;rw[gx q]at c;have f:=ba.ints l c;subst f;exact⟨a,l,rfl,.inr r,b,k _ H (To.refl fr) rfl⟩
 .cases e
end
end L2.Pu
namespace L2
end L2
namespace L2.Pu
section
variable{X:Cx}{E:a0r}{K:ND}{J L w:Expr}{z:List Expr}{y:a0S}{t:Scope}{A:RV}{O R:a0g}{bt:a0a}{g:TG}{P:a0Y}
theorem BG{a c:RV}(j:X.N.Nodup)(d:X.N[i]?=My x)(M:si X.e.scope x)(k:X.calm=M3)(S:cy X t O R bt)(l:PI X L w<|iV X.K v E)
  (m:∀(G:a0j) (C:M6) (f:a0n) (s:Na) (H:Hp),PG (aE X O t G C f s H) L g/\dP (aE X O t G C f s H) z (gt X.K B E0)/\∀D,PB (aE X O t G C f s H) J (⟨L,w,z,0⟩::y) t A 0 D<|P D)
  (n:cF X.K g u) (o:dO u) (p:∀D,jf X.K D (P D) b)
  (e:Rx (.ListComp J (⟨L,w,z,0⟩::y) t A) (My<|.Name x a) c.line X.e=Ps M3:=by rfl)
  (V:∀x,Oj w X.e x=Ps x:=by intro _;rfl) (q:b0d X x:=by first|exact .inl rfl|exact .inr rfl|assumption):
  PS X (.Assign [.Name x a] (.ListComp J (⟨L,w,z,0⟩::y) t A) c) (tG X.K X.H₀ (qR i<|eV (Uc R) bt v u B b) E):=
 JB ((rO j d M k S l m e V q).imp λD r H h=>sS n o p h)
variable{x:OB}{a:Hp}{B:Ow}{g:a0s}{H b:Hp}{δ:Ds}{β s:Bg}{z:St}
theorem DI{K:ND}{H a:Hp}(b:dL d=M3)(h:b_ K F H d v):b_ K F2 a d v:=by
 cases d<;>first|exact h|cases b
def qS(i:Nat)(a b:FD):G:=λδ β=>match b (fh δ) β with
 |some (.ok d,β1)=>match a (fh δ) β1 with
  |some (.ok (.n ka),β2)=>match δ.getD i M0 with
   |some (.u ds)=>match lb (Uc ds) ka with
    |some g=>if dL d=M3 then My (.nx<|δ.set i<|My<|.u<|ds.set g d,β2)else M0
    |none=>M0
   |_=>M0
  |_=>M0
 |_=>M0
theorem nU(h:PS X x<|gr (tV X.K U E)<|wq (kZ i) (tV X.K fa E) qq):PS X x (tG X.K X.H₀ (qS i fa U) E):=h.imp λD z H t=>by
 obtain⟨B,g,δ,β,o,s,ok,e,q⟩:=t;refine⟨j2 B g,fh δ,β,ok.p3,ok.f5,?_⟩;unfold qS at e;split at e
 .rename_i d β1 u
  refine⟨.ok d,_,u,λv P t1 G=>?_⟩;obtain⟨b,A⟩:=ok.to rfl t1;split at e
  .rename_i ka β2 C
   split at e
   .rename_i ds p
    split at e
    .rename_i ja I
     split at e
     case isFalse=>cases e
     rename_i J;cases e;obtain⟨w,l,a,xs,rfl,hB,S,Q⟩:=b.tell i _<|getD_some p;refine⟨_,l,j2 B g,fh δ,β1,b.p3,b.f5,.ok<|.n ka,_,C,λy R t2 M=>?_⟩;cases M;obtain⟨c,L⟩:=b.to (F:=j2 B g) rfl t2;obtain⟨T,r,V,f,N,m,j,k⟩:=c.tell i _<|getD_some p;rw[l]at r;cases r;cases N;refine⟨a,f,ka,ja,rfl,rfl,j,by rw[<-k.f5];exact I,?_⟩;obtain⟨n,O⟩:=c.writeOwn (ds:=ds.set ja d) (xs:=f.set ja v) l m j<|ba.set ja k<|DI J G;exact q _ _ _ (A.trans<|L.trans O) n
    .cases e
   .cases e
  .cases e
 .cases e
theorem nC{δ:Ds}{β β1 β2:Bg}{cs:a0e}(a:j (fh δ) β=My (.ok d,β1))(b:fa (fh δ) β1=My (.ok<|.n ka,β2))(c:δ.getD i M0=My (.u cs))(e:lb (Uc cs) ka=My ja)(k:Gw h (δ.set i<|My<|.u<|cs.set ja d) β2 Q)(f:dL d=M3:=by rfl):Gw (aB (qS i fa j) h) δ β Q:=
 dH (by unfold qS;simp only[a,b,c,e,f,Ol]) k
theorem YM{us:a0f}(h:Uc us=1):∃a,us=[a]:=TH.mp h
theorem T1{us:a0f}(h:Uc us=2):∃g s,us=[g,s]:=by
 obtain⟨a,l,rfl⟩:=Qb h;obtain⟨b,rfl⟩:=YM (us:=l) (by simpa using h);exact⟨_,_,rfl⟩
theorem ZG{us:a0f}(h:Uc us=3):∃g s t,us=[g,s,t]:=by
 obtain⟨a,l,rfl⟩:=Qb h;obtain⟨b,c,rfl⟩:=T1 (us:=l) (by simpa using h);exact⟨_,_,_,rfl⟩
theorem ZF{us:a0f}(h:Uc us=4):∃g s t w,us=[g,s,t,w]:=by
 obtain⟨a,l,rfl⟩:=Qb h;obtain⟨b,c,d,rfl⟩:=ZG (us:=l) (by simpa using h);exact⟨_,_,_,_,rfl⟩
theorem lU5{us:a0f}(h:Uc us=5):∃g s t w x,us=[g,s,t,w,x]:=by
 obtain⟨a,l,rfl⟩:=Qb h;obtain⟨b,c,d,e,rfl⟩:=ZF (us:=l) (by simpa using h);exact⟨_,_,_,_,_,rfl⟩
end
section
variable{X:Cx}{E:a0r}{e u o z B i:Expr}{t:List Expr}{q p:RV}{f1 f2 I J d:FD}{g:FL}{k j n:Nat}{f:M6}{y:NL}{v:a0g}{x:N8}{a:a0e->a0k}{r:a0G}{c T:String}
theorem vv(i:Nat){x:N8}(b:X.N[i]?=My x:=by rfl)(c:Yw X.e.scope x:=by first|exact PP rfl|exact QT (PP rfl)|exact QT (QT rfl))(d:b0c x:=by decide)
  (a:(x==("__classdict__":N8))=M5:=by decide):PE X (.Name x q) (tV X.K (aa i) E):=Lr i<|pv i b c d a
theorem c_(a:PE X u<|tV X.K f1 E)(b:b0a X u []:=by rfl):PA X [u] (h8 X.K (ae f1 ak) E):=fN a l7 b
theorem eg(a:PE X u<|tV X.K f1 E)(b:PE X o<|tV X.K f2 E)(c:b0a X u [o]:=by rfl)(d:b0a X o []:=by rfl):PA X [u,o] (h8 X.K (ae f1<|ae f2 ak) E):=fN a (c_ b d) c
theorem nl(a:PE X u<|tV X.K f1 E)(b:PE X o<|tV X.K f2 E)(c:PE X z<|tV X.K I E)(d:b0a X u [o,z]:=by rfl)(h:b0a X o [z]:=by rfl)(i:b0a X z []:=by rfl):PA X [u,o,z] (h8 X.K (ae f1<|ae f2<|ae I ak) E):=fN a (eg b c h i) d
theorem s9(a:PE X u<|tV X.K f1 E)(b:PE X o<|tV X.K f2 E)(c:PE X z<|tV X.K I E)(d:PE X B<|tV X.K J E)(h:b0a X u [o,z,B]:=by rfl)(i:b0a X o [z,B]:=by rfl)(l:b0a X z [B]:=by rfl)(m:b0a X B []:=by rfl):PA X [u,o,z,B] (h8 X.K (ae f1<|ae f2<|ae I<|ae J ak) E):=fN a (nl b c d i l m) h
theorem o0(c:Dn)(d:Bg)(r:a0e)(a:Bg)(h:ak c d=My (.ok r,a)):Uc r=0:=Gp h
structure FB (P:NY) (w:N6) (K:ND) (mg:a0h) (base:Op) (k:Nat) (x:N8) (f:M6) (y:NL) (v:a0g) (n:Nat) (m:a0e->M D):Prop where
 ok:d_ P w K mg base (e_ P w) k f y v (B6 K n m)
 m:mg x=My (.ref f)
 kp:Se K (.ref f)=M3
 b:dN K y v []
theorem vc(G:FB X.p X.w X.K X.mg X.base j x f y v n m)(h:dv k X.A)(u:PA X (e::t)<|h8 X.K g E)(i:j<=k:=by decide)(z:bX (e_ X.p X.w) X E:=by first|exact qz|exact gp|assumption)(l:Gl X x:=by rfl)
  (B:∀D I r d,g D I=My (.ok r,d)->Uc r=n:=by repeat (first|exact o0|apply aR)) (a:b0c x:=by decide) (o:b0a X e t:=by rfl) (c:b0b X q t:=by rfl):
  PE X (.Call (.Name x p) (e::t) [] q) (tV X.K (bC m g) E):=Jg G.ok (h.mono i) l G.m G.kp G.b z u B a o c
theorem bG(d:X.mg "len"=M0)(f:PA X (e::t)<|h8 X.K g E)(b:Gl X "len":=by rfl)(c:b0a X e t:=by rfl)(a:b0b X q t:=by rfl):PE X (.Call (.Name "len" p) (e::t) [] q) (tV X.K (aJ cW g) E):=cu nc Me b d PySem.boot_len f (by decide) (by decide) c a
theorem dY(f:X.mg "sum"=M0)(i:PA X (e::t)<|h8 X.K g E)(b:Gl X "sum":=by rfl)(c:X.calm=M3:=by rfl)(d:b0a X e t:=by rfl)(a:b0b X q t:=by rfl):PE X (.Call (.Name "sum" p) (e::t) [] q) (tV X.K (aJ gF g) E):=cu (Ek c) Ku b f Boot.«sum» i (by decide) (by decide) d a
theorem hE{c:Scope}(a e:a0g)(d:a0a)(k:c.kind= .function:=by rfl)(f:(c.names.map (·.1)).Nodup:=by decide +kernel)
  (fr:(c.names.all λy=>y.2 != .free||(X.e.scope.names.lookup y.1==My .cell||X.e.scope.names.lookup y.1==My .free))=M3:=by rfl) (g:a=e++d.map (λj=>X.N.getD j QV):=by rfl)
  (b:(d.all λj=>decide (j<Uc X.N)&&c.names.lookup (X.N.getD j QV)==My .free)=M3:=by rfl):cy X c a e d:=cy.ofB k f fr g b
theorem eo{a:a0g}(h:a.Nodup:=by decide +kernel):(aE X a b cl C l s H).N.Nodup:=h
theorem d4(i:Nat){x:N8}(a:X.N.Nodup)(b:X.N[i]?=My x:=by rfl)(d:si X.e.scope x:=by first|exact PP rfl|exact QT rfl)(c:b0d X x:=by first|exact .inl rfl|exact .inr rfl|assumption):PG X (.Name x q) (fi i):=xH a b d c
theorem eB(i:Nat){x:N8}{e:Expr}{q a:RV}(b:X.N.Nodup)(c:PE X e l)(d:X.N[i]?=My x:=by rfl)(f:si X.e.scope x:=by first|exact PP rfl|exact QT rfl)(g:Rx e (My (.Name x a)) q.line X.e=Ps M5:=by rfl)(h:b0d X x:=by first|exact .inl rfl|exact .inr rfl|assumption):PS X (.Assign [.Name x a] e q) (gr l (fi i)):=qx b d f c g h
theorem p_{Q:a0f->Prop}(h:∀a,Q [a])(us:a0f)(b:Uc us=1):Q us:=by obtain⟨_,rfl⟩:=YM b;exact h _
theorem z4{Q:a0f->Prop}(h:∀a b,Q [a,b])(us:a0f)(c:Uc us=2):Q us:=by obtain⟨_,_,rfl⟩:=T1 c;exact h _ _
theorem rz{Q:a0f->Prop}(h:∀a b c,Q [a,b,c])(us:a0f)(d:Uc us=3):Q us:=by obtain⟨_,_,_,rfl⟩:=ZG d;exact h _ _ _
theorem Yv{Q:a0f->Prop}(h:∀a b c d,Q [a,b,c,d])(us:a0f)(i:Uc us=4):Q us:=by obtain⟨_,_,_,_,rfl⟩:=ZF i;exact h _ _ _ _
theorem fx{N Q:a0g}{c:Scope}(a:c.kind= .function:=by rfl)(b:c.isCoroutine=M5:=by rfl)(g:c.isGenerator=M5:=by rfl)(d:N.Nodup:=by decide +kernel)(e:N.take (Uc Q)=Q:=by rfl)(f:∀x∈Q,c.names.lookup x=My .local\/c.names.lookup x=My .cell:=by decide +kernel)(h:∀y∈c.names,y.2≠ .free:=by decide +kernel):bc N Q c:=⟨a,b,g,d,e,f,h⟩
structure g_ (K:ND) (mg:a0h) (x:N8) (st:OB) (f:M6) (y:NL) (v:a0g):Prop where
 F:hV K x x st f y
 m:mg x=My (.ref f)
 b:dN K y v []
theorem hO{P:NY}{w:N6}{K:ND}{mg:a0h}{base:Op}{x:N8}{e:OB}{f:M6}{y:NL}{N v:a0g}{k n:Nat}{g:G}(m:Nat)(F:g_ K mg x e f y v)(S:bc N v<|ai e)(a:∀(c:M8) (A:Om) (d:a0B) (s:Na) (H:Hp) (E:XK),dv k (A.deeper<|RP x (ai e) s.heap.objs.size f c)->PSs (dz (e_ P w) P w K mg base N x (ai e) f c A d s H E) (cB e) (tG K H g (λ_=>E)))(i:Uc v=n:=by rfl)(j:Uc N=m:=by rfl):FB P w K mg base (k+1) x f y v n (fW m g):=⟨pE n m g F.F S i j a,F.m,F.F.kp,F.b⟩
def Al:List Prop->Prop
 |[]=>True
 |p::l=>p/\Al l
theorem aC{p:Prop}(h:p)(t:Al l):Al (p::l):=⟨h,t⟩
theorem Lf:∀{l:List Prop},Al l->∀i,l.getD i True
 |[],_,_=>trivial
 |_::_,h,0=>h.1
 |_::_,h,i+1=>Lf h.2 i
end
end L2.Pu
namespace L2
section
variable{a:NY}{w:N6}{A:Om}{E:a0d}{s:Na}{K:ND}
variable{X:Cx}
end
namespace Pu
section
variable{X:Cx}{E:a0r}
end
end Pu
end L2
namespace L2.Pu
section
variable{X:Cx}{E:a0r}{a b:Expr}{e:RV}{k:Nat}{f C:M6}{l:NL}{ps:a0g}{K:ND}
structure IsC (K:ND) (C:M6):Prop where
 cl:Yg K C
 ha:Qm K (.ref C) "__class__"=My (My<|.builtin "object.__class__")
 hn:specialIn K (.builtin "object.__class__") "__get__"=My (My<|.builtin "getset_descriptor.__get__")
 htk:XH K (.builtin "object.__class__")=My M3
 hm:mroIn K C (.type "object")=My M3
variable{e p2 d b:RV}
noncomputable def S(n:Nat)(f:a0D):Int:=((Nj n).map f).sum
theorem Li(f:a0D):S 0 f=0:=rfl
theorem jK(n:Nat)(f:a0D):S (n+1) f=S n f+f n:=by
 unfold S;rw[PR,Of,Vt];simp
theorem cP{f g:a0D}(h:∀i<n,f i=g i):S n f=S n g:=by
 unfold S;rw[Oh λi c=>h i<|NQ.mp c]
theorem zW(n:Nat)(f g:a0D):S n (λi=>f i+g i)=S n f+S n g:=rF f g _
theorem rf(n:Nat):S n (λ_=>0)=0:=o3 _
theorem MX(n:Nat)(f:a0D):S n (λi=>-f i)=-S n f:=by
 induction n with
 |zero=>rfl
 |succ n a=>rw[jK,jK,a];lia
theorem Lj(n m:Nat)(h:a0U):S n (λi=>S m (λj=>h i j))=S m (λj=>S n (λi=>h i j)):=by
 induction n with
 |zero=>rw[Li];exact(rf m).symm
 |succ n a=>
  rw[jK,a,<-zW];exact cP λj _=>(jK n _).symm
theorem o4{g:a0D}:∀{l L:a0a},l.Sublist L->L.Nodup->(l.map g).sum=(L.map λx=>if x∈l then g x else 0).sum
 |_,_,.slnil,_=>rfl
 |l,_,.cons a (l₂:=L) h,nd=>by
  have c:=(N2.mp nd);have b:a∉l:=λz=>c.1<|h.subset z;rw[Nv,NZ,Nf b,o4 h c.2,RM]
 |_,_,.cons₂ a (l₁:=l) (l₂:=L) h,nd=>by
  have c:=(N2.mp nd);rw[Nv,Nv,NZ,NZ,Ng M7,o4 h c.2];congr 2;refine Oh λx d=>?_
  grind
theorem nN{l:a0a}(h:l.Sublist<|Nj n):(l.map g).sum=S n λx=>if x∈l then g x else 0:=o4 h List.nodup_range
theorem yb{p:a0P}{g:a0D}:∀l:a0a,((l.filter p).map g).sum=(l.map λx=>if p x=M3 then g x else 0).sum
 |[]=>rfl
 |x::l=>by
  rw[R6,Nv,NZ,<-yb l]
  grind
noncomputable abbrev nI(l:a0a):a0b:=l.map λ(i:Nat)=>(i:Int)
noncomputable abbrev nL(l:a0a):D:= .l<|(nI l).map D.n
theorem x8:∀a:a0b,U_ (.n i) (a.map D.n)=decide (i∈a)
 |[]=>rfl
 |x::a=>by
  have b:=x8 (i:=i) a;unfold U_ at b⊢;rw[Nv,Tk,b];show(decide (x=i)||_)=_
  grind
theorem tZ:∀a:a0b,(a.map D.n).all dL=M3
 |[]=>rfl
 |_::a=>tZ a
theorem KR{b:a0b}{a:Bool}:D2 a (.n i) (.l<|b.map D.n)=My (.c (if a then !decide (i∈b)else decide (i∈b))):=by
 show(if(dL (.n i)&&(b.map D.n).all dL)=M3 then _ else _)=_;rw[tZ,Bool.and_true,Ng (show dL (.n i)=M3 from rfl),x8]
theorem Kk{i:Nat}{l:a0a}:((i:Int)∈nI l)↔i∈l:=by
 grind
theorem qO{i:Nat}{l:a0a}{a:Bool}:D2 a (.n (i:Int)) (nL l)=My (.c (if a then !decide (i∈l)else decide (i∈l))):=by
 rw[KR];simp only[Kk]
theorem lN{k:Type}{f:FD}(b:List k)(u v:k->D)(p:k->Bool)(g:it δ β=My (.ok<|b.map u,β))
  (i:∀x∈b,∃a,tg (u x) (io nv bt δ)=My a/\tt a β=My (.ok<|p x,β)/\(p x=M3->f a β=My (.ok<|v x,β))) (j:Uc b<=Nw):bY nv bt it tg tt (hL f) δ β=My (.ok<|.l<|(b.filter p).map v,β):=by
 refine ss g ?_ (by rw[MZ];exact NJ (RY _ _) j);have w:∀b:List k,(∀x∈b,∃a,tg (u x) (io nv bt δ)=My a/\tt a β=My (.ok<|p x,β)/\(p x=M3->f a β=My (.ok<|v x,β)))->ko tg tt (hL f) (b.map u) (io nv bt δ) β=My (.ok<|(b.filter p).map v,β):=by
  intro b
  induction b with
  |nil=>intro _;rfl
  |cons x b C=>
   intro h;obtain⟨a,d,c,l⟩:=h x M7;have e:=C λy E=>h y<|M2 _ E;rw[Nv,ko,R6];cases q:p x with
   |true=>
    rw[q]at c;simp only[d,M.v,M.f5,c,hL,l q,e,Ng,Nv,O4,ON]
   |false=>
    rw[q]at c;simp only[d,M.v,M.f5,c,e,NF,Oy,ON]
 exact w b i
theorem oU:∀(n:Nat) (a:a0e),eM n a=(Nj<|Uc a).map λ(i:Nat)=>D.t [.n ((n+i:Nat):Int),a.getD i .o]
 |n,[]=>rfl
 |n,x::a=>by
  rw[eM,oU (n+1) a,Np,WA,Nv,No];congr 1;refine Oh λi _=>?_
  grind
noncomputable abbrev bI(b:LP)(i j:Nat):Int×Int:=(b.getD i []).getD j (0,0)
theorem jm.getD{α:Type}{m:List (List α)}(h:jm r c m)(d:i<r):m[i]?=My (m.getD i [])/\Uc (m.getD i [])=c:=by
 obtain⟨a,e,l⟩:=h.at d
 simp_all
theorem yp{a:Type}{l:List a}{i:Nat}{d:a}(h:i<Uc l):l[i]?=My (l.getD i d):=by
 simp_all
theorem G4{a:a0b}(h:i<Uc a):i4 (.l<|a.map D.n) (.n (i:Int))=My (.n<|a.getD i 0):=dE (by rw[Nk,yp h];rfl)
theorem jE{b:LP}(a:jm r c b)(d:i<r)(g:j<c):i4 (bF b) (.n (i:Int))=My (.l<|(b.getD i []).map pD)/\i4 (.l<|(b.getD i []).map pD) (.n (j:Int))=My (pD<|bI b i j):=by
 obtain⟨e,l⟩:=a.getD d;refine⟨lD (by rw[Nk,e];rfl),dE ?_⟩
 grind
noncomputable def lu(rs:a0b)(over:a0a):Int:=(over.map λi=>rs.getD i 0).sum
def eA(d:a0b)(b:LP)(r:Nat)(a:a0a)(j:Nat):Int:=d.getD j 0-S r λi=>if i∈a then 0 else(bI b i j).1
def e8(b:LP)(a:a0a)(j:Nat):Int:=(a.map λi=>(bI b i j).2).sum
def jU(cs:a0b)(b:LP)(r c:Nat)(over into:a0a):Int:=S c λj=>if j∈into then eA cs b r over j else e8 b over j
def hF(b:LP)(a d:a0a)(i j:Nat):Int:=(if i∈a/\j∉d then(bI b i j).2 else 0)-(if i∉a/\j∈d then(bI b i j).1 else 0)
theorem HQ{b:LP}{f a:a0a}(e:f.Sublist<|Nj r)(d:a.Sublist<|Nj c):
  jU cs b r c f a=lu cs a+S r λi=>S c λj=>hF b f a i j:=by
 unfold jU lu;rw[nN d,Lj,<-zW];refine cP λj g=>?_;by_cases q:j∈a
 .rw[Ng q,Ng q]
  unfold eA;rw[Int.sub_eq_add_neg,<-MX];congr 1;refine cP λi d=>?_;unfold hF
  simp_all
 .rw[Nf q,Nf q,RM]
  unfold e8;rw[nN e];refine cP λi d=>?_;unfold hF
  simp_all
end
end L2.Pu
namespace L2.Pu
section
variable{X:Cx}{K:ND}
variable{E:a0r}{o e:Expr}{b a:RV}
end
end L2.Pu
namespace L2.Pu
noncomputable def DG:G:=λ_ _=>M0
theorem kB{w:OB}{K:ND}{E:a0r}:PS X w (tG K H DG E):=λ_ _ _ _ _ _ h=>by
 obtain⟨_,_,_,_,_,_,_,e,_⟩:=h;cases e
section
variable{j:NY}{w:N6}{A:Om}{E:a0d}{s:Na}{l:M6}{t:Array (Int×Tok)}
theorem EJ(f:A.handled=M0)(c:s.heap.IsTuple l<|RJ t)
  (h:∀D d G,(∀b o,s.heap.get? b=My o->D.get? b=My o)->Q (.int (preSum (VJ t) t.size) G) {s with heap:=D,toks:=d}):
  Nu (NK j w) A (RO (.builtin "sum") [.ref l]) Q E s:=by
 have a:l<s.heap.objs.size:=by obtain⟨_,e,_⟩:=c;exact NI e
 refine call_sum_walkG<|Tw c ⟨_,_,_,_,_,_,VJ t,rfl,Walks.tuple (A:=A.in1) f _ l (Og a)<|RJ t,⟨⟨_,NA _ rfl,rfl,rfl⟩,c.at λo e=>M4 _ e⟩,λb hb=>?_,(λ_ _=>Wg),λD d G g=>?_⟩
 .show b<(s.heap.push _).objs.size
  rw[OD];rcases Nn.mp hb with rfl|hb
  .exact QE _
  .rcases Nn.mp hb with rfl|hb
   .exact Q4 a
   .cases hb
 .have:=h D d G λb o e=>g b o (λhm=>by
   rcases Nn.mp hm with i|hm
   .exact NH (i▸NI e) (Oi _)
   .cases hm)<|M4 _ e
  simpa[RJ]using this
variable{X:Cx}{K:ND}
abbrev GR(K:ND):a0i->Hp->VK->Prop:=λt H Q=>∃(p:M6) (j:a0b),t=[.r p]/\(en K H p (j.map V.n)\/hU K H p (j.map V.n))/\Q (.n j.sum) H
theorem Ej(b:X.calm=M3):dM X (.builtin "sum") (GR X.K):=by
 intro a s f H t E Q I r h;obtain⟨p,l,rfl,hq|hq,q⟩:=h
 .exact uj b a s f H _ E Q I r ⟨p,l,rfl,hq,q⟩
 .obtain⟨u,rfl,g⟩:=jM r
  cases g;obtain⟨w,i,A,m⟩:=I.tuple hq;have c:=lE i;obtain⟨t,D⟩:=c.allInts.items;have d:=c.numsOf;have j:w=(RJ t).toList:=by rw[<-D]
  rw[j,Xs]at d;rw[D]at A;refine EJ (I.ok.hd b) A λG n M k=>?_;have e:preSum (VJ t) t.size=l.sum:=by rw[preSum_eq,OZ (by simp),d]
  rw[e];exact⟨.n l.sum,H,I.kept k,⟨_,rfl⟩,q⟩
def p9:a0e->a0k
 |[.l t]=>(cU t).map λj=> .n j.sum
 |[.t t]=>(cU t).map λj=> .n j.sum
 |_=>M0
theorem Kt:fX K (GR K) p9:=λF H s Q w d A fr h e k=>by
 unfold p9 at e;split at e
 .rename_i t
  obtain⟨j,q,rfl⟩:=QH.mp e;obtain⟨v,rfl,g⟩:=ba.p3 h;obtain⟨a,l,rfl,r,b⟩:=b_.p3 g;rw[gx q]at b;have c:=ba.ints j b;subst c;exact⟨a,j,rfl,.inl r,k _ H (To.refl fr) rfl⟩
 .rename_i t
  obtain⟨j,q,rfl⟩:=QH.mp e;obtain⟨v,rfl,g⟩:=ba.p3 h;obtain⟨a,l,rfl,r,b⟩:=b_.f5 g;rw[gx q]at b;have c:=ba.ints j b;subst c;exact⟨a,j,rfl,.inr r,k _ H (To.refl fr) rfl⟩
 .cases e
theorem Jx(j:a0b):p9 [.l<|j.map D.n]=My (.n j.sum):=dZ j
theorem Jw(j:a0b):p9 [.t<|j.map D.n]=My (.n j.sum):=dZ j
end
end L2.Pu
namespace L2.Pu
open L2.Hs
noncomputable def Iti(a:M6)(D n:Nat):It:=
 ⟨λi H=>∃b w,H a=My (eP a b D w)/\Uc w=n/\i<n,
  λi H v c=>∃p x,H p=M0/\v= .r p/\c=upd H p (.t [.r x.1,x.2])/\∀b w,H a=My (eP a b D w)->(w[i]?).map (·.2)=My x,
  λi H=>∃b w,H a=My (eP a b D w)/\Uc w=n/\i=n⟩
theorem Gy:∀{w:a0u} {D:a0I} {i:Nat} {y:g8×M6×M8},Vi XY w D->D[i]?=My y->∃x,w[i]?=My x/\XY x y
 |_,_,0,_,.cons h t,e=>by cases e;exact⟨_,rfl,h⟩
 |_,_,i+1,_,.cons h t,e=>Gy (i:=i) t e
 |_,_,0,_,.nil,e=>by cases e
 |_,_,_+1,_,.nil,e=>by cases e
section
variable{X:Cx}{ac:a0c}{σ:St}{H:Hp}{s:Na}{a:M6}{b:Bool}{ep i:Nat}{xs:a0u}
theorem qZ(I:bx X ac σ H s)(h:H a=My (eP a b ep xs)):∃(o:Oz) (es:Array RU),s.heap.get? a=My o/\o.data= .dict es ep/\es.size=Uc xs/\o.ExactDict/\(a==Vk)=M5/\∀(i:Nat) (e:RU),es[i]?=My e->∃x,xs[i]?=My x/\e.key= .ref x.2.1/\aT x.2.2 e.val:=by
 obtain⟨o,es,w,j,k,l,d,h5,m,t,g⟩:zX a b ep xs s.heap:=(I.hok a _ h).1;have n:Uc w=Uc xs:=by rw[<-MZ (f:=(·.1)),<-rp g,MZ]
 refine⟨o,es,j,l,by rw[<-Nx,d,MZ,n],k,m,λi e c=>?_⟩;rw[<-OF,d,Nk]at c;cases q:w[i]? with
 |none=>rw[q]at c;cases c
 |some y=>
  rw[q]at c;cases c;obtain⟨x,D,_,p,r⟩:=Gy g q;exact⟨x,D,by rw[p],r⟩
theorem yC{P:NY}{w:N6}{K:ND}{x1}(a M:M6)(n ep:Nat):
  ni P w K (.Tuple elts x1 pos) (Iti a ep n) [M] M (λi h=>∃G d,Tl h M a i n ep G d) where
 mem:=by simp
 obj:=λi h D b c=>by
  obtain⟨G,d,e⟩:=D;cases NX.mp c;exact⟨_,e,λv q=>by cases q⟩
 keep:=λi h S D k=>by
  obtain⟨G,d,e⟩:=D;exact⟨G,d,k M (by simp) _ e⟩
 item:=by
  intro X l m p C i ac s σ H E I f D r;subst l m p;obtain⟨G,d,e⟩:=D;obtain⟨b,xs,t,R,F⟩:=r;obtain⟨o,es,g,j,T,h4,h5,U⟩:=qZ I t;have V:n=es.size:=by lia
  subst V;have hx:es[i]?=My es[i]:=SY F;refine zq e g j hx λS W Y sz kp=>⟨_,rfl,wpAny_letOwnedTupleGo_items (s:={s with heap:=S}) W λA Z sb=>?_⟩;obtain⟨x,ex,J,L⟩:=U i _ hx;have N:s.heap.objs.size≠M:=P7<|NI e;have I2:bx X ac σ (upd H s.heap.objs.size<|.t [.r x.2.1,x.2.2]) {s with heap:=A,toks:=s.toks}:=
   bx.turnNew I f (λb u c q=>sb.extBut b u (λz=>c<|by rw[z];simp)<|kp b u (λz=>c<|by rw[z];simp) q) (Nh _) ⟨by show 2<=Nw;decide,[es[i].key,es[i].val],.cons J<|.cons L .nil,_,sb.extBut _ _ N Y,rfl,_,rfl⟩
  refine⟨.r s.heap.objs.size,_,I2,rfl,⟨s.heap.objs.size,x.2,I.hok.fresh<|Nh _,rfl,rfl,λb' aa B=>?_⟩,⟨_,_,Z⟩,λb c=>?_⟩
  .obtain⟨o',es',O,Q,_,_,_,g6⟩:=qZ I B
   rw[g]at O;cases O;rw[j]at Q;cases Q;obtain⟨y,ey,fk,fv⟩:=g6 i _ hx;rw[ey];rw[J]at fk
   injection fk with fk
   exact OG My<|Rq fk.symm<|aT.inj fv L
  .cases NX.mp c
   rw[bb N.symm];exact(f _ c).1
 done:=by
  intro X l m p C i ac s σ H E I f D r;subst l m p;obtain⟨G,d,e⟩:=D;obtain⟨b,xs,t,R,F⟩:=r;obtain⟨o,es,g,j,T,_⟩:=qZ I t;have V:n=es.size:=by lia
  subst V;refine CV (I.ok.hd C) e g j (by lia) λS kp=>⟨rfl,bx.turnL (t':=s.toks) I f λb o c q=>kp b o (λz=>c<|by rw[z];simp) q⟩
 self:=λ_ _ _ _ _ D h=>by
  obtain⟨G,d,e⟩:=D;exact zo (es:=(NB n (⟨0,.none,.none⟩:RU)).toArray) (by rw[NG,Pq];exact e) h
variable{E:a0r}{K:ND}{o:Expr}{w i y:RV}{z:List Expr}{B:Nat}
def ZY(o:TE):TI:=λσ H R=>o σ H λx i=>∃a b ep xs,x= .r a/\i a=My (eP a b ep xs)/\R (Iti a ep<|Uc xs) i
theorem E7(n:PE X o to)(c:Xq o "items" X.e (OS o X.e)=OS o X.e:=by rfl)(d:(w.endLine==i.line)=M3:=by rfl):PI X (.Tuple z B y) (.Call (.Attribute o "items" w) [] [] i) (ZY to):=by
 intro ac s σ H R I h;refine wpAny_Call_method0_late c d<|dy (n ac s σ H _ I h) λv f g=>?_;obtain⟨x,D,m,E,a,b,ep,xs,rfl,p,q⟩:=g;cases E;obtain⟨j,G,g,r,t,k,h5,_⟩:=qZ m p;refine⟨"dict","dict.items",PySem.F.plainAttrs_dict,PySem.F.slot_dict_items,PySem.F.type_dict_items,⟨j,g,k.1⟩,λb e=>?_,?_⟩
 .cases e;exact⟨j,g,k.2.1⟩
 refine Wj rfl<|PySem.evalArgs_none<|zQ ⟨j,g,k.1⟩ h5 ?_;have l:bx X ac σ D {f with heap:=f.heap.push {cls:= .type "dict_items",data:= .fields #[.ref a]},toks:=f.toks}:=m.kept λb o e=>M4 _ e;refine zr (s:={f with heap:=f.heap.push {cls:= .type "dict_items",data:= .fields #[.ref a]}}) ⟨_,NA _ rfl,rfl,rfl⟩ (M4 _ g) r ?_;rw[t];exact⟨_,[_],_,_,D,rfl,l.kept (t':=f.toks) λb o e=>M4 _ e,yC a _ _ ep,⟨_,_,NA _ rfl⟩,λb u=>by
  cases NX.mp u;exact l.fpOk (Nh _)<|l.hok.fresh<|Nh _,q⟩
def ZT:D->a0x
 | .dct b ks vs=>My<|SI (λk v=> .t [dK b k,v]) ks vs
 |_=>M0
theorem CW{F:Fx}{H:Hp}{b:Bool}{a:M6}{ep:Nat}{xs:a0u}(B:¬F.A a)(C:H a=My (eP a b ep xs))(g:R=xs.map (·.1))(I:∀x∈xs,ig K F H b x.1 x.2.1)(h:ba K F H T<|xs.map (·.2.2)):r4 K (Iti a ep<|Uc xs) F H (SI (λk v=> .t [dK b k,v]) R T):=λO j s t fr i=>by
 have J:Uc T=Uc xs:=by rw[h.f5,MZ]
 have L:Uc R=Uc xs:=by rw[g,MZ]
 have c:=t.kp a _ B C;refine⟨λd o=>?_,λe=>⟨b,xs,c,rfl,by rw[e,Xj,L,J,Nat.min_self]⟩⟩;have e:i<Uc xs:=by
  have:=(Nd.mp o).1;rw[Xj]at this;lia
 refine⟨⟨b,xs,c,rfl,e⟩,λy Q w=>?_⟩;obtain⟨p,x,l,rfl,rfl,z⟩:=w;have m:=z b xs c;rw[M9 e]at m;have f:xs[i].2=x:=N0 m;subst f;have n:bW j (upd j p<|.t [.r xs[i].2.1,xs[i].2.2]):=bW.upd l;obtain⟨v,q⟩:∃v,T[i]?=My v:=⟨_,M9<|by lia⟩;have N:R[i]?=My xs[i].1:=by rw[g,Nk,M9 e];rfl
 rw[List.getElem?_zipWith,N,q]at o;cases o;have D:=ba.tr t _ _ h;obtain⟨u,r,E⟩:=D.get q;rw[Nk,M9 e]at r;cases r;have t3:=(fr.same n).tr fr;exact⟨n,pV (.inl ⟨fr.fresh l,.inl aq⟩)<|ba.cons (b_.tr t3 _ _<|LX<|(I _<|OC e).tr t)<|ba.cons (b_.tr t3 _ _ E) ba.nil⟩
def Zz(f:FD):FL:=λa=>M.v (f a) λd=>M.f<|ZT d
theorem x9(m:PE X o<|tV X.K f E)(c:Xq o "items" X.e (OS o X.e)=OS o X.e:=by rfl)(g:(w.endLine==i.line)=M3:=by rfl):PI X (.Tuple z B y) (.Call (.Attribute o "items" w) [] [] i) (iV X.K (Zz f) E):=
 (E7 m c g).imp λσ H R j=>ix j λF s D fr n h=>⟨F,s,D,fr,n,(run.bind (R:=b_ X.K F) h).mono λv G j=>by
  obtain⟨d,M,t,b,P⟩:=j;obtain⟨S,e,k⟩:=run.p3 P;cases d<;>first|(cases e;done)|skip
  cases e;unfold b_ at b;obtain⟨a,ep,xs,rfl,l,p,q,r⟩:=b;exact⟨a,_,ep,xs,rfl,l.2,k _ G (To.refl t.fr)<|CW l.1 l.2 p q r⟩⟩
end
end L2.Pu
namespace L2.Hs
theorem xO:mroOf (.type "reversed")=Ps [.type "reversed",.type "object"]:=by rw[mroOf_type];kernel_rfl
theorem Fy:typeLookup (.type "reversed") "__new__"=Ps (My<|.builtin "reversed.__new__"):=by rw[Wo,UC];kernel_rfl
theorem Ft:Bind.madeBy (.type "reversed")=Ps (My "reversed.__new__"):=madeBy_type xO Fy (by decide +kernel)
theorem HH:isSubtype (.type "reversed") (.type "reversed")=Ps M3:=by rw[Tv];kernel_rfl
theorem EL:isSubtype (.type "range_iterator") (.type "reversed")=Ps M5:=by rw[Tv];kernel_rfl
theorem IV:entryFor table "reversed.__new__"=My Builtin.«reversed.__new__»:=entryFor_of_tree (by kernel_rfl)
section
variable{l:NY}{w:N6}{A:Om}{E:a0d}{s:Na}
theorem Ge(a:IsRange s.heap r 0 n 1 t u v)(j:0<=n)(g:n<2^62)
  (h:Q (.ref s.heap.objs.size) {s with heap:=s.heap.push {cls:= .type "range_iterator",data:= .fields #[Rc<|n-1,Rc n,Rc<|-1]}}):Nu (NK l w) A (RO (.type "reversed") [.ref r]) Q E s:=by
 refine SG<|Wn ?_;show Nu _ _ (callAny (.type "reversed") _) _ _ _;refine M1 ⟨UF _ (by decide +kernel),Wm F.entry_type_call ?_⟩;rw[Around.under_plain (weight_type_call_type "reversed" [.ref r] [])<|units_type_call_type "reversed" [.ref r] []];have g:(R1 "reversed"==R1 "type")=M5:=by decide +kernel
 have k:((Xz "reversed").bind (·.mro.findSome? λt=>(Xz t).bind λb=>if b.noNew then My M3 else if b.attrs.any (·.1=="__new__")then My M5 else M0)).getD M5=M5:=by decide +kernel
 have e:=xO;have c:=Ft;have i:checkTypeCall "reversed" ⟨[.ref r],[]⟩=Ps ():=by kernel_rfl
 repeat (any_goals (first|assumption|wp_step))
 refine SN (by decide +kernel) IV<|Rn (show V4 "reversed.__new__" ⟨[.type "reversed",.ref r],[]⟩=Ps () by kernel_rfl) ?_;have f:s.TypeIs (.ref r) "range":=⟨_,a,rfl⟩;unfold Builtin.«reversed.__new__»
 repeat (any_goals (first|assumption|wp_step))
 refine Rn HH<|M1 ?_;refine MY (m:=Te _ _ _) ?_;refine Rn (show Te "reversed" (R1 "reversed") ⟨[.type "reversed",.ref r],[]⟩=Ps ()from rfl) ?_;refine MY (m:=checkCount "reversed" 1 1 _)<|M1 ?_;show Nu _ _ (specialOf (.ref r) (Nl "__reversed__")>>=_) _ _ s;refine MY<|Q6 f F.slot_range_reversed.lookup ?_;show Nu _ _ (bindSpecial (.builtin "range.__reversed__") (.ref r)>>=_) _ _ s;refine MY<|Rn (F.slot_range_reversed.bind _) ?_;show Nu _ _ (rule "reversed.__new__.own-method">>=_) _ _ s;refine MY<|PL<|MY<|wpAny_runValue<|SN F.slot_range_reversed.plain F.entry_range_reversed<|F.slot_range_reversed.check _ _ _ _ _ _ _ _ f (F.args_range_reversed_1 _) ?_;unfold Builtin.«range.__reversed__»;refine MY (m:=selfOnly "range.__reversed__" _)<|M1<|MY ?_;unfold Builtin.Range.rangeFields;refine MY<|OL a rfl (x:= .int 0 t) rfl<|MY (m:=asInt? _)<|M1 ?_;refine MY<|OL a rfl (x:= .int n u) rfl<|MY (m:=asInt? _)<|M1 ?_;refine MY<|OL a rfl (x:= .int 1 v) rfl<|MY (m:=asInt? _)<|M1<|M1 ?_;have D:UX 0 n 1=n:=by rw[rangeSize_one];split<;>lia
 simp only[D];have d:(OK 0&&OK n&&OK 1&&OK (-1)&&OK (0-1)&&OK n)=M3:=by
  have:OK n=M3:=by unfold OK;simp;lia
  rw[this];decide
 simp only[d,Ol,P5,NF,Oy];rw[show(0:Int)+(n-1)*1=n-1 by lia];refine MY<|OH<|M1<|M1 ?_;exact MY<|Qr (T:="range_iterator") (b:=M5) ⟨_,NA _ rfl,rfl⟩ EL<|MY<|PL<|M1 h
end
end L2.Hs
namespace L2.Pu
open L2.Hs
noncomputable def Itd(n:Nat):It:=⟨λi _=>i<n,λi H v a=>v= .n ((n:Int)-1-i)/\a=H,λi _=>n<=i⟩
theorem wW{P:NY}{w:N6}{K:ND}(G:M6)(n:Nat):ni P w K x (Itd n) [G] G (λi h=>V9 h G ((n:Int)-1+(i:Nat)*-1) ((n:Int)-(i:Nat))<|-1) where
 mem:=by simp
 obj:=λi h D b c=>by
  cases NX.mp c;exact⟨_,D,λv z=>by
   have C:Data.fields _=Data.cell v:=z;cases C⟩
 keep:=λi h M D k=>k G (by simp) _ D
 item:=by
  intro X g j l m i a s A H E I f D p;subst g j l;obtain⟨q,f1,f2,r,u,y⟩:=f G (by simp);refine(Walks.range (prog:=X.p) (w:=X.w) (I.ok.hd m) G ((n:Int)-1) (-1) n).item i s _ _ p D λv M B F d J=>?_;obtain⟨t,rfl⟩:=F;have L:bx X a A H {s with heap:=M,toks:=B}:=I.turned (λb o c e=>J b o (by simpa using c) e) q f1 r u y;exact⟨_,rfl,uQ (s:={s with heap:=M,toks:=B}) (n:="range_iterator") d rfl rfl (by decide) ⟨.n<|(n:Int)-1-i,H,L,⟨t,by rw[show(n:Int)-1+(i:Int)*-1=(n:Int)-1-i by lia]⟩,⟨rfl,rfl⟩,d,λb c=>(f b c).1⟩⟩
 done:=by
  intro X g j l m i a s A H E I f D p;subst g j l;obtain⟨q,f1,f2,r,u,y⟩:=f G (by simp);exact Yd (I.ok.hd m) D (by have:n<=i:=p;lia) λM N=>⟨rfl,I.turned (t':=s.toks) (λb o c e=>N b o c e) q f1 r u y⟩
 self:=λ_ _ _ _ _ D h=>Us D h
section
variable{X:Cx}{E:a0r}{K:ND}{B:Expr}
def MK(a:TA):TI:=λb H R=>a b H λw B=>∃j:Int,w=[.n j]/\0<=j/\j<2^62/\R (Itd j.toNat) B
theorem BT{p w p2 f:RV}(g:Gl X "reversed")(i:X.mg "reversed"=M0)(n:Gl X "range")(E:X.mg "range"=M0)(G:PA X [a] z)(K:Nr [a] X.e=[(M5,OS a X.e)]:=by rfl)
  (k:Nr [.Call (.Name "range" p) [a] [] w] X.e=[(M5,OS (.Call (.Name "range" p) [a] [] w) X.e)]:=by rfl):PI X B (.Call (.Name "reversed" p2) [.Call (.Name "range" p) [a] [] w] [] f) (MK z):=by
 intro c s m H R I h;refine Call_<|gT I g i Boot.«reversed»<|O1 ?_ k rfl;refine Xf<|Call_<|gT I n E boot_range<|O1 (dy (G w c s m H _ I h) λV d r=>?_) K rfl;obtain⟨A,D,v,M,j,rfl,P,S,q⟩:=r;obtain⟨u,rfl,t,rfl⟩:=jM M;refine call_range_1<|Xy<|Ge (IsRange.new ..) P S<|Us (x:=j-1) (left:=j) (step:=-1) (NA _ rfl) ?_;have l:bx X c m D {d with heap:=d.heap.push {cls:= .type "range",data:= .fields #[.int 0 d.toks,.int j t,.int 1<|d.toks+1]},toks:=d.toks+1+1}:=v.kept λb o e=>M4 _ e;refine⟨_,[_],_,_,D,rfl,l.kept (t':=d.toks+1+1) λb o e=>M4 _ e,wW _ j.toNat,?_,λb y=>?_,q⟩
 .show V9 _ _ (((j.toNat:Nat):Int)-1+((0:Nat):Int)*-1) (((j.toNat:Nat):Int)-((0:Nat):Int)) (-1)
  rw[show((j.toNat:Nat):Int)-1+((0:Nat):Int)*-1=j-1 by lia,show((j.toNat:Nat):Int)-((0:Nat):Int)=j by lia];exact NA _ rfl
 .cases NX.mp y
  exact l.fpOk (Nh _)<|l.hok.fresh<|Nh _
noncomputable def iY(n:Nat):a0e:=(Nj n).map λ(i:Nat)=> .n<|(n:Int)-1-i
theorem zt:r4 K (Itd n) F H (iY n):=λe f B t fr i=>by
 refine⟨λd w=>?_,λa=>?_⟩
 .unfold iY at w
  have a:i<n:=by
   have:=(Nd.mp w).1;simpa using this
  rw[Nk,PM a]at w;cases w;exact⟨a,λx g ⟨b,c⟩=>by subst b c;exact⟨bW.refl _,rfl⟩⟩
 .show n<=i
  rw[a];simp[iY]
def uJ:a0e->a0x
 |[.n j]=>if(decide (0<=j)&&decide (j<2^62))=M3 then My (iY j.toNat)else M0
 |_=>M0
theorem FS{p w p2 b:RV}(c:Gl X "reversed")(d:X.mg "reversed"=M0)(m:Gl X "range")(D:X.mg "range"=M0)(G:PA X [a]<|h8 X.K g E)(M:Nr [a] X.e=[(M5,OS a X.e)]:=by rfl)
  (f:Nr [.Call (.Name "range" p) [a] [] w] X.e=[(M5,OS (.Call (.Name "range" p) [a] [] w) X.e)]:=by rfl):PI X B (.Call (.Name "reversed" p2) [.Call (.Name "range" p) [a] [] w] [] b) (iV X.K (bP uJ g) E):=
 (BT c d m D G M f).imp λq H R i=>ix i λF P S fr n h=>⟨F,P,S,fr,n,(run.bind (R:=ba X.K F) h).mono λx V i=>by
  obtain⟨y,r,t,s,u⟩:=i;obtain⟨l,e,k⟩:=run.p3 u;unfold uJ at e;split at e
  .split at e
   .rename_i j
    cases e;simp only[NN,NR]at j;obtain⟨v,rfl,o⟩:=ba.p3 s;cases o.int;exact⟨_,rfl,j.1,j.2,k _ V (To.refl t.fr) zt⟩
   .cases e
  .cases e⟩
variable{e m:Expr}{z tm:TE}{J p2:RV}
theorem E6(e:a0f):XV e.toArray M0 M0 (My<|-1)=e.reverse.toArray:=by
 have a:Rm M0 M0 (My<|-1) e.toArray.size=((Uc e:Int)-1,-1,-1):=by simp[Rm]
 unfold XV;rw[a];refine OG _ ?_;have b:sliceRange ((Uc e:Int)-1) (-1) (-1)=(Nj<|Uc e).map λk=>Uc e-1-k:=by
  unfold sliceRange;have c:(if(-1:Int)>0 then(if(Uc e:Int)-1< -1 then(-1-((Uc e:Int)-1)+-1-1)/ -1 else 0)else(if(Uc e:Int)-1>-1 then((Uc e:Int)-1- -1- -1-1)/(- -1)else 0)).toNat=Uc e:=by
   rw[Nf<|by decide];split
   .rw[show(- -1:Int)=1 by decide,Int.ediv_one];lia
   .lia
  simp only[c];exact Oh λk _=>by lia
 show(sliceRange ((Uc e:Int)-1) (-1)<|-1).filterMap _=_;rw[b,List.filterMap_map];rcases e with _|⟨x,r⟩
 .rfl
 generalize h:x::r=e;rw[wv (g:=λk=>e.getD (Uc e-1-k) x) λk d=>by
  have:k<Uc e:=NQ.mp d;simp only[Vo,WG];rw[Nz,M9<|by lia];rfl]
 refine R5 (by simp) λi f j=>?_;have l:i<Uc e:=by simpa using f
 rw[R7,SU,W7,Nz,M9<|by lia];rfl
def Zg(K:ND)(z tm:TE):TE:=λc H Q=>z c H λx m=>tm c m λy b=>∃a e,x= .r a/\y= .n (-1)/\en K b a e/\∀p,b p=M0->Q (.r p) (upd b p<|.l e.reverse)
theorem J2(l:PE X e z)(E:PE X m tm):PE X (.Subscript e (.Slice M0 M0 (My m) p2) J) (Zg X.K z tm):=by
 intro c s f H Q I h;refine Subscript_<|dy (l c s f H _ I h) λv n o=>?_;obtain⟨x,G,p,M,P⟩:=o;refine wpAny_Slice ?_;rw[Xr];refine M1<|M1 ?_;rw[evalPart_some];refine dy (E c n f G _ p P) λu d r=>?_;obtain⟨y,B,g,C,a,S,rfl,rfl,V,q⟩:=r;cases M;obtain⟨t,rfl⟩:=C;obtain⟨its,i,D,j⟩:=g.list V;have k:bx X c f B {d with heap:=d.heap.push {cls:= .type "slice",data:= .fields #[.none,.none,.int (-1) t]}}:=g.kept (t':=d.toks) λb F q=>M4 _ q;show Nu (NK X.p X.w) X.A (Xv e (.Slice M0 M0 (My m) p2) (.ref a)<|.ref d.heap.objs.size) (EP X c f Q) X.xe {d with heap:=d.heap.push {cls:= .type "slice",data:= .fields #[.none,.none,.int (-1) t]}};refine tail_any (ops:=[.ref a,.ref d.heap.objs.size]) (D.isList.push _).typeIs slot_list_getitem.lookup (Xw (D.isList.push _) (Vp ..) .none .none (.int (-1) t) (by simp) ?_<|by rw[NG,<-i.length];exact j) (by with_unfolding_all rfl)
 rw[E6];exact⟨.r _,_,k.lnew (t':=d.toks) (its:=its.reverse) (ys:=S.reverse) i.reverse (by rw[Sx];exact j),rfl,q _<|k.hok.fresh<|Nh _⟩
noncomputable def JK:D->D->a0k
 | .l ds,.n (-1)=>My<|.l ds.reverse
 |_,_=>M0
theorem ba.reverse:∀{m:a0e} {e:a0i},ba K F H m e->ba K F H m.reverse e.reverse
 |[],e,h=>by have q:e=[]:=h;subst q;exact ba.nil
 |d::m,e,h=>by
  obtain⟨x,r,rfl,a,b⟩:=h;rw[Tf,Tf];exact ba.append (ba.reverse b)<|ba.cons a ba.nil
theorem Ls(n:PE X e<|tV X.K f E)(D:PE X m<|tV X.K g E):PE X (.Subscript e (.Slice M0 M0 (My m) p2) J) (tV X.K (f2 JK f g) E):=
 (J2 n D).imp λr H Q b=>ix b λF B G fr j h=>⟨F,B,G,fr,j,(run.bind (R:=b_ X.K F) h).mono λv x b=>nS b λd w t M P=>⟨F,B,w,t.fr,j.tr<|t.tr fr,(run.bind (R:=b_ X.K F) P).mono λu y b=>nS b λA S t2 i o=>by
  obtain⟨z,c,k⟩:=run.p3 o;unfold JK at c;split at c
  .cases c
   obtain⟨a,V,rfl,s,q⟩:=b_.p3<|b_.tr (t2.tr t.fr) _ _ M;cases i.int;exact⟨a,V,rfl,rfl,s,λp l=>k _ _ (t2.fr.upd _ l)<|b_.newL t2.fr l<|ba.reverse q⟩
  .cases c⟩⟩
end
end L2.Pu
namespace L2.Pu
theorem hu2{A:Om}(a:dv k A):A.units+2<Uy:=NT (SJ (by decide:2<=64) _) a.f5
open L2.Hs
section
variable{X:Cx}{E:a0r}{ke ve br aa:Expr}{ac:List Expr}{ab:a0S}{P:Scope}{ad:RV}{Nc cx:a0g}{bt:a0a}{g:TG}{tb:a0Y}
theorem HW{kb:Bool}{b d:RV}(y:X.N.Nodup)(k:X.N[i]?=My x)(K:si X.e.scope x)(B:X.calm=M3)(S:cy X P Nc cx bt)(F:PI X br aa wi)
  (L:∀(E:a0j) (C:M6) (j:a0n) (s:Na) (H:Hp),PG (aE X Nc P E C j s H) br g/\dP (aE X Nc P E C j s H) ac tt/\∀D,PB (aE X Nc P E C j s H) (.D ke ve) (⟨br,aa,ac,0⟩::ab) P ad 0 D<|tb D)
  (l:Rx (.DictComp ke ve (⟨br,aa,ac,0⟩::ab) P ad) (My<|.Name x b) d.line X.e=Ps M3:=by rfl)
  (M:∀x,Oj aa X.e x=Ps x:=by intro _;rfl) (O:b0d X x:=by first|exact .inl rfl|exact .inr rfl|assumption):
  PS X (.Assign [.Name x b] (.DictComp ke ve (⟨br,aa,ac,0⟩::ab) P ad) d) (gr (l8 (λD=>eP D kb 0 []) cx bt wi λD J=>dj J g tt<|tb D)<|fi i):=by
 intro f s R H D I h;rw[exec_Assign_Name_used _ _ _ _ l];refine MY<|Pg<|MY ?_;show Nu _ X.A (do let _ <-comprehension (.DictComp ke ve (⟨br,aa,ac,0⟩::ab) P ad) P X.e _ newDict M5 (OS aa X.e) (My<|S6 (.Name x b) X.e)) _ _ s
 refine MY<|Od (QG (use:=My<|S6 (.Name x b) X.e) (Q:=λ_ s'=>SP X f D .next s') rfl M (S.clo I.ok) S.kind S.p3
  (Od (F f s R H _ I h) (λv s1 U=>Od U (λW Y n=>?_) λ_ _ e=>e) λ_ _ e=>e)) (λ_ s' Z=>M1<|M1 Z) λ_ _ e=>e
 obtain⟨it,j,tn,J,H2,e,o,T,p,f2,q⟩:=n;subst e;refine iF (c:= .D ke ve) vW (RR:=λG C=>WR (NK X.p X.w) X.A X.xe (My<|S6 (.Name x b) X.e) _ G C) B S L o T p f2 q λA C s' V m I' ns r q'=>?_;show Nu _ X.A (S6 (.Name x b) X.e<|.ref A) _ _ s';refine VO<|mh I' y k K (v:= .r A) rfl (λY o n=>?_) O;obtain⟨a,sb,ha⟩:=n;have t:C≠a:=by
  rcases ha with rfl|ha
  .exact r.2.1
  .exact λz=>r.2.2.2.1 x a ha z.symm
 exact⟨m,ns.sameBut sb t,λh' u=>⟨_,V,o.letgo r u,q'⟩⟩
theorem BE{kb:Bool}{a c:RV}(j:X.N.Nodup)(d:X.N[i]?=My x)(G:si X.e.scope x)(k:X.calm=M3)(S:cy X P Nc cx bt)(l:PI X br aa<|iV X.K u E)
  (m:∀(w:a0j) (C:M6) (f:a0n) (s:Na) (H:Hp),PG (aE X Nc P w C f s H) br g/\dP (aE X Nc P w C f s H) ac (gt X.K v E0)/\∀D,PB (aE X Nc P w C f s H) (.D ke ve) (⟨br,aa,ac,0⟩::ab) P ad 0 D<|tb D)
  (n:cF X.K g t) (o:dO t) (p:∀D,fK X.K (RD X.K kb) D (tb D) b)
  (e:Rx (.DictComp ke ve (⟨br,aa,ac,0⟩::ab) P ad) (My<|.Name x a) c.line X.e=Ps M3:=by rfl)
  (M:∀x,Oj aa X.e x=Ps x:=by intro _;rfl) (q:b0d X x:=by first|exact .inl rfl|exact .inr rfl|assumption):
  PS X (.Assign [.Name x a] (.DictComp ke ve (⟨br,aa,ac,0⟩::ab) P ad) c) (tG X.K X.H₀ (cS i<|iE (Uc cx) bt u t v b<|lM kb) E):=
 aP ((HW (kb:=kb) j d G k S l m e M q).imp λD r H h=>wH n o p h)
end
end L2.Pu
namespace L2.Hs
section
variable{X:Cx}
end
end L2.Hs
namespace L2.Pu
open L2.Hs
section
variable{K:ND}
end
end L2.Pu
namespace L2.Pu
section
variable{X:Cx}{E:a0r}{K:ND}{f:OB}{a:Hp}{B:Ow}{g:a0s}{H h:Hp}{d:Ds}{e b:Bg}{c:St}
end
end L2.Pu
namespace L2.Pu
open PySem.SeqAt
open PySem.AutoSeq1 (wpAny_loadPart')
open PySem.MeetsSeq PySem.MeetsSeq2 PySem.MeetsSeq3
end L2.Pu
namespace L2.Hs
section
variable{X:Cx}
end
end L2.Hs
namespace L2.Pu
open L2.Hs
section
variable{K:ND}{F:Fx}{H:Hp}
variable{X:Cx}{E:a0r}{a:OB}
end
end L2.Pu
namespace L2.Pu
section
variable{X:Cx}
end
end L2.Pu
namespace L2.Pu
open L2.Hs
section
variable{X:Cx}{E:a0r}{K:ND}{a:Expr}
end
end L2.Pu
namespace L2.Pu
section
variable{P:NY}{w:N6}{K:ND}{q:a0h}{d:Op}
variable{X:Cx}{E:a0r}{o e c:Expr}{p:List Expr}{i b:RV}{m:N8}{k n:Nat}{f C:M6}{l:NL}{j:a0g}{a d:a0R}{t:a0m}{g h:FL}
variable{a:OB}
end
end L2.Pu
namespace L2.Pu
open L2.Hs
end L2.Pu
namespace HT
open PySem.SeqAt
open PySem.AutoSeq1 (wpAny_loadPart')
open PySem.MeetsSeq PySem.MeetsSeq2 PySem.MeetsSeq3
section
variable{a:NY}{w:N6}{A:Om}{E:a0d}{s:Na}
end
end HT
namespace L2
section
variable{X:Cx}
end
end L2
namespace L2.Pu
end L2.Pu
namespace Law
open L2 L2.Pu
open L2.Hs (vP CU li)
noncomputable def dk(i:Nat):OB:=PySem.Challenge.pw_edgetally_k14_sums_at_every_door.main.body.getD i<|.Pass ⟨0,0,0,0⟩
abbrev qg:OB:=dk 77
set_option genSizeOf false in
set_option genInjectivity false in
structure Ad where
 Aa:M6
 Ab:M6
 Ac:NL
 Ae:M6
 Af:M6
 Ag:NL
 Ah:M6
 Ai:M6
 Aj:NL
 Ak:M6
 Am:M6
 An:M6
 Ao:NL
 Aq:M6
 Ar:NL
 As:M6
 At:NL
 Au:M6
 Av:NL
 Aw:M6
 Ax:NL
 Ay:M6
 Az:NL
 A0:M6
 A1:NL
 A3:M6
 A4:NL
 A5:M6
 A6:NL
 A7:M6
 A8:NL
 A9:M6
 Ba:NL
 Bb:M6
 Bc:NL
 Be:M6
 Bf:NL
 Bh:M6
 Bi:NL
 Bj:M6
 Bk:NL
 Bl:M6
 Bm:NL
 Bn:M6
 Bo:NL
 Bp:M6
 Bq:NL
 Br:M6
 Bs:NL
 Bt:M6
 Bu:NL
 Bv:M6
 Bw:NL
 Bx:M6
 By:NL
 Bz:M6
 B0:NL
 B5:M6
 B7:NL
 B8:M6
 Ca:NL
 Cb:M6
 Cc:NL
 Cd:M6
 Cf:NL
 Cg:M6
 Ch:NL
 Ci:M6
 Cj:NL
 Ck:M6
 Cl:NL
 Cn:M6
 Co:NL
 Cp:M6
 Cq:NL
 Cr:M6
 Cs:NL
 Ct:M6
 Cu:NL
 Cv:M6
 Cw:NL
 Cy:M6
 Cz:NL
 C0:M6
 C2:NL
 C3:M6
 C4:NL
 C5:M6
 C6:NL
 C7:M6
 C8:NL
 C9:M6
 Da:NL
 Db:M6
 Dd:NL
 De:M6
 Df:NL
 Dg:M6
 Dh:NL
 Di:M6
 Dj:NL
 Dl:M6
 Dm:NL
 Do:M6
 Dp:NL
 Dq:M6
 Dr:NL
 Dt:M6
 Du:NL
def FnL(K:ND)(mg:a0h)(a:Ad):List Prop:=[
 jg K mg "BY_PLACE" (.t [.q<|Nl "most",.q<|Nl "least"]),
 jg K mg "KINDS" (.t [.q<|Nl "rare",.q<|Nl "square",.q<|Nl "power",.q<|Nl "off",.q<|Nl "most",.q<|Nl "least"]),
 jg K mg "MOST" (.n 40),
 jg K mg "MOST_COLUMNS" (.n 6),
 jg K mg "MOST_ROWS" (.n 4),
 jg K mg "WIDE" (.n 500),
 hV K "free" "free" (dk 15) a.An a.Ao,
 mg "free"=My (.ref a.An),
 oG K a.Ao ["rows","columns","pair"] [.t [.n 0,.n 40]],
 g_ K mg "check_sums" (dk 16) a.Aq a.Ar ["rowsums","columnsums"],
 g_ K mg "check_there" (dk 17) a.As a.At ["place","many"],
 g_ K mg "check_cell" (dk 18) a.Au a.Av ["row","column","rows","columns"],
 g_ K mg "check_pair" (dk 19) a.Aw a.Ax ["pair"],
 g_ K mg "settled_bounds" (dk 20) a.Ay a.Az ["bounds","rows","columns"],
 g_ K mg "need_of" (dk 23) a.A0 a.A1 ["rowsums","over"],
 g_ K mg "room_inside" (dk 24) a.A3 a.A4 ["columnsums","bounds","over","column"],
 g_ K mg "room_beside" (dk 25) a.A5 a.A6 ["bounds","over","column"],
 g_ K mg "room_of" (dk 26) a.A7 a.A8 ["columnsums","bounds","over","into"],
 g_ K mg "narrowest" (dk 27) a.A9 a.Ba ["columnsums","bounds","over"],
 g_ K mg "choices" (dk 28) a.Bb a.Bc ["many"],
 g_ K mg "check_fit" (dk 29) a.Be a.Bf ["rowsums","columnsums","bounds"],
 g_ K mg "least_count" (dk 30) a.Bh a.Bi ["rowsums","columnsums","bounds","row","column"],
 hV K "fitting" "fitting" (dk 31) a.Bj a.Bk,
 mg "fitting"=My (.ref a.Bj),
 s0 K a.Bk ["rowsums","columnsums","bounds"] ["bounds"] 2 [.kw 0],
 g_ K mg "factorial" (dk 33) a.Bl a.Bm ["number"],
 g_ K mg "ways" (dk 35) a.Bn a.Bo ["parts"],
 g_ K mg "common_factor" (dk 36) a.Bp a.Bq ["one","other"],
 g_ K mg "fillings" (dk 37) a.Br a.Bs ["rests","many","pairs"],
 g_ K mg "check_wide" (dk 40) a.Bt a.Bu ["rowsums"],
 g_ K mg "settled_for_net" (dk 41) a.Bv a.Bw ["rowsums","columnsums","bounds"],
 g_ K mg "column_fillings" (dk 42) a.Bx a.By ["rests","columnsums","bounds","column"],
 g_ K mg "rests_behind" (dk 43) a.Bz a.B0 ["rests","counts"],
 g_ K mg "nodes_by_level" (dk 44) a.B5 a.B7 ["rowsums","columnsums","bounds"],
 g_ K mg "node_counts" (dk 45) a.B8 a.Ca ["rests","filled","behind"],
 g_ K mg "counted_nodes" (dk 46) a.Cb a.Cc ["rowsums","columnsums","bounds"],
 g_ K mg "paper_rows" (dk 47) a.Cd a.Cf ["counted"],
 hV K "net_holds" "net_holds" (dk 48) a.Cg a.Ch,
 mg "net_holds"=My (.ref a.Cg),
 s0 K a.Ch ["rowsums","columnsums","paper","bounds"] ["bounds"] 3 [.kw 0],
 g_ K mg "least_common" (dk 53) a.Ci a.Cj ["numbers"],
 g_ K mg "_law_bag" (dk 59) a.Ck a.Cl ["_law_script"],
 g_ K mg "_law_pull" (dk 60) a.Cn a.Co ["_law_bag_here","_law_lot"],
 g_ K mg "_law_grid" (dk 61) a.Cp a.Cq ["_law_bag_here","_law_block","_law_columns","_law_things"],
 g_ K mg "_law_small" (dk 62) a.Cr a.Cs ["_law_bag_here"],
 g_ K mg "_law_turned" (dk 63) a.Ct a.Cu ["_law_block"],
 g_ K mg "_law_rowsums" (dk 64) a.Cv a.Cw ["_law_grid_here"],
 g_ K mg "_law_columnsums" (dk 65) a.Cy a.Cz ["_law_grid_here"],
 g_ K mg "_law_free" (dk 66) a.C0 a.C2 ["_law_block","_law_columns"],
 g_ K mg "_law_copied" (dk 67) a.C3 a.C4 ["_law_block"],
 g_ K mg "_law_good_bounds" (dk 68) a.C5 a.C6 ["_law_limits","_law_block","_law_columns"],
 g_ K mg "_law_wild_bounds" (dk 69) a.C7 a.C8 ["_law_bag_here","_law_limits"],
 g_ K mg "_law_good_sums" (dk 70) a.C9 a.Da ["_law_rowsums_here","_law_columnsums_here"],
 g_ K mg "_law_wild_sums" (dk 71) a.Db a.Dd ["_law_bag_here"],
 g_ K mg "_law_sums_due" (dk 72) a.De a.Df ["_law_rowsums_here","_law_columnsums_here","_law_limits"],
 g_ K mg "_law_wild_setting" (dk 73) a.Dg a.Dh ["_law_bag_here"],
 g_ K mg "_law_maybe" (dk 74) a.Di a.Dj ["_law_limits"],
 g_ K mg "_law_fitted" (dk 75) a.Dl a.Dm ["_law_rowsums_here","_law_columnsums_here","_law_limits"],
 g_ K mg "_law_looked" (dk 76) a.Do a.Dp ["_law_rowsums_here","_law_columnsums_here","_law_limits"],
 hV K "__init__" "Measure.__init__" (eW (dk 57) 0) a.Dq a.Dr,
 Mk K a.Ak a.Dq,
 oG K a.Dr ["self","kind","rowsums","columnsums","place"] [.t [.n 0,.n 0]],
 Yg K a.Ak,
 mg "Measure"=My (.ref a.Ak),
 ge K a.Ak "column_list",
 ge K a.Ak "even",
 ge K a.Ak "kind",
 ge K a.Ak "place",
 ge K a.Ak "row_list",
 hV K "__init__" "EdgeError.__init__" (eW (dk 2) 0) a.Ab a.Ac,
 dN K a.Ac ["self","word","why"] [],
 mg "EdgeError"=My (.ref a.Aa),
 hV K "__init__" "BadSums.__init__" (eW (dk 3) 0) a.Af a.Ag,
 dN K a.Ag ["self","why"] [],
 mg "BadSums"=My (.ref a.Ae),
 YW K a.Ae a.Af,
 Qm K (.ref a.Ae) "word"=My M0,
 hV K "__init__" "BadBounds.__init__" (eW (dk 4) 0) a.Ai a.Aj,
 dN K a.Aj ["self","why"] [],
 mg "BadBounds"=My (.ref a.Ah),
 YW K a.Ah a.Ai,
 Qm K (.ref a.Ah) "word"=My M0,
 mg "Barred"=My (.ref a.Am),
 F3 K a.Aa "__init__" a.Ab]
structure p6 (K:ND) (mg:a0h) (a:Ad):Prop where
 Dv:∀i,(FnL K mg a).getD i True
 Dw:mg "ValueError"=M0
 Dx:mg "abs"=M0
 Dy:mg "any"=M0
 Dz:mg "enumerate"=M0
 D0:mg "isinstance"=M0
 D3:mg "len"=M0
 D4:mg "list"=M0
 D5:mg "max"=M0
 D6:mg "min"=M0
 D7:mg "range"=M0
 D8:mg "reversed"=M0
 D9:mg "sorted"=M0
 Ea:mg "sum"=M0
 Eb:mg "tuple"=M0
 Ec:mg "zip"=M0
section
variable{P:NY}{w:N6}{K:ND}{mg:a0h}{ac:Op}{a:Ad}
def JA(K:ND):Sp:=λa H Q _=>∃(x C:M6) (w y:V),a=[.r x,w,y]/\H x=My (eL C x M0)/\XC K C/\Qm K (.ref C) "word"=My M0/\∀(d:M6) (c:Hp),c x=My (eL C x<|My d)->(∀b o,H b=My o->b≠x->c b=My o)->Q .o c
theorem uv:bc ["self","word","why"] ["self","word","why"] (ai<|eW (dk 2) 0):=fx
theorem xL(N:p6 K mg a):d_ P w K mg ac (e_ P w) 1 a.Ab a.Ac ["self","word","why"] (JA K):=by
 refine(N.1 69).ok uv (λM H Q E h=>?_) (λj A D s H M Q E m h=>?_)
 .obtain⟨x,C,wd,y,rfl,_⟩:=h
  rfl
 .obtain⟨x,C,wd,y,rfl,hx,c,l,k⟩:=h
  refine⟨_,cR (bV<|E9 rfl N.Dw<|b9 (pv 0)<|b9 (pv 2) f9)<|hX<|EZ (pv 0) (pv 1) rfl,?_⟩;refine⟨_,rfl,_,rfl,x,C,M0,_,rfl,(by show 1<=Nw;decide),hx,c,?_⟩;refine⟨_,rfl,_,rfl,x,C,rfl,aq,c,l,λd G f=>?_⟩;refine k d _ aq λb o e i=>?_;have g:H d=M0:=by rw[bb f]at G;exact G
  rw[bb i,bb<|bw e g,bb i];exact e
theorem wX:bc ["self","why"] ["self","why"] (ai<|eW (dk 3) 0):=fx
theorem gb(N:p6 K mg a):d_ P w K mg ac (e_ P w) 2 a.Af a.Ag ["self","why"] (yI a.Ae 1):=by
 refine(N.1 72).ok wX (λG H Q E h=>?_) (λc A D s H G Q E e h=>?_)
 .obtain⟨x,rest,rfl,b,_⟩:=h
  show Uc rest+1=2;rw[b]
 .obtain⟨x,rest,rfl,b,hx,k⟩:=h
  obtain⟨y,rfl⟩:∃y,rest=[y]:=TH.mp b;refine⟨_,hX<|bV<|qy (N.1 83) (xL N) e rfl (N.1 71) (N.1 70) .nil gp<|b9 (pv 0)<|b9 vO<|b9 (pv 1) f9,?_⟩;exact⟨_,rfl,_,rfl,x,a.Ae,_,y,rfl,hx,(N.1 75).xc,(N.1 76),λd f g i=>k _ f g i⟩
theorem uw:bc ["self","why"] ["self","why"] (ai<|eW (dk 4) 0):=fx
theorem iM(N:p6 K mg a):d_ P w K mg ac (e_ P w) 2 a.Ai a.Aj ["self","why"] (yI a.Ah 1):=by
 refine(N.1 77).ok uw (λG H Q E h=>?_) (λc A D s H G Q E e h=>?_)
 .obtain⟨x,rest,rfl,b,_⟩:=h
  show Uc rest+1=2;rw[b]
 .obtain⟨x,rest,rfl,b,hx,k⟩:=h
  obtain⟨y,rfl⟩:∃y,rest=[y]:=TH.mp b;refine⟨_,hX<|bV<|qy (N.1 83) (xL N) e rfl (N.1 71) (N.1 70) .nil gp<|b9 (pv 0)<|b9 vO<|b9 (pv 1) f9,?_⟩;exact⟨_,rfl,_,rfl,x,a.Ah,_,y,rfl,hx,(N.1 80).xc,(N.1 81),λd f g i=>k _ f g i⟩
theorem jO:bc ["_law_bag_here","_law_lot","_law_cells","_law_at","_law_cell"] ["_law_bag_here","_law_lot"] (ai<|dk 60):=fx
theorem BX(N:p6 K mg a):d_ P w K mg ac (e_ P w) 2 a.Cn a.Co ["_law_bag_here","_law_lot"] (B6 K 2 fS):=by
 refine(N.1 42).F.ok (k:=1) jO (λvs H Q E h=>h.1) (λY A x s H vs Q E hr h=>?_);obtain⟨_,F,ds,D,fr,hd,r,Z,e,k⟩:=h;obtain⟨G,rfl,ok,I,h1,rfl,rfl⟩:=CG e;obtain⟨v,w',rfl,d1,d2⟩:=ba.two hd;unfold b_ at d1;obtain⟨b,l,d,rfl⟩:=d1;cases d2.int;obtain⟨t,J⟩:=fr.bag b l d;obtain⟨ab,al,m⟩:=fr.bgA b l d;obtain⟨W,L,aa,X⟩:=ok.at;obtain⟨_,_,ad,_⟩:=xB ok I;have M:(Uc (D.cells.map V.n):Int)=(Uc D.cells:Int):=by rw[MZ]
 have O:p4 (D.cells.map V.n) (D.pos:Int)=My (.n D.cell):=I9 (by rw[Nk,L];rfl);refine⟨_,cR (qx (i:=2) jO.nd rfl (PP rfl)<|gn dF (pv 0) b8 (λ_ _=>rfl))
  (cR (qx (i:=3) jO.nd rfl (PP rfl)<|dR kJ (gn dF (pv 0) b8 (λ_ _=>rfl))<|lf nc (by rfl) N.D3 PySem.boot_len<|b9 (pv 2) f9)
  (cR (qx (i:=4) jO.nd rfl (PP rfl)<|gn dF (pv 2) (pv 3) (λ_ _=>rfl))
  (cR (GU (xC LV (pv 4) (dR J9 b8 b8)<|vT _)
   (cR (cf (dR xJ (pv 4)<|pv 1)<|db (pv 2) (pv 3) bZ)<|hX<|aA<|dR kJ (pv 4)<|pv 1) rN)
  (cR (cf (dR qB (gn dF (pv 0) b8 (λ_ _=>rfl)) b8)<|db (pv 0) b8 bZ)
  (cR (cf (dR kJ (dR Kb (dR qB (dR qB (gn dF (pv 0) b8 (λ_ _=>rfl))<|dR kJ (pv 4) b8) b8) b8) b8)<|db (pv 0) b8 bZ)
  (hX<|aA<|dR kJ (dR xJ (gn dF (pv 0) b8 (λ_ _=>rfl)) b8)<|pv 1)))))),?_⟩
 refine⟨_,rfl,b,_,_,_,rfl,rfl,en.of t,rfl,?_⟩;refine⟨_,rfl,b,_,_,_,rfl,rfl,en.of t,rfl,_,rfl,l,_,rfl,.inl<|en.of J,_,_,rfl,rfl,?_,?_⟩
 .have:=W
  rw[M];lia
 refine⟨_,rfl,_,rfl,l,_,_,_,rfl,rfl,en.of J,by rw[M,X];exact O,?_⟩;refine⟨_,rfl,_,_,rfl,rfl,⟨by decide,by decide,by decide⟩,_,_,rfl,rfl,_,rfl,?_⟩;have S:∀{R:Hp} {p:M6} {o:HO},(∀c,F.A c->R c≠M0)->∀c,F.A c->upd R p o c≠M0:=λ{R p o} f c u z=>by
  by_cases q:c=p
  .subst q;rw[aq]at z;cases z
  .rw[bb q]at z;exact f c u z
 refine ZV (λg=>?_) (λg=>?_)
 .have Mm:(10:Int)^18<=D.cell:=Ph g
  refine⟨_,rfl,_,rfl,_,_,rfl,rfl,⟨I,h1⟩,_,rfl,_,rfl,l,_,_,D.pos,rfl,rfl,J,?_,?_⟩
  .rw[M,X,MZ]
   exact IF W
  refine⟨_,rfl,_,rfl,_,_,rfl,rfl,I,?_⟩;have T:j3 D G=D.cell % G:=Ng Mm;have U:la D G=⟨D.cells.set D.pos<|D.cell/G,D.i,D.j⟩:=Ng Mm;rw[T,U]at k;refine k _ _ ⟨λc o u n=>by rw[bb (n b l d).2];exact u,S fr.occ,fr.bgA,λb' l' y=>?_⟩ rfl;rw[d]at y;cases y;exact⟨by rw[bb m];exact t,by rw[aq,Pd]⟩
 .have Mm:¬(10:Int)^18<=D.cell:=λq=>g<|NC q
  refine⟨_,rfl,b,_,_,_,rfl,rfl,en.of t,rfl,_,_,rfl,rfl,_,rfl,b,_,_,1,rfl,rfl,t,rfl,?_⟩;have B:(upd H b<|.l [.r l,.n<|D.i+1,.n D.j]) b=My (.l [.r l,.n<|D.i+1,.n D.j]):=aq;refine⟨_,rfl,b,_,_,_,rfl,rfl,en.of B,rfl,_,rfl,_,_,rfl,rfl,(by show(0:Int)<2147483629;decide),_,_,rfl,rfl,_,_,rfl,rfl,_,_,rfl,rfl,.inr ⟨by decide,by decide⟩,_,_,rfl,rfl,(by show(0:Int)<2147483629;decide),_,rfl,b,_,_,2,rfl,rfl,B,rfl,?_⟩;have C:(upd (upd H b<|.l [.r l,.n<|D.i+1,.n D.j]) b<|.l [.r l,.n<|D.i+1,.n D.f5]) b=My (.l [.r l,.n<|D.i+1,.n D.f5]):=aq;refine⟨_,rfl,b,_,_,_,rfl,rfl,en.of C,rfl,_,_,rfl,rfl,⟨by decide,by decide⟩,_,rfl,_,_,rfl,rfl,I,?_⟩;have T:j3 D G=D.f5/64 % G:=Nf Mm;have U:la D G=⟨D.cells,D.i+1,D.f5⟩:=Nf Mm;rw[T,U]at k;refine k _ _ ⟨λc o u n=>by rw[bb (n b l d).1,bb (n b l d).1];exact u,S<|S fr.occ,fr.bgA,λb' l' y=>?_⟩ rfl;rw[d]at y;cases y;exact⟨C,by rw[bb m.symm,bb m.symm];exact J⟩
theorem ES:bc ["_law_script"] ["_law_script"] (ai<|dk 59):=fx
theorem nd1:(["_law_cell"]:a0g).Nodup:=by decide +kernel
theorem Fg(N:p6 K mg a):d_ P w K mg ac (e_ P w) 1 a.Ck a.Cl ["_law_script"] (LM K):=by
 refine(N.1 41).F.ok ES (λS H Q E h=>?_) (λX A M s H S Q E hr h=>?_)
 .obtain⟨a,ns,rfl,_⟩:=h
  rfl
 .obtain⟨a,ns,rfl,Y,k⟩:=h
  refine⟨_,hX<|aA<|kG<|b9 (dR Kd (nW rfl (cx:=["_law_cell"]) (cy.f5 rfl (by decide +kernel)<|by decide +kernel) (HZ<|o9 rG (pv 0) xF<|xE b8)
   (λcl C fp s H=>⟨xH (i:=0) nd1 rfl<|PP rfl,vM,λD=>aM rfl (lf Gf (by rfl) N.Dx Boot.«abs»<|b9 (pv 0) f9) rfl⟩))<|kG<|b9 b8 f9)<|b9 b8<|b9 b8 f9,?_⟩
  obtain⟨q,J,Z⟩:=MT ns;refine⟨_,rfl,63,rfl,a,_,rfl,Y,λp hp=>?_⟩;rw[J];have O:bW H (upd H p<|.l<|q.map V.n):=bW.upd hp;refine⟨p,rfl,⟨_,en.of aq⟩,λD B=>?_⟩;have r:D≠p:=λz=>by subst z;rw[aq]at B;cases B
  refine zM (xs:=q.map V.n) (λi I g=>∃G:a0b,(∃v,I=[v])/\Uc G=i/\(∀c∈G,0<=c)/\g D=My (.l<|G.map V.n)/\g p=My (.l<|q.map V.n)/\bW H g) ⟨[],⟨_,rfl⟩,rfl,(λ_ h=>nomatch h),aq,by rw[bb r.symm,aq],O.trans<|bW.upd B⟩
   (λi I g _ ⟨_,_,_,_,_,e,_⟩=>en.of e) ?_ ?_
  .rintro i x I g n ⟨G,⟨v,rfl⟩,l,m,d,t,u⟩
   have aa:i<Uc q:=by have:=(Nd.mp n).1;rwa[MZ]at this
   obtain⟨z,rfl⟩:∃z,x=V.n z:=by
    rw[Nk]at n;cases e:q[i]? with
    |none=>rw[e]at n;cases n
    |some z=>rw[e]at n;exact⟨z,(N0 n).symm⟩
   unfold fi Jq;refine ZU ?_;refine⟨_,rfl,_,rfl,G.map V.n,d,by rw[MZ];exact sX (by lia),G++[if z<0 then -z else z],⟨_,rfl⟩,by rw[Ni,l];rfl,λc hc=>?_,by rw[aq,Of];rfl,by rw[bb r.symm];exact t,λb o e=>?_⟩
   .rcases NU.mp hc with hc|hc
    .exact m c hc
    .obtain rfl:c=_:=by simpa using hc
     split<;>lia
   .rw[bb<|bw e<|O.free B]
    exact u b o e
  .rintro I g ⟨G,⟨v,rfl⟩,l,m,d,t,u⟩
   rw[MZ]at l;refine⟨by decide,λp2 j=>⟨D,p2,_,_,rfl,rfl,by rw[bb<|bw d j];exact d,aq,by rw[MZ];exact OA (sX<|by simp;lia),λR y=>⟨(by show 3<=Nw;decide),λT f=>?_⟩⟩⟩;have U:bW g (upd g p2<|.l [V.n 1]):=bW.upd j;have W:=U.trans<|bW.upd (o:= .l<|G.map V.n++[V.n 1]) y;have L:R≠T:=λz=>by subst z;rw[aq]at f;cases f
   refine k T R _ ((u.trans W).free f) ((u.trans U).free y) ⟨G++[1],0,0,aq,by rw[bb L,aq,Of];rfl,by simp,by rw[Ni];simp;lia,λc hc=>?_,by decide⟩<|(u.trans W).trans<|bW.upd f;rcases NU.mp hc with hc|hc
   .exact m c hc
   .obtain rfl:c=1:=by simpa using hc
    decide
theorem aW(N:p6 K mg a):FB P w K mg ac 2 "_law_pull" a.Cn a.Co ["_law_bag_here","_law_lot"] 2 fS:=⟨BX N,(N.1 42).m,(N.1 42).F.kp,(N.1 42).b⟩
abbrev QF(K:ND)(a:Ad)(k:Nat)(x:N8)(f:M6)(d:NL)(E:a0g)(n:Nat):={m:a0e->M D//∀{P:NY} {w:N6} {mg:a0h} {ac:Op} (N:p6 K mg a),FB P w K mg ac k x f d E n m}
abbrev QM(K:ND)(a:Ad)(k:Nat)(f:M6)(d:NL)(E:a0g)(n:Nat):={m:a0e->M D//∀{P:NY} {w:N6} {mg:a0h} {ac:Op} (N:p6 K mg a),d_ P w K mg ac (e_ P w) k f d E (B6 K n m)}
theorem xw:bc ["rows","columns","pair"] ["rows","columns","pair"] (ai<|dk 15):=fx
def qu(K:ND)(a:Ad):QM K a 2 a.An a.Ao ["rows","columns","pair"] 3:=⟨_,λN=>by
 exact pE (k:=1) 3 3 _ (N.1 6) xw rfl rfl λb A w s H E d=>aj<|aG<|aA<|bA rfl (hE ["row","pair","columns"] ["row"] [2,1]) (bN (by rfl) N.D7<|c_<|vv 0) (λG C c s H=>⟨(d4 0 eo),aQ,λD=>aM rfl (bA rfl (hE ["column","pair"] ["column"] [1]) (bN (by rfl) N.D7<|c_<|vv 2) (λG C c s H=>⟨(d4 0 eo),aQ,λD=>aM rfl (vv 1) rfl⟩) aw ax (λD=>aS)) rfl⟩) aw ax (λD=>aS)⟩
def ya(K:ND)(a:Ad):G:=
  iC (gc 1 [2,1] (bP cQ<|ae (aa 0)<|ak) (ej 0) (λ_=>M.f5 M3)<|ng<|eV 1 [1] (bP cQ<|ae (aa 2)<|ak) (ej 0) (λ_=>M.f5 M3)<|hL<|aa 1)
def nZ(K:ND)(a:Ad):a0e->M a0o:=gY 3<|ya K a
theorem Ff(N:p6 K mg a):d_ P w K mg ac (e_ P w) 2 a.An a.Ao ["rows","columns","pair"] (Q_ K 3<|nZ K a):=by
 unfold nZ;exact rX (k:=1) 3 3 (ya K a) (N.1 6) xw rfl rfl λb A G s H E d=>aj<|nR<|aA<|wo rfl (hE ["row","pair","columns"] ["row"] [2,1]) (bN (by rfl) N.D7<|c_<|vv 0) (λM C c s H=>⟨(d4 0 eo),aQ,λD=>aM rfl (Kg rfl (hE ["column","pair"] ["column"] [1]) (bN (by rfl) N.D7<|c_<|vv 2) (λM C c s H=>⟨(d4 0 eo),aQ,λD=>aM rfl (vv 1) rfl⟩) aw ax (λD=>aS)) rfl⟩) aw ax (λD=>n6)
theorem uC:bc ["rowsums","columnsums"] ["rowsums","columnsums"] (ai<|dk 16):=fx
def da(K:ND)(a:Ad):QF K a 4 "check_sums" a.Aq a.Ar ["rowsums","columnsums"] 2:=⟨_,λN=>by
 exact hO 2 (N.1 9) uC λd A w s H E b=>ag (bv (nM<|rE im im kn kn (ah) (bG N.D3<|c_<|vv 0)<|gE<|N.1 4) (aj<|gB (N.1 75).xc (aR o0) (by decide)<|fE b.hd<|iB (N.1 75) (gb N) (b.mono<|by decide) rfl (N.1 74) (N.1 73) .nil gp<|c_<|jp (c:=((Nl "there are 1 to ").length+(1921+((Nl " row sums, not ").length+(1921+0))))) (dT<|fU (gE<|N.1 4)<|dT<|fU (bG N.D3<|c_<|vv 0)<|lC)<|by decide +kernel)<|aV)
   (ag (bv (nM<|rE im im kn kn (ah) (bG N.D3<|c_<|vv 1)<|gE<|N.1 3) (aj<|gB (N.1 75).xc (aR o0) (by decide)<|fE b.hd<|iB (N.1 75) (gb N) (b.mono<|by decide) rfl (N.1 74) (N.1 73) .nil gp<|c_<|jp (c:=((Nl "there are 1 to ").length+(1921+((Nl " column sums, not ").length+(1921+0))))) (dT<|fU (gE<|N.1 3)<|dT<|fU (bG N.D3<|c_<|vv 1)<|lC)<|by decide +kernel)<|aV)
   (ag (bv (fm<|kg (nK<|cu (j9 rfl) uO (by rfl) N.Dy Boot.«any»<|c_<|bA rfl (hE ["many"] ["many"] []) (bj<|vv 0) (λG C e s H=>⟨(d4 0 eo),aQ,λD=>aM rfl (iU gN jD (vv 0)<|ah) rfl⟩) aw ax (λD=>aS))<|kX<|nK<|cu (j9 rfl) uO (by rfl) N.Dy Boot.«any»<|c_<|bA rfl (hE ["many"] ["many"] []) (bj<|vv 1) (λG C e s H=>⟨(d4 0 eo),aQ,λD=>aM rfl (iU gN jD (vv 0)<|ah) rfl⟩) aw ax (λD=>aS)) (aj<|gB (N.1 75).xc (aR o0) (by decide)<|fE b.hd<|iB (N.1 75) (gb N) (b.mono<|by decide) rfl (N.1 74) (N.1 73) .nil gp<|c_<|dQ)<|aV)
   (ag (bv (aL (fF b) gU (dY N.Ea<|c_<|vv 0)<|dY N.Ea<|c_<|vv 1) (aj<|gB (N.1 75).xc (aR o0) (by decide)<|fE b.hd<|iB (N.1 75) (gb N) (b.mono<|by decide) rfl (N.1 74) (N.1 73) .nil gp<|c_<|jp (c:=((Nl "the rows have ").length+(1921+((Nl " things, the columns ").length+(1921+0))))) (dT<|fU (dY N.Ea<|c_<|vv 0)<|dT<|fU (dY N.Ea<|c_<|vv 1)<|lC)<|by decide +kernel)<|aV)
   (aj<|bv (aL fR ia (dY N.Ea<|c_<|vv 0)<|gE<|N.1 2) (aj<|gB (N.1 75).xc (aR o0) (by decide)<|fE b.hd<|iB (N.1 75) (gb N) (b.mono<|by decide) rfl (N.1 74) (N.1 73) .nil gp<|c_<|jp (c:=((Nl "a table has at most ").length+(1921+((Nl " things").length+0)))) (dT<|fU (gE<|N.1 2)<|dT<|lC)<|by decide +kernel)<|aV))))⟩
theorem rK:bc ["place","many"] ["place","many"] (ai<|dk 17):=fx
def lY(K:ND)(a:Ad):QF K a 2 "check_there" a.As a.At ["place","many"] 2:=⟨_,λN=>by
 exact hO 2 (N.1 10) rK λb A w s H E c=>aj<|bv (nM<|rE im gN kn jD (ah) (vv 0)<|vv 1) (aj<|kB)<|aV⟩
theorem uD:bc ["row","column","rows","columns"] ["row","column","rows","columns"] (ai<|dk 18):=fx
def mD(K:ND)(a:Ad):QF K a 3 "check_cell" a.Au a.Av ["row","column","rows","columns"] 4:=⟨_,λN=>by
 exact hO 4 (N.1 11) uD λc A w s H E b=>ag (d7<|bV<|vc ((lY K a).2 N) b<|eg (vv 0)<|vv 2)
   (aj<|d7<|bV<|vc ((lY K a).2 N) b<|eg (vv 1)<|vv 3)⟩
theorem iJ:bc ["pair","low","high"] ["pair"] (ai<|dk 19):=fx
def d8(K:ND)(a:Ad):QF K a 4 "check_pair" a.Aw a.Ax ["pair"] 1:=⟨_,λN=>by
 exact hO 3 (N.1 12) iJ λd A w s H E b=>ag (uI (qG (eG aX<|eG aX n5)<|eE<|eE k7)<|cf (vv 0)<|cJ rfl<|aK (d4 1 iJ.nd)<|aK (d4 2 iJ.nd) b6)
   (aj<|bv (nM<|EF im im im kn kn kn (ah) (vv 1) (vv 2)<|gE<|N.1 2) (aj<|gB (N.1 80).xc (aR o0) (by decide)<|fE b.hd<|iB (N.1 80) (iM N) (b.mono<|by decide) rfl (N.1 79) (N.1 78) .nil gp<|c_<|jp (c:=((Nl "a cell has no bounds from ").length+(1921+((Nl " to ").length+(1921+0))))) (dT<|fU (vv 1)<|dT<|fU (vv 2)<|lC)<|by decide +kernel)<|aV)⟩
theorem ci:bc ["bounds","rows","columns","pairs","pair"] ["bounds","rows","columns"] (ai<|dk 20):=fx
def bp(K:ND)(a:Ad):QF K a 5 "settled_bounds" a.Ay a.Az ["bounds","rows","columns"] 3:=⟨_,λN=>by
 exact hO 5 (N.1 13) ci λe A w s H E b=>ag (bv (aL qA uM (vv 0)<|nJ) (aj<|aG<|aA<|HB ((qu K a).2 N) (b.mono<|by decide) (by rfl) (N.1 7) (N.1 6).kp (N.1 8) qz (eg (vv 1)<|vv 2) (λG M r d h=>by rw[(aR<|aR o0) G M r d h];rfl))<|aV)
   (ag (bv (fm<|kg (aL (fF b) gU (bG N.D3<|c_<|vv 0)<|vv 1)<|kX<|nK<|cu (j9 rfl) uO (by rfl) N.Dy Boot.«any»<|c_<|bA rfl (hE ["pairs","columns"] ["pairs"] [2]) (bj<|vv 0) (λP C f s H=>⟨(d4 0 eo),aQ,λD=>aM rfl (iU (fF b) gU (bG N.D3<|c_<|vv 0)<|vv 1) rfl⟩) aw ax (λD=>aS)) (aj<|gB (N.1 80).xc (aR o0) (by decide)<|fE b.hd<|iB (N.1 80) (iM N) (b.mono<|by decide) rfl (N.1 79) (N.1 78) .nil gp<|c_<|jp (c:=((Nl "these are no bounds of ").length+(1921+((Nl " rows and ").length+(1921+((Nl " columns").length+0)))))) (dT<|fU (vv 1)<|dT<|fU (vv 2)<|dT<|lC)<|by decide +kernel)<|aV)
   (ag (cm aX<|bT de rfl (bj<|vv 0) (d4 3 ci.nd)<|aj<|cm aX<|bT de rfl (bj<|vv 3) (d4 4 ci.nd)<|aj<|d7<|bV<|vc ((d8 K a).2 N) b<|c_<|vv 4)
   (aj<|aG<|aA<|bA rfl (hE ["pairs"] ["pairs"] []) (bj<|vv 0) (λP C f s H=>⟨(d4 0 eo),aQ,λD=>aM rfl (cr bE fJ (by rfl) N.D4 Boot.«list»<|c_<|vv 0) rfl⟩) aw ax (λD=>aS))))⟩
def dU(K:ND)(a:Ad):G:=
  aB (ry (fB<|f2 (FQ) (aa 0)<|fC .o) (iC<|oB (nZ K a) (ae (aa 1)<|ae (aa 2)<|ak) [.t [.n 0,.n 40]])<|gNil)
  (aB (ry (jF (fB<|f2 (gR) (aJ cW<|ae (aa 0)<|ak)<|aa 1)<|se<|aJ sE<|ae (bY 1 [2] (bM<|aa 0) (ej 0) (λ_=>M.f5 M3)<|hL<|f2 (gR) (aJ cW<|ae (aa 0)<|ak)<|aa 1)<|ak) (kP a.Ah<|ae (qW<|lB (aa 1)<|lB (aa 2)<|zn)<|ak)<|gNil)
  (aB (pC (bM<|aa 0) (uY 3)<|pC (bM<|aa 3) (uY 4)<|dW<|bC (d8 K a).1<|ae (aa 4)<|ak)
  (iC<|gc 1 [] (bM<|aa 0) (ej 0) (λ_=>M.f5 M3)<|ng<|qE n9<|ae (aa 0)<|ak)))
def bL(K:ND)(a:Ad):a0e->M a0o:=gY 5<|dU K a
theorem mJ(N:p6 K mg a):d_ P w K mg ac (e_ P w) 5 a.Ay a.Az ["bounds","rows","columns"] (Q_ K 3<|bL K a):=by
 unfold bL
 exact rX (k:=4) 3 5 (dU K a) (N.1 13).F ci rfl rfl λe A G s H E b=>ag (bv (aL qA uM (vv 0)<|nJ) (aj<|nR<|aA<|IM (Ff N) (b.mono<|by decide) (by rfl) (N.1 7) (N.1 6).kp (N.1 8) qz (eg (vv 1)<|vv 2) (λM S r d h=>by rw[(aR<|aR o0) M S r d h];rfl))<|aV)
   (ag (bv (fm<|kg (aL (fF b) gU (bG N.D3<|c_<|vv 0)<|vv 1)<|kX<|nK<|cu (j9 rfl) uO (by rfl) N.Dy Boot.«any»<|c_<|bA rfl (hE ["pairs","columns"] ["pairs"] [2]) (bj<|vv 0) (λV C f s H=>⟨(d4 0 eo),aQ,λD=>aM rfl (iU (fF b) gU (bG N.D3<|c_<|vv 0)<|vv 1) rfl⟩) aw ax (λD=>aS)) (aj<|gB (N.1 80).xc (aR o0) (by decide)<|fE b.hd<|iB (N.1 80) (iM N) (b.mono<|by decide) rfl (N.1 79) (N.1 78) .nil gp<|c_<|jp (c:=((Nl "these are no bounds of ").length+(1921+((Nl " rows and ").length+(1921+((Nl " columns").length+0)))))) (dT<|fU (vv 1)<|dT<|fU (vv 2)<|dT<|lC)<|by decide +kernel)<|aV)
   (ag (cm aX<|bT de rfl (bj<|vv 0) (d4 3 ci.nd)<|aj<|cm aX<|bT de rfl (bj<|vv 3) (d4 4 ci.nd)<|aj<|d7<|bV<|vc ((d8 K a).2 N) b<|c_<|vv 4)
   (aj<|nR<|aA<|wo rfl (hE ["pairs"] ["pairs"] []) (bj<|vv 0) (λV C f s H=>⟨(d4 0 eo),aQ,λD=>aM rfl (vR bE xS (by rfl) N.D4 Boot.«list»<|c_<|vv 0) rfl⟩) aw ax (λD=>n6))))
theorem yO:bc ["rowsums","over"] ["rowsums","over"] (ai<|dk 23):=fx
def jX(K:ND)(a:Ad):QF K a 2 "need_of" a.A0 a.A1 ["rowsums","over"] 2:=⟨_,λN=>by
 exact hO 2 (N.1 14) yO λb A w s H E c=>aj<|aG<|aA<|dY N.Ea<|c_<|bA rfl (hE ["row","rowsums"] ["row"] [0]) (bj<|vv 1) (λG C d s H=>⟨(d4 0 eo),aQ,λD=>aM rfl (bB aI bD (vv 1)<|vv 0) rfl⟩) aw ax (λD=>aS)⟩
theorem kz:bc ["columnsums","bounds","over","column","lows"] ["columnsums","bounds","over","column"] (ai<|dk 24):=fx
def dB(K:ND)(a:Ad):QF K a 2 "room_inside" a.A3 a.A4 ["columnsums","bounds","over","column"] 4:=⟨_,λN=>by
 exact hO 5 (N.1 15) kz λb A w s H E c=>ag (vC (i:=4) kz.nd rfl (by first|exact PP rfl|exact QT rfl) rfl (hE ["row","pairs","over","column"] ["row","pairs"] [2,3]) (DC (by rfl) N.Dz (c_ (vv 1))) (λG C d s H=>⟨(cJ rfl<|aK (d4 0 eo)<|aK (d4 1 eo) b6),qV<|aL mH (v9 (neg:=M3)) (vv 0)<|vv 2,λD=>aM rfl (bB aI bD (bB aI bD (vv 1)<|vv 3)<|ah) rfl⟩) (ef (bh aw<|bh aw c5)<|aZ<|aZ cw) (d6<|bf ax<|bf ax cY) (λD=>aS))
   (aj<|aG<|aA<|aY dg eJ (bB aI bD (vv 0)<|vv 3)<|dY N.Ea<|c_<|vv 4)⟩
theorem rH:bc ["bounds","over","column"] ["bounds","over","column"] (ai<|dk 25):=fx
def dC(K:ND)(a:Ad):QF K a 2 "room_beside" a.A5 a.A6 ["bounds","over","column"] 3:=⟨_,λN=>by
 exact hO 3 (N.1 16) rH λb A w s H E c=>aj<|aG<|aA<|dY N.Ea<|c_<|bA rfl (hE ["row","bounds","column"] ["row"] [0,2]) (bj<|vv 1) (λG C d s H=>⟨(d4 0 eo),aQ,λD=>aM rfl (bB aI bD (bB aI bD (bB aI bD (vv 1)<|vv 0)<|vv 2)<|ah) rfl⟩) aw ax (λD=>aS)⟩
theorem yN:bc ["columnsums","bounds","over","into"] ["columnsums","bounds","over","into"] (ai<|dk 26):=fx
def jW(K:ND)(a:Ad):QF K a 3 "room_of" a.A7 a.A8 ["columnsums","bounds","over","into"] 4:=⟨_,λN=>by
 exact hO 4 (N.1 17) yN λc A w s H E b=>aj<|aG<|aA<|dY N.Ea<|c_<|bA rfl (hE ["column","into","columnsums","bounds","over"] ["column"] [3,0,1,2]) (bN (by rfl) N.D7<|c_<|bG N.D3<|c_<|vv 0) (λG C d s H=>⟨(d4 0 eo),aQ,λD=>aM rfl (Y9 (aL mI (v9 (neg:=M5)) (vv 0)<|vv 1) (vc ((dB K a).2 N) b<|s9 (vv 2) (vv 3) (vv 4)<|vv 0)<|vc ((dC K a).2 N) b<|nl (vv 3) (vv 4)<|vv 0) rfl⟩) aw ax (λD=>aS)⟩
theorem vx:bc ["columnsums","bounds","over"] ["columnsums","bounds","over"] (ai<|dk 27):=fx
def f8(K:ND)(a:Ad):QF K a 3 "narrowest" a.A9 a.Ba ["columnsums","bounds","over"] 3:=⟨_,λN=>by
 exact hO 3 (N.1 18) vx λc A w s H E b=>aj<|aG<|aA<|bA rfl (hE ["column","columnsums","bounds","over"] ["column"] [0,1,2]) (bN (by rfl) N.D7<|c_<|bG N.D3<|c_<|vv 0) (λG C d s H=>⟨(d4 0 eo),qV<|aL gN jD (vc ((dB K a).2 N) b<|s9 (vv 1) (vv 2) (vv 3)<|vv 0)<|vc ((dC K a).2 N) b<|nl (vv 2) (vv 3)<|vv 0,λD=>aM rfl (vv 0) rfl⟩) aw ax (λD=>aS)⟩
theorem iX:bc ["many","told","number"] ["many"] (ai<|dk 28):=fx
def jZ(K:ND)(a:Ad):QF K a 2 "choices" a.Bb a.Bc ["many"] 1:=⟨_,λN=>by
 exact hO 3 (N.1 19) iX λb A w s H E c=>ag (aP<|eB 1 iX.nd<|jN<|c_<|jN<|l7)
   (ag (cm aX<|bT de rfl (bN (by rfl) N.D7<|c_<|vv 0) (d4 2 iX.nd)<|aj<|aP<|eB 1 iX.nd<|aY bo cD (vv 1)<|bA rfl (hE ["chosen","number"] ["chosen"] [2]) (bj<|vv 1) (λG C d s H=>⟨(d4 0 eo),aQ,λD=>aM rfl (aY bo cD (vv 0)<|jN<|c_<|vv 1) rfl⟩) aw ax (λD=>aS))
   (aj<|aG<|aA<|vv 1))⟩
theorem ju:bc ["rowsums","columnsums","bounds","over","into"] ["rowsums","columnsums","bounds"] (ai<|dk 29):=fx
def ki(K:ND)(a:Ad):QF K a 4 "check_fit" a.Be a.Bf ["rowsums","columnsums","bounds"] 3:=⟨_,λN=>by
 exact hO 5 (N.1 20) ju λc A w s H E b=>aj<|cm aX<|bT de rfl (bj<|vc ((jZ K a).2 N) b<|c_<|bG N.D3<|c_<|vv 0) (d4 3 ju.nd) (ag (aP<|eB 4 ju.nd<|vc ((f8 K a).2 N) b<|nl (vv 1) (vv 2)<|vv 3)
   (aj<|bv (aL fR ia (vc ((jX K a).2 N) b<|eg (vv 0)<|vv 3)<|vc ((jW K a).2 N) b<|s9 (vv 1) (vv 2) (vv 3)<|vv 4) (aj<|kB)<|aV))⟩
theorem cz:bc ["rowsums","columnsums","bounds","row","column","low","high","spare","over","into"] ["rowsums","columnsums","bounds","row","column"] (ai<|dk 30):=fx
def gl(K:ND)(a:Ad):QF K a 4 "least_count" a.Bh a.Bi ["rowsums","columnsums","bounds","row","column"] 5:=⟨_,λN=>by
 exact hO 10 (N.1 21) cz λc A w s H E b=>ag (uI (qG (eG aX<|eG aX n5)<|eE<|eE k7)<|cf (bB aI bD (bB aI bD (vv 2)<|vv 3)<|vv 4)<|cJ rfl<|aK (d4 5 cz.nd)<|aK (d4 6 cz.nd) b6)
   (ag (aP<|eB 7 cz.nd<|aY dg eJ (vv 6)<|vv 5)
   (ag (cm aX<|bT de rfl (bj<|vc ((jZ K a).2 N) b<|c_<|bG N.D3<|c_<|vv 0) (d4 8 cz.nd)<|aj<|bv (aL mI (v9 (neg:=M5)) (vv 3)<|vv 8) (ag (vC (i:=9) cz.nd rfl (by first|exact PP rfl|exact QT rfl) rfl (hE ["other","column"] ["other"] [4]) (bj (vc ((f8 K a).2 N) b (nl (vv 1) (vv 2) (vv 8)))) (λG C d s H=>⟨(d4 0 eo),qV<|aL (fF b) gU (vv 0)<|vv 1,λD=>aM rfl (vv 0) rfl⟩) aw ax (λD=>aS))
   (aj<|aP<|eB 7 cz.nd<|cu (m8 rfl) zi (by rfl) N.D6 Boot.«min»<|eg (vv 7)<|aY dg eJ (vc ((jW K a).2 N) b<|s9 (vv 1) (vv 2) (vv 8)<|vv 9)<|vc ((jX K a).2 N) b<|eg (vv 0)<|vv 8))<|aV)
   (aj<|aG<|aA<|aY dg eJ (vv 6)<|vv 7)))⟩
theorem gG:bc ["rowsums","columnsums","bounds","lowered","row","column","low"] ["rowsums","columnsums","bounds"] (ai<|dk 31):=fx
def cI(K:ND)(a:Ad):QM K a 6 a.Bj a.Bk ["rowsums","columnsums","bounds"] 3:=⟨_,λN=>by
 exact pE (k:=5) 3 7 _ (N.1 22) gG rfl rfl λd A w s H E c=>ag (d7<|bV<|vc ((da K a).2 N) c<|eg (vv 0)<|vv 1)
   (ag (yR<|eB 3 gG.nd<|DF (mJ N) (c.mono<|by decide) (by rfl) (N.1 13).m (N.1 13).F.kp (N.1 13).b qz (nl (vv 2) (bG N.D3<|c_<|vv 0)<|bG N.D3<|c_<|vv 1)<|aR<|aR<|aR o0)
   (ag (d7<|bV<|vc ((ki K a).2 N) c<|nl (vv 0) (vv 1)<|vv 3)
   (ag (cm aX<|bT de rfl (bN (by rfl) N.D7<|c_<|bG N.D3<|c_<|vv 0) (d4 4 gG.nd)<|aj<|cm aX<|bT de rfl (bN (by rfl) N.D7<|c_<|bG N.D3<|c_<|vv 1) (d4 5 gG.nd) (ag (vA<|eB 6 gG.nd<|bB aI bD (bB aI bD (bB aI bD (vv 3)<|vv 4)<|vv 5)<|ah)
   (aj<|mr<|cf (dI<|eg (vv 6)<|vc ((gl K a).2 N) c<|fN (vv 0)<|fN (vv 1)<|fN (vv 3)<|fN (vv 4)<|fN (vv 5)<|l7)<|db (gn dF (pv 3) (vv 4) (λ_ _=>rfl)) (vv 5) bZ)))
   (aj<|aG<|aA<|bA rfl (hE ["pairs"] ["pairs"] []) (bj<|vv 3) (λG C e s H=>⟨(d4 0 eo),aQ,λD=>aM rfl (bA rfl (hE ["low","high"] ["low","high"] []) (bj<|vv 0) (λG C e s H=>⟨(cJ rfl<|aK (d4 0 eo)<|aK (d4 1 eo) b6),aQ,λD=>aM rfl (vv 1) rfl⟩) (ef (bh aw<|bh aw c5)<|aZ<|aZ cw) (d6<|bf ax<|bf ax cY) (λD=>aS)) rfl⟩) aw ax (λD=>aS)))))⟩
theorem gH:bc ["number","product","factor"] ["number"] (ai<|dk 33):=fx
def ik(K:ND)(a:Ad):QF K a 2 "factorial" a.Bl a.Bm ["number"] 1:=⟨_,λN=>by
 exact hO 3 (N.1 25) gH λb A w s H E c=>ag (aP<|eB 1 gH.nd<|ah)
   (ag (cm aX<|bT de rfl (wl (by rfl) N.D7<|eg (ah)<|aY bo cD (vv 0)<|ah) (d4 2 gH.nd)<|aj<|qm xW<|mF (i:=1) gH.nd rfl (by first|exact PP rfl|exact QT rfl) (vv 2) x4)
   (aj<|aG<|aA<|vv 1))⟩
theorem kx:bc ["parts","part","told"] ["parts"] (ai<|dk 35):=fx
def vL(K:ND)(a:Ad):QF K a 3 "ways" a.Bn a.Bo ["parts"] 1:=⟨_,λN=>by
 exact hO 3 (N.1 26) kx λc A w s H E b=>ag (cm aX<|bT de rfl (bj<|vv 0) (d4 1 kx.nd)<|aj<|bv (aL gN jD (vv 1)<|ah) (aj<|kB)<|aV)
   (ag (aP<|eB 2 kx.nd<|vc ((ik K a).2 N) b<|c_<|cu (Ej rfl) Kt (by rfl) N.Ea Boot.«sum»<|c_<|vv 0)
   (ag (cm aX<|bT de rfl (bj<|vv 0) (d4 1 kx.nd)<|aj<|qm FI<|mF (i:=2) kx.nd rfl (by first|exact PP rfl|exact QT rfl) (vc ((ik K a).2 N) b (c_ (vv 1))) IJ)
   (aj<|aG<|aA<|vv 2)))⟩
theorem jt:bc ["one","other"] ["one","other"] (ai<|dk 36):=fx
def gL(K:ND)(a:Ad):QF K a 2 "common_factor" a.Bp a.Bq ["one","other"] 2:=⟨_,λN=>by
 exact hO 2 (N.1 27) jt λb A w s H E c=>ag (HM de (aL fR ia (vv 1)<|ah)<|aj<|LN<|JS (i:=0) (j:=1) rfl jt.nd rfl rfl (by decide) rfl rfl (eg (vv 1)<|aY kJ Md (vv 0)<|vv 1) rfl)
   (aj<|aG<|aA<|vv 0)⟩
theorem cX:bc ["rests","many","pairs","lows","tops","begun","row","fewest_behind","most_behind"] ["rests","many","pairs"] (ai<|dk 37):=fx
def k9(K:ND)(a:Ad):QF K a 2 "fillings" a.Br a.Bs ["rests","many","pairs"] 3:=⟨_,λN=>by
 exact hO 9 (N.1 28) cX λc A w s H E d=>ag (aP<|eB 3 cX.nd<|bA rfl (hE ["low","high"] ["low","high"] []) (bj<|vv 2) (λG C b s H=>⟨(cJ rfl<|aK (d4 0 eo)<|aK (d4 1 eo) b6),aQ,λD=>aM rfl (vv 0) rfl⟩) (ef (bh aw<|bh aw c5)<|aZ<|aZ cw) (d6<|bf ax<|bf ax cY) (λD=>aS))
   (ag (aP<|eB 4 cX.nd<|bA rfl (hE ["rest","low","high"] ["rest","low","high"] []) (G7 (by rfl) N.Ec<|eg (vv 0)<|vv 2) (λG C b s H=>⟨(cJ rfl<|aK (d4 0 eo)<|aK (cJ rfl<|aK (d4 1 eo)<|aK (d4 2 eo) b6) b6),aQ,λD=>aM rfl (cu (m8 rfl) zi (by rfl) N.D6 Boot.«min»<|eg (vv 0)<|vv 2) rfl⟩) (ef (bh aw<|bh (ef (bh aw<|bh aw c5)<|aZ<|aZ cw) c5)<|aZ<|aZ cw) (d6<|bf ax<|bf (d6<|bf ax<|bf ax cY) cY) (λD=>aS))
   (ag (aP<|eB 5 cX.nd<|jN<|c_<|dI<|eg (dI<|l7)<|vv 1)
   (ag (cm aX<|bT de rfl (bN (by rfl) N.D7<|c_<|bG N.D3<|c_<|vv 0) (d4 6 cX.nd) (ag (aP<|eB 7 cX.nd<|dY N.Ea<|c_<|rA (vv 3) (qC<|aY bo cD (vv 6)<|ah)<|qD)
   (ag (aP<|eB 8 cX.nd<|dY N.Ea<|c_<|rA (vv 4) (qC<|aY bo cD (vv 6)<|ah)<|qD)
   (aj<|vC (i:=5) cX.nd rfl (by first|exact PP rfl|exact QT rfl) rfl (hE ["counts","left","count","lows","row","most_behind","tops","fewest_behind"] ["counts","left","count"] [3,6,8,4,7]) (bj (vv 5)) (λG C b s H=>⟨(cJ rfl<|aK (d4 0 eo)<|aK (d4 1 eo) b6),aQ,λD=>nX rfl rfl rfl (wl (by rfl) N.D7<|eg (cu (m9 rfl) zj (by rfl) N.D5 Boot.«max»<|eg (bB aI bD (vv 3)<|vv 4)<|aY dg eJ (vv 1)<|vv 5)<|aY bo cD (cu (m8 rfl) zi (by rfl) N.D6 Boot.«min»<|eg (bB aI bD (vv 6)<|vv 4)<|aY dg eJ (vv 1)<|vv 7)<|ah) (d4 2 eo) (aQ)<|aM rfl (dI<|eg (aY bo cD (vv 0)<|dI<|c_<|vv 2)<|aY dg eJ (vv 1)<|vv 2) rfl⟩) (ef (bh aw<|bh aw c5)<|aZ<|aZ cw) (d6<|bf ax<|bf ax cY) (λD=>xU aw ax<|aS)))))
   (aj<|aG<|aA<|bA rfl (hE ["counts","left"] ["counts","left"] []) (bj<|vv 5) (λG C b s H=>⟨(cJ rfl<|aK (d4 0 eo)<|aK (d4 1 eo) b6),qV<|aL (cb d) cN (vv 1)<|ah,λD=>aM rfl (vv 0) rfl⟩) (ef (bh aw<|bh aw c5)<|aZ<|aZ cw) (d6<|bf ax<|bf ax cY) (λD=>aS)))))⟩
theorem gj:bc ["rowsums","wide","many"] ["rowsums"] (ai<|dk 40):=fx
def jA(K:ND)(a:Ad):QF K a 2 "check_wide" a.Bt a.Bu ["rowsums"] 1:=⟨_,λN=>by
 exact hO 3 (N.1 29) gj λb A w s H E c=>ag (aP<|eB 1 gj.nd<|ah)
   (ag (cm aX<|bT de rfl (bj<|vv 0) (d4 2 gj.nd)<|aj<|qm xW<|mF (i:=1) gj.nd rfl (by first|exact PP rfl|exact QT rfl) (aY bo cD (vv 2) (ah)) x4)
   (aj<|bv (aL fR ia (vv 1)<|gE<|N.1 5) (aj<|kB)<|aV))⟩
theorem iw:bc ["rowsums","columnsums","bounds","settled"] ["rowsums","columnsums","bounds"] (ai<|dk 41):=fx
def bU(K:ND)(a:Ad):QF K a 6 "settled_for_net" a.Bv a.Bw ["rowsums","columnsums","bounds"] 3:=⟨_,λN=>by
 exact hO 4 (N.1 30) iw λc A w s H E b=>ag (d7<|bV<|vc ((da K a).2 N) b<|eg (vv 0)<|vv 1)
   (ag (aP<|eB 3 iw.nd<|vc ((bp K a).2 N) b<|nl (vv 2) (bG N.D3<|c_<|vv 0)<|bG N.D3<|c_<|vv 1)
   (ag (d7<|bV<|vc ((jA K a).2 N) b<|c_<|vv 0)
   (aj<|aG<|aA<|vv 3)))⟩
theorem mn:bc ["rests","columnsums","bounds","column"] ["rests","columnsums","bounds","column"] (ai<|dk 42):=fx
def cT(K:ND)(a:Ad):QF K a 3 "column_fillings" a.Bx a.By ["rests","columnsums","bounds","column"] 4:=⟨_,λN=>by
 exact hO 4 (N.1 31) mn λb A w s H E c=>aj<|aG<|aA<|vc ((k9 K a).2 N) c<|nl (vv 0) (bB aI bD (vv 1)<|vv 3)<|bA rfl (hE ["pairs","column"] ["pairs"] [3]) (bj<|vv 2) (λG C d s H=>⟨(d4 0 eo),aQ,λD=>aM rfl (bB aI bD (vv 0)<|vv 1) rfl⟩) aw ax (λD=>aS)⟩
theorem qe:bc ["rests","counts"] ["rests","counts"] (ai<|dk 43):=fx
def fQ(K:ND)(a:Ad):QF K a 2 "rests_behind" a.Bz a.B0 ["rests","counts"] 2:=⟨_,λN=>by
 exact hO 2 (N.1 32) qe λb A w s H E c=>aj<|aG<|aA<|cr l5 xV (by rfl) N.Eb Boot.«tuple»<|c_<|bA rfl (hE ["rest","count"] ["rest","count"] []) (G7 (by rfl) N.Ec<|eg (vv 0)<|vv 1) (λG C d s H=>⟨(cJ rfl<|aK (d4 0 eo)<|aK (d4 1 eo) b6),aQ,λD=>aM rfl (aY dg eJ (vv 0)<|vv 1) rfl⟩) (ef (bh aw<|bh aw c5)<|aZ<|aZ cw) (d6<|bf ax<|bf ax cY) (λD=>aS)⟩
theorem cj:bc ["rowsums","columnsums","bounds","here","told","column","behind"] ["rowsums","columnsums","bounds"] (ai<|dk 44):=fx
def gu(K:ND)(a:Ad):QF K a 4 "nodes_by_level" a.B5 a.B7 ["rowsums","columnsums","bounds"] 3:=⟨_,λN=>by
 exact hO 7 (N.1 33) cj λc A w s H E b=>ag (aP<|eB 3 cj.nd<|jN<|c_<|cr l5 xV (by rfl) N.Eb Boot.«tuple»<|c_<|vv 0)
   (ag (GM<|eB 4 cj.nd<|kG<|c_<|vv 3)
   (ag (cm aX<|bT de rfl (bN (by rfl) N.D7<|c_<|bG N.D3<|c_<|vv 1) (d4 5 cj.nd) (ag (aP<|eB 6 cj.nd<|EC (by rfl) N.D9 rfl (hE ["rests","counts","columnsums","bounds","column"] ["rests","counts"] [1,2,5]) (bj<|vv 3) (λG C d s H=>⟨(d4 0 eo),aQ,λD=>nX rfl rfl rfl (bj<|vc ((cT K a).2 N) b<|s9 (vv 0) (vv 2) (vv 3)<|vv 4) (d4 1 eo) (aQ)<|vP (uP b) rfl (vc ((fQ K a).2 N) b<|eg (vv 0)<|vv 1) rfl⟩) aw ax (λD=>pi aw ax<|FF))
   (ag (GN<|bV<|GW VU VD VE tR (pv 4)<|c_<|vv 6)
   (aj<|aP<|eB 3 cj.nd<|vv 6))))
   (aj<|aG<|aA<|vv 4)))⟩
theorem b5:bc ["rests","filled","behind","tables","dealings","counts","tables_behind","dealings_behind"] ["rests","filled","behind"] (ai<|dk 45):=fx
def iK(K:ND)(a:Ad):QF K a 4 "node_counts" a.B8 a.Ca ["rests","filled","behind"] 3:=⟨_,λN=>by
 exact hO 8 (N.1 34) b5 λc A w s H E b=>ag (aP<|eB 3 b5.nd<|ah)
   (ag (aP<|eB 4 b5.nd<|ah)
   (ag (cm aX<|bT de rfl (bj<|vv 1) (d4 5 b5.nd) (ag (uI (qG (eG aX<|eG aX n5)<|eE<|eE k7)<|cf (bB (CU<|hu2 b) Mf (vv 2)<|vc ((fQ K a).2 N) b<|eg (vv 0)<|vv 5)<|cJ rfl<|aK (d4 6 b5.nd)<|aK (d4 7 b5.nd) b6)
   (ag (qm xX<|mF (i:=3) b5.nd rfl (by first|exact PP rfl|exact QT rfl) (vv 6) CY)
   (aj<|qm xX<|mF (i:=4) b5.nd rfl (by first|exact PP rfl|exact QT rfl) (aY kI qJ (vc ((vL K a).2 N) b (c_ (vv 5))) (vv 7)) CY))))
   (aj<|aG<|aA<|dI<|eg (vv 3)<|vv 4)))⟩
theorem bR:bc ["rowsums","columnsums","bounds","levels","last","here","told","level","behind"] ["rowsums","columnsums","bounds"] (ai<|dk 46):=fx
def gJ(K:ND)(a:Ad):QF K a 5 "counted_nodes" a.Cb a.Cc ["rowsums","columnsums","bounds"] 3:=⟨_,λN=>by
 exact hO 9 (N.1 35) bR λe A w s H E c=>ag (aP<|eB 3 bR.nd<|vc ((gu K a).2 N) c<|nl (vv 0) (vv 1)<|vv 2)
   (ag (aP<|eB 4 bR.nd<|bG N.D3<|c_<|vv 1)
   (ag (BE (kb:=M5) (i:=5) bR.nd rfl (by first|exact PP rfl|exact QT rfl) rfl (hE ["rests"] ["rests"] []) (bj (bB aI bD (vv 3) (vv 4))) (λG C d s H=>⟨(d4 0 eo),aQ,λD=>li (b:=M5) (uP c) rfl (vv 0) (dI<|eg (ah)<|ah) rfl⟩) aw ax (λD=>pk))
   (ag (GM<|eB 6 bR.nd<|kG<|c_<|vv 5)
   (ag (cm aX<|bT de rfl (FS (by rfl) N.D8 (by rfl) N.D7<|c_<|vv 4) (d4 7 bR.nd) (ag (aP<|eB 8 bR.nd<|vv 5)
   (ag (BE (kb:=M5) (i:=5) bR.nd rfl (by first|exact PP rfl|exact QT rfl) rfl (hE ["rests","columnsums","bounds","level","behind"] ["rests"] [1,2,7,8]) (bj (bB aI bD (vv 3) (vv 7))) (λG C d s H=>⟨(d4 0 eo),aQ,λD=>li (b:=M5) (uP c) rfl (vv 0) (vc ((iK K a).2 N) c<|nl (vv 0) (vc ((cT K a).2 N) c<|s9 (vv 0) (vv 1) (vv 2)<|vv 3)<|vv 4) rfl⟩) aw ax (λD=>pk))
   (aj<|GN<|bV<|GW VU VD VE tR (pv 6)<|c_<|vv 5))))
   (aj<|aG<|aA<|HA (kb:=M3) rfl (hE ["level","nodes","rests","counts"] ["level","nodes","rests","counts"] []) (DC (by rfl) N.Dz<|c_<|Ls (vv 6)<|oX jq lA<|ah) (λG C d s H=>⟨(cJ rfl<|aK (d4 0 eo)<|aK (d4 1 eo) b6),aQ,λD=>nX rfl rfl rfl (x9<|vv 1) (cJ rfl<|aK (d4 2 eo)<|aK (d4 3 eo) b6) (aQ)<|li (b:=M3) (uP c) rfl (dI<|eg (vv 0)<|vv 2) (vv 3) rfl⟩) (ef (bh aw<|bh aw c5)<|aZ<|aZ cw) (d6<|bf ax<|bf ax cY) (λD=>pi (ef (bh aw<|bh aw c5)<|aZ<|aZ cw) (d6<|bf ax<|bf ax cY)<|pk))))))⟩
theorem uA:bc ["counted"] ["counted"] (ai<|dk 47):=fx
def jz(K:ND)(a:Ad):QF K a 2 "paper_rows" a.Cd a.Cf ["counted"] 1:=⟨_,λN=>by
 exact hO 1 (N.1 36) uA λb A w s H E c=>aj<|aG<|aA<|bA rfl (hE ["level","rests","tables","dealings"] ["level","rests","tables","dealings"] []) (x9<|vv 0) (λG C d s H=>⟨(cJ rfl<|aK (cJ rfl<|aK (d4 0 eo)<|aK (d4 1 eo) b6)<|aK (cJ rfl<|aK (d4 2 eo)<|aK (d4 3 eo) b6) b6),aQ,λD=>aM rfl (dI<|s9 (vv 0) (vv 1) (vv 2)<|vv 3) rfl⟩) (ef (bh (ef (bh aw<|bh aw c5)<|aZ<|aZ cw)<|bh (ef (bh aw<|bh aw c5)<|aZ<|aZ cw) c5)<|aZ<|aZ cw) (d6<|bf (d6<|bf ax<|bf ax cY)<|bf (d6<|bf ax<|bf ax cY) cY) (λD=>aS)⟩
theorem mm:bc ["rowsums","columnsums","paper","bounds","settled"] ["rowsums","columnsums","paper","bounds"] (ai<|dk 48):=fx
def cc(K:ND)(a:Ad):QM K a 7 a.Cg a.Ch ["rowsums","columnsums","paper","bounds"] 4:=⟨_,λN=>by
 exact pE (k:=6) 4 5 _ (N.1 37) mm rfl rfl λc A w s H E b=>ag (aP<|eB 4 mm.nd<|vc ((bU K a).2 N) b<|nl (vv 0) (vv 1)<|vv 3)
   (aj<|aG<|aA<|iU (cb b) cN (vv 2)<|vc ((jz K a).2 N) b<|c_<|vc ((gJ K a).2 N) b<|nl (vv 0) (vv 1)<|vv 4)⟩
theorem fc:bc ["numbers","told","number"] ["numbers"] (ai<|dk 53):=fx
def cZ(K:ND)(a:Ad):QF K a 3 "least_common" a.Ci a.Cj ["numbers"] 1:=⟨_,λN=>by
 exact hO 3 (N.1 40) fc λb A w s H E c=>ag (aP<|eB 1 fc.nd<|ah)
   (ag (cm aX<|bT de rfl (bj<|vv 0) (d4 2 fc.nd)<|aj<|aP<|eB 1 fc.nd<|aY Fe Kv (aY kI qJ (vv 1)<|vv 2)<|vc ((gL K a).2 N) c<|eg (vv 1)<|vv 2)
   (aj<|aG<|aA<|vv 1))⟩
theorem iz:bc ["_law_bag_here","_law_block","_law_columns","_law_things","_law_grid_here","_law_thing","_law_at","_law_to"] ["_law_bag_here","_law_block","_law_columns","_law_things"] (ai<|dk 61):=fx
def pA(K:ND)(a:Ad):G:=
  aB (pB 4<|gc 1 [2] (bP cQ<|ae (aa 1)<|ak) (ej 0) (λ_=>M.f5 M3)<|ng<|yZ (ae (fC<|.n 0)<|ak)<|aa 1)
  (aB (pC (bP cQ<|ae (aa 3)<|ak) (uY 5) (aB (cS 6<|bC fS<|ae (aa 0)<|ae (aa 1)<|ak)
  (aB (cS 7<|bC fS<|ae (aa 0)<|ae (aa 2)<|ak)
  (ox 4 (aa 6) (aa 7)<|f2 lP (f2 i4 (f2 i4 (aa 4)<|aa 6)<|aa 7)<|fC<|.n 1))))
  (gv<|aa 4))
def lw(K:ND)(a:Ad):a0e->M D:=fW 8<|pA K a
theorem j6(N:p6 K mg a):FB P w K mg ac 3 "_law_grid" a.Cp a.Cq ["_law_bag_here","_law_block","_law_columns","_law_things"] 4 (lw K a):=⟨by
 unfold lw
 exact pE (k:=2) 4 8 (pA K a) (N.1 43).F iz rfl rfl λd A G s H E c=>ag (JD (i:=4) iz.nd rfl (by first|exact PP rfl|exact QT rfl) rfl (hE ["_law_row","_law_columns"] ["_law_row"] [2]) (bN (by rfl) N.D7 (c_ (vv 1))) (λM C e s H=>⟨(d4 0 eo),aQ,λD=>aM rfl (LY (c_<|ah)<|vv 1) rfl⟩) aw ax (λD=>n6))
   (ag (cm aX<|bT de rfl (bN (by rfl) N.D7<|c_<|vv 3) (d4 5 iz.nd) (ag (aP<|eB 6 iz.nd<|vc (aW N) c<|eg (vv 0)<|vv 1)
   (ag (aP<|eB 7 iz.nd<|vc (aW N) c<|eg (vv 0)<|vv 2)
   (aj<|mr<|cf (aY bo cD (bB aI bD (bB aI bD (vv 4)<|vv 6)<|vv 7)<|ah)<|db (gn dF (pv 4) (vv 6) (λ_ _=>rfl)) (vv 7) bZ))))
   (aj<|aG<|aA<|vv 4)),(N.1 43).m,(N.1 43).F.kp,(N.1 43).b⟩
theorem iW:bc ["_law_bag_here","_law_way","_law_block","_law_columns"] ["_law_bag_here"] (ai<|dk 62):=fx
def jY(K:ND)(a:Ad):QF K a 4 "_law_small" a.Cr a.Cs ["_law_bag_here"] 1:=⟨_,λN=>by
 exact hO 4 (N.1 44) iW λc A w s H E b=>ag (aP<|eB 1 iW.nd<|vc (aW N) b<|eg (vv 0)<|ah)
   (ag (bv (aL (cb b) cN (vv 1)<|ah) (aj<|aG<|aA<|vc (j6 N) b<|s9 (vv 0) (ah) (ah)<|vc (aW N) b<|eg (vv 0)<|ah)<|aV)
   (ag (bv (aL (cb b) cN (vv 1)<|ah) (aj<|aG<|aA<|vc (j6 N) b<|s9 (vv 0) (ah) (aY bo cD (ah)<|vc (aW N) b<|eg (vv 0)<|ah)<|vc (aW N) b<|eg (vv 0)<|ah)<|aV)
   (ag (bv (aL (cb b) cN (vv 1)<|ah) (aj<|aG<|aA<|vc (j6 N) b<|s9 (vv 0) (aY bo cD (ah)<|vc (aW N) b<|eg (vv 0)<|ah) (ah)<|vc (aW N) b<|eg (vv 0)<|ah)<|aV)
   (ag (aP<|eB 2 iW.nd<|aY bo cD (ah)<|vc (aW N) b<|eg (vv 0)<|ah)
   (ag (aP<|eB 3 iW.nd<|aY bo cD (ah)<|vc (aW N) b<|eg (vv 0)<|ah)
   (aj<|aG<|aA<|vc (j6 N) b<|s9 (vv 0) (vv 2) (vv 3)<|vc (aW N) b<|eg (vv 0)<|ah))))))⟩
theorem wY:bc ["_law_block"] ["_law_block"] (ai<|dk 63):=fx
def qr(K:ND)(a:Ad):QF K a 2 "_law_turned" a.Ct a.Cu ["_law_block"] 1:=⟨_,λN=>by
 exact hO 1 (N.1 45) wY λb A w s H E d=>aj<|aG<|aA<|bA rfl (hE ["_law_to","_law_block"] ["_law_to"] [0]) (bN (by rfl) N.D7<|c_<|bG N.D3<|c_<|bB aI bD (vv 0)<|ah) (λG C c s H=>⟨(d4 0 eo),aQ,λD=>aM rfl (bA rfl (hE ["_law_row","_law_to"] ["_law_row"] [0]) (bj<|vv 1) (λG C c s H=>⟨(d4 0 eo),aQ,λD=>aM rfl (bB aI bD (vv 0)<|vv 1) rfl⟩) aw ax (λD=>aS)) rfl⟩) aw ax (λD=>aS)⟩
theorem vy:bc ["_law_grid_here"] ["_law_grid_here"] (ai<|dk 64):=fx
def oP(K:ND)(a:Ad):QF K a 2 "_law_rowsums" a.Cv a.Cw ["_law_grid_here"] 1:=⟨_,λN=>by
 exact hO 1 (N.1 46) vy λb A w s H E c=>aj<|aG<|aA<|bA rfl (hE ["_law_row"] ["_law_row"] []) (bj<|vv 0) (λG C d s H=>⟨(d4 0 eo),aQ,λD=>aM rfl (dY N.Ea<|c_<|vv 0) rfl⟩) aw ax (λD=>aS)⟩
theorem qf:bc ["_law_grid_here"] ["_law_grid_here"] (ai<|dk 65):=fx
def kF(K:ND)(a:Ad):QF K a 3 "_law_columnsums" a.Cy a.Cz ["_law_grid_here"] 1:=⟨_,λN=>by
 exact hO 1 (N.1 47) qf λb A w s H E c=>aj<|aG<|aA<|bA rfl (hE ["_law_column"] ["_law_column"] []) (bj<|vc ((qr K a).2 N) c<|c_<|vv 0) (λG C d s H=>⟨(d4 0 eo),aQ,λD=>aM rfl (dY N.Ea<|c_<|vv 0) rfl⟩) aw ax (λD=>aS)⟩
theorem BC:bc ["_law_block","_law_columns"] ["_law_block","_law_columns"] (ai<|dk 66):=fx
def k8(K:ND)(a:Ad):QF K a 2 "_law_free" a.C0 a.C2 ["_law_block","_law_columns"] 2:=⟨_,λN=>by
 exact hO 2 (N.1 48) BC λb A w s H E d=>aj<|aG<|aA<|bA rfl (hE ["_law_at","_law_columns"] ["_law_at"] [1]) (bN (by rfl) N.D7<|c_<|vv 0) (λG C c s H=>⟨(d4 0 eo),aQ,λD=>aM rfl (bA rfl (hE ["_law_to"] ["_law_to"] []) (bN (by rfl) N.D7<|c_<|vv 1) (λG C c s H=>⟨(d4 0 eo),aQ,λD=>aM rfl (dI<|eg (ah)<|ah) rfl⟩) aw ax (λD=>aS)) rfl⟩) aw ax (λD=>aS)⟩
theorem oI:bc ["_law_block"] ["_law_block"] (ai<|dk 67):=fx
def qt(K:ND)(a:Ad):QF K a 2 "_law_copied" a.C3 a.C4 ["_law_block"] 1:=⟨_,λN=>by
 exact hO 1 (N.1 49) oI λb A w s H E c=>aj<|aG<|aA<|bA rfl (hE ["_law_row"] ["_law_row"] []) (bj<|vv 0) (λG C d s H=>⟨(d4 0 eo),aQ,λD=>aM rfl (cr bE fJ (by rfl) N.D4 Boot.«list»<|c_<|vv 0) rfl⟩) aw ax (λD=>aS)⟩
def oS(K:ND)(a:Ad):G:=
  iC (gc 1 [] (bM<|aa 0) (ej 0) (λ_=>M.f5 M3)<|ng<|qE n9<|ae (aa 0)<|ak)
def kj(K:ND)(a:Ad):a0e->M a0o:=gY 1<|oS K a
theorem vQ(N:p6 K mg a):d_ P w K mg ac (e_ P w) 2 a.C3 a.C4 ["_law_block"] (Q_ K 1<|kj K a):=by
 unfold kj;exact rX (k:=1) 1 1 (oS K a) (N.1 49).F oI rfl rfl λb A G s H E c=>aj<|nR<|aA<|wo rfl (hE ["_law_row"] ["_law_row"] []) (bj<|vv 0) (λM C d s H=>⟨(d4 0 eo),aQ,λD=>aM rfl (vR bE xS (by rfl) N.D4 Boot.«list»<|c_<|vv 0) rfl⟩) aw ax (λD=>n6)
theorem gs:bc ["_law_limits","_law_block","_law_columns","_law_row","_law_duo"] ["_law_limits","_law_block","_law_columns"] (ai<|dk 68):=fx
def dJ(K:ND)(a:Ad):QF K a 2 "_law_good_bounds" a.C5 a.C6 ["_law_limits","_law_block","_law_columns"] 3:=⟨_,λN=>by
 exact hO 5 (N.1 50) gs λc A w s H E b=>ag (bv (aL qA uM (vv 0)<|nJ) (aj<|aG<|aA<|kY)<|aV)
   (ag (bv (aL (fF b) gU (bG N.D3<|c_<|vv 0)<|vv 1) (aj<|aG<|aA<|kY)<|aV)
   (ag (cm aX<|bT de rfl (bj<|vv 0) (d4 3 gs.nd) (ag (bv (aL (fF b) gU (bG N.D3<|c_<|vv 3)<|vv 2) (aj<|aG<|aA<|kY)<|aV)
   (aj<|cm aX<|bT de rfl (bj<|vv 3) (d4 4 gs.nd)<|aj<|bv (fm<|kg (aL gN jD (bB aI bD (vv 4)<|ah)<|ah)<|kg (aL gN jD (bB aI bD (vv 4)<|ah)<|bB aI bD (vv 4)<|ah)<|kX<|aL fR ia (bB aI bD (vv 4)<|ah)<|ah) (aj<|aG<|aA<|kY)<|aV)))
   (aj<|aG<|aA<|kY)))⟩
theorem c8:bc ["_law_bag_here","_law_limits","_law_told","_law_at","_law_to","_law_way"] ["_law_bag_here","_law_limits"] (ai<|dk 69):=fx
def ff(K:ND)(a:Ad):QF K a 3 "_law_wild_bounds" a.C7 a.C8 ["_law_bag_here","_law_limits"] 2:=⟨_,λN=>by
 exact hO 6 (N.1 51) c8 λd A w s H E c=>ag (yR<|eB 2 c8.nd<|DF (vQ N) (c.mono<|by decide) (by rfl) (N.1 49).m (N.1 49).F.kp (N.1 49).b qz (c_<|vv 1)<|aR o0)
   (ag (vA<|eB 3 c8.nd<|vc (aW N) c<|eg (vv 0)<|bG N.D3<|c_<|vv 2)
   (ag (vA<|eB 4 c8.nd<|vc (aW N) c<|eg (vv 0)<|bG N.D3<|c_<|bB aI bD (vv 2)<|ah)
   (ag (aP<|eB 5 c8.nd<|vc (aW N) c<|eg (vv 0)<|ah)
   (ag (bv (aL (cb c) cN (vv 5)<|ah) (aj<|aG<|aA<|nJ)<|aV)
   (ag (bv (aL (cb c) cN (vv 5)<|ah) (aj<|aG<|aA<|aY bo cD (vv 2)<|jN<|c_<|cr bE fJ (by rfl) N.D4 Boot.«list»<|c_<|bB aI bD (vv 2)<|ah)<|aV)
   (ag (bv (aL (cb c) cN (vv 5)<|ah) (aj<|aG<|aA<|rA (vv 2) (qD)<|qC<|oX jq lA<|ah)<|aV)
   (ag (bv (aL (cb c) cN (vv 5)<|ah) (aj<|BF<|cf (LZ (bB aI bD (vv 2)<|vv 3)<|jN<|c_<|dI<|eg (ah)<|ah)<|db (pv 2) (vv 3) bZ)<|aV)
   (ag (bv (aL (cb c) cN (vv 5)<|ah) (aj<|BF<|cf (Ir (bB aI bD (vv 2)<|vv 3) (qD)<|qC<|oX jq lA<|ah)<|db (pv 2) (vv 3) bZ)<|aV)
   (ag (bv (aL (cb c) cN (vv 5)<|ah) (aj<|mr<|cf (dI<|eg (aY dg eJ (aY dg eJ (ah)<|ah)<|vc (aW N) c<|eg (vv 0)<|ah)<|ah)<|db (gn dF (pv 2) (vv 3) (λ_ _=>rfl)) (vv 4) bZ)<|aV)
   (ag (bv (aL (cb c) cN (vv 5)<|ah) (aj<|mr<|cf (dI<|eg (ah)<|aY dg eJ (ah)<|vc (aW N) c<|eg (vv 0)<|ah)<|db (gn dF (pv 2) (vv 3) (λ_ _=>rfl)) (vv 4) bZ)<|aV)
   (ag (bv (aL (cb c) cN (vv 5)<|ah) (aj<|mr<|cf (dI<|eg (ah)<|aY bo cD (ah)<|vc (aW N) c<|eg (vv 0)<|ah)<|db (gn dF (pv 2) (vv 3) (λ_ _=>rfl)) (vv 4) bZ)<|aV)
   (aj<|aG<|aA<|vv 2))))))))))))⟩
theorem rJ:bc ["_law_rowsums_here","_law_columnsums_here"] ["_law_rowsums_here","_law_columnsums_here"] (ai<|dk 70):=fx
def dD(K:ND)(a:Ad):QF K a 2 "_law_good_sums" a.C9 a.Da ["_law_rowsums_here","_law_columnsums_here"] 2:=⟨_,λN=>by
 exact hO 2 (N.1 52) rJ λb A w s H E c=>ag (bv (fm<|kg (aL gN jD (bG N.D3<|c_<|vv 0)<|ah)<|kg (aL fR ia (bG N.D3<|c_<|vv 0)<|ah)<|kg (aL gN jD (bG N.D3<|c_<|vv 1)<|ah)<|kX<|aL fR ia (bG N.D3<|c_<|vv 1)<|ah) (aj<|aG<|aA<|kY)<|aV)
   (ag (bv (fm<|kg (aL gN jD (cu (uk rfl) CQ (by rfl) N.D6 Boot.«min»<|c_<|vv 0)<|ah)<|kX<|aL gN jD (cu (uk rfl) CQ (by rfl) N.D6 Boot.«min»<|c_<|vv 1)<|ah) (aj<|aG<|aA<|kY)<|aV)
   (aj<|aG<|aA<|Lx (iU (cb c) cN (dY N.Ea<|c_<|vv 0)<|dY N.Ea<|c_<|vv 1)<|Lu<|iU im kn (dY N.Ea<|c_<|vv 0)<|ah))⟩
theorem fP:bc ["_law_bag_here","_law_rowsums_here","_law_columnsums_here","_law_way"] ["_law_bag_here"] (ai<|dk 71):=fx
def gm(K:ND)(a:Ad):QF K a 3 "_law_wild_sums" a.Db a.Dd ["_law_bag_here"] 1:=⟨_,λN=>by
 exact hO 4 (N.1 53) fP λc A w s H E b=>ag (BG (i:=1) fP.nd rfl (by first|exact PP rfl|exact QT rfl) rfl (hE ["_law_k","_law_bag_here"] ["_law_k"] [0]) (bN (by rfl) N.D7 (c_ (vc (aW N) b (eg (vv 0) (ah))))) (λG C d s H=>⟨(d4 0 eo),aQ,λD=>aM rfl (vc (aW N) b<|eg (vv 1)<|ah) rfl⟩) aw ax (λD=>aS))
   (ag (BG (i:=2) fP.nd rfl (by first|exact PP rfl|exact QT rfl) rfl (hE ["_law_k","_law_bag_here"] ["_law_k"] [0]) (bN (by rfl) N.D7 (c_ (vc (aW N) b (eg (vv 0) (ah))))) (λG C d s H=>⟨(d4 0 eo),aQ,λD=>aM rfl (vc (aW N) b<|eg (vv 1)<|ah) rfl⟩) aw ax (λD=>aS))
   (ag (aP<|eB 3 fP.nd<|vc (aW N) b<|eg (vv 0)<|ah)
   (ag (bv (fm<|pU (aL fR ia (vv 3)<|ah)<|pT<|aL fR ia (bG N.D3<|c_<|vv 2)<|ah) (aj<|nU<|cf (aY dg eJ (aY bo cD (bB aI bD (vv 2)<|oX jq lA<|ah)<|dY N.Ea<|c_<|vv 1)<|dY N.Ea<|c_<|vv 2)<|db (pv 2) (oX jq lA<|ah) bZ)<|aV)
   (ag (bv (fm<|pU (aL (cb b) cN (vv 3)<|ah)<|pU (aL fR ia (bG N.D3<|c_<|vv 1)<|ah)<|pT<|aL fR ia (bG N.D3<|c_<|vv 2)<|ah) (ag (nU<|cf (aY dg eJ (aY bo cD (bB aI bD (vv 1)<|ah)<|ah)<|dY N.Ea<|c_<|vv 1)<|db (pv 1) (ah) bZ)
   (aj<|nU<|cf (aY dg eJ (aY bo cD (bB aI bD (vv 2)<|oX jq lA<|ah)<|ah)<|dY N.Ea<|c_<|vv 2)<|db (pv 2) (oX jq lA<|ah) bZ))<|aV)
   (ag (bv (fm<|pU (aL (cb b) cN (vv 3)<|ah)<|pT<|aL fR ia (bG N.D3<|c_<|vv 1)<|ah) (ag (nU<|cf (aY bo cD (aY bo cD (bB aI bD (vv 1)<|ah)<|bB aI bD (vv 1)<|ah)<|ah)<|db (pv 1) (ah) bZ)
   (aj<|JC<|cf (aY dg eJ (ah)<|ah)<|db (pv 1) (ah) bZ))<|aV)
   (aj<|aG<|aA<|dI<|eg (vv 1)<|vv 2))))))⟩
theorem uB:bc ["_law_rowsums_here","_law_columnsums_here","_law_limits"] ["_law_rowsums_here","_law_columnsums_here","_law_limits"] (ai<|dk 72):=fx
def fA(K:ND)(a:Ad):QF K a 3 "_law_sums_due" a.De a.Df ["_law_rowsums_here","_law_columnsums_here","_law_limits"] 3:=⟨_,λN=>by
 exact hO 3 (N.1 54) uB λc A w s H E b=>ag (bv (nM<|nK<|vc ((dD K a).2 N) b<|eg (vv 0)<|vv 1) (aj<|aG<|aA<|dQ)<|aV)
   (ag (bv (nM<|nK<|vc ((dJ K a).2 N) b<|nl (vv 2) (bG N.D3<|c_<|vv 0)<|bG N.D3<|c_<|vv 1) (aj<|aG<|aA<|dQ)<|aV)
   (aj<|aG<|aA<|dQ))⟩
theorem ck:bc ["_law_bag_here","_law_sides","_law_grid_here","_law_limits"] ["_law_bag_here"] (ai<|dk 73):=fx
def c9(K:ND)(a:Ad):QF K a 5 "_law_wild_setting" a.Dg a.Dh ["_law_bag_here"] 1:=⟨_,λN=>by
 exact hO 4 (N.1 55) ck λc A w s H E b=>ag (aP<|eB 1 ck.nd<|vc ((gm K a).2 N) b<|c_<|vv 0)
   (ag (bv (aL (cb b) cN (vc (aW N) b<|eg (vv 0)<|ah)<|ah) (ag (aP<|eB 2 ck.nd<|vc ((jY K a).2 N) b<|c_<|vv 0)
   (aj<|aP<|eB 1 ck.nd<|dI<|eg (vc ((oP K a).2 N) b<|c_<|vv 2)<|vc ((kF K a).2 N) b<|c_<|vv 2))<|aV)
   (ag (aP<|eB 3 ck.nd<|vc ((k8 K a).2 N) b<|eg (cu (m9 rfl) zj (by rfl) N.D5 Boot.«max»<|eg (ah)<|bG N.D3<|c_<|bB aI bD (vv 1)<|ah)<|cu (m9 rfl) zj (by rfl) N.D5 Boot.«max»<|eg (ah)<|bG N.D3<|c_<|bB aI bD (vv 1)<|ah)
   (ag (bv (aL (cb b) cN (vc (aW N) b<|eg (vv 0)<|ah)<|ah) (aj<|aP<|eB 3 ck.nd<|vc ((ff K a).2 N) b<|eg (vv 0)<|vv 3)<|aV)
   (aj<|aG<|aA<|dI<|nl (bB aI bD (vv 1)<|ah) (bB aI bD (vv 1)<|ah)<|vv 3))))⟩
theorem yP:bc ["_law_limits"] ["_law_limits"] (ai<|dk 74):=fx
def eC(K:ND)(a:Ad):QF K a 3 "_law_maybe" a.Di a.Dj ["_law_limits"] 1:=⟨_,λN=>by
 exact hO 1 (N.1 56) yP λb A w s H E c=>ag (bv (aL qA uM (vv 0)<|nJ) (aj<|aG<|aA<|nJ)<|aV)
   (aj<|aG<|aA<|vc ((qt K a).2 N) c<|c_<|vv 0)⟩
theorem f7:bc ["_law_rowsums_here","_law_columnsums_here","_law_limits","_law_told"] ["_law_rowsums_here","_law_columnsums_here","_law_limits"] (ai<|dk 75):=fx
def lJ(K:ND)(a:Ad):G:=
  aB (cS 3<|fC<|.q<|Nl "")
  (aB (lK (dW<|jG (cI K a).1 (ae (aJ dS<|ae (aa 0)<|ak)<|ae (aJ dS<|ae (aa 1)<|ak)<|ak) (ae (bC (eC K a).1<|ae (aa 2)<|ak)<|ak) [.kw 0])<|iQ K a.Ae (cS 3<|fC<|.q<|Nl "sums")<|iQ K a.Ah (cS 3<|fC<|.q<|Nl "bounds")<|iQ K a.Am (cS 3<|fC<|.q<|Nl "")<|YO)
  (gv<|aa 3))
def i9(K:ND)(a:Ad):a0e->M D:=fW 4<|lJ K a
theorem w5(N:p6 K mg a):FB P w K mg ac 7 "_law_fitted" a.Dl a.Dm ["_law_rowsums_here","_law_columnsums_here","_law_limits"] 3 (i9 K a):=⟨by
 unfold i9
 exact pE (k:=6) 3 4 (lJ K a) (N.1 57).F f7 rfl rfl λd A D s H E c=>ag (aP<|eB 3 f7.nd<|dQ)
   (ag (yQ rfl rfl (λE G M e=>aj<|d7<|bV<|xj ((cI K a).2 N) (c.mono<|by decide) (by rfl) (N.1 23) (N.1 22).kp (N.1 24) e (eg (cr bE fJ (by rfl) N.D4 Boot.«list»<|c_<|vv 0)<|cr bE fJ (by rfl) N.D4 Boot.«list»<|c_<|vv 1) (xh (vc ((eC K a).2 N) c<|c_<|vv 2)<|AB) (aR<|aR o0) (aR o0) rfl)<|kO (by rfl) (N.1 74) (λA=>aj<|aP<|eB 3 f7.nd<|dQ)<|kO (by rfl) (N.1 79) (λA=>aj<|aP<|eB 3 f7.nd<|dQ)<|kO (by rfl) (N.1 82) (λA=>aj<|aP<|eB 3 f7.nd<|dQ)<|zw)
   (aj<|aG<|aA<|vv 3)),(N.1 57).m,(N.1 57).F.kp,(N.1 57).b⟩
theorem ii:bc ["_law_rowsums_here","_law_columnsums_here","_law_limits","_law_told"] ["_law_rowsums_here","_law_columnsums_here","_law_limits"] (ai<|dk 76):=fx
def lI(K:ND)(a:Ad):G:=
  aB (cS 3<|fC<|.q<|Nl "")
  (aB (lK (dW<|jG (cc K a).1 (ae (aJ dS<|ae (aa 0)<|ak)<|ae (aJ dS<|ae (aa 1)<|ak)<|ae (aJ iZ<|ak)<|ak) (ae (bC (eC K a).1<|ae (aa 2)<|ak)<|ak) [.kw 0])<|iQ K a.Ae (cS 3<|fC<|.q<|Nl "sums")<|iQ K a.Ah (cS 3<|fC<|.q<|Nl "bounds")<|YO)
  (gv<|aa 3))
def i8(K:ND)(a:Ad):a0e->M D:=fW 4<|lI K a
theorem w4(N:p6 K mg a):FB P w K mg ac 8 "_law_looked" a.Do a.Dp ["_law_rowsums_here","_law_columnsums_here","_law_limits"] 3 (i8 K a):=⟨by
 unfold i8
 exact pE (k:=7) 3 4 (lI K a) (N.1 58).F ii rfl rfl λd A D s H E c=>ag (aP<|eB 3 ii.nd<|dQ)
   (ag (yQ rfl rfl (λE G M e=>aj<|d7<|bV<|xj ((cc K a).2 N) (c.mono<|by decide) (by rfl) (N.1 38) (N.1 37).kp (N.1 39) e (nl (cr bE fJ (by rfl) N.D4 Boot.«list»<|c_<|vv 0) (cr bE fJ (by rfl) N.D4 Boot.«list»<|c_<|vv 1)<|jN<|l7) (xh (vc ((eC K a).2 N) c<|c_<|vv 2)<|AB) (aR<|aR<|aR o0) (aR o0) rfl)<|kO (by rfl) (N.1 74) (λA=>aj<|aP<|eB 3 ii.nd<|dQ)<|kO (by rfl) (N.1 79) (λA=>aj<|aP<|eB 3 ii.nd<|dQ)<|zw)
   (aj<|aG<|aA<|vv 3)),(N.1 58).m,(N.1 58).F.kp,(N.1 58).b⟩
theorem l6:bc ["self","kind","rowsums","columnsums","place"] ["self","kind","rowsums","columnsums","place"] (ai<|eW (dk 57) 0):=fx
def qM(K:ND)(a:Ad):IP:=
  jc (dW<|bC (da K a).1<|ae (aa 2)<|ae (aa 3)<|ak)
  (jc (ry (fB<|f2 (D2 M3) (aa 1)<|fC<|.t [.q<|Nl "rare",.q<|Nl "square",.q<|Nl "power",.q<|Nl "off",.q<|Nl "most",.q<|Nl "least"]) (DG)<|gNil)
  (jc (ry (fB<|f2 (D2 M5) (aa 1)<|fC<|.t [.q<|Nl "most",.q<|Nl "least"]) (dW<|bC (mD K a).1<|ae (f2 i4 (aa 4)<|fC<|.n 0)<|ae (f2 i4 (aa 4)<|fC<|.n 1)<|ae (aJ cW<|ae (aa 2)<|ak)<|ae (aJ cW<|ae (aa 3)<|ak)<|ak)<|gNil)
  (jd (aa 1)
  (jd (aJ dS<|ae (aa 2)<|ak)
  (jd (aJ dS<|ae (aa 3)<|ak)
  (jd (aa 4)
  (jd (bC (cZ K a).1<|ae (bY 2 [3] (bM<|aa 2) (ej 0) (λ_=>M.f5 M3)<|uy (bM<|aa 2) (ej 1) (fB<|f2 (L_) (f2 iN (aa 0)<|aa 1)<|fC<|.n 0)<|hL<|f2 iN (aa 0)<|aa 1)<|ak)
  (G6))))))))
def i6(K:ND)(a:Ad):a0e->M a0e:=ou 5<|qM K a
theorem wZ(N:p6 K mg a):d_ P w K mg ac (e_ P w) 5 a.Dq a.Dr ["self","kind","rowsums","columnsums","place"] (YJ K a.Ak ["kind","row_list","column_list","place","even"] 4<|i6 K a):=by
 unfold i6
 exact IS (k:=4) 4 5 (qM K a) (N.1 59) l6 rfl rfl λc A G s H E b=>zu (d7<|bV<|vc ((da K a).2 N) b<|eg (vv 2)<|vv 3)
   (zu (bv (aL mH (v9 (neg:=M3)) (vv 1)<|xi<|N.1 1) (aj<|kB)<|aV)
   (zu (bv (aL mI (v9 (neg:=M5)) (vv 1)<|xi<|N.1 0) (aj<|d7<|bV<|vc ((mD K a).2 N) b<|s9 (bB aI bD (vv 4)<|ah) (bB aI bD (vv 4)<|ah) (bG N.D3<|c_<|vv 2)<|bG N.D3<|c_<|vv 3)<|aV)
   (qP (N.1 62) (N.1 66) (by decide) (by decide) (mE (pv 0) (vv 1) rfl)
   (qP (N.1 62) (N.1 68) (by decide) (by decide) (mE (pv 0) (cr bE fJ (by rfl) N.D4 Boot.«list»<|c_<|vv 2) rfl)
   (qP (N.1 62) (N.1 64) (by decide) (by decide) (mE (pv 0) (cr bE fJ (by rfl) N.D4 Boot.«list»<|c_<|vv 3) rfl)
   (qP (N.1 62) (N.1 67) (by decide) (by decide) (mE (pv 0) (vv 4) rfl)
   (qP (N.1 62) (N.1 65) (by decide) (by decide) (mE (pv 0) (vc ((cZ K a).2 N) b<|c_<|bA rfl (hE ["across","down","columnsums"] ["across","down"] [3]) (bj<|vv 2) (λM C d s H=>⟨(d4 0 eo),aQ,λD=>nX rfl rfl rfl (bj<|vv 2) (d4 1 eo) (qV<|aL fR ia (aY kI qJ (vv 0)<|vv 1)<|ah)<|aM rfl (aY kI qJ (vv 0)<|vv 1) rfl⟩) aw ax (λD=>xU aw ax<|aS)) rfl)
   (MH))))))))
theorem ft:bc ["_law_script","_law_bag_here","_law_rowsums_here","_law_columnsums_here","_law_limits","_law_due","_law_wide","_law_one","_law_told"] ["_law_script"] (ai qg):=fx
def qQ(K:ND)(a:Ad):G:=
  aB (wt (bC (c9 K a).1<|ae (aa 1)<|ak)<|sgT<|vp (uY 2)<|vp (uY 3)<|vp (uY 4) EQ)
  (aB (cS 5<|bC (fA K a).1<|ae (aa 2)<|ae (aa 3)<|ae (aa 4)<|ak)
  (aB (ry (fB<|f2 (gR) (bC (i9 K a)<|ae (aa 2)<|ae (aa 3)<|ae (aa 4)<|ak)<|aa 5) (gv<|fC<|.c M5)<|gNil)
  (aB (cS 6<|fC<|.n 1)
  (aB (pC (bM<|aa 2) (uY 7)<|cS 6<|f2 iN (aa 6)<|f2 lP (aa 7)<|fC<|.n 1)
  (aB (ry (je (jF (fB<|f2 (gR) (aa 5)<|fC<|.q<|Nl "")<|fB<|f2 (C_) (aa 6)<|fC<|.n 500)<|fB<|f2 (gR) (bC (i8 K a)<|ae (aa 2)<|ae (aa 3)<|ae (aa 4)<|ak)<|aa 5) (gv<|fC<|.c M5)<|gNil)
  (aB (cS 8<|fC<|.q<|Nl "")
  (aB (lK (dW<|oz a.Ak ["kind","row_list","column_list","place","even"] (i6 K a) (ae (fC<|.q<|Nl "off")<|ae (aJ dS<|ae (aa 2)<|ak)<|ae (aJ dS<|ae (aa 3)<|ak)<|ak) [.t [.n 0,.n 0]])<|iQ K a.Ae (cS 8<|fC<|.q<|Nl "sums")<|YO)
  (gv<|f2 (ib) (f2 (ib) (aa 8)<|fC<|.q<|Nl "sums")<|zG<|bC (dD K a).1<|ae (aa 2)<|ae (aa 3)<|ak))))))))
theorem Kf{f:M6}{p:NL}(F:hV K "law" "law" qg f p)(N:p6 K mg a)(T:∀D:Bg,D.ok->∃d,qQ K a [M0,My<|.h .bag,M0,M0,M0,M0,M0,M0,M0] D=My (.rt<|.c M3,d)):
  d_ P w K mg ac (e_ P w) 9 f p ["_law_script"] (GJ K):=by
 refine F.okE (k:=8) ft (λM H Q E h=>?_) (λg A G s H M Q E c h=>?_)
 .obtain⟨a,ns,rfl,_⟩:=h
  rfl
 .obtain⟨a1,ns,rfl,t,q,k⟩:=h
  have rest:PSs (dz (e_ P w) P w K mg ac ["_law_script","_law_bag_here","_law_rowsums_here","_law_columnsums_here","_law_limits","_law_due","_law_wide","_law_one","_law_told"] "law" (ai qg) f g A G s H E) (cB qg).tail (tG K H (qQ K a) (λ_=>E)):=ag (uI (qG (eG aX<|eG aX<|eG aX n5)<|eE<|eE<|eE k7)<|cf (vc ((c9 K a).2 N) c<|c_<|vv 1)<|cJ rfl<|aK (d4 2 ft.nd)<|aK (d4 3 ft.nd)<|aK (d4 4 ft.nd) b6)
   (ag (aP<|eB 5 ft.nd<|vc ((fA K a).2 N) c<|nl (vv 2) (vv 3)<|vv 4)
   (ag (bv (aL (fF c) gU (vc (w5 N) c<|nl (vv 2) (vv 3)<|vv 4)<|vv 5) (aj<|aG<|aA<|kY)<|aV)
   (ag (aP<|eB 6 ft.nd<|ah)
   (ag (cm aX<|bT de rfl (bj<|vv 2) (d4 7 ft.nd)<|aj<|aP<|eB 6 ft.nd<|aY kI qJ (vv 6)<|aY bo cD (vv 7)<|ah)
   (ag (bv (fm<|pU (fm<|kg (aL (fF c) gU (vv 5)<|dQ)<|kX<|aL im kn (vv 6)<|ah)<|pT<|aL (fF c) gU (vc (w4 N) c<|nl (vv 2) (vv 3)<|vv 4)<|vv 5) (aj<|aG<|aA<|kY)<|aV)
   (ag (aP<|eB 8 ft.nd<|dQ)
   (ag (yQ rfl rfl (λE V x u=>aj<|d7<|bV<|Jf (N.1 60) (wZ N) (c.mono<|by decide) (by rfl) (N.1 63) (N.1 61) u (nl (dQ) (cr bE fJ (by rfl) N.D4 Boot.«list»<|c_<|vv 2)<|cr bE fJ (by rfl) N.D4 Boot.«list»<|c_<|vv 3) (λS D r d h=>by rw[(aR<|aR<|aR o0) S D r d h];rfl))<|kO (by rfl) (N.1 74) (λA=>aj<|aP<|eB 8 ft.nd<|dQ)<|zw)
   (aj<|aG<|aA<|iU (cb c) cN (iU (cb c) cN (vv 8)<|dQ)<|Lw<|vc ((dD K a).2 N) c<|eg (vv 2)<|vv 3))))))))
  refine⟨_,cR (rest:=(cB qg).tail) (eB 1 ft.nd<|kH (Fg N) (c.mono<|by decide) rfl (N.1 41).m (N.1 41).F.kp (N.1 41).b .nil gp<|b9 (pv 0) f9) rest,?_⟩;refine⟨_,rfl,a1,ns,rfl,t,λb l z i j y B=>?_⟩;obtain⟨D,ok,o⟩:=IZ (K:=K) (a:=a1) (n:=["_law_script","_law_bag_here","_law_rowsums_here","_law_columnsums_here","_law_limits","_law_due","_law_wide","_law_one","_law_told"].length-2) B i j y;obtain⟨d,e⟩:=T D ok;exact⟨_,_,_,D,_,d,o,e,λv J C s fr I=>by cases I.bl;exact k C⟩
end
end Law
namespace L2.Pu
noncomputable def dt:Nat->Nat
 |0=>1
 |n+1=>dt n*(n+1)
noncomputable def pr(l:a0a):Nat:=l.foldr (·*·) 1
theorem JT:pr []=1:=rfl
theorem BQ(l m:a0a):pr (l++m)=pr l*pr m:=by
 induction l with
 |nil=>simp[pr]
 |cons x l w=>
  show x*pr (l++m)=x*pr l*pr m;rw[w,Wl]
theorem HE{w:Type}{l:List w}{i:Nat}{x:w}(h:l[i]?=My x):l.take (i+1)=l.take i++[x]:=by
 rw[List.take_succ,h];rfl
theorem nV{w:Type}{f:w->Nat}{l:List w}{i:Nat}{x:w}(h:l[i]?=My x):pr ((l.take<|i+1).map f)=pr ((l.take i).map f)*f x:=by
 rw[HE h,Of,BQ];simp[pr]
theorem rZ:∀n,0<dt n
 |0=>by decide
 |n+1=>Nat.mul_pos (rZ n) (by lia)
theorem F6:∀{n m:Nat},n<=m->dt n<=dt m:=by
 intro n m h
 induction h with
 |refl=>exact Nh _
 |step h w=>exact NJ w (TC _<|by lia)
theorem MP:dt 40<=2^160:=by decide +kernel
theorem wz{n:Nat}(h:n<=40):dt n<=2^160:=NJ (F6 h) MP
theorem BP{l:a0a}(h:∀x∈l,0<x):0<pr l:=by
 induction l with
 |nil=>decide
 |cons x l w=>exact Nat.mul_pos (h x M7)<|w λy D=>h y<|M2 _ D
theorem oi{l:a0a}{x:Nat}(h:x∈l):x<=l.sum:=by
 induction l with
 |nil=>cases h
 |cons y l w=>
  rw[NZ];rcases Nn.mp h with rfl|h
  .lia
  .have:=w h;lia
theorem mQ{t m:Nat}(h:t<=2^m)(w:m<=999):t<2^1000:=NT (NJ h<|So (by decide) w) (Nat.pow_lt_pow_right (by decide)<|by decide)
theorem Fm{t n:Nat}(a:t<2^1000)(b:n<2^1000):iN (.n (t:Int)) (.n (n:Int))=My (.n ((t*n:Nat):Int)):=by
 have c:c7 (t:Int)=M3:=NC (by rw[RA];exact a);have d:c7 (n:Int)=M3:=NC (by rw[RA];exact b);show(if(c7 (t:Int)&&c7 (n:Int))=M3 then _ else _)=_;simp only[c,d,Ro,Ol];rfl
theorem MO{t g:Nat}(d:0<g)(a:g<2^1000):uV (.n (t:Int)) (.n (g:Int))=My (.n ((t/g:Nat):Int)):=by
 have b:decide ((0:Int)<(g:Int))=M3:=NC (by lia);have c:decide (((g:Int)).natAbs.log2<9000)=M3:=NC (by
  rw[RA];have:=(Vw (n:=g) (k:=1000)<|by lia).mpr a;lia)
 show(if(decide ((0:Int)<(g:Int))&&decide (((g:Int)).natAbs.log2<9000))=M3 then _ else _)=_;simp only[b,c,Ro,Ol];rfl
theorem kM(l:a0a):(nI l).sum=((l.sum:Nat):Int):=by
 induction l with
 |nil=>rfl
 |cons x l w=>
  show(x:Int)+(nI l).sum=_;rw[w,NZ,Sv]
theorem za{l:a0a}{i:Nat}{d:D}(h:((nI l).map D.n)[i]?=My d):∃n,l[i]?=My n/\d= .n (n:Int):=by
 obtain⟨x,w,rfl⟩:=cK h;obtain⟨n,E,rfl⟩:=cK w;exact⟨n,E,rfl⟩
theorem CD(l:a0a):Uc ((nI l).map D.n)=Uc l:=by rw[MZ,MZ]
def Sq(l:a0a)(d:D):Prop:=d=nL l\/d= .t ((nI l).map D.n)
theorem Sq.seq{l:a0a}{d:D}(h:Sq l d):gi d=My ((nI l).map D.n):=by rcases h with rfl|rfl<;>rfl
theorem Zp{i j:Int}(a:0<=i)(b:i<=10^9)(c:0<=j)(d:j<=10^9):o8 [.n i,.n j]=My (bi i (j-i).toNat):=by
 have q:(decide (-(2^62)<=i)&&decide (i<2^62)&&decide (-(2^62)<=j)&&decide (j<2^62))=M3:=by
  simp only[NN,NR];lia
 show(if(decide (-(2^62)<=i)&&decide (i<2^62)&&decide (-(2^62)<=j)&&decide (j<2^62))=M3 then My (bi i (j-i).toNat)else M0)=_;rw[Ng q]
theorem rg2{n:Nat}(h:n<=1000):o8 [.n 2,.n<|(n:Int)+1]=My (bi 2<|n-1):=by
 rw[Zp (by decide) (by decide) (by lia) (by lia),show((n:Int)+1-2).toNat=n-1 by lia]
end L2.Pu
namespace L2.Pu
open L2.Hs
def lF(k:a0b):LI->LI
 |[]=>[k]
 |x::l=>if dm k x=M3 then k::x::l else if k=x then x::l else x::lF k l
theorem ll{k y:a0b}:∀{l:LI},y∈lF k l↔y=k\/y∈l
 |[]=>by simp[lF]
 |x::l=>by
  unfold lF;split
  .simp
  .split
   .rename_i h
    subst h;simp
   .rw[Nn,ll,Nn]
    exact or_left_comm
theorem x6{k:a0b}:∀{l:LI},Up l->Up (lF k l)
 |[],_=>by unfold lF;exact O8 _ _
 |x::l,h=>by
  obtain⟨a,b⟩:=Qo.mp h;unfold lF;split
  .rename_i q
   refine Qo.mpr ⟨λy hy=>?_,h⟩;rcases Nn.mp hy with rfl|hy
   .exact q
   .exact qI q (a y hy)
  .split
   .exact h
   .rename_i q1 q2
    refine Qo.mpr ⟨λy hy=>?_,x6 b⟩;rcases ll.mp hy with rfl|hy
    .cases q:dm x y with
     |true=>rfl
     |false=>exact NH (oh (by simpa using q1) q) q2
    .exact a y hy
def mj(w:LI):LI:=w.foldr lF []
theorem nP:∀w,Up<|mj w
 |[]=> .nil
 |k::w=>x6<|nP w
theorem fq{y:a0b}:∀{w:LI},y∈mj w↔y∈w
 |[]=>by simp[mj]
 |k::w=>by
  show y∈lF k (mj w)↔_;rw[ll,fq,Nn]
theorem GG{l:LI}(h:Up l):l.Nodup:=h.imp λ{a b} q e=>by
 subst e;rw[ji]at q;cases q
theorem Jz{w:LI}(b:∀k∈w,1<=Uc k){m:LI}(D:Uc m<76)(c:∀k∈w,k∈m):k6 (w.map kc)=My (.l<|(mj w).map kc):=by
 refine EM ⟨nP w,NT (mK (GG<|nP w) λx E=>c x<|fq.mp E) D,λk a=>⟨b k<|fq.mp a,NE.mpr ⟨k,fq.mp a,rfl⟩⟩,λd G=>?_⟩;obtain⟨k,a,rfl⟩:=NE.mp G;exact⟨k,fq.mpr a,rfl⟩
end L2.Pu
namespace L2.Nt
noncomputable def sm{w:Type}(l:List w)(f:w->Nat):Nat:=(l.map f).sum
section
variable{d e:Type}
theorem qa{f:d->Nat}:sm [] f=0:=rfl
theorem b4{a:d}{l:List d}{f:d->Nat}:sm (a::l) f=f a+sm l f:=by unfold sm;rw[Nv,NZ]
theorem ml{l m:List d}{f:d->Nat}:sm (l++m) f=sm l f+sm m f:=by unfold sm;rw[Of,Vt]
theorem eD{f g:d->Nat}:∀{l:List d},(∀a∈l,f a=g a)->sm l f=sm l g
 |[],_=>rfl
 |a::l,h=>by rw[b4,b4,h a M7,eD λb c=>h b<|M2 a c]
theorem AX{g:e->d}{f:d->Nat}{l:List e}:sm (l.map g) f=sm l λb=>f (g b):=by unfold sm;rw[No];rfl
theorem xu{g:e->List d}{f:d->Nat}:∀{l:List e},sm (l.flatMap g) f=sm l λb=>sm (g b) f
 |[]=>rfl
 |b::l=>by rw[Pj,ml,b4,xu]
theorem xt:∀{l:List d},(sm l λ_=>0)=0
 |[]=>rfl
 |a::l=>by rw[b4,xt]
theorem AY{f g:d->Nat}:∀{l:List d},(sm l λa=>f a+g a)=sm l f+sm l g
 |[]=>rfl
 |a::l=>by rw[b4,b4,b4,AY];lia
theorem qb{c:Nat}{f:d->Nat}:∀{l:List d},(sm l λa=>c*f a)=c*sm l f
 |[]=>rfl
 |a::l=>by rw[b4,b4,qb,Nat.mul_add]
theorem GL{f:Nat->Nat}{m:Nat}:∀{n:Nat},m<=n->sm (Nj<|m+1) f=sm (Nj<|n+1) λa=>if a<=m then f a else 0
 |0,h=>by
  obtain rfl:m=0:=by lia
  exact eD λa d=>by
   have:=NQ.mp d;rw[Ng<|by lia]
 |n+1,h=>by
  rcases U4 m (n+1)with q|q
  .rw[PR (n:=n+1),ml,<-GL (by lia:m<=n),b4,qa,Nf<|by lia]
   lia
  .obtain rfl:m=n+1:=by lia
   exact eD λa d=>by
    have:=NQ.mp d;rw[Ng<|by lia]
noncomputable def bQ:a0a->Nat->a0O
 |[],0=>[[]]
 |[],_+1=>[]
 |x::r,c=>(Nj<|Q2 x c+1).flatMap λa=>(bQ r<|c-a).map (a::·)
noncomputable def less(r v:a0a):a0a:=SI (·-·) r v
theorem iu{x c:Nat}{r:a0a}{f:a0a->Nat}:sm (bQ (x::r) c) f=sm (Nj<|Q2 x c+1) λa=>sm (bQ r<|c-a) λv=>f (a::v):=by
 show sm ((Nj<|Q2 x c+1).flatMap λa=>(bQ r<|c-a).map (a::·)) f=_;rw[xu];exact eD λa _=>AX
end
end L2.Nt
namespace L2.Nt
open L2.Pu
noncomputable def ch:Nat->Nat->Nat
 |_,0=>1
 |0,_+1=>0
 |n+1,k+1=>ch n k+ch n (k+1)
theorem q9:∀{n k:Nat},n<k->ch n k=0
 |0,k+1,_=>by simp[ch]
 |n+1,k+1,h=>by
  show ch n k+ch n (k+1)=0;rw[q9 (by lia),q9<|by lia]
theorem sB(n:Nat):ch n 0=1:=by cases n<;>rfl
theorem yk:∀n,ch n n=1
 |0=>rfl
 |n+1=>by
  show ch n n+ch n (n+1)=1;rw[yk n,q9<|by lia]
theorem zE(n:Nat):dt (n+1)=(n+1)*dt n:=SM (dt n)<|n+1
theorem m7:∀n a b:Nat,a+b=n->ch (a+b) a*(dt a*dt b)=dt (a+b)
 |n,0,b,_=>by rw[sB];simp[dt]
 |n,a+1,0,_=>by rw[Nat.add_zero,yk];simp[dt]
 |0,a+1,b+1,h=>by lia
 |n+1,a+1,b+1,h=>by
  have c:=m7 n a (b+1) (by lia);have i2:=m7 n (a+1) b (by lia);have d:a+1+(b+1)=(a+b+1)+1:=by lia
  have e:a+(b+1)=a+b+1:=by lia
  have f:a+1+b=a+b+1:=by lia
  rw[e]at c;rw[f]at i2;rw[d];show(ch (a+b+1) a+ch (a+b+1) (a+1))*(dt (a+1)*dt (b+1))=dt (a+b+1+1);rw[zE<|a+b+1,Nat.add_mul];have g:ch (a+b+1) a*(dt (a+1)*dt (b+1))=(a+1)*dt (a+b+1):=by
   rw[<-c,zE a];simp only[Wl,Nat.mul_left_comm,SM]
  have i:ch (a+b+1) (a+1)*(dt (a+1)*dt (b+1))=(b+1)*dt (a+b+1):=by
   rw[<-i2,zE b];simp only[Wl,Nat.mul_left_comm,SM]
  grind
theorem nQ{f:Nat->Nat}{n:Nat}:sm (Nj<|n+1) f=f 0+sm (Nj n) λa=>f (a+1):=by
 rw[WA,b4,AX]
theorem EB:∀(x y c:Nat),(sm (Nj<|c+1) λa=>ch x a*ch y (c-a))=ch (x+y) c
 |0,y,c=>by
  rw[nQ,sB,Nat.one_mul,Nat.sub_zero,Px];have:(sm (Nj c) λa=>ch 0 (a+1)*ch y (c-(a+1)))=0:=(eD λa _=>by rw[q9 (by lia),Nat.zero_mul]).trans xt;rw[this];rfl
 |x+1,y,0=>by rw[nQ];simp[sB,qa]
 |x+1,y,c+1=>by
  have b:=EB x y<|c+1;have i2:=EB x y c;rw[nQ]at b;rw[nQ];have e:(sm (Nj<|c+1) λa=>ch (x+1) (a+1)*ch y (c+1-(a+1)))=(sm (Nj<|c+1) λa=>ch x a*ch y (c-a))+sm (Nj<|c+1) λa=>ch x (a+1)*ch y (c+1-(a+1)):=by
   rw[<-AY];refine eD λa _=>?_;show(ch x a+ch x (a+1))*_=_
   grind
  have d:x+1+y=x+y+1:=by lia
  rw[d];show _=ch (x+y) c+ch (x+y) (c+1);rw[<-b,sB,sB];lia
theorem vdm(x y c:Nat):(sm (Nj<|Q2 x c+1) λa=>ch x a*ch y (c-a))=ch (x+y) c:=by
 rw[GL<|Nat.min_le_right x c,<-EB];refine eD λa w=>?_;have:=NQ.mp w;by_cases q:a<=x
 .rw[Ng<|by lia]
 .rw[Nf (by lia),q9 (by lia),Nat.zero_mul]
def pc:a0a->a0a->Nat
 |x::r,a::v=>ch x a*pc r v
 |_,_=>1
theorem BW:∀(r:a0a) (c:Nat),sm (bQ r c) (pc r)=ch r.sum c
 |[],0=>rfl
 |[],c+1=>rfl
 |x::r,c=>by
  rw[iu,NZ,<-vdm];exact eD λa _=>by rw[<-BW r (c-a),<-qb];rfl
theorem jo:∀{r:a0a} {c:Nat} {v:a0a},v∈bQ r c->v.sum=c/\(less r v).sum+c=r.sum/\Uc v=Uc r/\pr (r.map dt)=pc r v*(pr (v.map dt)*pr ((less r v).map dt))
 |[],0,v,h=>by cases NX.mp h;exact⟨rfl,rfl,rfl,rfl⟩
 |[],c+1,v,h=>by cases h
 |x::r,c,v,h=>by
  have w:v∈(Nj<|Q2 x c+1).flatMap λa=>(bQ r<|c-a).map (a::·):=h;obtain⟨a,D,b⟩:=PY.mp w;obtain⟨u,d,rfl⟩:=NE.mp b;have e:=NQ.mp D;obtain⟨f,i2,g,i⟩:=jo d;refine⟨by rw[NZ,f];lia,?_,by rw[Np,g,Np],?_⟩
  .show((x-a)::less r u).sum+c=_
   grind
  .show dt x*pr (r.map dt)=(ch x a*pc r u)*((dt a*pr (u.map dt))*(dt (x-a)*pr ((less r u).map dt)))
   have E:=m7 x a (x-a) (by lia);rw[show a+(x-a)=x by lia]at E
   grind
def mu:a0a->Nat
 |[]=>1
 |x::r=>ch (x+r.sum) x*mu r
theorem mP:∀r:a0a,mu r*pr (r.map dt)=dt r.sum
 |[]=>rfl
 |x::r=>by
  show(ch (x+r.sum) x*mu r)*(dt x*pr (r.map dt))=dt (x::r).sum;rw[NZ,<-m7 _ x r.sum rfl,<-mP r]
  grind
theorem xD(r:a0a):0<pr (r.map dt):=BP λx w=>by
 obtain⟨n,_,rfl⟩:=NE.mp w;exact rZ n
theorem Kj(r:a0a):dt r.sum/pr (r.map dt)=mu r:=by rw[<-mP,Nat.mul_div_cancel _<|xD r]
def Yt:a0a->a0a->Nat
 |_,[]=>1
 |r,c::cs=>sm (bQ r c) λv=>mu v*Yt (less r v) cs
theorem Gv:∀{r:a0a},r.sum=0->mu r=1
 |[],_=>rfl
 |x::r,h=>by
  rw[NZ]at h;obtain rfl:x=0:=by lia
  show ch _ 0*mu r=1;rw[sB,Gv<|by lia]
theorem DV:∀(w r:a0a),r.sum=w.sum->Yt r w=mu r
 |[],r,h=>(Gv h).symm
 |c::w,r,h=>by
  rw[NZ]at h;refine Nat.eq_of_mul_eq_mul_right (xD r) ?_;rw[mP];show sm (bQ r c) (λv=>mu v*Yt (less r v) w)*_=_;rw[SM,<-qb];have e:(sm (bQ r c) λv=>pr (r.map dt)*(mu v*Yt (less r v) w))=sm (bQ r c) λv=>(dt c*dt (r.sum-c))*pc r v:=by
   refine eD λv a=>?_;obtain⟨d,i2,f,b⟩:=jo a;rw[DV w (less r v) (by lia),b];have D:=mP v;have E:=mP (less r v)
   grind
  rw[e,qb,BW,SM];have:=m7 r.sum c (r.sum-c) (by lia)
  simp_all
def lv:a0a->a0a->Prop
 |[],[]=>True
 |a::v,x::r=>a<=x/\lv v r
 |_,_=>False
theorem lv.refl:∀r,lv r r
 |[]=>trivial
 |_::r=>⟨Nh _,lv.refl r⟩
theorem lv.tr:∀{u v r:a0a},lv u v->lv v r->lv u r
 |[],[],[],_,_=>trivial
 |_::_,_::_,_::_,h,q=>⟨NJ h.1 q.1,h.2.tr q.2⟩
 |[],_::_,_,h,_=>h.elim
 |_::_,[],_,h,_=>h.elim
 |[],[],_::_,_,q=>q.elim
 |_::_,_::_,[],_,q=>q.elim
theorem lv.len:∀{v r:a0a},lv v r->Uc v=Uc r
 |[],[],_=>rfl
 |_::_,_::_,h=>OG (·+1) h.2.len
 |[],_::_,h=>h.elim
 |_::_,[],h=>h.elim
theorem lv.less:∀{v r:a0a},lv v r->lv (less r v) r
 |[],[],_=>trivial
 |a::v,x::r,h=>⟨X7 x a,h.2.less⟩
 |[],_::_,h=>h.elim
 |_::_,[],h=>h.elim
theorem lv.pr:∀{v r:a0a},lv v r->L2.Pu.pr (v.map (·+1))<=L2.Pu.pr (r.map (·+1))
 |[],[],_=>Nh _
 |_::_,_::_,h=>Uj (TD h.1) h.2.pr
 |[],_::_,h=>h.elim
 |_::_,[],h=>h.elim
theorem lv.sum:∀{v r:a0a},lv v r->v.sum<=r.sum
 |[],[],_=>Nh _
 |_::_,_::_,h=>by rw[NZ,NZ];exact V0 h.1 h.2.sum
 |[],_::_,h=>h.elim
 |_::_,[],h=>h.elim
theorem jh:∀{r:a0a} {c:Nat} {v:a0a},v∈bQ r c->lv v r
 |[],0,v,h=>by cases NX.mp h;exact trivial
 |[],c+1,v,h=>by cases h
 |x::r,c,v,h=>by
  have w:v∈(Nj<|Q2 x c+1).flatMap λa=>(bQ r<|c-a).map (a::·):=h;obtain⟨a,D,b⟩:=PY.mp w;obtain⟨u,d,rfl⟩:=NE.mp b;have e:=NQ.mp D;exact⟨by lia,jh d⟩
theorem ph:∀{r v:a0a},lv v r->v∈bQ r v.sum
 |[],[],_=>NX.mpr rfl
 |x::r,a::v,h=>by
  refine PY.mpr ⟨a,NQ.mpr (by rw[NZ];have:=h.1;lia),NE.mpr ⟨v,?_,rfl⟩⟩;rw[NZ,PH];exact ph h.2
 |[],_::_,h=>h.elim
 |_::_,[],h=>h.elim
theorem kQ{w a:Type}{f:w->List a}{n:Nat}:∀{l:List w},(∀x∈l,Uc (f x)<=n)->Uc (l.flatMap f)<=Uc l*n
 |[],_=>by simp
 |x::l,h=>by
  rw[Pj,Ni,Np,Nat.succ_mul,WJ];exact V0 (kQ λy D=>h y<|M2 _ D)<|h x M7
theorem gq:∀(r:a0a) (c:Nat),Uc (bQ r c)<=pr (r.dropLast.map (·+1))
 |[],0=>Nh _
 |[],_+1=>OV _
 |[x],c=>by
  have h:bQ [x] c=(Nj<|Q2 x c+1).flatMap λa=>(bQ []<|c-a).map (a::·):=rfl;rw[h,PR,Sw,Ni];have e:((Nj<|Q2 x c).flatMap λa=>(bQ []<|c-a).map (a::·))=[]:=by
   refine RB.mpr λa w=>?_;have:=NQ.mp w;obtain⟨n,D⟩:∃n,c-a=n+1:=⟨c-a-1,by lia⟩;rw[D];rfl
  rw[e];cases q:c-Q2 x c<;>simp[bQ,q,pr]
 |x::y::r,c=>by
  have h:=kQ (l:=Nj<|Q2 x c+1) (f:=λa=>(bQ (y::r)<|c-a).map (a::·)) (n:=pr<|(y::r).dropLast.map (·+1)) λa _=>by rw[MZ];exact gq (y::r)<|c-a
  rw[NS]at h;refine NJ h ?_;show _<=(x+1)*pr ((y::r).dropLast.map (·+1));exact Uk _ (by lia)
theorem EA{r:a0a}{m:Nat}(h:r.sum<m):bQ r m=[]:=List.eq_nil_iff_forall_not_mem.mpr λv a=>by
 have:=jo a;lia
theorem zB{w D a:Type}{f:w->List D}{g:D->List a}(l:List w):(l.flatMap f).flatMap g=l.flatMap λx=>(f x).flatMap g:=List.flatMap_assoc
theorem GV(r:a0a)(k:Nat):pr ((r.take k).map (·+1))<=pr (r.map (·+1)):=by
 conv=>rhs;rw[<-NV k r,Of,BQ]
 exact TC _ (BP λx w=>by
  obtain⟨n,_,rfl⟩:=NE.mp w;lia)
theorem uK(l:a0a):(nI l).map Ut=l:=by
 rw[No];exact(Oh λx _=>rfl).trans<|Vg l
theorem mM{l m:a0a}(h:nI l=nI m):l=m:=by rw[<-uK l,h,uK]
theorem CB{w a:Type}{f:w->a}{l:List w}(h:(l.map f).Nodup):l.Nodup:=(Qc.mp h).imp λq e=>q<|OG f e
theorem CC{D c:Type}{f:D->c}(w:∀a b,f a=f b->a=b){l:List D}(h:l.Nodup):(l.map f).Nodup:=Qc.mpr<|h.imp λq e=>q<|w _ _ e
theorem ue{w:a0a}{k:Nat}(h:k<Uc w):w.drop k=w.getD k 0::w.drop (k+1):=by
 rw[Ox h,Nz,M9 h];rfl
noncomputable def SF:a0l->a0a->Bool
 |p::ps,a::v=>decide (p.1<=a)&&decide (a<=p.2)&&SF ps v
 |_,_=>M3
def vB(w:a0l)(r:a0a)(c:Nat):a0O:=(bQ r c).filter<|SF w
theorem Ji{w:a0l}{r v:a0a}{c:Nat}(h:v∈vB w r c):v∈bQ r c:=(PQ.mp h).1
theorem xk{p:Nat×Nat}{w:a0l}{x:Nat}{r:a0a}{c:Nat}:vB (p::w) (x::r) c=(Nj<|Q2 x c+1).flatMap λa=>if p.1<=a/\a<=p.2 then(vB w r<|c-a).map (a::·)else[]:=by
 show((Nj<|Q2 x c+1).flatMap λa=>(bQ r<|c-a).map (a::·)).filter (SF<|p::w)=_;rw[List.filter_flatMap];refine OG (List.flatMap · _)<|funext λa=>?_;rw[List.filter_map];by_cases q:p.1<=a/\a<=p.2
 .rw[Ng q]
  refine OG (P8 (a::·))<|List.filter_congr λv _=>?_;show(decide (p.1<=a)&&decide (a<=p.2)&&SF w v)=SF w v;rw[NC q.1,NC q.2];rfl
 .rw[Nf q,List.filter_eq_nil_iff.mpr,Qj]
  intro v _ h;have h:(decide (p.1<=a)&&decide (a<=p.2)&&SF w v)=M3:=h;simp only[NN,NR]at h;exact q h.1
noncomputable def k_:a0l->a0a->a0a
 |p::ps,x::r=>Q2 x p.2::k_ ps r
 |_,_=>[]
noncomputable def j_(w:a0l):a0a:=w.map (·.1)
theorem GF:∀{w:a0l} {r:a0a} {c:Nat} {v:a0a},Uc w=Uc r->v∈vB w r c->(j_ w).sum<=c/\c<=(k_ w r).sum
 |[],[],c,v,_,h=>by
  have:=jo<|Ji h;simp at this;simp[j_,k_];lia
 |p::w,x::r,c,v,e,h=>by
  rw[xk]at h;obtain⟨a,D,h⟩:=PY.mp h;by_cases q:p.1<=a/\a<=p.2
  .rw[Ng q]at h
   obtain⟨u,b,rfl⟩:=NE.mp h;have i:=GF (by simpa using e) b;have:=NQ.mp D;simp only[j_,k_,Nv,NZ]at i⊢;lia
  .rw[Nf q]at h;cases h
noncomputable def Ym(x:Nat)(p:Nat×Nat)(few a:Nat)(b:a0a×Nat):List (a0a×Nat):=(Nj<|Q2 (Q2 x p.2+few) b.2+1-few-TK p.1 (b.2-a)).map λi=>(b.1++[TK p.1 (b.2-a)+i],b.2-(TK p.1 (b.2-a)+i))
def mY(w:a0l)(r:a0a)(c:Nat):Nat->List (a0a×Nat)
 |0=>[([],c)]
 |k+1=>(mY w r c k).flatMap<|Ym (r.getD k 0) (w.getD k (0,0)) ((j_ w).drop<|k+1).sum ((k_ w r).drop<|k+1).sum
theorem DJ{b:Type}{f:Nat->List b}{lo n N:Nat}(h:∀a<N,f a≠[]->lo<=a/\a<n)(D:n<=N):(Nj N).flatMap f=(Nj<|n-lo).flatMap λi=>f (lo+i):=by
 have e:∀{a},a<N->¬(lo<=a/\a<n)->f a=[]:=λ{a} w q=>Pc λz=>q<|h a w z;obtain⟨d,rfl⟩:∃d,N=n+d:=⟨N-n,by lia⟩;have z:(Nj d).flatMap (λa=>f<|n+a)=[]:=RB.mpr λa w=>e (by have:=NQ.mp w;lia) (by lia);rw[List.range_add,Sw,Vb,z,NW];rcases Nat.le_total lo n with q|q
 .obtain⟨m,rfl⟩:∃m,n=lo+m:=⟨n-lo,by lia⟩
  rw[List.range_add,Sw,RB.mpr λa w=>e (by have:=NQ.mp w;lia) (by have:=NQ.mp w;lia),ON,Vb,PH]
 .rw[show n-lo=0 by lia,RB.mpr λa w=>e (by have:=NQ.mp w;lia) (by have:=NQ.mp w;lia)];rfl
theorem vf:∀{w:a0l} {r:a0a} (k:Nat),k_ (w.drop k) (r.drop k)=(k_ w r).drop k
 |_,_,0=>rfl
 |[],r,k+1=>by simp[k_]
 |p::w,[],k+1=>by cases h:(w.drop k)<;>simp[k_,h]
 |p::w,x::r,k+1=>vf k
theorem pz{w:Type}{l:List w}{k:Nat}{d:w}(h:k<Uc l):l.getD k d=l[k]:=by rw[Nz,M9 h];rfl
theorem qU{w a:Type}{f g:w->List a}:∀{l:List w},(∀x∈l,f x=g x)->l.flatMap f=l.flatMap g
 |[],_=>rfl
 |x::l,h=>by rw[Pj,Pj,h x M7,qU λy D=>h y<|M2 _ D]
theorem xq{D:a0l}{r:a0a}(j:Uc D=Uc r)(c:Nat):∀k,k<=Uc r->((mY D r c k).flatMap λb=>(vB (D.drop k) (r.drop k) b.2).map (b.1++·))=vB D r c
 |0,_=>by simp[mY]
 |k+1,h=>by
  rw[<-xq j c k (by lia)];show((mY D r c k).flatMap _).flatMap _=_;rw[zB];refine OG (List.flatMap · (mY D r c k))<|funext λb=>?_;have o:k<Uc r:=by lia
  have p:k<Uc D:=by lia
  rw[Ox o,Ox p,pz o,pz p,xk,PF];rw[DJ (f:=λa=>(if D[k].1<=a/\a<=D[k].2 then(vB (D.drop<|k+1) (r.drop<|k+1)<|b.2-a).map (a::·)else[]).map (b.1++·)) (N:=Q2 r[k] b.2+1) (lo:=TK D[k].1<|b.2-((k_ D r).drop<|k+1).sum) (n:=Q2 (Q2 r[k] b.2+1)<|Q2 (Q2 r[k] D[k].2+((j_ D).drop<|k+1).sum) b.2+1-((j_ D).drop<|k+1).sum) (λa d E=>?_)<|Sz _ _]
  .unfold Ym
   rw[Vb,show Q2 (Q2 r[k] b.2+1) (Q2 (Q2 r[k] D[k].2+((j_ D).drop<|k+1).sum) b.2+1-((j_ D).drop<|k+1).sum)=Q2 (Q2 r[k] D[k].2+((j_ D).drop<|k+1).sum) b.2+1-((j_ D).drop<|k+1).sum from Nat.min_eq_right (by have:=Sz r[k] D[k].2;generalize Q2 r[k] D[k].2=m at*;lia)];refine qU λi t=>?_;have:=NQ.mp t;have g:=NJ (Sz (Q2 r[k] D[k].2+((j_ D).drop<|k+1).sum) b.2)<|Ui (Nat.min_le_right _ _) _;rw[Ng ⟨NJ (Nat.le_max_left _ _)<|P3 _ _,by generalize Q2 (_+_) b.2=x at*;generalize TK D[k].1 _=y at*;lia⟩,No];exact Oh λv _=>by simp
  .by_cases q:D[k].1<=a/\a<=D[k].2
   .rw[Ng q]at E
    obtain⟨w,e⟩:=List.exists_mem_of_ne_nil _ E;obtain⟨w,e,_⟩:=NE.mp e;obtain⟨v,u,_⟩:=NE.mp e;have:=GF (by simp[j]) u;rw[vf]at this;unfold j_ at this⊢;rw[R9]at this;have l:=X6.mp<|Nat.le_of_lt_succ d;have m:=X6.mpr ⟨l.1,q.2⟩;have l:=l.2;refine⟨Nat.max_le.mpr ⟨q.1,?_⟩,Nat.lt_min.mpr ⟨d,Nat.lt_sub_of_add_lt<|Nat.lt_succ_of_le<|X6.mpr ⟨Ui m _,?_⟩⟩⟩<;>clear d m<;>lia
   .rw[Nf q]at E;exact NH rfl E
theorem Jh(c:Nat):vB [] [] c=if(c:Int)=0 then[[]]else[]:=by
 cases c with
 |zero=>rfl
 |succ n=>rw[Nf<|by lia];rfl
theorem HI{w:a0l}{r:a0a}(a:Uc w=Uc r)(c:Nat):((mY w r c<|Uc r).filter λb=>decide ((b.2:Int)=0)).map (·.1)=vB w r c:=by
 rw[<-xq a c (Uc r) (Nh _),Qn,<-a,Qn,a];generalize mY w r c (Uc r)=l
 induction l with
 |nil=>rfl
 |cons b l D=>
  rw[Pj,R6,<-D,Jh];by_cases q:(b.2:Int)=0
  .rw[Ng q,Ng<|NC q];simp
  .rw[Nf q,Nf<|by simp;lia];rfl
theorem xp{w:a0l}{r:a0a}(c:Nat):∀k,k<=Uc r->Uc (mY w r c k)<=pr ((r.take k).map (·+1))
 |0,_=>Nh _
 |k+1,h=>by
  have e:r[k]?=My r[k]:=M9 (by lia);rw[nV e];refine NJ (kQ (n:=r[k]+1) λb _=>?_) (Uk _<|xp c k<|by lia);unfold Ym;rw[MZ,NS,pz (show k<Uc r by lia)];refine NJ (X7 _ _)<|Nat.sub_le_of_le_add ?_;rw[Nat.add_right_comm];exact TD<|NJ (Sz _ _)<|Ui (Sz _ _) _
theorem AU(w:a0l)(r:a0a)(c:Nat):∀k,∀b∈mY w r c k,b.2<=c/\Uc b.1=k
 |0,b,h=>by cases NX.mp h;exact⟨Nh _,rfl⟩
 |k+1,b,h=>by
  obtain⟨d,D,a⟩:=PY.mp (show b∈(mY w r c k).flatMap _ from h);obtain⟨i,_,rfl⟩:=NE.mp a;obtain⟨G,E⟩:=AU w r c k d D;exact⟨by show d.2-_<=c;lia,by rw[Ni,E];rfl⟩
theorem AF:∀{ps:a0l} {r:a0a},(k_ ps r).sum<=r.sum
 |[],r=>OV _
 |_::_,[]=>Nh _
 |p::ps,x::r=>by
  have:=AF (ps:=ps) (r:=r);simp only[k_,NZ];lia
abbrev Wy:=Nat->a0a->a0O
def X1(w:a0a)(W:Wy):Prop:=∀k r,(W k r).Sublist<|bQ r<|w.getD k 0
def I_(W:Wy)(L:a0O)(k:Nat):LI:=L.flatMap λr=>(W k r).map λv=>nI<|less r v
def S_(W:Wy)(L:a0O)(k:Nat):a0O:=(mj<|I_ W L k).map λk=>k.map Ut
section
variable{W:Wy}{cs rs:a0a}
theorem kK{L:a0O}{k:Nat}{y:a0b}:y∈I_ W L k↔∃r∈L,∃v∈W k r,y=nI (less r v):=by
 unfold I_;constructor
 .intro h
  obtain⟨r,a,h⟩:=PY.mp h;obtain⟨v,b,rfl⟩:=NE.mp h;exact⟨r,a,v,b,rfl⟩
 .rintro⟨r,a,v,b,rfl⟩
  exact PY.mpr ⟨r,a,NE.mpr ⟨v,b,rfl⟩⟩
theorem y6(L:a0O)(k:Nat):(S_ W L k).map nI=mj (I_ W L k):=by
 unfold S_;rw[No];refine(Oh λy w=>?_).trans<|Vg _;obtain⟨r,_,v,_,rfl⟩:=kK.mp<|fq.mp w;show nI ((nI _).map Ut)=_;rw[uK];rfl
theorem rP{L:a0O}{k:Nat}{u:a0a}:u∈S_ W L k↔∃r∈L,∃v∈W k r,u=less r v:=by
 constructor
 .intro h
  have:nI u∈mj (I_ W L k):=by rw[<-y6];exact NE.mpr ⟨u,h,rfl⟩
  obtain⟨r,a,v,b,e⟩:=kK.mp<|fq.mp this;exact⟨r,a,v,b,mM e⟩
 .rintro⟨r,a,v,b,rfl⟩
  exact NE.mpr ⟨nI<|less r v,fq.mpr<|kK.mpr ⟨r,a,v,b,rfl⟩,uK _⟩
def js(W:Wy)(rs:a0a):Nat->a0O
 |0=>[rs]
 |k+1=>S_ W (js W rs k) k
theorem v4:∀k,(js W rs k).Nodup
 |0=>O8 _ _
 |k+1=>CB (f:=nI) (by show(P8 nI<|S_ _ _ _).Nodup;rw[y6];exact GG<|nP _)
theorem kN(b:X1 cs W)(w:rs.sum=cs.sum):∀k,k<=Uc cs->∀r∈js W rs k,lv r rs/\r.sum=(cs.drop k).sum
 |0,_,r,h=>by cases NX.mp h;exact⟨lv.refl _,w⟩
 |k+1,hk,u,h=>by
  obtain⟨r,c,v,a,rfl⟩:=rP.mp (show u∈S_ W (js W rs k) k from h);have a:=(b k r).subset a;obtain⟨D,E⟩:=kN b w k (by lia) r c;have G:=(jo a).2.1;rw[E,ue (by lia),NZ]at G;exact⟨(jh a).less.tr D,by lia⟩
theorem IB(a:X1 cs W)(w:rs.sum=cs.sum)(b:∀s,Uc (bQ rs s)<76){k:Nat}(c:k<=Uc cs):Uc (js W rs k)<76:=
 NT (mK (v4 k) (m:=bQ rs (cs.drop k).sum) λr d=>by
  obtain⟨e,f⟩:=kN a w k c r d;rw[<-f];exact ph e) (b _)
theorem Iw(a:X1 cs W)(w:rs.sum=cs.sum)(d:1<=Uc rs)(e:∀s,Uc (bQ rs s)<76){k:Nat}(f:k<Uc cs):k6 ((I_ W (js W rs k) k).map kc)=My (.l<|(js W rs<|k+1).map λr=>kc<|nI r):=by
 refine(Jz (m:=(bQ rs (cs.drop<|k+1).sum).map nI) ?_ (by rw[MZ];exact e _) ?_).trans ?_
 .intro x hx
  obtain⟨r,b,v,c,rfl⟩:=kK.mp hx;rw[MZ,((jh<|(a k r).subset c).less.tr (kN a w k (by lia) r b).1).len];exact d
 .intro x hx
  obtain⟨r,b,v,c,rfl⟩:=kK.mp hx;obtain⟨D,E⟩:=kN a w (k+1) f (less r v)<|rP.mpr ⟨r,b,v,c,rfl⟩;exact NE.mpr ⟨less r v,by rw[<-E];exact ph D,rfl⟩
 .rw[<-y6,No];rfl
def D1(W:Wy)(rs:a0a)(n:Nat):List (Int×a0b):=(Nj n).flatMap λk=>(js W rs k).map λr=>((k:Int),nI r)
theorem CS:∀n,(D1 W rs n).Nodup
 |0=>List.nodup_nil
 |n+1=>by
  unfold D1;rw[PR,Sw,Pj,List.flatMap_nil,NW];refine QY.mpr ⟨CS n,CC (λr s e=>mM (UZ.mp e).2)<|v4 n,λx w y D e=>?_⟩;subst e;obtain⟨k,a,h⟩:=PY.mp w;obtain⟨r,_,rfl⟩:=NE.mp h;obtain⟨s,_,e⟩:=NE.mp D;have:=(UZ.mp e).1;have b:=NQ.mp a;simp only at this;lia
def I0(W:Wy):Nat->Nat->a0a->Nat
 |0,_,_=>1
 |j+1,k,r=>sm (W k r) λv=>I0 W j (k+1)<|less r v
def E_(W:Wy):Nat->Nat->a0a->Nat
 |0,_,_=>1
 |j+1,k,r=>sm (W k r) λv=>mu v*E_ W j (k+1) (less r v)
theorem vm{E:Type}{f g:E->Nat}{l m:List E}(h:l.Sublist m)(q:∀a∈m,f a<=g a):sm l f<=sm m g:=by
 induction h with
 |slnil=>exact Nh _
 |cons a _ w=>rw[b4];exact NJ (w λx D=>q x<|M2 _ D)<|Nat.le_add_left _ _
 |cons_cons a _ w=>rw[b4,b4];exact V0 (q a M7)<|w λx D=>q x<|M2 _ D
theorem DW(a:X1 cs W):∀(j k:Nat) (r:a0a),k+j=Uc cs->E_ W j k r<=Yt r (cs.drop k)
 |0,k,r,h=>by rw[show k=Uc cs by lia,Qn];exact Nh _
 |j+1,k,r,h=>by
  rw[ue<|by lia];exact vm (a k r) λv _=>Nat.mul_le_mul_left _ (DW a j (k+1) (less r v)<|by lia)
theorem AW{w:Type}:∀l:List w,(sm l λ_=>1)=Uc l
 |[]=>rfl
 |x::l=>by rw[b4,AW l,Np,WJ]
end
end L2.Nt
namespace L2.Pu
theorem nz{n:Nat}{f g:a0D}(h:∀i<n,f i<=g i):S n f<=S n g:=by
 induction n with
 |zero=>exact Sk _
 |succ n w=>
  rw[jK,jK];have a:=w λi b=>h i (by lia);have c:=h n (by lia);lia
theorem zU{n i:Nat}{v:Int}(h:i<n):S n (λk=>if k=i then v else 0)=v:=by
 induction n with
 |zero=>lia
 |succ n w=>
  rw[jK];by_cases q:i=n
  .subst q
   rw[Ng rfl,cP (g:=λ_=>0) λk a=>Nf (by lia),rf,RM]
  lia
noncomputable def fl(x y:Bool)(l h:Int):Int:=(if x=M3/\y=M5 then h else 0)-(if x=M5/\y=M3 then l else 0)
def uX(w D:a0D)(E a:a0U)(r c:Nat)(X Y:a0P):Int:=
 S c (λj=>if Y j=M3 then D j else 0)-S r (λi=>if X i=M3 then w i else 0)+S r λi=>S c λj=>fl (X i) (Y j) (E i j)<|a i j
section
variable{rs cs:a0D}{f d:a0U}{r c:Nat}
theorem Lk{n i:Nat}{f g:a0D}{v:Int}(h:i<n)(e:∀k<n,f k=g k+if k=i then v else 0):S n f=S n g+v:=by
 rw[cP e,zW,zU h]
def p0(d:a0U)(i j:Nat)(v:Int):Nat->Nat->Int:=λa b=>if a=i/\b=j then v else d a b
theorem HJ{i j:Nat}{w:Int}(a:i<r)(b:j<c)(X Y:a0P):uX rs cs f (p0 d i j<|d i j-w) r c X Y=uX rs cs f d r c X Y-if X i=M3/\Y j=M5 then w else 0:=by
 have e:(S r λk=>S c λl=>fl (X k) (Y l) (f k l)<|d k l)=(S r λk=>S c λl=>fl (X k) (Y l) (f k l)<|p0 d i j (d i j-w) k l)+if X i=M3/\Y j=M5 then w else 0:=by
  refine Lk a λk _=>?_;by_cases q:k=i
  .subst q
   refine Lk b λl _=>?_;unfold p0 fl;by_cases z:l=j
   .subst z
    cases X k<;>cases Y l<;>simp
   .simp[z]
  .rw[Nf q,Int.add_zero]
   refine cP λl _=>?_;unfold p0;rw[Nf λz=>q z.1]
 unfold uX;lia
noncomputable def ms:Nat->a0O
 |0=>[[]]
 |n+1=>ms n++(ms n).map (·++[n])
theorem ie:∀(n:Nat) (l:a0a),l∈ms n->l.Sublist (Nj n)
 |0,l,h=>by rw[NX.mp h];exact .slnil
 |n+1,l,h=>by
  rw[PR];rcases NU.mp h with h|h
  .exact(ie n l h).trans (List.sublist_append_left _ _)
  .obtain⟨a,h',rfl⟩:=NE.mp h
   exact(ie n a h').append<|T0 _
theorem sC(X:a0P):∀n:Nat,(Nj n).filter X∈ms n
 |0=>NX.mpr rfl
 |n+1=>by
  rw[PR,List.filter_append];cases q:X n with
  |false=>
   refine NU.mpr<|.inl ?_;rw[show[n].filter X=[] by simp[q],NW];exact sC X n
  |true=>
   refine NU.mpr<|.inr<|NE.mpr ⟨_,sC X n,?_⟩
   simp_all
theorem ym:∀n:Nat,Uc (ms n)=2^n
 |0=>rfl
 |n+1=>by
  rw[ms,Ni,MZ,ym n,U5];lia
end
section
variable{rs cs:a0b}{b:LP}{r c:Nat}
abbrev r8(rs cs:a0b)(b:LP)(r c:Nat)(X Y:a0P):Int:=uX (λi=>rs.getD i 0) (λj=>cs.getD j 0) (λi j=>(bI b i j).1) (λi j=>(bI b i j).2) r c X Y
theorem vo{over into:a0a}(a:over.Sublist<|Nj r)(d:into.Sublist<|Nj c):jU cs b r c over into-lu rs over=r8 rs cs b r c (λi=>decide (i∈over)) (λj=>decide (j∈into)):=by
 rw[HQ a d];unfold lu r8 uX;rw[nN d,nN a];have e:∀(n:Nat) (l:a0a) (g:a0D),S n (λj=>if decide (j∈l)=M3 then g j else 0)=S n (λj=>if j∈l then g j else 0):=λn l g=>cP λj _=>by simp
 rw[e,e];have f:(S r λi=>S c λj=>hF b over into i j)=S r λi=>S c λj=>fl (decide (i∈over)) (decide (j∈into)) (bI b i j).1 (bI b i j).2:=by
  unfold hF fl;simp
 simp only[f];lia
def fG(cs:a0b)(b:LP)(r c:Nat)(over:a0a):a0a:=(Nj c).filter λj=>decide (eA cs b r over j<e8 b over j)
theorem Ki(over into:a0a)(p:a0P)(h:∀j∈into,p j=M3):jU cs b r c over ((fG cs b r c over).filter p)<=jU cs b r c over into:=by
 refine nz λj a=>?_;have m:(j∈(fG cs b r c over).filter p)↔(eA cs b r over j<e8 b over j/\p j=M3):=by
  unfold fG;simp only[PQ,NQ,NR]
  simp_all
 by_cases D:j∈into
 .rw[Ng D]
  by_cases w:eA cs b r over j<e8 b over j
  .simp_all
  lia
 .rw[Nf D]
  by_cases w:j∈(fG cs b r c over).filter p
  .rw[Ng w]
   have:=(m.mp w).1;lia
  .rw[Nf w];exact Sk _
theorem Iy(over:a0a)(p:a0P):((fG cs b r c over).filter p).Sublist (Nj c):=(QA).trans QA
end
end L2.Pu
namespace L2.Nt
open L2.Pu
section
variable{W:Wy}{b:a0a}
theorem ku:∀{l:a0a} {i x y:Nat},l[i]?=My x->(l.set i y).sum+x=l.sum+y
 |a::l,0,x,y,h=>by
  grind
 |a::l,i+1,x,y,h=>by
  have:=ku (l:=l) (i:=i) (x:=x) (y:=y) h
  grind
variable{a:a0a}
end
end L2.Nt
namespace L2.Pu
end L2.Pu
namespace Law
open L2 L2.Pu L2.Nt
section
variable{K:ND}{a:Ad}{β:Bg}
theorem Zb{r c:Nat}{w:LI}(E:jm r c w)(P:1<=r)(S:r<=30)(V:c<=30){δ:Dn}(h:δ.getD 0 M0=My (eK w)):bY 1 [0] (bP cQ<|ae (aJ cW<|ae (f2 i4 (aa 0)<|fC<|.n 0)<|ak)<|ak) (ej 0) (λ_=>M.f5 M3) (hL<|bY 1 [0] (bM<|aa 1) (ej 0) (λ_=>M.f5 M3)<|hL<|f2 i4 (aa 0)<|aa 1) δ β=My (.ok<|eK<|tp c w,β):=by
 obtain⟨b,d,g⟩:=E.at (i:=0) (by lia);have k:(gI w)[0]?=My (b.map D.n):=by rw[Nk,d];rfl
 have el:aJ cW (ae (f2 i4 (aa 0)<|fC<|.n 0)<|ak) δ β=My (.ok<|.n (c:Int),β):=au (af (x:= .l<|b.map D.n) (cp (x:=eK w) (gf h) rfl<|lD k) rfl) (bz<|by rw[MZ,g]);have e:=bu (nv:=1) (bt:=[0]) (it:=bP cQ<|ae (aJ cW<|ae (f2 i4 (aa 0)<|fC<|.n 0)<|ak)<|ak) (tg:=ej 0) (f:=bY 1 [0] (bM<|aa 1) (ej 0) (λ_=>M.f5 M3)<|hL<|f2 i4 (aa 0)<|aa 1) (δ:=δ) (β:=β) (Nj c) (λi=>D.n<|0+(i:Int)) (λj=>D.l<|w.map λa=>D.n<|a.getD j 0) (bH (ds:=bi 0 c) (af el rfl)<|o_ (by lia)<|by lia) ?_ (bn<|by rw[NS];lia)
 .rw[e]
  unfold tp Im;show _=My (Pi<|D.l<|P8 D.l<|P8 _<|P8 _ _,β);rw[No,No];congr 4;refine Oh λj _=>?_;show _=D.l ((w.map λa=>a.getD j 0).map D.n);rw[No];rfl
 .intro j n
  have o:=NQ.mp n;have m:io 1 [0] δ=[M0,My<|eK w]:=by
   unfold io;simp only[Nv,Qj,h];rfl
  refine⟨[My<|.n<|0+(j:Int),My<|eK w],by rw[m];rfl,?_⟩;have K:(gI w).map D.l=w.map λa=>D.l (a.map D.n):=by rw[No];rfl
  refine bu (nv:=1) (bt:=[0]) w (λa=>D.l<|a.map D.n) _ (by show My (Pi<|(gI w).map D.l,β)=_;rw[K]) (λa p=>⟨_,rfl,cp (x:= .l<|a.map D.n) (y:= .n<|0+(j:Int)) rfl rfl ?_⟩) (bn<|by rw[E.1];lia);have q:=E.2 a p;obtain⟨x,G⟩:=u4 (l:=a) (i:=j) (by lia);rw[RM];refine dE ?_;rw[Nk,G,Nz,G];rfl
theorem zg{r c:Nat}{w:LI}(D:jm r c w)(E:1<=r)(G:r<=30)(M:c<=30):(qr K a).1 [eK w] β=My (.ok<|eK<|tp c w,β):=
 aO (ao<|aD (Zb D E G M rfl) ⟨rfl,rfl⟩)
noncomputable abbrev iL(xs:a0b):D:= .l<|xs.map D.n
theorem AN{w:LI}(h:Uc w<=1000){f:FD}{δ:Dn}(e:f δ β=My (.ok<|eK w,β)):bY 1 [] (bM f) (ej 0) (λ_=>M.f5 M3) (hL<|aJ gF<|ae (aa 0)<|ak) δ β=My (.ok<|iL<|w.map OJ,β):=by
 have E:(gI w).map D.l=w.map λa=>D.l (a.map D.n):=by rw[No];rfl
 have:=bu (nv:=1) (bt:=[]) (it:=bM f) (tg:=ej 0) (f:=aJ gF<|ae (aa 0)<|ak) (δ:=δ) (β:=β) w (λa=>D.l<|a.map D.n) (λa=>D.n a.sum) (by rw[<-E];exact eQ e rfl) (λa _=>⟨_,rfl,au rfl<|dZ a⟩)<|bn h;rw[this];show _=My (Pi<|D.l<|(w.map OJ).map D.n,β);rw[No];rfl
theorem yS{w:LI}(h:Uc w<=1000):(oP K a).1 [eK w] β=My (.ok<|iL<|w.map OJ,β):=
 aO (ao<|aD (AN h rfl) ⟨rfl,rfl⟩)
theorem uG{r c:Nat}{w:LI}(D:jm r c w)(E:1<=r)(G:r<=30)(M:c<=30):(kF K a).1 [eK w] β=My (.ok<|iL<|(tp c w).map OJ,β):=
 aO (ao<|aD (AN (by rw[(rC (d:=(0:Int)) (c:=c) D.1).1];lia)<|am rfl<|zg D E G M) ⟨rfl,rfl⟩)
def bS(a w:a0b):Bool:=(decide (1<=(Uc a:Int))&&decide ((Uc a:Int)<=4))&&(decide (1<=(Uc w:Int))&&decide ((Uc w:Int)<=6))&&!((a.any λx=>decide (x<0))||(w.any λx=>decide (x<0)))&&decide (a.sum=w.sum)&&!decide (40<a.sum)
def Sm(xs:a0b):Prop:=Uc xs<=30/\∀x∈xs,-1000<=x/\x<=1000
theorem AQ:∀{xs:a0b},(∀x∈xs,-1000<=x/\x<=1000)->-1000*(Uc xs:Int)<=xs.sum/\xs.sum<=1000*(Uc xs:Int)
 |[],_=>by simp
 |x::xs,h=>by
  have b:=h x M7;have c:=AQ (xs:=xs) λy a=>h y<|M2 _ a;simp only[NZ,Np];lia
theorem Sm.bd{a:a0b}(h:Sm a):-30000<=a.sum/\a.sum<=30000:=by
 have:=AQ h.2;have:=h.1;lia
theorem GY{a:a0b}(h:Uc a<=1000){n:Nat}{δ:Dn}(e:δ.getD n M0=My (iL a)):se (aJ sE<|ae (bY 1 [] (bM<|aa n) (ej 0) (λ_=>M.f5 M3)<|hL<|f2 (Yn) (aa 0)<|fC<|.n 0)<|ak) δ β=My (.ok<|a.any λx=>decide (x<0),β):=by
 have b:=bu (nv:=1) (bt:=[]) (it:=bM<|aa n) (tg:=ej 0) (f:=f2 (Yn) (aa 0)<|fC<|.n 0) (δ:=δ) (β:=β) a D.n (λx=>D.c<|decide (x<0)) (eQ (gf e) rfl) (λx _=>⟨_,rfl,rfl⟩)<|bn h;exact pO (au (af b rfl)<|any_map _ _) rfl
theorem ic{w D:a0b}(M:Sm w)(P:Sm D):(da K a).1 [iL w,iL D] β=My (if bS w D=M3 then .ok .o else .error a.Ae,β):=by
 have S:=M.1;have V:=P.1;have f:=M.bd;have d:=P.bd;unfold da
 dsimp only
 refine aO ?_;have el:∀{n:Nat} {b:a0b} {E:Dn},E.getD n M0=My (iL b)->aJ cW (ae (aa n) ak) E β=My (.ok<|.n (Uc b:Int),β):=λ{n b E} e=>au (af (gf e) rfl) (bz<|by rw[MZ]);have G:∀{n:Nat} {b:a0b} {E:Dn},E.getD n M0=My (iL b)->aJ gF (ae (aa n) ak) E β=My (.ok<|.n b.sum,β):=λ{n b E} e=>au (af (gf e) rfl)<|dZ b;refine cV (c:=!(decide (1<=(Uc w:Int))&&decide ((Uc w:Int)<=4))) (β1:=β) (nA<|dr<|xf rfl (el rfl) rfl) ?_;unfold bS;cases g:(decide (1<=(Uc w:Int))&&decide ((Uc w:Int)<=4))with
 |false=>exact g0 (af (kr<|jl rfl (by decide) (by decide)<|jl (el rfl) (by lia) (by lia) rfl) rfl) ⟨rfl,rfl⟩
 |true=>
 refine az ?_;refine cV (c:=!(decide (1<=(Uc D:Int))&&decide ((Uc D:Int)<=6))) (β1:=β) (nA<|dr<|xf rfl (el rfl) rfl) ?_;cases h:(decide (1<=(Uc D:Int))&&decide ((Uc D:Int)<=6))with
 |false=>exact g0 (af (kr<|jl rfl (by decide) (by decide)<|jl (el rfl) (by lia) (by lia) rfl) rfl) ⟨rfl,rfl⟩
 |true=>
 refine az ?_;refine cV (c:=(w.any λx=>decide (x<0))||(D.any λx=>decide (x<0))) (β1:=β) (jL (GY (by lia) rfl)<|GY (by lia) rfl) ?_;cases i:((w.any λx=>decide (x<0))||(D.any λx=>decide (x<0)))with
 |true=>
  rw[Ng rfl];exact g0 rfl ⟨rfl,rfl⟩
 |false=>
 refine az ?_;refine cV (c:=!decide (w.sum=D.sum)) (β1:=β) (dr<|cp (G rfl) (G rfl) ne_int) ?_;cases j:decide (w.sum=D.sum)with
 |false=>exact g0 (af (kr<|jl (G rfl) (by lia) (by lia)<|jl (G rfl) (by lia) (by lia) rfl) rfl) ⟨rfl,rfl⟩
 |true=>
 refine az<|ao ?_;refine cV (c:=decide (40<w.sum)) (β1:=β) (dr<|cp (G rfl) rfl gt_int) ?_;cases k:decide (40<w.sum)with
 |true=>
  rw[Ng rfl];exact g0 (af (kr<|jl rfl (by decide) (by decide) rfl) rfl) ⟨rfl,rfl⟩
 |false=>exact az<|bK ⟨rfl,rfl⟩
theorem x5:∀a:a0b,cU (a.map D.n)=My a
 |[]=>rfl
 |n::a=>by simp[cU,x5 a]
theorem xP{a:a0b}(h:a≠[]):zb [iL a]=My (.n<|iP a):=by
 show uL (cU<|a.map D.n)=_;rw[x5];cases a with
 |nil=>exact NH rfl h
 |cons=>rfl
theorem xQ{a:a0b}(h:a≠[]):decide (iP a<0)=a.any λx=>decide (x<0):=by
 rw[Ru,Va];simp only[NR];exact⟨λz=>⟨_,v5 h,z⟩,λ⟨x,w,z⟩=>Int.lt_of_le_of_lt (xR w) z⟩
theorem rV{w D:a0b}:(dD K a).1 [iL w,iL D] β=My (.ok<|.c<|bS w D,β):=by
 unfold dD
 dsimp only
 refine aO ?_;have el:∀{n:Nat} {b:a0b} {E:Dn},E.getD n M0=My (iL b)->aJ cW (ae (aa n) ak) E β=My (.ok<|.n (Uc b:Int),β):=λ{n b E} e=>au (af (gf e) rfl) (bz<|by rw[MZ]);have M:∀{n:Nat} {b:a0b} {E:Dn},E.getD n M0=My (iL b)->aJ gF (ae (aa n) ak) E β=My (.ok<|.n b.sum,β):=λ{n b E} e=>au (af (gf e) rfl)<|dZ b;refine cV (c:=decide ((Uc w:Int)<1)||(decide (4<(Uc w:Int))||(decide ((Uc D:Int)<1)||decide (6<(Uc D:Int))))) (β1:=β) (jL (dr (cp (el rfl) rfl lt_int)) (jL (dr (cp (el rfl) rfl gt_int)) (jL (dr (cp (el rfl) rfl lt_int)) (dr (cp (el rfl) rfl gt_int))))) ?_;unfold bS;by_cases G:(1<=(Uc w:Int)/\(Uc w:Int)<=4)/\1<=(Uc D:Int)/\(Uc D:Int)<=6
 .have f:(decide ((Uc w:Int)<1)||(decide (4<(Uc w:Int))||(decide ((Uc D:Int)<1)||decide (6<(Uc D:Int)))))=M5:=by
   simp only[Q7,Pp];lia
  have g:(decide (1<=(Uc w:Int))&&decide ((Uc w:Int)<=4)&&(decide (1<=(Uc D:Int))&&decide ((Uc D:Int)<=6)))=M3:=by
   simp only[NN,NR];exact G
  have P:w≠[]:=λz=>by rw[z]at G;simp at G
  have h:D≠[]:=λz=>by rw[z]at G;simp at G
  rw[f,Nf Nb,g,P6];refine az ?_;refine cV (c:=(w.any λx=>decide (x<0))||(D.any λx=>decide (x<0))) (β1:=β) (by
   rw[<-xQ P,<-xQ h];exact jL (dr<|cp (au rfl<|xP P) rfl lt_int)<|dr<|cp (au rfl<|xP h) rfl lt_int) ?_
  cases S:((w.any λx=>decide (x<0))||(D.any λx=>decide (x<0)))with
  |true=>
   rw[Ng rfl];exact aD rfl ⟨rfl,rfl⟩
  |false=>
  refine az<|ao<|aD (d:= .c<|decide (w.sum=D.sum)&&decide (w.sum<=40)) (Hn (cp (M rfl) (M rfl) eq_int)<|cp (M rfl) rfl le_int) ⟨rfl,?_⟩;rw[SR,P6];congr 3;rw[Ru];simp only[Qa,NR,Pp];lia
 .have f:(decide ((Uc w:Int)<1)||(decide (4<(Uc w:Int))||(decide ((Uc D:Int)<1)||decide (6<(Uc D:Int)))))=M3:=by
   simp only[Bool.or_eq_true,NR];lia
  have g:(decide (1<=(Uc w:Int))&&decide ((Uc w:Int)<=4)&&(decide (1<=(Uc D:Int))&&decide ((Uc D:Int)<=6)))=M5:=by
   rw[QW];simp only[ne_eq,NN,NR];exact G
  rw[f,Ng rfl,g];exact aD rfl ⟨rfl,rfl⟩
theorem Ee{w:a0o}(h:Uc w<=1000):(qt K a).1 [lG w] β=My (.ok<|lG w,β):=
 aO (ao<|aD (bu w D.l D.l rfl (λx _=>⟨_,rfl,rfl⟩)<|bn h) ⟨rfl,rfl⟩)
theorem zJ{a_:a0o}(h:Uc a_<=1000):kj K a [lG a_] β=My (.ok a_,β):=by
 have e:=j8 (nv:=1) (bt:=[]) (it:=bM<|aa 0) (tg:=ej 0) (f:=qE n9<|ae (aa 0)<|ak) (δ:=[My<|lG a_]) (β:=β) a_ D.l (λx=>x) rfl (λx _=>⟨_,rfl,rfl⟩)<|bn h;rw[List.map_id']at e;exact sD<|ao<|nB e ⟨rfl,rfl⟩
theorem CO{c:Nat}(b:c<=1000){δ:Dn}{n:Nat}(e:δ.getD n M0=My (.n (c:Int))):bY 1 [] (bP cQ<|ae (aa n)<|ak) (ej 0) (λ_=>M.f5 M3) (hL<|aJ gQ<|ae (fC<|.n 0)<|ae (fC<|.n 40)<|ak) δ β=My (.ok<|.l<|(NB c ((0:Int),(40:Int))).map pD,β):=by
 have h:=bu (nv:=1) (bt:=[]) (it:=bP cQ<|ae (aa n)<|ak) (tg:=ej 0) (f:=aJ gQ<|ae (fC<|.n 0)<|ae (fC<|.n 40)<|ak) (δ:=δ) (β:=β) (Nj c) (λi=>D.n<|0+(i:Int)) (λ_=>pD (0,40))
  (bH (as:=[.n (c:Int)]) (af (x:= .n (c:Int)) (β1:=β) (by unfold aa;rw[e];rfl) rfl)<|o_ (by lia)<|by lia) (λx _=>⟨_,rfl,au rfl g9⟩) (bn<|by rw[NS];lia)
 rw[cM]at h;rw[Pb];exact h
theorem FA{r c:Nat}(d:r<=1000)(b:c<=1000):(k8 K a).1 [.n (r:Int),.n (c:Int)] β=My (.ok<|bF<|dX r c,β):=by
 have h:=bu (nv:=1) (bt:=[1]) (it:=bP cQ<|ae (aa 0)<|ak) (tg:=ej 0) (f:=bY 1 [] (bP cQ<|ae (aa 1)<|ak) (ej 0) (λ_=>M.f5 M3)<|hL<|aJ gQ<|ae (fC<|.n 0)<|ae (fC<|.n 40)<|ak) (δ:=[My<|.n (r:Int),My<|.n (c:Int)]) (β:=β) (Nj r) (λi=>D.n<|0+(i:Int)) (λ_=> .l<|(NB c ((0:Int),(40:Int))).map pD)
  (bH rfl<|o_ (by lia)<|by lia) (λx _=>⟨_,rfl,CO b rfl⟩) (bn<|by rw[NS];lia)
 rw[cM]at h;unfold k8
 dsimp only
 refine aO<|ao<|aD h ⟨rfl,?_⟩;simp only[bF,gP,dX,lG,Pb]
theorem oy{r c:Nat}{d:D}(e:r<=1000)(g:c<=1000):(qu K a).1 [.n (r:Int),.n (c:Int),d] β=My (.ok<|lG<|NB r<|NB c d,β):=by
 have b:∀x:Nat,bY 1 [1] (bP cQ<|ae (aa 2)<|ak) (ej 0) (λ_=>M.f5 M3) (hL<|aa 1) [My<|.n<|0+(x:Int),My d,My<|.n (c:Int)] β=My (.ok<|.l<|NB c d,β):=λx=>by
  have h:=bu (nv:=1) (bt:=[1]) (it:=bP cQ<|ae (aa 2)<|ak) (tg:=ej 0) (f:=aa 1) (δ:=[My<|.n<|0+(x:Int),My d,My<|.n (c:Int)]) (β:=β) (Nj c) (λi=>D.n<|0+(i:Int)) (λ_=>d)
   (bH rfl<|o_ (by lia)<|by lia) (λx _=>⟨_,rfl,rfl⟩) (bn<|by rw[NS];lia)
  rw[cM]at h;exact h
 have h:=bu (nv:=1) (bt:=[2,1]) (it:=bP cQ<|ae (aa 0)<|ak) (tg:=ej 0) (f:=bY 1 [1] (bP cQ<|ae (aa 2)<|ak) (ej 0) (λ_=>M.f5 M3)<|hL<|aa 1) (δ:=[My<|.n (r:Int),My<|.n (c:Int),My d]) (β:=β) (Nj r) (λi=>D.n<|0+(i:Int)) (λ_=> .l<|NB c d)
  (bH rfl<|o_ (by lia)<|by lia) (λx _=>⟨_,rfl,b x⟩) (bn<|by rw[NS];lia)
 rw[cM]at h;unfold qu
 dsimp only
 refine aO<|ao<|aD h ⟨rfl,?_⟩;simp only[lG,Pb]
theorem FY{r c:Nat}(b:r<=1000)(d:c<=1000):(qu K a).1 [.n (r:Int),.n (c:Int),.t [.n 0,.n 40]] β=My (.ok<|bF<|dX r c,β):=by
 rw[oy b d];simp only[bF,lG,gP,dX,Pb];rfl
theorem vq{r c:Nat}(b:r<=1000)(d:c<=1000):(bp K a).1 [.o,.n (r:Int),.n (c:Int)] β=My (.ok<|bF<|dX r c,β):=by
 unfold bp
 dsimp only
 refine aO ?_;exact fM (dr<|cp rfl rfl rfl)<|aD (Ht rfl<|FY b d) ⟨rfl,rfl⟩
theorem FX{r c:Nat}{d:D}(e:r<=1000)(g:c<=1000):nZ K a [.n (r:Int),.n (c:Int),d] β=My (.ok<|NB r<|NB c d,β):=by
 have b:∀x:Nat,eV 1 [1] (bP cQ<|ae (aa 2)<|ak) (ej 0) (λ_=>M.f5 M3) (hL<|aa 1) [My<|.n<|0+(x:Int),My d,My<|.n (c:Int)] β=My (.ok<|NB c d,β):=λx=>by
  have h:=Ef (nv:=1) (bt:=[1]) (it:=bP cQ<|ae (aa 2)<|ak) (tg:=ej 0) (f:=aa 1) (δ:=[My<|.n<|0+(x:Int),My d,My<|.n (c:Int)]) (β:=β) (Nj c) (λi=>D.n<|0+(i:Int)) (λ_=>d)
   (bH rfl<|o_ (by lia)<|by lia) (λx _=>⟨_,rfl,rfl⟩) (bn<|by rw[NS];lia)
  rw[cM]at h;exact h
 have h:=j8 (nv:=1) (bt:=[2,1]) (it:=bP cQ<|ae (aa 0)<|ak) (tg:=ej 0) (f:=eV 1 [1] (bP cQ<|ae (aa 2)<|ak) (ej 0) (λ_=>M.f5 M3)<|hL<|aa 1) (δ:=[My<|.n (r:Int),My<|.n (c:Int),My d]) (β:=β) (Nj r) (λi=>D.n<|0+(i:Int)) (λ_=>NB c d)
  (bH rfl<|o_ (by lia)<|by lia) (λx _=>⟨_,rfl,b x⟩) (bn<|by rw[NS];lia)
 rw[cM]at h;exact sD<|ao<|nB h ⟨rfl,rfl⟩
def PB(b:LP):Prop:=∀a∈b,∀p∈a,-1000<=p.1/\p.1<=1000/\-1000<=p.2/\p.2<=1000
theorem o1.pb{r c:Nat}{b:LP}(h:o1 r c b):PB b:=λa d p e=>by
 obtain⟨f,g,i⟩:=h.ok a d p e;lia
theorem Ik{p:Int×Int}(e:-1000<=p.1/\p.1<=1000/\-1000<=p.2/\p.2<=1000):(d8 K a).1 [pD p] β=My (if fy p=M3 then .ok .o else .error a.Ah,β):=by
 unfold d8
 dsimp only
 refine aO ?_;refine uH (d:=pD p) (β1:=β) rfl rfl<|ao ?_;refine cV (c:=!(decide (0<=p.1)&&decide (p.1<=p.2)&&decide (p.2<=40))) (β1:=β) (nA<|dr<|Ew rfl rfl rfl rfl) ?_;have b:fy p=(decide (0<=p.1)&&decide (p.1<=p.2)&&decide (p.2<=40)):=rfl;rw[<-b];cases fy p with
 |true=>
  exact az<|bK ⟨rfl,rfl⟩
 |false=>
  exact g0 (af (kr<|jl rfl (by lia) (by lia)<|jl rfl (by lia) (by lia) rfl) rfl) ⟨rfl,rfl⟩
abbrev Yj(b:LP)(r c:Nat)(d e:a0Q):Ds:=[My<|.h<|bF b,My<|.h<|.n (r:Int),My<|.h<|.n (c:Int),d,e]
theorem vt{r c:Nat}{b:LP}{h:G}{Q:a0A}(u:r<=1000)(A:c<=1000)(R:Uc b<=1000)(B:PB b)(k0:cE b r c≠M3->∀δ,Q (.ex a.Ah δ) β)(P:cE b r c=M3->∀C g,Gw h (Yj b r c C g) β Q):
  Gw (aB (ry (jF (fB<|f2 (gR) (aJ cW<|ae (aa 0)<|ak)<|aa 1)<|se<|aJ sE<|ae (bY 1 [2] (bM<|aa 0) (ej 0) (λ_=>M.f5 M3)<|hL<|f2 (gR) (aJ cW<|ae (aa 0)<|ak)<|aa 1)<|ak) (kP a.Ah<|ae (qW<|lB (aa 1)<|lB (aa 2)<|zn)<|ak)<|gNil)<|aB (pC (bM<|aa 0) (uY 3)<|pC (bM<|aa 3) (uY 4)<|dW<|bC (d8 K a).1<|ae (aa 4)<|ak) h) (Yj b r c M0 M0) β Q:=by
 have T:bY 1 [2] (bM<|aa 0) (ej 0) (λ_=>M.f5 M3) (hL<|f2 (gR) (aJ cW<|ae (aa 0)<|ak)<|aa 1) [My<|bF b,My<|.n (r:Int),My<|.n (c:Int),M0,M0] β=My (.ok<|.l<|b.map λE=>D.c<|!decide ((Uc E:Int)=(c:Int)),β):=
  bu (nv:=1) (bt:=[2]) b (λE=>D.l<|E.map pD) _ (by show My _=_;rw[No];rfl) (λE _=>⟨_,rfl,cp (au rfl<|bz (r:=Uc E)<|by rw[MZ]) rfl ne_int⟩) (bn R)
 refine cV (c:=(!decide ((Uc b:Int)=(r:Int)))||b.any λE=>!decide ((Uc E:Int)=(c:Int))) (β1:=β) (jL (dr<|cp (au rfl<|v6 (r:=Uc b)<|by rw[MZ]) rfl ne_int)<|pO (au (af T rfl)<|any_map b _) rfl) ?_;have F:((!decide ((Uc b:Int)=(r:Int)))||b.any λE=>!decide ((Uc E:Int)=(c:Int)))=M5↔jm r c b:=by
  simp only[Q7,Bool.not_eq_false',NR,QX,Qa,Pp,Decidable.not_not];exact⟨λ⟨U,N⟩=>⟨by lia,λE u=>by have:=N E u;lia⟩,λ⟨U,N⟩=>⟨by lia,λE u=>by have:=N E u;lia⟩⟩
 cases q:((!decide ((Uc b:Int)=(r:Int)))||b.any λE=>!decide ((Uc E:Int)=(c:Int)))with
 |true=>
  rw[Ng rfl];exact g0 (af (kr<|jl rfl (by lia) (by lia)<|jl rfl (by lia) (by lia) rfl) rfl)<|k0 (λz=>by
   rw[F.mpr (gC.mp z).shp]at q;cases q) _
 |false=>
  rw[Nf Nb];have S:=F.mp q;refine az ?_;refine cL (ds:=(gP b).map D.l) (β1:=β) rfl (λi δ n=>β=n/\(∃C g,δ=Yj b r c C g)/\∀k<i,∀E,b[k]?=My E->E.all fy=M3) ⟨rfl,⟨M0,M0,rfl⟩,λk v=>by lia⟩ ?_ ?_
  .rintro i d δ _ hd ⟨rfl,⟨C,g,rfl⟩,v⟩
   obtain⟨y,V,rfl⟩:=cK hd;obtain⟨E,m,rfl⟩:=cK V;have H:=Nq m;refine⟨_,rfl,ao ?_⟩;refine cL (ds:=E.map pD) (β1:=β) rfl (λj δ n=>β=n/\(∃g,δ=Yj b r c (My<|.h<|.l<|E.map pD) g)/\∀k<j,∀p,E[k]?=My p->fy p=M3) ⟨rfl,⟨g,rfl⟩,λk v=>by lia⟩ ?_ ?_
   .rintro j d δ _ hd ⟨rfl,⟨g,rfl⟩,l⟩
    obtain⟨p,I,rfl⟩:=cK hd;have J:=Nq I;have A:=Ik (K:=K) (a:=a) (β:=β)<|B E H p J;refine⟨_,rfl,ao ?_⟩;cases z:fy p with
    |true=>
     rw[z,Ng rfl]at A;refine gD (am rfl A)<|bK ⟨rfl,⟨_,rfl⟩,λk O W o=>?_⟩;by_cases w:k=j
     .subst w
      rw[I]at o;cases o;exact z
     .exact l k (by lia) W o
    |false=>
     rw[z,Nf Nb]at A;exact gz (am rfl A)<|k0 (λw=>by
      have:=j5.mpr<|(gC.mp w).ok E H p J;rw[z]at this;cases this) _
   .rintro δ _ ⟨rfl,⟨g,rfl⟩,l⟩
    rw[MZ]at l;refine bK ⟨rfl,⟨_,_,rfl⟩,λk O L t=>?_⟩;by_cases z:k=i
    .subst z
     rw[m]at t;cases t;rw[OM];intro p B;obtain⟨k,f,e⟩:=PN B;exact l k f p<|Nd.mpr ⟨f,e⟩
    .exact v k (by lia) L t
  .rintro δ _ ⟨rfl,⟨C,g,rfl⟩,v⟩
   rw[MZ,MZ]at v;exact P (gC.mpr ⟨S,λE u p B=>by
    obtain⟨k,f,e⟩:=PN u;have:=v k f E<|Nd.mpr ⟨f,e⟩;rw[OM]at this;exact j5.mp<|this p B⟩) _ _
theorem qc{r c:Nat}{b:LP}(f:r<=1000)(g:c<=1000)(e:Uc b<=1000)(h:PB b):(bp K a).1 [bF b,.n (r:Int),.n (c:Int)] β=My (if cE b r c=M3 then .ok (bF b)else .error a.Ah,β):=by
 unfold bp
 dsimp only
 refine aO ?_;exact aF (β1:=β) (dr<|cp rfl rfl rfl)<|az<|vt f g e h (λz _=>⟨rfl,by rw[Nf z]⟩) λd _ _=>ao<|aD (bu (nv:=1) (bt:=[]) (gP b) D.l D.l rfl (λx _=>⟨_,rfl,rfl⟩)<|bn<|by rw[MZ];exact e) ⟨rfl,by rw[Ng d]⟩
theorem MW{n:Nat}{g:G}{a:a0e}{r:Except M6 a0o}(k:Gw g (lh n a) β (λo b=>b=β/\(match o with| .rg d=>r= .ok d| .ex C _=>r= .error C|_=>False))):gY n g a β=My (r,β):=by
 obtain⟨o,b,e,rfl,q⟩:=k;cases o with
 |rg d=>unfold gY;rw[e,q]
 |ex C δ=>unfold gY;rw[e,q]
 |_=>exact q.elim
theorem oH{r c:Nat}{b:LP}(g:r<=1000)(i:c<=1000)(e:Uc b<=1000)(j:PB b):bL K a [bF b,.n (r:Int),.n (c:Int)] β=My (if cE b r c=M3 then .ok (gP b)else .error a.Ah,β):=by
 refine MW ?_;unfold dU;refine aF (β1:=β) (dr<|cp rfl rfl rfl)<|az<|vt g i e j (λz _=>⟨rfl,by rw[Nf z]⟩) λd k l=>?_;have h:=j8 (nv:=1) (bt:=[]) (it:=bM<|aa 0) (tg:=ej 0) (f:=qE n9<|ae (aa 0)<|ak) (δ:=vw<|Yj b r c k l) (β:=β) (gP b) D.l (λx=>x) rfl (λx _=>⟨_,rfl,rfl⟩) (bn<|by rw[MZ];exact e);rw[List.map_id']at h;exact ao<|nB h ⟨rfl,by rw[Ng d]⟩
theorem uu{r c:Nat}(b:r<=1000)(d:c<=1000):bL K a [.o,.n (r:Int),.n (c:Int)] β=My (.ok<|gP<|dX r c,β):=by
 refine sD ?_;unfold dU;refine fM (dr<|cp rfl rfl rfl)<|nB (Ex rfl<|FX b d) ⟨rfl,?_⟩;show P8 _ (NB r _)=_;rw[Pb,Pb];rfl
theorem wn{r c:Nat}{b:LP}:(dJ K a).1 [bF b,.n (r:Int),.n (c:Int)] β=My (.ok<|.c<|cE b r c,β):=by
 unfold dJ
 dsimp only
 refine aO ?_;refine aF (β1:=β) (dr<|cp rfl rfl rfl)<|az ?_;refine cV (c:=!decide ((Uc b:Int)=(r:Int))) (β1:=β) (dr<|cp (au rfl<|v6 (r:=Uc b)<|by rw[MZ]) rfl ne_int) ?_;by_cases H:Uc b=r
 case neg=>
  rw[Ng<|by simp;lia];refine aD rfl ⟨rfl,?_⟩;unfold cE;rw[Ob H];rfl
 rw[Nf<|by simp;lia];refine az ?_;refine cL (ds:=(gP b).map D.l) (β1:=β) rfl (λi E m=>β=m/\(∃B l,E=[My<|.h<|bF b,My<|.h<|.n (r:Int),My<|.h<|.n (c:Int),B,l])/\∀k<i,∀w,b[k]?=My w->(decide (Uc w=c)&&w.all fy)=M3) ⟨rfl,⟨M0,M0,rfl⟩,λk t=>by lia⟩ ?_ ?_
 .rintro i d E _ hd ⟨rfl,⟨B,l,rfl⟩,t⟩
  obtain⟨y,G,rfl⟩:=cK hd;obtain⟨w,f,rfl⟩:=cK G;have v:(decide (Uc w=c)&&w.all fy)=M5->cE b r c=M5:=λz=>by
   cases q:cE b r c with
   |false=>rfl
   |true=>
    have I:=gC.mp q;have L:=I.shp.2 w<|Nq f;have N:w.all fy=M3:=by
     rw[OM];exact λp u=>j5.mpr<|I.ok w (Nq f) p u
    rw[N,NC L]at z;cases z
  refine⟨_,rfl,?_⟩;refine cV (c:=!decide ((Uc w:Int)=(c:Int))) (β1:=β) (dr<|cp (au rfl<|bz (r:=Uc w)<|by rw[MZ]) rfl ne_int) ?_;by_cases C:Uc w=c
  case neg=>
   rw[Ng<|by simp;lia];refine aD rfl ⟨rfl,?_⟩;rw[v<|by rw[Ob C];rfl]
  rw[Nf<|by simp;lia];refine az<|ao ?_;refine cL (ds:=w.map pD) (β1:=β) rfl (λj E m=>β=m/\(∃l,E=[My<|.h<|bF b,My<|.h<|.n (r:Int),My<|.h<|.n (c:Int),My<|.h<|.l<|w.map pD,l])/\∀k<j,∀p,w[k]?=My p->fy p=M3) ⟨rfl,⟨l,rfl⟩,λk t=>by lia⟩ ?_ ?_
  .rintro j d E _ hd ⟨rfl,⟨l,rfl⟩,h⟩
   obtain⟨p,u,rfl⟩:=cK hd;refine⟨_,rfl,ao ?_⟩;refine cV (c:=decide (p.1<0)||(decide (p.2<p.1)||decide (40<p.2))) (β1:=β) (jL (dr (cp (cp rfl rfl rS) rfl lt_int)) (jL (dr (cp (cp rfl rfl wb) (cp rfl rfl rS) lt_int)) (dr (cp (cp rfl rfl wb) rfl gt_int)))) ?_;have J:fy p=!(decide (p.1<0)||(decide (p.2<p.1)||decide (40<p.2))):=by
    rw[Ru];simp only[fy,NN,NR,Qa,Q7,Pp];lia
   cases q:(decide (p.1<0)||(decide (p.2<p.1)||decide (40<p.2)))with
   |true=>
    rw[Ng rfl];refine aD rfl ⟨rfl,?_⟩;rw[v (by
     rw[NC C,P6];cases z:w.all fy with
     |false=>rfl
     |true=>
      rw[OM]at z;have:=z p<|Nq u;rw[J,q]at this;cases this)]
   |false=>
    rw[Nf Nb];refine az<|bK ⟨rfl,⟨_,rfl⟩,λk F O n=>?_⟩;by_cases z:k=j
    .subst z
     rw[u]at n;cases n;rw[J,q];rfl
    .exact h k (by lia) O n
  .rintro E _ ⟨rfl,⟨l,rfl⟩,h⟩
   rw[MZ]at h;refine bK ⟨rfl,⟨_,_,rfl⟩,λk F A o=>?_⟩;by_cases z:k=i
   .subst z
    rw[f]at o;cases o;rw[NC C,P6,OM];intro p u;obtain⟨k,g,e⟩:=PN u;exact h k g p<|Nd.mpr ⟨g,e⟩
   .exact t k (by lia) A o
 .rintro E _ ⟨rfl,⟨B,l,rfl⟩,t⟩
  rw[MZ,MZ]at t;refine ao<|aD rfl ⟨rfl,?_⟩;have:cE b r c=M3:=by
   unfold cE;rw[NC H,P6,OM];intro w Q;obtain⟨k,g,e⟩:=PN Q;exact t k g w<|Nd.mpr ⟨g,e⟩
  rw[this]
theorem CF{a:Type}{x:a}{l:List a}(h:x∈l.dropLast):x∈l:=by
 rw[WF]at h;exact OX h
theorem yo{b:LP}{r c:Nat}(h:Uc b≠r):cE b r c=M5:=by
 unfold cE;rw[Ob h];rfl
theorem yn{b:LP}{r c i:Nat}{row:a0C}(d:b[i]?=My row)(h:Uc row≠c):cE b r c=M5:=by
 cases q:cE b r c with
 |false=>rfl
 |true=>exact NH ((gC.mp q).shp.2 row<|Nq d) h
theorem pK{b:LP}{r c i j:Nat}{row:a0C}{p:Int×Int}(d:i<Uc b)(e:j<Uc row)(h:¬lr p):cE (b.set i<|row.set j p) r c=M5:=by
 cases q:cE (b.set i<|row.set j p) r c with
 |false=>rfl
 |true=>exact NH ((gC.mp q).ok (row.set j p) (Wz d _) p<|Wz e _) h
def Hi(r c:Nat)(b:LP)(d:D):Prop:=d= .o\/∃e,d=bF e/\Uc e<=30/\PB e/\(e=b\/cE e r c=M5)
theorem PB.set{b:LP}{i:Nat}{row:a0C}(h:PB b)(e:∀p∈row,-1000<=p.1/\p.1<=1000/\-1000<=p.2/\p.2<=1000):PB (b.set i row):=λq c p d=>by
 rcases Pf c with c|rfl
 .exact h q c p d
 .exact e p d
theorem Ey{r c:Nat}{b:LP}(z:1<=r)(r1:r<=20)(c0:1<=c)(c1:c<=20)(L:o1 r c b)(V:β.ok):∃(d:D) (v:Bg),(ff K a).1 [.bag,bF b] β=My (.ok d,v)/\Hi r c b d/\v.ok:=by
 suffices h:∃x v,(ff K a).1 [.bag,bF b] β=My (x,v)/\(∃d,x= .ok d/\Hi r c b d/\v.ok) by
  obtain⟨x,v,e,d,rfl,h⟩:=h;exact⟨d,v,e,h⟩
 have M:PB b:=o1.pb L;have t:=L.shp.1;obtain⟨n,y,F⟩:=L.shp.at (i:=0) (by lia);have I:(gP b)[0]?=My (n.map pD):=by rw[Nk,y];rfl
 unfold ff
 dsimp only
 refine gX ?_;refine yx (β1:=β) (rq rfl<|zJ<|by rw[MZ,t];lia) (qF _) ?_;obtain⟨N,β1,Z,i0,i1,O⟩:=bJ V (lot:=(r:Int)) (by lia) (by lia);refine vb (d:= .n N) (β1:=β1) (am (af rfl<|af (au rfl<|v6<|by rw[MZ,t]) rfl) Z) ?_;obtain⟨R,S,p2,j0,j1,T⟩:=bJ O (lot:=(c:Int)) (by lia) (by lia);refine vb (d:= .n R) (β1:=S) (am (af rfl<|af (au (af (x:= .l<|n.map pD) (cp rfl rfl<|lD I) rfl)<|bz<|by rw[MZ,F]) rfl) p2) ?_;obtain⟨i,rfl⟩:∃i:Nat,N=(i:Int):=⟨N.toNat,by lia⟩;obtain⟨j,rfl⟩:∃j:Nat,R=(j:Int):=⟨R.toNat,by lia⟩;obtain⟨row,C,o⟩:=L.shp.at (i:=i) (by lia);have U:(gP b)[i]?=My (row.map pD):=by rw[Nk,C];rfl
 have H:∀p∈row,-1000<=p.1/\p.1<=1000/\-1000<=p.2/\p.2<=1000:=M row<|Nq C;obtain⟨w,E,s,w0,w1,f⟩:=bJ T (lot:=9) (by decide) (by decide);refine aN (d:= .n w) (β1:=E) (am rfl s) ?_;have A:∀q:a0C,(gP b).set i (q.map pD)=gP (b.set i q):=λq=>by
  show _=P8 _ _;rw[Pd]
 have P:∀{p:Int×Int} {β4:Bg} {W:FD} {h:G} {Q:a0A},W (fh [My<|.h .bag,My<|.h<|bF b,My<|.grd<|gP b,My<|.h<|.n i,My<|.h<|.n j,My<|.h<|.n w]) E=My (.ok<|pD p,β4)->
   Gw h [My<|.h .bag,My<|.h<|bF b,My<|.grd<|gP<|b.set i<|row.set j p,My<|.h<|.n i,My<|.h<|.n j,My<|.h<|.n w] β4 Q->
   Gw (aB (ox 2 (aa 3) (aa 4) W) h) [My<|.h .bag,My<|.h<|bF b,My<|.grd<|gP b,My<|.h<|.n i,My<|.h<|.n j,My<|.h<|.n w] E Q:=λ{p β4 W h Q} e k=>by
  refine yw (d:=pD p) (a_:=gP b) (ds:=row.map pD) (ka:=i) (kb:=j) (ja:=i) (jb:=j) e rfl rfl rfl ?_ U ?_ rfl ?_
  .rw[MZ,t];exact eU (by lia) (by lia)
  .rw[MZ,o];exact eU (by lia) (by lia)
  .have p0:(gP b).set i ((row.map pD).set j<|pD p)=gP (b.set i<|row.set j p):=by rw[<-Pd,A]
   rw[p0];exact k
 have g:∀p:Int×Int,(-1000<=p.1/\p.1<=1000/\-1000<=p.2/\p.2<=1000)->PB (b.set i<|row.set j p):=λp hp=>M.set λq hq=>by
  rcases Pf hq with hq|rfl
  .exact H q hq
  .exact hp
 obtain rfl|rfl|rfl|rfl|rfl|rfl|rfl|rfl|rfl:w=0\/w=1\/w=2\/w=3\/w=4\/w=5\/w=6\/w=7\/w=8:=by lia
 .exact fM (dr<|cp rfl rfl rfl) (aD rfl ⟨_,rfl,.inl rfl,f⟩)
 .refine aF (dr<|cp rfl rfl rfl) (az<|fM (dr<|cp rfl rfl rfl)<|aD (cp rfl (au (af (au (af (x:= .l<|n.map pD) (cp rfl rfl<|lD I) rfl) rfl) rfl) rQ)<|sF ?_) ⟨_,rfl,.inr ⟨b++[n],?_,?_,?_,.inr<|yo ?_⟩,f⟩)
  .rw[MZ,MZ,t,N5];lia
  .show _=D.l _
   rw[No,No,Of];rfl
  .rw[Ni,t,N5];lia
  .intro q hq p hp
   rcases NU.mp hq with hq|hq
   .exact M q hq p hp
   .obtain rfl:q=n:=by simpa using hq
    exact M q (Nq y) p hp
  .rw[Ni,t,N5];lia
 .refine aF (dr<|cp rfl rfl rfl) (az<|aF (dr<|cp rfl rfl rfl)<|az<|fM (dr<|cp rfl rfl rfl)<|aD (Hq (xs:=(gP b).map D.l) (k:=-1) rfl<|x_1 rfl rfl) ⟨_,rfl,.inr ⟨b.dropLast,?_,?_,?_,.inr<|yo ?_⟩,f⟩)
  .rw[wL<|by rw[MZ,MZ,t];lia]
   show D.l _=D.l _;rw[No,No,X4]
  .rw[Ud,t];lia
  .exact λq hq p hp=>M q (CF hq) p hp
  .rw[Ud,t];lia
 .refine aF (dr<|cp rfl rfl rfl) (az<|aF (dr<|cp rfl rfl rfl)<|az<|aF (dr<|cp rfl rfl rfl)<|az<|fM (dr<|cp rfl rfl rfl) ?_)
  refine GC (ds:=(row++[(0,40)]).map pD) (a_:=gP b) (ka:=i) (ja:=i) (Y7 (cp rfl rfl<|lD U) (au (af (au rfl g9) rfl) rQ) ?_) rfl rfl ?_ (i5 _) (qF _) ?_
  .rw[Ld (by rw[MZ,o,N5];lia),Of];rfl
  .rw[MZ,t];exact eU (by lia) (by lia)
  rw[A];refine aF (dr<|cp rfl rfl rfl)<|az<|aF (dr<|cp rfl rfl rfl)<|az<|aF (dr<|cp rfl rfl rfl)<|az<|aF (dr<|cp rfl rfl rfl)<|az<|ao<|aD rfl ⟨_,rfl,.inr ⟨b.set i<|row++[(0,40)],rfl,?_,?_,.inr<|yn (i:=i) (row:=row++[(0,40)]) ?_ ?_⟩,f⟩
  .rw[N9,t];lia
  .refine M.set λp hp=>?_
   rcases NU.mp hp with hp|hp
   .exact H p hp
   .obtain rfl:p=(0,40):=by simpa using hp
    decide
  .rw[OO,Ng rfl,Ng<|by lia]
  .rw[Ni,o,N5];lia
 .refine aF (dr<|cp rfl rfl rfl) (az<|aF (dr<|cp rfl rfl rfl)<|az<|aF (dr<|cp rfl rfl rfl)<|az<|aF (dr<|cp rfl rfl rfl)<|az<|fM (dr<|cp rfl rfl rfl) ?_)
  refine GC (ds:=(row.dropLast).map pD) (a_:=gP b) (ka:=i) (ja:=i) (β1:=E) ?_ rfl rfl ?_ (i5 _) (qF _) ?_
  .rw[X4,<-wL (by rw[MZ,o];lia)]
   exact Ev (cp rfl rfl<|lD U)<|x_1 rfl rfl
  .rw[MZ,t];exact eU (by lia) (by lia)
  rw[A];refine aF (dr<|cp rfl rfl rfl)<|az<|aF (dr<|cp rfl rfl rfl)<|az<|aF (dr<|cp rfl rfl rfl)<|az<|ao<|aD rfl ⟨_,rfl,.inr ⟨b.set i row.dropLast,rfl,?_,?_,.inr<|yn (i:=i) (row:=row.dropLast) ?_ ?_⟩,f⟩
  .rw[N9,t];lia
  .exact M.set λp hp=>H p<|CF hp
  .rw[OO,Ng rfl,Ng<|by lia]
  .rw[Ud,o];lia
 .refine aF (dr<|cp rfl rfl rfl) (az<|aF (dr<|cp rfl rfl rfl)<|az<|aF (dr<|cp rfl rfl rfl)<|az<|aF (dr<|cp rfl rfl rfl)<|az<|aF (dr<|cp rfl rfl rfl)<|az<|fM (dr<|cp rfl rfl rfl) ?_)
  obtain⟨u,β4,J,X,Y,B⟩:=bJ f (lot:=2) (by decide) (by decide);refine P (p:=(0-1-u,40)) (β4:=β4) (au (af (cp rfl (am rfl J) rfl) rfl) g9) ?_;exact aF (dr<|cp rfl rfl rfl)<|az<|aF (dr<|cp rfl rfl rfl)<|az<|ao<|aD rfl ⟨_,rfl,.inr ⟨_,rfl,by rw[N9,t];lia,g _ ⟨by show -1000<=0-1-u;lia,by show 0-1-u<=1000;lia,by show(-1000:Int)<=40;decide,by show(40:Int)<=1000;decide⟩,.inr (pK (by lia) (by lia) λh=>by have:=h.l;simp only at this;lia)⟩,B⟩
 .refine aF (dr<|cp rfl rfl rfl) (az<|aF (dr<|cp rfl rfl rfl)<|az<|aF (dr<|cp rfl rfl rfl)<|az<|aF (dr<|cp rfl rfl rfl)<|az<|aF (dr<|cp rfl rfl rfl)<|az<|aF (dr<|cp rfl rfl rfl)<|az<|fM (dr<|cp rfl rfl rfl) ?_)
  obtain⟨u,β4,J,X,Y,B⟩:=bJ f (lot:=2) (by decide) (by decide);refine P (p:=(3,2-u)) (β4:=β4) (au (af rfl<|af (cp rfl (am rfl J) rfl) rfl) g9) ?_;exact aF (dr<|cp rfl rfl rfl)<|az<|ao<|aD rfl ⟨_,rfl,.inr ⟨_,rfl,by rw[N9,t];lia,g _ ⟨by show(-1000:Int)<=3;decide,by show(3:Int)<=1000;decide,by show -1000<=2-u;lia,by show 2-u<=1000;lia⟩,.inr (pK (by lia) (by lia) λh=>by have:=h.m;simp only at this;lia)⟩,B⟩
 .refine aF (dr<|cp rfl rfl rfl) (az<|aF (dr<|cp rfl rfl rfl)<|az<|aF (dr<|cp rfl rfl rfl)<|az<|aF (dr<|cp rfl rfl rfl)<|az<|aF (dr<|cp rfl rfl rfl)<|az<|aF (dr<|cp rfl rfl rfl)<|az<|aF (dr<|cp rfl rfl rfl)<|az<|fM (dr<|cp rfl rfl rfl) ?_)
  obtain⟨u,β4,J,X,Y,B⟩:=bJ f (lot:=2) (by decide) (by decide);refine P (p:=(0,41+u)) (β4:=β4) (au (af rfl<|af (cp rfl (am rfl J) rfl) rfl) g9) ?_;exact ao<|aD rfl ⟨_,rfl,.inr ⟨_,rfl,by rw[N9,t];lia,g _ ⟨by show(-1000:Int)<=0;decide,by show(0:Int)<=1000;decide,by show -1000<=41+u;lia,by show 41+u<=1000;lia⟩,.inr (pK (by lia) (by lia) λh=>by have:=h.h;simp only at this;lia)⟩,B⟩
 .exact aF (dr<|cp rfl rfl rfl) (az<|aF (dr<|cp rfl rfl rfl)<|az<|aF (dr<|cp rfl rfl rfl)<|az<|aF (dr<|cp rfl rfl rfl)<|az<|aF (dr<|cp rfl rfl rfl)<|az<|aF (dr<|cp rfl rfl rfl)<|az<|aF (dr<|cp rfl rfl rfl)<|az<|aF (dr<|cp rfl rfl rfl)<|az<|ao<|aD rfl ⟨_,rfl,.inr ⟨b,rfl,by lia,M,.inl rfl⟩,f⟩)
abbrev tN(l:a0a):D:=kc<|nI l
abbrev eN(b:a0a×Nat):D:= .t [tN b.1,.n (b.2:Int)]
abbrev pN(p:Nat×Nat):D:=pD ((p.1:Int),(p.2:Int))
def F0(r:a0a):Prop:=1<=Uc r/\Uc r<=4/\r.sum<=40/\pr (r.map (·+1))<=500
theorem z6{f g:FD}{δ:Dn}{x y:D}{ds a:a0e}(b:f δ β=My (.ok x,β))(c:g δ β=My (.ok y,β))(d:gi x=My ds)(e:gi y=My a):Fl (ae f<|ae g ak) δ β=My (.ok<|e9 ds a,β):=bH (af b<|af c rfl) (by
 unfold Eu;simp only[d,e,Qy,Pa])
theorem Zo{a:Nat}{h:Int}(b:-1000<=h)(c:h<=1000)(d:a<=1000):o8 [.n (a:Int),.n h]=My ((Nj (h-a).toNat).map λi=>D.n ((a+i:Nat):Int)):=by
 have e:o8 [.n (a:Int),.n h]=My (bi a (h-a).toNat):=by
  simp only[o8];rw[Ng<|by simp only[NN,NR];lia]
 rw[e];exact OG My (Oh λi _=>by congr 1)
theorem addT{l:a0a}{c:Nat}(h:Uc l<=100):lP (tN l) (.t [.n (c:Int)])=My (tN<|l++[c]):=by
 cases l with
 |nil=>rfl
 |cons x l=>
  show(if _ then _ else _)=_;rw[Ng<|bn<|by simp at h⊢;lia];simp[kc]
theorem AO(l:a0a)(k:Nat):gF [.l<|((nI l).map D.n).drop k]=My (.n (((l.drop k).sum:Nat):Int)):=by
 rw[<-R9,<-R9];exact(dZ _).trans (by rw[<-kM])
theorem AI:∀{r:a0a} {ps:a0l},(r.zip ps).map (λq=>D.n<|Q2 (q.1:Int) (q.2.2:Int))=(nI<|k_ ps r).map D.n
 |[],_=>by cases ‹a0l›<;>rfl
 |_::_,[]=>rfl
 |x::r,p::ps=>by
  have e:=AI (r:=r) (ps:=ps);show _::_=D.n ((Q2 x p.2:Nat):Int)::(nI<|k_ ps r).map D.n;rw[<-e];show D.n (Q2 (x:Int) (p.2:Int))::_=_;rw[show Q2 (x:Int) (p.2:Int)=((Q2 x p.2:Nat):Int) by lia];rfl
theorem AG:∀{a:a0l} {r:a0a} {k:Nat} (b:k<Uc a) (c:k<Uc r),(k_ a r)[k]?=My (Q2 r[k] a[k].2)
 |p::a,x::r,0,_,_=>rfl
 |p::a,x::r,k+1,b,c=>AG (k:=k) (by simpa using b) (by simpa using c)
abbrev wy(a:a0l)(r:a0a)(c:Nat)(w:D)(b d e:a0Q):Ds:=[My<|.h<|tN r,My<|.h<|.n (c:Int),My<|.h<|.l<|a.map pN,My<|.h<|.l<|(nI<|j_ a).map .n,My<|.h<|.l<|(nI<|k_ a r).map .n,My<|.h w,b,d,e]
theorem K1{w:a0l}{r:a0a}{c:Nat}(H:F0 r)(v:Uc w=Uc r)(A:∀p∈w,p.1<=40/\p.2<=40)(R:c<=40):(k9 K a).1 [tN r,.n (c:Int),.l<|w.map pN] β=My (.ok<|.l<|(vB w r c).map tN,β):=by
 obtain⟨_,T,G,U⟩:=H;have I:Uc r<=Nw:=bn (by lia);have o:∀k,k<=Uc r->Uc (mY w r c k)<=Nw:=λk m=>bn (NJ (xp c k m)<|NJ (GV r k)<|by lia);unfold k9
 dsimp only
 refine aO ?_;refine aN (d:= .l<|(nI<|j_ w).map .n) (β1:=β) ?_ ?_
 .have:=bu (nv:=2) (bt:=[]) (it:=bM<|aa 2) (tg:=xr<|fj (ej 0)<|fj (ej 1) kh) (f:=aa 0) (δ:=vw<|wy w r c .o M0 M0 M0) (β:=β) w pN (λp=> .n (p.1:Int)) rfl (λx _=>⟨[My<|.n (x.1:Int),My<|.n (x.2:Int)],rfl,rfl⟩) (by rw[v];exact I)
  refine Eq.trans this ?_;unfold j_;rw[No,No];rfl
 refine aN (d:= .l<|(nI<|k_ w r).map .n) (β1:=β) ?_ ?_
 .rw[<-AI]
  exact bu (nv:=3) (bt:=[]) (it:=Fl<|ae (aa 0)<|ae (aa 2)<|ak) (tg:=xr<|fj (ej 0)<|fj (xr<|fj (ej 1)<|fj (ej 2) kh) kh) (f:=aJ vX<|ae (aa 0)<|ae (aa 2)<|ak) (δ:=vw<|wy w r c .o M0 M0 M0) (β:=β) (r.zip w) (λq=>D.t [.n (q.1:Int),pN q.2]) _ (by
   rw[<-oW (λx:Nat=>D.n (x:Int)) pN];refine z6 (x:=tN r) (y:= .l<|w.map pN) rfl rfl ?_ rfl;show My _=My _;rw[No];rfl) (λq _=>⟨[My<|.n (q.1:Int),My<|.n (q.2.1:Int),My<|.n (q.2.2:Int)],rfl,au rfl Fp⟩) (bn<|by rw[Vr];lia)
 refine aN (d:= .l<|(mY w r c 0).map eN) (β1:=β) (au (af (au (af (au rfl rfl)<|af rfl rfl) g9) rfl) rQ) ?_;refine cL (ds:=bi 0<|Uc r) (β1:=β) (bH (af (au (z:= .n (Uc r:Int)) rfl (by show My (D.n _)=_;rw[MZ,MZ])) rfl)<|o_ (by lia)<|by lia) (λk δ C=>β=C/\∃B t u,δ=wy w r c (.l<|(mY w r c k).map eN) B t u) ⟨rfl,M0,M0,M0,rfl⟩ ?_ ?_
 .rintro k d δ _ hd ⟨rfl,B,t,u,rfl⟩
  obtain⟨m,rfl⟩:=GP hd;have j:k<Uc w:=by lia
  have J:w[k]?=My w[k]:=M9 j;have b40:=A _<|OC j;have W:(j_ w).sum<=160:=by
   have g:∀l:a0l,(∀p∈l,p.1<=40/\p.2<=40)->(j_ l).sum<=40*Uc l:=λl=>by
    induction l with
    |nil=>intro _;exact Nh _
    |cons p l E=>
     intro h;have:=E λq v=>h q<|M2 _ v;have:=(h p M7).1;simp only[j_,Nv,NZ,Np]at*;lia
   have:=g w A;lia
  have F:∀(l:a0a) (n:Nat),(l.drop n).sum<=l.sum:=λl n=>by
   conv=>rhs;rw[<-NV n l,Vt]
   lia
  have L:=F (j_ w)<|k+1;have N:=NJ (F (k_ w r)<|k+1) AF;refine⟨wy w r c (.l<|(mY w r c k).map eN) (My<|.h<|.n (k:Int)) t u,rfl,?_⟩;refine aN (d:= .n ((((j_ w).drop<|k+1).sum:Nat):Int)) (β1:=β) (au (af (sN rfl<|cp rfl rfl rfl) rfl)<|(OG (λl=>gF [.l l])<|wM (k:=k+1)).trans<|AO _ _) ?_;refine aN (d:= .n ((((k_ w r).drop<|k+1).sum:Nat):Int)) (β1:=β) (au (af (sN rfl<|cp rfl rfl rfl) rfl)<|(OG (λl=>gF [.l l])<|wM (k:=k+1)).trans<|AO _ _) ?_;refine ao<|aN (d:= .l<|(mY w r c<|k+1).map eN) (β1:=β) ?_<|bK ⟨rfl,_,_,_,rfl⟩;have e:(mY w r c<|k+1).map eN=(mY w r c k).flatMap λb=>(Ym r[k] w[k] ((j_ w).drop<|k+1).sum ((k_ w r).drop<|k+1).sum b).map eN:=by
   show((mY w r c k).flatMap _).map eN=_;rw[PF,pz m,pz j]
  rw[e];refine yj (mY w r c k) eN _ rfl (λb A=>⟨[My<|tN b.1,My<|.n (b.2:Int),M0,My<|.l<|(nI<|j_ w).map .n,My<|.n (k:Int),My<|.n ((((k_ w r).drop<|k+1).sum:Nat):Int),My<|.l<|(nI<|k_ w r).map .n,My<|.n ((((j_ w).drop<|k+1).sum:Nat):Int)],rfl,?_⟩) (by
   rw[<-e,MZ];exact o (k+1) m)
  obtain⟨X,M⟩:=AU w r c k b A;have P:=oi<|OC m;unfold Ym;generalize ((j_ w).drop<|k+1).sum=few at*;generalize ((k_ w r).drop<|k+1).sum=most at*;refine(BZ (Nj<|Q2 (Q2 r[k] w[k].2+few) b.2+1-few-TK w[k].1 (b.2-most)) (λi=>D.n ((TK w[k].1 (b.2-most)+i:Nat):Int)) (λi=>eN (b.1++[TK w[k].1 (b.2-most)+i],b.2-(TK w[k].1 (b.2-most)+i))) ?_ ?_).trans (by rw[No];rfl)
  .refine bH (as:=[.n ((TK w[k].1 (b.2-most):Nat):Int),.n<|Q2 ((Q2 r[k] w[k].2:Nat):Int) ((b.2:Int)-few)+1]) (af (au (af (cp rfl rfl<|dE (d:= .n (w[k].1:Int)) ?_)<|af (cp rfl rfl rfl) rfl)<|Kl.trans ?_)<|af (cp (au (af (cp rfl rfl<|dE (d:= .n ((Q2 r[k] w[k].2:Nat):Int)) ?_)<|af (cp rfl rfl rfl) rfl) Fp) rfl rfl) rfl) ((Zo (by lia) (by lia)<|by lia).trans ?_)
   .unfold j_
    rw[Nk,Nk,Nk,J];rfl
   .rw[show TK (w[k].1:Int) ((b.2:Int)-(most:Int))=((TK w[k].1 (b.2-most):Nat):Int) by lia]
   .rw[Nk,Nk,AG j m];rfl
   .rw[show(Q2 ((Q2 r[k] w[k].2:Nat):Int) ((b.2:Int)-few)+1-((TK w[k].1 (b.2-most):Nat):Int)).toNat=Q2 (Q2 r[k] w[k].2+few) b.2+1-few-TK w[k].1 (b.2-most) by generalize Q2 r[k] w[k].2=x;generalize TK w[k].1 (b.2-most)=y;lia]
  .refine λi O=>⟨[My<|tN b.1,My<|.n (b.2:Int),My<|.n ((TK w[k].1 (b.2-most)+i:Nat):Int),My<|.l<|(nI<|j_ w).map .n,My<|.n (k:Int),My<|.n (most:Int),My<|.l<|(nI<|k_ w r).map .n,My<|.n (few:Int)],rfl,au (af (cp rfl (au rfl rfl)<|addT (l:=b.1) (c:=TK w[k].1 (b.2-most)+i)<|by lia)<|af (cp rfl rfl rfl) rfl)<|g9.trans ?_⟩
   have Q:=NQ.mp O;show My (D.t [_,.n _])=My (D.t [_,.n _]);rw[show(b.2:Int)-((TK w[k].1 (b.2-most)+i:Nat):Int)=((b.2-(TK w[k].1 (b.2-most)+i):Nat):Int) by lia]
 .rintro δ _ ⟨rfl,B,t,u,rfl⟩
  rw[vH];have h:=lN (nv:=2) (bt:=[]) (it:=bM<|aa 5) (tg:=xr<|fj (ej 0)<|fj (ej 1) kh) (tt:=fB<|f2 (ib) (aa 1)<|fC<|.n 0) (f:=aa 0) (δ:=fh<|wy w r c (.l<|(mY w r c<|Uc r).map eN) B t u) (β:=β) (mY w r c<|Uc r) eN (λb=>tN b.1) (λb=>decide ((b.2:Int)=0)) rfl (λb _=>⟨[My<|tN b.1,My<|.n (b.2:Int)],rfl,dr<|cp rfl rfl eq_int,λ_=>rfl⟩)<|o _<|Nh _;refine ao<|aD h ⟨rfl,?_⟩;rw[<-HI v,No];rfl
theorem wR{E:Type}{G:ky}{b:FL}{K:Dn}{β:Bg}(u:E->D)(o:E->a0e):∀(w:List E),(∀x∈w,∃a,G (u x) K=My a/\b a β=My (.ok<|o x,β))->ko G (λ_=>M.f5 M3) b (w.map u) K β=My (.ok<|w.flatMap o,β)
 |[],_=>rfl
 |x::w,h=>by
  obtain⟨a,c,d⟩:=h x M7;have e:=wR u o w λy P=>h y<|M2 _ P;rw[Nv,ko];simp only[c,M.v,M.f5,reduceIte,d,e,Pj]
theorem lO{E:Type}{K:Nat}{P:a0a}{S:FL}{V:ky}{b:FL}{c:a0e->a0k}{G:Dn}{β:Bg}{d:D}(w:List E)(u:E->D)(o:E->a0e)(e:S G β=My (.ok<|w.map u,β))
  (f:∀x∈w,∃a,V (u x) (io K P G)=My a/\b a β=My (.ok<|o x,β)) (g:c (w.flatMap o)=My d):iE K P S V (λ_=>M.f5 M3) b c G β=My (.ok d,β):=by
 unfold iE;rw[e];simp only[wR u o w f,g,Pa]
theorem L5{E:Type}{K:FL}{P:ky}{b:FL}{G:Dn}{β:Bg}(w:List E)(u:E->D)(o:E->a0e)(c:K G β=My (.ok<|w.map u,β))(d:∀x∈w,∃a,P (u x) G=My a/\b a β=My (.ok<|o x,β)):uy K P (λ_=>M.f5 M3) b G β=My (.ok<|w.flatMap o,β):=by
 unfold uy M.v;rw[c];exact wR u o w d
noncomputable abbrev uZ(B:a1c):LP:=B.map λa=>a.map λp=>((p.1:Int),(p.2:Int))
abbrev W_(B:a1c):D:=bF<|uZ B
noncomputable def wP(B:a1c)(k:Nat):a0l:=B.map λa=>a.getD k (0,0)
def YB(r c:Nat)(B:a1c):Prop:=jm r c B/\∀a∈B,∀p∈a,p.1<=p.2/\p.2<=40
def wB(B:a1c)(a:a0a):Wy:=λk r=>vB (wP B k) r<|a.getD k 0
theorem Lp(B:a1c)(a:a0a):X1 a (wB B a):=λk r=>QA
theorem YB.col{r c k:Nat}{B:a1c}(h:YB r c B)(e:k<c):Uc (wP B k)=r/\∀p∈wP B k,p.1<=40/\p.2<=40:=by
 refine⟨by unfold wP;rw[MZ,h.1.1],λp d=>?_⟩;obtain⟨a,b,rfl⟩:=NE.mp d;have l:=h.1.2 a b;rw[pz<|by lia];have:=h.2 a b _<|OC (show k<Uc a by lia);lia
theorem IW{r E:a0a}{B:a1c}{k:Nat}(c:F0 r)(hB:YB (Uc r) (Uc E) B)(i:E.sum<=40)(e:k<Uc E):(cT K a).1 [tN r,nL E,W_ B,.n (k:Int)] β=My (.ok<|.l<|(wB B E k r).map tN,β):=by
 have g:E[k]?=My (E.getD k 0):=by rw[Nz,M9 e];rfl
 obtain⟨l,q⟩:=hB.col e;unfold cT
 dsimp only
 refine aO<|ao<|aD (am (af rfl<|af (cp rfl rfl<|dE (d:= .n (E.getD k 0:Int))<|by rw[Nk,Nk,g];rfl)<|af ?_ rfl)<|K1 c l q<|NJ (oi<|Nq g) i) ⟨rfl,rfl⟩;have h:=bu (nv:=1) (bt:=[3]) (it:=bM<|aa 2) (tg:=ej 0) (f:=f2 i4 (aa 0)<|aa 1) (δ:=[My<|tN r,My<|nL E,My<|W_ B,My<|.n (k:Int)]) (β:=β) B (λw=>D.l<|w.map pN) (λw=>pN<|w.getD k (0,0)) (eQ rfl (by
  show My _=My _;rw[No,No];exact OG My<|Oh λw _=>OG D.l (by show P8 pD (P8 _ w)=_;rw[No];rfl))) (λw b=>⟨[My<|D.l<|w.map pN,My<|.n (k:Int)],rfl,cp rfl rfl<|dE (by
   have l:=hB.1.2 w b;rw[Nk,pz (by lia),M9<|by lia];rfl)⟩)<|bn (by rw[hB.1.1];have:=c.2.1;lia)
 refine h.trans ?_;unfold wP;rw[No];rfl
theorem CP:∀{r v:a0a},lv v r->(r.zip v).map (λp=>D.n<|(p.1:Int)-(p.2:Int))=(nI<|less r v).map D.n
 |[],[],_=>rfl
 |x::r,y::v,h=>by
  have e:=CP h.2;have b:=h.1;show _::_=D.n ((x-y:Nat):Int)::(nI<|less r v).map D.n;rw[<-e];show D.n ((x:Int)-(y:Int))::_=_;rw[show(x:Int)-(y:Int)=((x-y:Nat):Int) by lia];rfl
 |[],_::_,h=>h.elim
 |_::_,[],h=>h.elim
theorem GQ{r v:a0a}(h:lv v r)(b:Uc r<=4):(fQ K a).1 [tN r,tN v] β=My (.ok<|tN<|less r v,β):=by
 unfold fQ
 dsimp only
 refine aO<|ao<|aD (au (af (x:= .l<|(nI<|less r v).map D.n) ?_ rfl) rfl) ⟨rfl,rfl⟩;rw[<-CP h];refine bu (r.zip v) (λp=>D.t [.n (p.1:Int),.n (p.2:Int)]) _ ?_ (λp _=>⟨[My<|.n (p.1:Int),My<|.n (p.2:Int)],rfl,rfl⟩) (bn<|by rw[Vr];lia);rw[<-oW (λx:Nat=>D.n (x:Int)) (λx:Nat=>D.n (x:Int))];refine z6 (x:=tN r) (y:=tN v) rfl rfl ?_ ?_
 .show My _=My _
  rw[No];rfl
 .show My _=My _
  rw[No];rfl
structure Nt0 (rs cs:a0a):Prop where
 nr:F0 rs
 wd:∀s,Uc (bQ rs s)<76
 sm:rs.sum=cs.sum
 c1:1<=Uc cs
 c6:Uc cs<=6
structure B3 (K:ND) (a:Ad) (rs cs:a0a) (W:Wy) (bd:D):Prop extends Nt0 rs cs where
 ok:X1 cs W
 fl:∀{β:Bg} {k:Nat} {r:a0a},k<Uc cs->F0 r->Uc r=Uc rs->(cT K a).1 [tN r,nL cs,bd,.n (k:Int)] β=My (.ok<|.l<|(W k r).map tN,β)
theorem B3.at{rs cs r:a0a}{k:Nat}{W:Wy}{w:D}(h:B3 K a rs cs W w)(b:k<=Uc cs)(c:r∈js W rs k):F0 r/\Uc r=Uc rs/\r.sum<=40:=by
 have q:=(kN h.ok h.sm k b r c).1;obtain⟨d,e,f,g⟩:=h.nr;have E:=q.len;have G:=q.sum;have M:=q.pr;exact⟨⟨by lia,by lia,by lia,by lia⟩,E,by lia⟩
abbrev tx(W:Wy)(a:a0a)(k:Nat):D:= .l<|(js W a k).map tN
theorem Fi{w cs:a0a}{W:Wy}{E:D}(h:B3 K a w cs W E):(gu K a).1 [nL w,nL cs,E] β=My (.ok<|.l<|(Nj<|Uc cs+1).map<|tx W w,β):=by
 have M:=h.c6;unfold gu
 dsimp only
 refine aO ?_;refine aN (d:=tx W w 0) (β1:=β) (au (af (au rfl rfl) rfl) rQ) ?_;refine GD (ds:=[tx W w 0]) (β1:=β) rfl (show 1<=Nw by decide) ?_;refine cL (ds:=bi 0<|Uc cs) (β1:=β) (bH (af (au rfl<|bz (r:=Uc cs)<|by rw[MZ,MZ]) rfl)<|o_ (by lia)<|by lia) (λk G b=>β=b/\∃c e,G=[My<|.h<|nL w,My<|.h<|nL cs,My<|.h<|E,My<|.h<|tx W w k,My<|.u<|(Nj<|k+1).map<|tx W w,c,e]) ⟨rfl,M0,M0,rfl⟩ ?_ ?_
 .rintro k d G _ hd ⟨rfl,c,e,rfl⟩
  obtain⟨f,rfl⟩:=GP hd;refine⟨_,rfl,aN (d:=tx W w<|k+1) (β1:=β) ?_<|GE (cs:=(Nj<|k+1).map<|tx W w) (d:=tx W w<|k+1) rfl rfl (NM (show _<1000 by rw[MZ,NS];lia)<|by decide)<|ao<|aN (d:=tx W w<|k+1) (β1:=β) rfl<|bK ⟨rfl,My<|.h<|.n (k:Int),My<|.h<|tx W w<|k+1,?_⟩⟩
  .refine lO (js W w k) tN (λr=>(W k r).map λv=>tN<|less r v) rfl (λr i=>⟨[My<|tN r,M0,My<|nL cs,My<|E,My<|.n (k:Int)],rfl,?_⟩) ?_
   .obtain⟨g,j,_⟩:=h.at (by lia) i
    exact BZ _ tN _ (eQ (am rfl<|h.fl f g j) rfl) (λv l=>⟨[My<|tN r,My<|tN v,My<|nL cs,My<|E,My<|.n (k:Int)],rfl,am rfl<|GQ (jh<|(h.ok k r).subset l) g.2.1⟩)
   .rw[<-Iw h.ok h.sm h.nr.1 h.wd f]
    unfold I_;rw[PF];simp only[No];rfl
  .rw[PR (n:=k+1),Of];rfl
 .rintro G _ ⟨rfl,c,e,rfl⟩
  rw[vH];exact ao<|aD rfl ⟨rfl,rfl⟩
theorem v7:∀{xs:a0b},(∀x∈xs,0<=x)->∀x∈xs,x<=xs.sum
 |[],_,_,h=>by cases h
 |y::xs,hn,x,h=>by
  have D:0<=xs.sum:=by
   clear h
   have b:∀x∈xs,0<=x:=λz c=>hn z<|M2 _ c
   clear hn
   induction xs with
   |nil=>simp
   |cons z xs a=>
    have:=a λw d=>b w<|M2 _ d;have:=b z M7;simp only[NZ];lia
  have E:=hn y M7;simp only[NZ];rcases Nn.mp h with rfl|h
  .lia
  .have:=v7 (xs:=xs) (λz c=>hn z<|M2 _ c) x h
   lia
theorem EI{w D:a0b}(h:bS w D=M3):Uc w<=4/\Uc D<=6/\(∀x∈w,0<=x/\x<=40)/\(∀x∈D,0<=x/\x<=40):=by
 unfold bS at h;simp only[NN,Qa,Q7,NR,Pp,QX]at h;obtain⟨⟨⟨⟨⟨K,M⟩,P,c⟩,G,c2⟩,S⟩,d⟩:=h;have E:∀x∈w,0<=x:=λx a=>by have:=G x a;lia
 have b:∀x∈D,0<=x:=λx a=>by have:=c2 x a;lia
 refine⟨by lia,by lia,λx a=>⟨E x a,?_⟩,λx a=>⟨b x a,?_⟩⟩
 .have:=v7 E x a;lia
 .have:=v7 b x a;lia
theorem k4{a w:a0b}(h:bS a w=M3):1<=Uc a/\Uc a<=4/\1<=Uc w/\Uc w<=6/\(∀x∈a,0<=x)/\(∀x∈w,0<=x)/\a.sum=w.sum/\a.sum<=40:=by
 unfold bS at h;simp only[NN,Qa,Q7,NR,Pp,QX]at h;obtain⟨⟨⟨⟨⟨K,M⟩,P,b⟩,E,c2⟩,G⟩,c⟩:=h;exact⟨by lia,by lia,by lia,by lia,λx D=>by have:=E x D;lia,λx D=>by have:=c2 x D;lia,G,by lia⟩
def Wd(w D:a0b):Prop:=bS w D=M3->∀a:a0a,w=nI a->pr (a.map (·+1))<=500->∀s,Uc (bQ a s)<76
theorem Eg{i:Type}{nv:Nat}{bt:a0a}{it:FL}{tg:ky}{f:FD}{δ:Dn}{β g:Bg}{w:a0e}(c:i->D)(P:i->Prop)(p:it δ β=My (.ok w,g))(G:g.ok)
  (q:∀d∈w,∀β:Bg,β.ok->∃a y b,tg d (io nv bt δ)=My a/\f a β=My (.ok<|c y,b)/\P y/\b.ok) (r:Uc w<=Nw):
  ∃(E:List i) (b:Bg),eV nv bt it tg (λ_=>M.f5 M3) (hL f) δ β=My (.ok<|E.map c,b)/\Uc E=Uc w/\(∀y∈E,P y)/\b.ok:=by
 have K:∀(w:a0e) (β:Bg),β.ok->(∀d∈w,∀β:Bg,β.ok->∃a y b,tg d (io nv bt δ)=My a/\f a β=My (.ok<|c y,b)/\P y/\b.ok)->∃(E:List i) (b:Bg),ko tg (λ_=>M.f5 M3) (hL f) w (io nv bt δ) β=My (.ok<|E.map c,b)/\Uc E=Uc w/\(∀y∈E,P y)/\b.ok:=by
  intro w
  induction w with
  |nil=>intro β G _;exact⟨[],β,rfl,rfl,λ_ h=>(by cases h),G⟩
  |cons d w s=>
   intro β G h;obtain⟨a,y,S,t,u,j,k⟩:=h d M7 β G;obtain⟨E,V,v,l,m,n⟩:=s S k λx A=>h x<|M2 _ A;refine⟨y::E,V,?_,by simp[l],λz hz=>?_,n⟩
   .rw[ko]
    simp only[t,M.v,M.f5,reduceIte,hL,u,v,Nv,O4,ON]
   .rcases Nn.mp hz with rfl|hz
    .exact j
    .exact m z hz
 obtain⟨E,b,e,l,j,o⟩:=K w g G q;refine⟨E,b,?_,l,j,o⟩;unfold eV;simp only[p,e,MZ,l,r,Ol]
def Bd(n:Nat)(m:Int)(xs:a0b):Prop:=Uc xs<=n/\∀x∈xs,-m<=x/\x<=m
theorem Bd.sum{n:Nat}{m:Int}:∀{xs:a0b},(∀x∈xs,-m<=x/\x<=m)->-(m*(Uc xs:Int))<=xs.sum/\xs.sum<=m*(Uc xs:Int)
 |[],_=>by simp
 |x::xs,h=>by
  have b:=h x M7;have c:=Bd.sum (n:=n) (xs:=xs) λy a=>h y<|M2 _ a;have e:m*((Uc (x::xs):Nat):Int)=m*(Uc xs:Int)+m:=by
   rw[Np,Sv,Int.mul_add];simp
  rw[e,NZ];lia
theorem Bd.set{n:Nat}{m m':Int}{xs:a0b}{i:Nat}{v:Int}(h:Bd n m xs)(w:m<=m')(b:-m'<=v)(c:v<=m'):Bd n m' (xs.set i v):=⟨by rw[N9];exact h.1,λx a=>by
 rcases Pf a with a|rfl
 .have:=h.2 x a;lia
 .exact⟨b,c⟩⟩
theorem Bd.up{n:Nat}{m m':Int}{xs:a0b}(h:Bd n m xs)(w:m<=m'):Bd n m' xs:=⟨h.1,λx a=>by have:=h.2 x a;lia⟩
theorem Bd.sm{n:Nat}{m:Int}{xs:a0b}(h:Bd n m xs)(w:n<=30)(D:m<=1000):Sm xs:=⟨by have:=h.1;lia,λx a=>by have:=h.2 x a;lia⟩
abbrev wS(a E:a0b)(w:Int):Ds:=[My<|.h .bag,My<|.u<|a.map D.n,My<|.u<|E.map D.n,My<|.h<|.n w]
theorem wc{n:Nat}(h:0<n):lb n (-1)=My (n-1):=by
 unfold lb;rw[Nf<|by lia]
 first
  |(rw[Ng (by lia)];congr 1;lia)
  |(simp;lia)
theorem Hg{xs:a0b}(h:0<Uc xs):∃x∈xs,i4 (iL xs) (.n<|-1)=My (.n x):=by
 obtain⟨x,a⟩:=u4 (l:=xs) (i:=Uc xs-1) (by lia);refine⟨x,Nq a,?_⟩;show p4 (xs.map D.n) (-1)=_;unfold p4;rw[MZ,wc h];show(xs.map D.n)[Uc xs-1]?=_;rw[Nk,a];rfl
theorem G3{xs:a0b}{i:Nat}(h:i<Uc xs):∃x∈xs,i4 (iL xs) (.n (i:Int))=My (.n x):=by
 obtain⟨x,a⟩:=u4 (l:=xs) (i:=i) h;exact⟨x,Nq a,dE<|by rw[Nk,a];rfl⟩
def Gx(xs:a0b):Prop:=(∀x∈xs,x<=5)\/xs.sum=41\/∃x∈xs,x<0
def WI(b c w:Int)(δ:Ds)(β:Bg):Prop:=β.ok/\∃a D,δ=wS a D w/\Bd 5 b a/\Bd 7 c D/\Gx a
theorem Hu{β:Bg}(z:β.ok):∃(xs E:a0b) (j:Bg),(gm K a).1 [.bag] β=My (.ok<|.t [iL xs,iL E],j)/\Sm xs/\Sm E/\(Uc xs<=5/\Uc E<=7)/\Gx xs/\j.ok:=by
 suffices h:∃g j,(gm K a).1 [.bag] β=My (g,j)/\(∃xs E:a0b,g= .ok (.t [iL xs,iL E])/\Sm xs/\Sm E/\(Uc xs<=5/\Uc E<=7)/\Gx xs/\j.ok) by
  obtain⟨g,j,e,xs,E,rfl,U,W,X⟩:=h;exact⟨xs,E,j,e,U,W,X⟩
 unfold gm
 dsimp only
 refine gX ?_;have go:∀{β:Bg} (lot n:Int),β.ok->0<n->n<100->0<lot->lot<100->∀δ:Dn,δ.getD 0 M0=My .bag->∃(xs:a0b) (j:Bg),eV 1 [0] (bP cQ<|ae (bC fS<|ae (aa 0)<|ae (fC<|.n n)<|ak)<|ak) (ej 0) (λ_=>M.f5 M3) (hL<|bC fS<|ae (aa 1)<|ae (fC<|.n lot)<|ak) δ β=My (.ok<|xs.map D.n,j)/\(Uc xs:Int)<n/\(∀x∈xs,0<=x/\x<lot)/\j.ok:=by
  intro β lot n z Y n1 l0 l1 δ F;obtain⟨v,β1,Z,v0,v1,u⟩:=bJ z (lot:=n) Y (by lia);have L:io 1 [0] δ=[M0,My .bag]:=by
   unfold io;simp only[Nv,Qj,F];rfl
  obtain⟨xs,β2,e,l,hp,A⟩:=Eg (nv:=1) (bt:=[0]) (it:=bP cQ<|ae (bC fS<|ae (aa 0)<|ae (fC<|.n n)<|ak)<|ak) (tg:=ej 0) (f:=bC fS<|ae (aa 1)<|ae (fC<|.n lot)<|ak) (δ:=δ) (β:=β) D.n (λx=>0<=x/\x<lot) (bH (af (am (af (gf F)<|af rfl rfl) Z) rfl)<|o_ v0<|by lia) u (λd _ j N=>by
   obtain⟨y,G,J,y0,y1,m⟩:=bJ N (lot:=lot) l0 (by lia);exact⟨[My d,My .bag],y,G,by rw[L];rfl,am rfl J,⟨y0,y1⟩,m⟩) (bn<|by simp[bi];lia)
  refine⟨xs,β2,e,?_,hp,A⟩;rw[l];simp[bi];lia
 obtain⟨xs,β1,R,lx,V,u⟩:=go 6 6 z (by decide) (by decide) (by decide) (by decide) [My .bag,M0,M0,M0] rfl;refine AA (β1:=β1) R ?_;obtain⟨E,β2,T,ly,S,A⟩:=go 5 8 u (by decide) (by decide) (by decide) (by decide) [My .bag,M0,M0,M0] rfl;refine AA (β1:=β2) T ?_;obtain⟨w,G,J,w0,w1,m⟩:=bJ A (lot:=8) (by decide) (by decide);refine aN (d:= .n w) (β1:=G) (am rfl J) ?_;have k:Bd 5 5 xs:=⟨by lia,λx h=>by have:=V x h;lia⟩;have b:Bd 7 5 E:=⟨by lia,λx h=>by have:=S x h;lia⟩;have p:Gx xs:= .inl λx h=>by have:=V x h;lia
 clear V S lx ly R T go
 have el:∀{n:Nat} {r:a0b} {δ:Dn} {β:Bg},δ.getD n M0=My (iL r)->aJ cW (ae (aa n) ak) δ β=My (.ok<|.n (Uc r:Int),β):=λ{n r δ β} e=>au (af (gf e) rfl) (bz<|by rw[MZ]);have s:∀{n:Nat} {r:a0b} {δ:Dn} {β:Bg},δ.getD n M0=My (iL r)->aJ gF (ae (aa n) ak) δ β=My (.ok<|.n r.sum,β):=λ{n r δ β} e=>au (af (gf e) rfl)<|dZ r;refine pR (WI 5 100 w) ?_ ?_
 .refine ao (cV (c:=decide (0<w)&&decide (0<(Uc E:Int))) (β1:=G) (pP (dr<|cp rfl rfl gt_int)<|dr<|cp (el rfl) rfl gt_int) ?_)
  by_cases q:0<w/\0<(Uc E:Int)
  .rw[Ng<|by simpa using q]
   obtain⟨y,S,H⟩:=Hg (xs:=E) (by lia);have sx:=Bd.sum (n:=5) k.2;have sy:=Bd.sum (n:=7) b.2;have I:=b.2 y S;have lx:=k.1;have ly:=b.1;refine nC (d:= .n<|y+xs.sum-E.sum) (β1:=G) (β2:=G) (cs:=E.map D.n) (ka:=-1) (ja:=Uc E-1) (cp (cp (cp rfl rfl H) (s rfl) rfl) (s rfl) rfl) rfl rfl (by rw[MZ];exact wc<|by lia) ?_;rw[<-Pd (f:=D.n)];exact f6 ⟨m,xs,_,rfl,k,b.set (by decide) (by lia) (by lia),p⟩
  .rw[Nf<|by simpa using q]
   exact az<|f6 ⟨m,xs,E,rfl,k,b.up (by decide),p⟩
 clear k b m J
 rintro δ P ⟨B,xs,E,rfl,k,b,p⟩;refine pR (WI 100 900 w) ?_ ?_
 .refine ao (cV (c:=decide (w=1)&&(decide (0<(Uc xs:Int))&&decide (0<(Uc E:Int)))) (β1:=P) (pP (dr<|cp rfl rfl eq_int)<|pP (dr<|cp (el rfl) rfl gt_int)<|dr<|cp (el rfl) rfl gt_int) ?_)
  by_cases q:w=1/\0<(Uc xs:Int)/\0<(Uc E:Int)
  .rw[Ng<|by simpa using q]
   obtain⟨y,S,H⟩:=Hg (xs:=E) (by lia);obtain⟨x,t,rfl⟩:∃x t,xs=x::t:=by cases xs with|nil=>simp at q|cons x t=>exact⟨x,t,rfl⟩
   have ex:i4 (iL<|x::t) (.n 0)=My (.n x):=dE (by rfl);have sx:=Bd.sum (n:=5) k.2;have sy:=Bd.sum (n:=7) b.2;have I:=b.2 y S;have O:=k.2 x M7;have lx:=k.1;have ly:=b.1;refine nE<|nC (d:= .n<|x+41-(x::t).sum) (β1:=P) (β2:=P) (cs:=(x::t).map D.n) (ka:=0) (ja:=0) (cp (cp (cp rfl rfl ex) rfl rfl) (s rfl) rfl) rfl rfl (by rw[MZ];exact eU (by decide)<|by lia) ?_;rw[<-Pd (f:=D.n)];refine nC (d:= .n<|y+41-E.sum) (β1:=P) (β2:=P) (cs:=E.map D.n) (ka:=-1) (ja:=Uc E-1) (cp (cp (cp rfl rfl H) rfl rfl) (s rfl) rfl) rfl rfl (by rw[MZ];exact wc<|by lia) ?_;rw[<-Pd (f:=D.n)];exact f6 ⟨B,_,_,rfl,k.set (by decide) (by lia) (by lia),b.set (by decide) (by lia) (by lia),.inr<|.inl (by show(_::t).sum=41;rw[NZ,NZ];lia)⟩
  .rw[Nf<|by simpa using q]
   exact az<|f6 ⟨B,xs,E,rfl,k.up (by decide),b.up (by decide),p⟩
 clear k b B
 rintro δ o ⟨C,xs,E,rfl,k,b,p⟩;refine pR (WI 300 900 w) ?_ ?_
 .refine ao (cV (c:=decide (w=2)&&decide (1<(Uc xs:Int))) (β1:=o) (pP (dr<|cp rfl rfl eq_int)<|dr<|cp (el rfl) rfl gt_int) ?_)
  by_cases q:w=2/\1<(Uc xs:Int)
  .rw[Ng<|by simpa using q]
   obtain⟨x,V,ex⟩:=G3 (xs:=xs) (i:=0) (by lia);obtain⟨y,S,H⟩:=G3 (xs:=xs) (i:=1) (by lia);have O:=k.2 x V;have I:=k.2 y S;refine nE<|nC (d:= .n<|x+y+2) (β1:=o) (β2:=o) (cs:=xs.map D.n) (ka:=0) (ja:=0) (cp (cp (cp rfl rfl ex) (cp rfl rfl H) rfl) rfl rfl) rfl rfl (by rw[MZ];exact eU (by decide)<|by lia) ?_;rw[<-Pd (f:=D.n)];refine Jd (d:= .n<|0-2) (β1:=o) (β2:=o) (cs:=(xs.set 0<|x+y+2).map D.n) (ka:=1) (ja:=1) rfl rfl rfl (by rw[MZ,N9];exact eU (by decide)<|by lia) ?_;rw[<-Pd (f:=D.n)];exact f6 ⟨C,_,_,rfl,(k.set (m':=300) (by decide) (by lia)<|by lia).set (by decide) (by decide) (by decide),b,.inr<|.inr ⟨0-2,Wz (by rw[N9];lia) _,by decide⟩⟩
  .rw[Nf<|by simpa using q]
   exact az<|f6 ⟨C,xs,E,rfl,k.up (by decide),b,p⟩
 clear k b C
 rintro δ ab ⟨Q,xs,E,rfl,k,b,p⟩;exact ao<|aD (au rfl g9) ⟨xs,E,rfl,k.sm (by decide) (by decide),b.sm (by decide) (by decide),⟨k.1,b.1⟩,p,Q⟩
def c2(c d t:Nat):Nat:=Q2 c t+1-(t-d)
def c4(a b c d s:Nat):Nat:=sm (Nj<|Q2 a s+1) λi=>sm (Nj<|Q2 b (s-i)+1) λj=>c2 c d<|s-i-j
theorem LA(d t:Nat):(sm (bQ [d] t) λ_=>1)=if t<=d then 1 else 0:=by
 rw[iu];have e:(λa=>sm (bQ []<|t-a) λ_=>1)=λa=>if t<=a then 1 else 0:=by
  funext a;cases q:t-a with
  |zero=>rw[Ng<|by lia];rfl
  |succ n=>rw[Nf<|by lia];rfl
 rw[e];have g:∀n,(sm (Nj n) λa=>if t<=a then 1 else 0)=n-t:=λn=>by
  induction n with
  |zero=>rw[Nat.zero_sub];rfl
  |succ n w=>
   rw[PR,ml,w,b4,qa];split<;>lia
 rw[g];split<;>lia
theorem Lz(c d t:Nat):(sm (bQ [c,d] t) λ_=>1)<=c2 c d t:=by
 rw[iu];simp only[LA];have g:∀n,(sm (Nj n) λa=>if t-a<=d then 1 else 0)<=n-(t-d):=λn=>by
  induction n with
  |zero=>exact OV _
  |succ n w=>
   rw[PR,ml,b4,qa];split<;>lia
 exact g _
theorem Ly(a b c d s:Nat):(sm (bQ [a,b,c,d] s) λ_=>1)<=c4 a b c d s:=by
 rw[iu];refine vm (T0 _) λi _=>?_;rw[iu];exact vm (T0 _) λj _=>Lz _ _ _
set_option synthInstance.maxSize 2000 in
set_option synthInstance.maxHeartbeats 200000 in
theorem ZZ:∀a<6,∀b<6,∀c<6,75<(a+1)*((b+1)*((c+1)*1))->∀d<6,(a+1)*((b+1)*((c+1)*((d+1)*1)))<=500->∀s<21,c4 a b c d s<76:=by decide +kernel
theorem wd5{s:Nat}:∀{a:a0a},Uc a<=4->(∀x∈a,x<6)->pr (a.map (·+1))<=500->Uc (bQ a s)<76
 |[],_,_,_=>NT (gq _ _) (by decide)
 |[x],_,_,_=>NT (gq _ _) (by show 1<76;decide)
 |[x,y],_,h,_=>NT (gq _ _) (by
  have:=h x M7;show(x+1)*1<76;lia)
 |[x,y,z],_,h,_=>NT (gq _ _) (by
  have b:=h x M7;have c:=h y<|M2 _ M7;show(x+1)*((y+1)*1)<76;exact NT (Uj b<|Uk 1 c)<|by decide)
 |[x,y,z,w],_,h,hp=>by
  have b:=h x M7;have c:=h y<|M2 _ M7;have d:=h z<|M2 _<|M2 _ M7;have e:=h w<|M2 _<|M2 _<|M2 _ M7;by_cases q:75<(x+1)*((y+1)*((z+1)*1))
  .by_cases hs:s<21
   .rw[<-AW]
    exact NT (Ly _ _ _ _ _)<|ZZ x b y c z d q w e hp s hs
   .rw[EA<|by simp;lia]
    decide
  .exact NT (gq _ _) (Nat.lt_succ_of_le<|QD q)
 |_::_::_::_::_::_,h,_,_=>by simp at h
theorem Gx.wd{w D:a0b}(h:Gx w):Wd w D:=λE G e b s=>by
 obtain⟨_,p2,_,_,c,_,_,d⟩:=k4 E;subst e;rw[MZ]at p2;rcases h with h|h|⟨x,a,h⟩
 .exact wd5 p2 (λx a=>by have:=h (x:Int)<|NE.mpr ⟨x,a,rfl⟩;lia) b
 .lia
 .have:=c x a
  lia
structure Ye (a_:LI) (c:Nat) (rs:a0a):Prop where
 shp:jm (Uc rs) c a_
 nn:∀row∈a_,∀x∈row,0<=x
 sm:a_.map OJ=nI rs
 c1:1<=c
 c6:c<=6
 nr:F0 rs
 wd:pr (rs.dropLast.map (·+1))<63
theorem pW:∀{xs:a0b},(∀x∈xs,0<=x)->∃l:a0a,xs=nI l
 |[],_=>⟨[],rfl⟩
 |x::xs,h=>by
  obtain⟨l,e⟩:=pW λy a=>h y<|M2 _ a;have:=h x M7;exact⟨x.toNat::l,by rw[e];show _=((x.toNat:Nat):Int)::_;rw[Int.toNat_of_nonneg this]⟩
theorem Z2:∀x<41,∀y<41-x,(x+1)*((y+1)*1)<=500/\(x+1)*1<63:=by decide
theorem Z1:∀x<12,∀y<12-x,∀z<12-x-y,(x+1)*((y+1)*((z+1)*1))<=500/\(x+1)*((y+1)*1)<63:=by decide
theorem Z0:∀x<9,∀y<9-x,∀z<9-x-y,∀w<9-x-y-z,(x+1)*((y+1)*((z+1)*((w+1)*1)))<=500/\(x+1)*((y+1)*((z+1)*1))<63:=by decide
theorem few:∀{rs:a0a},(Uc rs=1/\rs.sum<=40)\/(Uc rs=2/\rs.sum<=40)\/(Uc rs=3/\rs.sum<=11)\/(Uc rs=4/\rs.sum<=8)->F0 rs/\pr (rs.dropLast.map (·+1))<63
 |[x],h=>by
  have q:x<=40:=by simp at h;lia
  exact⟨⟨by show 1<=1;decide,by show 1<=4;decide,by simp at h⊢;lia,by show(x+1)*1<=500;lia⟩,by show 1<63;decide⟩
 |[x,y],h=>by
  have q:=Z2 x (by simp at h;lia) y (by simp at h;lia);exact⟨⟨by show 1<=2;decide,by show 2<=4;decide,by simp at h⊢;lia,q.1⟩,q.2⟩
 |[x,y,z],h=>by
  have q:=Z1 x (by simp at h;lia) y (by simp at h;lia) z (by simp at h;lia);exact⟨⟨by show 1<=3;decide,by show 3<=4;decide,by simp at h⊢;lia,q.1⟩,q.2⟩
 |[x,y,z,w],h=>by
  have q:=Z0 x (by simp at h;lia) y (by simp at h;lia) z (by simp at h;lia) w (by simp at h;lia);exact⟨⟨by show 1<=4;decide,by show 4<=4;decide,by simp at h⊢;lia,q.1⟩,q.2⟩
 |[],h=>by simp at h
 |_::_::_::_::_::_,h=>by simp at h
abbrev gdS(r c t:Nat)(a_:LI)(b d e:a0Q):Ds:=[My<|.h .bag,My<|.h<|.n (r:Int),My<|.h<|.n (c:Int),My<|.h<|.n (t:Int),My<|.grd<|gI a_,b,d,e]
theorem ow{r c t:Nat}(G:β.ok)(U:1<=r)(W:r<=4)(M:1<=c)(P:c<=6)(B:(r=1/\t<=40)\/(r=2/\t<=40)\/(r=3/\t<=11)\/(r=4/\t<=8)):∃(a_:LI) (rs:a0a) (j:Bg),lw K a [.bag,.n (r:Int),.n (c:Int),.n (t:Int)] β=My (.ok<|eK a_,j)/\Ye a_ c rs/\j.ok:=by
 suffices h:∃g j,lw K a [.bag,.n (r:Int),.n (c:Int),.n (t:Int)] β=My (g,j)/\(∃(a_:LI) (rs:a0a),g= .ok (eK a_)/\Ye a_ c rs/\j.ok) by
  obtain⟨g,j,e,a_,rs,rfl,F,H⟩:=h;exact⟨a_,rs,j,e,F,H⟩
 refine gX ?_;unfold pA;refine yx (a_:=(Nj r).map λ_=>NB c<|D.n 0) (β1:=β) (j8 (Nj r) (λi=>D.n<|0+(i:Int)) _ (bH (ds:=bi 0 r) rfl<|o_ (by lia)<|by lia) (λx _=>⟨_,rfl,L0 (x:= .n 0) (c:=c) rfl rfl<|by lia⟩)<|bn<|by rw[NS];lia) ?_ ?_
 .rw[OM]
  intro x w;obtain⟨_,_,rfl⟩:=NE.mp w;rw[<-Pb (f:=D.n)];exact tM _
 have I:(Nj r).map (λ_=>NB c<|D.n 0)=gI (NB r<|NB c 0):=by
  show _=P8 _ _;rw[Pb,List.map_const',Pb,NS]
 rw[I];refine cL (ds:=bi 0 t) (β1:=β) (bH rfl<|o_ (by lia)<|by lia) (λi E β=>β.ok/\∃a_ o p q,E=gdS r c t a_ o p q/\jm r c a_/\(∀row∈a_,∀x∈row,0<=x)/\tot a_=(i:Int)) ⟨G,NB r<|NB c 0,M0,M0,M0,rfl,⟨by simp,λrow h=>?_⟩,λrow h x w=>?_,?_⟩ ?_ ?_
 .rw[(QN.mp h).2];simp
 .rw[(QN.mp h).2]at w
  rw[(QN.mp w).2];exact Sk _
 .unfold tot
  rw[Pb];have z:∀n:Nat,(NB n (0:Int)).sum=0:=λn=>by
   induction n with
   |zero=>rfl
   |succ n S=>rw[OI,NZ,S];rfl
  rw[z,z];rfl
 .rintro i d E j hd ⟨k,a_,o,p,q,rfl,sh,nn,B⟩
  obtain⟨v,β1,J,N,O,y⟩:=bJ k (lot:=(r:Int)) (by lia) (by lia);obtain⟨u,β2,p2,Q,R,A⟩:=bJ y (lot:=(c:Int)) (by lia) (by lia);obtain⟨v,rfl⟩:∃n:Nat,v=(n:Int):=⟨v.toNat,by lia⟩;obtain⟨u,rfl⟩:∃n:Nat,u=(n:Int):=⟨u.toNat,by lia⟩;obtain⟨row,b,m⟩:=sh.at (i:=v) (by lia);obtain⟨x,w⟩:=u4 (l:=row) (i:=u) (by lia);refine⟨_,rfl,aN (am rfl J)<|aN (am rfl p2)<|ao<|yw (d:= .n<|x+1) (β1:=β2) (β2:=β2) (β3:=β2) (a_:=gI a_) (ds:=row.map D.n) (ka:=v) (kb:=u) (ja:=v) (jb:=u) (cp (cp (cp rfl rfl<|lD (row:=row.map D.n) ?_) rfl<|dE (d:= .n x) ?_) rfl rfl) rfl rfl rfl ?_ ?_ ?_ rfl<|bK ⟨A,a_.set v<|row.set u<|x+1,My<|.h d,My<|.h<|.n (v:Int),My<|.h<|.n (u:Int),?_,sh.set b,Kh nn b ?_,?_⟩⟩
  .rw[Nk,b];rfl
  .rw[Nk,w];rfl
  .rw[MZ,sh.1];exact eU (by lia) (by lia)
  .rw[Nk,b];rfl
  .rw[MZ,m];exact eU (by lia) (by lia)
  .show[_,_,_,_,My<|Sl.grd<|(gI a_).set v<|(row.map D.n).set u<|.n<|x+1,_,_,_]=_
   rw[show(gI a_).set v ((row.map D.n).set u<|.n<|x+1)=gI (a_.set v<|row.set u<|x+1) by show _=P8 _ _;rw[Pd,Pd]]
  .have:=nn row (Nq b) x<|Nq w
   lia
  .have:=HD (v:=x+1) b w
   lia
 .rintro E j ⟨k,a_,o,p,q,rfl,sh,nn,C⟩
  rw[vH]at C;obtain⟨rs,e⟩:=pW (xs:=a_.map OJ) λx w=>by
   obtain⟨row,L,rfl⟩:=NE.mp w;exact me<|nn row L
  have l:Uc rs=r:=by rw[<-sh.1,<-MZ (as:=a_) OJ,e,MZ]
  have s:rs.sum=t:=by
   have h:(a_.map OJ).sum=(t:Int):=C;rw[e,kM]at h;lia
  obtain⟨V,T⟩:=few (rs:=rs) (by rw[l,s];exact B);exact ao<|aD rfl ⟨a_,rs,rfl,⟨by rw[l];exact sh,nn,e,M,P,V,T⟩,k⟩
theorem EN(H:β.ok):∃(w:LI) (c:Nat) (E:a0a) (b:Bg),(jY K a).1 [.bag] β=My (.ok<|eK w,b)/\Ye w c E/\b.ok:=by
 suffices h:∃g b,(jY K a).1 [.bag] β=My (g,b)/\(∃(w:LI) (c:Nat) (E:a0a),g= .ok (eK w)/\Ye w c E/\b.ok) by
  obtain⟨g,b,e,w,c,E,rfl,p,q⟩:=h;exact⟨w,c,E,b,e,p,q⟩
 unfold jY
 dsimp only
 refine gX ?_;have S:∀(k n:Nat),lP (.n (k:Int)) (.n (n:Int))=My (.n ((k+n:Nat):Int)):=λk n=>by show My (D.n _)=_;rw[Sv]
 obtain⟨y,β1,u,I,J,j⟩:=bJ H (lot:=8) (by decide) (by decide);refine aN (am rfl u) ?_;refine cV (β1:=β1) (dr<|cp rfl rfl eq_int) ?_;by_cases s:y=0
 .rw[Ng<|NC s]
  obtain⟨t,G,p2,m,V,d⟩:=bJ j (lot:=5) (by decide) (by decide);obtain⟨t,rfl⟩:∃n:Nat,t=(n:Int):=⟨t.toNat,by lia⟩;obtain⟨w,E,M,e,g,f⟩:=ow (K:=K) (a:=a) (r:=4) (c:=6) (t:=t) d (by decide) (by decide) (by decide) (by decide) (by lia);exact aD (am (af rfl<|af rfl<|af rfl<|af (am rfl p2) rfl) e) ⟨w,6,E,rfl,g,f⟩
 rw[Nf<|by simp[s]];refine az ?_;refine cV (β1:=β1) (dr<|cp rfl rfl eq_int) ?_;by_cases x:y=1
 .rw[Ng<|NC x]
  obtain⟨c,G,p2,m,V,d⟩:=bJ j (lot:=6) (by decide) (by decide);obtain⟨t,M,l,z,C,f⟩:=bJ d (lot:=8) (by decide) (by decide);obtain⟨c,rfl⟩:∃n:Nat,c=(n:Int):=⟨c.toNat,by lia⟩;obtain⟨t,rfl⟩:∃n:Nat,t=(n:Int):=⟨t.toNat,by lia⟩;obtain⟨w,E,P,e,g,i⟩:=ow (K:=K) (a:=a) (r:=1) (c:=1+c) (t:=t) f (by decide) (by decide) (by lia) (by lia) (by lia);exact aD (am (af rfl<|af rfl<|af (cp rfl (am rfl p2)<|S 1 c)<|af (am rfl l) rfl) e) ⟨w,1+c,E,rfl,g,i⟩
 rw[Nf<|by simp[x]];refine az ?_;refine cV (β1:=β1) (dr<|cp rfl rfl eq_int) ?_;by_cases F:y=2
 .rw[Ng<|NC F]
  obtain⟨c,G,p2,m,V,d⟩:=bJ j (lot:=4) (by decide) (by decide);obtain⟨t,M,l,z,C,f⟩:=bJ d (lot:=8) (by decide) (by decide);obtain⟨c,rfl⟩:∃n:Nat,c=(n:Int):=⟨c.toNat,by lia⟩;obtain⟨t,rfl⟩:∃n:Nat,t=(n:Int):=⟨t.toNat,by lia⟩;obtain⟨w,E,P,e,g,i⟩:=ow (K:=K) (a:=a) (r:=1+c) (c:=1) (t:=t) f (by lia) (by lia) (by decide) (by decide) (by lia);exact aD (am (af rfl<|af (cp rfl (am rfl p2)<|S 1 c)<|af rfl<|af (am rfl l) rfl) e) ⟨w,1,E,rfl,g,i⟩
 rw[Nf<|by simp[F]];refine az ?_;obtain⟨r,G,p2,m,V,d⟩:=bJ j (lot:=2) (by decide) (by decide);obtain⟨c,M,l,z,C,f⟩:=bJ d (lot:=3) (by decide) (by decide);obtain⟨t,P,v,B,L,i⟩:=bJ f (lot:=8) (by decide) (by decide);obtain⟨r,rfl⟩:∃n:Nat,r=(n:Int):=⟨r.toNat,by lia⟩;obtain⟨c,rfl⟩:∃n:Nat,c=(n:Int):=⟨c.toNat,by lia⟩;obtain⟨t,rfl⟩:∃n:Nat,t=(n:Int):=⟨t.toNat,by lia⟩;obtain⟨w,E,A,e,g,o⟩:=ow (K:=K) (a:=a) (r:=2+r) (c:=2+c) (t:=t) i (by lia) (by lia) (by lia) (by lia) (by lia);refine aN (cp rfl (am rfl p2)<|S 2 r)<|aN (cp rfl (am rfl l)<|S 2 c) ?_;exact ao<|aD (am (af rfl<|af rfl<|af rfl<|af (am rfl v) rfl) e) ⟨w,2+c,E,rfl,g,o⟩
theorem toB{r c:Nat}{b:LP}(h:o1 r c b):∃B,b=uZ B/\YB r c B:=by
 have e:b=uZ (b.map λa=>a.map λp=>(p.1.toNat,p.2.toNat)):=by
  unfold uZ;rw[No];refine(Vg b).symm.trans<|Oh λa g=>?_;show a=P8 _ (P8 _ a);rw[No];refine(Vg a).symm.trans<|Oh λp i=>?_;obtain⟨w,D,E⟩:=h.ok a g p i;exact Rq (show p.1=((p.1.toNat:Nat):Int) by lia) (show p.2=((p.2.toNat:Nat):Int) by lia)
 refine⟨_,e,h.shp.map,λa g p i=>?_⟩;obtain⟨d,j,rfl⟩:=NE.mp g;obtain⟨f,k,rfl⟩:=NE.mp i;obtain⟨w,D,E⟩:=h.ok d j f k;show f.1.toNat<=f.2.toNat/\f.2.toNat<=40;lia
theorem Ye.tab{a:LI}{c:Nat}{w:a0a}(g:Ye a c w):YZ (Uc w) c a:=by
 obtain⟨b,d,e,_⟩:=g.nr;refine⟨g.shp,g.nn,?_,b,d,g.c1,g.c6⟩;show(a.map OJ).sum<=40;rw[g.sm,kM];lia
theorem vi:∀{a:a0b} {x:Int},(∀y∈a,0<=y)->x∈a->x<=a.sum
 |[],_,_,h=>by cases h
 |y::ys,x,hn,h=>by
  rw[NZ];have c:=hn y M7;have d:=me λz b=>hn z<|M2 y b;rcases Nn.mp h with rfl|h
  .lia
  .have:=vi (λz b=>hn z<|M2 y b) h
   lia
theorem YZ.sm{r c:Nat}{a:LI}(t:YZ r c a):Sm (a.map OJ)/\Sm ((tp c a).map OJ)/\bS (a.map OJ) ((tp c a).map OJ)=M3/\(a.map OJ).sum=((tp c a).map OJ).sum:=by
 have K:=t.r0;have M:=t.r1;have P:=t.c0;have S:=t.c1;have k:Uc (a.map OJ)=r:=by rw[MZ,t.shp.1]
 have l:Uc ((tp c a).map OJ)=c:=by rw[MZ];exact(rC (d:=0) t.shp.1).1
 have e:((tp c a).map OJ).sum=(a.map OJ).sum:=AH t.shp.2;have g:(a.map OJ).sum<=40:=t.tot;have b:∀x∈a.map OJ,0<=x:=λx w=>by
  obtain⟨D,h,rfl⟩:=NE.mp w;exact me<|t.nn D h
 have f:∀x∈(tp c a).map OJ,0<=x:=λx w=>by
  obtain⟨D,h,rfl⟩:=NE.mp w;exact me<|LB t.nn D h
 have i:∀x∈a.map OJ,x<=40:=λx w=>U2 (vi b w) g;have j:∀x∈(tp c a).map OJ,x<=40:=λx w=>U2 (vi f w) (by rw[e];exact g);refine⟨⟨by lia,λx w=>?_⟩,⟨by lia,λx w=>?_⟩,?_,e.symm⟩
 .have:=b x w
  have:=i x w;lia
 .have:=f x w
  have:=j x w;lia
 .unfold bS
  have E:((a.map OJ).any λx=>decide (x<0))=M5:=by
   rw[QX];intro x w;have:=b x w;simp only[NR];lia
  have G:(((tp c a).map OJ).any λx=>decide (x<0))=M5:=by
   rw[QX];intro x w;have:=f x w;simp only[NR];lia
  rw[E,G,k,l,e];simp only[NN,NR,Qa,Bool.or_false,Pp,and_true,true_and];refine⟨⟨⟨by lia,by lia⟩,by lia,by lia⟩,by lia⟩
theorem Za{x y z:D}:gQ [x,y,z]=My (.t [x,y,z]):=by
 unfold gQ;rw[Ng (show[x,y,z].length<=Nw by rw[Np,Np,N5];decide)]
def N_(r c:Nat)(d:D):Prop:=d= .o\/∃b,d=bF b/\Uc b<=30/\PB b/\(b=dX r c\/cE b r c=M5)
theorem yL(U:β.ok):∃(w E:a0b) (d:D) (f:Bg),(c9 K a).1 [.bag] β=My (.ok<|.t [iL w,iL E,d],f)/\Sm w/\Sm E/\Wd w E/\N_ (TK 1<|Uc w) (TK 1<|Uc E) d/\f.ok:=by
 suffices h:∃x f,(c9 K a).1 [.bag] β=My (x,f)/\(∃w E d,x= .ok (.t [iL w,iL E,d])/\Sm w/\Sm E/\Wd w E/\N_ (TK 1<|Uc w) (TK 1<|Uc E) d/\f.ok) by
  obtain⟨x,f,e,w,E,d,rfl,h⟩:=h;exact⟨w,E,d,f,e,h⟩
 unfold c9
 dsimp only
 refine gX ?_;obtain⟨w,E,β1,u,V,s,⟨o,p⟩,y,q⟩:=Hu (K:=K) (a:=a) U;refine aN (d:= .t [iL w,iL E]) (β1:=β1) (am rfl u) ?_;obtain⟨v,G,p2,A,B,i⟩:=bJ q (lot:=2) (by decide) (by decide);refine pR (λP β=>β.ok/\∃w E l,P=[My<|.h .bag,My<|.h<|.t [iL w,iL E],l,M0]/\Sm w/\Sm E/\Uc w<=20/\Uc E<=20/\Wd w E) ?_ ?_
 .refine ao (cV (c:=decide (v=0)) (β1:=G) (dr<|cp (am rfl p2) rfl eq_int) ?_)
  by_cases m:v=0
  .rw[Ng<|by simpa using m]
   obtain⟨z,c,Y,M,C,g,j⟩:=EN (K:=K) (a:=a) i;have F:=g.tab;have H:=g.nr.1;have R:=g.nr.2.1;have T:=g.c6;obtain⟨I,l,_,_⟩:=YZ.sm F;exact nE<|aN (d:=eK z) (β1:=M) (am rfl C)<|aN (d:= .t [iL<|z.map OJ,iL<|(tp c z).map OJ]) (β1:=M) (au (af (am rfl<|yS<|by rw[g.shp.1];lia)<|af (am rfl<|uG g.shp H (by lia)<|by lia) rfl) g9)<|f6 ⟨j,_,_,_,rfl,I,l,by rw[MZ,g.shp.1];lia,by rw[MZ,(rC (d:=(0:Int)) (c:=c) g.shp.1).1];lia,λ_ J h _ _=>by
    rw[g.sm]at h;rw[<-mM h];exact NT (gq _ _)<|TR g.wd<|by decide⟩
  .rw[Nf<|by simpa using m]
   exact az<|f6 ⟨i,w,E,M0,rfl,V,s,by lia,by lia,y.wd⟩
 rintro P G ⟨i,w,E,l,rfl,V,s,o,p,W⟩;have Z:=V.1;have ly:=s.1;have L:(k8 K a).1 [.n ((TK 1 (Uc w):Nat):Int),.n ((TK 1 (Uc E):Nat):Int)] G=My (.ok<|bF<|dX (TK 1<|Uc w)<|TK 1<|Uc E,G):=FA (by lia) (by lia);refine aN (d:=bF<|dX (TK 1<|Uc w)<|TK 1<|Uc E) (β1:=G) (am (as:=[.n ((TK 1 (Uc w):Nat):Int),.n ((TK 1 (Uc E):Nat):Int)]) ?_ L) ?_
 .have t:∀n:Nat,vZ [.n 1,.n (n:Int)]=My (.n ((TK 1 n:Nat):Int)):=λn=>by
   rw[Kl,show TK (1:Int) (n:Int)=((TK 1 n:Nat):Int) by lia]
  exact af (au (af rfl<|af (au (af (cp rfl rfl rS) rfl)<|bz (r:=Uc w)<|by rw[MZ]) rfl)<|t _)<|af (au (af rfl<|af (au (af (cp rfl rfl wb) rfl)<|bz (r:=Uc E)<|by rw[MZ]) rfl)<|t _) rfl
 obtain⟨v,M,N,A,B,j⟩:=bJ i (lot:=2) (by decide) (by decide);refine pR (λP β=>β.ok/\∃d,P=[My<|.h .bag,My<|.h<|.t [iL w,iL E],l,My<|.h d]/\N_ (TK 1<|Uc w) (TK 1<|Uc E) d) ?_ ?_
 .refine ao (cV (c:=decide (v=0)) (β1:=M) (dr<|cp (am rfl N) rfl eq_int) ?_)
  by_cases m:v=0
  .rw[Ng<|by simpa using m]
   obtain⟨d,S,O,Q,k⟩:=Ey (K:=K) (a:=a) (r:=TK 1<|Uc w) (c:=TK 1<|Uc E) (b:=dX (TK 1<|Uc w)<|TK 1<|Uc E) (by lia) (by lia) (by lia) (by lia) (o1.free _ _) j;refine aN (d:=d) (β1:=S) (am rfl O)<|f6 ⟨k,d,rfl,?_⟩;exact Q
  .rw[Nf<|by simpa using m]
   exact az<|f6 ⟨j,_,rfl,.inr ⟨_,rfl,by rw[Pq];lia,o1.pb<|o1.free _ _,.inl rfl⟩⟩
 rintro P S ⟨k,d,rfl,X⟩;exact ao<|aD (au (af (cp rfl rfl rS)<|af (cp rfl rfl wb)<|af rfl rfl) Za) ⟨w,E,d,rfl,V,s,W,X,k⟩
theorem wV:∀(a:a0b),S (Uc a) (λj=>a.getD j 0)=a.sum:=λa=>by
 unfold S;congr 1;refine R5 (by simp) λi c b=>?_;rw[R7,SU,Nz,M9 b];rfl
end
section
variable{K:ND}{a:Ad}{β:Bg}
theorem tP{rs:a0b}{over:a0a}(b:∀i∈over,i<Uc rs)(c:Uc over<=1000):(jX K a).1 [iL rs,nL over] β=My (.ok<|.n<|lu rs over,β):=by
 unfold jX
 dsimp only
 refine aO<|ao<|aD (au (af (x:=iL<|over.map λi=>rs.getD i 0) ?_ rfl)<|dZ _) ⟨rfl,rfl⟩;have:=bu (nv:=1) (bt:=[0]) (it:=bM<|aa 1) (tg:=ej 0) (f:=f2 i4 (aa 1)<|aa 0) (δ:=[My<|iL rs,My<|nL over]) (β:=β) over (λi=>D.n (i:Int)) (λi=>D.n<|rs.getD i 0) (by show My (Pi<|(nI over).map D.n,β)=_;rw[No];rfl) (λi d=>⟨_,rfl,cp rfl rfl<|G4<|b i d⟩)<|bn c;refine this.trans ?_;show _=My (Pi<|D.l<|(over.map λi=>rs.getD i 0).map D.n,β);rw[No];rfl
theorem tX{r c j:Nat}{E:a0b}{b:LP}{w:a0a}(G:jm r c b)(m:Uc E=c)(h:r<=1000)(k:j<c):(dB K a).1 [iL E,bF b,nL w,.n (j:Int)] β=My (.ok<|.n<|eA E b r w j,β):=by
 unfold dB
 dsimp only
 refine aO ?_;refine aN (d:=iL<|((Nj r).filter λi=>!decide (i∈w)).map λi=>(bI b i j).1) (β1:=β) ?_ ?_
 .have l:Uc ((gP b).map D.l)=r:=by rw[MZ,MZ,G.1]
  have:=lN (nv:=2) (bt:=[2,3]) (it:=GZ<|ae (aa 1) ak) (tg:=xr<|fj (ej 0)<|fj (ej 1) kh) (tt:=fB<|f2 (D2 M3) (aa 0)<|aa 2) (f:=f2 i4 (f2 i4 (aa 1)<|aa 3)<|fC<|.n 0) (δ:=[My<|iL E,My<|bF b,My<|nL w,My<|.n (j:Int),M0]) (β:=β) (Nj r) (λi=>D.t [.n (i:Int),.l<|(b.getD i []).map pD]) (λi=>D.n (bI b i j).1) (λi=>!decide (i∈w)) ?_ (λi g=>⟨_,rfl,dr<|cp rfl rfl qO,λ_=>cp (cp rfl rfl (jE G (NQ.mp g) k).2) rfl rS⟩) (bn<|by rw[NS];exact h)
  .refine this.trans ?_
   show _=My (Pi<|D.l<|(((Nj r).filter λi=>!decide (i∈w)).map λi=>(bI b i j).1).map D.n,β);rw[No];rfl
  .show My (Pi<|eM 0<|(gP b).map D.l,β)=_
   rw[oU,l];congr 3;refine Oh λi g=>?_;rw[Px];congr 3;obtain⟨e,_⟩:=G.getD<|NQ.mp g;rw[Nz,Nk,Nk,e];rfl
 refine ao<|aD (cp (x:= .n<|E.getD j 0) (cp rfl rfl<|G4<|by lia) (au rfl<|dZ _) rfl) ⟨rfl,?_⟩;have e:(Nj r).map (λi=>if i∈w then(0:Int)else(bI b i j).1)=(Nj r).map (λx=>if(!decide (x∈w))=M3 then(bI b x j).1 else 0):=Oh λi _=>by by_cases q:i∈w<;>simp[q]
 unfold eA S;rw[yb,e]
theorem ur{r c j:Nat}{b:LP}{w:a0a}(E:jm r c b)(d:∀i∈w,i<r)(h:Uc w<=1000)(e:j<c):(dC K a).1 [bF b,nL w,.n (j:Int)] β=My (.ok<|.n<|e8 b w j,β):=by
 unfold dC
 dsimp only
 refine aO<|ao<|aD (au (af (x:=iL<|w.map λi=>(bI b i j).2) ?_ rfl)<|dZ _) ⟨rfl,rfl⟩;have:=bu (nv:=1) (bt:=[0,2]) (it:=bM<|aa 1) (tg:=ej 0) (f:=f2 i4 (f2 i4 (f2 i4 (aa 1)<|aa 0)<|aa 2)<|fC<|.n 1) (δ:=[My<|bF b,My<|nL w,My<|.n (j:Int)]) (β:=β) w (λi=>D.n (i:Int)) (λi=>D.n (bI b i j).2) (by show My (Pi<|(nI w).map D.n,β)=_;rw[No];rfl) (λi g=>⟨_,rfl,cp (cp (cp rfl rfl (jE E (d i g) e).1) rfl (jE E (d i g) e).2) rfl wb⟩)<|bn h;refine this.trans ?_;show _=My (Pi<|D.l<|(w.map λi=>(bI b i j).2).map D.n,β);rw[No];rfl
theorem tE{r c:Nat}{cs:a0b}{b:LP}{over into:a0a}(w:jm r c b)(g:Uc cs=c)(h:r<=1000)(e:c<=1000)(k:∀i∈over,i<r)(l:Uc over<=1000):(jW K a).1 [iL cs,bF b,nL over,nL into] β=My (.ok<|.n<|jU cs b r c over into,β):=by
 unfold jW
 dsimp only
 refine aO<|ao<|aD (au (af (x:=iL ((Nj c).map λj=>if j∈into then eA cs b r over j else e8 b over j)) ?_ rfl)<|dZ _) ⟨rfl,rfl⟩;have:=bu (nv:=1) (bt:=[3,0,1,2]) (it:=bP cQ<|ae (aJ cW<|ae (aa 0)<|ak)<|ak) (tg:=ej 0) (f:=V_ (fB<|f2 (D2 M5) (aa 0)<|aa 1) (bC (dB K a).1<|ae (aa 2)<|ae (aa 3)<|ae (aa 4)<|ae (aa 0)<|ak)<|bC (dC K a).1<|ae (aa 3)<|ae (aa 4)<|ae (aa 0)<|ak) (δ:=[My<|iL cs,My<|bF b,My<|nL over,My<|nL into]) (β:=β) (Nj c) (λj=>D.n<|0+(j:Int)) (λj=>D.n (if j∈into then eA cs b r over j else e8 b over j)) (bH (ds:=bi 0 c) (af (au rfl<|bz<|by rw[MZ,g]) rfl)<|o_ (by lia)<|by lia) (λj m=>⟨[My<|.n (j:Int),My<|nL into,My<|iL cs,My<|bF b,My<|nL over],by rw[RM];rfl,?_⟩) (bn<|by rw[NS];exact e)
 .refine this.trans ?_
  show _=My (Pi<|D.l<|((Nj c).map λj=>if j∈into then eA cs b r over j else e8 b over j).map D.n,β);rw[No];rfl
 .have d:=NQ.mp m
  by_cases q:j∈into
  .rw[Ng q]
   exact Ln (dr<|cp rfl rfl<|by rw[qO];simp[q])<|am rfl<|tX w g h d
  .rw[Nf q]
   exact Lo (dr<|cp rfl rfl<|by rw[qO];simp[q])<|am rfl<|ur w k l d
theorem tQ{r c:Nat}{cs:a0b}{b:LP}{over:a0a}(w:jm r c b)(e:Uc cs=c)(k:r<=1000)(d:c<=1000)(l:∀i∈over,i<r)(m:Uc over<=1000):(f8 K a).1 [iL cs,bF b,nL over] β=My (.ok<|nL<|fG cs b r c over,β):=by
 unfold f8
 dsimp only
 refine aO ?_;have h:=lN (nv:=1) (bt:=[0,1,2]) (it:=bP cQ<|ae (aJ cW<|ae (aa 0)<|ak)<|ak) (tg:=ej 0) (tt:=fB<|f2 (Yn) (bC (dB K a).1<|ae (aa 1)<|ae (aa 2)<|ae (aa 3)<|ae (aa 0)<|ak)<|bC (dC K a).1<|ae (aa 2)<|ae (aa 3)<|ae (aa 0)<|ak) (f:=aa 0) (δ:=[My<|iL cs,My<|bF b,My<|nL over]) (β:=β) (Nj c) (λj=>D.n<|0+(j:Int)) (λj=>D.n (j:Int)) (λj=>decide (eA cs b r over j<e8 b over j))
  (bH (ds:=bi 0 c) (af (au rfl<|bz<|by rw[MZ,e]) rfl)<|o_ (by lia)<|by lia)
  (λj g=>⟨[My<|.n (j:Int),My<|iL cs,My<|bF b,My<|nL over],by rw[RM];rfl,dr<|cp (am rfl<|tX w e k<|NQ.mp g) (am rfl<|ur w l m<|NQ.mp g) rfl,λ_=>rfl⟩) (bn<|by rw[NS];exact d)
 refine ao<|aD h ⟨rfl,?_⟩;show Pi (D.l<|(nI<|fG cs b r c over).map D.n)=_;rw[No];rfl
theorem LK{x y:Int}:Jy (.n x) (.n y)=My (.n<|x-y):=rfl
theorem vG{n i:Nat}{d:D}(h:(bi 0 n)[i]?=My d):i<n/\d= .n (i:Int):=by
 obtain⟨x,a,rfl⟩:=cK (f:=λ(i:Nat)=>D.n<|0+(i:Int)) (xs:=Nj n) h;have b:=(Nd.mp a).1;rw[NS]at b;rw[PM b]at a;cases a;exact⟨b,by rw[RM]⟩
theorem q8{n:Nat}(w:n<=6):(jZ K a).1 [.n (n:Int)] β=My (.ok<|.l<|(ms n).map nL,β):=by
 unfold jZ
 dsimp only
 refine aO ?_;refine aN (d:= .l [.l []]) (β1:=β) (au (af (au rfl Ko) rfl) rQ) ?_;refine cL (ds:=bi 0 n) (β1:=β) (bH rfl<|o_ (by lia)<|by lia) (λi δ b=>β=b/\∃c,δ=[My<|.h<|.n (n:Int),My<|.h<|.l<|(ms i).map nL,c]) ⟨rfl,M0,rfl⟩ ?_ ?_
 .rintro i d δ _ hd ⟨rfl,c,rfl⟩
  obtain⟨g,rfl⟩:=vG hd;have j:Uc (ms i)<=64:=by rw[ym];exact NJ (So (by decide) (show i<=6 by lia)) (by decide)
  refine⟨[My<|.h<|.n (n:Int),My<|.h<|.l<|(ms i).map nL,My<|.h<|.n (i:Int)],rfl,ao<|aN (d:= .l<|(ms<|i+1).map nL) (β1:=β) ?_<|bK ⟨rfl,_,rfl⟩⟩;have h:=bu (nv:=1) (bt:=[2]) (it:=bM<|aa 1) (tg:=ej 0) (f:=f2 lP (aa 0)<|aJ iZ<|ae (aa 1)<|ak) (δ:=vw [My<|.h<|.n (n:Int),My<|.h<|.l<|(ms i).map nL,My<|.h<|.n (i:Int)]) (β:=β) (ms i) nL (λl=>nL<|l++[i]) rfl (λl e=>⟨[My<|nL l,My<|.n (i:Int)],rfl,by
   have k:Uc l<=i:=by have:=(ie i l e).length_le;rwa[NS]at this
   refine cp rfl (au rfl rQ)<|(sF ?_).trans ?_
   .rw[MZ,MZ,N5];lia
   .simp only[nL,nI,Of,Nv,Qj]⟩) (bn<|by lia)
  refine cp rfl h<|(sF ?_).trans ?_
  .rw[MZ,MZ];lia
  .rw[ms,Of,No];rfl
 .rintro δ _ ⟨rfl,c,rfl⟩
  rw[show(bi 0 n).length=n by unfold bi;rw[MZ,NS]];exact ao<|aD rfl ⟨rfl,rfl⟩
theorem Eh{r:Nat}{over:a0a}(h:over∈ms r):(∀i∈over,i<r)/\Uc over<=r:=⟨λi b=>NQ.mp<|(ie r over h).subset b,by have:=(ie r over h).length_le;rwa[NS]at this⟩
theorem K0{r c:Nat}{G E:a0b}{b:LP}(S:jm r c b)(k:Uc G=r)(l:Uc E=c)(m:r<=6)(n:c<=6)(s:∀X Y,0<=r8 G E b r c X Y):(ki K a).1 [iL G,iL E,bF b] β=My (.ok .o,β):=by
 unfold ki
 dsimp only
 refine aO<|ao<|cL (ds:=(ms r).map nL) (β1:=β) (eQ (am (af (au rfl<|bz (r:=r)<|by rw[MZ,k]) rfl)<|q8 m) rfl) (λi M e=>β=e/\∃f g,M=[My<|.h<|iL G,My<|.h<|iL E,My<|.h<|bF b,f,g]) ⟨rfl,M0,M0,rfl⟩ ?_ ?_
 .rintro i d M _ hd ⟨rfl,f,g,rfl⟩
  obtain⟨w,p,rfl⟩:=cK hd;have V:=Nq p;obtain⟨h,q⟩:=Eh V;refine⟨_,rfl,aN (d:=nL<|fG E b r c w) (β1:=β) (am rfl<|tQ S l (by lia) (by lia) h<|by lia) ?_⟩;refine ao<|aF (dr<|cp (am rfl<|tP (by rw[k];exact h)<|by lia) (am rfl<|tE S l (by lia) (by lia) h<|by lia) ?_)<|az<|bK ⟨rfl,_,_,rfl⟩;have o:=s (λi=>decide (i∈w)) (λj=>decide (j∈fG E b r c w));have P:(fG E b r c w).Sublist (Nj c):=QA;rw[<-vo (ie r w V) P]at o;show My (D.c<|decide _)=_;rw[Ob<|by lia]
 .rintro M _ ⟨rfl,f,g,rfl⟩
  exact bK ⟨rfl,rfl⟩
abbrev ZE(rs cs:a0b)(b:LP)(i j:Nat)(a:Int)(c d:a0Q):Ds:=[My<|.h<|iL rs,My<|.h<|iL cs,My<|.h<|bF b,My<|.h<|.n (i:Int),My<|.h<|.n (j:Int),My<|.h<|.n (bI b i j).1,My<|.h<|.n (bI b i j).2,My<|.h<|.n a,c,d]
theorem AZ{rs cs:a0D}{a b:a0U}{r c:Nat}{X e Y g:a0P}(h:∀i<r,X i=e i)(k:∀j<c,Y j=g j):uX rs cs a b r c X Y=uX rs cs a b r c e g:=by
 unfold uX;rw[cP (n:=c) (f:=λj=>if Y j=M3 then cs j else 0) λj d=>by rw[k j d],cP (n:=r) (f:=λi=>if X i=M3 then rs i else 0) λi b=>by rw[h i b],cP (n:=r) (f:=λi=>S c λj=>fl (X i) (Y j) (a i j)<|b i j) λi b=>cP λj d=>by rw[h i b,k j d]]
abbrev y4(j:Nat):Nat->Bool:=λx=>!decide ((x:Int)=(j:Int))
abbrev kq(rs cs:a0b)(b:LP)(r c j:Nat)(over:a0a):Int:=jU cs b r c over ((fG cs b r c over).filter<|y4 j)-lu rs over
theorem FE{r c i j:Nat}{rs cs:a0b}{b:LP}(G:jm r c b)(N:Uc rs=r)(O:Uc cs=c)(R:r<=6)(T:c<=6)(I:i<r)(Q:j<c)(W:(bI b i j).1<=(bI b i j).2)(P:∀X Y,0<=r8 rs cs b r c X Y):
  ∃w:Int,(gl K a).1 [iL rs,iL cs,bF b,.n (i:Int),.n (j:Int)] β=My (.ok<|.n<|(bI b i j).2-w,β)/\0<=w/\w<=(bI b i j).2-(bI b i j).1/\(∀X Y:Nat->Bool,X i=M3->Y j=M5->w<=r8 rs cs b r c X Y):=by
 have YR:∀over∈ms r,kq rs cs b r c j over=r8 rs cs b r c (λi=>decide (i∈over)) (λk=>decide (k∈(fG cs b r c over).filter (y4 j))):=λover t=>vo (ie r over t)<|Iy over<|y4 j
 suffices q:∃x u,(gl K a).1 [iL rs,iL cs,bF b,.n (i:Int),.n (j:Int)] β=My (x,u)/\(u=β/\∃w,x= .ok (.n<|(bI b i j).2-w)/\w<=(bI b i j).2-(bI b i j).1/\(∀over∈ms r,i∈over->w<=kq rs cs b r c j over)/\(w=(bI b i j).2-(bI b i j).1\/∃over∈ms r,i∈over/\w=kq rs cs b r c j over)) by
  obtain⟨x,u,e,rfl,w,rfl,v,A,B⟩:=q;refine⟨w,e,?_,v,λX Y M S=>?_⟩
  .rcases B with e|⟨over,t,_,e⟩
   .lia
   .rw[e,YR over t];exact P _ _
  .have t:=sC X r
   have g:=A _ t<|PQ.mpr ⟨NQ.mpr I,M⟩;have l:=Ki (cs:=cs) (b:=b) (r:=r) (c:=c) ((Nj r).filter X) ((Nj c).filter Y) (y4 j) (λk C=>by
    have F:=(PQ.mp C).2;have:k≠j:=λz=>by rw[z,S]at F;cases F
    simp only[y4,Qa,Pp];lia)
   have e:=vo (rs:=rs) (cs:=cs) (b:=b) (r:=r) (c:=c) (over:=(Nj r).filter X) (into:=(Nj c).filter Y) QA QA;have U:r8 rs cs b r c (λk=>decide (k∈(Nj r).filter X)) (λk=>decide (k∈(Nj c).filter Y))=r8 rs cs b r c X Y:=AZ (λk C=>by cases z:X k<;>simp[PQ,C,z]) (λk C=>by cases z:Y k<;>simp[PQ,C,z])
   rw[<-U,<-e];unfold kq at g;lia
 unfold gl
 dsimp only
 refine gX ?_;refine uH (d:=pD<|bI b i j) (β1:=β) (cp (cp rfl rfl (jE G I Q).1) rfl (jE G I Q).2) rfl ?_;refine aN (d:= .n<|(bI b i j).2-(bI b i j).1) (β1:=β) (cp rfl rfl rfl) ?_;refine cL (ds:=(ms r).map nL) (β1:=β) (eQ (am (af (au rfl<|bz (r:=r)<|by rw[MZ,N]) rfl)<|q8 R) rfl) (λk δ u=>β=u/\∃w J H,δ=ZE rs cs b i j w J H/\w<=(bI b i j).2-(bI b i j).1/\(∀m<k,∀over,(ms r)[m]?=My over->i∈over->w<=kq rs cs b r c j over)/\(w=(bI b i j).2-(bI b i j).1\/∃over∈ms r,i∈over/\w=kq rs cs b r c j over)) ⟨rfl,_,M0,M0,rfl,Sk _,λm E=>by lia,.inl rfl⟩ ?_ ?_
 .rintro k d δ _ hd ⟨rfl,w,J,H,rfl,v,A,B⟩
  obtain⟨over,t,rfl⟩:=cK hd;have E:=Nq t;obtain⟨L,o2⟩:=Eh E;refine⟨ZE rs cs b i j w (My<|.h<|nL over) H,rfl,ao<|cV (c:=decide (i∈over)) (β1:=β) (dr<|cp rfl rfl<|by rw[qO];rfl) ?_⟩;by_cases q:i∈over
  .rw[Ng<|NC q]
   refine nE<|aN (d:=nL<|(fG cs b r c over).filter<|y4 j) (β1:=β) ?_ ?_
   .have h:=lN (nv:=1) (bt:=[4]) (it:=bM<|bC (f8 K a).1<|ae (aa 1)<|ae (aa 2)<|ae (aa 8)<|ak) (tg:=ej 0) (tt:=fB<|f2 (gR) (aa 0)<|aa 1) (f:=aa 0) (δ:=vw<|ZE rs cs b i j w (My<|.h<|nL over) H) (β:=β) (fG cs b r c over) (λx=>D.n (x:Int)) (λx=>D.n (x:Int)) (y4 j)
     (eQ (am rfl<|tQ G O (by lia) (by lia) L<|by lia) (by show My _=_;rw[No];rfl))
     (λx M=>⟨[My<|.n (x:Int),My<|.n (j:Int)],rfl,dr<|cp rfl rfl ne_int,λ_=>rfl⟩) (bn<|by unfold fG;exact NJ (RY _ _)<|by rw[NS];lia)
    refine h.trans ?_;show _=My (Pi<|D.l<|(nI<|(fG cs b r c over).filter<|y4 j).map D.n,β);rw[No];rfl
   .refine aN (d:= .n<|Q2 w<|kq rs cs b r c j over) (β1:=β) (au (af (x:= .n w) (β1:=β) rfl<|af (x:= .n<|kq rs cs b r c j over) (cp (x:= .n<|jU cs b r c over<|(fG cs b r c over).filter<|y4 j) (y:= .n<|lu rs over) (am rfl<|tE G O (by lia) (by lia) L<|by lia) (am rfl<|tP (by rw[N];exact L)<|by lia) LK) rfl) Fp) ?_
    refine bK ⟨rfl,Q2 w<|kq rs cs b r c j over,_,_,rfl,U2 (Int.min_le_left _ _) v,λm E n o p=>?_,?_⟩
    .by_cases z:m=k
     .subst z
      rw[t]at o;cases o;lia
     .have:=A m (by lia) n o p
      lia
    .by_cases z:w<=kq rs cs b r c j over
     .rw[Int.min_eq_left z]
      exact B
     .rw[Int.min_eq_right<|by lia]
      exact .inr ⟨over,E,q,rfl⟩
  .rw[Nf<|by simp[q]]
   refine az<|bK ⟨rfl,w,_,_,rfl,v,λm E n o p=>?_,B⟩;by_cases z:m=k
   .subst z
    rw[t]at o;cases o;exact NH p q
   .exact A m (by lia) n o p
 .rintro δ _ ⟨rfl,w,J,H,rfl,v,A,B⟩
  refine ao<|aD (cp rfl rfl rfl) ⟨rfl,w,rfl,v,λover t p=>?_,B⟩;obtain⟨m,E,e⟩:=PN t;exact A m (by rw[MZ];exact E) over (Nd.mpr ⟨E,e⟩) p
theorem Le{b:LP}{i j:Nat}{c:a0C}{p:Int×Int}(f:b[i]?=My c)(g:j<Uc c)(d e:Nat):bI (b.set i<|c.set j p) d e=if d=i/\e=j then p else bI b d e:=by
 have h:=(Nd.mp f).1;simp only[bI,Nz,OO];by_cases q:d=i
 .subst q
  simp only[h,Ol,XB,OO,true_and,f];by_cases z:e=j
  .subst z
   simp[g]
  .have k:¬j=e:=λw=>z w.symm
   simp[z,k]
 .have l:¬i=d:=λw=>q w.symm
  simp[q,l]
theorem Hf{r c i j:Nat}{b:LP}(B:o1 r c b)(f:i<r)(g:j<c):lr (bI b i j):=by
 obtain⟨e,l⟩:=B.shp.getD f;exact B.ok _ (Nq e) _ (Nq<|yp (d:=(0,0))<|by rw[l];exact g)
abbrev Yq(a w:a0b)(d:D)(b:LP)(c e f:a0Q):Ds:=[My<|.h<|iL a,My<|.h<|iL w,My<|.h d,My<|.grd<|gP b,c,e,f]
def YA(a w:a0b)(b:LP)(r c:Nat):Prop:=o1 r c b/\∀X Y,0<=r8 a w b r c X Y
theorem IQ{r c i j:Nat}{w D:a0b}{b:LP}{d:a0C}{a:Int}(F:YA w D b r c)(h:i<r)(k:j<c)(g:b[i]?=My d)(t:0<=a)(u:a<=(bI b i j).2-(bI b i j).1)(l:∀X Y:Nat->Bool,X i=M3->Y j=M5->a<=r8 w D b r c X Y):
  YA w D (b.set i<|d.set j ((bI b i j).1,(bI b i j).2-a)) r c:=by
 have v:Uc d=c:=F.1.shp.2 d<|Nq g;have E:=λe f=>Le (p:=((bI b i j).1,(bI b i j).2-a)) g (show j<Uc d by lia) e f;have m:(λe f=>(bI (b.set i<|d.set j ((bI b i j).1,(bI b i j).2-a)) e f).1)=λi j=>(bI b i j).1:=by
  funext e f;rw[E];by_cases q:e=i/\f=j
  .rw[Ng q,q.1,q.2]
  .rw[Nf q]
 have n:(λe f=>(bI (b.set i<|d.set j ((bI b i j).1,(bI b i j).2-a)) e f).2)=p0 (λi j=>(bI b i j).2) i j ((bI b i j).2-a):=by
  funext e f;unfold p0;rw[E];by_cases q:e=i/\f=j
  .rw[Ng q,Ng q]
  .rw[Nf q,Nf q]
 obtain⟨o,p2,y⟩:=Hf F.1 h k;refine⟨F.1.set g ⟨o,?_,?_⟩,λX Y=>?_⟩
 .show(bI b i j).1<=(bI b i j).2-a;lia
 .show(bI b i j).2-a<=40
  lia
 .unfold r8
  rw[m,n,HJ h k];by_cases q:X i=M3/\Y j=M5
  .rw[Ng q]
   have:=l X Y q.1 q.2;unfold r8 at this;lia
  .rw[Nf q]
   have:=F.2 X Y;unfold r8 at this;lia
section
variable{s w:a0b}{d:D}
theorem F4(D:Sm s)(E:Sm w)(G:¬bS s w=M3):(cI K a).1 [iL s,iL w,d] β=My (.error a.Ae,β):=by
 unfold cI
 dsimp only
 refine aO ?_;exact gz (β1:=β) (am rfl<|by rw[ic D E,Nf G]) ⟨rfl,rfl⟩
theorem zD(D:Sm s)(E:Sm w)(G:bS s w=M3)(b:bL K a [d,.n (Uc s:Int),.n (Uc w:Int)] β=My (.error a.Ah,β)):(cI K a).1 [iL s,iL w,d] β=My (.error a.Ah,β):=by
 unfold cI
 dsimp only
 refine aO ?_;exact gD (d:= .o) (β1:=β) (am rfl<|by rw[ic D E,Ng G])<|pQ (by unfold pB;rw[rq (af rfl<|af (au rfl<|bz<|by rw[MZ])<|af (au rfl<|bz<|by rw[MZ]) rfl) b]) ⟨rfl,rfl⟩
theorem zC{r c:Nat}{J:LP}(P:Sm s)(S:Sm w)(L:Uc s=r)(N:Uc w=c)(R:r<=6)(T:c<=6)(V:bS s w=M3)(U:bL K a [d,.n (r:Int),.n (c:Int)] β=My (.ok<|gP J,β))(O:YA s w J r c):
  ∃x,(cI K a).1 [iL s,iL w,d] β=My (.ok x,β):=by
 suffices q:∃x g,(cI K a).1 [iL s,iL w,d] β=My (x,g)/\(g=β/\∃y,x= .ok y) by
  obtain⟨x,g,e,rfl,y,rfl⟩:=q;exact⟨y,e⟩
 have t:∀{δ:Dn} {β:Bg},δ.getD 0 M0=My (iL s)->aJ cW (ae (aa 0) ak) δ β=My (.ok<|.n (r:Int),β):=λ{δ β} e=>au (af (gf e) rfl) (bz<|by rw[MZ,L]);have u:∀{δ:Dn} {β:Bg},δ.getD 1 M0=My (iL w)->aJ cW (ae (aa 1) ak) δ β=My (.ok<|.n (c:Int),β):=λ{δ β} e=>au (af (gf e) rfl) (bz<|by rw[MZ,N]);unfold cI
 dsimp only
 refine gX ?_;refine gD (d:= .o) (β1:=β) (am rfl<|by rw[ic P S,Ng V]) ?_;refine yx (β1:=β) (rq (af rfl<|af (t rfl)<|af (u rfl) rfl) U) (qF _) ?_;refine gD (d:= .o) (β1:=β) (am rfl<|K0 O.1.shp L N R T O.2) ?_;refine cL (ds:=bi 0 r) (β1:=β) (bH (af (t rfl) rfl)<|o_ (by lia)<|by lia) (λ_ δ g=>β=g/\∃b I o k,δ=Yq s w d b I o k/\YA s w b r c) ⟨rfl,J,M0,M0,M0,rfl,O⟩ ?_ ?_
 .rintro i e δ _ Q ⟨rfl,b,I,o,k,rfl,F⟩
  obtain⟨B,rfl⟩:=vG Q;refine⟨Yq s w d b (My<|.h<|.n (i:Int)) o k,rfl,ao ?_⟩;refine cL (ds:=bi 0 c) (β1:=β) (bH (af (u rfl) rfl)<|o_ (by lia)<|by lia) (λ_ δ g=>β=g/\∃b o k,δ=Yq s w d b (My<|.h<|.n (i:Int)) o k/\YA s w b r c) ⟨rfl,b,o,k,rfl,F⟩ ?_ ?_
  .clear F
   rintro j e δ _ Q ⟨rfl,b,o,k,rfl,F⟩;obtain⟨C,rfl⟩:=vG Q;obtain⟨l,n,v⟩:=F.1.shp.at B;obtain⟨G,z,W,X,Y⟩:=FE (K:=K) (a:=a) (β:=β) F.1.shp L N R T B C (Hf F.1 B C).m F.2;refine⟨Yq s w d b (My<|.h<|.n (i:Int)) (My<|.h<|.n (j:Int)) k,rfl,?_⟩;refine vb (d:= .n (bI b i j).1) (β1:=β) (cp (cp (cp (x:=bF b) rfl rfl (jE F.1.shp B C).1) rfl (jE F.1.shp B C).2) rfl rS) ?_;refine ao<|yw (d:=pD ((bI b i j).1,(bI b i j).2-G)) (β1:=β) (a_:=gP b) (ds:=l.map pD) (ka:=i) (kb:=j) (ja:=i) (jb:=j) (au (af rfl<|af (am rfl z) rfl) g9) rfl rfl rfl ?_ ?_ ?_ rfl<|bK ⟨rfl,_,My<|.h<|.n (j:Int),My<|.h<|.n (bI b i j).1,?_,IQ F B C n W X Y⟩
   .rw[MZ,F.1.shp.1];exact eU (by lia) (by lia)
   .rw[Nk,n];rfl
   .rw[MZ,v];exact eU (by lia) (by lia)
   .have A:(gP b).set i ((l.map pD).set j<|pD ((bI b i j).1,(bI b i j).2-G))=gP (b.set i<|l.set j ((bI b i j).1,(bI b i j).2-G)):=by
     show _=P8 _ _;rw[Pd,Pd]
    rw[A];rfl
  .rintro δ _ ⟨rfl,b,o,k,rfl,F⟩
   exact bK ⟨rfl,b,_,_,_,rfl,F⟩
 .rintro δ _ ⟨rfl,b,I,o,k,rfl,F⟩
  have h:=bu (nv:=1) (bt:=[]) (it:=bM<|aa 3) (tg:=ej 0) (f:=bY 2 [] (bM<|aa 0) (xr<|fj (ej 0)<|fj (ej 1) kh) (λ_=>M.f5 M3)<|hL<|aa 1) (δ:=fh<|Yq s w d b I o k) (β:=β) b (λE=>D.l<|E.map pD) (λE=>D.l<|E.map λp=>D.n p.2) (by show My _=_;rw[No];rfl) (λE H=>⟨[My<|.l<|E.map pD],rfl,bu (nv:=2) (bt:=[]) (it:=bM<|aa 0) (tg:=xr<|fj (ej 0)<|fj (ej 1) kh) (f:=aa 1) (δ:=[My<|.l<|E.map pD]) (β:=β) E pD (λp=>D.n p.2) rfl (λp _=>⟨[My<|.n p.1,My<|.n p.2],rfl,rfl⟩)<|bn<|by rw[F.1.shp.2 E H];lia⟩) (bn<|by rw[F.1.shp.1];lia);exact ao<|aD h ⟨rfl,_,rfl⟩
theorem zV{n:Nat}{f:a0D}(h:∀i<n,0<=f i):0<=S n f:=U2 (Int.le_of_eq (rf n).symm)<|nz h
theorem EO{r c:Nat}{f g:a0D}{a h:a0U}(p:∀i<r,0<=f i)(t:∀j<c,0<=g j)(A:S r f=S c g)(B:S r f<=40)(h5:∀i<r,∀j<c,a i j=0/\h i j=40)(X Y:a0P):0<=uX f g a h r c X Y:=by
 have e:∀i<r,∀j<c,0<=fl (X i) (Y j) (a i j) (h i j):=λi b j m=>by
  obtain⟨u,y⟩:=h5 i b j m;unfold fl;rw[u,y];split<;>split<;>decide
 have d:S r (λi=>if X i=M3 then f i else 0)<=S r f:=nz λi b=>by
  have:=p i b;split<;>lia
 have s:0<=S c (λj=>if Y j=M3 then g j else 0):=zV λj m=>by
  have:=t j m;split<;>lia
 unfold uX;by_cases q:∃i j,i<r/\j<c/\X i=M3/\Y j=M5
 .obtain⟨i,j,q1,q2,q3,q4⟩:=q
  have:(40:Int)<=S r λi=>S c λj=>fl (X i) (Y j) (a i j) (h i j):=by
   rw[<-zU (v:=40) q1];refine nz λk n=>?_;by_cases z:k=i
   .subst z
    rw[Ng rfl,<-zU (v:=40) q2];refine nz λl o=>?_;by_cases w:l=j
    .subst w
     rw[Ng rfl,q3,q4,(h5 k n l o).2];exact Sk _
    .rw[Nf w];exact e k n l o
   .rw[Nf z];exact zV<|e k n
  lia
 .have a3:0<=S r λi=>S c λj=>fl (X i) (Y j) (a i j) (h i j):=zV λi b=>zV<|e i b
  by_cases z:∃i<r,X i=M3
  .obtain⟨i,q1,q3⟩:=z
   have:S c (λj=>if Y j=M3 then g j else 0)=S c g:=cP λj m=>by
    cases w:Y j with
    |true=>rfl
    |false=>exact NH ⟨i,j,q1,m,q3,w⟩ q
   lia
  .have:S r (λi=>if X i=M3 then f i else 0)=S r λ_=>0:=cP λi b=>Nf λw=>z ⟨i,b,w⟩
   rw[rf]at this;lia
end
theorem pS{i:Nat}{w:a0Z}{f:FD}{c d z:D}{h:G}{a:Ds}{β β1:Bg}{Q:a0A}(b:(vw a).getD i M0=My c)(e:f (vw a) β=My (.ok d,β1))(g:w c d=My z)(k:Gw h (a.set i<|My<|.h z) β1 Q):Gw (aB (zz i w f) h) a β Q:=dH (by unfold zz;simp only[b,e,g,Pa]) k
theorem JJ{m i:Nat}{d:D}(h:(bi 2 m)[i]?=My d):i<m/\d= .n ((i+2:Nat):Int):=by
 obtain⟨x,a,rfl⟩:=cK (f:=λ(i:Nat)=>D.n<|2+(i:Int)) (xs:=Nj m) h;have b:=(Nd.mp a).1;rw[NS]at b;rw[PM b]at a;cases a;exact⟨b,by congr 1;lia⟩
theorem JH(a:Int)(m:Nat):Uc (bi a m)=m:=by unfold bi;rw[MZ,NS]
theorem Zl{n:Nat}(h:n<=2^11):n<2^1000:=mQ h (by decide)
theorem IT(n:Nat):dt (n-1+1)=dt n:=by cases n<;>rfl
theorem yc{n:Nat}(h:n<=40):(ik K a).1 [.n (n:Int)] β=My (.ok<|.n ((dt n:Nat):Int),β):=by
 unfold ik
 dsimp only
 refine aO ?_;refine aN (d:= .n 1) (β1:=β) rfl ?_;refine cL (ds:=bi 2<|n-1) (β1:=β) (bH (af rfl<|af (cp rfl rfl rfl) rfl)<|rg2<|by lia) (λi w b=>β=b/\∃c,w=[My<|.h<|.n (n:Int),My<|.h<|.n ((dt (i+1):Nat):Int),c]) ⟨rfl,M0,rfl⟩ ?_ ?_
 .rintro i d w _ hd ⟨rfl,c,rfl⟩
  obtain⟨e,rfl⟩:=JJ hd;exact⟨_,rfl,ao<|pS rfl rfl (Fm (mQ (wz<|by lia)<|by decide)<|Zl<|by lia)<|bK ⟨rfl,_,rfl⟩⟩
 .rintro w _ ⟨rfl,c,rfl⟩
  rw[JH,IT];exact ao<|aD rfl ⟨rfl,rfl⟩
def G_(l:a0a):Nat:=dt l.sum/pr (l.map dt)
theorem Lh{l:a0a}{d:D}(h:Sq l d):p9 [d]=My (.n ((l.sum:Nat):Int)):=by
 rw[<-kM];rcases h with rfl|rfl
 .exact Jx _
 .exact Jw _
theorem Hh{l:a0a}{i n:Nat}(h:l.sum<=40)(a:l[i]?=My n):n<=40:=NJ (oi<|Nq a) h
theorem Hw{l:a0a}{E:D}(M:Sq l E)(h:l.sum<=40):(vL K a).1 [E] β=My (.ok<|.n ((G_ l:Nat):Int),β):=by
 unfold vL
 dsimp only
 refine aO ?_;refine cL (ds:=(nI l).map D.n) (β1:=β) (eQ rfl M.seq) (λi w c=>β=c/\∃b,w=[My<|.h E,b,M0]) ⟨rfl,M0,rfl⟩ ?_ ?_
 .rintro i d w _ hd ⟨rfl,b,rfl⟩
  obtain⟨n,G,rfl⟩:=za hd;exact⟨_,rfl,ao<|aF (β1:=β) (dr<|cp rfl rfl (by show My (D.c<|decide ((n:Int)<0))=_;rw[Ob<|by lia]))<|az<|bK ⟨rfl,_,rfl⟩⟩
 rintro w _ ⟨rfl,b,rfl⟩;refine aN (d:= .n ((dt l.sum:Nat):Int)) (β1:=β) (am (af (au rfl<|Lh M) rfl)<|yc h) ?_;refine cL (ds:=(nI l).map D.n) (β1:=β) (eQ rfl M.seq) (λi w c=>β=c/\∃b,w=[My<|.h E,b,My<|.h<|.n ((dt l.sum/pr ((l.take i).map dt):Nat):Int)]) ⟨rfl,b,by rw[Uf,Qj,JT,Nat.div_one];rfl⟩ ?_ ?_
 .rintro i d w _ hd ⟨rfl,b,rfl⟩
  obtain⟨n,G,rfl⟩:=za hd;refine⟨_,rfl,ao<|pS rfl (am rfl<|yc<|Hh h G) (MO (rZ n)<|mQ (wz<|Hh h G)<|by decide)<|bK ⟨rfl,My<|.h<|.n (n:Int),?_⟩⟩;rw[nV G,WK];rfl
 .rintro w _ ⟨rfl,b,rfl⟩
  rw[CD,Rg];exact ao<|aD rfl ⟨rfl,rfl⟩
theorem z9{l:a0a}(h:l.sum<=40):G_ l<=2^160:=NJ (T3 _ _)<|wz h
theorem z7(l:a0a):G_ l=mu l:=Kj l
theorem L9{l:a0a}(h:l.sum<=40):mu l<=2^160:=by rw[<-z7];exact z9 h
theorem GK{a:Type}{l:List a}{i:Nat}{x:a}(f:a->Nat)(h:l[i]?=My x):L2.Nt.sm (l.take<|i+1) f=L2.Nt.sm (l.take i) f+f x:=by
 rw[X5,h,ml];rfl
abbrev cv(W:Wy)(m k:Nat)(r:a0a):D:= .t [.n ((I0 W (m-k) k r:Nat):Int),.n ((E_ W (m-k) k r:Nat):Int)]
abbrev oD(W:Wy)(a:a0a)(m k:Nat):D:= .dct M5 ((js W a k).map λr=>((0:Int),nI r))<|(js W a k).map<|cv W m k
theorem CK{f:a0a->D}{u:a0a}:∀{L:a0O},u∈L->KX (L.map λr=>((0:Int),nI r)) (L.map f) (0,nI u)=My (f u)
 |r::L,h=>by
  unfold KX;rw[Nv,Nv,SX,Su];by_cases q:r=u
  .rw[q,NC rfl];rfl
  .rw[Ob λe=>q<|mM (UZ.mp e).2]
   exact CK<|(Nn.mp h).resolve_left λe=>q e.symm
theorem La{W:Wy}{a u:a0a}{m k:Nat}(h:u∈js W a k):Gc (oD W a m k) (tN u)=My (cv W m k u):=by
 show(rR M5<|dK M5 (0,nI u)).bind _=_;rw[IE λ_=>rfl];exact CK h
theorem y9{w cs r:a0a}{W:Wy}{M:D}{k:Nat}(h:B3 K a w cs W M)(o:k<Uc cs)(p:r∈js W w k):(iK K a).1 [tN r,.l<|(W k r).map tN,oD W w (Uc cs)<|k+1] β=My (.ok<|cv W (Uc cs) k r,β):=by
 obtain⟨q,u,t⟩:=h.at (by lia) p;unfold iK
 dsimp only
 refine aO ?_;refine aN (d:= .n 0) (β1:=β) rfl<|aN (d:= .n 0) (β1:=β) rfl ?_;refine cL (ds:=(W k r).map tN) (β1:=β) rfl (λi E e=>β=e/\∃f g j,E=[My<|.h<|tN r,My<|.h<|.l<|(W k r).map tN,My<|.h<|oD W w (Uc cs)<|k+1,My<|.h<|.n ((L2.Nt.sm ((W k r).take i) λv=>I0 W (Uc cs-(k+1)) (k+1) (less r v):Nat):Int),My<|.h<|.n ((L2.Nt.sm ((W k r).take i) λv=>mu v*E_ W (Uc cs-(k+1)) (k+1) (less r v):Nat):Int),f,g,j]) ⟨rfl,M0,M0,M0,rfl⟩ ?_ ?_
 .rintro i d E _ hd ⟨rfl,f,g,j,rfl⟩
  obtain⟨v,l,rfl⟩:=cK hd;have G:=Nq l;have m:less r v∈js W w (k+1):=rP.mpr ⟨r,p,v,G,rfl⟩;have b:=(h.ok k r).subset G;have P:=(kN h.ok h.sm (k+1) o _ m).2;have c:v.sum<=40:=NJ (jh b).sum t;have n:=(h.at o m).2.2;refine⟨_,rfl,uH (d:=cv W (Uc cs) (k+1)<|less r v) (β1:=β) (cp rfl (am rfl<|GQ (jh b) q.2.1)<|La m) rfl<|pS rfl rfl rfl<|ao<|pS rfl (cp (am rfl<|Hw (.inr rfl) c) rfl<|Fm (mQ (z9 c)<|by decide)<|mQ (NJ (DW h.ok _ _ _<|by lia)<|by rw[DV _ _ P];exact L9 n)<|by decide) rfl<|bK ⟨rfl,My<|.h<|tN v,My<|.h<|.n ((I0 W (Uc cs-(k+1)) (k+1) (less r v):Nat):Int),My<|.h<|.n ((E_ W (Uc cs-(k+1)) (k+1) (less r v):Nat):Int),?_⟩⟩;rw[GK _ l,GK _ l,z7,Sv,Sv];rfl
 .rintro E _ ⟨rfl,f,g,j,rfl⟩
  rw[MZ,Rg];refine ao<|aD (au rfl g9) ⟨rfl,?_⟩;show Pi (D.t [.n ((I0 W (Uc cs-k) k r:Nat):Int),.n ((E_ W (Uc cs-k) k r:Nat):Int)])=_;rw[show Uc cs-k=Uc cs-(k+1)+1 by lia];rfl
theorem yu{f g:FD}{a:Dn}{k v:D}(b:f a β=My (.ok k,β))(c:g a β=My (.ok v,β)):Gg f g a β=My (.ok [.t [k,v]],β):=by
 unfold Gg M.v;rw[b];simp only[c,M.f5]
theorem ww{a b:Type}(f:a->b)(l:List a):(l.flatMap λx=>[f x])=l.map f:=by
 induction l with
 |nil=>rfl
 |cons x l w=>rw[Pj,w];rfl
theorem v3{rs w:a0a}{W:Wy}{E:D}(h:B3 K a rs w W E){k:Nat}(b:k<=Uc w):Uc (js W rs k)<=75:=Nat.le_of_lt_succ<|IB h.ok h.sm h.wd b
theorem dk0{w cs:a0a}{W:Wy}{G:D}(h:B3 K a w cs W G){k:Nat}(b:k<=Uc cs){E:a0e}(e:E=(js W w k).map λr=> .t [tN r,cv W (Uc cs) k r]):lM M5 E=My (oD W w (Uc cs) k):=by
 refine(yi (kvs:=(js W w k).map λr=>(((0:Int),nI r),cv W (Uc cs) k r)) ⟨?_,?_,?_,?_⟩).trans ?_
 .rw[e,No];rfl
 .rw[No];exact CC (λx y q=>mM (UZ.mp q).2)<|v4 k
 .rw[MZ];exact bn (by have:=v3 h b;lia)
 .rintro p c _
  obtain⟨r,_,rfl⟩:=NE.mp c;rfl
 .rw[No,No];rfl
theorem LO{n:Nat}(h:n<=1000):uJ [.n (n:Int)]=My (iY n):=by
 simp only[uJ];rw[Ng (by simp only[NN,NR];lia),Pn]
theorem LQ{n i:Nat}{d:D}(h:(iY n)[i]?=My d):i<n/\d= .n ((n-1-i:Nat):Int):=by
 obtain⟨x,a,rfl⟩:=cK (f:=λ(i:Nat)=>D.n<|(n:Int)-1-i) (xs:=Nj n) h;have b:=(Nd.mp a).1;rw[NS]at b;rw[PM b]at a;cases a;exact⟨b,by congr 1;lia⟩
theorem BJ{f:Nat->D}{n k:Nat}(h:k<n):((Nj n).map f)[k]?=My (f k):=by rw[Nk,PM h];rfl
theorem DT{f:Nat->D}:∀n j,eM j ((List.range' j n).map f)=(List.range' j n).map λk=> .t [.n (k:Int),f k]
 |0,_=>rfl
 |n+1,j=>by
  rw[List.range'_succ,Nv,Nv,<-DT n (j+1)];rfl
theorem HR{f:Nat->D}(m:Nat):((Nj<|m+1).map λj=>f<|m-j).reverse=(Nj<|m+1).map f:=R5 (by simp) λi b c=>by
 simp only[Sx,MZ,NS]at b;simp only[W7,R7,SU,MZ,NS];congr 1;lia
abbrev Gn(W:Wy)(a:a0a)(m:Nat):a0e:=(Nj<|m+1).flatMap λk=>(js W a k).map<|cv W m k
abbrev zK(W:Wy)(rs:a0a)(m:Nat):D:= .dct M3 (D1 W rs<|m+1)<|Gn W rs m
theorem dk1{rs cs:a0a}{W:Wy}{E:D}(h:B3 K a rs cs W E){w:a0e}(e:w=(Nj<|Uc cs+1).flatMap λ(k:Nat)=>(js W rs k).map λr=> .t [.t [.n (k:Int),tN r],cv W (Uc cs) k r]):lM M3 w=My (zK W rs<|Uc cs):=by
 refine(yi (kvs:=(Nj<|Uc cs+1).flatMap λ(k:Nat)=>(js W rs k).map λr=>(((k:Int),nI r),cv W (Uc cs) k r)) ⟨?_,?_,?_,?_⟩).trans ?_
 .rw[e,PF];simp only[No];rfl
 .have:=CS (W:=W) (rs:=rs)<|Uc cs+1
  unfold D1 at this;rw[PF];simp only[No];exact this
 .refine bn (NJ (kQ (n:=75) λk b=>?_) (by have:=h.c6;rw[NS];lia))
  have:=NQ.mp b;rw[MZ];exact v3 h (by lia)
 .rintro p _ q
  cases q
 .unfold zK D1
  rw[PF,PF];simp only[No];rfl
theorem zI{w cs:a0a}{W:Wy}{E:D}(h:B3 K a w cs W E):(gJ K a).1 [nL w,nL cs,E] β=My (.ok<|zK W w<|Uc cs,β):=by
 have M:=h.c6;unfold gJ
 dsimp only
 refine aO ?_;refine aN (d:= .l<|(Nj<|Uc cs+1).map<|tx W w) (β1:=β) (am rfl<|Fi h) ?_;refine aN (d:= .n (Uc cs:Int)) (β1:=β) (au rfl<|bz<|by rw[MZ,MZ]) ?_;refine aN (d:=oD W w (Uc cs)<|Uc cs) (β1:=β) (lO (js W w<|Uc cs) tN (λr=>[.t [tN r,.t [.n 1,.n 1]]]) (eQ (cp rfl rfl<|dE<|BJ<|by lia) rfl) (λr _=>⟨[My<|tN r],rfl,yu rfl<|au rfl g9⟩)<|dk0 h (Nh _)<|by rw[ww];simp only[cv,Qx];rfl) ?_;refine GD (ds:=[oD W w (Uc cs)<|Uc cs]) (β1:=β) rfl (show 1<=Nw by decide) ?_;refine cL (ds:=iY<|Uc cs) (β1:=β) (bH rfl<|LO<|by lia) (λi G b=>β=b/\∃c e,G=[My<|.h<|nL w,My<|.h<|nL cs,My<|.h<|E,My<|.h<|.l<|(Nj<|Uc cs+1).map<|tx W w,My<|.h<|.n (Uc cs:Int),My<|.h<|oD W w (Uc cs)<|Uc cs-i,My<|.u<|(Nj<|i+1).map λj=>oD W w (Uc cs)<|Uc cs-j,c,e]) ⟨rfl,M0,M0,rfl⟩ ?_ ?_
 .rintro i d G _ hd ⟨rfl,c,e,rfl⟩
  obtain⟨o,rfl⟩:=LQ hd;have g:Uc cs-1-i<Uc cs:=by lia
  have m:Uc cs-i=(Uc cs-1-i)+1:=by lia
  have l:Uc cs-(i+1)=Uc cs-1-i:=by lia
  rw[m];refine⟨_,rfl,aN (d:=oD W w (Uc cs)<|Uc cs-1-i+1) (β1:=β) rfl<|aN (d:=oD W w (Uc cs)<|Uc cs-1-i) (β1:=β) (lO (js W w<|Uc cs-1-i) tN (λr=>[.t [tN r,cv W (Uc cs) (Uc cs-1-i) r]]) (eQ (cp rfl rfl<|dE<|BJ<|by lia) rfl) (λr f=>⟨[My<|tN r,My<|nL cs,My<|E,My<|.n ((Uc cs-1-i:Nat):Int),My<|oD W w (Uc cs)<|Uc cs-1-i+1],rfl,yu rfl<|am (af rfl<|af (am rfl<|h.fl g (h.at (by lia) f).1 (h.at (by lia) f).2.1) rfl)<|y9 h g f⟩)<|dk0 h (by lia)<|ww _ _)<|ao<|GE (cs:=(Nj<|i+1).map λj=>oD W w (Uc cs)<|Uc cs-j) (d:=oD W w (Uc cs)<|Uc cs-1-i) rfl rfl (NM (show _<1000 by rw[MZ,NS];lia)<|by decide)<|bK ⟨rfl,My<|.h<|.n ((Uc cs-1-i:Nat):Int),My<|.h<|oD W w (Uc cs)<|Uc cs-1-i+1,?_⟩⟩;rw[PR (n:=i+1),Of,l];show _=[_,_,_,_,_,_,My<|Sl.u<|_++[oD W w (Uc cs)<|Uc cs-(i+1)],_,_];rw[l];rfl
 .rintro G _ ⟨rfl,c,e,rfl⟩
  rw[show(iY<|Uc cs).length=Uc cs by unfold iY;rw[MZ,NS]];refine ao<|aD (lO (Nj<|Uc cs+1) (λk=> .t [.n (k:Int),oD W w (Uc cs) k]) (λ(k:Nat)=>(js W w k).map λr=> .t [.t [.n (k:Int),tN r],cv W (Uc cs) k r]) (bH (af (cp (y:= .n<|-1) rfl rfl rfl) rfl) ?_) (λk _=>⟨[My<|.n (k:Int),My<|oD W w (Uc cs) k,M0,M0],rfl,?_⟩)<|dk1 h rfl) ⟨rfl,rfl⟩
  .show My (eM 0 _)=_
   rw[HR,List.range_eq_range',DT]
  .refine(L5 (js W w k) (λr=> .t [tN r,cv W (Uc cs) k r]) (λr=>[.t [.t [.n (k:Int),tN r],cv W (Uc cs) k r]]) ?_ (λr _=>⟨[My<|.n (k:Int),My<|oD W w (Uc cs) k,My<|tN r,My<|cv W (Uc cs) k r],rfl,yu (au rfl g9) rfl⟩)).trans (by rw[ww])
   show My (Pi<|SI _ _ _,β)=_;rw[List.zipWith_map_left,List.zipWith_map_right,List.zipWith_self];rfl
theorem eqI(i j:Int):Rr (.int i) (.int j)=decide (i=j):=by unfold Rr;exact Bool.beq_eq_decide_eq i j
theorem m4{D:Type} [DecidableEq D]{f:D->WL}(b:∀x y,Rr (f x) (f y)=decide (x=y)):∀a w:List D,RZ (a.map f) (w.map f)=decide (a=w)
 |[],[]=>by simp[RZ]
 |[],y::w=>by simp[RZ]
 |x::a,[]=>by simp[RZ]
 |x::a,y::w=>by
  rw[Nv,Nv,RZ,b,m4 b a w];by_cases h:x=y<;>by_cases q:a=w<;>simp[h,q]
theorem oY{a:Type}{f:a->D}{g:a->WL}(h:∀x,nt (f x)=My (g x)):∀l:List a,toPs (l.map f)=My (l.map g)
 |[]=>by simp[toPs]
 |x::l=>by
  rw[Nv,toPs,h x,oY h l];rfl
theorem DQ{x y:D}{p q:WL}(d:YU x y=M0)(a:nt x=My p)(w:nt y=My q)(b:oC x=M3)(c:oC y=M3):ib x y=My (.c<|Rr p q):=by
 unfold ib m6;unfold oC at b c;rw[a]at b;rw[w]at c;simp only[d,a,w,b,c,Ro,Ol,Pa]
variable{c e:a0a}{W:Wy}{f:D}
abbrev R4:=Int×a0b×Int×Int
abbrev rL(p:R4):a0e:=[.n p.1,kc p.2.1,.n p.2.2.1,.n p.2.2.2]
abbrev rD(p:R4):D:= .t<|rL p
abbrev I1(l:List R4):D:= .l<|l.map rD
def u3(W:Wy)(c:a0a)(m:Nat):List (Nat×a0a):=(Nj<|m+1).flatMap λk=>(js W c k).map λr=>(k,r)
abbrev Zn(W:Wy)(m:Nat)(p:Nat×a0a):R4:=((p.1:Int),nI p.2,((I0 W (m-p.1) p.1 p.2:Nat):Int),((E_ W (m-p.1) p.1 p.2:Nat):Int))
theorem L8(m:Nat):D1 W c (m+1)=(u3 W c m).map λp=>((p.1:Int),nI p.2):=by
 unfold D1 u3;rw[PF];simp only[No];rfl
theorem L7(m:Nat):Gn W c m=(u3 W c m).map λp=>cv W m p.1 p.2:=by
 unfold u3;rw[PF];simp only[No];rfl
theorem zY{a:Type}{f:g8->D->D}{g:a->g8}{u:a->D}:∀l:List a,SI f (l.map g) (l.map u)=l.map λx=>f (g x)<|u x
 |[]=>rfl
 |x::l=>OG (_::·)<|zY l
theorem Y_{x y z v:D}:gQ [x,y,z,v]=My (.t [x,y,z,v]):=by
 unfold gQ;rw[Ng<|bn (by show 4<=1000;decide)]
theorem E3(f:Uc (u3 W c<|Uc e)<=1000):(jz K a).1 [zK W c<|Uc e] β=My (.ok<|I1<|(u3 W c<|Uc e).map<|Zn W<|Uc e,β):=by
 unfold jz
 dsimp only
 refine aO<|ao<|aD (d:= .l<|(u3 W c<|Uc e).map λp=>rD<|Zn W (Uc e) p) (β1:=β) (bu (u3 W c<|Uc e) (λp=> .t [.t [.n (p.1:Int),tN p.2],cv W (Uc e) p.1 p.2]) _ ?_ (λp _=>⟨[My<|.n (p.1:Int),My<|tN p.2,My<|.n ((I0 W (Uc e-p.1) p.1 p.2:Nat):Int),My<|.n ((E_ W (Uc e-p.1) p.1 p.2:Nat):Int)],rfl,au rfl Y_⟩)<|bn f) ⟨rfl,by show Pi (D.l _)=Pi (D.l _);rw[No];rfl⟩;show My (Pi<|SI _ (D1 W c<|Uc e+1)<|Gn W c<|Uc e,β)=_;rw[L8,L7,zY];rfl
theorem Zw(p:R4):Yl 2 (rD p):=λx hx=>by
 rcases Nn.mp hx with rfl|hx
 .trivial
 rcases Nn.mp hx with rfl|hx
 .intro z b
  obtain⟨i,_,rfl⟩:=NE.mp b;trivial
 rcases Nn.mp hx with rfl|hx
 .trivial
 cases NX.mp hx;trivial
theorem K5(l m:List R4):ib (I1 l) (I1 m)=My (.c<|decide (l=m)):=by
 have t1:∀u:a0b,toPs (u.map D.n)=My (u.map .int):=λu=>oY (λx=>rfl) u;have t2:∀p:R4,nt (rD p)=My (.tuple [.int p.1,.tuple<|p.2.1.map .int,.int p.2.2.1,.int p.2.2.2]):=λp=>by
  simp only[rD,rL,kc,nt,toPs,t1,Pa]
 have t3:∀l:List R4,nt (I1 l)=My (.list<|l.map λp=> .tuple [.int p.1,.tuple<|p.2.1.map .int,.int p.2.2.1,.int p.2.2.2]):=λl=>by
  unfold I1 nt;rw[oY t2];rfl
 have c:∀l:List R4,oC (I1 l)=M3:=λl=>Gd 3 (λx a=>by
  obtain⟨p,_,rfl⟩:=NE.mp a;exact Zw p) (by decide)
 rw[DQ rfl (t3 l) (t3 m) (c l)<|c m,Rr,m4 λp q=>?_];rw[Rr];simp only[RZ,eqI,Bool.and_true];rw[Rr,m4 eqI];obtain⟨w,E,G,K⟩:=p;obtain⟨M,b,c2,P⟩:=q;by_cases d:w=M<;>by_cases e:E=b<;>by_cases f:G=c2<;>by_cases g:K=P<;>simp[d,e,f,g]
end
section
variable{K:ND}{a:Ad}{β:Bg}
theorem Hv{w:a0a}(h:F0 w):(jA K a).1 [nL w] β=My (.ok .o,β):=by
 obtain⟨g,j,k,e⟩:=h;unfold jA
 dsimp only
 refine aO ?_;refine aN (d:= .n 1) (β1:=β) rfl ?_;refine cL (ds:=(nI w).map D.n) (β1:=β) rfl (λi E b=>β=b/\∃c,E=[My<|.h<|nL w,My<|.h<|.n ((pr ((w.take i).map (·+1)):Nat):Int),c]) ⟨rfl,M0,rfl⟩ ?_ ?_
 .rintro i d E _ hd ⟨rfl,c,rfl⟩
  obtain⟨n,G,rfl⟩:=za hd;have f:=oi<|Nq G;have l:=NJ (GV w i) e;refine⟨_,rfl,ao<|pS rfl (cp (z:= .n ((n+1:Nat):Int)) rfl rfl rfl) (Fm (Zl<|by lia)<|Zl<|by lia)<|bK ⟨rfl,My<|.h<|.n (n:Int),?_⟩⟩;rw[nV G];rfl
 .rintro E _ ⟨rfl,c,rfl⟩
  rw[CD,Rg];exact ao<|aF (β1:=β) ((dr<|cp rfl rfl gt_int).trans<|by rw[Ob<|by lia])<|az<|bK ⟨rfl,rfl⟩
section
variable{g f:a0b}{p d:D}
theorem Fk(w:Sm g)(D:Sm f)(E:¬bS g f=M3):(cc K a).1 [iL g,iL f,p,d] β=My (.error a.Ae,β):=by
 have G:(bU K a).1 [iL g,iL f,d] β=My (.error a.Ae,β):=by
  unfold bU
  dsimp only
  refine aO ?_;exact gz (β1:=β) (am rfl<|by rw[ic w D,Nf E]) ⟨rfl,rfl⟩
 unfold cc
 dsimp only
 refine aO ?_;exact va (am rfl G) ⟨rfl,rfl⟩
theorem qd(p:Sm g)(w:Sm f)(E:bS g f=M3){h:G}{Q:a0A}{R:Except M6 D}(c:(bp K a).1 [d,.n (Uc g:Int),.n (Uc f:Int)] β=My (R,β))(k:Gw (aB (cS 3 λ_ _=>My (R,β)) h) [My<|.h<|iL g,My<|.h<|iL f,My<|.h d,M0] β Q):
  Gw (aB (dW<|bC (da K a).1<|ae (aa 0)<|ae (aa 1)<|ak)<|aB (cS 3<|bC (bp K a).1<|ae (aa 2)<|ae (aJ cW<|ae (aa 0)<|ak)<|ae (aJ cW<|ae (aa 1)<|ak)<|ak) h) [My<|.h<|iL g,My<|.h<|iL f,My<|.h d,M0] β Q:=by
 refine gD (d:= .o) (β1:=β) (am rfl<|by rw[ic p w,Ng E]) ?_;obtain⟨o,b,e,q⟩:=k;refine⟨o,b,?_,q⟩;rw[<-e];unfold aB cS;rw[am (af rfl<|af (au rfl<|bz<|by rw[MZ])<|af (au rfl<|bz<|by rw[MZ]) rfl) c]
theorem y7(w:Sm g)(D:Sm f)(E:bS g f=M3)(b:(bp K a).1 [d,.n (Uc g:Int),.n (Uc f:Int)] β=My (.error a.Ah,β)):(cc K a).1 [iL g,iL f,p,d] β=My (.error a.Ah,β):=by
 have G:(bU K a).1 [iL g,iL f,d] β=My (.error a.Ah,β):=by
  unfold bU
  dsimp only
  refine aO ?_;exact qd w D E b<|va rfl ⟨rfl,rfl⟩
 unfold cc
 dsimp only
 refine aO ?_;exact va (am rfl G) ⟨rfl,rfl⟩
end
theorem FT{E w:a0a}{d:D}{B:a1c}(h:Nt0 E w)(G:Sm<|nI E)(M:Sm<|nI w)(P:bS (nI E) (nI w)=M3)(hB:YB (Uc E) (Uc w) B)(f:(bp K a).1 [d,.n (Uc (nI E):Int),.n (Uc (nI w):Int)] β=My (.ok<|W_ B,β))(l:List R4):∃x,(cc K a).1 [nL E,nL w,I1 l,d] β=My (.ok x,β):=by
 have c:B3 K a E w (wB B w) (W_ B):=⟨h,Lp B w,λ{β k r} b g e=>IW g (by rw[e];exact hB) (by rw[<-h.sm];exact h.nr.2.2.1) b⟩;have S:(bU K a).1 [nL E,nL w,d] β=My (.ok<|W_ B,β):=by
  unfold bU
  dsimp only
  refine aO ?_;exact qd G M P f<|aN (d:=W_ B) (β1:=β) rfl<|gD (am rfl<|Hv h.nr)<|ao<|aD rfl ⟨rfl,rfl⟩
 have i:=h.c6;have V:Uc (u3 (wB B w) E<|Uc w)<=1000:=NJ (kQ (n:=75) λk b=>by
  have:=NQ.mp b;rw[MZ];exact v3 c<|by lia) (by rw[NS];lia)
 refine⟨.c<|decide (l=(u3 (wB B w) E<|Uc w).map (Zn (wB B w)<|Uc w)),?_⟩;unfold cc
 dsimp only
 refine aO ?_;exact aN (am rfl S)<|ao<|aD (cp rfl (am (af (am rfl<|zI c) rfl)<|E3 V)<|K5 l _) ⟨rfl,rfl⟩
end
section
variable{K:ND}{a:Ad}
theorem IX:∀(y x:Nat) (w:Bg),cg (fB<|f2 (L_) (aa 1)<|fC<|.n 0) (rW 0 1<|ae (aa 1)<|ae (f2 Fn (aa 0)<|aa 1)<|ak) (y+1) [My<|.h<|.n x,My<|.h<|.n y] w=My (.nx [My<|.h<|.n (Ux x y:Nat),My<|.h<|.n 0],w):=by
 intro y
 induction y using VB with
 |ind y ih=>
  intro x w;by_cases D:y=0
  .subst D
   unfold cg;simp only[aB,gv,rW,aa,fC,f2,ak,ae,fB,M.v,M.f5,M.f,vw,fh,lh,Nv,Qj,UI,SW,Uv,Uu,Np,Rv,Uw,OI,NW,O4,ON,Qx,Nat.reduceSub,Nat.reduceAdd,Int.reduceLT,zH,Gb,asB,Pa,Qy,Ol,Oy,reduceIte,UJ,T7,NF,Int.natCast_zero,Int.lt_irrefl,Nat.gcd_zero_right]
  .have b:(0:Int)<(y:Int):=by lia
   have E:(x:Int) % (y:Int)=((x % y:Nat):Int):=by simp
   have a:=mZ (ih (x % y) (TU _<|by lia) y w) (show x % y+1<=y from TU _ (by lia));have c:Ux y (x % y)=Ux x y:=by rw[Nat.gcd_comm x y,Nat.gcd_rec y x,Nat.gcd_comm]
   rw[c]at a;unfold cg;simp only[aB,gv,rW,aa,fC,f2,ak,ae,fB,M.v,M.f5,M.f,vw,fh,lh,Nv,Qj,UI,SW,Uv,Uu,Np,Rv,Uw,OI,NW,O4,ON,Qx,Nat.reduceSub,Nat.reduceAdd,Int.reduceLT,zH,Gb,asB,Pa,Qy,Ol,Oy,reduceIte,UJ,T7,NF,b,E,a]
theorem MV{w:Bg}(x y:Nat):(gL K a).1 [.n x,.n y] w=My (.ok<|.n (Ux x y:Nat),w):=by
 have l:=KZ<|IX y x w;unfold gL fW;simp only[aB,gv,rW,aa,fC,f2,ak,ae,fB,M.v,M.f5,M.f,vw,fh,lh,Nv,Qj,UI,SW,Uv,Uu,Np,Rv,Uw,OI,NW,O4,ON,Qx,Nat.reduceSub,Nat.reduceAdd,Int.reduceLT,zH,Gb,asB,Pa,Qy,Ol,Oy,reduceIte,UJ,T7,NF,l]
theorem sW{t m:Nat}(h:t<=m)(a:m<2^1000):c7 (t:Int)=M3:=NC (by rw[RA];lia)
theorem EV:(2000^30:Nat)<2^1000:=by decide +kernel
theorem GT{i:Nat}(h:i<=30):(2000^i:Nat)<=2000^30:=So (by decide) h
theorem xN{t n:Nat}(b:t<=2000^30)(c:n<=2000^30):iN (.n (t:Int)) (.n (n:Int))=My (.n ((t*n:Nat):Int)):=by
 show(if(c7 (t:Int)&&c7 (n:Int))=M3 then _ else _)=_;simp only[sW b EV,sW c EV,Ro,Ol];rfl
theorem F5{t g:Nat}(d:0<g)(e:g<=2000^30):uV (.n (t:Int)) (.n (g:Int))=My (.n ((t/g:Nat):Int)):=by
 have b:decide ((0:Int)<(g:Int))=M3:=NC (by lia);have c:decide (((g:Int)).natAbs.log2<9000)=M3:=NC (by
  rw[RA];have:=(Vw (n:=g) (k:=1000)<|by lia).mpr (by have:=EV;lia);lia)
 show(if(decide ((0:Int)<(g:Int))&&decide (((g:Int)).natAbs.log2<9000))=M3 then _ else _)=_;simp only[b,c,Ro,Ol];rfl
theorem Kr{β:Bg}{ns:a0a}(h:∀n∈ns,1<=n/\n<=2000)(p:Uc ns<=29):∃t:Nat,(cZ K a).1 [.l<|ns.map λ(n:Nat)=>D.n (n:Int)] β=My (.ok<|.n (t:Int),β):=by
 suffices q:∃r b,(cZ K a).1 [.l<|ns.map λ(n:Nat)=>D.n (n:Int)] β=My (r,b)/\(β=b/\∃t:Nat,r= .ok (.n (t:Int))) by
  obtain⟨r,_,e,rfl,t,rfl⟩:=q;exact⟨t,e⟩
 unfold cZ
 dsimp only
 refine gX ?_;refine aN (d:= .n 1) (β1:=β) rfl ?_;refine cL (ds:=ns.map λ(n:Nat)=>D.n (n:Int)) (β1:=β) rfl (λi w b=>β=b/\i<=Uc ns/\∃(t:Nat) (f:a0Q),w=[My<|.h<|.l<|ns.map λ(n:Nat)=>D.n (n:Int),My<|.h<|.n (t:Int),f]/\1<=t/\t<=2000^i) ⟨rfl,by lia,1,M0,rfl,by decide,by decide⟩ ?_ ?_
 .rintro i d w b hd ⟨rfl,_,t,f,rfl,t1,t2⟩
  obtain⟨n,E,rfl⟩:=cK hd;obtain⟨k,l⟩:=h n<|Nq E;have u:i<Uc ns:=(Nd.mp E).1;have v:=GT (i:=i) (by lia);have m:=GT (i:=i+1) (by lia);have c:0<Ux t n:=Nat.gcd_pos_of_pos_left _ (by lia);have g:Ux t n<=t:=Nat.gcd_le_left _ (by lia);have j:Ux t n<=t*n:=NJ g<|TC _ k;have o:t*n<=2000^(i+1):=by rw[U5];exact Uj t2 l
  refine⟨_,rfl,ao<|aN (d:= .n ((t*n/Ux t n:Nat):Int)) (β1:=β) (cp (cp rfl rfl<|xN (by lia)<|by lia) (am rfl<|MV t n)<|F5 c<|by lia)<|bK ⟨rfl,by lia,_,_,rfl,Nat.div_pos j c,NJ (T3 _ _) o⟩⟩
 .rintro w b ⟨rfl,_,t,f,rfl,_,_⟩
  exact ao<|aD rfl ⟨rfl,t,rfl⟩
variable{β:Bg}
theorem Iu{G:Type}{V:FL}{K:ky}{P:a0m}{f:FD}{E:Dn}(w:List G)(u v:G->D)(c:G->Bool)(i:V E β=My (.ok<|w.map u,β))
  (j:∀x∈w,∃a,K (u x) E=My a/\P a β=My (.ok<|c x,β)/\f a β=My (.ok<|v x,β)):uy V K P (hL f) E β=My (.ok<|(w.filter c).map v,β):=by
 have S:∀w:List G,(∀x∈w,∃a,K (u x) E=My a/\P a β=My (.ok<|c x,β)/\f a β=My (.ok<|v x,β))->ko K P (hL f) (w.map u) E β=My (.ok<|(w.filter c).map v,β):=by
  intro w
  induction w with
  |nil=>intro _;rfl
  |cons x w k=>
   intro h;obtain⟨a,d,b,e⟩:=h x M7;have g:=k λy l=>h y<|M2 _ l;rw[Nv,ko];cases q:c x with
   |true=>
    rw[q]at b;simp only[d,b,M.v,M.f5,reduceIte,hL,e,g,R6,q,Nv,O4,ON]
   |false=>
    rw[q]at b;simp only[d,b,M.v,M.f5,reduceIte,hL,e,g,R6,q,NF,Nv,O4,ON]
 unfold uy;rw[M.bind_ok i];exact S w j
def j4(a w:a0b):a0b:=a.flatMap λx=>(w.filter λy=>decide (0<x*y)).map λy=>x*y
theorem mul_int{x y:Int}(a:0<=x/\x<=40)(w:0<=y/\y<=40):iN (.n x) (.n y)=My (.n<|x*y):=by
 have d:(40:Nat)<=2000^30:=by decide +kernel
 have h:=xN (t:=x.toNat) (n:=y.toNat) (by lia) (by lia);have b:((x.toNat:Nat):Int)=x:=by lia
 have c:((y.toNat:Nat):Int)=y:=by lia
 rw[b,c,Int.natCast_mul,b,c]at h;exact h
theorem E4{w D:a0b}(G:∀x∈w,0<=x/\x<=40)(K:∀x∈D,0<=x/\x<=40):∀n∈j4 w D,1<=n/\n<=1600:=λn a=>by
 unfold j4 at a;rw[PY]at a;obtain⟨x,c,d⟩:=a;obtain⟨y,b,rfl⟩:=NE.mp d;rw[PQ]at b;obtain⟨b,e⟩:=b;rw[NR]at e;have M:=G x c;have E:=K y b;have:x*y<=40*40:=Int.mul_le_mul M.2 E.2 E.1 (by decide);lia
theorem BO{a w:a0b}(D:Uc a<=4)(E:Uc w<=6):Uc (j4 a w)<=24:=by
 have:=wu (f:=λx:Int=>(w.filter λy=>decide (0<x*y)).map λy=>x*y) (n:=6) (l:=a) λx _=>by
  rw[MZ];have:=RY (λy=>decide (0<x*y)) w;lia
 show(a.flatMap _).length<=24;lia
theorem K4{E w:a0b}(V:bS E w=M3){δ:Dn}(h:δ.getD 2 M0=My (iL E))(i:δ.getD 3 M0=My (iL w)):∃t:Nat,bC (cZ K a).1 (ae (bY 2 [3] (bM<|aa 2) (ej 0) (λ_=>M.f5 M3)<|uy (bM<|aa 2) (ej 1) (fB<|f2 (L_) (f2 iN (aa 0)<|aa 1)<|fC<|.n 0)<|hL<|f2 iN (aa 0)<|aa 1)<|ak) δ β=My (.ok<|.n (t:Int),β):=by
 obtain⟨q,r,G,P⟩:=EI V;have g:=E4 G P;have p:=BO q r;have e:bY 2 [3] (bM<|aa 2) (ej 0) (λ_=>M.f5 M3) (uy (bM<|aa 2) (ej 1) (fB<|f2 (L_) (f2 iN (aa 0)<|aa 1)<|fC<|.n 0)<|hL<|f2 iN (aa 0)<|aa 1) δ β=My (.ok<|.l<|E.flatMap λx=>(w.filter λy=>decide (0<x*y)).map λy=>D.n<|x*y,β):=by
  have d:io 2 [3] δ=[M0,M0,My<|iL w]:=by
   unfold io;simp only[Nv,Qj,i];rfl
  refine yj (nv:=2) (bt:=[3]) E D.n _ (eQ (gf h) rfl) (λx b=>⟨[My<|.n x,M0,My<|iL w],by rw[d];rfl,Iu w D.n _ _ rfl (λy c=>⟨[My<|.n x,My<|.n y,My<|iL w],rfl,?_,cp rfl rfl<|mul_int (G x b)<|P y c⟩)⟩)<|bn ?_
  .exact dr (cp (cp rfl rfl<|mul_int (G x b)<|P y c) rfl gt_int)
  .have:=wu (f:=λx:Int=>(w.filter λy=>decide (0<x*y)).map λy=>D.n<|x*y) (n:=6) (l:=E) λx _=>by
    rw[MZ];have:=RY (λy=>decide (0<x*y)) w;lia
   lia
 have j:(E.flatMap λx=>(w.filter λy=>decide (0<x*y)).map λy=>D.n<|x*y)=((j4 E w).map Ut).map λ(n:Nat)=>D.n (n:Int):=by
  rw[No];have k:(j4 E w).map ((λ(n:Nat)=>D.n (n:Int))∘Ut)=(j4 E w).map D.n:=Oh λn S=>by
   show D.n ((n.toNat:Nat):Int)=_;have:=g n S;congr 1;lia
  rw[k];unfold j4;rw[PF];congr 1;funext x;rw[No];rfl
 rw[j]at e;obtain⟨t,o⟩:=Kr (K:=K) (a:=a) (β:=β) (ns:=(j4 E w).map Ut) (λn S=>by
  obtain⟨m,s,rfl⟩:=NE.mp S;have:=g m s;lia) (by rw[MZ];lia)
 exact⟨t,am (af e rfl) o⟩
theorem G8{g:G}{δ:Ds}{o:qv}(h:Gw g δ β (λc b=>c=o/\b=β)):g δ β=My (o,β):=by
 obtain⟨c,b,e,rfl,rfl⟩:=h;exact e
theorem IA{w D:a0b}(G:Sm w)(M:Sm D):∃r,i6 K a [.q<|Nl "off",iL w,iL D,.t [.n 0,.n 0]] β=My (r,β)/\(if bS w D=M3 then ∃P,r= .ok P else r= .error a.Ae):=by
 have c:=ic (K:=K) (a:=a) (β:=β) G M;cases E:bS w D with
 |false=>
  rw[E,Nf Nb]at c;refine⟨_,wj λx=>II (δ1:=[My<|.h<|.adr x,My<|.h<|.q<|Nl "off",My<|.h<|iL w,My<|.h<|iL D,My<|.h<|.t [.n 0,.n 0]]) ?_,rfl⟩;unfold dW;rw[am (af rfl<|af rfl rfl) c];rfl
 |true=>
 rw[E,Ng rfl]at c;obtain⟨t,e⟩:=K4 (K:=K) (a:=a) (β:=β) E (δ:=[My<|.adr 0,My<|.q<|Nl "off",My<|iL w,My<|iL D,My<|.t [.n 0,.n 0]]) rfl rfl
 let b:M6->Ds:=λx=>[My<|.h<|.adr x,My<|.h<|.q<|Nl "off",My<|.h<|iL w,My<|.h<|iL D,My<|.h<|.t [.n 0,.n 0]]
 refine⟨_,wj λx=>wg (x:=x) (δ1:=b x) (β1:=β) ?_ rfl rfl<|wg (x:=x) (δ1:=b x) (β1:=β) ?_ rfl rfl<|wg (x:=x) (δ1:=b x) (β1:=β) ?_ rfl rfl<|mV (d:= .q<|Nl "off") (β1:=β) rfl<|mV (d:=iL w) (β1:=β) rfl<|mV (d:=iL D) (β1:=β) rfl<|mV (d:= .t [.n 0,.n 0]) (β1:=β) rfl<|mV (d:= .n (t:Int)) (β1:=β) ?_ rfl,⟨_,rfl⟩⟩
 .unfold dW
  rw[am (af rfl<|af rfl rfl) c];rfl
 .exact G8 (ao<|aF (β1:=β) (dr<|cp rfl rfl rfl)<|az<|bK ⟨rfl,rfl⟩)
 .exact G8 (ao<|aF (β1:=β) (dr<|cp rfl rfl rfl)<|az<|bK ⟨rfl,rfl⟩)
 .exact e
end
section
variable{K:ND}{a:Ad}{β:Bg}
abbrev str(s:String):D:= .q<|Nl s
theorem eq_str{s t:String}{c:Bool}(h:decide (Nl s=Nl t)=c):ib (str s) (str t)=My (.c c):=by
 show My (D.c<|decide (Nl s=Nl t))=_;rw[h]
theorem ne_str{s t:String}{c:Bool}(h:decide (Nl s=Nl t)=c):gR (str s) (str t)=My (.c<|!c):=by
 show My (D.c<|!decide (Nl s=Nl t))=_;rw[h]
def Due(K:ND)(a:Ad)(E G:a0b)(d:D)(w:String):Prop:=
 (w="sums"/\bS E G=M5)\/(w="bounds"/\bS E G=M3/\∀β,(bp K a).1 [d,.n (Uc E:Int),.n (Uc G:Int)] β=My (.error a.Ah,β)/\bL K a [d,.n (Uc E:Int),.n (Uc G:Int)] β=My (.error a.Ah,β))\/
 (w=""/\bS E G=M3/\∀β,(bp K a).1 [d,.n (Uc E:Int),.n (Uc G:Int)] β=My (.ok<|bF<|dX (Uc E)<|Uc G,β)/\bL K a [d,.n (Uc E:Int),.n (Uc G:Int)] β=My (.ok<|gP<|dX (Uc E)<|Uc G,β))
theorem K8{E G:a0b}{d:D}(i:Sm E)(j:Sm G)(V:N_ (TK 1<|Uc E) (TK 1<|Uc G) d):∃w,Due K a E G d w/\∀β,(fA K a).1 [iL E,iL G,d] β=My (.ok<|str w,β):=by
 have k:=i.1;have l:=j.1;cases M:bS E G with
 |true=>
  obtain⟨f,_,p2,_⟩:=k4 M;rw[Sa f,Sa p2]at V;have S:∀{c:Bool} {β:Bg},(dJ K a).1 [d,.n (Uc E:Int),.n (Uc G:Int)] β=My (.ok<|.c c,β)->(fA K a).1 [iL E,iL G,d] β=My (.ok<|str (if c then ""else "bounds"),β):=λ{c β} e=>by
   unfold fA
   dsimp only
   refine aO ?_;refine aF (nA (c:=M3)<|pO (am rfl rV)<|by rw[M];rfl)<|az ?_;refine cV (c:=!c) (β1:=β) (nA<|pO (x:= .c c) (am (af rfl<|af (au rfl<|bz (r:=Uc E)<|by rw[MZ])<|af (au rfl<|bz (r:=Uc G)<|by rw[MZ]) rfl) e) rfl) ?_;cases c with
   |true=>
    rw[P5,Nf Nb];exact az<|ao<|aD rfl ⟨rfl,rfl⟩
   |false=>
    rw[SR,Ng rfl];exact aD rfl ⟨rfl,rfl⟩
  rcases V with rfl|⟨b,rfl,h,P,g⟩
  .refine⟨"",.inr<|.inr ⟨rfl,M,λβ=>⟨vq (by lia) (by lia),uu (by lia)<|by lia⟩⟩,λβ=>S (c:=M3) ?_⟩
   unfold dJ
   dsimp only
   refine aO ?_;exact fM (dr<|cp rfl rfl rfl)<|aD rfl ⟨rfl,rfl⟩
  .cases q:cE b (Uc E) (Uc G) with
   |true=>
    obtain rfl:b=dX (Uc E) (Uc G):=g.resolve_right (by rw[q];decide);exact⟨"",.inr<|.inr ⟨rfl,M,λβ=>⟨by rw[qc (by lia) (by lia) (by lia) P,Ng q],by rw[oH (by lia) (by lia) (by lia) P,Ng q]⟩⟩,λβ=>S (c:=M3)<|by rw[wn,q]⟩
   |false=>exact⟨"bounds",.inr<|.inl ⟨rfl,M,λβ=>⟨by rw[qc (by lia) (by lia) (by lia) P,Nf<|by rw[q];exact Nb],by rw[oH (by lia) (by lia) (by lia) P,Nf<|by rw[q];exact Nb]⟩⟩,λβ=>S (c:=M5)<|by rw[wn,q]⟩
 |false=>
  refine⟨"sums",.inl ⟨rfl,M⟩,λβ=>aO ?_⟩;exact fM (nA (c:=M5)<|pO (am rfl rV)<|by rw[M];rfl)<|aD rfl ⟨rfl,rfl⟩
theorem vY{r c:Nat}{d:D}(w:N_ r c d):(eC K a).1 [d] β=My (.ok d,β):=by
 unfold eC
 dsimp only
 refine aO ?_;rcases w with rfl|⟨b,rfl,e,_⟩
 .exact fM (dr<|cp rfl rfl rfl) (aD rfl ⟨rfl,rfl⟩)
 .exact aF (dr<|cp rfl rfl rfl) (az<|ao<|aD (am rfl<|Ee<|by rw[MZ];lia) ⟨rfl,rfl⟩)
section
variable{z C:a0b}{d:D}{w:String}{r c:Nat}
theorem DL(f:S7 K (.ref a.Ae) (.ref a.Ae)=My M3)(g:S7 K (.ref a.Ah) (.ref a.Ae)=My M5)(k:S7 K (.ref a.Ah) (.ref a.Ah)=My M3)(G:Sm z)(M:Sm C)(S:N_ r c d)(n:Due K a z C d w):i9 K a [iL z,iL C,d] β=My (.ok<|str w,β):=by
 refine aO ?_;unfold lJ;have RO:∀{R:Except M6 D} {s:a0k},(cI K a).1 [iL z,iL C,d] β=My (R,β)->jG (cI K a).1 (ae (aJ dS<|ae (aa 0)<|ak)<|ae (aJ dS<|ae (aa 1)<|ak)<|ak) (ae (bC (eC K a).1<|ae (aa 2)<|ak)<|ak) [.kw 0] [My<|iL z,My<|iL C,My d,s] β=My (R,β):=λe=>xg (as:=[iL z,iL C]) (ks:=[d]) (β1:=β) (β2:=β) (af (au rfl rfl)<|af (au rfl rfl) rfl) (af (am rfl<|vY S) rfl) e;refine aN (d:=str "") (β1:=β) rfl<|yv<|ao ?_;rcases n with⟨rfl,E⟩|⟨rfl,E,m⟩|⟨rfl,E,m⟩
 .exact gz (RO<|F4 G M<|by rw[E];exact Nb) (vd f<|aN (d:=str "sums") rfl<|ao<|aD rfl ⟨rfl,rfl⟩)
 .exact gz (RO<|zD G M E (m β).2) (Je g<|vd k<|aN (d:=str "bounds") rfl<|ao<|aD rfl ⟨rfl,rfl⟩)
 .obtain⟨v,p2,y,A,o,p,q,t⟩:=k4 E
  have P:∀{l:a0b},(∀x∈l,0<=x)->∀i<Uc l,0<=l.getD i 0:=λ{l} h i b=>by
   rw[Nz,M9 b];exact h _<|OC b
  obtain⟨x,e⟩:=zC (K:=K) (a:=a) G M rfl rfl (by lia) (by lia) E (m β).2 ⟨o1.free _ _,λX Y=>EO (P o) (P p) (by rw[wV,wV,q]) (by rw[wV];exact t) (λi b j u=>by
   unfold bI dX;rw[Nz (l:=NB (Uc z) _),Pz,Ng b,XB,Nz,Pz,Ng u];exact⟨rfl,rfl⟩) X Y⟩
  exact gD (RO e)<|bK<|ao<|aD rfl ⟨rfl,rfl⟩
theorem CH(g:S7 K (.ref a.Ae) (.ref a.Ae)=My M3)(h:S7 K (.ref a.Ah) (.ref a.Ae)=My M5)(i:S7 K (.ref a.Ah) (.ref a.Ah)=My M3)(M:Sm z)(P:Sm C)(S:N_ r c d)(V:Wd z C)(n:Due K a z C d w)(h5:w=""->∀G:a0a,z=nI G->pr (G.map (·+1))<=500):i8 K a [iL z,iL C,d] β=My (.ok<|str w,β):=by
 refine aO ?_;unfold lI;have RO:∀{R:Except M6 D} {s:a0k},(cc K a).1 [iL z,iL C,.l [],d] β=My (R,β)->jG (cc K a).1 (ae (aJ dS<|ae (aa 0)<|ak)<|ae (aJ dS<|ae (aa 1)<|ak)<|ae (aJ iZ<|ak)<|ak) (ae (bC (eC K a).1<|ae (aa 2)<|ak)<|ak) [.kw 0] [My<|iL z,My<|iL C,My d,s] β=My (R,β):=λe=>xg (as:=[iL z,iL C,.l []]) (ks:=[d]) (β1:=β) (β2:=β) (af (au rfl rfl)<|af (au rfl rfl)<|af (au rfl Ko) rfl) (af (am rfl<|vY S) rfl) e;refine aN (d:=str "") (β1:=β) rfl<|yv<|ao ?_;rcases n with⟨rfl,E⟩|⟨rfl,E,f⟩|⟨rfl,E,f⟩
 .exact gz (RO<|Fk M P<|by rw[E];exact Nb) (vd g<|aN (d:=str "sums") rfl<|ao<|aD rfl ⟨rfl,rfl⟩)
 .exact gz (RO<|y7 M P E (f β).1) (Je h<|vd i<|aN (d:=str "bounds") rfl<|ao<|aD rfl ⟨rfl,rfl⟩)
 .obtain⟨j,p2,k,l,o,p,m,q⟩:=k4 E
  obtain⟨G,rfl⟩:=pW o;obtain⟨u,rfl⟩:=pW p;have b:=h5 rfl G rfl;rw[kM]at m q;rw[kM]at m;rw[MZ]at j p2 k l;obtain⟨B,t,hB⟩:=toB<|o1.free (Uc G)<|Uc u;obtain⟨f,_⟩:=f β;rw[MZ,MZ,t]at f;obtain⟨x,e⟩:=FT (K:=K) (a:=a) (d:=d) (β:=β) ⟨⟨j,p2,by lia,b⟩,V E G rfl b,by lia,k,l⟩ M P E hB (by rw[MZ,MZ];exact f) [];exact gD (RO e)<|bK<|ao<|aD rfl ⟨rfl,rfl⟩
end
abbrev T_(a w:a0b)(d:D)(b c e f:a0Q):Ds:=[M0,My<|.h .bag,My<|.h<|iL a,My<|.h<|iL w,My<|.h d,b,c,e,f]
theorem FG(l:S7 K (.ref a.Ae) (.ref a.Ae)=My M3)(p:S7 K (.ref a.Ah) (.ref a.Ae)=My M5)(r:S7 K (.ref a.Ah) (.ref a.Ah)=My M3)(β:Bg)(ok:β.ok):
  ∃g,qQ K a [M0,My<|.h .bag,M0,M0,M0,M0,M0,M0,M0] β=My (.rt<|.c M3,g):=by
 suffices h:Gw (qQ K a) [M0,My<|.h .bag,M0,M0,M0,M0,M0,M0,M0] β (λo _=>o= .rt (.c M3)) by
  obtain⟨o,g,e,rfl⟩:=h;exact⟨g,e⟩
 unfold qQ;obtain⟨E,P,d,β1,I,S,s,wd,hd,J⟩:=yL (K:=K) (a:=a) ok;obtain⟨w,B,L⟩:=K8 (K:=K) (a:=a) S s hd;refine uH (d:= .t [iL E,iL P,d]) (δ1:=T_ E P d M0 M0 M0 M0) (β1:=β1) (am rfl I) rfl ?_;refine aN (d:=str w) (β1:=β1) (am rfl<|L β1) ?_;refine aF (β1:=β1) (dr<|cp (am rfl<|DL l p r S s hd B) rfl<|ne_str<|NC rfl)<|az ?_;refine aN (d:= .n 1) (β1:=β1) rfl ?_;refine cL (ds:=E.map D.n) (β1:=β1) rfl (λi δ g=>β1=g/\∃(v:Int) (b:a0Q),δ=T_ E P d (My<|.h<|str w) (My<|.h<|.n v) b M0/\v.natAbs<=1001^i/\∀V:a0a,E=nI V->v=((pr ((V.take i).map (·+1)):Nat):Int)) ⟨rfl,1,M0,rfl,by decide,λ_ _=>rfl⟩ ?_ ?_
 .rintro i e δ _ N ⟨rfl,v,b,rfl,C,A⟩
  obtain⟨x,m,rfl⟩:=cK N;have Z:=S.2 x<|Nq m;have il:=(Nd.mp m).1;have lx:=S.1;have O:c7 v=M3:=NC (NT C<|NT (So (by decide) (show i<=30 by lia))<|by decide +kernel);have R:c7 (x+1)=M3:=NC (NT (show(x+1).natAbs<=1001 by lia)<|by decide +kernel);refine⟨_,rfl,ao<|aN (d:= .n<|v*(x+1)) (β1:=β1) (cp rfl (cp (z:= .n<|x+1) rfl rfl rfl) ?_)<|bK ⟨rfl,v*(x+1),My<|.h<|.n x,rfl,?_,λV h=>?_⟩⟩
  .show(if(c7 v&&c7 (x+1))=M3 then _ else _)=_
   rw[O,R];rfl
  .rw[Int.natAbs_mul,U5]
   exact Uj C (by lia)
  .subst h
   obtain⟨n,hn,e⟩:=cK (f:=λ(n:Nat)=>(n:Int)) m;rw[nV hn,A V rfl,Int.natCast_mul,e];rfl
 .rintro δ _ ⟨rfl,v,b,rfl,_,A⟩
  rw[MZ]at A;have go:∀{j b:a0Q} {h:G} {Q:a0A} {t:a0m},t (fh<|T_ E P d (My<|.h<|str w) j b M0) β1=My (.ok M5,β1)->Gw h (T_ E P d (My<|.h<|str w) j b M0) β1 Q->Gw (aB (ry t (gv<|fC<|.c M5) gNil) h) (T_ E P d (My<|.h<|str w) j b M0) β1 Q:=λe k=>aF e<|az k;refine go ?_ ?_
  .by_cases z:w=""/\¬v<=500
   .obtain⟨rfl,z⟩:=z
    exact Jc (GB (dr<|cp rfl rfl<|ne_str<|NC rfl)<|dr<|cp rfl rfl<|by rw[Pu.le_int,Ob z])
   .have T:=CH (K:=K) (a:=a) (β:=β1) l p r S s hd wd B λe V h=>by
     have:=A V h;rw[h,MZ,Rg]at this;have:v<=500:=by
      refine U9 λy=>z ⟨e,y⟩
     lia
    refine Jb ?_<|dr<|cp (am rfl T) rfl<|ne_str<|NC rfl;rcases B with⟨rfl,_⟩|⟨rfl,_⟩|⟨rfl,_⟩
    .exact GA (dr<|cp rfl rfl<|ne_str (c:=M5)<|by decide +kernel)
    .exact GA (dr<|cp rfl rfl<|ne_str (c:=M5)<|by decide +kernel)
    .exact GB (dr<|cp rfl rfl<|ne_str<|NC rfl) (dr<|cp rfl rfl<|by rw[Pu.le_int,NC<|U9 λy=>z ⟨rfl,y⟩])
  refine aN (d:=str "") (β1:=β1) rfl ?_;obtain⟨ab,F,hm⟩:=IA (K:=K) (a:=a) (β:=β1) S s;refine yv<|ao ?_;have H:∀{U j b W:a0k},ae (fC<|.q<|Nl "off") (ae (aJ dS<|ae (aa 2)<|ak)<|ae (aJ dS<|ae (aa 3)<|ak)<|ak) [M0,My .bag,My<|iL E,My<|iL P,My d,U,j,b,W] β1=My (.ok [.q<|Nl "off",iL E,iL P],β1):=af rfl<|af (au rfl rfl)<|af (au rfl rfl) rfl;have u:∀{j b:a0Q} {t:String} {c:Bool},decide (Nl t=Nl "sums")=c->bS E P=!c->Gw (aB (gv<|f2 (ib) (f2 (ib) (aa 8)<|fC<|.q<|Nl "sums")<|zG<|bC (dD K a).1<|ae (aa 2)<|ae (aa 3)<|ak) gNil) (T_ E P d (My<|.h<|str w) j b<|My<|.h<|str t) β1 (λo _=>o= .rt (.c M3)):=λ{j b t c} X Y=>
   aD (cp (x:= .c c) (y:= .c c) (β1:=β1) (β2:=β1) (cp rfl rfl<|eq_str X) (by
    unfold zG;rw[M.bind_ok<|am rfl rV,Y];cases c<;>rfl)<|by cases c<;>rfl) rfl
  cases q:bS E P with
  |false=>
   rw[q,Nf Nb]at hm;subst hm;exact gz (β1:=β1) (Hr H F)<|vd l<|aN (d:=str "sums") rfl<|ao<|u (NC rfl) q
  |true=>
   rw[q,Ng rfl]at hm;obtain⟨fs,rfl⟩:=hm;exact gD (β1:=β1) (Ja H F)<|bK<|ao<|u (t:="") (c:=M5) (by decide +kernel) q
end
end Law
namespace L2.Pu
open PySem.W
section
variable{j:String->Option Builtin}{p:NY}{w:N6}{f:Nat}{g:a1d}{i:Vm}{q:RV}
theorem bO(k:Nat){n N:Nat}{s E r:Na}{b:a0R}{c:Code}{D a:RV}(h:segRun j p w f g 1 n s (piecesOf (b.take k) i c D [WZ q])=My (.next,E,c,a))
  (d:topRun j p w f g N E (restOf (b.drop k) i c a [WZ q])=My r):topRun j p w f g (n+N) s (restOf b i c D [WZ q])=My r:=by
 have:=piece_app h d;rwa[NV]at this
theorem FV{N:Nat}{s r:Na}{b:a0R}{c:Code}{D:RV}(e:b=[])(k:topRun j p w f g N s ⟨doneF .next,c,D,[WZ q]⟩=My r):topRun j p w f g N s (restOf b i c D [WZ q])=My r:=by
 subst e;exact piece_nil k
end
end L2.Pu
namespace Law
open L2 L2.Pu
noncomputable abbrev E(P:V1)(n:N8)(t:Nat)(v:M8):RU:=⟨PyData.keyHash P<|n,.str (n) t,v⟩
noncomputable abbrev FN(x q:N8)(s:OB)(b c a w:M8)(d:a0z)(D E:M8):NL:=RG x q (jk s) (cB s) (ai s) b c a w d D E
noncomputable abbrev fO(f:NL):Oz:=⟨.type "function",M0,.func f,#[]⟩
noncomputable abbrev tO(l:a0f):Oz:=⟨.type "tuple",M0,.seq l.toArray 0,#[]⟩
noncomputable abbrev cO(l:a0f):Oz:=⟨.type "code",M0,.fields l.toArray,#[]⟩
noncomputable abbrev eR(P:V1)(n:N8)(t r:Nat):RU:=E P n t<|.ref r
noncomputable abbrev nO(l:a0f):Oz:=⟨.none,M0,.fields l.toArray,#[]⟩
noncomputable abbrev fB(x q:N8)(s:OB):Oz:=⟨.none,M0,.func ⟨x,q,jk s,.stmts<|cB s,ai s,0,[],.none,.none,.none,.none,M0,.none,.none,0⟩,#[]⟩
noncomputable abbrev cC(n q:N8)(t l a D c fl r:Nat)(b:Bool)(d e:Nat)(x y z w:M8)(u f v:Nat):Oz:=cO [.str n t,.str q<|t+1,.str "/claim/cut.py"<|t+2,.int l 0,.int a 0,.int D 0,.int c 0,.int fl 0,.ref r,.bool b,.int d 0,.ref e,x,y,z,w,.int u 0,.int f 0,.str "/claim/cut.py" v]
abbrev Z4:a0f:=[(.ref 38),(.type "ValueError"),(.type "Exception"),(.type "BaseException"),(.type "object")]
noncomputable abbrev xOo(x:N8)(a d b t u:Nat):Oz:=⟨(.type "type"),M0,(.cls ⟨x,[(.ref 38)],(.ref a)::Z4,d,x,M3,[],[],M5,M0,M5⟩),#[(My<|.ref b),M0,(My<|.str x t),(My<|.str x u),(My<|.builtin "ValueError.__new__"),(My<|.bool M3)]⟩
noncomputable abbrev ZW(n:Nat):Oz:=⟨(.type "builtin_function_or_method"),M0,(.fields #[(.builtin "object.__init_subclass__"),(.ref n)]),#[]⟩
noncomputable abbrev oa:M8:= .str "edgetally.errors" 194
noncomputable abbrev xl:M8:= .str "edgetally.measures" 648
noncomputable abbrev w_:M8:= .str "EdgeError" 204
noncomputable abbrev B4:M8:= .str "EdgeError" 196
noncomputable abbrev tx4:M8:= .str "__main__" 164
noncomputable def trL:a0a->a0f
 |a::b::c::l=> .int a 0:: .int b 0:: .ref c::trL l
 |_=>[]
noncomputable abbrev nT(l:a0a):Oz:=nO<|trL l
noncomputable def stL:Nat->a0g->a0f
 |_,[]=>[]
 |t,x::l=> .str x t::stL (t+1) l
noncomputable abbrev tS(t:Nat)(l:a0g):Oz:=tO<|stL t l
noncomputable def fD(o:Oz):NL:=match o.data with
 | .func f=>f
 |_=>FN "" "" (dk 0) .none .none .none .none M0 .none .none
abbrev T5:=N8×N8×Nat×Nat×a0g
noncomputable abbrev h5(x:N8)(l a:Nat)(n:a0g):T5:=(x,x,l,a,n)
def zN:a0g->Nat
 |[]=>4
 |_=>6
def uN(d k:M8)(b:Nat)(v:M8)(s:OB)(x q:N8)(r t l a:Nat)(n:a0g):a0J:=[tO [],nO []]++(match n with|[]=>[]|_=>[tS (t+3) n,tO []])++[fB x q s,match n with|[]=>cC x q t l a 0 b 3 r M3 181 (r+1) .none .none .none (.ref<|r+2) (t+3) l (t+4)|_=>cC x q t l a 0 b 3 r M3 181 (r+1) .none (.ref<|r+2) (.ref<|r+3) (.ref<|r+4) (t+3+Uc n) l<|t+4+Uc n,fO<|FN x q s d k .none v M0 (.ref<|r+zN n-1) .none]
def gO(v:M8)(s:Nat->OB):Nat->Nat->Nat->List T5->a0J
 |i,r,t,(x,q,l,a,n)::L=>uN .none .none 0 v (s i) x q r t l a n++gO v s (i+1) (r+zN n+1) (t+Uc n+6) L
 |_,_,_,_=>[]
def gM(P:V1):Nat->Nat->List T5->List RU
 |r,t,(x,_,_,_,n)::L=>E P x (t+Uc n+5) (.ref<|r+zN n)::gM P (r+zN n+1) (t+Uc n+6) L
 |_,_,_=>[]
def gA:Nat->List T5->a0n
 |r,(_,_,_,_,n)::L=>(r+zN n-1)::(r+zN n)::gA (r+zN n+1) L
 |_,_=>[]
noncomputable def fk(L:a0J)(i:Nat):NL:=fD<|L.getD i<|tO []
noncomputable abbrev YT(a b:Nat)(v:M8):Oz:=⟨(.type "frame"),M0,.plain,#[(My<|.ref a),(My<|.ref 3),(My<|.ref b),M0,(My v),M0,(My<|.ref 0)]⟩
noncomputable abbrev Zk(a:Nat):Oz:=⟨(.type "super"),M0,(.fields #[(.ref a),(.ref a),(.ref a)]),#[]⟩
noncomputable def b23:Oz:=⟨(.type "builtin_function_or_method"),M0,(.fields #[(.builtin "type.__prepare__"),(.type "type")]),#[]⟩
def uE(P:V1)(i R T l:Nat)(x q:N8)(d n c:a0g):a0J:=let M:=R+7+Uc d;let t:=T+12+Uc d;let u:=t+5+Uc n;let y:=E P "__module__" (T+7) oa;let z:=[E P "__firstlineno__" (T+11)<|.int l<|T+10,eR P "__init__" u<|M+6,eR P "__static_attributes__" (u+1+Uc c)<|M+7];[tO [.ref 38],b23,⟨.type "dict",M0,.dict (y::E P "__qualname__" (T+9) (.str x<|T+8)::z).toArray 5,#[]⟩,tO [],nT [l+2,4,M+5],cC x x (T+2) l 0 0 0 0 (R+3) M5 181 (R+4) .none .none .none .none (T+5) l<|T+6,YT (R+5) (R+2) oa]++(match d with|[]=>[]|_=>[tS (T+12) d])++uN (match d with|[]=> .none|_=> .ref<|R+7) .none 0 oa (eW (dk i) 0) "__init__" q M t (l+2) (Uc n) n++[tS (u+1) c,⟨.type "dict",M0,.dict (y::z++[E P "__doc__" (u+2+Uc c) .none]).toArray 2,#[]⟩,xOo x (M+9) (M+8) R T<|T+8,Zk<|M+9,ZW<|M+9]
section
variable(P:V1)
def llA:List T5:=[h5 "_wall" 1 1 ["k"]]
def rrA:a0J:=gO tx4 dk 0 15 187 llA
def YL:List T5:=[("__init__","EdgeError.__init__",7,3,["self","word","why"])]
def rrB:a0J:=gO oa (eW<|dk 2) 0 29 208 YL
def llD:List T5:=[h5 "check_sums" 48 2 [],h5 "check_there" 59 2 ["place","many"],h5 "check_cell" 62 4 ["row","column","rows","columns"],h5 "check_pair" 65 1 ["pair","low","high"],h5 "settled_bounds" 69 3 [],h5 "rows_turned" 78 1 []]
def R_:a0J:=gO (.str "edgetally.bounds" 401) dk 16 187 418 llD
def ZD:List T5:=[h5 "need_of" 81 2 [],h5 "room_inside" 83 4 [],h5 "room_beside" 86 3 [],h5 "room_of" 88 4 [],h5 "narrowest" 90 3 [],h5 "choices" 92 1 [],h5 "check_fit" 97 3 ["rowsums","columnsums","bounds","over","into"],h5 "least_count" 102 5 []]
def y3:a0J:=gO (.str "edgetally.fits" 463) dk 23 223 465 ZD
def llG:List T5:=[h5 "factorial" 120 1 ["number","product","factor"],h5 "power" 125 2 ["base","many","product","factor"],h5 "ways" 130 1 ["parts","part","told"],h5 "common_factor" 138 2 ["one","other"],h5 "fillings" 142 3 []]
def Yk:a0J:=gO (.str "edgetally.counts" 525) dk 33 271 527 llG
def ZC:List T5:=[h5 "check_wide" 153 1 ["rowsums","wide","many"],h5 "settled_for_net" 159 3 ["rowsums","columnsums","bounds","settled"],h5 "column_fillings" 164 4 [],h5 "rests_behind" 166 2 [],h5 "nodes_by_level" 168 3 [],h5 "node_counts" 176 3 ["rests","filled","behind","tables","dealings","counts","tables_behind","dealings_behind"],h5 "counted_nodes" 184 3 [],h5 "paper_rows" 194 1 []]
def y2:a0J:=gO (.str "edgetally.net" 569) dk 40 304 573 ZC
def llJ:List T5:=[h5 "least_common" 203 1 ["numbers","told","number"],h5 "power_part" 208 1 ["counts","told","count"],h5 "square_part" 213 3 [],h5 "off_part" 215 3 []]
def rrJ:a0J:=gO xl dk 53 361 663 llJ
def ZB:List T5:=[("rowsums","Measure.rowsums",231,1,["self"]),("columnsums","Measure.columnsums",234,1,["self"]),("part","Measure.part",237,3,[]),("together","Measure.together",249,3,["self","one","other"]),("begun","Measure.begun",252,1,["self"]),("of","Measure.of",255,2,["self","rows","gathered","column","counts"]),("beyond","Measure.beyond",261,3,["self","value","seen"])]
def rrL:a0J:=gO xl (eW<|dk 57) 1 399 714 ZB
def ZA:List T5:=[h5 "_law_bag" 264 1 [],h5 "_law_pull" 266 2 ["_law_bag_here","_law_lot","_law_cells","_law_at","_law_cell"],h5 "_law_grid" 276 4 [],h5 "_law_small" 283 1 ["_law_bag_here","_law_way","_law_block","_law_columns"],h5 "_law_turned" 294 1 [],h5 "_law_rowsums" 296 1 [],h5 "_law_columnsums" 298 1 [],h5 "_law_free" 300 2 [],h5 "_law_copied" 302 1 [],h5 "_law_good_bounds" 304 3 ["_law_limits","_law_block","_law_columns","_law_row","_law_duo"],h5 "_law_wild_bounds" 316 2 ["_law_bag_here","_law_limits","_law_told","_law_at","_law_to","_law_way"],h5 "_law_good_sums" 338 2 ["_law_rowsums_here","_law_columnsums_here"],h5 "_law_wild_sums" 344 1 [],h5 "_law_sums_due" 357 3 ["_law_rowsums_here","_law_columnsums_here","_law_limits"],h5 "_law_wild_setting" 363 1 ["_law_bag_here","_law_sides","_law_grid_here","_law_limits"],h5 "_law_maybe" 372 1 ["_law_limits"],h5 "_law_fitted" 376 3 ["_law_rowsums_here","_law_columnsums_here","_law_limits","_law_told"],h5 "_law_looked" 387 3 ["_law_rowsums_here","_law_columnsums_here","_law_limits","_law_told"],h5 "law" 396 1 ["_law_script","_law_bag_here","_law_rowsums_here","_law_columnsums_here","_law_limits","_law_due","_law_wide","_law_one","_law_told"]]
def nw:a0J:=gO (.str "law_edgetally_k14_sums_at_every_door" 783) dk 59 453 785 ZA
def rrC:a0J:=uN .none (.ref 181) 1 (.str "edgetally.bounds" 401) (dk 15) "free" "free" 182 412 46 2 []
def rrF:a0J:=uN .none (.ref 265) 1 (.str "edgetally.fits" 463) (dk 31) "fitting" "fitting" 266 519 110 2 []
def rrI:a0J:=uN .none (.ref 350) 1 (.str "edgetally.net" 569) (dk 48) "net_holds" "net_holds" 351 637 196 3 ["rowsums","columnsums","paper","bounds","settled"]
def rrK:a0J:=uN .none (.ref 393) 1 xl (eW (dk 57) 0) "__init__" "Measure.__init__" 394 708 219 4 []
def mL:List RU:=(E P "__name__" 165<|.str "law_edgetally_k14_sums_at_every_door" 783)::((match(Xm P).data with| .dict e _=>e.toList|_=>[]).drop 1)++gM P 15 187 llA++[(eR P "EdgeError" 223 38),(eR P "BadSums" 248 59),(eR P "BadBounds" 273 79),(eR P "TooWide" 298 98),(eR P "Barred" 325 117),(eR P "BadRule" 350 137),(eR P "BadCell" 375 157),(eR P "BadNumber" 400 177),(E P "MOST" 404<|.int 40 403),(E P "MOST_ROWS" 406<|.int 4 405),(E P "MOST_COLUMNS" 408<|.int 6 407),(eR P "FREE" 410 180),(eR P "free" 417 186)]++gM P 187 418 llD++gM P 223 465 ZD++[(eR P "fitting" 524 270)]++gM P 271 527 llG++[(E P "WIDE" 572<|.int 500 571)]++gM P 304 573 ZC++[(eR P "net_holds" 647 357),(eR P "KINDS" 656 358),(eR P "BY_PRODUCT" 659 359),(eR P "BY_PLACE" 662 360)]++gM P 361 663 llJ++[(eR P "Measure" 782 448)]++gM P 453 785 ZA
def q0(n:Nat)(v:M8):Oz:=⟨.type "dict",M0,.dict (((mL P).take n).set 0<|E P "__name__" 165 v).toArray n,#[]⟩
noncomputable def b3:Oz:=⟨(.type "dict"),M0,(.dict (mL P).toArray 80),#[]⟩
def b7:Oz:=tO []
def ot:a0a:=[1,0,20,5,0,27,10,0,47,14,0,67,18,0,87,23,0,106,29,0,125,33,0,145,37,0,165,46,0,185,48,0,190,59,0,197,62,0,204,65,0,211,69,0,216,78,0,221,81,0,226,83,0,231,86,0,236,88,0,241,90,0,246,92,0,251,97,0,258,102,0,263,110,0,269,120,0,276,125,0,283,130,0,290,138,0,297,142,0,302,153,0,309,159,0,316,164,0,321,166,0,326,168,0,331,176,0,338,184,0,343,194,0,348,196,0,356,203,0,366,208,0,373,213,0,378,215,0,383,217,0,390,264,0,456,266,0,463,276,0,468,283,0,475,294,0,480,296,0,485,298,0,490,300,0,495,302,0,500,304,0,507,316,0,514,338,0,521,344,0,526,357,0,533,363,0,540,372,0,547,376,0,554,387,0,561,396,0,568]
def b12:Oz:=nT ot
def b13:Oz:=cC "<module>" "<module>" 182 1 0 0 0 0 11 M5 181 12 .none .none .none .none 185 1 186
def b14:Oz:=YT 13 3 tx4
def b22:Oz:=tO [(.type "ValueError")]
def b24:Oz:=⟨(.type "dict"),M0,(.dict ([(E P "__module__" 203 oa),(E P "__qualname__" 205 w_),(E P "__firstlineno__" 207<|.int 5 206)]++gM P 29 208 YL++[(eR P "__static_attributes__" 218 36)]).toArray 5),#[]⟩
def b26:Oz:=nT [7,4,34]
def b27:Oz:=cC "EdgeError" "EdgeError" 198 5 0 0 0 0 25 M5 181 26 .none .none .none .none 201 5 202
def b28:Oz:=YT 27 24 oa
def b36:Oz:=tS 217 ["word"]
def b37:Oz:=⟨(.type "dict"),M0,(.dict ([(E P "__module__" 203 oa),(E P "__firstlineno__" 207<|.int 5 206)]++gM P 29 208 YL++[(eR P "__static_attributes__" 218 36),(eR P "__weakref__" 220 39),(E P "__doc__" 221 .none)]).toArray 3),#[]⟩
def b38:Oz:=⟨(.type "type"),M0,(.cls ⟨"EdgeError",[(.type "ValueError")],[(.ref 38),(.type "ValueError"),(.type "Exception"),(.type "BaseException"),(.type "object")],37,"EdgeError",M3,[],[(.ref 59),(.ref 79),(.ref 98),(.ref 117),(.ref 137),(.ref 157),(.ref 177)],M5,M0,M5⟩),#[(My<|.ref 22),M0,(My B4),(My w_),(My<|.builtin "ValueError.__new__"),(My<|.bool M3)]⟩
noncomputable def b39:Oz:=⟨(.type "getset_descriptor"),M0,(.fields #[(.str "__weakref__" 219),(.ref 38),(.builtin "ExceptionGroup.__weakref__"),.none]),#[]⟩
def b40:Oz:=Zk 38
def b41:Oz:=ZW 38
def b180:Oz:=tO [(.int 0 409),(.int 40 403)]
def b181:Oz:=⟨(.type "dict"),M0,(.dict #[(eR P "pair" 411 180)] 1),#[]⟩
def b265:Oz:=⟨(.type "dict"),M0,(.dict #[(E P "bounds" 518 .none)] 1),#[]⟩
def b350:Oz:=⟨(.type "dict"),M0,(.dict #[(E P "bounds" 636 .none)] 1),#[]⟩
def b358:Oz:=tS 650 ["rare","square","power","off","most","least"]
def b359:Oz:=tS 657 ["rare","power"]
def b360:Oz:=tS 660 ["most","least"]
def b387:Oz:=⟨(.type "dict"),M0,(.dict ([(E P "__module__" 700 xl),(E P "__qualname__" 702<|.str "Measure" 701),(E P "__firstlineno__" 704<|.int 217 703),(eR P "__init__" 713 398)]++gM P 399 714 ZB++[(eR P "__static_attributes__" 775 446)]).toArray 12),#[]⟩
def b389:Oz:=nT [219,4,397,231,4,404,234,4,411,237,4,416,249,4,423,252,4,430,255,4,437,261,4,444]
def b390:Oz:=cC "Measure" "Measure" 695 217 0 0 0 0 388 M5 181 389 .none .none .none .none 698 217 699
def b391:Oz:=YT 390 387 xl
def b392:Oz:=tO [(.int 0 705),(.int 0 706)]
def b393:Oz:=⟨(.type "dict"),M0,(.dict #[(eR P "place" 707 392)] 1),#[]⟩
def b446:Oz:=tS 770 ["column_list","even","kind","place","row_list"]
def b447:Oz:=⟨(.type "dict"),M0,(.dict ([(E P "__module__" 700 xl),(E P "__firstlineno__" 704<|.int 217 703),(eR P "__init__" 713 398)]++gM P 399 714 ZB++[(eR P "__static_attributes__" 775 446),(eR P "__dict__" 777 449),(eR P "__weakref__" 779 450),(E P "__doc__" 780 .none)]).toArray 4),#[]⟩
noncomputable def b448:Oz:=⟨(.type "type"),M0,(.cls ⟨"Measure",[(.type "object")],[(.ref 448),(.type "object")],447,"Measure",M3,[],[],M5,M0,M5⟩),#[M0,M0,(My<|.str "Measure" 693),(My<|.str "Measure" 701),(My<|.builtin "object.__new__"),(My<|.bool M3)]⟩
noncomputable def b449:Oz:=⟨(.type "getset_descriptor"),M0,(.fields #[(.str "__dict__" 776),(.ref 448),(.builtin "function.__dict__"),(.builtin "function.__dict__#set")]),#[]⟩
noncomputable def b450:Oz:=⟨(.type "getset_descriptor"),M0,(.fields #[(.str "__weakref__" 778),(.ref 448),(.builtin "ExceptionGroup.__weakref__"),.none]),#[]⟩
def b451:Oz:=Zk 448
def b452:Oz:=ZW 448
def Mx:Oz:=nT<|ot.take 3
def ZP:Oz:=q0 P 10 oa
def Mw:Oz:=nT<|ot.take 6
def ZO:Oz:=q0 P 11 oa
def Mv:Oz:=⟨(.type "type"),M0,(.cls ⟨"EdgeError",[(.type "ValueError")],[(.ref 38),(.type "ValueError"),(.type "Exception"),(.type "BaseException"),(.type "object")],37,"EdgeError",M3,[],[],M5,M0,M5⟩),#[(My<|.ref 22),M0,(My B4),(My w_),(My<|.builtin "ValueError.__new__"),(My<|.bool M3)]⟩
def Mu:Oz:=nT<|ot.take 9
def ZN:Oz:=q0 P 12 oa
def Mt:Oz:=⟨(.type "type"),M0,(.cls ⟨"EdgeError",[(.type "ValueError")],[(.ref 38),(.type "ValueError"),(.type "Exception"),(.type "BaseException"),(.type "object")],37,"EdgeError",M3,[],[(.ref 59)],M5,M0,M5⟩),#[(My<|.ref 22),M0,(My B4),(My w_),(My<|.builtin "ValueError.__new__"),(My<|.bool M3)]⟩
def Ms:Oz:=nT<|ot.take 12
def ZM:Oz:=q0 P 13 oa
def Mr:Oz:=⟨(.type "type"),M0,(.cls ⟨"EdgeError",[(.type "ValueError")],[(.ref 38),(.type "ValueError"),(.type "Exception"),(.type "BaseException"),(.type "object")],37,"EdgeError",M3,[],[(.ref 59),(.ref 79)],M5,M0,M5⟩),#[(My<|.ref 22),M0,(My B4),(My w_),(My<|.builtin "ValueError.__new__"),(My<|.bool M3)]⟩
def Mq:Oz:=nT<|ot.take 15
def ZL:Oz:=q0 P 14 oa
def Mp:Oz:=⟨(.type "type"),M0,(.cls ⟨"EdgeError",[(.type "ValueError")],[(.ref 38),(.type "ValueError"),(.type "Exception"),(.type "BaseException"),(.type "object")],37,"EdgeError",M3,[],[(.ref 59),(.ref 79),(.ref 98)],M5,M0,M5⟩),#[(My<|.ref 22),M0,(My B4),(My w_),(My<|.builtin "ValueError.__new__"),(My<|.bool M3)]⟩
def Mo:Oz:=nT<|ot.take 18
def ZK:Oz:=q0 P 15 oa
def Mn:Oz:=⟨(.type "type"),M0,(.cls ⟨"EdgeError",[(.type "ValueError")],[(.ref 38),(.type "ValueError"),(.type "Exception"),(.type "BaseException"),(.type "object")],37,"EdgeError",M3,[],[(.ref 59),(.ref 79),(.ref 98),(.ref 117)],M5,M0,M5⟩),#[(My<|.ref 22),M0,(My B4),(My w_),(My<|.builtin "ValueError.__new__"),(My<|.bool M3)]⟩
def Ml:Oz:=nT<|ot.take 21
def ZJ:Oz:=q0 P 16 oa
def Mj:Oz:=⟨(.type "type"),M0,(.cls ⟨"EdgeError",[(.type "ValueError")],[(.ref 38),(.type "ValueError"),(.type "Exception"),(.type "BaseException"),(.type "object")],37,"EdgeError",M3,[],[(.ref 59),(.ref 79),(.ref 98),(.ref 117),(.ref 137)],M5,M0,M5⟩),#[(My<|.ref 22),M0,(My B4),(My w_),(My<|.builtin "ValueError.__new__"),(My<|.bool M3)]⟩
def Mi:Oz:=nT<|ot.take 24
def ZI:Oz:=q0 P 17 oa
def Mh:Oz:=⟨(.type "type"),M0,(.cls ⟨"EdgeError",[(.type "ValueError")],[(.ref 38),(.type "ValueError"),(.type "Exception"),(.type "BaseException"),(.type "object")],37,"EdgeError",M3,[],[(.ref 59),(.ref 79),(.ref 98),(.ref 117),(.ref 137),(.ref 157)],M5,M0,M5⟩),#[(My<|.ref 22),M0,(My B4),(My w_),(My<|.builtin "ValueError.__new__"),(My<|.bool M3)]⟩
def Mg:Oz:=nT<|ot.take 27
def ZH:Oz:=q0 P 18 oa
def KN:Oz:=nT<|ot.take 45
noncomputable def MG:Oz:=q0 P 28<|.str "edgetally.bounds" 401
def KK:Oz:=nT<|ot.take 72
noncomputable def MF:Oz:=q0 P 37<|.str "edgetally.fits" 463
def KI:Oz:=nT<|ot.take 93
noncomputable def ME:Oz:=q0 P 45<|.str "edgetally.net" 569
def KF:Oz:=nT<|ot.take 117
def MD:Oz:=q0 P 53 xl
def KD:Oz:=nT<|ot.take 129
def MC:Oz:=q0 P 60 xl
def KA:Oz:=nT<|ot.take 132
def MB:Oz:=q0 P 61 xl
def Ky:Oz:=nT<|ot.take 156
noncomputable def MA:Oz:=⟨(.type "dict"),M0,(.dict ((mL P).take 69).toArray 69),#[]⟩
def Kw:Oz:=nT<|ot.take 180
noncomputable def Mz:Oz:=⟨(.type "dict"),M0,(.dict ((mL P).take 77).toArray 77),#[]⟩
def kL:a0J:=((W8 P).objs.toList.set 3<|b3 P)++[b7,b12,b13,b14]++rrA++[b22,b23,b24 P,b7,b26,b27,b28]++rrB++[b36,b37 P,b38,b39,b40,b41]++uE P 3 42 224 10 "BadSums" "BadSums.__init__" ["these sums are no table's"] ["self","why"] []++uE P 4 62 249 14 "BadBounds" "BadBounds.__init__" ["these bounds are no table's"] ["self","why"] []++uE P 5 82 274 18 "TooWide" "TooWide.__init__" [] ["self","wide"] ["wide"]++uE P 6 101 299 23 "Barred" "Barred.__init__" [] ["self","over","into"] ["into","over"]++uE P 7 120 326 29 "BadRule" "BadRule.__init__" ["there is no such rule"] ["self","why"] []++uE P 8 140 351 33 "BadCell" "BadCell.__init__" ["there is no such cell"] ["self","why"] []++uE P 9 160 376 37 "BadNumber" "BadNumber.__init__" ["this number is out of its bounds"] ["self","why"] []++[b180,b181 P]++rrC++R_++y3++[b265 P]++rrF++Yk++y2++[b350 P]++rrI++[b358,b359,b360]++rrJ++[b7,b23,b387 P,b7,b389,b390,b391,b392,b393 P]++rrK++rrL++[b446,b447 P,b448,b449,b450,b451,b452]++nw
abbrev K_:Op:=W8 P
def YQ:Op:=⟨⟨(((kL P).take 15).set 3<|Xm P).set 12<|nO []⟩,{}⟩
def k1H:Op:=⟨⟨(((kL P).take 22).set 3<|ZP P).set 12<|Mx⟩,{}⟩
def k2H:Op:=⟨⟨((((kL P).take 42).set 3<|ZO P).set 12<|Mw).set 38<|Mv⟩,{}⟩
def k3H:Op:=⟨⟨((((kL P).take 62).set 3<|ZN P).set 12<|Mu).set 38<|Mt⟩,{}⟩
def k4H:Op:=⟨⟨((((kL P).take 82).set 3<|ZM P).set 12<|Ms).set 38<|Mr⟩,{}⟩
def k5H:Op:=⟨⟨((((kL P).take 101).set 3<|ZL P).set 12<|Mq).set 38<|Mp⟩,{}⟩
def k6H:Op:=⟨⟨((((kL P).take 120).set 3<|ZK P).set 12<|Mo).set 38<|Mn⟩,{}⟩
def k7H:Op:=⟨⟨((((kL P).take 140).set 3<|ZJ P).set 12<|Ml).set 38<|Mj⟩,{}⟩
def k8H:Op:=⟨⟨((((kL P).take 160).set 3<|ZI P).set 12<|Mi).set 38<|Mh⟩,{}⟩
def k9H:Op:=⟨⟨(((kL P).take 180).set 3<|ZH P).set 12<|Mg⟩,{}⟩
def KO:Op:=⟨⟨(((kL P).take 218).set 3<|MG P).set 12<|KN⟩,{}⟩
def KM:Op:=⟨⟨(((kL P).take 265).set 3<|MF P).set 12<|KK⟩,{}⟩
def KJ:Op:=⟨⟨(((kL P).take 311).set 3<|ME P).set 12<|KI⟩,{}⟩
def KG:Op:=⟨⟨(((kL P).take 358).set 3<|MD P).set 12<|KF⟩,{}⟩
def KE:Op:=⟨⟨(((kL P).take 385).set 3<|MC P).set 12<|KD⟩,{}⟩
def KC:Op:=⟨⟨(((kL P).take 453).set 3<|MB P).set 12<|KA⟩,{}⟩
def Kz:Op:=⟨⟨(((kL P).take 497).set 3<|MA P).set 12<|Ky⟩,{}⟩
def Kx:Op:=⟨⟨(((kL P).take 549).set 3<|Mz P).set 12<|Kw⟩,{}⟩
noncomputable def wa:Op:=⟨⟨kL P⟩,{}⟩
end
noncomputable def aH:a0n:=[2,3]++gA 29 YL++[37,38,49,55,56,58,59,69,75,76,78,79,180,181,185,186,190,191,197,198,204,205,211,212,216,217]++gA 223 ZD++[265,269,270,276,277,290,291,297,298,302,303]++gA 304 ZC++[350,356,357,358,360,366,367,392,393,397,398,447,448]++gA 453 ZA
def KH(P:V1):ND:=aH.map λi=>(i,(kL P).getD i<|tO [])
theorem eH:∀P,aH=(KH P).map (·.1):=λ_=>by kernel_rfl
noncomputable def qH:NY:={PySem.Challenge.pw_edgetally_k14_sums_at_every_door with main:={PySem.Challenge.pw_edgetally_k14_sums_at_every_door.main with body:=[dk 0,dk 2,dk 3,dk 4,dk 5,dk 6,dk 7,dk 8,dk 9,dk 11,dk 12,dk 13,dk 14,dk 16,dk 17,dk 18,dk 19,dk 20,dk 21,dk 23,dk 24,dk 25,dk 26,dk 27,dk 28,dk 29,dk 30,dk 33,dk 34,dk 35,dk 36,dk 37,dk 39,dk 40,dk 41,dk 42,dk 43,dk 44,dk 45,dk 46,dk 47,dk 50,dk 51,dk 52,dk 53,dk 54,dk 55,dk 56,dk 57,dk 59,dk 60,dk 61,dk 62,dk 63,dk 64,dk 65,dk 66,dk 67,dk 68,dk 69,dk 70,dk 71,dk 72,dk 73,dk 74,dk 75,dk 76,dk 77]}}
noncomputable abbrev lvH:List (N8×PySem.W.WData):=[("FREE",PySem.W.WData.tuple [VV 0,VV 40])]
noncomputable abbrev loH:a0g:=["BadSums","BadBounds","BadRule","BadCell","BadNumber","FREE","free","fitting","net_holds","Measure"]
abbrev hkH:=PySem.W.kHook KH aH eH
def xtH(s:Na):Bool:=PySem.W.xlAt qH lvH s&&PySem.W.recOk (PySem.W.RowW.records<|P4<|Qp N4) s
noncomputable abbrev pH:NY:=V2<|P4<|Qp N4
noncomputable def mx:a0R:=PySem.W.behindTheImports pH
noncomputable def m_:Vm:={scope:=pH.main.scope,locals:=mainNs,globals:=mainNs,cells:=[],code:=(.ref 13),frame:=(My 14)}
def cH:Code:= .body mx m_
noncomputable abbrev mX:List Frame:=[PySem.W.topFrame ⟨0,0,0,0⟩]
theorem opH(w:N6):(PySem.W.fencedOpening N7 pH w 8364).map (λs=>(s.heap,s.gens,s.drawn,s.toks))=My (K_ w.params,#[],{},181):=by kernel_rfl
theorem szH(w:N6):((K_ w.params).isNs PZ&&(#[]:Array GenState).size==0,(K_ w.params).objs.size,(K_ w.params).nsMap PZ "__annotations__")=(M3,11,(My<|.ref 6)):=by kernel_rfl
theorem r1H(w:N6)(D:Qd):PySem.W.topGo N7 pH w 11 (My<|.ref 6) 12 ⟨K_ w.params,#[],{},181,D⟩ (XI pH)=My (⟨YQ w.params,#[],{},187,D⟩,⟨denote N7<|.body mx m_,cH,⟨0,0,0,0⟩,mX⟩):=by kernel_rfl
theorem r2H(w:N6)(D:Qd):Os N7 pH w 11 (My<|.ref 6) 1 1 ⟨YQ w.params,#[],{},187,D⟩ (PySem.W.blockOf mx m_ cH ⟨0,0,0,0⟩ mX)=My (.next,⟨YQ w.params,#[],{},187,D⟩,cH,⟨0,0,0,0⟩):=by kernel_rfl
theorem c1H(w:N6)(D:Qd):Os N7 pH w 11 (My<|.ref 6) 1 39 ⟨YQ w.params,#[],{},187,D⟩ (Oo (mx.take 2) m_ cH ⟨0,0,0,0⟩ mX)=My (.next,⟨k1H w.params,#[],{},196,D⟩,cH,⟨4,0,4,8⟩):=by kernel_rfl
theorem c2H(w:N6)(D:Qd):Os N7 pH w 11 (My<|.ref 6) 1 220 ⟨k1H w.params,#[],{},196,D⟩ (Oo ((mx.drop 2).take 1) m_ cH ⟨4,0,4,8⟩ mX)=My (.next,⟨k2H w.params,#[],{},224,D⟩,cH,⟨5,0,9,24⟩):=by kernel_rfl
theorem c3H(w:N6)(D:Qd):Os N7 pH w 11 (My<|.ref 6) 1 247 ⟨k2H w.params,#[],{},224,D⟩ (Oo (((mx.drop 2).drop 1).take 1) m_ cH ⟨5,0,9,24⟩ mX)=My (.next,⟨k3H w.params,#[],{},249,D⟩,cH,⟨10,0,13,45⟩):=by kernel_rfl
theorem c4H(w:N6)(D:Qd):Os N7 pH w 11 (My<|.ref 6) 1 247 ⟨k3H w.params,#[],{},249,D⟩ (Oo ((((mx.drop 2).drop 1).drop 1).take 1) m_ cH ⟨10,0,13,45⟩ mX)=My (.next,⟨k4H w.params,#[],{},274,D⟩,cH,⟨14,0,17,47⟩):=by kernel_rfl
theorem c5H(w:N6)(D:Qd):Os N7 pH w 11 (My<|.ref 6) 1 246 ⟨k4H w.params,#[],{},274,D⟩ (Oo (((((mx.drop 2).drop 1).drop 1).drop 1).take 1) m_ cH ⟨14,0,17,47⟩ mX)=My (.next,⟨k5H w.params,#[],{},299,D⟩,cH,⟨18,0,22,24⟩):=by kernel_rfl
theorem c6H(w:N6)(D:Qd):Os N7 pH w 11 (My<|.ref 6) 1 248 ⟨k5H w.params,#[],{},299,D⟩ (Oo ((((((mx.drop 2).drop 1).drop 1).drop 1).drop 1).take 1) m_ cH ⟨18,0,22,24⟩ mX)=My (.next,⟨k6H w.params,#[],{},326,D⟩,cH,⟨23,0,28,30⟩):=by kernel_rfl
theorem c7H(w:N6)(D:Qd):Os N7 pH w 11 (My<|.ref 6) 1 247 ⟨k6H w.params,#[],{},326,D⟩ (Oo (((((((mx.drop 2).drop 1).drop 1).drop 1).drop 1).drop 1).take 1) m_ cH ⟨23,0,28,30⟩ mX)=My (.next,⟨k7H w.params,#[],{},351,D⟩,cH,⟨29,0,32,45⟩):=by kernel_rfl
theorem c8H(w:N6)(D:Qd):Os N7 pH w 11 (My<|.ref 6) 1 247 ⟨k7H w.params,#[],{},351,D⟩ (Oo ((((((((mx.drop 2).drop 1).drop 1).drop 1).drop 1).drop 1).drop 1).take 1) m_ cH ⟨29,0,32,45⟩ mX)=My (.next,⟨k8H w.params,#[],{},376,D⟩,cH,⟨33,0,36,45⟩):=by kernel_rfl
theorem c9H(w:N6)(D:Qd):Os N7 pH w 11 (My<|.ref 6) 1 247 ⟨k8H w.params,#[],{},376,D⟩ (Oo (((((((((mx.drop 2).drop 1).drop 1).drop 1).drop 1).drop 1).drop 1).drop 1).take 1) m_ cH ⟨33,0,36,45⟩ mX)=My (.next,⟨k9H w.params,#[],{},401,D⟩,cH,⟨37,0,40,47⟩):=by kernel_rfl
theorem c10H(w:N6)(D:Qd):Os N7 pH w 11 (My<|.ref 6) 1 228 ⟨k9H w.params,#[],{},401,D⟩ (Oo ((((((((((mx.drop 2).drop 1).drop 1).drop 1).drop 1).drop 1).drop 1).drop 1).drop 1).take 11) m_ cH ⟨37,0,40,47⟩ mX)=My (.next,⟨KO w.params,#[],{},457,D⟩,cH,⟨69,0,77,44⟩):=by kernel_rfl
theorem c11H(w:N6)(D:Qd):Os N7 pH w 11 (My<|.ref 6) 1 251 ⟨KO w.params,#[],{},457,D⟩ (Oo (((((((((((mx.drop 2).drop 1).drop 1).drop 1).drop 1).drop 1).drop 1).drop 1).drop 1).drop 11).take 10) m_ cH ⟨69,0,77,44⟩ mX)=My (.next,⟨KM w.params,#[],{},518,D⟩,cH,⟨102,0,109,23⟩):=by kernel_rfl
theorem c12H(w:N6)(D:Qd):Os N7 pH w 11 (My<|.ref 6) 1 240 ⟨KM w.params,#[],{},518,D⟩ (Oo ((((((((((((mx.drop 2).drop 1).drop 1).drop 1).drop 1).drop 1).drop 1).drop 1).drop 1).drop 11).drop 10).take 10) m_ cH ⟨102,0,109,23⟩ mX)=My (.next,⟨KJ w.params,#[],{},582,D⟩,cH,⟨153,0,158,27⟩):=by kernel_rfl
theorem Z_(w:N6)(D:Qd):Os N7 pH w 11 (My<|.ref 6) 1 246 ⟨KJ w.params,#[],{},582,D⟩ (Oo (((((((((((((mx.drop 2).drop 1).drop 1).drop 1).drop 1).drop 1).drop 1).drop 1).drop 1).drop 11).drop 10).drop 10).take 9) m_ cH ⟨153,0,158,27⟩ mX)=My (.next,⟨KG w.params,#[],{},650,D⟩,cH,⟨199,0,199,8⟩):=by kernel_rfl
theorem Z9(w:N6)(D:Qd):Os N7 pH w 11 (My<|.ref 6) 1 155 ⟨KG w.params,#[],{},650,D⟩ (Oo ((((((((((((((mx.drop 2).drop 1).drop 1).drop 1).drop 1).drop 1).drop 1).drop 1).drop 1).drop 11).drop 10).drop 10).drop 9).take 7) m_ cH ⟨199,0,199,8⟩ mX)=My (.next,⟨KE w.params,#[],{},693,D⟩,cH,⟨215,0,216,91⟩):=by kernel_rfl
theorem Z8(w:N6)(D:Qd):Os N7 pH w 11 (My<|.ref 6) 1 454 ⟨KE w.params,#[],{},693,D⟩ (Oo (((((((((((((((mx.drop 2).drop 1).drop 1).drop 1).drop 1).drop 1).drop 1).drop 1).drop 1).drop 11).drop 10).drop 10).drop 9).drop 7).take 1) m_ cH ⟨215,0,216,91⟩ mX)=My (.next,⟨KC w.params,#[],{},783,D⟩,cH,⟨217,0,262,16⟩):=by kernel_rfl
theorem Z7(w:N6)(D:Qd):Os N7 pH w 11 (My<|.ref 6) 1 231 ⟨KC w.params,#[],{},783,D⟩ (Oo ((((((((((((((((mx.drop 2).drop 1).drop 1).drop 1).drop 1).drop 1).drop 1).drop 1).drop 1).drop 11).drop 10).drop 10).drop 9).drop 7).drop 1).take 9) m_ cH ⟨217,0,262,16⟩ mX)=My (.next,⟨Kz w.params,#[],{},842,D⟩,cH,⟨300,0,301,90⟩):=by kernel_rfl
theorem Z6(w:N6)(D:Qd):Os N7 pH w 11 (My<|.ref 6) 1 242 ⟨Kz w.params,#[],{},842,D⟩ (Oo (((((((((((((((((mx.drop 2).drop 1).drop 1).drop 1).drop 1).drop 1).drop 1).drop 1).drop 1).drop 11).drop 10).drop 10).drop 9).drop 7).drop 1).drop 9).take 8) m_ cH ⟨300,0,301,90⟩ mX)=My (.next,⟨Kx w.params,#[],{},911,D⟩,cH,⟨372,0,375,35⟩):=by kernel_rfl
theorem Z5(w:N6)(D:Qd):Os N7 pH w 11 (My<|.ref 6) 1 102 ⟨Kx w.params,#[],{},911,D⟩ (Oo ((((((((((((((((((mx.drop 2).drop 1).drop 1).drop 1).drop 1).drop 1).drop 1).drop 1).drop 1).drop 11).drop 10).drop 10).drop 9).drop 7).drop 1).drop 9).drop 8).take 3) m_ cH ⟨372,0,375,35⟩ mX)=My (.next,⟨wa w.params,#[],{},946,D⟩,cH,⟨396,0,412,97⟩):=by kernel_rfl
theorem e0H:((((((((((((((((((mx.drop 2).drop 1).drop 1).drop 1).drop 1).drop 1).drop 1).drop 1).drop 1).drop 11).drop 10).drop 10).drop 9).drop 7).drop 1).drop 9).drop 8).drop 3)=[]:=by kernel_rfl
theorem r9H(w:N6)(D:Qd):X8 N7 pH w 11 (My<|.ref 6) 2 ⟨wa w.params,#[],{},946,D⟩ ⟨PySem.W.doneF .next,cH,⟨396,0,412,97⟩,mX⟩=My ⟨wa w.params,#[],{},946,D⟩:=by kernel_rfl
theorem rnH(w:N6)(D:Qd):X8 N7 pH w 11 (My<|.ref 6) (12+(1+(39+(220+(247+(247+(246+(248+(247+(247+(247+(228+(251+(240+(246+(155+(454+(231+(242+(102+2)))))))))))))))))))) ⟨K_ w.params,#[],{},181,D⟩ (XI pH)=My ⟨wa w.params,#[],{},946,D⟩:=PySem.W.go_top (r1H w D)<|PySem.W.piece_block (r2H w D)<|bO 2 (c1H w D)<|bO 1 (c2H w D)<|bO 1 (c3H w D)<|bO 1 (c4H w D)<|bO 1 (c5H w D)<|bO 1 (c6H w D)<|bO 1 (c7H w D)<|bO 1 (c8H w D)<|bO 1 (c9H w D)<|bO 11 (c10H w D)<|bO 10 (c11H w D)<|bO 10 (c12H w D)<|bO 9 (Z_ w D)<|bO 7 (Z9 w D)<|bO 1 (Z8 w D)<|bO 9 (Z7 w D)<|bO 8 (Z6 w D)<|bO 3 (Z5 w D)<|FV e0H<|r9H w D
theorem hlH:PySem.W.LeftO pH qH loH xtH (PySem.W.Hook.obs hkH) (PySem.W.Hook.val hkH) 8364:=PySem.W.LeftO.of_pieces (H₀:=K_) (H₁:=wa) opH szH rnH (by decide +kernel) λw=>by kernel_rfl
theorem okH:(PySem.W.chainsOk qH&&PySem.W.opensWell (V2<|P4<|Qp N4)&&(PySem.W.frees (P4<|Qp N4)&&(PySem.W.RowW.within<|P4<|Qp N4).isEmpty))=M3:=by decide +kernel
abbrev adH:Ad:=⟨38,35,fk rrB 6,59,56,fk (uN (.ref 49) .none 0 oa (eW (dk 3) 0) "__init__" "BadSums.__init__" 50 237 12 2 ["self","why"]) 6,79,76,fk (uN (.ref 69) .none 0 oa (eW (dk 4) 0) "__init__" "BadBounds.__init__" 70 262 16 2 ["self","why"]) 6,448,117,186,fk rrC 4,191,fk R_ 4,198,fk R_ 11,205,fk R_ 18,212,fk R_ 25,217,fk R_ 30,227,fk y3 4,232,fk y3 9,237,fk y3 14,242,fk y3 19,247,fk y3 24,252,fk y3 29,259,fk y3 36,264,fk y3 41,270,fk rrF 4,277,fk Yk 6,291,fk Yk 20,298,fk Yk 27,303,fk Yk 32,310,fk y2 6,317,fk y2 13,322,fk y2 18,327,fk y2 23,332,fk y2 28,339,fk y2 35,344,fk y2 40,349,fk y2 45,357,fk rrI 6,367,fk rrJ 6,457,fk nw 4,464,fk nw 11,469,fk nw 16,476,fk nw 23,481,fk nw 28,486,fk nw 33,491,fk nw 38,496,fk nw 43,501,fk nw 48,508,fk nw 55,515,fk nw 62,522,fk nw 69,527,fk nw 74,534,fk nw 81,541,fk nw 88,548,fk nw 95,555,fk nw 102,562,fk nw 109,398,fk rrK 4,569,fk nw 116⟩
section
variable{P:V1}{h:Op}{l:a0h}
theorem fH{x q:N8}{s:OB}{f:M6}{a b d h cd w:M8}{e:a0z}(l:(KH P).lookup f=My (fO<|FN x q s a b d h e cd w):=by kernel_rfl)(c:SA (KH P) cd q=M3:=by kernel_rfl)(k:Se (KH P) (.ref f)=M3:=by kernel_rfl):hV (KH P) x q s f (FN x q s a b d h e cd w):=IO l c k
theorem mO(X:(KH P).In h)(G:h.Ns PZ l){n:N8}{v:M8}(e:PySem.W.nsIn (KH P) PZ n=My (My v):=by kernel_rfl):l n=My v:=mg_of X G e
theorem mN(X:(KH P).In h)(G:h.Ns PZ l){n:N8}(e:PySem.W.nsIn (KH P) PZ n=My M0:=by kernel_rfl):l n=M0:=PySem.W.mg_none_of X G e
theorem nH(X:(KH P).In h)(G:h.Ns PZ l):p6 (KH P) l adH where
 Dv:=Lf (aC (kR (u:=(.ref 360)) (mO X G)<|nF (p:=360) (q1:=(.type "tuple")) (q2:=M0) (q3:=#[(.str "most" 660),(.str "least" 661)]) (q4:=0) (q5:=#[]) (by kernel_rfl) rfl (by decide)<|by repeat (first|exact trivial|refine⟨rfl,?_⟩)) (aC (kR (u:=(.ref 358)) (mO X G) (nF (p:=358) (q1:=(.type "tuple")) (q2:=M0) (q3:=#[(.str "rare" 650),(.str "square" 651),(.str "power" 652),(.str "off" 653),(.str "most" 654),(.str "least" 655)]) (q4:=0) (q5:=#[]) (by kernel_rfl) rfl (by decide) (by repeat (first|exact trivial|refine⟨rfl,?_⟩)))) (aC (kR (u:=(.int 40 403)) (mO X G) nG) (aC (kR (u:=(.int 6 407)) (mO X G) nG) (aC (kR (u:=(.int 4 405)) (mO X G) nG) (aC (kR (u:=(.int 500 571)) (mO X G) nG) (aC (fH) (aC (mO X G) (aC (DZ (us:=[(.ref 180)]) 2 rfl (λs us b a=>by obtain⟨c,d,rfl⟩:=T1 a;exact Xn b λS=>by kernel_rfl)<|ye (nF (p:=180) (q1:=(.type "tuple")) (q2:=M0) (q3:=#[(.int 0 409),(.int 40 403)]) (q4:=0) (q5:=#[]) (by kernel_rfl) rfl (by decide)<|by repeat (first|exact trivial|refine⟨rfl,?_⟩)) DU) (aC (⟨fH,mO X G,.all (z4 λ_ _=>rfl)⟩)<|aC (⟨fH,mO X G,.all<|z4 λ_ _=>rfl⟩)<|aC (⟨fH,mO X G,.all<|Yv λ_ _ _ _=>rfl⟩)<|aC (⟨fH,mO X G,.all<|p_ λ_=>rfl⟩)<|aC (⟨fH,mO X G,.all<|rz λ_ _ _=>rfl⟩)<|aC (⟨fH,mO X G,.all<|z4 λ_ _=>rfl⟩)<|aC (⟨fH,mO X G,.all<|Yv λ_ _ _ _=>rfl⟩)<|aC (⟨fH,mO X G,.all<|rz λ_ _ _=>rfl⟩)<|aC (⟨fH,mO X G,.all<|Yv λ_ _ _ _=>rfl⟩)<|aC (⟨fH,mO X G,.all<|rz λ_ _ _=>rfl⟩)<|aC (⟨fH,mO X G,.all<|p_ λ_=>rfl⟩)<|aC (⟨fH,mO X G,.all<|rz λ_ _ _=>rfl⟩)<|aC (⟨fH,mO X G,.all λus a=>by obtain⟨_,_,_,_,_,rfl⟩:=lU5 a;rfl⟩)<|aC (fH)<|aC (mO X G)<|aC (G2 (sv:=[.kw 0]) (.kw .nil) rfl (by decide) λs us g b e f=>by obtain⟨c,d,rfl⟩:=T1 e;obtain⟨i,rfl⟩:=YM f;exact .of_eq rfl)<|aC (⟨fH,mO X G,.all<|p_ λ_=>rfl⟩)<|aC (⟨fH,mO X G,.all<|p_ λ_=>rfl⟩)<|aC (⟨fH,mO X G,.all<|z4 λ_ _=>rfl⟩)<|aC (⟨fH,mO X G,.all<|rz λ_ _ _=>rfl⟩)<|aC (⟨fH,mO X G,.all<|p_ λ_=>rfl⟩)<|aC (⟨fH,mO X G,.all<|rz λ_ _ _=>rfl⟩)<|aC (⟨fH,mO X G,.all<|Yv λ_ _ _ _=>rfl⟩)<|aC (⟨fH,mO X G,.all<|z4 λ_ _=>rfl⟩)<|aC (⟨fH,mO X G,.all<|rz λ_ _ _=>rfl⟩)<|aC (⟨fH,mO X G,.all<|rz λ_ _ _=>rfl⟩)<|aC (⟨fH,mO X G,.all<|rz λ_ _ _=>rfl⟩)<|aC (⟨fH,mO X G,.all<|p_ λ_=>rfl⟩)<|aC (fH)<|aC (mO X G)<|aC (G2 (sv:=[.kw 0]) (.kw .nil) rfl (by decide) λs us g b e f=>by obtain⟨c,d,j,rfl⟩:=ZG e;obtain⟨i,rfl⟩:=YM f;exact .of_eq rfl)<|aC (⟨fH,mO X G,.all<|p_ λ_=>rfl⟩)<|aC (⟨fH,mO X G,.all<|p_ λ_=>rfl⟩)<|aC (⟨fH,mO X G,.all<|z4 λ_ _=>rfl⟩)<|aC (⟨fH,mO X G,.all<|Yv λ_ _ _ _=>rfl⟩)<|aC (⟨fH,mO X G,.all<|p_ λ_=>rfl⟩)<|aC (⟨fH,mO X G,.all<|p_ λ_=>rfl⟩)<|aC (⟨fH,mO X G,.all<|p_ λ_=>rfl⟩)<|aC (⟨fH,mO X G,.all<|p_ λ_=>rfl⟩)<|aC (⟨fH,mO X G,.all<|z4 λ_ _=>rfl⟩)<|aC (⟨fH,mO X G,.all<|p_ λ_=>rfl⟩)<|aC (⟨fH,mO X G,.all<|rz λ_ _ _=>rfl⟩)<|aC (⟨fH,mO X G,.all<|z4 λ_ _=>rfl⟩)<|aC (⟨fH,mO X G,.all<|z4 λ_ _=>rfl⟩)<|aC (⟨fH,mO X G,.all<|p_ λ_=>rfl⟩)<|aC (⟨fH,mO X G,.all<|rz λ_ _ _=>rfl⟩)<|aC (⟨fH,mO X G,.all<|p_ λ_=>rfl⟩)<|aC (⟨fH,mO X G,.all<|p_ λ_=>rfl⟩)<|aC (⟨fH,mO X G,.all<|rz λ_ _ _=>rfl⟩)<|aC (⟨fH,mO X G,.all<|rz λ_ _ _=>rfl⟩)<|aC (fH)<|aC (⟨by kernel_rfl,by kernel_rfl,by kernel_rfl,by kernel_rfl⟩)<|aC (DZ (us:=[(.ref 392)]) 4 rfl (λs us b a=>by obtain⟨c,d,j,k,rfl⟩:=ZF a;exact Xn b λS=>by kernel_rfl)<|ye (nF (p:=392) (q1:=(.type "tuple")) (q2:=M0) (q3:=#[(.int 0 705),(.int 0 706)]) (q4:=0) (q5:=#[]) (by kernel_rfl) rfl (by decide)<|by repeat (first|exact trivial|refine⟨rfl,?_⟩)) DU) (aC (⟨by kernel_rfl,by kernel_rfl,by kernel_rfl,by kernel_rfl⟩) (aC (mO X G) (aC (show Qm (KH P) _ _=_ by kernel_rfl) (aC (show Qm (KH P) _ _=_ by kernel_rfl) (aC (show Qm (KH P) _ _=_ by kernel_rfl) (aC (show Qm (KH P) _ _=_ by kernel_rfl) (aC (show Qm (KH P) _ _=_ by kernel_rfl) (aC (fH) (aC (.all (rz λ_ _ _=>rfl))<|aC (mO X G)<|aC (fH)<|aC (λs us b a=>by rw[NW]at a;obtain⟨_,_,rfl⟩:=T1 a;exact Ws (T:=49) rfl (b _ _ (show(KH P).lookup 49=My (tS 236 ["these sums are no table's"]) by kernel_rfl)) rfl rfl rfl)<|aC (mO X G)<|aC (⟨Gz (N:=58) (nm:="BadSums") (q:="BadSums") (bs:=[(.ref 38)]) (bm:=Z4) (hdct:=M3) (sn:=[]) (sub:=[]) (ab:=M5) (col:=M0) (dd:=M0) (k0:=(My<|.ref 42)) (k1:=M0) (k2:=(My<|.str "BadSums" 224)) (k3:=(My<|.str "BadSums" 232)) (k5:=(My<|.bool M3)) (cd:=⟨"BadSums",[(.ref 38)],[(.ref 59),(.ref 38),(.type "ValueError"),(.type "Exception"),(.type "BaseException"),(.type "object")],58,"BadSums",M3,[],[],M5,M0,M5⟩) (by kernel_rfl) (by kernel_rfl) (by kernel_rfl) (by kernel_rfl),by kernel_rfl,by kernel_rfl,by kernel_rfl⟩)<|aC (by kernel_rfl)<|aC (fH)<|aC (λs us b a=>by rw[NW]at a;obtain⟨_,_,rfl⟩:=T1 a;exact Ws (T:=69) rfl (b _ _ (show(KH P).lookup 69=My (tS 261 ["these bounds are no table's"]) by kernel_rfl)) rfl rfl rfl)<|aC (mO X G)<|aC (⟨Gz (N:=78) (nm:="BadBounds") (q:="BadBounds") (bs:=[(.ref 38)]) (bm:=Z4) (hdct:=M3) (sn:=[]) (sub:=[]) (ab:=M5) (col:=M0) (dd:=M0) (k0:=(My<|.ref 62)) (k1:=M0) (k2:=(My<|.str "BadBounds" 249)) (k3:=(My<|.str "BadBounds" 257)) (k5:=(My<|.bool M3)) (cd:=⟨"BadBounds",[(.ref 38)],[(.ref 79),(.ref 38),(.type "ValueError"),(.type "Exception"),(.type "BaseException"),(.type "object")],78,"BadBounds",M3,[],[],M5,M0,M5⟩) (by kernel_rfl) (by kernel_rfl) (by kernel_rfl) (by kernel_rfl),by kernel_rfl,by kernel_rfl,by kernel_rfl⟩)<|aC (by kernel_rfl)<|aC (mO X G)<|aC (⟨by kernel_rfl,by kernel_rfl,by kernel_rfl,by kernel_rfl⟩) trivial)))))))))))))))))))
 Dw:=mN X G
 Dx:=mN X G
 Dy:=mN X G
 Dz:=mN X G
 D0:=mN X G
 D3:=mN X G
 D4:=mN X G
 D5:=mN X G
 D6:=mN X G
 D7:=mN X G
 D8:=mN X G
 D9:=mN X G
 Ea:=mN X G
 Eb:=mN X G
 Ec:=mN X G
theorem wlkH:PySem.W.WalkO qH loH (PySem.W.XL qH lvH) (PySem.W.Hook.says hkH) (P4<|Qp N4) (Option.get (PySem.W.defOf qH "law") rfl).1 [] (λf D=>Xo f D):=
 L2.walk_of (n:=63) (k:=9) (x:="_law_script") (CX:=λw=>e_ _ w) (sp:=λw=>GJ<|KH w.params) rfl (by decide) rfl ⟨rfl,by decide,by decide,rfl⟩ (λw h Y=>PySem.W.kIn_of Y) (λw l i h c G b=>by
  have e:=b.symm.trans (mg_of c G (v:= .ref 569)<|by kernel_rfl);cases e;exact⟨FN "law" "law" (dk 77) .none .none .none (.str "law_edgetally_k14_sums_at_every_door" 783) M0 (.ref 568) .none,λs v=> .of_eq rfl,λbase _ _=>Kf (a:=adH) (fH (by kernel_rfl) (by kernel_rfl)<|by kernel_rfl) (nH c G) λE M=>FG (K:=KH w.params) (a:=adH) (by kernel_rfl) (by kernel_rfl) (by kernel_rfl) E M⟩) (λ_ _ a P d _ g=>⟨a,P,rfl,g,d,λ_=>rfl⟩) λ_ _ _ _ _ h=>by obtain⟨x,C,j,_,fl⟩:=h;obtain⟨_,_,z⟩:=fl.wish;all_goals exact z
end
end Law
open PySem.W
set_option maxHeartbeats 0 in
theorem PySem.Challenge.cw_edgetally_k14_sums_at_every_door_holds : PySem.Challenge.rw_edgetally_k14_sums_at_every_door.Holds := by
 w_on
 refine holds_law Law.wsH λsaid=>?_;refine holds_open (q:=Law.qH) (loose:=Law.loH) (Xt:=Law.xtH) (XP:=XL Law.qH Law.lvH) (Yf:=Hook.obs Law.hkH) (Ya:=Hook.val Law.hkH) (YP:=Hook.says Law.hkH) (N:=8364) Law.hlH (Hook.of Law.hkH) (Hook.keeps Law.hkH) (λs e=>xl_of s (W2.mp e).1) XL.keeps (by rfl) (by rfl) (by rfl) (λs e=>recFacts_of (W2.mp e).2) (by rfl) said Law.okH ⟨rfl,rfl,rfl,rfl,rfl,by decide +kernel⟩ ?hw ?hc
 case hw=>w_witness2
 exact Law.wlkH
