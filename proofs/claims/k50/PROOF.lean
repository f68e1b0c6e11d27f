import PyProof.Rows.All
import Wide.All
import OpenK.AllK
import Wide.FinOn
import Lean
import PyProof.EqAt
import PyProof.EqKinds
import PyProof.TupleCall
import PyProof.NsDelKeeps
import PyProof.ListRange
import PyProof.ExcArgsOwn
import PySem.Challenge.RW_edgetally_k50_whole_mean_by_one_thing_le
set_option Elab.async false
set_option linter.all false
set_option genSizeOf false
set_option compiler.extract_closed false
set_option bootstrap.genMatcherCode false
set_option maxHeartbeats 8000000
set_option maxRecDepth 100000
noncomputable section
open And renaming intro->Yh
open Array renaming length_toList->Qe,getElem?_eq_some_iff->Qo,getD->Sz,getElem?_eq_none->SQ,getElem?_toList->S6,forIn_toList->TM,getElem_toList->Uh,getElem?_eq_getElem->UM,getElem?_extract->X7,getElem?_push->YN,append_assoc->YY,size_extract->YZ,toList_push->Zp
open Bool renaming true->O6,false->O8,false_ne_true->Pf,false_eq_true->PF,and_eq_true->PV,not_true->Sc,true_and->S7,and_eq_true_iff->Tj,false_and->Tk,and_self->TH,eq_iff_iff->VD,and_false->VU,or_true->WI,or_eq_true->W7,not_false->Xw
open Classical renaming byContradiction->Sg
open Except renaming ok->RG
open False renaming elim->RH
open ForIn renaming forIn->YF
open ForInStep renaming yield->Vb
open Function renaming comp->UK
open Int renaming toNat_natCast->Ra,natCast_add->Sx,zero_add->T9,emod_nonneg->Uv,emod_lt_of_pos->UP,fdiv_eq_ediv_of_nonneg->UQ,natAbs_natCast->Wt,le_refl->Y5
open List renaming length_map->OY,mem_cons_of_mem->O1,getElem?_eq_getElem->O4,getD_eq_getElem?_getD->O5,getElem?_map->O9,mem_cons_self->Pa,range->Ph,map_cons->Pi,mem_map->Pj,getElem?_eq_some_iff->Pl,map_map->Pp,mem_cons->Pr,length_cons->Pt,replicate->Py,mem_of_getElem?->PD,size_toArray->PH,sum_cons->PL,mem_range->PN,length_append->PR,length_set->PX,length_range->PY,mem_singleton->P0,map_congr_left->P4,map_append->Qc,getElem_mem->Qd,mem_append_right->Qg,nodup_cons->Qi,mem_append->QB,append_nil->QI,flatMap_cons->QJ,mem_filter->QK,length_singleton->QO,getElem?_range->QU,map->QV,mem_replicate->Q0,replicate_succ->Q4,not_mem_nil->Q5,sum->Q6,append_assoc->Q8,getElem?_set->Q9,filterMap_cons->Rg,getElem?_eq_none->Ri,map_replicate->Rk,zip_cons_cons->Rl,drop_eq_getElem_cons->Rp,length_replicate->Rt,ext_getElem->RB,getElem_map->RC,mem_flatMap->RE,pairwise_singleton->RF,drop_eq_nil_of_le->RJ,getElem?_append_right->RK,find?_cons->RO,mem_or_eq_of_mem_set->RP,lookup_cons->RU,map_nil->RX,mem_append_left->RY,exists_cons_of_length_eq_add_one->R0,getElem?_replicate->R3,nil_append->R5,map_set->R8,take_of_length_le->R9,all_eq_true->Sf,getElem_range->Sh,pairwise_iff_getElem->Sm,forIn_cons->Su,flatten_cons->Sy,filter_cons->SK,forIn_nil->SL,map_flatMap->SM,contains_cons->SS,zipWith->SU,range_succ->S5,take_append_drop->S9,cons_append->Tt,length_take->Tu,take_length->Tv,getElem?_append_left->Tx,pairwise_cons->TV,flatMap_eq_nil_iff->TZ,length_eq_zero_iff->T0,map_drop->Uj,lookup->Um,flatMap_append->Uw,set_set->UD,mem_filterMap->UL,getElem?_eq_none_iff->UY,nodup_append->U3,pairwise_map->U4,reverse_cons->U5,take_add_one->U6,any_cons->Vc,drop_length->Vq,nodup_range->Vr,length_pos_of_mem->Vy,getElem?_toArray->VO,getElem?_append->VW,length->VX,map_id->VY,mem_of_mem_take->VZ,nodup_nil->V0,filter_sublist->Wc,getElem_of_mem->Wd,length_zipWith->We,all_cons->Wh,map_take->Wj,foldl->Wq,map_inj_right->Wr,zip_nil_left->WM,flatMap_map->WT,filter_map->Xa,length_nil->Xb,length_zip->Xc,map_const'->Xd,of_mem_zip->Xe,sum_append->Xf,getElem?_take_of_lt->XW,length_erase_of_mem->XX,getElem?_cons_succ->X9,filter_eq_nil_iff->Yl,getElem?_set_self->Ym,range_succ_eq_map->Yn,getElem?_zipWith->Yq,pairwise_flatMap->Yr,getElem?_set_ne->YR,getElem_reverse->YS,mem_erase_of_ne->YT,filter_flatMap->Y6,length_reverse->Y7,getElem?_drop->Zr,any_eq_false->ZO,ext_getElem?->ZP,filter_congr->ZQ,foldl_append->ZR,take_sublist->ZS,zipWith_self->ZT
open List.Pairwise renaming nil->VE
open List.Perm renaming of_eq->Wu
open List.Sublist renaming refl->VM
open List.cons renaming injEq->SN,inj->VN
open Min renaming min->UW
open Nat renaming le_refl->Pg,le_trans->Pk,lt_of_lt_of_le->PZ,mul_assoc->Qh,zero_le->Qk,mul_comm->Ql,ne_of_lt->Qm,mul_left_comm->Qp,zero_add->Qu,lt_irrefl->Qw,gcd->QE,le_add_right->Q7,lt_of_le_of_lt->Rc,not_lt_zero->R6,ne_of_gt->Sd,add_comm->SA,pow_le_pow_right->SB,gcd_pos_of_pos_right->SD,lt_or_ge->SY,lt_trichotomy->Tg,eq_of_mul_eq_mul_right->Tl,div_le_self->TX,add_mul->T3,le_succ->T4,mul_div_cancel_left->T6,add_left_comm->Ua,mul_le_mul->Ub,mul_zero->Uc,add_assoc->Uo,mul_le_mul_right->Ur,le_add_left->Ux,min_le_left->Uy,lt_trans->UF,sub_self->UG,zero_mul->UH,lt_succ_of_lt->Vd,mul_pos->Ve,add_sub_cancel_left->Vt,le_mul_of_pos_right->Vu,lt_succ_self->Vv,le_of_lt->VF,mod_lt->VG,add_le_add_right->V2,mul_add->V3,pow_add->V4,add_sub_cancel->Wv,eq_zero_or_pos->Ww,gcd_dvd_right->WP,lt_of_succ_lt->WQ,gcd_dvd_left->W1,gcd_le_right->W2,mul_one->Xh,strongRecOn->Xl,coprime_div_gcd_div_gcd->Xz,add_le_add->XG,div_eq_of_eq_mul_right->XH,eq_of_mul_eq_mul_left->XZ,add_zero->Ys,div_div_eq_div_mul->Yt,le_of_eq->Yu,pow_succ->Yv,log2_lt->Y8,one_mul->Y9,add_le_add_left->Zt,gcd_zero_right->ZU,le_min->ZV,mul_right_comm->ZW,pos_of_ne_zero->ZX
open Option renaming some->on,none->OZ,map_some->Rj,map_eq_some_iff->Rm,bind_some->SE,isSome_iff_exists->XA,bind_eq_some_iff->XI,getD_none->Zu,getD_some->Zv
open Option.some renaming inj->P3,injEq->X0
open Or renaming inl->RZ,inr->TL
open Prod renaming ext->QN,ext_iff->RM
open Pure renaming pure->Rz
open PyProof renaming noPylong_of_log2->Xm
open PyProof.Rows renaming callWith_type1->Re,seqObj->Ts,envOfC->Ud,AllBare->U1,listUpdate_at->VJ,callWith_builtin1->V1,subscriptTail_builtinR->V9,assignInOrder_cons->W3,IntsAre->Yk,subscriptTail->Zm
open PyProof.Rows.IsTup renaming new->ZN
open PySem renaming wpAny_bind->My,wpAny_pure->O0,Addr->O7,Value->Pb,Shared->Pe,starEach->Po,wpAny->Pq,sizeLine->Ps,model->PM,FuncData->PP,Program->P6,Str->Qa,World->Qb,treeTable->Qf,wpAny_mono->Qj,foldedSetIterable->Qq,wpAny_call_entry->Qr,Heap->Qt,SetTable->Qx,Around->Qy,eval->Qz,Stmt->QD,wpAny_holding->QL,wpAny_newObj_type->QP,wpAny_truthy_bool->QR,Obj->QS,compareOp->QX,wpAny_field->QY,mem_of_lookup->Q2,wpAny_standAt->Q3,wpAny_setField_rec->Rf,Comprehension->Ro,cellsFrom->Rr,keywordEach->Rv,wpAny_setState_of->Rw,backTo->Ry,wpAny_seqItems->RA,sizeLine_eq->RI,mainGlobals->RV,OsState->Sa,wpAny_loadPart_at->Sb,wpAny_isInstance->Sk,binaryOp->Sv,wpAny_setField->Sw,wpAny_specialOf->SG,backToKw->SI,standAt->SJ,wpAny_comprehension_free->SO,Within->SR,codeAny->SW,IsPair->SX,wpAny_typeNameOfWhole_itemiter->S3,bootBuiltins->Te,wpAny_rule->Tf,wpAny_passesOwn->Ti,rawInt->Tq,NameKind->Tz,sliceBounds->TD,wpAny_of_eq->TF,codeAny_mono->TN,holding->TR,swapsWith->TU,wpAny_typeNameOf_itemiter->TY,attributeBase->T7,wpAny_attempt->T8,wpAny_Call_Name_kw->Uf,DictEntry->Ug,firstArgMember->Uk,pyNext->Ul,Pos->Uq,plainObj_wpAny_Assign_Attribute->Us,cLine->Uu,wpAny_askSetting->UC,behindInMarks->UE,codeAny_call_builtin->UI,assign->UU,letOwnedTupleGo->UV,wpAny_execs_nil->UX,wpAny_isSubtype_exc->UZ,getMethod->Vf,IsItemIter->Vg,Paired->Vi,Fin->Vk,isInstance->Vm,isSubtype_type->Vn,wpAny_call->Vp,IsZip->Vx,wpAny_pyIter_list->VB,wpAny_pyIter_slot->VC,call->VI,wpAny_onRaise->VL,setFlight->VS,wpAny_forIn_list->VT,assignEach->V5,intKind->V7,wpAny_isOneOf_itemiter->Wa,wpAny_pyIter_rangeiter->Wb,builtinLookup_eq_fast->Wm,isSubtype_tuple_tuple->Wn,evalEach->Wz,pyIter->WB,wpAny_fieldsOf->WC,wpAny_letGo->WD,wpAny_loadPart->WE,wpAny_newTuple->WF,wpAny_updateSeq_pair->WG,BindsTo->WH,Keyword->WL,wpAny_setEntries_of->WS,Model->WU,atKey->WV,Env->WY,sysModules->W4,wpAny_pyIter_tuple->W5,wpAny_tupleItemsOf->W6,callWith->Xn,callerA->Xo,ofAClassStatement->Xq,searchCouldBeSeen->Xs,wpAny_assign_Name->Xu,wpAny_dictEntries->Xv,Params->XJ,checkBuiltinCall->XN,noFill_tuple_add->XO,pastItsLine_dict->XQ,pickOrder->XR,wpAny_lookBehind->XS,Draws->XT,IsRangeIter->XV,again->X4,wpAny_alloc->X6,codeAny_builtin->Yc,codeAny_of_tree->Yd,typeLookup_type->Ye,wpAny_dictEpoch->Yg,PyData->Yw,builtinsNs->Yy,call_meets->YA,compPost->YC,entryFor_alias->YD,entryOfKey->YE,intItems->YG,isSubtype_stop->YH,newFunctionEnv->YJ,setField->YL,call->Zh,assignInOrder->Zi,evalPart_none->Zk,seq_tuple_add->Zl,wpAny_getItem_list_slice->Zn,wpAny_handled->Zo,PassesOwn->Zw,list_append->ZC,bindC->ZE,bindL->ZF,eqIsQuiet->ZG,field->ZH,lastMarks->ZI,noteFrame->ZJ,slicePick->ZK,newExc->Z2,seqIndex_neg->Z3,setAttr->Z4,typeOf->Z5,wpAny_Call_method_late->Z6,wpAny_nsSet1->Z7,wpAny_pyNext_range_end->Z8
open PySem.Around renaming under->Wo,under_plainId->Yi
open PySem.Builtin.BaseException renaming bexcPut->Y0
open PySem.Builtin.Dict renaming showsAll->WX
open PySem.Builtin.Dict_items renaming ownsTuple->TK,ownedTupleFields->UN,ownedTupleIsFree->UO,pairFromOwner->Va
open PySem.Builtin.Int renaming intBits->Xx
open PySem.Builtin.List renaming listTooLong->Ut,listExtendWith->Wg,listSameRef->WJ
open PySem.Builtin.Range renaming rangeFitsLong->QW,rangeSize->WK
open PySem.Builtin.SmallTypes renaming nextOf->Rx,ownedTupleIsFree->RQ,ownedTupleHandOut->UJ,refuseKeywords->U2
open PySem.Builtin.Tuple renaming tupleHashOf->Ui
open PySem.Calls renaming callWith_builtin->Vs,Name_function_global->Xj,evalArgs_plain->Yo,Constant_str->Y1,spliced_cons->Y2,spliced_nil->Zq
open PySem.Challenge renaming rw_edgetally_k50_whole_mean_by_one_thing_le->P5
open PySem.Code renaming quiet_builtin->Wp,isFrame->Yj
open PySem.Draws renaming list->Y3
open PySem.F renaming slot_dict_itemiterator_next->Ru,excBase_ValueError->Td,slot_tuple_iterator_next->Tw,args_tuple_add_2->UR,slot_list_append->US,type_list_append->UT,entry_tuple_add->U7,plainAttrs_list->U8,slot_tuple_add->Vj,slot_zip_next->VV,args_dict_itemiterator_next_1->W8,entry_dict_itemiterator_next->Xk,slot_dict_itemiterator_iter->Xy,plainAttrs_dict->XD,args_tuple_iterator_next_1->XF,entry_tuple_iterator_next->XU,slot_dict_get->X3,slot_dict_items_iter->Y4,args_list_append_2->ZL
open PySem.Heap renaming get?_push_of_some->O3,get?_push_size->Px,lt_size->PQ,SameBut->P7,size_push->QZ,get?_update_self->Rh,get?_update_other->R7,get?_update_ne->SH,ExtBut->WZ,get?_none_of_le->YO,get?_push_ne->ZM
open PySem.Heap.IsSliceOf renaming new->W9
open PySem.Heap.Ns1 renaming of_empty->Yp
open PySem.Heap.SameBut renaming update->Rb
open PySem.IntMulOk renaming of_bits->YQ
open PySem.IsTupleKey renaming typeIs->X8
open PySem.Manifest renaming find?->Zs
open PySem.NameKind renaming free->Sn,cell->Xg
open PySem.Obj renaming data_mapFields->Q1,mapSeq->Rq,isFreed_of_fields->Tc,mapFields->Vh,putSet->VH,cls_mapFields->WR
open PySem.P renaming add_list->Zb
open PySem.PyData renaming shownAll->Sj,depth->Ss,eqvAll->SZ,eqv->Th,depthAll->TC,list->VP,showableAll->Wf,hasDictAll->Ws,canLayAll0->Za,showable->ZY
open PySem.SeqAt renaming shaped->UA
open PySem.SetTable renaming fits->Xi,fresh->ZD
open PySem.Str renaming ofString->QT,empty->Ta
open PySem.Value renaming ref->Pw,none->Qn,type->SC,int->Tp,bool->Wl,isInt_shape->Wx,isInt->Yx,str->Z1
open PySem.W renaming Frag->Pz,piecesOf->Qv,segRun->QC,findIn->RN,Looks->RT,fnOf->T1,codeIn->Uz,emptyDict->UB,hideAll_none->U9,keepIn->Vo,kia_one->Vz,kia_tup->VA,hideAll->V6,hideAll_get->WA,instObj->WN,kitx_list->WO,methodCall_KW->WW,looks_findIn->Xp,looks_clsIn->X5,callWith_K->Yz,cellsFrom_some->YB,kitx_tuple->YI,of_hideAll->YK,topFrame->YM,boot_heap->YU,kitx_bool->YV,kitx_none->YW,plainOver->YX,boot_o_3->Zc,handedIn->Zd,kitx_int->Ze,kitx_own->Zf,kitx_str->Zg,bind_fn->Zx,findCls->Zy,makesIn->Zz,takesIn->ZA,topStub->ZB,kitAny->ZZ,topRun->Z0
open PySem.W.Looks renaming here->Vw,ld->VR
open PySem.W.OpenLaw renaming row->Si
open PySem.W.OpenRow renaming toRowW->RW
open PySem.W.RowW renaming prog->XM
open PySem.W.WData renaming int->XE
open PySem.Within renaming cons->VQ
open PySem.pickOrder renaming go->Xr
open True renaming intro->SV
open PySem PySem.Spec PyProof PyProof.Rows
abbrev a0Y:=List Bool
abbrev a0V:=Int->Int->Prop
abbrev a0T:=Nat->Nat
abbrev a0S:=List<|Int×Int
abbrev a0Q:=List QD
abbrev a0O:=List Ro
abbrev a0N:=Option Bool
abbrev a0M:=List QS
abbrev a0L:=Nat->Int
abbrev a0K:=List<|Qa×Tz
abbrev a0J:=Int->Int->Int
abbrev a0I:=Array Pb
abbrev a0H:=Option Nat
abbrev a0D:=List WY
abbrev a0C:=Option O7
abbrev a0y:=Array Nat
abbrev a0x:=Array<|Int×Pb
abbrev a0w:=Array a0H
abbrev a0v:=Option Int
abbrev a0s:=Option<|O7×O7
abbrev a0q:=List O7
abbrev a0n:=List<|Qa×O7
abbrev a0k:=List<|Nat×Nat
abbrev a0i:=Qa->Option Pb
abbrev a0h:=List Qa
abbrev a0g:=List Pb
abbrev a0f:=List a0k
abbrev a0e:=List Int
abbrev a0t:=List<|a0e×O7
abbrev a0d:=Pb->Pe->Prop
abbrev a0b:=List<|O7×QS
abbrev a0a:=List Nat
abbrev a0l:=List a0a
abbrev Pc:=@if_pos
abbrev Pd:=@if_neg
abbrev Pn:=@decide_eq_true
noncomputable abbrev PU:=@absurd
abbrev P8:=@decide_eq_false
abbrev P9:=@decide_eq_true_eq
abbrev Qs:=@if_true
abbrev QA:=@if_false
abbrev QG:=@congrArg
abbrev QH:=@of_decide_eq_true
abbrev Se:=@beq_iff_eq
abbrev S8:=@bne_self_eq_false
abbrev Ue:=@or_false
abbrev Vl:=@beq_self_eq_true
abbrev V8:=@of_decide_eq_false
abbrev Yb:=@beq_eq_false_iff_ne
abbrev Zj:=@decide_false
open PySem.W (Frag instObj methodObj hideAll hideAll_get of_hideAll hideAll_none lookIn plainGet hasDictIn findIn plainGet_of isFn takerIn looks_clsIn emptyDict looks_findIn keepIn specialIn mroIn kitOne kia_one kitx_list kitx_tuple callWith_K methodCall_KW cellsFrom_some mg_of clsIn exmOne kia_tup)
abbrev LI:=List a0e
abbrev LP:=List a0S
--CHANGE:your row's module here,as the last of these ba
namespace L2
inductive V where
 |o|c (b:Bool)|n (i:Int)|q (x:Qa)|r (a:O7)|ty (n:String)
 deriving DecidableEq
abbrev a0j:=List V
abbrev a0B:=List<|Qa×V
def aL:V->Pb->Prop
 | .o,u=>u=Qn
 | .c b,u=>u=Wl b
 | .n i,u=>∃t,u=Tp i t
 | .q x,u=>∃t,u=Z1 x t
 | .r a,u=>u=Pw a
 | .ty n,u=>u=SC n
abbrev au:a0j->a0g->Prop:=Vi aL
theorem au.length{xs:a0j}{us:a0g}(r:au xs us):VX xs=VX us:=Paired.length r
theorem au.get:∀{D:a0j} {E:a0g} {i:Nat} {x:V},au D E->D[i]?=on x->∃u,E[i]?=on u/\aL x u
 |_,_,_,_,.nil,e=>by simp at e
 |_,_,0,_,.cons r _,e=>by simp at e;subst e;exact⟨_,rfl,r⟩
 |_,_,i+1,x,.cons _ t,e=>by
  obtain⟨u,a,b⟩:=au.get (i:=i) (x:=x) t (by simpa using e);exact⟨u,by simpa using a,b⟩
theorem au.set(r:aL x u):∀{xs:a0j} {D:a0g} (i:Nat),au xs D->au (xs.set i x) (D.set i u)
 |_,_,_,.nil=> .nil
 |_,_,0,.cons _ t=> .cons r t
 |_,_,i+1,.cons q t=> .cons q<|au.set r i t
theorem au.append:∀{xs D:a0j} {E a:a0g},au xs E->au D a->au (xs++D) (E++a)
 |_,_,_,_,.nil,s=>s
 |_,_,_,_,.cons r t,s=> .cons r<|au.append t s
theorem au.take:∀{D:a0j} {E:a0g} (n:Nat),au D E->au (D.take n) (E.take n)
 |_,_,0,_=> .nil
 |_,_,_+1,.nil=> .nil
 |_,_,n+1,.cons r t=> .cons r<|au.take n t
theorem au.drop:∀{D:a0j} {E:a0g} (n:Nat),au D E->au (D.drop n) (E.drop n)
 |_,_,0,r=>r
 |_,_,_+1,.nil=> .nil
 |_,_,n+1,.cons _ t=>au.drop n t
def gJ:Option V->Option Pb->Prop
 |some v,on u=>aL v u
 |none,OZ=>True
 |_,_=>False
inductive HO where
 |l (xs:a0j)
 |t (xs:a0j)
 |ins (C dx:O7) (fs:a0B)
 |u (x:O7)
 |xd (fs:a0B)
 |met (f x:O7)
 |rng (lo hi:Int)
 |frz (o:QS) (u:HO)
 |tbl (ps:a0I)
 |ext (φ:Qt->Prop)
abbrev Hp:=O7->Option HO
abbrev a0U:=Bool->Hp->Prop
noncomputable def upd(H:Hp)(a:O7)(o:HO):Hp:=λb=>if b=a then on o else H b
theorem aj:upd H a o a=on o:=by unfold upd;rw[Pc rfl]
theorem bb(h:b≠a):upd H a o b=H b:=by unfold upd;rw[Pd h]
theorem N2{H:Hp}{a b:O7}{o u:HO}(h:H a=on o)(D:H b=on u)(d:o≠u):a≠b:=by
 intro e;subst e;rw[h]at D;exact d<|P3 D
theorem bt{H:Hp}{a b:O7}{o:HO}(h:H a=on o)(h':H b=OZ):a≠b:=by
 intro e;subst e;rw[h]at h';cases h'
section
variable(P:P6)(w:Qb)
def bC(P:P6)(w:Qb)(H:Hp)(h:Qt)(a:O7):HO->Prop
 | .l xs=>VX xs<=Ps/\∃(D:a0g) (n:Nat),au xs D/\h.get? a=on {cls:= .type "list",data:= .seq D.toArray n}
 | .t xs=>VX xs<=Ps/\∃D:a0g,au xs D/\IsTup h a D.toArray
 | .ins C dx fs=>H dx=on (.u a)/\VX fs<=1000/\dx≠a/\h.get? a=on (WN C dx)/\
   ∃b,h.Ns1 dx b/\(∀f,gJ (fs.lookup f)<|b f)/\SR b (fs.map (·.1))
 | .u _=>∃o,h.get? a=on o
 | .xd fs=>∃b,h.Ns1 a b/\∀f,gJ (fs.lookup f)<|b f
 | .rng lo hi=>∃t u v,h.get? a=on {cls:= .type "range",data:= .fields #[.int lo t,.int hi u,.int 1 v]}
 | .frz o u=>h.get? a=on o/\bC P w H h a u
 | .tbl ps=>h.get? a=on {cls:= .none,data:= .fields ps}
 | .met f x=>h.get? a=on (methodObj (.ref f)<|.ref x)
 | .ext φ=>φ h/\(∃o,h.get? a=on o)/\∀c d:Qt,φ c->(∀o,c.get? a=on o->d.get? a=on o)->φ d
def k_(H:Hp)(h:Qt):Prop:=∀a o,H a=on o->bC P w H h a o
end
section
variable{P:P6}{w:Qb}{H s:Hp}{h h':Qt}{a:O7}{o:HO}
theorem bC.lt(x:bC P w H h a o):a<h.objs.size:=by
 cases o with
 |l xs=>obtain⟨_,_,_,_,e⟩:=x;exact PQ e
 |t xs=>obtain⟨_,_,_,p⟩:=x;exact p.lt
 |ins C dx fs=>obtain⟨_,_,_,e,_⟩:=x;exact PQ e
 |u y=>obtain⟨_,e⟩:=x;exact PQ e
 |xd fs=>obtain⟨_,⟨_,_,_,e,_⟩,_⟩:=x;exact PQ e
 |rng lo hi=>obtain⟨_,_,_,e⟩:=x;exact PQ e
 |frz ob u=>obtain⟨e,_⟩:=x;exact PQ e
 |tbl ps=>exact PQ (show h.get? a=on _ from x)
 |met f y=>exact PQ (show h.get? a=on _ from x)
 |ext φ=>obtain⟨_,⟨_,e⟩,_⟩:=x;exact PQ e
theorem bC.stay(x:bC P w H h a o)(k:∀b u,(b=a\/H b=on (.u a))->h.get? b=on u->h'.get? b=on u)
  (l:∀b,H b=on (.u a)->s b=on (.u a)) (A:∀b E,H b=on (.t E)->s b=on (.t E)):bC P w s h' a o:=by
 induction o with
 |l E=>obtain⟨z,D,n,r,e⟩:=x;exact⟨z,D,n,r,k _ _ (.inl rfl) e⟩
 |t E=>obtain⟨z,D,r,g,e,c⟩:=x;exact⟨z,D,r,g,k _ _ (.inl rfl) e,c⟩
 |ins C dx fs=>
  obtain⟨d,z,S,e,i,⟨j,G,K,m,c⟩,r⟩:=x;exact⟨l _ d,z,S,k _ _ (.inl rfl) e,i,⟨j,G,K,k _ _ (.inr d) m,c⟩,r⟩
 |u y=>obtain⟨g,e⟩:=x;exact⟨g,k _ _ (.inl rfl) e⟩
 |xd fs=>obtain⟨i,⟨j,G,K,e,c⟩,r⟩:=x;exact⟨i,⟨j,G,K,k _ _ (.inl rfl) e,c⟩,r⟩
 |rng lo hi=>obtain⟨t,u,v,e⟩:=x;exact⟨t,u,v,k _ _ (.inl rfl) e⟩
 |frz g u ih=>obtain⟨e,q⟩:=x;exact⟨k _ _ (.inl rfl) e,ih q⟩
 |tbl ps=>
  have e:h.get? a=on {cls:= .none,data:= .fields ps}:=x;show h'.get? a=on {cls:= .none,data:= .fields ps};exact k a _ (.inl rfl) e
 |met f y=>
  have e:h.get? a=on (methodObj (.ref f)<|.ref y):=x;show h'.get? a=on (methodObj (.ref f)<|.ref y);exact k a _ (.inl rfl) e
 |ext φ=>obtain⟨p,⟨o,e⟩,M⟩:=x;exact⟨M _ _ p λo q=>k _ _ (.inl rfl) q,⟨o,k _ _ (.inl rfl) e⟩,M⟩
theorem k_.lt(x:k_ P w H h)(e:H a=on o):a<h.objs.size:=(x a o e).lt
theorem k_.fresh(x:k_ P w H h)(e:h.objs.size<=a):H a=OZ:=by
 cases q:H a with
 |none=>rfl
 |some u=>exact PU (PZ (x.lt q) e)<|Qw _
theorem k_.kept(x:k_ P w H h)(k:∀b u,h.get? b=on u->h'.get? b=on u):k_ P w H h':=λa o e=>
 (x a o e).stay (λb u _ q=>k b u q) (λ_ q=>q) λ_ _ q=>q
theorem k_.laid(x:k_ P w H h)(k:∀b u,h.get? b=on u->h'.get? b=on u)(f:h.objs.size<=a)(s:bC P w (upd H a o) h' a o):k_ P w (upd H a o) h':=λb u e=>by
 have D:=x.fresh f;by_cases d:b=a
 .subst d;rw[aj]at e;cases e;exact s
 .rw[bb d]at e
  exact(x b u e).stay (λc v _ q=>k c v q) (λc q=>by rw[bb<|bt q D];exact q) λc E q=>by rw[bb<|bt q D];exact q
def Rd(H:Hp)(a:O7)(u:HO):Prop:=H a=on u\/∃o,H a=on (.frz o u)
theorem Rd.ok{P:P6}{w:Qb}{H:Hp}{h:Qt}{a:O7}(r:Rd H a u)(x:k_ P w H h):bC P w H h a u:=by
 rcases r with r|⟨o,r⟩
 .exact x a u r
 .obtain⟨_,q⟩:=x a _ r
  exact q
def Mut:Option HO->Prop
 |some (.l _)=>True
 |some (.ins _ _ _)=>True
 |some (.ext _)=>True
 |_=>False
variable{x e:O7}{p:HO}
theorem k_.write(s:k_ P w H h)(mu:Mut<|H x)(l:e=x\/H e=on (.u x))(k:∀b u,b≠e->h.get? b=on u->h'.get? b=on u)(j:∃u,h'.get? e=on u)
  (o:bC P w (upd H x p) h' x p):k_ P w (upd H x p) h':=λb u q=>by
 have f:∀c y,H c=on (.u y)->c≠x:=λc y r z=>by subst z;rw[r]at mu;exact mu
 have g:∀c a,H c=on (.t a)->c≠x:=λc a r z=>by subst z;rw[r]at mu;exact mu
 by_cases i:b=x
 .subst i;rw[aj]at q;cases q;exact o
 .rw[bb i]at q
  by_cases d:b=e
  .have q':H b=on (.u x):=by
    rcases l with z|z
    .exact PU (d.trans z) i
    .rw[d];exact z
   rw[q]at q';cases q';obtain⟨v,m⟩:=j;exact⟨v,by rw[d];exact m⟩
  .refine(s b u q).stay (λc v hc r=>k c v ?_ r) (λc r=>by rw[bb<|f c b r];exact r) λc a r=>by rw[bb<|g c a r];exact r
   rcases hc with rfl|hc
   .exact d
   .rintro rfl
    rcases l with z|z
    .exact f c b hc z
    .rw[hc]at z;cases z;exact i rfl
structure Un (fs ex:a0q) (H s:Hp) (h h':Qt):Prop where
 keep:∀b o,h.get? b=on o->H b=OZ->b∉fs->b∉ex->h'.get? b=on o
 slot:∀b o,h.get? b=on o->H b=OZ->b∈fs->b∉ex->∃sl,h'.get? b=on {o with slots:=sl}
 free:∀b o,h.get? b=on o->H b=OZ->b∉ex->s b=OZ
 there:∀b o,h.get? b=on o->b∉ex->∃p,h'.get? b=on p
 tups:∀b xs,H b=on (.t xs)->s b=on (.t xs)
 frzs:∀b o u,H b=on (.frz o u)->s b=on (.frz o u)
 tbls:∀b ps,H b=on (.tbl ps)->∃more,s b=on (.tbl<|ps++more)
variable{l i ex j:a0q}{m s:Hp}{k r:Qt}
theorem Un.any(u:Un l ex H m h k)(q:h.get? b=on ob)(n:H b=OZ)(c:b∉ex):∃a,k.get? b=on {ob with slots:=a}:=by
 by_cases d:b∈l
 .exact u.slot b ob q n d c
 .exact⟨ob.slots,u.keep b ob q n d c⟩
theorem Un.trans(a:Un l ex H m h k)(b:Un l ex m s k r):Un l ex H s h r where
 keep:=λc d q n hc f=>b.keep c d (a.keep c d q n hc f) (a.free c d q n f) hc f
 slot:=λc d q n hc f=>by
  obtain⟨D,g⟩:=a.slot c d q n hc f;obtain⟨i,j⟩:=b.slot c _ g (a.free c d q n f) hc f;exact⟨i,j⟩
 free:=λc d q n f=>by
  obtain⟨p,g⟩:=a.there c d q f;exact b.free c p g (a.free c d q n f) f
 there:=λc d q f=>by
  obtain⟨p,g⟩:=a.there c d q f;exact b.there c p g f
 tups:=λc e q=>b.tups c e (a.tups c e q)
 frzs:=λc d e q=>b.frzs c d e (a.frzs c d e q)
 tbls:=λc o q=>by
  obtain⟨w,g⟩:=a.tbls c o q;obtain⟨x,j⟩:=b.tbls c _ g;exact⟨w++x,by rw[j,YY]⟩
theorem Un.kept(k:∀b u,h.get? b=on u->h'.get? b=on u):Un l ex H H h h':=
 ⟨λb c q _ _ _=>k b c q,λb c q _ _ _=>⟨c.slots,k b c q⟩,λ_ _ _ n _=>n,λb c q _=>⟨c,k b c q⟩,λ_ _ q=>q,λ_ _ _ q=>q,λ_ a q=>⟨#[],by rw[q];simp⟩⟩
theorem Un.refl:Un l ex H H h h:=Un.kept λ_ _ q=>q
theorem Un.laid(k:∀b u,h.get? b=on u->h'.get? b=on u)(c:h.objs.size<=a)(e:H a=OZ):Un l ex H (upd H a o) h h' where
 keep:=λb u q _ _ _=>k b u q
 slot:=λb u q _ _ _=>⟨u.slots,k b u q⟩
 free:=λb u q n _=>by rw[bb<|Qm<|PZ (PQ q) c];exact n
 there:=λb u q _=>⟨u,k b u q⟩
 tups:=λb i q=>by rw[bb<|bt q e];exact q
 frzs:=λb u i q=>by rw[bb<|bt q e];exact q
 tbls:=λb j q=>⟨#[],by rw[bb<|bt q e,q];simp⟩
theorem Un.write(mu:Mut<|H x)(i:e=x\/H e=on (.u x))(k:∀b u,b≠e->h.get? b=on u->h'.get? b=on u)(d:∃u,h'.get? e=on u):Un l ex H (upd H x o) h h':=by
 have f:∀b,H b=OZ->b≠x:=λb n z=>by subst z;rw[n]at mu;exact mu
 have g:∀b,H b=OZ->b≠e:=λb n z=>by
  subst z;rcases i with r|r
  .exact f b n r
  .rw[n]at r;cases r
 have a:∀b u,H b=on u->¬Mut (on u)->b≠x:=λb u q j z=>by subst z;rw[q]at mu;exact j mu
 refine⟨λb u q n _ _=>k b u (g b n) q,λb u q n _ _=>⟨u.slots,k b u (g b n) q⟩,λb u q n _=>by rw[bb<|f b n];exact n,λb u q _=>?_,
  λb m q=>by rw[bb<|a b _ q λz=>z];exact q,λb u m q=>by rw[bb<|a b _ q λz=>z];exact q,λb p q=>⟨#[],by rw[bb<|a b _ q λz=>z,q];simp⟩⟩
 by_cases c:b=e
 .subst c;exact d
 .exact⟨u,k b u c q⟩
theorem Un.mono(u:Un l ex H m h k)(a:∀b∈l,b∈i)(f:∀b∈ex,b∈j):Un i j H m h k:=
 ⟨λb d q n g c=>u.keep b d q n (λz=>g<|a b z) λz=>c<|f b z,λ_ _ q n _ c=>u.any q n λz=>c<|f _ z,λb d q n c=>u.free b d q n λz=>c<|f b z,λb d q c=>u.there b d q λz=>c<|f b z,u.tups,u.frzs,u.tbls⟩
noncomputable def trk(h:Qt)(H:Hp):a0q:=(Ph h.objs.size).filter λa=>(H a).isSome
noncomputable def lM(h:Qt)(H:Hp):Qt:=V6 h<|trk h H
theorem EG(h:Qt)(H:Hp):(lM h H).objs.size=h.objs.size:=PySem.W.hideAll_size _ _
theorem GV{h:Qt}{H:Hp}{o:QS}(e:h.get? b=on o)(n:H b=OZ):(lM h H).get? b=on o:=
 WA _ e λa=>by
  have q:(H b).isSome=O6:=(QK.mp a).2;rw[n]at q;simp at q
theorem JJ{h:Qt}{H:Hp}{o:QS}(e:(lM h H).get? b=on o):h.get? b=on o/\H b=OZ:=by
 have c:h.get? b=on o:=YK (trk h H) e;refine⟨c,?_⟩;cases q:H b with
 |none=>rfl
 |some x=>
  have a:b∈trk h H:=QK.mpr ⟨PN.mpr<|PQ c,by simp[q]⟩;have z:(lM h H).get? b=OZ:=U9 (trk h H) a;rw[z]at e;cases e
structure Mod (K:Pz) (mg:a0i) (base:Qt):Prop where
 kin:K.In base
 glob:base.Ns RV mg
 blt:∃mb,base.Ns Yy mb/\∀x:Qa,x≠"__name__"->mb x=Te x
 nolimit:base.NoLimit
structure Cx where
 p:P6
 w:Qb
 K:Pz
 mg:Qa->Option Pb
 base:Qt
 A:Qy
 N:a0h
 s₀:Pe
 H₀:Hp
 e:WY
 outer:a0D
 k:a0D
 ex:a0q
 fn:Qa->Bool
 calm:Bool
 pn:a0b
 xe:Pb->Pe->Prop
abbrev b0a(X:Cx)(a:Expr)(b:List Expr):=Po (a::b) X.e=(O8,Qz a X.e)::Po b X.e
abbrev b0b(X:Cx)(a:Uq)(b:List Expr):=(Ry a<|Po b X.e).any (·.1)=O8
abbrev b0c(a:Qa):=(a==("__debug__":Qa))=O8
abbrev b0d(X:Cx)(a:Qa):=X.fn a=O6\/X.e.scope.names.lookup a=on .local
noncomputable def fx(l:a0D):a0q:=l.filterMap (·.frame)
end
noncomputable abbrev Cx.fs(X:Cx):a0q:=fx X.outer
def Vis(a:Scope)(x:Qa):Prop:=a.names.lookup x=on .local\/a.names.lookup x=on .cell\/a.names.lookup x=on .free
def F3(a:Scope)(x:Qa):Prop:=a.names.lookup x=on .local\/a.names.lookup x=on .cell
def Look(D:WY)(h:Qt)(m:a0i)(x:Qa)(u:Pb):Prop:=
 (D.kindOf x=on .local/\m x=on u)\/((D.kindOf x=on .cell\/D.kindOf x=on .free)/\∃c,D.cells.lookup x=on c/\h.IsCell c (on u))
structure Cx.Ok (X:Cx):Prop where
 mod:Mod X.K X.mg X.base
 kind:X.e.scope.kind= .function
 glob:X.e.globals=RV
 blt:X.e.builtins=Yy
 above:X.s₀.heap.objs.size<=X.e.locals
 inj:∀x y c,X.e.cells.lookup x=on c->X.e.cells.lookup y=on c->x=y
 has:∀x,(X.e.kindOf x=on .cell\/X.e.kindOf x=on .free)->∃c,X.e.cells.lookup x=on c
 cab:∀x c,X.fn x=O6->X.e.cells.lookup x=on c->X.s₀.heap.objs.size<=c
 hd:X.calm=O6->X.A.handled=OZ
 frames:X.A.frames=on X.k
 stk:X.k=X.outer\/(X.k=X.e::X.outer/\X.e.frame=on X.e.locals)
 exf:∀b∈X.ex,b≠X.e.locals/\∀x c,X.e.cells.lookup x=on c->c≠b
 bs:∀b o,X.base.get? b=on o->X.s₀.heap.get? b=on o/\X.H₀ b=OZ
 bsz:X.base.objs.size<=X.s₀.heap.objs.size
 noex:∀b o,X.base.get? b=on o->b∉X.ex
 exfs:∀b∈X.ex,b∉X.fs
 funs:X.s₀.heap.FunFrames X.base X.outer
 frf:∀b∈X.fs,X.H₀ b=OZ
structure cx (X:Cx) (a_:a0b) (σ:List<|Option V) (H:Hp) (s:Pe):Prop where
 ok:X.Ok
 os:s.os=X.s₀.os
 bare:U1 s.gens
 base:Un X.fs X.ex X.H₀ H X.s₀.heap s.heap
 loc:∃m,s.heap.Ns X.e.locals m/\∀(i:Nat) (x:Qa) (v:V),X.N[i]?=on x->σ[i]?=on (on v)->Vis X.e.scope x->∃u,aL v u/\Look X.e s.heap m x u
 cell:∀x c,X.e.cells.lookup x=on c->∃v,s.heap.IsCell c v
 free:H X.e.locals=OZ
 freeC:∀x c,X.e.cells.lookup x=on c->H c=OZ
 pin:∀p∈X.pn++a_,s.heap.get? p.1=on p.2/\H p.1=OZ/\p.1≠X.e.locals/\p.1∉X.fs/\∀v,p.2.data≠ .cell v
 hok:k_ X.p X.w H s.heap
 len:VX σ=VX X.N
section
variable{X:Cx}{a_:a0b}{σ:List (Option V)}{H R:Hp}{s:Pe}{h':Qt}
theorem Cx.Ok.nofr(s:X.Ok)(e:X.base.get? b=on o):b∉X.fs:=λa=>by
 have:=(s.funs.mem a).1;rw[e]at this;cases this
theorem cx.bs(I:cx X a_ σ H s):∀b o,X.base.get? b=on o->s.heap.get? b=on o/\H b=OZ:=λb o e=>
 ⟨I.base.keep b o (I.ok.bs b o e).1 (I.ok.bs b o e).2 (I.ok.nofr e)<|I.ok.noex b o e,I.base.free b o (I.ok.bs b o e).1 (I.ok.bs b o e).2<|I.ok.noex b o e⟩
theorem cx.bk(I:cx X a_ σ H s):∀b o,X.base.get? b=on o->s.heap.get? b=on o:=λb o e=>(I.bs b o e).1
theorem cx.mod(I:cx X a_ σ H s):Mod X.K X.mg X.base:=I.ok.mod
theorem cx.kIn(I:cx X a_ σ H s):X.K.In s.heap:=I.ok.mod.kin.keeps I.bk
theorem cx.fr(I:cx X a_ σ H s):∃m,Fr X.base X.e.locals s.heap m:=
 let ⟨m,hn,_⟩:=I.loc
 ⟨m,hn,I.bk,Pk I.ok.bsz I.ok.above⟩
theorem cx.lt(I:cx X a_ σ H s):X.e.locals<s.heap.objs.size:=let ⟨_,hn,_⟩:=I.loc;hn.lt
theorem cx.sz(I:cx X a_ σ H s):X.s₀.heap.objs.size<=s.heap.objs.size:=Pk I.ok.above<|VF I.lt
theorem cx.nofs(I:cx X a_ σ H s){a:O7}(h:s.heap.objs.size<=a):a∉X.fs:=λb=>by
 obtain⟨_,o,c,_⟩:=I.ok.funs.mem b;exact PU (PZ (PQ c)<|Pk I.sz h)<|Qw _
theorem cx.cne(I:cx X a_ σ H s):∀x c,X.e.cells.lookup x=on c->c≠X.e.locals:=λx c e z=>by
 obtain⟨v,o,d,D⟩:=I.cell x c e;obtain⟨m,⟨f,E,G,a,b,_⟩,_⟩:=I.loc;rw[z,a]at d;cases d;rw[b]at D;cases D
theorem cx.funs(I:cx X a_ σ H s):s.heap.FunFrames X.base X.outer:=by
 have D:∀(l:a0D),(∀b∈fx l,b∈X.fs)->X.s₀.heap.FunFrames X.base l->s.heap.FunFrames X.base l:=by
  intro l
  induction l with
  |nil=>intro _ _;trivial
  |cons G r K=>
   intro E f;obtain⟨g,⟨L,o,a,M,h,R⟩,i⟩:=f;have c:L∈X.fs:=E L (by unfold fx;rw[Rg,a];exact Pa);obtain⟨S,e⟩:=I.base.slot L o h (I.ok.frf L c) c λz=>I.ok.exfs L z c;exact⟨g,⟨L,_,a,M,e,R⟩,K (λb d=>E b<|by unfold fx;rw[Rg,a];exact O1 _ d) i⟩
 exact D X.outer (λ_ d=>d) I.ok.funs
theorem cx.stack(I:cx X a_ σ H s):s.heap.FunFrames X.base X.k:=by
 rcases I.ok.stk with e|⟨e,a⟩
 .rw[e];exact I.funs
 .rw[e]
  obtain⟨m,D,_⟩:=I.loc;refine .cons (by rw[I.ok.kind];decide) a D ?_ I.funs;exact YO<|Pk I.ok.bsz I.ok.above
theorem cx.stkSub(I:cx X a_ σ H s):∀b∈fx X.k,b∈X.e.locals::X.fs:=λb a=>by
 rcases I.ok.stk with e|⟨e,c⟩
 .rw[e]at a;exact O1 _ a
 .rw[e]at a
  unfold fx at a;rw[Rg,c]at a;exact a
theorem cx.stkFree(I:cx X a_ σ H s):∀b∈fx X.k,H b=OZ:=λb hb=>by
 rcases Pr.mp (I.stkSub b hb)with e|hb
 .rw[e];exact I.free
 .obtain⟨_,o,a,_⟩:=I.ok.funs.mem hb
  exact I.base.free b o a (I.ok.frf b hb) λz=>I.ok.exfs b z hb
theorem cx.step{ch:a0q}(I:cx X a_ σ H s)
  (f:∀b∈ch,(b∈X.ex\/X.s₀.heap.objs.size<=b)/\b≠X.e.locals/\(∀x c,X.e.cells.lookup x=on c->c≠b)/\∀p∈X.pn++a_,p.1≠b)
  (E:∀b o,b≠X.e.locals->b∉X.fs->b∉ch->s.heap.get? b=on o->H b=OZ->h'.get? b=on o)
  (G:∀b o,b≠X.e.locals->b∈X.fs->b∉ch->s.heap.get? b=on o->H b=OZ->∃Y,h'.get? b=on {o with slots:=Y}) (D:∀b o,b∉ch->s.heap.get? b=on o->H b=OZ->R b=OZ)
  (M:∀b o,b∉ch->s.heap.get? b=on o->∃B,h'.get? b=on B)
  (S:∀b K,H b=on (.t K)->R b=on (.t K)) (V:∀b o u,H b=on (.frz o u)->R b=on (.frz o u)) (Q:∀b U,H b=on (.tbl U)->∃T,R b=on (.tbl<|U++T))
  (ns:∀m,s.heap.Ns X.e.locals m->h'.Ns X.e.locals m) (W:k_ X.p X.w R h') (N:U1 g'):
  cx X a_ σ R {s with heap:=h',gens:=g',drawn:=d',toks:=t'}:=by
 have C:∀b o,X.s₀.heap.get? b=on o->b≠X.e.locals:=λb o e=>Qm<|PZ (PQ e) I.ok.above;have j:∀b o,X.s₀.heap.get? b=on o->b∉X.ex->b∉ch:=λb o e a y=>by
  rcases(f b y).1 with z|z
  .exact a z
  .exact PU (PZ (PQ e) z) (Qw _)
 have g:∀x c,X.e.cells.lookup x=on c->∀v,s.heap.IsCell c v->h'.IsCell c v:=λx c e v ⟨o,A,Z⟩=>by
  have h:c∉ch:=λz=>(f c z).2.2.1 x c e rfl;by_cases hc:c∈X.fs
  .obtain⟨Y,q⟩:=G c o (I.cne x c e) hc h A<|I.freeC x c e
   exact⟨_,q,Z⟩
  .exact⟨o,E c o (I.cne x c e) hc h A<|I.freeC x c e,Z⟩
 refine⟨I.ok,I.os,N,⟨λb o e n y a=>?_,λb o e n y a=>?_,λb o e n a=>?_,λb o e a=>?_,λb K e=>S b K<|I.base.tups b K e,λb o K e=>V b o K<|I.base.frzs b o K e,λb U e=>?_⟩,?_,λx c e=>?_,?_,λx c e=>?_,λp L=>?_,W,I.len⟩
 .exact E b o (C b o e) y (j b o e a) (I.base.keep b o e n y a) (I.base.free b o e n a)
 .obtain⟨Y,t⟩:=I.base.slot b o e n y a
  obtain⟨J,F⟩:=G b _ (C b o e) y (j b o e a) t<|I.base.free b o e n a;exact⟨J,F⟩
 .obtain⟨B,t⟩:=I.base.there b o e a
  exact D b B (j b o e a) t<|I.base.free b o e n a
 .obtain⟨B,t⟩:=I.base.there b o e a
  exact M b B (j b o e a) t
 .obtain⟨m1,t⟩:=I.base.tbls b U e
  obtain⟨m2,F⟩:=Q b _ t;exact⟨m1++m2,by rw[F,YY]⟩
 .obtain⟨m,hn,O⟩:=I.loc
  refine⟨m,ns m hn,λi x v t F P=>?_⟩;obtain⟨u,r,l⟩:=O i x v t F P;refine⟨u,r,?_⟩;rcases l with l|⟨k,c,e,z⟩
  .exact .inl l
  .exact .inr ⟨k,c,e,g x c e _ z⟩
 .obtain⟨v,z⟩:=I.cell x c e
  exact⟨v,g x c e v z⟩
 .obtain⟨m,⟨o,_,_,A,_⟩,_⟩:=I.loc
  exact D _ o (λz=>(f _ z).2.1 rfl) A I.free
 .obtain⟨v,o,A,Z⟩:=I.cell x c e
  exact D c o (λz=>(f c z).2.2.1 x c e rfl) A<|I.freeC x c e
 .obtain⟨e,n,ne,nf,d⟩:=I.pin p L
  have h:p.1∉ch:=λz=>(f p.1 z).2.2.2 p L rfl;exact⟨E p.1 p.2 ne nf h e n,D p.1 p.2 h e n,ne,nf,d⟩
theorem cx.un(I:cx X a_ σ H s)(u:Un X.fs [] H R s.heap h')(D:k_ X.p X.w R h'):cx X a_ σ R {s with heap:=h',toks:=t'}:=by
 obtain⟨m,⟨o,G,K,g,r⟩,_⟩:=id I.loc;obtain⟨M,h⟩:=u.any g I.free (by simp);exact I.step (g':=s.gens) (d':=s.drawn) (ch:=[]) (λ_ z=>nomatch z) (λb o _ c _ e n=>u.keep b o e n c<|by simp) (λb o _ c _ e n=>u.slot b o e n c<|by simp) (λb o _ e n=>u.free b o e n<|by simp) (λb o _ e=>u.there b o e<|by simp) u.tups u.frzs u.tbls (λj E=>by
  obtain⟨k,d,f,a,i⟩:=E;rw[g]at a;cases a;exact⟨_,d,f,h,i⟩) D I.bare
theorem cx.call{ch:a0q}(I:cx X a_ σ H s)(u:Un (fx X.k) ch H R s.heap h')(D:k_ X.p X.w R h')(j:U1 g')
  (a:∀b∈ch,(b∈X.ex\/X.s₀.heap.objs.size<=b)/\b≠X.e.locals/\(∀x c,X.e.cells.lookup x=on c->c≠b)/\∀p∈X.pn++a_,p.1≠b):
  cx X a_ σ R {s with heap:=h',gens:=g',drawn:=d',toks:=t'}:=by
 obtain⟨m,⟨o,G,K,i,r⟩,_⟩:=id I.loc;obtain⟨M,f⟩:=u.any i I.free λz=>(a _ z).2.1 rfl;exact I.step (ch:=ch) a (λb o f k hc e n=>u.keep b o e n (λz=>(Pr.mp<|I.stkSub b z).elim f k) hc) (λb o _ _ hc e n=>u.any e n hc) (λb o hc e n=>u.free b o e n hc) (λb o hc e=>u.there b o e hc) u.tups u.frzs u.tbls (λq E=>by
  obtain⟨t,g,h,d,l⟩:=E;rw[i]at d;cases d;exact⟨_,g,h,f,l⟩) D j
theorem cx.turned(I:cx X a_ σ H s)(k:∀b o,b≠l->s.heap.get? b=on o->h'.get? b=on o)(D:H l=OZ)(d:l≠X.e.locals)
  (f:l∈X.ex\/X.s₀.heap.objs.size<=l) (g:∀x c,X.e.cells.lookup x=on c->c≠l) (h:∀p∈X.pn++a_,p.1≠l):cx X a_ σ H {s with heap:=h',toks:=t'}:=by
 have a:∀b u,H b=on u->b≠l:=λb u e z=>by rw[z,D]at e;cases e
 refine I.step (g':=s.gens) (d':=s.drawn) (ch:=[l]) (λb i=>?_) (λb o _ _ hc e _=>k b o (λz=>hc<|by simp[z]) e) (λb o _ _ hc e _=>⟨o.slots,k b o (λz=>hc<|by simp[z]) e⟩) (λ_ _ _ _ n=>n)
  (λb o hc e=>⟨o,k b o (λz=>hc<|by simp[z]) e⟩) (λ_ _ e=>e) (λ_ _ _ e=>e) (λb G e=>⟨#[],by rw[e];simp⟩) (λm E=>?_) (λb u e=>?_) I.bare
 .have e:b=l:=by simpa using i
  subst e;exact⟨f,d,g,h⟩
 .obtain⟨o,es,ep,j,r⟩:=E
  exact⟨o,es,ep,k _ o (Ne.symm d) j,r⟩
 .refine(I.hok b u e).stay (λc v hc q=>k c v ?_ q) (λ_ q=>q) λ_ _ q=>q
  rcases hc with z|z
  .rw[z];exact a b u e
  .exact a c _ z
theorem cx.tok(I:cx X a_ σ H s)(t:Nat):cx X a_ σ H {s with toks:=t}:=I.un (h':=s.heap) (t':=t) Un.refl I.hok
theorem cx.kept(I:cx X a_ σ H s)(k:∀b u,s.heap.get? b=on u->h'.get? b=on u):cx X a_ σ H {s with heap:=h',toks:=t'}:=I.un (Un.kept k)<|I.hok.kept k
theorem cx.laid{a:O7}{o:HO}{t':Nat}(I:cx X a_ σ H s)(k:∀b u,s.heap.get? b=on u->h'.get? b=on u)(c:s.heap.objs.size<=a)(D:bC X.p X.w (upd H a o) h' a o):
  cx X a_ σ (upd H a o) {s with heap:=h',toks:=t'}:=I.un (Un.laid k c<|I.hok.fresh c)<|I.hok.laid k c D
theorem cx.write(I:cx X a_ σ H s)(mu:Mut<|H x)(c:e=x\/H e=on (.u x))(k:∀b u,b≠e->s.heap.get? b=on u->h'.get? b=on u)(a:∃u,h'.get? e=on u)
  (D:bC X.p X.w (upd H x o) h' x o):cx X a_ σ (upd H x o) {s with heap:=h',toks:=t'}:=I.un (Un.write mu c k a)<|I.hok.write mu c k a D
theorem cx.pins_of(I:cx X a_ σ H s)(h:∀p∈pins',s.heap.get? p.1=on p.2/\H p.1=OZ/\p.1≠X.e.locals/\p.1∉X.fs/\∀v,p.2.data≠ .cell v):cx X pins' σ H s:=
 ⟨I.ok,I.os,I.bare,I.base,I.loc,I.cell,I.free,I.freeC,λp a=>(QB.mp a).elim (λz=>I.pin p<|RY _ z)<|h p,I.hok,I.len⟩
theorem v5{N:a0h}(c:N.Nodup){i j:Nat}{x:Qa}(a:N[i]?=on x)(b:N[j]?=on x):i=j:=by
 obtain⟨f,d⟩:=Pl.mp a;obtain⟨g,e⟩:=Pl.mp b;exact(List.getElem_inj c).mp<|d.trans e.symm
theorem ma{M:WU}{E:a0d}(I:cx X a_ σ H s)(hN:X.N.Nodup)(O:X.N[i]?=on x)(l:F3 X.e.scope x)(r:aL v u)
  (h:∀K,cx X a_ (σ.set i<|on v) H K->(∃a,P7 a s.heap K.heap/\(a=X.e.locals\/X.e.cells.lookup x=on a))->Q () K) (hf:b0d X x:=by first|exact .inl rfl|exact .inr rfl|assumption):Pq M A (storeName X.e x u) Q E s:=by
 obtain⟨m,S,hl⟩:=id I.loc;have P:(X.e.scope.kind== .class||(X.e.scope.kind== .module&&X.e.locals !=X.e.globals))=O8:=by rw[I.ok.kind];rfl
 have C:i<VX σ:=by rw[I.len];exact(Pl.mp O).1
 have G:=I.cne;have f:∀{a:O7} {h':Qt},(∃o,s.heap.get? a=on o/\H a=OZ)->P7 a s.heap h'->k_ X.p X.w H h':=λ{a h'} ha D b ob e=>by
  obtain⟨_,_,t⟩:=ha;refine(I.hok b ob e).stay (λc Y hc q=>(D.2 c ?_).trans q) (λ_ q=>q) λ_ _ q=>q;rintro rfl;rcases hc with rfl|hc
  .rw[t]at e;cases e
  .rw[t]at hc;cases hc
 rcases l with hk|hk
 .refine wpAny_storeName_local hk S (λh' V D=>?_) P
  obtain⟨oL,_,_,aa,_⟩:=id S;refine h _ ⟨I.ok,I.os,I.bare,⟨λb o e n F l=>?_,λb o e n F l=>?_,I.base.free,λb o e l=>?_,I.base.tups,I.base.frzs,I.base.tbls⟩,⟨_,V,λj y v' g B e3=>?_⟩,λy c e=>?_,I.free,I.freeC,λp hp=>?_,f ⟨oL,aa,I.free⟩ D,by simpa using I.len⟩ ⟨_,D,.inl rfl⟩
  .exact(D.2 b<|Qm<|PZ (PQ e) I.ok.above).trans (I.base.keep b o e n F l)
  .obtain⟨sl,g⟩:=I.base.slot b o e n F l
   exact⟨sl,(D.2 b<|Qm<|PZ (PQ e) I.ok.above).trans g⟩
  .obtain⟨o',g⟩:=I.base.there b o e l
   exact⟨o',(D.2 b<|Qm<|PZ (PQ e) I.ok.above).trans g⟩
  .by_cases J:j=i
   .subst J
    rw[O]at g;cases g;rw[Ym C]at B;cases B;exact⟨u,r,.inl ⟨hk,by simp⟩⟩
   .rw[YR<|Ne.symm J]at B
    obtain⟨u',r',q⟩:=hl j y v' g B e3;refine⟨u',r',?_⟩;rcases q with⟨k,e⟩|⟨k,c,e,z⟩
    .refine .inl ⟨k,?_⟩
     have:y≠x:=λe=>J<|v5 hN g<|e▸O;simp[this,e]
    .exact .inr ⟨k,c,e,z.sameBut D<|G y c e⟩
  .obtain⟨Y,z⟩:=I.cell y c e
   exact⟨Y,z.sameBut D<|G y c e⟩
  .obtain⟨e,n,ne,nf,d⟩:=I.pin p hp
   exact⟨(D.2 p.1 ne).trans e,n,ne,nf,d⟩
 .have L:X.fn x=O6:=by
   rcases hf with z|z
   .exact z
   .rw[z]at hk;cases hk
  obtain⟨c,hc⟩:=I.ok.has x<|.inl hk;obtain⟨Y,z⟩:=I.cell x c hc;refine wpAny_storeName_cell I.ok.kind hk hc z (λh' R D=>?_);obtain⟨oc,T,U⟩:=id z;refine h {s with heap:=h'} ⟨I.ok,I.os,I.bare,⟨λb o e n F l=>?_,λb o e n F l=>?_,I.base.free,λb o e l=>?_,I.base.tups,I.base.frzs,I.base.tbls⟩,⟨m,S.sameBut D<|Ne.symm<|G x c hc,λj y v' g B e3=>?_⟩,λy Z e=>?_,I.free,I.freeC,λp hp=>?_,f ⟨oc,T,I.freeC x c hc⟩ D,by simpa using I.len⟩ ⟨c,D,.inr hc⟩
  .exact(D.2 b<|Qm<|PZ (PQ e)<|I.ok.cab x c L hc).trans (I.base.keep b o e n F l)
  .obtain⟨sl,g⟩:=I.base.slot b o e n F l
   exact⟨sl,(D.2 b<|Qm<|PZ (PQ e)<|I.ok.cab x c L hc).trans g⟩
  .obtain⟨o',g⟩:=I.base.there b o e l
   exact⟨o',(D.2 b<|Qm<|PZ (PQ e)<|I.ok.cab x c L hc).trans g⟩
  .by_cases J:j=i
   .subst J
    rw[O]at g;cases g;rw[Ym C]at B;cases B;exact⟨u,r,.inr ⟨.inl hk,c,hc,R⟩⟩
   .rw[YR<|Ne.symm J]at B
    obtain⟨u',r',q⟩:=hl j y v' g B e3;refine⟨u',r',?_⟩;rcases q with q|⟨k,Z,e,z'⟩
    .exact .inl q
    .refine .inr ⟨k,Z,e,z'.sameBut D ?_⟩
     rintro rfl;exact J<|v5 hN g<|I.ok.inj _ _ _ e hc▸O
  .by_cases W:Z=c
   .subst W;exact⟨_,R⟩
   .obtain⟨w2,z2⟩:=I.cell y Z e
    exact⟨w2,z2.sameBut D W⟩
  .obtain⟨e,n,ne,nf,d⟩:=I.pin p hp
   refine⟨(D.2 p.1 ?_).trans e,n,ne,nf,d⟩;intro q;rw[q,T]at e;have q':oc=p.2:=P3 e;exact d Y (by rw[<-q'];exact U)
theorem jq{M:WU}{E:a0d}(I:cx X a_ σ H s)(a:X.N.Nodup)(b:X.N[i]?=on x)(c:F3 X.e.scope x)(r:aL v u)
  (h:∀D,cx X a_ (σ.set i<|on v) H D->Q () D) (d:b0d X x:=by first|exact .inl rfl|exact .inr rfl|assumption):Pq M A (storeName X.e x u) Q E s:=
 ma I a b c r (λD e _=>h D e) d
theorem cx.call'{s':Pe}{ch:a0q}(I:cx X a_ σ H s)(d:s'.os=s.os)(u:Un (fx X.k) ch H R s.heap s'.heap)(D:k_ X.p X.w R s'.heap)(f:U1 s'.gens)
  (a:∀b∈ch,(b∈X.ex\/X.s₀.heap.objs.size<=b)/\b≠X.e.locals/\(∀x c,X.e.cells.lookup x=on c->c≠b)/\∀p∈X.pn++a_,p.1≠b):cx X a_ σ R s':=by
 obtain⟨h',g',d',t',g⟩:=s';have e:g=s.os:=d;subst e;exact I.call (g':=g') (t':=t') (d':=d') u D f a
abbrev XK:=Pb->a0C->Hp->Prop
abbrev St:=List<|Option V
abbrev a0r:=St->XK
abbrev a0F:=St->Hp->Prop
abbrev VK:=V->Hp->Prop
abbrev a0G:=a0j->Hp->VK->Prop
abbrev a0P:=V->a0j->Hp->VK->Prop
abbrev TE:=St->Hp->VK->Prop
abbrev TT:=St->Hp->(Bool->Hp->Prop)->Prop
abbrev TA:=St->Hp->(a0j->Hp->Prop)->Prop
structure m4 where
 nx:St->Hp->Prop
 rt:VK
 bk:St->Hp->Prop:=λ_ _=>False
 ct:St->Hp->Prop:=λ_ _=>False
abbrev TS:=m4->St->Hp->Prop
def EP(X:Cx)(a_:a0b)(σ:St)(Q:VK)(u:Pb)(s:Pe):Prop:=∃v R,cx X a_ σ R s/\aL v u/\Q v R
def TP(X:Cx)(a_:a0b)(σ:St)(Q:a0U)(b:Bool)(s:Pe):Prop:=∃R,cx X a_ σ R s/\Q b R
def AP(X:Cx)(a_:a0b)(σ:St)(Q:a0j->Hp->Prop)(D:a0g)(E:Pe):Prop:=∃s R,cx X a_ σ R E/\au s D/\Q s R
def SP(X:Cx)(a_:a0b)(D:m4)(f:Flow)(s:Pe):Prop:=
 match f with
 | .next=>∃a R,cx X a_ a R s/\D.nx a R
 | .brk=>∃a R,cx X a_ a R s/\D.bk a R
 | .cont=>∃a R,cx X a_ a R s/\D.ct a R
 | .ret u=>∃v a R,cx X a_ a R s/\aL v u/\D.rt v R
def PE(X:Cx)(e:Expr)(t:TE):Prop:=
 ∀(a_:a0b) (s:Pe) (σ:St) (H:Hp) (Q:VK),cx X a_ σ H s->t σ H Q->Pq (PM X.p X.w) X.A (Qz e X.e) (EP X a_ σ Q) X.xe s
def PT(X:Cx)(e:Expr)(t:TT):Prop:=
 ∀(a_:a0b) (s:Pe) (σ:St) (H:Hp) (Q:a0U),cx X a_ σ H s->t σ H Q->Pq (PM X.p X.w) X.A (isTrue e X.e<|Qz e X.e) (TP X a_ σ Q) X.xe s
def PW(X:Cx)(e:Expr)(t:TT):Prop:=
 ∀(a:Sem Pb) (a_:a0b) (s:Pe) (σ:St) (H:Hp) (Q:a0U),cx X a_ σ H s->t σ H Q->Pq (PM X.p X.w) X.A (isTrue e X.e a) (TP X a_ σ Q) X.xe s
theorem PW.pt{X:Cx}(h:PW X e t):PT X e t:=h _
def PA(X:Cx)(E:List Expr)(t:TA):Prop:=
 ∀(D:Uq) (a_:a0b) (s:Pe) (σ:St) (H:Hp) (Q:a0j->Hp->Prop),cx X a_ σ H s->t σ H Q->Pq (PM X.p X.w) X.A (spliced<|Ry D<|Po E X.e) (AP X a_ σ Q) X.xe s
def PS(X:Cx)(E:QD)(t:TS):Prop:=
 ∀(a_:a0b) (s:Pe) (σ:St) (H:Hp) (D:m4),cx X a_ σ H s->t D σ H->Pq (PM X.p X.w) X.A (exec E X.e) (SP X a_ D) X.xe s
def PSs(X:Cx)(E:a0Q)(t:TS):Prop:=
 ∀(a_:a0b) (s:Pe) (σ:St) (H:Hp) (D:m4),cx X a_ σ H s->t D σ H->Pq (PM X.p X.w) X.A (execs E X.e) (SP X a_ D) X.xe s
theorem d5{D:Type}{t:Sem D}{Q b:D->Pe->Prop}{M:WU}{A:Qy}{E:a0d}{s:Pe}(h:Pq M A t Q E s)(c:∀a s,Q a s->b a s):Pq M A t b E s:=Qj h c λ_ _ x=>x
def l5(i:Nat):TE:=λσ H Q=>∃v,σ[i]?=on (on v)/\Q v H
def tC(v:V):TE:=λ_ H Q=>Q v H
theorem Lz(f:X.N[i]?=on x)(g:Vis X.e.scope x)(D:b0c x:=by decide)(d:(x==("__classdict__":Qa))=O8:=by decide):PE X (.Name x k) (l5 i):=by
 intro a_ s σ H Q I h;obtain⟨v,e,h⟩:=h;obtain⟨m,E,j⟩:=I.loc;obtain⟨u,r,l⟩:=j i x v f e g;have b:EP X a_ σ Q u s:=⟨v,H,I,r,h⟩;rcases l with⟨hk,G⟩|⟨hk,c,hc,a⟩
 .exact wpAny_Name (wpAny_loadName_local I.ok.kind hk E G b) D
 .rcases hk with hk|hk
  .exact wpAny_Name (wpAny_loadName_cell I.ok.kind hk hc a b) D
  .exact wpAny_Name (wpAny_loadName_free I.ok.kind hk hc a b d) D
theorem bT{i j a}:PE X (.Constant (.int i) j a) (tC<|.n i):=λ_ _ _ H _ I h=>wpAny_Constant_int ⟨.n i,H,I.tok _,⟨_,rfl⟩,h⟩
theorem NT{b j a}:PE X (.Constant (.bool b) j a) (tC<|.c b):=λ_ _ _ H _ I h=>Constant_bool ⟨.c b,H,I,rfl,h⟩
theorem LE{j a}:PE X (.Constant .none j a) (tC .o):=λ_ _ _ H _ I h=>Constant_none ⟨.o,H,I,rfl,h⟩
theorem LB{x j a}:PE X (.Constant (.str x) j a) (tC<|.q x):=λ_ _ _ H _ I h=>Y1 ⟨.q x,H,I.tok _,⟨_,rfl⟩,h⟩
def Gl(X:Cx)(x:Qa):Prop:=X.e.kindOf x=on .globalImplicit
theorem jg{E:a0d}{a_:a0b}{s:Pe}{σ:St}{H:Hp}(I:cx X a_ σ H s)(a:Gl X x)(D:X.mg x=on u)(h:Q u s)
  (G:b0c x:=by decide):Pq (PM X.p X.w) X.A (Qz (.Name x b) X.e) Q E s:=
 Xj I.ok.kind a (Calls.loadGlobal_global (by rw[I.ok.glob];exact I.mod.glob.keeps I.bk) D h) G
theorem fR{E:a0d}{a_:a0b}{s:Pe}{σ:St}{H:Hp}(I:cx X a_ σ H s)(a:Gl X x)(D:X.mg x=OZ)(b:Te x=on u)(h:Q u s)
  (G:x≠"__name__":=by decide) (K:b0c x:=by decide):Pq (PM X.p X.w) X.A (Qz (.Name x f) X.e) Q E s:=by
 obtain⟨e,c,d⟩:=I.mod.blt;exact Xj I.ok.kind a (Calls.loadGlobal_builtin (by rw[I.ok.glob];exact I.mod.glob.keeps I.bk) D (by rw[I.ok.blt];exact c.keeps I.bk) ((d x G).trans b) h) K
theorem JA(a:Gl X x)(s:X.mg x=on u)(r:aL v u)(D:b0c x:=by decide):PE X (.Name x b) (tC v):=
 λ_ _ _ H _ I h=>jg I a s ⟨v,H,I,r,h⟩ D
theorem dA(a:Gl X x)(s:X.mg x=OZ)(b:Te x=on u)(r:aL v u)(D:x≠"__name__":=by decide)(E:b0c x:=by decide):PE X (.Name x c) (tC v):=
 λ_ _ _ H _ I h=>fR I a s b ⟨v,H,I,r,h⟩ D E
variable{a b:Expr}{p o:TE}{j:Uq}
variable{l m:TT}{k:List Expr}
def KO(t u:TT):TT:=λσ H Q=>t σ H λc d=>if c=O6 then u σ d Q else Q O8 d
def tOr(t u:TT):TT:=λσ H Q=>t σ H λc d=>if c=O6 then Q O6 d else u σ d Q
def tNot(t:TT):TT:=λσ H Q=>t σ H λc d=>Q (!c) d
theorem Jr(b:PT X a l):PW X (.BoolOp .And [a] j) l:=by
 intro d a_ s σ H Q I h;refine isTrue_and<|d5 (b a_ s σ H Q I h) λc f e=>?_;cases c with
 |true=>exact isTrue_and_nil e
 |false=>exact e
theorem Lk(b:PT X a l):PW X (.BoolOp .Or [a] j) l:=by
 intro d a_ s σ H Q I h;refine isTrue_or<|d5 (b a_ s σ H Q I h) λc f e=>?_;cases c with
 |false=>exact isTrue_or_nil e
 |true=>exact e
theorem Ll(p:PT X a l)(f:PW X (.BoolOp .And (b::k) j) m):PW X (.BoolOp .And (a::b::k) j) (KO l m):=by
 intro g a_ s σ H Q I h;refine isTrue_and<|d5 (p a_ s σ H _ I h) λc i ⟨d,e,o⟩=>?_;cases c with
 |true=>exact f g a_ i σ d Q e o
 |false=>exact⟨d,e,o⟩
theorem NQ(p:PT X a l)(f:PW X (.BoolOp .Or (b::k) j) m):PW X (.BoolOp .Or (a::b::k) j) (tOr l m):=by
 intro g a_ s σ H Q I h;refine isTrue_or<|d5 (p a_ s σ H _ I h) λc i ⟨d,e,o⟩=>?_;cases c with
 |true=>exact⟨d,e,o⟩
 |false=>exact f g a_ i σ d Q e o
theorem Lp(b:PT X a l):PT X (.UnaryOp .Not a j) (tNot l):=by
 intro a_ s σ H Q I h;exact isTrue_not<|b a_ s σ H (λc d=>Q (!c) d) I h
def Nz(p o:TE):TE:=λσ H Q=>p σ H λx d=>∃c,x= .c c/\if c=O6 then o σ d Q else Q (.c O8) d
theorem LD{op}(h:PE X a t):PE X (.BoolOp op [a] j) t:=λa_ s σ H Q I c=>BoolOp_one<|h a_ s σ H Q I c
theorem LH(m:PE X a p)(f:PE X (.BoolOp .And (b::k) j) o):PE X (.BoolOp .And (a::b::k) j) (Nz p o):=by
 intro a_ s σ H Q I h;refine BoolOp_and<|d5 (m a_ s σ H _ I h) λv g ⟨x,d,e,r1,l⟩=>?_;obtain⟨c,rfl,l⟩:=l;cases r1;refine QR ?_;cases c with
 |true=>exact f a_ g σ d Q e l
 |false=>exact⟨.c O8,d,e,rfl,l⟩
def tIf(t:TT)(p o:TE):TE:=λσ H Q=>t σ H λc d=>if c=O6 then p σ d Q else o σ d Q
theorem Gk(hc:PT X c l)(m:PE X a p)(i:PE X b o):PE X (.IfExp c a b j) (tIf l p o):=by
 intro a_ s σ H Q I h;refine wpAny_IfExp<|d5 (hc a_ s σ H _ I h) λd e ⟨f,g,k⟩=>?_;cases d with
 |true=>exact m a_ e σ f Q g k
 |false=>exact i a_ e σ f Q g k
def eX(K:Pz)(H:Hp)(a:O7)(xs:a0j):Prop:=
 Rd H a (.l xs)\/
  ∃(o:QS) (b:a0I) (n:Nat),K.lookup a=on o/\o.cls= .type "list"/\o.dict=OZ/\o.data= .seq b n/\b.size<=Ps/\au xs b.toList
def iv(K:Pz)(H:Hp)(a:O7)(j:a0j):Prop:=
 Rd H a (.t j)\/
  ∃(o:QS) (b:a0I) (n:Nat),K.lookup a=on o/\o.cls= .type "tuple"/\o.data= .seq b n/\b.size<=Ps/\au j b.toList
noncomputable def absV:Pb->Option V
 | .none=>on .o
 | .bool b=>on<|.c b
 | .int i _=>on<|.n i
 | .str x _=>on<|.q x
 | .ref a=>on<|.r a
 | .type n=>on<|.ty n
 |_=>OZ
theorem aL.abs(r:aL x u):absV u=on x:=by
 cases x with
 |o=>cases r;rfl
 |c _=>cases r;rfl
 |n _=>obtain⟨t,rfl⟩:=r;rfl
 |q _=>obtain⟨t,rfl⟩:=r;rfl
 |r _=>cases r;rfl
 |ty _=>cases r;rfl
theorem aL.inj(r:aL x u)(q:aL y u):x=y:=P3<|r.abs.symm.trans q.abs
theorem au.inj:∀{a b:a0j} {j:a0g},au a j->au b j->a=b
 |_,_,_,.nil,.nil=>rfl
 |_,_,_,.cons r t,.cons r' t'=>by rw[r.inj r',au.inj t t']
end
section
variable{X:Cx}{a_:a0b}{σ:St}{H:Hp}{s:Pe}{a:O7}{xs ys:a0j}
theorem eX.of{K:Pz}(h:H a=on (.l xs)):eX K H a xs:= .inl<|.inl h
theorem cx.list(I:cx X a_ σ H s)(h:eX X.K H a xs):∃its:a0g,au xs its/\PlainL s.heap a its.toArray/\VX xs<=Ps:=by
 rcases h with h|⟨o,its,n,b,hc,D,E,c,r⟩
 .obtain⟨z,its,n,r,e⟩:=h.ok I.hok
  exact⟨its,r,⟨_,n,e,rfl,rfl,rfl⟩,z⟩
 .refine⟨its.toList,r,⟨o,n,I.kIn a o b,hc,D,by simpa using E⟩,?_⟩
  have e:=r.length;simp only[Qe]at e;lia
theorem cx.tuple(I:cx X a_ σ H s)(h:iv X.K H a xs):∃D:a0g,au xs D/\IsTup s.heap a D.toArray/\VX xs<=Ps:=by
 rcases h with h|⟨o,D,n,b,hc,E,c,r⟩
 .obtain⟨z,D,r,p⟩:=h.ok I.hok
  exact⟨D,r,p,z⟩
 .refine⟨D.toList,r,⟨o,I.kIn a o b,hc,n,by simpa using E⟩,?_⟩
  have e:=r.length;simp only[Qe]at e;lia
theorem cx.list_inj(I:cx X a_ σ H s)(h:eX X.K H a xs)(M:eX X.K H a ys):xs=ys:=by
 obtain⟨E,r,⟨o,n,e,_,_,d⟩,_⟩:=I.list h;obtain⟨D,c,⟨f,g,b,_,_,G⟩,_⟩:=I.list M;rw[e]at b;cases b;rw[d]at G
 injection G with S _
 have:E=D:=by simpa using QG Array.toList S
 subst this;exact r.inj c
theorem cx.tuple_inj(I:cx X a_ σ H s)(h:iv X.K H a xs)(M:iv X.K H a ys):xs=ys:=by
 obtain⟨E,r,⟨o,e,_,n,d⟩,_⟩:=I.tuple h;obtain⟨D,c,⟨f,b,_,g,G⟩,_⟩:=I.tuple M;rw[e]at b;cases b;rw[d]at G
 injection G with S _
 have:E=D:=by simpa using QG Array.toList S
 subst this;exact r.inj c
noncomputable abbrev Cx.wish(X:Cx)(E:a0d):Cx:={X with xe:=E}
noncomputable abbrev Cx.nox(X:Cx):Cx:=X.wish λ_ _=>False
theorem Cx.Ok.wish{X:Cx}(a:X.Ok)(E:a0d):(X.wish E).Ok:=
 ⟨a.mod,a.kind,a.glob,a.blt,a.above,a.inj,a.has,a.cab,a.hd,a.frames,a.stk,a.exf,a.bs,a.bsz,a.noex,a.exfs,a.funs,a.frf⟩
theorem Cx.Ok.f5{X:Cx}{E:a0d}(a:(X.wish E).Ok):X.Ok:=
 ⟨a.mod,a.kind,a.glob,a.blt,a.above,a.inj,a.has,a.cab,a.hd,a.frames,a.stk,a.exf,a.bs,a.bsz,a.noex,a.exfs,a.funs,a.frf⟩
variable{E:a0d}
theorem cx.wish(I:cx X a_ σ H s)(E:a0d):cx (X.wish E) a_ σ H s:=⟨I.ok.wish E,I.os,I.bare,I.base,I.loc,I.cell,I.free,I.freeC,I.pin,I.hok,I.len⟩
theorem cx.j7(I:cx (X.wish E) a_ σ H s):cx X a_ σ H s:=⟨I.ok.f5,I.os,I.bare,I.base,I.loc,I.cell,I.free,I.freeC,I.pin,I.hok,I.len⟩
theorem SP.f5{D:m4}(h:SP (X.wish E) a_ D f d):SP X a_ D f d:=by
 cases f with
 |next=>obtain⟨b,c,I,q⟩:=h;exact⟨b,c,I.j7,q⟩
 |brk=>obtain⟨b,c,I,q⟩:=h;exact⟨b,c,I.j7,q⟩
 |cont=>obtain⟨b,c,I,q⟩:=h;exact⟨b,c,I.j7,q⟩
 |ret u=>obtain⟨v,b,c,I,r,q⟩:=h;exact⟨v,b,c,I.j7,r,q⟩
theorem PSs.nox{a:a0Q}(h:PSs X.nox a t):PSs X a t:=λa_ s σ H D I b=>
 Qj (h a_ s σ H D (I.wish _) b) (λ_ _ q=>q.f5) λ_ _ z=>RH z
variable{Y:QD}{rest:a0Q}{t u:TS}{e:Expr}{a:TE}{aa:Uq}
noncomputable def Nw:TS:=λD σ H=>D.nx σ H
def tSeq(t u:TS):TS:=λD σ H=>t {D with nx:=u D} σ H
theorem rR:PSs X [] Nw:=λ_ _ σ H _ I h=>UX ⟨σ,H,I,h⟩
theorem bY(c:PS X Y t)(d:PSs X rest u):PSs X (Y::rest) (tSeq t u):=by
 intro a_ s σ H D I h;refine wpAny_execs_cons<|d5 (c a_ s σ H {D with nx:=u D} I h) λf g q=>?_;cases f with
 |next=>
  obtain⟨b,i,j,q⟩:=q;exact d a_ g b i D j q
 |ret v=>exact q
 |brk=>exact q
 |cont=>exact q
theorem je(b:PS X Y t):PSs X [Y] t:=by
 intro a_ s σ H D I h;refine wpAny_execs_cons<|d5 (b a_ s σ H D I h) λf c q=>?_;cases f with
 |next=>exact UX q
 |ret v=>exact q
 |brk=>exact q
 |cont=>exact q
theorem cx.quiet{a_:a0b}{σ:St}{H:Hp}{s:Pe}(I:cx X a_ σ H s):interactive X.e=O8:=by simp[interactive,I.ok.kind]
def yK(a:TE):TS:=λD σ H=>a σ H λ_ b=>D.nx σ b
theorem cV(b:PE X e a)(t:TU e OZ aa.line X.e=Rz O8:=by rfl):PS X (.Expr e aa) (yK a):=by
 intro a_ s σ H D I h;exact wpAny_Expr_any (d5 (b a_ s σ H _ I h) λv f ⟨x,c,d,r1,u⟩=>⟨σ,c,d,u⟩) I.quiet t
def FI(a:TE):TS:=λD σ H=>a σ H D.rt
theorem ax(b:PE X e a):PS X (.Return (on e) aa) (FI a):=by
 intro a_ s σ H D I h;exact wpAny_Return_some<|d5 (b a_ s σ H _ I h) λv f ⟨x,c,d,r1,t⟩=>⟨x,σ,c,d,r1,t⟩
def tIfS(c:TT)(t u:TS):TS:=λD σ H=>c σ H λb d=>if b=O6 then t D σ d else u D σ d
theorem HQ{a b:a0Q}(hc:PT X c tc)(E:PSs X a t)(j:PSs X b u):PS X (.If c a b aa) (tIfS tc t u):=by
 intro a_ s σ H D I h;refine wpAny_If<|d5 (hc a_ s σ H _ I h) λd f ⟨g,i,e⟩=>?_;cases d with
 |true=>exact E a_ f σ g D i e
 |false=>exact j a_ f σ g D i e
abbrev TG:=V->St->Hp->(St->Hp->Prop)->Prop
abbrev Wi:=a0j->St->Hp->(St->Hp->Prop)->Prop
def PG(X:Cx)(b:Expr)(t:TG):Prop:=
 ∀(a_:a0b) (s:Pe) (σ:St) (H:Hp) (v:V) (u:Pb) (Q:a0F),cx X a_ σ H s->aL v u->t v σ H Q->
  Pq (PM X.p X.w) X.A (UU b X.e u) (λ_ a=>∃c d,cx X a_ c d a/\Q c d) X.xe s
def PGs(X:Cx)(d:List Expr)(t:Wi):Prop:=
 ∀(a_:a0b) (s:Pe) (σ:St) (H:Hp) (a:a0j) (e:a0g) (Q:a0F),cx X a_ σ H s->au a e->t a σ H Q->
  Pq (PM X.p X.w) X.A (Zi ((V5 d X.e).map (·.2)) e) (λ_ u=>∃b c,cx X a_ b c u/\Q b c) X.xe s
abbrev Hf:=V->V->V->Hp->(Hp->Prop)->Prop
def Hg(X:Cx)(t:Hf):Prop:=
 ∀(a_:a0b) (s:Pe) (σ:St) (H:Hp) (o i v:V) (b c u:Pb) (Q:Hp->Prop),cx X a_ σ H s->aL o b->aL i c->aL v u->t o i v H Q->
  Pq (PM X.p X.w) X.A (setItem b c u) (λ_ a=>∃d,cx X a_ σ d a/\Q d) X.xe s
abbrev TIp:=V->V->Hp->VK->Prop
def PIp(X:Cx)(a:Operator)(t:TIp):Prop:=
 ∀(a_:a0b) (s:Pe) (σ:St) (H:Hp) (x y:V) (v u:Pb) (Q:VK),cx X a_ σ H s->aL x v->aL y u->t x y H Q->
  Pq (PM X.p X.w) X.A (inplaceOp a v u) (EP X a_ σ Q) X.xe s
def d7(i:Nat):TG:=λv σ H Q=>Q (σ.set i<|on v) H
theorem xP(b:X.N.Nodup)(c:X.N[i]?=on x)(d:F3 X.e.scope x)(f:b0d X x:=by first|exact .inl rfl|exact .inr rfl|assumption):PG X (.Name x aa) (d7 i):=by
 intro a_ s σ H v u Q I r h;exact Xu<|jq I b c d r (λa g=>⟨_,H,g,h⟩) f
noncomputable def gNil:Wi:=λa σ H Q=>a=[]/\Q σ H
def zX(t:TG)(u:Wi):Wi:=λa σ H Q=>∃v r,a=v::r/\t v σ H λb c=>u r b c Q
theorem bB:PGs X [] gNil:=by
 intro a_ s σ H a t Q I r h;obtain⟨e,h⟩:=h;subst e;cases r;exact assignInOrder_nil ⟨σ,H,I,h⟩
theorem ay{e:Expr}{t:TG}{u:Wi}(c:PG X e t)(d:PGs X m u)
  (a:(V5 (e::m) X.e).map (·.2)=UU e X.e::(V5 m X.e).map (·.2):=by rfl):PGs X (e::m) (zX t u):=by
 intro a_ s σ H E G Q I r h;obtain⟨v,l,f,h⟩:=h;subst f;cases r with
 |cons r g=>
  rw[a];refine W3<|d5 (c a_ s σ H _ _ _ I r h) λ_ i ⟨b,j,k,D⟩=>?_;exact d a_ i b j _ _ Q k g D
def GY(K:Pz)(n:Nat)(t:Wi):TG:=λv σ H Q=>∃a xs,v= .r a/\iv K H a xs/\VX xs=n/\t xs σ H Q
theorem bL{t:Wi}(hc:X.calm=O6)(h:PGs X w t)
  (D:VX (V5 w X.e)=n:=by rfl) (c:(V5 w X.e).findIdx? (·.1)=OZ:=by rfl):PG X (.Tuple w k aa) (GY X.K n t):=by
 intro a_ s σ H v u Q I r d;obtain⟨a,xs,g,i,j,d⟩:=d;subst g;cases r;obtain⟨E,f,l,q⟩:=I.tuple i;refine assign_Tuple_tuple (I.ok.hd hc) l (by simp[D,<-j,f.length]) c λG m=>?_;have p:cx X a_ σ H {s with heap:=G}:=I.kept (t':=s.toks) λb o e=>m b o (Qm<|PQ e) e;exact h a_ _ σ H xs _ Q p (by simpa using f) d
def zU(a b:TE)(t:Hf):TG:=λv σ H Q=>a σ H λo c=>b σ c λi d=>t o i v d λf=>Q σ f
theorem ij{t:Hf}(d:PE X o to)(f:PE X i z)(a:Hg X t)
  (e:∀v,UU (.Subscript o i aa) X.e v=(do
   let b <-TR [v] (Qz o X.e)
   let c <-TR [v,b] (Qz i X.e)
   SJ aa
   TR [v,b,c] (setItem b c v)
   release [v,b,c] []):=by intro _;rfl):PG X (.Subscript o i aa) (zU to z t):=by
 intro a_ s σ H v u Q I r h;rw[e];refine My<|QL<|d5 (d a_ s σ H _ I h) λb g ⟨x,j,k,r1,D⟩=>?_;refine My<|QL<|d5 (f a_ g σ j _ k D) λc l ⟨y,m,n,p,E⟩=>?_;refine My<|Q3<|My<|QL<|d5 (a a_ l σ m x y v b c u _ n r1 p r E) λ_ A ⟨q,w,G⟩=>?_;exact wpAny_release ⟨σ,q,w,G⟩
def gl(a:TE)(g:TG):TS:=λD σ H=>a σ H λx b=>g x σ b D.nx
theorem c5{t e:Expr}{a:TE}(b:PE X e a)(c:PG X t g)(u:swapsWithSole [t] e aa.line X.e=Rz O8:=by rfl)(d:swappedStores [t] e X.e=Rz OZ:=by rfl)
  (f:(V5 [t] X.e).map (·.2)=[UU t X.e]:=by rfl):PS X (.Assign [t] e aa) (gl a g):=by
 intro a_ s σ H D I h;refine wpAny_Assign_stores (d5 (b a_ s σ H _ I h) λv i ⟨x,j,k,r1,E⟩=>?_) u d;rw[f];exact d5 (c a_ i σ j x v _ k r1 E) λ_ l q=>q
theorem qo{e:Expr}{a:TE}(b:X.N.Nodup)(c:X.N[i]?=on x)(d:F3 X.e.scope x)(f:PE X e a)(t:TU e (on<|.Name x pos') aa.line X.e=Rz O8:=by rfl)(g:b0d X x:=by first|exact .inl rfl|exact .inr rfl|assumption):
  PS X (.Assign [.Name x pos'] e aa) (gl a<|d7 i):=by
 intro a_ s σ H D I h;refine wpAny_Assign_Name (d5 (f a_ s σ H _ I h) λv m ⟨y,j,k,r1,u⟩=>?_) t;exact jq k b c d r1 (λn l=>⟨_,j,l,u⟩) g
def KE(i j:Nat)(b:TA):TS:=λD σ H=>b σ H λa c=>∃v w,a=[v,w]/\D.nx ((σ.set i<|on v).set j<|on w) c
theorem Lr{a b:Expr}{kt k2 pt2}(hc:X.calm=O6)(m:X.N.Nodup)(F:X.N[i]?=on x)(J:X.N[j]?=on y)(g:i≠j)
  (n:X.e.scope.names.lookup x=on .local) (r:X.e.scope.names.lookup y=on .local) (u:PA X [a,b] z)
  (L:swappedStores [.Tuple [.Name x px,.Name y py] kt pt] (.Tuple [a,b] k2 pt2) X.e=Rz (on [x,y]))
  (E:swapsWithSole [.Tuple [.Name x px,.Name y py] kt pt] (.Tuple [a,b] k2 pt2) aa.line X.e=Rz O8:=by rfl):
  PS X (.Assign [.Tuple [.Name x px,.Name y py] kt pt] (.Tuple [a,b] k2 pt2) aa) (KE i j z):=by
 intro a_ s σ H D I h;rw[exec_Assign_arm];refine My<|Q3 ?_;rw[E];refine My<|O0 ?_;rw[Pd<|by decide];refine My<|Tuple_<|d5 (u _ a_ s σ H _ I h) λG c ⟨S,B,O,r1,t⟩=>?_;obtain⟨v,w,P,t⟩:=t;subst P;obtain⟨d,f,rfl,Q,k⟩:∃d f,G=[d,f]/\aL v d/\aL w f:=by
  cases r1 with
  |cons p q=>
   cases q with
   |cons K M=>
    cases M;exact⟨_,_,rfl,p,K⟩
 refine QP ?_ (by show 2<=Ps;decide);have R:cx X a_ σ B {c with heap:=c.heap.push {cls:= .type "tuple",data:= .seq [d,f].toArray}}:=O.kept (t':=c.toks) λb o e=>O3 _ e;rw[L];refine My<|O0 ?_;show Pq (PM X.p X.w) X.A (do rule "assign.swapped-stores";let items <-unpackItems (.ref c.heap.objs.size) 2 OZ;Zi [λv=>bindName X.e y v,λv=>bindName X.e x v] items.reverse;Rz Flow.next) _ _ _
 refine My<|Tf<|My<|unpackItems_tuple (items:=#[d,f]) (I.ok.hd hc) (ZN c.heap _) λh' l=>?_;have T:=R.kept (h':=h') (t':=c.toks) λb o e=>l b o (Qm<|PQ e) e;show Pq _ _ (Zi [λv=>bindName X.e y v,λv=>bindName X.e x v] [f,d]>>=λ_=>Rz Flow.next) _ _ _;refine My<|W3<|wpAny_bindName<|jq T m J (.inl r) k (λW U=>?_)<|.inr r;refine W3<|wpAny_bindName<|jq U m F (.inl n) Q (λY C=>assignInOrder_nil<|O0 ?_)<|.inr n;rw[List.set_comm _ _<|Ne.symm g]at C;exact⟨_,B,C,t⟩
def KN(i:Nat)(a:TE)(b:TIp):TS:=λD σ H=>∃x,σ[i]?=on (on x)/\a σ H λy c=>b x y c λz d=>D.nx (σ.set i<|on z) d
theorem mz{e:Expr}{a:TE}(o:X.N.Nodup)(n:X.N[i]?=on x)(g:F3 X.e.scope x)(p:PE X e a)(q:PIp X op Z)(B:b0d X x:=by first|exact .inl rfl|exact .inr rfl|assumption):
  PS X (.AugAssign (.Name x pos') op e aa) (KN i a Z):=by
 intro a_ s σ H D I h;obtain⟨v,C,h⟩:=h;obtain⟨m,E,F⟩:=I.loc;have j:Vis X.e.scope x:=by rcases g with k|k;exact .inl k;exact .inr (.inl k)
 obtain⟨u,r,l⟩:=F i x v n C j;refine wpAny_AugAssign_Name ?_;have t:Pq (PM X.p X.w) X.A (Qz e X.e) (λw d=>Pq (PM X.p X.w) X.A (inplaceOp op u w) (λr f=>Pq (PM X.p X.w) X.A (storeName X.e x r) (λ_=>SP X a_ D .next) X.xe f) X.xe d) X.xe s:=by
  refine d5 (p a_ s σ H _ I h) λw J ⟨y,L,O,r1,G⟩=>?_;refine d5 (q a_ J σ L v y u w _ O r r1 G) λz U ⟨W,P,Q,R,K⟩=>?_;exact jq Q o n g R (λY T=>⟨_,P,T,K⟩) B
 rcases l with⟨hk,M⟩|⟨hk,c,hc,b⟩
 .exact wpAny_loadName_local I.ok.kind hk E M t
 .rcases hk with hk|hk
  .exact wpAny_loadName_cell I.ok.kind hk hc b t
  .rcases g with k|k
   .have:X.e.scope.names.lookup x=on .free:=hk
    rw[k]at this;cases this
   .have:X.e.scope.names.lookup x=on .free:=hk
    rw[k]at this;cases this
def ipI(f:a0J):TIp:=λx y H Q=>∃i j,x= .n i/\y= .n j/\Q (.n<|f i j) H
theorem EC:PIp X .Add (ipI λi j=>i+j):=by
 intro a_ s σ H x y v u Q I r1 b h;obtain⟨i,j,c,d,q⟩:=h;subst c;subst d;obtain⟨t,rfl⟩:=r1;obtain⟨a,rfl⟩:=b;exact iadd_int ⟨.n _,H,I.tok _,⟨_,rfl⟩,q⟩
def KD(c:TT)(i:TS):TS:=λD σ H=>∃W:Nat->St->Hp->Prop,(∃m,W m σ H)/\∀m σ H,W m σ H->
 c σ H λb f=>if b=O6 then ∃N:St->Hp->Prop,(∀d g,N d g->∃h,h<m/\W h d g)/\i {D with nx:=N,ct:=N,bk:=D.nx} σ f else D.nx σ f
theorem F8(q:Zw (PM X.p X.w) X.A X.e X.xe)(hc:PT X c tc)(J:PSs X body x):PS X (.While c body [] aa) (KD tc x):=by
 intro a_ s σ H D I h;obtain⟨W,⟨L,O⟩,i⟩:=h;refine wpAny_While<|codeAny_whileLoop (λn u=>∃j r,cx X a_ j r u/\W n j r) ?_ L ⟨σ,H,I,O⟩;rintro n P ⟨g,y,Q,R⟩;refine Ti q<|d5 (hc a_ P g y _ Q<|i n g y R) λb T ⟨B,C,a⟩=>?_;cases b with
 |true=>
  obtain⟨N,F,a⟩:=a;rw[Pc rfl];refine Ti q<|d5 (J a_ T g B _ C a) λf U e=>?_;cases f with
  |next=>
   obtain⟨d,k,l,m⟩:=e;obtain⟨o,t,p⟩:=F d k m;exact⟨o,t,d,k,l,p⟩
  |cont=>
   obtain⟨d,k,l,m⟩:=e;obtain⟨o,t,p⟩:=F d k m;exact⟨o,t,d,k,l,p⟩
  |brk=>exact e
  |ret v=>exact e
 |false=>
  rw[Pd Pf];exact UX ⟨g,B,C,a⟩
structure It where
 go:Nat->Hp->Prop
 yld:Nat->Hp->V->Hp->Prop
 stop:Nat->Hp->Prop
def fM(X:Cx)(a_:a0b)(H:Hp)(b:O7):Prop:=
 H b=OZ/\b≠X.e.locals/\b∉X.fs/\(b∈X.ex\/X.s₀.heap.objs.size<=b)/\(∀x c,X.e.cells.lookup x=on c->c≠b)/\∀p∈X.pn++a_,p.1≠b
theorem cx.fpOk{X:Cx}{a_:a0b}{σ:St}{H f:Hp}{s:Pe}{b:O7}(I:cx X a_ σ H s)(d:s.heap.objs.size<=b)(a:f b=OZ):fM X a_ f b:=by
 refine⟨a,Sd<|PZ I.lt d,I.nofs d,.inr<|Pk I.sz d,λx c e z=>?_,λp g z=>?_⟩
 .obtain⟨v,q⟩:=I.cell x c e
  exact PU (PZ q.lt<|by rw[z];exact d)<|Qw _
 .exact PU (PZ (PQ (I.pin p g).1)<|by rw[z];exact d) (Qw _)
structure oa (P:P6) (w:Qb) (K:Pz) (tg:Expr) (J:It) (fp:a0q) (it:O7) (tn:Nat->Qt->Prop):Prop where
 mem:it∈fp
 obj:∀i h,tn i h->∀b∈fp,∃o,h.get? b=on o/\∀v,o.data≠ .cell v
 keep:∀i h h',tn i h->(∀b∈fp,∀o,h.get? b=on o->h'.get? b=on o)->tn i h'
 item:∀(X:Cx),X.p=P->X.w=w->X.K=K->X.calm=O6->∀(i:Nat) (a_:a0b) (s:Pe) (σ:St) (H:Hp) (E:a0d),cx X a_ σ H s->(∀b∈fp,fM X a_ H b)->tn i s.heap->J.go i H->
  Pq (PM P w) X.A (Ul<|.ref it) (λr s1=>∃u,r=on u/\
   Pq (PM P w) X.A (UV tg (.ref it) u) (λ_ s2=>∃x H',cx X a_ σ H' s2/\aL x u/\J.yld i H x H'/\tn (i+1) s2.heap/\∀b∈fp,H' b=OZ) E s1) E s
 done:∀(X:Cx),X.p=P->X.w=w->X.K=K->X.calm=O6->∀(i:Nat) (a_:a0b) (s:Pe) (σ:St) (H:Hp) (E:a0d),cx X a_ σ H s->(∀b∈fp,fM X a_ H b)->tn i s.heap->J.stop i H->
  Pq (PM P w) X.A (Ul<|.ref it) (λr s1=>r=OZ/\cx X a_ σ H s1) E s
 self:∀(A:Qy) (i:Nat) (s:Pe) (Q:a0d) (E:a0d),tn i s.heap->Q (.ref it) s->Pq (PM P w) A (WB<|.ref it) Q E s
abbrev TI:=St->Hp->(It->Hp->Prop)->Prop
def PIE(X:Cx)(a_:a0b)(σ:St)(e:Expr)(R:It->Hp->Prop)(c:Pb)(f:Pe):Prop:=
 ∃(a:O7) (g:a0q) (h:Nat->Qt->Prop) (J:It) (d:Hp),c= .ref a/\cx X a_ σ d f/\oa X.p X.w X.K e J g a h/\h 0 f.heap/\(∀b∈g,fM X a_ d b)/\R J d
def PI(X:Cx)(a b:Expr)(c:TI):Prop:=
 ∀(a_:a0b) (s:Pe) (σ:St) (H:Hp) (R:It->Hp->Prop),cx X a_ σ H s->c σ H R->
  Pq (PM X.p X.w) X.A (Qz b X.e) (λv d=>Pq (PM X.p X.w) X.A (WB v) (PIE X a_ σ a R) X.xe d) X.xe s
theorem uO{M:WU}{E:a0d}{s:Pe}{u:Pb}{o:QS}(c:s.heap.get? d=on o)(hc:o.cls= .type n)(a:o.data= .fields f)
  (e:["enumerate","zip","dict_itemiterator","dict_reverseitemiterator","odict_iterator","itertools.zip_longest","itertools.pairwise"].contains n=O8) (b:Q () s):Pq M A (UV g (.ref d) u) Q E s:=by
 unfold UV;cases g<;>first
  |exact O0 b
  |(cases u<;>first
   |exact O0 b
   |(refine My (wpAny_load c ?_)
     rw[hc,a];show Pq M A (if(["enumerate","zip","dict_itemiterator","dict_reverseitemiterator","odict_iterator","itertools.zip_longest","itertools.pairwise"].contains n&&f[0]?==on (Tq _))=O6 then _ else _) Q E s;rw[Pd<|by intro h;rw[e,Tk]at h;cases h];exact O0 b))
noncomputable def Itl(K:Pz)(a:O7):It:=
 ⟨λi H=>∃xs x,eX K H a xs/\xs[i]?=on x,λi H x b=>b=H/\∀xs,eX K H a xs->xs[i]?=on x,λi H=>∃xs,eX K H a xs/\VX xs<=i⟩
noncomputable def Itt(K:Pz)(a:O7):It:=
 ⟨λi H=>∃xs x,iv K H a xs/\xs[i]?=on x,λi H x b=>b=H/\∀xs,iv K H a xs->xs[i]?=on x,λi H=>∃xs,iv K H a xs/\VX xs<=i⟩
noncomputable def Itr(a:Int)(n:Nat):It:=⟨λi _=>i<n,λi H x b=>b=H/\x= .n (a+i),λi _=>n<=i⟩
theorem sP{K:Pz}(a t:O7):oa P w K Z (Itl K a) [t] t (λi h=>h.IsListIter t a i) where
 mem:=by simp
 obj:=λi h Y b f=>by
  have e:b=t:=by simpa using f
  subst e;obtain⟨o,e,c,d⟩:=Y;exact⟨o,e,λv z=>by rw[d]at z;cases z⟩
 keep:=λi h D Y k=>Y.at λo e=>k t (by simp) o e
 item:=by
  intro X m n q hc i a_ s σ H E I j Y r;subst m n q;obtain⟨xs,x,l,y⟩:=r;obtain⟨G,A,p,L⟩:=I.list l;obtain⟨u,N,O⟩:=A.get y;obtain⟨B,f1,f2,C,F,J⟩:=j t (by simp);refine wpAny_pyNext_list_item Y p.isList (x:=u) (by simpa using N) λD g Q=>?_;have R:cx X a_ σ H {s with heap:=D}:=I.turned (t':=s.toks) (λb o f e=>(Q.2 b f).trans e) B f1 C F J;obtain⟨o,e,c,d⟩:=id g;exact⟨u,rfl,uO (s:={s with heap:=D}) e c d (by decide) ⟨x,H,R,O,⟨rfl,λys T=>by rw[I.list_inj T l];exact y⟩,g,λb f=>(j b f).1⟩⟩
 done:=by
  intro X m n q hc i a_ s σ H E I j Y r;subst m n q;obtain⟨xs,l,y⟩:=r;obtain⟨G,A,p,L⟩:=I.list l;obtain⟨B,f1,f2,C,F,J⟩:=j t (by simp);have W:=A.length;exact wpAny_pyNext_list_end (I.ok.hd hc) Y p.isList (by simp;lia) λD U=>⟨rfl,I.turned (t':=s.toks) (λb o f e=>U b o f e) B f1 C F J⟩
 self:=λ_ _ _ _ _ Y h=>wpAny_pyIter_listiter Y h
theorem yF{K:Pz}(a t:O7):oa P w K Z (Itt K a) [t] t (λi h=>h.IsTupleIter t a i) where
 mem:=by simp
 obj:=λi h Y b f=>by
  have e:b=t:=by simpa using f
  subst e;obtain⟨o,e,c,d⟩:=Y;exact⟨o,e,λv z=>by rw[d]at z;cases z⟩
 keep:=λi h G Y k=>Y.at λo e=>k t (by simp) o e
 item:=by
  intro X m n q hc i a_ s σ H E I j Y r;subst m n q;obtain⟨xs,x,l,y⟩:=r;obtain⟨D,A,p,L⟩:=I.tuple l;obtain⟨u,N,O⟩:=A.get y;obtain⟨B,f1,f2,C,F,J⟩:=j t (by simp);refine wpAny_pyNext_tuple_item Y (show s.heap.IsTuple a D.toArray from p) (x:=u) (by simpa using N) λG g Q=>?_;have R:cx X a_ σ H {s with heap:=G}:=I.turned (t':=s.toks) (λb o f e=>(Q.2 b f).trans e) B f1 C F J;obtain⟨o,e,c,d⟩:=id g;exact⟨u,rfl,uO (s:={s with heap:=G}) e c d (by decide) ⟨x,H,R,O,⟨rfl,λys T=>by rw[I.tuple_inj T l];exact y⟩,g,λb f=>(j b f).1⟩⟩
 done:=by
  intro X m n q hc i a_ s σ H E I j Y r;subst m n q;obtain⟨xs,l,y⟩:=r;obtain⟨D,A,p,L⟩:=I.tuple l;obtain⟨B,f1,f2,C,F,J⟩:=j t (by simp);have W:=A.length;exact wpAny_pyNext_tuple_end (I.ok.hd hc) Y (show s.heap.IsTuple a D.toArray from p) (by simp;lia) λG U=>⟨rfl,I.turned (t':=s.toks) (λb o f e=>U b o f e) B f1 C F J⟩
 self:=λ_ _ _ _ _ Y h=>wpAny_pyIter_tupleiter Y h
theorem yG{K:Pz}(a:O7)(u:Int)(n:Nat):oa P w K x (Itr u n) [a] a (λi h=>XV h a (u+(i:Nat)*1) ((n:Int)-(i:Nat)) 1) where
 mem:=by simp
 obj:=λi h Y b c=>by
  have e:b=a:=by simpa using c
  subst e;exact⟨_,Y,λv z=>by
   have B:Data.fields _=Data.cell v:=z;cases B⟩
 keep:=λi h D Y k=>k a (by simp) _ Y
 item:=by
  intro X g j l hc i a_ s σ H E I f Y m;subst g j l;obtain⟨p,f1,f2,q,r,y⟩:=f a (by simp);have W:=Walks.range (prog:=X.p) (w:=X.w) (I.ok.hd hc) a u 1 n;refine W.item i s _ _ m Y λv D A C d F=>?_;obtain⟨t,rfl⟩:=C;have J:cx X a_ σ H {s with heap:=D,toks:=A}:=I.turned (λb o c e=>F b o (by simpa using c) e) p f1 q r y;refine⟨_,rfl,uO (s:={s with heap:=D,toks:=A}) (n:="range_iterator") d rfl rfl (by decide) ⟨.n<|u+i,H,J,⟨t,?_⟩,⟨rfl,rfl⟩,d,λb c=>(f b c).1⟩⟩;rw[Int.mul_one]
 done:=by
  intro X g j l hc i a_ s σ H E I f Y m;subst g j l;obtain⟨p,f1,f2,q,r,y⟩:=f a (by simp);exact Z8 (I.ok.hd hc) Y (by have:n<=i:=m;lia) λD L=>⟨rfl,I.turned (t':=s.toks) (λb o c e=>L b o c e) p f1 q r y⟩
 self:=λ_ _ _ _ _ Y h=>Wb Y h
variable{z:Expr}
def OJ(K:Pz)(c:TE):TI:=λσ H R=>c σ H λx b=>∃a,x= .r a/\(∃xs,eX K b a xs)/\R (Itl K a) b
theorem Jv(f:PE X l tl):PI X z l (OJ X.K tl):=by
 intro a_ s σ H R I h;refine d5 (f a_ s σ H _ I h) λv c ⟨x,g,d,r1,t⟩=>?_;obtain⟨a,e,⟨xs,i⟩,q⟩:=t;subst e;cases r1;obtain⟨u,k,p,m⟩:=d.list i;refine VB p.isList ?_;refine⟨c.heap.objs.size,[c.heap.objs.size],_,_,g,rfl,d.kept (t':=c.toks) λb o e=>O3 _ e,sP a _,⟨_,Px _ rfl,rfl,rfl⟩,λb j=>?_,q⟩;have e:b=c.heap.objs.size:=by simpa using j
 subst e;exact d.fpOk (Pg _)<|d.hok.fresh<|Pg _
theorem vO{a_:a0b}{σ:St}{H:Hp}{s:Pe}{E:a0d}{a c:Int}{t u v:Tok}(I:cx X a_ σ H s)(f:-(2^62)<=a)(g:a<2^62)(h:-(2^62)<=c)(i:c<2^62)
  (q:R (Itr a (c-a).toNat) H):Pq (PM X.p X.w) X.A (WB<|.ref s.heap.objs.size) (PIE X a_ σ z R) E {s with heap:=s.heap.push {cls:= .type "range",data:= .fields #[.int a t,.int c u,.int 1 v]},toks:=m}:=by
 refine wpAny_pyIter_range (IsRange.new ..) (small_one f g h i) ?_;have d:cx X a_ σ H {s with heap:=s.heap.push {cls:= .type "range",data:= .fields #[.int a t,.int c u,.int 1 v]},toks:=m}:=I.kept λb o e=>O3 _ e;refine⟨(s.heap.push {cls:= .type "range",data:= .fields #[.int a t,.int c u,.int 1 v]}).objs.size,[(s.heap.push {cls:= .type "range",data:= .fields #[.int a t,.int c u,.int 1 v]}).objs.size],_,_,H,rfl,
  d.kept (t':=m) λb o e=>O3 _ e,yG _ a (c-a).toNat,?_,λb j=>?_,q⟩
 .have k:a+((0:Nat):Int)*1=a:=by simp
  have l:(((c-a).toNat:Nat):Int)-((0:Nat):Int)=WK a c 1:=by rw[rangeSize_one];split<;>lia
  show XV _ _ (a+((0:Nat):Int)*1) ((((c-a).toNat:Nat):Int)-((0:Nat):Int)) 1;rw[k,l];exact Px _ rfl
 .have e:b=(s.heap.push {cls:= .type "range",data:= .fields #[.int a t,.int c u,.int 1 v]}).objs.size:=by simpa using j
  subst e;exact d.fpOk (Pg _)<|d.hok.fresh<|Pg _
def OH(b:TA):TI:=λσ H R=>b σ H λa c=>∃j:Int,a=[.n j]/\-(2^62)<=j/\j<2^62/\R (Itr 0 j.toNat) c
def OG(b:TA):TI:=λσ H R=>b σ H λa c=>∃i j:Int,a=[.n i,.n j]/\(-(2^62)<=i/\i<2^62/\-(2^62)<=j/\j<2^62)/\R (Itr i (j-i).toNat) c
theorem DC{a:Expr}{p aa:Uq}(b:Gl X "range")(D:X.mg "range"=OZ)(E:PA X [a] i)(G:Po [a] X.e=[(O8,Qz a X.e)]:=by rfl):PI X z (.Call (.Name "range" p) [a] [] aa) (OH i):=by
 intro a_ s σ H R I h;refine Call_<|fR I b D boot_range<|Re (d5 (E aa a_ s σ H _ I h) λM f ⟨S,g,c,r1,u⟩=>?_) G rfl;obtain⟨j,e,u,K,q⟩:=u;subst e;cases r1 with
 |cons r d=>
  cases d;obtain⟨t,rfl⟩:=r;exact call_range_1 (vO c (by lia) (by lia) u K<|by simpa using q)
theorem DB{a b:Expr}{p aa:Uq}(f:Gl X "range")(D:X.mg "range"=OZ)(E:PA X [a,b] n)(G:Po [a,b] X.e=[(O8,Qz a X.e),(O8,Qz b X.e)]:=by rfl)(c:Po [b] X.e=[(O8,Qz b X.e)]:=by rfl):
  PI X z (.Call (.Name "range" p) [a,b] [] aa) (OG n):=by
 intro a_ s σ H R I h;refine Call_ (fR I f D boot_range<|Re (d5 (E aa a_ s σ H _ I h) λV l ⟨Y,m,g,r1,u⟩=>?_) (by rw[G,c])<|by rw[c];rfl);obtain⟨i,j,e,⟨u,K,M,S⟩,q⟩:=u;subst e;cases r1 with
 |cons r d=>
  cases d with
  |cons k d=>
   cases d;obtain⟨t,rfl⟩:=r;obtain⟨o,rfl⟩:=k;exact call_range_2<|vO g u K M S q
def FK(h:TI)(g:TG)(j:TS):TS:=λD σ H=>h σ H λJ k=>∃W:Nat->Nat->St->Hp->Prop,(∃m,W 0 m σ k)/\∀i m σ H,W i m σ H->
 (J.stop i H/\D.nx σ H)\/(J.go i H/\∃N:St->Hp->Prop,(∀b c,N b c->∃f,f<m/\W (i+1) f b c)/\∀x c,J.yld i H x c->g x σ c λd l=>j {D with nx:=N,ct:=N,bk:=D.nx} d l)
noncomputable def mB(c:a0q)(h:Qt):a0b:=c.filterMap λb=>(h.get? b).map λo=>(b,o)
theorem iZ{h:Qt}(c:b∈d)(e:h.get? b=on o):(b,o)∈mB d h:=UL.mpr ⟨b,c,by rw[e];rfl⟩
theorem DJ{h:Qt}{p:O7×QS}(c:p∈mB g h):p.1∈g/\h.get? p.1=on p.2:=by
 obtain⟨b,d,e⟩:=UL.mp c;cases q:h.get? b with
 |none=>rw[q]at e;cases e
 |some o=>
  rw[q]at e;have f:(b,o)=p:=P3 e;subst f;exact⟨d,q⟩
theorem cx.pinned{a_:a0b}{σ:St}{H:Hp}{s:Pe}(I:cx X a_ σ H s)(g:∀b∈k,fM X a_ H b)(h:∀b∈k,∃o,s.heap.get? b=on o/\∀v,o.data≠ .cell v):cx X (a_++mB k s.heap) σ H s:=
 I.pins_of λp i=>(QB.mp i).elim (λz=>I.pin p<|Qg _ z) λz=>by
  obtain⟨c,e⟩:=DJ z;obtain⟨j,f1,f2,_⟩:=g p.1 c;obtain⟨o,f,d⟩:=h p.1 c;rw[e]at f;cases f;exact⟨e,j,f1,f2,d⟩
theorem cx.j6{a_ a:a0b}{σ:St}{H:Hp}{s:Pe}(I:cx X (a_++a) σ H s):cx X a_ σ H s:=I.pins_of λp b=>I.pin p<|Qg _<|RY _ b
theorem bS{aa:Uq}(L:Zw (PM X.p X.w) X.A X.e X.xe)(hc:X.calm=O6)(hi:PI X z iter wi)(hg:PG X z g)(j:PSs X body tb)
  (hs:∀x,Qq iter X.e x=Rz x:=by intro _;rfl):PS X (.For z iter body [] aa) (FK wi g tb):=by
 intro a_ s σ H D I h;refine wpAny_For (d5 (hi a_ s σ H _ I h) λv s1 h1=>d5 h1 λab s2 h2=>?_) hs;obtain⟨it,O,S,J,H2,e,I2,T,Z,f2,W,⟨m0,w0⟩,P⟩:=h2;subst e
 --what stays O6 of the iterator's objects through the loop
 have k:∀{B:Hp},(∀b∈O,B b=OZ)->∀b∈O,fM X a_ B b:=λhn b j=>⟨hn b j,(f2 b j).2⟩;refine codeAny_forLoop_any (λn V=>∃i l B,cx X a_ l B V/\S i V.heap/\(∀b∈O,B b=OZ)/\W i n l B) ?_ m0 ⟨0,σ,H2,I2,Z,λb j=>(f2 b j).1,w0⟩;rintro n s3 ⟨i,p,Y,I3,Q,R,w3⟩;rcases P i n p Y w3 with⟨a,qn⟩|⟨go,N,hN,step⟩
 .refine Ti L (d5 (T.done X rfl rfl rfl hc i a_ s3 p Y X.xe I3 (k R) Q a) λr s4 ⟨t,I4⟩=>?_)
  subst t;exact UX ⟨p,Y,I4,qn⟩
 .refine Ti L (d5 (T.item X rfl rfl rfl hc i a_ s3 p Y X.xe I3 (k R) Q go) λr s4 ⟨u,t,h4⟩=>?_)
  subst t;refine Ti L<|d5 h4 λ_ s5 ⟨x,H5,I5,r5,y5,F,E⟩=>?_;have G:=I5.pinned (k E)<|T.obj _ _ F;refine Ti L<|d5 (hg _ s5 p H5 x u _ G r5<|step x H5 y5) λ_ s6 ⟨K,H6,I6,q6⟩=>?_;refine Ti L<|d5 (j _ s6 K H6 _ I6 q6) λf M C=>?_;have X4:∀{c:St} {q:Hp},cx X (a_++mB O s5.heap) c q M->N c q->∃m,m<n/\∃i l B,cx X a_ l B M/\S i M.heap/\(∀b∈O,B b=OZ)/\W i m l B:=λ{c q} y U=>by
   obtain⟨m',hm,w7⟩:=hN c q U;refine⟨m',hm,i+1,c,q,y.j6,T.keep _ _ _ F λb j o e=>(y.pin (b,o)<|Qg _<|Qg _<|iZ j e).1,λb j=>?_,w7⟩;obtain⟨o,e,d⟩:=T.obj _ _ F b j;exact(y.pin (b,o)<|Qg _<|Qg _<|iZ j e).2.1
  cases f with
  |next=>obtain⟨c,q,y,U⟩:=C;exact X4 y U
  |cont=>obtain⟨c,q,y,U⟩:=C;exact X4 y U
  |brk=>obtain⟨c,q,y,C⟩:=C;exact⟨c,q,y.j6,C⟩
  |ret v=>obtain⟨x7,c,q,y,r7,C⟩:=C;exact⟨x7,c,q,y.j6,r7,C⟩
abbrev R2:=V->V->Hp->VK->Prop
def f_(X:Cx)(f:Pb->Pb->Sem Pb)(r:R2):Prop:=
 ∀(a_:a0b) (s:Pe) (σ:St) (H:Hp) (x y:V) (v u:Pb) (Q:VK),cx X a_ σ H s->aL x v->aL y u->r x y H Q->
  Pq (PM X.p X.w) X.A (f v u) (EP X a_ σ Q) X.xe s
def UnR(X:Cx)(f:Pb->Sem Pb)(r:V->Hp->VK->Prop):Prop:=
 ∀(a_:a0b) (s:Pe) (σ:St) (H:Hp) (x:V) (v:Pb) (Q:VK),cx X a_ σ H s->aL x v->r x H Q->
  Pq (PM X.p X.w) X.A (f v) (EP X a_ σ Q) X.xe s
def dg(X:Cx)(f:Pb)(r:a0G):Prop:=
 ∀(a_:a0b) (s:Pe) (σ:St) (H:Hp) (xs:a0j) (a:a0g) (Q:VK),cx X a_ σ H s->au xs a->r xs H Q->
  Pq (PM X.p X.w) X.A (VI f a) (EP X a_ σ Q) X.xe s
def TruR(X:Cx)(r:V->Hp->(Bool->Hp->Prop)->Prop):Prop:=
 ∀(a_:a0b) (s:Pe) (σ:St) (H:Hp) (x:V) (v:Pb) (Q:a0U),cx X a_ σ H s->aL x v->r x H Q->
  Pq (PM X.p X.w) X.A (truthy v) (TP X a_ σ Q) X.xe s
def tOp(r:R2)(b c:TE):TE:=λσ H Q=>b σ H λx d=>c σ d λy f=>r x y f Q
def tUn(r:V->Hp->VK->Prop)(b:TE):TE:=λσ H Q=>b σ H λx c=>r x c Q
def rI(C:a0V)(g:Int->Int->V):R2:=λx y H Q=>∃i j,x= .n i/\y= .n j/\C i j/\Q (g i j) H
def si(g:Int->Int->V):R2:=λx y H Q=>∃i j,x= .n i/\y= .n j/\Q (g i j) H
def rU(g:Int->V):V->Hp->VK->Prop:=λx H Q=>∃i,x= .n i/\Q (g i) H
end
section
variable{X:Cx}{a b c:Expr}{ta tb tc:TE}{aa:Uq}
theorem Hb(c:PE X a ta)(m:PE X b tb){d:a0b}{s:Pe}{e:St}{H:Hp}{R:V->V->Hp->Prop}(I:cx X d e H s)
  (h:ta e H λx l=>tb e l λy g=>R x y g) {Q:a0d} {f:Pb->Pb->Sem Pb}
  (n:∀v u k x y g,cx X d e g k->aL x v->aL y u->R x y g->Pq (PM X.p X.w) X.A (f v u) Q X.xe k):
  Pq (PM X.p X.w) X.A (Qz a X.e) (λv i=>Pq (PM X.p X.w) X.A (Qz b X.e) (λu j=>Pq (PM X.p X.w) X.A (f v u) Q X.xe j) X.xe i) X.xe s:=by
 refine d5 (c d s e H _ I h) λv o ⟨x,l,p,r1,D⟩=>?_;refine d5 (m d o e l _ p D) λu k ⟨y,g,q,r,E⟩=>?_;exact n v u k x y g q r1 r E
theorem dX(e:f_ X (Sv op) r)(c:PE X a ta)(f:PE X b tb):PE X (.BinOp a op b aa) (tOp r ta tb):=by
 intro d s g H Q I h;exact wpAny_BinOp<|Hb c f I h λv u i x y j k l m q=>e d i g j x y v u Q k l m q
theorem NS(f:UnR X (unaryOp op) r)(b:PE X a ta):PE X (.UnaryOp op a aa) (tUn r ta):=by
 intro d s e H Q I h;exact UnaryOp_<|d5 (b d s e H _ I h) λv g ⟨x,i,j,r1,c⟩=>f d g e i x v Q j r1 c
theorem o1{f:Pb->Pb->Sem Pb}{C:a0V}{g:a0J}
  (d:∀(i j:Int) (t u:Tok) (s:Pe) (Q:a0d) (E:a0d),C i j->Q (.int (g i j) s.toks) {s with toks:=s.toks+1}->Pq (PM X.p X.w) X.A (f (.int i t)<|.int j u) Q E s):
  f_ X f (rI C λi j=> .n<|g i j):=by
 intro e s m H x y v u Q I k l h;obtain⟨i,j,rfl,rfl,hc,q⟩:=h;obtain⟨t,rfl⟩:=k;obtain⟨a,rfl⟩:=l;exact d i j t a s _ _ hc ⟨.n<|g i j,H,I.tok _,⟨_,rfl⟩,q⟩
theorem LR{f:Pb->Pb->Sem Pb}{g:a0J}
  (d:∀(i j:Int) (t u:Tok) (s:Pe) (Q:a0d) (E:a0d),Q (.int (g i j) s.toks) {s with toks:=s.toks+1}->Pq (PM X.p X.w) X.A (f (.int i t)<|.int j u) Q E s):
  f_ X f (si λi j=> .n<|g i j):=by
 intro e s m H x y v u Q I k l h;obtain⟨i,j,rfl,rfl,q⟩:=h;obtain⟨t,rfl⟩:=k;obtain⟨a,rfl⟩:=l;exact d i j t a s _ _ ⟨.n<|g i j,H,I.tok _,⟨_,rfl⟩,q⟩
theorem zh{f:Pb->Pb->Sem Pb}{g:Int->Int->Bool}
  (d:∀(i j:Int) (t u:Tok) (s:Pe) (Q:a0d) (E:a0d),Q (.bool<|g i j) s->Pq (PM X.p X.w) X.A (f (.int i t)<|.int j u) Q E s):
  f_ X f (si λi j=> .c<|g i j):=by
 intro e s m H x y v u Q I k l h;obtain⟨i,j,rfl,rfl,q⟩:=h;obtain⟨t,rfl⟩:=k;obtain⟨a,rfl⟩:=l;exact d i j t a s _ _ ⟨.c<|g i j,H,I,rfl,q⟩
def CDiv(i j:Int):Prop:=0<j/\j<1073741824
def CPow(i j:Int):Prop:=0<=j/\j<=1000000/\i.natAbs<2^64
def Hi(i j:Int):Prop:=(-(2^64)<i/\i<2^64)\/(-(2^64)<j/\j<2^64)
theorem Hi.ok(h:Hi i j):IntMulOk i j:=by
 rcases h with⟨d,e⟩|⟨d,e⟩
 .exact .of_left (intBits_le_64 d e)
 .exact .of_right (intBits_le_64 d e)
theorem qq:f_ X (Sv .Add) (si λi j=> .n<|i+j):=LR λ_ _ _ _ _ _ _ q=>add_int q
theorem ik:f_ X (Sv .Sub) (si λi j=> .n<|i-j):=LR λ_ _ _ _ _ _ _ q=>sub_int q
theorem LN:f_ X (Sv .Mult) (rI Hi λi j=> .n<|i*j):=o1 λ_ _ _ _ _ _ _ hc q=>mul_int q hc.ok
theorem xS:f_ X (Sv .FloorDiv) (rI CDiv λi j=> .n<|i/j):=o1 λi j _ _ _ _ _ hc q=>by
 have d:(0:Int)<j:=hc.1;have e:j<1073741824:=hc.2;exact floordiv_int (by lia) (by rw[UQ i<|by lia];exact q) (.inl<|PyProof.noPylong_small<|by lia)
theorem jG:f_ X (Sv .Mod) (rI (λ_ j=>0<j) λi j=> .n<|i % j):=o1 λi j _ _ _ _ _ hc q=>by
 have d:(0:Int)<j:=hc;exact mod_int' (by lia) (by rw[Int.fmod_eq_emod_of_nonneg i<|by lia];exact q)
theorem LL:f_ X (Sv .Pow) (rI CPow λi j=> .n<|i^j.toNat):=o1 λ_ _ _ _ _ _ _ hc q=>pow_int_small hc.1 hc.2.1 hc.2.2 q
theorem unI{f:Pb->Sem Pb}{g:Int->Int}
  (d:∀(i:Int) (t:Tok) (s:Pe) (Q:a0d) (E:a0d),Q (.int (g i) s.toks) {s with toks:=s.toks+1}->Pq (PM X.p X.w) X.A (f<|.int i t) Q E s):
  UnR X f (rU λi=> .n<|g i):=by
 intro e s k H x v Q I j h;obtain⟨i,rfl,q⟩:=h;obtain⟨t,rfl⟩:=j;exact d i t s _ _ ⟨.n<|g i,H,I.tok _,⟨_,rfl⟩,q⟩
theorem Ky:UnR X (unaryOp .USub) (rU λi=> .n<|-i):=unI λ_ _ _ _ _ q=>neg_int q
noncomputable def FW:V->V->Bool
 | .o,.o=>O6| .o,.n _=>O6| .n _,.o=>O6| .o,.c _=>O6| .c _,.o=>O6| .o,.q _=>O6| .q _,.o=>O6
 | .n _,.n _=>O6| .c _,.c _=>O6| .q _,.q _=>O6
 | .n _,.q _=>O6| .q _,.n _=>O6| .c _,.q _=>O6| .q _,.c _=>O6
 |_,_=>O8
noncomputable def rEq:R2:=λx y H Q=>FW x y=O6/\Q (.c<|decide (x=y)) H
noncomputable def rNe:R2:=λx y H Q=>FW x y=O6/\Q (.c<|!decide (x=y)) H
theorem yn:decide (V.n i=V.n j)=(i==j):=by
 rw[VD];simp
theorem Ic{i j:Bool}:decide (V.c i=V.c j)=(i==j):=by
 rw[VD];simp
theorem ym:decide (V.q i=V.q j)=(i==j):=by
 rw[VD];simp
theorem dt{k d:Bool}(I:cx X f g H s)(q:Q (.c k) H)(e:k=d):EP X f g Q (.bool d) s:=by
 subst e;exact⟨.c k,H,I,rfl,q⟩
theorem NX:f_ X (QX .Eq) rEq:=by
 intro f s g H x y v u Q I e d h;obtain⟨b,q⟩:=h;cases x with
 |o=>
  cases e;cases y with
  |o=>cases d;exact PySem.EqNone.eq_none_none (dt I q<|by simp)
  |c j=>cases d;exact PySem.EqNone.eq_none_bool (dt I q<|by simp)
  |n j=>obtain⟨a,rfl⟩:=d;exact PySem.EqNone.eq_none_int (dt I q<|by simp)
  |q j=>obtain⟨a,rfl⟩:=d;exact PySem.EqNone.eq_none_str (dt I q<|by simp)
  |_=>exact PU (show O8=O6 from b) Pf
 |c i=>
  cases e;cases y with
  |o=>cases d;exact PySem.EqNone.eq_bool_none (dt I q<|by simp)
  |c j=>cases d;exact eq_bool<|dt I q Ic
  |q j=>obtain⟨a,rfl⟩:=d;exact PySem.EqMixed.eq_bool_str (dt I q<|by simp)
  |_=>exact PU (show O8=O6 from b) Pf
 |n i=>
  obtain⟨t,rfl⟩:=e;cases y with
  |o=>cases d;exact PySem.EqNone.eq_int_none (dt I q<|by simp)
  |n j=>obtain⟨a,rfl⟩:=d;exact eq_int<|dt I q yn
  |q j=>obtain⟨a,rfl⟩:=d;exact PySem.EqMixed.eq_int_str (dt I q<|by simp)
  |_=>exact PU (show O8=O6 from b) Pf
 |q i=>
  obtain⟨t,rfl⟩:=e;cases y with
  |o=>cases d;exact PySem.EqNone.eq_str_none (dt I q<|by simp)
  |c j=>cases d;exact PySem.EqMixed.eq_str_bool (dt I q<|by simp)
  |n j=>obtain⟨a,rfl⟩:=d;exact PySem.EqMixed.eq_str_int (dt I q<|by simp)
  |q j=>obtain⟨a,rfl⟩:=d;exact eq_str<|dt I q ym
  |_=>exact PU (show O8=O6 from b) Pf
 |_=>cases y<;>exact PU (show O8=O6 from b) Pf
theorem NV:f_ X (QX .NotEq) rNe:=by
 intro f s g H x y v u Q I e d h;obtain⟨b,q⟩:=h;cases x with
 |o=>
  cases e;cases y with
  |o=>cases d;exact PySem.EqNone.ne_none_none (dt I q<|by simp)
  |c j=>cases d;exact PySem.EqNone.ne_none_bool (dt I q<|by simp)
  |n j=>obtain⟨a,rfl⟩:=d;exact PySem.EqNone.ne_none_int (dt I q<|by simp)
  |q j=>obtain⟨a,rfl⟩:=d;exact PySem.EqNone.ne_none_str (dt I q<|by simp)
  |_=>exact PU (show O8=O6 from b) Pf
 |c i=>
  cases e;cases y with
  |o=>cases d;exact PySem.EqNone.ne_bool_none (dt I q<|by simp)
  |c j=>cases d;exact ne_bool<|dt I q<|QG not Ic
  |q j=>obtain⟨a,rfl⟩:=d;exact PySem.EqMixed.ne_bool_str (dt I q<|by simp)
  |_=>exact PU (show O8=O6 from b) Pf
 |n i=>
  obtain⟨t,rfl⟩:=e;cases y with
  |o=>cases d;exact PySem.EqNone.ne_int_none (dt I q<|by simp)
  |n j=>obtain⟨a,rfl⟩:=d;exact ne_int<|dt I q<|QG not yn
  |q j=>obtain⟨a,rfl⟩:=d;exact PySem.EqMixed.ne_int_str (dt I q<|by simp)
  |_=>exact PU (show O8=O6 from b) Pf
 |q i=>
  obtain⟨t,rfl⟩:=e;cases y with
  |o=>cases d;exact PySem.EqNone.ne_str_none (dt I q<|by simp)
  |c j=>cases d;exact PySem.EqMixed.ne_str_bool (dt I q<|by simp)
  |n j=>obtain⟨a,rfl⟩:=d;exact PySem.EqMixed.ne_str_int (dt I q<|by simp)
  |q j=>obtain⟨a,rfl⟩:=d;exact ne_str<|dt I q<|QG not ym
  |_=>exact PU (show O8=O6 from b) Pf
 |_=>cases y<;>exact PU (show O8=O6 from b) Pf
theorem n5:f_ X (QX .Lt) (si λi j=> .c<|decide (i<j)):=zh λ_ _ _ _ _ _ _ q=>lt_int q
theorem kj:f_ X (QX .LtE) (si λi j=> .c<|decide (i<=j)):=zh λ_ _ _ _ _ _ _ q=>le_int q
theorem iY:f_ X (QX .Gt) (si λi j=> .c<|decide (j<i)):=zh λ_ _ _ _ _ _ _ q=>gt_int q
theorem NW:f_ X (QX .GtE) (si λi j=> .c<|decide (j<=i)):=zh λ_ _ _ _ _ _ _ q=>ge_int q
theorem vX:f_ X (QX .Is) (λx y H Q=>y= .o/\Q (.c<|decide (x= .o)) H):=by
 intro d s g H x y v u Q I e f h;obtain⟨rfl,q⟩:=h;cases f;refine is_none_gen<|dt I q ?_;cases x<;>first
  |(cases e;rfl)
  |(obtain⟨t,rfl⟩:=e;rfl)
theorem f_.or(h:f_ X f r)(a:f_ X f j):f_ X f (λx y H Q=>r x y H Q\/j x y H Q):=by
 intro d s e H x y v u Q I g i q;rcases q with q|q
 .exact h d s e H x y v u Q I g i q
 .exact a d s e H x y v u Q I g i q
theorem v4(b:Expr)(h:op≠ .In:=by decide)(d:op≠ .NotIn:=by decide):UE op b=O8:=by
 have e:(op==CmpOp.In)=O8:=by cases op<;>first|rfl|exact PU rfl h
 have f:(op==CmpOp.NotIn)=O8:=by cases op<;>first|rfl|exact PU rfl d
 cases b<;>simp[UE,e,f]
theorem JC(e:f_ X (QX op) r)(c:PE X a ta)(f:PE X b tb)(D:UE op b=O8):PE X (.Compare a [op] [b] aa) (tOp r ta tb):=by
 intro d s g H Q I h;exact wpAny_Compare1 (Hb c f I h λv u i x y j k l m q=>e d i g j x y v u Q k l m q) D
def yI(t:TE):TT:=λd H Q=>t d H λx e=>∃k,x= .c k/\Q k e
theorem xK(g:f_ X (QX op) r)(D:PE X a ta)(i:PE X b tb)(E:UE op b=O8):PT X (.Compare a [op] [b] aa) (yI<|tOp r ta tb):=by
 intro d s f H Q I h;refine wpAny_isTrue_Compare1 (d5 (D d s f H _ I h) λv j ⟨x,l,m,r1,G⟩=>d5 (i d j f l _ m G) λu n ⟨y,o,p,q,K⟩=>
  d5 (g d n f o x y v u _ p r1 q K) λc B ⟨z,t,w,A,k,e,M⟩=>?_) E
 subst e;cases A;exact QR ⟨t,w,M⟩
def BK(r f:R2)(ta tb tc:TE):TE:=λd H Q=>ta d H λx g=>tb d g λy h=>r x y h λz e=>∃k,z= .c k/\
 (if k=O6 then tc d e λi j=>f y i j Q else Q (.c O8) e)
theorem F7(n:f_ X (QX op) r)(i:f_ X (QX op') r')(E:PE X a ta)(o:PE X b tb)(hc:PE X c tc)
  (G:ZI [op,op'] [b,c]=O8:=by with_unfolding_all rfl):PT X (.Compare a [op,op'] [b,c] aa) (yI<|BK r r' ta tb tc):=by
 intro f s g H Q I h;refine isTrue_chain (d5 (E f s g H _ I h) λv p ⟨x,q,t,r1,K⟩=>test_link (d5 (o f p g q _ t K) λu w ⟨y,A,B,j,M⟩=>
  d5 (n f w g A x y v u _ B r1 j M) λd C ⟨z,l,m,F,k,e,D⟩=>?_)) G
 subst e;cases F;refine QR ?_;cases k with
 |false=>
  obtain⟨k',J,S⟩:=D;cases J;exact ite_ff ⟨l,m,S⟩
 |true=>
  refine ite_tt<|test_last<|d5 (hc f C g l _ m D) λL N ⟨O,P,R,T,V⟩=>d5 (i f N g P y O u L _ R j T V) λd' s5 ⟨z2,U,W,Y,k2,Z,q5⟩=>?_;subst Z;cases Y;exact QR ⟨U,W,q5⟩
def He(K:Pz)(x:V)(H:Hp)(k:Bool):Prop:=
 match x with
 | .o=>k=O8
 | .c b=>k=b
 | .n i=>k=(i !=0)
 | .q y=>y.length<=Ps/\k=((y.length:Int) !=0)
 | .r p=>(∃a,eX K H p a/\k=!a.isEmpty)\/∃a,iv K H p a/\k=!a.isEmpty
 |_=>False
theorem qF(r:au e d):(!d.toArray.isEmpty)=!e.isEmpty:=by
 cases r<;>simp
theorem mK:(Ps:Nat)<2^63:=by rw[RI];decide
theorem KA:TruR X (λx H Q=>∃k,He X.K x H k/\Q k H):=by
 intro l s n H x v Q I f h;obtain⟨k,e,q⟩:=h;have o:=mK;have E:Ps=16777216:=RI;cases x with
 |o=>
  cases f;have d:k=O8:=e;subst d;exact truthy_none ⟨H,I,q⟩
 |c b=>
  cases f;have d:k=b:=e;subst d;exact QR ⟨H,I,q⟩
 |n i=>
  obtain⟨t,rfl⟩:=f;have d:k=(i !=0):=e;subst d;exact PySem.P.truthy_int ⟨H,I,q⟩
 |q y=>
  obtain⟨t,rfl⟩:=f;obtain⟨u,d⟩:y.length<=Ps/\k=((y.length:Int) !=0):=e;subst d;exact PySem.P.truthy_str (by lia) ⟨H,I.tok _,q⟩
 |r p=>
  cases f;have d:(∃a,eX X.K H p a/\k=!a.isEmpty)\/∃a,iv X.K H p a/\k=!a.isEmpty:=e;rcases d with⟨a,j,d⟩|⟨a,j,d⟩
  .subst d
   obtain⟨c,r,D,m⟩:=I.list j;have g:=r.length;exact wpAny_truthy_list D.isList (by simp only[PH];lia) ⟨H,I.tok _,by rw[qF r];exact q⟩
  .subst d
   obtain⟨c,r,D,m⟩:=I.tuple j;have g:=r.length;exact truthy_tuple D (by simp only[PH];lia) ⟨H,I.tok _,by rw[qF r];exact q⟩
 |_=>exact(show False from e).elim
theorem F6(b:PE X a ta)(i:∀d,isTrue a X.e d=(do let v <-d;SJ a.pos;TR [v] (truthy v))):
  PT X a (λf H Q=>ta f H λx g=>∃k,He X.K x g k/\Q k g):=by
 intro e s f H Q I h;exact isTrue_plain (d5 (b e s f H _ I h) λv j ⟨x,l,m,r1,c⟩=>KA e j f l x v Q m r1 c)<|i _
theorem k8(r:au [x] e):∃u,e=[u]/\aL x u:=by
 cases r with
 |cons r1 d=>cases d;exact⟨_,rfl,r1⟩
theorem ux(r:au [x,y] h):∃u d,h=[u,d]/\aL x u/\aL y d:=by
 cases r with
 |cons r1 e=>
  cases e with
  |cons f g=>cases g;exact⟨_,_,rfl,r1,f⟩
theorem pL:dg X (.builtin "abs") (λxs H Q=>∃i,xs=[.n i]/\Q (.n (if i<0 then -i else i)) H):=by
 intro d s e H xs a Q I r h;obtain⟨i,rfl,q⟩:=h;obtain⟨u,rfl,t,rfl⟩:=k8 r;exact call_abs_int λu f=>⟨.n (if i<0 then -i else i),H,I.tok _,⟨_,rfl⟩,q⟩
theorem Fa(hc:X.calm=O6):dg X (.builtin "max") (λa H Q=>∃i j,a=[.n i,.n j]/\Q (.n (if j>i then j else i)) H):=by
 intro e s f H a b Q I r h;obtain⟨i,j,rfl,q⟩:=h;obtain⟨u,g,rfl,⟨t,rfl⟩,⟨c,rfl⟩⟩:=ux r;refine max_two_ints (I.ok.hd hc) λD l k=>⟨_,H,I.kept k,?_,q⟩;by_cases d:j>i
 .rw[Pc d,Pc d];exact⟨_,rfl⟩
 .rw[Pd d,Pd d];exact⟨_,rfl⟩
theorem uh(hc:X.calm=O6):dg X (.builtin "min") (λa H Q=>∃i j,a=[.n i,.n j]/\Q (.n (if j<i then j else i)) H):=by
 intro e s f H a b Q I r h;obtain⟨i,j,rfl,q⟩:=h;obtain⟨u,g,rfl,⟨t,rfl⟩,⟨c,rfl⟩⟩:=ux r;refine min_two_ints (I.ok.hd hc) λD l k=>⟨_,H,I.kept k,?_,q⟩;by_cases d:j<i
 .rw[Pc d,Pc d];exact⟨_,rfl⟩
 .rw[Pd d,Pd d];exact⟨_,rfl⟩
structure w_ (h:Qt) (x dx C:O7) (mA:a0i):Prop where
 obj:h.get? x=on (WN C dx)
 ns:h.Ns1 dx mA
 ne:dx≠x
theorem DV{h:Qt}(n:h.Ns1 l mA):∃f,h.get? l=on f/\∀b,lookIn b f=on (mA b):=by
 obtain⟨o,c,G,g,D,i,_,E⟩:=n;refine⟨o,g,λb=>?_⟩;have e:=E b;unfold nsFind findBy at e;rw[<-Array.find?_toList]at e;unfold lookIn;rw[D]
 dsimp only
 split
 .rename_i y q
  rw[q]at e;exact QG on e
 .rename_i q
  rw[q]at e;have a:c.toList.any (·.refKey)=O8:=by
   rw[ZO];intro y j;obtain⟨z,t,d⟩:=i y<|Array.mem_toList_iff.mp j;simp[DictEntry.refKey,d]
  have k:¬c.toList.any (·.refKey)=O6:=by rw[a];exact Pf
  rw[Pd k];exact QG on e
theorem w_.f5(I:w_ h x e C mA):∃d,PySem.W.InstAt h x (WN C e) C (on d)/\∀a,lookIn a d=on (mA a):=
 let ⟨d,ho,hl⟩:=DV I.ns
 ⟨d,⟨I.obj,rfl,rfl,ho⟩,hl⟩
variable{z:P6}{w:Qb}{A:Qy}{E:a0d}{s:Pe}{K:Pz}{x N C f:O7}{L:a0i}{c:Qa}{v:Pb}
theorem J4{d:Bool}(X:K.In s.heap)(I:w_ s.heap x N C L)(g:plainGet K C c=O6)(i:hasDictIn K C=O6)
  (a:RN K (.ref C) c=on OZ) (j:L c=on v) (e:Zd v=O6) (h:Q v {s with toks:=s.toks+1}):
  Pq (PM z w) A (getAttr (.ref x) c d) Q E s:=by
 obtain⟨l,J,k⟩:=I.f5;exact PySem.W.get_value X J (plainGet_of g).1 (PySem.W.findObj_own i a rfl<|by rw[k,j]) e h
theorem GX(X:K.In s.heap)(I:w_ s.heap x N C L)(d:plainGet K C c=O6)
  (e:RN K (.ref C) c=on (on<|.ref f)) (g:isFn K (.ref f)=O6) (i:L c=OZ) (h:Q (.ref f,[.ref x]) s):
  Pq (PM z w) A (Vf (.ref x) c l) Q E s:=by
 obtain⟨j,J,k⟩:=I.f5;exact PySem.W.method_fn X J (plainGet_of d).1 (plainGet_of d).2 e (beq_iff_eq.mp g) (by show(lookIn c j).map (·.isSome)=on O8;rw[k,i];rfl) h
theorem Jh{D:a0h}(X:K.In s.heap)(I:w_ s.heap x N C L)
  (G:RN K (.ref C) "__setattr__"=on (on<|.builtin "object.__setattr__")) (l:YX K C=O6) (m:takerIn K C c=on OZ) (n:hasDictIn K C=O6)
  (o:SR L D) (p:VX D<=Ps)
  (h:∀f,w_ f x N C (λy=>if y=c then on v else L y)->P7 N s.heap f->Q () {s with heap:=f,toks:=s.toks+2}):
  Pq (PM z w) A (Z4 (.ref x) c v) Q E s:=by
 obtain⟨B,J,F⟩:=I.f5;refine PySem.W.set_plain X J G<|PySem.W.osa_open (s:={s with toks:=s.toks+1}) (r:=OZ) X J l m λb=>?_;obtain⟨M,hc,g⟩:=PySem.W.any_some n;have q:s.heap.get? x=on ⟨.ref C,on N,.plain,#[]⟩:=I.obj;refine My<|O0<|My<|My<|WE q<|My<|Vw (s:={s with toks:=s.toks+1}) (X5 X hc) ?_;rw[g];refine O0 (a:=on N)<|My<|O0<|My ?_;refine Z7 (s:={s with toks:=s.toks+1}) I.ns λf d e=>?_;obtain⟨H,t,u,i,j,k⟩:=d.count<|VQ c v o;refine My<|XS i (by rw[j];exact XQ<|Pk k<|by rw[Pt];lia) ?_;exact O0<|h _ ⟨(e.2 _<|Ne.symm I.ne).trans I.obj,d,I.ne⟩ e
theorem GA(X:K.In s.heap)(b:Zz K C=O6)
  (e:RN K (.ref C) "__init__"=on (on<|.ref f)) (i:PySem.W.typeIn K (.ref f)=on (.type "function"))
  (h:SW (PM z w) (A.under<|.builtin "type.__call__" ⟨.ref C::k,kw⟩) (.call (.ref f) ⟨.ref (s.heap.objs.size+1)::k,kw⟩) (PySem.W.InitBack (s.heap.objs.size+1) R)
   {s with heap:=(s.heap.push UB).push (WN C s.heap.objs.size)}):
  SW (PM z w) A (.call (.ref C) ⟨k,kw⟩) R s:=by
 obtain⟨j,g,d,t,c⟩:=s;exact PySem.W.make_core (PySem.W.makes_of X b) (Xp X e) (λa=>Zx X a i) (.inl rfl) h
noncomputable def dP(f:Qa)(v:V):a0B->a0B
 |[]=>[(f,v)]
 |(g,x)::r=>if g=f then(g,v)::r else(g,x)::dP f v r
theorem oS(f g:Qa)(v:V):∀a:a0B,(dP f v a).lookup g=if g=f then on v else a.lookup g
 |[]=>by
  show Um g [(f,v)]=_;by_cases h:g=f
  .have d:(g==f)=O6:=beq_iff_eq.mpr h
   simp only[Um,d,Pc h]
  .have d:(g==f)=O8:=beq_eq_false_iff_ne.mpr h
   simp only[Um,d,Pd h]
 |(k,x)::r=>by
  have b:=oS f g v r;rw[show dP f v ((k,x)::r)=(if k=f then(k,v)::r else(k,x)::dP f v r)from rfl];by_cases i:k=f
  .rw[Pc i]
   by_cases h:g=k
   .have d:(g==k)=O6:=beq_iff_eq.mpr h
    simp only[Um,d,Pc<|h.trans i]
   .have d:(g==k)=O8:=beq_eq_false_iff_ne.mpr h
    simp only[Um,d,Pd (λe:g=f=>h<|e.trans i.symm)]
  .rw[Pd i]
   by_cases h:g=k
   .have d:(g==k)=O6:=beq_iff_eq.mpr h
    simp only[Um,d,Pd (λe:g=f=>i<|h.symm.trans e)]
   .have d:(g==k)=O8:=beq_eq_false_iff_ne.mpr h
    simp only[Um,d];exact b
theorem mQ(f:Qa)(v:V):∀a:a0B,f∈(dP f v a).map (·.1)/\∀g,g∈a.map (·.1)->g∈(dP f v a).map (·.1)
 |[]=>⟨by simp[dP],λg h=>by simp at h⟩
 |(k,x)::r=>by
  obtain⟨i,j⟩:=mQ f v r;rw[show dP f v ((k,x)::r)=(if k=f then(k,v)::r else(k,x)::dP f v r)from rfl];by_cases d:k=f
  .rw[Pc d]
   subst d;exact⟨by simp,λg h=>by simpa using h⟩
  .rw[Pd d]
   refine⟨?_,λg h=>?_⟩
   .rw[Pi]
    exact O1 _ i
   .rw[Pi]at h⊢
    rcases Pr.mp h with e|e
    .exact Pr.mpr (.inl e)
    .exact O1 _ (j g e)
theorem oU(f:Qa)(v:V):∀a:a0B,VX (dP f v a)<=VX a+1
 |[]=>by simp[dP]
 |(k,x)::r=>by
  have b:=oU f v r;rw[show dP f v ((k,x)::r)=(if k=f then(k,v)::r else(k,x)::dP f v r)from rfl];by_cases d:k=f
  .rw[Pc d,Pt,Pt];lia
  .rw[Pd d,Pt,Pt];lia
theorem gJ.j6{v:V}(r:gJ (on v) o):∃u,o=on u/\aL v u:=by
 cases o with
 |none=>exact(show False from r).elim
 |some u=>exact⟨u,rfl,r⟩
theorem gJ.f5(r:gJ OZ o):o=OZ:=by
 cases o with
 |none=>rfl
 |some u=>exact(show False from r).elim
theorem EH{v:V}(r:aL v u):Zd u=O6:=by
 cases v with
 |o=>cases(show u=Qn from r);rfl
 |c b=>cases(show u=Wl b from r);rfl
 |n i=>obtain⟨t,e⟩:=(show ∃t,u=Tp i t from r);cases e;rfl
 |q x=>obtain⟨t,e⟩:=(show ∃t,u=Z1 x t from r);cases e;rfl
 |r a=>cases(show u=Pw a from r);rfl
 |ty n=>cases(show u=SC n from r);rfl
end
section
variable{P:P6}{w:Qb}{H l:Hp}{h h':Qt}{a C dx:O7}{N n:a0B}
theorem kR(l:k_ P w H h)(e:H a=on (.ins C dx N)):∃b,w_ h a dx C b/\(∀f,gJ (N.lookup f)<|b f)/\SR b (N.map (·.1))/\VX N<=1000/\H dx=on (.u a):=by
 obtain⟨d,z,D,c,b,n,r,q⟩:=(show bC P w H h a (.ins C dx N)from l a _ e);exact⟨b,⟨c,n,D⟩,r,q,z,d⟩
structure u0 (K:Pz) (C:O7):Prop where
 pg:plainGet K C Ta=O6
 hd:hasDictIn K C=O6
 po:YX K C=O6
 sa:RN K (.ref C) "__setattr__"=on (on<|.builtin "object.__setattr__")
theorem u0.get{K:Pz}{C:O7}(c:u0 K C)(f:Qa):plainGet K C f=O6:=c.pg
def eA(K:Pz)(C:O7)(f:Qa):Prop:=RN K (.ref C) f=on OZ
theorem eA.f5{K:Pz}{C:O7}(n:eA K C f):takerIn K C f=on OZ:=by
 unfold takerIn;rw[show RN K (.ref C) f=on OZ from n];rfl
structure oD (K:Pz) (C:O7) (m:Qa) (f:O7):Prop where
 at_:RN K (.ref C) m=on (on<|.ref f)
 fn:isFn K (.ref f)=O6
 kp:Vo K (.ref f)=O6
variable{X:Cx}{R:a0b}{L:St}{s:Pe}{f:Qa}{v:V}{A:Qy}{E:a0d}
theorem zS{b:Bool}(I:cx X R L H s)(e:H a=on (.ins C dx N))(c:u0 X.K C)(n:eA X.K C f)(l:N.lookup f=on v)
  (h:∀u D,cx X R L H D->aL v u->Q u D):Pq (PM X.p X.w) A (getAttr (.ref a) f b) Q E s:=by
 obtain⟨g,O,r,_,_,_⟩:=kR I.hok e;obtain⟨u,i,d⟩:=gJ.j6 (v:=v) (o:=g f) (by rw[<-l];exact r f);exact J4 I.kIn O (c.get f) c.hd n i (EH d)<|h u _ (I.tok _) d
theorem qN(I:cx X R L H s)(e:H a=on (.ins C dx N))(c:u0 X.K C)(k:oD X.K C m g)(l:N.lookup m=OZ)
  (h:Q (.ref g,[.ref a]) s):Pq (PM X.p X.w) A (Vf (.ref a) m pl) Q E s:=by
 obtain⟨b,O,r,_,_,_⟩:=kR I.hok e;have f:b m=OZ:=gJ.f5 (by rw[<-l];exact r m);exact GX I.kIn O (c.get m) k.at_ k.fn f h
theorem yT(I:cx X R L H s)(e:H a=on (.ins C dx N))(c:u0 X.K C)(n:eA X.K C f)(F:VX N<1000)(l:aL y u)
  (h:∀v,cx X R L (upd H a<|.ins C dx<|dP f y N) v->Q () v):Pq (PM X.p X.w) A (Z4 (.ref a) f u) Q E s:=by
 obtain⟨i,O,r,j,_,k⟩:=kR I.hok e;have m:VX (N.map (·.1))<=Ps:=by rw[OY,RI];lia
 refine Jh I.kIn O c.sa c.po n.f5 c.hd j m λh' d p=>h _ ?_;have D:∃o,h'.get? dx=on o:=let ⟨o,_,_,e',_⟩:=d.ns;⟨o,e'⟩
 refine I.write (x:=a) (e:=dx) (by rw[e];exact SV) (.inr k) (λb q t z=>(p.2 b t).trans z) D ?_;refine⟨by rw[bb O.ne];exact k,?_,O.ne,d.obj,_,d.ns,λg=>?_,λg B=>?_⟩
 .have:=oU f y N;lia
 .show gJ ((dP f y N).lookup g) (if g=f then on u else i g)
  rw[oS];by_cases q:g=f
  .rw[Pc q,Pc q];exact l
  .rw[Pd q,Pd q];exact r g
 .by_cases q:g=f
  .rw[q];exact(mQ f y N).1
  .refine(mQ f y N).2 g (j g λz=>B ?_)
   show(if g=f then on u else i g)=OZ;rw[Pd q];exact z
theorem cx.made(I:cx X R L H s):cx X R L (upd (upd H s.heap.objs.size<|.u<|s.heap.objs.size+1) (s.heap.objs.size+1)<|.ins C s.heap.objs.size [])
  {s with heap:=(s.heap.push UB).push (WN C s.heap.objs.size)}:=by
 have c:(s.heap.push UB).get? s.heap.objs.size=on UB:=Px s.heap rfl;have d:((s.heap.push UB).push<|WN C s.heap.objs.size).get? (s.heap.objs.size+1)=on (WN C s.heap.objs.size):=by
  have:=Px (s.heap.push UB) (o:=WN C s.heap.objs.size) rfl;rwa[QZ]at this
 have g:(s.heap.push UB).Ns s.heap.objs.size (λ_=>OZ):=⟨UB,#[],_,c,rfl,(λe i=>PU i<|by simp),λ_=>rfl⟩;have j:=I.laid (a:=s.heap.objs.size) (o:= .u<|s.heap.objs.size+1) (h':=s.heap.push UB) (t':=s.toks) (λb u q=>O3 _ q) (Pg _) ⟨_,c⟩;refine j.laid (a:=s.heap.objs.size+1) (o:= .ins C s.heap.objs.size []) (t':=s.toks) (λb u q=>O3 _ q) (Yu<|QZ _ _) ?_;have f:s.heap.objs.size≠s.heap.objs.size+1:=Qm<|Vv _;refine⟨by rw[bb f,aj],Qk _,f,d,λ_=>OZ,(Yp g).at λo q=>O3 _ q,λ_=>SV,λy k=>PU rfl k⟩
theorem Kl{w:Qb}{f:Qa}{s:Pe}(c:T7 e f d (Qz e d)=Qz e d)
  (h:Pq (PM prog w) A (Qz e d) (λo b=>Pq (PM prog w) A (getAttr o f O6) Q E b) E s):Pq (PM prog w) A (Qz (.Attribute e f g) d) Q E s:=
 Attribute_any_ h (by rw[arm_eval_Attribute,c])
def tFld(K:Pz)(c:TE)(f:Qa):TE:=λL H Q=>c L H λx b=>∃a C dx N v,x= .r a/\b a=on (.ins C dx N)/\u0 K C/\eA K C f/\N.lookup f=on v/\Q v b
def K8(K:Pz)(c d:TE)(f:Qa):TS:=λD L H=>d L H λy e=>c L e λx b=>∃a C dx N,x= .r a/\b a=on (.ins C dx N)/\u0 K C/\eA K C f/\VX N<1000/\
 D.nx L (upd b a<|.ins C dx<|dP f y N)
variable{o e v:Expr}{O T d:Uq}{z U:TE}
theorem LF(b:PE X e z)(d:T7 e f X.e (Qz e X.e)=Qz e X.e):PE X (.Attribute e f O) (tFld X.K z f):=by
 intro R s L H Q I h;refine Kl d<|d5 (b R s L H _ I h) λu r ⟨x,g,i,j,a,C,dx,N,v,o,k,c,n,l,q⟩=>?_;subst o;obtain rfl:u=Pw a:=j;exact zS i k c n l λt y m p=>⟨v,g,m,p,q⟩
theorem qp(e:PE X o z)(b:PE X v U)(w:TU v (on<|.Attribute o f T) O.line X.e=Rz O8):PS X (.Assign [.Attribute o f T] v O) (K8 X.K z U f):=by
 intro R s L H D I h;refine Us (d5 (b R s L H _ I h) λu d ⟨y,g,i,j,q⟩=>d5 (e R d L g _ i q) λk B ⟨x,F,m,p,a,C,dx,N,A,r,c,n,l,E⟩=>?_) w;subst A;obtain rfl:k=Pw a:=p;exact yT m r c n l j λJ t=>⟨L,_,t,E⟩
variable{Q:a0d}{c:Pb}{b:Bool}
inductive n_ (K:Pz) (H:Hp):V->Pb->Prop where
 |o:n_ K H .o (.type "NoneType")
 |c (x:Bool):n_ K H (.c x) (.type "bool")
 |n (i:Int):n_ K H (.n i) (.type "int")
 |q (x:Qa):n_ K H (.q x) (.type "str")
 |l {a:O7} {xs:a0j} (e:H a=on (.l xs)):n_ K H (.r a) (.type "list")
 |frz {a:O7} {o:QS} {xs:a0j} (e:H a=on (.frz o (.l xs))):n_ K H (.r a) (.type "list")
 |t {a:O7} {xs:a0j} (e:H a=on (.t xs)):n_ K H (.r a) (.type "tuple")
 |ins {a C dx:O7} {N:a0B} (e:H a=on (.ins C dx N)) (cl:u0 K C) (ha:RN K (.ref C) "__class__"=on (on (.builtin "object.__class__")))
  (hn:specialIn K (.builtin "object.__class__") "__get__"=on (on<|.builtin "getset_descriptor.__get__")) (htk:ZA K (.builtin "object.__class__")=on O6)
  (hm:mroIn K C (.type "object")=on O6):n_ K H (.r a)<|.ref C
theorem EB(I:cx X R L H s)(d:aL x u)(f:n_ X.K H x t)(e:kitOne X.K t c=on b)(h:∀j,Q (.bool b) {s with toks:=j}):
  Pq (PM X.p X.w) A (VI (.builtin "isinstance") [u,c]) Q E s:=by
 cases f with
 |o=>cases(show u=Qn from d);exact Vz YW I.kIn SV e (λz=>nomatch z) h
 |c y=>cases(show u=Wl y from d);exact Vz YV I.kIn SV e (λz=>nomatch z) h
 |n i=>obtain⟨t,q⟩:=(show ∃t,u=Tp i t from d);cases q;exact Vz Ze I.kIn SV e (λz=>nomatch z) h
 |q y=>obtain⟨t,q⟩:=(show ∃t,u=Z1 y t from d);cases q;exact Vz Zg I.kIn SV e (λz=>nomatch z) h
 |@l a xs ea=>
  cases(show u=Pw a from d);obtain⟨_,_,n,_,g⟩:=(show bC X.p X.w H s.heap a (.l xs)from I.hok a _ ea);exact Vz WO I.kIn ⟨_,g,rfl⟩ e (λz=>nomatch z) h
 |@frz a ob xs ea=>
  cases(show u=Pw a from d);obtain⟨_,_,_,n,_,g⟩:=(show bC X.p X.w H s.heap a (.frz ob<|.l xs)from I.hok a _ ea);exact Vz WO I.kIn ⟨_,g,rfl⟩ e (λz=>nomatch z) h
 |@t a xs ea=>
  cases(show u=Pw a from d);obtain⟨_,_,_,p⟩:=(show bC X.p X.w H s.heap a (.t xs)from I.hok a _ ea);obtain⟨o,g,k,_⟩:=p;exact Vz YI I.kIn ⟨o,g,k⟩ e (λz=>nomatch z) h
 |@ins a C dx N ea cl ha hn htk hm=>
  cases(show u=Pw a from d);obtain⟨l,O,_⟩:=kR I.hok ea;obtain⟨m,J,_⟩:=O.f5;exact Vz (Zf (cl.get _) cl.hd ha hn htk hm) I.kIn J e (λz=>nomatch z) h
structure ee (k:Nat) (A:Qy):Prop where
 hd:A.handled=OZ
 dp:A.depth+3*k+5<recursionLimit
 un:A.units+16*k+200<Uu
 gd:A.guards=on []
theorem ee.mono{A:Qy}(r:ee k A)(h:j<=k):ee j A:=⟨r.hd,by have:=r.dp;lia,by have:=r.un;lia,r.gd⟩
theorem ee.deeper{A:Qy}(r:ee (k+1) A)(a:WY):ee k (A.deeper a):=
 ⟨r.hd,by have:=r.dp;show A.depth+1+3*k+5<_;lia,by have:=r.un;show A.units+3+16*k+200<_;lia,r.gd⟩
theorem zA{A:Qy}{C:O7}:(A.under<|.builtin "type.__call__" ⟨.ref C::g,kw⟩).depth=A.depth+1:=by
 first|rfl|simp[Wo,Code.weight,Code.isCreation,Code.isGuard,Code.isCaller,Code.frames,Yj,guardIds]
theorem zy{A:Qy}{C:O7}:(A.under<|.builtin "type.__call__" ⟨.ref C::g,kw⟩).units=A.units+1:=by
 first|rfl|simp[Wo,Code.cUnits,Code.frames,Yj]
theorem ee.make{A:Qy}(r:ee (k+1) A)(C:O7)(a:a0g)(d:List<|Qa×Pb):ee k (A.under<|.builtin "type.__call__" ⟨.ref C::a,d⟩):=
 ⟨r.hd,by have:=r.dp;rw[zA];lia,by have:=r.un;rw[zy];lia,by first|exact r.gd|simp[Wo,Code.guards,Code.isGuard,guardIds,pushGuards,r.gd]⟩
theorem ee.j6{A:Qy}(r:ee k A):A.depth<recursionLimit:=by have:=r.dp;lia
theorem ee.f5{A:Qy}(r:ee k A):A.units+64<Uu:=by have:=r.un;lia
noncomputable def FJ:TA:=λ_ H Q=>Q [] H
def HA(z:TE)(a:TA):TA:=λL H Q=>z L H λx d=>a L d λb g=>Q (x::b) g
variable{a:List Expr}{c:TE}{t:TA}
theorem eZ:PA X [] FJ:=λ_ _ _ _ H Q I h=>Zq ⟨[],H,I,.nil,h⟩
theorem cg(b:PE X e c)(d:PA X a t)(f:b0a X e a:=by rfl):PA X (e::a) (HA c t):=by
 intro O R s L H Q I h;rw[f];show Pq _ _ (spliced<|(O8,Qz e X.e)::Ry O (Po a X.e)) _ _ s;refine Y2<|d5 (b R s L H _ I h) λu g ⟨x,i,j,r1,o⟩=>?_;exact d5 (d O R g L i _ j o) λz n ⟨v,k,l,m,w⟩=>⟨x::v,k,l,.cons r1 m,w⟩
def tTup(t:TA):TE:=λL H Q=>t L H λa d=>VX a<=Ps/\∀p,d p=OZ->Q (.r p) (upd d p<|.t a)
def KI(t:TA):TE:=λL H Q=>t L H λa d=>VX a<=Ps/\∀p,d p=OZ->Q (.r p) (upd d p<|.l a)
theorem LA{m}(h:PA X a t):PE X (.Tuple a m O) (tTup t):=by
 intro R s L H Q I j;refine wpAny_Tuple_spliced<|d5 (h O R s L H _ I j) λc d ⟨f,g,i,r,z,q⟩=>⟨by rw[<-r.length];exact z,?_⟩;have k:g d.heap.objs.size=OZ:=i.hok.fresh<|Pg _;refine⟨.r d.heap.objs.size,upd g d.heap.objs.size<|.t f,i.laid (t':=d.toks) (λb u e=>O3 _ e) (Pg _) ?_,rfl,q _ k⟩;exact⟨z,c,r,⟨_,Px _ rfl,rfl,_,rfl⟩⟩
theorem jF(h:PA X a t):PE X (.List a O) (KI t):=by
 intro R s L H Q I j;refine wpAny_List_spliced<|d5 (h O R s L H _ I j) λc d ⟨f,g,i,r,z,q⟩=>⟨by rw[<-r.length];exact z,?_⟩;have k:g d.heap.objs.size=OZ:=i.hok.fresh<|Pg _;refine⟨.r d.heap.objs.size,upd g d.heap.objs.size<|.l f,i.laid (t':=d.toks) (λb u e=>O3 _ e) (Pg _) ?_,rfl,q _ k⟩;exact⟨z,c,0,r,Px _ rfl⟩
abbrev Sp:=a0j->Hp->VK->XK->Prop
abbrev O_:=a0D->Hp->Pe->XK->Pb->Pe->Prop
structure x0 (P:P6) (w:Qb) (K:Pz) (mg:a0i) (base:Qt) (A:Qy) (outer:a0D) (s:Pe) (H:Hp):Prop where
 frames:A.frames=on outer
 mod:Mod K mg base
 bs:∀b o,base.get? b=on o->s.heap.get? b=on o/\H b=OZ
 bsz:base.objs.size<=s.heap.objs.size
 funs:s.heap.FunFrames base outer
 frf:∀b∈fx outer,H b=OZ
 hok:k_ P w H s.heap
 bare:U1 s.gens
def CE(a:a0D)(P:P6)(w:Qb)(H:Hp)(s:Pe)(Q:VK)(u:Pb)(b:Pe):Prop:=
 ∃v l,b.os=s.os/\U1 b.gens/\Un (fx a) [] H l s.heap b.heap/\k_ P w l b.heap/\aL v u/\Q v l
def CR(c:O_)(a:a0D)(P:P6)(w:Qb)(H:Hp)(s:Pe)(Q:VK)(E:XK)(r:Result)(b:Pe):Prop:=
 match r with
 | .ok (.ret u)=>CE a P w H s Q u b
 | .ok _=>False
 | .error e=>c a H s E e b
structure en (P:P6) (w:Qb) (K:Pz) (mg:a0i) (base:Qt) (CX:O_) (k:Nat) (f:O7) (fd:PP) (ps:a0h) (sp:Sp):Prop where
 len:∀vs H Q E,sp vs H Q E->VX vs=VX ps
 run:∀(A:Qy) (outer:a0D) (s:Pe) (H:Hp) (args:Args) (us:a0g) (vs:a0j) (Q:VK) (E:XK),ee k A->x0 P w K mg base A outer s H->WH s fd args (ps.zip us)->au vs us->sp vs H Q E->
  SW (PM P w) A (.call (.ref f) args) (CR CX outer P w H s Q E) s
theorem en.mono{P:P6}{w:Qb}{K:Pz}{f:O7}(F:en P w K g base CX j f i ps m)(h:j<=k):
  en P w K g base CX k f i ps m:=⟨F.len,λA a s H b c e Q E d=>F.run A a s H b c e Q E<|d.mono h⟩
theorem x0.make{P:P6}{w:Qb}{K:Pz}{A:Qy}{s:Pe}{H:Hp}(e:x0 P w K j i A g s H)(C:O7)(a:a0g)(d:List<|Qa×Pb):
  x0 P w K j i (A.under<|.builtin "type.__call__" ⟨.ref C::a,d⟩) g s H:=⟨by first|exact e.frames|(simpa[Wo,Code.envs,Yj,pushEnvs]using e.frames),e.mod,e.bs,e.bsz,e.funs,e.frf,e.hok,e.bare⟩
variable{a:Pe}
theorem cx.env0(I:cx X R L H s):x0 X.p X.w X.K X.mg X.base X.A X.k s H:=
 ⟨I.ok.frames,I.ok.mod,I.bs,Pk I.ok.bsz I.sz,I.stack,I.stkFree,I.hok,I.bare⟩
theorem cx.after{Q:VK}(I:cx X R L H s)(h:CE X.k X.p X.w H s Q u a):EP X R L Q u a:=by
 obtain⟨v,l,f,c,n,e,r,q⟩:=h;obtain⟨j,g,d,t,i⟩:=a;obtain rfl:i=s.os:=f;exact⟨v,l,I.call (h':=j) (g':=g) (d':=d) (t':=t) (ch:=[]) n e c (λb z=>PU z<|by simp),r,q⟩
def HB(a:Sp)(d:a0j)(E:a0r)(t:TA):TE:=λL H Q=>t L H λb g=>a (b++d) g Q<|E L
def yJ(C:O7)(m:Qa)(b:Sp)(d:a0j)(E:a0r)(z:TE)(t:TA):TE:=λL H Q=>z L H λx g=>∃a dx N,x= .r a/\g a=on (.ins C dx N)/\N.lookup m=OZ/\
 t L g λc i=>b (x::(c++d)) i Q<|E L
def cq(K:Pz)(d:PP)(b:a0h)(c:a0g):Prop:=
 ∀(s:Pe) (a:a0g),K.In s.heap->VX (a++c)=VX b->WH s d ⟨a,[]⟩ (b.zip<|a++c)
theorem cq.all{K:Pz}{a:a0h}(h:∀us:a0g,VX us=VX a->bindArgs g ⟨us,[]⟩=Rz (a.zip us)):cq K g a []:=λs us _ d=>by
 rw[QI]at d⊢;exact .of_eq<|h us d
def bU(b:O_)(X:Cx)(E:a0r):Prop:=∀(R:a0b) (L:St) (H:Hp) (s:Pe) (e:Pb) (a:Pe),cx X R L H s->b X.k H s (E L) e a->X.xe e a
end
section
variable{X:Cx}{CX:O_}{k:Nat}{f C:O7}{fd:PP}{ps:a0h}{sp:Sp}{Y:a0j}{ds:a0g}{E:a0r}{x m:Qa}{p z Z:Uq}{e o:Expr}{es:List Expr}{ta:TE}{t:TA}
theorem qg(F:en X.p X.w X.K X.mg X.base CX k f fd ps sp)(c:ee k X.A)(d:cq X.K fd ps ds)(m:au Y ds)(g:bU CX X E)
  (I:cx X l j H s) (r:au vs us) (h:sp (vs++Y) H Q<|E j):Pq (PM X.p X.w) X.A (VI (.ref f) us) (EP X l j Q) X.xe s:=by
 have b:au (vs++Y) (us++ds):=r.append m;have i:VX (us++ds)=VX ps:=by rw[<-b.length];exact F.len _ _ _ _ h
 refine Vp<|TN (F.run X.A X.k s H ⟨us,[]⟩ (us++ds) (vs++Y) Q (E j) c I.env0 (d s us I.kIn i) b h) λr o a=>?_;cases r with
 |error e=>exact g l j H s e o I a
 |ok fl=>
  cases fl with
  |ret u=>exact I.after a
  |next=>exact RH a
  |brk=>exact RH a
  |cont=>exact RH a
theorem nX(F:en X.p X.w X.K X.mg X.base CX k f fd ps sp)(g:ee k X.A)(i:Gl X x)(m:X.mg x=on (.ref f))(j:Vo X.K (.ref f)=O6)(l:cq X.K fd ps ds)(o:au Y ds)(n:bU CX X E)
  (C:PA X (e::es) t) (b:b0c x:=by decide) (u:b0a X e es:=by rfl) (c:b0b X z es:=by rfl):
  PE X (.Call (.Name x p) (e::es) [] z) (HB sp Y E t):=by
 intro a s v H Q I h;refine Uf<|jg I i m ?_ b;refine Yz (h₀:=X.base) I.ok.mod.kin j (d5 (C z a s v H _ I h) λD y ⟨G,B,d,r,q⟩=>⟨d.kIn,?_⟩) u c;exact qg F g l o n d r q
theorem Jz(v:PE X o ta)(c:u0 X.K C)(p:oD X.K C m f)(F:en X.p X.w X.K X.mg X.base CX k f fd ps sp)(y:ee k X.A)(B:cq X.K fd ps ds)(D:au Y ds)(J:bU CX X E)(G:PA X (e::es) t)
  (d:b0a X e es:=by rfl) (g:b0b X z es:=by rfl)
  (L:Qz (.Call (.Attribute o m Z) (e::es) [] z) X.e=(do
   let W <-Qz o X.e
   SJ Z.atName
   let (f,first) <-TR [W] (Vf W m pl)
   Xn z f first (Ry z<|Po (e::es) X.e) (SI z<|Rv [] X.e)):=by rfl):
  PE X (.Call (.Attribute o m Z) (e::es) [] z) (yJ C m sp Y E ta t):=by
 intro b s i H Q I h;refine WW (pl:=pl) (d5 (v b s i H _ I h) λu N ⟨x,O,j,P,a,V,fs,M,R,l,q⟩=>?_) L;subst M;obtain rfl:u=Pw a:=P;refine qN j R c p l ?_;refine Yz (first:=[.ref a]) (h₀:=X.base) I.ok.mod.kin p.kp (d5 (G z b N i O _ j q) λus T ⟨vs,U,n,r,S⟩=>⟨n.kIn,?_⟩) d g
 exact qg (us:= .ref a::us) (vs:= .r a::vs) F y B D J n (.cons rfl r) S
theorem Gi(g:PE X o ta)(c:u0 X.K C)(e:oD X.K C m f)(F:en X.p X.w X.K X.mg X.base CX k f fd ps sp)(i:ee k X.A)(j:cq X.K fd ps ds)(p:au Y ds)(n:bU CX X E)
  (r:Qz (.Call (.Attribute o m Z) [] [] z) X.e=(do
   let N <-Qz o X.e
   SJ Z.atName
   let (f,first) <-TR [N] (Vf N m pl)
   Xn z f first (Ry z<|Po [] X.e) (SI z<|Rv [] X.e)):=by rfl):
  PE X (.Call (.Attribute o m Z) [] [] z) (yJ C m sp Y E ta FJ):=by
 intro b s v H Q I h;refine WW (pl:=pl) (d5 (g b s v H _ I h) λu J ⟨x,L,d,y,a,D,G,t,B,l,q⟩=>?_) r;subst t;obtain rfl:u=Pw a:=y;refine qN d B c e l ?_;exact PySem.W.callWith_K0 (first:=[.ref a]) d.kIn e.kp<|qg (us:=[.ref a]) (vs:=[.r a]) F i j p n d (.cons rfl .nil) q
structure Mk (K:Pz) (C f:O7):Prop where
 makes:Zz K C=O6
 init:RN K (.ref C) "__init__"=on (on<|.ref f)
 fn:isFn K (.ref f)=O6
 kp:Vo K (.ref C)=O6
def PK(X:Cx)(b:List WL)(t:TA):Prop:=
 ∀(z:Uq) (a:a0b) (s:Pe) (c:St) (H:Hp) (Q:a0j->Hp->Prop),cx X a c H s->t c H Q->Pq (PM X.p X.w) X.A (evalAll<|(SI z<|Rv b X.e).map (·.2)) (AP X a c Q) X.xe s
variable{a:a0h}{k:Uq}{f:List WL}{m:TE}{o:TA}{A:Option Qa}
theorem Lu:PK X [] FJ:=λ_ _ _ _ H Q I h=>wpAny_evalAll_nil ⟨[],H,I,.nil,h⟩
theorem Ju(o:PE X e m)(c:PK X f t):PK X (⟨A,e,k⟩::f) (HA m t):=by
 intro z a s b H Q I h;show Pq _ _ (evalAll<|(do let v <-Qz e X.e;SJ z;Rz v)::(SI z<|Rv f X.e).map (·.2)) _ _ s
 refine wpAny_evalAll_cons<|My<|d5 (o a s b H _ I h) λu d ⟨x,g,i,r1,p⟩=>My<|Q3<|O0 ?_;exact d5 (c z a d b g _ i p) λE q ⟨C,j,l,n,D⟩=>⟨x::C,j,l,.cons r1 n,D⟩
structure J_ (K:Pz) (fd:PP) (ps a:a0h) (g:a0g->a0g->a0g) (gV:a0j->a0j->a0j):Prop where
 to:∀(s:Pe) (us ws:a0g),K.In s.heap->VX (g us ws)=VX ps->WH s fd ⟨us,a.zip ws⟩ (ps.zip<|g us ws)
 rel:∀{vs:a0j} {us:a0g} {zs:a0j} {ws:a0g},au vs us->au zs ws->au (gV vs zs) (g us ws)
variable{g:a0g->a0g->a0g}{a:a0j->a0j->a0j}
structure b5 (N P:a0h) (sc:Scope):Prop where
 kind:sc.kind= .function
 co:sc.isCoroutine=O8
 gen:sc.isGenerator=O8
 nd:N.Nodup
 pre:N.take (VX P)=P
 par:∀x∈P,sc.names.lookup x=on .local\/sc.names.lookup x=on .cell
 nofree:∀y∈sc.names,y.2≠ .free
theorem ui{b:Qa->Option Tz}{x:Qa}:∀{a:List (Qa×Pb)} {m:a0i},(∀v,(x,v)∉a)->ZF b a m x=m x
 |[],_,_=>rfl
 |(n,v)::r,m,h=>by
  unfold ZF;rw[ui λw c=>h w<|O1 _ c];split
  .have:x≠n:=by rintro rfl;exact h v Pa
   simp[this]
  .rfl
theorem uk{b:Qa->Option Tz}{x:Qa}:∀{a:List (Qa×Pb)} {m:a0i},(∀v,(x,v)∉a)->ZE b a m x=m x
 |[],_,_=>rfl
 |(n,v)::r,m,h=>by
  unfold ZE;rw[uk λw c=>h w<|O1 _ c];split
  .rfl
  .have:x≠n:=by rintro rfl;exact h v Pa
   simp[this]
theorem uj{a:Qa->Option Tz}{x:Qa}{v:Pb}:∀{P:a0h} {e:a0g} {i:Nat} {m:a0i},P.Nodup->P[i]?=on x->e[i]?=on v->a x=on .local->
  ZF a (P.zip e) m x=on v
 |[],_,_,_,_,h,_,_=>by simp at h
 |_::_,[],_,_,_,_,h,_=>by simp at h
 |p::P,w::e,0,m,nd,h1,h2,hk=>by
  simp at h1 h2;subst h1;subst h2;show ZF a ((p,w)::P.zip e) m p=_;unfold ZF;rw[ui λv b=>(Qi.mp nd).1 (Xe b).1,Pc hk];simp
 |p::P,w::e,i+1,m,nd,h1,h2,hk=>by
  show ZF a ((p,w)::P.zip e) m x=_;unfold ZF;exact uj (i:=i) (Qi.mp nd).2 (by simpa using h1) (by simpa using h2) hk
theorem ul{a:Qa->Option Tz}{x:Qa}{v:Pb}:∀{P:a0h} {e:a0g} {i:Nat} {m:a0i},P.Nodup->P[i]?=on x->e[i]?=on v->a x≠on .local->
  ZE a (P.zip e) m x=on v
 |[],_,_,_,_,h,_,_=>by simp at h
 |_::_,[],_,_,_,_,h,_=>by simp at h
 |p::P,w::e,0,m,nd,h1,h2,hk=>by
  simp at h1 h2;subst h1;subst h2;show ZE a ((p,w)::P.zip e) m p=_;unfold ZE;rw[uk λv b=>(Qi.mp nd).1 (Xe b).1,Pd hk];simp
 |p::P,w::e,i+1,m,nd,h1,h2,hk=>by
  show ZE a ((p,w)::P.zip e) m x=_;unfold ZE;exact ul (i:=i) (Qi.mp nd).2 (by simpa using h1) (by simpa using h2) hk
noncomputable def fU(N:a0h)(a:a0j):St:=a.map on++Py (VX N-VX a) OZ
noncomputable def dm(CX:O_)(P:P6)(w:Qb)(K:Pz)(mg:a0i)(base:Qt)(N:a0h)(a:Qa)(g:Scope)(f:O7)(k:Pb)(A:Qy)(outer:a0D)(s:Pe)(H:Hp)(E:XK):Cx where
 p:=P
 w:=w
 K:=K
 mg:=mg
 base:=base
 A:=A.deeper (Ud a g s.heap.objs.size f k)
 N:=N
 s₀:=s
 H₀:=H
 e:=Ud a g s.heap.objs.size f k
 outer:=outer
 k:=Ud a g s.heap.objs.size f k::outer
 ex:=[]
 calm:=O6
 fn:=λ_=>O6
 pn:=[]
 xe:=λe m=>Pq (PM P w) (A.deeper<|Ud a g s.heap.objs.size f k) (leaving (Ud a g s.heap.objs.size f k) e) (λ_ b=>CX outer H s E e b) (λc b=>CX outer H s E c b) m
theorem wT{a:Scope}{x:Qa}(h:a.names.lookup x=on .cell):∃c,(Rr n a.names []).lookup x=on c:=by
 have q:=YB a.names n []<|.inl h;exact XA.mp q
theorem ED{CX:O_}{K:Pz}{N ps:a0h}{g:Scope}{f:O7}{A:Qy}{s L:Pe}{E:XK}{m:a0j}
  (S:b5 N ps g) (t:A.handled=OZ) (j:x0 P w K mg base A outer s H) (U:VX m=VX ps) (r:au m us)
  (x:InCallC s s.heap.objs.size (ZF (Ud qual g s.heap.objs.size f cd).kindOf (ps.zip us) λ_=>OZ) (Rr (s.heap.objs.size+1) g.names []) (ZE (Ud qual g s.heap.objs.size f cd).kindOf (ps.zip us) λ_=>OZ) L):
  cx (dm CX P w K mg base N qual g f cd A outer s H E) [] (fU N m) H L:=by
 have R:VX ps<=VX N:=by have:=QG VX S.pre;rw[Tu]at this;lia
 obtain⟨I,o,rfl,O⟩:=x.done;have l:∀b:O7,b∉(dm CX P w K mg base N qual g f cd A outer s H E).ex:=λb z=>PU (show b∈([]:a0q)from z) (by simp);refine⟨⟨j.mod,S.kind,rfl,rfl,Pg _,λy z c I d=>?_,λy hy=>?_,λy c _ h=>?_,λ_=>t,Around.frames_deeper j.frames,.inr ⟨rfl,rfl⟩,λb z=>PU z<|l b,j.bs,j.bsz,λb _ _=>l b,λb z=>PU z<|l b,j.funs,j.frf⟩,
  rfl,j.bare,Un.kept O,⟨_,x.toInCall.ns,λi y v I d W=>?_⟩,λy c h=>⟨_,x.cell y c h⟩,j.hok.fresh<|Pg _,λy c h=>?_,λp B=>PU (show p∈([]:a0b)from B) (by simp),j.hok.kept O,?_⟩
 .exact name_of_addr x.apart (Q2 I) (Q2 d)
 .have hy:g.names.lookup y=on .cell\/g.names.lookup y=on .free:=hy
  rcases hy with hy|hy
  .exact wT hy
  .exact PU rfl (S.nofree _<|Q2 hy)
 .exact VF (x.above y c<|Q2 h)
 .have J:i<VX m:=by
   unfold fU at d;by_cases J:i<VX m
   .exact J
   .rw[RK<|by simpa using J]at d
    rw[R3]at d;split at d<;>cases d
  have C:m[i]?=on v:=by
   unfold fU at d;rw[Tx (by simpa using J),O9]at d;cases e:m[i]? with
   |none=>rw[e]at d;cases d
   |some a=>rw[e]at d;cases d;rfl
  obtain⟨u,Q,T⟩:=r.get C;have B:ps[i]?=on y:=by
   rw[<-S.pre,XW<|by lia];exact I
  have F:ps.Nodup:=by rw[<-S.pre];exact S.nd.sublist<|ZS _ _
  refine⟨u,T,?_⟩;rcases S.par y (PD B)with k|k
  .exact .inl ⟨k,uj F B Q k⟩
  .obtain⟨c,e⟩:=wT (n:=s.heap.objs.size+1) k
   refine .inr ⟨.inl k,c,e,?_⟩;have q:=x.cell y c e;rw[ul F B Q (by show g.names.lookup y≠_;rw[k];decide)]at q;exact q
 .exact j.hok.fresh (VF<|x.above y c<|Q2 h)
 .unfold fU
  show _=VX N;rw[PR,OY,Rt];lia
theorem Iu{CX:O_}{K:Pz}{k:Nat}{f:O7}
  {N ps:a0h} {sp:Sp} (U:K.lookup f=on ⟨oc,od,.func<|T1 name qual params body scope dV kV doc pm an cdv ct,osl⟩) (B:Uz K cdv qual=O6) (S:b5 N ps scope)
  (z:∀m H Q E,sp m H Q E->VX m=VX ps)
  (d:∀(A:Qy) (g:a0D) (s:Pe) (H:Hp) (m:a0j) (Q:VK) (E:XK),ee k (A.deeper<|Ud qual scope s.heap.objs.size f cdv)->sp m H Q E->
   ∃t,PSs (dm CX P w K mg base N qual scope f cdv A g s H E) body t/\t {nx:=λ_ c=>Q .o c,rt:=Q} (fU N m) H):
  en P w K mg base CX (k+1) f (T1 name qual params body scope dV kV doc pm an cdv ct) ps sp:=by
 refine⟨z,λA g s H D G m Q E F i Y r j=>?_⟩;have Z:=z _ _ _ _ j;have R:K.In s.heap:=i.mod.kin.keeps λb o e=>(i.bs b o e).1;have L:s.heap.NoLimit:=i.mod.nolimit.keeps λb o e=>(i.bs b o e).1;have h:∀y∈ps.zip G,scope.names.lookup y.1=on .local\/(scope.names.lookup y.1=on .cell/\((Rr (s.heap.objs.size+1) scope.names []).lookup y.1).isSome=O6):=λ⟨n,v⟩ M=>by
  rcases S.par n (Xe M).1 with q|q
  .exact .inl q
  .exact .inr ⟨q,YB _ _ _<|.inl q⟩
 refine codeAny_call_function F.j6 (R _ _ U) rfl S.co S.gen rfl (PySem.W.codeRec_of R B)<|Y _ _ _ _ ?_;refine wpAny_newFunctionEnv_cells S.kind h λX he T x=>?_;subst he;refine⟨L.keeps x.toInCall.keep,codeAny_func ?_⟩;obtain⟨t,ht,hq⟩:=d A g s H m Q E (F.deeper _) j;have I:cx (dm CX P w K mg base N qual scope f cdv A g s H E) [] (fU N m) H T:=ED S F.hd i Z r x;refine Qj (ht [] T (fU N m) H _ I hq) (λfl C p=>?_) λe C p=>p;have l:∀{a:St} {c:Hp} {v:V} {u:Pb},cx (dm CX P w K mg base N qual scope f cdv A g s H E) [] a c C->aL v u->Q v c->CE g P w H s Q u C:=
  λ{a c v u} J O q=>⟨v,c,J.os,J.bare,J.base,J.hok,O,q⟩
 cases fl with
 |ret u=>
  obtain⟨v,a,c,J,O,q⟩:=p;exact l J O q
 |next=>
  obtain⟨a,c,J,q⟩:=p;exact l (v:=V.o) (u:=Qn) J rfl q
 |brk=>
  obtain⟨_,_,_,q⟩:=p;exact RH q
 |cont=>
  obtain⟨_,_,_,q⟩:=p;exact RH q
variable{f T:String}{r:a0G}
def tCB(r:a0G)(t:TA):TE:=λa H Q=>t a H λe b=>r e b Q
theorem lz(hc:dg X (.builtin f) r)(i:Gl X x)(g:X.mg x=OZ)(j:Te x=on (.builtin f))(k:PA X (e::es) t)(m:x≠"__name__":=by decide)(b:b0c x:=by decide)
  (l:b0a X e es:=by rfl) (c:b0b X z es:=by rfl):PE X (.Call (.Name x p) (e::es) [] z) (tCB r t):=by
 intro a s d H Q I h;refine Uf<|fR I i g j ?_ m b;exact V1 (d5 (k z a s d H _ I h) λo n ⟨A,q,u,r1,C⟩=>hc a n d q A o Q u r1 C) l c
theorem ki(hc:dg X (.type T) r)(i:Gl X x)(f:X.mg x=OZ)(j:Te x=on (.type T))(g:PA X (e::es) t)(k:x≠"__name__":=by decide)(b:b0c x:=by decide)
  (l:b0a X e es:=by rfl) (c:b0b X z es:=by rfl):PE X (.Call (.Name x p) (e::es) [] z) (tCB r t):=by
 intro a s d H Q I h;refine Uf<|fR I i f j ?_ k b;exact Re (d5 (g z a s d H _ I h) λm n ⟨o,q,u,r1,A⟩=>hc a n d q o m Q u r1 A) l c
end
end L2
namespace HT
section
open PySem.SeqAt
open PySem.AutoSeq1 (wpAny_loadPart')
open PySem.MeetsSeq PySem.MeetsSeq2 PySem.MeetsSeq3
end
section
variable{x:P6}{w:Qb}{A:Qy}{E:a0d}{s:Pe}
theorem cat_tup{D a:a0g}(q:IsTup s.heap t D.toArray)(r:IsTup s.heap b a.toArray)(m:D≠[])
  (u:a=[]->Q (.ref t) s) (v:a≠[]->Q (.ref s.heap.objs.size) {s with heap:=s.heap.push {cls:= .type "tuple",data:= .seq (D++a).toArray}})
  (k:VX D+VX a<=Ps):Pq (PM x w) A (Sv .Add (.ref t)<|.ref b) Q E s:=by
 obtain⟨⟨cls,G,data,K⟩,i,hc,n,M⟩:=id q;obtain⟨⟨o,d,l,f⟩,c,g,p,h⟩:=id r;simp only at hc M g h;subst hc M g h;have e:D.toArray++a.toArray=(D++a).toArray:=by simp
 by_cases j:a=[]
 .exact concat_meets ⟨_,i,rfl⟩ ⟨_,c,rfl⟩ XO Zl Vj U7 (UR _ _)
   (tuple_addW1 t b D.toArray a.toArray n p G d K f (by simpa using m)<|by simp[j]) ⟨i,c,u j⟩
 .refine concat_meets ⟨_,i,rfl⟩ ⟨_,c,rfl⟩ XO Zl Vj U7 (UR _ _)
   (tuple_addW2 t b D.toArray a.toArray n p G d K f (by simpa using m) (by simpa using j)<|by rw[PH,PH];exact k) ⟨i,c,?_⟩
  rw[e];exact v j
noncomputable def sIx(n d:Nat):a0v->Nat
 |none=>d
 |some v=>if v<0 then(v+(n:Int)).toNat else UW v.toNat n
theorem sIx_none(n d:Nat):sIx n d OZ=d:=rfl
theorem sIx_nat(n d k:Nat):sIx n d (on (k:Int))=UW k n:=by
 show(if(k:Int)<0 then((k:Int)+(n:Int)).toNat else UW (k:Int).toNat n)=UW k n;rw[Pd (by lia),Ra]
end
end HT
namespace L2
abbrev TO:=St->Hp->(a0v->Hp->Prop)->Prop
def PO(X:Cx)(e:Option Expr)(t:TO):Prop:=
 ∀(a:a0b) (s:Pe) (b:St) (H:Hp) (Q:a0v->Hp->Prop),cx X a b H s->t b H Q->
  Pq (PM X.p X.w) X.A (evalPart e X.e) (λu D=>∃o c,cx X a b c D/\IsPart u o/\Q o c) X.xe s
noncomputable def IZ:TO:=λ_ H Q=>Q OZ H
def Nv(t:TE):TO:=λa H Q=>t a H λx b=>∃i,x= .n i/\Q (on i) b
theorem qK{D:a0e}:∀{E:a0g},au (D.map V.n) E->Yk E D:=by
 induction D with
 |nil=>intro E r;rw[RX]at r;cases r;exact .nil
 |cons n D G=>
  intro E r;rw[Pi]at r;cases r with
  |cons r1 a=>
   obtain⟨t,e⟩:=r1;subst e;exact .cons n t<|G a
section
variable{X:Cx}{e:Expr}{te:TE}{Y Z:Option Expr}{tl th:TO}{aa p2:Uq}
theorem xN:PO X OZ IZ:=by
 intro a s b H Q I h;rw[Zk];exact O0 ⟨OZ,H,I,.none,h⟩
theorem xM(h:PE X e te):PO X (on e) (Nv te):=by
 intro a s b H Q I c;rw[evalPart_some];refine d5 (h a s b H _ I c) λu g ⟨x,d,f,r1,D⟩=>?_;obtain⟨i,rfl,q⟩:=D;obtain⟨t,rfl⟩:=r1;exact⟨on i,d,f,.int i t,q⟩
def SlR(X:Cx)(r:V->a0v->a0v->Hp->VK->Prop):Prop:=
 ∀(a:a0b) (s:Pe) (b:St) (H:Hp) (x:V) (v c d:Pb) (Y Z:a0v) (e:O7) (Q:VK),cx X a b H s->aL x v->s.heap.IsSliceOf e c d .none->IsPart c Y->IsPart d Z->r x Y Z H Q->
  ∃T f,typeLookup (.type T) "__getitem__"=Rz (on<|.builtin f)/\s.TypeIs v T/\Pq (PM X.p X.w) X.A (getItem v<|.ref e) (EP X a b Q) X.xe s
def tSl(r:V->a0v->a0v->Hp->VK->Prop)(te:TE)(tl th:TO):TE:=λa H Q=>te a H λx b=>tl a b λl c=>th a c λu d=>r x l u d Q
theorem vU(j:SlR X r)(k:PE X e te)(m:PO X Y tl)(n:PO X Z th):PE X (.Subscript e (.Slice Y Z OZ p2) aa) (tSl r te tl th):=by
 intro a s d H Q I h;refine Subscript_<|d5 (k a s d H _ I h) λv o ⟨x,p,t,r1,D⟩=>?_;refine wpAny_Slice<|d5 (m a o d p _ t D) λf y ⟨l,B,C,E,G⟩=>d5 (n a y d B _ C G) λg c ⟨u,i,F,J,K⟩=>?_;rw[Zk];refine O0 ?_;have L:cx X a d i {c with heap:=c.heap.push {cls:= .type "slice",data:= .fields #[f,g,.none]}}:=F.kept (t':=c.toks) λb R q=>O3 _ q;obtain⟨T,U,N,O,P⟩:=j a {c with heap:=c.heap.push {cls:= .type "slice",data:= .fields #[f,g,.none]}} d i x v f g l u c.heap.objs.size Q L r1 (W9 ..) E J K;show Pq (PM X.p X.w) X.A (Zm e (.Slice Y Z OZ p2) v<|.ref c.heap.objs.size) (EP X a d Q) X.xe {c with heap:=c.heap.push {cls:= .type "slice",data:= .fields #[f,g,.none]}};exact tail_any (ops:=[.ref c.heap.objs.size,v]) O N P (by with_unfolding_all rfl)
noncomputable def mY(e:a0j)(Y Z:a0v):a0j:=(e.drop<|HT.sIx (VX e) 0 Y).take<|HT.sIx (VX e) (VX e) Z-HT.sIx (VX e) 0 Y
theorem w5(e:a0j)(Y Z:a0v):VX (mY e Y Z)<=VX e:=by
 unfold mY;rw[Tu,List.length_drop];lia
def y8(K:Pz):R2:=λx y H Q=>∃a b D e,x= .r a/\y= .r b/\iv K H a D/\iv K H b e/\D≠[]/\VX D+VX e<=Ps/\
 (e=[]->Q (.r a) H)/\(e≠[]->∀p,H p=OZ->Q (.r p) (upd H p<|.t<|D++e))
theorem au.nil_iff(r:au a b):b=[]↔a=[]:=by
 cases r with
 |nil=>simp
 |cons _ _=>simp
theorem JF:f_ X (Sv .Add) (y8 X.K):=by
 intro d s n H x y v u Q I i j h;obtain⟨a,b,e,D,rfl,rfl,E,k,l,f,G,M⟩:=h;cases i;cases j;obtain⟨S,r1,m,_⟩:=I.tuple E;obtain⟨g,c,p2,_⟩:=I.tuple k;refine HT.cat_tup m p2 (λz=>l<|r1.nil_iff.mp z) (λz=>⟨.r a,H,I,rfl,G<|c.nil_iff.mp z⟩) (λz=>?_) (by rw[<-r1.length,<-c.length];exact f);refine⟨.r s.heap.objs.size,_,I.laid (t':=s.toks) (o:= .t<|e++D) (λb p q=>O3 _ q) (Pg _) ?_,rfl,M (λw=>z<|c.nil_iff.mpr w) _<|I.hok.fresh<|Pg _⟩;exact⟨by rw[PR];exact f,_,r1.append c,ZN _ _⟩
noncomputable def p5(n:Nat)(i:Int):a0H:=if 0<=i then(if i<n then on i.toNat else OZ)else if -(n:Int)<=i then on (i+n).toNat else OZ
def v0{e:Type}(xs:List e)(i:Int):Option e:=(p5 (VX xs) i).bind λj=>xs[j]?
theorem x8(h:p5 n i=on j):seqIndex? i n=on j/\j<n/\-(n:Int)<=i/\i<n:=by
 unfold p5 at h;by_cases b:0<=i
 .rw[Pc b]at h
  by_cases a:i<n
  .rw[Pc a]at h
   have e:i.toNat=j:=P3 h;exact⟨by rw[seqIndex_of b a,e],by lia,by lia,a⟩
  .rw[Pd a]at h;cases h
 .rw[Pd b]at h
  by_cases a:-(n:Int)<=i
  .rw[Pc a]at h
   have e:(i+n).toNat=j:=P3 h;exact⟨by rw[Z3 (by lia) a,e],by lia,a,by lia⟩
  .rw[Pd a]at h;cases h
theorem yv{E:Type}{D:List E}{i:Int}{v:E}(h:v0 D i=on v):∃j,seqIndex? i (VX D)=on j/\D[j]?=on v/\j<VX D/\-(VX D:Int)<=i/\i<VX D:=by
 unfold v0 at h;cases e:p5 (VX D) i with
 |none=>rw[e]at h;cases h
 |some j=>
  rw[e]at h;obtain⟨a,b,c,d⟩:=x8 e;exact⟨j,a,h,b,c,d⟩
theorem Km{E:Type}{D:List E}{j:Nat}{v:E}(h:D[j]?=on v):v0 D (j:Int)=on v:=by
 have a:j<VX D:=(Pl.mp h).1;have e:p5 (VX D) (j:Int)=on j:=by
  unfold p5;rw[Pc (by lia),Pc<|by lia];simp
 unfold v0;rw[e];exact h
def sL(b:Expr):Prop:=∀o i,subscripted b O8 o i=operate [o,i] (getItem o i)
def N_(X:Cx)(r:R2):Prop:=
 ∀(c a:Expr) (b:a0b) (s:Pe) (d:St) (H:Hp) (x y:V) (v u:Pb) (Q:VK),cx X b d H s->aL x v->aL y u->r x y H Q->
  subscripted a O8 v u=operate [v,u] (getItem v u)->Pq (PM X.p X.w) X.A (Zm c a v u) (EP X b d Q) X.xe s
def MtR(X:Cx)(c:String)(r:a0P):Prop:=
 ∀(a:a0b) (s:Pe) (b:St) (H:Hp) (x:V) (e:a0j) (v:Pb) (D:a0g) (Q:VK),cx X a b H s->aL x v->au e D->r x e H Q->
  Pq (PM X.p X.w) X.A (VI (.builtin c)<|v::D) (EP X a b Q) X.xe s
variable{a b:Expr}{C B:TE}
theorem N_.or(h:N_ X r)(b:N_ X k):N_ X (λx y H Q=>r x y H Q\/k x y H Q):=by
 intro c d f s g H x y v u Q I i j q a;rcases q with q|q
 .exact h c d f s g H x y v u Q I i j q a
 .exact b c d f s g H x y v u Q I i j q a
theorem iX(d:N_ X r)(e:PE X a C)(f:PE X b B)(D:sL b):PE X (.Subscript a b aa) (tOp r C B):=by
 intro c s g H Q I h;exact Subscript_<|Hb e f I h λv u i x y j k l m q=>d a b c i g j x y v u Q k l m q<|D _ _
def y7(K:Pz):R2:=λx y H Q=>∃p a i v,x= .r p/\y= .n i/\eX K H p a/\v0 a i=on v/\Q v H
def F5(K:Pz):R2:=λx y H Q=>∃p a i v,x= .r p/\y= .n i/\iv K H p a/\v0 a i=on v/\Q v H
theorem fG:N_ X (y7 X.K):=by
 intro g k c s n H x y v u Q I B C h e;obtain⟨p,E,i,z,rfl,rfl,F,J,q⟩:=h;cases B;obtain⟨t,rfl⟩:=C;obtain⟨a,r,b,P⟩:=I.list F;obtain⟨j,f,L,R,N,h5⟩:=yv J;obtain⟨w,o,l⟩:=r.get L;have O:=r.length;have G:=mK;have d:EP X c n Q w s:=⟨z,H,I,l,q⟩;by_cases A:0<=i
 .have m:i.toNat=j:=by
   rw[seqIndex_of A h5]at f;exact P3 f
  exact item_listR b.isList A (by lia) (by rw[m];simpa using o) d e
 .have m:(i+(a.toArray.size:Int)).toNat=j:=by
   rw[Z3 (by lia) N]at f;rw[PH,<-O];exact P3 f
  exact V9 (x:=w) b.isList.typeIs slot_list_getitem.lookup
   (wpAny_getItem_list_neg (Q:=λr D=>r=w/\EP X c n Q r D) b.isList (by lia) (by rw[PH]<;>lia) (by lia) (by rw[m];simpa using o) ⟨rfl,d⟩) e
theorem Mv:N_ X (F5 X.K):=by
 intro d f c s l H x y v u Q I m n h b;obtain⟨p,E,i,z,rfl,rfl,o,A,q⟩:=h;cases m;obtain⟨t,rfl⟩:=n;obtain⟨e,r,a,L⟩:=I.tuple o;obtain⟨j,B,C,N,O,h5⟩:=yv A;obtain⟨w,F,g⟩:=r.get C;have J:=r.length;have G:=mK;have k:EP X c l Q w s:=⟨z,H,I,g,q⟩;exact V9 (x:=w) a.typeIs slot_tuple_getitem.lookup
  (getItem_tuple (j:=j) (Q:=λr D=>r=w/\EP X c l Q r D) a (by lia) (by lia) (by rw[PH,<-J];exact B) (by simpa using F) ⟨rfl,k⟩) b
theorem zx(a:a0g)(n j:Nat)(u:Pb):Rq (·.setIfInBounds j u) {cls:= .type "list",data:= .seq a.toArray n}={cls:= .type "list",data:= .seq (a.set j u).toArray n}:=by
 simp[Rq]
theorem cx.lst{s:Pe}{xs:a0j}(I:cx X c d H s)(h:H p=on (.l xs)):
  ∃(a:a0g) (n:Nat),au xs a/\s.heap.get? p=on {cls:= .type "list",data:= .seq a.toArray n}/\VX xs<=Ps:=by
 obtain⟨z,a,n,r,e⟩:=I.hok p _ h;exact⟨a,n,r,e,z⟩
theorem cx.lstUpd{s:Pe}{D C:a0j}{B a:a0g}(I:cx X j k H s)(h:H p=on (.l D))
  (d:s.heap.get? p=on {cls:= .type "list",data:= .seq B.toArray n}) (c:f {cls:= .type "list",data:= .seq B.toArray n}={cls:= .type "list",data:= .seq a.toArray n'}) (r:au C a) (g:VX C<=Ps) (t:Nat):
  cx X j k (upd H p<|.l C) {s with heap:=s.heap.update p f,toks:=t}:=by
 have e:(s.heap.update p f).get? p=on {cls:= .type "list",data:= .seq a.toArray n'}:=by
  rw[Rh f d (by rw[c]<;>rfl),c]
 refine I.write (x:=p) (e:=p) (by rw[h];trivial) (.inl rfl) (λb u i q=>(R7 _ _<|Ne.symm i).trans q) ⟨_,e⟩ ?_;exact⟨g,a,n',r,e⟩
def y0:V->V->V->Hp->(Hp->Prop)->Prop:=λo i v H Q=>∃p a k j,o= .r p/\i= .n k/\H p=on (.l a)/\p5 (VX a) k=on j/\Q (upd H p<|.l<|a.set j v)
theorem f8:Hg X y0:=by
 intro c s C H o i v P R u Q I F J L h;obtain⟨p,b,k,j,rfl,rfl,m,N,q⟩:=h;cases F;obtain⟨t,rfl⟩:=J;obtain⟨a,n,r,f,O⟩:=I.lst m;obtain⟨d,T,w,y⟩:=x8 N;have g:=r.length;have e:=mK;have A:cx X c C (upd H p<|.l<|b.set j v) {s with heap:=s.heap.update p (Rq (·.setIfInBounds j u))}:=
  I.lstUpd m f (zx a n j u) (r.set L j) (by rw[PX];exact O) s.toks
 by_cases B:0<=k
 .have l:k.toNat=j:=by
   rw[seqIndex_of B y]at d;exact P3 d
  exact PySem.W.ki_setAt f B (by lia) (by rw[PH,<-g];exact y) (by rw[l];exact⟨_,A,q⟩)
 .have l:(k+(a.toArray.size:Int)).toNat=j:=by
   rw[Z3 (by lia) w]at d;rw[PH,<-g];exact P3 d
  exact PySem.W.ki_setBack f (by lia) (by rw[PH,<-g];exact w) (by lia) (by rw[l];exact⟨_,A,q⟩)
theorem vq(Y Z:a0v)(n:Nat):(TD Y Z OZ n).1=((HT.sIx n 0 Y:Nat):Int)/\(TD Y Z OZ n).2.1=((HT.sIx n n Z:Nat):Int)/\(TD Y Z OZ n).2.2=1:=by
 refine⟨?_,?_,rfl⟩
 .cases Y with
  |none=>simp[TD,HT.sIx]
  |some i=>
   simp only[TD,HT.sIx,Zu,show(1:Int)>0 by decide,Qs];by_cases h:i<0
   .simp only[h,Qs]<;>lia
   .simp only[h,QA]<;>lia
 .cases Z with
  |none=>simp[TD,HT.sIx]
  |some i=>
   simp only[TD,HT.sIx,Zu,show(1:Int)>0 by decide,Qs];by_cases h:i<0
   .simp only[h,Qs]<;>lia
   .simp only[h,QA]<;>lia
theorem uo(a:a0g)(Y Z:a0v):ZK a.toArray Y Z OZ=((a.drop<|HT.sIx (VX a) 0 Y).take<|HT.sIx (VX a) (VX a) Z-HT.sIx (VX a) 0 Y).toArray:=by
 obtain⟨c,d,f⟩:=vq Y Z a.toArray.size;unfold ZK;rw[c,d,f];simp only[sliceRange_one,pick_run,PH]<;>rfl
def rSlL(K:Pz):V->a0v->a0v->Hp->VK->Prop:=λx Y Z H Q=>∃a b,x= .r a/\eX K H a b/\∀p,H p=OZ->Q (.r p) (upd H p<|.l<|mY b Y Z)
theorem xv:SlR X (rSlL X.K):=by
 intro d s l H x v m n Y Z E Q I g B C i h;obtain⟨a,e,rfl,j,q⟩:=h;cases g;obtain⟨D,r,f,k⟩:=I.list j;have c:=r.length;refine⟨"list",_,slot_list_getitem.lookup,f.isList.typeIs,?_⟩;refine Zn f.isList B C i .none (by simp) ?_ (by rw[PH]<;>lia)
 rw[uo,<-c];refine⟨.r s.heap.objs.size,_,I.laid (t':=s.toks) (o:= .l<|mY e Y Z) (λb p q=>O3 _ q) (Pg _) ?_,rfl,q _<|I.hok.fresh<|Pg _⟩;exact⟨Pk (w5 e Y Z) k,_,0,(r.drop<|HT.sIx (VX e) 0 Y).take<|HT.sIx (VX e) (VX e) Z-HT.sIx (VX e) 0 Y,Px _ rfl⟩
noncomputable def hX:V->Bool
 | .o=>O6
 | .c _=>O6
 | .n _=>O6
 | .q _=>O6
 |_=>O8
noncomputable def S_:V->V->Bool
 | .o,.o=>O6
 | .c a,.c b=>a==b
 | .c a,.n b=>(if a then 1 else 0)==b
 | .n a,.c b=>a==(if b then 1 else 0)
 | .n a,.n b=>a==b
 | .q a,.q b=>a==b
 |_,_=>O8
theorem MO(d:aL y u)(c:aL x v)(g:hX y=O6)(f:hX x=O6):SeqAt.EqAt A s u v (S_ y x):=by
 cases y with
 |o=>
  cases d;cases x with
  |o=>cases c;exact SeqAt.EqAt.same _
  |c b=>cases c;exact SeqAt.EqAt.none_bool b
  |n b=>obtain⟨t,rfl⟩:=c;exact SeqAt.EqAt.none_int b t
  |q b=>obtain⟨t,rfl⟩:=c;exact SeqAt.EqAt.none_str b t
  |_=>exact PU (show O8=O6 from f) Pf
 |c a=>
  cases d;cases x with
  |o=>cases c;exact SeqAt.EqAt.bool_none a
  |c b=>cases c;exact SeqAt.EqAt.bool_bool a b
  |n b=>obtain⟨t,rfl⟩:=c;exact SeqAt.EqAt.bool_int a b t
  |q b=>obtain⟨t,rfl⟩:=c;exact SeqAt.EqAt.bool_str a b t
  |_=>exact PU (show O8=O6 from f) Pf
 |n a=>
  obtain⟨e,rfl⟩:=d;cases x with
  |o=>cases c;exact SeqAt.EqAt.int_none a e
  |c b=>cases c;exact SeqAt.EqAt.int_bool a e b
  |n b=>obtain⟨t,rfl⟩:=c;exact SeqAt.EqAt.int_int a e b t
  |q b=>obtain⟨t,rfl⟩:=c;exact SeqAt.EqAt.int_str a e b t
  |_=>exact PU (show O8=O6 from f) Pf
 |q a=>
  obtain⟨e,rfl⟩:=d;cases x with
  |o=>cases c;exact SeqAt.EqAt.str_none a e
  |c b=>cases c;exact SeqAt.EqAt.str_bool a e b
  |n b=>obtain⟨t,rfl⟩:=c;exact SeqAt.EqAt.str_int a e b t
  |q b=>obtain⟨t,rfl⟩:=c;exact SeqAt.EqAt.str_str a e b t
  |_=>exact PU (show O8=O6 from f) Pf
 |_=>exact PU (show O8=O6 from g) Pf
def vl(x:V)(u:Pb):Bool:=match u with
 | .none=>S_ .o x
 | .bool b=>S_ (.c b) x
 | .int i _=>S_ (.n i) x
 | .str z _=>S_ (.q z) x
 |_=>O8
theorem ET(r:aL y u)(f:hX y=O6):vl x u=S_ y x:=by
 cases y with
 |o=>cases r;rfl
 |c b=>cases r;rfl
 |n i=>obtain⟨t,rfl⟩:=r;rfl
 |q z=>obtain⟨t,rfl⟩:=r;rfl
 |_=>exact PU (show O8=O6 from f) Pf
theorem kY:∀{a:a0j} {b:a0g},au a b->a.all hX=O6->b.any (vl x)=a.any λy=>S_ y x
 |_,_,.nil,_=>rfl
 |y::a,u::b,.cons r t,f=>by
  rw[Wh,PV]at f;rw[Vc,Vc,ET r f.1,kY t f.2]
theorem jK(c:aL x v)(d:hX x=O6):∀{a:a0j} {b:a0g},au a b->a.all hX=O6->∀u∈b,SeqAt.EqAt A s u v<|vl x u
 |_,_,.nil,_=>λu hu=>by cases hu
 |y::a,u::b,.cons r t,f=>λg hu=>by
  rw[Wh,PV]at f;rcases Pr.mp hu with rfl|hu
  .rw[ET r f.1];exact MO r c f.1 d
  .exact jK c d t f.2 g hu
def inV(x:V)(a:a0j):Bool:=a.any λy=>S_ y x
def rIn(K:Pz)(b:Bool):R2:=λx y H Q=>∃p a,y= .r p/\(eX K H p a\/iv K H p a)/\hX x=O6/\a.all hX=O6/\Q (.c (if b then !inV x a else inV x a)) H
theorem DE:f_ X (QX .In) (rIn X.K O8):=by
 intro d s k H x y v u Q I f i h;obtain⟨p,b,rfl,hq,g,a,q⟩:=h;cases i;rcases hq with hq|hq
 .obtain⟨its,r,pl,j⟩:=I.list hq
  refine SeqAt.in_listAt (vl x) pl.isList (λw c=>jK f g r a w<|by simpa using c) ⟨.c _,H,I,rfl,?_⟩;rw[show its.toArray.any (vl x)=its.any (vl x) by simp,kY r a];exact q
 .obtain⟨its,r,pl,j⟩:=I.tuple hq
  refine SeqAt.in_tupleAt (vl x) pl (λw c=>jK f g r a w<|by simpa using c) ⟨.c _,H,I,rfl,?_⟩;rw[show its.toArray.any (vl x)=its.any (vl x) by simp,kY r a];exact q
theorem mC:f_ X (QX .NotIn) (rIn X.K O6):=by
 intro d s k H x y v u Q I f i h;obtain⟨p,b,rfl,hq,g,a,q⟩:=h;cases i;rcases hq with hq|hq
 .obtain⟨its,r,pl,j⟩:=I.list hq
  refine SeqAt.notIn_listAt (vl x) pl.isList (λw c=>jK f g r a w<|by simpa using c) ⟨.c _,H,I,rfl,?_⟩;rw[show its.toArray.any (vl x)=its.any (vl x) by simp,kY r a];exact q
 .obtain⟨its,r,pl,j⟩:=I.tuple hq
  refine SeqAt.notIn_tupleAt (vl x) pl (λw c=>jK f g r a w<|by simpa using c) ⟨.c _,H,I,rfl,?_⟩;rw[show its.toArray.any (vl x)=its.any (vl x) by simp,kY r a];exact q
theorem m6:dg X (.builtin "len") (λb H Q=>∃p a,b=[.r p]/\(eX X.K H p a\/iv X.K H p a)/\Q (.n<|VX a) H):=by
 intro f s j H b e Q I r h;obtain⟨p,a,rfl,hq,q⟩:=h;obtain⟨u,rfl,g⟩:=k8 r;cases g;have B:=mK;rcases hq with hq|hq
 .obtain⟨its,d,pl,i⟩:=I.list hq
  have c:=d.length;exact Calls.call_len_list pl.isList (by simp only[PH]<;>lia) ⟨.n<|VX a,H,I.tok _,⟨s.toks+1,by rw[PH,c]⟩,q⟩
 .obtain⟨its,d,pl,i⟩:=I.tuple hq
  have c:=d.length;exact len_tuple pl (by simp only[PH]<;>lia) ⟨.n<|VX a,H,I.tok _,⟨s.toks+1,by rw[PH,c]⟩,q⟩
theorem bN:dg X (.type "list") (λG H Q=>∃p C,G=[.r p]/\(eX X.K H p C\/iv X.K H p C)/\∀l,H l=OZ->Q (.r l) (upd H l<|.l C)):=by
 intro f s t H G M Q I r h;obtain⟨p,C,rfl,hq,q⟩:=h;obtain⟨u,rfl,v⟩:=k8 r;cases v
 have g:∀(a:a0g),au C a->VX C<=Ps->∀(B:Qt) (c:Nat),(∀b m,s.heap.get? b=on m->B.get? b=on m)->
   B.get? s.heap.objs.size=on {cls:= .type "list",dict:=OZ,data:= .seq a.toArray c,slots:=#[]}->EP X f t Q (.ref s.heap.objs.size) {s with heap:=B}:=λa d i B c D e=>
  ⟨.r s.heap.objs.size,_,I.laid (t':=s.toks) D (Pg _) (show bC X.p X.w _ B _ (.l C)from⟨i,a,c,d,e⟩),rfl,q _<|I.hok.fresh<|Pg _⟩
 rcases hq with hq|hq
 .obtain⟨a,d,pl,i⟩:=I.list hq
  have j:=d.length;obtain⟨o,k,hc,n,E⟩:=pl.isList;exact call_list_seq p (.inl rfl) k hc E (λB c D e=>g a d i B c D e) (by simp only[PH]<;>lia)
 .obtain⟨a,d,pl,i⟩:=I.tuple hq
  have j:=d.length;obtain⟨o,k,hc,n,E⟩:=pl;exact call_list_seq p (.inr rfl) k hc E (λB c D e=>g a d i B c D e) (by simp only[PH]<;>lia)
theorem dC:dg X (.type "tuple") (λC H Q=>∃p a,C=[.r p]/\((eX X.K H p a/\∀l,H l=OZ->Q (.r l) (upd H l<|.t a))\/(iv X.K H p a/\Q (.r p) H))):=by
 intro c s g H C E Q I r h;obtain⟨p,a,rfl,h⟩:=h;obtain⟨u,rfl,m⟩:=k8 r;cases m;rcases h with⟨d,q⟩|⟨d,q⟩
 .obtain⟨its,f,pl,i⟩:=I.list d
  have j:=f.length;refine call_tuple_list pl.isList (λB D=>?_) (by simp only[PH]<;>lia)
  have k:cx X c g H {s with heap:=B}:=I.kept (t':=s.toks) D;have n:cx X c g (upd H B.objs.size<|.t a) {s with heap:=B.push {cls:= .type "tuple",data:= .seq its.toArray}}:=
   k.laid (t':=s.toks) (λb o e=>O3 _ e) (Pg _) (show bC X.p X.w _ _ _ (.t a)from⟨i,its,f,ZN _ _⟩)
  exact⟨.r B.objs.size,_,n,rfl,q _<|k.hok.fresh<|Pg _⟩
 .obtain⟨its,f,pl,i⟩:=I.tuple d
  exact call_tuple_same pl ⟨.r p,H,I,rfl,q⟩
def tyV(K:Pz)(T:String)(x:V)(H:Hp):Prop:=match x with
 | .q _=>T="str"
 | .n _=>T="int"
 | .r p=>(T="list"/\∃a,eX K H p a)\/(T="tuple"/\∃o,K.lookup p=on o/\o.cls= .type "tuple"/\o.dict=OZ)
 |_=>False
theorem Kz{s:Pe}(I:cx X h j H s)(r:aL x v)(b:tyV X.K T x H):
  s.TypeIs v T/\∀a,v= .ref a->∃d,s.heap.get? a=on d/\d.dict=OZ:=by
 cases x with
 |q z=>
  obtain⟨t,rfl⟩:=r;cases(show T="str"from b);exact⟨typeIs_str s z t,λ_ e=>nomatch e⟩
 |n i=>
  obtain⟨t,rfl⟩:=r;cases(show T="int"from b);exact⟨typeIs_int s i t,λ_ e=>nomatch e⟩
 |r p=>
  cases r;rcases b with⟨rfl,C,g⟩|⟨rfl,o,f,hc,B⟩
  .obtain⟨its,_,pl,_⟩:=I.list g
   refine⟨pl.isList.typeIs,λa e=>?_⟩;cases e;obtain⟨o,n,e,c,B,_⟩:=pl;exact⟨o,e,B⟩
  .refine⟨⟨o,I.kIn p o f,hc⟩,λa e=>?_⟩
   cases e;exact⟨o,I.kIn _ o f,B⟩
 |_=>exact RH b
def tBM(K:Pz)(T:String)(r:a0P)(a:TE)(t:TA):TE:=λc H Q=>a c H λx d=>tyV K T x d/\t c d λb f=>r x b f Q
variable{o:Expr}{J:List Expr}{N:TE}{t:TA}{b:Qa}{z a:Uq}{T L:String}{r:a0P}
theorem zf(n:PlainAttrs T)(D:Slot T b L)(j:Z5 (.builtin L)=Rz (.type "method_descriptor"))(E:MtR X L r)(p:PE X o N)(G:PA X (e::J) t)
  (f:T7 o b X.e (Qz o X.e)=Qz o X.e:=by rfl)
  (i:((Ry a<|Po (e::J) X.e).all (λx=>!x.1)&&(SI a<|Rv [] X.e).all (λx=>x.1.isSome)
   &&decide (VX (e::J)+VX ([]:List WL)+(if([]:List WL).isEmpty then 0 else 1)<30))=O6:=by rfl)
  (g:(z.endLine==a.line)=O6:=by rfl) (M:b0a X e J:=by rfl) (d:b0b X a J:=by rfl):
  PE X (.Call (.Attribute o b z) (e::J) [] a) (tBM X.K T r N t):=by
 intro c s k H Q I h;refine Z6 f i g rfl<|d5 (p c s k H _ I h) λv q ⟨x,u,l,r1,S,V⟩=>?_;obtain⟨w,y⟩:=Kz l r1 S;refine⟨T,L,n,D,j,w,y,?_⟩;have m:=G a c q k u _ l V;rw[M]at m⊢;refine Vs (by show(O8||(Ry a (Po J X.e)).any (·.1))=O8;rw[d]<;>rfl) (Yo ?_)
 exact d5 m λY A ⟨Z,B,C,F,O⟩=>E c A k B x Z v Y Q C r1 F O
def MtM(X:Cx)(L:String)(r:a0P):Prop:=
 ∀(c:a0b) (s:Pe) (d:St) (H:Hp) (x:V) (a:a0j) (v:Pb) (b:a0g) (Q:VK),cx X c d H s->aL x v->au a b->r x a H Q->
  Pq (PM X.p X.w) X.A (VI (.builtin L)<|v::b) (EP X c d Q) X.xe s
theorem au.one:∀{x:V} {a:a0g},au [x] a->∃u,a=[u]/\aL x u
 |_,_,.cons r .nil=>⟨_,rfl,r⟩
theorem au.reverse{a:a0j}{b:a0g}(h:au a b):au a.reverse b.reverse:=by
 induction h with
 |nil=>exact .nil
 |cons r t e=>rw[U5,U5];exact au.append e<|.cons r .nil
theorem au.rep(h:au c d):∀k:Nat,au (Py k c).flatten (Py k d).flatten
 |0=> .nil
 |k+1=>by
  rw[Q4,Q4,Sy,Sy];exact au.append h<|au.rep h k
theorem tY(a:a0g):∀(k:Nat) (b:a0g),
  Wq (λc d=>c++d) b.toArray (Py k a.toArray)=(b++(Py k a).flatten).toArray
 |0,b=>by simp
 |k+1,b=>by
  have e:b.toArray++a.toArray=(b++a).toArray:=by simp
  have f:(b++a)++(Py k a).flatten=b++(Py (k+1) a).flatten:=by
   rw[Q4,Sy,Q8]
  rw[<-f,<-tY a k (b++a),<-e,Q4,List.foldl_cons]
end
section
variable{X:Cx}{R:a0b}{P:St}{H:Hp}{s:Pe}{l b:O7}{xs ys B:a0j}
theorem cx.lset{b its':a0g}(I:cx X R P H s)(a:H l=on (.l xs))
  (e:s.heap.get? l=on {cls:= .type "list",data:= .seq b.toArray n}) (c:f b.toArray=its'.toArray) (d:au ys its') (g:VX ys<=Ps):
  cx X R P (upd H l<|.l ys) {s with heap:=s.heap.update l<|Rq f,toks:=k}:=by
 have q:=PySem.IsL.update e f;rw[c]at q;refine I.write (x:=l) (e:=l) (by rw[a];exact trivial) (.inl rfl) (λj u h i=>(R7 s.heap (Rq f)<|Ne.symm h).trans i) ⟨_,q⟩ ?_;exact⟨g,its',_,d,q⟩
theorem cx.lnew{its:a0g}(I:cx X R P H s)(a:au ys its)(c:VX ys<=Ps):
  cx X R P (upd H s.heap.objs.size<|.l ys) {s with heap:=s.heap.push {cls:= .type "list",data:= .seq its.toArray},toks:=t'}:=
 I.laid (λ_ _ q=>O3 _ q) (Pg _) ⟨c,its,0,a,Px _ rfl⟩
theorem cx.fresh(I:cx X R P H s):H s.heap.objs.size=OZ:=I.hok.fresh<|Pg _
theorem cx.lstM(I:cx X R P H s)(a:H l=on (.l xs)):VX xs<=Ps/\∃(b:a0g) (n:Nat),au xs b/\VX xs=VX b/\s.heap.get? l=on {cls:= .type "list",data:= .seq b.toArray n}:=by
 obtain⟨z,b,n,r,e⟩:=I.hok l _ a;exact⟨z,b,n,r,r.length,e⟩
theorem Gr(h:n<=Ps):Ut n=O8:=by
 unfold Ut;exact P8 (by lia)
def xI:V->a0j->Hp->VK->Prop:=λx b H Q=>∃l xs y,x= .r l/\b=[y]/\H l=on (.l xs)/\VX xs<Ps/\Q .o (upd H l<|.l<|xs++[y])
theorem mI:MtM X "list.append" xI:=by
 intro R s P H x B v D Q I c d h;obtain⟨l,xs,y,rfl,rfl,a,g,q⟩:=h;cases c;obtain⟨u,rfl,f⟩:=d.one;obtain⟨z,b,n,r,i,e⟩:=I.lstM a;refine YA F.slot_list_append ⟨_,e,rfl⟩ F.entry_list_append (ZL _ _) (ZC l b.toArray n u<|by rw[PH];lia) ⟨e,?_⟩;refine⟨.o,_,I.lset (its':=b++[u]) a e (by simp) (r.append<|.cons f .nil) ?_,rfl,q⟩;rw[PR,QO];lia
noncomputable def rCat:R2:=λx y H Q=>∃l b xs B,x= .r l/\y= .r b/\H l=on (.l xs)/\H b=on (.l B)/\VX xs+VX B<=Ps/\∀p,H p=OZ->Q (.r p) (upd H p<|.l<|xs++B)
theorem LQ:f_ X (Sv .Add) rCat:=by
 intro R s P H x y v u Q I c d h;obtain⟨l,b,xs,B,rfl,rfl,f,hB,m,q⟩:=h;cases c;cases d;obtain⟨z,D,n,r,o,e⟩:=I.lstM f;obtain⟨p,a,t,g,i,j⟩:=I.lstM hB;refine Zb e j ?_ (by rw[PH,PH];lia);have k:D.toArray++a.toArray=(D++a).toArray:=by simp
 rw[k];exact⟨.r _,_,I.lnew (t':=s.toks) (r.append g) (by rw[PR];lia),rfl,q _ I.fresh⟩
noncomputable def rRep:R2:=λx y H Q=>∃l k xs,x= .r l/\y= .n k/\H l=on (.l xs)/\-(2^63)<=k/\k<2^63/\VX xs*k.toNat<=Ps/\
 ∀p,H p=OZ->Q (.r p) (upd H p<|.l (Py k.toNat xs).flatten)
theorem JU{b:Type}(xs:List b)(k:Nat):(Py k xs).flatten.length=k*VX xs:=by
 induction k with
 |zero=>simp
 |succ k l=>rw[Q4,Sy,PR,l,Nat.succ_mul,SA]
theorem LK:f_ X (Sv .Mult) rRep:=by
 intro R s P H x y v u Q I w A h;obtain⟨l,k,xs,rfl,rfl,B,C,J,p,q⟩:=h;cases w;obtain⟨t,rfl⟩:=A;obtain⟨z,b,n,r,L,e⟩:=I.lstM B;have d:b.toArray.size*k.toNat<=Ps:=by rw[PH,<-L];exact p
 have f:¬b.toArray.size*k.toNat>(2^63-1)/8:=by
  have:(Ps:Nat)<=(2^63-1)/8:=by decide
  lia
 have g:¬(!Builtin.List.listFitsIndex k)=O6:=by
  rw[fitsIndex_both C J];exact Pf
 have c:¬Ut (b.toArray.size*k.toNat)=O6:=by
  rw[Gr d];exact Pf
 have i:Wq (λj o=>j++o) #[] (Py (if b.toArray.isEmpty=O6 then 0 else k.toNat) b.toArray)=(Py k.toNat b).flatten.toArray:=by
  have N:∀m:Nat,Wq (λj o=>j++o) #[] (Py m b.toArray)=(Py m b).flatten.toArray:=λm=>by
   have:=tY b m [];rw[R5]at this;exact this
  rw[N];cases b with
  |nil=>simp
  |cons a O=>rw[Pd<|by simp]
 refine wpAny_binaryOp_repeat_ref (T:="list") (U:="int") (by decide) ⟨_,e,rfl⟩ (λD=>typeIs_int D k t) noFill_list_mul F.fills_int_mul F.slot_int_rmul repeat_list F.slot_int_index.lookup
  (YA F.slot_int_rmul (typeIs_int s k t) F.entry_int_rmul (F.args_int_rmul_2 _ _) (int___rmul___int_list k t l b.toArray n)
   ⟨e,rfl,⟨_,e,rfl⟩,YA F.slot_list_mul ⟨_,e,rfl⟩ F.entry_list_mul (F.args_list_mul_2 _ _) (AutoListH.list___mul___list_int_3 l b.toArray n k t g f c) ⟨e,?_⟩⟩)
 rw[i];exact⟨.r _,_,I.lnew (t':=s.toks) (r.rep k.toNat) (by rw[JU,Ql];exact p),rfl,q _ I.fresh⟩
variable{a:P6}{w:Qb}{A:Qy}{E:a0d}
end
end L2
namespace Att
open PySem.W PySem.Calls
theorem qJ:∀(D:a0e) (E:a0g),WellAll P h E (D.map WData.int)->Yk E D:=by
 intro D
 induction D with
 |nil=>
  intro E w;rw[RX]at w;cases w;exact .nil
 |cons n D G=>
  intro E w;rw[Pi]at w;cases w with
  |cons a b=>
   cases a;exact .cons _ _<|G _ b
theorem BV{l:OpenLaw}(G:l.most=on n){h:Qt}
  (b:l.row.toRowW.claim.pre args=O6) (f:WellAll P h vals args):
  ∃a E D,vals=[Pw a]/\args=[WData.list<|D.map WData.int]/\h.get? a=on {cls:= .type "list",data:= .seq E.toArray}/\Yk E D/\VX D<=n:=by
 have hsh:WShape.hasAll [] args [.list .int]=O6:=(pre_splitW b).1;have hc:l.pre.holds [] {args:=args}=O6:=(pre_splitW b).2;obtain⟨d,r,rfl,g,i⟩:=hasAllW_cons hsh;obtain rfl:=hasAllW_nil i;obtain⟨M,rfl,j⟩:=hasW_list g;obtain⟨D,rfl⟩:=items_int j;have c:VX D<=n:=by
  unfold OpenLaw.pre at hc;have e:(WTm.not<|.lt (.lit<|.int (n:Int))<|.len<|.arg 0).holds [] {args:=[.list<|D.map .int]}=O6:=by
   have e:=(holds_andW hc).1;rw[G]at e;exact e
  have h5:=condW_of e<|w_not<|w_lt w_lit<|w_len_list<|w_arg rfl;rw[OY]at h5;refine Nat.le_of_not_lt λq=>?_;have K:(n:Int)<((VX D:Nat):Int):=by lia
  first
   |(rw[Pn K]at h5;exact PU h5 (by decide))
   |(simp at h5;lia)
 cases f with
 |cons k m=>
  cases m;cases k with
  |list ho hall=>exact⟨_,_,D,rfl,rfl,ho,qJ D _ hall,c⟩
theorem CV(l:OpenLaw)(args:List WData):l.row.toRowW.claim.post args (.bool O6) args=O6:=
 postW_of (r:=l.row.toRowW) (X:=(O6==O6))
  (show WShape.has [] (.bool O6) .bool=O6 by first|rfl|decide|simp[WShape.has,WShape.arms,WShape.armsAll])
  (show(WTm.eq .res<|.lit<|.bool O6).value [] {args:=args,res:=on<|.bool O6,after:=args}=on (.bool<|O6==O6)from w_eq_bool (w_res rfl) w_lit) rfl
theorem attach_call{l:OpenLaw}{d:DefRec}
  (z:l.most=on n) (k:d.params.defaults=[])
  (VI:∀(w:Qb) (D b:Pe) (K m:a0i) (g:O7) (o:QS) (p M c:Pb) (a:O7) (E:a0g) (S:a0e),
   Ground q loose [] XP w D K m b.heap->YP w b.heap->
   b.heap.get? g=on o->o.data= .func (docDef d.name d.params d.body d.scope p M c)->b.heap.CodeRec M d.name->K d.name=on (.ref g)->
   b.heap.get? a=on {cls:= .type "list",data:= .seq E.toArray}->Yk E S->VX S<=n->b.gens=#[]->
   SW (PM l.prog w) Xo (.call (.ref g) ⟨[.ref a],[]⟩) (λr V=>r= .ok (.ret<|.bool O6)/\OldK b.heap V.heap/\V.os=b.os/\U1 V.gens) b):
  WalkO q loose XP YP l.row.toRowW d [] (λf E=>Zh f E):=by
 intro w D b K m G Y g o p M c B C F Q t y u H s x T h A I v J;obtain rfl:B= .none:=Dflts.none y k;obtain rfl:C= .none:=Dflts.noKw y;obtain⟨a,E,S,rfl,rfl,i,e,j⟩:=BV z h v;refine enter_call<|TN (VI w D b K m g o p M c a E S G Y F (fd_plain Q) t u i e j H) λr V L=>?_;obtain⟨rfl,N,O,P⟩:=L;exact⟨.inl ⟨.bool O6,.bool O6,[],rfl,λ_=>rfl,.bool O6,CV l _,λ_=>⟨VE,λ_ R=>(nomatch R)⟩⟩,N,O,P⟩
section
variable{a:P6}{w:Qb}{A:Qy}{E:a0d}{s:Pe}{K:Pz}
end
end Att
namespace L2
theorem sO:∀{D:a0g} {E:a0e},Yk D E->au (E.map V.n) D
 |_,_,.nil=> .nil
 |_,_,.cons n t h=> .cons ⟨t,rfl⟩<|sO h
def Hh(H:Hp):Prop:=∀b,H b=OZ\/∃o D,H b=on (.frz o<|.l D)
theorem GL{K:Pz}{c:Pe}{G:a0g}{M:a0e}
  (R:K.In c.heap) (p:c.heap.Ns RV mg) (g:c.heap.Ns Yy mb) (I:∀x:Qa,x≠"__name__"->mb x=Te x) (t:c.heap.NoLimit) (hg:c.gens=#[])
  (ha:c.heap.get? a=on {cls:= .type "list",data:= .seq G.toArray}) (T:Yk G M) (U:VX M<=Ps) (hr:ee k Xo)
  (F:∀D:Qt,K.In D->D.Ns RV mg->en P w K mg D CX k fa fd [x] sp) (l:∀(s:Pe) (u:Pb),WH s fd ⟨[u],[]⟩ [(x,u)])
  (J:∀H:Hp,Hh H->eX K H a (M.map V.n)->sp [.r a] H (λv _=>v= .c O6) λ_ _ _=>False)
  (L:∀H e E,CX [] H c (λ_ _ _=>False) e E->False):
  SW (PM P w) Xo (.call (.ref fa) ⟨[.ref a],[]⟩) (λr E=>r= .ok (.ret<|.bool O6)/\OldK c.heap E.heap/\E.os=c.os/\U1 E.gens) c:=by
 have W:=sO T;have y:=T.length
 --from an abstract heap in which nothing but the script may be tracked
 have j:∀H:Hp,Hh H->eX K H a (M.map V.n)->k_ P w H c.heap->(∀b,H b≠OZ->b=a)->(H a≠OZ->K.lookup a=OZ)->
   SW (PM P w) Xo (.call (.ref fa) ⟨[.ref a],[]⟩) (λr E=>r= .ok (.ret<|.bool O6)/\OldK c.heap E.heap/\E.os=c.os/\U1 E.gens) c:=by
  intro H X hS S Y hK;have f:∀{b:O7} {o:QS},c.heap.get? b=on o->H b=OZ->(lM c.heap H).get? b=on o:=λe n=>GV e n;have N:∀{b:O7} {o:QS} {es:Array Ug} {ep:Nat},c.heap.get? b=on o->o.data= .dict es ep->H b=OZ:=λ{b o es ep} e d=>by
   cases q:H b with
   |none=>rfl
   |some u=>
    have O:b=a:=Y b (by rw[q];simp);subst O;rw[ha]at e;cases e;have d':Data.seq G.toArray _=Data.dict es ep:=d;cases d'
  have i:∀{b:O7} {m:a0i},c.heap.Ns b m->(lM c.heap H).Ns b m:=λ{b m} ⟨o,es,ep,e,d,r⟩=>⟨o,es,ep,f e<|N e d,d,r⟩;have A:K.In (lM c.heap H):=λb o e=>f (R b o e) (by
   cases q:H b with
   |none=>rfl
   |some u=>
    have O:b=a:=Y b (by rw[q];simp);subst O;rw[hK<|by rw[q];simp]at e;cases e)
  have hM:Mod K mg (lM c.heap H):=⟨A,i p,⟨mb,i g,I⟩,let ⟨mc,h1,h2⟩:=t;⟨mc,i h1,h2⟩⟩
  have e0:x0 P w K mg (lM c.heap H) Xo [] c H:=⟨rfl,hM,λb o e=>JJ e,Yu<|EG _ _,trivial,λb g=>PU (show b∈([]:a0q)from g) (by simp),S,.of_eq hg⟩;refine TN ((F _ A<|i p).run Xo [] c H ⟨[.ref a],[]⟩ [.ref a] [.r a] _ _ hr e0 (l c<|.ref a) (.cons rfl .nil)<|J H X hS) λr E h=>?_;cases r with
  |error e=>exact(L H e E h).elim
  |ok fl=>
   cases fl with
   |next=>exact RH h
   |brk=>exact RH h
   |cont=>exact RH h
   |ret u=>
    obtain⟨v,H',os,aa,un,B,r',q⟩:=h;have q':v= .c O6:=q;subst q';obtain rfl:u=Wl O6:=r';refine⟨rfl,OldK.of_keep λb o e=>?_,os,aa⟩;cases q:H b with
    |none=>exact un.keep b o e q (by intro z;exact PU (show b∈([]:a0q)from z)<|by simp) (by simp)
    |some u=>
     rcases X b with z|⟨ob,xs,z⟩
     .rw[q]at z;cases z
     .have z2:=un.frzs b ob _ z
      obtain⟨Z,_⟩:=S b _ z;obtain⟨e2,_⟩:=B b _ z2;rw[e]at Z;cases Z;exact e2
 cases Q:K.lookup a with
 |some o=>
  --the script is one of the module's own objects
  have e:=R a o Q;rw[ha]at e;cases e;refine j (λ_=>OZ) (λ_=> .inl rfl) (.inr ⟨_,G.toArray,_,Q,rfl,rfl,rfl,by rw[PH,y];exact U,by simpa using W⟩) (λb u z=>by have C:(OZ:Option HO)=on u:=z;cases C) (λb z=>PU rfl z) λz=>PU rfl z
 |none=>
  refine j (λb=>if b=a then on (.frz {cls:= .type "list",data:= .seq G.toArray} (.l<|M.map V.n))else OZ) (λb=>?_) (.inl<|.inr ⟨{cls:= .type "list",data:= .seq G.toArray},Pc rfl⟩) (λb u z=>?_) (λb z=>?_) λ_=>Q
  .by_cases g:b=a
   .exact .inr ⟨_,_,Pc g⟩
   .exact .inl (Pd g)
  .by_cases g:b=a
   .have C:=(Pc g).symm.trans z
    cases C;subst g;exact⟨ha,by rw[OY];exact U,G,_,W,ha⟩
   .have C:=(Pd g).symm.trans z
    cases C
  .by_cases g:b=a
   .exact g
   .exact PU (Pd g) z
theorem walk_of{l:PySem.W.OpenLaw}{n k:Nat}{q:P6}{E:a0h}{XP:(Qa->Option Pb)->Qt->Prop}{YP:Qb->Qt->Prop}{d:DefRec}{K:XJ->Pz}{CX:Qb->O_}{sp:Qb->Sp}{x:Qa}
  (hn:l.most=on n) (r:n<=Ps) (t:d.params.defaults=[]) (J:ee k Xo)
  (L:∀(w:Qb) (h:Qt),YP w h->(K w.params).In h)
  (F:∀(w:Qb) (M:a0i) (p:O7) (h:Qt),(K w.params).In h->h.Ns RV M->M d.name=on (.ref p)->
   ∃B:PP,(∀(s:Pe) (u:Pb),WH s B ⟨[u],[]⟩ [(x,u)])/\
    ∀D:Qt,(K w.params).In D->D.Ns RV M->en l.prog w (K w.params) M D (CX w) k p B [x] (sp w))
  (y:∀(w:Qb) (H:Hp) (a:O7) (S:a0e),VX S<=n->Hh H->eX (K w.params) H a (S.map V.n)->sp w [.r a] H (λv _=>v= .c O6) λ_ _ _=>False)
  (A:∀(w:Qb) (H:Hp) (s:Pe) (e:Pb) (z:Pe),CX w [] H s (λ_ _ _=>False) e z->False):
  PySem.W.WalkO q E XP YP l.row.toRowW d [] (λf vs=>Zh f vs):=by
 refine Att.attach_call hn t λw aa j M X p o Z cd N a vs S G Y ho hd O C m i c P=>?_;have I:=L w _ Y;obtain⟨B,Q,hF⟩:=F w M p _ I G.T.g C;exact GL I G.T.g G.T.b G.T.builtins G.T.nolimit P m i (Pk c r) J hF Q (λH R U=>y w H a S c R U) λH e z=>A w H j e z
noncomputable def cX(s:QD)(j:Nat):QD:=match s with
 | .ClassDef _ _ _ body _ _ _ _ _ _ _=>body.getD j<|.Pass ⟨0,0,0,0⟩
 |_=> .Pass ⟨0,0,0,0⟩
noncomputable def jk(s:QD):Arguments:=match s with
 | .FunctionDef _ a _ _ _ _ _ _ _ _=>a
 |_=>{posonlyargs:=[],args:=[],vararg:=OZ,kwonlyargs:=[],kw_defaults:=[],kwarg:=OZ,defaults:=[]}
noncomputable def cF(s:QD):a0Q:=match s with
 | .FunctionDef _ _ b _ _ _ _ _ _ _=>b
 |_=>[]
noncomputable def ae(s:QD):Scope:=match s with
 | .FunctionDef _ _ _ _ _ _ sc _ _ _=>sc
 |_=>{kind:= .function,names:=[],isGenerator:=O8,isCoroutine:=O8}
abbrev E0:St->XK:=λ_ _ _ _=>False
structure Fun (K:Pz) (x qual:Qa) (st:QD) (f:O7) (fd:PP):Prop where
 ex:∃(oc:Pb) (od:a0C) (kV doc pm:Pb) (an:a0C) (cdv ct:Pb) (osl:Array<|Option Pb),
  fd=T1 x qual (jk st) (cF st) (ae st) .none kV doc pm an cdv ct/\K.lookup f=on ⟨oc,od,.func fd,osl⟩/\Uz K cdv qual=O6
 kp:Vo K (.ref f)=O6
section
variable{P:P6}{w:Qb}{K:Pz}{b:a0i}{base:Qt}
theorem uM{A:Qy}(a:ee k A):A.units+1<Uu:=Rc (Zt (by decide:1<=64) _) a.f5
theorem sX(h:n<=1000):n<Ps:=Rc h (by decide)
variable{X:Cx}
theorem pv(i:Nat)(b:X.N[i]?=on x:=by rfl)(c:Vis X.e.scope x:=by first|exact RZ rfl|exact TL (RZ rfl)|exact TL (TL rfl))(w:b0c x:=by decide)
  (a:(x==("__classdict__":Qa))=O8:=by decide):PE X (.Name x d) (l5 i):=Lz b c w a
theorem iteT{A B:Prop}(h:A):if O6=O6 then A else B:=by
 rw[Pc rfl];exact h
theorem ite2{c A B:Prop} [Decidable c](a:c->A)(b:¬c->B):if c then A else B:=by
 by_cases h:c
 .rw[Pc h]
  exact a h
 .rw[Pd h]
  exact b h
def bP(H a:Hp):Prop:=∀b o,H b=on o->a b=on o
theorem bP.refl(H:Hp):bP H H:=λ_ _ h=>h
theorem bP.trans(a:bP H H1)(b:bP H1 H2):bP H H2:=λc o h=>b c o<|a c o h
theorem bP.free(e:bP H H')(h:H' l=Option.none):H l=Option.none:=by
 cases q:H l with
 |none=>rfl
 |some o=>
  rw[e l o q]at h;cases h
theorem dB:∀(b:a0K) (n:Nat) (acc:a0n),Rr n b acc=Rr n b []++acc
 |[],_,_=>rfl
 |(x,k)::r,n,acc=>by
  unfold Rr;split
  .rw[dB r (n+1)<|(x,n)::acc,dB r (n+1) [(x,n)],Q8]
   rfl
  .exact dB r n acc
theorem iO:∀{b:a0K} {n:Nat} {x:Qa} {c:O7},(x,c)∈Rr n b []->(x,Xg)∈b
 |[],_,_,_,h=>by cases h
 |(y,k)::r,n,x,c,h=>by
  unfold Rr at h;split at h
  .rename_i a
   rw[dB]at h;rcases QB.mp h with h|h
   .exact O1 _ (iO h)
   .obtain⟨rfl,_⟩:x=y/\c=n:=by simpa using h
    obtain rfl:k= .cell:=by simpa using a
    exact Pa
  .exact O1 _ (iO h)
noncomputable def dn(cells:a0n):a0K->a0n->a0n
 |[],acc=>acc
 |(x,k)::r,acc=>if k== .free then dn cells r ((x,(cells.lookup x).getD 0)::acc)else dn cells r acc
theorem l9{cells:a0n}:∀{b:a0K} {acc:a0n} {x:Qa} {c:O7},(x,c)∈dn cells b acc->(x,c)∈acc\/((x,Sn)∈b/\c=(cells.lookup x).getD 0)
 |[],_,_,_,h=> .inl h
 |(y,k)::r,acc,x,c,h=>by
  unfold dn at h;split at h
  .rename_i a
   obtain rfl:k= .free:=by simpa using a
   rcases l9 h with h|⟨h,e⟩
   .rcases Pr.mp h with h|h
    .cases h
     exact .inr ⟨Pa,rfl⟩
    .exact .inl h
   .exact .inr ⟨O1 _ h,e⟩
  .rcases l9 h with h|⟨h,e⟩
   .exact .inl h
   .exact .inr ⟨O1 _ h,e⟩
theorem pK:∀{b:a0K} {w:a0n} {p:Qa×O7},p∈w->p∈dn cells b w
 |[],_,_,h=>h
 |(y,k)::r,w,p,h=>by
  unfold dn;split
  .exact pK (O1 _ h)
  .exact pK h
theorem pJ{cells:a0n}:∀{b:a0K} {acc:a0n} {x:Qa},(x,Sn)∈b->(x,(cells.lookup x).getD 0)∈dn cells b acc
 |[],_,_,h=>by cases h
 |(y,k)::r,acc,x,h=>by
  unfold dn;rcases Pr.mp h with h|h
  .cases h
   rw[Pc<|by decide];exact pK Pa
  .split
   .exact pJ h
   .exact pJ h
theorem lY{b:Type}:∀{l:List (Qa×b)} {x:Qa} {c:b},(x,c)∈l->∃d,l.lookup x=on d
 |[],_,_,h=>by cases h
 |(y,d)::r,x,c,h=>by
  rw[RU];cases a:x==y with
  |true=>exact⟨d,rfl⟩
  |false=>
   rcases Pr.mp h with h|h
   .cases h
    simp at a
   .exact lY h
theorem c7{w:Type}:∀{l:List (Qa×w)} {x:Qa} {c:w},(l.map (·.1)).Nodup->(x,c)∈l->l.lookup x=on c
 |[],_,_,_,h=>by cases h
 |(y,d)::r,x,c,nd,h=>by
  rw[Pi]at nd;obtain⟨a,b⟩:=Qi.mp nd;rw[RU];rcases Pr.mp h with h|h
  .cases h
   simp
  .have:x≠y:=λe=>a<|e▸List.mem_map_of_mem (f:=(·.1)) h
   rw[beq_eq_false_iff_ne.mpr this];exact c7 b h
theorem sE{env:WY}(f:Qa×Tz->a0n->Sem (ForInStep a0n))
  (g:∀D E K,f (D,E) K=if E== .free then(do let a <-cellOf env D;Rz (.yield<|(D,a)::K))else Rz (.yield K)):
  ∀(w:a0K) (G:a0n),(∀y∈w,y.2= .free->∃c,env.cells.lookup y.1=on c)->YF w G f=Rz (dn env.cells w G)
 |[],_,_=>by rw[SL];rfl
 |(x,k)::r,G,h=>by
  rw[Su,g];unfold dn;have i:∀y∈r,y.2= .free->∃c,env.cells.lookup y.1=on c:=λy j=>h y<|O1 _ j;by_cases b:(k==Sn)=O6
  .rw[Pc b,Pc b]
   obtain⟨c,hc⟩:=h (x,k) Pa (by simpa using b);have d:env.cells.lookup x=on c:=hc;have e:cellOf env x=Rz c:=by unfold cellOf;rw[d]
   rw[e,d];simp only[pure_bind];exact sE f g r _ i
  .rw[Pd b,Pd b]
   simp only[pure_bind];exact sE f g r _ i
theorem AB{b:Scope}{env:WY}(h:∀y∈b.names,y.2= .free->∃c,env.cells.lookup y.1=on c):closureFor b env=Rz (dn env.cells b.names []):=by
 simp only[closureFor];rw[sE (env:=env) _ (λD w E=>by cases a:w==Sn<;>simp[a]) b.names [] h]
 rfl
theorem G3{M:WU}{E:a0d}{s:Pe}{w:Scope}
  (f:∀G:Qt,G.Ns s.heap.objs.size (λ_=>OZ)->(∀b o,s.heap.get? b=on o->G.get? b=on o)->
   (∀n c,(n,c)∈Rr (s.heap.objs.size+1) w.names []->G.IsCell c OZ/\s.heap.objs.size+1<=c)->
   ((Rr (s.heap.objs.size+1) w.names []).Pairwise λx y=>x.2≠y.2)->
   Q (newEnv w s.heap.objs.size globals (Rr (s.heap.objs.size+1) w.names cl) g OZ .none (on h) Yy) {s with heap:=G}):
  Pq M A (YJ w globals cl [] g OZ .none<|on h) Q E s:=by
 simp only[YJ,Option.isSome_some,Qs];refine My<|X6 ?_;refine My<|wpAny_layCells _ (λS D K=>by cases a:D==Xg<;>simp[a]) _ _ _ _ ?_
 have P:=cellsFrom_ok w.names (s.heap.push {cls:= .type "dict",data:= .dict #[]}) (s.heap.objs.size+1) [] ⟨λ_ _ V=>(nomatch V),VE⟩ (by rw[QZ];exact Pg _);rw[QZ]at P;rw[show({s with heap:=s.heap.push {cls:= .type "dict",data:= .dict #[]}}:Pe).heap.objs.size=s.heap.objs.size+1 from QZ ..];have d:=f (pushCells (s.heap.push {cls:= .type "dict",data:= .dict #[]}) w.names) ((Heap.Ns.new s.heap<|.type "dict").keeps<|pushCells_keeps _ _) (λb o e=>pushCells_keeps _ _ b o<|O3 _ e) P.empty P.apart;exact My<|O0<|O0 d
noncomputable abbrev aI(X:Cx)(a:a0h)(w:Scope)(D:a0n)(C:O7)(b:a0q)(s:Pe)(H:Hp):Cx:=
 {X with N:=a,s₀:=s,H₀:=H,e:=compEnvC w D C X.e,outer:=X.k,k:=X.k,ex:=b,fn:=λx=>w.names.lookup x !=on .free,pn:=[],xe:=λ_ _=>False}
theorem j2{b:Scope}{y:Qa×Tz}(h:y∈(relabel b c).names):y∈b.names\/(y.2= .cell/\(y.1,Sn)∈b.names):=by
 obtain⟨⟨n,k⟩,w,e⟩:=Pj.mp h
 dsimp only at e
 split at e
 .rename_i a
  cases e;simp only[PV,Se]at a;obtain⟨⟨a,_⟩,_⟩:=a;subst a;exact .inr ⟨rfl,w⟩
 .cases e
  exact .inl w
theorem GT{X:Cx}{Q:St}{s:Pe}{Nc G:a0h}{K:a0a}{w:Scope}{V:Qt}(I:cx X a_ Q H s)
  (hk:w.kind= .function) (g:(w.names.map (·.1)).Nodup) (f:∀y∈w.names,y.2= .free->X.e.kindOf y.1=on .cell\/X.e.kindOf y.1=on .free)
  (R:Nc=G++K.map (λj=>X.N.getD j Ta)) (T:∀j∈K,j<VX X.N/\w.names.lookup (X.N.getD j Ta)=on .free)
  (F:∀b∈fp,fM X a_ H b) (U:∀b∈fp,∃o,s.heap.get? b=on o) (ns:V.Ns s.heap.objs.size λ_=>OZ) (D:∀b o,s.heap.get? b=on o->V.get? b=on o)
  (O:∀n c,(n,c)∈Rr (s.heap.objs.size+1) w.names []->V.IsCell c OZ/\s.heap.objs.size+1<=c) (ca:(Rr (s.heap.objs.size+1) w.names []).Pairwise λx y=>x.2≠y.2):
  cx (aI X Nc w (Rr (s.heap.objs.size+1) w.names<|dn X.e.cells w.names []) s.heap.objs.size fp s H) [] (Py (VX G) OZ++K.map (λj=>Q.getD j OZ)) H {s with heap:=V}:=by
 --the cells
 have aa:∀{x:Qa} {c:O7},(x,c)∈dn X.e.cells w.names []->X.e.cells.lookup x=on c/\(x,Sn)∈w.names:=λ{x c} h=>by
  rcases l9 h with h|⟨hm,e⟩
  .cases h
  .obtain⟨d,hd⟩:=I.ok.has x<|f _ hm rfl
   rw[hd]at e;exact⟨by rw[hd,e];rfl,hm⟩
 have a:∀{x:Qa} {c:O7},(Rr (s.heap.objs.size+1) w.names<|dn X.e.cells w.names []).lookup x=on c->
   (x,c)∈Rr (s.heap.objs.size+1) w.names []\/(X.e.cells.lookup x=on c/\(x,Sn)∈w.names):=λ{x c} h=>by
  have h:=Q2 h;rw[dB]at h;rcases QB.mp h with h|h
  .exact .inl h
  .exact .inr (aa h)
 have E:∀{x:Qa},(x,Sn)∈w.names->∃c,X.e.cells.lookup x=on c/\(Rr (s.heap.objs.size+1) w.names<|dn X.e.cells w.names []).lookup x=on c:=λ{x} hm=>by
  obtain⟨d,hd⟩:=I.ok.has x<|f _ hm rfl;have e:=pJ (cells:=X.e.cells) (acc:=[]) hm;obtain⟨c,hc⟩:=lY (l:=Rr (s.heap.objs.size+1) w.names<|dn X.e.cells w.names []) (x:=x) (c:=(X.e.cells.lookup x).getD 0) (by rw[dB];exact Qg _ e);rcases a hc with z|⟨z,_⟩
  .have B:=c7 g<|iO z
   rw[c7 g hm]at B;cases B
  .exact⟨c,z,hc⟩
 have k:∀{x:Qa} {c:O7},X.e.cells.lookup x=on c->c<s.heap.objs.size:=λ{x c} h=>let ⟨v,q⟩:=I.cell x c h;q.lt
 have M:H s.heap.objs.size=OZ:=I.hok.fresh<|Pg _;have W:∀b∈fx X.k,b∈X.e.locals::X.fs:=I.stkSub;refine⟨⟨I.ok.mod,hk,I.ok.glob,I.ok.blt,Pg _,λx y c h1 h2=>?_,λx hx=>?_,λx c hf h=>?_,I.ok.hd,I.ok.frames,.inl rfl,λb J=>⟨?_,λx c h e=>?_⟩,I.bs,Pk I.ok.bsz I.sz,λb o e J=>?_,λb J hf=>?_,I.stack,I.stkFree⟩,
  rfl,I.bare,Un.kept D,⟨_,ns,λi x v e1 A e3=>?_⟩,λx c h=>?_,M,λx c h=>?_,λp hp=>PU hp (by simp),I.hok.kept D,?_⟩
 .rcases a h1 with B|⟨B,_⟩<;>rcases a h2 with Y|⟨Y,_⟩
  .exact name_of_addr ca B Y
  .exact PU (PZ (k Y)<|Pk (T4 _) (O _ _ B).2) (Qw _)
  .exact PU (PZ (k B)<|Pk (T4 _) (O _ _ Y).2) (Qw _)
  .exact I.ok.inj _ _ _ B Y
 .--has
  have hx:(relabel w X.e).names.lookup x=on .cell\/(relabel w X.e).names.lookup x=on .free:=hx;have hm:(x,Xg)∈w.names\/(x,Sn)∈w.names:=by
   rcases hx with hx|hx
   .rcases j2 (Q2 hx)with z|⟨_,z⟩
    .exact .inl z
    .exact .inr z
   .rcases j2 (Q2 hx)with z|⟨_,z⟩
    .exact .inr z
    .exact .inr z
  rcases hm with hm|hm
  .have q:=YB w.names (s.heap.objs.size+1) (dn X.e.cells w.names []) (x:=x)<|.inl<|c7 g hm
   exact XA.mp q
  .obtain⟨c,_,hc⟩:=E hm
   exact⟨c,hc⟩
 .--cab
  rcases a h with z|⟨_,z⟩
  .exact Pk (T4 _) (O _ _ z).2
  .have z':(w.names.lookup x !=on .free)=O6:=hf
   rw[c7 g z]at z';exact PU z' (by decide)
 .obtain⟨o,e⟩:=U b J
  exact Qm<|PQ e
 .rcases a h with z|⟨z,_⟩
  .obtain⟨o,e'⟩:=U b J
   subst e;exact PU (PZ (PQ e')<|Pk (T4 _) (O _ _ z).2)<|Qw _
  .exact(F b J).2.2.2.2.1 x c z e
 .obtain⟨_,_,_,h4,_⟩:=F b J
  rcases h4 with z|z
  .exact I.ok.noex b o e z
  .exact PU (PZ (PQ (I.ok.bs b o e).1) z) (Qw _)
 .obtain⟨_,h2,h3,_⟩:=F b J
  rcases Pr.mp (W b hf)with z|z
  .exact h2 z
  .exact h3 z
 .--the names' values
  have hi:¬i<VX G:=λhi=>by
   rw[Tx (by simpa using hi),R3]at A;split at A<;>cases A
  have L:(G++K.map (λj=>X.N.getD j Ta))[i]?=on x:=by rw[<-R];exact e1
  rw[RK<|by lia]at L;rw[RK<|by simpa using hi]at A;rw[Rt]at A;cases q:K[i-VX G]? with
  |none=>rw[O9,q]at A;cases A
  |some j=>
   rw[O9,q]at L A;have C:X.N.getD j Ta=x:=P3 L;have Z:Q.getD j OZ=on v:=P3 A;obtain⟨hj,t⟩:=T j<|PD q;rw[C]at t;obtain⟨c,hc,ab⟩:=E<|Q2 t;have ac:X.N[j]?=on x:=by
    rw[<-C,O5,O4 hj];rfl
   have P:Q[j]?=on (on v):=by
    have hl:j<VX Q:=by rw[I.len];exact hj
    rw[O5,O4 hl]at Z;rw[O4 hl];exact QG on Z
   have S:=f _ (Q2 t) rfl;obtain⟨m,hn,hl⟩:=I.loc;obtain⟨u,r,l⟩:=hl j x v ac P<|S.elim (λz=> .inr<|.inl z) λz=> .inr<|.inr z;refine⟨u,r,.inr ⟨?_,c,ab,?_⟩⟩
   .rcases e3 with z|z|z
    .exfalso
     rcases j2 (Q2 z)with y|⟨y,_⟩
     .rw[c7 g y]at t;cases t
     .cases y
    .exact .inl z
    .exact .inr z
   .rcases l with⟨l,_⟩|⟨_,c',e,z⟩
    .exfalso
     rcases S with y|y
     .have y':X.e.kindOf x=on .cell:=y
      rw[l]at y';cases y'
     .have y':X.e.kindOf x=on .free:=y
      rw[l]at y';cases y'
    .rw[hc]at e
     cases e;exact z.keeps D
 .rcases a h with z|⟨z,_⟩
  .exact⟨OZ,(O _ _ z).1⟩
  .obtain⟨v,q⟩:=I.cell x c z
   exact⟨v,q.keeps D⟩
 .rcases a h with z|⟨z,_⟩
  .exact I.hok.fresh (Pk (T4 _) (O _ _ z).2)
  .exact I.freeC x c z
 .show _=VX Nc
  rw[R,PR,PR,Rt,OY,OY]
abbrev TB:=St->Hp->(St->Hp->Prop)->Prop
abbrev a0X:=O7->TB
inductive CKd where
 |L (e:Expr)|S (e:Expr)|D (k v:Expr)
instance:Coe Expr CKd:=⟨.L⟩
noncomputable def ri(c:CKd)(gens:a0O)(b:Scope)(w:Uq):Expr:=match c with
 | .L e=> .ListComp e gens b w
 | .S e=> .SetComp e gens b w
 | .D k v=> .DictComp k v gens b w
noncomputable def emC(c:CKd)(w:Pb)(b:WY):Sem Unit:=match c with
 | .L e=>do let _ <-VI (.builtin "list.append") [w,<-Qz e b]
 | .S e=>do let v <-Qz e b;SJ e.pos;let _ <-VI (.builtin "set.add") [w,v]
 | .D k v=>do
   let kv <-Qz k b
   let vv <-TR [kv] (Qz v b)
   match w with
   | .ref d=>do
    SJ {k.pos with endLine:=v.pos.endLine,endCol:=v.pos.endCol}
    TR [kv,vv] (dictSet d kv vv)
   |_=>unsupported "internal:dictcomp"
noncomputable def iG(c:CKd)(w:a0O)(D:Scope)(K:Uq)(d:Nat)(G:Pb)(b:WY)(k:Sem Vk):Sem Vk:=
 match w[d+1]? with
 |some E=>do
  let x <-Qz E.iter b
  SJ E.iter.pos
  let x <-if E.is_async !=0 then foldedIterable E.iter x else Qq E.iter b x
  let _ <-runOwn (.compStart (ri c w D K) (d+1) (<-TR [x] (if E.is_async !=0 then asyncIter x else WB x)) G b) b
  k
 |none=>do
  emC c G b
  k
theorem wS{a b:Expr}(e:f[d]?=on ⟨a,b,l,0⟩):
  compTurn (ri c f g i) d k j h=(do
   SJ b.pos
   match <-Ul k with
   |none=>Rz<|.done .next
   |some v=>
    UV a k v
    UU a h v
    let mut ok:=O6
    for y in l do
     if ok then ok <-isTrue y h (Qz y h)
    if ok then iG c f g i d j h (X4<|.compLoop (ri c f g i) d k j h)
    else X4 (.compLoop (ri c f g i) d k j h)):=by
 cases c<;>(
  unfold compTurn iG ri emC
  dsimp only
  rw[e]
  dsimp only
  cases f[d+1]?<;>rfl)
variable{O:P6}{A:Qy}{R:Result->Pe->Prop}{s:Pe}
theorem GE(F:L[d]?=on ⟨b_,W,U,0⟩)(I:Nat->Pe->Prop)
  (q:∀n s,I n s->Pq (PM O w) A (Ul T) (λr a=>match r with
   |none=>R (.ok .next) a
   |some v=>Pq (PM O w) A (UV b_ T v) (λ_ b=>Pq (PM O w) A (UU b_ H v) (λ_ j=>
    Pq (PM O w) A (YF U O6 λy r=>if r=O6 then do let E <-isTrue y H (Qz y H);Rz (Vb E)else Rz (Vb r)) (λE g=>
     if E=O6 then ∀(k:Sem Vk) (B:Vk->Pe->Prop) (C:a0d),(∀i m,m<n->I m i->Pq (PM O w) A k B C i)->Pq (PM O w) A (iG c L J N d Q H k) B C g
     else ∃m,m<n/\I m g) (λ_ _=>False) j) (λ_ _=>False) b) (λ_ _=>False) a) (λ_ _=>False) s)
  (n:Nat) (h:I n s):
  SW (PM O w) A (.compLoop (ri c L J N) d T Q H) R s:=by
 refine codeAny_loop rfl I (λn s hI=>?_) n h
 suffices z:Pq (PM O w) A ((compTurn (ri c L J N) d T Q H).onRaise (λx=>do ZJ x H;theTreesLotGoes x)) (λu G=>match u with
   |Fin.done f=>R (RG f) G
   |Fin.again c'=>c'=Code.compLoop (ri c L J N) d T Q H/\∃m,m<n/\I m G) (λe G=>R (Except.error e) G) s by cases c<;>exact z
 refine wpAny_noted ?_;rw[wS F];refine My<|Q3<|My<|Qj (q n s hI) (λr a l=>?_) λ_ _ D=>D.elim;cases r with
 |none=>exact O0 l
 |some v=>
  refine My<|Qj l (λ_ b p=>?_) λ_ _ D=>D.elim;refine My<|Qj p (λ_ j t=>My<|Qj t (λE g o=>?_) λ_ _ D=>D.elim) λ_ _ D=>D.elim;cases E with
  |false=>exact O0 ⟨rfl,o⟩
  |true=>exact o _ _ _ λi m K hI=>O0 ⟨rfl,m,K,hI⟩
theorem BO(j:l[d]?=on ⟨b_,o,q,0⟩)
  (i:SW (PM O w) A (.compLoop (ri c l k m) d r p n) R s)
  (h:Pq (PM O w) A (WB r) (λa D=>SW (PM O w) A (.compLoop (ri c l k m) d a p n) R D) (λ_ _=>False) s):
  SW (PM O w) A (.compStart (ri c l k m) d r p n) R s:=by
 refine Yd ?_
 suffices z:Pq (PM O w) A ((compStart (ri c l k m) d r p n).onRaise (λx=>do ZJ x n;SJ theWindowsPlace)) (λg D=>match g with
   |Fin.done f=>R (RG f) D
   |Fin.again c'=>c'.quiet=O6/\SW (PM O w) A c' R D) (λe D=>R (Except.error e) D) s by cases c<;>exact z
 refine wpAny_notedAt ?_;unfold compStart;have b:(clausesOf<|ri c l k m)[d]?=on ⟨b_,o,q,0⟩:=by cases c<;>exact j
 generalize (clausesOf<|ri c l k m)[d]?=og at b⊢;subst b;show Pq _ _ (ask>>=_) _ _ s;refine My<|UC<|wpAny_ite ?_;split
 .first
   |exact My (O0 (O0 (Yh rfl i)))
   |exact O0 (Yh rfl i)
 .first
   |exact My (Tf (My (Q3 (My (Qj h (λa D E=>O0<|Yh rfl E) λ_ _ x=>x.elim)))))
   |(refine My (Tf ?_);show Pq _ _ (SJ o.pos>>=_) _ _ s;exact My (Q3 (My (Qj h (λa D E=>O0<|Yh rfl E) λ_ _ x=>x.elim))))
def dW(X:Cx)(b:List Expr)(t:TT):Prop:=
 ∀(a:a0b) (s:Pe) (d:St) (H:Hp) (Q:a0U),cx X a d H s->t d H Q->
  Pq (PM X.p X.w) X.A (YF b O6 λc r=>if r=O6 then do let ok <-isTrue c X.e (Qz c X.e);Rz (Vb ok)else Rz (Vb r)) (TP X a d Q) X.xe s
noncomputable def KJ:TT:=λ_ H Q=>Q O6 H
theorem vT{X:Cx}:dW X [] KJ:=λ_ _ _ H _ I h=>O0 ⟨H,I,h⟩
theorem Gb{X:Cx}(hc:PT X c t):dW X [c] t:=λa s d H Q I h=>by
 simp only[Su,SL,Qs];exact My<|My<|Qj (hc a s d H Q I h) (λb w e=>O0<|O0 e) λ_ _ x=>x
def PB(X:Cx)(c:CKd)(gens:a0O)(E:Scope)(G:Uq)(d:Nat)(D:O7)(t:TB):Prop:=
 ∀(a:a0b) (s:Pe) (e:St) (H:Hp) (Q:a0F),cx X a e H s->t e H Q->
  ∀(k:Sem Vk) (f:Vk->Pe->Prop) (g:a0d),(∀K b h,cx X a b h K->Q b h->Pq (PM X.p X.w) X.A k f g K)->Pq (PM X.p X.w) X.A (iG c gens E G d (.ref D) X.e k) f g s
def de(J:It)(g:TG)(s:TT)(j:TB):TB:=λc H Q=>∃W:Nat->Nat->St->Hp->Prop,(∃m,W 0 m c H)/\∀i m c H,W i m c H->
 (J.stop i H/\Q c H)\/(J.go i H/\∃N:St->Hp->Prop,(∀d e,N d e->∃f,f<m/\W (i+1) f d e)/\∀x e,J.yld i H x e->g x c e λa k=>s a k λb h=>if b=O6 then j a h N else N a h)
def AG(D:O7)(c:TE):TB:=λa H Q=>c a H λv b=>∃s,b D=on (.l s)/\VX s<Ps/\Q a (upd b D<|.l<|s++[v])
def AF(b:TI)(c:It->TB):TB:=λa H Q=>b a H λJ d=>c J a d Q
variable{c:CKd}{ac b_ P:Expr}{ab:List Expr}{gens:a0O}{scope:Scope}{aa:Uq}{d:Nat}{D:O7}
theorem uc(hg:gens[d]?=on ⟨b_,P,ab,0⟩)(hc:X.calm=O6)(F:X.xe=λ_ _=>False)(R:PG X b_ g)(S:dW X ab tt)(j:PB X c gens scope aa d D tb)
  {s:Pe}
  (I:cx X a_ σ H s) (T:oa X.p X.w X.K b_ J fp it tn) (st:tn 0 s.heap) (hf:∀b∈fp,fM X a_ H b) (h:de J g tt tb σ H Q):
  SW (PM X.p X.w) X.A (.compStart (ri c gens scope aa) d (.ref it) (.ref D) X.e) (λr E=>r= .ok .next/\∃a f,cx X a_ a f E/\Q a f) s:=by
 obtain⟨W,⟨m0,w0⟩,L⟩:=h;have l:∀{f:Hp},(∀b∈fp,f b=OZ)->∀b∈fp,fM X a_ f b:=λhn b j=>⟨hn b j,(hf b j).2⟩;have t:SW (PM X.p X.w) X.A (.compLoop (ri c gens scope aa) d (.ref it) (.ref D) X.e) (λr E=>r= .ok .next/\∃a f,cx X a_ a f E/\Q a f) s:=by
  refine GE hg (λn E=>∃i a f,cx X a_ a f E/\tn i E.heap/\(∀b∈fp,f b=OZ)/\W i n a f) ?_ m0 ⟨0,σ,H,I,st,λb j=>(hf b j).1,w0⟩;rintro n s3 ⟨i,p,Z,I3,O,U,w3⟩;rcases L i n p Z w3 with⟨G,qn⟩|⟨go,N,hN,step⟩
  .refine d5 (T.done X rfl rfl rfl hc i a_ s3 p Z _ I3 (l U) O G) λr s4 ⟨V,I4⟩=>?_
   subst V;exact⟨rfl,p,Z,I4,qn⟩
  .refine d5 (T.item X rfl rfl rfl hc i a_ s3 p Z _ I3 (l U) O go) λr s4 ⟨u,V,h4⟩=>?_
   subst V;refine d5 h4 λ_ s5 ⟨x,H5,I5,r5,y5,v,ac⟩=>?_;have ad:=I5.pinned (l ac)<|T.obj _ _ v;have X4:∀{q:St} {y:Hp} {B:Pe},cx X (a_++mB fp s5.heap) q y B->N q y->∃m,m<n/\∃i a f,cx X a_ a f B/\tn i B.heap/\(∀b∈fp,f b=OZ)/\W i m a f:=λ{q y B} C n7=>by
    obtain⟨m',hm,w7⟩:=hN q y n7;refine⟨m',hm,i+1,q,y,C.j6,T.keep _ _ _ v λb j o e=>(C.pin (b,o)<|Qg _<|Qg _<|iZ j e).1,λb j=>?_,w7⟩;obtain⟨o,e,d⟩:=T.obj _ _ v b j;exact(C.pin (b,o)<|Qg _<|Qg _<|iZ j e).2.1
   have h6:=R _ s5 p H5 x u _ ad r5<|step x H5 y5;rw[F]at h6;refine d5 h6 λ_ s6 ⟨Y,H6,I6,q6⟩=>?_;have h7:=S _ s6 Y H6 _ I6 q6;rw[F]at h7;refine d5 h7 λb B ⟨y,C,M⟩=>?_;cases b with
   |true=>
    rw[Pc rfl]at M⊢;intro k Q' E' hk;refine j _ B Y y N C M k Q' E' λs8 ae H8 I8 n8=>?_;obtain⟨m,hm,z⟩:=X4 I8 n8;exact hk s8 m hm z
   |false=>
    rw[Pd Pf]at M⊢;exact X4 C M
 exact BO hg t<|T.self X.A 0 s _ _ st t
theorem aN(m:gens[d+1]?=OZ)(o:PE X ac x)(b:X.xe=λ_ _=>False):PB X ac gens scope aa d D (AG D x):=by
 intro a s g H Q I h k y B p;unfold iG;rw[m];show Pq _ _ ((do let _ <-VI (.builtin "list.append") [.ref D,<-Qz ac X.e])>>=λ_=>k) _ _ _
 have i:=o a s g H _ I h;rw[b]at i;refine My<|My<|Qj i (λu C ⟨v,J,j,r,w,l,L,q⟩=>?_) λ_ _ f=>f.elim;obtain⟨z,c,n,t,N,e⟩:=j.lstM l;refine My<|YA F.slot_list_append ⟨_,e,rfl⟩ F.entry_list_append (ZL _ _) (ZC D c.toArray n u<|by rw[PH];lia) ⟨e,?_⟩;refine O0<|p _ g _ (j.lset (its':=c++[u]) l e (by simp) (t.append<|.cons r .nil) ?_) q;rw[PR,QO];lia
theorem rV(o:gens[d+1]?=on ⟨target',iter',ifs',0⟩)(hc:X.calm=O6)(a:X.xe=λ_ _=>False)(p:PI X target' iter' wi)
  (j:PG X target' g) (l:dW X ifs' tt) (t:PB X c gens scope aa (d+1) D tb) (w:∀x,Qq iter' X.e x=Rz x:=by intro _;rfl):PB X c gens scope aa d D (AF wi λJ=>de J g tt tb):=by
 intro b s u H Q I h k U W y;unfold iG;rw[o];have i:=p b s u H _ I h;rw[a]at i;refine My<|Qj i (λv Y i=>My<|Q3 ?_) λ_ _ f=>f.elim;show Pq _ _ (Qq iter' X.e v>>=_) _ _ _;refine My<|TF (w v) ?_;show Pq _ _ (TR [v] (WB v)>>=_) _ _ _;refine My<|QL<|Qj i (λB Z C=>?_) λ_ _ f=>f.elim;obtain⟨G,K,M,J,P,e,F,T,m,f2,q⟩:=C;subst e;refine My<|wpAny_runOwn<|TN (uc o hc a j l t F T m f2 q) λr A ⟨L,z⟩=>?_;subst L;obtain⟨n,N,O,E⟩:=z;exact y A n N O E
noncomputable def kX(b:a0h)(c:a0a)(a:St):St:=Py (VX b) OZ++c.map (λj=>a.getD j OZ)
def Mks(X:Cx)(mk:Sem Pb)(g:O7->HO):Prop:=∀(a:a0b) (s:Pe) (f:St) (H:Hp) (E:a0d) (Q:a0d),cx X a f H s->
 (∀e:Pe,cx X a f (upd H s.heap.objs.size<|g s.heap.objs.size) e->(∀b o,s.heap.get? b=on o->e.heap.get? b=on o)->Q (.ref s.heap.objs.size) e)->Pq (PM X.p X.w) X.A mk Q E s
theorem v6{X:Cx}:Mks X (newList []) λ_=> .l []:=λa s f H E Q I h=>QP<|h _ (I.lnew (t':=s.toks) .nil<|Qk _) λb o e=>O3 _ e
def pW(c:a0h)(d:a0a)(e:TI)(f:O7->It->TB):TE:=λa H Q=>e a H λJ b=>∀D,b D=OZ->f D J (kX c d a) (upd b D<|.l []) λ_ g=>Q (.r D) g
structure di (X:Cx) (scope:Scope) (Nc c_:a0h) (cy:a0a):Prop where
 kind:scope.kind= .function
 nd:(scope.names.map (·.1)).Nodup
 free:∀y∈scope.names,y.2= .free->X.e.kindOf y.1=on .cell\/X.e.kindOf y.1=on .free
 names:Nc=c_++cy.map (λj=>X.N.getD j Ta)
 cap:∀j∈cy,j<VX X.N/\scope.names.lookup (X.N.getD j Ta)=on .free
variable{R:a0O}{Nc c_:a0h}{cy:a0a}{g:TG}{tt:TT}{tb:a0X}{wi:TI}
def M7(X:Cx)(a:a0b)(H:Hp)(C:O7):Prop:=H C=OZ/\C≠X.e.locals/\X.s₀.heap.objs.size<=C/\(∀x c,X.e.cells.lookup x=on c->c≠C)/\∀p∈X.pn++a,p.1≠C
theorem iF{c:CKd}{mk:Sem Pb}{B:O7->HO}(O:Mks X mk B){f:a0b}{F:St}{H:Hp}{s:Pe}{it:O7}{h:a0q}{Q:Nat->Qt->Prop}{J:It}{E:a0d}{QQ:O7->Hp->Prop}{RR:Pb->O7->Result->Pe->Prop}
  (hc:X.calm=O6) (S:di X scope Nc c_ cy)
  (L:∀(cl:a0n) (C:O7) (h:a0q) (s:Pe) (H:Hp),PG (aI X Nc scope cl C h s H) b_ g/\dW (aI X Nc scope cl C h s H) ab tt/\∀D,PB (aI X Nc scope cl C h s H) c (⟨b_,P,ab,0⟩::R) scope aa 0 D<|tb D)
  (I:cx X f F H s) (T:oa X.p X.w X.K b_ J h it Q) (st:Q 0 s.heap) (U:∀b∈h,fM X f H b)
  (q:∀D,H D=OZ->de J g tt (tb D) (kX c_ cy F) (upd H D<|B D) λ_ k=>QQ D k)
  (W:∀(D C:O7) (M:Pe) (k:Hp) (m:a0i),cx X f F k M->M.heap.Ns C m->M7 X f k C->QQ D k->RR (.ref D) C (.ok .next) M):
  Pq (PM X.p X.w) X.A mk (λV t=>Pq (PM X.p X.w) X.A (YJ scope X.e.globals (dn X.e.cells scope.names []) [] X.e.qual OZ .none<|on X.e) (λj u=>
   SW (PM X.p X.w) X.A (.compStart (ri c (⟨b_,P,ab,0⟩::R) scope aa) 0 (.ref it) V {j with scope:=relabel scope X.e}) (RR V j.locals) u) E t) E s:=by
 refine O f s F H _ _ I λi l y=>?_;have hD:H s.heap.objs.size=OZ:=I.fresh;have q3:=q s.heap.objs.size hD;have Y:∀b∈h,∃o,i.heap.get? b=on o:=λb L=>let ⟨o,e,_⟩:=T.obj _ _ st b L;⟨o,y b o e⟩
 have Z:∀b∈h,fM X f (upd H s.heap.objs.size<|B s.heap.objs.size) b:=λb a=>⟨by
  rw[bb]
  .exact(U b a).1
  .obtain⟨o,e,_⟩:=T.obj _ _ st b a
   exact Qm<|PQ e,(U b a).2⟩
 generalize ac:upd H s.heap.objs.size (B s.heap.objs.size)=H3 at l q3 Z;generalize s.heap.objs.size=D at hD ac q3⊢;refine G3 λh' ns G ce ca=>?_;have N:=GT l S.kind S.nd S.free S.names S.cap Z Y ns G ce ca;obtain⟨b1,b2,b3⟩:=L (Rr (i.heap.objs.size+1) scope.names<|dn X.e.cells scope.names []) i.heap.objs.size h i H3;have ad:Q 0 h':=T.keep _ _ _ st λb L o e=>G b o<|y b o e;have f4:∀b∈h,fM (aI X Nc scope (Rr (i.heap.objs.size+1) scope.names<|dn X.e.cells scope.names []) i.heap.objs.size h i H3) [] H3 b:=λb a=>
  ⟨(Z b a).1,(N.ok.exf b a).1,N.ok.exfs b a,.inl a,(N.ok.exf b a).2,λp hp=>PU hp<|by simp⟩
 refine TN (uc (X:=aI X Nc scope (Rr (i.heap.objs.size+1) scope.names<|dn X.e.cells scope.names []) i.heap.objs.size h i H3) (gens:=⟨b_,P,ab,0⟩::R) (d:=0) rfl hc rfl b1 b2 (b3 D) N T ad f4 q3) λr M ⟨hr,ae,k,n,q'⟩=>?_;subst hr;obtain⟨m,hm,_⟩:=n.loc;have C1:X.e.locals<i.heap.objs.size:=l.lt;refine W D _ M k m (l.call' (ch:=h) n.os n.base n.hok n.bare λb a=>?_) hm ⟨n.free,Sd C1,l.sz,λx c e z=>?_,λp hp z=>?_⟩ q'
 .obtain⟨_,h2,h3,h4,h5,h6⟩:=U b a
  exact⟨h4,h2,h5,h6⟩
 .obtain⟨v,e'⟩:=l.cell x c e
  exact PU (z▸e'.lt)<|Qw _
 .have:=PQ (l.pin p hp).1
  rw[z]at this;exact PU this<|Qw _
theorem cx.letgo{s:Pe}(I:cx X h i H s)(o:M7 X h H C)(c:P7 C s.heap j):cx X h i H {s with heap:=j}:=
 I.turned (t':=s.toks) (λb f a e=>(c.2 b a).trans e) o.1 (Ne.symm<|Ne.symm o.2.1) (.inr o.2.2.1) o.2.2.2.1 o.2.2.2.2
theorem di.clo(S:di X scope Nc c_ cy)(c:X.Ok):closureFor scope X.e=Rz (dn X.e.cells scope.names []):=AB λy a b=>c.has y.1<|S.free y a b
theorem di.j6(S:di X scope Nc c_ cy):∀x∈scope.names,x.2= .local->scope.names.lookup x.1=on .local:=λx a b=>c7 S.nd (by rw[<-b];exact a)
theorem nW(hc:X.calm=O6)(S:di X scope Nc c_ cy)(j:PI X b_ P wi)
  (k:∀(d:a0n) (C:O7) (b:a0q) (s:Pe) (H:Hp),PG (aI X Nc scope d C b s H) b_ g/\dW (aI X Nc scope d C b s H) ab tt/\∀D,PB (aI X Nc scope d C b s H) ac (⟨b_,P,ab,0⟩::R) scope aa 0 D<|tb D)
  (G:∀x,Qq P X.e x=Rz x:=by intro _;rfl):PE X (.ListComp ac (⟨b_,P,ab,0⟩::R) scope aa) (pW c_ cy wi λD J=>de J g tt<|tb D):=by
 intro a s l H Q I h;rw[eval_ListComp];refine SO (use:=OZ) rfl G (S.clo I.ok) S.kind S.j6<|Qj (j a s l H _ I h) (λv B n=>Qj n (λo F p=>?_) λ_ _ x=>x) λ_ _ x=>x;obtain⟨V,b,N,J,O,e,r,T,f,f2,q⟩:=p;subst e;refine iF (c:= .L ac) v6 (RR:=λE C=>YC (PM X.p X.w) X.A X.xe OZ _ E C) hc S k r T f f2 q λD C z t m u K y M=>?_;exact⟨m,K,λU i=>⟨.r D,t,u.letgo y i,rfl,M⟩⟩
theorem xL{b f:Uq}(y:X.N.Nodup)(l:X.N[i]?=on x)(B:F3 X.e.scope x)(hc:X.calm=O6)(S:di X scope Nc c_ cy)(F:PI X b_ P wi)
  (O:∀(d:a0n) (C:O7) (k:a0q) (s:Pe) (H:Hp),PG (aI X Nc scope d C k s H) b_ g/\dW (aI X Nc scope d C k s H) ab tt/\∀D,PB (aI X Nc scope d C k s H) ac (⟨b_,P,ab,0⟩::R) scope aa 0 D<|tb D)
  (n:TU (.ListComp ac (⟨b_,P,ab,0⟩::R) scope aa) (on<|.Name x b) f.line X.e=Rz O6:=by rfl)
  (G:∀x,Qq P X.e x=Rz x:=by intro _;rfl) (U:b0d X x:=by first|exact .inl rfl|exact .inr rfl|assumption):
  PS X (.Assign [.Name x b] (.ListComp ac (⟨b_,P,ab,0⟩::R) scope aa) f) (gl (pW c_ cy wi λD J=>de J g tt<|tb D)<|d7 i):=by
 intro j s W H D I h;rw[exec_Assign_Name_used _ _ _ _ n];refine My<|Q3<|My ?_;show Pq _ X.A (do let _ <-comprehension (.ListComp ac (⟨b_,P,ab,0⟩::R) scope aa) scope X.e _ (newList []) O8 (Qz P X.e) (on<|UU (.Name x b) X.e)) _ _ s
 refine My<|Qj (SO (use:=on<|UU (.Name x b) X.e) (Q:=λ_ s'=>SP X j D .next s') rfl G (S.clo I.ok) S.kind S.j6
  (Qj (F j s W H _ I h) (λv s1 Y=>Qj Y (λZ K M=>?_) λ_ _ e=>e) λ_ _ e=>e)) (λ_ s' V=>O0<|O0 V) λ_ _ e=>e
 obtain⟨it,k,tn,J,H2,e,o,T,p,f2,q⟩:=M;subst e;refine iF (c:= .L ac) v6 (RR:=λE C=>YC (PM X.p X.w) X.A X.xe (on<|UU (.Name x b) X.e) _ E C) hc S O o T p f2 q λA C s' H' m I' ns r q'=>?_;show Pq _ X.A (UU (.Name x b) X.e<|.ref A) _ _ s';refine Xu<|ma I' y l B (v:= .r A) rfl (λK o ⟨a,sb,ha⟩=>?_) U;have t:C≠a:=by
  rcases ha with rfl|ha
  .exact r.2.1
  .exact λz=>r.2.2.2.1 x a ha z.symm
 exact⟨m,ns.sameBut sb t,λh' u=>⟨_,H',o.letgo r u,q'⟩⟩
end
end L2
namespace L2
open Sem (wp)
open Builtin Builtin.ObjectAttr
noncomputable abbrev cK(C:O7)(D:a0C)(t:O7):QS:={cls:= .ref C,dict:=D,data:= .fields #[.ref t,.none,.none,.none,.bool O8,.none]}
structure ko (h:Qt) (C:O7) (bm:a0g):Prop where
 at_:∃(nm q:Qa) (N:O7) (bs:a0g) (hdct:Bool) (sn:a0h) (sub:a0g) (ab:Bool) (col:a0N) (dd:a0C) (k0 k1 k2 k3 k5:Option Pb),
  h.get? C=on (excClassObj nm q C N bs bm hdct sn sub ab col dd k0 k1 k2 k3 k5 "ValueError.__new__")
 val:bm.contains (.type "ValueError")=O6
 bas:bm.contains (.type "BaseException")=O6
 att:bm.contains (.type "AttributeError")=O8
 nam:bm.contains (.type "NameError")=O8
section
variable{L:P6}{w:Qb}{A:Qy}{E:a0d}{h:Qt}{g:Array GenState}{d:Drawn}{t:Nat}{I:Sa}{C:O7}{bm z:a0g}
theorem Kb(S:ko h C bm)
  (l:R (.ok<|.ret<|.ref<|h.objs.size+1) ⟨(h.push {cls:= .type "tuple",data:= .seq z.toArray}).push<|cK C OZ h.objs.size,g,d,t,I⟩) (b:VX z<=Ps):
  SW (PM L w) A (.builtin "ValueError.__new__" ⟨.ref C::z,[]⟩) R ⟨h,g,d,t,I⟩:=by
 obtain⟨⟨K,q,N,M,D,V,E,r,G,s,u,v,x,y,B,c⟩,m,hB,n,o⟩:=S;have a:=Td;have e:=a.ends;have f:(Pw C::bm).contains (.type "ValueError")=O6:=by rw[SS,m,WI]
 have i:(Pw C::bm).contains (.type "AttributeError")=O8:=by rw[SS,n];rfl
 have j:(Pw C::bm).contains (.type "NameError")=O8:=by rw[SS,o];rfl
 refine codeAny_builtinAt a.entry ?_;unfold Builtin.«BaseException.__new__»;refine PySem.wpAt_bind ?_;show PySem.wpAt _ _ _ (stack>>=_) _ _ _;refine PySem.wpAt_bind (PySem.wpAt_stack λp k=>PySem.wpAt_of_wpAny ?_)
 wp_walk
 refine wpAt_of_wpAny ?_;rw[a.owner]
 repeat (first|with_reducible refine wpAny_madeHere_exc a.canon c ?_|with_reducible refine Sb c ?_|(with_reducible refine UZ c ?_;first|rw[f]|rw[i]|rw[j])|wp_step)
 show R _ _;rw[QZ];exact l
theorem uv{K:Pz}(X:K.In h)(S:ko h C bm)(m:RN K (.ref C) "__init__"=on (on<|.ref fI))(n:isFn K (.ref fI)=O6)(a:VX z<=Ps)
  (p:Pq (PM L w) A (VI (.ref fI)<|.ref (h.objs.size+1)::z) (λr G=>r= .none/\Q (.done<|.ret<|.ref<|h.objs.size+1) G) E
   ⟨(h.push {cls:= .type "tuple",data:= .seq z.toArray}).push {cls:= .ref C,data:= .fields #[.ref h.objs.size,.none,.none,.none,.bool O8,.none]},g,d,t,I⟩):
  Pq (PM L w) A (Builtin.«type.__call__» ⟨.ref C::z,[]⟩) Q E ⟨h,g,d,t,I⟩:=by
 have u:=S;obtain⟨⟨J,q,N,O,M,P,V,R,s,T,U,W,Y,Z,k5,f⟩,v,hB,F,H⟩:=S;have k:=Td
 repeat (first|with_reducible refine Sb f ?_|with_reducible refine wpAny_madeBy_exc f ?_|wp_step)
 refine codeAny_call_builtin_code (Wp _ k.quiet)<|wpAny_check_new_subU k v (OwnTail.base (bmB:=bm)) f ?_;refine Kb u ?_ a;show Pq _ _ _ _ _ _;have D:∀b o,h.get? b=on o->((h.push {cls:= .type "tuple",data:= .seq z.toArray}).push {cls:= .ref C,data:= .fields #[.ref h.objs.size,.none,.none,.none,.bool O8,.none]}).get? b=on o:=λb o e=>O3 _<|O3 _ e;have i:=D _ _ f;have l:=X.keeps D;have c:((h.push {cls:= .type "tuple",data:= .seq z.toArray}).push {cls:= .ref C,data:= .fields #[.ref h.objs.size,.none,.none,.none,.bool O8,.none]}).get? (h.objs.size+1)=on {cls:= .ref C,data:= .fields #[.ref h.objs.size,.none,.none,.none,.bool O8,.none]}:=by heap_get
 have j:(Pw C::bm).contains (.ref C)=O6:=by simp
 unfold Vm
 repeat (first|with_reducible refine Sb c ?_|(with_reducible refine UZ i ?_;rw[j])|wp_step)
 show Pq _ _ (typeLookup (.ref C) _) _ _ _;refine(Xp l m).here ?_;refine QL<|My<|(Zx l (.ref<|h.objs.size+1)<|beq_iff_eq.mp n).here ?_;refine My<|Qj p (λr G y=>?_) λ_ _ x=>x;obtain⟨rfl,B⟩:=y
 wp_walk
 exact B
theorem G2{K:Pz}(X:K.In h)(S:ko h C bm)(c:RN K (.ref C) "__init__"=on (on<|.ref fI))(e:isFn K (.ref fI)=O6)(a:VX z<=Ps)
  (f:Pq (PM L w) (A.under<|.builtin "type.__call__" ⟨.ref C::z,[]⟩) (VI (.ref fI)<|.ref (h.objs.size+1)::z) (λr G=>r= .none/\Q (.ref<|h.objs.size+1) G) E
   ⟨(h.push {cls:= .type "tuple",data:= .seq z.toArray}).push {cls:= .ref C,data:= .fields #[.ref h.objs.size,.none,.none,.none,.bool O8,.none]},g,d,t,I⟩):
  Pq (PM L w) A (VI (.ref C) z) Q E ⟨h,g,d,t,I⟩:=by
 have i:=S;obtain⟨⟨n,q,N,o,D,p,M,s,V,u,v,x,y,B,F,b⟩,j,hB,k,l⟩:=S;have f1:=tc_lookup;have f2:=tc_bind<|.ref C;have m:(⟨h,g,d,t,I⟩:Pe).TypeIs (.ref C) "type":=⟨_,b,rfl⟩;refine Vp<|Yd ?_;show Pq _ _ (callAny (.ref C) _) _ _ _
 repeat (any_goals (first|assumption|with_reducible refine Sb b ?_|wp_step))
 refine⟨rfl,?_⟩;exact codeAny_call_builtin_at (Wp _<|by decide +kernel) entry_typeCall<|wpAny_check_type_call_sub b<|uv X i c e a f
theorem su{l:QS}{M:WU}(S:ko h C bm)(o:h.get? e=on l)(c:l.cls= .ref C)(p:Q () ⟨h,g,d,t,I⟩):
  Pq M A (XN "ValueError.__init__" ⟨.ref e::z,[]⟩) Q E ⟨h,g,d,t,I⟩:=by
 obtain⟨⟨K,q,N,L,w,V,D,s,G,y,B,F,H,J,O,m⟩,r,hB,u,v⟩:=S;have i:=Td;have k:(Pw C::bm).contains (.type "ValueError")=O6:=by rw[SS,r,WI]
 have j:=i.noStar;simp only[XN,i.initKind,i.initSplit,i.initRow]
 repeat (first|(with_reducible refine Sb o ?_;rw[c])|with_reducible refine Sb m ?_|(with_reducible refine UZ m ?_;rw[k])|wp_step)
 refine VL ?_;have f:∀(a b:String) (n:Nat),Bind.check ⟨.positional,"*","ValueError",.self,[⟨"args",.varPos,O8⟩]⟩ a b n (QV (λx=>x.fst) ({pos:=Pw e::z}:Args).kw)=Rz ():=λa b n=>check_star_args _ _ _ _ _ _;rw[f];exact O0 p
theorem EO(S:ko h C bm)(f:h.get? e=on (cK C m t0))(a:VX z<=Ps)
  (j:∀D:Qt,D.get? e=on (cK C m h.objs.size)->(∀b o,b≠e->h.get? b=on o->D.get? b=on o)->Q .none ⟨D,g,d,t,I⟩):
  Pq (PM L w) A (VI (.builtin "ValueError.__init__")<|.ref e::z) Q E ⟨h,g,d,t,I⟩:=by
 have i:=Td;refine Vp<|UI i.init.plain i.initEntry<|su S f rfl ?_;have c:=O3 {cls:= .type "tuple",data:= .seq z.toArray} f;unfold Builtin.«BaseException.__init__»
 dsimp only
 refine My ?_;refine WF ?_ a;unfold Y0;refine My<|My<|QY c rfl (x:= .ref t0) rfl ?_;refine My<|Sw c rfl (by simp) ?_
 dsimp only
 refine WD<|O0 ?_;refine j _ ?_ λb o k l=>?_
 .rw[Rh _ c rfl]
  rfl
 .rw[R7 _ _<|Ne.symm k]
  exact O3 _ l
noncomputable def eF:a0g->Bool
 |[.type a,.type b,.type c,.type d]=>a=="ValueError"&&b=="Exception"&&c=="BaseException"&&d=="object"
 | .ref _::r=>eF r
 |_=>O8
theorem vN(d:Pb):refuseLoop d "__setattr__" [.type "ValueError",.type "Exception",.type "BaseException",.type "object"]=Rz ():=by kernel_rfl
theorem qi(g:Pb):∀{l:a0g},eF l=O6->refuseLoop g "__setattr__" l=Rz ()
 |[.type a,.type b,.type c,.type d],e=>by
  simp only[eF,PV,Se]at e;obtain⟨⟨⟨rfl,rfl⟩,rfl⟩,rfl⟩:=e;exact vN g
 | .ref c::r,e=>by rw[refuseLoop_ref];exact qi g (by cases r<;>exact e)
theorem yh:∀{l:a0g},eF l=O6->l.contains (.type "object")=O6
 |[.type a,.type b,.type c,.type d],e=>by
  simp only[eF,PV,Se]at e;obtain⟨⟨⟨rfl,rfl⟩,rfl⟩,rfl⟩:=e;decide
 | .ref c::r,e=>by rw[SS,yh (l:=r) (by cases r<;>exact e),WI]
variable{s:Pe}{e:O7}{K:Pz}{g:ClassData}{d:Qa}{v:Pb}
theorem wJ{k:QS}(X:K.In s.heap)(l:s.heap.get? e=on k)(a:k.cls= .ref C)(hc:clsIn K C=on g)(i:eF g.mro=O6)(m:RN K (.ref C) d=on OZ)
  (h:∀b,Pq (PM L w) A.in1 (storeInOwnDict (.ref e) (.ref C) (.str d n) d v b)
   (λj t=>match j with| .done f=>R (.ok f) t| .again o=>o.quiet=O6/\SW (PM L w) A o R t) (λx t=>R (.error x) t) s):
  SW (PM L w) A (.call (.builtin "object.__setattr__") ⟨[.ref e,.str d n,v],[]⟩) R s:=by
 have c:=PySem.F.store_object;have tp:RT (PM L w) s.heap (Z5<|.ref e) (.ref C):=by
  have:=(VR (M:=PM L w) (part:=on headPart) l);exact this.andThen (by rw[a];exact .now)
 have D:g.mro.isEmpty=O8:=by cases q:g.mro with|nil=>rw[q]at i;cases i|cons _ _=>rfl
 have z:RT (PM L w) s.heap (Vm (.ref e)<|.type "object") O6:=tp.andThen (PySem.W.looks_mroIn X<|by unfold mroIn;rw[hc,SE,Pd (by rw[D];decide),yh i]);refine UI c.slot.plain c.entry<|@PySem.W.check_slot (PM L w) _ _ s "object.__setattr__" "object" "__setattr__" (.ref e) [.str d n,v] [] _ c.kind c.split z (c.args (.ref e) (.str d n) v) ?_;have E:RT (PM L w) s.heap (mroOf<|.ref C) g.mro:=(X5 X hc).andThen .now;rw[PySem.W.osa_eq,refuse_eq];refine My<|My<|tp.here<|My<|E.here ?_;rw[qi _ i];refine O0<|My<|tp.here<|My<|(Xp X m).here<|My<|O0 ?_;exact h _
theorem t7{b:QS}(X:K.In s.heap)(c:s.heap.get? e=on b)(a:b.cls= .ref C)(t:RN K (.ref C) "__setattr__"=on (on<|.builtin "object.__setattr__"))
  (h:SW (PM L w) A (.call (.builtin "object.__setattr__") ⟨[.ref e,.str d s.toks,v],[]⟩) (λr g=>match r with| .ok (.ret _)=>Q () g| .ok _=>False| .error x=>E x g) {s with toks:=s.toks+1}):
  Pq (PM L w) A (Z4 (.ref e) d v) Q E s:=by
 have tp:RT (PM L w) s.heap (Z5<|.ref e) (.ref C):=by
  have:=(VR (M:=PM L w) (part:=on headPart) c);exact this.andThen (by rw[a];exact .now)
 refine My<|wpAny_mkText<|My<|My<|My<|tp _ _ _ _ (λ_ _ e=>e)<|Xp X t _ _ _ _ (λ_ _ e=>e)<|QL ?_;rw[PySem.F.store_object.slot.bind];refine My<|O0<|My<|Vp<|TN h λr g z=>?_;rcases r with x|(v|_|_|_)<;>first|exact z|exact O0 (O0 z)
theorem G1(X:K.In s.heap)(a:s.heap.get? e=on (cK C OZ t0))
  (h:RN K (.ref C) "__setattr__"=on (on<|.builtin "object.__setattr__")) (hc:clsIn K C=on g) (t:g.hasDict=O6) (q:eF g.mro=O6) (r:RN K (.ref C) d=on OZ)
  (u:∀h':Qt,h'.get? e=on (cK C (on s.heap.objs.size) t0)->h'.Ns1 s.heap.objs.size (λy=>if y=d then on v else OZ)->
   (∀b o,b≠e->s.heap.get? b=on o->h'.get? b=on o)->Q () {s with heap:=h',toks:=s.toks+2}):
  Pq (PM L w) A (Z4 (.ref e) d v) Q E s:=by
 refine t7 X a rfl h<|wJ (s:={s with toks:=s.toks+1}) X a rfl hc q r λb=>?_;refine My<|O0<|My<|My<|WE a<|My<|Vw (s:={s with toks:=s.toks+1}) (X5 X hc) ?_;rw[t];refine My<|X6 ?_;have c:=O3 {cls:= .type "dict",data:= .dict #[]} a;refine My<|wpAny_update c<|O0 ?_;have B:((s.heap.push {cls:= .type "dict",data:= .dict #[]}).update e λo=>{o with dict:=on s.heap.objs.size}).get? e=on (cK C (on s.heap.objs.size) t0):=Rh _ c rfl;have f:s.heap.objs.size≠e:=Sd<|PQ a;have z:((s.heap.push {cls:= .type "dict",data:= .dict #[]}).update e λo=>{o with dict:=on s.heap.objs.size}).Ns1 s.heap.objs.size λ_=>OZ:=by
  refine Yp<|(Heap.Ns.new s.heap<|.type "dict").sameBut (Rb ..) f
 refine My<|O0<|My ?_;refine Z7 z λh' i j=>?_;obtain⟨J,F,H,k,l,m⟩:=i.count<|VQ d v SR.nil;refine My<|XS k (by rw[l];exact XQ<|Pk m (by show 1<=Ps+1;decide)) ?_;refine O0<|u h' ((j.2 _<|Ne.symm f).trans B) i λb o I p=>?_;have n:b≠s.heap.objs.size:=Qm<|PQ p;refine(j.2 _ n).trans ?_;rw[R7 _ _<|Ne.symm I];exact O3 _ p
theorem G0{h:a0h}(X:K.In s.heap)(i:s.heap.get? e=on (cK C (on x) t0))(j:x≠e)(t:s.heap.Ns1 x mA)(n:SR mA h)(I:VX h<=1000)
  (z:RN K (.ref C) "__setattr__"=on (on<|.builtin "object.__setattr__")) (hc:clsIn K C=on g) (D:g.hasDict=O6) (p:eF g.mro=O6) (q:RN K (.ref C) d=on OZ)
  (r:∀h':Qt,h'.get? e=on (cK C (on x) t0)->h'.Ns1 x (λy=>if y=d then on v else mA y)->
   (∀b o,b≠x->s.heap.get? b=on o->h'.get? b=on o)->Q () {s with heap:=h',toks:=s.toks+2}):
  Pq (PM L w) A (Z4 (.ref e) d v) Q E s:=by
 refine t7 X i rfl z<|wJ (s:={s with toks:=s.toks+1}) X i rfl hc p q λb=>?_;refine My<|O0<|My<|My<|WE i<|My<|Vw (s:={s with toks:=s.toks+1}) (X5 X hc) ?_;rw[D];refine O0 (a:=on x)<|My<|O0<|My ?_;refine Z7 (s:={s with toks:=s.toks+1}) t λh' c f=>?_;obtain⟨J,u,B,k,l,m⟩:=c.count<|VQ d v n;refine My<|XS k (by rw[l];exact XQ<|Pk m<|by rw[Pt,RI];lia) ?_;exact O0<|r h' ((f.2 _<|Ne.symm j).trans i) c λb o F H=>(f.2 _ F).trans H
theorem ER{f:QS}{b:Bool}{M:WU}(X:K.In s.heap)(i:s.heap.get? e=on f)(a:f.cls= .ref C)(j:exmOne K (.ref C) c=on b)(k:Q b s):
  Pq M A (excMatches (.ref e) c) Q E s:=by
 have tp:RT M s.heap (Z5<|.ref e) (.ref C):=by
  have:=(VR (M:=M) (part:=on headPart) i);exact this.andThen (by rw[a];exact .now)
 exact(PySem.W.exm_one X tp j).here k
theorem EQ{bm:a0g}{dx:a0C}{t0:O7}{env:WY}{M:WU}{x:Sem Pb}{Q:Flow->Pe->Prop}(j:A.handled=OZ)
  (h:Pq M A x (λv a=>∃e t0 dx C bm,v= .ref e/\ko a.heap C bm/\a.heap.get? e=on (cK C dx t0)/\E (.ref e) a) E s):Pq M A (raiseStmt env (on x) OZ) Q E s:=by
 unfold raiseStmt;refine My<|Qj h (λv a b=>?_) λ_ _ x=>x;obtain⟨e,t0,dx,C,bm,rfl,S,k,l⟩:=b;obtain⟨⟨D,q,N,G,t,K,w,L,z,V,u,y,B,F,H,i⟩,m,hB,n,o⟩:=S;have c:(Pw C::bm).contains (.type "BaseException")=O6:=by rw[SS,hB,WI]
 have f:a.heap.get? e=on {cls:= .ref C,dict:=dx,data:= .fields #[.ref t0,.none,.none,.none,.bool O8,.none]}:=k;obtain⟨p,g,d,r,I⟩:=a
 repeat (first|with_reducible refine Sb f ?_|with_reducible refine Sb i ?_|(with_reducible refine UZ i ?_;rw[c])|wp_step)
 exact wpAny_raiseNew_none j l
end
end L2
namespace L2
noncomputable def dH(C x:O7)(D:a0C):HO:= .ext λh=>∃t,h.get? x=on (cK C D t)
theorem bC.there{h:Qt}(x:bC P w H h a o):∃b,h.get? a=on b:=by
 cases o with
 |l xs=>obtain⟨_,_,_,_,e⟩:=x;exact⟨_,e⟩
 |t xs=>obtain⟨_,_,_,_,e,_⟩:=x;exact⟨_,e⟩
 |ins C dx fs=>obtain⟨_,_,_,e,_⟩:=x;exact⟨_,e⟩
 |u y=>exact x
 |xd fs=>obtain⟨_,⟨_,_,_,e,_⟩,_⟩:=x;exact⟨_,e⟩
 |rng lo hi=>obtain⟨_,_,_,e⟩:=x;exact⟨_,e⟩
 |frz b u=>obtain⟨e,_⟩:=x;exact⟨_,e⟩
 |tbl ps=>exact⟨_,(show h.get? a=on _ from x)⟩
 |met f y=>exact⟨_,(show h.get? a=on _ from x)⟩
 |ext φ=>obtain⟨_,e,_⟩:=x;exact e
theorem sw{h:Qt}(e:h.get? x=on (cK C b t)):bC P w H h x (dH C x b):=
 ⟨⟨t,e⟩,⟨_,e⟩,λ_ _ ⟨t,a⟩ k=>⟨t,k _ a⟩⟩
theorem jS{h:Qt}(q:bC P w H h x<|dH C x dx):∃t,h.get? x=on (cK C dx t):=q.1
noncomputable def gf(H:Hp)(x:O7):Hp:=λb=>if b=x then OZ else H b
theorem EZ:gf H x x=OZ:=by unfold gf;rw[Pc rfl]
theorem jj(h:b≠x):gf H x b=H b:=by unfold gf;rw[Pd h]
theorem EY(h:gf H x b=on o):b≠x/\H b=on o:=by
 unfold gf at h;split at h
 .cases h
 .exact⟨by assumption,h⟩
structure gt (P:P6) (w:Qb) (outer:a0D) (H:Hp) (s:Pe) (E:XK) (x C:O7) (H':Hp) (s':Pe):Prop where
 os:s'.os=s.os
 bare:U1 s'.gens
 un:Un (fx outer) [] H H' s.heap s'.heap
 hok:k_ P w H' s'.heap
 tr:∃(oe:QS) (vs:a0I) (T:O7) (oT:QS) (ts:a0I) (a0:Pb),s'.heap.get? x=on oe/\(oe.cls= .ref C/\vs[0]?=on a0)/\oe.data= .fields vs/\vs[1]?=on (.ref T)/\T≠x/\s'.heap.get? T=on oT/\oT.data= .fields ts/\ts[3]?=on .none/\H' T=OZ/\s.heap.get? T=OZ
 xn:H' x=OZ
 xs:s.heap.get? x=OZ
 wish:E (.ref C) OZ H'
def f0(P:P6)(w:Qb):O_:=λD H s E e G=>∃x C a,e= .ref x/\gt P w D H s E x C a G
theorem tR{X:Cx}{s G:Pe}{E:XK}(I:cx X a_ σ H s)(g:X.k=X.e::X.outer)(i:X.e.frame=on X.e.locals)(R:X.ex=[])
  (os:G.os=X.s₀.os) (M:U1 G.gens) (d:Un (fx X.k) [] X.H₀ H' X.s₀.heap G.heap) (S:k_ X.p X.w H' G.heap) (y:∀b∈fx X.k,H' b=OZ)
  (c:∀b∈ext,X.s₀.heap.get? b=OZ/\H' b=OZ) (O:x∈ext) (V:E (.ref C) OZ H')
  (L:Heap.LeftW (V6 G.heap<|ext++fx X.k) (X.e::X.outer) x (.ref C) a0 G.heap h'):gt X.p X.w X.outer X.H₀ X.s₀ E x C H' {G with heap:=h'}:=by
 obtain⟨U,L2,W,Y⟩:=L;have j:∀b∈fx X.outer,b∈fx X.k:=λb hb=>by
  rw[g];unfold fx;rw[Rg,i];exact O1 _ hb
 have h:∀b∈fx X.k,b=X.e.locals\/b∈fx X.outer:=λb hb=>by
  rw[g]at hb;unfold fx at hb;rw[Rg,i]at hb;exact Pr.mp hb
 have A:∀b o,X.s₀.heap.get? b=on o->b≠X.e.locals:=λb o e=>Qm<|PZ (PQ e) I.ok.above;have D:∀b o,G.heap.get? b=on o->b∉ext->b∉fx X.k->h'.get? b=on o:=λb o e B Z=>
  U b o (WA _ e λhm=>(QB.mp hm).elim B Z)
 have k:∀b o,X.s₀.heap.get? b=on o->b∉ext:=λb o e hb=>by rw[(c b hb).1]at e;cases e
 have f:∀b∈fx X.k,∃o,h'.get? b=on o/\∀vs,o.data≠ .fields vs:=λb hb=>(L2.mem<|by rw[<-g];exact hb).2;obtain⟨oe,vs,T,oT,P,he,hc,hd,B,l,F,Q,m,h3⟩:=W;have p:H' T=OZ/\X.s₀.heap.get? T=OZ:=by
  by_cases hm:T∈ext++fx X.k
  .rcases QB.mp hm with hm|hm
   .exact⟨(c T hm).2,(c T hm).1⟩
   .obtain⟨o,e,K⟩:=f T hm
    rw[Q]at e;cases e;exact PU m<|K P
  .have hs:G.heap.get? T=OZ:=by
    cases q:G.heap.get? T with
    |none=>rfl
    |some o=>rw[WA _ q hm]at l;cases l
   constructor
   .cases q:H' T with
    |none=>rfl
    |some o=>obtain⟨ob,e⟩:=(S T o q).there;rw[hs]at e;cases e
   .cases q:X.s₀.heap.get? T with
    |none=>rfl
    |some o=>obtain⟨ob,e⟩:=d.there T o q (by simp);rw[hs]at e;cases e
 refine⟨os,M,⟨λb o e n hb _=>?_,λb o e n hb _=>?_,λb o e n hb=>d.free b o e n hb,λb o e _=>?_,d.tups,d.frzs,d.tbls⟩,λa o e=>?_,⟨oe,vs,T,oT,P,a0,he,hc,hd,B,F,Q,m,h3,p.1,p.2⟩,(c x O).2,(c x O).1,V⟩
 .have K:b∉fx X.k:=λz=>(h b z).elim (A b o e) hb
  exact D b o (d.keep b o e n K<|by simp) (k b o e) K
 .obtain⟨sl,r⟩:=d.slot b o e n (j b hb) (by simp)
  obtain⟨_,J,v,K⟩:=I.ok.funs.mem hb;rw[e]at v;cases v;obtain⟨N,e3⟩:=Y b _ r K;exact⟨N,e3⟩
 .obtain⟨J,r⟩:=d.there b o e (by simp)
  by_cases hb:b∈fx X.k
  .obtain⟨o2,v,_⟩:=f b hb
   exact⟨o2,v⟩
  .exact⟨J,D b J r (k b o e) hb⟩
 .refine(S a o e).stay (λb u hb r=>?_) (λ_ q=>q) λ_ _ q=>q
  have t:H' b≠OZ:=by
   rcases hb with rfl|hb
   .rw[e];simp
   .rw[hb];simp
  exact D b u r (λz=>t (c b z).2) λz=>t<|y b z
theorem mV{h base:Qt}(d:h.FunFrames base l)(c:∀b∈fx l,b∈as):h.FunFrames (V6 h as) l:=
 PySem.W.funFrames_hide d λD e a E=>c a (by unfold fx;exact UL.mpr ⟨D,e,E⟩)
theorem JD{X:Cx}{E F:XK}(a:X.k=X.e::X.outer)(d:X.e.frame=on X.e.locals)(f:X.ex=[])(Q:∀D dx H,F D dx H->E D dx H)
  (I:cx X a_ σ H s) (h:f0 X.p X.w X.k H s F e s'):
  Pq (PM X.p X.w) X.A (leaving X.e e) (λ_ j=>f0 X.p X.w X.outer X.H₀ X.s₀ E e j) E1 s':=by
 obtain⟨x,C,J,rfl,os,G,S,V,⟨R,vs,T,U,W,a0,Y,hc,hd,Z,k,hT,m,h3,n,p⟩,xn,xs,K⟩:=h;have M:∀b∈X.fs,b∈fx X.k:=λb hb=>by
  rw[a];unfold fx;rw[Rg,d];exact O1 _ hb
 have N:Un (fx X.k) [] X.H₀ H X.s₀.heap s.heap:=by
  have b:=I.base;rw[f]at b;exact b.mono M λ_ z=>z
 have U0:=N.trans S;have g:∀b,s.heap.get? b=OZ->X.s₀.heap.get? b=OZ:=λb e=>by
  cases q:X.s₀.heap.get? b with
  |none=>rfl
  |some o=>obtain⟨o',O⟩:=N.there b o q (by simp);rw[e]at O;cases O
 have c:=I.stack;have i:s'.heap.FunFrames X.base X.k:=by
  have aa:∀(l:a0D),(∀b∈fx l,b∈fx X.k)->s.heap.FunFrames X.base l->s'.heap.FunFrames X.base l:=by
   intro l
   induction l with
   |nil=>intro _ _;trivial
   |cons ab r ih=>
    intro hs hl;obtain⟨hk,⟨L,o,t,hn,u,v⟩,hr⟩:=hl;have P:L∈fx X.k:=hs L (by unfold fx;rw[Rg,t];exact Pa);obtain⟨sl,e⟩:=S.slot L o u (I.stkFree L P) P (by simp);exact⟨hk,⟨L,_,t,hn,e,v⟩,ih (λb hb=>hs b<|by unfold fx;rw[Rg,t];exact O1 _ hb) hr⟩
  exact aa X.k (λ_ hb=>hb) c
 have y:∀b∈fx X.k,J b=OZ:=λb hb=>by
  obtain⟨_,o,u,_⟩:=c.mem hb;exact S.free b o u (I.stkFree b hb) (by simp)
 have B:∀b∈fx X.k,b∈[x,T]++fx X.k:=λb hb=>Qg _ hb;have hF:s'.heap.FunFrames (V6 s'.heap<|[x,T]++fx X.k) (X.e::X.outer):=by
  have z:=mV i B;rw[a]at z⊢;exact z
 refine wpAny_leaving_nextW (base:=V6 s'.heap<|[x,T]++fx X.k) (by rw[<-a];exact I.ok.frames) hF d ⟨R,vs,T,U,W,Y,hc,hd,Z,U9 _ (by simp),k,hT,m,h3⟩ (λb o q=>YK _ q) (U9 _<|by simp) λh' L=>?_;refine⟨x,C,J,rfl,tR I a d f (os.trans I.os) G U0 V y (λb hb=>?_) (by simp) (Q _ _ _ K) L⟩;rcases Pr.mp hb with rfl|hb
 .exact⟨g _ xs,xn⟩
 .obtain rfl:b=T:=by simpa using hb
  exact⟨g _ p,n⟩
theorem Go{X:Cx}{E:XK}(c:X.k=X.e::X.outer)(g:X.e.frame=on X.e.locals)(h:X.ex=[])
  (I:cx X O P H s) (j:H x=on (dH C x dx)) (m:X.H₀ x=OZ) (D:E (.ref C) OZ<|gf H x):
  Pq (PM X.p X.w) X.A (leaving X.e<|.ref x) (λ_ k=>f0 X.p X.w X.outer X.H₀ X.s₀ E (.ref x) k) E1 s:=by
 obtain⟨t,p⟩:=jS<|I.hok x _ j;have G:∀b∈X.fs,b∈fx X.k:=λb d=>by
  rw[c];unfold fx;rw[Rg,g];exact O1 _ d
 have f:Un (fx X.k) [] X.H₀ H X.s₀.heap s.heap:=by
  have b:=I.base;rw[h]at b;exact b.mono G λ_ z=>z
 have V:X.s₀.heap.get? x=OZ:=by
  cases q:X.s₀.heap.get? x with
  |none=>rfl
  |some o=>have:=f.free x o q m (by simp);rw[j]at this;cases this
 have K:∀b o,H b=on o->(∀r,o≠ .ext r)->b≠x:=λb o e F z=>by subst z;rw[j]at e;cases e;exact F _ rfl
 have v:Un (fx X.k) [] X.H₀ (gf H x) X.s₀.heap s.heap:=by
  refine⟨f.keep,f.slot,λb o e n d=>?_,f.there,λb S q=>?_,λb o u q=>?_,λb J q=>?_⟩
  .unfold gf;split
   .rfl
   .exact f.free b o e n d
  .have:=f.tups b S q
   rw[jj<|K b _ this λ_ z=>by cases z];exact this
  .have:=f.frzs b o u q
   rw[jj<|K b _ this λ_ z=>by cases z];exact this
  .obtain⟨more,this⟩:=f.tbls b J q
   exact⟨more,by rw[jj<|K b _ this λ_ z=>by cases z];exact this⟩
 have M:k_ X.p X.w (gf H x) s.heap:=λa o e=>by
  obtain⟨B,y⟩:=EY e;refine(I.hok a o y).stay (λ_ _ _ q=>q) (λb q=>?_) λb S q=>?_
  .rw[jj<|K b _ q λ_ z=>by cases z];exact q
  .rw[jj<|K b _ q λ_ z=>by cases z];exact q
 have i:=I.stack;have l:∀b∈fx X.k,gf H x b=OZ:=λb d=>by
  unfold gf;split
  .rfl
  .exact I.stkFree b d
 have hF:s.heap.FunFrames (V6 s.heap<|[x]++fx X.k) (X.e::X.outer):=by
  have z:=mV i (as:=[x]++fx X.k) λb d=>Qg _ d;rw[c]at z⊢;exact z
 refine wpAny_leaving_firstW (base:=V6 s.heap<|[x]++fx X.k) (a0:= .ref t) (by rw[<-c];exact I.ok.frames) hF g p (λb o q=>YK _ q) (U9 _<|by simp) rfl rfl rfl λN L=>?_;refine⟨x,C,gf H x,rfl,tR (ext:=[x]) I c g h I.os I.bare v M l (λb d=>?_) (by simp) D L⟩;obtain rfl:b=x:=by simpa using d
 exact⟨V,EZ⟩
theorem yM{P:P6}{w:Qb}{c ext:a0q}{H f:Hp}{s s':Pe}{h':Qt}(D:Un c [] H f s.heap s'.heap)(E:k_ P w f s'.heap)(d:∀b∈ext,s.heap.get? b=OZ/\f b=OZ)(l:∀b∈c,f b=OZ)
  (h:∀b∈c,∃o,s'.heap.get? b=on o/\∀K,o.data≠ .fields K) (G:∀b o,s'.heap.get? b=on o->b∉ext->b∉c->h'.get? b=on o)
  (V:∀b o,s'.heap.get? b=on o->(∀K,o.data≠ .fields K)->∃M,h'.get? b=on {o with slots:=M}):Un c [] H f s.heap h'/\k_ P w f h':=by
 have i:∀b o,s.heap.get? b=on o->b∉ext:=λb o e hb=>by rw[(d b hb).1]at e;cases e
 refine⟨⟨λb o e n hb _=>G b o (D.keep b o e n hb<|by simp) (i b o e) hb,λb o e n hb _=>?_,λb o e n hb=>D.free b o e n hb,λb o e _=>?_,D.tups,D.frzs,D.tbls⟩,λa o e=>?_⟩
 .obtain⟨M,g⟩:=D.slot b o e n hb (by simp)
  obtain⟨o2,k,S⟩:=h b hb;rw[g]at k;cases k;obtain⟨m,p⟩:=V b _ g S;exact⟨m,p⟩
 .obtain⟨r,g⟩:=D.there b o e (by simp)
  by_cases hb:b∈c
  .obtain⟨o2,k,S⟩:=h b hb
   obtain⟨M,p⟩:=V b o2 k S;exact⟨_,p⟩
  .exact⟨r,G b r g (i b o e) hb⟩
 .refine(E a o e).stay (λb u hb g=>?_) (λ_ q=>q) λ_ _ q=>q
  have j:f b≠OZ:=by
   rcases hb with rfl|hb
   .rw[e];simp
   .rw[hb];simp
  exact G b u g (λz=>j (d b z).2) λz=>j<|l b z
section
variable{X:Cx}{a_:a0b}{σ:St}{H H':Hp}{s s':Pe}{E:XK}{x C:O7}
theorem gt.inv(I:cx X a_ σ H s)(F:gt X.p X.w X.k H s E x C H' s'):cx X a_ σ H' s':=
 I.call' (ch:=[]) F.os F.un F.hok F.bare λb a=>PU a (by simp)
theorem gt.frames(I:cx X a_ σ H s)(F:gt X.p X.w X.k H s E x C H' s'):s'.heap.FunFrames X.base X.k/\(∀b∈fx X.k,H' b=OZ)/\∀b∈fx X.k,∃o,s'.heap.get? b=on o/\∀D,o.data≠ .fields D:=by
 have a:=F.inv I;exact⟨a.stack,a.stkFree,λb c=>(a.stack.mem c).2⟩
theorem gt.noted(m:X.k=X.e::X.outer)(O:X.e.frame=on X.e.locals)(I:cx X a_ σ H s)(F:gt X.p X.w X.k H s E x C H' s'){M:WU}
  (h:∀s2,gt X.p X.w X.k H s E x C H' s2->Q () s2):Pq M X.A (ZJ (.ref x) X.e) (λ_ s1=>Pq M A2 (VS (.ref x) OZ) Q E2 s1) E1 s':=by
 obtain⟨p,r,P⟩:=F.frames I;obtain⟨os,D,un,G,⟨oe,K,T,oT,ts,a0,he,hc,hd,h1,R,hT,U,h3,W,Y⟩,xn,xs,S⟩:=F;have hF:s'.heap.FunFrames (V6 s'.heap<|[x,T]++fx X.k) (X.e::X.outer):=by
  have z:=mV p (as:=[x,T]++fx X.k) λb hb=>Qg _ hb;rw[m]at z⊢;exact z
 refine wpAny_noteFrame_onW (base:=V6 s'.heap<|[x,T]++fx X.k) (by rw[<-m];exact I.ok.frames) hF O ⟨oe,K,T,oT,ts,he,hc,hd,h1,U9 _ (by simp),R,hT,U,h3⟩ (λb o q=>YK _ q) (U9 _<|by simp) λh' L=>?_;obtain⟨L1,L2,L3,L4⟩:=L;have d:∀b∈[x,T],s.heap.get? b=OZ/\H' b=OZ:=λb hb=>by
  rcases Pr.mp hb with rfl|hb
  .exact⟨xs,xn⟩
  .obtain rfl:b=T:=by simpa using hb
   exact⟨Y,W⟩
 have k1:∀b o,s'.heap.get? b=on o->b∉[x,T]->b∉fx X.k->h'.get? b=on o:=λb o e Z n2=>L1 b o<|WA _ e λhm=>(QB.mp hm).elim Z n2;obtain⟨aa,t⟩:=yM un G d r P k1 L4;have j:∀b∈fx X.k,∃o,h'.get? b=on o/\∀K,o.data≠ .fields K:=λb hb=>(L2.mem<|by rw[<-m];exact hb).2;obtain⟨ab,ac,a,ah,u,v,ad,y,B,k,l,g,c,ae⟩:=L3;have i:H' a=OZ/\s.heap.get? a=OZ:=by
  by_cases hm:a∈[x,T]++fx X.k
  .rcases QB.mp hm with hm|hm
   .exact⟨(d a hm).2,(d a hm).1⟩
   .obtain⟨o,e,V⟩:=j a hm
    rw[g]at e;cases e;exact PU c<|V u
  .have hs:s'.heap.get? a=OZ:=by
    cases q:s'.heap.get? a with
    |none=>rfl
    |some o=>rw[WA _ q hm]at k;cases k
   constructor
   .cases q:H' a with
    |none=>rfl
    |some o=>obtain⟨ob,e⟩:=(G a o q).there;rw[hs]at e;cases e
   .cases q:s.heap.get? a with
    |none=>rfl
    |some o=>obtain⟨ob,e⟩:=un.there a o q (by simp);rw[hs]at e;cases e
 --VS
 have J:3<u.size:=(Qo.mp ae).1;unfold VS;refine My<|QY v y B ?_;rw[Pc (show(Pw a !=Qn)=O6 from by simp)];refine Sw g c J<|h _ ?_;have n:∀b,b≠a->(h'.update a<|Vh (·.setIfInBounds 3 ((OZ:a0C).elim Qn λf=>Tq f))).get? b=h'.get? b:=λb hb=>R7 _ _<|Ne.symm hb;have af:∀b o,h'.get? b=on o->(∀K,o.data≠ .fields K)->b≠a:=λb o e V z=>by subst z;rw[g]at e;cases e;exact V _ c
 obtain⟨ag,N⟩:=yM (s':={s' with heap:=h'}) (ext:=[a]) (h':=h'.update a<|Vh (·.setIfInBounds 3 ((OZ:a0C).elim Qn λf=>Tq f))) aa t (λb hb=>by
  obtain rfl:b=a:=by simpa using hb
  exact⟨i.2,i.1⟩) r j (λb o e Z _=>by rw[n b<|by simpa using Z];exact e) λb o e V=>⟨o.slots,by rw[n b<|af b o e V];exact e⟩
 refine⟨os,D,ag,N,⟨ab,ac,a,_,_,a0,?_,ad,y,B,l,Rh _ g<|Tc<|Q1 c _,Q1 c _,by simp[J],i.1,i.2⟩,xn,xs,S⟩;rw[n x<|Ne.symm l];exact v
theorem gt.landed(I:cx X a_ σ H s)(F:gt X.p X.w X.k H s E x C H' s'){M:WU}
  (h:∀O,gt X.p X.w X.k H s E x C H' O->Q () O):Pq M A2 (VS (.ref x) OZ) Q E2 s':=by
 obtain⟨P,r,t⟩:=F.frames I;obtain⟨V,D,U,K,⟨u,v,c,R,y,W,j,A,k,l,d,g,a,B,m,n⟩,Y,Z,G⟩:=F;have p:3<y.size:=(Qo.mp B).1;unfold VS;refine My<|QY j k l ?_;rw[Pc (show(Pw c !=Qn)=O6 from by simp)];refine Sw g a p<|h _ ?_;have i:∀b,b≠c->(s'.heap.update c<|Vh (·.setIfInBounds 3 ((OZ:a0C).elim Qn λf=>Tq f))).get? b=s'.heap.get? b:=λb J=>R7 _ _<|Ne.symm J;have L:∀b o,s'.heap.get? b=on o->(∀vs,o.data≠ .fields vs)->b≠c:=λb o e S z=>by subst z;rw[g]at e;cases e;exact S _ a
 obtain⟨N,q⟩:=yM (ext:=[c]) (h':=s'.heap.update c<|Vh (·.setIfInBounds 3 ((OZ:a0C).elim Qn λf=>Tq f))) U K (λb J=>by
  obtain rfl:b=c:=by simpa using J
  exact⟨n,m⟩) r t (λb o e T _=>by rw[i b<|by simpa using T];exact e) λb o e S=>⟨o.slots,by rw[i b<|L b o e S];exact e⟩
 refine⟨V,D,N,q,⟨u,v,c,_,_,W,?_,A,k,l,d,Rh _ g<|Tc<|Q1 a _,Q1 a _,by simp[p],m,n⟩,Y,Z,G⟩;rw[i x<|Ne.symm d];exact j
theorem gt.cls(F:gt X.p X.w X.k H s E x C H' s'):∃a,s'.heap.get? x=on a/\a.cls= .ref C:=by obtain⟨a,_,_,_,_,_,b,hc,_⟩:=F.tr;exact⟨a,b,hc.1⟩
abbrev Cx.inA(X:Cx)(A:Qy):Cx:={X with A:=A,calm:=O8,xe:=λ_ _=>False}
theorem cx.inA{X:Cx}{a_:a0b}{σ:St}{H:Hp}{s:Pe}(I:cx X a_ σ H s)(A:Qy)(a:A.frames=X.A.frames):cx (X.inA A) a_ σ H s:=
 ⟨⟨I.ok.mod,I.ok.kind,I.ok.glob,I.ok.blt,I.ok.above,I.ok.inj,I.ok.has,I.ok.cab,λh=>PU h (by simp),a.trans I.ok.frames,I.ok.stk,I.ok.exf,I.ok.bs,I.ok.bsz,I.ok.noex,I.ok.exfs,I.ok.funs,I.ok.frf⟩,I.os,I.bare,I.base,I.loc,I.cell,I.free,I.freeC,I.pin,I.hok,I.len⟩
theorem cx.outA{X:Cx}{a_:a0b}{σ:St}{H:Hp}{s:Pe}(x:X.Ok)(I:cx (X.inA A) a_ σ H s):cx X a_ σ H s:=
 ⟨x,I.os,I.bare,I.base,I.loc,I.cell,I.free,I.freeC,I.pin,I.hok,I.len⟩
theorem SP.outA{X:Cx}{a_:a0b}{D:m4}{s:Pe}(x:X.Ok)(h:SP (X.inA A) a_ D f s):SP X a_ D f s:=by
 cases f with
 |next=>obtain⟨a,H',I,q⟩:=h;exact⟨a,H',I.outA x,q⟩
 |brk=>obtain⟨a,H',I,q⟩:=h;exact⟨a,H',I.outA x,q⟩
 |cont=>obtain⟨a,H',I,q⟩:=h;exact⟨a,H',I.outA x,q⟩
 |ret u=>obtain⟨v,a,H',I,r,q⟩:=h;exact⟨v,a,H',I.outA x,r,q⟩
def PHd(X:Cx)(K:List ExceptHandler)(t:O7->TS):Prop:=
 ∀(a_:a0b) (σ:St) (G H:Hp) (a s:Pe) (E:XK) (x C:O7) (D:m4),cx X a_ σ G a->gt X.p X.w X.k G a E x C H s->t C D σ H->Pq (PM X.p X.w) X.A (handleBy (.ref x) X.e K) (SP X a_ D) X.xe s
def OL:O7->TS:=λ_ _ _ _=>False
def OM(K:Pz)(a:O7)(c:TS)(r:O7->TS):O7->TS:=λC D σ H=>∃b,exmOne K (.ref C) (.ref a)=on b/\if b=O6 then c D σ H else r C D σ H
theorem Jx:PHd X [] OL:=λ_ _ _ _ _ _ _ _ _ _ _ _ h=>h.elim
theorem Ge{cn:Qa}(c:Gl X cn)(G:X.mg cn=on (.ref Dc))(M:∀A,PSs (X.inA A) (b0::suite) ts)(d:PHd X rest r)
  (S:b0c cn:=by decide):PHd X (.ExceptHandler (on<|.Name cn np) OZ (b0::suite) p::rest) (OM X.K Dc ts r):=by
 intro a_ σ V H e s E x C D a F h;obtain⟨b,g,h⟩:=h;have I:=F.inv a;obtain⟨n,i,hc⟩:=F.cls;have j:=I.inA (X.A.mark<|on<|.ref x) rfl;refine wpAny_handleBy_cons (codeAny_handlers_test<|jg (X:=X.inA<|X.A.mark<|on<|.ref x) j c G ?_ S) (by intro q;cases q);refine ER I.kIn i hc g ?_;cases b with
 |true=>
  rw[Pc rfl]at h;refine codeAny_handlers_suite<|F.landed a λk l=>?_;have m:=(l.inv a).inA (X.A.mark<|on<|.ref x) rfl;exact Qj (M _ a_ k σ H D m h) (λf o q=>q.outA I.ok) λ_ _ z=>z.elim
 |false=>
  rw[Pd Pf]at h;exact d a_ σ V H e s E x C D a F h
abbrev Cx.inTry(X:Cx)(pn:a0b)(xe:a0d):Cx:={X with pn:=pn,xe:=xe}
theorem cx.inTry{X:Cx}{a_:a0b}{σ:St}{H:Hp}{s:Pe}(I:cx X a_ σ H s)(x:a0d):cx (X.inTry (X.pn++a_) x) [] σ H s:=
 ⟨⟨I.ok.mod,I.ok.kind,I.ok.glob,I.ok.blt,I.ok.above,I.ok.inj,I.ok.has,I.ok.cab,I.ok.hd,I.ok.frames,I.ok.stk,I.ok.exf,I.ok.bs,I.ok.bsz,I.ok.noex,I.ok.exfs,I.ok.funs,I.ok.frf⟩,I.os,I.bare,I.base,I.loc,I.cell,I.free,I.freeC,λp a=>I.pin p (by simpa using a),I.hok,I.len⟩
theorem cx.outTry{X:Cx}{a_ a:a0b}{σ:St}{H:Hp}{s:Pe}(x:X.Ok)(I:cx (X.inTry (X.pn++a_) xe) a σ H s):cx X a_ σ H s:=
 ⟨x,I.os,I.bare,I.base,I.loc,I.cell,I.free,I.freeC,λp b=>I.pin p<|RY _ b,I.hok,I.len⟩
def tTry(b:(St->XK)->TS)(c:O7->TS):TS:=λD σ H=>∃E:St->XK,(∀a C s H',E a (.ref C) s H'->c C D a H')/\b E D σ H
theorem Lq(j:X.k=X.e::X.outer)(k:X.e.frame=on X.e.locals)
  (p:∀(E:a0r) (G:a0b) (K:a0d),bU (f0 X.p X.w) (X.inTry G K) E->PSs (X.inTry G K) body (T E)) (t:PHd X (h0::R) th):PS X (.Try body (h0::R) [] [] U) (tTry T th):=by
 intro a_ s σ H D I h;obtain⟨E,y,B⟩:=h;rw[arm_exec_Try];refine My<|Q3 ?_;unfold tryStmt;show Pq _ _ ((execs body X.e).attempt>>=_) _ _ s;have g:bU (f0 X.p X.w) (X.inTry (X.pn++a_) λe s'=>Pq (PM X.p X.w) X.A (ZJ e X.e) (λ_ b=>Pq (PM X.p X.w) X.A (VS e OZ) (λ_ i=>Pq (PM X.p X.w) X.A (handleBy e X.e<|h0::R) (SP X a_ D) X.xe i) X.xe b) X.xe s') E:=by
  intro l a n b e s' L N;obtain⟨x,C,m,rfl,F⟩:=N;have J:=L.outTry I.ok;have O:gt X.p X.w X.k n b (E a) x C m s':=F;exact O.noted j k J λi o=>t a_ a n m b i (E a) x C D J o<|y a C OZ m o.wish
 refine My<|T8<|Qj (p E _ _ g [] s σ H D (I.inTry _) B) (λf b c=>?_) λe b c=>?_
 .have d:SP X a_ D f b:=by
   cases f with
   |next=>obtain⟨a,H',J,q⟩:=c;exact⟨a,H',J.outTry I.ok,q⟩
   |brk=>obtain⟨a,H',J,q⟩:=c;exact⟨a,H',J.outTry I.ok,q⟩
   |cont=>obtain⟨a,H',J,q⟩:=c;exact⟨a,H',J.outTry I.ok,q⟩
   |ret u=>obtain⟨v,a,H',J,r,q⟩:=c;exact⟨v,a,H',J.outTry I.ok,r,q⟩
  cases f with
  |next=>exact UX d
  |brk=>exact O0 d
  |cont=>exact O0 d
  |ret u=>exact O0 d
 .refine My (Qj c (λ_ i d=>?_) λ_ _ z=>z)
  show Pq _ _ (VS e OZ>>=_) _ _ i;exact My<|Qj d (λ_ Q P=>P) λ_ _ z=>z
structure XC (K:Pz) (C:O7):Prop where
 sh:∃bm,∀h:Qt,K.In h->ko h C bm
 sa:RN K (.ref C) "__setattr__"=on (on<|.builtin "object.__setattr__")
 cd:∃cd,clsIn K C=on cd/\cd.hasDict=O6/\eF cd.mro=O6
theorem M9{K:Pz}{C N:O7}{bs bm:a0g}{hdct:Bool}{ab:Bool}{cd:ClassData}
  (l:K.lookup C=on (excClassObj nm q C N bs bm hdct sn sub ab col dd k0 k1 k2 k3 k5 "ValueError.__new__")) (s:RN K (.ref C) "__setattr__"=on (on<|.builtin "object.__setattr__")) (c:clsIn K C=on cd)
  (g:(bm.contains (.type "ValueError")&&bm.contains (.type "BaseException")&&!bm.contains (.type "AttributeError")&&!bm.contains (.type "NameError")&&cd.hasDict&&eF cd.mro)=O6):XC K C:=by
 simp only[PV,Bool.not_eq_true']at g;obtain⟨⟨⟨⟨⟨a,b⟩,i⟩,d⟩,e⟩,f⟩:=g;exact⟨⟨bm,λh X=>⟨⟨nm,q,N,bs,hdct,sn,sub,ab,col,dd,k0,k1,k2,k3,k5,X _ _ l⟩,a,b,i,d⟩⟩,s,cd,c,e,f⟩
structure XMk (K:Pz) (C f:O7):Prop where
 xc:XC K C
 init:RN K (.ref C) "__init__"=on (on<|.ref f)
 fn:isFn K (.ref f)=O6
 kp:Vo K (.ref C)=O6
end
section
variable{X:Cx}{CX:O_}{k:Nat}{f C:O7}{fd:PP}{ps:a0h}{sp:Sp}{ab:a0j}{ds:a0g}{E:a0r}{x m:Qa}{p aa z:Uq}{e o:Expr}{L:List Expr}{ta:TE}{t:TA}
def KK(C:O7)(sp:Sp)(ab:a0j)(E:a0r)(t:TA):TE:=λa H Q=>t a H λe b=>VX e<=Ps/\∀x,b x=OZ->
 sp (.r x::(e++ab)) (upd b x<|dH C x OZ) (λv c=>v= .o/\Q (.r x) c) (E a)
theorem Jm{m:a0j}(M:XMk X.K C f)(F:en X.p X.w X.K X.mg X.base CX k f fd ps sp)(y:ee (k+1) X.A)(B:cq X.K fd ps ds)(t:au ab ds)
  (J:bU CX X E) (I:cx X a_ σ H s) (r:au m us) (L:VX m<=Ps)
  (h:∀x,H x=OZ->sp (.r x::(m++ab)) (upd H x<|dH C x OZ) (λv N=>v= .o/\Q (.r x) N) (E σ)):
  Pq (PM X.p X.w) X.A (VI (.ref C) us) (EP X a_ σ Q) X.xe s:=by
 have l:=h (s.heap.objs.size+1)<|I.hok.fresh<|T4 _;obtain⟨G,z⟩:=M.xc.sh;have O:cx X a_ σ H {s with heap:=s.heap.push {cls:= .type "tuple",data:= .seq us.toArray}}:=I.kept (t':=s.toks) λb o q=>O3 _ q;have P:((s.heap.push {cls:= .type "tuple",data:= .seq us.toArray}).push<|cK C OZ s.heap.objs.size).get? (s.heap.objs.size+1)=on (cK C OZ s.heap.objs.size):=by
  have:=Px (s.heap.push {cls:= .type "tuple",data:= .seq us.toArray}) (o:=cK C OZ s.heap.objs.size) rfl;rwa[QZ]at this
 have j:cx X a_ σ (upd H (s.heap.objs.size+1)<|dH C (s.heap.objs.size+1) OZ) {s with heap:=(s.heap.push {cls:= .type "tuple",data:= .seq us.toArray}).push (cK C OZ s.heap.objs.size)}:=
  O.laid (a:=s.heap.objs.size+1) (o:=dH C (s.heap.objs.size+1) OZ) (t':=s.toks) (λb u q=>O3 _ q) (Yu<|QZ _ _) (sw P)
 have n:au (V.r (s.heap.objs.size+1)::(m++ab)) (Pw (s.heap.objs.size+1)::(us++ds)):= .cons rfl<|r.append t;have R:VX (Pw (s.heap.objs.size+1)::us++ds)=VX ps:=by
  have e:=n.length;rw[F.len _ _ _ _ l]at e;exact e.symm
 have i:Pq (PM X.p X.w) (X.A.under<|.builtin "type.__call__" ⟨.ref C::us,[]⟩) (VI (.ref f)<|.ref (s.heap.objs.size+1)::us) (λr p=>r= .none/\EP X a_ σ Q (.ref<|s.heap.objs.size+1) p) X.xe
   {s with heap:=(s.heap.push {cls:= .type "tuple",data:= .seq us.toArray}).push (cK C OZ s.heap.objs.size)}:=by
  refine Vp<|TN (F.run _ X.k _ _ ⟨Pw (s.heap.objs.size+1)::us,[]⟩ (Pw (s.heap.objs.size+1)::(us++ds)) _ _ (E σ) (y.make C us [])
   (j.env0.make C us []) (B _ (Pw (s.heap.objs.size+1)::us) j.kIn R) n l) λr p c=>?_
  cases r with
  |error e=>exact J a_ σ _ _ e p j c
  |ok fl=>
   cases fl with
   |ret u=>
    obtain⟨v,T,U,W,Y,D⟩:=j.after c;subst Y;exact⟨W,⟨V.r<|s.heap.objs.size+1,T,U,rfl,D⟩⟩
   |next=>exact RH c
   |brk=>exact RH c
   |cont=>exact RH c
 obtain⟨Z,g,d,S,os⟩:=s;exact G2 I.kIn (z _ I.kIn) M.init M.fn (by rw[<-r.length];exact L) i
theorem LG(M:XMk X.K C f)(F:en X.p X.w X.K X.mg X.base CX k f fd ps sp)(g:ee (k+1) X.A)(i:Gl X x)(m:X.mg x=on (.ref C))(j:cq X.K fd ps ds)(o:au ab ds)(l:bU CX X E)
  (z:PA X (e::L) t) (b:b0c x:=by decide) (n:b0a X e L:=by rfl) (c:b0b X aa L:=by rfl):
  PE X (.Call (.Name x p) (e::L) [] aa) (KK C sp ab E t):=by
 intro a s u H Q I h;refine Uf<|jg I i m ?_ b;refine Yz (h₀:=X.base) I.ok.mod.kin M.kp (d5 (z aa a s u H _ I h) λD y ⟨G,B,d,r,v,q⟩=>⟨d.kIn,?_⟩) n c;exact Jm M F g j o l d r v q
structure ClsFn (K:Pz) (D:O7) (m:Qa) (f:O7):Prop where
 ga:specialIn K (.ref D) "__getattribute__"=on (on<|.builtin "type.__getattribute__")
 rd:PySem.W.readsIn K D (.type "type")=O6
 fnd:Zy K (.ref D) (.type "type") m=on (.val<|.ref f)
 kp:Vo K (.ref f)=O6
theorem ze{D:O7}(c:ClsFn X.K D m f)(F:en X.p X.w X.K X.mg X.base CX k f fd ps sp)(j:ee k X.A)(l:Gl X x)(o:X.mg x=on (.ref D))(n:cq X.K fd ps ds)(C:au ab ds)(q:bU CX X E)
  (G:PA X (e::L) t) (b:b0c x:=by decide) (d:b0a X e L:=by rfl) (g:b0b X aa L:=by rfl)
  (u:Qz (.Call (.Attribute (.Name x p) m z) (e::L) [] aa) X.e=(do
   let N <-Qz (.Name x p) X.e
   SJ z.atName
   let (f,first) <-TR [N] (Vf N m pl)
   Xn aa f first (Ry aa<|Po (e::L) X.e) (SI aa<|Rv [] X.e)):=by rfl):
  PE X (.Call (.Attribute (.Name x p) m z) (e::L) [] aa) (HB sp ab E t):=by
 intro a s v H Q I h;refine WW (pl:=pl) (jg I l o ?_ b) u;refine PySem.W.method_cls I.kIn c.ga<|PySem.W.cls_value I.kIn c.rd c.fnd rfl ?_;have y:=I.tok<|s.toks+1;refine Yz (first:=[]) (h₀:=X.base) I.ok.mod.kin c.kp (d5 (G aa a _ v H _ y h) λS B ⟨V,J,i,r,M⟩=>⟨i.kIn,?_⟩) d g
 exact qg F j n C q i r M
def tVin(K:Pz)(t:TA):TE:=λb H Q=>t b H λk a=>∃x C f e,k= .r x::e/\VX e<=Ps/\a x=on (dH C x f)/\XC K C/\Q .o (upd a x<|dH C x f)
theorem AD(I:cx X J N H s)(r:au O P)
  (h:∃x C m f,O= .r x::f/\VX f<=Ps/\H x=on (dH C x m)/\XC X.K C/\Q .o (upd H x<|dH C x m)):Pq (PM X.p X.w) X.A (VI (.builtin "ValueError.__init__") P) (EP X J N Q) X.xe s:=by
 obtain⟨x,C,m,f,rfl,l,a,c,q⟩:=h;cases r with
 |cons r1 n=>
  cases r1;obtain⟨z,v⟩:=jS<|I.hok x _ a;obtain⟨D,o⟩:=c.sh;obtain⟨F,g,d,i,p⟩:=s;refine EO (o _ I.kIn) v (by rw[<-n.length];exact l) λt j k=>?_;have y:cx X J N (upd H x<|dH C x m) ⟨t,g,d,i,p⟩:=I.write (t':=i) (x:=x) (e:=x) (by rw[a];exact SV) (.inl rfl) (λb u B q=>k b u B q) ⟨_,j⟩<|sw j;exact⟨.o,_,y,rfl,q⟩
theorem IO:Z5 (.type "ValueError")=Rz (.type "type"):=by kernel_rfl
theorem IQ:Manifest.isStub "ValueError"=O8:=by decide +kernel
theorem IR{K:Pz}:Zy K (.type "ValueError") (.type "type") "__init__"=on (.val<|.builtin "ValueError.__init__"):=by kernel_rfl
set_option maxHeartbeats 4000000 in
theorem Gg(d:Gl X "ValueError")(k:X.mg "ValueError"=OZ)(o:PA X (e::L) t)(b:b0a X e L:=by rfl)(c:b0b X aa L:=by rfl)
  (g:Qz (.Call (.Attribute (.Name "ValueError" p) "__init__" z) (e::L) [] aa) X.e=(do
   let r <-Qz (.Name "ValueError" p) X.e
   SJ z.atName
   let (f,first) <-TR [r] (Vf r "__init__" pl)
   Xn aa f first (Ry aa<|Po (e::L) X.e) (SI aa<|Rv [] X.e)):=by rfl):
  PE X (.Call (.Attribute (.Name "ValueError" p) "__init__" z) (e::L) [] aa) (tVin X.K t):=by
 intro a s i H Q I h;obtain⟨m,F⟩:=I.fr;refine WW (pl:=pl) (fR I d k Boot.«ValueError» ?_) g;refine PySem.W.method_type (v:= .builtin "ValueError.__init__") F I.mod.kin IO IQ IR rfl ?_;have j:=I.tok<|s.toks+1;exact V1 (d5 (o aa a _ i H _ j h) λC n ⟨D,q,l,r1,x⟩=>AD l r1 x) b c
def K7(K:Pz)(ta g:TE)(f:Qa):TS:=λD b H=>g b H λy h=>ta b h λx c=>∃a C,x= .r a/\c a=on (dH C a OZ)/\XC K C/\RN K (.ref C) f=on OZ/\
 ∀d,c d=OZ->d≠a->D.nx b (upd (upd c d<|.xd [(f,y)]) a<|dH C a<|on d)
theorem Ga{o d:Expr}{f:Qa}(t:PE X o ta)(R:PE X d tv)(E:TU d (on<|.Attribute o f pos') aa.line X.e=Rz O8):PS X (.Assign [.Attribute o f pos'] d aa) (K7 X.K ta tv f):=by
 intro l s B H D I h;refine Us (d5 (R l s B H _ I h) λu T F=>?_) E;obtain⟨y,U,W,Y,q⟩:=F;refine d5 (t l T B U _ W q) λZ r G=>?_;obtain⟨x,L,w,M,a,C,S,A,c,n,V⟩:=G;subst S;obtain rfl:Z=Pw a:=M;obtain⟨t0,N⟩:=jS<|w.hok a _ A;obtain⟨cd,c1,c2,c3⟩:=c.cd;refine G1 w.kIn N c.sa c1 c2 c3 n λh' O P k=>?_;have m:L r.heap.objs.size=OZ:=w.fresh;have J:r.heap.objs.size≠a:=Sd<|PQ N;have od:∃o,h'.get? r.heap.objs.size=on o:=let ⟨o,_,_,e,_⟩:=P;⟨o,e⟩
 have i:∀b o,L b=on o->(∀φ,o≠ .ext φ)->b≠a:=λb o e hn z=>by subst z;rw[A]at e;cases e;exact hn _ rfl
 refine⟨B,_,w.un (h':=h') (t':=r.toks+2) ⟨λb o e j _ _=>k b o (λz=>by subst z;rw[A]at j;cases j) e,λb o e j _ _=>⟨o.slots,k b o (λz=>by subst z;rw[A]at j;cases j) e⟩,λb o e j _=>?_,λb o e _=>?_,λb p e=>?_,λb o p e=>?_,λb p e=>?_⟩ λb o e=>?_,V _ m J⟩
 .rw[bb (λz=>by subst z;rw[A]at j;cases j),bb<|Qm<|PQ e];exact j
 .by_cases z:b=a
  .subst z;exact⟨_,O⟩
  .exact⟨o,k b o z e⟩
 .rw[bb (i b _ e λ_ z=>by cases z),bb<|bt e m];exact e
 .rw[bb (i b _ e λ_ z=>by cases z),bb<|bt e m];exact e
 .exact⟨#[],by rw[bb (i b _ e λ_ z=>by cases z),bb<|bt e m,e];simp⟩
 .by_cases z:b=a
  .subst z
   rw[aj]at e;cases e;exact sw O
  .rw[bb z]at e
   by_cases Q:b=r.heap.objs.size
   .subst Q
    rw[aj]at e;cases e;refine⟨_,P,λg=>?_⟩;by_cases q:g=f
    .subst q
     simp only[RU,Vl,Qs];exact Y
    .have hb:(g==f)=O8:=beq_eq_false_iff_ne.mpr q
     simp only[RU,hb,List.lookup_nil,Pd q];trivial
   .rw[bb Q]at e
    refine(w.hok b o e).stay (λc v hc q=>k c v ?_ q) (λc q=>?_) λc p q=>?_
    .rcases hc with rfl|hc
     .exact z
     .exact i c _ hc λ_ z=>by cases z
    .rw[bb (i c _ q λ_ z=>by cases z),bb<|bt q m];exact q
    .rw[bb (i c _ q λ_ z=>by cases z),bb<|bt q m];exact q
def BH(e:Hp)(K:Pz)(E:XK)(b:TE):TS:=λ_ c H=>b c H λv a=>∃x C f,v= .r x/\a x=on (dH C x f)/\e x=OZ/\XC K C/\E (.ref C) OZ (gf a x)
end
section
variable{P:P6}{w:Qb}{K:Pz}{J:a0i}{base:Qt}{N:a0h}{y:Qa}{F:Scope}{f:O7}{cd:Pb}{A:Qy}{B:a0D}{s:Pe}{H:Hp}{E:XK}
theorem fZ:bU (f0 P w) (dm (f0 P w) P w K J base N y F f cd A B s H E) (λ_=>E):=λa b c d e D I h=>JD (X:=dm (f0 P w) P w K J base N y F f cd A B s H E) rfl rfl rfl (λ_ _ _ z=>z) I h
theorem nY:bU (f0 P w) X E0:=λ_ _ _ _ _ _ _ h=>by
 obtain⟨_,_,_,_,F⟩:=h;exact F.wish.elim
theorem dh:Zw (PM P w) (A.deeper<|Ud y F s.heap.objs.size f cd) (Ud y F s.heap.objs.size f cd) (dm (f0 P w) P w K J base N y F f cd A B s H E).xe:=PassesOwn.leaving
theorem F9(M:A.handled=OZ)(g:PE (dm (f0 P w) P w K J base N y F f cd A B s H E) e t):PS (dm (f0 P w) P w K J base N y F f cd A B s H E) (.Raise (on e) OZ z) (BH H K E t):=by
 intro a i j k D I h;rw[arm_exec_Raise];refine My<|Q3 ?_;refine EQ (env:=(dm (f0 P w) P w K J base N y F f cd A B s H E).e) (bm:=[]) (dx:=OZ) (t0:=0) M ?_;refine My<|d5 (g a i j k _ I h) λu o l=>?_;obtain⟨v,p,b,r,x,C,dx,m,G,n,c,q⟩:=l;refine My<|Q3<|O0 ?_;subst m;obtain rfl:u=Pw x:=r;obtain⟨t0,d⟩:=jS<|b.hok x _ G;obtain⟨bm,S⟩:=c.sh;exact⟨x,t0,dx,C,bm,rfl,S _ b.kIn,d,Go (X:=dm (f0 P w) P w K J base N y F f cd A B s H E) rfl rfl rfl b G n q⟩
structure hW (K:Pz) (x y:Qa) (st:QD) (f:O7) (fd:PP):Prop where
 ex:∃(oc:Pb) (od:a0C) (dV kV doc pm:Pb) (an:a0C) (cdv ct:Pb) (osl:Array<|Option Pb),
  fd=T1 x y (jk st) (cF st) (ae st) dV kV doc pm an cdv ct/\K.lookup f=on ⟨oc,od,.func fd,osl⟩/\Uz K cdv y=O6
 kp:Vo K (.ref f)=O6
theorem J6{K:Pz}{x y:Qa}{s:QD}{f:O7}(l:K.lookup f=on ⟨oc,od,.func<|T1 x y (jk s) (cF s) (ae s) dV kV doc pm an a ct,b⟩)
  (c:Uz K a y=O6) (k:Vo K (.ref f)=O6):hW K x y s f (T1 x y (jk s) (cF s) (ae s) dV kV doc pm an a ct):=⟨⟨oc,od,dV,kV,doc,pm,an,a,ct,b,rfl,l,c⟩,k⟩
theorem hW.okE{x y:Qa}{G:QD}{f:O7}{N M:a0h}(F:hW K x y G f u)(S:b5 N M<|ae G)(V:∀D H Q E,r D H Q E->VX D=VX M)
  (b:∀(a:Pb) (A:Qy) (B:a0D) (s:Pe) (H:Hp) (D:a0j) (Q:VK) (E:XK),ee k (A.deeper<|Ud y (ae G) s.heap.objs.size f a)->r D H Q E->
   ∃t,PSs (dm (f0 P w) P w K J base N y (ae G) f a A B s H E) (cF G) t/\t {nx:=λ_ e=>Q .o e,rt:=Q} (fU N D) H):en P w K J base (f0 P w) (k+1) f u M r:=by
 obtain⟨l,m,n,o,g,p,q,a,v,h,rfl,i,c⟩:=F.ex;exact Iu i c S V λA B s H D Q E j d=>b a A B s H D Q E j d
theorem hW.ok{x y:Qa}{D:QD}{f:O7}{N G:a0h}(F:hW K x y D f v)(S:b5 N G<|ae D)(M:∀vs H Q E,sp vs H Q E->VX vs=VX G)
  (b:∀(a:Pb) (A:Qy) (B:a0D) (s:Pe) (H:Hp) (vs:a0j) (Q:VK) (E:XK),ee k (A.deeper<|Ud y (ae D) s.heap.objs.size f a)->sp vs H Q E->
   ∃t,PSs (dm (f0 P w) P w K J base N y (ae D) f a A B s H E).nox (cF D) t/\t {nx:=λ_ e=>Q .o e,rt:=Q} (fU N vs) H):en P w K J base (f0 P w) (k+1) f v G sp:=by
 obtain⟨m,n,o,p,g,r,u,a,V,i,rfl,j,c⟩:=F.ex;refine Iu j c S M λA B s H vs Q E l d=>?_;obtain⟨t,h,q⟩:=b a A B s H vs Q E l d;exact⟨t,h.nox,q⟩
abbrev TJ:=St->Hp->Nat->(Nat->Hp->Prop)->Prop
def PJ(X:Cx)(y:List Expr)(t:TJ):Prop:=
 ∀(a:a0b) (s:Pe) (b:St) (H:Hp) (f:Qa) (Q:VK),cx X a b H s->f.length<=Ps->(t b H f.length λn c=>n<=Ps/\∀z:Qa,z.length<=n->Q (.q z) c)->
  Pq (PM X.p X.w) X.A (joinParts f<|Wz y X.e) (EP X a b Q) X.xe s
noncomputable def jNil:TJ:=λ_ H n Q=>Q n H
def jStr(m:Nat)(t:TJ):TJ:=λa H n Q=>n+m<=Ps/\t a H (n+m) Q
def Nx(t:TJ):TE:=λa H Q=>t a H 0 λn b=>n<=Ps/\∀z:Qa,z.length<=n->Q (.q z) b
variable{X:Cx}{es:List Expr}{t:TJ}{d:Uq}
theorem Lw:PJ X [] jNil:=λa s c H d Q I b h=>joinParts_nil ⟨.q d,H,I.tok _,⟨_,rfl⟩,h.2 d<|Pg _⟩ b
theorem CW{x:Qa}(h:PJ X es t)(c:Wz (.Constant (.str x) j p::es) X.e=Qz (.Constant (.str x) j p) X.e::Wz es X.e:=by rfl):PJ X (.Constant (.str x) j p::es) (jStr x.length t):=by
 intro a s d H f Q I k g;rw[c];obtain⟨b,i⟩:=g;refine joinParts_cons<|Y1 ?_;have e:(f++x).length=f.length+x.length:=strLen_append f x;exact⟨by rw[e];exact b,h a _ d H (f++x) Q (I.tok _) (by rw[e];exact b)<|by rw[e];exact i⟩
theorem JB(h:PJ X (v1::v2::rest) t):PE X (.JoinedStr (v1::v2::rest) d) (Nx t):=λa s b H Q I c=>
 JoinedStr_many (h a s b H Ta Q I (by decide) c)
theorem ug(hc:X.calm=O6):dg X (.builtin "sum") (λf H Q=>∃(a:O7) (t:a0e),f=[.r a]/\eX X.K H a (t.map V.n)/\Q (.n t.sum) H):=by
 intro b s n H f A Q I r h;obtain⟨a,t,rfl,i,q⟩:=h;cases r with
 |cons r1 j=>
  cases r1;cases j;obtain⟨w,k,p,o⟩:=I.list i;have c:=qK k;obtain⟨f,y⟩:=c.allInts.items;have d:=p.isList;rw[y]at d;refine sum_intListG (I.ok.hd hc) d λB u D l=>?_;have e:preSum (numAt f) f.size=t.sum:=by
   have g:=c.numsOf;have m:w=(YG f).toList:=by rw[<-y]
   rw[m,nums_intItems]at g;rw[preSum_eq,R9 (by simp),g]
  rw[e];exact⟨.n t.sum,H,I.kept l,⟨_,rfl⟩,q⟩
def uW(i j:Int):Prop:=0<j/\j.natAbs.log2<9000
theorem lD:f_ X (Sv .FloorDiv) (rI uW λi j=> .n<|i/j):=o1 λi j _ _ _ _ _ hc q=>by
 have a:(0:Int)<j:=hc.1;refine floordiv_int (by lia) ?_<|.inl<|Xm hc.2;rw[UQ _<|by lia];exact q
def ipC(C:a0V)(f:a0J):TIp:=λx y H Q=>∃i j,x= .n i/\y= .n j/\C i j/\Q (.n<|f i j) H
theorem J2:PIp X .FloorDiv (ipC uW λi j=>i/j):=by
 intro a s d H x y v u Q I r1 b h;obtain⟨i,j,rfl,rfl,c,q⟩:=h;obtain⟨t,rfl⟩:=r1;obtain⟨f,rfl⟩:=b;have e:(0:Int)<j:=c.1;refine ifloordiv_int (by lia) ?_<|.inl<|Xm c.2;rw[UQ _<|by lia];exact⟨.n _,H,I.tok _,⟨_,rfl⟩,q⟩
theorem AY:∀{d:List String} {f:a0g},au (d.map V.ty) f->f=d.map SC
 |[],_,r=>by cases r;rfl
 |c::d,_,r=>by
  cases r with
  |cons r1 a=>
   cases r1;rw[AY a];rfl
theorem AC{K:Pz}{xs:a0j}{H:Hp}(Pv:Nat->St->Hp->Prop)(u:Pv 0 c H)(k:∀i c H,i<=VX xs->Pv i c H->eX K H a xs)
  (h:∀i x c H,xs[i]?=on x->Pv i c H->g x c H λd v=>z d v λb r=>if b=O6 then C d r (Pv<|i+1)else Pv (i+1) d r) (l:∀c H,Pv (VX xs) c H->Q c H):de (Itl K a) g z C c H Q:=by
 refine⟨λi m c H=>i<=VX xs/\m+i=VX xs/\Pv i c H,⟨VX xs,Qk _,by lia,u⟩,λi m c H ⟨n,f,j⟩=>?_⟩;by_cases o:i<VX xs
 .refine .inr ⟨⟨xs,xs[i],k i c H n j,O4 o⟩,Pv<|i+1,λy p q=>⟨m-1,by lia,by lia,by lia,q⟩,λx p ⟨e,B⟩=>?_⟩
  subst e;exact h i x c p (B xs<|k i c p n j) j
 .obtain rfl:i=VX xs:=by lia
  exact .inl ⟨⟨xs,k _ c H n j,Pg _⟩,l c H j⟩
theorem di.f5{X:Cx}{F:Scope}(k:F.kind= .function)(d:(F.names.map (·.1)).Nodup)(f:∀y∈F.names,y.2≠ .free):di X F c_ c_ []:=
 ⟨k,d,λy a e=>PU e<|f y a,by simp,λj b=>PU b<|by simp⟩
def uV(i j:Int):Prop:=i.natAbs<2^1000/\j.natAbs<2^1000
theorem kx{k:Int}(h:k.natAbs<2^1000):Xx k<=2^20:=by
 unfold Xx;split
 .exact Qk _
 .rename_i a
  have b:k.natAbs≠0:=by
   intro z;have:k=0:=Int.natAbs_eq_zero.mp z;subst this;simp at a
  have:=(Y8 b).mpr h;have e:(2:Nat)^20=1048576:=by decide
  lia
theorem ci{X:Cx}:f_ X (Sv .Mult) (rI uV λi j=> .n<|i*j):=o1 λ_ _ _ _ _ _ _ hc q=>mul_int q<|YQ (kx hc.1)<|kx hc.2
theorem bP.upd{H:Hp}(h:H a=OZ):bP H (upd H a o):=λb u e=>by rw[bb<|bt e h];exact e
abbrev et:=Int×a0e
abbrev a0o:=List<|et×O7×V
abbrev a0E:=List<|et×O7×Pb
abbrev a0W:=List et
noncomputable def hI(k:a0e):Int:=reduceHash<|Ui<|k.map hashInt
def hB:Bool->et->Int
 |true,k=>reduceHash<|Ui [hashInt k.1,hI k.2]
 |false,k=>hI k.2
def AJ(a:O7)(b:Bool)(f:Nat)(s:a0o)(h:Qt):Prop:=
 ∃o es,∃d:a0E,h.get? a=on o/\o.ExactDict/\o.data= .dict es f/\es.toList=d.map (λy=>⟨hB b y.1,.ref y.2.1,y.2.2⟩)/\(d.map (·.1)).Nodup/\(a==W4)=O8/\VX d<=Ps/\
  Vi (λ(x:et×O7×V) (y:et×O7×Pb)=>x.1=y.1/\x.2.1=y.2.1/\aL x.2.2 y.2.2) s d
noncomputable def bD(a:O7)(b:Bool)(d:Nat)(f:a0o):HO:= .ext<|AJ a b d f
theorem kW{P:P6}{w:Qb}{b:Bool}{H:Hp}(S:AJ a b g i h):bC P w H h a (bD a b g i):=by
 refine⟨S,?_,λc d z k=>?_⟩
 .obtain⟨o,_,_,e,_⟩:=S
  exact⟨o,e⟩
 .obtain⟨o,es,ys,e,r⟩:=z
  exact⟨o,es,ys,k _ e,r⟩
end
end L2
namespace L2.Pu
theorem lm{D d e:Sort _}{P Q R:D->d->e->Prop}{C:Prop}(h:∃a b c,P a b c/\Q a b c/\R a b c)(k:∀a b c,P a b c->Q a b c->R a b c->C):C:=by
 obtain⟨a,b,c,x,y,z⟩:=h;exact k a b c x y z
theorem pj{D c:Sort _}{P Q R:D->c->Prop}{C:Prop}(h:∃a b,P a b/\Q a b/\R a b)(k:∀a b,P a b->Q a b->R a b->C):C:=by
 obtain⟨a,b,x,y,z⟩:=h;exact k a b x y z
inductive D where
 |o|c (b:Bool)|n (i:Int)|q (x:Qa)|ty (n:String)|txt
 |l (xs:List D)|t (xs:List D)|scr (xs:a0e)|obj (C:O7) (ns:a0h) (xs:List D)|bag|adr (a:O7)|dct (b:Bool) (ks:a0W) (vs:List D)
abbrev a0c:=List D
abbrev a0m:=Option D
abbrev a0u:=List a0c
abbrev a0A:=Option a0c
abbrev a0R:=D->D->a0m
structure Bg where
 cells:a0e
 i:Int
 j:Int
structure Fx where
 A:O7->Prop
 bg:a0s
def KL(K:Pz)(a:O7)(E:a0j):Prop:=
 ∃(o:QS) (D:a0I) (n:Nat),K.lookup a=on o/\o.cls= .type "list"/\o.dict=OZ/\o.data= .seq D n/\D.size<=Ps/\au E D.toList
def KT(K:Pz)(a:O7)(E:a0j):Prop:=
 ∃(o:QS) (D:a0I) (n:Nat),K.lookup a=on o/\o.cls= .type "tuple"/\o.data= .seq D n/\D.size<=Ps/\au E D.toList
def TQ(K:Pz)(F:Fx)(H:Hp)(c:O7)(D:a0j):Prop:=(¬F.A c/\Rd H c (.t D))\/KT K c D
def fL(K:Pz)(F:Fx)(H:Hp):Bool->et->O7->Prop
 |true,k,c=>∃e,TQ K F H c [.n k.1,.r e]/\TQ K F H e (k.2.map V.n)
 |false,k,c=>k.1=0/\TQ K F H c (k.2.map V.n)
mutual
noncomputable def c4(K:Pz)(F:Fx)(H:Hp):D->V->Prop
 | .o,v=>v= .o
 | .c b,v=>v= .c b
 | .n i,v=>v= .n i
 | .q x,v=>v= .q x
 | .ty n,v=>v= .ty n
 | .txt,v=>∃z,v= .q z
 | .l ds,v=>∃a E,v= .r a/\(¬F.A a/\Rd H a (.l E))/\br K F H ds E
 | .scr ns,v=>∃a,v= .r a/\((¬F.A a/\Rd H a (.l<|ns.map V.n))\/KL K a (ns.map V.n))
 | .t ds,v=>∃a E,v= .r a/\((¬F.A a/\Rd H a (.t E))\/KT K a E)/\br K F H ds E
 | .obj C ns ds,v=>∃a G E,v= .r a/\¬F.A a/\H a=on (.ins C G<|ns.zip E)/\VX ns=VX E/\br K F H ds E
 | .bag,v=>∃b l,F.bg=on (b,l)/\v= .r b
 | .adr a,v=>v= .r a
 | .dct b ks vs,v=>∃a M E,v= .r a/\(¬F.A a/\H a=on (bD a b M E))/\ks=E.map (·.1)/\(∀x∈E,fL K F H b x.1 x.2.1)/\br K F H vs (E.map (·.2.2))
noncomputable def br(K:Pz)(F:Fx)(H:Hp):a0c->a0j->Prop
 |[],xs=>xs=[]
 |d::ds,xs=>∃x r,xs=x::r/\c4 K F H d x/\br K F H ds r
end
structure Tr (F:Fx) (H:Hp) (F2:Fx) (H2:Hp):Prop where
 av:∀a,¬F.A a->H a≠OZ->¬F2.A a
 kp:∀a o,¬F.A a->H a=on o->H2 a=on o
 bg:F2.bg=F.bg
theorem Tr.refl(F:Fx)(H:Hp):Tr F H F H:=⟨λ_ h _=>h,λ_ _ _ h=>h,rfl⟩
theorem Tr.trans(a:Tr F H F1 H1)(b:Tr F1 H1 F2 H2):Tr F H F2 H2:=
 ⟨λx c d=>b.av x (a.av x c d) (by
   cases q:H x with
   |none=>exact PU q d
   |some o=>rw[a.kp x o c q];simp),
  λx o c d=>b.kp x o (a.av x c<|by rw[d];simp)<|a.kp x o c d,b.bg.trans a.bg⟩
theorem Rd.tr{F b:Fx}(t:Tr F H b H2)(h:¬F.A a)(r:Rd H a u):¬b.A a/\Rd H2 a u:=by
 rcases r with r|⟨o,r⟩
 .exact⟨t.av a h (by rw[r];simp),.inl<|t.kp a _ h r⟩
 .exact⟨t.av a h (by rw[r];simp),.inr ⟨o,t.kp a _ h r⟩⟩
theorem TQ.tr{K:Pz}(t:Tr F H F2 H2)(h:TQ K F H c xs):TQ K F2 H2 c xs:=h.imp (λh=>Rd.tr t h.1 h.2) id
theorem fL.tr{K:Pz}{b:Bool}(t:Tr F H F2 H2)(h:fL K F H b k c):fL K F2 H2 b k c:=by
 cases b with
 |true=>
  obtain⟨e,a,d⟩:=h;exact⟨e,a.tr t,d.tr t⟩
 |false=>exact⟨h.1,h.2.tr t⟩
mutual
theorem c4.tr{K:Pz}(t:Tr F H F2 H2):∀(d:D) (v:V),c4 K F H d v->c4 K F2 H2 d v
 | .o,v,h=>h
 | .c b,v,h=>h
 | .n i,v,h=>h
 | .q x,v,h=>h
 | .ty n,v,h=>h
 | .txt,v,h=>h
 | .l ds,v,h=>by
  unfold c4 at h⊢;obtain⟨a,E,e,c,f⟩:=h;exact⟨a,E,e,Rd.tr t c.1 c.2,br.tr t ds E f⟩
 | .scr ns,v,h=>by
  unfold c4 at h⊢;obtain⟨a,e,c⟩:=h;exact⟨a,e,c.imp (λ⟨p,q⟩=>Rd.tr t p q) id⟩
 | .t ds,v,h=>by
  unfold c4 at h⊢;obtain⟨a,E,e,c,f⟩:=h;exact⟨a,E,e,c.imp (λ⟨p,q⟩=>Rd.tr t p q) id,br.tr t ds E f⟩
 | .obj C ns ds,v,h=>by
  unfold c4 at h⊢;obtain⟨a,G,E,e,c,f,g,j⟩:=h;exact⟨a,G,E,e,t.av a c (by rw[f];simp),t.kp a _ c f,g,br.tr t ds E j⟩
 | .bag,v,h=>by
  unfold c4 at h⊢;rw[t.bg];exact h
 | .adr a,v,h=>by
  unfold c4 at h⊢;exact h
 | .dct b ks vs,v,h=>by
  unfold c4 at h⊢;obtain⟨a,M,E,e,c,f,g,j⟩:=h;exact⟨a,M,E,e,⟨t.av a c.1 (by rw[c.2];simp),t.kp a _ c.1 c.2⟩,f,λx k=>(g x k).tr t,br.tr t vs _ j⟩
theorem br.tr{K:Pz}(t:Tr F H F2 H2):∀(ds:a0c) (xs:a0j),br K F H ds xs->br K F2 H2 ds xs
 |[],xs,h=>h
 |d::ds,xs,h=>by
  unfold br at h⊢;obtain⟨x,r,e,a,b⟩:=h;exact⟨x,r,e,c4.tr t d x a,br.tr t ds r b⟩
end
section
variable{K:Pz}{F:Fx}{H:Hp}
theorem br.f5:br K F H [] []:=rfl
theorem br.cons(h:c4 K F H d x)(t:br K F H ds xs):br K F H (d::ds) (x::xs):=⟨x,xs,rfl,h,t⟩
theorem br.length:∀{ds:a0c} {xs:a0j},br K F H ds xs->VX ds=VX xs
 |[],xs,h=>by have e:xs=[]:=h;subst e;rfl
 |d::ds,xs,h=>by
  obtain⟨x,r,e,_,a⟩:=h;subst e;rw[Pt,Pt,br.length a]
theorem br.get:∀{E:a0c} {G:a0j} {i:Nat} {d:D},br K F H E G->E[i]?=on d->∃x,G[i]?=on x/\c4 K F H d x
 |[],_,_,_,_,e=>by simp at e
 |c::E,G,0,d,h,e=>by
  obtain⟨x,r,q,a,b⟩:=h;subst q;simp at e;subst e;exact⟨x,rfl,a⟩
 |c::E,G,i+1,d,h,e=>by
  obtain⟨x,r,q,a,b⟩:=h;subst q;obtain⟨y,f,g⟩:=br.get (i:=i) (d:=d) b (by simpa using e);exact⟨y,by simpa using f,g⟩
theorem br.getV:∀{E:a0c} {D:a0j} {i:Nat} {x:V},br K F H E D->D[i]?=on x->∃d,E[i]?=on d/\c4 K F H d x
 |[],D,_,_,h,e=>by have q:D=[]:=h;subst q;simp at e
 |c::E,D,0,d,h,e=>by
  obtain⟨x,r,q,a,b⟩:=h;subst q;simp at e;subst e;exact⟨c,rfl,a⟩
 |c::E,D,i+1,d,h,e=>by
  obtain⟨x,r,q,a,b⟩:=h;subst q;obtain⟨y,f,g⟩:=br.getV (i:=i) (x:=d) b (by simpa using e);exact⟨y,by simpa using f,g⟩
theorem br.append:∀{ds E:a0c} {xs D:a0j},br K F H ds xs->br K F H E D->br K F H (ds++E) (xs++D)
 |[],_,xs,_,h,h'=>by have q:xs=[]:=h;subst q;exact h'
 |c::ds,E,xs,D,h,h'=>by
  obtain⟨x,r,q,a,b⟩:=h;subst q;exact⟨x,r++D,rfl,a,br.append b h'⟩
theorem br.take:∀{ds:a0c} {D:a0j} (n:Nat),br K F H ds D->br K F H (ds.take n) (D.take n)
 |[],D,n,h=>by have q:D=[]:=h;subst q;simp;rfl
 |c::ds,D,0,h=>by simp;rfl
 |c::ds,D,n+1,h=>by
  obtain⟨x,r,q,a,b⟩:=h;subst q;exact⟨x,r.take n,rfl,a,br.take n b⟩
theorem br.drop:∀{ds:a0c} {D:a0j} (n:Nat),br K F H ds D->br K F H (ds.drop n) (D.drop n)
 |[],D,n,h=>by have q:D=[]:=h;subst q;simp;rfl
 |c::ds,D,0,h=>h
 |c::ds,D,n+1,h=>by
  obtain⟨x,r,q,b,a⟩:=h;subst q;exact br.drop n a
theorem br.set:∀{ds:a0c} {xs:a0j} (i:Nat) {d:D} {x:V},br K F H ds xs->c4 K F H d x->br K F H (ds.set i d) (xs.set i x)
 |[],xs,i,_,_,h,_=>by have q:xs=[]:=h;subst q;simp;rfl
 |c::ds,xs,0,d,x,h,hd=>by
  obtain⟨y,r,q,b,a⟩:=h;subst q;exact⟨x,r,rfl,hd,a⟩
 |c::ds,xs,i+1,d,x,h,hd=>by
  obtain⟨y,r,q,b,a⟩:=h;subst q;exact⟨y,r.set i x,rfl,b,br.set i a hd⟩
theorem c4.j6(h:c4 K F H (.l d) v):∃a D,v= .r a/\eX K H a D/\br K F H d D:=by
 unfold c4 at h;obtain⟨a,D,e,b,c⟩:=h;exact⟨a,D,e,.inl b.2,c⟩
theorem c4.rdL(h:c4 K F H (.l d) v):∃a D,v= .r a/\Rd H a (.l D)/\br K F H d D:=by
 unfold c4 at h;obtain⟨a,D,e,b,c⟩:=h;exact⟨a,D,e,b.2,c⟩
theorem c4.scr{D:a0e}(h:c4 K F H (.scr D) v):∃a,v= .r a/\eX K H a (D.map V.n):=by
 unfold c4 at h;obtain⟨a,e,b⟩:=h;exact⟨a,e,b.imp (λp=>p.2) id⟩
theorem c4.f5(h:c4 K F H (.t d) v):∃a D,v= .r a/\iv K H a D/\br K F H d D:=by
 unfold c4 at h;obtain⟨a,D,e,b,c⟩:=h;exact⟨a,D,e,b.imp (λp=>p.2) id,c⟩
theorem c4.int(h:c4 K F H (.n i) v):v= .n i:=h
theorem c4.bl{i:Bool}(h:c4 K F H (.c i) v):v= .c i:=h
theorem c4.j9(h:c4 K F H (.q i) v):v= .q i:=h
theorem c4.j8(h:c4 K F H .o v):v= .o:=h
theorem c4.ty(h:c4 K F H (.ty n) v):v= .ty n:=h
theorem br.j8:∀(E:a0e) {G:a0j},br K F H (E.map D.n) G->G=E.map V.n
 |[],G,h=>h
 |n::E,G,h=>by
  obtain⟨x,r,e,a,b⟩:=h;rw[e,br.j8 E b];have q:x= .n n:=a;rw[q];rfl
theorem br.j7:∀(E:a0e),br K F H (E.map D.n)<|E.map V.n
 |[]=>rfl
 |n::E=>⟨.n n,E.map V.n,rfl,rfl,br.j7 E⟩
structure Fr (F:Fx) (H:Hp) (β:Bg):Prop where
 occ:∀a,F.A a->H a≠OZ
 bgA:∀b l,F.bg=on (b,l)->F.A b/\F.A l/\b≠l
 bag:∀b l,F.bg=on (b,l)->H b=on (.l [.r l,.n β.i,.n β.j])/\H l=on (.l<|β.cells.map V.n)
structure To (F:Fx) (H H':Hp) (β':Bg):Prop where
 kp:∀a o,H a=on o->(∀b l,F.bg=on (b,l)->a≠b/\a≠l)->H' a=on o
 fr:Fr F H' β'
theorem To.refl{F:Fx}{H:Hp}(fr:Fr F H a):To F H H a:=⟨λ_ _ h _=>h,fr⟩
theorem To.trans{F:Fx}{H c d:Hp}(a:To F H c β1)(b:To F c d β2):To F H d β2:=⟨λx o h n=>b.kp x o (a.kp x o h n) n,b.fr⟩
theorem Fr.same{F:Fx}{H c:Hp}(fr:Fr F H d)(s:bP H c):To F H c d:=
 ⟨λa o h _=>s a o h,⟨λa h q=>(by
  cases e:H a with
  |none=>exact fr.occ a h e
  |some o=>exact PU ((s a o e).symm.trans q)<|by simp),fr.bgA,λb l e=>⟨s _ _ (fr.bag b l e).1,s _ _ (fr.bag b l e).2⟩⟩⟩
theorem Fr.upd{F:Fx}{H:Hp}(fr:Fr F H a)(o:HO)(h:H p=OZ):To F H (upd H p o) a:=fr.same<|bP.upd h
theorem Fr.fresh{F:Fx}{H:Hp}(fr:Fr F H a)(h:H p=OZ):¬F.A p:=λq=>fr.occ p q h
theorem To.tr{F:Fx}{H c:Hp}(fr:Fr F H f)(t:To F H c d):Tr F H F c:=
 ⟨λ_ h _=>h,λa o h e=>t.kp a o e λb l q=>⟨λz=>h<|z▸(fr.bgA b l q).1,λz=>h<|z▸(fr.bgA b l q).2.1⟩,rfl⟩
abbrev Dn:=List a0m
structure jm (K:Pz) (F:Fx) (H:Hp) (δ:Dn) (σ:St):Prop where
 len:VX δ=VX σ
 tell:∀(i:Nat) (d:D),δ[i]?=on (on d)->∃v,σ[i]?=on (on v)/\c4 K F H d v
theorem jm.tr{K:Pz}{F a:Fx}{H b:Hp}(t:Tr F H a b)(h:jm K F H c f):jm K a b c f:=⟨h.len,λi d e=>let ⟨v,h1,h2⟩:=h.tell i d e;⟨v,h1,c4.tr t d v h2⟩⟩
theorem jm.set{K:Pz}{F:Fx}{H:Hp}{D:Dn}{a:St}(h:jm K F H D a)(E:c4 K F H d v):jm K F H (D.set i<|on d) (a.set i<|on v):=by
 refine⟨by rw[PX,PX,h.len],λj c e=>?_⟩;rw[Q9]at e;rw[Q9];by_cases q:i=j
 .subst q
  rw[Pc rfl]at e⊢;split at e
  .rename_i b
   cases e;rw[Pc<|by rw[<-h.len];exact b];exact⟨v,rfl,E⟩
  .cases e
 .rw[Pd q]at e⊢
  exact h.tell j c e
def Sub(F E:Dn):Prop:=∀(i:Nat) (d:D),F[i]?=on (on d)->E[i]?=on (on d)
theorem jm.sub{K:Pz}{F:Fx}{H:Hp}{E D:Dn}(h:jm K F H D a)(s:Sub E D)(l:VX E=VX D):jm K F H E a:=⟨l.trans h.len,λi d e=>h.tell i d<|s i d e⟩
abbrev M(D:Type):=Bg->Option (Except O7 D×Bg)
abbrev a0p:=Dn->M Bool
noncomputable def M.j7{D:Type}(a:D):M D:=λE=>on (.ok a,E)
noncomputable def M.v{D b:Type}(m:M D)(k:D->M b):M b:=λE=>match m E with
 |none=>OZ
 |some (.error C,β1)=>on (.error C,β1)
 |some (.ok a,β1)=>k a β1
noncomputable def M.f{D:Type}(o:Option D):M D:=λE=>match o with
 |some a=>on (.ok a,E)
 |none=>OZ
noncomputable def M.j9{D:Type}:M D:=λ_=>OZ
theorem M.l8{D b:Type}(a:D)(k:D->M b):M.v (M.f<|on a) k=k a:=rfl
theorem M.f5{D b:Type}{m:M D}{k:D->M b}{β β1:Bg}{a:D}(h:m β=on (.ok a,β1)):M.v m k β=k a β1:=by unfold M.v;rw[h]
theorem M.j8{E a:Type}{m:M E}{k:E->M a}{F D:Bg}{C:O7}(h:m F=on (.error C,D)):M.v m k F=on (.error C,D):=by unfold M.v;rw[h]
def run{D c:Type}(R:Hp->D->c->Prop)(F:Fx)(E:a0r)(e:St)(m:M D)(H:Hp)(Q:c->Hp->Prop)(G:Bg):Prop:=
 ∃r a,m G=on (r,a)/\match r with
  | .ok d=>∀v b,To F H b a->R b d v->Q v b
  | .error C=>∀b,To F H b a->E e (.ref C) OZ b
theorem run.mono{D c:Type}{R:Hp->D->c->Prop}{F:Fx}{E:a0r}{g:St}{m:M D}{H:Hp}{Q i:c->Hp->Prop}{β:Bg}(h:run R F E g m H Q β)(f:∀v a,Q v a->i v a):run R F E g m H i β:=by
 obtain⟨r,b,e,h⟩:=h;refine⟨r,b,e,?_⟩;cases r with
 |ok d=>exact λv a t q=>f v a<|h v a t q
 |error C=>exact h
theorem run.bind{D l i j:Type}{R:Hp->D->l->Prop}{R2:Hp->i->j->Prop}{F:Fx}{E:a0r}{b:St}{m:M D}{k:D->M i}{H:Hp}{Q:j->Hp->Prop}{β:Bg}(h:run R2 F E b (M.v m k) H Q β):
  run R F E b m H (λv a=>∃d β1,To F H a β1/\R a d v/\run R2 F E b (k d) a Q β1) β:=by
 obtain⟨r,c,e,h⟩:=h;cases q:m β with
 |none=>unfold M.v at e;rw[q]at e;cases e
 |some z=>
  obtain⟨r1,β1⟩:=z;refine⟨r1,β1,q,?_⟩;cases r1 with
  |error C=>
   rw[M.j8 q]at e;cases e;exact h
  |ok d=>
   rw[M.f5 q]at e;intro v a t G;refine⟨d,β1,t,G,r,c,e,?_⟩;cases r with
   |ok K=>exact λn f g o=>h n f (t.trans g) o
   |error C=>exact λf g=>h f<|t.trans g
theorem run.j7{D b:Type}{R:Hp->D->b->Prop}{F:Fx}{E:a0r}{c:St}{a:D}{v:b}{H:Hp}{Q:b->Hp->Prop}{β:Bg}(fr:Fr F H β)(h:run R F E c (M.j7 a) H Q β)(r:R H a v):Q v H:=by
 obtain⟨_,_,e,h⟩:=h;cases e;exact h v H (To.refl fr) r
theorem run.j6{D c:Type}{R:Hp->D->c->Prop}{F:Fx}{E:a0r}{d:St}{o:Option D}{H:Hp}{Q:c->Hp->Prop}{G:Bg}(h:run R F E d (M.f o) H Q G):∃a,o=on a/\∀v b,To F H b G->R b a v->Q v b:=by
 obtain⟨_,_,e,h⟩:=h;cases o with
 |none=>cases e
 |some a=>cases e;exact⟨a,rfl,h⟩
abbrev FD:=Dn->M D
abbrev FL:=Dn->M a0c
def tV(K:Pz)(f:FD)(E:a0r):TE:=λa H Q=>∃F D G,Fr F H G/\jm K F H D a/\run (c4 K F) F E a (f D) H Q G
def i_(K:Pz)(f:FL)(E:a0r):TA:=λa H Q=>∃F D G,Fr F H G/\jm K F H D a/\run (br K F) F E a (f D) H Q G
def g0(K:Pz)(f:a0p)(E:a0r):TT:=λc H Q=>∃F D G,Fr F H G/\jm K F H D c/\run (λ_ (a b:Bool)=>b=a) F E c (f D) H Q G
theorem _root_.L2.PE.imp(h:PE X e t)(f:∀a H Q,c a H Q->t a H Q):PE X e c:=λb s a H Q I q=>h b s a H Q I<|f a H Q q
theorem _root_.L2.PT.imp(h:PT X e t)(f:∀a H Q,c a H Q->t a H Q):PT X e c:=λb s a H Q I q=>h b s a H Q I<|f a H Q q
theorem _root_.L2.PW.imp(h:PW X e t)(f:∀a H Q,d a H Q->t a H Q):PW X e d:=λc b s a H Q I q=>h c b s a H Q I<|f a H Q q
theorem _root_.L2.PA.imp(h:PA X e t)(f:∀a H Q,c a H Q->t a H Q):PA X e c:=λD b s a H Q I q=>h D b s a H Q I<|f a H Q q
def ad(i:Nat):FD:=λD=>M.f<|D.getD i OZ
def fC(d:D):FD:=λ_=>M.j7 d
def f1(E:D->a0m)(f:FD):FD:=λF=>M.v (f F) λa=>M.f<|E a
def f2(E:a0R)(f g:FD):FD:=λD=>M.v (f D) λa=>M.v (g D) λb=>M.f<|E a b
noncomputable def am:FL:=λ_=>M.j7 []
def aa(f:FD)(g:FL):FL:=λD=>M.v (f D) λa=>M.v (g D) λE=>M.j7<|a::E
def aB(D:a0c->a0m)(g:FL):FD:=λE=>M.v (g E) λF=>M.f<|D F
def aO(m:a0c->M D)(g:FL):FD:=λE=>M.v (g E) λF=>m F
variable{X:Cx}{E:a0r}{e a b:Expr}{es:List Expr}{U:Uq}
theorem Nm(i:Nat)(h:PE X (.Name x U)<|l5 i):PE X (.Name x U) (tV X.K (ad i) E):=h.imp λl H Q c=>by
 obtain⟨F,a,b,fr,f,r⟩:=c;obtain⟨d,e,r⟩:=run.j6 r;have g:a[i]?=on (on d):=by
  rw[O5]at e;cases q:a[i]? with
  |none=>rw[q]at e;cases e
  |some z=>rw[q]at e;simp at e;rw[e]
 obtain⟨v,j,k⟩:=f.tell i d g;exact⟨v,j,r v H (To.refl fr) k⟩
theorem r8(h:PE X e<|tC v)(a:∀F H,c4 X.K F H d v):PE X e (tV X.K (fC d) E):=h.imp λf H Q c=>by obtain⟨F,b,D,fr,g,r⟩:=c;exact run.j7 fr r<|a F H
theorem ak{i j U}:PE X (.Constant (.int i) j U) (tV X.K (fC<|.n i) E):=r8 bT λ_ _=>rfl
theorem rC{i j U}:PE X (.Constant (.bool i) j U) (tV X.K (fC<|.c i) E):=r8 NT λ_ _=>rfl
theorem yD{j U}:PE X (.Constant .none j U) (tV X.K (fC .o) E):=r8 LE λ_ _=>rfl
theorem jp:PA X [] (i_ X.K am E):=eZ.imp λd H Q c=>by obtain⟨F,a,b,fr,f,r⟩:=c;exact run.j7 fr r br.f5
theorem cw(D:PE X e<|tV X.K f E)(k:PA X es<|i_ X.K g E)(G:b0a X e es:=by rfl):PA X (e::es) (i_ X.K (aa f g) E):=
 (cg D k G).imp λm H Q c=>lm c λF b M fr i r=>⟨F,b,M,fr,i,(run.bind (R:=c4 X.K F) r).mono λv n ⟨d,a,t,S,r1⟩=>
  ⟨F,b,a,t.fr,i.tr<|t.tr fr,(run.bind (R:=br X.K F) r1).mono λV o c=>pj c λp U j h l=>run.j7 j.fr l<|br.cons (c4.tr (j.tr t.fr) _ _ S) h⟩⟩
def aX(K:Pz)(r:R2)(E:a0R):Prop:=∀(F:Fx) (H:Hp) (a:Bg) (Q:VK) (b e d:D) (f g:V),Fr F H a->c4 K F H b f->c4 K F H e g->E b e=on d->
 (∀v c,To F H c a->c4 K F c d v->Q v c)->r f g H Q
def IG(K:Pz)(r:V->Hp->VK->Prop)(e:D->a0m):Prop:=∀(F:Fx) (H:Hp) (a:Bg) (Q:VK) (b d:D) (f:V),Fr F H a->c4 K F H b f->e b=on d->
 (∀v c,To F H c a->c4 K F c d v->Q v c)->r f H Q
def ef(K:Pz)(r:a0G)(E:a0c->a0m):Prop:=∀(F:Fx) (H:Hp) (a:Bg) (Q:VK) (b:a0c) (d:D) (e:a0j),Fr F H a->br K F H b e->E b=on d->
 (∀v c,To F H c a->c4 K F c d v->Q v c)->r e H Q
theorem pV{K:Pz}(l:aX K r op){H:Hp}(h:tV K (f2 op f g) E s H Q):tOp r (tV K f E) (tV K g E) s H Q:=by
 obtain⟨F,e,D,fr,j,h⟩:=h;refine⟨F,e,D,fr,j,(run.bind (R:=c4 K F) h).mono λv u c=>pj c λd a t G r1=>⟨F,e,a,t.fr,j.tr<|t.tr fr,(run.bind (R:=c4 K F) r1).mono λn o c=>pj c λM b m i p=>?_⟩⟩;obtain⟨S,q,k⟩:=run.j6 p;exact l F o b Q d M S v n m.fr (c4.tr (m.tr t.fr) _ _ G) i q k
theorem aJ(c:f_ X (Sv op) r)(l:aX X.K r o)(e:PE X a<|tV X.K f E)(d:PE X b<|tV X.K g E):PE X (.BinOp a op b U) (tV X.K (f2 o f g) E):=
 (dX c e d).imp λ_ _ _=>pV l
theorem nF(c:f_ X (QX op) r)(l:aX X.K r o)(e:PE X a<|tV X.K f E)(d:PE X b<|tV X.K g E)(D:UE op b=O8:=by first|exact v4 _|rfl):PE X (.Compare a [op] [b] U) (tV X.K (f2 o f g) E):=
 (JC c e d D).imp λ_ _ _=>pV l
theorem v_un(g:UnR X (unaryOp op) r)(l:IG X.K r o)(e:PE X a<|tV X.K f E):PE X (.UnaryOp op a U) (tV X.K (f1 o f) E):=
 (NS g e).imp λm H Q c=>lm c λF D G fr i h=>⟨F,D,G,fr,i,(run.bind (R:=c4 X.K F) h).mono λv j c=>pj c λd b t M r1=>let ⟨d3,e3,k⟩:=run.j6 r1;l F j b Q d d3 v t.fr M e3 k⟩
theorem bo(c:N_ X r)(l:aX X.K r o)(e:PE X a<|tV X.K f E)(d:PE X b<|tV X.K g E)(D:sL b:=by exact λ_ _=>rfl):PE X (.Subscript a b U) (tV X.K (f2 o f g) E):=
 (iX c e d D).imp λ_ _ _=>pV l
theorem BL{K:Pz}(l:ef K r op){H:Hp}(h:tV K (aB op g) E m H Q):tCB r (i_ K g E) m H Q:=by
 obtain⟨F,b,e,fr,c,h⟩:=h;refine⟨F,b,e,fr,c,(run.bind (R:=br K F) h).mono λv f i=>pj i λd a t D r1=>?_⟩;obtain⟨G,j,k⟩:=run.j6 r1;exact l F f a Q d G v t.fr D j k
theorem cL{f:String}(hc:dg X (.builtin f) r)(l:ef X.K r op)(h:Gl X x)(a:X.mg x=OZ)(i:Te x=on (.builtin f))(b:PA X (e::es)<|i_ X.K g E)(D:x≠"__name__":=by decide)(c:b0c x:=by decide)
  (j:b0a X e es:=by rfl) (d:b0b X U es:=by rfl):PE X (.Call (.Name x p) (e::es) [] U) (tV X.K (aB op g) E):=
 (lz hc h a i b D c j d).imp λ_ _ _=>BL l
theorem cP(hc:dg X (.type T) r)(l:ef X.K r op)(f:Gl X x)(a:X.mg x=OZ)(h:Te x=on (.type T))(b:PA X (e::es)<|i_ X.K g E)(D:x≠"__name__":=by decide)(c:b0c x:=by decide)
  (i:b0a X e es:=by rfl) (d:b0b X U es:=by rfl):PE X (.Call (.Name x p) (e::es) [] U) (tV X.K (aB op g) E):=
 (ki hc f a h b D c i d).imp λ_ _ _=>BL l
noncomputable def da(a:a0c):a0m:=if VX a<=Ps then on (.t a)else OZ
noncomputable def dZ(ds:a0c):a0m:=if VX ds<=Ps then on (.l ds)else OZ
theorem c4.l8{K:Pz}{F:Fx}{H:Hp}(fr:Fr F H f)(h:H p=OZ)(a:br K F H d c):c4 K F (upd H p<|.t c) (.t d) (.r p):=
 ⟨p,c,rfl,.inl ⟨fr.fresh h,.inl aj⟩,br.tr ((fr.upd _ h).tr fr) _ _ a⟩
theorem c4.j7{K:Pz}{F:Fx}{H:Hp}(fr:Fr F H f)(h:H p=OZ)(a:br K F H d c):c4 K F (upd H p<|.l c) (.l d) (.r p):=
 ⟨p,c,rfl,⟨fr.fresh h,.inl aj⟩,br.tr ((fr.upd _ h).tr fr) _ _ a⟩
theorem bQ{m}(h:PA X es<|i_ X.K g E):PE X (.Tuple es m U) (tV X.K (aB da g) E):=
 (LA h).imp λj H Q d=>lm d λF b e fr i r=>⟨F,b,e,fr,i,(run.bind (R:=br X.K F) r).mono λG l d=>by
  obtain⟨M,D,t,a,r1⟩:=d;obtain⟨S,c,k⟩:=run.j6 r1;unfold da at c;split at c
  .cases c
   exact⟨by rw[<-a.length];assumption,λp f=>k _ _ (t.fr.upd _ f)<|c4.l8 t.fr f a⟩
  .cases c⟩
theorem eM(h:PA X es<|i_ X.K g E):PE X (.List es U) (tV X.K (aB dZ g) E):=
 (jF h).imp λj H Q d=>lm d λF b e fr i r=>⟨F,b,e,fr,i,(run.bind (R:=br X.K F) r).mono λG l d=>by
  obtain⟨M,D,t,a,r1⟩:=d;obtain⟨S,c,k⟩:=run.j6 r1;unfold dZ at c;split at c
  .cases c
   exact⟨by rw[<-a.length];assumption,λp f=>k _ _ (t.fr.upd _ f)<|c4.j7 t.fr f a⟩
  .cases c⟩
def KX(K:Pz)(n:Nat)(m:a0c->M D):Sp:=λa H Q E=>VX a=n/\∃F b e,Fr F H e/\br K F H b a/\run (c4 K F) F (λ_=>E) [] (m b) H Q e
variable{p:Uq}{x:Qa}{k n:Nat}{f:O7}{fd:PP}{ps:a0h}
theorem run.toE{a c:Type}{R:Hp->a->c->Prop}{F:Fx}{E:a0r}{d:St}{m:M a}{H:Hp}{Q:c->Hp->Prop}{b:Bg}(h:run R F E d m H Q b):run R F (λ_=>E d) [] m H Q b:=h
theorem AX(G:en X.p X.w X.K X.mg X.base (f0 X.p X.w) k f fd ps<|KX X.K n m)(q:ee k X.A)(u:Gl X x)(S:X.mg x=on (.ref f))(v:Vo X.K (.ref f)=O6)(y:cq X.K fd ps [])(B:bU (f0 X.p X.w) X E)
  (V:PA X (e::es)<|i_ X.K g E) (s:∀a b r h,g a b=on (.ok r,h)->VX r=n) (c:b0c x:=by decide) (I:b0a X e es:=by rfl) (d:b0b X U es:=by rfl):
  PE X (.Call (.Name x p) (e::es) [] U) (tV X.K (aO m g) E):=
 (nX G q u S v y .nil B V c I d).imp λT H Q J=>lm J λF a b fr L r=>⟨F,a,b,fr,L,by
  obtain⟨r0,i,l,o⟩:=run.bind (R:=br X.K F) r;refine⟨r0,i,l,?_⟩;cases r0 with
  |error C=>exact o
  |ok Y=>
   intro z N t M;obtain⟨W,D,O,j,r1⟩:=o z N t M;have P:=s _ _ _ _ l;refine⟨by rw[QI,<-M.length,P],F,W,D,O.fr,by rw[QI];exact j,run.toE r1⟩⟩
theorem Hd{r:a0c}(h:am d g=on (.ok r,c)):VX r=0:=by cases h;rfl
theorem bn{f:FD}{n:Nat}(d:∀a b r c,g a b=on (.ok r,c)->VX r=n):∀a b r c,aa f g a b=on (.ok r,c)->VX r=n+1:=by
 intro a b r c h;unfold aa M.v at h;split at h
 .cases h
 .cases h
 .dsimp only at h
  split at h
  .cases h
  .cases h
  .rename_i as _ i
   cases h;rw[Pt,d _ _ _ _ i]
noncomputable def o1(g:Int->Int->a0m):D->D->a0m
 | .n i,.n j=>g i j
 |_,_=>OZ
theorem jH{a b d:D}(h:o1 g a b=on d):∃i j,a= .n i/\b= .n j/\g i j=on d:=by
 cases a<;>first|cases h|(cases b<;>first|cases h|exact⟨_,_,rfl,rfl,h⟩)
theorem Er{g:a0J}:aX K (si λi j=> .n<|g i j) (o1 λi j=>on<|.n<|g i j):=λF H a Q b f d l m fr c h e k=>by
 obtain⟨i,j,rfl,rfl,e⟩:=jH e;cases e;exact⟨i,j,c,h,k _ H (To.refl fr) rfl⟩
theorem lF{g:Int->Int->Bool}:aX K (si λi j=> .c<|g i j) (o1 λi j=>on<|.c<|g i j):=λF H a Q b f d l m fr c h e k=>by
 obtain⟨i,j,rfl,rfl,e⟩:=jH e;cases e;exact⟨i,j,c,h,k _ H (To.refl fr) rfl⟩
theorem mM{C:a0V}{c:Int->Int->Bool}{g:a0J}(hc:∀i j,c i j=O6->C i j):aX K (rI C λi j=> .n<|g i j) (o1 λi j=>if c i j=O6 then on (.n<|g i j)else OZ):=λF H a Q b f d o q fr l m e k=>by
 obtain⟨i,j,rfl,rfl,h⟩:=jH e;split at h
 .cases h
  exact⟨i,j,l,m,hc _ _ (by assumption),k _ H (To.refl fr) rfl⟩
 .cases h
noncomputable def h9(i:Int):Bool:=decide (i.natAbs<2^1000)
def vh:D->D->a0m:=o1 λi j=>on<|.n<|i-j
def z6:D->D->a0m:=o1 λi j=>if(decide (0<j)&&decide (j.natAbs.log2<9000))=O6 then on (.n<|i/j)else OZ
def L5:D->D->a0m:=o1 λi j=>if decide (0<j)=O6 then on (.n<|i % j)else OZ
def ltD:D->D->a0m:=o1 λi j=>on<|.c<|decide (i<j)
def leD:D->D->a0m:=o1 λi j=>on<|.c<|decide (i<=j)
def gtD:D->D->a0m:=o1 λi j=>on<|.c<|decide (j<i)
theorem kq:aX K (si λi j=> .n<|i-j) vh:=Er
theorem rZ:aX K (si λi j=> .c<|decide (i<j)) ltD:=lF
theorem mP:aX K (si λi j=> .c<|decide (i<=j)) leD:=lF
theorem lH:aX K (si λi j=> .c<|decide (j<i)) gtD:=lF
theorem qC:aX K (rI uW λi j=> .n<|i/j) z6:=mM λi j h=>by
 simp only[PV,P9]at h;exact h
theorem Ia:aX K (rI (λ_ j=>0<j) λi j=> .n<|i % j) L5:=mM λi j h=>QH h
noncomputable def y9:R2:=λx y H Q=>∃l b a c,x= .r l/\y= .r b/\Rd H l (.l a)/\Rd H b (.l c)/\VX a+VX c<=Ps/\∀p,H p=OZ->Q (.r p) (upd H p<|.l<|a++c)
theorem JG:f_ X (Sv .Add) y9:=by
 intro d s t H x y v u Q I i j h;obtain⟨l,b,f,w,rfl,rfl,m,hB,A,q⟩:=h;cases i;cases j;obtain⟨z,a,n,r,e⟩:=m.ok I.hok;obtain⟨B,c,C,g,o⟩:=hB.ok I.hok;have k:=r.length;have J:=g.length;refine Zb e o ?_ (by simp only[PH];lia);rw[show a.toArray++c.toArray=(a++c).toArray by simp];exact⟨.r _,_,I.lnew (t':=s.toks) (r.append g) (by rw[PR];lia),rfl,q _ I.fresh⟩
def za(K:Pz):R2:=λx y H Q=>∃a b e,x= .r a/\y= .r b/\iv K H a []/\iv K H b e/\Q (.r b) H
theorem JH:f_ X (Sv .Add) (za X.K):=by
 intro l s N H x y v u Q I r t h;obtain⟨a,b,E,rfl,rfl,f,w,q⟩:=h;cases r;cases t;obtain⟨k,r1,A,_⟩:=I.tuple f;obtain⟨m,O,B,_⟩:=I.tuple w;cases r1;obtain⟨⟨F,p,C,i⟩,o,hc,n,e⟩:=A;obtain⟨⟨G,D,J,j⟩,c,d,L,g⟩:=B;simp only at hc e d g;subst hc e d g;exact PySem.concat_meets ⟨_,o,rfl⟩ ⟨_,c,rfl⟩ XO Zl Vj U7 (UR _ _) (tuple_addW0 a b _ _ n L p D i j<|by simp) ⟨o,c,⟨.r b,H,I,rfl,q⟩⟩
noncomputable def gF:D->D->a0m
 | .n i,.n j=>on<|.n<|i+j
 | .t [],.t b=>on<|.t b
 | .l a,.l b=>if VX a+VX b<=Ps then on (.l<|a++b)else OZ
 | .t (c::a),.t b=>if(c::a).length+VX b<=Ps then on (.t<|c::a++b)else OZ
 |_,_=>OZ
theorem cm:aX K (λx y H Q=>(si λi j=> .n<|i+j) x y H Q\/y9 x y H Q\/y8 K x y H Q\/za K x y H Q) gF:=λF H D Q E G d v w fr h l e k=>by
 unfold gF at e;split at e
 .cases e
  exact .inl ⟨_,_,h,l,k _ H (To.refl fr) rfl⟩
 .cases e
  obtain⟨a,f,rfl,r1,c⟩:=c4.f5 h;obtain⟨b,n,rfl,m,g⟩:=c4.f5 l;have q:f=[]:=c;subst q;exact .inr<|.inr<|.inr ⟨a,b,n,rfl,rfl,r1,m,k _ H (To.refl fr) l⟩
 .split at e
  .cases e
   obtain⟨a,f,rfl,r1,c⟩:=c4.rdL h;obtain⟨b,n,rfl,m,g⟩:=c4.rdL l;exact .inr<|.inl ⟨a,b,f,n,rfl,rfl,r1,m,by rw[<-c.length,<-g.length];assumption,λp o=>k _ _ (fr.upd _ o)<|c4.j7 fr o<|c.append g⟩
  .cases e
 .split at e
  .cases e
   obtain⟨a,f,rfl,r1,c⟩:=c4.f5 h;obtain⟨b,n,rfl,m,g⟩:=c4.f5 l;have r:=c.length;have t:=g.length;refine .inr<|.inr<|.inl ⟨a,b,f,n,rfl,rfl,r1,m,(λz=>by subst z;cases r),by rw[<-r,<-t];assumption,λz=>?_,λ_ p o=>k _ _ (fr.upd _ o)<|c4.l8 fr o<|c.append g⟩;subst z;have u:=T0.mp t;subst u;rw[QI]at k;exact k _ H (To.refl fr) h
  .cases e
 .cases e
theorem aR:f_ X (Sv .Add) (λx y H Q=>(si λi j=> .n<|i+j) x y H Q\/y9 x y H Q\/y8 X.K x y H Q\/za X.K x y H Q):=qq.or<|JG.or<|JF.or JH
def mH:D->D->a0m:=o1 λi j=>if(h9 i&&h9 j)=O6 then on (.n<|i*j)else OZ
theorem dI:aX K (rI uV λi j=> .n<|i*j) mH:=mM λi j h=>by
 simp only[PV,h9,P9]at h;exact h
noncomputable def eqS:D->D->a0N
 | .o,.o=>on O6
 | .n i,.n j=>on<|decide (i=j)
 | .c i,.c j=>on<|decide (i=j)
 | .q i,.q j=>on<|decide (i=j)
 | .n _,.q _=>on O8
 | .q _,.n _=>on O8
 | .c _,.q _=>on O8
 | .q _,.c _=>on O8
 | .o,.n _=>on O8
 | .n _,.o=>on O8
 | .o,.q _=>on O8
 | .q _,.o=>on O8
 |_,_=>OZ
theorem EU{F:Fx}{H:Hp}{a b:D}{c:Bool}(h:eqS a b=on c)(d:c4 K F H a v)(g:c4 K F H b w):FW v w=O6/\decide (v=w)=c:=by
 cases a<;>first|cases h|(cases b<;>first|(cases h;cases d;cases g;exact⟨rfl,rfl⟩)|(cases h;cases d;cases g;exact⟨rfl,by simp⟩)|cases h)
noncomputable def isN:D->Bool
 | .o=>O6
 |_=>O8
theorem Mw{F:Fx}{H:Hp}(h:c4 K F H d v):decide (v= .o)=isN d:=by
 cases d with
 |o=>cases h.j8;rfl
 |c b=>cases h.bl;rfl
 |n b=>cases h.int;rfl
 |q b=>cases h.j9;rfl
 |ty b=>cases h.ty;rfl
 |txt=>unfold c4 at h;obtain⟨z,rfl⟩:=h;rfl
 |l ds=>obtain⟨a,e,rfl,_⟩:=c4.j6 h;rfl
 |t ds=>obtain⟨a,e,rfl,_⟩:=c4.f5 h;rfl
 |scr ds=>obtain⟨a,rfl,_⟩:=c4.scr h;rfl
 |obj C ns ds=>
  unfold c4 at h;obtain⟨a,_,_,rfl,_⟩:=h;rfl
 |bag=>
  unfold c4 at h;obtain⟨a,_,_,rfl⟩:=h;rfl
 |adr a=>
  unfold c4 at h;obtain rfl:=h;rfl
 |dct b ks vs=>
  unfold c4 at h;obtain⟨a,_,e,rfl,_⟩:=h;rfl
noncomputable def zQ:D->D->a0m
 |a,.o=>on<|.c<|isN a
 |_,_=>OZ
theorem zE:aX K (λx y H Q=>y= .o/\Q (.c<|decide (x= .o)) H) zQ:=λF H a Q b f d h i fr c g e k=>by
 unfold zQ at e;split at e
 .cases e
  exact⟨g,by rw[Mw c];exact k _ H (To.refl fr) rfl⟩
 .cases e
noncomputable def eS:D->Bool
 | .n _=>O6| .c _=>O6| .q _=>O6| .o=>O6|_=>O8
noncomputable def eqF:D->D->Bool
 | .o,.o=>O6
 | .c a,.c b=>a==b
 | .c a,.n b=>(if a then 1 else 0)==b
 | .n a,.c b=>a==(if b then 1 else 0)
 | .n a,.n b=>a==b
 | .q a,.q b=>a==b
 |_,_=>O8
noncomputable def fV:D->a0A
 | .l a=>on a
 | .t a=>on a
 |_=>OZ
def inB(x:D)(a:a0c):Bool:=a.any λy=>eqF y x
def inD(a:Bool)(x y:D):a0m:=(fV y).bind λb=>if(eS x&&b.all eS)=O6 then on (.c (if a then !inB x b else inB x b))else OZ
theorem sr{F:Fx}{H:Hp}(f:eS d=O6)(h:c4 K F H d v):hX v=O6:=by
 cases d<;>first|(cases h.int;rfl)|(cases h.bl;rfl)|(cases h.j9;rfl)|(cases h.j8;rfl)|cases f
theorem MN{F:Fx}{H:Hp}{a b:D}(g:eS a=O6)(h:eS b=O6)(c:c4 K F H a v)(d:c4 K F H b w):S_ v w=eqF a b:=by
 cases a<;>first
  |(exfalso;exact Pf g)
  |(cases b<;>first
   |(exfalso;exact Pf h)
   |(cases c.int;cases d.int;rfl)|(cases c.int;cases d.bl;rfl)|(cases c.int;cases d.j9;rfl)|(cases c.int;cases d.j8;rfl)
   |(cases c.bl;cases d.int;rfl)|(cases c.bl;cases d.bl;rfl)|(cases c.bl;cases d.j9;rfl)|(cases c.bl;cases d.j8;rfl)
   |(cases c.j9;cases d.int;rfl)|(cases c.j9;cases d.bl;rfl)|(cases c.j9;cases d.j9;rfl)|(cases c.j9;cases d.j8;rfl)
   |(cases c.j8;cases d.int;rfl)|(cases c.j8;cases d.bl;rfl)|(cases c.j8;cases d.j9;rfl)|(cases c.j8;cases d.j8;rfl))
theorem wu{F:Fx}{H:Hp}{x:D}(c:eS x=O6)(g:c4 K F H x v):∀{b:a0c} {a:a0j},b.all eS=O6->br K F H b a->a.all hX=O6/\inV v a=inB x b
 |[],a,_,h=>by have q:a=[]:=h;subst q;exact⟨rfl,rfl⟩
 |d::b,a,f,h=>by
  obtain⟨y,r,q,i,l⟩:=h;subst q;rw[Wh,PV]at f;obtain⟨m,j⟩:=wu c g f.2 l;refine⟨by rw[Wh,sr f.1 i,m];rfl,?_⟩;unfold inV inB at j⊢;rw[Vc,Vc,j,MN f.1 c i g]
theorem GO{neg:Bool}:aX K (rIn K neg) (inD neg):=λF H p Q x n d l m fr g j e k=>by
 unfold inD at e;cases q:fV n with
 |none=>rw[q]at e;cases e
 |some D=>
  rw[q]at e;simp only[SE]at e;split at e
  .rename_i c
   rw[PV]at c;cases e;cases n<;>first|(cases q;obtain⟨a,b,rfl,r1,f⟩:=c4.j6 j;obtain⟨h,i⟩:=wu c.1 g c.2 f;exact⟨a,b,rfl,.inl r1,sr c.1 g,h,by rw[i];exact k _ H (To.refl fr) rfl⟩)|(cases q;obtain⟨a,b,rfl,r1,f⟩:=c4.f5 j;obtain⟨h,i⟩:=wu c.1 g c.2 f;exact⟨a,b,rfl,.inr r1,sr c.1 g,h,by rw[i];exact k _ H (To.refl fr) rfl⟩)|cases q
  .cases e
def g8:D->D->a0m
 | .l xs,.n i=>v0 xs i
 | .t xs,.n i=>v0 xs i
 |_,_=>OZ
theorem Fg{F:Fx}{H:Hp}(h:br K F H c g)(e:v0 c i=on d):∃v,v0 g i=on v/\c4 K F H d v:=by
 unfold v0 at e⊢;rw[<-h.length];cases q:p5 (VX c) i with
 |none=>rw[q]at e;cases e
 |some j=>
  rw[q]at e;exact h.get e
theorem bx:aX K (λx y H Q=>y7 K x y H Q\/F5 K x y H Q) g8:=λF H f Q n p d i j fr g h e k=>by
 unfold g8 at e;split at e
 .obtain⟨a,xs,rfl,r1,dl⟩:=c4.j6 g
  obtain⟨v,c,b⟩:=Fg dl e;exact .inl ⟨a,xs,_,v,rfl,h,r1,c,k _ H (To.refl fr) b⟩
 .obtain⟨a,xs,rfl,r1,dl⟩:=c4.f5 g
  obtain⟨v,c,b⟩:=Fg dl e;exact .inr ⟨a,xs,_,v,rfl,h,r1,c,k _ H (To.refl fr) b⟩
 .cases e
theorem aG:N_ X (λx y H Q=>y7 X.K x y H Q\/F5 X.K x y H Q):=fG.or Mv
noncomputable def fj:a0c->a0m
 |[.l xs]=>on<|.n<|VX xs
 |[.t xs]=>on<|.n<|VX xs
 |_=>OZ
theorem br.j6{F:Fx}{H:Hp}(h:br K F H [d] i):∃v,i=[v]/\c4 K F H d v:=by
 obtain⟨x,r,e,c,g⟩:=h;have q:r=[]:=g;subst q;exact⟨x,e,c⟩
theorem br.j9{F:Fx}{H:Hp}(h:br K F H [d,c] l):∃v w,l=[v,w]/\c4 K F H d v/\c4 K F H c w:=by
 obtain⟨x,r,e,g,i⟩:=h;obtain⟨y,rfl,j⟩:=br.j6 i;exact⟨x,y,e,g,j⟩
theorem Od:ef K (λb H Q=>∃p f,b=[.r p]/\(eX K H p f\/iv K H p f)/\Q (.n<|VX f) H) fj:=λF H x Q D d E fr h e k=>by
 unfold fj at e;split at e
 .cases e
  obtain⟨v,rfl,g⟩:=br.j6 h;obtain⟨a,b,rfl,r,n⟩:=c4.j6 g;exact⟨a,b,rfl,.inl r,by rw[<-n.length];exact k _ H (To.refl fr) rfl⟩
 .cases e
  obtain⟨v,rfl,g⟩:=br.j6 h;obtain⟨a,b,rfl,r,n⟩:=c4.f5 g;exact⟨a,b,rfl,.inr r,by rw[<-n.length];exact k _ H (To.refl fr) rfl⟩
 .cases e
noncomputable def MY:a0c->a0m
 |[.n i]=>on<|.n (if i<0 then -i else i)
 |_=>OZ
theorem Ig:ef K (λa H Q=>∃i,a=[.n i]/\Q (.n (if i<0 then -i else i)) H) MY:=λF H b Q f d n fr h e k=>by
 unfold MY at e;split at e
 .cases e
  obtain⟨v,rfl,g⟩:=br.j6 h;cases g.int;exact⟨_,rfl,k _ H (To.refl fr) rfl⟩
 .cases e
noncomputable def v7:a0c->a0m
 |[.n i,.n j]=>on<|.n (if j<i then j else i)
 |_=>OZ
noncomputable def zw:a0c->a0m
 |[.n i,.n j]=>on<|.n (if j>i then j else i)
 |_=>OZ
theorem Ib:ef K (λa H Q=>∃i j,a=[.n i,.n j]/\Q (.n (if j<i then j else i)) H) v7:=λF H f Q n d p fr h e k=>by
 unfold v7 at e;split at e
 .cases e
  obtain⟨v,w,rfl,g,b⟩:=br.j9 h;cases g.int;cases b.int;exact⟨_,_,rfl,k _ H (To.refl fr) rfl⟩
 .cases e
theorem Oc:ef K (λa H Q=>∃i j,a=[.n i,.n j]/\Q (.n (if j>i then j else i)) H) zw:=λF H f Q n d p fr h e k=>by
 unfold zw at e;split at e
 .cases e
  obtain⟨v,w,rfl,g,b⟩:=br.j9 h;cases g.int;cases b.int;exact⟨_,_,rfl,k _ H (To.refl fr) rfl⟩
 .cases e
noncomputable def cu:a0c->Option a0e
 |[]=>on []
 | .n i::r=>(cu r).map (i::·)
 |_=>OZ
theorem h8:∀{a:a0c} {b:a0e},cu a=on b->a=b.map D.n
 |[],b,h=>by cases h;rfl
 |d::a,b,h=>by
  cases d with
  |n i=>
   unfold cu at h;cases q:cu a with
   |none=>rw[q]at h;cases h
   |some e=>rw[q]at h;cases h;rw[h8 q];rfl
  |_=>cases h
theorem lJ:∀a:a0e,cu (a.map D.n)=on a
 |[]=>rfl
 |n::a=>by
  show(cu<|a.map D.n).map (n::·)=_;rw[lJ a];rfl
def FO:a0c->a0m
 |[.l xs]=>(cu xs).map λa=> .n a.sum
 |_=>OZ
theorem N9:ef K (λf H Q=>∃(a:O7) (b:a0e),f=[.r a]/\eX K H a (b.map V.n)/\Q (.n b.sum) H) FO:=λF H p Q x d D fr h e k=>by
 unfold FO at e;split at e
 .rename_i f
  cases q:cu f with
  |none=>rw[q]at e;cases e
  |some b=>
   rw[q]at e;cases e;obtain⟨v,rfl,g⟩:=br.j6 h;obtain⟨a,E,rfl,r,n⟩:=c4.j6 g;rw[h8 q]at n;have c:=br.j8 b n;subst c;exact⟨a,b,rfl,r,k _ H (To.refl fr) rfl⟩
 .cases e
noncomputable def uI:a0c->a0m
 |[.l xs]=>on<|.l xs
 |[.t xs]=>on<|.l xs
 |_=>OZ
theorem kQ:ef K (λb H Q=>∃p f,b=[.r p]/\(eX K H p f\/iv K H p f)/\∀l,H l=OZ->Q (.r l) (upd H l<|.l f)) uI:=λF H x Q D d E fr h e k=>by
 unfold uI at e;split at e
 .cases e
  obtain⟨v,rfl,g⟩:=br.j6 h;obtain⟨a,b,rfl,r,n⟩:=c4.j6 g;exact⟨a,b,rfl,.inl r,λl c=>k _ _ (fr.upd _ c)<|c4.j7 fr c n⟩
 .cases e
  obtain⟨v,rfl,g⟩:=br.j6 h;obtain⟨a,b,rfl,r,n⟩:=c4.f5 g;exact⟨a,b,rfl,.inr r,λl c=>k _ _ (fr.upd _ c)<|c4.j7 fr c n⟩
 .cases e
noncomputable def u9:a0c->a0m
 |[.l xs]=>on<|.t xs
 |[.t xs]=>on<|.t xs
 |_=>OZ
theorem jh:ef K (λb H Q=>∃p f,b=[.r p]/\((eX K H p f/\∀l,H l=OZ->Q (.r l) (upd H l<|.t f))\/(iv K H p f/\Q (.r p) H))) u9:=λF H x Q D d E fr h e k=>by
 unfold u9 at e;split at e
 .cases e
  obtain⟨v,rfl,g⟩:=br.j6 h;obtain⟨a,b,rfl,r,n⟩:=c4.j6 g;exact⟨a,b,rfl,.inl ⟨r,λl c=>k _ _ (fr.upd _ c)<|c4.l8 fr c n⟩⟩
 .cases e
  obtain⟨v,rfl,g⟩:=br.j6 h;obtain⟨a,b,rfl,r,n⟩:=c4.f5 g;exact⟨a,b,rfl,.inr ⟨r,k _ H (To.refl fr) g⟩⟩
 .cases e
noncomputable def asB:D->a0N
 | .c b=>on b
 |_=>OZ
theorem jW{b:Bool}(h:asB d=on b):d= .c b:=by cases d<;>first|(cases h;rfl)|cases h
noncomputable def FF:D->a0N
 | .o=>on O8
 | .c b=>on b
 | .n i=>on<|i !=0
 | .l xs=>on<|!xs.isEmpty
 | .t xs=>on<|!xs.isEmpty
 |_=>OZ
def fB(f:FD):Dn->M Bool:=λa=>M.v (f a) λd=>M.f<|asB d
def pG(f:FD):Dn->M Bool:=λa=>M.v (f a) λd=>M.f<|FF d
def gE(f g:a0p):Dn->M Bool:=λa=>M.v (f a) λc=>if c=O6 then g a else M.j7 O8
def ss(f g:a0p):Dn->M Bool:=λa=>M.v (f a) λc=>if c=O6 then M.j7 O6 else g a
def qV(f:a0p):Dn->M Bool:=λa=>M.v (f a) λc=>M.j7<|!c
def z7(f g:FD):FD:=λa=>M.v (f a) λd=>M.v (M.f<|asB d) λc=>if c=O6 then g a else M.j7 (.c O8)
def fIf(t:a0p)(f g:FD):FD:=λa=>M.v (t a) λc=>if c=O6 then f a else g a
def kU(o d:a0R)(f g h:FD):FD:=λe=>M.v (f e) λa=>M.v (g e) λb=>M.v (M.f<|o a b) λz=>M.v (M.f<|asB z) λc=>if c=O6 then M.v (h e) (λw=>M.f<|d b w)else M.j7 (.c O8)
variable{c:Expr}{rest:List Expr}
theorem M.r4{b d:Type}{o:Option b}{k:b->M d}{c:Bg}{z:Except O7 d×Bg}(h:M.v (M.f o) k c=on z):∃a,o=on a/\k a c=on z:=by
 cases o with
 |none=>cases h
 |some a=>exact⟨a,rfl,h⟩
theorem run.f5{b g i:Type}{R:Hp->g->i->Prop}{F:Fx}{j:St}{o:Option b}{k:b->M g}{H:Hp}{Q:i->Hp->Prop}{c:Bg}(h:run R F E j (M.v (M.f o) k) H Q c):∃a,o=on a/\run R F E j (k a) H Q c:=by
 obtain⟨r,d,e,h⟩:=h;obtain⟨a,q,e⟩:=M.r4 e;exact⟨a,q,r,d,e,h⟩
theorem run.bOk{F:Fx}{H:Hp}(fr:Fr F H g)(c:c4 K F H d v)(h:run (λ_ (a b:Bool)=>b=a) F E i (M.f<|asB d) H Q g):∃k,v= .c k/\Q k H:=by
 obtain⟨b,e,k⟩:=run.j6 h;rw[jW e]at c;exact⟨b,c,k b H (To.refl fr) rfl⟩
theorem oZ{f:FD}{H:Hp}(h:g0 K (fB f) E m H Q):tV K f E m H λx g=>∃k,x= .c k/\Q k g:=by
 obtain⟨F,a,b,fr,i,h⟩:=h;exact⟨F,a,b,fr,i,(run.bind (R:=c4 K F) h).mono λv l j=>pj j λd c t e r1=>run.bOk t.fr e r1⟩
theorem bj{f g:FD}(d:f_ X (QX op) r)(l:aX X.K r o)(c:PE X a<|tV X.K f E)(i:PE X b<|tV X.K g E)(e:UE op b=O8:=by first|exact v4 _|rfl):PT X (.Compare a [op] [b] U) (g0 X.K (fB (f2 o f g)) E):=
 (xK d c i e).imp λj H Q h=>pV l<|oZ h
theorem BJ{f g h:FD}(l:aX K r o)(Y:aX K r' s){H:Hp}(B:tV K (kU o s f g h) E σ H Q):BK r r' (tV K f E) (tV K g E) (tV K h E) σ H Q:=by
 obtain⟨F,b,D,fr,I,B⟩:=B;refine⟨F,b,D,fr,I,(run.bind (R:=c4 K F) B).mono λv H1 j=>pj j λd n t G r1=>⟨F,b,n,t.fr,I.tr<|t.tr fr,(run.bind (R:=c4 K F) r1).mono λP Z j=>pj j λp a m u S=>?_⟩⟩;obtain⟨z,T,V⟩:=run.f5 S;obtain⟨c,X,A⟩:=run.f5 V;rw[jW X]at T;refine l F Z a _ d p _ v P m.fr (c4.tr (m.tr t.fr) _ _ G) u T λvz U i hz=>⟨c,hz,?_⟩;cases c with
 |true=>
  rw[Pc rfl]at A;refine⟨F,b,a,i.fr,I.tr<|(t.tr fr).trans<|(m.tr t.fr).trans<|i.tr m.fr,?_⟩;have r5:run (c4 K F) F E σ (M.v (h b) λw=>M.f<|s p w) U Q a:=by
   obtain⟨J,y,e,q⟩:=A;refine⟨J,y,e,?_⟩;cases J with
   |ok d=>exact λv L x=>q v L<|i.trans x
   |error C=>exact λL x=>q L<|i.trans x
  refine(run.bind (R:=c4 K F) r5).mono λw H4 j=>pj j λdw N W O r6=>?_;obtain⟨d3,e3,k⟩:=run.j6 r6;exact Y F H4 N Q p dw d3 P w W.fr (c4.tr ((i.tr m.fr).trans<|W.tr i.fr) _ _ u) O e3 k
 |false=>
  rw[Pd Pf]at A;obtain⟨J,y,e,q⟩:=A;cases e;exact q _ U i rfl
theorem rF{f g h:FD}(i:f_ X (QX op) r)(d:f_ X (QX s) u)(l:aX X.K r o)(j:aX X.K u v)(e:PE X a<|tV X.K f E)(m:PE X b<|tV X.K g E)(hc:PE X c<|tV X.K h E)(k:ZI [op,s] [b,c]=O8:=by with_unfolding_all rfl):
  PT X (.Compare a [op,s] [b,c] U) (g0 X.K (fB<|kU o v f g h) E):=(F7 i d e m hc k).imp λt H Q q=>BJ l j<|oZ q
theorem IV{F:Fx}{H:Hp}{k:Bool}(h:FF d=on k)(c:c4 K F H d v):He K v H k:=by
 cases d with
 |o=>cases h;cases c.j8;rfl
 |c b=>cases h;cases c.bl;rfl
 |n i=>cases h;cases c.int;rfl
 |l xs=>
  cases h;obtain⟨a,e,rfl,r,f⟩:=c4.j6 c;refine .inl ⟨e,r,?_⟩;have:=f.length;cases xs<;>cases e<;>first|rfl|(simp at this)
 |t xs=>
  cases h;obtain⟨a,e,rfl,r,f⟩:=c4.f5 c;refine .inr ⟨e,r,?_⟩;have:=f.length;cases xs<;>cases e<;>first|rfl|(simp at this)
 |_=>cases h
theorem nG{f:FD}(b:PE X a<|tV X.K f E)(j:∀g,isTrue a X.e g=(do let v <-g;SJ a.pos;TR [v] (truthy v)):=by intro _;rfl):PT X a (g0 X.K (pG f) E):=
 (F6 b j).imp λo H Q i=>lm i λF c n fr l h=>⟨F,c,n,fr,l,(run.bind (R:=c4 X.K F) h).mono λv m i=>by
  obtain⟨d,p,t,x,r1⟩:=i;obtain⟨k,e,q⟩:=run.j6 r1;exact⟨k,IV e x,q k m (To.refl t.fr) rfl⟩⟩
theorem nJ{f:a0p}(c:PT X a<|g0 X.K f E):PT X (.UnaryOp .Not a U) (g0 X.K (qV f) E):=
 (Lp c).imp λj H Q g=>lm g λF e k fr i h=>⟨F,e,k,fr,i,(run.bind (R:=λ_ (a b:Bool)=>b=a) h).mono λv l g=>by
  obtain⟨d,n,t,p,r1⟩:=g;subst p;exact run.j7 t.fr r1 rfl⟩
theorem I9{f g:a0p}{H:Hp}(h:g0 K (gE f g) E m H Q):KO (g0 K f E) (g0 K g E) m H Q:=by
 obtain⟨F,e,k,fr,i,h⟩:=h;refine⟨F,e,k,fr,i,(run.bind (R:=λ_ (a b:Bool)=>b=a) h).mono λv l j=>pj j λd c t n r1=>?_⟩;subst n;cases v with
 |true=>rw[Pc rfl]at r1⊢;exact⟨F,e,c,t.fr,i.tr<|t.tr fr,r1⟩
 |false=>rw[Pd Pf]at r1⊢;exact run.j7 t.fr r1 rfl
theorem KF{f g:a0p}{H:Hp}(h:g0 K (ss f g) E m H Q):tOr (g0 K f E) (g0 K g E) m H Q:=by
 obtain⟨F,e,k,fr,i,h⟩:=h;refine⟨F,e,k,fr,i,(run.bind (R:=λ_ (a b:Bool)=>b=a) h).mono λv l j=>pj j λd c t n r1=>?_⟩;subst n;cases v with
 |false=>rw[Pd Pf]at r1⊢;exact⟨F,e,c,t.fr,i.tr<|t.tr fr,r1⟩
 |true=>rw[Pc rfl]at r1⊢;exact run.j7 t.fr r1 rfl
theorem u7{f:a0p}(b:PT X a<|g0 X.K f E):PW X (.BoolOp .And [a] U) (g0 X.K f E):=Jr b
theorem pS{f:a0p}(b:PT X a<|g0 X.K f E):PW X (.BoolOp .Or [a] U) (g0 X.K f E):=Lk b
theorem uw{f g:a0p}(c:PT X a<|g0 X.K f E)(d:PW X (.BoolOp .And (b::rest) U)<|g0 X.K g E):PW X (.BoolOp .And (a::b::rest) U) (g0 X.K (gE f g) E):=(Ll c d).imp λ_ _ _=>I9
theorem u6{f g:a0p}(c:PT X a<|g0 X.K f E)(d:PW X (.BoolOp .Or (b::rest) U)<|g0 X.K g E):PW X (.BoolOp .Or (a::b::rest) U) (g0 X.K (ss f g) E):=(NQ c d).imp λ_ _ _=>KF
theorem hZ{e:Expr}{f:a0p}(h:PW X e<|g0 X.K f E):PT X e (g0 X.K f E):=PW.pt h
theorem No{op}{f:FD}(h:PE X a<|tV X.K f E):PE X (.BoolOp op [a] U) (tV X.K f E):=LD h
theorem run.asB{F:Fx}{k:Bool->M D}{H:Hp}(a:c4 K F H d v)(h:run (c4 K F) F E g (M.v (M.f<|asB d) k) H Q i):∃c,v= .c c/\run (c4 K F) F E g (k c) H Q i:=by
 obtain⟨c,e,h⟩:=run.f5 h;rw[jW e]at a;exact⟨c,a,h⟩
theorem Nq{f g:FD}(p:PE X a<|tV X.K f E)(m:PE X (.BoolOp .And (b::rest) U)<|tV X.K g E):PE X (.BoolOp .And (a::b::rest) U) (tV X.K (z7 f g) E):=
 (LH p m).imp λo H Q j=>lm j λF n x fr l h=>⟨F,n,x,fr,l,(run.bind (R:=c4 X.K F) h).mono λv q j=>by
  obtain⟨d,k,t,D,r1⟩:=j;obtain⟨c,e,i⟩:=run.asB D r1;refine⟨c,e,?_⟩;cases c with
  |true=>rw[Pc rfl]at i⊢;exact⟨F,n,k,t.fr,l.tr<|t.tr fr,i⟩
  |false=>rw[Pd Pf]at i⊢;exact run.j7 t.fr i rfl⟩
theorem Kv{f g:FD}(hc:PT X c<|g0 X.K t E)(n:PE X a<|tV X.K f E)(l:PE X b<|tV X.K g E):PE X (.IfExp c a b U) (tV X.K (fIf t f g) E):=
 (Gk hc n l).imp λm H Q i=>lm i λF k p fr j h=>⟨F,k,p,fr,j,(run.bind (R:=λ_ (a b:Bool)=>b=a) h).mono λv o i=>by
  obtain⟨d,e,t,x,r1⟩:=i;subst x;cases v with
  |true=>rw[Pc rfl]at r1⊢;exact⟨F,k,e,t.fr,j.tr<|t.tr fr,r1⟩
  |false=>rw[Pd Pf]at r1⊢;exact⟨F,k,e,t.fr,j.tr<|t.tr fr,r1⟩⟩
noncomputable def tyD:D->Option String
 | .o=>on "NoneType"| .c _=>on "bool"| .n _=>on "int"| .q _=>on "str"| .l _=>on "list"| .t _=>on "tuple"|_=>OZ
def tys:List String:=["int","bool","str","NoneType","list","tuple"]
noncomputable def zI(a b:String):a0N:=if tys.contains a&&tys.contains b&&b !="NoneType"&&(b !="int"||a==b)then on (a==b)else OZ
noncomputable def zH(a b c:String):a0N:=if tys.contains a&&(b=="list"&&c=="tuple"||b=="int"&&c=="str")then on (a==b||a==c||a=="bool"&&b=="int")else OZ
theorem u_{a:String}(h:tys.contains a=O6):a="int"\/a="bool"\/a="str"\/a="NoneType"\/a="list"\/a="tuple":=by
 simpa[tys]using h
theorem JX{a b:String}{c:Bool}(h:zI a b=on c):kitOne K (.type a) (.type b)=on c:=by
 unfold zI at h;split at h
 case isFalse=>cases h
 rename_i q;simp only[PV]at q;cases h;rcases u_ q.1.1.1 with rfl|rfl|rfl|rfl|rfl|rfl<;>rcases u_ q.1.1.2 with rfl|rfl|rfl|rfl|rfl|rfl<;>first|exact PU q.1.2 (by decide)|exact PU q.2 (by decide)|kernel_rfl
theorem JW{a b d:String}{c:Bool}(h:zH a b d=on c):ZZ K (.type a) ([b,d].map SC)=on c:=by
 unfold zH at h;split at h
 case isFalse=>cases h
 rename_i q;simp only[PV,W7,Se]at q;cases h;rcases q.2 with⟨rfl,rfl⟩|⟨rfl,rfl⟩<;>rcases u_ q.1 with rfl|rfl|rfl|rfl|rfl|rfl<;>kernel_rfl
def TyG(K:Pz)(H:Hp)(x:V)(t:Pb):Prop:=n_ K H x t\/(∃a b,x= .r a/\eX K H a b/\t= .type "list")\/(∃a b,x= .r a/\iv K H a b/\t= .type "tuple")
def HM(K:Pz):a0j->Hp->VK->Prop:=λa H Q=>∃x c t b,a=[x,.ty c]/\TyG K H x t/\kitOne K t (.type c)=on b/\Q (.c b) H
theorem Fb:dg X (.builtin "isinstance") (HM X.K):=by
 intro i s m H E F Q I r h;obtain⟨x,c,t,b,rfl,f,e,q⟩:=h;cases r with
 |cons r1 d=>
  cases d with
  |cons d l=>
   cases l;cases d;rcases f with f|⟨a,D,rfl,k,rfl⟩|⟨a,D,rfl,k,rfl⟩
   .exact EB I r1 f e λj=>⟨.c b,H,I.tok _,rfl,q⟩
   .cases r1
    obtain⟨n,_,p,_⟩:=I.list k;obtain⟨o,g,hc,_⟩:=p.isList;exact Vz WO I.kIn ⟨o,g,hc⟩ e (λz=>nomatch z) λj=>⟨.c b,H,I.tok _,rfl,q⟩
   .cases r1
    obtain⟨n,_,p,_⟩:=I.tuple k;obtain⟨o,g,hc,_⟩:=p;exact Vz YI I.kIn ⟨o,g,hc⟩ e (λz=>nomatch z) λj=>⟨.c b,H,I.tok _,rfl,q⟩
theorem BA{F:Fx}{H:Hp}(h:tyD d=on t)(c:c4 K F H d v):TyG K H v (.type t):=by
 cases d with
 |o=>cases h;cases c.j8;exact .inl .o
 |c b=>cases h;cases c.bl;exact .inl<|.c b
 |n b=>cases h;cases c.int;exact .inl<|.n b
 |q b=>cases h;cases c.j9;exact .inl<|.q b
 |l ds=>cases h;obtain⟨a,e,rfl,f,_⟩:=c4.j6 c;exact .inr<|.inl ⟨a,e,rfl,f,rfl⟩
 |t ds=>cases h;obtain⟨a,e,rfl,f,_⟩:=c4.f5 c;exact .inr<|.inr ⟨a,e,rfl,f,rfl⟩
 |_=>cases h
def jP:a0c->a0m
 |[x,.ty c]=>(tyD x).bind λt=>(zI t c).map D.c
 |_=>OZ
theorem Oe:ef K (HM K) jP:=λF H f Q n d p fr h e k=>by
 unfold jP at e;split at e
 .rename_i x c
  cases q:tyD x with
  |none=>rw[q]at e;cases e
  |some t=>
   rw[q]at e;simp only[SE]at e;cases a:zI t c with
   |none=>rw[a]at e;cases e
   |some b=>
    rw[a]at e;cases e;obtain⟨v,w,rfl,g,i⟩:=br.j9 h;cases i.ty;exact⟨v,c,_,b,rfl,BA q g,JX a,k _ H (To.refl fr) rfl⟩
 .cases e
def CO(K:Pz):a0j->Hp->VK->Prop:=λc H Q=>∃(x:V) (tp:O7) (a:List String) (t:Pb) (b:Bool),c=[x,.r tp]/\iv K H tp (a.map V.ty)/\TyG K H x t/\ZZ K t (a.map SC)=on b/\Q (.c b) H
theorem rc:dg X (.builtin "isinstance") (CO X.K):=by
 intro m s N H c G Q I r h;obtain⟨x,tp,M,t,b,rfl,A,k,e,q⟩:=h;cases r with
 |cons r1 B=>
  cases B with
  |cons B P=>
   cases P;cases B;obtain⟨f,R,⟨⟨Z,T,U,W⟩,g,u,n,j⟩,_⟩:=I.tuple A;rw[AY R]at j
   dsimp only at u j
   subst u j;have d:∀L,EP X m N Q (.bool b) {s with toks:=L}:=λL=>⟨.c b,H,I.tok _,rfl,q⟩;rcases k with k|⟨a,F,rfl,D,rfl⟩|⟨a,F,rfl,D,rfl⟩
   .cases k with
    |o=>cases r1;exact VA YW I.kIn SV g e (λz=>nomatch z) d
    |c y=>cases r1;exact VA YV I.kIn SV g e (λz=>nomatch z) d
    |n i=>obtain⟨t,rfl⟩:=r1;exact VA Ze I.kIn SV g e (λz=>nomatch z) d
    |q y=>obtain⟨t,rfl⟩:=r1;exact VA Zg I.kIn SV g e (λz=>nomatch z) d
    |@l a c ea=>
     cases r1;obtain⟨_,_,n,_,v⟩:=(show bC X.p X.w H s.heap a (.l c)from I.hok a _ ea);exact VA WO I.kIn ⟨_,v,rfl⟩ g e (λz=>nomatch z) d
    |@frz a ob c ea=>
     cases r1;obtain⟨_,_,_,n,_,v⟩:=(show bC X.p X.w H s.heap a (.frz ob<|.l c)from I.hok a _ ea);exact VA WO I.kIn ⟨_,v,rfl⟩ g e (λz=>nomatch z) d
    |@t a c ea=>
     cases r1;obtain⟨_,_,_,p⟩:=(show bC X.p X.w H s.heap a (.t c)from I.hok a _ ea);obtain⟨o,v,Y,_⟩:=p;exact VA YI I.kIn ⟨o,v,Y⟩ g e (λz=>nomatch z) d
    |@ins a C dx fs ea cl ha hn htk hm=>
     cases r1;obtain⟨S,O,_⟩:=kR I.hok ea;obtain⟨T,J,_⟩:=O.f5;exact VA (Zf (cl.get _) cl.hd ha hn htk hm) I.kIn J g e (λz=>nomatch z) d
   .cases r1
    obtain⟨f,_,E,_⟩:=I.list D;obtain⟨o,l,hc,_⟩:=E.isList;exact VA WO I.kIn ⟨o,l,hc⟩ g e (λz=>nomatch z) d
   .cases r1
    obtain⟨f,_,E,_⟩:=I.tuple D;obtain⟨o,l,hc,_⟩:=E;exact VA YI I.kIn ⟨o,l,hc⟩ g e (λz=>nomatch z) d
def uJ:a0c->a0m
 |[x,.t [.ty a,.ty b]]=>(tyD x).bind λt=>(zH t a b).map D.c
 |_=>OZ
theorem Ev:ef K (CO K) uJ:=λF H E Q G d M fr h e k=>by
 unfold uJ at e;split at e
 .rename_i x a b
  cases q:tyD x with
  |none=>rw[q]at e;cases e
  |some t=>
   rw[q]at e;simp only[SE]at e;cases f:zH t a b with
   |none=>rw[f]at e;cases e
   |some c=>
    rw[f]at e;cases e;obtain⟨v,w,rfl,g,i⟩:=br.j9 h;obtain⟨p,S,rfl,n,D⟩:=c4.f5 i;obtain⟨y,z,rfl,j,l⟩:=br.j9 D;cases j.ty;cases l.ty;exact⟨v,p,[a,b],_,c,rfl,n,BA q g,JW f,k _ H (To.refl fr) rfl⟩
 .cases e
def zv(K:Pz)(J:It)(F:Fx)(H:Hp)(b:a0c):Prop:=∀(h:Fx) (g:Hp) (a:Bg),Tr F H h g->Fr h g a->∀i,(∀d,b[i]?=on d->J.go i g/\∀x j,J.yld i g x j->bP g j/\c4 K h j d x)/\(i=VX b->J.stop i g)
theorem zv.tr{K:Pz}{F d:Fx}{H g:Hp}(t:Tr F H d g)(h:zv K J F H ds):zv K J d g ds:=λi j a l fr=>h i j a (t.trans l) fr
def iV(K:Pz)(f:FL)(E:a0r):TI:=λd H R=>∃F a b,Fr F H b/\jm K F H a d/\run (λg (c:a0c) (J:It)=>zv K J F g c) F E d (f a) H R b
theorem _root_.L2.PI.imp{X:Cx}{a e:Expr}(h:PI X a e t)(f:∀d H Q,i d H Q->t d H Q):PI X a e i:=λg s d H Q I q=>h g s d H Q I<|f d H Q q
variable{tg:Expr}
def iSeq(K:Pz)(g:TE):TI:=λh H R=>g h H λx d=>(∃a,x= .r a/\(∃b,eX K d a b)/\R (Itl K a) d)\/(∃a,x= .r a/\(∃b,iv K d a b)/\R (Itt K a) d)
theorem Ly(t:PE X l tl):PI X tg l (iSeq X.K tl):=by
 intro g s u H R I h;refine d5 (t g s u H _ I h) λv d ⟨x,m,i,r1,f⟩=>?_;have j:∀b∈[d.heap.objs.size],fM X g m b:=λb w=>by
  obtain rfl:b=d.heap.objs.size:=by simpa using w
  exact i.fpOk (Pg _)<|i.hok.fresh<|Pg _
 rcases f with⟨a,e,⟨k,r⟩,q⟩|⟨a,e,⟨k,r⟩,q⟩
 .subst e
  cases r1;obtain⟨c,y,p,A⟩:=i.list r;exact VB p.isList ⟨d.heap.objs.size,[d.heap.objs.size],_,_,m,rfl,i.kept (t':=d.toks) λb o e=>O3 _ e,sP a _,⟨_,Px _ rfl,rfl,rfl⟩,j,q⟩
 .subst e
  cases r1;obtain⟨c,y,p,A⟩:=i.tuple r;exact W5 (show d.heap.IsTuple a c.toArray from p) ⟨d.heap.objs.size,[d.heap.objs.size],_,_,m,rfl,i.kept (t':=d.toks) λb o e=>O3 _ e,yF a _,⟨_,Px _ rfl,rfl,rfl⟩,j,q⟩
theorem GR{F:Fx}{H:Hp}{a:O7}(h:c4 K F H (.l s)<|.r a):zv K (Itl K a) F H s:=λr u n t fr i=>by
 have m:=c4.tr t _ _ h;obtain⟨v,b,e,c,f⟩:=c4.j6 m;cases e;refine⟨λd k=>?_,λo=>⟨b,c,by rw[<-f.length,o];exact Pg _⟩⟩;obtain⟨x,q,_⟩:=f.get k;refine⟨⟨b,x,c,q⟩,λy w g=>?_⟩;obtain⟨rfl,g⟩:=g;obtain⟨p,l,j⟩:=f.getV<|g b c;rw[k]at l;cases l;exact⟨bP.refl _,j⟩
theorem J0{F:Fx}{H:Hp}{a:O7}(h:c4 K F H (.t s)<|.r a):zv K (Itt K a) F H s:=λr u n t fr i=>by
 have m:=c4.tr t _ _ h;obtain⟨v,b,e,c,f⟩:=c4.f5 m;cases e;refine⟨λd k=>?_,λo=>⟨b,c,by rw[<-f.length,o];exact Pg _⟩⟩;obtain⟨x,q,_⟩:=f.get k;refine⟨⟨b,x,c,q⟩,λy w g=>?_⟩;obtain⟨rfl,g⟩:=g;obtain⟨p,l,j⟩:=f.getV<|g b c;rw[k]at l;cases l;exact⟨bP.refl _,j⟩
def fc(f:FD):FL:=λa=>M.v (f a) λd=>M.f<|fV d
theorem bA{f:FD}(j:PE X l<|tV X.K f E):PI X tg l (iV X.K (fc f) E):=
 (Ly j).imp λo H R g=>lm g λF p x fr m h=>⟨F,p,x,fr,m,(run.bind (R:=c4 X.K F) h).mono λv i g=>by
  obtain⟨d,D,t,b,r1⟩:=g;obtain⟨M,e,k⟩:=run.j6 r1;cases d<;>first
   |(cases e;obtain⟨a,c,rfl,n,G⟩:=c4.j6 b;exact .inl ⟨a,rfl,⟨c,n⟩,k _ i (To.refl t.fr) (GR b)⟩)
   |(cases e;obtain⟨a,c,rfl,n,G⟩:=c4.f5 b;exact .inr ⟨a,rfl,⟨c,n⟩,k _ i (To.refl t.fr) (J0 b)⟩)
   |cases e⟩
noncomputable def aW(a:Int)(n:Nat):a0c:=(Ph n).map λ(i:Nat)=> .n<|a+(i:Int)
theorem tT{F:Fx}{H:Hp}{b:Int}{n:Nat}:zv K (Itr b n) F H (aW b n):=λl m c t fr i=>by
 refine⟨λd a=>?_,λg=>?_⟩
 .unfold aW at a
  have g:i<n:=by
   have:=(Pl.mp a).1;simpa using this
  rw[O9,QU g]at a;cases a;exact⟨g,λx o ⟨h,j⟩=>by subst h j;exact⟨bP.refl _,rfl⟩⟩
 .show n<=i
  rw[g];simp[aW]
def dM:a0c->a0A
 |[.n j]=>if(decide (-(2^62)<=j)&&decide (j<2^62))=O6 then on (aW 0 j.toNat)else OZ
 |_=>OZ
def pf:a0c->a0A
 |[.n i,.n j]=>if(decide (-(2^62)<=i)&&decide (i<2^62)&&decide (-(2^62)<=j)&&decide (j<2^62))=O6 then on (aW i (j-i).toNat)else OZ
 |_=>OZ
def bV(a:a0c->a0A)(g:FL):FL:=λb=>M.v (g b) λc=>M.f<|a c
theorem bK{a:Expr}{p U:Uq}(j:Gl X "range")(b:X.mg "range"=OZ)(c:PA X [a]<|i_ X.K g E)(f:Po [a] X.e=[(O8,Qz a X.e)]:=by rfl):PI X tg (.Call (.Name "range" p) [a] [] U) (iV X.K (bV dM g) E):=
 (DC j b c f).imp λr H R d=>lm d λF n x fr m h=>⟨F,n,x,fr,m,(run.bind (R:=br X.K F) h).mono λM o d=>by
  obtain⟨S,D,t,G,r1⟩:=d;obtain⟨l,e,k⟩:=run.j6 r1;unfold dM at e;split at e
  .split at e
   .rename_i i
    cases e;simp only[PV,P9]at i;obtain⟨v,rfl,q⟩:=br.j6 G;cases q.int;exact⟨_,rfl,i.1,i.2,k _ o (To.refl t.fr) tT⟩
   .cases e
  .cases e⟩
theorem wv{a b:Expr}{p U:Uq}(m:Gl X "range")(c:X.mg "range"=OZ)(f:PA X [a,b]<|i_ X.K g E)(n:Po [a,b] X.e=[(O8,Qz a X.e),(O8,Qz b X.e)]:=by rfl)(i:Po [b] X.e=[(O8,Qz b X.e)]:=by rfl):PI X tg (.Call (.Name "range" p) [a,b] [] U) (iV X.K (bV pf g) E):=
 (DB m c f n i).imp λy H R j=>lm j λF x D fr o h=>⟨F,x,D,fr,o,(run.bind (R:=br X.K F) h).mono λS q j=>by
  obtain⟨V,G,t,M,r1⟩:=j;obtain⟨l,e,k⟩:=run.j6 r1;unfold pf at e;split at e
  .split at e
   .rename_i d
    cases e;simp only[PV,P9]at d;obtain⟨v,w,rfl,r,u⟩:=br.j9 M;cases r.int;cases u.int;exact⟨_,_,rfl,⟨d.1.1.1,d.1.1.2,d.1.2,d.2⟩,k _ q (To.refl t.fr) tT⟩
   .cases e
  .cases e⟩
abbrev m3:=D->Dn->Option Dn
abbrev jX:=a0c->Dn->Option Dn
def cN(K:Pz)(g:TG)(tg:m3):Prop:=∀(F:Fx) (H:Hp) (b a:Dn) (i:St) (d:D) (v:V) (Q:a0F),jm K F H b i->c4 K F H d v->tg d b=on a->(∀h,jm K F H a h->Q h H)->g v i H Q
def rp(K:Pz)(g:Wi)(tg:jX):Prop:=∀(F:Fx) (H:Hp) (b a:Dn) (h:St) (c:a0c) (e:a0j) (Q:a0F),jm K F H b h->br K F H c e->tg c b=on a->(∀d,jm K F H a d->Q d H)->g e h H Q
noncomputable def hV(i:Nat):m3:=λd a=>if(a.getD i<|on .o).isNone then on (a.set i<|on d)else OZ
noncomputable def k9:jX:=λa b=>match a with
 |[]=>on b
 |_=>OZ
noncomputable def f7(t:m3)(u:jX):jX:=λb c=>match b with
 |[]=>OZ
 |d::r=>(t d c).bind λa=>u r a
noncomputable def Y_(t:jX):m3:=λd a=>match d with
 | .t ds=>t ds a
 |_=>OZ
theorem vf{b a:Dn}(h:hV i d b=on a):b[i]?=on OZ/\a=b.set i (on d):=by
 unfold hV at h;split at h
 .rename_i q
  cases h;refine⟨?_,rfl⟩;rw[O5]at q;cases e:b[i]? with
  |none=>rw[e]at q;cases q
  |some z=>
   rw[e]at q;cases z with
   |none=>rfl
   |some w=>cases q
 .cases h
theorem ar:cN K (d7 i) (hV i):=λF H c a h d v Q g b e k=>by
 obtain⟨_,rfl⟩:=vf e;exact k _<|g.set b
theorem dQ:rp K gNil k9:=λF H f a g b n Q d c e k=>by
 cases b with
 |nil=>cases e;exact⟨c,k _ d⟩
 |cons _ _=>cases e
theorem bc(m:cN K t s)(o:rp K u uf):rp K (zX t u) (f7 s uf):=λF H b a v c n Q w f e k=>by
 cases c with
 |nil=>cases e
 |cons d r=>
  obtain⟨x,l,rfl,y,A⟩:=f;have h:(s d b).bind (λa=>uf r a)=on a:=e;cases q:s d b with
  |none=>rw[q]at h;cases h
  |some g=>
   rw[q]at h;exact⟨x,l,rfl,m F H b g v d x _ w y q λi j=>o F H g a i r l Q j A h k⟩
theorem fi{n:Nat}(h:rp K t j)(D:∀f c b,j f c=on b->VX f=n):cN K (GY K n t) (Y_ j):=λF H c b g d v Q i E e k=>by
 cases d<;>first
  |(obtain⟨a,p,rfl,G,x⟩:=c4.f5 E;exact⟨a,p,rfl,G,by rw[<-x.length];exact D _ _ _ e,h F H c b g _ p Q i x e k⟩)
  |cases e
theorem cY:∀b c a,k9 b c=on a->VX b=0:=λb c a h=>by
 cases b with
 |nil=>rfl
 |cons _ _=>cases h
theorem aY{n:Nat}(h:∀b c a,u b c=on a->VX b=n):∀b c a,f7 t u b c=on a->VX b=n+1:=λb c a e=>by
 cases b with
 |nil=>cases e
 |cons d r=>
  have g:(t d c).bind (λa=>u r a)=on a:=e;cases q:t d c with
  |none=>rw[q]at g;cases g
  |some i=>rw[q]at g;rw[Pt,h _ _ _ g]
def dT(tg:m3):Prop:=∀d b a,tg d b=on a->Sub b a/\VX b=VX a
def uT(tg:jX):Prop:=∀d b a,tg d b=on a->Sub b a/\VX b=VX a
theorem aA:dT (hV i):=λd b a e=>by
 obtain⟨q,rfl⟩:=vf e;refine⟨λj c g=>?_,by rw[PX]⟩;rw[Q9];by_cases z:i=j
 .subst z;rw[q]at g;cases g
 .rw[Pd z];exact g
theorem dJ:uT k9:=λa c b e=>by
 cases a with
 |nil=>cases e;exact⟨λ_ _ h=>h,rfl⟩
 |cons _ _=>cases e
theorem aZ(j:dT t)(l:uT u):uT (f7 t u):=λf b a e=>by
 cases f with
 |nil=>cases e
 |cons d r=>
  have g:(t d b).bind (λa=>u r a)=on a:=e;cases q:t d b with
  |none=>rw[q]at g;cases g
  |some m=>
   rw[q]at g;obtain⟨k,n⟩:=j _ _ _ q;obtain⟨p,o⟩:=l _ _ _ g;exact⟨λi c h=>p i c<|k i c h,n.trans o⟩
theorem eW(h:uT t):dT (Y_ t):=λd b a e=>by
 cases d<;>first|exact h _ _ _ e|cases e
structure m_ (F:Fx) (D:O7) (H H':Hp) (β':Bg):Prop where
 kp:∀a o,H a=on o->a≠D->(∀b l,F.bg=on (b,l)->a≠b/\a≠l)->H' a=on o
 fr:Fr F H' β'
theorem m_.trans{F:Fx}{D:O7}{H d g:Hp}(a:m_ F D H d β1)(b:m_ F D d g β2):m_ F D H g β2:=⟨λx o h n m=>b.kp x o (a.kp x o h n m) n m,b.fr⟩
theorem To.toD{F:Fx}{H d:Hp}(t:To F H d g)(D:O7):m_ F D H d g:=⟨λa o h _ m=>t.kp a o h m,t.fr⟩
theorem m_.tr{F:Fx}{D:O7}{H d:Hp}(fr:Fr F H j)(g:F.A D)(t:m_ F D H d i):Tr F H F d:=
 ⟨λ_ h _=>h,λa o h e=>t.kp a o e (λz=>h<|z▸g) λb l q=>⟨λz=>h<|z▸(fr.bgA b l q).1,λz=>h<|z▸(fr.bgA b l q).2.1⟩,rfl⟩
structure AR where
 R:Fx->Hp->O7->List Pu.D->Prop
 Z:List Pu.D->Prop
 tr:∀{F F2:Fx} {H H':Hp} {D:O7} {as:List Pu.D},R F H D as->(∀o,H D=on o->H' D=on o)->Tr F H F2 H'->R F2 H' D as
 zp:∀{as os:List Pu.D},Z (as++os)->Z as
noncomputable def RL(K:Pz):AR where
 R:=λF H D b=>∃a,H D=on (.l a)/\br K F H b a
 Z:=λl=>VX l<=Ps
 tr:=λh k t=>by
  obtain⟨a,d,g⟩:=h;exact⟨a,k _ d,br.tr t _ _ g⟩
 zp:=λh=>by rw[PR]at h;lia
def ft(K:Pz)(R:AR)(D:O7)(j:TB)(f:Dn->M (List Pu.D)):Prop:=∀(F:Fx) (H:Hp) (a:Dn) (k d:Bg) (i:St) (c e:List Pu.D) (Q:a0F),Fr F H k->F.A D->(∀b l,F.bg=on (b,l)->D≠b/\D≠l)->jm K F H a i->R.R F H D c->
 f a k=on (.ok e,d)->R.Z (c++e)->(∀g h,m_ F D H h d->jm K F h a g->R.R F h D (c++e)->Q g h)->j i H Q
abbrev kz(K:Pz):=ft K<|RL K
def lg(f:Dn->M Pu.D):Dn->M (List Pu.D):=λa=>M.v (f a) λd=>M.j7 [d]
theorem M.j6{c g:Type}{m:M c}{k:c->M g}{f d:Bg}{r:g}(h:M.v m k f=on (.ok r,d)):∃a b,m f=on (.ok a,b)/\k a b=on (.ok r,d):=by
 unfold M.v at h;split at h
 .cases h
 .cases h
 .rename_i a b e
  exact⟨a,b,e,h⟩
theorem E0.run{b i:Type}{R:Hp->b->i->Prop}{F:Fx}{j:St}{m:M b}{H:Hp}{Q:i->Hp->Prop}{c d:Bg}{a:b}(e:m c=on (.ok a,d))(h:∀v g,To F H g d->R g a v->Q v g):run R F E0 j m H Q c:=⟨.ok a,d,e,h⟩
theorem aP{D:O7}{f:Dn->M Pu.D}:kz K D (AG D<|tV K f E0) (lg f):=λF H E G g w S X Q fr y i m A e B k=>by
 obtain⟨c,C,x⟩:=A;obtain⟨d,U,I,J⟩:=M.j6 e;cases J;refine⟨F,E,G,fr,m,E0.run I λv r t L=>?_⟩;have j:=t.kp D _ C i;have V:=br.tr (t.tr fr) _ _ x;refine⟨c,j,by rw[<-x.length];have:=(show(S++[d]).length<=Ps from B);simp at this;lia,?_⟩;have u:m_ F D r (upd r D<|.l<|c++[v]) g:=by
  refine⟨λa o h n _=>by rw[bb n];exact h,λa h q=>?_,fr.bgA,λb l q=>?_⟩
  .by_cases z:a=D
   .subst z;rw[aj]at q;cases q
   .rw[bb z]at q;exact t.fr.occ a h q
  .rw[bb (i b l q).1.symm,bb (i b l q).2.symm]
   exact t.fr.bag b l q
 have p:=u.tr t.fr y;exact k w _ ((t.toD D).trans u) (m.tr<|(t.tr fr).trans p) ⟨_,aj,br.append (br.tr p _ _ V) ⟨v,[],rfl,c4.tr p _ _ L,rfl⟩⟩
def nC(tg:m3)(e:a0p)(b:Dn->M (List Pu.D)):List Pu.D->Dn->M (List Pu.D)
 |[],_=>M.j7 []
 |d::ds,δ=>match tg d δ with
  |none=>M.j9
  |some a=>M.v (e a) λc=>M.v (if c=O6 then b a else M.j7 []) λo=>M.v (nC tg e b ds δ) λf=>M.j7<|o++f
theorem oh{R:AR}{D:O7}{tg:m3}{b:Dn->M (List Pu.D)}(hg:cN K g tg)(sg:dT tg)(hb:ft K R D tb b){F:Fx}{H:Hp}{as os f:List Pu.D}(fr:Fr F H β)(hA:F.A D)(hn:∀b l,F.bg=on (b,l)->D≠b/\D≠l)(vk:jm K F H s σ)(hR:R.R F H D as)
  (it:zv K J F H f) (e:nC tg tt b f s β=on (.ok os,β')) (hz:R.Z<|as++os) (k:∀j t,m_ F D H t β'->jm K F t s j->R.R F t D (as++os)->Q j t):de J g (g0 K tt E0) tb σ H Q:=by
 refine⟨λi m j t=>m+i=VX f/\∃a r v,m_ F D H t a/\jm K F t s j/\R.R F t D r/\nC tg tt b (f.drop i) s a=on (.ok v,β')/\r++v=as++os,
  ⟨VX f,by lia,β,as,os,⟨λ_ _ h _ _=>h,fr⟩,vk,hR,e,rfl⟩,?_⟩
 rintro i m j t ⟨hm,a,r,v,B,C,I,u,V⟩;have X:=B.tr fr hA;obtain⟨iy,is⟩:=it F t a X B.fr i;cases T:f[i]? with
 |none=>
  have U:VX f<=i:=UY.mp T;rw[RJ U]at u;cases u;refine .inl ⟨is (by lia),k j t B C ?_⟩;rw[<-V,QI];exact I
 |some d=>
  have U:i<VX f:=(Pl.mp T).1;obtain⟨go,yl⟩:=iy d T;have ed:f.drop i=d::f.drop (i+1):=by
   rw[Rp U];congr 1;exact P3<|(O4 U).symm.trans T
  rw[ed]at u;unfold nC at u;cases q:tg d s with
  |none=>rw[q]at u;cases u
  |some n=>
   rw[q]at u;obtain⟨c,E,e2,e3⟩:=M.j6 u;obtain⟨o,p,W,e5⟩:=M.j6 e3;obtain⟨aa,af,e6,e7⟩:=M.j6 e5;cases e7;obtain⟨s1,s2⟩:=sg _ _ _ q;refine .inr ⟨go,λL Y=>m_ F D H Y p/\jm K F Y s L/\R.R F Y D (r++o),?_,λx H2 hy=>?_⟩
   .rintro L Y ⟨t9,vk9,hR9⟩
    exact⟨m-1,by lia,by lia,p,r++o,aa,t9,vk9,hR9,e6,by rw[Q8];exact V⟩
   .obtain⟨sm,dx⟩:=yl x H2 hy
    have G:To F t H2 a:=B.fr.same sm;have N:=G.tr B.fr;refine hg F H2 s n j d x _ (C.tr N) dx q λab w=>⟨F,n,a,G.fr,w,E0.run e2 λc' H3 S ec=>?_⟩;subst ec;have y:=S.tr G.fr;have O:=R.tr I (λo z=>S.kp D o (sm _ _ z) hn)<|N.trans y;have P:m_ F D H H3 E:=B.trans<|(G.trans S).toD D;have ac:R.Z (r++o):=by
     rw[<-V,<-Q8]at hz;exact R.zp hz
    cases c' with
    |true=>
     rw[Pc rfl]at W⊢;refine hb F H3 n E p ab r o _ S.fr hA hn (w.tr y) O W ac λag H4 t4 ad ae=>?_;exact⟨P.trans t4,ad.sub s1 s2,ae⟩
    |false=>
     rw[Pd Pf]at W⊢;cases W;exact⟨P,(w.tr y).sub s1 s2,by rw[QI];exact O⟩
def cNx(c:Dn->M (List Pu.D))(tg:m3)(e:a0p)(b:Dn->M (List Pu.D)):Dn->M (List Pu.D):=λa=>M.v (c a) λf=>nC tg e b f a
theorem pw{D:O7}{tg:m3}{b:Dn->M (List Pu.D)}(j:cN K g tg)(l:dT tg)(m:ft K R D s b):ft K R D (AF (iV K I E0) λJ=>de J g (g0 K L E0) s) (cNx I tg L b):=λF H c f q C p x Q fr r a h u e v k=>by
 obtain⟨E,n,w,y⟩:=M.j6 e;refine⟨F,c,f,fr,h,E0.run w λJ i t A=>?_⟩;exact oh j l m t.fr r a (h.tr<|t.tr fr) (R.tr u (λo z=>t.kp D o z a)<|t.tr fr) A y v λd i B=>k d i<|(t.toD D).trans B
theorem JV{D:O7}{tg:m3}{b:Dn->M (List Pu.D)}(d:cN K g tg)(h:dT tg)(i:kz K D j b):kz K D (AF (iV K l E0) λJ=>de J g (g0 K m E0) j) (cNx l tg m b):=pw d h i
noncomputable def ll(nv:Nat)(cy:a0a)(δ:Dn):Dn:=Py nv OZ++cy.map λj=>δ.getD j OZ
def cS(nv:Nat)(cy:a0a)(it:Dn->M (List Pu.D))(tg:m3)(c:a0p)(b:Dn->M (List Pu.D)):Dn->M Pu.D:=λa e=>match it a e with
 |none=>OZ
 |some (.error C,β1)=>on (.error C,β1)
 |some (.ok ds,β1)=>match nC tg c b ds (ll nv cy a) β1 with
  |some (.ok os,β2)=>if VX os<=Ps then on (.ok<|.l os,β2)else OZ
  |_=>OZ
theorem re{F:Fx}{H:Hp}{a:a0h}(h:jm K F H r s):jm K F H (ll (VX a) cy r) (kX a cy s):=by
 refine⟨by simp[ll,kX],λi d e=>?_⟩;unfold ll at e;unfold kX;rw[VW]at e⊢;rw[Rt]at e⊢;by_cases g:i<VX a
 .rw[Pc g,R3,Pc g]at e
  cases e
 .rw[Pd g,O9]at e⊢
  cases q:cy[i-VX a]? with
  |none=>rw[q]at e;cases e
  |some j=>
   rw[q]at e;simp only[Rj,X0]at e⊢;rw[O5]at e;cases z:r[j]? with
   |none=>rw[z]at e;cases e
   |some w=>
    rw[z]at e;have l:w=on d:=e;subst l;obtain⟨v,m,o⟩:=h.tell j d z;exact⟨v,by rw[O5,m];rfl,o⟩
theorem vg{c:a0h}{f:a0a}{k:Dn->M (List Pu.D)}{g:TG}{tg:m3}{p:a0p}{P:a0X}{b:Dn->M (List Pu.D)}(Z:cN K g tg)(G:dT tg)(S:∀D,kz K D (P D) b){T:St}{H:Hp}{Q:VK}(h:tV K (cS (VX c) f k tg p b) E T H Q):
  pW c f (iV K k E) (λD J=>de J g (g0 K p E0)<|P D) T H Q:=by
 obtain⟨F,V,X,fr,U,r,v,e,h⟩:=h;unfold cS at e;refine⟨F,V,X,fr,U,?_⟩;split at e
 .cases e
 .rename_i C β1 q
  cases e;exact⟨.error C,_,q,h⟩
 .rename_i ds β1 q
  split at e
  .rename_i os β2 q2
   split at e
   .rename_i hz
    cases e;refine⟨.ok ds,β1,q,λJ u t s D i=>?_⟩;have d:¬F.A D:=t.fr.fresh i;have nb:∀b l,F.bg=on (b,l)->D≠b/\D≠l:=λb l z=>⟨λw=>d<|w▸(fr.bgA b l z).1,λw=>d<|w▸(fr.bgA b l z).2.1⟩;have W:=t.fr.upd (.l []) i;have B:Fr ⟨λa=>F.A a\/a=D,F.bg⟩ (upd u D<|.l []) β1:=by
     refine⟨λa ha z=>?_,λb l z=>let ⟨x,y,w⟩:=fr.bgA b l z;⟨.inl x,.inl y,w⟩,W.fr.bag⟩
     rcases ha with ha|ha
     .exact W.fr.occ a ha z
     .subst ha;rw[aj]at z;cases z
    have j:Tr F u ⟨λa=>F.A a\/a=D,F.bg⟩ (upd u D<|.l []):=⟨λa ha hs z=>by
     rcases z with z|z
     .exact ha z
     .subst z;exact hs i,λa o ha z=>by rw[bb<|bt z i];exact z,rfl⟩
    refine oh (R:=RL K) (D:=D) (as:=[]) (os:=os) Z G (S D) B (.inr rfl) nb (re<|U.tr<|(t.tr fr).trans j) ⟨[],aj,rfl⟩ (s.tr j) q2 (show VX os<=Ps from hz) λaa Y I ab L=>?_;obtain⟨m,N,O⟩:=L;have tf:To F u Y v:=by
     refine⟨λa o z n=>I.kp a o (by rw[bb<|bt z i];exact z) (bt z i) n,λa ha z=>I.fr.occ a (RZ ha) z,fr.bgA,I.fr.bag⟩
    refine h _ Y (t.trans tf) ⟨D,m,rfl,⟨d,.inl N⟩,br.tr (F:=⟨λa=>F.A a\/a=D,F.bg⟩) ⟨λa ha _ z=>ha<|RZ z,λa o _ z=>z,rfl⟩ _ _ O⟩
   .cases e
  .cases e
inductive Sl where
 |h (d:D)|u (ds:a0c)|grd (ba:a0u)|odc (b:Bool) (ks:a0W) (vs:a0c)
abbrev a0Z:=Option Sl
abbrev Ds:=List a0Z
inductive q0 where
 |nx (δ:Ds)|rt (d:D)|bk (δ:Ds)|ct (δ:Ds)|ex (C:O7) (δ:Ds)|rg (ba:a0u)
abbrev a0z:=q0->Bg->Prop
abbrev G:=Ds->Bg->Option (q0×Bg)
abbrev Ow:=O7->a0H
noncomputable def ej(B:Ow)(b:a0s):Fx:=⟨λa=>B a≠OZ,b⟩
noncomputable def na(B:Ow)(b:a0s):Fx:=⟨λa=>B a=on 0\/B a=on 1,b⟩
def bh(K:Pz)(F:Fx)(H:Hp)(P:O7->Prop):a0u->a0q->Prop
 |[],[]=>True
 |ds::ba,r::rs=>P r/\(∃a,H r=on (.l a)/\br K F H ds a)/\bh K F H P ba rs
 |_,_=>False
theorem bh.tr{K:Pz}{F i:Fx}{H d:Hp}(t:Tr F H i d):∀{b:a0u} {a:a0q},bh K F H P b a->(∀r xs,r∈a->P r->H r=on (.l xs)->P2 r/\d r=on (.l xs))->bh K i d P2 b a
 |[],[],_,_=>trivial
 |ds::b,r::a,h,f=>by
  obtain⟨j,⟨xs,l,m⟩,o⟩:=h;obtain⟨p,q⟩:=f r xs Pa j l;exact⟨p,⟨xs,q,br.tr t _ _ m⟩,bh.tr t o λu g v=>f u g<|O1 _ v⟩
 |[],_::_,h,_=>h.elim
 |_::_,[],h,_=>h.elim
theorem bh.all{K:Pz}{F:Fx}{H:Hp}:∀{c:a0u} {a:a0q},bh K F H P c a->∀r∈a,P r/\∃b,H r=on (.l b)
 |[],[],_,r,hr=>by cases hr
 |ds::c,r0::a,h,r,hr=>by
  obtain⟨d,⟨b,g,j⟩,i⟩:=h;rcases Pr.mp hr with rfl|hr
  .exact⟨d,b,g⟩
  .exact bh.all i r hr
 |[],_::_,h,_,_=>h.elim
 |_::_,[],h,_,_=>h.elim
theorem bh.den{K:Pz}{F d:Fx}{H:Hp}(t:Tr F H d H):∀{b:a0u} {a:a0q},bh K F H P b a->(∀r,r∈a->P r->¬d.A r)->br K d H (b.map D.l) (a.map V.r)
 |[],[],_,_=>rfl
 |ds::b,r::a,h,f=>by
  obtain⟨g,⟨c,i,j⟩,l⟩:=h;exact br.cons ⟨r,c,rfl,⟨f r Pa g,.inl i⟩,br.tr t _ _ j⟩<|bh.den t l λm o=>f m<|O1 _ o
 |[],_::_,h,_=>h.elim
 |_::_,[],h,_=>h.elim
theorem bh.len{K:Pz}{F:Fx}{H:Hp}:∀{ba:a0u} {rs:a0q},bh K F H P ba rs->VX ba=VX rs
 |[],[],_=>rfl
 |ds::ba,r::rs,h=>by simp[bh.len h.2.2]
 |[],_::_,h=>h.elim
 |_::_,[],h=>h.elim
def iH(K:Pz)(F:Fx)(c H:Hp)(e:a0u)(v:V):Prop:=∃a b,v= .r a/\c a=OZ/\H a=on (.l<|b.map V.r)/\(a::b).Nodup/\bh K F H (λr=>c r=OZ) e b
def ODc(K:Pz)(F:Fx)(H:Hp)(a:O7)(b:Bool)(e:a0W)(f:a0c):Prop:=∃k c,H a=on (bD a b k c)/\e=c.map (·.1)/\(∀x∈c,fL K F H b x.1 x.2.1)/\br K F H f (c.map (·.2.2))
theorem ODc.tr{K:Pz}{F g:Fx}{H d:Hp}{a:O7}{b:Bool}(t:Tr F H g d)(h:ODc K F H a b r s)(k:∀o,H a=on o->d a=on o):ODc K g d a b r s:=by
 obtain⟨c,e,i,j,l,m⟩:=h;exact⟨c,e,k _ i,j,λx q=>(l x q).tr t,br.tr t _ _ m⟩
def F0(H:Hp)(a:O7):Prop:=(∃b,H a=on (.l b))\/∃d,H a=on (.ext d)
theorem F0.imp{H d:Hp}{a:O7}(h:F0 H a)(k:∀o,H a=on o->d a=on o):F0 d a:=Or.imp (λ⟨b,z⟩=>⟨b,k _ z⟩) (λ⟨g,z⟩=>⟨g,k _ z⟩) h
def nu(K:Pz)(B:Ow)(c:a0s)(H:Hp)(i:Nat):Sl->V->Prop
 | .h d,v=>c4 K (ej B c) H d v
 | .u ds,v=>∃a f,v= .r a/\B a=on (i+2)/\H a=on (.l f)/\br K (ej B c) H ds f
 | .grd ba,v=>∃a e,v= .r a/\B a=on (i+2)/\H a=on (.l<|e.map V.r)/\(a::e).Nodup/\bh K (ej B c) H (λr=>B r=on (i+2)) ba e
 | .odc b ks vs,v=>∃a,v= .r a/\B a=on (i+2)/\ODc K (ej B c) H a b ks vs
theorem nu.tr{K:Pz}{H g:Hp}(h:nu K B u H j s v)(t:Tr (ej B u) H (ej B2 u) g)(k:∀c,B c=on (j+2)->B2 c=on (j+2)/\∀o,H c=on o->g c=on o):nu K B2 u g j s v:=by
 cases s with
 |h d=>exact c4.tr t _ _ h
 |u cs=>
  obtain⟨c,l,e,a,f,i⟩:=h;exact⟨c,l,e,(k c a).1,(k c a).2 _ f,br.tr t _ _ i⟩
 |grd ba=>
  obtain⟨c,n,e,a,f,i,m⟩:=h;exact⟨c,n,e,(k c a).1,(k c a).2 _ f,i,bh.tr t m λr _ _ p q=>⟨(k r p).1,(k r p).2 _ q⟩⟩
 |odc b ks vs=>
  obtain⟨c,e,a,f⟩:=h;exact⟨c,e,(k c a).1,f.tr t (k c a).2⟩
structure fh (K:Pz) (H₀:Hp) (B:Ow) (bg:a0s) (H:Hp) (δ:Ds) (β:Bg) (σ:St):Prop where
 fr:Fr (ej B bg) H β
 bgt:∀b l,bg=on (b,l)->B b=on 1/\B l=on 1
 len:VX δ=VX σ
 cov:∀a,H₀ a≠OZ->H a≠OZ
 new:∀a k,B a=on (k+2)->H₀ a=OZ
 lst:∀a k,B a=on (k+2)->F0 H a
 tell:∀(i:Nat) (s:Sl),δ[i]?=on (on s)->∃v,σ[i]?=on (on v)/\nu K B bg H i s v
structure hU (B:Ow) (H:Hp) (B':Ow) (H':Hp):Prop where
 kp:∀a o,H a=on o->(B a=OZ\/B a=on 0)->H' a=on o
 tg:∀a,B a=on 0\/B a=on 1->B' a=B a
 nn:∀a o,H a=on o->B a=OZ->B' a=OZ
 al:∀a,H a≠OZ->H' a≠OZ
theorem hU.refl(B:Ow)(H:Hp):hU B H B H:=⟨λ_ _ h _=>h,λ_ _=>rfl,λ_ _ _ h=>h,λ_ h=>h⟩
theorem hU.trans{H d g:Hp}(a:hU B H B1 d)(b:hU B1 d B2 g):hU B H B2 g:=by
 refine⟨λx o h n=>b.kp x o (a.kp x o h n) ?_,λx h=>?_,λx o h n=>b.nn x o (a.kp x o h<|.inl n)<|a.nn x o h n,λx h=>b.al x<|a.al x h⟩
 .rcases n with n|n
  .exact .inl (a.nn x o h n)
  .exact .inr ((a.tg x<|.inl n).trans n)
 .have e:=a.tg x h
  rw[<-e]at h;exact(b.tg x h).trans e
def gN(K:Pz)(a:Hp)(b:a0s)(E:a0r)(Dn:m4)(B:Ow)(H:Hp)(o:q0)(j:Bg):Prop:=match o with
 | .nx δ'=>∀h i g,hU B H i g->fh K a i b g δ' j h->Dn.nx h g
 | .bk δ'=>∀h i g,hU B H i g->fh K a i b g δ' j h->Dn.bk h g
 | .ct δ'=>∀h i g,hU B H i g->fh K a i b g δ' j h->Dn.ct h g
 | .rt d=>∀v i g,hU B H i g->Fr (ej i b) g j->c4 K (ej i b) g d v->Dn.rt v g
 | .rg ba=>∀v i g,hU B H i g->Fr (ej i b) g j->iH K (ej i b) a g ba v->Dn.rt v g
 | .ex C δ'=>∀h i g,hU B H i g->fh K a i b g δ' j h->E h (.ref C) OZ g
theorem gN.pre{K:Pz}{E:a0r}{Dn:m4}{H l:Hp}(s:hU B H B1 l)(h:gN K H₀ q E Dn B H o m):gN K H₀ q E Dn B1 l o m:=by
 cases o with
 |nx δ=>exact λg i j t=>h g i j<|s.trans t
 |bk δ=>exact λg i j t=>h g i j<|s.trans t
 |ct δ=>exact λg i j t=>h g i j<|s.trans t
 |rt d=>exact λv i j t=>h v i j<|s.trans t
 |rg d=>exact λv i j t=>h v i j<|s.trans t
 |ex C δ=>exact λg i j t=>h g i j<|s.trans t
def tG(K:Pz)(a:Hp)(g:G)(E:a0r):TS:=λDn h H=>∃B b c e o d,fh K a B b H c e h/\g c e=on (o,d)/\gN K a b E Dn B H o d
theorem _root_.L2.PS.imp{X:Cx}{e:QD}(h:PS X e t)(f:∀D d H,i D d H->t D d H):PS X e i:=λg s d H D I q=>h g s d H D I<|f D d H q
theorem _root_.L2.PSs.imp{X:Cx}{e:a0Q}(h:PSs X e t)(f:∀D d H,i D d H->t D d H):PSs X e i:=λg s d H D I q=>h g s d H D I<|f D d H q
noncomputable def vw(δ:Ds):Dn:=δ.map λs=>match s with
 |some (.h d)=>on d
 |_=>OZ
noncomputable def hE(δ:Ds):Dn:=δ.map λs=>match s with
 |some (.h d)=>on d
 |some (.u ds)=>on<|.l ds
 |some (.grd ba)=>on<|.l<|ba.map D.l
 |some (.odc b ks vs)=>on<|.dct b ks vs
 |none=>OZ
variable{f:Hp}{B:Ow}{R:a0s}{T:Hp}{p:Ds}{β W:Bg}{Y:St}
theorem Nl{i:Nat}{d:D}(e:(vw p)[i]?=on (on d)):p[i]?=on (on<|.h d):=by
 unfold vw at e;rw[O9]at e;cases q:p[i]? with
 |none=>rw[q]at e;cases e
 |some z=>
  rw[q]at e;cases z with
  |none=>cases e
  |some s=>
   cases s with
   |h c=>cases e;rfl
   |u ds=>cases e
   |grd ba=>cases e
   |odc b ks vs=>cases e
theorem fh.view(h:fh K f B R H p β Y):jm K (ej B R) H (vw p) Y:=⟨by unfold vw;rw[OY,h.len],λi d e=>h.tell i _<|Nl e⟩
theorem trA:Tr (ej B R) H (na B R) H:=⟨λa h _ z=>by
 have b:¬(B a≠OZ):=h;rcases z with z|z
 .exact b (by rw[z];simp)
 .exact b (by rw[z];simp),λ_ _ _ h=>h,rfl⟩
theorem fh.j6(h:fh K f B R H p β Y):Fr (na B R) H β:=⟨λa c=>h.fr.occ a (by
 show B a≠OZ;rcases c with z|z<;>rw[z]<;>simp),λb l e=>⟨.inr (h.bgt b l e).1,.inr (h.bgt b l e).2,(h.fr.bgA b l e).2.2⟩,h.fr.bag⟩
theorem fh.f5(h:fh K f B R H p β Y):jm K (na B R) H (hE p) Y:=by
 refine⟨by unfold hE;rw[OY,h.len],λi d e=>?_⟩;unfold hE at e;rw[O9]at e;cases q:p[i]? with
 |none=>rw[q]at e;cases e
 |some z=>
  rw[q]at e;cases z with
  |none=>cases e
  |some s=>
   obtain⟨v,m,o⟩:=h.tell i s q;cases s with
   |h c=>cases e;exact⟨v,m,c4.tr trA _ _ o⟩
   |u ds=>
    cases e;obtain⟨a,k,g,j,l,t⟩:=o;refine⟨v,m,a,k,g,⟨λz=>?_,.inl l⟩,br.tr trA _ _ t⟩;have z':B a=on 0\/B a=on 1:=z;rw[j]at z';rcases z' with z'|z'<;>cases z'
   |grd ba=>
    cases e;obtain⟨a,D,g,j,l,t,u⟩:=o;have w:∀c,B c=on (i+2)->¬(na B R).A c:=λc hc z=>by
     have z':B c=on 0\/B c=on 1:=z;rw[hc]at z';rcases z' with z'|z'<;>cases z'
    exact⟨v,m,a,_,g,⟨w a j,.inl l⟩,bh.den trA u λr _ y=>w r y⟩
   |odc b ks vs=>
    cases e;obtain⟨a,g,j,n,k,l,t,u,C⟩:=o;refine⟨v,m,?_⟩;unfold c4;refine⟨a,n,k,g,⟨λz=>?_,l⟩,t,λx I=>(u x I).tr trA,br.tr trA _ _ C⟩;have z':B a=on 0\/B a=on 1:=z;rw[j]at z';rcases z' with z'|z'<;>cases z'
theorem fh.to{F:Fx}(h:fh K f B R H p β Y)(hF:F.bg=R)(t:To F H T W):fh K f B R T p W Y/\hU B H B T:=by
 have r:∀a,B a≠on 1->∀b l,F.bg=on (b,l)->a≠b/\a≠l:=λa x b l e=>by
  rw[hF]at e;exact⟨λz=>x<|z▸(h.bgt b l e).1,λz=>x<|z▸(h.bgt b l e).2⟩
 have D:∀a o,H a=on o->B a≠on 1->T a=on o:=λa o e n=>t.kp a o e<|r a n;have fr:Fr (ej B R) T W:=⟨λa x z=>(by
  by_cases u:B a=on 1
  .by_cases g:∃b l,R=on (b,l)/\(a=b\/a=l)
   .obtain⟨b,l,e,q⟩:=g
    obtain⟨j,m⟩:=t.fr.bag b l<|hF.trans e;rcases q with rfl|rfl
    .rw[j]at z;cases z
    .rw[m]at z;cases z
   .cases q:H a with
    |none=>exact h.fr.occ a x q
    |some o=>
     rw[t.kp a o q λb l e=>⟨λw=>g ⟨b,l,hF.symm.trans e,.inl w⟩,λw=>g ⟨b,l,hF.symm.trans e,.inr w⟩⟩]at z;cases z
  .cases q:H a with
   |none=>exact h.fr.occ a x q
   |some o=>rw[D a o q u]at z;cases z),h.fr.bgA,λb l e=>t.fr.bag b l<|hF.trans e⟩
 have G:Tr (ej B R) H (ej B R) T:=⟨λ_ n _=>n,λa o n e=>D a o e (λz=>n (by show B a≠OZ;rw[z];simp)),rfl⟩;have E:∀a,H a≠OZ->T a≠OZ:=λa x z=>by
  by_cases g:∃b l,R=on (b,l)/\(a=b\/a=l)
  .obtain⟨b,l,e,q⟩:=g
   obtain⟨j,m⟩:=t.fr.bag b l<|hF.trans e;rcases q with rfl|rfl
   .rw[j]at z;cases z
   .rw[m]at z;cases z
  .cases q:H a with
   |none=>exact x q
   |some o=>
    rw[t.kp a o q λb l e=>⟨λw=>g ⟨b,l,hF.symm.trans e,.inl w⟩,λw=>g ⟨b,l,hF.symm.trans e,.inr w⟩⟩]at z;cases z
 refine⟨⟨fr,h.bgt,h.len,λa x=>E a<|h.cov a x,h.new,λc k hc=>(h.lst c k hc).imp λo z=>D c o z (by rw[hc];intro z;cases z),λi s e=>?_⟩,λa o e n=>D a o e (by rcases n with n|n<;>rw[n]<;>simp),λ_ _=>rfl,λ_ _ _ n=>n,E⟩
 obtain⟨v,y,A⟩:=h.tell i s e;exact⟨v,y,A.tr G λc d=>⟨d,λo q=>D c o q<|by rw[d];intro z;cases z⟩⟩
theorem fh.set(h:fh K f B R H p β Y)(a:c4 K (ej B R) H d v):fh K f B R H (p.set i<|on<|.h d) β (Y.set i<|on v):=by
 refine⟨h.fr,h.bgt,by rw[PX,PX,h.len],h.cov,h.new,h.lst,λj c e=>?_⟩;rw[Q9]at e;rw[Q9];by_cases q:i=j
 .subst q
  rw[Pc rfl]at e⊢;split at e
  .rename_i g
   cases e;rw[Pc<|by rw[<-h.len];exact g];exact⟨v,rfl,a⟩
  .cases e
 .rw[Pd q]at e⊢
  exact h.tell j c e
noncomputable def gNil:G:=λp β=>on (.nx p,β)
noncomputable def aw(g h:G):G:=λp β=>match g p β with
 |some (.nx δ1,β1)=>h δ1 β1
 |r=>r
def b6(i:Nat)(f:FD):G:=λp β=>match f (vw p) β with
 |some (.ok d,β1)=>on (.nx<|p.set i<|on<|.h d,β1)
 |some (.error C,β1)=>on (.ex C p,β1)
 |none=>OZ
noncomputable def lN(f:FD):G:=λp β=>match f (hE p) β with
 |some (.ok _,β1)=>on (.nx p,β1)
 |some (.error C,β1)=>on (.ex C p,β1)
 |none=>OZ
noncomputable def d6(f:FD):G:=λp β=>match f (hE p) β with
 |some (.ok d,β1)=>on (.rt d,β1)
 |some (.error C,β1)=>on (.ex C p,β1)
 |none=>OZ
noncomputable def pa(t:a0p)(g h:G):G:=λp β=>match t (hE p) β with
 |some (.ok O6,β1)=>g p β1
 |some (.ok O8,β1)=>h p β1
 |some (.error C,β1)=>on (.ex C p,β1)
 |none=>OZ
variable{a:QD}{b:a0Q}
theorem bE:PSs X [] (tG X.K X.H₀ gNil E):=rR.imp λD Y H d=>by
 obtain⟨B,R,p,β,o,W,ok,e,h⟩:=d;cases e;exact h Y B H (hU.refl B H) ok
theorem af(i:PS X a<|tG X.K X.H₀ g E)(j:PSs X b<|tG X.K X.H₀ h E):PSs X (a::b) (tG X.K X.H₀ (aw g h) E):=(bY i j).imp λD Y H l=>by
 obtain⟨B,R,p,β,o,W,ok,e,q⟩:=l;unfold aw at e;split at e
 .rename_i δ1 β1 m
  refine⟨B,R,p,β,.nx δ1,β1,ok,m,λt u T s d=>⟨u,R,δ1,β1,o,W,d,e,gN.pre s ?_⟩⟩;exact q
 .rename_i r v
  refine⟨B,R,p,β,o,W,ok,e,?_⟩;cases o with
  |nx δ1=>exact PU e<|v δ1 W
  |_=>exact q
theorem ao(d:PS X a<|tG X.K X.H₀ g E):PSs X [a] (tG X.K X.H₀ g E):=je d
theorem aK{x:Qa}{f:FD}(h:PS X (.Assign [.Name x pos'] e U)<|gl (tV X.K f E)<|d7 i):PS X (.Assign [.Name x pos'] e U) (tG X.K X.H₀ (b6 i f) E):=h.imp λD Y H m=>by
 obtain⟨B,R,p,β,o,W,ok,e,q⟩:=m;refine⟨ej B R,vw p,β,ok.fr,ok.view,?_⟩;unfold b6 at e;split at e
 .rename_i d β1 j
  cases e;refine⟨.ok d,_,j,λv T t a=>?_⟩;obtain⟨g,l⟩:=ok.to rfl t;exact q _ B T l<|g.set a
 .rename_i C β1 j
  cases e;refine⟨.error C,_,j,λT t=>?_⟩;obtain⟨g,l⟩:=ok.to rfl t;exact q _ B T l g
 .cases e
theorem ig{f:FD}(h:PS X (.Expr e U)<|yK<|tV X.K f E):PS X (.Expr e U) (tG X.K X.H₀ (lN f) E):=h.imp λD Y H l=>by
 obtain⟨B,R,p,β,o,W,ok,e,q⟩:=l;refine⟨na B R,hE p,β,ok.j6,ok.f5,?_⟩;unfold lN at e;split at e
 .rename_i d β1 i
  cases e;refine⟨.ok d,_,i,λv T t a=>?_⟩;obtain⟨g,j⟩:=ok.to rfl t;exact q _ B T j g
 .rename_i C β1 i
  cases e;refine⟨.error C,_,i,λT t=>?_⟩;obtain⟨g,j⟩:=ok.to rfl t;exact q _ B T j g
 .cases e
noncomputable def gX(B:Ow):Ow:=λa=>if B a=on 0\/B a=on 1 then B a else OZ
theorem Ma{B:Ow}{R:a0s}{H:Hp}:Tr (na B R) H (ej (gX B) R) H:=⟨λa h _ z=>by
 have d:gX B a≠OZ:=z;unfold gX at d;split at d
 .rename_i q;exact h q
 .exact d rfl,λ_ _ _ h=>h,rfl⟩
theorem GI{B:Ow}{H:Hp}:hU B H (gX B) H:=⟨λ_ _ h _=>h,λa h=>by unfold gX;rw[Pc h],λa o h n=>by unfold gX;rw[n];simp,λ_ h=>h⟩
theorem aC{f:FD}(h:PS X (.Return (on e) U)<|FI<|tV X.K f E):PS X (.Return (on e) U) (tG X.K X.H₀ (d6 f) E):=h.imp λD Y H r=>by
 obtain⟨B,R,p,β,o,W,ok,e,q⟩:=r;refine⟨na B R,hE p,β,ok.j6,ok.f5,?_⟩;unfold d6 at e;split at e
 .rename_i d β1 j
  cases e;refine⟨.ok d,_,j,λv T t c=>?_⟩;obtain⟨g,m⟩:=ok.to rfl t;refine q _ (gX B) T (m.trans GI) ⟨λa k=>g.fr.occ a ?_,λb l e=>?_,g.fr.bag⟩<|c4.tr Ma _ _ c
  .have i:gX B a≠OZ:=k
   show B a≠OZ;unfold gX at i;split at i
   .exact i
   .exact PU rfl i
  .refine⟨?_,?_,(g.fr.bgA b l e).2.2⟩
   .show gX B b≠OZ
    unfold gX;rw[Pc<|.inr (ok.bgt b l e).1,(ok.bgt b l e).1];simp
   .show gX B l≠OZ
    unfold gX;rw[Pc<|.inr (ok.bgt b l e).2,(ok.bgt b l e).2];simp
 .rename_i C β1 j
  cases e;refine⟨.error C,_,j,λT t=>?_⟩;obtain⟨g,m⟩:=ok.to rfl t;exact q _ B T m g
 .cases e
theorem cj{c:Expr}{a b:a0Q}(hc:PT X c<|g0 X.K t E)(k:PSs X a<|tG X.K X.H₀ g E)(l:PSs X b<|tG X.K X.H₀ h E):PS X (.If c a b U) (tG X.K X.H₀ (pa t g h) E):=(HQ hc k l).imp λD Y H m=>by
 obtain⟨B,R,p,β,o,W,ok,e,q⟩:=m;refine⟨na B R,hE p,β,ok.j6,ok.f5,?_⟩;unfold pa at e;split at e
 .rename_i β1 i
  refine⟨.ok O6,_,i,λv T t f=>?_⟩;subst f;obtain⟨d,j⟩:=ok.to rfl t;rw[Pc rfl];exact⟨B,R,p,β1,o,W,d,e,gN.pre j q⟩
 .rename_i β1 i
  refine⟨.ok O8,_,i,λv T t f=>?_⟩;subst f;obtain⟨d,j⟩:=ok.to rfl t;rw[Pd Pf];exact⟨B,R,p,β1,o,W,d,e,gN.pre j q⟩
 .rename_i C β1 i
  cases e;refine⟨.error C,_,i,λT t=>?_⟩;obtain⟨d,j⟩:=ok.to rfl t;exact q _ B T j d
 .cases e
abbrev V_:=D->Ds->Option Ds
abbrev ng:=a0c->Ds->Option Ds
def oI(K:Pz)(g:TG)(tg:V_):Prop:=∀(f:Hp) (B:Ow) (R:a0s) (H:Hp) (p a:Ds) (β:Bg) (Y:St) (d:D) (v:V) (Q:a0F),fh K f B R H p β Y->c4 K (ej B R) H d v->tg d p=on a->(∀h,fh K f B R H a β h->Q h H)->g v Y H Q
def rm(K:Pz)(g:Wi)(tg:ng):Prop:=∀(f:Hp) (B:Ow) (R:a0s) (H:Hp) (p a:Ds) (β:Bg) (Y:St) (b:a0c) (c:a0j) (Q:a0F),fh K f B R H p β Y->br K (ej B R) H b c->tg b p=on a->(∀d,fh K f B R H a β d->Q d H)->g c Y H Q
noncomputable def sgN(i:Nat):V_:=λd p=>on<|p.set i<|on<|.h d
noncomputable def FV:ng:=λa p=>match a with
 |[]=>on p
 |_=>OZ
noncomputable def yS(t:V_)(u:ng):ng:=λb p=>match b with
 |[]=>OZ
 |d::r=>(t d p).bind λa=>u r a
noncomputable def sgT(t:ng):V_:=λd p=>match d with
 | .t ds=>t ds p
 |_=>OZ
theorem aD:oI K (d7 i) (sgN i):=λf B R H p a β Y d v Q b c e k=>by
 cases e;exact k _<|b.set c
theorem eE:rm K L2.gNil FV:=λf B R H p a β Y b x Q c n e k=>by
 cases b with
 |nil=>cases e;exact⟨n,k _ c⟩
 |cons _ _=>cases e
theorem aV(m:oI K t s)(o:rm K u uf):rm K (zX t u) (yS s uf):=λf B R H p a β Y b D Q c n e k=>by
 cases b with
 |nil=>cases e
 |cons d r=>
  obtain⟨x,l,rfl,v,w⟩:=n;have h:(s d p).bind (λa=>uf r a)=on a:=e;cases q:s d p with
  |none=>rw[q]at h;cases h
  |some g=>
   rw[q]at h;exact⟨x,l,rfl,m f B R H p g β Y d x _ c v q λi j=>o f B R H g a β i r l Q j w h k⟩
theorem dG:∀b p a,FV b p=on a->VX b=0:=λb p a h=>by
 cases b with
 |nil=>rfl
 |cons _ _=>cases h
theorem aU{n:Nat}(h:∀b p a,u b p=on a->VX b=n):∀b p a,yS t u b p=on a->VX b=n+1:=λb p a e=>by
 cases b with
 |nil=>cases e
 |cons d r=>
  have g:(t d p).bind (λa=>u r a)=on a:=e;cases q:t d p with
  |none=>rw[q]at g;cases g
  |some i=>rw[q]at g;rw[Pt,h _ _ _ g]
theorem fQ{n:Nat}(h:rm K t g)(E:∀c p b,g c p=on b->VX c=n):oI K (GY K n t) (sgT g):=λf B R H p b β Y d v Q F G e k=>by
 cases d<;>first
  |(obtain⟨a,x,rfl,M,D⟩:=c4.f5 G;exact⟨a,x,rfl,M,by rw[<-D.length];exact E _ _ _ e,h f B R H p b β Y _ x Q F D e k⟩)
  |cases e
def wz(f:FD)(tg:V_):G:=λp β=>match f (vw p) β with
 |some (.ok d,β1)=>(tg d p).map λa=>(.nx a,β1)
 |some (.error C,β1)=>on (.ex C p,β1)
 |none=>OZ
theorem lq{f:FD}{tg:V_}(l:oI X.K g tg)(h:PS X (.Assign [s] e U)<|gl (tV X.K f E) g):PS X (.Assign [s] e U) (tG X.K X.H₀ (wz f tg) E):=h.imp λD Y H w=>by
 obtain⟨B,R,p,β,o,W,ok,e,q⟩:=w;refine⟨ej B R,vw p,β,ok.fr,ok.view,?_⟩;unfold wz at e;split at e
 .rename_i d β1 j
  cases a:tg d p with
  |none=>rw[a]at e;cases e
  |some b=>
   rw[a]at e;cases e;refine⟨.ok d,_,j,λv T t c=>?_⟩;obtain⟨i,m⟩:=ok.to rfl t;exact l X.H₀ B R T p b _ Y d v _ i c a λr u=>q r B T m u
 .rename_i C β1 j
  cases e;refine⟨.error C,_,j,λT t=>?_⟩;obtain⟨i,m⟩:=ok.to rfl t;exact q _ B T m i
 .cases e
def zV(i j:Nat)(f:FL):G:=λp β=>match f (vw p) β with
 |some (.ok [c,d],β1)=>on (.nx<|(p.set i<|on<|.h c).set j<|on<|.h d,β1)
 |some (.error C,β1)=>on (.ex C p,β1)
 |_=>OZ
theorem NH{f:FL}(h:PS X a<|KE i j<|i_ X.K f E):PS X a (tG X.K X.H₀ (zV i j f) E):=h.imp λD Y H r=>by
 obtain⟨B,R,p,β,o,W,ok,e,q⟩:=r;refine⟨ej B R,vw p,β,ok.fr,ok.view,?_⟩;unfold zV at e;split at e
 .rename_i c d β1 l
  cases e;refine⟨.ok [c,d],_,l,λk T t b=>?_⟩;obtain⟨g,m⟩:=ok.to rfl t;obtain⟨v,w,rfl,u,y⟩:=br.j9 b;exact⟨v,w,rfl,q _ B T m<|(g.set u).set y⟩
 .rename_i C β1 l
  cases e;refine⟨.error C,_,l,λT t=>?_⟩;obtain⟨g,m⟩:=ok.to rfl t;exact q _ B T m g
 .cases e
def zY(i:Nat)(a:a0R)(f:FD):G:=λp β=>match(vw p).getD i OZ with
 |none=>OZ
 |some c=>match f (vw p) β with
  |some (.ok d,β1)=>(a c d).map λz=>(.nx<|p.set i<|on<|.h z,β1)
  |some (.error C,β1)=>on (.ex C p,β1)
  |none=>OZ
theorem qf{f:FD}(l:aX X.K s op)(h:PS X a<|KN i (tV X.K f E) s):PS X a (tG X.K X.H₀ (zY i op f) E):=h.imp λD Y H I=>by
 obtain⟨B,R,p,β,o,W,ok,e,q⟩:=I;unfold zY at e;split at e
 .cases e
 .rename_i c j
  have m:(vw p)[i]?=on (on c):=by
   rw[O5]at j;cases z:(vw p)[i]? with
   |none=>rw[z]at j;cases j
   |some w=>rw[z]at j;simp at j;rw[j]
  obtain⟨v,J,L⟩:=ok.view.tell i c m;refine⟨v,J,ej B R,vw p,β,ok.fr,ok.view,?_⟩;split at e
  .rename_i d β1 r
   cases b:op c d with
   |none=>rw[b]at e;cases e
   |some z=>
    rw[b]at e;cases e;refine⟨.ok d,_,r,λw T t k=>?_⟩;obtain⟨g,y⟩:=ok.to rfl t;refine l (ej B R) T W _ c d z v w t.fr (c4.tr (t.tr ok.fr) _ _ L) k b λu N O P=>?_;obtain⟨A,Q⟩:=g.to rfl O;exact q _ B N (y.trans Q)<|A.set P
  .rename_i C β1 r
   cases e;refine⟨.error C,_,r,λT t=>?_⟩;obtain⟨g,y⟩:=ok.to rfl t;exact q _ B T y g
  .cases e
theorem hU.tr{B d:Ow}{H T:Hp}{R:a0s}(s:hU B H d T):Tr (ej B R) H (ej d R) T:=
 ⟨λa h b z=>by
  have c:B a=OZ:=by
   cases q:B a with
   |none=>rfl
   |some t=>exact PU (show B a≠OZ by rw[q];simp) h
  cases q:H a with
  |none=>exact b q
  |some o=>exact z<|s.nn a o q c,λa o h e=>s.kp a o e<|.inl (by
  cases q:B a with
  |none=>rfl
  |some t=>exact PU (show B a≠OZ by rw[q];simp) h),rfl⟩
def bZ(t:a0p)(g:G):Nat->G
 |0,_,_=>OZ
 |n+1,p,β=>match t (hE p) β with
  |some (.ok O6,β1)=>match g p β1 with
   |some (.nx δ1,β2)=>bZ t g n δ1 β2
   |some (.ct δ1,β2)=>bZ t g n δ1 β2
   |some (.bk δ1,β2)=>on (.nx δ1,β2)
   |r=>r
  |some (.ok O8,β1)=>on (.nx p,β1)
  |some (.error C,β1)=>on (.ex C p,β1)
  |none=>OZ
theorem mT:∀{n:Nat} {p:Ds} {β:Bg} {r:q0×Bg},bZ t g n p β=on r->bZ t g (n+1) p β=on r
 |0,_,_,_,h=>by cases h
 |n+1,p,β,r,h=>by
  have e:∀m,bZ t g (m+1) p β=match t (hE p) β with
    |some (.ok O6,a)=>match g p a with
     |some (.nx δ1,c)=>bZ t g m δ1 c
     |some (.ct δ1,c)=>bZ t g m δ1 c
     |some (.bk δ1,c)=>on (.nx δ1,c)
     |r=>r
    |some (.ok O8,a)=>on (.nx p,a)
    |some (.error C,a)=>on (.ex C p,a)
    |none=>OZ:=λm=>rfl
  rw[e]at h⊢;cases q:t (hE p) β with
  |none=>rw[q]at h;cases h
  |some z=>
   obtain⟨b,a⟩:=z;rw[q]at h;cases b with
   |error C=>exact h
   |ok b=>
    cases b with
    |false=>exact h
    |true=>
     dsimp only at h⊢
     cases f:g p a with
     |none=>rw[f]at h;cases h
     |some y=>
      obtain⟨o,c⟩:=y;rw[f]at h;cases o with
      |nx δ1=>exact mT h
      |ct δ1=>exact mT h
      |bk δ1=>exact h
      |rt d=>exact h
      |rg d=>exact h
      |ex C δ1=>exact h
theorem tX{n m:Nat}{p:Ds}{β:Bg}(h:bZ t g n p β=on r)(l:n<=m):bZ t g m p β=on r:=by
 induction m with
 |zero=>
  obtain rfl:n=0:=by lia
  exact h
 |succ m a=>
  by_cases q:n=m+1
  .subst q;exact h
  .exact mT (a<|by lia)
end
open Classical in
def gWh(t:a0p)(g:G):G:=λD E=>if h:∃r n,bZ t g n D E=on r then on h.choose else OZ
theorem MH(h:bZ t g n d e=on r):gWh t g d e=on r:=by
 have a:∃r n,bZ t g n d e=on r:=⟨r,n,h⟩;unfold gWh;rw[dif_pos a];obtain⟨m,D⟩:=a.choose_spec;have c:=tX h<|Nat.le_max_left n m;have b:=tX D<|Nat.le_max_right n m;rw[c]at b;rw[<-P3 b]
theorem J5(h:gWh t g b c=on r):∃n,bZ t g n b c=on r:=by
 unfold gWh at h;split at h
 .rename_i a
  obtain⟨m,D⟩:=a.choose_spec;cases h;exact⟨m,D⟩
 .cases h
section
variable{X:Cx}{E:a0r}{e:Expr}{st:QD}{n:a0Q}{s:Uq}{K:Pz}
theorem xy(T:Zw (PM X.p X.w) X.A X.e X.xe)(hc:PT X c<|g0 X.K t E)(U:PSs X body<|tG X.K X.H₀ g E):PS X (.While c body [] s) (tG X.K X.H₀ (gWh t g) E):=(F8 T hc U).imp λD σ H W=>by
 obtain⟨B,V,δ,β,o,l,ok,e,q⟩:=W;obtain⟨n,e⟩:=J5 e;refine⟨λm u P=>∃j M S,hU B H j P/\fh X.K X.H₀ j V P M S u/\bZ t g m M S=on (o,l),⟨n,B,δ,β,hU.refl B H,ok,e⟩,?_⟩;rintro m u P ⟨j,M,S,r,h,f⟩;refine⟨na j V,hE M,S,h.j6,h.f5,?_⟩;cases m with
 |zero=>cases f
 |succ m=>
  unfold bZ at f;split at f
  .rename_i β2 y
   refine⟨.ok O6,_,y,λv N tt hd=>?_⟩;subst hd;obtain⟨b,k⟩:=h.to rfl tt;rw[Pc rfl];refine⟨λF Q=>∃O a G,hU B H O Q/\fh X.K X.H₀ O V Q a G F/\bZ t g m a G=on (o,l),λF Q ⟨O,a,G,z⟩=>⟨m,Vv m,O,a,G,z⟩,?_⟩;split at f
   .rename_i a G I
    exact⟨j,V,M,β2,.nx a,G,b,I,λp J R L i=>⟨J,a,G,r.trans<|k.trans L,i,f⟩⟩
   .rename_i a G I
    exact⟨j,V,M,β2,.ct a,G,b,I,λp J R L i=>⟨J,a,G,r.trans<|k.trans L,i,f⟩⟩
   .rename_i a G I
    cases f;exact⟨j,V,M,β2,.bk a,_,b,I,λp J R L i=>q p J R (r.trans<|k.trans L) i⟩
   .rename_i x Y Z h3
    refine⟨j,V,M,β2,o,l,b,f,?_⟩;have q2:=gN.pre (r.trans k) q;cases o with
    |nx a=>exact PU f<|Y _ _
    |ct a=>exact PU f<|Z _ _
    |bk a=>exact PU f<|h3 _ _
    |rt d=>exact q2
    |rg d=>exact q2
    |ex C a=>exact q2
  .rename_i β2 y
   cases f;refine⟨.ok O8,_,y,λv N tt hd=>?_⟩;subst hd;obtain⟨b,k⟩:=h.to rfl tt;rw[Pd Pf];exact q _ j N (r.trans k) b
  .rename_i C β2 y
   cases f;refine⟨.error C,_,y,λN tt=>?_⟩;obtain⟨b,k⟩:=h.to rfl tt;exact q _ j N (r.trans k) b
  .cases f
noncomputable def o_(e:V_)(g:G):a0c->G
 |[],δ,β=>on (.nx δ,β)
 |d::ds,δ,β=>match e d δ with
  |none=>OZ
  |some n=>match g n β with
   |some (.nx δ2,β2)=>o_ e g ds δ2 β2
   |some (.ct δ2,β2)=>o_ e g ds δ2 β2
   |some (.bk δ2,β2)=>on (.nx δ2,β2)
   |r=>r
def qQ(n:Ds->M a0c)(s:V_)(g:G):G:=λe D=>match n e D with
 |some (.ok ds,β1)=>o_ s g ds e β1
 |some (.error C,β1)=>on (.ex C e,β1)
 |none=>OZ
abbrev zW(e:FL):V_->G->G:=qQ λn=>e<|vw n
theorem K4(hw:∀{B z H δ β T R},fh X.K X.H₀ B z H δ β T->run (λZ (M:a0c) (J:It)=>zv X.K J (ej B z) Z M) (ej B z) E T (it δ) H R β->wi T H R)(l:oI X.K tgg tg)(h:PS X (.For tgt iter body [] s)<|FK wi tgg<|tG X.K X.H₀ g E):PS X (.For tgt iter body [] s) (tG X.K X.H₀ (qQ it tg g) E):=h.imp λD T H h_=>by
 obtain⟨B,z,δ,β,o,A,ok,e,q⟩:=h_;refine hw ok ?_;unfold qQ at e;split at e
 .rename_i M β1 e1
  refine⟨.ok M,_,e1,λJ S t hJ=>?_⟩;obtain⟨V,s1⟩:=ok.to rfl t;refine⟨λi m p I=>m+i=VX M/\∃n r G,hU B S n I/\fh X.K X.H₀ n z I r G p/\o_ tg g (M.drop i) r G=on (o,A),⟨VX M,by lia,B,δ,β1,hU.refl B S,V,e⟩,?_⟩;rintro i m p I ⟨hm,n,r,G,L,c,b⟩;obtain⟨iy,is⟩:=hJ (ej n z) I G L.tr c.fr i;cases U:M[i]? with
  |none=>
   have W:VX M<=i:=UY.mp U;rw[RJ W]at b;cases b;exact .inl ⟨is (by lia),q p n I (s1.trans L) c⟩
  |some d=>
   have W:i<VX M:=(Pl.mp U).1;obtain⟨go,yl⟩:=iy d U;have ed:M.drop i=d::M.drop (i+1):=by
    rw[Rp W];congr 1;exact P3<|(O4 W).symm.trans U
   rw[ed]at b;unfold o_ at b;split at b
   .cases b
   .rename_i j e3
    refine .inr ⟨go,λN H9=>∃Y u v,hU B S Y H9/\fh X.K X.H₀ Y z H9 u v N/\o_ tg g (M.drop<|i+1) u v=on (o,A),λN H9 ⟨Y,u,v,z1,z2,z3⟩=>⟨m-1,by lia,by lia,Y,u,v,z1,z2,z3⟩,λx H3 hy=>?_⟩;obtain⟨sm,dx⟩:=yl x H3 hy;obtain⟨aa,s3⟩:=c.to rfl<|c.fr.same sm;refine l X.H₀ n z H3 r j G p d x _ aa dx e3 λab w=>?_;have y:=L.trans s3;split at b
    .rename_i a f O
     exact⟨n,z,j,G,.nx a,f,w,O,λF P H6 Q k=>⟨P,a,f,y.trans Q,k,b⟩⟩
    .rename_i a f O
     exact⟨n,z,j,G,.ct a,f,w,O,λF P H6 Q k=>⟨P,a,f,y.trans Q,k,b⟩⟩
    .rename_i a f O
     cases b;exact⟨n,z,j,G,.bk a,_,w,O,λF P H6 Q k=>q F P H6 (s1.trans<|y.trans Q) k⟩
    .rename_i x h1 h2 h3
     refine⟨n,z,j,G,o,A,w,b,?_⟩;have q2:=gN.pre (s1.trans y) q;cases o with
     |nx a=>exact PU b<|h1 _ _
     |ct a=>exact PU b<|h2 _ _
     |bk a=>exact PU b<|h3 _ _
     |rt d=>exact q2
     |rg d=>exact q2
     |ex C a=>exact q2
 .rename_i C β1 e1
  cases e;refine⟨.error C,_,e1,λZ t=>?_⟩;obtain⟨c,L⟩:=ok.to rfl t;exact q _ B Z L c
 .cases e
theorem cM(l:oI X.K tgg c)(h:PS X (.For b a body [] s)<|FK (iV X.K d E) tgg<|tG X.K X.H₀ g E):PS X (.For b a body [] s) (tG X.K X.H₀ (zW d c g) E):=K4 (λe r=>⟨_,_,_,e.fr,e.view,r⟩) l h
theorem fh.claim{E:Ds}{u:St}(S:O7->Prop)(D:fh K H₀ B x H E P u)(t:To (ej B x) H H' N)(f:∀c,S c->H c=OZ/\F0 H' c)(V:∀{p:Ow},(∀c,S c->p c=on (i+2))->(∀c,p c≠OZ->B c≠OZ\/S c)->Tr (ej B x) H (ej p x) H'->nu K p x H' i O v):
  ∃A,fh K H₀ A x H' (E.set i<|on O) N (u.set i<|on v)/\hU B H A H':=by
 classical
 obtain⟨a,C⟩:=D.to rfl t;have hB:∀c,S c->B c=OZ:=λc hc=>Sg λz=>D.fr.occ c z (f c hc).1;have g:∀c n,B c=on n->¬S c:=λc n e z=>by rw[hB c z]at e;cases e
 have m:hU B H (λc=>if S c then on (i+2)else B c) H':=⟨C.kp,λc hc=>Pd<|hc.elim (g c 0)<|g c 1,λc o h n=>(Pd λz=>by rw[(f c z).1]at h;cases h).trans n,C.al⟩;have G:Tr (ej B x) H (ej (λc=>if S c then on (i+2)else B c) x) H':=m.tr;have r:∀b l,x=on (b,l)->(if S b then on (i+2)else B b)=on 1/\(if S l then on (i+2)else B l)=on 1:=λb l e=>by
  obtain⟨M,F⟩:=D.bgt b l e;exact⟨(Pd<|g b 1 M).trans M,(Pd<|g l 1 F).trans F⟩
 refine⟨λc=>if S c then on (i+2)else B c,⟨⟨λc hc z=>?_,λb l e=>⟨λz=>(by cases z.symm.trans (r b l e).1),λz=>(by cases z.symm.trans (r b l e).2),(D.fr.bgA b l e).2.2⟩,a.fr.bag⟩,r,by rw[PX,PX,D.len],a.cov,λc k hc=>?_,λc k hc=>?_,λj s e=>?_⟩,m⟩
 .by_cases q:S c
  .rcases(f c q).2 with⟨_,w⟩|⟨_,w⟩<;>(rw[w]at z;cases z)
  .exact a.fr.occ c (λy=>hc<|(Pd q).trans y) z
 .by_cases z:S c
  .cases w:H₀ c with
   |none=>rfl
   |some o=>exact PU (f c z).1 (D.cov c<|by rw[w];simp)
  .exact D.new c k ((Pd z).symm.trans hc)
 .by_cases z:S c
  .exact(f c z).2
  .exact a.lst c k ((Pd z).symm.trans hc)
 .rw[Q9]at e⊢
  by_cases q:i=j
  .subst q
   rw[Pc rfl]at e⊢;split at e
   .rename_i I
    cases e;rw[Pc<|by rw[<-D.len];exact I];exact⟨_,rfl,V (λc z=>Pc z) (λc z=>Sg λy=>z<|(Pd λw=>y<|.inr w).trans<|Sg λw=>y<|.inl w) G⟩
   .cases e
  .rw[Pd q]at e⊢
   obtain⟨w,J,L⟩:=D.tell j s e;exact⟨w,J,L.tr G λc d=>⟨(Pd<|g c _ d).trans d,λo h=>t.kp c o h λb l z=>⟨λy=>(by subst y;rw[(D.bgt _ _ z).1]at d;cases d),λy=>(by subst y;rw[(D.bgt _ _ z).2]at d;cases d)⟩⟩⟩
theorem fh.newAt{e:Ds}{b:St}(n:fh K H₀ B h H e j b)(d:H p=OZ)(g:F0 (upd H p u) p)(s:∀{a:Ow},a p=on (i+2)->Tr (ej B h) H (ej a h) (upd H p u)->nu K a h (upd H p u) i sl (.r p)):
  ∃f,fh K H₀ f h (upd H p u) (e.set i<|on sl) j (b.set i<|on<|.r p)/\hU B H f (upd H p u):=n.claim (·=p) (n.fr.upd u d) (λc z=>by cases z;exact⟨d,g⟩) λD _ E=>s (D p rfl) E
theorem fh.writeAt{E:Ds}(D:fh K H₀ B t H E x w)(M:w[i]?=on (on<|.r a))(hB:B a=on (i+2))(m:F0 (upd H a u) a)(S:Tr (ej B t) H (ej B t) (upd H a u)->nu K B t (upd H a u) i sl (.r a)):
  fh K H₀ B t (upd H a u) (E.set i<|on sl) x w/\hU B H B (upd H a u):=by
 have f:hU B H B (upd H a u):=by
  refine⟨λc o h n=>?_,λ_ _=>rfl,λ_ _ _ n=>n,λc hc=>?_⟩
  .rw[bb]
   .exact h
   .intro z;subst z;rw[hB]at n;rcases n with n|n<;>cases n
  .by_cases z:c=a
   .subst z;rw[aj];simp
   .rw[bb z];exact hc
 have G:Tr (ej B t) H (ej B t) (upd H a u):=f.tr;refine⟨⟨⟨λc hc z=>?_,D.fr.bgA,λb l e=>?_⟩,D.bgt,by rw[PX,D.len],λa V=>f.al a<|D.cov a V,D.new,λc k hc=>(by
  by_cases z:c=a
  .subst z;exact m
  .exact(D.lst c k hc).imp λo y=>by rw[bb z];exact y),λj s e=>?_⟩,f⟩
 .by_cases q:c=a
  .subst q;rw[aj]at z;cases z
  .rw[bb q]at z;exact D.fr.occ c hc z
 .obtain⟨b1,g⟩:=D.bgt b l e
  rw[bb (λz=>by subst z;rw[hB]at b1;cases b1),bb (λz=>by subst z;rw[hB]at g;cases g)];exact D.fr.bag b l e
 .rw[Q9]at e
  by_cases q:i=j
  .subst q
   rw[Pc rfl]at e;split at e
   .cases e
    exact⟨_,M,S G⟩
   .cases e
  .rw[Pd q]at e
   obtain⟨v,p,r⟩:=D.tell j s e;exact⟨v,p,r.tr G λc d=>⟨d,λo z=>(bb λy=>by subst y;rw[hB]at d;cases d;exact q rfl).trans z⟩⟩
theorem fh.newOwn{n:Ds}{a:St}(s:fh K H₀ B f H n g a)(c:H p=OZ)(D:br K (ej B f) H h d):
  ∃b,fh K H₀ b f (upd H p<|.l d) (n.set i<|on<|.u h) g (a.set i<|on<|.r p)/\hU B H b (upd H p<|.l d):=s.newAt c (.inl ⟨d,aj⟩) λe t=>⟨p,d,rfl,e,aj,br.tr t _ _ D⟩
theorem fh.writeOwn{e:Ds}(n:fh K H₀ B b H e d c)(s:c[i]?=on (on<|.r a))(hB:B a=on (i+2))(E:H a=on (.l f))(D:br K (ej B b) H ds xs):
  fh K H₀ B b (upd H a<|.l xs) (e.set i<|on<|.u ds) d c/\hU B H B (upd H a<|.l xs):=n.writeAt s hB (.inl ⟨xs,aj⟩) λt=>⟨a,xs,rfl,hB,aj,br.tr t _ _ D⟩
def wy(i:Nat)(f:FL):G:=λe n=>match f (vw e) n with
 |some (.ok ds,β1)=>if VX ds<=Ps then on (.nx<|e.set i<|on<|.u ds,β1)else OZ
 |some (.error C,β1)=>on (.ex C e,β1)
 |none=>OZ
theorem yX(h:PS X st<|gl (KI<|i_ X.K f E)<|d7 i):PS X st (tG X.K X.H₀ (wy i f) E):=h.imp λD r H j=>by
 obtain⟨B,G,M,S,o,k,ok,e,q⟩:=j;refine⟨ej B G,vw M,S,ok.fr,ok.view,?_⟩;unfold wy at e;split at e
 .rename_i ds β1 b
  split at e
  .rename_i l
   cases e;refine⟨.ok ds,_,b,λV g t s=>⟨by rw[<-s.length];exact l,λp m=>?_⟩⟩;obtain⟨a,c⟩:=ok.to rfl t;obtain⟨u,d,n⟩:=a.newOwn (i:=i) m s;exact q _ _ _ (c.trans n) d
  .cases e
 .rename_i C β1 b
  cases e;refine⟨.error C,_,b,λg t=>?_⟩;obtain⟨a,c⟩:=ok.to rfl t;exact q _ B g c a
 .cases e
def wA(i:Nat)(f:FL):G:=λe n=>match e.getD i OZ with
 |some (.u cs)=>match f (vw e) n with
  |some (.ok [d],β1)=>if VX cs<Ps then on (.nx<|e.set i<|on<|.u<|cs++[d],β1)else OZ
  |some (.error C,β1)=>on (.ex C e,β1)
  |_=>OZ
 |_=>OZ
theorem getD_some{n:Type}{e:List (Option n)}{i:Nat}{s:n}(h:e.getD i OZ=on s):e[i]?=on (on s):=by
 rw[O5]at h;cases z:e[i]? with
 |none=>rw[z]at h;cases h
 |some w=>rw[z]at h;simp at h;rw[h]
theorem yY(h:PS X st<|yK<|tBM X.K "list" xI (l5 i)<|i_ X.K f E):PS X st (tG X.K X.H₀ (wA i f) E):=h.imp λD P H y=>by
 obtain⟨B,s,G,M,o,A,ok,e,q⟩:=y;unfold wA at e;split at e
 .rename_i cs u
  obtain⟨v,l,a,S,rfl,F,I,Q⟩:=ok.tell i _<|getD_some u;refine⟨_,l,.inl ⟨rfl,S,eX.of I⟩,ej B s,vw G,M,ok.fr,ok.view,?_⟩;split at e
  .rename_i d β1 m
   split at e
   .rename_i J
    cases e;refine⟨.ok [d],_,m,λx w t V=>?_⟩;obtain⟨b,n⟩:=ok.to rfl t;obtain⟨v,rfl,L⟩:=br.j6 V;obtain⟨R,c,T,g,p,N,j,k⟩:=b.tell i _<|getD_some u;rw[l]at c;cases c;cases p;refine⟨a,g,v,rfl,rfl,j,by rw[<-k.length];exact J,?_⟩;obtain⟨r,O⟩:=b.writeOwn (ds:=cs++[d]) (xs:=g++[v]) l F j<|br.append k<|br.cons L br.f5;exact q _ _ _ (n.trans O) r
   .cases e
  .rename_i C β1 m
   cases e;refine⟨.error C,_,m,λw t=>?_⟩;obtain⟨b,n⟩:=ok.to rfl t;exact q _ B w n b
  .cases e
 .cases e
noncomputable def fz(i:Nat)(e:Ds):Ds:=match e.getD i OZ with
 |some (.u ds)=>e.set i<|on<|.h<|.l ds
 |some (.grd ba)=>e.set i<|on<|.h<|.l<|ba.map D.l
 |some (.odc b ks vs)=>e.set i<|on<|.h<|.dct b ks vs
 |_=>e
theorem fh.letGo{E:Ds}(S:O7->Prop)(D:fh K H₀ B x H E I F)(p:∀c,S c->B c=on (i+2))(y:F[i]?=on (on v))(X:∀{f:Ow},(∀c,S c->f c=OZ)->(∀c,¬S c->f c=B c)->Tr (ej B x) H (ej f x) H->nu K f x H i J v):∃r,fh K H₀ r x H (E.set i<|on J) I F/\hU B H r H:=by
 classical
 have G:∀c n,(if S c then OZ else B c)=on n->B c=on n:=λc n e=>by
  by_cases z:S c
  .rw[Pc z]at e;cases e
  .exact(Pd z).symm.trans e
 have t:∀c,B c=OZ->(if S c then OZ else B c)=OZ:=λc e=>by rw[e];exact ite_self _
 have g:∀c,B c=on 0\/B c=on 1->¬S c:=λc h z=>by rw[p c z]at h;rcases h with h|h<;>cases h
 have a:hU B H (λc=>if S c then OZ else B c) H:=⟨λ_ _ h _=>h,λc hc=>Pd<|g c hc,λc o h n=>t c n,λ_ h=>h⟩;have M:Tr (ej B x) H (ej (λc=>if S c then OZ else B c) x) H:=a.tr;have m:∀b l,x=on (b,l)->(if S b then OZ else B b)=on 1/\(if S l then OZ else B l)=on 1:=λb l e=>by
  obtain⟨V,u⟩:=D.bgt b l e;exact⟨(Pd<|g b<|.inr V).trans V,(Pd<|g l<|.inr u).trans u⟩
 refine⟨λc=>if S c then OZ else B c,⟨⟨λc hc=>D.fr.occ c λz=>hc<|t c z,λb l e=>⟨λz=>(by cases z.symm.trans (m b l e).1),λz=>(by cases z.symm.trans (m b l e).2),(D.fr.bgA b l e).2.2⟩,D.fr.bag⟩,m,by rw[PX,D.len],D.cov,λc k hc=>D.new c k<|G c _ hc,λc k hc=>D.lst c k<|G c _ hc,λj s e=>?_⟩,a⟩;rw[Q9]at e;by_cases q:i=j
 .subst q
  rw[Pc rfl]at e;split at e
  .cases e
   exact⟨v,y,X (λc z=>Pc z) (λc z=>Pd z) M⟩
  .cases e
 .rw[Pd q]at e
  obtain⟨w,A,C⟩:=D.tell j s e;exact⟨w,A,C.tr M λc d=>⟨(Pd λz=>by rw[p c z]at d;cases d;exact q rfl).trans d,λ_ z=>z⟩⟩
theorem fh.freeze(i:Nat)(e:fh K H₀ B w H y A C):∃m,fh K H₀ m w H (fz i y) A C/\hU B H m H:=by
 unfold fz;split
 .rename_i ds b
  obtain⟨v,d,a,E,f,g,h,j⟩:=e.tell i _<|getD_some b;exact e.letGo (·=a) (λc z=>z▸g) d λs _ D=>⟨a,E,f,⟨λz=>z<|s a rfl,.inl h⟩,br.tr D _ _ j⟩
 .rename_i ba b
  obtain⟨v,d,a,G,f,g,h,S,n⟩:=e.tell i _<|getD_some b;exact e.letGo (λc=>c=a\/c∈G) (λc z=>z.elim (·▸g) λz=>(n.all c z).1) d λs _ D=>⟨a,_,f,⟨λz=>z<|s a<|.inl rfl,.inl h⟩,bh.den D n λr o _ z=>z<|s r<|.inr o⟩
 .rename_i p k l b
  obtain⟨v,d,a,f,g,M,E,h,j,q,t⟩:=e.tell i _<|getD_some b;exact e.letGo (·=a) (λc z=>z▸g) d λs _ D=>by
   show c4 _ _ _ (.dct p k l) _;unfold c4;exact⟨a,M,E,f,⟨λz=>z<|s a rfl,h⟩,j,λx u=>(q x u).tr D,br.tr D _ _ t⟩
 .exact⟨B,e,hU.refl B H⟩
noncomputable def fzG(i:Nat)(g:G):G:=λe n=>g (fz i e) n
theorem K3(i:Nat)(h:PSs X n<|tG X.K X.H₀ g E):PSs X n (tG X.K X.H₀ (fzG i g) E):=h.imp λD f H c=>by
 obtain⟨B,G,M,S,o,a,ok,e,q⟩:=c;obtain⟨d,b,s⟩:=ok.freeze i;exact⟨d,G,fz i M,S,o,a,b,e,gN.pre s q⟩
noncomputable def o4(n:Nat)(ds:a0c):Ds:=ds.map (λd=>on<|Sl.h d)++Py (n-VX ds) OZ
def d8(n:Nat)(g:G):a0c->M D:=λe s=>match g (o4 n e) s with
 |some (.rt d,β')=>on (.ok d,β')
 |some (.nx _,β')=>on (.ok .o,β')
 |some (.ex C _,β')=>on (.error C,β')
 |_=>OZ
theorem vi{F:Fx}{N:a0h}(fr:Fr F H w)(E:br K F H u x):∃B,fh K H B F.bg H (o4 (VX N) u) w (fU N x)/\(∀a,F.A a->B a=on 0\/B a=on 1)/\(∀a,B a=on 1->∃b l,F.bg=on (b,l)/\(a=b\/a=l))/\(∀a,B a≠OZ->F.A a):=by
 classical
 refine⟨λa=>if F.A a then(if ∃b l,F.bg=on (b,l)/\(a=b\/a=l)then on 1 else on 0)else OZ,⟨⟨λa D=>fr.occ a ?_,λb l e=>?_,fr.bag⟩,λb l e=>?_,?_,λ_ h=>h,λc k hc=>(by
  have f:(if F.A c then(if ∃b l,F.bg=on (b,l)/\(c=b\/c=l)then on 1 else on 0)else OZ)=on (k+2):=hc;split at f
  .split at f<;>cases f
  .cases f),λc k hc=>(by
  have f:(if F.A c then(if ∃b l,F.bg=on (b,l)/\(c=b\/c=l)then on 1 else on 0)else OZ)=on (k+2):=hc;split at f
  .split at f<;>cases f
  .cases f),λi s e=>?_⟩,λa D=>?_,λa D=>?_,λa D=>?_⟩
 .have g:(if F.A a then(if ∃b l,F.bg=on (b,l)/\(a=b\/a=l)then on 1 else on 0)else OZ)≠(OZ:a0H):=D
  split at g
  .assumption
  .exact PU rfl g
 .obtain⟨a1,a2,a3⟩:=fr.bgA b l e
  refine⟨?_,?_,a3⟩
  .show(if F.A b then(if ∃j l,F.bg=on (j,l)/\(b=j\/b=l)then on 1 else on 0)else OZ)≠(OZ:a0H)
   rw[Pc a1];split<;>simp
  .show(if F.A l then(if ∃j o,F.bg=on (j,o)/\(l=j\/l=o)then on 1 else on 0)else OZ)≠(OZ:a0H)
   rw[Pc a2];split<;>simp
 .obtain⟨a1,a2,a3⟩:=fr.bgA b l e
  exact⟨by rw[Pc a1,Pc ⟨b,l,e,.inl rfl⟩],by rw[Pc a2,Pc ⟨b,l,e,.inr rfl⟩]⟩
 .unfold o4 fU
  rw[PR,PR,OY,OY,Rt,Rt,E.length]
 .unfold o4 at e
  unfold fU;rw[VW,OY]at e;rw[VW,OY,<-E.length];by_cases m:i<VX u
  .rw[Pc m,O9]at e
   rw[Pc m,O9];cases z:u[i]? with
   |none=>rw[z]at e;cases e
   |some d=>
    rw[z]at e;cases e;obtain⟨v,q,r⟩:=E.get z;refine⟨v,by rw[q];rfl,?_⟩;have n:Tr F H (ej (λa=>if F.A a then(if ∃b l,F.bg=on (b,l)/\(a=b\/a=l)then on 1 else on 0)else OZ) F.bg) H:=by
     refine⟨λa D _ t=>?_,λ_ _ _ h=>h,rfl⟩;have p:(if F.A a then(if ∃b l,F.bg=on (b,l)/\(a=b\/a=l)then on 1 else on 0)else OZ)≠(OZ:a0H):=t;rw[Pd D]at p;exact p rfl
    exact c4.tr n _ _ r
  .rw[Pd m,R3]at e
   split at e<;>cases e
 .simp only[Pc D]
  split
  .exact .inr rfl
  .exact .inl rfl
 .simp only at D
  split at D
  .split at D
   .assumption
   .cases D
  .cases D
 .simp only at D
  split at D
  .assumption
  .exact PU rfl D
variable{P:P6}{w:Qb}{mg:a0i}{X:Qt}
theorem J7{st:QD}{N M:a0h}(F:hW K x qual st f fd)(S:b5 N M<|ae st)
  (y:∀(j:Pb) (A:Qy) (D:a0D) (s:Pe) (H:Hp) (E:XK),ee k (A.deeper<|Ud qual (ae st) s.heap.objs.size f j)->
   PSs (dm (f0 P w) P w K mg X N qual (ae st) f j A D s H E) (cF st) (tG K H g (λ_=>E))):en P w K mg X (f0 P w) (k+1) f fd M (KX K (VX M)<|d8 (VX N) g):=by
 refine F.okE S (λvs H Q E h=>h.1) λj A D s H vs Q E Y h=>?_;obtain⟨hl,p,V,β,fr,hd,r,i,e,h⟩:=h;refine⟨_,y j A D s H E Y,?_⟩;obtain⟨B,ok,T,Z,hn⟩:=vi (N:=N) fr hd;have I:∀{u:Ow} {c:Hp},hU B H u c->Fr (ej u p.bg) c i->To p H c i/\Tr (ej u p.bg) c p c:=λ{u c} s m=>by
  have hs:∀a,p.A a->u a≠OZ:=λa G=>by
   rw[s.tg a<|T a G];rcases T a G with z|z<;>rw[z]<;>simp
  refine⟨⟨λa o G n=>s.kp a o G ?_,λa G=>m.occ a<|hs a G,λb l e=>fr.bgA b l e,m.bag⟩,λa G _ z=>G<|hs a z,λ_ _ _ h=>h,rfl⟩;cases q:B a with
  |none=>exact .inl rfl
  |some t=>
   have:=T a (hn a<|by rw[q];simp);rcases this with z|z
   .rw[q]at z;exact .inr z
   .obtain⟨b,l,e,w⟩:=Z a z
    obtain⟨n1,n2⟩:=n b l e;rcases w with w|w
    .exact PU w n1
    .exact PU w n2
 unfold d8 at e;split at e
 .rename_i d β1 O
  cases e;refine⟨B,p.bg,o4 (VX N) V,β,.rt d,i,ok,O,λv u c s m hv=>?_⟩;obtain⟨R,U⟩:=I s m;exact h v c R<|c4.tr U _ _ hv
 .rename_i J β1 O
  cases e;refine⟨B,p.bg,o4 (VX N) V,β,.nx J,i,ok,O,λW u c s L=>?_⟩;obtain⟨R,U⟩:=I s L.fr;exact h _ c R rfl
 .rename_i C J β1 O
  cases e;refine⟨B,p.bg,o4 (VX N) V,β,.ex C J,i,ok,O,λW u c s L=>?_⟩;obtain⟨R,U⟩:=I s L.fr;exact h c R
 .cases e
variable{u:P6}{A:Qy}
theorem OT(j:A.handled=OZ)(G t:O7)(P:t≠G)(D:a0I):XT u w A G [G,t] D.size (λi v=>D[i]?=on v) (λi h=>h.IsTupleIter G t i/\h.IsTuple t D) where
 live:=λ_ _ st=>let ⟨o,e,_⟩:=st.1;⟨o,e⟩
 frame:=λ_ _ _ st k=>⟨st.1.at λo e=>k G (by simp) o e,by
  obtain⟨o,e,r⟩:=st.2;exact⟨o,k t (by simp) o e,r⟩⟩
 item:=λi s Q E n st p=>by
  obtain⟨o,c,K,b⟩:=id st.1;obtain⟨l,d,_,M,f⟩:=st.2;have g:D[i]?=on D[i]:=by simp[n]
  unfold Rx;refine My<|wpAny_callSpecial?_slot (name:=QT "__next__") st.1.typeIs Tw<|Qr Tw st.1.typeIs XU ?_<|XF _;show Pq _ _ (ZH (.ref G) 0>>=_) _ _ _;refine My<|QY c b (x:= .ref t) rfl ?_;show Pq _ _ (if(Pw t==Qn)=O6 then _ else _) _ _ _;rw[Pd (show ¬((Pw t==Qn)=O6)from Pf)];show Pq _ _ (ZH (.ref G) 1>>=_) _ _ _;refine My<|QY c b (x:= .int i 0) rfl ?_;show Pq _ _ (seqItems? (.ref t)>>=_) _ _ _;refine My<|RA d f ?_;simp only[Ra,g];refine My<|Sw c b (by simp)<|O0 ⟨D[i],rfl,O0<|p _ _ s.toks g ⟨?_,?_⟩<|Rb ..⟩
  .exact⟨_,Rh _ c<|Tc<|Q1 b _,(WR ..).trans K,by rw[Q1 b];simp[Tq]⟩
  .exact⟨l,(Rb ..).extBut _ _ P d,by assumption,M,f⟩
 done:=λs Q E st q=>by
  obtain⟨o,c,K,b⟩:=id st.1;obtain⟨l,d,_,M,f⟩:=st.2;have g:D[D.size]?=OZ:=by simp
  unfold Rx;refine My<|wpAny_callSpecial?_slot (name:=QT "__next__") st.1.typeIs Tw<|Qr Tw st.1.typeIs XU ?_<|XF _;show Pq _ _ (ZH (.ref G) 0>>=_) _ _ _;refine My<|QY c b (x:= .ref t) rfl ?_;show Pq _ _ (if(Pw t==Qn)=O6 then _ else _) _ _ _;rw[Pd (show ¬((Pw t==Qn)=O6)from Pf)];show Pq _ _ (ZH (.ref G) 1>>=_) _ _ _;refine My<|QY c b (x:= .int D.size 0) rfl ?_;show Pq _ _ (seqItems? (.ref t)>>=_) _ _ _;refine My<|RA d f ?_;simp only[Ra,g];refine My<|Tf<|My<|Sw c b (by simp) ?_;show Pq _ _ (Z2 (.type "StopIteration") []>>=_) _ _ _;refine My ?_;simp only[Z2,newTuple];refine My (QP ?_<|by size_fits);refine My (m:=Uk _ _)<|TF (a:=Qn) (by first|rfl|(simp only[Uk];rfl)) ?_;refine QP ?_ (by size_fits)
  simp only[raiseNew];refine My<|Zo ?_
  first|rw[show A.in1.handled=OZ from j]|rw[j];skip
  refine My<|O0<|wpAny_throw ?_;exact q _ _ (((Rb ..).extBut.push _).push _) ⟨_,Px _ rfl,rfl⟩
structure Ap (z TI TO i1 i2:O7) (f1 f2:a0q):Prop where
 a1:TI≠z
 a2:TO≠z
 a3:i1≠z
 a4:i2≠z
 a5:TI≠TO
 a6:TI≠i1
 a7:TI≠i2
 a8:TO≠i1
 a9:TO≠i2
 b1:i1≠i2
 c1:z∉f1
 c2:TO∉f1
 c3:i2∉f1
 d1:z∉f2
 d2:TO∉f2
 d3:i1∉f2
 m1:i1∈f1
 m2:i2∈f2
end
section
variable{prog:P6}{w:Qb}{A:Qy}{E:a0d}{s:Pe}
theorem cB{s:O7}{f:a0q}{h w:Qt}(a:P7 s h w)(n:s∉f):∀b∈f,∀o,h.get? b=on o->w.get? b=on o:=λb c o e=>a.extBut b o (λq=>n<|q▸c) e
theorem AL{z TI TO r t:O7}{f1 f2:a0q}{u B k:Nat}{P1 P2:Nat->Pb->Prop}{W X:Nat->Qt->Prop}{a b:Pb}{Q:a0d}(L:XT prog w A r f1 u P1 W)(N:XT prog w A t f2 B P2 X)(d:Ap z TI TO r t f1 f2)
  (P:Vx s.heap z TI TO .none) (eI:SX s.heap TI (.ref r)<|.ref t) (eO:SX s.heap TO a b) (s1:W k s.heap) (s2:X k s.heap) (k1:k<u) (k2:k<B)
  (hQ:∀D tk x y,P1 k x->P2 k y->Vx D z TI TO (Tq s.heap.objs.size)->SX D TO x y->W (k+1) D->X (k+1) D->SX D s.heap.objs.size x y->D.objs.size=s.heap.objs.size+1->(∀c o,c≠z->c≠TO->c≠r->c≠t->s.heap.get? c=on o->D.get? c=on o)->Q (.ref s.heap.objs.size) {s with heap:=D,toks:=tk}):
  Pq (PM prog w) A (Builtin.«zip.__next__» ⟨[.ref z],[]⟩) (λZ s'=>∃v,Z= .done (.ret v)/\Q v s') E s:=by
 obtain⟨G,gg,dd,af,os⟩:=s;show Pq _ _ (ZH (.ref z) 2>>=_) _ _ _;refine My<|QY P rfl (x:= .bool O8) rfl ?_;show Pq _ _ (ZH (.ref z) 3>>=_) _ _ _;refine My<|QY P rfl (x:= .ref TI) rfl ?_;refine My<|RA eI rfl ?_;show Pq _ _ (RQ (.ref z)>>=_) _ _ _;refine My ?_;unfold RQ;refine My<|QY P rfl (x:= .none) rfl<|O0 ?_;simp only[Qs];refine My<|Tf ?_;refine My<|QY P rfl (x:= .ref TO) rfl ?_;refine My<|Rf P (by simp) λK C g=>?_
 replace C:Vx K z TI TO .ellipsis:=C
 replace g:P7 z G K:=g
 refine My ?_;simp only[List.zipIdx_cons,List.zipIdx_nil,Su,SL];refine My<|My<|VL ?_;show Pq _ _ (Rx (.ref r)>>=_) _ _ _;refine My<|L.item k _ _ _ k1 (L.frame _ _ _ s1<|cB g d.c1) λx M ag px S h=>O0 ?_
 replace h:P7 r K M:=h
 have R:SX M TO a b:=h.extBut _ _ d.a8<|g.extBut _ _ d.a2 eO;refine My<|RA R rfl ?_;refine My<|WG R λV F i=>?_
 replace F:SX V TO x b:=F
 replace i:P7 TO M V:=i
 refine My<|WD<|O0 ?_;refine My<|My<|VL ?_;show Pq _ _ (Rx (.ref t)>>=_) _ _ _;refine My<|N.item k _ _ _ k2 (N.frame _ _ _ (N.frame _ _ _ (N.frame _ _ _ s2<|cB g d.d1)<|cB h d.d3)<|cB i d.d2) λy g4 ah py aa j=>O0 ?_
 replace j:P7 t V g4:=j
 have T:SX g4 TO x b:=j.extBut _ _ d.a9 F;refine My<|RA T rfl ?_;refine My<|WG T λf m l=>?_
 replace m:SX f TO x y:=m
 replace l:P7 TO g4 f:=l
 refine My<|WD<|O0<|O0 ?_;refine My<|RA m rfl ?_;refine My<|WF ?_;have zs:f.objs.size=G.objs.size:=by rw[l.1,j.1,i.1,h.1,g.1]
 have U:Vx f z TI TO .ellipsis:=l.extBut _ _ d.a2.symm<|j.extBut _ _ d.a4.symm<|i.extBut _ _ d.a2.symm<|h.extBut _ _ d.a3.symm C;have ab:∀c o,c≠z->c≠TO->c≠r->c≠t->G.get? c=on o->f.get? c=on o:=λc o u B n3 n4 e=>l.extBut _ _ B<|j.extBut _ _ n4<|i.extBut _ _ B<|h.extBut _ _ n3<|g.extBut _ _ u e;have ac:W (k+1) f:=L.frame _ _ _ (L.frame _ _ _ (L.frame _ _ _ S<|cB i d.c2)<|cB j d.c3)<|cB l d.c2;have ad:X (k+1) f:=N.frame _ _ _ aa<|cB l d.d2;have zl:z<f.objs.size:=PQ U;show Pq _ _ (UJ (.ref z) (.ref f.objs.size)>>=_) _ _ _;refine My ?_;unfold UJ;have ae:Vx (f.push {cls:= .type "tuple",data:= .seq #[x,y]}) z TI TO .ellipsis:=O3 _ U;refine My<|Rf ae (by simp) λg7 H I=>?_
 replace H:Vx g7 z TI TO (Tq f.objs.size):=H
 refine Rf H (by simp) λO p J=>?_
 replace p:Vx O z TI TO (Tq f.objs.size):=p
 have Y:∀c o,c≠z->f.get? c=on o->O.get? c=on o:=λc o n e=>J.extBut _ _ n<|I.extBut _ _ n<|O3 _ e;have eT:SX O f.objs.size x y:=J.extBut _ _ (Sd zl)<|I.extBut _ _ (Sd zl)<|Px _ rfl;have z8:O.objs.size=f.objs.size+1:=by rw[J.1,I.1,QZ]
 rw[zs]at p eT z8;refine O0 ⟨_,rfl,?_⟩;show Q (.ref f.objs.size) ⟨O,gg,dd,_,os⟩;rw[zs];exact hQ O _ x y px py p (Y _ _ d.a2 m) (L.frame _ _ _ ac λb hb o e=>Y b o (λq=>d.c1<|q▸hb) e) (N.frame _ _ _ ad λb hb o e=>Y b o (λq=>d.d1<|q▸hb) e) eT z8 λc o u B n3 n4 e=>Y c o u<|ab c o u B n3 n4 e
theorem Fq{z TI TO n r:O7}{f1 f2:a0q}(H:XT prog w A n f1 m P1 S1)(I:XT prog w A r f2 R P2 S2)(i:Ap z TI TO n r f1 f2)
  (u:Vx s.heap z TI TO .none) (X:SX s.heap TI (.ref n)<|.ref r) (Y:SX s.heap TO a b) (T:S1 k s.heap) (Z:S2 k s.heap) (D:k=m\/(k<m/\k=R))
  (U:∀G e K,(∀c o,c≠z->c≠TO->c≠n->c≠r->s.heap.get? c=on o->G.get? c=on o)->(∃o,G.get? e=on o/\o.cls= .type "StopIteration")->E (.ref e) {s with heap:=G,toks:=K}):
  Pq (PM prog w) A (Builtin.«zip.__next__» ⟨[.ref z],[]⟩) Q E s:=by
 obtain⟨M,gg,dd,S,os⟩:=s;show Pq _ _ (ZH (.ref z) 2>>=_) _ _ _;refine My<|QY u rfl (x:= .bool O8) rfl ?_;show Pq _ _ (ZH (.ref z) 3>>=_) _ _ _;refine My<|QY u rfl (x:= .ref TI) rfl ?_;refine My<|RA X rfl ?_;show Pq _ _ (RQ (.ref z)>>=_) _ _ _;refine My ?_;unfold RQ;refine My<|QY u rfl (x:= .none) rfl<|O0 ?_;simp only[Qs];refine My<|Tf ?_;refine My<|QY u rfl (x:= .ref TO) rfl ?_;refine My<|Rf u (by simp) λJ j f=>?_
 replace j:Vx J z TI TO .ellipsis:=j
 replace f:P7 z M J:=f
 refine My ?_;simp only[List.zipIdx_cons,List.zipIdx_nil,Su,SL];refine My<|My<|VL ?_;show Pq _ _ (Rx (.ref n)>>=_) _ _ _;rcases D with rfl|⟨D,rfl⟩
 .refine My (H.done _ _ _ (H.frame _ _ _ T<|cB f i.c1) λt e d N=>?_)
  replace d:WZ n J t:=d
  obtain⟨O,h,v⟩:=N;have y:Vx t z TI TO .ellipsis:=d _ _ i.a3.symm j;have p:e≠z:=λq=>by subst q;rw[y]at h;cases h;simp at v
  exact Rf y (by simp) λL _ g=>U L e _ (λc o m _ P _ q=>g.extBut _ _ m<|d _ _ P<|f.extBut _ _ m q) ⟨O,g.extBut _ _ p h,v⟩
 .refine My (H.item k _ _ _ D (H.frame _ _ _ T<|cB f i.c1) λx t V px aa d=>O0 ?_)
  replace d:P7 n J t:=d
  have B:SX t TO a b:=d.extBut _ _ i.a8<|f.extBut _ _ i.a2 Y;refine My<|RA B rfl ?_;refine My<|WG B λL ab g=>?_
  replace g:P7 TO t L:=g
  refine My<|WD<|O0 ?_;refine My<|My<|VL ?_;show Pq _ _ (Rx (.ref r)>>=_) _ _ _;refine My<|I.done _ _ _ (I.frame _ _ _ (I.frame _ _ _ (I.frame _ _ _ Z<|cB f i.d1)<|cB d i.d3)<|cB g i.d2) λW e l N=>?_
  replace l:WZ r L W:=l
  obtain⟨O,h,v⟩:=N;have C:Vx W z TI TO .ellipsis:=l _ _ i.a4.symm<|g.extBut _ _ i.a2.symm<|d.extBut _ _ i.a3.symm j;have p:e≠z:=λq=>by subst q;rw[C]at h;cases h;simp at v
  exact Rf C (by simp) λg5 _ F=>U g5 e _ (λc o m R P n4 q=>F.extBut _ _ m<|l _ _ n4<|g.extBut _ _ R<|d.extBut _ _ P<|f.extBut _ _ m q) ⟨O,F.extBut _ _ p h,v⟩
theorem AK{z TI TO e f:O7}{f1 f2:a0q}(i:∀d:Qy,d.handled=A.handled->XT prog w d e f1 J P1 S1)(j:∀d:Qy,d.handled=A.handled->XT prog w d f f2 n2 P2 S2)(l:Ap z TI TO e f f1 f2)
  (h:Vx s.heap z TI TO .none) (m:SX s.heap TI (.ref e)<|.ref f) (n:SX s.heap TO a b) (p:S1 k s.heap) (q:S2 k s.heap) (K:k<J) (M:k<n2)
  (r:∀D g x y,P1 k x->P2 k y->Vx D z TI TO (Tq s.heap.objs.size)->SX D TO x y->S1 (k+1) D->S2 (k+1) D->SX D s.heap.objs.size x y->D.objs.size=s.heap.objs.size+1->(∀c o,c≠z->c≠TO->c≠e->c≠f->s.heap.get? c=on o->D.get? c=on o)->Q (on<|.ref s.heap.objs.size) {s with heap:=D,toks:=g}):
  Pq (PM prog w) A (Ul<|.ref z) Q E s:=by
 have G:s.TypeIs (.ref z) "zip":=⟨_,h,rfl⟩;unfold Ul;exact My<|T8<|wpAny_callSpecial?_slot (name:=QT "__next__") G VV<|Qr VV G F.entry_zip_next (AL (i _ rfl) (j _ rfl) l h m n p q K M λD g x y S V t u v B C H I=>O0<|r D g x y S V t u v B C H I)<|F.args_zip_next_1 _
theorem Fp{z TI TO f g:O7}{f1 f2:a0q}(j:∀d:Qy,d.handled=A.handled->XT prog w d f f1 x P1 S1)(l:∀d:Qy,d.handled=A.handled->XT prog w d g f2 n2 P2 S2)(m:Ap z TI TO f g f1 f2)
  (h:Vx s.heap z TI TO .none) (n:SX s.heap TI (.ref f)<|.ref g) (p:SX s.heap TO a b) (q:S1 k s.heap) (r:S2 k s.heap) (K:k=x\/(k<x/\k=n2))
  (t:∀D i,(∀c o,c≠z->c≠TO->c≠f->c≠g->s.heap.get? c=on o->D.get? c=on o)->Q OZ {s with heap:=D,toks:=i}):Pq (PM prog w) A (Ul<|.ref z) Q E s:=by
 have G:s.TypeIs (.ref z) "zip":=⟨_,h,rfl⟩;unfold Ul;refine My<|T8<|wpAny_callSpecial?_slot (name:=QT "__next__") G VV<|Qr VV G F.entry_zip_next (Fq (j _ rfl) (l _ rfl) m h n p q r K λD e i u v=>?_)<|F.args_zip_next_1 _;obtain⟨o,y,B⟩:=v;refine My<|Sk (T:="StopIteration") (b:=O6) ⟨o,y,B⟩ YH ?_;exact O0<|t _ _ u
def B4(b:Bool)(h:Qt)(a:O7)(s:a0I):Prop:=if b=O6 then h.IsList a s else h.IsTuple a s
noncomputable def Ik(b:Bool):String:=if b=O6 then "list_iterator"else "tuple_iterator"
noncomputable abbrev qE(b:Bool)(a:O7):QS:={cls:= .type<|Ik b,data:= .fields #[.ref a,.int 0 0]}
def gG(b:Bool)(h:Qt)(s a:O7)(k:Nat):Prop:=if b=O6 then h.IsListIter s a k else h.IsTupleIter s a k
theorem B4.keep{b:Bool}{h h':Qt}(x:B4 b h a c)(k:∀o,h.get? a=on o->h'.get? a=on o):B4 b h' a c:=by
 unfold B4 at x⊢;split at x
 .rename_i q;rw[Pc q];exact x.at λo e=>k o e
 .rename_i q;rw[Pd q]
  obtain⟨o,e,r⟩:=x;exact⟨o,k o e,r⟩
theorem qm{b:Bool}(x:B4 b s.heap a c)(h:Q (.ref s.heap.objs.size) {s with heap:=s.heap.push (qE b a)}):Pq (PM prog w) A (WB<|.ref a) Q E s:=by
 cases b with
 |true=>exact VB (show s.heap.IsList a c from x) h
 |false=>exact W5 (show s.heap.IsTuple a c from x) h
theorem uS(b:Bool)(c:A.handled=OZ)(D a:O7)(E:a≠D)(s:a0I):XT prog w A D [D,a] s.size (λi v=>s[i]?=on v) (λi h=>gG b h D a i/\B4 b h a s):=by
 cases b with
 |true=>exact Y3 c D a E s
 |false=>exact OT c D a E s
abbrev zH1(s:Bool)(h:Qt)(w:O7):Qt:=h.push<|qE s w
abbrev zH2(s a:Bool)(h:Qt)(w b:O7):Qt:=(zH1 s h w).push<|qE a b
abbrev zH3(s a:Bool)(h:Qt)(w b:O7):Qt:=(zH2 s a h w b).push {cls:= .type "tuple",data:= .seq #[.ref h.objs.size,.ref (zH1 s h w).objs.size]}
abbrev zH4(s a:Bool)(h:Qt)(w b:O7):Qt:=(zH3 s a h w b).push {cls:= .type "tuple",data:= .seq #[.none,.none]}
abbrev zH5(s a:Bool)(h:Qt)(w b:O7):Qt:=(zH4 s a h w b).push {cls:= .type "zip",data:= .fields #[.none,.bool O8,.bool O8,.ref (zH2 s a h w b).objs.size,.ref (zH3 s a h w b).objs.size]}
theorem zu(E b:Bool)(D a:O7)(G K:a0I):
  Meets (Builtin.«zip.__new__» ⟨[.type "zip",.ref D,.ref a],[]⟩) (λ_ R s=>B4 E s.heap D G/\B4 b s.heap a K/\R (.ok<|.ret<|.ref (zH4 E b s.heap D a).objs.size) {s with heap:=zH5 E b s.heap D a}):=
 .of_wp λprog w A R s h=>by
  obtain⟨c,g,d,f,M⟩:=s;obtain⟨j,k,q⟩:=h;have i:=sub_zip;have l:B4 E (Shared.heap ⟨c,g,d,f,M⟩) D G:=j;have m:B4 b (Shared.heap ⟨c.push<|qE E D,g,d,f,M⟩) a K:=k.keep λo e=>O3 _ e
  wp_walk using qm l,qm m
  exact⟨_,rfl,q⟩
theorem E7{D d:Bool}(r:B4 D s.heap y B)(t:B4 d s.heap z C)
  (h:∀G,Vx G (s.heap.objs.size+4) (s.heap.objs.size+2) (s.heap.objs.size+3) .none->SX G (s.heap.objs.size+2) (.ref s.heap.objs.size) (.ref<|s.heap.objs.size+1)->SX G (s.heap.objs.size+3) .none .none->gG D G s.heap.objs.size y 0->gG d G (s.heap.objs.size+1) z 0->G.objs.size=s.heap.objs.size+5->(∀c o,s.heap.get? c=on o->G.get? c=on o)->Q (.ref<|s.heap.objs.size+4) {s with heap:=G}):
  Pq (PM prog w) A (VI (.type "zip") [.ref y,.ref z]) Q E s:=by
 refine callType_new F.called_zip (by decide) (F.typeCall_zip_2 _ _) (F.newCall_zip_2 _ _) (λK=>F.args_object_init_3 K _ _) F.entry_zip_new (zu D d y z B C) ⟨r,t,?_⟩;have g:(zH1 D s.heap y).objs.size=s.heap.objs.size+1:=QZ ..;have i:(zH2 D d s.heap y z).objs.size=s.heap.objs.size+2:=by rw[QZ,g]
 have j:(zH3 D d s.heap y z).objs.size=s.heap.objs.size+3:=by rw[QZ,i]
 have k:(zH4 D d s.heap y z).objs.size=s.heap.objs.size+4:=by rw[QZ,j]
 have u:(zH5 D d s.heap y z).objs.size=s.heap.objs.size+5:=by rw[QZ,k]
 have l:(zH5 D d s.heap y z).get? (zH4 D d s.heap y z).objs.size=on _:=Px _ rfl;have m:(zH5 D d s.heap y z).get? (zH3 D d s.heap y z).objs.size=on _:=O3 _<|Px _ rfl;have n:(zH5 D d s.heap y z).get? (zH2 D d s.heap y z).objs.size=on _:=O3 _<|O3 _<|Px _ rfl;have q:(zH5 D d s.heap y z).get? (zH1 D s.heap y).objs.size=on _:=O3 _<|O3 _<|O3 _<|Px _ rfl;have v:(zH5 D d s.heap y z).get? s.heap.objs.size=on _:=O3 _<|O3 _<|O3 _<|O3 _<|Px _ rfl;show _/\_;rw[i,j,k]at l;rw[g,i]at n;rw[j]at m;rw[g]at q;rw[k];have f:∀(b:Bool) (G:Qt) (p a:O7),G.get? p=on (qE b a)->gG b G p a 0:=λb G p a e=>by
  cases b with
  |true=>exact⟨_,e,rfl,rfl⟩
  |false=>exact⟨_,e,rfl,rfl⟩
 exact⟨⟨_,l,rfl⟩,h _ l n m (f _ _ _ _ v) (f _ _ _ _ q) u λc o x=>O3 _<|O3 _<|O3 _<|O3 _<|O3 _ x⟩
def v_(b:Bool)(K:Pz)(H:Hp)(a:O7)(s:a0j):Prop:=if b=O6 then eX K H a s else iv K H a s
noncomputable def Itz(A a:Bool)(K:Pz)(D b:O7):It:=
 ⟨λi H=>∃s w x y,v_ A K H D s/\v_ a K H b w/\s[i]?=on x/\w[i]?=on y,
  λi H v c=>∃p x y,H p=OZ/\v= .r p/\c=upd H p (.t [x,y])/\∀s w,v_ A K H D s->v_ a K H b w->s[i]?=on x/\w[i]?=on y,
  λi H=>∃s w,v_ A K H D s/\v_ a K H b w/\(VX s=i\/(i<VX s/\VX w=i))⟩
variable{X:Cx}{A:a0b}{σ:St}{H:Hp}
theorem cx.r4{b:Bool}(I:cx X A σ H s)(h:v_ b X.K H a c):∃w:a0g,au c w/\B4 b s.heap a w.toArray:=by
 cases b with
 |true=>
  obtain⟨w,r,p,_⟩:=I.list (show eX X.K H a c from h);exact⟨w,r,p.isList⟩
 |false=>
  obtain⟨w,r,p,_⟩:=I.tuple (show iv X.K H a c from h);exact⟨w,r,p⟩
theorem cx.j9{b:Bool}(I:cx X A σ H s)(h:v_ b X.K H a c)(w:v_ b X.K H a d):c=d:=by
 cases b with
 |true=>exact I.list_inj (show eX X.K H a c from h) w
 |false=>exact I.tuple_inj (show iv X.K H a c from h) w
theorem gG.get{b:Bool}{h:Qt}(x:gG b h f a k):∃o,h.get? f=on o/\o.cls= .type (Ik b)/\∃s,o.data= .fields s:=by
 cases b with
 |true=>obtain⟨o,e,c,d⟩:=(show h.IsListIter f a k from x);exact⟨o,e,c,_,d⟩
 |false=>obtain⟨o,e,c,d⟩:=(show h.IsTupleIter f a k from x);exact⟨o,e,c,_,d⟩
theorem gG.keep{b:Bool}{h h':Qt}(x:gG b h c a k)(q:∀o,h.get? c=on o->h'.get? c=on o):gG b h' c a k:=by
 cases b with
 |true=>exact(show h.IsListIter c a k from x).at λo e=>q o e
 |false=>exact(show h.IsTupleIter c a k from x).at λo e=>q o e
theorem cx.j8{E:Qt}{t':Nat}{ch:a0q}{p:O7}{o:HO}(I:cx X A σ H s)(a:∀b∈ch,fM X A H b)(k:∀b u,b∉ch->s.heap.get? b=on u->E.get? b=on u)(d:s.heap.objs.size<=p)(G:bC X.p X.w (upd H p o) E p o):cx X A σ (upd H p o) {s with heap:=E,toks:=t'}:=by
 have D:H p=OZ:=I.hok.fresh d;have K:∀b u,H b=on u->b∉ch:=λb u e z=>by rw[(a b z).1]at e;cases e
 refine I.call' (s':={s with heap:=E,toks:=t'}) (ch:=ch) rfl ⟨λb u e _ _ hc=>k b u hc e,λb u e _ _ hc=>⟨u.slots,k b u hc e⟩,λb u e z hc=>?_,λb u e hc=>⟨u,k b u hc e⟩,λb M e=>?_,λb u M e=>?_,λb M e=>⟨#[],?_⟩⟩ (λb u e=>?_) I.bare λb f=>?_
 .rw[bb<|Qm<|PZ (PQ e) d];exact z
 .rw[bb<|bt e D];exact e
 .rw[bb<|bt e D];exact e
 .rw[bb<|bt e D,e];simp
 .by_cases z:b=p
  .subst z;rw[aj]at e;cases e;exact G
  .rw[bb z]at e
   refine(I.hok b u e).stay (λc v hc q=>k c v ?_ q) (λc q=>by rw[bb<|bt q D];exact q) λc S q=>by rw[bb<|bt q D];exact q
   rcases hc with rfl|hc
   .exact K _ _ e
   .exact K _ _ hc
 .obtain⟨j,f1,f2,g,h,i⟩:=a b f
  exact⟨g,f1,h,i⟩
theorem cx.l8{w:Qt}{ch:a0q}(I:cx X A σ H s)(a:∀b∈ch,fM X A H b)(k:∀b u,b∉ch->s.heap.get? b=on u->w.get? b=on u):cx X A σ H {s with heap:=w,toks:=t'}:=by
 have D:∀b u,H b=on u->b∉ch:=λb u e z=>by rw[(a b z).1]at e;cases e
 refine I.call' (s':={s with heap:=w,toks:=t'}) (ch:=ch) rfl ⟨λb u e _ _ hc=>k b u hc e,λb u e _ _ hc=>⟨u.slots,k b u hc e⟩,λb u e z hc=>z,λb u e hc=>⟨u,k b u hc e⟩,λb E e=>e,λb u E e=>e,λb E e=>⟨#[],by rw[e];simp⟩⟩ (λb u e=>?_) I.bare λb d=>?_
 .refine(I.hok b u e).stay (λc v hc q=>k c v ?_ q) (λc q=>q) λc G q=>q
  rcases hc with rfl|hc
  .exact D _ _ e
  .exact D _ _ hc
 .obtain⟨i,f1,f2,f,g,h⟩:=a b d
  exact⟨f,f1,g,h⟩
theorem cx.f5{b:Bool}(I:cx X A σ H s)(h:v_ b X.K H a l)(f:fM X A H c):a≠c:=by
 obtain⟨i,f1,f2,f3,j,k⟩:=f;have d:∀o,X.K.lookup a=on o->a≠c:=λo e z=>by
  have g:=I.ok.mod.kin a o e;subst z;rcases f3 with f3|f3
  .exact I.ok.noex a o g f3
  .exact PU (PZ (PQ (I.ok.bs a o g).1) f3) (Qw _)
 have w:∀u,Rd H a u->a≠c:=λu r z=>by
  subst z;rcases r with r|⟨_,r⟩<;>rw[i]at r<;>cases r
 cases b with
 |true=>
  rcases(show eX X.K H a l from h)with h|⟨o,_,_,e,_⟩
  .exact w _ h
  .exact d o e
 |false=>
  rcases(show iv X.K H a l from h)with h|⟨o,_,_,e,_⟩
  .exact w _ h
  .exact d o e
theorem FC{w:Qb}{K:Pz}{x1}(b1 Z:Bool)(M B z TI TO f g:O7)(nd:[z,TI,TO,f,g].Nodup):
  oa P w K (.Tuple elts x1 pos) (Itz b1 Z K M B) [z,TI,TO,f,g] z (λi h=>Vx h z TI TO .none/\SX h TI (.ref f) (.ref g)/\(∃a b,SX h TO a b)/\gG b1 h f M i/\gG Z h g B i) where
 mem:=by simp
 obj:=λi h G b j=>by
  obtain⟨n,p,⟨a,b',C⟩,F,J⟩:=G;simp only[Pr,Q5,Ue]at j;rcases j with rfl|rfl|rfl|rfl|rfl
  .exact⟨_,n,λv q=>by cases q⟩
  .exact⟨_,p,λv q=>by cases q⟩
  .exact⟨_,C,λv q=>by cases q⟩
  .obtain⟨o,e,_,fs,d⟩:=F.get
   exact⟨o,e,λv q=>by rw[d]at q;cases q⟩
  .obtain⟨o,e,_,fs,d⟩:=J.get
   exact⟨o,e,λv q=>by rw[d]at q;cases q⟩
 keep:=λi h D G k=>by
  obtain⟨n,p,⟨a,b',C⟩,F,J⟩:=G;exact⟨k z (by simp) _ n,k TI (by simp) _ p,⟨a,b',k TO (by simp) _ C⟩,F.keep λo e=>k f (by simp) o e,J.keep λo e=>k g (by simp) o e⟩
 item:=by
  intro X hP hw hK hc i A s σ H E I L G hg;subst hP hw hK;obtain⟨xs,ys,x,y,S,V,hx,hy⟩:=hg;obtain⟨n,p,⟨a,b',C⟩,F,J⟩:=G;obtain⟨l,r1,p1⟩:=cx.r4 I S;obtain⟨m,r2,p2⟩:=cx.r4 I V;have hd:=I.ok.hd hc;simp only[Qi,Pr,Q5,Ue,not_or]at nd;obtain⟨⟨U,z2,R,T⟩,⟨t1,t2,t3⟩,⟨W,o2⟩,O,_⟩:=nd;have r:∀c∈[z,TI,TO,f,g],M≠c:=λc hc=>cx.f5 I S<|L c hc;have t:∀c∈[z,TI,TO,f,g],B≠c:=λc hc=>cx.f5 I V<|L c hc;have ap:Ap z TI TO f g [f,M] [g,B]:=⟨Ne.symm U,Ne.symm z2,Ne.symm R,Ne.symm T,t1,t2,t3,W,o2,O,by simp[R,(r z<|by simp).symm],by simp[W,(r TO<|by simp).symm],by simp[Ne.symm O,(r g<|by simp).symm],by simp[T,(t z<|by simp).symm],by simp[o2,(t TO<|by simp).symm],by simp[O,(t f<|by simp).symm],by simp,by simp⟩;have k1:i<l.toArray.size:=by
   rw[PH,<-r1.length];exact(Pl.mp hx).1
  have k2:i<m.toArray.size:=by
   rw[PH,<-r2.length];exact(Pl.mp hy).1
  refine AK (λA' D=>uS b1 (D.trans hd) f M (r f<|by simp) l.toArray) (λA' D=>uS Z (D.trans hd) g B (t g<|by simp) m.toArray) ap n p C ⟨F,p1⟩ ⟨J,p2⟩ k1 k2 λD tk u v pu pv fz fO f1 f2 fT sz kp=>?_;refine⟨_,rfl,wpAny_letOwnedTupleGo_zip (s:={s with heap:=D,toks:=tk}) fz λQ Y N=>?_⟩
  replace N:P7 z D Q:=N
  have zT:s.heap.objs.size≠z:=Sd<|PQ n;obtain⟨u',hu,ru⟩:=r1.get hx;obtain⟨v',hv,rv⟩:=r2.get hy;have eu:u=u':=by
   have:l[i]?=on u:=by simpa using pu
   rw[this]at hu;exact P3 hu
  have ev:v=v':=by
   have:m[i]?=on v:=by simpa using pv
   rw[this]at hv;exact P3 hv
  subst eu ev;have kk:∀b o,b∉[z,TI,TO,f,g]->s.heap.get? b=on o->Q.get? b=on o:=λb o j e=>by
   simp only[Pr,Q5,Ue,not_or]at j;exact N.extBut b o j.1<|kp b o j.1 j.2.2.1 j.2.2.2.1 j.2.2.2.2 e
  have I2:cx X A σ (upd H s.heap.objs.size<|.t [x,y]) {s with heap:=Q,toks:=tk}:=by
   refine cx.j8 I L kk (Pg _) ⟨by show 2<=Ps;decide,[u,v],.cons ru<|.cons rv .nil,_,N.extBut _ _ zT fT,rfl,_,rfl⟩
  refine⟨.r s.heap.objs.size,_,I2,rfl,⟨s.heap.objs.size,x,y,I.hok.fresh<|Pg _,rfl,rfl,λas bs h1 h2=>⟨by rw[cx.j9 I h1 S];exact hx,by rw[cx.j9 I h2 V];exact hy⟩⟩,⟨Y,?_,⟨u,v,?_⟩,?_,?_⟩,λb j=>?_⟩
  .exact N.extBut _ _ (Ne.symm U) (kp TI _ (Ne.symm U) t1 t2 t3 p)
  .exact N.extBut _ _ (Ne.symm z2) fO
  .exact f1.1.keep λo e=>N.extBut _ _ (Ne.symm R) e
  .exact f2.1.keep λo e=>N.extBut _ _ (Ne.symm T) e
  .rw[bb]
   .exact(L b j).1
   .intro q
    have ol:∃o,s.heap.get? b=on o:=by
     simp only[Pr,Q5,Ue]at j;rcases j with rfl|rfl|rfl|rfl|rfl
     .exact⟨_,n⟩
     .exact⟨_,p⟩
     .exact⟨_,C⟩
     .obtain⟨o,e,_⟩:=F.get;exact⟨o,e⟩
     .obtain⟨o,e,_⟩:=J.get;exact⟨o,e⟩
    obtain⟨o,e⟩:=ol;exact PU (PQ e) (by rw[q];exact Qw _)
 done:=by
  intro X hP hw hK hc i A s σ H E I L G hg;subst hP hw hK;obtain⟨xs,ys,S,V,hl⟩:=hg;obtain⟨n,p,⟨a,b',C⟩,F,J⟩:=G;obtain⟨l,r1,p1⟩:=cx.r4 I S;obtain⟨m,r2,p2⟩:=cx.r4 I V;have hd:=I.ok.hd hc;simp only[Qi,Pr,Q5,Ue,not_or]at nd;obtain⟨⟨U,z2,R,T⟩,⟨t1,t2,t3⟩,⟨W,o2⟩,O,_⟩:=nd;have r:∀c∈[z,TI,TO,f,g],M≠c:=λc hc=>cx.f5 I S<|L c hc;have t:∀c∈[z,TI,TO,f,g],B≠c:=λc hc=>cx.f5 I V<|L c hc;have ap:Ap z TI TO f g [f,M] [g,B]:=⟨Ne.symm U,Ne.symm z2,Ne.symm R,Ne.symm T,t1,t2,t3,W,o2,O,by simp[R,(r z<|by simp).symm],by simp[W,(r TO<|by simp).symm],by simp[Ne.symm O,(r g<|by simp).symm],by simp[T,(t z<|by simp).symm],by simp[o2,(t TO<|by simp).symm],by simp[O,(t f<|by simp).symm],by simp,by simp⟩;have g1:l.toArray.size=VX xs:=by rw[PH,<-r1.length]
  have g2:m.toArray.size=VX ys:=by rw[PH,<-r2.length]
  refine Fp (λA' D=>uS b1 (D.trans hd) f M (r f<|by simp) l.toArray) (λA' D=>uS Z (D.trans hd) g B (t g<|by simp) m.toArray) ap n p C ⟨F,p1⟩ ⟨J,p2⟩ ?_ λD tk kp=>⟨rfl,cx.l8 I L λb o j e=>?_⟩
  .rw[g1,g2]
   rcases hl with hl|⟨h1,h2⟩
   .exact .inl hl.symm
   .exact .inr ⟨h1,h2.symm⟩
  .simp only[Pr,Q5,Ue,not_or]at j
   exact kp b o j.1 j.2.2.1 j.2.2.2.1 j.2.2.2.2 e
 self:=λ_ _ _ _ _ G h=>wpAny_pyIter_zip G.1 h
end
section
variable{X:Cx}{E:a0r}{K:Pz}
def iZp(K:Pz)(d:TA):TI:=λe H R=>d e H λG a=>∃E c D b M S,G=[.r D,.r b]/\v_ E K a D M/\v_ c K a b S/\R (Itz E c K D b) a
theorem Lx{Y}(w:Gl X "zip")(S:X.mg "zip"=OZ)(V:PA X [a,b] Z)(T:Po [a,b] X.e=[(O8,Qz a X.e),(O8,Qz b X.e)]:=by rfl)(g:Po [b] X.e=[(O8,Qz b X.e)]:=by rfl):
  PI X (.Tuple z Y Q) (.Call (.Name "zip" p) [a,b] [] x) (iZp X.K Z):=by
 intro f s n H R I h;refine Call_ (fR I w S Boot.«zip»<|Re (d5 (V x f s n H _ I h) λus d ⟨vs,o,i,r1,D⟩=>?_) (by rw[T,g])<|by rw[g];rfl);obtain⟨E,t,G,u,xs,ys,e,D,U,q⟩:=D;subst e;cases r1 with
 |cons r k=>
  cases k with
  |cons y k=>
   cases k;cases r;cases y;obtain⟨A,O,B⟩:=cx.r4 i D;obtain⟨C,P,F⟩:=cx.r4 i U;refine E7 B F λM v J L l m sz W=>?_;refine wpAny_pyIter_zip (s:={d with heap:=M}) v ?_;have N:cx X f n o {d with heap:=M}:=i.kept (t':=d.toks) W;refine⟨_,[d.heap.objs.size+4,d.heap.objs.size+2,d.heap.objs.size+3,d.heap.objs.size,d.heap.objs.size+1],_,Itz E t X.K G u,o,rfl,N,FC E t G u (d.heap.objs.size+4) (d.heap.objs.size+2) (d.heap.objs.size+3) d.heap.objs.size (d.heap.objs.size+1) (by simp),⟨v,J,⟨_,_,L⟩,l,m⟩,λc hc=>?_,q⟩;have j:d.heap.objs.size<=c:=by
    simp only[Pr,Q5,Ue]at hc;rcases hc with rfl|rfl|rfl|rfl|rfl
    .exact Q7 _ _
    .exact Q7 _ _
    .exact Q7 _ _
    .exact Pg _
    .exact Q7 _ _
   exact i.fpOk j<|i.hok.fresh j
noncomputable def eJ:a0c->a0c->a0c
 |x::xs,y::ys=> .t [x,y]::eJ xs ys
 |_,_=>[]
theorem uY:∀(D E:a0c),VX (eJ D E)=UW (VX D) (VX E)
 |[],E=>by simp[eJ]
 |x::D,[]=>by simp[eJ]
 |x::D,y::E=>by
  show(eJ D E).length+1=_;rw[uY D E,Pt,Pt];lia
theorem uZ:∀{E G:a0c} {i:Nat} {d:D},(eJ E G)[i]?=on d->∃x y,E[i]?=on x/\G[i]?=on y/\d= .t [x,y]
 |[],G,i,d,h=>by simp[eJ]at h
 |x::E,[],i,d,h=>by simp[eJ]at h
 |x::E,y::G,0,d,h=>by
  simp[eJ]at h;exact⟨x,y,rfl,rfl,h.symm⟩
 |x::E,y::G,i+1,d,h=>by
  have K:(eJ E G)[i]?=on d:=by simpa[eJ]using h
  obtain⟨a,b,c,e,f⟩:=uZ K;exact⟨a,b,by simpa using c,by simpa using e,f⟩
def Fs:a0c->a0A
 |[a,b]=>(fV a).bind λD=>(fV b).map λE=>eJ D E
 |_=>OZ
theorem c4.sqS(h:c4 K F H d v)(e:fV d=on j):∃b a,v= .r a/\∀f c,Tr F H f c->∃D,v_ b K c a D/\br K f c j D:=by
 cases d<;>first
  |(cases e;obtain⟨a,D,rfl,_⟩:=c4.j6 h;refine⟨O6,a,rfl,λf c t=>?_⟩;obtain⟨i,E,g,G,M⟩:=c4.j6<|c4.tr t _ _ h;cases g;exact⟨E,G,M⟩)
  |(cases e;obtain⟨a,D,rfl,_⟩:=c4.f5 h;refine⟨O8,a,rfl,λf c t=>?_⟩;obtain⟨i,E,g,G,M⟩:=c4.f5<|c4.tr t _ _ h;cases g;exact⟨E,G,M⟩)
  |cases e
theorem JZ{G h:Bool}(o:∀b a,Tr F H b a->∃D,v_ G K a L D/\br K b a N D)(q:∀b a,Tr F H b a->∃D,v_ h K a O D/\br K b a P D):zv K (Itz G h K L O) F H (eJ N P):=λb a V t fr i=>by
 obtain⟨D,c,M⟩:=o b a t;obtain⟨E,e,S⟩:=q b a t;refine⟨λd X=>?_,λr=>?_⟩
 .obtain⟨x,y,f,g,rfl⟩:=uZ X
  obtain⟨u,j,s⟩:=M.get f;obtain⟨v,k,w⟩:=S.get g;refine⟨⟨D,E,u,v,c,e,j,k⟩,λz C A=>?_⟩;obtain⟨p,I,J,l,rfl,rfl,B⟩:=A;obtain⟨m,n⟩:=B D E c e;rw[j]at m;rw[k]at n;cases m;cases n;exact⟨bP.upd l,c4.l8 fr l<|br.cons s<|br.cons w br.f5⟩
 .rw[uY]at r
  have f:=M.length;have g:=S.length;refine⟨D,E,c,e,?_⟩;rw[<-f,<-g];lia
def zr(g:FL):FL:=bV Fs g
theorem uK{U}(o:Gl X "zip")(M:X.mg "zip"=OZ)(S:PA X [a,b]<|i_ X.K g E)(V:Po [a,b] X.e=[(O8,Qz a X.e),(O8,Qz b X.e)]:=by rfl)(i:Po [b] X.e=[(O8,Qz b X.e)]:=by rfl):
  PI X (.Tuple s U x) (.Call (.Name "zip" p) [a,b] [] W) (iV X.K (zr g) E):=
 (Lx o M S V i).imp λI H R j=>lm j λF z L fr q h=>⟨F,z,L,fr,q,(run.bind (R:=br X.K F) h).mono λY f j=>by
  obtain⟨Z,N,t,O,r1⟩:=j;obtain⟨l,e,k⟩:=run.j6 r1;unfold Fs at e;split at e
  .rename_i c d
   obtain⟨v,J,rfl,r,u⟩:=br.j9 O;cases D:fV c with
   |none=>rw[D]at e;cases e
   |some xs=>
    cases G:fV d with
    |none=>rw[D,G]at e;cases e
    |some ys=>
     rw[D,G]at e;cases e;obtain⟨P,Q,rfl,m⟩:=c4.sqS r D;obtain⟨w,y,rfl,n⟩:=c4.sqS u G;obtain⟨T,A,_⟩:=m F f<|Tr.refl F f;obtain⟨B,C,_⟩:=n F f<|Tr.refl F f;exact⟨P,w,Q,y,T,B,rfl,A,C,k _ f (To.refl t.fr)<|JZ m n⟩
  .cases e⟩
variable{a:List Expr}
end
section
variable{P:P6}{w:Qb}{K:Pz}{e:a0i}{d:Qt}{N:a0h}{c:Qa}{a:Scope}{f:O7}{g:Pb}{A:Qy}{b:a0D}{s:Pe}{H:Hp}{E:XK}
end
section
variable{X:Cx}{E:a0r}{K:Pz}
abbrev Gh:=O7->G
noncomputable def hNo:Gh:=λ_ _ _=>OZ
noncomputable def ww(K:Pz)(a:O7)(g:G)(r:Gh):Gh:=λC D E=>match exmOne K (.ref C) (.ref a)with
 |some O6=>g D E
 |some O8=>r C D E
 |none=>OZ
def tH(K:Pz)(D:Hp)(g:Gh)(E:a0r):O7->TS:=λC=>tG K D (g C) E
theorem _root_.L2.PHd.imp{X:Cx}(h:PHd X d t)(f:∀C D a H,e C D a H->t C D a H):PHd X d e:=λb a G H c s E x C D I F q=>h b a G H c s E x C D I F<|f C D a H q
theorem OK:PHd X [] (tH X.K X.H₀ hNo E):=Jx.imp λC D c H a=>by obtain⟨B,G,M,S,o,b,ok,e,q⟩:=a;cases e
theorem MB{cn:Qa}(b:Gl X cn)(V:X.mg cn=on (.ref Dc))(h:∀A,PSs (X.inA A) (b0::suite)<|tG X.K X.H₀ g E)(c:PHd X rest<|tH X.K X.H₀ r E)(i:b0c cn:=by decide):
  PHd X (.ExceptHandler (on<|.Name cn np) OZ (b0::suite) j::rest) (tH X.K X.H₀ (ww X.K Dc g r) E):=(Ge b V h c i).imp λC D f H d=>by
 obtain⟨B,G,M,S,o,a,ok,e,q⟩:=d;unfold ww at e;split at e
 .rename_i eq
  exact⟨O6,eq,by rw[Pc rfl];exact⟨B,G,M,S,o,a,ok,e,q⟩⟩
 .rename_i eq
  exact⟨O8,eq,by rw[Pd Pf];exact⟨B,G,M,S,o,a,ok,e,q⟩⟩
 .cases e
noncomputable def pF(g:G)(h:Gh):G:=λD E=>match g D E with
 |some (.ex C δ1,β1)=>h C δ1 β1
 |r=>r
theorem NG(c:X.k=X.e::X.outer)(d:X.e.frame=on X.e.locals)
  (k:∀(j:a0r) (M:a0b) (S:a0d),bU (f0 X.p X.w) (X.inTry M S) j->PSs (X.inTry M S) body (tG X.K X.H₀ g j)) (l:PHd X (h0::F)<|tH X.K X.H₀ h E):PS X (.Try body (h0::F) [] [] I) (tG X.K X.H₀ (pF g h) E):=(Lq c d k l).imp λD y H m=>by
 obtain⟨B,G,V,x,o,a,ok,e,q⟩:=m;refine⟨λb v _ f=>∃C,v= .ref C/\tH X.K X.H₀ h E C D b f,λb C J f ⟨A,n,z⟩=>by cases n;exact z,?_⟩;unfold pF at e;split at e
 .rename_i C δ1 β1 p
  exact⟨B,G,V,x,.ex C δ1,β1,ok,p,λb t f s i=>⟨C,rfl,t,G,δ1,β1,o,a,i,e,gN.pre s q⟩⟩
 .rename_i r u
  refine⟨B,G,V,x,o,a,ok,e,?_⟩;cases o with
  |ex C δ1=>exact PU e<|u C δ1 a
  |_=>exact q
variable{y A v:Expr}{w:List Expr}{rest:a0O}{u:Scope}{z:Uq}{B c_:a0h}{cy:a0a}{g:TG}{I:a0X}
theorem aQ:dW X [] (g0 X.K (λ_=>M.j7 O6) E0):=λa s b H Q I c=>by obtain⟨F,g,u,fr,d,r⟩:=c;exact vT a s b H Q I<|run.j7 fr r rfl
theorem uQ(hc:PT X c<|g0 X.K t E0):dW X [c] (g0 X.K t E0):=Gb hc
theorem bu(hc:X.calm=O6)(S:di X u B c_ cy)(c:PI X A v<|iV X.K l E)
  (d:∀(G:a0n) (C:O7) (a:a0q) (s:Pe) (H:Hp),PG (aI X B u G C a s H) A g/\dW (aI X B u G C a s H) w (g0 X.K m E0)/\∀D,PB (aI X B u G C a s H) y (⟨A,v,w,0⟩::rest) u z 0 D<|I D)
  (e:cN X.K g k) (f:dT k) (i:∀D,kz X.K D (I D) b) (M:∀x,Qq v X.e x=Rz x:=by intro _;rfl):PE X (.ListComp y (⟨A,v,w,0⟩::rest) u z) (tV X.K (cS (VX c_) cy l k m b) E):=
 (nW hc S c d M).imp λj H Q h=>vg e f i h
theorem BZ{a c:Uq}(j:X.N.Nodup)(d:X.N[i]?=on x)(k:F3 X.e.scope x)(hc:X.calm=O6)(S:di X u B c_ cy)(l:PI X A v<|iV X.K F E)
  (m:∀(G:a0n) (C:O7) (f:a0q) (s:Pe) (H:Hp),PG (aI X B u G C f s H) A g/\dW (aI X B u G C f s H) w (g0 X.K J E0)/\∀D,PB (aI X B u G C f s H) y (⟨A,v,w,0⟩::rest) u z 0 D<|I D)
  (n:cN X.K g t) (o:dT t) (p:∀D,kz X.K D (I D) b)
  (e:TU (.ListComp y (⟨A,v,w,0⟩::rest) u z) (on<|.Name x a) c.line X.e=Rz O6:=by rfl)
  (M:∀x,Qq v X.e x=Rz x:=by intro _;rfl) (q:b0d X x:=by first|exact .inl rfl|exact .inr rfl|assumption):
  PS X (.Assign [.Name x a] (.ListComp y (⟨A,v,w,0⟩::rest) u z) c) (tG X.K X.H₀ (b6 i<|cS (VX c_) cy F t J b) E):=
 aK ((xL j d k hc S l m e M q).imp λD r H h=>vg n o p h)
noncomputable def negD:D->a0m
 | .n i=>on<|.n<|-i
 |_=>OZ
theorem Ob:IG K (rU λi=> .n<|-i) negD:=λF H u Q g d b fr a e k=>by
 cases g<;>first|(cases e;exact⟨_,a,k _ H (To.refl fr) rfl⟩)|cases e
noncomputable def Fh:D->a0v
 | .n i=>on i
 |_=>OZ
noncomputable def pI(g:a0c)(u a:a0v):a0c:=(g.drop<|HT.sIx (VX g) 0 u).take<|HT.sIx (VX g) (VX g) a-HT.sIx (VX g) 0 u
def slD:D->a0v->a0v->a0m
 | .l xs,lo,hi=>on<|.l<|pI xs lo hi
 | .scr ns,lo,hi=>on<|.l<|pI (ns.map D.n) lo hi
 |_,_,_=>OZ
def uR(f:Option<|FD):Dn->M a0v:=λu=>match f with
 |none=>M.j7 OZ
 |some g=>M.v (g u) λd=>M.v (M.f<|Fh d) λi=>M.j7<|on i
def fSl(f:FD)(u a:Option<|FD):FD:=λg=>M.v (f g) λd=>M.v (uR u g) λl=>M.v (uR a g) λh=>M.f<|slD d l h
def AI(X:Cx)(e:Option Expr)(f:Option<|FD)(E:a0r):Prop:=PO X e (λc H Q=>∃F g u,Fr F H u/\jm X.K F H g c/\run (λ_ (a b:a0v)=>b=a) F E c (uR f g) H Q u)
theorem DL:AI X OZ OZ E:=λa s b H Q I c=>by obtain⟨F,g,u,fr,d,r⟩:=c;exact xN a s b H Q I<|run.j7 fr r rfl
theorem DK(h:PE X e<|tV X.K f E):AI X (on e) (on f) E:=λa s c H Q I b=>lm b λF g u fr j r=>xM h a s c H Q I ⟨F,g,u,fr,j,(run.bind (R:=c4 X.K F) r).mono λv l b=>by
  obtain⟨d,w,t,y,r1⟩:=b;obtain⟨i,e,k⟩:=run.f5 r1;cases d<;>first|(cases e;exact⟨_,y,run.j7 t.fr k rfl⟩)|cases e⟩
theorem br.cut(h:br K F H b c)(g a:a0v):br K F H (pI b g a) (mY c g a):=by
 unfold pI mY;rw[h.length];exact(h.drop _).take _
theorem xj{S y:Option Expr}{fl A:Option (FD)}(B:PE X e<|tV X.K f E)(C:AI X S fl E)(I:AI X y A E):PE X (.Subscript e (.Slice S y OZ p2) z) (tV X.K (fSl f fl A) E):=
 (vU xv B C I).imp λN H Q o=>lm o λF g V fr q r=>⟨F,g,V,fr,q,(run.bind (R:=c4 X.K F) r).mono λv O ⟨d,D,t,s,r1⟩=>
  ⟨F,g,D,t.fr,q.tr<|t.tr fr,(run.bind (R:=λ_ (a b:a0v)=>b=a) r1).mono λl P ⟨T,G,n,u,J⟩=>
   ⟨F,g,G,n.fr,q.tr<|(t.tr fr).trans<|n.tr t.fr,(run.bind (R:=λ_ (a b:a0v)=>b=a) J).mono λh U o=>by
    obtain⟨Z,x,i,w,L⟩:=o;subst u w;obtain⟨c,e,k⟩:=run.j6 L;have j:=c4.tr ((n.tr t.fr).trans<|i.tr n.fr) _ _ s;cases d<;>first
     |(cases e;obtain⟨a,W,rfl,M,Y⟩:=c4.j6 j;exact⟨a,W,rfl,M,λp m=>k _ _ (i.fr.upd _ m)<|c4.j7 i.fr m<|Y.cut l h⟩)
     |(cases e;obtain⟨a,rfl,M⟩:=c4.scr j;exact⟨a,_,rfl,M,λp m=>k _ _ (i.fr.upd _ m)<|c4.j7 i.fr m<|(br.j7 _).cut l h⟩)
     |cases e⟩⟩⟩
def Bg.ok(β:Bg):Prop:=β.cells≠[]/\VX β.cells<=64/\(∀c∈β.cells,0<=c)/\0<=β.j
end
noncomputable def Bg.pos(D:Bg):Nat:=(D.i % (VX D.cells:Int)).toNat
def Bg.cell(D:Bg):Int:=D.cells.getD D.pos 0
noncomputable def Bg.f5(D:Bg):Int:=(D.j+D.cell % 2147483629+77)*48271 % 2147483629
noncomputable def kh(E:Bg)(D:Int):Int:=if 10^18<=E.cell then E.cell % D else E.f5/64 % D
noncomputable def ly(D:Bg)(E:Int):Bg:=if 10^18<=D.cell then⟨D.cells.set D.pos<|D.cell/E,D.i,D.j⟩else⟨D.cells,D.i+1,D.f5⟩
open Classical in
def cI:a0c->M D:=λG E=>match G with
 |[.bag,.n lot]=>if E.ok/\0<lot/\lot<1073741824 then on (RG<|D.n<|kh E lot,ly E lot)else OZ
 |_=>OZ
theorem GC{D:Bg}(h:D.ok)(a:0<c)(b:c<1073741824):cI [.bag,.n c] D=on (.ok<|.n<|kh D c,ly D c):=by
 unfold cI;exact Pc ⟨h,a,b⟩
theorem DT{E:Bg}(h:cI b E=on (r,a)):∃D,b=[.bag,.n D]/\E.ok/\0<D/\D<1073741824/\r= .ok (.n<|kh E D)/\a=ly E D:=by
 unfold cI at h;split at h
 .split at h
  .rename_i D q
   cases h;exact⟨D,rfl,q.1,q.2.1,q.2.2,rfl,rfl⟩
  .cases h
 .cases h
theorem Bg.ok.at{β:Bg}(h:β.ok):β.pos<VX β.cells/\β.cells[β.pos]?=on β.cell/\0<=β.cell/\β.i % (VX β.cells:Int)=(β.pos:Int):=by
 obtain⟨D,G,E,b⟩:=id h;have c:0<VX β.cells:=List.length_pos_iff.mpr D;have K:0<=β.i % (VX β.cells:Int):=Uv _ (by lia);have M:β.i % (VX β.cells:Int)<VX β.cells:=UP _ (by lia);have a:β.pos<VX β.cells:=by unfold Bg.pos;lia
 have e:β.cell=β.cells[β.pos]:=by
  unfold Bg.cell;rw[O5,O4 a];rfl
 refine⟨a,by rw[e];exact O4 a,by rw[e];exact E _<|Qd a,?_⟩;unfold Bg.pos;lia
theorem xJ{D:Bg}(h:D.ok)(b:0<f):0<=kh D f/\kh D f<f/\(ly D f).ok:=by
 obtain⟨e,_,hc,_⟩:=h.at;obtain⟨E,G,K,d⟩:=id h;unfold kh ly;split
 .refine⟨Uv _ (by lia),UP _ b,?_,by rw[PX];exact G,λc a=>?_,d⟩
  .intro z
   have:=QG VX z;rw[PX]at this;exact E<|T0.mp this
  .rcases RP a with a|rfl
   .exact K c a
   .exact Int.ediv_nonneg hc (by lia)
 .exact⟨Uv _ (by lia),UP _ b,E,G,K,Uv _<|by decide⟩
section
variable{X:Cx}{E:a0r}{K:Pz}{a b:Expr}{es:List Expr}{s:Uq}
theorem To.none(t:To F H H1 f)(h:H1 p=OZ):H p=OZ:=by
 cases q:H p with
 |none=>rfl
 |some o=>
  have:H1 p=on o:=t.kp p o q λb l e=>by
   obtain⟨c,d⟩:=t.fr.bag b l e;exact⟨λw=>(by subst w;rw[c]at h;cases h),λw=>(by subst w;rw[d]at h;cases h)⟩
  rw[this]at h;cases h
noncomputable def Fx.but(F:Fx)(a:O7):Fx:=⟨λc=>F.A c\/c=a,F.bg⟩
theorem Fx.f5{F:Fx}(fr:Fr F H g)(d:H p=OZ)(a:∀c o,H c=on o->H1 c=on o):Tr F H (F.but p) H1:=⟨λc e f z=>by
 rcases z with z|z
 .exact e z
 .subst z;exact f d,λc o _ h=>a c o h,rfl⟩
theorem Fx.j6{F:Fx}:Tr (F.but p) H F H:=⟨λc h _ z=>h<|RZ z,λ_ _ _ h=>h,rfl⟩
def gL(K:Pz)(F:Fx)(s H:Hp)(D:a0c)(v:V):Prop:=∃a b,v= .r a/\s a=OZ/\H a=on (.l b)/\br K (F.but a) H D b
def tVO(K:Pz)(f:FL)(E:a0r):TE:=λc H Q=>∃F a b,Fr F H b/\jm K F H a c/\run (gL K F H) F E c (f a) H Q b
def tVG(K:Pz)(f:Dn->M a0u)(E:a0r):TE:=λc H Q=>∃F a b,Fr F H b/\jm K F H a c/\run (iH K F H) F E c (f a) H Q b
noncomputable def szL(ds:a0c):a0A:=if VX ds<=Ps then on ds else OZ
def qs(a:a0c->a0A)(g:FL):FL:=λb=>M.v (g b) λs=>M.f<|a s
theorem gL.new(t:To F H H1 f)(d:H1 p=OZ)(a:br K F H1 g e):gL K F H (upd H1 p<|.l e) g (.r p):=
 ⟨p,e,rfl,t.none d,aj,br.tr (Fx.f5 t.fr d λc o h=>by rw[bb<|bt h d];exact h) _ _ a⟩
def IF(K:Pz)(r:a0G)(G:a0c->a0A):Prop:=∀(F:Fx) (a H:Hp) (b:Bg) (Q:VK) (s D:a0c) (E:a0j),To F a H b->br K F H s E->G s=on D->
 (∀v c,To F H c b->gL K F a c D v->Q v c)->r E H Q
theorem vZ(hc:dg X (.type T) r)(l:IF X.K r op)(i:Gl X x)(b:X.mg x=OZ)(j:Te x=on (.type T))(D:PA X (e::es)<|i_ X.K g E)(G:x≠"__name__":=by decide)(c:b0c x:=by decide)
  (m:b0a X e es:=by rfl) (d:b0b X s es:=by rfl):PE X (.Call (.Name x p) (e::es) [] s) (tVO X.K (qs op g) E):=
 (ki hc i b j D G c m d).imp λu H Q f=>lm f λF M S fr n h=>⟨F,M,S,fr,n,(run.bind (R:=br X.K F) h).mono λV o f=>by
  obtain⟨v,a,t,w,r1⟩:=f;obtain⟨y,q,k⟩:=run.j6 r1;exact l F H o a Q v y V t w q k⟩
def uH:a0c->a0A
 |[.l xs]=>on xs
 |[.t xs]=>on xs
 |_=>OZ
theorem x3:IF K (λb H Q=>∃p s,b=[.r p]/\(eX K H p s\/iv K H p s)/\∀l,H l=OZ->Q (.r l) (upd H l<|.l s)) uH:=λF E H G Q M S V t h e k=>by
 unfold uH at e;split at e
 .cases e
  obtain⟨v,rfl,g⟩:=br.j6 h;obtain⟨a,b,rfl,r,D⟩:=c4.j6 g;exact⟨a,b,rfl,.inl r,λl c=>k _ _ (t.fr.upd _ c)<|gL.new t c D⟩
 .cases e
  obtain⟨v,rfl,g⟩:=br.j6 h;obtain⟨a,b,rfl,r,D⟩:=c4.f5 g;exact⟨a,b,rfl,.inr r,λl c=>k _ _ (t.fr.upd _ c)<|gL.new t c D⟩
 .cases e
theorem br.rep(h:br K F H c d):∀n:Nat,br K F H (Py n c).flatten (Py n d).flatten
 |0=>rfl
 |n+1=>by
  rw[Q4,Sy,Q4,Sy];exact br.append h<|br.rep h n
noncomputable def vM(a:a0c)(d:D):a0A:=match d with
 | .n k=>if(decide (-(2^63)<=k)&&decide (k<2^63)&&decide (VX a<=Ps)&&decide (VX a*k.toNat<=Ps))=O6 then on (Py k.toNat a).flatten else OZ
 |_=>OZ
def zm(g:FL)(f:FD):FL:=λb=>M.v (g b) λa=>M.v (M.f<|szL a) λa=>M.v (f b) λd=>M.f<|vM a d
theorem NZ(ha:PA X es<|i_ X.K g E)(O:PE X b<|tV X.K f E):PE X (.BinOp (.List es pos') .Mult b s) (tVO X.K (zm g f) E):=
 (dX LK (jF ha) O).imp λP H Q j=>lm j λF G β fr B r=>⟨F,G,β,fr,B,(run.bind (R:=br X.K F) r).mono λD T j=>by
  obtain⟨ds,a,t,S,r1⟩:=j;obtain⟨U,n,W⟩:=run.f5 r1;unfold szL at n;split at n
  .rename_i Y
   cases n;refine⟨by rw[<-S.length];exact Y,λp I=>?_⟩;have m:=t.fr.upd (.l D) I;have J:=t.fr.fresh I;refine⟨F,G,a,m.fr,(B.tr<|t.tr fr).tr<|m.tr t.fr,?_⟩;obtain⟨L,V,e,h⟩:=W;have u:run (gL X.K F H) F E P (M.v (f G) λd=>M.f<|vM ds d) (upd T p<|.l D) Q a:=by
    refine⟨L,V,e,?_⟩;cases L with
    |ok d=>exact λv y c=>h v y<|m.trans c
    |error C=>exact λy c=>h y<|m.trans c
   refine(run.bind (R:=c4 X.K F) u).mono λw Z j=>pj j λd aa c hw r3=>?_;obtain⟨os,i,k⟩:=run.j6 r3;unfold vM at i;split at i
   .split at i
    .rename_i kk o
     cases i;simp only[PV,P9]at o;cases hw;have A:Z p=on (.l D):=c.kp p _ aj λb l q=>⟨λz=>J<|z▸(fr.bgA b l q).1,λz=>J<|z▸(fr.bgA b l q).2.1⟩;have x:=m.trans c;exact⟨p,_,D,rfl,rfl,A,o.1.1.1,o.1.1.2,by rw[<-S.length];exact o.2,λq N=>k _ _ (c.fr.upd _ N)<|gL.new (t.trans x) N<|(br.tr (x.tr t.fr) _ _ S).rep _⟩
    .cases i
   .cases i
  .cases n⟩
def iC(nv:Nat)(cy:a0a)(it:Dn->M (List Pu.D))(tg:m3)(s:a0p)(b:Dn->M (List Pu.D)):Dn->M (List Pu.D):=λa E=>match it a E with
 |none=>OZ
 |some (.error C,β1)=>on (.error C,β1)
 |some (.ok ds,β1)=>match nC tg s b ds (ll nv cy a) β1 with
  |some (.ok os,β2)=>if VX os<=Ps then on (.ok os,β2)else OZ
  |_=>OZ
theorem BI{G:a0h}{S:a0a}{V:Dn->M (List Pu.D)}{g:TG}{s:m3}{X:a0p}{I:a0X}{b:Dn->M (List Pu.D)}(T:cN K g s)(U:dT s)(W:∀D,kz K D (I D) b){L:St}{H:Hp}{Q:VK}(h:tVO K (iC (VX G) S V s X b) E L H Q):
  pW G S (iV K V E) (λD J=>de J g (g0 K X E0)<|I D) L H Q:=by
 obtain⟨F,δ,β,fr,N,r,k,e,h⟩:=h;unfold iC at e;refine⟨F,δ,β,fr,N,?_⟩;split at e
 .cases e
 .rename_i C β1 q
  cases e;exact⟨.error C,_,q,h⟩
 .rename_i ds β1 q
  split at e
  .rename_i os β2 q2
   split at e
   .rename_i Y
    cases e;refine⟨.ok ds,β1,q,λJ j t Z D c=>?_⟩;have d:¬F.A D:=t.fr.fresh c;have nb:∀b l,F.bg=on (b,l)->D≠b/\D≠l:=λb l z=>⟨λw=>d<|w▸(fr.bgA b l z).1,λw=>d<|w▸(fr.bgA b l z).2.1⟩;have O:=t.fr.upd (.l []) c;have m:Fr ⟨λa=>F.A a\/a=D,F.bg⟩ (upd j D<|.l []) β1:=by
     refine⟨λa ha z=>?_,λb l z=>let ⟨x,y,w⟩:=fr.bgA b l z;⟨.inl x,.inl y,w⟩,O.fr.bag⟩
     rcases ha with ha|ha
     .exact O.fr.occ a ha z
     .subst ha;rw[aj]at z;cases z
    have f:Tr F j ⟨λa=>F.A a\/a=D,F.bg⟩ (upd j D<|.l []):=⟨λa ha hs z=>by
     rcases z with z|z
     .exact ha z
     .subst z;exact hs c,λa o ha z=>by rw[bb<|bt z c];exact z,rfl⟩
    refine oh (R:=RL K) (D:=D) (as:=[]) (os:=os) T U (W D) m (.inr rfl) nb (re<|N.tr<|(t.tr fr).trans f) ⟨[],aj,rfl⟩ (Z.tr f) q2 (show VX os<=Ps from Y) λaa P p ab u=>?_;obtain⟨i,v,B⟩:=u;have tf:To F j P k:=by
     refine⟨λa o z n=>p.kp a o (by rw[bb<|bt z c];exact z) (bt z c) n,λa ha z=>p.fr.occ a (RZ ha) z,fr.bgA,p.fr.bag⟩
    exact h _ P (t.trans tf) ⟨D,i,rfl,t.none c,v,B⟩
   .cases e
  .cases e
def pM(s:m3)(E:a0p)(b:Dn->M (List<|List Pu.D)):List Pu.D->Dn->M (List<|List Pu.D)
 |[],_=>M.j7 []
 |d::ds,δ=>match s d δ with
  |none=>M.j9
  |some a=>M.v (E a) λc=>M.v (if c=O6 then b a else M.j7 []) λo=>M.v (pM s E b ds δ) λG=>M.j7<|o++G
def K_(K:Pz)(F:Fx)(D:O7)(s H:Hp)(E:List<|List Pu.D)(a:a0j):Prop:=(∀c,s c≠OZ->H c≠OZ)/\∃b,a=b.map V.r/\(D::b).Nodup/\bh K F H (λr=>s r=OZ) E b
theorem K_.mono{F:Fx}{D:O7}(g:F.A D)(i:∀b l,F.bg=on (b,l)->H0 b≠OZ/\H0 l≠OZ)(fr:Fr F H β)(t:m_ F D H H1 n)(h:K_ K F D H0 H as m):K_ K F D H0 H1 as m:=by
 obtain⟨cv,E,e,a,j⟩:=h;refine⟨λc hc z=>?_,E,e,a,bh.tr (t.tr fr g) j λr G k p q=>⟨p,t.kp r _ q (λz=>?_) λb l w=>⟨λz=>?_,λz=>?_⟩⟩⟩
 .cases q:H c with
  |none=>exact cv c hc q
  |some o=>
   by_cases s:c=D
   .subst s;exact t.fr.occ _ g z
   .by_cases d:∃b l,F.bg=on (b,l)/\(c=b\/c=l)
    .obtain⟨b,l,w,f⟩:=d
     rcases f with rfl|rfl
     .exact t.fr.occ _ (fr.bgA _ _ w).1 z
     .exact t.fr.occ _ (fr.bgA _ _ w).2.1 z
    .rw[t.kp c o q s λb l w=>⟨λy=>d ⟨b,l,w,.inl y⟩,λy=>d ⟨b,l,w,.inr y⟩⟩]at z
     cases z
 .subst z;exact(Qi.mp a).1 k
 .subst z;exact(i _ _ w).1 p
 .subst z;exact(i _ _ w).2 p
def rn(K:Pz)(D:O7)(i:TB)(f:Dn->M (List<|List Pu.D)):Prop:=∀(F:Fx) (s H:Hp) (E:Dn) (V d:Bg) (h:St) (a:a0j) (G S:List<|List Pu.D) (Q:a0F),Fr F H V->F.A D->(∀b l,F.bg=on (b,l)->D≠b/\D≠l)->(∀b l,F.bg=on (b,l)->s b≠OZ/\s l≠OZ)->jm K F H E h->H D=on (.l a)->K_ K F D s H G a->
 f E V=on (.ok S,d)->VX G+VX S<=Ps->(∀e g c,m_ F D H g d->jm K F g E e->g D=on (.l c)->K_ K F D s g (G++S) c->Q e g)->i h H Q
def sH(f:Dn->M (List Pu.D)):Dn->M (List<|List Pu.D):=λa=>M.v (f a) λd=>M.j7 [d]
theorem bh.snoc(p:P r)(c:H r=on (.l e))(d:br K F H f e):∀{a:List (List Pu.D)} {b:a0q},bh K F H P a b->bh K F H P (a++[f]) (b++[r])
 |[],[],_=>⟨p,⟨e,c,d⟩,trivial⟩
 |_::_,_::_,h=>⟨h.1,h.2.1,bh.snoc p c d h.2.2⟩
 |[],_::_,h=>h.elim
 |_::_,[],h=>h.elim
theorem xZ{D:O7}:rn K D (AG D<|tVO K f E0) (sH f):=λF E H X β j Y s as os Q fr m p P R T G e Z k=>by
 obtain⟨d,aa,e1,e2⟩:=M.j6 e;cases e2;refine⟨F,X,β,fr,R,E0.run e1 λv U t hv=>?_⟩;have u:=t.kp D _ T p;have w:=G.mono m P fr<|t.toD D;obtain⟨r,xs,rfl,g,n1,n2⟩:=hv;obtain⟨cv,S,A,nd,W⟩:=w;obtain⟨B,c,C,I,J⟩:=G;have i:VX s=VX as:=by rw[A,OY,W.len]
 have L:c=S:=by
  have:c.map V.r=S.map V.r:=C.symm.trans A;exact Wr (λa b q=>by cases q;rfl)|>.mp this
 subst L;have nD:r≠D:=λz=>by subst z;rw[T]at g;cases g
 have nr:r∉c:=λz=>by
  obtain⟨_,ys,q⟩:=J.all r z;rw[q]at g;cases g
 have N:E r=OZ:=by
  cases q:E r with
  |none=>rfl
  |some o=>exact PU g (B r<|by rw[q];simp)
 refine⟨s,u,by rw[i];simp at Z;lia,?_⟩;have O:m_ F D U (upd U D<|.l<|s++[.r r]) j:=by
  refine⟨λa o h n _=>by rw[bb n];exact h,λa h q=>?_,fr.bgA,λb l q=>?_⟩
  .by_cases z:a=D
   .subst z;rw[aj]at q;cases q
   .rw[bb z]at q;exact t.fr.occ a h q
  .rw[bb (p b l q).1.symm,bb (p b l q).2.symm]
   exact t.fr.bag b l q
 have tt:=O.tr t.fr m;refine k Y _ _ ((t.toD D).trans O) (R.tr<|(t.tr fr).trans tt) aj<|K_.mono m P t.fr O ⟨cv,c++[r],by rw[A,Qc];rfl,?_,bh.snoc N n1 (br.tr Fx.j6 _ _ n2) W⟩;rw[<-Tt,U3];refine⟨I,by simp,λx hx y hy=>?_⟩;obtain rfl:y=r:=by simpa using hy
 rcases Pr.mp hx with rfl|hx
 .exact nD.symm
 .exact λz=>nr<|z▸hx
end
section
variable{X:Cx}{E:a0r}{K:Pz}
theorem JP{D:O7}(hg:cN K g tg)(sg:dT tg)(hb:rn K D tb b){F:Fx}{as os:List (List Pu.D)}(fr:Fr F H β)(W:F.A D)(hn:∀b l,F.bg=on (b,l)->D≠b/\D≠l)(h0:∀b l,F.bg=on (b,l)->H0 b≠OZ/\H0 l≠OZ)(vk:jm K F H z σ)(hD:H D=on (.l acc))(hd:K_ K F D H0 H as acc)
  (it:zv K J F H s) (e:pM tg tt b s z β=on (.ok os,β')) (hz:VX as+VX os<=Ps) (k:∀f n a,m_ F D H n β'->jm K F n z f->n D=on (.l a)->K_ K F D H0 n (as++os) a->Q f n):de J g (g0 K tt E0) tb σ H Q:=by
 refine⟨λi m f n=>m+i=VX s/\∃E a j t,m_ F D H n E/\jm K F n z f/\n D=on (.l a)/\K_ K F D H0 n j a/\pM tg tt b (s.drop i) z E=on (.ok t,β')/\j++t=as++os,
  ⟨VX s,by lia,β,acc,as,os,⟨λ_ _ h _ _=>h,fr⟩,vk,hD,hd,e,rfl⟩,?_⟩
 rintro i m f n ⟨hm,E,a,j,t,u,y,B,C,r,ea⟩;have aa:=u.tr fr W;obtain⟨iy,is⟩:=it F n E aa u.fr i;cases Y:s[i]? with
 |none=>
  have Z:VX s<=i:=UY.mp Y;rw[RJ Z]at r;cases r;refine .inl ⟨is (by lia),k f n a u y B ?_⟩;rw[<-ea,QI];exact C
 |some d=>
  have Z:i<VX s:=(Pl.mp Y).1;obtain⟨go,yl⟩:=iy d Y;have ed:s.drop i=d::s.drop (i+1):=by
   rw[Rp Z];congr 1;exact P3<|(O4 Z).symm.trans Y
  rw[ed]at r;unfold pM at r;cases q:tg d z with
  |none=>rw[q]at r;cases r
  |some G=>
   rw[q]at r;obtain⟨c,V,e2,e3⟩:=M.j6 r;obtain⟨o,S,X,e5⟩:=M.j6 e3;obtain⟨I,ai,e6,e7⟩:=M.j6 e5;cases e7;obtain⟨s1,s2⟩:=sg _ _ _ q;refine .inr ⟨go,λL N=>∃p,m_ F D H N S/\jm K F N z L/\N D=on (.l p)/\K_ K F D H0 N (j++o) p,?_,λx H2 hy=>?_⟩
   .rintro L N ⟨p,t9,vk9,hD9,hd9⟩
    exact⟨m-1,by lia,by lia,S,p,j++o,I,t9,vk9,hD9,hd9,e6,by rw[Q8];exact ea⟩
   .obtain⟨sm,dx⟩:=yl x H2 hy
    have w:To F n H2 E:=u.fr.same sm;have ab:=w.tr u.fr;refine hg F H2 z G f d x _ (y.tr ab) dx q λac v=>⟨F,G,E,w.fr,v,E0.run e2 λc' H3 O ec=>?_⟩;subst ec;have ad:=sm _ _ B;have P:=O.kp D _ ad hn;have R:=O.tr w.fr;have d3:=(C.mono W h0 u.fr<|w.toD D).mono W h0 w.fr<|O.toD D;have T:m_ F D H H3 V:=u.trans<|(w.trans O).toD D;have ae:VX j+VX (o++I)<=Ps:=by
     have:=QG VX ea;simp only[PR]at this⊢;lia
    cases c' with
    |true=>
     rw[Pc rfl]at X⊢;refine hb F H0 H3 G V S ac a j o _ O.fr W hn h0 (v.tr R) P d3 X (by rw[PR]at ae;lia) λaj H4 U t4 af ag ah=>?_;exact⟨U,T.trans t4,af.sub s1 s2,ag,ah⟩
    |false=>
     rw[Pd Pf]at X⊢;cases X;exact⟨a,T,(v.tr R).sub s1 s2,P,by rw[QI];exact d3⟩
def iD(G:Nat)(K:a0a)(S:Dn->M (List Pu.D))(V:m3)(X:a0p)(b:Dn->M (List<|List Pu.D)):Dn->M (List<|List Pu.D):=λE a=>match S E a with
 |none=>OZ
 |some (.error C,β1)=>on (.error C,β1)
 |some (.ok ds,β1)=>match pM V X b ds (ll G K E) β1 with
  |some (.ok os,β2)=>if VX os<=Ps then on (.ok os,β2)else OZ
  |_=>OZ
theorem sR{S:a0h}{V:a0a}{X:Dn->M (List Pu.D)}{g:TG}{G:m3}{s:a0p}{I:a0X}{b:Dn->M (List<|List Pu.D)}(T:cN K g G)(U:dT G)(W:∀D,rn K D (I D) b){L:St}{H:Hp}{Q:VK}(h:tVG K (iD (VX S) V X G s b) E L H Q):
  pW S V (iV K X E) (λD J=>de J g (g0 K s E0)<|I D) L H Q:=by
 obtain⟨F,δ,β,fr,N,r,k,e,h⟩:=h;unfold iD at e;refine⟨F,δ,β,fr,N,?_⟩;split at e
 .cases e
 .rename_i C β1 q
  cases e;exact⟨.error C,_,q,h⟩
 .rename_i ds β1 q
  split at e
  .rename_i os β2 q2
   split at e
   .rename_i Y
    cases e;refine⟨.ok ds,β1,q,λJ f t Z D d=>?_⟩;have i:¬F.A D:=t.fr.fresh d;have nb:∀b l,F.bg=on (b,l)->D≠b/\D≠l:=λb l z=>⟨λw=>i<|w▸(fr.bgA b l z).1,λw=>i<|w▸(fr.bgA b l z).2.1⟩;have O:=t.fr.upd (.l []) d;have m:Fr ⟨λa=>F.A a\/a=D,F.bg⟩ (upd f D<|.l []) β1:=by
     refine⟨λa ha z=>?_,λb l z=>let ⟨x,y,w⟩:=fr.bgA b l z;⟨.inl x,.inl y,w⟩,O.fr.bag⟩
     rcases ha with ha|ha
     .exact O.fr.occ a ha z
     .subst ha;rw[aj]at z;cases z
    have j:Tr F f ⟨λa=>F.A a\/a=D,F.bg⟩ (upd f D<|.l []):=⟨λa ha hs z=>by
     rcases z with z|z
     .exact ha z
     .subst z;exact hs d,λa o ha z=>by rw[bb<|bt z d];exact z,rfl⟩
    have cv:∀c,H c≠OZ->upd f D (.l []) c≠OZ:=λc hc z=>by
     by_cases w:c=D
     .subst w;rw[aj]at z;cases z
     .rw[bb w]at z;exact hc<|t.none z
    refine JP (D:=D) (H0:=H) (as:=[]) (os:=os) T U (W D) m (.inr rfl) nb (λb l z=>⟨fr.occ _ (fr.bgA b l z).1,fr.occ _ (fr.bgA b l z).2.1⟩) (re<|N.tr<|(t.tr fr).trans j) aj ⟨cv,[],rfl,by simp,trivial⟩ (Z.tr j) q2 (by simpa using Y) λaa P R u ab v B=>?_;have tf:To F f P k:=by
     refine⟨λa o z n=>u.kp a o (by rw[bb<|bt z d];exact z) (bt z d) n,λa ha z=>u.fr.occ a (RZ ha) z,fr.bgA,u.fr.bag⟩
    obtain⟨_,rs,ea,nd,rl⟩:=B;subst ea;exact h _ P (t.trans tf) ⟨D,rs,rfl,t.none d,v,nd,bh.tr (F:=⟨λa=>F.A a\/a=D,F.bg⟩) ⟨λa ha _ z=>ha<|RZ z,λa o _ z=>z,rfl⟩ rl λr xs _ p q=>⟨p,q⟩⟩
   .cases e
  .cases e
section
variable{p q l:Expr}{n:List Expr}{m:a0O}{k:Scope}{o:Uq}{r v:a0h}{u:a0a}{g:TG}{t:a0X}
theorem LT(hc:X.calm=O6)(S:di X k r v u)(c:PI X q l<|iV X.K y E)
  (d:∀(G:a0n) (C:O7) (a:a0q) (s:Pe) (H:Hp),PG (aI X r k G C a s H) q g/\dW (aI X r k G C a s H) n (g0 X.K z E0)/\∀D,PB (aI X r k G C a s H) p (⟨q,l,n,0⟩::m) k o 0 D<|t D)
  (e:cN X.K g w) (f:dT w) (i:∀D,kz X.K D (t D) b) (M:∀x,Qq l X.e x=Rz x:=by intro _;rfl):PE X (.ListComp p (⟨q,l,n,0⟩::m) k o) (tVO X.K (iC (VX v) u y w z b) E):=
 (nW hc S c d M).imp λj H Q h=>BI e f i h
theorem MF(hc:X.calm=O6)(S:di X k r v u)(c:PI X q l<|iV X.K y E)
  (d:∀(G:a0n) (C:O7) (a:a0q) (s:Pe) (H:Hp),PG (aI X r k G C a s H) q g/\dW (aI X r k G C a s H) n (g0 X.K z E0)/\∀D,PB (aI X r k G C a s H) p (⟨q,l,n,0⟩::m) k o 0 D<|t D)
  (e:cN X.K g w) (f:dT w) (i:∀D,rn X.K D (t D) b) (M:∀x,Qq l X.e x=Rz x:=by intro _;rfl):PE X (.ListComp p (⟨q,l,n,0⟩::m) k o) (tVG X.K (iD (VX v) u y w z b) E):=
 (nW hc S c d M).imp λj H Q h=>sR e f i h
end
mutual
noncomputable def noL:D->Bool
 | .n _=>O6
 | .c _=>O6
 | .q _=>O6
 | .o=>O6
 | .t ds=>noLs ds
 |_=>O8
noncomputable def noLs:a0c->Bool
 |[]=>O6
 |d::ds=>noL d&&noLs ds
end
mutual
theorem xV{F b:Fx}(hF:∀c,b.A c->F.A c\/F0 H c):∀(d:D) (v:V),noL d=O6->c4 K F H d v->c4 K b H d v
 | .n i,v,_,h=>h
 | .c i,v,_,h=>h
 | .q i,v,_,h=>h
 | .o,v,_,h=>h
 | .t ds,v,n,h=>by
  obtain⟨a,E,e,h1,f⟩:=h;refine⟨a,E,e,?_,noLs_den hF ds E (by simpa[noL]using n) f⟩;rcases h1 with⟨h1,r⟩|h1
  .refine .inl ⟨λz=>?_,r⟩
   rcases hF a z with z|⟨G,z⟩|⟨G,z⟩
   .exact h1 z
   .rcases r with r|⟨o,r⟩<;>rw[z]at r<;>cases r
   .rcases r with r|⟨o,r⟩<;>rw[z]at r<;>cases r
  .exact .inr h1
 | .l _,_,n,_=>by simp[noL]at n
 | .scr _,_,n,_=>by simp[noL]at n
 | .ty _,_,n,_=>by simp[noL]at n
 | .txt,_,n,_=>by simp[noL]at n
 | .obj _ _ _,_,n,_=>by simp[noL]at n
 | .bag,_,n,_=>by simp[noL]at n
 | .adr _,_,n,_=>by simp[noL]at n
 | .dct _ _ _,_,n,_=>by simp[noL]at n
theorem noLs_den{F a:Fx}(hF:∀c,a.A c->F.A c\/F0 H c):∀(D:a0c) (E:a0j),noLs D=O6->br K F H D E->br K a H D E
 |[],E,_,h=>h
 |d::D,E,n,h=>by
  have b:noL d=O6/\noLs D=O6:=by simpa[noLs]using n
  obtain⟨x,f,e,g,i⟩:=h;exact⟨x,f,e,xV hF d x b.1 g,noLs_den hF D f b.2 i⟩
end
theorem bh.noL{F b:Fx}(hF:∀c,b.A c->F.A c\/F0 H c):∀{D:a0u} {E:a0q},(∀ds∈D,noLs ds=O6)->bh K F H P D E->(∀r∈E,P2 r)->bh K b H P2 D E
 |[],[],_,_,_=>trivial
 |ds::D,r::E,n,h,p=>by
  obtain⟨g,⟨G,d,e⟩,f⟩:=h;exact⟨p r Pa,⟨G,d,noLs_den hF _ _ (n ds Pa) e⟩,bh.noL hF (λx a=>n x<|O1 _ a) f λx a=>p x<|O1 _ a⟩
 |[],_::_,_,h,_=>h.elim
 |_::_,[],_,h,_=>h.elim
theorem fh.newGrd{E:Ds}{d:St}(M:fh K H₀ B l H E p d)(t:To (ej B l) H H' m)(S:∀V∈ba,noLs V=O6)(h:iH K (ej B l) H H' ba v):
  ∃e,fh K H₀ e l H' (E.set i<|on<|.grd ba) m (d.set i<|on v)/\hU B H e H':=by
 obtain⟨a,D,rfl,j,f,n,b⟩:=h;have g:∀c,c=a\/c∈D->H c=OZ/\F0 H' c:=λc hc=>by
  rcases hc with rfl|hc
  .exact⟨j,.inl ⟨_,f⟩⟩
  .exact⟨(b.all c hc).1,.inl (b.all c hc).2⟩
 exact M.claim (λc=>c=a\/c∈D) t g λG o _=>⟨a,D,rfl,G a<|.inl rfl,f,n,bh.noL (F:=ej B l) (λc hc=>(o c hc).imp id λw=>(g c w).2) S b λr k=>G r<|.inr k⟩
end
section
variable{X:Cx}{E:a0r}{K:Pz}{st:QD}{J:Hp}{B:Ow}{I:a0s}{H H':Hp}{δ:Ds}{β aa:Bg}{σ:St}
theorem fh.newOwnE(E:fh K J B I H δ β σ)(t:To (ej B I) H H' aa)(e:gL K (ej B I) H H' j v):
  ∃b,fh K J b I H' (δ.set i<|on<|.u j) aa (σ.set i<|on v)/\hU B H b H':=by
 obtain⟨a,D,rfl,f,d,G⟩:=e;exact E.claim (·=a) t (λc z=>by cases z;exact⟨f,.inl ⟨D,d⟩⟩) λ{g} M S _=>⟨a,D,rfl,M a rfl,d,br.tr (show Tr ((ej B I).but a) H' (ej g I) H' from⟨λc h _ z=>h<|S c z,λ_ _ _ h=>h,rfl⟩) _ _ G⟩
def oz(i:Nat)(f:FL):G:=λδ β=>match f (vw δ) β with
 |some (.ok ds,β1)=>on (.nx<|δ.set i<|on<|.u ds,β1)
 |some (.error C,β1)=>on (.ex C δ,β1)
 |none=>OZ
theorem CA(h:PS X st<|gl (tVO X.K f E)<|d7 i):PS X st (tG X.K X.H₀ (oz i f) E):=h.imp λD σ H d=>by
 obtain⟨B,I,δ,β,o,aa,ok,e,q⟩:=d;refine⟨ej B I,vw δ,β,ok.fr,ok.view,?_⟩;unfold oz at e;split at e
 .rename_i ds β1 b
  cases e;refine⟨.ok ds,_,b,λv H' t G=>?_⟩;obtain⟨g,a,c⟩:=ok.newOwnE (i:=i) t G;exact q _ _ _ c a
 .rename_i C β1 b
  cases e;refine⟨.error C,_,b,λH' t=>?_⟩;obtain⟨a,c⟩:=ok.to rfl t;exact q _ B H' c a
 .cases e
def sk(i:Nat)(f:Dn->M a0u):G:=λδ β=>match f (vw δ) β with
 |some (.ok ba,β1)=>if(ba.all noLs)=O6 then on (.nx<|δ.set i<|on<|.grd ba,β1)else OZ
 |some (.error C,β1)=>on (.ex C δ,β1)
 |none=>OZ
theorem HH(h:PS X st<|gl (tVG X.K f E)<|d7 i):PS X st (tG X.K X.H₀ (sk i f) E):=h.imp λD σ H g=>by
 obtain⟨B,I,δ,β,o,aa,ok,e,q⟩:=g;refine⟨ej B I,vw δ,β,ok.fr,ok.view,?_⟩;unfold sk at e;split at e
 .rename_i ba β1 b
  split at e
  .rename_i hn
   cases e;refine⟨.ok ba,_,b,λv H' t G=>?_⟩;obtain⟨j,a,c⟩:=ok.newGrd (i:=i) t (λJ d=>Sf.mp hn J d) G;exact q _ _ _ c a
  .cases e
 .rename_i C β1 b
  cases e;refine⟨.error C,_,b,λH' t=>?_⟩;obtain⟨a,c⟩:=ok.to rfl t;exact q _ B H' c a
 .cases e
theorem bh.put{H:Hp}(t:Tr F H F<|upd H r<|.l k)(G:br K F (upd H r<|.l k) l k):∀{D:a0u} {B:a0q} (j:Nat),bh K F H P D B->B.Nodup->B[j]?=on r->bh K F (upd H r<|.l k) P (D.set j l) B
 |d0::D,r0::B,0,h,nd,e=>by
  obtain rfl:r0=r:=by simpa using e
  have E:∀a∈B,a≠r0:=λa b z=>(Qi.mp nd).1<|z▸b;exact⟨h.1,⟨k,aj,G⟩,bh.tr t h.2.2 λa I b p q=>⟨p,by rw[bb<|E a b];exact q⟩⟩
 |d0::D,r0::B,j+1,h,nd,e=>by
  have c:B[j]?=on r:=by simpa using e
  obtain⟨d,⟨I,f,g⟩,i⟩:=h;have E:r0≠r:=λz=>(Qi.mp nd).1<|z▸PD c;exact⟨d,⟨I,by rw[bb E];exact f,br.tr t _ _ g⟩,bh.put t G j i (Qi.mp nd).2 c⟩
 |[],[],_,_,_,e=>by simp at e
 |[],_::_,_,h,_,_=>h.elim
 |_::_,[],_,h,_,_=>h.elim
theorem bh.at{H:Hp}:∀{ba:a0u} {rs:a0q} {j:Nat} {ds:a0c},bh K F H P ba rs->ba[j]?=on ds->∃r xs,rs[j]?=on r/\P r/\H r=on (.l xs)/\br K F H ds xs
 |d0::ba,r0::rs,0,ds,h,e=>by
  obtain rfl:d0=ds:=by simpa using e
  obtain⟨a,⟨B,b,c⟩,g⟩:=h;exact⟨r0,B,rfl,a,b,c⟩
 |d0::ba,r0::rs,j+1,ds,h,e=>by
  obtain⟨r,xs,d,f⟩:=bh.at h.2.2 (j:=j) (ds:=ds) (by simpa using e);exact⟨r,xs,by simpa using d,f⟩
 |[],[],_,_,_,e=>by simp at e
 |[],_::_,_,_,h,_=>h.elim
 |_::_,[],_,_,h,_=>h.elim
theorem fh.writeRow{E:a0q}{X:a0u}(D:fh K J B I H δ β σ)(x:σ[i]?=on (on<|.r a))(hB:B a=on (i+2))(G:H a=on (.l<|E.map V.r))(M:(a::E).Nodup)(t:bh K (ej B I) H (λr=>B r=on (i+2)) X E)(u:E[j]?=on r)(F:H r=on (.l N))(L:br K (ej B I) H ds xs):
  fh K J B I (upd H r<|.l xs) (δ.set i<|on<|.grd<|X.set j ds) β σ/\hU B H B (upd H r<|.l xs):=by
 have m:r∈E:=PD u;have f:B r=on (i+2):=(t.all r m).1;have g:hU B H B (upd H r<|.l xs):=by
  refine⟨λc o h n=>?_,λ_ _=>rfl,λ_ _ _ n=>n,λc hc=>?_⟩
  .rw[bb]
   .exact h
   .intro z;subst z;rw[f]at n;rcases n with n|n<;>cases n
  .by_cases z:c=r
   .subst z;rw[aj];simp
   .rw[bb z];exact hc
 have S:Tr (ej B I) H (ej B I) (upd H r<|.l xs):=g.tr;refine⟨⟨⟨λc hc z=>?_,D.fr.bgA,λb l e=>?_⟩,D.bgt,by rw[PX,D.len],λa G=>g.al a<|D.cov a G,D.new,λc k hc=>(by
  by_cases z:c=r
  .subst z;exact .inl ⟨xs,aj⟩
  .exact(D.lst c k hc).imp λo y=>by rw[bb z];exact y),λk s e=>?_⟩,g⟩
 .by_cases q:c=r
  .subst q;rw[aj]at z;cases z
  .rw[bb q]at z;exact D.fr.occ c hc z
 .obtain⟨b1,w⟩:=D.bgt b l e
  rw[bb (λz=>by subst z;rw[f]at b1;cases b1),bb (λz=>by subst z;rw[f]at w;cases w)];exact D.fr.bag b l e
 .rw[Q9]at e
  by_cases q:i=k
  .subst q
   rw[Pc rfl]at e;split at e
   .cases e
    have p:a≠r:=λz=>(Qi.mp M).1<|z▸m;exact⟨_,x,a,E,rfl,hB,by rw[bb p];exact G,M,bh.put S (br.tr S _ _ L) j t (Qi.mp M).2 u⟩
   .cases e
  .rw[Pd q]at e
   obtain⟨v,A,C⟩:=D.tell k s e;exact⟨v,A,C.tr S λc d=>⟨d,λo z=>(bb λy=>by subst y;rw[f]at d;cases d;exact q rfl).trans z⟩⟩
def mU(f:Dn->M a0u):G:=λδ β=>match f (vw δ) β with
 |some (.ok ba,β1)=>on (.rg ba,β1)
 |some (.error C,β1)=>on (.ex C δ,β1)
 |none=>OZ
theorem Jl(h:PS X (.Return (on e) n)<|FI<|tVG X.K f E):PS X (.Return (on e) n) (tG X.K X.H₀ (mU f) E):=h.imp λD σ H j=>by
 obtain⟨B,I,δ,β,o,aa,ok,e,q⟩:=j;refine⟨ej B I,vw δ,β,ok.fr,ok.view,?_⟩;unfold mU at e;split at e
 .rename_i ba β1 d
  cases e;refine⟨.ok ba,_,d,λv H' t G=>?_⟩;obtain⟨b,g⟩:=ok.to rfl t;have i:∀c,H c=OZ->X.H₀ c=OZ:=λc hc=>by
   cases w:X.H₀ c with
   |none=>rfl
   |some o=>exact PU hc (ok.cov c<|by rw[w];simp)
  obtain⟨a,J,rfl,k,l,M,m⟩:=G;exact q _ B H' g b.fr ⟨a,J,rfl,i a k,l,M,bh.tr (Tr.refl _ _) m λr S _ p y=>⟨i r p,y⟩⟩
 .rename_i C β1 d
  cases e;refine⟨.error C,_,d,λH' t=>?_⟩;obtain⟨b,g⟩:=ok.to rfl t;exact q _ B H' g b
 .cases e
def spG(K:Pz)(n:Nat)(m:a0c->M a0u):Sp:=λB H Q E=>VX B=n/\∃F D β,Fr F H β/\br K F H D B/\run (iH K F H) F (λ_=>E) [] (m D) H Q β
def oE(n:Nat)(g:G):a0c->M a0u:=λB β=>match g (o4 n B) β with
 |some (.rg ba,aa)=>on (.ok ba,aa)
 |some (.ex C _,aa)=>on (.error C,aa)
 |_=>OZ
variable{P:P6}{w:Qb}{mg:a0i}{ab:Qt}
theorem J9{st:QD}{N V:a0h}(n m:Nat)(g:G)(F:hW K x qual st f fd)(S:b5 N V<|ae st)(L:VX V=n)(O:VX N=m)
  (j:∀(c:Pb) (A:Qy) (D:a0D) (s:Pe) (H:Hp) (E:XK),ee k (A.deeper<|Ud qual (ae st) s.heap.objs.size f c)->
   PSs (dm (f0 P w) P w K mg ab N qual (ae st) f c A D s H E) (cF st) (tG K H g (λ_=>E))):en P w K mg ab (f0 P w) (k+1) f fd V (spG K n<|oE m g):=by
 subst L O;refine F.okE S (λvs H Q E h=>h.1) λc A D s H vs Q E hr h=>?_;obtain⟨hl,u,X,β,fr,hd,r,aa,e,h⟩:=h;refine⟨_,j c A D s H E hr,?_⟩;obtain⟨B,ok,R,h1,hn⟩:=vi (N:=N) fr hd;have J:∀{I:Ow} {H':Hp},hU B H I H'->Fr (ej I u.bg) H' aa->To u H H' aa/\Tr (ej I u.bg) H' u H':=λ{I H'} s i=>by
  have hs:∀a,u.A a->I a≠OZ:=λa M=>by
   rw[s.tg a<|R a M];rcases R a M with z|z<;>rw[z]<;>simp
  refine⟨⟨λa o M n=>s.kp a o M ?_,λa M=>i.occ a<|hs a M,λb l e=>fr.bgA b l e,i.bag⟩,λa M _ z=>M<|hs a z,λ_ _ _ h=>h,rfl⟩;cases q:B a with
  |none=>exact .inl rfl
  |some t=>
   have:=R a (hn a<|by rw[q];simp);rcases this with z|z
   .rw[q]at z;exact .inr z
   .obtain⟨b,l,e,w⟩:=h1 a z
    obtain⟨T,n2⟩:=n b l e;rcases w with w|w
    .exact PU w T
    .exact PU w n2
 unfold oE at e;split at e
 .rename_i d β1 U
  cases e;refine⟨B,u.bg,o4 (VX N) X,β,.rg d,aa,ok,U,λv I H' s i hv=>?_⟩;obtain⟨W,t2⟩:=J s i;obtain⟨a,rs,ev,n0,T,nd,rl⟩:=hv;exact h v H' W ⟨a,rs,ev,n0,T,nd,bh.tr t2 rl λr xs _ p y=>⟨p,y⟩⟩
 .rename_i C Y β1 U
  cases e;refine⟨B,u.bg,o4 (VX N) X,β,.ex C Y,aa,ok,U,λac I H' s Z=>?_⟩;obtain⟨W,t2⟩:=J s Z.fr;exact h H' W
 .cases e
variable{e:Expr}{z:List Expr}{s p:Uq}{x:Qa}{k n:Nat}{f:O7}{P:PP}{B:a0h}
def wI(m:a0c->M a0u)(g:FL):Dn->M a0u:=λδ=>M.v (g δ) λe=>m e
theorem iH.pre{K:Pz}{H b H':Hp}(t:To F H b j)(h:iH K F b H' ba v):iH K F H H' ba v:=by
 obtain⟨a,e,c,d,g,f,i⟩:=h;exact⟨a,e,c,t.none d,g,f,bh.tr (Tr.refl _ _) i λr k _ p y=>⟨t.none p,y⟩⟩
theorem MG(G:en X.p X.w X.K X.mg X.base (f0 X.p X.w) k f P B<|spG X.K n m)(q:ee k X.A)(u:Gl X x)(V:X.mg x=on (.ref f))(y:Vo X.K (.ref f)=O6)(I:cq X.K P B [])(J:bU (f0 X.p X.w) X E)
  (ha:PA X (e::z)<|i_ X.K g E) (hn:∀δ β r aa,g δ β=on (.ok r,aa)->VX r=n) (a:b0c x:=by decide) (L:b0a X e z:=by rfl) (b:b0b X s z:=by rfl):
  PE X (.Call (.Name x p) (e::z) [] s) (tVG X.K (wI m g) E):=
 (nX G q u V y I .nil J ha a L b).imp λσ H Q N=>lm N λF δ β fr O r=>⟨F,δ,β,fr,O,by
  obtain⟨r0,c,h,i⟩:=run.bind (R:=br X.K F) r;refine⟨r0,c,h,?_⟩;cases r0 with
  |error C=>exact i
  |ok ds=>
   intro vs T t S;obtain⟨d',D,j,d,r1⟩:=i vs T t S;have U:=hn _ _ _ _ h;refine⟨by rw[QI,<-S.length,U],F,d',D,j.fr,by rw[QI];exact d,?_⟩;obtain⟨l,M,W,o⟩:=r1;refine⟨l,M,W,?_⟩;cases l with
   |ok ba=>exact λv H' Y Z=>o v H' Y<|iH.pre j Z
   |error C=>exact o⟩
end
end L2.Pu
namespace L2
end L2
namespace L2.Pu
section
variable{X:Cx}{E:a0r}{K:Pz}
def oJ(K:Pz)(E:a0i)(x:Qa)(d:D):Prop:=∃u v,E x=on u/\aL v u/\∀F H,c4 K F H d v
theorem l3(c:oJ X.K X.mg x d)(a:Gl X x:=by rfl)(D:b0c x:=by decide):PE X (.Name x g) (tV X.K (fC d) E):=by
 obtain⟨u,v,b,e,f⟩:=c;exact r8 (JA a b e D) f
mutual
noncomputable def ni:D->Option Yw
 | .o=>on .none
 | .c b=>on<|.bool b
 | .n i=>on<|.int i
 | .q x=>on<|.str x
 | .l xs=>(toPs xs).map VP
 | .t xs=>(toPs xs).map PyData.tuple
 |_=>OZ
noncomputable def toPs:a0c->Option (List Yw)
 |[]=>on []
 |x::xs=>match ni x,toPs xs with
  |some p,on ps=>on<|p::ps
  |_,_=>OZ
end
mutual
theorem kN{s:Pe}(I:cx X w y H s):∀(d:D) (v:V) (u:Pb) (p:Yw),c4 X.K F H d v->ni d=on p->aL v u->∃G,Reads s.heap u p G
 | .o,v,u,p,h,e,r=>by cases e;cases h.j8;cases r;exact⟨_,.none⟩
 | .c b,v,u,p,h,e,r=>by cases e;cases h.bl;cases r;exact⟨_,.bool b⟩
 | .n i,v,u,p,h,e,r=>by cases e;cases h.int;obtain⟨t,rfl⟩:=r;exact⟨_,.int i t⟩
 | .q x,v,u,p,h,e,r=>by cases e;cases h.j9;obtain⟨t,rfl⟩:=r;exact⟨_,.str x t⟩
 | .l xs,v,u,p,h,e,r=>by
  unfold ni at e;cases q:toPs xs with
  |none=>rw[q]at e;cases e
  |some M=>
   rw[q]at e;cases e;obtain⟨a,S,rfl,j,k⟩:=c4.j6 h;cases r;obtain⟨E,c,l,_⟩:=I.list j;obtain⟨G,f⟩:=reads_L I xs S E M k q c;obtain⟨o,g,hc,n,m⟩:=l.isList;exact⟨_,.list g hc m<|by simpa using f⟩
 | .t xs,v,u,p,h,e,r=>by
  unfold ni at e;cases q:toPs xs with
  |none=>rw[q]at e;cases e
  |some M=>
   rw[q]at e;cases e;obtain⟨a,S,rfl,j,k⟩:=c4.f5 h;cases r;obtain⟨E,c,l,_⟩:=I.tuple j;obtain⟨G,f⟩:=reads_L I xs S E M k q c;obtain⟨o,g,hc,n,m⟩:=l;exact⟨_,.tuple g hc m<|by simpa using f⟩
 | .ty _,_,_,_,_,e,_=>by cases e
 | .txt,_,_,_,_,e,_=>by cases e
 | .scr _,_,_,_,_,e,_=>by cases e
 | .obj _ _ _,_,_,_,_,e,_=>by cases e
 | .bag,_,_,_,_,e,_=>by cases e
 | .adr _,_,_,_,_,e,_=>by cases e
 | .dct _ _ _,_,_,_,_,e,_=>by cases e
theorem reads_L{s:Pe}(I:cx X l m H s):∀(E:a0c) (D:a0j) (G:a0g) (M:List Yw),br X.K F H E D->toPs E=on M->au D G->∃S,ReadsAll s.heap G M S
 |[],D,G,M,h,e,r=>by
  have q:D=[]:=h;subst q;cases e;cases r;exact⟨_,.nil⟩
 |d::E,D,G,M,h,e,r=>by
  obtain⟨x,a,rfl,b,c⟩:=h;unfold toPs at e;split at e
  .rename_i p pr f g
   cases e;cases r with
   |cons r1 i=>
    obtain⟨S,j⟩:=kN I d x _ p b f r1;obtain⟨V,k⟩:=reads_L I E a _ pr c g i;exact⟨_,.cons j k⟩
  .cases e
end
def mZ(a b:D):a0N:=match ni a,ni b with
 |some p,on q=>if(UA p&&UA q)=O6 then on (Th p q)else OZ
 |_,_=>OZ
def g9(a b:D):a0m:=match eqS a b with
 |some c=>on<|.c c
 |none=>(mZ a b).map D.c
def jI(a b:D):a0m:=match eqS a b with
 |some c=>on<|.c<|!c
 |none=>(mZ a b).map λc=>D.c<|!c
def rP(X:Cx)(g:Bool->Bool):R2:=λx y H Q=>∃(F:Fx) (a b:D) (c:Bool),c4 X.K F H a x/\c4 X.K F H b y/\mZ a b=on c/\Q (.c<|g c) H
theorem ue{c:Bool}(h:mZ a b=on c):∃p q,ni a=on p/\ni b=on q/\UA p=O6/\UA q=O6/\c=Th p q:=by
 unfold mZ at h;split at h
 .rename_i p q d e
  split at h
  .rename_i hs
   rw[PV]at hs;cases h;exact⟨p,q,d,e,hs.1,hs.2,rfl⟩
  .cases h
 .cases h
theorem LO(f:ee k X.A):f_ X (QX .Eq) (rP X id):=by
 intro d s r H x y v u Q I g i h;obtain⟨F,a,b,c,D,E,e,q⟩:=h;obtain⟨p,G,j,l,m,n,rfl⟩:=ue e;obtain⟨K,r1⟩:=kN I a x v p D j g;obtain⟨M,o⟩:=kN I b y u G E l i;exact eq_dataH r1 o m n f.f5 ⟨.c _,H,I,rfl,q⟩
theorem LM(f:ee k X.A):f_ X (QX .NotEq) (rP X not):=by
 intro d s r H x y v u Q I g i h;obtain⟨F,a,b,c,D,E,e,q⟩:=h;obtain⟨p,G,j,l,m,n,rfl⟩:=ue e;obtain⟨K,r1⟩:=kN I a x v p D j g;obtain⟨M,o⟩:=kN I b y u G E l i;exact ne_dataH r1 o m n f.f5 ⟨.c _,H,I,rfl,q⟩
theorem e8(a:ee k X.A):f_ X (QX .Eq) (λx y H Q=>rEq x y H Q\/rP X id x y H Q):=NX.or<|LO a
theorem gz(a:ee k X.A):f_ X (QX .NotEq) (λx y H Q=>rNe x y H Q\/rP X not x y H Q):=NV.or<|LM a
theorem gC:aX X.K (λx y H Q=>rEq x y H Q\/rP X id x y H Q) g9:=λF H G Q D E d h i fr a b e k=>by
 unfold g9 at e;split at e
 .rename_i c q
  cases e;obtain⟨f,g⟩:=EU q a b;exact .inl ⟨f,by rw[g];exact k _ H (To.refl fr) rfl⟩
 .cases q:mZ D E with
  |none=>rw[q]at e;cases e
  |some c=>rw[q]at e;cases e;exact .inr ⟨F,D,E,c,a,b,q,k _ H (To.refl fr) rfl⟩
theorem i5:aX X.K (λx y H Q=>rNe x y H Q\/rP X not x y H Q) jI:=λF H G Q D E d h i fr a b e k=>by
 unfold jI at e;split at e
 .rename_i c q
  cases e;obtain⟨f,g⟩:=EU q a b;exact .inl ⟨f,by rw[g];exact k _ H (To.refl fr) rfl⟩
 .cases q:mZ D E with
  |none=>rw[q]at e;cases e
  |some c=>rw[q]at e;cases e;exact .inr ⟨F,D,E,c,a,b,q,k _ H (To.refl fr) rfl⟩
theorem OS(i j:Int):g9 (.n i) (.n j)=on (.c<|decide (i=j)):=rfl
theorem OR(i j:Int):jI (.n i) (.n j)=on (.c<|!decide (i=j)):=rfl
def oC(d:D):Bool:=match ni d with
 |some p=>UA p
 |none=>O8
theorem Id{C:a0V}{c:Int->Int->Bool}{g:a0J}(hc:∀i j,c i j=O6->C i j):aX K (ipC C g) (o1 λi j=>if c i j=O6 then on (.n<|g i j)else OZ):=λF H D Q E G d h l fr b f e k=>by
 obtain⟨i,j,rfl,rfl,a⟩:=jH e;split at a
 .cases a
  exact⟨i,j,b,f,hc _ _ (by assumption),k _ H (To.refl fr) rfl⟩
 .cases a
def addI:D->D->a0m:=o1 λi j=>on<|.n<|i+j
theorem x6:aX K (ipI λi j=>i+j) addI:=λF H D Q E G d f g fr a b e k=>by
 obtain⟨i,j,rfl,rfl,c⟩:=jH e;cases c;exact⟨i,j,a,b,k _ H (To.refl fr) rfl⟩
theorem x9:PIp X .Mult (ipC uV λi j=>i*j):=by
 intro a s e H x y v u Q I b d h;obtain⟨i,j,rfl,rfl,c,q⟩:=h;obtain⟨t,rfl⟩:=b;obtain⟨D,rfl⟩:=d;exact imul_int ⟨.n _,H,I.tok _,⟨_,rfl⟩,q⟩<|YQ (kx c.1)<|kx c.2
theorem x5:aX K (ipC uV λi j=>i*j) mH:=Id λi j h=>by
 simp only[PV,h9,P9]at h;exact h
theorem GN:aX K (ipC uW λi j=>i/j) z6:=Id λi j h=>by
 simp only[PV,P9]at h;exact h
abbrev gm:=FO
theorem E9(hc:X.calm=O6):dg X (.builtin "sum") (λE H Q=>∃(a:O7) (D:a0e),E=[.r a]/\eX X.K H a (D.map V.n)/\Q (.n D.sum) H):=ug hc
theorem Me:ef K (λE H Q=>∃(a:O7) (D:a0e),E=[.r a]/\eX K H a (D.map V.n)/\Q (.n D.sum) H) gm:=N9
def IH(H:Hp)(b l:O7):Prop:=∃(D:a0e) (i j:Int),H b=on (.l [.r l,.n i,.n j])/\H l=on (.l<|D.map V.n)/\D≠[]/\VX D<=64/\(∀c∈D,0<=c)/\0<=j
theorem JY(h:k<n):p5 n (k:Int)=on k:=by
 unfold p5;rw[Pc (by lia),Pc<|by lia];simp
theorem OU(D:a0e):∃E:a0e,mY (D.map V.n) OZ (on 63)=E.map V.n/\VX E<=63:=by
 refine⟨(D.drop<|HT.sIx (VX D) 0 OZ).take<|HT.sIx (VX D) (VX D) (on 63)-HT.sIx (VX D) 0 OZ,?_,?_⟩
 .unfold mY
  rw[OY,Wj,Uj]
 .rw[Tu]
  have:HT.sIx (VX D) (VX D) (on 63)<=63:=by
   unfold HT.sIx;simp;lia
  lia
def NB(K:Pz):Sp:=λD H Q _=>∃(a:O7) (E:a0e),D=[.r a]/\eX K H a (E.map V.n)/\∀(b l:O7) (c:Hp),H b=OZ->H l=OZ->IH c b l->bP H c->Q (.r b) c
def HC(K:Pz):Sp:=λE H Q _=>∃(a:O7) (D:a0e),E=[.r a]/\eX K H a (D.map V.n)/\VX D<=63/\∀b,Q (.c O6) b
theorem Kk(sm:bP H₀ H)(y:H₀ b=OZ)(A:H₀ l=OZ)(B:IH H b l):∃E,E.ok/\fh K H₀ (λc=>if c=b\/c=l then on 1 else OZ) (on (b,l)) H (OZ::on (.h .bag)::Py n OZ) E (on (.r a)::on (.r b)::Py n OZ):=by
 obtain⟨D,i,j,f,g,m,u,v,w⟩:=B;have h:b≠l:=N2 f g (by
  intro z;cases D with
  |nil=>exact m rfl
  |cons c r=>simp at z)
 refine⟨⟨D,i,j⟩,⟨m,u,v,w⟩,⟨⟨λc hc=>?_,λp t e=>?_,λp t e=>?_⟩,λp t e=>?_,by simp,λc hc=>?_,λc k hc=>(by
  have d:(if c=b\/c=l then on 1 else OZ)=on (k+2):=hc;split at d<;>cases d),λc k hc=>(by
  have d:(if c=b\/c=l then on 1 else OZ)=on (k+2):=hc;split at d<;>cases d),λk s e=>?_⟩⟩
 .have d:(if c=b\/c=l then on 1 else OZ)≠(OZ:a0H):=hc
  split at d
  .rename_i q
   rcases q with rfl|rfl
   .rw[f];simp
   .rw[g];simp
  .exact PU rfl d
 .cases e
  refine⟨?_,?_,h⟩
  .show(if b=b\/b=l then on 1 else OZ)≠(OZ:a0H)
   rw[Pc<|.inl rfl];simp
  .show(if l=b\/l=l then on 1 else OZ)≠(OZ:a0H)
   rw[Pc<|.inr rfl];simp
 .cases e
  exact⟨f,g⟩
 .cases e
  exact⟨Pc<|.inl rfl,Pc<|.inr rfl⟩
 .cases q:H₀ c with
  |none=>exact PU q hc
  |some o=>rw[sm c o q];simp
 .match k with
  |0=>simp at e
  |1=>
   simp at e;subst e;exact⟨.r b,rfl,b,l,rfl,rfl⟩
  |k+2=>
   simp only[X9,R3]at e;split at e<;>cases e
variable{P:P6}{w:Qb}{mg:a0i}{base:Qt}
theorem jQ{M:QD}{N V:a0h}(n m:Nat)(g:G)(F:hW K x c M f h)(S:b5 N V<|ae M)(d:VX V=n)(e:VX N=m)
  (a:∀(b:Pb) (A:Qy) (D:a0D) (s:Pe) (H:Hp) (E:XK),ee k (A.deeper<|Ud c (ae M) s.heap.objs.size f b)->
   PSs (dm (f0 P w) P w K mg base N c (ae M) f b A D s H E) (cF M) (tG K H g (λ_=>E))):en P w K mg base (f0 P w) (k+1) f h V (KX K n<|d8 m g):=by
 subst d e;exact J7 F S a
end
end L2.Pu
namespace L2
theorem di.ofB{X:Cx}{w:Scope}{D:a0a}(k:w.kind= .function)(E:(w.names.map (·.1)).Nodup)
  (fr:(w.names.all λy=>y.2 != .free||(X.e.scope.names.lookup y.1==on .cell||X.e.scope.names.lookup y.1==on .free))=O6) (G:Nc=c_++D.map (λj=>X.N.getD j Ta))
  (a:(D.all λj=>decide (j<VX X.N)&&w.names.lookup (X.N.getD j Ta)==on .free)=O6):di X w Nc c_ D:=by
 refine⟨k,E,λy b e=>?_,G,λj c=>?_⟩
 .have:=Sf.mp fr y b
  rw[e]at this;simp only[S8,Bool.false_or,W7,Se]at this;exact this
 .have:=Sf.mp a j c
  simp only[PV,P9,Se]at this;exact this
end L2
namespace L2.Pu
end L2.Pu
namespace L2.Pu
section
variable{X:Cx}{E:a0r}{K:Pz}{z A u:Expr}{w:List Expr}{v:a0O}{t:Scope}{y:Uq}{B J:a0h}{I:a0a}{g:TG}{F:a0X}
theorem K2{a c:Uq}(j:X.N.Nodup)(d:X.N[i]?=on x)(k:F3 X.e.scope x)(hc:X.calm=O6)(S:di X t B J I)(l:PI X A u<|iV X.K O E)
  (m:∀(G:a0n) (C:O7) (f:a0q) (s:Pe) (H:Hp),PG (aI X B t G C f s H) A g/\dW (aI X B t G C f s H) w (g0 X.K Q E0)/\∀D,PB (aI X B t G C f s H) z (⟨A,u,w,0⟩::v) t y 0 D<|F D)
  (n:cN X.K g L) (o:dT L) (p:∀D,rn X.K D (F D) b)
  (e:TU (.ListComp z (⟨A,u,w,0⟩::v) t y) (on<|.Name x a) c.line X.e=Rz O6:=by rfl)
  (M:∀x,Qq u X.e x=Rz x:=by intro _;rfl) (q:b0d X x:=by first|exact .inl rfl|exact .inr rfl|assumption):
  PS X (.Assign [.Name x a] (.ListComp z (⟨A,u,w,0⟩::v) t y) c) (tG X.K X.H₀ (sk i<|iD (VX J) I O L Q b) E):=
 HH ((xL j d k hc S l m e M q).imp λD r H h=>sR n o p h)
end
end L2.Pu
namespace L2
section
variable{X:Cx}
theorem Ha{D:a0Y}{w:a0g}(r:au (D.map V.c) w){i:Nat}{v:Pb}(h:w.toArray[i]?=on v):v= .bool (D.getD i O8):=by
 have E:w[i]?=on v:=by simpa using h
 have a:=r.length;rw[OY]at a;have b:i<VX D:=by rw[a];exact(Pl.mp E).1
 obtain⟨u,c,d⟩:=r.get (i:=i) (x:=V.c D[i]) (by rw[O9,O4 b];rfl);rw[E]at c;cases c;rw[O5,O4 b];exact d
theorem CJ{α:Type}(f:Bool->Bool)(w:a0Y):(Ph<|VX w).map (λi=>w.getD i O8)=w:=by
 apply ZP;intro i;rw[O9];by_cases h:i<VX w
 .rw[QU h,O4 h]
  simp[O5,O4 h]
 .rw[Ri (by simpa using h),Ri<|by lia];rfl
theorem CK(w:a0Y):((Ph<|VX w).any λi=>w.getD i O8)=w.any id:=by
 conv=>rhs;rw[<-CJ (α:=Bool) id w]
 rw[List.any_map];rfl
theorem m7(hc:X.calm=O6):dg X (.builtin "any") (λG H Q=>∃(a:O7) (E:a0Y),G=[.r a]/\eX X.K H a (E.map V.c)/\Q (.c<|E.any id) H):=by
 intro j s u H G P Q I r h;obtain⟨a,E,rfl,l,q⟩:=h;cases r with
 |cons r1 m=>
  cases r1;cases m;obtain⟨D,k,p,y⟩:=I.list l;have f:=p.isList;have c:D.toArray.size=VX E:=by rw[PH,<-k.length,OY]
  have d:∀b o,s.heap.get? b=on o->b≠s.heap.objs.size:=λb o e z=>by
   rw[z,YO<|Pg _]at e;cases e
  have g:a≠s.heap.objs.size:=by
   obtain⟨o,e,_⟩:=f;exact d a o e
  have W:=Walks.list (prog:=X.p) (w:=X.w) (A:=X.A.in1) (show X.A.in1.handled=OZ from I.ok.hd hc) s.heap.objs.size a g D.toArray;refine call_any_walk<|VB f ⟨s.heap.objs.size,[s.heap.objs.size,a],[s.heap.objs.size],D.toArray.size,_,_,λi=>E.getD i O8,rfl,W,⟨⟨_,Px s.heap rfl,rfl,rfl⟩,f.push _⟩,λi v S B C n M=>?_,λx F t=>?_⟩
  .rw[Ha k n]
   exact QR M
  .rw[c,CK]
   exact⟨.c<|E.any id,H,I.kept λb o e=>t b o (λz=>d b o e<|by simpa using z)<|O3 _ e,rfl,q⟩
end
end L2
namespace L2.Pu
noncomputable def eG:a0c->Option a0Y
 |[]=>on []
 | .c b::r=>(eG r).map (b::·)
 |_=>OZ
theorem oW{K:Pz}:∀{w:a0c} {D:a0j} {E:a0Y},eG w=on E->br K F H w D->D=E.map V.c
 |[],D,E,e,h=>by
  cases e;cases h;rfl
 |d::w,D,E,e,h=>by
  obtain⟨x,f,rfl,a,c⟩:=h;cases d<;>first
   |(rename_i b
     cases q:eG w with
     |none=>simp[eG,q]at e
     |some r=>
     simp[eG,q]at e;subst e;cases a.bl;rw[oW q c];rfl)
   |simp[eG]at e
def AH:a0c->a0m
 |[.l ds]=>(eG ds).map λw=> .c<|w.any id
 |_=>OZ
variable{K:Pz}
theorem zF:ef K (λD H Q=>∃(a:O7) (w:a0Y),D=[.r a]/\eX K H a (w.map V.c)/\Q (.c<|w.any id) H) AH:=λF H G Q M d P fr h e k=>by
 unfold AH at e;split at e
 .obtain⟨v,rfl,g⟩:=br.j6 h
  obtain⟨a,D,rfl,r,E⟩:=c4.j6 g;obtain⟨w,q,e⟩:=Rm.mp e;subst e;rw[oW q E]at r;exact⟨a,w,rfl,r,k _ H (To.refl fr) rfl⟩
 .cases e
end L2.Pu
namespace L2
section
variable{X:Cx}{a b c d:Expr}{ta w tc P:TE}{aa:Uq}
def Nu(i e:R2)(tc P:TE)(y:V):TE:=λf H Q=>tc f H λw j=>i y w j λk g=>∃h,k= .c h/\(if h=O6 then P f g λl m=>e w l m Q else Q (.c O8) g)
def xp(r h e:R2)(ta w tc P:TE):TE:=λf H Q=>ta f H λx i=>w f i λy j=>r x y j λz g=>∃k,z= .c k/\(if k=O6 then Nu h e tc P y f g Q else Q (.c O8) g)
theorem CS(F:f_ X (QX op) r)(l:f_ X (QX op') r')(i:f_ X (QX op'') r'')(K:PE X a ta)(J:PE X b w)(hc:PE X c tc)(M:PE X d P)
  (S:ZI [op,op',op''] [b,c,d]=O8:=by with_unfolding_all rfl):PT X (.Compare a [op,op',op''] [b,c,d] aa) (yI<|xp r r' r'' ta w tc P):=by
 intro f s g H Q I h;refine isTrue_chain (d5 (K f s g H _ I h) λv L ⟨x,N,O,r1,V⟩=>test_link (d5 (J f L g N _ O V) λu R ⟨y,T,U,n,q2⟩=>
  d5 (F f R g T x y v u _ U r1 n q2) λdd W ⟨z,o,p,Y,k,e,E⟩=>?_)) S
 subst e;cases Y;refine QR ?_;cases k with
 |false=>
  obtain⟨m,j,D⟩:=E;cases j;exact ite_ff ⟨o,p,D⟩
 |true=>
  refine ite_tt<|test_link<|d5 (hc f W g o _ p E) λq Z ⟨t,H4,I4,A,q4⟩=>d5 (l f Z g H4 y t u q _ I4 n A q4) λdd s5 ⟨z',B,C,r5,m,j,G⟩=>?_;subst j;cases r5;refine QR ?_;cases m with
  |false=>
   obtain⟨m,j,D⟩:=G;cases j;exact ite_ff ⟨B,C,D⟩
  |true=>
   refine ite_tt<|test_last<|d5 (M f s5 g B _ C G) λw' s6 ⟨z2,H6,I6,r6,q6⟩=>d5 (i f s6 g H6 t z2 q w' _ I6 A r6 q6) λd' s7 ⟨z3,H7,I7,r7,k3,e3,q7⟩=>?_;subst e3;cases r7;exact QR ⟨H7,I7,q7⟩
end
end L2
namespace L2.Pu
section
variable{X:Cx}{E:a0r}{a b c d:Expr}{pos:Uq}{K:Pz}
def Iw(f e:a0R)(h i:FD)(y:D):FD:=λa=>M.v (h a) λw=>M.v (M.f<|f y w) λz=>M.v (M.f<|asB z) λc=>if c=O6 then M.v (i a) (λg=>M.f<|e w g)else M.j7 (.c O8)
def oB(o j e:a0R)(f g h i:FD):FD:=λd=>M.v (f d) λa=>M.v (g d) λb=>M.v (M.f<|o a b) λz=>M.v (M.f<|asB z) λc=>if c=O6 then Iw j e h i b d else M.j7 (.c O8)
theorem run.j8{c i:Type}{R:Hp->c->i->Prop}{F:Fx}{j:St}{m:M c}{H k:Hp}{Q:i->Hp->Prop}{a:Bg}(t:To F H k a)(h:run R F E j m H Q a):run R F E j m k Q a:=by
 obtain⟨l,f,e,q⟩:=h;refine⟨l,f,e,?_⟩;cases l with
 |ok d=>exact λv g b=>q v g<|t.trans b
 |error C=>exact λg b=>q g<|t.trans b
theorem yL(l:aX K r o)(l':aX K r' o')(O:aX K s x)(T:tV K (oB o o' x f g h i) E σ H Q):xp r r' s (tV K f E) (tV K g E) (tV K h E) (tV K i E) σ H Q:=by
 obtain⟨F,b,β,fr,U,T⟩:=T;refine⟨F,b,β,fr,U,(run.bind (R:=c4 K F) T).mono λv H1 n=>pj n λd D t hd r1=>⟨F,b,D,t.fr,U.tr<|t.tr fr,(run.bind (R:=c4 K F) r1).mono λV H2 n=>pj n λX a p u r2=>?_⟩⟩;obtain⟨z,ez,r3⟩:=run.f5 r2;obtain⟨c,ec,L⟩:=run.f5 r3;rw[jW ec]at ez;have W:=U.tr<|(t.tr fr).trans<|p.tr t.fr;refine l F H2 a _ d X _ v V p.fr (c4.tr (p.tr t.fr) _ _ hd) u ez λvz H3 j hz=>⟨c,hz,?_⟩;cases c with
 |true=>
  rw[Pc rfl]at L;have Y:=c4.tr (j.tr p.fr) _ _ u;have y:=W.tr<|j.tr p.fr;have r5:=run.j8 j L;refine⟨F,b,a,j.fr,y,(run.bind (R:=c4 K F) r5).mono λw H4 n=>pj n λdw A B C r6=>?_⟩;obtain⟨z',I,r7⟩:=run.f5 r6;obtain⟨c',Z,N⟩:=run.f5 r7;rw[jW Z]at I;refine l' F H4 A _ X dw _ V w B.fr (c4.tr (B.tr j.fr) _ _ Y) C I λaa H5 m G=>⟨c',G,?_⟩;cases c' with
  |true=>
   rw[Pc rfl]at N;refine⟨F,b,A,m.fr,y.tr<|(B.tr j.fr).trans<|m.tr B.fr,(run.bind (R:=c4 K F)<|run.j8 m N).mono λw' H6 ⟨M,P,t6,J,r9⟩=>?_⟩;obtain⟨d3,e3,k⟩:=run.j6 r9;exact O F H6 P Q dw M d3 w w' t6.fr (c4.tr ((m.tr B.fr).trans<|t6.tr m.fr) _ _ C) J e3 k
  |false=>
   rw[Pd Pf]at N;obtain⟨rr,S,e,q⟩:=N;cases e;exact q _ H5 m rfl
 |false=>
  rw[Pd Pf]at L;obtain⟨rr,S,e,q⟩:=L;cases e;exact q _ H3 j rfl
theorem FH(m:f_ X (QX op) r)(j:f_ X (QX u) y)(e:f_ X (QX s) v)(l:aX X.K r o)(n:aX X.K y z)(k:aX X.K v x)(w:PE X a<|tV X.K f E)(p:PE X b<|tV X.K g E)(hc:PE X c<|tV X.K h E)(D:PE X d<|tV X.K i E)(G:ZI [op,u,s] [b,c,d]=O8:=by with_unfolding_all rfl):
  PT X (.Compare a [op,u,s] [b,c,d] pos) (g0 X.K (fB<|oB o z x f g h i) E):=(CS m j e w p hc D G).imp λt H Q q=>yL l n k<|oZ q
variable{st:QD}{o:Hp}{B:Ow}{bg:a0s}{H u:Hp}{δ:Ds}{β P:Bg}{σ:St}
theorem hL{b:Type}{x y:b}:∀{l:List b} {j:Nat},x∈l.set j y->x=y\/x∈l
 |[],_,h=>by cases h
 |a::l,0,h=>by
  rcases Pr.mp h with rfl|h
  .exact .inl rfl
  .exact .inr (O1 _ h)
 |a::l,j+1,h=>by
  rcases Pr.mp h with rfl|h
  .exact .inr Pa
  .rcases hL h with z|z
   .exact .inl z
   .exact .inr (O1 _ z)
theorem fh.AtoB(a:fh K o B bg H δ β σ):∀c,(ej B bg).A c->(na B bg).A c\/F0 H c:=λc hc=>by
 have e:B c≠OZ:=hc;cases q:B c with
 |none=>exact PU q e
 |some k=>
  match k,q with
  |0,q=>exact .inl<|.inl q
  |1,q=>exact .inl<|.inr q
  |k+2,q=>exact .inr<|a.lst c k q
theorem fh.noB{d:D}(a:fh K o B bg H δ β σ)(b:noL d=O6)(h:c4 K (na B bg) H d v):c4 K (ej B bg) H d v:=xV a.AtoB d v b h
def qP(i:Nat)(e f g:FD):G:=λδ β=>match g (hE δ) β with
 |some (.ok d,β1)=>match e (hE δ) β1 with
  |some (.ok (.n ka),β2)=>match f (hE δ) β2 with
   |some (.ok (.n kb),β3)=>match δ.getD i OZ with
    |some (.grd ba)=>match p5 (VX ba) ka with
     |some a=>match ba[a]? with
      |some b=>match p5 (VX b) kb with
       |some c=>if noL d=O6 then on (.nx<|δ.set i<|on<|.grd<|ba.set a<|b.set c d,β3)else OZ
       |none=>OZ
      |none=>OZ
     |none=>OZ
    |_=>OZ
   |_=>OZ
  |_=>OZ
 |_=>OZ
theorem CC(h:PS X st<|gl (tV X.K fv E)<|zU (tOp (y7 X.K) (l5 i)<|tV X.K fa E) (tV X.K fb E) y0):PS X st (tG X.K X.H₀ (qP i fa fb fv) E):=h.imp λD σ H h_=>by
 obtain⟨B,bg,δ,β,o,P,ok,e,q⟩:=h_;refine⟨na B bg,hE δ,β,ok.j6,ok.f5,?_⟩;unfold qP at e;split at e
 .rename_i d β1 e1
  refine⟨.ok d,_,e1,λv H1 t1 G=>?_⟩;obtain⟨f,s1⟩:=ok.to rfl t1;split at e
  .rename_i ka β2 e2
   split at e
   .rename_i kb β3 e3
    split at e
    .rename_i ba O
     split at e
     .rename_i ja ea
      split at e
      .rename_i ds er
       split at e
       .rename_i jb eb
        split at e
        .rename_i Q
         cases e;have G:=f.noB Q G;obtain⟨w,N,a,rs,rfl,hB,ha,nd,rl⟩:=f.tell i _<|getD_some O;refine⟨_,N,na B bg,hE δ,β1,f.j6,f.f5,.ok<|.n ka,β2,e2,λy H2 t2 hy=>?_⟩;cases hy;obtain⟨j,S⟩:=f.to (F:=na B bg) rfl t2;obtain⟨w2,s,a2,g,ew,k,m,aa,n⟩:=j.tell i _<|getD_some O;rw[N]at s;cases s;cases ew;obtain⟨r,xs,R,hp,hx,dl⟩:=n.at er;refine⟨a,g.map V.r,ka,.r r,rfl,rfl,eX.of m,?_,?_⟩
         .unfold v0
          rw[OY,<-n.len,ea];show(g.map V.r)[ja]?=_;rw[O9,R];rfl
         .refine⟨na B bg,hE δ,β2,j.j6,j.f5,.ok<|.n kb,_,e3,λz x t3 hz=>?_⟩
          cases hz;obtain⟨p,s3⟩:=j.to (F:=na B bg) rfl t3;obtain⟨w3,h3,a3,t,T,U,u,W,A⟩:=p.tell i _<|getD_some O;rw[N]at h3;cases h3;cases T;have Y:g=t:=by
           have c:x a=on (.l<|g.map V.r):=t3.kp a _ m (λb l y=>⟨λw=>(by subst w;rw[(ok.bgt _ _ y).1]at k;cases k),λw=>(by subst w;rw[(ok.bgt _ _ y).2]at k;cases k)⟩);rw[u]at c;have k2:t.map V.r=g.map V.r:=by injection c with c;injection c
           exact(Wr (λa b q=>by cases q;rfl)|>.mp k2).symm
          subst Y;obtain⟨r',C,I,ab,J,L⟩:=A.at er;rw[R]at I;cases I;have Z:c4 X.K (ej B bg) x d v:=c4.tr (s3.tr) _ _<|c4.tr (S.tr) _ _ G;refine⟨r,C,kb,jb,rfl,rfl,J,by rw[<-L.length];exact eb,?_⟩;obtain⟨M,s4⟩:=p.writeRow (ds:=ds.set jb d) (xs:=C.set jb v) N U u W A R J<|br.set jb L Z;exact q _ _ _ (s1.trans<|S.trans<|s3.trans s4) M
        .cases e
       .cases e
      .cases e
     .cases e
    .cases e
   .cases e
  .cases e
 .cases e
variable{e:Expr}{z:List Expr}
def o2(c:D->D->a0A)(f g:FD):FL:=λδ=>M.v (f δ) λa=>M.v (g δ) λb=>M.f<|c a b
noncomputable def Ite(K:Pz)(l:O7):It:=
 ⟨λi H=>∃a x,eX K H l a/\a[i]?=on x,
  λi H v u=>∃p x,H p=OZ/\v= .r p/\u=upd H p (.t [.n (i:Int),x])/\∀a,eX K H l a->a[i]?=on x,
  λi H=>∃a,eX K H l a/\VX a=i⟩
theorem BB{P:P6}{w:Qb}{K:Pz}{x1}{pos:Uq}(l e a:O7)(t:e≠a):
  oa P w K (.Tuple elts x1 pos) (Ite K l) [e,a] e (λi h=>(∃f,IsEnum h e a (i:Int) f)/\h.IsListIter a l i) where
 mem:=by simp
 obj:=λi h st b j=>by
  obtain⟨⟨f,m⟩,p⟩:=st;simp only[Pr,Q5,Ue]at j;rcases j with rfl|rfl
  .exact⟨_,m,λv q=>by cases q⟩
  .obtain⟨o,q,_,d⟩:=p
   exact⟨o,q,λv z=>by rw[d]at z;cases z⟩
 keep:=λi h B st k=>by
  obtain⟨⟨f,m⟩,p⟩:=st;exact⟨⟨f,k e (by simp) _ m⟩,p.at λo q=>k a (by simp) o q⟩
 item:=by
  intro X L N O hc i r s σ H E I y st Q;subst L N O;obtain⟨M,x,c,R⟩:=Q;obtain⟨⟨f,m⟩,p⟩:=st;obtain⟨g,r1,T⟩:=cx.r4 (b:=O6) I c;have D:=I.ok.hd hc;have S:l≠e:=cx.f5 (b:=O6) I c (y e<|by simp);have U:l≠a:=cx.f5 (b:=O6) I c (y a<|by simp);have V:i<g.toArray.size:=by
   rw[PH,<-r1.length];exact(Pl.mp R).1
  refine wpAny_pyNext_enum_itemD (Y3 (show(X.A.in1).handled=OZ from D) a l U g.toArray) m ⟨p,T⟩ V t (by simp[t,S.symm]) λu B W Z fo f1 fT sz G=>?_;refine⟨_,rfl,wpAny_letOwnedTupleGo_enum (s:={s with heap:=B,toks:=W+1}) fo λC F J=>?_⟩
  replace J:P7 e B C:=J
  have zT:s.heap.objs.size≠e:=Sd<|PQ m;obtain⟨u',Y,ru⟩:=r1.get R;have eu:u=u':=by
   have:g[i]?=on u:=by simpa using Z
   rw[this]at Y;exact P3 Y
  subst eu;have kk:∀b o,b∉[e,a]->s.heap.get? b=on o->C.get? b=on o:=λb o j q=>by
   simp only[Pr,Q5,Ue,not_or]at j;exact J.extBut b o j.1<|G b o j.1 j.2 q
  have I2:cx X r σ (upd H s.heap.objs.size<|.t [.n (i:Int),x]) {s with heap:=C,toks:=W+1}:=by
   refine cx.j8 I y kk (Pg _) ⟨by show 2<=Ps;decide,[.int i W,u],.cons ⟨_,rfl⟩<|.cons ru .nil,_,J.extBut _ _ zT fT,rfl,_,rfl⟩
  refine⟨.r s.heap.objs.size,_,I2,rfl,⟨s.heap.objs.size,x,I.hok.fresh<|Pg _,rfl,rfl,λas h1=>by rw[cx.j9 (b:=O6) I h1 c];exact R⟩,⟨⟨_,by simpa using F⟩,?_⟩,λb j=>?_⟩
  .exact f1.1.at λo q=>J.extBut _ _ t.symm q
  .rw[bb]
   .exact(y b j).1
   .intro q
    have ol:∃o,s.heap.get? b=on o:=by
     simp only[Pr,Q5,Ue]at j;rcases j with rfl|rfl
     .exact⟨_,m⟩
     .obtain⟨o,z,_⟩:=p;exact⟨o,z⟩
    obtain⟨o,z⟩:=ol;exact PU (PQ z) (by rw[q];exact Qw _)
 done:=by
  intro X L N O hc i r s σ H E I y st Q;subst L N O;obtain⟨M,c,hl⟩:=Q;obtain⟨⟨f,m⟩,p⟩:=st;obtain⟨g,r1,T⟩:=cx.r4 (b:=O6) I c;have D:=I.ok.hd hc;have U:l≠a:=cx.f5 (b:=O6) I c (y a<|by simp);have g1:g.toArray.size=i:=by rw[PH,<-r1.length,hl]
  refine wpAny_pyNext_enum_endD (n:=g.toArray.size) (Y3 (show(X.A.in1).handled=OZ from D) a l U g.toArray) m (by rw[g1];exact⟨p,T⟩) λB G=>⟨rfl,?_⟩;refine cx.l8 (t':=s.toks) I y λb o j q=>?_;simp only[Pr,Q5,Ue,not_or]at j;exact G b o j.2 q
 self:=λ_ _ _ _ _ st h=>by
  obtain⟨⟨f,m⟩,p⟩:=st;exact wpAny_pyIter_enum m h
def iEn(K:Pz)(g:TA):TI:=λσ H R=>g σ H λa f=>∃l b,a=[.r l]/\eX K f l b/\R (Ite K l) f
theorem Jw{a:Expr}{p pos:Uq}{F}(n:Gl X "enumerate")(z:X.mg "enumerate"=OZ)(B:PA X [a] J)(D:Po [a] X.e=[(O8,Qz a X.e)]:=by rfl):
  PI X (.Tuple x F C) (.Call (.Name "enumerate" p) [a] [] pos) (iEn X.K J):=by
 intro f s σ H R I h;refine Call_ (fR I n z Boot.«enumerate»<|Re (d5 (B pos f s σ H _ I h) λG g ⟨M,k,j,r1,d⟩=>?_) (by rw[D];rfl)<|by rfl);obtain⟨l,P,e,d,q⟩:=d;subst e;cases r1 with
 |cons r o=>
  cases o;cases r;obtain⟨t,A,u⟩:=cx.r4 (b:=O6) j d;refine call_enumerate_list u λw m v S E=>?_;refine wpAny_pyIter_enum (s:={g with heap:=w}) m ?_;have y:cx X f σ k {g with heap:=w}:=j.kept (t':=g.toks) E;refine⟨_,[g.heap.objs.size+1,g.heap.objs.size],_,Ite X.K l,k,rfl,y,BB l (g.heap.objs.size+1) g.heap.objs.size<|Nat.succ_ne_self _,⟨⟨_,m⟩,v⟩,λc hc=>?_,q⟩;have i:g.heap.objs.size<=c:=by
   simp only[Pr,Q5,Ue]at hc;rcases hc with rfl|rfl
   .exact Q7 _ _
   .exact Pg _
  exact j.fpOk i<|j.hok.fresh i
noncomputable def db:Nat->a0c->a0c
 |_,[]=>[]
 |n,x::xs=> .t [.n (n:Int),x]::db (n+1) xs
theorem t8:∀(n:Nat) (a:a0c),VX (db n a)=VX a
 |_,[]=>rfl
 |n,x::a=>by
  show(db (n+1) a).length+1=VX a+1;rw[t8 (n+1) a]
theorem mX:∀{n:Nat} {b:a0c} {i:Nat} {d:D},(db n b)[i]?=on d->∃x,b[i]?=on x/\d= .t [.n ((n+i:Nat):Int),x]
 |n,[],i,d,h=>by simp[db]at h
 |n,x::b,0,d,h=>by
  simp[db]at h;exact⟨x,rfl,by rw[<-h];simp⟩
 |n,x::b,i+1,d,h=>by
  have c:(db (n+1) b)[i]?=on d:=by simpa[db]using h
  obtain⟨a,f,g⟩:=mX c;exact⟨a,by simpa using f,by rw[g,show n+1+i=n+(i+1) by lia]⟩
def Ix:a0c->a0A
 |[.l xs]=>on<|db 0 xs
 |_=>OZ
theorem GS{H:Hp}(o:∀g f,Tr F H g f->∃a,eX K f l a/\br K g f s a):zv K (Ite K l) F H (db 0 s):=λg f c t fr i=>by
 obtain⟨a,h,b⟩:=o g f t;refine⟨λd e=>?_,λj=>?_⟩
 .obtain⟨x,q,rfl⟩:=mX e
  obtain⟨u,k,w⟩:=b.get q;refine⟨⟨a,u,h,k⟩,λz y r=>?_⟩;obtain⟨p,A,m,rfl,rfl,v⟩:=r;have n:=v a h;rw[k]at n;cases n;rw[Qu];exact⟨bP.upd m,c4.l8 fr m<|br.cons rfl<|br.cons w br.f5⟩
 .rw[t8]at j
  exact⟨a,h,by rw[<-b.length,j]⟩
def HV(g:FL):FL:=bV Ix g
theorem qL{a:Expr}{p pos:Uq}{I}(q:Gl X "enumerate")(c:X.mg "enumerate"=OZ)(d:PA X [a]<|i_ X.K g E)(w:Po [a] X.e=[(O8,Qz a X.e)]:=by rfl):
  PI X (.Tuple s I x) (.Call (.Name "enumerate" p) [a] [] pos) (iV X.K (HV g) E):=
 (Jw q c d w).imp λσ H R j=>lm j λF δ β fr r h=>⟨F,δ,β,fr,r,(run.bind (R:=br X.K F) h).mono λS f j=>by
  obtain⟨V,B,t,D,r1⟩:=j;obtain⟨l,e,k⟩:=run.j6 r1;unfold Ix at e;split at e
  .rename_i xs
   cases e;obtain⟨v,rfl,o⟩:=br.j6 D;have z:∃a,v= .r a/\∀m i,Tr F f m i->∃b,eX X.K i a b/\br X.K m i xs b:=by
    obtain⟨a,b,rfl,_⟩:=c4.j6 o;refine⟨a,rfl,λm i u=>?_⟩;obtain⟨C,n,y,G,M⟩:=c4.j6<|c4.tr u _ _ o;cases y;exact⟨n,G,M⟩
   obtain⟨a,rfl,z⟩:=z;obtain⟨P,A,_⟩:=z F f<|Tr.refl F f;exact⟨a,P,rfl,A,k _ f (To.refl t.fr)<|GS z⟩
  .cases e⟩
def dF(K:Pz)(g:PP)(b:a0h)(c:a0c):Prop:=∃a f,cq K g b a/\au f a/\∀F H,br K F H c f
inductive Sr (α:Type) where
 |kw (j:Nat)|df (a:α)
noncomputable def Sr.f5{b:Type}(z:b)(f:List b):Sr b->b
 | .kw j=>f.getD j z
 | .df a=>a
def gK{a:Type}(z:a)(n k:Nat)(b:List<|Sr a)(c f:List a):List a:=if VX c=n/\VX f=k then c++b.map (Sr.f5 z f)else[]
inductive lr {α γ:Type} (R:α->γ->Prop):List (Sr α)->List (Sr γ)->Prop where
 |nil:lr R [] []
 |kw {j:Nat} {a:List (Sr α)} {c:List (Sr γ)}:lr R a c->lr R (.kw j::a) (.kw j::c)
 |df {x:α} {y:γ} {a:List (Sr α)} {c:List (Sr γ)}:R x y->lr R a c->lr R (.df x::a) (.df y::c)
theorem au.getD:∀{f:a0j} {g:a0g} (j:Nat),au f g->aL (f.getD j .o) (g.getD j .none)
 |_,_,_,.nil=>rfl
 |_,_,0,.cons r _=>r
 |_,_,j+1,.cons _ t=>au.getD j t
theorem lr.vals(r:au zs ws):∀{a:List (Sr V)} {c:List (Sr Pb)},lr aL a c->au (a.map<|Sr.f5 .o zs) (c.map<|Sr.f5 .none ws)
 |_,_,.nil=> .nil
 |_,_,.kw (j:=j) h=> .cons (au.getD j r)<|lr.vals r h
 |_,_,.df q h=> .cons q<|lr.vals r h
theorem br.getD{K:Pz}{H:Hp}:∀{ds:a0c} {f:a0j} (j:Nat),br K F H ds f->c4 K F H (ds.getD j .o) (f.getD j .o)
 |[],f,j,h=>by have q:f=[]:=h;subst q;rfl
 |d::ds,f,0,h=>by
  obtain⟨x,r,e,g,i⟩:=h;subst e;exact g
 |d::ds,f,j+1,h=>by
  obtain⟨x,r,e,g,i⟩:=h;subst e;exact br.getD j i
theorem lr.den{K:Pz}{H:Hp}(r:br K F H f zs):∀{a:List (Sr D)} {c:List (Sr V)},lr (λd v=>∀F H,c4 K F H d v) a c->br K F H (a.map<|Sr.f5 .o f) (c.map<|Sr.f5 .o zs)
 |_,_,.nil=>br.f5
 |_,_,.kw (j:=j) h=>br.cons (br.getD j r)<|lr.den r h
 |_,_,.df q h=>br.cons (q F H)<|lr.den r h
theorem lr.len{b f:Type}{R:b->f->Prop}:∀{a:List (Sr b)} {c:List (Sr f)},lr R a c->VX a=VX c
 |_,_,.nil=>rfl
 |_,_,.kw h=>by rw[Pt,Pt,lr.len h]
 |_,_,.df _ h=>by rw[Pt,Pt,lr.len h]
structure I_ (K:Pz) (fd:PP) (ps ks:a0h) (n:Nat) (src:List<|Sr D):Prop where
 ex:∃(sv:List<|Sr Pb) (sx:List<|Sr V),lr aL sx sv/\lr (λd v=>∀F H,c4 K F H d v) src sx/\∀(s:Pe) (us ws:a0g),K.In s.heap->VX us=n->VX ws=VX ks->WH s fd ⟨us,ks.zip ws⟩ (ps.zip<|us++sv.map (Sr.f5 .none ws))
 len:VX ps=n+VX src
 pos:0<VX ps
theorem I_.kb{K:Pz}{e a:a0h}(h:I_ K p e a n src):∃(c:List<|Sr Pb) (f:List<|Sr V),lr (λd v=>∀F H,c4 K F H d v) src f/\J_ K p e a (gK .none n (VX a) c) (gK .o n (VX a) f):=by
 obtain⟨c,f,r1,l,b⟩:=h.ex;refine⟨c,f,l,λs u k m g=>?_,λ{w u o k} i j=>?_⟩
 .unfold gK at g⊢
  split at g
  .rename_i q
   rw[Pc q];exact b s u k m q.1 q.2
  .exact PU g (by have:=h.pos;simp;lia)
 .unfold gK
  by_cases q:VX w=n/\VX o=VX a
  .rw[Pc q,Pc<|by rw[<-i.length,<-j.length];exact q]
   exact i.append<|lr.vals j r1
  .rw[Pd q,Pd<|by rw[<-i.length,<-j.length];exact q]
   exact .nil
variable{p c:Uq}{x:Qa}{k n:Nat}{f:O7}{d:PP}{a ks:a0h}{b:List WL}{B:Option Qa}
def MM(m:a0c->M D)(g:FL)(a:a0c):FD:=λδ=>M.v (g δ) λb=>m<|b++a
theorem IU{c:a0c}(G:en X.p X.w X.K X.mg X.base (f0 X.p X.w) k f d a<|KX X.K n m)(v:ee k X.A)(y:Gl X x)(S:X.mg x=on (.ref f))(I:Vo X.K (.ref f)=O6)(J:dF X.K d a c)(L:bU (f0 X.p X.w) X E)
  (V:PA X (e::z)<|i_ X.K g E) (s:∀δ β r P,g δ β=on (.ok r,P)->VX r+VX c=n) (h:b0c x:=by decide) (N:b0a X e z:=by rfl) (i:b0b X pos z:=by rfl):
  PE X (.Call (.Name x p) (e::z) [] pos) (tV X.K (MM m g c) E):=by
 obtain⟨ds,O,b,T,D⟩:=J;refine(nX G v y S I b T L V h N i).imp λσ H Q U=>lm U λF δ β fr W r=>⟨F,δ,β,fr,W,?_⟩;obtain⟨r0,j,q,u⟩:=run.bind (R:=br X.K F) r;refine⟨r0,j,q,?_⟩;cases r0 with
 |error C=>exact u
 |ok as=>
  intro vs l t M;obtain⟨d',B,Y,o,r1⟩:=u vs l t M;have Z:=s _ _ _ _ q;have hz:=(D F l).length;refine⟨by rw[PR,<-M.length,<-hz,Z],F,d'++c,B,Y.fr,br.append o<|D F l,run.toE r1⟩
theorem AV:PK X [] (i_ X.K am E):=λpos g s σ H Q I h=>by obtain⟨F,δ,β,fr,i,r⟩:=h;exact Lu pos g s σ H Q I<|run.j7 fr r br.f5
theorem xi{f:FD}(k:PE X e<|tV X.K f E)(m:PK X b<|i_ X.K g E):PK X (⟨B,e,c⟩::b) (i_ X.K (aa f g) E):=λpos h s σ H Q I ⟨F,δ,β,fr,j,r⟩=>
 Ju k m pos h s σ H Q I ⟨F,δ,β,fr,j,(run.bind (R:=c4 X.K F) r).mono λv u ⟨d,a,t,n,r1⟩=>
  ⟨F,δ,a,t.fr,j.tr<|t.tr fr,(run.bind (R:=br X.K F) r1).mono λw y o=>pj o λx p l i q=>run.j7 l.fr q<|br.cons (c4.tr (l.tr t.fr) _ _ n) i⟩⟩
theorem sB{b:FL}{δ:Dn}{β a c:Bg}{e d:a0c}(g:j δ β=on (.ok e,a))(h:nC l m b e (ll q cy δ) a=on (.ok d,c))(i:VX d<=Ps):cS q cy j l m b δ β=on (.ok<|.l d,c):=by
 unfold cS;simp only[g,h,i,Qs]
def plD:Nat->D->Prop
 |_,.n _=>True
 |_,.c _=>True
 |_,.o=>True
 |n+1,.l xs=>∀x∈xs,plD n x
 |n+1,.t xs=>∀x∈xs,plD n x
 |_,_=>False
theorem Jt:∀(n:Nat) (d:D),plD n d->∃p,ni d=on p/\p.canLay0=O6/\p.depth<=n+1:=by
 have g:∀(n:Nat) (b:a0c),(∀x∈b,∃p,ni x=on p/\p.canLay0=O6/\p.depth<=n)->∃a,toPs b=on a/\Za a=O6/\TC a<=n:=by
  intro n b
  induction b with
  |nil=>intro _;exact⟨[],rfl,rfl,by simp[TC]⟩
  |cons x b c=>
   intro h;obtain⟨p,q,r,u⟩:=h x Pa;obtain⟨a,j,l,o⟩:=c λy t=>h y<|O1 _ t;refine⟨p::a,?_,?_,?_⟩
   .unfold toPs;simp only[q,j]
   .simp[Za,r,l]
   .simp only[TC];lia
 intro n
 induction n with
 |zero=>
  intro d h;cases d with
  |n i=>exact⟨.int i,rfl,rfl,by simp[Ss]⟩
  |c i=>exact⟨.bool i,rfl,rfl,by simp[Ss]⟩
  |o=>exact⟨.none,rfl,rfl,by simp[Ss]⟩
  |_=>exact h.elim
 |succ n c=>
  intro d h;cases d with
  |n i=>exact⟨.int i,rfl,rfl,by simp[Ss]⟩
  |c i=>exact⟨.bool i,rfl,rfl,by simp[Ss]⟩
  |o=>exact⟨.none,rfl,rfl,by simp[Ss]⟩
  |l b=>
   obtain⟨a,j,l,o⟩:=g (n+1) b λx m=>c x<|h x m;exact⟨.list a,by unfold ni;simp[j],by simp[PyData.canLay0,l],by simp only[Ss];lia⟩
  |t b=>
   obtain⟨a,j,l,o⟩:=g (n+1) b λx m=>c x<|h x m;exact⟨.tuple a,by unfold ni;simp[j],by simp[PyData.canLay0,l],by simp only[Ss];lia⟩
  |_=>exact h.elim
theorem G6{d:D}(n:Nat)(h:plD n d)(a:n<=60):oC d=O6:=by
 obtain⟨p,g,i,j⟩:=Jt n d h;unfold oC;simp only[g,UA,i,S7,P9];lia
def Gw(g:G)(δ:Ds)(β:Bg)(Q:a0z):Prop:=∃o P,g δ β=on (o,P)/\Q o P
end
section
variable{g h a b s p:G}{δ δ1:Ds}{β β1 β2 β3:Bg}{Q R:a0z}{i:Nat}{f q u v:FD}{fl:FL}{j:Dn->M a0u}{d x y z:D}{ds as:a0c}{t:a0p}{c:Bool}{C:O7}{K:Pz}
theorem Gw.mono(k:Gw g δ β R)(q:∀o β,R o β->Q o β):Gw g δ β Q:=let ⟨o,β',e,r⟩:=k;⟨o,β',e,q _ _ r⟩
theorem Jj:aw g gNil=g:=by
 funext δ β;unfold aw gNil;split
 .rename_i δ1 β1 e;exact e.symm
 .rfl
theorem aq(k:Gw (aw g gNil) δ β Q):Gw g δ β Q:=by rw[Jj]at k;exact k
theorem aT(q:Q (.nx δ) β):Gw gNil δ β Q:=⟨_,_,rfl,q⟩
theorem c8(e:g δ β=on (.nx δ1,β1))(k:Gw h δ1 β1 Q):Gw (aw g h) δ β Q:=by
 obtain⟨o,j,l,q⟩:=k;exact⟨o,j,by unfold aw;rw[e];exact l,q⟩
theorem i8(k:Gw (aw a<|aw b h) δ β Q):Gw (aw (aw a b) h) δ β Q:=by
 obtain⟨o,j,l,q⟩:=k;refine⟨o,j,?_,q⟩;rw[<-l];unfold aw;split<;>rename_i e<;>(split at e<;>simp_all)
theorem bp(k:Gw h δ β Q):Gw (aw gNil h) δ β Q:=c8 rfl k
theorem Hu(k:Gw g (fz i δ) β Q):Gw (fzG i g) δ β Q:=k
theorem aE(e:f (vw δ) β=on (.ok d,β1))(k:Gw h (δ.set i<|on<|.h d) β1 Q):Gw (aw (b6 i f) h) δ β Q:=c8 (by unfold b6;rw[e]) k
theorem u5(e:g δ β=on (.ex C δ1,β1))(q:Q (.ex C δ1) β1):Gw (aw g h) δ β Q:=⟨_,_,by unfold aw;rw[e],q⟩
theorem Kt(e:f (vw δ) β=on (.error C,β1))(q:Q (.ex C δ) β1):Gw (aw (b6 i f) h) δ β Q:=u5 (by unfold b6;rw[e]) q
theorem eU(e:f (hE δ) β=on (.ok d,β1))(k:Gw h δ β1 Q):Gw (aw (lN f) h) δ β Q:=c8 (by unfold lN;rw[e]) k
theorem IM(e:f (hE δ) β=on (.error C,β1))(q:Q (.ex C δ) β1):Gw (aw (lN f) h) δ β Q:=u5 (by unfold lN;rw[e]) q
theorem kA(e:t (hE δ) β=on (.ok c,β1))(k:Gw (aw (if c=O6 then s else p) h) δ β1 Q):Gw (aw (pa t s p) h) δ β Q:=by
 obtain⟨o,j,l,q⟩:=k;refine⟨o,j,?_,q⟩;rw[<-l];unfold aw pa;rw[e];cases c<;>rfl
theorem Nj(e:t (hE δ) β=on (.ok O6,β1))(k:Gw (aw s h) δ β1 Q):Gw (aw (pa t s p) h) δ β Q:=kA e k
theorem gj(e:t (hE δ) β=on (.ok O8,β1))(k:Gw (aw p h) δ β1 Q):Gw (aw (pa t s p) h) δ β Q:=kA e k
theorem aM(e:f (hE δ) β=on (.ok d,β1))(q:Q (.rt d) β1):Gw (aw (d6 f) h) δ β Q:=⟨_,_,by unfold aw d6;rw[e],q⟩
theorem IL(e:j (vw δ) β=on (.ok ba,β1))(q:Q (.rg ba) β1):Gw (aw (mU j) h) δ β Q:=⟨_,_,by unfold aw mU;rw[e],q⟩
theorem Ht{ba:a0u}(e:j (vw δ) β=on (.ok ba,β1))(a:ba.all noLs=O6)(k:Gw h (δ.set i<|on<|.grd ba) β1 Q):Gw (aw (sk i j) h) δ β Q:=c8 (by unfold sk;simp only[e,a,Qs]) k
theorem Hr{ba:a0u}(e:v (hE δ) β=on (.ok d,β1))(j:q (hE δ) β1=on (.ok<|.n ka,β2))(l:u (hE δ) β2=on (.ok<|.n kb,β3))(m:δ.getD i OZ=on (.grd ba))
  (n:p5 (VX ba) ka=on ja) (o:ba[ja]?=on ds) (p:p5 (VX ds) kb=on jb) (a:noL d=O6) (k:Gw h (δ.set i<|on<|.grd<|ba.set ja<|ds.set jb d) β3 Q):Gw (aw (qP i q u v) h) δ β Q:=
 c8 (by unfold qP;simp only[e,j,l,m,n,o,p,a,Qs]) k
theorem yA(e:fl (vw δ) β=on (.ok ds,β1))(j:VX ds<=Ps)(k:Gw h (δ.set i<|on<|.u ds) β1 Q):Gw (aw (wy i fl) h) δ β Q:=c8 (by unfold wy;simp only[e,j,Qs]) k
theorem yB{cs:a0c}(j:δ.getD i OZ=on (.u cs))(e:fl (vw δ) β=on (.ok [d],β1))(l:VX cs<Ps)(k:Gw h (δ.set i<|on<|.u<|cs++[d]) β1 Q):Gw (aw (wA i fl) h) δ β Q:=
 c8 (by unfold wA;simp only[j,e,l,Qs]) k
theorem k6(e:f (vw δ) β=on (.ok d,β1))(j:l d δ=on δ1)(k:Gw h δ1 β1 Q):Gw (aw (wz f l) h) δ β Q:=c8 (by unfold wz;simp only[e,j,Rj]) k
theorem Nh(k:Gw g δ β (λo β1=>match o with| .nx δ1=>Gw h δ1 β1 Q| .ex C δ1=>Gw (aw (hd C) h) δ1 β1 Q|o=>Q o β1)):Gw (aw (pF g hd) h) δ β Q:=by
 obtain⟨o,e,j,q⟩:=k;cases o with
 |nx δ1=>exact c8 (by unfold pF;rw[j]) q
 |ex C δ1=>
  obtain⟨o,β2,l,a⟩:=q;refine⟨o,β2,?_,a⟩;rw[<-l];unfold aw pF;rw[j]
 |_=>exact⟨_,e,by unfold aw pF;rw[j],q⟩
theorem w_hT(e:exmOne K (.ref C) (.ref Dc)=on O6)(k:Gw (aw g h) δ β Q):Gw (aw (ww K Dc g r C) h) δ β Q:=by
 obtain⟨o,j,l,q⟩:=k;refine⟨o,j,?_,q⟩;rw[<-l];unfold aw ww;rw[e]
def Tn(I:Ds->Bg->Prop)(h:G)(Q:a0z):q0->Bg->Prop:=λo β=>match o with
 | .nx δ=>I δ β
 | .ct δ=>I δ β
 | .bk δ=>Gw h δ β Q
 |o=>Q o β
theorem cG(e:it δ β=on (.ok ds,β1))(u:Nat->Ds->Bg->Prop)(N:u 0 δ β1)(b:∀i d δ β,ds[i]?=on d->u i δ β->∃δ1,tg d δ=on δ1/\Gw g δ1 β (Tn (u<|i+1) h Q))(k:∀δ β,u (VX ds) δ β->Gw h δ β Q):
  Gw (aw (qQ it tg g) h) δ β Q:=by
 have c:∀(a:a0c) (j:Nat) (δ:Ds) (β:Bg),a=ds.drop j->j+VX a=VX ds->u j δ β->Gw (aw (o_ tg g a) h) δ β Q:=by
  intro a
  induction a with
  |nil=>
   intro j δ β _ B F;simp at B;exact c8 (g:=o_ tg g []) rfl<|k δ β<|B▸F
  |cons d a s=>
   intro j δ β L B F;have O:ds[j]?=on d:=by
    have:=QG (λl=>l[0]?) L;simpa[Zr]using this.symm
   obtain⟨δ1,v,o,β2,A,q⟩:=b j d δ β O F;have H:a=ds.drop (j+1):=by
    have:=QG List.tail L;simpa[List.tail_drop]using this
   have f:∀m,u (j+1) m β2->Gw (aw (o_ tg g a) h) m β2 Q:=λm I=>s (j+1) m β2 H (by simp at B;lia) I;have n:∀{r:G} {m:Ds},Gw (aw r h) m β2 Q->o_ tg g (d::a) δ β=r m β2->Gw (aw (o_ tg g<|d::a) h) δ β Q:=λ{r m} ⟨T,p,J,t⟩ U=>⟨T,p,by rw[<-J];unfold aw;rw[U],t⟩;cases o with
   |nx m=>exact n (r:=o_ tg g a) (f m q) (by rw[o_];simp only[v,A])
   |ct m=>exact n (r:=o_ tg g a) (f m q) (by rw[o_];simp only[v,A])
   |bk m=>exact n (r:=gNil) (bp q) (by rw[o_];simp only[v,A];rfl)
   |rt d'=>exact⟨_,β2,by unfold aw;rw[o_];simp only[v,A],q⟩
   |rg d'=>exact⟨_,β2,by unfold aw;rw[o_];simp only[v,A],q⟩
   |ex C m=>exact⟨_,β2,by unfold aw;rw[o_];simp only[v,A],q⟩
 obtain⟨o,p,J,q⟩:=c ds 0 δ β1 (by simp) (by simp) N;refine⟨o,p,?_,q⟩;rw[<-J];unfold aw qQ;rw[e]
theorem jU{S:Except O7 D->Bg->Prop}(k:Gw g (o4 n ds) β (λo j=>match o with| .rt d=>S (.ok d) j| .nx _=>S (.ok .o) j| .ex C _=>S (.error C) j|_=>False)):∃r j,d8 n g ds β=on (r,j)/\S r j:=by
 obtain⟨o,j,e,q⟩:=k;cases o with
 |rt d=>exact⟨.ok d,j,by unfold d8;rw[e],q⟩
 |nx δ=>exact⟨.ok .o,j,by unfold d8;rw[e],q⟩
 |ex C δ=>exact⟨.error C,j,by unfold d8;rw[e],q⟩
 |_=>exact q.elim
theorem Kh{S:a0u->Bg->Prop}(k:Gw g (o4 n ds) β (λo j=>match o with| .rg d=>S d j|_=>False)):∃r j,oE n g ds β=on (.ok r,j)/\S r j:=by
 obtain⟨o,j,e,q⟩:=k;cases o with
 |rg d=>exact⟨d,j,by unfold oE;rw[e],q⟩
 |_=>exact q.elim
theorem aF(k:Gw g (o4 n ds) β (λo j=>j=β/\(match o with| .rt d=>r= .ok d| .nx _=>r= .ok .o| .ex C _=>r= .error C|_=>False))):d8 n g ds β=on (r,β):=by
 obtain⟨l,j,e,a,b⟩:=jU (S:=λl j=>j=β/\r=l) (n:=n) (ds:=ds) (β:=β) (k.mono λo j h=>by
  cases o<;>first|exact h|exact h.2)
 subst a b;exact e
theorem Ki(k:Gw g (o4 n ds) β (λo j=>j=β/\(match o with| .rg d=>r=d|_=>False))):oE n g ds β=on (.ok r,β):=by
 obtain⟨l,j,e,a,b⟩:=Kh (S:=λl j=>j=β/\r=l) (n:=n) (ds:=ds) (β:=β) (k.mono λo j h=>by
  cases o<;>first|exact h|exact h.2)
 subst a b;exact e
theorem ah{δ:Dn}(e:fl δ β=on (.ok as,β1))(j:m as β1=on r):aO m fl δ β=on r:=by unfold aO M.v;rw[e];exact j
theorem IK{δ:Dn}(e:fl δ β=on (.ok as,β1))(j:m as β1=on r):wI m fl δ β=on r:=by unfold wI M.v;rw[e];exact j
theorem dq{δ:Dn}(e:q δ β=on (.ok x,β1))(j:u δ β1=on (.ok y,β2))(k:op x y=on z):f2 op q u δ β=on (.ok z,β2):=by unfold f2 M.v;rw[e];simp only[j,M.f,k]
theorem x_1{δ:Dn}(e:q δ β=on (.ok x,β1))(j:op x=on z):f1 op q δ β=on (.ok z,β1):=by unfold f1 M.v;rw[e];simp only[M.f,j]
theorem ag{δ:Dn}(e:fl δ β=on (.ok as,β1))(j:op as=on z):aB op fl δ β=on (.ok z,β1):=by unfold aB M.v;rw[e];simp only[M.f,j]
theorem ac{δ:Dn}(e:q δ β=on (.ok x,β1))(j:fl δ β1=on (.ok as,β2)):aa q fl δ β=on (.ok<|x::as,β2):=by unfold aa M.v;rw[e];simp only[j,M.j7]
theorem bJ{δ:Dn}(e:fl δ β=on (.ok as,β1))(j:op as=on ds):bV op fl δ β=on (.ok ds,β1):=by unfold bV M.v;rw[e];simp only[j,M.f]
theorem dD{δ:Dn}(e:q δ β=on (.ok x,β1))(j:fV x=on ds):fc q δ β=on (.ok ds,β1):=by unfold fc M.v;rw[e];simp only[j,M.f]
theorem hO{δ:Dn}(e:q δ β=on (.ok<|.c c,β1)):fB q δ β=on (.ok c,β1):=by unfold fB M.v;rw[e];rfl
theorem nz{δ:Dn}(e:q δ β=on (.ok x,β1))(j:FF x=on c):pG q δ β=on (.ok c,β1):=by unfold pG M.v;rw[e];simp only[M.f,j]
theorem nA{δ:Dn}(e:t δ β=on (.ok c,β1)):qV t δ β=on (.ok<|!c,β1):=by unfold qV M.v;rw[e];rfl
theorem cc(a:β.ok)(k:0<lot)(l:lot<1073741824):∃v e,cI [.bag,.n lot] β=on (.ok<|.n v,e)/\0<=v/\v<lot/\e.ok:=by
 obtain⟨b,c,j⟩:=xJ a k;exact⟨_,_,GC a k l,b,c,j⟩
theorem jO{n:Nat}{k:Int}(e:0<=k)(j:k<n):p5 n k=on k.toNat:=by unfold p5;rw[Pc e,Pc j]
theorem Ey{k:Int}{d:D}(e:0<=k)(h:l[k.toNat]?=on d):g8 (.l l) (.n k)=on d:=by
 have j:k.toNat<VX l:=(Pl.mp h).1;show v0 l k=on d;unfold v0;rw[jO e<|by lia];exact h
theorem zK{x y:D}:g8 (.t [x,y]) (.n 0)=on x:=rfl
theorem sd{x y:D}:g8 (.t [x,y]) (.n 1)=on y:=rfl
end
section
variable{β β1 β2:Bg}{f g h i:FD}{t u:a0p}{δ:Dn}{c e:Bool}{x y z w:Int}{d:D}
theorem pQ(a:t δ β=on (.ok O8,β1))(b:u δ β1=on (.ok e,β2)):ss t u δ β=on (.ok e,β2):=by
 unfold ss M.v;rw[a];simp[b]
theorem u3(a:t δ β=on (.ok c,β))(b:u δ β=on (.ok e,β)):gE t u δ β=on (.ok<|c&&e,β):=by
 unfold gE M.v;rw[a];cases c<;>simp[M.j7,b]
theorem Kr(a:t δ β=on (.ok O8,β1)):gE t u δ β=on (.ok O8,β1):=by
 unfold gE M.v;rw[a];rfl
theorem Kq(a:t δ β=on (.ok O6,β1))(b:u δ β1=on (.ok e,β2)):gE t u δ β=on (.ok e,β2):=by
 unfold gE M.v;rw[a];simp[b]
theorem II(a:f δ β=on (.ok<|.c O6,β1))(b:g δ β1=on (.ok d,β2)):z7 f g δ β=on (.ok d,β2):=by
 unfold z7 M.v;rw[a];simp[asB,M.f,b]
theorem le_int:leD (.n x) (.n y)=on (.c<|decide (x<=y)):=rfl
theorem lt_int:ltD (.n x) (.n y)=on (.c<|decide (x<y)):=rfl
theorem gt_int:gtD (.n x) (.n y)=on (.c<|decide (y<x)):=rfl
theorem w9(a:f δ β=on (.ok<|.n x,β))(b:g δ β=on (.ok<|.n y,β))(j:h δ β=on (.ok<|.n z,β)):kU leD leD f g h δ β=on (.ok<|.c<|decide (x<=y)&&decide (y<=z),β):=by
 unfold kU M.v;rw[a];simp only[b,le_int,M.f,asB];by_cases q:x<=y
 .simp only[q,decide_true,Qs,j,le_int,S7]
 .simp only[q,Zj,PF,QA,M.j7,Tk]
theorem Fu(a:f δ β=on (.ok<|.n x,β))(b:g δ β=on (.ok<|.n y,β))(j:h δ β=on (.ok<|.n z,β))(k:i δ β=on (.ok<|.n w,β)):oB leD leD leD f g h i δ β=on (.ok<|.c<|decide (x<=y)&&decide (y<=z)&&decide (z<=w),β):=by
 unfold oB Iw M.v;rw[a];simp only[b,le_int,M.f,asB];by_cases q:x<=y
 .simp only[q,decide_true,Qs,j,le_int,S7]
  by_cases c:y<=z
  .simp only[c,decide_true,Qs,k,le_int,S7]
  .simp only[c,Zj,PF,QA,M.j7,Tk]
 .simp only[q,Zj,PF,QA,M.j7,Tk]
theorem DW{x:Int}(a:-1000000<=x)(b:x<=1000000):x.natAbs.log2<1920:=by
 have h:x.natAbs<2^20:=by lia
 by_cases z:x.natAbs=0
 .rw[z];decide
 .have:=(Y8 z).mpr h
  lia
theorem Hq{g h:G}{δ:Ds}{β:Bg}(P:Ds->Bg->Prop)(d:Gw g δ β (λo β1=>∃c,o= .nx c/\P c β1))(f:∀c β1,P c β1->Gw h c β1 Q):Gw (aw g h) δ β Q:=by
 obtain⟨o,β1,e,c,rfl,p⟩:=d;exact c8 e<|f c β1 p
theorem jo{δ:Ds}{β:Bg}{P:Ds->Bg->Prop}(p:P δ β):Gw gNil δ β (λo β1=>∃c,o= .nx c/\P c β1):=aT ⟨_,rfl,p⟩
noncomputable abbrev gI(ba:LI):a0u:=ba.map λr=>r.map D.n
noncomputable abbrev lG(c:a0u):D:= .l<|c.map D.l
abbrev bF(ba:LI):D:=lG<|gI ba
noncomputable def pD(p:Int×Int):D:= .t [.n p.1,.n p.2]
abbrev gP(b:LP):a0u:=b.map λr=>r.map pD
abbrev bO(b:LP):D:=lG<|gP b
def i4{e:Type}(r c:Nat)(m:List<|List e):Prop:=VX m=r/\∀d∈m,VX d=c
noncomputable def tot(ba:LI):Int:=(ba.map Q6).sum
theorem bq(h:n<=1000):n<=Ps:=Pk h (by decide)
theorem kn:∀r:a0e,noLs (r.map D.n)=O6
 |[]=>rfl
 |x::r=>by
  show(noL (.n x)&&noLs (r.map D.n))=O6;rw[kn r];rfl
theorem qt:∀r:a0S,noLs (r.map pD)=O6
 |[]=>rfl
 |x::r=>by
  show(noL (pD x)&&noLs (r.map pD))=O6;rw[qt r];rfl
theorem LW(b:LP):(gP b).all noLs=O6:=by
 rw[Sf];intro x a;obtain⟨r,_,rfl⟩:=Pj.mp a;exact qt r
theorem i4.map{d a:Type}{f:d->a}{r c:Nat}{m:List (List d)}(h:i4 r c m):i4 r c (m.map λx=>x.map f):=⟨by rw[OY,h.1],λe b=>by
 obtain⟨x,j,rfl⟩:=Pj.mp b;rw[OY];exact h.2 x j⟩
theorem i4.set{d:Type}{r c i j:Nat}{m:List (List d)}{row:List d}{v:d}(h:i4 r c m)(b:m[i]?=on row):i4 r c (m.set i<|row.set j v):=⟨by rw[PX,h.1],λx a=>by
 rcases RP a with a|rfl
 .exact h.2 x a
 .rw[PX];exact h.2 row<|PD b⟩
theorem i4.at{d:Type}{r c i:Nat}{m:List (List d)}(h:i4 r c m)(b:i<r):∃row,m[i]?=on row/\VX row=c:=by
 have a:i<VX m:=by rw[h.1];exact b
 exact⟨m[i],O4 a,h.2 _<|Qd a⟩
theorem IA{c:Type}{l:List c}{i:Nat}(h:i<VX l):∃x,l[i]?=on x:=⟨l[i],O4 h⟩
theorem cz:∀{c:a0e} {j:Nat} {x v:Int},c[j]?=on x->(c.set j v).sum=c.sum-x+v
 |[],j,x,v,h=>by simp at h
 |y::c,0,x,v,h=>by
  simp at h;subst h;simp only[List.set_cons_zero,PL];lia
 |y::c,j+1,x,v,h=>by
  have d:c[j]?=on x:=by simpa using h
  simp only[List.set_cons_succ,PL,cz d];lia
theorem IW{ba:LI}{i j:Nat}{row:a0e}{x v:Int}(a:ba[i]?=on row)(b:row[j]?=on x):tot (ba.set i<|row.set j v)=tot ba-x+v:=by
 unfold tot;rw[R8,cz (x:=row.sum) (by rw[O9,a];rfl),cz b];lia
theorem LX{ba:LI}{i j:Nat}{row:a0e}(h:∀r∈ba,∀x∈r,0<=x)(k:ba[i]?=on row)(l:0<=v):∀r∈ba.set i (row.set j v),∀x∈r,0<=x:=λr a x b=>by
 rcases RP a with a|rfl
 .exact h r a x b
 .rcases RP b with b|rfl
  .exact h row (PD k) x b
  .exact l
theorem pX:∀{xs:a0e},(∀x∈xs,0<=x)->0<=xs.sum
 |[],_=>by simp
 |y::xs,h=>by
  have:=pX (xs:=xs) λx a=>h x<|O1 _ a;have:=h y Pa;simp only[PL];lia
theorem wf:∀{xs:a0e},(∀x∈xs,0<=x)->∀x∈xs,x<=xs.sum
 |[],_,x,hx=>by cases hx
 |y::xs,h,x,hx=>by
  have:=pX (xs:=xs) λx hx=>h x<|O1 _ hx;have:=h y Pa;rcases Pr.mp hx with rfl|hx
  .simp only[PL];lia
  .have:=wf (xs:=xs) (λx hx=>h x<|O1 _ hx) x hx
   simp only[PL];lia
theorem Mb(h:∀r∈ba,∀x∈r,0<=x):∀r∈ba,∀x∈r,x<=tot ba:=λr a x b=>by
 have k:=wf (h r a) x b;have l:=wf (xs:=ba.map Q6) (λs c=>by
  obtain⟨q,j,rfl⟩:=Pj.mp c;exact pX<|h q j) r.sum<|Pj.mpr ⟨r,a,rfl⟩
 unfold tot;lia
structure Tab (r c:Nat) (ba:LI):Prop where
 shp:i4 r c ba
 nn:∀row∈ba,∀x∈row,0<=x
 tot:tot ba<=40
 r0:1<=r
 r1:r<=4
 c0:1<=c
 c1:c<=6
theorem fA(c:a0e):gm [.l<|c.map D.n]=on (.n c.sum):=by
 show((cu<|c.map D.n).map λl=>D.n l.sum)=_;have:∀c:a0e,cu (c.map D.n)=on c:=λc=>by
  induction c with
  |nil=>rfl
  |cons n c d=>simp[cu,d]
 rw[this];rfl
theorem y2{n:Int}(a:0<=n)(h:n<=10^9):dM [.n n]=on (aW 0 n.toNat):=by
 have q:(decide (-(2^62)<=n)&&decide (n<2^62))=O6:=by
  simp only[PV,P9];lia
 show(if(decide (-(2^62)<=n)&&decide (n<2^62))=O6 then on (aW 0 n.toNat)else OZ)=_;rw[Pc q]
theorem uB{d:D}(h:(aW 0 n)[k]?=on d):k<n/\d= .n (k:Int):=by
 unfold aW at h;have a:k<n:=by
  have:=(Pl.mp h).1;simpa using this
 rw[O9,QU a]at h;exact⟨a,by cases h;simp⟩
theorem mv(n:Nat):VX (aW 0 n)=n:=by simp[aW]
theorem bw{e:Type}{f:FD}{δ:Dn}{β:Bg}(d:List e)(u v:e->D)(a:it δ β=on (.ok<|d.map u,β))
  (b:∀x∈d,∃c,tg (u x) (ll nv cy δ)=on c/\f c β=on (.ok<|v x,β)) (j:VX d<=Ps):cS nv cy it tg (λ_=>M.j7 O6) (lg f) δ β=on (.ok<|.l<|d.map v,β):=by
 refine sB a ?_ (by rw[OY];exact j);have g:∀d:List e,(∀x∈d,∃c,tg (u x) (ll nv cy δ)=on c/\f c β=on (.ok<|v x,β))->nC tg (λ_=>M.j7 O6) (lg f) (d.map u) (ll nv cy δ) β=on (.ok<|d.map v,β):=by
  intro d
  induction d with
  |nil=>intro _;rfl
  |cons x d i=>
   intro h;obtain⟨c,k,l⟩:=h x Pa;have m:=i λy n=>h y<|O1 _ n;rw[Pi,nC];simp only[k,M.v,M.j7,reduceIte,lg,l,m,Pi,Tt,R5]
 exact g d b
theorem ud{d:Type}{f:FL}{δ:Dn}{β:Bg}(xs:List d)(u:d->D)(v:d->a0c)(a:it δ β=on (.ok<|xs.map u,β))
  (b:∀x∈xs,∃c,tg (u x) (ll nv cy δ)=on c/\f c β=on (.ok<|v x,β)) (j:VX xs<=Ps):iD nv cy it tg (λ_=>M.j7 O6) (sH f) δ β=on (.ok<|xs.map v,β):=by
 have e:∀xs:List d,(∀x∈xs,∃c,tg (u x) (ll nv cy δ)=on c/\f c β=on (.ok<|v x,β))->pM tg (λ_=>M.j7 O6) (sH f) (xs.map u) (ll nv cy δ) β=on (.ok<|xs.map v,β):=by
  intro xs
  induction xs with
  |nil=>intro _;rfl
  |cons x xs g=>
   intro h;obtain⟨c,k,l⟩:=h x Pa;have m:=g λy n=>h y<|O1 _ n;rw[Pi,pM];simp only[k,M.v,M.j7,reduceIte,sH,l,m,Pi,Tt,R5]
 unfold iD;simp only[a,e xs b,OY,j,Qs]
theorem E3{e:Type}{f:FD}{δ:Dn}{β:Bg}(d:List e)(u:e->D)(v:e->D)(a:it δ β=on (.ok<|d.map u,β))
  (b:∀x∈d,∃c,tg (u x) (ll nv cy δ)=on c/\f c β=on (.ok<|v x,β)) (j:VX d<=Ps):iC nv cy it tg (λ_=>M.j7 O6) (lg f) δ β=on (.ok<|d.map v,β):=by
 have g:∀d:List e,(∀x∈d,∃c,tg (u x) (ll nv cy δ)=on c/\f c β=on (.ok<|v x,β))->nC tg (λ_=>M.j7 O6) (lg f) (d.map u) (ll nv cy δ) β=on (.ok<|d.map v,β):=by
  intro d
  induction d with
  |nil=>intro _;rfl
  |cons x d i=>
   intro h;obtain⟨c,k,l⟩:=h x Pa;have m:=i λy n=>h y<|O1 _ n;rw[Pi,nC];simp only[k,M.v,M.j7,reduceIte,lg,l,m,Pi,Tt,R5]
 unfold iC;simp only[a,g d b,OY,j,Qs]
theorem Lg{ds:a0c}{c:Nat}(a:VX ds<=Ps)(b:VX ds*c<=Ps)(hc:c<=1000000):vM ds (.n (c:Int))=on (Py c ds).flatten:=by
 have q:(decide (-(2^63)<=(c:Int))&&decide ((c:Int)<2^63)&&decide (VX ds<=Ps)&&decide (VX ds*(c:Int).toNat<=Ps))=O6:=by
  simp only[PV,P9];exact⟨⟨⟨by lia,by lia⟩,a⟩,by rw[Ra];exact b⟩
 unfold vM;simp only[q,Qs];rw[Ra]
theorem wE{d:Type}(x:d):∀c:Nat,(Py c [x]).flatten=Py c x
 |0=>rfl
 |c+1=>by rw[Q4,Sy,wE x c];rfl
theorem N0{f:FD}{g:FD}{x:D}{c:Nat}{δ:Dn}{β:Bg}(a:f δ β=on (.ok x,β))(b:g δ β=on (.ok<|.n (c:Int),β))(hc:c<=1000):zm (aa f am) g δ β=on (.ok<|Py c x,β):=by
 have d:[x].length<=Ps:=by rw[QO];decide
 have j:[x].length*c<=Ps:=by rw[QO,Y9];exact bq hc
 have r:=Lg (ds:=[x]) (c:=c) d j (by lia);rw[wE]at r;have s:szL [x]=on [x]:=by
  unfold szL;rw[Pc d]
 have k:aa f am δ β=on (.ok [x],β):=ac a rfl;unfold zm;rw[M.f5 k,s,M.l8,M.f5 b,r];rfl
theorem Fe(c:a0Y):eG (c.map D.c)=on c:=by
 induction c with
 |nil=>rfl
 |cons b c d=>simp[eG,d]
theorem any_map{α:Type}(c:List α)(p:α->Bool):AH [.l<|c.map λx=>D.c<|p x]=on (.c<|c.any p):=by
 show(eG _).map _=_;rw[show(c.map λx=>D.c<|p x)=(c.map p).map D.c by rw[Pp];rfl,Fe];simp only[Rj,List.any_map];rfl
theorem eQ{c:Type}(r:Nat)(x:c):(Ph r).map (λ_=>x)=Py r x:=by rw[Xd,PY]
theorem cW{c:a0c}(h:VX c=r):fj [.l c]=on (.n (r:Int)):=by subst h;rfl
theorem qB{ba:a0u}(h:VX ba=r):fj [lG ba]=on (.n (r:Int)):=cW (by rw[OY,h])
theorem oq{ba:a0u}{k:Nat}{row:a0c}(h:ba[k]?=on row):g8 (lG ba) (.n (k:Int))=on (.l row):=Ey (by lia) (by rw[Ra,O9,h];rfl)
theorem dS{xs:a0c}{k:Nat}{d:D}(h:xs[k]?=on d):g8 (.l xs) (.n (k:Int))=on d:=Ey (by lia) (by rw[Ra];exact h)
theorem eK{x y:D}:da [x,y]=on (.t [x,y]):=by
 unfold da;rw[Pc (show[x,y].length<=Ps by rw[Pt,QO];decide)]
theorem lst0:dZ []=on (.l []):=by
 unfold dZ;rw[Pc (show([]:a0c).length<=Ps by rw[Xb];decide)]
theorem zC{x:D}:dZ [x]=on (.l [x]):=by
 unfold dZ;rw[Pc (show[x].length<=Ps by rw[QO];decide)]
theorem L6{x y:Int}:v7 [.n x,.n y]=on (.n<|UW x y):=by
 unfold v7;simp only;congr 2;split<;>lia
theorem max2{x y:Int}:zw [.n x,.n y]=on (.n<|max x y):=by
 unfold zw;simp only;congr 2;split<;>lia
theorem eq_int{x y:Int}:g9 (.n x) (.n y)=on (.c<|decide (x=y)):=by rw[OS]
theorem ne_int{x y:Int}:jI (.n x) (.n y)=on (.c<|!decide (x=y)):=by rw[OR]
theorem yi{i:Nat}{d:D}(h:(db 0 j)[i]?=on d):∃x,j[i]?=on x/\d= .t [.n (i:Int),x]:=by
 obtain⟨x,b,a⟩:=mX h;rw[Qu]at a;exact⟨x,b,a⟩
theorem cQ{c a:Type}{f:c->a}{xs:List c}{i:Nat}{d:a}(h:(xs.map f)[i]?=on d):∃x,xs[i]?=on x/\d=f x:=by
 rw[O9]at h;cases q:xs[i]? with
 |none=>rw[q]at h;cases h
 |some x=>rw[q]at h;exact⟨x,rfl,by cases h;rfl⟩
noncomputable abbrev i6(r c:Nat):LP:=Py r<|Py c (0,40)
theorem EL(r c:Nat):i4 r c (i6 r c):=⟨by simp,λd h=>by rw[(Q0.mp h).2];simp⟩
noncomputable def Im{d:Type}(m:List<|List d)(i j:Nat):Option d:=(m[i]?).bind λc=>c[j]?
theorem U_{d:Type}{m:List (List d)}{i j k l:Nat}{c:List d}{v x:d}(a:m[i]?=on c)(h:Im (m.set i<|c.set j v) k l=on x):(k=i/\l=j/\x=v)\/(Im m k l=on x/\¬(k=i/\l=j)):=by
 unfold Im at h⊢;rw[Q9]at h;by_cases q:i=k
 .subst q
  rw[Pc rfl]at h;split at h
  .simp only[SE]at h
   rw[Q9]at h;by_cases w:j=l
   .subst w
    rw[Pc rfl]at h;split at h
    .exact .inl ⟨rfl,rfl,(P3 h).symm⟩
    .cases h
   .rw[Pd w]at h
    exact .inr ⟨by rw[a];exact h,λz=>w z.2.symm⟩
  .cases h
 .rw[Pd q]at h
  exact .inr ⟨h,λz=>q z.1.symm⟩
theorem yw{d:Type}{m:List (List d)}{i j:Nat}{x:d}(h:Im m i j=on x):∃c∈m,x∈c:=by
 unfold Im at h;cases q:m[i]? with
 |none=>rw[q]at h;cases h
 |some c=>rw[q]at h;exact⟨c,PD q,PD h⟩
theorem m9{c:Type}{m:List (List c)}{i j:Nat}{row:List c}{x:c}(a:m[i]?=on row)(b:row[j]?=on x):Im m i j=on x:=by unfold Im;rw[a];exact b
structure wh (p:Int×Int):Prop where
 l:0<=p.1
 m:p.1<=p.2
 h:p.2<=40
def Kp(ba:LI)(b:LP):Prop:=∀i j x p,Im ba i j=on x->Im b i j=on p->p.1<=x/\x<=p.2
structure B_ (r c:Nat) (b:LP):Prop where
 shp:i4 r c b
 ok:∀row∈b,∀p∈row,wh p
theorem B_.set{r c i j:Nat}{b:LP}{row:a0S}(h:B_ r c b)(l:b[i]?=on row)(m:wh p):B_ r c (b.set i<|row.set j p):=⟨h.shp.set l,λq k x a=>by
 rcases RP k with k|rfl
 .exact h.ok q k x a
 .rcases RP a with a|rfl
  .exact h.ok row (PD l) x a
  .exact m⟩
theorem B_.free(r c:Nat):B_ r c (i6 r c):=⟨EL r c,λd b p a=>by
 rw[(Q0.mp b).2]at a;rw[(Q0.mp a).2];exact⟨by decide,by decide,by decide⟩⟩
theorem Tab.le40{r c:Nat}(t:Tab r c ba):∀d∈ba,∀x∈d,0<=x/\x<=40:=λd a x b=>⟨t.nn d a x b,by
 have:=Mb t.nn d a x b;have:=t.tot;lia⟩
theorem Kp.free{r c:Nat}(t:Tab r c ba):Kp ba (i6 r c):=λi j x p k l=>by
 obtain⟨d,m,b⟩:=yw k;obtain⟨q,n,a⟩:=yw l;rw[(Q0.mp n).2]at a;rw[(Q0.mp a).2];exact t.le40 d m x b
theorem Kp.set{b:LP}{i j:Nat}{row:a0S}{p:Int×Int}{x:Int}(h:Kp ba b)(n:b[i]?=on row)(o:Im ba i j=on x)(r:p.1<=x)(v:x<=p.2):Kp ba (b.set i<|row.set j p):=λk l y q a m=>by
 rcases U_ n m with⟨rfl,rfl,rfl⟩|⟨m,_⟩
 .rw[o]at a
  cases a;exact⟨r,v⟩
 .exact h k l y q a m
theorem Ke{e:Type}{δ:Dn}{β:Bg}(d:List e)(u:e->D)(o:e->a0c)(a:it δ β=on (.ok<|d.map u,β))
  (j:∀x∈d,∃c,tg (u x) (ll nv cy δ)=on c/\b c β=on (.ok<|o x,β)) (k:VX (d.flatMap o)<=Ps):cS nv cy it tg (λ_=>M.j7 O6) b δ β=on (.ok<|.l<|d.flatMap o,β):=by
 refine sB a ?_ k;have f:∀d:List e,(∀x∈d,∃c,tg (u x) (ll nv cy δ)=on c/\b c β=on (.ok<|o x,β))->nC tg (λ_=>M.j7 O6) b (d.map u) (ll nv cy δ) β=on (.ok<|d.flatMap o,β):=by
  intro d
  induction d with
  |nil=>intro _;rfl
  |cons x d g=>
   intro h;obtain⟨c,l,m⟩:=h x Pa;have n:=g λy p=>h y<|O1 _ p;rw[Pi,nC];simp only[l,M.v,M.j7,reduceIte,m,n,QJ]
 exact f d j
theorem DM{e:Type}{f:FD}{δ:Dn}{β:Bg}(d:List e)(u v:e->D)(a:it δ β=on (.ok<|d.map u,β))
  (b:∀x∈d,∃c,tg (u x) δ=on c/\f c β=on (.ok<|v x,β)):cNx it tg (λ_=>M.j7 O6) (lg f) δ β=on (.ok<|d.map v,β):=by
 have g:∀d:List e,(∀x∈d,∃c,tg (u x) δ=on c/\f c β=on (.ok<|v x,β))->nC tg (λ_=>M.j7 O6) (lg f) (d.map u) δ β=on (.ok<|d.map v,β):=by
  intro d
  induction d with
  |nil=>intro _;rfl
  |cons x d i=>
   intro h;obtain⟨c,j,k⟩:=h x Pa;have l:=i λy m=>h y<|O1 _ m;rw[Pi,nC];simp only[j,M.v,M.j7,reduceIte,lg,k,l,Pi,Tt,R5]
 unfold cNx;rw[M.f5 a];exact g d b
theorem oX{e a:Type}(u:e->D)(v:a->D):∀(c:List e) (d:List a),eJ (c.map u) (d.map v)=(c.zip d).map λp=>D.t [u p.1,v p.2]
 |[],d=>by simp[eJ]
 |x::c,[]=>by simp[eJ]
 |x::c,y::d=>by simp[eJ,oX u v c d]
theorem wQ{c:a0c}{k:Nat}:pI c (on (k:Int)) OZ=c.drop k:=by
 unfold pI;rw[HT.sIx_none,HT.sIx_nat];by_cases h:k<=VX c
 .rw[show UW k (VX c)=k by lia]
  rw[R9<|by rw[List.length_drop];lia]
 .rw[RJ (by lia),RJ<|by lia]
  simp
theorem sM{f g:FD}{δ:Dn}{β:Bg}(a:f δ β=on (.ok<|.l j,β))(b:g δ β=on (.ok<|.n k,β)):fSl f (on g) OZ δ β=on (.ok<|.l<|pI j (on k) OZ,β):=by
 unfold fSl uR;simp only[M.v,a,b,M.j7,M.f,Fh,slD]
theorem yy{c d:a0c}(h:VX c+VX d<=1000):gF (.l c) (.l d)=on (.l<|c++d):=by
 unfold gF;simp only;rw[Pc<|bq h]
def kZ:a0c->a0g->Prop
 |[],[]=>True
 | .n i::ds,.int j _::vs=>i=j/\kZ ds vs
 | .q x::ds,.str y _::vs=>x=y/\kZ ds vs
 | .c x::ds,.bool y::vs=>x=y/\kZ ds vs
 | .o::ds,.none::vs=>kZ ds vs
 |_,_=>False
theorem iz{K:Pz}:∀{ds:a0c} {vs:a0g},kZ ds vs->∃c,au c vs/\∀F H,br K F H ds c
 |[],[],_=>⟨[],.nil,λ_ _=>br.f5⟩
 | .n i::ds,.int j t::vs,h=>by
  obtain⟨e,h⟩:=h;subst e;obtain⟨c,a,b⟩:=iz (K:=K) h;exact⟨.n i::c,.cons ⟨t,rfl⟩ a,λF H=>br.cons rfl<|b F H⟩
 | .q i::ds,.str j t::vs,h=>by
  obtain⟨e,h⟩:=h;subst e;obtain⟨c,a,b⟩:=iz (K:=K) h;exact⟨.q i::c,.cons ⟨t,rfl⟩ a,λF H=>br.cons rfl<|b F H⟩
 | .c i::ds,.bool j::vs,h=>by
  obtain⟨e,h⟩:=h;subst e;obtain⟨c,a,b⟩:=iz (K:=K) h;exact⟨.c i::c,.cons rfl a,λF H=>br.cons rfl<|b F H⟩
 | .o::ds,.none::vs,h=>by
  obtain⟨c,a,b⟩:=iz (K:=K) (ds:=ds) (vs:=vs) h;exact⟨.o::c,.cons rfl a,λF H=>br.cons rfl<|b F H⟩
def VIs(K:Pz)(d:D)(u:Pb):Prop:=∃v,aL v u/\∀F H,c4 K F H d v
theorem nE{K:Pz}{i:Int}{t:Tok}:VIs K (.n i) (.int i t):=⟨.n i,⟨t,rfl⟩,λ_ _=>rfl⟩
theorem IN{K:Pz}{q3:a0I}(a:K.lookup p=on ⟨q1,q2,.seq q3 q4,q5⟩)(hc:q1= .type "tuple")(b:q3.size<=Ps)(j:kZ m q3.toList):VIs K (.t m) (.ref p):=by
 obtain⟨c,k,l⟩:=iz (K:=K) j;exact⟨.r p,rfl,λF H=>⟨p,c,rfl,.inr ⟨_,q3,q4,a,hc,rfl,b,k⟩,l F H⟩⟩
theorem qZ{K:Pz}{mg:a0i}{x:Qa}{d:D}{u:Pb}(h:mg x=on u)(v:VIs K d u):oJ K mg x d:=let ⟨w,h1,h2⟩:=v;⟨u,w,h,h1,h2⟩
theorem MR{K:Pz}{d:a0h}{us:a0g}(n:Nat)(l:VX d=n+VX us)(b:∀(s:Pe) (c:a0g),K.In s.heap->VX c=n->WH s m ⟨c,[]⟩ (d.zip<|c++us))(h:∃c,au c us/\∀F H,br K F H dd c):dF K m d dd:=
 let ⟨c,h1,h2⟩:=h
 ⟨us,c,λs a j k=>b s a j (by rw[PR]at k;lia),h1,h2⟩
theorem MP{K:Pz}:∃c,au c []/\∀F H,br K F H [] c:=⟨[],.nil,λ_ _=>br.f5⟩
theorem Kd{K:Pz}{d:D}{u:Pb}(v:VIs K d u)(h:∃c,au c us/\∀F H,br K F H l c):∃c,au c (u::us)/\∀F H,br K F H (d::l) c:=by
 obtain⟨w,a,b⟩:=v;obtain⟨c,j,k⟩:=h;exact⟨w::c,.cons a j,λF H=>br.cons (b F H)<|k F H⟩
inductive M_ (K:Pz):List (Sr D)->List (Sr Pb)->Prop where
 |nil:M_ K [] []
 |kw {j:Nat} {a:List (Sr D)} {c:List (Sr Pb)}:M_ K a c->M_ K (.kw j::a) (.kw j::c)
 |df {x:D} {y:Pb} {a:List (Sr D)} {c:List (Sr Pb)}:VIs K x y->M_ K a c->M_ K (.df x::a) (.df y::c)
theorem M_.mid{K:Pz}:∀{a:List (Sr D)} {c:List (Sr Pb)},M_ K a c->∃b:List<|Sr V,lr aL b c/\lr (λd v=>∀F H,c4 K F H d v) a b
 |_,_,.nil=>⟨[],.nil,.nil⟩
 |_,_,.kw (j:=j) h=>let ⟨b,h1,h2⟩:=M_.mid h;⟨.kw j::b,.kw h1,.kw h2⟩
 |_,_,.df v h=>let ⟨b,h1,h2⟩:=M_.mid h;let ⟨w,g1,g2⟩:=v;⟨.df w::b,.df g1 h1,.df g2 h2⟩
theorem Of{K:Pz}{d e:a0h}{c:List (Sr D)}{sv:List (Sr Pb)}(h:M_ K c sv)(j:VX d=n+VX c)(k:0<VX d)(b:∀(s:Pe) (us a:a0g),K.In s.heap->VX us=n->VX a=VX e->WH s l ⟨us,e.zip a⟩ (d.zip<|us++sv.map (Sr.f5 .none a))):I_ K l d e n c:=
 ⟨let ⟨sx,h1,h2⟩:=h.mid;⟨sv,sx,h1,h2,b⟩,j,k⟩
variable{X:Cx}{E:a0r}{K:Pz}{a:QD}
end
section
variable{h:G}{δ:Ds}{β β1 b a:Bg}{Q:a0z}{i:Nat}{k j e:FD}{fl:FL}{d m l:D}{ds:a0c}{c:a0R}
theorem Hm{δ:Dn}{β β1:Bg}(a:t δ β=on (.ok O6,β1))(b:f δ β1=on r):fIf t f g δ β=on r:=by
 unfold fIf M.v;rw[a];exact b
theorem Hn{δ:Dn}{β β1:Bg}(a:t δ β=on (.ok O8,β1))(b:g δ β1=on r):fIf t f g δ β=on r:=by
 unfold fIf M.v;rw[a];exact b
theorem Hl{d:D}{δ:Dn}{β:Bg}(e:δ.getD n OZ=on d):ad n δ β=on (.ok d,β):=by unfold ad;rw[e];rfl
end
section
variable{β β1 a:Bg}{f g h:FD}{δ:Dn}{x y z:Int}
theorem AO(a:f δ β=on (.ok<|.n x,β))(b:g δ β=on (.ok<|.n y,β))(c:h δ β=on (.ok<|.n z,β)):kU leD ltD f g h δ β=on (.ok<|.c<|decide (x<=y)&&decide (y<z),β):=by
 unfold kU M.v;rw[a];simp only[b,le_int,M.f,asB];by_cases q:x<=y
 .simp only[q,decide_true,Qs,c,lt_int,S7]
 .simp only[q,Zj,PF,QA,M.j7,Tk]
theorem qy{K:Pz}{f:Qa}:∀{w:a0h} {y:a0c} {g:a0j},br K F H y g->(w.zip y).lookup f=on d->∃v,(w.zip g).lookup f=on v/\c4 K F H d v
 |[],y,g,h,e=>by simp at e
 |n::w,[],g,h,e=>by simp at e
 |n::w,c::y,g,h,e=>by
  obtain⟨x,r,q,a,b⟩:=h;subst q;rw[Rl,RU]at e⊢;split at e
  .rename_i z
   cases e;exact⟨x,rfl,a⟩
  .rename_i z
   exact qy b e
theorem tQ{w:Type}:∀{f:a0h} {g:List w},m∉f->(f.zip g).lookup m=OZ
 |[],g,_=>by simp
 |n::f,[],_=>by simp
 |n::f,x::g,h=>by
  rw[Rl,RU];have a:m≠n:=λz=>h (by rw[z];exact Pa);have b:m∉f:=λz=>h<|O1 _ z;rw[show(m==n)=O8 by simpa using a];exact tQ b
theorem dF.f5{K:Pz}(b:cq K c ps []):dF K c ps []:=⟨[],[],b,.nil,λ_ _=>br.f5⟩
end
section
variable{X:Cx}{E:a0r}{o e:Expr}{es:List Expr}{P p s c:Uq}{x m:Qa}{k n:Nat}{f C:O7}{fd:PP}{ps ks:a0h}{aa:List WL}
noncomputable def z0(C:O7)(f:Qa):D->a0m
 | .obj C' ns ds=>if C'=C then(ns.zip ds).lookup f else OZ
 |_=>OZ
theorem jZ{f:Qa}(c:u0 X.K C)(n:eA X.K C f)(j:PE X e<|tV X.K g E)(l:T7 e f X.e (Qz e X.e)=Qz e X.e:=by rfl):PE X (.Attribute e f P) (tV X.K (f1 (z0 C f) g) E):=
 (LF j l).imp λJ H Q i=>lm i λF o p fr q h=>⟨F,o,p,fr,q,(run.bind (R:=c4 X.K F) h).mono λv r i=>by
  obtain⟨d,s,t,m,r1⟩:=i;obtain⟨D,b,k⟩:=run.j6 r1;cases d<;>first|cases b|skip
  rename_i u G M;unfold z0 at b;simp only at b;split at b
  .rename_i z
   subst z;unfold c4 at m;obtain⟨a,x,S,rfl,L,y,N,A⟩:=m;obtain⟨w,B,I⟩:=qy A b;exact⟨a,u,x,_,w,rfl,y,c,n,B,k w r (To.refl t.fr) I⟩
  .cases b⟩
def i7{c:Type}(C:O7)(m:Qa)(a:a0c->M c)(b:FD)(g:FL)(f:a0c):Dn->M c:=λe=>M.v (b e) λd=>match d with
 | .obj C' ns _=>if C'=C/\m∉ns then M.v (g e) λk=>a (d::(k++f))else M.j9
 |_=>M.j9
def spT{c:Type}(K:Pz)(T:Fx->Hp->Hp->c->V->Prop)(n:Nat)(m:a0c->M c):Sp:=λe H Q E=>VX e=n/\∃F f k,Fr F H k/\br K F H f e/\run (T F H) F (λ_=>E) [] (m f) H Q k
theorem v8{w:Type}{T:Fx->Hp->Hp->w->V->Prop}{O:a0c->M w}{U:FD}{g:FL}{s:a0c}{K:Pz}{b:a0j}{j:St}{H:Hp}{Q:VK}(X:∀{F H l q f d v},To F H l f->T F l q d v->T F H q d v)(G:∀F H,br K F H s b)(hn:∀o f r c,g o f=on (.ok r,c)->VX r+VX s+1=n)(h:∃F o f,Fr F H f/\jm K F H o j/\run (T F H) F E j (i7 C m O U g s o) H Q f):yJ C m (spT K T n O) b E (tV K U E) (i_ K g E) j H Q:=by
 obtain⟨F,o,f,fr,W,h⟩:=h;refine⟨F,o,f,fr,W,(run.bind (R:=c4 K F) h).mono λv l h_=>pj h_ λd p t x r1=>?_⟩;have k:∀{u:M w},u=M.j9->run (T F H) F E j u l Q p->False:=λ{u} e r=>by
  obtain⟨r,c,Y,_⟩:=r;rw[e]at Y;cases Y
 cases d<;>first|exact(k rfl r1).elim|skip
 rename_i C' ns ds;simp only at r1;split at r1
 .rename_i z
  obtain⟨rfl,hm⟩:=z;have y:=x;unfold c4 at x;obtain⟨a,dx,xs,rfl,h1,h2,h3,A⟩:=x;refine⟨a,dx,_,rfl,h2,tQ hm,F,o,p,t.fr,W.tr<|t.tr fr,?_⟩;obtain⟨r0,B,Z,P⟩:=run.bind (R:=br K F) r1;refine⟨r0,B,Z,?_⟩;cases r0 with
  |error C=>exact P
  |ok as=>
   intro vs I t2 i;obtain⟨d',D,J,L,r3⟩:=P vs I t2 i;have hl:=hn _ _ _ _ Z;have hz:=(G F I).length;refine⟨by rw[Pt,PR,<-i.length,<-hz,hl],F,_::(d'++s),D,J.fr,br.cons (c4.tr (J.tr t.fr) _ _ y)<|br.append L<|G F I,?_⟩;obtain⟨S,N,e4,A⟩:=r3;refine⟨S,N,e4,?_⟩;cases S with
   |error C=>exact A
   |ok d=>exact λv q t5 hv=>A v q t5<|X (t.trans J) hv
 .exact(k rfl r1).elim
theorem u8{p:a0c}(c:u0 X.K C)(x:oD X.K C m f)(G:en X.p X.w X.K X.mg X.base (f0 X.p X.w) k f fd ps<|KX X.K n L)(j:ee k X.A)(l:dF X.K fd ps p)(q:bU (f0 X.p X.w) X E)
  (t:PE X o<|tV X.K N E) (D:PA X (e::es)<|i_ X.K g E) (M:∀S V r i,g S V=on (.ok r,i)->VX r+VX p+1=n)
  (a:b0a X e es:=by rfl) (d:b0b X P es:=by rfl)
  (u:Qz (.Call (.Attribute o m s) (e::es) [] P) X.e=(do
   let I <-Qz o X.e
   SJ s.atName
   let (f,first) <-TR [I] (Vf I m pl)
   Xn P f first (Ry P<|Po (e::es) X.e) (SI P<|Rv [] X.e)):=by rfl):
  PE X (.Call (.Attribute o m s) (e::es) [] P) (tV X.K (i7 C m L N g p) E):=by
 obtain⟨O,v,b,y,J⟩:=l;exact(Jz (pl:=pl) t c x G j b y q D a d u).imp λB H Q h=>v8 (T:=λF _=>c4 _ F) (λ_ z=>z) J M h
theorem gR{p:a0c}(c:u0 X.K C)(M:oD X.K C m f)(G:en X.p X.w X.K X.mg X.base (f0 X.p X.w) k f fd ps<|KX X.K n mf)(g:ee k X.A)(i:dF X.K fd ps p)(j:bU (f0 X.p X.w) X E)
  (l:PE X o<|tV X.K fo E) (S:VX p+1=n)
  (q:Qz (.Call (.Attribute o m s) [] [] P) X.e=(do
   let Y <-Qz o X.e
   SJ s.atName
   let (f,first) <-TR [Y] (Vf Y m pl)
   Xn P f first (Ry P<|Po [] X.e) (SI P<|Rv [] X.e)):=by rfl):
  PE X (.Call (.Attribute o m s) [] [] P) (tV X.K (i7 C m mf fo am p) E):=by
 obtain⟨ds,t,b,u,V⟩:=i;refine(Gi (pl:=pl) l c M G g b u j q).imp λR H Q h=>?_;obtain⟨F,x,D,fr,y,h⟩:=v8 (T:=λF _=>c4 _ F) (λ_ z=>z) V (λx D r B e=>by cases e;simpa using S) h;refine⟨F,x,D,fr,y,h.mono λv U ⟨a,Z,fs,I,ha,J,W,L,aa,d,N,O⟩=>⟨a,Z,fs,I,ha,J,?_⟩⟩;exact run.j7 d O br.f5
structure ToX (F:Fx) (x:O7) (H H':Hp) (β':Bg):Prop where
 kp:∀a o,a≠x->H a=on o->(∀b l,F.bg=on (b,l)->a≠b/\a≠l)->H' a=on o
 fr:Fr F H' β'
def spI(K:Pz)(C:O7)(k:a0h)(n:Nat)(d:a0c->M a0c):Sp:=λs H Q E=>∃x e F m o p,s= .r x::e/\VX e=n/\Fr F H o/\F.A x/\(∀b l,F.bg=on (b,l)->x≠b/\x≠l)/\H x=on (.ins C p [])/\br K F H m e/\
 ∃r a,d m o=on (r,a)/\match r with
  | .ok es=>∀c f,ToX F x H c a->c x=on (.ins C p<|k.zip f)->VX k=VX f->br K F c es f->Q .o c
  | .error Ce=>∀c,ToX F x H c a->E (.ref Ce) OZ c
variable{m:a0h}
theorem Gz{K:Pz}{k:a0j}(fr:Fr F H2 β2)(O:VX k=n)(w:br K F H2 ds k)(r:run (c4 K F) F E σ (M.v (mi ds) λs=>M.j7<|.obj C m s) H2 Q β2):
  ∀x e,H2 x=OZ->H2 e=OZ->e≠x->spI K C m n mi (.r x::k) (upd (upd H2 e<|.u x) x<|.ins C e []) (λv R=>v= .o/\Q (.r x) R) (E σ):=by
 intro x e B H G;have I:¬F.A x:=fr.fresh B;have f:bP H2 (upd (upd H2 e<|.u x) x<|.ins C e []):=λa o h=>by
  rw[bb<|bt h B,bb<|bt h H];exact h
 have t:=fr.same f;have J:Fr (F.but x) (upd (upd H2 e<|.u x) x<|.ins C e []) β2:=⟨λa ha z=>(by
  rcases ha with ha|ha
  .exact t.fr.occ a ha z
  .subst ha;rw[aj]at z;cases z),λb l q=>let ⟨z1,z2,z3⟩:=fr.bgA b l q;⟨.inl z1,.inl z2,z3⟩,t.fr.bag⟩
 have T:∀b l,F.bg=on (b,l)->x≠b/\x≠l:=λb l q=>⟨λz=>I<|z▸(fr.bgA b l q).1,λz=>I<|z▸(fr.bgA b l q).2.1⟩;have L:Tr F H2 (F.but x) (upd (upd H2 e<|.u x) x<|.ins C e []):=⟨λa U W z=>by
  rcases z with z|z
  .exact U z
  .subst z;exact W B,λa o _ h=>f a o h,rfl⟩
 obtain⟨Y,c,d,h⟩:=r;refine⟨x,k,F.but x,ds,β2,e,rfl,O,J,.inr rfl,T,aj,br.tr L _ _ w,?_⟩;have j:∀{g:Hp} {c:Bg},ToX (F.but x) x (upd (upd H2 e<|.u x) x<|.ins C e []) g c->To F H2 g c:=λ{g c} i=>⟨λa o ha n=>i.kp a o (bt ha B) (f a o ha) n,⟨λa ha=>i.fr.occ a<|.inl ha,fr.bgA,i.fr.bag⟩⟩;cases q:mi ds β2 with
 |none=>unfold M.v at d;rw[q]at d;cases d
 |some z=>
  obtain⟨r1,p⟩:=z;refine⟨r1,p,rfl,?_⟩;cases r1 with
  |error Z=>
   rw[M.j8 q]at d;cases d;exact λg i=>h g<|j i
  |ok s=>
   rw[M.f5 q]at d;cases d;refine λg D i N u y=>⟨rfl,h (.r x) g (j i) ⟨x,e,D,rfl,I,N,u,br.tr Fx.j6 _ _ y⟩⟩
def jR(C:O7)(m:a0h)(a:a0c->M a0c)(g b:FL)(c:List<|Sr D):FD:=λe=>M.v (g e) λf=>M.v (b e) λks=>M.v (a<|f++c.map (Sr.f5 .o ks)) λk=>M.j7<|.obj C m k
def KG(C:O7)(f:Sp)(c:a0j->a0j->a0j)(E:a0r)(t d:TA):TE:=λa H Q=>t a H λk g=>d a g λh b=>∀x e,b x=OZ->b e=OZ->e≠x->
 f (c (.r x::k) h) (upd (upd b e<|.u x) x<|.ins C e []) (λv i=>v= .o/\Q (.r x) i) (E a)
theorem Gj(M:Mk X.K C f)(F:en X.p X.w X.K X.mg X.base CX k f fd ps sp)(U:ee (k+1) X.A)(Y:Gl X x)(n:X.mg x=on (.ref C))(O:J_ X.K fd ps ks g gV)(Z:bU CX X E)
  (o:PA X (e::es) t) (B:PK X aa tk) (i:(SI P<|Rv aa X.e).all (·.1.isSome)=O6:=by rfl) (J:(SI P<|Rv aa X.e).filterMap (·.1)=ks:=by rfl)
  (L:b0c x:=by decide) (D:b0a X e es:=by rfl)
  (N:((Ry P<|Po (e::es) X.e).any (·.1)||(SI P (Rv aa X.e)).any (·.1.isNone))=O8:=by rfl):
  PE X (.Call (.Name x p) (e::es) aa P) (KG C sp gV E t tk):=by
 intro a s l H Q I h;refine Uf<|jg I Y n ?_ L;refine PySem.W.callWith_KW (h₀:=X.base) I.ok.mod.kin M.kp i (d5 (o P a s l H _ I h) λm G ⟨vs,S,z,r,q⟩=>?_) N D;refine d5 (B P a G l S _ z q) λd c ⟨zs,H2,j,rz,q2⟩=>⟨j.kIn,?_⟩;rw[J];have R:=q2 (c.heap.objs.size+1) c.heap.objs.size (j.hok.fresh<|T4 _) (j.hok.fresh<|Pg _)<|Qm<|Vv _;have y:=cx.made (C:=C) j;have T:=O.rel (.cons (show aL (V.r<|c.heap.objs.size+1) (Pw<|c.heap.objs.size+1)from rfl) r) rz;have hl:VX (g (Pw (c.heap.objs.size+1)::m) d)=VX ps:=by rw[<-T.length];exact F.len _ _ _ _ R
 refine Vp<|GA (f:=f) j.kIn M.makes M.init (beq_iff_eq.mp M.fn)<|TN (F.run _ X.k _ _ ⟨Pw (c.heap.objs.size+1)::m,ks.zip d⟩ (g (Pw (c.heap.objs.size+1)::m) d) _ _ (E l) (U.make C m<|ks.zip d)
  (y.env0.make C m<|ks.zip d) (O.to _ (Pw (c.heap.objs.size+1)::m) d y.kIn hl) T R) λr s' b=>?_
 cases r with
 |error e=>exact Z a l _ _ e s' y b
 |ok fl=>
  cases fl with
  |ret u=>
   obtain⟨v,H',I4,rv,ev,q4⟩:=y.after b;subst ev;exact⟨rv,⟨V.r<|c.heap.objs.size+1,H',I4,rfl,q4⟩⟩
  |next=>exact RH b
  |brk=>exact RH b
  |cont=>exact RH b
theorem xk{o:List (Sr D)}(Mm:Mk X.K C f)(G:en X.p X.w X.K X.mg X.base (f0 X.p X.w) k f fd ps<|spI X.K C m n mi)(hr:ee (k+1) X.A)(hg:Gl X x)(hm:X.mg x=on (.ref C))(hb:I_ X.K fd ps ks (n1+1) o)(hx:bU (f0 X.p X.w) X E)
  (ha:PA X (e::es)<|i_ X.K g E) (c:PK X aa<|i_ X.K gk E) (hn:∀s M r a,g s M=on (.ok r,a)->VX r=n1) (d:∀s M r a,gk s M=on (.ok r,a)->VX r=VX ks) (h3:n1+VX o=n)
  (b:(SI P<|Rv aa X.e).all (·.1.isSome)=O6:=by rfl) (h:(SI P<|Rv aa X.e).filterMap (·.1)=ks:=by rfl)
  (i:b0c x:=by decide) (he:b0a X e es:=by rfl)
  (j:((Ry P<|Po (e::es) X.e).any (·.1)||(SI P (Rv aa X.e)).any (·.1.isNone))=O8:=by rfl):
  PE X (.Call (.Name x p) (e::es) aa P) (tV X.K (jR C m mi g gk o) E):=by
 obtain⟨sv,J,rd,kb⟩:=hb.kb;refine(Gj Mm G hr hg hm kb hx ha c b h i he j).imp λσ H Q h_=>lm h_ λF s M fr L r=>⟨F,s,M,fr,L,?_⟩;obtain⟨r0,l,N,O⟩:=run.bind (R:=br X.K F) r;refine⟨r0,l,N,?_⟩;cases r0 with
 |error C=>exact O
 |ok as=>
  intro S H1 t z;obtain⟨d',ab,q,u,r1⟩:=O S H1 t z;refine⟨F,s,ab,q.fr,L.tr<|q.tr fr,?_⟩;obtain⟨T,ac,U,W⟩:=run.bind (R:=br X.K F) r1;refine⟨T,ac,U,?_⟩;cases T with
  |error C=>exact W
  |ok bs=>
   intro v Y t2 Z;obtain⟨d2,ad,t3,B,r3⟩:=W v Y t2 Z;have l1:=hn _ _ _ _ N;have l2:=d _ _ _ _ U;have I:br X.K F Y d' S:=br.tr (t3.tr q.fr) _ _ u;intro y dx;have g1:gK V.o (n1+1) (VX ks) J (.r y::S) v= .r y::(S++J.map (Sr.f5 .o v)):=Pc ⟨by rw[Pt,<-z.length,l1],by rw[<-Z.length,l2]⟩;rw[g1];exact Gz t3.fr (by rw[PR,OY,<-z.length,l1,<-rd.len,h3]) (br.append I<|lr.den B rd) r3 y dx
abbrev IP:=Ds->a0c->Bg->Option (Except O7 a0c×Bg)
noncomputable def Il:IP:=λ_ c e=>on (.ok c,e)
noncomputable def kr(g:G)(a:IP):IP:=λe c f=>match g e f with
 |some (.nx δ1,β1)=>match e[0]?,δ1[0]? with
  |some (on (Sl.h (D.adr x))),on (on (Sl.h (D.adr y)))=>if x=y then a δ1 c β1 else OZ
  |_,_=>OZ
 |some (.ex C _,β1)=>on (.error C,β1)
 |_=>OZ
def ku(f:FD)(a:IP):IP:=λe c k=>match f (vw e) k with
 |some (.ok d,β1)=>a e (c++[d]) β1
 |some (.error C,β1)=>on (.error C,β1)
 |none=>OZ
structure ot (x:O7) (B:Ow) (H:Hp) (B':Ow) (H':Hp):Prop where
 kp:∀a o,a≠x->H a=on o->(B a=OZ\/B a=on 0)->H' a=on o
 tg:∀a,B a=on 0\/B a=on 1->B' a=B a
 nn:∀a o,a≠x->H a=on o->B a=OZ->B' a=OZ
 al:∀a,H a≠OZ->H' a≠OZ
end
theorem hU.x{x:O7}{B b:Ow}{H c:Hp}(s:hU B H b c):ot x B H b c:=⟨λa o _=>s.kp a o,s.tg,λa o _=>s.nn a o,s.al⟩
theorem ot.trans(a:ot x B H B1 H1)(b:ot x B1 H1 B2 H2):ot x B H B2 H2:=by
 refine⟨λc o w h n=>b.kp c o w (a.kp c o w h n) ?_,λc h=>?_,λc o w h n=>b.nn c o w (a.kp c o w h<|.inl n)<|a.nn c o w h n,λc h=>b.al c<|a.al c h⟩
 .rcases n with n|n
  .exact .inl (a.nn c o w h n)
  .exact .inr ((a.tg c<|.inl n).trans n)
 .have e:=a.tg c h
  rw[<-e]at h;exact(b.tg c h).trans e
def k4(K:Pz)(D:a0s)(E:a0r)(Dn:m4)(B:Ow)(H:Hp)(x C M:O7)(w:a0h)(r:Except O7 a0c)(d:Bg):Prop:=match r with
 | .ok ds=>∀b c a G,ot x B H c a->Fr (ej c D) a d->a x=on (.ins C M<|w.zip G)->VX w=VX G->br K (ej c D) a ds G->Dn.nx b a
 | .error Ce=>∀b c a,ot x B H c a->Fr (ej c D) a d->E b (.ref Ce) OZ a
theorem k4.pre{K:Pz}{E:a0r}{Dn:m4}(s:ot x B H B1 H1)(h:k4 K f E Dn B H x C g all r e):k4 K f E Dn B1 H1 x C g all r e:=by
 cases r with
 |ok D=>exact λa b c w t=>h a b c w<|s.trans t
 |error d=>exact λa b c t=>h a b c<|s.trans t
def tI(K:Pz)(D:Hp)(C:O7)(a w:a0h)(e:IP)(E:a0r):TS:=λDn f H=>∃B G M P x S b c r d,fh K D B G H M P f/\M[0]?=on (on<|.h<|.adr x)/\B x=on 0/\H x=on (.ins C S<|a.zip b)/\VX a=VX b/\br K (ej B G) H c b/\e M c P=on (r,d)/\k4 K G E Dn B H x C S (a++w) r d
theorem tK:∀{w:a0h} {D:a0j},VX w=VX D->f∉w->dP f y (w.zip D)=(w++[f]).zip (D++[y])
 |[],[],_,_=>rfl
 |n::w,v::D,h,hf=>by
  have a:¬n=f:=λz=>hf (by rw[z];exact Pa);show(if n=f then(n,y)::w.zip D else(n,v)::dP f y (w.zip D))=_;rw[Pd a,tK (by simpa using h) λz=>hf<|O1 _ z];rfl
 |[],_::_,h,_=>by simp at h
 |_::_,[],h,_=>by simp at h
theorem fh.upd0{K:Pz}(w:fh K H₀ B A H C F I)(a:B x=on 0):fh K H₀ B A (upd H x o) C F I/\ot x B H B (upd H x o):=by
 have D:∀c,H c≠OZ->upd H x o c≠OZ:=λc hc=>by
  by_cases z:c=x
  .subst z;rw[aj];simp
  .rw[bb z];exact hc
 have g:∀b l,A=on (b,l)->b≠x/\l≠x:=λb l e=>by
  obtain⟨E,f⟩:=w.bgt b l e;exact⟨λz=>(by rw[z,a]at E;cases E),λz=>(by rw[z,a]at f;cases f)⟩
 have G:Tr (ej B A) H (ej B A) (upd H x o):=⟨λ_ h _=>h,λc u hc e=>by
  rw[bb]
  .exact e
  .intro z;subst z;exact hc (by show B c≠OZ;rw[a];simp),rfl⟩
 refine⟨⟨⟨λc hc=>D c<|w.fr.occ c hc,w.fr.bgA,λb l e=>?_⟩,w.bgt,w.len,λc hc=>D c<|w.cov c hc,w.new,λc k hc=>?_,λi s e=>?_⟩,λc u M h _=>by rw[bb M];exact h,λ_ _=>rfl,λ_ _ _ _ n=>n,D⟩
 .obtain⟨j,m⟩:=w.fr.bag b l e
  obtain⟨p,q⟩:=g b l e;exact⟨by rw[bb p];exact j,by rw[bb q];exact m⟩
 .exact(w.lst c k hc).imp λo h=>by rw[bb];exact h;intro z;subst z;rw[a]at hc;cases hc
 .obtain⟨v,r,t⟩:=w.tell i s e
  exact⟨v,r,t.tr G λc d=>⟨d,λo z=>(bb λy=>by subst y;rw[a]at d;cases d).trans z⟩⟩
section
variable{X:Cx}{E:a0r}{st:QD}{aa:a0Q}{C:O7}{w P:a0h}{ip:IP}
theorem OF:PSs X [] (tI X.K X.H₀ C w [] Il E):=rR.imp λDn b H c=>by
 obtain⟨B,G,M,P,x,S,a,d,r,f,ok,i,j,g,h,D,e,k⟩:=c;cases e;rw[QI]at k;exact k b B H a (hU.refl B H).x ok.fr g h D
theorem Ip(m:PS X st<|tG X.K X.H₀ g E)(n:PSs X aa<|tI X.K X.H₀ C w P ip E):PSs X (st::aa) (tI X.K X.H₀ C w P (kr g ip) E):=(bY m n).imp λDn v H o=>by
 obtain⟨B,D,G,M,x,S,c,d,r,f,ok,p,h,q,t,V,e,k⟩:=o;unfold kr at e;split at e
 .rename_i δ1 β1 i
  split at e
  .rename_i y A q1 q2
   split at e
   .rename_i z
    subst z;rw[p]at q1;cases q1;refine⟨B,D,G,M,.nx δ1,β1,ok,i,λb j l s a=>?_⟩;exact⟨j,D,δ1,β1,x,S,c,d,r,f,a,q2,(s.tg x<|.inl h).trans h,s.kp x _ q<|.inr h,t,br.tr s.tr _ _ V,e,k4.pre s.x k⟩
   .cases e
  .cases e
 .rename_i u δ1 β1 i
  cases e;exact⟨B,D,G,M,.ex u δ1,_,ok,i,λb j l s a=>k b j l s.x a.fr⟩
 .cases e
theorem uL(c:u0 X.K C)(n:eA X.K C f)(O:f∉w)(J:VX w<1000)(Q:PS X st<|K8 X.K (l5 0) (tV X.K fv E) f)(R:PSs X aa<|tI X.K X.H₀ C (w++[f]) P ip E):PSs X (st::aa) (tI X.K X.H₀ C w (f::P) (ku fv ip) E):=(bY Q R).imp λDn T H U=>by
 obtain⟨B,D,M,S,x,G,g,p,r,q,ok,L,l,W,N,V,e,k⟩:=U;refine⟨ej B D,vw M,S,ok.fr,ok.view,?_⟩;unfold ku at e;split at e
 .rename_i d β1 t
  refine⟨.ok d,β1,t,λy m A Y=>?_⟩;obtain⟨b,i⟩:=ok.to rfl A;obtain⟨v,Z,s⟩:=b.tell 0 _ L;have hv:v= .r x:=s;subst hv;have F:=i.kp x _ W<|.inr l;refine⟨_,Z,x,C,G,_,rfl,F,c,n,?_,?_⟩
  .rw[Xc];lia
  obtain⟨I,s2⟩:=b.upd0 (o:= .ins C G<|dP f y<|w.zip g) l;have j:Tr (ej B D) m (ej B D) (upd m x<|.ins C G<|dP f y<|w.zip g):=⟨λ_ h _=>h,λa u ha e=>by
   rw[bb]
   .exact e
   .intro z;subst z;exact ha (by show B a≠OZ;rw[l];simp),rfl⟩
  refine⟨B,D,M,β1,x,G,g++[y],p++[d],r,q,I,L,l,by rw[aj,tK N O],by simp[N],br.append (br.tr j _ _<|br.tr i.tr _ _ V)<|br.cons (c4.tr j _ _ Y) br.f5,e,?_⟩;rw[Q8];exact k4.pre (i.x.trans s2) k
 .rename_i Ce β1 t
  cases e;refine⟨.error Ce,_,t,λm A=>?_⟩;obtain⟨b,i⟩:=ok.to rfl A;exact k T B m i.x b.fr
 .cases e
end
open Classical in
def ox(m:Nat)(a:IP):a0c->M a0c:=λw D=>if h:∃r,∀x,a (o4 m<|.adr x::w) [] D=on r then on h.choose else OZ
theorem wq(h:∀x,b (o4 m<|.adr x::c) [] d=on r):ox m b c d=on r:=by
 have a:∃r,∀x,b (o4 m<|.adr x::c) [] d=on r:=⟨r,h⟩;unfold ox;rw[dif_pos a];have:=a.choose_spec 0;rw[h 0]at this;exact this.symm
theorem EF(h:ox m b c d=on r):∀x,b (o4 m<|.adr x::c) [] d=on r:=by
 unfold ox at h;split at h
 .rename_i a
  have:=a.choose_spec;cases h;exact this
 .cases h
section
variable{P:P6}{w:Qb}{K:Pz}{mg:a0i}{aa:Qt}
theorem J8{st:QD}{N ps G:a0h}(n m:Nat)(ip:IP)(F:hW K x qual st f fd)(S:b5 N ps<|ae st)(O:VX ps=n+1)(R:VX N=m)
  (p:∀(i:Pb) (A:Qy) (D:a0D) (s:Pe) (H:Hp) (E:XK),ee k (A.deeper<|Ud qual (ae st) s.heap.objs.size f i)->
   PSs (dm (f0 P w) P w K mg aa N qual (ae st) f i A D s H E) (cF st) (tI K H C [] G ip (λ_=>E))):en P w K mg aa (f0 P w) (k+1) f fd ps (spI K C G n<|ox m ip):=by
 subst R;refine F.okE S (λvs H Q E h=>?_) λi A D s H vs Q E hr h=>?_
 .obtain⟨y,M,j,ds,β,dx,rfl,hl,_⟩:=h
  rw[Pt,hl,O]
 obtain⟨y,M,j,ds,β,dx,rfl,hl,fr,T,nb,hH,hd,r,d,e,h⟩:=h;refine⟨_,p i A D s H E hr,?_⟩;have U:br K j H (.adr y::ds) (.r y::M):=br.cons rfl hd;obtain⟨B,ok,L,h1,hn⟩:=vi (N:=N) fr U;have hy:B y=on 0:=by
  rcases L y T with z|z
  .exact z
  .obtain⟨b,l,q,w⟩:=h1 y z
   obtain⟨W,X⟩:=nb b l q;rcases w with w|w
   .exact PU w W
   .exact PU w X
 have v:∀{u:Ow} {g:Hp} {d:Bg},ot y B H u g->Fr (ej u j.bg) g d->ToX j y H g d/\Tr (ej u j.bg) g j g:=λ{u g d} s c=>by
  have hs:∀a,j.A a->u a≠OZ:=λa V=>by
   rw[s.tg a<|L a V];rcases L a V with z|z<;>rw[z]<;>simp
  refine⟨⟨λa o ne V n=>s.kp a o ne V ?_,λa V=>c.occ a<|hs a V,λb l e=>fr.bgA b l e,c.bag⟩,λa V _ z=>V<|hs a z,λ_ _ _ h=>h,rfl⟩;cases q:B a with
  |none=>exact .inl rfl
  |some t=>
   have:=L a (hn a<|by rw[q];simp);rcases this with z|z
   .rw[q]at z;exact .inr z
   .obtain⟨b,l,e,w⟩:=h1 a z
    obtain⟨W,X⟩:=n b l e;rcases w with w|w
    .exact PU w W
    .exact PU w X
 refine⟨B,j.bg,o4 (VX N)<|.adr y::ds,β,y,dx,[],[],r,d,ok,rfl,hy,hH,rfl,br.f5,EF e y,?_⟩;cases r with
 |ok es=>
  intro Y u g vs s c Z I J;obtain⟨t1,t2⟩:=v s c;exact h g vs t1 Z I<|br.tr t2 _ _ J
 |error Ce=>
  intro Y u g s c;exact h g (v s c).1
variable{X:Cx}{E:a0r}{d:QD}
variable{h:G}{b:Ds}{c a:Bg}{Q:a0z}{i:Nat}{f:FD}
end
section
variable{C b:O7}{m:Qa}{e:a0h}{k:a0c->M D}{t:a0c->M a0c}{n:FD}{g u:FL}{o l p ks:a0c}{s:List (Sr D)}{δ:Dn}{β β1 β2 q:Bg}{r:Except O7 D×Bg}{d:D}{f:Qa}{h:G}{Q:a0z}{i:Nat}{a:Ds}
theorem fN{d:Type}{k:a0c->M d}{r:Except O7 d×Bg}(a:n δ β=on (.ok<|.obj C e l,β1))(b:g δ β1=on (.ok p,β2))(c:k (.obj C e l::(p++o)) β2=on r)(f:m∉e:=by decide):i7 C m k n g o δ β=on r:=by
 unfold i7;rw[M.f5 a];simp only[f,not_false_eq_true,and_self,Qs];rw[M.f5 b];exact c
theorem IJ(a:n δ β=on (.error b,β1)):i7 C m k n g o δ β=on (.error b,β1):=by
 unfold i7;rw[M.j8 a]
theorem jY(a:x δ β=on (.ok<|.obj C e l,β1))(b:(e.zip l).lookup f=on d):f1 (z0 C f) x δ β=on (.ok d,β1):=by
 refine x_1 a ?_;unfold z0;simp only[Qs];exact b
theorem AU{fl:FL}(e:fl (vw a) β=on (.ok ds,β1))(k:Gw h (a.set i<|on<|.u ds) β1 Q):Gw (aw (oz i fl) h) a β Q:=c8 (by unfold oz;simp only[e]) k
theorem qG{g:G}{δ δ1:Ds}{r:Except O7 a0c×Bg}(e:g δ β=on (.nx δ1,β1))(a:δ[0]?=on (on<|.h<|.adr x))(b:δ1[0]?=on (on<|.h<|.adr x))(k:c δ1 done β1=on r):kr g c δ done β=on r:=by
 unfold kr;simp only[e,a,b,Qs];exact k
theorem J1{g:G}{δ δ1:Ds}(e:g δ β=on (.ex b δ1,β1)):kr g c δ done β=on (.error b,β1):=by
 unfold kr;simp only[e]
theorem iw{f:FD}{δ:Ds}{d:D}{r:Except O7 a0c×Bg}(e:f (vw δ) β=on (.ok d,β1))(k:c δ (done++[d]) β1=on r):ku f c δ done β=on r:=by
 unfold ku;rw[e];exact k
noncomputable def z_{a:Type}(d:a)(c:Nat)(ba:List<|List a):List (List a):=(Ph c).map λj=>ba.map λb=>b.getD j d
abbrev tp(c:Nat)(ba:LI):LI:=z_ 0 c ba
theorem rE{b:Type}{d:b}{r c:Nat}{e:List (List b)}(h:VX e=r):i4 c r (z_ d c e):=⟨by simp[z_],λf a=>by
 obtain⟨j,_,rfl⟩:=Pj.mp a;rw[OY,h]⟩
theorem KC{b:Type}{d:b}{e:List (List b)}(h:j<c):(z_ d c e)[j]?=on (e.map λa=>a.getD j d):=by
 unfold z_;rw[O9,QU h];rfl
theorem yZ{d:Int}:∀(a:a0e),(Ph<|VX a).map (λj=>a.getD j d)=a:=λa=>by
 refine ZP λi=>?_;rw[O9];by_cases h:i<VX a
 .rw[QU h]
  show on (a.getD i d)=_;rw[O5,O4 h];rfl
 .rw[Ri (by simpa using h),Ri<|by lia];rfl
theorem rG{a:Type}(f g:a->Int):∀l:List a,(l.map λx=>f x+g x).sum=(l.map f).sum+(l.map g).sum
 |[]=>by simp
 |x::l=>by
  simp only[Pi,PL,rG f g l];lia
theorem o5{a:Type}:∀l:List a,(l.map λ_=>(0:Int)).sum=0
 |[]=>rfl
 |x::l=>by simp only[Pi,PL,o5 l];rfl
theorem BF:∀{ba:LI},(∀row∈ba,VX row=c)->tot (tp c ba)=tot ba
 |[],_=>by
  show((z_ 0 c []).map Q6).sum=0;unfold z_;rw[Pp];exact o5<|Ph c
 |row::ba,h=>by
  have d:=BF (c:=c) (ba:=ba) λx b=>h x<|O1 _ b;have a:=h row Pa;unfold tot tp z_ at d⊢;rw[Pp]at d⊢;have e:(λj=>(Q6<|(row::ba).map λrow=>row.getD j 0))=λj=>row.getD j 0+(ba.map λrow=>row.getD j 0).sum:=by
   funext j;rw[Pi,PL]
  show((Ph c).map λj=>(Q6<|(row::ba).map λrow=>row.getD j 0)).sum=_;rw[e,rG,<-a,yZ,a,Pi,PL];congr 1
theorem Hz(h:∀d∈ba,∀x∈d,0<=x):∀d∈tp c ba,∀x∈d,0<=x:=λd a x b=>by
 obtain⟨j,_,rfl⟩:=Pj.mp a;obtain⟨q,k,rfl⟩:=Pj.mp b;rw[O5];cases e:q[j]? with
 |none=>exact Y5 0
 |some y=>exact h q k y<|PD e
end
end L2.Pu
namespace L2.Pu
section
variable{X:Cx}
variable{a:P6}{w:Qb}{A:Qy}{E:a0d}{s:Pe}{l:O7}{b:Array (Int×Tok)}
variable{K:Pz}
end
end L2.Pu
namespace L2
end L2
namespace L2.Pu
section
variable{X:Cx}{E:a0r}{K:Pz}{f m b:Expr}{e:List Expr}{rest:a0O}{a:Scope}{c:Uq}{n l:a0h}{k:a0a}{g:TG}{j:a0X}
variable{z:QD}{a:Hp}{B:Ow}{s:a0s}{H b:Hp}{g:Ds}{β x:Bg}{P:St}
theorem EM{K:Pz}{H a:Hp}(b:eS d=O6)(h:c4 K F H d v):c4 K F2 a d v:=by
 cases d<;>first|exact h|cases b
def kS(i:Nat)(a b:FD):G:=λg β=>match b (hE g) β with
 |some (.ok d,β1)=>match a (hE g) β1 with
  |some (.ok (.n ka),β2)=>match g.getD i OZ with
   |some (.u ds)=>match p5 (VX ds) ka with
    |some c=>if eS d=O6 then on (.nx<|g.set i<|on<|.u<|ds.set c d,β2)else OZ
    |none=>OZ
   |_=>OZ
  |_=>OZ
 |_=>OZ
theorem xC(h:PS X z<|gl (tV X.K Z E)<|zU (l5 i) (tV X.K fa E) y0):PS X z (tG X.K X.H₀ (kS i fa Z) E):=h.imp λD P H t=>by
 obtain⟨B,s,g,β,o,x,ok,e,q⟩:=t;refine⟨na B s,hE g,β,ok.j6,ok.f5,?_⟩;unfold kS at e;split at e
 .rename_i d β1 u
  refine⟨.ok d,_,u,λv U A G=>?_⟩;obtain⟨b,C⟩:=ok.to rfl A;split at e
  .rename_i ka β2 I
   split at e
   .rename_i ds p
    split at e
    .rename_i ja J
     split at e
     case isFalse=>cases e
     rename_i L;cases e;obtain⟨w,l,a,xs,rfl,hB,M,S⟩:=b.tell i _<|getD_some p;refine⟨_,l,na B s,hE g,β1,b.j6,b.f5,.ok<|.n ka,_,I,λy W N O=>?_⟩;cases O;obtain⟨c,Q⟩:=b.to (F:=na B s) rfl N;obtain⟨Y,r,V,f,R,m,j,k⟩:=c.tell i _<|getD_some p;rw[l]at r;cases r;cases R;refine⟨a,f,ka,ja,rfl,rfl,j,by rw[<-k.length];exact J,?_⟩;obtain⟨n,T⟩:=c.writeOwn (ds:=ds.set ja d) (xs:=f.set ja v) l m j<|br.set ja k<|EM L G;exact q _ _ _ (C.trans<|Q.trans T) n
    .cases e
   .cases e
  .cases e
 .cases e
theorem xh{g:Ds}{β β1 β2:Bg}{cs:a0c}(a:o (hE g) β=on (.ok d,β1))(b:fa (hE g) β1=on (.ok<|.n ka,β2))(c:g.getD i OZ=on (.u cs))(e:p5 (VX cs) ka=on ja)(k:Gw h (g.set i<|on<|.u<|cs.set ja d) β2 Q)(f:eS d=O6:=by rfl):Gw (aw (kS i fa o) h) g β Q:=
 c8 (by unfold kS;simp only[a,b,c,e,f,Qs]) k
theorem lU1{us:a0g}(h:VX us=1):∃a,us=[a]:=List.length_eq_one_iff.mp h
theorem lU2{us:a0g}(h:VX us=2):∃c e,us=[c,e]:=by
 obtain⟨a,l,rfl⟩:=R0 h;obtain⟨b,rfl⟩:=lU1 (us:=l) (by simpa using h);exact⟨_,_,rfl⟩
theorem lU3{us:a0g}(h:VX us=3):∃e f g,us=[e,f,g]:=by
 obtain⟨a,l,rfl⟩:=R0 h;obtain⟨b,c,rfl⟩:=lU2 (us:=l) (by simpa using h);exact⟨_,_,_,rfl⟩
theorem lU4{us:a0g}(h:VX us=4):∃e f g j,us=[e,f,g,j]:=by
 obtain⟨a,l,rfl⟩:=R0 h;obtain⟨b,c,d,rfl⟩:=lU3 (us:=l) (by simpa using h);exact⟨_,_,_,_,rfl⟩
theorem lU5{us:a0g}(h:VX us=5):∃f g j k m,us=[f,g,j,k,m]:=by
 obtain⟨a,l,rfl⟩:=R0 h;obtain⟨b,c,d,e,rfl⟩:=lU4 (us:=l) (by simpa using h);exact⟨_,_,_,_,_,rfl⟩
end
section
variable{X:Cx}{E:a0r}{e q o z B i:Expr}{u:List Expr}{t p:Uq}{f1 f2 I J d:FD}{g:FL}{k j n:Nat}{f:O7}{y:PP}{v:a0h}{x:Qa}{a:a0c->a0m}{r:a0G}{c T:String}
theorem vv(i:Nat){x:Qa}(b:X.N[i]?=on x:=by rfl)(c:Vis X.e.scope x:=by first|exact RZ rfl|exact TL (RZ rfl)|exact TL (TL rfl))(d:b0c x:=by decide)
  (a:(x==("__classdict__":Qa))=O8:=by decide):PE X (.Name x t) (tV X.K (ad i) E):=Nm i<|pv i b c d a
theorem d4(a:PE X q<|tV X.K f1 E)(b:b0a X q []:=by rfl):PA X [q] (i_ X.K (aa f1 am) E):=cw a jp b
theorem d_(a:PE X q<|tV X.K f1 E)(b:PE X o<|tV X.K f2 E)(c:b0a X q [o]:=by rfl)(d:b0a X o []:=by rfl):PA X [q,o] (i_ X.K (aa f1<|aa f2 am) E):=cw a (d4 b d) c
theorem ry(a:PE X q<|tV X.K f1 E)(b:PE X o<|tV X.K f2 E)(c:PE X z<|tV X.K I E)(d:b0a X q [o,z]:=by rfl)(h:b0a X o [z]:=by rfl)(i:b0a X z []:=by rfl):PA X [q,o,z] (i_ X.K (aa f1<|aa f2<|aa I am) E):=cw a (d_ b c h i) d
theorem x_(a:PE X q<|tV X.K f1 E)(b:PE X o<|tV X.K f2 E)(c:PE X z<|tV X.K I E)(d:PE X B<|tV X.K J E)(h:b0a X q [o,z,B]:=by rfl)(i:b0a X o [z,B]:=by rfl)(l:b0a X z [B]:=by rfl)(m:b0a X B []:=by rfl):PA X [q,o,z,B] (i_ X.K (aa f1<|aa f2<|aa I<|aa J am) E):=cw a (ry b c d i l m) h
theorem I0(c:Dn)(d:Bg)(r:a0c)(a:Bg)(h:am c d=on (.ok r,a)):VX r=0:=Hd h
structure FB (P:P6) (w:Qb) (K:Pz) (mg:a0i) (base:Qt) (k:Nat) (x:Qa) (f:O7) (y:PP) (v:a0h) (n:Nat) (m:a0c->M D):Prop where
 ok:en P w K mg base (f0 P w) k f y v (KX K n m)
 m:mg x=on (.ref f)
 kp:Vo K (.ref f)=O6
 b:cq K y v []
theorem vc(G:FB X.p X.w X.K X.mg X.base j x f y v n m)(h:ee k X.A)(z:PA X (e::u)<|i_ X.K g E)(i:j<=k:=by decide)(l:bU (f0 X.p X.w) X E:=by first|exact fZ|exact nY|assumption)(o:Gl X x:=by rfl)
  (B:∀D I r d,g D I=on (.ok r,d)->VX r=n:=by repeat (first|exact I0|apply bn)) (a:b0c x:=by decide) (q:b0a X e u:=by rfl) (c:b0b X t u:=by rfl):
  PE X (.Call (.Name x p) (e::u) [] t) (tV X.K (aO m g) E):=AX G.ok (h.mono i) o G.m G.kp G.b l z B a q c
theorem cJ(d:X.mg "len"=OZ)(f:PA X (e::u)<|i_ X.K g E)(b:Gl X "len":=by rfl)(c:b0a X e u:=by rfl)(a:b0b X t u:=by rfl):PE X (.Call (.Name "len" p) (e::u) [] t) (tV X.K (aB fj g) E):=cL m6 Od b d PySem.boot_len f (by decide) (by decide) c a
theorem gT(d:X.mg "sum"=OZ)(f:PA X (e::u)<|i_ X.K g E)(b:Gl X "sum":=by rfl)(hc:X.calm=O6:=by rfl)(c:b0a X e u:=by rfl)(a:b0b X t u:=by rfl):PE X (.Call (.Name "sum" p) (e::u) [] t) (tV X.K (aB gm g) E):=cL (E9 hc) Me b d Boot.«sum» f (by decide) (by decide) c a
theorem l4(d:X.mg "isinstance"=OZ)(f:PA X (e::u)<|i_ X.K g E)(b:Gl X "isinstance":=by rfl)(c:b0a X e u:=by rfl)(a:b0b X t u:=by rfl):PE X (.Call (.Name "isinstance" p) (e::u) [] t) (tV X.K (aB jP g) E):=cL Fb Oe b d Boot.«isinstance» f (by decide) (by decide) c a
theorem js{c:Scope}(a e:a0h)(d:a0a)(k:c.kind= .function:=by rfl)(f:(c.names.map (·.1)).Nodup:=by decide +kernel)
  (fr:(c.names.all λy=>y.2 != .free||(X.e.scope.names.lookup y.1==on .cell||X.e.scope.names.lookup y.1==on .free))=O6:=by rfl) (g:a=e++d.map (λj=>X.N.getD j Ta):=by rfl)
  (b:(d.all λj=>decide (j<VX X.N)&&c.names.lookup (X.N.getD j Ta)==on .free)=O6:=by rfl):di X c a e d:=di.ofB k f fr g b
theorem gs{a:a0h}(h:a.Nodup:=by decide +kernel):(aI X a b cl C l s H).N.Nodup:=h
theorem eg(i:Nat){x:Qa}(a:X.N.Nodup)(b:X.N[i]?=on x:=by rfl)(c:F3 X.e.scope x:=by first|exact RZ rfl|exact TL rfl)(d:b0d X x:=by first|exact .inl rfl|exact .inr rfl|assumption):PG X (.Name x t) (d7 i):=xP a b c d
theorem fw(i:Nat){x:Qa}{e:Expr}{t a:Uq}(b:X.N.Nodup)(c:PE X e m)(d:X.N[i]?=on x:=by rfl)(h:F3 X.e.scope x:=by first|exact RZ rfl|exact TL rfl)(f:TU e (on (.Name x a)) t.line X.e=Rz O8:=by rfl)(l:b0d X x:=by first|exact .inl rfl|exact .inr rfl|assumption):PS X (.Assign [.Name x a] e t) (gl m (d7 i)):=qo b d h c f l
theorem vu{Q:a0g->Prop}(h:∀a,Q [a])(us:a0g)(b:VX us=1):Q us:=by obtain⟨_,rfl⟩:=lU1 b;exact h _
theorem tx{Q:a0g->Prop}(h:∀a b,Q [a,b])(us:a0g)(c:VX us=2):Q us:=by obtain⟨_,_,rfl⟩:=lU2 c;exact h _ _
theorem s_{Q:a0g->Prop}(h:∀a b c,Q [a,b,c])(us:a0g)(d:VX us=3):Q us:=by obtain⟨_,_,_,rfl⟩:=lU3 d;exact h _ _ _
theorem bA4{Q:a0g->Prop}(h:∀a b c d,Q [a,b,c,d])(us:a0g)(i:VX us=4):Q us:=by obtain⟨_,_,_,_,rfl⟩:=lU4 i;exact h _ _ _ _
theorem fy{N Q:a0h}{c:Scope}(a:c.kind= .function:=by rfl)(b:c.isCoroutine=O8:=by rfl)(g:c.isGenerator=O8:=by rfl)(d:N.Nodup:=by decide +kernel)(e:N.take (VX Q)=Q:=by rfl)(f:∀x∈Q,c.names.lookup x=on .local\/c.names.lookup x=on .cell:=by decide +kernel)(h:∀y∈c.names,y.2≠ .free:=by decide +kernel):b5 N Q c:=⟨a,b,g,d,e,f,h⟩
structure g_ (K:Pz) (mg:a0i) (x:Qa) (st:QD) (f:O7) (y:PP) (v:a0h):Prop where
 F:hW K x x st f y
 m:mg x=on (.ref f)
 b:cq K y v []
theorem hY{P:P6}{w:Qb}{K:Pz}{mg:a0i}{base:Qt}{x:Qa}{e:QD}{f:O7}{y:PP}{N v:a0h}{k n:Nat}{g:G}(m:Nat)(F:g_ K mg x e f y v)(S:b5 N v<|ae e)(a:∀(c:Pb) (A:Qy) (d:a0D) (s:Pe) (H:Hp) (E:XK),ee k (A.deeper<|Ud x (ae e) s.heap.objs.size f c)->PSs (dm (f0 P w) P w K mg base N x (ae e) f c A d s H E) (cF e) (tG K H g (λ_=>E)))(i:VX v=n:=by rfl)(j:VX N=m:=by rfl):FB P w K mg base (k+1) x f y v n (d8 m g):=⟨jQ n m g F.F S i j a,F.m,F.F.kp,F.b⟩
def Al:List Prop->Prop
 |[]=>True
 |p::l=>p/\Al l
theorem az{p:Prop}(h:p)(t:Al l):Al (p::l):=⟨h,t⟩
theorem MW:∀{l:List Prop},Al l->∀i,l.getD i True
 |[],_,_=>trivial
 |_::_,h,0=>h.1
 |_::_,h,i+1=>MW h.2 i
end
end L2.Pu
namespace L2
section
variable{a:P6}{w:Qb}{A:Qy}{E:a0d}{s:Pe}{K:Pz}
variable{X:Cx}
end
namespace Pu
section
variable{X:Cx}{E:a0r}
end
end Pu
end L2
namespace L2.Pu
section
variable{X:Cx}{E:a0r}{a b:Expr}{l:Uq}{k:Nat}{f C:O7}{m:PP}{ps:a0h}{K:Pz}
structure IsC (K:Pz) (C:O7):Prop where
 cl:u0 K C
 ha:RN K (.ref C) "__class__"=on (on<|.builtin "object.__class__")
 hn:specialIn K (.builtin "object.__class__") "__get__"=on (on<|.builtin "getset_descriptor.__get__")
 htk:ZA K (.builtin "object.__class__")=on O6
 hm:mroIn K C (.type "object")=on O6
theorem Hy{r c:Nat}{a:LI}(b:i4 r c a):tp r (tp c a)=a:=by
 obtain⟨e,g⟩:=b;refine RB (by simp[z_,e]) λi n d=>?_;have h:a[i].length=c:=g _<|Qd d;refine RB (by simp[z_,h]) λj o l=>?_;have m:j<c:=by lia
 simp[z_,O5,m,d,l]
variable{k f e b:Uq}
noncomputable def S(n:Nat)(f:a0L):Int:=((Ph n).map f).sum
theorem M4(f:a0L):S 0 f=0:=rfl
theorem gH(n:Nat)(f:a0L):S (n+1) f=S n f+f n:=by
 unfold S;rw[S5,Qc,Xf];simp
theorem dU{f g:a0L}(h:∀i<n,f i=g i):S n f=S n g:=by
 unfold S;rw[P4 λi c=>h i<|PN.mp c]
theorem uU(n:Nat)(f g:a0L):S n (λi=>f i+g i)=S n f+S n g:=rG f g _
theorem nq(n:Nat):S n (λ_=>0)=0:=o5 _
theorem OX(n:Nat)(f:a0L):S n (λi=>-f i)=-S n f:=by
 induction n with
 |zero=>rfl
 |succ n a=>rw[gH,gH,a];lia
theorem Fm(n m:Nat)(h:Nat->Nat->Int):S n (λi=>S m (λj=>h i j))=S m (λj=>S n (λi=>h i j)):=by
 induction n with
 |zero=>rw[M4];exact(nq m).symm
 |succ n a=>
  rw[gH,a,<-uU];exact dU λj _=>(gH n _).symm
theorem o6{g:a0L}:∀{l L:a0a},l.Sublist L->L.Nodup->(l.map g).sum=(L.map λx=>if x∈l then g x else 0).sum
 |_,_,.slnil,_=>rfl
 |l,_,.cons a (l₂:=L) h,nd=>by
  have c:=(Qi.mp nd);have b:a∉l:=λz=>c.1<|h.subset z;rw[Pi,PL,Pd b,o6 h c.2,T9]
 |_,_,.cons₂ a (l₁:=l) (l₂:=L) h,nd=>by
  have c:=(Qi.mp nd);rw[Pi,Pi,PL,PL,Pc Pa,o6 h c.2];congr 2;refine P4 λx e=>?_;have d:x≠a:=λz=>c.1<|z▸e;by_cases q:x∈l
  .rw[Pc q,Pc<|O1 _ q]
  .rw[Pd q,Pd λz=>(Pr.mp z).elim d q]
theorem nK{l:a0a}(h:l.Sublist<|Ph n):(l.map g).sum=S n λx=>if x∈l then g x else 0:=o6 h Vr
theorem yf{p:Nat->Bool}{g:a0L}:∀l:a0a,((l.filter p).map g).sum=(l.map λx=>if p x=O6 then g x else 0).sum
 |[]=>rfl
 |x::l=>by
  rw[SK,Pi,PL,<-yf l];by_cases q:p x=O6
  .rw[Pc q,Pc q,Pi,PL]
  .rw[Pd q,Pd q,T9]
noncomputable abbrev nI(l:a0a):a0e:=l.map λ(i:Nat)=>(i:Int)
noncomputable abbrev nL(l:a0a):D:= .l<|(nI l).map D.n
theorem yb:∀a:a0e,inB (.n i) (a.map D.n)=decide (i∈a)
 |[]=>rfl
 |x::a=>by
  have b:=yb (i:=i) a;unfold inB at b⊢;rw[Pi,Vc,b];show(decide (x=i)||_)=_;rw[VD];simp only[W7,P9,Pr];constructor
  .rintro(h|h)
   .exact .inl h.symm
   .exact .inr h
  .rintro(h|h)
   .exact .inl h.symm
   .exact .inr h
theorem tZ:∀a:a0e,(a.map D.n).all eS=O6
 |[]=>rfl
 |_::a=>tZ a
theorem Mx{b:a0e}{a:Bool}:inD a (.n i) (.l<|b.map D.n)=on (.c (if a then !decide (i∈b)else decide (i∈b))):=by
 show(if(eS (.n i)&&(b.map D.n).all eS)=O6 then _ else _)=_;rw[tZ,Bool.and_true,Pc (show eS (.n i)=O6 from rfl),yb]
theorem L7{i:Nat}{l:a0a}:((i:Int)∈nI l)↔i∈l:=by
 constructor
 .intro h
  obtain⟨j,c,e⟩:=Pj.mp h;exact(Int.ofNat.inj e)▸c
 .intro h
  exact Pj.mpr ⟨i,h,rfl⟩
theorem wr{i:Nat}{l:a0a}{a:Bool}:inD a (.n (i:Int)) (nL l)=on (.c (if a then !decide (i∈l)else decide (i∈l))):=by
 rw[Mx];simp only[L7]
theorem lQ{k:Type}{f:FD}(b:List k)(u v:k->D)(p:k->Bool)(g:it δ β=on (.ok<|b.map u,β))
  (i:∀x∈b,∃a,tg (u x) (ll nv cy δ)=on a/\tt a β=on (.ok<|p x,β)/\(p x=O6->f a β=on (.ok<|v x,β))) (j:VX b<=Ps):cS nv cy it tg tt (lg f) δ β=on (.ok<|.l<|(b.filter p).map v,β):=by
 refine sB g ?_ (by rw[OY];exact Pk (List.length_filter_le _ _) j);have w:∀b:List k,(∀x∈b,∃a,tg (u x) (ll nv cy δ)=on a/\tt a β=on (.ok<|p x,β)/\(p x=O6->f a β=on (.ok<|v x,β)))->nC tg tt (lg f) (b.map u) (ll nv cy δ) β=on (.ok<|(b.filter p).map v,β):=by
  intro b
  induction b with
  |nil=>intro _;rfl
  |cons x b C=>
   intro h;obtain⟨a,d,c,l⟩:=h x Pa;have e:=C λy m=>h y<|O1 _ m;rw[Pi,nC,SK];cases q:p x with
   |true=>
    rw[q]at c;simp only[d,M.v,M.j7,c,lg,l q,e,Pc,Pi,Tt,R5]
   |false=>
    rw[q]at c;simp only[d,M.v,M.j7,c,e,PF,QA,R5]
 exact w b i
theorem oV:∀(n:Nat) (a:a0c),db n a=(Ph<|VX a).map λ(i:Nat)=>D.t [.n ((n+i:Nat):Int),a.getD i .o]
 |n,[]=>rfl
 |n,x::a=>by
  rw[db,oV (n+1) a,Pt,Yn,Pi,Pp];congr 1;refine P4 λi _=>?_;simp only[UK];rw[show n+1+i=n+(i+1) by lia];rfl
noncomputable abbrev bI(b:LP)(i j:Nat):Int×Int:=(b.getD i []).getD j (0,0)
theorem i4.getD{α:Type}{m:List (List α)}(h:i4 r c m)(d:i<r):m[i]?=on (m.getD i [])/\VX (m.getD i [])=c:=by
 obtain⟨a,e,l⟩:=h.at d;have:m.getD i []=a:=by rw[O5,e];rfl
 rw[this];exact⟨e,l⟩
theorem oG{a:Type}{l:List a}{i:Nat}{d:a}(h:i<VX l):l[i]?=on (l.getD i d):=by
 rw[O5,O4 h];rfl
theorem Ij{a:a0e}(h:i<VX a):g8 (.l<|a.map D.n) (.n (i:Int))=on (.n<|a.getD i 0):=dS (by rw[O9,oG h];rfl)
theorem qD{b:LP}(a:i4 r c b)(g:i<r)(h:j<c):g8 (bO b) (.n (i:Int))=on (.l<|(b.getD i []).map pD)/\g8 (.l<|(b.getD i []).map pD) (.n (j:Int))=on (pD<|bI b i j):=by
 obtain⟨e,l⟩:=a.getD g;refine⟨oq (by rw[O9,e];rfl),dS ?_⟩;rw[O9,oG (d:=(0,0))<|by lia];rfl
noncomputable def qu(a:a0e)(c:a0a):Int:=(c.map λi=>a.getD i 0).sum
def fJ(a:a0e)(b:LP)(r:Nat)(c:a0a)(j:Nat):Int:=a.getD j 0-S r λi=>if i∈c then 0 else(bI b i j).1
def gi(b:LP)(c:a0a)(j:Nat):Int:=(c.map λi=>(bI b i j).2).sum
def uz(a:a0e)(b:LP)(r c:Nat)(d e:a0a):Int:=S c λj=>if j∈e then fJ a b r d j else gi b d j
def hF(b:LP)(c d:a0a)(i j:Nat):Int:=(if i∈c/\j∉d then(bI b i j).2 else 0)-(if i∉c/\j∈d then(bI b i j).1 else 0)
theorem Jn{b:LP}{d e:a0a}(h:d.Sublist<|Ph r)(g:e.Sublist<|Ph c):
  uz cs b r c d e=qu cs e+S r λi=>S c λj=>hF b d e i j:=by
 unfold uz qu;rw[nK g,Fm,<-uU];refine dU λj l=>?_;by_cases q:j∈e
 .rw[Pc q,Pc q]
  unfold fJ;rw[Int.sub_eq_add_neg,<-OX];congr 1;refine dU λi g=>?_;unfold hF;by_cases z:i∈d
  .simp[z,q]
  .simp[z,q]
 .rw[Pd q,Pd q,T9]
  unfold gi;rw[nK h];refine dU λi g=>?_;unfold hF;by_cases z:i∈d
  .simp[z,q]
  .simp[z,q]
end
end L2.Pu
namespace L2.Pu
section
variable{X:Cx}{K:Pz}
variable{E:a0r}{o e:Expr}{b a:Uq}
theorem xg(c:Nat->Ds->Bg->Prop)
  (K:∀n w D,c n w D->(∃β1,t (hE w) D=on (.ok O8,β1)/\Gw h w β1 Q)\/∃β1,t (hE w) D=on (.ok O6,β1)/\Gw g w β1 (λo G=>∃E,o= .nx E/\∃m,m<n/\c m E G)):
  ∀(n:Nat) (w:Ds) (D:Bg),c n w D->Gw (aw (gWh t g) h) w D Q:=by
 have M:∀(n:Nat) (w:Ds) (D:Bg),c n w D->∃k a b,bZ t g k w D=on (.nx a,b)/\Gw h a b Q:=by
  intro n
  induction n using Xl with
  |_ n ih=>
   intro w D hI;rcases K n w D hI with⟨β1,e,k⟩|⟨β1,e,k⟩
   .exact⟨1,w,β1,by unfold bZ;simp only[e],k⟩
   .obtain⟨o,G,f,E,rfl,m,hm,d⟩:=k
    obtain⟨k,a,b,i,j⟩:=ih m hm E G d;exact⟨k+1,a,b,by unfold bZ;simp only[e,f,i],j⟩
 intro n w D hI;obtain⟨k,a,b,e,l⟩:=M n w D hI;exact c8 (MH e) l
end
end L2.Pu
namespace L2.Pu
noncomputable def MI:G:=λ_ _=>OZ
theorem dL{w:QD}{K:Pz}{E:a0r}:PS X w (tG K H MI E):=λ_ _ _ _ _ _ h=>by
 obtain⟨_,_,_,_,_,_,_,e,_⟩:=h;cases e
section
variable{j:P6}{w:Qb}{A:Qy}{E:a0d}{s:Pe}{l:O7}{n:Array (Int×Tok)}
theorem FM(f:A.handled=OZ)(c:s.heap.IsTuple l<|YG n)
  (h:∀D d G,(∀b o,s.heap.get? b=on o->D.get? b=on o)->Q (.int (preSum (numAt n) n.size) G) {s with heap:=D,toks:=d}):
  Pq (PM j w) A (VI (.builtin "sum") [.ref l]) Q E s:=by
 have a:l<s.heap.objs.size:=by obtain⟨_,e,_⟩:=c;exact PQ e
 refine call_sum_walkG<|W5 c ⟨_,_,_,_,_,_,numAt n,rfl,Walks.tuple (A:=A.in1) f _ l (Qm a)<|YG n,⟨⟨_,Px _ rfl,rfl,rfl⟩,c.at λo e=>O3 _ e⟩,λb hb=>?_,(λ_ _=>intItems_at),λD d G g=>?_⟩
 .show b<(s.heap.push _).objs.size
  rw[QZ];rcases Pr.mp hb with rfl|hb
  .exact Vv _
  .rcases Pr.mp hb with rfl|hb
   .exact Vd a
   .cases hb
 .have:=h D d G λb o e=>g b o (λhm=>by
   rcases Pr.mp hm with i|hm
   .exact PU (i▸PQ e) (Qw _)
   .cases hm)<|O3 _ e
  simpa[YG]using this
variable{X:Cx}{K:Pz}
abbrev HI(K:Pz):a0j->Hp->VK->Prop:=λn H Q=>∃(p:O7) (j:a0e),n=[.r p]/\(eX K H p (j.map V.n)\/iv K H p (j.map V.n))/\Q (.n j.sum) H
theorem E8(hc:X.calm=O6):dg X (.builtin "sum") (HI X.K):=by
 intro a s d H n E Q I r h;obtain⟨p,l,rfl,hq|hq,q⟩:=h
 .exact ug hc a s d H _ E Q I r ⟨p,l,rfl,hq,q⟩
 .obtain⟨u,rfl,f⟩:=k8 r
  cases f;obtain⟨w,g,A,k⟩:=I.tuple hq;have b:=qK g;obtain⟨n,D⟩:=b.allInts.items;have c:=b.numsOf;have i:w=(YG n).toList:=by rw[<-D]
  rw[i,nums_intItems]at c;rw[D]at A;refine FM (I.ok.hd hc) A λG m M j=>?_;have e:preSum (numAt n) n.size=l.sum:=by rw[preSum_eq,R9 (by simp),c]
  rw[e];exact⟨.n l.sum,H,I.kept j,⟨_,rfl⟩,q⟩
def pY:a0c->a0m
 |[.l n]=>(cu n).map λj=> .n j.sum
 |[.t n]=>(cu n).map λj=> .n j.sum
 |_=>OZ
theorem Md:ef K (HI K) pY:=λF H w Q A d D fr h e k=>by
 unfold pY at e;split at e
 .rename_i n
  obtain⟨j,q,rfl⟩:=Rm.mp e;obtain⟨v,rfl,g⟩:=br.j6 h;obtain⟨a,s,rfl,r,l⟩:=c4.j6 g;rw[h8 q]at l;have b:=br.j8 j l;subst b;exact⟨a,j,rfl,.inl r,k _ H (To.refl fr) rfl⟩
 .rename_i n
  obtain⟨j,q,rfl⟩:=Rm.mp e;obtain⟨v,rfl,g⟩:=br.j6 h;obtain⟨a,s,rfl,r,l⟩:=c4.f5 g;rw[h8 q]at l;have b:=br.j8 j l;subst b;exact⟨a,j,rfl,.inr r,k _ H (To.refl fr) rfl⟩
 .cases e
theorem KQ(j:a0e):pY [.l<|j.map D.n]=on (.n j.sum):=fA j
theorem KP(j:a0e):pY [.t<|j.map D.n]=on (.n j.sum):=fA j
end
end L2.Pu
namespace L2.Hs
open PySem.SetTable
def Rs(w:a0y):Prop:=∀i k x y:Nat,i<k->w[i]?=on x->w[k]?=on y->x<y
theorem pO{E:a0y}(r:Rs E):∀(fuel D c:Nat),D<=c->c<=E.size->c-D<=fuel->(∀i x,i<D->E[i]?=on x->x<j)->(∀i x,c<=i->E[i]?=on x->j<=x)->
  below.go E j fuel D c<=E.size/\(∀i x,i<below.go E j fuel D c->E[i]?=on x->x<j)/\∀i x,below.go E j fuel D c<=i->E[i]?=on x->j<=x
 |0,D,c,h1,h2,h3,a,b=>by
  have:D=c:=by lia
  subst this;exact⟨h2,a,b⟩
 |fuel+1,D,c,h1,h2,h3,a,b=>by
  unfold below.go;by_cases q:D<c
  .rw[Pc q]
   simp only;have G:(D+c)/2<E.size:=by lia
   have e:E[(D+c)/2]?=on (E.getD ((D+c)/2) j):=by simp[Sz,G]
   by_cases z:E.getD ((D+c)/2) j<j
   .rw[Pc z]
    refine pO r fuel _ _ (by lia) h2 (by lia) (λi x f d=>?_) b;by_cases w:i=(D+c)/2
    .subst w
     rw[e]at d;cases d;exact z
    .exact UF (r i ((D+c)/2) x _ (by lia) d e) z
   .rw[Pd z]
    refine pO r fuel _ _ (by lia) (by lia) (by lia) a (λi x f d=>?_);by_cases w:i=(D+c)/2
    .subst w
     rw[e]at d;cases d;lia
    .have:=r ((D+c)/2) i _ x (by lia) e d
     lia
  .rw[Pd q]
   have:D=c:=by lia
   subst this;exact⟨h2,a,b⟩
theorem jV{w:a0y}(r:Rs w):below w j<=w.size/\(∀i x,i<below w j->w[i]?=on x->x<j)/\∀i x,below w j<=i->w[i]?=on x->j<=x:=
 pO r w.size 0 w.size (Qk _) (Pg _) (by lia) (λi x h=>PU h<|R6 i) (λi x h e=>by
  have:=(Qo.mp e).1;lia)
theorem Hc(r:Rs f)(h:f[i]?=on j):below f j=i:=by
 obtain⟨c,a,b⟩:=jV (j:=j) r;rcases Tg (below f j) i with q|q|q
 .have d:=(Qo.mp h).1
  have e:f[below f j]?=on f[below f j]:=getElem?_pos f _ (by lia);have:=b _ _ (Pg _) e;have:=r _ _ _ _ q e h;lia
 .exact q
 .have:=a _ _ q h
  lia
theorem sY{t:Qx}(r:Rs t.place)(h:t.place[i]?=on j):t.slot j= .live i:=by
 unfold slot;simp only[Hc r h,h,Vl,Qs]
theorem yR{t:Qx}(d:t.dummies=#[])(h:∀i:Nat,t.place[i]?≠on j):t.slot j= .empty:=by
 unfold slot;have a:(t.place[below t.place j]?==on j)=O8:=by
  rw[Yb];exact h _
 have b:has t.dummies j=O8:=by unfold has;rw[d];rfl
 simp only[a,b,PF,QA]
noncomputable def e_(t:Qx):Nat->Probe->Probe
 |0,p=>p
 |n+1,p=>e_ t n<|t.advance p
theorem pA(t:Qx):∀(n:Nat) (p:Probe),e_ t (n+1) p=t.advance (e_ t n p)
 |0,p=>rfl
 |n+1,p=>by
  show e_ t (n+1) (t.advance p)=t.advance (e_ t n<|t.advance p);exact pA t n<|t.advance p
theorem ou(t:Qx):∀(n m:Nat) (p:Probe),e_ t (n+m) p=e_ t m (e_ t n p)
 |0,m,p=>by rw[Qu];rfl
 |n+1,m,p=>by
  rw[show n+1+m=(n+m)+1 by lia];exact ou t n m<|t.advance p
structure Pv (t:Qx) (p:Probe):Prop where
 j:p.j+p.more<=t.mask
 more:p.more<=9
 i:p.i<=t.mask
 pt:p.perturb<2^64
 du:p.dummy=OZ
theorem tF{w i:Nat}(h:i<=w):i<=runEnd w i/\runEnd w i<=w/\runEnd w i-i<=9:=by
 unfold runEnd;by_cases q:i+9<=w
 .rw[Pc q];lia
 .rw[Pd q];lia
noncomputable def s9(t:Qx)(i w:Nat):Probe:={j:=i,more:=runEnd t.mask i-i,i,perturb:=w,dummy:=OZ}
theorem rf{t:Qx}(h:i<=t.mask)(a:pt<2^64):Pv t (s9 t i pt):=by
 obtain⟨c,d,b⟩:=tF h;refine⟨?_,b,h,a,rfl⟩;show i+(runEnd t.mask i-i)<=t.mask;lia
theorem sV(t:Qx)(h:Int):t.probeStart h=s9 t (bits h % (t.mask+1)) (bits h):=rfl
theorem oF(h:Int):bits h<2^64:=by
 unfold bits;have:=UP h (show(0:Int)<2^64 by decide);have:=Uv h (show(2^64:Int)≠0 by decide);lia
theorem o7(t:Qx)(h:Int):Pv t (t.probeStart h):=by
 rw[sV];exact rf (by have:=VG (bits h) (show t.mask+1>0 by lia);lia)<|oF h
noncomputable abbrev R_(w i D:Nat):Nat:=(i*5+1+D/32) % (w+1)
theorem Fk{t:Qx}{p:Probe}(h:0<p.more):t.advance p={p with j:=p.j+1,more:=p.more-1}:=by
 unfold advance;rw[Pc h]
theorem yx{t:Qx}{p:Probe}(h:p.more=0)(w:p.dummy=OZ):t.advance p=s9 t (R_ t.mask p.i p.perturb) (p.perturb/32):=by
 unfold advance;rw[Pd<|by lia];unfold leap s9;simp only[w]
theorem zD(w i D:Nat):R_ w i D<=w:=by
 have:=VG (i*5+1+D/32) (show w+1>0 by lia);unfold R_;lia
theorem Fj{t:Qx}(v:Pv t p):Pv t (t.advance p):=by
 by_cases q:0<p.more
 .rw[Fk q]
  exact⟨by have:=v.j;show p.j+1+(p.more-1)<=t.mask;lia,by have:=v.more;show p.more-1<=9;lia,v.i,v.pt,v.du⟩
 .rw[yx (by lia) v.du]
  exact rf (zD _ _ _)<|Rc (TX _ _) v.pt
theorem mR:∀(n:Nat) {p:Probe},Pv t p->Pv t (e_ t n p)
 |0,_,v=>v
 |n+1,_,v=>mR n<|Fj v
theorem se:∀(k:Nat) {p:Probe},Pv t p->k<=p.more->e_ t k p={p with j:=p.j+k,more:=p.more-k}
 |0,p,v,h=>by cases p;rfl
 |k+1,p,v,h=>by
  rw[pA,se k v<|by lia];rw[Fk (show 0<p.more-k by lia)];simp only[Probe.mk.injEq,and_true,true_and];lia
theorem pB{t:Qx}{p:Probe}(v:Pv t p):e_ t (p.more+1) p=s9 t (R_ t.mask p.i p.perturb) (p.perturb/32):=by
 rw[pA,se _ v<|Pg _];exact yx (UG _) v.du
def cD(w:Nat):Nat->Nat×Nat->Nat×Nat
 |0,x=>x
 |k+1,x=>cD w k (R_ w x.1 x.2,x.2/32)
theorem kg(w:Nat):∀(k:Nat) (x:Nat×Nat),cD w (k+1) x=(R_ w (cD w k x).1 (cD w k x).2,(cD w k x).2/32)
 |0,x=>rfl
 |k+1,x=>kg w k _
theorem wn{t:Qx}:∀(k:Nat) {p:Probe},Pv t p->∃n,n<=10*(k+1)/\e_ t n p=s9 t (cD t.mask (k+1) (p.i,p.perturb)).1 (cD t.mask (k+1) (p.i,p.perturb)).2
 |0,p,v=>⟨p.more+1,by have:=v.more;lia,pB v⟩
 |k+1,p,v=>by
  obtain⟨n,w,e⟩:=wn k v;have a:=mR n v;rw[e]at a;refine⟨n+((s9 t (cD t.mask (k+1) (p.i,p.perturb)).1 (cD t.mask (k+1) (p.i,p.perturb)).2).more+1),by have:=a.more;lia,?_⟩;rw[ou,e,pB a,kg t.mask<|k+1];rfl
def Mk(w:Nat):Prop:=w=7\/w=31\/w=127
noncomputable def Q_(w:Nat):Nat->Nat->Nat
 |0,i=>i
 |k+1,i=>Q_ w k<|(i*5+1) % (w+1)
theorem nZ(w:Nat):∀(a b i:Nat),Q_ w (a+b) i=Q_ w b (Q_ w a i)
 |0,b,i=>by rw[Qu];rfl
 |a+1,b,i=>by
  rw[show a+1+b=(a+b)+1 by lia];exact nZ w a b _
def HR(w:Nat):Bool:=(Q_ w (w+1) 0==0)&&(Ph<|w+1).all λj=>(Ph<|w+1).any λk=>Q_ w k 0==j
theorem LJ{w:Nat}(h:Mk w):HR w=O6:=by
 rcases h with rfl|rfl|rfl<;>decide +kernel
theorem xQ{w i j:Nat}(h:Mk w)(l:i<=w)(m:j<=w):∃k,k<=w/\Q_ w k i=j:=by
 have o:=LJ h;unfold HR at o;rw[PV,Se,Sf]at o;obtain⟨g,D⟩:=o;obtain⟨a,e,c⟩:=List.any_eq_true.mp (D i<|PN.mpr<|by lia);obtain⟨b,f,d⟩:=List.any_eq_true.mp (D j<|PN.mpr<|by lia);rw[Se]at c d;have:=PN.mp e;have:=PN.mp f;by_cases q:a<=b
 .refine⟨b-a,by lia,?_⟩
  rw[<-c,<-nZ,show a+(b-a)=b by lia,d]
 .refine⟨b+(w+1)-a,by lia,?_⟩
  rw[<-c,<-nZ,show a+(b+(w+1)-a)=(w+1)+b by lia,nZ,g,d]
theorem mr(w:Nat):∀(k i:Nat),cD w k (i,0)=(Q_ w k i,0)
 |0,i=>rfl
 |k+1,i=>by
  show cD w k (R_ w i 0,0/32)=_;rw[show(0/32:Nat)=0 from rfl,mr w k];rfl
theorem pb(w:Nat):∀(a b:Nat) (x:Nat×Nat),cD w (a+b) x=cD w b (cD w a x)
 |0,b,x=>by rw[Qu];rfl
 |a+1,b,x=>by
  rw[show a+1+b=(a+b)+1 by lia];exact pb w a b _
theorem o9(w:Nat):∀(k:Nat) (x:Nat×Nat),(cD w k x).2=x.2/32^k
 |0,x=>by simp[cD]
 |k+1,x=>by
  rw[kg,o9 w k x,Yt,Yv]
theorem xD(w:Nat):∀(k:Nat) (x:Nat×Nat),x.1<=w->(cD w k x).1<=w
 |0,x,h=>h
 |k+1,x,h=>by rw[kg];exact zD _ _ _
theorem OV{t:Qx}(h:Mk t.mask)(v:Pv t p)(a:j<=t.mask):∃n,n<10*turns t.mask/\(e_ t n p).j=j:=by
 have z:(cD t.mask 13 (p.i,p.perturb)).2=0:=by
  rw[o9];exact Nat.div_eq_of_lt (PZ v.pt<|by decide)
 have l:=xD t.mask 13 (p.i,p.perturb) v.i;obtain⟨k,c,e⟩:=xQ h l a;obtain⟨n,w,b⟩:=wn (12+k) v;refine⟨n,by unfold turns;lia,?_⟩;rw[b];show(cD t.mask (12+k+1) (p.i,p.perturb)).1=j;rw[show 12+k+1=13+k by lia,pb,show cD t.mask 13 (p.i,p.perturb)=((cD t.mask 13 (p.i,p.perturb)).1,0)from QN rfl z,mr];exact e
abbrev Lv(t:Qx)(j:Nat):Prop:=∃k:Nat,t.place[k]?=on j
structure Tb (t:Qx) (hs:a0e):Prop where
 km:Mk t.mask
 sz:t.place.size=VX hs
 rs:Rs t.place
 le:∀i j:Nat,t.place[i]?=on j->j<=t.mask
 du:t.dummies=#[]
 nf:t.place.size*5<t.mask*3
 rch:∀(i:Nat) (h:Int) (j:Nat),hs[i]?=on h->t.place[i]?=on j->∃n,(e_ t n<|t.probeStart h).j=j/\∀m<n,Lv t (e_ t m<|t.probeStart h).j
theorem Mk.f5(h:Mk m):m % 2=1/\7<=m/\m<=127:=by
 rcases h with rfl|rfl|rfl<;>decide
theorem gap{D:a0y}(r:Rs D):∀n,n<=D.size->(∀i:Nat,i<n->D[i]?=on i)\/∃j,j<n/\∀i:Nat,D[i]?≠on j
 |0,_=> .inl λi h=>PU h<|R6 i
 |n+1,h=>by
  rcases gap r n (by lia)with q|⟨j,c,b⟩
  .have e:D[n]?=on D[n]:=getElem?_pos D n (by lia)
   by_cases z:D[n]=n
   .refine .inl λi d=>?_
    by_cases w:i=n
    .subst w;rw[e,z]
    .exact q i (by lia)
   .have lt:n<=D[n]:=by
     cases n with
     |zero=>lia
     |succ m=>
      have:=r m (m+1) _ _ (by lia) (q m<|by lia) e;lia
    refine .inr ⟨n,by lia,λi a=>?_⟩;rcases Tg i n with w|w|w
    .rw[q i w]at a;cases a;lia
    .subst w;rw[e]at a;exact z<|P3 a
    .have:=r n i _ _ w e a
     lia
  .exact .inr ⟨j,by lia,b⟩
theorem ME{w:a0y}(r:Rs w):∃j,j<=w.size/\∀i:Nat,w[i]?≠on j:=by
 rcases gap r w.size (Pg _)with q|⟨j,c,a⟩
 .refine⟨w.size,Pg _,λi e=>?_⟩
  have b:=(Qo.mp e).1;rw[q i b]at e;cases e;lia
 .exact⟨j,by lia,a⟩
theorem Ir{t:Qx}(r:Rs t.place)(d:t.dummies=#[]):∀(fuel:Nat) (p:Probe) (e:Nat),Pv t p->e<fuel->¬Lv t (e_ t e p).j->
  ∃m,m<=e/\(∀a<m,∃i,t.place[i]?=on (e_ t a p).j/\hashAt i≠h)/\
   ((¬Lv t (e_ t m p).j/\probe.go t hashAt h fuel p=on (.empty (e_ t m p).j OZ))\/∃i,t.place[i]?=on (e_ t m p).j/\hashAt i=h/\probe.go t hashAt h fuel p=on (.candidate (e_ t m p).j i<|e_ t (m+1) p))
 |0,_,_,_,h,_=>PU h<|R6 _
 |fuel+1,p,e,v,hf,he=>by
  unfold probe.go;by_cases q:Lv t p.j
  .obtain⟨i,b⟩:=q
   rw[sY r b];simp only;by_cases z:hashAt i=h
   .refine⟨0,Qk _,λa w=>PU w<|R6 _,.inr ⟨i,b,z,?_⟩⟩
    rw[Pc<|by rw[Se];exact z];rfl
   .rw[Pd<|by rw[Se];exact z]
    cases e with
    |zero=>exact PU ⟨i,b⟩ he
    |succ e=>
     obtain⟨m,w,D,c⟩:=Ir r d fuel (t.advance p) e (Fj v) (by lia) he;refine⟨m+1,by lia,λa f=>?_,c⟩;cases a with
     |zero=>exact⟨i,b,z⟩
     |succ a=>exact D a (by lia)
  .rw[yR d (λi b=>q ⟨i,b⟩)]
   refine⟨0,Qk _,λa w=>PU w<|R6 _,.inl ⟨q,?_⟩⟩;simp only[v.du];rfl
theorem Tb.free{t:Qx}(T:Tb t hs)(v:Pv t p):∃e,e<10*turns t.mask/\¬Lv t (e_ t e p).j:=by
 obtain⟨j,f,a⟩:=ME T.rs;have:=T.nf;have:=T.km.f5;obtain⟨e,b,c⟩:=OV T.km v (show j<=t.mask by lia);exact⟨e,b,λ⟨k,d⟩=>a k<|by rw[<-c];exact d⟩
theorem EE{E:Type}{D:Array E}{p:Nat}{x:E}(b:p<=D.size)(i:Nat):(insertAt D p x)[i]?=if i<p then D[i]? else if i=p then on x else D[i-1]?:=by
 unfold insertAt;rw[Array.getElem?_append];have a:((D.extract 0 p).push x).size=p+1:=by simp;lia
 rw[a];by_cases q:i<p
 .rw[Pc (by lia),Pc q,YN,YZ]
  rw[Pd (by lia),X7];simp;lia
 .by_cases z:i=p
  .subst z
   rw[Pc (by lia),Pd (by lia),Pc rfl,YN,YZ];rw[Pc<|by lia]
  .rw[Pd (by lia),Pd q,Pd z,X7]
   by_cases w:i-1<D.size
   .rw[Pc<|by lia]
    congr 1;lia
   .rw[Pd (by lia),SQ<|by lia]
theorem gD{D:Type}{w:Array D}{p:Nat}{x:D}(a:p<=w.size):(insertAt w p x).size=w.size+1:=by
 unfold insertAt;simp;lia
theorem Tb.put{t:Qx}{hs:a0e}(T:Tb t hs)(B:¬Lv t j)(V:(e_ t n<|t.probeStart h).j=j)(s:∀m<n,Lv t (e_ t m<|t.probeStart h).j)(O:(t.place.size+1)*5<t.mask*3):
  (t.put j).1.dummies=#[]/\(t.put j).1.mask=t.mask/\(t.put j).1.place.size=t.place.size+1/\(t.put j).2<=t.place.size/\Tb (t.put j).1 (hs.take (t.put j).2++h::hs.drop (t.put j).2):=by
 obtain⟨G,C,b3⟩:=jV (j:=j) T.rs;have Q:has t.dummies j=O8:=by unfold has;rw[T.du];rfl
 have A:(t.put j).1.dummies=#[]:=by
  show(if has t.dummies j=O6 then _ else t.dummies)=#[];rw[Q,Pd Pf,T.du]
 have E:(t.put j).1.place=insertAt t.place (below t.place j) j:=rfl;have g:=λi=>EE (x:=j) G i;have P:∀x,Lv t x->Lv (t.put j).1 x:=λx ⟨k,l⟩=>by
  by_cases q:k<below t.place j
  .exact⟨k,by rw[E,g,Pc q];exact l⟩
  .exact⟨k+1,by rw[E,g,Pd (by lia),Pd<|by lia];exact l⟩
 have K:∀m p,e_ (t.put j).1 m p=e_ t m p:=λm=>by
  induction m with
  |zero=>intro p;rfl
  |succ m R=>intro p;exact R<|t.advance p
 refine⟨A,rfl,by rw[E,gD G],G,⟨T.km,?_,?_,?_,A,?_,?_⟩⟩
 .rw[E,gD G,T.sz]
  have:(t.put j).2<=VX hs:=by rw[<-T.sz];exact G
  simp;lia
 .intro i k x y r c e
  rw[E,g]at c e;have F:∀k,t.place[k]?≠on j:=λk l=>B ⟨k,l⟩;by_cases D:i<below t.place j
  .rw[Pc D]at c
   by_cases S:k<below t.place j
   .rw[Pc S]at e
    exact T.rs i k x y r c e
   .rw[Pd S]at e
    by_cases w:k=below t.place j
    .rw[Pc w]at e;cases e
     exact C i x D c
    .rw[Pd w]at e
     exact T.rs i (k-1) x y (by lia) c e
  .rw[Pd D]at c
   rw[Pd (by lia),Pd<|by lia]at e;by_cases w:i=below t.place j
   .rw[Pc w]at c;cases c
    have L:=b3 (k-1) y (by lia) e;have:y≠j:=λz=>F (k-1) (by rw[e,z]);lia
   .rw[Pd w]at c
    exact T.rs (i-1) (k-1) x y (by lia) c e
 .intro i x c
  rw[E,g]at c;by_cases D:i<below t.place j
  .rw[Pc D]at c;exact T.le i x c
  .rw[Pd D]at c
   by_cases w:i=below t.place j
   .rw[Pc w]at c;cases c
    have v:=mR n<|o7 t h;have:=v.j;show j<=t.mask;lia
   .rw[Pd w]at c;exact T.le _ x c
 .rw[E,gD G];exact O
 .intro i h' x H c
  have N:(t.put j).2<=VX hs:=by rw[<-T.sz];exact G
  have u:(t.put j).2=below t.place j:=rfl;rw[E,g]at c;have d:(if i<below t.place j then hs[i]? else if i=below t.place j then on h else hs[i-1]?)=on h':=by
   rw[<-H,u];by_cases D:i<below t.place j
   .rw[Pc D,Tx (by rw[Tu];lia),XW D]
   .rw[Pd D,RK (by rw[Tu];lia),Tu,Nat.min_eq_left<|by lia]
    by_cases w:i=below t.place j
    .rw[Pc w,w,UG];rfl
    .rw[Pd w,show i-below t.place j=(i-1-below t.place j)+1 by lia,X9,Zr]
     congr 1;lia
  have f:∀o,hs[o]?=on h'->t.place[o]?=on x->∃n,(e_ (t.put j).1 n<|(t.put j).1.probeStart h').j=x/\∀m<n,Lv (t.put j).1 (e_ (t.put j).1 m<|(t.put j).1.probeStart h').j:=λo a b=>by
   obtain⟨I,J,u⟩:=T.rch o h' x a b;refine⟨I,by rw[K];exact J,λm M=>?_⟩;rw[K];exact P _<|u m M
  by_cases D:i<below t.place j
  .rw[Pc D]at c d
   exact f i d c
  .rw[Pd D]at c d
   by_cases w:i=below t.place j
   .rw[Pc w]at c d
    cases c;cases d;refine⟨n,by rw[K];exact V,λm M=>?_⟩;rw[K];exact P _<|s m M
   .rw[Pd w]at c d
    exact f (i-1) d c
theorem wo{t u:Qx}(h:t.mask=u.mask):∀(n:Nat) (p:Probe),e_ t n p=e_ u n p
 |0,p=>rfl
 |n+1,p=>by
  show e_ t n (t.advance p)=e_ u n (u.advance p);have:t.advance p=u.advance p:=by unfold advance;rw[h]
  rw[this];exact wo h n _
theorem yN{t u:Qx}(h:t.mask=u.mask)(x:Int):t.probeStart x=u.probeStart x:=by unfold probeStart;rw[h]
noncomputable abbrev tm(mask:Nat):Qx:={mask,place:=#[],dummies:=#[],finger:=0,led:=O6,moves:=0,plain:=O6}
noncomputable abbrev fr(owner:a0w)(j:Nat):Bool:=(owner.getD j<|on 0).isNone
theorem ye{w:Nat}{owner:a0w}:∀(fuel i D:Nat),i<=w->D<2^64->(∃b,b<fuel/\fr owner (cD w b (i,D)).1=O6)->
  ∃n,layClean.free w owner fuel i D=on (e_ (tm w) n<|s9 (tm w) i D).j/\fr owner (e_ (tm w) n<|s9 (tm w) i D).j=O6/\∀m<n,fr owner (e_ (tm w) m<|s9 (tm w) i D).j=O8
 |0,_,_,_,_,⟨b,h,_⟩=>PU h<|R6 b
 |fuel+1,i,D,hi,hp,⟨b,hb,hf⟩=>by
  have v:=rf (t:=tm w) hi hp;obtain⟨r1,B,C⟩:=tF hi;have f:(s9 (tm w) i D).more=runEnd w i-i:=rfl;have d:∀k,k<=runEnd w i-i->(e_ (tm w) k<|s9 (tm w) i D).j=i+k:=λk c=>by
   rw[se k v c];rfl
  unfold layClean.free;split
  .rename_i k c
   obtain⟨g,l,o⟩:=List.find?_range_eq_some.mp c;have:=PN.mp l;refine⟨k,by rw[d k<|by lia],by rw[d k<|by lia];exact g,λm E=>?_⟩;rw[d m<|by lia];have:=o m E;simpa using this
  .rename_i c
   have G:∀k,k<=runEnd w i-i->fr owner (i+k)=O8:=λk p=>by
    have:=List.find?_range_eq_none.mp c k (by lia);simpa using this
   cases b with
   |zero=>
    have r:=G 0 (by lia);exact PU hf (by rw[show(cD w 0 (i,D)).1=i+0 from rfl,r];exact Pf)
   |succ b=>
    obtain⟨n,u,y,A⟩:=ye fuel (R_ w i D) (D/32) (zD _ _ _) (Rc (TX _ _) hp) ⟨b,by lia,hf⟩;have a:∀m,e_ (tm w) (runEnd w i-i+1+m) (s9 (tm w) i D)=e_ (tm w) m (s9 (tm w) (R_ w i D)<|D/32):=λm=>by
     rw[ou,<-f,pB v];rfl
    refine⟨runEnd w i-i+1+n,by rw[a];exact u,by rw[a];exact y,λm E=>?_⟩;by_cases q:m<=runEnd w i-i
    .rw[d m q];exact G m q
    .obtain⟨e,rfl⟩:∃e,m=runEnd w i-i+1+e:=⟨m-(runEnd w i-i+1),by lia⟩
     rw[a];exact A e (by lia)
structure Ow (mask:Nat) (owner:a0w) (hs:a0e):Prop where
 sz:owner.size=mask+1
 lt:∀j k:Nat,owner[j]?=on (on k)->k<VX hs
 un:∀j j' k:Nat,owner[j]?=on (on k)->owner[j']?=on (on k)->j=j'
 cn:owner.toList.countP (·.isSome)=VX hs
 ex:∀(k:Nat) (h:Int),hs[k]?=on h->∃j n:Nat,owner[j]?=on (on k)/\(e_ (tm mask) n<|(tm mask).probeStart h).j=j/\∀m<n,∃k':Nat,owner[(e_ (tm mask) m<|(tm mask).probeStart h).j]?=on (on k')
theorem zZ{w:Nat}{owner:a0w}(D:owner.size=w+1){j:Nat}(b:j<=w):(fr owner j=O6↔owner[j]?=on OZ)/\(fr owner j=O8↔∃k:Nat,owner[j]?=on (on k)):=by
 have e:owner[j]?=on owner[j]:=getElem?_pos owner j (by lia);have a:owner.getD j (on 0)=owner[j]:=by simp[Sz,show j<owner.size by lia]
 unfold fr;rw[a,e];cases owner[j]<;>simp
theorem Ow.step{D:Nat}{owner:a0w}{E:a0e}(O:Ow D owner E)(h:Int)(G:Mk D)(U:VX E<=D):
  ∃j,layClean.free D owner (turns D) (bits h % (D+1)) (bits h)=on j/\Ow D (owner.setIfInBounds j<|on<|VX E) (E++[h]):=by
 have r:bits h % (D+1)<=D:=by have:=VG (bits h) (show D+1>0 by lia);lia
 have⟨u,h1,h2⟩:∃u,u<=D/\fr owner u=O6:=by
  refine Sg λz=>?_;have M:∀a∈owner.toList,Option.isSome a=O6:=λa S=>by
   obtain⟨i,g,e⟩:=Wd S;have J:i<owner.size:=by simpa using g
   have L:fr owner i=O8:=by
    cases q:fr owner i with
    |false=>rfl
    |true=>exact PU ⟨i,by have:=O.sz;lia,q⟩ z
   obtain⟨k,v⟩:=(zZ O.sz (show i<=D by have:=O.sz;lia)).2.mp L;have:owner[i]?=on a:=by rw[<-S6,O4 g,e]
   rw[this]at v;cases v;rfl
  have:=List.countP_eq_length.mpr M;rw[O.cn]at this;have:=O.sz;simp at*;lia
 have z:(cD D 13 (bits h % (D+1),bits h)).2=0:=by
  rw[o9];exact Nat.div_eq_of_lt (PZ (oF h)<|by decide)
 have l:=xD D 13 (bits h % (D+1),bits h) r;obtain⟨k,v,e⟩:=xQ G l h1;have N:fr owner (cD D (13+k) (bits h % (D+1),bits h)).1=O6:=by
  rw[pb,show cD D 13 (bits h % (D+1),bits h)=((cD D 13 (bits h % (D+1),bits h)).1,0)from QN rfl z,mr];show fr owner (Q_ D k _)=O6;rw[e];exact h2
 obtain⟨n,C,F,Q⟩:=ye (owner:=owner) (turns D) (bits h % (D+1)) (bits h) r (oF h) ⟨13+k,by unfold turns;lia,N⟩;have H:∀m,(e_ (tm D) m<|s9 (tm D) (bits h % (D+1))<|bits h).j<=D:=λm=>by
  have:=(mR m<|rf (t:=tm D) r<|oF h).j;show _<=(tm D).mask;lia
 generalize I:(e_ (tm D) n<|s9 (tm D) (bits h % (D+1))<|bits h).j=j at C F;have R:j<=D:=by rw[<-I];exact H n
 have o:owner[j]?=on OZ:=(zZ O.sz R).1.mp F;have p:j<owner.size:=by have:=O.sz;lia
 have set:∀x:Nat,(owner.setIfInBounds j<|on<|VX E)[x]?=if j=x then on (on<|VX E)else owner[x]?:=λx=>by
  rw[Array.getElem?_setIfInBounds];by_cases q:j=x
  .rw[Pc q,Pc q,Pc p]
  .rw[Pd q,Pd q]
 refine⟨j,C,⟨by rw[Array.size_setIfInBounds];exact O.sz,λx k c=>?_,λx y k c f=>?_,?_,λk V d=>?_⟩⟩
 .rw[set]at c
  rw[PR];by_cases q:j=x
  .rw[Pc q]at c;cases c;simp
  .rw[Pd q]at c
   have:=O.lt x k c;lia
 .rw[set]at c f
  by_cases q:j=x
  .rw[Pc q]at c;cases c
   by_cases K:j=y
   .lia
   .rw[Pd K]at f
    exact PU (O.lt y _ f)<|Qw _
  .rw[Pd q]at c
   by_cases K:j=y
   .rw[Pc K]at f;cases f
    exact PU (O.lt x _ c)<|Qw _
   .rw[Pd K]at f
    exact O.un x y k c f
 .rw[Array.toList_setIfInBounds,List.countP_set (by simpa using p),O.cn]
  have:owner.toList[j]'(by simpa using p)=OZ:=by
   have e:=getElem?_pos owner j p;rw[o]at e;rw[Uh];exact(P3 e).symm
  rw[this];simp
 .by_cases q:k<VX E
  .rw[Tx q]at d
   obtain⟨x,T,P,s,W⟩:=O.ex k V d;refine⟨x,T,?_,s,λm G=>?_⟩
   .rw[set,Pd (λw=>by subst w;rw[o]at P;cases P)];exact P
   .obtain⟨A,b⟩:=W m G
    exact⟨A,by rw[set,Pd (λw=>by rw[<-w,o]at b;cases b)];exact b⟩
  .have B:=(Pl.mp d).1
   rw[PR,QO]at B;have:k=VX E:=by lia
   subst this;rw[RK<|Pg _,UG]at d;cases d;refine⟨j,n,by rw[set,Pc rfl],I,λm G=>?_⟩;obtain⟨A,b⟩:=(zZ O.sz<|H m).2.mp<|Q m G;exact⟨A,by rw[sV,set,Pd (λw=>by rw[<-w,o]at b;cases b)];exact b⟩
theorem Ow.nil(w:Nat):Ow w (Array.replicate (w+1) OZ) []:=by
 have g:∀x:Nat,(Array.replicate (w+1) (OZ:a0H))[x]?=if x<w+1 then on OZ else OZ:=λx=>Array.getElem?_replicate;refine⟨by simp,λj k h=>?_,λj b k h=>?_,by simp,λk h a=>by simp at a⟩
 .rw[g]at h
  split at h<;>cases h
 .rw[g]at h
  split at h<;>cases h
theorem wg{D:Nat}(K:Mk D):∀(l:a0e) (w:a0w) (E:a0e),Ow D w E->VX E+VX l<=D+1->∃a,l.foldl (λ(G:Option<|a0w×Nat) h=>do
   let (w,k) <-G
   let j <-layClean.free D w (turns D) (bits h % (D+1)) (bits h)
   Rz (w.setIfInBounds j<|on k,k+1)) (on (w,VX E))=on (a,VX E+VX l)/\Ow D a (E++l)
 |[],w,E,O,_=>⟨w,rfl,by rw[QI];exact O⟩
 |h::l,w,E,O,hl=>by
  rw[Pt]at hl;obtain⟨j,e,d⟩:=O.step h K (by lia);obtain⟨f,b,c⟩:=wg K l _ (E++[h]) d (by rw[PR,QO];lia);refine⟨f,?_,by rw[Q8]at c;exact c⟩;rw[List.foldl_cons];simp only[Option.bind_eq_bind,SE,e];rw[PR,QO]at b;rw[Pt,show VX E+(VX l+1)=VX E+1+VX l by lia];exact b
theorem Mc{w:Nat}(G:Mk w)(E:Array Int)(b:E.size<=w+1):∃D,layClean w E=on D/\Ow w D E.toList:=by
 obtain⟨o,e,O⟩:=wg G E.toList _ [] (Ow.nil w) (by simpa using b);refine⟨o,?_,O⟩;unfold layClean;rw[<-Array.foldl_toList];have a:=e;simp only[Xb]at a;exact(QG (Option.map (·.1)) a).trans rfl
theorem wC{w D:Type}{f:w->Option D}{g:w->D}:∀{l:List w},(∀a∈l,f a=on (g a))->l.filterMap f=l.map g
 |[],_=>rfl
 |a::l,h=>by
  rw[Rg,h a Pa,Pi,wC λb c=>h b<|O1 a c]
noncomputable def cr(D:Nat)(w:a0w):a0k:=(Ph<|D+1).filterMap λj=>(w.getD j OZ).map (j,·)
theorem GG{D:Nat}{w:a0w}(E:w.size=D+1){j k:Nat}:(j,k)∈cr D w↔w[j]?=on (on k):=by
 unfold cr;rw[UL];constructor
 .rintro⟨x,c,e⟩
  have d:=PN.mp c;have a:w.getD x OZ=w[x]:=by simp[Sz,show x<w.size by lia]
  rw[a]at e;cases q:w[x]with
  |none=>rw[q]at e;cases e
  |some f=>
   rw[q]at e;simp only[Rj,X0,Prod.mk.injEq]at e;obtain⟨rfl,rfl⟩:=e;rw[getElem?_pos w x (by lia),q]
 .intro e
  have b:=(Qo.mp e).1;refine⟨j,PN.mpr (by lia),?_⟩;have a:w.getD j OZ=w[j]:=by simp[Sz,b]
  rw[getElem?_pos w j b]at e;rw[a,P3 e];rfl
theorem Ep(D:Nat)(w:a0w):(cr D w).Pairwise λa b=>a.1<b.1:=by
 unfold cr;refine List.Pairwise.filterMap _ (λa e h b d f c=>?_) List.pairwise_lt_range;cases q:w.getD a OZ with
 |none=>rw[q]at d;cases d
 |some k=>
  rw[q]at d;cases E:w.getD e OZ with
  |none=>rw[E]at c;cases c
  |some g=>
   rw[E]at c;cases d;cases c;exact h
theorem CI{t:Qx}{hs:Array Int}(M:Mk<|sizeAbove wanted-1)(nf:hs.size*5<(sizeAbove wanted-1)*3):
  ∃(G:Qx) (c:a0y),t.relaid hs wanted=on (G,c)/\c.toList.Perm (Ph hs.size)/\Tb G (c.toList.map λk=>hs.getD k 0)/\G.led=t.led/\G.plain=t.plain:=by
 have ho:=M.f5;obtain⟨w,e,O⟩:=Mc M hs (by lia);generalize T:sizeAbove wanted-1=mask at*;have d:VX hs.toList=hs.size:=by simp
 have f:=Ep mask w;have g:∀{j k:Nat},(j,k)∈cr mask w↔w[j]?=on (on k):=GG O.sz;have U:t.relaid hs wanted=on ({mask,place:=((cr mask w).map (·.1)).toArray,dummies:=#[],finger:=t.finger,led:=t.led,moves:=t.movedTo mask,plain:=t.plain},((cr mask w).map (·.2)).toArray):=by
  unfold relaid laid;rw[T,e];rfl
 have D:((cr mask w).map (·.2)).Perm (Ph hs.size):=by
  refine(List.perm_ext_iff_of_nodup ?_ Vr).mpr λk=>?_
  .unfold List.Nodup
   rw[U4];refine List.Pairwise.imp_of_mem (R:=λa b=>a.1<b.1) (λ{a b} E B h z=>?_) f;obtain⟨j,k⟩:=a;obtain⟨r,v⟩:=b;have W:k=v:=z;subst W;have:=O.un j r k (g.mp E)<|g.mp B;have h':j<r:=h;lia
  .rw[Pj,PN]
   constructor
   .rintro⟨⟨j,v⟩,h,rfl⟩
    have:=O.lt j v<|g.mp h;rwa[d]at this
   .intro A
    obtain⟨j,n,C,_⟩:=O.ex k _ (O4<|by rw[d];exact A);exact⟨(j,k),g.mpr C,rfl⟩
 have l:VX (cr mask w)=hs.size:=by
  have:=D.length_eq;rwa[OY,PY]at this
 refine⟨_,_,U,by simpa using D,?_,rfl,rfl⟩;have K:∀{i:Nat} {x:Nat},(((cr mask w).map (·.1)).toArray)[i]?=on x->∃k,(cr mask w)[i]?=on (x,k):=λ{i x} h=>by
  rw[VO,O9]at h;cases q:(cr mask w)[i]? with
  |none=>rw[q]at h;cases h
  |some a=>
   rw[q]at h;cases h;exact⟨a.2,rfl⟩
 have F:∀{j k:Nat},w[j]?=on (on k)->∃i:Nat,(((cr mask w).map (·.1)).toArray)[i]?=on j:=λ{j k} h=>by
  obtain⟨i,X,Y⟩:=Wd<|g.mpr h;exact⟨i,by rw[VO,O9,O4 X,Y];rfl⟩
 refine⟨M,?_,?_,?_,rfl,?_,?_⟩
 .show(((cr mask w).map (·.1)).toArray).size=_
  simp
 .intro i k x y H Z hy
  obtain⟨a,E⟩:=K Z;obtain⟨b,B⟩:=K hy;obtain⟨C,I⟩:=Pl.mp E;obtain⟨S,V⟩:=Pl.mp B;have:=Sm.mp f i k C S H;rw[I,V]at this;exact this
 .intro i j h
  obtain⟨a,E⟩:=K h;have:=(Qo.mp<|g.mp<|PD E).1;have:=O.sz;show j<=mask;lia
 .show(((cr mask w).map (·.1)).toArray).size*5<mask*3
  have:(((cr mask w).map (·.1)).toArray).size=hs.size:=by simp[l]
  lia
 .intro i h j J hj
  obtain⟨k,A⟩:=K hj;have o:=g.mp<|PD A;have s:hs.toList[k]?=on h:=by
   rw[O9]at J;have I:((cr mask w).map (·.2)).toArray.toList[i]?=on k:=by
    show((cr mask w).map (·.2))[i]?=_;rw[O9,A];rfl
   rw[I]at J;have N:k<hs.size:=by have:=O.lt j k o;rwa[d]at this
   have:hs.getD k 0=h:=P3 J;rw[S6,getElem?_pos hs k N,<-this];simp[Sz,N]
  obtain⟨r,n,a1,a2,a3⟩:=O.ex k h s;have:=O.un j r k o a1;subst this;have P:∀(u:Qx),u.mask=mask->∀m,e_ u m (u.probeStart h)=e_ (tm mask) m ((tm mask).probeStart h):=λu Q m=>by
   rw[yN (u:=tm mask) Q,wo (u:=tm mask) Q]
  refine⟨n,by rw[P _ rfl];exact a2,λm L=>?_⟩;rw[P _ rfl];obtain⟨v,p⟩:=a3 m L;exact F p
theorem tL{t:Qx}(a:t.probe f h p=r)(T:Tb t g)(v:Pv t p)(b:e<10*turns t.mask)(c:¬Lv t (e_ t e p).j):
  ∃m,m<=e/\(∀d<m,∃i,t.place[i]?=on (e_ t d p).j/\f i≠h)/\
   ((¬Lv t (e_ t m p).j/\r=on (.empty (e_ t m p).j OZ))\/∃i,t.place[i]?=on (e_ t m p).j/\f i=h/\r=on (.candidate (e_ t m p).j i<|e_ t (m+1) p)):=by
 subst a;exact Ir T.rs T.du _ p e v b c
section
variable{prog:P6}{w:Qb}{A:Qy}{E:a0d}{s:Pe}
noncomputable abbrev jn(prog:P6)(w:Qb):HeapKind prog w a0e:=tupleKind<|V7 prog w
noncomputable abbrev hsh(prog:P6)(w:Qb)(k:a0e):Int:=(jn prog w).hash k
theorem Tb.fits{t:Qx}{hs:a0e}(T:Tb t hs)(s:VX hs=n):t.fits n=O6:=by
 have:=T.nf;have:=T.sz;have:=T.km.f5;unfold Xi SetTable.fill;rw[T.du];simp;lia
theorem items_int(h:ItemsAre (V7 prog w) b a):∀v∈a,∃n t,v=Tp n t:=by
 induction h with
 |nil=>intro v hv;cases hv
 |@cons k v' b a h1 _ ih=>
  intro v hv;rcases Pr.mp hv with rfl|hv
  .obtain⟨t,e⟩:=Wx h1
   exact⟨_,t,e⟩
  .exact ih v hv
theorem AZ{M:WU}{o:QS}(b:s.heap.get? a=on o)(h:Q o.cls s):Pq M A (Z5<|.ref a) Q E s:=by
 show Pq M A (loadPart a _>>=_) Q E s;exact My<|WE b<|O0 h
theorem v3(e:(jn prog w).is s.heap k x)(h:Q O8 s):Pq (PM prog w) A (Xq 8<|.ref x) Q E s:=by
 obtain⟨o,G,n,d,hc,M,f⟩:=e;unfold Xq;refine My<|AZ d ?_;rw[hc];simp only[Vl,Qs];refine My<|O0 ?_;simp only[Sc,PF,QA];refine My<|RA d M ?_;refine My ?_;show Pq _ _ (YF G _ _) _ _ s;rw[<-TM];refine VT _ (λD r K=>r.1=OZ/\K=s/\∀v∈D,∃n t,v=Tp n t) _ ?_ ?_ _ _ ⟨rfl,rfl,items_int f⟩
 .rintro v D r K ⟨b,rfl,a⟩
  obtain⟨n,t,rfl⟩:=a v Pa;unfold Xq;refine My<|O0 ?_;simp only[PF,QA];exact O0 ⟨rfl,rfl,λu c=>a u<|O1 _ c⟩
 .rintro⟨r1,g⟩ K ⟨b,rfl,_⟩
  simp only at b;subst b;exact O0 h
theorem G9(d:(jn prog w).is s.heap k x)(h:Q O6 s):Pq (PM prog w) A (hashByValue 8<|.ref x) Q E s:=by
 have e:=X8 (s:=s) d;obtain⟨o,G,n,f,hc,M,g⟩:=d;unfold hashByValue;refine My<|SG e F.slot_tuple_hash.lookup ?_;simp only;refine My<|RA f M ?_;refine My ?_;show Pq _ _ (YF G _ _) _ _ s;rw[<-TM];refine VT _ (λD r K=>r.1=OZ/\K=s/\∀v∈D,∃n t,v=Tp n t) _ ?_ ?_ _ _ ⟨rfl,rfl,items_int g⟩
 .rintro v D r K ⟨b,rfl,a⟩
  obtain⟨n,t,rfl⟩:=a v Pa;unfold hashByValue;refine My<|O0 ?_;simp only[Sc,PF,QA];exact O0 ⟨rfl,rfl,λu c=>a u<|O1 _ c⟩
 .rintro⟨r1,i⟩ K ⟨b,rfl,_⟩
  simp only at b;subst b;exact O0 h
theorem JL(f:(jn prog w).is s.heap k x):∀(l:a0t) {Q:Bool->Pe->Prop},(∀y∈l,(jn prog w).is s.heap y.1 y.2)->Q O8 s->Pq (PM prog w) A (Xs (.ref x)<|l.map λy=>Pw y.2) Q E s:=by
 intro l Q h i;unfold Xs;refine My ?_;refine VT _ (λD r G=>r.1=OZ/\G=s/\∃b:a0t,D=b.map (λy=>Pw y.2)/\∀y∈b,(jn prog w).is s.heap y.1 y.2) _ ?_ ?_ _ _ ⟨rfl,rfl,l,rfl,h⟩
 .rintro v D r G ⟨d,rfl,b,e,a⟩
  cases b with
  |nil=>cases e
  |cons y b=>
   cases e;have g:=a y Pa;have K:(OZ:a0N)=OZ/\G=G/\∃c:a0t,b.map (λy=>Pw y.2)=c.map (λy=>Pw y.2)/\∀y∈c,(jn prog w).is G.heap y.1 y.2:=⟨rfl,rfl,b,rfl,λu j=>a u<|O1 y j⟩;by_cases q:x==y.2
   .simp only[q,Bool.true_or,Qs]
    exact O0 K
   .simp only[q,Bool.false_or,carriedByValue,Tk,PF,QA]
    refine My<|(jn prog w).quiet f ?_;simp only[Sc,PF,QA];refine My<|(jn prog w).quiet g ?_;simp only[Sc,PF,QA];refine My<|v3 f ?_;simp only[PF,QA];refine My<|v3 g ?_;simp only[PF,QA];exact O0 K
 .rintro⟨r1,m⟩ G ⟨d,rfl,_⟩
  simp only at d;subst d;exact O0 i
theorem BU{o:QS}{K:a0x}{t:Qx}{D:a0t}(hu:A.units<Uu)(ho:s.heap.get? a=on o)(hd:o.data= .set K ep t)
  (H:K.toList=D.map λx=>(hsh prog w x.1,Pw x.2)) (hx:∀x∈D,(jn prog w).is s.heap x.1 x.2) (T:Tb t<|D.map λx=>hsh prog w x.1) (hk:(jn prog w).is s.heap k b)
  (he:e<10*turns t.mask) (U:¬Lv t (e_ t e<|t.probeStart<|hsh prog w k).j) (ha:∀m<e,Lv t (e_ t m<|t.probeStart<|hsh prog w k).j)
  (q1:k∈D.map (·.1)->Q (.there OZ) s) (q2:k∉D.map (·.1)->Q (.free (e_ t e<|t.probeStart<|hsh prog w k).j O8) s):
  ∀(n c m:Nat) (st:Option Probe),e=m+n->n<c->st.getD (t.probeStart<|hsh prog w k)=e_ t m (t.probeStart<|hsh prog w k)->(∀g<m,∀(i:Nat) x,t.place[i]?=on (e_ t g<|t.probeStart<|hsh prog w k).j->D[i]?=on x->x.1≠k)->
   Pq (PM prog w) A (setSearchFrom a (.ref b) (hsh prog w k) O6 c st) Q E s:=by
 have ac:K.size=VX D:=by rw[<-Qe,H,OY]
 have W:t.fits K.size=O6:=T.fits (by rw[OY,ac]);have l:∀i:Nat,K[i]?=(D[i]?).map λx=>(hsh prog w x.1,Pw x.2):=λi=>by rw[<-S6,H,O9]
 have gw:t.gaveWay=O8:=by
  have:=T.km.f5;unfold SetTable.gaveWay;rw[Yb];lia
 intro n
 induction n using Xl with
 |_ n ih=>
  intro c m st em al ad p;cases c with
  |zero=>lia
  |succ c=>
   unfold setSearchFrom;refine My<|Rw ho hd W ?_
   dsimp only
   rw[ad,gw];simp only[PF,QA];have v:=mR m<|o7 t<|hsh prog w k;have M:∀n',e_ t n' (e_ t m<|t.probeStart<|hsh prog w k)=e_ t (m+n') (t.probeStart<|hsh prog w k):=λn'=>(ou t m n' _).symm;have G:∀{i O j:Nat},t.place[i]?=on j->t.place[O]?=on j->i=O:=λ{i O j} u C=>by
    rcases Tg i O with q|q|q
    .exact PU (T.rs i O j j q u C) (Qw j)
    .exact q
    .exact PU (T.rs O i j j q C u) (Qw j)
   split
   .rename_i X heq
    obtain⟨g,ae,r,d⟩:=tL heq T v (e:=n) (by lia) (by rw[M,<-em];exact U);rcases d with⟨Y,I⟩|⟨i,R,am,I⟩
    .cases I
     have Z:g=n:=by
      rcases SY g n with q|q
      .rw[M]at Y
       exact PU (ha (m+g)<|by lia) Y
      .lia
     subst Z;refine O0 ?_;rw[M,<-em];refine q2 λS=>?_;obtain⟨x,af,J⟩:=Pj.mp S;obtain⟨B,ag,ah⟩:=Wd af;have h:D[B]?=on x:=by rw[O4 ag,ah]
     have L:B<t.place.size:=by have:=T.sz;rw[OY]at this;lia
     obtain⟨F,a1,a2⟩:=T.rch B (hsh prog w k) t.place[B] (by rw[O9,h,<-J];rfl)<|getElem?_pos t.place B L;have an:F<e:=by
      rcases Tg F e with q|q|q
      .exact q
      .subst q
       exact PU ⟨B,by rw[a1];exact getElem?_pos t.place B L⟩ U
      .exact PU (a2 e q) U
     have V:t.place[B]?=on (e_ t F<|t.probeStart<|hsh prog w k).j:=by rw[a1];exact getElem?_pos t.place B L
     by_cases q:F<m
     .exact p F q B x V h J
     .obtain⟨i,u,C⟩:=r (F-m) (by lia)
      rw[M,show m+(F-m)=F by lia]at u;have:=G u V;subst this;refine C ?_;show(K[i]?.map (·.1)).getD 0=_;rw[l,h,<-J];rfl
    .cases I
     have N:i<VX D:=by
      have u:=(Qo.mp R).1;have:=T.sz;rw[OY]at this;lia
     have h:D[i]?=on D[i]:=O4 N;have aa:K[i]?=on (hsh prog w D[i].1,Pw D[i].2):=by rw[l,h];rfl
     have ai:=hx D[i]<|Qd N;rw[M]at R;simp only;have el:(QV (λx=>x.snd) (Array.filter (λx=>x.fst==hsh prog w k) K).toList)=(D.filter λy=>hsh prog w y.1==hsh prog w k).map λy=>Pw y.2:=by
      rw[Array.toList_filter,H,Xa,Pp];rfl
     rw[el];have ab:∀{Q':Bool->Pe->Prop},Q' O8 s->Pq (PM prog w) A (Xs (.ref b)<|(D.filter λy=>hsh prog w y.1==hsh prog w k).map λy=>Pw y.2) Q' E s:=λhq=>JL hk _ (λy hy=>hx y (QK.mp hy).1) hq;have sm:t.sameMemory t.moves t.mask=on O6:=by unfold sameMemory;simp
     have sl:t.slot (e_ t (m+g)<|t.probeStart<|hsh prog w k).j= .live i:=sY T.rs R;cases ak:t.led
     all_goals simp only[Xw,Sc,PF,Qs,QA,M,aa]
     all_goals try refine My<|ab ?_
     all_goals try simp only[PF,QA]
     all_goals
      refine My<|QL<|(jn prog w).eqBool hu ai hk<|My<|Rw ho hd W ?_;simp only[S7];by_cases q:D[i].1=k
      .rw[Pc<|Pn q]
       exact O0<|q1<|Pj.mpr ⟨D[i],Qd N,q⟩
      .rw[Pd<|by simpa using q]
       simp only[sm,Qs,sl,aa];refine My ?_;unfold isSame;simp only[Vl,Qs];refine O0<|My<|O0 ?_;simp only[Qs];rw[Pd<|by simpa using q];have Z:g<n:=by
        rcases SY g n with z|z
        .exact z
        .obtain rfl:g=n:=by lia
         rw[<-em]at R;exact PU ⟨i,R⟩ U
       refine ih (n-(g+1)) (by lia) c (m+g+1) _ (by lia) (by lia) rfl λP ao i2 x2 u C z=>?_;by_cases q1:P<m
       .exact p P q1 i2 x2 u C z
       .by_cases q2:P=m+g
        .subst q2
         have:=G R u;subst this;rw[h]at C;cases C;exact q z
        .obtain⟨i3,h3,h4⟩:=r (P-m) (by lia)
         rw[M,show m+(P-m)=P by lia]at h3;have:=G h3 u;subst this;refine h4 ?_;show(K[i3]?.map (·.1)).getD 0=_;rw[l,C,<-z];rfl
   .rename_i hno
    have aj:∀f:Nat->Int,(∀X,t.probe f (hsh prog w k) (e_ t m<|t.probeStart<|hsh prog w k)=on X->False)->False:=λf W=>by
     obtain⟨g,ae,r,d⟩:=tL (f:=f) rfl T v (e:=n) (by lia) (by rw[M,<-em];exact U);rcases d with⟨_,I⟩|⟨i,_,_,I⟩
     .exact W _ I
     .exact W _ I
    exact(aj _ hno).elim
theorem N8{P:Nat->Prop}:∀n,P n->∃m,m<=n/\P m/\∀k<m,¬P k:=by
 intro n
 induction n using Xl with
 |_ n ih=>
  intro h;by_cases q:∃k,k<n/\P k
  .obtain⟨k,a,b⟩:=q
   obtain⟨m,d,c⟩:=ih k a b;exact⟨m,by lia,c⟩
  .exact⟨n,Pg n,h,λk a b=>q ⟨k,a,b⟩⟩
def sJ(prog:P6)(w:Qb)(h:Qt)(a:O7)(s:a0t):Prop:=
 ∃o A D t,h.get? a=on o/\o.ExactSet/\o.data= .set A D t/\(A.toList=s.map λx=>(hsh prog w x.1,Pw x.2))/\(s.map (·.1)).Nodup/\(∀x∈s,(jn prog w).is h x.1 x.2)/\(Tb t<|s.map λx=>hsh prog w x.1)/\t.plain=O6/\t.led=!(w.params.followText "set-order")
theorem pP{h A:Qt}{o:QS}{j l t}(x:(jn prog w).is h k b)(g:h.get? a=on o)(D:o.data= .set j l t)(hs:P7 a h A):(jn prog w).is A k b:=by
 obtain⟨f,s,n,d,hc,c,i⟩:=x;have e:b≠a:=by
  rintro rfl;obtain rfl:f=o:=P3<|d.symm.trans g;rw[D]at c;exact nomatch c
 exact⟨f,s,n,(hs.2 b e).trans d,hc,c,i⟩
theorem sU{h:Qt}{o:QS}(c:h.get? a=on o)(w:o.data= .set e d t)(b:a0x)(s:Qx):(h.update a<|VH b s).get? a=on {o with data:= .set b (d+1) s}:=by
 have:=Rh (VH b s) c (by rw[putSet_of b s w];rfl);rw[putSet_of b s w]at this;exact this
theorem Lm{t:Qx}(T:Tb t hs)(j:Nat):(t.put j).1.dummies=#[]/\(t.put j).1.place.size=t.place.size+1/\(t.put j).2<=t.place.size:=by
 obtain⟨s,a,b3⟩:=jV (j:=j) T.rs;have w:has t.dummies j=O8:=by unfold has;rw[T.du];rfl
 refine⟨?_,gD s,s⟩;show(if has t.dummies j=O6 then _ else t.dummies)=#[];rw[w,Pd Pf,T.du]
theorem J3{w D:Type}{A:List w}{s:Array D}{f:w->D}(e:s.toList=A.map f){p:Nat}(c:p<=s.size)(x:w):(insertAt s p<|f x).toList=(A.take p++x::A.drop p).map f:=by
 unfold insertAt;simp only[Array.toList_append,Zp,Array.toList_extract];have a:(s.toList.extract 0 p)=s.toList.take p:=by simp[List.extract]
 have b:(s.toList.extract p s.size)=s.toList.drop p:=by
  simp only[List.extract];rw[R9<|by simp]
 rw[a,b,e,Qc,Pi,Wj,Uj,Q8];rfl
theorem MX{D:a0t}(hu:A.units<Uu)(S:sJ prog w s.heap a D)(hk:(jn prog w).is s.heap k b)(hn:VX D<63)
  (h:∀K q,P7 a s.heap K->sJ prog w K a q->(k∈D.map (·.1)->q=D)->(k∉D.map (·.1)->q.Perm ((k,b)::D))->Q (decide (k∉D.map (·.1))) {s with heap:=K}):
  Pq (PM prog w) A (setAddHashed a (.ref b)<|hsh prog w k) Q E s:=by
 have S0:=S;obtain⟨o,G,ep,t,U,X,V,W,af,hx,T,hp,J⟩:=S;have F:G.size=VX D:=by rw[<-Qe,W,OY]
 have hf:t.fits G.size=O6:=T.fits (by rw[OY,F]);have Y:t.place.size=VX D:=by rw[T.sz,OY]
 obtain⟨e0,ag,ah⟩:=T.free<|o7 t<|hsh prog w k;obtain⟨e,aj,hl,Z⟩:=N8 (P:=λe=>¬Lv t (e_ t e<|t.probeStart<|hsh prog w k).j) e0 ah;have ha:∀m<e,Lv t (e_ t m<|t.probeStart<|hsh prog w k).j:=λm M=>Classical.not_not.mp<|Z m M;have ak:=T.km.f5;unfold setAddHashed setAddHashedIn;refine QL<|My<|Rw U V hf ?_;have hb:byScan (Pw b) G=O8:=rfl;simp only[hb,PF,QA];refine My ?_;unfold setSearch;refine BU (e:=e) hu U V W hx T hk (by lia) hl ha (λM=>?_) (λM=>?_) e 100000 0 OZ (by lia) (by unfold turns at ag;lia) rfl (λm' ai=>PU ai<|R6 _)
 .refine O0 ?_
  have:=h s.heap D (P7.refl a s.heap) S0 (λ_=>rfl) (λz=>PU M z);rw[P8 (λz=>z M)]at this;exact this
 .have hQ:∀K q,P7 a s.heap K->sJ prog w K a q->q.Perm ((k,b)::D)->Q O6 {s with heap:=K}:=λK q h1 h2 h3=>by
   have:=h K q h1 h2 (λz=>PU z M) (λ_=>h3);rwa[Pn M]at this
  simp only;refine My<|Rw U V hf ?_;generalize hj:(e_ t e<|t.probeStart<|hsh prog w k).j=j at hl;obtain⟨pd,ps,pl⟩:=Lm T j;generalize y:t.put j=tp at pd ps pl;obtain⟨u,p⟩:=tp;simp only at pd ps pl⊢;have l:u.plain=O6:=by
   have:(t.put j).1.plain=t.plain:=rfl;rw[y]at this;rw[this,hp]
  have L:u.led=t.led:=by
   have:(t.put j).1.led=t.led:=rfl;rw[y]at this;exact this
  have v:u.mask=t.mask:=by
   have:(t.put j).1.mask=t.mask:=rfl;rw[y]at this;exact this
  rw[l];simp only[Qs];refine My<|G9 hk ?_;simp only[Qs];have N:=J3 (f:=λx:a0e×O7=>(hsh prog w x.1,Pw x.2)) W (p:=p) (by lia) (k,b);have B:(insertAt G p (hsh prog w k,Pw b)).size=G.size+1:=gD (by lia);have d:(D.take p++(k,b)::D.drop p).Perm ((k,b)::D):=by
   have:=List.perm_middle (a:=(k,b)) (l₁:=D.take p) (l₂:=D.drop p);rwa[S9]at this
  have nd1:((D.take p++(k,b)::D.drop p).map (·.1)).Nodup:=by
   refine(d.map (·.1)).nodup_iff.mpr ?_;rw[Pi,Qi];exact⟨M,af⟩
  refine My (wpAny_storeSet_of U V ?_<|by rw[B,RI];lia);have H:=Rb s.heap a<|VH (insertAt G p (hsh prog w k,Pw b)) u;have g1:=sU U V (insertAt G p (hsh prog w k,Pw b)) u;have aa:∀x∈D.take p++(k,b)::D.drop p,(jn prog w).is (s.heap.update a<|VH (insertAt G p (hsh prog w k,Pw b)) u) x.1 x.2:=λx hx'=>by
   rcases Pr.mp (d.mem_iff.mp hx')with rfl|hx'
   .exact pP hk U V H
   .exact pP (hx x hx') U V H
  by_cases r:u.tooFull=O6
  .simp only[r,Xw,TH,Qs]
   have fu:u.fill*5≥u.mask*3:=by unfold tooFull at r;exact QH r
   have fe:u.fill=VX D+1:=by unfold SetTable.fill;rw[pd,ps,Y];rfl
   have al:=T.nf;have f1:u.fits (insertAt G p (hsh prog w k,Pw b)).size=O6:=by
    unfold Xi;rw[B,fe,ps,Y,F,v];simp;lia
   have wm:Mk (sizeAbove (grown<|G.size+1)-1)/\(G.size+1)*5<(sizeAbove (grown<|G.size+1)-1)*3/\sizeAbove (grown<|G.size+1)<=128:=by
    rw[fe,v]at fu;rw[F];rcases T.km with z|z|z
    .have:VX D=4:=by lia
     rw[this];exact⟨.inr (.inl<|by decide),by decide,by decide⟩
    .have:VX D=18:=by lia
     rw[this];exact⟨.inr (.inr<|by decide),by decide,by decide⟩
    .lia
   have C:(Array.map (λx=>x.fst)<|insertAt G p (hsh prog w k,Pw b)).size=G.size+1:=by rw[Array.size_map,B]
   obtain⟨t2,c,er,op,T2,ab,I⟩:=CI (t:=u) (hs:=(insertAt G p (hsh prog w k,Pw b)).map (·.1)) (wanted:=grown<|G.size+1) wm.1 (by rw[C];exact wm.2.1);refine My ?_;unfold setRelay;refine My<|Rw g1 rfl f1 ?_;simp only;rw[Pd<|by rw[RI];lia];rw[er];generalize am:insertAt G p (hsh prog w k,Pw b)=es1 at*;generalize an:D.take p++(k,b)::D.drop p=xs1 at*;have l1:VX xs1=G.size+1:=by rw[d.length_eq,Pt,F]
   have O:∀i,i<VX xs1->es1[i]?=on (hsh prog w (xs1.getD i (k,b)).1,Pw (xs1.getD i (k,b)).2):=λi R=>by
    rw[<-S6,N,O9,O4 R,O5,O4 R];rfl
   have om:∀i∈c.toList,i<VX xs1:=λi R=>by
    have:=PN.mp<|op.mem_iff.mp R;rw[C]at this;lia
   have ac:(c.filterMap λx=>es1[x]?).toList=(c.toList.map λi=>xs1.getD i (k,b)).map λx=>(hsh prog w x.1,Pw x.2):=by
    rw[Array.toList_filterMap,wC (g:=λi=>(hsh prog w (xs1.getD i (k,b)).1,Pw (xs1.getD i (k,b)).2)) λi R=>O i<|om i R,Pp];rfl
   have n:(c.toList.map λi=>xs1.getD i (k,b)).Perm xs1:=by
    refine(op.map _).trans<|Wu ?_;rw[C,<-l1];refine RB (by simp) λi h1 h2=>?_;rw[RC,Sh,O5,O4 h2];rfl
   have ad:(c.filterMap λx=>es1[x]?).size=es1.size:=by
    rw[<-Qe,ac,OY,n.length_eq,l1,B]
   refine My ?_;show Pq _ _ (if((c.filterMap λx=>es1[x]?).size !=es1.size)=O6 then _ else _) _ _ _;rw[Pd<|by rw[ad];simp];refine O0 ?_;refine wpAny_storeSet_of g1 rfl ?_ (by rw[ad,B,RI];lia);have ae:=Rb (s.heap.update a<|VH es1 u) a<|VH (c.filterMap λx=>es1[x]?) t2;have g2:=sU g1 rfl (c.filterMap λx=>es1[x]?) t2;refine O0<|hQ _ (c.toList.map λi=>xs1.getD i (k,b)) (H.trans ae) ⟨_,_,_,t2,g2,X,rfl,ac,?_,λx hx'=>?_,?_,by rw[I,l],by rw[ab,L,J]⟩<|n.trans d
   .exact(n.map (·.1)).nodup_iff.mpr nd1
   .exact pP (aa x<|n.mem_iff.mp hx') g1 rfl ae
   .have eh:(c.toList.map λi=>xs1.getD i (k,b)).map (λx=>hsh prog w x.1)=c.toList.map λi=>(es1.map (·.1)).getD i 0:=by
     rw[Pp];refine P4 λi R=>?_;have h1:=O i<|om i R;have h2:(es1.map (·.1))[i]?=on (hsh prog w (xs1.getD i (k,b)).1):=by rw[Array.getElem?_map,h1];rfl
     have h3:=(Qo.mp h2);obtain⟨h4,h5⟩:=h3;simp only[UK];rw[<-h5];simp[Sz,h4];lia
    rw[eh];exact T2
  .simp only[r,Xw,VU,QA,S7,PF]
   refine O0<|hQ _ (D.take p++(k,b)::D.drop p) H ⟨_,_,_,u,g1,X,rfl,N,nd1,aa,?_,l,by rw[L,J]⟩ d;have nf:(t.place.size+1)*5<t.mask*3:=by
    have:¬(u.fill*5≥u.mask*3):=by
     intro z;exact r (by unfold tooFull;exact Pn z)
    unfold SetTable.fill at this;rw[pd,ps,v]at this;simp at this;lia
   have:=(T.put (h:=hsh prog w k) hl hj (by exact ha) nf).2.2.2.2;rw[y]at this;rw[Qc,Pi,Wj,Uj];exact this
end
namespace F2
theorem si_next:Slot "set_iterator" "__next__" "set_iterator.__next__":= .of (owner:="set_iterator") (n:="__next__") (by rw[Ye,Wm];kernel_rfl) (by decide +kernel) (by decide +kernel) (by decide +kernel)
  (by first|exact .inl (by decide +kernel)|exact .inr (by decide +kernel)) (by rw[Vn];kernel_rfl)
theorem si_iter:Slot "set_iterator" "__iter__" "set_iterator.__iter__":= .of (owner:="set_iterator") (n:="__iter__") (by rw[Ye,Wm];kernel_rfl) (by decide +kernel) (by decide +kernel) (by decide +kernel)
  (by first|exact .inl (by decide +kernel)|exact .inr (by decide +kernel)) (by rw[Vn];kernel_rfl)
theorem ent_next:entryFor table "set_iterator.__next__"=on Builtin.«set_iterator.__next__»:=entryFor_of_tree (by kernel_rfl)
theorem ent_iter:entryFor table "set_iterator.__iter__"=on Builtin.«dict_keyiterator.__iter__»:=YD (id':="dict_keyiterator.__iter__") (by kernel_rfl) rfl (by decide +kernel) (by kernel_rfl)
theorem ent_set_iter:entryFor table "set.__iter__"=on Builtin.«frozenset.__iter__»:=YD (id':="frozenset.__iter__") (by kernel_rfl) rfl (by decide +kernel) (by kernel_rfl)
theorem args_next(a:Pb):argsOk "set_iterator.__next__" ⟨[a],[]⟩:=by unfold argsOk;kernel_rfl
theorem args_iter(a:Pb):argsOk "set_iterator.__iter__" ⟨[a],[]⟩:=by unfold argsOk;kernel_rfl
end F2
theorem qW{w:Type}:∀{l:List w} {i:Nat} (h:i<VX l),(l[i]::l.eraseIdx i).Perm l
 |[],i,h=>PU h<|R6 i
 |a::l,0,h=> .refl _
 |a::l,i+1,h=>by
  show(l[i]'(by simpa using h)::a::l.eraseIdx i).Perm (a::l);exact(List.Perm.swap _ _ _).trans<|(qW<|by simpa using h).cons a
theorem xO{w:Type}(next:a0T):∀(fuel k:Nat) (left:List w) (a:Array w),VX left<=fuel->(Xr next fuel k left a).toList.Perm (a.toList++left)
 |0,k,left,a,h=>by
  have:left=[]:=T0.mp (by lia);subst this;unfold Xr;rw[QI]
 |fuel+1,k,left,a,h=>by
  unfold Xr;cases left with
  |nil=>simp
  |cons c d=>
   have b:next k % VX (c::d)<VX (c::d):=VG _ (by simp)
   rw[O4 b];simp only;refine(xO next fuel (k+1) _ _ (by rw[List.length_eraseIdx_of_lt b];lia)).trans ?_
   rw[Zp,Q8];exact List.Perm.append_left _<|qW b
theorem CZ{w:Type}(next:a0T)(xs:Array w):(XR next xs).toList.Perm xs.toList:=by
 unfold XR;refine(xO next xs.size 0 xs.toList #[] (by simp)).trans ?_
 simp
section
variable{prog:P6}{w:Qb}{A:Qy}{E:a0d}{s:Pe}
noncomputable def dY(w:Qb)(a:O7)(ep:Nat)(s:a0x):a0x:=if w.params.followText "set-order"=O6 then XR (w.params.setOrder a ep) s else s
theorem lC(w:Qb)(a:O7)(ep:Nat)(s:a0x):(dY w a ep s).toList.Perm s.toList:=by
 unfold dY;split
 .exact CZ _ _
 .exact .refl _
structure SIt (w:Qb) (h:Qt) (I a:O7) (es:a0x) (ep:Nat) (t:Qx) (i:Nat):Prop where
 st:∃o,h.get? a=on o/\o.data= .set es ep t
 it:∃(o:QS) (sl:Nat),h.get? I=on o/\o.cls= .type "set_iterator"/\o.data= .fields #[.int sl 0,.int i 0,.ref a,.int es.size 0,.int ep 0]/\(w.params.followText "set-order"=O8->below t.place sl=i)
theorem m8{M:WU}(h:Q (M.w.params.followText "set-order") s):Pq M A setsByText Q E s:=by
 unfold setsByText;exact My<|UC<|O0 h
theorem DO{D:a0x}{t:Qx}{e:Int×Pb}(T:Tb t Z)(h:t.fits D.size=O6)(F:t.plain=O6)(H:t.led=!(w.params.followText "set-order"))(x:SIt w s.heap I a D Y t i)(k:I≠a)(l:(dY w a Y D)[i]?=on e)
  (J:∀M,SIt w M I a D Y t (i+1)->P7 I s.heap M->Q (on e.2) {s with heap:=M}):Pq (PM prog w) A (Ul<|.ref I) Q E s:=by
 obtain⟨⟨L,b,c⟩,o,S,n,hc,G,p⟩:=id x;have u:s.TypeIs (.ref I) "set_iterator":=⟨o,n,hc⟩;unfold Ul;refine My<|T8<|wpAny_callSpecial?_slot (name:=QT "__next__") u F2.si_next<|Qr F2.si_next u F2.ent_next ?_<|F2.args_next _;unfold Builtin.«set_iterator.__next__»;refine My<|O0 ?_;refine My<|WC n G ?_;simp only;refine My<|WS b c h ?_;simp only[S8,PF,QA];refine My ?_;simp only[Ra]
 have d:∀K:Nat,(w.params.followText "set-order"=O8->below t.place K=i+1)->Pq (PM prog w) A.in1 (do
    YL (Pw I) 0 (Tq K)
    YL (Pw I) 1 (Tq<|i+1)
    ret e.2) (λd P=>∃v,d=Fin.done (Flow.ret v)/\Pq (PM prog w) A (Rz<|on v) Q E P) (λe P=>Pq (PM prog w) A (do
     if(<-Vm e (SC "StopIteration"))=O6 then Rz OZ else throw e) Q E P) s:=λK r=>by
  refine My<|Sw n G (by simp) ?_;have y:(s.heap.update I<|Vh (·.setIfInBounds 0 (Tq K))).get? I=on _:=Rh _ n<|Tc<|Q1 G _;refine My<|Sw y (Q1 G _) (by simp) ?_;refine O0 ⟨_,rfl,O0<|J _ ⟨⟨L,?_,c⟩,⟨_,K,Rh _ y<|Tc<|Q1 (Q1 G _) _,?_,?_,r⟩⟩<|(Rb ..).trans<|Rb ..⟩
  .rw[SH _ _ _ _<|Ne.symm k,SH _ _ _ _<|Ne.symm k];exact b
  .rw[WR,WR];exact hc
  .rw[Q1<|Q1 G _];simp[Tq]
 unfold setNext;refine My<|Rw b c h<|My<|m8 ?_;have B:(PM prog w).w=w:=rfl;rw[B];cases q:w.params.followText "set-order"
 .have f:dY w a Y D=D:=by unfold dY;rw[q];rfl
  rw[f]at l;have N:=p q;have U:=(Qo.mp l).1;simp only[PF,QA];have O:t.place.size=D.size:=by
   unfold Xi at h;simp only[PV,Se,P9]at h;exact h.1
  rw[Pd (λz=>by
   have C:(!t.plain&&decide (D.size>1))=O6:=z;rw[F]at C;cases C)]
  refine My ?_;show Pq _ _ (if(!t.led&&!D.isEmpty)=O6 then _ else _) _ _ _;rw[Pd<|by rw[H,q];exact Pf];refine O0<|O0 ?_;have g:t.place[i]?=on t.place[i]:=getElem?_pos t.place i (by lia);rw[N,l,g];simp only;refine d _ λ_=>?_;obtain⟨V,R,b3⟩:=jV (j:=t.place[i]+1) T.rs;rcases Tg (below t.place<|t.place[i]+1) (i+1)with z|z|z
  .have:=b3 i _ (by lia) g
   lia
  .exact z
  .have m:t.place[i+1]?=on t.place[i+1]:=getElem?_pos t.place (i+1) (by lia)
   have W:=R (i+1) _ z m;have X:=T.rs i (i+1) _ _ (by lia) g m;lia
 .have f:dY w a Y D=XR (w.params.setOrder a Y) D:=by unfold dY;rw[q];rfl
  rw[f]at l;simp only[Qs,S8,PF,QA];refine My ?_;unfold setWalk;refine My<|Rw b c h<|My<|m8 ?_;rw[B,q];simp only[Qs];refine My<|UC<|O0 ?_;refine O0 ?_;rw[show((PM prog w).w.params.setOrder a Y)=w.params.setOrder a Y from rfl,l];simp only[Rj];exact d _ λz=>by rw[q]at z;cases z
theorem Gx{D:a0x}{t:Qx}(r:A.handled=OZ)(T:Tb t H)(g:t.fits D.size=O6)(u:t.plain=O6)(y:t.led=!(w.params.followText "set-order"))(x:SIt w s.heap I a D F t D.size)
  (B:∀K,WZ I s.heap K->Q OZ {s with heap:=K}):Pq (PM prog w) A (Ul<|.ref I) Q E s:=by
 obtain⟨⟨C,d,f⟩,o,P,h,hc,M,i⟩:=id x;have l:s.TypeIs (.ref I) "set_iterator":=⟨o,h,hc⟩;unfold Ul;refine My<|T8<|wpAny_callSpecial?_slot (name:=QT "__next__") l F2.si_next<|Qr F2.si_next l F2.ent_next ?_<|F2.args_next _;unfold Builtin.«set_iterator.__next__»;refine My<|O0 ?_;refine My<|WC h M ?_;simp only;refine My<|WS d f g ?_;simp only[S8,PF,QA];refine My ?_;simp only[Ra]
 have c:Pq (PM prog w) A.in1 (do
    YL (Pw I) 2 Qn
    let e <-Z2 (SC "StopIteration") []
    (raiseNew e:Sem Fin)) (λc G=>∃v,c=Fin.done (Flow.ret v)/\Pq (PM prog w) A (Rz<|on v) Q E G) (λe G=>Pq (PM prog w) A (do
     if(<-Vm e (SC "StopIteration"))=O6 then Rz OZ else throw e) Q E G) s:=by
  refine My<|Sw h M (by simp) ?_;refine My ?_;simp only[Z2,newTuple];refine My (QP ?_<|by size_fits);refine My (m:=Uk _ _)<|TF (a:=Qn) (by first|rfl|(simp only[Uk];rfl)) ?_
  refine QP ?_ (by size_fits);simp only[raiseNew];refine My<|Zo ?_;rw[show A.in1.handled=OZ from r];refine My<|O0<|wpAny_throw ?_;refine My<|Sk (T:="StopIteration") (b:=O6) ⟨_,Px _ rfl,rfl⟩ YH ?_;exact O0<|B _<|((Rb ..).extBut.push _).push _
 unfold setNext;refine My<|Rw d f g<|My<|m8 ?_;have n:(PM prog w).w=w:=rfl;rw[n];have j:(dY w a F D).size=D.size:=by rw[<-Qe,(lC w a F D).length_eq,Qe]
 cases q:w.params.followText "set-order"
 .simp only[PF,QA]
  rw[Pd (λz=>by
   have p:(!t.plain&&decide (D.size>1))=O6:=z;rw[u]at p;cases p)]
  refine My ?_;show Pq _ _ (if(!t.led&&!D.isEmpty)=O6 then _ else _) _ _ _;rw[Pd<|by rw[y,q];exact Pf];refine O0<|O0 ?_;rw[i q,SQ<|Pg _];exact c
 .have k:dY w a F D=XR (w.params.setOrder a F) D:=by unfold dY;rw[q];rfl
  simp only[Qs,S8,PF,QA];refine My ?_;unfold setWalk;refine My<|Rw d f g<|My<|m8 ?_;rw[n,q];simp only[Qs];refine My<|UC<|O0 ?_;refine O0 ?_;rw[show((PM prog w).w.params.setOrder a F)=w.params.setOrder a F from rfl,<-k,SQ<|by rw[j];exact Pg _];exact c
theorem SIt.at{h h':Qt}(x:SIt w h I a es ep t i)(k:∀b,b=I\/b=a->∀o,h.get? b=on o->h'.get? b=on o):SIt w h' I a es ep t i:=by
 obtain⟨⟨e,c,d⟩,o,s,f,r⟩:=x;exact⟨⟨e,k a (.inr rfl) e c,d⟩,o,s,k I (.inl rfl) o f,r⟩
theorem Fw(q:A.handled=OZ){D:a0x}{t:Qx}(T:Tb t x)(l:t.fits D.size=O6)(m:t.plain=O6)(n:t.led=!(w.params.followText "set-order"))(f:I≠a):
  Walks prog w A I [I,a] [I] D.size (λi v=>∃e,(dY w a ep D)[i]?=on e/\v=e.2) (λi h=>SIt w h I a D ep t i) where
 sub:=λb c=>by simp at c;simp[c]
 frame:=λ_ _ _ G r=>G.at λb c o e=>r b (by simpa using c) o e
 item:=λi s Q E J G d=>by
  have u:(dY w a ep D).size=D.size:=by rw[<-Qe,(lC w a ep D).length_eq,Qe]
  have p:(dY w a ep D)[i]?=on (dY w a ep D)[i]:=getElem?_pos _ i (by lia);exact DO T l m n G f p λK g y=>d _ K s.toks ⟨_,p,rfl⟩ g λb o c e=>y.extBut b o (λh=>c<|by simp[h]) e
 done:=λs Q E G d=>Gx q T l m n G λK j=>d K s.toks λb o c e=>j b o (λh=>c<|by simp[h]) e
 self:=λi s Q E G d=>by
  obtain⟨⟨L,B,C⟩,o,M,F,hc,P,H⟩:=G;have k:s.TypeIs (.ref I) "set_iterator":=⟨o,F,hc⟩;refine VC k F2.si_iter<|Qr F2.si_iter k F2.ent_iter ?_<|F2.args_iter _;show Pq _ _ (ret<|.ref I) _ _ s;exact O0 ⟨_,rfl,"set_iterator",_,k,F2.si_next.lookup,d⟩
end
end L2.Hs
namespace L2.Hs
open PySem.SetTable
section
variable{prog:P6}{w:Qb}{A:Qy}{E:a0d}{s:Pe}
theorem GP{o:QS}{D:a0x}{t:Qx}(b:s.heap.get? a=on o)(hc:o.cls= .type "set")(G:o.data= .set D ep t)(c:t.fits D.size=O6)(f:t.plain=O6)
  (g:Q (.ref s.heap.objs.size) {s with heap:=s.heap.push {cls:= .type "set_iterator",data:= .fields #[.int (0:Nat) 0,.int (0:Nat) 0,.ref a,.int D.size 0,.int ep 0]}}):Pq (PM prog w) A (WB<|.ref a) Q E s:=by
 have d:s.TypeIs (.ref a) "set":=⟨o,b,hc⟩;refine VC d F.slot_set_iter<|Qr F.slot_set_iter d F2.ent_set_iter ?_<|F.args_set_iter_1 _;unfold Builtin.«frozenset.__iter__»;refine My<|TF (a:=a) rfl ?_;refine My<|My<|WS b G c<|O0 ?_;refine My ?_;unfold setDrawn;refine My<|Rw b G c<|My<|m8<|O0 ?_;rw[Pd (λz=>by
  have e:(!((PM prog w).w.params.followText "set-order")&&(!t.plain&&decide (D.size>1)))=O6:=z;rw[f]at e;simp at e)]
 refine My<|O0 ?_;refine My<|wpAny_setEpoch_of b G c ?_;unfold newFields;refine My<|QP<|O0 ⟨_,rfl,"set_iterator",_,⟨_,Px _ rfl,rfl⟩,F2.si_next.lookup,?_⟩;exact g
theorem w6{o:QS}{G:a0x}{t:Qx}(hh:A.handled=OZ)(R:s.heap.get? a=on o)(hc:o.cls= .type "set")(S:o.data= .set G ep t)(T:Tb t hs)(U:t.fits G.size=O6)(X:t.plain=O6)(hl:t.led=!(w.params.followText "set-order"))
  (aa:G.size<=1000)
  (hQ:∀P Y V,(∀b o,s.heap.get? b=on o->P.get? b=on o)->s.heap.objs.size<=P.objs.size->s.toks<=Y->V.Perm (G.toList.map (·.2))->Q V {s with heap:=P,toks:=Y}):Pq (PM prog w) A (collect<|.ref a) Q E s:=by
 unfold collect;refine My<|wpAny_runValue<|Yc F.entry_proto_collect ?_;rw[Yi F.plain_proto_collect _];show Pq _ A.in1 (newList []>>=λl=>X4<|.builtin "list.__iadd__" ⟨[l,.ref a],[]⟩) _ _ s;refine My<|QP ?_;refine O0 ⟨plainId_quiet F.plain_list_iadd _,Yc F.entry_list_iadd ?_⟩;rw[Yi F.plain_list_iadd _];have x:=PQ R;have g:(s.heap.push {cls:= .type "list",data:= .seq ([]:a0g).toArray}).get? a=on o:=O3 _ R;have B:(s.heap.push {cls:= .type "list",data:= .seq ([]:a0g).toArray}).get? s.heap.objs.size=on {cls:= .type "list",data:= .seq ([]:a0g).toArray}:=Px _ rfl;have r:s.heap.objs.size≠a:=Sd x;have y:WJ (.ref s.heap.objs.size) (.ref a)=O8:=by simp[WJ,r]
 have C:(⟨s.heap.push {cls:= .type "list",data:= .seq ([]:a0g).toArray},s.gens,s.drawn,s.toks,s.os⟩:Pe).TypeIs (.ref a) "set":=⟨o,g,hc⟩;show Pq _ A.in1 (Wg (.ref s.heap.objs.size) (.ref a)<|.ref s.heap.objs.size) _ _ _;unfold Wg;refine My<|wpAny_typeOf C ?_;rw[Pd<|by rw[y];decide];refine My<|GP g hc S U X ?_;refine My<|QL ?_;unfold Builtin.List.listLengthHint;have n:(⟨(s.heap.push {cls:= .type "list",data:= .seq ([]:a0g).toArray}).push {cls:= .type "set_iterator",data:= .fields #[.int (0:Nat) 0,.int (0:Nat) 0,.ref a,.int G.size 0,.int ep 0]},s.gens,s.drawn,s.toks,s.os⟩:Pe).TypeIs (.ref a) "set":=⟨o,O3 _ g,hc⟩;refine My (SG n F.slot_set_len.lookup ?_)
 (generalize u:("set.__len__":String)=id0;wp_delta;rw[show splitId id0=on ("set","__len__")from by subst u;decide +kernel];subst u)
 refine My<|Sk (b:=O6) n (by rw[Vn];kernel_rfl) ?_;rw[Pd<|by decide];show Pq _ _ (if _ then _ else _) _ _ _;rw[Pc<|by decide];refine My<|wpAny_typeOf n ?_;refine O0 ?_;rw[Pc<|by decide];refine My<|Tf ?_;have Z:(s.heap.push {cls:= .type "list",data:= .seq ([]:a0g).toArray}).objs.size=s.heap.objs.size+1:=by rw[size_push']
 generalize h:(s.heap.push {cls:= .type "list",data:= .seq ([]:a0g).toArray}).push {cls:= .type "set_iterator",data:= .fields #[.int (0:Nat) 0,.int (0:Nat) 0,.ref a,.int G.size 0,.int ep 0]}=d;have gS:d.get? s.heap.objs.size=on (Ts "list" #[] 0):=by rw[<-h];exact O3 _ B
 have gI:d.get? (s.heap.objs.size+1)=on {cls:= .type "set_iterator",data:= .fields #[.int (0:Nat) 0,.int (0:Nat) 0,.ref a,.int G.size 0,.int ep 0]}:=by rw[<-h,<-Z];exact Px _ rfl
 have ga:d.get? a=on o:=by rw[<-h];exact O3 _ g
 have p:∀b f,s.heap.get? b=on f->d.get? b=on f:=λb f e=>by rw[<-h];exact O3 _<|O3 _ e
 unfold Builtin.List.listTouch;refine My<|My<|VJ gS rfl ?_ (by show 0<=_;lia) (by show 1<=_;lia);obtain⟨e1,g1⟩:∃e1,(d.update s.heap.objs.size<|Rq λD=>D.push Qn).get? s.heap.objs.size=on (Ts "list" #[Qn] e1):=⟨_,get?_update_seq gS λD=>D.push Qn⟩;refine VJ g1 rfl ?_ (by show 1<=Ps;decide) (by show 0<=_;lia);obtain⟨H,g2⟩:∃H,((d.update s.heap.objs.size<|Rq λD=>D.push Qn).update s.heap.objs.size<|Rq λD=>D.pop).get? s.heap.objs.size=on (Ts "list" #[] H):=⟨_,get?_update_seq g1 λD=>D.pop⟩;have c:∀b f,b≠s.heap.objs.size->d.get? b=on f->((d.update s.heap.objs.size<|Rq λD=>D.push Qn).update s.heap.objs.size<|Rq λD=>D.pop).get? b=on f:=λb f q e=>by
  rw[SH _ _ _ _ q,SH _ _ _ _ q];exact e
 generalize (d.update s.heap.objs.size<|Rq λD=>D.push Qn).update s.heap.objs.size (Rq λD=>D.pop)=h4 at g2 c;have J:s.heap.objs.size+1≠a:=Sd<|Vd x;have st:SIt w h4 (s.heap.objs.size+1) a G ep t 0:=⟨⟨o,c a o (Ne.symm r) ga,S⟩,_,0,c _ _ (by lia) gI,rfl,rfl,λ_=>by
  have:=jV (j:=0) T.rs;rcases Ww (below t.place 0)with z|z
  .exact z
  .have e:=getElem?_pos t.place 0 (by lia)
   have:=this.2.1 0 _ z e;lia⟩
 have W:=Fw (prog:=prog) (w:=w) (A:=A.in1) (I:=s.heap.objs.size+1) (a:=a) (ep:=ep) hh T U X hl J;show Pq _ _ (X4 _) _ _ _;rw[Z];refine O0 ⟨plainId_quiet F.plain_extend_loop _,codeAny_extend_loopS W.toS (by rw[RI];lia) s.heap.objs.size (by simp;lia) _ G.size 0 _ #[] H rfl (Qk _) st g2 (ItemsOf.nil _) λK k c' M v m=>?_⟩;show Pq _ A (load s.heap.objs.size>>=_) _ _ K;refine My<|wpAny_load v ?_;refine O0 ?_;have L:K={s with heap:=K.heap,toks:=K.toks}:=by
  have y:=M.gens;have d:=M.drawn;have h3:=M.os;obtain⟨a1,a2,a3,a4,a5⟩:=K;simp only at y d h3;subst y d h3;rfl
 rw[L];refine hQ _ _ _ (λb f e=>?_) (VF<|PQ v) M.toks ?_
 .have q:=PQ e
  exact M.heap b f (by simp only[Pr,Q5,Ue,not_or];exact⟨Qm q,Qm<|Vd q⟩)<|c b f (Qm q)<|p b f e
 .refine List.Perm.trans (Wu ?_) ((lC w a ep G).map (·.2))
  have N:(dY w a ep G).size=G.size:=by rw[<-Qe,(lC w a ep G).length_eq,Qe]
  refine RB (by rw[Qe,OY,Qe,N,m.1]) λi q1 q2=>?_;have O:i<k.size:=by simpa using q1
  obtain⟨e,he,hv⟩:=m.2 i _<|getElem?_pos k i O;rw[Uh,hv,RC,Uh];have:=Qo.mp he;obtain⟨z1,z2⟩:=this;rw[z2]
end
end L2.Hs
namespace L2.Hs
open PySem.W
section
variable{c β:Type}{lt:Nat->Nat->Bool}{n:Nat}
def Rn(lt:Nat->Nat->Bool)(n:Nat):KasT c->(c->Prop)->Prop
 | .ret a,Φ=>Φ a
 | .ask i j k,Φ=>i<n/\j<n/\Rn lt n (k<|lt i j) Φ
theorem Rn.bind{Φ:β->Prop}:∀{t:KasT c},Rn lt n t (λa=>Rn lt n (f a) Φ)->Rn lt n (t.bind f) Φ
 | .ret a,h=>h
 | .ask i j k,⟨h1,h2,h3⟩=>⟨h1,h2,Rn.bind h3⟩
theorem Rn.mono{Φ Ψ:c->Prop}(b:∀a,Φ a->Ψ a):∀{t:KasT c},Rn lt n t Φ->Rn lt n t Ψ
 | .ret a,h=>b a h
 | .ask i j k,⟨h1,h2,h3⟩=>⟨h1,h2,Rn.mono b h3⟩
theorem Rn.wp{Φ:c->Prop}(hc:∀i j,i<n->j<n->∀C:Bool->Pe->Prop,C (lt i j) s->cmp i j C s)(b:∀a,Φ a->Q a s):∀{t:KasT c},Rn lt n t Φ->t.kasWp cmp Q s
 | .ret a,h=>b a h
 | .ask i j k,⟨h1,h2,h3⟩=>hc i j h1 h2 _<|Rn.wp hc b h3
end
section
variable{B:a0T}{n:Nat}
noncomputable abbrev sA(B:a0T)(i j:Nat):Bool:=decide (B i<B j)
noncomputable abbrev ky(B:a0T)(p:a0y)(i:Nat):Nat:=B<|p.getD i 0
structure Pm (B:a0T) (n:Nat) (p:a0y):Prop where
 perm:p.toList.Perm (Ph n)
 inj:∀i j,i<n->j<n->B i=B j->i=j
theorem Pm.sz{p:a0y}(h:Pm B n p):p.size=n:=by have:=h.perm.length_eq;simpa using this
theorem Pm.lt{p:a0y}(h:Pm B n p)(a:i<n):p.getD i 0<n:=by
 have w:=h.sz;have e:p.getD i 0=p[i]:=by simp[Sz,show i<p.size by lia]
 rw[e];exact PN.mp (h.perm.mem_iff.mp<|by simp)
theorem Pm.ne(h:Pm B n p)(a:i<j)(b:j<n):ky B p i≠ky B p j:=λz=>by
 have D:=h.sz;have:=h.inj _ _ (h.lt (show i<n by lia)) (h.lt b) z;have w:p.toList.Nodup:=h.perm.nodup_iff.mpr Vr;have c:p.getD i 0=p.toList[i]'(by simp;lia):=by simp[Sz,show i<p.size by lia]
 have d:p.getD j 0=p.toList[j]'(by simp;lia):=by simp[Sz,show j<p.size by lia]
 rw[c,d]at this;exact PU this<|Sm.mp w i j (by simp;lia) (by simp;lia) a
theorem Pm.of{p q:a0y}(h:Pm B n p)(a:q.Perm p):Pm B n q:=⟨(Array.perm_iff_toList_perm.mp a).trans h.perm,h.inj⟩
def So(B:a0T)(p:a0y)(k:Nat):Prop:=∀i j,i<j->j<k->ky B p i<ky B p j
def De(B:a0T)(p:a0y)(k:Nat):Prop:=∀i j,i<j->j<k->ky B p j<ky B p i
theorem So.succ(h:So B p k)(c:1<=k)(b:ky B p (k-1)<ky B p k):So B p (k+1):=λi j a d=>by
 by_cases q:j=k
 .subst q
  by_cases z:i=j-1
  .subst z;exact b
  .exact UF (h i (j-1) (by lia)<|by lia) b
 .exact h i j a (by lia)
theorem De.succ(h:De B p k)(c:1<=k)(b:ky B p k<ky B p (k-1)):De B p (k+1):=λi j a d=>by
 by_cases q:j=k
 .subst q
  by_cases z:i=j-1
  .subst z;exact b
  .exact UF b (h i (j-1) (by lia)<|by lia)
 .exact h i j a (by lia)
theorem wV(P:Pm B n p):∀(f k:Nat),1<=k->k+f<=n->So B p k->Rn (sA B) n (kas_asc p f k) λm=>k<=m/\m<=k+f/\So B p m/\(m=k+f\/ky B p m<ky B p (m-1))
 |0,k,_,_,h=>⟨Pg k,Pg _,h,.inl rfl⟩
 |f+1,k,h1,h2,h=>by
  refine⟨P.lt (by lia),P.lt (by lia),?_⟩;by_cases q:ky B p k<ky B p (k-1)
  .rw[show sA B (p.getD k 0) (p.getD (k-1) 0)=O6 from Pn q];dsimp only;rw[Pc rfl]
   exact⟨Pg k,by lia,h,.inr q⟩
  .rw[show sA B (p.getD k 0) (p.getD (k-1) 0)=O8 from P8 q];dsimp only;rw[Pd Pf]
   have:=P.ne (show k-1<k by lia) (show k<n by lia);refine Rn.mono (λm w=>?_) (wV P f (k+1) (by lia) (by lia)<|h.succ h1<|by lia);exact⟨by lia,by lia,w.2.2.1,by rcases w.2.2.2 with z|z;exact .inl (by lia);exact .inr z⟩
theorem yj(P:Pm B n p):∀(f k:Nat),1<=k->k+f<=n->De B p k->Rn (sA B) n (kas_desc f p k 0) λr=>r.1=p/\r.2.2=0/\k<=r.2.1/\r.2.1<=k+f/\De B p r.2.1
 |0,k,_,_,h=>⟨rfl,rfl,Pg k,Pg _,h⟩
 |f+1,k,h1,h2,h=>by
  refine⟨P.lt (by lia),P.lt (by lia),?_⟩;by_cases q:ky B p k<ky B p (k-1)
  .rw[show sA B (p.getD k 0) (p.getD (k-1) 0)=O6 from Pn q];dsimp only;rw[Pc rfl,Pd<|Qw 0]
   refine Rn.mono (λm w=>?_)<|yj P f (k+1) (by lia) (by lia)<|h.succ h1 q;exact⟨w.1,w.2.1,by have:=w.2.2.1;lia,by have:=w.2.2.2.1;lia,w.2.2.2.2⟩
  .rw[show sA B (p.getD k 0) (p.getD (k-1) 0)=O8 from P8 q];dsimp only;rw[Pd Pf]
   have:=P.ne (show k-1<k by lia) (show k<n by lia);refine⟨P.lt (by lia),P.lt (by lia),?_⟩;rw[show sA B (p.getD (k-1) 0) (p.getD k 0)=O6 from Pn (show ky B p (k-1)<ky B p k by lia)];dsimp only;rw[Pc rfl];exact⟨rfl,rfl,Pg k,by show k<=_;lia,h⟩
theorem yd{p q:a0y}(h:p[i]?=q[j]?):p.getD i 0=q.getD j 0:=by
 have a:∀(r:a0y) (x:Nat),r.getD x 0=(r[x]?).getD 0:=λr x=>by
  by_cases b:x<r.size
  .simp[Sz,b]
  .simp[Sz,b]
 rw[a,a,h]
theorem Le{p:a0y}(a:k<=p.size)(h:De B p k):So B (kas_rev p 0 k) k:=λi j b c=>by
 have g:∀x,x<k->(kas_rev p 0 k).getD x 0=p.getD (k-1-x) 0:=λx d=>by
  refine yd ?_;unfold kas_rev;rw[getElem?_mirror_all a,Pc<|by lia];congr 1;lia
 show B _<B _;rw[g i (by lia),g j c];exact h (k-1-j) (k-1-i) (by lia) (by lia)
theorem FG(P:Pm B n p)(b:1<=k)(c:k<=n)(h:De B p k):Rn (sA B) n (kas_tail3 k n p) λr=>Pm B n r.2/\1<=r.1/\r.1<=n/\So B r.2 r.1:=by
 have a:Pm B n (kas_rev p 0 k):=P.of<|mirror_perm _ _ _ _;unfold kas_tail3;refine Rn.bind<|Rn.mono (λm w=>?_)<|wV a (n-k) k b (by lia)<|Le (by rw[P.sz];exact c) h;exact⟨a,by lia,by lia,w.2.2.1⟩
theorem G5(P:Pm B n p)(e:1<=n):Rn (sA B) n (kas_count n p) λr=>Pm B n r.2/\1<=r.1/\r.1<=n/\So B r.2 r.1:=by
 unfold kas_count;refine Rn.bind (Rn.mono (λm E=>?_)<|wV P (n-1) 1 (Pg 1) (by lia) λi j a b=>by lia);obtain⟨M,S,w,G⟩:=E;by_cases q:m=n
 .rw[Pc<|by rw[Se];exact q]
  exact⟨P,by lia,by lia,w⟩
 .rw[Pd<|by rw[Se];exact q]
  have K:ky B p m<ky B p (m-1):=by
   rcases G with z|z
   .lia
   .exact z
  by_cases D:m>1
  .rw[Pc D]
   refine⟨P.lt (by lia),P.lt (by lia),?_⟩;rw[show sA B (p.getD 0 0) (p.getD (m-1) 0)=O6 from Pn (w 0 (m-1) (by lia)<|by lia)];dsimp only;rw[Pc rfl];exact⟨P,by lia,by lia,w⟩
  .rw[Pd D]
   obtain rfl:m=1:=by lia
   unfold kas_descPart;refine Rn.bind<|Rn.mono (λr c=>?_) (yj P (n-(1+1)) (1+1) (by lia) (by lia) λi j a b=>by
    obtain rfl:j=1:=by lia
    obtain rfl:i=0:=by lia
    exact K)
   obtain⟨rfl,f,b3,g,d⟩:=c;rw[Pd<|by lia];exact FG P (by lia) (by lia) d
theorem jE{p:a0y}{k:Nat}(P:Pm B n p)(a:k<n):∀(f l r:Nat),l<=r->r<=k->r-l<=f->(∀i,i<l->ky B p i<ky B p k)->(∀i,r<=i->i<k->ky B p k<ky B p i)->So B p k->
  Rn (sA B) n (kas_place p k f l r) λm=>m<=k/\(∀i,i<m->ky B p i<ky B p k)/\∀i,m<=i->i<k->ky B p k<ky B p i
 |0,l,r,h1,h2,h3,ha,hb,_=>by
  obtain rfl:l=r:=by lia
  exact⟨h2,ha,hb⟩
 |f+1,l,r,h1,h2,h3,ha,hb,so=>by
  unfold kas_place;by_cases q:l≥r
  .rw[Pc q]
   obtain rfl:l=r:=by lia
   exact⟨h2,ha,hb⟩
  .rw[Pd q]
   refine⟨P.lt (by lia),P.lt (by lia),?_⟩;by_cases z:ky B p k<ky B p ((l+r)/2)
   .rw[show sA B (p.getD k 0) (p.getD ((l+r)/2) 0)=O6 from Pn z];dsimp only;rw[Pc rfl]
    refine jE P a f l ((l+r)/2) (by lia) (by lia) (by lia) ha (λi c b=>?_) so;by_cases w:i=(l+r)/2
    .subst w;exact z
    .exact UF z (so _ i (by lia) b)
   .rw[show sA B (p.getD k 0) (p.getD ((l+r)/2) 0)=O8 from P8 z];dsimp only;rw[Pd Pf]
    have d:=P.ne (show(l+r)/2<k by lia) a;refine jE P a f ((l+r)/2+1) r (by lia) h2 (by lia) (λi c=>?_) hb so;by_cases w:i=(l+r)/2
    .subst w;lia
    .exact UF (so i ((l+r)/2) (by lia)<|by lia) (by lia)
theorem Ff:∀(f:Nat) {p:a0y} {k:Nat},Pm B n p->k+f=n->So B p k->Rn (sA B) n (kas_bin f p k) λD=>Pm B n D/\So B D n
 |0,p,k,P,hk,so=>⟨P,by rw[<-hk];exact so⟩
 |f+1,p,k,P,hk,so=>by
  unfold kas_bin;refine Rn.bind<|Rn.mono (λm G=>?_)<|jE P (by lia) k 0 k (Qk _) (Pg _) (by lia) (λi e=>PU e<|R6 i) (λi h b=>by lia) so;obtain⟨h,b,l⟩:=G;have o:Pm B n (bubble p k<|k-m):=P.of<|bubble_perm _ _ _;refine Ff f o (by lia) λi j a r=>?_;have K:k<p.size:=by rw[P.sz];lia
  have g:∀x:Nat,(bubble p k<|k-m).getD x 0=p.getD (if x=m then k else if m<x/\x<=k then x-1 else x) 0:=λx=>by
   refine yd ?_;rw[getElem?_bubble K (k-m)<|by lia];by_cases q:x=m
   .rw[Pc (by lia),Pc q]
   .rw[Pd (by lia),Pd q]
    by_cases w:m<x/\x<=k
    .rw[Pc (by lia),Pc w]
    .rw[Pd (by lia),Pd w]
  show B _<B _;rw[g i,g j];by_cases E:i=m
  .rw[Pc E,Pd (by lia),Pc<|by lia]
   exact l (j-1) (by lia) (by lia)
  .rw[Pd E]
   by_cases w:j=m
   .rw[Pc w,Pd<|by lia]
    exact b i (by lia)
   .rw[Pd w]
    by_cases c:m<i/\i<=k
    .rw[Pc c,Pc<|by lia]
     exact so (i-1) (j-1) (by lia) (by lia)
    .rw[Pd c]
     by_cases d:m<j/\j<=k
     .rw[Pc d]
      exact so i (j-1) (by lia) (by lia)
     .rw[Pd d]
      exact so i j a (by lia)
theorem Je(a:1<=n)(w:∀i j,i<n->j<n->B i=B j->i=j):Rn (sA B) n (kas_sort n) λp=>Pm B n p/\So B p n:=by
 unfold kas_sort;have P:Pm B n (List.toArray<|Ph n):=⟨.refl _,w⟩;refine Rn.bind<|Rn.mono (λr b=>?_)<|G5 P a;obtain⟨D,G,K,E⟩:=b;by_cases q:r.1<n
 .rw[Pc q,Nat.max_eq_left G]
  exact Ff _ D (by lia) E
 .rw[Pd q]
  obtain rfl:r.1=n:=by lia
  exact⟨D,E⟩
noncomputable def cR:a0e->a0e->Bool
 |[],[]=>O8
 |[],_::_=>O6
 |_::_,[]=>O8
 |a::as,b::bs=>if a=b then cR as bs else decide (a<b)
theorem jf:∀x,cR x x=O8
 |[]=>rfl
 |a::as=>by unfold cR;rw[Pc rfl];exact jf as
theorem qA:∀{x y z},cR x y=O6->cR y z=O6->cR x z=O6
 |[],[],_,h,_=>by cases h
 |[],_::_,[],_,h=>by cases h
 |[],_::_,_::_,_,_=>rfl
 |_::_,[],_,h,_=>by cases h
 |_::_,_::_,[],_,h=>by cases h
 |a::as,b::bs,c::cs,h1,h2=>by
  unfold cR at h1 h2⊢;by_cases w:a=b
  .rw[Pc w]at h1
   by_cases n:b=c
   .rw[Pc n]at h2
    rw[Pc<|w.trans n];exact qA h1 h2
   .rw[Pd n]at h2
    rw[Pd (by rw[w];exact n),w];exact h2
  .rw[Pd w]at h1
   have B:=QH h1;by_cases n:b=c
   .rw[Pd (by rw[<-n];exact w),<-n];exact h1
   .rw[Pd n]at h2
    have d:=QH h2;rw[Pd<|by lia];exact Pn (by lia)
theorem n9:∀{x y},cR x y=O8->cR y x=O8->x=y
 |[],[],_,_=>rfl
 |[],_::_,h,_=>by cases h
 |_::_,[],_,h=>by cases h
 |a::as,b::bs,h1,h2=>by
  unfold cR at h1 h2;by_cases q:a=b
  .rw[Pc q]at h1
   rw[Pc q.symm]at h2;rw[q,n9 h1 h2]
  .rw[Pd q]at h1
   rw[Pd<|Ne.symm q]at h2;have:=V8 h1;have:=V8 h2;lia
theorem wR:∀{L:a0a},(∀l∈L,p l=O6->q l=O6)->∀{i},i∈L->p i=O8->q i=O6->L.countP p<L.countP q
 |[],_,i,h,_,_=>by cases h
 |a::L,hpq,i,hi,h1,h2=>by
  have n:L.countP p<=L.countP q:=List.countP_mono_left λl b=>hpq l<|O1 a b;rcases Pr.mp hi with rfl|hi
  .rw[List.countP_cons_of_neg (by rw[h1];exact Pf),List.countP_cons_of_pos h2]
   lia
  .have ih:=wR (λl b=>hpq l<|O1 a b) hi h1 h2
   rw[List.countP_cons,List.countP_cons];have:(if p a=O6 then 1 else 0)<=(if q a=O6 then 1 else 0):=by
    by_cases z:p a=O6
    .rw[Pc z,Pc<|hpq a Pa z];exact Pg 1
    .rw[Pd z];exact Qk _
   lia
def iK(ks:LI)(i:Nat):Nat:=(Ph<|VX ks).countP λj=>cR (ks.getD j [])<|ks.getD i []
theorem uA{n:LI}(a:i<VX n)(h:cR (n.getD i []) (n.getD j [])=O6):iK n i<iK n j:=
 wR (λl _ b=>qA b h) (PN.mpr a) (jf _) h
theorem CG{ks:LI}(b:i<VX ks)(c:j<VX ks):decide (iK ks i<iK ks j)=cR (ks.getD i []) (ks.getD j []):=by
 cases h:cR (ks.getD i []) (ks.getD j [])with
 |true=>exact Pn<|uA b h
 |false=>
  refine P8 λz=>?_;cases a:cR (ks.getD j []) (ks.getD i [])with
  |true=>have:=uA c a;lia
  |false=>
   have e:=n9 h a;unfold iK at z;rw[e]at z;exact Qw _ z
theorem Lc{ks:LI}(n:ks.Nodup)(a:i<VX ks)(b:j<VX ks)(h:iK ks i=iK ks j):i=j:=by
 have e:ks.getD i []=ks.getD j []:=by
  refine n9 ?_ ?_
  .cases z:cR (ks.getD i []) (ks.getD j [])with
   |false=>rfl
   |true=>have:=uA a z;lia
  .cases z:cR (ks.getD j []) (ks.getD i [])with
   |false=>rfl
   |true=>have:=uA b z;lia
 rw[O5,O5,O4 a,O4 b]at e;have c:ks[i]=ks[j]:=e;rcases Tg i j with z|z|z
 .exact PU c (Sm.mp n i j a b z)
 .exact z
 .exact PU c.symm (Sm.mp n j i b a z)
abbrev Up(l:LI):Prop:=l.Pairwise λa b=>cR a b=O6
theorem yE:∀{l m:LI},Up l->Up m->(∀x,x∈l↔x∈m)->l=m
 |[],[],_,_,_=>rfl
 |[],b::m,_,_,h=>by have:=(h b).mpr Pa;cases this
 |a::l,[],_,_,h=>by have:=(h a).mp Pa;cases this
 |a::l,b::m,h1,h2,h=>by
  obtain⟨d,f⟩:=TV.mp h1;obtain⟨n,B⟩:=TV.mp h2;have e:a=b:=by
   rcases Pr.mp ((h a).mp Pa)with z|z
   .exact z
   .rcases Pr.mp ((h b).mpr Pa)with w|w
    .exact w.symm
    .have:=qA (n a z)<|d b w
     rw[jf]at this;cases this
  subst e;congr 1;refine yE f B λx=>⟨λc=>?_,λc=>?_⟩
  .rcases Pr.mp ((h x).mp<|O1 a c)with rfl|z
   .have:=d x c;rw[jf]at this;cases this
   .exact z
  .rcases Pr.mp ((h x).mpr<|O1 a c)with rfl|z
   .have:=n x c;rw[jf]at this;cases this
   .exact z
variable{aa:P6}{w:Qb}{A:Qy}{E:a0d}{s:Pe}
theorem x4{b:Bool}:∀{G E:a0e} {B D:a0g} (i:Nat),ItemsAre (V7 aa w) G B->ItemsAre (V7 aa w) E D->∀n m:Nat,(decide (n+VX B<m+VX D)=decide (VX G<VX E))->Q (cR G E) s->KatLex aa w A O6 (decide (n+VX B<m+VX D)) Q (B.zip D) i s
 |[],E,B,D,i,hx,hy,n,m,e,q=>by
  cases hx;cases hy with
  |nil=>rw[WM];exact kat_nil (by rw[e];exact q)
  |cons c d=>rw[WM];exact kat_nil (by rw[e];exact q)
 |x::G,E,B,D,i,hx,hy,n,m,e,q=>by
  cases hx with
  |@cons _ u _ us' c d=>
   cases hy with
   |nil=>rw[List.zip_nil_right];exact kat_nil (by rw[e];exact q)
   |@cons y v ys' vs' h3 h4=>
    obtain⟨g,rfl⟩:=Wx c;obtain⟨h,rfl⟩:=Wx h3;rw[Rl];refine kat_cons<|wpAny_eqBool_int ?_;unfold cR at q;by_cases z:x=y
    .rw[Pc z]at q
     rw[show(x==y)=O6 by rw[Se];exact z];refine kat_yes ?_;have f:∀k l:Nat,decide (k+(VX us'+1)<l+(VX vs'+1))=decide (k+1+VX us'<l+1+VX vs'):=λk l=>decide_eq_decide.mpr (by lia);rw[Pt,Pt,f];refine x4 (b:=b) (i+1) d h4 (n+1) (m+1) ?_ q;rw[<-f,<-Pt (a:=Tp x g),<-Pt (a:=Tp y h),e,Pt,Pt];exact decide_eq_decide.mpr (by lia)
    .rw[Pd z]at q
     rw[show(x==y)=O8 by rw[Yb];exact z];refine kat_no ?_;cases j:(O6&&i==0)with
     |true=>exact oneLt_int q
     |false=>exact kat_one _ _<|lt_int (show PySem.W.BoolBack Q (.bool _) s from q)
theorem L8(i:(jn aa w).is s.heap t x)(j:(jn aa w).is s.heap u y)(h:Q (cR t u) s):Pq (PM aa w) A (keyLt' (tuples' O6) (.ref x)<|.ref y) Q E s:=by
 obtain⟨m,o,p,d,k,e,a⟩:=i;obtain⟨o2,q,r,f,l,g,c⟩:=j;refine kat_lt d e f g ?_;have:=x4 (A:=A) (b:=O6) (Q:=Q) (s:=s) 0 a c 0 0 (by rw[Qu,Qu,a.length,c.length]) h;rw[Qu,Qu,Qe,Qe]at this;exact this
structure Srb (aa:P6) (w:Qb) (A:Qy) (is:Qt->a0e->O7->Prop):Prop where
 fr:∀{h h':Qt} {k:a0e} {x:O7},is h k x->(∀b o,o.cls= .type "tuple"->h.get? b=on o->h'.get? b=on o)->is h' k x
 tup:∀{h:Qt} {k:a0e} {x:O7},is h k x->∃o its n i t,h.get? x=on o/\o.cls= .type "tuple"/\o.data= .seq its n/\its[0]?=on (.int i t)
 lt:∀{E:a0d} {s:Pe} {Q:Bool->Pe->Prop} {x y:O7} {xs ys:a0e},is s.heap xs x->is s.heap ys y->Q (cR xs ys) s->Pq (PM aa w) A (keyLt' (tuples' O6) (.ref x)<|.ref y) Q E s
theorem xm(S:Srb aa w A is):∀{ks:a0t},(∀k∈ks,is s.heap k.1 k.2)->∃B:a0g,KatTups s.heap (ks.map λk=>Pw k.2) B/\VX B=VX ks/\∀v∈B,∃n t,v=Tp n t
 |[],_=>⟨[],trivial,rfl,λv hv=>by cases hv⟩
 |k::ks,h=>by
  obtain⟨B,a,b,c⟩:=xm S λd f=>h d<|O1 k f;obtain⟨o,D,n,i,t,g,hc,E,e⟩:=S.tup<|h k Pa;refine⟨_::B,KatTups.cons g hc E e a,by rw[Pt,Pt,b],λv hv=>?_⟩;rcases Pr.mp hv with rfl|hv
  .exact⟨i,t,rfl⟩
  .exact c v hv
abbrev isI(aa:P6)(w:Qb)(h:Qt)(k:a0e)(x:O7):Prop:=(jn aa w).is h k x/\1<=VX k
theorem NA:Srb aa w A (isI aa w) where
 fr:=λ⟨⟨o,s,n,d,b,f,c⟩,l⟩ k=>⟨⟨o,s,n,k _ _ b d,b,f,c⟩,l⟩
 tup:=λ⟨⟨o,s,n,d,b,f,c⟩,l⟩=>by
  have a:=c.length;have g:0<s.size:=by rw[<-Qe,<-a];lia
  obtain⟨i,t,e⟩:=items_int c s[0] (by rw[<-Uh];exact Qd _);exact⟨o,s,n,i,t,d,b,f,by rw[getElem?_pos s 0 g,e]⟩
 lt:=λj m h=>L8 j.1 m.1 h
theorem BR(S:Srb aa w A is){ks:a0t}{n:Nat}{P:Vk->Pe->Prop}(L:s.heap.get? a=on (Ts "list" (ks.map λk=>Pw k.2).toArray n))(hk:∀k∈ks,is s.heap k.1 k.2)(nd:(ks.map (·.1)).Nodup)(ae:VX ks<64)
  (h:∀(M:Qt) (l:a0t) (n':Nat),l.Perm ks->Up (l.map (·.1))->M.get? a=on (Ts "list" (l.map λk=>Pw k.2).toArray n')->(∀b o,b≠a->s.heap.get? b=on o->M.get? b=on o)->P (.done<|.ret .none) {s with heap:=M}):
  Pq (PM aa w) A (Builtin.«list.sort» ⟨[.ref a],[]⟩) P E s:=by
 have ha:a<s.heap.objs.size:=PQ L;rw[list_sort_plain];refine My<|listItems_at L rfl ?_;refine My (VJ L rfl ?_ (by simp[RI];lia)<|by simp);obtain⟨B,N⟩:∃B,(s.heap.update a<|Rq λ_=>#[]).get? a=on (Ts "list" #[] B):=⟨_,get?_update_seq L (λ_=>#[])⟩;refine My<|seqEpoch_at N rfl ?_;refine My (WF ?_<|by simp[RI];lia);refine My<|wpAny_newList ?_<|Qk _;refine QL ?_;generalize m:(ks.map λk=>Pw k.2)=vs at*;have q:VX vs=VX ks:=by rw[<-m,OY]
 have d:(((s.heap.update a<|Rq λ_=>#[]).push<|Ts "tuple" vs.toArray 0).push<|Ts "list" #[] 0).get? a=on (Ts "list" #[] B):=by
  rw[ZM _ _ _ (by rw[size_push',Heap.size_update];exact Qm<|Vd ha),ZM _ _ _<|by rw[Heap.size_update];exact Qm ha];exact N
 have D:∀b o,b≠a->s.heap.get? b=on o->(((s.heap.update a<|Rq λ_=>#[]).push<|Ts "tuple" vs.toArray 0).push<|Ts "list" #[] 0).get? b=on o:=λb o F e=>by
  refine O3 _<|O3 _ ?_;rw[SH _ _ _ _ F];exact e
 show Pq (PM aa w) A _ P E {s with heap:=((s.heap.update a<|Rq λ_=>#[]).push<|Ts "tuple" vs.toArray 0).push (Ts "list" #[] 0)};generalize af:((s.heap.update a<|Rq λ_=>#[]).push<|Ts "tuple" vs.toArray 0).push (Ts "list" #[] 0)=h6 at d D
 dsimp only
 have O:∀(l:a0t) (u:a0I),l.Perm ks->Up (l.map (·.1))->u=(l.map λk=>Pw k.2).toArray->P (.done<|.ret .none) {s with heap:=h6.update a (Rq λ_=>u)}:=λl u p1 p2 e=>by
  refine h _ l _ p1 p2 (by rw[<-e];exact get?_update_seq d λ_=>u) λb o F W=>?_;rw[SH _ _ _ _ F];exact D b o F W
 by_cases I:vs.toArray.size<2
 .rw[Pc I,Pc I]
  refine My<|O0 ?_;rw[StateT.run_pure];refine My<|O0 ?_
  dsimp only
  refine My<|seqEpoch_at d rfl ?_;have X:((arrOf<|SortSt.mk' general' (vs.toArray.zip vs.toArray) #[] 7 OZ).map (·.2))=vs.toArray:=by
   show(vs.toArray.zip vs.toArray).map (·.2)=_;apply Array.toList_inj.mp;rw[Array.toList_map,Array.toList_zip];exact List.map_snd_zip<|Pg _
  rw[X];refine My (VJ d rfl ?_ (by simp)<|by simp[RI];lia);simp only[S8,PF,QA];refine O0 (O ks _ (.refl _) ?_<|by rw[m]);have Y:VX ks<2:=by rw[<-q];simpa using I
  match ks,Y with
  |[],_=>exact VE
  |[k],_=>exact RF _ _
  |_::_::_,Y=>simp at Y;lia
 .rw[Pd I,Pd I]
  have ag:2<=VX ks:=by rw[<-q];simp at I;lia
  have H:∀k∈ks,is h6 k.1 k.2:=λk Z=>S.fr (hk k Z) λb o hc F=>D b o (λz=>by
   subst z;rw[L]at F;cases F;exact PU (SC.inj hc)<|by decide) F
  obtain⟨fs,t1,t2,t3⟩:=xm S (s:={s with heap:=h6}) H;rw[m]at t1;refine My<|kat_kind (T:= .type "int") t1 (by lia) (λv hv=>?_) rfl ?_
  .obtain⟨x,t,rfl⟩:=t3 v hv
   exact Looks.of_pure rfl
  show Pq _ _ (StateT.run sortRuns' (SortSt.mk' (tuples' O6) (vs.toArray.zip vs.toArray) #[] 7 OZ)>>=_) _ _ _;have J:VX (ks.map (·.1))=VX vs:=by rw[OY,q]
  have at_:∀i,i<VX vs->∃k∈ks,vs.getD i Qn= .ref k.2/\(ks.map (·.1)).getD i []=k.1/\ks[i]?=on k:=λi c=>by
   have f:i<VX ks:=by lia
   refine⟨ks[i],Qd f,?_,?_,O4 f⟩
   .rw[<-m,O5,O9,O4 f];rfl
   .rw[O5,O9,O4 f];rfl
  refine My<|Qj (kat_run (κ:=tuples' O6) (ks:=vs) (vs:=vs) (Q:=λg K=>K={s with heap:=h6}/\failedOf g=OZ/\∃p:a0y,Pm (iK<|ks.map (·.1)) (VX vs) p/\So (iK<|ks.map (·.1)) p (VX vs)/\arrOf g=p.map (kas_item<|vs.toArray.zip vs.toArray))
   (G:=λp K=>K={s with heap:=h6}/\Pm (iK<|ks.map (·.1)) (VX vs) p/\So (iK<|ks.map (·.1)) p (VX vs)) rfl (by lia) (by lia) (λp g K a1 a2 a3 V=>⟨V.1,a3,p,V.2.1,V.2.2,a2⟩)
   (Rn.wp (lt:=sA<|iK<|ks.map (·.1)) (n:=VX vs) (λi j c y C hC=>?_) (λp hp=>⟨rfl,hp⟩)<|Je (by lia) λi j c y hr=>Lc nd (by rw[J];exact c) (by rw[J];exact y) hr)) (λr K hr=>?_) λ_ _ e=>e
  .obtain⟨k1,m1,B,f1,_⟩:=at_ i c
   obtain⟨k2,m2,e2,f2,_⟩:=at_ j y;unfold kas_ask;rw[B,e2];refine S.lt (H k1 m1) (H k2 m2) ?_;have:=CG (ks:=ks.map (·.1)) (i:=i) (j:=j) (by rw[J];exact c) (by rw[J];exact y);rw[f1,f2]at this;rw[<-this];exact hC
  .obtain⟨⟨⟩,g⟩:=r
   obtain⟨rfl,hf,p,P1,so,ab⟩:=hr
   dsimp only
   have X:(arrOf g).map (·.2)=(p.toList.map λi=>vs.getD i Qn).toArray:=kat_snds rfl ab;have R:=P1.sz;rw[X];refine My<|seqEpoch_at d rfl ?_;refine My (VJ d rfl ?_ (by simp)<|by simp[RI];lia);rw[hf];simp only[S8,PF,QA];have U:∀i∈p.toList,i<VX vs:=λi c=>PN.mp<|P1.perm.mem_iff.mp c;refine O0<|O (p.toList.map λi=>ks.getD i ([],0)) _ ?_ ?_ ?_
   .refine(P1.perm.map _).trans (Wu ?_)
    rw[q];refine RB (by simp) λi q1 q2=>?_;rw[RC,Sh,O5,O4 q2];rfl
   .rw[Pp]
    unfold Up;rw[U4];refine Sm.mpr λi j c y ac=>?_;have f:i<VX vs:=by simpa[R]using c
    have ad:j<VX vs:=by simpa[R]using y
    have gd:∀x (hx:x<VX p.toList),p.getD x 0=p.toList[x]:=λx hx=>by
     have:x<p.size:=by simpa using hx
     simp[Sz,this]
    have z:=so i j ac ad;unfold ky at z;rw[gd i c,gd j y]at z;obtain⟨k1,m1,B,f1,g1⟩:=at_ p.toList[i]<|U _<|Qd c;obtain⟨k2,m2,e2,f2,g2⟩:=at_ p.toList[j]<|U _<|Qd y;have:=CG (ks:=ks.map (·.1)) (i:=p.toList[i]) (j:=p.toList[j]) (by rw[J];exact U _<|Qd c) (by rw[J];exact U _<|Qd y);rw[Pn z,f1,f2]at this;simp only[UK];rw[O5,O5,g1,g2];exact this.symm
   .rw[Pp]
    congr 1;refine P4 λi c=>?_;obtain⟨k1,m1,B,f1,g1⟩:=at_ i<|U i c;rw[B];simp only[UK];rw[O5,g1];rfl
theorem Gf{w A:Type}{f:w->A}{B g:List A}(p:B.Perm g):∀{n:List w},g=n.map f->∃s:List w,s.Perm n/\B=s.map f:=by
 induction p with
 |nil=>
  intro n e;cases n with
  |nil=>exact⟨[],.refl _,rfl⟩
  |cons _ _=>cases e
 |cons x _ D=>
  intro n e;cases n with
  |nil=>cases e
  |cons a n=>
   cases e;obtain⟨s,c,d⟩:=D rfl;exact⟨a::s,c.cons a,by rw[d];rfl⟩
 |swap x y l=>
  intro n e
  match n,e with
  |[],e=>cases e
  |[_],e=>cases e
  |a::b::n,e=>
   cases e;exact⟨b::a::n,.swap _ _ _,rfl⟩
 |trans _ _ ih1 ih2=>
  intro n e;obtain⟨s,c,d⟩:=ih2 e;obtain⟨h,i,j⟩:=ih1 d;exact⟨h,i.trans c,j⟩
theorem yO{n:a0t}(H:A.handled=OZ)(S:sJ aa w s.heap a n)(I:∀x∈n,1<=VX x.1)(J:VX n<64)
  (h:∀(l:O7) (D:Qt) (f v:Nat) (g:a0t),g.Perm n->Up (g.map (·.1))->D.get? l=on (Ts "list" (g.map λk=>Pw k.2).toArray v)->s.heap.objs.size<=l->(∀b o,s.heap.get? b=on o->D.get? b=on o)->s.toks<=f->Q (.ref l) {s with heap:=D,toks:=f}):
  Pq (PM aa w) A (VI (.builtin "sorted") [.ref a]) Q E s:=by
 obtain⟨o,P,ep,t,L,y,V,i,B,N,T,O,j⟩:=S;have C:P.size=VX n:=by rw[<-Qe,i,OY]
 have R:t.fits P.size=O6:=T.fits (by rw[OY,C]);refine Calls.call_function_entry kind_sorted plain_sorted entry_sorted (args_sorted1 _) ?_;unfold Builtin.«sorted»;refine My (m:=checkCount "sorted" 1 1 _)<|O0 ?_;refine My<|w6 H L y.1 V T R O j (by lia) λp f vs G q M pv=>?_;rw[i,Pp]at pv;obtain⟨K,r,rfl⟩:=Gf pv rfl;have U:VX K=VX n:=r.length_eq;refine My (wpAny_newList ?_<|by rw[OY,RI];lia);have c:∀b d,s.heap.get? b=on d->(p.push<|Ts "list" (K.map λk=>Pw k.2).toArray 0).get? b=on d:=λb d e=>O3 _<|G b d e;have u:(p.push<|Ts "list" (K.map λk=>Pw k.2).toArray 0).get? p.objs.size=on (Ts "list" (K.map λk=>Pw k.2).toArray 0):=Px _ rfl;show Pq _ _ _ _ _ {s with heap:=p.push<|Ts "list" (K.map λk=>Pw k.2).toArray 0,toks:=f};refine My<|QL<|Qr slot_list_sort ⟨_,u,rfl⟩ entry_list_sort (BR NA u (λk F=>⟨?_,I k<|r.mem_iff.mp F⟩) ((r.map (·.1)).nodup_iff.mpr B) (by lia) λD g v q1 q2 q3 q4=>⟨_,rfl,?_⟩)<|args_list_sort _
 .obtain⟨W,its,m,X,Y,Z,z4⟩:=N k<|r.mem_iff.mp F
  exact⟨W,its,m,c _ _ X,Y,Z,z4⟩
 .refine O0 ⟨_,rfl,h p.objs.size D f v g (q1.trans r) q2 q3 q (λb d e=>q4 b d (λz=>?_)<|c b d e) M⟩
  have:=PQ e;exact PU (z▸this)<|Nat.not_lt.mpr q
end
end L2.Hs
namespace L2.Hs
section
variable{j:P6}{w:Qb}
def sK(j:P6)(w:Qb)(a:O7)(D:a0t)(h:Qt):Prop:=
 ∃o E G t,h.get? a=on o/\o.ExactSet/\o.data= .set E G t/\(E.toList=D.map λx=>(hsh j w x.1,Pw x.2))/\(D.map (·.1)).Nodup/\(Tb t<|D.map λx=>hsh j w x.1)/\t.plain=O6/\t.led=!(w.params.followText "set-order")
noncomputable def nh(j:P6)(w:Qb)(a:O7)(D:a0t):HO:= .ext<|sK j w a D
theorem sK.to(S:sK j w a xs h)(b:∀x∈xs,(jn j w).is h x.1 x.2):sJ j w h a xs:=by
 obtain⟨o,D,E,t,c,d,e,f,h5,g⟩:=S;exact⟨o,D,E,t,c,d,e,f,h5,b,g⟩
theorem xw(S:sK j w a d h):bC j w H h a (nh j w a d):=by
 refine⟨S,?_,λb c z k=>?_⟩
 .obtain⟨o,_,_,_,e,_⟩:=S
  exact⟨o,e⟩
 .obtain⟨o,es,ep,t,e,r⟩:=z
  exact⟨o,es,ep,t,k _ e,r⟩
theorem GQ{k:a0e}:∀{D:a0g},au (k.map V.n) D->ItemsAre (V7 j w) k D:=by
 induction k with
 |nil=>intro D h;cases h;exact .nil
 |cons i k E=>
  intro D h;cases h with
  |cons a b=>
   obtain⟨t,rfl⟩:=a;exact .cons (by simp[V7,Yx])<|E b
variable{X:Cx}
theorem ow{s:Pe}{k:a0e}(I:cx X c d H s)(h:iv X.K H b<|k.map V.n):(jn X.p X.w).is s.heap k b:=by
 obtain⟨j,a,⟨o,e,hc,n,D⟩,_⟩:=I.tuple h;exact⟨o,j.toArray,n,e,hc,D,GQ a⟩
theorem tb0{b:Bool}:Tb (.fresh 0 0 b) []:=⟨.inl rfl,rfl,λi j a b h=>by simp[ZD]at*,λi j h=>by simp[ZD]at h,rfl,by show 0*5<7*3;decide,λi h j c=>by simp at c⟩
theorem sN:∀a:a0t,au (a.map λz=>V.r z.2)<|a.map λk=>Pw k.2
 |[]=> .nil
 |_::a=> .cons rfl<|sN a
theorem JN:Mks X (newSet<|.type "set") λD=>nh X.p X.w D []:=λa s c H E Q I h=>by
 unfold newSet setsByText;refine My<|My<|UC<|O0 ?_
 dsimp only
 simp only[newObj];refine My<|X6<|O0<|h _ (I.laid (t':=s.toks) (λ_ _ q=>O3 _ q) (Pg _)<|xw ?_) λb o e=>O3 _ e;exact⟨_,#[],0,_,Px _ rfl,⟨rfl,rfl,rfl⟩,rfl,rfl,.nil,tb0,rfl,rfl⟩
def Fc(P:P6)(w:Qb)(K:Pz)(D:O7)(e:TE):TB:=λd H Q=>e d H λv c=>∃j k b,c D=on (nh P w D j)/\v= .r b/\iv K c b (k.map V.n)/\(∀x∈j,iv K c x.2<|x.1.map V.n)/\VX j<63/\
 ∀a,(k∈j.map (·.1)->a=j)->(k∉j.map (·.1)->a.Perm ((k,b)::j))->Q d (upd c D<|nh P w D a)
theorem vW{D:O7}(p:X.A.units+1<Uu)(L:z[d+1]?=OZ)(N:PE X elt te)(j:X.xe=λ_ _=>False):PB X (.S elt) z scope pos d D (Fc X.p X.w X.K D te):=by
 intro a s y H Q I h k Q' E' O;unfold iG;rw[L];show Pq _ _ ((do let v <-Qz elt X.e;SJ elt.pos;let _ <-VI (.builtin "set.add") [.ref D,v])>>=λ_=>k) _ _ _
 have c:=N a s y H _ I h;rw[j]at c;refine My<|My<|Qj c (λu g l=>?_) λ_ _ f=>f.elim;obtain⟨v,H1,i,r,E,R,b,B,rfl,C,J,P,q⟩:=l;cases r;have S:sK X.p X.w D E g.heap:=(i.hok D _ B).1;have T:sJ X.p X.w g.heap D E:=S.to λx h=>ow i<|J x h;obtain⟨o,G,M,t,U,W,_⟩:=S;refine My<|Q3<|My<|Qr F.slot_set_add ⟨o,U,W.1⟩ F.entry_set_add ?_<|F.args_set_add_2 _ _;unfold Builtin.«set.add» Builtin.Frozenset.oneOther;simp only[List.isEmpty_nil,bind_assoc];unfold Builtin.Frozenset.addrOf setAdd;refine My<|O0 ?_
 try dsimp only
 refine My<|O0 ?_
 try dsimp only
 refine My<|QL<|My<|(jn X.p X.w).pyHash p (ow i C) ?_;refine MX (s:={g with toks:=g.toks+(jn X.p X.w).draws R}) p T (ow (s:=g) i C) P λh' m Y Z V c2=>?_;show Pq _ _ (ret Qn) _ _ _;refine O0 ⟨_,rfl,O0<|O _ y _ (i.write (by rw[B];trivial) (.inl rfl) (λb u n e=>(Y.2 b n).trans e) ?_<|xw ?_)<|q m V c2⟩
 all_goals obtain⟨o,G,M,t,c,l,h3,h4,h5,J,h6⟩:=Z
 .exact⟨o,c⟩
 .exact⟨o,G,M,t,c,l,h3,h4,h5,h6⟩
def l7(c:O7->HO)(j:a0h)(w:a0a)(d:TI)(e:O7->It->TB):TE:=λa H Q=>d a H λJ b=>∀D,b D=OZ->e D J (kX j w a) (upd b D<|c D) λ_ f=>Q (.r D) f
theorem Jy{d a b:Expr}{f:List Expr}{G:a0O}{E:Scope}{K:Uq}{j V:a0h}{z:a0a}{g:TG}{tt:TT}{o:a0X}{p:TI}(hc:X.calm=O6)(S:di X E j V z)(r:PI X a b p)
  (t:∀(M:a0n) (C:O7) (k:a0q) (s:Pe) (H:Hp),PG (aI X j E M C k s H) a g/\dW (aI X j E M C k s H) f tt/\∀D,PB (aI X j E M C k s H) (.S d) (⟨a,b,f,0⟩::G) E K 0 D<|o D)
  (hs:∀x,Qq b X.e x=Rz x:=by intro _;rfl):PE X (.SetComp d (⟨a,b,f,0⟩::G) E K) (l7 (λD=>nh X.p X.w D []) V z p λD J=>de J g tt<|o D):=by
 intro i s u H Q I h;refine SO (use:=OZ) rfl hs (S.clo I.ok) S.kind S.j6<|Qj (r i s u H _ I h) (λv U y=>Qj y (λB W F=>?_) λ_ _ x=>x) λ_ _ x=>x;obtain⟨it,k,Y,J,Z,e,L,T,l,f2,q⟩:=F;subst e;refine iF (c:= .S d) JN (RR:=λP C=>YC (PM X.p X.w) X.A X.xe OZ _ P C) hc S t L T l f2 q λD C s' N m O ns R q'=>?_;exact⟨m,ns,λh' n=>⟨.r D,N,O.letgo R n,rfl,q'⟩⟩
def xG(P:P6)(w:Qb)(K:Pz):a0j->Hp->VK->Prop:=λD H Q=>∃a j,D=[.r a]/\H a=on (nh P w a j)/\(∀x∈j,iv K H x.2 (x.1.map V.n)/\1<=VX x.1)/\VX j<64/\
 ∀(l:O7) (b:a0t),H l=OZ->b.Perm j->Up (b.map (·.1))->Q (.r l) (upd H l<|.l<|b.map λz=>V.r z.2)
theorem w8(hc:X.calm=O6):dg X (.builtin "sorted") (xG X.p X.w X.K):=by
 intro c s j H n t Q I r h;obtain⟨a,G,rfl,M,d,P,q⟩:=h;obtain⟨u,rfl,rfl⟩:=k8 r;have S:sK X.p X.w a G s.heap:=(I.hok a _ M).1;refine yO (I.ok.hd hc) (S.to λx h=>ow I (d x h).1) (λx h=>(d x h).2) P λl v e f b p g i E D m=>?_;refine⟨.r l,_,I.laid (t':=e) (o:= .l<|b.map λz=>V.r z.2) D E ⟨?_,b.map λk=>Pw k.2,f,?_,i⟩,rfl,q l b (I.hok.fresh E) p g⟩
 .rw[OY,p.length_eq,RI];lia
 .exact sN b
end
end L2.Hs
namespace L2.Pu
open L2.Hs
def iA(D:Nat)(E:a0a)(G:FL)(K:m3)(M:a0p)(b:FL)(a:a0c->a0m):FD:=λw P=>match G w P with
 |none=>OZ
 |some (.error C,β1)=>on (.error C,β1)
 |some (.ok ds,β1)=>match nC K M b ds (ll D E w) β1 with
  |some (.ok os,β2)=>(a os).map λd=>(.ok d,β2)
  |_=>OZ
section
variable{K:Pz}{E:a0r}
theorem sQ{R:AR}{p:O7->HO}{c:a0c->a0m}{P:a0h}{S:a0a}{V:FL}{g:TG}{M:m3}{s:a0p}{T:a0X}{b:FL}(hg:cN K g M)(sg:dT M)(hb:∀D,ft K R D (T D) b)
  (r0:∀F H D,R.R F (upd H D<|p D) D []) (hp:∀os d,c os=on d->R.Z os) {U:St} {H:Hp} {Q W:VK} (h:tV K (iA (VX P) S V M s b c) E U H W)
  (k:∀F B f D os d,Fr F B f->¬F.A D->R.R F B D os->c os=on d->(∀v j,To F B j f->c4 K F j d v->W v j)->Q (.r D) B):
  l7 p P S (iV K V E) (λD J=>de J g (g0 K s E0)<|T D) U H Q:=by
 obtain⟨F,δ,β,fr,X,r,f,e,h⟩:=h;unfold iA at e;refine⟨F,δ,β,fr,X,?_⟩;split at e
 .cases e
 .rename_i C β1 q
  cases e;exact⟨.error C,_,q,h⟩
 .rename_i ds β1 q
  split at e
  .rename_i os β2 q2
   cases G:c os with
   |none=>rw[G]at e;cases e
   |some d=>
    rw[G]at e;cases e;refine⟨.ok ds,β1,q,λJ I t hJ D m=>?_⟩;have i:¬F.A D:=t.fr.fresh m;have nb:∀b l,F.bg=on (b,l)->D≠b/\D≠l:=λb l z=>⟨λw=>i<|w▸(fr.bgA b l z).1,λw=>i<|w▸(fr.bgA b l z).2.1⟩;have Y:=t.fr.upd (p D) m;have L:Fr ⟨λa=>F.A a\/a=D,F.bg⟩ (upd I D<|p D) β1:=by
     refine⟨λa ha z=>?_,λb l z=>let ⟨x,y,w⟩:=fr.bgA b l z;⟨.inl x,.inl y,w⟩,Y.fr.bag⟩
     rcases ha with ha|ha
     .exact Y.fr.occ a ha z
     .subst ha;rw[aj]at z;cases z
    have u:Tr F I ⟨λa=>F.A a\/a=D,F.bg⟩ (upd I D<|p D):=⟨λa ha hs z=>by
     rcases z with z|z
     .exact ha z
     .subst z;exact hs m,λa o ha z=>by rw[bb<|bt z m];exact z,rfl⟩
    refine oh (R:=R) (D:=D) (as:=[]) (os:=os) hg sg (hb D) L (.inr rfl) nb (re<|X.tr<|(t.tr fr).trans u) (r0 _ _ _) (hJ.tr u) q2 (hp os d G) λaa j N ab O=>?_;have tf:To F I j f:=by
     refine⟨λa o z n=>N.kp a o (by rw[bb<|bt z m];exact z) (bt z m) n,λa ha z=>N.fr.occ a (RZ ha) z,fr.bgA,N.fr.bag⟩
    exact k F j f D os d tf.fr i (R.tr (F:=⟨λa=>F.A a\/a=D,F.bg⟩) O (λ_ z=>z) ⟨λa ha _ z=>ha<|RZ z,λa o _ z=>z,rfl⟩) G λv H3 t4 hv=>h v H3 ((t.trans tf).trans t4) hv
  .cases e
noncomputable abbrev l0(k:a0e):D:= .t<|k.map .n
theorem sy{k:a0e}(h:c4 K F H (l0 k) v):∃b,v= .r b/\iv K H b (k.map V.n):=by
 obtain⟨a,E,rfl,w,D⟩:=c4.f5 h;cases br.j8 k D;exact⟨a,rfl,w⟩
theorem gU(h:l0 k=l0 l):k=l:=by
 injection h with h
 exact Wr (λa b z=>by injection z)|>.mp h
theorem il{w:Type} [BEq w] [LawfulBEq w]:∀{l m:List w},l.Nodup->(∀x∈l,x∈m)->VX l<=VX m
 |[],_,_,_=>Qk _
 |a::l,m,nd,h=>by
  obtain⟨c,d⟩:=Qi.mp nd;have:=il (m:=m.erase a) d λx b=>(YT (λ(z:x=a)=>c<|z▸b)).mpr<|h x<|O1 a b;rw[XX<|h a Pa]at this;have:=Vy<|h a Pa;rw[Pt];lia
noncomputable def RS(P:P6)(w:Qb)(K:Pz):AR where
 R:=λF H D M=>∃E,H D=on (nh P w D E)/\(E.map (·.1)).Nodup/\(∀x∈E,c4 K F H (l0 x.1) (.r x.2)/\l0 x.1∈M)/\∀d∈M,∃k∈E.map (·.1),d=l0 k
 Z:=λl=>∃G:LI,VX G<63/\∀d∈l,∃k∈G,d=l0 k
 tr:=λh k t=>by
  obtain⟨E,a,b,c,f⟩:=h;exact⟨E,k _ a,b,λx e=>⟨c4.tr t _ _ (c x e).1,(c x e).2⟩,f⟩
 zp:=λh=>by
  obtain⟨G,a,b⟩:=h;exact⟨G,a,λd S=>b d<|RY _ S⟩
theorem GJ{P:P6}{w:Qb}{D:O7}:ft K (RS P w K) D (Fc P w K D<|tV K f E0) (lg f):=λF H δ β u R as os Q fr T A J U e W k=>by
 obtain⟨E,X,V,j,s⟩:=U;obtain⟨d,aa,Y,Z⟩:=M.j6 e;cases Z;refine⟨F,δ,β,fr,J,E0.run Y λv B t L=>?_⟩;have C:=t.kp D _ X A;obtain⟨ks,z1,N⟩:=W;obtain⟨r,ab,rfl⟩:=N d<|Qg _ Pa;obtain⟨b,rfl,sq⟩:=sy L;have c:∀x∈E,c4 K F B (l0 x.1) (.r x.2):=λx h=>c4.tr (t.tr fr) _ _ (j x h).1;have g:VX E<63:=by
  have:=il (m:=ks) V λx I=>by
   obtain⟨y,hy,rfl⟩:=Pj.mp I;obtain⟨l,hl,e⟩:=N _<|RY _ (j y hy).2;rw[gU e];exact hl
  rw[OY]at this;lia
 refine⟨E,r,b,C,rfl,sq,λx h=>?_,g,λi c1 c2=>?_⟩
 .obtain⟨b',e,q⟩:=sy<|c x h
  cases e;exact q
 have O:m_ F D B (upd B D<|nh P w D i) u:=by
  refine⟨λa o h n _=>by rw[bb n];exact h,λa h q=>?_,fr.bgA,λb l q=>?_⟩
  .by_cases z:a=D
   .subst z;rw[aj]at q;cases q
   .rw[bb z]at q;exact t.fr.occ a h q
  .rw[bb (A b l q).1.symm,bb (A b l q).2.symm]
   exact t.fr.bag b l q
 have G:=O.tr t.fr T;refine k R _ ((t.toD D).trans O) (J.tr<|(t.tr fr).trans G) ⟨i,aj,?_⟩;by_cases S:r∈E.map (·.1)
 .cases c1 S
  refine⟨V,λx h=>⟨c4.tr G _ _<|c x h,RY _ (j x h).2⟩,λd hd=>?_⟩;rcases QB.mp hd with hd|hd
  .exact s d hd
  .exact⟨r,S,P0.mp hd⟩
 .have p:=c2 S
  refine⟨(p.map (·.1)).nodup_iff.mpr<|Qi.mpr ⟨S,V⟩,λx h=>?_,λd hd=>?_⟩
  .rcases Pr.mp (p.mem_iff.mp h)with rfl|h
   .exact⟨c4.tr G _ _ L,Qg _ Pa⟩
   .exact⟨c4.tr G _ _<|c x h,RY _ (j x h).2⟩
  .rcases QB.mp hd with hd|hd
   .obtain⟨k2,h2,e⟩:=s d hd
    exact⟨k2,(p.map (·.1)).mem_iff.mpr<|O1 _ h2,e⟩
   .exact⟨r,(p.map (·.1)).mem_iff.mpr Pa,P0.mp hd⟩
def Srt(w:LI)(D:a0c):Prop:=Up w/\VX w<63/\(∀k∈w,1<=VX k/\l0 k∈D)/\∀d∈D,∃k∈w,d=l0 k
theorem Srt.eq{w:a0c}(a:Srt d w)(b:Srt ls w):d=ls:=yE a.1 b.1 λx=>⟨λh=>by
 obtain⟨l,c,e⟩:=b.2.2.2 _ (a.2.2.1 x h).2;rw[gU e];exact c,λh=>by
 obtain⟨l,c,e⟩:=a.2.2.2 _ (b.2.2.1 x h).2;rw[gU e];exact c⟩
open Classical in
def lf(w:a0c):a0m:=if h:∃D,Srt D w then on (.l<|h.choose.map l0)else OZ
theorem FT{w:LI}{D:a0c}(h:Srt w D):lf D=on (.l<|w.map l0):=by
 have q:∃w,Srt w D:=⟨w,h⟩;unfold lf;rw[dif_pos q,q.choose_spec.eq h]
theorem sW{w:a0c}(h:lf w=on d):∃D,Srt D w/\d= .l (D.map l0):=by
 unfold lf at h;split at h
 .rename_i q
  cases h;exact⟨_,q.choose_spec,rfl⟩
 .cases h
theorem ua:∀{a:a0t},(∀z∈a,c4 K F H (l0 z.1)<|.r z.2)->br K F H ((a.map (·.1)).map l0) (a.map λz=>V.r z.2)
 |[],_=>br.f5
 |z::a,h=>br.cons (h z Pa)<|ua λx b=>h x<|O1 z b
end
section
variable{X:Cx}{E:a0r}{af b_ aa:Expr}{ac:List Expr}{ab:a0O}{P:Scope}{ae p ad:Uq}{Nc c_:a0h}{cy:a0a}{g:TG}{tb:a0X}
theorem FA(i:Gl X "sorted")(V:X.mg "sorted"=OZ)(hc:X.calm=O6)(S:di X P Nc c_ cy)(o:PI X b_ aa<|iV X.K it E)
  (r:∀(G:a0n) (C:O7) (j:a0q) (s:Pe) (H:Hp),PG (aI X Nc P G C j s H) b_ g/\dW (aI X Nc P G C j s H) ac (g0 X.K tt E0)/\∀D,PB (aI X Nc P G C j s H) (.S af) (⟨b_,aa,ac,0⟩::ab) P ae 0 D<|tb D)
  (t:cN X.K g tg) (u:dT tg) (A:∀D,ft X.K (RS X.p X.w X.K) D (tb D) b) (hs:∀x,Qq aa X.e x=Rz x:=by intro _;rfl):
  PE X (.Call (.Name "sorted" p) [.SetComp af (⟨b_,aa,ac,0⟩::ab) P ae] [] ad) (tV X.K (iA (VX c_) cy it tg tt b lf) E):=
 (lz (w8 hc) i V (by kernel_rfl)<|cg (Jy hc S o r hs) eZ).imp λY H Q h=>by
  refine sQ (Q:=λv B=>xG X.p X.w X.K [v] B Q) t u A (λF H D=>⟨[],aj,.nil,λx a=>PU a (by simp),λd hd=>PU hd<|by simp⟩) (λos d e=>?_) h λF Z I D os d fr J L e q=>?_
  .obtain⟨ks,s,_⟩:=sW e
   exact⟨ks,s.2.1,s.2.2.2⟩
  .obtain⟨ks,s,rfl⟩:=sW e
   obtain⟨M,N,nd,a,ha⟩:=L;have k:∀x∈M,x.1∈ks:=λx h=>by
    obtain⟨l,f,e⟩:=s.2.2.2 _ (a x h).2;rw[gU e];exact f
   have hn:VX M<64:=by
    have:=il (m:=ks) nd λy c=>by
     obtain⟨x,h,rfl⟩:=Pj.mp c;exact k x h
    rw[OY]at this;have:=s.2.1;lia
   refine⟨D,M,rfl,N,λx h=>?_,hn,λl O f n R=>?_⟩
   .obtain⟨b',e,q⟩:=sy (a x h).1
    cases e;exact⟨q,(s.2.2.1 _<|k x h).1⟩
   .have T:ks=O.map (·.1):=yE s.1 R λy=>by
     refine⟨λc=>?_,λc=>?_⟩
     .obtain⟨k2,U,e⟩:=ha _ (s.2.2.1 y c).2
      rw[gU e];exact(n.map (·.1)).mem_iff.mpr U
     .obtain⟨x,h,rfl⟩:=Pj.mp<|(n.map (·.1)).mem_iff.mp c
      exact k x h
    rw[T]at q;exact q _ _ (fr.upd _ f)<|c4.j7 fr f<|ua λz W=>(a z<|n.mem_iff.mp W).1
end
end L2.Pu
namespace L2.Hs
section
variable{J:P6}{w:Qb}{A:Qy}{E:a0d}{s:Pe}
def O2(J:P6)(w:Qb)(h:Qt)(k:et)(a:O7):Prop:=∃o n t b,h.get? a=on o/\o.cls= .type "tuple"/\o.data= .seq #[.int k.1 t,.ref b] n/\(jn J w).is h k.2 b
theorem O2.ty(x:O2 J w s.heap k a):s.TypeIs (.ref a) "tuple":=let ⟨o,_,_,_,ho,hc,_⟩:=x;⟨o,ho,hc⟩
theorem O2.inj(f:O2 J w h x a)(g:O2 J w h y a):x=y:=by
 obtain⟨o,n,t,b,i,_,s,j⟩:=f;obtain⟨k,p,A,q,d,_,c,e⟩:=g;obtain rfl:o=k:=P3<|i.symm.trans d;rw[s]at c;simp only[Data.seq.injEq,Array.mk.injEq,SN,Tp.injEq,Pw.injEq]at c;obtain⟨⟨⟨l,_⟩,m,_⟩,_⟩:=c;subst m;exact QN l<|(jn J w).inj j e
theorem Mz(k:a0e):hsh J w k=hI k:=by unfold hsh hI;show tupleKeyHash _ _=_;unfold tupleKeyHash;rfl
theorem MA{k:et}(g:A.units+1<Uu)(f:O2 J w s.heap k a)(h:Q (hB O6 k) {s with toks:=s.toks+(VX k.2+3)}):Pq (PM J w) A (pyHash<|.ref a) Q E s:=by
 have c:=f.ty;obtain⟨o,n,t,b,i,_,G,j⟩:=f;unfold pyHash
 first|unfold pyHashByItsType|skip
 refine My<|wpAny_cRoomFor_or (.inr<|by lia) ?_;refine My<|SG c F.slot_tuple_hash.lookup ?_;show Pq _ _ (if(on (Value.builtin "tuple.__hash__")==on Qn)=O6 then _ else _) Q E s;rw[Pd<|by rw[beq_builtin_none];exact Pf];refine My<|SG c F.slot_tuple_hash.lookup ?_;show Pq _ _ (callSpecialIfBoundUnlessNone? (.ref a) "__hash__" _>>=_) Q E s;refine My<|wpAny_callSpecialIfBoundUnlessNone?_slot c F.slot_tuple_hash<|Qr F.slot_tuple_hash c F.entry_tuple_hash ?_<|F.args_tuple_hash_1 _;show Pq _ _ (Builtin.Tuple.tupleItemsOf (.ref a)>>=_) _ _ s;refine My<|W6 i G ?_;refine My ?_;rw[<-TM];simp only[Su,SL];refine My<|My<|wpAny_pyHash_int ?_;refine O0<|My<|My<|(jn J w).pyHash g j ?_;refine O0<|O0 ?_;have D:Q (hB O6 k) {s with toks:=s.toks+1+(VX k.2+1)+1}:=by
  have e:s.toks+1+(VX k.2+1)+1=s.toks+(VX k.2+3):=by lia
  rw[e];exact h
 refine wpAny_ret_mkInt ?_;generalize l:Ui _=z;have m:hB O6 k=reduceHash z:=by rw[<-l,show(jn J w).hash k.2=hI k.2 from Mz k.2];rfl
 rw[m]at D;show Pq _ _ (if(decide (-(2:Int)^63<=z)&&decide (z<2^63))=O6 then _ else _) Q E _;unfold reduceHash at D;by_cases d:(decide (-(2:Int)^63<=z)&&decide (z<2^63))=O6
 .rw[Pc d]
  rw[Pc d]at D;exact O0 D
 .rw[Pd d]
  rw[Pd d]at D;exact My<|Tf<|O0 D
theorem eq_p(q:A.units+1<Uu)(d:O2 J w s.heap x a)(f:O2 J w s.heap y b)(h:Q (decide (x=y)) s):Pq (PM J w) A (eqBool (.ref a)<|.ref b) Q E s:=by
 unfold eqBool
 try with_reducible refine QL ?_
 show Pq _ _ (if(Pw a==Pw b)=O6 then _ else _) Q E s;by_cases c:(Pw a==Pw b)=O6
 .rw[Pc c]
  have e:a=b:=by have:=eq_of_beq c;injection this
  subst e;obtain rfl:=d.inj f;exact My (Tf<|O0<|by simpa using h)
 .rw[Pd c]
  refine My (wpAny_richCompare_same_room (op:= .Eq) d.ty f.ty F.slot_tuple_eq
   (Qr F.slot_tuple_eq d.ty F.entry_tuple_eq ?_<|F.args_tuple_eq_2 _ _) (by lia))
  have j:=f.ty;obtain⟨r,t,u,v,k,_,l,m⟩:=d;obtain⟨B,C,H,I,n,_,o,p⟩:=f;show Pq _ _ (Vm (.ref b) (.type "tuple")>>=_) _ _ s;refine My<|Sk j Wn ?_;simp only[Sc,PF,QA];refine My<|W6 k l ?_;refine My<|W6 n o ?_;refine My ?_;simp only[Rl,WM,Su,SL];refine My<|My<|(V7 J w).eqBool (a:=x.1) (b:=y.1) (by simp[V7,Yx]) (by simp[V7,Yx]) ?_;by_cases g:x.1=y.1
  .rw[Pn g]
   refine O0<|My<|My<|(jn J w).eqBool q m p ?_;by_cases i:x.2=y.2
   .rw[Pn i]
    rw[Pn<|QN g i]at h;exact O0<|O0<|O0 ⟨_,rfl,(λe=>nomatch e),QR h⟩
   .rw[P8 i]
    rw[P8 (λe=>i<|QG _ e)]at h;exact My<|O0<|O0<|O0<|O0 ⟨_,rfl,(λe=>nomatch e),QR h⟩
  .rw[P8 g]
   rw[P8 (λe=>g<|QG _ e)]at h;exact My<|O0<|O0<|O0<|O0 ⟨_,rfl,(λe=>nomatch e),QR h⟩
theorem Jp(e:(jn J w).is s.heap k a)(h:Q O6 s):Pq (PM J w) A (ZG (m+1)<|.ref a) Q E s:=by
 have f:=X8 e;obtain⟨o,G,n,g,_,M,i⟩:=e;unfold ZG;refine My<|SG f F.slot_tuple_eq.lookup ?_;show Pq _ _ (Vm (.ref a) (.type "tuple")>>=_) _ _ s;refine My<|Sk f Wn ?_;simp only[Sc,PF,QA];refine My<|RA g M ?_;refine My ?_;show Pq _ _ (YF G _ _) _ _ s;rw[<-TM];refine VT _ (λD r K=>r.1=OZ/\K=s/\∀v∈D,carriedByValue v=O6) _ ?_ ?_ _ _ ⟨rfl,rfl,i.byValue⟩
 .rintro v D r K ⟨c,rfl,b⟩
  rw[eqIsQuiet_byValue _<|b v Pa];refine My<|O0 ?_;simp only[Sc,PF,QA];exact O0 ⟨rfl,rfl,λu d=>b u<|O1 _ d⟩
 .rintro⟨r1,j⟩ K ⟨c,rfl,_⟩
  simp only at c;subst c;exact O0 h
theorem Jq(c:O2 J w s.heap k a)(h:Q O6 s):Pq (PM J w) A (ZG 8<|.ref a) Q E s:=by
 have d:=c.ty;obtain⟨o,n,t,b,e,_,D,f⟩:=c;unfold ZG;refine My<|SG d F.slot_tuple_eq.lookup ?_;show Pq _ _ (Vm (.ref a) (.type "tuple")>>=_) _ _ s;refine My<|Sk d Wn ?_;simp only[Sc,PF,QA];refine My<|RA e D ?_;refine My ?_;show Pq _ _ (YF #[Tp k.1 t,Pw b] _ _) _ _ s;rw[<-TM];simp only[Su,SL];rw[eqIsQuiet_byValue _ (v:= .int k.1 t) rfl];exact My<|My<|O0<|O0<|My<|My<|Jp (m:=6) f<|O0<|O0<|O0 h
def PKd(J:P6)(w:Qb):HeapKind J w et where
 is:=O2 J w
 hash:=hB O6
 draws:=λk=>VX k.2+3
 room:=λA=>A.units+1<Uu
 inj:=λd e=>d.inj e
 keeps:=λx i s D=>by
  obtain⟨j,n,t,b,c,hc,a,l⟩:=x;refine⟨j,n,t,b,(D.2 _ ?_).trans c,hc,a,(jn J w).keeps l i s D⟩;rintro rfl;obtain rfl:=P3<|c.symm.trans i;rw[s]at a;exact nomatch a
 pyHash:=λf g h=>MA f g h
 eqBool:=λf d e h=>eq_p f d e h
 quiet:=λg h=>Jq g h
def FKd(J:P6)(w:Qb):HeapKind J w et where
 is:=λh k a=>k.1=0/\(jn J w).is h k.2 a
 hash:=hB O8
 draws:=λk=>VX k.2+1
 room:=λA=>A.units+1<Uu
 inj:=λc d=>QN (c.1.trans d.1.symm) ((jn J w).inj c.2 d.2)
 keeps:=λx i D G=>⟨x.1,(jn J w).keeps x.2 i D G⟩
 pyHash:=λf g h=>(jn J w).pyHash (WQ f) g.2 h
 eqBool:=λ{A E s x y a b Q} f c d h=>(jn J w).eqBool (WQ f) c.2 d.2 (by
  have e:decide (x.2=y.2)=decide (x=y):=by
   by_cases q:x.2=y.2
   .rw[Pn q,Pn<|QN (c.1.trans d.1.symm) q]
   .rw[P8 q,P8 (λz=>q<|QG _ z)]
  rw[e];exact h)
 quiet:=λg h=>(jn J w).quiet g.2 h
def KB(J:P6)(w:Qb):Bool->HeapKind J w et
 |true=>PKd J w
 |false=>FKd J w
theorem oo{b:Bool}:(KB J w b).hash=hB b:=by cases b<;>rfl
theorem ji{b:Bool}{A:Qy}(h:A.units+1<Uu):(KB J w b).room A:=by cases b<;>exact h
def xr(K:Pz)(H:Hp):Bool->et->O7->Prop
 |true,k,c=>∃e,iv K H c [.n k.1,.r e]/\iv K H e (k.2.map V.n)
 |false,k,c=>k.1=0/\iv K H c (k.2.map V.n)
abbrev XY(x:et×O7×V)(y:et×O7×Pb):Prop:=x.1=y.1/\x.2.1=y.2.1/\aL x.2.2 y.2.2
theorem ny:∀{s:a0o} {w:a0E},Vi XY s w->s.map (·.1)=w.map (·.1)
 |_,_,.nil=>rfl
 |_,_,.cons h t=>by rw[Pi,Pi,h.1,ny t]
theorem AM:∀{s:a0o} {w:a0E},Vi XY s w->∀y∈w,∃x∈s,XY x y
 |_,_,.nil,y,h=>by cases h
 |_,_,.cons (a:=a) h t,y,hy=>by
  rcases Pr.mp hy with rfl|hy
  .exact⟨a,Pa,h⟩
  .obtain⟨x,b,e⟩:=AM t y hy
   exact⟨x,O1 _ b,e⟩
noncomputable def nB(xs:a0o)(k:et):Option V:=(xs.find? λx=>decide (x.1=k)).map (·.2.2)
theorem kF:∀{s:a0o} {w:a0E},Vi XY s w->gJ (nB s k) ((WV w k).map (·.2))
 |_,_,.nil=>by simp[nB,WV,gJ]
 |_,_,.cons (a:=a) (b:=b) h t=>by
  have A:=kF (k:=k) t;unfold nB WV at A⊢;rw[RO,RO,<-h.1];by_cases q:a.1=k
  .rw[Pn q];exact h.2.2
  .rw[P8 q];exact A
theorem rq(h:XY x y):∀{s:a0o} {w:a0E},Vi XY s w->Vi XY (s++[x]) (w++[y])
 |_,_,.nil=> .cons h .nil
 |_,_,.cons h' t=> .cons h'<|rq h t
variable{X:Cx}{P:a0b}{z:St}{H:Hp}
theorem lI{b:Bool}(I:cx X P z H s)(h:xr X.K H b k c):(KB X.p X.w b).is s.heap k c:=by
 cases b with
 |true=>
  obtain⟨e,a,d⟩:=h;obtain⟨A,f,⟨o,g,hc,n,D⟩,_⟩:=I.tuple a;obtain⟨i,j,rfl,⟨t,rfl⟩,rfl⟩:=ux f;exact⟨o,n,t,e,g,hc,D,ow I d⟩
 |false=>exact⟨h.1,ow I h.2⟩
theorem Fv{P:a0b}{z:St}{H:Hp}{s:Pe}(I:cx X P z H s):W4<s.heap.objs.size:=UF (by decide) (show RV<s.heap.objs.size from(I.mod.glob.keeps I.bk).lt)
theorem jT{b:Bool}(I:cx X P z H s)(d:H a=on (bD a b r q))(e:∀x∈q,xr X.K H b x.1 x.2.1):∃A,s.heap.DictOfH (KB X.p X.w b) a A/\Vi XY q A/\VX A<=Ps/\(a==W4)=O8:=by
 obtain⟨o,D,A,f,g,h,i,h5,j,k,c⟩:AJ a b r q s.heap:=(I.hok a _ d).1;refine⟨A,⟨o,D,r,f,g,h,?_,λy l=>?_,h5⟩,c,k,j⟩
 .rw[i];unfold YE;rw[oo]
 .obtain⟨x,m,n,p,_⟩:=AM c y l
  rw[<-n,<-p];exact lI I<|e x m
def Li(K:Pz):R2:=λx y H Q=>∃a b w s k c v,x= .r a/\y= .r c/\H a=on (bD a b w s)/\(∀x∈s,xr K H b x.1 x.2.1)/\xr K H b k c/\nB s k=on v/\Q v H
theorem wl(l:X.A.units+2<Uu):N_ X (Li X.K):=by
 intro g i P s z H x y v u Q I m n h w;obtain⟨a,b,G,J,k,c,o,rfl,rfl,t,B,hc,C,q⟩:=h;cases m;cases n;obtain⟨D,d,p,_,_⟩:=jT I t B;have f:=kF (k:=k) p;rw[C]at f;cases e:WV D k with
 |none=>rw[e]at f;exact f.elim
 |some r=>
  rw[e]at f;exact V9 (x:=r.2) d.typeIs PySem.F.slot_dict_getitem.lookup (wpAny_getItem_heap (Q:=λj E=>j=r.2/\EP X P z Q j E) (ji l) (lI I hc) d e ⟨rfl,o,H,I.tok _,f,q⟩) w
theorem pq{b:Bool}:Mks X newDict λD=>bD D b 0 []:=λP s z H E Q I h=>QP<|h _ (I.laid (t':=s.toks) (λ_ _ q=>O3 _ q) (Pg _)<|kW ⟨_,#[],[],Px _ rfl,⟨rfl,rfl,rfl⟩,rfl,rfl,.nil,beq_eq_false_iff_ne.mpr<|Ne.symm<|Qm<|Fv I,Qk _,.nil⟩) λb o e=>O3 _ e
def Fd(K:Pz)(b:Bool)(D:O7)(e f:TE):TB:=λz H Q=>e z H λx g=>f z g λy a=>∃w s k c,x= .r c/\a D=on (bD D b w s)/\(∀x∈s,xr K a b x.1 x.2.1)/\xr K a b k c/\k∉s.map (·.1)/\VX s<Ps/\∀d,Q z<|upd a D<|bD D b d<|s++[(k,c,y)]
theorem lA{D:O7}{b:Bool}(L:X.A.units+1<Uu)(N:gens[d+1]?=OZ)(O:PE X ke tk)(R:PE X ve tv)(a:X.xe=λ_ _=>False):PB X (.D ke ve) gens scope pos d D (Fd X.K b D tk tv):=by
 intro P s z H Q I h k Q' E' T;unfold iG;rw[N];show Pq _ _ (emC (.D ke ve) (.ref D) X.e>>=λ_=>k) _ _ _;unfold emC;have t:=O P s z H _ I h;rw[a]at t;refine My<|My<|Qj t (λu U W=>?_) λ_ _ f=>f.elim;obtain⟨v,Y,Z,r,G⟩:=W;have B:=R P U z Y _ Z G;rw[a]at B;refine My<|QL<|Qj B (λu2 s2 M=>?_) λ_ _ f=>f.elim;obtain⟨v2,H2,i,S,V,xs,j,c,rfl,C,hx,hc,hn,hl,q⟩:=M;cases r;obtain⟨w,dd,p,hz,l⟩:=jT i C hx;have F:=ny p;have e0:WV w j=OZ:=by
  cases e:WV w j with
  |none=>rfl
  |some r=>
   exfalso
   unfold WV at e;cases m:w.find? (λx=>decide (x.1=j))with
   |none=>rw[m]at e;cases e
   |some y=>
    have:=List.find?_some m;exact hn (by rw[F];exact Pj.mpr ⟨y,List.mem_of_find?_eq_some m,QH this⟩)
 refine My<|Q3<|QL<|wpAny_dictSet_heap (ji L) (lI i hc) dd (λh' E sb=>?_) hz;rw[storedH_new e0]at E;obtain⟨o,es,ep,J,g2,g3,g4,g5,g6⟩:=E;have g:VX w=VX xs:=by rw[<-OY (f:=(·.1)),<-F,OY]
 refine T _ z _ (i.write (by rw[C];trivial) (.inl rfl) (λb u n e=>(sb.2 b n).trans e) ⟨o,J⟩<|kW ⟨o,es,_,J,g2,g3,?_,g6,l,?_,rq ⟨rfl,rfl,S⟩ p⟩)<|q ep
 .rw[g4];unfold YE;rw[oo]
 .rw[PR,g,QO];lia
theorem Gm{b:Bool}{k l a d:Expr}{f:List Expr}{G:a0O}{E:Scope}{K:Uq}{i c_:a0h}{cy:a0a}{g:TG}{tt:TT}{p:a0X}{r:TI}(hc:X.calm=O6)(S:di X E i c_ cy)(t:PI X a d r)
  (u:∀(M:a0n) (C:O7) (j:a0q) (s:Pe) (H:Hp),PG (aI X i E M C j s H) a g/\dW (aI X i E M C j s H) f tt/\∀D,PB (aI X i E M C j s H) (.D k l) (⟨a,d,f,0⟩::G) E K 0 D<|p D)
  (hs:∀x,Qq d X.e x=Rz x:=by intro _;rfl):PE X (.DictComp k l (⟨a,d,f,0⟩::G) E K) (l7 (λD=>bD D b 0 []) c_ cy r λD J=>de J g tt<|p D):=by
 intro P s z H Q I h;refine SO (use:=OZ) rfl hs (S.clo I.ok) S.kind S.j6<|Qj (t P s z H _ I h) (λv U y=>Qj y (λB W F=>?_) λ_ _ x=>x) λ_ _ x=>x;obtain⟨it,j,Y,J,Z,e,L,T,n,f2,q⟩:=F;subst e;refine iF (c:= .D k l) pq (RR:=λV C=>YC (PM X.p X.w) X.A X.xe OZ _ V C) hc S u L T n f2 q λD C s' N m O ns R q'=>?_;exact⟨m,ns,λh' o=>⟨.r D,N,O.letgo R o,rfl,q'⟩⟩
end
end L2.Hs
namespace L2.Pu
open L2.Hs
def dK:Bool->et->D
 |true,k=> .t [.n k.1,l0 k.2]
 |false,k=>l0 k.2
def F_(b:Bool)(k:et):Prop:=b=O8->k.1=0
theorem MS{b:Bool}(a:F_ b k)(c:F_ b l)(h:dK b k=dK b l):k=l:=by
 cases b with
 |true=>
  simp only[dK,D.t.injEq,SN,D.n.injEq,and_true]at h;exact QN h.1<|gU<|QG D.t h.2
 |false=>exact QN ((a rfl).trans (c rfl).symm)<|gU h
section
variable{K:Pz}{F:Fx}{H:Hp}{E:a0r}
theorem wM(h:c4 K F H (.t b) v):∃a w,v= .r a/\TQ K F H a w/\br K F H b w:=by
 unfold c4 at h;exact h
theorem pU(h:TQ K F H a b)(w:br K F H c b):c4 K F H (.t c) (.r a):=by
 unfold c4;exact⟨a,b,rfl,h,w⟩
theorem TQ.sq(h:TQ K F H c a):iv K H c a:=h.imp (·.2) id
theorem fL.s{b:Bool}(h:fL K F H b k c):xr K H b k c:=by
 cases b with
 |true=>
  obtain⟨e,a,d⟩:=h;exact⟨e,a.sq,d.sq⟩
 |false=>exact⟨h.1,h.2.sq⟩
theorem fL.z{b:Bool}(h:fL K F H b k c):F_ b k:=λe=>by subst e;exact h.1
theorem oi{b:Bool}(f:F_ b k)(h:c4 K F H (dK b k) v):∃c,v= .r c/\fL K F H b k c:=by
 cases b with
 |true=>
  obtain⟨a,D,rfl,q,w⟩:=wM h;obtain⟨g,i,rfl,E,G⟩:=br.j9 w;cases E.int;obtain⟨e,P,rfl,M,d⟩:=wM G;cases br.j8 k.2 d;exact⟨a,rfl,e,q,M⟩
 |false=>
  obtain⟨a,D,rfl,q,w⟩:=wM h;cases br.j8 k.2 w;exact⟨a,rfl,f rfl,q⟩
theorem NY{b:Bool}(h:fL K F H b k c):c4 K F H (dK b k) (.r c):=by
 cases b with
 |true=>
  obtain⟨e,a,d⟩:=h;exact pU a<|br.cons rfl<|br.cons (pU d<|br.j7 k.2) br.f5
 |false=>exact pU h.2<|br.j7 k.2
abbrev D2(b:Bool)(p:et×D):D:= .t [dK b p.1,p.2]
def Dk(b:Bool)(w:List<|et×D)(E:a0c):Prop:=E=w.map (D2 b)/\(w.map (·.1)).Nodup/\VX w<=Ps/\∀p∈w,F_ b p.1
theorem JE{b:Bool}{p q:et×D}(a:F_ b p.1)(c:F_ b q.1)(h:D2 b p=D2 b q):p=q:=by
 simp only[D2,D.t.injEq,SN,and_true]at h;exact QN (MS a c h.1) h.2
theorem lB{b:Bool}:∀{l m:List (et×D)},(∀p∈l,F_ b p.1)->(∀p∈m,F_ b p.1)->l.map (D2 b)=m.map (D2 b)->l=m
 |[],[],_,_,_=>rfl
 |[],_::_,_,_,h=>by cases h
 |_::_,[],_,_,h=>by cases h
 |p::l,q::m,hl,hm,h=>by
  rw[Pi,Pi,SN]at h;rw[JE (hl p Pa) (hm q Pa) h.1,lB (λx a=>hl x<|O1 _ a) (λx a=>hm x<|O1 _ a) h.2]
theorem Dk.eq{b:Bool}{w:a0c}(x:Dk b l w)(y:Dk b m w):l=m:=lB x.2.2.2 y.2.2.2<|x.1.symm.trans y.1
open Classical in
def lP(b:Bool)(D:a0c):a0m:=if h:∃w,Dk b w D then on (.dct b (h.choose.map (·.1))<|h.choose.map (·.2))else OZ
theorem yp{b:Bool}{kvs:List (et×D)}{w:a0c}(h:Dk b kvs w):lP b w=on (.dct b (kvs.map (·.1))<|kvs.map (·.2)):=by
 have q:∃kvs,Dk b kvs w:=⟨kvs,h⟩;unfold lP;rw[dif_pos q,q.choose_spec.eq h]
theorem wP{b:Bool}{D:a0c}(h:lP b D=on d):∃w,Dk b w D/\d= .dct b (w.map (·.1)) (w.map (·.2)):=by
 unfold lP at h;split at h
 .rename_i q
  cases h;exact⟨_,q.choose_spec,rfl⟩
 .cases h
noncomputable def RD(K:Pz)(b:Bool):AR where
 R:=λF H D M=>∃G,∃a:List<|(et×Pu.D)×O7×V,M=a.map (λz=>D2 b z.1)/\H D=on (bD D b G<|a.map λz=>(z.1.1,z.2))/\∀z∈a,fL K F H b z.1.1 z.2.1/\c4 K F H z.1.2 z.2.2
 Z:=λl=>∃E w,Dk b E (l++w)
 tr:=λh k t=>by
  obtain⟨G,a,e,f,c⟩:=h;exact⟨G,a,e,k _ f,λz d=>⟨(c z d).1.tr t,c4.tr t _ _ (c z d).2⟩⟩
 zp:=λh=>by
  obtain⟨E,w,h⟩:=h;exact⟨E,_,by rw[<-Q8];exact h⟩
def G8(f g:FD):FL:=λw=>M.v (f w) λk=>M.v (g w) λv=>M.j7 [.t [k,v]]
theorem pz{b:Bool}{D:O7}:ft K (RD K b) D (Fd K b D (tV K f E0)<|tV K g E0) (G8 f g):=λF H S β I σ as os Q fr hA B J hR e hz k=>by
 obtain⟨ep,d,rfl,hD,C⟩:=hR;obtain⟨U,G,e1,e2⟩:=M.j6 e;obtain⟨W,aa,e3,e4⟩:=M.j6 e2;cases e4;obtain⟨w,V,L,X,z3,Y⟩:=hz;have N:∀p∈d.map (·.1),F_ b p.1:=λp r=>by
  obtain⟨z,h,rfl⟩:=Pj.mp r;exact(C z h).1.z
 have P:VX d<VX w:=by
  have:=QG VX L;simp at this;lia
 have ez:(d.map (·.1)).map (D2 b)=(w.take<|VX d).map (D2 b):=by
  rw[Wj,<-L,Q8,List.take_append_of_le_length (by simp),R9 (by simp),Pp];rfl
 have ek:=lB N (λp r=>Y p<|VZ r) ez;have O:D2 b w[VX d]= .t [U,W]:=by
  have Z:(w.map<|D2 b)[VX d]?=on (.t [U,W]):=by
   rw[<-L,Q8,RK<|by simp];simp
  rw[O9,O4 P]at Z;exact P3 Z
 have u:=Y _<|Qd P;generalize r:w[VX d]=p at O u;obtain⟨j,vv⟩:=p;simp only[D2,Pu.D.t.injEq,SN,and_true]at O;obtain⟨rfl,rfl⟩:=O;have y:j∉d.map (·.1.1):=λhm=>by
  have h2:w.take (VX d)++(j,vv)::w.drop (VX d+1)=w:=by
   rw[<-r,<-Rp P,S9]
  rw[<-h2,<-ek,Qc,Pi,U3]at X;refine X.2.2 j ?_ j Pa rfl;rw[Pp];exact hm
 refine⟨F,S,β,fr,J,E0.run e1 λv H1 t hv=>⟨F,S,G,t.fr,J.tr<|t.tr fr,E0.run e3 λv2 H2 m R=>?_⟩⟩;have T:=c4.tr (m.tr t.fr) _ _ hv;obtain⟨c,rfl,kc⟩:=oi u T;have i:=(t.tr fr).trans<|m.tr t.fr;refine⟨ep,_,j,c,rfl,m.kp D _ (t.kp D _ hD B) B,λx h=>?_,kc.s,?_,?_,λA=>?_⟩
 .obtain⟨z,h',rfl⟩:=Pj.mp h
  exact((C z h').1.tr i).s
 .rw[Pp];exact y
 .rw[OY];lia
 have tD:m_ F D H2 (upd H2 D<|bD D b A<|(d.map λz=>(z.1.1,z.2))++[(j,c,v2)]) I:=by
  refine⟨λa o h n _=>by rw[bb n];exact h,λa h q=>?_,fr.bgA,λb l q=>?_⟩
  .by_cases z:a=D
   .subst z;rw[aj]at q;cases q
   .rw[bb z]at q;exact m.fr.occ a h q
  .rw[bb (B b l q).1.symm,bb (B b l q).2.symm]
   exact m.fr.bag b l q
 have E:=tD.tr m.fr hA;refine k σ _ (((t.trans m).toD D).trans tD) (J.tr<|i.trans E) ⟨A,d++[((j,vv),c,v2)],by rw[Qc];rfl,by rw[Qc];exact aj,λz h=>?_⟩;rcases QB.mp h with h|h
 .exact⟨(C z h).1.tr<|i.trans E,c4.tr (i.trans E) _ _ (C z h).2⟩
 .cases P0.mp h
  exact⟨kc.tr E,c4.tr E _ _ R⟩
theorem wN{F:Fx}{H:Hp}{w:Type}{f:w->D}{g:w->V}:∀{a:List w},(∀z∈a,c4 K F H (f z)<|g z)->br K F H (a.map f) (a.map g)
 |[],_=>br.f5
 |z::a,h=>br.cons (h z Pa)<|wN λx b=>h x<|O1 z b
end
theorem wL{K:Pz}{E:a0r}{kb:Bool}{G:a0h}{M:a0a}{g:TG}{f:a0X}{P:FL}{w:m3}{S:a0p}{b:FL}(j:cN K g w)(k:dT w)(l:∀D,ft K (RD K kb) D (f D) b){i:St}{H:Hp}{Q:VK}(h:tV K (iA (VX G) M P w S b<|lP kb) E i H Q):
  l7 (λD=>bD D kb 0 []) G M (iV K P E) (λD J=>de J g (g0 K S E0)<|f D) i H Q:=by
 refine sQ j k l (λF H D=>⟨0,[],rfl,aj,λx a=>PU a<|by simp⟩) (λV d e=>?_) h λF v m D V d fr c n e q=>?_
 .obtain⟨kvs,s,_⟩:=wP e
  exact⟨kvs,[],by rw[QI];exact s⟩
 .obtain⟨kvs,s,rfl⟩:=wP e
  obtain⟨y,o,rfl,r,a⟩:=n;have t:kvs=o.map (·.1):=lB s.2.2.2 (λp u=>by
   obtain⟨z,h,rfl⟩:=Pj.mp u;exact(a z h).1.z) (by rw[<-s.1,Pp];rfl)
  refine q _ _ (To.refl fr) ?_;unfold c4;subst t;refine⟨D,y,_,rfl,⟨c,r⟩,by simp,λx h=>?_,?_⟩
  .obtain⟨z,h',rfl⟩:=Pj.mp h
   exact(a z h').1
  .rw[Pp,Pp]
   exact wN λz h=>(a z h).2
section
variable{X:Cx}{E:a0r}{J B t m:Expr}{p:List Expr}{n:a0O}{l:Scope}{q:Uq}{u L:a0h}{cy:a0a}{g:TG}{I:a0X}
theorem IS{kb:Bool}(hc:X.calm=O6)(S:di X l u L cy)(c:PI X t m<|iV X.K o E)
  (d:∀(w:a0n) (C:O7) (a:a0q) (s:Pe) (H:Hp),PG (aI X u l w C a s H) t g/\dW (aI X u l w C a s H) p (g0 X.K r E0)/\∀D,PB (aI X u l w C a s H) (.D J B) (⟨t,m,p,0⟩::n) l q 0 D<|I D)
  (e:cN X.K g k) (f:dT k) (i:∀D,ft X.K (RD X.K kb) D (I D) b) (G:∀x,Qq m X.e x=Rz x:=by intro _;rfl):
  PE X (.DictComp J B (⟨t,m,p,0⟩::n) l q) (tV X.K (iA (VX L) cy o k r b<|lP kb) E):=
 (Gm (b:=kb) hc S c d G).imp λj H Q h=>wL e f i h
noncomputable def iI:a0c->Option a0e
 |[]=>on []
 | .n i::r=>(iI r).map (i::·)
 |_=>OZ
def dR:Bool->D->Option et
 |false,.t ds=>(iI ds).map λl=>(0,l)
 |true,.t [.n i,.t ds]=>(iI ds).map λl=>(i,l)
 |_,_=>OZ
theorem rD:∀(l:a0e),iI (l.map .n)=on l
 |[]=>rfl
 |i::l=>by show(iI<|l.map .n).map _=_;rw[rD l];rfl
theorem lK:∀{n:a0c} {l:a0e},iI n=on l->n=l.map .n
 |[],l,h=>by cases h;rfl
 | .n i::r,l,h=>by
  have g:(iI r).map (i::·)=on l:=h;cases q:iI r with
  |none=>rw[q]at g;cases g
  |some m=>rw[q]at g;cases g;rw[lK q];rfl
 | .o::_,_,h=>by cases h
 | .c _::_,_,h=>by cases h
 | .q _::_,_,h=>by cases h
 | .ty _::_,_,h=>by cases h
 | .txt::_,_,h=>by cases h
 | .l _::_,_,h=>by cases h
 | .t _::_,_,h=>by cases h
 | .scr _::_,_,h=>by cases h
 | .obj _ _ _::_,_,h=>by cases h
 | .bag::_,_,h=>by cases h
 | .adr _::_,_,h=>by cases h
 | .dct _ _ _::_,_,h=>by cases h
theorem gY{b:Bool}(h:F_ b k):dR b (dK b k)=on k:=by
 cases b with
 |true=>show(iI _).map _=_;rw[rD];rfl
 |false=>show(iI _).map _=_;rw[rD];exact QG on<|QN (h rfl).symm rfl
theorem jN{b:Bool}(h:dR b d=on k):F_ b k/\d=dK b k:=by
 unfold dR at h;split at h
 .rename_i ds
  cases q:iI ds with
  |none=>rw[q]at h;cases h
  |some l=>rw[q]at h;cases h;exact⟨λ_=>rfl,by rw[lK q];rfl⟩
 .rename_i i ds
  cases q:iI ds with
  |none=>rw[q]at h;cases h
  |some l=>rw[q]at h;cases h;exact⟨λz=>(by cases z),by rw[lK q];rfl⟩
 .cases h
noncomputable def la(g:a0W)(l:a0c)(k:et):a0m:=((g.zip l).find? λp=>decide (p.1=k)).map (·.2)
variable{K:Pz}{F:Fx}{H:Hp}
def RelD(K:Pz)(F:Fx)(H:Hp):a0m->Option V->Prop
 |none,v=>v=OZ
 |some d,v=>∃u,v=on u/\c4 K F H d u
theorem qz:∀{l:a0o} {g:a0c},br K F H g (l.map (·.2.2))->RelD K F H (la (l.map (·.1)) g k) (nB l k)
 |[],g,_=>by unfold la nB;rfl
 |x::l,g,h=>by
  cases g with
  |nil=>cases h
  |cons d g=>
   obtain⟨u,r,e,a,b⟩:=h;rw[Pi,SN]at e;obtain⟨rfl,rfl⟩:=e;have m:=qz (k:=k) b;unfold la nB at m⊢;rw[Pi,Rl,RO,RO];by_cases q:x.1=k
   .rw[Pn q];exact⟨_,rfl,a⟩
   .rw[P8 q];exact m
def G4:D->D->a0m
 | .dct b ks vs,y=>(dR b y).bind<|la ks vs
 |_,_=>OZ
theorem Ie:aX K (Li K) G4:=λF H E Q G g d v y fr h i e k=>by
 unfold G4 at e;split at e
 .rename_i b ks vs
  cases q:dR b g with
  |none=>rw[q]at e;cases e
  |some f=>
   rw[q]at e;have j:la ks vs f=on d:=e;obtain⟨l,rfl⟩:=jN q;obtain⟨c,rfl,m⟩:=oi l i;unfold c4 at h;obtain⟨a,w,B,rfl,n,rfl,o,D⟩:=h;have:=qz (k:=f) D;rw[j]at this;obtain⟨u,p,r⟩:=this;exact⟨a,b,w,B,f,c,u,rfl,rfl,n.2,λx t=>(o x t).s,m.s,p,k u H (To.refl fr) r⟩
 .cases e
def NP(K:Pz):V->a0j->Hp->VK->Prop:=λx l H Q=>∃a b m g k c z,x= .r a/\l=[.r c,z]/\H a=on (bD a b m g)/\(∀x∈g,xr K H b x.1 x.2.1)/\xr K H b k c/\Q ((nB g k).getD z) H
variable{o e:Expr}{es:List Expr}{P w:Uq}
theorem JM(n:X.A.units+2<Uu):MtR X "dict.get" (NP X.K):=by
 intro l s L H x o v D Q I r t h;obtain⟨a,b,E,e,k,c,z,rfl,rfl,u,B,hc,q⟩:=h;cases r;obtain⟨N,C,rfl,r1,J⟩:=ux t;cases r1;obtain⟨j,d,p,_,g⟩:=jT I u B;have f:=kF (k:=k) p;refine call_meetsIn X3 d.typeIs PySem.F.entry_dict_get (PySem.F.args_dict_get_3 _ _ _) (meetsH_dict_get_default (KB X.p X.w b) a c g C) ⟨ji n,k,j,lI I hc,d,_,H,I.tok _,?_,q⟩;cases m:nB e k with
 |none=>
  rw[m]at f;cases i:(WV j k).map (·.2)with
  |none=>exact J
  |some w=>rw[i]at f;exact f.elim
 |some y=>
  rw[m]at f;cases i:(WV j k).map (·.2)with
  |none=>rw[i]at f;exact f.elim
  |some w=>rw[i]at f;exact f
def wH(f:FD)(g:FL):FD:=λe=>M.v (f e) λd=>match d with
 | .dct b ks vs=>M.v (g e) λl=>M.f (match l with
  |[k,z]=>(dR b k).map λk=>(la ks vs k).getD z
  |_=>OZ)
 |_=>M.j9
theorem Hv{g:FL}(hu:X.A.units+2<Uu)(ho:PE X o<|tV X.K f E)(ha:PA X (e::es)<|i_ X.K g E)
  (n:T7 o "get" X.e (Qz o X.e)=Qz o X.e:=by rfl)
  (B:((Ry w<|Po (e::es) X.e).all (λx=>!x.1)&&(SI w<|Rv [] X.e).all (λx=>x.1.isSome)
   &&decide (VX (e::es)+VX ([]:List WL)+(if([]:List WL).isEmpty then 0 else 1)<30))=O6:=by rfl)
  (p:(P.endLine==w.line)=O6:=by rfl) (hs:b0a X e es:=by rfl) (m:b0b X w es:=by rfl):
  PE X (.Call (.Attribute o "get" P) (e::es) [] w) (tV X.K (wH f g) E):=by
 intro j s J H Q I h;obtain⟨F,δ,β,fr,vk,h⟩:=h;refine Z6 n B p rfl<|d5 (ho j s J H _ I ⟨F,δ,β,fr,vk,(run.bind (R:=c4 X.K F) h)⟩) λv s1 h1=>?_;obtain⟨x,H1,I1,r1,d,S,t,hd,q1⟩:=h1;have V:∀{N:M D},N=M.j9->run (c4 X.K F) F E J N H1 Q S->False:=λ{N} e r=>by
  obtain⟨r,ae,e',_⟩:=r;rw[e]at e';cases e'
 cases d<;>first|exact(V rfl q1).elim|skip
 rename_i b ks vs;have C:=hd;unfold c4 at C;obtain⟨a,ep,G,rfl,O,rfl,hk,dl⟩:=C;cases r1;obtain⟨ys,dd,_,_,_⟩:=jT I1 O.2 λx T=>(hk x T).s;refine⟨"dict","dict.get",XD,X3,PySem.F.type_dict_get,dd.typeIs,λb e=>?_,?_⟩
 .cases e
  obtain⟨ob,_,_,g1,g2,_⟩:=dd;exact⟨ob,g1,g2.2.1⟩
 have hA:=ha w j s1 J H1 _ I1 ⟨F,δ,S,t.fr,vk.tr<|t.tr fr,run.bind (R:=br X.K F) q1⟩;rw[hs]at hA⊢;refine Vs (by show(O8||(Ry w (Po es X.e)).any (·.1))=O8;rw[m]<;>rfl) (Yo (d5 hA λus s2 h2=>?_))
 obtain⟨ws,L,I2,r2,as,af,t2,U,q2⟩:=h2;obtain⟨z,y,kf⟩:=run.j6 q2;have tt:=t2.tr t.fr;split at y
 .rename_i k zz
  cases W:dR b k with
  |none=>rw[W]at y;cases y
  |some i=>
   rw[W]at y;cases y;obtain⟨hz,rfl⟩:=jN W;obtain⟨w1,Y,rfl,Z,aa⟩:=br.j9 U;obtain⟨c,rfl,kc⟩:=oi hz Z;have ab:=br.tr tt _ _ dl;have ac:∀x∈G,xr X.K L b x.1 x.2.1:=λx T=>((hk x T).tr tt).s;refine JM hu j s2 J L (.r a) [.r c,Y] (.ref a) us Q I2 rfl r2 ⟨a,b,ep,G,i,c,Y,rfl,rfl,tt.kp a _ O.1 O.2,ac,kc.s,?_⟩;refine kf _ L (To.refl t2.fr) ?_;show c4 X.K F L ((la (G.map (·.1)) vs i).getD zz) ((nB G i).getD Y);have l:=qz (k:=i) ab;cases q:la (G.map (·.1)) vs i with
   |none=>
    rw[q]at l;have l':nB G i=OZ:=l;rw[l'];exact aa
   |some d=>
    rw[q]at l;obtain⟨u,l',ad⟩:=l;rw[l'];exact ad
 .cases y
end
end L2.Pu
namespace L2.Hs
section
variable{P:P6}{w:Qb}{A:Qy}{E:a0d}{s:Pe}{d z v:O7}{od:QS}{es:Array Ug}{ep i:Nat}{ok ov:Pb}
theorem AE(a:s.TypeIs (.ref d) "dict")(i:(d==W4)=O8)(h:Q (.ref s.heap.objs.size) {s with heap:=s.heap.push {cls:= .type "dict_items",data:= .fields #[.ref d]}}):Pq (PM P w) A (VI (.builtin "dict.items") [.ref d]) Q E s:=by
 refine Qr F.slot_dict_items a F.entry_dict_items ?_<|F.args_dict_items_1 _;unfold Builtin.«dict.items»;refine My ?_;unfold Builtin.Dict.noArgs;refine My<|wpAny_notOrdered_dict a ?_;show Pq _ _ (Rz d) _ _ s;refine O0 ?_;show Pq _ _ (WX d>>=_) _ _ s;unfold WX;rw[Pd<|by rw[i];exact Pf];exact My<|O0<|My<|QP<|O0 ⟨_,rfl,h⟩
theorem zO(a:s.heap.IsItemsView v d)(e:s.heap.get? d=on od)(i:od.data= .dict es ep)
  (h:Q (.ref s.heap.objs.size) {s with heap:=s.heap.push {cls:= .type "dict_itemiterator",data:= .fields #[.none,.bool O8,.ref d,.int 0 0,.int es.size 0,.int ep 0,.none,.none]}}):Pq (PM P w) A (WB<|.ref v) Q E s:=by
 obtain⟨o,b,f,c⟩:=id a;refine VC a.typeIs Y4<|Qr Y4 a.typeIs F.entry_dict_items_iter ?_<|F.args_dict_items_iter_1 _;unfold Builtin.«dict_items.__iter__»;refine My<|O0<|My ?_;unfold Builtin.Dict_items.dictOf;refine My<|QY b c (x:= .ref d) rfl<|O0<|My ?_;unfold Builtin.Dict_items.newIterator;refine My<|Xv e i<|My<|Yg e i ?_;simp only[show TK "dict_itemiterator"=O6 from by decide,Qs];refine QP (O0 ⟨_,rfl,"dict_itemiterator",_,⟨_,Px _ rfl,rfl⟩,Ru.lookup,?_⟩)
  (by simp only[sizeOk,UN,PH,PR,Pt,Xb,RI];lia)
 simpa[Tq,UN]using h
theorem zL(a:Vg s.heap z d i es.size ep ok ov)(h:Q (.ref z) s):Pq (PM P w) A (WB<|.ref z) Q E s:=by
 have c:s.TypeIs (.ref z) "dict_itemiterator":=⟨_,a,rfl⟩;refine VC c Xy<|Qr Xy c (b:=Builtin.«dict_keyiterator.__iter__») (YD (id':="dict_keyiterator.__iter__") (by kernel_rfl) rfl (by decide +kernel)<|by kernel_rfl) ?_<|F.args_dict_itemiterator_iter_1 _;show Pq _ _ (ret<|.ref z) _ _ s;exact O0 ⟨_,rfl,"dict_itemiterator",_,c,Ru.lookup,h⟩
theorem zM{e:Ug}(m:Vg s.heap z d i es.size ep ok ov)(K:s.heap.get? d=on od)(M:od.data= .dict es ep)(Y:es[i]?=on e)
  (S:∀v,IsItemIterOut v z d (i+1) es.size ep e.key e.val s.heap.objs.size->v.get? s.heap.objs.size=on {cls:= .type "tuple",data:= .seq #[e.key,e.val]}->v.objs.size=s.heap.objs.size+1->
   (∀b o,b≠z->s.heap.get? b=on o->v.get? b=on o)->Q (on<|.ref s.heap.objs.size) {s with heap:=v}):Pq (PM P w) A (Ul<|.ref z) Q E s:=by
 obtain⟨n,g,T,U,D⟩:=s;have u:Shared.TypeIs ⟨n,g,T,U,D⟩ (.ref z) "dict_itemiterator":=⟨_,m,rfl⟩;have W:i<es.size:=by
  rcases SY i es.size with h|h
  .exact h
  .simp[SQ h]at Y
 obtain rfl:es[i]=e:=by rw[UM W]at Y;exact P3 Y
 unfold Ul;refine My<|T8 (wpAny_callSpecial?_slot (name:=QT "__next__") u Ru
  (Qr Ru u Xk ?_<|W8 _))
 refine My<|O0<|My<|My ?_
 first|refine My (S3 u (O0 ?_))|refine My (TY u (O0 ?_))
 refine My<|WC m rfl ?_;simp only[show TK "dict_itemiterator"=O6 from by decide,Qs];show Pq _ _ (if(Pw d==Qn)=O6 then _ else _) _ _ _;rw[Pd (show ¬((Pw d==Qn)=O6)from Pf)];refine My<|O0<|My<|Xv K M ?_;rw[Pd<|by simp];refine My<|O0<|My<|Yg K M ?_;rw[Pd<|by simp];refine O0 ?_;simp only[show ¬((i:Int)<0)from by lia,QA,Ra,UM W];refine My ?_
 first|refine My (S3 u (O0 ?_))|refine My (TY u (O0 ?_))
 refine My<|Wa u ?_;show Pq _ _ (YL (.ref z) 3 (Tq<|(i:Int)+1)>>=_) _ _ ⟨n,g,T,U,D⟩;refine My<|Rf m (by simp) λa c f=>?_
 replace f:P7 z n a:=f
 replace c:Vg a z d (i+1) es.size ep ok ov:=by
  have e:((i+1:Nat):Int)=(i:Int)+1:=by lia
  unfold Vg;rw[e];simpa[Tq]using c
 have l:Shared.TypeIs ⟨a,g,T,U,D⟩ (.ref z) "dict_itemiterator":=⟨_,c,rfl⟩;refine My<|QL<|My<|Wa l<|My<|Wa l ?_;show Pq _ _ (Va (.ref z) 6 es[i].key es[i].val) _ _ ⟨a,g,T,U,D⟩;unfold Va;refine My<|WF ?_;have j:Vg (a.push {cls:= .type "tuple",data:= .seq #[es[i].key,es[i].val]}) z d (i+1) es.size ep ok ov:=O3 _ c;have k:a.objs.size=n.objs.size:=f.1;have Z:z≠n.objs.size:=Qm<|PQ m;have y:(a.push {cls:= .type "tuple",data:= .seq #[es[i].key,es[i].val]}).get? n.objs.size=on {cls:= .type "tuple",data:= .seq #[es[i].key,es[i].val]}:=by rw[<-k];exact Px _ rfl
 have B:(a.push {cls:= .type "tuple",data:= .seq #[es[i].key,es[i].val]}).objs.size=n.objs.size+1:=by rw[QZ,k]
 have C:∀b o,b≠z->n.get? b=on o->(a.push {cls:= .type "tuple",data:= .seq #[es[i].key,es[i].val]}).get? b=on o:=λb o X e=>O3 _<|f.extBut b o X e;generalize a.push {cls:= .type "tuple",data:= .seq #[es[i].key,es[i].val]}=h₂ at*;show Pq _ _ (UO (.ref z)>>=_) _ _ ⟨h₂,g,T,U,D⟩;rw[k];refine My ?_;unfold UO;refine My<|QY j rfl (x:= .none) rfl<|O0 ?_;simp only[Qs];refine My<|QY j rfl (x:=ok) rfl<|My<|QY j rfl (x:=ov) rfl ?_;refine My<|Rf j (by simp) λp F H=>?_;refine My<|Rf F (by simp) λq I J=>?_;refine My<|Rf I (by simp) λr L N=>?_;refine My<|Rf L (by simp) λt O R=>?_;have G:=((show P7 z h₂ p from H).trans (show P7 z p q from J)).trans<|(show P7 z q r from N).trans (show P7 z r t from R);exact My<|WD<|O0<|O0 ⟨_,rfl,O0<|S t O (G.extBut _ _ Z.symm y) (by rw[G.1,B]) λb o X e=>G.extBut b o X<|C b o X e⟩
theorem Ez(g:A.handled=OZ)(c:Vg s.heap z d i es.size ep ok ov)(f:s.heap.get? d=on od)(v:od.data= .dict es ep)(h:es.size<=i)
  (j:∀D,WZ z s.heap D->Q OZ {s with heap:=D}):Pq (PM P w) A (Ul<|.ref z) Q E s:=by
 have e:s.TypeIs (.ref z) "dict_itemiterator":=⟨_,c,rfl⟩;unfold Ul;refine My<|T8 (wpAny_callSpecial?_slot (name:=QT "__next__") e Ru
  (Qr Ru e Xk ?_<|W8 _))
 refine My<|O0<|My<|My ?_
 first|refine My (S3 e (O0 ?_))|refine My (TY e (O0 ?_))
 refine My<|WC c rfl ?_;simp only[show TK "dict_itemiterator"=O6 from by decide,Qs];show Pq _ _ (if(Pw d==Qn)=O6 then _ else _) _ _ s;rw[Pd (show ¬((Pw d==Qn)=O6)from Pf)];refine My<|O0<|My<|Xv f v ?_;rw[Pd<|by simp];refine My<|O0<|My<|Yg f v ?_;rw[Pd<|by simp];refine O0 ?_;simp only[show ¬((i:Int)<0)from by lia,QA,Ra,SQ h];refine My ?_
 first|refine My (S3 e (O0 ?_))|refine My (TY e (O0 ?_))
 show Pq _ _ (YL (.ref z) 2 .none>>=_) _ _ s;refine My<|Sw c rfl (by simp) ?_;show Pq _ _ (Z2 (.type "StopIteration") []>>=_) _ _ _;refine My ?_;simp only[Z2,newTuple];refine My (QP ?_<|by size_fits);refine My (m:=Uk _ _)<|TF (a:=Qn) (by first|rfl|(simp only[Uk];rfl)) ?_
 refine QP ?_ (by size_fits);simp only[raiseNew];refine My<|Zo ?_;rw[show A.in1.handled=OZ from g];refine My<|O0<|wpAny_throw ?_;refine My<|Sk (T:="StopIteration") (b:=O6) ⟨_,Px _ rfl,rfl⟩ YH ?_;exact O0<|j _<|((Rb ..).extBut.push _).push _
end
end L2.Hs
namespace L2.Pu
open L2.Hs
noncomputable def Iti(a:O7)(D n:Nat):It:=
 ⟨λi H=>∃b w,H a=on (bD a b D w)/\VX w=n/\i<n,
  λi H v c=>∃p x,H p=OZ/\v= .r p/\c=upd H p (.t [.r x.1,x.2])/\∀b w,H a=on (bD a b D w)->(w[i]?).map (·.2)=on x,
  λi H=>∃b w,H a=on (bD a b D w)/\VX w=n/\i=n⟩
theorem Hk:∀{w:a0o} {D:a0E} {i:Nat} {y:et×O7×Pb},Vi XY w D->D[i]?=on y->∃x,w[i]?=on x/\XY x y
 |_,_,0,_,.cons h t,e=>by cases e;exact⟨_,rfl,h⟩
 |_,_,i+1,_,.cons h t,e=>Hk (i:=i) t e
 |_,_,0,_,.nil,e=>by cases e
 |_,_,_+1,_,.nil,e=>by cases e
section
variable{X:Cx}{a_:a0b}{σ:St}{H:Hp}{s:Pe}{a:O7}{b:Bool}{ep i:Nat}{xs:a0o}
theorem qY(I:cx X a_ σ H s)(h:H a=on (bD a b ep xs)):∃(o:QS) (es:Array Ug),s.heap.get? a=on o/\o.data= .dict es ep/\es.size=VX xs/\o.ExactDict/\(a==W4)=O8/\∀(i:Nat) (e:Ug),es[i]?=on e->∃x,xs[i]?=on x/\e.key= .ref x.2.1/\aL x.2.2 e.val:=by
 obtain⟨o,es,w,j,k,l,d,h5,m,u,g⟩:AJ a b ep xs s.heap:=(I.hok a _ h).1;have n:VX w=VX xs:=by rw[<-OY (f:=(·.1)),<-ny g,OY]
 refine⟨o,es,j,l,by rw[<-Qe,d,OY,n],k,m,λi e c=>?_⟩;rw[<-S6,d,O9]at c;cases q:w[i]? with
 |none=>rw[q]at c;cases c
 |some y=>
  rw[q]at c;cases c;obtain⟨x,p,_,r,t⟩:=Hk g q;exact⟨x,p,by rw[r],t⟩
theorem yH{P:P6}{w:Qb}{K:Pz}{x1}(a M:O7)(n ep:Nat):
  oa P w K (.Tuple elts x1 pos) (Iti a ep n) [M] M (λi h=>∃G d,Vg h M a i n ep G d) where
 mem:=by simp
 obj:=λi h D b c=>by
  obtain⟨G,d,e⟩:=D;cases P0.mp c;exact⟨_,e,λv q=>by cases q⟩
 keep:=λi h S D k=>by
  obtain⟨G,d,e⟩:=D;exact⟨G,d,k M (by simp) _ e⟩
 item:=by
  intro X l m p hc i a_ s σ H E I f D r;subst l m p;obtain⟨G,d,e⟩:=D;obtain⟨b,xs,t,T,F⟩:=r;obtain⟨o,es,g,j,U,h4,h5,W⟩:=qY I t;have V:n=es.size:=by lia
  subst V;have A:es[i]?=on es[i]:=UM F;refine zM e g j A λS Y Z sz kp=>⟨_,rfl,wpAny_letOwnedTupleGo_items (s:={s with heap:=S}) Y λB ei J=>?_⟩;obtain⟨x,ex,L,N⟩:=W i _ A;have O:s.heap.objs.size≠M:=Sd<|PQ e;have I2:cx X a_ σ (upd H s.heap.objs.size<|.t [.r x.2.1,x.2.2]) {s with heap:=B,toks:=s.toks}:=
   cx.j8 I f (λb u c q=>J.extBut b u (λz=>c<|by rw[z];simp)<|kp b u (λz=>c<|by rw[z];simp) q) (Pg _) ⟨by show 2<=Ps;decide,[es[i].key,es[i].val],.cons L<|.cons N .nil,_,J.extBut _ _ O Z,rfl,_,rfl⟩
  refine⟨.r s.heap.objs.size,_,I2,rfl,⟨s.heap.objs.size,x.2,I.hok.fresh<|Pg _,rfl,rfl,λb' aa C=>?_⟩,⟨_,_,ei⟩,λb c=>?_⟩
  .obtain⟨o',es',Q,R,_,_,_,g6⟩:=qY I C
   rw[g]at Q;cases Q;rw[j]at R;cases R;obtain⟨y,ey,fk,fv⟩:=g6 i _ A;rw[ey];rw[L]at fk
   injection fk with fk
   exact QG on<|QN fk.symm<|aL.inj fv N
  .cases P0.mp c
   rw[bb O.symm];exact(f _ c).1
 done:=by
  intro X l m p hc i a_ s σ H E I f D r;subst l m p;obtain⟨G,d,e⟩:=D;obtain⟨b,xs,t,T,F⟩:=r;obtain⟨o,es,g,j,U,_⟩:=qY I t;have V:n=es.size:=by lia
  subst V;refine Ez (I.ok.hd hc) e g j (by lia) λS kp=>⟨rfl,cx.l8 (t':=s.toks) I f λb o c q=>kp b o (λz=>c<|by rw[z];simp) q⟩
 self:=λ_ _ _ _ _ D h=>by
  obtain⟨G,d,e⟩:=D;exact zL (es:=(Py n (⟨0,.none,.none⟩:Ug)).toArray) (by rw[PH,Rt];exact e) h
variable{E:a0r}{K:Pz}{o:Expr}{w i z:Uq}{B:List Expr}{C:Nat}
def iItm(i:TE):TI:=λσ H R=>i σ H λx c=>∃a b ep xs,x= .r a/\c a=on (bD a b ep xs)/\R (Iti a ep<|VX xs) c
theorem Gd(p:PE X o to)(c:T7 o "items" X.e (Qz o X.e)=Qz o X.e:=by rfl)(d:(w.endLine==i.line)=O6:=by rfl):PI X (.Tuple B C z) (.Call (.Attribute o "items" w) [] [] i) (iItm to):=by
 intro a_ s σ H R I h;refine wpAny_Call_method0_late c d<|d5 (p a_ s σ H _ I h) λv f g=>?_;obtain⟨x,m,n,r1,a,b,ep,xs,rfl,r,q⟩:=g;cases r1;obtain⟨j,D,g,t,u,k,h5,_⟩:=qY n r;refine⟨"dict","dict.items",XD,PySem.F.slot_dict_items,PySem.F.type_dict_items,⟨j,g,k.1⟩,λb e=>?_,?_⟩
 .cases e;exact⟨j,g,k.2.1⟩
 refine Vs rfl<|PySem.evalArgs_none<|AE ⟨j,g,k.1⟩ h5 ?_;have l:cx X a_ σ m {f with heap:=f.heap.push {cls:= .type "dict_items",data:= .fields #[.ref a]},toks:=f.toks}:=n.kept λb o e=>O3 _ e;refine zO (s:={f with heap:=f.heap.push {cls:= .type "dict_items",data:= .fields #[.ref a]}}) ⟨_,Px _ rfl,rfl,rfl⟩ (O3 _ g) t ?_;rw[u];exact⟨_,[_],_,_,m,rfl,l.kept (t':=f.toks) λb o e=>O3 _ e,yH a _ _ ep,⟨_,_,Px _ rfl⟩,λb y=>by
  cases P0.mp y;exact l.fpOk (Pg _)<|l.hok.fresh<|Pg _,q⟩
def itmD:D->a0A
 | .dct b ks vs=>on<|SU (λk v=> .t [dK b k,v]) ks vs
 |_=>OZ
theorem EA{F:Fx}{H:Hp}{b:Bool}{a:O7}{ep:Nat}{xs:a0o}(B:¬F.A a)(C:H a=on (bD a b ep xs))(g:T=xs.map (·.1))(I:∀x∈xs,fL K F H b x.1 x.2.1)(s:br K F H U<|xs.map (·.2.2)):zv K (Iti a ep<|VX xs) F H (SU (λk v=> .t [dK b k,v]) T U):=λQ h w t fr i=>by
 have z:VX U=VX xs:=by rw[s.length,OY]
 have J:VX T=VX xs:=by rw[g,OY]
 have c:=t.kp a _ B C;refine⟨λd o=>?_,λe=>⟨b,xs,c,rfl,by rw[e,We,J,z,Nat.min_self]⟩⟩;have e:i<VX xs:=by
  have:=(Pl.mp o).1;rw[We]at this;lia
 refine⟨⟨b,xs,c,rfl,e⟩,λy R L=>?_⟩;obtain⟨p,x,j,rfl,rfl,N⟩:=L;have l:=N b xs c;rw[O4 e]at l;have f:xs[i].2=x:=P3 l;subst f;have m:bP h (upd h p<|.t [.r xs[i].2.1,xs[i].2.2]):=bP.upd j;obtain⟨v,n⟩:∃v,U[i]?=on v:=⟨_,O4<|by lia⟩;have O:T[i]?=on xs[i].1:=by rw[g,O9,O4 e];rfl
 rw[Yq,O,n]at o;cases o;have D:=br.tr t _ _ s;obtain⟨u,q,E⟩:=D.get n;rw[O9,O4 e]at q;cases q;have r:=(fr.same m).tr fr;exact⟨m,pU (.inl ⟨fr.fresh j,.inl aj⟩)<|br.cons (c4.tr r _ _<|NY<|(I _<|Qd e).tr t)<|br.cons (c4.tr r _ _ E) br.f5⟩
def Gy(f:FD):FL:=λa=>M.v (f a) λd=>M.f<|itmD d
theorem yc(m:PE X o<|tV X.K f E)(c:T7 o "items" X.e (Qz o X.e)=Qz o X.e:=by rfl)(g:(w.endLine==i.line)=O6:=by rfl):PI X (.Tuple B C z) (.Call (.Attribute o "items" w) [] [] i) (iV X.K (Gy f) E):=
 (Gd m c g).imp λσ H R j=>lm j λF s D fr n h=>⟨F,s,D,fr,n,(run.bind (R:=c4 X.K F) h).mono λv p j=>by
  obtain⟨d,G,t,b,r1⟩:=j;obtain⟨P,e,k⟩:=run.j6 r1;cases d<;>first|(cases e;done)|skip
  cases e;unfold c4 at b;obtain⟨a,ep,xs,rfl,l,q,r,M⟩:=b;exact⟨a,_,ep,xs,rfl,l.2,k _ p (To.refl t.fr)<|EA l.1 l.2 q r M⟩⟩
end
end L2.Pu
namespace L2.Hs
theorem xX:mroOf (.type "reversed")=Rz [.type "reversed",.type "object"]:=by rw[mroOf_type];kernel_rfl
theorem GF:typeLookup (.type "reversed") "__new__"=Rz (on<|.builtin "reversed.__new__"):=by rw[Ye,Wm];kernel_rfl
theorem GB:Bind.madeBy (.type "reversed")=Rz (on "reversed.__new__"):=madeBy_type xX GF (by decide +kernel)
theorem Ja:isSubtype (.type "reversed") (.type "reversed")=Rz O6:=by rw[Vn];kernel_rfl
theorem FP:isSubtype (.type "range_iterator") (.type "reversed")=Rz O8:=by rw[Vn];kernel_rfl
theorem Kc:entryFor table "reversed.__new__"=on Builtin.«reversed.__new__»:=entryFor_of_tree (by kernel_rfl)
section
variable{l:P6}{w:Qb}{A:Qy}{E:a0d}{s:Pe}
theorem G7(a:IsRange s.heap r 0 n 1 t u v)(j:0<=n)(g:n<2^62)
  (h:Q (.ref s.heap.objs.size) {s with heap:=s.heap.push {cls:= .type "range_iterator",data:= .fields #[Tq<|n-1,Tq n,Tq<|-1]}}):Pq (PM l w) A (VI (.type "reversed") [.ref r]) Q E s:=by
 refine Vp<|Yd ?_;show Pq _ _ (callAny (.type "reversed") _) _ _ _;refine O0 ⟨Wp _ (by decide +kernel),Yc F.entry_type_call ?_⟩;rw[Around.under_plain (weight_type_call_type "reversed" [.ref r] [])<|units_type_call_type "reversed" [.ref r] []];have g:(SC "reversed"==SC "type")=O8:=by decide +kernel
 have k:((Zs "reversed").bind (·.mro.findSome? λt=>(Zs t).bind λb=>if b.noNew then on O6 else if b.attrs.any (·.1=="__new__")then on O8 else OZ)).getD O8=O8:=by decide +kernel
 have e:=xX;have c:=GB;have i:checkTypeCall "reversed" ⟨[.ref r],[]⟩=Rz ():=by kernel_rfl
 repeat (any_goals (first|assumption|wp_step))
 refine UI (by decide +kernel) Kc<|TF (show XN "reversed.__new__" ⟨[.type "reversed",.ref r],[]⟩=Rz () by kernel_rfl) ?_;have f:s.TypeIs (.ref r) "range":=⟨_,a,rfl⟩;unfold Builtin.«reversed.__new__»
 repeat (any_goals (first|assumption|wp_step))
 refine TF Ja<|O0 ?_;refine My (m:=U2 _ _ _) ?_;refine TF (show U2 "reversed" (SC "reversed") ⟨[.type "reversed",.ref r],[]⟩=Rz ()from rfl) ?_;refine My (m:=checkCount "reversed" 1 1 _)<|O0 ?_;show Pq _ _ (specialOf (.ref r) (QT "__reversed__")>>=_) _ _ s;refine My<|SG f F.slot_range_reversed.lookup ?_;show Pq _ _ (bindSpecial (.builtin "range.__reversed__") (.ref r)>>=_) _ _ s;refine My<|TF (F.slot_range_reversed.bind _) ?_;show Pq _ _ (rule "reversed.__new__.own-method">>=_) _ _ s;refine My<|Tf<|My<|wpAny_runValue<|UI F.slot_range_reversed.plain F.entry_range_reversed<|F.slot_range_reversed.check _ _ _ _ _ _ _ _ f (F.args_range_reversed_1 _) ?_;unfold Builtin.«range.__reversed__»;refine My (m:=selfOnly "range.__reversed__" _)<|O0<|My ?_;unfold Builtin.Range.rangeFields;refine My<|QY a rfl (x:= .int 0 t) rfl<|My (m:=asInt? _)<|O0 ?_;refine My<|QY a rfl (x:= .int n u) rfl<|My (m:=asInt? _)<|O0 ?_;refine My<|QY a rfl (x:= .int 1 v) rfl<|My (m:=asInt? _)<|O0<|O0 ?_;have D:WK 0 n 1=n:=by rw[rangeSize_one];split<;>lia
 simp only[D];have d:(QW 0&&QW n&&QW 1&&QW (-1)&&QW (0-1)&&QW n)=O6:=by
  have:QW n=O6:=by unfold QW;simp;lia
  rw[this];decide
 simp only[d,Qs,Sc,PF,QA];rw[show(0:Int)+(n-1)*1=n-1 by lia];refine My<|QP<|O0<|O0 ?_;exact My<|Sk (T:="range_iterator") (b:=O8) ⟨_,Px _ rfl,rfl⟩ FP<|My<|Tf<|O0 h
end
end L2.Hs
namespace L2.Pu
open L2.Hs
noncomputable def Itd(n:Nat):It:=⟨λi _=>i<n,λi H v a=>v= .n ((n:Int)-1-i)/\a=H,λi _=>n<=i⟩
theorem wY{P:P6}{w:Qb}{K:Pz}(G:O7)(n:Nat):oa P w K x (Itd n) [G] G (λi h=>XV h G ((n:Int)-1+(i:Nat)*-1) ((n:Int)-(i:Nat))<|-1) where
 mem:=by simp
 obj:=λi h D b c=>by
  cases P0.mp c;exact⟨_,D,λv z=>by
   have B:Data.fields _=Data.cell v:=z;cases B⟩
 keep:=λi h M D k=>k G (by simp) _ D
 item:=by
  intro X g j l hc i a s y H E I f D m;subst g j l;obtain⟨p,f1,f2,q,r,u⟩:=f G (by simp);refine(Walks.range (prog:=X.p) (w:=X.w) (I.ok.hd hc) G ((n:Int)-1) (-1) n).item i s _ _ m D λv M A C d F=>?_;obtain⟨t,rfl⟩:=C;have J:cx X a y H {s with heap:=M,toks:=A}:=I.turned (λb o c e=>F b o (by simpa using c) e) p f1 q r u;exact⟨_,rfl,uO (s:={s with heap:=M,toks:=A}) (n:="range_iterator") d rfl rfl (by decide) ⟨.n<|(n:Int)-1-i,H,J,⟨t,by rw[show(n:Int)-1+(i:Int)*-1=(n:Int)-1-i by lia]⟩,⟨rfl,rfl⟩,d,λb c=>(f b c).1⟩⟩
 done:=by
  intro X g j l hc i a s y H E I f D m;subst g j l;obtain⟨p,f1,f2,q,r,u⟩:=f G (by simp);exact Z8 (I.ok.hd hc) D (by have:n<=i:=m;lia) λM L=>⟨rfl,I.turned (t':=s.toks) (λb o c e=>L b o c e) p f1 q r u⟩
 self:=λ_ _ _ _ _ D h=>Wb D h
section
variable{X:Cx}{E:a0r}{K:Pz}{B:Expr}
def OI(a:TA):TI:=λb H R=>a b H λw c=>∃j:Int,w=[.n j]/\0<=j/\j<2^62/\R (Itd j.toNat) c
theorem DA(f:Gl X "reversed")(g:X.mg "reversed"=OZ)(n:Gl X "range")(w:X.mg "range"=OZ)(D:PA X [a] A)(E:Po [a] X.e=[(O8,Qz a X.e)]:=by rfl)
  (i:Po [.Call (.Name "range" p) [a] [] z] X.e=[(O8,Qz (.Call (.Name "range" p) [a] [] z) X.e)]:=by rfl):PI X B (.Call (.Name "reversed" p2) [.Call (.Name "range" p) [a] [] z] [] pos2) (OI A):=by
 intro c s l H R I h;refine Call_<|fR I f g Boot.«reversed»<|Re ?_ i rfl;refine Y2<|Call_<|fR I n w boot_range<|Re (d5 (D z c s l H _ I h) λM d r=>?_) E rfl;obtain⟨P,m,v,r1,j,rfl,G,K,q⟩:=r;obtain⟨u,rfl,t,rfl⟩:=k8 r1;refine call_range_1<|Zq<|G7 (IsRange.new ..) G K<|Wb (x:=j-1) (left:=j) (step:=-1) (Px _ rfl) ?_;have k:cx X c l m {d with heap:=d.heap.push {cls:= .type "range",data:= .fields #[.int 0 d.toks,.int j t,.int 1<|d.toks+1]},toks:=d.toks+1+1}:=v.kept λb o e=>O3 _ e;refine⟨_,[_],_,_,m,rfl,k.kept (t':=d.toks+1+1) λb o e=>O3 _ e,wY _ j.toNat,?_,λb y=>?_,q⟩
 .show XV _ _ (((j.toNat:Nat):Int)-1+((0:Nat):Int)*-1) (((j.toNat:Nat):Int)-((0:Nat):Int)) (-1)
  rw[show((j.toNat:Nat):Int)-1+((0:Nat):Int)*-1=j-1 by lia,show((j.toNat:Nat):Int)-((0:Nat):Int)=j by lia];exact Px _ rfl
 .cases P0.mp y
  exact k.fpOk (Pg _)<|k.hok.fresh<|Pg _
noncomputable def iT(n:Nat):a0c:=(Ph n).map λ(i:Nat)=> .n<|(n:Int)-1-i
theorem zP:zv K (Itd n) F H (iT n):=λe f B t fr i=>by
 refine⟨λd w=>?_,λa=>?_⟩
 .unfold iT at w
  have a:i<n:=by
   have:=(Pl.mp w).1;simpa using this
  rw[O9,QU a]at w;cases w;exact⟨a,λx g ⟨b,c⟩=>by subst b c;exact⟨bP.refl _,rfl⟩⟩
 .show n<=i
  rw[a];simp[iT]
def uy:a0c->a0A
 |[.n j]=>if(decide (0<=j)&&decide (j<2^62))=O6 then on (iT j.toNat)else OZ
 |_=>OZ
theorem GU(b:Gl X "reversed")(c:X.mg "reversed"=OZ)(j:Gl X "range")(w:X.mg "range"=OZ)(D:PA X [a]<|i_ X.K g E)(G:Po [a] X.e=[(O8,Qz a X.e)]:=by rfl)
  (d:Po [.Call (.Name "range" p) [a] [] r] X.e=[(O8,Qz (.Call (.Name "range" p) [a] [] r) X.e)]:=by rfl):PI X B (.Call (.Name "reversed" p2) [.Call (.Name "range" p) [a] [] r] [] pos2) (iV X.K (bV uy g) E):=
 (DA b c j w D G d).imp λq H R f=>lm f λF M P fr m h=>⟨F,M,P,fr,m,(run.bind (R:=br X.K F) h).mono λs n f=>by
  obtain⟨u,S,t,V,r1⟩:=f;obtain⟨l,e,k⟩:=run.j6 r1;unfold uy at e;split at e
  .split at e
   .rename_i i
    cases e;simp only[PV,P9]at i;obtain⟨v,rfl,o⟩:=br.j6 V;cases o.int;exact⟨_,rfl,i.1,i.2,k _ n (To.refl t.fr) zP⟩
   .cases e
  .cases e⟩
variable{e m:Expr}{z tm:TE}{L N:Uq}
theorem Gc(e:a0g):ZK e.toArray OZ OZ (on<|-1)=e.reverse.toArray:=by
 have a:TD OZ OZ (on<|-1) e.toArray.size=((VX e:Int)-1,-1,-1):=by simp[TD]
 unfold ZK;rw[a];refine QG _ ?_;have b:sliceRange ((VX e:Int)-1) (-1) (-1)=(Ph<|VX e).map λk=>VX e-1-k:=by
  unfold sliceRange;have hc:(if(-1:Int)>0 then(if(VX e:Int)-1< -1 then(-1-((VX e:Int)-1)+-1-1)/ -1 else 0)else(if(VX e:Int)-1>-1 then((VX e:Int)-1- -1- -1-1)/(- -1)else 0)).toNat=VX e:=by
   rw[Pd<|by decide];split
   .rw[show(- -1:Int)=1 by decide,Int.ediv_one];lia
   .lia
  simp only[hc];exact P4 λk _=>by lia
 show(sliceRange ((VX e:Int)-1) (-1)<|-1).filterMap _=_;rw[b,List.filterMap_map];rcases e with _|⟨x,r⟩
 .rfl
 generalize f:x::r=e;rw[wC (g:=λk=>e.getD (VX e-1-k) x) λk c=>by
  have:k<VX e:=PN.mp c;simp only[UK,VO];rw[O5,O4<|by lia];rfl]
 refine RB (by simp) λi d h=>?_;have j:i<VX e:=by simpa using d
 rw[RC,Sh,YS,O5,O4<|by lia];rfl
def tRev(K:Pz)(z tm:TE):TE:=λc H Q=>z c H λx d=>tm c d λy b=>∃a e,x= .r a/\y= .n (-1)/\eX K b a e/\∀p,b p=OZ->Q (.r p) (upd b p<|.l e.reverse)
theorem LC(l:PE X e z)(E:PE X m tm):PE X (.Subscript e (.Slice OZ OZ (on m) N) L) (tRev X.K z tm):=by
 intro c s f H Q I h;refine Subscript_<|d5 (l c s f H _ I h) λv n o=>?_;obtain⟨x,p,r,r1,G⟩:=o;refine wpAny_Slice ?_;rw[Zk];refine O0<|O0 ?_;rw[evalPart_some];refine d5 (E c n f p _ r G) λu d B=>?_;obtain⟨y,C,g,F,a,M,rfl,rfl,P,q⟩:=B;cases r1;obtain⟨t,rfl⟩:=F;obtain⟨its,i,D,j⟩:=g.list P;have k:cx X c f C {d with heap:=d.heap.push {cls:= .type "slice",data:= .fields #[.none,.none,.int (-1) t]}}:=g.kept (t':=d.toks) λb J q=>O3 _ q;show Pq (PM X.p X.w) X.A (Zm e (.Slice OZ OZ (on m) N) (.ref a)<|.ref d.heap.objs.size) (EP X c f Q) X.xe {d with heap:=d.heap.push {cls:= .type "slice",data:= .fields #[.none,.none,.int (-1) t]}};refine tail_any (ops:=[.ref a,.ref d.heap.objs.size]) (D.isList.push _).typeIs slot_list_getitem.lookup (Zn (D.isList.push _) (W9 ..) .none .none (.int (-1) t) (by simp) ?_<|by rw[PH,<-i.length];exact j) (by with_unfolding_all rfl)
 rw[Gc];exact⟨.r _,_,k.lnew (t':=d.toks) (its:=its.reverse) (ys:=M.reverse) i.reverse (by rw[Y7];exact j),rfl,q _<|k.hok.fresh<|Pg _⟩
noncomputable def Lf:D->D->a0m
 | .l ds,.n (-1)=>on<|.l ds.reverse
 |_,_=>OZ
theorem br.reverse:∀{m:a0c} {e:a0j},br K F H m e->br K F H m.reverse e.reverse
 |[],e,h=>by have q:e=[]:=h;subst q;exact br.f5
 |d::m,e,h=>by
  obtain⟨x,r,rfl,a,b⟩:=h;rw[U5,U5];exact br.append (br.reverse b)<|br.cons a br.f5
theorem Nn(o:PE X e<|tV X.K f E)(D:PE X m<|tV X.K g E):PE X (.Subscript e (.Slice OZ OZ (on m) N) L) (tV X.K (f2 Lf f g) E):=
 (LC o D).imp λr H Q b=>lm b λF B G fr l h=>⟨F,B,G,fr,l,(run.bind (R:=c4 X.K F) h).mono λv u b=>pj b λd w t M r1=>⟨F,B,w,t.fr,l.tr<|t.tr fr,(run.bind (R:=c4 X.K F) r1).mono λy A b=>pj b λx P i j q=>by
  obtain⟨z,c,k⟩:=run.j6 q;unfold Lf at c;split at c
  .cases c
   obtain⟨a,S,rfl,V,s⟩:=c4.j6<|c4.tr (i.tr t.fr) _ _ M;cases j.int;exact⟨a,S,rfl,rfl,V,λp n=>k _ _ (i.fr.upd _ n)<|c4.j7 i.fr n<|br.reverse s⟩
  .cases c⟩⟩
end
end L2.Pu
namespace L2.Pu
theorem hu2{A:Qy}(a:ee k A):A.units+2<Uu:=Rc (Zt (by decide:2<=64) _) a.f5
open L2.Hs
section
variable{X:Cx}{E:a0r}{ke ve b_ aa:Expr}{ad:List Expr}{ab:a0O}{P:Scope}{ac:Uq}{Nc c_:a0h}{cy:a0a}{g:TG}{tb:a0X}
theorem Js{kb:Bool}{b d:Uq}(y:X.N.Nodup)(k:X.N[i]?=on x)(B:F3 X.e.scope x)(hc:X.calm=O6)(S:di X P Nc c_ cy)(F:PI X b_ aa wi)
  (L:∀(E:a0n) (C:O7) (j:a0q) (s:Pe) (H:Hp),PG (aI X Nc P E C j s H) b_ g/\dW (aI X Nc P E C j s H) ad tt/\∀D,PB (aI X Nc P E C j s H) (.D ke ve) (⟨b_,aa,ad,0⟩::ab) P ac 0 D<|tb D)
  (l:TU (.DictComp ke ve (⟨b_,aa,ad,0⟩::ab) P ac) (on<|.Name x b) d.line X.e=Rz O6:=by rfl)
  (K:∀x,Qq aa X.e x=Rz x:=by intro _;rfl) (O:b0d X x:=by first|exact .inl rfl|exact .inr rfl|assumption):
  PS X (.Assign [.Name x b] (.DictComp ke ve (⟨b_,aa,ad,0⟩::ab) P ac) d) (gl (l7 (λD=>bD D kb 0 []) c_ cy wi λD J=>de J g tt<|tb D)<|d7 i):=by
 intro f s R H D I h;rw[exec_Assign_Name_used _ _ _ _ l];refine My<|Q3<|My ?_;show Pq _ X.A (do let _ <-comprehension (.DictComp ke ve (⟨b_,aa,ad,0⟩::ab) P ac) P X.e _ newDict O8 (Qz aa X.e) (on<|UU (.Name x b) X.e)) _ _ s
 refine My<|Qj (SO (use:=on<|UU (.Name x b) X.e) (Q:=λ_ s'=>SP X f D .next s') rfl K (S.clo I.ok) S.kind S.j6
  (Qj (F f s R H _ I h) (λv s1 U=>Qj U (λW Y n=>?_) λ_ _ e=>e) λ_ _ e=>e)) (λ_ s' Z=>O0<|O0 Z) λ_ _ e=>e
 obtain⟨it,j,tn,J,H2,e,o,T,p,f2,q⟩:=n;subst e;refine iF (c:= .D ke ve) pq (RR:=λG C=>YC (PM X.p X.w) X.A X.xe (on<|UU (.Name x b) X.e) _ G C) hc S L o T p f2 q λA C s' M m V ns r q'=>?_;show Pq _ X.A (UU (.Name x b) X.e<|.ref A) _ _ s';refine Xu<|ma V y k B (v:= .r A) rfl (λY o n=>?_) O;obtain⟨a,sb,ha⟩:=n;have t:C≠a:=by
  rcases ha with rfl|ha
  .exact r.2.1
  .exact λz=>r.2.2.2.1 x a ha z.symm
 exact⟨m,ns.sameBut sb t,λh' u=>⟨_,M,o.letgo r u,q'⟩⟩
theorem BY{kb:Bool}{a c:Uq}(j:X.N.Nodup)(d:X.N[i]?=on x)(k:F3 X.e.scope x)(hc:X.calm=O6)(S:di X P Nc c_ cy)(l:PI X b_ aa<|iV X.K u E)
  (m:∀(w:a0n) (C:O7) (f:a0q) (s:Pe) (H:Hp),PG (aI X Nc P w C f s H) b_ g/\dW (aI X Nc P w C f s H) ad (g0 X.K v E0)/\∀D,PB (aI X Nc P w C f s H) (.D ke ve) (⟨b_,aa,ad,0⟩::ab) P ac 0 D<|tb D)
  (n:cN X.K g t) (o:dT t) (p:∀D,ft X.K (RD X.K kb) D (tb D) b)
  (e:TU (.DictComp ke ve (⟨b_,aa,ad,0⟩::ab) P ac) (on<|.Name x a) c.line X.e=Rz O6:=by rfl)
  (G:∀x,Qq aa X.e x=Rz x:=by intro _;rfl) (q:b0d X x:=by first|exact .inl rfl|exact .inr rfl|assumption):
  PS X (.Assign [.Name x a] (.DictComp ke ve (⟨b_,aa,ad,0⟩::ab) P ac) c) (tG X.K X.H₀ (b6 i<|iA (VX c_) cy u t v b<|lP kb) E):=
 aK ((Js (kb:=kb) j d k hc S l m e G q).imp λD r H h=>wL n o p h)
theorem Np{X:Cx}{E:a0r}{f g:FD}{ac:Uq}(w:PE X e1<|tV X.K f E)(a:PE X e2<|tV X.K g E)(D:sL e2:=by exact λ_ _=>rfl):PE X (.Subscript e1 e2 ac) (tV X.K (f2 g8 f g) E):=bo aG bx w a D
end
end L2.Pu
namespace L2.Hs
section
variable{X:Cx}
def Lh(K:Pz):R2:=λx y H Q=>∃a b D w k c,x= .r c/\y= .r a/\H a=on (bD a b D w)/\(∀x∈w,xr K H b x.1 x.2.1)/\xr K H b k c/\Q (.c (nB w k).isNone) H
theorem xR(i:X.A.units+2<Uu):f_ X (QX .NotIn) (Lh X.K):=by
 intro c s o H x y v u Q I j l h;obtain⟨d,b,M,D,k,a,rfl,rfl,m,n,hc,q⟩:=h;cases j;cases l;obtain⟨E,w,p,_,G⟩:=jT I m n;have f:=kF (k:=k) p;show Pq _ _ (do return Wl (!(<-contains (.ref d) (.ref a)))) _ _ s
 refine My ?_;unfold contains
 try with_reducible refine QL ?_
 refine My<|SG w.typeIs slot_dict_contains.lookup ?_;show Pq _ _ (if(on (Value.builtin "dict.__contains__")==on Qn)=O6 then _ else _) _ _ s;rw[Pd<|by rw[beq_builtin_none];exact Pf];refine My (wpAny_callSpecialUnlessNone?_slot (name:=QT "__contains__") w.typeIs slot_dict_contains
  (Qr slot_dict_contains w.typeIs entry_dict_contains ?_<|args_dict_contains _ _))
 show Pq _ _ (dictGet d (.ref a)>>=_) _ _ s;refine My<|wpAny_dictGet_heap (ji i) (lI I hc) w ?_;cases g:WV E k with
 |some r=>
  rw[g]at f;cases e:nB D k with
  |none=>rw[e]at f;exact f.elim
  |some z=>
   rw[e]at q;show Pq _ _ (ret<|.bool O6) _ _ _;exact O0 ⟨_,rfl,QR<|O0 ⟨.c _,H,I.tok _,rfl,q⟩⟩
 |none=>
  rw[g]at f;cases e:nB D k with
  |some z=>rw[e]at f;exact f.elim
  |none=>
   rw[e]at q;show Pq _ _ (Builtin.Dict.pendingKey? d (.ref a)>>=_) _ _ _;exact My<|wpAny_pendingKey_other G<|O0 ⟨_,rfl,QR<|O0 ⟨.c _,H,I.tok _,rfl,q⟩⟩
end
end L2.Hs
namespace L2.Pu
open L2.Hs
section
variable{K:Pz}
def Gu:D->D->a0m
 |y,.dct b ks vs=>(dR b y).map λk=> .c (la ks vs k).isNone
 |_,_=>OZ
theorem Oa:aX K (Lh K) Gu:=λF H P Q E S d o p fr h g e k=>by
 unfold Gu at e;split at e
 .rename_i b ks vs
  cases q:dR b E with
  |none=>rw[q]at e;cases e
  |some f=>
   rw[q]at e;cases e;obtain⟨i,rfl⟩:=jN q;obtain⟨c,rfl,j⟩:=oi i h;unfold c4 at g;obtain⟨a,G,w,rfl,l,rfl,m,M⟩:=g;refine⟨a,b,G,w,f,c,rfl,rfl,l.2,λx n=>(m x n).s,j.s,?_⟩;have:=qz (k:=f) M
   dsimp only at k
   cases D:la (w.map (·.1)) vs f with
   |none=>
    rw[D]at this k;have t:nB w f=OZ:=this;rw[t];exact k _ H (To.refl fr) rfl
   |some z=>
    rw[D]at this k;obtain⟨u,t,_⟩:=this;rw[t];exact k _ H (To.refl fr) rfl
 .cases e
end
end L2.Pu
namespace L2.Pu
section
variable{X:Cx}{E:a0r}{K:Pz}{f:QD}{a:Hp}{B:Ow}{g:a0s}{H h:Hp}{d:Ds}{e b:Bg}{c:St}
end
end L2.Pu
namespace L2.Pu
open PySem.SeqAt
open PySem.AutoSeq1 (wpAny_loadPart')
open PySem.MeetsSeq PySem.MeetsSeq2 PySem.MeetsSeq3
end L2.Pu
namespace L2.Hs
section
variable{X:Cx}
def KM(b:Bool):TE:=λ_ H Q=>∀D,H D=OZ->Q (.r D) (upd H D<|bD D b 0 [])
theorem vV{b:Bool}:PE X (.Dict [] [] f) (KM b):=by
 intro a s c H Q I h;rw[arm_eval_Dict];refine My<|Q3 ?_;show Pq _ _ newDict _ _ _;exact pq a s c H _ _ I λe d _=>⟨.r _,_,d,rfl,h _<|I.hok.fresh<|Pg _⟩
def D1(xs:a0o)(k:et)(c:O7)(v:V):a0o:=if(nB xs k).isSome then xs.map (λx=>if x.1=k then(x.1,x.2.1,v)else x)else xs++[(k,c,v)]
theorem AN(h:∀x y,XY x y->XY (f x) (g y)):∀{w:a0o} {D:a0E},Vi XY w D->Vi XY (w.map f) (D.map g)
 |_,_,.nil=> .nil
 |_,_,.cons a t=> .cons (h _ _ a)<|AN h t
theorem Ft(p:Vi XY b d)(r:aL v u):Vi XY (D1 b k c v) (storedH d k c u):=by
 have f:=kF (k:=k) p;unfold D1;cases e:WV d k with
 |none=>
  rw[e]at f;cases q:nB b k with
  |some w=>rw[q]at f;exact f.elim
  |none=>
   rw[storedH_new e];exact rq ⟨rfl,rfl,r⟩ p
 |some w=>
  rw[e]at f;cases q:nB b k with
  |none=>rw[q]at f;exact f.elim
  |some a=>
   rw[storedH_old e];refine AN (λx y h=>?_) p;unfold putAt;rw[<-h.1];by_cases z:x.1=k
   .rw[Pc z,Pc z];exact⟨rfl,h.2.1,r⟩
   .rw[Pd z,Pd z];exact h
theorem Jb(w:a0o)(k:et)(c:O7)(v:V):VX (D1 w k c v)<=VX w+1:=by
 unfold D1;split
 .rw[OY];lia
 .simp
def HJ(K:Pz):V->V->V->Hp->(Hp->Prop)->Prop:=λo i v H Q=>∃a b D w k c,o= .r a/\i= .r c/\H a=on (bD a b D w)/\(∀x∈w,xr K H b x.1 x.2.1)/\xr K H b k c/\VX w<Ps/\∀d,Q<|upd H a<|bD a b d<|D1 w k c v
theorem vt(r:X.A.units+2<Uu):Hg X (HJ X.K):=by
 intro j s T H o i v U W u Q I t y B h;obtain⟨a,b,P,D,k,c,rfl,rfl,l,C,hc,Y,q⟩:=h;cases t;cases y;obtain⟨S,E,p,F,f⟩:=jT I l C;refine wpAny_setItem_heap (ji r) (lI I hc) E (λV G J=>?_) F;have w:=Ft (k:=k) (c:=c) p B;obtain⟨o,M,g,m,L,N,O,Z,R⟩:=G;have d:=QG VX<|ny w;rw[OY,OY]at d;have:=Jb D k c v;exact⟨_,I.write (by rw[l];trivial) (.inl rfl) (λb u n e=>(J.2 b n).trans e) ⟨o,m⟩<|kW ⟨o,M,_,m,L,N,by rw[O];unfold YE;rw[oo],R,f,by lia,w⟩,q g⟩
end
end L2.Hs
namespace L2.Pu
open L2.Hs
def stK(w:a0W)(k:et):a0W:=if k∈w then w else w++[k]
def stY(w:a0W)(E:a0c)(k:et)(d:D):a0c:=if k∈w then(w.zip E).map (λp=>if p.1=k then d else p.2)else E++[d]
section
variable{K:Pz}{F:Fx}{H:Hp}
theorem rY:∀{xs:a0o},(nB xs k).isSome=decide (k∈xs.map (·.1))
 |[]=>by simp[nB]
 |x::xs=>by
  have w:=rY (k:=k) (xs:=xs);unfold nB at w⊢;rw[RO];by_cases q:x.1=k
  .rw[Pn q];simp[q]
  .rw[P8 q]
   dsimp only
   rw[w];exact decide_eq_decide.mpr (by rw[Pi,Pr];exact⟨.inr,λz=>z.resolve_left λy=>q y.symm⟩)
theorem FR{w:a0o}:(D1 w k c v).map (·.1)=stK (w.map (·.1)) k:=by
 unfold D1 stK;rw[rY];by_cases q:k∈w.map (·.1)
 .rw[Pc<|Pn q,Pc q,Pp]
  refine P4 λx _=>?_;show(if x.1=k then(x.1,x.2.1,v)else x).1=x.1;split<;>rfl
 .rw[Pd (λz=>q<|QH z),Pd q,Qc];rfl
theorem Jc{xs:a0o}(D:c4 K F H d v)(h:br K F H f<|xs.map (·.2.2)):br K F H (stY (xs.map (·.1)) f k d) ((D1 xs k c v).map (·.2.2)):=by
 unfold D1 stY;rw[rY];by_cases q:k∈xs.map (·.1)
 .rw[Pc<|Pn q,Pc q]
  clear q
  induction xs generalizing f with
  |nil=>exact br.f5
  |cons x xs E=>
   cases f with
   |nil=>cases h
   |cons w f=>
    obtain⟨u,r,e,a,b⟩:=h;rw[Pi,SN]at e;obtain⟨rfl,rfl⟩:=e;refine br.cons (xs:=((xs.map λx=>if x.1=k then(x.1,x.2.1,v)else x).map (·.2.2))) ?_<|E b;show c4 K F H (if x.1=k then d else w) (if x.1=k then(x.1,x.2.1,v)else x).2.2;by_cases z:x.1=k
    .rw[Pc z,Pc z];exact D
    .rw[Pd z,Pd z];exact a
 .rw[Pd (λz=>q<|QH z),Pd q,Qc]
  exact br.append h<|br.cons D br.f5
theorem KV{b:Bool}(d:∀x∈f,fL K F H b x.1 x.2.1)(hc:fL K F H b k c):∀x∈D1 f k c v,fL K F H b x.1 x.2.1:=λx a=>by
 unfold D1 at a;split at a
 .obtain⟨y,e,rfl⟩:=Pj.mp a
  split
  .exact d y e
  .exact d y e
 .rcases QB.mp a with h|h
  .exact d x h
  .cases P0.mp h
   exact hc
variable{X:Cx}{E:a0r}{z:QD}
def MJ(i:Nat)(b:Bool):G:=λw z=>on (.nx<|w.set i<|on<|.odc b [] [],z)
theorem NI{b:Bool}(h:PS X z<|gl (KM b)<|d7 i):PS X z (tG X.K X.H₀ (MJ i b) E):=h.imp λD k H c=>by
 obtain⟨B,w,F,G,o,d,ok,e,q⟩:=c;cases e;intro p f;obtain⟨l,a,g⟩:=ok.newAt (i:=i) (sl:= .odc b [] []) (u:=bD p b 0 []) f (.inr ⟨_,aj⟩) λe _=>⟨p,rfl,e,0,[],aj,rfl,(λx j=>by cases j),br.f5⟩;exact q _ _ _ g a
def uP(i:Nat)(fk a:FD):G:=λw z=>match a (hE w) z with
 |some (.ok d,β1)=>match fk (hE w) β1 with
  |some (.ok kd,β2)=>match w.getD i OZ with
   |some (.odc b ks vs)=>match dR b kd with
    |some k=>if(noL d&&decide (VX ks<Ps))=O6 then on (.nx<|w.set i<|on<|.odc b (stK ks k)<|stY ks vs k d,β2)else OZ
    |none=>OZ
   |_=>OZ
  |_=>OZ
 |some (.error C,β1)=>on (.ex C w,β1)
 |none=>OZ
theorem K5{fk N:FD}(h:PS X z<|gl (tV X.K N E)<|zU (l5 i) (tV X.K fk E)<|HJ X.K):PS X z (tG X.K X.H₀ (uP i fk N) E):=h.imp λD σ H T=>by
 obtain⟨B,G,M,P,o,U,ok,e,q⟩:=T;refine⟨na B G,hE M,P,ok.j6,ok.f5,?_⟩;unfold uP at e;split at e
 .rename_i d β1 p
  refine⟨.ok d,_,p,λv H1 t S=>?_⟩;obtain⟨g,W⟩:=ok.to rfl t;split at e
  .rename_i kd β2 Y
   split at e
   .rename_i b ks vs O
    split at e
    .rename_i k Z
     split at e
     .rename_i hn
      cases e;rw[PV,P9]at hn;obtain⟨w,r,a,rfl,hB,h2⟩:=g.tell i _<|getD_some O;refine⟨_,r,na B G,hE M,β1,g.j6,g.f5,.ok kd,_,Y,λkv H2 V y=>?_⟩;obtain⟨j,n⟩:=g.to rfl V;obtain⟨_,l,a',e',aa,ep,F,hD,A,Q,dl⟩:=j.tell i _<|getD_some O;rw[r]at l;cases l;cases e';obtain⟨hz,rfl⟩:=jN Z;have nk:noL (dK b k)=O6:=by
       cases b with
       |true=>show(O6&&(noLs (k.2.map Pu.D.n)&&O6))=O6;rw[kn];rfl
       |false=>exact kn k.2
      obtain⟨c,rfl,R⟩:=oi hz<|j.noB nk y;have I:=c4.tr n.tr _ _<|g.noB hn.1 S;subst A;refine⟨a,b,ep,F,k,c,rfl,rfl,hD,λx J=>(Q x J).s,R.s,by rw[<-OY (f:=(·.1))];exact hn.2,λm=>?_⟩;obtain⟨L,s3⟩:=j.writeAt (sl:= .odc b (stK (F.map (·.1)) k)<|stY (F.map (·.1)) vs k d) (u:=bD a b m<|D1 F k c v) r hB (.inr ⟨_,aj⟩) λt=>⟨a,rfl,hB,m,_,aj,FR.symm,KV (λx J=>(Q x J).tr t)<|R.tr t,Jc (c4.tr t _ _ I)<|br.tr t _ _ dl⟩;exact q _ B _ ((W.trans n).trans s3) L
     .cases e
    .cases e
   .cases e
  .cases e
 .rename_i C β1 p
  cases e;refine⟨.error C,_,p,λH' t=>?_⟩;obtain⟨j,n⟩:=ok.to rfl t;exact q _ B H' n j
 .cases e
end
end L2.Pu
namespace L2.Hs
def Ny(K:Pz)(b:Bool)(f g:TE):TE:=λe H Q=>∀D,H D=OZ->f e (upd H D<|bD D b 0 []) λx h=>g e h λy a=>∃w k c,x= .r c/\a D=on (bD D b w [])/\xr K a b k c/\∀d,Q (.r D)<|upd a D<|bD D b d [(k,c,y)]
theorem Gn{X:Cx}{b:Bool}(m:X.A.units+2<Uu)(r:PE X ke tk)(t:PE X ve tv):PE X (.Dict [on ke] [ve] z) (Ny X.K b tk tv):=by
 intro a s d H Q I h;rw[arm_eval_Dict];refine My<|Q3 ?_;have D:(evalEachOpt [on ke] X.e).zip ((Wz [ve] X.e).map λv=>do let x <-v;SJ z;Rz x)=[(Qz ke X.e,(do let x <-Qz ve X.e;SJ z;Rz x))].map λp=>(on p.1,p.2):=by
  simp[evalEachOpt,Wz,evalOpt]
 rw[D,dictDisplay_pairs _ (by simp)<|by simp];refine My ?_;unfold subDict;refine My<|X6 ?_;refine My<|QL ?_;rw[Pc<|by simp];have B:H s.heap.objs.size=OZ:=I.hok.fresh<|Pg _;have C:cx X a d (upd H s.heap.objs.size<|bD s.heap.objs.size b 0 []) {s with heap:=s.heap.push {cls:= .type "dict",data:= .dict #[]}}:=I.laid (t':=s.toks) (λ_ _ q=>O3 _ q) (Pg _)<|kW ⟨_,#[],[],Px _ rfl,⟨rfl,rfl,rfl⟩,rfl,rfl,.nil,beq_eq_false_iff_ne.mpr<|Ne.symm<|Qm<|Fv I,Qk _,.nil⟩;refine My<|evalPairs_cons<|d5 (r a _ d _ _ C<|h _ B) λV F J=>?_;obtain⟨x,L,N,r1,E⟩:=J;refine My<|d5 (t a F d L _ N E) λvv s2 O=>My<|Q3<|O0 ?_;obtain⟨y,H2,f,R,ep,k,c,rfl,j,hc,q⟩:=O;cases r1;refine evalPairs_nil ?_;refine QL ?_;obtain⟨ys,G,p,T,g⟩:=jT f j (λx U=>by cases U);cases p;show Pq _ _ (YF [(Pw c,vv)] PUnit.unit _>>=_) _ _ _;rw[Su];refine My<|My<|My<|wpAny_dictSet_heap (ji (A:=X.A)<|WQ m) (lI f hc) G (λh' w W=>O0 ?_) T;show Pq _ _ (YF [] PUnit.unit _) _ _ _;rw[SL];refine O0<|O0<|O0<|O0 ?_;rw[storedH_new (show WV [] k=OZ from rfl)]at w;obtain⟨o,M,i,l,Y,Z,P,g5,S⟩:=w;exact⟨.r _,_,f.write (by rw[j];trivial) (.inl rfl) (λb u n e=>(W.2 b n).trans e) ⟨o,l⟩<|kW ⟨o,M,_,l,Y,Z,by rw[P];unfold YE;rw[oo],S,g,(by show 1<=Ps;decide),.cons ⟨rfl,rfl,R⟩ .nil⟩,rfl,q i⟩
end L2.Hs
namespace L2.Pu
open L2.Hs
def z9(b:Bool)(k v:D):a0m:=(dR b k).map λy=> .dct b [y] [v]
def OP(b:Bool)(fk a:FD):FD:=f2 (z9 b) fk a
theorem IT{X:Cx}{E:a0r}{b:Bool}{fk p:FD}(hu:X.A.units+2<Uu)(hk:PE X ke<|tV X.K fk E)(hv:PE X ve<|tV X.K p E):PE X (.Dict [on ke] [ve] pos) (tV X.K (OP b fk p) E):=
 (Gn (b:=b) hu hk hv).imp λσ H Q h_ D g=>by
  obtain⟨F,w,S,fr,vk,r⟩:=h_;have t0:=fr.upd (bD D b 0 []) g;have u:∀b l,F.bg=on (b,l)->D≠b/\D≠l:=λb l e=>by
   obtain⟨T,U⟩:=fr.bag b l e;exact⟨λz=>(by rw[<-z,g]at T;cases T),λz=>(by rw[<-z,g]at U;cases U)⟩
  have W:Fr (F.but D) (upd H D<|bD D b 0 []) S:=⟨λa P=>by
   rcases P with P|rfl
   .exact t0.fr.occ a P
   .rw[aj];simp,λb l e=>⟨.inl (fr.bgA b l e).1,.inl (fr.bgA b l e).2.1,(fr.bgA b l e).2.2⟩,t0.fr.bag⟩
  have Y:jm X.K (F.but D) (upd H D<|bD D b 0 []) w σ:=vk.tr (Fx.f5 fr g λa o e=>by rw[bb<|bt e g];exact e);have d:∀{i:Hp} {f:Bg},To (F.but D) (upd H D<|bD D b 0 []) i f->To F H i f:=λ{i f} t=>⟨λa o h n=>t.kp a o (t0.kp a o h n) n,⟨λa P=>t.fr.occ a<|.inl P,fr.bgA,t.fr.bag⟩⟩;obtain⟨rr,f,e,v⟩:=r;have e:M.v (fk w) (λa=>M.v (p w) λz=>M.f<|z9 b a z) S=on (rr,f):=e;refine⟨F.but D,w,S,W,Y,?_⟩;cases V:fk w S with
  |none=>unfold M.v at e;rw[V]at e;cases e
  |some z=>
   obtain⟨r1,G⟩:=z;refine⟨r1,G,V,?_⟩;cases r1 with
   |error C=>
    rw[M.j8 V]at e;cases e;exact λi t=>v i<|d t
   |ok dk=>
    rw[M.f5 V]at e;intro x H1 k B;refine⟨F.but D,w,G,k.fr,Y.tr<|k.tr W,?_⟩;cases q2:p w G with
    |none=>unfold M.v at e;rw[q2]at e;cases e
    |some z=>
     obtain⟨Z,aa⟩:=z;refine⟨Z,aa,q2,?_⟩;cases Z with
     |error C=>
      rw[M.j8 q2]at e;cases e;exact λi t=>v i<|d<|k.trans t
     |ok dv=>
      rw[M.f5 q2]at e;intro y I J L;cases N:dR b dk with
      |none=>unfold z9 M.f at e;rw[N]at e;cases e
      |some j=>
       unfold z9 M.f at e;rw[N]at e;cases e;obtain⟨hz,rfl⟩:=jN N;obtain⟨c,rfl,kc⟩:=oi hz<|c4.tr (J.tr k.fr) _ _ B;have O:I D=on (bD D b 0 []):=J.kp D _ (k.kp D _ aj u) u;have hA:¬F.A D:=fr.fresh g;refine⟨0,j,c,rfl,O,kc.s,λm=>?_⟩;have tt:Tr (F.but D) I F (upd I D<|bD D b m [(j,c,y)]):=⟨λa h _ z=>h<|.inl z,λa o h e=>by rw[bb λz=>h<|.inr z];exact e,rfl⟩;have R:=d<|k.trans J;refine v _ _ ⟨λa o h n=>?_,λa h q=>?_,fr.bgA,λb l q=>?_⟩ ?_
       .have:a≠D:=λz=>by rw[z,g]at h;cases h
        rw[bb this];exact R.kp a o h n
       .by_cases z:a=D
        .subst z;exact hA h
        .rw[bb z]at q;exact R.fr.occ a h q
       .rw[bb (u b l q).1.symm,bb (u b l q).2.symm]
        exact R.fr.bag b l q
       .unfold c4
        exact⟨D,m,[(j,c,y)],rfl,⟨hA,aj⟩,rfl,λx hx=>by cases P0.mp hx;exact kc.tr tt,br.cons (c4.tr tt _ _ L) br.f5⟩
end L2.Pu
namespace L2.Pu
def G_(w:a0e):Bool:=decide (VX w<=6)&&w.all λx=>decide (x.natAbs<=1000000)
theorem shI:∀{w:a0e},(∀x∈w,x.natAbs<=1000000)->Wf (w.map .int)=O6/\Ws (w.map .int)=O8/\TC (w.map .int)=0/\((Sj<|w.map .int).map (·.length)).sum<=1921*VX w/\VX (Sj<|w.map .int)=VX w
 |[],_=>⟨by simp only[RX,Wf],by simp only[RX,Ws],by simp only[RX,TC],by simp only[RX,Sj];exact Qk _,by simp only[RX,Sj];rfl⟩
 |n::w,h=>by
  obtain⟨b,c,d,g,h5⟩:=shI λx e=>h x<|O1 n e;have i:=h n Pa;have a:n.natAbs.log2<1920:=DW (by lia) (by lia);have f:=int_text_len_1921 a;refine⟨?_,?_,?_,?_,?_⟩
  .simp only[Pi,Wf,ZY,b,Pn a,TH]
  .simp only[Pi,Ws,PyData.hasDict,c,Bool.or_self]
  .simp only[Pi,TC,Ss,d];rfl
  .simp only[Pi,Sj,PyData.shown,PL,Pt]
   have:(QT<|toString n).length<=1921:=f;lia
  .simp only[Pi,Sj,Pt,h5]
section
variable{X:Cx}{E:a0r}{a:List Expr}{K:Pz}{t:TJ}
theorem xF:∀{D:a0e} {w:a0g},au (D.map V.n) w->ReadsAll h w (D.map PyData.int) []
 |[],w,r=>by cases r;exact .nil
 |n::D,w,r=>by
  cases r with
  |cons r1 a=>
   obtain⟨t,rfl⟩:=r1;exact .cons (as:=[]) (bs:=[]) (.int n t)<|xF a
theorem EX:∀{w:a0e} {t:a0j},br K F H (w.map D.n) t->t=w.map V.n
 |[],t,h=>h
 |n::w,t,h=>by
  obtain⟨y,r,e,a,b⟩:=h;subst e;rw[EX b,show y=V.n n from a];rfl
end
end L2.Pu
namespace L2
section
variable{X:Cx}{P:Uq}{ta:TE}
def K6(K:Pz)(ta e:TE)(f:Qa):TS:=λD b H=>e b H λy g=>ta b g λx c=>∃a C d w,x= .r a/\c a=on (dH C a<|on d)/\c d=on (.xd w)/\VX w<=900/\XC K C/\RN K (.ref C) f=on OZ/\
 D.nx b (upd c d<|.xd<|(f,y)::w)
theorem AS{D:a0B}(r:∀f,gJ (D.lookup f)<|mA f):SR mA (D.map (·.1)):=by
 intro g a;have:=r g;cases q:D.lookup g with
 |none=>rw[q]at this;exact PU (gJ.f5 this) a
 |some y=>
  clear this a r
  induction D with
  |nil=>cases q
  |cons p D E=>
   obtain⟨k,w⟩:=p;rw[RU]at q;by_cases z:(g==k)=O6
   .rw[Se]at z
    subst z;exact Pa
   .rw[Bool.not_eq_true]at z
    rw[z]at q;exact O1 _<|E q
theorem vR(S:PE X o ta)(J:PE X value tv)(V:TU value (on<|.Attribute o f pos') P.line X.e=Rz O8):PS X (.Assign [.Attribute o f pos'] value P) (K6 X.K ta tv f):=by
 intro j s m H D I h;refine Us (d5 (J j s m H _ I h) λu L p=>?_) V;obtain⟨y,N,O,Q,q⟩:=p;refine d5 (S j L m N _ O q) λR t T=>?_;obtain⟨x,A,l,U,a,C,d,fs,ex,B,k,hz,c,n,q2⟩:=T;subst ex;obtain rfl:R=Pw a:=U;obtain⟨t0,W⟩:=jS<|l.hok a _ B;obtain⟨cd,c1,c2,c3⟩:=c.cd;obtain⟨mA,Y,r1⟩:=(show bC X.p X.w A t.heap d (.xd fs)from l.hok d _ k);have r:d≠a:=λz=>by subst z;rw[B]at k;cases k
 refine G0 l.kIn W r Y (AS r1) (by rw[OY];lia) c.sa c1 c2 c3 n λh' e1 F E=>?_;have G:∀b o,A b=on o->(∀Z,o≠ .xd Z)->b≠d:=λb o e hn z=>by subst z;rw[k]at e;cases e;exact hn _ rfl
 refine⟨m,_,l.un (h':=h') (t':=t.toks+2) ⟨λb o e i _ _=>E b o (λz=>by subst z;rw[k]at i;cases i) e,λb o e i _ _=>⟨o.slots,E b o (λz=>by subst z;rw[k]at i;cases i) e⟩,λb o e i _=>?_,λb o e _=>?_,λb M e=>?_,λb o M e=>?_,λb M e=>?_⟩ λb o e=>?_,q2⟩
 .rw[bb (λz=>by subst z;rw[k]at i;cases i)];exact i
 .by_cases z:b=d
  .subst z;obtain⟨o,_,_,e,_⟩:=F;exact⟨o,e⟩
  .exact⟨o,E b o z e⟩
 .rw[bb<|G b _ e λ_ z=>by cases z];exact e
 .rw[bb<|G b _ e λ_ z=>by cases z];exact e
 .exact⟨#[],by rw[bb (G b _ e λ_ z=>by cases z),e];simp⟩
 .by_cases z:b=d
  .subst z
   rw[aj]at e;cases e;refine⟨_,F,λg=>?_⟩;by_cases q:g=f
   .subst q
    simp only[RU,Vl,Qs];exact Q
   .have hb:(g==f)=O8:=beq_eq_false_iff_ne.mpr q
    simp only[RU,hb,Pd q];exact r1 g
  .rw[bb z]at e
   refine(l.hok b o e).stay (λc v hc q=>E c v ?_ q) (λc q=>?_) λc M q=>?_
   .rcases hc with rfl|hc
    .exact z
    .exact G c _ hc λ_ z=>by cases z
   .rw[bb<|G c _ q λ_ z=>by cases z];exact q
   .rw[bb<|G c _ q λ_ z=>by cases z];exact q
end
end L2
namespace L2.Pu
theorem ND{w:a0e}(h:G_ w=O6):(VP<|w.map .int).showable=O6/\(VP<|w.map .int).hasDict=O8/\(VP<|w.map .int).depth<=100/\(VP<|w.map .int).shown.length<=20000:=by
 unfold G_ at h;obtain⟨a,D⟩:=Tj.mp h;have a:=QH a;obtain⟨b,c,f,g,h5⟩:=shI λx d=>QH<|Sf.mp D x d;have e:(listText<|Sj<|w.map .int).length<=20000:=by
  have:=listText_len_le<|Sj<|w.map .int;rw[h5]at this;lia
 simp only[ZY,PyData.hasDict,Ss,PyData.shown];exact⟨b,c,by lia,e⟩
section
variable{X:Cx}{es:List Expr}{t:TJ}
def jLst(K:Pz)(c:TE)(t:TJ):TJ:=λa H n Q=>c a H λv b=>∃l w,v= .r l/\eX K b l (w.map V.n)/\G_ w=O6/\n+20000<=Ps/\∀m,m<=n+20000->t a b m Q
theorem CY(c:ee k X.A)(g:PE X v U)(h:PJ X es t)(i:Wz (.FormattedValue v (-1) OZ p::es) X.e=Qz (.FormattedValue v (-1) OZ p) X.e::Wz es X.e:=by rfl):PJ X (.FormattedValue v (-1) OZ p::es) (jLst X.K U t):=by
 intro a s d H w Q I J j;rw[i];refine joinParts_cons<|FormattedValue_plain<|d5 (g a s d H _ I j) λu L ⟨y,m,f,r,l,M,B,D,ok,N,q⟩=>?_;subst B;cases r;obtain⟨E,r,⟨o,n,e,hc,P,G⟩,_⟩:=f.list D;obtain⟨C,o2,O,R⟩:=ND ok;refine formatField_of_reads (.list e hc G<|xF r) C (PyData.noDict_hsm o2) c.gd (by have:=c.un;lia) (λ_ _ z=>z) (λS u T F=>?_) (by lia);have e:∀x:Qa,(w++x).length=w.length+x.length:=strLen_append w;exact⟨by rw[e];lia,h a _ d m _ Q (f.kept λb o e=>F b o e) (by rw[e];lia)<|by rw[e];exact q _<|by lia⟩
theorem vj{K:Pz}(D:eX K H p d)(a:H x=on (dH C x f))(t:∀b o,H b=on o->b≠x->H' b=on o):eX K H' p d:=by
 have w:∀o,H p=on o->(∀c,o≠ .ext c)->p≠x:=λo e E z=>by subst z;rw[a]at e;cases e;exact E _ rfl
 refine D.imp (λz=>z.imp (λz=>t p _ z<|w _ z λ_ z=>by cases z) λ⟨o,z⟩=>⟨o,t p _ z<|w _ z λ_ z=>by cases z⟩) id
def HD(K:Pz)(C:O7):Sp:=λD H Q _=>∃(x p q:O7) (t w:a0e),D=[.r x,.r p,.r q]/\eX K H p (t.map V.n)/\eX K H q (w.map V.n)/\G_ t=O6/\G_ w=O6/\H x=on (dH C x OZ)/\
 ∀(E:a0C) (a:Hp),a x=on (dH C x E)->(∀b o,H b=on o->b≠x->a b=on o)->Q .o a
def oy(C:O7)(f:FL):G:=λt w=>match f (hE t) w with
 |some (.ok [.l a,.l b],β1)=>match cu a,cu b with
  |some ns,on ms=>if(G_ ns&&G_ ms)=O6 then on (.ex C t,β1)else OZ
  |_,_=>OZ
 |some (.ok _,_)=>OZ
 |some (.error C',β1)=>on (.ex C' t,β1)
 |none=>OZ
variable{P:P6}{w:Qb}{K:Pz}{mg:a0i}{ac:Qt}{N:a0h}{ab:Qa}{X:Scope}{f:O7}{cd:Pb}{A:Qy}{aa:a0D}{s:Pe}{H:Hp}{E:XK}
theorem BQ{H:Hp}{f:a0e}(h:c4 K F H (.l a) v)(e:cu a=on f):∃p,v= .r p/\eX K H p (f.map V.n):=by
 rw[h8 e]at h;obtain⟨p,w,rfl,s,t⟩:=c4.j6 h;rw[EX t]at s;exact⟨p,rfl,s⟩
theorem FZ(G:XC K C)
  (h:PS (dm (f0 P w) P w K mg ac N ab X f cd A aa s H E) (.Raise (on e) OZ pos)<|BH H K E<|KK C (HD K C) [] E'<|i_ K g (λ_=>E)):
  PS (dm (f0 P w) P w K mg ac N ab X f cd A aa s H E) (.Raise (on e) OZ pos) (tG K H (oy C g) (λ_=>E)):=h.imp λD r W u=>by
 obtain⟨B,M,S,V,o,v,ok,e,q⟩:=u;refine⟨na B M,hE S,V,ok.j6,ok.f5,?_⟩;unfold oy at e;split at e
 .rename_i ds es β1 d
  split at e
  .rename_i ns ms y F
   split at e
   .rename_i hs
    cases e;rw[PV]at hs;refine⟨.ok [.l ds,.l es],_,d,λvs I t hd=>?_⟩;obtain⟨a,i⟩:=ok.to rfl t;obtain⟨Y,r1,rfl,d1,Z,r2,rfl,d2,rfl⟩:=hd;obtain⟨J,rfl,j⟩:=BQ d1 y;obtain⟨L,rfl,k⟩:=BQ d2 F;refine⟨by show 2<=Ps;decide,λx c=>⟨x,J,L,ns,ms,rfl,?_,?_,hs.1,hs.2,aj,λdx l O Q=>⟨rfl,x,C,dx,rfl,O,?_,G,?_⟩⟩⟩
    .exact j.imp (λz=>z.imp (λz=>by rw[bb<|bt z c];exact z) λ⟨o,z⟩=>⟨o,by rw[bb<|bt z c];exact z⟩) id
    .exact k.imp (λz=>z.imp (λz=>by rw[bb<|bt z c];exact z) λ⟨o,z⟩=>⟨o,by rw[bb<|bt z c];exact z⟩) id
    .cases R:H x with
     |none=>rfl
     |some o=>exact PU c (a.cov x<|by rw[R];simp)
    .have sm:∀b o,I b=on o->gf l x b=on o:=λb o p=>by
      have m:b≠x:=bt p c;rw[jj m];exact Q b o (by rw[bb m];exact p) m
     obtain⟨n,T⟩:=a.to rfl<|a.fr.same sm;exact q r B _ (i.trans T) n
   .cases e
  .cases e
 .cases e
 .rename_i U β1 d
  cases e;refine⟨.error U,_,d,λl t=>?_⟩;obtain⟨a,i⟩:=ok.to rfl t;exact q _ B l i a
 .cases e
end
end L2.Pu
namespace Law
open L2 L2.Pu
open L2.Hs (vW wl lA xR vV vt)
noncomputable def dr(i:Nat):QD:=PySem.Challenge.pw_edgetally_k50_whole_mean_by_one_thing_le.main.body.getD i<|.Pass ⟨0,0,0,0⟩
abbrev p9:QD:=dr 69
set_option genSizeOf false in
set_option genInjectivity false in
structure Ad where
 Aa:O7
 Ab:O7
 Ac:PP
 Ae:O7
 Af:O7
 Ag:PP
 Ah:O7
 Ai:O7
 Aj:PP
 Ak:O7
 Am:PP
 An:O7
 Ao:PP
 Aq:O7
 Ar:PP
 As:O7
 At:PP
 Au:O7
 Av:PP
 Aw:O7
 Ax:PP
 Ay:O7
 Az:PP
 A0:O7
 A1:PP
 A3:O7
 A4:PP
 A5:O7
 A6:PP
 A7:O7
 A8:PP
 A9:O7
 Ba:PP
 Bb:O7
 Bc:PP
 Bd:O7
 Be:PP
 Bf:O7
 Bh:PP
 Bi:O7
 Bj:PP
 Bk:O7
 Bl:PP
 Bm:O7
 Bn:PP
 Bo:O7
 Bp:PP
 Bq:O7
 Bs:PP
 Bt:O7
 Bu:PP
 Bv:O7
 Bw:PP
 Bx:O7
 By:PP
 Bz:O7
 B0:PP
 B5:O7
 B7:PP
 B8:O7
 Ca:PP
 Cb:O7
 Cc:PP
 Cd:O7
 Cf:PP
 Cg:O7
 Ch:PP
 Ci:O7
 Cj:PP
 Ck:O7
 Cl:PP
 Cm:O7
 Cn:PP
 Co:O7
 Cp:PP
 Cq:O7
 Cr:PP
 Cs:O7
 Ct:PP
 Cu:O7
 Cv:PP
 Cw:O7
 Cy:PP
 Cz:O7
 C0:PP
 C2:O7
 C3:PP
 C4:O7
 C5:PP
 C6:O7
 C7:PP
 C8:O7
 C9:PP
 Da:O7
 Db:PP
 Dd:O7
 Df:PP
 Dg:O7
 Dh:PP
 Di:O7
 Dj:PP
 Dm:O7
 Do:PP
 Dp:O7
 Dq:PP
 Dr:O7
 Dt:PP
 Du:O7
 Dv:PP
 Dw:O7
 Dx:PP
 Dy:O7
 Dz:PP
 D0:O7
 D3:PP
 D4:O7
 D5:PP
def FnL(K:Pz)(mg:a0i)(a:Ad):List Prop:=[
 oJ K mg "MOST" (.n 40),
 oJ K mg "MOST_COLUMNS" (.n 6),
 oJ K mg "MOST_ROWS" (.n 4),
 oJ K mg "WIDE" (.n 500),
 hW K "free" "free" (dr 14) a.Ai a.Aj,
 mg "free"=on (.ref a.Ai),
 dF K a.Aj ["rows","columns","pair"] [.t [.n 0,.n 40]],
 g_ K mg "check_sums" (dr 15) a.Ak a.Am ["rowsums","columnsums"],
 g_ K mg "check_there" (dr 16) a.An a.Ao ["place","many"],
 g_ K mg "check_cell" (dr 17) a.Aq a.Ar ["row","column","rows","columns"],
 g_ K mg "check_pair" (dr 18) a.As a.At ["pair"],
 g_ K mg "settled_bounds" (dr 19) a.Au a.Av ["bounds","rows","columns"],
 g_ K mg "factorial" (dr 21) a.Aw a.Ax ["number"],
 g_ K mg "ways" (dr 22) a.Ay a.Az ["parts"],
 g_ K mg "common_factor" (dr 23) a.A0 a.A1 ["one","other"],
 g_ K mg "lowest" (dr 24) a.A3 a.A4 ["top","under"],
 g_ K mg "fillings" (dr 25) a.A5 a.A6 ["rests","many","pairs"],
 g_ K mg "need_of" (dr 27) a.A7 a.A8 ["rowsums","over"],
 g_ K mg "room_inside" (dr 28) a.A9 a.Ba ["columnsums","bounds","over","column"],
 g_ K mg "room_beside" (dr 29) a.Bb a.Bc ["bounds","over","column"],
 g_ K mg "room_of" (dr 30) a.Bd a.Be ["columnsums","bounds","over","into"],
 g_ K mg "narrowest" (dr 31) a.Bf a.Bh ["columnsums","bounds","over"],
 g_ K mg "choices" (dr 32) a.Bi a.Bj ["many"],
 g_ K mg "check_fit" (dr 33) a.Bk a.Bl ["rowsums","columnsums","bounds"],
 g_ K mg "check_wide" (dr 36) a.Bm a.Bn ["rowsums"],
 g_ K mg "settled_for_net" (dr 37) a.Bo a.Bp ["rowsums","columnsums","bounds"],
 g_ K mg "column_fillings" (dr 38) a.Bq a.Bs ["rests","columnsums","bounds","column"],
 g_ K mg "rests_behind" (dr 39) a.Bt a.Bu ["rests","counts"],
 g_ K mg "nodes_by_level" (dr 40) a.Bv a.Bw ["rowsums","columnsums","bounds"],
 g_ K mg "node_counts" (dr 41) a.Bx a.By ["rests","filled","behind"],
 g_ K mg "counted_nodes" (dr 42) a.Bz a.B0 ["rowsums","columnsums","bounds"],
 g_ K mg "check_cell_of" (dr 45) a.B5 a.B7 ["net","cell"],
 g_ K mg "count_in" (dr 46) a.B8 a.Ca ["cell","level","counts"],
 g_ K mg "put_to" (dr 47) a.Cb a.Cc ["found","here","there","many"],
 g_ K mg "sums_added" (dr 48) a.Cd a.Cf ["found","more"],
 g_ K mg "sums_behind" (dr 49) a.Cg a.Ch ["net","one","other","level","sums"],
 g_ K mg "sums_over_tables" (dr 50) a.Ci a.Cj ["net","one","other"],
 g_ K mg "mean" (dr 51) a.Ck a.Cl ["net","row","column"],
 g_ K mg "_law_bag" (dr 53) a.Cm a.Cn ["_law_script"],
 g_ K mg "_law_pull" (dr 54) a.Co a.Cp ["_law_bag_here","_law_lot"],
 g_ K mg "_law_same" (dr 55) a.Cq a.Cr ["_law_found","_law_due"],
 g_ K mg "_law_grid" (dr 56) a.Cs a.Ct ["_law_bag_here","_law_block","_law_columns","_law_things"],
 g_ K mg "_law_wide" (dr 57) a.Cu a.Cv ["_law_bag_here"],
 g_ K mg "_law_large" (dr 58) a.Cw a.Cy ["_law_bag_here"],
 g_ K mg "_law_turned" (dr 59) a.Cz a.C0 ["_law_block"],
 g_ K mg "_law_rowsums" (dr 60) a.C2 a.C3 ["_law_grid_here"],
 g_ K mg "_law_columnsums" (dr 61) a.C4 a.C5 ["_law_grid_here"],
 g_ K mg "_law_free" (dr 62) a.C6 a.C7 ["_law_block","_law_columns"],
 g_ K mg "_law_bars" (dr 63) a.C8 a.C9 ["_law_bag_here","_law_grid_here"],
 g_ K mg "_law_copied" (dr 64) a.Da a.Db ["_law_block"],
 g_ K mg "_law_gcd" (dr 65) a.Dd a.Df ["_law_one","_law_other"],
 g_ K mg "_law_lowest" (dr 66) a.Dg a.Dh ["_law_top","_law_under"],
 g_ K mg "_law_place" (dr 67) a.Di a.Dj ["_law_bag_here","_law_grid_here"],
 g_ K mg "_law_net" (dr 68) a.Dm a.Do ["_law_grid_here","_law_limits"],
 hW K "__init__" "Net.__init__" (cX (dr 43) 0) a.Dp a.Dq,
 Mk K a.Ah a.Dp,
 I_ K a.Dq ["self","rowsums","columnsums","bounds"] ["bounds"] 3 [.kw 0],
 hW K "rowsums" "Net.rowsums" (cX (dr 43) 3) a.Dr a.Dt,
 oD K a.Ah "rowsums" a.Dr,
 cq K a.Dt ["self"] [],
 hW K "columnsums" "Net.columnsums" (cX (dr 43) 4) a.Du a.Dv,
 oD K a.Ah "columnsums" a.Du,
 cq K a.Dv ["self"] [],
 hW K "steps" "Net.steps" (cX (dr 43) 9) a.Dw a.Dx,
 oD K a.Ah "steps" a.Dw,
 cq K a.Dx ["self","level","rests"] [],
 hW K "counts_at" "Net.counts_at" (cX (dr 43) 6) a.Dy a.Dz,
 oD K a.Ah "counts_at" a.Dy,
 cq K a.Dz ["self","level","rests"] [],
 hW K "dealings" "Net.dealings" (cX (dr 43) 8) a.D0 a.D3,
 oD K a.Ah "dealings" a.D0,
 cq K a.D3 ["self"] [],
 u0 K a.Ah,
 mg "Net"=on (.ref a.Ah),
 eA K a.Ah "column_list",
 eA K a.Ah "counted",
 eA K a.Ah "pairs",
 eA K a.Ah "row_list",
 hW K "__init__" "EdgeError.__init__" (cX (dr 2) 0) a.Ab a.Ac,
 cq K a.Ac ["self","word","why"] [],
 mg "EdgeError"=on (.ref a.Aa),
 hW K "__init__" "Barred.__init__" (cX (dr 6) 0) a.Af a.Ag,
 cq K a.Ag ["self","over","into"] [],
 mg "Barred"=on (.ref a.Ae),
 RN K (.ref a.Ae) "over"=on OZ,
 RN K (.ref a.Ae) "into"=on OZ,
 XMk K a.Ae a.Af,
 RN K (.ref a.Ae) "word"=on OZ,
 ClsFn K a.Aa "__init__" a.Ab]
structure t_ (K:Pz) (mg:a0i) (a:Ad):Prop where
 D6:∀i,(FnL K mg a).getD i True
 D7:mg "ValueError"=OZ
 D8:mg "abs"=OZ
 D9:mg "any"=OZ
 Ea:mg "bool"=OZ
 Eb:mg "enumerate"=OZ
 Ec:mg "int"=OZ
 Ed:mg "isinstance"=OZ
 Ee:mg "len"=OZ
 Ef:mg "list"=OZ
 Eg:mg "max"=OZ
 Eh:mg "min"=OZ
 Ei:mg "range"=OZ
 Ej:mg "reversed"=OZ
 Ek:mg "sorted"=OZ
 El:mg "str"=OZ
 Em:mg "sum"=OZ
 En:mg "tuple"=OZ
 Eo:mg "zip"=OZ
section
variable{P:P6}{w:Qb}{K:Pz}{mg:a0i}{ac:Qt}{a:Ad}
def KY(K:Pz):Sp:=λw H Q _=>∃(x C:O7) (D y:V),w=[.r x,D,y]/\H x=on (dH C x OZ)/\XC K C/\RN K (.ref C) "word"=on OZ/\∀(d:O7) (a:a0B) (c:Hp),c x=on (dH C x<|on d)->c d=on (.xd a)->VX a<=1->d≠x->H d=OZ->(∀b o,H b=on o->b≠x->c b=on o)->Q .o c
theorem uq:b5 ["self","word","why"] ["self","word","why"] (ae<|cX (dr 2) 0):=fy
theorem JI(N:t_ K mg a):en P w K mg ac (f0 P w) 1 a.Ab a.Ac ["self","word","why"] (KY K):=by
 refine(N.1 78).ok uq (λM H Q E h=>?_) (λj A D s H M Q E n h=>?_)
 .obtain⟨x,C,wd,y,rfl,_⟩:=h
  rfl
 .obtain⟨x,C,wd,y,rfl,l,c,m,k⟩:=h
  refine⟨_,bY (cV<|Gg rfl N.D7<|cg (pv 0)<|cg (pv 2) eZ)<|je<|Ga (pv 0) (pv 1) rfl,?_⟩;refine⟨_,rfl,_,rfl,x,C,OZ,_,rfl,(by show 1<=Ps;decide),l,c,?_⟩;refine⟨_,rfl,_,rfl,x,C,rfl,aj,c,m,λd G f=>?_⟩;have g:H d=OZ:=by rw[bb f]at G;exact G
  refine k d [(_,wd)] _ aj (by rw[bb f];exact aj) (Pg 1) f g λb o e i=>?_;rw[bb i,bb<|bt e g,bb i];exact e
theorem yU:b5 ["self","over","into"] ["self","over","into"] (ae<|cX (dr 6) 0):=fy
theorem zi(N:t_ K mg a):en P w K mg ac (f0 P w) 2 a.Af a.Ag ["self","over","into"] (HD K a.Ae):=by
 refine(N.1 81).ok yU (λS H Q E h=>?_) (λU A G s H S Q E F h=>?_)
 .obtain⟨x,p,q,xs,ys,rfl,_⟩:=h
  rfl
 .obtain⟨x,p,q,xs,ys,rfl,R,T,m1,m2,I,k⟩:=h
  refine⟨_,bY (cV<|ze (N.1 88) (JI N) F rfl (N.1 80) (N.1 79) .nil nY<|cg (pv 0)<|cg LB<|cg (JB<|CW<|CY F (pv 1)<|CW<|CY F (pv 2) Lw) eZ)<|bY (vR (pv 0) (ki bN (by rfl) N.Ef Boot.«list»<|cg (pv 1) eZ) rfl)<|je<|vR (pv 0) (ki bN (by rfl) N.Ef Boot.«list»<|cg (pv 2) eZ) rfl,?_⟩;have W:Ps=16777216:=rfl;have e1:(QT "rows ").length=5:=rfl;have e2:(QT " have too little room by columns ").length=33:=rfl;refine⟨_,rfl,(by show 0+(QT "rows ").length<=_;lia),_,rfl,p,xs,rfl,R,m1,(by show 0+(QT "rows ").length+20000<=_;lia),λJ X=>⟨by show J+(QT " have too little room by columns ").length<=_;lia,_,rfl,q,ys,rfl,T,m2,?_,λY L=>⟨?_,λz hz=>?_⟩⟩⟩
  .show J+(QT " have too little room by columns ").length+20000<=_;lia
  .have:Y<=J+(QT " have too little room by columns ").length+20000:=L
   lia
  refine⟨x,a.Ae,_,_,rfl,I,(N.1 86).xc,(N.1 87),λd M Z f t aa m u n=>?_⟩;refine⟨_,rfl,p,_,rfl,.inl<|vj R I n,λD r=>?_⟩;have g:D≠x:=(bt f r).symm;have v:D≠d:=(bt t r).symm;refine⟨_,rfl,x,a.Ae,d,M,rfl,(by rw[bb g.symm];exact f),(by rw[bb v.symm];exact t),by lia,(N.1 86).xc,(N.1 84),?_⟩;have y:∀b o,H b=on o->b≠x->(upd (upd Z D<|.l<|xs.map V.n) d<|.xd<|(QT "over",.r D)::M) b=on o:=λb o e C=>by
   have i:=n b o e C;rw[bb<|bt e u,bb<|bt i r];exact i
  refine⟨_,rfl,q,ys.map V.n,rfl,.inl<|vj T I y,λO c=>?_⟩;have j:O≠d:=λz=>by subst z;rw[aj]at c;cases c
  rw[bb j]at c;have B:O≠D:=λz=>by subst z;rw[aj]at c;cases c
  rw[bb B]at c;have l:O≠x:=(bt f c).symm;refine⟨_,rfl,x,a.Ae,d,(QT "over",.r D)::M,rfl,?_,?_,by rw[Pt];lia,(N.1 86).xc,(N.1 85),?_⟩
  .rw[bb l.symm,bb m.symm,bb g.symm];exact f
  .rw[bb j.symm];exact aj
  refine k (on d) _ ?_ λb o e C=>?_
  .rw[bb m.symm,bb l.symm,bb m.symm,bb g.symm];exact f
  .have i:=n b o e C
   rw[bb<|bt e u,bb<|bt i c];exact y b o e C
theorem j4:b5 ["_law_bag_here","_law_lot","_law_cells","_law_at","_law_cell"] ["_law_bag_here","_law_lot"] (ae<|dr 54):=fy
theorem DG(N:t_ K mg a):en P w K mg ac (f0 P w) 2 a.Co a.Cp ["_law_bag_here","_law_lot"] (KX K 2 cI):=by
 refine(N.1 39).F.ok (k:=1) j4 (λvs H Q E h=>h.1) (λX A x s H vs Q E hr h=>?_);obtain⟨_,F,ds,D,fr,hd,r,Y,e,k⟩:=h;obtain⟨G,rfl,ok,C,Z,rfl,rfl⟩:=DT e;obtain⟨v,w',rfl,d1,d2⟩:=br.j9 hd;unfold c4 at d1;obtain⟨b,l,d,rfl⟩:=d1;cases d2.int;obtain⟨t,I⟩:=fr.bag b l d;obtain⟨ab,al,m⟩:=fr.bgA b l d;obtain⟨U,J,aa,W⟩:=ok.at;obtain⟨_,_,ad,_⟩:=xJ ok C;have M:(VX (D.cells.map V.n):Int)=(VX D.cells:Int):=by rw[OY]
 have L:v0 (D.cells.map V.n) (D.pos:Int)=on (.n D.cell):=Km (by rw[O9,J];rfl);refine⟨_,bY (qo (i:=2) j4.nd rfl (RZ rfl)<|iX fG (pv 0) bT (λ_ _=>rfl))
  (bY (qo (i:=3) j4.nd rfl (RZ rfl)<|dX jG (iX fG (pv 0) bT (λ_ _=>rfl))<|lz m6 (by rfl) N.Ee PySem.boot_len<|cg (pv 2) eZ)
  (bY (qo (i:=4) j4.nd rfl (RZ rfl)<|iX fG (pv 2) (pv 3) (λ_ _=>rfl))
  (bY (HQ (xK NW (pv 4) (dX LL bT bT)<|v4 _)
   (bY (c5 (dX xS (pv 4)<|pv 1)<|ij (pv 2) (pv 3) f8)<|je<|ax<|dX jG (pv 4)<|pv 1) rR)
  (bY (c5 (dX qq (iX fG (pv 0) bT (λ_ _=>rfl)) bT)<|ij (pv 0) bT f8)
  (bY (c5 (dX jG (dX LN (dX qq (dX qq (iX fG (pv 0) bT (λ_ _=>rfl))<|dX jG (pv 4) bT) bT) bT) bT)<|ij (pv 0) bT f8)
  (je<|ax<|dX jG (dX xS (iX fG (pv 0) bT (λ_ _=>rfl)) bT)<|pv 1)))))),?_⟩
 refine⟨_,rfl,b,_,_,_,rfl,rfl,eX.of t,rfl,?_⟩;refine⟨_,rfl,b,_,_,_,rfl,rfl,eX.of t,rfl,_,rfl,l,_,rfl,.inl<|eX.of I,_,_,rfl,rfl,?_,?_⟩
 .have:=U
  rw[M];lia
 refine⟨_,rfl,_,rfl,l,_,_,_,rfl,rfl,eX.of I,by rw[M,W];exact L,?_⟩;refine⟨_,rfl,_,_,rfl,rfl,⟨by decide,by decide,by decide⟩,_,_,rfl,rfl,_,rfl,?_⟩;have S:∀{O:Hp} {p:O7} {o:HO},(∀c,F.A c->O c≠OZ)->∀c,F.A c->upd O p o c≠OZ:=λ{O p o} f c hc z=>by
  by_cases q:c=p
  .subst q;rw[aj]at z;cases z
  .rw[bb q]at z;exact f c hc z
 refine ite2 (λg=>?_) (λg=>?_)
 .have Fv:(10:Int)^18<=D.cell:=QH g
  refine⟨_,rfl,_,rfl,_,_,rfl,rfl,⟨C,Z⟩,_,rfl,_,rfl,l,_,_,D.pos,rfl,rfl,I,?_,?_⟩
  .rw[M,W,OY]
   exact JY U
  refine⟨_,rfl,_,rfl,_,_,rfl,rfl,C,?_⟩;have R:kh D G=D.cell % G:=Pc Fv;have T:ly D G=⟨D.cells.set D.pos<|D.cell/G,D.i,D.j⟩:=Pc Fv;rw[R,T]at k;refine k _ _ ⟨λc o hc n=>by rw[bb (n b l d).2];exact hc,S fr.occ,fr.bgA,λb' l' u=>?_⟩ rfl;rw[d]at u;cases u;exact⟨by rw[bb m];exact t,by rw[aj,R8]⟩
 .have Fv:¬(10:Int)^18<=D.cell:=λq=>g<|Pn q
  refine⟨_,rfl,b,_,_,_,rfl,rfl,eX.of t,rfl,_,_,rfl,rfl,_,rfl,b,_,_,1,rfl,rfl,t,rfl,?_⟩;have y:(upd H b<|.l [.r l,.n<|D.i+1,.n D.j]) b=on (.l [.r l,.n<|D.i+1,.n D.j]):=aj;refine⟨_,rfl,b,_,_,_,rfl,rfl,eX.of y,rfl,_,rfl,_,_,rfl,rfl,(by show(0:Int)<2147483629;decide),_,_,rfl,rfl,_,_,rfl,rfl,_,_,rfl,rfl,.inr ⟨by decide,by decide⟩,_,_,rfl,rfl,(by show(0:Int)<2147483629;decide),_,rfl,b,_,_,2,rfl,rfl,y,rfl,?_⟩;have B:(upd (upd H b<|.l [.r l,.n<|D.i+1,.n D.j]) b<|.l [.r l,.n<|D.i+1,.n D.f5]) b=on (.l [.r l,.n<|D.i+1,.n D.f5]):=aj;refine⟨_,rfl,b,_,_,_,rfl,rfl,eX.of B,rfl,_,_,rfl,rfl,⟨by decide,by decide⟩,_,rfl,_,_,rfl,rfl,C,?_⟩;have R:kh D G=D.f5/64 % G:=Pd Fv;have T:ly D G=⟨D.cells,D.i+1,D.f5⟩:=Pd Fv;rw[R,T]at k;refine k _ _ ⟨λc o hc n=>by rw[bb (n b l d).1,bb (n b l d).1];exact hc,S<|S fr.occ,fr.bgA,λb' l' u=>?_⟩ rfl;rw[d]at u;cases u;exact⟨B,by rw[bb m.symm,bb m.symm];exact I⟩
theorem FY:b5 ["_law_script"] ["_law_script"] (ae<|dr 53):=fy
theorem nd1:(["_law_cell"]:a0h).Nodup:=by decide +kernel
theorem Gq(N:t_ K mg a):en P w K mg ac (f0 P w) 1 a.Cm a.Cn ["_law_script"] (NB K):=by
 refine(N.1 38).F.ok FY (λvs H Q E h=>?_) (λX A S s H vs Q E hr h=>?_)
 .obtain⟨a,ns,rfl,_⟩:=h
  rfl
 .obtain⟨a,ns,rfl,Y,k⟩:=h
  refine⟨_,je<|ax<|jF<|cg (dX LQ (nW rfl (c_:=["_law_cell"]) (di.f5 rfl (by decide +kernel)<|by decide +kernel) (Jv<|vU xv (pv 0) xN<|xM bT)
   (λcl C fp s H=>⟨xP (i:=0) nd1 rfl<|RZ rfl,vT,λD=>aN rfl (lz pL (by rfl) N.D8 Boot.«abs»<|cg (pv 0) eZ) rfl⟩))<|jF<|cg bT eZ)<|cg bT<|cg bT eZ,?_⟩
  obtain⟨M,I,Z⟩:=OU ns;refine⟨_,rfl,63,rfl,a,_,rfl,Y,λp hp=>?_⟩;rw[I];have L:bP H (upd H p<|.l<|M.map V.n):=bP.upd hp;refine⟨p,rfl,⟨_,eX.of aj⟩,λD y=>?_⟩;have q:D≠p:=λz=>by subst z;rw[aj]at y;cases y
  refine AC (xs:=M.map V.n) (λi B g=>∃G:a0e,(∃v,B=[v])/\VX G=i/\(∀c∈G,0<=c)/\g D=on (.l<|G.map V.n)/\g p=on (.l<|M.map V.n)/\bP H g) ⟨[],⟨_,rfl⟩,rfl,(λ_ h=>nomatch h),aj,by rw[bb q.symm,aj],L.trans<|bP.upd y⟩
   (λi B g _ ⟨_,_,_,_,_,e,_⟩=>eX.of e) ?_ ?_
  .rintro i x B g n ⟨G,⟨v,rfl⟩,l,m,d,r,t⟩
   have aa:i<VX M:=by have:=(Pl.mp n).1;rwa[OY]at this
   obtain⟨z,rfl⟩:∃z,x=V.n z:=by
    rw[O9]at n;cases e:M[i]? with
    |none=>rw[e]at n;cases n
    |some z=>rw[e]at n;exact⟨z,(P3 n).symm⟩
   unfold d7 KJ;refine iteT ?_;refine⟨_,rfl,_,rfl,G.map V.n,d,by rw[OY];exact sX (by lia),G++[if z<0 then -z else z],⟨_,rfl⟩,by rw[PR,l];rfl,λc hc=>?_,by rw[aj,Qc];rfl,by rw[bb q.symm];exact r,λb o e=>?_⟩
   .rcases QB.mp hc with hc|hc
    .exact m c hc
    .obtain rfl:c=_:=by simpa using hc
     split<;>lia
   .rw[bb<|bt e<|L.free y]
    exact t b o e
  .rintro B g ⟨G,⟨v,rfl⟩,l,m,d,r,t⟩
   rw[OY]at l;refine⟨by decide,λO j=>⟨D,O,_,_,rfl,rfl,by rw[bb<|bt d j];exact d,aj,by rw[OY];exact VF (sX<|by simp;lia),λR u=>⟨(by show 3<=Ps;decide),λT f=>?_⟩⟩⟩;have U:bP g (upd g O<|.l [V.n 1]):=bP.upd j;have W:=U.trans<|bP.upd (o:= .l<|G.map V.n++[V.n 1]) u;have J:R≠T:=λz=>by subst z;rw[aj]at f;cases f
   refine k T R _ ((t.trans W).free f) ((t.trans U).free u) ⟨G++[1],0,0,aj,by rw[bb J,aj,Qc];rfl,by simp,by rw[PR];simp;lia,λc hc=>?_,by decide⟩<|(t.trans W).trans<|bP.upd f;rcases QB.mp hc with hc|hc
   .exact m c hc
   .obtain rfl:c=1:=by simpa using hc
    decide
theorem bz(N:t_ K mg a):FB P w K mg ac 2 "_law_pull" a.Co a.Cp ["_law_bag_here","_law_lot"] 2 cI:=⟨DG N,(N.1 39).m,(N.1 39).F.kp,(N.1 39).b⟩
abbrev QF(K:Pz)(a:Ad)(k:Nat)(x:Qa)(f:O7)(d:PP)(E:a0h)(n:Nat):={m:a0c->M D//∀{P:P6} {w:Qb} {mg:a0i} {ac:Qt} (N:t_ K mg a),FB P w K mg ac k x f d E n m}
abbrev QM(K:Pz)(a:Ad)(k:Nat)(f:O7)(d:PP)(E:a0h)(n:Nat):={m:a0c->M D//∀{P:P6} {w:Qb} {mg:a0i} {ac:Qt} (N:t_ K mg a),en P w K mg ac (f0 P w) k f d E (KX K n m)}
theorem Jk:b5 ["rows","columns","pair"] ["rows","columns","pair"] (ae<|dr 14):=fy
def Lj(K:Pz)(a:Ad):QM K a 2 a.Ai a.Aj ["rows","columns","pair"] 3:=⟨_,λN=>by
 exact jQ (k:=1) 3 3 _ (N.1 4) Jk rfl rfl λb A w s H E d=>ao<|aC<|ax<|bu rfl (js ["row","pair","columns"] ["row"] [2,1]) (bK (by rfl) N.Ei<|d4<|vv 0) (λG C c s H=>⟨(eg 0 gs),aQ,λD=>aN rfl (bu rfl (js ["column","pair"] ["column"] [1]) (bK (by rfl) N.Ei<|d4<|vv 2) (λG C c s H=>⟨(eg 0 gs),aQ,λD=>aN rfl (vv 1) rfl⟩) ar aA (λD=>aP)) rfl⟩) ar aA (λD=>aP)⟩
theorem ut:b5 ["rowsums","columnsums"] ["rowsums","columnsums"] (ae<|dr 15):=fy
def jB(K:Pz)(a:Ad):QF K a 2 "check_sums" a.Ak a.Am ["rowsums","columnsums"] 2:=⟨_,λN=>by
 exact hY 2 (N.1 7) ut λb A w s H E c=>af (cj (nJ<|rF kj kj mP mP (ak) (cJ N.Ee<|d4<|vv 0)<|l3<|N.1 2) (ao<|dL)<|bE)
   (af (cj (nJ<|rF kj kj mP mP (ak) (cJ N.Ee<|d4<|vv 1)<|l3<|N.1 1) (ao<|dL)<|bE)
   (af (cj (hZ<|u6 (nG<|cL (m7 rfl) zF (by rfl) N.D9 Boot.«any»<|d4<|bu rfl (js ["many"] ["many"] []) (bA<|vv 0) (λG C d s H=>⟨(eg 0 gs),aQ,λD=>aN rfl (nF n5 rZ (vv 0)<|ak) rfl⟩) ar aA (λD=>aP))<|pS<|nG<|cL (m7 rfl) zF (by rfl) N.D9 Boot.«any»<|d4<|bu rfl (js ["many"] ["many"] []) (bA<|vv 1) (λG C d s H=>⟨(eg 0 gs),aQ,λD=>aN rfl (nF n5 rZ (vv 0)<|ak) rfl⟩) ar aA (λD=>aP)) (ao<|dL)<|bE)
   (af (cj (bj (gz c) i5 (gT N.Em<|d4<|vv 0)<|gT N.Em<|d4<|vv 1) (ao<|dL)<|bE)
   (ao<|cj (bj iY lH (gT N.Em<|d4<|vv 0)<|l3<|N.1 0) (ao<|dL)<|bE))))⟩
theorem rL:b5 ["place","many"] ["place","many"] (ae<|dr 16):=fy
def fX(K:Pz)(a:Ad):QF K a 2 "check_there" a.An a.Ao ["place","many"] 2:=⟨_,λN=>by
 exact hY 2 (N.1 8) rL λb A w s H E c=>ao<|cj (nJ<|rF kj n5 mP rZ (ak) (vv 0)<|vv 1) (ao<|dL)<|bE⟩
theorem uu:b5 ["row","column","rows","columns"] ["row","column","rows","columns"] (ae<|dr 17):=fy
def jD(K:Pz)(a:Ad):QF K a 3 "check_cell" a.Aq a.Ar ["row","column","rows","columns"] 4:=⟨_,λN=>by
 exact hY 4 (N.1 9) uu λc A w s H E b=>af (ig<|cV<|vc ((fX K a).2 N) b<|d_ (vv 0)<|vv 2)
   (ao<|ig<|cV<|vc ((fX K a).2 N) b<|d_ (vv 1)<|vv 3)⟩
theorem iJ:b5 ["pair","low","high"] ["pair"] (ae<|dr 18):=fy
def jC(K:Pz)(a:Ad):QF K a 2 "check_pair" a.As a.At ["pair"] 1:=⟨_,λN=>by
 exact hY 3 (N.1 10) iJ λb A w s H E c=>af (lq (fQ (aV aD<|aV aD eE)<|aU<|aU dG)<|c5 (vv 0)<|bL rfl<|ay (eg 1 iJ.nd)<|ay (eg 2 iJ.nd) bB)
   (ao<|cj (nJ<|FH kj kj kj mP mP mP (ak) (vv 1) (vv 2)<|l3<|N.1 0) (ao<|dL)<|bE)⟩
theorem fK:b5 ["bounds","rows","columns","pairs","pair"] ["bounds","rows","columns"] (ae<|dr 19):=fy
def cZ(K:Pz)(a:Ad):QF K a 3 "settled_bounds" a.Au a.Av ["bounds","rows","columns"] 3:=⟨_,λN=>by
 exact hY 5 (N.1 11) fK λd A w s H E b=>af (cj (bj vX zE (vv 0)<|yD) (ao<|aC<|ax<|IU ((Lj K a).2 N) (b.mono<|by decide) (by rfl) (N.1 5) (N.1 4).kp (N.1 6) fZ (d_ (vv 1)<|vv 2) (λG M r c h=>by rw[(bn<|bn I0) G M r c h];rfl))<|bE)
   (af (cj (hZ<|u6 (bj (gz b) i5 (cJ N.Ee<|d4<|vv 0)<|vv 1)<|pS<|nG<|cL (m7 rfl) zF (by rfl) N.D9 Boot.«any»<|d4<|bu rfl (js ["pairs","columns"] ["pairs"] [2]) (bA<|vv 0) (λP C e s H=>⟨(eg 0 gs),aQ,λD=>aN rfl (nF (gz b) i5 (cJ N.Ee<|d4<|vv 0)<|vv 1) rfl⟩) ar aA (λD=>aP)) (ao<|dL)<|bE)
   (af (cM aD<|bS dh rfl (bA<|vv 0) (eg 3 fK.nd)<|ao<|cM aD<|bS dh rfl (bA<|vv 3) (eg 4 fK.nd)<|ao<|ig<|cV<|vc ((jC K a).2 N) b<|d4<|vv 4)
   (ao<|aC<|ax<|bu rfl (js ["pairs"] ["pairs"] []) (bA<|vv 0) (λP C e s H=>⟨(eg 0 gs),aQ,λD=>aN rfl (cP bN kQ (by rfl) N.Ef Boot.«list»<|d4<|vv 0) rfl⟩) ar aA (λD=>aP))))⟩
theorem gq:b5 ["number","product","factor"] ["number"] (ae<|dr 21):=fy
def hG(K:Pz)(a:Ad):QF K a 2 "factorial" a.Aw a.Ax ["number"] 1:=⟨_,λN=>by
 exact hY 3 (N.1 12) gq λb A w s H E c=>af (aK<|fw 1 gq.nd<|ak)
   (af (cM aD<|bS dh rfl (wv (by rfl) N.Ei<|d_ (ak)<|aJ aR cm (vv 0)<|ak) (eg 2 gq.nd)<|ao<|qf x5<|mz (i:=1) gq.nd rfl (by first|exact RZ rfl|exact TL rfl) (vv 2) x9)
   (ao<|aC<|ax<|vv 1))⟩
theorem kG:b5 ["parts","part","told"] ["parts"] (ae<|dr 22):=fy
def qj(K:Pz)(a:Ad):QF K a 3 "ways" a.Ay a.Az ["parts"] 1:=⟨_,λN=>by
 exact hY 3 (N.1 13) kG λc A w s H E b=>af (cM aD<|bS dh rfl (bA<|vv 0) (eg 1 kG.nd)<|ao<|cj (bj n5 rZ (vv 1)<|ak) (ao<|dL)<|bE)
   (af (aK<|fw 2 kG.nd<|vc ((hG K a).2 N) b<|d4<|cL (E8 rfl) Md (by rfl) N.Em Boot.«sum»<|d4<|vv 0)
   (af (cM aD<|bS dh rfl (bA<|vv 0) (eg 1 kG.nd)<|ao<|qf GN<|mz (i:=2) kG.nd rfl (by first|exact RZ rfl|exact TL rfl) (vc ((hG K a).2 N) b (d4 (vv 1))) J2)
   (ao<|aC<|ax<|vv 2)))⟩
theorem jr:b5 ["one","other"] ["one","other"] (ae<|dr 23):=fy
def gr(K:Pz)(a:Ad):QF K a 2 "common_factor" a.A0 a.A1 ["one","other"] 2:=⟨_,λN=>by
 exact hY 2 (N.1 14) jr λb A w s H E c=>af (xy dh (bj iY lH (vv 1)<|ak)<|ao<|NH<|Lr (i:=0) (j:=1) rfl jr.nd rfl rfl (by decide) rfl rfl (d_ (vv 1)<|aJ jG Ia (vv 0)<|vv 1) rfl)
   (ao<|aC<|ax<|vv 0)⟩
theorem sZ:b5 ["top","under","factor"] ["top","under"] (ae<|dr 24):=fy
def pp(K:Pz)(a:Ad):QF K a 3 "lowest" a.A3 a.A4 ["top","under"] 2:=⟨_,λN=>by
 exact hY 3 (N.1 15) sZ λb A w s H E c=>af (cj (bj n5 rZ (vv 1)<|ak) (ao<|dL)<|bE)
   (af (aK<|fw 2 sZ.nd<|vc ((gr K a).2 N) c<|d_ (cL pL Ig (by rfl) N.D8 Boot.«abs»<|d4<|vv 0)<|vv 1)
   (ao<|aC<|ax<|bQ<|d_ (aJ lD qC (vv 0)<|vv 2)<|aJ lD qC (vv 1)<|vv 2))⟩
theorem cT:b5 ["rests","many","pairs","lows","tops","begun","row","fewest_behind","most_behind"] ["rests","many","pairs"] (ae<|dr 25):=fy
def lx(K:Pz)(a:Ad):QF K a 2 "fillings" a.A5 a.A6 ["rests","many","pairs"] 3:=⟨_,λN=>by
 exact hY 9 (N.1 16) cT λc A w s H E d=>af (aK<|fw 3 cT.nd<|bu rfl (js ["low","high"] ["low","high"] []) (bA<|vv 2) (λG C b s H=>⟨(bL rfl<|ay (eg 0 gs)<|ay (eg 1 gs) bB),aQ,λD=>aN rfl (vv 0) rfl⟩) (fi (bc ar<|bc ar dQ)<|aY<|aY cY) (eW<|aZ aA<|aZ aA dJ) (λD=>aP))
   (af (aK<|fw 4 cT.nd<|bu rfl (js ["rest","low","high"] ["rest","low","high"] []) (uK (by rfl) N.Eo<|d_ (vv 0)<|vv 2) (λG C b s H=>⟨(bL rfl<|ay (eg 0 gs)<|ay (bL rfl<|ay (eg 1 gs)<|ay (eg 2 gs) bB) bB),aQ,λD=>aN rfl (cL (uh rfl) Ib (by rfl) N.Eh Boot.«min»<|d_ (vv 0)<|vv 2) rfl⟩) (fi (bc ar<|bc (fi (bc ar<|bc ar dQ)<|aY<|aY cY) dQ)<|aY<|aY cY) (eW<|aZ aA<|aZ (eW<|aZ aA<|aZ aA dJ) dJ) (λD=>aP))
   (af (aK<|fw 5 cT.nd<|eM<|d4<|bQ<|d_ (bQ<|jp)<|vv 1)
   (af (cM aD<|bS dh rfl (bK (by rfl) N.Ei<|d4<|cJ N.Ee<|d4<|vv 0) (eg 6 cT.nd) (af (aK<|fw 7 cT.nd<|gT N.Em<|d4<|xj (vv 3) (DK<|aJ aR cm (vv 6)<|ak)<|DL)
   (af (aK<|fw 8 cT.nd<|gT N.Em<|d4<|xj (vv 4) (DK<|aJ aR cm (vv 6)<|ak)<|DL)
   (ao<|BZ (i:=5) cT.nd rfl (by first|exact RZ rfl|exact TL rfl) rfl (js ["counts","left","count","lows","row","most_behind","tops","fewest_behind"] ["counts","left","count"] [3,6,8,4,7]) (bA (vv 5)) (λG C b s H=>⟨(bL rfl<|ay (eg 0 gs)<|ay (eg 1 gs) bB),aQ,λD=>rV rfl rfl rfl (wv (by rfl) N.Ei<|d_ (cL (Fa rfl) Oc (by rfl) N.Eg Boot.«max»<|d_ (bo aG bx (vv 3)<|vv 4)<|aJ ik kq (vv 1)<|vv 5)<|aJ aR cm (cL (uh rfl) Ib (by rfl) N.Eh Boot.«min»<|d_ (bo aG bx (vv 6)<|vv 4)<|aJ ik kq (vv 1)<|vv 7)<|ak) (eg 2 gs) (aQ)<|aN rfl (bQ<|d_ (aJ aR cm (vv 0)<|bQ<|d4<|vv 2)<|aJ ik kq (vv 1)<|vv 2) rfl⟩) (fi (bc ar<|bc ar dQ)<|aY<|aY cY) (eW<|aZ aA<|aZ aA dJ) (λD=>JV ar aA<|aP)))))
   (ao<|aC<|ax<|bu rfl (js ["counts","left"] ["counts","left"] []) (bA<|vv 5) (λG C b s H=>⟨(bL rfl<|ay (eg 0 gs)<|ay (eg 1 gs) bB),uQ<|bj (e8 d) gC (vv 1)<|ak,λD=>aN rfl (vv 0) rfl⟩) (fi (bc ar<|bc ar dQ)<|aY<|aY cY) (eW<|aZ aA<|aZ aA dJ) (λD=>aP)))))⟩
theorem yW:b5 ["rowsums","over"] ["rowsums","over"] (ae<|dr 27):=fy
def mx(K:Pz)(a:Ad):QF K a 2 "need_of" a.A7 a.A8 ["rowsums","over"] 2:=⟨_,λN=>by
 exact hY 2 (N.1 17) yW λb A w s H E c=>ao<|aC<|ax<|gT N.Em<|d4<|bu rfl (js ["row","rowsums"] ["row"] [0]) (bA<|vv 1) (λG C d s H=>⟨(eg 0 gs),aQ,λD=>aN rfl (bo aG bx (vv 1)<|vv 0) rfl⟩) ar aA (λD=>aP)⟩
theorem kH:b5 ["columnsums","bounds","over","column","lows"] ["columnsums","bounds","over","column"] (ae<|dr 28):=fy
def dy(K:Pz)(a:Ad):QF K a 2 "room_inside" a.A9 a.Ba ["columnsums","bounds","over","column"] 4:=⟨_,λN=>by
 exact hY 5 (N.1 18) kH λb A w s H E c=>af (BZ (i:=4) kH.nd rfl (by first|exact RZ rfl|exact TL rfl) rfl (js ["row","pairs","over","column"] ["row","pairs"] [2,3]) (qL (by rfl) N.Eb (d4 (vv 1))) (λG C d s H=>⟨(bL rfl<|ay (eg 0 gs)<|ay (eg 1 gs) bB),uQ<|bj mC (GO (neg:=O6)) (vv 0)<|vv 2,λD=>aN rfl (bo aG bx (bo aG bx (vv 1)<|vv 3)<|ak) rfl⟩) (fi (bc ar<|bc ar dQ)<|aY<|aY cY) (eW<|aZ aA<|aZ aA dJ) (λD=>aP))
   (ao<|aC<|ax<|aJ ik kq (bo aG bx (vv 0)<|vv 3)<|gT N.Em<|d4<|vv 4)⟩
theorem rK:b5 ["bounds","over","column"] ["bounds","over","column"] (ae<|dr 29):=fy
def dz(K:Pz)(a:Ad):QF K a 2 "room_beside" a.Bb a.Bc ["bounds","over","column"] 3:=⟨_,λN=>by
 exact hY 3 (N.1 19) rK λb A w s H E c=>ao<|aC<|ax<|gT N.Em<|d4<|bu rfl (js ["row","bounds","column"] ["row"] [0,2]) (bA<|vv 1) (λG C d s H=>⟨(eg 0 gs),aQ,λD=>aN rfl (bo aG bx (bo aG bx (bo aG bx (vv 1)<|vv 0)<|vv 2)<|ak) rfl⟩) ar aA (λD=>aP)⟩
theorem yV:b5 ["columnsums","bounds","over","into"] ["columnsums","bounds","over","into"] (ae<|dr 30):=fy
def mw(K:Pz)(a:Ad):QF K a 3 "room_of" a.Bd a.Be ["columnsums","bounds","over","into"] 4:=⟨_,λN=>by
 exact hY 4 (N.1 20) yV λc A w s H E b=>ao<|aC<|ax<|gT N.Em<|d4<|bu rfl (js ["column","into","columnsums","bounds","over"] ["column"] [3,0,1,2]) (bK (by rfl) N.Ei<|d4<|cJ N.Ee<|d4<|vv 0) (λG C d s H=>⟨(eg 0 gs),aQ,λD=>aN rfl (Kv (bj DE (GO (neg:=O8)) (vv 0)<|vv 1) (vc ((dy K a).2 N) b<|x_ (vv 2) (vv 3) (vv 4)<|vv 0)<|vc ((dz K a).2 N) b<|ry (vv 3) (vv 4)<|vv 0) rfl⟩) ar aA (λD=>aP)⟩
theorem vx:b5 ["columnsums","bounds","over"] ["columnsums","bounds","over"] (ae<|dr 31):=fy
def kD(K:Pz)(a:Ad):QF K a 3 "narrowest" a.Bf a.Bh ["columnsums","bounds","over"] 3:=⟨_,λN=>by
 exact hY 3 (N.1 21) vx λc A w s H E b=>ao<|aC<|ax<|bu rfl (js ["column","columnsums","bounds","over"] ["column"] [0,1,2]) (bK (by rfl) N.Ei<|d4<|cJ N.Ee<|d4<|vv 0) (λG C d s H=>⟨(eg 0 gs),uQ<|bj n5 rZ (vc ((dy K a).2 N) b<|x_ (vv 1) (vv 2) (vv 3)<|vv 0)<|vc ((dz K a).2 N) b<|ry (vv 2) (vv 3)<|vv 0,λD=>aN rfl (vv 0) rfl⟩) ar aA (λD=>aP)⟩
theorem iS:b5 ["many","told","number"] ["many"] (ae<|dr 32):=fy
def my(K:Pz)(a:Ad):QF K a 2 "choices" a.Bi a.Bj ["many"] 1:=⟨_,λN=>by
 exact hY 3 (N.1 22) iS λb A w s H E c=>af (aK<|fw 1 iS.nd<|eM<|d4<|eM<|jp)
   (af (cM aD<|bS dh rfl (bK (by rfl) N.Ei<|d4<|vv 0) (eg 2 iS.nd)<|ao<|aK<|fw 1 iS.nd<|aJ aR cm (vv 1)<|bu rfl (js ["chosen","number"] ["chosen"] [2]) (bA<|vv 1) (λG C d s H=>⟨(eg 0 gs),aQ,λD=>aN rfl (aJ aR cm (vv 0)<|eM<|d4<|vv 1) rfl⟩) ar aA (λD=>aP))
   (ao<|aC<|ax<|vv 1))⟩
theorem jt:b5 ["rowsums","columnsums","bounds","over","into"] ["rowsums","columnsums","bounds"] (ae<|dr 33):=fy
def bW(K:Pz)(a:Ad):QF K a 4 "check_fit" a.Bk a.Bl ["rowsums","columnsums","bounds"] 3:=⟨_,λN=>by
 exact hY 5 (N.1 23) jt λc A w s H E b=>ao<|cM aD<|bS dh rfl (bA<|vc ((my K a).2 N) b<|d4<|cJ N.Ee<|d4<|vv 0) (eg 3 jt.nd) (af (aK<|fw 4 jt.nd<|vc ((kD K a).2 N) b<|ry (vv 1) (vv 2)<|vv 3)
   (ao<|cj (bj iY lH (vc ((mx K a).2 N) b<|d_ (vv 0)<|vv 3)<|vc ((mw K a).2 N) b<|x_ (vv 1) (vv 2) (vv 3)<|vv 4) (ao<|FZ (N.1 86).xc<|F9 b.hd<|LG (N.1 86) (zi N) (b.mono<|by decide) rfl (N.1 83) (N.1 82) .nil nY<|d_ (vv 3)<|vv 4)<|bE))⟩
theorem fW:b5 ["rowsums","wide","many"] ["rowsums"] (ae<|dr 36):=fy
def jA(K:Pz)(a:Ad):QF K a 2 "check_wide" a.Bm a.Bn ["rowsums"] 1:=⟨_,λN=>by
 exact hY 3 (N.1 24) fW λb A w s H E c=>af (aK<|fw 1 fW.nd<|ak)
   (af (cM aD<|bS dh rfl (bA<|vv 0) (eg 2 fW.nd)<|ao<|qf x5<|mz (i:=1) fW.nd rfl (by first|exact RZ rfl|exact TL rfl) (aJ aR cm (vv 2) (ak)) x9)
   (ao<|cj (bj iY lH (vv 1)<|l3<|N.1 3) (ao<|dL)<|bE))⟩
theorem ia:b5 ["rowsums","columnsums","bounds","settled"] ["rowsums","columnsums","bounds"] (ae<|dr 37):=fy
def b9(K:Pz)(a:Ad):QF K a 4 "settled_for_net" a.Bo a.Bp ["rowsums","columnsums","bounds"] 3:=⟨_,λN=>by
 exact hY 4 (N.1 25) ia λc A w s H E b=>af (ig<|cV<|vc ((jB K a).2 N) b<|d_ (vv 0)<|vv 1)
   (af (aK<|fw 3 ia.nd<|vc ((cZ K a).2 N) b<|ry (vv 2) (cJ N.Ee<|d4<|vv 0)<|cJ N.Ee<|d4<|vv 1)
   (af (ig<|cV<|vc ((jA K a).2 N) b<|d4<|vv 0)
   (ao<|aC<|ax<|vv 3)))⟩
theorem mh:b5 ["rests","columnsums","bounds","column"] ["rests","columnsums","bounds","column"] (ae<|dr 38):=fy
def cb(K:Pz)(a:Ad):QF K a 3 "column_fillings" a.Bq a.Bs ["rests","columnsums","bounds","column"] 4:=⟨_,λN=>by
 exact hY 4 (N.1 26) mh λb A w s H E c=>ao<|aC<|ax<|vc ((lx K a).2 N) c<|ry (vv 0) (bo aG bx (vv 1)<|vv 3)<|bu rfl (js ["pairs","column"] ["pairs"] [3]) (bA<|vv 2) (λG C d s H=>⟨(eg 0 gs),aQ,λD=>aN rfl (bo aG bx (vv 0)<|vv 1) rfl⟩) ar aA (λD=>aP)⟩
theorem pZ:b5 ["rests","counts"] ["rests","counts"] (ae<|dr 39):=fy
def cU(K:Pz)(a:Ad):QF K a 2 "rests_behind" a.Bt a.Bu ["rests","counts"] 2:=⟨_,λN=>by
 exact hY 2 (N.1 27) pZ λb A w s H E c=>ao<|aC<|ax<|cP dC jh (by rfl) N.En Boot.«tuple»<|d4<|bu rfl (js ["rest","count"] ["rest","count"] []) (uK (by rfl) N.Eo<|d_ (vv 0)<|vv 1) (λG C d s H=>⟨(bL rfl<|ay (eg 0 gs)<|ay (eg 1 gs) bB),aQ,λD=>aN rfl (aJ ik kq (vv 0)<|vv 1) rfl⟩) (fi (bc ar<|bc ar dQ)<|aY<|aY cY) (eW<|aZ aA<|aZ aA dJ) (λD=>aP)⟩
theorem b8:b5 ["rowsums","columnsums","bounds","here","told","column","behind"] ["rowsums","columnsums","bounds"] (ae<|dr 40):=fy
def gb(K:Pz)(a:Ad):QF K a 4 "nodes_by_level" a.Bv a.Bw ["rowsums","columnsums","bounds"] 3:=⟨_,λN=>by
 exact hY 7 (N.1 28) b8 λc A w s H E b=>af (aK<|fw 3 b8.nd<|eM<|d4<|cP dC jh (by rfl) N.En Boot.«tuple»<|d4<|vv 0)
   (af (yX<|fw 4 b8.nd<|jF<|d4<|vv 3)
   (af (cM aD<|bS dh rfl (bK (by rfl) N.Ei<|d4<|cJ N.Ee<|d4<|vv 1) (eg 5 b8.nd) (af (aK<|fw 6 b8.nd<|FA (by rfl) N.Ek rfl (js ["rests","counts","columnsums","bounds","column"] ["rests","counts"] [1,2,5]) (bA<|vv 3) (λG C d s H=>⟨(eg 0 gs),aQ,λD=>rV rfl rfl rfl (bA<|vc ((cb K a).2 N) b<|x_ (vv 0) (vv 2) (vv 3)<|vv 4) (eg 1 gs) (aQ)<|vW (uM b) rfl (vc ((cU K a).2 N) b<|d_ (vv 0)<|vv 1) rfl⟩) ar aA (λD=>pw ar aA<|GJ))
   (af (yY<|cV<|zf U8 US UT mI (pv 4)<|d4<|vv 6)
   (ao<|aK<|fw 3 b8.nd<|vv 6))))
   (ao<|aC<|ax<|vv 4)))⟩
theorem bR:b5 ["rests","filled","behind","tables","dealings","counts","tables_behind","dealings_behind"] ["rests","filled","behind"] (ae<|dr 41):=fy
def iN(K:Pz)(a:Ad):QF K a 4 "node_counts" a.Bx a.By ["rests","filled","behind"] 3:=⟨_,λN=>by
 exact hY 8 (N.1 29) bR λc A w s H E b=>af (aK<|fw 3 bR.nd<|ak)
   (af (aK<|fw 4 bR.nd<|ak)
   (af (cM aD<|bS dh rfl (bA<|vv 1) (eg 5 bR.nd) (af (lq (fQ (aV aD<|aV aD eE)<|aU<|aU dG)<|c5 (bo (wl<|hu2 b) Ie (vv 2)<|vc ((cU K a).2 N) b<|d_ (vv 0)<|vv 5)<|bL rfl<|ay (eg 6 bR.nd)<|ay (eg 7 bR.nd) bB)
   (af (qf x6<|mz (i:=3) bR.nd rfl (by first|exact RZ rfl|exact TL rfl) (vv 6) EC)
   (ao<|qf x6<|mz (i:=4) bR.nd rfl (by first|exact RZ rfl|exact TL rfl) (aJ ci dI (vc ((qj K a).2 N) b (d4 (vv 5))) (vv 7)) EC))))
   (ao<|aC<|ax<|bQ<|d_ (vv 3)<|vv 4)))⟩
theorem bG:b5 ["rowsums","columnsums","bounds","levels","last","here","told","level","behind"] ["rowsums","columnsums","bounds"] (ae<|dr 42):=fy
def eP(K:Pz)(a:Ad):QF K a 5 "counted_nodes" a.Bz a.B0 ["rowsums","columnsums","bounds"] 3:=⟨_,λN=>by
 exact hY 9 (N.1 30) bG λe A w s H E c=>af (aK<|fw 3 bG.nd<|vc ((gb K a).2 N) c<|ry (vv 0) (vv 1)<|vv 2)
   (af (aK<|fw 4 bG.nd<|cJ N.Ee<|d4<|vv 1)
   (af (BY (kb:=O8) (i:=5) bG.nd rfl (by first|exact RZ rfl|exact TL rfl) rfl (js ["rests"] ["rests"] []) (bA (bo aG bx (vv 3) (vv 4))) (λG C d s H=>⟨(eg 0 gs),aQ,λD=>lA (b:=O8) (uM c) rfl (vv 0) (bQ<|d_ (ak)<|ak) rfl⟩) ar aA (λD=>pz))
   (af (yX<|fw 6 bG.nd<|jF<|d4<|vv 5)
   (af (cM aD<|bS dh rfl (GU (by rfl) N.Ej (by rfl) N.Ei<|d4<|vv 4) (eg 7 bG.nd) (af (aK<|fw 8 bG.nd<|vv 5)
   (af (BY (kb:=O8) (i:=5) bG.nd rfl (by first|exact RZ rfl|exact TL rfl) rfl (js ["rests","columnsums","bounds","level","behind"] ["rests"] [1,2,7,8]) (bA (bo aG bx (vv 3) (vv 7))) (λG C d s H=>⟨(eg 0 gs),aQ,λD=>lA (b:=O8) (uM c) rfl (vv 0) (vc ((iN K a).2 N) c<|ry (vv 0) (vc ((cb K a).2 N) c<|x_ (vv 0) (vv 1) (vv 2)<|vv 3)<|vv 4) rfl⟩) ar aA (λD=>pz))
   (ao<|yY<|cV<|zf U8 US UT mI (pv 6)<|d4<|vv 5))))
   (ao<|aC<|ax<|IS (kb:=O6) rfl (js ["level","nodes","rests","counts"] ["level","nodes","rests","counts"] []) (qL (by rfl) N.Eb<|d4<|Nn (vv 6)<|v_un Ky Ob<|ak) (λG C d s H=>⟨(bL rfl<|ay (eg 0 gs)<|ay (eg 1 gs) bB),aQ,λD=>rV rfl rfl rfl (yc<|vv 1) (bL rfl<|ay (eg 2 gs)<|ay (eg 3 gs) bB) (aQ)<|lA (b:=O6) (uM c) rfl (bQ<|d_ (vv 0)<|vv 2) (vv 3) rfl⟩) (fi (bc ar<|bc ar dQ)<|aY<|aY cY) (eW<|aZ aA<|aZ aA dJ) (λD=>pw (fi (bc ar<|bc ar dQ)<|aY<|aY cY) (eW<|aZ aA<|aZ aA dJ)<|pz))))))⟩
theorem rN:b5 ["self"] ["self"] (ae<|cX (dr 43) 3):=fy
def fY(K:Pz)(a:Ad):QM K a 2 a.Dr a.Dt ["self"] 1:=⟨_,λN=>by
 exact jQ (k:=1) 1 1 _ (N.1 57) rN rfl rfl λb A w s H E c=>ao<|aC<|ax<|cP bN kQ (by rfl) N.Ef Boot.«list»<|d4<|jZ (N.1 72) (N.1 77)<|vv 0⟩
theorem oK:b5 ["self"] ["self"] (ae<|cX (dr 43) 4):=fy
def gc(K:Pz)(a:Ad):QM K a 2 a.Du a.Dv ["self"] 1:=⟨_,λN=>by
 exact jQ (k:=1) 1 1 _ (N.1 60) oK rfl rfl λb A w s H E c=>ao<|aC<|ax<|cP bN kQ (by rfl) N.Ef Boot.«list»<|d4<|jZ (N.1 72) (N.1 74)<|vv 0⟩
theorem f9:b5 ["net","cell","row","column"] ["net","cell"] (ae<|dr 45):=fy
def gu(K:Pz)(a:Ad):QF K a 4 "check_cell_of" a.B5 a.B7 ["net","cell"] 2:=⟨_,λN=>by
 exact hY 4 (N.1 31) f9 λc A w s H E b=>af (lq (fQ (aV aD<|aV aD eE)<|aU<|aU dG)<|c5 (vv 1)<|bL rfl<|ay (eg 2 f9.nd)<|ay (eg 3 f9.nd) bB)
   (ao<|ig<|cV<|vc ((jD K a).2 N) b<|x_ (vv 2) (vv 3) (cJ N.Ee<|d4<|gR (N.1 72) (N.1 58) ((fY K a).2 N) (b.mono<|by decide) (dF.f5<|N.1 59) fZ (vv 0) rfl)<|cJ N.Ee<|d4<|gR (N.1 72) (N.1 61) ((gc K a).2 N) (b.mono<|by decide) (dF.f5<|N.1 62) fZ (vv 0) rfl)⟩
theorem kC:b5 ["cell","level","counts","row","column"] ["cell","level","counts"] (ae<|dr 46):=fy
def iW(K:Pz)(a:Ad):QF K a 2 "count_in" a.B8 a.Ca ["cell","level","counts"] 3:=⟨_,λN=>by
 exact hY 5 (N.1 32) kC λb A w s H E c=>af (lq (fQ (aV aD<|aV aD eE)<|aU<|aU dG)<|c5 (vv 0)<|bL rfl<|ay (eg 3 kC.nd)<|ay (eg 4 kC.nd) bB)
   (ao<|aC<|ax<|Kv (bj (e8 c) gC (vv 4)<|vv 1) (bo aG bx (vv 2)<|vv 3)<|ak)⟩
theorem ib:b5 ["found","here","there","many","dealings","ones","others","products"] ["found","here","there","many"] (ae<|dr 47):=fy
def pk(K:Pz)(a:Ad):QF K a 2 "put_to" a.Cb a.Cc ["found","here","there","many"] 4:=⟨_,λN=>by
 exact hY 8 (N.1 33) ib λb A w s H E c=>af (lq (fQ (aV aD<|aV aD<|aV aD<|aV aD eE)<|aU<|aU<|aU<|aU dG)<|c5 (vv 0)<|bL rfl<|ay (eg 4 ib.nd)<|ay (eg 5 ib.nd)<|ay (eg 6 ib.nd)<|ay (eg 7 ib.nd) bB)
   (ao<|aC<|ax<|bQ<|x_ (aJ ci dI (vv 3)<|vv 4) (aJ ci dI (vv 3)<|aJ aR cm (vv 5)<|aJ ci dI (vv 1)<|vv 4) (aJ ci dI (vv 3)<|aJ aR cm (vv 6)<|aJ ci dI (vv 2)<|vv 4)<|aJ ci dI (vv 3)<|aJ aR cm (aJ aR cm (aJ aR cm (vv 7)<|aJ ci dI (vv 1)<|vv 6)<|aJ ci dI (vv 2)<|vv 5)<|aJ ci dI (aJ ci dI (vv 1)<|vv 2)<|vv 4)⟩
theorem ur:b5 ["found","more"] ["found","more"] (ae<|dr 48):=fy
def jx(K:Pz)(a:Ad):QF K a 2 "sums_added" a.Cd a.Cf ["found","more"] 2:=⟨_,λN=>by
 exact hY 2 (N.1 34) ur λb A w s H E c=>ao<|aC<|ax<|cP dC jh (by rfl) N.En Boot.«tuple»<|d4<|bu rfl (js ["one","other"] ["one","other"] []) (uK (by rfl) N.Eo<|d_ (vv 0)<|vv 1) (λG C d s H=>⟨(bL rfl<|ay (eg 0 gs)<|ay (eg 1 gs) bB),aQ,λD=>aN rfl (aJ aR cm (vv 0)<|vv 1) rfl⟩) (fi (bc ar<|bc ar dQ)<|aY<|aY cY) (eW<|aZ aA<|aZ aA dJ) (λD=>aP)⟩
theorem o8:b5 ["self","level","rests"] ["self","level","rests"] (ae<|cX (dr 43) 6):=fy
def gx(K:Pz)(a:Ad):QM K a 2 a.Dy a.Dz ["self","level","rests"] 3:=⟨_,λN=>by
 exact jQ (k:=1) 3 3 _ (N.1 66) o8 rfl rfl λb A w s H E c=>ao<|aC<|ax<|Hv (hu2 c) (jZ (N.1 72) (N.1 75)<|vv 0)<|d_ (bQ<|d_ (vv 1)<|vv 2)<|bQ<|d_ (ak)<|ak⟩
theorem vA:b5 ["self","level","rests"] ["self","level","rests"] (ae<|cX (dr 43) 9):=fy
def kE(K:Pz)(a:Ad):QM K a 4 a.Dw a.Dx ["self","level","rests"] 3:=⟨_,λN=>by
 exact jQ (k:=3) 3 3 _ (N.1 63) vA rfl rfl λd A w s H E b=>af (cj (hZ<|u6 (bj (xR<|hu2 b) Oa (bQ<|d_ (vv 1)<|vv 2)<|jZ (N.1 72) (N.1 75)<|vv 0)<|pS<|bj (e8 b) gC (vv 1)<|cJ N.Ee<|d4<|jZ (N.1 72) (N.1 74)<|vv 0) (ao<|aC<|ax<|eM<|jp)<|bE)
   (ao<|aC<|ax<|bu rfl (js ["counts","self","level","rests"] ["counts"] [0,1,2]) (bA<|vc ((cb K a).2 N) b<|x_ (vv 2) (jZ (N.1 72) (N.1 74)<|vv 0) (jZ (N.1 72) (N.1 76)<|vv 0)<|vv 1) (λP C e s H=>⟨(eg 0 gs),uQ<|bj iY lH (bo aG bx (u8 (N.1 72) (N.1 67) ((gx K a).2 N) (b.mono<|by decide) (dF.f5<|N.1 68) nY (vv 1) (d_ (aJ aR cm (vv 2)<|ak)<|vc ((cU K a).2 N) b<|d_ (vv 3)<|vv 0) (λG M r c h=>by rw[(bn<|bn I0) G M r c h];rfl))<|ak)<|ak,λD=>aN rfl (vv 0) rfl⟩) ar aA (λD=>aP))⟩
theorem cA:b5 ["net","one","other","level","sums","behind","rests","found","counts","node","more"] ["net","one","other","level","sums"] (ae<|dr 49):=fy
def iM(K:Pz)(a:Ad):QF K a 5 "sums_behind" a.Cg a.Ch ["net","one","other","level","sums"] 5:=⟨_,λN=>by
 exact hY 11 (N.1 35) cA λe A w s H E c=>af (NI<|fw 5 cA.nd<|vV (b:=O8))
   (af (cM (fQ (aV aD<|aV aD eE)<|aU<|aU dG)<|bS dh rfl (yc<|vv 4) (bL rfl<|ay (eg 6 cA.nd)<|ay (eg 7 cA.nd) bB)<|ao<|cM aD<|bS dh rfl (bA<|u8 (N.1 72) (N.1 64) ((kE K a).2 N) (c.mono<|by decide) (dF.f5<|N.1 65) fZ (vv 0) (d_ (vv 3)<|vv 6) (λD G r d h=>by rw[(bn<|bn I0) D G r d h];rfl)) (eg 8 cA.nd) (af (aK<|fw 9 cA.nd<|vc ((cU K a).2 N) c<|d_ (vv 6)<|vv 8)
   (af (aK<|fw 10 cA.nd<|vc ((pk K a).2 N) c<|x_ (vv 7) (vc ((iW K a).2 N) c<|ry (vv 1) (vv 3)<|vv 8) (vc ((iW K a).2 N) c<|ry (vv 2) (vv 3)<|vv 8)<|vc ((qj K a).2 N) c<|d4<|vv 8)
   (ao<|K5<|c5 (vc ((jx K a).2 N) c<|d_ (Hv (hu2 c) (vv 5)<|d_ (vv 9)<|bQ<|x_ (ak) (ak) (ak)<|ak)<|vv 10)<|ij (pv 5) (vv 9)<|vt<|hu2 c))))
   (ao<|aC<|ax<|vv 5))⟩
theorem c9:b5 ["net","one","other","sums","level"] ["net","one","other"] (ae<|dr 50):=fy
def eY(K:Pz)(a:Ad):QF K a 6 "sums_over_tables" a.Ci a.Cj ["net","one","other"] 3:=⟨_,λN=>by
 exact hY 5 (N.1 36) c9 λd A w s H E c=>af (aK<|fw 3 c9.nd<|IT (b:=O8) (hu2 c) (cP dC jh (by rfl) N.En Boot.«tuple»<|d4<|gR (N.1 72) (N.1 58) ((fY K a).2 N) (c.mono<|by decide) (dF.f5<|N.1 59) fZ (vv 0) rfl)<|bQ<|x_ (ak) (ak) (ak)<|ak)
   (af (cM aD<|bS dh rfl (bK (by rfl) N.Ei<|d4<|cJ N.Ee<|d4<|gR (N.1 72) (N.1 61) ((gc K a).2 N) (c.mono<|by decide) (dF.f5<|N.1 62) fZ (vv 0) rfl) (eg 4 c9.nd)<|ao<|aK<|fw 3 c9.nd<|vc ((iM K a).2 N) c<|cw (vv 0)<|cw (vv 1)<|cw (vv 2)<|cw (vv 4)<|cw (vv 3)<|jp)
   (ao<|aC<|ax<|bo (wl<|hu2 c) Ie (vv 3)<|cP dC jh (by rfl) N.En Boot.«tuple»<|d4<|bu rfl (js ["row"] ["row"] []) (bA<|gR (N.1 72) (N.1 58) ((fY K a).2 N) (c.mono<|by decide) (dF.f5<|N.1 59) fZ (vv 0) rfl) (λG C e s H=>⟨(eg 0 gs),aQ,λD=>aN rfl (ak) rfl⟩) ar aA (λD=>aP)))⟩
theorem i9:b5 ["net","row","column","cell","dealings","ones","others","products"] ["net","row","column"] (ae<|dr 51):=fy
def jy(K:Pz)(a:Ad):QF K a 7 "mean" a.Ck a.Cl ["net","row","column"] 3:=⟨_,λN=>by
 exact hY 8 (N.1 37) i9 λc A w s H E b=>af (aK<|fw 3 i9.nd<|bQ<|d_ (vv 1)<|vv 2)
   (af (ig<|cV<|vc ((gu K a).2 N) b<|d_ (vv 0)<|vv 3)
   (af (lq (fQ (aV aD<|aV aD<|aV aD<|aV aD eE)<|aU<|aU<|aU<|aU dG)<|c5 (vc ((eY K a).2 N) b<|ry (vv 0) (vv 3)<|vv 3)<|bL rfl<|ay (eg 4 i9.nd)<|ay (eg 5 i9.nd)<|ay (eg 6 i9.nd)<|ay (eg 7 i9.nd) bB)
   (ao<|aC<|ax<|vc ((pp K a).2 N) b<|d_ (vv 5)<|vv 4)))⟩
theorem BW:b5 ["_law_found","_law_due"] ["_law_found","_law_due"] (ae<|dr 55):=fy
def gZ(K:Pz)(a:Ad)(b:a0c->M D):G:=
  aw (pa (pG<|aB uJ<|aa (ad 1)<|aa (aB da<|aa (fC<|.ty "list")<|aa (fC<|.ty "tuple")<|am)<|am) (aw (pa (ss (fB<|f2 (jI) (aB jP<|aa (ad 1)<|aa (fC<|.ty "list")<|am)<|aB jP<|aa (ad 0)<|aa (fC<|.ty "list")<|am)<|fB<|f2 (jI) (aB jP<|aa (ad 1)<|aa (fC<|.ty "tuple")<|am)<|aB jP<|aa (ad 0)<|aa (fC<|.ty "tuple")<|am) (d6<|fC<|.c O8)<|gNil)
  (aw (pa (fB<|f2 (jI) (aB fj<|aa (ad 0)<|am)<|aB fj<|aa (ad 1)<|am) (d6<|fC<|.c O8)<|gNil)
  (d6<|f2 (inD O6) (fC<|.c O8)<|cS 2 [] (zr<|aa (ad 0)<|aa (ad 1)<|am) (Y_<|f7 (hV 0)<|f7 (hV 1) k9) (λ_=>M.j7 O6)<|lg<|aO b<|aa (ad 0)<|aa (ad 1)<|am)))<|gNil)
  (aw (pa (fB<|f2 (zQ) (ad 1)<|fC .o) (d6<|f2 (zQ) (ad 0)<|fC .o)<|gNil)
  (aw (pa (ss (fB<|f2 (jI) (aB jP<|aa (ad 1)<|aa (fC<|.ty "str")<|am)<|aB jP<|aa (ad 0)<|aa (fC<|.ty "str")<|am)<|fB<|f2 (jI) (aB jP<|aa (ad 1)<|aa (fC<|.ty "bool")<|am)<|aB jP<|aa (ad 0)<|aa (fC<|.ty "bool")<|am) (d6<|fC<|.c O8)<|gNil)
  (d6<|z7 (aB uJ<|aa (ad 0)<|aa (aB da<|aa (fC<|.ty "int")<|aa (fC<|.ty "str")<|am)<|am)<|f2 (g9) (ad 0)<|ad 1)))
def cE(K:Pz)(a:Ad):Nat->a0c->M D
 |0=>λ_=>M.j9
 |n+1=>d8 2<|gZ K a<|cE K a n
theorem qr(N:t_ K mg a):∀n,en P w K mg ac (f0 P w) (n+1) a.Cq a.Cr ["_law_found","_law_due"]<|KX K 2<|cE K a n
 |0=>⟨λS H Q E h=>h.1,λA G s H M p S Q E c i j r h=>by
  obtain⟨_,F,q,t,_,_,l,V,e,_⟩:=h;cases e⟩
 |n+1=>by
  have f:=qr N n;unfold cE;exact jQ (k:=n+1) 2 2 (gZ K a<|cE K a n) (N.1 40).F BW rfl rfl λg A G s H E c=>af (cj (nG<|cL rc Ev (by rfl) N.Ed Boot.«isinstance»<|d_ (vv 1)<|bQ<|d_ (r8 (d:= .ty "list") (dA (v:= .ty "list") (by rfl) N.Ef Boot.«list» rfl) (λ_ _=>rfl))<|r8 (d:= .ty "tuple") (dA (v:= .ty "tuple") (by rfl) N.En Boot.«tuple» rfl) (λ_ _=>rfl)) (af (cj (hZ<|u6 (bj (gz c) i5 (l4 N.Ed<|d_ (vv 1)<|r8 (d:= .ty "list") (dA (v:= .ty "list") (by rfl) N.Ef Boot.«list» rfl) (λ_ _=>rfl))<|l4 N.Ed<|d_ (vv 0)<|r8 (d:= .ty "list") (dA (v:= .ty "list") (by rfl) N.Ef Boot.«list» rfl) (λ_ _=>rfl))<|pS<|bj (gz c) i5 (l4 N.Ed<|d_ (vv 1)<|r8 (d:= .ty "tuple") (dA (v:= .ty "tuple") (by rfl) N.En Boot.«tuple» rfl) (λ_ _=>rfl))<|l4 N.Ed<|d_ (vv 0)<|r8 (d:= .ty "tuple") (dA (v:= .ty "tuple") (by rfl) N.En Boot.«tuple» rfl) (λ_ _=>rfl)) (ao<|aC<|ax<|rC)<|bE)
   (af (cj (bj (gz c) i5 (cJ N.Ee<|d4<|vv 0)<|cJ N.Ee<|d4<|vv 1) (ao<|aC<|ax<|rC)<|bE)
   (ao<|aC<|ax<|nF mC (GO (neg:=O6)) (rC)<|bu rfl (js ["_law_one","_law_other"] ["_law_one","_law_other"] []) (uK (by rfl) N.Eo<|d_ (vv 0)<|vv 1) (λu C o s H=>⟨(bL rfl<|ay (eg 0 gs)<|ay (eg 1 gs) bB),aQ,λD=>aN rfl (AX f (c.mono<|Pg _) (by rfl) (N.1 40).m (N.1 40).F.kp (N.1 40).b nY (d_ (vv 0)<|vv 1)<|bn<|bn I0) rfl⟩) (fi (bc ar<|bc ar dQ)<|aY<|aY cY) (eW<|aZ aA<|aZ aA dJ) (λD=>aP))))<|bE)
   (af (cj (bj vX zE (vv 1)<|yD) (ao<|aC<|ax<|nF vX zE (vv 0)<|yD)<|bE)
   (af (cj (hZ<|u6 (bj (gz c) i5 (l4 N.Ed<|d_ (vv 1)<|r8 (d:= .ty "str") (dA (v:= .ty "str") (by rfl) N.El Boot.«str» rfl) (λ_ _=>rfl))<|l4 N.Ed<|d_ (vv 0)<|r8 (d:= .ty "str") (dA (v:= .ty "str") (by rfl) N.El Boot.«str» rfl) (λ_ _=>rfl))<|pS<|bj (gz c) i5 (l4 N.Ed<|d_ (vv 1)<|r8 (d:= .ty "bool") (dA (v:= .ty "bool") (by rfl) N.Ea Boot.«bool» rfl) (λ_ _=>rfl))<|l4 N.Ed<|d_ (vv 0)<|r8 (d:= .ty "bool") (dA (v:= .ty "bool") (by rfl) N.Ea Boot.«bool» rfl) (λ_ _=>rfl)) (ao<|aC<|ax<|rC)<|bE)
   (ao<|aC<|ax<|Nq (cL rc Ev (by rfl) N.Ed Boot.«isinstance»<|d_ (vv 0)<|bQ<|d_ (r8 (d:= .ty "int") (dA (v:= .ty "int") (by rfl) N.Ec Boot.«int» rfl) (λ_ _=>rfl))<|r8 (d:= .ty "str") (dA (v:= .ty "str") (by rfl) N.El Boot.«str» rfl) (λ_ _=>rfl))<|No<|nF (e8 c) gC (vv 0)<|vv 1)))
theorem mD(N:t_ K mg a):FB P w K mg ac 7 "_law_same" a.Cq a.Cr ["_law_found","_law_due"] 2 (cE K a 5):=⟨(qr N 5).mono (by decide),(N.1 40).m,(N.1 40).F.kp,(N.1 40).b⟩
theorem ic:b5 ["_law_bag_here","_law_block","_law_columns","_law_things","_law_grid_here","_law_thing","_law_at","_law_to"] ["_law_bag_here","_law_block","_law_columns","_law_things"] (ae<|dr 56):=fy
def pE(K:Pz)(a:Ad):G:=
  aw (sk 4<|iD 1 [2] (bV dM<|aa (ad 1)<|am) (hV 0) (λ_=>M.j7 O6)<|sH<|zm (aa (fC<|.n 0)<|am)<|ad 1)
  (aw (zW (bV dM<|aa (ad 3)<|am) (sgN 5) (aw (b6 6<|aO cI<|aa (ad 0)<|aa (ad 1)<|am)
  (aw (b6 7<|aO cI<|aa (ad 0)<|aa (ad 2)<|am)
  (qP 4 (ad 6) (ad 7)<|f2 gF (f2 g8 (f2 g8 (ad 4)<|ad 6)<|ad 7)<|fC<|.n 1))))
  (d6<|ad 4))
def ge(K:Pz)(a:Ad):a0c->M D:=d8 8<|pE K a
theorem mE(N:t_ K mg a):FB P w K mg ac 3 "_law_grid" a.Cs a.Ct ["_law_bag_here","_law_block","_law_columns","_law_things"] 4 (ge K a):=⟨by
 unfold ge
 exact jQ (k:=2) 4 8 (pE K a) (N.1 41).F ic rfl rfl λd A G s H E c=>af (K2 (i:=4) ic.nd rfl (by first|exact RZ rfl|exact TL rfl) rfl (js ["_law_row","_law_columns"] ["_law_row"] [2]) (bK (by rfl) N.Ei (d4 (vv 1))) (λM C e s H=>⟨(eg 0 gs),aQ,λD=>aN rfl (NZ (d4<|ak)<|vv 1) rfl⟩) ar aA (λD=>xZ))
   (af (cM aD<|bS dh rfl (bK (by rfl) N.Ei<|d4<|vv 3) (eg 5 ic.nd) (af (aK<|fw 6 ic.nd<|vc (bz N) c<|d_ (vv 0)<|vv 1)
   (af (aK<|fw 7 ic.nd<|vc (bz N) c<|d_ (vv 0)<|vv 2)
   (ao<|CC<|c5 (aJ aR cm (bo aG bx (bo aG bx (vv 4)<|vv 6)<|vv 7)<|ak)<|ij (iX fG (pv 4) (vv 6) (λ_ _=>rfl)) (vv 7) f8))))
   (ao<|aC<|ax<|vv 4)),(N.1 41).m,(N.1 41).F.kp,(N.1 41).b⟩
theorem j3:b5 ["_law_bag_here","_law_grid_here","_law_lot","_law_first"] ["_law_bag_here"] (ae<|dr 57):=fy
def pC(K:Pz)(a:Ad):G:=
  aw (wy 1<|am)
  (aw (zW (fc<|f2 g8 (aB dZ<|aa (aB dZ<|aa (fC<|.n 40)<|am)<|aa (aB dZ<|aa (fC<|.n 39)<|aa (fC<|.n 1)<|am)<|aa (aB dZ<|aa (fC<|.n 30)<|aa (fC<|.n 10)<|am)<|aa (aB dZ<|aa (fC<|.n 20)<|aa (fC<|.n 20)<|am)<|aa (aB dZ<|aa (fC<|.n 24)<|aa (fC<|.n 15)<|am)<|aa (aB dZ<|aa (fC<|.n 13)<|aa (fC<|.n 27)<|am)<|am)<|aO cI<|aa (ad 0)<|aa (fC<|.n 6)<|am) (sgN 2) (aw (b6 3<|aO cI<|aa (ad 0)<|aa (f2 gF (ad 2)<|fC<|.n 1)<|am)
  (wA 1<|aa (aB dZ<|aa (ad 3)<|aa (f2 vh (ad 2)<|ad 3)<|am)<|am)))
  (d6<|ad 1))
def jL(K:Pz)(a:Ad):a0c->M D:=d8 4<|pC K a
theorem DF(N:t_ K mg a):FB P w K mg ac 3 "_law_wide" a.Cu a.Cv ["_law_bag_here"] 1 (jL K a):=⟨by
 unfold jL;refine jQ (k:=2) 1 4 (pC K a) (N.1 42).F j3 rfl rfl λe A D s H E c=>?_;refine af (yX<|fw 1 j3.nd<|jF<|jp) ?_;refine af ?_ ?_
 rotate_left
 exact(ao<|aC<|ax<|vv 1);refine cM (tgg:=d7 2) ?_ ?_;exact aD;generalize d:Expr.Subscript _ _ _=q;refine bS dh rfl ?_ (eg 2 j3.nd) ?_ ?_;subst d;refine bA ?_;refine Np ?_ ?_;refine eM ?_;refine cw ?_ ?_;refine eM ?_;exact d4 ak;refine cw ?_ ?_;refine eM ?_;exact d_ ak ak;refine cw ?_ ?_;refine eM ?_;exact d_ ak ak;refine cw ?_ ?_;refine eM ?_;exact d_ ak ak;refine cw ?_ ?_;refine eM ?_;exact d_ ak ak;refine cw ?_ ?_;refine eM ?_;exact d_ ak ak;exact jp;exact(vc (bz N) c<|d_ (vv 0)<|ak);exact af (aK<|fw 3 j3.nd<|vc (bz N) c<|d_ (vv 0)<|aJ aR cm (vv 2)<|ak)<|ao<|yY<|cV<|zf U8 US UT mI (pv 1)<|d4<|eM<|d_ (vv 3)<|aJ ik kq (vv 2)<|vv 3;subst d;intro _;rfl,(N.1 42).m,(N.1 42).F.kp,(N.1 42).b⟩
theorem iR:b5 ["_law_bag_here","_law_way","_law_block","_law_columns"] ["_law_bag_here"] (ae<|dr 58):=fy
def mS(K:Pz)(a:Ad):G:=
  aw (pa (fB<|f2 (g9) (aO cI<|aa (ad 0)<|aa (fC<|.n 6)<|am)<|fC<|.n 0) (d6<|aO (jL K a)<|aa (ad 0)<|am)<|gNil)
  (aw (b6 1<|aO cI<|aa (ad 0)<|aa (fC<|.n 5)<|am)
  (aw (pa (fB<|f2 (g9) (ad 1)<|fC<|.n 0) (d6<|aO (ge K a)<|aa (ad 0)<|aa (fC<|.n 2)<|aa (f2 gF (fC<|.n 2)<|aO cI<|aa (ad 0)<|aa (fC<|.n 5)<|am)<|aa (aO cI<|aa (ad 0)<|aa (fC<|.n 25)<|am)<|am)<|gNil)
  (aw (pa (fB<|f2 (g9) (ad 1)<|fC<|.n 1) (d6<|aO (ge K a)<|aa (ad 0)<|aa (fC<|.n 4)<|aa (f2 gF (fC<|.n 2)<|aO cI<|aa (ad 0)<|aa (fC<|.n 2)<|am)<|aa (aO cI<|aa (ad 0)<|aa (fC<|.n 9)<|am)<|am)<|gNil)
  (aw (b6 2<|f2 gF (fC<|.n 2)<|aO cI<|aa (ad 0)<|aa (fC<|.n 2)<|am)
  (aw (b6 3<|f2 gF (fC<|.n 2)<|aO cI<|aa (ad 0)<|aa (fC<|.n 3)<|am)
  (d6<|aO (ge K a)<|aa (ad 0)<|aa (ad 2)<|aa (ad 3)<|aa (aO cI<|aa (ad 0)<|aa (fC<|.n 12)<|am)<|am))))))
def ir(K:Pz)(a:Ad):a0c->M D:=d8 4<|mS K a
theorem zk(N:t_ K mg a):FB P w K mg ac 4 "_law_large" a.Cw a.Cy ["_law_bag_here"] 1 (ir K a):=⟨by
 unfold ir
 exact jQ (k:=3) 1 4 (mS K a) (N.1 43).F iR rfl rfl λd A D s H E c=>af (cj (bj (e8 c) gC (vc (bz N) c<|d_ (vv 0)<|ak)<|ak) (ao<|aC<|ax<|vc (DF N) c<|d4<|vv 0)<|bE)
   (af (aK<|fw 1 iR.nd<|vc (bz N) c<|d_ (vv 0)<|ak)
   (af (cj (bj (e8 c) gC (vv 1)<|ak) (ao<|aC<|ax<|vc (mE N) c<|x_ (vv 0) (ak) (aJ aR cm (ak)<|vc (bz N) c<|d_ (vv 0)<|ak)<|vc (bz N) c<|d_ (vv 0)<|ak)<|bE)
   (af (cj (bj (e8 c) gC (vv 1)<|ak) (ao<|aC<|ax<|vc (mE N) c<|x_ (vv 0) (ak) (aJ aR cm (ak)<|vc (bz N) c<|d_ (vv 0)<|ak)<|vc (bz N) c<|d_ (vv 0)<|ak)<|bE)
   (af (aK<|fw 2 iR.nd<|aJ aR cm (ak)<|vc (bz N) c<|d_ (vv 0)<|ak)
   (af (aK<|fw 3 iR.nd<|aJ aR cm (ak)<|vc (bz N) c<|d_ (vv 0)<|ak)
   (ao<|aC<|ax<|vc (mE N) c<|x_ (vv 0) (vv 2) (vv 3)<|vc (bz N) c<|d_ (vv 0)<|ak)))))),(N.1 43).m,(N.1 43).F.kp,(N.1 43).b⟩
theorem wZ:b5 ["_law_block"] ["_law_block"] (ae<|dr 59):=fy
def ql(K:Pz)(a:Ad):QF K a 2 "_law_turned" a.Cz a.C0 ["_law_block"] 1:=⟨_,λN=>by
 exact hY 1 (N.1 44) wZ λb A w s H E d=>ao<|aC<|ax<|bu rfl (js ["_law_to","_law_block"] ["_law_to"] [0]) (bK (by rfl) N.Ei<|d4<|cJ N.Ee<|d4<|bo aG bx (vv 0)<|ak) (λG C c s H=>⟨(eg 0 gs),aQ,λD=>aN rfl (bu rfl (js ["_law_row","_law_to"] ["_law_row"] [0]) (bA<|vv 1) (λG C c s H=>⟨(eg 0 gs),aQ,λD=>aN rfl (bo aG bx (vv 0)<|vv 1) rfl⟩) ar aA (λD=>aP)) rfl⟩) ar aA (λD=>aP)⟩
theorem vy:b5 ["_law_grid_here"] ["_law_grid_here"] (ae<|dr 60):=fy
def fP(K:Pz)(a:Ad):QF K a 2 "_law_rowsums" a.C2 a.C3 ["_law_grid_here"] 1:=⟨_,λN=>by
 exact hY 1 (N.1 45) vy λb A w s H E c=>ao<|aC<|ax<|bu rfl (js ["_law_row"] ["_law_row"] []) (bA<|vv 0) (λG C d s H=>⟨(eg 0 gs),aQ,λD=>aN rfl (gT N.Em<|d4<|vv 0) rfl⟩) ar aA (λD=>aP)⟩
theorem p7:b5 ["_law_grid_here"] ["_law_grid_here"] (ae<|dr 61):=fy
def dN(K:Pz)(a:Ad):QF K a 3 "_law_columnsums" a.C4 a.C5 ["_law_grid_here"] 1:=⟨_,λN=>by
 exact hY 1 (N.1 46) p7 λb A w s H E c=>ao<|aC<|ax<|bu rfl (js ["_law_column"] ["_law_column"] []) (bA<|vc ((ql K a).2 N) c<|d4<|vv 0) (λG C d s H=>⟨(eg 0 gs),aQ,λD=>aN rfl (gT N.Em<|d4<|vv 0) rfl⟩) ar aA (λD=>aP)⟩
theorem tj:b5 ["_law_block","_law_columns"] ["_law_block","_law_columns"] (ae<|dr 62):=fy
def lw(K:Pz)(a:Ad):QF K a 2 "_law_free" a.C6 a.C7 ["_law_block","_law_columns"] 2:=⟨_,λN=>by
 exact hY 2 (N.1 47) tj λb A w s H E d=>ao<|aC<|ax<|bu rfl (js ["_law_at","_law_columns"] ["_law_at"] [1]) (bK (by rfl) N.Ei<|d4<|vv 0) (λG C c s H=>⟨(eg 0 gs),aQ,λD=>aN rfl (bu rfl (js ["_law_to"] ["_law_to"] []) (bK (by rfl) N.Ei<|d4<|vv 1) (λG C c s H=>⟨(eg 0 gs),aQ,λD=>aN rfl (bQ<|d_ (ak)<|ak) rfl⟩) ar aA (λD=>aP)) rfl⟩) ar aA (λD=>aP)⟩
def tW(K:Pz)(a:Ad):G:=
  mU (iD 1 [1] (bV dM<|aa (ad 0)<|am) (hV 0) (λ_=>M.j7 O6)<|sH<|iC 1 [] (bV dM<|aa (ad 1)<|am) (hV 0) (λ_=>M.j7 O6)<|lg<|aB da<|aa (fC<|.n 0)<|aa (fC<|.n 40)<|am)
def mJ(K:Pz)(a:Ad):a0c->M a0u:=oE 2<|tW K a
theorem zj(N:t_ K mg a):en P w K mg ac (f0 P w) 2 a.C6 a.C7 ["_law_block","_law_columns"] (spG K 2<|mJ K a):=by
 unfold mJ;exact J9 (k:=1) 2 2 (tW K a) (N.1 47).F tj rfl rfl λb A G s H E d=>ao<|Jl<|ax<|MF rfl (js ["_law_at","_law_columns"] ["_law_at"] [1]) (bK (by rfl) N.Ei<|d4<|vv 0) (λM C c s H=>⟨(eg 0 gs),aQ,λD=>aN rfl (LT rfl (js ["_law_to"] ["_law_to"] []) (bK (by rfl) N.Ei<|d4<|vv 1) (λM C c s H=>⟨(eg 0 gs),aQ,λD=>aN rfl (bQ<|d_ (ak)<|ak) rfl⟩) ar aA (λD=>aP)) rfl⟩) ar aA (λD=>xZ)
theorem gh:b5 ["_law_bag_here","_law_grid_here","_law_told","_law_at","_law_row","_law_to","_law_count"] ["_law_bag_here","_law_grid_here"] (ae<|dr 63):=fy
def jz(K:Pz)(a:Ad):QF K a 3 "_law_bars" a.C8 a.C9 ["_law_bag_here","_law_grid_here"] 2:=⟨_,λN=>by
 exact hY 7 (N.1 48) gh λd A w s H E c=>af (HH<|fw 2 gh.nd<|MG (zj N) (c.mono<|by decide) (by rfl) (N.1 47).m (N.1 47).F.kp (N.1 47).b fZ (d_ (cJ N.Ee<|d4<|vv 1)<|cJ N.Ee<|d4<|bo aG bx (vv 1)<|ak)<|bn<|bn I0)
   (af (cj (bj (e8 c) gC (vc (bz N) c<|d_ (vv 0)<|ak)<|ak) (ao<|aC<|ax<|vv 2)<|bE)
   (af (cM (fQ (aV aD<|aV aD eE)<|aU<|aU dG)<|bS dh rfl (qL (by rfl) N.Eb<|d4<|vv 1) (bL rfl<|ay (eg 3 gh.nd)<|ay (eg 4 gh.nd) bB)<|ao<|cM (fQ (aV aD<|aV aD eE)<|aU<|aU dG)<|bS dh rfl (qL (by rfl) N.Eb<|d4<|vv 4) (bL rfl<|ay (eg 5 gh.nd)<|ay (eg 6 gh.nd) bB)<|ao<|cj (hZ<|uw (bj (e8 c) gC (vv 6)<|ak)<|u7<|bj (e8 c) gC (vc (bz N) c<|d_ (vv 0)<|ak)<|ak) (ao<|CC<|c5 (bQ<|d_ (ak)<|ak)<|ij (iX fG (pv 2) (vv 3) (λ_ _=>rfl)) (vv 5) f8)<|bE)
   (ao<|aC<|ax<|vv 2)))⟩
theorem w4:b5 ["_law_block"] ["_law_block"] (ae<|dr 64):=fy
def iU(K:Pz)(a:Ad):QF K a 2 "_law_copied" a.Da a.Db ["_law_block"] 1:=⟨_,λN=>by
 exact hY 1 (N.1 49) w4 λb A w s H E c=>ao<|aC<|ax<|bu rfl (js ["_law_row"] ["_law_row"] []) (bA<|vv 0) (λG C d s H=>⟨(eg 0 gs),aQ,λD=>aN rfl (cP bN kQ (by rfl) N.Ef Boot.«list»<|d4<|vv 0) rfl⟩) ar aA (λD=>aP)⟩
theorem lh:b5 ["_law_one","_law_other","_law_kept"] ["_law_one","_law_other"] (ae<|dr 65):=fy
def rQ(K:Pz)(a:Ad):QF K a 2 "_law_gcd" a.Dd a.Df ["_law_one","_law_other"] 2:=⟨_,λN=>by
 exact hY 3 (N.1 50) lh λb A w s H E c=>af (xy dh (bj iY lH (vv 1)<|ak) (af (aK<|fw 2 lh.nd<|aJ jG Ia (vv 0)<|vv 1)
   (af (aK<|fw 0 lh.nd<|vv 1)
   (ao<|aK<|fw 1 lh.nd<|vv 2))))
   (ao<|aC<|ax<|vv 0)⟩
theorem oM:b5 ["_law_top","_law_under","_law_both"] ["_law_top","_law_under"] (ae<|dr 66):=fy
def dE(K:Pz)(a:Ad):QF K a 3 "_law_lowest" a.Dg a.Dh ["_law_top","_law_under"] 2:=⟨_,λN=>by
 exact hY 3 (N.1 51) oM λb A w s H E c=>af (aK<|fw 2 oM.nd<|vc ((rQ K a).2 N) c<|d_ (cL pL Ig (by rfl) N.D8 Boot.«abs»<|d4<|vv 0)<|vv 1)
   (ao<|aC<|ax<|bQ<|d_ (aJ lD qC (vv 0)<|vv 2)<|aJ lD qC (vv 1)<|vv 2)⟩
theorem p6:b5 ["_law_bag_here","_law_grid_here","_law_at"] ["_law_bag_here","_law_grid_here"] (ae<|dr 67):=fy
def ii(K:Pz)(a:Ad):QF K a 3 "_law_place" a.Di a.Dj ["_law_bag_here","_law_grid_here"] 2:=⟨_,λN=>by
 exact hY 3 (N.1 52) p6 λc A w s H E b=>af (aK<|fw 2 p6.nd<|vc (bz N) b<|d_ (vv 0)<|cJ N.Ee<|d4<|vv 1)
   (ao<|aC<|ax<|bQ<|d_ (vv 2)<|vc (bz N) b<|d_ (vv 0)<|cJ N.Ee<|d4<|bo aG bx (vv 1)<|ak)⟩
theorem j5:b5 ["self","rowsums","columnsums","bounds","settled"] ["self","rowsums","columnsums","bounds"] (ae<|cX (dr 43) 0):=fy
def qI(K:Pz)(a:Ad):IP:=
  kr (b6 4<|aO (b9 K a).1<|aa (ad 1)<|aa (ad 2)<|aa (ad 3)<|am)
  (kr (lN<|aO (bW K a).1<|aa (ad 1)<|aa (ad 2)<|aa (ad 4)<|am)
  (ku (aB uI<|aa (ad 1)<|am)
  (ku (aB uI<|aa (ad 2)<|am)
  (ku (ad 4)
  (ku (aO (eP K a).1<|aa (ad 1)<|aa (ad 2)<|aa (ad 4)<|am)
  (Il))))))
def iq(K:Pz)(a:Ad):a0c->M a0c:=ox 5<|qI K a
theorem xT(N:t_ K mg a):en P w K mg ac (f0 P w) 6 a.Dp a.Dq ["self","rowsums","columnsums","bounds"] (spI K a.Ah ["row_list","column_list","pairs","counted"] 3<|iq K a):=by
 unfold iq
 exact J8 (k:=5) 3 5 (qI K a) (N.1 54) j5 rfl rfl λc A D s H E b=>Ip (aK<|fw 4 j5.nd<|vc ((b9 K a).2 N) b<|ry (vv 1) (vv 2)<|vv 3)
   (Ip (ig<|cV<|vc ((bW K a).2 N) b<|ry (vv 1) (vv 2)<|vv 4)
   (uL (N.1 72) (N.1 77) (by decide) (by decide) (qp (pv 0) (cP bN kQ (by rfl) N.Ef Boot.«list»<|d4<|vv 1) rfl)
   (uL (N.1 72) (N.1 74) (by decide) (by decide) (qp (pv 0) (cP bN kQ (by rfl) N.Ef Boot.«list»<|d4<|vv 2) rfl)
   (uL (N.1 72) (N.1 76) (by decide) (by decide) (qp (pv 0) (vv 4) rfl)
   (uL (N.1 72) (N.1 75) (by decide) (by decide) (qp (pv 0) (vc ((eP K a).2 N) b<|ry (vv 1) (vv 2)<|vv 4) rfl)
   (OF))))))
theorem FX:b5 ["_law_grid_here","_law_limits"] ["_law_grid_here","_law_limits"] (ae<|dr 68):=fy
def nR(K:Pz)(a:Ad):QF K a 8 "_law_net" a.Dm a.Do ["_law_grid_here","_law_limits"] 2:=⟨_,λN=>by
 exact hY 2 (N.1 53) FX λc A w s H E b=>ao<|aC<|ax<|xk (N.1 55) (xT N) (b.mono<|by decide) (by rfl) (N.1 73) (N.1 56) fZ (d_ (vc ((fP K a).2 N) b<|d4<|vv 0)<|vc ((dN K a).2 N) b<|d4<|vv 0) (xi (vc ((iU K a).2 N) b<|d4<|vv 1)<|AV) (bn<|bn I0) (bn I0) rfl⟩
theorem p8:b5 ["self"] ["self"] (ae<|cX (dr 43) 8):=fy
def dO(K:Pz)(a:Ad):QM K a 3 a.D0 a.D3 ["self"] 1:=⟨_,λN=>by
 exact jQ (k:=2) 1 1 _ (N.1 69) p8 rfl rfl λc A w s H E d=>ao<|aC<|ax<|bo aG bx (u8 (N.1 72) (N.1 67) ((gx K a).2 N) (d.mono<|by decide) (dF.f5<|N.1 68) fZ (vv 0) (d_ (ak)<|cP dC jh (by rfl) N.En Boot.«tuple»<|d4<|jZ (N.1 72) (N.1 77)<|vv 0) (λD G r b h=>by rw[(bn<|bn I0) D G r b h];rfl))<|ak⟩
theorem bX:b5 ["_law_script","_law_bag_here","_law_grid_here","_law_limits","_law_at","_law_to","_law_rowsums_here","_law_columnsums_here","_law_net_here","_law_told","_law_due","_law_less","_law_lower","_law_total","_law_column","_law_part"] ["_law_script"] (ae p9):=fy
def qO(K:Pz)(a:Ad):G:=
  aw (b6 2<|aO (ir K a)<|aa (ad 1)<|am)
  (aw (b6 3<|aO (jz K a).1<|aa (ad 1)<|aa (ad 2)<|am)
  (aw (wz (aO (ii K a).1<|aa (ad 1)<|aa (ad 2)<|am)<|sgT<|yS (sgN 4)<|yS (sgN 5) FV)
  (aw (b6 6<|aO (fP K a).1<|aa (ad 2)<|am)
  (aw (b6 7<|aO (dN K a).1<|aa (ad 2)<|am)
  (aw (b6 8<|aO (nR K a).1<|aa (ad 2)<|aa (ad 3)<|am)
  (aw (b6 9<|aO (jy K a).1<|aa (ad 8)<|aa (ad 4)<|aa (ad 5)<|am)
  (aw (b6 10<|fC<|.n 0)
  (aw (pa (gE (fB<|f2 (gtD) (f2 g8 (ad 6)<|ad 4)<|fC<|.n 0)<|gE (fB<|f2 (gtD) (f2 g8 (ad 7)<|ad 5)<|fC<|.n 0)<|fB<|f2 (jI) (f2 g8 (f2 g8 (ad 3)<|ad 4)<|ad 5)<|aB da<|aa (fC<|.n 0)<|aa (fC<|.n 0)<|am) (aw (oz 11<|qs uH<|aa (ad 6)<|am)
  (aw (kS 11 (ad 4)<|f2 vh (f2 g8 (ad 11)<|ad 4)<|fC<|.n 1)
  (aw (oz 12<|qs uH<|aa (ad 7)<|am)
  (aw (kS 12 (ad 5)<|f2 vh (f2 g8 (ad 12)<|ad 5)<|fC<|.n 1)
  (pF (fzG 12<|fzG 11<|b6 10<|f2 mH (f2 g8 (ad 7)<|ad 5)<|i7 a.Ah "dealings" (dO K a).1 (jR a.Ah ["row_list","column_list","pairs","counted"] (iq K a) (aa (ad 11)<|aa (ad 12)<|am) (aa (aO (iU K a).1<|aa (ad 3)<|am)<|am) [.kw 0]) am [])<|ww K a.Ae (b6 10<|fC<|.n 0)<|hNo)))))<|gNil)
  (aw (pa (qV<|pG<|aO (cE K a 5)<|aa (ad 9)<|aa (aO (dE K a).1<|aa (ad 10)<|aa (i7 a.Ah "dealings" (dO K a).1 (ad 8) am [])<|am)<|am) (d6<|fC<|.c O8)<|gNil)
  (aw (pa (gE (fB<|f2 (g9) (ad 3)<|aO (lw K a).1<|aa (aB fj<|aa (ad 2)<|am)<|aa (aB fj<|aa (f2 g8 (ad 2)<|fC<|.n 0)<|am)<|am)<|fB<|f2 (gtD) (aB gm<|aa (ad 6)<|am)<|fC<|.n 0) (pa (qV<|pG<|aO (cE K a 5)<|aa (ad 9)<|aa (aO (dE K a).1<|aa (f2 mH (f2 g8 (ad 6)<|ad 4)<|f2 g8 (ad 7)<|ad 5)<|aa (aB gm<|aa (ad 6)<|am)<|am)<|am) (d6<|fC<|.c O8)<|gNil)<|gNil)
  (aw (b6 13<|aB da<|aa (fC<|.n 0)<|aa (fC<|.n 1)<|am)
  (aw (zW (bV dM<|aa (aB fj<|aa (ad 7)<|am)<|am) (sgN 14) (aw (b6 15<|aO (jy K a).1<|aa (ad 8)<|aa (ad 4)<|aa (ad 14)<|am)
  (b6 13<|aO (dE K a).1<|aa (f2 gF (f2 mH (f2 g8 (ad 13)<|fC<|.n 0)<|f2 g8 (ad 15)<|fC<|.n 1)<|f2 mH (f2 g8 (ad 15)<|fC<|.n 0)<|f2 g8 (ad 13)<|fC<|.n 1)<|aa (f2 mH (f2 g8 (ad 13)<|fC<|.n 1)<|f2 g8 (ad 15)<|fC<|.n 1)<|am)))
  (d6<|aO (cE K a 5)<|aa (ad 13)<|aa (aB da<|aa (f2 g8 (ad 6)<|ad 4)<|aa (fC<|.n 1)<|am)<|am)))))))))))))
theorem LS{f:O7}{p:PP}(F:hW K "law" "law" p9 f p)(N:t_ K mg a)(T:∀G:Bg,G.ok->∃d,qO K a [OZ,on<|.h .bag,OZ,OZ,OZ,OZ,OZ,OZ,OZ,OZ,OZ,OZ,OZ,OZ,OZ,OZ] G=on (.rt<|.c O6,d)):
  en P w K mg ac (f0 P w) 9 f p ["_law_script"] (HC K):=by
 refine F.okE (k:=8) bX (λM H Q E h=>?_) (λg A D s H M Q E c h=>?_)
 .obtain⟨a,ns,rfl,_⟩:=h
  rfl
 .obtain⟨a1,ns,rfl,t,q,k⟩:=h
  have rest:PSs (dm (f0 P w) P w K mg ac ["_law_script","_law_bag_here","_law_grid_here","_law_limits","_law_at","_law_to","_law_rowsums_here","_law_columnsums_here","_law_net_here","_law_told","_law_due","_law_less","_law_lower","_law_total","_law_column","_law_part"] "law" (ae p9) f g A D s H E) (cF p9).tail (tG K H (qO K a) (λ_=>E)):=af (aK<|fw 2 bX.nd<|vc (zk N) c<|d4<|vv 1)
   (af (aK<|fw 3 bX.nd<|vc ((jz K a).2 N) c<|d_ (vv 1)<|vv 2)
   (af (lq (fQ (aV aD<|aV aD eE)<|aU<|aU dG)<|c5 (vc ((ii K a).2 N) c<|d_ (vv 1)<|vv 2)<|bL rfl<|ay (eg 4 bX.nd)<|ay (eg 5 bX.nd) bB)
   (af (aK<|fw 6 bX.nd<|vc ((fP K a).2 N) c<|d4<|vv 2)
   (af (aK<|fw 7 bX.nd<|vc ((dN K a).2 N) c<|d4<|vv 2)
   (af (aK<|fw 8 bX.nd<|vc ((nR K a).2 N) c<|d_ (vv 2)<|vv 3)
   (af (aK<|fw 9 bX.nd<|vc ((jy K a).2 N) c<|ry (vv 8) (vv 4)<|vv 5)
   (af (aK<|fw 10 bX.nd<|ak)
   (af (cj (hZ<|uw (bj iY lH (bo aG bx (vv 6)<|vv 4)<|ak)<|uw (bj iY lH (bo aG bx (vv 7)<|vv 5)<|ak)<|u7<|bj (gz c) i5 (bo aG bx (bo aG bx (vv 3)<|vv 4)<|vv 5)<|bQ<|d_ (ak)<|ak) (af (CA<|fw 11 bX.nd<|vZ bN x3 (by rfl) N.Ef Boot.«list»<|d4<|vv 6)
   (af (xC<|c5 (aJ ik kq (bo aG bx (vv 11)<|vv 4)<|ak)<|ij (pv 11) (vv 4) f8)
   (af (CA<|fw 12 bX.nd<|vZ bN x3 (by rfl) N.Ef Boot.«list»<|d4<|vv 7)
   (af (xC<|c5 (aJ ik kq (bo aG bx (vv 12)<|vv 5)<|ak)<|ij (pv 12) (vv 5) f8)
   (ao<|NG rfl rfl (λE S V r=>K3 12<|K3 11<|ao<|aK<|fw 10 bX.nd<|aJ ci dI (bo aG bx (vv 7)<|vv 5)<|gR (N.1 72) (N.1 70) ((dO K a).2 N) (c.mono<|by decide) (dF.f5<|N.1 71) r (xk (N.1 55) (xT N) (c.mono<|by decide) (by rfl) (N.1 73) (N.1 56) r (d_ (vv 11)<|vv 12) (xi (vc ((iU K a).2 N) c<|d4<|vv 3)<|AV) (bn<|bn I0) (bn I0) rfl) rfl)<|MB (by rfl) (N.1 83) (λA=>ao<|aK<|fw 10 bX.nd<|ak)<|OK)))))<|bE)
   (af (cj (nJ<|nG<|vc (mD N) c<|d_ (vv 9)<|vc ((dE K a).2 N) c<|d_ (vv 10)<|gR (N.1 72) (N.1 70) ((dO K a).2 N) (c.mono<|by decide) (dF.f5<|N.1 71) fZ (vv 8) rfl) (ao<|aC<|ax<|rC)<|bE)
   (af (cj (hZ<|uw (bj (e8 c) gC (vv 3)<|vc ((lw K a).2 N) c<|d_ (cJ N.Ee<|d4<|vv 2)<|cJ N.Ee<|d4<|bo aG bx (vv 2)<|ak)<|u7<|bj iY lH (gT N.Em<|d4<|vv 6)<|ak) (ao<|cj (nJ<|nG<|vc (mD N) c<|d_ (vv 9)<|vc ((dE K a).2 N) c<|d_ (aJ ci dI (bo aG bx (vv 6)<|vv 4)<|bo aG bx (vv 7)<|vv 5)<|gT N.Em<|d4<|vv 6) (ao<|aC<|ax<|rC)<|bE)<|bE)
   (af (aK<|fw 13 bX.nd<|bQ<|d_ (ak)<|ak)
   (af (cM aD<|bS dh rfl (bK (by rfl) N.Ei<|d4<|cJ N.Ee<|d4<|vv 7) (eg 14 bX.nd) (af (aK<|fw 15 bX.nd<|vc ((jy K a).2 N) c<|ry (vv 8) (vv 4)<|vv 14)
   (ao<|aK<|fw 13 bX.nd<|vc ((dE K a).2 N) c<|d_ (aJ aR cm (aJ ci dI (bo aG bx (vv 13)<|ak)<|bo aG bx (vv 15)<|ak)<|aJ ci dI (bo aG bx (vv 15)<|ak)<|bo aG bx (vv 13)<|ak)<|aJ ci dI (bo aG bx (vv 13)<|ak)<|bo aG bx (vv 15)<|ak)))
   (ao<|aC<|ax<|vc (mD N) c<|d_ (vv 13)<|bQ<|d_ (bo aG bx (vv 6)<|vv 4)<|ak)))))))))))))
  refine⟨_,bY (rest:=(cF p9).tail) (fw 1 bX.nd<|nX (Gq N) (c.mono<|by decide) rfl (N.1 38).m (N.1 38).F.kp (N.1 38).b .nil nY<|cg (pv 0) eZ) rest,?_⟩;refine⟨_,rfl,a1,ns,rfl,t,λb l I i j u y=>?_⟩;obtain⟨G,ok,o⟩:=Kk (K:=K) (a:=a1) (n:=["_law_script","_law_bag_here","_law_grid_here","_law_limits","_law_at","_law_to","_law_rowsums_here","_law_columnsums_here","_law_net_here","_law_told","_law_due","_law_less","_law_lower","_law_total","_law_column","_law_part"].length-2) y i j u;obtain⟨d,e⟩:=T G ok;exact⟨_,_,_,G,_,d,o,e,λv J B s fr C=>by cases C.bl;exact k B⟩
end
end Law
namespace L2.Pu
noncomputable def dc:Nat->Nat
 |0=>1
 |n+1=>dc n*(n+1)
noncomputable def pr(l:a0a):Nat:=l.foldr (·*·) 1
theorem Ls:pr []=1:=rfl
theorem CU(l m:a0a):pr (l++m)=pr l*pr m:=by
 induction l with
 |nil=>simp[pr]
 |cons x l w=>
  show x*pr (l++m)=x*pr l*pr m;rw[w,Qh]
theorem IX{w:Type}{l:List w}{i:Nat}{x:w}(h:l[i]?=on x):l.take (i+1)=l.take i++[x]:=by
 rw[List.take_succ,h];rfl
theorem rT{w:Type}{f:w->Nat}{l:List w}{i:Nat}{x:w}(h:l[i]?=on x):pr ((l.take<|i+1).map f)=pr ((l.take i).map f)*f x:=by
 rw[IX h,Qc,CU];simp[pr]
theorem kT:∀n,0<dc n
 |0=>by decide
 |n+1=>Ve (kT n) (by lia)
theorem GZ:∀{n m:Nat},n<=m->dc n<=dc m:=by
 intro n m h
 induction h with
 |refl=>exact Pg _
 |step h w=>exact Pk w (Vu _<|by lia)
theorem OO:dc 40<=2^160:=by decide +kernel
theorem wG{n:Nat}(h:n<=40):dc n<=2^160:=Pk (GZ h) OO
theorem CT{l:a0a}(h:∀x∈l,0<x):0<pr l:=by
 induction l with
 |nil=>decide
 |cons x l w=>exact Ve (h x Pa)<|w λy a=>h y<|O1 _ a
theorem fF{l:a0a}{x:Nat}(h:x∈l):x<=l.sum:=by
 induction l with
 |nil=>cases h
 |cons y l w=>
  rw[PL];rcases Pr.mp h with rfl|h
  .lia
  .have:=w h;lia
theorem ff{t m:Nat}(h:t<=2^m)(w:m<=999):t<2^1000:=Rc (Pk h<|SB (by decide) w) (Nat.pow_lt_pow_right (by decide)<|by decide)
theorem eL{t n:Nat}(a:t<2^1000)(b:n<2^1000):mH (.n (t:Int)) (.n (n:Int))=on (.n ((t*n:Nat):Int)):=by
 have c:h9 (t:Int)=O6:=Pn (by rw[Wt];exact a);have d:h9 (n:Int)=O6:=Pn (by rw[Wt];exact b);show(if(h9 (t:Int)&&h9 (n:Int))=O6 then _ else _)=_;simp only[c,d,TH,Qs];rfl
theorem qT{t g:Nat}(d:0<g)(a:g<2^1000):z6 (.n (t:Int)) (.n (g:Int))=on (.n ((t/g:Nat):Int)):=by
 have b:decide ((0:Int)<(g:Int))=O6:=Pn (by lia);have c:decide (((g:Int)).natAbs.log2<9000)=O6:=Pn (by
  rw[Wt];have:=(Y8 (n:=g) (k:=1000)<|by lia).mpr a;lia)
 show(if(decide ((0:Int)<(g:Int))&&decide (((g:Int)).natAbs.log2<9000))=O6 then _ else _)=_;simp only[b,c,TH,Qs];rfl
theorem sI{t n:Nat}:gF (.n (t:Int)) (.n (n:Int))=on (.n ((t+n:Nat):Int)):=by
 rw[Sx];rfl
theorem jJ(l:a0a):(nI l).sum=((l.sum:Nat):Int):=by
 induction l with
 |nil=>rfl
 |cons x l w=>
  show(x:Int)+(nI l).sum=_;rw[w,PL,Sx]
theorem uG{l:a0a}{i:Nat}{d:D}(h:((nI l).map D.n)[i]?=on d):∃n,l[i]?=on n/\d= .n (n:Int):=by
 obtain⟨x,a,rfl⟩:=cQ h;obtain⟨n,w,rfl⟩:=cQ a;exact⟨n,w,rfl⟩
theorem qw(l:a0a):VX ((nI l).map D.n)=VX l:=by rw[OY,OY]
def Sq(l:a0a)(d:D):Prop:=d=nL l\/d= .t ((nI l).map D.n)
theorem Sq.seq{l:a0a}{d:D}(h:Sq l d):fV d=on ((nI l).map D.n):=by rcases h with rfl|rfl<;>rfl
theorem rg2'{i j:Int}(a:0<=i)(b:i<=10^9)(c:0<=j)(d:j<=10^9):pf [.n i,.n j]=on (aW i (j-i).toNat):=by
 have q:(decide (-(2^62)<=i)&&decide (i<2^62)&&decide (-(2^62)<=j)&&decide (j<2^62))=O6:=by
  simp only[PV,P9];lia
 show(if(decide (-(2^62)<=i)&&decide (i<2^62)&&decide (-(2^62)<=j)&&decide (j<2^62))=O6 then on (aW i (j-i).toNat)else OZ)=_;rw[Pc q]
theorem rg2{n:Nat}(h:n<=1000):pf [.n 2,.n<|(n:Int)+1]=on (aW 2<|n-1):=by
 rw[rg2' (by decide) (by decide) (by lia) (by lia),show((n:Int)+1-2).toNat=n-1 by lia]
end L2.Pu
namespace L2.Pu
open L2.Hs
def lL(k:a0e):LI->LI
 |[]=>[k]
 |x::l=>if cR k x=O6 then k::x::l else if k=x then x::l else x::lL k l
theorem l_{k y:a0e}:∀{l:LI},y∈lL k l↔y=k\/y∈l
 |[]=>by simp[lL]
 |x::l=>by
  unfold lL;split
  .simp
  .split
   .rename_i h
    subst h;simp
   .rw[Pr,l_,Pr]
    exact or_left_comm
theorem ya{k:a0e}:∀{l:LI},Up l->Up (lL k l)
 |[],_=>by unfold lL;exact RF _ _
 |x::l,h=>by
  obtain⟨a,b⟩:=TV.mp h;unfold lL;split
  .rename_i q
   refine TV.mpr ⟨λy hy=>?_,h⟩;rcases Pr.mp hy with rfl|hy
   .exact q
   .exact qA q (a y hy)
  .split
   .exact h
   .rename_i q1 q2
    refine TV.mpr ⟨λy hy=>?_,ya b⟩;rcases l_.mp hy with rfl|hy
    .cases q:cR x y with
     |true=>rfl
     |false=>exact PU (n9 (by simpa using q1) q) q2
    .exact a y hy
def md(w:LI):LI:=w.foldr lL []
theorem nM:∀w,Up<|md w
 |[]=> .nil
 |k::w=>ya<|nM w
theorem eV{y:a0e}:∀{w:LI},y∈md w↔y∈w
 |[]=>by simp[md]
 |k::w=>by
  show y∈lL k (md w)↔_;rw[l_,eV,Pr]
theorem Hx{l:LI}(h:Up l):l.Nodup:=h.imp λ{a b} q e=>by
 subst e;rw[jf]at q;cases q
theorem KW{w:LI}(b:∀k∈w,1<=VX k){m:LI}(D:VX m<63)(c:∀k∈w,k∈m):lf (w.map l0)=on (.l<|(md w).map l0):=by
 refine FT ⟨nM w,Rc (il (Hx<|nM w) λx e=>c x<|eV.mp e) D,λk a=>⟨b k<|eV.mp a,Pj.mpr ⟨k,eV.mp a,rfl⟩⟩,λd E=>?_⟩;obtain⟨k,a,rfl⟩:=Pj.mp E;exact⟨k,eV.mpr a,rfl⟩
end L2.Pu
namespace L2.Nt
noncomputable def sm{w:Type}(l:List w)(f:w->Nat):Nat:=(l.map f).sum
section
variable{d β:Type}
theorem BS{f:d->Nat}:sm [] f=0:=rfl
theorem aS{a:d}{l:List d}{f:d->Nat}:sm (a::l) f=f a+sm l f:=by unfold sm;rw[Pi,PL]
theorem vo{l m:List d}{f:d->Nat}:sm (l++m) f=sm l f+sm m f:=by unfold sm;rw[Qc,Xf]
theorem bv{f g:d->Nat}:∀{l:List d},(∀a∈l,f a=g a)->sm l f=sm l g
 |[],_=>rfl
 |a::l,h=>by rw[aS,aS,h a Pa,bv λb c=>h b<|O1 a c]
theorem vn{g:β->d}{f:d->Nat}{l:List β}:sm (l.map g) f=sm l λb=>f (g b):=by unfold sm;rw[Pp];rfl
theorem rH{g:β->List d}{f:d->Nat}:∀{l:List β},sm (l.flatMap g) f=sm l λb=>sm (g b) f
 |[]=>rfl
 |b::l=>by rw[QJ,vo,aS,rH]
theorem nN:∀{l:List d},(sm l λ_=>0)=0
 |[]=>rfl
 |a::l=>by rw[aS,nN]
theorem vp{f g:d->Nat}:∀{l:List d},(sm l λa=>f a+g a)=sm l f+sm l g
 |[]=>rfl
 |a::l=>by rw[aS,aS,aS,vp];lia
theorem gn{c:Nat}{f:d->Nat}:∀{l:List d},(sm l λa=>c*f a)=c*sm l f
 |[]=>rfl
 |a::l=>by rw[aS,aS,gn,V3]
theorem xu{f:d->β->Nat}{m:List β}:∀{l:List d},(sm l λa=>sm m<|f a)=sm m λb=>sm l λa=>f a b
 |[]=>nN.symm
 |a::l=>by
  rw[aS,xu,<-vp];exact bv λb _=>(aS (f:=λa=>f a b)).symm
theorem HE{f:a0T}{m:Nat}:∀{n:Nat},m<=n->sm (Ph<|m+1) f=sm (Ph<|n+1) λa=>if a<=m then f a else 0
 |0,h=>by
  obtain rfl:m=0:=by lia
  exact bv λa d=>by
   have:=PN.mp d;rw[Pc<|by lia]
 |n+1,h=>by
  rcases SY m (n+1)with q|q
  .rw[S5 (n:=n+1),vo,<-HE (by lia:m<=n),aS,BS,Pd<|by lia]
   lia
  .obtain rfl:m=n+1:=by lia
   exact bv λa d=>by
    have:=PN.mp d;rw[Pc<|by lia]
noncomputable def eo:a0a->Nat->a0l
 |[],0=>[[]]
 |[],_+1=>[]
 |x::r,c=>(Ph<|UW x c+1).flatMap λa=>(eo r<|c-a).map (a::·)
noncomputable def less(r v:a0a):a0a:=SU (·-·) r v
theorem AW{x c:Nat}{r:a0a}{f:a0a->Nat}:sm (eo (x::r) c) f=sm (Ph<|UW x c+1) λa=>sm (eo r<|c-a) λv=>f (a::v):=by
 show sm ((Ph<|UW x c+1).flatMap λa=>(eo r<|c-a).map (a::·)) f=_;rw[rH];exact bv λa _=>vn
end
end L2.Nt
namespace L2.Nt
open L2.Pu
noncomputable def ch:Nat->Nat->Nat
 |_,0=>1
 |0,_+1=>0
 |n+1,k+1=>ch n k+ch n (k+1)
theorem rb:∀{n k:Nat},n<k->ch n k=0
 |0,k+1,_=>by simp[ch]
 |n+1,k+1,h=>by
  show ch n k+ch n (k+1)=0;rw[rb (by lia),rb<|by lia]
theorem sF(n:Nat):ch n 0=1:=by cases n<;>rfl
theorem yt:∀n,ch n n=1
 |0=>rfl
 |n+1=>by
  show ch n n+ch n (n+1)=1;rw[yt n,rb<|by lia]
theorem qU(n:Nat):dc (n+1)=(n+1)*dc n:=Ql (dc n)<|n+1
theorem m5:∀n a b:Nat,a+b=n->ch (a+b) a*(dc a*dc b)=dc (a+b)
 |n,0,b,_=>by rw[sF];simp[dc]
 |n,a+1,0,_=>by rw[Ys,yt];simp[dc]
 |0,a+1,b+1,h=>by lia
 |n+1,a+1,b+1,h=>by
  have c:=m5 n a (b+1) (by lia);have d:=m5 n (a+1) b (by lia);have e:a+1+(b+1)=(a+b+1)+1:=by lia
  have f:a+(b+1)=a+b+1:=by lia
  have g:a+1+b=a+b+1:=by lia
  rw[f]at c;rw[g]at d;rw[e];show(ch (a+b+1) a+ch (a+b+1) (a+1))*(dc (a+1)*dc (b+1))=dc (a+b+1+1);rw[qU<|a+b+1,T3];have i:ch (a+b+1) a*(dc (a+1)*dc (b+1))=(a+1)*dc (a+b+1):=by
   rw[<-c,qU a];simp only[Qh,Qp,Ql]
  have j:ch (a+b+1) (a+1)*(dc (a+1)*dc (b+1))=(b+1)*dc (a+b+1):=by
   rw[<-d,qU b];simp only[Qh,Qp,Ql]
  rw[i,j,<-T3,show a+1+(b+1)=a+b+1+1 by lia]
theorem nP{f:a0T}{n:Nat}:sm (Ph<|n+1) f=f 0+sm (Ph n) λa=>f (a+1):=by
 rw[Yn,aS,vn]
theorem Fz:∀(x y c:Nat),(sm (Ph<|c+1) λa=>ch x a*ch y (c-a))=ch (x+y) c
 |0,y,c=>by
  rw[nP,sF,Y9,Nat.sub_zero,Qu];have:(sm (Ph c) λa=>ch 0 (a+1)*ch y (c-(a+1)))=0:=(bv λa _=>by rw[rb (by lia),UH]).trans nN;rw[this];rfl
 |x+1,y,0=>by rw[nP];simp[sF,BS]
 |x+1,y,c+1=>by
  have b:=Fz x y<|c+1;have d:=Fz x y c;rw[nP]at b;rw[nP];have e:(sm (Ph<|c+1) λa=>ch (x+1) (a+1)*ch y (c+1-(a+1)))=(sm (Ph<|c+1) λa=>ch x a*ch y (c-a))+sm (Ph<|c+1) λa=>ch x (a+1)*ch y (c+1-(a+1)):=by
   rw[<-vp];refine bv λa _=>?_;show(ch x a+ch x (a+1))*_=_;rw[T3,Nat.add_sub_add_right]
  rw[e,d];have f:x+1+y=x+y+1:=by lia
  rw[f];show _=ch (x+y) c+ch (x+y) (c+1);rw[<-b,sF,sF];lia
theorem vdm(x y c:Nat):(sm (Ph<|UW x c+1) λa=>ch x a*ch y (c-a))=ch (x+y) c:=by
 rw[HE<|Nat.min_le_right x c,<-Fz];refine bv λa w=>?_;have:=PN.mp w;by_cases q:a<=x
 .rw[Pc<|by lia]
 .rw[Pd (by lia),rb (by lia),UH]
def pc:a0a->a0a->Nat
 |x::r,a::v=>ch x a*pc r v
 |_,_=>1
theorem DD:∀(r:a0a) (c:Nat),sm (eo r c) (pc r)=ch r.sum c
 |[],0=>rfl
 |[],c+1=>rfl
 |x::r,c=>by
  rw[AW,PL,<-vdm];exact bv λa _=>by rw[<-DD r (c-a),<-gn];rfl
theorem gQ:∀{r:a0a} {c:Nat} {v:a0a},v∈eo r c->v.sum=c/\(less r v).sum+c=r.sum/\VX v=VX r/\pr (r.map dc)=pc r v*(pr (v.map dc)*pr ((less r v).map dc))
 |[],0,v,h=>by cases P0.mp h;exact⟨rfl,rfl,rfl,rfl⟩
 |[],c+1,v,h=>by cases h
 |x::r,c,v,h=>by
  have w:v∈(Ph<|UW x c+1).flatMap λa=>(eo r<|c-a).map (a::·):=h;obtain⟨a,D,d⟩:=RE.mp w;obtain⟨u,e,rfl⟩:=Pj.mp d;have f:=PN.mp D;obtain⟨g,i,j,k⟩:=gQ e;refine⟨by rw[PL,g];lia,?_,by rw[Pt,j,Pt],?_⟩
  .show((x-a)::less r u).sum+c=_
   rw[PL,PL,<-i];lia
  .show dc x*pr (r.map dc)=(ch x a*pc r u)*((dc a*pr (u.map dc))*(dc (x-a)*pr ((less r u).map dc)))
   have b:=m5 x a (x-a) (by lia);rw[show a+(x-a)=x by lia]at b;rw[k,<-b];simp only[Qh,Qp,Ql]
def mu:a0a->Nat
 |[]=>1
 |x::r=>ch (x+r.sum) x*mu r
theorem im:∀r:a0a,mu r*pr (r.map dc)=dc r.sum
 |[]=>rfl
 |x::r=>by
  show(ch (x+r.sum) x*mu r)*(dc x*pr (r.map dc))=dc (x::r).sum;rw[PL,<-m5 _ x r.sum rfl,<-im r];simp only[Qh,Qp,Ql]
theorem nV(r:a0a):0<pr (r.map dc):=CT λx a=>by
 obtain⟨n,_,rfl⟩:=Pj.mp a;exact kT n
theorem L0(r:a0a):dc r.sum/pr (r.map dc)=mu r:=by rw[<-im,Nat.mul_div_cancel _<|nV r]
def dls:a0a->a0a->Nat
 |_,[]=>1
 |r,c::cs=>sm (eo r c) λv=>mu v*dls (less r v) cs
theorem Hj:∀{r:a0a},r.sum=0->mu r=1
 |[],_=>rfl
 |x::r,h=>by
  rw[PL]at h;obtain rfl:x=0:=by lia
  show ch _ 0*mu r=1;rw[sF,Hj<|by lia]
theorem qX:∀(w r:a0a),r.sum=w.sum->dls r w=mu r
 |[],r,h=>(Hj h).symm
 |c::w,r,h=>by
  rw[PL]at h;refine Tl (nV r) ?_;rw[im];show sm (eo r c) (λv=>mu v*dls (less r v) w)*_=_;rw[Ql,<-gn];have e:(sm (eo r c) λv=>pr (r.map dc)*(mu v*dls (less r v) w))=sm (eo r c) λv=>(dc c*dc (r.sum-c))*pc r v:=by
   refine bv λv a=>?_;obtain⟨b,f,g,d⟩:=gQ a;rw[qX w (less r v) (by lia),d];have D:=im v;have E:=im<|less r v;rw[b]at D;rw[show(less r v).sum=r.sum-c by lia]at E;rw[<-D,<-E];simp only[Qh,Qp,Ql]
  rw[e,gn,DD,Ql];have:=m5 r.sum c (r.sum-c) (by lia);rw[show c+(r.sum-c)=r.sum by lia]at this;exact this
def j_:a0a->a0a->Prop
 |[],[]=>True
 |a::v,x::r=>a<=x/\j_ v r
 |_,_=>False
theorem j_.f5:∀r,j_ r r
 |[]=>trivial
 |_::r=>⟨Pg _,j_.f5 r⟩
theorem j_.tr:∀{u v r:a0a},j_ u v->j_ v r->j_ u r
 |[],[],[],_,_=>trivial
 |_::_,_::_,_::_,h,q=>⟨Pk h.1 q.1,h.2.tr q.2⟩
 |[],_::_,_,h,_=>h.elim
 |_::_,[],_,h,_=>h.elim
 |[],[],_::_,_,q=>q.elim
 |_::_,_::_,[],_,q=>q.elim
theorem j_.len:∀{v r:a0a},j_ v r->VX v=VX r
 |[],[],_=>rfl
 |_::_,_::_,h=>QG (·+1) h.2.len
 |[],_::_,h=>h.elim
 |_::_,[],h=>h.elim
theorem j_.less:∀{v r:a0a},j_ v r->j_ (less r v) r
 |[],[],_=>trivial
 |a::v,x::r,h=>⟨Nat.sub_le x a,h.2.less⟩
 |[],_::_,h=>h.elim
 |_::_,[],h=>h.elim
theorem j_.pr:∀{v r:a0a},j_ v r->L2.Pu.pr (v.map (·+1))<=L2.Pu.pr (r.map (·+1))
 |[],[],_=>Pg _
 |_::_,_::_,h=>Ub (Nat.succ_le_succ h.1) h.2.pr
 |[],_::_,h=>h.elim
 |_::_,[],h=>h.elim
theorem j_.sum:∀{v r:a0a},j_ v r->v.sum<=r.sum
 |[],[],_=>Pg _
 |_::_,_::_,h=>by rw[PL,PL];exact XG h.1 h.2.sum
 |[],_::_,h=>h.elim
 |_::_,[],h=>h.elim
theorem eD:∀{r:a0a} {c:Nat} {v:a0a},v∈eo r c->j_ v r
 |[],0,v,h=>by cases P0.mp h;exact trivial
 |[],c+1,v,h=>by cases h
 |x::r,c,v,h=>by
  have w:v∈(Ph<|UW x c+1).flatMap λa=>(eo r<|c-a).map (a::·):=h;obtain⟨a,D,b⟩:=RE.mp w;obtain⟨u,d,rfl⟩:=Pj.mp b;have e:=PN.mp D;exact⟨by lia,eD d⟩
theorem lE:∀{r v:a0a},j_ v r->v∈eo r v.sum
 |[],[],_=>P0.mpr rfl
 |x::r,a::v,h=>by
  refine RE.mpr ⟨a,PN.mpr (by rw[PL];have:=h.1;lia),Pj.mpr ⟨v,?_,rfl⟩⟩;rw[PL,Vt];exact lE h.2
 |[],_::_,h=>h.elim
 |_::_,[],h=>h.elim
theorem oA{w a:Type}{f:w->List a}{n:Nat}:∀{l:List w},(∀x∈l,VX (f x)<=n)->VX (l.flatMap f)<=VX l*n
 |[],_=>by simp
 |x::l,h=>by
  rw[QJ,PR,Pt,Nat.succ_mul,SA];exact XG (oA λy b=>h y<|O1 _ b)<|h x Pa
theorem k7:∀(r:a0a) (c:Nat),VX (eo r c)<=pr (r.dropLast.map (·+1))
 |[],0=>Pg _
 |[],_+1=>Qk _
 |[x],c=>by
  have h:eo [x] c=(Ph<|UW x c+1).flatMap λa=>(eo []<|c-a).map (a::·):=rfl;rw[h,S5,Uw,PR];have e:((Ph<|UW x c).flatMap λa=>(eo []<|c-a).map (a::·))=[]:=by
   refine TZ.mpr λa w=>?_;have:=PN.mp w;obtain⟨n,D⟩:∃n,c-a=n+1:=⟨c-a-1,by lia⟩;rw[D];rfl
  rw[e];cases q:c-UW x c<;>simp[eo,q,pr]
 |x::y::r,c=>by
  have h:=oA (l:=Ph<|UW x c+1) (f:=λa=>(eo (y::r)<|c-a).map (a::·)) (n:=pr<|(y::r).dropLast.map (·+1)) λa _=>by rw[OY];exact k7 (y::r)<|c-a
  rw[PY]at h;refine Pk h ?_;show _<=(x+1)*pr ((y::r).dropLast.map (·+1));exact Ur _ (by lia)
theorem z5{w D a:Type}{f:w->List D}{g:D->List a}(l:List w):(l.flatMap f).flatMap g=l.flatMap λx=>(f x).flatMap g:=List.flatMap_assoc
theorem zd(r:a0a)(k:Nat):pr ((r.take k).map (·+1))<=pr (r.map (·+1)):=by
 conv=>rhs;rw[<-S9 k r,Qc,CU]
 exact Vu _ (CT λx a=>by
  obtain⟨n,_,rfl⟩:=Pj.mp a;lia)
theorem uD(l:a0a):(nI l).map Int.toNat=l:=by
 rw[Pp];exact(P4 λx _=>rfl).trans<|VY l
theorem gB{l m:a0a}(h:nI l=nI m):l=m:=by rw[<-uD l,h,uD]
theorem DQ{w a:Type}{f:w->a}{l:List w}(h:(l.map f).Nodup):l.Nodup:=(U4.mp h).imp λq e=>q<|QG f e
theorem qv{D c:Type}{f:D->c}(w:∀a b,f a=f b->a=b){l:List D}(h:l.Nodup):(l.map f).Nodup:=U4.mpr<|h.imp λq e=>q<|w _ _ e
theorem iE{w:a0a}{k:Nat}(h:k<VX w):w.drop k=w.getD k 0::w.drop (k+1):=by
 rw[Rp h,O5,O4 h];rfl
noncomputable def i0:a0k->a0a->Bool
 |p::ps,a::v=>decide (p.1<=a)&&decide (a<=p.2)&&i0 ps v
 |_,_=>O6
def vB(w:a0k)(r:a0a)(c:Nat):a0l:=(eo r c).filter<|i0 w
theorem Kx{w:a0k}{r v:a0a}{c:Nat}(h:v∈vB w r c):v∈eo r c:=(QK.mp h).1
theorem xl{p:Nat×Nat}{w:a0k}{x:Nat}{r:a0a}{c:Nat}:vB (p::w) (x::r) c=(Ph<|UW x c+1).flatMap λa=>if p.1<=a/\a<=p.2 then(vB w r<|c-a).map (a::·)else[]:=by
 show((Ph<|UW x c+1).flatMap λa=>(eo r<|c-a).map (a::·)).filter (i0<|p::w)=_;rw[Y6];refine QG (List.flatMap · _)<|funext λa=>?_;rw[Xa];by_cases q:p.1<=a/\a<=p.2
 .rw[Pc q]
  refine QG (QV (a::·))<|ZQ λv _=>?_;show(decide (p.1<=a)&&decide (a<=p.2)&&i0 w v)=i0 w v;rw[Pn q.1,Pn q.2];rfl
 .rw[Pd q,Yl.mpr,RX]
  intro v _ h;have h:(decide (p.1<=a)&&decide (a<=p.2)&&i0 w v)=O6:=h;simp only[PV,P9]at h;exact q h.1
noncomputable def lp:a0k->a0a->a0a
 |p::ps,x::r=>UW x p.2::lp ps r
 |_,_=>[]
noncomputable def lk(w:a0k):a0a:=w.map (·.1)
theorem Hw:∀{w:a0k} {r:a0a} {c:Nat} {v:a0a},VX w=VX r->v∈vB w r c->(lk w).sum<=c/\c<=(lp w r).sum
 |[],[],c,v,_,h=>by
  have:=gQ<|Kx h;simp at this;simp[lk,lp];lia
 |p::w,x::r,c,v,e,h=>by
  rw[xl]at h;obtain⟨a,D,h⟩:=RE.mp h;by_cases q:p.1<=a/\a<=p.2
  .rw[Pc q]at h
   obtain⟨u,b,rfl⟩:=Pj.mp h;have i:=Hw (by simpa using e) b;have:=PN.mp D;simp only[lk,lp,Pi,PL]at i⊢;lia
  .rw[Pd q]at h;cases h
noncomputable def nxB(x:Nat)(p:Nat×Nat)(few a:Nat)(b:a0a×Nat):List (a0a×Nat):=(Ph<|UW (UW x p.2+few) b.2+1-few-max p.1 (b.2-a)).map λi=>(b.1++[max p.1 (b.2-a)+i],b.2-(max p.1 (b.2-a)+i))
def nj(w:a0k)(r:a0a)(c:Nat):Nat->List (a0a×Nat)
 |0=>[([],c)]
 |k+1=>(nj w r c k).flatMap<|nxB (r.getD k 0) (w.getD k (0,0)) ((lk w).drop<|k+1).sum ((lp w r).drop<|k+1).sum
theorem EN{b:Type}{f:Nat->List b}{lo n N:Nat}(h:∀a<N,f a≠[]->lo<=a/\a<n)(D:n<=N):(Ph N).flatMap f=(Ph<|n-lo).flatMap λi=>f (lo+i):=by
 have e:∀{a},a<N->¬(lo<=a/\a<n)->f a=[]:=λ{a} w q=>Sg λz=>q<|h a w z;obtain⟨d,rfl⟩:∃d,N=n+d:=⟨N-n,by lia⟩;have z:(Ph d).flatMap (λa=>f<|n+a)=[]:=TZ.mpr λa w=>e (by have:=PN.mp w;lia) (by lia);rw[List.range_add,Uw,WT,z,QI];rcases Nat.le_total lo n with q|q
 .obtain⟨m,rfl⟩:∃m,n=lo+m:=⟨n-lo,by lia⟩
  rw[List.range_add,Uw,TZ.mpr λa w=>e (by have:=PN.mp w;lia) (by have:=PN.mp w;lia),R5,WT,Vt]
 .rw[show n-lo=0 by lia,TZ.mpr λa w=>e (by have:=PN.mp w;lia) (by have:=PN.mp w;lia)];rfl
theorem va:∀{w:a0k} {r:a0a} (k:Nat),lp (w.drop k) (r.drop k)=(lp w r).drop k
 |_,_,0=>rfl
 |[],r,k+1=>by simp[lp]
 |p::w,[],k+1=>by cases h:(w.drop k)<;>simp[lp,h]
 |p::w,x::r,k+1=>va k
theorem bM{w:Type}{l:List w}{k:Nat}{d:w}(h:k<VX l):l.getD k d=l[k]:=by rw[O5,O4 h];rfl
theorem qS{w a:Type}{f g:w->List a}:∀{l:List w},(∀x∈l,f x=g x)->l.flatMap f=l.flatMap g
 |[],_=>rfl
 |x::l,h=>by rw[QJ,QJ,h x Pa,qS λy b=>h y<|O1 _ b]
theorem xt{D:a0k}{r:a0a}(j:VX D=VX r)(c:Nat):∀k,k<=VX r->((nj D r c k).flatMap λb=>(vB (D.drop k) (r.drop k) b.2).map (b.1++·))=vB D r c
 |0,_=>by simp[nj]
 |k+1,h=>by
  rw[<-xt j c k (by lia)];show((nj D r c k).flatMap _).flatMap _=_;rw[z5];refine QG (List.flatMap · (nj D r c k))<|funext λb=>?_;have o:k<VX r:=by lia
  have p:k<VX D:=by lia
  rw[Rp o,Rp p,bM o,bM p,xl,SM];rw[EN (f:=λa=>(if D[k].1<=a/\a<=D[k].2 then(vB (D.drop<|k+1) (r.drop<|k+1)<|b.2-a).map (a::·)else[]).map (b.1++·)) (N:=UW r[k] b.2+1) (lo:=max D[k].1<|b.2-((lp D r).drop<|k+1).sum) (n:=UW (UW r[k] b.2+1)<|UW (UW r[k] D[k].2+((lk D).drop<|k+1).sum) b.2+1-((lk D).drop<|k+1).sum) (λa d E=>?_)<|Uy _ _]
  .unfold nxB
   rw[WT,show UW (UW r[k] b.2+1) (UW (UW r[k] D[k].2+((lk D).drop<|k+1).sum) b.2+1-((lk D).drop<|k+1).sum)=UW (UW r[k] D[k].2+((lk D).drop<|k+1).sum) b.2+1-((lk D).drop<|k+1).sum from Nat.min_eq_right (by have:=Uy r[k] D[k].2;generalize UW r[k] D[k].2=m at*;lia)];refine qS λi t=>?_;have:=PN.mp t;have g:=Pk (Uy (UW r[k] D[k].2+((lk D).drop<|k+1).sum) b.2)<|V2 (Nat.min_le_right _ _) _;rw[Pc ⟨Pk (Nat.le_max_left _ _)<|Q7 _ _,by generalize UW (_+_) b.2=x at*;generalize max D[k].1 _=y at*;lia⟩,Pp];exact P4 λv _=>by simp
  .by_cases q:D[k].1<=a/\a<=D[k].2
   .rw[Pc q]at E
    obtain⟨w,e⟩:=List.exists_mem_of_ne_nil _ E;obtain⟨w,e,_⟩:=Pj.mp e;obtain⟨v,u,_⟩:=Pj.mp e;have:=Hw (by simp[j]) u;rw[va]at this;unfold lk at this⊢;rw[Uj]at this;have l:=ZV.mp<|Nat.le_of_lt_succ d;have m:=ZV.mpr ⟨l.1,q.2⟩;have l:=l.2;refine⟨Nat.max_le.mpr ⟨q.1,?_⟩,Nat.lt_min.mpr ⟨d,Nat.lt_sub_of_add_lt<|Nat.lt_succ_of_le<|ZV.mpr ⟨V2 m _,?_⟩⟩⟩<;>clear d m<;>lia
   .rw[Pd q]at E;exact PU rfl E
theorem Kw(c:Nat):vB [] [] c=if(c:Int)=0 then[[]]else[]:=by
 cases c with
 |zero=>rfl
 |succ n=>rw[Pd<|by lia];rfl
theorem Jd{w:a0k}{r:a0a}(a:VX w=VX r)(c:Nat):((nj w r c<|VX r).filter λb=>decide ((b.2:Int)=0)).map (·.1)=vB w r c:=by
 rw[<-xt a c (VX r) (Pg _),Vq,<-a,Vq,a];generalize nj w r c (VX r)=l
 induction l with
 |nil=>rfl
 |cons b l D=>
  rw[QJ,SK,<-D,Kw];by_cases q:(b.2:Int)=0
  .rw[Pc q,Pc<|Pn q];simp
  .rw[Pd q,Pd<|by simp;lia];rfl
theorem xq{w:a0k}{r:a0a}(c:Nat):∀k,k<=VX r->VX (nj w r c k)<=pr ((r.take k).map (·+1))
 |0,_=>Pg _
 |k+1,h=>by
  have e:r[k]?=on r[k]:=O4 (by lia);rw[rT e];refine Pk (oA (n:=r[k]+1) λb _=>?_) (Ur _<|xq c k<|by lia);unfold nxB;rw[OY,PY,bM (show k<VX r by lia)];refine Pk (Nat.sub_le _ _)<|Nat.sub_le_of_le_add ?_;rw[Nat.add_right_comm];exact Nat.succ_le_succ<|Pk (Uy _ _)<|V2 (Uy _ _) _
theorem BP(w:a0k)(r:a0a)(c:Nat):∀k,∀b∈nj w r c k,b.2<=c/\VX b.1=k
 |0,b,h=>by cases P0.mp h;exact⟨Pg _,rfl⟩
 |k+1,b,h=>by
  obtain⟨d,D,a⟩:=RE.mp (show b∈(nj w r c k).flatMap _ from h);obtain⟨i,_,rfl⟩:=Pj.mp a;obtain⟨G,E⟩:=BP w r c k d D;exact⟨by show d.2-_<=c;lia,by rw[PR,E];rfl⟩
theorem BD:∀{ps:a0k} {r:a0a},(lp ps r).sum<=r.sum
 |[],r=>Qk _
 |_::_,[]=>Pg _
 |p::ps,x::r=>by
  have:=BD (ps:=ps) (r:=r);simp only[lp,PL];lia
abbrev Wy:=Nat->a0a->a0l
def WOk(w:a0a)(W:Wy):Prop:=∀k r,(W k r).Sublist<|eo r<|w.getD k 0
def nwI(W:Wy)(L:a0l)(k:Nat):LI:=L.flatMap λr=>(W k r).map λv=>nI<|less r v
def nwL(W:Wy)(L:a0l)(k:Nat):a0l:=(md<|nwI W L k).map λk=>k.map Int.toNat
section
variable{W:Wy}{cs rs:a0a}
theorem kP{L:a0l}{k:Nat}{y:a0e}:y∈nwI W L k↔∃r∈L,∃v∈W k r,y=nI (less r v):=by
 unfold nwI;constructor
 .intro h
  obtain⟨r,a,h⟩:=RE.mp h;obtain⟨v,b,rfl⟩:=Pj.mp h;exact⟨r,a,v,b,rfl⟩
 .rintro⟨r,a,v,b,rfl⟩
  exact RE.mpr ⟨r,a,Pj.mpr ⟨v,b,rfl⟩⟩
theorem zo(L:a0l)(k:Nat):(nwL W L k).map nI=md (nwI W L k):=by
 unfold nwL;rw[Pp];refine(P4 λy a=>?_).trans<|VY _;obtain⟨r,_,v,_,rfl⟩:=kP.mp<|eV.mp a;show nI ((nI _).map Int.toNat)=_;rw[uD];rfl
theorem kO{L:a0l}{k:Nat}{u:a0a}:u∈nwL W L k↔∃r∈L,∃v∈W k r,u=less r v:=by
 constructor
 .intro h
  have:nI u∈md (nwI W L k):=by rw[<-zo];exact Pj.mpr ⟨u,h,rfl⟩
  obtain⟨r,a,v,b,e⟩:=kP.mp<|eV.mp this;exact⟨r,a,v,b,gB e⟩
 .rintro⟨r,a,v,b,rfl⟩
  exact Pj.mpr ⟨nI<|less r v,eV.mpr<|kP.mpr ⟨r,a,v,b,rfl⟩,uD _⟩
def io(W:Wy)(rs:a0a):Nat->a0l
 |0=>[rs]
 |k+1=>nwL W (io W rs k) k
theorem wb:∀k,(io W rs k).Nodup
 |0=>RF _ _
 |k+1=>DQ (f:=nI) (by show(QV nI<|nwL _ _ _).Nodup;rw[zo];exact Hx<|nM _)
theorem iu(b:WOk cs W)(w:rs.sum=cs.sum):∀k,k<=VX cs->∀r∈io W rs k,j_ r rs/\r.sum=(cs.drop k).sum
 |0,_,r,h=>by cases P0.mp h;exact⟨j_.f5 _,w⟩
 |k+1,hk,u,h=>by
  obtain⟨r,c,v,a,rfl⟩:=kO.mp (show u∈nwL W (io W rs k) k from h);have a:=(b k r).subset a;obtain⟨D,E⟩:=iu b w k (by lia) r c;have G:=(gQ a).2.1;rw[E,iE (by lia),PL]at G;exact⟨(eD a).less.tr D,by lia⟩
theorem JO(a:WOk cs W)(w:rs.sum=cs.sum){k:Nat}(b:k<=VX cs):VX (io W rs k)<=pr (rs.dropLast.map (·+1)):=
 Pk (il (wb k) (m:=eo rs (cs.drop k).sum) λr c=>by
  obtain⟨d,e⟩:=iu a w k b r c;rw[<-e];exact lE d) (k7 _ _)
theorem JK(a:WOk cs W)(w:rs.sum=cs.sum)(e:1<=VX rs)(f:pr (rs.dropLast.map (·+1))<63){k:Nat}(g:k<VX cs):lf ((nwI W (io W rs k) k).map l0)=on (.l<|(io W rs<|k+1).map λr=>l0<|nI r):=by
 refine(KW (m:=(eo rs (cs.drop<|k+1).sum).map nI) ?_ (by rw[OY];exact Rc (k7 _ _) f) ?_).trans ?_
 .intro x b
  obtain⟨r,c,v,d,rfl⟩:=kP.mp b;rw[OY,((eD<|(a k r).subset d).less.tr (iu a w k (by lia) r c).1).len];exact e
 .intro x b
  obtain⟨r,c,v,d,rfl⟩:=kP.mp b;obtain⟨D,E⟩:=iu a w (k+1) g (less r v)<|kO.mpr ⟨r,c,v,d,rfl⟩;exact Pj.mpr ⟨less r v,by rw[<-E];exact lE D,rfl⟩
 .rw[<-zo,Pp];rfl
def kyW(W:Wy)(rs:a0a)(n:Nat):List (Int×a0e):=(Ph n).flatMap λk=>(io W rs k).map λr=>((k:Int),nI r)
theorem Ew:∀n,(kyW W rs n).Nodup
 |0=>V0
 |n+1=>by
  unfold kyW;rw[S5,Uw,QJ,List.flatMap_nil,QI];refine U3.mpr ⟨Ew n,qv (λr s e=>gB (RM.mp e).2)<|wb n,λx a y b e=>?_⟩;subst e;obtain⟨k,c,h⟩:=RE.mp a;obtain⟨r,_,rfl⟩:=Pj.mp h;obtain⟨s,_,e⟩:=Pj.mp b;have:=(RM.mp e).1;have d:=PN.mp c;simp only at this;lia
def y1(W:Wy):Nat->Nat->a0a->Nat
 |0,_,_=>1
 |j+1,k,r=>sm (W k r) λv=>y1 W j (k+1)<|less r v
def vr(W:Wy):Nat->Nat->a0a->Nat
 |0,_,_=>1
 |j+1,k,r=>sm (W k r) λv=>mu v*vr W j (k+1) (less r v)
theorem vm{D:Type}{f g:D->Nat}{l m:List D}(h:l.Sublist m)(q:∀a∈m,f a<=g a):sm l f<=sm m g:=by
 induction h with
 |slnil=>exact Pg _
 |cons a _ w=>rw[aS];exact Pk (w λx b=>q x<|O1 _ b)<|Ux _ _
 |cons_cons a _ w=>rw[aS,aS];exact XG (q a Pa)<|w λx b=>q x<|O1 _ b
theorem wK(a:WOk cs W):∀(j k:Nat) (r:a0a),k+j=VX cs->vr W j k r<=dls r (cs.drop k)
 |0,k,r,h=>by rw[show k=VX cs by lia,Vq];exact Pg _
 |j+1,k,r,h=>by
  rw[iE<|by lia];exact vm (a k r) λv _=>Nat.mul_le_mul_left _ (wK a j (k+1) (less r v)<|by lia)
theorem DR(r:a0a):0<mu r:=ZX λz=>by
 have:=im r;rw[z,UH]at this;have:=kT r.sum;lia
end
end L2.Nt
namespace L2.Pu
theorem Fn{n:Nat}{f g:a0L}(h:∀i<n,f i<=g i):S n f<=S n g:=by
 induction n with
 |zero=>exact Y5 _
 |succ n w=>
  rw[gH,gH];have a:=w λi b=>h i (by lia);have c:=h n (by lia);lia
theorem ID(n:Nat)(f g:a0L):S n (λi=>f i-g i)=S n f-S n g:=by
 induction n with
 |zero=>rfl
 |succ n w=>rw[gH,gH,gH,w];lia
noncomputable def fl(x y:Bool)(l h:Int):Int:=(if x=O6/\y=O8 then h else 0)-(if x=O8/\y=O6 then l else 0)
def slk(w D:a0L)(E a:Nat->Nat->Int)(r c:Nat)(X Y:Nat->Bool):Int:=
 S c (λj=>if Y j=O6 then D j else 0)-S r (λi=>if X i=O6 then w i else 0)+S r λi=>S c λj=>fl (X i) (Y j) (E i j)<|a i j
section
variable{l m:a0L}{o k:Nat->Nat->Int}{r c:Nat}
theorem Jg{g:Nat->Nat->Int}(h:∀i<r,∀j<c,o i j<=g i j/\g i j<=k i j)(d:∀i<r,l i=S c (g i))(hc:∀j<c,m j=S r λi=>g i j)(X Y:Nat->Bool):0<=slk l m o k r c X Y:=by
 have e:S c (λj=>if Y j=O6 then m j else 0)=S r λi=>S c λj=>if Y j=O6 then g i j else 0:=by
  rw[Fm];refine dU λj a=>?_;cases q:Y j with
  |true=>simp only[Pc];exact hc j a
  |false=>simp only[PF,QA];exact(nq r).symm
 have f:S r (λi=>if X i=O6 then l i else 0)=S r λi=>S c λj=>if X i=O6 then g i j else 0:=by
  refine dU λi k=>?_;cases q:X i with
  |true=>simp only[Pc];exact d i k
  |false=>simp only[PF,QA];exact(nq c).symm
 unfold slk;rw[e,f,<-ID,<-uU];refine Int.le_trans (Int.le_of_eq (nq r).symm)<|Fn λi b=>?_;rw[<-ID,<-uU];refine Int.le_trans (Int.le_of_eq (nq c).symm)<|Fn λj a=>?_;have:=h i b j a;unfold fl;cases X i<;>cases Y j<;>simp<;>lia
noncomputable def s0:Nat->a0l
 |0=>[[]]
 |n+1=>s0 n++(s0 n).map (·++[n])
theorem jl:∀(n:Nat) (l:a0a),l∈s0 n->l.Sublist (Ph n)
 |0,l,h=>by rw[P0.mp h];exact .slnil
 |n+1,l,h=>by
  rw[S5];rcases QB.mp h with h|h
  .exact(jl n l h).trans (List.sublist_append_left _ _)
  .obtain⟨a,h',rfl⟩:=Pj.mp h
   exact(jl n a h').append<|VM _
theorem yu:∀n:Nat,VX (s0 n)=2^n
 |0=>rfl
 |n+1=>by
  rw[s0,PR,OY,yu n,Yv];lia
end
section
variable{o m:a0e}{b:LP}{r c:Nat}
abbrev slB(o m:a0e)(b:LP)(r c:Nat)(X Y:Nat->Bool):Int:=slk (λi=>o.getD i 0) (λj=>m.getD j 0) (λi j=>(bI b i j).1) (λi j=>(bI b i j).2) r c X Y
theorem KZ{a d:a0a}(e:a.Sublist<|Ph r)(f:d.Sublist<|Ph c):uz m b r c a d-qu o a=slB o m b r c (λi=>decide (i∈a)) (λj=>decide (j∈d)):=by
 rw[Jn e f];unfold qu slB slk;rw[nK f,nK e];have h:∀(n:Nat) (l:a0a) (g:a0L),S n (λj=>if decide (j∈l)=O6 then g j else 0)=S n (λj=>if j∈l then g j else 0):=λn l g=>dU λj _=>by simp
 rw[h,h];have k:(S r λi=>S c λj=>hF b a d i j)=S r λi=>S c λj=>fl (decide (i∈a)) (decide (j∈d)) (bI b i j).1 (bI b i j).2:=by
  refine dU λi _=>dU λj _=>?_;unfold hF fl;simp
 simp only[k];lia
def mF(m:a0e)(b:LP)(r c:Nat)(a:a0a):a0a:=(Ph c).filter λj=>decide (fJ m b r a j<gi b a j)
end
end L2.Pu
namespace L2.Nt
open L2.Pu
def Z9(W:Wy)(j k:Nat)(r:a0a):a0l:=(W k r).filter λv=>decide ((0:Int)<((y1 W j (k+1) (less r v):Nat):Int))
def Wk(W:Wy):Nat->a0a->a0l->Prop
 |_,_,[]=>True
 |k,r,v::vs=>v∈W k r/\Wk W (k+1) (less r v) vs
section
variable{W:Wy}{cs:a0a}
theorem HZ{w:Type}{f:w->Nat}{a:w}:∀{l:List w},a∈l->f a<=sm l f
 |b::l,h=>by
  rw[aS];rcases Pr.mp h with rfl|h
  .lia
  .have:=HZ (f:=f) h;lia
def d9(u v:a0a):a0a:=SU (·+·) u v
def kl(n:Nat):a0l->a0a
 |[]=>Py n 0
 |v::vs=>d9 v<|kl n vs
theorem we:∀{v r:a0a},VX v=VX r->less (d9 v r) v=r/\j_ v (d9 v r)
 |[],[],_=>⟨rfl,trivial⟩
 |x::v,y::r,h=>by
  obtain⟨a,b⟩:=we (v:=v) (r:=r) (by simpa using h);refine⟨?_,Q7 _ _,b⟩;show(x+y-x)::less (d9 v r) v=_;rw[a,Vt]
theorem wW:∀{v r:a0a},j_ v r->d9 v (less r v)=r
 |[],[],_=>rfl
 |x::v,y::r,h=>by
  show(x+(y-x))::d9 v (less r v)=_;rw[wW h.2,Nat.add_sub_cancel' h.1]
 |[],_::_,h=>h.elim
 |_::_,[],h=>h.elim
theorem fE{n:Nat}:∀{vs:a0l},(∀v∈vs,VX v=n)->VX (kl n vs)=n
 |[],_=>Rt
 |v::vs,h=>by
  show(SU _ _ _).length=n;rw[We,h v Pa,fE λu a=>h u<|O1 _ a,Nat.min_self]
theorem KR:∀{r:a0a},r.sum=0->r=Py (VX r) 0
 |[],_=>rfl
 |x::r,h=>by
  rw[PL]at h;obtain rfl:x=0:=by lia
  rw[Pt,Q4,<-KR (r:=r) (by lia)]
theorem xa(a:WOk cs W):∀{w:a0l} {k:Nat} {r:a0a},Wk W k r w->k+VX w=VX cs->r.sum=(cs.drop k).sum->w.map Q6=cs.drop k/\r=kl (VX r) w/\∀v∈w,VX v=VX r
 |[],k,r,_,e,s=>by
  have f:cs.drop k=[]:=RJ (by simpa using e▸Pg _);rw[f]at s⊢;exact⟨rfl,KR s,λ_ h=>by cases h⟩
 |v::w,k,r,h,e,s=>by
  rw[Pt]at e;have b:=(a k r).subset h.1;obtain⟨E,K,G,_⟩:=gQ b;have D:=eD b;rw[iE (by lia),PL]at s;obtain⟨g,c,d⟩:=xa a h.2 (by lia) (by lia);have i:=D.less.len;rw[i]at c d;refine⟨by rw[iE (by lia),Pi,g,E],?_,λu hu=>?_⟩
  .show r=d9 v (kl (VX r) w)
   rw[<-c,wW D]
  .rcases Pr.mp hu with rfl|hu
   .exact G
   .exact d u hu
theorem Ho{n:Nat}:∀{w:a0l} {k:Nat},(∀v∈w,VX v=n)->(∀i r v,w[i]?=on v->j_ v r->v∈W (k+i) r)->Wk W k (kl n w) w
 |[],_,_,_=>trivial
 |v::w,k,h,hw=>by
  have b:∀u∈w,VX u=n:=λu a=>h u<|O1 _ a;obtain⟨c,d⟩:=we (v:=v) (r:=kl n w) (by rw[h v Pa,fE b]);refine⟨hw 0 _ v rfl d,?_⟩;show Wk W (k+1) (less (d9 v<|kl n w) v) w;rw[c];exact Ho b λi r u a D=>by
   have:=hw (i+1) r u a D;rwa[show k+(i+1)=k+1+i by lia]at this
theorem vS:∀{l:a0a} {i x y:Nat},l[i]?=on x->pr (l.set i y)*x=pr l*y
 |a::l,0,x,y,h=>by
  cases h;show y*pr l*a=a*pr l*y;rw[Ql y,Qh,Ql y a,<-Qh,Ql (pr l) a]
 |a::l,i+1,x,y,h=>by
  have:=vS (l:=l) (i:=i) (x:=x) (y:=y) h;show a*pr (l.set i y)*x=a*pr l*y;rw[Qh,this,Qh]
theorem cz:∀{l:a0a} {i x y:Nat},l[i]?=on x->(l.set i y).sum+x=l.sum+y
 |a::l,0,x,y,h=>by
  cases h;show(y::l).sum+a=(a::l).sum+y;rw[PL,PL];lia
 |a::l,i+1,x,y,h=>by
  have:=cz (l:=l) (i:=i) (x:=x) (y:=y) h;show(a::l.set i y).sum+x=(a::l).sum+y;rw[PL,PL];lia
theorem DS{v:a0a}{i x:Nat}(h:v[i]?=on (x+1)):mu (v.set i x)*v.sum=mu v*(x+1):=by
 have s:=cz (y:=x) h;obtain⟨m,w⟩:∃m,v.sum=m+1:=⟨v.sum-1,by lia⟩;have f1:=im v;have f2:=im<|v.set i x;rw[show(v.set i x).sum=m by lia,R8]at f2;rw[w,qU]at f1;have p:=vS (l:=v.map dc) (i:=i) (y:=dc x) (by rw[O9,h];rfl);rw[qU]at p;rw[w];have z:=nV v;refine Tl (nV v) ?_;have a:=kT x;refine Tl a ?_;have g:pr ((v.map dc).set i<|dc x)*((x+1)*dc x)=pr (v.map dc)*dc x:=p
 calc mu (v.set i x)*(m+1)*pr (v.map dc)*dc x=mu (v.set i x)*(m+1)*(pr (v.map dc)*dc x):=Qh _ _ _
  _=mu (v.set i x)*(m+1)*(pr ((v.map dc).set i<|dc x)*((x+1)*dc x)):=by rw[g]
  _=(mu (v.set i x)*pr ((v.map dc).set i<|dc x))*((m+1)*((x+1)*dc x)):=by simp only[Qh,Qp,Ql]
  _=dc m*((m+1)*((x+1)*dc x)):=by rw[f2]
  _=((m+1)*dc m)*((x+1)*dc x):=by simp only[Qh,Qp,Ql]
  _=(mu v*pr (v.map dc))*((x+1)*dc x):=by rw[f1]
  _=mu v*(x+1)*pr (v.map dc)*dc x:=by simp only[Qh,Qp,Ql]
theorem j_.dl:∀{u v:a0a},j_ u v->j_ u.dropLast v.dropLast
 |[],[],_=>trivial
 |[_],[_],_=>trivial
 |_::_::_,_::_::_,h=>⟨h.1,h.2.dl⟩
 |[_],_::_::_,h=>h.2.elim
 |_::_::_,[_],h=>h.2.elim
 |[],_::_,h=>h.elim
 |_::_,[],h=>h.elim
theorem EW{W:Wy}{cs:a0a}{n:Nat}(a:∀k r,k<VX cs->VX r=n->r.sum<=40->W k r=eo r (cs.getD k 0)):∀(j k:Nat) (r:a0a),k+j=VX cs->VX r=n->r.sum<=40->vr W j k r=dls r (cs.drop k)
 |0,k,r,e,_,_=>by rw[show k=VX cs by lia,Vq];rfl
 |j+1,k,r,e,l,s=>by
  rw[iE<|by lia];show sm (W k r) _=sm (eo r<|cs.getD k 0) _;rw[a k r (by lia) l s];refine bv λv b=>?_;have q:=(gQ b).2.1;rw[EW a j (k+1) (less r v) (by lia) (by rw[(eD b).less.len,l])<|by lia]
theorem uX{f:Nat->Nat->Nat}{x y:Nat}:∀{l m:a0a} {i:Nat},m[i]?=on y->SU f (l.set i x) m=(SU f l m).set i (f x y)
 |[],_,_,_=>rfl
 |a::l,b::m,0,h=>by cases h;rfl
 |a::l,b::m,i+1,h=>QG (f a b::·)<|uX (l:=l) (m:=m) (i:=i) h
theorem nc:∀(u v:a0a),d9 u v=d9 v u
 |[],[]=>rfl
 |[],_::_=>rfl
 |_::_,[]=>rfl
 |a::u,b::v=>by show(a+b)::d9 u v=(b+a)::d9 v u;rw[nc u v,SA]
theorem wX{u v:a0a}{i x y:Nat}(a:u[i]?=on x)(b:v[i]?=on y):(d9 u v)[i]?=on (x+y):=by
 unfold d9;rw[Yq,a,b]
theorem xE{n:Nat}:∀{vs:a0l} {i j x:Nat} {v:a0a},(∀v∈vs,VX v=n)->vs[j]?=on v->v[i]?=on (x+1)->∃y,(kl n vs)[i]?=on (y+1)/\kl n (vs.set j<|v.set i x)=(kl n vs).set i y
 |u::vs,i,0,x,v,h,h1,h2=>by
  cases h1;have a:∀w∈vs,VX w=n:=λw b=>h w<|O1 _ b;have c:i<VX (kl n vs):=by rw[fE a,<-h u Pa];exact(Pl.mp h2).1
  have e:=O4 c;refine⟨x+(kl n vs)[i],(wX h2 e).trans (by congr 1;lia),uX e⟩
 |u::vs,i,j+1,x,v,h,h1,h2=>by
  have a:∀w∈vs,VX w=n:=λw b=>h w<|O1 _ b;obtain⟨y,D,E⟩:=xE (vs:=vs) (i:=i) (j:=j) (x:=x) (v:=v) a h1 h2;have c:i<VX u:=by
   have:=(Pl.mp D).1;rw[fE a]at this;rw[h u Pa];exact this
  have e:=O4 c;refine⟨u[i]+y,(wX e D).trans (by congr 1),?_⟩;show d9 u (kl n<|vs.set j<|v.set i x)=(d9 u<|kl n vs).set i _;rw[E,nc,nc u,SA];exact uX e
theorem rO{n:Nat}:∀{D:a0l},(∀v∈D,VX v=n)->(kl n D).sum=(D.map Q6).sum
 |[],_=>by
  have z:∀m,(Py m 0).sum=0:=λm=>by
   induction m with
   |zero=>rfl
   |succ m E=>rw[Q4,PL,E]
  exact z n
 |v::D,h=>by
  have c:∀w∈D,VX w=n:=λw d=>h w<|O1 _ d;have s:∀{u w:a0a},VX u=VX w->(d9 u w).sum=u.sum+w.sum:=λ{u}=>by
   induction u with
   |nil=>intro w q;cases w with
    |nil=>rfl
    |cons=>simp at q
   |cons a u E=>intro w q;cases w with
    |nil=>simp at q
    |cons b w=>
     show((a+b)::d9 u w).sum=_;rw[PL,PL,PL,E<|by simpa using q];lia
  rw[Pi,PL,<-rO c];exact s (by rw[h v Pa,fE c])
theorem vL{n i:Nat}:∀{D:a0l},(∀v∈D,VX v=n)->i<n->(kl n D).getD i 0=(D.map λv=>v.getD i 0).sum
 |[],_,hi=>by
  show(Py n 0).getD i 0=0;rw[O5,R3,Pc hi];rfl
 |v::D,h,hi=>by
  have a:∀w∈D,VX w=n:=λw b=>h w<|O1 _ b;have E:=h v Pa;have c:=fE a;rw[Pi,PL,<-vL a hi];show(d9 v<|kl n D).getD i 0=_;rw[O5,wX (O4<|by lia) (O4<|by lia),bM (by lia),bM<|by lia];rfl
theorem L9{p q D w:Nat}(i:0<q)(j:0<w)(h:p*w=D*q):p/QE p q=D/QE D w/\q/QE p q=w/QE D w:=by
 have d:0<QE p q:=SD _ i;have f:0<QE D w:=SD _ j;have E:=Xz d;have G:=Xz f;obtain⟨b,n⟩:=WP p q;obtain⟨a,o⟩:=W1 p q;obtain⟨c,k⟩:=WP D w;obtain⟨l,m⟩:=W1 D w;generalize QE p q=g at*;generalize QE D w=g' at*;subst o n m k;rw[T6 _ d,T6 _ d]at*;rw[T6 _ f,T6 _ f]at*;have x:a*c=l*b:=by
  refine XZ (Ve d f) ?_
  calc g*g'*(a*c)=g*a*(g'*c):=by simp only[Qh,Qp,Ql]
   _=g'*l*(g*b):=h
   _=g*g'*(l*b):=by simp only[Qh,Qp,Ql]
 have K:b∣c:=(E.symm).dvd_of_dvd_mul_left (by rw[x];exact Nat.dvd_mul_left _ _);have M:c∣b:=(G.symm).dvd_of_dvd_mul_left (by rw[<-x];exact Nat.dvd_mul_left _ _);have e:=Nat.dvd_antisymm K M;subst e;have r:0<b:=ZX λz=>by rw[z]at i;simp at i
 exact⟨Tl r x,rfl⟩
theorem j_.set:∀{r:a0a} {i y:Nat},r[i]?=on (y+1)->j_ (r.set i y) r
 |x::r,0,y,h=>by cases h;exact⟨T4 _,j_.f5 r⟩
 |x::r,i+1,y,h=>⟨Pg _,j_.set (r:=r) (i:=i) h⟩
def j1(W:Wy):Nat->Nat->a0a->List a0l
 |0,_,_=>[[]]
 |j+1,k,r=>(W k r).flatMap λv=>(j1 W j (k+1)<|less r v).map (v::·)
def wt(vs:a0l):Nat:=pr<|vs.map mu
variable{rs:a0a}
theorem nU:∀(j k:Nat) (r:a0a),VX (j1 W j k r)=y1 W j k r
 |0,_,_=>rfl
 |j+1,k,r=>by
  show((W k r).flatMap _).length=_;rw[List.length_flatMap];show _=((W k r).map _).sum;congr 1;exact P4 λv _=>by rw[OY,nU]
theorem jd:∀(j k:Nat) (r:a0a),sm (j1 W j k r) wt=vr W j k r
 |0,_,_=>rfl
 |j+1,k,r=>by
  show sm ((W k r).flatMap _) wt=_;rw[rH];refine bv λv _=>?_;rw[vn,<-jd j (k+1) (less r v),<-gn];rfl
theorem CQ:∀{j k:Nat} {r:a0a} {w:a0l},w∈j1 W j k r->Wk W k r w/\VX w=j
 |0,_,_,w,h=>by cases P0.mp h;exact⟨trivial,rfl⟩
 |j+1,k,r,w,h=>by
  obtain⟨v,a,b⟩:=RE.mp (show w∈(W k r).flatMap _ from h);obtain⟨D,c,rfl⟩:=Pj.mp b;obtain⟨d,e⟩:=CQ c;exact⟨⟨a,d⟩,by rw[Pt,e]⟩
theorem rJ{w:Type}{f:w->Nat}{p:w->Bool}:∀{l:List w},(∀v,p v=O8->f v=0)->sm (l.filter p) f=sm l f
 |[],_=>rfl
 |v::l,h=>by
  rw[SK];cases q:p v with
  |true=>rw[Pc rfl,aS,aS,rJ h]
  |false=>rw[Pd Pf,aS,rJ h,h v q,Qu]
theorem rB:∀(r:a0a) (c:Nat),(eo r c).Nodup
 |[],0=>RF _ _
 |[],_+1=>V0
 |x::r,c=>by
  show((Ph<|UW x c+1).flatMap λa=>(eo r<|c-a).map (a::·)).Nodup;refine Yr.mpr ⟨λa _=>qv (λ_ _ e=>(VN e).2)<|rB r<|c-a,Vr.imp λ{a b} n u d w f e=>?_⟩;obtain⟨_,_,rfl⟩:=Pj.mp d;obtain⟨_,_,rfl⟩:=Pj.mp f;exact n (VN e).1
end
end L2.Nt
namespace Law
open L2 L2.Pu L2.Nt
section
variable{K:Pz}{a:Ad}{β:Bg}
abbrev tN(l:a0a):D:=l0<|nI l
abbrev eN(b:a0a×Nat):D:= .t [tN b.1,.n (b.2:Int)]
abbrev pN(p:Nat×Nat):D:=pD ((p.1:Int),(p.2:Int))
def B6(r:a0a):Prop:=1<=VX r/\VX r<=4/\r.sum<=40/\pr (r.map (·+1))<=500
theorem pR{f g:FD}{δ:Dn}{x y:D}{ds a:a0c}(b:f δ β=on (.ok x,β))(c:g δ β=on (.ok y,β))(d:fV x=on ds)(e:fV y=on a):zr (aa f<|aa g am) δ β=on (.ok<|eJ ds a,β):=bJ (ac b<|ac c rfl) (by
 unfold Fs;simp only[d,e,SE,Rj])
theorem rg2I{a:Nat}{h:Int}(b:-1000<=h)(c:h<=1000)(d:a<=1000):pf [.n (a:Int),.n h]=on ((Ph (h-a).toNat).map λi=>D.n ((a+i:Nat):Int)):=by
 have e:pf [.n (a:Int),.n h]=on (aW a (h-a).toNat):=by
  simp only[pf];rw[Pc<|by simp only[PV,P9];lia]
 rw[e];exact QG on (P4 λi _=>by congr 1)
theorem addT{l:a0a}{c:Nat}(h:VX l<=100):gF (tN l) (.t [.n (c:Int)])=on (tN<|l++[c]):=by
 cases l with
 |nil=>rfl
 |cons x l=>
  show(if _ then _ else _)=_;rw[Pc<|bq<|by simp at h⊢;lia];simp[l0]
theorem BN(l:a0a)(k:Nat):gm [.l<|((nI l).map D.n).drop k]=on (.n (((l.drop k).sum:Nat):Int)):=by
 rw[<-Uj,<-Uj];exact(fA _).trans (by rw[<-jJ])
theorem BG:∀{r:a0a} {ps:a0k},(r.zip ps).map (λq=>D.n<|UW (q.1:Int) (q.2.2:Int))=(nI<|lp ps r).map D.n
 |[],_=>by cases ‹a0k›<;>rfl
 |_::_,[]=>rfl
 |x::r,p::ps=>by
  have e:=BG (r:=r) (ps:=ps);show _::_=D.n ((UW x p.2:Nat):Int)::(nI<|lp ps r).map D.n;rw[<-e];show D.n (UW (x:Int) (p.2:Int))::_=_;rw[show UW (x:Int) (p.2:Int)=((UW x p.2:Nat):Int) by lia];rfl
theorem BE:∀{a:a0k} {r:a0a} {k:Nat} (b:k<VX a) (c:k<VX r),(lp a r)[k]?=on (UW r[k] a[k].2)
 |p::a,x::r,0,_,_=>rfl
 |p::a,x::r,k+1,b,c=>BE (k:=k) (by simpa using b) (by simpa using c)
abbrev wF(a:a0k)(r:a0a)(c:Nat)(w:D)(b d e:a0Z):Ds:=[on<|.h<|tN r,on<|.h<|.n (c:Int),on<|.h<|.l<|a.map pN,on<|.h<|.l<|(nI<|lk a).map .n,on<|.h<|.l<|(nI<|lp a r).map .n,on<|.h w,b,d,e]
theorem ML{w:a0k}{r:a0a}{c:Nat}(H:B6 r)(v:VX w=VX r)(A:∀p∈w,p.1<=40/\p.2<=40)(hc:c<=40):(lx K a).1 [tN r,.n (c:Int),.l<|w.map pN] β=on (.ok<|.l<|(vB w r c).map tN,β):=by
 obtain⟨_,R,G,T⟩:=H;have I:VX r<=Ps:=bq (by lia);have o:∀k,k<=VX r->VX (nj w r c k)<=Ps:=λk m=>bq (Pk (xq c k m)<|Pk (zd r k)<|by lia);unfold lx
 dsimp only
 refine aF ?_;refine aE (d:= .l<|(nI<|lk w).map .n) (β1:=β) ?_ ?_
 .have:=bw (nv:=2) (cy:=[]) (it:=fc<|ad 2) (tg:=Y_<|f7 (hV 0)<|f7 (hV 1) k9) (f:=ad 0) (δ:=vw<|wF w r c .o OZ OZ OZ) (β:=β) w pN (λp=> .n (p.1:Int)) rfl (λx _=>⟨[on<|.n (x.1:Int),on<|.n (x.2:Int)],rfl,rfl⟩) (by rw[v];exact I)
  refine Eq.trans this ?_;unfold lk;rw[Pp,Pp];rfl
 refine aE (d:= .l<|(nI<|lp w r).map .n) (β1:=β) ?_ ?_
 .rw[<-BG]
  exact bw (nv:=3) (cy:=[]) (it:=zr<|aa (ad 0)<|aa (ad 2)<|am) (tg:=Y_<|f7 (hV 0)<|f7 (Y_<|f7 (hV 1)<|f7 (hV 2) k9) k9) (f:=aB v7<|aa (ad 0)<|aa (ad 2)<|am) (δ:=vw<|wF w r c .o OZ OZ OZ) (β:=β) (r.zip w) (λq=>D.t [.n (q.1:Int),pN q.2]) _ (by
   rw[<-oX (λx:Nat=>D.n (x:Int)) pN];refine pR (x:=tN r) (y:= .l<|w.map pN) rfl rfl ?_ rfl;show on _=on _;rw[Pp];rfl) (λq _=>⟨[on<|.n (q.1:Int),on<|.n (q.2.1:Int),on<|.n (q.2.2:Int)],rfl,ag rfl L6⟩) (bq<|by rw[Xc];lia)
 refine aE (d:= .l<|(nj w r c 0).map eN) (β1:=β) (ag (ac (ag (ac (ag rfl rfl)<|ac rfl rfl) eK) rfl) zC) ?_;refine cG (ds:=aW 0<|VX r) (β1:=β) (bJ (ac (ag (z:= .n (VX r:Int)) rfl (by show on (D.n _)=_;rw[OY,OY])) rfl)<|y2 (by lia)<|by lia) (λk δ C=>β=C/\∃B t u,δ=wF w r c (.l<|(nj w r c k).map eN) B t u) ⟨rfl,OZ,OZ,OZ,rfl⟩ ?_ ?_
 .rintro k d δ _ hd ⟨rfl,B,t,u,rfl⟩
  obtain⟨m,rfl⟩:=uB hd;have j:k<VX w:=by lia
  have J:w[k]?=on w[k]:=O4 j;have b40:=A _<|Qd j;have U:(lk w).sum<=160:=by
   have g:∀l:a0k,(∀p∈l,p.1<=40/\p.2<=40)->(lk l).sum<=40*VX l:=λl=>by
    induction l with
    |nil=>intro _;exact Pg _
    |cons p l E=>
     intro h;have:=E λq v=>h q<|O1 _ v;have:=(h p Pa).1;simp only[lk,Pi,PL,Pt]at*;lia
   have:=g w A;lia
  have F:∀(l:a0a) (n:Nat),(l.drop n).sum<=l.sum:=λl n=>by
   conv=>rhs;rw[<-S9 n l,Xf]
   lia
  have L:=F (lk w)<|k+1;have N:=Pk (F (lp w r)<|k+1) BD;refine⟨wF w r c (.l<|(nj w r c k).map eN) (on<|.h<|.n (k:Int)) t u,rfl,?_⟩;refine aE (d:= .n ((((lk w).drop<|k+1).sum:Nat):Int)) (β1:=β) (ag (ac (sM rfl<|dq rfl rfl rfl) rfl)<|(QG (λl=>gm [.l l])<|wQ (k:=k+1)).trans<|BN _ _) ?_;refine aE (d:= .n ((((lp w r).drop<|k+1).sum:Nat):Int)) (β1:=β) (ag (ac (sM rfl<|dq rfl rfl rfl) rfl)<|(QG (λl=>gm [.l l])<|wQ (k:=k+1)).trans<|BN _ _) ?_;refine aq<|aE (d:= .l<|(nj w r c<|k+1).map eN) (β1:=β) ?_<|aT ⟨rfl,_,_,_,rfl⟩;have e:(nj w r c<|k+1).map eN=(nj w r c k).flatMap λb=>(nxB r[k] w[k] ((lk w).drop<|k+1).sum ((lp w r).drop<|k+1).sum b).map eN:=by
   show((nj w r c k).flatMap _).map eN=_;rw[SM,bM m,bM j]
  rw[e];refine Ke (nj w r c k) eN _ rfl (λb A=>⟨[on<|tN b.1,on<|.n (b.2:Int),OZ,on<|.l<|(nI<|lk w).map .n,on<|.n (k:Int),on<|.n ((((lp w r).drop<|k+1).sum:Nat):Int),on<|.l<|(nI<|lp w r).map .n,on<|.n ((((lk w).drop<|k+1).sum:Nat):Int)],rfl,?_⟩) (by
   rw[<-e,OY];exact o (k+1) m)
  obtain⟨W,M⟩:=BP w r c k b A;have X:=fF<|Qd m;unfold nxB;generalize ((lk w).drop<|k+1).sum=few at*;generalize ((lp w r).drop<|k+1).sum=most at*;refine(DM (Ph<|UW (UW r[k] w[k].2+few) b.2+1-few-max w[k].1 (b.2-most)) (λi=>D.n ((max w[k].1 (b.2-most)+i:Nat):Int)) (λi=>eN (b.1++[max w[k].1 (b.2-most)+i],b.2-(max w[k].1 (b.2-most)+i))) ?_ ?_).trans (by rw[Pp];rfl)
  .refine bJ (as:=[.n ((max w[k].1 (b.2-most):Nat):Int),.n<|UW ((UW r[k] w[k].2:Nat):Int) ((b.2:Int)-few)+1]) (ac (ag (ac (dq rfl rfl<|dS (d:= .n (w[k].1:Int)) ?_)<|ac (dq rfl rfl rfl) rfl)<|max2.trans ?_)<|ac (dq (ag (ac (dq rfl rfl<|dS (d:= .n ((UW r[k] w[k].2:Nat):Int)) ?_)<|ac (dq rfl rfl rfl) rfl) L6) rfl rfl) rfl) ((rg2I (by lia) (by lia)<|by lia).trans ?_)
   .unfold lk
    rw[O9,O9,O9,J];rfl
   .rw[show max (w[k].1:Int) ((b.2:Int)-(most:Int))=((max w[k].1 (b.2-most):Nat):Int) by lia]
   .rw[O9,O9,BE j m];rfl
   .rw[show(UW ((UW r[k] w[k].2:Nat):Int) ((b.2:Int)-few)+1-((max w[k].1 (b.2-most):Nat):Int)).toNat=UW (UW r[k] w[k].2+few) b.2+1-few-max w[k].1 (b.2-most) by generalize UW r[k] w[k].2=x;generalize max w[k].1 (b.2-most)=y;lia]
  .refine λi O=>⟨[on<|tN b.1,on<|.n (b.2:Int),on<|.n ((max w[k].1 (b.2-most)+i:Nat):Int),on<|.l<|(nI<|lk w).map .n,on<|.n (k:Int),on<|.n (most:Int),on<|.l<|(nI<|lp w r).map .n,on<|.n (few:Int)],rfl,ag (ac (dq rfl (ag rfl rfl)<|addT (l:=b.1) (c:=max w[k].1 (b.2-most)+i)<|by lia)<|ac (dq rfl rfl rfl) rfl)<|eK.trans ?_⟩
   have Q:=PN.mp O;show on (D.t [_,.n _])=on (D.t [_,.n _]);rw[show(b.2:Int)-((max w[k].1 (b.2-most)+i:Nat):Int)=((b.2-(max w[k].1 (b.2-most)+i):Nat):Int) by lia]
 .rintro δ _ ⟨rfl,B,t,u,rfl⟩
  rw[mv];have h:=lQ (nv:=2) (cy:=[]) (it:=fc<|ad 5) (tg:=Y_<|f7 (hV 0)<|f7 (hV 1) k9) (tt:=fB<|f2 (g9) (ad 1)<|fC<|.n 0) (f:=ad 0) (δ:=hE<|wF w r c (.l<|(nj w r c<|VX r).map eN) B t u) (β:=β) (nj w r c<|VX r) eN (λb=>tN b.1) (λb=>decide ((b.2:Int)=0)) rfl (λb _=>⟨[on<|tN b.1,on<|.n (b.2:Int)],rfl,hO<|dq rfl rfl eq_int,λ_=>rfl⟩)<|o _<|Pg _;refine aq<|aM h ⟨rfl,?_⟩;rw[<-Jd v,Pp];rfl
theorem wU{E:Type}{G:m3}{b:FL}{K:Dn}{β:Bg}(u:E->D)(o:E->a0c):∀(w:List E),(∀x∈w,∃a,G (u x) K=on a/\b a β=on (.ok<|o x,β))->nC G (λ_=>M.j7 O6) b (w.map u) K β=on (.ok<|w.flatMap o,β)
 |[],_=>rfl
 |x::w,h=>by
  obtain⟨a,c,d⟩:=h x Pa;have e:=wU u o w λy f=>h y<|O1 _ f;rw[Pi,nC];simp only[c,M.v,M.j7,reduceIte,d,e,QJ]
theorem lR{E:Type}{K:Nat}{P:a0a}{S:FL}{V:m3}{b:FL}{c:a0c->a0m}{G:Dn}{β:Bg}{d:D}(w:List E)(u:E->D)(o:E->a0c)(e:S G β=on (.ok<|w.map u,β))
  (f:∀x∈w,∃a,V (u x) (ll K P G)=on a/\b a β=on (.ok<|o x,β)) (g:c (w.flatMap o)=on d):iA K P S V (λ_=>M.j7 O6) b c G β=on (.ok d,β):=by
 unfold iA;rw[e];simp only[wU u o w f,g,Rj]
theorem N1{E:Type}{K:FL}{P:m3}{b:FL}{G:Dn}{β:Bg}(w:List E)(u:E->D)(o:E->a0c)(c:K G β=on (.ok<|w.map u,β))(d:∀x∈w,∃a,P (u x) G=on a/\b a β=on (.ok<|o x,β)):cNx K P (λ_=>M.j7 O6) b G β=on (.ok<|w.flatMap o,β):=by
 unfold cNx M.v;rw[c];exact wU u o w d
noncomputable abbrev f6(B:a0f):LP:=B.map λa=>a.map λp=>((p.1:Int),(p.2:Int))
abbrev j0(B:a0f):D:=bO<|f6 B
noncomputable def ck(B:a0f)(k:Nat):a0k:=B.map λa=>a.getD k (0,0)
def PC(r c:Nat)(B:a0f):Prop:=i4 r c B/\∀a∈B,∀p∈a,p.1<=p.2/\p.2<=40
def wB(B:a0f)(cs:a0a):Wy:=λk r=>vB (ck B k) r<|cs.getD k 0
theorem yC(B:a0f)(cs:a0a):WOk cs (wB B cs):=λk r=>Wc
theorem PC.col{r c k:Nat}{B:a0f}(h:PC r c B)(e:k<c):VX (ck B k)=r/\∀p∈ck B k,p.1<=40/\p.2<=40:=by
 refine⟨by unfold ck;rw[OY,h.1.1],λp d=>?_⟩;obtain⟨a,b,rfl⟩:=Pj.mp d;have l:=h.1.2 a b;rw[bM<|by lia];have:=h.2 a b _<|Qd (show k<VX a by lia);lia
theorem sG{r cs:a0a}{B:a0f}{k:Nat}(c:B6 r)(hB:PC (VX r) (VX cs) B)(hc:cs.sum<=40)(e:k<VX cs):(cb K a).1 [tN r,nL cs,j0 B,.n (k:Int)] β=on (.ok<|.l<|(wB B cs k r).map tN,β):=by
 have g:cs[k]?=on (cs.getD k 0):=by rw[O5,O4 e];rfl
 obtain⟨l,q⟩:=hB.col e;unfold cb
 dsimp only
 refine aF<|aq<|aM (ah (ac rfl<|ac (dq rfl rfl<|dS (d:= .n (cs.getD k 0:Int))<|by rw[O9,O9,g];rfl)<|ac ?_ rfl)<|ML c l q<|Pk (fF<|PD g) hc) ⟨rfl,rfl⟩;have h:=bw (nv:=1) (cy:=[3]) (it:=fc<|ad 2) (tg:=hV 0) (f:=f2 g8 (ad 0)<|ad 1) (δ:=[on<|tN r,on<|nL cs,on<|j0 B,on<|.n (k:Int)]) (β:=β) B (λw=>D.l<|w.map pN) (λw=>pN<|w.getD k (0,0)) (dD rfl (by
  show on _=on _;rw[Pp,Pp];exact QG on<|P4 λw _=>QG D.l (by show QV pD (QV _ w)=_;rw[Pp];rfl))) (λw b=>⟨[on<|D.l<|w.map pN,on<|.n (k:Int)],rfl,dq rfl rfl<|dS (by
   have l:=hB.1.2 w b;rw[O9,bM (by lia),O4<|by lia];rfl)⟩)<|bq (by rw[hB.1.1];have:=c.2.1;lia)
 refine h.trans ?_;unfold ck;rw[Pp];rfl
theorem Eu:∀{r v:a0a},j_ v r->(r.zip v).map (λp=>D.n<|(p.1:Int)-(p.2:Int))=(nI<|less r v).map D.n
 |[],[],_=>rfl
 |x::r,y::v,h=>by
  have e:=Eu h.2;have b:=h.1;show _::_=D.n ((x-y:Nat):Int)::(nI<|less r v).map D.n;rw[<-e];show D.n ((x:Int)-(y:Int))::_=_;rw[show(x:Int)-(y:Int)=((x-y:Nat):Int) by lia];rfl
 |[],_::_,h=>h.elim
 |_::_,[],h=>h.elim
theorem uC{r v:a0a}(h:j_ v r)(b:VX r<=4):(cU K a).1 [tN r,tN v] β=on (.ok<|tN<|less r v,β):=by
 unfold cU
 dsimp only
 refine aF<|aq<|aM (ag (ac (x:= .l<|(nI<|less r v).map D.n) ?_ rfl) rfl) ⟨rfl,rfl⟩;rw[<-Eu h];refine bw (r.zip v) (λp=>D.t [.n (p.1:Int),.n (p.2:Int)]) _ ?_ (λp _=>⟨[on<|.n (p.1:Int),on<|.n (p.2:Int)],rfl,rfl⟩) (bq<|by rw[Xc];lia);rw[<-oX (λx:Nat=>D.n (x:Int)) (λx:Nat=>D.n (x:Int))];refine pR (x:=tN r) (y:=tN v) rfl rfl ?_ ?_
 .show on _=on _
  rw[Pp];rfl
 .show on _=on _
  rw[Pp];rfl
structure Nt0 (rs cs:a0a):Prop where
 nr:B6 rs
 wd:pr (rs.dropLast.map (·+1))<63
 sm:rs.sum=cs.sum
 c1:1<=VX cs
 c6:VX cs<=6
structure q_ (K:Pz) (a:Ad) (rs cs:a0a) (W:Wy) (bd:D):Prop extends Nt0 rs cs where
 ok:WOk cs W
 fl:∀{β:Bg} {k:Nat} {r:a0a},k<VX cs->B6 r->VX r=VX rs->(cb K a).1 [tN r,nL cs,bd,.n (k:Int)] β=on (.ok<|.l<|(W k r).map tN,β)
theorem q_.at{rs cs r:a0a}{k:Nat}{W:Wy}{bd:D}(h:q_ K a rs cs W bd)(b:k<=VX cs)(c:r∈io W rs k):B6 r/\VX r=VX rs/\r.sum<=40:=by
 have q:=(iu h.ok h.sm k b r c).1;obtain⟨d,e,f,g⟩:=h.nr;have w:=q.len;have E:=q.sum;have G:=q.pr;exact⟨⟨by lia,by lia,by lia,by lia⟩,w,by lia⟩
abbrev E_(W:Wy)(a:a0a)(k:Nat):D:= .l<|(io W a k).map tN
theorem Gs{w cs:a0a}{W:Wy}{E:D}(h:q_ K a w cs W E):(gb K a).1 [nL w,nL cs,E] β=on (.ok<|.l<|(Ph<|VX cs+1).map<|E_ W w,β):=by
 have M:=h.c6;unfold gb
 dsimp only
 refine aF ?_;refine aE (d:=E_ W w 0) (β1:=β) (ag (ac (ag rfl rfl) rfl) zC) ?_;refine yA (ds:=[E_ W w 0]) (β1:=β) rfl (show 1<=Ps by decide) ?_;refine cG (ds:=aW 0<|VX cs) (β1:=β) (bJ (ac (ag rfl<|cW (r:=VX cs)<|by rw[OY,OY]) rfl)<|y2 (by lia)<|by lia) (λk G b=>β=b/\∃c e,G=[on<|.h<|nL w,on<|.h<|nL cs,on<|.h<|E,on<|.h<|E_ W w k,on<|.u<|(Ph<|k+1).map<|E_ W w,c,e]) ⟨rfl,OZ,OZ,rfl⟩ ?_ ?_
 .rintro k d G _ hd ⟨rfl,c,e,rfl⟩
  obtain⟨f,rfl⟩:=uB hd;refine⟨_,rfl,aE (d:=E_ W w<|k+1) (β1:=β) ?_<|yB (cs:=(Ph<|k+1).map<|E_ W w) (d:=E_ W w<|k+1) rfl rfl (PZ (show _<1000 by rw[OY,PY];lia)<|by decide)<|aq<|aE (d:=E_ W w<|k+1) (β1:=β) rfl<|aT ⟨rfl,on<|.h<|.n (k:Int),on<|.h<|E_ W w<|k+1,?_⟩⟩
  .refine lR (io W w k) tN (λr=>(W k r).map λv=>tN<|less r v) rfl (λr i=>⟨[on<|tN r,OZ,on<|nL cs,on<|E,on<|.n (k:Int)],rfl,?_⟩) ?_
   .obtain⟨g,j,_⟩:=h.at (by lia) i
    exact DM _ tN _ (dD (ah rfl<|h.fl f g j) rfl) (λv l=>⟨[on<|tN r,on<|tN v,on<|nL cs,on<|E,on<|.n (k:Int)],rfl,ah rfl<|uC (eD<|(h.ok k r).subset l) g.2.1⟩)
   .rw[<-JK h.ok h.sm h.nr.1 h.wd f]
    unfold nwI;rw[SM];simp only[Pp];rfl
  .rw[S5 (n:=k+1),Qc];rfl
 .rintro G _ ⟨rfl,c,e,rfl⟩
  rw[mv];exact aq<|aM rfl ⟨rfl,rfl⟩
theorem pT{i:Nat}{w:a0R}{f:FD}{c d z:D}{h:G}{a:Ds}{β β1:Bg}{Q:a0z}(b:(vw a).getD i OZ=on c)(e:f (vw a) β=on (.ok d,β1))(g:w c d=on z)(k:Gw h (a.set i<|on<|.h z) β1 Q):Gw (aw (zY i w f) h) a β Q:=c8 (by unfold zY;simp only[b,e,g,Rj]) k
theorem Ld{m i:Nat}{d:D}(h:(aW 2 m)[i]?=on d):i<m/\d= .n ((i+2:Nat):Int):=by
 obtain⟨x,b,rfl⟩:=cQ (f:=λ(i:Nat)=>D.n<|2+(i:Int)) (xs:=Ph m) h;have c:=(Pl.mp b).1;rw[PY]at c;rw[QU c]at b;cases b;exact⟨c,by congr 1;lia⟩
theorem Lb(a:Int)(m:Nat):VX (aW a m)=m:=by unfold aW;rw[OY,PY]
theorem smN{n:Nat}(h:n<=2^11):n<2^1000:=ff h (by decide)
theorem Ka(n:Nat):dc (n-1+1)=dc n:=by cases n<;>rfl
theorem yg{n:Nat}(h:n<=40):(hG K a).1 [.n (n:Int)] β=on (.ok<|.n ((dc n:Nat):Int),β):=by
 unfold hG
 dsimp only
 refine aF ?_;refine aE (d:= .n 1) (β1:=β) rfl ?_;refine cG (ds:=aW 2<|n-1) (β1:=β) (bJ (ac rfl<|ac (dq rfl rfl rfl) rfl)<|rg2<|by lia) (λi w b=>β=b/\∃c,w=[on<|.h<|.n (n:Int),on<|.h<|.n ((dc (i+1):Nat):Int),c]) ⟨rfl,OZ,rfl⟩ ?_ ?_
 .rintro i d w _ hd ⟨rfl,c,rfl⟩
  obtain⟨e,rfl⟩:=Ld hd;exact⟨_,rfl,aq<|pT rfl rfl (eL (ff (wG<|by lia)<|by decide)<|smN<|by lia)<|aT ⟨rfl,_,rfl⟩⟩
 .rintro w _ ⟨rfl,c,rfl⟩
  rw[Lb,Ka];exact aq<|aM rfl ⟨rfl,rfl⟩
def wayN(l:a0a):Nat:=dc l.sum/pr (l.map dc)
theorem M3{l:a0a}{d:D}(h:Sq l d):pY [d]=on (.n ((l.sum:Nat):Int)):=by
 rw[<-jJ];rcases h with rfl|rfl
 .exact KQ _
 .exact KP _
theorem mG(l:a0a):gm [nL l]=on (.n ((l.sum:Nat):Int)):=by rw[<-jJ];exact fA _
theorem IB{l:a0a}{i n:Nat}(h:l.sum<=40)(a:l[i]?=on n):n<=40:=Pk (fF<|PD a) h
theorem xf{l:a0a}{cd:D}(G:Sq l cd)(h:l.sum<=40):(qj K a).1 [cd] β=on (.ok<|.n ((wayN l:Nat):Int),β):=by
 unfold qj
 dsimp only
 refine aF ?_;refine cG (ds:=(nI l).map D.n) (β1:=β) (dD rfl G.seq) (λi w c=>β=c/\∃b,w=[on<|.h cd,b,OZ]) ⟨rfl,OZ,rfl⟩ ?_ ?_
 .rintro i d w _ hd ⟨rfl,b,rfl⟩
  obtain⟨n,E,rfl⟩:=uG hd;exact⟨_,rfl,aq<|gj (β1:=β) (hO<|dq rfl rfl (by show on (D.c<|decide ((n:Int)<0))=_;rw[P8<|by lia]))<|bp<|aT ⟨rfl,_,rfl⟩⟩
 rintro w _ ⟨rfl,b,rfl⟩;refine aE (d:= .n ((dc l.sum:Nat):Int)) (β1:=β) (ah (ac (ag rfl<|M3 G) rfl)<|yg h) ?_;refine cG (ds:=(nI l).map D.n) (β1:=β) (dD rfl G.seq) (λi w c=>β=c/\∃b,w=[on<|.h cd,b,on<|.h<|.n ((dc l.sum/pr ((l.take i).map dc):Nat):Int)]) ⟨rfl,b,by rw[List.take_zero,RX,Ls,Nat.div_one];rfl⟩ ?_ ?_
 .rintro i d w _ hd ⟨rfl,b,rfl⟩
  obtain⟨n,E,rfl⟩:=uG hd;refine⟨_,rfl,aq<|pT rfl (ah rfl<|yg<|IB h E) (qT (kT n)<|ff (wG<|IB h E)<|by decide)<|aT ⟨rfl,on<|.h<|.n (n:Int),?_⟩⟩;rw[rT E,Yt];rfl
 .rintro w _ ⟨rfl,b,rfl⟩
  rw[qw,Tv];exact aq<|aM rfl ⟨rfl,rfl⟩
theorem AT{l:a0a}(h:l.sum<=40):wayN l<=2^160:=Pk (TX _ _)<|wG h
theorem u4(l:a0a):wayN l=mu l:=L0 l
theorem zt{l:a0a}(h:l.sum<=40):mu l<=2^160:=by rw[<-u4];exact AT h
theorem yP{a:Type}{l:List a}{i:Nat}{x:a}(f:a->Nat)(h:l[i]?=on x):L2.Nt.sm (l.take<|i+1) f=L2.Nt.sm (l.take i) f+f x:=by
 rw[U6,h,vo];rfl
abbrev cv(W:Wy)(m k:Nat)(r:a0a):D:= .t [.n ((y1 W (m-k) k r:Nat):Int),.n ((vr W (m-k) k r:Nat):Int)]
abbrev p_(W:Wy)(a:a0a)(m k:Nat):D:= .dct O8 ((io W a k).map λr=>((0:Int),nI r))<|(io W a k).map<|cv W m k
theorem DY{f:a0a->D}{u:a0a}:∀{L:a0l},u∈L->la (L.map λr=>((0:Int),nI r)) (L.map f) (0,nI u)=on (f u)
 |r::L,h=>by
  unfold la;rw[Pi,Pi,Rl,RO];by_cases q:r=u
  .rw[q,Pn rfl];rfl
  .rw[P8 λe=>q<|gB (RM.mp e).2]
   exact DY<|(Pr.mp h).resolve_left λe=>q e.symm
theorem MQ{W:Wy}{a u:a0a}{m k:Nat}(h:u∈io W a k):G4 (p_ W a m k) (tN u)=on (cv W m k u):=by
 show(dR O8<|dK O8 (0,nI u)).bind _=_;rw[gY λ_=>rfl];exact DY h
theorem zq{w cs r:a0a}{W:Wy}{M:D}{k:Nat}(h:q_ K a w cs W M)(o:k<VX cs)(p:r∈io W w k):(iN K a).1 [tN r,.l<|(W k r).map tN,p_ W w (VX cs)<|k+1] β=on (.ok<|cv W (VX cs) k r,β):=by
 obtain⟨q,u,t⟩:=h.at (by lia) p;unfold iN
 dsimp only
 refine aF ?_;refine aE (d:= .n 0) (β1:=β) rfl<|aE (d:= .n 0) (β1:=β) rfl ?_;refine cG (ds:=(W k r).map tN) (β1:=β) rfl (λi E e=>β=e/\∃f g j,E=[on<|.h<|tN r,on<|.h<|.l<|(W k r).map tN,on<|.h<|p_ W w (VX cs)<|k+1,on<|.h<|.n ((L2.Nt.sm ((W k r).take i) λv=>y1 W (VX cs-(k+1)) (k+1) (less r v):Nat):Int),on<|.h<|.n ((L2.Nt.sm ((W k r).take i) λv=>mu v*vr W (VX cs-(k+1)) (k+1) (less r v):Nat):Int),f,g,j]) ⟨rfl,OZ,OZ,OZ,rfl⟩ ?_ ?_
 .rintro i d E _ hd ⟨rfl,f,g,j,rfl⟩
  obtain⟨v,l,rfl⟩:=cQ hd;have G:=PD l;have m:less r v∈io W w (k+1):=kO.mpr ⟨r,p,v,G,rfl⟩;have b:=(h.ok k r).subset G;have P:=(iu h.ok h.sm (k+1) o _ m).2;have c:v.sum<=40:=Pk (eD b).sum t;have n:=(h.at o m).2.2;refine⟨_,rfl,k6 (d:=cv W (VX cs) (k+1)<|less r v) (β1:=β) (dq rfl (ah rfl<|uC (eD b) q.2.1)<|MQ m) rfl<|pT rfl rfl rfl<|aq<|pT rfl (dq (ah rfl<|xf (.inr rfl) c) rfl<|eL (ff (AT c)<|by decide)<|ff (Pk (wK h.ok _ _ _<|by lia)<|by rw[qX _ _ P];exact zt n)<|by decide) rfl<|aT ⟨rfl,on<|.h<|tN v,on<|.h<|.n ((y1 W (VX cs-(k+1)) (k+1) (less r v):Nat):Int),on<|.h<|.n ((vr W (VX cs-(k+1)) (k+1) (less r v):Nat):Int),?_⟩⟩;rw[yP _ l,yP _ l,u4,Sx,Sx];rfl
 .rintro E _ ⟨rfl,f,g,j,rfl⟩
  rw[OY,Tv];refine aq<|aM (ag rfl eK) ⟨rfl,?_⟩;show RG (D.t [.n ((y1 W (VX cs-k) k r:Nat):Int),.n ((vr W (VX cs-k) k r:Nat):Int)])=_;rw[show VX cs-k=VX cs-(k+1)+1 by lia];rfl
theorem yz{f g:FD}{a:Dn}{k v:D}(b:f a β=on (.ok k,β))(c:g a β=on (.ok v,β)):G8 f g a β=on (.ok [.t [k,v]],β):=by
 unfold G8 M.v;rw[b];simp only[c,M.j7]
theorem wD{a b:Type}(f:a->b)(l:List a):(l.flatMap λx=>[f x])=l.map f:=by
 induction l with
 |nil=>rfl
 |cons x l w=>rw[QJ,w];rfl
theorem v9{rs w:a0a}{W:Wy}{E:D}(h:q_ K a rs w W E){k:Nat}(b:k<=VX w):VX (io W rs k)<=62:=by
 have:=JO h.ok h.sm b;have:=h.wd;lia
theorem dk0{w cs:a0a}{W:Wy}{G:D}(h:q_ K a w cs W G){k:Nat}(b:k<=VX cs){E:a0c}(e:E=(io W w k).map λr=> .t [tN r,cv W (VX cs) k r]):lP O8 E=on (p_ W w (VX cs) k):=by
 refine(yp (kvs:=(io W w k).map λr=>(((0:Int),nI r),cv W (VX cs) k r)) ⟨?_,?_,?_,?_⟩).trans ?_
 .rw[e,Pp];rfl
 .rw[Pp];exact qv (λx y q=>gB (RM.mp q).2)<|wb k
 .rw[OY];exact bq (by have:=v9 h b;lia)
 .rintro p c _
  obtain⟨r,_,rfl⟩:=Pj.mp c;rfl
 .rw[Pp,Pp];rfl
theorem NJ{n:Nat}(h:n<=1000):uy [.n (n:Int)]=on (iT n):=by
 simp only[uy];rw[Pc (by simp only[PV,P9];lia),Ra]
theorem NK{n i:Nat}{d:D}(h:(iT n)[i]?=on d):i<n/\d= .n ((n-1-i:Nat):Int):=by
 obtain⟨x,b,rfl⟩:=cQ (f:=λ(i:Nat)=>D.n<|(n:Int)-1-i) (xs:=Ph n) h;have c:=(Pl.mp b).1;rw[PY]at c;rw[QU c]at b;cases b;exact⟨c,by congr 1;lia⟩
theorem CH{f:Nat->D}{n k:Nat}(h:k<n):((Ph n).map f)[k]?=on (f k):=by rw[O9,QU h];rfl
theorem EV{f:Nat->D}:∀n j,db j ((List.range' j n).map f)=(List.range' j n).map λk=> .t [.n (k:Int),f k]
 |0,_=>rfl
 |n+1,j=>by
  rw[List.range'_succ,Pi,Pi,<-EV n (j+1)];rfl
theorem Jo{f:Nat->D}(m:Nat):((Ph<|m+1).map λj=>f<|m-j).reverse=(Ph<|m+1).map f:=RB (by simp) λi b c=>by
 simp only[Y7,OY,PY]at b;simp only[YS,RC,Sh,OY,PY];congr 1;lia
abbrev MV(W:Wy)(a:a0a)(m:Nat):a0c:=(Ph<|m+1).flatMap λk=>(io W a k).map<|cv W m k
abbrev sC(W:Wy)(rs:a0a)(m:Nat):D:= .dct O6 (kyW W rs<|m+1)<|MV W rs m
theorem dk1{rs cs:a0a}{W:Wy}{E:D}(h:q_ K a rs cs W E){w:a0c}(e:w=(Ph<|VX cs+1).flatMap λ(k:Nat)=>(io W rs k).map λr=> .t [.t [.n (k:Int),tN r],cv W (VX cs) k r]):lP O6 w=on (sC W rs<|VX cs):=by
 refine(yp (kvs:=(Ph<|VX cs+1).flatMap λ(k:Nat)=>(io W rs k).map λr=>(((k:Int),nI r),cv W (VX cs) k r)) ⟨?_,?_,?_,?_⟩).trans ?_
 .rw[e,SM];simp only[Pp];rfl
 .have:=Ew (W:=W) (rs:=rs)<|VX cs+1
  unfold kyW at this;rw[SM];simp only[Pp];exact this
 .refine bq (Pk (oA (n:=62) λk b=>?_) (by have:=h.c6;rw[PY];lia))
  have:=PN.mp b;rw[OY];exact v9 h (by lia)
 .rintro p _ q
  cases q
 .unfold sC kyW
  rw[SM,SM];simp only[Pp];rfl
theorem q8{w cs:a0a}{W:Wy}{E:D}(h:q_ K a w cs W E):(eP K a).1 [nL w,nL cs,E] β=on (.ok<|sC W w<|VX cs,β):=by
 have M:=h.c6;unfold eP
 dsimp only
 refine aF ?_;refine aE (d:= .l<|(Ph<|VX cs+1).map<|E_ W w) (β1:=β) (ah rfl<|Gs h) ?_;refine aE (d:= .n (VX cs:Int)) (β1:=β) (ag rfl<|cW<|by rw[OY,OY]) ?_;refine aE (d:=p_ W w (VX cs)<|VX cs) (β1:=β) (lR (io W w<|VX cs) tN (λr=>[.t [tN r,.t [.n 1,.n 1]]]) (dD (dq rfl rfl<|dS<|CH<|by lia) rfl) (λr _=>⟨[on<|tN r],rfl,yz rfl<|ag rfl eK⟩)<|dk0 h (Pg _)<|by rw[wD];simp only[cv,UG];rfl) ?_;refine yA (ds:=[p_ W w (VX cs)<|VX cs]) (β1:=β) rfl (show 1<=Ps by decide) ?_;refine cG (ds:=iT<|VX cs) (β1:=β) (bJ rfl<|NJ<|by lia) (λi G b=>β=b/\∃c e,G=[on<|.h<|nL w,on<|.h<|nL cs,on<|.h<|E,on<|.h<|.l<|(Ph<|VX cs+1).map<|E_ W w,on<|.h<|.n (VX cs:Int),on<|.h<|p_ W w (VX cs)<|VX cs-i,on<|.u<|(Ph<|i+1).map λj=>p_ W w (VX cs)<|VX cs-j,c,e]) ⟨rfl,OZ,OZ,rfl⟩ ?_ ?_
 .rintro i d G _ hd ⟨rfl,c,e,rfl⟩
  obtain⟨o,rfl⟩:=NK hd;have g:VX cs-1-i<VX cs:=by lia
  have m:VX cs-i=(VX cs-1-i)+1:=by lia
  have l:VX cs-(i+1)=VX cs-1-i:=by lia
  rw[m];refine⟨_,rfl,aE (d:=p_ W w (VX cs)<|VX cs-1-i+1) (β1:=β) rfl<|aE (d:=p_ W w (VX cs)<|VX cs-1-i) (β1:=β) (lR (io W w<|VX cs-1-i) tN (λr=>[.t [tN r,cv W (VX cs) (VX cs-1-i) r]]) (dD (dq rfl rfl<|dS<|CH<|by lia) rfl) (λr f=>⟨[on<|tN r,on<|nL cs,on<|E,on<|.n ((VX cs-1-i:Nat):Int),on<|p_ W w (VX cs)<|VX cs-1-i+1],rfl,yz rfl<|ah (ac rfl<|ac (ah rfl<|h.fl g (h.at (by lia) f).1 (h.at (by lia) f).2.1) rfl)<|zq h g f⟩)<|dk0 h (by lia)<|wD _ _)<|aq<|yB (cs:=(Ph<|i+1).map λj=>p_ W w (VX cs)<|VX cs-j) (d:=p_ W w (VX cs)<|VX cs-1-i) rfl rfl (PZ (show _<1000 by rw[OY,PY];lia)<|by decide)<|aT ⟨rfl,on<|.h<|.n ((VX cs-1-i:Nat):Int),on<|.h<|p_ W w (VX cs)<|VX cs-1-i+1,?_⟩⟩;rw[S5 (n:=i+1),Qc,l];show _=[_,_,_,_,_,_,on<|Sl.u<|_++[p_ W w (VX cs)<|VX cs-(i+1)],_,_];rw[l];rfl
 .rintro G _ ⟨rfl,c,e,rfl⟩
  rw[show(iT<|VX cs).length=VX cs by unfold iT;rw[OY,PY]];refine aq<|aM (lR (Ph<|VX cs+1) (λk=> .t [.n (k:Int),p_ W w (VX cs) k]) (λ(k:Nat)=>(io W w k).map λr=> .t [.t [.n (k:Int),tN r],cv W (VX cs) k r]) (bJ (ac (dq (y:= .n<|-1) rfl rfl rfl) rfl) ?_) (λk _=>⟨[on<|.n (k:Int),on<|p_ W w (VX cs) k,OZ,OZ],rfl,?_⟩)<|dk1 h rfl) ⟨rfl,rfl⟩
  .show on (db 0 _)=_
   rw[Jo,List.range_eq_range',EV]
  .refine(N1 (io W w k) (λr=> .t [tN r,cv W (VX cs) k r]) (λr=>[.t [.t [.n (k:Int),tN r],cv W (VX cs) k r]]) ?_ (λr _=>⟨[on<|.n (k:Int),on<|p_ W w (VX cs) k,on<|tN r,on<|cv W (VX cs) k r],rfl,yz (ag rfl eK) rfl⟩)).trans (by rw[wD])
   show on (RG<|SU _ _ _,β)=_;rw[List.zipWith_map_left,List.zipWith_map_right,ZT];rfl
theorem EK{r c:Nat}{ba:LI}(h:i4 r c ba):VX (gI ba)=r:=by rw[OY,h.1]
theorem tp_e{r c:Nat}{w:LI}(E:i4 r c w)(r0:1<=r)(r1:r<=30)(K:c<=30){δ:Dn}(h:δ.getD 0 OZ=on (bF w)):cS 1 [0] (bV dM<|aa (aB fj<|aa (f2 g8 (ad 0)<|fC<|.n 0)<|am)<|am) (hV 0) (λ_=>M.j7 O6) (lg<|cS 1 [0] (fc<|ad 1) (hV 0) (λ_=>M.j7 O6)<|lg<|f2 g8 (ad 0)<|ad 1) δ β=on (.ok<|bF<|tp c w,β):=by
 obtain⟨b,d,g⟩:=E.at (i:=0) (by lia);have k:(gI w)[0]?=on (b.map D.n):=by rw[O9,d];rfl
 have o:aB fj (aa (f2 g8 (ad 0)<|fC<|.n 0)<|am) δ β=on (.ok<|.n (c:Int),β):=ag (ac (x:= .l<|b.map D.n) (dq (x:=bF w) (Hl h) rfl<|oq k) rfl) (cW<|by rw[OY,g]);have e:=bw (nv:=1) (cy:=[0]) (it:=bV dM<|aa (aB fj<|aa (f2 g8 (ad 0)<|fC<|.n 0)<|am)<|am) (tg:=hV 0) (f:=cS 1 [0] (fc<|ad 1) (hV 0) (λ_=>M.j7 O6)<|lg<|f2 g8 (ad 0)<|ad 1) (δ:=δ) (β:=β) (Ph c) (λi=>D.n<|0+(i:Int)) (λj=>D.l<|w.map λa=>D.n<|a.getD j 0) (bJ (ds:=aW 0 c) (ac o rfl)<|y2 (by lia)<|by lia) ?_ (bq<|by rw[PY];lia)
 .rw[e]
  unfold tp z_;show _=on (RG<|D.l<|QV D.l<|QV _<|QV _ _,β);rw[Pp,Pp];congr 4;refine P4 λj _=>?_;show _=D.l ((w.map λa=>a.getD j 0).map D.n);rw[Pp];rfl
 .intro j p
  have q:=PN.mp p;have m:ll 1 [0] δ=[OZ,on<|bF w]:=by
   unfold ll;simp only[Pi,RX,h];rfl
  refine⟨[on<|.n<|0+(j:Int),on<|bF w],by rw[m];rfl,?_⟩;have G:(gI w).map D.l=w.map λa=>D.l (a.map D.n):=by rw[Pp];rfl
  refine bw (nv:=1) (cy:=[0]) w (λa=>D.l<|a.map D.n) _ (by show on (RG<|(gI w).map D.l,β)=_;rw[G]) (λa t=>⟨_,rfl,dq (x:= .l<|a.map D.n) (y:= .n<|0+(j:Int)) rfl rfl ?_⟩) (bq<|by rw[E.1];lia);have u:=E.2 a t;obtain⟨x,n⟩:=IA (l:=a) (i:=j) (by lia);rw[T9];refine dS ?_;rw[O9,n,O5,n];rfl
theorem zB{r c:Nat}{w:LI}(D:i4 r c w)(r0:1<=r)(r1:r<=30)(E:c<=30):(ql K a).1 [bF w] β=on (.ok<|bF<|tp c w,β):=
 aF (aq<|aM (tp_e D r0 r1 E rfl) ⟨rfl,rfl⟩)
noncomputable abbrev iL(a:a0e):D:= .l<|a.map D.n
theorem BM{w:LI}(h:VX w<=1000){f:FD}{δ:Dn}(e:f δ β=on (.ok<|bF w,β)):cS 1 [] (fc f) (hV 0) (λ_=>M.j7 O6) (lg<|aB gm<|aa (ad 0)<|am) δ β=on (.ok<|iL<|w.map Q6,β):=by
 have E:(gI w).map D.l=w.map λa=>D.l (a.map D.n):=by rw[Pp];rfl
 have:=bw (nv:=1) (cy:=[]) (it:=fc f) (tg:=hV 0) (f:=aB gm<|aa (ad 0)<|am) (δ:=δ) (β:=β) w (λa=>D.l<|a.map D.n) (λa=>D.n a.sum) (by rw[<-E];exact dD e rfl) (λa _=>⟨_,rfl,ag rfl<|fA a⟩)<|bq h;rw[this];show _=on (RG<|D.l<|(w.map Q6).map D.n,β);rw[Pp];rfl
theorem qh{ba:LI}(h:VX ba<=1000):(fP K a).1 [bF ba] β=on (.ok<|iL<|ba.map Q6,β):=
 aF (aq<|aM (BM h rfl) ⟨rfl,rfl⟩)
theorem lZ{r c:Nat}{ba:LI}(w:i4 r c ba)(r0:1<=r)(r1:r<=30)(D:c<=30):(dN K a).1 [bF ba] β=on (.ok<|iL<|(tp c ba).map Q6,β):=
 aF (aq<|aM (BM (by rw[(rE (d:=(0:Int)) (c:=c) w.1).1];lia)<|ah rfl<|zB w r0 r1 D) ⟨rfl,rfl⟩)
noncomputable def gp(G:LI)(i j:Nat):Int:=(G.getD i []).getD j 0
theorem ON{G:LI}{i j:Nat}{a:a0e}{x:Int}(b:G[i]?=on a)(c:a[j]?=on x):gp G i j=x:=by
 unfold gp;simp only[O5,b,c,Zv]
theorem EI{G:LI}{i j:Nat}{a:a0e}(b:G[i]?=on a):a.getD j 0=gp G i j:=by
 unfold gp;rw[O5 (l:=G),b];rfl
theorem Fo:∀(a:a0e),S (VX a) (λj=>a.getD j 0)=a.sum:=λa=>by
 unfold S;congr 1;refine RB (by simp) λi c b=>?_;rw[RC,Sh,O5,O4 b];rfl
theorem M5{r c i:Nat}{A:LI}(d:i4 r c A)(e:i<r):S c (gp A i)=(A.map Q6).getD i 0:=by
 obtain⟨f,b,g⟩:=d.at e;rw[O5,O9,b];show _=f.sum;rw[<-Fo,g];exact dU λj _=>(EI b).symm
theorem M6{r c j:Nat}{A:LI}(b:i4 r c A)(f:j<c):S r (λp=>gp A p j)=((tp c A).map Q6).getD j 0:=by
 have e:(tp c A)[j]?=on (A.map λa=>a.getD j 0):=by
  show((Ph c).map λj=>A.map λa=>a.getD j 0)[j]?=_;rw[O9,QU f];rfl
 rw[O5,O9,e];show _=(A.map λa=>a.getD j 0).sum;rw[<-Fo,OY,b.1];refine dU λp g=>?_;obtain⟨h,d,i⟩:=b.at g;rw[O5 (l:=A.map _),O9,d];exact(EI d).symm
theorem tM{w:a0e}{b:a0a}(c:∀i∈b,i<VX w)(d:VX b<=1000):(mx K a).1 [iL w,nL b] β=on (.ok<|.n<|qu w b,β):=by
 unfold mx
 dsimp only
 refine aF<|aq<|aM (ag (ac (x:=iL<|b.map λi=>w.getD i 0) ?_ rfl)<|fA _) ⟨rfl,rfl⟩;have:=bw (nv:=1) (cy:=[0]) (it:=fc<|ad 1) (tg:=hV 0) (f:=f2 g8 (ad 1)<|ad 0) (δ:=[on<|iL w,on<|nL b]) (β:=β) b (λi=>D.n (i:Int)) (λi=>D.n<|w.getD i 0) (by show on (RG<|(nI b).map D.n,β)=_;rw[Pp];rfl) (λi e=>⟨_,rfl,dq rfl rfl<|Ij<|c i e⟩)<|bq d;refine this.trans ?_;show _=on (RG<|D.l<|(b.map λi=>w.getD i 0).map D.n,β);rw[Pp];rfl
theorem tU{r c j:Nat}{w:a0e}{b:LP}{g:a0a}(E:i4 r c b)(hc:VX w=c)(k:r<=1000)(l:j<c):(dy K a).1 [iL w,bO b,nL g,.n (j:Int)] β=on (.ok<|.n<|fJ w b r g j,β):=by
 unfold dy
 dsimp only
 refine aF ?_;refine aE (d:=iL<|((Ph r).filter λi=>!decide (i∈g)).map λi=>(bI b i j).1) (β1:=β) ?_ ?_
 .have m:VX ((gP b).map D.l)=r:=by rw[OY,OY,E.1]
  have:=lQ (nv:=2) (cy:=[2,3]) (it:=HV<|aa (ad 1) am) (tg:=Y_<|f7 (hV 0)<|f7 (hV 1) k9) (tt:=fB<|f2 (inD O6) (ad 0)<|ad 2) (f:=f2 g8 (f2 g8 (ad 1)<|ad 3)<|fC<|.n 0) (δ:=[on<|iL w,on<|bO b,on<|nL g,on<|.n (j:Int),OZ]) (β:=β) (Ph r) (λi=>D.t [.n (i:Int),.l<|(b.getD i []).map pD]) (λi=>D.n (bI b i j).1) (λi=>!decide (i∈g)) ?_ (λi h=>⟨_,rfl,hO<|dq rfl rfl wr,λ_=>dq (dq rfl rfl (qD E (PN.mp h) l).2) rfl zK⟩) (bq<|by rw[PY];exact k)
  .refine this.trans ?_
   show _=on (RG<|D.l<|(((Ph r).filter λi=>!decide (i∈g)).map λi=>(bI b i j).1).map D.n,β);rw[Pp];rfl
  .show on (RG<|db 0<|(gP b).map D.l,β)=_
   rw[oV,m];congr 3;refine P4 λi h=>?_;rw[Qu];congr 3;obtain⟨e,_⟩:=E.getD<|PN.mp h;rw[O5,O9,O9,e];rfl
 refine aq<|aM (dq (x:= .n<|w.getD j 0) (dq rfl rfl<|Ij<|by lia) (ag rfl<|fA _) rfl) ⟨rfl,?_⟩;have e:(Ph r).map (λi=>if i∈g then(0:Int)else(bI b i j).1)=(Ph r).map (λx=>if(!decide (x∈g))=O6 then(bI b x j).1 else 0):=P4 λi _=>by by_cases q:i∈g<;>simp[q]
 unfold fJ S;rw[yf,e]
theorem um{r c j:Nat}{b:LP}{d:a0a}(w:i4 r c b)(e:∀i∈d,i<r)(k:VX d<=1000)(g:j<c):(dz K a).1 [bO b,nL d,.n (j:Int)] β=on (.ok<|.n<|gi b d j,β):=by
 unfold dz
 dsimp only
 refine aF<|aq<|aM (ag (ac (x:=iL<|d.map λi=>(bI b i j).2) ?_ rfl)<|fA _) ⟨rfl,rfl⟩;have:=bw (nv:=1) (cy:=[0,2]) (it:=fc<|ad 1) (tg:=hV 0) (f:=f2 g8 (f2 g8 (f2 g8 (ad 1)<|ad 0)<|ad 2)<|fC<|.n 1) (δ:=[on<|bO b,on<|nL d,on<|.n (j:Int)]) (β:=β) d (λi=>D.n (i:Int)) (λi=>D.n (bI b i j).2) (by show on (RG<|(nI d).map D.n,β)=_;rw[Pp];rfl) (λi h=>⟨_,rfl,dq (dq (dq rfl rfl (qD w (e i h) g).1) rfl (qD w (e i h) g).2) rfl sd⟩)<|bq k;refine this.trans ?_;show _=on (RG<|D.l<|(d.map λi=>(bI b i j).2).map D.n,β);rw[Pp];rfl
theorem tJ{r c:Nat}{w:a0e}{b:LP}{d e:a0a}(E:i4 r c b)(hc:VX w=c)(k:r<=1000)(h:c<=1000)(l:∀i∈d,i<r)(m:VX d<=1000):(mw K a).1 [iL w,bO b,nL d,nL e] β=on (.ok<|.n<|uz w b r c d e,β):=by
 unfold mw
 dsimp only
 refine aF<|aq<|aM (ag (ac (x:=iL ((Ph c).map λj=>if j∈e then fJ w b r d j else gi b d j)) ?_ rfl)<|fA _) ⟨rfl,rfl⟩;have:=bw (nv:=1) (cy:=[3,0,1,2]) (it:=bV dM<|aa (aB fj<|aa (ad 0)<|am)<|am) (tg:=hV 0) (f:=fIf (fB<|f2 (inD O8) (ad 0)<|ad 1) (aO (dy K a).1<|aa (ad 2)<|aa (ad 3)<|aa (ad 4)<|aa (ad 0)<|am)<|aO (dz K a).1<|aa (ad 3)<|aa (ad 4)<|aa (ad 0)<|am) (δ:=[on<|iL w,on<|bO b,on<|nL d,on<|nL e]) (β:=β) (Ph c) (λj=>D.n<|0+(j:Int)) (λj=>D.n (if j∈e then fJ w b r d j else gi b d j)) (bJ (ds:=aW 0 c) (ac (ag rfl<|cW<|by rw[OY,hc]) rfl)<|y2 (by lia)<|by lia) (λj n=>⟨[on<|.n (j:Int),on<|nL e,on<|iL w,on<|bO b,on<|nL d],by rw[T9];rfl,?_⟩) (bq<|by rw[PY];exact h)
 .refine this.trans ?_
  show _=on (RG<|D.l<|((Ph c).map λj=>if j∈e then fJ w b r d j else gi b d j).map D.n,β);rw[Pp];rfl
 .have g:=PN.mp n
  by_cases q:j∈e
  .rw[Pc q]
   exact Hm (hO<|dq rfl rfl<|by rw[wr];simp[q])<|ah rfl<|tU E hc k g
  .rw[Pd q]
   exact Hn (hO<|dq rfl rfl<|by rw[wr];simp[q])<|ah rfl<|um E l m g
theorem tP{r c:Nat}{w:a0e}{b:LP}{d:a0a}(E:i4 r c b)(hc:VX w=c)(k:r<=1000)(e:c<=1000)(l:∀i∈d,i<r)(m:VX d<=1000):(kD K a).1 [iL w,bO b,nL d] β=on (.ok<|nL<|mF w b r c d,β):=by
 unfold kD
 dsimp only
 refine aF ?_;have h:=lQ (nv:=1) (cy:=[0,1,2]) (it:=bV dM<|aa (aB fj<|aa (ad 0)<|am)<|am) (tg:=hV 0) (tt:=fB<|f2 (ltD) (aO (dy K a).1<|aa (ad 1)<|aa (ad 2)<|aa (ad 3)<|aa (ad 0)<|am)<|aO (dz K a).1<|aa (ad 2)<|aa (ad 3)<|aa (ad 0)<|am) (f:=ad 0) (δ:=[on<|iL w,on<|bO b,on<|nL d]) (β:=β) (Ph c) (λj=>D.n<|0+(j:Int)) (λj=>D.n (j:Int)) (λj=>decide (fJ w b r d j<gi b d j))
  (bJ (ds:=aW 0 c) (ac (ag rfl<|cW<|by rw[OY,hc]) rfl)<|y2 (by lia)<|by lia)
  (λj g=>⟨[on<|.n (j:Int),on<|iL w,on<|bO b,on<|nL d],by rw[T9];rfl,hO<|dq (ah rfl<|tU E hc k<|PN.mp g) (ah rfl<|um E l m<|PN.mp g) rfl,λ_=>rfl⟩) (bq<|by rw[PY];exact e)
 refine aq<|aM h ⟨rfl,?_⟩;show RG (D.l<|(nI<|mF w b r c d).map D.n)=_;rw[Pp];rfl
theorem La{n i:Nat}{d:D}(h:(aW 0 n)[i]?=on d):i<n/\d= .n (i:Int):=by
 obtain⟨x,b,rfl⟩:=cQ (f:=λ(i:Nat)=>D.n<|0+(i:Int)) (xs:=Ph n) h;have c:=(Pl.mp b).1;rw[PY]at c;rw[QU c]at b;cases b;exact⟨c,by rw[T9]⟩
theorem q9{n:Nat}(w:n<=6):(my K a).1 [.n (n:Int)] β=on (.ok<|.l<|(s0 n).map nL,β):=by
 unfold my
 dsimp only
 refine aF ?_;refine aE (d:= .l [.l []]) (β1:=β) (ag (ac (ag rfl lst0) rfl) zC) ?_;refine cG (ds:=aW 0 n) (β1:=β) (bJ rfl<|y2 (by lia)<|by lia) (λi δ b=>β=b/\∃c,δ=[on<|.h<|.n (n:Int),on<|.h<|.l<|(s0 i).map nL,c]) ⟨rfl,OZ,rfl⟩ ?_ ?_
 .rintro i d δ _ hd ⟨rfl,c,rfl⟩
  obtain⟨g,rfl⟩:=La hd;have j:VX (s0 i)<=64:=by rw[yu];exact Pk (SB (by decide) (show i<=6 by lia)) (by decide)
  refine⟨[on<|.h<|.n (n:Int),on<|.h<|.l<|(s0 i).map nL,on<|.h<|.n (i:Int)],rfl,aq<|aE (d:= .l<|(s0<|i+1).map nL) (β1:=β) ?_<|aT ⟨rfl,_,rfl⟩⟩;have h:=bw (nv:=1) (cy:=[2]) (it:=fc<|ad 1) (tg:=hV 0) (f:=f2 gF (ad 0)<|aB dZ<|aa (ad 1)<|am) (δ:=vw [on<|.h<|.n (n:Int),on<|.h<|.l<|(s0 i).map nL,on<|.h<|.n (i:Int)]) (β:=β) (s0 i) nL (λl=>nL<|l++[i]) rfl (λl e=>⟨[on<|nL l,on<|.n (i:Int)],rfl,by
   have k:VX l<=i:=by have:=(jl i l e).length_le;rwa[PY]at this
   refine dq rfl (ag rfl zC)<|(yy ?_).trans ?_
   .rw[OY,OY,QO];lia
   .simp only[nL,nI,Qc,Pi,RX]⟩) (bq<|by lia)
  refine dq rfl h<|(yy ?_).trans ?_
  .rw[OY,OY];lia
  .rw[s0,Qc,Pp];rfl
 .rintro δ _ ⟨rfl,c,rfl⟩
  rw[show(aW 0 n).length=n by unfold aW;rw[OY,PY]];exact aq<|aM rfl ⟨rfl,rfl⟩
theorem E5{r:Nat}{b:a0a}(h:b∈s0 r):(∀i∈b,i<r)/\VX b<=r:=⟨λi c=>PN.mp<|(jl r b h).subset c,by have:=(jl r b h).length_le;rwa[PY]at this⟩
theorem MK{r c:Nat}{E w:a0e}{b:LP}(P:i4 r c b)(l:VX E=r)(hc:VX w=c)(m:r<=6)(n:c<=6)(V:∀X Y,0<=slB E w b r c X Y):(bW K a).1 [iL E,iL w,bO b] β=on (.ok .o,β):=by
 unfold bW
 dsimp only
 refine aF<|aq<|cG (ds:=(s0 r).map nL) (β1:=β) (dD (ah (ac (ag rfl<|cW (r:=r)<|by rw[OY,l]) rfl)<|q9 m) rfl) (λi G f=>β=f/\∃g h,G=[on<|.h<|iL E,on<|.h<|iL w,on<|.h<|bO b,g,h]) ⟨rfl,OZ,OZ,rfl⟩ ?_ ?_
 .rintro i d G _ hd ⟨rfl,g,h,rfl⟩
  obtain⟨e,p,rfl⟩:=cQ hd;have S:=PD p;obtain⟨k,q⟩:=E5 S;refine⟨_,rfl,aE (d:=nL<|mF w b r c e) (β1:=β) (ah rfl<|tP P hc (by lia) (by lia) k<|by lia) ?_⟩;refine aq<|gj (hO<|dq (ah rfl<|tM (by rw[l];exact k)<|by lia) (ah rfl<|tJ P hc (by lia) (by lia) k<|by lia) ?_)<|bp<|aT ⟨rfl,_,_,rfl⟩;have o:=V (λi=>decide (i∈e)) (λj=>decide (j∈mF w b r c e));have M:(mF w b r c e).Sublist (Ph c):=Wc;rw[<-KZ (jl r e S) M]at o;show on (D.c<|decide _)=_;rw[P8<|by lia]
 .rintro G _ ⟨rfl,g,h,rfl⟩
  exact aT ⟨rfl,rfl⟩
theorem IY{r c:Nat}{a:LI}{b:LP}(w:i4 r c a)(m:i4 r c b)(G:Kp a b)(X Y:Nat->Bool):0<=slB (a.map Q6) ((tp c a).map Q6) b r c X Y:=by
 refine Jg (g:=gp a) (λi f j h=>?_) (λi f=>(M5 w f).symm) (λj h=>(M6 w h).symm) X Y;obtain⟨D,k,n⟩:=w.at f;have E:=oG (l:=D) (i:=j) (d:=0) (by lia);obtain⟨e,l⟩:=m.getD f;have K:=oG (l:=b.getD i []) (i:=j) (d:=((0,0):Int×Int)) (by lia);rw[ON k E];exact G i j _ _ (m9 k E)<|m9 e K
variable{rs cs:a0a}
theorem qM{g:G}{a:Ds}{o:q0}(h:Gw g a β (λc b=>c=o/\b=β)):g a β=on (o,β):=by
 obtain⟨c,b,e,rfl,rfl⟩:=h;exact e
theorem fS{t:a0p}{d b h:G}{a:Ds}{β1:Bg}{c:Bool}{Q:a0z}(e:t (hE a) β=on (.ok c,β1))(hc:c=O8)(k:Gw (aw b h) a β1 Q):Gw (aw (pa t d b) h) a β Q:=by
 subst hc;exact gj e k
theorem NU{p:Int×Int}(h:wh p):(jC K a).1 [pD p] β=on (.ok .o,β):=by
 obtain⟨b,c,e⟩:=h;unfold jC
 dsimp only
 refine aF ?_;exact k6 (d:=pD p) (β1:=β) rfl rfl<|aq<|fS (nA<|hO<|Fu rfl rfl rfl rfl) (by simp;lia)<|bp<|aT ⟨rfl,rfl⟩
theorem xx{r c:Nat}{b:LP}(g:B_ r c b)(n:r<=1000):(cZ K a).1 [bO b,.n (r:Int),.n (c:Int)] β=on (.ok<|bO b,β):=by
 unfold cZ
 dsimp only
 refine aF ?_;refine gj (β1:=β) (hO<|dq rfl rfl rfl)<|bp ?_;have o:cS 1 [2] (fc<|ad 0) (hV 0) (λ_=>M.j7 O6) (lg<|f2 (jI) (aB fj<|aa (ad 0)<|am)<|ad 1) [on<|bO b,on<|.n (r:Int),on<|.n (c:Int),OZ,OZ] β=on (.ok<|.l<|b.map λ_=>D.c O8,β):=
  bw (nv:=1) (cy:=[2]) b (λw=>D.l<|w.map pD) _ (by show on _=_;rw[Pp];rfl) (λw h=>⟨_,rfl,dq (ag rfl<|cW (r:=c)<|by rw[OY];exact g.shp.2 w h) rfl<|ne_int.trans<|by rw[Pn rfl];rfl⟩) (bq<|by rw[g.shp.1];exact n)
 refine fS (pQ (hO<|dq (ag rfl<|qB (r:=r)<|by rw[OY];exact g.shp.1) rfl<|ne_int.trans<|by rw[Pn rfl];rfl)<|nz (ag (ac o rfl)<|any_map b λ_=>O8) rfl) (by simp)<|bp ?_;refine cG (ds:=(gP b).map D.l) (β1:=β) rfl (λi E e=>β=e/\∃l f,E=[on<|.h<|bO b,on<|.h<|.n (r:Int),on<|.h<|.n (c:Int),l,f]) ⟨rfl,OZ,OZ,rfl⟩ ?_ ?_
 .rintro i d E _ hd ⟨rfl,l,f,rfl⟩
  obtain⟨y,q,rfl⟩:=cQ hd;obtain⟨w,k,rfl⟩:=cQ q;refine⟨_,rfl,aq<|cG (ds:=w.map pD) (β1:=β) rfl (λj E e=>β=e/\∃f,E=[on<|.h<|bO b,on<|.h<|.n (r:Int),on<|.h<|.n (c:Int),on<|.h<|.l<|w.map pD,f]) ⟨rfl,_,rfl⟩ ?_ ?_⟩
  .rintro j d E _ hd ⟨rfl,f,rfl⟩
   obtain⟨p,m,rfl⟩:=cQ hd;exact⟨_,rfl,aq<|eU (ah rfl<|NU<|g.ok w (PD k) p<|PD m)<|aT ⟨rfl,_,rfl⟩⟩
  .rintro E _ ⟨rfl,f,rfl⟩
   exact aT ⟨rfl,_,_,rfl⟩
 .rintro E _ ⟨rfl,l,f,rfl⟩
  exact aq<|aM (bw (nv:=1) (cy:=[]) (gP b) D.l D.l rfl (λx _=>⟨_,rfl,rfl⟩)<|bq<|by rw[OY,g.shp.1];exact n) ⟨rfl,rfl⟩
theorem DN(l:a0a){n:Nat}{δ:Dn}(b:VX l<=1000)(e:δ.getD n OZ=on (nL l)):pG (aB AH<|aa (cS 1 [] (fc<|ad n) (hV 0) (λ_=>M.j7 O6)<|lg<|f2 (ltD) (ad 0)<|fC<|.n 0)<|am) δ β=on (.ok O8,β):=by
 have c:=bw (nv:=1) (cy:=[]) (it:=fc<|ad n) (tg:=hV 0) (f:=f2 (ltD) (ad 0)<|fC<|.n 0) (δ:=δ) (β:=β) (nI l) D.n (λx=>D.c<|decide (x<0)) (dD (Hl e) rfl) (λx _=>⟨_,rfl,rfl⟩) (bq<|by rw[OY];exact b);refine nz (ag (ac c rfl)<|any_map _ _)<|QG on<|ZO.mpr λx d=>?_;obtain⟨n,_,rfl⟩:=Pj.mp d;simp
theorem jM(l:a0a):fj [nL l]=on (.n (VX l:Int)):=cW (by rw[OY,OY])
theorem yq(h:Nt0 rs cs):(jB K a).1 [nL rs,nL cs] β=on (.ok .o,β):=by
 obtain⟨b,c,d,e⟩:=h.nr;have w:=h.c1;have D:=h.c6;unfold jB
 dsimp only
 refine aF ?_;refine fS (nA<|hO<|w9 rfl (ag rfl<|jM rs) rfl) (by simp;lia)<|bp ?_;refine fS (nA<|hO<|w9 rfl (ag rfl<|jM cs) rfl) (by simp;lia)<|bp ?_;refine gj (pQ (DN rs (by lia) rfl)<|DN cs (by lia) rfl)<|bp ?_;refine fS (hO<|dq (ag rfl<|mG rs) (ag rfl<|mG cs) ne_int) (by rw[h.sm];simp)<|bp ?_;exact aq<|fS (hO<|dq (ag rfl<|mG rs) rfl gt_int) (by simp;lia)<|bp<|aT ⟨rfl,rfl⟩
theorem xb(h:B6 rs):(jA K a).1 [nL rs] β=on (.ok .o,β):=by
 obtain⟨g,j,k,e⟩:=h;unfold jA
 dsimp only
 refine aF ?_;refine aE (d:= .n 1) (β1:=β) rfl ?_;refine cG (ds:=(nI rs).map D.n) (β1:=β) rfl (λi w b=>β=b/\∃c,w=[on<|.h<|nL rs,on<|.h<|.n ((pr ((rs.take i).map (·+1)):Nat):Int),c]) ⟨rfl,OZ,rfl⟩ ?_ ?_
 .rintro i d w _ hd ⟨rfl,c,rfl⟩
  obtain⟨n,E,rfl⟩:=uG hd;have f:=fF<|PD E;have l:=Pk (zd rs i) e;refine⟨_,rfl,aq<|pT rfl (dq (z:= .n ((n+1:Nat):Int)) rfl rfl rfl) (eL (smN<|by lia)<|smN<|by lia)<|aT ⟨rfl,on<|.h<|.n (n:Int),?_⟩⟩;rw[rT E];rfl
 .rintro w _ ⟨rfl,c,rfl⟩
  rw[qw,Tv];exact aq<|fS (hO<|dq rfl rfl gt_int) (by simp;lia)<|bp<|aT ⟨rfl,rfl⟩
structure L_ (ba:LI) (B:a0f) (rs cs:a0a):Prop extends Nt0 rs cs where
 shp:i4 (VX rs) (VX cs) ba
 rw1:ba.map Q6=nI rs
 cl1:(tp (VX cs) ba).map Q6=nI cs
 bok:PC (VX rs) (VX cs) B
 kp:Kp ba<|f6 B
theorem fq{r c:Nat}{B:a0f}(h:i4 r c B):i4 r c (f6 B):=h.map
theorem PC.bnd{r c:Nat}{B:a0f}(h:PC r c B):B_ r c (f6 B):=⟨fq h.1,λa e p f=>by
 obtain⟨b,g,rfl⟩:=Pj.mp e;obtain⟨d,i,rfl⟩:=Pj.mp f;have:=h.2 b g d i;exact⟨by show(0:Int)<=(d.1:Int);lia,by show(d.1:Int)<=(d.2:Int);lia,by show(d.2:Int)<=40;lia⟩⟩
theorem L_.nt{ba:LI}{B:a0f}(h:L_ ba B rs cs):q_ K a rs cs (wB B cs) (j0 B):=⟨h.toNt0,yC B cs,λ{β k r} b c e=>sG c (by rw[e];exact h.bok) (by rw[<-h.sm];exact h.nr.2.2.1) b⟩
theorem L_.fit{w:LI}{B:a0f}(h:L_ w B rs cs):(bW K a).1 [nL rs,nL cs,j0 B] β=on (.ok .o,β):=by
 have b:=h.nr.2.1;have D:=h.c6;refine MK (fq h.bok.1) (OY _) (OY _) (by lia) (by lia) λX Y=>?_;rw[<-h.rw1,<-h.cl1];exact IY h.shp (fq h.bok.1) h.kp X Y
theorem Ji{w:LI}{B:a0f}(h:L_ w B rs cs):(cZ K a).1 [j0 B,.n (VX rs:Int),.n (VX cs:Int)] β=on (.ok<|j0 B,β):=xx h.bok.bnd (by have:=h.nr.2.1;lia)
abbrev nFs(B:a0f)(rs cs:a0a):a0c:=[nL rs,nL cs,j0 B,sC (wB B cs) rs<|VX cs]
abbrev LZ(a:Ad)(B:a0f)(rs cs:a0a):D:= .obj a.Ah ["row_list","column_list","pairs","counted"]<|nFs B rs cs
theorem N3{w:LI}{B:a0f}{d:D}(h:L_ w B rs cs)(E:∀{β:Bg},(cZ K a).1 [d,.n (VX rs:Int),.n (VX cs:Int)] β=on (.ok<|j0 B,β)):iq K a [nL rs,nL cs,d] β=on (.ok<|nFs B rs cs,β):=wq λx=>by
 have G:(b9 K a).1 [nL rs,nL cs,d] β=on (.ok<|j0 B,β):=by
  unfold b9
  dsimp only
  refine aF ?_;exact eU (ah rfl<|yq h.toNt0)<|aE (ah (ac rfl<|ac (ag rfl<|jM rs)<|ac (ag rfl<|jM cs) rfl) E)<|eU (ah rfl<|xb h.nr)<|aq<|aM rfl ⟨rfl,rfl⟩
 unfold qI;refine qG (g:=b6 4 _) (δ1:=[on<|.h<|.adr x,on<|.h<|nL rs,on<|.h<|nL cs,on<|.h d,on<|.h<|j0 B]) (β1:=β) (qM<|aq<|aE (ah rfl G)<|aT ⟨rfl,rfl⟩) rfl rfl ?_;refine qG (δ1:=[on<|.h<|.adr x,on<|.h<|nL rs,on<|.h<|nL cs,on<|.h d,on<|.h<|j0 B]) (β1:=β) (qM<|aq<|eU (ah rfl h.fit)<|aT ⟨rfl,rfl⟩) rfl rfl ?_;exact iw (ag rfl rfl)<|iw (ag rfl rfl)<|iw rfl<|iw (ah rfl<|q8 h.nt) rfl
theorem DP{ba:LI}{B:a0f}(h:L_ ba B rs cs):iq K a [nL rs,nL cs,j0 B] β=on (.ok<|nFs B rs cs,β):=N3 h<|Ji h
theorem Nf{f:FD}{g:FL}{a:Dn}{b:Bool}{w:a0W}{E:a0c}{k z d:D}{y:et}(c:f a β=on (.ok<|.dct b w E,β))(e:g a β=on (.ok [k,z],β))(h:dR b k=on y)(i:la w E y=on d):wH f g a β=on (.ok d,β):=by
 unfold wH;rw[M.f5 c];simp only;rw[M.f5 e];simp only[h,i,Rj,Zv,M.f]
variable{B:a0f}
theorem Fy{C:O7}{fl:FL}{h:G}{a:Ds}{β1:Bg}{Q:a0z}{ns ms:a0a}(e:fl (hE a) β=on (.ok [nL ns,nL ms],β1))(b:VX ns<=6)(c:VX ms<=6)(d:∀x∈ns,x<=1000000)(f:∀x∈ms,x<=1000000)(q:Q (.ex C a) β1):Gw (aw (oy C fl) h) a β Q:=by
 have sT:∀{l:a0a},VX l<=6->(∀x∈l,x<=1000000)->G_ (nI l)=O6:=λ{l} w g=>by
  unfold G_;rw[Pn (by rw[OY];exact w),S7,Sf];intro x i;obtain⟨y,j,rfl⟩:=Pj.mp i;exact Pn<|g y j
 exact u5 (by
  unfold oy;rw[e];show(match cu ((nI ns).map D.n),cu ((nI ms).map D.n)with
   |some ns,on ms=>if(G_ ns&&G_ ms)=O6 then on (q0.ex C a,β1)else OZ
   |_,_=>OZ)=_
  rw[lJ,lJ];simp only[sT b d,sT c f,TH,Qs]) q
theorem fitE{r c:Nat}{rs cs:a0e}{b:LP}(B:i4 r c b)(n:VX rs=r)(hc:VX cs=c)(o:r<=6)(p:c<=6):(bW K a).1 [iL rs,iL cs,bO b] β=on (.ok .o,β)\/(bW K a).1 [iL rs,iL cs,bO b] β=on (.error a.Ae,β):=by
 suffices h:∃x g,(bW K a).1 [iL rs,iL cs,bO b] β=on (x,g)/\(β=g/\(x= .ok .o\/x= .error a.Ae)) by
  obtain⟨x,g,e,rfl,rfl|rfl⟩:=h
  .exact .inl e
  .exact .inr e
 unfold bW
 dsimp only
 refine jU<|aq<|cG (ds:=(s0 r).map nL) (β1:=β) (dD (ah (ac (ag rfl<|cW (r:=r)<|by rw[OY,n]) rfl)<|q9 o) rfl) (λi w g=>β=g/\∃k l,w=[on<|.h<|iL rs,on<|.h<|iL cs,on<|.h<|bO b,k,l]) ⟨rfl,OZ,OZ,rfl⟩ ?_ ?_
 .rintro i d w _ hd ⟨rfl,k,l,rfl⟩
  obtain⟨f,q,rfl⟩:=cQ hd;have D:=PD q;obtain⟨j,t⟩:=E5 D;refine⟨_,rfl,aE (d:=nL<|mF cs b r c f) (β1:=β) (ah rfl<|tP B hc (by lia) (by lia) j<|by lia) ?_⟩;refine aq<|kA (β1:=β) (hO<|dq (ah rfl<|tM (by rw[n];exact j)<|by lia) (ah rfl<|tJ B hc (by lia) (by lia) j<|by lia) rfl) ?_;split
  .have sub:(mF cs b r c f).Sublist (Ph c):=Wc
   have E:=sub.length_le;rw[PY]at E;exact Fy (ns:=f) (ms:=mF cs b r c f) rfl (by lia) (by lia) (λx m=>by have:=j x m;lia) (λx m=>by have:=PN.mp<|sub.subset m;lia) ⟨rfl,.inr rfl⟩
  .exact bp (aT ⟨rfl,_,_,rfl⟩)
 .rintro w _ ⟨rfl,k,l,rfl⟩
  exact aT ⟨rfl,.inl rfl⟩
theorem mkB(h:Nt0 rs cs)(w:PC (VX rs) (VX cs) B){z:Except O7 D}(e:(bW K a).1 [nL rs,nL cs,j0 B] β=on (z,β)):iq K a [nL rs,nL cs,j0 B] β=on (match z with| .ok _=> .ok (nFs B rs cs)| .error C=> .error C,β):=wq λx=>by
 have f:=h.nr.2.1;have E:(b9 K a).1 [nL rs,nL cs,j0 B] β=on (.ok<|j0 B,β):=by
  unfold b9
  dsimp only
  refine aF ?_;exact eU (ah rfl<|yq h)<|aE (ah (ac rfl<|ac (ag rfl<|jM rs)<|ac (ag rfl<|jM cs) rfl)<|xx w.bnd<|by lia)<|eU (ah rfl<|xb h.nr)<|aq<|aM rfl ⟨rfl,rfl⟩
 have G:q_ K a rs cs (wB B cs) (j0 B):=⟨h,yC B cs,λ{β k r} b c e=>sG c (by rw[e];exact w) (by rw[<-h.sm];exact h.nr.2.2.1) b⟩;unfold qI;refine qG (g:=b6 4 _) (δ1:=[on<|.h<|.adr x,on<|.h<|nL rs,on<|.h<|nL cs,on<|.h<|j0 B,on<|.h<|j0 B]) (β1:=β) (qM<|aq<|aE (ah rfl E)<|aT ⟨rfl,rfl⟩) rfl rfl ?_;cases z with
 |error C=>exact J1 (β1:=β) (δ1:=[on<|.h<|.adr x,on<|.h<|nL rs,on<|.h<|nL cs,on<|.h<|j0 B,on<|.h<|j0 B])<|qM<|aq<|IM (ah rfl e) ⟨rfl,rfl⟩
 |ok d=>
  refine qG (δ1:=[on<|.h<|.adr x,on<|.h<|nL rs,on<|.h<|nL cs,on<|.h<|j0 B,on<|.h<|j0 B]) (β1:=β) (qM<|aq<|eU (ah rfl e)<|aT ⟨rfl,rfl⟩) rfl rfl ?_;exact iw (ag rfl rfl)<|iw (ag rfl rfl)<|iw rfl<|iw (ah rfl<|q8 G) rfl
end
end Law
namespace L2.Nt
open L2.Pu
theorem Jf{w:Type}{l m:List w}{f:w->Nat}(p:l.Perm m):sm l f=sm m f:=by unfold sm;exact(p.map f).sum_nat
theorem BT{D d:Type} [DecidableEq d]{f:D->d}{G:d->Nat}:∀{l:List D} {m:List d},l.Nodup->m.Nodup->(∀a∈l,f a∈m)->(∀a∈l,∀b∈l,f a=f b->a=b)->(∀c∈m,∃a∈l,f a=c)->(sm l λa=>G<|f a)=sm m G
 |[],m,_,_,_,_,h=>by
  cases m with
  |nil=>rfl
  |cons c m=>obtain⟨a,w,_⟩:=h c Pa;cases w
 |a::l,m,nl,nm,h1,h2,h3=>by
  have w:=h1 a Pa;obtain⟨i,g⟩:=Qi.mp nl;rw[aS,Jf<|List.perm_cons_erase w,aS];congr 1;refine BT g (nm.erase _) (λb hb=>nm.mem_erase_iff.mpr ⟨λe=>i<|(h2 a Pa b (O1 _ hb) e.symm)▸hb,h1 b<|O1 _ hb⟩) (λb hb c hc=>h2 b (O1 _ hb) c<|O1 _ hc) λc hc=>?_;obtain⟨E,K⟩:=nm.mem_erase_iff.mp hc;obtain⟨b,hb,rfl⟩:=h3 c K;rcases Pr.mp hb with rfl|hb
  .exact PU rfl E
  .exact⟨b,hb,rfl⟩
section
variable{c:Type}{f:c->c->c}{d a b:c}{i j n:Nat}{l u:List c}
end
section
variable{i j n:Nat}{v r u:a0a}
def W0(cs:a0a):Wy:=λk r=>eo r<|cs.getD k 0
theorem xY{W:Wy}:∀{i:a0l} {k:Nat} {r:a0a},Wk W k r i->i∈j1 W (VX i) k r
 |[],_,_,_=>P0.mpr rfl
 |v::i,k,r,h=>RE.mpr ⟨v,h.1,Pj.mpr ⟨i,xY h.2,rfl⟩⟩
theorem vQ{W:Wy}(i:∀k r,(W k r).Nodup):∀(j k:Nat) (r:a0a),(j1 W j k r).Nodup
 |0,_,_=>RF _ _
 |j+1,k,r=>by
  show((W k r).flatMap λv=>(j1 W j (k+1)<|less r v).map (v::·)).Nodup;refine Yr.mpr ⟨λv _=>qv (λ_ _ e=>(VN e).2)<|vQ i j (k+1)<|less r v,(i k r).imp λ{a b} n u c w d e=>?_⟩;obtain⟨_,_,rfl⟩:=Pj.mp c;obtain⟨_,_,rfl⟩:=Pj.mp d;exact n (VN e).1
variable{rs cs:a0a}{vs A:a0l}
theorem lO{k:Nat}(a:k<VX vs):vs.getD k []∈vs:=by rw[bM a];exact Qd a
structure Gv (n:Nat) (rs cs:a0a) (vs:a0l):Prop where
 ln:∀v∈vs,VX v=n
 cl:vs.map Q6=cs
 rw:kl n vs=rs
theorem Gv.len(h:Gv n rs cs vs):VX vs=VX cs:=by rw[<-h.cl,OY]
theorem Gv.at(h:Gv n rs cs vs){k:Nat}(a:k<VX vs):(vs.getD k []).sum=cs.getD k 0:=by
 rw[<-h.cl,bM a,bM (by rw[OY];exact a),RC]
theorem fm(a:VX rs=n)(j:rs.sum=cs.sum):vs∈j1 (W0 cs) (VX cs) 0 rs↔Gv n rs cs vs:=by
 constructor
 .intro h
  obtain⟨u,w⟩:=CQ h;obtain⟨b,c,d⟩:=xa (cs:=cs) (W:=W0 cs) (λ_ _=>VM _) u (by rw[w,Qu]) j;subst a;exact⟨d,b,c.symm⟩
 .intro h
  have:=xY (Ho (W:=W0 cs) (k:=0) h.ln λi r v e A=>by
   have:cs.getD (0+i) 0=v.sum:=by rw[Qu,<-h.cl,O5,O9,e];rfl
   show v∈eo r (cs.getD (0+i) 0);rw[this];exact lE A)
  rw[h.len,h.rw]at this;exact this
abbrev R4:=Nat×Nat×Nat×Nat
def rA(p q:R4):R4:=(p.1+q.1,p.2.1+q.2.1,p.2.2.1+q.2.2.1,p.2.2.2+q.2.2.2)
def rM(p q:R4):R4:=(p.1*q.1,p.2.1*q.1+p.1*q.2.1,p.2.2.1*q.1+p.1*q.2.2.1,p.2.2.2*q.1+p.2.1*q.2.2.1+p.2.2.1*q.2.1+p.1*q.2.2.2)
noncomputable def r0:R4:=(0,0,0,0)
noncomputable def r1:R4:=(1,0,0,0)
theorem zb(p:R4):rA p r0=p:=rfl
theorem zc(p:R4):rA r0 p=p:=by simp only[rA,r0,Qu]
theorem nQ(p q t:R4):rA (rA p q) t=rA p (rA q t):=by simp only[rA,Uo]
theorem rM_1(p:R4):rM p r1=p:=by simp only[rM,r1,Xh,Uc,Ys]
theorem F4(p:R4):rM p r0=r0:=by simp only[rM,r0,Uc,Ys]
theorem NM(p q t:R4):rM (rM p q) t=rM p (rM q t):=by
 simp only[rM,V3,T3,Qh];refine QN rfl (QN ?_<|QN ?_ ?_)<;>simp only[Uo,Ua,SA]
theorem NN(p q t:R4):rM (rA p q) t=rA (rM p t) (rM q t):=by
 simp only[rM,rA,T3];refine QN rfl (QN ?_<|QN ?_ ?_)<;>simp only[Uo,Ua,SA]
theorem HK(p q t:R4):rM t (rA p q)=rA (rM t p) (rM t q):=by
 simp only[rM,rA,V3];refine QN rfl (QN ?_<|QN ?_ ?_)<;>simp only[Uo,Ua,SA]
def rS{i:Type}(f:i->R4):List i->R4
 |[]=>r0
 |a::l=>rA (f a)<|rS f l
variable{j t:Type}{f g:j->R4}
theorem CN:∀{l m:List j},rS f (l++m)=rA (rS f l) (rS f m)
 |[],m=>(zc _).symm
 |a::l,m=>by show rA (f a) (rS f<|l++m)=rA (rA (f a)<|rS f l) (rS f m);rw[CN,nQ]
theorem ph:∀{l:List j},(∀a∈l,f a=g a)->rS f l=rS g l
 |[],_=>rfl
 |a::l,h=>by show rA (f a) (rS f l)=rA (g a) (rS g l);rw[h a Pa,ph λb c=>h b<|O1 _ c]
theorem CL(c:R4):∀{l:List j},(rS (λa=>rM c<|f a) l)=rM c (rS f l)
 |[]=>(F4 c).symm
 |a::l=>by show rA (rM c<|f a) (rS _ l)=rM c (rA (f a)<|rS f l);rw[CL c,HK]
theorem xH{h:t->List j}:∀{l:List t},rS f (l.flatMap h)=rS (λb=>rS f<|h b) l
 |[]=>rfl
 |b::l=>by rw[QJ,CN,xH];rfl
theorem CM{h:t->j}:∀{l:List t},rS f (l.map h)=rS (λb=>f<|h b) l
 |[]=>rfl
 |b::l=>by show rA _ (rS f<|l.map h)=rA _ _;rw[CM]
theorem vP{p:j->Bool}:∀{l:List j},(∀a,p a=O8->f a=r0)->rS f (l.filter p)=rS f l
 |[],_=>rfl
 |a::l,h=>by
  rw[SK];cases q:p a with
  |true=>rw[Pc rfl];show rA _ (rS f<|l.filter p)=rA _ _;rw[vP h]
  |false=>
   rw[Pd Pf,vP h];show _=rA (f a) (rS f l);rw[h a q,zc]
theorem y6:∀{l:List j},rS f l=(sm l λa=>(f a).1,sm l λa=>(f a).2.1,sm l λa=>(f a).2.2.1,sm l λa=>(f a).2.2.2)
 |[]=>rfl
 |a::l=>by
  show rA (f a) (rS f l)=_;rw[y6,aS,aS,aS,aS];rfl
def rLe(p q:R4):Prop:=p.1<=q.1/\p.2.1<=q.2.1/\p.2.2.1<=q.2.2.1/\p.2.2.2<=q.2.2.2
theorem HL{a:j}:∀{l:List j},a∈l->rLe (f a) (rS f l)
 |b::l,h=>by
  show rLe (f a) (rA (f b)<|rS f l);rcases Pr.mp h with rfl|h
  .exact⟨Q7 _ _,Q7 _ _,Q7 _ _,Q7 _ _⟩
  .obtain⟨c,d,e,k⟩:=HL h
   exact⟨Pk c<|Ux _ _,Pk d<|Ux _ _,Pk e<|Ux _ _,Pk k<|Ux _ _⟩
theorem NO{p t q:R4}(h:rLe (rM p t) q)(a:0<t.1):rLe p q:=by
 have e:∀x:Nat,x<=x*t.1:=λx=>Vu x a;obtain⟨f,g,i,j⟩:=h;refine⟨Pk (e _) f,Pk (e _)<|Pk (Q7 _ _) g,Pk (e _)<|Pk (Q7 _ _) i,Pk (e _)<|Pk ?_ j⟩;show _<=_+_+_+_;lia
abbrev hc(i j k:Nat)(v:a0a):Nat:=if j=k then v.getD i 0 else 0
def cf(c d:Nat×Nat)(k:Nat)(v:a0a):R4:=(mu v,mu v*hc c.1 c.2 k v,mu v*hc d.1 d.2 k v,mu v*(hc c.1 c.2 k v*hc d.1 d.2 k v))
def TW(W:Wy)(c d:Nat×Nat):Nat->Nat->a0a->R4
 |0,_,_=>r1
 |m+1,k,r=>rS (λv=>rM (cf c d k v)<|TW W c d m (k+1)<|less r v)<|Z9 W m k r
def cn(i j:Nat):Nat->a0l->Nat
 |_,[]=>0
 |k,v::vs=>hc i j k v+cn i j (k+1) vs
theorem Iz{i j:Nat}:∀{vs:a0l} {k:Nat},cn i j k vs=if k<=j then(vs.getD (j-k) []).getD i 0 else 0
 |[],k=>by
  show 0=_;split<;>simp
 |v::vs,k=>by
  show(if j=k then v.getD i 0 else 0)+cn i j (k+1) vs=_;rw[Iz];by_cases q:j=k
  .subst q
   rw[Pc rfl,Pd (by lia),Pc<|Pg _,UG];rfl
  .rw[Pd q,Qu]
   by_cases z:k<=j
   .rw[Pc (by lia),Pc z,show j-k=j-(k+1)+1 by lia];rfl
   .rw[Pd (by lia),Pd z]
def tb4(c d:Nat×Nat)(k:Nat)(vs:a0l):R4:=(wt vs,wt vs*cn c.1 c.2 k vs,wt vs*cn d.1 d.2 k vs,wt vs*(cn c.1 c.2 k vs*cn d.1 d.2 k vs))
theorem Nr{c d:Nat×Nat}{k:Nat}{v:a0a}{vs:a0l}:tb4 c d k (v::vs)=rM (cf c d k v) (tb4 c d (k+1) vs):=by
 have h:wt (v::vs)=mu v*wt vs:=rfl;have e:∀i j,cn i j k (v::vs)=hc i j k v+cn i j (k+1) vs:=λ_ _=>rfl;unfold tb4 cf rM;rw[h,e,e];generalize cn c.1 c.2 (k+1) vs=x;generalize cn d.1 d.2 (k+1) vs=y;generalize hc c.1 c.2 k v=a;generalize hc d.1 d.2 k v=b;refine QN rfl (QN ?_<|QN ?_ ?_)<;>simp only[V3,T3,Qh,Qp,Ql,Uo,Ua,SA]
theorem rh{W:Wy}{c d:Nat×Nat}:∀{m k:Nat} {r:a0a},TW W c d m k r=rS (tb4 c d k) (j1 W m k r)
 |0,_,_=>rfl
 |m+1,k,r=>by
  show rS _ (Z9 W m k r)=rS _ ((W k r).flatMap _);rw[xH];unfold Z9;rw[vP]
  .refine ph λv _=>?_
   rw[CM,rh,<-CL];exact ph λvs _=>Nr.symm
  .intro v a
   have:=V8 a;have e:y1 W m (k+1) (less r v)=0:=by lia
   rw[<-nU]at e;rw[rh,T0.mp e];exact F4 _
abbrev NL:=List<|a0a×R4
def qk:NL->a0a->R4->NL
 |[],u,q=>[(u,q)]
 |p::L,u,q=>if p.1=u then(p.1,rA p.2 q)::L else p::qk L u q
def ra(W:Wy)(c d:Nat×Nat)(m k:Nat)(L:NL):R4:=rS (λp=>rM p.2<|TW W c d m k p.1) L
variable{W:Wy}{c d:Nat×Nat}{m k:Nat}
theorem HN(p q:R4):rA p q=rA q p:=by simp only[rA,SA]
theorem HP{u:a0a}{q:R4}:∀{L:NL},ra W c d m k (qk L u q)=rA (ra W c d m k L) (rM q<|TW W c d m k u)
 |[]=>HN _ _
 |p::L=>by
  have e:∀p L,ra W c d m k (p::L)=rA (rM p.2<|TW W c d m k p.1) (ra W c d m k L):=λ_ _=>rfl;unfold qk;by_cases z:p.1=u
  .rw[Pc z,e,e,<-z]
   show rA (rM (rA p.2 q) _) _=_;rw[NN,nQ,nQ,HN<|rM q _]
  .rw[Pd z,e,e,HP,nQ]
theorem oH{u:a0a}{q:R4}:∀{L:NL},(qk L u q).map (·.1)=if u∈L.map (·.1)then L.map (·.1)else L.map (·.1)++[u]
 |[]=>rfl
 |p::L=>by
  unfold qk;by_cases z:p.1=u
  .rw[Pc z,Pc<|by rw[Pi,z];exact Pa];rfl
  .rw[Pd z,Pi,Pi,oH]
   by_cases y:u∈L.map (·.1)
   .rw[Pc y,Pc<|O1 _ y]
   .rw[Pd y,Pd (λw=>(Pr.mp w).elim (λw=>z w.symm) y)];rfl
theorem OW{u:a0a}{q:R4}{L:NL}(h:(L.map (·.1)).Nodup):((qk L u q).map (·.1)).Nodup:=by
 rw[oH];split
 .exact h
 .rename_i z
  exact U3.mpr ⟨h,RF _ _,λx a y b e=>z<|by rw[<-P0.mp b,<-e];exact a⟩
theorem Iv{u:a0a}{q:R4}{L:NL}{x:a0a}(h:x∈(qk L u q).map (·.1)):x=u\/x∈L.map (·.1):=by
 rw[oH]at h;split at h
 .exact .inr h
 .rcases QB.mp h with h|h
  .exact .inr h
  .exact .inl (P0.mp h)
abbrev at_(c:Nat×Nat)(vs:a0l):Nat:=(vs.getD c.2 []).getD c.1 0
def y4(c:Nat×Nat)(vs:a0l):a0l:=vs.set c.2<|(vs.getD c.2 []).set c.1<|at_ c vs-1
def mm(c:Nat×Nat)(vs:a0l):a0l:=vs.set c.2<|(vs.getD c.2 []).set c.1<|at_ c vs+1
theorem ix{j:Type}{l:List j}{i k:Nat}{x d:j}(h:i<VX l):(l.set i x).getD k d=if i=k then x else l.getD k d:=by
 rw[O5,Q9];by_cases q:i=k
 .rw[Pc q,Pc<|q▸h,Pc q];rfl
 .rw[Pd q,Pd q,O5]
theorem gW{j:Type}{l:List j}{i:Nat}{d:j}(h:i<VX l):l.set i (l.getD i d)=l:=by
 rw[bM h];exact List.set_getElem_self h
theorem sf(a:c.2<VX vs)(b:c.1<VX (vs.getD c.2 []))(h:0<at_ c vs):mm c (y4 c vs)=vs:=by
 unfold mm y4 at_;rw[ix a,Pc rfl,ix b,Pc rfl,UD,UD,show(vs.getD c.2 []).getD c.1 0-1+1=(vs.getD c.2 []).getD c.1 0 by have:0<(vs.getD c.2 []).getD c.1 0:=h;lia,gW b,gW a]
theorem yo(a:c.2<VX vs)(b:c.1<VX (vs.getD c.2 [])):y4 c (mm c vs)=vs/\at_ c (mm c vs)=at_ c vs+1:=by
 have e:at_ c (mm c vs)=at_ c vs+1:=by
  unfold mm at_;rw[ix a,Pc rfl,ix b,Pc rfl]
 refine⟨?_,e⟩;unfold y4;rw[e];unfold mm;rw[ix a,Pc rfl,UD,UD,Wv,gW b,gW a]
theorem Ks(q:c.2<VX vs)(a:c.1<VX (vs.getD c.2 []))(h:0<at_ c vs):wt vs*at_ c vs=(vs.getD c.2 []).sum*wt (y4 c vs):=by
 generalize b:vs.getD c.2 []=v at a;have t:vs[c.2]?=on v:=by rw[<-b,bM q];exact O4 q
 have e:at_ c vs=v.getD c.1 0:=by show(vs.getD c.2 []).getD c.1 0=_;rw[b]
 obtain⟨x,o⟩:∃x,v.getD c.1 0=x+1:=⟨v.getD c.1 0-1,by rw[e]at h;lia⟩;have f:v[c.1]?=on (x+1):=by rw[<-o,bM a];exact O4 a
 have p:=vS (l:=vs.map mu) (i:=c.2) (x:=mu v) (y:=mu<|v.set c.1 x) (by rw[O9,t];rfl);have d:=DS f;have A:y4 c vs=vs.set c.2 (v.set c.1 x):=by
  unfold y4;rw[e,b,o,Wv]
 rw[e,o,A];show pr (vs.map mu)*(x+1)=v.sum*pr ((vs.set c.2<|v.set c.1 x).map mu);rw[R8];refine XZ (DR v) ?_
 calc mu v*(pr (vs.map mu)*(x+1))=pr (vs.map mu)*(mu v*(x+1)):=Qp _ _ _
  _=pr (vs.map mu)*(mu (v.set c.1 x)*v.sum):=by rw[d]
  _=pr (vs.map mu)*mu (v.set c.1 x)*v.sum:=(Qh _ _ _).symm
  _=pr ((vs.map mu).set c.2<|mu<|v.set c.1 x)*mu v*v.sum:=by rw[p]
  _=_:=by simp only[Qh,Qp,Ql]
theorem wx(g:Gv n rs cs vs)(F:c.1<n)(q:c.2<VX cs)(h:0<at_ c vs):∃y d,rs.getD c.1 0=y+1/\cs.getD c.2 0=d+1/\Gv n (rs.set c.1 y) (cs.set c.2 d) (y4 c vs):=by
 have a:c.2<VX vs:=by rw[g.len];exact q
 have f:=g.ln _<|lO a;have t:=g.at a;generalize b:vs.getD c.2 []=v at f t;have A:vs[c.2]?=on v:=by rw[<-b,bM a];exact O4 a
 have l:at_ c vs=v.getD c.1 0:=by show(vs.getD c.2 []).getD c.1 0=_;rw[b]
 obtain⟨x,o⟩:∃x,v.getD c.1 0=x+1:=⟨v.getD c.1 0-1,by rw[l]at h;lia⟩;have i:v[c.1]?=on (x+1):=by rw[<-o,bM<|by lia];exact O4 (by lia)
 obtain⟨y,B,C⟩:=xE g.ln A i;have s:=cz (y:=x) i;have e:y4 c vs=vs.set c.2 (v.set c.1 x):=by
  unfold y4;rw[l,b,o,Wv]
 refine⟨y,v.sum-1,?_,by lia,?_,?_,?_⟩
 .rw[<-g.rw,O5,B];rfl
 .intro w p
  rw[e]at p;rcases hL p with z|z
  .rw[z,PX];exact f
  .exact g.ln w z
 .rw[e,R8,g.cl]
  congr 1;lia
 .rw[e,C,g.rw]
theorem MC{y d:Nat}(g:Gv n (rs.set c.1 y) (cs.set c.2 d) vs)(Y:VX rs=n)(t:c.1<n)(A:c.2<VX cs)(H:rs.getD c.1 0=y+1)(I:cs.getD c.2 0=d+1):Gv n rs cs (mm c vs):=by
 have p:c.2<VX vs:=by rw[g.len,PX];exact A
 have i:=g.ln _<|lO p;obtain⟨J,Z⟩:=yo p (by lia:c.1<(vs.getD c.2 []).length);have h:∀w∈mm c vs,VX w=n:=λw L=>by
  rcases hL (show w∈vs.set _ _ from L)with z|z
  .rw[z,PX];exact i
  .exact g.ln w z
 have N:Gv n (kl n<|mm c vs) ((mm c vs).map Q6) (mm c vs):=⟨h,rfl,rfl⟩;have B:VX (mm c vs)=VX vs:=by unfold mm;rw[PX]
 obtain⟨O,j,Q,R,q⟩:=wx (c:=c) N t (by rw[OY,B];exact p) (by lia);rw[J]at q;have T:(kl n<|mm c vs).set c.1 O=rs.set c.1 y:=q.rw.symm.trans g.rw;have U:((mm c vs).map Q6).set c.2 j=cs.set c.2 d:=q.cl.symm.trans g.cl;have o:∀{l m:a0a} {k a b:Nat},l.set k a=m.set k b->k<VX l->k<VX m->l.getD k 0=a+1->m.getD k 0=b+1->l=m:=λ{l m k a b} e C f F X=>by
  have r:a=b:=by
   have:(l.set k a).getD k 0=(m.set k b).getD k 0:=by rw[e]
   rwa[ix C,ix f,Pc rfl,Pc rfl]at this
  have:(l.set k a).set k (a+1)=(m.set k b).set k (a+1):=by rw[e]
  rw[UD,UD]at this;rw[<-F,gW C,F,r,<-X,gW f]at this;exact this
 exact⟨h,o U (by rw[OY,B];exact p) A R I,o T (by rw[fE h];exact t) (by lia) Q H⟩
theorem yk{g:a0l->Nat}{y d:Nat}(o:VX rs=n)(k:rs.sum=cs.sum)(t:c.1<n)(b:c.2<VX cs)(J:rs.getD c.1 0=y+1)(L:cs.getD c.2 0=d+1):
  (sm (j1 (W0 cs) (VX cs) 0 rs) λvs=>wt vs*(at_ c vs*g vs))=cs.getD c.2 0*sm (j1 (W0<|cs.set c.2 d) (VX cs) 0<|rs.set c.1 y) λvs=>wt vs*g (mm c vs):=by
 have X:=cz (l:=rs) (i:=c.1) (x:=y+1) (y:=y) (by rw[<-J,bM<|by lia];exact O4<|by lia);have Y:=cz (l:=cs) (i:=c.2) (x:=d+1) (y:=d) (by rw[<-L,bM b];exact O4 b);have F:VX (rs.set c.1 y)=n:=by rw[PX];exact o
 have A:∀{vs:a0l},vs∈j1 (W0<|cs.set c.2 d) (VX cs) 0 (rs.set c.1 y)↔Gv n (rs.set c.1 y) (cs.set c.2 d) vs:=λ{vs}=>by
  have:=fm (vs:=vs) F (show(rs.set c.1 y).sum=(cs.set c.2 d).sum by lia);rw[PX]at this;exact this
 rw[<-rJ (p:=λvs=>decide (0<at_ c vs)) (λvs q=>by
  have:at_ c vs=0:=by have:=V8 q;lia
  rw[this,UH,Uc]),<-gn]
 have e:(sm ((j1 (W0 cs) (VX cs) 0 rs).filter λvs=>decide (0<at_ c vs)) λvs=>wt vs*(at_ c vs*g vs))=sm ((j1 (W0 cs) (VX cs) 0 rs).filter λvs=>decide (0<at_ c vs)) λvs=>(λa=>cs.getD c.2 0*(wt a*g (mm c a))) (y4 c vs):=bv λvs B=>by
  obtain⟨m,j⟩:=QK.mp B;have j:=QH j;have H:=(fm o k).mp m;have C:c.2<VX vs:=by rw[H.len];exact b
  have v:=H.ln _<|lO C;show _=cs.getD c.2 0*(wt (y4 c vs)*g (mm c<|y4 c vs));rw[sf C (by lia) j,<-Qh,<-Qh,Ks C (by lia) j,H.at C]
 rw[e];refine BT (f:=y4 c) (G:=λa=>cs.getD c.2 0*(wt a*g (mm c a))) ((vQ (W:=W0 cs) (λ_ _=>rB _ _) _ _ _).filter _) (vQ (W:=W0<|cs.set c.2 d) (λ_ _=>rB _ _) _ _ _) (λvs B=>?_) (λvs B a I e=>?_) λa I=>?_
 .obtain⟨m,j⟩:=QK.mp B
  obtain⟨Q,u,Z,w,h⟩:=wx ((fm o k).mp m) t b<|QH j;obtain rfl:Q=y:=by lia
  obtain rfl:u=d:=by lia
  exact A.mpr h
 .obtain⟨m,j⟩:=QK.mp B
  obtain⟨R,T⟩:=QK.mp I;have h:=(fm o k).mp m;have N:=(fm o k).mp R;have r:c.2<VX vs:=by rw[h.len];exact b
  have O:c.2<VX a:=by rw[N.len];exact b
  rw[<-sf r (by rw[h.ln _<|lO r];exact t) (QH j),<-sf O (by rw[N.ln _<|lO O];exact t) (QH T),e]
 .have h:=A.mp I
  have r:c.2<VX a:=by rw[h.len,PX];exact b
  obtain⟨U,D⟩:=yo r (by rw[h.ln _<|lO r];exact t);exact⟨mm c a,QK.mpr ⟨(fm o k).mpr<|MC h o t b J L,Pn<|by lia⟩,U⟩
theorem AQ(c:rs.sum=cs.sum)(a:rs.sum<=40):sm (j1 (W0 cs) (VX cs) 0 rs) wt=mu rs:=by
 rw[jd,EW (W:=W0 cs) (n:=VX rs) (λ_ _ _ _ _=>rfl) (VX cs) 0 rs (Qu _) rfl a,List.drop_zero,qX _ _ c]
theorem MU(a:VX rs=n)(f:rs.sum=cs.sum)(b:c.1<n)(e:c.2<VX cs)(h:rs.getD c.1 0=0\/cs.getD c.2 0=0):∀vs∈j1 (W0 cs) (VX cs) 0 rs,at_ c vs=0:=λvs l=>by
 rcases Ww (at_ c vs)with q|q
 .exact q
 .obtain⟨y,d,o,p,_⟩:=wx ((fm a f).mp l) b e q
  lia
theorem FU{j:Type}{l:List j}{f:j->Nat}(h:∀a∈l,f a=0):sm l f=0:=(bv h).trans nN
theorem X_cl(h:VX rs=n)(f:rs.sum=cs.sum)(A:rs.sum<=40)(o:c.1<n)(a:c.2<VX cs):(sm (j1 (W0 cs) (VX cs) 0 rs) λvs=>wt vs*at_ c vs)*rs.sum=mu rs*(rs.getD c.1 0*cs.getD c.2 0):=by
 by_cases q:rs.getD c.1 0=0\/cs.getD c.2 0=0
 .rw[FU λvs B=>by rw[MU h f o a q vs B,Uc],UH]
  rcases q with q|q<;>rw[q]<;>simp
 .obtain⟨y,b⟩:∃y,rs.getD c.1 0=y+1:=⟨rs.getD c.1 0-1,by lia⟩
  obtain⟨d,p⟩:∃d,cs.getD c.2 0=d+1:=⟨cs.getD c.2 0-1,by lia⟩;have t:rs[c.1]?=on (y+1):=by rw[<-b,bM<|by lia];exact O4 (by lia)
  have C:=cz (y:=y) t;have F:=cz (l:=cs) (i:=c.2) (x:=d+1) (y:=d) (by rw[<-p,bM a];exact O4 a);have e:=yk (g:=λ_=>1) h f o a b p;have w:=AQ (rs:=rs.set c.1 y) (cs:=cs.set c.2 d) (by lia) (by lia);rw[PX]at w;simp only[Xh]at e;rw[e,w,b,Qh,DS t,Qp,Ql<|cs.getD c.2 0]
def SF:NL->a0a->R4
 |[],_=>r0
 |p::L,u=>if p.1=u then p.2 else SF L u
theorem Fl{u:a0a}{q:R4}:∀{L:NL},u∉L.map (·.1)->qk L u q=L++[(u,q)]/\SF L u=r0
 |[],_=>⟨rfl,rfl⟩
 |p::L,h=>by
  rw[Pi]at h;have a:¬p.1=u:=λe=>h (by rw[e];exact Pa);obtain⟨b,l⟩:=Fl (u:=u) (q:=q) (L:=L) λw=>h<|O1 _ w;refine⟨?_,?_⟩
  .unfold qk
   rw[Pd a,b];rfl
  .unfold SF
   rw[Pd a,l]
theorem IC{u:a0a}{q:R4}:∀{L:NL},(L.map (·.1)).Nodup->u∈L.map (·.1)->qk L u q=L.map λp=>if p.1=u then(p.1,rA (SF L u) q)else p
 |p::L,nd,h=>by
  rw[Pi,Qi]at nd;unfold qk SF;rw[Pi];by_cases z:p.1=u
  .rw[Pc z,Pc z,Pc z]
   congr 1;refine(VY L).symm.trans<|P4 λx a=>?_;rw[Pd λe=>nd.1<|Pj.mpr ⟨x,a,e.trans z.symm⟩];rfl
  .rw[Pd z,Pd z,Pd z]
   congr 1;exact IC nd.2<|(Pr.mp h).resolve_left λe=>z e.symm
theorem il{j:Type} [BEq j] [LawfulBEq j]:∀{l m:List j},l.Nodup->(∀x∈l,x∈m)->VX l<=VX m
 |[],_,_,_=>Qk _
 |x::l,m,h,s=>by
  rw[Qi]at h;have b:=s x Pa;have e:=XX b;have:=Vy b;have:=il (m:=m.erase x) h.2 λy o=>(YT (a:=y) λe=>h.1<|by rw[<-e];exact o).mpr<|s y<|O1 _ o;rw[Pt];lia
structure B9 (W:Wy) (rs:a0a) (m k:Nat) (L:NL):Prop where
 nd:(L.map (·.1)).Nodup
 lv:∀u∈L.map (·.1),u∈io W rs k
 ps:∀u∈L.map (·.1),0<y1 W m k u
theorem B9.len{L:NL}(h:B9 W rs m k L):VX L<=VX (io W rs k):=by
 have:=il h.nd h.lv;rw[OY]at this;exact this
def B3(W:Wy)(c d:Nat×Nat)(k:Nat)(p:a0a×R4)(B:NL)(l:a0l):NL:=l.foldl (λB v=>qk B (less p.1 v)<|rM p.2<|cf c d k v) B
def D_(W:Wy)(c d:Nat×Nat)(m k:Nat)(B L:NL):NL:=L.foldl (λB p=>B3 W c d k p B<|Z9 W m k p.1) B
theorem zR{p:a0a×R4}(a:p.1∈io W rs k):∀{l:a0l} {B:NL},(∀v∈l,v∈Z9 W m k p.1)->B9 W rs m (k+1) B->B9 W rs m (k+1) (B3 W c d k p B l)
 |[],B,_,h=>h
 |v::l,B,hl,h=>by
  obtain⟨g,f⟩:=QK.mp<|hl v Pa;have f:=QH f;refine zR a (l:=l) (B:=qk B (less p.1 v)<|rM p.2<|cf c d k v) (λw b=>hl w<|O1 _ b) ⟨OW h.nd,λu hu=>?_,λu hu=>?_⟩
  .rcases Iv hu with rfl|hu
   .exact kO.mpr ⟨_,a,v,g,rfl⟩
   .exact h.lv u hu
  .rcases Iv hu with rfl|hu
   .lia
   .exact h.ps u hu
theorem zn:∀{L B:NL},(∀p∈L,p.1∈io W rs k)->B9 W rs m (k+1) B->B9 W rs m (k+1) (D_ W c d m k B L)
 |[],_,_,h=>h
 |p::L,B,hl,h=>zn (L:=L) (B:=B3 W c d k p B<|Z9 W m k p.1) (λq a=>hl q<|O1 _ a)<|zR (hl p Pa) (λ_ h=>h) h
theorem Io{p:a0a×R4}:∀{l:a0l} {B:NL},ra W c d m (k+1) (B3 W c d k p B l)=rA (ra W c d m (k+1) B) (rM p.2<|rS (λv=>rM (cf c d k v)<|TW W c d m (k+1)<|less p.1 v) l)
 |[],B=>by
  show ra W c d m (k+1) B=rA _ (rM p.2 r0);rw[F4,zb]
 |v::l,B=>by
  show ra W c d m (k+1) (B3 W c d k p (qk B (less p.1 v)<|rM p.2<|cf c d k v) l)=rA _ (rM p.2<|rA _ _);rw[Io,HP,nQ,HK,NM]
theorem HS:∀{L B:NL},ra W c d m (k+1) (D_ W c d m k B L)=rA (ra W c d m (k+1) B) (ra W c d (m+1) k L)
 |[],B=>(zb _).symm
 |p::L,B=>by
  show ra W c d m (k+1) (D_ W c d m k (B3 W c d k p B<|Z9 W m k p.1) L)=rA _ (rA (rM p.2<|TW W c d (m+1) k p.1)<|ra W c d (m+1) k L);rw[HS,Io,nQ];rfl
theorem r1_M(q:R4):rM r1 q=q:=by simp only[rM,r1,Y9,UH,Qu]
theorem rj{r:a0a}(h:0<y1 W m k r):0<(TW W c d m k r).1:=by
 rw[rh,y6];show 0<sm (j1 W m k r) wt;rw[<-nU]at h;obtain⟨vs,a⟩:=List.exists_mem_of_length_pos h;have b:0<wt vs:=by
  show 0<pr (vs.map mu)
  clear a
  induction vs with
  |nil=>decide
  |cons v vs g=>exact Ve (DR v) g
 exact PZ b<|HZ (f:=wt) a
theorem NR{L:NL}{S:R4}(h:B9 W rs m k L)(e:ra W c d m k L=S){p:a0a×R4}(a:p∈L):rLe p.2 S:=by
 have:=HL (f:=λp=>rM p.2<|TW W c d m k p.1) a;rw[show rS (λp=>rM p.2<|TW W c d m k p.1) L=S from e]at this;exact NO this<|rj<|h.ps _<|Pj.mpr ⟨p,a,rfl⟩
theorem Gp{L:NL}{S:R4}{z:a0a}(f:(L.map (·.1)).Nodup)(e:ra W c d 0 k L=S)(b:0<S.1)(a:∀u∈L.map (·.1),u=z):L=[(z,S)]:=by
 match L,f,e,a with
 |[],_,e,_=>rw[<-e]at b;cases b
 |[p],_,e,a=>
  have h:rA (rM p.2 r1) r0=S:=e;rw[zb,rM_1]at h;rw[<-h,<-a p.1 (by simp)]
 |p::q::L,f,_,a=>
  rw[Pi,Qi]at f;exact(f.1<|by rw[a p.1 (by simp),<-a q.1 (by simp)];simp).elim
end
end L2.Nt
namespace Law
open L2 L2.Pu L2.Nt
section
variable{K:Pz}{a:Ad}{β:Bg}{rs cs:a0a}{W:Wy}{bd:D}
abbrev e9(a:Ad)(W:Wy)(bd:D)(rs cs:a0a):D:= .obj a.Ah ["row_list","column_list","pairs","counted"] [nL rs,nL cs,bd,sC W rs<|VX cs]
theorem JS{a w:a0W}{b c:a0c}{y:et}(h:VX a=VX b):la (a++w) (b++c) y=(la a b y).or (la w c y):=by
 unfold la;rw[List.zip_append h,List.find?_append];cases(a.zip b).find? λp=>decide (p.1=y)<;>rfl
theorem HX{f:a0a->D}{u:a0a}{k:Int}:∀{L:a0l},u∈L->la (L.map λr=>(k,nI r)) (L.map f) (k,nI u)=on (f u)
 |r::L,h=>by
  unfold la;rw[Pi,Pi,Rl,RO];by_cases q:r=u
  .rw[q,Pn rfl];rfl
  .rw[P8 λe=>q<|gB (RM.mp e).2]
   exact HX<|(Pr.mp h).resolve_left λe=>q e.symm
theorem DX{f:a0a->D}{y:et}{k:Int}(h:k≠y.1):∀{L:a0l},la (L.map λr=>(k,nI r)) (L.map f) y=OZ
 |[]=>rfl
 |r::L=>by
  have a:=DX (f:=f) h (L:=L);unfold la at a⊢;rw[Pi,Pi,Rl,RO,P8 λe=>h (RM.mp e).1];exact a
theorem DZ{m k:Nat}{u:a0a}(b:u∈io W rs k):∀{L:a0a},k∈L->la (L.flatMap λk=>(io W rs k).map λr=>((k:Int),nI r)) (L.flatMap λk=>(io W rs k).map<|cv W m k) ((k:Int),nI u)=on (cv W m k u)
 |j::L,h=>by
  rw[QJ,QJ,JS<|by rw[OY,OY]];by_cases q:j=k
  .subst q
   rw[HX b];rfl
  .rw[DX (by show(j:Int)≠(k:Int);lia),Option.none_or]
   exact DZ b<|(Pr.mp h).resolve_left λe=>q e.symm
theorem H_{k:Nat}{u:a0a}(c:k<=VX cs)(b:u∈io W rs k):la (kyW W rs<|VX cs+1) (MV W rs<|VX cs) ((k:Int),nI u)=on (cv W (VX cs) k u):=DZ b (PN.mpr<|by lia)
theorem E6{k:Nat}{u:a0a}(c:k<=VX cs)(d:u∈io W rs k):(gx K a).1 [e9 a W bd rs cs,.n (k:Int),tN u] β=on (.ok<|cv W (VX cs) k u,β):=
 aF (aq<|aM (Nf (jY rfl rfl) (ac (ag rfl eK)<|ac (ag rfl eK) rfl) (gY (b:=O6) (k:=((k:Int),nI u)) λe=>(by cases e))<|H_ c d) ⟨rfl,rfl⟩)
theorem LY{k:Nat}{u:a0a}(b:k<=VX cs)(c:u∈io W rs k):Gu (.t [.n (k:Int),tN u]) (sC W rs<|VX cs)=on (.c O8):=by
 show(dR O6<|dK O6 ((k:Int),nI u)).map _=_;rw[gY λe=>(by cases e),Rj,H_ b c];rfl
theorem q_.nx{k:Nat}{r v:a0a}(h:q_ K a rs cs W bd)(b:r∈io W rs k)(c:v∈W k r):less r v∈io W rs (k+1):=kO.mpr ⟨r,b,v,c,rfl⟩
theorem Ng{k:Nat}{r:a0a}(h:q_ K a rs cs W bd)(b:B6 r):VX (W k r)<=500:=by
 have:=(h.ok k r).length_le;have:=k7 r<|cs.getD k 0;have:=zd r<|VX r-1;rw[<-List.dropLast_eq_take]at this;have:=b.2.2.2;lia
abbrev sT(W:Wy)(cs:a0a)(k:Nat)(r:a0a):a0l:=Z9 W (VX cs-(k+1)) k r
abbrev tB(W:Wy)(cs:a0a)(k:Nat)(r v:a0a):Nat:=y1 W (VX cs-(k+1)) (k+1)<|less r v
theorem FQ{k:Nat}{r:a0a}(h:q_ K a rs cs W bd)(d:k<VX cs)(b:r∈io W rs k):(kE K a).1 [e9 a W bd rs cs,.n (k:Int),tN r] β=on (.ok<|.l<|(sT W cs k r).map tN,β):=by
 obtain⟨c,f,g⟩:=h.at (by lia) b;unfold kE
 dsimp only
 refine aF ?_;refine fS (pQ (hO<|dq (ag rfl eK) (jY rfl rfl)<|LY (by lia) b)<|hO<|dq rfl (ag (ac (jY rfl rfl) rfl)<|jM cs) eq_int) (by simp;lia)<|bp ?_;refine aq<|aM (lQ (W k r) tN tN (λv=>decide ((0:Int)<((tB W cs k r v:Nat):Int))) (dD (ah (ac rfl<|ac (jY rfl rfl)<|ac (jY rfl rfl)<|ac rfl rfl)<|h.fl d c f) rfl) (λv e=>⟨[on<|tN v,on<|e9 a W bd rs cs,on<|.n (k:Int),on<|tN r],rfl,?_,λ_=>rfl⟩)<|bq ?_) ⟨rfl,rfl⟩
 .exact hO (dq (dq (fN rfl (ac (x:= .n ((k+1:Nat):Int)) (dq rfl rfl rfl)<|ac (ah rfl<|uC (eD<|(h.ok k r).subset e) c.2.1) rfl)<|E6 d<|h.nx b e) rfl zK) rfl gt_int)
 .have:=Ng (k:=k) h c
  lia
theorem Iy{k:Nat}{r:a0a}(h:q_ K a rs cs W bd)(b:k<=VX cs)(c:r∈io W rs k):vr W (VX cs-k) k r<=2^160:=by
 refine Pk (wK h.ok _ _ _<|by lia) ?_;rw[qX _ _ (iu h.ok h.sm k b r c).2];exact zt (h.at b c).2.2
theorem rW:(fY K a).1 [e9 a W bd rs cs] β=on (.ok<|nL rs,β):=aF<|aq<|aM (ag (ac (jY rfl rfl) rfl) rfl) ⟨rfl,rfl⟩
theorem xW:(gc K a).1 [e9 a W bd rs cs] β=on (.ok<|nL cs,β):=aF<|aq<|aM (ag (ac (jY rfl rfl) rfl) rfl) ⟨rfl,rfl⟩
theorem BC(l:a0a):u9 [nL l]=on (tN l):=rfl
abbrev nw(q:R4):D:= .t [.n ((q.1:Nat):Int),.n ((q.2.1:Nat):Int),.n ((q.2.2.1:Nat):Int),.n ((q.2.2.2:Nat):Int)]
abbrev y_(c:Nat×Nat):D:= .t [.n (c.1:Int),.n (c.2:Int)]
theorem Ih{v:a0a}{i:Nat}(h:i<VX v):g8 (tN v) (.n (i:Int))=on (.n ((v.getD i 0:Nat):Int)):=by
 refine dS (xs:=(nI v).map D.n) ?_;rw[O9,O9,bM h,O4 h];rfl
theorem E4{c:Nat×Nat}{k:Nat}{v:a0a}(b:c.1<VX v):(iW K a).1 [y_ c,.n (k:Int),tN v] β=on (.ok<|.n ((hc c.1 c.2 k v:Nat):Int),β):=by
 unfold iW
 dsimp only
 refine aF ?_;refine k6 (β1:=β) rfl rfl<|aq<|aM (d:= .n ((hc c.1 c.2 k v:Nat):Int)) (β1:=β) ?_ ⟨rfl,rfl⟩;by_cases q:c.2=k
 .rw[show hc c.1 c.2 k v=v.getD c.1 0 from Pc q]
  exact Hm (β1:=β) (hO<|dq rfl rfl<|eq_int.trans<|by rw[Pn<|by rw[q]])<|dq rfl rfl<|Ih b
 .rw[show hc c.1 c.2 k v=0 from Pd q]
  exact Hn (β1:=β) (hO<|dq rfl rfl<|eq_int.trans<|by rw[P8<|by lia]) rfl
theorem Iq{i j k:Nat}{v:a0a}(h:v.sum<=40):hc i j k v<=40:=by
 show(if j=k then _ else _)<=_;split
 .rcases SY i (VX v) with z|z
  .rw[bM z];exact Pk (fF<|Qd z) h
  .rw[O5,Ri z];exact Qk _
 .exact Qk _
theorem FE{x y z u:D}:da [x,y,z,u]=on (.t [x,y,z,u]):=by
 unfold da;rw[Pc<|bq (by show 4<=1000;decide)]
theorem Ln{c d:Nat×Nat}{k:Nat}{v:a0a}{q:R4}(o:v.sum<=40)(g:q.1<=2^200)(l:q.2.1<=2^200)(n:q.2.2.1<=2^200)(F:q.2.2.2<=2^200):(pk K a).1 [nw q,.n ((hc c.1 c.2 k v:Nat):Int),.n ((hc d.1 d.2 k v:Nat):Int),.n ((mu v:Nat):Int)] β=on (.ok<|nw<|rM q<|cf c d k v,β):=by
 have w:mu v<=2^200:=Pk (zt o) (SB (by decide)<|by decide);have D:hc c.1 c.2 k v<=40:=Iq o;have H:hc d.1 d.2 k v<=40:=Iq o;unfold cf;generalize hc c.1 c.2 k v=h at D⊢;generalize hc d.1 d.2 k v=t at H⊢;generalize mu v=m at w⊢;obtain⟨x,y,z,u⟩:=q;simp only at g l n F;have j:∀{p q A B:Nat},p<=2^A->q<=2^B->p*q<=2^(A+B):=λr C=>by rw[V4];exact Ub r C
 have E:∀{p q A:Nat},p<=2^A->q<=2^A->p+q<=2^(A+1):=λr C=>by rw[Yv];lia
 have i:∀{p A:Nat} (B:Nat),p<=2^A->A<=B->p<=2^B:=λB e h=>Pk e<|SB (by decide) h;have b:h<=2^6:=Pk D (by decide);have f:t<=2^6:=Pk H (by decide);have L:∀{p A:Nat},p<=2^A->A<=999->p<2^1000:=λe h=>ff e h;have I:=E (i 206 l<|by decide) (i 206 (j b g)<|by decide);have J:=E (i 206 n<|by decide) (i 206 (j f g)<|by decide);have N:=j (j b f) g;have O:u+h*z+t*y+h*t*x<=2^215:=by
  have r:=i 212 F (by decide);have C:=i 212 (j b n) (by decide);have Q:=i 212 (j f l) (by decide);have R:=i 212 N (by decide);have:(2:Nat)^215=2^212*8:=by rw[show(215:Nat)=212+3 from rfl,V4]
  lia
 unfold pk
 dsimp only
 refine aF<|k6 (β1:=β) rfl rfl<|aq<|aM (β1:=β) (ag (ac (dq rfl rfl<|eL (L w<|by decide)<|L g<|by decide)<|ac (dq rfl (dq rfl (dq rfl rfl<|eL (L b<|by decide)<|L g<|by decide) sI)<|eL (L w<|by decide)<|L I<|by decide)<|ac (dq rfl (dq rfl (dq rfl rfl<|eL (L f<|by decide)<|L g<|by decide) sI)<|eL (L w<|by decide)<|L J<|by decide)<|ac (dq rfl (dq (dq (dq rfl (dq rfl rfl<|eL (L b<|by decide)<|L n<|by decide) sI) (dq rfl rfl<|eL (L f<|by decide)<|L l<|by decide) sI) (dq (dq rfl rfl<|eL (L b<|by decide)<|L f<|by decide) rfl<|eL (L (j b f)<|by decide)<|L g<|by decide) sI)<|eL (L w<|by decide)<|L O<|by decide) rfl) FE) ⟨rfl,?_⟩;have e:(m*x,m*(y+h*x),m*(z+t*x),m*(u+h*z+t*y+h*t*x))=rM (x,y,z,u) (m,m*h,m*t,m*(h*t)):=by
  unfold rM;refine QN ?_ (QN ?_<|QN ?_ ?_)<;>simp only[V3,Qh,Qp,Ql,Uo,Ua,SA]
 rw[<-e]
theorem K1{p q:R4}:(jx K a).1 [nw p,nw q] β=on (.ok<|nw<|rA p q,β):=by
 unfold jx
 dsimp only
 refine aF<|aq<|aM (β1:=β) (ag (as:=[.l [.n ((p.1+q.1:Nat):Int),.n ((p.2.1+q.2.1:Nat):Int),.n ((p.2.2.1+q.2.2.1:Nat):Int),.n ((p.2.2.2+q.2.2.2:Nat):Int)]]) (ac ?_ rfl) rfl) ⟨rfl,rfl⟩;exact bw [(p.1,q.1),(p.2.1,q.2.1),(p.2.2.1,q.2.2.1),(p.2.2.2,q.2.2.2)] (λp=>D.t [.n (p.1:Int),.n (p.2:Int)]) (λp=>D.n ((p.1+p.2:Nat):Int)) (pR (x:=nw p) (y:=nw q) rfl rfl rfl rfl) (λp _=>⟨[on<|.n (p.1:Int),on<|.n (p.2:Int)],rfl,rfl⟩)<|bq (by show 4<=1000;decide)
abbrev y3(L:NL):a0W:=L.map λp=>((0:Int),nI p.1)
abbrev C_(L:NL):a0c:=L.map λp=>nw p.2
abbrev dcN(L:NL):D:= .dct O8 (y3 L)<|C_ L
theorem HY{u:a0a}:∀{L:NL},(la (y3 L) (C_ L) (0,nI u)).getD (nw r0)=nw (SF L u)
 |[]=>rfl
 |p::L=>by
  have a:=HY (u:=u) (L:=L);unfold la at a⊢;unfold SF y3 C_;rw[Pi,Pi,Rl,RO];by_cases q:p.1=u
  .rw[Pc q,Pn<|by rw[q]];rfl
  .rw[Pd q,P8 λe=>q<|gB (RM.mp e).2]
   exact a
theorem oj{u:a0a}{L:NL}:((0:Int),nI u)∈y3 L↔u∈L.map (·.1):=by
 constructor
 .intro h
  obtain⟨p,b,e⟩:=Pj.mp h;exact Pj.mpr ⟨p,b,gB (RM.mp e).2⟩
 .intro h
  obtain⟨p,b,rfl⟩:=Pj.mp h;exact Pj.mpr ⟨p,b,rfl⟩
theorem zG(L:NL):y3 L=(L.map (·.1)).map λu=>((0:Int),nI u):=by rw[Pp];rfl
theorem KU{u:a0a}{q:R4}{L:NL}:stK (y3 L) (0,nI u)=y3 (qk L u q):=by
 unfold Pu.stK;rw[zG<|qk L u q,oH];by_cases z:u∈L.map (·.1)
 .rw[Pc<|oj.mpr z,Pc z,zG]
 .rw[Pd λw=>z<|oj.mp w,Pd z,Qc,zG];rfl
theorem KS{u:a0a}{q:R4}{L:NL}(a:(L.map (·.1)).Nodup):stY (y3 L) (C_ L) (0,nI u) (nw<|rA (SF L u) q)=C_ (qk L u q):=by
 unfold stY;by_cases z:u∈L.map (·.1)
 .rw[Pc<|oj.mpr z,IC a z]
  unfold y3 C_;rw[List.zip_map',Pp,Pp];refine P4 λp _=>?_;show(if((0:Int),nI p.1)=(0,nI u)then _ else _)=nw (if p.1=u then _ else p).2;by_cases y:p.1=u
  .rw[Pc (by rw[y]),Pc y]
  .rw[Pd λe=>y<|gB (RM.mp e).2,Pd y]
 .obtain⟨b,c⟩:=Fl (q:=q) z
  rw[Pd λw=>z<|oj.mp w,b,c,zc];unfold C_;rw[Qc];rfl
theorem Ko{f:FD}{g:FL}{a:Dn}{b:Bool}{ks:a0W}{vs:a0c}{k z d:D}{y:et}(c:f a β=on (.ok<|.dct b ks vs,β))(e:g a β=on (.ok [k,z],β))(h:dR b k=on y)(i:(la ks vs y).getD z=d):wH f g a β=on (.ok d,β):=by
 unfold wH;rw[M.f5 c];show M.v (g a) _ β=_;rw[M.f5 e];show M.f ((dR b k).map _) β=_;rw[h,Rj,i];rfl
theorem Nk{i:Nat}{b:Bool}{h:G}{a:Ds}{Q:a0z}(k:Gw h (a.set i<|on<|.odc b [] []) β Q):Gw (aw (MJ i b) h) a β Q:=c8 rfl k
theorem Ku{i:Nat}{fk c:FD}{h:G}{a:Ds}{Q:a0z}{d kd:D}{b:Bool}{ks:a0W}{vs:a0c}{k:et}{β1 β2:Bg}(e:c (hE a) β=on (.ok d,β1))(f:fk (hE a) β1=on (.ok kd,β2))(g:a.getD i OZ=on (.odc b ks vs))(j:dR b kd=on k)(w:noL d=O6)(l:VX ks<Ps)(m:Gw h (a.set i<|on<|.odc b (stK ks k)<|stY ks vs k d) β2 Q):Gw (aw (uP i fk c) h) a β Q:=
 c8 (by unfold uP;simp only[e,f,g,j,w,Pn l,TH,Qs]) m
theorem Nd{f:FD}{a:Dn}{L:NL}(e:f a β=on (.ok<|dcN L,β)):Gy f a β=on (.ok<|L.map λp=> .t [tN p.1,nw p.2],β):=by
 unfold Gy;rw[M.f5 e];show on (RG<|SU _ (y3 L)<|C_ L,β)=_;unfold y3 C_;rw[List.zipWith_map,ZT];rfl
abbrev sbS(a:Ad)(W:Wy)(bd:D)(rs cs:a0a)(c d:Nat×Nat)(k:Nat)(L B:NL)(e f g h b:a0Z):Ds:=[on<|.h<|e9 a W bd rs cs,on<|.h<|y_ c,on<|.h<|y_ d,on<|.h<|.n (k:Int),on<|.h<|dcN L,on<|.odc O8 (y3 B)<|C_ B,e,f,g,h,b]
theorem NE{c d:Nat×Nat}{k:Nat}{L:NL}{S:R4}(h:q_ K a rs cs W bd)(X:k<VX cs)(hc:c.1<VX rs)(hd:d.1<VX rs)(n:B9 W rs (VX cs-k) k L)(e:ra W c d (VX cs-k) k L=S)(Y:S.1<=2^200)(Z:S.2.1<=2^200)(G:S.2.2.1<=2^200)(M:S.2.2.2<=2^200):(iM K a).1 [e9 a W bd rs cs,y_ c,y_ d,.n (k:Int),dcN L] β=on (.ok<|dcN<|D_ W c d (VX cs-(k+1)) k [] L,β):=by
 have H:∀{B:NL},B9 W rs (VX cs-(k+1)) (k+1) B->VX B<1000:=λ{B} F=>by
  have:=F.len;have:=v9 h (k:=k+1) (by lia);lia
 have P:B9 W rs (VX cs-(k+1)) (k+1) []:=⟨V0,λ_ h=>(by cases h),λ_ h=>(by cases h)⟩;unfold iM
 dsimp only
 refine aF<|Nk ?_;show Gw _ (sbS a W bd rs cs c d k L [] OZ OZ OZ OZ OZ) β _;refine cG (ds:=L.map λp=> .t [tN p.1,nw p.2]) (β1:=β) (Nd rfl) (λi D o=>β=o/\∃I J g m f,D=sbS a W bd rs cs c d k L (D_ W c d (VX cs-(k+1)) k []<|L.take i) I J g m f) ⟨rfl,OZ,OZ,OZ,OZ,OZ,rfl⟩ ?_ ?_
 .rintro i dd D _ r ⟨rfl,I,J,g,m,f,rfl⟩
  obtain⟨p,R,rfl⟩:=cQ r;have u:=PD R;have t:=n.lv p.1<|Pj.mpr ⟨p,u,rfl⟩;obtain⟨V,s,x⟩:=h.at (by lia) t;obtain⟨b1,b2,b3,b4⟩:=NR n e u;have F:B9 W rs (VX cs-(k+1)) (k+1) (D_ W c d (VX cs-(k+1)) k []<|L.take i):=zn (λq hq=>n.lv q.1<|Pj.mpr ⟨q,VZ hq,rfl⟩) P;have eB:D_ W c d (VX cs-(k+1)) k [] (L.take<|i+1)=B3 W c d k p (D_ W c d (VX cs-(k+1)) k []<|L.take i) (sT W cs k p.1):=by
   unfold D_;rw[U6,R];show Wq _ _ (_++[p])=_;rw[ZR];rfl
  rw[eB];generalize D_ W c d (VX cs-(k+1)) k [] (L.take i)=B at F;refine⟨sbS a W bd rs cs c d k L B (on<|.h<|tN p.1) (on<|.h<|nw p.2) g m f,rfl,?_⟩;refine aq<|cG (ds:=(sT W cs k p.1).map tN) (β1:=β) (dD (fN rfl rfl<|FQ h X t) rfl) (λj D o=>β=o/\∃g m f,D=sbS a W bd rs cs c d k L (B3 W c d k p B<|(sT W cs k p.1).take j) (on<|.h<|tN p.1) (on<|.h<|nw p.2) g m f) ⟨rfl,g,m,f,rfl⟩ ?_ ?_
  .rintro j dd D _ r ⟨rfl,g,m,f,rfl⟩
   obtain⟨v,T,rfl⟩:=cQ r;have N:=PD T;have O:=(QK.mp N).1;have E:=eD<|(h.ok k p.1).subset O;have A:v.sum<=40:=Pk E.sum x;have lv:VX v=VX rs:=by rw[E.len];exact s
   have Q:B9 W rs (VX cs-(k+1)) (k+1) (B3 W c d k p B<|(sT W cs k p.1).take j):=zR t (λw O=>VZ O) F;have eC:B3 W c d k p B ((sT W cs k p.1).take<|j+1)=qk (B3 W c d k p B<|(sT W cs k p.1).take j) (less p.1 v) (rM p.2<|cf c d k v):=by
    unfold B3;rw[U6,T];show Wq _ _ (_++[v])=_;rw[ZR];rfl
   rw[eC];generalize B3 W c d k p B ((sT W cs k p.1).take j)=C at Q;have U:=xf (K:=K) (a:=a) (β:=β) (l:=v) (cd:=tN v) (.inr rfl) A;rw[u4]at U;refine⟨_,rfl,aE (d:=tN<|less p.1 v) (β1:=β) (ah rfl<|uC E V.2.1)<|aE (d:=nw<|rM p.2<|cf c d k v) (β1:=β) (ah (ac rfl<|ac (ah rfl<|E4<|by lia)<|ac (ah rfl<|E4<|by lia)<|ac (ah rfl U) rfl)<|Ln A (Pk b1 Y) (Pk b2 Z) (Pk b3 G)<|Pk b4 M)<|aq<|Ku (d:=nw<|rA (SF C<|less p.1 v)<|rM p.2<|cf c d k v) (kd:=tN<|less p.1 v) (β1:=β) (β2:=β) (b:=O8) (ks:=y3 C) (vs:=C_ C) (k:=(0,nI<|less p.1 v)) (ah (ac (Ko (b:=O8) (ks:=y3 C) (vs:=C_ C) (y:=(0,nI<|less p.1 v)) (z:=nw r0) rfl (ac rfl<|ac (ag rfl FE) rfl) (gY (b:=O8) (k:=(0,nI<|less p.1 v)) λ_=>rfl) HY)<|ac rfl rfl) K1) rfl rfl (gY (b:=O8) (k:=(0,nI<|less p.1 v)) λ_=>rfl) rfl (PZ (show _<1000 by rw[OY];exact H Q)<|by decide)<|aT ⟨rfl,on<|.h<|tN v,on<|.h<|tN<|less p.1 v,on<|.h<|nw<|rM p.2<|cf c d k v,?_⟩⟩;rw[KU (q:=rM p.2<|cf c d k v),KS Q.nd];rfl
  .rintro D _ ⟨rfl,g,m,f,rfl⟩
   rw[OY,Tv];exact aT ⟨rfl,_,_,_,_,_,rfl⟩
 .rintro D _ ⟨rfl,I,J,g,m,f,rfl⟩
  rw[OY,Tv];exact aq<|aM rfl ⟨rfl,rfl⟩
theorem M8{u:a0a}(h:u.sum=0):u=Py (VX u) 0:=List.eq_replicate_iff.mpr ⟨rfl,λx b=>by have:=fF b;lia⟩
theorem NC{c d:Nat×Nat}{S:R4}(h:q_ K a rs cs W bd)(hc:c.1<VX rs)(G:d.1<VX rs)(p:0<y1 W (VX cs) 0 rs)(e:TW W c d (VX cs) 0 rs=S)(r:S.1<=2^200)(t:S.2.1<=2^200)(v:S.2.2.1<=2^200)(l:S.2.2.2<=2^200):(eY K a).1 [e9 a W bd rs cs,y_ c,y_ d] β=on (.ok<|nw S,β):=by
 have V:=h.c6;have H:=h.nr.2.1;have y:0<S.1:=by rw[<-e];exact rj p
 unfold eY
 dsimp only
 refine aF<|aE (d:=dcN [(rs,r1)]) (β1:=β) (dq (ag (ac (fN rfl rfl rW) rfl)<|BC rs) (ag rfl FE) ?_) ?_
 .show(dR O8<|dK O8 (0,nI rs)).map _=_
  rw[gY λ_=>rfl];rfl
 refine cG (ds:=aW 0<|VX cs) (β1:=β) (bJ (ac (ag (ac (fN rfl rfl xW) rfl)<|jM cs) rfl)<|y2 (by lia)<|by lia) (λk δ m=>β=m/\∃L l,δ=[on<|.h<|e9 a W bd rs cs,on<|.h<|y_ c,on<|.h<|y_ d,on<|.h<|dcN L,l]/\(k<=VX cs->B9 W rs (VX cs-k) k L/\ra W c d (VX cs-k) k L=S)) ⟨rfl,[(rs,r1)],OZ,rfl,λ_=>⟨⟨RF _ _,λu g=>?_,λu g=>?_⟩,?_⟩⟩ ?_ ?_
 .rw[P0.mp g];exact P0.mpr rfl
 .rw[P0.mp g];exact p
 .show rA (rM r1<|TW W c d (VX cs) 0 rs) r0=S
  rw[zb,r1_M,e]
 .rintro k dd δ _ n ⟨rfl,L,o,rfl,j⟩
  obtain⟨A,rfl⟩:=uB n;obtain⟨b,i⟩:=j (by lia);refine⟨_,rfl,aq<|aE (d:=dcN<|D_ W c d (VX cs-(k+1)) k [] L) (β1:=β) (ah rfl<|NE h A hc G b i r t v l)<|aT ⟨rfl,D_ W c d (VX cs-(k+1)) k [] L,on<|.h<|.n (k:Int),rfl,λ_=>⟨zn (λq B=>b.lv q.1<|Pj.mpr ⟨q,B,rfl⟩) ⟨V0,λ_ h=>(by cases h),λ_ h=>(by cases h)⟩,?_⟩⟩⟩;rw[HS,show VX cs-(k+1)+1=VX cs-k by lia,i];exact zc S
 .rintro δ _ ⟨rfl,L,o,rfl,j⟩
  rw[mv]at j;obtain⟨b,i⟩:=j<|Pg _;rw[UG]at b i;have w:=Gp (z:=Py (VX rs) 0) b.nd i y λu g=>by
   obtain⟨P,E⟩:=iu h.ok h.sm (VX cs) (Pg _) u<|b.lv u g;rw[RJ<|Pg _]at E;rw[M8 E,P.len]
  subst w;have C:∀{δ:Dn} {f:FL},f δ β=on (.ok<|(nI rs).map D.n,β)->cS 1 [] f (hV 0) (λ_=>M.j7 O6) (lg<|fC<|.n 0) δ β=on (.ok<|nL<|Py (VX rs) 0,β):=λ{δ f} F=>by
   have:=bw (nv:=1) (cy:=[]) (tg:=hV 0) (f:=fC<|.n 0) (δ:=δ) (β:=β) (nI rs) D.n (λ_=> .n 0) F (λx _=>⟨_,rfl,rfl⟩) (bq<|by rw[OY];lia);refine this.trans ?_;rw[Xd,OY];show _=on (RG<|D.l<|QV D.n<|QV _<|Py _ 0,β);rw[Rk,Rk];rfl
  refine aq<|aM (β1:=β) (dq rfl (ag (ac (C<|dD (fN rfl rfl rW) rfl) rfl)<|BC _) ?_) ⟨rfl,rfl⟩;show(dR O8<|dK O8 (0,nI<|Py (VX rs) 0)).bind _=_;rw[gY λ_=>rfl];show la [_] [_] _=_;unfold la;rw[Rl,RO,Pn rfl];rfl
theorem Ni{i j:Nat}{f:FL}{c d:D}{h:G}{a:Ds}{β1:Bg}{Q:a0z}(e:f (vw a) β=on (.ok [c,d],β1))(k:Gw h ((a.set i<|on<|.h c).set j<|on<|.h d) β1 Q):Gw (aw (zV i j f) h) a β Q:=c8 (by unfold zV;rw[e]) k
theorem HW{x y:Nat}(h:0<y):L5 (.n (x:Int)) (.n (y:Int))=on (.n ((x % y:Nat):Int)):=by
 show(if decide ((0:Int)<(y:Int))=O6 then _ else _)=_;rw[Pc<|Pn<|by lia];rfl
theorem EJ{x y:Nat}:QE y (x % y)=QE x y:=by rw[Nat.gcd_comm x y,Nat.gcd_rec y x,Nat.gcd_comm]
theorem Kf(x y:Nat):(gr K a).1 [.n (x:Int),.n (y:Int)] β=on (.ok<|.n ((QE x y:Nat):Int),β):=by
 unfold gr
 dsimp only
 refine aF ?_;refine xg (λq w d=>β=d/\∃c b:Nat,w=[on<|.h<|.n (c:Int),on<|.h<|.n (b:Int)]/\b=q/\QE c b=QE x y) ?_ y _ β ⟨rfl,x,y,rfl,rfl,rfl⟩;rintro q w _ ⟨rfl,c,b,rfl,rfl,e⟩;by_cases z:b=0
 .subst z
  exact .inl ⟨β,(hO<|dq rfl rfl gt_int).trans (by rw[P8<|by lia]),aq<|aM rfl ⟨rfl,by rw[<-e,ZU]⟩⟩
 .exact .inr ⟨β,(hO<|dq rfl rfl gt_int).trans (by rw[Pn<|by lia]),aq<|Ni (β1:=β) (ac rfl<|ac (dq rfl rfl<|HW<|by lia) rfl)<|aT ⟨_,rfl,c % b,VG _ (by lia),rfl,b,c % b,rfl,rfl,EJ.trans e⟩⟩
theorem MD(x y:Nat):(rQ K a).1 [.n (x:Int),.n (y:Int)] β=on (.ok<|.n ((QE x y:Nat):Int),β):=by
 unfold rQ
 dsimp only
 refine aF ?_;refine xg (λq w d=>β=d/\∃c b:Nat,∃f,w=[on<|.h<|.n (c:Int),on<|.h<|.n (b:Int),f]/\b=q/\QE c b=QE x y) ?_ y _ β ⟨rfl,x,y,OZ,rfl,rfl,rfl⟩;rintro q w _ ⟨rfl,c,b,f,rfl,rfl,e⟩;by_cases z:b=0
 .subst z
  exact .inl ⟨β,(hO<|dq rfl rfl gt_int).trans (by rw[P8<|by lia]),aq<|aM rfl ⟨rfl,by rw[<-e,ZU]⟩⟩
 .exact .inr ⟨β,(hO<|dq rfl rfl gt_int).trans (by rw[Pn<|by lia]),aE (β1:=β) (dq rfl rfl<|HW<|by lia)<|aE (β1:=β) rfl<|aq<|aE (β1:=β) rfl<|aT ⟨_,rfl,c % b,VG _ (by lia),rfl,b,c % b,on<|.h<|.n ((c % b:Nat):Int),rfl,rfl,EJ.trans e⟩⟩
abbrev dj(p q:Nat):D:= .t [.n ((p/QE p q:Nat):Int),.n ((q/QE p q:Nat):Int)]
theorem N7{p q:Nat}(b:0<q)(h:q<2^1000):(pp K a).1 [.n (p:Int),.n (q:Int)] β=on (.ok<|dj p q,β):=by
 have c:0<QE p q:=SD _ b;have e:QE p q<2^1000:=Rc (W2 _ b) h;unfold pp
 dsimp only
 refine aF<|fS (hO<|dq rfl rfl lt_int) (by simp;lia)<|bp ?_;exact aE (d:= .n ((QE p q:Nat):Int)) (β1:=β) (ah (ac (ag (z:= .n (p:Int)) rfl rfl)<|ac rfl rfl)<|Kf p q)<|aq<|aM (ag (ac (dq rfl rfl<|qT c e)<|ac (dq rfl rfl<|qT c e) rfl) eK) ⟨rfl,rfl⟩
theorem wc{p q:Nat}(b:0<q)(h:q<2^1000):(dE K a).1 [.n (p:Int),.n (q:Int)] β=on (.ok<|dj p q,β):=by
 have c:0<QE p q:=SD _ b;have e:QE p q<2^1000:=Rc (W2 _ b) h;unfold dE
 dsimp only
 exact aF<|aE (d:= .n ((QE p q:Nat):Int)) (β1:=β) (ah (ac (ag (z:= .n (p:Int)) rfl rfl)<|ac rfl rfl)<|MD p q)<|aq<|aM (ag (ac (dq rfl rfl<|qT c e)<|ac (dq rfl rfl<|qT c e) rfl) eK) ⟨rfl,rfl⟩
theorem vd{n m:Nat}(h:n<m):(fX K a).1 [.n (n:Int),.n (m:Int)] β=on (.ok .o,β):=by
 unfold fX
 dsimp only
 exact aF<|aq<|fS (nA<|hO<|AO rfl rfl rfl) (by simp;lia)<|bp<|aT ⟨rfl,rfl⟩
theorem Kg{c:Nat×Nat}(b:c.1<VX rs)(d:c.2<VX cs):(gu K a).1 [e9 a W bd rs cs,y_ c] β=on (.ok .o,β):=by
 have e:∀{β:Bg},(jD K a).1 [.n (c.1:Int),.n (c.2:Int),.n (VX rs:Int),.n (VX cs:Int)] β=on (.ok .o,β):=λ{β}=>by
  unfold jD
  dsimp only
  exact aF<|eU (β1:=β) (ah rfl<|vd b)<|aq<|eU (β1:=β) (ah rfl<|vd d)<|aT ⟨rfl,rfl⟩
 unfold gu
 dsimp only
 exact aF<|k6 (β1:=β) rfl rfl<|aq<|eU (β1:=β) (ah (ac rfl<|ac rfl<|ac (ag (ac (fN rfl rfl rW) rfl)<|jM rs)<|ac (ag (ac (fN rfl rfl xW) rfl)<|jM cs) rfl) e)<|aT ⟨rfl,rfl⟩
theorem N4{c:Nat×Nat}{S:R4}(h:q_ K a rs cs W bd)(hc:c.1<VX rs)(b:c.2<VX cs)(f:0<y1 W (VX cs) 0 rs)(e:TW W c c (VX cs) 0 rs=S)(g:S.1<=2^200)(i:S.2.1<=2^200)(j:S.2.2.1<=2^200)(k:S.2.2.2<=2^200):(jy K a).1 [e9 a W bd rs cs,.n (c.1:Int),.n (c.2:Int)] β=on (.ok<|dj S.2.1 S.1,β):=by
 have l:0<S.1:=by rw[<-e];exact rj f
 unfold jy
 dsimp only
 exact aF<|aE (d:=y_ c) (β1:=β) (ag rfl eK)<|eU (β1:=β) (ah rfl<|Kg hc b)<|k6 (β1:=β) (ah rfl<|NC h hc hc f e g i j k) rfl<|aq<|aM (ah rfl<|N7 l<|ff g<|by decide) ⟨rfl,rfl⟩
variable{B:a0f}{n:Nat}{c:Nat×Nat}
def kB(B:a0f):Nat->a0l->Bool
 |_,[]=>O6
 |k,v::vs=>i0 (ck B k) v&&kB B (k+1) vs
theorem gy:∀(m k:Nat) (r:a0a),j1 (wB B cs) m k r=(j1 (W0 cs) m k r).filter (kB B k)
 |0,_,_=>rfl
 |m+1,k,r=>by
  show((eo r<|cs.getD k 0).filter<|i0<|ck B k).flatMap (λv=>(j1 (wB B cs) m (k+1)<|less r v).map (v::·))=((eo r<|cs.getD k 0).flatMap λv=>(j1 (W0 cs) m (k+1)<|less r v).map (v::·)).filter (kB B k);rw[Y6];generalize eo r (cs.getD k 0)=l
  induction l with
  |nil=>rfl
  |cons v l c=>
   rw[SK,QJ,Xa];by_cases q:i0 (ck B k) v=O6
   .rw[Pc q,QJ,c,gy m]
    congr 2;refine ZQ λa _=>?_;show _=(i0 (ck B k) v&&kB B (k+1) a);rw[q];rfl
   .rw[Pd q,c,Yl.mpr,RX,R5]
    intro a _ h;have h:(i0 (ck B k) v&&kB B (k+1) a)=O6:=h;exact q (Tj.mp h).1
abbrev iB(B:a0f)(a:a0l):Nat:=if kB B 0 a=O6 then 1 else 0
theorem yQ{f:a0l->Nat}:∀{l:List a0l},L2.Nt.sm (l.filter<|kB B 0) f=L2.Nt.sm l λa=>f a*iB B a
 |[]=>rfl
 |v::l=>by
  rw[SK,aS,<-yQ];unfold iB;by_cases q:kB B 0 v=O6
  .rw[Pc q,Pc q,aS,Xh]
  .rw[Pd q,Pd q,Uc,Qu]
theorem zJ:∀{vs:a0l} {k j:Nat} {v:a0a},kB B k vs=O6->vs[j]?=on v->i0 (ck B<|k+j) v=O6
 |w::vs,k,j,v,h,e=>by
  have h:=Tj.mp (show(i0 (ck B k) w&&kB B (k+1) vs)=O6 from h);cases j with
  |zero=>cases e;exact h.1
  |succ j=>rw[show k+(j+1)=k+1+j by lia];exact zJ h.2 e
theorem wj:∀{a:a0l} {k:Nat},(∀j v,a[j]?=on v->i0 (ck B<|k+j) v=O6)->kB B k a=O6
 |[],_,_=>rfl
 |w::a,k,h=>by
  show(i0 (ck B k) w&&kB B (k+1) a)=O6;rw[show i0 (ck B k) w=O6 from h 0 w rfl,wj λj v e=>by rw[show k+1+j=k+(j+1) by lia];exact h (j+1) v e];rfl
theorem Ex:∀{vs:a0l} {k j:Nat} {v w:a0a},vs[j]?=on v->i0 (ck B<|k+j) w=i0 (ck B<|k+j) v->kB B k (vs.set j w)=kB B k vs
 |u::vs,k,0,v,w,e,h=>by
  cases e;show(i0 (ck B k) w&&_)=(i0 (ck B k) u&&_);rw[show i0 (ck B k) w=i0 (ck B k) u from h]
 |u::vs,k,j+1,v,w,e,h=>by
  show(i0 (ck B k) u&&kB B (k+1) (vs.set j w))=_;rw[Ex (vs:=vs) (k:=k+1) (v:=v) e<|by rw[show k+1+j=k+(j+1) by lia];exact h];rfl
theorem xU:∀{a:a0k} {v:a0a} {i x y:Nat},a[i]?=on (0,40)->v[i]?=on x->x<=40->y<=40->i0 a (v.set i y)=i0 a v
 |p::a,u::v,0,x,y,h1,h2,h3,h4=>by
  cases h1;cases h2;show(decide (0<=y)&&decide (y<=40)&&i0 a v)=(decide (0<=u)&&decide (u<=40)&&i0 a v);rw[Pn h3,Pn h4,Pn<|Qk _,Pn<|Qk _]
 |p::a,u::v,i+1,x,y,h1,h2,h3,h4=>by
  show(decide (p.1<=u)&&decide (u<=p.2)&&i0 a (v.set i y))=(decide (p.1<=u)&&decide (u<=p.2)&&i0 a v);rw[xU (show a[i]?=_ from h1) (show v[i]?=_ from h2) h3 h4]
theorem vY:∀{a:a0k} {v:a0a} {i:Nat} {p:Nat×Nat} {x:Nat},i0 a v=O6->a[i]?=on p->v[i]?=on x->p.1<=x/\x<=p.2
 |p::a,x::v,i,q,y,h,h1,h2=>by
  have h:(decide (p.1<=x)&&decide (x<=p.2)&&i0 a v)=O6:=h;rw[PV,PV,P9,P9]at h;cases i with
  |zero=>cases h1;cases h2;exact h.1
  |succ i=>exact vY h.2 h1 h2
theorem DI:∀{a:a0k} {v:a0a},(∀p∈a,p=(0,40))->v.sum<=40->i0 a v=O6
 |[],_,_,_=>by unfold i0;rfl
 |_::_,[],_,_=>by unfold i0;rfl
 |p::a,x::v,h,h1=>by
  rw[PL]at h1;cases h p Pa;show(decide (0<=x)&&decide (x<=40)&&i0 a v)=O6;rw[DI (λp b=>h p<|O1 _ b) (by lia),Pn<|Qk x,Pn (by lia:x<=40)];rfl
theorem qR{l:a0a}{i:Nat}(h:l.sum<=40):l.getD i 0<=40:=by
 rcases SY i (VX l) with z|z
 .rw[bM z];exact Pk (fF<|Qd z) h
 .rw[O5,Ri z];exact Qk _
theorem sD{a:Type}{l:List a}{i:Nat}{d:a}(h:i<VX l):l[i]?=on (l.getD i d):=by rw[bM h];exact O4 h
abbrev XB(B:a0f)(rs cs:a0a)(c:Nat×Nat):Nat:=L2.Nt.sm (j1 (wB B cs) (VX cs) 0 rs) λa=>wt a*at_ c a
theorem M0{y d:Nat}(k:VX rs=n)(D:rs.sum=cs.sum)(f:cs.sum<=40)(p:c.1<n)(b:c.2<VX cs)(m:rs.getD c.1 0=y+1)(o:cs.getD c.2 0=d+1)(hc:(ck B c.2)[c.1]?=on (0,40)):XB B rs cs c=cs.getD c.2 0*vr (wB B<|cs.set c.2 d) (VX cs) 0 (rs.set c.1 y):=by
 unfold XB;rw[gy,yQ,<-jd,gy,yQ,bv (g:=λa=>wt a*(at_ c a*iB B a)) λa _=>Qh _ _ _,yk (g:=iB B) k D p b m o];congr 1;refine bv λa q=>?_;have u:=cz (l:=rs) (i:=c.1) (x:=y+1) (y:=y) (by rw[<-m];exact sD<|by lia);have v:=cz (l:=cs) (i:=c.2) (x:=d+1) (y:=d) (by rw[<-o];exact sD b);have h:=(fm (n:=n) (cs:=cs.set c.2 d) (rs:=rs.set c.1 y) (by rw[PX];exact k)<|by lia).mp (by rw[PX];exact q);have j:c.2<VX a:=by rw[h.len,PX];exact b
 have E:=h.ln _<|lO j;have w:=h.at j;rw[ix b,Pc rfl]at w;have r:=qR (i:=c.2) f;have t:at_ c a<=d:=by
  show(a.getD c.2 []).getD c.1 0<=d;rw[<-w,bM<|by lia];exact fF<|Qd _
 have e:kB B 0 (mm c a)=kB B 0 a:=Ex (sD (d:=[]) j) (by
  rw[Qu];exact xU hc (sD (d:=0)<|by lia) (show at_ c a<=40 by lia)<|by lia)
 show wt a*iB B (mm c a)=wt a*iB B a;unfold iB;rw[e]
theorem M1(hc:(ck B c.2)[c.1]?=on (0,0)):XB B rs cs c=0:=FU λa b=>by
 rw[gy]at b;have h:=(QK.mp b).2;have:at_ c a=0:=by
  show(a.getD c.2 []).getD c.1 0=0;rcases SY c.2 (VX a) with z|z
  .rcases SY c.1 (VX<|a.getD c.2 []) with y|y
   .have:=vY (zJ h<|sD (d:=[]) z) (by rw[Qu];exact hc)<|sD (d:=0) y
    simp only at this;lia
   .rw[O5,Ri y];rfl
  .rw[O5 (l:=a),Ri z];rfl
 rw[this,Uc]
theorem zg{vs:a0l}(b:VX rs=n)(a:rs.sum=cs.sum)(h:vs∈j1 (wB B cs) (VX cs) 0 rs):Gv n rs cs vs:=by
 rw[gy]at h;exact(fm b a).mp (QK.mp h).1
theorem M2(d:VX rs=n)(a:rs.sum=cs.sum)(e:c.1<n)(f:c.2<VX cs)(h:rs.getD c.1 0=0\/cs.getD c.2 0=0):XB B rs cs c=0:=FU λw b=>by
 rw[gy]at b;rw[MU d a e f h w (QK.mp b).1,Uc]
theorem MZ{i:Nat}(f:VX rs=n)(c:rs.sum=cs.sum)(g:i<n):(L2.Nt.sm (Ph<|VX cs) λj=>XB B rs cs (i,j))=rs.getD i 0*L2.Nt.sm (j1 (wB B cs) (VX cs) 0 rs) wt:=by
 unfold XB;rw[xu,<-gn];refine bv λa h=>?_;have b:=zg f c h;have e:(L2.Nt.sm (Ph<|VX cs) λj=>at_ (i,j) a)=rs.getD i 0:=by
  rw[<-b.rw,vL b.ln g,<-b.len];show((Ph<|VX a).map λj=>(a.getD j []).getD i 0).sum=_;congr 1;exact RB (by simp) λk l d=>by
   rw[OY]at d;rw[RC,Sh,RC,bM d]
 rw[<-e,Ql,<-gn]
theorem Lo(f:VX rs=n)(a:rs.sum=cs.sum)(g:cs.sum<=40)(h:∀row∈B,∀p∈row,p=(0,40))(c:i4 n (VX cs) B):j1 (wB B cs) (VX cs) 0 rs=j1 (W0 cs) (VX cs) 0 rs:=by
 rw[gy];refine List.filter_eq_self.mpr λw i=>?_;have b:=(fm f a).mp i;refine wj λj v e=>?_;rw[Qu];have k:j<VX w:=(Pl.mp e).1;refine DI (λp l=>?_) ?_
 .obtain⟨row,d,rfl⟩:=Pj.mp l
  have m:j<VX row:=by rw[c.2 row d,<-b.len];exact k
  exact h row d _ (by rw[bM m];exact Qd _)
 .have:v.sum∈cs:=by rw[<-b.cl];exact Pj.mpr ⟨v,PD e,rfl⟩
  have:=fF this;lia
theorem ub{ba:a0u}(h:VX ba<=1000):(iU K a).1 [lG ba] β=on (.ok<|lG ba,β):=
 aF (aq<|aM (bw ba D.l D.l rfl (λx _=>⟨_,rfl,rfl⟩)<|bq h) ⟨rfl,rfl⟩)
theorem Es{c:Nat}(hc:c<=1000){δ:Dn}{n:Nat}(e:δ.getD n OZ=on (.n (c:Int))):cS 1 [] (bV dM<|aa (ad n)<|am) (hV 0) (λ_=>M.j7 O6) (lg<|aB da<|aa (fC<|.n 0)<|aa (fC<|.n 40)<|am) δ β=on (.ok<|.l<|(Py c ((0:Int),(40:Int))).map pD,β):=by
 have h:=bw (nv:=1) (cy:=[]) (it:=bV dM<|aa (ad n)<|am) (tg:=hV 0) (f:=aB da<|aa (fC<|.n 0)<|aa (fC<|.n 40)<|am) (δ:=δ) (β:=β) (Ph c) (λi=>D.n<|0+(i:Int)) (λ_=>pD (0,40))
  (bJ (as:=[.n (c:Int)]) (ac (x:= .n (c:Int)) (β1:=β) (by unfold Pu.ad;rw[e];rfl) rfl)<|y2 (by lia)<|by lia) (λx _=>⟨_,rfl,ag rfl eK⟩) (bq<|by rw[PY];lia)
 rw[eQ]at h;rw[Rk];exact h
theorem GH{r c:Nat}(b:r<=1000)(hc:c<=1000):(lw K a).1 [.n (r:Int),.n (c:Int)] β=on (.ok<|bO<|i6 r c,β):=by
 have h:=bw (nv:=1) (cy:=[1]) (it:=bV dM<|aa (ad 0)<|am) (tg:=hV 0) (f:=cS 1 [] (bV dM<|aa (ad 1)<|am) (hV 0) (λ_=>M.j7 O6)<|lg<|aB da<|aa (fC<|.n 0)<|aa (fC<|.n 40)<|am) (δ:=[on<|.n (r:Int),on<|.n (c:Int)]) (β:=β) (Ph r) (λi=>D.n<|0+(i:Int)) (λ_=> .l<|(Py c ((0:Int),(40:Int))).map pD)
  (bJ rfl<|y2 (by lia)<|by lia) (λx _=>⟨_,rfl,Es hc rfl⟩) (bq<|by rw[PY];lia)
 rw[eQ]at h;unfold lw
 dsimp only
 refine aF<|aq<|aM h ⟨rfl,?_⟩;simp only[bO,gP,i6,lG,Rk]
theorem Et{r c:Nat}(d:r<=1000)(hc:c<=1000):mJ K a [.n (r:Int),.n (c:Int)] β=on (.ok<|gP<|i6 r c,β):=by
 have b:∀x:Nat,iC 1 [] (bV dM<|aa (ad 1)<|am) (hV 0) (λ_=>M.j7 O6) (lg<|aB da<|aa (fC<|.n 0)<|aa (fC<|.n 40)<|am) [on<|.n<|0+(x:Int),on<|.n (c:Int)] β=on (.ok<|(Py c ((0:Int),(40:Int))).map pD,β):=λx=>by
  have h:=E3 (nv:=1) (cy:=[]) (it:=bV dM<|aa (ad 1)<|am) (tg:=hV 0) (f:=aB da<|aa (fC<|.n 0)<|aa (fC<|.n 40)<|am) (δ:=[on<|.n<|0+(x:Int),on<|.n (c:Int)]) (β:=β) (Ph c) (λi=>D.n<|0+(i:Int)) (λ_=>pD (0,40))
   (bJ rfl<|y2 (by lia)<|by lia) (λx _=>⟨_,rfl,ag rfl eK⟩) (bq<|by rw[PY];lia)
  rw[eQ]at h;rw[Rk];exact h
 have h:=ud (nv:=1) (cy:=[1]) (it:=bV dM<|aa (ad 0)<|am) (tg:=hV 0) (f:=iC 1 [] (bV dM<|aa (ad 1)<|am) (hV 0) (λ_=>M.j7 O6)<|lg<|aB da<|aa (fC<|.n 0)<|aa (fC<|.n 40)<|am) (δ:=[on<|.n (r:Int),on<|.n (c:Int)]) (β:=β) (Ph r) (λi=>D.n<|0+(i:Int)) (λ_=>(Py c ((0:Int),(40:Int))).map pD)
  (bJ rfl<|y2 (by lia)<|by lia) (λx _=>⟨_,rfl,b x⟩) (bq<|by rw[PY];lia)
 rw[eQ]at h;refine Ki<|aq<|IL h ⟨rfl,?_⟩;show gP (i6 r c)=_;show QV _ _=_;rw[Rk]
abbrev brS(ba:LI)(b:LP)(d e f g:a0Z):Ds:=[on<|.h .bag,on<|.h<|bF ba,on<|.grd<|gP b,d,e,f,g]
def Br(b:LP):Prop:=∀a∈b,∀p∈a,p=(0,0)\/p=(0,40)
def BrI(r c:Nat)(ba:LI)(d e:a0Z)(a:Ds)(β:Bg):Prop:=β.ok/\∃(b:LP) (f g:a0Z),a=brS ba b d e f g/\B_ r c b/\Kp ba b/\Br b
theorem Kj{r c:Nat}{ba:LI}(t:Tab r c ba)(ok:β.ok):∃(b:LP) (k:Bg),(jz K a).1 [.bag,bF ba] β=on (.ok<|bO b,k)/\B_ r c b/\Kp ba b/\Br b/\k.ok:=by
 suffices h:∃g k,(jz K a).1 [.bag,bF ba] β=on (g,k)/\(∃(b:LP),g= .ok (bO b)/\B_ r c b/\Kp ba b/\Br b/\k.ok) by
  obtain⟨g,k,e,b,rfl,h1,h2⟩:=h;exact⟨b,k,e,h1,h2⟩
 have r1:=t.r1;have c1:=t.c1;have c0:=t.c0;have r0:=t.r0;obtain⟨v,A,C⟩:=t.shp.at (i:=0) (by lia);have Y:(gI ba)[0]?=on (v.map D.n):=by rw[O9,A];rfl
 have V:Br (i6 r c):=λB h p J=>by
  rw[(Q0.mp h).2]at J;exact .inr (Q0.mp J).2
 unfold jz
 dsimp only
 refine jU ?_;refine Ht (β1:=β) (IK (as:=[.n (r:Int),.n (c:Int)]) (β1:=β) (ac (ag rfl<|qB<|by rw[OY,t.shp.1])<|ac (ag (ac (x:= .l<|v.map D.n) (dq rfl rfl<|oq Y) rfl)<|cW<|by rw[OY,C]) rfl)<|Et (by lia)<|by lia) (LW _) ?_;obtain⟨Z,β1,p1,a0,a1,L⟩:=cc ok (lot:=3) (by decide) (by decide);refine kA (c:=decide (Z=0)) (β1:=β1) (hO<|dq (ah rfl p1) rfl eq_int) ?_;by_cases W:Z=0
 .rw[Pc<|by simpa using W]
  exact aM rfl ⟨_,rfl,B_.free r c,Kp.free t,V,L⟩
 rw[Pd<|by simpa using W];refine bp ?_;refine cG (ds:=db 0<|(gI ba).map D.l) (β1:=β1) rfl (λ_ E β=>∃G M,BrI r c ba G M E β) ⟨OZ,OZ,L,i6 r c,OZ,OZ,rfl,B_.free r c,Kp.free t,V⟩ ?_ ?_
 .rintro i d E β2 S ⟨G,M,F,b,U,X,rfl,o,H,hB⟩
  obtain⟨x,P,rfl⟩:=yi S;obtain⟨y,hy,rfl⟩:=cQ P;obtain⟨B,m,rfl⟩:=cQ hy;have hi:i<r:=by rw[<-t.shp.1];exact(Pl.mp m).1
  have N:VX B=c:=t.shp.2 B<|PD m;refine⟨brS ba b (on<|.h<|.n i) (on<|.h<|.l<|B.map D.n) U X,rfl,aq ?_⟩;refine cG (ds:=db 0<|B.map D.n) (β1:=β2) rfl (λ_=>BrI r c ba (on<|.h<|.n i)<|on<|.h<|.l<|B.map D.n) ⟨F,b,U,X,rfl,o,H,hB⟩ ?_ (λE β h=>aT ⟨_,_,h⟩);rintro j d E β3 S ⟨O,b,U,X,rfl,o,H,hB⟩;obtain⟨x,P,rfl⟩:=yi S;obtain⟨n,s,rfl⟩:=cQ P;have hj:j<c:=by rw[<-N];exact(Pl.mp s).1
  obtain⟨l,f,I⟩:=o.shp.at hi;refine⟨brS ba b (on<|.h<|.n i) (on<|.h<|.l<|B.map D.n) (on<|.h<|.n j)<|on<|.h<|.n n,rfl,?_⟩;by_cases q:n=0
  .obtain⟨w,u,p4,Z,w1,Q⟩:=cc O (lot:=2) (by decide) (by decide)
   refine aq<|kA (c:=decide (w=0)) (β1:=u) (Kq (β1:=β3) ((hO<|dq rfl rfl eq_int).trans<|by rw[Pn q])<|hO<|dq (ah rfl p4) rfl eq_int) ?_;by_cases q2:w=0
   .rw[Pc<|by simpa using q2]
    refine Hr (d:=pD (0,0)) (β1:=u) (β2:=u) (β3:=u) (ba:=gP b) (ds:=l.map pD) (ka:=i) (kb:=j) (ja:=i) (jb:=j) (ag rfl eK) rfl rfl rfl ?_ ?_ ?_ rfl ?_
    .rw[OY,o.shp.1];exact jO (by lia) (by lia)
    .rw[O9,f];rfl
    .rw[OY,I];exact jO (by lia) (by lia)
    .have R:(gP b).set i ((l.map pD).set j<|pD (0,0))=gP (b.set i<|l.set j (0,0)):=by
      show _=QV _ _;rw[R8,R8]
     rw[R];refine aT ⟨Q,_,_,_,rfl,o.set f ⟨by decide,by decide,by decide⟩,H.set f (m9 m s) (by lia) (by lia),λT h p J=>?_⟩;rcases hL h with z|z
     .rw[z]at J
      rcases hL J with y|y
      .exact .inl y
      .exact hB l (PD f) p y
     .exact hB T z p J
   .rw[Pd<|by simpa using q2]
    exact bp<|aT ⟨Q,b,_,_,rfl,o,H,hB⟩
  .refine aq (gj (β1:=β3) (Kr<|(hO<|dq rfl rfl eq_int).trans<|by rw[P8 q])<|bp<|aT ⟨O,b,_,_,rfl,o,H,hB⟩)
 .rintro E β2 ⟨G,M,F,b,U,X,rfl,o,H,hB⟩
  exact aq<|aM rfl ⟨b,rfl,o,H,hB,F⟩
structure GrW (ba:LI) (c:Nat) (rs:a0a):Prop where
 shp:i4 (VX rs) c ba
 nn:∀row∈ba,∀x∈row,0<=x
 sm:ba.map Q6=nI rs
 c1:1<=c
 c6:c<=6
 nr:B6 rs
 wd:pr (rs.dropLast.map (·+1))<63
theorem vb:∀{xs:a0e},(∀x∈xs,0<=x)->∃l:a0a,xs=nI l
 |[],_=>⟨[],rfl⟩
 |x::xs,h=>by
  obtain⟨l,e⟩:=vb λy b=>h y<|O1 _ b;have:=h x Pa;exact⟨x.toNat::l,by rw[e];show _=((x.toNat:Nat):Int)::_;rw[Int.toNat_of_nonneg this]⟩
theorem few2:∀x<41,∀y<41-x,(x+1)*((y+1)*1)<=500/\(x+1)*1<63:=by decide
theorem few3:∀x<12,∀y<12-x,∀z<12-x-y,(x+1)*((y+1)*((z+1)*1))<=500/\(x+1)*((y+1)*1)<63:=by decide
theorem few4:∀x<9,∀y<9-x,∀z<9-x-y,∀w<9-x-y-z,(x+1)*((y+1)*((z+1)*((w+1)*1)))<=500/\(x+1)*((y+1)*((z+1)*1))<63:=by decide
theorem few:∀{rs:a0a},(VX rs=2/\rs.sum<=40)\/(VX rs=3/\rs.sum<=11)\/(VX rs=4/\rs.sum<=8)->B6 rs/\pr (rs.dropLast.map (·+1))<63
 |[x,y],h=>by
  have q:=few2 x (by simp at h;lia) y (by simp at h;lia);exact⟨⟨by show 1<=2;decide,by show 2<=4;decide,by simp at h⊢;lia,q.1⟩,q.2⟩
 |[x,y,z],h=>by
  have q:=few3 x (by simp at h;lia) y (by simp at h;lia) z (by simp at h;lia);exact⟨⟨by show 1<=3;decide,by show 3<=4;decide,by simp at h⊢;lia,q.1⟩,q.2⟩
 |[x,y,z,w],h=>by
  have q:=few4 x (by simp at h;lia) y (by simp at h;lia) z (by simp at h;lia) w (by simp at h;lia);exact⟨⟨by show 1<=4;decide,by show 4<=4;decide,by simp at h⊢;lia,q.1⟩,q.2⟩
 |[],h=>by simp at h
 |[_],h=>by simp at h
 |_::_::_::_::_::_,h=>by simp at h
abbrev gdS(r c t:Nat)(ba:LI)(b d e:a0Z):Ds:=[on<|.h .bag,on<|.h<|.n (r:Int),on<|.h<|.n (c:Int),on<|.h<|.n (t:Int),on<|.grd<|gI ba,b,d,e]
theorem sj{r c t:Nat}(B:β.ok)(r0:1<=r)(r1:r<=4)(E:1<=c)(G:c<=6)(F:(r=2/\t<=40)\/(r=3/\t<=11)\/(r=4/\t<=8)):∃(ba:LI) (rs:a0a) (j:Bg),ge K a [.bag,.n (r:Int),.n (c:Int),.n (t:Int)] β=on (.ok<|bF ba,j)/\GrW ba c rs/\j.ok:=by
 suffices h:∃g j,ge K a [.bag,.n (r:Int),.n (c:Int),.n (t:Int)] β=on (g,j)/\(∃(ba:LI) (rs:a0a),g= .ok (bF ba)/\GrW ba c rs/\j.ok) by
  obtain⟨g,j,e,ba,rs,rfl,I,J⟩:=h;exact⟨ba,rs,j,e,I,J⟩
 refine jU ?_;unfold pE;refine Ht (ba:=(Ph r).map λ_=>Py c<|D.n 0) (β1:=β) (ud (Ph r) (λi=>D.n<|0+(i:Int)) _ (bJ (ds:=aW 0 r) rfl<|y2 (by lia)<|by lia) (λx _=>⟨_,rfl,N0 (x:= .n 0) (c:=c) rfl rfl<|by lia⟩)<|bq<|by rw[PY];lia) ?_ ?_
 .rw[Sf]
  intro x k;obtain⟨_,_,rfl⟩:=Pj.mp k;rw[<-Rk (f:=D.n)];exact kn _
 have L:(Ph r).map (λ_=>Py c<|D.n 0)=gI (Py r<|Py c 0):=by
  show _=QV _ _;rw[Rk,Xd,Rk,PY]
 rw[L];refine cG (ds:=aW 0 t) (β1:=β) (bJ rfl<|y2 (by lia)<|by lia) (λi w β=>β.ok/\∃ba p q y,w=gdS r c t ba p q y/\i4 r c ba/\(∀row∈ba,∀x∈row,0<=x)/\tot ba=(i:Int)) ⟨B,Py r<|Py c 0,OZ,OZ,OZ,rfl,⟨by simp,λrow h=>?_⟩,λrow h x k=>?_,?_⟩ ?_ ?_
 .rw[(Q0.mp h).2];simp
 .rw[(Q0.mp h).2]at k
  rw[(Q0.mp k).2];exact Y5 _
 .unfold tot
  rw[Rk];have z:∀n:Nat,(Py n (0:Int)).sum=0:=λn=>by
   induction n with
   |zero=>rfl
   |succ n M=>rw[Q4,PL,M];rfl
  rw[z,z];rfl
 .rintro i d w j hd ⟨m,ba,p,q,y,rfl,sh,nn,F⟩
  obtain⟨v,β1,N,R,T,A⟩:=cc m (lot:=(r:Int)) (by lia) (by lia);obtain⟨u,β2,O,U,X,C⟩:=cc A (lot:=(c:Int)) (by lia) (by lia);obtain⟨v,rfl⟩:∃n:Nat,v=(n:Int):=⟨v.toNat,by lia⟩;obtain⟨u,rfl⟩:∃n:Nat,u=(n:Int):=⟨u.toNat,by lia⟩;obtain⟨row,b,o⟩:=sh.at (i:=v) (by lia);obtain⟨x,k⟩:=IA (l:=row) (i:=u) (by lia);refine⟨_,rfl,aE (ah rfl N)<|aE (ah rfl O)<|aq<|Hr (d:= .n<|x+1) (β1:=β2) (β2:=β2) (β3:=β2) (ba:=gI ba) (ds:=row.map D.n) (ka:=v) (kb:=u) (ja:=v) (jb:=u) (dq (dq (dq rfl rfl<|oq (row:=row.map D.n) ?_) rfl<|dS (d:= .n x) ?_) rfl rfl) rfl rfl rfl ?_ ?_ ?_ rfl<|aT ⟨C,ba.set v<|row.set u<|x+1,on<|.h d,on<|.h<|.n (v:Int),on<|.h<|.n (u:Int),?_,sh.set b,LX nn b ?_,?_⟩⟩
  .rw[O9,b];rfl
  .rw[O9,k];rfl
  .rw[OY,sh.1];exact jO (by lia) (by lia)
  .rw[O9,b];rfl
  .rw[OY,o];exact jO (by lia) (by lia)
  .show[_,_,_,_,on<|Sl.grd<|(gI ba).set v<|(row.map D.n).set u<|.n<|x+1,_,_,_]=_
   rw[show(gI ba).set v ((row.map D.n).set u<|.n<|x+1)=gI (ba.set v<|row.set u<|x+1) by show _=QV _ _;rw[R8,R8]]
  .have:=nn row (PD b) x<|PD k
   lia
  .have:=IW (v:=x+1) b k
   lia
 .rintro w j ⟨m,ba,p,q,y,rfl,sh,nn,H⟩
  rw[mv]at H;obtain⟨rs,e⟩:=vb (xs:=ba.map Q6) λx k=>by
   obtain⟨row,Q,rfl⟩:=Pj.mp k;exact pX<|nn row Q
  have l:VX rs=r:=by rw[<-sh.1,<-OY (as:=ba) Q6,e,OY]
  have s:rs.sum=t:=by
   have h:(ba.map Q6).sum=(t:Int):=H;rw[e,jJ]at h;lia
  obtain⟨P,S⟩:=few (rs:=rs) (by rw[l,s];exact F);exact aq<|aM rfl ⟨ba,rs,rfl,⟨by rw[l];exact sh,nn,e,E,G,P,S⟩,m⟩
theorem GD(G:β.ok):∃(c:LI) (rs:a0a) (b:Bg),jL K a [.bag] β=on (.ok<|bF c,b)/\GrW c 2 rs/\b.ok:=by
 suffices h:∃g b,jL K a [.bag] β=on (g,b)/\(∃(c:LI) (rs:a0a),g= .ok (bF c)/\GrW c 2 rs/\b.ok) by
  obtain⟨g,b,e,c,rs,rfl,u,y⟩:=h;exact⟨c,rs,b,e,u,y⟩
 refine jU ?_;unfold pC;refine yA (ds:=[]) (β1:=β) rfl (Qk _) ?_;obtain⟨f,β1,A,W,s,o⟩:=cc G (lot:=6) (by decide) (by decide);have p:∃l:a0a,g8 (.l [nL [40],nL [39,1],nL [30,10],nL [20,20],nL [24,15],nL [13,27]]) (.n f)=on (nL l)/\B6 l/\pr (l.dropLast.map (·+1))<63/\VX l<=2/\∀x∈l,x<=40:=by
  obtain rfl|rfl|rfl|rfl|rfl|rfl:f=0\/f=1\/f=2\/f=3\/f=4\/f=5:=by lia
  .exact⟨[40],rfl,⟨by decide,by decide,by decide,by decide⟩,by decide,by decide,by decide⟩
  .exact⟨[39,1],rfl,⟨by decide,by decide,by decide,by decide⟩,by decide,by decide,by decide⟩
  .exact⟨[30,10],rfl,⟨by decide,by decide,by decide,by decide⟩,by decide,by decide,by decide⟩
  .exact⟨[20,20],rfl,⟨by decide,by decide,by decide,by decide⟩,by decide,by decide,by decide⟩
  .exact⟨[24,15],rfl,⟨by decide,by decide,by decide,by decide⟩,by decide,by decide,by decide⟩
  .exact⟨[13,27],rfl,⟨by decide,by decide,by decide,by decide⟩,by decide,by decide,by decide⟩
 obtain⟨l,p,M,P,z,S⟩:=p;refine cG (ds:=(nI l).map D.n) (β1:=β1) (dD (dq (ag rfl rfl) (ah rfl A) p) rfl) (λi B β=>β.ok/\∃c q r,B=[on<|.h .bag,on<|.u<|(gI c).map D.l,q,r]/\VX c=i/\(∀w∈c,VX w=2/\∀x∈w,0<=x)/\c.map Q6=nI (l.take i)) ⟨o,[],OZ,OZ,rfl,rfl,λ_ h=>(by cases h),rfl⟩ ?_ ?_
 .rintro i d B b hd ⟨j,c,q,r,rfl,k,m,hs⟩
  obtain⟨n,E,rfl⟩:=uG hd;have C:=S n<|PD E;have I:=(Pl.mp E).1;obtain⟨v,V,F,J,L,t⟩:=cc j (lot:=(n:Int)+1) (by lia) (by lia);refine⟨_,rfl,aE (ah (ac rfl<|ac (dq rfl rfl rfl) rfl) F)<|aq<|yB (cs:=(gI c).map D.l) (d:= .l [.n v,.n<|(n:Int)-v]) rfl (ac (ag (ac rfl<|ac (dq rfl rfl rfl) rfl) rfl) rfl) (PZ (show _<1000 by rw[OY,OY];lia)<|by decide)<|aT ⟨t,c++[[v,(n:Int)-v]],on<|.h<|.n (n:Int),on<|.h<|.n v,?_,by rw[PR,k];rfl,λw h=>?_,?_⟩⟩
  .show _=[_,on<|Sl.u<|QV _<|QV _<|c++_,_,_]
   rw[Qc,Qc];rfl
  .rcases QB.mp h with h|h
   .exact m w h
   .cases P0.mp h
    refine⟨rfl,λx H=>?_⟩;simp at H;lia
  .rw[Qc,hs,U6,E]
   show _=QV _ (_++_);rw[Qc];congr 1;simp;lia
 .rintro B b ⟨j,c,q,r,rfl,k,m,hs⟩
  rw[qw]at k;rw[qw,Tv]at hs;exact aq<|aM rfl ⟨c,l,rfl,⟨⟨k,λw h=>(m w h).1⟩,λw h=>(m w h).2,hs,by decide,by decide,M,P⟩,j⟩
theorem GM(V:β.ok):∃(ba:LI) (c:Nat) (rs:a0a) (b:Bg),ir K a [.bag] β=on (.ok<|bF ba,b)/\GrW ba c rs/\b.ok:=by
 suffices h:∃g b,ir K a [.bag] β=on (g,b)/\(∃(ba:LI) (c:Nat) (rs:a0a),g= .ok (bF ba)/\GrW ba c rs/\b.ok) by
  obtain⟨g,b,e,ba,c,rs,rfl,F,H⟩:=h;exact⟨ba,c,rs,b,e,F,H⟩
 refine jU ?_;unfold mS;obtain⟨u,β1,I,W,s,l⟩:=cc V (lot:=6) (by decide) (by decide);refine kA (hO<|dq (ah rfl I) rfl eq_int) ?_;by_cases q:u=0
 .obtain⟨ba,rs,w,e,g,f⟩:=GD (K:=K) (a:=a) l
  rw[Pc<|Pn q];exact aM (ah rfl e) ⟨ba,2,rs,rfl,g,f⟩
 rw[Pd<|by simp[q]];refine bp ?_;obtain⟨y,w,J,O,x,f⟩:=cc l (lot:=5) (by decide) (by decide);refine aE (ah rfl J) ?_;refine kA (β1:=w) (hO<|dq rfl rfl eq_int) ?_;by_cases E:y=0
 .rw[Pc<|Pn E]
  obtain⟨c,B,m,G,M,i⟩:=cc f (lot:=5) (by decide) (by decide);obtain⟨t,o,p,C,P,j⟩:=cc i (lot:=25) (by decide) (by decide);obtain⟨c,rfl⟩:∃n:Nat,c=(n:Int):=⟨c.toNat,by lia⟩;obtain⟨t,rfl⟩:∃n:Nat,t=(n:Int):=⟨t.toNat,by lia⟩;obtain⟨ba,rs,v,e,g,k⟩:=sj (K:=K) (a:=a) (r:=2) (c:=2+c) (t:=t) j (by decide) (by decide) (by lia) (by lia) (by lia);exact aM (ah (ac rfl<|ac rfl<|ac (dq (z:= .n ((2+c:Nat):Int)) rfl (ah rfl m) (by show on (D.n _)=_;rw[Sx];rfl))<|ac (ah rfl p) rfl) e) ⟨ba,2+c,rs,rfl,g,k⟩
 rw[Pd<|by simp[E]];refine bp ?_;refine kA (β1:=w) (hO<|dq rfl rfl eq_int) ?_;by_cases S:y=1
 .rw[Pc<|Pn S]
  obtain⟨c,B,m,G,M,i⟩:=cc f (lot:=2) (by decide) (by decide);obtain⟨t,o,p,C,P,j⟩:=cc i (lot:=9) (by decide) (by decide);obtain⟨c,rfl⟩:∃n:Nat,c=(n:Int):=⟨c.toNat,by lia⟩;obtain⟨t,rfl⟩:∃n:Nat,t=(n:Int):=⟨t.toNat,by lia⟩;obtain⟨ba,rs,v,e,g,k⟩:=sj (K:=K) (a:=a) (r:=4) (c:=2+c) (t:=t) j (by decide) (by decide) (by lia) (by lia) (by lia);exact aM (ah (ac rfl<|ac rfl<|ac (dq (z:= .n ((2+c:Nat):Int)) rfl (ah rfl m) (by show on (D.n _)=_;rw[Sx];rfl))<|ac (ah rfl p) rfl) e) ⟨ba,2+c,rs,rfl,g,k⟩
 rw[Pd<|by simp[S]];refine bp ?_;obtain⟨r,B,m,G,M,i⟩:=cc f (lot:=2) (by decide) (by decide);obtain⟨c,o,p,C,P,j⟩:=cc i (lot:=3) (by decide) (by decide);obtain⟨t,v,L,Q,R,k⟩:=cc j (lot:=12) (by decide) (by decide);obtain⟨r,rfl⟩:∃n:Nat,r=(n:Int):=⟨r.toNat,by lia⟩;obtain⟨c,rfl⟩:∃n:Nat,c=(n:Int):=⟨c.toNat,by lia⟩;obtain⟨t,rfl⟩:∃n:Nat,t=(n:Int):=⟨t.toNat,by lia⟩;obtain⟨ba,rs,N,e,g,A⟩:=sj (K:=K) (a:=a) (r:=2+r) (c:=2+c) (t:=t) k (by lia) (by lia) (by lia) (by lia) (by lia);refine aE (d:= .n ((2+r:Nat):Int)) (dq rfl (ah rfl m) (by show on (D.n _)=_;rw[Sx];rfl)) ?_;refine aE (d:= .n ((2+c:Nat):Int)) (dq rfl (ah rfl p) (by show on (D.n _)=_;rw[Sx];rfl)) ?_;exact aq<|aM (ah (ac rfl<|ac rfl<|ac rfl<|ac (ah rfl L) rfl) e) ⟨ba,2+c,rs,rfl,g,A⟩
variable{vs:a0l}
structure W_ (n:Nat) (vs:a0l):Prop where
 l1:1<=VX vs
 l6:VX vs<=6
 ln:∀v∈vs,VX v=n
 nr:B6 (kl n vs)
 wd:pr ((kl n vs).dropLast.map (·+1))<63
abbrev T_(vs:a0l):a0a:=vs.map Q6
abbrev p0(n:Nat)(vs:a0l):LI:=tp n<|vs.map nI
theorem HU(v:a0a)(j:Nat):(nI v).getD j 0=((v.getD j 0:Nat):Int):=by
 rw[O5,O5,O9];cases v[j]?<;>rfl
theorem W_.len(h:W_ n vs):VX (kl n vs)=n:=fE h.ln
theorem lu(d:∀v∈vs,VX v=n):(p0 n vs).map Q6=nI (kl n vs):=by
 have e:kl n vs=(Ph n).map λj=>(kl n vs).getD j 0:=RB (by rw[fE d,OY,PY]) λi f g=>by
  rw[RC,Sh,bM f]
 rw[e];unfold p0 tp z_;show QV _ (QV _ _)=QV _ (QV _ _);rw[Pp,Pp];refine P4 λj b=>?_;have b:=PN.mp b;show((vs.map nI).map λa=>a.getD j 0).sum=(((kl n vs).getD j 0:Nat):Int);rw[vL d b,<-jJ,Pp];show _=(QV _<|QV _ _).sum;rw[Pp];exact QG Q6<|P4 λv _=>HU v j
theorem K0(b:∀v∈vs,VX v=n):i4 (VX vs) n (vs.map nI):=⟨OY _,λa d=>by
 obtain⟨v,e,rfl⟩:=Pj.mp d;rw[OY];exact b v e⟩
theorem vK(b:∀v∈vs,VX v=n):tp (VX vs) (p0 n vs)=vs.map nI:=Hy<|K0 b
theorem jc:i4 n (VX vs) (p0 n vs):=rE<|OY _
theorem uF(vs:a0l):(vs.map nI).map Q6=nI (T_ vs):=by
 show _=QV _ (QV _ _);rw[Pp,Pp];exact P4 λv _=>jJ v
theorem W_.nt0(h:W_ n vs):Nt0 (kl n vs) (T_ vs):=⟨h.nr,h.wd,rO h.ln,by rw[OY];exact h.l1,by rw[OY];exact h.l6⟩
theorem W_.tab(h:W_ n vs):Tab n (VX vs) (p0 n vs):=by
 obtain⟨e,f,g,_⟩:=h.nr;have l:=h.len;refine⟨jc,Hz λa b x d=>?_,?_,by lia,by lia,h.l1,h.l6⟩
 .obtain⟨v,_,rfl⟩:=Pj.mp b
  obtain⟨y,_,rfl⟩:=Pj.mp d;lia
 .rw[BF (K0 h.ln).2]
  unfold tot;rw[uF,jJ,<-rO h.ln];lia
theorem xo:∀{a:LI},(∀c∈a,∀x∈c,0<=x)->∃l:a0l,a=l.map nI
 |[],_=>⟨[],rfl⟩
 |x::a,h=>by
  obtain⟨l,e⟩:=xo λy b=>h y<|O1 _ b;obtain⟨m,d⟩:=vb<|h x Pa;exact⟨m::l,by rw[e,d];rfl⟩
theorem GrW.cols{ba:LI}{c:Nat}{rs:a0a}(g:GrW ba c rs):∃vs,ba=p0 (VX rs) vs/\rs=kl (VX rs) vs/\VX vs=c/\W_ (VX rs) vs:=by
 obtain⟨vs,e⟩:=xo<|Hz (c:=c) g.nn;have n:=rE (d:=(0:Int)) (c:=c) g.shp.1;have b:VX vs=c:=by rw[<-OY (f:=nI),<-e];exact n.1
 have w:∀v∈vs,VX v=VX rs:=λv j=>by
  rw[<-OY (f:=λ(i:Nat)=>(i:Int))];refine n.2 (nI v) ?_;show nI v∈tp c ba;rw[e];exact Pj.mpr ⟨v,j,rfl⟩
 have h:ba=p0 (VX rs) vs:=by rw[<-Hy g.shp,e]
 have a:rs=kl (VX rs) vs:=gB (by rw[<-lu w,<-h,g.sm]);exact⟨vs,h,a,b,by rw[b];exact g.c1,by rw[b];exact g.c6,w,by rw[<-a];exact g.nr,by rw[<-a];exact g.wd⟩
theorem K9(h:W_ n vs):(fP K a).1 [bF<|p0 n vs] β=on (.ok<|nL<|kl n vs,β):=by
 have:=qh (K:=K) (a:=a) (β:=β) (ba:=p0 n vs) (by rw[jc.1];have:=h.tab.r1;lia);rw[lu h.ln]at this;exact this
theorem MT(h:W_ n vs):(dN K a).1 [bF<|p0 n vs] β=on (.ok<|nL<|T_ vs,β):=by
 have t:=h.tab;have:=lZ (K:=K) (a:=a) (β:=β) (ba:=p0 n vs) jc t.r0 (by have:=t.r1;lia) (by have:=t.c1;lia);rw[vK h.ln,uF]at this;exact this
theorem LV{r rs:a0a}(h:B6 rs)(q:j_ r rs):B6 r:=by
 obtain⟨b,d,e,f⟩:=h;have a:=q.len;have c:=q.sum;have n:=q.pr;exact⟨by lia,by lia,by lia,by lia⟩
theorem DU{p q:Nat}:p/QE p q*q=p*(q/QE p q):=by
 obtain⟨b,d⟩:=WP p q;obtain⟨c,e⟩:=W1 p q;rcases Ww (QE p q)with z|z
 .rw[z];simp
 .have f:p/QE p q=c:=XH z e
  have g:q/QE p q=b:=XH z d;rw[f,g]
  conv=>lhs;rw[d]
  conv=>rhs;rw[e]
  simp only[Qh,Qp,Ql]
theorem rX{p q p' q':Nat}(d:0<q)(b:0<q')(h:p*q'=p'*q):dj p q=dj p' q':=by
 obtain⟨e,f⟩:=L9 d b h;unfold dj;rw[e,f]
theorem eqI(i j:Int):Th (.int i) (.int j)=decide (i=j):=by unfold Th;exact Bool.beq_eq_decide_eq i j
theorem mW{n:Type} [DecidableEq n]{f:n->Yw}(b:∀x y,Th (f x) (f y)=decide (x=y)):∀a c:List n,SZ (a.map f) (c.map f)=decide (a=c)
 |[],[]=>by simp[SZ]
 |[],y::c=>by simp[SZ]
 |x::a,[]=>by simp[SZ]
 |x::a,y::c=>by
  rw[Pi,Pi,SZ,b,mW b a c];by_cases h:x=y<;>by_cases q:a=c<;>simp[h,q]
theorem oY{a:Type}{f:a->D}{g:a->Yw}(h:∀x,ni (f x)=on (g x)):∀l:List a,toPs (l.map f)=on (l.map g)
 |[]=>by simp[toPs]
 |x::l=>by
  rw[Pi,toPs,h x,oY h l];rfl
theorem ES{x y:D}{p q:Yw}(g:eqS x y=OZ)(e:ni x=on p)(f:ni y=on q)(b:oC x=O6)(d:oC y=O6):g9 x y=on (.c<|Th p q):=by
 unfold g9 mZ;unfold oC at b d;rw[e]at b;rw[f]at d;simp only[g,e,f,b,d,TH,Qs,Rj]
theorem NF(n:Nat){i:Int}:cE K a (n+1) [.n i,.n i] β=on (.ok<|.c O6,β):=by
 show d8 2 (gZ K a<|cE K a n) _ _=_;refine aF ?_;unfold gZ;refine gj (β1:=β) (nz (x:= .c O8) (ag rfl rfl) rfl)<|bp ?_;refine gj (β1:=β) (hO<|dq rfl rfl rfl)<|bp ?_;refine gj (β1:=β) (pQ (hO<|dq (ag rfl rfl) (ag rfl rfl) rfl)<|hO<|dq (ag rfl rfl) (ag rfl rfl) rfl)<|bp ?_;exact aq<|aM (II (ag rfl rfl)<|dq rfl rfl<|by rw[Pu.eq_int,Pn rfl]) ⟨rfl,rfl⟩
theorem HF{x y:Int}:cE K a 5 [.t [.n x,.n y],.t [.n x,.n y]] β=on (.ok<|.c O6,β):=by
 show d8 2 (gZ K a<|cE K a 4) _ _=_;refine aF ?_;unfold gZ;refine Nj (β1:=β) (nz (x:= .c O6) (ag rfl rfl) rfl)<|i8 ?_;refine gj (β1:=β) (pQ (hO<|dq (ag rfl rfl) (ag rfl rfl) rfl)<|hO<|dq (ag rfl rfl) (ag rfl rfl) rfl)<|bp<|i8 ?_;refine gj (β1:=β) (hO<|dq (ag rfl rfl) (ag rfl rfl) rfl)<|bp ?_;exact aM (β1:=β) (dq (z:= .c O6) rfl (bw [x,y] (λi=>D.t [.n i,.n i]) (λ_=> .c O6) (pR (x:= .t [.n x,.n y]) (y:= .t [.n x,.n y]) rfl rfl rfl rfl) (λi _=>⟨[on<|.n i,on<|.n i],rfl,ah rfl<|NF 3⟩)<|bq (by show 2<=1000;decide)) rfl) ⟨rfl,rfl⟩
theorem qx{p q:Nat}(h:0<q):0<q/QE p q:=Nat.div_pos (W2 _ h)<|SD _ h
theorem N6{q:Nat}(h:0<q):dj 0 q= .t [.n 0,.n 1]:=by
 unfold dj;rw[Nat.gcd_zero_left,Nat.zero_div,Nat.div_self h];rfl
theorem JQ{A B q:Nat}(h:0<q):dj (A/QE A q*(q/QE B q)+B/QE B q*(q/QE A q)) (q/QE A q*(q/QE B q))=dj (A+B) q:=by
 refine rX (Ve (qx h)<|qx h) h ?_;have b:=DU (p:=A) (q:=q);have d:=DU (p:=B) (q:=q);generalize A/QE A q=x at*;generalize B/QE B q=y at*;generalize q/QE A q=z at*;generalize q/QE B q=w at*;rw[T3,T3,ZW x w q,b,ZW y z q,d];simp only[Qh,Qp,Ql]
theorem Ii{l:a0a}{i:Nat}(h:i<VX l):g8 (nL l) (.n (i:Int))=on (.n ((l.getD i 0:Nat):Int)):=Ih h
abbrev S4(P:List a0l)(c d:Nat×Nat):R4:=(L2.Nt.sm P wt,L2.Nt.sm P λb=>wt b*at_ c b,L2.Nt.sm P λb=>wt b*at_ d b,L2.Nt.sm P λb=>wt b*(at_ c b*at_ d b))
theorem AA(i j:Nat)(b:a0l):cn i j 0 b=at_ (i,j) b:=by rw[Iz,Pc<|Qk _,Nat.sub_zero]
theorem IE{c d:Nat×Nat}{m:Nat}:TW W c d m 0 rs=S4 (j1 W m 0 rs) c d:=by
 rw[rh,y6];refine QN rfl<|QN ?_<|QN ?_ ?_
 .exact bv λb _=>by show wt b*cn c.1 c.2 0 b=_;rw[AA]
 .exact bv λb _=>by show wt b*cn d.1 d.2 0 b=_;rw[AA]
 .exact bv λb _=>by show wt b*(cn c.1 c.2 0 b*cn d.1 d.2 0 b)=_;rw[AA,AA]
theorem CF{i:Nat}(b:i<n):(p0 n vs)[i]?=on (nI<|vs.map λv=>v.getD i 0):=by
 rw[KC b];congr 1;show _=QV _ (QV _ _);rw[Pp,Pp];exact P4 λv _=>HU v i
theorem yr(b:LP):oC (bO b)=O6:=G6 3 (λx d=>by
 obtain⟨y,e,rfl⟩:=Pj.mp d;obtain⟨a,g,rfl⟩:=Pj.mp e;intro z f;obtain⟨p,_,rfl⟩:=Pj.mp f;intro w hw;rcases Pr.mp hw with rfl|hw
 .trivial
 .obtain rfl:w= .n p.2:=by simpa using hw
  trivial) (by decide)
theorem OQ(b d:LP):g9 (bO b) (bO d)=on (.c<|decide (b=d)):=by
 have tp:∀p:Int×Int,ni (pD p)=on (.tuple [.int p.1,.int p.2]):=λp=>rfl;have c:∀a:a0S,ni (.l<|a.map pD)=on (.list<|a.map λp=> .tuple [.int p.1,.int p.2]):=λa=>by
  unfold ni;rw[oY tp];rfl
 have t:∀l:LP,ni (bO l)=on (.list<|l.map λa=> .list<|a.map λp=> .tuple [.int p.1,.int p.2]):=λl=>by
  unfold bO lG gP ni;rw[Pp,oY (f:=D.l∘λ(r:a0S)=>r.map pD) c];rfl
 have e:∀p q:Int×Int,Th (.tuple [.int p.1,.int p.2]) (.tuple [.int q.1,.int q.2])=decide (p=q):=λp q=>by
  rw[Th,SZ,SZ,SZ,eqI,eqI];by_cases g:p.1=q.1<;>by_cases h:p.2=q.2<;>simp[RM,g,h]
 rw[ES rfl (t b) (t d) (yr b)<|yr d,Th,mW λr1 i=>by rw[Th,mW e]]
theorem toB{r c:Nat}{b:LP}(h:B_ r c b):∃B,b=f6 B/\PC r c B:=by
 have e:b=f6 (b.map λa=>a.map λp=>(p.1.toNat,p.2.toNat)):=by
  unfold f6;rw[Pp];refine(VY b).symm.trans<|P4 λa g=>?_;show a=QV _ (QV _ a);rw[Pp];refine(VY a).symm.trans<|P4 λp i=>?_;obtain⟨n,w,D⟩:=h.ok a g p i;exact QN (show p.1=((p.1.toNat:Nat):Int) by lia) (show p.2=((p.2.toNat:Nat):Int) by lia)
 refine⟨_,e,h.shp.map,λa g p i=>?_⟩;obtain⟨d,j,rfl⟩:=Pj.mp g;obtain⟨f,k,rfl⟩:=Pj.mp i;obtain⟨n,w,D⟩:=h.ok d j f k;show f.1.toNat<=f.2.toNat/\f.2.toNat<=40;lia
theorem JR{ba:LI}{B:a0f}{rs cs:a0a}(h:L_ ba B rs cs):(nR K a).1 [bF ba,j0 B] β=on (.ok<|LZ a B rs cs,β):=by
 obtain⟨f,i,_,_⟩:=h.nr;have c:=h.c6;have b:=qh (K:=K) (a:=a) (β:=β) (ba:=ba) (by rw[h.shp.1];lia);have e:=lZ (K:=K) (a:=a) (β:=β) h.shp f (by lia) (by lia);rw[h.rw1]at b;rw[h.cl1]at e;have g:=ub (K:=K) (a:=a) (β:=β) (ba:=gP<|f6 B) (by rw[OY,(fq h.bok.1).1];lia);unfold nR
 dsimp only
 refine aF<|aq<|aM (d:=LZ a B rs cs) (β1:=β) ?_ ⟨rfl,rfl⟩;unfold jR;rw[M.f5<|ac (ah rfl b)<|ac (ah rfl e) rfl,M.f5<|ac (ah rfl g) rfl];exact(M.f5<|DP h).trans rfl
theorem HG{p q n c:Nat}(d:0<q)(b:0<c)(e:p*c=n*q):cE K a 5 [dj p q,dj n c] β=on (.ok<|.c O6,β):=by
 rw[rX d b e];exact HF
theorem CP(a:β.ok){lot:Nat}(e:0<lot)(f:lot<1073741824):∃(v:Nat) (b:Bg),cI [.bag,.n (lot:Int)] β=on (.ok<|.n (v:Int),b)/\v<lot/\b.ok:=by
 obtain⟨v,b,p,g,h,d⟩:=cc a (lot:=(lot:Int)) (by lia) (by lia);obtain⟨v,rfl⟩:∃n:Nat,v=(n:Int):=⟨v.toNat,by lia⟩;exact⟨v,b,p,by lia,d⟩
theorem jE{r c:Nat}{ba:LI}(t:Tab r c ba)(E:β.ok):∃(p:Nat×Nat) (b:Bg),(ii K a).1 [.bag,bF ba] β=on (.ok<|y_ p,b)/\p.1<r/\p.2<c/\b.ok:=by
 have G:=t.r1;have v:=t.r0;have M:=t.c0;have P:=t.c1;obtain⟨B,h,l⟩:=t.shp.at (i:=0) (by lia);obtain⟨i,β1,m,o,f⟩:=CP E (lot:=r) (by lia) (by lia);obtain⟨j,n,q,u,g⟩:=CP f (lot:=c) (by lia) (by lia)
 suffices w:∃z b,(ii K a).1 [.bag,bF ba] β=on (z,b)/\z= .ok (y_ (i,j))/\b=n by
  obtain⟨z,b,e,rfl,rfl⟩:=w;exact⟨(i,j),b,e,o,u,g⟩
 unfold ii
 dsimp only
 refine jU<|aE (d:= .n (i:Int)) (β1:=β1) (ah (ac rfl<|ac (ag rfl<|qB (r:=r)<|EK t.shp) rfl) m)<|aq<|aM (d:=y_ (i,j)) (β1:=n) (ag (ac rfl<|ac (ah (ac rfl<|ac (ag (ac (x:= .l<|B.map D.n) (dq rfl rfl<|oq (k:=0)<|by rw[O9,h];rfl) rfl)<|cW (r:=c)<|by rw[OY,l]) rfl) q) rfl) eK) ?_;exact⟨rfl,rfl⟩
theorem wO{W:Wy}{bd:D}{rs cs:a0a}:(dO K a).1 [e9 a W bd rs cs] β=on (.ok<|.n ((vr W (VX cs) 0 rs:Nat):Int),β):=
 aF (aq<|aM (dq (fN rfl (ac rfl<|ac (ag (ac (jY rfl rfl) rfl) rfl) rfl)<|E6 (k:=0) (Qk _)<|P0.mpr rfl) rfl sd) ⟨rfl,rfl⟩)
theorem DH:∀{a:a0k} {v:a0a},(∀(i:Nat) (p:Nat×Nat) (x:Nat),a[i]?=on p->v[i]?=on x->p.1<=x/\x<=p.2)->i0 a v=O6
 |[],_,_=>by unfold i0;rfl
 |_::_,[],_=>by unfold i0;rfl
 |p::a,x::v,h=>by
  have:=h 0 p x rfl rfl;show(decide (p.1<=x)&&decide (x<=p.2)&&i0 a v)=O6;rw[DH λi p x b d=>h (i+1) p x b d,Pn this.1,Pn this.2];rfl
theorem Kn{a:a0c->a0A}{g:FL}{c:Dn}{β1:Bg}{n b:a0c}(d:g c β=on (.ok n,β1))(e:a n=on b):qs a g c β=on (.ok b,β1):=by
 unfold qs;rw[M.f5 d,e];rfl
theorem x_2Y{c:a0R}{b d:FD}{x:D}{a:Dn}{C:O7}(f:b a β=on (.ok x,β))(e:d a β=on (.error C,β)):f2 c b d a β=on (.error C,β):=by unfold f2 M.v;rw[f];simp only[e]
theorem Nb{C:O7}{n:a0h}{b:a0c->M a0c}{g d:FL}{a:List (Sr D)}{c:Dn}{w B E:a0c}(e:g c β=on (.ok w,β))(f:d c β=on (.ok B,β))(h:b (w++a.map (Sr.f5 .o B)) β=on (.ok E,β)):jR C n b g d a c β=on (.ok<|.obj C n E,β):=by
 unfold jR;rw[M.f5 e,M.f5 f];exact(M.f5 h).trans rfl
theorem Na{C b:O7}{B:a0h}{d:a0c->M a0c}{g e:FL}{a:List (Sr D)}{c:Dn}{n w:a0c}(f:g c β=on (.ok n,β))(h:e c β=on (.ok w,β))(i:d (n++a.map (Sr.f5 .o w)) β=on (.error b,β)):jR C B d g e a c β=on (.error b,β):=by
 unfold jR;rw[M.f5 f,M.f5 h];exact M.j8 i
theorem LU{vs:a0l}(h:Nt0 rs cs)(a:PC (VX rs) (VX cs) B)(f:vs∈j1 (wB B cs) (VX cs) 0 rs):L_ (p0 (VX rs) vs) B rs cs:=by
 have e:=zg rfl h.sm f;rw[gy]at f;have w:=(QK.mp f).2;refine⟨h,by rw[<-e.len];exact jc,by rw[lu e.ln,e.rw],by rw[<-e.len,vK e.ln,uF];unfold T_;rw[e.cl],a,λj i x p k l=>?_⟩;unfold Im at k l;obtain⟨D,g,b⟩:=XI.mp k;have m:j<VX rs:=by rw[<-(jc (n:=VX rs) (vs:=vs)).1];exact(Pl.mp g).1
 rw[CF m]at g;cases g;unfold nI at b;rw[O9,O9]at b;obtain⟨y,b,A⟩:=Rm.mp b;obtain⟨v,b,C⟩:=Rm.mp b;obtain⟨o,c,r⟩:=XI.mp l;rw[O9]at c;obtain⟨t,b3,rfl⟩:=Rm.mp c;rw[O9]at r;obtain⟨q,u,rfl⟩:=Rm.mp r;have:=vY (zJ w b) (i:=j) (p:=q) (by rw[Qu];unfold ck;rw[O9,b3];show on (t.getD i (0,0))=_;rw[O5,u];rfl) (sD (d:=0)<|by rw[e.ln v<|PD b];exact m);exact⟨by show((q.1:Nat):Int)<=_;lia,by show _<=((q.2:Nat):Int);lia⟩
theorem N5{x q:Nat}(h:0<q):dj (x*q) q= .t [.n (x:Int),.n 1]:=by
 rw[rX (p':=x) (q':=1) h (by decide)<|Xh _];unfold dj;rw[Nat.gcd_one_right,Nat.div_one];rfl
theorem Nt0.less{y d i j:Nat}(h:Nt0 rs cs)(b:rs[i]?=on (y+1))(e:cs[j]?=on (d+1)):Nt0 (rs.set i y) (cs.set j d):=by
 have f:=cz (y:=y) b;have g:=cz (y:=d) e;have a:=j_.set b;have:=h.sm;exact⟨LV h.nr a,Rc a.dl.pr h.wd,by lia,by rw[PX];exact h.c1,by rw[PX];exact h.c6⟩
theorem JT(h:Nt0 rs cs)(c:PC (VX rs) (VX cs) B):iq K a [nL rs,nL cs,j0 B] β=on (.ok<|nFs B rs cs,β)\/(iq K a [nL rs,nL cs,j0 B] β=on (.error a.Ae,β)/\vr (wB B cs) (VX cs) 0 rs=0):=by
 have f:=h.nr.2.1;have n:=h.c6;by_cases q:∃vs,vs∈j1 (wB B cs) (VX cs) 0 rs
 .obtain⟨vs,b⟩:=q
  exact .inl<|DP<|LU h c b
 .have d:vr (wB B cs) (VX cs) 0 rs=0:=by
   rw[<-jd,List.eq_nil_iff_forall_not_mem.mpr λvs b=>q ⟨vs,b⟩];rfl
  rcases fitE (K:=K) (a:=a) (β:=β) (rs:=nI rs) (cs:=nI cs) (fq c.1) (OY _) (OY _) (by lia) (by lia)with e|e
  .exact .inl (mkB h c e)
  .exact .inr ⟨mkB h c e,d⟩
theorem l40{x:Nat}(h:x<=40):x<2^1000:=ff (m:=6) (Pk h<|by decide) (by decide)
abbrev l50(g b a w r c n t d:D)(e f h i j:a0Z):Ds:=[OZ,on<|.h .bag,on<|.h g,on<|.h b,on<|.h a,on<|.h w,on<|.h r,on<|.h c,on<|.h n,on<|.h t,on<|.h d,e,f,h,i,j]
theorem GK(ap:exmOne K (.ref a.Ae) (.ref a.Ae)=on O6)(β:Bg)(ok:β.ok):∃u,qO K a [OZ,on<|.h .bag,OZ,OZ,OZ,OZ,OZ,OZ,OZ,OZ,OZ,OZ,OZ,OZ,OZ,OZ] β=on (.rt<|.c O6,u):=by
 suffices h:Gw (qO K a) [OZ,on<|.h .bag,OZ,OZ,OZ,OZ,OZ,OZ,OZ,OZ,OZ,OZ,OZ,OZ,OZ,OZ] β (λo _=>o= .rt (.c O6)) by
  obtain⟨o,u,e,rfl⟩:=h;exact⟨u,e⟩
 obtain⟨ba,c0,rs,β1,e1,g,ar⟩:=GM (K:=K) (a:=a) ok;obtain⟨vs,er,es,lv,G⟩:=g.cols;generalize VX rs=n at er es G;subst er es;have t:=G.tab;obtain⟨b,β2,e2,hb,hk,hB,au⟩:=Kj (K:=K) (a:=a) t ar;obtain⟨B,rfl,E⟩:=toB hb;obtain⟨c,w,e3,c1,c2,ay⟩:=jE (K:=K) (a:=a) t au;have U:=G.len;have lc:VX (T_ vs)=VX vs:=OY _;have e4:=K9 (K:=K) (a:=a) (β:=w) G;have e5:=MT (K:=K) (a:=a) (β:=w) G;have H:L_ (p0 n vs) B (kl n vs) (T_ vs):=⟨G.nt0,by rw[U,lc];exact jc,lu G.ln,by rw[lc,vK G.ln,uF],by rw[U,lc];exact E,hk⟩;have aj:0<y1 (wB B<|T_ vs) (VX<|T_ vs) 0 (kl n vs):=by
  rw[<-nU];refine Vy (a:=vs) ?_;rw[gy];refine QK.mpr ⟨(fm U H.sm).mpr ⟨G.ln,rfl,rfl⟩,wj λj v hv=>DH λi p x Q hx=>?_⟩;rw[Qu]at Q;have hm:=PD hv;have li:i<n:=by rw[<-G.ln v hm];exact(Pl.mp hx).1
  have lj:j<VX vs:=(Pl.mp hv).1;unfold ck at Q;rw[O9]at Q;obtain⟨O,b1,rfl⟩:=Rm.mp Q;have lb:j<VX O:=by rw[E.1.2 O<|PD b1];exact lj
  have:=hk i j (x:Int) (((O.getD j (0,0)).1:Int),((O.getD j (0,0)).2:Int)) (m9 (CF li) (by rw[O9,O9,hv];show on ((v.getD i 0:Nat):Int)=_;rw[O5,hx];rfl)) (m9 (row:=O.map λp=>((p.1:Int),(p.2:Int))) (by rw[O9,b1];rfl)<|by rw[O9,bM lb,O4 lb];rfl);simp only at this;lia
 generalize hR:kl n vs=R at*;generalize hC:T_ vs=C at*;have J:c.2<VX C:=by lia
 have X:c.1<VX R:=by lia
 have T:=H.nr.2.2.1;have Y:C.sum<=40:=by rw[<-H.sm];exact T
 have n4:=H.nr.2.1;have n6:=H.c6;have av:∀row∈B,∀p∈row,p=(0,0)\/p=(0,40):=λrow hr p Q=>by
  have:=hB _ (Pj.mpr ⟨row,hr,rfl⟩) _<|Pj.mpr ⟨p,Q,rfl⟩;rcases this with z|z
  .have z:=RM.mp z
   exact .inl<|QN (by have:=z.1;simp only at this;lia) (by have:=z.2;simp only at this;lia)
  .have z:=RM.mp z
   exact .inr<|QN (by have:=z.1;simp only at this;lia) (by have:=z.2;simp only at this;lia)
 have I:L2.Nt.sm (j1 (wB B C) (VX C) 0 R) wt<=2^160:=by
  rw[jd];exact Iy (K:=K) (a:=a) (k:=0) H.nt (Qk _)<|P0.mpr rfl
 have aa:∀N∈j1 (wB B C) (VX C) 0 R,∀d,at_ d N<=40:=λN hw d=>by
  have gv:=zg U H.sm hw;show(N.getD d.2 []).getD d.1 0<=40;rcases SY d.2 (VX N) with z|z
  .exact qR (by rw[gv.at z];exact qR Y)
  .rw[O5 (l:=N),Ri z];exact Qk _
 have up:∀{f:a0l->Nat},(∀N∈j1 (wB B C) (VX C) 0 R,f N<=1600*wt N)->L2.Nt.sm (j1 (wB B C) (VX C) 0 R) f<=2^171:=λ{f} hf=>by
  refine Pk (vm (f:=f) (g:=λN=>1600*wt N) (VM _) hf) ?_;rw[gn,show(171:Nat)=11+160 from rfl,V4];exact Ub (by decide) I
 have Fv:∀{n:Nat},n<=2^171->n<=2^200:=λh=>Pk h (SB (by decide)<|by decide);have X1:∀d,XB B R C d<=2^171:=λd=>up λN hw=>by
  rw[Ql];exact Ur _ (Pk (aa N hw d)<|by decide)
 generalize hD:L2.Nt.sm (j1 (wB B C) (VX C) 0 R) wt=Dl at*;have me:∀{d:Nat×Nat} {β:Bg},d.1<VX R->d.2<VX C->(jy K a).1 [e9 a (wB B C) (j0 B) R C,.n (d.1:Int),.n (d.2:Int)] β=on (.ok<|dj (XB B R C d) Dl,β):=λ{d β} d1 d2=>by
  rw[<-hD];exact N4 H.nt d1 d2 aj IE (by show L2.Nt.sm _ _<=_;rw[hD];exact Pk I<|SB (by decide)<|by decide) (Fv<|X1 d) (Fv<|X1 d)<|Fv (up λN hw=>by
   rw[Ql];exact Ur _<|Ub (aa N hw d)<|aa N hw d)
 have Z:0<Dl:=by
  have:=rj (c:=c) (d:=c) aj;rw[IE]at this;rw[<-hD];exact this
 have aw:vr (wB B C) (VX C) 0 R=Dl:=by rw[<-jd];exact hD
 have w1:Dl<2^1000:=ff I (by decide);have R1:g8 (nL R) (.n (c.1:Int))=on (.n ((R.getD c.1 0:Nat):Int)):=Ii X;have C1:g8 (nL C) (.n (c.2:Int))=on (.n ((C.getD c.2 0:Nat):Int)):=Ii J;have ak:=qR (i:=c.1) T;have al:=qR (i:=c.2) Y;obtain⟨O,ab,az⟩:=E.1.at c1;have s:(ck B c.2)[c.1]?=on (O.getD c.2 (0,0)):=by unfold ck;rw[O9,ab];rfl
 have am:=qD (i:=c.1) (j:=c.2) (fq E.1) c1 c2;have bi:bI (f6 B) c.1 c.2=(((O.getD c.2 (0,0)).1:Int),((O.getD c.2 (0,0)).2:Int)):=by
  unfold bI;rw[O5 (l:=f6 B),O9,ab];show(O.map λp=>((p.1:Int),(p.2:Int))).getD c.2 (0,0)=_;rw[O5,O9,bM (by lia),O4<|by lia];rfl
 have Q:=av O (PD ab) (O.getD c.2 (0,0)) (by rw[bM<|by lia];exact Qd _);unfold qO;refine aE (ah rfl e1)<|aE (ah rfl e2)<|k6 (β1:=w) (ah rfl e3) rfl<|aE (ah rfl e4)<|aE (ah rfl e5)<|aE (ah rfl<|JR H)<|aE (ah rfl<|me X J)<|aE (d:= .n 0) (β1:=w) rfl ?_;show Gw _ (l50 (bF<|p0 n vs) (j0 B) (.n (c.1:Int)) (.n (c.2:Int)) (nL R) (nL C) (e9 a (wB B C) (j0 B) R C) (dj (XB B R C c) Dl) (.n 0) OZ OZ OZ OZ OZ) w _;refine Hq (λM u=>w=u/\∃P S,M=l50 (bF<|p0 n vs) (j0 B) (.n (c.1:Int)) (.n (c.2:Int)) (nL R) (nL C) (e9 a (wB B C) (j0 B) R C) (dj (XB B R C c) Dl) (.n ((XB B R C c:Nat):Int)) P S OZ OZ OZ) ?_ ?_
 .refine aq (kA (β1:=w) (u3 (hO<|dq (dq rfl rfl R1) rfl gt_int)<|u3 (hO<|dq (dq rfl rfl C1) rfl gt_int)<|hO<|dq (dq (dq rfl rfl am.1) rfl am.2) (ag rfl eK) (z:= .c<|decide (O.getD c.2 (0,0)=(0,40))) ?_) ?_)
  .rw[bi]
   rcases Q with z|z<;>rw[z]<;>rfl
  by_cases q1:R.getD c.1 0=0
  .rw[M2 (c:=c) U H.sm c1 J<|.inl q1,P8 (by lia:¬(0:Int)<((R.getD c.1 0:Nat):Int))]
   exact bp<|jo ⟨rfl,_,_,rfl⟩
  by_cases q2:C.getD c.2 0=0
  .rw[M2 (c:=c) U H.sm c1 J<|.inr q2,P8 (by lia:¬(0:Int)<((C.getD c.2 0:Nat):Int)),Tk,VU]
   exact bp<|jo ⟨rfl,_,_,rfl⟩
  rcases Q with z|z
  .rw[M1 (c:=c) (by rw[s,z]),z,P8 (p:=(0,0)=((0,40):Nat×Nat)) (by decide),VU,VU]
   exact bp<|jo ⟨rfl,_,_,rfl⟩
  rw[z,Pn rfl,Pn (by lia:(0:Int)<((C.getD c.2 0:Nat):Int)),Pn (by lia:(0:Int)<((R.getD c.1 0:Nat):Int))];obtain⟨y,h1⟩:∃y,R.getD c.1 0=y+1:=⟨R.getD c.1 0-1,by lia⟩;obtain⟨d,h2⟩:∃d,C.getD c.2 0=d+1:=⟨C.getD c.2 0-1,by lia⟩;have X2:=M0 (B:=B) (c:=c) U H.sm Y c1 J h1 h2 (by rw[s,z]);have V:=H.toNt0.less (i:=c.1) (j:=c.2) (y:=y) (d:=d) (by rw[<-h1];exact sD X) (by rw[<-h2];exact sD J);have lo:=JT (K:=K) (a:=a) (β:=w) (B:=B) V (by rw[PX,PX];exact H.bok);have cp:=ub (K:=K) (a:=a) (β:=w) (ba:=gP<|f6 B) (by rw[OY,(fq E.1).1];lia);have sb:∀{x y:Nat},x=y+1->vh (.n (x:Int)) (.n 1)=on (.n (y:Int)):=λ{x y} h=>by
   show on (D.n<|(x:Int)-1)=_;rw[show(x:Int)-1=(y:Int) by lia]
  have st:∀{l:a0a} {i x:Nat},((nI l).map D.n).set i (.n (x:Int))=(nI<|l.set i x).map D.n:=λ{l i x}=>by
   show _=QV _ (QV _ _);rw[R8,R8]
  refine i8<|AU (ds:=(nI R).map D.n) (β1:=w) (Kn rfl rfl)<|i8<|xh (d:= .n (y:Int)) (β1:=w) (β2:=w) (ka:=(c.1:Int)) (ja:=c.1) (dq (dq rfl rfl R1) rfl<|sb h1) rfl rfl (by rw[OY,OY];exact jO (by lia)<|by lia) ?_;refine i8<|AU (ds:=(nI C).map D.n) (β1:=w) (Kn rfl rfl)<|i8<|xh (d:= .n (d:Int)) (β1:=w) (β2:=w) (ka:=(c.2:Int)) (ja:=c.2) (dq (dq rfl rfl C1) rfl<|sb h2) rfl rfl (by rw[OY,OY];exact jO (by lia)<|by lia) ?_;rw[st,st];refine Nh<|Hu<|Hu ?_;rcases lo with lo|⟨lo,d0⟩
  .refine aq (aE (d:= .n ((C.getD c.2 0*vr (wB B<|C.set c.2 d) (VX C) 0 (R.set c.1 y):Nat):Int)) (β1:=w) (dq (dq rfl rfl C1) (fN (Nb rfl (ac (ah rfl cp) rfl) lo) rfl wO) ?_)<|aT ?_)
   .rw[PX]
    exact eL (l40 al) (ff (m:=160) (by
     have:=Iy (K:=K) (a:=a) (k:=0) (W:=wB B<|C.set c.2 d) (bd:=j0 B) (rs:=R.set c.1 y) (cs:=C.set c.2 d) ⟨V,yC _ _,λ{β k r} hk hr e=>sG hr (by rw[e,PX,PX];exact H.bok) (by rw[<-V.sm];exact V.nr.2.2.1) hk⟩ (Qk _)<|P0.mpr rfl;rw[PX]at this;exact this)<|by decide)
   .rw[<-X2]
    exact jo ⟨rfl,_,_,rfl⟩
  .refine aq (Kt (x_2Y (dq rfl rfl C1)<|IJ<|Na rfl (ac (ah rfl cp) rfl) lo) ?_)
   refine w_hT ap<|aE (d:= .n 0) (β1:=w) rfl<|jo ⟨rfl,on<|.h<|nL<|R.set c.1 y,on<|.h<|nL<|C.set c.2 d,?_⟩;rw[PX]at d0;rw[X2,d0];rfl
 rintro M _ ⟨rfl,P,S,rfl⟩;refine fS (nA<|nz (ah (ac rfl<|ac (ah (ac rfl<|ac (fN rfl rfl<|wO.trans<|by rw[aw]) rfl)<|wc Z w1) rfl)<|HG Z Z rfl) rfl) rfl<|bp ?_;obtain⟨an,ad,ae⟩:=t.shp.at (i:=0) (by have:=t.r0;lia);refine Hq (λM u=>w=u/\M=l50 (bF<|p0 n vs) (j0 B) (.n (c.1:Int)) (.n (c.2:Int)) (nL R) (nL C) (e9 a (wB B C) (j0 B) R C) (dj (XB B R C c) Dl) (.n ((XB B R C c:Nat):Int)) P S OZ OZ OZ) ?_ ?_
 .refine aq (kA (β1:=w) (u3 (hO<|dq rfl (ah (ac (ag rfl<|qB (r:=n)<|EK t.shp)<|ac (ag (ac (x:= .l<|an.map D.n) (dq rfl rfl<|oq (k:=0)<|by rw[O9,ad];rfl) rfl)<|cW (r:=VX vs)<|by rw[OY,ae]) rfl)<|GH (by lia)<|by lia)<|OQ _ _)<|hO<|dq (ag rfl<|mG R) rfl gt_int) ?_)
  split
  .rename_i q
   rw[PV,P9,P9]at q;have fr:∀row∈B,∀p∈row,p=(0,40):=λrow hr p Q=>by
    have m1:(((p.1:Int),(p.2:Int)):Int×Int)∈(row.map λp=>((p.1:Int),(p.2:Int))):=Pj.mpr ⟨p,Q,rfl⟩;have m2:(row.map λp=>((p.1:Int),(p.2:Int)))∈f6 B:=Pj.mpr ⟨row,hr,rfl⟩;rw[q.1]at m2;rw[(Q0.mp m2).2]at m1;have z:=RM.mp (Q0.mp m1).2;exact QN (by have:=z.1;simp only at this;lia) (by have:=z.2;simp only at this;lia)
   have pe:=Lo (B:=B) U H.sm Y fr (by rw[lc];exact E.1);have xc:=X_cl (c:=c) U H.sm T c1 J;have wa:=AQ H.sm T;rw[<-pe]at xc wa;refine fS (nA<|nz (ah (ac rfl<|ac (ah (ac (dq (dq rfl rfl R1) (dq rfl rfl C1)<|eL (l40 ak)<|l40 al)<|ac (ag rfl<|mG R) rfl)<|wc (by lia)<|l40 T) rfl)<|HG Z (by lia) ?_) rfl) rfl<|bp<|jo ⟨rfl,rfl⟩;rw[<-hD,wa,Ql _<|mu R];exact xc
  .exact bp (jo ⟨rfl,rfl⟩)
 rintro M _ ⟨rfl,rfl⟩;refine aE (d:=dj 0 Dl) (β1:=w) (ag (z:=dj 0 Dl) rfl<|eK.trans<|by rw[N6 Z]) ?_;generalize hF:(λj=>XB B R C (c.1,j))=F;have Fi:∀j,XB B R C (c.1,j)=F j:=λj=>congrFun hF j;have FS:L2.Nt.sm (Ph<|VX C) F=R.getD c.1 0*Dl:=by rw[<-hF,<-hD];exact MZ U H.sm c1
 have tot:L2.Nt.sm (Ph<|VX C) F<=2^190:=by
  rw[FS,show(190:Nat)=30+160 from rfl,V4];exact Ub (Pk ak<|by decide) I
 have ao:∀i,L2.Nt.sm ((Ph<|VX C).take i) F<=2^190:=λi=>Pk (vm (g:=F) (ZS _ _) λ_ _=>Pg _) tot;have L:∀{p A:Nat},p<=2^A->A<=999->p<2^1000:=λe h=>ff e h;refine cG (ds:=aW 0<|VX C) (β1:=w) (bJ (ac (ag rfl<|jM C) rfl)<|y2 (by lia)<|by lia) (λi M u=>w=u/\∃af ai,M=l50 (bF<|p0 n vs) (j0 B) (.n (c.1:Int)) (.n (c.2:Int)) (nL R) (nL C) (e9 a (wB B C) (j0 B) R C) (dj (XB B R C c) Dl) (.n ((XB B R C c:Nat):Int)) P S (on<|.h<|dj (L2.Nt.sm ((Ph<|VX C).take i) F) Dl) af ai) ⟨rfl,OZ,OZ,rfl⟩ ?_ ?_
 .rintro i dd M _ hdd ⟨rfl,af,ai,rfl⟩
  obtain⟨hi,rfl⟩:=uB hdd;have ax:F i<=2^171:=by rw[<-Fi];exact X1 _
  have pm:=me (d:=(c.1,i)) (β:=w) X hi;rw[Fi]at pm;have pi:=ao i;have tk:L2.Nt.sm ((Ph<|VX C).take<|i+1) F=L2.Nt.sm ((Ph<|VX C).take i) F+F i:=yP F<|QU hi;generalize L2.Nt.sm ((Ph<|VX C).take i) F=A at pi tk;rw[tk,<-JQ Z];have u1:∀p:Nat,Dl/QE p Dl<=2^160:=λp=>Pk (TX _ _) I;refine⟨_,rfl,aE (ah rfl pm) ?_⟩;exact aq<|aE (β1:=w) (ah (ac (dq (dq (dq rfl rfl zK) (dq rfl rfl sd)<|eL (L (Pk (TX _ _) pi)<|by decide)<|L (u1 _)<|by decide) (dq (dq rfl rfl zK) (dq rfl rfl sd)<|eL (L (Pk (TX _ _) ax)<|by decide)<|L (u1 _)<|by decide) sI)<|ac (dq (dq rfl rfl sd) (dq rfl rfl sd)<|eL (L (u1 _)<|by decide)<|L (u1 _)<|by decide) rfl)<|wc (Ve (qx Z)<|qx Z)<|L (A:=160+160) (by rw[V4];exact Ub (u1 _)<|u1 _)<|by decide)<|aT ⟨rfl,_,_,rfl⟩
 .rintro M _ ⟨rfl,af,ai,rfl⟩
  rw[mv,R9 (by rw[PY];exact Pg _),FS,N5 Z];exact aq<|aM (d:= .c O6) (β1:=w) (ah (ac rfl<|ac (ag (ac (dq rfl rfl R1) rfl) eK) rfl) HF) rfl
end
end Law
namespace L2.Pu
open PySem.W
section
variable{i:String->Option Builtin}{p:P6}{w:Qb}{d:Nat}{f:Option Pb}{g:WY}{q:Uq}
theorem bH(k:Nat){n N:Nat}{s E r:Pe}{b:a0Q}{c:Code}{D G:Uq}(h:segRun i p w d f 1 n s (piecesOf (b.take k) g c D [YM q])=on (.next,E,c,G))
  (a:topRun i p w d f N E (restOf (b.drop k) g c G [YM q])=on r):topRun i p w d f (n+N) s (restOf b g c D [YM q])=on r:=by
 have:=piece_app h a;rwa[S9]at this
theorem GW{N:Nat}{s r:Pe}{b:a0Q}{c:Code}{D:Uq}(e:b=[])(k:topRun i p w d f N s ⟨doneF .next,c,D,[YM q]⟩=on r):topRun i p w d f N s (restOf b g c D [YM q])=on r:=by
 subst e;exact piece_nil k
end
end L2.Pu
namespace Law
open L2 L2.Pu
noncomputable abbrev E(P:XJ)(n:Qa)(t:Nat)(v:Pb):Ug:=⟨PyData.keyHash P<|n,.str (n) t,v⟩
noncomputable abbrev FN(x q:Qa)(s:QD)(b c a d:Pb)(e:a0C)(w D:Pb):PP:=T1 x q (jk s) (cF s) (ae s) b c a d e w D
noncomputable abbrev fO(f:PP):QS:=⟨.type "function",OZ,.func f,#[]⟩
noncomputable abbrev tO(l:a0g):QS:=⟨.type "tuple",OZ,.seq l.toArray 0,#[]⟩
noncomputable abbrev cO(l:a0g):QS:=⟨.type "code",OZ,.fields l.toArray,#[]⟩
noncomputable abbrev eR(P:XJ)(n:Qa)(t r:Nat):Ug:=E P n t<|.ref r
noncomputable abbrev nO(l:a0g):QS:=⟨.none,OZ,.fields l.toArray,#[]⟩
noncomputable abbrev fB(x q:Qa)(s:QD):QS:=⟨.none,OZ,.func ⟨x,q,jk s,.stmts<|cF s,ae s,0,[],.none,.none,.none,.none,OZ,.none,.none,0⟩,#[]⟩
noncomputable abbrev cC(n q:Qa)(t l a D c fl r:Nat)(b:Bool)(d e:Nat)(x y z w:Pb)(u f v:Nat):QS:=cO [.str n t,.str q<|t+1,.str "/claim/cut.py"<|t+2,.int l 0,.int a 0,.int D 0,.int c 0,.int fl 0,.ref r,.bool b,.int d 0,.ref e,x,y,z,w,.int u 0,.int f 0,.str "/claim/cut.py" v]
abbrev eTt:a0g:=[(.ref 38),(.type "ValueError"),(.type "Exception"),(.type "BaseException"),(.type "object")]
noncomputable abbrev xOo(x:Qa)(a d b t u:Nat):QS:=⟨(.type "type"),OZ,(.cls ⟨x,[(.ref 38)],(.ref a)::eTt,d,x,O6,[],[],O8,OZ,O8⟩),#[(on<|.ref b),OZ,(on<|.str x t),(on<|.str x u),(on<|.builtin "ValueError.__new__"),(on<|.bool O6)]⟩
noncomputable abbrev iSs(n:Nat):QS:=⟨(.type "builtin_function_or_method"),OZ,(.fields #[(.builtin "object.__init_subclass__"),(.ref n)]),#[]⟩
noncomputable abbrev r_:Pb:= .str "edgetally.errors" 194
noncomputable abbrev P_:Pb:= .str "edgetally.net" 524
noncomputable abbrev X_:Pb:= .str "EdgeError" 204
noncomputable abbrev tx3:Pb:= .str "EdgeError" 196
noncomputable abbrev tx4:Pb:= .str "__main__" 164
noncomputable def trL:a0a->a0g
 |a::b::c::l=> .int a 0:: .int b 0:: .ref c::trL l
 |_=>[]
noncomputable abbrev nT(l:a0a):QS:=nO<|trL l
noncomputable def stL:Nat->a0h->a0g
 |_,[]=>[]
 |t,x::l=> .str x t::stL (t+1) l
noncomputable abbrev tS(t:Nat)(l:a0h):QS:=tO<|stL t l
noncomputable def fD(o:QS):PP:=match o.data with
 | .func f=>f
 |_=>FN "" "" (dr 0) .none .none .none .none OZ .none .none
abbrev T5:=Qa×Qa×Nat×Nat×a0h
noncomputable abbrev h5(x:Qa)(l a:Nat)(n:a0h):T5:=(x,x,l,a,n)
def zN:a0h->Nat
 |[]=>4
 |_=>6
def uN(d k:Pb)(b:Nat)(v:Pb)(s:QD)(x q:Qa)(r t l a:Nat)(n:a0h):a0M:=[tO [],nO []]++(match n with|[]=>[]|_=>[tS (t+3) n,tO []])++[fB x q s,match n with|[]=>cC x q t l a 0 b 3 r O6 181 (r+1) .none .none .none (.ref<|r+2) (t+3) l (t+4)|_=>cC x q t l a 0 b 3 r O6 181 (r+1) .none (.ref<|r+2) (.ref<|r+3) (.ref<|r+4) (t+3+VX n) l<|t+4+VX n,fO<|FN x q s d k .none v OZ (.ref<|r+zN n-1) .none]
def gO(v:Pb)(s:Nat->QD):Nat->Nat->Nat->List T5->a0M
 |i,r,t,(x,q,l,a,n)::L=>uN .none .none 0 v (s i) x q r t l a n++gO v s (i+1) (r+zN n+1) (t+VX n+6) L
 |_,_,_,_=>[]
def gM(P:XJ):Nat->Nat->List T5->List Ug
 |r,t,(x,_,_,_,n)::L=>E P x (t+VX n+5) (.ref<|r+zN n)::gM P (r+zN n+1) (t+VX n+6) L
 |_,_,_=>[]
def gA:Nat->List T5->a0q
 |r,(_,_,_,_,n)::L=>(r+zN n-1)::(r+zN n)::gA (r+zN n+1) L
 |_,_=>[]
noncomputable def fk(L:a0M)(i:Nat):PP:=fD<|L.getD i<|tO []
noncomputable abbrev frO(a b:Nat)(v:Pb):QS:=⟨(.type "frame"),OZ,.plain,#[(on<|.ref a),(on<|.ref 3),(on<|.ref b),OZ,(on v),OZ,(on<|.ref 0)]⟩
noncomputable abbrev suO(a:Nat):QS:=⟨(.type "super"),OZ,(.fields #[(.ref a),(.ref a),(.ref a)]),#[]⟩
noncomputable def b23:QS:=⟨(.type "builtin_function_or_method"),OZ,(.fields #[(.builtin "type.__prepare__"),(.type "type")]),#[]⟩
def uE(P:XJ)(i R T l:Nat)(x q:Qa)(d n c:a0h):a0M:=let M:=R+7+VX d;let t:=T+12+VX d;let u:=t+5+VX n;let y:=E P "__module__" (T+7) r_;let z:=[E P "__firstlineno__" (T+11)<|.int l<|T+10,eR P "__init__" u<|M+6,eR P "__static_attributes__" (u+1+VX c)<|M+7];[tO [.ref 38],b23,⟨.type "dict",OZ,.dict (y::E P "__qualname__" (T+9) (.str x<|T+8)::z).toArray 5,#[]⟩,tO [],nT [l+2,4,M+5],cC x x (T+2) l 0 0 0 0 (R+3) O8 181 (R+4) .none .none .none .none (T+5) l<|T+6,frO (R+5) (R+2) r_]++(match d with|[]=>[]|_=>[tS (T+12) d])++uN (match d with|[]=> .none|_=> .ref<|R+7) .none 0 r_ (cX (dr i) 0) "__init__" q M t (l+2) (VX n) n++[tS (u+1) c,⟨.type "dict",OZ,.dict (y::z++[E P "__doc__" (u+2+VX c) .none]).toArray 2,#[]⟩,xOo x (M+9) (M+8) R T<|T+8,suO<|M+9,iSs<|M+9]
section
variable(P:XJ)
def llA:List T5:=[h5 "_wall" 1 1 ["k"]]
def rrA:a0M:=gO tx4 dr 0 15 187 llA
def llB:List T5:=[("__init__","EdgeError.__init__",7,3,["self","word","why"])]
def rrB:a0M:=gO r_ (cX<|dr 2) 0 29 208 llB
def llD:List T5:=[h5 "check_sums" 44 2 [],h5 "check_there" 55 2 ["place","many"],h5 "check_cell" 58 4 ["row","column","rows","columns"],h5 "check_pair" 61 1 ["pair","low","high"],h5 "settled_bounds" 65 3 []]
def rrD:a0M:=gO (.str "edgetally.bounds" 376) dr 15 167 393 llD
def llE:List T5:=[h5 "factorial" 75 1 ["number","product","factor"],h5 "ways" 80 1 ["parts","part","told"],h5 "common_factor" 88 2 ["one","other"],h5 "lowest" 92 2 ["top","under","factor"],h5 "fillings" 97 3 []]
def rrE:a0M:=gO (.str "edgetally.counts" 432) dr 21 198 434 llE
def llF:List T5:=[h5 "need_of" 107 2 [],h5 "room_inside" 109 4 [],h5 "room_beside" 112 3 [],h5 "room_of" 114 4 [],h5 "narrowest" 116 3 [],h5 "choices" 118 1 [],h5 "check_fit" 123 3 ["rowsums","columnsums","bounds","over","into"]]
def rrF:a0M:=gO (.str "edgetally.fits" 475) dr 27 231 477 llF
def llG:List T5:=[h5 "check_wide" 130 1 ["rowsums","wide","many"],h5 "settled_for_net" 136 3 ["rowsums","columnsums","bounds","settled"],h5 "column_fillings" 141 4 [],h5 "rests_behind" 143 2 [],h5 "nodes_by_level" 145 3 [],h5 "node_counts" 153 3 ["rests","filled","behind","tables","dealings","counts","tables_behind","dealings_behind"],h5 "counted_nodes" 161 3 []]
def rrG:a0M:=gO P_ dr 36 268 528 llG
def llI:List T5:=[("__eq__","Net.__eq__",181,2,["self","other"]),("__len__","Net.__len__",184,1,["self"]),("rowsums","Net.rowsums",187,1,["self"]),("columnsums","Net.columnsums",190,1,["self"]),("bounds","Net.bounds",193,1,[]),("counts_at","Net.counts_at",196,3,["self","level","rests"]),("tables","Net.tables",199,1,["self"]),("dealings","Net.dealings",202,1,["self"]),("steps","Net.steps",205,3,[]),("paper","Net.paper",210,1,["self"])]
def rrI:a0M:=gO P_ (cX<|dr 43) 1 324 609 llI
def llJ:List T5:=[h5 "check_cell_of" 213 2 ["net","cell","row","column"],h5 "count_in" 216 3 ["cell","level","counts","row","column"],h5 "put_to" 219 4 ["found","here","there","many","dealings","ones","others","products"],h5 "sums_added" 222 2 [],h5 "sums_behind" 224 5 ["net","one","other","level","sums","behind","rests","found","counts","node","more"],h5 "sums_over_tables" 232 3 [],h5 "mean" 237 3 ["net","row","column","cell","dealings","ones","others","products"]]
def Z_:a0M:=gO (.str "edgetally.means" 693) dr 45 397 695 llJ
def llK:List T5:=[h5 "_law_bag" 243 1 [],h5 "_law_pull" 245 2 ["_law_bag_here","_law_lot","_law_cells","_law_at","_law_cell"],h5 "_law_same" 255 2 [],h5 "_law_grid" 267 4 [],h5 "_law_wide" 274 1 ["_law_bag_here","_law_grid_here","_law_lot","_law_first"],h5 "_law_large" 280 1 ["_law_bag_here","_law_way","_law_block","_law_columns"],h5 "_law_turned" 291 1 [],h5 "_law_rowsums" 293 1 [],h5 "_law_columnsums" 295 1 [],h5 "_law_free" 297 2 [],h5 "_law_bars" 299 2 ["_law_bag_here","_law_grid_here","_law_told","_law_at","_law_row","_law_to","_law_count"],h5 "_law_copied" 308 1 [],h5 "_law_gcd" 310 2 ["_law_one","_law_other","_law_kept"],h5 "_law_lowest" 316 2 ["_law_top","_law_under","_law_both"],h5 "_law_place" 319 2 ["_law_bag_here","_law_grid_here","_law_at"],h5 "_law_net" 322 2 ["_law_grid_here","_law_limits"],h5 "law" 324 1 ["_law_script","_law_bag_here","_law_grid_here","_law_limits","_law_at","_law_to","_law_rowsums_here","_law_columnsums_here","_law_net_here","_law_told","_law_due","_law_less","_law_lower","_law_total","_law_column","_law_part"]]
def p3:a0M:=gO (.str "law_edgetally_k50_whole_mean_by_one_thing_le" 773) dr 53 442 775 llK
def rrC:a0M:=uN .none (.ref 161) 1 (.str "edgetally.bounds" 376) (dr 14) "free" "free" 162 387 42 2 []
def rrH:a0M:=uN .none (.ref 316) 1 P_ (cX (dr 43) 0) "__init__" "Net.__init__" 317 598 173 3 ["self","rowsums","columnsums","bounds","settled"]
def mL:List Ug:=(E P "__name__" 165<|.str "law_edgetally_k50_whole_mean_by_one_thing_le" 773)::((match(Zc P).data with| .dict e _=>e.toList|_=>[]).drop 1)++gM P 15 187 llA++[(eR P "EdgeError" 223 38),(eR P "BadSums" 248 59),(eR P "BadBounds" 273 79),(eR P "TooWide" 298 98),(eR P "Barred" 325 117),(eR P "BadCell" 350 137),(eR P "BadNumber" 375 157),(E P "MOST" 379<|.int 40 378),(E P "MOST_ROWS" 381<|.int 4 380),(E P "MOST_COLUMNS" 383<|.int 6 382),(eR P "FREE" 385 160),(eR P "free" 392 166)]++gM P 167 393 llD++gM P 198 434 llE++gM P 231 477 llF++[(E P "WIDE" 527<|.int 500 526)]++gM P 268 528 llG++[(eR P "Net" 692 392)]++gM P 397 695 llJ++gM P 442 775 llK
def A_(n:Nat)(v:Pb):QS:=⟨.type "dict",OZ,.dict (((mL P).take n).set 0<|E P "__name__" 165 v).toArray n,#[]⟩
noncomputable def b3:QS:=⟨(.type "dict"),OZ,(.dict (mL P).toArray 72),#[]⟩
def b7:QS:=tO []
def ro:a0a:=[1,0,20,5,0,27,10,0,47,14,0,67,18,0,87,23,0,106,29,0,125,33,0,145,42,0,165,44,0,170,55,0,177,58,0,184,61,0,191,65,0,196,75,0,203,80,0,210,88,0,217,92,0,224,97,0,229,107,0,234,109,0,239,112,0,244,114,0,249,116,0,254,118,0,259,123,0,266,130,0,273,136,0,280,141,0,285,143,0,290,145,0,295,153,0,302,161,0,307,171,0,314,213,0,402,216,0,409,219,0,416,222,0,421,224,0,428,232,0,433,237,0,440,243,0,445,245,0,452,255,0,457,267,0,462,274,0,469,280,0,476,291,0,481,293,0,486,295,0,491,297,0,496,299,0,503,308,0,508,310,0,515,316,0,522,319,0,529,322,0,536,324,0,543]
def b12:QS:=nT ro
def b13:QS:=cC "<module>" "<module>" 182 1 0 0 0 0 11 O8 181 12 .none .none .none .none 185 1 186
def b14:QS:=frO 13 3 tx4
def b22:QS:=tO [(.type "ValueError")]
def b24:QS:=⟨(.type "dict"),OZ,(.dict ([(E P "__module__" 203 r_),(E P "__qualname__" 205 X_),(E P "__firstlineno__" 207<|.int 5 206)]++gM P 29 208 llB++[(eR P "__static_attributes__" 218 36)]).toArray 5),#[]⟩
def b26:QS:=nT [7,4,34]
def b27:QS:=cC "EdgeError" "EdgeError" 198 5 0 0 0 0 25 O8 181 26 .none .none .none .none 201 5 202
def b28:QS:=frO 27 24 r_
def b36:QS:=tS 217 ["word"]
def b37:QS:=⟨(.type "dict"),OZ,(.dict ([(E P "__module__" 203 r_),(E P "__firstlineno__" 207<|.int 5 206)]++gM P 29 208 llB++[(eR P "__static_attributes__" 218 36),(eR P "__weakref__" 220 39),(E P "__doc__" 221 .none)]).toArray 3),#[]⟩
def b38:QS:=⟨(.type "type"),OZ,(.cls ⟨"EdgeError",[(.type "ValueError")],[(.ref 38),(.type "ValueError"),(.type "Exception"),(.type "BaseException"),(.type "object")],37,"EdgeError",O6,[],[(.ref 59),(.ref 79),(.ref 98),(.ref 117),(.ref 137),(.ref 157)],O8,OZ,O8⟩),#[(on<|.ref 22),OZ,(on tx3),(on X_),(on<|.builtin "ValueError.__new__"),(on<|.bool O6)]⟩
noncomputable def b39:QS:=⟨(.type "getset_descriptor"),OZ,(.fields #[(.str "__weakref__" 219),(.ref 38),(.builtin "ExceptionGroup.__weakref__"),.none]),#[]⟩
def b40:QS:=suO 38
def b41:QS:=iSs 38
def b160:QS:=tO [(.int 0 384),(.int 40 378)]
def b161:QS:=⟨(.type "dict"),OZ,(.dict #[(eR P "pair" 386 160)] 1),#[]⟩
def b311:QS:=⟨(.type "dict"),OZ,(.dict ([(E P "__module__" 592 P_),(E P "__qualname__" 594<|.str "Net" 593),(E P "__firstlineno__" 596<|.int 171 595),(eR P "__init__" 608 323)]++gM P 324 609 llI++[(eR P "__static_attributes__" 684 390)]).toArray 15),#[]⟩
def b313:QS:=nT [173,4,322,181,4,329,184,4,336,187,4,343,190,4,350,193,4,355,196,4,362,199,4,369,202,4,376,205,4,381,210,4,388]
def b314:QS:=cC "Net" "Net" 587 171 0 0 0 0 312 O8 181 313 .none .none .none .none 590 171 591
def b315:QS:=frO 314 311 P_
def b316:QS:=⟨(.type "dict"),OZ,(.dict #[(E P "bounds" 597 .none)] 1),#[]⟩
def b390:QS:=tS 680 ["column_list","counted","pairs","row_list"]
def b391:QS:=⟨(.type "dict"),OZ,(.dict ([(E P "__module__" 592 P_),(E P "__firstlineno__" 596<|.int 171 595),(eR P "__init__" 608 323)]++gM P 324 609 llI++[(eR P "__static_attributes__" 684 390),(eR P "__dict__" 686 393),(eR P "__weakref__" 688 394),(E P "__doc__" 689 .none),(E P "__hash__" 690 .none)]).toArray 5),#[]⟩
noncomputable def b392:QS:=⟨(.type "type"),OZ,(.cls ⟨"Net",[(.type "object")],[(.ref 392),(.type "object")],391,"Net",O6,[],[],O8,OZ,O8⟩),#[OZ,OZ,(on<|.str "Net" 585),(on<|.str "Net" 593),(on<|.builtin "object.__new__"),(on<|.bool O6)]⟩
noncomputable def b393:QS:=⟨(.type "getset_descriptor"),OZ,(.fields #[(.str "__dict__" 685),(.ref 392),(.builtin "function.__dict__"),(.builtin "function.__dict__#set")]),#[]⟩
noncomputable def b394:QS:=⟨(.type "getset_descriptor"),OZ,(.fields #[(.str "__weakref__" 687),(.ref 392),(.builtin "ExceptionGroup.__weakref__"),.none]),#[]⟩
def b395:QS:=suO 392
def b396:QS:=iSs 392
def Ox:QS:=nT<|ro.take 3
def k1_3:QS:=A_ P 10 r_
def Ov:QS:=nT<|ro.take 6
def k2_3:QS:=A_ P 11 r_
def Ou:QS:=⟨(.type "type"),OZ,(.cls ⟨"EdgeError",[(.type "ValueError")],[(.ref 38),(.type "ValueError"),(.type "Exception"),(.type "BaseException"),(.type "object")],37,"EdgeError",O6,[],[],O8,OZ,O8⟩),#[(on<|.ref 22),OZ,(on tx3),(on X_),(on<|.builtin "ValueError.__new__"),(on<|.bool O6)]⟩
def Ot:QS:=nT<|ro.take 9
def k3_3:QS:=A_ P 12 r_
def Os:QS:=⟨(.type "type"),OZ,(.cls ⟨"EdgeError",[(.type "ValueError")],[(.ref 38),(.type "ValueError"),(.type "Exception"),(.type "BaseException"),(.type "object")],37,"EdgeError",O6,[],[(.ref 59)],O8,OZ,O8⟩),#[(on<|.ref 22),OZ,(on tx3),(on X_),(on<|.builtin "ValueError.__new__"),(on<|.bool O6)]⟩
def Oq:QS:=nT<|ro.take 12
def k4_3:QS:=A_ P 13 r_
def Op:QS:=⟨(.type "type"),OZ,(.cls ⟨"EdgeError",[(.type "ValueError")],[(.ref 38),(.type "ValueError"),(.type "Exception"),(.type "BaseException"),(.type "object")],37,"EdgeError",O6,[],[(.ref 59),(.ref 79)],O8,OZ,O8⟩),#[(on<|.ref 22),OZ,(on tx3),(on X_),(on<|.builtin "ValueError.__new__"),(on<|.bool O6)]⟩
def Oo:QS:=nT<|ro.take 15
def k5_3:QS:=A_ P 14 r_
def On:QS:=⟨(.type "type"),OZ,(.cls ⟨"EdgeError",[(.type "ValueError")],[(.ref 38),(.type "ValueError"),(.type "Exception"),(.type "BaseException"),(.type "object")],37,"EdgeError",O6,[],[(.ref 59),(.ref 79),(.ref 98)],O8,OZ,O8⟩),#[(on<|.ref 22),OZ,(on tx3),(on X_),(on<|.builtin "ValueError.__new__"),(on<|.bool O6)]⟩
def Om:QS:=nT<|ro.take 18
def k6_3:QS:=A_ P 15 r_
def Ol:QS:=⟨(.type "type"),OZ,(.cls ⟨"EdgeError",[(.type "ValueError")],[(.ref 38),(.type "ValueError"),(.type "Exception"),(.type "BaseException"),(.type "object")],37,"EdgeError",O6,[],[(.ref 59),(.ref 79),(.ref 98),(.ref 117)],O8,OZ,O8⟩),#[(on<|.ref 22),OZ,(on tx3),(on X_),(on<|.builtin "ValueError.__new__"),(on<|.bool O6)]⟩
def Oj:QS:=nT<|ro.take 21
def k7_3:QS:=A_ P 16 r_
def Oi:QS:=⟨(.type "type"),OZ,(.cls ⟨"EdgeError",[(.type "ValueError")],[(.ref 38),(.type "ValueError"),(.type "Exception"),(.type "BaseException"),(.type "object")],37,"EdgeError",O6,[],[(.ref 59),(.ref 79),(.ref 98),(.ref 117),(.ref 137)],O8,OZ,O8⟩),#[(on<|.ref 22),OZ,(on tx3),(on X_),(on<|.builtin "ValueError.__new__"),(on<|.bool O6)]⟩
def Oh:QS:=nT<|ro.take 24
def k8_3:QS:=A_ P 17 r_
def Og:QS:=nT<|ro.take 42
noncomputable def k9_3:QS:=A_ P 27<|.str "edgetally.counts" 432
def Mt:QS:=nT<|ro.take 66
noncomputable def OE:QS:=A_ P 35<|.str "edgetally.fits" 475
def Mr:QS:=nT<|ro.take 90
def OD:QS:=A_ P 44 P_
def Mp:QS:=nT<|ro.take 99
def OC:QS:=A_ P 47 P_
def Mn:QS:=nT<|ro.take 102
def OB:QS:=A_ P 48 P_
def Mj:QS:=nT<|ro.take 123
noncomputable def OA:QS:=⟨(.type "dict"),OZ,(.dict ((mL P).take 55).toArray 55),#[]⟩
def Mh:QS:=nT<|ro.take 147
noncomputable def Oz:QS:=⟨(.type "dict"),OZ,(.dict ((mL P).take 63).toArray 63),#[]⟩
def Mf:QS:=nT<|ro.take 171
noncomputable def Oy:QS:=⟨(.type "dict"),OZ,(.dict ((mL P).take 71).toArray 71),#[]⟩
def kL:a0M:=((YU P).objs.toList.set 3<|b3 P)++[b7,b12,b13,b14]++rrA++[b22,b23,b24 P,b7,b26,b27,b28]++rrB++[b36,b37 P,b38,b39,b40,b41]++uE P 3 42 224 10 "BadSums" "BadSums.__init__" ["these sums are no table's"] ["self","why"] []++uE P 4 62 249 14 "BadBounds" "BadBounds.__init__" ["these bounds are no table's"] ["self","why"] []++uE P 5 82 274 18 "TooWide" "TooWide.__init__" [] ["self","wide"] ["wide"]++uE P 6 101 299 23 "Barred" "Barred.__init__" [] ["self","over","into"] ["into","over"]++uE P 7 120 326 29 "BadCell" "BadCell.__init__" ["there is no such cell"] ["self","why"] []++uE P 8 140 351 33 "BadNumber" "BadNumber.__init__" ["this number is out of its bounds"] ["self","why"] []++[b160,b161 P]++rrC++rrD++rrE++rrF++rrG++[b7,b23,b311 P,b7,b313,b314,b315,b316 P]++rrH++rrI++[b390,b391 P,b392,b393,b394,b395,b396]++Z_++p3
abbrev h0H:Qt:=YU P
def h1H:Qt:=⟨⟨(((kL P).take 15).set 3<|Zc P).set 12<|nO []⟩,{}⟩
def k1H:Qt:=⟨⟨(((kL P).take 22).set 3<|k1_3 P).set 12<|Ox⟩,{}⟩
def k2H:Qt:=⟨⟨((((kL P).take 42).set 3<|k2_3 P).set 12<|Ov).set 38<|Ou⟩,{}⟩
def k3H:Qt:=⟨⟨((((kL P).take 62).set 3<|k3_3 P).set 12<|Ot).set 38<|Os⟩,{}⟩
def k4H:Qt:=⟨⟨((((kL P).take 82).set 3<|k4_3 P).set 12<|Oq).set 38<|Op⟩,{}⟩
def k5H:Qt:=⟨⟨((((kL P).take 101).set 3<|k5_3 P).set 12<|Oo).set 38<|On⟩,{}⟩
def k6H:Qt:=⟨⟨((((kL P).take 120).set 3<|k6_3 P).set 12<|Om).set 38<|Ol⟩,{}⟩
def k7H:Qt:=⟨⟨((((kL P).take 140).set 3<|k7_3 P).set 12<|Oj).set 38<|Oi⟩,{}⟩
def k8H:Qt:=⟨⟨(((kL P).take 160).set 3<|k8_3 P).set 12<|Oh⟩,{}⟩
def k9H:Qt:=⟨⟨(((kL P).take 198).set 3<|k9_3 P).set 12<|Og⟩,{}⟩
def Mu:Qt:=⟨⟨(((kL P).take 246).set 3<|OE P).set 12<|Mt⟩,{}⟩
def Ms:Qt:=⟨⟨(((kL P).take 292).set 3<|OD P).set 12<|Mr⟩,{}⟩
def Mq:Qt:=⟨⟨(((kL P).take 309).set 3<|OC P).set 12<|Mp⟩,{}⟩
def Mo:Qt:=⟨⟨(((kL P).take 397).set 3<|OB P).set 12<|Mn⟩,{}⟩
def Ml:Qt:=⟨⟨(((kL P).take 442).set 3<|OA P).set 12<|Mj⟩,{}⟩
def Mi:Qt:=⟨⟨(((kL P).take 488).set 3<|Oz P).set 12<|Mh⟩,{}⟩
def Mg:Qt:=⟨⟨(((kL P).take 538).set 3<|Oy P).set 12<|Mf⟩,{}⟩
noncomputable def wk:Qt:=⟨⟨kL P⟩,{}⟩
end
noncomputable def aH:a0q:=[2,3]++gA 29 llB++[37,38,113,114,116,117,160,161,165,166]++gA 167 llD++gA 198 llE++gA 231 llF++gA 268 llG++[316,322,323,343,344,350,351,362,363,376,377,381,382,391,392]++gA 397 llJ++gA 442 llK
def KH(P:XJ):Pz:=aH.map λi=>(i,(kL P).getD i<|tO [])
theorem eH:∀P,aH=(KH P).map (·.1):=λ_=>by kernel_rfl
noncomputable def qH:P6:={PySem.Challenge.pw_edgetally_k50_whole_mean_by_one_thing_le with main:={PySem.Challenge.pw_edgetally_k50_whole_mean_by_one_thing_le.main with body:=[dr 0,dr 2,dr 3,dr 4,dr 5,dr 6,dr 7,dr 8,dr 10,dr 11,dr 12,dr 13,dr 15,dr 16,dr 17,dr 18,dr 19,dr 21,dr 22,dr 23,dr 24,dr 25,dr 27,dr 28,dr 29,dr 30,dr 31,dr 32,dr 33,dr 35,dr 36,dr 37,dr 38,dr 39,dr 40,dr 41,dr 42,dr 43,dr 45,dr 46,dr 47,dr 48,dr 49,dr 50,dr 51,dr 53,dr 54,dr 55,dr 56,dr 57,dr 58,dr 59,dr 60,dr 61,dr 62,dr 63,dr 64,dr 65,dr 66,dr 67,dr 68,dr 69]}}
noncomputable abbrev lvH:List (Qa×PySem.W.WData):=[("FREE",PySem.W.WData.tuple [XE 0,XE 40])]
noncomputable abbrev loH:a0h:=["BadSums","BadBounds","BadCell","BadNumber","FREE","free","Net"]
abbrev hkH:=PySem.W.kHook KH aH eH
def xtH(s:Pe):Bool:=PySem.W.xlAt qH lvH s&&PySem.W.recOk (PySem.W.RowW.records<|RW<|Si P5) s
noncomputable abbrev pH:P6:=XM<|RW<|Si P5
noncomputable def nS:a0Q:=PySem.W.behindTheImports pH
noncomputable def o3:WY:={scope:=pH.main.scope,locals:=mainNs,globals:=mainNs,cells:=[],code:=(.ref 13),frame:=(on 14)}
def cH:Code:= .body nS o3
noncomputable abbrev o0:List Frame:=[PySem.W.topFrame ⟨0,0,0,0⟩]
theorem opH(w:Qb):(PySem.W.fencedOpening Qf pH w 7798).map (λs=>(s.heap,s.gens,s.drawn,s.toks))=on (h0H w.params,#[],{},181):=by kernel_rfl
theorem szH(w:Qb):((h0H w.params).isNs RV&&(#[]:Array GenState).size==0,(h0H w.params).objs.size,(h0H w.params).nsMap RV "__annotations__")=(O6,11,(on<|.ref 6)):=by kernel_rfl
theorem r1H(w:Qb)(D:Sa):PySem.W.topGo Qf pH w 11 (on<|.ref 6) 12 ⟨h0H w.params,#[],{},181,D⟩ (ZB pH)=on (⟨h1H w.params,#[],{},187,D⟩,⟨denote Qf<|.body nS o3,cH,⟨0,0,0,0⟩,o0⟩):=by kernel_rfl
theorem r2H(w:Qb)(D:Sa):QC Qf pH w 11 (on<|.ref 6) 1 1 ⟨h1H w.params,#[],{},187,D⟩ (PySem.W.blockOf nS o3 cH ⟨0,0,0,0⟩ o0)=on (.next,⟨h1H w.params,#[],{},187,D⟩,cH,⟨0,0,0,0⟩):=by kernel_rfl
theorem c1H(w:Qb)(D:Sa):QC Qf pH w 11 (on<|.ref 6) 1 39 ⟨h1H w.params,#[],{},187,D⟩ (Qv (nS.take 2) o3 cH ⟨0,0,0,0⟩ o0)=on (.next,⟨k1H w.params,#[],{},196,D⟩,cH,⟨4,0,4,8⟩):=by kernel_rfl
theorem c2H(w:Qb)(D:Sa):QC Qf pH w 11 (on<|.ref 6) 1 220 ⟨k1H w.params,#[],{},196,D⟩ (Qv ((nS.drop 2).take 1) o3 cH ⟨4,0,4,8⟩ o0)=on (.next,⟨k2H w.params,#[],{},224,D⟩,cH,⟨5,0,9,24⟩):=by kernel_rfl
theorem c3H(w:Qb)(D:Sa):QC Qf pH w 11 (on<|.ref 6) 1 247 ⟨k2H w.params,#[],{},224,D⟩ (Qv (((nS.drop 2).drop 1).take 1) o3 cH ⟨5,0,9,24⟩ o0)=on (.next,⟨k3H w.params,#[],{},249,D⟩,cH,⟨10,0,13,45⟩):=by kernel_rfl
theorem c4H(w:Qb)(D:Sa):QC Qf pH w 11 (on<|.ref 6) 1 247 ⟨k3H w.params,#[],{},249,D⟩ (Qv ((((nS.drop 2).drop 1).drop 1).take 1) o3 cH ⟨10,0,13,45⟩ o0)=on (.next,⟨k4H w.params,#[],{},274,D⟩,cH,⟨14,0,17,47⟩):=by kernel_rfl
theorem c5H(w:Qb)(D:Sa):QC Qf pH w 11 (on<|.ref 6) 1 246 ⟨k4H w.params,#[],{},274,D⟩ (Qv (((((nS.drop 2).drop 1).drop 1).drop 1).take 1) o3 cH ⟨14,0,17,47⟩ o0)=on (.next,⟨k5H w.params,#[],{},299,D⟩,cH,⟨18,0,22,24⟩):=by kernel_rfl
theorem c6H(w:Qb)(D:Sa):QC Qf pH w 11 (on<|.ref 6) 1 248 ⟨k5H w.params,#[],{},299,D⟩ (Qv ((((((nS.drop 2).drop 1).drop 1).drop 1).drop 1).take 1) o3 cH ⟨18,0,22,24⟩ o0)=on (.next,⟨k6H w.params,#[],{},326,D⟩,cH,⟨23,0,28,30⟩):=by kernel_rfl
theorem c7H(w:Qb)(D:Sa):QC Qf pH w 11 (on<|.ref 6) 1 247 ⟨k6H w.params,#[],{},326,D⟩ (Qv (((((((nS.drop 2).drop 1).drop 1).drop 1).drop 1).drop 1).take 1) o3 cH ⟨23,0,28,30⟩ o0)=on (.next,⟨k7H w.params,#[],{},351,D⟩,cH,⟨29,0,32,45⟩):=by kernel_rfl
theorem c8H(w:Qb)(D:Sa):QC Qf pH w 11 (on<|.ref 6) 1 247 ⟨k7H w.params,#[],{},351,D⟩ (Qv ((((((((nS.drop 2).drop 1).drop 1).drop 1).drop 1).drop 1).drop 1).take 1) o3 cH ⟨29,0,32,45⟩ o0)=on (.next,⟨k8H w.params,#[],{},376,D⟩,cH,⟨33,0,36,47⟩):=by kernel_rfl
theorem c9H(w:Qb)(D:Sa):QC Qf pH w 11 (on<|.ref 6) 1 237 ⟨k8H w.params,#[],{},376,D⟩ (Qv (((((((((nS.drop 2).drop 1).drop 1).drop 1).drop 1).drop 1).drop 1).drop 1).take 12) o3 cH ⟨33,0,36,47⟩ o0)=on (.next,⟨k9H w.params,#[],{},434,D⟩,cH,⟨74,0,74,8⟩):=by kernel_rfl
theorem c10H(w:Qb)(D:Sa):QC Qf pH w 11 (on<|.ref 6) 1 237 ⟨k9H w.params,#[],{},434,D⟩ (Qv ((((((((((nS.drop 2).drop 1).drop 1).drop 1).drop 1).drop 1).drop 1).drop 1).drop 12).take 9) o3 cH ⟨74,0,74,8⟩ o0)=on (.next,⟨Mu w.params,#[],{},495,D⟩,cH,⟨112,0,113,56⟩):=by kernel_rfl
theorem c11H(w:Qb)(D:Sa):QC Qf pH w 11 (on<|.ref 6) 1 245 ⟨Mu w.params,#[],{},495,D⟩ (Qv (((((((((((nS.drop 2).drop 1).drop 1).drop 1).drop 1).drop 1).drop 1).drop 1).drop 12).drop 9).take 10) o3 cH ⟨112,0,113,56⟩ o0)=on (.next,⟨Ms w.params,#[],{},559,D⟩,cH,⟨143,0,144,70⟩):=by kernel_rfl
theorem c12H(w:Qb)(D:Sa):QC Qf pH w 11 (on<|.ref 6) 1 89 ⟨Ms w.params,#[],{},559,D⟩ (Qv ((((((((((((nS.drop 2).drop 1).drop 1).drop 1).drop 1).drop 1).drop 1).drop 1).drop 12).drop 9).drop 10).take 3) o3 cH ⟨143,0,144,70⟩ o0)=on (.next,⟨Mq w.params,#[],{},585,D⟩,cH,⟨161,0,170,112⟩):=by kernel_rfl
theorem c13H(w:Qb)(D:Sa):QC Qf pH w 11 (on<|.ref 6) 1 547 ⟨Mq w.params,#[],{},585,D⟩ (Qv (((((((((((((nS.drop 2).drop 1).drop 1).drop 1).drop 1).drop 1).drop 1).drop 1).drop 12).drop 9).drop 10).drop 3).take 1) o3 cH ⟨161,0,170,112⟩ o0)=on (.next,⟨Mo w.params,#[],{},693,D⟩,cH,⟨171,0,211,16⟩):=by kernel_rfl
theorem c14H(w:Qb)(D:Sa):QC Qf pH w 11 (on<|.ref 6) 1 247 ⟨Mo w.params,#[],{},693,D⟩ (Qv ((((((((((((((nS.drop 2).drop 1).drop 1).drop 1).drop 1).drop 1).drop 1).drop 1).drop 12).drop 9).drop 10).drop 3).drop 1).take 9) o3 cH ⟨171,0,211,16⟩ o0)=on (.next,⟨Ml w.params,#[],{},775,D⟩,cH,⟨242,0,242,8⟩):=by kernel_rfl
theorem c15H(w:Qb)(D:Sa):QC Qf pH w 11 (on<|.ref 6) 1 228 ⟨Ml w.params,#[],{},775,D⟩ (Qv (((((((((((((((nS.drop 2).drop 1).drop 1).drop 1).drop 1).drop 1).drop 1).drop 1).drop 12).drop 9).drop 10).drop 3).drop 1).drop 9).take 8) o3 cH ⟨242,0,242,8⟩ o0)=on (.next,⟨Mi w.params,#[],{},836,D⟩,cH,⟨293,0,294,57⟩):=by kernel_rfl
theorem c16H(w:Qb)(D:Sa):QC Qf pH w 11 (on<|.ref 6) 1 237 ⟨Mi w.params,#[],{},836,D⟩ (Qv ((((((((((((((((nS.drop 2).drop 1).drop 1).drop 1).drop 1).drop 1).drop 1).drop 1).drop 12).drop 9).drop 10).drop 3).drop 1).drop 9).drop 8).take 8) o3 cH ⟨293,0,294,57⟩ o0)=on (.next,⟨Mg w.params,#[],{},902,D⟩,cH,⟨322,0,323,110⟩):=by kernel_rfl
theorem c17H(w:Qb)(D:Sa):QC Qf pH w 11 (on<|.ref 6) 1 45 ⟨Mg w.params,#[],{},902,D⟩ (Qv (((((((((((((((((nS.drop 2).drop 1).drop 1).drop 1).drop 1).drop 1).drop 1).drop 1).drop 12).drop 9).drop 10).drop 3).drop 1).drop 9).drop 8).drop 8).take 1) o3 cH ⟨322,0,323,110⟩ o0)=on (.next,⟨wk w.params,#[],{},924,D⟩,cH,⟨324,0,352,65⟩):=by kernel_rfl
theorem e0H:(((((((((((((((((nS.drop 2).drop 1).drop 1).drop 1).drop 1).drop 1).drop 1).drop 1).drop 12).drop 9).drop 10).drop 3).drop 1).drop 9).drop 8).drop 8).drop 1)=[]:=by kernel_rfl
theorem r9H(w:Qb)(D:Sa):Z0 Qf pH w 11 (on<|.ref 6) 2 ⟨wk w.params,#[],{},924,D⟩ ⟨PySem.W.doneF .next,cH,⟨324,0,352,65⟩,o0⟩=on ⟨wk w.params,#[],{},924,D⟩:=by kernel_rfl
theorem rnH(w:Qb)(D:Sa):Z0 Qf pH w 11 (on<|.ref 6) (12+(1+(39+(220+(247+(247+(246+(248+(247+(247+(237+(237+(245+(89+(547+(247+(228+(237+(45+2))))))))))))))))))) ⟨h0H w.params,#[],{},181,D⟩ (ZB pH)=on ⟨wk w.params,#[],{},924,D⟩:=PySem.W.go_top (r1H w D)<|PySem.W.piece_block (r2H w D)<|bH 2 (c1H w D)<|bH 1 (c2H w D)<|bH 1 (c3H w D)<|bH 1 (c4H w D)<|bH 1 (c5H w D)<|bH 1 (c6H w D)<|bH 1 (c7H w D)<|bH 1 (c8H w D)<|bH 12 (c9H w D)<|bH 9 (c10H w D)<|bH 10 (c11H w D)<|bH 3 (c12H w D)<|bH 1 (c13H w D)<|bH 9 (c14H w D)<|bH 8 (c15H w D)<|bH 8 (c16H w D)<|bH 1 (c17H w D)<|GW e0H<|r9H w D
theorem hlH:PySem.W.LeftO pH qH loH xtH (PySem.W.Hook.obs hkH) (PySem.W.Hook.val hkH) 7798:=PySem.W.LeftO.of_pieces (H₀:=h0H) (H₁:=wk) opH szH rnH (by decide +kernel) λw=>by kernel_rfl
theorem wsH:PySem.W.OpenLaw.wellSaid P5=O6:=by decide +kernel
theorem okH:(PySem.W.chainsOk qH&&PySem.W.opensWell (XM<|RW<|Si P5)&&(PySem.W.frees (RW<|Si P5)&&(PySem.W.RowW.within<|RW<|Si P5).isEmpty))=O6:=by decide +kernel
abbrev adH:Ad:=⟨38,35,fk rrB 6,117,114,fk (uN .none .none 0 r_ (cX (dr 6) 0) "__init__" "Barred.__init__" 108 311 25 3 ["self","over","into"]) 6,392,166,fk rrC 4,171,fk rrD 4,178,fk rrD 11,185,fk rrD 18,192,fk rrD 25,197,fk rrD 30,204,fk rrE 6,211,fk rrE 13,218,fk rrE 20,225,fk rrE 27,230,fk rrE 32,235,fk rrF 4,240,fk rrF 9,245,fk rrF 14,250,fk rrF 19,255,fk rrF 24,260,fk rrF 29,267,fk rrF 36,274,fk rrG 6,281,fk rrG 13,286,fk rrG 18,291,fk rrG 23,296,fk rrG 28,303,fk rrG 35,308,fk rrG 40,403,fk Z_ 6,410,fk Z_ 13,417,fk Z_ 20,422,fk Z_ 25,429,fk Z_ 32,434,fk Z_ 37,441,fk Z_ 44,446,fk p3 4,453,fk p3 11,458,fk p3 16,463,fk p3 21,470,fk p3 28,477,fk p3 35,482,fk p3 40,487,fk p3 45,492,fk p3 50,497,fk p3 55,504,fk p3 62,509,fk p3 67,516,fk p3 74,523,fk p3 81,530,fk p3 88,537,fk p3 95,323,fk rrH 6,344,fk rrI 20,351,fk rrI 27,382,fk rrI 58,363,fk rrI 39,377,fk rrI 53,544,fk p3 102⟩
section
variable{P:XJ}{h:Qt}{l:a0i}
theorem fH{x q:Qa}{s:QD}{f:O7}{a b d e cd h:Pb}{g:a0C}(l:(KH P).lookup f=on (fO<|FN x q s a b d e g cd h):=by kernel_rfl)(c:Uz (KH P) cd q=O6:=by kernel_rfl)(k:Vo (KH P) (.ref f)=O6:=by kernel_rfl):hW (KH P) x q s f (FN x q s a b d e g cd h):=J6 l c k
theorem mO(X:(KH P).In h)(G:h.Ns RV l){n:Qa}{v:Pb}(e:PySem.W.nsIn (KH P) RV n=on (on v):=by kernel_rfl):l n=on v:=mg_of X G e
theorem mN(X:(KH P).In h)(G:h.Ns RV l){n:Qa}(e:PySem.W.nsIn (KH P) RV n=on OZ:=by kernel_rfl):l n=OZ:=PySem.W.mg_none_of X G e
theorem nH(X:(KH P).In h)(G:h.Ns RV l):t_ (KH P) l adH where
 D6:=MW (az (qZ (u:=(.int 40 378)) (mO X G) nE)<|az (qZ (u:=(.int 6 382)) (mO X G) nE)<|az (qZ (u:=(.int 4 380)) (mO X G) nE)<|az (qZ (u:=(.int 500 526)) (mO X G) nE)<|az (fH)<|az (mO X G)<|az (MR (us:=[(.ref 160)]) 2 rfl (λs us b a=>by obtain⟨c,d,rfl⟩:=lU2 a;exact PySem.W.kp_binds b λS=>by kernel_rfl)<|Kd (IN (p:=160) (q1:=(.type "tuple")) (q2:=OZ) (q3:=#[(.int 0 384),(.int 40 378)]) (q4:=0) (q5:=#[]) (by kernel_rfl) rfl (by decide)<|by repeat (first|exact trivial|refine⟨rfl,?_⟩)) MP) (az (⟨fH,mO X G,.all (tx λ_ _=>rfl)⟩)<|az (⟨fH,mO X G,.all<|tx λ_ _=>rfl⟩)<|az (⟨fH,mO X G,.all<|bA4 λ_ _ _ _=>rfl⟩)<|az (⟨fH,mO X G,.all<|vu λ_=>rfl⟩)<|az (⟨fH,mO X G,.all<|s_ λ_ _ _=>rfl⟩)<|az (⟨fH,mO X G,.all<|vu λ_=>rfl⟩)<|az (⟨fH,mO X G,.all<|vu λ_=>rfl⟩)<|az (⟨fH,mO X G,.all<|tx λ_ _=>rfl⟩)<|az (⟨fH,mO X G,.all<|tx λ_ _=>rfl⟩)<|az (⟨fH,mO X G,.all<|s_ λ_ _ _=>rfl⟩)<|az (⟨fH,mO X G,.all<|tx λ_ _=>rfl⟩)<|az (⟨fH,mO X G,.all<|bA4 λ_ _ _ _=>rfl⟩)<|az (⟨fH,mO X G,.all<|s_ λ_ _ _=>rfl⟩)<|az (⟨fH,mO X G,.all<|bA4 λ_ _ _ _=>rfl⟩)<|az (⟨fH,mO X G,.all<|s_ λ_ _ _=>rfl⟩)<|az (⟨fH,mO X G,.all<|vu λ_=>rfl⟩)<|az (⟨fH,mO X G,.all<|s_ λ_ _ _=>rfl⟩)<|az (⟨fH,mO X G,.all<|vu λ_=>rfl⟩)<|az (⟨fH,mO X G,.all<|s_ λ_ _ _=>rfl⟩)<|az (⟨fH,mO X G,.all<|bA4 λ_ _ _ _=>rfl⟩)<|az (⟨fH,mO X G,.all<|tx λ_ _=>rfl⟩)<|az (⟨fH,mO X G,.all<|s_ λ_ _ _=>rfl⟩)<|az (⟨fH,mO X G,.all<|s_ λ_ _ _=>rfl⟩)<|az (⟨fH,mO X G,.all<|s_ λ_ _ _=>rfl⟩)<|az (⟨fH,mO X G,.all<|tx λ_ _=>rfl⟩)<|az (⟨fH,mO X G,.all<|s_ λ_ _ _=>rfl⟩)<|az (⟨fH,mO X G,.all<|bA4 λ_ _ _ _=>rfl⟩)<|az (⟨fH,mO X G,.all<|tx λ_ _=>rfl⟩)<|az (⟨fH,mO X G,.all λus a=>by obtain⟨_,_,_,_,_,rfl⟩:=lU5 a;rfl⟩)<|az (⟨fH,mO X G,.all<|s_ λ_ _ _=>rfl⟩)<|az (⟨fH,mO X G,.all<|s_ λ_ _ _=>rfl⟩)<|az (⟨fH,mO X G,.all<|vu λ_=>rfl⟩)<|az (⟨fH,mO X G,.all<|tx λ_ _=>rfl⟩)<|az (⟨fH,mO X G,.all<|tx λ_ _=>rfl⟩)<|az (⟨fH,mO X G,.all<|bA4 λ_ _ _ _=>rfl⟩)<|az (⟨fH,mO X G,.all<|vu λ_=>rfl⟩)<|az (⟨fH,mO X G,.all<|vu λ_=>rfl⟩)<|az (⟨fH,mO X G,.all<|vu λ_=>rfl⟩)<|az (⟨fH,mO X G,.all<|vu λ_=>rfl⟩)<|az (⟨fH,mO X G,.all<|vu λ_=>rfl⟩)<|az (⟨fH,mO X G,.all<|tx λ_ _=>rfl⟩)<|az (⟨fH,mO X G,.all<|tx λ_ _=>rfl⟩)<|az (⟨fH,mO X G,.all<|vu λ_=>rfl⟩)<|az (⟨fH,mO X G,.all<|tx λ_ _=>rfl⟩)<|az (⟨fH,mO X G,.all<|tx λ_ _=>rfl⟩)<|az (⟨fH,mO X G,.all<|tx λ_ _=>rfl⟩)<|az (⟨fH,mO X G,.all<|tx λ_ _=>rfl⟩)<|az (fH)<|az (⟨by kernel_rfl,by kernel_rfl,by kernel_rfl,by kernel_rfl⟩)<|az (Of (sv:=[.kw 0]) (.kw .nil) rfl (by decide) λs us g b e f=>by obtain⟨c,d,i,rfl⟩:=lU3 e;obtain⟨j,rfl⟩:=lU1 f;exact .of_eq rfl)<|az (fH)<|az (⟨by kernel_rfl,by kernel_rfl,by kernel_rfl⟩)<|az (.all<|vu λ_=>rfl)<|az (fH)<|az (⟨by kernel_rfl,by kernel_rfl,by kernel_rfl⟩)<|az (.all<|vu λ_=>rfl)<|az (fH)<|az (⟨by kernel_rfl,by kernel_rfl,by kernel_rfl⟩)<|az (.all<|s_ λ_ _ _=>rfl)<|az (fH)<|az (⟨by kernel_rfl,by kernel_rfl,by kernel_rfl⟩)<|az (.all<|s_ λ_ _ _=>rfl)<|az (fH)<|az (⟨by kernel_rfl,by kernel_rfl,by kernel_rfl⟩)<|az (.all<|vu λ_=>rfl)<|az (⟨by kernel_rfl,by kernel_rfl,by kernel_rfl,by kernel_rfl⟩)<|az (mO X G)<|az (show RN (KH P) _ _=_ by kernel_rfl)<|az (show RN (KH P) _ _=_ by kernel_rfl)<|az (show RN (KH P) _ _=_ by kernel_rfl)<|az (show RN (KH P) _ _=_ by kernel_rfl)<|az (fH)<|az (.all<|s_ λ_ _ _=>rfl)<|az (mO X G)<|az (fH)<|az (.all<|s_ λ_ _ _=>rfl)<|az (mO X G)<|az (by kernel_rfl)<|az (by kernel_rfl)<|az (⟨M9 (N:=116) (nm:="Barred") (q:="Barred") (bs:=[(.ref 38)]) (bm:=eTt) (hdct:=O6) (sn:=[]) (sub:=[]) (ab:=O8) (col:=OZ) (dd:=OZ) (k0:=(on<|.ref 101)) (k1:=OZ) (k2:=(on<|.str "Barred" 299)) (k3:=(on<|.str "Barred" 307)) (k5:=(on<|.bool O6)) (cd:=⟨"Barred",[(.ref 38)],[(.ref 117),(.ref 38),(.type "ValueError"),(.type "Exception"),(.type "BaseException"),(.type "object")],116,"Barred",O6,[],[],O8,OZ,O8⟩) (by kernel_rfl) (by kernel_rfl) (by kernel_rfl) (by kernel_rfl),by kernel_rfl,by kernel_rfl,by kernel_rfl⟩)<|az (by kernel_rfl)<|az (⟨by kernel_rfl,by kernel_rfl,by kernel_rfl,by kernel_rfl⟩) trivial))
 D7:=mN X G
 D8:=mN X G
 D9:=mN X G
 Ea:=mN X G
 Eb:=mN X G
 Ec:=mN X G
 Ed:=mN X G
 Ee:=mN X G
 Ef:=mN X G
 Eg:=mN X G
 Eh:=mN X G
 Ei:=mN X G
 Ej:=mN X G
 Ek:=mN X G
 El:=mN X G
 Em:=mN X G
 En:=mN X G
 Eo:=mN X G
theorem wlkH:PySem.W.WalkO qH loH (PySem.W.XL qH lvH) (PySem.W.Hook.says hkH) (RW<|Si P5) (Option.get (PySem.W.defOf qH "law") rfl).1 [] (λf D=>Zh f D):=
 L2.walk_of (n:=63) (k:=9) (x:="_law_script") (CX:=λw=>f0 _ w) (sp:=λw=>HC<|KH w.params) rfl (by decide) rfl ⟨rfl,by decide,by decide,rfl⟩ (λw h Y=>PySem.W.kIn_of Y) (λw l i h c G b=>by
  have e:=b.symm.trans (mg_of c G (v:= .ref 544)<|by kernel_rfl);cases e;exact⟨FN "law" "law" (dr 69) .none .none .none (.str "law_edgetally_k50_whole_mean_by_one_thing_le" 773) OZ (.ref 543) .none,λs v=> .of_eq rfl,λbase _ _=>LS (a:=adH) (fH (by kernel_rfl) (by kernel_rfl)<|by kernel_rfl) (nH c G) λE M=>GK (K:=KH w.params) (a:=adH) (by kernel_rfl) E M⟩) (λ_ _ a P d _ g=>⟨a,P,rfl,g,d,λ_=>rfl⟩) λ_ _ _ _ _ h=>by obtain⟨x,C,j,_,fl⟩:=h;obtain⟨_,_,z⟩:=fl.wish;all_goals exact z
end
end Law
open PySem.W
set_option maxHeartbeats 0 in
theorem PySem.Challenge.cw_edgetally_k50_whole_mean_by_one_thing_le_holds : PySem.Challenge.rw_edgetally_k50_whole_mean_by_one_thing_le.Holds := by
 w_on
 refine holds_law Law.wsH λsaid=>?_;refine holds_open (q:=Law.qH) (loose:=Law.loH) (Xt:=Law.xtH) (XP:=XL Law.qH Law.lvH) (Yf:=Hook.obs Law.hkH) (Ya:=Hook.val Law.hkH) (YP:=Hook.says Law.hkH) (N:=7798) Law.hlH (Hook.of Law.hkH) (Hook.keeps Law.hkH) (λs e=>xl_of s (Tj.mp e).1) XL.keeps (by rfl) (by rfl) (by rfl) (λs e=>recFacts_of (Tj.mp e).2) (by rfl) said Law.okH ⟨rfl,rfl,rfl,rfl,rfl,by decide +kernel⟩ ?hw ?hc
 case hw=>w_witness2
 exact Law.wlkH
