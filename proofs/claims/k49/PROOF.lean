import PyProof.Rows.All
import Wide.All
import OpenK.AllK
import Wide.FinOn
import Lean
import PyProof.EqAt
import PyProof.EqKinds
import PyProof.TupleCall
import PyProof.NsDelKeeps
import PyProof.ListRange
import PyProof.ExcArgsOwn
import PySem.Challenge.RW_edgetally_k49_means_small
set_option Elab.async false
set_option linter.all false
set_option genSizeOf false
set_option compiler.extract_closed false
set_option bootstrap.genMatcherCode false
set_option maxHeartbeats 8000000
set_option maxRecDepth 100000
noncomputable section
open And renaming intro->XF
open Array renaming length_toList->PP,getElem?_eq_some_iff->Qb,getD->Sc,getElem?_eq_none->Sw,getElem?_toList->SI,forIn_toList->Te,getElem_toList->T4,getElem?_eq_getElem->Uz,getElem?_extract->Xw,getElem?_push->Yl,append_assoc->Yy,size_extract->Yz,toList_push->Y0
open Bool renaming true->OT,false->OW,false_ne_true->O8,false_eq_true->Pq,and_eq_true->PL,not_true->RV,false_and->TD,true_and->T6,eq_iff_iff->Vn,not_false->Vy,and_self->VO,or_true->V9,or_eq_true->WB,and_eq_true_iff->Ym
open Classical renaming byContradiction->RZ
open Except renaming ok->Rj
open False renaming elim->Rk
open ForIn renaming forIn->Yb
open ForInStep renaming yield->UV
open Function renaming comp->Ux
open Int renaming toNat_natCast->QN,zero_add->TH,emod_nonneg->Uj,natCast_add->Uk,emod_lt_of_pos->UC,fdiv_eq_ediv_of_nonneg->UD,natAbs_natCast->VY,le_refl->WE
open List renaming length_map->ON,mem_cons_of_mem->OR,getD_eq_getElem?_getD->OU,getElem?_eq_getElem->OV,getElem?_map->OY,mem_cons_self->OZ,range->O6,map_map->O7,map_cons->O9,getElem?_eq_some_iff->Pa,mem_cons->Pb,mem_map->Pe,length_cons->Pg,mem_of_getElem?->Pj,length_append->Pl,replicate->Pn,size_toArray->Pr,mem_range->Pw,length_range->Py,sum_cons->PD,map_congr_left->PF,mem_singleton->PM,map_append->PR,append_nil->PU,mem_append_right->P0,getElem_mem->P3,nodup_cons->P7,length_singleton->Qa,flatMap_cons->Qd,getElem?_range->Qr,append_assoc->Qs,mem_append->Qt,map->QA,drop_eq_getElem_cons->QC,length_set->QG,not_mem_nil->QL,take_length->QU,filterMap_cons->QV,replicate_succ->QW,getElem?_set->QY,sum->QZ,zip_cons_cons->Q0,length_take->Q2,mem_flatMap->Q3,length_replicate->Q8,drop_eq_nil_of_le->Rl,getElem?_append_right->Rm,flatMap_append->Rp,find?_cons->Rr,mem_or_eq_of_mem_set->Rt,getElem?_eq_none->Ru,ext_getElem->Rx,map_flatMap->Ry,map_replicate->Rz,mem_replicate->RA,mem_append_left->RF,exists_cons_of_length_eq_add_one->RI,getElem?_replicate->RJ,nil_append->RM,take_of_length_le->RQ,getElem_map->RY,take_append_drop->R1,pairwise_iff_getElem->R5,forIn_cons->R7,flatten_cons->Sb,forIn_nil->Sm,pairwise_singleton->Sn,contains_cons->Sx,getElem_range->Sy,map_nil->Sz,mem_filter->SG,range_succ->SH,mem_of_mem_take->SR,all_eq_true->SW,cons_append->SX,lookup_cons->SY,getElem?_append_left->S3,length_zip->Tf,pairwise_cons->Tk,flatMap_eq_nil_iff->Tq,length_eq_zero_iff->Ts,zipWith->TF,drop_length->T1,flatMap_map->T3,map_drop->T8,lookup->Ud,map_set->Us,mem_filterMap->Uy,getElem?_eq_none_iff->UI,length->UM,map_id->UN,nodup_append->UO,pairwise_map->UP,reverse_cons->UQ,take_add_one->UR,any_cons->UW,filter_cons->Va,flatMap_nil->Vb,foldl->Vi,getElem?_toArray->Vu,getElem?_append->VA,getElem_of_mem->VM,length_zipWith->VN,all_cons->VQ,map_take->VR,map_inj_right->VX,zip_nil_left->Wd,nodup_range->Wp,filter_map->WF,length_nil->WG,map_const'->WH,of_mem_zip->WI,sum_append->WJ,nodup_nil->W4,take_zero->W5,getElem?_take_of_lt->Xo,length_erase_of_mem->Xp,getElem?_cons_succ->Xy,filter_eq_nil_iff->XJ,flatMap->XM,getElem?_set_self->XN,length_eq_one_iff->XO,length_pos_of_mem->XQ,range_succ_eq_map->XR,getElem?_zipWith->XU,getElem?_set_ne->Yp,getElem_reverse->Yq,mem_erase_of_ne->Yr,filter_flatMap->YF,filter_sublist->YG,length_reverse->YH,getElem?_drop->Y2,any_eq_false->Zp,ext_getElem?->Zq,filter_congr->Zr,foldl_append->Zs,zipWith_self->Zt
open List.Pairwise renaming nil->Vo
open List.Perm renaming of_eq->VZ
open List.Sublist renaming refl->Ss
open List.cons renaming injEq->Su
open Max renaming max->Yx
open Min renaming min->RT
open Nat renaming le_trans->O4,le_refl->O5,lt_of_lt_of_le->Pz,ne_of_lt->P4,lt_irrefl->Qh,zero_le->Qi,le_add_right->Qu,mul_comm->QP,zero_add->QR,lt_of_le_of_lt->Q1,pow_le_pow_right->Rg,mul_assoc->Ro,mul_left_comm->Rq,gcd->Rv,not_lt_zero->RN,ne_of_gt->RW,add_comm->Sd,mul_le_mul_right->Se,lt_trichotomy->SO,gcd_pos_of_pos_right->Tg,min_le_left->Tl,le_min->Tt,le_mul_of_pos_right->Tv,mul_div_cancel_left->Tw,add_left_comm->TK,le_of_lt_succ->TL,lt_or_ge->TM,lt_succ_of_lt->TN,mul_le_mul->TR,sub_self->TU,lt_succ_self->T9,add_assoc->Ue,le_succ->Uf,le_add_left->Ul,lt_trans->Uu,add_mul->UX,add_sub_cancel_left->Ve,min_le_right->Vf,le_of_lt->Vp,mod_lt->Vq,add_le_add_right->VC,mul_add->VD,pow_add->VE,lt_of_succ_lt->Wg,lt_succ_of_le->Wh,sub_zero->Wj,zero_mul->Wl,succ_le_succ->Ww,mul_pos->WL,div_le_self->WP,strongRecOn->WQ,coprime_div_gcd_div_gcd->W6,add_le_add->Xc,eq_of_mul_eq_mul_right->Xd,lt_min->Xe,add_zero->XV,div_div_eq_div_mul->XW,le_of_eq->XX,min_self->XZ,pow_succ->X0,add_lt_of_lt_sub'->Ys,log2_lt->YI,one_mul->YJ,add_le_add_left->Y4,gcd_zero_right->Zu,pos_of_ne_zero->Zv,sub_le->Zw
open Option renaming some->on,none->OO,map_some->Ra,bind_some->Sg,map_eq_some_iff->Vc,isSome_iff_exists->W7,getD_none->Y5,getD_some->Y6
open Option.some renaming inj->PH,injEq->Xq
open Or renaming inl->RH,inr->Tc
open Prod renaming ext->QI,ext_iff->SA
open Pure renaming pure->Rh
open PyProof renaming noPylong_of_log2->WR
open PyProof.Rows renaming callWith_type1->QS,seqObj->SV,envOfC->TV,AllBare->UK,listUpdate_at->Vs,callWith_builtin1->VB,subscriptTail_builtinR->VI,assignInOrder_cons->Wx,IntsAre->XI,subscriptTail->YX
open PyProof.Rows.IsTup renaming new->Zo
open PySem renaming wpAny_bind->My,wpAny_pure->OP,Addr->OS,Value->OX,Shared->O3,wpAny->Pc,starEach->Pd,sizeLine->Pf,FuncData->Pp,model->Pt,Program->PN,World->PV,Str->PX,treeTable->PY,wpAny_mono->P5,foldedSetIterable->Qe,wpAny_call_entry->Qf,Heap->Qg,Stmt->Qk,SetTable->Ql,Around->Qn,eval->Qp,wpAny_holding->Qv,Obj->Qx,wpAny_newObj_type->Qy,wpAny_truthy_bool->Qz,compareOp->QD,wpAny_field->QE,mem_of_lookup->QJ,wpAny_standAt->QK,wpAny_setField_rec->QT,Comprehension->Q5,cellsFrom->Q7,keywordEach->Rb,wpAny_setState_of->Rc,wpAny_seqItems->Rf,backTo->Ri,mainGlobals->RB,sizeLine_eq->RC,OsState->RK,wpAny_loadPart_at->RU,wpAny_isInstance->R3,binaryOp->R9,wpAny_setField->Sa,wpAny_specialOf->Sh,backToKw->Sj,standAt->Sk,wpAny_comprehension_free->Sv,codeAny->SC,IsPair->SD,wpAny_typeNameOfWhole_itemiter->SE,wpAny_rule->SN,wpAny_passesOwn->SQ,rawInt->SU,NameKind->S7,sliceBounds->S8,wpAny_of_eq->S9,bootBuiltins->Th,codeAny_mono->Ti,holding->Tj,wpAny_typeNameOf_itemiter->Tp,attributeBase->Tx,intItems->Tz,wpAny_attempt->TC,wpAny_Call_Name_kw->TY,DictEntry->TZ,swapsWith->T0,evalEach->Ua,firstArgMember->Ub,pyNext->Uc,Pos->Uh,cLine->Ui,Within->Uo,wpAny_askSetting->Ur,behindInMarks->Ut,codeAny_call_builtin->Uv,assign->UF,letOwnedTupleGo->UG,wpAny_execs_nil->UH,wpAny_isSubtype_exc->UJ,getMethod->UY,IsItemIter->UZ,Paired->U2,Fin->U4,isInstance->U5,isSubtype_type->U6,wpAny_call->U8,wpAny_pyIter_tuple->U9,call->Vg,IsZip->Vh,wpAny_pyIter_list->Vl,wpAny_pyIter_slot->Vm,wpAny_onRaise->Vt,setFlight->Vw,wpAny_forIn_list->Vx,assignEach->VF,intKind->VH,wpAny_isOneOf_itemiter->VJ,wpAny_pyIter_rangeiter->VL,builtinLookup_eq_fast->VT,isSubtype_tuple_tuple->VU,pyIter->V3,wpAny_fieldsOf->V4,wpAny_letGo->V5,wpAny_newTuple->V6,wpAny_updateSeq_pair->V7,BindsTo->V8,Keyword->Wc,wpAny_setEntries_of->Wo,Model->Wq,atKey->Wr,Env->Wu,sysModules->Wz,wpAny_tupleItemsOf->WA,callWith->WT,callerA->WU,numAt->WW,ofAClassStatement->WX,searchCouldBeSeen->WZ,wpAny_assign_Name->W0,wpAny_dictEntries->W1,plainObj_wpAny_Assign_Attribute->Xa,Params->Xf,checkBuiltinCall->Xi,noFill_tuple_add->Xj,pickOrder->Xk,Draws->Xl,IsRangeIter->Xn,again->Xs,intItems_at->Xu,wpAny_alloc->Xv,codeAny_builtin->XA,codeAny_of_tree->XB,typeLookup_type->XD,wpAny_dictEpoch->XE,builtinsNs->X3,call_meets->X5,compPost->X7,entryFor_alias->X8,entryOfKey->X9,isSubtype_stop->Yc,newFunctionEnv->Ye,setField->Yi,wpAny_loadPart->Yk,call->YR,assignInOrder->YS,evalPart_none->YU,nums_intItems->YV,seq_tuple_add->YW,wpAny_getItem_list_slice->YY,wpAny_handled->YZ,PassesOwn->Y7,list_append->Zd,bindC->Zf,bindL->Zg,eqIsQuiet->Zh,field->Zi,lastMarks->Zj,noteFrame->Zk,slicePick->Zl,newExc->ZB,seqIndex_neg->ZC,typeOf->ZD,wpAny_Call_method_late->ZE,wpAny_pyNext_range_end->ZF
open PySem.Around renaming under->VV,under_plainId->XG
open PySem.Builtin.BaseException renaming bexcPut->YA
open PySem.Builtin.Dict renaming showsAll->Wt
open PySem.Builtin.Dict_items renaming ownsTuple->Ta,ownedTupleFields->UA,ownedTupleIsFree->UB,pairFromOwner->UU
open PySem.Builtin.Int renaming intBits->W2
open PySem.Builtin.List renaming listTooLong->Ug,listExtendWith->VP,listSameRef->Wa
open PySem.Builtin.Range renaming rangeFitsLong->QB,rangeSize->Wb
open PySem.Builtin.SmallTypes renaming nextOf->Re,ownedTupleIsFree->Rw,ownedTupleHandOut->Uw,refuseKeywords->UL
open PySem.Builtin.Tuple renaming tupleHashOf->T7
open PySem.Calls renaming callWith_builtin->Vd,Name_function_global->WN,evalArgs_plain->XS,Constant_str->YB,spliced_cons->YC,spliced_nil->Y1
open PySem.Challenge renaming rw_edgetally_k49_means_small->P6
open PySem.Code renaming quiet_builtin->VW,isFrame->XH
open PySem.Draws renaming list->YD
open PySem.F renaming slot_dict_itemiterator_next->Q9,excBase_ValueError->SM,slot_tuple_iterator_next->SZ,slot_list_append->S5,type_list_append->S6,plainAttrs_list->Td,args_tuple_add_2->UE,entry_tuple_add->US,slot_tuple_add->U3,slot_zip_next->Vz,args_dict_itemiterator_next_1->WC,entry_dict_itemiterator_next->WO,slot_dict_itemiterator_iter->W3,plainAttrs_dict->W8,args_tuple_iterator_next_1->Xb,entry_tuple_iterator_next->Xm,slot_dict_get->Xr,slot_dict_items_iter->YE,args_list_append_2->Zm
open PySem.Heap renaming get?_push_of_some->OQ,get?_push_size->Ph,lt_size->Ps,SameBut->PQ,size_push->Qw,get?_update_self->QX,get?_update_other->RP,get?_update_ne->Si,ExtBut->Wv,get?_none_of_le->Yn,get?_push_ne->Zn
open PySem.Heap.IsSliceOf renaming new->WD
open PySem.Heap.Ns1 renaming of_empty->XT
open PySem.Heap.SameBut renaming update->QO
open PySem.IntMulOk renaming of_bits->Yo
open PySem.IsTupleKey renaming typeIs->Xx
open PySem.Manifest renaming find?->Y3
open PySem.NameKind renaming free->R6,cell->WK
open PySem.Obj renaming data_mapFields->QH,mapSeq->Q6,isFreed_of_fields->SL,mapFields->U1,putSet->Vr,cls_mapFields->Wm
open PySem.P renaming add_list->YK
open PySem.SeqAt renaming shaped->V0
open PySem.SetTable renaming fits->WM,fresh->Ze
open PySem.Str renaming ofString->Q4,empty->SK
open PySem.Value renaming ref->Pi,none->P8,type->Sf,int->SS,bool->VS,isInt_shape->V1,isInt->X2,str->Zz
open PySem.W renaming Frag->Pk,piecesOf->Qc,segRun->Qj,Looks->RO,findIn->RX,fnOf->Tu,codeIn->Um,emptyDict->Uq,hideAll_none->UT,keepIn->U7,kia_one->Vj,kia_tup->Vk,hideAll->VG,hideAll_get->V2,instObj->We,kitx_list->Wf,methodCall_KW->Ws,looks_findIn->WV,callWith_K->X4,cellsFrom_some->X6,kitx_tuple->Yd,of_hideAll->Yh,topFrame->Yj,boot_heap->Yt,kitx_bool->Yu,kitx_none->Yv,plainOver->Yw,boot_o_3->YL,handedIn->YM,kitx_int->YN,kitx_own->YO,kitx_str->YQ,bind_fn->Y8,findCls->Y9,makesIn->Za,takesIn->Zb,topStub->Zc,kitAny->Zx,topRun->Zy,exmOne->ZA
open PySem.W.Looks renaming ld->Vv,here->WS
open PySem.W.OpenLaw renaming row->R0
open PySem.W.OpenRow renaming toRowW->RE
open PySem.W.RowW renaming prog->Xg
open PySem.W.WData renaming int->W9
open PySem.Within renaming cons->Xh
open PySem.pickOrder renaming go->WY
open True renaming intro->SB
open PySem PySem.Spec PyProof PyProof.Rows
abbrev a0Y:=List Bool
abbrev a0U:=Int->Int->Prop
abbrev a0S:=Nat->Nat
abbrev a0Q:=List Qk
abbrev a0O:=List Q5
abbrev a0N:=Option Bool
abbrev a0L:=List Qx
abbrev a0K:=Nat->Int
abbrev a0J:=List (PX×S7)
abbrev a0I:=Int->Int->Int
abbrev a0H:=Array OX
abbrev a0G:=Option Nat
abbrev a0B:=List Wu
abbrev a0A:=Option OS
abbrev a0y:=Array Nat
abbrev a0x:=Array (Int×OX)
abbrev a0w:=Array a0G
abbrev a0v:=Option Int
abbrev a0s:=Option (OS×OS)
abbrev a0p:=List OS
abbrev a0m:=List (PX×OS)
abbrev a0j:=PX->Option OX
abbrev a0i:=List PX
abbrev a0h:=List (Nat×Nat)
abbrev a0g:=List OX
abbrev a0f:=List a0h
abbrev a0e:=List Int
abbrev a0t:=List (a0e×OS)
abbrev a0d:=OX->O3->Prop
abbrev a0b:=List (OS×Qx)
abbrev a0a:=List Nat
abbrev a0n:=List a0a
abbrev O0:=@if_pos
abbrev O1:=@if_neg
abbrev Po:=@decide_eq_true
abbrev Px:=@absurd
abbrev PZ:=@decide_eq_false
abbrev P9:=@decide_eq_true_eq
abbrev Qm:=@if_true
abbrev Qo:=@congrArg
abbrev Qq:=@if_false
abbrev RG:=@of_decide_eq_true
abbrev R8:=@beq_iff_eq
abbrev SJ:=@bne_self_eq_false
abbrev TX:=@or_false
abbrev Wn:=@beq_self_eq_true
abbrev Xz:=@beq_eq_false_iff_ne
abbrev Yg:=@of_decide_eq_false
abbrev YT:=@decide_false
open PySem.W (Frag instObj methodObj hideAll hideAll_get of_hideAll hideAll_none lookIn plainGet hasDictIn findIn plainGet_of isFn takerIn looks_clsIn emptyDict looks_findIn keepIn specialIn mroIn kitOne kia_one kitx_list kitx_tuple callWith_K methodCall_KW cellsFrom_some mg_of clsIn exmOne kia_tup)
abbrev LI:=List a0e
abbrev LP:=List (List (Int×Int))
--CHANGE:your row's module here,as the last of these ba
namespace L2
inductive V where
 |non|bl (b:Bool)|int (i:Int)|str (x:PX)|ref (a:OS)|ty (n:String)
 deriving DecidableEq
abbrev a0k:=List V
abbrev a0D:=List (PX×V)
def aO:V->OX->Prop
 | .non,u=>u=P8
 | .bl b,u=>u=VS b
 | .int i,u=>∃t,u=SS i t
 | .str x,u=>∃t,u=Zz x t
 | .ref a,u=>u=Pi a
 | .ty n,u=>u=Sf n
abbrev aw:a0k->a0g->Prop:=U2 aO
theorem aw.length{xs:a0k}{us:a0g}(r:aw xs us):xs.length=us.length:=Paired.length r
theorem aw.get:∀{D:a0k} {E:a0g} {i:Nat} {x:V},aw D E->D[i]?=on x->∃u,E[i]?=on u/\aO x u
 |_,_,_,_,.nil,e=>by simp at e
 |_,_,0,_,.cons r _,e=>by simp at e;subst e;exact⟨_,rfl,r⟩
 |_,_,i+1,x,.cons _ t,e=>by
  obtain⟨u,a,b⟩:=aw.get (i:=i) (x:=x) t (by simpa using e);exact⟨u,by simpa using a,b⟩
theorem aw.set(r:aO x u):∀{xs:a0k} {D:a0g} (i:Nat),aw xs D->aw (xs.set i x) (D.set i u)
 |_,_,_,.nil=> .nil
 |_,_,0,.cons _ t=> .cons r t
 |_,_,i+1,.cons q t=> .cons q (aw.set r i t)
theorem aw.append:∀{xs D:a0k} {E a:a0g},aw xs E->aw D a->aw (xs++D) (E++a)
 |_,_,_,_,.nil,s=>s
 |_,_,_,_,.cons r t,s=> .cons r (aw.append t s)
theorem aw.take:∀{D:a0k} {E:a0g} (n:Nat),aw D E->aw (D.take n) (E.take n)
 |_,_,0,_=> .nil
 |_,_,_+1,.nil=> .nil
 |_,_,n+1,.cons r t=> .cons r (aw.take n t)
theorem aw.drop:∀{D:a0k} {E:a0g} (n:Nat),aw D E->aw (D.drop n) (E.drop n)
 |_,_,0,r=>r
 |_,_,_+1,.nil=> .nil
 |_,_,n+1,.cons _ t=>aw.drop n t
def iD:Option V->Option OX->Prop
 |some v,on u=>aO v u
 |none,OO=>True
 |_,_=>False
inductive HO where
 |lst (xs:a0k)
 |tup (xs:a0k)
 |ins (C dx:OS) (fs:a0D)
 |own (x:OS)
 |xd (fs:a0D)
 |met (f x:OS)
 |rng (lo hi:Int)
 |frz (o:Qx) (u:HO)
 |tbl (ps:a0H)
 |ext (φ:Qg->Prop)
abbrev Hp:=OS->Option HO
abbrev a0T:=Bool->Hp->Prop
noncomputable def upd(H:Hp)(a:OS)(o:HO):Hp:=λb=>if b=a then on o else H b
theorem am:upd H a o a=on o:=by unfold upd;rw[O0 rfl]
theorem bt(h:b≠a):upd H a o b=H b:=by unfold upd;rw[O1 h]
theorem NN{H:Hp}{a b:OS}{o u:HO}(h:H a=on o)(D:H b=on u)(d:o≠u):a≠b:=by
 intro e;subst e;rw[h]at D;exact d (PH D)
theorem b_{H:Hp}{a b:OS}{o:HO}(h:H a=on o)(h':H b=OO):a≠b:=by
 intro e;subst e;rw[h]at h';cases h'
section
variable(P:PN)(w:PV)
def bF(P:PN)(w:PV)(H:Hp)(h:Qg)(a:OS):HO->Prop
 | .lst xs=>xs.length<=Pf/\∃(D:a0g) (n:Nat),aw xs D/\h.get? a=on {cls:= .type "list",data:= .seq D.toArray n}
 | .tup xs=>xs.length<=Pf/\∃D:a0g,aw xs D/\IsTup h a D.toArray
 | .ins C dx fs=>H dx=on (.own a)/\fs.length<=1000/\dx≠a/\h.get? a=on (We C dx)/\
   ∃b,h.Ns1 dx b/\(∀f,iD (fs.lookup f) (b f))/\Uo b (fs.map (·.1))
 | .own _=>∃o,h.get? a=on o
 | .xd fs=>∃b,h.Ns1 a b/\∀f,iD (fs.lookup f) (b f)
 | .rng lo hi=>∃t u v,h.get? a=on {cls:= .type "range",data:= .fields #[.int lo t,.int hi u,.int 1 v]}
 | .frz o u=>h.get? a=on o/\bF P w H h a u
 | .tbl ps=>h.get? a=on {cls:= .none,data:= .fields ps}
 | .met f x=>h.get? a=on (methodObj (.ref f) (.ref x))
 | .ext φ=>φ h/\(∃o,h.get? a=on o)/\∀c d:Qg,φ c->(∀o,c.get? a=on o->d.get? a=on o)->φ d
def k_(H:Hp)(h:Qg):Prop:=∀a o,H a=on o->bF P w H h a o
end
section
variable{P:PN}{w:PV}{H s:Hp}{h h':Qg}{a:OS}{o:HO}
theorem bF.lt(x:bF P w H h a o):a<h.objs.size:=by
 cases o with
 |lst xs=>obtain⟨_,_,_,_,e⟩:=x;exact Ps e
 |tup xs=>obtain⟨_,_,_,p⟩:=x;exact p.lt
 |ins C dx fs=>obtain⟨_,_,_,e,_⟩:=x;exact Ps e
 |own y=>obtain⟨_,e⟩:=x;exact Ps e
 |xd fs=>obtain⟨_,⟨_,_,_,e,_⟩,_⟩:=x;exact Ps e
 |rng lo hi=>obtain⟨_,_,_,e⟩:=x;exact Ps e
 |frz ob u=>obtain⟨e,_⟩:=x;exact Ps e
 |tbl ps=>exact Ps (show h.get? a=on _ from x)
 |met f y=>exact Ps (show h.get? a=on _ from x)
 |ext φ=>obtain⟨_,⟨_,e⟩,_⟩:=x;exact Ps e
theorem bF.stay(x:bF P w H h a o)(k:∀b u,(b=a\/H b=on (.own a))->h.get? b=on u->h'.get? b=on u)
  (l:∀b,H b=on (.own a)->s b=on (.own a)) (A:∀b E,H b=on (.tup E)->s b=on (.tup E)):bF P w s h' a o:=by
 induction o with
 |lst E=>obtain⟨z,D,n,r,e⟩:=x;exact⟨z,D,n,r,k _ _ (.inl rfl) e⟩
 |tup E=>obtain⟨z,D,r,g,e,c⟩:=x;exact⟨z,D,r,g,k _ _ (.inl rfl) e,c⟩
 |ins C dx fs=>
  obtain⟨d,z,S,e,i,⟨j,G,K,m,c⟩,r⟩:=x;exact⟨l _ d,z,S,k _ _ (.inl rfl) e,i,⟨j,G,K,k _ _ (.inr d) m,c⟩,r⟩
 |own y=>obtain⟨g,e⟩:=x;exact⟨g,k _ _ (.inl rfl) e⟩
 |xd fs=>obtain⟨i,⟨j,G,K,e,c⟩,r⟩:=x;exact⟨i,⟨j,G,K,k _ _ (.inl rfl) e,c⟩,r⟩
 |rng lo hi=>obtain⟨t,u,v,e⟩:=x;exact⟨t,u,v,k _ _ (.inl rfl) e⟩
 |frz g u ih=>obtain⟨e,q⟩:=x;exact⟨k _ _ (.inl rfl) e,ih q⟩
 |tbl ps=>
  have e:h.get? a=on {cls:= .none,data:= .fields ps}:=x;show h'.get? a=on {cls:= .none,data:= .fields ps};exact k a _ (.inl rfl) e
 |met f y=>
  have e:h.get? a=on (methodObj (.ref f) (.ref y)):=x;show h'.get? a=on (methodObj (.ref f) (.ref y));exact k a _ (.inl rfl) e
 |ext φ=>obtain⟨p,⟨o,e⟩,M⟩:=x;exact⟨M _ _ p λo q=>k _ _ (.inl rfl) q,⟨o,k _ _ (.inl rfl) e⟩,M⟩
theorem k_.lt(x:k_ P w H h)(e:H a=on o):a<h.objs.size:=(x a o e).lt
theorem k_.fresh(x:k_ P w H h)(e:h.objs.size<=a):H a=OO:=by
 cases q:H a with
 |none=>rfl
 |some u=>exact Px (Pz (x.lt q) e) (Qh _)
theorem k_.kept(x:k_ P w H h)(k:∀b u,h.get? b=on u->h'.get? b=on u):k_ P w H h':=λa o e=>
 (x a o e).stay (λb u _ q=>k b u q) (λ_ q=>q) λ_ _ q=>q
theorem k_.laid(x:k_ P w H h)(k:∀b u,h.get? b=on u->h'.get? b=on u)(f:h.objs.size<=a)(s:bF P w (upd H a o) h' a o):k_ P w (upd H a o) h':=λb u e=>by
 have D:=x.fresh f;by_cases d:b=a
 .subst d;rw[am]at e;cases e;exact s
 .rw[bt d]at e
  exact(x b u e).stay (λc v _ q=>k c v q) (λc q=>by rw[bt (b_ q D)];exact q) λc E q=>by rw[bt (b_ q D)];exact q
def Rd(H:Hp)(a:OS)(u:HO):Prop:=H a=on u\/∃o,H a=on (.frz o u)
theorem Rd.ok{P:PN}{w:PV}{H:Hp}{h:Qg}{a:OS}(r:Rd H a u)(x:k_ P w H h):bF P w H h a u:=by
 rcases r with r|⟨o,r⟩
 .exact x a u r
 .obtain⟨_,q⟩:=x a _ r
  exact q
def Mut:Option HO->Prop
 |some (.lst _)=>True
 |some (.ins _ _ _)=>True
 |some (.ext _)=>True
 |_=>False
variable{x e:OS}{p:HO}
theorem k_.write(s:k_ P w H h)(mu:Mut (H x))(l:e=x\/H e=on (.own x))(k:∀b u,b≠e->h.get? b=on u->h'.get? b=on u)(j:∃u,h'.get? e=on u)
  (o:bF P w (upd H x p) h' x p):k_ P w (upd H x p) h':=λb u q=>by
 have f:∀c y,H c=on (.own y)->c≠x:=λc y r z=>by subst z;rw[r]at mu;exact mu
 have g:∀c a,H c=on (.tup a)->c≠x:=λc a r z=>by subst z;rw[r]at mu;exact mu
 by_cases i:b=x
 .subst i;rw[am]at q;cases q;exact o
 .rw[bt i]at q
  by_cases d:b=e
  .have m:H b=on (.own x):=by
    rcases l with z|z
    .exact Px (d.trans z) i
    .rw[d];exact z
   rw[q]at m;cases m;obtain⟨v,n⟩:=j;exact⟨v,by rw[d];exact n⟩
  .refine(s b u q).stay (λc v hc r=>k c v ?_ r) (λc r=>by rw[bt (f c b r)];exact r) λc a r=>by rw[bt (g c a r)];exact r
   rcases hc with rfl|hc
   .exact d
   .rintro rfl
    rcases l with z|z
    .exact f c b hc z
    .rw[hc]at z;cases z;exact i rfl
structure Un (fs ex:a0p) (H s:Hp) (h h':Qg):Prop where
 keep:∀b o,h.get? b=on o->H b=OO->b∉fs->b∉ex->h'.get? b=on o
 slot:∀b o,h.get? b=on o->H b=OO->b∈fs->b∉ex->∃sl,h'.get? b=on {o with slots:=sl}
 free:∀b o,h.get? b=on o->H b=OO->b∉ex->s b=OO
 there:∀b o,h.get? b=on o->b∉ex->∃p,h'.get? b=on p
 tups:∀b xs,H b=on (.tup xs)->s b=on (.tup xs)
 frzs:∀b o u,H b=on (.frz o u)->s b=on (.frz o u)
 tbls:∀b ps,H b=on (.tbl ps)->∃more,s b=on (.tbl (ps++more))
variable{l i ex j:a0p}{m s:Hp}{k r:Qg}
theorem Un.any(u:Un l ex H m h k)(q:h.get? b=on ob)(n:H b=OO)(c:b∉ex):∃a,k.get? b=on {ob with slots:=a}:=by
 by_cases d:b∈l
 .exact u.slot b ob q n d c
 .exact⟨ob.slots,u.keep b ob q n d c⟩
theorem Un.trans(a:Un l ex H m h k)(b:Un l ex m s k r):Un l ex H s h r where
 keep:=λc d q n hc f=>b.keep c d (a.keep c d q n hc f) (a.free c d q n f) hc f
 slot:=λc d q n hc f=>by
  obtain⟨D,g⟩:=a.slot c d q n hc f;obtain⟨i,j⟩:=b.slot c _ g (a.free c d q n f) hc f;exact⟨i,j⟩
 free:=λc d q n f=>by
  obtain⟨p,g⟩:=a.there c d q f;exact b.free c p g (a.free c d q n f) f
 there:=λc d q f=>by
  obtain⟨p,g⟩:=a.there c d q f;exact b.there c p g f
 tups:=λc e q=>b.tups c e (a.tups c e q)
 frzs:=λc d e q=>b.frzs c d e (a.frzs c d e q)
 tbls:=λc o q=>by
  obtain⟨w,g⟩:=a.tbls c o q;obtain⟨x,j⟩:=b.tbls c _ g;exact⟨w++x,by rw[j,Yy]⟩
theorem Un.kept(k:∀b u,h.get? b=on u->h'.get? b=on u):Un l ex H H h h':=
 ⟨λb c q _ _ _=>k b c q,λb c q _ _ _=>⟨c.slots,k b c q⟩,λ_ _ _ n _=>n,λb c q _=>⟨c,k b c q⟩,λ_ _ q=>q,λ_ _ _ q=>q,λ_ a q=>⟨#[],by rw[q];simp⟩⟩
theorem Un.refl:Un l ex H H h h:=Un.kept λ_ _ q=>q
theorem Un.laid(k:∀b u,h.get? b=on u->h'.get? b=on u)(c:h.objs.size<=a)(e:H a=OO):Un l ex H (upd H a o) h h' where
 keep:=λb u q _ _ _=>k b u q
 slot:=λb u q _ _ _=>⟨u.slots,k b u q⟩
 free:=λb u q n _=>by rw[bt (P4 (Pz (Ps q) c))];exact n
 there:=λb u q _=>⟨u,k b u q⟩
 tups:=λb i q=>by rw[bt (b_ q e)];exact q
 frzs:=λb u i q=>by rw[bt (b_ q e)];exact q
 tbls:=λb j q=>⟨#[],by rw[bt (b_ q e),q];simp⟩
theorem Un.write(mu:Mut (H x))(i:e=x\/H e=on (.own x))(k:∀b u,b≠e->h.get? b=on u->h'.get? b=on u)(d:∃u,h'.get? e=on u):Un l ex H (upd H x o) h h':=by
 have f:∀b,H b=OO->b≠x:=λb n z=>by subst z;rw[n]at mu;exact mu
 have g:∀b,H b=OO->b≠e:=λb n z=>by
  subst z;rcases i with r|r
  .exact f b n r
  .rw[n]at r;cases r
 have a:∀b u,H b=on u->¬Mut (on u)->b≠x:=λb u q j z=>by subst z;rw[q]at mu;exact j mu
 refine⟨λb u q n _ _=>k b u (g b n) q,λb u q n _ _=>⟨u.slots,k b u (g b n) q⟩,λb u q n _=>by rw[bt (f b n)];exact n,λb u q _=>?_,
  λb m q=>by rw[bt (a b _ q λz=>z)];exact q,λb u m q=>by rw[bt (a b _ q λz=>z)];exact q,λb p q=>⟨#[],by rw[bt (a b _ q λz=>z),q];simp⟩⟩
 by_cases c:b=e
 .subst c;exact d
 .exact⟨u,k b u c q⟩
theorem Un.mono(u:Un l ex H m h k)(a:∀b∈l,b∈i)(f:∀b∈ex,b∈j):Un i j H m h k:=
 ⟨λb d q n g c=>u.keep b d q n (λz=>g (a b z)) λz=>c (f b z),λ_ _ q n _ c=>u.any q n λz=>c (f _ z),λb d q n c=>u.free b d q n λz=>c (f b z),λb d q c=>u.there b d q λz=>c (f b z),u.tups,u.frzs,u.tbls⟩
noncomputable def trk(h:Qg)(H:Hp):a0p:=(O6 h.objs.size).filter λa=>(H a).isSome
noncomputable def lO(h:Qg)(H:Hp):Qg:=VG h (trk h H)
theorem DO(h:Qg)(H:Hp):(lO h H).objs.size=h.objs.size:=PySem.W.hideAll_size _ _
theorem GH{h:Qg}{H:Hp}{o:Qx}(e:h.get? b=on o)(n:H b=OO):(lO h H).get? b=on o:=
 V2 _ e λa=>by
  have q:(H b).isSome=OT:=(SG.mp a).2;rw[n]at q;simp at q
theorem Jy{h:Qg}{H:Hp}{o:Qx}(e:(lO h H).get? b=on o):h.get? b=on o/\H b=OO:=by
 have c:h.get? b=on o:=Yh (trk h H) e;refine⟨c,?_⟩;cases q:H b with
 |none=>rfl
 |some x=>
  have a:b∈trk h H:=SG.mpr ⟨Pw.mpr (Ps c),by simp[q]⟩;have z:(lO h H).get? b=OO:=UT (trk h H) a;rw[z]at e;cases e
structure Mod (K:Pk) (mg:a0j) (base:Qg):Prop where
 kin:K.In base
 glob:base.Ns RB mg
 blt:∃mb,base.Ns X3 mb/\∀x:PX,x≠"__name__"->mb x=Th x
 nolimit:base.NoLimit
structure Cx where
 prog:PN
 w:PV
 K:Pk
 mg:PX->Option OX
 base:Qg
 A:Qn
 N:a0i
 s₀:O3
 H₀:Hp
 env:Wu
 outer:a0B
 stack:a0B
 ex:a0p
 fn:PX->Bool
 calm:Bool
 pn:a0b
 xe:OX->O3->Prop
abbrev b0a(X:Cx)(a:Expr)(b:List Expr):=Pd (a::b) X.env=(OW,Qp a X.env)::Pd b X.env
abbrev b0b(X:Cx)(a:Uh)(b:List Expr):=(Ri a (Pd b X.env)).any (·.1)=OW
abbrev b0c(a:PX):=(a==("__debug__":PX))=OW
abbrev b0d(X:Cx)(a:PX):=X.fn a=OT\/X.env.scope.names.lookup a=on .local
noncomputable def fy(l:a0B):a0p:=l.filterMap (·.frame)
end
noncomputable abbrev Cx.fs(X:Cx):a0p:=fy X.outer
def Vis(a:Scope)(x:PX):Prop:=a.names.lookup x=on .local\/a.names.lookup x=on .cell\/a.names.lookup x=on .free
def E_(a:Scope)(x:PX):Prop:=a.names.lookup x=on .local\/a.names.lookup x=on .cell
def Look(D:Wu)(h:Qg)(m:a0j)(x:PX)(u:OX):Prop:=
 (D.kindOf x=on .local/\m x=on u)\/((D.kindOf x=on .cell\/D.kindOf x=on .free)/\∃c,D.cells.lookup x=on c/\h.IsCell c (on u))
structure Cx.Ok (X:Cx):Prop where
 mod:Mod X.K X.mg X.base
 kind:X.env.scope.kind= .function
 glob:X.env.globals=RB
 blt:X.env.builtins=X3
 above:X.s₀.heap.objs.size<=X.env.locals
 inj:∀x y c,X.env.cells.lookup x=on c->X.env.cells.lookup y=on c->x=y
 has:∀x,(X.env.kindOf x=on .cell\/X.env.kindOf x=on .free)->∃c,X.env.cells.lookup x=on c
 cab:∀x c,X.fn x=OT->X.env.cells.lookup x=on c->X.s₀.heap.objs.size<=c
 hd:X.calm=OT->X.A.handled=OO
 frames:X.A.frames=on X.stack
 stk:X.stack=X.outer\/(X.stack=X.env::X.outer/\X.env.frame=on X.env.locals)
 exf:∀b∈X.ex,b≠X.env.locals/\∀x c,X.env.cells.lookup x=on c->c≠b
 bs:∀b o,X.base.get? b=on o->X.s₀.heap.get? b=on o/\X.H₀ b=OO
 bsz:X.base.objs.size<=X.s₀.heap.objs.size
 noex:∀b o,X.base.get? b=on o->b∉X.ex
 exfs:∀b∈X.ex,b∉X.fs
 funs:X.s₀.heap.FunFrames X.base X.outer
 frf:∀b∈X.fs,X.H₀ b=OO
structure cp (X:Cx) (a_:a0b) (σ:List (Option V)) (H:Hp) (s:O3):Prop where
 ok:X.Ok
 os:s.os=X.s₀.os
 bare:UK s.gens
 base:Un X.fs X.ex X.H₀ H X.s₀.heap s.heap
 loc:∃m,s.heap.Ns X.env.locals m/\∀(i:Nat) (x:PX) (v:V),X.N[i]?=on x->σ[i]?=on (on v)->Vis X.env.scope x->∃u,aO v u/\Look X.env s.heap m x u
 cell:∀x c,X.env.cells.lookup x=on c->∃v,s.heap.IsCell c v
 free:H X.env.locals=OO
 freeC:∀x c,X.env.cells.lookup x=on c->H c=OO
 pin:∀p∈X.pn++a_,s.heap.get? p.1=on p.2/\H p.1=OO/\p.1≠X.env.locals/\p.1∉X.fs/\∀v,p.2.data≠ .cell v
 hok:k_ X.prog X.w H s.heap
 len:σ.length=X.N.length
section
variable{X:Cx}{a_:a0b}{σ:List (Option V)}{H R:Hp}{s:O3}{h':Qg}
theorem Cx.Ok.nofr(s:X.Ok)(e:X.base.get? b=on o):b∉X.fs:=λa=>by
 have:=(s.funs.mem a).1;rw[e]at this;cases this
theorem cp.bs(I:cp X a_ σ H s):∀b o,X.base.get? b=on o->s.heap.get? b=on o/\H b=OO:=λb o e=>
 ⟨I.base.keep b o (I.ok.bs b o e).1 (I.ok.bs b o e).2 (I.ok.nofr e) (I.ok.noex b o e),I.base.free b o (I.ok.bs b o e).1 (I.ok.bs b o e).2 (I.ok.noex b o e)⟩
theorem cp.bk(I:cp X a_ σ H s):∀b o,X.base.get? b=on o->s.heap.get? b=on o:=λb o e=>(I.bs b o e).1
theorem cp.mod(I:cp X a_ σ H s):Mod X.K X.mg X.base:=I.ok.mod
theorem cp.kIn(I:cp X a_ σ H s):X.K.In s.heap:=I.ok.mod.kin.keeps I.bk
theorem cp.fr(I:cp X a_ σ H s):∃m,Fr X.base X.env.locals s.heap m:=
 let ⟨m,hn,_⟩:=I.loc
 ⟨m,hn,I.bk,O4 I.ok.bsz I.ok.above⟩
theorem cp.lt(I:cp X a_ σ H s):X.env.locals<s.heap.objs.size:=let ⟨_,hn,_⟩:=I.loc;hn.lt
theorem cp.sz(I:cp X a_ σ H s):X.s₀.heap.objs.size<=s.heap.objs.size:=O4 I.ok.above (Vp I.lt)
theorem cp.nofs(I:cp X a_ σ H s){a:OS}(h:s.heap.objs.size<=a):a∉X.fs:=λb=>by
 obtain⟨_,o,c,_⟩:=I.ok.funs.mem b;exact Px (Pz (Ps c) (O4 I.sz h)) (Qh _)
theorem cp.cne(I:cp X a_ σ H s):∀x c,X.env.cells.lookup x=on c->c≠X.env.locals:=λx c e z=>by
 obtain⟨v,o,d,D⟩:=I.cell x c e;obtain⟨m,⟨f,E,G,a,b,_⟩,_⟩:=I.loc;rw[z,a]at d;cases d;rw[b]at D;cases D
theorem cp.funs(I:cp X a_ σ H s):s.heap.FunFrames X.base X.outer:=by
 have D:∀(l:a0B),(∀b∈fy l,b∈X.fs)->X.s₀.heap.FunFrames X.base l->s.heap.FunFrames X.base l:=by
  intro l
  induction l with
  |nil=>intro _ _;trivial
  |cons G r K=>
   intro E f;obtain⟨g,⟨L,o,a,M,h,R⟩,i⟩:=f;have c:L∈X.fs:=E L (by unfold fy;rw[QV,a];exact OZ);obtain⟨S,e⟩:=I.base.slot L o h (I.ok.frf L c) c λz=>I.ok.exfs L z c;exact⟨g,⟨L,_,a,M,e,R⟩,K (λb d=>E b (by unfold fy;rw[QV,a];exact OR _ d)) i⟩
 exact D X.outer (λ_ d=>d) I.ok.funs
theorem cp.stack(I:cp X a_ σ H s):s.heap.FunFrames X.base X.stack:=by
 rcases I.ok.stk with e|⟨e,a⟩
 .rw[e];exact I.funs
 .rw[e]
  obtain⟨m,D,_⟩:=I.loc;refine .cons (by rw[I.ok.kind];decide) a D ?_ I.funs;exact Yn (O4 I.ok.bsz I.ok.above)
theorem cp.stkSub(I:cp X a_ σ H s):∀b∈fy X.stack,b∈X.env.locals::X.fs:=λb a=>by
 rcases I.ok.stk with e|⟨e,c⟩
 .rw[e]at a;exact OR _ a
 .rw[e]at a
  unfold fy at a;rw[QV,c]at a;exact a
theorem cp.stkFree(I:cp X a_ σ H s):∀b∈fy X.stack,H b=OO:=λb hb=>by
 rcases Pb.mp (I.stkSub b hb)with e|hb
 .rw[e];exact I.free
 .obtain⟨_,o,a,_⟩:=I.ok.funs.mem hb
  exact I.base.free b o a (I.ok.frf b hb) λz=>I.ok.exfs b z hb
theorem cp.step{ch:a0p}(I:cp X a_ σ H s)
  (f:∀b∈ch,(b∈X.ex\/X.s₀.heap.objs.size<=b)/\b≠X.env.locals/\(∀x c,X.env.cells.lookup x=on c->c≠b)/\∀p∈X.pn++a_,p.1≠b)
  (E:∀b o,b≠X.env.locals->b∉X.fs->b∉ch->s.heap.get? b=on o->H b=OO->h'.get? b=on o)
  (G:∀b o,b≠X.env.locals->b∈X.fs->b∉ch->s.heap.get? b=on o->H b=OO->∃Y,h'.get? b=on {o with slots:=Y}) (D:∀b o,b∉ch->s.heap.get? b=on o->H b=OO->R b=OO)
  (M:∀b o,b∉ch->s.heap.get? b=on o->∃B,h'.get? b=on B)
  (S:∀b K,H b=on (.tup K)->R b=on (.tup K)) (V:∀b o u,H b=on (.frz o u)->R b=on (.frz o u)) (Q:∀b U,H b=on (.tbl U)->∃T,R b=on (.tbl (U++T)))
  (ns:∀m,s.heap.Ns X.env.locals m->h'.Ns X.env.locals m) (W:k_ X.prog X.w R h') (N:UK g'):
  cp X a_ σ R {s with heap:=h',gens:=g',drawn:=d',toks:=t'}:=by
 have C:∀b o,X.s₀.heap.get? b=on o->b≠X.env.locals:=λb o e=>P4 (Pz (Ps e) I.ok.above);have j:∀b o,X.s₀.heap.get? b=on o->b∉X.ex->b∉ch:=λb o e a y=>by
  rcases(f b y).1 with z|z
  .exact a z
  .exact Px (Pz (Ps e) z) (Qh _)
 have g:∀x c,X.env.cells.lookup x=on c->∀v,s.heap.IsCell c v->h'.IsCell c v:=λx c e v ⟨o,A,Z⟩=>by
  have h:c∉ch:=λz=>(f c z).2.2.1 x c e rfl;by_cases hc:c∈X.fs
  .obtain⟨Y,q⟩:=G c o (I.cne x c e) hc h A (I.freeC x c e)
   exact⟨_,q,Z⟩
  .exact⟨o,E c o (I.cne x c e) hc h A (I.freeC x c e),Z⟩
 refine⟨I.ok,I.os,N,⟨λb o e n y a=>?_,λb o e n y a=>?_,λb o e n a=>?_,λb o e a=>?_,λb K e=>S b K (I.base.tups b K e),λb o K e=>V b o K (I.base.frzs b o K e),λb U e=>?_⟩,?_,λx c e=>?_,?_,λx c e=>?_,λp L=>?_,W,I.len⟩
 .exact E b o (C b o e) y (j b o e a) (I.base.keep b o e n y a) (I.base.free b o e n a)
 .obtain⟨Y,t⟩:=I.base.slot b o e n y a
  obtain⟨J,F⟩:=G b _ (C b o e) y (j b o e a) t (I.base.free b o e n a);exact⟨J,F⟩
 .obtain⟨B,t⟩:=I.base.there b o e a
  exact D b B (j b o e a) t (I.base.free b o e n a)
 .obtain⟨B,t⟩:=I.base.there b o e a
  exact M b B (j b o e a) t
 .obtain⟨m1,t⟩:=I.base.tbls b U e
  obtain⟨m2,F⟩:=Q b _ t;exact⟨m1++m2,by rw[F,Yy]⟩
 .obtain⟨m,hn,O⟩:=I.loc
  refine⟨m,ns m hn,λi x v t F P=>?_⟩;obtain⟨u,r,l⟩:=O i x v t F P;refine⟨u,r,?_⟩;rcases l with l|⟨k,c,e,z⟩
  .exact .inl l
  .exact .inr ⟨k,c,e,g x c e _ z⟩
 .obtain⟨v,z⟩:=I.cell x c e
  exact⟨v,g x c e v z⟩
 .obtain⟨m,⟨o,_,_,A,_⟩,_⟩:=I.loc
  exact D _ o (λz=>(f _ z).2.1 rfl) A I.free
 .obtain⟨v,o,A,Z⟩:=I.cell x c e
  exact D c o (λz=>(f c z).2.2.1 x c e rfl) A (I.freeC x c e)
 .obtain⟨e,n,ne,nf,d⟩:=I.pin p L
  have h:p.1∉ch:=λz=>(f p.1 z).2.2.2 p L rfl;exact⟨E p.1 p.2 ne nf h e n,D p.1 p.2 h e n,ne,nf,d⟩
theorem cp.un(I:cp X a_ σ H s)(u:Un X.fs [] H R s.heap h')(D:k_ X.prog X.w R h'):cp X a_ σ R {s with heap:=h',toks:=t'}:=by
 obtain⟨m,⟨o,G,K,g,r⟩,_⟩:=id I.loc;obtain⟨M,h⟩:=u.any g I.free (by simp);exact I.step (g':=s.gens) (d':=s.drawn) (ch:=[]) (λ_ z=>nomatch z) (λb o _ c _ e n=>u.keep b o e n c (by simp)) (λb o _ c _ e n=>u.slot b o e n c (by simp)) (λb o _ e n=>u.free b o e n (by simp)) (λb o _ e=>u.there b o e (by simp)) u.tups u.frzs u.tbls (λj E=>by
  obtain⟨k,d,f,a,i⟩:=E;rw[g]at a;cases a;exact⟨_,d,f,h,i⟩) D I.bare
theorem cp.call{ch:a0p}(I:cp X a_ σ H s)(u:Un (fy X.stack) ch H R s.heap h')(D:k_ X.prog X.w R h')(j:UK g')
  (a:∀b∈ch,(b∈X.ex\/X.s₀.heap.objs.size<=b)/\b≠X.env.locals/\(∀x c,X.env.cells.lookup x=on c->c≠b)/\∀p∈X.pn++a_,p.1≠b):
  cp X a_ σ R {s with heap:=h',gens:=g',drawn:=d',toks:=t'}:=by
 obtain⟨m,⟨o,G,K,i,r⟩,_⟩:=id I.loc;obtain⟨M,f⟩:=u.any i I.free λz=>(a _ z).2.1 rfl;exact I.step (ch:=ch) a (λb o f k hc e n=>u.keep b o e n (λz=>(Pb.mp (I.stkSub b z)).elim f k) hc) (λb o _ _ hc e n=>u.any e n hc) (λb o hc e n=>u.free b o e n hc) (λb o hc e=>u.there b o e hc) u.tups u.frzs u.tbls (λq E=>by
  obtain⟨t,g,h,d,l⟩:=E;rw[i]at d;cases d;exact⟨_,g,h,f,l⟩) D j
theorem cp.turned(I:cp X a_ σ H s)(k:∀b o,b≠l->s.heap.get? b=on o->h'.get? b=on o)(D:H l=OO)(d:l≠X.env.locals)
  (f:l∈X.ex\/X.s₀.heap.objs.size<=l) (g:∀x c,X.env.cells.lookup x=on c->c≠l) (h:∀p∈X.pn++a_,p.1≠l):cp X a_ σ H {s with heap:=h',toks:=t'}:=by
 have a:∀b u,H b=on u->b≠l:=λb u e z=>by rw[z,D]at e;cases e
 refine I.step (g':=s.gens) (d':=s.drawn) (ch:=[l]) (λb i=>?_) (λb o _ _ hc e _=>k b o (λz=>hc (by simp[z])) e) (λb o _ _ hc e _=>⟨o.slots,k b o (λz=>hc (by simp[z])) e⟩) (λ_ _ _ _ n=>n)
  (λb o hc e=>⟨o,k b o (λz=>hc (by simp[z])) e⟩) (λ_ _ e=>e) (λ_ _ _ e=>e) (λb G e=>⟨#[],by rw[e];simp⟩) (λm E=>?_) (λb u e=>?_) I.bare
 .have e:b=l:=by simpa using i
  subst e;exact⟨f,d,g,h⟩
 .obtain⟨o,es,ep,j,r⟩:=E
  exact⟨o,es,ep,k _ o (Ne.symm d) j,r⟩
 .refine(I.hok b u e).stay (λc v hc q=>k c v ?_ q) (λ_ q=>q) λ_ _ q=>q
  rcases hc with z|z
  .rw[z];exact a b u e
  .exact a c _ z
theorem cp.tok(I:cp X a_ σ H s)(t:Nat):cp X a_ σ H {s with toks:=t}:=I.un (h':=s.heap) (t':=t) Un.refl I.hok
theorem cp.kept(I:cp X a_ σ H s)(k:∀b u,s.heap.get? b=on u->h'.get? b=on u):cp X a_ σ H {s with heap:=h',toks:=t'}:=I.un (Un.kept k) (I.hok.kept k)
theorem cp.laid{a:OS}{o:HO}{t':Nat}(I:cp X a_ σ H s)(k:∀b u,s.heap.get? b=on u->h'.get? b=on u)(c:s.heap.objs.size<=a)(D:bF X.prog X.w (upd H a o) h' a o):
  cp X a_ σ (upd H a o) {s with heap:=h',toks:=t'}:=I.un (Un.laid k c (I.hok.fresh c)) (I.hok.laid k c D)
theorem cp.write(I:cp X a_ σ H s)(mu:Mut (H x))(c:e=x\/H e=on (.own x))(k:∀b u,b≠e->s.heap.get? b=on u->h'.get? b=on u)(a:∃u,h'.get? e=on u)
  (D:bF X.prog X.w (upd H x o) h' x o):cp X a_ σ (upd H x o) {s with heap:=h',toks:=t'}:=I.un (Un.write mu c k a) (I.hok.write mu c k a D)
theorem cp.pins_of(I:cp X a_ σ H s)(h:∀p∈pins',s.heap.get? p.1=on p.2/\H p.1=OO/\p.1≠X.env.locals/\p.1∉X.fs/\∀v,p.2.data≠ .cell v):cp X pins' σ H s:=
 ⟨I.ok,I.os,I.bare,I.base,I.loc,I.cell,I.free,I.freeC,λp a=>(Qt.mp a).elim (λz=>I.pin p (RF _ z)) (h p),I.hok,I.len⟩
theorem vJ{N:a0i}(c:N.Nodup){i j:Nat}{x:PX}(a:N[i]?=on x)(b:N[j]?=on x):i=j:=by
 obtain⟨f,d⟩:=Pa.mp a;obtain⟨g,e⟩:=Pa.mp b;exact(List.getElem_inj c).mp (d.trans e.symm)
theorem mo{M:Wq}{E:a0d}(I:cp X a_ σ H s)(hN:X.N.Nodup)(O:X.N[i]?=on x)(l:E_ X.env.scope x)(r:aO v u)
  (h:∀K,cp X a_ (σ.set i (on v)) H K->(∃a,PQ a s.heap K.heap/\(a=X.env.locals\/X.env.cells.lookup x=on a))->Q () K) (hf:b0d X x:=by first|exact .inl rfl|exact .inr rfl|assumption):Pc M A (storeName X.env x u) Q E s:=by
 obtain⟨m,S,hl⟩:=id I.loc;have P:(X.env.scope.kind== .class||(X.env.scope.kind== .module&&X.env.locals !=X.env.globals))=OW:=by rw[I.ok.kind];rfl
 have C:i<σ.length:=by rw[I.len];exact(Pa.mp O).1
 have G:=I.cne;have f:∀{a:OS} {h':Qg},(∃o,s.heap.get? a=on o/\H a=OO)->PQ a s.heap h'->k_ X.prog X.w H h':=λ{a h'} ha D b ob e=>by
  obtain⟨_,_,t⟩:=ha;refine(I.hok b ob e).stay (λc Y hc q=>(D.2 c ?_).trans q) (λ_ q=>q) λ_ _ q=>q;rintro rfl;rcases hc with rfl|hc
  .rw[t]at e;cases e
  .rw[t]at hc;cases hc
 rcases l with hk|hk
 .refine wpAny_storeName_local hk S (λh' V D=>?_) P
  obtain⟨oL,_,_,aa,_⟩:=id S;refine h _ ⟨I.ok,I.os,I.bare,⟨λb o e n F l=>?_,λb o e n F l=>?_,I.base.free,λb o e l=>?_,I.base.tups,I.base.frzs,I.base.tbls⟩,⟨_,V,λj y v' g B e3=>?_⟩,λy c e=>?_,I.free,I.freeC,λp hp=>?_,f ⟨oL,aa,I.free⟩ D,by simpa using I.len⟩ ⟨_,D,.inl rfl⟩
  .exact(D.2 b (P4 (Pz (Ps e) I.ok.above))).trans (I.base.keep b o e n F l)
  .obtain⟨sl,g⟩:=I.base.slot b o e n F l
   exact⟨sl,(D.2 b (P4 (Pz (Ps e) I.ok.above))).trans g⟩
  .obtain⟨o',g⟩:=I.base.there b o e l
   exact⟨o',(D.2 b (P4 (Pz (Ps e) I.ok.above))).trans g⟩
  .by_cases J:j=i
   .subst J
    rw[O]at g;cases g;rw[XN C]at B;cases B;exact⟨u,r,.inl ⟨hk,by simp⟩⟩
   .rw[Yp (Ne.symm J)]at B
    obtain⟨u',r',q⟩:=hl j y v' g B e3;refine⟨u',r',?_⟩;rcases q with⟨k,e⟩|⟨k,c,e,z⟩
    .refine .inl ⟨k,?_⟩
     have:y≠x:=λe=>J (vJ hN g (e▸O));simp[this,e]
    .exact .inr ⟨k,c,e,z.sameBut D (G y c e)⟩
  .obtain⟨Y,z⟩:=I.cell y c e
   exact⟨Y,z.sameBut D (G y c e)⟩
  .obtain⟨e,n,ne,nf,d⟩:=I.pin p hp
   exact⟨(D.2 p.1 ne).trans e,n,ne,nf,d⟩
 .have L:X.fn x=OT:=by
   rcases hf with z|z
   .exact z
   .rw[z]at hk;cases hk
  obtain⟨c,hc⟩:=I.ok.has x (.inl hk);obtain⟨Y,z⟩:=I.cell x c hc;refine wpAny_storeName_cell I.ok.kind hk hc z (λh' R D=>?_);obtain⟨oc,T,U⟩:=id z;refine h {s with heap:=h'} ⟨I.ok,I.os,I.bare,⟨λb o e n F l=>?_,λb o e n F l=>?_,I.base.free,λb o e l=>?_,I.base.tups,I.base.frzs,I.base.tbls⟩,⟨m,S.sameBut D (Ne.symm (G x c hc)),λj y v' g B e3=>?_⟩,λy Z e=>?_,I.free,I.freeC,λp hp=>?_,f ⟨oc,T,I.freeC x c hc⟩ D,by simpa using I.len⟩ ⟨c,D,.inr hc⟩
  .exact(D.2 b (P4 (Pz (Ps e) (I.ok.cab x c L hc)))).trans (I.base.keep b o e n F l)
  .obtain⟨sl,g⟩:=I.base.slot b o e n F l
   exact⟨sl,(D.2 b (P4 (Pz (Ps e) (I.ok.cab x c L hc)))).trans g⟩
  .obtain⟨o',g⟩:=I.base.there b o e l
   exact⟨o',(D.2 b (P4 (Pz (Ps e) (I.ok.cab x c L hc)))).trans g⟩
  .by_cases J:j=i
   .subst J
    rw[O]at g;cases g;rw[XN C]at B;cases B;exact⟨u,r,.inr ⟨.inl hk,c,hc,R⟩⟩
   .rw[Yp (Ne.symm J)]at B
    obtain⟨u',r',q⟩:=hl j y v' g B e3;refine⟨u',r',?_⟩;rcases q with q|⟨k,Z,e,z'⟩
    .exact .inl q
    .refine .inr ⟨k,Z,e,z'.sameBut D ?_⟩
     rintro rfl;exact J (vJ hN g (I.ok.inj _ _ _ e hc▸O))
  .by_cases W:Z=c
   .subst W;exact⟨_,R⟩
   .obtain⟨w2,z2⟩:=I.cell y Z e
    exact⟨w2,z2.sameBut D W⟩
  .obtain⟨e,n,ne,nf,d⟩:=I.pin p hp
   refine⟨(D.2 p.1 ?_).trans e,n,ne,nf,d⟩;intro q;rw[q,T]at e;have q':oc=p.2:=PH e;exact d Y (by rw[<-q'];exact U)
theorem i7{M:Wq}{E:a0d}(I:cp X a_ σ H s)(a:X.N.Nodup)(b:X.N[i]?=on x)(c:E_ X.env.scope x)(r:aO v u)
  (h:∀D,cp X a_ (σ.set i (on v)) H D->Q () D) (d:b0d X x:=by first|exact .inl rfl|exact .inr rfl|assumption):Pc M A (storeName X.env x u) Q E s:=
 mo I a b c r (λD e _=>h D e) d
theorem cp.call'{s':O3}{ch:a0p}(I:cp X a_ σ H s)(d:s'.os=s.os)(u:Un (fy X.stack) ch H R s.heap s'.heap)(D:k_ X.prog X.w R s'.heap)(f:UK s'.gens)
  (a:∀b∈ch,(b∈X.ex\/X.s₀.heap.objs.size<=b)/\b≠X.env.locals/\(∀x c,X.env.cells.lookup x=on c->c≠b)/\∀p∈X.pn++a_,p.1≠b):cp X a_ σ R s':=by
 obtain⟨h',g',d',t',g⟩:=s';have e:g=s.os:=d;subst e;exact I.call (g':=g') (t':=t') (d':=d') u D f a
abbrev XK:=OX->a0A->Hp->Prop
abbrev St:=List (Option V)
abbrev a0r:=St->XK
abbrev a0E:=St->Hp->Prop
abbrev VK:=V->Hp->Prop
abbrev a0M:=a0k->Hp->VK->Prop
abbrev a0P:=V->a0k->Hp->VK->Prop
abbrev TE:=St->Hp->VK->Prop
abbrev TT:=St->Hp->(Bool->Hp->Prop)->Prop
abbrev TA:=St->Hp->(a0k->Hp->Prop)->Prop
structure ni where
 nx:St->Hp->Prop
 rt:VK
 bk:St->Hp->Prop:=λ_ _=>False
 ct:St->Hp->Prop:=λ_ _=>False
abbrev TS:=ni->St->Hp->Prop
def EP(X:Cx)(a_:a0b)(σ:St)(Q:VK)(u:OX)(s:O3):Prop:=∃v R,cp X a_ σ R s/\aO v u/\Q v R
def TP(X:Cx)(a_:a0b)(σ:St)(Q:a0T)(b:Bool)(s:O3):Prop:=∃R,cp X a_ σ R s/\Q b R
def AP(X:Cx)(a_:a0b)(σ:St)(Q:a0k->Hp->Prop)(D:a0g)(E:O3):Prop:=∃s R,cp X a_ σ R E/\aw s D/\Q s R
def SP(X:Cx)(a_:a0b)(D:ni)(f:Flow)(s:O3):Prop:=
 match f with
 | .next=>∃a R,cp X a_ a R s/\D.nx a R
 | .brk=>∃a R,cp X a_ a R s/\D.bk a R
 | .cont=>∃a R,cp X a_ a R s/\D.ct a R
 | .ret u=>∃v a R,cp X a_ a R s/\aO v u/\D.rt v R
def PE(X:Cx)(e:Expr)(t:TE):Prop:=
 ∀(a_:a0b) (s:O3) (σ:St) (H:Hp) (Q:VK),cp X a_ σ H s->t σ H Q->Pc (Pt X.prog X.w) X.A (Qp e X.env) (EP X a_ σ Q) X.xe s
def PT(X:Cx)(e:Expr)(t:TT):Prop:=
 ∀(a_:a0b) (s:O3) (σ:St) (H:Hp) (Q:a0T),cp X a_ σ H s->t σ H Q->Pc (Pt X.prog X.w) X.A (isTrue e X.env (Qp e X.env)) (TP X a_ σ Q) X.xe s
def PW(X:Cx)(e:Expr)(t:TT):Prop:=
 ∀(a:Sem OX) (a_:a0b) (s:O3) (σ:St) (H:Hp) (Q:a0T),cp X a_ σ H s->t σ H Q->Pc (Pt X.prog X.w) X.A (isTrue e X.env a) (TP X a_ σ Q) X.xe s
theorem PW.pt{X:Cx}(h:PW X e t):PT X e t:=h _
def PA(X:Cx)(E:List Expr)(t:TA):Prop:=
 ∀(D:Uh) (a_:a0b) (s:O3) (σ:St) (H:Hp) (Q:a0k->Hp->Prop),cp X a_ σ H s->t σ H Q->Pc (Pt X.prog X.w) X.A (spliced (Ri D (Pd E X.env))) (AP X a_ σ Q) X.xe s
def PS(X:Cx)(E:Qk)(t:TS):Prop:=
 ∀(a_:a0b) (s:O3) (σ:St) (H:Hp) (D:ni),cp X a_ σ H s->t D σ H->Pc (Pt X.prog X.w) X.A (exec E X.env) (SP X a_ D) X.xe s
def PSs(X:Cx)(E:a0Q)(t:TS):Prop:=
 ∀(a_:a0b) (s:O3) (σ:St) (H:Hp) (D:ni),cp X a_ σ H s->t D σ H->Pc (Pt X.prog X.w) X.A (execs E X.env) (SP X a_ D) X.xe s
theorem eg{D:Type}{t:Sem D}{Q b:D->O3->Prop}{M:Wq}{A:Qn}{E:a0d}{s:O3}(h:Pc M A t Q E s)(c:∀a s,Q a s->b a s):Pc M A t b E s:=P5 h c λ_ _ x=>x
def pk(i:Nat):TE:=λσ H Q=>∃v,σ[i]?=on (on v)/\Q v H
def tC(v:V):TE:=λ_ H Q=>Q v H
theorem Ln(f:X.N[i]?=on x)(g:Vis X.env.scope x)(D:b0c x:=by decide)(d:(x==("__classdict__":PX))=OW:=by decide):PE X (.Name x k) (pk i):=by
 intro a_ s σ H Q I h;obtain⟨v,e,h⟩:=h;obtain⟨m,E,j⟩:=I.loc;obtain⟨u,r,l⟩:=j i x v f e g;have b:EP X a_ σ Q u s:=⟨v,H,I,r,h⟩;rcases l with⟨hk,G⟩|⟨hk,c,hc,a⟩
 .exact wpAny_Name (wpAny_loadName_local I.ok.kind hk E G b) D
 .rcases hk with hk|hk
  .exact wpAny_Name (wpAny_loadName_cell I.ok.kind hk hc a b) D
  .exact wpAny_Name (wpAny_loadName_free I.ok.kind hk hc a b d) D
theorem bT{i j a}:PE X (.Constant (.int i) j a) (tC (.int i)):=λ_ _ _ H _ I h=>wpAny_Constant_int ⟨.int i,H,I.tok _,⟨_,rfl⟩,h⟩
theorem NE{b j a}:PE X (.Constant (.bool b) j a) (tC (.bl b)):=λ_ _ _ H _ I h=>Constant_bool ⟨.bl b,H,I,rfl,h⟩
theorem Ls{j a}:PE X (.Constant .none j a) (tC .non):=λ_ _ _ H _ I h=>Constant_none ⟨.non,H,I,rfl,h⟩
theorem Lp{x j a}:PE X (.Constant (.str x) j a) (tC (.str x)):=λ_ _ _ H _ I h=>YB ⟨.str x,H,I.tok _,⟨_,rfl⟩,h⟩
def Gl(X:Cx)(x:PX):Prop:=X.env.kindOf x=on .globalImplicit
theorem iU{E:a0d}{a_:a0b}{s:O3}{σ:St}{H:Hp}(I:cp X a_ σ H s)(a:Gl X x)(D:X.mg x=on u)(h:Q u s)
  (G:b0c x:=by decide):Pc (Pt X.prog X.w) X.A (Qp (.Name x b) X.env) Q E s:=
 WN I.ok.kind a (Calls.loadGlobal_global (by rw[I.ok.glob];exact I.mod.glob.keeps I.bk) D h) G
theorem fK{E:a0d}{a_:a0b}{s:O3}{σ:St}{H:Hp}(I:cp X a_ σ H s)(a:Gl X x)(D:X.mg x=OO)(b:Th x=on u)(h:Q u s)
  (G:x≠"__name__":=by decide) (K:b0c x:=by decide):Pc (Pt X.prog X.w) X.A (Qp (.Name x f) X.env) Q E s:=by
 obtain⟨e,c,d⟩:=I.mod.blt;exact WN I.ok.kind a (Calls.loadGlobal_builtin (by rw[I.ok.glob];exact I.mod.glob.keeps I.bk) D (by rw[I.ok.blt];exact c.keeps I.bk) ((d x G).trans b) h) K
theorem Jo(a:Gl X x)(s:X.mg x=on u)(r:aO v u)(D:b0c x:=by decide):PE X (.Name x b) (tC v):=
 λ_ _ _ H _ I h=>iU I a s ⟨v,H,I,r,h⟩ D
theorem dg(a:Gl X x)(s:X.mg x=OO)(b:Th x=on u)(r:aO v u)(D:x≠"__name__":=by decide)(E:b0c x:=by decide):PE X (.Name x c) (tC v):=
 λ_ _ _ H _ I h=>fK I a s b ⟨v,H,I,r,h⟩ D E
variable{a b:Expr}{o m:TE}{j:Uh}
variable{l p:TT}{k:List Expr}
def tOr(t u:TT):TT:=λσ H Q=>t σ H λc d=>if c=OT then Q OT d else u σ d Q
def tNot(t:TT):TT:=λσ H Q=>t σ H λc d=>Q (!c) d
theorem La(b:PT X a l):PW X (.BoolOp .Or [a] j) l:=by
 intro d a_ s σ H Q I h;refine isTrue_or (eg (b a_ s σ H Q I h) λc f e=>?_);cases c with
 |false=>exact isTrue_or_nil e
 |true=>exact e
theorem NA(o:PT X a l)(f:PW X (.BoolOp .Or (b::k) j) p):PW X (.BoolOp .Or (a::b::k) j) (tOr l p):=by
 intro g a_ s σ H Q I h;refine isTrue_or (eg (o a_ s σ H _ I h) λc i ⟨d,e,m⟩=>?_);cases c with
 |true=>exact⟨d,e,m⟩
 |false=>exact f g a_ i σ d Q e m
theorem Ld(b:PT X a l):PT X (.UnaryOp .Not a j) (tNot l):=by
 intro a_ s σ H Q I h;exact isTrue_not (b a_ s σ H (λc d=>Q (!c) d) I h)
def Nj(o m:TE):TE:=λσ H Q=>o σ H λx d=>∃c,x= .bl c/\if c=OT then m σ d Q else Q (.bl OW) d
theorem Lr{op}(h:PE X a t):PE X (.BoolOp op [a] j) t:=λa_ s σ H Q I c=>BoolOp_one (h a_ s σ H Q I c)
theorem Lx(p:PE X a o)(f:PE X (.BoolOp .And (b::k) j) m):PE X (.BoolOp .And (a::b::k) j) (Nj o m):=by
 intro a_ s σ H Q I h;refine BoolOp_and (eg (p a_ s σ H _ I h) λv g ⟨x,d,e,r1,l⟩=>?_);obtain⟨c,rfl,l⟩:=l;cases r1;refine Qz ?_;cases c with
 |true=>exact f a_ g σ d Q e l
 |false=>exact⟨.bl OW,d,e,rfl,l⟩
def tIf(t:TT)(o m:TE):TE:=λσ H Q=>t σ H λc d=>if c=OT then o σ d Q else m σ d Q
theorem FW(hc:PT X c l)(p:PE X a o)(i:PE X b m):PE X (.IfExp c a b j) (tIf l o m):=by
 intro a_ s σ H Q I h;refine wpAny_IfExp (eg (hc a_ s σ H _ I h) λd e ⟨f,g,k⟩=>?_);cases d with
 |true=>exact p a_ e σ f Q g k
 |false=>exact i a_ e σ f Q g k
def fx(K:Pk)(H:Hp)(a:OS)(xs:a0k):Prop:=
 Rd H a (.lst xs)\/
  ∃(o:Qx) (b:a0H) (n:Nat),K.lookup a=on o/\o.cls= .type "list"/\o.dict=OO/\o.data= .seq b n/\b.size<=Pf/\aw xs b.toList
def io(K:Pk)(H:Hp)(a:OS)(j:a0k):Prop:=
 Rd H a (.tup j)\/
  ∃(o:Qx) (b:a0H) (n:Nat),K.lookup a=on o/\o.cls= .type "tuple"/\o.data= .seq b n/\b.size<=Pf/\aw j b.toList
noncomputable def absV:OX->Option V
 | .none=>on .non
 | .bool b=>on (.bl b)
 | .int i _=>on (.int i)
 | .str x _=>on (.str x)
 | .ref a=>on (.ref a)
 | .type n=>on (.ty n)
 |_=>OO
theorem aO.abs(r:aO x u):absV u=on x:=by
 cases x with
 |non=>cases r;rfl
 |bl _=>cases r;rfl
 |int _=>obtain⟨t,rfl⟩:=r;rfl
 |str _=>obtain⟨t,rfl⟩:=r;rfl
 |ref _=>cases r;rfl
 |ty _=>cases r;rfl
theorem aO.inj(r:aO x u)(q:aO y u):x=y:=PH (r.abs.symm.trans q.abs)
theorem aw.inj:∀{a b:a0k} {j:a0g},aw a j->aw b j->a=b
 |_,_,_,.nil,.nil=>rfl
 |_,_,_,.cons r t,.cons r' t'=>by rw[r.inj r',aw.inj t t']
end
section
variable{X:Cx}{a_:a0b}{σ:St}{H:Hp}{s:O3}{a:OS}{xs ys:a0k}
theorem fx.of{K:Pk}(h:H a=on (.lst xs)):fx K H a xs:= .inl (.inl h)
theorem cp.list(I:cp X a_ σ H s)(h:fx X.K H a xs):∃its:a0g,aw xs its/\PlainL s.heap a its.toArray/\xs.length<=Pf:=by
 rcases h with h|⟨o,its,n,b,hc,D,E,c,r⟩
 .obtain⟨z,its,n,r,e⟩:=h.ok I.hok
  exact⟨its,r,⟨_,n,e,rfl,rfl,rfl⟩,z⟩
 .refine⟨its.toList,r,⟨o,n,I.kIn a o b,hc,D,by simpa using E⟩,?_⟩
  have e:=r.length;simp only[PP]at e;lia
theorem cp.tuple(I:cp X a_ σ H s)(h:io X.K H a xs):∃D:a0g,aw xs D/\IsTup s.heap a D.toArray/\xs.length<=Pf:=by
 rcases h with h|⟨o,D,n,b,hc,E,c,r⟩
 .obtain⟨z,D,r,p⟩:=h.ok I.hok
  exact⟨D,r,p,z⟩
 .refine⟨D.toList,r,⟨o,I.kIn a o b,hc,n,by simpa using E⟩,?_⟩
  have e:=r.length;simp only[PP]at e;lia
theorem cp.list_inj(I:cp X a_ σ H s)(h:fx X.K H a xs)(M:fx X.K H a ys):xs=ys:=by
 obtain⟨E,r,⟨o,n,e,_,_,d⟩,_⟩:=I.list h;obtain⟨D,c,⟨f,g,b,_,_,G⟩,_⟩:=I.list M;rw[e]at b;cases b;rw[d]at G
 injection G with S _
 have:E=D:=by simpa using Qo Array.toList S
 subst this;exact r.inj c
theorem cp.tuple_inj(I:cp X a_ σ H s)(h:io X.K H a xs)(M:io X.K H a ys):xs=ys:=by
 obtain⟨E,r,⟨o,e,_,n,d⟩,_⟩:=I.tuple h;obtain⟨D,c,⟨f,b,_,g,G⟩,_⟩:=I.tuple M;rw[e]at b;cases b;rw[d]at G
 injection G with S _
 have:E=D:=by simpa using Qo Array.toList S
 subst this;exact r.inj c
noncomputable abbrev Cx.wish(X:Cx)(E:a0d):Cx:={X with xe:=E}
noncomputable abbrev Cx.nox(X:Cx):Cx:=X.wish λ_ _=>False
theorem Cx.Ok.wish{X:Cx}(a:X.Ok)(E:a0d):(X.wish E).Ok:=
 ⟨a.mod,a.kind,a.glob,a.blt,a.above,a.inj,a.has,a.cab,a.hd,a.frames,a.stk,a.exf,a.bs,a.bsz,a.noex,a.exfs,a.funs,a.frf⟩
theorem Cx.Ok.unwish{X:Cx}{E:a0d}(a:(X.wish E).Ok):X.Ok:=
 ⟨a.mod,a.kind,a.glob,a.blt,a.above,a.inj,a.has,a.cab,a.hd,a.frames,a.stk,a.exf,a.bs,a.bsz,a.noex,a.exfs,a.funs,a.frf⟩
variable{E:a0d}
theorem cp.wish(I:cp X a_ σ H s)(E:a0d):cp (X.wish E) a_ σ H s:=⟨I.ok.wish E,I.os,I.bare,I.base,I.loc,I.cell,I.free,I.freeC,I.pin,I.hok,I.len⟩
theorem cp.unwish(I:cp (X.wish E) a_ σ H s):cp X a_ σ H s:=⟨I.ok.unwish,I.os,I.bare,I.base,I.loc,I.cell,I.free,I.freeC,I.pin,I.hok,I.len⟩
theorem SP.unwish{D:ni}(h:SP (X.wish E) a_ D f d):SP X a_ D f d:=by
 cases f with
 |next=>obtain⟨b,c,I,q⟩:=h;exact⟨b,c,I.unwish,q⟩
 |brk=>obtain⟨b,c,I,q⟩:=h;exact⟨b,c,I.unwish,q⟩
 |cont=>obtain⟨b,c,I,q⟩:=h;exact⟨b,c,I.unwish,q⟩
 |ret u=>obtain⟨v,b,c,I,r,q⟩:=h;exact⟨v,b,c,I.unwish,r,q⟩
theorem PSs.nox{a:a0Q}(h:PSs X.nox a t):PSs X a t:=λa_ s σ H D I b=>
 P5 (h a_ s σ H D (I.wish _) b) (λ_ _ q=>q.unwish) λ_ _ z=>Rk z
variable{Y:Qk}{rest:a0Q}{t u:TS}{e:Expr}{a:TE}{aa:Uh}
noncomputable def Ng:TS:=λD σ H=>D.nx σ H
def tSeq(t u:TS):TS:=λD σ H=>t {D with nx:=u D} σ H
theorem rY:PSs X [] Ng:=λ_ _ σ H _ I h=>UH ⟨σ,H,I,h⟩
theorem cI(c:PS X Y t)(d:PSs X rest u):PSs X (Y::rest) (tSeq t u):=by
 intro a_ s σ H D I h;refine wpAny_execs_cons (eg (c a_ s σ H {D with nx:=u D} I h) λf g q=>?_);cases f with
 |next=>
  obtain⟨b,i,j,q⟩:=q;exact d a_ g b i D j q
 |ret v=>exact q
 |brk=>exact q
 |cont=>exact q
theorem iR(b:PS X Y t):PSs X [Y] t:=by
 intro a_ s σ H D I h;refine wpAny_execs_cons (eg (b a_ s σ H D I h) λf c q=>?_);cases f with
 |next=>exact UH q
 |ret v=>exact q
 |brk=>exact q
 |cont=>exact q
theorem cp.quiet{a_:a0b}{σ:St}{H:Hp}{s:O3}(I:cp X a_ σ H s):interactive X.env=OW:=by simp[interactive,I.ok.kind]
def yn(a:TE):TS:=λD σ H=>a σ H λ_ b=>D.nx σ b
theorem bL(b:PE X e a)(t:T0 e OO aa.line X.env=Rh OW:=by rfl):PS X (.Expr e aa) (yn a):=by
 intro a_ s σ H D I h;exact wpAny_Expr_any (eg (b a_ s σ H _ I h) λv f ⟨x,c,d,r1,u⟩=>⟨σ,c,d,u⟩) I.quiet t
def Fl(a:TE):TS:=λD σ H=>a σ H D.rt
theorem au(b:PE X e a):PS X (.Return (on e) aa) (Fl a):=by
 intro a_ s σ H D I h;exact wpAny_Return_some (eg (b a_ s σ H _ I h) λv f ⟨x,c,d,r1,t⟩=>⟨x,σ,c,d,r1,t⟩)
def tIfS(c:TT)(t u:TS):TS:=λD σ H=>c σ H λb d=>if b=OT then t D σ d else u D σ d
theorem Hz{a b:a0Q}(hc:PT X c tc)(E:PSs X a t)(j:PSs X b u):PS X (.If c a b aa) (tIfS tc t u):=by
 intro a_ s σ H D I h;refine wpAny_If (eg (hc a_ s σ H _ I h) λd f ⟨g,i,e⟩=>?_);cases d with
 |true=>exact E a_ f σ g D i e
 |false=>exact j a_ f σ g D i e
abbrev TG:=V->St->Hp->(St->Hp->Prop)->Prop
abbrev V_:=a0k->St->Hp->(St->Hp->Prop)->Prop
def PG(X:Cx)(b:Expr)(t:TG):Prop:=
 ∀(a_:a0b) (s:O3) (σ:St) (H:Hp) (v:V) (u:OX) (Q:a0E),cp X a_ σ H s->aO v u->t v σ H Q->
  Pc (Pt X.prog X.w) X.A (UF b X.env u) (λ_ a=>∃c d,cp X a_ c d a/\Q c d) X.xe s
def PGs(X:Cx)(d:List Expr)(t:V_):Prop:=
 ∀(a_:a0b) (s:O3) (σ:St) (H:Hp) (a:a0k) (e:a0g) (Q:a0E),cp X a_ σ H s->aw a e->t a σ H Q->
  Pc (Pt X.prog X.w) X.A (YS ((VF d X.env).map (·.2)) e) (λ_ u=>∃b c,cp X a_ b c u/\Q b c) X.xe s
abbrev G0:=V->V->V->Hp->(Hp->Prop)->Prop
def G1(X:Cx)(t:G0):Prop:=
 ∀(a_:a0b) (s:O3) (σ:St) (H:Hp) (o i v:V) (b c u:OX) (Q:Hp->Prop),cp X a_ σ H s->aO o b->aO i c->aO v u->t o i v H Q->
  Pc (Pt X.prog X.w) X.A (setItem b c u) (λ_ a=>∃d,cp X a_ σ d a/\Q d) X.xe s
abbrev TIp:=V->V->Hp->VK->Prop
def PIp(X:Cx)(a:Operator)(t:TIp):Prop:=
 ∀(a_:a0b) (s:O3) (σ:St) (H:Hp) (x y:V) (v u:OX) (Q:VK),cp X a_ σ H s->aO x v->aO y u->t x y H Q->
  Pc (Pt X.prog X.w) X.A (inplaceOp a v u) (EP X a_ σ Q) X.xe s
def fj(i:Nat):TG:=λv σ H Q=>Q (σ.set i (on v)) H
theorem xx(b:X.N.Nodup)(c:X.N[i]?=on x)(d:E_ X.env.scope x)(f:b0d X x:=by first|exact .inl rfl|exact .inr rfl|assumption):PG X (.Name x aa) (fj i):=by
 intro a_ s σ H v u Q I r h;exact W0 (i7 I b c d r (λa g=>⟨_,H,g,h⟩) f)
noncomputable def gNil:V_:=λa σ H Q=>a=[]/\Q σ H
def zn(t:TG)(u:V_):V_:=λa σ H Q=>∃v r,a=v::r/\t v σ H λb c=>u r b c Q
theorem bf:PGs X [] gNil:=by
 intro a_ s σ H a t Q I r h;obtain⟨e,h⟩:=h;subst e;cases r;exact assignInOrder_nil ⟨σ,H,I,h⟩
theorem aq{e:Expr}{t:TG}{u:V_}(c:PG X e t)(d:PGs X m u)
  (a:(VF (e::m) X.env).map (·.2)=UF e X.env::(VF m X.env).map (·.2):=by rfl):PGs X (e::m) (zn t u):=by
 intro a_ s σ H E G Q I r h;obtain⟨v,l,f,h⟩:=h;subst f;cases r with
 |cons r g=>
  rw[a];refine Wx (eg (c a_ s σ H _ _ _ I r h) λ_ i ⟨b,j,k,D⟩=>?_);exact d a_ i b j _ _ Q k g D
def GK(K:Pk)(n:Nat)(t:V_):TG:=λv σ H Q=>∃a xs,v= .ref a/\io K H a xs/\xs.length=n/\t xs σ H Q
theorem bv{t:V_}(hc:X.calm=OT)(h:PGs X w t)
  (D:(VF w X.env).length=n:=by rfl) (c:(VF w X.env).findIdx? (·.1)=OO:=by rfl):PG X (.Tuple w k aa) (GK X.K n t):=by
 intro a_ s σ H v u Q I r d;obtain⟨a,xs,g,i,j,d⟩:=d;subst g;cases r;obtain⟨E,f,l,q⟩:=I.tuple i;refine assign_Tuple_tuple (I.ok.hd hc) l (by simp[D,<-j,f.length]) c λG m=>?_;have p:cp X a_ σ H {s with heap:=G}:=I.kept (t':=s.toks) λb o e=>m b o (P4 (Ps e)) e;exact h a_ _ σ H xs _ Q p (by simpa using f) d
def GL(a b:TE)(t:G0):TG:=λv σ H Q=>a σ H λo c=>b σ c λi d=>t o i v d λf=>Q σ f
theorem jj{t:G0}(d:PE X o to)(f:PE X i z)(a:G1 X t)
  (e:∀v,UF (.Subscript o i aa) X.env v=(do
   let b <-Tj [v] (Qp o X.env)
   let c <-Tj [v,b] (Qp i X.env)
   Sk aa
   Tj [v,b,c] (setItem b c v)
   release [v,b,c] []):=by intro _;rfl):PG X (.Subscript o i aa) (GL to z t):=by
 intro a_ s σ H v u Q I r h;rw[e];refine My (Qv (eg (d a_ s σ H _ I h) λb g ⟨x,j,k,r1,D⟩=>?_));refine My (Qv (eg (f a_ g σ j _ k D) λc l ⟨y,m,n,p,E⟩=>?_));refine My (QK (My (Qv (eg (a a_ l σ m x y v b c u _ n r1 p r E) λ_ A ⟨q,w,G⟩=>?_))));exact wpAny_release ⟨σ,q,w,G⟩
def iq(a:TE)(g:TG):TS:=λD σ H=>a σ H λx b=>g x σ b D.nx
theorem dy{t e:Expr}{a:TE}(b:PE X e a)(c:PG X t g)(u:swapsWithSole [t] e aa.line X.env=Rh OW:=by rfl)(d:swappedStores [t] e X.env=Rh OO:=by rfl)
  (f:(VF [t] X.env).map (·.2)=[UF t X.env]:=by rfl):PS X (.Assign [t] e aa) (iq a g):=by
 intro a_ s σ H D I h;refine wpAny_Assign_stores (eg (b a_ s σ H _ I h) λv i ⟨x,j,k,r1,E⟩=>?_) u d;rw[f];exact eg (c a_ i σ j x v _ k r1 E) λ_ l q=>q
theorem qI{e:Expr}{a:TE}(b:X.N.Nodup)(c:X.N[i]?=on x)(d:E_ X.env.scope x)(f:PE X e a)(t:T0 e (on (.Name x pos')) aa.line X.env=Rh OW:=by rfl)(g:b0d X x:=by first|exact .inl rfl|exact .inr rfl|assumption):
  PS X (.Assign [.Name x pos'] e aa) (iq a (fj i)):=by
 intro a_ s σ H D I h;refine wpAny_Assign_Name (eg (f a_ s σ H _ I h) λv m ⟨y,j,k,r1,u⟩=>?_) t;exact i7 k b c d r1 (λn l=>⟨_,j,l,u⟩) g
def Kt(i j:Nat)(b:TA):TS:=λD σ H=>b σ H λa c=>∃v w,a=[v,w]/\D.nx ((σ.set i (on v)).set j (on w)) c
theorem Lf{a b:Expr}{kt k2 pt2}(hc:X.calm=OT)(m:X.N.Nodup)(F:X.N[i]?=on x)(J:X.N[j]?=on y)(g:i≠j)
  (n:X.env.scope.names.lookup x=on .local) (r:X.env.scope.names.lookup y=on .local) (u:PA X [a,b] z)
  (L:swappedStores [.Tuple [.Name x px,.Name y py] kt pt] (.Tuple [a,b] k2 pt2) X.env=Rh (on [x,y]))
  (E:swapsWithSole [.Tuple [.Name x px,.Name y py] kt pt] (.Tuple [a,b] k2 pt2) aa.line X.env=Rh OW:=by rfl):
  PS X (.Assign [.Tuple [.Name x px,.Name y py] kt pt] (.Tuple [a,b] k2 pt2) aa) (Kt i j z):=by
 intro a_ s σ H D I h;rw[exec_Assign_arm];refine My (QK ?_);rw[E];refine My (OP ?_);rw[O1 (by decide)];refine My (Tuple_ (eg (u _ a_ s σ H _ I h) λG c ⟨K,B,O,r1,t⟩=>?_));obtain⟨v,w,P,t⟩:=t;subst P;obtain⟨d,f,rfl,Q,k⟩:∃d f,G=[d,f]/\aO v d/\aO w f:=by
  cases r1 with
  |cons p q=>
   cases q with
   |cons R T=>
    cases T;exact⟨_,_,rfl,p,R⟩
 refine Qy ?_ (by show 2<=Pf;decide);have U:cp X a_ σ B {c with heap:=c.heap.push {cls:= .type "tuple",data:= .seq [d,f].toArray}}:=O.kept (t':=c.toks) λb o e=>OQ _ e;rw[L];refine My (OP ?_);show Pc (Pt X.prog X.w) X.A (do rule "assign.swapped-stores";let items <-unpackItems (.ref c.heap.objs.size) 2 OO;YS [λv=>bindName X.env y v,λv=>bindName X.env x v] items.reverse;Rh Flow.next) _ _ _
 refine My (SN (My (unpackItems_tuple (items:=#[d,f]) (I.ok.hd hc) (Zo c.heap _) λh' l=>?_)));have W:=U.kept (h':=h') (t':=c.toks) λb o e=>l b o (P4 (Ps e)) e;show Pc _ _ (YS [λv=>bindName X.env y v,λv=>bindName X.env x v] [f,d]>>=λ_=>Rh Flow.next) _ _ _;refine My (Wx (wpAny_bindName (i7 W m J (.inl r) k (λZ Y=>?_) (.inr r))));refine Wx (wpAny_bindName (i7 Y m F (.inl n) Q (λM C=>assignInOrder_nil (OP ?_)) (.inr n)));rw[List.set_comm _ _ (Ne.symm g)]at C;exact⟨_,B,C,t⟩
def KA(i:Nat)(a:TE)(b:TIp):TS:=λD σ H=>∃x,σ[i]?=on (on x)/\a σ H λy c=>b x y c λz d=>D.nx (σ.set i (on z)) d
theorem mH{e:Expr}{a:TE}(o:X.N.Nodup)(n:X.N[i]?=on x)(g:E_ X.env.scope x)(p:PE X e a)(q:PIp X op Z)(B:b0d X x:=by first|exact .inl rfl|exact .inr rfl|assumption):
  PS X (.AugAssign (.Name x pos') op e aa) (KA i a Z):=by
 intro a_ s σ H D I h;obtain⟨v,C,h⟩:=h;obtain⟨m,E,F⟩:=I.loc;have j:Vis X.env.scope x:=by rcases g with k|k;exact .inl k;exact .inr (.inl k)
 obtain⟨u,r,l⟩:=F i x v n C j;refine wpAny_AugAssign_Name ?_;have t:Pc (Pt X.prog X.w) X.A (Qp e X.env) (λw d=>Pc (Pt X.prog X.w) X.A (inplaceOp op u w) (λr f=>Pc (Pt X.prog X.w) X.A (storeName X.env x r) (λ_=>SP X a_ D .next) X.xe f) X.xe d) X.xe s:=by
  refine eg (p a_ s σ H _ I h) λw J ⟨y,L,O,r1,G⟩=>?_;refine eg (q a_ J σ L v y u w _ O r r1 G) λz U ⟨W,P,Q,R,K⟩=>?_;exact i7 Q o n g R (λY T=>⟨_,P,T,K⟩) B
 rcases l with⟨hk,M⟩|⟨hk,c,hc,b⟩
 .exact wpAny_loadName_local I.ok.kind hk E M t
 .rcases hk with hk|hk
  .exact wpAny_loadName_cell I.ok.kind hk hc b t
  .rcases g with k|k
   .have:X.env.scope.names.lookup x=on .free:=hk
    rw[k]at this;cases this
   .have:X.env.scope.names.lookup x=on .free:=hk
    rw[k]at this;cases this
def ipI(f:a0I):TIp:=λx y H Q=>∃i j,x= .int i/\y= .int j/\Q (.int (f i j)) H
theorem DK:PIp X .Add (ipI λi j=>i+j):=by
 intro a_ s σ H x y v u Q I r1 b h;obtain⟨i,j,c,d,q⟩:=h;subst c;subst d;obtain⟨t,rfl⟩:=r1;obtain⟨a,rfl⟩:=b;exact iadd_int ⟨.int _,H,I.tok _,⟨_,rfl⟩,q⟩
def Ks(c:TT)(i:TS):TS:=λD σ H=>∃W:Nat->St->Hp->Prop,(∃m,W m σ H)/\∀m σ H,W m σ H->
 c σ H λb f=>if b=OT then ∃N:St->Hp->Prop,(∀d g,N d g->∃h,h<m/\W h d g)/\i {D with nx:=N,ct:=N,bk:=D.nx} σ f else D.nx σ f
theorem FJ(q:Y7 (Pt X.prog X.w) X.A X.env X.xe)(hc:PT X c tc)(J:PSs X body x):PS X (.While c body [] aa) (Ks tc x):=by
 intro a_ s σ H D I h;obtain⟨W,⟨L,O⟩,i⟩:=h;refine wpAny_While (codeAny_whileLoop (λn u=>∃j r,cp X a_ j r u/\W n j r) ?_ L ⟨σ,H,I,O⟩);rintro n P ⟨g,y,Q,R⟩;refine SQ q (eg (hc a_ P g y _ Q (i n g y R)) λb T ⟨B,C,a⟩=>?_);cases b with
 |true=>
  obtain⟨N,F,a⟩:=a;rw[O0 rfl];refine SQ q (eg (J a_ T g B _ C a) λf U e=>?_);cases f with
  |next=>
   obtain⟨d,k,l,m⟩:=e;obtain⟨o,t,p⟩:=F d k m;exact⟨o,t,d,k,l,p⟩
  |cont=>
   obtain⟨d,k,l,m⟩:=e;obtain⟨o,t,p⟩:=F d k m;exact⟨o,t,d,k,l,p⟩
  |brk=>exact e
  |ret v=>exact e
 |false=>
  rw[O1 O8];exact UH ⟨g,B,C,a⟩
structure It where
 go:Nat->Hp->Prop
 yld:Nat->Hp->V->Hp->Prop
 stop:Nat->Hp->Prop
def fF(X:Cx)(a_:a0b)(H:Hp)(b:OS):Prop:=
 H b=OO/\b≠X.env.locals/\b∉X.fs/\(b∈X.ex\/X.s₀.heap.objs.size<=b)/\(∀x c,X.env.cells.lookup x=on c->c≠b)/\∀p∈X.pn++a_,p.1≠b
theorem cp.fpOk{X:Cx}{a_:a0b}{σ:St}{H f:Hp}{s:O3}{b:OS}(I:cp X a_ σ H s)(d:s.heap.objs.size<=b)(a:f b=OO):fF X a_ f b:=by
 refine⟨a,RW (Pz I.lt d),I.nofs d,.inr (O4 I.sz d),λx c e z=>?_,λp g z=>?_⟩
 .obtain⟨v,q⟩:=I.cell x c e
  exact Px (Pz q.lt (by rw[z];exact d)) (Qh _)
 .exact Px (Pz (Ps (I.pin p g).1) (by rw[z];exact d)) (Qh _)
structure oD (P:PN) (w:PV) (K:Pk) (tg:Expr) (J:It) (fp:a0p) (it:OS) (tn:Nat->Qg->Prop):Prop where
 mem:it∈fp
 obj:∀i h,tn i h->∀b∈fp,∃o,h.get? b=on o/\∀v,o.data≠ .cell v
 keep:∀i h h',tn i h->(∀b∈fp,∀o,h.get? b=on o->h'.get? b=on o)->tn i h'
 item:∀(X:Cx),X.prog=P->X.w=w->X.K=K->X.calm=OT->∀(i:Nat) (a_:a0b) (s:O3) (σ:St) (H:Hp) (E:a0d),cp X a_ σ H s->(∀b∈fp,fF X a_ H b)->tn i s.heap->J.go i H->
  Pc (Pt P w) X.A (Uc (.ref it)) (λr s1=>∃u,r=on u/\
   Pc (Pt P w) X.A (UG tg (.ref it) u) (λ_ s2=>∃x H',cp X a_ σ H' s2/\aO x u/\J.yld i H x H'/\tn (i+1) s2.heap/\∀b∈fp,H' b=OO) E s1) E s
 done:∀(X:Cx),X.prog=P->X.w=w->X.K=K->X.calm=OT->∀(i:Nat) (a_:a0b) (s:O3) (σ:St) (H:Hp) (E:a0d),cp X a_ σ H s->(∀b∈fp,fF X a_ H b)->tn i s.heap->J.stop i H->
  Pc (Pt P w) X.A (Uc (.ref it)) (λr s1=>r=OO/\cp X a_ σ H s1) E s
 self:∀(A:Qn) (i:Nat) (s:O3) (Q:a0d) (E:a0d),tn i s.heap->Q (.ref it) s->Pc (Pt P w) A (V3 (.ref it)) Q E s
abbrev TI:=St->Hp->(It->Hp->Prop)->Prop
def PIE(X:Cx)(a_:a0b)(σ:St)(e:Expr)(R:It->Hp->Prop)(c:OX)(f:O3):Prop:=
 ∃(a:OS) (g:a0p) (h:Nat->Qg->Prop) (J:It) (d:Hp),c= .ref a/\cp X a_ σ d f/\oD X.prog X.w X.K e J g a h/\h 0 f.heap/\(∀b∈g,fF X a_ d b)/\R J d
def PI(X:Cx)(a b:Expr)(c:TI):Prop:=
 ∀(a_:a0b) (s:O3) (σ:St) (H:Hp) (R:It->Hp->Prop),cp X a_ σ H s->c σ H R->
  Pc (Pt X.prog X.w) X.A (Qp b X.env) (λv d=>Pc (Pt X.prog X.w) X.A (V3 v) (PIE X a_ σ a R) X.xe d) X.xe s
theorem uK{M:Wq}{E:a0d}{s:O3}{u:OX}{o:Qx}(c:s.heap.get? d=on o)(hc:o.cls= .type n)(a:o.data= .fields f)
  (e:["enumerate","zip","dict_itemiterator","dict_reverseitemiterator","odict_iterator","itertools.zip_longest","itertools.pairwise"].contains n=OW) (b:Q () s):Pc M A (UG g (.ref d) u) Q E s:=by
 unfold UG;cases g<;>first
  |exact OP b
  |(cases u<;>first
   |exact OP b
   |(refine My (wpAny_load c ?_)
     rw[hc,a];show Pc M A (if(["enumerate","zip","dict_itemiterator","dict_reverseitemiterator","odict_iterator","itertools.zip_longest","itertools.pairwise"].contains n&&f[0]?==on (SU _))=OT then _ else _) Q E s;rw[O1 (by intro h;rw[e,TD]at h;cases h)];exact OP b))
noncomputable def Itl(K:Pk)(a:OS):It:=
 ⟨λi H=>∃xs x,fx K H a xs/\xs[i]?=on x,λi H x b=>b=H/\∀xs,fx K H a xs->xs[i]?=on x,λi H=>∃xs,fx K H a xs/\xs.length<=i⟩
noncomputable def Itt(K:Pk)(a:OS):It:=
 ⟨λi H=>∃xs x,io K H a xs/\xs[i]?=on x,λi H x b=>b=H/\∀xs,io K H a xs->xs[i]?=on x,λi H=>∃xs,io K H a xs/\xs.length<=i⟩
noncomputable def Itr(a:Int)(n:Nat):It:=⟨λi _=>i<n,λi H x b=>b=H/\x= .int (a+i),λi _=>n<=i⟩
theorem sN{K:Pk}(a t:OS):oD P w K Z (Itl K a) [t] t (λi h=>h.IsListIter t a i) where
 mem:=by simp
 obj:=λi h Y b f=>by
  have e:b=t:=by simpa using f
  subst e;obtain⟨o,e,c,d⟩:=Y;exact⟨o,e,λv z=>by rw[d]at z;cases z⟩
 keep:=λi h D Y k=>Y.at λo e=>k t (by simp) o e
 item:=by
  intro X m n q hc i a_ s σ H E I j Y r;subst m n q;obtain⟨xs,x,l,y⟩:=r;obtain⟨G,A,p,L⟩:=I.list l;obtain⟨u,N,O⟩:=A.get y;obtain⟨B,f1,f2,C,F,J⟩:=j t (by simp);refine wpAny_pyNext_list_item Y p.isList (x:=u) (by simpa using N) λD g Q=>?_;have R:cp X a_ σ H {s with heap:=D}:=I.turned (t':=s.toks) (λb o f e=>(Q.2 b f).trans e) B f1 C F J;obtain⟨o,e,c,d⟩:=id g;exact⟨u,rfl,uK (s:={s with heap:=D}) e c d (by decide) ⟨x,H,R,O,⟨rfl,λys T=>by rw[I.list_inj T l];exact y⟩,g,λb f=>(j b f).1⟩⟩
 done:=by
  intro X m n q hc i a_ s σ H E I j Y r;subst m n q;obtain⟨xs,l,y⟩:=r;obtain⟨G,A,p,L⟩:=I.list l;obtain⟨B,f1,f2,C,F,J⟩:=j t (by simp);have W:=A.length;exact wpAny_pyNext_list_end (I.ok.hd hc) Y p.isList (by simp;lia) λD U=>⟨rfl,I.turned (t':=s.toks) (λb o f e=>U b o f e) B f1 C F J⟩
 self:=λ_ _ _ _ _ Y h=>wpAny_pyIter_listiter Y h
theorem yh{K:Pk}(a t:OS):oD P w K Z (Itt K a) [t] t (λi h=>h.IsTupleIter t a i) where
 mem:=by simp
 obj:=λi h Y b f=>by
  have e:b=t:=by simpa using f
  subst e;obtain⟨o,e,c,d⟩:=Y;exact⟨o,e,λv z=>by rw[d]at z;cases z⟩
 keep:=λi h G Y k=>Y.at λo e=>k t (by simp) o e
 item:=by
  intro X m n q hc i a_ s σ H E I j Y r;subst m n q;obtain⟨xs,x,l,y⟩:=r;obtain⟨D,A,p,L⟩:=I.tuple l;obtain⟨u,N,O⟩:=A.get y;obtain⟨B,f1,f2,C,F,J⟩:=j t (by simp);refine wpAny_pyNext_tuple_item Y (show s.heap.IsTuple a D.toArray from p) (x:=u) (by simpa using N) λG g Q=>?_;have R:cp X a_ σ H {s with heap:=G}:=I.turned (t':=s.toks) (λb o f e=>(Q.2 b f).trans e) B f1 C F J;obtain⟨o,e,c,d⟩:=id g;exact⟨u,rfl,uK (s:={s with heap:=G}) e c d (by decide) ⟨x,H,R,O,⟨rfl,λys T=>by rw[I.tuple_inj T l];exact y⟩,g,λb f=>(j b f).1⟩⟩
 done:=by
  intro X m n q hc i a_ s σ H E I j Y r;subst m n q;obtain⟨xs,l,y⟩:=r;obtain⟨D,A,p,L⟩:=I.tuple l;obtain⟨B,f1,f2,C,F,J⟩:=j t (by simp);have W:=A.length;exact wpAny_pyNext_tuple_end (I.ok.hd hc) Y (show s.heap.IsTuple a D.toArray from p) (by simp;lia) λG U=>⟨rfl,I.turned (t':=s.toks) (λb o f e=>U b o f e) B f1 C F J⟩
 self:=λ_ _ _ _ _ Y h=>wpAny_pyIter_tupleiter Y h
theorem yi{K:Pk}(a:OS)(u:Int)(n:Nat):oD P w K x (Itr u n) [a] a (λi h=>Xn h a (u+(i:Nat)*1) ((n:Int)-(i:Nat)) 1) where
 mem:=by simp
 obj:=λi h Y b c=>by
  have e:b=a:=by simpa using c
  subst e;exact⟨_,Y,λv z=>by
   have B:Data.fields _=Data.cell v:=z;cases B⟩
 keep:=λi h D Y k=>k a (by simp) _ Y
 item:=by
  intro X g j l hc i a_ s σ H E I f Y m;subst g j l;obtain⟨p,f1,f2,q,r,y⟩:=f a (by simp);have W:=Walks.range (prog:=X.prog) (w:=X.w) (I.ok.hd hc) a u 1 n;refine W.item i s _ _ m Y λv D A C d F=>?_;obtain⟨t,rfl⟩:=C;have J:cp X a_ σ H {s with heap:=D,toks:=A}:=I.turned (λb o c e=>F b o (by simpa using c) e) p f1 q r y;refine⟨_,rfl,uK (s:={s with heap:=D,toks:=A}) (n:="range_iterator") d rfl rfl (by decide) ⟨.int (u+i),H,J,⟨t,?_⟩,⟨rfl,rfl⟩,d,λb c=>(f b c).1⟩⟩;rw[Int.mul_one]
 done:=by
  intro X g j l hc i a_ s σ H E I f Y m;subst g j l;obtain⟨p,f1,f2,q,r,y⟩:=f a (by simp);exact ZF (I.ok.hd hc) Y (by have:n<=i:=m;lia) λD L=>⟨rfl,I.turned (t':=s.toks) (λb o c e=>L b o c e) p f1 q r y⟩
 self:=λ_ _ _ _ _ Y h=>VL Y h
variable{z:Expr}
def Ov(K:Pk)(c:TE):TI:=λσ H R=>c σ H λx b=>∃a,x= .ref a/\(∃xs,fx K b a xs)/\R (Itl K a) b
theorem Jj(f:PE X l tl):PI X z l (Ov X.K tl):=by
 intro a_ s σ H R I h;refine eg (f a_ s σ H _ I h) λv c ⟨x,g,d,r1,t⟩=>?_;obtain⟨a,e,⟨xs,i⟩,q⟩:=t;subst e;cases r1;obtain⟨u,k,p,m⟩:=d.list i;refine Vl p.isList ?_;refine⟨c.heap.objs.size,[c.heap.objs.size],_,_,g,rfl,d.kept (t':=c.toks) λb o e=>OQ _ e,sN a _,⟨_,Ph _ rfl,rfl,rfl⟩,λb j=>?_,q⟩;have e:b=c.heap.objs.size:=by simpa using j
 subst e;exact d.fpOk (O5 _) (d.hok.fresh (O5 _))
theorem vt{a_:a0b}{σ:St}{H:Hp}{s:O3}{E:a0d}{a c:Int}{t u v:Tok}(I:cp X a_ σ H s)(f:-(2^62)<=a)(g:a<2^62)(h:-(2^62)<=c)(i:c<2^62)
  (q:R (Itr a (c-a).toNat) H):Pc (Pt X.prog X.w) X.A (V3 (.ref s.heap.objs.size)) (PIE X a_ σ z R) E {s with heap:=s.heap.push {cls:= .type "range",data:= .fields #[.int a t,.int c u,.int 1 v]},toks:=m}:=by
 refine wpAny_pyIter_range (IsRange.new ..) (small_one f g h i) ?_;have d:cp X a_ σ H {s with heap:=s.heap.push {cls:= .type "range",data:= .fields #[.int a t,.int c u,.int 1 v]},toks:=m}:=I.kept λb o e=>OQ _ e;refine⟨(s.heap.push {cls:= .type "range",data:= .fields #[.int a t,.int c u,.int 1 v]}).objs.size,[(s.heap.push {cls:= .type "range",data:= .fields #[.int a t,.int c u,.int 1 v]}).objs.size],_,_,H,rfl,
  d.kept (t':=m) λb o e=>OQ _ e,yi _ a (c-a).toNat,?_,λb j=>?_,q⟩
 .have k:a+((0:Nat):Int)*1=a:=by simp
  have l:(((c-a).toNat:Nat):Int)-((0:Nat):Int)=Wb a c 1:=by rw[rangeSize_one];split<;>lia
  show Xn _ _ (a+((0:Nat):Int)*1) ((((c-a).toNat:Nat):Int)-((0:Nat):Int)) 1;rw[k,l];exact Ph _ rfl
 .have e:b=(s.heap.push {cls:= .type "range",data:= .fields #[.int a t,.int c u,.int 1 v]}).objs.size:=by simpa using j
  subst e;exact d.fpOk (O5 _) (d.hok.fresh (O5 _))
def Ot(b:TA):TI:=λσ H R=>b σ H λa c=>∃j:Int,a=[.int j]/\-(2^62)<=j/\j<2^62/\R (Itr 0 j.toNat) c
def Os(b:TA):TI:=λσ H R=>b σ H λa c=>∃i j:Int,a=[.int i,.int j]/\(-(2^62)<=i/\i<2^62/\-(2^62)<=j/\j<2^62)/\R (Itr i (j-i).toNat) c
theorem BZ{a:Expr}{p aa:Uh}(b:Gl X "range")(D:X.mg "range"=OO)(E:PA X [a] i)(G:Pd [a] X.env=[(OW,Qp a X.env)]:=by rfl):PI X z (.Call (.Name "range" p) [a] [] aa) (Ot i):=by
 intro a_ s σ H R I h;refine Call_ (fK I b D boot_range (QS (eg (E aa a_ s σ H _ I h) λM f ⟨S,g,c,r1,u⟩=>?_) G rfl));obtain⟨j,e,u,K,q⟩:=u;subst e;cases r1 with
 |cons r d=>
  cases d;obtain⟨t,rfl⟩:=r;exact call_range_1 (vt c (by lia) (by lia) u K (by simpa using q))
theorem BY{a b:Expr}{p aa:Uh}(f:Gl X "range")(D:X.mg "range"=OO)(E:PA X [a,b] n)(G:Pd [a,b] X.env=[(OW,Qp a X.env),(OW,Qp b X.env)]:=by rfl)(c:Pd [b] X.env=[(OW,Qp b X.env)]:=by rfl):
  PI X z (.Call (.Name "range" p) [a,b] [] aa) (Os n):=by
 intro a_ s σ H R I h;refine Call_ (fK I f D boot_range (QS (eg (E aa a_ s σ H _ I h) λV l ⟨Y,m,g,r1,u⟩=>?_) (by rw[G,c]) (by rw[c];rfl)));obtain⟨i,j,e,⟨u,K,M,S⟩,q⟩:=u;subst e;cases r1 with
 |cons r d=>
  cases d with
  |cons k d=>
   cases d;obtain⟨t,rfl⟩:=r;obtain⟨o,rfl⟩:=k;exact call_range_2 (vt g u K M S q)
def Fn(h:TI)(g:TG)(j:TS):TS:=λD σ H=>h σ H λJ k=>∃W:Nat->Nat->St->Hp->Prop,(∃m,W 0 m σ k)/\∀i m σ H,W i m σ H->
 (J.stop i H/\D.nx σ H)\/(J.go i H/\∃N:St->Hp->Prop,(∀b c,N b c->∃f,f<m/\W (i+1) f b c)/\∀x c,J.yld i H x c->g x σ c λd l=>j {D with nx:=N,ct:=N,bk:=D.nx} d l)
noncomputable def mI(c:a0p)(h:Qg):a0b:=c.filterMap λb=>(h.get? b).map λo=>(b,o)
theorem iN{h:Qg}(c:b∈d)(e:h.get? b=on o):(b,o)∈mI d h:=Uy.mpr ⟨b,c,by rw[e];rfl⟩
theorem CG{h:Qg}{p:OS×Qx}(c:p∈mI g h):p.1∈g/\h.get? p.1=on p.2:=by
 obtain⟨b,d,e⟩:=Uy.mp c;cases q:h.get? b with
 |none=>rw[q]at e;cases e
 |some o=>
  rw[q]at e;have f:(b,o)=p:=PH e;subst f;exact⟨d,q⟩
theorem cp.pinned{a_:a0b}{σ:St}{H:Hp}{s:O3}(I:cp X a_ σ H s)(g:∀b∈k,fF X a_ H b)(h:∀b∈k,∃o,s.heap.get? b=on o/\∀v,o.data≠ .cell v):cp X (a_++mI k s.heap) σ H s:=
 I.pins_of λp i=>(Qt.mp i).elim (λz=>I.pin p (P0 _ z)) λz=>by
  obtain⟨c,e⟩:=CG z;obtain⟨j,f1,f2,_⟩:=g p.1 c;obtain⟨o,f,d⟩:=h p.1 c;rw[e]at f;cases f;exact⟨e,j,f1,f2,d⟩
theorem cp.unpinned{a_ a:a0b}{σ:St}{H:Hp}{s:O3}(I:cp X (a_++a) σ H s):cp X a_ σ H s:=I.pins_of λp b=>I.pin p (P0 _ (RF _ b))
theorem bp{aa:Uh}(L:Y7 (Pt X.prog X.w) X.A X.env X.xe)(hc:X.calm=OT)(hi:PI X z iter wi)(hg:PG X z g)(j:PSs X body tb)
  (hs:∀x,Qe iter X.env x=Rh x:=by intro _;rfl):PS X (.For z iter body [] aa) (Fn wi g tb):=by
 intro a_ s σ H D I h;refine wpAny_For (eg (hi a_ s σ H _ I h) λv s1 h1=>eg h1 λab s2 h2=>?_) hs;obtain⟨it,O,S,J,H2,e,I2,T,Z,f2,W,⟨m0,w0⟩,P⟩:=h2;subst e
 --what stays OT of the iterator's objects through the loop
 have k:∀{B:Hp},(∀b∈O,B b=OO)->∀b∈O,fF X a_ B b:=λhn b j=>⟨hn b j,(f2 b j).2⟩;refine codeAny_forLoop_any (λn V=>∃i l B,cp X a_ l B V/\S i V.heap/\(∀b∈O,B b=OO)/\W i n l B) ?_ m0 ⟨0,σ,H2,I2,Z,λb j=>(f2 b j).1,w0⟩;rintro n s3 ⟨i,p,Y,I3,Q,R,w3⟩;rcases P i n p Y w3 with⟨a,qn⟩|⟨go,N,hN,step⟩
 .refine SQ L (eg (T.done X rfl rfl rfl hc i a_ s3 p Y X.xe I3 (k R) Q a) λr s4 ⟨t,I4⟩=>?_)
  subst t;exact UH ⟨p,Y,I4,qn⟩
 .refine SQ L (eg (T.item X rfl rfl rfl hc i a_ s3 p Y X.xe I3 (k R) Q go) λr s4 ⟨u,t,h4⟩=>?_)
  subst t;refine SQ L (eg h4 λ_ s5 ⟨x,H5,I5,r5,y5,F,E⟩=>?_);have G:=I5.pinned (k E) (T.obj _ _ F);refine SQ L (eg (hg _ s5 p H5 x u _ G r5 (step x H5 y5)) λ_ s6 ⟨K,H6,I6,q6⟩=>?_);refine SQ L (eg (j _ s6 K H6 _ I6 q6) λf M C=>?_);have Xs:∀{c:St} {q:Hp},cp X (a_++mI O s5.heap) c q M->N c q->∃m,m<n/\∃i l B,cp X a_ l B M/\S i M.heap/\(∀b∈O,B b=OO)/\W i m l B:=λ{c q} y U=>by
   obtain⟨m',hm,w7⟩:=hN c q U;refine⟨m',hm,i+1,c,q,y.unpinned,T.keep _ _ _ F λb j o e=>(y.pin (b,o) (P0 _ (P0 _ (iN j e)))).1,λb j=>?_,w7⟩;obtain⟨o,e,d⟩:=T.obj _ _ F b j;exact(y.pin (b,o) (P0 _ (P0 _ (iN j e)))).2.1
  cases f with
  |next=>obtain⟨c,q,y,U⟩:=C;exact Xs y U
  |cont=>obtain⟨c,q,y,U⟩:=C;exact Xs y U
  |brk=>obtain⟨c,q,y,C⟩:=C;exact⟨c,q,y.unpinned,C⟩
  |ret v=>obtain⟨x7,c,q,y,r7,C⟩:=C;exact⟨x7,c,q,y.unpinned,r7,C⟩
abbrev R2:=V->V->Hp->VK->Prop
def gt(X:Cx)(f:OX->OX->Sem OX)(r:R2):Prop:=
 ∀(a_:a0b) (s:O3) (σ:St) (H:Hp) (x y:V) (v u:OX) (Q:VK),cp X a_ σ H s->aO x v->aO y u->r x y H Q->
  Pc (Pt X.prog X.w) X.A (f v u) (EP X a_ σ Q) X.xe s
def UnR(X:Cx)(f:OX->Sem OX)(r:V->Hp->VK->Prop):Prop:=
 ∀(a_:a0b) (s:O3) (σ:St) (H:Hp) (x:V) (v:OX) (Q:VK),cp X a_ σ H s->aO x v->r x H Q->
  Pc (Pt X.prog X.w) X.A (f v) (EP X a_ σ Q) X.xe s
def cM(X:Cx)(f:OX)(r:a0M):Prop:=
 ∀(a_:a0b) (s:O3) (σ:St) (H:Hp) (xs:a0k) (a:a0g) (Q:VK),cp X a_ σ H s->aw xs a->r xs H Q->
  Pc (Pt X.prog X.w) X.A (Vg f a) (EP X a_ σ Q) X.xe s
def TruR(X:Cx)(r:V->Hp->(Bool->Hp->Prop)->Prop):Prop:=
 ∀(a_:a0b) (s:O3) (σ:St) (H:Hp) (x:V) (v:OX) (Q:a0T),cp X a_ σ H s->aO x v->r x H Q->
  Pc (Pt X.prog X.w) X.A (truthy v) (TP X a_ σ Q) X.xe s
def ZZ(r:R2)(b c:TE):TE:=λσ H Q=>b σ H λx d=>c σ d λy f=>r x y f Q
def tUn(r:V->Hp->VK->Prop)(b:TE):TE:=λσ H Q=>b σ H λx c=>r x c Q
def rI(C:a0U)(g:Int->Int->V):R2:=λx y H Q=>∃i j,x= .int i/\y= .int j/\C i j/\Q (g i j) H
def ry(g:Int->Int->V):R2:=λx y H Q=>∃i j,x= .int i/\y= .int j/\Q (g i j) H
def rU(g:Int->V):V->Hp->VK->Prop:=λx H Q=>∃i,x= .int i/\Q (g i) H
end
section
variable{X:Cx}{a b c:Expr}{ta tb tc:TE}{aa:Uh}
theorem GW(c:PE X a ta)(m:PE X b tb){d:a0b}{s:O3}{e:St}{H:Hp}{R:V->V->Hp->Prop}(I:cp X d e H s)
  (h:ta e H λx l=>tb e l λy g=>R x y g) {Q:a0d} {f:OX->OX->Sem OX}
  (n:∀v u k x y g,cp X d e g k->aO x v->aO y u->R x y g->Pc (Pt X.prog X.w) X.A (f v u) Q X.xe k):
  Pc (Pt X.prog X.w) X.A (Qp a X.env) (λv i=>Pc (Pt X.prog X.w) X.A (Qp b X.env) (λu j=>Pc (Pt X.prog X.w) X.A (f v u) Q X.xe j) X.xe i) X.xe s:=by
 refine eg (c d s e H _ I h) λv o ⟨x,l,p,r1,D⟩=>?_;refine eg (m d o e l _ p D) λu k ⟨y,g,q,r,E⟩=>?_;exact n v u k x y g q r1 r E
theorem dY(e:gt X (R9 op) r)(c:PE X a ta)(f:PE X b tb):PE X (.BinOp a op b aa) (ZZ r ta tb):=by
 intro d s g H Q I h;exact wpAny_BinOp (GW c f I h λv u i x y j k l m q=>e d i g j x y v u Q k l m q)
theorem ND(f:UnR X (unaryOp op) r)(b:PE X a ta):PE X (.UnaryOp op a aa) (tUn r ta):=by
 intro d s e H Q I h;exact UnaryOp_ (eg (b d s e H _ I h) λv g ⟨x,i,j,r1,c⟩=>f d g e i x v Q j r1 c)
theorem nS{f:OX->OX->Sem OX}{C:a0U}{g:a0I}
  (d:∀(i j:Int) (t u:Tok) (s:O3) (Q:a0d) (E:a0d),C i j->Q (.int (g i j) s.toks) {s with toks:=s.toks+1}->Pc (Pt X.prog X.w) X.A (f (.int i t) (.int j u)) Q E s):
  gt X f (rI C λi j=> .int (g i j)):=by
 intro e s m H x y v u Q I k l h;obtain⟨i,j,rfl,rfl,hc,q⟩:=h;obtain⟨t,rfl⟩:=k;obtain⟨a,rfl⟩:=l;exact d i j t a s _ _ hc ⟨.int (g i j),H,I.tok _,⟨_,rfl⟩,q⟩
theorem LF{f:OX->OX->Sem OX}{g:a0I}
  (d:∀(i j:Int) (t u:Tok) (s:O3) (Q:a0d) (E:a0d),Q (.int (g i j) s.toks) {s with toks:=s.toks+1}->Pc (Pt X.prog X.w) X.A (f (.int i t) (.int j u)) Q E s):
  gt X f (ry λi j=> .int (g i j)):=by
 intro e s m H x y v u Q I k l h;obtain⟨i,j,rfl,rfl,q⟩:=h;obtain⟨t,rfl⟩:=k;obtain⟨a,rfl⟩:=l;exact d i j t a s _ _ ⟨.int (g i j),H,I.tok _,⟨_,rfl⟩,q⟩
theorem yJ{f:OX->OX->Sem OX}{g:Int->Int->Bool}
  (d:∀(i j:Int) (t u:Tok) (s:O3) (Q:a0d) (E:a0d),Q (.bool (g i j)) s->Pc (Pt X.prog X.w) X.A (f (.int i t) (.int j u)) Q E s):
  gt X f (ry λi j=> .bl (g i j)):=by
 intro e s m H x y v u Q I k l h;obtain⟨i,j,rfl,rfl,q⟩:=h;obtain⟨t,rfl⟩:=k;obtain⟨a,rfl⟩:=l;exact d i j t a s _ _ ⟨.bl (g i j),H,I,rfl,q⟩
def CDiv(i j:Int):Prop:=0<j/\j<1073741824
def CPow(i j:Int):Prop:=0<=j/\j<=1000000/\i.natAbs<2^64
def G3(i j:Int):Prop:=(-(2^64)<i/\i<2^64)\/(-(2^64)<j/\j<2^64)
theorem G3.ok(h:G3 i j):IntMulOk i j:=by
 rcases h with⟨d,e⟩|⟨d,e⟩
 .exact .of_left (intBits_le_64 d e)
 .exact .of_right (intBits_le_64 d e)
theorem qK:gt X (R9 .Add) (ry λi j=> .int (i+j)):=LF λ_ _ _ _ _ _ _ q=>add_int q
theorem gl:gt X (R9 .Sub) (ry λi j=> .int (i-j)):=LF λ_ _ _ _ _ _ _ q=>sub_int q
theorem LC:gt X (R9 .Mult) (rI G3 λi j=> .int (i*j)):=nS λ_ _ _ _ _ _ _ hc q=>mul_int q hc.ok
theorem xA:gt X (R9 .FloorDiv) (rI CDiv λi j=> .int (i/j)):=nS λi j _ _ _ _ _ hc q=>by
 have d:(0:Int)<j:=hc.1;have e:j<1073741824:=hc.2;exact floordiv_int (by lia) (by rw[UD i (by lia)];exact q) (.inl (PyProof.noPylong_small (by lia)))
theorem jk:gt X (R9 .Mod) (rI (λ_ j=>0<j) λi j=> .int (i % j)):=nS λi j _ _ _ _ _ hc q=>by
 have d:(0:Int)<j:=hc;exact mod_int' (by lia) (by rw[Int.fmod_eq_emod_of_nonneg i (by lia)];exact q)
theorem LA:gt X (R9 .Pow) (rI CPow λi j=> .int (i^j.toNat)):=nS λ_ _ _ _ _ _ _ hc q=>pow_int_small hc.1 hc.2.1 hc.2.2 q
theorem unI{f:OX->Sem OX}{g:Int->Int}
  (d:∀(i:Int) (t:Tok) (s:O3) (Q:a0d) (E:a0d),Q (.int (g i) s.toks) {s with toks:=s.toks+1}->Pc (Pt X.prog X.w) X.A (f (.int i t)) Q E s):
  UnR X f (rU λi=> .int (g i)):=by
 intro e s k H x v Q I j h;obtain⟨i,rfl,q⟩:=h;obtain⟨t,rfl⟩:=j;exact d i t s _ _ ⟨.int (g i),H,I.tok _,⟨_,rfl⟩,q⟩
theorem Kn:UnR X (unaryOp .USub) (rU λi=> .int (-i)):=unI λ_ _ _ _ _ q=>neg_int q
noncomputable def Fy:V->V->Bool
 | .non,.non=>OT| .non,.int _=>OT| .int _,.non=>OT| .non,.bl _=>OT| .bl _,.non=>OT| .non,.str _=>OT| .str _,.non=>OT
 | .int _,.int _=>OT| .bl _,.bl _=>OT| .str _,.str _=>OT
 | .int _,.str _=>OT| .str _,.int _=>OT| .bl _,.str _=>OT| .str _,.bl _=>OT
 |_,_=>OW
noncomputable def rEq:R2:=λx y H Q=>Fy x y=OT/\Q (.bl (decide (x=y))) H
noncomputable def rNe:R2:=λx y H Q=>Fy x y=OT/\Q (.bl (!decide (x=y))) H
theorem x3:decide (V.int i=V.int j)=(i==j):=by
 rw[Vn];simp
theorem F_{i j:Bool}:decide (V.bl i=V.bl j)=(i==j):=by
 rw[Vn];simp
theorem xZ:decide (V.str i=V.str j)=(i==j):=by
 rw[Vn];simp
theorem dt{k d:Bool}(I:cp X f g H s)(q:Q (.bl k) H)(e:k=d):EP X f g Q (.bool d) s:=by
 subst e;exact⟨.bl k,H,I,rfl,q⟩
theorem NH:gt X (QD .Eq) rEq:=by
 intro f s g H x y v u Q I e d h;obtain⟨b,q⟩:=h;cases x with
 |non=>
  cases e;cases y with
  |non=>cases d;exact PySem.EqNone.eq_none_none (dt I q (by simp))
  |bl j=>cases d;exact PySem.EqNone.eq_none_bool (dt I q (by simp))
  |int j=>obtain⟨a,rfl⟩:=d;exact PySem.EqNone.eq_none_int (dt I q (by simp))
  |str j=>obtain⟨a,rfl⟩:=d;exact PySem.EqNone.eq_none_str (dt I q (by simp))
  |_=>exact Px (show OW=OT from b) O8
 |bl i=>
  cases e;cases y with
  |non=>cases d;exact PySem.EqNone.eq_bool_none (dt I q (by simp))
  |bl j=>cases d;exact eq_bool (dt I q F_)
  |str j=>obtain⟨a,rfl⟩:=d;exact PySem.EqMixed.eq_bool_str (dt I q (by simp))
  |_=>exact Px (show OW=OT from b) O8
 |int i=>
  obtain⟨t,rfl⟩:=e;cases y with
  |non=>cases d;exact PySem.EqNone.eq_int_none (dt I q (by simp))
  |int j=>obtain⟨a,rfl⟩:=d;exact eq_int (dt I q x3)
  |str j=>obtain⟨a,rfl⟩:=d;exact PySem.EqMixed.eq_int_str (dt I q (by simp))
  |_=>exact Px (show OW=OT from b) O8
 |str i=>
  obtain⟨t,rfl⟩:=e;cases y with
  |non=>cases d;exact PySem.EqNone.eq_str_none (dt I q (by simp))
  |bl j=>cases d;exact PySem.EqMixed.eq_str_bool (dt I q (by simp))
  |int j=>obtain⟨a,rfl⟩:=d;exact PySem.EqMixed.eq_str_int (dt I q (by simp))
  |str j=>obtain⟨a,rfl⟩:=d;exact eq_str (dt I q xZ)
  |_=>exact Px (show OW=OT from b) O8
 |_=>cases y<;>exact Px (show OW=OT from b) O8
theorem NG:gt X (QD .NotEq) rNe:=by
 intro f s g H x y v u Q I e d h;obtain⟨b,q⟩:=h;cases x with
 |non=>
  cases e;cases y with
  |non=>cases d;exact PySem.EqNone.ne_none_none (dt I q (by simp))
  |bl j=>cases d;exact PySem.EqNone.ne_none_bool (dt I q (by simp))
  |int j=>obtain⟨a,rfl⟩:=d;exact PySem.EqNone.ne_none_int (dt I q (by simp))
  |str j=>obtain⟨a,rfl⟩:=d;exact PySem.EqNone.ne_none_str (dt I q (by simp))
  |_=>exact Px (show OW=OT from b) O8
 |bl i=>
  cases e;cases y with
  |non=>cases d;exact PySem.EqNone.ne_bool_none (dt I q (by simp))
  |bl j=>cases d;exact ne_bool (dt I q (Qo not F_))
  |str j=>obtain⟨a,rfl⟩:=d;exact PySem.EqMixed.ne_bool_str (dt I q (by simp))
  |_=>exact Px (show OW=OT from b) O8
 |int i=>
  obtain⟨t,rfl⟩:=e;cases y with
  |non=>cases d;exact PySem.EqNone.ne_int_none (dt I q (by simp))
  |int j=>obtain⟨a,rfl⟩:=d;exact ne_int (dt I q (Qo not x3))
  |str j=>obtain⟨a,rfl⟩:=d;exact PySem.EqMixed.ne_int_str (dt I q (by simp))
  |_=>exact Px (show OW=OT from b) O8
 |str i=>
  obtain⟨t,rfl⟩:=e;cases y with
  |non=>cases d;exact PySem.EqNone.ne_str_none (dt I q (by simp))
  |bl j=>cases d;exact PySem.EqMixed.ne_str_bool (dt I q (by simp))
  |int j=>obtain⟨a,rfl⟩:=d;exact PySem.EqMixed.ne_str_int (dt I q (by simp))
  |str j=>obtain⟨a,rfl⟩:=d;exact ne_str (dt I q (Qo not xZ))
  |_=>exact Px (show OW=OT from b) O8
 |_=>cases y<;>exact Px (show OW=OT from b) O8
theorem jR:gt X (QD .Lt) (ry λi j=> .bl (decide (i<j))):=yJ λ_ _ _ _ _ _ _ q=>lt_int q
theorem jS:gt X (QD .LtE) (ry λi j=> .bl (decide (i<=j))):=yJ λ_ _ _ _ _ _ _ q=>le_int q
theorem oq:gt X (QD .Gt) (ry λi j=> .bl (decide (j<i))):=yJ λ_ _ _ _ _ _ _ q=>gt_int q
theorem HC:gt X (QD .GtE) (ry λi j=> .bl (decide (j<=i))):=yJ λ_ _ _ _ _ _ _ q=>ge_int q
theorem vF:gt X (QD .Is) (λx y H Q=>y= .non/\Q (.bl (decide (x= .non))) H):=by
 intro d s g H x y v u Q I e f h;obtain⟨rfl,q⟩:=h;cases f;refine is_none_gen (dt I q ?_);cases x<;>first
  |(cases e;rfl)
  |(obtain⟨t,rfl⟩:=e;rfl)
theorem gt.or(h:gt X f r)(a:gt X f j):gt X f (λx y H Q=>r x y H Q\/j x y H Q):=by
 intro d s e H x y v u Q I g i q;rcases q with q|q
 .exact h d s e H x y v u Q I g i q
 .exact a d s e H x y v u Q I g i q
theorem vI(b:Expr)(h:op≠ .In:=by decide)(d:op≠ .NotIn:=by decide):Ut op b=OW:=by
 have e:(op==CmpOp.In)=OW:=by cases op<;>first|rfl|exact Px rfl h
 have f:(op==CmpOp.NotIn)=OW:=by cases op<;>first|rfl|exact Px rfl d
 cases b<;>simp[Ut,e,f]
theorem Jq(e:gt X (QD op) r)(c:PE X a ta)(f:PE X b tb)(D:Ut op b=OW):PE X (.Compare a [op] [b] aa) (ZZ r ta tb):=by
 intro d s g H Q I h;exact wpAny_Compare1 (GW c f I h λv u i x y j k l m q=>e d i g j x y v u Q k l m q) D
def yk(t:TE):TT:=λd H Q=>t d H λx e=>∃k,x= .bl k/\Q k e
theorem xq(g:gt X (QD op) r)(D:PE X a ta)(i:PE X b tb)(E:Ut op b=OW):PT X (.Compare a [op] [b] aa) (yk (ZZ r ta tb)):=by
 intro d s f H Q I h;refine wpAny_isTrue_Compare1 (eg (D d s f H _ I h) λv j ⟨x,l,m,r1,G⟩=>eg (i d j f l _ m G) λu n ⟨y,o,p,q,K⟩=>
  eg (g d n f o x y v u _ p r1 q K) λc B ⟨z,t,w,A,k,e,M⟩=>?_) E
 subst e;cases A;exact Qz ⟨t,w,M⟩
def AJ(r f:R2)(ta tb tc:TE):TE:=λd H Q=>ta d H λx g=>tb d g λy h=>r x y h λz e=>∃k,z= .bl k/\
 (if k=OT then tc d e λi j=>f y i j Q else Q (.bl OW) e)
theorem FI(n:gt X (QD op) r)(i:gt X (QD op') r')(E:PE X a ta)(o:PE X b tb)(hc:PE X c tc)
  (G:Zj [op,op'] [b,c]=OW:=by with_unfolding_all rfl):PT X (.Compare a [op,op'] [b,c] aa) (yk (AJ r r' ta tb tc)):=by
 intro f s g H Q I h;refine isTrue_chain (eg (E f s g H _ I h) λv p ⟨x,q,t,r1,K⟩=>test_link (eg (o f p g q _ t K) λu w ⟨y,A,B,j,M⟩=>
  eg (n f w g A x y v u _ B r1 j M) λd C ⟨z,l,m,F,k,e,D⟩=>?_)) G
 subst e;cases F;refine Qz ?_;cases k with
 |false=>
  obtain⟨k',J,L⟩:=D;cases J;exact ite_ff ⟨l,m,L⟩
 |true=>
  refine ite_tt (test_last (eg (hc f C g l _ m D) λN O ⟨P,R,T,U,S⟩=>eg (i f O g R y P u N _ T j U S) λd' s5 ⟨z2,W,Y,Z,k2,V,q5⟩=>?_));subst V;cases Z;exact Qz ⟨W,Y,q5⟩
def GZ(K:Pk)(x:V)(H:Hp)(k:Bool):Prop:=
 match x with
 | .non=>k=OW
 | .bl b=>k=b
 | .int i=>k=(i !=0)
 | .str y=>y.length<=Pf/\k=((y.length:Int) !=0)
 | .ref p=>(∃a,fx K H p a/\k=!a.isEmpty)\/∃a,io K H p a/\k=!a.isEmpty
 |_=>False
theorem qV(r:aw e d):(!d.toArray.isEmpty)=!e.isEmpty:=by
 cases r<;>simp
theorem mQ:(Pf:Nat)<2^63:=by rw[RC];decide
theorem Kq:TruR X (λx H Q=>∃k,GZ X.K x H k/\Q k H):=by
 intro l s n H x v Q I f h;obtain⟨k,e,q⟩:=h;have o:=mQ;have E:Pf=16777216:=RC;cases x with
 |non=>
  cases f;have d:k=OW:=e;subst d;exact truthy_none ⟨H,I,q⟩
 |bl b=>
  cases f;have d:k=b:=e;subst d;exact Qz ⟨H,I,q⟩
 |int i=>
  obtain⟨t,rfl⟩:=f;have d:k=(i !=0):=e;subst d;exact PySem.P.truthy_int ⟨H,I,q⟩
 |str y=>
  obtain⟨t,rfl⟩:=f;obtain⟨u,d⟩:y.length<=Pf/\k=((y.length:Int) !=0):=e;subst d;exact PySem.P.truthy_str (by lia) ⟨H,I.tok _,q⟩
 |ref p=>
  cases f;have d:(∃a,fx X.K H p a/\k=!a.isEmpty)\/∃a,io X.K H p a/\k=!a.isEmpty:=e;rcases d with⟨a,j,d⟩|⟨a,j,d⟩
  .subst d
   obtain⟨c,r,D,m⟩:=I.list j;have g:=r.length;exact wpAny_truthy_list D.isList (by simp only[Pr];lia) ⟨H,I.tok _,by rw[qV r];exact q⟩
  .subst d
   obtain⟨c,r,D,m⟩:=I.tuple j;have g:=r.length;exact truthy_tuple D (by simp only[Pr];lia) ⟨H,I.tok _,by rw[qV r];exact q⟩
 |_=>exact(show False from e).elim
theorem FH(b:PE X a ta)(i:∀d,isTrue a X.env d=(do let v <-d;Sk a.pos;Tj [v] (truthy v))):
  PT X a (λf H Q=>ta f H λx g=>∃k,GZ X.K x g k/\Q k g):=by
 intro e s f H Q I h;exact isTrue_plain (eg (b e s f H _ I h) λv j ⟨x,l,m,r1,c⟩=>Kq e j f l x v Q m r1 c) (i _)
theorem gG(r:aw [x] e):∃u,e=[u]/\aO x u:=by
 cases r with
 |cons r1 d=>cases d;exact⟨_,rfl,r1⟩
theorem uq(r:aw [x,y] h):∃u d,h=[u,d]/\aO x u/\aO y d:=by
 cases r with
 |cons r1 e=>
  cases e with
  |cons f g=>cases g;exact⟨_,_,rfl,r1,f⟩
theorem pX:cM X (.builtin "abs") (λxs H Q=>∃i,xs=[.int i]/\Q (.int (if i<0 then -i else i)) H):=by
 intro d s e H xs a Q I r h;obtain⟨i,rfl,q⟩:=h;obtain⟨u,rfl,t,rfl⟩:=gG r;exact call_abs_int λu f=>⟨.int (if i<0 then -i else i),H,I.tok _,⟨_,rfl⟩,q⟩
theorem tZ(hc:X.calm=OT):cM X (.builtin "max") (λa H Q=>∃i j,a=[.int i,.int j]/\Q (.int (if j>i then j else i)) H):=by
 intro e s f H a b Q I r h;obtain⟨i,j,rfl,q⟩:=h;obtain⟨u,g,rfl,⟨t,rfl⟩,⟨c,rfl⟩⟩:=uq r;refine max_two_ints (I.ok.hd hc) λD l k=>⟨_,H,I.kept k,?_,q⟩;by_cases d:j>i
 .rw[O0 d,O0 d];exact⟨_,rfl⟩
 .rw[O1 d,O1 d];exact⟨_,rfl⟩
theorem j3(hc:X.calm=OT):cM X (.builtin "min") (λa H Q=>∃i j,a=[.int i,.int j]/\Q (.int (if j<i then j else i)) H):=by
 intro e s f H a b Q I r h;obtain⟨i,j,rfl,q⟩:=h;obtain⟨u,g,rfl,⟨t,rfl⟩,⟨c,rfl⟩⟩:=uq r;refine min_two_ints (I.ok.hd hc) λD l k=>⟨_,H,I.kept k,?_,q⟩;by_cases d:j<i
 .rw[O0 d,O0 d];exact⟨_,rfl⟩
 .rw[O1 d,O1 d];exact⟨_,rfl⟩
theorem EN:cM X (.type "int") (λa H Q=>(∃i,a=[.int i]/\Q (.int i) H)\/∃k,a=[.bl k]/\Q (.int (if k then 1 else 0)) H):=by
 intro d s e H a b Q I r h;rcases h with⟨i,rfl,q⟩|⟨k,rfl,q⟩
 .obtain⟨u,rfl,t,rfl⟩:=gG r
  exact call_int_int ⟨.int i,H,I,⟨_,rfl⟩,q⟩
 .obtain⟨u,rfl,r1⟩:=gG r
  cases r1;exact call_int_bool ⟨.int (if k then 1 else 0),H,I.tok _,⟨_,rfl⟩,q⟩
structure wl (h:Qg) (x dx C:OS) (mA:a0j):Prop where
 obj:h.get? x=on (We C dx)
 ns:h.Ns1 dx mA
 ne:dx≠x
theorem CU{h:Qg}(n:h.Ns1 l mA):∃f,h.get? l=on f/\∀b,lookIn b f=on (mA b):=by
 obtain⟨o,c,G,g,D,i,_,E⟩:=n;refine⟨o,g,λb=>?_⟩;have e:=E b;unfold nsFind findBy at e;rw[<-Array.find?_toList]at e;unfold lookIn;rw[D]
 dsimp only
 split
 .rename_i y q
  rw[q]at e;exact Qo on e
 .rename_i q
  rw[q]at e;have a:c.toList.any (·.refKey)=OW:=by
   rw[Zp];intro y j;obtain⟨z,t,d⟩:=i y (Array.mem_toList_iff.mp j);simp[DictEntry.refKey,d]
  have k:¬c.toList.any (·.refKey)=OT:=by rw[a];exact O8
  rw[O1 k];exact Qo on e
theorem wl.look(I:wl h x e C mA):∃d,PySem.W.InstAt h x (We C e) C (on d)/\∀a,lookIn a d=on (mA a):=
 let ⟨d,ho,hl⟩:=CU I.ns
 ⟨d,⟨I.obj,rfl,rfl,ho⟩,hl⟩
variable{z:PN}{w:PV}{A:Qn}{E:a0d}{s:O3}{K:Pk}{x N C f:OS}{L:a0j}{c:PX}{v:OX}
theorem JU{d:Bool}(X:K.In s.heap)(I:wl s.heap x N C L)(g:plainGet K C c=OT)(i:hasDictIn K C=OT)
  (a:RX K (.ref C) c=on OO) (j:L c=on v) (e:YM v=OT) (h:Q v {s with toks:=s.toks+1}):
  Pc (Pt z w) A (getAttr (.ref x) c d) Q E s:=by
 obtain⟨l,J,k⟩:=I.look;exact PySem.W.get_value X J (plainGet_of g).1 (PySem.W.findObj_own i a rfl (by rw[k,j])) e h
theorem GJ(X:K.In s.heap)(I:wl s.heap x N C L)(d:plainGet K C c=OT)
  (e:RX K (.ref C) c=on (on (.ref f))) (g:isFn K (.ref f)=OT) (i:L c=OO) (h:Q (.ref f,[.ref x]) s):
  Pc (Pt z w) A (UY (.ref x) c l) Q E s:=by
 obtain⟨j,J,k⟩:=I.look;exact PySem.W.method_fn X J (plainGet_of d).1 (plainGet_of d).2 e (beq_iff_eq.mp g) (by show(lookIn c j).map (·.isSome)=on OW;rw[k,i];rfl) h
theorem IW{D:a0i}(X:K.In s.heap)(I:wl s.heap x N C L)
  (G:RX K (.ref C) "__setattr__"=on (on (.builtin "object.__setattr__"))) (l:Yw K C=OT) (m:takerIn K C c=on OO) (n:hasDictIn K C=OT)
  (o:Uo L D) (p:D.length<=Pf)
  (h:∀f,wl f x N C (λy=>if y=c then on v else L y)->PQ N s.heap f->Q () {s with heap:=f,toks:=s.toks+2}):
  Pc (Pt z w) A (setAttr (.ref x) c v) Q E s:=by
 obtain⟨B,J,F⟩:=I.look;refine PySem.W.set_plain X J G (PySem.W.osa_open (s:={s with toks:=s.toks+1}) (r:=OO) X J l m λb=>?_);obtain⟨M,hc,g⟩:=PySem.W.any_some n;have q:s.heap.get? x=on ⟨.ref C,on N,.plain,#[]⟩:=I.obj;refine My (OP (My (My (Yk q (My (WS (s:={s with toks:=s.toks+1}) (looks_clsIn X hc) ?_))))));rw[g];refine OP (a:=on N) (My (OP (My ?_)));refine wpAny_nsSet1 (s:={s with toks:=s.toks+1}) I.ns λf d e=>?_;obtain⟨H,t,u,i,j,k⟩:=d.count (Xh c v o);refine My (wpAny_lookBehind i (by rw[j];exact pastItsLine_dict (O4 k (by rw[Pg];lia))) ?_);exact OP (h _ ⟨(e.2 _ (Ne.symm I.ne)).trans I.obj,d,I.ne⟩ e)
theorem Gf(X:K.In s.heap)(b:Za K C=OT)
  (e:RX K (.ref C) "__init__"=on (on (.ref f))) (i:PySem.W.typeIn K (.ref f)=on (.type "function"))
  (h:SC (Pt z w) (A.under (.builtin "type.__call__" ⟨.ref C::k,kw⟩)) (.call (.ref f) ⟨.ref (s.heap.objs.size+1)::k,kw⟩) (PySem.W.InitBack (s.heap.objs.size+1) R)
   {s with heap:=(s.heap.push Uq).push (We C s.heap.objs.size)}):
  SC (Pt z w) A (.call (.ref C) ⟨k,kw⟩) R s:=by
 obtain⟨j,g,d,t,c⟩:=s;exact PySem.W.make_core (PySem.W.makes_of X b) (WV X e) (λa=>Y8 X a i) (.inl rfl) h
noncomputable def dN(f:PX)(v:V):a0D->a0D
 |[]=>[(f,v)]
 |(g,x)::r=>if g=f then(g,v)::r else(g,x)::dN f v r
theorem o9(f g:PX)(v:V):∀a:a0D,(dN f v a).lookup g=if g=f then on v else a.lookup g
 |[]=>by
  show Ud g [(f,v)]=_;by_cases h:g=f
  .have d:(g==f)=OT:=beq_iff_eq.mpr h
   simp only[Ud,d,O0 h]
  .have d:(g==f)=OW:=beq_eq_false_iff_ne.mpr h
   simp only[Ud,d,O1 h]
 |(k,x)::r=>by
  have b:=o9 f g v r;rw[show dN f v ((k,x)::r)=(if k=f then(k,v)::r else(k,x)::dN f v r)from rfl];by_cases i:k=f
  .rw[O0 i]
   by_cases h:g=k
   .have d:(g==k)=OT:=beq_iff_eq.mpr h
    simp only[Ud,d,O0 (h.trans i)]
   .have d:(g==k)=OW:=beq_eq_false_iff_ne.mpr h
    simp only[Ud,d,O1 (λe:g=f=>h (e.trans i.symm))]
  .rw[O1 i]
   by_cases h:g=k
   .have d:(g==k)=OT:=beq_iff_eq.mpr h
    simp only[Ud,d,O1 (λe:g=f=>i (h.symm.trans e))]
   .have d:(g==k)=OW:=beq_eq_false_iff_ne.mpr h
    simp only[Ud,d];exact b
theorem mV(f:PX)(v:V):∀a:a0D,f∈(dN f v a).map (·.1)/\∀g,g∈a.map (·.1)->g∈(dN f v a).map (·.1)
 |[]=>⟨by simp[dN],λg h=>by simp at h⟩
 |(k,x)::r=>by
  obtain⟨i,j⟩:=mV f v r;rw[show dN f v ((k,x)::r)=(if k=f then(k,v)::r else(k,x)::dN f v r)from rfl];by_cases d:k=f
  .rw[O0 d]
   subst d;exact⟨by simp,λg h=>by simpa using h⟩
  .rw[O1 d]
   refine⟨?_,λg h=>?_⟩
   .rw[O9]
    exact OR _ i
   .rw[O9]at h⊢
    rcases Pb.mp h with e|e
    .exact Pb.mpr (.inl e)
    .exact OR _ (j g e)
theorem pb(f:PX)(v:V):∀a:a0D,(dN f v a).length<=a.length+1
 |[]=>by simp[dN]
 |(k,x)::r=>by
  have b:=pb f v r;rw[show dN f v ((k,x)::r)=(if k=f then(k,v)::r else(k,x)::dN f v r)from rfl];by_cases d:k=f
  .rw[O0 d,Pg,Pg];lia
  .rw[O1 d,Pg,Pg];lia
theorem iD.some_of{v:V}(r:iD (on v) o):∃u,o=on u/\aO v u:=by
 cases o with
 |none=>exact(show False from r).elim
 |some u=>exact⟨u,rfl,r⟩
theorem iD.none_of(r:iD OO o):o=OO:=by
 cases o with
 |none=>rfl
 |some u=>exact(show False from r).elim
theorem DP{v:V}(r:aO v u):YM u=OT:=by
 cases v with
 |non=>cases(show u=P8 from r);rfl
 |bl b=>cases(show u=VS b from r);rfl
 |int i=>obtain⟨t,e⟩:=(show ∃t,u=SS i t from r);cases e;rfl
 |str x=>obtain⟨t,e⟩:=(show ∃t,u=Zz x t from r);cases e;rfl
 |ref a=>cases(show u=Pi a from r);rfl
 |ty n=>cases(show u=Sf n from r);rfl
end
section
variable{P:PN}{w:PV}{H l:Hp}{h h':Qg}{a C dx:OS}{N n:a0D}
theorem kO(l:k_ P w H h)(e:H a=on (.ins C dx N)):∃b,wl h a dx C b/\(∀f,iD (N.lookup f) (b f))/\Uo b (N.map (·.1))/\N.length<=1000/\H dx=on (.own a):=by
 obtain⟨d,z,D,c,b,n,r,q⟩:=(show bF P w H h a (.ins C dx N)from l a _ e);exact⟨b,⟨c,n,D⟩,r,q,z,d⟩
structure t7 (K:Pk) (C:OS):Prop where
 pg:plainGet K C SK=OT
 hd:hasDictIn K C=OT
 po:Yw K C=OT
 sa:RX K (.ref C) "__setattr__"=on (on (.builtin "object.__setattr__"))
theorem t7.get{K:Pk}{C:OS}(c:t7 K C)(f:PX):plainGet K C f=OT:=c.pg
def ef(K:Pk)(C:OS)(f:PX):Prop:=RX K (.ref C) f=on OO
theorem ef.taker{K:Pk}{C:OS}(n:ef K C f):takerIn K C f=on OO:=by
 unfold takerIn;rw[show RX K (.ref C) f=on OO from n];rfl
structure p3 (K:Pk) (C:OS) (m:PX) (f:OS):Prop where
 at_:RX K (.ref C) m=on (on (.ref f))
 fn:isFn K (.ref f)=OT
 kp:U7 K (.ref f)=OT
variable{X:Cx}{R:a0b}{L:St}{s:O3}{f:PX}{v:V}{A:Qn}{E:a0d}
theorem zj{b:Bool}(I:cp X R L H s)(e:H a=on (.ins C dx N))(c:t7 X.K C)(n:ef X.K C f)(l:N.lookup f=on v)
  (h:∀u D,cp X R L H D->aO v u->Q u D):Pc (Pt X.prog X.w) A (getAttr (.ref a) f b) Q E s:=by
 obtain⟨g,O,r,_,_,_⟩:=kO I.hok e;obtain⟨u,i,d⟩:=iD.some_of (v:=v) (o:=g f) (by rw[<-l];exact r f);exact JU I.kIn O (c.get f) c.hd n i (DP d) (h u _ (I.tok _) d)
theorem qY(I:cp X R L H s)(e:H a=on (.ins C dx N))(c:t7 X.K C)(k:p3 X.K C m g)(l:N.lookup m=OO)
  (h:Q (.ref g,[.ref a]) s):Pc (Pt X.prog X.w) A (UY (.ref a) m pl) Q E s:=by
 obtain⟨b,O,r,_,_,_⟩:=kO I.hok e;have f:b m=OO:=iD.none_of (by rw[<-l];exact r m);exact GJ I.kIn O (c.get m) k.at_ k.fn f h
theorem yu(I:cp X R L H s)(e:H a=on (.ins C dx N))(c:t7 X.K C)(n:ef X.K C f)(F:N.length<1000)(l:aO y u)
  (h:∀v,cp X R L (upd H a (.ins C dx (dN f y N))) v->Q () v):Pc (Pt X.prog X.w) A (setAttr (.ref a) f u) Q E s:=by
 obtain⟨i,O,r,j,_,k⟩:=kO I.hok e;have m:(N.map (·.1)).length<=Pf:=by rw[ON,RC];lia
 refine IW I.kIn O c.sa c.po n.taker c.hd j m λh' d p=>h _ ?_;have D:∃o,h'.get? dx=on o:=let ⟨o,_,_,e',_⟩:=d.ns;⟨o,e'⟩
 refine I.write (x:=a) (e:=dx) (by rw[e];exact SB) (.inr k) (λb q t z=>(p.2 b t).trans z) D ?_;refine⟨by rw[bt O.ne];exact k,?_,O.ne,d.obj,_,d.ns,λg=>?_,λg B=>?_⟩
 .have:=pb f y N;lia
 .show iD ((dN f y N).lookup g) (if g=f then on u else i g)
  rw[o9];by_cases q:g=f
  .rw[O0 q,O0 q];exact l
  .rw[O1 q,O1 q];exact r g
 .by_cases q:g=f
  .rw[q];exact(mV f y N).1
  .refine(mV f y N).2 g (j g λz=>B ?_)
   show(if g=f then on u else i g)=OO;rw[O1 q];exact z
theorem cp.made(I:cp X R L H s):cp X R L (upd (upd H s.heap.objs.size (.own (s.heap.objs.size+1))) (s.heap.objs.size+1) (.ins C s.heap.objs.size []))
  {s with heap:=(s.heap.push Uq).push (We C s.heap.objs.size)}:=by
 have c:(s.heap.push Uq).get? s.heap.objs.size=on Uq:=Ph s.heap rfl;have d:((s.heap.push Uq).push (We C s.heap.objs.size)).get? (s.heap.objs.size+1)=on (We C s.heap.objs.size):=by
  have:=Ph (s.heap.push Uq) (o:=We C s.heap.objs.size) rfl;rwa[Qw]at this
 have g:(s.heap.push Uq).Ns s.heap.objs.size (λ_=>OO):=⟨Uq,#[],_,c,rfl,(λe i=>Px i (by simp)),λ_=>rfl⟩;have j:=I.laid (a:=s.heap.objs.size) (o:= .own (s.heap.objs.size+1)) (h':=s.heap.push Uq) (t':=s.toks) (λb u q=>OQ _ q) (O5 _) ⟨_,c⟩;refine j.laid (a:=s.heap.objs.size+1) (o:= .ins C s.heap.objs.size []) (t':=s.toks) (λb u q=>OQ _ q) (XX (Qw _ _)) ?_;have f:s.heap.objs.size≠s.heap.objs.size+1:=P4 (T9 _);refine⟨by rw[bt f,am],Qi _,f,d,λ_=>OO,(XT g).at λo q=>OQ _ q,λ_=>SB,λy k=>Px rfl k⟩
theorem Kb{w:PV}{f:PX}{s:O3}(c:Tx e f d (Qp e d)=Qp e d)
  (h:Pc (Pt prog w) A (Qp e d) (λo b=>Pc (Pt prog w) A (getAttr o f OT) Q E b) E s):Pc (Pt prog w) A (Qp (.Attribute e f g) d) Q E s:=
 Attribute_any_ h (by rw[arm_eval_Attribute,c])
def tFld(K:Pk)(c:TE)(f:PX):TE:=λL H Q=>c L H λx b=>∃a C dx N v,x= .ref a/\b a=on (.ins C dx N)/\t7 K C/\ef K C f/\N.lookup f=on v/\Q v b
def KY(K:Pk)(c d:TE)(f:PX):TS:=λD L H=>d L H λy e=>c L e λx b=>∃a C dx N,x= .ref a/\b a=on (.ins C dx N)/\t7 K C/\ef K C f/\N.length<1000/\
 D.nx L (upd b a (.ins C dx (dN f y N)))
variable{o e v:Expr}{O T d:Uh}{z U:TE}
theorem Lu(b:PE X e z)(d:Tx e f X.env (Qp e X.env)=Qp e X.env):PE X (.Attribute e f O) (tFld X.K z f):=by
 intro R s L H Q I h;refine Kb d (eg (b R s L H _ I h) λu r ⟨x,g,i,j,a,C,dx,N,v,o,k,c,n,l,q⟩=>?_);subst o;obtain rfl:u=Pi a:=j;exact zj i k c n l λt y m p=>⟨v,g,m,p,q⟩
theorem qJ(e:PE X o z)(b:PE X v U)(w:T0 v (on (.Attribute o f T)) O.line X.env=Rh OW):PS X (.Assign [.Attribute o f T] v O) (KY X.K z U f):=by
 intro R s L H D I h;refine Xa (eg (b R s L H _ I h) λu d ⟨y,g,i,j,q⟩=>eg (e R d L g _ i q) λk B ⟨x,F,m,p,a,C,dx,N,A,r,c,n,l,E⟩=>?_) w;subst A;obtain rfl:k=Pi a:=p;exact yu m r c n l j λJ t=>⟨L,_,t,E⟩
variable{Q:a0d}{c:OX}{b:Bool}
inductive ot (K:Pk) (H:Hp):V->OX->Prop where
 |non:ot K H .non (.type "NoneType")
 |bl (x:Bool):ot K H (.bl x) (.type "bool")
 |int (i:Int):ot K H (.int i) (.type "int")
 |str (x:PX):ot K H (.str x) (.type "str")
 |lst {a:OS} {xs:a0k} (e:H a=on (.lst xs)):ot K H (.ref a) (.type "list")
 |frz {a:OS} {o:Qx} {xs:a0k} (e:H a=on (.frz o (.lst xs))):ot K H (.ref a) (.type "list")
 |tup {a:OS} {xs:a0k} (e:H a=on (.tup xs)):ot K H (.ref a) (.type "tuple")
 |ins {a C dx:OS} {N:a0D} (e:H a=on (.ins C dx N)) (cl:t7 K C) (ha:RX K (.ref C) "__class__"=on (on (.builtin "object.__class__")))
  (hn:specialIn K (.builtin "object.__class__") "__get__"=on (on (.builtin "getset_descriptor.__get__"))) (htk:Zb K (.builtin "object.__class__")=on OT)
  (hm:mroIn K C (.type "object")=on OT):ot K H (.ref a) (.ref C)
theorem DI(I:cp X R L H s)(d:aO x u)(f:ot X.K H x t)(e:kitOne X.K t c=on b)(h:∀j,Q (.bool b) {s with toks:=j}):
  Pc (Pt X.prog X.w) A (Vg (.builtin "isinstance") [u,c]) Q E s:=by
 cases f with
 |non=>cases(show u=P8 from d);exact Vj Yv I.kIn SB e (λz=>nomatch z) h
 |bl y=>cases(show u=VS y from d);exact Vj Yu I.kIn SB e (λz=>nomatch z) h
 |int i=>obtain⟨t,q⟩:=(show ∃t,u=SS i t from d);cases q;exact Vj YN I.kIn SB e (λz=>nomatch z) h
 |str y=>obtain⟨t,q⟩:=(show ∃t,u=Zz y t from d);cases q;exact Vj YQ I.kIn SB e (λz=>nomatch z) h
 |@lst a xs ea=>
  cases(show u=Pi a from d);obtain⟨_,_,n,_,g⟩:=(show bF X.prog X.w H s.heap a (.lst xs)from I.hok a _ ea);exact Vj Wf I.kIn ⟨_,g,rfl⟩ e (λz=>nomatch z) h
 |@frz a ob xs ea=>
  cases(show u=Pi a from d);obtain⟨_,_,_,n,_,g⟩:=(show bF X.prog X.w H s.heap a (.frz ob (.lst xs))from I.hok a _ ea);exact Vj Wf I.kIn ⟨_,g,rfl⟩ e (λz=>nomatch z) h
 |@tup a xs ea=>
  cases(show u=Pi a from d);obtain⟨_,_,_,p⟩:=(show bF X.prog X.w H s.heap a (.tup xs)from I.hok a _ ea);obtain⟨o,g,k,_⟩:=p;exact Vj Yd I.kIn ⟨o,g,k⟩ e (λz=>nomatch z) h
 |@ins a C dx N ea cl ha hn htk hm=>
  cases(show u=Pi a from d);obtain⟨l,O,_⟩:=kO I.hok ea;obtain⟨m,J,_⟩:=O.look;exact Vj (YO (cl.get _) cl.hd ha hn htk hm) I.kIn J e (λz=>nomatch z) h
structure ej (k:Nat) (A:Qn):Prop where
 hd:A.handled=OO
 dp:A.depth+3*k+5<recursionLimit
 un:A.units+16*k+200<Ui
 gd:A.guards=on []
theorem ej.mono{A:Qn}(r:ej k A)(h:j<=k):ej j A:=⟨r.hd,by have:=r.dp;lia,by have:=r.un;lia,r.gd⟩
theorem ej.deeper{A:Qn}(r:ej (k+1) A)(a:Wu):ej k (A.deeper a):=
 ⟨r.hd,by have:=r.dp;show A.depth+1+3*k+5<_;lia,by have:=r.un;show A.units+3+16*k+200<_;lia,r.gd⟩
theorem yV{A:Qn}{C:OS}:(A.under (.builtin "type.__call__" ⟨.ref C::g,kw⟩)).depth=A.depth+1:=by
 first|rfl|simp[VV,Code.weight,Code.isCreation,Code.isGuard,Code.isCaller,Code.frames,XH,guardIds]
theorem yU{A:Qn}{C:OS}:(A.under (.builtin "type.__call__" ⟨.ref C::g,kw⟩)).units=A.units+1:=by
 first|rfl|simp[VV,Code.cUnits,Code.frames,XH]
theorem ej.make{A:Qn}(r:ej (k+1) A)(C:OS)(a:a0g)(d:List (PX×OX)):ej k (A.under (.builtin "type.__call__" ⟨.ref C::a,d⟩)):=
 ⟨r.hd,by have:=r.dp;rw[yV];lia,by have:=r.un;rw[yU];lia,by first|exact r.gd|simp[VV,Code.guards,Code.isGuard,guardIds,pushGuards,r.gd]⟩
theorem ej.depth{A:Qn}(r:ej k A):A.depth<recursionLimit:=by have:=r.dp;lia
theorem ej.units{A:Qn}(r:ej k A):A.units+64<Ui:=by have:=r.un;lia
noncomputable def Fm:TA:=λ_ H Q=>Q [] H
def Hh(z:TE)(a:TA):TA:=λL H Q=>z L H λx d=>a L d λb g=>Q (x::b) g
variable{a:List Expr}{c:TE}{t:TA}
theorem gj:PA X [] Fm:=λ_ _ _ _ H Q I h=>Y1 ⟨[],H,I,.nil,h⟩
theorem cE(b:PE X e c)(d:PA X a t)(f:b0a X e a:=by rfl):PA X (e::a) (Hh c t):=by
 intro O R s L H Q I h;rw[f];show Pc _ _ (spliced ((OW,Qp e X.env)::Ri O (Pd a X.env))) _ _ s;refine YC (eg (b R s L H _ I h) λu g ⟨x,i,j,r1,o⟩=>?_);exact eg (d O R g L i _ j o) λz n ⟨v,k,l,m,w⟩=>⟨x::v,k,l,.cons r1 m,w⟩
def tTup(t:TA):TE:=λL H Q=>t L H λa d=>a.length<=Pf/\∀p,d p=OO->Q (.ref p) (upd d p (.tup a))
def Kw(t:TA):TE:=λL H Q=>t L H λa d=>a.length<=Pf/\∀p,d p=OO->Q (.ref p) (upd d p (.lst a))
theorem Lo{m}(h:PA X a t):PE X (.Tuple a m O) (tTup t):=by
 intro R s L H Q I j;refine wpAny_Tuple_spliced (eg (h O R s L H _ I j) λc d ⟨f,g,i,r,z,q⟩=>⟨by rw[<-r.length];exact z,?_⟩);have k:g d.heap.objs.size=OO:=i.hok.fresh (O5 _);refine⟨.ref d.heap.objs.size,upd g d.heap.objs.size (.tup f),i.laid (t':=d.toks) (λb u e=>OQ _ e) (O5 _) ?_,rfl,q _ k⟩;exact⟨z,c,r,⟨_,Ph _ rfl,rfl,_,rfl⟩⟩
theorem hZ(h:PA X a t):PE X (.List a O) (Kw t):=by
 intro R s L H Q I j;refine wpAny_List_spliced (eg (h O R s L H _ I j) λc d ⟨f,g,i,r,z,q⟩=>⟨by rw[<-r.length];exact z,?_⟩);have k:g d.heap.objs.size=OO:=i.hok.fresh (O5 _);refine⟨.ref d.heap.objs.size,upd g d.heap.objs.size (.lst f),i.laid (t':=d.toks) (λb u e=>OQ _ e) (O5 _) ?_,rfl,q _ k⟩;exact⟨z,c,0,r,Ph _ rfl⟩
abbrev Sp:=a0k->Hp->VK->XK->Prop
abbrev N_:=a0B->Hp->O3->XK->OX->O3->Prop
structure x0 (P:PN) (w:PV) (K:Pk) (mg:a0j) (base:Qg) (A:Qn) (outer:a0B) (s:O3) (H:Hp):Prop where
 frames:A.frames=on outer
 mod:Mod K mg base
 bs:∀b o,base.get? b=on o->s.heap.get? b=on o/\H b=OO
 bsz:base.objs.size<=s.heap.objs.size
 funs:s.heap.FunFrames base outer
 frf:∀b∈fy outer,H b=OO
 hok:k_ P w H s.heap
 bare:UK s.gens
def CE(a:a0B)(P:PN)(w:PV)(H:Hp)(s:O3)(Q:VK)(u:OX)(b:O3):Prop:=
 ∃v l,b.os=s.os/\UK b.gens/\Un (fy a) [] H l s.heap b.heap/\k_ P w l b.heap/\aO v u/\Q v l
def CR(c:N_)(a:a0B)(P:PN)(w:PV)(H:Hp)(s:O3)(Q:VK)(E:XK)(r:Result)(b:O3):Prop:=
 match r with
 | .ok (.ret u)=>CE a P w H s Q u b
 | .ok _=>False
 | .error e=>c a H s E e b
structure et (P:PN) (w:PV) (K:Pk) (mg:a0j) (base:Qg) (CX:N_) (k:Nat) (f:OS) (fd:Pp) (ps:a0i) (sp:Sp):Prop where
 len:∀vs H Q E,sp vs H Q E->vs.length=ps.length
 run:∀(A:Qn) (outer:a0B) (s:O3) (H:Hp) (args:Args) (us:a0g) (vs:a0k) (Q:VK) (E:XK),ej k A->x0 P w K mg base A outer s H->V8 s fd args (ps.zip us)->aw vs us->sp vs H Q E->
  SC (Pt P w) A (.call (.ref f) args) (CR CX outer P w H s Q E) s
theorem et.mono{P:PN}{w:PV}{K:Pk}{f:OS}(F:et P w K g base CX j f i ps m)(h:j<=k):
  et P w K g base CX k f i ps m:=⟨F.len,λA a s H b c e Q E d=>F.run A a s H b c e Q E (d.mono h)⟩
theorem x0.make{P:PN}{w:PV}{K:Pk}{A:Qn}{s:O3}{H:Hp}(e:x0 P w K j i A g s H)(C:OS)(a:a0g)(d:List (PX×OX)):
  x0 P w K j i (A.under (.builtin "type.__call__" ⟨.ref C::a,d⟩)) g s H:=⟨by first|exact e.frames|(simpa[VV,Code.envs,XH,pushEnvs]using e.frames),e.mod,e.bs,e.bsz,e.funs,e.frf,e.hok,e.bare⟩
variable{a:O3}
theorem cp.env0(I:cp X R L H s):x0 X.prog X.w X.K X.mg X.base X.A X.stack s H:=
 ⟨I.ok.frames,I.ok.mod,I.bs,O4 I.ok.bsz I.sz,I.stack,I.stkFree,I.hok,I.bare⟩
theorem cp.after{Q:VK}(I:cp X R L H s)(h:CE X.stack X.prog X.w H s Q u a):EP X R L Q u a:=by
 obtain⟨v,l,f,c,n,e,r,q⟩:=h;obtain⟨j,g,d,t,i⟩:=a;obtain rfl:i=s.os:=f;exact⟨v,l,I.call (h':=j) (g':=g) (d':=d) (t':=t) (ch:=[]) n e c (λb z=>Px z (by simp)),r,q⟩
def Hi(a:Sp)(d:a0k)(E:a0r)(t:TA):TE:=λL H Q=>t L H λb g=>a (b++d) g Q (E L)
def ym(C:OS)(m:PX)(b:Sp)(d:a0k)(E:a0r)(z:TE)(t:TA):TE:=λL H Q=>z L H λx g=>∃a dx N,x= .ref a/\g a=on (.ins C dx N)/\N.lookup m=OO/\
 t L g λc i=>b (x::(c++d)) i Q (E L)
def cA(K:Pk)(d:Pp)(b:a0i)(c:a0g):Prop:=
 ∀(s:O3) (a:a0g),K.In s.heap->(a++c).length=b.length->V8 s d ⟨a,[]⟩ (b.zip (a++c))
theorem cA.all{K:Pk}{a:a0i}(h:∀us:a0g,us.length=a.length->bindArgs g ⟨us,[]⟩=Rh (a.zip us)):cA K g a []:=λs us _ d=>by
 rw[PU]at d⊢;exact .of_eq (h us d)
def bV(b:N_)(X:Cx)(E:a0r):Prop:=∀(R:a0b) (L:St) (H:Hp) (s:O3) (e:OX) (a:O3),cp X R L H s->b X.stack H s (E L) e a->X.xe e a
end
section
variable{X:Cx}{CX:N_}{k:Nat}{f C:OS}{fd:Pp}{ps:a0i}{sp:Sp}{Y:a0k}{ds:a0g}{E:a0r}{x m:PX}{p z Z:Uh}{e o:Expr}{es:List Expr}{ta:TE}{t:TA}
theorem qy(F:et X.prog X.w X.K X.mg X.base CX k f fd ps sp)(c:ej k X.A)(d:cA X.K fd ps ds)(m:aw Y ds)(g:bV CX X E)
  (I:cp X l j H s) (r:aw vs us) (h:sp (vs++Y) H Q (E j)):Pc (Pt X.prog X.w) X.A (Vg (.ref f) us) (EP X l j Q) X.xe s:=by
 have b:aw (vs++Y) (us++ds):=r.append m;have i:(us++ds).length=ps.length:=by rw[<-b.length];exact F.len _ _ _ _ h
 refine U8 (Ti (F.run X.A X.stack s H ⟨us,[]⟩ (us++ds) (vs++Y) Q (E j) c I.env0 (d s us I.kIn i) b h) λr o a=>?_);cases r with
 |error e=>exact g l j H s e o I a
 |ok fl=>
  cases fl with
  |ret u=>exact I.after a
  |next=>exact Rk a
  |brk=>exact Rk a
  |cont=>exact Rk a
theorem oi(F:et X.prog X.w X.K X.mg X.base CX k f fd ps sp)(g:ej k X.A)(i:Gl X x)(m:X.mg x=on (.ref f))(j:U7 X.K (.ref f)=OT)(l:cA X.K fd ps ds)(o:aw Y ds)(n:bV CX X E)
  (C:PA X (e::es) t) (b:b0c x:=by decide) (u:b0a X e es:=by rfl) (c:b0b X z es:=by rfl):
  PE X (.Call (.Name x p) (e::es) [] z) (Hi sp Y E t):=by
 intro a s v H Q I h;refine TY (iU I i m ?_ b);refine X4 (h₀:=X.base) I.ok.mod.kin j (eg (C z a s v H _ I h) λD y ⟨G,B,d,r,q⟩=>⟨d.kIn,?_⟩) u c;exact qy F g l o n d r q
theorem Jn(v:PE X o ta)(c:t7 X.K C)(p:p3 X.K C m f)(F:et X.prog X.w X.K X.mg X.base CX k f fd ps sp)(y:ej k X.A)(B:cA X.K fd ps ds)(D:aw Y ds)(J:bV CX X E)(G:PA X (e::es) t)
  (d:b0a X e es:=by rfl) (g:b0b X z es:=by rfl)
  (L:Qp (.Call (.Attribute o m Z) (e::es) [] z) X.env=(do
   let W <-Qp o X.env
   Sk Z.atName
   let (f,first) <-Tj [W] (UY W m pl)
   WT z f first (Ri z (Pd (e::es) X.env)) (Sj z (Rb [] X.env))):=by rfl):
  PE X (.Call (.Attribute o m Z) (e::es) [] z) (ym C m sp Y E ta t):=by
 intro b s i H Q I h;refine Ws (pl:=pl) (eg (v b s i H _ I h) λu N ⟨x,O,j,P,a,V,fs,M,R,l,q⟩=>?_) L;subst M;obtain rfl:u=Pi a:=P;refine qY j R c p l ?_;refine X4 (first:=[.ref a]) (h₀:=X.base) I.ok.mod.kin p.kp (eg (G z b N i O _ j q) λus T ⟨vs,U,n,r,S⟩=>⟨n.kIn,?_⟩) d g
 exact qy (us:= .ref a::us) (vs:= .ref a::vs) F y B D J n (.cons rfl r) S
theorem FU(g:PE X o ta)(c:t7 X.K C)(e:p3 X.K C m f)(F:et X.prog X.w X.K X.mg X.base CX k f fd ps sp)(i:ej k X.A)(j:cA X.K fd ps ds)(p:aw Y ds)(n:bV CX X E)
  (r:Qp (.Call (.Attribute o m Z) [] [] z) X.env=(do
   let N <-Qp o X.env
   Sk Z.atName
   let (f,first) <-Tj [N] (UY N m pl)
   WT z f first (Ri z (Pd [] X.env)) (Sj z (Rb [] X.env))):=by rfl):
  PE X (.Call (.Attribute o m Z) [] [] z) (ym C m sp Y E ta Fm):=by
 intro b s v H Q I h;refine Ws (pl:=pl) (eg (g b s v H _ I h) λu J ⟨x,L,d,y,a,D,G,t,B,l,q⟩=>?_) r;subst t;obtain rfl:u=Pi a:=y;refine qY d B c e l ?_;exact PySem.W.callWith_K0 (first:=[.ref a]) d.kIn e.kp (qy (us:=[.ref a]) (vs:=[.ref a]) F i j p n d (.cons rfl .nil) q)
structure Mk (K:Pk) (C f:OS):Prop where
 makes:Za K C=OT
 init:RX K (.ref C) "__init__"=on (on (.ref f))
 fn:isFn K (.ref f)=OT
 kp:U7 K (.ref C)=OT
def PK(X:Cx)(b:List Wc)(t:TA):Prop:=
 ∀(z:Uh) (a:a0b) (s:O3) (c:St) (H:Hp) (Q:a0k->Hp->Prop),cp X a c H s->t c H Q->Pc (Pt X.prog X.w) X.A (evalAll ((Sj z (Rb b X.env)).map (·.2))) (AP X a c Q) X.xe s
variable{a:a0i}{k:Uh}{f:List Wc}{m:TE}{o:TA}{A:Option PX}
theorem Lh:PK X [] Fm:=λ_ _ _ _ H Q I h=>wpAny_evalAll_nil ⟨[],H,I,.nil,h⟩
theorem Ji(o:PE X e m)(c:PK X f t):PK X (⟨A,e,k⟩::f) (Hh m t):=by
 intro z a s b H Q I h;show Pc _ _ (evalAll ((do let v <-Qp e X.env;Sk z;Rh v)::(Sj z (Rb f X.env)).map (·.2))) _ _ s
 refine wpAny_evalAll_cons (My (eg (o a s b H _ I h) λu d ⟨x,g,i,r1,p⟩=>My (QK (OP ?_))));exact eg (c z a d b g _ i p) λE q ⟨C,j,l,n,D⟩=>⟨x::C,j,l,.cons r1 n,D⟩
structure Ic (K:Pk) (fd:Pp) (ps a:a0i) (g:a0g->a0g->a0g) (gV:a0k->a0k->a0k):Prop where
 to:∀(s:O3) (us ws:a0g),K.In s.heap->(g us ws).length=ps.length->V8 s fd ⟨us,a.zip ws⟩ (ps.zip (g us ws))
 rel:∀{vs:a0k} {us:a0g} {zs:a0k} {ws:a0g},aw vs us->aw zs ws->aw (gV vs zs) (g us ws)
variable{g:a0g->a0g->a0g}{a:a0k->a0k->a0k}
structure b5 (N P:a0i) (sc:Scope):Prop where
 kind:sc.kind= .function
 co:sc.isCoroutine=OW
 gen:sc.isGenerator=OW
 nd:N.Nodup
 pre:N.take P.length=P
 par:∀x∈P,sc.names.lookup x=on .local\/sc.names.lookup x=on .cell
 nofree:∀y∈sc.names,y.2≠ .free
theorem ua{b:PX->Option S7}{x:PX}:∀{a:List (PX×OX)} {m:a0j},(∀v,(x,v)∉a)->Zg b a m x=m x
 |[],_,_=>rfl
 |(n,v)::r,m,h=>by
  unfold Zg;rw[ua λw c=>h w (OR _ c)];split
  .have:x≠n:=by rintro rfl;exact h v OZ
   simp[this]
  .rfl
theorem uc{b:PX->Option S7}{x:PX}:∀{a:List (PX×OX)} {m:a0j},(∀v,(x,v)∉a)->Zf b a m x=m x
 |[],_,_=>rfl
 |(n,v)::r,m,h=>by
  unfold Zf;rw[uc λw c=>h w (OR _ c)];split
  .rfl
  .have:x≠n:=by rintro rfl;exact h v OZ
   simp[this]
theorem ub{a:PX->Option S7}{x:PX}{v:OX}:∀{P:a0i} {e:a0g} {i:Nat} {m:a0j},P.Nodup->P[i]?=on x->e[i]?=on v->a x=on .local->
  Zg a (P.zip e) m x=on v
 |[],_,_,_,_,h,_,_=>by simp at h
 |_::_,[],_,_,_,_,h,_=>by simp at h
 |p::P,w::e,0,m,nd,h1,h2,hk=>by
  simp at h1 h2;subst h1;subst h2;show Zg a ((p,w)::P.zip e) m p=_;unfold Zg;rw[ua λv b=>(P7.mp nd).1 (WI b).1,O0 hk];simp
 |p::P,w::e,i+1,m,nd,h1,h2,hk=>by
  show Zg a ((p,w)::P.zip e) m x=_;unfold Zg;exact ub (i:=i) (P7.mp nd).2 (by simpa using h1) (by simpa using h2) hk
theorem ud{a:PX->Option S7}{x:PX}{v:OX}:∀{P:a0i} {e:a0g} {i:Nat} {m:a0j},P.Nodup->P[i]?=on x->e[i]?=on v->a x≠on .local->
  Zf a (P.zip e) m x=on v
 |[],_,_,_,_,h,_,_=>by simp at h
 |_::_,[],_,_,_,_,h,_=>by simp at h
 |p::P,w::e,0,m,nd,h1,h2,hk=>by
  simp at h1 h2;subst h1;subst h2;show Zf a ((p,w)::P.zip e) m p=_;unfold Zf;rw[uc λv b=>(P7.mp nd).1 (WI b).1,O1 hk];simp
 |p::P,w::e,i+1,m,nd,h1,h2,hk=>by
  show Zf a ((p,w)::P.zip e) m x=_;unfold Zf;exact ud (i:=i) (P7.mp nd).2 (by simpa using h1) (by simpa using h2) hk
noncomputable def fL(N:a0i)(a:a0k):St:=a.map on++Pn (N.length-a.length) OO
noncomputable def c9(CX:N_)(P:PN)(w:PV)(K:Pk)(mg:a0j)(base:Qg)(N:a0i)(a:PX)(g:Scope)(f:OS)(k:OX)(A:Qn)(outer:a0B)(s:O3)(H:Hp)(E:XK):Cx where
 prog:=P
 w:=w
 K:=K
 mg:=mg
 base:=base
 A:=A.deeper (TV a g s.heap.objs.size f k)
 N:=N
 s₀:=s
 H₀:=H
 env:=TV a g s.heap.objs.size f k
 outer:=outer
 stack:=TV a g s.heap.objs.size f k::outer
 ex:=[]
 calm:=OT
 fn:=λ_=>OT
 pn:=[]
 xe:=λe m=>Pc (Pt P w) (A.deeper (TV a g s.heap.objs.size f k)) (leaving (TV a g s.heap.objs.size f k) e) (λ_ b=>CX outer H s E e b) (λc b=>CX outer H s E c b) m
theorem wA{a:Scope}{x:PX}(h:a.names.lookup x=on .cell):∃c,(Q7 n a.names []).lookup x=on c:=by
 have q:=X6 a.names n [] (.inl h);exact W7.mp q
theorem DL{CX:N_}{K:Pk}{N ps:a0i}{g:Scope}{f:OS}{A:Qn}{s L:O3}{E:XK}{m:a0k}
  (S:b5 N ps g) (t:A.handled=OO) (j:x0 P w K mg base A outer s H) (U:m.length=ps.length) (r:aw m us)
  (x:InCallC s s.heap.objs.size (Zg (TV qual g s.heap.objs.size f cd).kindOf (ps.zip us) λ_=>OO) (Q7 (s.heap.objs.size+1) g.names []) (Zf (TV qual g s.heap.objs.size f cd).kindOf (ps.zip us) λ_=>OO) L):
  cp (c9 CX P w K mg base N qual g f cd A outer s H E) [] (fL N m) H L:=by
 have R:ps.length<=N.length:=by have:=Qo UM S.pre;rw[Q2]at this;lia
 obtain⟨I,o,rfl,O⟩:=x.done;have l:∀b:OS,b∉(c9 CX P w K mg base N qual g f cd A outer s H E).ex:=λb z=>Px (show b∈([]:a0p)from z) (by simp);refine⟨⟨j.mod,S.kind,rfl,rfl,O5 _,λy z c I d=>?_,λy hy=>?_,λy c _ h=>?_,λ_=>t,Around.frames_deeper j.frames,.inr ⟨rfl,rfl⟩,λb z=>Px z (l b),j.bs,j.bsz,λb _ _=>l b,λb z=>Px z (l b),j.funs,j.frf⟩,
  rfl,j.bare,Un.kept O,⟨_,x.toInCall.ns,λi y v I d W=>?_⟩,λy c h=>⟨_,x.cell y c h⟩,j.hok.fresh (O5 _),λy c h=>?_,λp B=>Px (show p∈([]:a0b)from B) (by simp),j.hok.kept O,?_⟩
 .exact name_of_addr x.apart (QJ I) (QJ d)
 .have hy:g.names.lookup y=on .cell\/g.names.lookup y=on .free:=hy
  rcases hy with hy|hy
  .exact wA hy
  .exact Px rfl (S.nofree _ (QJ hy))
 .exact Vp (x.above y c (QJ h))
 .have J:i<m.length:=by
   unfold fL at d;by_cases J:i<m.length
   .exact J
   .rw[Rm (by simpa using J)]at d
    rw[RJ]at d;split at d<;>cases d
  have C:m[i]?=on v:=by
   unfold fL at d;rw[S3 (by simpa using J),OY]at d;cases e:m[i]? with
   |none=>rw[e]at d;cases d
   |some a=>rw[e]at d;cases d;rfl
  obtain⟨u,Q,T⟩:=r.get C;have B:ps[i]?=on y:=by
   rw[<-S.pre,Xo (by lia)];exact I
  have F:ps.Nodup:=by rw[<-S.pre];exact S.nd.sublist (List.take_sublist _ _)
  refine⟨u,T,?_⟩;rcases S.par y (Pj B)with k|k
  .exact .inl ⟨k,ub F B Q k⟩
  .obtain⟨c,e⟩:=wA (n:=s.heap.objs.size+1) k
   refine .inr ⟨.inl k,c,e,?_⟩;have q:=x.cell y c e;rw[ud F B Q (by show g.names.lookup y≠_;rw[k];decide)]at q;exact q
 .exact j.hok.fresh (Vp (x.above y c (QJ h)))
 .unfold fL
  show _=N.length;rw[Pl,ON,Q8];lia
theorem Ii{CX:N_}{K:Pk}{k:Nat}{f:OS}
  {N ps:a0i} {sp:Sp} (U:K.lookup f=on ⟨oc,od,.func (Tu name qual params body scope dV kV doc pm an cdv ct),osl⟩) (B:Um K cdv qual=OT) (S:b5 N ps scope)
  (z:∀m H Q E,sp m H Q E->m.length=ps.length)
  (d:∀(A:Qn) (g:a0B) (s:O3) (H:Hp) (m:a0k) (Q:VK) (E:XK),ej k (A.deeper (TV qual scope s.heap.objs.size f cdv))->sp m H Q E->
   ∃t,PSs (c9 CX P w K mg base N qual scope f cdv A g s H E) body t/\t {nx:=λ_ c=>Q .non c,rt:=Q} (fL N m) H):
  et P w K mg base CX (k+1) f (Tu name qual params body scope dV kV doc pm an cdv ct) ps sp:=by
 refine⟨z,λA g s H D G m Q E F i Y r j=>?_⟩;have Z:=z _ _ _ _ j;have R:K.In s.heap:=i.mod.kin.keeps λb o e=>(i.bs b o e).1;have L:s.heap.NoLimit:=i.mod.nolimit.keeps λb o e=>(i.bs b o e).1;have h:∀y∈ps.zip G,scope.names.lookup y.1=on .local\/(scope.names.lookup y.1=on .cell/\((Q7 (s.heap.objs.size+1) scope.names []).lookup y.1).isSome=OT):=λ⟨n,v⟩ M=>by
  rcases S.par n (WI M).1 with q|q
  .exact .inl q
  .exact .inr ⟨q,X6 _ _ _ (.inl q)⟩
 refine codeAny_call_function F.depth (R _ _ U) rfl S.co S.gen rfl (PySem.W.codeRec_of R B) (Y _ _ _ _ ?_);refine wpAny_newFunctionEnv_cells S.kind h λX he T x=>?_;subst he;refine⟨L.keeps x.toInCall.keep,codeAny_func ?_⟩;obtain⟨t,ht,hq⟩:=d A g s H m Q E (F.deeper _) j;have I:cp (c9 CX P w K mg base N qual scope f cdv A g s H E) [] (fL N m) H T:=DL S F.hd i Z r x;refine P5 (ht [] T (fL N m) H _ I hq) (λfl C p=>?_) λe C p=>p;have l:∀{a:St} {c:Hp} {v:V} {u:OX},cp (c9 CX P w K mg base N qual scope f cdv A g s H E) [] a c C->aO v u->Q v c->CE g P w H s Q u C:=
  λ{a c v u} J O q=>⟨v,c,J.os,J.bare,J.base,J.hok,O,q⟩
 cases fl with
 |ret u=>
  obtain⟨v,a,c,J,O,q⟩:=p;exact l J O q
 |next=>
  obtain⟨a,c,J,q⟩:=p;exact l (v:=V.non) (u:=P8) J rfl q
 |brk=>
  obtain⟨_,_,_,q⟩:=p;exact Rk q
 |cont=>
  obtain⟨_,_,_,q⟩:=p;exact Rk q
variable{f T:String}{r:a0M}
def tCB(r:a0M)(t:TA):TE:=λa H Q=>t a H λe b=>r e b Q
theorem lC(hc:cM X (.builtin f) r)(i:Gl X x)(g:X.mg x=OO)(j:Th x=on (.builtin f))(k:PA X (e::es) t)(m:x≠"__name__":=by decide)(b:b0c x:=by decide)
  (l:b0a X e es:=by rfl) (c:b0b X z es:=by rfl):PE X (.Call (.Name x p) (e::es) [] z) (tCB r t):=by
 intro a s d H Q I h;refine TY (fK I i g j ?_ m b);exact VB (eg (k z a s d H _ I h) λo n ⟨A,q,u,r1,C⟩=>hc a n d q A o Q u r1 C) l c
theorem CA(hc:cM X (.type T) r)(i:Gl X x)(f:X.mg x=OO)(j:Th x=on (.type T))(g:PA X (e::es) t)(k:x≠"__name__":=by decide)(b:b0c x:=by decide)
  (l:b0a X e es:=by rfl) (c:b0b X z es:=by rfl):PE X (.Call (.Name x p) (e::es) [] z) (tCB r t):=by
 intro a s d H Q I h;refine TY (fK I i f j ?_ k b);exact QS (eg (g z a s d H _ I h) λm n ⟨o,q,u,r1,A⟩=>hc a n d q o m Q u r1 A) l c
end
end L2
namespace HT
section
open PySem.SeqAt
open PySem.AutoSeq1 (wpAny_loadPart')
open PySem.MeetsSeq PySem.MeetsSeq2 PySem.MeetsSeq3
end
section
variable{x:PN}{w:PV}{A:Qn}{E:a0d}{s:O3}
theorem cat_tup{D a:a0g}(q:IsTup s.heap t D.toArray)(r:IsTup s.heap b a.toArray)(m:D≠[])
  (u:a=[]->Q (.ref t) s) (v:a≠[]->Q (.ref s.heap.objs.size) {s with heap:=s.heap.push {cls:= .type "tuple",data:= .seq (D++a).toArray}})
  (k:D.length+a.length<=Pf):Pc (Pt x w) A (R9 .Add (.ref t) (.ref b)) Q E s:=by
 obtain⟨⟨cls,G,data,K⟩,i,hc,n,M⟩:=id q;obtain⟨⟨o,d,l,f⟩,c,g,p,h⟩:=id r;simp only at hc M g h;subst hc M g h;have e:D.toArray++a.toArray=(D++a).toArray:=by simp
 by_cases j:a=[]
 .exact concat_meets ⟨_,i,rfl⟩ ⟨_,c,rfl⟩ Xj YW U3 US (UE _ _)
   (tuple_addW1 t b D.toArray a.toArray n p G d K f (by simpa using m) (by simp[j])) ⟨i,c,u j⟩
 .refine concat_meets ⟨_,i,rfl⟩ ⟨_,c,rfl⟩ Xj YW U3 US (UE _ _)
   (tuple_addW2 t b D.toArray a.toArray n p G d K f (by simpa using m) (by simpa using j) (by rw[Pr,Pr];exact k)) ⟨i,c,?_⟩
  rw[e];exact v j
noncomputable def sIx(n d:Nat):a0v->Nat
 |none=>d
 |some v=>if v<0 then(v+(n:Int)).toNat else RT v.toNat n
theorem sIx_none(n d:Nat):sIx n d OO=d:=rfl
theorem sIx_nat(n d k:Nat):sIx n d (on (k:Int))=RT k n:=by
 show(if(k:Int)<0 then((k:Int)+(n:Int)).toNat else RT (k:Int).toNat n)=RT k n;rw[O1 (by lia),QN]
end
end HT
namespace L2
abbrev TO:=St->Hp->(a0v->Hp->Prop)->Prop
def PO(X:Cx)(e:Option Expr)(t:TO):Prop:=
 ∀(a:a0b) (s:O3) (b:St) (H:Hp) (Q:a0v->Hp->Prop),cp X a b H s->t b H Q->
  Pc (Pt X.prog X.w) X.A (evalPart e X.env) (λu D=>∃o c,cp X a b c D/\IsPart u o/\Q o c) X.xe s
noncomputable def IO:TO:=λ_ H Q=>Q OO H
def Nf(t:TE):TO:=λa H Q=>t a H λx b=>∃i,x= .int i/\Q (on i) b
theorem lL{D:a0e}:∀{E:a0g},aw (D.map V.int) E->XI E D:=by
 induction D with
 |nil=>intro E r;rw[Sz]at r;cases r;exact .nil
 |cons n D G=>
  intro E r;rw[O9]at r;cases r with
  |cons r1 a=>
   obtain⟨t,e⟩:=r1;subst e;exact .cons n t (G a)
section
variable{X:Cx}{e:Expr}{te:TE}{Y Z:Option Expr}{tl th:TO}{aa p2:Uh}
theorem xv:PO X OO IO:=by
 intro a s b H Q I h;rw[YU];exact OP ⟨OO,H,I,.none,h⟩
theorem xu(h:PE X e te):PO X (on e) (Nf te):=by
 intro a s b H Q I c;rw[evalPart_some];refine eg (h a s b H _ I c) λu g ⟨x,d,f,r1,D⟩=>?_;obtain⟨i,rfl,q⟩:=D;obtain⟨t,rfl⟩:=r1;exact⟨on i,d,f,.int i t,q⟩
def SlR(X:Cx)(r:V->a0v->a0v->Hp->VK->Prop):Prop:=
 ∀(a:a0b) (s:O3) (b:St) (H:Hp) (x:V) (v c d:OX) (Y Z:a0v) (e:OS) (Q:VK),cp X a b H s->aO x v->s.heap.IsSliceOf e c d .none->IsPart c Y->IsPart d Z->r x Y Z H Q->
  ∃T f,typeLookup (.type T) "__getitem__"=Rh (on (.builtin f))/\s.TypeIs v T/\Pc (Pt X.prog X.w) X.A (getItem v (.ref e)) (EP X a b Q) X.xe s
def tSl(r:V->a0v->a0v->Hp->VK->Prop)(te:TE)(tl th:TO):TE:=λa H Q=>te a H λx b=>tl a b λl c=>th a c λu d=>r x l u d Q
theorem vC(j:SlR X r)(k:PE X e te)(m:PO X Y tl)(n:PO X Z th):PE X (.Subscript e (.Slice Y Z OO p2) aa) (tSl r te tl th):=by
 intro a s d H Q I h;refine Subscript_ (eg (k a s d H _ I h) λv o ⟨x,p,t,r1,D⟩=>?_);refine wpAny_Slice (eg (m a o d p _ t D) λf y ⟨l,B,C,E,G⟩=>eg (n a y d B _ C G) λg c ⟨u,i,F,J,K⟩=>?_);rw[YU];refine OP ?_;have L:cp X a d i {c with heap:=c.heap.push {cls:= .type "slice",data:= .fields #[f,g,.none]}}:=F.kept (t':=c.toks) λb R q=>OQ _ q;obtain⟨T,U,N,O,P⟩:=j a {c with heap:=c.heap.push {cls:= .type "slice",data:= .fields #[f,g,.none]}} d i x v f g l u c.heap.objs.size Q L r1 (WD ..) E J K;show Pc (Pt X.prog X.w) X.A (YX e (.Slice Y Z OO p2) v (.ref c.heap.objs.size)) (EP X a d Q) X.xe {c with heap:=c.heap.push {cls:= .type "slice",data:= .fields #[f,g,.none]}};exact tail_any (ops:=[.ref c.heap.objs.size,v]) O N P (by with_unfolding_all rfl)
noncomputable def nh(e:a0k)(Y Z:a0v):a0k:=(e.drop (HT.sIx e.length 0 Y)).take (HT.sIx e.length e.length Z-HT.sIx e.length 0 Y)
theorem wM(e:a0k)(Y Z:a0v):(nh e Y Z).length<=e.length:=by
 unfold nh;rw[Q2,List.length_drop];lia
def yD(K:Pk):R2:=λx y H Q=>∃a b D e,x= .ref a/\y= .ref b/\io K H a D/\io K H b e/\D≠[]/\D.length+e.length<=Pf/\
 (e=[]->Q (.ref a) H)/\(e≠[]->∀p,H p=OO->Q (.ref p) (upd H p (.tup (D++e))))
theorem aw.nil_iff(r:aw a b):b=[]↔a=[]:=by
 cases r with
 |nil=>simp
 |cons _ _=>simp
theorem Jt:gt X (R9 .Add) (yD X.K):=by
 intro d s n H x y v u Q I i j h;obtain⟨a,b,e,D,rfl,rfl,E,k,l,f,G,M⟩:=h;cases i;cases j;obtain⟨S,r1,m,_⟩:=I.tuple E;obtain⟨g,c,p2,_⟩:=I.tuple k;refine HT.cat_tup m p2 (λz=>l (r1.nil_iff.mp z)) (λz=>⟨.ref a,H,I,rfl,G (c.nil_iff.mp z)⟩) (λz=>?_) (by rw[<-r1.length,<-c.length];exact f);refine⟨.ref s.heap.objs.size,_,I.laid (t':=s.toks) (o:= .tup (e++D)) (λb p q=>OQ _ q) (O5 _) ?_,rfl,M (λw=>z (c.nil_iff.mpr w)) _ (I.hok.fresh (O5 _))⟩;exact⟨by rw[Pl];exact f,_,r1.append c,Zo _ _⟩
noncomputable def s9(n:Nat)(i:Int):a0G:=if 0<=i then(if i<n then on i.toNat else OO)else if -(n:Int)<=i then on (i+n).toNat else OO
def v_{e:Type}(xs:List e)(i:Int):Option e:=(s9 xs.length i).bind λj=>xs[j]?
theorem xJ(h:s9 n i=on j):seqIndex? i n=on j/\j<n/\-(n:Int)<=i/\i<n:=by
 unfold s9 at h;by_cases b:0<=i
 .rw[O0 b]at h
  by_cases a:i<n
  .rw[O0 a]at h
   have e:i.toNat=j:=PH h;exact⟨by rw[seqIndex_of b a,e],by lia,by lia,a⟩
  .rw[O1 a]at h;cases h
 .rw[O1 b]at h
  by_cases a:-(n:Int)<=i
  .rw[O0 a]at h
   have e:(i+n).toNat=j:=PH h;exact⟨by rw[ZC (by lia) a,e],by lia,a,by lia⟩
  .rw[O1 a]at h;cases h
theorem x8{E:Type}{D:List E}{i:Int}{v:E}(h:v_ D i=on v):∃j,seqIndex? i D.length=on j/\D[j]?=on v/\j<D.length/\-(D.length:Int)<=i/\i<D.length:=by
 unfold v_ at h;cases e:s9 D.length i with
 |none=>rw[e]at h;cases h
 |some j=>
  rw[e]at h;obtain⟨a,b,c,d⟩:=xJ e;exact⟨j,a,h,b,c,d⟩
theorem Kc{E:Type}{D:List E}{j:Nat}{v:E}(h:D[j]?=on v):v_ D (j:Int)=on v:=by
 have a:j<D.length:=(Pa.mp h).1;have e:s9 D.length (j:Int)=on j:=by
  unfold s9;rw[O0 (by lia),O0 (by lia)];simp
 unfold v_;rw[e];exact h
def yb(b:Expr):Prop:=∀o i,subscripted b OW o i=operate [o,i] (getItem o i)
def L_(X:Cx)(r:R2):Prop:=
 ∀(c a:Expr) (b:a0b) (s:O3) (d:St) (H:Hp) (x y:V) (v u:OX) (Q:VK),cp X b d H s->aO x v->aO y u->r x y H Q->
  subscripted a OW v u=operate [v,u] (getItem v u)->Pc (Pt X.prog X.w) X.A (YX c a v u) (EP X b d Q) X.xe s
def MtR(X:Cx)(c:String)(r:a0P):Prop:=
 ∀(a:a0b) (s:O3) (b:St) (H:Hp) (x:V) (e:a0k) (v:OX) (D:a0g) (Q:VK),cp X a b H s->aO x v->aw e D->r x e H Q->
  Pc (Pt X.prog X.w) X.A (Vg (.builtin c) (v::D)) (EP X a b Q) X.xe s
variable{a b:Expr}{C B:TE}
theorem L_.or(h:L_ X r)(b:L_ X k):L_ X (λx y H Q=>r x y H Q\/k x y H Q):=by
 intro c d f s g H x y v u Q I i j q a;rcases q with q|q
 .exact h c d f s g H x y v u Q I i j q a
 .exact b c d f s g H x y v u Q I i j q a
theorem gN(d:L_ X r)(e:PE X a C)(f:PE X b B)(D:yb b):PE X (.Subscript a b aa) (ZZ r C B):=by
 intro c s g H Q I h;exact Subscript_ (GW e f I h λv u i x y j k l m q=>d a b c i g j x y v u Q k l m q (D _ _))
def yC(K:Pk):R2:=λx y H Q=>∃p a i v,x= .ref p/\y= .int i/\fx K H p a/\v_ a i=on v/\Q v H
def FG(K:Pk):R2:=λx y H Q=>∃p a i v,x= .ref p/\y= .int i/\io K H p a/\v_ a i=on v/\Q v H
theorem eD:L_ X (yC X.K):=by
 intro g k c s n H x y v u Q I B C h e;obtain⟨p,E,i,z,rfl,rfl,F,J,q⟩:=h;cases B;obtain⟨t,rfl⟩:=C;obtain⟨a,r,b,P⟩:=I.list F;obtain⟨j,f,L,R,N,h5⟩:=x8 J;obtain⟨w,o,l⟩:=r.get L;have O:=r.length;have G:=mQ;have d:EP X c n Q w s:=⟨z,H,I,l,q⟩;by_cases A:0<=i
 .have m:i.toNat=j:=by
   rw[seqIndex_of A h5]at f;exact PH f
  exact item_listR b.isList A (by lia) (by rw[m];simpa using o) d e
 .have m:(i+(a.toArray.size:Int)).toNat=j:=by
   rw[ZC (by lia) N]at f;rw[Pr,<-O];exact PH f
  exact VI (x:=w) b.isList.typeIs slot_list_getitem.lookup
   (wpAny_getItem_list_neg (Q:=λr D=>r=w/\EP X c n Q r D) b.isList (by lia) (by rw[Pr]<;>lia) (by lia) (by rw[m];simpa using o) ⟨rfl,d⟩) e
theorem Mq:L_ X (FG X.K):=by
 intro d f c s l H x y v u Q I m n h b;obtain⟨p,E,i,z,rfl,rfl,o,A,q⟩:=h;cases m;obtain⟨t,rfl⟩:=n;obtain⟨e,r,a,L⟩:=I.tuple o;obtain⟨j,B,C,N,O,h5⟩:=x8 A;obtain⟨w,F,g⟩:=r.get C;have J:=r.length;have G:=mQ;have k:EP X c l Q w s:=⟨z,H,I,g,q⟩;exact VI (x:=w) a.typeIs slot_tuple_getitem.lookup
  (getItem_tuple (j:=j) (Q:=λr D=>r=w/\EP X c l Q r D) a (by lia) (by lia) (by rw[Pr,<-J];exact B) (by simpa using F) ⟨rfl,k⟩) b
theorem yT(a:a0g)(n j:Nat)(u:OX):Q6 (·.setIfInBounds j u) {cls:= .type "list",data:= .seq a.toArray n}={cls:= .type "list",data:= .seq (a.set j u).toArray n}:=by
 simp[Q6]
theorem cp.lst{s:O3}{xs:a0k}(I:cp X c d H s)(h:H p=on (.lst xs)):
  ∃(a:a0g) (n:Nat),aw xs a/\s.heap.get? p=on {cls:= .type "list",data:= .seq a.toArray n}/\xs.length<=Pf:=by
 obtain⟨z,a,n,r,e⟩:=I.hok p _ h;exact⟨a,n,r,e,z⟩
theorem cp.lstUpd{s:O3}{D C:a0k}{B a:a0g}(I:cp X j k H s)(h:H p=on (.lst D))
  (d:s.heap.get? p=on {cls:= .type "list",data:= .seq B.toArray n}) (c:f {cls:= .type "list",data:= .seq B.toArray n}={cls:= .type "list",data:= .seq a.toArray n'}) (r:aw C a) (g:C.length<=Pf) (t:Nat):
  cp X j k (upd H p (.lst C)) {s with heap:=s.heap.update p f,toks:=t}:=by
 have e:(s.heap.update p f).get? p=on {cls:= .type "list",data:= .seq a.toArray n'}:=by
  rw[QX f d (by rw[c]<;>rfl),c]
 refine I.write (x:=p) (e:=p) (by rw[h];trivial) (.inl rfl) (λb u i q=>(RP _ _ (Ne.symm i)).trans q) ⟨_,e⟩ ?_;exact⟨g,a,n',r,e⟩
def Hq:V->V->V->Hp->(Hp->Prop)->Prop:=λo i v H Q=>∃p a k j,o= .ref p/\i= .int k/\H p=on (.lst a)/\s9 a.length k=on j/\Q (upd H p (.lst (a.set j v)))
theorem gy:G1 X Hq:=by
 intro c s C H o i v P R u Q I F J L h;obtain⟨p,b,k,j,rfl,rfl,m,N,q⟩:=h;cases F;obtain⟨t,rfl⟩:=J;obtain⟨a,n,r,f,O⟩:=I.lst m;obtain⟨d,T,w,y⟩:=xJ N;have g:=r.length;have e:=mQ;have A:cp X c C (upd H p (.lst (b.set j v))) {s with heap:=s.heap.update p (Q6 (·.setIfInBounds j u))}:=
  I.lstUpd m f (yT a n j u) (r.set L j) (by rw[QG];exact O) s.toks
 by_cases B:0<=k
 .have l:k.toNat=j:=by
   rw[seqIndex_of B y]at d;exact PH d
  exact PySem.W.ki_setAt f B (by lia) (by rw[Pr,<-g];exact y) (by rw[l];exact⟨_,A,q⟩)
 .have l:(k+(a.toArray.size:Int)).toNat=j:=by
   rw[ZC (by lia) w]at d;rw[Pr,<-g];exact PH d
  exact PySem.W.ki_setBack f (by lia) (by rw[Pr,<-g];exact w) (by lia) (by rw[l];exact⟨_,A,q⟩)
theorem u7(Y Z:a0v)(n:Nat):(S8 Y Z OO n).1=((HT.sIx n 0 Y:Nat):Int)/\(S8 Y Z OO n).2.1=((HT.sIx n n Z:Nat):Int)/\(S8 Y Z OO n).2.2=1:=by
 refine⟨?_,?_,rfl⟩
 .cases Y with
  |none=>simp[S8,HT.sIx]
  |some i=>
   simp only[S8,HT.sIx,Y5,show(1:Int)>0 by decide,Qm];by_cases h:i<0
   .simp only[h,Qm]<;>lia
   .simp only[h,Qq]<;>lia
 .cases Z with
  |none=>simp[S8,HT.sIx]
  |some i=>
   simp only[S8,HT.sIx,Y5,show(1:Int)>0 by decide,Qm];by_cases h:i<0
   .simp only[h,Qm]<;>lia
   .simp only[h,Qq]<;>lia
theorem ug(a:a0g)(Y Z:a0v):Zl a.toArray Y Z OO=((a.drop (HT.sIx a.length 0 Y)).take (HT.sIx a.length a.length Z-HT.sIx a.length 0 Y)).toArray:=by
 obtain⟨c,d,f⟩:=u7 Y Z a.toArray.size;unfold Zl;rw[c,d,f];simp only[sliceRange_one,pick_run,Pr]<;>rfl
def rSlL(K:Pk):V->a0v->a0v->Hp->VK->Prop:=λx Y Z H Q=>∃a b,x= .ref a/\fx K H a b/\∀p,H p=OO->Q (.ref p) (upd H p (.lst (nh b Y Z)))
theorem w8:SlR X (rSlL X.K):=by
 intro d s l H x v m n Y Z E Q I g B C i h;obtain⟨a,e,rfl,j,q⟩:=h;cases g;obtain⟨D,r,f,k⟩:=I.list j;have c:=r.length;refine⟨"list",_,slot_list_getitem.lookup,f.isList.typeIs,?_⟩;refine YY f.isList B C i .none (by simp) ?_ (by rw[Pr]<;>lia)
 rw[ug,<-c];refine⟨.ref s.heap.objs.size,_,I.laid (t':=s.toks) (o:= .lst (nh e Y Z)) (λb p q=>OQ _ q) (O5 _) ?_,rfl,q _ (I.hok.fresh (O5 _))⟩;exact⟨O4 (wM e Y Z) k,_,0,(r.drop (HT.sIx e.length 0 Y)).take (HT.sIx e.length e.length Z-HT.sIx e.length 0 Y),Ph _ rfl⟩
noncomputable def gT:V->Bool
 | .non=>OT
 | .bl _=>OT
 | .int _=>OT
 | .str _=>OT
 |_=>OW
noncomputable def SF:V->V->Bool
 | .non,.non=>OT
 | .bl a,.bl b=>a==b
 | .bl a,.int b=>(if a then 1 else 0)==b
 | .int a,.bl b=>a==(if b then 1 else 0)
 | .int a,.int b=>a==b
 | .str a,.str b=>a==b
 |_,_=>OW
theorem MH(d:aO y u)(c:aO x v)(g:gT y=OT)(f:gT x=OT):SeqAt.EqAt A s u v (SF y x):=by
 cases y with
 |non=>
  cases d;cases x with
  |non=>cases c;exact SeqAt.EqAt.same _
  |bl b=>cases c;exact SeqAt.EqAt.none_bool b
  |int b=>obtain⟨t,rfl⟩:=c;exact SeqAt.EqAt.none_int b t
  |str b=>obtain⟨t,rfl⟩:=c;exact SeqAt.EqAt.none_str b t
  |_=>exact Px (show OW=OT from f) O8
 |bl a=>
  cases d;cases x with
  |non=>cases c;exact SeqAt.EqAt.bool_none a
  |bl b=>cases c;exact SeqAt.EqAt.bool_bool a b
  |int b=>obtain⟨t,rfl⟩:=c;exact SeqAt.EqAt.bool_int a b t
  |str b=>obtain⟨t,rfl⟩:=c;exact SeqAt.EqAt.bool_str a b t
  |_=>exact Px (show OW=OT from f) O8
 |int a=>
  obtain⟨e,rfl⟩:=d;cases x with
  |non=>cases c;exact SeqAt.EqAt.int_none a e
  |bl b=>cases c;exact SeqAt.EqAt.int_bool a e b
  |int b=>obtain⟨t,rfl⟩:=c;exact SeqAt.EqAt.int_int a e b t
  |str b=>obtain⟨t,rfl⟩:=c;exact SeqAt.EqAt.int_str a e b t
  |_=>exact Px (show OW=OT from f) O8
 |str a=>
  obtain⟨e,rfl⟩:=d;cases x with
  |non=>cases c;exact SeqAt.EqAt.str_none a e
  |bl b=>cases c;exact SeqAt.EqAt.str_bool a e b
  |int b=>obtain⟨t,rfl⟩:=c;exact SeqAt.EqAt.str_int a e b t
  |str b=>obtain⟨t,rfl⟩:=c;exact SeqAt.EqAt.str_str a e b t
  |_=>exact Px (show OW=OT from f) O8
 |_=>exact Px (show OW=OT from g) O8
def vr(x:V)(u:OX):Bool:=match u with
 | .none=>SF .non x
 | .bool b=>SF (.bl b) x
 | .int i _=>SF (.int i) x
 | .str z _=>SF (.str z) x
 |_=>OW
theorem EA(r:aO y u)(f:gT y=OT):vr x u=SF y x:=by
 cases y with
 |non=>cases r;rfl
 |bl b=>cases r;rfl
 |int i=>obtain⟨t,rfl⟩:=r;rfl
 |str z=>obtain⟨t,rfl⟩:=r;rfl
 |_=>exact Px (show OW=OT from f) O8
theorem kU:∀{a:a0k} {b:a0g},aw a b->a.all gT=OT->b.any (vr x)=a.any λy=>SF y x
 |_,_,.nil,_=>rfl
 |y::a,u::b,.cons r t,f=>by
  rw[VQ,PL]at f;rw[UW,UW,EA r f.1,kU t f.2]
theorem jq(c:aO x v)(d:gT x=OT):∀{a:a0k} {b:a0g},aw a b->a.all gT=OT->∀u∈b,SeqAt.EqAt A s u v (vr x u)
 |_,_,.nil,_=>λu hu=>by cases hu
 |y::a,u::b,.cons r t,f=>λg hu=>by
  rw[VQ,PL]at f;rcases Pb.mp hu with rfl|hu
  .rw[EA r f.1];exact MH r c f.1 d
  .exact jq c d t f.2 g hu
def inV(x:V)(a:a0k):Bool:=a.any λy=>SF y x
def rIn(K:Pk)(b:Bool):R2:=λx y H Q=>∃p a,y= .ref p/\(fx K H p a\/io K H p a)/\gT x=OT/\a.all gT=OT/\Q (.bl (if b then !inV x a else inV x a)) H
theorem CC:gt X (QD .In) (rIn X.K OW):=by
 intro d s k H x y v u Q I f i h;obtain⟨p,b,rfl,hq,g,a,q⟩:=h;cases i;rcases hq with hq|hq
 .obtain⟨its,r,pl,j⟩:=I.list hq
  refine SeqAt.in_listAt (vr x) pl.isList (λw c=>jq f g r a w (by simpa using c)) ⟨.bl _,H,I,rfl,?_⟩;rw[show its.toArray.any (vr x)=its.any (vr x) by simp,kU r a];exact q
 .obtain⟨its,r,pl,j⟩:=I.tuple hq
  refine SeqAt.in_tupleAt (vr x) pl (λw c=>jq f g r a w (by simpa using c)) ⟨.bl _,H,I,rfl,?_⟩;rw[show its.toArray.any (vr x)=its.any (vr x) by simp,kU r a];exact q
theorem mJ:gt X (QD .NotIn) (rIn X.K OT):=by
 intro d s k H x y v u Q I f i h;obtain⟨p,b,rfl,hq,g,a,q⟩:=h;cases i;rcases hq with hq|hq
 .obtain⟨its,r,pl,j⟩:=I.list hq
  refine SeqAt.notIn_listAt (vr x) pl.isList (λw c=>jq f g r a w (by simpa using c)) ⟨.bl _,H,I,rfl,?_⟩;rw[show its.toArray.any (vr x)=its.any (vr x) by simp,kU r a];exact q
 .obtain⟨its,r,pl,j⟩:=I.tuple hq
  refine SeqAt.notIn_tupleAt (vr x) pl (λw c=>jq f g r a w (by simpa using c)) ⟨.bl _,H,I,rfl,?_⟩;rw[show its.toArray.any (vr x)=its.any (vr x) by simp,kU r a];exact q
theorem ny:cM X (.builtin "len") (λb H Q=>∃p a,b=[.ref p]/\(fx X.K H p a\/io X.K H p a)/\Q (.int a.length) H):=by
 intro f s j H b e Q I r h;obtain⟨p,a,rfl,hq,q⟩:=h;obtain⟨u,rfl,g⟩:=gG r;cases g;have B:=mQ;rcases hq with hq|hq
 .obtain⟨its,d,pl,i⟩:=I.list hq
  have c:=d.length;exact Calls.call_len_list pl.isList (by simp only[Pr]<;>lia) ⟨.int a.length,H,I.tok _,⟨s.toks+1,by rw[Pr,c]⟩,q⟩
 .obtain⟨its,d,pl,i⟩:=I.tuple hq
  have c:=d.length;exact len_tuple pl (by simp only[Pr]<;>lia) ⟨.int a.length,H,I.tok _,⟨s.toks+1,by rw[Pr,c]⟩,q⟩
theorem cZ:cM X (.type "list") (λG H Q=>∃p C,G=[.ref p]/\(fx X.K H p C\/io X.K H p C)/\∀l,H l=OO->Q (.ref l) (upd H l (.lst C))):=by
 intro f s t H G M Q I r h;obtain⟨p,C,rfl,hq,q⟩:=h;obtain⟨u,rfl,v⟩:=gG r;cases v
 have g:∀(a:a0g),aw C a->C.length<=Pf->∀(B:Qg) (c:Nat),(∀b m,s.heap.get? b=on m->B.get? b=on m)->
   B.get? s.heap.objs.size=on {cls:= .type "list",dict:=OO,data:= .seq a.toArray c,slots:=#[]}->EP X f t Q (.ref s.heap.objs.size) {s with heap:=B}:=λa d i B c D e=>
  ⟨.ref s.heap.objs.size,_,I.laid (t':=s.toks) D (O5 _) (show bF X.prog X.w _ B _ (.lst C)from⟨i,a,c,d,e⟩),rfl,q _ (I.hok.fresh (O5 _))⟩
 rcases hq with hq|hq
 .obtain⟨a,d,pl,i⟩:=I.list hq
  have j:=d.length;obtain⟨o,k,hc,n,E⟩:=pl.isList;exact call_list_seq p (.inl rfl) k hc E (λB c D e=>g a d i B c D e) (by simp only[Pr]<;>lia)
 .obtain⟨a,d,pl,i⟩:=I.tuple hq
  have j:=d.length;obtain⟨o,k,hc,n,E⟩:=pl;exact call_list_seq p (.inr rfl) k hc E (λB c D e=>g a d i B c D e) (by simp only[Pr]<;>lia)
theorem d9:cM X (.type "tuple") (λC H Q=>∃p a,C=[.ref p]/\((fx X.K H p a/\∀l,H l=OO->Q (.ref l) (upd H l (.tup a)))\/(io X.K H p a/\Q (.ref p) H))):=by
 intro c s g H C E Q I r h;obtain⟨p,a,rfl,h⟩:=h;obtain⟨u,rfl,m⟩:=gG r;cases m;rcases h with⟨d,q⟩|⟨d,q⟩
 .obtain⟨its,f,pl,i⟩:=I.list d
  have j:=f.length;refine call_tuple_list pl.isList (λB D=>?_) (by simp only[Pr]<;>lia)
  have k:cp X c g H {s with heap:=B}:=I.kept (t':=s.toks) D;have n:cp X c g (upd H B.objs.size (.tup a)) {s with heap:=B.push {cls:= .type "tuple",data:= .seq its.toArray}}:=
   k.laid (t':=s.toks) (λb o e=>OQ _ e) (O5 _) (show bF X.prog X.w _ _ _ (.tup a)from⟨i,its,f,Zo _ _⟩)
  exact⟨.ref B.objs.size,_,n,rfl,q _ (k.hok.fresh (O5 _))⟩
 .obtain⟨its,f,pl,i⟩:=I.tuple d
  exact call_tuple_same pl ⟨.ref p,H,I,rfl,q⟩
def tyV(K:Pk)(T:String)(x:V)(H:Hp):Prop:=match x with
 | .str _=>T="str"
 | .int _=>T="int"
 | .ref p=>(T="list"/\∃a,fx K H p a)\/(T="tuple"/\∃o,K.lookup p=on o/\o.cls= .type "tuple"/\o.dict=OO)
 |_=>False
theorem Ko{s:O3}(I:cp X h j H s)(r:aO x v)(b:tyV X.K T x H):
  s.TypeIs v T/\∀a,v= .ref a->∃d,s.heap.get? a=on d/\d.dict=OO:=by
 cases x with
 |str z=>
  obtain⟨t,rfl⟩:=r;cases(show T="str"from b);exact⟨typeIs_str s z t,λ_ e=>nomatch e⟩
 |int i=>
  obtain⟨t,rfl⟩:=r;cases(show T="int"from b);exact⟨typeIs_int s i t,λ_ e=>nomatch e⟩
 |ref p=>
  cases r;rcases b with⟨rfl,C,g⟩|⟨rfl,o,f,hc,B⟩
  .obtain⟨its,_,pl,_⟩:=I.list g
   refine⟨pl.isList.typeIs,λa e=>?_⟩;cases e;obtain⟨o,n,e,c,B,_⟩:=pl;exact⟨o,e,B⟩
  .refine⟨⟨o,I.kIn p o f,hc⟩,λa e=>?_⟩
   cases e;exact⟨o,I.kIn _ o f,B⟩
 |_=>exact Rk b
def tBM(K:Pk)(T:String)(r:a0P)(a:TE)(t:TA):TE:=λc H Q=>a c H λx d=>tyV K T x d/\t c d λb f=>r x b f Q
variable{o:Expr}{J:List Expr}{N:TE}{t:TA}{b:PX}{z a:Uh}{T L:String}{r:a0P}
theorem uA(n:PlainAttrs T)(D:Slot T b L)(j:ZD (.builtin L)=Rh (.type "method_descriptor"))(E:MtR X L r)(p:PE X o N)(G:PA X (e::J) t)
  (f:Tx o b X.env (Qp o X.env)=Qp o X.env:=by rfl)
  (i:((Ri a (Pd (e::J) X.env)).all (λx=>!x.1)&&(Sj a (Rb [] X.env)).all (λx=>x.1.isSome)
   &&decide ((e::J).length+([]:List Wc).length+(if([]:List Wc).isEmpty then 0 else 1)<30))=OT:=by rfl)
  (g:(z.endLine==a.line)=OT:=by rfl) (M:b0a X e J:=by rfl) (d:b0b X a J:=by rfl):
  PE X (.Call (.Attribute o b z) (e::J) [] a) (tBM X.K T r N t):=by
 intro c s k H Q I h;refine ZE f i g rfl (eg (p c s k H _ I h) λv q ⟨x,u,l,r1,S,V⟩=>?_);obtain⟨w,y⟩:=Ko l r1 S;refine⟨T,L,n,D,j,w,y,?_⟩;have m:=G a c q k u _ l V;rw[M]at m⊢;refine Vd (by show(OW||(Ri a (Pd J X.env)).any (·.1))=OW;rw[d]<;>rfl) (XS ?_)
 exact eg m λY A ⟨Z,B,C,F,O⟩=>E c A k B x Z v Y Q C r1 F O
def MtM(X:Cx)(L:String)(r:a0P):Prop:=
 ∀(c:a0b) (s:O3) (d:St) (H:Hp) (x:V) (a:a0k) (v:OX) (b:a0g) (Q:VK),cp X c d H s->aO x v->aw a b->r x a H Q->
  Pc (Pt X.prog X.w) X.A (Vg (.builtin L) (v::b)) (EP X c d Q) X.xe s
theorem aw.one:∀{x:V} {a:a0g},aw [x] a->∃u,a=[u]/\aO x u
 |_,_,.cons r .nil=>⟨_,rfl,r⟩
theorem aw.reverse{a:a0k}{b:a0g}(h:aw a b):aw a.reverse b.reverse:=by
 induction h with
 |nil=>exact .nil
 |cons r t e=>rw[UQ,UQ];exact aw.append e (.cons r .nil)
theorem aw.rep(h:aw c d):∀k:Nat,aw (Pn k c).flatten (Pn k d).flatten
 |0=> .nil
 |k+1=>by
  rw[QW,QW,Sb,Sb];exact aw.append h (aw.rep h k)
theorem tQ(a:a0g):∀(k:Nat) (b:a0g),
  Vi (λc d=>c++d) b.toArray (Pn k a.toArray)=(b++(Pn k a).flatten).toArray
 |0,b=>by simp
 |k+1,b=>by
  have e:b.toArray++a.toArray=(b++a).toArray:=by simp
  have f:(b++a)++(Pn k a).flatten=b++(Pn (k+1) a).flatten:=by
   rw[QW,Sb,Qs]
  rw[<-f,<-tQ a k (b++a),<-e,QW,List.foldl_cons]
end
section
variable{X:Cx}{R:a0b}{P:St}{H:Hp}{s:O3}{l b:OS}{xs ys B:a0k}
theorem cp.lset{b its':a0g}(I:cp X R P H s)(a:H l=on (.lst xs))
  (e:s.heap.get? l=on {cls:= .type "list",data:= .seq b.toArray n}) (c:f b.toArray=its'.toArray) (d:aw ys its') (g:ys.length<=Pf):
  cp X R P (upd H l (.lst ys)) {s with heap:=s.heap.update l (Q6 f),toks:=k}:=by
 have q:=PySem.IsL.update e f;rw[c]at q;refine I.write (x:=l) (e:=l) (by rw[a];exact trivial) (.inl rfl) (λj u h i=>(RP s.heap (Q6 f) (Ne.symm h)).trans i) ⟨_,q⟩ ?_;exact⟨g,its',_,d,q⟩
theorem cp.lnew{its:a0g}(I:cp X R P H s)(a:aw ys its)(c:ys.length<=Pf):
  cp X R P (upd H s.heap.objs.size (.lst ys)) {s with heap:=s.heap.push {cls:= .type "list",data:= .seq its.toArray},toks:=t'}:=
 I.laid (λ_ _ q=>OQ _ q) (O5 _) ⟨c,its,0,a,Ph _ rfl⟩
theorem cp.fresh(I:cp X R P H s):H s.heap.objs.size=OO:=I.hok.fresh (O5 _)
theorem cp.lstM(I:cp X R P H s)(a:H l=on (.lst xs)):xs.length<=Pf/\∃(b:a0g) (n:Nat),aw xs b/\xs.length=b.length/\s.heap.get? l=on {cls:= .type "list",data:= .seq b.toArray n}:=by
 obtain⟨z,b,n,r,e⟩:=I.hok l _ a;exact⟨z,b,n,r,r.length,e⟩
theorem F7(h:n<=Pf):Ug n=OW:=by
 unfold Ug;exact PZ (by lia)
def xm:V->a0k->Hp->VK->Prop:=λx b H Q=>∃l xs y,x= .ref l/\b=[y]/\H l=on (.lst xs)/\xs.length<Pf/\Q .non (upd H l (.lst (xs++[y])))
theorem jU:MtM X "list.append" xm:=by
 intro R s P H x B v D Q I c d h;obtain⟨l,xs,y,rfl,rfl,a,g,q⟩:=h;cases c;obtain⟨u,rfl,f⟩:=d.one;obtain⟨z,b,n,r,i,e⟩:=I.lstM a;refine X5 F.slot_list_append ⟨_,e,rfl⟩ F.entry_list_append (Zm _ _) (Zd l b.toArray n u (by rw[Pr];lia)) ⟨e,?_⟩;refine⟨.non,_,I.lset (its':=b++[u]) a e (by simp) (r.append (.cons f .nil)) ?_,rfl,q⟩;rw[Pl,Qa];lia
noncomputable def rCat:R2:=λx y H Q=>∃l b xs B,x= .ref l/\y= .ref b/\H l=on (.lst xs)/\H b=on (.lst B)/\xs.length+B.length<=Pf/\∀p,H p=OO->Q (.ref p) (upd H p (.lst (xs++B)))
theorem LE:gt X (R9 .Add) rCat:=by
 intro R s P H x y v u Q I c d h;obtain⟨l,b,xs,B,rfl,rfl,f,hB,m,q⟩:=h;cases c;cases d;obtain⟨z,D,n,r,o,e⟩:=I.lstM f;obtain⟨p,a,t,g,i,j⟩:=I.lstM hB;refine YK e j ?_ (by rw[Pr,Pr];lia);have k:D.toArray++a.toArray=(D++a).toArray:=by simp
 rw[k];exact⟨.ref _,_,I.lnew (t':=s.toks) (r.append g) (by rw[Pl];lia),rfl,q _ I.fresh⟩
noncomputable def rRep:R2:=λx y H Q=>∃l k xs,x= .ref l/\y= .int k/\H l=on (.lst xs)/\-(2^63)<=k/\k<2^63/\xs.length*k.toNat<=Pf/\
 ∀p,H p=OO->Q (.ref p) (upd H p (.lst (Pn k.toNat xs).flatten))
theorem JK{b:Type}(xs:List b)(k:Nat):(Pn k xs).flatten.length=k*xs.length:=by
 induction k with
 |zero=>simp
 |succ k l=>rw[QW,Sb,Pl,l,Nat.succ_mul,Sd]
theorem Lz:gt X (R9 .Mult) rRep:=by
 intro R s P H x y v u Q I w A h;obtain⟨l,k,xs,rfl,rfl,B,C,J,p,q⟩:=h;cases w;obtain⟨t,rfl⟩:=A;obtain⟨z,b,n,r,L,e⟩:=I.lstM B;have d:b.toArray.size*k.toNat<=Pf:=by rw[Pr,<-L];exact p
 have f:¬b.toArray.size*k.toNat>(2^63-1)/8:=by
  have:(Pf:Nat)<=(2^63-1)/8:=by decide
  lia
 have g:¬(!Builtin.List.listFitsIndex k)=OT:=by
  rw[fitsIndex_both C J];exact O8
 have c:¬Ug (b.toArray.size*k.toNat)=OT:=by
  rw[F7 d];exact O8
 have i:Vi (λj o=>j++o) #[] (Pn (if b.toArray.isEmpty=OT then 0 else k.toNat) b.toArray)=(Pn k.toNat b).flatten.toArray:=by
  have N:∀m:Nat,Vi (λj o=>j++o) #[] (Pn m b.toArray)=(Pn m b).flatten.toArray:=λm=>by
   have:=tQ b m [];rw[RM]at this;exact this
  rw[N];cases b with
  |nil=>simp
  |cons a O=>rw[O1 (by simp)]
 refine wpAny_binaryOp_repeat_ref (T:="list") (U:="int") (by decide) ⟨_,e,rfl⟩ (λD=>typeIs_int D k t) noFill_list_mul F.fills_int_mul F.slot_int_rmul repeat_list F.slot_int_index.lookup
  (X5 F.slot_int_rmul (typeIs_int s k t) F.entry_int_rmul (F.args_int_rmul_2 _ _) (int___rmul___int_list k t l b.toArray n)
   ⟨e,rfl,⟨_,e,rfl⟩,X5 F.slot_list_mul ⟨_,e,rfl⟩ F.entry_list_mul (F.args_list_mul_2 _ _) (AutoListH.list___mul___list_int_3 l b.toArray n k t g f c) ⟨e,?_⟩⟩)
 rw[i];exact⟨.ref _,_,I.lnew (t':=s.toks) (r.rep k.toNat) (by rw[JK,QP];exact p),rfl,q _ I.fresh⟩
variable{a:PN}{w:PV}{A:Qn}{E:a0d}
end
end L2
namespace Att
open PySem.W PySem.Calls
theorem qX:∀(D:a0e) (E:a0g),WellAll P h E (D.map WData.int)->XI E D:=by
 intro D
 induction D with
 |nil=>
  intro E w;rw[Sz]at w;cases w;exact .nil
 |cons n D G=>
  intro E w;rw[O9]at w;cases w with
  |cons a b=>
   cases a;exact .cons _ _ (G _ b)
theorem AW{l:OpenLaw}(G:l.most=on n){h:Qg}
  (b:l.row.toRowW.claim.pre args=OT) (f:WellAll P h vals args):
  ∃a E D,vals=[Pi a]/\args=[WData.list (D.map WData.int)]/\h.get? a=on {cls:= .type "list",data:= .seq E.toArray}/\XI E D/\D.length<=n:=by
 have hsh:WShape.hasAll [] args [.list .int]=OT:=(pre_splitW b).1;have hc:l.pre.holds [] {args:=args}=OT:=(pre_splitW b).2;obtain⟨d,r,rfl,g,i⟩:=hasAllW_cons hsh;obtain rfl:=hasAllW_nil i;obtain⟨K,rfl,j⟩:=hasW_list g;obtain⟨D,rfl⟩:=items_int j;have c:D.length<=n:=by
  unfold OpenLaw.pre at hc;have e:(WTm.not (.lt (.lit (.int (n:Int))) (.len (.arg 0)))).holds [] {args:=[.list (D.map .int)]}=OT:=by
   have e:=(holds_andW hc).1;rw[G]at e;exact e
  have h5:=condW_of e (w_not (w_lt w_lit (w_len_list (w_arg rfl))));rw[ON]at h5;refine Nat.le_of_not_lt λq=>?_;have k:(n:Int)<((D.length:Nat):Int):=by lia
  first
   |(rw[Po k]at h5;exact Px h5 (by decide))
   |(simp at h5;lia)
 cases f with
 |cons m o=>
  cases o;cases m with
  |list ho hall=>exact⟨_,_,D,rfl,rfl,ho,qX D _ hall,c⟩
theorem BV(l:OpenLaw)(args:List WData):l.row.toRowW.claim.post args (.bool OT) args=OT:=
 postW_of (r:=l.row.toRowW) (X:=(OT==OT))
  (show WShape.has [] (.bool OT) .bool=OT by first|rfl|decide|simp[WShape.has,WShape.arms,WShape.armsAll])
  (show(WTm.eq .res (.lit (.bool OT))).value [] {args:=args,res:=on (.bool OT),after:=args}=on (.bool (OT==OT))from w_eq_bool (w_res rfl) w_lit) rfl
theorem attach_call{l:OpenLaw}{d:DefRec}
  (P:l.most=on n) (k:d.params.defaults=[])
  (Vg:∀(w:PV) (D b:O3) (K m:a0j) (g:OS) (o:Qx) (s M c:OX) (a:OS) (E:a0g) (S:a0e),
   Ground q loose [] XP w D K m b.heap->YP w b.heap->
   b.heap.get? g=on o->o.data= .func (docDef d.name d.params d.body d.scope s M c)->b.heap.CodeRec M d.name->K d.name=on (.ref g)->
   b.heap.get? a=on {cls:= .type "list",data:= .seq E.toArray}->XI E S->S.length<=n->b.gens=#[]->
   SC (Pt l.prog w) WU (.call (.ref g) ⟨[.ref a],[]⟩) (λr V=>r= .ok (.ret (.bool OT))/\OldK b.heap V.heap/\V.os=b.os/\UK V.gens) b):
  WalkO q loose XP YP l.row.toRowW d [] (λf E=>YR f E):=by
 intro w D b K m G Y g o s M c A B C Q p v t F x z T h y H u I;obtain rfl:A= .none:=Dflts.none v k;obtain rfl:B= .none:=Dflts.noKw v;obtain⟨a,E,S,rfl,rfl,i,e,j⟩:=AW P h u;refine enter_call (Ti (Vg w D b K m g o s M c a E S G Y C (fd_plain Q) p t i e j F) λr V J=>?_);obtain⟨rfl,L,N,O⟩:=J;exact⟨.inl ⟨.bool OT,.bool OT,[],rfl,λ_=>rfl,.bool OT,BV l _,λ_=>⟨Vo,λ_ R=>(nomatch R)⟩⟩,L,N,O⟩
section
variable{a:PN}{w:PV}{A:Qn}{E:a0d}{s:O3}{K:Pk}
end
end Att
namespace L2
theorem sM:∀{D:a0g} {E:a0e},XI D E->aw (E.map V.int) D
 |_,_,.nil=> .nil
 |_,_,.cons n t h=> .cons ⟨t,rfl⟩ (sM h)
def G2(H:Hp):Prop:=∀b,H b=OO\/∃o D,H b=on (.frz o (.lst D))
theorem Gx{K:Pk}{c:O3}{G:a0g}{M:a0e}
  (R:K.In c.heap) (p:c.heap.Ns RB mg) (g:c.heap.Ns X3 mb) (I:∀x:PX,x≠"__name__"->mb x=Th x) (t:c.heap.NoLimit) (hg:c.gens=#[])
  (ha:c.heap.get? a=on {cls:= .type "list",data:= .seq G.toArray}) (T:XI G M) (U:M.length<=Pf) (hr:ej k WU)
  (F:∀D:Qg,K.In D->D.Ns RB mg->et P w K mg D CX k fa fd [x] sp) (l:∀(s:O3) (u:OX),V8 s fd ⟨[u],[]⟩ [(x,u)])
  (J:∀H:Hp,G2 H->fx K H a (M.map V.int)->sp [.ref a] H (λv _=>v= .bl OT) λ_ _ _=>False)
  (L:∀H e E,CX [] H c (λ_ _ _=>False) e E->False):
  SC (Pt P w) WU (.call (.ref fa) ⟨[.ref a],[]⟩) (λr E=>r= .ok (.ret (.bool OT))/\OldK c.heap E.heap/\E.os=c.os/\UK E.gens) c:=by
 have W:=sM T;have y:=T.length
 --from an abstract heap in which nothing but the script may be tracked
 have j:∀H:Hp,G2 H->fx K H a (M.map V.int)->k_ P w H c.heap->(∀b,H b≠OO->b=a)->(H a≠OO->K.lookup a=OO)->
   SC (Pt P w) WU (.call (.ref fa) ⟨[.ref a],[]⟩) (λr E=>r= .ok (.ret (.bool OT))/\OldK c.heap E.heap/\E.os=c.os/\UK E.gens) c:=by
  intro H X hS S Y hK;have f:∀{b:OS} {o:Qx},c.heap.get? b=on o->H b=OO->(lO c.heap H).get? b=on o:=λe n=>GH e n;have N:∀{b:OS} {o:Qx} {es:Array TZ} {ep:Nat},c.heap.get? b=on o->o.data= .dict es ep->H b=OO:=λ{b o es ep} e d=>by
   cases q:H b with
   |none=>rfl
   |some u=>
    have O:b=a:=Y b (by rw[q];simp);subst O;rw[ha]at e;cases e;have d':Data.seq G.toArray _=Data.dict es ep:=d;cases d'
  have i:∀{b:OS} {m:a0j},c.heap.Ns b m->(lO c.heap H).Ns b m:=λ{b m} ⟨o,es,ep,e,d,r⟩=>⟨o,es,ep,f e (N e d),d,r⟩;have A:K.In (lO c.heap H):=λb o e=>f (R b o e) (by
   cases q:H b with
   |none=>rfl
   |some u=>
    have O:b=a:=Y b (by rw[q];simp);subst O;rw[hK (by rw[q];simp)]at e;cases e)
  have hM:Mod K mg (lO c.heap H):=⟨A,i p,⟨mb,i g,I⟩,let ⟨mc,h1,h2⟩:=t;⟨mc,i h1,h2⟩⟩
  have e0:x0 P w K mg (lO c.heap H) WU [] c H:=⟨rfl,hM,λb o e=>Jy e,XX (DO _ _),trivial,λb g=>Px (show b∈([]:a0p)from g) (by simp),S,.of_eq hg⟩;refine Ti ((F _ A (i p)).run WU [] c H ⟨[.ref a],[]⟩ [.ref a] [.ref a] _ _ hr e0 (l c (.ref a)) (.cons rfl .nil) (J H X hS)) λr E h=>?_;cases r with
  |error e=>exact(L H e E h).elim
  |ok fl=>
   cases fl with
   |next=>exact Rk h
   |brk=>exact Rk h
   |cont=>exact Rk h
   |ret u=>
    obtain⟨v,H',os,aa,un,B,r',q⟩:=h;have q':v= .bl OT:=q;subst q';obtain rfl:u=VS OT:=r';refine⟨rfl,OldK.of_keep λb o e=>?_,os,aa⟩;cases q:H b with
    |none=>exact un.keep b o e q (by intro z;exact Px (show b∈([]:a0p)from z) (by simp)) (by simp)
    |some u=>
     rcases X b with z|⟨ob,xs,z⟩
     .rw[q]at z;cases z
     .have z2:=un.frzs b ob _ z
      obtain⟨Z,_⟩:=S b _ z;obtain⟨e2,_⟩:=B b _ z2;rw[e]at Z;cases Z;exact e2
 cases Q:K.lookup a with
 |some o=>
  --the script is one of the module's own objects
  have e:=R a o Q;rw[ha]at e;cases e;refine j (λ_=>OO) (λ_=> .inl rfl) (.inr ⟨_,G.toArray,_,Q,rfl,rfl,rfl,by rw[Pr,y];exact U,by simpa using W⟩) (λb u z=>by have C:(OO:Option HO)=on u:=z;cases C) (λb z=>Px rfl z) λz=>Px rfl z
 |none=>
  refine j (λb=>if b=a then on (.frz {cls:= .type "list",data:= .seq G.toArray} (.lst (M.map V.int)))else OO) (λb=>?_) (.inl (.inr ⟨{cls:= .type "list",data:= .seq G.toArray},O0 rfl⟩)) (λb u z=>?_) (λb z=>?_) λ_=>Q
  .by_cases g:b=a
   .exact .inr ⟨_,_,O0 g⟩
   .exact .inl (O1 g)
  .by_cases g:b=a
   .have C:=(O0 g).symm.trans z
    cases C;subst g;exact⟨ha,by rw[ON];exact U,G,_,W,ha⟩
   .have C:=(O1 g).symm.trans z
    cases C
  .by_cases g:b=a
   .exact g
   .exact Px (O1 g) z
theorem walk_of{l:PySem.W.OpenLaw}{n k:Nat}{q:PN}{E:a0i}{XP:(PX->Option OX)->Qg->Prop}{YP:PV->Qg->Prop}{d:DefRec}{K:Xf->Pk}{CX:PV->N_}{sp:PV->Sp}{x:PX}
  (hn:l.most=on n) (r:n<=Pf) (t:d.params.defaults=[]) (J:ej k WU)
  (L:∀(w:PV) (h:Qg),YP w h->(K w.params).In h)
  (F:∀(w:PV) (M:a0j) (p:OS) (h:Qg),(K w.params).In h->h.Ns RB M->M d.name=on (.ref p)->
   ∃B:Pp,(∀(s:O3) (u:OX),V8 s B ⟨[u],[]⟩ [(x,u)])/\
    ∀D:Qg,(K w.params).In D->D.Ns RB M->et l.prog w (K w.params) M D (CX w) k p B [x] (sp w))
  (y:∀(w:PV) (H:Hp) (a:OS) (S:a0e),S.length<=n->G2 H->fx (K w.params) H a (S.map V.int)->sp w [.ref a] H (λv _=>v= .bl OT) λ_ _ _=>False)
  (A:∀(w:PV) (H:Hp) (s:O3) (e:OX) (z:O3),CX w [] H s (λ_ _ _=>False) e z->False):
  PySem.W.WalkO q E XP YP l.row.toRowW d [] (λf vs=>YR f vs):=by
 refine Att.attach_call hn t λw aa j M X p o pm cd N a vs S G Y Z hd O C m i c P=>?_;have I:=L w _ Y;obtain⟨B,Q,hF⟩:=F w M p _ I G.T.g C;exact Gx I G.T.g G.T.b G.T.builtins G.T.nolimit P m i (O4 c r) J hF Q (λH R U=>y w H a S c R U) λH e z=>A w H j e z
noncomputable def di(s:Qk)(j:Nat):Qk:=match s with
 | .ClassDef _ _ _ body _ _ _ _ _ _ _=>body.getD j (.Pass ⟨0,0,0,0⟩)
 |_=> .Pass ⟨0,0,0,0⟩
noncomputable def iZ(s:Qk):Arguments:=match s with
 | .FunctionDef _ a _ _ _ _ _ _ _ _=>a
 |_=>{posonlyargs:=[],args:=[],vararg:=OO,kwonlyargs:=[],kw_defaults:=[],kwarg:=OO,defaults:=[]}
noncomputable def cz(s:Qk):a0Q:=match s with
 | .FunctionDef _ _ b _ _ _ _ _ _ _=>b
 |_=>[]
noncomputable def ae(s:Qk):Scope:=match s with
 | .FunctionDef _ _ _ _ _ _ sc _ _ _=>sc
 |_=>{kind:= .function,names:=[],isGenerator:=OW,isCoroutine:=OW}
abbrev E0:St->XK:=λ_ _ _ _=>False
structure Fun (K:Pk) (x qual:PX) (st:Qk) (f:OS) (fd:Pp):Prop where
 ex:∃(oc:OX) (od:a0A) (kV doc pm:OX) (an:a0A) (cdv ct:OX) (osl:Array (Option OX)),
  fd=Tu x qual (iZ st) (cz st) (ae st) .none kV doc pm an cdv ct/\K.lookup f=on ⟨oc,od,.func fd,osl⟩/\Um K cdv qual=OT
 kp:U7 K (.ref f)=OT
section
variable{P:PN}{w:PV}{K:Pk}{b:a0j}{base:Qg}
theorem uJ{A:Qn}(a:ej k A):A.units+1<Ui:=Q1 (Y4 (by decide:1<=64) _) a.units
theorem sU(h:n<=1000):n<Pf:=Q1 h (by decide)
variable{X:Cx}
theorem pv(i:Nat)(b:X.N[i]?=on x:=by rfl)(c:Vis X.env.scope x:=by first|exact RH rfl|exact Tc (RH rfl)|exact Tc (Tc rfl))(w:b0c x:=by decide)
  (a:(x==("__classdict__":PX))=OW:=by decide):PE X (.Name x d) (pk i):=Ln b c w a
theorem iteT{A B:Prop}(h:A):if OT=OT then A else B:=by
 rw[O0 rfl];exact h
theorem ite2{c A B:Prop} [Decidable c](a:c->A)(b:¬c->B):if c then A else B:=by
 by_cases h:c
 .rw[O0 h]
  exact a h
 .rw[O1 h]
  exact b h
def bP(H a:Hp):Prop:=∀b o,H b=on o->a b=on o
theorem bP.refl(H:Hp):bP H H:=λ_ _ h=>h
theorem bP.trans(a:bP H H1)(b:bP H1 H2):bP H H2:=λc o h=>b c o (a c o h)
theorem bP.free(e:bP H H')(h:H' l=Option.none):H l=Option.none:=by
 cases q:H l with
 |none=>rfl
 |some o=>
  rw[e l o q]at h;cases h
theorem dj:∀(b:a0J) (n:Nat) (acc:a0m),Q7 n b acc=Q7 n b []++acc
 |[],_,_=>rfl
 |(x,k)::r,n,acc=>by
  unfold Q7;split
  .rw[dj r (n+1) ((x,n)::acc),dj r (n+1) [(x,n)],Qs]
   rfl
  .exact dj r n acc
theorem iz:∀{b:a0J} {n:Nat} {x:PX} {c:OS},(x,c)∈Q7 n b []->(x,WK)∈b
 |[],_,_,_,h=>by cases h
 |(y,k)::r,n,x,c,h=>by
  unfold Q7 at h;split at h
  .rename_i a
   rw[dj]at h;rcases Qt.mp h with h|h
   .exact OR _ (iz h)
   .obtain⟨rfl,_⟩:x=y/\c=n:=by simpa using h
    obtain rfl:k= .cell:=by simpa using a
    exact OZ
  .exact OR _ (iz h)
noncomputable def da(cells:a0m):a0J->a0m->a0m
 |[],acc=>acc
 |(x,k)::r,acc=>if k== .free then da cells r ((x,(cells.lookup x).getD 0)::acc)else da cells r acc
theorem l_{cells:a0m}:∀{b:a0J} {acc:a0m} {x:PX} {c:OS},(x,c)∈da cells b acc->(x,c)∈acc\/((x,R6)∈b/\c=(cells.lookup x).getD 0)
 |[],_,_,_,h=> .inl h
 |(y,k)::r,acc,x,c,h=>by
  unfold da at h;split at h
  .rename_i a
   obtain rfl:k= .free:=by simpa using a
   rcases l_ h with h|⟨h,e⟩
   .rcases Pb.mp h with h|h
    .cases h
     exact .inr ⟨OZ,rfl⟩
    .exact .inl h
   .exact .inr ⟨OR _ h,e⟩
  .rcases l_ h with h|⟨h,e⟩
   .exact .inl h
   .exact .inr ⟨OR _ h,e⟩
theorem pW:∀{b:a0J} {w:a0m} {p:PX×OS},p∈w->p∈da cells b w
 |[],_,_,h=>h
 |(y,k)::r,w,p,h=>by
  unfold da;split
  .exact pW (OR _ h)
  .exact pW h
theorem pV{cells:a0m}:∀{b:a0J} {acc:a0m} {x:PX},(x,R6)∈b->(x,(cells.lookup x).getD 0)∈da cells b acc
 |[],_,_,h=>by cases h
 |(y,k)::r,acc,x,h=>by
  unfold da;rcases Pb.mp h with h|h
  .cases h
   rw[O0 (by decide)];exact pW OZ
  .split
   .exact pV h
   .exact pV h
theorem l6{b:Type}:∀{l:List (PX×b)} {x:PX} {c:b},(x,c)∈l->∃d,l.lookup x=on d
 |[],_,_,h=>by cases h
 |(y,d)::r,x,c,h=>by
  rw[SY];cases a:x==y with
  |true=>exact⟨d,rfl⟩
  |false=>
   rcases Pb.mp h with h|h
   .cases h
    simp at a
   .exact l6 h
theorem cX{w:Type}:∀{l:List (PX×w)} {x:PX} {c:w},(l.map (·.1)).Nodup->(x,c)∈l->l.lookup x=on c
 |[],_,_,_,h=>by cases h
 |(y,d)::r,x,c,nd,h=>by
  rw[O9]at nd;obtain⟨a,b⟩:=P7.mp nd;rw[SY];rcases Pb.mp h with h|h
  .cases h
   simp
  .have:x≠y:=λe=>a (e▸List.mem_map_of_mem (f:=(·.1)) h)
   rw[beq_eq_false_iff_ne.mpr this];exact cX b h
theorem sF{env:Wu}(f:PX×S7->a0m->Sem (ForInStep a0m))
  (g:∀D E K,f (D,E) K=if E== .free then(do let a <-cellOf env D;Rh (.yield ((D,a)::K)))else Rh (.yield K)):
  ∀(w:a0J) (G:a0m),(∀y∈w,y.2= .free->∃c,env.cells.lookup y.1=on c)->Yb w G f=Rh (da env.cells w G)
 |[],_,_=>by rw[Sm];rfl
 |(x,k)::r,G,h=>by
  rw[R7,g];unfold da;have i:∀y∈r,y.2= .free->∃c,env.cells.lookup y.1=on c:=λy j=>h y (OR _ j);by_cases b:(k==R6)=OT
  .rw[O0 b,O0 b]
   obtain⟨c,hc⟩:=h (x,k) OZ (by simpa using b);have d:env.cells.lookup x=on c:=hc;have e:cellOf env x=Rh c:=by unfold cellOf;rw[d]
   rw[e,d];simp only[pure_bind];exact sF f g r _ i
  .rw[O1 b,O1 b]
   simp only[pure_bind];exact sF f g r _ i
theorem zE{b:Scope}{env:Wu}(h:∀y∈b.names,y.2= .free->∃c,env.cells.lookup y.1=on c):closureFor b env=Rh (da env.cells b.names []):=by
 simp only[closureFor];rw[sF (env:=env) _ (λD w E=>by cases a:w==R6<;>simp[a]) b.names [] h]
 rfl
theorem GP{M:Wq}{E:a0d}{s:O3}{w:Scope}
  (f:∀G:Qg,G.Ns s.heap.objs.size (λ_=>OO)->(∀b o,s.heap.get? b=on o->G.get? b=on o)->
   (∀n c,(n,c)∈Q7 (s.heap.objs.size+1) w.names []->G.IsCell c OO/\s.heap.objs.size+1<=c)->
   ((Q7 (s.heap.objs.size+1) w.names []).Pairwise λx y=>x.2≠y.2)->
   Q (newEnv w s.heap.objs.size globals (Q7 (s.heap.objs.size+1) w.names cl) g OO .none (on h) X3) {s with heap:=G}):
  Pc M A (Ye w globals cl [] g OO .none (on h)) Q E s:=by
 simp only[Ye,Option.isSome_some,Qm];refine My (Xv ?_);refine My (wpAny_layCells _ (λS D K=>by cases a:D==WK<;>simp[a]) _ _ _ _ ?_)
 have P:=cellsFrom_ok w.names (s.heap.push {cls:= .type "dict",data:= .dict #[]}) (s.heap.objs.size+1) [] ⟨λ_ _ V=>(nomatch V),Vo⟩ (by rw[Qw];exact O5 _);rw[Qw]at P;rw[show({s with heap:=s.heap.push {cls:= .type "dict",data:= .dict #[]}}:O3).heap.objs.size=s.heap.objs.size+1 from Qw ..];have d:=f (pushCells (s.heap.push {cls:= .type "dict",data:= .dict #[]}) w.names) ((Heap.Ns.new s.heap (.type "dict")).keeps (pushCells_keeps _ _)) (λb o e=>pushCells_keeps _ _ b o (OQ _ e)) P.empty P.apart;exact My (OP (OP d))
noncomputable abbrev aL(X:Cx)(a:a0i)(w:Scope)(D:a0m)(C:OS)(b:a0p)(s:O3)(H:Hp):Cx:=
 {X with N:=a,s₀:=s,H₀:=H,env:=compEnvC w D C X.env,outer:=X.stack,stack:=X.stack,ex:=b,fn:=λx=>w.names.lookup x !=on .free,pn:=[],xe:=λ_ _=>False}
theorem jm{b:Scope}{y:PX×S7}(h:y∈(relabel b c).names):y∈b.names\/(y.2= .cell/\(y.1,R6)∈b.names):=by
 obtain⟨⟨n,k⟩,w,e⟩:=Pe.mp h
 dsimp only at e
 split at e
 .rename_i a
  cases e;simp only[PL,R8]at a;obtain⟨⟨a,_⟩,_⟩:=a;subst a;exact .inr ⟨rfl,w⟩
 .cases e
  exact .inl w
theorem GE{X:Cx}{Q:St}{s:O3}{Nc G:a0i}{K:a0a}{w:Scope}{V:Qg}(I:cp X a_ Q H s)
  (hk:w.kind= .function) (g:(w.names.map (·.1)).Nodup) (f:∀y∈w.names,y.2= .free->X.env.kindOf y.1=on .cell\/X.env.kindOf y.1=on .free)
  (R:Nc=G++K.map (λj=>X.N.getD j SK)) (T:∀j∈K,j<X.N.length/\w.names.lookup (X.N.getD j SK)=on .free)
  (F:∀b∈fp,fF X a_ H b) (U:∀b∈fp,∃o,s.heap.get? b=on o) (ns:V.Ns s.heap.objs.size λ_=>OO) (D:∀b o,s.heap.get? b=on o->V.get? b=on o)
  (O:∀n c,(n,c)∈Q7 (s.heap.objs.size+1) w.names []->V.IsCell c OO/\s.heap.objs.size+1<=c) (ca:(Q7 (s.heap.objs.size+1) w.names []).Pairwise λx y=>x.2≠y.2):
  cp (aL X Nc w (Q7 (s.heap.objs.size+1) w.names (da X.env.cells w.names [])) s.heap.objs.size fp s H) [] (Pn G.length OO++K.map (λj=>Q.getD j OO)) H {s with heap:=V}:=by
 --the cells
 have aa:∀{x:PX} {c:OS},(x,c)∈da X.env.cells w.names []->X.env.cells.lookup x=on c/\(x,R6)∈w.names:=λ{x c} h=>by
  rcases l_ h with h|⟨hm,e⟩
  .cases h
  .obtain⟨d,hd⟩:=I.ok.has x (f _ hm rfl)
   rw[hd]at e;exact⟨by rw[hd,e];rfl,hm⟩
 have a:∀{x:PX} {c:OS},(Q7 (s.heap.objs.size+1) w.names (da X.env.cells w.names [])).lookup x=on c->
   (x,c)∈Q7 (s.heap.objs.size+1) w.names []\/(X.env.cells.lookup x=on c/\(x,R6)∈w.names):=λ{x c} h=>by
  have h:=QJ h;rw[dj]at h;rcases Qt.mp h with h|h
  .exact .inl h
  .exact .inr (aa h)
 have E:∀{x:PX},(x,R6)∈w.names->∃c,X.env.cells.lookup x=on c/\(Q7 (s.heap.objs.size+1) w.names (da X.env.cells w.names [])).lookup x=on c:=λ{x} hm=>by
  obtain⟨d,hd⟩:=I.ok.has x (f _ hm rfl);have e:=pV (cells:=X.env.cells) (acc:=[]) hm;obtain⟨c,hc⟩:=l6 (l:=Q7 (s.heap.objs.size+1) w.names (da X.env.cells w.names [])) (x:=x) (c:=(X.env.cells.lookup x).getD 0) (by rw[dj];exact P0 _ e);rcases a hc with z|⟨z,_⟩
  .have B:=cX g (iz z)
   rw[cX g hm]at B;cases B
  .exact⟨c,z,hc⟩
 have k:∀{x:PX} {c:OS},X.env.cells.lookup x=on c->c<s.heap.objs.size:=λ{x c} h=>let ⟨v,q⟩:=I.cell x c h;q.lt
 have M:H s.heap.objs.size=OO:=I.hok.fresh (O5 _);have W:∀b∈fy X.stack,b∈X.env.locals::X.fs:=I.stkSub;refine⟨⟨I.ok.mod,hk,I.ok.glob,I.ok.blt,O5 _,λx y c h1 h2=>?_,λx hx=>?_,λx c hf h=>?_,I.ok.hd,I.ok.frames,.inl rfl,λb J=>⟨?_,λx c h e=>?_⟩,I.bs,O4 I.ok.bsz I.sz,λb o e J=>?_,λb J hf=>?_,I.stack,I.stkFree⟩,
  rfl,I.bare,Un.kept D,⟨_,ns,λi x v e1 A e3=>?_⟩,λx c h=>?_,M,λx c h=>?_,λp hp=>Px hp (by simp),I.hok.kept D,?_⟩
 .rcases a h1 with B|⟨B,_⟩<;>rcases a h2 with Y|⟨Y,_⟩
  .exact name_of_addr ca B Y
  .exact Px (Pz (k Y) (O4 (Uf _) (O _ _ B).2)) (Qh _)
  .exact Px (Pz (k B) (O4 (Uf _) (O _ _ Y).2)) (Qh _)
  .exact I.ok.inj _ _ _ B Y
 .--has
  have hx:(relabel w X.env).names.lookup x=on .cell\/(relabel w X.env).names.lookup x=on .free:=hx;have hm:(x,WK)∈w.names\/(x,R6)∈w.names:=by
   rcases hx with hx|hx
   .rcases jm (QJ hx)with z|⟨_,z⟩
    .exact .inl z
    .exact .inr z
   .rcases jm (QJ hx)with z|⟨_,z⟩
    .exact .inr z
    .exact .inr z
  rcases hm with hm|hm
  .have q:=X6 w.names (s.heap.objs.size+1) (da X.env.cells w.names []) (x:=x) (.inl (cX g hm))
   exact W7.mp q
  .obtain⟨c,_,hc⟩:=E hm
   exact⟨c,hc⟩
 .--cab
  rcases a h with z|⟨_,z⟩
  .exact O4 (Uf _) (O _ _ z).2
  .have z':(w.names.lookup x !=on .free)=OT:=hf
   rw[cX g z]at z';exact Px z' (by decide)
 .obtain⟨o,e⟩:=U b J
  exact P4 (Ps e)
 .rcases a h with z|⟨z,_⟩
  .obtain⟨o,e'⟩:=U b J
   subst e;exact Px (Pz (Ps e') (O4 (Uf _) (O _ _ z).2)) (Qh _)
  .exact(F b J).2.2.2.2.1 x c z e
 .obtain⟨_,_,_,h4,_⟩:=F b J
  rcases h4 with z|z
  .exact I.ok.noex b o e z
  .exact Px (Pz (Ps (I.ok.bs b o e).1) z) (Qh _)
 .obtain⟨_,h2,h3,_⟩:=F b J
  rcases Pb.mp (W b hf)with z|z
  .exact h2 z
  .exact h3 z
 .--the names' values
  have hi:¬i<G.length:=λhi=>by
   rw[S3 (by simpa using hi),RJ]at A;split at A<;>cases A
  have L:(G++K.map (λj=>X.N.getD j SK))[i]?=on x:=by rw[<-R];exact e1
  rw[Rm (by lia)]at L;rw[Rm (by simpa using hi)]at A;rw[Q8]at A;cases q:K[i-G.length]? with
  |none=>rw[OY,q]at A;cases A
  |some j=>
   rw[OY,q]at L A;have C:X.N.getD j SK=x:=PH L;have Z:Q.getD j OO=on v:=PH A;obtain⟨hj,t⟩:=T j (Pj q);rw[C]at t;obtain⟨c,hc,ab⟩:=E (QJ t);have ac:X.N[j]?=on x:=by
    rw[<-C,OU,OV hj];rfl
   have P:Q[j]?=on (on v):=by
    have hl:j<Q.length:=by rw[I.len];exact hj
    rw[OU,OV hl]at Z;rw[OV hl];exact Qo on Z
   have S:=f _ (QJ t) rfl;obtain⟨m,hn,hl⟩:=I.loc;obtain⟨u,r,l⟩:=hl j x v ac P (S.elim (λz=> .inr (.inl z)) λz=> .inr (.inr z));refine⟨u,r,.inr ⟨?_,c,ab,?_⟩⟩
   .rcases e3 with z|z|z
    .exfalso
     rcases jm (QJ z)with y|⟨y,_⟩
     .rw[cX g y]at t;cases t
     .cases y
    .exact .inl z
    .exact .inr z
   .rcases l with⟨l,_⟩|⟨_,c',e,z⟩
    .exfalso
     rcases S with y|y
     .have y':X.env.kindOf x=on .cell:=y
      rw[l]at y';cases y'
     .have y':X.env.kindOf x=on .free:=y
      rw[l]at y';cases y'
    .rw[hc]at e
     cases e;exact z.keeps D
 .rcases a h with z|⟨z,_⟩
  .exact⟨OO,(O _ _ z).1⟩
  .obtain⟨v,q⟩:=I.cell x c z
   exact⟨v,q.keeps D⟩
 .rcases a h with z|⟨z,_⟩
  .exact I.hok.fresh (O4 (Uf _) (O _ _ z).2)
  .exact I.freeC x c z
 .show _=Nc.length
  rw[R,Pl,Pl,Q8,ON,ON]
abbrev TB:=St->Hp->(St->Hp->Prop)->Prop
abbrev a0W:=OS->TB
inductive ZY where
 |L (e:Expr)|S (e:Expr)|D (k v:Expr)
instance:Coe Expr ZY:=⟨.L⟩
noncomputable def r_(c:ZY)(gens:a0O)(b:Scope)(w:Uh):Expr:=match c with
 | .L e=> .ListComp e gens b w
 | .S e=> .SetComp e gens b w
 | .D k v=> .DictComp k v gens b w
noncomputable def emC(c:ZY)(w:OX)(b:Wu):Sem Unit:=match c with
 | .L e=>do let _ <-Vg (.builtin "list.append") [w,<-Qp e b]
 | .S e=>do let v <-Qp e b;Sk e.pos;let _ <-Vg (.builtin "set.add") [w,v]
 | .D k v=>do
   let kv <-Qp k b
   let vv <-Tj [kv] (Qp v b)
   match w with
   | .ref d=>do
    Sk {k.pos with endLine:=v.pos.endLine,endCol:=v.pos.endCol}
    Tj [kv,vv] (dictSet d kv vv)
   |_=>unsupported "internal:dictcomp"
noncomputable def ik(c:ZY)(w:a0O)(D:Scope)(K:Uh)(d:Nat)(G:OX)(b:Wu)(k:Sem U4):Sem U4:=
 match w[d+1]? with
 |some E=>do
  let x <-Qp E.iter b
  Sk E.iter.pos
  let x <-if E.is_async !=0 then foldedIterable E.iter x else Qe E.iter b x
  let _ <-runOwn (.compStart (r_ c w D K) (d+1) (<-Tj [x] (if E.is_async !=0 then asyncIter x else V3 x)) G b) b
  k
 |none=>do
  emC c G b
  k
theorem wz{a b:Expr}(e:f[d]?=on ⟨a,b,l,0⟩):
  compTurn (r_ c f g i) d k j h=(do
   Sk b.pos
   match <-Uc k with
   |none=>Rh (.done .next)
   |some v=>
    UG a k v
    UF a h v
    let mut ok:=OT
    for y in l do
     if ok then ok <-isTrue y h (Qp y h)
    if ok then ik c f g i d j h (Xs (.compLoop (r_ c f g i) d k j h))
    else Xs (.compLoop (r_ c f g i) d k j h)):=by
 cases c<;>(
  unfold compTurn ik r_ emC
  dsimp only
  rw[e]
  dsimp only
  cases f[d+1]?<;>rfl)
variable{O:PN}{A:Qn}{R:Result->O3->Prop}{s:O3}
theorem Gn(F:L[d]?=on ⟨cb,W,U,0⟩)(I:Nat->O3->Prop)
  (q:∀n s,I n s->Pc (Pt O w) A (Uc T) (λr a=>match r with
   |none=>R (.ok .next) a
   |some v=>Pc (Pt O w) A (UG cb T v) (λ_ b=>Pc (Pt O w) A (UF cb H v) (λ_ j=>
    Pc (Pt O w) A (Yb U OT λy r=>if r=OT then do let E <-isTrue y H (Qp y H);Rh (UV E)else Rh (UV r)) (λE g=>
     if E=OT then ∀(k:Sem U4) (B:U4->O3->Prop) (C:a0d),(∀i m,m<n->I m i->Pc (Pt O w) A k B C i)->Pc (Pt O w) A (ik c L J N d Q H k) B C g
     else ∃m,m<n/\I m g) (λ_ _=>False) j) (λ_ _=>False) b) (λ_ _=>False) a) (λ_ _=>False) s)
  (n:Nat) (h:I n s):
  SC (Pt O w) A (.compLoop (r_ c L J N) d T Q H) R s:=by
 refine codeAny_loop rfl I (λn s hI=>?_) n h
 suffices z:Pc (Pt O w) A ((compTurn (r_ c L J N) d T Q H).onRaise (λx=>do Zk x H;theTreesLotGoes x)) (λu G=>match u with
   |Fin.done f=>R (Rj f) G
   |Fin.again c'=>c'=Code.compLoop (r_ c L J N) d T Q H/\∃m,m<n/\I m G) (λe G=>R (Except.error e) G) s by cases c<;>exact z
 refine wpAny_noted ?_;rw[wz F];refine My (QK (My (P5 (q n s hI) (λr a l=>?_) λ_ _ D=>D.elim)));cases r with
 |none=>exact OP l
 |some v=>
  refine My (P5 l (λ_ b p=>?_) λ_ _ D=>D.elim);refine My (P5 p (λ_ j t=>My (P5 t (λE g o=>?_) λ_ _ D=>D.elim)) λ_ _ D=>D.elim);cases E with
  |false=>exact OP ⟨rfl,o⟩
  |true=>exact o _ _ _ λi m K hI=>OP ⟨rfl,m,K,hI⟩
theorem AN(j:l[d]?=on ⟨cb,o,q,0⟩)
  (i:SC (Pt O w) A (.compLoop (r_ c l k m) d r p n) R s)
  (h:Pc (Pt O w) A (V3 r) (λa D=>SC (Pt O w) A (.compLoop (r_ c l k m) d a p n) R D) (λ_ _=>False) s):
  SC (Pt O w) A (.compStart (r_ c l k m) d r p n) R s:=by
 refine XB ?_
 suffices z:Pc (Pt O w) A ((compStart (r_ c l k m) d r p n).onRaise (λx=>do Zk x n;Sk theWindowsPlace)) (λg D=>match g with
   |Fin.done f=>R (Rj f) D
   |Fin.again c'=>c'.quiet=OT/\SC (Pt O w) A c' R D) (λe D=>R (Except.error e) D) s by cases c<;>exact z
 refine wpAny_notedAt ?_;unfold compStart;have b:(clausesOf (r_ c l k m))[d]?=on ⟨cb,o,q,0⟩:=by cases c<;>exact j
 generalize (clausesOf (r_ c l k m))[d]?=og at b⊢;subst b;show Pc _ _ (ask>>=_) _ _ s;refine My (Ur (wpAny_ite ?_));split
 .first
   |exact My (OP (OP (XF rfl i)))
   |exact OP (XF rfl i)
 .first
   |exact My (SN (My (QK (My (P5 h (λa D E=>OP (XF rfl E)) λ_ _ x=>x.elim)))))
   |(refine My (SN ?_);show Pc _ _ (Sk o.pos>>=_) _ _ s;exact My (QK (My (P5 h (λa D E=>OP (XF rfl E)) λ_ _ x=>x.elim))))
def dW(X:Cx)(b:List Expr)(t:TT):Prop:=
 ∀(a:a0b) (s:O3) (d:St) (H:Hp) (Q:a0T),cp X a d H s->t d H Q->
  Pc (Pt X.prog X.w) X.A (Yb b OT λc r=>if r=OT then do let ok <-isTrue c X.env (Qp c X.env);Rh (UV ok)else Rh (UV r)) (TP X a d Q) X.xe s
noncomputable def Kx:TT:=λ_ H Q=>Q OT H
theorem vA{X:Cx}:dW X [] Kx:=λ_ _ _ H _ I h=>OP ⟨H,I,h⟩
theorem FO{X:Cx}(hc:PT X c t):dW X [c] t:=λa s d H Q I h=>by
 simp only[R7,Sm,Qm];exact My (My (P5 (hc a s d H Q I h) (λb w e=>OP (OP e)) λ_ _ x=>x))
def PB(X:Cx)(c:ZY)(gens:a0O)(E:Scope)(G:Uh)(d:Nat)(D:OS)(t:TB):Prop:=
 ∀(a:a0b) (s:O3) (e:St) (H:Hp) (Q:a0E),cp X a e H s->t e H Q->
  ∀(k:Sem U4) (f:U4->O3->Prop) (g:a0d),(∀K b h,cp X a b h K->Q b h->Pc (Pt X.prog X.w) X.A k f g K)->Pc (Pt X.prog X.w) X.A (ik c gens E G d (.ref D) X.env k) f g s
def c8(J:It)(g:TG)(s:TT)(j:TB):TB:=λc H Q=>∃W:Nat->Nat->St->Hp->Prop,(∃m,W 0 m c H)/\∀i m c H,W i m c H->
 (J.stop i H/\Q c H)\/(J.go i H/\∃N:St->Hp->Prop,(∀d e,N d e->∃f,f<m/\W (i+1) f d e)/\∀x e,J.yld i H x e->g x c e λa k=>s a k λb h=>if b=OT then j a h N else N a h)
def zK(D:OS)(c:TE):TB:=λa H Q=>c a H λv b=>∃s,b D=on (.lst s)/\s.length<Pf/\Q a (upd b D (.lst (s++[v])))
def zJ(b:TI)(c:It->TB):TB:=λa H Q=>b a H λJ d=>c J a d Q
variable{c:ZY}{ac cb P:Expr}{ab:List Expr}{gens:a0O}{scope:Scope}{aa:Uh}{d:Nat}{D:OS}
theorem tU(hg:gens[d]?=on ⟨cb,P,ab,0⟩)(hc:X.calm=OT)(F:X.xe=λ_ _=>False)(R:PG X cb g)(S:dW X ab tt)(j:PB X c gens scope aa d D tb)
  {s:O3}
  (I:cp X a_ σ H s) (T:oD X.prog X.w X.K cb J fp it tn) (st:tn 0 s.heap) (hf:∀b∈fp,fF X a_ H b) (h:c8 J g tt tb σ H Q):
  SC (Pt X.prog X.w) X.A (.compStart (r_ c gens scope aa) d (.ref it) (.ref D) X.env) (λr E=>r= .ok .next/\∃a f,cp X a_ a f E/\Q a f) s:=by
 obtain⟨W,⟨m0,w0⟩,L⟩:=h;have l:∀{f:Hp},(∀b∈fp,f b=OO)->∀b∈fp,fF X a_ f b:=λhn b j=>⟨hn b j,(hf b j).2⟩;have t:SC (Pt X.prog X.w) X.A (.compLoop (r_ c gens scope aa) d (.ref it) (.ref D) X.env) (λr E=>r= .ok .next/\∃a f,cp X a_ a f E/\Q a f) s:=by
  refine Gn hg (λn E=>∃i a f,cp X a_ a f E/\tn i E.heap/\(∀b∈fp,f b=OO)/\W i n a f) ?_ m0 ⟨0,σ,H,I,st,λb j=>(hf b j).1,w0⟩;rintro n s3 ⟨i,p,Z,I3,O,U,w3⟩;rcases L i n p Z w3 with⟨G,qn⟩|⟨go,N,hN,step⟩
  .refine eg (T.done X rfl rfl rfl hc i a_ s3 p Z _ I3 (l U) O G) λr s4 ⟨V,I4⟩=>?_
   subst V;exact⟨rfl,p,Z,I4,qn⟩
  .refine eg (T.item X rfl rfl rfl hc i a_ s3 p Z _ I3 (l U) O go) λr s4 ⟨u,V,h4⟩=>?_
   subst V;refine eg h4 λ_ s5 ⟨x,H5,I5,r5,y5,v,ac⟩=>?_;have ad:=I5.pinned (l ac) (T.obj _ _ v);have Xs:∀{q:St} {y:Hp} {B:O3},cp X (a_++mI fp s5.heap) q y B->N q y->∃m,m<n/\∃i a f,cp X a_ a f B/\tn i B.heap/\(∀b∈fp,f b=OO)/\W i m a f:=λ{q y B} C n7=>by
    obtain⟨m',hm,w7⟩:=hN q y n7;refine⟨m',hm,i+1,q,y,C.unpinned,T.keep _ _ _ v λb j o e=>(C.pin (b,o) (P0 _ (P0 _ (iN j e)))).1,λb j=>?_,w7⟩;obtain⟨o,e,d⟩:=T.obj _ _ v b j;exact(C.pin (b,o) (P0 _ (P0 _ (iN j e)))).2.1
   have h6:=R _ s5 p H5 x u _ ad r5 (step x H5 y5);rw[F]at h6;refine eg h6 λ_ s6 ⟨Y,H6,I6,q6⟩=>?_;have h7:=S _ s6 Y H6 _ I6 q6;rw[F]at h7;refine eg h7 λb B ⟨y,C,M⟩=>?_;cases b with
   |true=>
    rw[O0 rfl]at M⊢;intro k Q' E' hk;refine j _ B Y y N C M k Q' E' λs8 ae H8 I8 n8=>?_;obtain⟨m,hm,z⟩:=Xs I8 n8;exact hk s8 m hm z
   |false=>
    rw[O1 O8]at M⊢;exact Xs C M
 exact AN hg t (T.self X.A 0 s _ _ st t)
theorem aP(m:gens[d+1]?=OO)(o:PE X ac x)(b:X.xe=λ_ _=>False):PB X ac gens scope aa d D (zK D x):=by
 intro a s g H Q I h k y B p;unfold ik;rw[m];show Pc _ _ ((do let _ <-Vg (.builtin "list.append") [.ref D,<-Qp ac X.env])>>=λ_=>k) _ _ _
 have i:=o a s g H _ I h;rw[b]at i;refine My (My (P5 i (λu C ⟨v,J,j,r,w,l,L,q⟩=>?_) λ_ _ f=>f.elim));obtain⟨z,c,n,t,N,e⟩:=j.lstM l;refine My (X5 F.slot_list_append ⟨_,e,rfl⟩ F.entry_list_append (Zm _ _) (Zd D c.toArray n u (by rw[Pr];lia)) ⟨e,?_⟩);refine OP (p _ g _ (j.lset (its':=c++[u]) l e (by simp) (t.append (.cons r .nil)) ?_) q);rw[Pl,Qa];lia
theorem sd(o:gens[d+1]?=on ⟨target',iter',ifs',0⟩)(hc:X.calm=OT)(a:X.xe=λ_ _=>False)(p:PI X target' iter' wi)
  (j:PG X target' g) (l:dW X ifs' tt) (t:PB X c gens scope aa (d+1) D tb) (w:∀x,Qe iter' X.env x=Rh x:=by intro _;rfl):PB X c gens scope aa d D (zJ wi λJ=>c8 J g tt tb):=by
 intro b s u H Q I h k W Y y;unfold ik;rw[o];have i:=p b s u H _ I h;rw[a]at i;refine My (P5 i (λv Z i=>My (QK ?_)) λ_ _ f=>f.elim);show Pc _ _ (Qe iter' X.env v>>=_) _ _ _;refine My (S9 (w v) ?_);show Pc _ _ (Tj [v] (V3 v)>>=_) _ _ _;refine My (Qv (P5 i (λB E C=>?_) λ_ _ f=>f.elim));obtain⟨G,K,M,J,P,e,F,T,m,f2,q⟩:=C;subst e;refine My (wpAny_runOwn (Ti (tU o hc a j l t F T m f2 q) λr A ⟨L,z⟩=>?_));subst L;obtain⟨n,N,O,U⟩:=z;exact y A n N O U
noncomputable def kT(b:a0i)(c:a0a)(a:St):St:=Pn b.length OO++c.map (λj=>a.getD j OO)
def Mks(X:Cx)(mk:Sem OX)(g:OS->HO):Prop:=∀(a:a0b) (s:O3) (f:St) (H:Hp) (E:a0d) (Q:a0d),cp X a f H s->
 (∀e:O3,cp X a f (upd H s.heap.objs.size (g s.heap.objs.size)) e->(∀b o,s.heap.get? b=on o->e.heap.get? b=on o)->Q (.ref s.heap.objs.size) e)->Pc (Pt X.prog X.w) X.A mk Q E s
theorem vN{X:Cx}:Mks X (newList []) λ_=> .lst []:=λa s f H E Q I h=>Qy (h _ (I.lnew (t':=s.toks) .nil (Qi _)) λb o e=>OQ _ e)
def qh(c:a0i)(d:a0a)(e:TI)(f:OS->It->TB):TE:=λa H Q=>e a H λJ b=>∀D,b D=OO->f D J (kT c d a) (upd b D (.lst [])) λ_ g=>Q (.ref D) g
structure dc (X:Cx) (scope:Scope) (Nc c_:a0i) (cx:a0a):Prop where
 kind:scope.kind= .function
 nd:(scope.names.map (·.1)).Nodup
 free:∀y∈scope.names,y.2= .free->X.env.kindOf y.1=on .cell\/X.env.kindOf y.1=on .free
 names:Nc=c_++cx.map (λj=>X.N.getD j SK)
 cap:∀j∈cx,j<X.N.length/\scope.names.lookup (X.N.getD j SK)=on .free
variable{R:a0O}{Nc c_:a0i}{cx:a0a}{g:TG}{tt:TT}{tb:a0W}{wi:TI}
def MX(X:Cx)(a:a0b)(H:Hp)(C:OS):Prop:=H C=OO/\C≠X.env.locals/\X.s₀.heap.objs.size<=C/\(∀x c,X.env.cells.lookup x=on c->c≠C)/\∀p∈X.pn++a,p.1≠C
theorem ij{c:ZY}{mk:Sem OX}{B:OS->HO}(O:Mks X mk B){f:a0b}{F:St}{H:Hp}{s:O3}{it:OS}{h:a0p}{Q:Nat->Qg->Prop}{J:It}{E:a0d}{QQ:OS->Hp->Prop}{RR:OX->OS->Result->O3->Prop}
  (hc:X.calm=OT) (S:dc X scope Nc c_ cx)
  (L:∀(cl:a0m) (C:OS) (h:a0p) (s:O3) (H:Hp),PG (aL X Nc scope cl C h s H) cb g/\dW (aL X Nc scope cl C h s H) ab tt/\∀D,PB (aL X Nc scope cl C h s H) c (⟨cb,P,ab,0⟩::R) scope aa 0 D (tb D))
  (I:cp X f F H s) (T:oD X.prog X.w X.K cb J h it Q) (st:Q 0 s.heap) (U:∀b∈h,fF X f H b)
  (q:∀D,H D=OO->c8 J g tt (tb D) (kT c_ cx F) (upd H D (B D)) λ_ k=>QQ D k)
  (W:∀(D C:OS) (M:O3) (k:Hp) (m:a0j),cp X f F k M->M.heap.Ns C m->MX X f k C->QQ D k->RR (.ref D) C (.ok .next) M):
  Pc (Pt X.prog X.w) X.A mk (λV t=>Pc (Pt X.prog X.w) X.A (Ye scope X.env.globals (da X.env.cells scope.names []) [] X.env.qual OO .none (on X.env)) (λj u=>
   SC (Pt X.prog X.w) X.A (.compStart (r_ c (⟨cb,P,ab,0⟩::R) scope aa) 0 (.ref it) V {j with scope:=relabel scope X.env}) (RR V j.locals) u) E t) E s:=by
 refine O f s F H _ _ I λi l y=>?_;have hD:H s.heap.objs.size=OO:=I.fresh;have q3:=q s.heap.objs.size hD;have Y:∀b∈h,∃o,i.heap.get? b=on o:=λb L=>let ⟨o,e,_⟩:=T.obj _ _ st b L;⟨o,y b o e⟩
 have Z:∀b∈h,fF X f (upd H s.heap.objs.size (B s.heap.objs.size)) b:=λb a=>⟨by
  rw[bt]
  .exact(U b a).1
  .obtain⟨o,e,_⟩:=T.obj _ _ st b a
   exact P4 (Ps e),(U b a).2⟩
 generalize ac:upd H s.heap.objs.size (B s.heap.objs.size)=H3 at l q3 Z;generalize s.heap.objs.size=D at hD ac q3⊢;refine GP λh' ns G ce ca=>?_;have N:=GE l S.kind S.nd S.free S.names S.cap Z Y ns G ce ca;obtain⟨b1,b2,b3⟩:=L (Q7 (i.heap.objs.size+1) scope.names (da X.env.cells scope.names [])) i.heap.objs.size h i H3;have ad:Q 0 h':=T.keep _ _ _ st λb L o e=>G b o (y b o e);have f4:∀b∈h,fF (aL X Nc scope (Q7 (i.heap.objs.size+1) scope.names (da X.env.cells scope.names [])) i.heap.objs.size h i H3) [] H3 b:=λb a=>
  ⟨(Z b a).1,(N.ok.exf b a).1,N.ok.exfs b a,.inl a,(N.ok.exf b a).2,λp hp=>Px hp (by simp)⟩
 refine Ti (tU (X:=aL X Nc scope (Q7 (i.heap.objs.size+1) scope.names (da X.env.cells scope.names [])) i.heap.objs.size h i H3) (gens:=⟨cb,P,ab,0⟩::R) (d:=0) rfl hc rfl b1 b2 (b3 D) N T ad f4 q3) λr M ⟨hr,ae,k,n,q'⟩=>?_;subst hr;obtain⟨m,hm,_⟩:=n.loc;have C1:X.env.locals<i.heap.objs.size:=l.lt;refine W D _ M k m (l.call' (ch:=h) n.os n.base n.hok n.bare λb a=>?_) hm ⟨n.free,RW C1,l.sz,λx c e z=>?_,λp hp z=>?_⟩ q'
 .obtain⟨_,h2,h3,h4,h5,h6⟩:=U b a
  exact⟨h4,h2,h5,h6⟩
 .obtain⟨v,e'⟩:=l.cell x c e
  exact Px (z▸e'.lt) (Qh _)
 .have:=Ps (l.pin p hp).1
  rw[z]at this;exact Px this (Qh _)
theorem cp.letgo{s:O3}(I:cp X h i H s)(o:MX X h H C)(c:PQ C s.heap j):cp X h i H {s with heap:=j}:=
 I.turned (t':=s.toks) (λb f a e=>(c.2 b a).trans e) o.1 (Ne.symm (Ne.symm o.2.1)) (.inr o.2.2.1) o.2.2.2.1 o.2.2.2.2
theorem dc.clo(S:dc X scope Nc c_ cx)(c:X.Ok):closureFor scope X.env=Rh (da X.env.cells scope.names []):=zE λy a b=>c.has y.1 (S.free y a b)
theorem dc.loc(S:dc X scope Nc c_ cx):∀x∈scope.names,x.2= .local->scope.names.lookup x.1=on .local:=λx a b=>cX S.nd (by rw[<-b];exact a)
theorem oh(hc:X.calm=OT)(S:dc X scope Nc c_ cx)(j:PI X cb P wi)
  (k:∀(d:a0m) (C:OS) (b:a0p) (s:O3) (H:Hp),PG (aL X Nc scope d C b s H) cb g/\dW (aL X Nc scope d C b s H) ab tt/\∀D,PB (aL X Nc scope d C b s H) ac (⟨cb,P,ab,0⟩::R) scope aa 0 D (tb D))
  (G:∀x,Qe P X.env x=Rh x:=by intro _;rfl):PE X (.ListComp ac (⟨cb,P,ab,0⟩::R) scope aa) (qh c_ cx wi λD J=>c8 J g tt (tb D)):=by
 intro a s l H Q I h;rw[eval_ListComp];refine Sv (use:=OO) rfl G (S.clo I.ok) S.kind S.loc (P5 (j a s l H _ I h) (λv F n=>P5 n (λo N p=>?_) λ_ _ x=>x) λ_ _ x=>x);obtain⟨M,b,O,J,U,e,r,T,f,f2,q⟩:=p;subst e;refine ij (c:= .L ac) vN (RR:=λE C=>X7 (Pt X.prog X.w) X.A X.xe OO _ E C) hc S k r T f f2 q λD C V t m u K y B=>?_;exact⟨m,K,λz i=>⟨.ref D,t,u.letgo y i,rfl,B⟩⟩
theorem xt{b f:Uh}(y:X.N.Nodup)(l:X.N[i]?=on x)(B:E_ X.env.scope x)(hc:X.calm=OT)(S:dc X scope Nc c_ cx)(F:PI X cb P wi)
  (O:∀(d:a0m) (C:OS) (k:a0p) (s:O3) (H:Hp),PG (aL X Nc scope d C k s H) cb g/\dW (aL X Nc scope d C k s H) ab tt/\∀D,PB (aL X Nc scope d C k s H) ac (⟨cb,P,ab,0⟩::R) scope aa 0 D (tb D))
  (n:T0 (.ListComp ac (⟨cb,P,ab,0⟩::R) scope aa) (on (.Name x b)) f.line X.env=Rh OT:=by rfl)
  (G:∀x,Qe P X.env x=Rh x:=by intro _;rfl) (U:b0d X x:=by first|exact .inl rfl|exact .inr rfl|assumption):
  PS X (.Assign [.Name x b] (.ListComp ac (⟨cb,P,ab,0⟩::R) scope aa) f) (iq (qh c_ cx wi λD J=>c8 J g tt (tb D)) (fj i)):=by
 intro j s W H D I h;rw[exec_Assign_Name_used _ _ _ _ n];refine My (QK (My ?_));show Pc _ X.A (do let _ <-comprehension (.ListComp ac (⟨cb,P,ab,0⟩::R) scope aa) scope X.env _ (newList []) OW (Qp P X.env) (on (UF (.Name x b) X.env))) _ _ s
 refine My (P5 (Sv (use:=on (UF (.Name x b) X.env)) (Q:=λ_ s'=>SP X j D .next s') rfl G (S.clo I.ok) S.kind S.loc
  (P5 (F j s W H _ I h) (λv s1 Y=>P5 Y (λZ K M=>?_) λ_ _ e=>e) λ_ _ e=>e)) (λ_ s' V=>OP (OP V)) λ_ _ e=>e)
 obtain⟨it,k,tn,J,H2,e,o,T,p,f2,q⟩:=M;subst e;refine ij (c:= .L ac) vN (RR:=λE C=>X7 (Pt X.prog X.w) X.A X.xe (on (UF (.Name x b) X.env)) _ E C) hc S O o T p f2 q λA C s' H' m I' ns r q'=>?_;show Pc _ X.A (UF (.Name x b) X.env (.ref A)) _ _ s';refine W0 (mo I' y l B (v:= .ref A) rfl (λK o ⟨a,sb,ha⟩=>?_) U);have t:C≠a:=by
  rcases ha with rfl|ha
  .exact r.2.1
  .exact λz=>r.2.2.2.1 x a ha z.symm
 exact⟨m,ns.sameBut sb t,λh' u=>⟨_,H',o.letgo r u,q'⟩⟩
end
end L2
namespace L2
open Sem (wp)
open Builtin Builtin.ObjectAttr
noncomputable abbrev cY(C:OS)(D:a0A)(t:OS):Qx:={cls:= .ref C,dict:=D,data:= .fields #[.ref t,.none,.none,.none,.bool OW,.none]}
structure j_ (h:Qg) (C:OS) (bm:a0g):Prop where
 at_:∃(nm q:PX) (N:OS) (bs:a0g) (hdct:Bool) (sn:a0i) (sub:a0g) (ab:Bool) (col:a0N) (dd:a0A) (k0 k1 k2 k3 k5:Option OX),
  h.get? C=on (excClassObj nm q C N bs bm hdct sn sub ab col dd k0 k1 k2 k3 k5 "ValueError.__new__")
 val:bm.contains (.type "ValueError")=OT
 bas:bm.contains (.type "BaseException")=OT
 att:bm.contains (.type "AttributeError")=OW
 nam:bm.contains (.type "NameError")=OW
section
variable{L:PN}{w:PV}{A:Qn}{E:a0d}{h:Qg}{g:Array GenState}{d:Drawn}{t:Nat}{I:RK}{C:OS}{bm z:a0g}
theorem J0(S:j_ h C bm)
  (l:R (.ok (.ret (.ref (h.objs.size+1)))) ⟨(h.push {cls:= .type "tuple",data:= .seq z.toArray}).push (cY C OO h.objs.size),g,d,t,I⟩) (b:z.length<=Pf):
  SC (Pt L w) A (.builtin "ValueError.__new__" ⟨.ref C::z,[]⟩) R ⟨h,g,d,t,I⟩:=by
 obtain⟨⟨K,q,N,M,D,V,E,r,G,s,u,v,x,y,B,c⟩,m,hB,n,o⟩:=S;have a:=SM;have e:=a.ends;have f:(Pi C::bm).contains (.type "ValueError")=OT:=by rw[Sx,m,V9]
 have i:(Pi C::bm).contains (.type "AttributeError")=OW:=by rw[Sx,n];rfl
 have j:(Pi C::bm).contains (.type "NameError")=OW:=by rw[Sx,o];rfl
 refine codeAny_builtinAt a.entry ?_;unfold Builtin.«BaseException.__new__»;refine PySem.wpAt_bind ?_;show PySem.wpAt _ _ _ (stack>>=_) _ _ _;refine PySem.wpAt_bind (PySem.wpAt_stack λp k=>PySem.wpAt_of_wpAny ?_)
 wp_walk
 refine wpAt_of_wpAny ?_;rw[a.owner]
 repeat (first|with_reducible refine wpAny_madeHere_exc a.canon c ?_|with_reducible refine RU c ?_|(with_reducible refine UJ c ?_;first|rw[f]|rw[i]|rw[j])|wp_step)
 show R _ _;rw[Qw];exact l
theorem ul{K:Pk}(X:K.In h)(S:j_ h C bm)(m:RX K (.ref C) "__init__"=on (on (.ref fI)))(n:isFn K (.ref fI)=OT)(a:z.length<=Pf)
  (p:Pc (Pt L w) A (Vg (.ref fI) (.ref (h.objs.size+1)::z)) (λr G=>r= .none/\Q (.done (.ret (.ref (h.objs.size+1)))) G) E
   ⟨(h.push {cls:= .type "tuple",data:= .seq z.toArray}).push {cls:= .ref C,data:= .fields #[.ref h.objs.size,.none,.none,.none,.bool OW,.none]},g,d,t,I⟩):
  Pc (Pt L w) A (Builtin.«type.__call__» ⟨.ref C::z,[]⟩) Q E ⟨h,g,d,t,I⟩:=by
 have u:=S;obtain⟨⟨J,q,N,O,M,P,V,R,s,T,U,W,Y,Z,k5,f⟩,v,hB,F,H⟩:=S;have k:=SM
 repeat (first|with_reducible refine RU f ?_|with_reducible refine wpAny_madeBy_exc f ?_|wp_step)
 refine codeAny_call_builtin_code (VW _ k.quiet) (wpAny_check_new_subU k v (OwnTail.base (bmB:=bm)) f ?_);refine J0 u ?_ a;show Pc _ _ _ _ _ _;have D:∀b o,h.get? b=on o->((h.push {cls:= .type "tuple",data:= .seq z.toArray}).push {cls:= .ref C,data:= .fields #[.ref h.objs.size,.none,.none,.none,.bool OW,.none]}).get? b=on o:=λb o e=>OQ _ (OQ _ e);have i:=D _ _ f;have l:=X.keeps D;have c:((h.push {cls:= .type "tuple",data:= .seq z.toArray}).push {cls:= .ref C,data:= .fields #[.ref h.objs.size,.none,.none,.none,.bool OW,.none]}).get? (h.objs.size+1)=on {cls:= .ref C,data:= .fields #[.ref h.objs.size,.none,.none,.none,.bool OW,.none]}:=by heap_get
 have j:(Pi C::bm).contains (.ref C)=OT:=by simp
 unfold U5
 repeat (first|with_reducible refine RU c ?_|(with_reducible refine UJ i ?_;rw[j])|wp_step)
 show Pc _ _ (typeLookup (.ref C) _) _ _ _;refine(WV l m).here ?_;refine Qv (My ((Y8 l (.ref (h.objs.size+1)) (beq_iff_eq.mp n)).here ?_));refine My (P5 p (λr G y=>?_) λ_ _ x=>x);obtain⟨rfl,B⟩:=y
 wp_walk
 exact B
theorem GO{K:Pk}(X:K.In h)(S:j_ h C bm)(c:RX K (.ref C) "__init__"=on (on (.ref fI)))(e:isFn K (.ref fI)=OT)(a:z.length<=Pf)
  (f:Pc (Pt L w) (A.under (.builtin "type.__call__" ⟨.ref C::z,[]⟩)) (Vg (.ref fI) (.ref (h.objs.size+1)::z)) (λr G=>r= .none/\Q (.ref (h.objs.size+1)) G) E
   ⟨(h.push {cls:= .type "tuple",data:= .seq z.toArray}).push {cls:= .ref C,data:= .fields #[.ref h.objs.size,.none,.none,.none,.bool OW,.none]},g,d,t,I⟩):
  Pc (Pt L w) A (Vg (.ref C) z) Q E ⟨h,g,d,t,I⟩:=by
 have i:=S;obtain⟨⟨n,q,N,o,D,p,M,s,V,u,v,x,y,B,F,b⟩,j,hB,k,l⟩:=S;have f1:=tc_lookup;have f2:=tc_bind (.ref C);have m:(⟨h,g,d,t,I⟩:O3).TypeIs (.ref C) "type":=⟨_,b,rfl⟩;refine U8 (XB ?_);show Pc _ _ (callAny (.ref C) _) _ _ _
 repeat (any_goals (first|assumption|with_reducible refine RU b ?_|wp_step))
 refine⟨rfl,?_⟩;exact codeAny_call_builtin_at (VW _ (by decide +kernel)) entry_typeCall (wpAny_check_type_call_sub b (ul X i c e a f))
theorem sw{l:Qx}{M:Wq}(S:j_ h C bm)(o:h.get? e=on l)(c:l.cls= .ref C)(p:Q () ⟨h,g,d,t,I⟩):
  Pc M A (Xi "ValueError.__init__" ⟨.ref e::z,[]⟩) Q E ⟨h,g,d,t,I⟩:=by
 obtain⟨⟨K,q,N,L,w,V,D,s,G,y,B,F,H,J,O,m⟩,r,hB,u,v⟩:=S;have i:=SM;have k:(Pi C::bm).contains (.type "ValueError")=OT:=by rw[Sx,r,V9]
 have j:=i.noStar;simp only[Xi,i.initKind,i.initSplit,i.initRow]
 repeat (first|(with_reducible refine RU o ?_;rw[c])|with_reducible refine RU m ?_|(with_reducible refine UJ m ?_;rw[k])|wp_step)
 refine Vt ?_;have f:∀(a b:String) (n:Nat),Bind.check ⟨.positional,"*","ValueError",.self,[⟨"args",.varPos,OW⟩]⟩ a b n (QA (λx=>x.fst) ({pos:=Pi e::z}:Args).kw)=Rh ():=λa b n=>check_star_args _ _ _ _ _ _;rw[f];exact OP p
theorem DW(S:j_ h C bm)(f:h.get? e=on (cY C m t0))(a:z.length<=Pf)
  (j:∀D:Qg,D.get? e=on (cY C m h.objs.size)->(∀b o,b≠e->h.get? b=on o->D.get? b=on o)->Q .none ⟨D,g,d,t,I⟩):
  Pc (Pt L w) A (Vg (.builtin "ValueError.__init__") (.ref e::z)) Q E ⟨h,g,d,t,I⟩:=by
 have i:=SM;refine U8 (Uv i.init.plain i.initEntry (sw S f rfl ?_));have c:=OQ {cls:= .type "tuple",data:= .seq z.toArray} f;unfold Builtin.«BaseException.__init__»
 dsimp only
 refine My ?_;refine V6 ?_ a;unfold YA;refine My (My (QE c rfl (x:= .ref t0) rfl ?_));refine My (Sa c rfl (by simp) ?_)
 dsimp only
 refine V5 (OP ?_);refine j _ ?_ λb o k l=>?_
 .rw[QX _ c rfl]
  rfl
 .rw[RP _ _ (Ne.symm k)]
  exact OQ _ l
noncomputable def fm:a0g->Bool
 |[.type a,.type b,.type c,.type d]=>a=="ValueError"&&b=="Exception"&&c=="BaseException"&&d=="object"
 | .ref _::r=>fm r
 |_=>OW
theorem vq(d:OX):refuseLoop d "__setattr__" [.type "ValueError",.type "Exception",.type "BaseException",.type "object"]=Rh ():=by kernel_rfl
theorem qB(g:OX):∀{l:a0g},fm l=OT->refuseLoop g "__setattr__" l=Rh ()
 |[.type a,.type b,.type c,.type d],e=>by
  simp only[fm,PL,R8]at e;obtain⟨⟨⟨rfl,rfl⟩,rfl⟩,rfl⟩:=e;exact vq g
 | .ref c::r,e=>by rw[refuseLoop_ref];exact qB g (by cases r<;>exact e)
theorem xX:∀{l:a0g},fm l=OT->l.contains (.type "object")=OT
 |[.type a,.type b,.type c,.type d],e=>by
  simp only[fm,PL,R8]at e;obtain⟨⟨⟨rfl,rfl⟩,rfl⟩,rfl⟩:=e;decide
 | .ref c::r,e=>by rw[Sx,xX (l:=r) (by cases r<;>exact e),V9]
variable{s:O3}{e:OS}{K:Pk}{g:ClassData}{d:PX}{v:OX}
theorem GN{k:Qx}(X:K.In s.heap)(l:s.heap.get? e=on k)(a:k.cls= .ref C)(hc:clsIn K C=on g)(i:fm g.mro=OT)(m:RX K (.ref C) d=on OO)
  (h:∀b,Pc (Pt L w) A.in1 (storeInOwnDict (.ref e) (.ref C) (.str d n) d v b)
   (λj t=>match j with| .done f=>R (.ok f) t| .again o=>o.quiet=OT/\SC (Pt L w) A o R t) (λx t=>R (.error x) t) s):
  SC (Pt L w) A (.call (.builtin "object.__setattr__") ⟨[.ref e,.str d n,v],[]⟩) R s:=by
 have c:=PySem.F.store_object;have tp:RO (Pt L w) s.heap (ZD (.ref e)) (.ref C):=by
  have:=(Vv (M:=Pt L w) (part:=on headPart) l);exact this.andThen (by rw[a];exact .now)
 have D:g.mro.isEmpty=OW:=by cases q:g.mro with|nil=>rw[q]at i;cases i|cons _ _=>rfl
 have z:RO (Pt L w) s.heap (U5 (.ref e) (.type "object")) OT:=tp.andThen (PySem.W.looks_mroIn X (by unfold mroIn;rw[hc,Sg,O1 (by rw[D];decide),xX i]));refine Uv c.slot.plain c.entry (@PySem.W.check_slot (Pt L w) _ _ s "object.__setattr__" "object" "__setattr__" (.ref e) [.str d n,v] [] _ c.kind c.split z (c.args (.ref e) (.str d n) v) ?_);have E:RO (Pt L w) s.heap (mroOf (.ref C)) g.mro:=(looks_clsIn X hc).andThen .now;rw[PySem.W.osa_eq,refuse_eq];refine My (My (tp.here (My (E.here ?_))));rw[qB _ i];refine OP (My (tp.here (My ((WV X m).here (My (OP ?_))))));exact h _
theorem DY{b:Qx}(X:K.In s.heap)(c:s.heap.get? e=on b)(a:b.cls= .ref C)(t:RX K (.ref C) "__setattr__"=on (on (.builtin "object.__setattr__")))
  (h:SC (Pt L w) A (.call (.builtin "object.__setattr__") ⟨[.ref e,.str d s.toks,v],[]⟩) (λr g=>match r with| .ok (.ret _)=>Q () g| .ok _=>False| .error x=>E x g) {s with toks:=s.toks+1}):
  Pc (Pt L w) A (setAttr (.ref e) d v) Q E s:=by
 have tp:RO (Pt L w) s.heap (ZD (.ref e)) (.ref C):=by
  have:=(Vv (M:=Pt L w) (part:=on headPart) c);exact this.andThen (by rw[a];exact .now)
 refine My (wpAny_mkText (My (My (My (tp _ _ _ _ (λ_ _ e=>e) (WV X t _ _ _ _ (λ_ _ e=>e) (Qv ?_)))))));rw[PySem.F.store_object.slot.bind];refine My (OP (My (U8 (Ti h λr g z=>?_))));rcases r with x|(v|_|_|_)<;>first|exact z|exact OP (OP z)
theorem GM(X:K.In s.heap)(a:s.heap.get? e=on (cY C OO t0))
  (h:RX K (.ref C) "__setattr__"=on (on (.builtin "object.__setattr__"))) (hc:clsIn K C=on g) (t:g.hasDict=OT) (q:fm g.mro=OT) (r:RX K (.ref C) d=on OO)
  (u:∀h':Qg,h'.get? e=on (cY C (on s.heap.objs.size) t0)->h'.Ns1 s.heap.objs.size (λy=>if y=d then on v else OO)->
   (∀b o,b≠e->s.heap.get? b=on o->h'.get? b=on o)->Q () {s with heap:=h',toks:=s.toks+2}):
  Pc (Pt L w) A (setAttr (.ref e) d v) Q E s:=by
 refine DY X a rfl h (GN (s:={s with toks:=s.toks+1}) X a rfl hc q r λb=>?_);refine My (OP (My (My (Yk a (My (WS (s:={s with toks:=s.toks+1}) (looks_clsIn X hc) ?_))))));rw[t];refine My (Xv ?_);have c:=OQ {cls:= .type "dict",data:= .dict #[]} a;refine My (wpAny_update c (OP ?_));have B:((s.heap.push {cls:= .type "dict",data:= .dict #[]}).update e λo=>{o with dict:=on s.heap.objs.size}).get? e=on (cY C (on s.heap.objs.size) t0):=QX _ c rfl;have f:s.heap.objs.size≠e:=RW (Ps a);have z:((s.heap.push {cls:= .type "dict",data:= .dict #[]}).update e λo=>{o with dict:=on s.heap.objs.size}).Ns1 s.heap.objs.size λ_=>OO:=by
  refine XT ((Heap.Ns.new s.heap (.type "dict")).sameBut (QO ..) f)
 refine My (OP (My ?_));refine wpAny_nsSet1 z λh' i j=>?_;obtain⟨J,F,H,k,l,m⟩:=i.count (Xh d v Uo.nil);refine My (wpAny_lookBehind k (by rw[l];exact pastItsLine_dict (O4 m (by show 1<=Pf+1;decide))) ?_);refine OP (u h' ((j.2 _ (Ne.symm f)).trans B) i λb o I p=>?_);have n:b≠s.heap.objs.size:=P4 (Ps p);refine(j.2 _ n).trans ?_;rw[RP _ _ (Ne.symm I)];exact OQ _ p
theorem DZ{f:Qx}{b:Bool}{M:Wq}(X:K.In s.heap)(i:s.heap.get? e=on f)(a:f.cls= .ref C)(j:ZA K (.ref C) c=on b)(k:Q b s):
  Pc M A (excMatches (.ref e) c) Q E s:=by
 have tp:RO M s.heap (ZD (.ref e)) (.ref C):=by
  have:=(Vv (M:=M) (part:=on headPart) i);exact this.andThen (by rw[a];exact .now)
 exact(PySem.W.exm_one X tp j).here k
theorem DX{bm:a0g}{dx:a0A}{t0:OS}{env:Wu}{M:Wq}{x:Sem OX}{Q:Flow->O3->Prop}(j:A.handled=OO)
  (h:Pc M A x (λv a=>∃e t0 dx C bm,v= .ref e/\j_ a.heap C bm/\a.heap.get? e=on (cY C dx t0)/\E (.ref e) a) E s):Pc M A (raiseStmt env (on x) OO) Q E s:=by
 unfold raiseStmt;refine My (P5 h (λv a b=>?_) λ_ _ x=>x);obtain⟨e,t0,dx,C,bm,rfl,S,k,l⟩:=b;obtain⟨⟨D,q,N,G,t,K,w,L,z,V,u,y,B,F,H,i⟩,m,hB,n,o⟩:=S;have c:(Pi C::bm).contains (.type "BaseException")=OT:=by rw[Sx,hB,V9]
 have f:a.heap.get? e=on {cls:= .ref C,dict:=dx,data:= .fields #[.ref t0,.none,.none,.none,.bool OW,.none]}:=k;obtain⟨p,g,d,r,I⟩:=a
 repeat (first|with_reducible refine RU f ?_|with_reducible refine RU i ?_|(with_reducible refine UJ i ?_;rw[c])|wp_step)
 exact wpAny_raiseNew_none j l
end
end L2
namespace L2
noncomputable def d8(C x:OS)(D:a0A):HO:= .ext λh=>∃t,h.get? x=on (cY C D t)
theorem bF.there{h:Qg}(x:bF P w H h a o):∃b,h.get? a=on b:=by
 cases o with
 |lst xs=>obtain⟨_,_,_,_,e⟩:=x;exact⟨_,e⟩
 |tup xs=>obtain⟨_,_,_,_,e,_⟩:=x;exact⟨_,e⟩
 |ins C dx fs=>obtain⟨_,_,_,e,_⟩:=x;exact⟨_,e⟩
 |own y=>exact x
 |xd fs=>obtain⟨_,⟨_,_,_,e,_⟩,_⟩:=x;exact⟨_,e⟩
 |rng lo hi=>obtain⟨_,_,_,e⟩:=x;exact⟨_,e⟩
 |frz b u=>obtain⟨e,_⟩:=x;exact⟨_,e⟩
 |tbl ps=>exact⟨_,(show h.get? a=on _ from x)⟩
 |met f y=>exact⟨_,(show h.get? a=on _ from x)⟩
 |ext φ=>obtain⟨_,e,_⟩:=x;exact e
theorem sy{h:Qg}(e:h.get? x=on (cY C b t)):bF P w H h x (d8 C x b):=
 ⟨⟨t,e⟩,⟨_,e⟩,λ_ _ ⟨t,a⟩ k=>⟨t,k _ a⟩⟩
theorem lT{h:Qg}(q:bF P w H h x (d8 C x dx)):∃t,h.get? x=on (cY C dx t):=q.1
noncomputable def fY(H:Hp)(x:OS):Hp:=λb=>if b=x then OO else H b
theorem EE:fY H x x=OO:=by unfold fY;rw[O0 rfl]
theorem iY(h:b≠x):fY H x b=H b:=by unfold fY;rw[O1 h]
theorem ED(h:fY H x b=on o):b≠x/\H b=on o:=by
 unfold fY at h;split at h
 .cases h
 .exact⟨by assumption,h⟩
structure g8 (P:PN) (w:PV) (outer:a0B) (H:Hp) (s:O3) (E:XK) (x C:OS) (H':Hp) (s':O3):Prop where
 os:s'.os=s.os
 bare:UK s'.gens
 un:Un (fy outer) [] H H' s.heap s'.heap
 hok:k_ P w H' s'.heap
 tr:∃(oe:Qx) (vs:a0H) (T:OS) (oT:Qx) (ts:a0H) (a0:OX),s'.heap.get? x=on oe/\(oe.cls= .ref C/\vs[0]?=on a0)/\oe.data= .fields vs/\vs[1]?=on (.ref T)/\T≠x/\s'.heap.get? T=on oT/\oT.data= .fields ts/\ts[3]?=on .none/\H' T=OO/\s.heap.get? T=OO
 xn:H' x=OO
 xs:s.heap.get? x=OO
 wish:E (.ref C) OO H'
def gs(P:PN)(w:PV):N_:=λD H s E e G=>∃x C a,e= .ref x/\g8 P w D H s E x C a G
theorem tJ{X:Cx}{s G:O3}{E:XK}(I:cp X a_ σ H s)(g:X.stack=X.env::X.outer)(i:X.env.frame=on X.env.locals)(R:X.ex=[])
  (os:G.os=X.s₀.os) (M:UK G.gens) (d:Un (fy X.stack) [] X.H₀ H' X.s₀.heap G.heap) (S:k_ X.prog X.w H' G.heap) (y:∀b∈fy X.stack,H' b=OO)
  (c:∀b∈ext,X.s₀.heap.get? b=OO/\H' b=OO) (O:x∈ext) (V:E (.ref C) OO H')
  (L:Heap.LeftW (VG G.heap (ext++fy X.stack)) (X.env::X.outer) x (.ref C) a0 G.heap h'):g8 X.prog X.w X.outer X.H₀ X.s₀ E x C H' {G with heap:=h'}:=by
 obtain⟨U,L2,W,Y⟩:=L;have j:∀b∈fy X.outer,b∈fy X.stack:=λb hb=>by
  rw[g];unfold fy;rw[QV,i];exact OR _ hb
 have h:∀b∈fy X.stack,b=X.env.locals\/b∈fy X.outer:=λb hb=>by
  rw[g]at hb;unfold fy at hb;rw[QV,i]at hb;exact Pb.mp hb
 have A:∀b o,X.s₀.heap.get? b=on o->b≠X.env.locals:=λb o e=>P4 (Pz (Ps e) I.ok.above);have D:∀b o,G.heap.get? b=on o->b∉ext->b∉fy X.stack->h'.get? b=on o:=λb o e B Z=>
  U b o (V2 _ e λhm=>(Qt.mp hm).elim B Z)
 have k:∀b o,X.s₀.heap.get? b=on o->b∉ext:=λb o e hb=>by rw[(c b hb).1]at e;cases e
 have f:∀b∈fy X.stack,∃o,h'.get? b=on o/\∀vs,o.data≠ .fields vs:=λb hb=>(L2.mem (by rw[<-g];exact hb)).2;obtain⟨oe,vs,T,oT,P,he,hc,hd,B,l,F,Q,m,h3⟩:=W;have p:H' T=OO/\X.s₀.heap.get? T=OO:=by
  by_cases hm:T∈ext++fy X.stack
  .rcases Qt.mp hm with hm|hm
   .exact⟨(c T hm).2,(c T hm).1⟩
   .obtain⟨o,e,K⟩:=f T hm
    rw[Q]at e;cases e;exact Px m (K P)
  .have hs:G.heap.get? T=OO:=by
    cases q:G.heap.get? T with
    |none=>rfl
    |some o=>rw[V2 _ q hm]at l;cases l
   constructor
   .cases q:H' T with
    |none=>rfl
    |some o=>obtain⟨ob,e⟩:=(S T o q).there;rw[hs]at e;cases e
   .cases q:X.s₀.heap.get? T with
    |none=>rfl
    |some o=>obtain⟨ob,e⟩:=d.there T o q (by simp);rw[hs]at e;cases e
 refine⟨os,M,⟨λb o e n hb _=>?_,λb o e n hb _=>?_,λb o e n hb=>d.free b o e n hb,λb o e _=>?_,d.tups,d.frzs,d.tbls⟩,λa o e=>?_,⟨oe,vs,T,oT,P,a0,he,hc,hd,B,F,Q,m,h3,p.1,p.2⟩,(c x O).2,(c x O).1,V⟩
 .have K:b∉fy X.stack:=λz=>(h b z).elim (A b o e) hb
  exact D b o (d.keep b o e n K (by simp)) (k b o e) K
 .obtain⟨sl,r⟩:=d.slot b o e n (j b hb) (by simp)
  obtain⟨_,J,v,K⟩:=I.ok.funs.mem hb;rw[e]at v;cases v;obtain⟨N,e3⟩:=Y b _ r K;exact⟨N,e3⟩
 .obtain⟨J,r⟩:=d.there b o e (by simp)
  by_cases hb:b∈fy X.stack
  .obtain⟨o2,v,_⟩:=f b hb
   exact⟨o2,v⟩
  .exact⟨J,D b J r (k b o e) hb⟩
 .refine(S a o e).stay (λb u hb r=>?_) (λ_ q=>q) λ_ _ q=>q
  have t:H' b≠OO:=by
   rcases hb with rfl|hb
   .rw[e];simp
   .rw[hb];simp
  exact D b u r (λz=>t (c b z).2) λz=>t (y b z)
theorem m6{h base:Qg}(d:h.FunFrames base l)(c:∀b∈fy l,b∈as):h.FunFrames (VG h as) l:=
 PySem.W.funFrames_hide d λD e a E=>c a (by unfold fy;exact Uy.mpr ⟨D,e,E⟩)
theorem Jr{X:Cx}{E F:XK}(a:X.stack=X.env::X.outer)(d:X.env.frame=on X.env.locals)(f:X.ex=[])(Q:∀D dx H,F D dx H->E D dx H)
  (I:cp X a_ σ H s) (h:gs X.prog X.w X.stack H s F e s'):
  Pc (Pt X.prog X.w) X.A (leaving X.env e) (λ_ j=>gs X.prog X.w X.outer X.H₀ X.s₀ E e j) E1 s':=by
 obtain⟨x,C,J,rfl,os,G,S,V,⟨R,vs,T,U,W,a0,Y,hc,hd,Z,k,hT,m,h3,n,p⟩,xn,xs,K⟩:=h;have M:∀b∈X.fs,b∈fy X.stack:=λb hb=>by
  rw[a];unfold fy;rw[QV,d];exact OR _ hb
 have N:Un (fy X.stack) [] X.H₀ H X.s₀.heap s.heap:=by
  have b:=I.base;rw[f]at b;exact b.mono M λ_ z=>z
 have U0:=N.trans S;have g:∀b,s.heap.get? b=OO->X.s₀.heap.get? b=OO:=λb e=>by
  cases q:X.s₀.heap.get? b with
  |none=>rfl
  |some o=>obtain⟨o',O⟩:=N.there b o q (by simp);rw[e]at O;cases O
 have c:=I.stack;have i:s'.heap.FunFrames X.base X.stack:=by
  have aa:∀(l:a0B),(∀b∈fy l,b∈fy X.stack)->s.heap.FunFrames X.base l->s'.heap.FunFrames X.base l:=by
   intro l
   induction l with
   |nil=>intro _ _;trivial
   |cons ab r ih=>
    intro hs hl;obtain⟨hk,⟨L,o,t,hn,u,v⟩,hr⟩:=hl;have P:L∈fy X.stack:=hs L (by unfold fy;rw[QV,t];exact OZ);obtain⟨sl,e⟩:=S.slot L o u (I.stkFree L P) P (by simp);exact⟨hk,⟨L,_,t,hn,e,v⟩,ih (λb hb=>hs b (by unfold fy;rw[QV,t];exact OR _ hb)) hr⟩
  exact aa X.stack (λ_ hb=>hb) c
 have y:∀b∈fy X.stack,J b=OO:=λb hb=>by
  obtain⟨_,o,u,_⟩:=c.mem hb;exact S.free b o u (I.stkFree b hb) (by simp)
 have B:∀b∈fy X.stack,b∈[x,T]++fy X.stack:=λb hb=>P0 _ hb;have hF:s'.heap.FunFrames (VG s'.heap ([x,T]++fy X.stack)) (X.env::X.outer):=by
  have z:=m6 i B;rw[a]at z⊢;exact z
 refine wpAny_leaving_nextW (base:=VG s'.heap ([x,T]++fy X.stack)) (by rw[<-a];exact I.ok.frames) hF d ⟨R,vs,T,U,W,Y,hc,hd,Z,UT _ (by simp),k,hT,m,h3⟩ (λb o q=>Yh _ q) (UT _ (by simp)) λh' L=>?_;refine⟨x,C,J,rfl,tJ I a d f (os.trans I.os) G U0 V y (λb hb=>?_) (by simp) (Q _ _ _ K) L⟩;rcases Pb.mp hb with rfl|hb
 .exact⟨g _ xs,xn⟩
 .obtain rfl:b=T:=by simpa using hb
  exact⟨g _ p,n⟩
theorem FZ{X:Cx}{E:XK}(c:X.stack=X.env::X.outer)(g:X.env.frame=on X.env.locals)(h:X.ex=[])
  (I:cp X O P H s) (j:H x=on (d8 C x dx)) (m:X.H₀ x=OO) (D:E (.ref C) OO (fY H x)):
  Pc (Pt X.prog X.w) X.A (leaving X.env (.ref x)) (λ_ k=>gs X.prog X.w X.outer X.H₀ X.s₀ E (.ref x) k) E1 s:=by
 obtain⟨t,p⟩:=lT (I.hok x _ j);have G:∀b∈X.fs,b∈fy X.stack:=λb d=>by
  rw[c];unfold fy;rw[QV,g];exact OR _ d
 have f:Un (fy X.stack) [] X.H₀ H X.s₀.heap s.heap:=by
  have b:=I.base;rw[h]at b;exact b.mono G λ_ z=>z
 have V:X.s₀.heap.get? x=OO:=by
  cases q:X.s₀.heap.get? x with
  |none=>rfl
  |some o=>have:=f.free x o q m (by simp);rw[j]at this;cases this
 have K:∀b o,H b=on o->(∀r,o≠ .ext r)->b≠x:=λb o e F z=>by subst z;rw[j]at e;cases e;exact F _ rfl
 have v:Un (fy X.stack) [] X.H₀ (fY H x) X.s₀.heap s.heap:=by
  refine⟨f.keep,f.slot,λb o e n d=>?_,f.there,λb S q=>?_,λb o u q=>?_,λb J q=>?_⟩
  .unfold fY;split
   .rfl
   .exact f.free b o e n d
  .have:=f.tups b S q
   rw[iY (K b _ this λ_ z=>by cases z)];exact this
  .have:=f.frzs b o u q
   rw[iY (K b _ this λ_ z=>by cases z)];exact this
  .obtain⟨more,this⟩:=f.tbls b J q
   exact⟨more,by rw[iY (K b _ this λ_ z=>by cases z)];exact this⟩
 have M:k_ X.prog X.w (fY H x) s.heap:=λa o e=>by
  obtain⟨B,y⟩:=ED e;refine(I.hok a o y).stay (λ_ _ _ q=>q) (λb q=>?_) λb S q=>?_
  .rw[iY (K b _ q λ_ z=>by cases z)];exact q
  .rw[iY (K b _ q λ_ z=>by cases z)];exact q
 have i:=I.stack;have l:∀b∈fy X.stack,fY H x b=OO:=λb d=>by
  unfold fY;split
  .rfl
  .exact I.stkFree b d
 have hF:s.heap.FunFrames (VG s.heap ([x]++fy X.stack)) (X.env::X.outer):=by
  have z:=m6 i (as:=[x]++fy X.stack) λb d=>P0 _ d;rw[c]at z⊢;exact z
 refine wpAny_leaving_firstW (base:=VG s.heap ([x]++fy X.stack)) (a0:= .ref t) (by rw[<-c];exact I.ok.frames) hF g p (λb o q=>Yh _ q) (UT _ (by simp)) rfl rfl rfl λN L=>?_;refine⟨x,C,fY H x,rfl,tJ (ext:=[x]) I c g h I.os I.bare v M l (λb d=>?_) (by simp) D L⟩;obtain rfl:b=x:=by simpa using d
 exact⟨V,EE⟩
theorem yp{P:PN}{w:PV}{c ext:a0p}{H f:Hp}{s s':O3}{h':Qg}(D:Un c [] H f s.heap s'.heap)(E:k_ P w f s'.heap)(d:∀b∈ext,s.heap.get? b=OO/\f b=OO)(l:∀b∈c,f b=OO)
  (h:∀b∈c,∃o,s'.heap.get? b=on o/\∀K,o.data≠ .fields K) (G:∀b o,s'.heap.get? b=on o->b∉ext->b∉c->h'.get? b=on o)
  (V:∀b o,s'.heap.get? b=on o->(∀K,o.data≠ .fields K)->∃M,h'.get? b=on {o with slots:=M}):Un c [] H f s.heap h'/\k_ P w f h':=by
 have i:∀b o,s.heap.get? b=on o->b∉ext:=λb o e hb=>by rw[(d b hb).1]at e;cases e
 refine⟨⟨λb o e n hb _=>G b o (D.keep b o e n hb (by simp)) (i b o e) hb,λb o e n hb _=>?_,λb o e n hb=>D.free b o e n hb,λb o e _=>?_,D.tups,D.frzs,D.tbls⟩,λa o e=>?_⟩
 .obtain⟨M,g⟩:=D.slot b o e n hb (by simp)
  obtain⟨o2,k,S⟩:=h b hb;rw[g]at k;cases k;obtain⟨m,p⟩:=V b _ g S;exact⟨m,p⟩
 .obtain⟨r,g⟩:=D.there b o e (by simp)
  by_cases hb:b∈c
  .obtain⟨o2,k,S⟩:=h b hb
   obtain⟨M,p⟩:=V b o2 k S;exact⟨_,p⟩
  .exact⟨r,G b r g (i b o e) hb⟩
 .refine(E a o e).stay (λb u hb g=>?_) (λ_ q=>q) λ_ _ q=>q
  have j:f b≠OO:=by
   rcases hb with rfl|hb
   .rw[e];simp
   .rw[hb];simp
  exact G b u g (λz=>j (d b z).2) λz=>j (l b z)
section
variable{X:Cx}{a_:a0b}{σ:St}{H H':Hp}{s s':O3}{E:XK}{x C:OS}
theorem g8.inv(I:cp X a_ σ H s)(F:g8 X.prog X.w X.stack H s E x C H' s'):cp X a_ σ H' s':=
 I.call' (ch:=[]) F.os F.un F.hok F.bare λb a=>Px a (by simp)
theorem g8.frames(I:cp X a_ σ H s)(F:g8 X.prog X.w X.stack H s E x C H' s'):s'.heap.FunFrames X.base X.stack/\(∀b∈fy X.stack,H' b=OO)/\∀b∈fy X.stack,∃o,s'.heap.get? b=on o/\∀D,o.data≠ .fields D:=by
 have a:=F.inv I;exact⟨a.stack,a.stkFree,λb c=>(a.stack.mem c).2⟩
theorem g8.noted(m:X.stack=X.env::X.outer)(O:X.env.frame=on X.env.locals)(I:cp X a_ σ H s)(F:g8 X.prog X.w X.stack H s E x C H' s'){M:Wq}
  (h:∀s2,g8 X.prog X.w X.stack H s E x C H' s2->Q () s2):Pc M X.A (Zk (.ref x) X.env) (λ_ s1=>Pc M A2 (Vw (.ref x) OO) Q E2 s1) E1 s':=by
 obtain⟨p,r,P⟩:=F.frames I;obtain⟨os,D,un,G,⟨oe,K,T,oT,ts,a0,he,hc,hd,h1,R,hT,U,h3,W,Y⟩,xn,xs,S⟩:=F;have hF:s'.heap.FunFrames (VG s'.heap ([x,T]++fy X.stack)) (X.env::X.outer):=by
  have z:=m6 p (as:=[x,T]++fy X.stack) λb hb=>P0 _ hb;rw[m]at z⊢;exact z
 refine wpAny_noteFrame_onW (base:=VG s'.heap ([x,T]++fy X.stack)) (by rw[<-m];exact I.ok.frames) hF O ⟨oe,K,T,oT,ts,he,hc,hd,h1,UT _ (by simp),R,hT,U,h3⟩ (λb o q=>Yh _ q) (UT _ (by simp)) λh' L=>?_;obtain⟨L1,L2,L3,L4⟩:=L;have d:∀b∈[x,T],s.heap.get? b=OO/\H' b=OO:=λb hb=>by
  rcases Pb.mp hb with rfl|hb
  .exact⟨xs,xn⟩
  .obtain rfl:b=T:=by simpa using hb
   exact⟨Y,W⟩
 have k1:∀b o,s'.heap.get? b=on o->b∉[x,T]->b∉fy X.stack->h'.get? b=on o:=λb o e Z n2=>L1 b o (V2 _ e λhm=>(Qt.mp hm).elim Z n2);obtain⟨aa,t⟩:=yp un G d r P k1 L4;have j:∀b∈fy X.stack,∃o,h'.get? b=on o/\∀K,o.data≠ .fields K:=λb hb=>(L2.mem (by rw[<-m];exact hb)).2;obtain⟨ab,ac,a,ah,u,v,ad,y,B,k,l,g,c,ae⟩:=L3;have i:H' a=OO/\s.heap.get? a=OO:=by
  by_cases hm:a∈[x,T]++fy X.stack
  .rcases Qt.mp hm with hm|hm
   .exact⟨(d a hm).2,(d a hm).1⟩
   .obtain⟨o,e,V⟩:=j a hm
    rw[g]at e;cases e;exact Px c (V u)
  .have hs:s'.heap.get? a=OO:=by
    cases q:s'.heap.get? a with
    |none=>rfl
    |some o=>rw[V2 _ q hm]at k;cases k
   constructor
   .cases q:H' a with
    |none=>rfl
    |some o=>obtain⟨ob,e⟩:=(G a o q).there;rw[hs]at e;cases e
   .cases q:s.heap.get? a with
    |none=>rfl
    |some o=>obtain⟨ob,e⟩:=un.there a o q (by simp);rw[hs]at e;cases e
 --Vw
 have J:3<u.size:=(Qb.mp ae).1;unfold Vw;refine My (QE v y B ?_);rw[O0 (show(Pi a !=P8)=OT from by simp)];refine Sa g c J (h _ ?_);have n:∀b,b≠a->(h'.update a (U1 (·.setIfInBounds 3 ((OO:a0A).elim P8 λf=>SU f)))).get? b=h'.get? b:=λb hb=>RP _ _ (Ne.symm hb);have af:∀b o,h'.get? b=on o->(∀K,o.data≠ .fields K)->b≠a:=λb o e V z=>by subst z;rw[g]at e;cases e;exact V _ c
 obtain⟨ag,N⟩:=yp (s':={s' with heap:=h'}) (ext:=[a]) (h':=h'.update a (U1 (·.setIfInBounds 3 ((OO:a0A).elim P8 λf=>SU f)))) aa t (λb hb=>by
  obtain rfl:b=a:=by simpa using hb
  exact⟨i.2,i.1⟩) r j (λb o e Z _=>by rw[n b (by simpa using Z)];exact e) λb o e V=>⟨o.slots,by rw[n b (af b o e V)];exact e⟩
 refine⟨os,D,ag,N,⟨ab,ac,a,_,_,a0,?_,ad,y,B,l,QX _ g (SL (QH c _)),QH c _,by simp[J],i.1,i.2⟩,xn,xs,S⟩;rw[n x (Ne.symm l)];exact v
theorem g8.landed(I:cp X a_ σ H s)(F:g8 X.prog X.w X.stack H s E x C H' s'){M:Wq}
  (h:∀O,g8 X.prog X.w X.stack H s E x C H' O->Q () O):Pc M A2 (Vw (.ref x) OO) Q E2 s':=by
 obtain⟨P,r,t⟩:=F.frames I;obtain⟨V,D,U,K,⟨u,v,c,R,y,W,j,A,k,l,d,g,a,B,m,n⟩,Y,Z,G⟩:=F;have p:3<y.size:=(Qb.mp B).1;unfold Vw;refine My (QE j k l ?_);rw[O0 (show(Pi c !=P8)=OT from by simp)];refine Sa g a p (h _ ?_);have i:∀b,b≠c->(s'.heap.update c (U1 (·.setIfInBounds 3 ((OO:a0A).elim P8 λf=>SU f)))).get? b=s'.heap.get? b:=λb J=>RP _ _ (Ne.symm J);have L:∀b o,s'.heap.get? b=on o->(∀vs,o.data≠ .fields vs)->b≠c:=λb o e S z=>by subst z;rw[g]at e;cases e;exact S _ a
 obtain⟨N,q⟩:=yp (ext:=[c]) (h':=s'.heap.update c (U1 (·.setIfInBounds 3 ((OO:a0A).elim P8 λf=>SU f)))) U K (λb J=>by
  obtain rfl:b=c:=by simpa using J
  exact⟨n,m⟩) r t (λb o e T _=>by rw[i b (by simpa using T)];exact e) λb o e S=>⟨o.slots,by rw[i b (L b o e S)];exact e⟩
 refine⟨V,D,N,q,⟨u,v,c,_,_,W,?_,A,k,l,d,QX _ g (SL (QH a _)),QH a _,by simp[p],m,n⟩,Y,Z,G⟩;rw[i x (Ne.symm d)];exact j
theorem g8.cls(F:g8 X.prog X.w X.stack H s E x C H' s'):∃a,s'.heap.get? x=on a/\a.cls= .ref C:=by obtain⟨a,_,_,_,_,_,b,hc,_⟩:=F.tr;exact⟨a,b,hc.1⟩
abbrev Cx.inA(X:Cx)(A:Qn):Cx:={X with A:=A,calm:=OW,xe:=λ_ _=>False}
theorem cp.inA{X:Cx}{a_:a0b}{σ:St}{H:Hp}{s:O3}(I:cp X a_ σ H s)(A:Qn)(a:A.frames=X.A.frames):cp (X.inA A) a_ σ H s:=
 ⟨⟨I.ok.mod,I.ok.kind,I.ok.glob,I.ok.blt,I.ok.above,I.ok.inj,I.ok.has,I.ok.cab,λh=>Px h (by simp),a.trans I.ok.frames,I.ok.stk,I.ok.exf,I.ok.bs,I.ok.bsz,I.ok.noex,I.ok.exfs,I.ok.funs,I.ok.frf⟩,I.os,I.bare,I.base,I.loc,I.cell,I.free,I.freeC,I.pin,I.hok,I.len⟩
theorem cp.outA{X:Cx}{a_:a0b}{σ:St}{H:Hp}{s:O3}(x:X.Ok)(I:cp (X.inA A) a_ σ H s):cp X a_ σ H s:=
 ⟨x,I.os,I.bare,I.base,I.loc,I.cell,I.free,I.freeC,I.pin,I.hok,I.len⟩
theorem SP.outA{X:Cx}{a_:a0b}{D:ni}{s:O3}(x:X.Ok)(h:SP (X.inA A) a_ D f s):SP X a_ D f s:=by
 cases f with
 |next=>obtain⟨a,H',I,q⟩:=h;exact⟨a,H',I.outA x,q⟩
 |brk=>obtain⟨a,H',I,q⟩:=h;exact⟨a,H',I.outA x,q⟩
 |cont=>obtain⟨a,H',I,q⟩:=h;exact⟨a,H',I.outA x,q⟩
 |ret u=>obtain⟨v,a,H',I,r,q⟩:=h;exact⟨v,a,H',I.outA x,r,q⟩
def PHd(X:Cx)(K:List ExceptHandler)(t:OS->TS):Prop:=
 ∀(a_:a0b) (σ:St) (G H:Hp) (a s:O3) (E:XK) (x C:OS) (D:ni),cp X a_ σ G a->g8 X.prog X.w X.stack G a E x C H s->t C D σ H->Pc (Pt X.prog X.w) X.A (handleBy (.ref x) X.env K) (SP X a_ D) X.xe s
def Ox:OS->TS:=λ_ _ _ _=>False
def Oy(K:Pk)(a:OS)(c:TS)(r:OS->TS):OS->TS:=λC D σ H=>∃b,ZA K (.ref C) (.ref a)=on b/\if b=OT then c D σ H else r C D σ H
theorem Jl:PHd X [] Ox:=λ_ _ _ _ _ _ _ _ _ _ _ _ h=>h.elim
theorem FR{cn:PX}(c:Gl X cn)(G:X.mg cn=on (.ref Dc))(M:∀A,PSs (X.inA A) (b0::suite) ts)(d:PHd X rest r)
  (S:b0c cn:=by decide):PHd X (.ExceptHandler (on (.Name cn np)) OO (b0::suite) p::rest) (Oy X.K Dc ts r):=by
 intro a_ σ V H e s E x C D a F h;obtain⟨b,g,h⟩:=h;have I:=F.inv a;obtain⟨n,i,hc⟩:=F.cls;have j:=I.inA (X.A.mark (on (.ref x))) rfl;refine wpAny_handleBy_cons (codeAny_handlers_test (iU (X:=X.inA (X.A.mark (on (.ref x)))) j c G ?_ S)) (by intro q;cases q);refine DZ I.kIn i hc g ?_;cases b with
 |true=>
  rw[O0 rfl]at h;refine codeAny_handlers_suite (F.landed a λk l=>?_);have m:=(l.inv a).inA (X.A.mark (on (.ref x))) rfl;exact P5 (M _ a_ k σ H D m h) (λf o q=>q.outA I.ok) λ_ _ z=>z.elim
 |false=>
  rw[O1 O8]at h;exact d a_ σ V H e s E x C D a F h
abbrev Cx.inTry(X:Cx)(pn:a0b)(xe:a0d):Cx:={X with pn:=pn,xe:=xe}
theorem cp.inTry{X:Cx}{a_:a0b}{σ:St}{H:Hp}{s:O3}(I:cp X a_ σ H s)(x:a0d):cp (X.inTry (X.pn++a_) x) [] σ H s:=
 ⟨⟨I.ok.mod,I.ok.kind,I.ok.glob,I.ok.blt,I.ok.above,I.ok.inj,I.ok.has,I.ok.cab,I.ok.hd,I.ok.frames,I.ok.stk,I.ok.exf,I.ok.bs,I.ok.bsz,I.ok.noex,I.ok.exfs,I.ok.funs,I.ok.frf⟩,I.os,I.bare,I.base,I.loc,I.cell,I.free,I.freeC,λp a=>I.pin p (by simpa using a),I.hok,I.len⟩
theorem cp.outTry{X:Cx}{a_ a:a0b}{σ:St}{H:Hp}{s:O3}(x:X.Ok)(I:cp (X.inTry (X.pn++a_) xe) a σ H s):cp X a_ σ H s:=
 ⟨x,I.os,I.bare,I.base,I.loc,I.cell,I.free,I.freeC,λp b=>I.pin p (RF _ b),I.hok,I.len⟩
def tTry(b:(St->XK)->TS)(c:OS->TS):TS:=λD σ H=>∃E:St->XK,(∀a C s H',E a (.ref C) s H'->c C D a H')/\b E D σ H
theorem Le(j:X.stack=X.env::X.outer)(k:X.env.frame=on X.env.locals)
  (p:∀(E:a0r) (G:a0b) (K:a0d),bV (gs X.prog X.w) (X.inTry G K) E->PSs (X.inTry G K) body (T E)) (t:PHd X (h0::R) th):PS X (.Try body (h0::R) [] [] U) (tTry T th):=by
 intro a_ s σ H D I h;obtain⟨E,y,B⟩:=h;rw[arm_exec_Try];refine My (QK ?_);unfold tryStmt;show Pc _ _ ((execs body X.env).attempt>>=_) _ _ s;have g:bV (gs X.prog X.w) (X.inTry (X.pn++a_) λe s'=>Pc (Pt X.prog X.w) X.A (Zk e X.env) (λ_ b=>Pc (Pt X.prog X.w) X.A (Vw e OO) (λ_ i=>Pc (Pt X.prog X.w) X.A (handleBy e X.env (h0::R)) (SP X a_ D) X.xe i) X.xe b) X.xe s') E:=by
  intro l a n b e s' L N;obtain⟨x,C,m,rfl,F⟩:=N;have J:=L.outTry I.ok;have O:g8 X.prog X.w X.stack n b (E a) x C m s':=F;exact O.noted j k J λi o=>t a_ a n m b i (E a) x C D J o (y a C OO m o.wish)
 refine My (TC (P5 (p E _ _ g [] s σ H D (I.inTry _) B) (λf b c=>?_) λe b c=>?_))
 .have d:SP X a_ D f b:=by
   cases f with
   |next=>obtain⟨a,H',J,q⟩:=c;exact⟨a,H',J.outTry I.ok,q⟩
   |brk=>obtain⟨a,H',J,q⟩:=c;exact⟨a,H',J.outTry I.ok,q⟩
   |cont=>obtain⟨a,H',J,q⟩:=c;exact⟨a,H',J.outTry I.ok,q⟩
   |ret u=>obtain⟨v,a,H',J,r,q⟩:=c;exact⟨v,a,H',J.outTry I.ok,r,q⟩
  cases f with
  |next=>exact UH d
  |brk=>exact OP d
  |cont=>exact OP d
  |ret u=>exact OP d
 .refine My (P5 c (λ_ i d=>?_) λ_ _ z=>z)
  show Pc _ _ (Vw e OO>>=_) _ _ i;exact My (P5 d (λ_ Q P=>P) λ_ _ z=>z)
structure XC (K:Pk) (C:OS):Prop where
 sh:∃bm,∀h:Qg,K.In h->j_ h C bm
 sa:RX K (.ref C) "__setattr__"=on (on (.builtin "object.__setattr__"))
 cd:∃cd,clsIn K C=on cd/\cd.hasDict=OT/\fm cd.mro=OT
theorem MZ{K:Pk}{C N:OS}{bs bm:a0g}{hdct:Bool}{ab:Bool}{cd:ClassData}
  (l:K.lookup C=on (excClassObj nm q C N bs bm hdct sn sub ab col dd k0 k1 k2 k3 k5 "ValueError.__new__")) (s:RX K (.ref C) "__setattr__"=on (on (.builtin "object.__setattr__"))) (c:clsIn K C=on cd)
  (g:(bm.contains (.type "ValueError")&&bm.contains (.type "BaseException")&&!bm.contains (.type "AttributeError")&&!bm.contains (.type "NameError")&&cd.hasDict&&fm cd.mro)=OT):XC K C:=by
 simp only[PL,Bool.not_eq_true']at g;obtain⟨⟨⟨⟨⟨a,b⟩,i⟩,d⟩,e⟩,f⟩:=g;exact⟨⟨bm,λh X=>⟨⟨nm,q,N,bs,hdct,sn,sub,ab,col,dd,k0,k1,k2,k3,k5,X _ _ l⟩,a,b,i,d⟩⟩,s,cd,c,e,f⟩
structure XMk (K:Pk) (C f:OS):Prop where
 xc:XC K C
 init:RX K (.ref C) "__init__"=on (on (.ref f))
 fn:isFn K (.ref f)=OT
 kp:U7 K (.ref C)=OT
end
section
variable{X:Cx}{CX:N_}{k:Nat}{f C:OS}{fd:Pp}{ps:a0i}{sp:Sp}{ab:a0k}{ds:a0g}{E:a0r}{x m:PX}{p aa z:Uh}{e o:Expr}{L:List Expr}{ta:TE}{t:TA}
def Ky(C:OS)(sp:Sp)(ab:a0k)(E:a0r)(t:TA):TE:=λa H Q=>t a H λe b=>e.length<=Pf/\∀x,b x=OO->
 sp (.ref x::(e++ab)) (upd b x (d8 C x OO)) (λv c=>v= .non/\Q (.ref x) c) (E a)
theorem Jc{m:a0k}(M:XMk X.K C f)(F:et X.prog X.w X.K X.mg X.base CX k f fd ps sp)(y:ej (k+1) X.A)(B:cA X.K fd ps ds)(t:aw ab ds)
  (J:bV CX X E) (I:cp X a_ σ H s) (r:aw m us) (L:m.length<=Pf)
  (h:∀x,H x=OO->sp (.ref x::(m++ab)) (upd H x (d8 C x OO)) (λv N=>v= .non/\Q (.ref x) N) (E σ)):
  Pc (Pt X.prog X.w) X.A (Vg (.ref C) us) (EP X a_ σ Q) X.xe s:=by
 have l:=h (s.heap.objs.size+1) (I.hok.fresh (Uf _));obtain⟨G,z⟩:=M.xc.sh;have O:cp X a_ σ H {s with heap:=s.heap.push {cls:= .type "tuple",data:= .seq us.toArray}}:=I.kept (t':=s.toks) λb o q=>OQ _ q;have P:((s.heap.push {cls:= .type "tuple",data:= .seq us.toArray}).push (cY C OO s.heap.objs.size)).get? (s.heap.objs.size+1)=on (cY C OO s.heap.objs.size):=by
  have:=Ph (s.heap.push {cls:= .type "tuple",data:= .seq us.toArray}) (o:=cY C OO s.heap.objs.size) rfl;rwa[Qw]at this
 have j:cp X a_ σ (upd H (s.heap.objs.size+1) (d8 C (s.heap.objs.size+1) OO)) {s with heap:=(s.heap.push {cls:= .type "tuple",data:= .seq us.toArray}).push (cY C OO s.heap.objs.size)}:=
  O.laid (a:=s.heap.objs.size+1) (o:=d8 C (s.heap.objs.size+1) OO) (t':=s.toks) (λb u q=>OQ _ q) (XX (Qw _ _)) (sy P)
 have n:aw (V.ref (s.heap.objs.size+1)::(m++ab)) (Pi (s.heap.objs.size+1)::(us++ds)):= .cons rfl (r.append t);have R:(Pi (s.heap.objs.size+1)::us++ds).length=ps.length:=by
  have e:=n.length;rw[F.len _ _ _ _ l]at e;exact e.symm
 have i:Pc (Pt X.prog X.w) (X.A.under (.builtin "type.__call__" ⟨.ref C::us,[]⟩)) (Vg (.ref f) (.ref (s.heap.objs.size+1)::us)) (λr p=>r= .none/\EP X a_ σ Q (.ref (s.heap.objs.size+1)) p) X.xe
   {s with heap:=(s.heap.push {cls:= .type "tuple",data:= .seq us.toArray}).push (cY C OO s.heap.objs.size)}:=by
  refine U8 (Ti (F.run _ X.stack _ _ ⟨Pi (s.heap.objs.size+1)::us,[]⟩ (Pi (s.heap.objs.size+1)::(us++ds)) _ _ (E σ) (y.make C us [])
   (j.env0.make C us []) (B _ (Pi (s.heap.objs.size+1)::us) j.kIn R) n l) λr p c=>?_)
  cases r with
  |error e=>exact J a_ σ _ _ e p j c
  |ok fl=>
   cases fl with
   |ret u=>
    obtain⟨v,T,U,W,Y,D⟩:=j.after c;subst Y;exact⟨W,⟨V.ref (s.heap.objs.size+1),T,U,rfl,D⟩⟩
   |next=>exact Rk c
   |brk=>exact Rk c
   |cont=>exact Rk c
 obtain⟨Z,g,d,S,os⟩:=s;exact GO I.kIn (z _ I.kIn) M.init M.fn (by rw[<-r.length];exact L) i
theorem Lw(M:XMk X.K C f)(F:et X.prog X.w X.K X.mg X.base CX k f fd ps sp)(g:ej (k+1) X.A)(i:Gl X x)(m:X.mg x=on (.ref C))(j:cA X.K fd ps ds)(o:aw ab ds)(l:bV CX X E)
  (z:PA X (e::L) t) (b:b0c x:=by decide) (n:b0a X e L:=by rfl) (c:b0b X aa L:=by rfl):
  PE X (.Call (.Name x p) (e::L) [] aa) (Ky C sp ab E t):=by
 intro a s u H Q I h;refine TY (iU I i m ?_ b);refine X4 (h₀:=X.base) I.ok.mod.kin M.kp (eg (z aa a s u H _ I h) λD y ⟨G,B,d,r,v,q⟩=>⟨d.kIn,?_⟩) n c;exact Jc M F g j o l d r v q
structure ZM (K:Pk) (D:OS) (m:PX) (f:OS):Prop where
 ga:specialIn K (.ref D) "__getattribute__"=on (on (.builtin "type.__getattribute__"))
 rd:PySem.W.readsIn K D (.type "type")=OT
 fnd:Y9 K (.ref D) (.type "type") m=on (.val (.ref f))
 kp:U7 K (.ref f)=OT
theorem yI{D:OS}(c:ZM X.K D m f)(F:et X.prog X.w X.K X.mg X.base CX k f fd ps sp)(j:ej k X.A)(l:Gl X x)(o:X.mg x=on (.ref D))(n:cA X.K fd ps ds)(C:aw ab ds)(q:bV CX X E)
  (G:PA X (e::L) t) (b:b0c x:=by decide) (d:b0a X e L:=by rfl) (g:b0b X aa L:=by rfl)
  (u:Qp (.Call (.Attribute (.Name x p) m z) (e::L) [] aa) X.env=(do
   let N <-Qp (.Name x p) X.env
   Sk z.atName
   let (f,first) <-Tj [N] (UY N m pl)
   WT aa f first (Ri aa (Pd (e::L) X.env)) (Sj aa (Rb [] X.env))):=by rfl):
  PE X (.Call (.Attribute (.Name x p) m z) (e::L) [] aa) (Hi sp ab E t):=by
 intro a s v H Q I h;refine Ws (pl:=pl) (iU I l o ?_ b) u;refine PySem.W.method_cls I.kIn c.ga (PySem.W.cls_value I.kIn c.rd c.fnd rfl ?_);have y:=I.tok (s.toks+1);refine X4 (first:=[]) (h₀:=X.base) I.ok.mod.kin c.kp (eg (G aa a _ v H _ y h) λS B ⟨V,J,i,r,M⟩=>⟨i.kIn,?_⟩) d g
 exact qy F j n C q i r M
def tVin(K:Pk)(t:TA):TE:=λb H Q=>t b H λk a=>∃x C f e,k= .ref x::e/\e.length<=Pf/\a x=on (d8 C x f)/\XC K C/\Q .non (upd a x (d8 C x f))
theorem zH(I:cp X J N H s)(r:aw O P)
  (h:∃x C m f,O= .ref x::f/\f.length<=Pf/\H x=on (d8 C x m)/\XC X.K C/\Q .non (upd H x (d8 C x m))):Pc (Pt X.prog X.w) X.A (Vg (.builtin "ValueError.__init__") P) (EP X J N Q) X.xe s:=by
 obtain⟨x,C,m,f,rfl,l,a,c,q⟩:=h;cases r with
 |cons r1 n=>
  cases r1;obtain⟨z,v⟩:=lT (I.hok x _ a);obtain⟨D,o⟩:=c.sh;obtain⟨F,g,d,i,p⟩:=s;refine DW (o _ I.kIn) v (by rw[<-n.length];exact l) λt j k=>?_;have y:cp X J N (upd H x (d8 C x m)) ⟨t,g,d,i,p⟩:=I.write (t':=i) (x:=x) (e:=x) (by rw[a];exact SB) (.inl rfl) (λb u B q=>k b u B q) ⟨_,j⟩ (sy j);exact⟨.non,_,y,rfl,q⟩
theorem ID:ZD (.type "ValueError")=Rh (.type "type"):=by kernel_rfl
theorem IE:Manifest.isStub "ValueError"=OW:=by decide +kernel
theorem IF{K:Pk}:Y9 K (.type "ValueError") (.type "type") "__init__"=on (.val (.builtin "ValueError.__init__")):=by kernel_rfl
set_option maxHeartbeats 4000000 in
theorem FT(d:Gl X "ValueError")(k:X.mg "ValueError"=OO)(o:PA X (e::L) t)(b:b0a X e L:=by rfl)(c:b0b X aa L:=by rfl)
  (g:Qp (.Call (.Attribute (.Name "ValueError" p) "__init__" z) (e::L) [] aa) X.env=(do
   let r <-Qp (.Name "ValueError" p) X.env
   Sk z.atName
   let (f,first) <-Tj [r] (UY r "__init__" pl)
   WT aa f first (Ri aa (Pd (e::L) X.env)) (Sj aa (Rb [] X.env))):=by rfl):
  PE X (.Call (.Attribute (.Name "ValueError" p) "__init__" z) (e::L) [] aa) (tVin X.K t):=by
 intro a s i H Q I h;obtain⟨m,F⟩:=I.fr;refine Ws (pl:=pl) (fK I d k Boot.«ValueError» ?_) g;refine PySem.W.method_type (v:= .builtin "ValueError.__init__") F I.mod.kin ID IE IF rfl ?_;have j:=I.tok (s.toks+1);exact VB (eg (o aa a _ i H _ j h) λC n ⟨D,q,l,r1,x⟩=>zH l r1 x) b c
def KW(K:Pk)(ta g:TE)(f:PX):TS:=λD b H=>g b H λy h=>ta b h λx c=>∃a C,x= .ref a/\c a=on (d8 C a OO)/\XC K C/\RX K (.ref C) f=on OO/\
 ∀d,c d=OO->d≠a->D.nx b (upd (upd c d (.xd [(f,y)])) a (d8 C a (on d)))
theorem FM{o d:Expr}{f:PX}(t:PE X o ta)(R:PE X d tv)(E:T0 d (on (.Attribute o f pos')) aa.line X.env=Rh OW):PS X (.Assign [.Attribute o f pos'] d aa) (KW X.K ta tv f):=by
 intro l s B H D I h;refine Xa (eg (R l s B H _ I h) λu T F=>?_) E;obtain⟨y,U,W,Y,q⟩:=F;refine eg (t l T B U _ W q) λZ r G=>?_;obtain⟨x,L,w,M,a,C,S,A,c,n,V⟩:=G;subst S;obtain rfl:Z=Pi a:=M;obtain⟨t0,N⟩:=lT (w.hok a _ A);obtain⟨cd,c1,c2,c3⟩:=c.cd;refine GM w.kIn N c.sa c1 c2 c3 n λh' O P k=>?_;have m:L r.heap.objs.size=OO:=w.fresh;have J:r.heap.objs.size≠a:=RW (Ps N);have od:∃o,h'.get? r.heap.objs.size=on o:=let ⟨o,_,_,e,_⟩:=P;⟨o,e⟩
 have i:∀b o,L b=on o->(∀φ,o≠ .ext φ)->b≠a:=λb o e hn z=>by subst z;rw[A]at e;cases e;exact hn _ rfl
 refine⟨B,_,w.un (h':=h') (t':=r.toks+2) ⟨λb o e j _ _=>k b o (λz=>by subst z;rw[A]at j;cases j) e,λb o e j _ _=>⟨o.slots,k b o (λz=>by subst z;rw[A]at j;cases j) e⟩,λb o e j _=>?_,λb o e _=>?_,λb p e=>?_,λb o p e=>?_,λb p e=>?_⟩ λb o e=>?_,V _ m J⟩
 .rw[bt (λz=>by subst z;rw[A]at j;cases j),bt (P4 (Ps e))];exact j
 .by_cases z:b=a
  .subst z;exact⟨_,O⟩
  .exact⟨o,k b o z e⟩
 .rw[bt (i b _ e λ_ z=>by cases z),bt (b_ e m)];exact e
 .rw[bt (i b _ e λ_ z=>by cases z),bt (b_ e m)];exact e
 .exact⟨#[],by rw[bt (i b _ e λ_ z=>by cases z),bt (b_ e m),e];simp⟩
 .by_cases z:b=a
  .subst z
   rw[am]at e;cases e;exact sy O
  .rw[bt z]at e
   by_cases Q:b=r.heap.objs.size
   .subst Q
    rw[am]at e;cases e;refine⟨_,P,λg=>?_⟩;by_cases q:g=f
    .subst q
     simp only[SY,Wn,Qm];exact Y
    .have hb:(g==f)=OW:=beq_eq_false_iff_ne.mpr q
     simp only[SY,hb,List.lookup_nil,O1 q];trivial
   .rw[bt Q]at e
    refine(w.hok b o e).stay (λc v hc q=>k c v ?_ q) (λc q=>?_) λc p q=>?_
    .rcases hc with rfl|hc
     .exact z
     .exact i c _ hc λ_ z=>by cases z
    .rw[bt (i c _ q λ_ z=>by cases z),bt (b_ q m)];exact q
    .rw[bt (i c _ q λ_ z=>by cases z),bt (b_ q m)];exact q
def AG(e:Hp)(K:Pk)(E:XK)(b:TE):TS:=λ_ c H=>b c H λv a=>∃x C f,v= .ref x/\a x=on (d8 C x f)/\e x=OO/\XC K C/\E (.ref C) OO (fY a x)
end
section
variable{P:PN}{w:PV}{K:Pk}{J:a0j}{base:Qg}{N:a0i}{y:PX}{F:Scope}{f:OS}{cd:OX}{A:Qn}{B:a0B}{s:O3}{H:Hp}{E:XK}
theorem gQ:bV (gs P w) (c9 (gs P w) P w K J base N y F f cd A B s H E) (λ_=>E):=λa b c d e D I h=>Jr (X:=c9 (gs P w) P w K J base N y F f cd A B s H E) rfl rfl rfl (λ_ _ _ z=>z) I h
theorem oj:bV (gs P w) X E0:=λ_ _ _ _ _ _ _ h=>by
 obtain⟨_,_,_,_,F⟩:=h;exact F.wish.elim
theorem bW:Y7 (Pt P w) (A.deeper (TV y F s.heap.objs.size f cd)) (TV y F s.heap.objs.size f cd) (c9 (gs P w) P w K J base N y F f cd A B s H E).xe:=PassesOwn.leaving
theorem FK(M:A.handled=OO)(g:PE (c9 (gs P w) P w K J base N y F f cd A B s H E) e t):PS (c9 (gs P w) P w K J base N y F f cd A B s H E) (.Raise (on e) OO z) (AG H K E t):=by
 intro a i j k D I h;rw[arm_exec_Raise];refine My (QK ?_);refine DX (env:=(c9 (gs P w) P w K J base N y F f cd A B s H E).env) (bm:=[]) (dx:=OO) (t0:=0) M ?_;refine My (eg (g a i j k _ I h) λu o l=>?_);obtain⟨v,p,b,r,x,C,dx,m,G,n,c,q⟩:=l;refine My (QK (OP ?_));subst m;obtain rfl:u=Pi x:=r;obtain⟨t0,d⟩:=lT (b.hok x _ G);obtain⟨bm,S⟩:=c.sh;exact⟨x,t0,dx,C,bm,rfl,S _ b.kIn,d,FZ (X:=c9 (gs P w) P w K J base N y F f cd A B s H E) rfl rfl rfl b G n q⟩
structure hV (K:Pk) (x y:PX) (st:Qk) (f:OS) (fd:Pp):Prop where
 ex:∃(oc:OX) (od:a0A) (dV kV doc pm:OX) (an:a0A) (cdv ct:OX) (osl:Array (Option OX)),
  fd=Tu x y (iZ st) (cz st) (ae st) dV kV doc pm an cdv ct/\K.lookup f=on ⟨oc,od,.func fd,osl⟩/\Um K cdv y=OT
 kp:U7 K (.ref f)=OT
theorem JW{K:Pk}{x y:PX}{s:Qk}{f:OS}(l:K.lookup f=on ⟨oc,od,.func (Tu x y (iZ s) (cz s) (ae s) dV kV doc pm an a ct),b⟩)
  (c:Um K a y=OT) (k:U7 K (.ref f)=OT):hV K x y s f (Tu x y (iZ s) (cz s) (ae s) dV kV doc pm an a ct):=⟨⟨oc,od,dV,kV,doc,pm,an,a,ct,b,rfl,l,c⟩,k⟩
theorem hV.okE{x y:PX}{G:Qk}{f:OS}{N M:a0i}(F:hV K x y G f r)(S:b5 N M (ae G))(V:∀D H Q E,q D H Q E->D.length=M.length)
  (b:∀(a:OX) (A:Qn) (B:a0B) (s:O3) (H:Hp) (D:a0k) (Q:VK) (E:XK),ej k (A.deeper (TV y (ae G) s.heap.objs.size f a))->q D H Q E->
   ∃t,PSs (c9 (gs P w) P w K J base N y (ae G) f a A B s H E) (cz G) t/\t {nx:=λ_ e=>Q .non e,rt:=Q} (fL N D) H):et P w K J base (gs P w) (k+1) f r M q:=by
 obtain⟨l,m,n,o,g,u,p,a,v,h,rfl,i,c⟩:=F.ex;exact Ii i c S V λA B s H D Q E j d=>b a A B s H D Q E j d
theorem hV.ok{x y:PX}{D:Qk}{f:OS}{N G:a0i}(F:hV K x y D f u)(S:b5 N G (ae D))(M:∀vs H Q E,sp vs H Q E->vs.length=G.length)
  (b:∀(a:OX) (A:Qn) (B:a0B) (s:O3) (H:Hp) (vs:a0k) (Q:VK) (E:XK),ej k (A.deeper (TV y (ae D) s.heap.objs.size f a))->sp vs H Q E->
   ∃t,PSs (c9 (gs P w) P w K J base N y (ae D) f a A B s H E).nox (cz D) t/\t {nx:=λ_ e=>Q .non e,rt:=Q} (fL N vs) H):et P w K J base (gs P w) (k+1) f u G sp:=by
 obtain⟨m,n,o,p,g,V,r,a,v,i,rfl,j,c⟩:=F.ex;refine Ii j c S M λA B s H vs Q E l d=>?_;obtain⟨t,h,q⟩:=b a A B s H vs Q E l d;exact⟨t,h.nox,q⟩
abbrev TJ:=St->Hp->Nat->(Nat->Hp->Prop)->Prop
def PJ(X:Cx)(y:List Expr)(t:TJ):Prop:=
 ∀(a:a0b) (s:O3) (b:St) (H:Hp) (f:PX) (Q:VK),cp X a b H s->f.length<=Pf->(t b H f.length λn c=>n<=Pf/\∀z:PX,z.length<=n->Q (.str z) c)->
  Pc (Pt X.prog X.w) X.A (joinParts f (Ua y X.env)) (EP X a b Q) X.xe s
noncomputable def jNil:TJ:=λ_ H n Q=>Q n H
def jStr(m:Nat)(t:TJ):TJ:=λa H n Q=>n+m<=Pf/\t a H (n+m) Q
def jInt(b:TE)(t:TJ):TJ:=λa H n Q=>b a H λv c=>∃i,v= .int i/\i.natAbs.log2<1920/\n+1921<=Pf/\∀m,m<=n+1921->t a c m Q
def Nh(t:TJ):TE:=λa H Q=>t a H 0 λn b=>n<=Pf/\∀z:PX,z.length<=n->Q (.str z) b
variable{X:Cx}{es:List Expr}{t:TJ}{d:Uh}
theorem Lj:PJ X [] jNil:=λa s c H d Q I b h=>joinParts_nil ⟨.str d,H,I.tok _,⟨_,rfl⟩,h.2 d (O5 _)⟩ b
theorem Li{x:PX}(h:PJ X es t)(c:Ua (.Constant (.str x) j p::es) X.env=Qp (.Constant (.str x) j p) X.env::Ua es X.env:=by rfl):PJ X (.Constant (.str x) j p::es) (jStr x.length t):=by
 intro a s d H f Q I k g;rw[c];obtain⟨b,i⟩:=g;refine joinParts_cons (YB ?_);have e:(f++x).length=f.length+x.length:=strLen_append f x;exact⟨by rw[e];exact b,h a _ d H (f++x) Q (I.tok _) (by rw[e];exact b) (by rw[e];exact i)⟩
theorem Lk(g:PE X v x)(h:PJ X es t)(j:Ua (.FormattedValue v (-1) OO p::es) X.env=Qp (.FormattedValue v (-1) OO p) X.env::Ua es X.env:=by rfl):PJ X (.FormattedValue v (-1) OO p::es) (jInt x t):=by
 intro a s c H f Q I o k;rw[j];refine joinParts_cons (FormattedValue_plain (eg (g a s c H _ I k) λu B ⟨y,l,m,r,i,n,d,C,q⟩=>?_));subst n;obtain⟨F,rfl⟩:=r;refine wpAny_formatField_int d ?_;have e:(f++Q4 (toString i)).length=f.length+(Q4 (toString i)).length:=strLen_append f _;have J:=int_text_len_1921 d;have b:(f++Q4 (toString i)).length<=Pf:=by rw[e];lia
 refine⟨b,h a _ c l _ Q (m.tok _) b ?_⟩;rw[e];exact q _ (by lia)
theorem Jp(h:PJ X (v1::v2::rest) t):PE X (.JoinedStr (v1::v2::rest) d) (Nh t):=λa s b H Q I c=>
 JoinedStr_many (h a s b H SK Q I (by decide) c)
theorem tY(hc:X.calm=OT):cM X (.builtin "sum") (λf H Q=>∃(a:OS) (t:a0e),f=[.ref a]/\fx X.K H a (t.map V.int)/\Q (.int t.sum) H):=by
 intro b s n H f A Q I r h;obtain⟨a,t,rfl,i,q⟩:=h;cases r with
 |cons r1 j=>
  cases r1;cases j;obtain⟨w,k,p,o⟩:=I.list i;have c:=lL k;obtain⟨f,y⟩:=c.allInts.items;have d:=p.isList;rw[y]at d;refine sum_intListG (I.ok.hd hc) d λB u D l=>?_;have e:preSum (WW f) f.size=t.sum:=by
   have g:=c.numsOf;have m:w=(Tz f).toList:=by rw[<-y]
   rw[m,YV]at g;rw[preSum_eq,RQ (by simp),g]
  rw[e];exact⟨.int t.sum,H,I.kept l,⟨_,rfl⟩,q⟩
def uT(i j:Int):Prop:=0<j/\j.natAbs.log2<9000
theorem jl:gt X (R9 .FloorDiv) (rI uT λi j=> .int (i/j)):=nS λi j _ _ _ _ _ hc q=>by
 have a:(0:Int)<j:=hc.1;refine floordiv_int (by lia) ?_ (.inl (WR hc.2));rw[UD _ (by lia)];exact q
def ipC(C:a0U)(f:a0I):TIp:=λx y H Q=>∃i j,x= .int i/\y= .int j/\C i j/\Q (.int (f i j)) H
theorem JS:PIp X .FloorDiv (ipC uT λi j=>i/j):=by
 intro a s d H x y v u Q I r1 b h;obtain⟨i,j,rfl,rfl,c,q⟩:=h;obtain⟨t,rfl⟩:=r1;obtain⟨f,rfl⟩:=b;have e:(0:Int)<j:=c.1;refine ifloordiv_int (by lia) ?_ (.inl (WR c.2));rw[UD _ (by lia)];exact⟨.int _,H,I.tok _,⟨_,rfl⟩,q⟩
theorem z6:∀{d:List String} {f:a0g},aw (d.map V.ty) f->f=d.map Sf
 |[],_,r=>by cases r;rfl
 |c::d,_,r=>by
  cases r with
  |cons r1 a=>
   cases r1;rw[z6 a];rfl
theorem zF{K:Pk}{xs:a0k}{H:Hp}(Pv:Nat->St->Hp->Prop)(u:Pv 0 c H)(k:∀i c H,i<=xs.length->Pv i c H->fx K H a xs)
  (h:∀i x c H,xs[i]?=on x->Pv i c H->g x c H λd v=>z d v λb r=>if b=OT then C d r (Pv (i+1))else Pv (i+1) d r) (l:∀c H,Pv xs.length c H->Q c H):c8 (Itl K a) g z C c H Q:=by
 refine⟨λi m c H=>i<=xs.length/\m+i=xs.length/\Pv i c H,⟨xs.length,Qi _,by lia,u⟩,λi m c H ⟨n,f,j⟩=>?_⟩;by_cases o:i<xs.length
 .refine .inr ⟨⟨xs,xs[i],k i c H n j,OV o⟩,Pv (i+1),λy p q=>⟨m-1,by lia,by lia,by lia,q⟩,λx p ⟨e,B⟩=>?_⟩
  subst e;exact h i x c p (B xs (k i c p n j)) j
 .obtain rfl:i=xs.length:=by lia
  exact .inl ⟨⟨xs,k _ c H n j,O5 _⟩,l c H j⟩
theorem dc.plain{X:Cx}{F:Scope}(k:F.kind= .function)(d:(F.names.map (·.1)).Nodup)(f:∀y∈F.names,y.2≠ .free):dc X F c_ c_ []:=
 ⟨k,d,λy a e=>Px e (f y a),by simp,λj b=>Px b (by simp)⟩
def uS(i j:Int):Prop:=i.natAbs<2^1000/\j.natAbs<2^1000
theorem j4{k:Int}(h:k.natAbs<2^1000):W2 k<=2^20:=by
 unfold W2;split
 .exact Qi _
 .rename_i a
  have b:k.natAbs≠0:=by
   intro z;have:k=0:=Int.natAbs_eq_zero.mp z;subst this;simp at a
  have:=(YI b).mpr h;have e:(2:Nat)^20=1048576:=by decide
  lia
theorem cc{X:Cx}:gt X (R9 .Mult) (rI uS λi j=> .int (i*j)):=nS λ_ _ _ _ _ _ _ hc q=>mul_int q (Yo (j4 hc.1) (j4 hc.2))
theorem bP.upd{H:Hp}(h:H a=OO):bP H (upd H a o):=λb u e=>by rw[bt (b_ e h)];exact e
abbrev eX:=Int×a0e
abbrev a0o:=List (eX×OS×V)
abbrev a0C:=List (eX×OS×OX)
abbrev a0V:=List eX
noncomputable def hI(k:a0e):Int:=reduceHash (T7 (k.map hashInt))
def hB:Bool->eX->Int
 |true,k=>reduceHash (T7 [hashInt k.1,hI k.2])
 |false,k=>hI k.2
def zP(a:OS)(b:Bool)(f:Nat)(s:a0o)(h:Qg):Prop:=
 ∃o es,∃d:a0C,h.get? a=on o/\o.ExactDict/\o.data= .dict es f/\es.toList=d.map (λy=>⟨hB b y.1,.ref y.2.1,y.2.2⟩)/\(d.map (·.1)).Nodup/\(a==Wz)=OW/\d.length<=Pf/\
  U2 (λ(x:eX×OS×V) (y:eX×OS×OX)=>x.1=y.1/\x.2.1=y.2.1/\aO x.2.2 y.2.2) s d
noncomputable def bB(a:OS)(b:Bool)(d:Nat)(f:a0o):HO:= .ext (zP a b d f)
theorem kS{P:PN}{w:PV}{b:Bool}{H:Hp}(S:zP a b g i h):bF P w H h a (bB a b g i):=by
 refine⟨S,?_,λc d z k=>?_⟩
 .obtain⟨o,_,_,e,_⟩:=S
  exact⟨o,e⟩
 .obtain⟨o,es,ys,e,r⟩:=z
  exact⟨o,es,ys,k _ e,r⟩
end
end L2
namespace L2.Pu
theorem lm{D d e:Sort _}{P Q R:D->d->e->Prop}{C:Prop}(h:∃a b c,P a b c/\Q a b c/\R a b c)(k:∀a b c,P a b c->Q a b c->R a b c->C):C:=by
 obtain⟨a,b,c,x,y,z⟩:=h;exact k a b c x y z
theorem pa{D c:Sort _}{P Q R:D->c->Prop}{C:Prop}(h:∃a b,P a b/\Q a b/\R a b)(k:∀a b,P a b->Q a b->R a b->C):C:=by
 obtain⟨a,b,x,y,z⟩:=h;exact k a b x y z
inductive D where
 |non|bl (b:Bool)|int (i:Int)|str (x:PX)|ty (n:String)|txt
 |lst (xs:List D)|tup (xs:List D)|scr (xs:a0e)|obj (C:OS) (ns:a0i) (xs:List D)|bag|adr (a:OS)|dct (b:Bool) (ks:a0V) (vs:List D)
abbrev a0c:=List D
abbrev a0l:=Option D
abbrev a0u:=List a0c
abbrev a0F:=Option a0c
abbrev a0X:=D->D->a0l
structure Bg where
 cells:a0e
 i:Int
 j:Int
structure Fx where
 A:OS->Prop
 bg:a0s
def KL(K:Pk)(a:OS)(E:a0k):Prop:=
 ∃(o:Qx) (D:a0H) (n:Nat),K.lookup a=on o/\o.cls= .type "list"/\o.dict=OO/\o.data= .seq D n/\D.size<=Pf/\aw E D.toList
def KT(K:Pk)(a:OS)(E:a0k):Prop:=
 ∃(o:Qx) (D:a0H) (n:Nat),K.lookup a=on o/\o.cls= .type "tuple"/\o.data= .seq D n/\D.size<=Pf/\aw E D.toList
def TQ(K:Pk)(F:Fx)(H:Hp)(c:OS)(D:a0k):Prop:=(¬F.A c/\Rd H c (.tup D))\/KT K c D
def fE(K:Pk)(F:Fx)(H:Hp):Bool->eX->OS->Prop
 |true,k,c=>∃e,TQ K F H c [.int k.1,.ref e]/\TQ K F H e (k.2.map V.int)
 |false,k,c=>k.1=0/\TQ K F H c (k.2.map V.int)
mutual
noncomputable def c4(K:Pk)(F:Fx)(H:Hp):D->V->Prop
 | .non,v=>v= .non
 | .bl b,v=>v= .bl b
 | .int i,v=>v= .int i
 | .str x,v=>v= .str x
 | .ty n,v=>v= .ty n
 | .txt,v=>∃z,v= .str z
 | .lst ds,v=>∃a E,v= .ref a/\(¬F.A a/\Rd H a (.lst E))/\bb K F H ds E
 | .scr ns,v=>∃a,v= .ref a/\((¬F.A a/\Rd H a (.lst (ns.map V.int)))\/KL K a (ns.map V.int))
 | .tup ds,v=>∃a E,v= .ref a/\((¬F.A a/\Rd H a (.tup E))\/KT K a E)/\bb K F H ds E
 | .obj C ns ds,v=>∃a G E,v= .ref a/\¬F.A a/\H a=on (.ins C G (ns.zip E))/\ns.length=E.length/\bb K F H ds E
 | .bag,v=>∃b l,F.bg=on (b,l)/\v= .ref b
 | .adr a,v=>v= .ref a
 | .dct b ks vs,v=>∃a M E,v= .ref a/\(¬F.A a/\H a=on (bB a b M E))/\ks=E.map (·.1)/\(∀x∈E,fE K F H b x.1 x.2.1)/\bb K F H vs (E.map (·.2.2))
noncomputable def bb(K:Pk)(F:Fx)(H:Hp):a0c->a0k->Prop
 |[],xs=>xs=[]
 |d::ds,xs=>∃x r,xs=x::r/\c4 K F H d x/\bb K F H ds r
end
structure Tr (F:Fx) (H:Hp) (F2:Fx) (H2:Hp):Prop where
 av:∀a,¬F.A a->H a≠OO->¬F2.A a
 kp:∀a o,¬F.A a->H a=on o->H2 a=on o
 bg:F2.bg=F.bg
theorem Tr.refl(F:Fx)(H:Hp):Tr F H F H:=⟨λ_ h _=>h,λ_ _ _ h=>h,rfl⟩
theorem Tr.trans(a:Tr F H F1 H1)(b:Tr F1 H1 F2 H2):Tr F H F2 H2:=
 ⟨λx c d=>b.av x (a.av x c d) (by
   cases q:H x with
   |none=>exact Px q d
   |some o=>rw[a.kp x o c q];simp),
  λx o c d=>b.kp x o (a.av x c (by rw[d];simp)) (a.kp x o c d),b.bg.trans a.bg⟩
theorem Rd.tr{F b:Fx}(t:Tr F H b H2)(h:¬F.A a)(r:Rd H a u):¬b.A a/\Rd H2 a u:=by
 rcases r with r|⟨o,r⟩
 .exact⟨t.av a h (by rw[r];simp),.inl (t.kp a _ h r)⟩
 .exact⟨t.av a h (by rw[r];simp),.inr ⟨o,t.kp a _ h r⟩⟩
theorem TQ.tr{K:Pk}(t:Tr F H F2 H2)(h:TQ K F H c xs):TQ K F2 H2 c xs:=h.imp (λh=>Rd.tr t h.1 h.2) id
theorem fE.tr{K:Pk}{b:Bool}(t:Tr F H F2 H2)(h:fE K F H b k c):fE K F2 H2 b k c:=by
 cases b with
 |true=>
  obtain⟨e,a,d⟩:=h;exact⟨e,a.tr t,d.tr t⟩
 |false=>exact⟨h.1,h.2.tr t⟩
mutual
theorem c4.tr{K:Pk}(t:Tr F H F2 H2):∀(d:D) (v:V),c4 K F H d v->c4 K F2 H2 d v
 | .non,v,h=>h
 | .bl b,v,h=>h
 | .int i,v,h=>h
 | .str x,v,h=>h
 | .ty n,v,h=>h
 | .txt,v,h=>h
 | .lst ds,v,h=>by
  unfold c4 at h⊢;obtain⟨a,E,e,c,f⟩:=h;exact⟨a,E,e,Rd.tr t c.1 c.2,bb.tr t ds E f⟩
 | .scr ns,v,h=>by
  unfold c4 at h⊢;obtain⟨a,e,c⟩:=h;exact⟨a,e,c.imp (λ⟨p,q⟩=>Rd.tr t p q) id⟩
 | .tup ds,v,h=>by
  unfold c4 at h⊢;obtain⟨a,E,e,c,f⟩:=h;exact⟨a,E,e,c.imp (λ⟨p,q⟩=>Rd.tr t p q) id,bb.tr t ds E f⟩
 | .obj C ns ds,v,h=>by
  unfold c4 at h⊢;obtain⟨a,G,E,e,c,f,g,j⟩:=h;exact⟨a,G,E,e,t.av a c (by rw[f];simp),t.kp a _ c f,g,bb.tr t ds E j⟩
 | .bag,v,h=>by
  unfold c4 at h⊢;rw[t.bg];exact h
 | .adr a,v,h=>by
  unfold c4 at h⊢;exact h
 | .dct b ks vs,v,h=>by
  unfold c4 at h⊢;obtain⟨a,M,E,e,c,f,g,j⟩:=h;exact⟨a,M,E,e,⟨t.av a c.1 (by rw[c.2];simp),t.kp a _ c.1 c.2⟩,f,λx k=>(g x k).tr t,bb.tr t vs _ j⟩
theorem bb.tr{K:Pk}(t:Tr F H F2 H2):∀(ds:a0c) (xs:a0k),bb K F H ds xs->bb K F2 H2 ds xs
 |[],xs,h=>h
 |d::ds,xs,h=>by
  unfold bb at h⊢;obtain⟨x,r,e,a,b⟩:=h;exact⟨x,r,e,c4.tr t d x a,bb.tr t ds r b⟩
end
section
variable{K:Pk}{F:Fx}{H:Hp}
theorem bb.nil:bb K F H [] []:=rfl
theorem bb.cons(h:c4 K F H d x)(t:bb K F H ds xs):bb K F H (d::ds) (x::xs):=⟨x,xs,rfl,h,t⟩
theorem bb.length:∀{ds:a0c} {xs:a0k},bb K F H ds xs->ds.length=xs.length
 |[],xs,h=>by have e:xs=[]:=h;subst e;rfl
 |d::ds,xs,h=>by
  obtain⟨x,r,e,_,a⟩:=h;subst e;rw[Pg,Pg,bb.length a]
theorem bb.get:∀{E:a0c} {G:a0k} {i:Nat} {d:D},bb K F H E G->E[i]?=on d->∃x,G[i]?=on x/\c4 K F H d x
 |[],_,_,_,_,e=>by simp at e
 |c::E,G,0,d,h,e=>by
  obtain⟨x,r,q,a,b⟩:=h;subst q;simp at e;subst e;exact⟨x,rfl,a⟩
 |c::E,G,i+1,d,h,e=>by
  obtain⟨x,r,q,a,b⟩:=h;subst q;obtain⟨y,f,g⟩:=bb.get (i:=i) (d:=d) b (by simpa using e);exact⟨y,by simpa using f,g⟩
theorem bb.getV:∀{E:a0c} {D:a0k} {i:Nat} {x:V},bb K F H E D->D[i]?=on x->∃d,E[i]?=on d/\c4 K F H d x
 |[],D,_,_,h,e=>by have q:D=[]:=h;subst q;simp at e
 |c::E,D,0,d,h,e=>by
  obtain⟨x,r,q,a,b⟩:=h;subst q;simp at e;subst e;exact⟨c,rfl,a⟩
 |c::E,D,i+1,d,h,e=>by
  obtain⟨x,r,q,a,b⟩:=h;subst q;obtain⟨y,f,g⟩:=bb.getV (i:=i) (x:=d) b (by simpa using e);exact⟨y,by simpa using f,g⟩
theorem bb.append:∀{ds E:a0c} {xs D:a0k},bb K F H ds xs->bb K F H E D->bb K F H (ds++E) (xs++D)
 |[],_,xs,_,h,h'=>by have q:xs=[]:=h;subst q;exact h'
 |c::ds,E,xs,D,h,h'=>by
  obtain⟨x,r,q,a,b⟩:=h;subst q;exact⟨x,r++D,rfl,a,bb.append b h'⟩
theorem bb.take:∀{ds:a0c} {D:a0k} (n:Nat),bb K F H ds D->bb K F H (ds.take n) (D.take n)
 |[],D,n,h=>by have q:D=[]:=h;subst q;simp;rfl
 |c::ds,D,0,h=>by simp;rfl
 |c::ds,D,n+1,h=>by
  obtain⟨x,r,q,a,b⟩:=h;subst q;exact⟨x,r.take n,rfl,a,bb.take n b⟩
theorem bb.drop:∀{ds:a0c} {D:a0k} (n:Nat),bb K F H ds D->bb K F H (ds.drop n) (D.drop n)
 |[],D,n,h=>by have q:D=[]:=h;subst q;simp;rfl
 |c::ds,D,0,h=>h
 |c::ds,D,n+1,h=>by
  obtain⟨x,r,q,b,a⟩:=h;subst q;exact bb.drop n a
theorem bb.set:∀{ds:a0c} {xs:a0k} (i:Nat) {d:D} {x:V},bb K F H ds xs->c4 K F H d x->bb K F H (ds.set i d) (xs.set i x)
 |[],xs,i,_,_,h,_=>by have q:xs=[]:=h;subst q;simp;rfl
 |c::ds,xs,0,d,x,h,hd=>by
  obtain⟨y,r,q,b,a⟩:=h;subst q;exact⟨x,r,rfl,hd,a⟩
 |c::ds,xs,i+1,d,x,h,hd=>by
  obtain⟨y,r,q,b,a⟩:=h;subst q;exact⟨y,r.set i x,rfl,b,bb.set i a hd⟩
theorem c4.sqL(h:c4 K F H (.lst d) v):∃a D,v= .ref a/\fx K H a D/\bb K F H d D:=by
 unfold c4 at h;obtain⟨a,D,e,b,c⟩:=h;exact⟨a,D,e,.inl b.2,c⟩
theorem c4.rdL(h:c4 K F H (.lst d) v):∃a D,v= .ref a/\Rd H a (.lst D)/\bb K F H d D:=by
 unfold c4 at h;obtain⟨a,D,e,b,c⟩:=h;exact⟨a,D,e,b.2,c⟩
theorem c4.scr{D:a0e}(h:c4 K F H (.scr D) v):∃a,v= .ref a/\fx K H a (D.map V.int):=by
 unfold c4 at h;obtain⟨a,e,b⟩:=h;exact⟨a,e,b.imp (λp=>p.2) id⟩
theorem c4.sqT(h:c4 K F H (.tup d) v):∃a D,v= .ref a/\io K H a D/\bb K F H d D:=by
 unfold c4 at h;obtain⟨a,D,e,b,c⟩:=h;exact⟨a,D,e,b.imp (λp=>p.2) id,c⟩
theorem c4.int(h:c4 K F H (.int i) v):v= .int i:=h
theorem c4.bl{i:Bool}(h:c4 K F H (.bl i) v):v= .bl i:=h
theorem c4.str(h:c4 K F H (.str i) v):v= .str i:=h
theorem c4.non(h:c4 K F H .non v):v= .non:=h
theorem c4.ty(h:c4 K F H (.ty n) v):v= .ty n:=h
theorem bb.ints:∀(E:a0e) {G:a0k},bb K F H (E.map D.int) G->G=E.map V.int
 |[],G,h=>h
 |n::E,G,h=>by
  obtain⟨x,r,e,a,b⟩:=h;rw[e,bb.ints E b];have q:x= .int n:=a;rw[q];rfl
theorem bb.ofInts:∀(E:a0e),bb K F H (E.map D.int) (E.map V.int)
 |[]=>rfl
 |n::E=>⟨.int n,E.map V.int,rfl,rfl,bb.ofInts E⟩
structure Fr (F:Fx) (H:Hp) (β:Bg):Prop where
 occ:∀a,F.A a->H a≠OO
 bgA:∀b l,F.bg=on (b,l)->F.A b/\F.A l/\b≠l
 bag:∀b l,F.bg=on (b,l)->H b=on (.lst [.ref l,.int β.i,.int β.j])/\H l=on (.lst (β.cells.map V.int))
structure To (F:Fx) (H H':Hp) (β':Bg):Prop where
 kp:∀a o,H a=on o->(∀b l,F.bg=on (b,l)->a≠b/\a≠l)->H' a=on o
 fr:Fr F H' β'
theorem To.refl{F:Fx}{H:Hp}(fr:Fr F H a):To F H H a:=⟨λ_ _ h _=>h,fr⟩
theorem To.trans{F:Fx}{H c d:Hp}(a:To F H c β1)(b:To F c d e):To F H d e:=⟨λx o h n=>b.kp x o (a.kp x o h n) n,b.fr⟩
theorem Fr.same{F:Fx}{H c:Hp}(fr:Fr F H d)(s:bP H c):To F H c d:=
 ⟨λa o h _=>s a o h,⟨λa h q=>(by
  cases e:H a with
  |none=>exact fr.occ a h e
  |some o=>exact Px ((s a o e).symm.trans q) (by simp)),fr.bgA,λb l e=>⟨s _ _ (fr.bag b l e).1,s _ _ (fr.bag b l e).2⟩⟩⟩
theorem Fr.upd{F:Fx}{H:Hp}(fr:Fr F H a)(o:HO)(h:H p=OO):To F H (upd H p o) a:=fr.same (bP.upd h)
theorem Fr.fresh{F:Fx}{H:Hp}(fr:Fr F H a)(h:H p=OO):¬F.A p:=λq=>fr.occ p q h
theorem To.tr{F:Fx}{H c:Hp}(fr:Fr F H f)(t:To F H c d):Tr F H F c:=
 ⟨λ_ h _=>h,λa o h e=>t.kp a o e λb l q=>⟨λz=>h (z▸(fr.bgA b l q).1),λz=>h (z▸(fr.bgA b l q).2.1)⟩,rfl⟩
abbrev Dn:=List a0l
structure i0 (K:Pk) (F:Fx) (H:Hp) (δ:Dn) (σ:St):Prop where
 len:δ.length=σ.length
 tell:∀(i:Nat) (d:D),δ[i]?=on (on d)->∃v,σ[i]?=on (on v)/\c4 K F H d v
theorem i0.tr{K:Pk}{F a:Fx}{H b:Hp}(t:Tr F H a b)(h:i0 K F H c f):i0 K a b c f:=⟨h.len,λi d e=>let ⟨v,h1,h2⟩:=h.tell i d e;⟨v,h1,c4.tr t d v h2⟩⟩
theorem i0.set{K:Pk}{F:Fx}{H:Hp}{D:Dn}{a:St}(h:i0 K F H D a)(E:c4 K F H d v):i0 K F H (D.set i (on d)) (a.set i (on v)):=by
 refine⟨by rw[QG,QG,h.len],λj c e=>?_⟩;rw[QY]at e;rw[QY];by_cases q:i=j
 .subst q
  rw[O0 rfl]at e⊢;split at e
  .rename_i b
   cases e;rw[O0 (by rw[<-h.len];exact b)];exact⟨v,rfl,E⟩
  .cases e
 .rw[O1 q]at e⊢
  exact h.tell j c e
def Sub(F E:Dn):Prop:=∀(i:Nat) (d:D),F[i]?=on (on d)->E[i]?=on (on d)
theorem i0.sub{K:Pk}{F:Fx}{H:Hp}{E D:Dn}(h:i0 K F H D a)(s:Sub E D)(l:E.length=D.length):i0 K F H E a:=⟨l.trans h.len,λi d e=>h.tell i d (s i d e)⟩
abbrev M(D:Type):=Bg->Option (Except OS D×Bg)
abbrev a0q:=Dn->M Bool
noncomputable def M.ret{D:Type}(a:D):M D:=λE=>on (.ok a,E)
noncomputable def M.bind{D b:Type}(m:M D)(k:D->M b):M b:=λE=>match m E with
 |none=>OO
 |some (.error C,β1)=>on (.error C,β1)
 |some (.ok a,β1)=>k a β1
noncomputable def M.ofO{D:Type}(o:Option D):M D:=λE=>match o with
 |some a=>on (.ok a,E)
 |none=>OO
noncomputable def M.fail{D:Type}:M D:=λ_=>OO
theorem M.bind_some{D b:Type}(a:D)(k:D->M b):M.bind (M.ofO (on a)) k=k a:=rfl
theorem M.bind_ok{D b:Type}{m:M D}{k:D->M b}{β β1:Bg}{a:D}(h:m β=on (.ok a,β1)):M.bind m k β=k a β1:=by unfold M.bind;rw[h]
theorem M.bind_err{E a:Type}{m:M E}{k:E->M a}{F D:Bg}{C:OS}(h:m F=on (.error C,D)):M.bind m k F=on (.error C,D):=by unfold M.bind;rw[h]
def run{D c:Type}(R:Hp->D->c->Prop)(F:Fx)(E:a0r)(e:St)(m:M D)(H:Hp)(Q:c->Hp->Prop)(G:Bg):Prop:=
 ∃r a,m G=on (r,a)/\match r with
  | .ok d=>∀v b,To F H b a->R b d v->Q v b
  | .error C=>∀b,To F H b a->E e (.ref C) OO b
theorem run.mono{D c:Type}{R:Hp->D->c->Prop}{F:Fx}{E:a0r}{g:St}{m:M D}{H:Hp}{Q i:c->Hp->Prop}{β:Bg}(h:run R F E g m H Q β)(f:∀v a,Q v a->i v a):run R F E g m H i β:=by
 obtain⟨r,b,e,h⟩:=h;refine⟨r,b,e,?_⟩;cases r with
 |ok d=>exact λv a t q=>f v a (h v a t q)
 |error C=>exact h
theorem run.bind{D l i j:Type}{R:Hp->D->l->Prop}{R2:Hp->i->j->Prop}{F:Fx}{E:a0r}{b:St}{m:M D}{k:D->M i}{H:Hp}{Q:j->Hp->Prop}{β:Bg}(h:run R2 F E b (M.bind m k) H Q β):
  run R F E b m H (λv a=>∃d β1,To F H a β1/\R a d v/\run R2 F E b (k d) a Q β1) β:=by
 obtain⟨r,c,e,h⟩:=h;cases q:m β with
 |none=>unfold M.bind at e;rw[q]at e;cases e
 |some z=>
  obtain⟨r1,β1⟩:=z;refine⟨r1,β1,q,?_⟩;cases r1 with
  |error C=>
   rw[M.bind_err q]at e;cases e;exact h
  |ok d=>
   rw[M.bind_ok q]at e;intro v a t G;refine⟨d,β1,t,G,r,c,e,?_⟩;cases r with
   |ok K=>exact λn f g o=>h n f (t.trans g) o
   |error C=>exact λf g=>h f (t.trans g)
theorem run.ret{D b:Type}{R:Hp->D->b->Prop}{F:Fx}{E:a0r}{c:St}{a:D}{v:b}{H:Hp}{Q:b->Hp->Prop}{β:Bg}(fr:Fr F H β)(h:run R F E c (M.ret a) H Q β)(r:R H a v):Q v H:=by
 obtain⟨_,_,e,h⟩:=h;cases e;exact h v H (To.refl fr) r
theorem run.ofO{D c:Type}{R:Hp->D->c->Prop}{F:Fx}{E:a0r}{d:St}{o:Option D}{H:Hp}{Q:c->Hp->Prop}{G:Bg}(h:run R F E d (M.ofO o) H Q G):∃a,o=on a/\∀v b,To F H b G->R b a v->Q v b:=by
 obtain⟨_,_,e,h⟩:=h;cases o with
 |none=>cases e
 |some a=>cases e;exact⟨a,rfl,h⟩
abbrev FD:=Dn->M D
abbrev FL:=Dn->M a0c
def tV(K:Pk)(f:FD)(E:a0r):TE:=λa H Q=>∃F D G,Fr F H G/\i0 K F H D a/\run (c4 K F) F E a (f D) H Q G
def i4(K:Pk)(f:FL)(E:a0r):TA:=λa H Q=>∃F D G,Fr F H G/\i0 K F H D a/\run (bb K F) F E a (f D) H Q G
def hY(K:Pk)(f:a0q)(E:a0r):TT:=λc H Q=>∃F D G,Fr F H G/\i0 K F H D c/\run (λ_ (a b:Bool)=>b=a) F E c (f D) H Q G
theorem _root_.L2.PE.imp(h:PE X e t)(f:∀a H Q,c a H Q->t a H Q):PE X e c:=λb s a H Q I q=>h b s a H Q I (f a H Q q)
theorem _root_.L2.PT.imp(h:PT X e t)(f:∀a H Q,c a H Q->t a H Q):PT X e c:=λb s a H Q I q=>h b s a H Q I (f a H Q q)
theorem _root_.L2.PW.imp(h:PW X e t)(f:∀a H Q,d a H Q->t a H Q):PW X e d:=λc b s a H Q I q=>h c b s a H Q I (f a H Q q)
theorem _root_.L2.PA.imp(h:PA X e t)(f:∀a H Q,c a H Q->t a H Q):PA X e c:=λD b s a H Q I q=>h D b s a H Q I (f a H Q q)
def ao(i:Nat):FD:=λD=>M.ofO (D.getD i OO)
def fC(d:D):FD:=λ_=>M.ret d
def f1(E:D->a0l)(f:FD):FD:=λF=>M.bind (f F) λa=>M.ofO (E a)
def f2(E:a0X)(f g:FD):FD:=λD=>M.bind (f D) λa=>M.bind (g D) λb=>M.ofO (E a b)
noncomputable def aK:FL:=λ_=>M.ret []
def aj(f:FD)(g:FL):FL:=λD=>M.bind (f D) λa=>M.bind (g D) λE=>M.ret (a::E)
def aT(D:a0c->a0l)(g:FL):FD:=λE=>M.bind (g E) λF=>M.ofO (D F)
def d7(m:a0c->M D)(g:FL):FD:=λE=>M.bind (g E) λF=>m F
variable{X:Cx}{E:a0r}{e a b:Expr}{es:List Expr}{U:Uh}
theorem M8(i:Nat)(h:PE X (.Name x U) (pk i)):PE X (.Name x U) (tV X.K (ao i) E):=h.imp λl H Q c=>by
 obtain⟨F,a,b,fr,f,r⟩:=c;obtain⟨d,e,r⟩:=run.ofO r;have g:a[i]?=on (on d):=by
  rw[OU]at e;cases q:a[i]? with
  |none=>rw[q]at e;cases e
  |some z=>rw[q]at e;simp at e;rw[e]
 obtain⟨v,j,k⟩:=f.tell i d g;exact⟨v,j,r v H (To.refl fr) k⟩
theorem ss(h:PE X e (tC v))(a:∀F H,c4 X.K F H d v):PE X e (tV X.K (fC d) E):=h.imp λf H Q c=>by obtain⟨F,b,D,fr,g,r⟩:=c;exact run.ret fr r (a F H)
theorem ak{i j U}:PE X (.Constant (.int i) j U) (tV X.K (fC (.int i)) E):=ss bT λ_ _=>rfl
theorem ph{i j U}:PE X (.Constant (.bool i) j U) (tV X.K (fC (.bl i)) E):=ss NE λ_ _=>rfl
theorem ye{j U}:PE X (.Constant .none j U) (tV X.K (fC .non) E):=ss Ls λ_ _=>rfl
theorem f9:PA X [] (i4 X.K aK E):=gj.imp λd H Q c=>by obtain⟨F,a,b,fr,f,r⟩:=c;exact run.ret fr r bb.nil
theorem eZ(D:PE X e (tV X.K f E))(k:PA X es (i4 X.K g E))(G:b0a X e es:=by rfl):PA X (e::es) (i4 X.K (aj f g) E):=
 (cE D k G).imp λm H Q c=>lm c λF b M fr i r=>⟨F,b,M,fr,i,(run.bind (R:=c4 X.K F) r).mono λv n ⟨d,a,t,S,r1⟩=>
  ⟨F,b,a,t.fr,i.tr (t.tr fr),(run.bind (R:=bb X.K F) r1).mono λV o c=>pa c λp U j h l=>run.ret j.fr l (bb.cons (c4.tr (j.tr t.fr) _ _ S) h)⟩⟩
def aY(K:Pk)(r:R2)(E:a0X):Prop:=∀(F:Fx) (H:Hp) (a:Bg) (Q:VK) (b e d:D) (f g:V),Fr F H a->c4 K F H b f->c4 K F H e g->E b e=on d->
 (∀v c,To F H c a->c4 K F c d v->Q v c)->r f g H Q
def Ir(K:Pk)(r:V->Hp->VK->Prop)(e:D->a0l):Prop:=∀(F:Fx) (H:Hp) (a:Bg) (Q:VK) (b d:D) (f:V),Fr F H a->c4 K F H b f->e b=on d->
 (∀v c,To F H c a->c4 K F c d v->Q v c)->r f H Q
def dB(K:Pk)(r:a0M)(E:a0c->a0l):Prop:=∀(F:Fx) (H:Hp) (a:Bg) (Q:VK) (b:a0c) (d:D) (e:a0k),Fr F H a->bb K F H b e->E b=on d->
 (∀v c,To F H c a->c4 K F c d v->Q v c)->r e H Q
theorem qg{K:Pk}(l:aY K r op){H:Hp}(h:tV K (f2 op f g) E s H Q):ZZ r (tV K f E) (tV K g E) s H Q:=by
 obtain⟨F,e,D,fr,j,h⟩:=h;refine⟨F,e,D,fr,j,(run.bind (R:=c4 K F) h).mono λv u c=>pa c λd a t G r1=>⟨F,e,a,t.fr,j.tr (t.tr fr),(run.bind (R:=c4 K F) r1).mono λn o c=>pa c λM b m i p=>?_⟩⟩;obtain⟨S,q,k⟩:=run.ofO p;exact l F o b Q d M S v n m.fr (c4.tr (m.tr t.fr) _ _ G) i q k
theorem aD(c:gt X (R9 op) r)(l:aY X.K r o)(e:PE X a (tV X.K f E))(d:PE X b (tV X.K g E)):PE X (.BinOp a op b U) (tV X.K (f2 o f g) E):=
 (dY c e d).imp λ_ _ _=>qg l
theorem gH(c:gt X (QD op) r)(l:aY X.K r o)(e:PE X a (tV X.K f E))(d:PE X b (tV X.K g E))(D:Ut op b=OW:=by first|exact vI _|rfl):PE X (.Compare a [op] [b] U) (tV X.K (f2 o f g) E):=
 (Jq c e d D).imp λ_ _ _=>qg l
theorem v_un(g:UnR X (unaryOp op) r)(l:Ir X.K r o)(e:PE X a (tV X.K f E)):PE X (.UnaryOp op a U) (tV X.K (f1 o f) E):=
 (ND g e).imp λm H Q c=>lm c λF D G fr i h=>⟨F,D,G,fr,i,(run.bind (R:=c4 X.K F) h).mono λv j c=>pa c λd b t M r1=>let ⟨d3,e3,k⟩:=run.ofO r1;l F j b Q d d3 v t.fr M e3 k⟩
theorem bn(c:L_ X r)(l:aY X.K r o)(e:PE X a (tV X.K f E))(d:PE X b (tV X.K g E))(D:yb b:=by exact λ_ _=>rfl):PE X (.Subscript a b U) (tV X.K (f2 o f g) E):=
 (gN c e d D).imp λ_ _ _=>qg l
theorem AK{K:Pk}(l:dB K r op){H:Hp}(h:tV K (aT op g) E m H Q):tCB r (i4 K g E) m H Q:=by
 obtain⟨F,b,e,fr,c,h⟩:=h;refine⟨F,b,e,fr,c,(run.bind (R:=bb K F) h).mono λv f i=>pa i λd a t D r1=>?_⟩;obtain⟨G,j,k⟩:=run.ofO r1;exact l F f a Q d G v t.fr D j k
theorem bO{f:String}(hc:cM X (.builtin f) r)(l:dB X.K r op)(h:Gl X x)(a:X.mg x=OO)(i:Th x=on (.builtin f))(b:PA X (e::es) (i4 X.K g E))(D:x≠"__name__":=by decide)(c:b0c x:=by decide)
  (j:b0a X e es:=by rfl) (d:b0b X U es:=by rfl):PE X (.Call (.Name x p) (e::es) [] U) (tV X.K (aT op g) E):=
 (lC hc h a i b D c j d).imp λ_ _ _=>AK l
theorem cj(hc:cM X (.type T) r)(l:dB X.K r op)(f:Gl X x)(a:X.mg x=OO)(h:Th x=on (.type T))(b:PA X (e::es) (i4 X.K g E))(D:x≠"__name__":=by decide)(c:b0c x:=by decide)
  (i:b0a X e es:=by rfl) (d:b0b X U es:=by rfl):PE X (.Call (.Name x p) (e::es) [] U) (tV X.K (aT op g) E):=
 (CA hc f a h b D c i d).imp λ_ _ _=>AK l
noncomputable def fR(a:a0c):a0l:=if a.length<=Pf then on (.tup a)else OO
noncomputable def iM(ds:a0c):a0l:=if ds.length<=Pf then on (.lst ds)else OO
theorem c4.newT{K:Pk}{F:Fx}{H:Hp}(fr:Fr F H f)(h:H p=OO)(a:bb K F H d c):c4 K F (upd H p (.tup c)) (.tup d) (.ref p):=
 ⟨p,c,rfl,.inl ⟨fr.fresh h,.inl am⟩,bb.tr ((fr.upd _ h).tr fr) _ _ a⟩
theorem c4.newL{K:Pk}{F:Fx}{H:Hp}(fr:Fr F H f)(h:H p=OO)(a:bb K F H d c):c4 K F (upd H p (.lst c)) (.lst d) (.ref p):=
 ⟨p,c,rfl,⟨fr.fresh h,.inl am⟩,bb.tr ((fr.upd _ h).tr fr) _ _ a⟩
theorem bQ{m}(h:PA X es (i4 X.K g E)):PE X (.Tuple es m U) (tV X.K (aT fR g) E):=
 (Lo h).imp λj H Q d=>lm d λF b e fr i r=>⟨F,b,e,fr,i,(run.bind (R:=bb X.K F) r).mono λG l d=>by
  obtain⟨M,D,t,a,r1⟩:=d;obtain⟨S,c,k⟩:=run.ofO r1;unfold fR at c;split at c
  .cases c
   exact⟨by rw[<-a.length];assumption,λp f=>k _ _ (t.fr.upd _ f) (c4.newT t.fr f a)⟩
  .cases c⟩
theorem e8(h:PA X es (i4 X.K g E)):PE X (.List es U) (tV X.K (aT iM g) E):=
 (hZ h).imp λj H Q d=>lm d λF b e fr i r=>⟨F,b,e,fr,i,(run.bind (R:=bb X.K F) r).mono λG l d=>by
  obtain⟨M,D,t,a,r1⟩:=d;obtain⟨S,c,k⟩:=run.ofO r1;unfold iM at c;split at c
  .cases c
   exact⟨by rw[<-a.length];assumption,λp f=>k _ _ (t.fr.upd _ f) (c4.newL t.fr f a)⟩
  .cases c⟩
def Im(K:Pk)(n:Nat)(m:a0c->M D):Sp:=λa H Q E=>a.length=n/\∃F b e,Fr F H e/\bb K F H b a/\run (c4 K F) F (λ_=>E) [] (m b) H Q e
variable{p:Uh}{x:PX}{k n:Nat}{f:OS}{fd:Pp}{ps:a0i}
theorem run.toE{a c:Type}{R:Hp->a->c->Prop}{F:Fx}{E:a0r}{d:St}{m:M a}{H:Hp}{Q:c->Hp->Prop}{b:Bg}(h:run R F E d m H Q b):run R F (λ_=>E d) [] m H Q b:=h
theorem z5(G:et X.prog X.w X.K X.mg X.base (gs X.prog X.w) k f fd ps (Im X.K n m))(q:ej k X.A)(u:Gl X x)(S:X.mg x=on (.ref f))(v:U7 X.K (.ref f)=OT)(y:cA X.K fd ps [])(B:bV (gs X.prog X.w) X E)
  (V:PA X (e::es) (i4 X.K g E)) (s:∀a b r h,g a b=on (.ok r,h)->r.length=n) (c:b0c x:=by decide) (I:b0a X e es:=by rfl) (d:b0b X U es:=by rfl):
  PE X (.Call (.Name x p) (e::es) [] U) (tV X.K (d7 m g) E):=
 (oi G q u S v y .nil B V c I d).imp λT H Q J=>lm J λF a b fr L r=>⟨F,a,b,fr,L,by
  obtain⟨r0,i,l,o⟩:=run.bind (R:=bb X.K F) r;refine⟨r0,i,l,?_⟩;cases r0 with
  |error C=>exact o
  |ok Y=>
   intro z N t M;obtain⟨W,D,O,j,r1⟩:=o z N t M;have P:=s _ _ _ _ l;refine⟨by rw[PU,<-M.length,P],F,W,D,O.fr,by rw[PU];exact j,run.toE r1⟩⟩
theorem GY{r:a0c}(h:aK d g=on (.ok r,c)):r.length=0:=by cases h;rfl
theorem bJ{f:FD}{n:Nat}(d:∀a b r c,g a b=on (.ok r,c)->r.length=n):∀a b r c,aj f g a b=on (.ok r,c)->r.length=n+1:=by
 intro a b r c h;unfold aj M.bind at h;split at h
 .cases h
 .cases h
 .dsimp only at h
  split at h
  .cases h
  .cases h
  .rename_i as _ i
   cases h;rw[Pg,d _ _ _ _ i]
noncomputable def nS(g:Int->Int->a0l):D->D->a0l
 | .int i,.int j=>g i j
 |_,_=>OO
theorem jo{a b d:D}(h:nS g a b=on d):∃i j,a= .int i/\b= .int j/\g i j=on d:=by
 cases a<;>first|cases h|(cases b<;>first|cases h|exact⟨_,_,rfl,rfl,h⟩)
theorem DB{g:a0I}:aY K (ry λi j=> .int (g i j)) (nS λi j=>on (.int (g i j))):=λF H a Q b f d l m fr c h e k=>by
 obtain⟨i,j,rfl,rfl,e⟩:=jo e;cases e;exact⟨i,j,c,h,k _ H (To.refl fr) rfl⟩
theorem iO{g:Int->Int->Bool}:aY K (ry λi j=> .bl (g i j)) (nS λi j=>on (.bl (g i j))):=λF H a Q b f d l m fr c h e k=>by
 obtain⟨i,j,rfl,rfl,e⟩:=jo e;cases e;exact⟨i,j,c,h,k _ H (To.refl fr) rfl⟩
theorem mR{C:a0U}{c:Int->Int->Bool}{g:a0I}(hc:∀i j,c i j=OT->C i j):aY K (rI C λi j=> .int (g i j)) (nS λi j=>if c i j=OT then on (.int (g i j))else OO):=λF H a Q b f d o q fr l m e k=>by
 obtain⟨i,j,rfl,rfl,h⟩:=jo e;split at h
 .cases h
  exact⟨i,j,l,m,hc _ _ (by assumption),k _ H (To.refl fr) rfl⟩
 .cases h
noncomputable def gW(i:Int):Bool:=decide (i.natAbs<2^1000)
def subD:D->D->a0l:=nS λi j=>on (.int (i-j))
def zw:D->D->a0l:=nS λi j=>if(decide (0<j)&&decide (j.natAbs.log2<9000))=OT then on (.int (i/j))else OO
def LR:D->D->a0l:=nS λi j=>if decide (0<j)=OT then on (.int (i % j))else OO
def Z3:D->D->a0l:=nS λi j=>on (.bl (decide (i<j)))
def ZI:D->D->a0l:=nS λi j=>on (.bl (decide (i<=j)))
def gtD:D->D->a0l:=nS λi j=>on (.bl (decide (j<i)))
def geD:D->D->a0l:=nS λi j=>on (.bl (decide (j<=i)))
theorem iP:aY K (ry λi j=> .int (i-j)) subD:=DB
theorem mS:aY K (ry λi j=> .bl (decide (i<j))) Z3:=iO
theorem mT:aY K (ry λi j=> .bl (decide (i<=j))) ZI:=iO
theorem sj:aY K (ry λi j=> .bl (decide (j<i))) gtD:=iO
theorem l_ge:aY K (ry λi j=> .bl (decide (j<=i))) geD:=iO
theorem mU:aY K (rI uT λi j=> .int (i/j)) zw:=mR λi j h=>by
 simp only[PL,P9]at h;exact h
theorem HM:aY K (rI (λ_ j=>0<j) λi j=> .int (i % j)) LR:=mR λi j h=>RG h
noncomputable def yE:R2:=λx y H Q=>∃l b a c,x= .ref l/\y= .ref b/\Rd H l (.lst a)/\Rd H b (.lst c)/\a.length+c.length<=Pf/\∀p,H p=OO->Q (.ref p) (upd H p (.lst (a++c)))
theorem Ju:gt X (R9 .Add) yE:=by
 intro d s t H x y v u Q I i j h;obtain⟨l,b,f,w,rfl,rfl,m,hB,A,q⟩:=h;cases i;cases j;obtain⟨z,a,n,r,e⟩:=m.ok I.hok;obtain⟨B,c,C,g,o⟩:=hB.ok I.hok;have J:=r.length;have L:=g.length;refine YK e o ?_ (by simp only[Pr];lia);rw[show a.toArray++c.toArray=(a++c).toArray by simp];exact⟨.ref _,_,I.lnew (t':=s.toks) (r.append g) (by rw[Pl];lia),rfl,q _ I.fresh⟩
def yF(K:Pk):R2:=λx y H Q=>∃a b e,x= .ref a/\y= .ref b/\io K H a []/\io K H b e/\Q (.ref b) H
theorem Jv:gt X (R9 .Add) (yF X.K):=by
 intro l s N H x y v u Q I r t h;obtain⟨a,b,E,rfl,rfl,f,w,q⟩:=h;cases r;cases t;obtain⟨k,r1,A,_⟩:=I.tuple f;obtain⟨m,O,B,_⟩:=I.tuple w;cases r1;obtain⟨⟨F,p,C,i⟩,o,hc,n,e⟩:=A;obtain⟨⟨G,D,J,j⟩,c,d,L,g⟩:=B;simp only at hc e d g;subst hc e d g;exact PySem.concat_meets ⟨_,o,rfl⟩ ⟨_,c,rfl⟩ Xj YW U3 US (UE _ _) (tuple_addW0 a b _ _ n L p D i j (by simp)) ⟨o,c,⟨.ref b,H,I,rfl,q⟩⟩
noncomputable def iC:D->D->a0l
 | .int i,.int j=>on (.int (i+j))
 | .tup [],.tup b=>on (.tup b)
 | .lst a,.lst b=>if a.length+b.length<=Pf then on (.lst (a++b))else OO
 | .tup (c::a),.tup b=>if(c::a).length+b.length<=Pf then on (.tup (c::a++b))else OO
 |_,_=>OO
theorem bq:aY K (λx y H Q=>(ry λi j=> .int (i+j)) x y H Q\/yE x y H Q\/yD K x y H Q\/yF K x y H Q) iC:=λF H D Q E G d v w fr h l e k=>by
 unfold iC at e;split at e
 .cases e
  exact .inl ⟨_,_,h,l,k _ H (To.refl fr) rfl⟩
 .cases e
  obtain⟨a,f,rfl,r1,c⟩:=c4.sqT h;obtain⟨b,n,rfl,m,g⟩:=c4.sqT l;have q:f=[]:=c;subst q;exact .inr (.inr (.inr ⟨a,b,n,rfl,rfl,r1,m,k _ H (To.refl fr) l⟩))
 .split at e
  .cases e
   obtain⟨a,f,rfl,r1,c⟩:=c4.rdL h;obtain⟨b,n,rfl,m,g⟩:=c4.rdL l;exact .inr (.inl ⟨a,b,f,n,rfl,rfl,r1,m,by rw[<-c.length,<-g.length];assumption,λp o=>k _ _ (fr.upd _ o) (c4.newL fr o (c.append g))⟩)
  .cases e
 .split at e
  .cases e
   obtain⟨a,f,rfl,r1,c⟩:=c4.sqT h;obtain⟨b,n,rfl,m,g⟩:=c4.sqT l;have r:=c.length;have t:=g.length;refine .inr (.inr (.inl ⟨a,b,f,n,rfl,rfl,r1,m,(λz=>by subst z;cases r),by rw[<-r,<-t];assumption,λz=>?_,λ_ p o=>k _ _ (fr.upd _ o) (c4.newT fr o (c.append g))⟩));subst z;have u:=Ts.mp t;subst u;rw[PU]at k;exact k _ H (To.refl fr) h
  .cases e
 .cases e
theorem aF:gt X (R9 .Add) (λx y H Q=>(ry λi j=> .int (i+j)) x y H Q\/yE x y H Q\/yD X.K x y H Q\/yF X.K x y H Q):=qK.or (Ju.or (Jt.or Jv))
def Gc:D->D->a0l:=nS λi j=>if(gW i&&gW j)=OT then on (.int (i*j))else OO
theorem dH:aY K (rI uS λi j=> .int (i*j)) Gc:=mR λi j h=>by
 simp only[PL,gW,P9]at h;exact h
noncomputable def eqS:D->D->a0N
 | .non,.non=>on OT
 | .int i,.int j=>on (decide (i=j))
 | .bl i,.bl j=>on (decide (i=j))
 | .str i,.str j=>on (decide (i=j))
 | .int _,.str _=>on OW
 | .str _,.int _=>on OW
 | .bl _,.str _=>on OW
 | .str _,.bl _=>on OW
 | .non,.int _=>on OW
 | .int _,.non=>on OW
 | .non,.str _=>on OW
 | .str _,.non=>on OW
 |_,_=>OO
theorem EB{F:Fx}{H:Hp}{a b:D}{c:Bool}(h:eqS a b=on c)(d:c4 K F H a v)(g:c4 K F H b w):Fy v w=OT/\decide (v=w)=c:=by
 cases a<;>first|cases h|(cases b<;>first|(cases h;cases d;cases g;exact⟨rfl,rfl⟩)|(cases h;cases d;cases g;exact⟨rfl,by simp⟩)|cases h)
noncomputable def isN:D->Bool
 | .non=>OT
 |_=>OW
theorem Mr{F:Fx}{H:Hp}(h:c4 K F H d v):decide (v= .non)=isN d:=by
 cases d with
 |non=>cases h.non;rfl
 |bl b=>cases h.bl;rfl
 |int b=>cases h.int;rfl
 |str b=>cases h.str;rfl
 |ty b=>cases h.ty;rfl
 |txt=>unfold c4 at h;obtain⟨z,rfl⟩:=h;rfl
 |lst ds=>obtain⟨a,e,rfl,_⟩:=c4.sqL h;rfl
 |tup ds=>obtain⟨a,e,rfl,_⟩:=c4.sqT h;rfl
 |scr ds=>obtain⟨a,rfl,_⟩:=c4.scr h;rfl
 |obj C ns ds=>
  unfold c4 at h;obtain⟨a,_,_,rfl,_⟩:=h;rfl
 |bag=>
  unfold c4 at h;obtain⟨a,_,_,rfl⟩:=h;rfl
 |adr a=>
  unfold c4 at h;obtain rfl:=h;rfl
 |dct b ks vs=>
  unfold c4 at h;obtain⟨a,_,e,rfl,_⟩:=h;rfl
noncomputable def zg:D->D->a0l
 |a,.non=>on (.bl (isN a))
 |_,_=>OO
theorem y6:aY K (λx y H Q=>y= .non/\Q (.bl (decide (x= .non))) H) zg:=λF H a Q b f d h i fr c g e k=>by
 unfold zg at e;split at e
 .cases e
  exact⟨g,by rw[Mr c];exact k _ H (To.refl fr) rfl⟩
 .cases e
noncomputable def gn:D->Bool
 | .int _=>OT| .bl _=>OT| .str _=>OT| .non=>OT|_=>OW
noncomputable def eqF:D->D->Bool
 | .non,.non=>OT
 | .bl a,.bl b=>a==b
 | .bl a,.int b=>(if a then 1 else 0)==b
 | .int a,.bl b=>a==(if b then 1 else 0)
 | .int a,.int b=>a==b
 | .str a,.str b=>a==b
 |_,_=>OW
noncomputable def fM:D->a0F
 | .lst a=>on a
 | .tup a=>on a
 |_=>OO
def Z5(x:D)(a:a0c):Bool:=a.any λy=>eqF y x
def ZS(a:Bool)(x y:D):a0l:=(fM y).bind λb=>if(gn x&&b.all gn)=OT then on (.bl (if a then !Z5 x b else Z5 x b))else OO
theorem sr{F:Fx}{H:Hp}(f:gn d=OT)(h:c4 K F H d v):gT v=OT:=by
 cases d<;>first|(cases h.int;rfl)|(cases h.bl;rfl)|(cases h.str;rfl)|(cases h.non;rfl)|cases f
theorem MG{F:Fx}{H:Hp}{a b:D}(g:gn a=OT)(h:gn b=OT)(c:c4 K F H a v)(d:c4 K F H b w):SF v w=eqF a b:=by
 cases a<;>first
  |(exfalso;exact O8 g)
  |(cases b<;>first
   |(exfalso;exact O8 h)
   |(cases c.int;cases d.int;rfl)|(cases c.int;cases d.bl;rfl)|(cases c.int;cases d.str;rfl)|(cases c.int;cases d.non;rfl)
   |(cases c.bl;cases d.int;rfl)|(cases c.bl;cases d.bl;rfl)|(cases c.bl;cases d.str;rfl)|(cases c.bl;cases d.non;rfl)
   |(cases c.str;cases d.int;rfl)|(cases c.str;cases d.bl;rfl)|(cases c.str;cases d.str;rfl)|(cases c.str;cases d.non;rfl)
   |(cases c.non;cases d.int;rfl)|(cases c.non;cases d.bl;rfl)|(cases c.non;cases d.str;rfl)|(cases c.non;cases d.non;rfl))
theorem v9{F:Fx}{H:Hp}{x:D}(c:gn x=OT)(g:c4 K F H x v):∀{b:a0c} {a:a0k},b.all gn=OT->bb K F H b a->a.all gT=OT/\inV v a=Z5 x b
 |[],a,_,h=>by have q:a=[]:=h;subst q;exact⟨rfl,rfl⟩
 |d::b,a,f,h=>by
  obtain⟨y,r,q,i,l⟩:=h;subst q;rw[VQ,PL]at f;obtain⟨m,j⟩:=v9 c g f.2 l;refine⟨by rw[VQ,sr f.1 i,m];rfl,?_⟩;unfold inV Z5 at j⊢;rw[UW,UW,j,MG f.1 c i g]
theorem Gz{neg:Bool}:aY K (rIn K neg) (ZS neg):=λF H n Q p f d m o fr g l e k=>by
 unfold ZS at e;cases q:fM f with
 |none=>rw[q]at e;cases e
 |some x=>
  rw[q]at e;simp only[Sg]at e;split at e
  .rename_i c
   rw[PL]at c;cases e;cases f<;>first|(cases q;obtain⟨a,b,rfl,r1,h⟩:=c4.sqL l;obtain⟨i,j⟩:=v9 c.1 g c.2 h;exact⟨a,b,rfl,.inl r1,sr c.1 g,i,by rw[j];exact k _ H (To.refl fr) rfl⟩)|(cases q;obtain⟨a,b,rfl,r1,h⟩:=c4.sqT l;obtain⟨i,j⟩:=v9 c.1 g c.2 h;exact⟨a,b,rfl,.inr r1,sr c.1 g,i,by rw[j];exact k _ H (To.refl fr) rfl⟩)|cases q
  .cases e
def j0:D->D->a0l
 | .lst xs,.int i=>v_ xs i
 | .tup xs,.int i=>v_ xs i
 |_,_=>OO
theorem EU{F:Fx}{H:Hp}(h:bb K F H c g)(e:v_ c i=on d):∃v,v_ g i=on v/\c4 K F H d v:=by
 unfold v_ at e⊢;rw[<-h.length];cases q:s9 c.length i with
 |none=>rw[q]at e;cases e
 |some j=>
  rw[q]at e;exact h.get e
theorem br:aY K (λx y H Q=>yC K x y H Q\/FG K x y H Q) j0:=λF H f Q n p d j l fr h i e k=>by
 unfold j0 at e;split at e
 .obtain⟨a,xs,rfl,r1,c⟩:=c4.sqL h
  obtain⟨v,g,b⟩:=EU c e;exact .inl ⟨a,xs,_,v,rfl,i,r1,g,k _ H (To.refl fr) b⟩
 .obtain⟨a,xs,rfl,r1,c⟩:=c4.sqT h
  obtain⟨v,g,b⟩:=EU c e;exact .inr ⟨a,xs,_,v,rfl,i,r1,g,k _ H (To.refl fr) b⟩
 .cases e
theorem aG:L_ X (λx y H Q=>yC X.K x y H Q\/FG X.K x y H Q):=eD.or Mq
noncomputable def fA:a0c->a0l
 |[.lst xs]=>on (.int xs.length)
 |[.tup xs]=>on (.int xs.length)
 |_=>OO
theorem bb.one{F:Fx}{H:Hp}(h:bb K F H [d] i):∃v,i=[v]/\c4 K F H d v:=by
 obtain⟨x,r,e,c,g⟩:=h;have q:r=[]:=g;subst q;exact⟨x,e,c⟩
theorem bb.two{F:Fx}{H:Hp}(h:bb K F H [d,c] l):∃v w,l=[v,w]/\c4 K F H d v/\c4 K F H c w:=by
 obtain⟨x,r,e,g,i⟩:=h;obtain⟨y,rfl,j⟩:=bb.one i;exact⟨x,y,e,g,j⟩
theorem NV:dB K (λb H Q=>∃p f,b=[.ref p]/\(fx K H p f\/io K H p f)/\Q (.int f.length) H) fA:=λF H n Q x d D fr h e k=>by
 unfold fA at e;split at e
 .cases e
  obtain⟨v,rfl,g⟩:=bb.one h;obtain⟨a,b,rfl,r,c⟩:=c4.sqL g;exact⟨a,b,rfl,.inl r,by rw[<-c.length];exact k _ H (To.refl fr) rfl⟩
 .cases e
  obtain⟨v,rfl,g⟩:=bb.one h;obtain⟨a,b,rfl,r,c⟩:=c4.sqT g;exact⟨a,b,rfl,.inr r,by rw[<-c.length];exact k _ H (To.refl fr) rfl⟩
 .cases e
noncomputable def MS:a0c->a0l
 |[.int i]=>on (.int (if i<0 then -i else i))
 |_=>OO
theorem HR:dB K (λa H Q=>∃i,a=[.int i]/\Q (.int (if i<0 then -i else i)) H) MS:=λF H b Q f d n fr h e k=>by
 unfold MS at e;split at e
 .cases e
  obtain⟨v,rfl,g⟩:=bb.one h;cases g.int;exact⟨_,rfl,k _ H (To.refl fr) rfl⟩
 .cases e
noncomputable def vO:a0c->a0l
 |[.int i,.int j]=>on (.int (if j<i then j else i))
 |_=>OO
noncomputable def yS:a0c->a0l
 |[.int i,.int j]=>on (.int (if j>i then j else i))
 |_=>OO
theorem uG:dB K (λa H Q=>∃i j,a=[.int i,.int j]/\Q (.int (if j<i then j else i)) H) vO:=λF H f Q n d p fr h e k=>by
 unfold vO at e;split at e
 .cases e
  obtain⟨v,w,rfl,g,b⟩:=bb.two h;cases g.int;cases b.int;exact⟨_,_,rfl,k _ H (To.refl fr) rfl⟩
 .cases e
theorem HN:dB K (λa H Q=>∃i j,a=[.int i,.int j]/\Q (.int (if j>i then j else i)) H) yS:=λF H f Q n d p fr h e k=>by
 unfold yS at e;split at e
 .cases e
  obtain⟨v,w,rfl,g,b⟩:=bb.two h;cases g.int;cases b.int;exact⟨_,_,rfl,k _ H (To.refl fr) rfl⟩
 .cases e
noncomputable def dS:a0c->Option a0e
 |[]=>on []
 | .int i::r=>(dS r).map (i::·)
 |_=>OO
theorem g_:∀{a:a0c} {b:a0e},dS a=on b->a=b.map D.int
 |[],b,h=>by cases h;rfl
 |d::a,b,h=>by
  cases d with
  |int i=>
   unfold dS at h;cases q:dS a with
   |none=>rw[q]at h;cases h
   |some c=>rw[q]at h;cases h;rw[g_ q];rfl
  |_=>cases h
def Fp:a0c->a0l
 |[.lst xs]=>(dS xs).map λa=> .int a.sum
 |_=>OO
theorem NS:dB K (λf H Q=>∃(a:OS) (b:a0e),f=[.ref a]/\fx K H a (b.map V.int)/\Q (.int b.sum) H) Fp:=λF H n Q p d x fr h e k=>by
 unfold Fp at e;split at e
 .rename_i f
  cases q:dS f with
  |none=>rw[q]at e;cases e
  |some b=>
   rw[q]at e;cases e;obtain⟨v,rfl,g⟩:=bb.one h;obtain⟨a,D,rfl,r,c⟩:=c4.sqL g;rw[g_ q]at c;have i:=bb.ints b c;subst i;exact⟨a,b,rfl,r,k _ H (To.refl fr) rfl⟩
 .cases e
noncomputable def uD:a0c->a0l
 |[.lst xs]=>on (.lst xs)
 |[.tup xs]=>on (.lst xs)
 |_=>OO
theorem jt:dB K (λb H Q=>∃p f,b=[.ref p]/\(fx K H p f\/io K H p f)/\∀l,H l=OO->Q (.ref l) (upd H l (.lst f))) uD:=λF H n Q x d D fr h e k=>by
 unfold uD at e;split at e
 .cases e
  obtain⟨v,rfl,g⟩:=bb.one h;obtain⟨a,b,rfl,r,i⟩:=c4.sqL g;exact⟨a,b,rfl,.inl r,λl c=>k _ _ (fr.upd _ c) (c4.newL fr c i)⟩
 .cases e
  obtain⟨v,rfl,g⟩:=bb.one h;obtain⟨a,b,rfl,r,i⟩:=c4.sqT g;exact⟨a,b,rfl,.inr r,λl c=>k _ _ (fr.upd _ c) (c4.newL fr c i)⟩
 .cases e
noncomputable def uY:a0c->a0l
 |[.lst xs]=>on (.tup xs)
 |[.tup xs]=>on (.tup xs)
 |_=>OO
theorem kN:dB K (λb H Q=>∃p f,b=[.ref p]/\((fx K H p f/\∀l,H l=OO->Q (.ref l) (upd H l (.tup f)))\/(io K H p f/\Q (.ref p) H))) uY:=λF H n Q x d D fr h e k=>by
 unfold uY at e;split at e
 .cases e
  obtain⟨v,rfl,g⟩:=bb.one h;obtain⟨a,b,rfl,r,c⟩:=c4.sqL g;exact⟨a,b,rfl,.inl ⟨r,λl i=>k _ _ (fr.upd _ i) (c4.newT fr i c)⟩⟩
 .cases e
  obtain⟨v,rfl,g⟩:=bb.one h;obtain⟨a,b,rfl,r,c⟩:=c4.sqT g;exact⟨a,b,rfl,.inr ⟨r,k _ H (To.refl fr) g⟩⟩
 .cases e
noncomputable def asB:D->a0N
 | .bl b=>on b
 |_=>OO
theorem jB{b:Bool}(h:asB d=on b):d= .bl b:=by cases d<;>first|(cases h;rfl)|cases h
noncomputable def Fi:D->a0N
 | .non=>on OW
 | .bl b=>on b
 | .int i=>on (i !=0)
 | .lst xs=>on (!xs.isEmpty)
 | .tup xs=>on (!xs.isEmpty)
 |_=>OO
def fB(f:FD):Dn->M Bool:=λa=>M.bind (f a) λd=>M.ofO (asB d)
def wk(f:FD):Dn->M Bool:=λa=>M.bind (f a) λd=>M.ofO (Fi d)
def su(f g:a0q):Dn->M Bool:=λa=>M.bind (f a) λc=>if c=OT then M.ret OT else g a
def zy(f:a0q):Dn->M Bool:=λa=>M.bind (f a) λc=>M.ret (!c)
def lS(f g:FD):FD:=λa=>M.bind (f a) λd=>M.bind (M.ofO (asB d)) λc=>if c=OT then g a else M.ret (.bl OW)
def Z7(t:a0q)(f g:FD):FD:=λa=>M.bind (t a) λc=>if c=OT then f a else g a
def kR(o d:a0X)(f g h:FD):FD:=λe=>M.bind (f e) λa=>M.bind (g e) λb=>M.bind (M.ofO (o a b)) λz=>M.bind (M.ofO (asB z)) λc=>if c=OT then M.bind (h e) (λw=>M.ofO (d b w))else M.ret (.bl OW)
variable{c:Expr}{I:List Expr}
theorem M.ofO_bind{b d:Type}{o:Option b}{k:b->M d}{c:Bg}{z:Except OS d×Bg}(h:M.bind (M.ofO o) k c=on z):∃a,o=on a/\k a c=on z:=by
 cases o with
 |none=>cases h
 |some a=>exact⟨a,rfl,h⟩
theorem run.ofO_bind{b g i:Type}{R:Hp->g->i->Prop}{F:Fx}{j:St}{o:Option b}{k:b->M g}{H:Hp}{Q:i->Hp->Prop}{c:Bg}(h:run R F E j (M.bind (M.ofO o) k) H Q c):∃a,o=on a/\run R F E j (k a) H Q c:=by
 obtain⟨r,d,e,h⟩:=h;obtain⟨a,q,e⟩:=M.ofO_bind e;exact⟨a,q,r,d,e,h⟩
theorem run.bOk{F:Fx}{H:Hp}(fr:Fr F H g)(c:c4 K F H d v)(h:run (λ_ (a b:Bool)=>b=a) F E i (M.ofO (asB d)) H Q g):∃k,v= .bl k/\Q k H:=by
 obtain⟨b,e,k⟩:=run.ofO h;rw[jB e]at c;exact⟨b,c,k b H (To.refl fr) rfl⟩
theorem pp{f:FD}{H:Hp}(h:hY K (fB f) E m H Q):tV K f E m H λx g=>∃k,x= .bl k/\Q k g:=by
 obtain⟨F,a,b,fr,i,h⟩:=h;exact⟨F,a,b,fr,i,(run.bind (R:=c4 K F) h).mono λv l j=>pa j λd c t e r1=>run.bOk t.fr e r1⟩
theorem bu{f g:FD}(d:gt X (QD op) r)(l:aY X.K r o)(c:PE X a (tV X.K f E))(i:PE X b (tV X.K g E))(e:Ut op b=OW:=by first|exact vI _|rfl):PT X (.Compare a [op] [b] U) (hY X.K (fB (f2 o f g)) E):=
 (xq d c i e).imp λj H Q h=>qg l (pp h)
theorem AI{f g h:FD}(l:aY K r o)(Y:aY K r' s){H:Hp}(B:tV K (kR o s f g h) E σ H Q):AJ r r' (tV K f E) (tV K g E) (tV K h E) σ H Q:=by
 obtain⟨F,b,D,fr,I,B⟩:=B;refine⟨F,b,D,fr,I,(run.bind (R:=c4 K F) B).mono λv H1 j=>pa j λd n t G r1=>⟨F,b,n,t.fr,I.tr (t.tr fr),(run.bind (R:=c4 K F) r1).mono λP Z j=>pa j λp a m u S=>?_⟩⟩;obtain⟨z,T,V⟩:=run.ofO_bind S;obtain⟨c,X,A⟩:=run.ofO_bind V;rw[jB X]at T;refine l F Z a _ d p _ v P m.fr (c4.tr (m.tr t.fr) _ _ G) u T λvz U i hz=>⟨c,hz,?_⟩;cases c with
 |true=>
  rw[O0 rfl]at A;refine⟨F,b,a,i.fr,I.tr ((t.tr fr).trans ((m.tr t.fr).trans (i.tr m.fr))),?_⟩;have r5:run (c4 K F) F E σ (M.bind (h b) λw=>M.ofO (s p w)) U Q a:=by
   obtain⟨J,y,e,q⟩:=A;refine⟨J,y,e,?_⟩;cases J with
   |ok d=>exact λv L x=>q v L (i.trans x)
   |error C=>exact λL x=>q L (i.trans x)
  refine(run.bind (R:=c4 K F) r5).mono λw H4 j=>pa j λdw N W O r6=>?_;obtain⟨d3,e3,k⟩:=run.ofO r6;exact Y F H4 N Q p dw d3 P w W.fr (c4.tr ((i.tr m.fr).trans (W.tr i.fr)) _ _ u) O e3 k
 |false=>
  rw[O1 O8]at A;obtain⟨J,y,e,q⟩:=A;cases e;exact q _ U i rfl
theorem rK{f g h:FD}(i:gt X (QD op) r)(d:gt X (QD s) u)(l:aY X.K r o)(j:aY X.K u v)(e:PE X a (tV X.K f E))(m:PE X b (tV X.K g E))(hc:PE X c (tV X.K h E))(k:Zj [op,s] [b,c]=OW:=by with_unfolding_all rfl):
  PT X (.Compare a [op,s] [b,c] U) (hY X.K (fB (kR o v f g h)) E):=(FI i d e m hc k).imp λt H Q q=>AI l j (pp q)
theorem IK{F:Fx}{H:Hp}{k:Bool}(h:Fi d=on k)(c:c4 K F H d v):GZ K v H k:=by
 cases d with
 |non=>cases h;cases c.non;rfl
 |bl b=>cases h;cases c.bl;rfl
 |int i=>cases h;cases c.int;rfl
 |lst xs=>
  cases h;obtain⟨a,e,rfl,r,g⟩:=c4.sqL c;refine .inl ⟨e,r,?_⟩;have:=g.length;cases xs<;>cases e<;>first|rfl|(simp at this)
 |tup xs=>
  cases h;obtain⟨a,e,rfl,r,g⟩:=c4.sqT c;refine .inr ⟨e,r,?_⟩;have:=g.length;cases xs<;>cases e<;>first|rfl|(simp at this)
 |_=>cases h
theorem k9{f:FD}(b:PE X a (tV X.K f E))(j:∀g,isTrue a X.env g=(do let v <-g;Sk a.pos;Tj [v] (truthy v)):=by intro _;rfl):PT X a (hY X.K (wk f) E):=
 (FH b j).imp λo H Q i=>lm i λF c n fr l h=>⟨F,c,n,fr,l,(run.bind (R:=c4 X.K F) h).mono λv m i=>by
  obtain⟨d,p,t,x,r1⟩:=i;obtain⟨k,e,q⟩:=run.ofO r1;exact⟨k,IK e x,q k m (To.refl t.fr) rfl⟩⟩
theorem lf{f:a0q}(c:PT X a (hY X.K f E)):PT X (.UnaryOp .Not a U) (hY X.K (zy f) E):=
 (Ld c).imp λj H Q g=>lm g λF e k fr i h=>⟨F,e,k,fr,i,(run.bind (R:=λ_ (a b:Bool)=>b=a) h).mono λv l g=>by
  obtain⟨d,n,t,p,r1⟩:=g;subst p;exact run.ret t.fr r1 rfl⟩
theorem Ku{f g:a0q}{H:Hp}(h:hY K (su f g) E m H Q):tOr (hY K f E) (hY K g E) m H Q:=by
 obtain⟨F,e,k,fr,i,h⟩:=h;refine⟨F,e,k,fr,i,(run.bind (R:=λ_ (a b:Bool)=>b=a) h).mono λv l j=>pa j λd c t n r1=>?_⟩;subst n;cases v with
 |false=>rw[O1 O8]at r1⊢;exact⟨F,e,c,t.fr,i.tr (t.tr fr),r1⟩
 |true=>rw[O0 rfl]at r1⊢;exact run.ret t.fr r1 rfl
theorem qc{f:a0q}(b:PT X a (hY X.K f E)):PW X (.BoolOp .Or [a] U) (hY X.K f E):=La b
theorem uX{f g:a0q}(c:PT X a (hY X.K f E))(d:PW X (.BoolOp .Or (b::I) U) (hY X.K g E)):PW X (.BoolOp .Or (a::b::I) U) (hY X.K (su f g) E):=(NA c d).imp λ_ _ _=>Ku
theorem md{e:Expr}{f:a0q}(h:PW X e (hY X.K f E)):PT X e (hY X.K f E):=PW.pt h
theorem Hc{op}{f:FD}(h:PE X a (tV X.K f E)):PE X (.BoolOp op [a] U) (tV X.K f E):=Lr h
theorem run.asB{F:Fx}{k:Bool->M D}{H:Hp}(a:c4 K F H d v)(h:run (c4 K F) F E g (M.bind (M.ofO (asB d)) k) H Q i):∃c,v= .bl c/\run (c4 K F) F E g (k c) H Q i:=by
 obtain⟨c,e,h⟩:=run.ofO_bind h;rw[jB e]at a;exact⟨c,a,h⟩
theorem yf{f g:FD}(p:PE X a (tV X.K f E))(m:PE X (.BoolOp .And (b::I) U) (tV X.K g E)):PE X (.BoolOp .And (a::b::I) U) (tV X.K (lS f g) E):=
 (Lx p m).imp λo H Q j=>lm j λF n x fr l h=>⟨F,n,x,fr,l,(run.bind (R:=c4 X.K F) h).mono λv q j=>by
  obtain⟨d,k,t,D,r1⟩:=j;obtain⟨c,e,i⟩:=run.asB D r1;refine⟨c,e,?_⟩;cases c with
  |true=>rw[O0 rfl]at i⊢;exact⟨F,n,k,t.fr,l.tr (t.tr fr),i⟩
  |false=>rw[O1 O8]at i⊢;exact run.ret t.fr i rfl⟩
theorem Kj{f g:FD}(hc:PT X c (hY X.K t E))(n:PE X a (tV X.K f E))(l:PE X b (tV X.K g E)):PE X (.IfExp c a b U) (tV X.K (Z7 t f g) E):=
 (FW hc n l).imp λm H Q i=>lm i λF k p fr j h=>⟨F,k,p,fr,j,(run.bind (R:=λ_ (a b:Bool)=>b=a) h).mono λv o i=>by
  obtain⟨d,e,t,x,r1⟩:=i;subst x;cases v with
  |true=>rw[O0 rfl]at r1⊢;exact⟨F,k,e,t.fr,j.tr (t.tr fr),r1⟩
  |false=>rw[O1 O8]at r1⊢;exact⟨F,k,e,t.fr,j.tr (t.tr fr),r1⟩⟩
noncomputable def tyD:D->Option String
 | .non=>on "NoneType"| .bl _=>on "bool"| .int _=>on "int"| .str _=>on "str"| .lst _=>on "list"| .tup _=>on "tuple"|_=>OO
def tys:List String:=["int","bool","str","NoneType","list","tuple"]
noncomputable def za(a b:String):a0N:=if tys.contains a&&tys.contains b&&b !="NoneType"&&(b !="int"||a==b)then on (a==b)else OO
noncomputable def y9(a b c:String):a0N:=if tys.contains a&&(b=="list"&&c=="tuple"||b=="int"&&c=="str")then on (a==b||a==c||a=="bool"&&b=="int")else OO
theorem u_{a:String}(h:tys.contains a=OT):a="int"\/a="bool"\/a="str"\/a="NoneType"\/a="list"\/a="tuple":=by
 simpa[tys]using h
theorem JO{a b:String}{c:Bool}(h:za a b=on c):kitOne K (.type a) (.type b)=on c:=by
 unfold za at h;split at h
 case isFalse=>cases h
 rename_i q;simp only[PL]at q;cases h;rcases u_ q.1.1.1 with rfl|rfl|rfl|rfl|rfl|rfl<;>rcases u_ q.1.1.2 with rfl|rfl|rfl|rfl|rfl|rfl<;>first|exact Px q.1.2 (by decide)|exact Px q.2 (by decide)|kernel_rfl
theorem JN{a b d:String}{c:Bool}(h:y9 a b d=on c):Zx K (.type a) ([b,d].map Sf)=on c:=by
 unfold y9 at h;split at h
 case isFalse=>cases h
 rename_i q;simp only[PL,WB,R8]at q;cases h;rcases q.2 with⟨rfl,rfl⟩|⟨rfl,rfl⟩<;>rcases u_ q.1 with rfl|rfl|rfl|rfl|rfl|rfl<;>kernel_rfl
def TyG(K:Pk)(H:Hp)(x:V)(t:OX):Prop:=ot K H x t\/(∃a b,x= .ref a/\fx K H a b/\t= .type "list")\/(∃a b,x= .ref a/\io K H a b/\t= .type "tuple")
def Hw(K:Pk):a0k->Hp->VK->Prop:=λa H Q=>∃x c t b,a=[x,.ty c]/\TyG K H x t/\kitOne K t (.type c)=on b/\Q (.bl b) H
theorem EM:cM X (.builtin "isinstance") (Hw X.K):=by
 intro i s m H E F Q I r h;obtain⟨x,c,t,b,rfl,f,e,q⟩:=h;cases r with
 |cons r1 d=>
  cases d with
  |cons d l=>
   cases l;cases d;rcases f with f|⟨a,D,rfl,k,rfl⟩|⟨a,D,rfl,k,rfl⟩
   .exact DI I r1 f e λj=>⟨.bl b,H,I.tok _,rfl,q⟩
   .cases r1
    obtain⟨n,_,p,_⟩:=I.list k;obtain⟨o,g,hc,_⟩:=p.isList;exact Vj Wf I.kIn ⟨o,g,hc⟩ e (λz=>nomatch z) λj=>⟨.bl b,H,I.tok _,rfl,q⟩
   .cases r1
    obtain⟨n,_,p,_⟩:=I.tuple k;obtain⟨o,g,hc,_⟩:=p;exact Vj Yd I.kIn ⟨o,g,hc⟩ e (λz=>nomatch z) λj=>⟨.bl b,H,I.tok _,rfl,q⟩
theorem z9{F:Fx}{H:Hp}(h:tyD d=on t)(c:c4 K F H d v):TyG K H v (.type t):=by
 cases d with
 |non=>cases h;cases c.non;exact .inl .non
 |bl b=>cases h;cases c.bl;exact .inl (.bl b)
 |int b=>cases h;cases c.int;exact .inl (.int b)
 |str b=>cases h;cases c.str;exact .inl (.str b)
 |lst ds=>cases h;obtain⟨a,e,rfl,f,_⟩:=c4.sqL c;exact .inr (.inl ⟨a,e,rfl,f,rfl⟩)
 |tup ds=>cases h;obtain⟨a,e,rfl,f,_⟩:=c4.sqT c;exact .inr (.inr ⟨a,e,rfl,f,rfl⟩)
 |_=>cases h
def jv:a0c->a0l
 |[x,.ty c]=>(tyD x).bind λt=>(za t c).map D.bl
 |_=>OO
theorem NW:dB K (Hw K) jv:=λF H f Q n d p fr h e k=>by
 unfold jv at e;split at e
 .rename_i x c
  cases q:tyD x with
  |none=>rw[q]at e;cases e
  |some t=>
   rw[q]at e;simp only[Sg]at e;cases a:za t c with
   |none=>rw[a]at e;cases e
   |some b=>
    rw[a]at e;cases e;obtain⟨v,w,rfl,g,i⟩:=bb.two h;cases i.ty;exact⟨v,c,_,b,rfl,z9 q g,JO a,k _ H (To.refl fr) rfl⟩
 .cases e
def BR(K:Pk):a0k->Hp->VK->Prop:=λc H Q=>∃(x:V) (tp:OS) (a:List String) (t:OX) (b:Bool),c=[x,.ref tp]/\io K H tp (a.map V.ty)/\TyG K H x t/\Zx K t (a.map Sf)=on b/\Q (.bl b) H
theorem rn:cM X (.builtin "isinstance") (BR X.K):=by
 intro m s N H c G Q I r h;obtain⟨x,tp,M,t,b,rfl,A,k,e,q⟩:=h;cases r with
 |cons r1 B=>
  cases B with
  |cons B P=>
   cases P;cases B;obtain⟨f,R,⟨⟨Z,T,U,W⟩,g,u,n,j⟩,_⟩:=I.tuple A;rw[z6 R]at j
   dsimp only at u j
   subst u j;have d:∀L,EP X m N Q (.bool b) {s with toks:=L}:=λL=>⟨.bl b,H,I.tok _,rfl,q⟩;rcases k with k|⟨a,F,rfl,D,rfl⟩|⟨a,F,rfl,D,rfl⟩
   .cases k with
    |non=>cases r1;exact Vk Yv I.kIn SB g e (λz=>nomatch z) d
    |bl y=>cases r1;exact Vk Yu I.kIn SB g e (λz=>nomatch z) d
    |int i=>obtain⟨t,rfl⟩:=r1;exact Vk YN I.kIn SB g e (λz=>nomatch z) d
    |str y=>obtain⟨t,rfl⟩:=r1;exact Vk YQ I.kIn SB g e (λz=>nomatch z) d
    |@lst a c ea=>
     cases r1;obtain⟨_,_,n,_,v⟩:=(show bF X.prog X.w H s.heap a (.lst c)from I.hok a _ ea);exact Vk Wf I.kIn ⟨_,v,rfl⟩ g e (λz=>nomatch z) d
    |@frz a ob c ea=>
     cases r1;obtain⟨_,_,_,n,_,v⟩:=(show bF X.prog X.w H s.heap a (.frz ob (.lst c))from I.hok a _ ea);exact Vk Wf I.kIn ⟨_,v,rfl⟩ g e (λz=>nomatch z) d
    |@tup a c ea=>
     cases r1;obtain⟨_,_,_,p⟩:=(show bF X.prog X.w H s.heap a (.tup c)from I.hok a _ ea);obtain⟨o,v,Y,_⟩:=p;exact Vk Yd I.kIn ⟨o,v,Y⟩ g e (λz=>nomatch z) d
    |@ins a C dx fs ea cl ha hn htk hm=>
     cases r1;obtain⟨S,O,_⟩:=kO I.hok ea;obtain⟨T,J,_⟩:=O.look;exact Vk (YO (cl.get _) cl.hd ha hn htk hm) I.kIn J g e (λz=>nomatch z) d
   .cases r1
    obtain⟨f,_,E,_⟩:=I.list D;obtain⟨o,l,hc,_⟩:=E.isList;exact Vk Wf I.kIn ⟨o,l,hc⟩ g e (λz=>nomatch z) d
   .cases r1
    obtain⟨f,_,E,_⟩:=I.tuple D;obtain⟨o,l,hc,_⟩:=E;exact Vk Yd I.kIn ⟨o,l,hc⟩ g e (λz=>nomatch z) d
def uH:a0c->a0l
 |[x,.tup [.ty a,.ty b]]=>(tyD x).bind λt=>(y9 t a b).map D.bl
 |_=>OO
theorem DD:dB K (BR K) uH:=λF H D Q E d G fr h e k=>by
 unfold uH at e;split at e
 .rename_i x a b
  cases q:tyD x with
  |none=>rw[q]at e;cases e
  |some t=>
   rw[q]at e;simp only[Sg]at e;cases f:y9 t a b with
   |none=>rw[f]at e;cases e
   |some c=>
    rw[f]at e;cases e;obtain⟨v,w,rfl,g,i⟩:=bb.two h;obtain⟨p,I,rfl,n,j⟩:=c4.sqT i;obtain⟨y,z,rfl,l,m⟩:=bb.two j;cases l.ty;cases m.ty;exact⟨v,p,[a,b],_,c,rfl,n,z9 q g,JN f,k _ H (To.refl fr) rfl⟩
 .cases e
def y4(K:Pk)(J:It)(F:Fx)(H:Hp)(b:a0c):Prop:=∀(h:Fx) (g:Hp) (a:Bg),Tr F H h g->Fr h g a->∀i,(∀d,b[i]?=on d->J.go i g/\∀x j,J.yld i g x j->bP g j/\c4 K h j d x)/\(i=b.length->J.stop i g)
theorem y4.tr{K:Pk}{F d:Fx}{H g:Hp}(t:Tr F H d g)(h:y4 K J F H ds):y4 K J d g ds:=λi j a l fr=>h i j a (t.trans l) fr
def iV(K:Pk)(f:FL)(E:a0r):TI:=λd H R=>∃F a b,Fr F H b/\i0 K F H a d/\run (λg (c:a0c) (J:It)=>y4 K J F g c) F E d (f a) H R b
theorem _root_.L2.PI.imp{X:Cx}{a e:Expr}(h:PI X a e t)(f:∀d H Q,i d H Q->t d H Q):PI X a e i:=λg s d H Q I q=>h g s d H Q I (f d H Q q)
variable{tg:Expr}
def iSeq(K:Pk)(g:TE):TI:=λh H R=>g h H λx d=>(∃a,x= .ref a/\(∃b,fx K d a b)/\R (Itl K a) d)\/(∃a,x= .ref a/\(∃b,io K d a b)/\R (Itt K a) d)
theorem Lm(t:PE X l tl):PI X tg l (iSeq X.K tl):=by
 intro g s u H R I h;refine eg (t g s u H _ I h) λv d ⟨x,m,i,r1,f⟩=>?_;have j:∀b∈[d.heap.objs.size],fF X g m b:=λb w=>by
  obtain rfl:b=d.heap.objs.size:=by simpa using w
  exact i.fpOk (O5 _) (i.hok.fresh (O5 _))
 rcases f with⟨a,e,⟨k,r⟩,q⟩|⟨a,e,⟨k,r⟩,q⟩
 .subst e
  cases r1;obtain⟨c,y,p,A⟩:=i.list r;exact Vl p.isList ⟨d.heap.objs.size,[d.heap.objs.size],_,_,m,rfl,i.kept (t':=d.toks) λb o e=>OQ _ e,sN a _,⟨_,Ph _ rfl,rfl,rfl⟩,j,q⟩
 .subst e
  cases r1;obtain⟨c,y,p,A⟩:=i.tuple r;exact U9 (show d.heap.IsTuple a c.toArray from p) ⟨d.heap.objs.size,[d.heap.objs.size],_,_,m,rfl,i.kept (t':=d.toks) λb o e=>OQ _ e,yh a _,⟨_,Ph _ rfl,rfl,rfl⟩,j,q⟩
theorem GC{F:Fx}{H:Hp}{a:OS}(h:c4 K F H (.lst s) (.ref a)):y4 K (Itl K a) F H s:=λu v k t fr i=>by
 have o:=c4.tr t _ _ h;obtain⟨w,b,e,c,g⟩:=c4.sqL o;cases e;refine⟨λd f=>?_,λq=>⟨b,c,by rw[<-g.length,q];exact O5 _⟩⟩;obtain⟨x,r,_⟩:=g.get f;refine⟨⟨b,x,c,r⟩,λy A j=>?_⟩;obtain⟨rfl,j⟩:=j;obtain⟨n,m,l⟩:=g.getV (j b c);rw[f]at m;cases m;exact⟨bP.refl _,l⟩
theorem JR{F:Fx}{H:Hp}{a:OS}(h:c4 K F H (.tup s) (.ref a)):y4 K (Itt K a) F H s:=λu v k t fr i=>by
 have o:=c4.tr t _ _ h;obtain⟨w,b,e,c,g⟩:=c4.sqT o;cases e;refine⟨λd f=>?_,λq=>⟨b,c,by rw[<-g.length,q];exact O5 _⟩⟩;obtain⟨x,r,_⟩:=g.get f;refine⟨⟨b,x,c,r⟩,λy A j=>?_⟩;obtain⟨rfl,j⟩:=j;obtain⟨n,m,l⟩:=g.getV (j b c);rw[f]at m;cases m;exact⟨bP.refl _,l⟩
def d6(f:FD):FL:=λa=>M.bind (f a) λd=>M.ofO (fM d)
theorem aX{f:FD}(j:PE X l (tV X.K f E)):PI X tg l (iV X.K (d6 f) E):=
 (Lm j).imp λq H R g=>lm g λF p x fr m h=>⟨F,p,x,fr,m,(run.bind (R:=c4 X.K F) h).mono λv i g=>by
  obtain⟨d,D,t,b,r1⟩:=g;obtain⟨G,e,k⟩:=run.ofO r1;cases d<;>first
   |(cases e;obtain⟨a,c,rfl,n,o⟩:=c4.sqL b;exact .inl ⟨a,rfl,⟨c,n⟩,k _ i (To.refl t.fr) (GC b)⟩)
   |(cases e;obtain⟨a,c,rfl,n,o⟩:=c4.sqT b;exact .inr ⟨a,rfl,⟨c,n⟩,k _ i (To.refl t.fr) (JR b)⟩)
   |cases e⟩
noncomputable def aZ(a:Int)(n:Nat):a0c:=(O6 n).map λ(i:Nat)=> .int (a+(i:Int))
theorem tK{F:Fx}{H:Hp}{b:Int}{n:Nat}:y4 K (Itr b n) F H (aZ b n):=λl m c t fr i=>by
 refine⟨λd a=>?_,λg=>?_⟩
 .unfold aZ at a
  have g:i<n:=by
   have:=(Pa.mp a).1;simpa using this
  rw[OY,Qr g]at a;cases a;exact⟨g,λx o ⟨h,j⟩=>by subst h j;exact⟨bP.refl _,rfl⟩⟩
 .show n<=i
  rw[g];simp[aZ]
def gz:a0c->a0F
 |[.int j]=>if(decide (-(2^62)<=j)&&decide (j<2^62))=OT then on (aZ 0 j.toNat)else OO
 |_=>OO
def pF:a0c->a0F
 |[.int i,.int j]=>if(decide (-(2^62)<=i)&&decide (i<2^62)&&decide (-(2^62)<=j)&&decide (j<2^62))=OT then on (aZ i (j-i).toNat)else OO
 |_=>OO
def dz(a:a0c->a0F)(g:FL):FL:=λb=>M.bind (g b) λc=>M.ofO (a c)
theorem cy{a:Expr}{p U:Uh}(j:Gl X "range")(b:X.mg "range"=OO)(c:PA X [a] (i4 X.K g E))(f:Pd [a] X.env=[(OW,Qp a X.env)]:=by rfl):PI X tg (.Call (.Name "range" p) [a] [] U) (iV X.K (dz gz g) E):=
 (BZ j b c f).imp λr H R d=>lm d λF n x fr m h=>⟨F,n,x,fr,m,(run.bind (R:=bb X.K F) h).mono λI o d=>by
  obtain⟨M,D,t,G,r1⟩:=d;obtain⟨l,e,k⟩:=run.ofO r1;unfold gz at e;split at e
  .split at e
   .rename_i i
    cases e;simp only[PL,P9]at i;obtain⟨v,rfl,q⟩:=bb.one G;cases q.int;exact⟨_,rfl,i.1,i.2,k _ o (To.refl t.fr) tK⟩
   .cases e
  .cases e⟩
theorem lN{a b:Expr}{p U:Uh}(m:Gl X "range")(c:X.mg "range"=OO)(f:PA X [a,b] (i4 X.K g E))(n:Pd [a,b] X.env=[(OW,Qp a X.env),(OW,Qp b X.env)]:=by rfl)(i:Pd [b] X.env=[(OW,Qp b X.env)]:=by rfl):PI X tg (.Call (.Name "range" p) [a,b] [] U) (iV X.K (dz pF g) E):=
 (BY m c f n i).imp λy H R j=>lm j λF x D fr o h=>⟨F,x,D,fr,o,(run.bind (R:=bb X.K F) h).mono λM q j=>by
  obtain⟨S,G,t,I,r1⟩:=j;obtain⟨l,e,k⟩:=run.ofO r1;unfold pF at e;split at e
  .split at e
   .rename_i d
    cases e;simp only[PL,P9]at d;obtain⟨v,w,rfl,r,u⟩:=bb.two I;cases r.int;cases u.int;exact⟨_,_,rfl,⟨d.1.1.1,d.1.1.2,d.1.2,d.2⟩,k _ q (To.refl t.fr) tK⟩
   .cases e
  .cases e⟩
abbrev na:=D->Dn->Option Dn
abbrev jD:=a0c->Dn->Option Dn
def cF(K:Pk)(g:TG)(tg:na):Prop:=∀(F:Fx) (H:Hp) (b a:Dn) (i:St) (d:D) (v:V) (Q:a0E),i0 K F H b i->c4 K F H d v->tg d b=on a->(∀h,i0 K F H a h->Q h H)->g v i H Q
def rE(K:Pk)(g:V_)(tg:jD):Prop:=∀(F:Fx) (H:Hp) (b a:Dn) (h:St) (c:a0c) (e:a0k) (Q:a0E),i0 K F H b h->bb K F H c e->tg c b=on a->(∀d,i0 K F H a d->Q d H)->g e h H Q
noncomputable def hU(i:Nat):na:=λd a=>if(a.getD i (on .non)).isNone then on (a.set i (on d))else OO
noncomputable def k8:jD:=λa b=>match a with
 |[]=>on b
 |_=>OO
noncomputable def fS(t:na)(u:jD):jD:=λb c=>match b with
 |[]=>OO
 |d::r=>(t d c).bind λa=>u r a
noncomputable def X_(t:jD):na:=λd a=>match d with
 | .tup ds=>t ds a
 |_=>OO
theorem u3{b a:Dn}(h:hU i d b=on a):b[i]?=on OO/\a=b.set i (on d):=by
 unfold hU at h;split at h
 .rename_i q
  cases h;refine⟨?_,rfl⟩;rw[OU]at q;cases e:b[i]? with
  |none=>rw[e]at q;cases q
  |some z=>
   rw[e]at q;cases z with
   |none=>rfl
   |some w=>cases q
 .cases h
theorem ar:cF K (fj i) (hU i):=λF H c a h d v Q g b e k=>by
 obtain⟨_,rfl⟩:=u3 e;exact k _ (g.set b)
theorem cS:rE K gNil k8:=λF H f a g b n Q d c e k=>by
 cases b with
 |nil=>cases e;exact⟨c,k _ d⟩
 |cons _ _=>cases e
theorem aW(m:cF K t s)(o:rE K u uf):rE K (zn t u) (fS s uf):=λF H b a v c n Q w f e k=>by
 cases c with
 |nil=>cases e
 |cons d r=>
  obtain⟨x,l,rfl,y,A⟩:=f;have h:(s d b).bind (λa=>uf r a)=on a:=e;cases q:s d b with
  |none=>rw[q]at h;cases h
  |some g=>
   rw[q]at h;exact⟨x,l,rfl,m F H b g v d x _ w y q λi j=>o F H g a i r l Q j A h k⟩
theorem dQ{n:Nat}(h:rE K t l)(x:∀f c b,l f c=on b->f.length=n):cF K (GK K n t) (X_ l):=λF H c b i d v Q j D e k=>by
 cases d<;>first
  |(obtain⟨a,p,rfl,E,g⟩:=c4.sqT D;exact⟨a,p,rfl,E,by rw[<-g.length];exact x _ _ _ e,h F H c b i _ p Q j g e k⟩)
  |cases e
theorem cm:∀b c a,k8 b c=on a->b.length=0:=λb c a h=>by
 cases b with
 |nil=>rfl
 |cons _ _=>cases h
theorem aU{n:Nat}(h:∀b c a,u b c=on a->b.length=n):∀b c a,fS t u b c=on a->b.length=n+1:=λb c a e=>by
 cases b with
 |nil=>cases e
 |cons d r=>
  have g:(t d c).bind (λa=>u r a)=on a:=e;cases q:t d c with
  |none=>rw[q]at g;cases g
  |some i=>rw[q]at g;rw[Pg,h _ _ _ g]
def dT(tg:na):Prop:=∀d b a,tg d b=on a->Sub b a/\b.length=a.length
def uQ(tg:jD):Prop:=∀d b a,tg d b=on a->Sub b a/\b.length=a.length
theorem ax:dT (hU i):=λd b a e=>by
 obtain⟨q,rfl⟩:=u3 e;refine⟨λj c g=>?_,by rw[QG]⟩;rw[QY];by_cases z:i=j
 .subst z;rw[q]at g;cases g
 .rw[O1 z];exact g
theorem cP:uQ k8:=λa c b e=>by
 cases a with
 |nil=>cases e;exact⟨λ_ _ h=>h,rfl⟩
 |cons _ _=>cases e
theorem aV(j:dT t)(l:uQ u):uQ (fS t u):=λf b a e=>by
 cases f with
 |nil=>cases e
 |cons d r=>
  have g:(t d b).bind (λa=>u r a)=on a:=e;cases q:t d b with
  |none=>rw[q]at g;cases g
  |some m=>
   rw[q]at g;obtain⟨k,n⟩:=j _ _ _ q;obtain⟨p,o⟩:=l _ _ _ g;exact⟨λi c h=>p i c (k i c h),n.trans o⟩
theorem dJ(h:uQ t):dT (X_ t):=λd b a e=>by
 cases d<;>first|exact h _ _ _ e|cases e
structure nq (F:Fx) (D:OS) (H H':Hp) (β':Bg):Prop where
 kp:∀a o,H a=on o->a≠D->(∀b l,F.bg=on (b,l)->a≠b/\a≠l)->H' a=on o
 fr:Fr F H' β'
theorem nq.trans{F:Fx}{D:OS}{H d g:Hp}(a:nq F D H d β1)(b:nq F D d g i):nq F D H g i:=⟨λx o h n m=>b.kp x o (a.kp x o h n m) n m,b.fr⟩
theorem To.toD{F:Fx}{H d:Hp}(t:To F H d g)(D:OS):nq F D H d g:=⟨λa o h _ m=>t.kp a o h m,t.fr⟩
theorem nq.tr{F:Fx}{D:OS}{H d:Hp}(fr:Fr F H j)(g:F.A D)(t:nq F D H d i):Tr F H F d:=
 ⟨λ_ h _=>h,λa o h e=>t.kp a o e (λz=>h (z▸g)) λb l q=>⟨λz=>h (z▸(fr.bgA b l q).1),λz=>h (z▸(fr.bgA b l q).2.1)⟩,rfl⟩
structure AR where
 R:Fx->Hp->OS->List Pu.D->Prop
 Z:List Pu.D->Prop
 tr:∀{F F2:Fx} {H H':Hp} {D:OS} {as:List Pu.D},R F H D as->(∀o,H D=on o->H' D=on o)->Tr F H F2 H'->R F2 H' D as
 zp:∀{as os:List Pu.D},Z (as++os)->Z as
noncomputable def RL(K:Pk):AR where
 R:=λF H D b=>∃a,H D=on (.lst a)/\bb K F H b a
 Z:=λl=>l.length<=Pf
 tr:=λh k t=>by
  obtain⟨a,d,g⟩:=h;exact⟨a,k _ d,bb.tr t _ _ g⟩
 zp:=λh=>by rw[Pl]at h;lia
def eV(K:Pk)(R:AR)(D:OS)(j:TB)(f:Dn->M (List Pu.D)):Prop:=∀(F:Fx) (H:Hp) (a:Dn) (k d:Bg) (i:St) (c e:List Pu.D) (Q:a0E),Fr F H k->F.A D->(∀b l,F.bg=on (b,l)->D≠b/\D≠l)->i0 K F H a i->R.R F H D c->
 f a k=on (.ok e,d)->R.Z (c++e)->(∀g h,nq F D H h d->i0 K F h a g->R.R F h D (c++e)->Q g h)->j i H Q
abbrev j6(K:Pk):=eV K (RL K)
def lk(f:Dn->M Pu.D):Dn->M (List Pu.D):=λa=>M.bind (f a) λd=>M.ret [d]
theorem M.bind_inv{c g:Type}{m:M c}{k:c->M g}{f d:Bg}{r:g}(h:M.bind m k f=on (.ok r,d)):∃a b,m f=on (.ok a,b)/\k a b=on (.ok r,d):=by
 unfold M.bind at h;split at h
 .cases h
 .cases h
 .rename_i a b e
  exact⟨a,b,e,h⟩
theorem E0.run{b i:Type}{R:Hp->b->i->Prop}{F:Fx}{j:St}{m:M b}{H:Hp}{Q:i->Hp->Prop}{c d:Bg}{a:b}(e:m c=on (.ok a,d))(h:∀v g,To F H g d->R g a v->Q v g):run R F E0 j m H Q c:=⟨.ok a,d,e,h⟩
theorem aQ{D:OS}{f:Dn->M Pu.D}:j6 K D (zK D (tV K f E0)) (lk f):=λF H E G g w S V Q fr y i m A e B k=>by
 obtain⟨c,C,x⟩:=A;obtain⟨d,U,I,J⟩:=M.bind_inv e;cases J;refine⟨F,E,G,fr,m,E0.run I λv r t L=>?_⟩;have j:=t.kp D _ C i;have N:=bb.tr (t.tr fr) _ _ x;refine⟨c,j,by rw[<-x.length];have:=(show(S++[d]).length<=Pf from B);simp at this;lia,?_⟩;have u:nq F D r (upd r D (.lst (c++[v]))) g:=by
  refine⟨λa o h n _=>by rw[bt n];exact h,λa h q=>?_,fr.bgA,λb l q=>?_⟩
  .by_cases z:a=D
   .subst z;rw[am]at q;cases q
   .rw[bt z]at q;exact t.fr.occ a h q
  .rw[bt (i b l q).1.symm,bt (i b l q).2.symm]
   exact t.fr.bag b l q
 have p:=u.tr t.fr y;exact k w _ ((t.toD D).trans u) (m.tr ((t.tr fr).trans p)) ⟨_,am,bb.append (bb.tr p _ _ N) ⟨v,[],rfl,c4.tr p _ _ L,rfl⟩⟩
def oa(tg:na)(e:a0q)(b:Dn->M (List Pu.D)):List Pu.D->Dn->M (List Pu.D)
 |[],_=>M.ret []
 |d::ds,δ=>match tg d δ with
  |none=>M.fail
  |some a=>M.bind (e a) λc=>M.bind (if c=OT then b a else M.ret []) λo=>M.bind (oa tg e b ds δ) λf=>M.ret (o++f)
theorem ox{R:AR}{D:OS}{tg:na}{b:Dn->M (List Pu.D)}(hg:cF K g tg)(sg:dT tg)(hb:eV K R D tb b){F:Fx}{H:Hp}{as os f:List Pu.D}(fr:Fr F H β)(hA:F.A D)(hn:∀b l,F.bg=on (b,l)->D≠b/\D≠l)(vk:i0 K F H s σ)(hR:R.R F H D as)
  (it:y4 K J F H f) (e:oa tg tt b f s β=on (.ok os,β')) (hz:R.Z (as++os)) (k:∀j t,nq F D H t β'->i0 K F t s j->R.R F t D (as++os)->Q j t):c8 J g (hY K tt E0) tb σ H Q:=by
 refine⟨λi m j t=>m+i=f.length/\∃a r v,nq F D H t a/\i0 K F t s j/\R.R F t D r/\oa tg tt b (f.drop i) s a=on (.ok v,β')/\r++v=as++os,
  ⟨f.length,by lia,β,as,os,⟨λ_ _ h _ _=>h,fr⟩,vk,hR,e,rfl⟩,?_⟩
 rintro i m j t ⟨hm,a,r,v,B,C,I,u,V⟩;have X:=B.tr fr hA;obtain⟨iy,is⟩:=it F t a X B.fr i;cases T:f[i]? with
 |none=>
  have U:f.length<=i:=UI.mp T;rw[Rl U]at u;cases u;refine .inl ⟨is (by lia),k j t B C ?_⟩;rw[<-V,PU];exact I
 |some d=>
  have U:i<f.length:=(Pa.mp T).1;obtain⟨go,yl⟩:=iy d T;have ed:f.drop i=d::f.drop (i+1):=by
   rw[QC U];congr 1;exact PH ((OV U).symm.trans T)
  rw[ed]at u;unfold oa at u;cases q:tg d s with
  |none=>rw[q]at u;cases u
  |some n=>
   rw[q]at u;obtain⟨c,E,e2,e3⟩:=M.bind_inv u;obtain⟨o,p,W,e5⟩:=M.bind_inv e3;obtain⟨aa,af,e6,e7⟩:=M.bind_inv e5;cases e7;obtain⟨s1,s2⟩:=sg _ _ _ q;refine .inr ⟨go,λL Y=>nq F D H Y p/\i0 K F Y s L/\R.R F Y D (r++o),?_,λx H2 hy=>?_⟩
   .rintro L Y ⟨t9,vk9,hR9⟩
    exact⟨m-1,by lia,by lia,p,r++o,aa,t9,vk9,hR9,e6,by rw[Qs];exact V⟩
   .obtain⟨sm,dx⟩:=yl x H2 hy
    have G:To F t H2 a:=B.fr.same sm;have N:=G.tr B.fr;refine hg F H2 s n j d x _ (C.tr N) dx q λab w=>⟨F,n,a,G.fr,w,E0.run e2 λc' H3 S ec=>?_⟩;subst ec;have y:=S.tr G.fr;have O:=R.tr I (λo z=>S.kp D o (sm _ _ z) hn) (N.trans y);have P:nq F D H H3 E:=B.trans ((G.trans S).toD D);have ac:R.Z (r++o):=by
     rw[<-V,<-Qs]at hz;exact R.zp hz
    cases c' with
    |true=>
     rw[O0 rfl]at W⊢;refine hb F H3 n E p ab r o _ S.fr hA hn (w.tr y) O W ac λag H4 t4 ad ae=>?_;exact⟨P.trans t4,ad.sub s1 s2,ae⟩
    |false=>
     rw[O1 O8]at W⊢;cases W;exact⟨P,(w.tr y).sub s1 s2,by rw[PU];exact O⟩
def Z8(c:Dn->M (List Pu.D))(tg:na)(e:a0q)(b:Dn->M (List Pu.D)):Dn->M (List Pu.D):=λa=>M.bind (c a) λf=>oa tg e b f a
theorem pM{D:OS}{tg:na}{b:Dn->M (List Pu.D)}(j:cF K g tg)(l:dT tg)(m:eV K R D s b):eV K R D (zJ (iV K L E0) λJ=>c8 J g (hY K N E0) s) (Z8 L tg N b):=λF H c f q C p x Q fr r a h u e v k=>by
 obtain⟨E,n,w,y⟩:=M.bind_inv e;refine⟨F,c,f,fr,h,E0.run w λJ i t A=>?_⟩;exact ox j l m t.fr r a (h.tr (t.tr fr)) (R.tr u (λo z=>t.kp D o z a) (t.tr fr)) A y v λd i B=>k d i ((t.toD D).trans B)
theorem JL{D:OS}{tg:na}{b:Dn->M (List Pu.D)}(d:cF K g tg)(h:dT tg)(i:j6 K D j b):j6 K D (zJ (iV K l E0) λJ=>c8 J g (hY K m E0) j) (Z8 l tg m b):=pM d h i
noncomputable def lg(nv:Nat)(cx:a0a)(δ:Dn):Dn:=Pn nv OO++cx.map λj=>δ.getD j OO
def c7(nv:Nat)(cx:a0a)(it:Dn->M (List Pu.D))(tg:na)(c:a0q)(b:Dn->M (List Pu.D)):Dn->M Pu.D:=λa e=>match it a e with
 |none=>OO
 |some (.error C,β1)=>on (.error C,β1)
 |some (.ok ds,β1)=>match oa tg c b ds (lg nv cx a) β1 with
  |some (.ok os,β2)=>if os.length<=Pf then on (.ok (.lst os),β2)else OO
  |_=>OO
theorem rp{F:Fx}{H:Hp}{a:a0i}(h:i0 K F H r s):i0 K F H (lg a.length cx r) (kT a cx s):=by
 refine⟨by simp[lg,kT],λi d e=>?_⟩;unfold lg at e;unfold kT;rw[VA]at e⊢;rw[Q8]at e⊢;by_cases g:i<a.length
 .rw[O0 g,RJ,O0 g]at e
  cases e
 .rw[O1 g,OY]at e⊢
  cases q:cx[i-a.length]? with
  |none=>rw[q]at e;cases e
  |some j=>
   rw[q]at e;simp only[Ra,Xq]at e⊢;rw[OU]at e;cases z:r[j]? with
   |none=>rw[z]at e;cases e
   |some w=>
    rw[z]at e;have l:w=on d:=e;subst l;obtain⟨v,m,o⟩:=h.tell j d z;exact⟨v,by rw[OU,m];rfl,o⟩
theorem u4{c:a0i}{f:a0a}{k:Dn->M (List Pu.D)}{g:TG}{tg:na}{p:a0q}{P:a0W}{b:Dn->M (List Pu.D)}(Z:cF K g tg)(G:dT tg)(S:∀D,j6 K D (P D) b){T:St}{H:Hp}{Q:VK}(h:tV K (c7 c.length f k tg p b) E T H Q):
  qh c f (iV K k E) (λD J=>c8 J g (hY K p E0) (P D)) T H Q:=by
 obtain⟨F,V,X,fr,U,r,v,e,h⟩:=h;unfold c7 at e;refine⟨F,V,X,fr,U,?_⟩;split at e
 .cases e
 .rename_i C β1 q
  cases e;exact⟨.error C,_,q,h⟩
 .rename_i ds β1 q
  split at e
  .rename_i os β2 q2
   split at e
   .rename_i hz
    cases e;refine⟨.ok ds,β1,q,λJ u t s D i=>?_⟩;have d:¬F.A D:=t.fr.fresh i;have nb:∀b l,F.bg=on (b,l)->D≠b/\D≠l:=λb l z=>⟨λw=>d (w▸(fr.bgA b l z).1),λw=>d (w▸(fr.bgA b l z).2.1)⟩;have W:=t.fr.upd (.lst []) i;have B:Fr ⟨λa=>F.A a\/a=D,F.bg⟩ (upd u D (.lst [])) β1:=by
     refine⟨λa ha z=>?_,λb l z=>let ⟨x,y,w⟩:=fr.bgA b l z;⟨.inl x,.inl y,w⟩,W.fr.bag⟩
     rcases ha with ha|ha
     .exact W.fr.occ a ha z
     .subst ha;rw[am]at z;cases z
    have j:Tr F u ⟨λa=>F.A a\/a=D,F.bg⟩ (upd u D (.lst [])):=⟨λa ha hs z=>by
     rcases z with z|z
     .exact ha z
     .subst z;exact hs i,λa o ha z=>by rw[bt (b_ z i)];exact z,rfl⟩
    refine ox (R:=RL K) (D:=D) (as:=[]) (os:=os) Z G (S D) B (.inr rfl) nb (rp (U.tr ((t.tr fr).trans j))) ⟨[],am,rfl⟩ (s.tr j) q2 (show os.length<=Pf from hz) λaa Y I ab L=>?_;obtain⟨m,N,O⟩:=L;have tf:To F u Y v:=by
     refine⟨λa o z n=>I.kp a o (by rw[bt (b_ z i)];exact z) (b_ z i) n,λa ha z=>I.fr.occ a (RH ha) z,fr.bgA,I.fr.bag⟩
    refine h _ Y (t.trans tf) ⟨D,m,rfl,⟨d,.inl N⟩,bb.tr (F:=⟨λa=>F.A a\/a=D,F.bg⟩) ⟨λa ha _ z=>ha (RH z),λa o _ z=>z,rfl⟩ _ _ O⟩
   .cases e
  .cases e
inductive Sl where
 |sh (d:D)|own (ds:a0c)|grd (ba:a0u)|odc (b:Bool) (ks:a0V) (vs:a0c)
abbrev a0R:=Option Sl
abbrev Ds:=List a0R
inductive si where
 |nx (δ:Ds)|rt (d:D)|bk (δ:Ds)|ct (δ:Ds)|ex (C:OS) (δ:Ds)|rg (ba:a0u)
abbrev a0z:=si->Bg->Prop
abbrev G:=Ds->Bg->Option (si×Bg)
abbrev Ow:=OS->a0G
noncomputable def en(B:Ow)(b:a0s):Fx:=⟨λa=>B a≠OO,b⟩
noncomputable def p_(B:Ow)(b:a0s):Fx:=⟨λa=>B a=on 0\/B a=on 1,b⟩
def bj(K:Pk)(F:Fx)(H:Hp)(P:OS->Prop):a0u->a0p->Prop
 |[],[]=>True
 |ds::ba,r::rs=>P r/\(∃a,H r=on (.lst a)/\bb K F H ds a)/\bj K F H P ba rs
 |_,_=>False
theorem bj.tr{K:Pk}{F i:Fx}{H d:Hp}(t:Tr F H i d):∀{b:a0u} {a:a0p},bj K F H P b a->(∀r xs,r∈a->P r->H r=on (.lst xs)->P2 r/\d r=on (.lst xs))->bj K i d P2 b a
 |[],[],_,_=>trivial
 |ds::b,r::a,h,f=>by
  obtain⟨j,⟨xs,l,m⟩,o⟩:=h;obtain⟨p,q⟩:=f r xs OZ j l;exact⟨p,⟨xs,q,bb.tr t _ _ m⟩,bj.tr t o λu g v=>f u g (OR _ v)⟩
 |[],_::_,h,_=>h.elim
 |_::_,[],h,_=>h.elim
theorem bj.all{K:Pk}{F:Fx}{H:Hp}:∀{c:a0u} {a:a0p},bj K F H P c a->∀r∈a,P r/\∃b,H r=on (.lst b)
 |[],[],_,r,hr=>by cases hr
 |ds::c,r0::a,h,r,hr=>by
  obtain⟨d,⟨b,g,j⟩,i⟩:=h;rcases Pb.mp hr with rfl|hr
  .exact⟨d,b,g⟩
  .exact bj.all i r hr
 |[],_::_,h,_,_=>h.elim
 |_::_,[],h,_,_=>h.elim
theorem bj.den{K:Pk}{F d:Fx}{H:Hp}(t:Tr F H d H):∀{b:a0u} {a:a0p},bj K F H P b a->(∀r,r∈a->P r->¬d.A r)->bb K d H (b.map D.lst) (a.map V.ref)
 |[],[],_,_=>rfl
 |ds::b,r::a,h,f=>by
  obtain⟨g,⟨c,i,j⟩,l⟩:=h;exact bb.cons ⟨r,c,rfl,⟨f r OZ g,.inl i⟩,bb.tr t _ _ j⟩ (bj.den t l λm o=>f m (OR _ o))
 |[],_::_,h,_=>h.elim
 |_::_,[],h,_=>h.elim
theorem bj.len{K:Pk}{F:Fx}{H:Hp}:∀{a:a0u} {b:a0p},bj K F H P a b->a.length=b.length
 |[],[],_=>rfl
 |ds::a,r::b,h=>by simp[bj.len h.2.2]
 |[],_::_,h=>h.elim
 |_::_,[],h=>h.elim
def il(K:Pk)(F:Fx)(c H:Hp)(e:a0u)(v:V):Prop:=∃a b,v= .ref a/\c a=OO/\H a=on (.lst (b.map V.ref))/\(a::b).Nodup/\bj K F H (λr=>c r=OO) e b
def ODc(K:Pk)(F:Fx)(H:Hp)(a:OS)(b:Bool)(e:a0V)(f:a0c):Prop:=∃k c,H a=on (bB a b k c)/\e=c.map (·.1)/\(∀x∈c,fE K F H b x.1 x.2.1)/\bb K F H f (c.map (·.2.2))
theorem ODc.tr{K:Pk}{F g:Fx}{H d:Hp}{a:OS}{b:Bool}(t:Tr F H g d)(h:ODc K F H a b r s)(k:∀o,H a=on o->d a=on o):ODc K g d a b r s:=by
 obtain⟨c,e,i,j,l,m⟩:=h;exact⟨c,e,k _ i,j,λx q=>(l x q).tr t,bb.tr t _ _ m⟩
def D2(H:Hp)(a:OS):Prop:=(∃b,H a=on (.lst b))\/∃d,H a=on (.ext d)
theorem D2.imp{H d:Hp}{a:OS}(h:D2 H a)(k:∀o,H a=on o->d a=on o):D2 d a:=Or.imp (λ⟨b,z⟩=>⟨b,k _ z⟩) (λ⟨g,z⟩=>⟨g,k _ z⟩) h
def nP(K:Pk)(B:Ow)(c:a0s)(H:Hp)(i:Nat):Sl->V->Prop
 | .sh d,v=>c4 K (en B c) H d v
 | .own ds,v=>∃a f,v= .ref a/\B a=on (i+2)/\H a=on (.lst f)/\bb K (en B c) H ds f
 | .grd ba,v=>∃a e,v= .ref a/\B a=on (i+2)/\H a=on (.lst (e.map V.ref))/\(a::e).Nodup/\bj K (en B c) H (λr=>B r=on (i+2)) ba e
 | .odc b ks vs,v=>∃a,v= .ref a/\B a=on (i+2)/\ODc K (en B c) H a b ks vs
theorem nP.tr{K:Pk}{H g:Hp}(h:nP K B u H j s v)(t:Tr (en B u) H (en B2 u) g)(k:∀c,B c=on (j+2)->B2 c=on (j+2)/\∀o,H c=on o->g c=on o):nP K B2 u g j s v:=by
 cases s with
 |sh d=>exact c4.tr t _ _ h
 |own cs=>
  obtain⟨c,l,e,a,f,i⟩:=h;exact⟨c,l,e,(k c a).1,(k c a).2 _ f,bb.tr t _ _ i⟩
 |grd ba=>
  obtain⟨c,n,e,a,f,i,m⟩:=h;exact⟨c,n,e,(k c a).1,(k c a).2 _ f,i,bj.tr t m λr _ _ p q=>⟨(k r p).1,(k r p).2 _ q⟩⟩
 |odc b ks vs=>
  obtain⟨c,e,a,f⟩:=h;exact⟨c,e,(k c a).1,f.tr t (k c a).2⟩
structure fw (K:Pk) (H₀:Hp) (B:Ow) (bg:a0s) (H:Hp) (δ:Ds) (β:Bg) (σ:St):Prop where
 fr:Fr (en B bg) H β
 bgt:∀b l,bg=on (b,l)->B b=on 1/\B l=on 1
 len:δ.length=σ.length
 cov:∀a,H₀ a≠OO->H a≠OO
 new:∀a k,B a=on (k+2)->H₀ a=OO
 lst:∀a k,B a=on (k+2)->D2 H a
 tell:∀(i:Nat) (s:Sl),δ[i]?=on (on s)->∃v,σ[i]?=on (on v)/\nP K B bg H i s v
structure hL (B:Ow) (H:Hp) (B':Ow) (H':Hp):Prop where
 kp:∀a o,H a=on o->(B a=OO\/B a=on 0)->H' a=on o
 tg:∀a,B a=on 0\/B a=on 1->B' a=B a
 nn:∀a o,H a=on o->B a=OO->B' a=OO
 al:∀a,H a≠OO->H' a≠OO
theorem hL.refl(B:Ow)(H:Hp):hL B H B H:=⟨λ_ _ h _=>h,λ_ _=>rfl,λ_ _ _ h=>h,λ_ h=>h⟩
theorem hL.trans{H d g:Hp}(a:hL B H B1 d)(b:hL B1 d B2 g):hL B H B2 g:=by
 refine⟨λx o h n=>b.kp x o (a.kp x o h n) ?_,λx h=>?_,λx o h n=>b.nn x o (a.kp x o h (.inl n)) (a.nn x o h n),λx h=>b.al x (a.al x h)⟩
 .rcases n with n|n
  .exact .inl (a.nn x o h n)
  .exact .inr ((a.tg x (.inl n)).trans n)
 .have e:=a.tg x h
  rw[<-e]at h;exact(b.tg x h).trans e
def gu(K:Pk)(a:Hp)(b:a0s)(E:a0r)(Dn:ni)(B:Ow)(H:Hp)(o:si)(j:Bg):Prop:=match o with
 | .nx δ'=>∀h i g,hL B H i g->fw K a i b g δ' j h->Dn.nx h g
 | .bk δ'=>∀h i g,hL B H i g->fw K a i b g δ' j h->Dn.bk h g
 | .ct δ'=>∀h i g,hL B H i g->fw K a i b g δ' j h->Dn.ct h g
 | .rt d=>∀v i g,hL B H i g->Fr (en i b) g j->c4 K (en i b) g d v->Dn.rt v g
 | .rg ba=>∀v i g,hL B H i g->Fr (en i b) g j->il K (en i b) a g ba v->Dn.rt v g
 | .ex C δ'=>∀h i g,hL B H i g->fw K a i b g δ' j h->E h (.ref C) OO g
theorem gu.pre{K:Pk}{E:a0r}{Dn:ni}{H l:Hp}(s:hL B H B1 l)(h:gu K H₀ q E Dn B H o m):gu K H₀ q E Dn B1 l o m:=by
 cases o with
 |nx δ=>exact λg i j t=>h g i j (s.trans t)
 |bk δ=>exact λg i j t=>h g i j (s.trans t)
 |ct δ=>exact λg i j t=>h g i j (s.trans t)
 |rt d=>exact λv i j t=>h v i j (s.trans t)
 |rg d=>exact λv i j t=>h v i j (s.trans t)
 |ex C δ=>exact λg i j t=>h g i j (s.trans t)
def tG(K:Pk)(a:Hp)(g:G)(E:a0r):TS:=λDn h H=>∃B b c e o d,fw K a B b H c e h/\g c e=on (o,d)/\gu K a b E Dn B H o d
theorem _root_.L2.PS.imp{X:Cx}{e:Qk}(h:PS X e t)(f:∀D d H,i D d H->t D d H):PS X e i:=λg s d H D I q=>h g s d H D I (f D d H q)
theorem _root_.L2.PSs.imp{X:Cx}{e:a0Q}(h:PSs X e t)(f:∀D d H,i D d H->t D d H):PSs X e i:=λg s d H D I q=>h g s d H D I (f D d H q)
noncomputable def vw(δ:Ds):Dn:=δ.map λs=>match s with
 |some (.sh d)=>on d
 |_=>OO
noncomputable def hE(δ:Ds):Dn:=δ.map λs=>match s with
 |some (.sh d)=>on d
 |some (.own ds)=>on (.lst ds)
 |some (.grd ba)=>on (.lst (ba.map D.lst))
 |some (.odc b ks vs)=>on (.dct b ks vs)
 |none=>OO
variable{f:Hp}{B:Ow}{T:a0s}{W:Hp}{p:Ds}{R Y:Bg}{Z:St}
theorem M7{i:Nat}{d:D}(e:(vw p)[i]?=on (on d)):p[i]?=on (on (.sh d)):=by
 unfold vw at e;rw[OY]at e;cases q:p[i]? with
 |none=>rw[q]at e;cases e
 |some z=>
  rw[q]at e;cases z with
  |none=>cases e
  |some s=>
   cases s with
   |sh c=>cases e;rfl
   |own ds=>cases e
   |grd ba=>cases e
   |odc b ks vs=>cases e
theorem fw.view(h:fw K f B T H p R Z):i0 K (en B T) H (vw p) Z:=⟨by unfold vw;rw[ON,h.len],λi d e=>h.tell i _ (M7 e)⟩
theorem trA:Tr (en B T) H (p_ B T) H:=⟨λa h _ z=>by
 have b:¬(B a≠OO):=h;rcases z with z|z
 .exact b (by rw[z];simp)
 .exact b (by rw[z];simp),λ_ _ _ h=>h,rfl⟩
theorem fw.frA(h:fw K f B T H p R Z):Fr (p_ B T) H R:=⟨λa c=>h.fr.occ a (by
 show B a≠OO;rcases c with z|z<;>rw[z]<;>simp),λb l e=>⟨.inr (h.bgt b l e).1,.inr (h.bgt b l e).2,(h.fr.bgA b l e).2.2⟩,h.fr.bag⟩
theorem fw.viewA(h:fw K f B T H p R Z):i0 K (p_ B T) H (hE p) Z:=by
 refine⟨by unfold hE;rw[ON,h.len],λi d e=>?_⟩;unfold hE at e;rw[OY]at e;cases q:p[i]? with
 |none=>rw[q]at e;cases e
 |some z=>
  rw[q]at e;cases z with
  |none=>cases e
  |some s=>
   obtain⟨v,m,o⟩:=h.tell i s q;cases s with
   |sh c=>cases e;exact⟨v,m,c4.tr trA _ _ o⟩
   |own ds=>
    cases e;obtain⟨a,k,g,j,l,t⟩:=o;refine⟨v,m,a,k,g,⟨λz=>?_,.inl l⟩,bb.tr trA _ _ t⟩;have z':B a=on 0\/B a=on 1:=z;rw[j]at z';rcases z' with z'|z'<;>cases z'
   |grd ba=>
    cases e;obtain⟨a,D,g,j,l,t,u⟩:=o;have w:∀c,B c=on (i+2)->¬(p_ B T).A c:=λc hc z=>by
     have z':B c=on 0\/B c=on 1:=z;rw[hc]at z';rcases z' with z'|z'<;>cases z'
    exact⟨v,m,a,_,g,⟨w a j,.inl l⟩,bj.den trA u λr _ y=>w r y⟩
   |odc b ks vs=>
    cases e;obtain⟨a,g,j,n,k,l,t,u,C⟩:=o;refine⟨v,m,?_⟩;unfold c4;refine⟨a,n,k,g,⟨λz=>?_,l⟩,t,λx I=>(u x I).tr trA,bb.tr trA _ _ C⟩;have z':B a=on 0\/B a=on 1:=z;rw[j]at z';rcases z' with z'|z'<;>cases z'
theorem fw.to{F:Fx}(h:fw K f B T H p R Z)(hF:F.bg=T)(t:To F H W Y):fw K f B T W p Y Z/\hL B H B W:=by
 have r:∀a,B a≠on 1->∀b l,F.bg=on (b,l)->a≠b/\a≠l:=λa x b l e=>by
  rw[hF]at e;exact⟨λz=>x (z▸(h.bgt b l e).1),λz=>x (z▸(h.bgt b l e).2)⟩
 have D:∀a o,H a=on o->B a≠on 1->W a=on o:=λa o e n=>t.kp a o e (r a n);have fr:Fr (en B T) W Y:=⟨λa x z=>(by
  by_cases u:B a=on 1
  .by_cases g:∃b l,T=on (b,l)/\(a=b\/a=l)
   .obtain⟨b,l,e,q⟩:=g
    obtain⟨j,m⟩:=t.fr.bag b l (hF.trans e);rcases q with rfl|rfl
    .rw[j]at z;cases z
    .rw[m]at z;cases z
   .cases q:H a with
    |none=>exact h.fr.occ a x q
    |some o=>
     rw[t.kp a o q λb l e=>⟨λw=>g ⟨b,l,hF.symm.trans e,.inl w⟩,λw=>g ⟨b,l,hF.symm.trans e,.inr w⟩⟩]at z;cases z
  .cases q:H a with
   |none=>exact h.fr.occ a x q
   |some o=>rw[D a o q u]at z;cases z),h.fr.bgA,λb l e=>t.fr.bag b l (hF.trans e)⟩
 have G:Tr (en B T) H (en B T) W:=⟨λ_ n _=>n,λa o n e=>D a o e (λz=>n (by show B a≠OO;rw[z];simp)),rfl⟩;have E:∀a,H a≠OO->W a≠OO:=λa x z=>by
  by_cases g:∃b l,T=on (b,l)/\(a=b\/a=l)
  .obtain⟨b,l,e,q⟩:=g
   obtain⟨j,m⟩:=t.fr.bag b l (hF.trans e);rcases q with rfl|rfl
   .rw[j]at z;cases z
   .rw[m]at z;cases z
  .cases q:H a with
   |none=>exact x q
   |some o=>
    rw[t.kp a o q λb l e=>⟨λw=>g ⟨b,l,hF.symm.trans e,.inl w⟩,λw=>g ⟨b,l,hF.symm.trans e,.inr w⟩⟩]at z;cases z
 refine⟨⟨fr,h.bgt,h.len,λa x=>E a (h.cov a x),h.new,λc k hc=>(h.lst c k hc).imp λo z=>D c o z (by rw[hc];intro z;cases z),λi s e=>?_⟩,λa o e n=>D a o e (by rcases n with n|n<;>rw[n]<;>simp),λ_ _=>rfl,λ_ _ _ n=>n,E⟩
 obtain⟨v,y,A⟩:=h.tell i s e;exact⟨v,y,A.tr G λc d=>⟨d,λo q=>D c o q (by rw[d];intro z;cases z)⟩⟩
theorem fw.set(h:fw K f B T H p R Z)(a:c4 K (en B T) H d v):fw K f B T H (p.set i (on (.sh d))) R (Z.set i (on v)):=by
 refine⟨h.fr,h.bgt,by rw[QG,QG,h.len],h.cov,h.new,h.lst,λj c e=>?_⟩;rw[QY]at e;rw[QY];by_cases q:i=j
 .subst q
  rw[O0 rfl]at e⊢;split at e
  .rename_i g
   cases e;rw[O0 (by rw[<-h.len];exact g)];exact⟨v,rfl,a⟩
  .cases e
 .rw[O1 q]at e⊢
  exact h.tell j c e
noncomputable def gNil:G:=λp R=>on (.nx p,R)
noncomputable def aJ(g h:G):G:=λp R=>match g p R with
 |some (.nx δ1,β1)=>h δ1 β1
 |r=>r
def iB(i:Nat)(f:FD):G:=λp R=>match f (vw p) R with
 |some (.ok d,β1)=>on (.nx (p.set i (on (.sh d))),β1)
 |some (.error C,β1)=>on (.ex C p,β1)
 |none=>OO
noncomputable def gR(f:FD):G:=λp R=>match f (hE p) R with
 |some (.ok _,β1)=>on (.nx p,β1)
 |some (.error C,β1)=>on (.ex C p,β1)
 |none=>OO
noncomputable def jw(f:FD):G:=λp R=>match f (hE p) R with
 |some (.ok d,β1)=>on (.rt d,β1)
 |some (.error C,β1)=>on (.ex C p,β1)
 |none=>OO
noncomputable def B_(t:a0q)(g h:G):G:=λp R=>match t (hE p) R with
 |some (.ok OT,β1)=>g p β1
 |some (.ok OW,β1)=>h p β1
 |some (.error C,β1)=>on (.ex C p,β1)
 |none=>OO
variable{a:Qk}{b:a0Q}
theorem bA:PSs X [] (tG X.K X.H₀ gNil E):=rY.imp λD Z H d=>by
 obtain⟨B,T,p,R,o,Y,ok,e,h⟩:=d;cases e;exact h Z B H (hL.refl B H) ok
theorem ac(i:PS X a (tG X.K X.H₀ g E))(j:PSs X b (tG X.K X.H₀ h E)):PSs X (a::b) (tG X.K X.H₀ (aJ g h) E):=(cI i j).imp λD Z H l=>by
 obtain⟨B,T,p,R,o,Y,ok,e,q⟩:=l;unfold aJ at e;split at e
 .rename_i δ1 β1 m
  refine⟨B,T,p,R,.nx δ1,β1,ok,m,λt u W s d=>⟨u,T,δ1,β1,o,Y,d,e,gu.pre s ?_⟩⟩;exact q
 .rename_i r v
  refine⟨B,T,p,R,o,Y,ok,e,?_⟩;cases o with
  |nx δ1=>exact Px e (v δ1 Y)
  |_=>exact q
theorem ah(d:PS X a (tG X.K X.H₀ g E)):PSs X [a] (tG X.K X.H₀ g E):=iR d
theorem aC{x:PX}{f:FD}(h:PS X (.Assign [.Name x pos'] e U) (iq (tV X.K f E) (fj i))):PS X (.Assign [.Name x pos'] e U) (tG X.K X.H₀ (iB i f) E):=h.imp λD Z H m=>by
 obtain⟨B,T,p,R,o,Y,ok,e,q⟩:=m;refine⟨en B T,vw p,R,ok.fr,ok.view,?_⟩;unfold iB at e;split at e
 .rename_i d β1 j
  cases e;refine⟨.ok d,_,j,λv W t a=>?_⟩;obtain⟨g,l⟩:=ok.to rfl t;exact q _ B W l (g.set a)
 .rename_i C β1 j
  cases e;refine⟨.error C,_,j,λW t=>?_⟩;obtain⟨g,l⟩:=ok.to rfl t;exact q _ B W l g
 .cases e
theorem dM{f:FD}(h:PS X (.Expr e U) (yn (tV X.K f E))):PS X (.Expr e U) (tG X.K X.H₀ (gR f) E):=h.imp λD Z H l=>by
 obtain⟨B,T,p,R,o,Y,ok,e,q⟩:=l;refine⟨p_ B T,hE p,R,ok.frA,ok.viewA,?_⟩;unfold gR at e;split at e
 .rename_i d β1 i
  cases e;refine⟨.ok d,_,i,λv W t a=>?_⟩;obtain⟨g,j⟩:=ok.to rfl t;exact q _ B W j g
 .rename_i C β1 i
  cases e;refine⟨.error C,_,i,λW t=>?_⟩;obtain⟨g,j⟩:=ok.to rfl t;exact q _ B W j g
 .cases e
noncomputable def gD(B:Ow):Ow:=λa=>if B a=on 0\/B a=on 1 then B a else OO
theorem LW{B:Ow}{T:a0s}{H:Hp}:Tr (p_ B T) H (en (gD B) T) H:=⟨λa h _ z=>by
 have d:gD B a≠OO:=z;unfold gD at d;split at d
 .rename_i q;exact h q
 .exact d rfl,λ_ _ _ h=>h,rfl⟩
theorem Gr{B:Ow}{H:Hp}:hL B H (gD B) H:=⟨λ_ _ h _=>h,λa h=>by unfold gD;rw[O0 h],λa o h n=>by unfold gD;rw[n];simp,λ_ h=>h⟩
theorem aE{f:FD}(h:PS X (.Return (on e) U) (Fl (tV X.K f E))):PS X (.Return (on e) U) (tG X.K X.H₀ (jw f) E):=h.imp λD Z H r=>by
 obtain⟨B,T,p,R,o,Y,ok,e,q⟩:=r;refine⟨p_ B T,hE p,R,ok.frA,ok.viewA,?_⟩;unfold jw at e;split at e
 .rename_i d β1 j
  cases e;refine⟨.ok d,_,j,λv W t c=>?_⟩;obtain⟨g,m⟩:=ok.to rfl t;refine q _ (gD B) W (m.trans Gr) ⟨λa k=>g.fr.occ a ?_,λb l e=>?_,g.fr.bag⟩ (c4.tr LW _ _ c)
  .have i:gD B a≠OO:=k
   show B a≠OO;unfold gD at i;split at i
   .exact i
   .exact Px rfl i
  .refine⟨?_,?_,(g.fr.bgA b l e).2.2⟩
   .show gD B b≠OO
    unfold gD;rw[O0 (.inr (ok.bgt b l e).1),(ok.bgt b l e).1];simp
   .show gD B l≠OO
    unfold gD;rw[O0 (.inr (ok.bgt b l e).2),(ok.bgt b l e).2];simp
 .rename_i C β1 j
  cases e;refine⟨.error C,_,j,λW t=>?_⟩;obtain⟨g,m⟩:=ok.to rfl t;exact q _ B W m g
 .cases e
theorem bZ{c:Expr}{a b:a0Q}(hc:PT X c (hY X.K t E))(k:PSs X a (tG X.K X.H₀ g E))(l:PSs X b (tG X.K X.H₀ h E)):PS X (.If c a b U) (tG X.K X.H₀ (B_ t g h) E):=(Hz hc k l).imp λD Z H m=>by
 obtain⟨B,T,p,R,o,Y,ok,e,q⟩:=m;refine⟨p_ B T,hE p,R,ok.frA,ok.viewA,?_⟩;unfold B_ at e;split at e
 .rename_i β1 i
  refine⟨.ok OT,_,i,λv W t f=>?_⟩;subst f;obtain⟨d,j⟩:=ok.to rfl t;rw[O0 rfl];exact⟨B,T,p,β1,o,Y,d,e,gu.pre j q⟩
 .rename_i β1 i
  refine⟨.ok OW,_,i,λv W t f=>?_⟩;subst f;obtain⟨d,j⟩:=ok.to rfl t;rw[O1 O8];exact⟨B,T,p,β1,o,Y,d,e,gu.pre j q⟩
 .rename_i C β1 i
  cases e;refine⟨.error C,_,i,λW t=>?_⟩;obtain⟨d,j⟩:=ok.to rfl t;exact q _ B W j d
 .cases e
abbrev U_:=D->Ds->Option Ds
abbrev nG:=a0c->Ds->Option Ds
def oU(K:Pk)(g:TG)(tg:U_):Prop:=∀(f:Hp) (B:Ow) (T:a0s) (H:Hp) (p a:Ds) (R:Bg) (Z:St) (d:D) (v:V) (Q:a0E),fw K f B T H p R Z->c4 K (en B T) H d v->tg d p=on a->(∀h,fw K f B T H a R h->Q h H)->g v Z H Q
def rC(K:Pk)(g:V_)(tg:nG):Prop:=∀(f:Hp) (B:Ow) (T:a0s) (H:Hp) (p a:Ds) (R:Bg) (Z:St) (b:a0c) (c:a0k) (Q:a0E),fw K f B T H p R Z->bb K (en B T) H b c->tg b p=on a->(∀d,fw K f B T H a R d->Q d H)->g c Z H Q
noncomputable def sgN(i:Nat):U_:=λd p=>on (p.set i (on (.sh d)))
noncomputable def KP:nG:=λa p=>match a with
 |[]=>on p
 |_=>OO
noncomputable def KO(t:U_)(u:nG):nG:=λb p=>match b with
 |[]=>OO
 |d::r=>(t d p).bind λa=>u r a
noncomputable def sgT(t:nG):U_:=λd p=>match d with
 | .tup ds=>t ds p
 |_=>OO
theorem ay:oU K (fj i) (sgN i):=λf B T H p a R Z d v Q b c e k=>by
 cases e;exact k _ (b.set c)
theorem cR:rC K L2.gNil KP:=λf B T H p a R Z b x Q c n e k=>by
 cases b with
 |nil=>cases e;exact⟨n,k _ c⟩
 |cons _ _=>cases e
theorem aN(m:oU K t s)(o:rC K u uf):rC K (zn t u) (KO s uf):=λf B T H p a R Z b D Q c n e k=>by
 cases b with
 |nil=>cases e
 |cons d r=>
  obtain⟨x,l,rfl,v,w⟩:=n;have h:(s d p).bind (λa=>uf r a)=on a:=e;cases q:s d p with
  |none=>rw[q]at h;cases h
  |some g=>
   rw[q]at h;exact⟨x,l,rfl,m f B T H p g R Z d x _ c v q λi j=>o f B T H g a R i r l Q j w h k⟩
theorem cq:∀b p a,KP b p=on a->b.length=0:=λb p a h=>by
 cases b with
 |nil=>rfl
 |cons _ _=>cases h
theorem aM{n:Nat}(h:∀b p a,u b p=on a->b.length=n):∀b p a,KO t u b p=on a->b.length=n+1:=λb p a e=>by
 cases b with
 |nil=>cases e
 |cons d r=>
  have g:(t d p).bind (λa=>u r a)=on a:=e;cases q:t d p with
  |none=>rw[q]at g;cases g
  |some i=>rw[q]at g;rw[Pg,h _ _ _ g]
theorem dP{n:Nat}(h:rC K t i)(D:∀c p b,i c p=on b->c.length=n):oU K (GK K n t) (sgT i):=λf B T H p b R Z d v Q E F e k=>by
 cases d<;>first
  |(obtain⟨a,x,rfl,G,g⟩:=c4.sqT F;exact⟨a,x,rfl,G,by rw[<-g.length];exact D _ _ _ e,h f B T H p b R Z _ x Q E g e k⟩)
  |cases e
def zq(f:FD)(tg:U_):G:=λp R=>match f (vw p) R with
 |some (.ok d,β1)=>(tg d p).map λa=>(.nx a,β1)
 |some (.error C,β1)=>on (.ex C p,β1)
 |none=>OO
theorem lx{f:FD}{tg:U_}(l:oU X.K g tg)(h:PS X (.Assign [s] e U) (iq (tV X.K f E) g)):PS X (.Assign [s] e U) (tG X.K X.H₀ (zq f tg) E):=h.imp λD Z H w=>by
 obtain⟨B,T,p,R,o,Y,ok,e,q⟩:=w;refine⟨en B T,vw p,R,ok.fr,ok.view,?_⟩;unfold zq at e;split at e
 .rename_i d β1 j
  cases a:tg d p with
  |none=>rw[a]at e;cases e
  |some b=>
   rw[a]at e;cases e;refine⟨.ok d,_,j,λv W t c=>?_⟩;obtain⟨i,m⟩:=ok.to rfl t;exact l X.H₀ B T W p b _ Z d v _ i c a λr u=>q r B W m u
 .rename_i C β1 j
  cases e;refine⟨.error C,_,j,λW t=>?_⟩;obtain⟨i,m⟩:=ok.to rfl t;exact q _ B W m i
 .cases e
def zk(i j:Nat)(f:FL):G:=λp R=>match f (vw p) R with
 |some (.ok [c,d],β1)=>on (.nx ((p.set i (on (.sh c))).set j (on (.sh d))),β1)
 |some (.error C,β1)=>on (.ex C p,β1)
 |_=>OO
theorem Np{f:FL}(h:PS X a (Kt i j (i4 X.K f E))):PS X a (tG X.K X.H₀ (zk i j f) E):=h.imp λD Z H r=>by
 obtain⟨B,T,p,R,o,Y,ok,e,q⟩:=r;refine⟨en B T,vw p,R,ok.fr,ok.view,?_⟩;unfold zk at e;split at e
 .rename_i c d β1 l
  cases e;refine⟨.ok [c,d],_,l,λk W t b=>?_⟩;obtain⟨g,m⟩:=ok.to rfl t;obtain⟨v,w,rfl,u,y⟩:=bb.two b;exact⟨v,w,rfl,q _ B W m ((g.set u).set y)⟩
 .rename_i C β1 l
  cases e;refine⟨.error C,_,l,λW t=>?_⟩;obtain⟨g,m⟩:=ok.to rfl t;exact q _ B W m g
 .cases e
def zo(i:Nat)(a:a0X)(f:FD):G:=λp R=>match(vw p).getD i OO with
 |none=>OO
 |some c=>match f (vw p) R with
  |some (.ok d,β1)=>(a c d).map λz=>(.nx (p.set i (on (.sh z))),β1)
  |some (.error C,β1)=>on (.ex C p,β1)
  |none=>OO
theorem qx{f:FD}(l:aY X.K s op)(h:PS X a (KA i (tV X.K f E) s)):PS X a (tG X.K X.H₀ (zo i op f) E):=h.imp λD Z H I=>by
 obtain⟨B,T,p,R,o,Y,ok,e,q⟩:=I;unfold zo at e;split at e
 .cases e
 .rename_i c j
  have m:(vw p)[i]?=on (on c):=by
   rw[OU]at j;cases z:(vw p)[i]? with
   |none=>rw[z]at j;cases j
   |some w=>rw[z]at j;simp at j;rw[j]
  obtain⟨v,J,L⟩:=ok.view.tell i c m;refine⟨v,J,en B T,vw p,R,ok.fr,ok.view,?_⟩;split at e
  .rename_i d β1 r
   cases b:op c d with
   |none=>rw[b]at e;cases e
   |some z=>
    rw[b]at e;cases e;refine⟨.ok d,_,r,λw W t k=>?_⟩;obtain⟨g,y⟩:=ok.to rfl t;refine l (en B T) W Y _ c d z v w t.fr (c4.tr (t.tr ok.fr) _ _ L) k b λu N O P=>?_;obtain⟨A,Q⟩:=g.to rfl O;exact q _ B N (y.trans Q) (A.set P)
  .rename_i C β1 r
   cases e;refine⟨.error C,_,r,λW t=>?_⟩;obtain⟨g,y⟩:=ok.to rfl t;exact q _ B W y g
  .cases e
theorem hL.tr{B d:Ow}{H W:Hp}{T:a0s}(s:hL B H d W):Tr (en B T) H (en d T) W:=
 ⟨λa h b z=>by
  have c:B a=OO:=by
   cases q:B a with
   |none=>rfl
   |some t=>exact Px (show B a≠OO by rw[q];simp) h
  cases q:H a with
  |none=>exact b q
  |some o=>exact z (s.nn a o q c),λa o h e=>s.kp a o e (.inl (by
  cases q:B a with
  |none=>rfl
  |some t=>exact Px (show B a≠OO by rw[q];simp) h)),rfl⟩
def b6(t:a0q)(g:G):Nat->G
 |0,_,_=>OO
 |n+1,p,R=>match t (hE p) R with
  |some (.ok OT,β1)=>match g p β1 with
   |some (.nx δ1,β2)=>b6 t g n δ1 β2
   |some (.ct δ1,β2)=>b6 t g n δ1 β2
   |some (.bk δ1,β2)=>on (.nx δ1,β2)
   |r=>r
  |some (.ok OW,β1)=>on (.nx p,β1)
  |some (.error C,β1)=>on (.ex C p,β1)
  |none=>OO
theorem m4:∀{n:Nat} {p:Ds} {R:Bg} {r:si×Bg},b6 t g n p R=on r->b6 t g (n+1) p R=on r
 |0,_,_,_,h=>by cases h
 |n+1,p,R,r,h=>by
  have e:∀m,b6 t g (m+1) p R=match t (hE p) R with
    |some (.ok OT,a)=>match g p a with
     |some (.nx δ1,c)=>b6 t g m δ1 c
     |some (.ct δ1,c)=>b6 t g m δ1 c
     |some (.bk δ1,c)=>on (.nx δ1,c)
     |r=>r
    |some (.ok OW,a)=>on (.nx p,a)
    |some (.error C,a)=>on (.ex C p,a)
    |none=>OO:=λm=>rfl
  rw[e]at h⊢;cases q:t (hE p) R with
  |none=>rw[q]at h;cases h
  |some z=>
   obtain⟨b,a⟩:=z;rw[q]at h;cases b with
   |error C=>exact h
   |ok b=>
    cases b with
    |false=>exact h
    |true=>
     dsimp only at h⊢
     cases f:g p a with
     |none=>rw[f]at h;cases h
     |some y=>
      obtain⟨o,c⟩:=y;rw[f]at h;cases o with
      |nx δ1=>exact m4 h
      |ct δ1=>exact m4 h
      |bk δ1=>exact h
      |rt d=>exact h
      |rg d=>exact h
      |ex C δ1=>exact h
theorem tP{n m:Nat}{p:Ds}{R:Bg}(h:b6 t g n p R=on r)(l:n<=m):b6 t g m p R=on r:=by
 induction m with
 |zero=>
  obtain rfl:n=0:=by lia
  exact h
 |succ m a=>
  by_cases q:n=m+1
  .subst q;exact h
  .exact m4 (a (by lia))
end
open Classical in
def Z6(t:a0q)(g:G):G:=λD E=>if h:∃r n,b6 t g n D E=on r then on h.choose else OO
theorem MA(h:b6 t g n d e=on r):Z6 t g d e=on r:=by
 have a:∃r n,b6 t g n d e=on r:=⟨r,n,h⟩;unfold Z6;rw[dif_pos a];obtain⟨m,D⟩:=a.choose_spec;have c:=tP h (Nat.le_max_left n m);have b:=tP D (Nat.le_max_right n m);rw[c]at b;rw[<-PH b]
theorem JV(h:Z6 t g b c=on r):∃n,b6 t g n b c=on r:=by
 unfold Z6 at h;split at h
 .rename_i a
  obtain⟨m,D⟩:=a.choose_spec;cases h;exact⟨m,D⟩
 .cases h
section
variable{X:Cx}{E:a0r}{e:Expr}{st:Qk}{j:a0Q}{s:Uh}{K:Pk}
theorem xa(T:Y7 (Pt X.prog X.w) X.A X.env X.xe)(hc:PT X c (hY X.K t E))(U:PSs X body (tG X.K X.H₀ g E)):PS X (.While c body [] s) (tG X.K X.H₀ (Z6 t g) E):=(FJ T hc U).imp λD σ H W=>by
 obtain⟨B,V,δ,β,o,l,ok,e,q⟩:=W;obtain⟨n,e⟩:=JV e;refine⟨λm u P=>∃j M S,hL B H j P/\fw X.K X.H₀ j V P M S u/\b6 t g m M S=on (o,l),⟨n,B,δ,β,hL.refl B H,ok,e⟩,?_⟩;rintro m u P ⟨j,M,S,r,h,f⟩;refine⟨p_ j V,hE M,S,h.frA,h.viewA,?_⟩;cases m with
 |zero=>cases f
 |succ m=>
  unfold b6 at f;split at f
  .rename_i β2 y
   refine⟨.ok OT,_,y,λv N tt hd=>?_⟩;subst hd;obtain⟨b,k⟩:=h.to rfl tt;rw[O0 rfl];refine⟨λF Q=>∃O a G,hL B H O Q/\fw X.K X.H₀ O V Q a G F/\b6 t g m a G=on (o,l),λF Q ⟨O,a,G,z⟩=>⟨m,T9 m,O,a,G,z⟩,?_⟩;split at f
   .rename_i a G I
    exact⟨j,V,M,β2,.nx a,G,b,I,λp J R L i=>⟨J,a,G,r.trans (k.trans L),i,f⟩⟩
   .rename_i a G I
    exact⟨j,V,M,β2,.ct a,G,b,I,λp J R L i=>⟨J,a,G,r.trans (k.trans L),i,f⟩⟩
   .rename_i a G I
    cases f;exact⟨j,V,M,β2,.bk a,_,b,I,λp J R L i=>q p J R (r.trans (k.trans L)) i⟩
   .rename_i x Y Z h3
    refine⟨j,V,M,β2,o,l,b,f,?_⟩;have q2:=gu.pre (r.trans k) q;cases o with
    |nx a=>exact Px f (Y _ _)
    |ct a=>exact Px f (Z _ _)
    |bk a=>exact Px f (h3 _ _)
    |rt d=>exact q2
    |rg d=>exact q2
    |ex C a=>exact q2
  .rename_i β2 y
   cases f;refine⟨.ok OW,_,y,λv N tt hd=>?_⟩;subst hd;obtain⟨b,k⟩:=h.to rfl tt;rw[O1 O8];exact q _ j N (r.trans k) b
  .rename_i C β2 y
   cases f;refine⟨.error C,_,y,λN tt=>?_⟩;obtain⟨b,k⟩:=h.to rfl tt;exact q _ j N (r.trans k) b
  .cases f
noncomputable def o_(e:U_)(g:G):a0c->G
 |[],δ,β=>on (.nx δ,β)
 |d::ds,δ,β=>match e d δ with
  |none=>OO
  |some j=>match g j β with
   |some (.nx δ2,β2)=>o_ e g ds δ2 β2
   |some (.ct δ2,β2)=>o_ e g ds δ2 β2
   |some (.bk δ2,β2)=>on (.nx δ2,β2)
   |r=>r
def q9(j:Ds->M a0c)(s:U_)(g:G):G:=λe D=>match j e D with
 |some (.ok ds,β1)=>o_ s g ds e β1
 |some (.error C,β1)=>on (.ex C e,β1)
 |none=>OO
abbrev gFor(e:FL):U_->G->G:=q9 λj=>e (vw j)
theorem KU(hw:∀{B z H δ β Q R},fw X.K X.H₀ B z H δ β Q->run (λY (M:a0c) (J:It)=>y4 X.K J (en B z) Y M) (en B z) E Q (it δ) H R β->wi Q H R)(l:oU X.K tgg tg)(h:PS X (.For tgt iter body [] s) (Fn wi tgg (tG X.K X.H₀ g E))):PS X (.For tgt iter body [] s) (tG X.K X.H₀ (q9 it tg g) E):=h.imp λD Q H h_=>by
 obtain⟨B,z,δ,β,o,y,ok,e,q⟩:=h_;refine hw ok ?_;unfold q9 at e;split at e
 .rename_i M β1 Z
  refine⟨.ok M,_,Z,λJ S t hJ=>?_⟩;obtain⟨V,s1⟩:=ok.to rfl t;refine⟨λi m n F=>m+i=M.length/\∃k p G,hL B S k F/\fw X.K X.H₀ k z F p G n/\o_ tg g (M.drop i) p G=on (o,y),⟨M.length,by lia,B,δ,β1,hL.refl B S,V,e⟩,?_⟩;rintro i m n F ⟨hm,k,p,G,I,c,b⟩;obtain⟨iy,is⟩:=hJ (en k z) F G I.tr c.fr i;cases T:M[i]? with
  |none=>
   have U:M.length<=i:=UI.mp T;rw[Rl U]at b;cases b;exact .inl ⟨is (by lia),q n k F (s1.trans I) c⟩
  |some d=>
   have U:i<M.length:=(Pa.mp T).1;obtain⟨go,yl⟩:=iy d T;have ed:M.drop i=d::M.drop (i+1):=by
    rw[QC U];congr 1;exact PH ((OV U).symm.trans T)
   rw[ed]at b;unfold o_ at b;split at b
   .cases b
   .rename_i f e3
    refine .inr ⟨go,λL H9=>∃W r u,hL B S W H9/\fw X.K X.H₀ W z H9 r u L/\o_ tg g (M.drop (i+1)) r u=on (o,y),λL H9 ⟨W,r,u,z1,z2,z3⟩=>⟨m-1,by lia,by lia,W,r,u,z1,z2,z3⟩,λx H3 hy=>?_⟩;obtain⟨sm,dx⟩:=yl x H3 hy;obtain⟨aa,s3⟩:=c.to rfl (c.fr.same sm);refine l X.H₀ k z H3 p f G n d x _ aa dx e3 λab v=>?_;have w:=I.trans s3;split at b
    .rename_i a β5 N
     exact⟨k,z,f,G,.nx a,β5,v,N,λA O H6 P j=>⟨O,a,β5,w.trans P,j,b⟩⟩
    .rename_i a β5 N
     exact⟨k,z,f,G,.ct a,β5,v,N,λA O H6 P j=>⟨O,a,β5,w.trans P,j,b⟩⟩
    .rename_i a β5 N
     cases b;exact⟨k,z,f,G,.bk a,_,v,N,λA O H6 P j=>q A O H6 (s1.trans (w.trans P)) j⟩
    .rename_i x h1 h2 h3
     refine⟨k,z,f,G,o,y,v,b,?_⟩;have q2:=gu.pre (s1.trans w) q;cases o with
     |nx a=>exact Px b (h1 _ _)
     |ct a=>exact Px b (h2 _ _)
     |bk a=>exact Px b (h3 _ _)
     |rt d=>exact q2
     |rg d=>exact q2
     |ex C a=>exact q2
 .rename_i C β1 Z
  cases e;refine⟨.error C,_,Z,λY t=>?_⟩;obtain⟨c,I⟩:=ok.to rfl t;exact q _ B Y I c
 .cases e
theorem bE(l:oU X.K b d)(h:PS X (.For c a body [] s) (Fn (iV X.K f E) b (tG X.K X.H₀ g E))):PS X (.For c a body [] s) (tG X.K X.H₀ (gFor f d g) E):=KU (λe r=>⟨_,_,_,e.fr,e.view,r⟩) l h
theorem fw.claim{E:Ds}{u:St}(S:OS->Prop)(D:fw K H₀ B x H E P u)(t:To (en B x) H H' N)(f:∀c,S c->H c=OO/\D2 H' c)(V:∀{p:Ow},(∀c,S c->p c=on (i+2))->(∀c,p c≠OO->B c≠OO\/S c)->Tr (en B x) H (en p x) H'->nP K p x H' i O v):
  ∃A,fw K H₀ A x H' (E.set i (on O)) N (u.set i (on v))/\hL B H A H':=by
 classical
 obtain⟨a,C⟩:=D.to rfl t;have hB:∀c,S c->B c=OO:=λc hc=>RZ λz=>D.fr.occ c z (f c hc).1;have g:∀c n,B c=on n->¬S c:=λc n e z=>by rw[hB c z]at e;cases e
 have m:hL B H (λc=>if S c then on (i+2)else B c) H':=⟨C.kp,λc hc=>O1 (hc.elim (g c 0) (g c 1)),λc o h n=>(O1 λz=>by rw[(f c z).1]at h;cases h).trans n,C.al⟩;have G:Tr (en B x) H (en (λc=>if S c then on (i+2)else B c) x) H':=m.tr;have r:∀b l,x=on (b,l)->(if S b then on (i+2)else B b)=on 1/\(if S l then on (i+2)else B l)=on 1:=λb l e=>by
  obtain⟨M,F⟩:=D.bgt b l e;exact⟨(O1 (g b 1 M)).trans M,(O1 (g l 1 F)).trans F⟩
 refine⟨λc=>if S c then on (i+2)else B c,⟨⟨λc hc z=>?_,λb l e=>⟨λz=>(by cases z.symm.trans (r b l e).1),λz=>(by cases z.symm.trans (r b l e).2),(D.fr.bgA b l e).2.2⟩,a.fr.bag⟩,r,by rw[QG,QG,D.len],a.cov,λc k hc=>?_,λc k hc=>?_,λj s e=>?_⟩,m⟩
 .by_cases q:S c
  .rcases(f c q).2 with⟨_,w⟩|⟨_,w⟩<;>(rw[w]at z;cases z)
  .exact a.fr.occ c (λy=>hc ((O1 q).trans y)) z
 .by_cases z:S c
  .cases w:H₀ c with
   |none=>rfl
   |some o=>exact Px (f c z).1 (D.cov c (by rw[w];simp))
  .exact D.new c k ((O1 z).symm.trans hc)
 .by_cases z:S c
  .exact(f c z).2
  .exact a.lst c k ((O1 z).symm.trans hc)
 .rw[QY]at e⊢
  by_cases q:i=j
  .subst q
   rw[O0 rfl]at e⊢;split at e
   .rename_i I
    cases e;rw[O0 (by rw[<-D.len];exact I)];exact⟨_,rfl,V (λc z=>O0 z) (λc z=>RZ λy=>z ((O1 λw=>y (.inr w)).trans (RZ λw=>y (.inl w)))) G⟩
   .cases e
  .rw[O1 q]at e⊢
   obtain⟨w,J,L⟩:=D.tell j s e;exact⟨w,J,L.tr G λc d=>⟨(O1 (g c _ d)).trans d,λo h=>t.kp c o h λb l z=>⟨λy=>(by subst y;rw[(D.bgt _ _ z).1]at d;cases d),λy=>(by subst y;rw[(D.bgt _ _ z).2]at d;cases d)⟩⟩⟩
theorem fw.newAt{e:Ds}{b:St}(j:fw K H₀ B h H e k b)(d:H p=OO)(g:D2 (upd H p u) p)(s:∀{a:Ow},a p=on (i+2)->Tr (en B h) H (en a h) (upd H p u)->nP K a h (upd H p u) i sl (.ref p)):
  ∃f,fw K H₀ f h (upd H p u) (e.set i (on sl)) k (b.set i (on (.ref p)))/\hL B H f (upd H p u):=j.claim (·=p) (j.fr.upd u d) (λc z=>by cases z;exact⟨d,g⟩) λD _ E=>s (D p rfl) E
theorem fw.writeAt{E:Ds}(D:fw K H₀ B t H E x w)(M:w[i]?=on (on (.ref a)))(hB:B a=on (i+2))(m:D2 (upd H a u) a)(S:Tr (en B t) H (en B t) (upd H a u)->nP K B t (upd H a u) i sl (.ref a)):
  fw K H₀ B t (upd H a u) (E.set i (on sl)) x w/\hL B H B (upd H a u):=by
 have f:hL B H B (upd H a u):=by
  refine⟨λc o h n=>?_,λ_ _=>rfl,λ_ _ _ n=>n,λc hc=>?_⟩
  .rw[bt]
   .exact h
   .intro z;subst z;rw[hB]at n;rcases n with n|n<;>cases n
  .by_cases z:c=a
   .subst z;rw[am];simp
   .rw[bt z];exact hc
 have G:Tr (en B t) H (en B t) (upd H a u):=f.tr;refine⟨⟨⟨λc hc z=>?_,D.fr.bgA,λb l e=>?_⟩,D.bgt,by rw[QG,D.len],λa V=>f.al a (D.cov a V),D.new,λc k hc=>(by
  by_cases z:c=a
  .subst z;exact m
  .exact(D.lst c k hc).imp λo y=>by rw[bt z];exact y),λj s e=>?_⟩,f⟩
 .by_cases q:c=a
  .subst q;rw[am]at z;cases z
  .rw[bt q]at z;exact D.fr.occ c hc z
 .obtain⟨b1,g⟩:=D.bgt b l e
  rw[bt (λz=>by subst z;rw[hB]at b1;cases b1),bt (λz=>by subst z;rw[hB]at g;cases g)];exact D.fr.bag b l e
 .rw[QY]at e
  by_cases q:i=j
  .subst q
   rw[O0 rfl]at e;split at e
   .cases e
    exact⟨_,M,S G⟩
   .cases e
  .rw[O1 q]at e
   obtain⟨v,p,r⟩:=D.tell j s e;exact⟨v,p,r.tr G λc d=>⟨d,λo z=>(bt λy=>by subst y;rw[hB]at d;cases d;exact q rfl).trans z⟩⟩
theorem fw.newOwn{j:Ds}{a:St}(s:fw K H₀ B f H j g a)(c:H p=OO)(D:bb K (en B f) H h d):
  ∃b,fw K H₀ b f (upd H p (.lst d)) (j.set i (on (.own h))) g (a.set i (on (.ref p)))/\hL B H b (upd H p (.lst d)):=s.newAt c (.inl ⟨d,am⟩) λe t=>⟨p,d,rfl,e,am,bb.tr t _ _ D⟩
theorem fw.writeOwn{e:Ds}(j:fw K H₀ B b H e d c)(s:c[i]?=on (on (.ref a)))(hB:B a=on (i+2))(E:H a=on (.lst f))(D:bb K (en B b) H ds xs):
  fw K H₀ B b (upd H a (.lst xs)) (e.set i (on (.own ds))) d c/\hL B H B (upd H a (.lst xs)):=j.writeAt s hB (.inl ⟨xs,am⟩) λt=>⟨a,xs,rfl,hB,am,bb.tr t _ _ D⟩
def zm(i:Nat)(f:FL):G:=λe j=>match f (vw e) j with
 |some (.ok ds,β1)=>if ds.length<=Pf then on (.nx (e.set i (on (.own ds))),β1)else OO
 |some (.error C,β1)=>on (.ex C e,β1)
 |none=>OO
theorem ut(h:PS X st (iq (Kw (i4 X.K f E)) (fj i))):PS X st (tG X.K X.H₀ (zm i f) E):=h.imp λD r H j=>by
 obtain⟨B,G,M,S,o,k,ok,e,q⟩:=j;refine⟨en B G,vw M,S,ok.fr,ok.view,?_⟩;unfold zm at e;split at e
 .rename_i ds β1 b
  split at e
  .rename_i l
   cases e;refine⟨.ok ds,_,b,λV g t s=>⟨by rw[<-s.length];exact l,λp m=>?_⟩⟩;obtain⟨a,c⟩:=ok.to rfl t;obtain⟨u,d,n⟩:=a.newOwn (i:=i) m s;exact q _ _ _ (c.trans n) d
  .cases e
 .rename_i C β1 b
  cases e;refine⟨.error C,_,b,λg t=>?_⟩;obtain⟨a,c⟩:=ok.to rfl t;exact q _ B g c a
 .cases e
def zr(i:Nat)(f:FL):G:=λe j=>match e.getD i OO with
 |some (.own cs)=>match f (vw e) j with
  |some (.ok [d],β1)=>if cs.length<Pf then on (.nx (e.set i (on (.own (cs++[d])))),β1)else OO
  |some (.error C,β1)=>on (.ex C e,β1)
  |_=>OO
 |_=>OO
theorem getD_some{j:Type}{e:List (Option j)}{i:Nat}{s:j}(h:e.getD i OO=on s):e[i]?=on (on s):=by
 rw[OU]at h;cases z:e[i]? with
 |none=>rw[z]at h;cases h
 |some w=>rw[z]at h;simp at h;rw[h]
theorem uu(h:PS X st (yn (tBM X.K "list" xm (pk i) (i4 X.K f E)))):PS X st (tG X.K X.H₀ (zr i f) E):=h.imp λD P H y=>by
 obtain⟨B,s,G,M,o,A,ok,e,q⟩:=y;unfold zr at e;split at e
 .rename_i cs u
  obtain⟨v,l,a,S,rfl,F,I,Q⟩:=ok.tell i _ (getD_some u);refine⟨_,l,.inl ⟨rfl,S,fx.of I⟩,en B s,vw G,M,ok.fr,ok.view,?_⟩;split at e
  .rename_i d β1 m
   split at e
   .rename_i J
    cases e;refine⟨.ok [d],_,m,λx w t V=>?_⟩;obtain⟨b,n⟩:=ok.to rfl t;obtain⟨v,rfl,L⟩:=bb.one V;obtain⟨R,c,T,g,p,N,j,k⟩:=b.tell i _ (getD_some u);rw[l]at c;cases c;cases p;refine⟨a,g,v,rfl,rfl,j,by rw[<-k.length];exact J,?_⟩;obtain⟨r,O⟩:=b.writeOwn (ds:=cs++[d]) (xs:=g++[v]) l F j (bb.append k (bb.cons L bb.nil));exact q _ _ _ (n.trans O) r
   .cases e
  .rename_i C β1 m
   cases e;refine⟨.error C,_,m,λw t=>?_⟩;obtain⟨b,n⟩:=ok.to rfl t;exact q _ B w n b
  .cases e
 .cases e
noncomputable def fz(i:Nat)(e:Ds):Ds:=match e.getD i OO with
 |some (.own ds)=>e.set i (on (.sh (.lst ds)))
 |some (.grd ba)=>e.set i (on (.sh (.lst (ba.map D.lst))))
 |some (.odc b ks vs)=>e.set i (on (.sh (.dct b ks vs)))
 |_=>e
theorem fw.letGo{E:Ds}(S:OS->Prop)(D:fw K H₀ B x H E I F)(p:∀c,S c->B c=on (i+2))(y:F[i]?=on (on v))(X:∀{f:Ow},(∀c,S c->f c=OO)->(∀c,¬S c->f c=B c)->Tr (en B x) H (en f x) H->nP K f x H i J v):∃r,fw K H₀ r x H (E.set i (on J)) I F/\hL B H r H:=by
 classical
 have G:∀c n,(if S c then OO else B c)=on n->B c=on n:=λc n e=>by
  by_cases z:S c
  .rw[O0 z]at e;cases e
  .exact(O1 z).symm.trans e
 have t:∀c,B c=OO->(if S c then OO else B c)=OO:=λc e=>by rw[e];exact ite_self _
 have g:∀c,B c=on 0\/B c=on 1->¬S c:=λc h z=>by rw[p c z]at h;rcases h with h|h<;>cases h
 have a:hL B H (λc=>if S c then OO else B c) H:=⟨λ_ _ h _=>h,λc hc=>O1 (g c hc),λc o h n=>t c n,λ_ h=>h⟩;have M:Tr (en B x) H (en (λc=>if S c then OO else B c) x) H:=a.tr;have m:∀b l,x=on (b,l)->(if S b then OO else B b)=on 1/\(if S l then OO else B l)=on 1:=λb l e=>by
  obtain⟨V,u⟩:=D.bgt b l e;exact⟨(O1 (g b (.inr V))).trans V,(O1 (g l (.inr u))).trans u⟩
 refine⟨λc=>if S c then OO else B c,⟨⟨λc hc=>D.fr.occ c λz=>hc (t c z),λb l e=>⟨λz=>(by cases z.symm.trans (m b l e).1),λz=>(by cases z.symm.trans (m b l e).2),(D.fr.bgA b l e).2.2⟩,D.fr.bag⟩,m,by rw[QG,D.len],D.cov,λc k hc=>D.new c k (G c _ hc),λc k hc=>D.lst c k (G c _ hc),λj s e=>?_⟩,a⟩;rw[QY]at e;by_cases q:i=j
 .subst q
  rw[O0 rfl]at e;split at e
  .cases e
   exact⟨v,y,X (λc z=>O0 z) (λc z=>O1 z) M⟩
  .cases e
 .rw[O1 q]at e
  obtain⟨w,A,C⟩:=D.tell j s e;exact⟨w,A,C.tr M λc d=>⟨(O1 λz=>by rw[p c z]at d;cases d;exact q rfl).trans d,λ_ z=>z⟩⟩
theorem fw.freeze(i:Nat)(e:fw K H₀ B w H y A C):∃m,fw K H₀ m w H (fz i y) A C/\hL B H m H:=by
 unfold fz;split
 .rename_i ds b
  obtain⟨v,d,a,E,f,g,h,j⟩:=e.tell i _ (getD_some b);exact e.letGo (·=a) (λc z=>z▸g) d λs _ D=>⟨a,E,f,⟨λz=>z (s a rfl),.inl h⟩,bb.tr D _ _ j⟩
 .rename_i ba b
  obtain⟨v,d,a,G,f,g,h,S,n⟩:=e.tell i _ (getD_some b);exact e.letGo (λc=>c=a\/c∈G) (λc z=>z.elim (·▸g) λz=>(n.all c z).1) d λs _ D=>⟨a,_,f,⟨λz=>z (s a (.inl rfl)),.inl h⟩,bj.den D n λr o _ z=>z (s r (.inr o))⟩
 .rename_i p k l b
  obtain⟨v,d,a,f,g,M,E,h,j,q,t⟩:=e.tell i _ (getD_some b);exact e.letGo (·=a) (λc z=>z▸g) d λs _ D=>by
   show c4 _ _ _ (.dct p k l) _;unfold c4;exact⟨a,M,E,f,⟨λz=>z (s a rfl),h⟩,j,λx u=>(q x u).tr D,bb.tr D _ _ t⟩
 .exact⟨B,e,hL.refl B H⟩
noncomputable def fzG(i:Nat)(g:G):G:=λe j=>g (fz i e) j
theorem KS(i:Nat)(h:PSs X j (tG X.K X.H₀ g E)):PSs X j (tG X.K X.H₀ (fzG i g) E):=h.imp λD f H c=>by
 obtain⟨B,G,M,S,o,a,ok,e,q⟩:=c;obtain⟨d,b,s⟩:=ok.freeze i;exact⟨d,G,fz i M,S,o,a,b,e,gu.pre s q⟩
noncomputable def o1(n:Nat)(ds:a0c):Ds:=ds.map (λd=>on (Sl.sh d))++Pn (n-ds.length) OO
def fq(n:Nat)(g:G):a0c->M D:=λe j=>match g (o1 n e) j with
 |some (.rt d,β')=>on (.ok d,β')
 |some (.nx _,β')=>on (.ok .non,β')
 |some (.ex C _,β')=>on (.error C,β')
 |_=>OO
theorem u5{F:Fx}{N:a0i}(fr:Fr F H w)(E:bb K F H u x):∃B,fw K H B F.bg H (o1 N.length u) w (fL N x)/\(∀a,F.A a->B a=on 0\/B a=on 1)/\(∀a,B a=on 1->∃b l,F.bg=on (b,l)/\(a=b\/a=l))/\(∀a,B a≠OO->F.A a):=by
 classical
 refine⟨λa=>if F.A a then(if ∃b l,F.bg=on (b,l)/\(a=b\/a=l)then on 1 else on 0)else OO,⟨⟨λa D=>fr.occ a ?_,λb l e=>?_,fr.bag⟩,λb l e=>?_,?_,λ_ h=>h,λc k hc=>(by
  have f:(if F.A c then(if ∃b l,F.bg=on (b,l)/\(c=b\/c=l)then on 1 else on 0)else OO)=on (k+2):=hc;split at f
  .split at f<;>cases f
  .cases f),λc k hc=>(by
  have f:(if F.A c then(if ∃b l,F.bg=on (b,l)/\(c=b\/c=l)then on 1 else on 0)else OO)=on (k+2):=hc;split at f
  .split at f<;>cases f
  .cases f),λi s e=>?_⟩,λa D=>?_,λa D=>?_,λa D=>?_⟩
 .have g:(if F.A a then(if ∃b l,F.bg=on (b,l)/\(a=b\/a=l)then on 1 else on 0)else OO)≠(OO:a0G):=D
  split at g
  .assumption
  .exact Px rfl g
 .obtain⟨a1,a2,a3⟩:=fr.bgA b l e
  refine⟨?_,?_,a3⟩
  .show(if F.A b then(if ∃j l,F.bg=on (j,l)/\(b=j\/b=l)then on 1 else on 0)else OO)≠(OO:a0G)
   rw[O0 a1];split<;>simp
  .show(if F.A l then(if ∃j o,F.bg=on (j,o)/\(l=j\/l=o)then on 1 else on 0)else OO)≠(OO:a0G)
   rw[O0 a2];split<;>simp
 .obtain⟨a1,a2,a3⟩:=fr.bgA b l e
  exact⟨by rw[O0 a1,O0 ⟨b,l,e,.inl rfl⟩],by rw[O0 a2,O0 ⟨b,l,e,.inr rfl⟩]⟩
 .unfold o1 fL
  rw[Pl,Pl,ON,ON,Q8,Q8,E.length]
 .unfold o1 at e
  unfold fL;rw[VA,ON]at e;rw[VA,ON,<-E.length];by_cases m:i<u.length
  .rw[O0 m,OY]at e
   rw[O0 m,OY];cases z:u[i]? with
   |none=>rw[z]at e;cases e
   |some d=>
    rw[z]at e;cases e;obtain⟨v,q,r⟩:=E.get z;refine⟨v,by rw[q];rfl,?_⟩;have n:Tr F H (en (λa=>if F.A a then(if ∃b l,F.bg=on (b,l)/\(a=b\/a=l)then on 1 else on 0)else OO) F.bg) H:=by
     refine⟨λa D _ t=>?_,λ_ _ _ h=>h,rfl⟩;have p:(if F.A a then(if ∃b l,F.bg=on (b,l)/\(a=b\/a=l)then on 1 else on 0)else OO)≠(OO:a0G):=t;rw[O1 D]at p;exact p rfl
    exact c4.tr n _ _ r
  .rw[O1 m,RJ]at e
   split at e<;>cases e
 .simp only[O0 D]
  split
  .exact .inr rfl
  .exact .inl rfl
 .simp only at D
  split at D
  .split at D
   .assumption
   .cases D
  .cases D
 .simp only at D
  split at D
  .assumption
  .exact Px rfl D
variable{P:PN}{w:PV}{mg:a0j}{X:Qg}
theorem JX{st:Qk}{N M:a0i}(F:hV K x qual st f fd)(S:b5 N M (ae st))
  (y:∀(j:OX) (A:Qn) (D:a0B) (s:O3) (H:Hp) (E:XK),ej k (A.deeper (TV qual (ae st) s.heap.objs.size f j))->
   PSs (c9 (gs P w) P w K mg X N qual (ae st) f j A D s H E) (cz st) (tG K H g (λ_=>E))):et P w K mg X (gs P w) (k+1) f fd M (Im K M.length (fq N.length g)):=by
 refine F.okE S (λvs H Q E h=>h.1) λj A D s H vs Q E Y h=>?_;obtain⟨hl,p,V,β,fr,hd,r,i,e,h⟩:=h;refine⟨_,y j A D s H E Y,?_⟩;obtain⟨B,ok,T,Z,hn⟩:=u5 (N:=N) fr hd;have I:∀{u:Ow} {c:Hp},hL B H u c->Fr (en u p.bg) c i->To p H c i/\Tr (en u p.bg) c p c:=λ{u c} s m=>by
  have hs:∀a,p.A a->u a≠OO:=λa G=>by
   rw[s.tg a (T a G)];rcases T a G with z|z<;>rw[z]<;>simp
  refine⟨⟨λa o G n=>s.kp a o G ?_,λa G=>m.occ a (hs a G),λb l e=>fr.bgA b l e,m.bag⟩,λa G _ z=>G (hs a z),λ_ _ _ h=>h,rfl⟩;cases q:B a with
  |none=>exact .inl rfl
  |some t=>
   have:=T a (hn a (by rw[q];simp));rcases this with z|z
   .rw[q]at z;exact .inr z
   .obtain⟨b,l,e,w⟩:=Z a z
    obtain⟨n1,n2⟩:=n b l e;rcases w with w|w
    .exact Px w n1
    .exact Px w n2
 unfold fq at e;split at e
 .rename_i d β1 O
  cases e;refine⟨B,p.bg,o1 N.length V,β,.rt d,i,ok,O,λv u c s m hv=>?_⟩;obtain⟨R,U⟩:=I s m;exact h v c R (c4.tr U _ _ hv)
 .rename_i J β1 O
  cases e;refine⟨B,p.bg,o1 N.length V,β,.nx J,i,ok,O,λW u c s L=>?_⟩;obtain⟨R,U⟩:=I s L.fr;exact h _ c R rfl
 .rename_i C J β1 O
  cases e;refine⟨B,p.bg,o1 N.length V,β,.ex C J,i,ok,O,λW u c s L=>?_⟩;obtain⟨R,U⟩:=I s L.fr;exact h c R
 .cases e
variable{u:PN}{A:Qn}
theorem OF(j:A.handled=OO)(G t:OS)(P:t≠G)(D:a0H):Xl u w A G [G,t] D.size (λi v=>D[i]?=on v) (λi h=>h.IsTupleIter G t i/\h.IsTuple t D) where
 live:=λ_ _ st=>let ⟨o,e,_⟩:=st.1;⟨o,e⟩
 frame:=λ_ _ _ st k=>⟨st.1.at λo e=>k G (by simp) o e,by
  obtain⟨o,e,r⟩:=st.2;exact⟨o,k t (by simp) o e,r⟩⟩
 item:=λi s Q E n st p=>by
  obtain⟨o,c,K,b⟩:=id st.1;obtain⟨l,d,_,M,f⟩:=st.2;have g:D[i]?=on D[i]:=by simp[n]
  unfold Re;refine My (wpAny_callSpecial?_slot (name:=Q4 "__next__") st.1.typeIs SZ (Qf SZ st.1.typeIs Xm ?_ (Xb _)));show Pc _ _ (Zi (.ref G) 0>>=_) _ _ _;refine My (QE c b (x:= .ref t) rfl ?_);show Pc _ _ (if(Pi t==P8)=OT then _ else _) _ _ _;rw[O1 (show ¬((Pi t==P8)=OT)from O8)];show Pc _ _ (Zi (.ref G) 1>>=_) _ _ _;refine My (QE c b (x:= .int i 0) rfl ?_);show Pc _ _ (seqItems? (.ref t)>>=_) _ _ _;refine My (Rf d f ?_);simp only[QN,g];refine My (Sa c b (by simp) (OP ⟨D[i],rfl,OP (p _ _ s.toks g ⟨?_,?_⟩ (QO ..))⟩))
  .exact⟨_,QX _ c (SL (QH b _)),(Wm ..).trans K,by rw[QH b];simp[SU]⟩
  .exact⟨l,(QO ..).extBut _ _ P d,by assumption,M,f⟩
 done:=λs Q E st q=>by
  obtain⟨o,c,K,b⟩:=id st.1;obtain⟨l,d,_,M,f⟩:=st.2;have g:D[D.size]?=OO:=by simp
  unfold Re;refine My (wpAny_callSpecial?_slot (name:=Q4 "__next__") st.1.typeIs SZ (Qf SZ st.1.typeIs Xm ?_ (Xb _)));show Pc _ _ (Zi (.ref G) 0>>=_) _ _ _;refine My (QE c b (x:= .ref t) rfl ?_);show Pc _ _ (if(Pi t==P8)=OT then _ else _) _ _ _;rw[O1 (show ¬((Pi t==P8)=OT)from O8)];show Pc _ _ (Zi (.ref G) 1>>=_) _ _ _;refine My (QE c b (x:= .int D.size 0) rfl ?_);show Pc _ _ (seqItems? (.ref t)>>=_) _ _ _;refine My (Rf d f ?_);simp only[QN,g];refine My (SN (My (Sa c b (by simp) ?_)));show Pc _ _ (ZB (.type "StopIteration") []>>=_) _ _ _;refine My ?_;simp only[ZB,newTuple];refine My (Qy ?_ (by size_fits));refine My (m:=Ub _ _) (S9 (a:=P8) (by first|rfl|(simp only[Ub];rfl)) ?_);refine Qy ?_ (by size_fits)
  simp only[raiseNew];refine My (YZ ?_)
  first|rw[show A.in1.handled=OO from j]|rw[j];skip
  refine My (OP (wpAny_throw ?_));exact q _ _ (((QO ..).extBut.push _).push _) ⟨_,Ph _ rfl,rfl⟩
structure Ap (z TI TO i1 i2:OS) (f1 f2:a0p):Prop where
 a1:TI≠z
 a2:TO≠z
 a3:i1≠z
 a4:i2≠z
 a5:TI≠TO
 a6:TI≠i1
 a7:TI≠i2
 a8:TO≠i1
 a9:TO≠i2
 b1:i1≠i2
 c1:z∉f1
 c2:TO∉f1
 c3:i2∉f1
 d1:z∉f2
 d2:TO∉f2
 d3:i1∉f2
 m1:i1∈f1
 m2:i2∈f2
end
section
variable{prog:PN}{w:PV}{A:Qn}{E:a0d}{s:O3}
theorem cu{s:OS}{f:a0p}{h w:Qg}(a:PQ s h w)(n:s∉f):∀b∈f,∀o,h.get? b=on o->w.get? b=on o:=λb c o e=>a.extBut b o (λq=>n (q▸c)) e
theorem zR{z TI TO r t:OS}{f1 f2:a0p}{u B k:Nat}{P1 P2:Nat->OX->Prop}{W X:Nat->Qg->Prop}{a b:OX}{Q:a0d}(L:Xl prog w A r f1 u P1 W)(N:Xl prog w A t f2 B P2 X)(d:Ap z TI TO r t f1 f2)
  (P:Vh s.heap z TI TO .none) (eI:SD s.heap TI (.ref r) (.ref t)) (eO:SD s.heap TO a b) (s1:W k s.heap) (s2:X k s.heap) (k1:k<u) (k2:k<B)
  (hQ:∀D tk x y,P1 k x->P2 k y->Vh D z TI TO (SU s.heap.objs.size)->SD D TO x y->W (k+1) D->X (k+1) D->SD D s.heap.objs.size x y->D.objs.size=s.heap.objs.size+1->(∀c o,c≠z->c≠TO->c≠r->c≠t->s.heap.get? c=on o->D.get? c=on o)->Q (.ref s.heap.objs.size) {s with heap:=D,toks:=tk}):
  Pc (Pt prog w) A (Builtin.«zip.__next__» ⟨[.ref z],[]⟩) (λZ s'=>∃v,Z= .done (.ret v)/\Q v s') E s:=by
 obtain⟨G,gg,dd,af,os⟩:=s;show Pc _ _ (Zi (.ref z) 2>>=_) _ _ _;refine My (QE P rfl (x:= .bool OW) rfl ?_);show Pc _ _ (Zi (.ref z) 3>>=_) _ _ _;refine My (QE P rfl (x:= .ref TI) rfl ?_);refine My (Rf eI rfl ?_);show Pc _ _ (Rw (.ref z)>>=_) _ _ _;refine My ?_;unfold Rw;refine My (QE P rfl (x:= .none) rfl (OP ?_));simp only[Qm];refine My (SN ?_);refine My (QE P rfl (x:= .ref TO) rfl ?_);refine My (QT P (by simp) λK C g=>?_)
 replace C:Vh K z TI TO .ellipsis:=C
 replace g:PQ z G K:=g
 refine My ?_;simp only[List.zipIdx_cons,List.zipIdx_nil,R7,Sm];refine My (My (Vt ?_));show Pc _ _ (Re (.ref r)>>=_) _ _ _;refine My (L.item k _ _ _ k1 (L.frame _ _ _ s1 (cu g d.c1)) λx M ag px S h=>OP ?_)
 replace h:PQ r K M:=h
 have R:SD M TO a b:=h.extBut _ _ d.a8 (g.extBut _ _ d.a2 eO);refine My (Rf R rfl ?_);refine My (V7 R λV F i=>?_)
 replace F:SD V TO x b:=F
 replace i:PQ TO M V:=i
 refine My (V5 (OP ?_));refine My (My (Vt ?_));show Pc _ _ (Re (.ref t)>>=_) _ _ _;refine My (N.item k _ _ _ k2 (N.frame _ _ _ (N.frame _ _ _ (N.frame _ _ _ s2 (cu g d.d1)) (cu h d.d3)) (cu i d.d2)) λy g4 ah py aa j=>OP ?_)
 replace j:PQ t V g4:=j
 have T:SD g4 TO x b:=j.extBut _ _ d.a9 F;refine My (Rf T rfl ?_);refine My (V7 T λf m l=>?_)
 replace m:SD f TO x y:=m
 replace l:PQ TO g4 f:=l
 refine My (V5 (OP (OP ?_)));refine My (Rf m rfl ?_);refine My (V6 ?_);have zs:f.objs.size=G.objs.size:=by rw[l.1,j.1,i.1,h.1,g.1]
 have U:Vh f z TI TO .ellipsis:=l.extBut _ _ d.a2.symm (j.extBut _ _ d.a4.symm (i.extBut _ _ d.a2.symm (h.extBut _ _ d.a3.symm C)));have ab:∀c o,c≠z->c≠TO->c≠r->c≠t->G.get? c=on o->f.get? c=on o:=λc o u B n3 n4 e=>l.extBut _ _ B (j.extBut _ _ n4 (i.extBut _ _ B (h.extBut _ _ n3 (g.extBut _ _ u e))));have ac:W (k+1) f:=L.frame _ _ _ (L.frame _ _ _ (L.frame _ _ _ S (cu i d.c2)) (cu j d.c3)) (cu l d.c2);have ad:X (k+1) f:=N.frame _ _ _ aa (cu l d.d2);have zl:z<f.objs.size:=Ps U;show Pc _ _ (Uw (.ref z) (.ref f.objs.size)>>=_) _ _ _;refine My ?_;unfold Uw;have ae:Vh (f.push {cls:= .type "tuple",data:= .seq #[x,y]}) z TI TO .ellipsis:=OQ _ U;refine My (QT ae (by simp) λg7 H I=>?_)
 replace H:Vh g7 z TI TO (SU f.objs.size):=H
 refine QT H (by simp) λO p J=>?_
 replace p:Vh O z TI TO (SU f.objs.size):=p
 have Y:∀c o,c≠z->f.get? c=on o->O.get? c=on o:=λc o n e=>J.extBut _ _ n (I.extBut _ _ n (OQ _ e));have eT:SD O f.objs.size x y:=J.extBut _ _ (RW zl) (I.extBut _ _ (RW zl) (Ph _ rfl));have z8:O.objs.size=f.objs.size+1:=by rw[J.1,I.1,Qw]
 rw[zs]at p eT z8;refine OP ⟨_,rfl,?_⟩;show Q (.ref f.objs.size) ⟨O,gg,dd,_,os⟩;rw[zs];exact hQ O _ x y px py p (Y _ _ d.a2 m) (L.frame _ _ _ ac λb hb o e=>Y b o (λq=>d.c1 (q▸hb)) e) (N.frame _ _ _ ad λb hb o e=>Y b o (λq=>d.d1 (q▸hb)) e) eT z8 λc o u B n3 n4 e=>Y c o u (ab c o u B n3 n4 e)
theorem E8{z TI TO n r:OS}{f1 f2:a0p}(H:Xl prog w A n f1 m P1 S1)(I:Xl prog w A r f2 R P2 S2)(i:Ap z TI TO n r f1 f2)
  (u:Vh s.heap z TI TO .none) (X:SD s.heap TI (.ref n) (.ref r)) (Y:SD s.heap TO a b) (T:S1 k s.heap) (Z:S2 k s.heap) (D:k=m\/(k<m/\k=R))
  (U:∀G e K,(∀c o,c≠z->c≠TO->c≠n->c≠r->s.heap.get? c=on o->G.get? c=on o)->(∃o,G.get? e=on o/\o.cls= .type "StopIteration")->E (.ref e) {s with heap:=G,toks:=K}):
  Pc (Pt prog w) A (Builtin.«zip.__next__» ⟨[.ref z],[]⟩) Q E s:=by
 obtain⟨M,gg,dd,S,os⟩:=s;show Pc _ _ (Zi (.ref z) 2>>=_) _ _ _;refine My (QE u rfl (x:= .bool OW) rfl ?_);show Pc _ _ (Zi (.ref z) 3>>=_) _ _ _;refine My (QE u rfl (x:= .ref TI) rfl ?_);refine My (Rf X rfl ?_);show Pc _ _ (Rw (.ref z)>>=_) _ _ _;refine My ?_;unfold Rw;refine My (QE u rfl (x:= .none) rfl (OP ?_));simp only[Qm];refine My (SN ?_);refine My (QE u rfl (x:= .ref TO) rfl ?_);refine My (QT u (by simp) λJ j f=>?_)
 replace j:Vh J z TI TO .ellipsis:=j
 replace f:PQ z M J:=f
 refine My ?_;simp only[List.zipIdx_cons,List.zipIdx_nil,R7,Sm];refine My (My (Vt ?_));show Pc _ _ (Re (.ref n)>>=_) _ _ _;rcases D with rfl|⟨D,rfl⟩
 .refine My (H.done _ _ _ (H.frame _ _ _ T (cu f i.c1)) λt e d N=>?_)
  replace d:Wv n J t:=d
  obtain⟨O,h,v⟩:=N;have y:Vh t z TI TO .ellipsis:=d _ _ i.a3.symm j;have p:e≠z:=λq=>by subst q;rw[y]at h;cases h;simp at v
  exact QT y (by simp) λL _ g=>U L e _ (λc o m _ P _ q=>g.extBut _ _ m (d _ _ P (f.extBut _ _ m q))) ⟨O,g.extBut _ _ p h,v⟩
 .refine My (H.item k _ _ _ D (H.frame _ _ _ T (cu f i.c1)) λx t V px aa d=>OP ?_)
  replace d:PQ n J t:=d
  have B:SD t TO a b:=d.extBut _ _ i.a8 (f.extBut _ _ i.a2 Y);refine My (Rf B rfl ?_);refine My (V7 B λL ab g=>?_)
  replace g:PQ TO t L:=g
  refine My (V5 (OP ?_));refine My (My (Vt ?_));show Pc _ _ (Re (.ref r)>>=_) _ _ _;refine My (I.done _ _ _ (I.frame _ _ _ (I.frame _ _ _ (I.frame _ _ _ Z (cu f i.d1)) (cu d i.d3)) (cu g i.d2)) λW e l N=>?_)
  replace l:Wv r L W:=l
  obtain⟨O,h,v⟩:=N;have C:Vh W z TI TO .ellipsis:=l _ _ i.a4.symm (g.extBut _ _ i.a2.symm (d.extBut _ _ i.a3.symm j));have p:e≠z:=λq=>by subst q;rw[C]at h;cases h;simp at v
  exact QT C (by simp) λg5 _ F=>U g5 e _ (λc o m R P n4 q=>F.extBut _ _ m (l _ _ n4 (g.extBut _ _ R (d.extBut _ _ P (f.extBut _ _ m q))))) ⟨O,F.extBut _ _ p h,v⟩
theorem zQ{z TI TO e f:OS}{f1 f2:a0p}(i:∀d:Qn,d.handled=A.handled->Xl prog w d e f1 J P1 S1)(j:∀d:Qn,d.handled=A.handled->Xl prog w d f f2 n2 P2 S2)(l:Ap z TI TO e f f1 f2)
  (h:Vh s.heap z TI TO .none) (m:SD s.heap TI (.ref e) (.ref f)) (n:SD s.heap TO a b) (p:S1 k s.heap) (q:S2 k s.heap) (K:k<J) (M:k<n2)
  (r:∀D g x y,P1 k x->P2 k y->Vh D z TI TO (SU s.heap.objs.size)->SD D TO x y->S1 (k+1) D->S2 (k+1) D->SD D s.heap.objs.size x y->D.objs.size=s.heap.objs.size+1->(∀c o,c≠z->c≠TO->c≠e->c≠f->s.heap.get? c=on o->D.get? c=on o)->Q (on (.ref s.heap.objs.size)) {s with heap:=D,toks:=g}):
  Pc (Pt prog w) A (Uc (.ref z)) Q E s:=by
 have G:s.TypeIs (.ref z) "zip":=⟨_,h,rfl⟩;unfold Uc;exact My (TC (wpAny_callSpecial?_slot (name:=Q4 "__next__") G Vz (Qf Vz G F.entry_zip_next (zR (i _ rfl) (j _ rfl) l h m n p q K M λD g x y S V t u v B C H I=>OP (r D g x y S V t u v B C H I)) (F.args_zip_next_1 _))))
theorem E7{z TI TO f g:OS}{f1 f2:a0p}(j:∀d:Qn,d.handled=A.handled->Xl prog w d f f1 x P1 S1)(l:∀d:Qn,d.handled=A.handled->Xl prog w d g f2 n2 P2 S2)(m:Ap z TI TO f g f1 f2)
  (h:Vh s.heap z TI TO .none) (n:SD s.heap TI (.ref f) (.ref g)) (p:SD s.heap TO a b) (q:S1 k s.heap) (r:S2 k s.heap) (K:k=x\/(k<x/\k=n2))
  (t:∀D i,(∀c o,c≠z->c≠TO->c≠f->c≠g->s.heap.get? c=on o->D.get? c=on o)->Q OO {s with heap:=D,toks:=i}):Pc (Pt prog w) A (Uc (.ref z)) Q E s:=by
 have G:s.TypeIs (.ref z) "zip":=⟨_,h,rfl⟩;unfold Uc;refine My (TC (wpAny_callSpecial?_slot (name:=Q4 "__next__") G Vz (Qf Vz G F.entry_zip_next (E8 (j _ rfl) (l _ rfl) m h n p q r K λD e i u v=>?_) (F.args_zip_next_1 _))));obtain⟨o,y,B⟩:=v;refine My (R3 (T:="StopIteration") (b:=OT) ⟨o,y,B⟩ Yc ?_);exact OP (t _ _ u)
def zv(b:Bool)(h:Qg)(a:OS)(s:a0H):Prop:=if b=OT then h.IsList a s else h.IsTuple a s
noncomputable def HX(b:Bool):String:=if b=OT then "list_iterator"else "tuple_iterator"
noncomputable abbrev qU(b:Bool)(a:OS):Qx:={cls:= .type (HX b),data:= .fields #[.ref a,.int 0 0]}
def gq(b:Bool)(h:Qg)(s a:OS)(k:Nat):Prop:=if b=OT then h.IsListIter s a k else h.IsTupleIter s a k
theorem zv.keep{b:Bool}{h h':Qg}(x:zv b h a c)(k:∀o,h.get? a=on o->h'.get? a=on o):zv b h' a c:=by
 unfold zv at x⊢;split at x
 .rename_i q;rw[O0 q];exact x.at λo e=>k o e
 .rename_i q;rw[O1 q]
  obtain⟨o,e,r⟩:=x;exact⟨o,k o e,r⟩
theorem qG{b:Bool}(x:zv b s.heap a c)(h:Q (.ref s.heap.objs.size) {s with heap:=s.heap.push (qU b a)}):Pc (Pt prog w) A (V3 (.ref a)) Q E s:=by
 cases b with
 |true=>exact Vl (show s.heap.IsList a c from x) h
 |false=>exact U9 (show s.heap.IsTuple a c from x) h
theorem uO(b:Bool)(c:A.handled=OO)(D a:OS)(E:a≠D)(s:a0H):Xl prog w A D [D,a] s.size (λi v=>s[i]?=on v) (λi h=>gq b h D a i/\zv b h a s):=by
 cases b with
 |true=>exact YD c D a E s
 |false=>exact OF c D a E s
abbrev zH1(s:Bool)(h:Qg)(a:OS):Qg:=h.push (qU s a)
abbrev zH2(s a:Bool)(h:Qg)(b c:OS):Qg:=(zH1 s h b).push (qU a c)
abbrev zH3(s b:Bool)(h:Qg)(a c:OS):Qg:=(zH2 s b h a c).push {cls:= .type "tuple",data:= .seq #[.ref h.objs.size,.ref (zH1 s h a).objs.size]}
abbrev zH4(s a:Bool)(h:Qg)(b c:OS):Qg:=(zH3 s a h b c).push {cls:= .type "tuple",data:= .seq #[.none,.none]}
abbrev ZN(s a:Bool)(h:Qg)(b c:OS):Qg:=(zH4 s a h b c).push {cls:= .type "zip",data:= .fields #[.none,.bool OW,.bool OW,.ref (zH2 s a h b c).objs.size,.ref (zH3 s a h b c).objs.size]}
theorem yR(D c:Bool)(a b:OS)(E G:a0H):
  Meets (Builtin.«zip.__new__» ⟨[.type "zip",.ref a,.ref b],[]⟩) (λ_ R s=>zv D s.heap a E/\zv c s.heap b G/\R (.ok (.ret (.ref (zH4 D c s.heap a b).objs.size))) {s with heap:=ZN D c s.heap a b}):=
 .of_wp λprog w A R s h=>by
  obtain⟨f,g,d,i,K⟩:=s;obtain⟨k,l,q⟩:=h;have j:=sub_zip;have m:zv D (Shared.heap ⟨f,g,d,i,K⟩) a E:=k;have n:zv c (Shared.heap ⟨f.push (qU D a),g,d,i,K⟩) b G:=l.keep λo e=>OQ _ e
  wp_walk using qG m,qG n
  exact⟨_,rfl,q⟩
theorem EI{D d:Bool}(r:zv D s.heap y B)(t:zv d s.heap z C)
  (h:∀G,Vh G (s.heap.objs.size+4) (s.heap.objs.size+2) (s.heap.objs.size+3) .none->SD G (s.heap.objs.size+2) (.ref s.heap.objs.size) (.ref (s.heap.objs.size+1))->SD G (s.heap.objs.size+3) .none .none->gq D G s.heap.objs.size y 0->gq d G (s.heap.objs.size+1) z 0->G.objs.size=s.heap.objs.size+5->(∀c o,s.heap.get? c=on o->G.get? c=on o)->Q (.ref (s.heap.objs.size+4)) {s with heap:=G}):
  Pc (Pt prog w) A (Vg (.type "zip") [.ref y,.ref z]) Q E s:=by
 refine callType_new F.called_zip (by decide) (F.typeCall_zip_2 _ _) (F.newCall_zip_2 _ _) (λK=>F.args_object_init_3 K _ _) F.entry_zip_new (yR D d y z B C) ⟨r,t,?_⟩;have g:(zH1 D s.heap y).objs.size=s.heap.objs.size+1:=Qw ..;have i:(zH2 D d s.heap y z).objs.size=s.heap.objs.size+2:=by rw[Qw,g]
 have j:(zH3 D d s.heap y z).objs.size=s.heap.objs.size+3:=by rw[Qw,i]
 have k:(zH4 D d s.heap y z).objs.size=s.heap.objs.size+4:=by rw[Qw,j]
 have u:(ZN D d s.heap y z).objs.size=s.heap.objs.size+5:=by rw[Qw,k]
 have l:(ZN D d s.heap y z).get? (zH4 D d s.heap y z).objs.size=on _:=Ph _ rfl;have m:(ZN D d s.heap y z).get? (zH3 D d s.heap y z).objs.size=on _:=OQ _ (Ph _ rfl);have n:(ZN D d s.heap y z).get? (zH2 D d s.heap y z).objs.size=on _:=OQ _ (OQ _ (Ph _ rfl));have q:(ZN D d s.heap y z).get? (zH1 D s.heap y).objs.size=on _:=OQ _ (OQ _ (OQ _ (Ph _ rfl)));have v:(ZN D d s.heap y z).get? s.heap.objs.size=on _:=OQ _ (OQ _ (OQ _ (OQ _ (Ph _ rfl))));show _/\_;rw[i,j,k]at l;rw[g,i]at n;rw[j]at m;rw[g]at q;rw[k];have f:∀(b:Bool) (G:Qg) (p a:OS),G.get? p=on (qU b a)->gq b G p a 0:=λb G p a e=>by
  cases b with
  |true=>exact⟨_,e,rfl,rfl⟩
  |false=>exact⟨_,e,rfl,rfl⟩
 exact⟨⟨_,l,rfl⟩,h _ l n m (f _ _ _ _ v) (f _ _ _ _ q) u λc o x=>OQ _ (OQ _ (OQ _ (OQ _ (OQ _ x))))⟩
def wh(b:Bool)(K:Pk)(H:Hp)(a:OS)(s:a0k):Prop:=if b=OT then fx K H a s else io K H a s
noncomputable def Itz(A a:Bool)(K:Pk)(b c:OS):It:=
 ⟨λi H=>∃s w x y,wh A K H b s/\wh a K H c w/\s[i]?=on x/\w[i]?=on y,
  λi H v d=>∃p x y,H p=OO/\v= .ref p/\d=upd H p (.tup [x,y])/\∀s w,wh A K H b s->wh a K H c w->s[i]?=on x/\w[i]?=on y,
  λi H=>∃s w,wh A K H b s/\wh a K H c w/\(s.length=i\/(i<s.length/\w.length=i))⟩
variable{X:Cx}{A:a0b}{σ:St}{H:Hp}
theorem cp.src{b:Bool}(I:cp X A σ H s)(h:wh b X.K H a c):∃w:a0g,aw c w/\zv b s.heap a w.toArray:=by
 cases b with
 |true=>
  obtain⟨w,r,p,_⟩:=I.list (show fx X.K H a c from h);exact⟨w,r,p.isList⟩
 |false=>
  obtain⟨w,r,p,_⟩:=I.tuple (show io X.K H a c from h);exact⟨w,r,p⟩
theorem cp.src_inj{b:Bool}(I:cp X A σ H s)(h:wh b X.K H a c)(w:wh b X.K H a d):c=d:=by
 cases b with
 |true=>exact I.list_inj (show fx X.K H a c from h) w
 |false=>exact I.tuple_inj (show io X.K H a c from h) w
theorem gq.get{b:Bool}{h:Qg}(x:gq b h f a k):∃o,h.get? f=on o/\o.cls= .type (HX b)/\∃s,o.data= .fields s:=by
 cases b with
 |true=>obtain⟨o,e,c,d⟩:=(show h.IsListIter f a k from x);exact⟨o,e,c,_,d⟩
 |false=>obtain⟨o,e,c,d⟩:=(show h.IsTupleIter f a k from x);exact⟨o,e,c,_,d⟩
theorem gq.keep{b:Bool}{h h':Qg}(x:gq b h c a k)(q:∀o,h.get? c=on o->h'.get? c=on o):gq b h' c a k:=by
 cases b with
 |true=>exact(show h.IsListIter c a k from x).at λo e=>q o e
 |false=>exact(show h.IsTupleIter c a k from x).at λo e=>q o e
theorem cp.turnNew{E:Qg}{t':Nat}{ch:a0p}{p:OS}{o:HO}(I:cp X A σ H s)(a:∀b∈ch,fF X A H b)(k:∀b u,b∉ch->s.heap.get? b=on u->E.get? b=on u)(d:s.heap.objs.size<=p)(G:bF X.prog X.w (upd H p o) E p o):cp X A σ (upd H p o) {s with heap:=E,toks:=t'}:=by
 have D:H p=OO:=I.hok.fresh d;have K:∀b u,H b=on u->b∉ch:=λb u e z=>by rw[(a b z).1]at e;cases e
 refine I.call' (s':={s with heap:=E,toks:=t'}) (ch:=ch) rfl ⟨λb u e _ _ hc=>k b u hc e,λb u e _ _ hc=>⟨u.slots,k b u hc e⟩,λb u e z hc=>?_,λb u e hc=>⟨u,k b u hc e⟩,λb M e=>?_,λb u M e=>?_,λb M e=>⟨#[],?_⟩⟩ (λb u e=>?_) I.bare λb f=>?_
 .rw[bt (P4 (Pz (Ps e) d))];exact z
 .rw[bt (b_ e D)];exact e
 .rw[bt (b_ e D)];exact e
 .rw[bt (b_ e D),e];simp
 .by_cases z:b=p
  .subst z;rw[am]at e;cases e;exact G
  .rw[bt z]at e
   refine(I.hok b u e).stay (λc v hc q=>k c v ?_ q) (λc q=>by rw[bt (b_ q D)];exact q) λc S q=>by rw[bt (b_ q D)];exact q
   rcases hc with rfl|hc
   .exact K _ _ e
   .exact K _ _ hc
 .obtain⟨j,f1,f2,g,h,i⟩:=a b f
  exact⟨g,f1,h,i⟩
theorem cp.turnL{w:Qg}{ch:a0p}(I:cp X A σ H s)(a:∀b∈ch,fF X A H b)(k:∀b u,b∉ch->s.heap.get? b=on u->w.get? b=on u):cp X A σ H {s with heap:=w,toks:=t'}:=by
 have D:∀b u,H b=on u->b∉ch:=λb u e z=>by rw[(a b z).1]at e;cases e
 refine I.call' (s':={s with heap:=w,toks:=t'}) (ch:=ch) rfl ⟨λb u e _ _ hc=>k b u hc e,λb u e _ _ hc=>⟨u.slots,k b u hc e⟩,λb u e z hc=>z,λb u e hc=>⟨u,k b u hc e⟩,λb E e=>e,λb u E e=>e,λb E e=>⟨#[],by rw[e];simp⟩⟩ (λb u e=>?_) I.bare λb d=>?_
 .refine(I.hok b u e).stay (λc v hc q=>k c v ?_ q) (λc q=>q) λc G q=>q
  rcases hc with rfl|hc
  .exact D _ _ e
  .exact D _ _ hc
 .obtain⟨i,f1,f2,f,g,h⟩:=a b d
  exact⟨f,f1,g,h⟩
theorem cp.src_ne{b:Bool}(I:cp X A σ H s)(h:wh b X.K H a l)(f:fF X A H c):a≠c:=by
 obtain⟨i,f1,f2,f3,j,k⟩:=f;have d:∀o,X.K.lookup a=on o->a≠c:=λo e z=>by
  have g:=I.ok.mod.kin a o e;subst z;rcases f3 with f3|f3
  .exact I.ok.noex a o g f3
  .exact Px (Pz (Ps (I.ok.bs a o g).1) f3) (Qh _)
 have w:∀u,Rd H a u->a≠c:=λu r z=>by
  subst z;rcases r with r|⟨_,r⟩<;>rw[i]at r<;>cases r
 cases b with
 |true=>
  rcases(show fx X.K H a l from h)with h|⟨o,_,_,e,_⟩
  .exact w _ h
  .exact d o e
 |false=>
  rcases(show io X.K H a l from h)with h|⟨o,_,_,e,_⟩
  .exact w _ h
  .exact d o e
theorem Fg{w:PV}{K:Pk}{x1}(b1 b2:Bool)(B C z TI TO f g:OS)(nd:[z,TI,TO,f,g].Nodup):
  oD P w K (.Tuple elts x1 pos) (Itz b1 b2 K B C) [z,TI,TO,f,g] z (λi h=>Vh h z TI TO .none/\SD h TI (.ref f) (.ref g)/\(∃a b,SD h TO a b)/\gq b1 h f B i/\gq b2 h g C i) where
 mem:=by simp
 obj:=λi h G b j=>by
  obtain⟨n,p,⟨a,b',F⟩,J,L⟩:=G;simp only[Pb,QL,TX]at j;rcases j with rfl|rfl|rfl|rfl|rfl
  .exact⟨_,n,λv q=>by cases q⟩
  .exact⟨_,p,λv q=>by cases q⟩
  .exact⟨_,F,λv q=>by cases q⟩
  .obtain⟨o,e,_,fs,d⟩:=J.get
   exact⟨o,e,λv q=>by rw[d]at q;cases q⟩
  .obtain⟨o,e,_,fs,d⟩:=L.get
   exact⟨o,e,λv q=>by rw[d]at q;cases q⟩
 keep:=λi h D G k=>by
  obtain⟨n,p,⟨a,b',F⟩,J,L⟩:=G;exact⟨k z (by simp) _ n,k TI (by simp) _ p,⟨a,b',k TO (by simp) _ F⟩,J.keep λo e=>k f (by simp) o e,L.keep λo e=>k g (by simp) o e⟩
 item:=by
  intro X hP hw hK hc i A s σ H E I N G hg;subst hP hw hK;obtain⟨xs,ys,x,y,M,S,hx,hy⟩:=hg;obtain⟨n,p,⟨a,b',F⟩,J,L⟩:=G;obtain⟨l,r1,p1⟩:=cp.src I M;obtain⟨m,r2,p2⟩:=cp.src I S;have V:=I.ok.hd hc;simp only[P7,Pb,QL,TX,not_or]at nd;obtain⟨⟨W,z2,T,U⟩,⟨t1,t2,t3⟩,⟨Y,o2⟩,Q,_⟩:=nd;have r:∀c∈[z,TI,TO,f,g],B≠c:=λc hc=>cp.src_ne I M (N c hc);have t:∀c∈[z,TI,TO,f,g],C≠c:=λc hc=>cp.src_ne I S (N c hc);have ap:Ap z TI TO f g [f,B] [g,C]:=⟨Ne.symm W,Ne.symm z2,Ne.symm T,Ne.symm U,t1,t2,t3,Y,o2,Q,by simp[T,(r z (by simp)).symm],by simp[Y,(r TO (by simp)).symm],by simp[Ne.symm Q,(r g (by simp)).symm],by simp[U,(t z (by simp)).symm],by simp[o2,(t TO (by simp)).symm],by simp[Q,(t f (by simp)).symm],by simp,by simp⟩;have k1:i<l.toArray.size:=by
   rw[Pr,<-r1.length];exact(Pa.mp hx).1
  have k2:i<m.toArray.size:=by
   rw[Pr,<-r2.length];exact(Pa.mp hy).1
  refine zQ (λA' D=>uO b1 (D.trans V) f B (r f (by simp)) l.toArray) (λA' D=>uO b2 (D.trans V) g C (t g (by simp)) m.toArray) ap n p F ⟨J,p1⟩ ⟨L,p2⟩ k1 k2 λD tk u v pu pv fz fO f1 f2 fT sz kp=>?_;refine⟨_,rfl,wpAny_letOwnedTupleGo_zip (s:={s with heap:=D,toks:=tk}) fz λR Z O=>?_⟩
  replace O:PQ z D R:=O
  have zT:s.heap.objs.size≠z:=RW (Ps n);obtain⟨u',hu,ru⟩:=r1.get hx;obtain⟨v',hv,rv⟩:=r2.get hy;have eu:u=u':=by
   have:l[i]?=on u:=by simpa using pu
   rw[this]at hu;exact PH hu
  have ev:v=v':=by
   have:m[i]?=on v:=by simpa using pv
   rw[this]at hv;exact PH hv
  subst eu ev;have kk:∀b o,b∉[z,TI,TO,f,g]->s.heap.get? b=on o->R.get? b=on o:=λb o j e=>by
   simp only[Pb,QL,TX,not_or]at j;exact O.extBut b o j.1 (kp b o j.1 j.2.2.1 j.2.2.2.1 j.2.2.2.2 e)
  have I2:cp X A σ (upd H s.heap.objs.size (.tup [x,y])) {s with heap:=R,toks:=tk}:=by
   refine cp.turnNew I N kk (O5 _) ⟨by show 2<=Pf;decide,[u,v],.cons ru (.cons rv .nil),_,O.extBut _ _ zT fT,rfl,_,rfl⟩
  refine⟨.ref s.heap.objs.size,_,I2,rfl,⟨s.heap.objs.size,x,y,I.hok.fresh (O5 _),rfl,rfl,λas bs h1 h2=>⟨by rw[cp.src_inj I h1 M];exact hx,by rw[cp.src_inj I h2 S];exact hy⟩⟩,⟨Z,?_,⟨u,v,?_⟩,?_,?_⟩,λb j=>?_⟩
  .exact O.extBut _ _ (Ne.symm W) (kp TI _ (Ne.symm W) t1 t2 t3 p)
  .exact O.extBut _ _ (Ne.symm z2) fO
  .exact f1.1.keep λo e=>O.extBut _ _ (Ne.symm T) e
  .exact f2.1.keep λo e=>O.extBut _ _ (Ne.symm U) e
  .rw[bt]
   .exact(N b j).1
   .intro q
    have ol:∃o,s.heap.get? b=on o:=by
     simp only[Pb,QL,TX]at j;rcases j with rfl|rfl|rfl|rfl|rfl
     .exact⟨_,n⟩
     .exact⟨_,p⟩
     .exact⟨_,F⟩
     .obtain⟨o,e,_⟩:=J.get;exact⟨o,e⟩
     .obtain⟨o,e,_⟩:=L.get;exact⟨o,e⟩
    obtain⟨o,e⟩:=ol;exact Px (Ps e) (by rw[q];exact Qh _)
 done:=by
  intro X hP hw hK hc i A s σ H E I N G hg;subst hP hw hK;obtain⟨xs,ys,M,S,hl⟩:=hg;obtain⟨n,p,⟨a,b',F⟩,J,L⟩:=G;obtain⟨l,r1,p1⟩:=cp.src I M;obtain⟨m,r2,p2⟩:=cp.src I S;have V:=I.ok.hd hc;simp only[P7,Pb,QL,TX,not_or]at nd;obtain⟨⟨W,z2,T,U⟩,⟨t1,t2,t3⟩,⟨Y,o2⟩,Q,_⟩:=nd;have r:∀c∈[z,TI,TO,f,g],B≠c:=λc hc=>cp.src_ne I M (N c hc);have t:∀c∈[z,TI,TO,f,g],C≠c:=λc hc=>cp.src_ne I S (N c hc);have ap:Ap z TI TO f g [f,B] [g,C]:=⟨Ne.symm W,Ne.symm z2,Ne.symm T,Ne.symm U,t1,t2,t3,Y,o2,Q,by simp[T,(r z (by simp)).symm],by simp[Y,(r TO (by simp)).symm],by simp[Ne.symm Q,(r g (by simp)).symm],by simp[U,(t z (by simp)).symm],by simp[o2,(t TO (by simp)).symm],by simp[Q,(t f (by simp)).symm],by simp,by simp⟩;have g1:l.toArray.size=xs.length:=by rw[Pr,<-r1.length]
  have g2:m.toArray.size=ys.length:=by rw[Pr,<-r2.length]
  refine E7 (λA' D=>uO b1 (D.trans V) f B (r f (by simp)) l.toArray) (λA' D=>uO b2 (D.trans V) g C (t g (by simp)) m.toArray) ap n p F ⟨J,p1⟩ ⟨L,p2⟩ ?_ λD tk kp=>⟨rfl,cp.turnL I N λb o j e=>?_⟩
  .rw[g1,g2]
   rcases hl with hl|⟨h1,h2⟩
   .exact .inl hl.symm
   .exact .inr ⟨h1,h2.symm⟩
  .simp only[Pb,QL,TX,not_or]at j
   exact kp b o j.1 j.2.2.1 j.2.2.2.1 j.2.2.2.2 e
 self:=λ_ _ _ _ _ G h=>wpAny_pyIter_zip G.1 h
end
section
variable{X:Cx}{E:a0r}{K:Pk}
def iZp(K:Pk)(e:TA):TI:=λf H R=>e f H λE a=>∃D d b c G M,E=[.ref b,.ref c]/\wh D K a b G/\wh d K a c M/\R (Itz D d K b c) a
theorem Ll{Y}(y:Gl X "zip")(M:X.mg "zip"=OO)(S:PA X [a,b] Z)(V:Pd [a,b] X.env=[(OW,Qp a X.env),(OW,Qp b X.env)]:=by rfl)(g:Pd [b] X.env=[(OW,Qp b X.env)]:=by rfl):
  PI X (.Tuple z Y T) (.Call (.Name "zip" p) [a,b] [] x) (iZp X.K Z):=by
 intro f s n H R I h;refine Call_ (fK I y M Boot.«zip» (QS (eg (S x f s n H _ I h) λus d ⟨vs,o,i,r1,D⟩=>?_) (by rw[V,g]) (by rw[g];rfl)));obtain⟨E,t,u,v,xs,ys,e,D,U,q⟩:=D;subst e;cases r1 with
 |cons r k=>
  cases k with
  |cons A k=>
   cases k;cases r;cases A;obtain⟨B,P,C⟩:=cp.src i D;obtain⟨F,Q,J⟩:=cp.src i U;refine EI C J λG w L N l m sz W=>?_;refine wpAny_pyIter_zip (s:={d with heap:=G}) w ?_;have O:cp X f n o {d with heap:=G}:=i.kept (t':=d.toks) W;refine⟨_,[d.heap.objs.size+4,d.heap.objs.size+2,d.heap.objs.size+3,d.heap.objs.size,d.heap.objs.size+1],_,Itz E t X.K u v,o,rfl,O,Fg E t u v (d.heap.objs.size+4) (d.heap.objs.size+2) (d.heap.objs.size+3) d.heap.objs.size (d.heap.objs.size+1) (by simp),⟨w,L,⟨_,_,N⟩,l,m⟩,λc hc=>?_,q⟩;have j:d.heap.objs.size<=c:=by
    simp only[Pb,QL,TX]at hc;rcases hc with rfl|rfl|rfl|rfl|rfl
    .exact Qu _ _
    .exact Qu _ _
    .exact Qu _ _
    .exact O5 _
    .exact Qu _ _
   exact i.fpOk j (i.hok.fresh j)
noncomputable def eF:a0c->a0c->a0c
 |x::xs,y::ys=> .tup [x,y]::eF xs ys
 |_,_=>[]
theorem uU:∀(D E:a0c),(eF D E).length=RT D.length E.length
 |[],E=>by simp[eF]
 |x::D,[]=>by simp[eF]
 |x::D,y::E=>by
  show(eF D E).length+1=_;rw[uU D E,Pg,Pg];lia
theorem uV:∀{E G:a0c} {i:Nat} {d:D},(eF E G)[i]?=on d->∃x y,E[i]?=on x/\G[i]?=on y/\d= .tup [x,y]
 |[],G,i,d,h=>by simp[eF]at h
 |x::E,[],i,d,h=>by simp[eF]at h
 |x::E,y::G,0,d,h=>by
  simp[eF]at h;exact⟨x,y,rfl,rfl,h.symm⟩
 |x::E,y::G,i+1,d,h=>by
  have K:(eF E G)[i]?=on d:=by simpa[eF]using h
  obtain⟨a,b,c,e,f⟩:=uV K;exact⟨a,b,by simpa using c,by simpa using e,f⟩
def E9:a0c->a0F
 |[a,b]=>(fM a).bind λD=>(fM b).map λE=>eF D E
 |_=>OO
theorem c4.sqS(h:c4 K F H d v)(e:fM d=on k):∃b a,v= .ref a/\∀f c,Tr F H f c->∃D,wh b K c a D/\bb K f c k D:=by
 cases d<;>first
  |(cases e;obtain⟨a,D,rfl,_⟩:=c4.sqL h;refine⟨OT,a,rfl,λf c t=>?_⟩;obtain⟨j,E,g,G,i⟩:=c4.sqL (c4.tr t _ _ h);cases g;exact⟨E,G,i⟩)
  |(cases e;obtain⟨a,D,rfl,_⟩:=c4.sqT h;refine⟨OW,a,rfl,λf c t=>?_⟩;obtain⟨j,E,g,G,i⟩:=c4.sqT (c4.tr t _ _ h);cases g;exact⟨E,G,i⟩)
  |cases e
theorem JQ{G h:Bool}(o:∀b a,Tr F H b a->∃D,wh G K a L D/\bb K b a N D)(q:∀b a,Tr F H b a->∃D,wh h K a O D/\bb K b a P D):y4 K (Itz G h K L O) F H (eF N P):=λb a V t fr i=>by
 obtain⟨D,c,M⟩:=o b a t;obtain⟨E,e,S⟩:=q b a t;refine⟨λd X=>?_,λr=>?_⟩
 .obtain⟨x,y,f,g,rfl⟩:=uV X
  obtain⟨u,j,s⟩:=M.get f;obtain⟨v,k,w⟩:=S.get g;refine⟨⟨D,E,u,v,c,e,j,k⟩,λz C A=>?_⟩;obtain⟨p,I,J,l,rfl,rfl,B⟩:=A;obtain⟨m,n⟩:=B D E c e;rw[j]at m;rw[k]at n;cases m;cases n;exact⟨bP.upd l,c4.newT fr l (bb.cons s (bb.cons w bb.nil))⟩
 .rw[uU]at r
  have f:=M.length;have g:=S.length;refine⟨D,E,c,e,?_⟩;rw[<-f,<-g];lia
def yO(g:FL):FL:=dz E9 g
theorem oH{U}(o:Gl X "zip")(M:X.mg "zip"=OO)(S:PA X [a,b] (i4 X.K g E))(V:Pd [a,b] X.env=[(OW,Qp a X.env),(OW,Qp b X.env)]:=by rfl)(i:Pd [b] X.env=[(OW,Qp b X.env)]:=by rfl):
  PI X (.Tuple s U x) (.Call (.Name "zip" p) [a,b] [] W) (iV X.K (yO g) E):=
 (Ll o M S V i).imp λJ H R j=>lm j λF z N fr q h=>⟨F,z,N,fr,q,(run.bind (R:=bb X.K F) h).mono λY f j=>by
  obtain⟨Z,O,t,P,r1⟩:=j;obtain⟨l,e,k⟩:=run.ofO r1;unfold E9 at e;split at e
  .rename_i c d
   obtain⟨v,L,rfl,r,u⟩:=bb.two P;cases D:fM c with
   |none=>rw[D]at e;cases e
   |some xs=>
    cases G:fM d with
    |none=>rw[D,G]at e;cases e
    |some ys=>
     rw[D,G]at e;cases e;obtain⟨Q,w,rfl,m⟩:=c4.sqS r D;obtain⟨y,A,rfl,n⟩:=c4.sqS u G;obtain⟨T,B,_⟩:=m F f (Tr.refl F f);obtain⟨C,I,_⟩:=n F f (Tr.refl F f);exact⟨Q,y,w,A,T,C,rfl,B,I,k _ f (To.refl t.fr) (JQ m n)⟩
  .cases e⟩
def jV(K:Pk)(f:Dn->M Unit)(c:Nat)(E:a0r):TJ:=λa H n Q=>n+c<=Pf/\∃F D G,Fr F H G/\i0 K F H D a/\run (λ_ (_:Unit) (m:Nat)=>m<=n+c) F E a (f D) H Q G
theorem _root_.L2.PJ.imp{X:Cx}(h:PJ X e t)(f:∀a H n Q,g a H n Q->t a H n Q):PJ X e g:=λb s a H D Q I c d=>h b s a H D Q I c (f a H _ _ d)
def Om:Dn->M Unit:=λ_=>M.ret ()
def zb(f:FD)(g:Dn->M Unit):Dn->M Unit:=λD=>M.bind (f D) λd=>match d with
 | .int i=>if i.natAbs.log2<1920 then g D else M.fail
 |_=>M.fail
variable{s:List Expr}
theorem On:PJ X [] (jV X.K Om 0 E):=Lj.imp λb H n Q a=>by obtain⟨_,F,s,D,fr,c,r⟩:=a;exact run.ret fr r (O5 _)
theorem HS{x:PX}(h:PJ X s (jV X.K g c E))(b:Ua (.Constant (.str x) j p::s) X.env=Qp (.Constant (.str x) j p) X.env::Ua s X.env:=by rfl):PJ X (.Constant (.str x) j p::s) (jV X.K g (x.length+c) E):=
 (Li h b).imp λl H n Q d=>by
  obtain⟨o,F,D,G,fr,f,r,a,e,k⟩:=d;exact⟨by lia,by lia,F,D,G,fr,f,r,a,e,by
   cases r with
   |ok u=>exact λm i t M=>k m i t (by lia)
   |error C=>exact k⟩
theorem HU(l:PE X v (tV X.K f E))(h:PJ X s (jV X.K g c E))(o:Ua (.FormattedValue v (-1) OO p::s) X.env=Qp (.FormattedValue v (-1) OO p) X.env::Ua s X.env:=by rfl):PJ X (.FormattedValue v (-1) OO p::s) (jV X.K (zb f g) (1921+c) E):=
 (Lk l h o).imp λI H n Q ⟨J,F,G,M,fr,j,r⟩=>⟨F,G,M,fr,j,(run.bind (R:=c4 X.K F) r).mono λv L w=>by
  obtain⟨d,D,t,S,r1⟩:=w;cases d with
  |int i=>
   by_cases q:i.natAbs.log2<1920
   .simp only[O0 q]at r1
    refine⟨i,S,q,by lia,λm x=>⟨by lia,F,G,D,t.fr,j.tr (t.tr fr),?_⟩⟩;obtain⟨b,a,e,k⟩:=r1;refine⟨b,a,e,?_⟩;cases b with
    |ok u=>exact λy A V B=>k y A V (by lia)
    |error C=>exact k
   .simp only[O1 q]at r1
    obtain⟨b,a,e,k⟩:=r1;cases e
  |_=>obtain⟨b,a,e,k⟩:=r1;cases e⟩
def zA(f:Dn->M Unit):FD:=λs=>M.bind (f s) λ_=>M.ret .txt
theorem Kk(h:PJ X (v1::v2::rest) (jV X.K f c E))(hc:c<=Pf):PE X (.JoinedStr (v1::v2::rest) j) (tV X.K (zA f) E):=
 (Jp h).imp λe H Q a=>lm a λF s D fr b r=>⟨by lia,F,s,D,fr,b,(run.bind (R:=λ_ (_:Unit) (m:Nat)=>m<=0+c) r).mono λm g a=>pa a λd G t M r1=>⟨by lia,λz i=>run.ret t.fr r1 ⟨z,rfl⟩⟩⟩
def Hk(C:OS)(n:Nat):Sp:=λD H Q _=>∃(x:OS) (s:a0k),D= .ref x::s/\s.length=n/\H x=on (d8 C x OO)/\
 ∀(E:a0A) (a:Hp),a x=on (d8 C x E)->(∀b o,H b=on o->b≠x->a b=on o)->Q .non a
noncomputable def qZ(C:OS)(f:FL):G:=λs D=>match f (hE s) D with
 |some (.ok _,β1)=>on (.ex C s,β1)
 |some (.error C',β1)=>on (.ex C' s,β1)
 |none=>OO
end
section
variable{P:PN}{w:PV}{K:Pk}{Y:a0j}{X:Qg}{N:a0i}{W:PX}{z:Scope}{f:OS}{Z:OX}{A:Qn}{U:a0B}{s:O3}{H:Hp}{E:XK}
theorem Jb(V:XC K C)(hn:∀G M r c,g G M=on (.ok r,c)->r.length=n)(v:n<=Pf)
  (h:PS (c9 (gs P w) P w K Y X N W z f Z A U s H E) (.Raise (on e) OO pos) (AG H K E (Ky C (Hk C n) [] E' (i4 K g (λ_=>E))))):
  PS (c9 (gs P w) P w K Y X N W z f Z A U s H E) (.Raise (on e) OO pos) (tG K H (qZ C g) (λ_=>E)):=h.imp λD y T F=>by
 obtain⟨B,bg,G,M,o,c,ok,e,q⟩:=F;refine⟨p_ B bg,hE G,M,ok.frA,ok.viewA,?_⟩;unfold qZ at e;split at e
 .rename_i ds β1 d
  cases e;refine⟨.ok ds,_,d,λS I t hd=>?_⟩;obtain⟨a,i⟩:=ok.to rfl t;have m:S.length=n:=by rw[<-hd.length];exact hn _ _ _ _ d
  refine⟨by rw[m];exact v,λx p=>⟨x,S++[],rfl,by rw[PU];exact m,am,λdx j J L=>⟨rfl,x,C,dx,rfl,J,?_,V,?_⟩⟩⟩
  .cases O:H x with
   |none=>rfl
   |some o=>exact Px p (a.cov x (by rw[O];simp))
  .have sm:∀b o,I b=on o->fY j x b=on o:=λb o u=>by
    have k:b≠x:=b_ u p;rw[iY k];exact L b o (by rw[bt k];exact u) k
   obtain⟨l,Q⟩:=a.to rfl (a.fr.same sm);exact q y B _ (i.trans Q) l
 .rename_i R β1 d
  cases e;refine⟨.error R,_,d,λj t=>?_⟩;obtain⟨a,i⟩:=ok.to rfl t;exact q _ B j i a
 .cases e
end
section
variable{X:Cx}{E:a0r}{K:Pk}
abbrev Gh:=OS->G
noncomputable def hNo:Gh:=λ_ _ _=>OO
noncomputable def pR(K:Pk)(a:OS)(g:G)(r:Gh):Gh:=λC D E=>match ZA K (.ref C) (.ref a)with
 |some OT=>g D E
 |some OW=>r C D E
 |none=>OO
def tH(K:Pk)(D:Hp)(g:Gh)(E:a0r):OS->TS:=λC=>tG K D (g C) E
theorem _root_.L2.PHd.imp{X:Cx}(h:PHd X d t)(f:∀C D a H,e C D a H->t C D a H):PHd X d e:=λb a G H c s E x C D I F q=>h b a G H c s E x C D I F (f C D a H q)
theorem zi:PHd X [] (tH X.K X.H₀ hNo E):=Jl.imp λC D c H a=>by obtain⟨B,G,M,S,o,b,ok,e,q⟩:=a;cases e
theorem wa{cn:PX}(b:Gl X cn)(V:X.mg cn=on (.ref Dc))(h:∀A,PSs (X.inA A) (b0::suite) (tG X.K X.H₀ g E))(c:PHd X rest (tH X.K X.H₀ r E))(i:b0c cn:=by decide):
  PHd X (.ExceptHandler (on (.Name cn np)) OO (b0::suite) j::rest) (tH X.K X.H₀ (pR X.K Dc g r) E):=(FR b V h c i).imp λC D f H d=>by
 obtain⟨B,G,M,S,o,a,ok,e,q⟩:=d;unfold pR at e;split at e
 .rename_i eq
  exact⟨OT,eq,by rw[O0 rfl];exact⟨B,G,M,S,o,a,ok,e,q⟩⟩
 .rename_i eq
  exact⟨OW,eq,by rw[O1 O8];exact⟨B,G,M,S,o,a,ok,e,q⟩⟩
 .cases e
noncomputable def lP(g:G)(h:Gh):G:=λD E=>match g D E with
 |some (.ex C δ1,β1)=>h C δ1 β1
 |r=>r
theorem yy(c:X.stack=X.env::X.outer)(d:X.env.frame=on X.env.locals)
  (k:∀(j:a0r) (M:a0b) (S:a0d),bV (gs X.prog X.w) (X.inTry M S) j->PSs (X.inTry M S) body (tG X.K X.H₀ g j)) (l:PHd X (h0::F) (tH X.K X.H₀ h E)):PS X (.Try body (h0::F) [] [] I) (tG X.K X.H₀ (lP g h) E):=(Le c d k l).imp λD y H m=>by
 obtain⟨B,G,V,x,o,a,ok,e,q⟩:=m;refine⟨λb v _ f=>∃C,v= .ref C/\tH X.K X.H₀ h E C D b f,λb C J f ⟨A,n,z⟩=>by cases n;exact z,?_⟩;unfold lP at e;split at e
 .rename_i C δ1 β1 p
  exact⟨B,G,V,x,.ex C δ1,β1,ok,p,λb t f s i=>⟨C,rfl,t,G,δ1,β1,o,a,i,e,gu.pre s q⟩⟩
 .rename_i r u
  refine⟨B,G,V,x,o,a,ok,e,?_⟩;cases o with
  |ex C δ1=>exact Px e (u C δ1 a)
  |_=>exact q
variable{y A v:Expr}{w:List Expr}{rest:a0O}{u:Scope}{z:Uh}{B c_:a0i}{cx:a0a}{g:TG}{I:a0W}
theorem aS:dW X [] (hY X.K (λ_=>M.ret OT) E0):=λa s b H Q I c=>by obtain⟨F,g,u,fr,d,r⟩:=c;exact vA a s b H Q I (run.ret fr r rfl)
theorem rb(hc:PT X c (hY X.K t E0)):dW X [c] (hY X.K t E0):=FO hc
theorem bh(hc:X.calm=OT)(S:dc X u B c_ cx)(c:PI X A v (iV X.K l E))
  (d:∀(G:a0m) (C:OS) (a:a0p) (s:O3) (H:Hp),PG (aL X B u G C a s H) A g/\dW (aL X B u G C a s H) w (hY X.K m E0)/\∀D,PB (aL X B u G C a s H) y (⟨A,v,w,0⟩::rest) u z 0 D (I D))
  (e:cF X.K g k) (f:dT k) (i:∀D,j6 X.K D (I D) b) (M:∀x,Qe v X.env x=Rh x:=by intro _;rfl):PE X (.ListComp y (⟨A,v,w,0⟩::rest) u z) (tV X.K (c7 c_.length cx l k m b) E):=
 (oh hc S c d M).imp λj H Q h=>u4 e f i h
theorem BC{a c:Uh}(j:X.N.Nodup)(d:X.N[i]?=on x)(k:E_ X.env.scope x)(hc:X.calm=OT)(S:dc X u B c_ cx)(l:PI X A v (iV X.K F E))
  (m:∀(G:a0m) (C:OS) (f:a0p) (s:O3) (H:Hp),PG (aL X B u G C f s H) A g/\dW (aL X B u G C f s H) w (hY X.K J E0)/\∀D,PB (aL X B u G C f s H) y (⟨A,v,w,0⟩::rest) u z 0 D (I D))
  (n:cF X.K g t) (o:dT t) (p:∀D,j6 X.K D (I D) b)
  (e:T0 (.ListComp y (⟨A,v,w,0⟩::rest) u z) (on (.Name x a)) c.line X.env=Rh OT:=by rfl)
  (M:∀x,Qe v X.env x=Rh x:=by intro _;rfl) (q:b0d X x:=by first|exact .inl rfl|exact .inr rfl|assumption):
  PS X (.Assign [.Name x a] (.ListComp y (⟨A,v,w,0⟩::rest) u z) c) (tG X.K X.H₀ (iB i (c7 c_.length cx F t J b)) E):=
 aC ((xt j d k hc S l m e M q).imp λD r H h=>u4 n o p h)
noncomputable def negD:D->a0l
 | .int i=>on (.int (-i))
 |_=>OO
theorem NU:Ir K (rU λi=> .int (-i)) negD:=λF H u Q g d b fr a e k=>by
 cases g<;>first|(cases e;exact⟨_,a,k _ H (To.refl fr) rfl⟩)|cases e
noncomputable def EV:D->a0v
 | .int i=>on i
 |_=>OO
noncomputable def pT(g:a0c)(u a:a0v):a0c:=(g.drop (HT.sIx g.length 0 u)).take (HT.sIx g.length g.length a-HT.sIx g.length 0 u)
def slD:D->a0v->a0v->a0l
 | .lst xs,lo,hi=>on (.lst (pT xs lo hi))
 | .scr ns,lo,hi=>on (.lst (pT (ns.map D.int) lo hi))
 |_,_,_=>OO
def uM(f:Option (FD)):Dn->M a0v:=λu=>match f with
 |none=>M.ret OO
 |some g=>M.bind (g u) λd=>M.bind (M.ofO (EV d)) λi=>M.ret (on i)
def fSl(f:FD)(u a:Option (FD)):FD:=λg=>M.bind (f g) λd=>M.bind (uM u g) λl=>M.bind (uM a g) λh=>M.ofO (slD d l h)
def zO(X:Cx)(e:Option Expr)(f:Option (FD))(E:a0r):Prop:=PO X e (λc H Q=>∃F g u,Fr F H u/\i0 X.K F H g c/\run (λ_ (a b:a0v)=>b=a) F E c (uM f g) H Q u)
theorem CI:zO X OO OO E:=λa s b H Q I c=>by obtain⟨F,g,u,fr,d,r⟩:=c;exact xv a s b H Q I (run.ret fr r rfl)
theorem CH(h:PE X e (tV X.K f E)):zO X (on e) (on f) E:=λa s c H Q I b=>lm b λF g u fr j r=>xu h a s c H Q I ⟨F,g,u,fr,j,(run.bind (R:=c4 X.K F) r).mono λv l b=>by
  obtain⟨d,w,t,y,r1⟩:=b;obtain⟨i,e,k⟩:=run.ofO_bind r1;cases d<;>first|(cases e;exact⟨_,y,run.ret t.fr k rfl⟩)|cases e⟩
theorem bb.cut(h:bb K F H b c)(g a:a0v):bb K F H (pT b g a) (nh c g a):=by
 unfold pT nh;rw[h.length];exact(h.drop _).take _
theorem wW{S y:Option Expr}{fl A:Option (FD)}(B:PE X e (tV X.K f E))(C:zO X S fl E)(I:zO X y A E):PE X (.Subscript e (.Slice S y OO p2) z) (tV X.K (fSl f fl A) E):=
 (vC w8 B C I).imp λO H Q o=>lm o λF g V fr q r=>⟨F,g,V,fr,q,(run.bind (R:=c4 X.K F) r).mono λv P ⟨d,D,t,s,r1⟩=>
  ⟨F,g,D,t.fr,q.tr (t.tr fr),(run.bind (R:=λ_ (a b:a0v)=>b=a) r1).mono λl T ⟨U,G,n,u,J⟩=>
   ⟨F,g,G,n.fr,q.tr ((t.tr fr).trans (n.tr t.fr)),(run.bind (R:=λ_ (a b:a0v)=>b=a) J).mono λh W o=>by
    obtain⟨Z,x,i,w,L⟩:=o;subst u w;obtain⟨c,e,k⟩:=run.ofO L;have j:=c4.tr ((n.tr t.fr).trans (i.tr n.fr)) _ _ s;cases d<;>first
     |(cases e;obtain⟨a,Y,rfl,M,N⟩:=c4.sqL j;exact⟨a,Y,rfl,M,λp m=>k _ _ (i.fr.upd _ m) (c4.newL i.fr m (N.cut l h))⟩)
     |(cases e;obtain⟨a,rfl,M⟩:=c4.scr j;exact⟨a,_,rfl,M,λp m=>k _ _ (i.fr.upd _ m) (c4.newL i.fr m ((bb.ofInts _).cut l h))⟩)
     |cases e⟩⟩⟩
def Bg.ok(β:Bg):Prop:=β.cells≠[]/\β.cells.length<=64/\(∀c∈β.cells,0<=c)/\0<=β.j
end
noncomputable def Bg.pos(β:Bg):Nat:=(β.i % (β.cells.length:Int)).toNat
def Bg.cell(D:Bg):Int:=D.cells.getD D.pos 0
noncomputable def Bg.nxt(D:Bg):Int:=(D.j+D.cell % 2147483629+77)*48271 % 2147483629
noncomputable def jQ(E:Bg)(D:Int):Int:=if 10^18<=E.cell then E.cell % D else E.nxt/64 % D
noncomputable def lB(D:Bg)(E:Int):Bg:=if 10^18<=D.cell then⟨D.cells.set D.pos (D.cell/E),D.i,D.j⟩else⟨D.cells,D.i+1,D.nxt⟩
open Classical in
def jX:a0c->M D:=λG E=>match G with
 |[.bag,.int lot]=>if E.ok/\0<lot/\lot<1073741824 then on (Rj (D.int (jQ E lot)),lB E lot)else OO
 |_=>OO
theorem Gi{D:Bg}(h:D.ok)(a:0<c)(b:c<1073741824):jX [.bag,.int c] D=on (.ok (.int (jQ D c)),lB D c):=by
 unfold jX;exact O0 ⟨h,a,b⟩
theorem CQ{E:Bg}(h:jX b E=on (r,a)):∃D,b=[.bag,.int D]/\E.ok/\0<D/\D<1073741824/\r= .ok (.int (jQ E D))/\a=lB E D:=by
 unfold jX at h;split at h
 .split at h
  .rename_i D q
   cases h;exact⟨D,rfl,q.1,q.2.1,q.2.2,rfl,rfl⟩
  .cases h
 .cases h
theorem Bg.ok.at{β:Bg}(h:β.ok):β.pos<β.cells.length/\β.cells[β.pos]?=on β.cell/\0<=β.cell/\β.i % (β.cells.length:Int)=(β.pos:Int):=by
 obtain⟨D,G,E,b⟩:=id h;have c:0<β.cells.length:=List.length_pos_iff.mpr D;have K:0<=β.i % (β.cells.length:Int):=Uj _ (by lia);have M:β.i % (β.cells.length:Int)<β.cells.length:=UC _ (by lia);have a:β.pos<β.cells.length:=by unfold Bg.pos;lia
 have e:β.cell=β.cells[β.pos]:=by
  unfold Bg.cell;rw[OU,OV a];rfl
 refine⟨a,by rw[e];exact OV a,by rw[e];exact E _ (P3 a),?_⟩;unfold Bg.pos;lia
theorem xo{D:Bg}(h:D.ok)(b:0<f):0<=jQ D f/\jQ D f<f/\(lB D f).ok:=by
 obtain⟨e,_,hc,_⟩:=h.at;obtain⟨E,G,K,d⟩:=id h;unfold jQ lB;split
 .refine⟨Uj _ (by lia),UC _ b,?_,by rw[QG];exact G,λc a=>?_,d⟩
  .intro z
   have:=Qo UM z;rw[QG]at this;exact E (Ts.mp this)
  .rcases Rt a with a|rfl
   .exact K c a
   .exact Int.ediv_nonneg hc (by lia)
 .exact⟨Uj _ (by lia),UC _ b,E,G,K,Uj _ (by decide)⟩
section
variable{X:Cx}{E:a0r}{K:Pk}{a b:Expr}{es:List Expr}{s:Uh}
theorem To.none(t:To F H H1 f)(h:H1 p=OO):H p=OO:=by
 cases q:H p with
 |none=>rfl
 |some o=>
  have:H1 p=on o:=t.kp p o q λb l e=>by
   obtain⟨c,d⟩:=t.fr.bag b l e;exact⟨λw=>(by subst w;rw[c]at h;cases h),λw=>(by subst w;rw[d]at h;cases h)⟩
  rw[this]at h;cases h
noncomputable def Fx.but(F:Fx)(a:OS):Fx:=⟨λc=>F.A c\/c=a,F.bg⟩
theorem Fx.tr_but{F:Fx}(fr:Fr F H g)(d:H p=OO)(a:∀c o,H c=on o->H1 c=on o):Tr F H (F.but p) H1:=⟨λc e f z=>by
 rcases z with z|z
 .exact e z
 .subst z;exact f d,λc o _ h=>a c o h,rfl⟩
theorem Fx.tr_of{F:Fx}:Tr (F.but p) H F H:=⟨λc h _ z=>h (RH z),λ_ _ _ h=>h,rfl⟩
def nN(K:Pk)(F:Fx)(s H:Hp)(D:a0c)(v:V):Prop:=∃a b,v= .ref a/\s a=OO/\H a=on (.lst b)/\bb K (F.but a) H D b
def tVO(K:Pk)(f:FL)(E:a0r):TE:=λc H Q=>∃F a b,Fr F H b/\i0 K F H a c/\run (nN K F H) F E c (f a) H Q b
def tVG(K:Pk)(f:Dn->M a0u)(E:a0r):TE:=λc H Q=>∃F a b,Fr F H b/\i0 K F H a c/\run (il K F H) F E c (f a) H Q b
noncomputable def szL(ds:a0c):a0F:=if ds.length<=Pf then on ds else OO
theorem nN.new(t:To F H H1 f)(d:H1 p=OO)(a:bb K F H1 g e):nN K F H (upd H1 p (.lst e)) g (.ref p):=
 ⟨p,e,rfl,t.none d,am,bb.tr (Fx.tr_but t.fr d λc o h=>by rw[bt (b_ h d)];exact h) _ _ a⟩
theorem bb.rep(h:bb K F H c d):∀n:Nat,bb K F H (Pn n c).flatten (Pn n d).flatten
 |0=>rfl
 |n+1=>by
  rw[QW,Sb,QW,Sb];exact bb.append h (bb.rep h n)
noncomputable def vp(a:a0c)(d:D):a0F:=match d with
 | .int k=>if(decide (-(2^63)<=k)&&decide (k<2^63)&&decide (a.length<=Pf)&&decide (a.length*k.toNat<=Pf))=OT then on (Pn k.toNat a).flatten else OO
 |_=>OO
def F6(g:FL)(f:FD):FL:=λb=>M.bind (g b) λa=>M.bind (M.ofO (szL a)) λa=>M.bind (f b) λd=>M.ofO (vp a d)
theorem NJ(ha:PA X es (i4 X.K g E))(O:PE X b (tV X.K f E)):PE X (.BinOp (.List es pos') .Mult b s) (tVO X.K (F6 g f) E):=
 (dY Lz (hZ ha) O).imp λP H Q j=>lm j λF G β fr B r=>⟨F,G,β,fr,B,(run.bind (R:=bb X.K F) r).mono λD T j=>by
  obtain⟨ds,a,t,S,r1⟩:=j;obtain⟨U,n,W⟩:=run.ofO_bind r1;unfold szL at n;split at n
  .rename_i Y
   cases n;refine⟨by rw[<-S.length];exact Y,λp I=>?_⟩;have m:=t.fr.upd (.lst D) I;have J:=t.fr.fresh I;refine⟨F,G,a,m.fr,(B.tr (t.tr fr)).tr (m.tr t.fr),?_⟩;obtain⟨L,V,e,h⟩:=W;have u:run (nN X.K F H) F E P (M.bind (f G) λd=>M.ofO (vp ds d)) (upd T p (.lst D)) Q a:=by
    refine⟨L,V,e,?_⟩;cases L with
    |ok d=>exact λv y c=>h v y (m.trans c)
    |error C=>exact λy c=>h y (m.trans c)
   refine(run.bind (R:=c4 X.K F) u).mono λw Z j=>pa j λd aa c hw r3=>?_;obtain⟨os,i,k⟩:=run.ofO r3;unfold vp at i;split at i
   .split at i
    .rename_i kk o
     cases i;simp only[PL,P9]at o;cases hw;have A:Z p=on (.lst D):=c.kp p _ am λb l q=>⟨λz=>J (z▸(fr.bgA b l q).1),λz=>J (z▸(fr.bgA b l q).2.1)⟩;have x:=m.trans c;exact⟨p,_,D,rfl,rfl,A,o.1.1.1,o.1.1.2,by rw[<-S.length];exact o.2,λq N=>k _ _ (c.fr.upd _ N) (nN.new (t.trans x) N ((bb.tr (x.tr t.fr) _ _ S).rep _))⟩
    .cases i
   .cases i
  .cases n⟩
def ii(nv:Nat)(cx:a0a)(it:Dn->M (List Pu.D))(tg:na)(s:a0q)(b:Dn->M (List Pu.D)):Dn->M (List Pu.D):=λa E=>match it a E with
 |none=>OO
 |some (.error C,β1)=>on (.error C,β1)
 |some (.ok ds,β1)=>match oa tg s b ds (lg nv cx a) β1 with
  |some (.ok os,β2)=>if os.length<=Pf then on (.ok os,β2)else OO
  |_=>OO
theorem AH{G:a0i}{S:a0a}{V:Dn->M (List Pu.D)}{g:TG}{s:na}{X:a0q}{I:a0W}{b:Dn->M (List Pu.D)}(T:cF K g s)(U:dT s)(W:∀D,j6 K D (I D) b){L:St}{H:Hp}{Q:VK}(h:tVO K (ii G.length S V s X b) E L H Q):
  qh G S (iV K V E) (λD J=>c8 J g (hY K X E0) (I D)) L H Q:=by
 obtain⟨F,δ,β,fr,N,r,k,e,h⟩:=h;unfold ii at e;refine⟨F,δ,β,fr,N,?_⟩;split at e
 .cases e
 .rename_i C β1 q
  cases e;exact⟨.error C,_,q,h⟩
 .rename_i ds β1 q
  split at e
  .rename_i os β2 q2
   split at e
   .rename_i Y
    cases e;refine⟨.ok ds,β1,q,λJ j t Z D c=>?_⟩;have d:¬F.A D:=t.fr.fresh c;have nb:∀b l,F.bg=on (b,l)->D≠b/\D≠l:=λb l z=>⟨λw=>d (w▸(fr.bgA b l z).1),λw=>d (w▸(fr.bgA b l z).2.1)⟩;have O:=t.fr.upd (.lst []) c;have m:Fr ⟨λa=>F.A a\/a=D,F.bg⟩ (upd j D (.lst [])) β1:=by
     refine⟨λa ha z=>?_,λb l z=>let ⟨x,y,w⟩:=fr.bgA b l z;⟨.inl x,.inl y,w⟩,O.fr.bag⟩
     rcases ha with ha|ha
     .exact O.fr.occ a ha z
     .subst ha;rw[am]at z;cases z
    have f:Tr F j ⟨λa=>F.A a\/a=D,F.bg⟩ (upd j D (.lst [])):=⟨λa ha hs z=>by
     rcases z with z|z
     .exact ha z
     .subst z;exact hs c,λa o ha z=>by rw[bt (b_ z c)];exact z,rfl⟩
    refine ox (R:=RL K) (D:=D) (as:=[]) (os:=os) T U (W D) m (.inr rfl) nb (rp (N.tr ((t.tr fr).trans f))) ⟨[],am,rfl⟩ (Z.tr f) q2 (show os.length<=Pf from Y) λaa P p ab u=>?_;obtain⟨i,v,B⟩:=u;have tf:To F j P k:=by
     refine⟨λa o z n=>p.kp a o (by rw[bt (b_ z c)];exact z) (b_ z c) n,λa ha z=>p.fr.occ a (RH ha) z,fr.bgA,p.fr.bag⟩
    exact h _ P (t.trans tf) ⟨D,i,rfl,t.none c,v,B⟩
   .cases e
  .cases e
def pY(s:na)(E:a0q)(b:Dn->M (List (List Pu.D))):List Pu.D->Dn->M (List (List Pu.D))
 |[],_=>M.ret []
 |d::ds,δ=>match s d δ with
  |none=>M.fail
  |some a=>M.bind (E a) λc=>M.bind (if c=OT then b a else M.ret []) λo=>M.bind (pY s E b ds δ) λG=>M.ret (o++G)
def J_(K:Pk)(F:Fx)(D:OS)(s H:Hp)(E:List (List Pu.D))(a:a0k):Prop:=(∀c,s c≠OO->H c≠OO)/\∃b,a=b.map V.ref/\(D::b).Nodup/\bj K F H (λr=>s r=OO) E b
theorem J_.mono{F:Fx}{D:OS}(g:F.A D)(i:∀b l,F.bg=on (b,l)->H0 b≠OO/\H0 l≠OO)(fr:Fr F H β)(t:nq F D H H1 n)(h:J_ K F D H0 H as m):J_ K F D H0 H1 as m:=by
 obtain⟨cv,E,e,a,j⟩:=h;refine⟨λc hc z=>?_,E,e,a,bj.tr (t.tr fr g) j λr G k p q=>⟨p,t.kp r _ q (λz=>?_) λb l w=>⟨λz=>?_,λz=>?_⟩⟩⟩
 .cases q:H c with
  |none=>exact cv c hc q
  |some o=>
   by_cases s:c=D
   .subst s;exact t.fr.occ _ g z
   .by_cases d:∃b l,F.bg=on (b,l)/\(c=b\/c=l)
    .obtain⟨b,l,w,f⟩:=d
     rcases f with rfl|rfl
     .exact t.fr.occ _ (fr.bgA _ _ w).1 z
     .exact t.fr.occ _ (fr.bgA _ _ w).2.1 z
    .rw[t.kp c o q s λb l w=>⟨λy=>d ⟨b,l,w,.inl y⟩,λy=>d ⟨b,l,w,.inr y⟩⟩]at z
     cases z
 .subst z;exact(P7.mp a).1 k
 .subst z;exact(i _ _ w).1 p
 .subst z;exact(i _ _ w).2 p
def rD(K:Pk)(D:OS)(i:TB)(f:Dn->M (List (List Pu.D))):Prop:=∀(F:Fx) (s H:Hp) (E:Dn) (V d:Bg) (h:St) (a:a0k) (G S:List (List Pu.D)) (Q:a0E),Fr F H V->F.A D->(∀b l,F.bg=on (b,l)->D≠b/\D≠l)->(∀b l,F.bg=on (b,l)->s b≠OO/\s l≠OO)->i0 K F H E h->H D=on (.lst a)->J_ K F D s H G a->
 f E V=on (.ok S,d)->G.length+S.length<=Pf->(∀e g c,nq F D H g d->i0 K F g E e->g D=on (.lst c)->J_ K F D s g (G++S) c->Q e g)->i h H Q
def wD(f:Dn->M (List Pu.D)):Dn->M (List (List Pu.D)):=λa=>M.bind (f a) λd=>M.ret [d]
theorem bj.snoc(p:P r)(c:H r=on (.lst e))(d:bb K F H f e):∀{a:List (List Pu.D)} {b:a0p},bj K F H P a b->bj K F H P (a++[f]) (b++[r])
 |[],[],_=>⟨p,⟨e,c,d⟩,trivial⟩
 |_::_,_::_,h=>⟨h.1,h.2.1,bj.snoc p c d h.2.2⟩
 |[],_::_,h=>h.elim
 |_::_,[],h=>h.elim
theorem xF{D:OS}:rD K D (zK D (tVO K f E0)) (wD f):=λF E H X β j Y s as os Q fr m p P R T G e Z k=>by
 obtain⟨d,aa,e1,e2⟩:=M.bind_inv e;cases e2;refine⟨F,X,β,fr,R,E0.run e1 λv U t hv=>?_⟩;have u:=t.kp D _ T p;have w:=G.mono m P fr (t.toD D);obtain⟨r,xs,rfl,g,n1,n2⟩:=hv;obtain⟨cv,S,A,nd,W⟩:=w;obtain⟨B,c,C,I,J⟩:=G;have i:s.length=as.length:=by rw[A,ON,W.len]
 have L:c=S:=by
  have:c.map V.ref=S.map V.ref:=C.symm.trans A;exact VX (λa b q=>by cases q;rfl)|>.mp this
 subst L;have nD:r≠D:=λz=>by subst z;rw[T]at g;cases g
 have nr:r∉c:=λz=>by
  obtain⟨_,ys,q⟩:=J.all r z;rw[q]at g;cases g
 have N:E r=OO:=by
  cases q:E r with
  |none=>rfl
  |some o=>exact Px g (B r (by rw[q];simp))
 refine⟨s,u,by rw[i];simp at Z;lia,?_⟩;have O:nq F D U (upd U D (.lst (s++[.ref r]))) j:=by
  refine⟨λa o h n _=>by rw[bt n];exact h,λa h q=>?_,fr.bgA,λb l q=>?_⟩
  .by_cases z:a=D
   .subst z;rw[am]at q;cases q
   .rw[bt z]at q;exact t.fr.occ a h q
  .rw[bt (p b l q).1.symm,bt (p b l q).2.symm]
   exact t.fr.bag b l q
 have tt:=O.tr t.fr m;refine k Y _ _ ((t.toD D).trans O) (R.tr ((t.tr fr).trans tt)) am (J_.mono m P t.fr O ⟨cv,c++[r],by rw[A,PR];rfl,?_,bj.snoc N n1 (bb.tr Fx.tr_of _ _ n2) W⟩);rw[<-SX,UO];refine⟨I,by simp,λx hx y hy=>?_⟩;obtain rfl:y=r:=by simpa using hy
 rcases Pb.mp hx with rfl|hx
 .exact nD.symm
 .exact λz=>nr (z▸hx)
end
section
variable{X:Cx}{E:a0r}{K:Pk}
theorem JE{D:OS}(hg:cF K g tg)(sg:dT tg)(hb:rD K D tb b){F:Fx}{as os:List (List Pu.D)}(fr:Fr F H β)(W:F.A D)(hn:∀b l,F.bg=on (b,l)->D≠b/\D≠l)(h0:∀b l,F.bg=on (b,l)->H0 b≠OO/\H0 l≠OO)(vk:i0 K F H z σ)(hD:H D=on (.lst acc))(hd:J_ K F D H0 H as acc)
  (it:y4 K J F H s) (e:pY tg tt b s z β=on (.ok os,β')) (hz:as.length+os.length<=Pf) (k:∀f n a,nq F D H n β'->i0 K F n z f->n D=on (.lst a)->J_ K F D H0 n (as++os) a->Q f n):c8 J g (hY K tt E0) tb σ H Q:=by
 refine⟨λi m f n=>m+i=s.length/\∃E a j t,nq F D H n E/\i0 K F n z f/\n D=on (.lst a)/\J_ K F D H0 n j a/\pY tg tt b (s.drop i) z E=on (.ok t,β')/\j++t=as++os,
  ⟨s.length,by lia,β,acc,as,os,⟨λ_ _ h _ _=>h,fr⟩,vk,hD,hd,e,rfl⟩,?_⟩
 rintro i m f n ⟨hm,E,a,j,t,u,y,B,C,r,ea⟩;have aa:=u.tr fr W;obtain⟨iy,is⟩:=it F n E aa u.fr i;cases Y:s[i]? with
 |none=>
  have Z:s.length<=i:=UI.mp Y;rw[Rl Z]at r;cases r;refine .inl ⟨is (by lia),k f n a u y B ?_⟩;rw[<-ea,PU];exact C
 |some d=>
  have Z:i<s.length:=(Pa.mp Y).1;obtain⟨go,yl⟩:=iy d Y;have ed:s.drop i=d::s.drop (i+1):=by
   rw[QC Z];congr 1;exact PH ((OV Z).symm.trans Y)
  rw[ed]at r;unfold pY at r;cases q:tg d z with
  |none=>rw[q]at r;cases r
  |some G=>
   rw[q]at r;obtain⟨c,V,e2,e3⟩:=M.bind_inv r;obtain⟨o,S,X,e5⟩:=M.bind_inv e3;obtain⟨I,ai,e6,e7⟩:=M.bind_inv e5;cases e7;obtain⟨s1,s2⟩:=sg _ _ _ q;refine .inr ⟨go,λL N=>∃p,nq F D H N S/\i0 K F N z L/\N D=on (.lst p)/\J_ K F D H0 N (j++o) p,?_,λx H2 hy=>?_⟩
   .rintro L N ⟨p,t9,vk9,hD9,hd9⟩
    exact⟨m-1,by lia,by lia,S,p,j++o,I,t9,vk9,hD9,hd9,e6,by rw[Qs];exact ea⟩
   .obtain⟨sm,dx⟩:=yl x H2 hy
    have w:To F n H2 E:=u.fr.same sm;have ab:=w.tr u.fr;refine hg F H2 z G f d x _ (y.tr ab) dx q λac v=>⟨F,G,E,w.fr,v,E0.run e2 λc' H3 O ec=>?_⟩;subst ec;have ad:=sm _ _ B;have P:=O.kp D _ ad hn;have R:=O.tr w.fr;have d3:=(C.mono W h0 u.fr (w.toD D)).mono W h0 w.fr (O.toD D);have T:nq F D H H3 V:=u.trans ((w.trans O).toD D);have ae:j.length+(o++I).length<=Pf:=by
     have:=Qo UM ea;simp only[Pl]at this⊢;lia
    cases c' with
    |true=>
     rw[O0 rfl]at X⊢;refine hb F H0 H3 G V S ac a j o _ O.fr W hn h0 (v.tr R) P d3 X (by rw[Pl]at ae;lia) λaj H4 U t4 af ag ah=>?_;exact⟨U,T.trans t4,af.sub s1 s2,ag,ah⟩
    |false=>
     rw[O1 O8]at X⊢;cases X;exact⟨a,T,(v.tr R).sub s1 s2,P,by rw[PU];exact d3⟩
def jx(G:Nat)(K:a0a)(S:Dn->M (List Pu.D))(V:na)(X:a0q)(b:Dn->M (List (List Pu.D))):Dn->M (List (List Pu.D)):=λE a=>match S E a with
 |none=>OO
 |some (.error C,β1)=>on (.error C,β1)
 |some (.ok ds,β1)=>match pY V X b ds (lg G K E) β1 with
  |some (.ok os,β2)=>if os.length<=Pf then on (.ok os,β2)else OO
  |_=>OO
theorem sP{S:a0i}{V:a0a}{X:Dn->M (List Pu.D)}{g:TG}{G:na}{s:a0q}{I:a0W}{b:Dn->M (List (List Pu.D))}(T:cF K g G)(U:dT G)(W:∀D,rD K D (I D) b){L:St}{H:Hp}{Q:VK}(h:tVG K (jx S.length V X G s b) E L H Q):
  qh S V (iV K X E) (λD J=>c8 J g (hY K s E0) (I D)) L H Q:=by
 obtain⟨F,δ,β,fr,N,r,k,e,h⟩:=h;unfold jx at e;refine⟨F,δ,β,fr,N,?_⟩;split at e
 .cases e
 .rename_i C β1 q
  cases e;exact⟨.error C,_,q,h⟩
 .rename_i ds β1 q
  split at e
  .rename_i os β2 q2
   split at e
   .rename_i Y
    cases e;refine⟨.ok ds,β1,q,λJ f t Z D d=>?_⟩;have i:¬F.A D:=t.fr.fresh d;have nb:∀b l,F.bg=on (b,l)->D≠b/\D≠l:=λb l z=>⟨λw=>i (w▸(fr.bgA b l z).1),λw=>i (w▸(fr.bgA b l z).2.1)⟩;have O:=t.fr.upd (.lst []) d;have m:Fr ⟨λa=>F.A a\/a=D,F.bg⟩ (upd f D (.lst [])) β1:=by
     refine⟨λa ha z=>?_,λb l z=>let ⟨x,y,w⟩:=fr.bgA b l z;⟨.inl x,.inl y,w⟩,O.fr.bag⟩
     rcases ha with ha|ha
     .exact O.fr.occ a ha z
     .subst ha;rw[am]at z;cases z
    have j:Tr F f ⟨λa=>F.A a\/a=D,F.bg⟩ (upd f D (.lst [])):=⟨λa ha hs z=>by
     rcases z with z|z
     .exact ha z
     .subst z;exact hs d,λa o ha z=>by rw[bt (b_ z d)];exact z,rfl⟩
    have cv:∀c,H c≠OO->upd f D (.lst []) c≠OO:=λc hc z=>by
     by_cases w:c=D
     .subst w;rw[am]at z;cases z
     .rw[bt w]at z;exact hc (t.none z)
    refine JE (D:=D) (H0:=H) (as:=[]) (os:=os) T U (W D) m (.inr rfl) nb (λb l z=>⟨fr.occ _ (fr.bgA b l z).1,fr.occ _ (fr.bgA b l z).2.1⟩) (rp (N.tr ((t.tr fr).trans j))) am ⟨cv,[],rfl,by simp,trivial⟩ (Z.tr j) q2 (by simpa using Y) λaa P R u ab v B=>?_;have tf:To F f P k:=by
     refine⟨λa o z n=>u.kp a o (by rw[bt (b_ z d)];exact z) (b_ z d) n,λa ha z=>u.fr.occ a (RH ha) z,fr.bgA,u.fr.bag⟩
    obtain⟨_,rs,ea,nd,rl⟩:=B;subst ea;exact h _ P (t.trans tf) ⟨D,rs,rfl,t.none d,v,nd,bj.tr (F:=⟨λa=>F.A a\/a=D,F.bg⟩) ⟨λa ha _ z=>ha (RH z),λa o _ z=>z,rfl⟩ rl λr xs _ p q=>⟨p,q⟩⟩
   .cases e
  .cases e
section
variable{p q l:Expr}{n:List Expr}{m:a0O}{k:Scope}{o:Uh}{r v:a0i}{u:a0a}{g:TG}{t:a0W}
theorem LH(hc:X.calm=OT)(S:dc X k r v u)(c:PI X q l (iV X.K y E))
  (d:∀(G:a0m) (C:OS) (a:a0p) (s:O3) (H:Hp),PG (aL X r k G C a s H) q g/\dW (aL X r k G C a s H) n (hY X.K z E0)/\∀D,PB (aL X r k G C a s H) p (⟨q,l,n,0⟩::m) k o 0 D (t D))
  (e:cF X.K g w) (f:dT w) (i:∀D,j6 X.K D (t D) b) (M:∀x,Qe l X.env x=Rh x:=by intro _;rfl):PE X (.ListComp p (⟨q,l,n,0⟩::m) k o) (tVO X.K (ii v.length u y w z b) E):=
 (oh hc S c d M).imp λj H Q h=>AH e f i h
theorem Mx(hc:X.calm=OT)(S:dc X k r v u)(c:PI X q l (iV X.K y E))
  (d:∀(G:a0m) (C:OS) (a:a0p) (s:O3) (H:Hp),PG (aL X r k G C a s H) q g/\dW (aL X r k G C a s H) n (hY X.K z E0)/\∀D,PB (aL X r k G C a s H) p (⟨q,l,n,0⟩::m) k o 0 D (t D))
  (e:cF X.K g w) (f:dT w) (i:∀D,rD X.K D (t D) b) (M:∀x,Qe l X.env x=Rh x:=by intro _;rfl):PE X (.ListComp p (⟨q,l,n,0⟩::m) k o) (tVG X.K (jx v.length u y w z b) E):=
 (oh hc S c d M).imp λj H Q h=>sP e f i h
end
mutual
noncomputable def noL:D->Bool
 | .int _=>OT
 | .bl _=>OT
 | .str _=>OT
 | .non=>OT
 | .tup ds=>noLs ds
 |_=>OW
noncomputable def noLs:a0c->Bool
 |[]=>OT
 |d::ds=>noL d&&noLs ds
end
mutual
theorem xB{F b:Fx}(hF:∀c,b.A c->F.A c\/D2 H c):∀(d:D) (v:V),noL d=OT->c4 K F H d v->c4 K b H d v
 | .int i,v,_,h=>h
 | .bl i,v,_,h=>h
 | .str i,v,_,h=>h
 | .non,v,_,h=>h
 | .tup ds,v,n,h=>by
  obtain⟨a,E,e,h1,f⟩:=h;refine⟨a,E,e,?_,noLs_den hF ds E (by simpa[noL]using n) f⟩;rcases h1 with⟨h1,r⟩|h1
  .refine .inl ⟨λz=>?_,r⟩
   rcases hF a z with z|⟨G,z⟩|⟨G,z⟩
   .exact h1 z
   .rcases r with r|⟨o,r⟩<;>rw[z]at r<;>cases r
   .rcases r with r|⟨o,r⟩<;>rw[z]at r<;>cases r
  .exact .inr h1
 | .lst _,_,n,_=>by simp[noL]at n
 | .scr _,_,n,_=>by simp[noL]at n
 | .ty _,_,n,_=>by simp[noL]at n
 | .txt,_,n,_=>by simp[noL]at n
 | .obj _ _ _,_,n,_=>by simp[noL]at n
 | .bag,_,n,_=>by simp[noL]at n
 | .adr _,_,n,_=>by simp[noL]at n
 | .dct _ _ _,_,n,_=>by simp[noL]at n
theorem noLs_den{F a:Fx}(hF:∀c,a.A c->F.A c\/D2 H c):∀(D:a0c) (E:a0k),noLs D=OT->bb K F H D E->bb K a H D E
 |[],E,_,h=>h
 |d::D,E,n,h=>by
  have b:noL d=OT/\noLs D=OT:=by simpa[noLs]using n
  obtain⟨x,f,e,g,i⟩:=h;exact⟨x,f,e,xB hF d x b.1 g,noLs_den hF D f b.2 i⟩
end
theorem bj.noL{F b:Fx}(hF:∀c,b.A c->F.A c\/D2 H c):∀{D:a0u} {E:a0p},(∀ds∈D,noLs ds=OT)->bj K F H P D E->(∀r∈E,P2 r)->bj K b H P2 D E
 |[],[],_,_,_=>trivial
 |ds::D,r::E,n,h,p=>by
  obtain⟨g,⟨G,d,e⟩,f⟩:=h;exact⟨p r OZ,⟨G,d,noLs_den hF _ _ (n ds OZ) e⟩,bj.noL hF (λx a=>n x (OR _ a)) f λx a=>p x (OR _ a)⟩
 |[],_::_,_,h,_=>h.elim
 |_::_,[],_,h,_=>h.elim
theorem fw.newGrd{E:Ds}{d:St}(M:fw K H₀ B l H E p d)(t:To (en B l) H H' m)(S:∀V∈ba,noLs V=OT)(h:il K (en B l) H H' ba v):
  ∃e,fw K H₀ e l H' (E.set i (on (.grd ba))) m (d.set i (on v))/\hL B H e H':=by
 obtain⟨a,D,rfl,j,f,n,b⟩:=h;have g:∀c,c=a\/c∈D->H c=OO/\D2 H' c:=λc hc=>by
  rcases hc with rfl|hc
  .exact⟨j,.inl ⟨_,f⟩⟩
  .exact⟨(b.all c hc).1,.inl (b.all c hc).2⟩
 exact M.claim (λc=>c=a\/c∈D) t g λG o _=>⟨a,D,rfl,G a (.inl rfl),f,n,bj.noL (F:=en B l) (λc hc=>(o c hc).imp id λw=>(g c w).2) S b λr k=>G r (.inr k)⟩
end
section
variable{X:Cx}{E:a0r}{K:Pk}{st:Qk}{J:Hp}{B:Ow}{I:a0s}{H H':Hp}{δ:Ds}{β aa:Bg}{σ:St}
def wb(i:Nat)(f:Dn->M a0u):G:=λδ β=>match f (vw δ) β with
 |some (.ok ba,β1)=>if(ba.all noLs)=OT then on (.nx (δ.set i (on (.grd ba))),β1)else OO
 |some (.error C,β1)=>on (.ex C δ,β1)
 |none=>OO
theorem Hn(h:PS X st (iq (tVG X.K f E) (fj i))):PS X st (tG X.K X.H₀ (wb i f) E):=h.imp λD σ H g=>by
 obtain⟨B,I,δ,β,o,aa,ok,e,q⟩:=g;refine⟨en B I,vw δ,β,ok.fr,ok.view,?_⟩;unfold wb at e;split at e
 .rename_i ba β1 b
  split at e
  .rename_i hn
   cases e;refine⟨.ok ba,_,b,λv H' t G=>?_⟩;obtain⟨j,a,c⟩:=ok.newGrd (i:=i) t (λJ d=>SW.mp hn J d) G;exact q _ _ _ c a
  .cases e
 .rename_i C β1 b
  cases e;refine⟨.error C,_,b,λH' t=>?_⟩;obtain⟨a,c⟩:=ok.to rfl t;exact q _ B H' c a
 .cases e
theorem bj.put{H:Hp}(t:Tr F H F (upd H r (.lst k)))(E:bb K F (upd H r (.lst k)) ds k):∀{ba:a0u} {B:a0p} (j:Nat),bj K F H P ba B->B.Nodup->B[j]?=on r->bj K F (upd H r (.lst k)) P (ba.set j ds) B
 |d0::ba,r0::B,0,h,nd,e=>by
  obtain rfl:r0=r:=by simpa using e
  have D:∀a∈B,a≠r0:=λa b z=>(P7.mp nd).1 (z▸b);exact⟨h.1,⟨k,am,E⟩,bj.tr t h.2.2 λa G b p q=>⟨p,by rw[bt (D a b)];exact q⟩⟩
 |d0::ba,r0::B,j+1,h,nd,e=>by
  have c:B[j]?=on r:=by simpa using e
  obtain⟨d,⟨G,f,g⟩,i⟩:=h;have D:r0≠r:=λz=>(P7.mp nd).1 (z▸Pj c);exact⟨d,⟨G,by rw[bt D];exact f,bb.tr t _ _ g⟩,bj.put t E j i (P7.mp nd).2 c⟩
 |[],[],_,_,_,e=>by simp at e
 |[],_::_,_,h,_,_=>h.elim
 |_::_,[],_,h,_,_=>h.elim
theorem bj.at{H:Hp}:∀{ba:a0u} {rs:a0p} {j:Nat} {ds:a0c},bj K F H P ba rs->ba[j]?=on ds->∃r xs,rs[j]?=on r/\P r/\H r=on (.lst xs)/\bb K F H ds xs
 |d0::ba,r0::rs,0,ds,h,e=>by
  obtain rfl:d0=ds:=by simpa using e
  obtain⟨a,⟨B,b,c⟩,g⟩:=h;exact⟨r0,B,rfl,a,b,c⟩
 |d0::ba,r0::rs,j+1,ds,h,e=>by
  obtain⟨r,xs,d,f⟩:=bj.at h.2.2 (j:=j) (ds:=ds) (by simpa using e);exact⟨r,xs,by simpa using d,f⟩
 |[],[],_,_,_,e=>by simp at e
 |[],_::_,_,_,h,_=>h.elim
 |_::_,[],_,_,h,_=>h.elim
theorem fw.writeRow{E:a0p}{X:a0u}(D:fw K J B I H δ β σ)(x:σ[i]?=on (on (.ref a)))(hB:B a=on (i+2))(G:H a=on (.lst (E.map V.ref)))(M:(a::E).Nodup)(t:bj K (en B I) H (λr=>B r=on (i+2)) X E)(u:E[j]?=on r)(F:H r=on (.lst N))(L:bb K (en B I) H ds xs):
  fw K J B I (upd H r (.lst xs)) (δ.set i (on (.grd (X.set j ds)))) β σ/\hL B H B (upd H r (.lst xs)):=by
 have m:r∈E:=Pj u;have f:B r=on (i+2):=(t.all r m).1;have g:hL B H B (upd H r (.lst xs)):=by
  refine⟨λc o h n=>?_,λ_ _=>rfl,λ_ _ _ n=>n,λc hc=>?_⟩
  .rw[bt]
   .exact h
   .intro z;subst z;rw[f]at n;rcases n with n|n<;>cases n
  .by_cases z:c=r
   .subst z;rw[am];simp
   .rw[bt z];exact hc
 have S:Tr (en B I) H (en B I) (upd H r (.lst xs)):=g.tr;refine⟨⟨⟨λc hc z=>?_,D.fr.bgA,λb l e=>?_⟩,D.bgt,by rw[QG,D.len],λa G=>g.al a (D.cov a G),D.new,λc k hc=>(by
  by_cases z:c=r
  .subst z;exact .inl ⟨xs,am⟩
  .exact(D.lst c k hc).imp λo y=>by rw[bt z];exact y),λk s e=>?_⟩,g⟩
 .by_cases q:c=r
  .subst q;rw[am]at z;cases z
  .rw[bt q]at z;exact D.fr.occ c hc z
 .obtain⟨b1,w⟩:=D.bgt b l e
  rw[bt (λz=>by subst z;rw[f]at b1;cases b1),bt (λz=>by subst z;rw[f]at w;cases w)];exact D.fr.bag b l e
 .rw[QY]at e
  by_cases q:i=k
  .subst q
   rw[O0 rfl]at e;split at e
   .cases e
    have p:a≠r:=λz=>(P7.mp M).1 (z▸m);exact⟨_,x,a,E,rfl,hB,by rw[bt p];exact G,M,bj.put S (bb.tr S _ _ L) j t (P7.mp M).2 u⟩
   .cases e
  .rw[O1 q]at e
   obtain⟨v,A,C⟩:=D.tell k s e;exact⟨v,A,C.tr S λc d=>⟨d,λo z=>(bt λy=>by subst y;rw[f]at d;cases d;exact q rfl).trans z⟩⟩
def m5(f:Dn->M a0u):G:=λδ β=>match f (vw δ) β with
 |some (.ok ba,β1)=>on (.rg ba,β1)
 |some (.error C,β1)=>on (.ex C δ,β1)
 |none=>OO
theorem Ja(h:PS X (.Return (on e) n) (Fl (tVG X.K f E))):PS X (.Return (on e) n) (tG X.K X.H₀ (m5 f) E):=h.imp λD σ H j=>by
 obtain⟨B,I,δ,β,o,aa,ok,e,q⟩:=j;refine⟨en B I,vw δ,β,ok.fr,ok.view,?_⟩;unfold m5 at e;split at e
 .rename_i ba β1 d
  cases e;refine⟨.ok ba,_,d,λv H' t G=>?_⟩;obtain⟨b,g⟩:=ok.to rfl t;have i:∀c,H c=OO->X.H₀ c=OO:=λc hc=>by
   cases w:X.H₀ c with
   |none=>rfl
   |some o=>exact Px hc (ok.cov c (by rw[w];simp))
  obtain⟨a,J,rfl,k,l,M,m⟩:=G;exact q _ B H' g b.fr ⟨a,J,rfl,i a k,l,M,bj.tr (Tr.refl _ _) m λr S _ p y=>⟨i r p,y⟩⟩
 .rename_i C β1 d
  cases e;refine⟨.error C,_,d,λH' t=>?_⟩;obtain⟨b,g⟩:=ok.to rfl t;exact q _ B H' g b
 .cases e
def spG(K:Pk)(n:Nat)(m:a0c->M a0u):Sp:=λB H Q E=>B.length=n/\∃F D β,Fr F H β/\bb K F H D B/\run (il K F H) F (λ_=>E) [] (m D) H Q β
def oO(n:Nat)(g:G):a0c->M a0u:=λB β=>match g (o1 n B) β with
 |some (.rg ba,aa)=>on (.ok ba,aa)
 |some (.ex C _,aa)=>on (.error C,aa)
 |_=>OO
variable{P:PN}{w:PV}{mg:a0j}{ab:Qg}
theorem JZ{st:Qk}{N V:a0i}(n m:Nat)(g:G)(F:hV K x qual st f fd)(S:b5 N V (ae st))(L:V.length=n)(O:N.length=m)
  (j:∀(c:OX) (A:Qn) (D:a0B) (s:O3) (H:Hp) (E:XK),ej k (A.deeper (TV qual (ae st) s.heap.objs.size f c))->
   PSs (c9 (gs P w) P w K mg ab N qual (ae st) f c A D s H E) (cz st) (tG K H g (λ_=>E))):et P w K mg ab (gs P w) (k+1) f fd V (spG K n (oO m g)):=by
 subst L O;refine F.okE S (λvs H Q E h=>h.1) λc A D s H vs Q E hr h=>?_;obtain⟨hl,u,X,β,fr,hd,r,aa,e,h⟩:=h;refine⟨_,j c A D s H E hr,?_⟩;obtain⟨B,ok,R,h1,hn⟩:=u5 (N:=N) fr hd;have J:∀{I:Ow} {H':Hp},hL B H I H'->Fr (en I u.bg) H' aa->To u H H' aa/\Tr (en I u.bg) H' u H':=λ{I H'} s i=>by
  have hs:∀a,u.A a->I a≠OO:=λa M=>by
   rw[s.tg a (R a M)];rcases R a M with z|z<;>rw[z]<;>simp
  refine⟨⟨λa o M n=>s.kp a o M ?_,λa M=>i.occ a (hs a M),λb l e=>fr.bgA b l e,i.bag⟩,λa M _ z=>M (hs a z),λ_ _ _ h=>h,rfl⟩;cases q:B a with
  |none=>exact .inl rfl
  |some t=>
   have:=R a (hn a (by rw[q];simp));rcases this with z|z
   .rw[q]at z;exact .inr z
   .obtain⟨b,l,e,w⟩:=h1 a z
    obtain⟨T,n2⟩:=n b l e;rcases w with w|w
    .exact Px w T
    .exact Px w n2
 unfold oO at e;split at e
 .rename_i d β1 U
  cases e;refine⟨B,u.bg,o1 N.length X,β,.rg d,aa,ok,U,λv I H' s i hv=>?_⟩;obtain⟨W,t2⟩:=J s i;obtain⟨a,rs,ev,n0,T,nd,rl⟩:=hv;exact h v H' W ⟨a,rs,ev,n0,T,nd,bj.tr t2 rl λr xs _ p y=>⟨p,y⟩⟩
 .rename_i C Y β1 U
  cases e;refine⟨B,u.bg,o1 N.length X,β,.ex C Y,aa,ok,U,λac I H' s Z=>?_⟩;obtain⟨W,t2⟩:=J s Z.fr;exact h H' W
 .cases e
variable{e:Expr}{z:List Expr}{s p:Uh}{x:PX}{k n:Nat}{f:OS}{P:Pp}{B:a0i}
def wo(m:a0c->M a0u)(g:FL):Dn->M a0u:=λδ=>M.bind (g δ) λe=>m e
theorem il.pre{K:Pk}{H b H':Hp}(t:To F H b j)(h:il K F b H' ba v):il K F H H' ba v:=by
 obtain⟨a,e,c,d,g,f,i⟩:=h;exact⟨a,e,c,t.none d,g,f,bj.tr (Tr.refl _ _) i λr k _ p y=>⟨t.none p,y⟩⟩
theorem Mz(G:et X.prog X.w X.K X.mg X.base (gs X.prog X.w) k f P B (spG X.K n m))(q:ej k X.A)(u:Gl X x)(V:X.mg x=on (.ref f))(y:U7 X.K (.ref f)=OT)(I:cA X.K P B [])(J:bV (gs X.prog X.w) X E)
  (ha:PA X (e::z) (i4 X.K g E)) (hn:∀δ β r aa,g δ β=on (.ok r,aa)->r.length=n) (a:b0c x:=by decide) (L:b0a X e z:=by rfl) (b:b0b X s z:=by rfl):
  PE X (.Call (.Name x p) (e::z) [] s) (tVG X.K (wo m g) E):=
 (oi G q u V y I .nil J ha a L b).imp λσ H Q N=>lm N λF δ β fr O r=>⟨F,δ,β,fr,O,by
  obtain⟨r0,c,h,i⟩:=run.bind (R:=bb X.K F) r;refine⟨r0,c,h,?_⟩;cases r0 with
  |error C=>exact i
  |ok ds=>
   intro vs T t S;obtain⟨d',D,j,d,r1⟩:=i vs T t S;have U:=hn _ _ _ _ h;refine⟨by rw[PU,<-S.length,U],F,d',D,j.fr,by rw[PU];exact d,?_⟩;obtain⟨l,M,W,o⟩:=r1;refine⟨l,M,W,?_⟩;cases l with
   |ok ba=>exact λv H' Y Z=>o v H' Y (il.pre j Z)
   |error C=>exact o⟩
end
end L2.Pu
namespace L2
end L2
namespace L2.Pu
section
variable{X:Cx}{E:a0r}{K:Pk}
def oV(K:Pk)(E:a0j)(x:PX)(d:D):Prop:=∃u v,E x=on u/\aO v u/\∀F H,c4 K F H d v
theorem l8(c:oV X.K X.mg x d)(a:Gl X x:=by rfl)(D:b0c x:=by decide):PE X (.Name x g) (tV X.K (fC d) E):=by
 obtain⟨u,v,b,e,f⟩:=c;exact ss (Jo a b e D) f
mutual
noncomputable def X1:D->Option PyData
 | .non=>on .none
 | .bl b=>on (.bool b)
 | .int i=>on (.int i)
 | .str x=>on (.str x)
 | .lst xs=>(toPs xs).map PyData.list
 | .tup xs=>(toPs xs).map PyData.tuple
 |_=>OO
noncomputable def toPs:a0c->Option (List PyData)
 |[]=>on []
 |x::xs=>match X1 x,toPs xs with
  |some p,on ps=>on (p::ps)
  |_,_=>OO
end
mutual
theorem kI{s:O3}(I:cp X w y H s):∀(d:D) (v:V) (u:OX) (p:PyData),c4 X.K F H d v->X1 d=on p->aO v u->∃G,Reads s.heap u p G
 | .non,v,u,p,h,e,r=>by cases e;cases h.non;cases r;exact⟨_,.none⟩
 | .bl b,v,u,p,h,e,r=>by cases e;cases h.bl;cases r;exact⟨_,.bool b⟩
 | .int i,v,u,p,h,e,r=>by cases e;cases h.int;obtain⟨t,rfl⟩:=r;exact⟨_,.int i t⟩
 | .str x,v,u,p,h,e,r=>by cases e;cases h.str;obtain⟨t,rfl⟩:=r;exact⟨_,.str x t⟩
 | .lst xs,v,u,p,h,e,r=>by
  unfold X1 at e;cases q:toPs xs with
  |none=>rw[q]at e;cases e
  |some M=>
   rw[q]at e;cases e;obtain⟨a,S,rfl,k,c⟩:=c4.sqL h;cases r;obtain⟨E,f,l,_⟩:=I.list k;obtain⟨G,g⟩:=reads_L I xs S E M c q f;obtain⟨o,j,hc,n,m⟩:=l.isList;exact⟨_,.list j hc m (by simpa using g)⟩
 | .tup xs,v,u,p,h,e,r=>by
  unfold X1 at e;cases q:toPs xs with
  |none=>rw[q]at e;cases e
  |some M=>
   rw[q]at e;cases e;obtain⟨a,S,rfl,k,c⟩:=c4.sqT h;cases r;obtain⟨E,f,l,_⟩:=I.tuple k;obtain⟨G,g⟩:=reads_L I xs S E M c q f;obtain⟨o,j,hc,n,m⟩:=l;exact⟨_,.tuple j hc m (by simpa using g)⟩
 | .ty _,_,_,_,_,e,_=>by cases e
 | .txt,_,_,_,_,e,_=>by cases e
 | .scr _,_,_,_,_,e,_=>by cases e
 | .obj _ _ _,_,_,_,_,e,_=>by cases e
 | .bag,_,_,_,_,e,_=>by cases e
 | .adr _,_,_,_,_,e,_=>by cases e
 | .dct _ _ _,_,_,_,_,e,_=>by cases e
theorem reads_L{s:O3}(I:cp X l m H s):∀(E:a0c) (D:a0k) (G:a0g) (M:List PyData),bb X.K F H E D->toPs E=on M->aw D G->∃S,ReadsAll s.heap G M S
 |[],D,G,M,h,e,r=>by
  have q:D=[]:=h;subst q;cases e;cases r;exact⟨_,.nil⟩
 |d::E,D,G,M,h,e,r=>by
  obtain⟨x,a,rfl,b,c⟩:=h;unfold toPs at e;split at e
  .rename_i p pr f g
   cases e;cases r with
   |cons r1 i=>
    obtain⟨S,j⟩:=kI I d x _ p b f r1;obtain⟨V,k⟩:=reads_L I E a _ pr c g i;exact⟨_,.cons j k⟩
  .cases e
end
def pU(a b:D):a0N:=match X1 a,X1 b with
 |some p,on q=>if(V0 p&&V0 q)=OT then on (PyData.eqv p q)else OO
 |_,_=>OO
def pS(a b:D):a0l:=match eqS a b with
 |some c=>on (.bl c)
 |none=>(pU a b).map D.bl
def kj(a b:D):a0l:=match eqS a b with
 |some c=>on (.bl (!c))
 |none=>(pU a b).map λc=>D.bl (!c)
def rQ(X:Cx)(g:Bool->Bool):R2:=λx y H Q=>∃(F:Fx) (a b:D) (c:Bool),c4 X.K F H a x/\c4 X.K F H b y/\pU a b=on c/\Q (.bl (g c)) H
theorem tX{c:Bool}(h:pU a b=on c):∃p q,X1 a=on p/\X1 b=on q/\V0 p=OT/\V0 q=OT/\c=PyData.eqv p q:=by
 unfold pU at h;split at h
 .rename_i p q d e
  split at h
  .rename_i hs
   rw[PL]at hs;cases h;exact⟨p,q,d,e,hs.1,hs.2,rfl⟩
  .cases h
 .cases h
theorem LD(f:ej k X.A):gt X (QD .Eq) (rQ X id):=by
 intro d s t H x y v u Q I g i h;obtain⟨F,a,b,c,D,E,e,q⟩:=h;obtain⟨p,j,l,m,n,o,rfl⟩:=tX e;obtain⟨G,r1⟩:=kI I a x v p D l g;obtain⟨K,r⟩:=kI I b y u j E m i;exact eq_dataH r1 r n o f.units ⟨.bl _,H,I,rfl,q⟩
theorem LB(f:ej k X.A):gt X (QD .NotEq) (rQ X not):=by
 intro d s t H x y v u Q I g i h;obtain⟨F,a,b,c,D,E,e,q⟩:=h;obtain⟨p,j,l,m,n,o,rfl⟩:=tX e;obtain⟨G,r1⟩:=kI I a x v p D l g;obtain⟨K,r⟩:=kI I b y u j E m i;exact ne_dataH r1 r n o f.units ⟨.bl _,H,I,rfl,q⟩
theorem dO(a:ej k X.A):gt X (QD .Eq) (λx y H Q=>rEq x y H Q\/rQ X id x y H Q):=NH.or (LD a)
theorem h9(a:ej k X.A):gt X (QD .NotEq) (λx y H Q=>rNe x y H Q\/rQ X not x y H Q):=NG.or (LB a)
theorem ff:aY X.K (λx y H Q=>rEq x y H Q\/rQ X id x y H Q) pS:=λF H G Q D E d h i fr a b e k=>by
 unfold pS at e;split at e
 .rename_i c q
  cases e;obtain⟨f,g⟩:=EB q a b;exact .inl ⟨f,by rw[g];exact k _ H (To.refl fr) rfl⟩
 .cases q:pU D E with
  |none=>rw[q]at e;cases e
  |some c=>rw[q]at e;cases e;exact .inr ⟨F,D,E,c,a,b,q,k _ H (To.refl fr) rfl⟩
theorem jY:aY X.K (λx y H Q=>rNe x y H Q\/rQ X not x y H Q) kj:=λF H G Q D E d h i fr a b e k=>by
 unfold kj at e;split at e
 .rename_i c q
  cases e;obtain⟨f,g⟩:=EB q a b;exact .inl ⟨f,by rw[g];exact k _ H (To.refl fr) rfl⟩
 .cases q:pU D E with
  |none=>rw[q]at e;cases e
  |some c=>rw[q]at e;cases e;exact .inr ⟨F,D,E,c,a,b,q,k _ H (To.refl fr) rfl⟩
theorem OE(i j:Int):pS (.int i) (.int j)=on (.bl (decide (i=j))):=rfl
theorem OD(i j:Int):kj (.int i) (.int j)=on (.bl (!decide (i=j))):=rfl
theorem HP{C:a0U}{c:Int->Int->Bool}{g:a0I}(hc:∀i j,c i j=OT->C i j):aY K (ipC C g) (nS λi j=>if c i j=OT then on (.int (g i j))else OO):=λF H D Q E G d h l fr b f e k=>by
 obtain⟨i,j,rfl,rfl,a⟩:=jo e;split at a
 .cases a
  exact⟨i,j,b,f,hc _ _ (by assumption),k _ H (To.refl fr) rfl⟩
 .cases a
def addI:D->D->a0l:=nS λi j=>on (.int (i+j))
theorem xI:aY K (ipI λi j=>i+j) addI:=λF H D Q E G d f g fr a b e k=>by
 obtain⟨i,j,rfl,rfl,c⟩:=jo e;cases c;exact⟨i,j,a,b,k _ H (To.refl fr) rfl⟩
theorem xK:PIp X .Mult (ipC uS λi j=>i*j):=by
 intro a s e H x y v u Q I b d h;obtain⟨i,j,rfl,rfl,c,q⟩:=h;obtain⟨t,rfl⟩:=b;obtain⟨D,rfl⟩:=d;exact imul_int ⟨.int _,H,I.tok _,⟨_,rfl⟩,q⟩ (Yo (j4 c.1) (j4 c.2))
theorem xH:aY K (ipC uS λi j=>i*j) Gc:=HP λi j h=>by
 simp only[PL,gW,P9]at h;exact h
theorem Gy:aY K (ipC uT λi j=>i/j) zw:=HP λi j h=>by
 simp only[PL,P9]at h;exact h
abbrev gc:=Fp
theorem EK(hc:X.calm=OT):cM X (.builtin "sum") (λE H Q=>∃(a:OS) (D:a0e),E=[.ref a]/\fx X.K H a (D.map V.int)/\Q (.int D.sum) H):=tY hc
theorem L0:dB K (λE H Q=>∃(a:OS) (D:a0e),E=[.ref a]/\fx K H a (D.map V.int)/\Q (.int D.sum) H) gc:=NS
def Iu(H:Hp)(b l:OS):Prop:=∃(D:a0e) (i j:Int),H b=on (.lst [.ref l,.int i,.int j])/\H l=on (.lst (D.map V.int))/\D≠[]/\D.length<=64/\(∀c∈D,0<=c)/\0<=j
theorem JP(h:k<n):s9 n (k:Int)=on k:=by
 unfold s9;rw[O0 (by lia),O0 (by lia)];simp
theorem OH(D:a0e):∃a:a0e,nh (D.map V.int) OO (on 63)=a.map V.int/\a.length<=63:=by
 refine⟨(D.drop (HT.sIx D.length 0 OO)).take (HT.sIx D.length D.length (on 63)-HT.sIx D.length 0 OO),?_,?_⟩
 .unfold nh
  rw[ON,VR,T8]
 .rw[Q2]
  have:HT.sIx D.length D.length (on 63)<=63:=by
   unfold HT.sIx;simp;lia
  lia
def Nl(K:Pk):Sp:=λD H Q _=>∃(a:OS) (E:a0e),D=[.ref a]/\fx K H a (E.map V.int)/\∀(b l:OS) (c:Hp),H b=OO->H l=OO->Iu c b l->bP H c->Q (.ref b) c
def Hj(K:Pk):Sp:=λE H Q _=>∃(a:OS) (D:a0e),E=[.ref a]/\fx K H a (D.map V.int)/\D.length<=63/\∀b,Q (.bl OT) b
theorem Ka(sm:bP H₀ H)(y:H₀ b=OO)(A:H₀ l=OO)(B:Iu H b l):∃E,E.ok/\fw K H₀ (λc=>if c=b\/c=l then on 1 else OO) (on (b,l)) H (OO::on (.sh .bag)::Pn n OO) E (on (.ref a)::on (.ref b)::Pn n OO):=by
 obtain⟨D,i,j,f,g,m,u,v,w⟩:=B;have h:b≠l:=NN f g (by
  intro z;cases D with
  |nil=>exact m rfl
  |cons c r=>simp at z)
 refine⟨⟨D,i,j⟩,⟨m,u,v,w⟩,⟨⟨λc hc=>?_,λp t e=>?_,λp t e=>?_⟩,λp t e=>?_,by simp,λc hc=>?_,λc k hc=>(by
  have d:(if c=b\/c=l then on 1 else OO)=on (k+2):=hc;split at d<;>cases d),λc k hc=>(by
  have d:(if c=b\/c=l then on 1 else OO)=on (k+2):=hc;split at d<;>cases d),λk s e=>?_⟩⟩
 .have d:(if c=b\/c=l then on 1 else OO)≠(OO:a0G):=hc
  split at d
  .rename_i q
   rcases q with rfl|rfl
   .rw[f];simp
   .rw[g];simp
  .exact Px rfl d
 .cases e
  refine⟨?_,?_,h⟩
  .show(if b=b\/b=l then on 1 else OO)≠(OO:a0G)
   rw[O0 (.inl rfl)];simp
  .show(if l=b\/l=l then on 1 else OO)≠(OO:a0G)
   rw[O0 (.inr rfl)];simp
 .cases e
  exact⟨f,g⟩
 .cases e
  exact⟨O0 (.inl rfl),O0 (.inr rfl)⟩
 .cases q:H₀ c with
  |none=>exact Px q hc
  |some o=>rw[sm c o q];simp
 .match k with
  |0=>simp at e
  |1=>
   simp at e;subst e;exact⟨.ref b,rfl,b,l,rfl,rfl⟩
  |k+2=>
   simp only[Xy,RJ]at e;split at e<;>cases e
variable{P:PN}{w:PV}{mg:a0j}{base:Qg}
theorem m7{M:Qk}{N V:a0i}(n m:Nat)(g:G)(F:hV K x c M f h)(S:b5 N V (ae M))(d:V.length=n)(e:N.length=m)
  (a:∀(b:OX) (A:Qn) (D:a0B) (s:O3) (H:Hp) (E:XK),ej k (A.deeper (TV c (ae M) s.heap.objs.size f b))->
   PSs (c9 (gs P w) P w K mg base N c (ae M) f b A D s H E) (cz M) (tG K H g (λ_=>E))):et P w K mg base (gs P w) (k+1) f h V (Im K n (fq m g)):=by
 subst d e;exact JX F S a
end
end L2.Pu
namespace L2
theorem dc.ofB{X:Cx}{w:Scope}{D:a0a}(k:w.kind= .function)(E:(w.names.map (·.1)).Nodup)
  (fr:(w.names.all λy=>y.2 != .free||(X.env.scope.names.lookup y.1==on .cell||X.env.scope.names.lookup y.1==on .free))=OT) (G:Nc=c_++D.map (λj=>X.N.getD j SK))
  (a:(D.all λj=>decide (j<X.N.length)&&w.names.lookup (X.N.getD j SK)==on .free)=OT):dc X w Nc c_ D:=by
 refine⟨k,E,λy b e=>?_,G,λj c=>?_⟩
 .have:=SW.mp fr y b
  rw[e]at this;simp only[SJ,Bool.false_or,WB,R8]at this;exact this
 .have:=SW.mp a j c
  simp only[PL,P9,R8]at this;exact this
end L2
namespace L2.Pu
end L2.Pu
namespace L2.Pu
section
variable{X:Cx}{E:a0r}{K:Pk}{z A u:Expr}{w:List Expr}{v:a0O}{t:Scope}{y:Uh}{B J:a0i}{I:a0a}{g:TG}{F:a0W}
theorem KR{a c:Uh}(j:X.N.Nodup)(d:X.N[i]?=on x)(k:E_ X.env.scope x)(hc:X.calm=OT)(S:dc X t B J I)(l:PI X A u (iV X.K O E))
  (m:∀(G:a0m) (C:OS) (f:a0p) (s:O3) (H:Hp),PG (aL X B t G C f s H) A g/\dW (aL X B t G C f s H) w (hY X.K Q E0)/\∀D,PB (aL X B t G C f s H) z (⟨A,u,w,0⟩::v) t y 0 D (F D))
  (n:cF X.K g L) (o:dT L) (p:∀D,rD X.K D (F D) b)
  (e:T0 (.ListComp z (⟨A,u,w,0⟩::v) t y) (on (.Name x a)) c.line X.env=Rh OT:=by rfl)
  (M:∀x,Qe u X.env x=Rh x:=by intro _;rfl) (q:b0d X x:=by first|exact .inl rfl|exact .inr rfl|assumption):
  PS X (.Assign [.Name x a] (.ListComp z (⟨A,u,w,0⟩::v) t y) c) (tG X.K X.H₀ (wb i (jx J.length I O L Q b)) E):=
 Hn ((xt j d k hc S l m e M q).imp λD r H h=>sP n o p h)
end
end L2.Pu
namespace L2
section
variable{X:Cx}
theorem GV{D:a0Y}{w:a0g}(r:aw (D.map V.bl) w){i:Nat}{v:OX}(h:w.toArray[i]?=on v):v= .bool (D.getD i OW):=by
 have E:w[i]?=on v:=by simpa using h
 have a:=r.length;rw[ON]at a;have b:i<D.length:=by rw[a];exact(Pa.mp E).1
 obtain⟨u,c,d⟩:=r.get (i:=i) (x:=V.bl D[i]) (by rw[OY,OV b];rfl);rw[E]at c;cases c;rw[OU,OV b];exact d
theorem BM{α:Type}(f:Bool->Bool)(w:a0Y):(O6 w.length).map (λi=>w.getD i OW)=w:=by
 apply Zq;intro i;rw[OY];by_cases h:i<w.length
 .rw[Qr h,OV h]
  simp[OU,OV h]
 .rw[Ru (by simpa using h),Ru (by lia)];rfl
theorem BN(w:a0Y):((O6 w.length).any λi=>w.getD i OW)=w.any id:=by
 conv=>rhs;rw[<-BM (α:=Bool) id w]
 rw[List.any_map];rfl
theorem nz(hc:X.calm=OT):cM X (.builtin "any") (λG H Q=>∃(a:OS) (E:a0Y),G=[.ref a]/\fx X.K H a (E.map V.bl)/\Q (.bl (E.any id)) H):=by
 intro j s y H G M Q I r h;obtain⟨a,E,rfl,l,q⟩:=h;cases r with
 |cons r1 m=>
  cases r1;cases m;obtain⟨D,k,p,B⟩:=I.list l;have f:=p.isList;have c:D.toArray.size=E.length:=by rw[Pr,<-k.length,ON]
  have d:∀b o,s.heap.get? b=on o->b≠s.heap.objs.size:=λb o e z=>by
   rw[z,Yn (O5 _)]at e;cases e
  have g:a≠s.heap.objs.size:=by
   obtain⟨o,e,_⟩:=f;exact d a o e
  have W:=Walks.list (prog:=X.prog) (w:=X.w) (A:=X.A.in1) (show X.A.in1.handled=OO from I.ok.hd hc) s.heap.objs.size a g D.toArray;refine call_any_walk (Vl f ⟨s.heap.objs.size,[s.heap.objs.size,a],[s.heap.objs.size],D.toArray.size,_,_,λi=>E.getD i OW,rfl,W,⟨⟨_,Ph s.heap rfl,rfl,rfl⟩,f.push _⟩,λi v P C F n t=>?_,λS J u=>?_⟩)
  .rw[GV k n]
   exact Qz t
  .rw[c,BN]
   exact⟨.bl (E.any id),H,I.kept λb o e=>u b o (λz=>d b o e (by simpa using z)) (OQ _ e),rfl,q⟩
end
end L2
namespace L2.Pu
noncomputable def eE:a0c->Option a0Y
 |[]=>on []
 | .bl b::r=>(eE r).map (b::·)
 |_=>OO
theorem pf{K:Pk}:∀{w:a0c} {D:a0k} {E:a0Y},eE w=on E->bb K F H w D->D=E.map V.bl
 |[],D,E,e,h=>by
  cases e;cases h;rfl
 |d::w,D,E,e,h=>by
  obtain⟨x,f,rfl,a,c⟩:=h;cases d<;>first
   |(rename_i b
     cases q:eE w with
     |none=>simp[eE,q]at e
     |some r=>
     simp[eE,q]at e;subst e;cases a.bl;rw[pf q c];rfl)
   |simp[eE]at e
def zL:a0c->a0l
 |[.lst ds]=>(eE ds).map λw=> .bl (w.any id)
 |_=>OO
variable{K:Pk}
theorem y7:dB K (λD H Q=>∃(a:OS) (w:a0Y),D=[.ref a]/\fx K H a (w.map V.bl)/\Q (.bl (w.any id)) H) zL:=λF H E Q G d M fr h e k=>by
 unfold zL at e;split at e
 .obtain⟨v,rfl,g⟩:=bb.one h
  obtain⟨a,D,rfl,r,b⟩:=c4.sqL g;obtain⟨w,q,e⟩:=Vc.mp e;subst e;rw[pf q b]at r;exact⟨a,w,rfl,r,k _ H (To.refl fr) rfl⟩
 .cases e
end L2.Pu
namespace L2
section
variable{X:Cx}{a b c d:Expr}{ta w tc P:TE}{aa:Uh}
def Nd(i e:R2)(tc P:TE)(y:V):TE:=λf H Q=>tc f H λw j=>i y w j λk g=>∃h,k= .bl h/\(if h=OT then P f g λl m=>e w l m Q else Q (.bl OW) g)
def wZ(r h e:R2)(ta w tc P:TE):TE:=λf H Q=>ta f H λx i=>w f i λy j=>r x y j λz g=>∃k,z= .bl k/\(if k=OT then Nd h e tc P y f g Q else Q (.bl OW) g)
theorem BT(J:gt X (QD op) r)(l:gt X (QD op') r')(i:gt X (QD op'') r'')(G:PE X a ta)(L:PE X b w)(hc:PE X c tc)(K:PE X d P)
  (M:Zj [op,op',op''] [b,c,d]=OW:=by with_unfolding_all rfl):PT X (.Compare a [op,op',op''] [b,c,d] aa) (yk (wZ r r' r'' ta w tc P)):=by
 intro f s g H Q I h;refine isTrue_chain (eg (G f s g H _ I h) λv N ⟨x,O,R,r1,S⟩=>test_link (eg (L f N g O _ R S) λu T ⟨y,U,W,o,V⟩=>
  eg (J f T g U x y v u _ W r1 o V) λdd Y ⟨z,p,q,Z,k,e,D⟩=>?_)) M
 subst e;cases Z;refine Qz ?_;cases k with
 |false=>
  obtain⟨m,j,n⟩:=D;cases j;exact ite_ff ⟨p,q,n⟩
 |true=>
  refine ite_tt (test_link (eg (hc f Y g p _ q D) λt s4 ⟨A,H4,I4,B,q4⟩=>eg (l f s4 g H4 y A u t _ I4 o B q4) λdd s5 ⟨z',C,F,r5,m,j,E⟩=>?_));subst j;cases r5;refine Qz ?_;cases m with
  |false=>
   obtain⟨m,j,n⟩:=E;cases j;exact ite_ff ⟨C,F,n⟩
  |true=>
   refine ite_tt (test_last (eg (K f s5 g C _ F E) λw' s6 ⟨z2,H6,I6,r6,q6⟩=>eg (i f s6 g H6 A z2 t w' _ I6 B r6 q6) λd' s7 ⟨z3,H7,I7,r7,k3,e3,q7⟩=>?_));subst e3;cases r7;exact Qz ⟨H7,I7,q7⟩
end
end L2
namespace L2.Pu
section
variable{X:Cx}{E:a0r}{a b c d:Expr}{pos:Uh}{K:Pk}
def Ij(f e:a0X)(h i:FD)(y:D):FD:=λa=>M.bind (h a) λw=>M.bind (M.ofO (f y w)) λz=>M.bind (M.ofO (asB z)) λc=>if c=OT then M.bind (i a) (λg=>M.ofO (e w g))else M.ret (.bl OW)
def oM(o j e:a0X)(f g h i:FD):FD:=λd=>M.bind (f d) λa=>M.bind (g d) λb=>M.bind (M.ofO (o a b)) λz=>M.bind (M.ofO (asB z)) λc=>if c=OT then Ij j e h i b d else M.ret (.bl OW)
theorem run.later{c i:Type}{R:Hp->c->i->Prop}{F:Fx}{j:St}{m:M c}{H k:Hp}{Q:i->Hp->Prop}{a:Bg}(t:To F H k a)(h:run R F E j m H Q a):run R F E j m k Q a:=by
 obtain⟨l,f,e,q⟩:=h;refine⟨l,f,e,?_⟩;cases l with
 |ok d=>exact λv g b=>q v g (t.trans b)
 |error C=>exact λg b=>q g (t.trans b)
theorem yo(l:aY K r o)(l':aY K r' o')(O:aY K s x)(T:tV K (oM o o' x f g h i) E σ H Q):wZ r r' s (tV K f E) (tV K g E) (tV K h E) (tV K i E) σ H Q:=by
 obtain⟨F,b,β,fr,U,T⟩:=T;refine⟨F,b,β,fr,U,(run.bind (R:=c4 K F) T).mono λv H1 n=>pa n λd D t hd r1=>⟨F,b,D,t.fr,U.tr (t.tr fr),(run.bind (R:=c4 K F) r1).mono λV H2 n=>pa n λX a p u r2=>?_⟩⟩;obtain⟨z,ez,r3⟩:=run.ofO_bind r2;obtain⟨c,ec,L⟩:=run.ofO_bind r3;rw[jB ec]at ez;have W:=U.tr ((t.tr fr).trans (p.tr t.fr));refine l F H2 a _ d X _ v V p.fr (c4.tr (p.tr t.fr) _ _ hd) u ez λvz H3 j hz=>⟨c,hz,?_⟩;cases c with
 |true=>
  rw[O0 rfl]at L;have Y:=c4.tr (j.tr p.fr) _ _ u;have y:=W.tr (j.tr p.fr);have r5:=run.later j L;refine⟨F,b,a,j.fr,y,(run.bind (R:=c4 K F) r5).mono λw H4 n=>pa n λdw A B C r6=>?_⟩;obtain⟨z',I,r7⟩:=run.ofO_bind r6;obtain⟨c',Z,N⟩:=run.ofO_bind r7;rw[jB Z]at I;refine l' F H4 A _ X dw _ V w B.fr (c4.tr (B.tr j.fr) _ _ Y) C I λaa H5 m G=>⟨c',G,?_⟩;cases c' with
  |true=>
   rw[O0 rfl]at N;refine⟨F,b,A,m.fr,y.tr ((B.tr j.fr).trans (m.tr B.fr)),(run.bind (R:=c4 K F) (run.later m N)).mono λw' H6 ⟨M,P,t6,J,r9⟩=>?_⟩;obtain⟨d3,e3,k⟩:=run.ofO r9;exact O F H6 P Q dw M d3 w w' t6.fr (c4.tr ((m.tr B.fr).trans (t6.tr m.fr)) _ _ C) J e3 k
  |false=>
   rw[O1 O8]at N;obtain⟨rr,S,e,q⟩:=N;cases e;exact q _ H5 m rfl
 |false=>
  rw[O1 O8]at L;obtain⟨rr,S,e,q⟩:=L;cases e;exact q _ H3 j rfl
theorem Fk(m:gt X (QD op) r)(j:gt X (QD u) y)(e:gt X (QD s) v)(l:aY X.K r o)(n:aY X.K y z)(k:aY X.K v x)(w:PE X a (tV X.K f E))(p:PE X b (tV X.K g E))(hc:PE X c (tV X.K h E))(D:PE X d (tV X.K i E))(G:Zj [op,u,s] [b,c,d]=OW:=by with_unfolding_all rfl):
  PT X (.Compare a [op,u,s] [b,c,d] pos) (hY X.K (fB (oM o z x f g h i)) E):=(BT m j e w p hc D G).imp λt H Q q=>yo l n k (pp q)
variable{st:Qk}{o:Hp}{B:Ow}{bg:a0s}{H u:Hp}{δ:Ds}{β P:Bg}{σ:St}
theorem fw.AtoB(a:fw K o B bg H δ β σ):∀c,(en B bg).A c->(p_ B bg).A c\/D2 H c:=λc hc=>by
 have e:B c≠OO:=hc;cases q:B c with
 |none=>exact Px q e
 |some k=>
  match k,q with
  |0,q=>exact .inl (.inl q)
  |1,q=>exact .inl (.inr q)
  |k+2,q=>exact .inr (a.lst c k q)
theorem fw.noB{d:D}(a:fw K o B bg H δ β σ)(b:noL d=OT)(h:c4 K (p_ B bg) H d v):c4 K (en B bg) H d v:=xB a.AtoB d v b h
def q8(i:Nat)(e f g:FD):G:=λδ β=>match g (hE δ) β with
 |some (.ok d,β1)=>match e (hE δ) β1 with
  |some (.ok (.int ka),β2)=>match f (hE δ) β2 with
   |some (.ok (.int kb),β3)=>match δ.getD i OO with
    |some (.grd ba)=>match s9 ba.length ka with
     |some a=>match ba[a]? with
      |some b=>match s9 b.length kb with
       |some c=>if noL d=OT then on (.nx (δ.set i (on (.grd (ba.set a (b.set c d))))),β3)else OO
       |none=>OO
      |none=>OO
     |none=>OO
    |_=>OO
   |_=>OO
  |_=>OO
 |_=>OO
theorem vo(h:PS X st (iq (tV X.K fv E) (GL (ZZ (yC X.K) (pk i) (tV X.K fa E)) (tV X.K fb E) Hq))):PS X st (tG X.K X.H₀ (q8 i fa fb fv) E):=h.imp λD σ H h_=>by
 obtain⟨B,bg,δ,β,o,P,ok,e,q⟩:=h_;refine⟨p_ B bg,hE δ,β,ok.frA,ok.viewA,?_⟩;unfold q8 at e;split at e
 .rename_i d β1 e1
  refine⟨.ok d,_,e1,λv H1 t1 G=>?_⟩;obtain⟨f,s1⟩:=ok.to rfl t1;split at e
  .rename_i ka β2 e2
   split at e
   .rename_i kb β3 e3
    split at e
    .rename_i ba O
     split at e
     .rename_i ja ea
      split at e
      .rename_i ds er
       split at e
       .rename_i jb eb
        split at e
        .rename_i Q
         cases e;have G:=f.noB Q G;obtain⟨w,N,a,rs,rfl,hB,ha,nd,rl⟩:=f.tell i _ (getD_some O);refine⟨_,N,p_ B bg,hE δ,β1,f.frA,f.viewA,.ok (.int ka),β2,e2,λy H2 t2 hy=>?_⟩;cases hy;obtain⟨j,S⟩:=f.to (F:=p_ B bg) rfl t2;obtain⟨w2,s,a2,g,ew,k,m,aa,n⟩:=j.tell i _ (getD_some O);rw[N]at s;cases s;cases ew;obtain⟨r,xs,R,hp,hx,dl⟩:=n.at er;refine⟨a,g.map V.ref,ka,.ref r,rfl,rfl,fx.of m,?_,?_⟩
         .unfold v_
          rw[ON,<-n.len,ea];show(g.map V.ref)[ja]?=_;rw[OY,R];rfl
         .refine⟨p_ B bg,hE δ,β2,j.frA,j.viewA,.ok (.int kb),_,e3,λz x t3 hz=>?_⟩
          cases hz;obtain⟨p,s3⟩:=j.to (F:=p_ B bg) rfl t3;obtain⟨w3,h3,a3,t,T,U,u,W,A⟩:=p.tell i _ (getD_some O);rw[N]at h3;cases h3;cases T;have Y:g=t:=by
           have c:x a=on (.lst (g.map V.ref)):=t3.kp a _ m (λb l y=>⟨λw=>(by subst w;rw[(ok.bgt _ _ y).1]at k;cases k),λw=>(by subst w;rw[(ok.bgt _ _ y).2]at k;cases k)⟩);rw[u]at c;have k2:t.map V.ref=g.map V.ref:=by injection c with c;injection c
           exact(VX (λa b q=>by cases q;rfl)|>.mp k2).symm
          subst Y;obtain⟨r',C,I,ab,J,L⟩:=A.at er;rw[R]at I;cases I;have Z:c4 X.K (en B bg) x d v:=c4.tr (s3.tr) _ _ (c4.tr (S.tr) _ _ G);refine⟨r,C,kb,jb,rfl,rfl,J,by rw[<-L.length];exact eb,?_⟩;obtain⟨M,s4⟩:=p.writeRow (ds:=ds.set jb d) (xs:=C.set jb v) N U u W A R J (bb.set jb L Z);exact q _ _ _ (s1.trans (S.trans (s3.trans s4))) M
        .cases e
       .cases e
      .cases e
     .cases e
    .cases e
   .cases e
  .cases e
 .cases e
variable{e:Expr}{z:List Expr}
def o2(c:D->D->a0F)(f g:FD):FL:=λδ=>M.bind (f δ) λa=>M.bind (g δ) λb=>M.ofO (c a b)
noncomputable def Ite(K:Pk)(l:OS):It:=
 ⟨λi H=>∃a x,fx K H l a/\a[i]?=on x,
  λi H v u=>∃p x,H p=OO/\v= .ref p/\u=upd H p (.tup [.int (i:Int),x])/\∀a,fx K H l a->a[i]?=on x,
  λi H=>∃a,fx K H l a/\a.length=i⟩
theorem AA{P:PN}{w:PV}{K:Pk}{x1}{pos:Uh}(l e a:OS)(t:e≠a):
  oD P w K (.Tuple elts x1 pos) (Ite K l) [e,a] e (λi h=>(∃f,IsEnum h e a (i:Int) f)/\h.IsListIter a l i) where
 mem:=by simp
 obj:=λi h st b j=>by
  obtain⟨⟨f,m⟩,p⟩:=st;simp only[Pb,QL,TX]at j;rcases j with rfl|rfl
  .exact⟨_,m,λv q=>by cases q⟩
  .obtain⟨o,q,_,d⟩:=p
   exact⟨o,q,λv z=>by rw[d]at z;cases z⟩
 keep:=λi h B st k=>by
  obtain⟨⟨f,m⟩,p⟩:=st;exact⟨⟨f,k e (by simp) _ m⟩,p.at λo q=>k a (by simp) o q⟩
 item:=by
  intro X L N O hc i r s σ H E I y st Q;subst L N O;obtain⟨M,x,c,R⟩:=Q;obtain⟨⟨f,m⟩,p⟩:=st;obtain⟨g,r1,T⟩:=cp.src (b:=OT) I c;have D:=I.ok.hd hc;have S:l≠e:=cp.src_ne (b:=OT) I c (y e (by simp));have U:l≠a:=cp.src_ne (b:=OT) I c (y a (by simp));have V:i<g.toArray.size:=by
   rw[Pr,<-r1.length];exact(Pa.mp R).1
  refine wpAny_pyNext_enum_itemD (YD (show(X.A.in1).handled=OO from D) a l U g.toArray) m ⟨p,T⟩ V t (by simp[t,S.symm]) λu B W Z fo f1 fT sz G=>?_;refine⟨_,rfl,wpAny_letOwnedTupleGo_enum (s:={s with heap:=B,toks:=W+1}) fo λC F J=>?_⟩
  replace J:PQ e B C:=J
  have zT:s.heap.objs.size≠e:=RW (Ps m);obtain⟨u',Y,ru⟩:=r1.get R;have eu:u=u':=by
   have:g[i]?=on u:=by simpa using Z
   rw[this]at Y;exact PH Y
  subst eu;have kk:∀b o,b∉[e,a]->s.heap.get? b=on o->C.get? b=on o:=λb o j q=>by
   simp only[Pb,QL,TX,not_or]at j;exact J.extBut b o j.1 (G b o j.1 j.2 q)
  have I2:cp X r σ (upd H s.heap.objs.size (.tup [.int (i:Int),x])) {s with heap:=C,toks:=W+1}:=by
   refine cp.turnNew I y kk (O5 _) ⟨by show 2<=Pf;decide,[.int i W,u],.cons ⟨_,rfl⟩ (.cons ru .nil),_,J.extBut _ _ zT fT,rfl,_,rfl⟩
  refine⟨.ref s.heap.objs.size,_,I2,rfl,⟨s.heap.objs.size,x,I.hok.fresh (O5 _),rfl,rfl,λas h1=>by rw[cp.src_inj (b:=OT) I h1 c];exact R⟩,⟨⟨_,by simpa using F⟩,?_⟩,λb j=>?_⟩
  .exact f1.1.at λo q=>J.extBut _ _ t.symm q
  .rw[bt]
   .exact(y b j).1
   .intro q
    have ol:∃o,s.heap.get? b=on o:=by
     simp only[Pb,QL,TX]at j;rcases j with rfl|rfl
     .exact⟨_,m⟩
     .obtain⟨o,z,_⟩:=p;exact⟨o,z⟩
    obtain⟨o,z⟩:=ol;exact Px (Ps z) (by rw[q];exact Qh _)
 done:=by
  intro X L N O hc i r s σ H E I y st Q;subst L N O;obtain⟨M,c,hl⟩:=Q;obtain⟨⟨f,m⟩,p⟩:=st;obtain⟨g,r1,T⟩:=cp.src (b:=OT) I c;have D:=I.ok.hd hc;have U:l≠a:=cp.src_ne (b:=OT) I c (y a (by simp));have g1:g.toArray.size=i:=by rw[Pr,<-r1.length,hl]
  refine wpAny_pyNext_enum_endD (n:=g.toArray.size) (YD (show(X.A.in1).handled=OO from D) a l U g.toArray) m (by rw[g1];exact⟨p,T⟩) λB G=>⟨rfl,?_⟩;refine cp.turnL (t':=s.toks) I y λb o j q=>?_;simp only[Pb,QL,TX,not_or]at j;exact G b o j.2 q
 self:=λ_ _ _ _ _ st h=>by
  obtain⟨⟨f,m⟩,p⟩:=st;exact wpAny_pyIter_enum m h
def iEn(K:Pk)(g:TA):TI:=λσ H R=>g σ H λa f=>∃l b,a=[.ref l]/\fx K f l b/\R (Ite K l) f
theorem Jk{a:Expr}{p pos:Uh}{F}(n:Gl X "enumerate")(z:X.mg "enumerate"=OO)(B:PA X [a] J)(D:Pd [a] X.env=[(OW,Qp a X.env)]:=by rfl):
  PI X (.Tuple x F C) (.Call (.Name "enumerate" p) [a] [] pos) (iEn X.K J):=by
 intro f s σ H R I h;refine Call_ (fK I n z Boot.«enumerate» (QS (eg (B pos f s σ H _ I h) λG g ⟨M,k,j,r1,d⟩=>?_) (by rw[D];rfl) (by rfl)));obtain⟨l,P,e,d,q⟩:=d;subst e;cases r1 with
 |cons r o=>
  cases o;cases r;obtain⟨t,A,u⟩:=cp.src (b:=OT) j d;refine call_enumerate_list u λw m v S E=>?_;refine wpAny_pyIter_enum (s:={g with heap:=w}) m ?_;have y:cp X f σ k {g with heap:=w}:=j.kept (t':=g.toks) E;refine⟨_,[g.heap.objs.size+1,g.heap.objs.size],_,Ite X.K l,k,rfl,y,AA l (g.heap.objs.size+1) g.heap.objs.size (Nat.succ_ne_self _),⟨⟨_,m⟩,v⟩,λc hc=>?_,q⟩;have i:g.heap.objs.size<=c:=by
   simp only[Pb,QL,TX]at hc;rcases hc with rfl|rfl
   .exact Qu _ _
   .exact O5 _
  exact j.fpOk i (j.hok.fresh i)
noncomputable def cL:Nat->a0c->a0c
 |_,[]=>[]
 |n,x::xs=> .tup [.int (n:Int),x]::cL (n+1) xs
theorem m9:∀(n:Nat) (a:a0c),(cL n a).length=a.length
 |_,[]=>rfl
 |n,x::a=>by
  show(cL (n+1) a).length+1=a.length+1;rw[m9 (n+1) a]
theorem nc:∀{n:Nat} {b:a0c} {i:Nat} {d:D},(cL n b)[i]?=on d->∃x,b[i]?=on x/\d= .tup [.int ((n+i:Nat):Int),x]
 |n,[],i,d,h=>by simp[cL]at h
 |n,x::b,0,d,h=>by
  simp[cL]at h;exact⟨x,rfl,by rw[<-h];simp⟩
 |n,x::b,i+1,d,h=>by
  have c:(cL (n+1) b)[i]?=on d:=by simpa[cL]using h
  obtain⟨a,f,g⟩:=nc c;exact⟨a,by simpa using f,by rw[g,show n+1+i=n+(i+1) by lia]⟩
def Ik:a0c->a0F
 |[.lst xs]=>on (cL 0 xs)
 |_=>OO
theorem GD{H:Hp}(o:∀g f,Tr F H g f->∃a,fx K f l a/\bb K g f s a):y4 K (Ite K l) F H (cL 0 s):=λg f c t fr i=>by
 obtain⟨a,h,b⟩:=o g f t;refine⟨λd e=>?_,λj=>?_⟩
 .obtain⟨x,q,rfl⟩:=nc e
  obtain⟨u,k,w⟩:=b.get q;refine⟨⟨a,u,h,k⟩,λz y r=>?_⟩;obtain⟨p,A,m,rfl,rfl,v⟩:=r;have n:=v a h;rw[k]at n;cases n;rw[QR];exact⟨bP.upd m,c4.newT fr m (bb.cons rfl (bb.cons w bb.nil))⟩
 .rw[m9]at j
  exact⟨a,h,by rw[<-b.length,j]⟩
def HF(g:FL):FL:=dz Ik g
theorem mZ{a:Expr}{p pos:Uh}{J}(q:Gl X "enumerate")(c:X.mg "enumerate"=OO)(d:PA X [a] (i4 X.K g E))(w:Pd [a] X.env=[(OW,Qp a X.env)]:=by rfl):
  PI X (.Tuple s J x) (.Call (.Name "enumerate" p) [a] [] pos) (iV X.K (HF g) E):=
 (Jk q c d w).imp λσ H R j=>lm j λF δ β fr r h=>⟨F,δ,β,fr,r,(run.bind (R:=bb X.K F) h).mono λP f j=>by
  obtain⟨S,B,t,D,r1⟩:=j;obtain⟨l,e,k⟩:=run.ofO r1;unfold Ik at e;split at e
  .rename_i xs
   cases e;obtain⟨v,rfl,o⟩:=bb.one D;have z:∃a,v= .ref a/\∀m i,Tr F f m i->∃b,fx X.K i a b/\bb X.K m i xs b:=by
    obtain⟨a,b,rfl,_⟩:=c4.sqL o;refine⟨a,rfl,λm i u=>?_⟩;obtain⟨I,n,y,G,A⟩:=c4.sqL (c4.tr u _ _ o);cases y;exact⟨n,G,A⟩
   obtain⟨a,rfl,z⟩:=z;obtain⟨M,C,_⟩:=z F f (Tr.refl F f);exact⟨a,M,rfl,C,k _ f (To.refl t.fr) (GD z)⟩
  .cases e⟩
def eK(K:Pk)(g:Pp)(b:a0i)(c:a0c):Prop:=∃a f,cA K g b a/\aw f a/\∀F H,bb K F H c f
inductive Sr (α:Type) where
 |kw (j:Nat)|df (a:α)
noncomputable def Sr.pick{b:Type}(z:b)(f:List b):Sr b->b
 | .kw j=>f.getD j z
 | .df a=>a
def gK{a:Type}(z:a)(n k:Nat)(b:List (Sr a))(c f:List a):List a:=if c.length=n/\f.length=k then c++b.map (Sr.pick z f)else[]
inductive lK {α γ:Type} (R:α->γ->Prop):List (Sr α)->List (Sr γ)->Prop where
 |nil:lK R [] []
 |kw {j:Nat} {a:List (Sr α)} {c:List (Sr γ)}:lK R a c->lK R (.kw j::a) (.kw j::c)
 |df {x:α} {y:γ} {a:List (Sr α)} {c:List (Sr γ)}:R x y->lK R a c->lK R (.df x::a) (.df y::c)
theorem aw.getD:∀{f:a0k} {g:a0g} (j:Nat),aw f g->aO (f.getD j .non) (g.getD j .none)
 |_,_,_,.nil=>rfl
 |_,_,0,.cons r _=>r
 |_,_,j+1,.cons _ t=>aw.getD j t
theorem lK.vals(r:aw zs ws):∀{a:List (Sr V)} {c:List (Sr OX)},lK aO a c->aw (a.map (Sr.pick .non zs)) (c.map (Sr.pick .none ws))
 |_,_,.nil=> .nil
 |_,_,.kw (j:=j) h=> .cons (aw.getD j r) (lK.vals r h)
 |_,_,.df q h=> .cons q (lK.vals r h)
theorem bb.getD{K:Pk}{H:Hp}:∀{ds:a0c} {f:a0k} (j:Nat),bb K F H ds f->c4 K F H (ds.getD j .non) (f.getD j .non)
 |[],f,j,h=>by have q:f=[]:=h;subst q;rfl
 |d::ds,f,0,h=>by
  obtain⟨x,r,e,g,i⟩:=h;subst e;exact g
 |d::ds,f,j+1,h=>by
  obtain⟨x,r,e,g,i⟩:=h;subst e;exact bb.getD j i
theorem lK.den{K:Pk}{H:Hp}(r:bb K F H f zs):∀{a:List (Sr D)} {c:List (Sr V)},lK (λd v=>∀F H,c4 K F H d v) a c->bb K F H (a.map (Sr.pick .non f)) (c.map (Sr.pick .non zs))
 |_,_,.nil=>bb.nil
 |_,_,.kw (j:=j) h=>bb.cons (bb.getD j r) (lK.den r h)
 |_,_,.df q h=>bb.cons (q F H) (lK.den r h)
theorem lK.len{b f:Type}{R:b->f->Prop}:∀{a:List (Sr b)} {c:List (Sr f)},lK R a c->a.length=c.length
 |_,_,.nil=>rfl
 |_,_,.kw h=>by rw[Pg,Pg,lK.len h]
 |_,_,.df _ h=>by rw[Pg,Pg,lK.len h]
structure H_ (K:Pk) (fd:Pp) (ps ks:a0i) (n:Nat) (src:List (Sr D)):Prop where
 ex:∃(sv:List (Sr OX)) (sx:List (Sr V)),lK aO sx sv/\lK (λd v=>∀F H,c4 K F H d v) src sx/\∀(s:O3) (us ws:a0g),K.In s.heap->us.length=n->ws.length=ks.length->V8 s fd ⟨us,ks.zip ws⟩ (ps.zip (us++sv.map (Sr.pick .none ws)))
 len:ps.length=n+src.length
 pos:0<ps.length
theorem H_.kb{K:Pk}{e a:a0i}(h:H_ K p e a n src):∃(c:List (Sr OX)) (f:List (Sr V)),lK (λd v=>∀F H,c4 K F H d v) src f/\Ic K p e a (gK .none n a.length c) (gK .non n a.length f):=by
 obtain⟨c,f,r1,l,b⟩:=h.ex;refine⟨c,f,l,λs u k m g=>?_,λ{w u o k} i j=>?_⟩
 .unfold gK at g⊢
  split at g
  .rename_i q
   rw[O0 q];exact b s u k m q.1 q.2
  .exact Px g (by have:=h.pos;simp;lia)
 .unfold gK
  by_cases q:w.length=n/\o.length=a.length
  .rw[O0 q,O0 (by rw[<-i.length,<-j.length];exact q)]
   exact i.append (lK.vals j r1)
  .rw[O1 q,O1 (by rw[<-i.length,<-j.length];exact q)]
   exact .nil
variable{p b:Uh}{x:PX}{k n:Nat}{f:OS}{d:Pp}{c ks:a0i}{a:List Wc}{B:Option PX}
def MF(m:a0c->M D)(g:FL)(a:a0c):FD:=λδ=>M.bind (g δ) λb=>m (b++a)
theorem IJ{a:a0c}(G:et X.prog X.w X.K X.mg X.base (gs X.prog X.w) k f d c (Im X.K n m))(v:ej k X.A)(y:Gl X x)(S:X.mg x=on (.ref f))(I:U7 X.K (.ref f)=OT)(J:eK X.K d c a)(L:bV (gs X.prog X.w) X E)
  (V:PA X (e::z) (i4 X.K g E)) (s:∀δ β r P,g δ β=on (.ok r,P)->r.length+a.length=n) (h:b0c x:=by decide) (N:b0a X e z:=by rfl) (i:b0b X pos z:=by rfl):
  PE X (.Call (.Name x p) (e::z) [] pos) (tV X.K (MF m g a) E):=by
 obtain⟨ds,O,b,T,D⟩:=J;refine(oi G v y S I b T L V h N i).imp λσ H Q U=>lm U λF δ β fr W r=>⟨F,δ,β,fr,W,?_⟩;obtain⟨r0,j,q,u⟩:=run.bind (R:=bb X.K F) r;refine⟨r0,j,q,?_⟩;cases r0 with
 |error C=>exact u
 |ok as=>
  intro vs l t M;obtain⟨d',B,Y,o,r1⟩:=u vs l t M;have Z:=s _ _ _ _ q;have hz:=(D F l).length;refine⟨by rw[Pl,<-M.length,<-hz,Z],F,d'++a,B,Y.fr,bb.append o (D F l),run.toE r1⟩
theorem Ki:PK X [] (i4 X.K aK E):=λpos g s σ H Q I h=>by obtain⟨F,δ,β,fr,i,r⟩:=h;exact Lh pos g s σ H Q I (run.ret fr r bb.nil)
theorem IB{f:FD}(k:PE X e (tV X.K f E))(m:PK X a (i4 X.K g E)):PK X (⟨B,e,b⟩::a) (i4 X.K (aj f g) E):=λpos h s σ H Q I ⟨F,δ,β,fr,j,r⟩=>
 Ji k m pos h s σ H Q I ⟨F,δ,β,fr,j,(run.bind (R:=c4 X.K F) r).mono λv u ⟨d,c,t,n,r1⟩=>
  ⟨F,δ,c,t.fr,j.tr (t.tr fr),(run.bind (R:=bb X.K F) r1).mono λw y o=>pa o λx p l i q=>run.ret l.fr q (bb.cons (c4.tr (l.tr t.fr) _ _ n) i)⟩⟩
theorem sD{b:FL}{δ:Dn}{β a c:Bg}{e d:a0c}(g:j δ β=on (.ok e,a))(h:oa l m b e (lg q cx δ) a=on (.ok d,c))(i:d.length<=Pf):c7 q cx j l m b δ β=on (.ok (.lst d),c):=by
 unfold c7;simp only[g,h,i,Qm]
def Gw(g:G)(δ:Ds)(β:Bg)(Q:a0z):Prop:=∃o P,g δ β=on (o,P)/\Q o P
end
section
variable{g h a b s p:G}{δ δ1:Ds}{β β1 β2 β3:Bg}{Q R:a0z}{i:Nat}{f q u v:FD}{fl:FL}{j:Dn->M a0u}{d x y z:D}{ds as:a0c}{t:a0q}{c:Bool}{C:OS}{K:Pk}
theorem Gw.mono(k:Gw g δ β R)(q:∀o β,R o β->Q o β):Gw g δ β Q:=let ⟨o,β',e,r⟩:=k;⟨o,β',e,q _ _ r⟩
theorem IZ:aJ g gNil=g:=by
 funext δ β;unfold aJ gNil;split
 .rename_i δ1 β1 e;exact e.symm
 .rfl
theorem ai(k:Gw (aJ g gNil) δ β Q):Gw g δ β Q:=by rw[IZ]at k;exact k
theorem aR(q:Q (.nx δ) β):Gw gNil δ β Q:=⟨_,_,rfl,q⟩
theorem dF(e:g δ β=on (.nx δ1,β1))(k:Gw h δ1 β1 Q):Gw (aJ g h) δ β Q:=by
 obtain⟨o,j,l,q⟩:=k;exact⟨o,j,by unfold aJ;rw[e];exact l,q⟩
theorem wV(k:Gw (aJ a (aJ b h)) δ β Q):Gw (aJ (aJ a b) h) δ β Q:=by
 obtain⟨o,j,l,q⟩:=k;refine⟨o,j,?_,q⟩;rw[<-l];unfold aJ;split<;>rename_i e<;>(split at e<;>simp_all)
theorem bw(k:Gw h δ β Q):Gw (aJ gNil h) δ β Q:=dF rfl k
theorem Hb(k:Gw g (fz i δ) β Q):Gw (fzG i g) δ β Q:=k
theorem aA(e:f (vw δ) β=on (.ok d,β1))(k:Gw h (δ.set i (on (.sh d))) β1 Q):Gw (aJ (iB i f) h) δ β Q:=dF (by unfold iB;rw[e]) k
theorem zX(e:g δ β=on (.ex C δ1,β1))(q:Q (.ex C δ1) β1):Gw (aJ g h) δ β Q:=⟨_,_,by unfold aJ;rw[e],q⟩
theorem cU(e:f (hE δ) β=on (.ok d,β1))(k:Gw h δ β1 Q):Gw (aJ (gR f) h) δ β Q:=dF (by unfold gR;rw[e]) k
theorem eY(e:f (hE δ) β=on (.error C,β1))(q:Q (.ex C δ) β1):Gw (aJ (gR f) h) δ β Q:=zX (by unfold gR;rw[e]) q
theorem j7(e:t (hE δ) β=on (.ok c,β1))(k:Gw (aJ (if c=OT then s else p) h) δ β1 Q):Gw (aJ (B_ t s p) h) δ β Q:=by
 obtain⟨o,j,l,q⟩:=k;refine⟨o,j,?_,q⟩;rw[<-l];unfold aJ B_;rw[e];cases c<;>rfl
theorem M5(e:t (hE δ) β=on (.ok OT,β1))(k:Gw (aJ s h) δ β1 Q):Gw (aJ (B_ t s p) h) δ β Q:=j7 e k
theorem f8(e:t (hE δ) β=on (.ok OW,β1))(k:Gw (aJ p h) δ β1 Q):Gw (aJ (B_ t s p) h) δ β Q:=j7 e k
theorem aI(e:f (hE δ) β=on (.ok d,β1))(q:Q (.rt d) β1):Gw (aJ (jw f) h) δ β Q:=⟨_,_,by unfold aJ jw;rw[e],q⟩
theorem Iz(e:j (vw δ) β=on (.ok ba,β1))(q:Q (.rg ba) β1):Gw (aJ (m5 j) h) δ β Q:=⟨_,_,by unfold aJ m5;rw[e],q⟩
theorem IA(e:fl (hE δ) β=on (.ok ds,β1))(q:Q (.ex C δ) β1):Gw (aJ (qZ C fl) h) δ β Q:=zX (by unfold qZ;rw[e]) q
theorem Ha{ba:a0u}(e:j (vw δ) β=on (.ok ba,β1))(a:ba.all noLs=OT)(k:Gw h (δ.set i (on (.grd ba))) β1 Q):Gw (aJ (wb i j) h) δ β Q:=dF (by unfold wb;simp only[e,a,Qm]) k
theorem G9{ba:a0u}(e:v (hE δ) β=on (.ok d,β1))(j:q (hE δ) β1=on (.ok (.int ka),β2))(l:u (hE δ) β2=on (.ok (.int kb),β3))(m:δ.getD i OO=on (.grd ba))
  (n:s9 ba.length ka=on ja) (o:ba[ja]?=on ds) (p:s9 ds.length kb=on jb) (a:noL d=OT) (k:Gw h (δ.set i (on (.grd (ba.set ja (ds.set jb d))))) β3 Q):Gw (aJ (q8 i q u v) h) δ β Q:=
 dF (by unfold q8;simp only[e,j,l,m,n,o,p,a,Qm]) k
theorem um(e:fl (vw δ) β=on (.ok ds,β1))(j:ds.length<=Pf)(k:Gw h (δ.set i (on (.own ds))) β1 Q):Gw (aJ (zm i fl) h) δ β Q:=dF (by unfold zm;simp only[e,j,Qm]) k
theorem uo{cs:a0c}(j:δ.getD i OO=on (.own cs))(e:fl (vw δ) β=on (.ok [d],β1))(l:cs.length<Pf)(k:Gw h (δ.set i (on (.own (cs++[d])))) β1 Q):Gw (aJ (zr i fl) h) δ β Q:=
 dF (by unfold zr;simp only[j,e,l,Qm]) k
theorem jF(e:f (vw δ) β=on (.ok d,β1))(j:l d δ=on δ1)(k:Gw h δ1 β1 Q):Gw (aJ (zq f l) h) δ β Q:=dF (by unfold zq;simp only[e,j,Ra]) k
theorem nR(k:Gw g δ β (λo β1=>match o with| .nx δ1=>Gw h δ1 β1 Q| .ex C δ1=>Gw (aJ (hd C) h) δ1 β1 Q|o=>Q o β1)):Gw (aJ (lP g hd) h) δ β Q:=by
 obtain⟨o,e,j,q⟩:=k;cases o with
 |nx δ1=>exact dF (by unfold lP;rw[j]) q
 |ex C δ1=>
  obtain⟨o,β2,l,a⟩:=q;refine⟨o,β2,?_,a⟩;rw[<-l];unfold aJ lP;rw[j]
 |_=>exact⟨_,e,by unfold aJ lP;rw[j],q⟩
theorem Fd(e:ZA K (.ref C) (.ref Dc)=on OT)(k:Gw (aJ g h) δ β Q):Gw (aJ (pR K Dc g r C) h) δ β Q:=by
 obtain⟨o,j,l,q⟩:=k;refine⟨o,j,?_,q⟩;rw[<-l];unfold aJ pR;rw[e]
def Tn(I:Ds->Bg->Prop)(h:G)(Q:a0z):si->Bg->Prop:=λo β=>match o with
 | .nx δ=>I δ β
 | .ct δ=>I δ β
 | .bk δ=>Gw h δ β Q
 |o=>Q o β
theorem bD(e:it δ β=on (.ok ds,β1))(u:Nat->Ds->Bg->Prop)(N:u 0 δ β1)(b:∀i d δ β,ds[i]?=on d->u i δ β->∃δ1,tg d δ=on δ1/\Gw g δ1 β (Tn (u (i+1)) h Q))(k:∀δ β,u ds.length δ β->Gw h δ β Q):
  Gw (aJ (q9 it tg g) h) δ β Q:=by
 have c:∀(a:a0c) (j:Nat) (δ:Ds) (β:Bg),a=ds.drop j->j+a.length=ds.length->u j δ β->Gw (aJ (o_ tg g a) h) δ β Q:=by
  intro a
  induction a with
  |nil=>
   intro j δ β _ B F;simp at B;exact dF (g:=o_ tg g []) rfl (k δ β (B▸F))
  |cons d a s=>
   intro j δ β L B F;have O:ds[j]?=on d:=by
    have:=Qo (λl=>l[0]?) L;simpa[Y2]using this.symm
   obtain⟨δ1,v,o,β2,A,q⟩:=b j d δ β O F;have H:a=ds.drop (j+1):=by
    have:=Qo List.tail L;simpa[List.tail_drop]using this
   have f:∀m,u (j+1) m β2->Gw (aJ (o_ tg g a) h) m β2 Q:=λm I=>s (j+1) m β2 H (by simp at B;lia) I;have n:∀{r:G} {m:Ds},Gw (aJ r h) m β2 Q->o_ tg g (d::a) δ β=r m β2->Gw (aJ (o_ tg g (d::a)) h) δ β Q:=λ{r m} ⟨T,p,J,U⟩ W=>⟨T,p,by rw[<-J];unfold aJ;rw[W],U⟩;cases o with
   |nx m=>exact n (r:=o_ tg g a) (f m q) (by rw[o_];simp only[v,A])
   |ct m=>exact n (r:=o_ tg g a) (f m q) (by rw[o_];simp only[v,A])
   |bk m=>exact n (r:=gNil) (bw q) (by rw[o_];simp only[v,A];rfl)
   |rt d'=>exact⟨_,β2,by unfold aJ;rw[o_];simp only[v,A],q⟩
   |rg d'=>exact⟨_,β2,by unfold aJ;rw[o_];simp only[v,A],q⟩
   |ex C m=>exact⟨_,β2,by unfold aJ;rw[o_];simp only[v,A],q⟩
 obtain⟨o,p,J,q⟩:=c ds 0 δ β1 (by simp) (by simp) N;refine⟨o,p,?_,q⟩;rw[<-J];unfold aJ q9;rw[e]
theorem nE{S:Except OS D->Bg->Prop}(k:Gw g (o1 n ds) β (λo j=>match o with| .rt d=>S (.ok d) j| .nx _=>S (.ok .non) j| .ex C _=>S (.error C) j|_=>False)):∃r j,fq n g ds β=on (r,j)/\S r j:=by
 obtain⟨o,j,e,q⟩:=k;cases o with
 |rt d=>exact⟨.ok d,j,by unfold fq;rw[e],q⟩
 |nx δ=>exact⟨.ok .non,j,by unfold fq;rw[e],q⟩
 |ex C δ=>exact⟨.error C,j,by unfold fq;rw[e],q⟩
 |_=>exact q.elim
theorem J8{S:a0u->Bg->Prop}(k:Gw g (o1 n ds) β (λo j=>match o with| .rg d=>S d j|_=>False)):∃r j,oO n g ds β=on (.ok r,j)/\S r j:=by
 obtain⟨o,j,e,q⟩:=k;cases o with
 |rg d=>exact⟨d,j,by unfold oO;rw[e],q⟩
 |_=>exact q.elim
theorem aB(k:Gw g (o1 n ds) β (λo j=>j=β/\(match o with| .rt d=>r= .ok d| .nx _=>r= .ok .non| .ex C _=>r= .error C|_=>False))):fq n g ds β=on (r,β):=by
 obtain⟨l,j,e,a,b⟩:=nE (S:=λl j=>j=β/\r=l) (n:=n) (ds:=ds) (β:=β) (k.mono λo j h=>by
  cases o<;>first|exact h|exact h.2)
 subst a b;exact e
theorem J9(k:Gw g (o1 n ds) β (λo j=>j=β/\(match o with| .rg d=>r=d|_=>False))):oO n g ds β=on (.ok r,β):=by
 obtain⟨l,j,e,a,b⟩:=J8 (S:=λl j=>j=β/\r=l) (n:=n) (ds:=ds) (β:=β) (k.mono λo j h=>by
  cases o<;>first|exact h|exact h.2)
 subst a b;exact e
theorem af{δ:Dn}(e:fl δ β=on (.ok as,β1))(j:m as β1=on r):d7 m fl δ β=on r:=by unfold d7 M.bind;rw[e];exact j
theorem Ix{δ:Dn}(e:fl δ β=on (.ok as,β1))(j:m as β1=on r):wo m fl δ β=on r:=by unfold wo M.bind;rw[e];exact j
theorem dq{δ:Dn}(e:q δ β=on (.ok x,β1))(j:u δ β1=on (.ok y,β2))(k:op x y=on z):f2 op q u δ β=on (.ok z,β2):=by unfold f2 M.bind;rw[e];simp only[j,M.ofO,k]
theorem x_1{δ:Dn}(e:q δ β=on (.ok x,β1))(j:op x=on z):f1 op q δ β=on (.ok z,β1):=by unfold f1 M.bind;rw[e];simp only[M.ofO,j]
theorem ag{δ:Dn}(e:fl δ β=on (.ok as,β1))(j:op as=on z):aT op fl δ β=on (.ok z,β1):=by unfold aT M.bind;rw[e];simp only[M.ofO,j]
theorem aa{δ:Dn}(e:q δ β=on (.ok x,β1))(j:fl δ β1=on (.ok as,β2)):aj q fl δ β=on (.ok (x::as),β2):=by unfold aj M.bind;rw[e];simp only[j,M.ret]
theorem bK{δ:Dn}(e:fl δ β=on (.ok as,β1))(j:op as=on ds):dz op fl δ β=on (.ok ds,β1):=by unfold dz M.bind;rw[e];simp only[j,M.ofO]
theorem dm{δ:Dn}(e:q δ β=on (.ok x,β1))(j:fM x=on ds):d6 q δ β=on (.ok ds,β1):=by unfold d6 M.bind;rw[e];simp only[j,M.ofO]
theorem hO{δ:Dn}(e:q δ β=on (.ok (.bl c),β1)):fB q δ β=on (.ok c,β1):=by unfold fB M.bind;rw[e];rfl
theorem kY{δ:Dn}(e:q δ β=on (.ok x,β1))(j:Fi x=on c):wk q δ β=on (.ok c,β1):=by unfold wk M.bind;rw[e];simp only[M.ofO,j]
theorem jE{δ:Dn}(e:t δ β=on (.ok c,β1)):zy t δ β=on (.ok (!c),β1):=by unfold zy M.bind;rw[e];rfl
theorem bS(a:β.ok)(k:0<lot)(l:lot<1073741824):∃v e,jX [.bag,.int lot] β=on (.ok (.int v),e)/\0<=v/\v<lot/\e.ok:=by
 obtain⟨b,c,j⟩:=xo a k;exact⟨_,_,Gi a k l,b,c,j⟩
theorem mX{n:Nat}{k:Int}(e:0<=k)(j:k<n):s9 n k=on k.toNat:=by unfold s9;rw[O0 e,O0 j]
theorem DF{k:Int}{d:D}(e:0<=k)(h:l[k.toNat]?=on d):j0 (.lst l) (.int k)=on d:=by
 have j:k.toNat<l.length:=(Pa.mp h).1;show v_ l k=on d;unfold v_;rw[mX e (by lia)];exact h
theorem lJ{x y:D}:j0 (.tup [x,y]) (.int 0)=on x:=rfl
theorem mW{x y:D}:j0 (.tup [x,y]) (.int 1)=on y:=rfl
end
section
variable{β β1 β2:Bg}{f g h i:FD}{t u:a0q}{δ:Dn}{c e:Bool}{x y z w:Int}{d:D}
theorem qa(a:t δ β=on (.ok OW,β1))(b:u δ β1=on (.ok e,β2)):su t u δ β=on (.ok e,β2):=by
 unfold su M.bind;rw[a];simp[b]
theorem wP(a:f δ β=on (.ok (.bl OT),β1))(b:g δ β1=on (.ok d,β2)):lS f g δ β=on (.ok d,β2):=by
 unfold lS M.bind;rw[a];simp[asB,M.ofO,b]
theorem Iw(a:f δ β=on (.ok (.bl OW),β1)):lS f g δ β=on (.ok (.bl OW),β1):=by
 unfold lS M.bind;rw[a];simp[asB,M.ofO,M.ret]
theorem wQ(a:f δ β=on (.ok (.bl c),β))(b:g δ β=on (.ok (.bl e),β)):lS f g δ β=on (.ok (.bl (c&&e)),β):=by
 cases c
 .exact Iw a
 .exact wP a b
theorem le_int:ZI (.int x) (.int y)=on (.bl (decide (x<=y))):=rfl
theorem lt_int:Z3 (.int x) (.int y)=on (.bl (decide (x<y))):=rfl
theorem gt_int:gtD (.int x) (.int y)=on (.bl (decide (y<x))):=rfl
theorem ge_int:geD (.int x) (.int y)=on (.bl (decide (y<=x))):=rfl
theorem wR(a:f δ β=on (.ok (.int x),β))(b:g δ β=on (.ok (.int y),β))(j:h δ β=on (.ok (.int z),β)):kR ZI ZI f g h δ β=on (.ok (.bl (decide (x<=y)&&decide (y<=z))),β):=by
 unfold kR M.bind;rw[a];simp only[b,le_int,M.ofO,asB];by_cases q:x<=y
 .simp only[q,decide_true,Qm,j,le_int,T6]
 .simp only[q,YT,Pq,Qq,M.ret,TD]
theorem Fb(a:f δ β=on (.ok (.int x),β))(b:g δ β=on (.ok (.int y),β))(j:h δ β=on (.ok (.int z),β))(k:i δ β=on (.ok (.int w),β)):oM ZI ZI ZI f g h i δ β=on (.ok (.bl (decide (x<=y)&&decide (y<=z)&&decide (z<=w))),β):=by
 unfold oM Ij M.bind;rw[a];simp only[b,le_int,M.ofO,asB];by_cases q:x<=y
 .simp only[q,decide_true,Qm,j,le_int,T6]
  by_cases c:y<=z
  .simp only[c,decide_true,Qm,k,le_int,T6]
  .simp only[c,YT,Pq,Qq,M.ret,TD]
 .simp only[q,YT,Pq,Qq,M.ret,TD]
theorem CV{x:Int}(a:-1000000<=x)(b:x<=1000000):x.natAbs.log2<1920:=by
 have h:x.natAbs<2^20:=by lia
 by_cases z:x.natAbs=0
 .rw[z];decide
 .have:=(YI z).mpr h
  lia
theorem Kd(a:f δ β=on (.ok (.int x),β))(b:-1000000<=x)(k:x<=1000000)(l:j δ β=on (.ok (),β)):zb f j δ β=on (.ok (),β):=by
 unfold zb M.bind;rw[a];simp only[CV b k,Qm,l]
theorem Kf(a:j δ β=on (.ok (),β)):zA j δ β=on (.ok .txt,β):=by
 unfold zA M.bind;rw[a];rfl
theorem M4{g h:G}{δ:Ds}{β:Bg}(P:Ds->Bg->Prop)(d:Gw g δ β (λo β1=>∃c,o= .nx c/\P c β1))(f:∀c β1,P c β1->Gw h c β1 Q):Gw (aJ g h) δ β Q:=by
 obtain⟨o,β1,e,c,rfl,p⟩:=d;exact dF e (f c β1 p)
theorem zY{δ:Ds}{β:Bg}{P:Ds->Bg->Prop}(p:P δ β):Gw gNil δ β (λo β1=>∃c,o= .nx c/\P c β1):=aR ⟨_,rfl,p⟩
noncomputable abbrev gI(ba:LI):a0u:=ba.map λr=>r.map D.int
noncomputable abbrev lG(c:a0u):D:= .lst (c.map D.lst)
abbrev bN(ba:LI):D:=lG (gI ba)
noncomputable def pD(p:Int×Int):D:= .tup [.int p.1,.int p.2]
abbrev gP(b:LP):a0u:=b.map λr=>r.map pD
abbrev dE(b:LP):D:=lG (gP b)
def jn{e:Type}(r c:Nat)(m:List (List e)):Prop:=m.length=r/\∀d∈m,d.length=c
noncomputable def tot(ba:LI):Int:=(ba.map QZ).sum
theorem bo(h:n<=1000):n<=Pf:=O4 h (by decide)
theorem jT:∀r:a0e,noLs (r.map D.int)=OT
 |[]=>rfl
 |x::r=>by
  show(noL (.int x)&&noLs (r.map D.int))=OT;rw[jT r];rfl
theorem qM:∀r:List (Int×Int),noLs (r.map pD)=OT
 |[]=>rfl
 |x::r=>by
  show(noL (pD x)&&noLs (r.map pD))=OT;rw[qM r];rfl
theorem LJ(b:LP):(gP b).all noLs=OT:=by
 rw[SW];intro x a;obtain⟨r,_,rfl⟩:=Pe.mp a;exact qM r
theorem jn.map{d a:Type}{f:d->a}{r c:Nat}{m:List (List d)}(h:jn r c m):jn r c (m.map λx=>x.map f):=⟨by rw[ON,h.1],λe b=>by
 obtain⟨x,j,rfl⟩:=Pe.mp b;rw[ON];exact h.2 x j⟩
theorem jn.set{d:Type}{r c i j:Nat}{m:List (List d)}{row:List d}{v:d}(h:jn r c m)(b:m[i]?=on row):jn r c (m.set i (row.set j v)):=⟨by rw[QG,h.1],λx a=>by
 rcases Rt a with a|rfl
 .exact h.2 x a
 .rw[QG];exact h.2 row (Pj b)⟩
theorem jn.at{d:Type}{r c i:Nat}{m:List (List d)}(h:jn r c m)(b:i<r):∃row,m[i]?=on row/\row.length=c:=by
 have a:i<m.length:=by rw[h.1];exact b
 exact⟨m[i],OV a,h.2 _ (P3 a)⟩
theorem Io{c:Type}{l:List c}{i:Nat}(h:i<l.length):∃x,l[i]?=on x:=⟨l[i],OV h⟩
theorem kB:∀{c:a0e} {j:Nat} {x v:Int},c[j]?=on x->(c.set j v).sum=c.sum-x+v
 |[],j,x,v,h=>by simp at h
 |y::c,0,x,v,h=>by
  simp at h;subst h;simp only[List.set_cons_zero,PD];lia
 |y::c,j+1,x,v,h=>by
  have d:c[j]?=on x:=by simpa using h
  simp only[List.set_cons_succ,PD,kB d];lia
theorem IL{ba:LI}{i j:Nat}{row:a0e}{x v:Int}(a:ba[i]?=on row)(b:row[j]?=on x):tot (ba.set i (row.set j v))=tot ba-x+v:=by
 unfold tot;rw[Us,kB (x:=row.sum) (by rw[OY,a];rfl),kB b];lia
theorem LK{ba:LI}{i j:Nat}{row:a0e}(h:∀r∈ba,∀x∈r,0<=x)(k:ba[i]?=on row)(l:0<=v):∀r∈ba.set i (row.set j v),∀x∈r,0<=x:=λr a x b=>by
 rcases Rt a with a|rfl
 .exact h r a x b
 .rcases Rt b with b|rfl
  .exact h row (Pj k) x b
  .exact l
theorem ml:∀{xs:a0e},(∀x∈xs,0<=x)->0<=xs.sum
 |[],_=>by simp
 |y::xs,h=>by
  have:=ml (xs:=xs) λx a=>h x (OR _ a);have:=h y OZ;simp only[PD];lia
theorem vX:∀{xs:a0e},(∀x∈xs,0<=x)->∀x∈xs,x<=xs.sum
 |[],_,x,hx=>by cases hx
 |y::xs,h,x,hx=>by
  have:=ml (xs:=xs) λx hx=>h x (OR _ hx);have:=h y OZ;rcases Pb.mp hx with rfl|hx
  .simp only[PD];lia
  .have:=vX (xs:=xs) (λx hx=>h x (OR _ hx)) x hx
   simp only[PD];lia
theorem LX(h:∀r∈ba,∀x∈r,0<=x):∀r∈ba,∀x∈r,x<=tot ba:=λr a x b=>by
 have k:=vX (h r a) x b;have l:=vX (xs:=ba.map QZ) (λs c=>by
  obtain⟨q,j,rfl⟩:=Pe.mp c;exact ml (h q j)) r.sum (Pe.mpr ⟨r,a,rfl⟩)
 unfold tot;lia
structure ZK (r c:Nat) (ba:LI):Prop where
 shp:jn r c ba
 nn:∀row∈ba,∀x∈row,0<=x
 tot:tot ba<=40
 r0:1<=r
 r1:r<=4
 c0:1<=c
 c1:c<=6
theorem e9(c:a0e):gc [.lst (c.map D.int)]=on (.int c.sum):=by
 show((dS (c.map D.int)).map λl=>D.int l.sum)=_;have:∀c:a0e,dS (c.map D.int)=on c:=λc=>by
  induction c with
  |nil=>rfl
  |cons n c d=>simp[dS,d]
 rw[this];rfl
theorem F0{n:Int}(a:0<=n)(h:n<=10^9):gz [.int n]=on (aZ 0 n.toNat):=by
 have q:(decide (-(2^62)<=n)&&decide (n<2^62))=OT:=by
  simp only[PL,P9];lia
 show(if(decide (-(2^62)<=n)&&decide (n<2^62))=OT then on (aZ 0 n.toNat)else OO)=_;rw[O0 q]
theorem yz{d:D}(h:(aZ 0 n)[k]?=on d):k<n/\d= .int (k:Int):=by
 unfold aZ at h;have a:k<n:=by
  have:=(Pa.mp h).1;simpa using this
 rw[OY,Qr a]at h;exact⟨a,by cases h;simp⟩
theorem qA(n:Nat):(aZ 0 n).length=n:=by simp[aZ]
theorem bi{e:Type}{f:FD}{δ:Dn}{β:Bg}(d:List e)(u v:e->D)(a:it δ β=on (.ok (d.map u),β))
  (b:∀x∈d,∃c,tg (u x) (lg nv cx δ)=on c/\f c β=on (.ok (v x),β)) (j:d.length<=Pf):c7 nv cx it tg (λ_=>M.ret OT) (lk f) δ β=on (.ok (.lst (d.map v)),β):=by
 refine sD a ?_ (by rw[ON];exact j);have g:∀d:List e,(∀x∈d,∃c,tg (u x) (lg nv cx δ)=on c/\f c β=on (.ok (v x),β))->oa tg (λ_=>M.ret OT) (lk f) (d.map u) (lg nv cx δ) β=on (.ok (d.map v),β):=by
  intro d
  induction d with
  |nil=>intro _;rfl
  |cons x d i=>
   intro h;obtain⟨c,k,l⟩:=h x OZ;have m:=i λy n=>h y (OR _ n);rw[O9,oa];simp only[k,M.bind,M.ret,reduceIte,lk,l,m,O9,SX,RM]
 exact g d b
theorem tW{e:Type}{f:FL}{δ:Dn}{β:Bg}(d:List e)(u:e->D)(v:e->a0c)(a:it δ β=on (.ok (d.map u),β))
  (b:∀x∈d,∃c,tg (u x) (lg nv cx δ)=on c/\f c β=on (.ok (v x),β)) (j:d.length<=Pf):jx nv cx it tg (λ_=>M.ret OT) (wD f) δ β=on (.ok (d.map v),β):=by
 have g:∀d:List e,(∀x∈d,∃c,tg (u x) (lg nv cx δ)=on c/\f c β=on (.ok (v x),β))->pY tg (λ_=>M.ret OT) (wD f) (d.map u) (lg nv cx δ) β=on (.ok (d.map v),β):=by
  intro d
  induction d with
  |nil=>intro _;rfl
  |cons x d i=>
   intro h;obtain⟨c,k,l⟩:=h x OZ;have m:=i λy n=>h y (OR _ n);rw[O9,pY];simp only[k,M.bind,M.ret,reduceIte,wD,l,m,O9,SX,RM]
 unfold jx;simp only[a,g d b,ON,j,Qm]
theorem EG{e:Type}{f:FD}{δ:Dn}{β:Bg}(d:List e)(u:e->D)(v:e->D)(a:it δ β=on (.ok (d.map u),β))
  (b:∀x∈d,∃c,tg (u x) (lg nv cx δ)=on c/\f c β=on (.ok (v x),β)) (j:d.length<=Pf):ii nv cx it tg (λ_=>M.ret OT) (lk f) δ β=on (.ok (d.map v),β):=by
 have g:∀d:List e,(∀x∈d,∃c,tg (u x) (lg nv cx δ)=on c/\f c β=on (.ok (v x),β))->oa tg (λ_=>M.ret OT) (lk f) (d.map u) (lg nv cx δ) β=on (.ok (d.map v),β):=by
  intro d
  induction d with
  |nil=>intro _;rfl
  |cons x d i=>
   intro h;obtain⟨c,k,l⟩:=h x OZ;have m:=i λy n=>h y (OR _ n);rw[O9,oa];simp only[k,M.bind,M.ret,reduceIte,lk,l,m,O9,SX,RM]
 unfold ii;simp only[a,g d b,ON,j,Qm]
theorem K5{ds:a0c}{c:Nat}(a:ds.length<=Pf)(b:ds.length*c<=Pf)(hc:c<=1000000):vp ds (.int (c:Int))=on (Pn c ds).flatten:=by
 have q:(decide (-(2^63)<=(c:Int))&&decide ((c:Int)<2^63)&&decide (ds.length<=Pf)&&decide (ds.length*(c:Int).toNat<=Pf))=OT:=by
  simp only[PL,P9];exact⟨⟨⟨by lia,by lia⟩,a⟩,by rw[QN];exact b⟩
 unfold vp;simp only[q,Qm];rw[QN]
theorem wf{d:Type}(x:d):∀c:Nat,(Pn c [x]).flatten=Pn c x
 |0=>rfl
 |c+1=>by rw[QW,Sb,wf x c];rfl
theorem NK{f:FD}{g:FD}{x:D}{c:Nat}{δ:Dn}{β:Bg}(b:f δ β=on (.ok x,β))(j:g δ β=on (.ok (.int (c:Int)),β))(hc:c<=1000):F6 (aj f aK) g δ β=on (.ok (Pn c x),β):=by
 have a:[x].length<=Pf:=by rw[Qa];decide
 have k:[x].length*c<=Pf:=by rw[Qa,YJ];exact bo hc
 have r:=K5 (ds:=[x]) (c:=c) a k (by lia);rw[wf]at r;have s:szL [x]=on [x]:=by
  unfold szL;rw[O0 a]
 have l:aj f aK δ β=on (.ok [x],β):=aa b rfl;unfold F6;rw[M.bind_ok l,s,M.bind_some,M.bind_ok j,r];rfl
theorem ES(c:a0Y):eE (c.map D.bl)=on c:=by
 induction c with
 |nil=>rfl
 |cons b c d=>simp[eE,d]
theorem any_map{α:Type}(c:List α)(p:α->Bool):zL [.lst (c.map λx=>D.bl (p x))]=on (.bl (c.any p)):=by
 show(eE _).map _=_;rw[show(c.map λx=>D.bl (p x))=(c.map p).map D.bl by rw[O7];rfl,ES];simp only[Ra,List.any_map];rfl
theorem jW{c:Type}(r:Nat)(x:c):(O6 r).map (λ_=>x)=Pn r x:=by rw[WH,Py]
theorem dh{c:a0c}(h:c.length=r):fA [.lst c]=on (.int (r:Int)):=by subst h;rfl
theorem qT{ba:a0u}(h:ba.length=r):fA [lG ba]=on (.int (r:Int)):=dh (by rw[ON,h])
theorem oB{ba:a0u}{k:Nat}{row:a0c}(h:ba[k]?=on row):j0 (lG ba) (.int (k:Int))=on (.lst row):=DF (by lia) (by rw[QN,OY,h];rfl)
theorem cT{xs:a0c}{k:Nat}{d:D}(h:xs[k]?=on d):j0 (.lst xs) (.int (k:Int))=on d:=DF (by lia) (by rw[QN];exact h)
theorem dX{x y:D}:fR [x,y]=on (.tup [x,y]):=by
 unfold fR;rw[O0 (show[x,y].length<=Pf by rw[Pg,Qa];decide)]
theorem Gk:iM []=on (.lst []):=by
 unfold iM;rw[O0 (show([]:a0c).length<=Pf by rw[WG];decide)]
theorem mP{x:D}:iM [x]=on (.lst [x]):=by
 unfold iM;rw[O0 (show[x].length<=Pf by rw[Qa];decide)]
theorem yQ{x y:Int}:vO [.int x,.int y]=on (.int (RT x y)):=by
 unfold vO;simp only;congr 2;split<;>lia
theorem LT{x y:Int}:yS [.int x,.int y]=on (.int (Yx x y)):=by
 unfold yS;simp only;congr 2;split<;>lia
theorem eq_int{x y:Int}:pS (.int x) (.int y)=on (.bl (decide (x=y))):=by rw[OE]
theorem ne_int{x y:Int}:kj (.int x) (.int y)=on (.bl (!decide (x=y))):=by rw[OD]
theorem sB{i:Nat}{d:D}(h:(cL 0 j)[i]?=on d):∃x,j[i]?=on x/\d= .tup [.int (i:Int),x]:=by
 obtain⟨x,b,a⟩:=nc h;rw[QR]at a;exact⟨x,b,a⟩
theorem bH{c a:Type}{f:c->a}{xs:List c}{i:Nat}{d:a}(h:(xs.map f)[i]?=on d):∃x,xs[i]?=on x/\d=f x:=by
 rw[OY]at h;cases q:xs[i]? with
 |none=>rw[q]at h;cases h
 |some x=>rw[q]at h;exact⟨x,rfl,by cases h;rfl⟩
noncomputable abbrev oJ(r c:Nat):LP:=Pn r (Pn c (0,40))
theorem DU(r c:Nat):jn r c (oJ r c):=⟨by simp,λd h=>by rw[(RA.mp h).2];simp⟩
noncomputable def D1{d:Type}(m:List (List d))(i j:Nat):Option d:=(m[i]?).bind λc=>c[j]?
theorem S_{d:Type}{m:List (List d)}{i j k l:Nat}{c:List d}{v x:d}(a:m[i]?=on c)(h:D1 (m.set i (c.set j v)) k l=on x):(k=i/\l=j/\x=v)\/(D1 m k l=on x/\¬(k=i/\l=j)):=by
 unfold D1 at h⊢;rw[QY]at h;by_cases q:i=k
 .subst q
  rw[O0 rfl]at h;split at h
  .simp only[Sg]at h
   rw[QY]at h;by_cases w:j=l
   .subst w
    rw[O0 rfl]at h;split at h
    .exact .inl ⟨rfl,rfl,(PH h).symm⟩
    .cases h
   .rw[O1 w]at h
    exact .inr ⟨by rw[a];exact h,λz=>w z.2.symm⟩
  .cases h
 .rw[O1 q]at h
  exact .inr ⟨h,λz=>q z.1.symm⟩
theorem x9{d:Type}{m:List (List d)}{i j:Nat}{x:d}(h:D1 m i j=on x):∃c∈m,x∈c:=by
 unfold D1 at h;cases q:m[i]? with
 |none=>rw[q]at h;cases h
 |some c=>rw[q]at h;exact⟨c,Pj q,Pj h⟩
theorem nF{c:Type}{m:List (List c)}{i j:Nat}{row:List c}{x:c}(a:m[i]?=on row)(b:row[j]?=on x):D1 m i j=on x:=by unfold D1;rw[a];exact b
structure pq (p:Int×Int):Prop where
 l:0<=p.1
 m:p.1<=p.2
 h:p.2<=40
def Kp(ba:LI)(b:LP):Prop:=∀i j x p,D1 ba i j=on x->D1 b i j=on p->p.1<=x/\x<=p.2
structure x_ (r c:Nat) (b:LP):Prop where
 shp:jn r c b
 ok:∀row∈b,∀p∈row,pq p
theorem x_.set{r c i j:Nat}{b:LP}{row:List (Int×Int)}(h:x_ r c b)(l:b[i]?=on row)(m:pq p):x_ r c (b.set i (row.set j p)):=⟨h.shp.set l,λq k x a=>by
 rcases Rt k with k|rfl
 .exact h.ok q k x a
 .rcases Rt a with a|rfl
  .exact h.ok row (Pj l) x a
  .exact m⟩
theorem x_.free(r c:Nat):x_ r c (oJ r c):=⟨DU r c,λd b p a=>by
 rw[(RA.mp b).2]at a;rw[(RA.mp a).2];exact⟨by decide,by decide,by decide⟩⟩
theorem ZK.le40{r c:Nat}(t:ZK r c ba):∀d∈ba,∀x∈d,0<=x/\x<=40:=λd a x b=>⟨t.nn d a x b,by
 have:=LX t.nn d a x b;have:=t.tot;lia⟩
theorem Kp.free{r c:Nat}(t:ZK r c ba):Kp ba (oJ r c):=λi j x p k l=>by
 obtain⟨d,m,b⟩:=x9 k;obtain⟨q,n,a⟩:=x9 l;rw[(RA.mp n).2]at a;rw[(RA.mp a).2];exact t.le40 d m x b
theorem Kp.set{b:LP}{i j:Nat}{row:List (Int×Int)}{p:Int×Int}{x:Int}(h:Kp ba b)(n:b[i]?=on row)(o:D1 ba i j=on x)(r:p.1<=x)(v:x<=p.2):Kp ba (b.set i (row.set j p)):=λk l y q a m=>by
 rcases S_ n m with⟨rfl,rfl,rfl⟩|⟨m,_⟩
 .rw[o]at a
  cases a;exact⟨r,v⟩
 .exact h k l y q a m
theorem J4{e:Type}{δ:Dn}{β:Bg}(d:List e)(u:e->D)(o:e->a0c)(a:it δ β=on (.ok (d.map u),β))
  (j:∀x∈d,∃c,tg (u x) (lg nv cx δ)=on c/\b c β=on (.ok (o x),β)) (k:(d.flatMap o).length<=Pf):c7 nv cx it tg (λ_=>M.ret OT) b δ β=on (.ok (.lst (d.flatMap o)),β):=by
 refine sD a ?_ k;have f:∀d:List e,(∀x∈d,∃c,tg (u x) (lg nv cx δ)=on c/\b c β=on (.ok (o x),β))->oa tg (λ_=>M.ret OT) b (d.map u) (lg nv cx δ) β=on (.ok (d.flatMap o),β):=by
  intro d
  induction d with
  |nil=>intro _;rfl
  |cons x d g=>
   intro h;obtain⟨c,l,m⟩:=h x OZ;have n:=g λy p=>h y (OR _ p);rw[O9,oa];simp only[l,M.bind,M.ret,reduceIte,m,n,Qd]
 exact f d j
theorem CJ{e:Type}{f:FD}{δ:Dn}{β:Bg}(d:List e)(u v:e->D)(a:it δ β=on (.ok (d.map u),β))
  (b:∀x∈d,∃c,tg (u x) δ=on c/\f c β=on (.ok (v x),β)):Z8 it tg (λ_=>M.ret OT) (lk f) δ β=on (.ok (d.map v),β):=by
 have g:∀d:List e,(∀x∈d,∃c,tg (u x) δ=on c/\f c β=on (.ok (v x),β))->oa tg (λ_=>M.ret OT) (lk f) (d.map u) δ β=on (.ok (d.map v),β):=by
  intro d
  induction d with
  |nil=>intro _;rfl
  |cons x d i=>
   intro h;obtain⟨c,j,k⟩:=h x OZ;have l:=i λy m=>h y (OR _ m);rw[O9,oa];simp only[j,M.bind,M.ret,reduceIte,lk,k,l,O9,SX,RM]
 unfold Z8;rw[M.bind_ok a];exact g d b
theorem i6{e a:Type}(u:e->D)(v:a->D):∀(c:List e) (d:List a),eF (c.map u) (d.map v)=(c.zip d).map λp=>D.tup [u p.1,v p.2]
 |[],d=>by simp[eF]
 |x::c,[]=>by simp[eF]
 |x::c,y::d=>by simp[eF,i6 u v c d]
theorem wx{c:a0c}{k:Nat}:pT c (on (k:Int)) OO=c.drop k:=by
 unfold pT;rw[HT.sIx_none,HT.sIx_nat];by_cases h:k<=c.length
 .rw[show RT k c.length=k by lia]
  rw[RQ (by rw[List.length_drop];lia)]
 .rw[Rl (by lia),Rl (by lia)]
  simp
theorem sJ{f g:FD}{δ:Dn}{β:Bg}(a:f δ β=on (.ok (.lst j),β))(b:g δ β=on (.ok (.int k),β)):fSl f (on g) OO δ β=on (.ok (.lst (pT j (on k) OO)),β):=by
 unfold fSl uM;simp only[M.bind,a,b,M.ret,M.ofO,EV,slD]
theorem oR{c d:a0c}(h:c.length+d.length<=1000):iC (.lst c) (.lst d)=on (.lst (c++d)):=by
 unfold iC;simp only;rw[O0 (bo h)]
def kW:a0c->a0g->Prop
 |[],[]=>True
 | .int i::ds,.int j _::vs=>i=j/\kW ds vs
 | .str x::ds,.str y _::vs=>x=y/\kW ds vs
 | .bl x::ds,.bool y::vs=>x=y/\kW ds vs
 | .non::ds,.none::vs=>kW ds vs
 |_,_=>False
theorem ie{K:Pk}:∀{ds:a0c} {vs:a0g},kW ds vs->∃c,aw c vs/\∀F H,bb K F H ds c
 |[],[],_=>⟨[],.nil,λ_ _=>bb.nil⟩
 | .int i::ds,.int j t::vs,h=>by
  obtain⟨e,h⟩:=h;subst e;obtain⟨c,a,b⟩:=ie (K:=K) h;exact⟨.int i::c,.cons ⟨t,rfl⟩ a,λF H=>bb.cons rfl (b F H)⟩
 | .str i::ds,.str j t::vs,h=>by
  obtain⟨e,h⟩:=h;subst e;obtain⟨c,a,b⟩:=ie (K:=K) h;exact⟨.str i::c,.cons ⟨t,rfl⟩ a,λF H=>bb.cons rfl (b F H)⟩
 | .bl i::ds,.bool j::vs,h=>by
  obtain⟨e,h⟩:=h;subst e;obtain⟨c,a,b⟩:=ie (K:=K) h;exact⟨.bl i::c,.cons rfl a,λF H=>bb.cons rfl (b F H)⟩
 | .non::ds,.none::vs,h=>by
  obtain⟨c,a,b⟩:=ie (K:=K) (ds:=ds) (vs:=vs) h;exact⟨.non::c,.cons rfl a,λF H=>bb.cons rfl (b F H)⟩
def VIs(K:Pk)(d:D)(u:OX):Prop:=∃v,aO v u/\∀F H,c4 K F H d v
theorem nU{K:Pk}{i:Int}{t:Tok}:VIs K (.int i) (.int i t):=⟨.int i,⟨t,rfl⟩,λ_ _=>rfl⟩
theorem IC{K:Pk}{q3:a0H}(a:K.lookup p=on ⟨q1,q2,.seq q3 q4,q5⟩)(hc:q1= .type "tuple")(b:q3.size<=Pf)(j:kW m q3.toList):VIs K (.tup m) (.ref p):=by
 obtain⟨c,k,l⟩:=ie (K:=K) j;exact⟨.ref p,rfl,λF H=>⟨p,c,rfl,.inr ⟨_,q3,q4,a,hc,rfl,b,k⟩,l F H⟩⟩
theorem rj{K:Pk}{mg:a0j}{x:PX}{d:D}{u:OX}(h:mg x=on u)(v:VIs K d u):oV K mg x d:=let ⟨w,h1,h2⟩:=v;⟨u,w,h,h1,h2⟩
theorem MK{K:Pk}{d:a0i}{us:a0g}(n:Nat)(l:d.length=n+us.length)(b:∀(s:O3) (c:a0g),K.In s.heap->c.length=n->V8 s m ⟨c,[]⟩ (d.zip (c++us)))(h:∃c,aw c us/\∀F H,bb K F H dd c):eK K m d dd:=
 let ⟨c,h1,h2⟩:=h
 ⟨us,c,λs a j k=>b s a j (by rw[Pl]at k;lia),h1,h2⟩
theorem MI{K:Pk}:∃c,aw c []/\∀F H,bb K F H [] c:=⟨[],.nil,λ_ _=>bb.nil⟩
theorem J2{K:Pk}{d:D}{u:OX}(v:VIs K d u)(h:∃c,aw c us/\∀F H,bb K F H l c):∃c,aw c (u::us)/\∀F H,bb K F H (d::l) c:=by
 obtain⟨w,a,b⟩:=v;obtain⟨c,j,k⟩:=h;exact⟨w::c,.cons a j,λF H=>bb.cons (b F H) (k F H)⟩
inductive K_ (K:Pk):List (Sr D)->List (Sr OX)->Prop where
 |nil:K_ K [] []
 |kw {j:Nat} {a:List (Sr D)} {c:List (Sr OX)}:K_ K a c->K_ K (.kw j::a) (.kw j::c)
 |df {x:D} {y:OX} {a:List (Sr D)} {c:List (Sr OX)}:VIs K x y->K_ K a c->K_ K (.df x::a) (.df y::c)
theorem K_.mid{K:Pk}:∀{a:List (Sr D)} {c:List (Sr OX)},K_ K a c->∃b:List (Sr V),lK aO b c/\lK (λd v=>∀F H,c4 K F H d v) a b
 |_,_,.nil=>⟨[],.nil,.nil⟩
 |_,_,.kw (j:=j) h=>let ⟨b,h1,h2⟩:=K_.mid h;⟨.kw j::b,.kw h1,.kw h2⟩
 |_,_,.df v h=>let ⟨b,h1,h2⟩:=K_.mid h;let ⟨w,g1,g2⟩:=v;⟨.df w::b,.df g1 h1,.df g2 h2⟩
theorem NX{K:Pk}{d e:a0i}{c:List (Sr D)}{sv:List (Sr OX)}(h:K_ K c sv)(j:d.length=n+c.length)(k:0<d.length)(b:∀(s:O3) (us a:a0g),K.In s.heap->us.length=n->a.length=e.length->V8 s l ⟨us,e.zip a⟩ (d.zip (us++sv.map (Sr.pick .none a)))):H_ K l d e n c:=
 ⟨let ⟨sx,h1,h2⟩:=h.mid;⟨sv,sx,h1,h2,b⟩,j,k⟩
variable{X:Cx}{E:a0r}{K:Pk}{a:Qk}
end
section
variable{h:G}{δ:Ds}{β β1 b a:Bg}{Q:a0z}{i:Nat}{k j e:FD}{fl:FL}{d m l:D}{ds:a0c}{c:a0X}
theorem G6{δ:Dn}{β β1:Bg}(a:t δ β=on (.ok OT,β1))(b:f δ β1=on r):Z7 t f g δ β=on r:=by
 unfold Z7 M.bind;rw[a];exact b
theorem G7{δ:Dn}{β β1:Bg}(a:t δ β=on (.ok OW,β1))(b:g δ β1=on r):Z7 t f g δ β=on r:=by
 unfold Z7 M.bind;rw[a];exact b
theorem p9{d:D}{δ:Dn}{β:Bg}(e:δ.getD n OO=on d):ao n δ β=on (.ok d,β):=by unfold ao;rw[e];rfl
end
section
variable{β β1 a:Bg}{f g h:FD}{δ:Dn}{x y z:Int}
theorem sK(a:f δ β=on (.ok (.int x),β))(b:g δ β=on (.ok (.int y),β))(c:h δ β=on (.ok (.int z),β)):kR ZI Z3 f g h δ β=on (.ok (.bl (decide (x<=y)&&decide (y<z))),β):=by
 unfold kR M.bind;rw[a];simp only[b,le_int,M.ofO,asB];by_cases q:x<=y
 .simp only[q,decide_true,Qm,c,lt_int,T6]
 .simp only[q,YT,Pq,Qq,M.ret,TD]
theorem qQ{K:Pk}{f:PX}:∀{w:a0i} {y:a0c} {g:a0k},bb K F H y g->(w.zip y).lookup f=on d->∃v,(w.zip g).lookup f=on v/\c4 K F H d v
 |[],y,g,h,e=>by simp at e
 |n::w,[],g,h,e=>by simp at e
 |n::w,c::y,g,h,e=>by
  obtain⟨x,r,q,a,b⟩:=h;subst q;rw[Q0,SY]at e⊢;split at e
  .rename_i z
   cases e;exact⟨x,rfl,a⟩
  .rename_i z
   exact qQ b e
theorem tF{w:Type}:∀{f:a0i} {g:List w},m∉f->(f.zip g).lookup m=OO
 |[],g,_=>by simp
 |n::f,[],_=>by simp
 |n::f,x::g,h=>by
  rw[Q0,SY];have a:m≠n:=λz=>h (by rw[z];exact OZ);have b:m∉f:=λz=>h (OR _ z);rw[show(m==n)=OW by simpa using a];exact tF b
theorem eK.nil{K:Pk}(b:cA K c ps []):eK K c ps []:=⟨[],[],b,.nil,λ_ _=>bb.nil⟩
end
section
variable{X:Cx}{E:a0r}{o e:Expr}{es:List Expr}{P p s c:Uh}{x m:PX}{k n:Nat}{f C:OS}{fd:Pp}{ps ks:a0i}{aa:List Wc}
noncomputable def zu(C:OS)(f:PX):D->a0l
 | .obj C' ns ds=>if C'=C then(ns.zip ds).lookup f else OO
 |_=>OO
theorem k7{f:PX}(c:t7 X.K C)(n:ef X.K C f)(j:PE X e (tV X.K g E))(l:Tx e f X.env (Qp e X.env)=Qp e X.env:=by rfl):PE X (.Attribute e f P) (tV X.K (f1 (zu C f) g) E):=
 (Lu j l).imp λJ H Q i=>lm i λF o p fr q h=>⟨F,o,p,fr,q,(run.bind (R:=c4 X.K F) h).mono λv r i=>by
  obtain⟨d,s,t,m,r1⟩:=i;obtain⟨D,b,k⟩:=run.ofO r1;cases d<;>first|cases b|skip
  rename_i u G M;unfold zu at b;simp only at b;split at b
  .rename_i z
   subst z;unfold c4 at m;obtain⟨a,x,S,rfl,L,y,N,A⟩:=m;obtain⟨w,B,I⟩:=qQ A b;exact⟨a,u,x,_,w,rfl,y,c,n,B,k w r (To.refl t.fr) I⟩
  .cases b⟩
def rc{c:Type}(C:OS)(m:PX)(a:a0c->M c)(b:FD)(g:FL)(f:a0c):Dn->M c:=λe=>M.bind (b e) λd=>match d with
 | .obj C' ns _=>if C'=C/\m∉ns then M.bind (g e) λk=>a (d::(k++f))else M.fail
 |_=>M.fail
def spT{c:Type}(K:Pk)(T:Fx->Hp->Hp->c->V->Prop)(n:Nat)(m:a0c->M c):Sp:=λe H Q E=>e.length=n/\∃F f k,Fr F H k/\bb K F H f e/\run (T F H) F (λ_=>E) [] (m f) H Q k
theorem vP{w:Type}{T:Fx->Hp->Hp->w->V->Prop}{O:a0c->M w}{U:FD}{g:FL}{s:a0c}{K:Pk}{b:a0k}{j:St}{H:Hp}{Q:VK}(X:∀{F H l q f d v},To F H l f->T F l q d v->T F H q d v)(G:∀F H,bb K F H s b)(hn:∀o f r c,g o f=on (.ok r,c)->r.length+s.length+1=n)(h:∃F o f,Fr F H f/\i0 K F H o j/\run (T F H) F E j (rc C m O U g s o) H Q f):ym C m (spT K T n O) b E (tV K U E) (i4 K g E) j H Q:=by
 obtain⟨F,o,f,fr,W,h⟩:=h;refine⟨F,o,f,fr,W,(run.bind (R:=c4 K F) h).mono λv l h_=>pa h_ λd p t x r1=>?_⟩;have k:∀{u:M w},u=M.fail->run (T F H) F E j u l Q p->False:=λ{u} e r=>by
  obtain⟨r,c,Y,_⟩:=r;rw[e]at Y;cases Y
 cases d<;>first|exact(k rfl r1).elim|skip
 rename_i C' ns ds;simp only at r1;split at r1
 .rename_i z
  obtain⟨rfl,hm⟩:=z;have y:=x;unfold c4 at x;obtain⟨a,dx,xs,rfl,h1,h2,h3,A⟩:=x;refine⟨a,dx,_,rfl,h2,tF hm,F,o,p,t.fr,W.tr (t.tr fr),?_⟩;obtain⟨r0,B,Z,P⟩:=run.bind (R:=bb K F) r1;refine⟨r0,B,Z,?_⟩;cases r0 with
  |error C=>exact P
  |ok as=>
   intro vs I t2 i;obtain⟨d',D,J,L,r3⟩:=P vs I t2 i;have hl:=hn _ _ _ _ Z;have hz:=(G F I).length;refine⟨by rw[Pg,Pl,<-i.length,<-hz,hl],F,_::(d'++s),D,J.fr,bb.cons (c4.tr (J.tr t.fr) _ _ y) (bb.append L (G F I)),?_⟩;obtain⟨S,N,e4,A⟩:=r3;refine⟨S,N,e4,?_⟩;cases S with
   |error C=>exact A
   |ok d=>exact λv q t5 hv=>A v q t5 (X (t.trans J) hv)
 .exact(k rfl r1).elim
theorem z0{p:a0c}(c:t7 X.K C)(x:p3 X.K C m f)(G:et X.prog X.w X.K X.mg X.base (gs X.prog X.w) k f fd ps (Im X.K n L))(j:ej k X.A)(l:eK X.K fd ps p)(q:bV (gs X.prog X.w) X E)
  (t:PE X o (tV X.K N E)) (D:PA X (e::es) (i4 X.K g E)) (M:∀S V r i,g S V=on (.ok r,i)->r.length+p.length+1=n)
  (a:b0a X e es:=by rfl) (d:b0b X P es:=by rfl)
  (u:Qp (.Call (.Attribute o m s) (e::es) [] P) X.env=(do
   let I <-Qp o X.env
   Sk s.atName
   let (f,first) <-Tj [I] (UY I m pl)
   WT P f first (Ri P (Pd (e::es) X.env)) (Sj P (Rb [] X.env))):=by rfl):
  PE X (.Call (.Attribute o m s) (e::es) [] P) (tV X.K (rc C m L N g p) E):=by
 obtain⟨O,v,b,y,J⟩:=l;exact(Jn (pl:=pl) t c x G j b y q D a d u).imp λB H Q h=>vP (T:=λF _=>c4 _ F) (λ_ z=>z) J M h
theorem kz{p:a0c}(c:t7 X.K C)(M:p3 X.K C m f)(G:et X.prog X.w X.K X.mg X.base (gs X.prog X.w) k f fd ps (Im X.K n mf))(g:ej k X.A)(i:eK X.K fd ps p)(j:bV (gs X.prog X.w) X E)
  (l:PE X o (tV X.K fo E)) (S:p.length+1=n)
  (q:Qp (.Call (.Attribute o m s) [] [] P) X.env=(do
   let Y <-Qp o X.env
   Sk s.atName
   let (f,first) <-Tj [Y] (UY Y m pl)
   WT P f first (Ri P (Pd [] X.env)) (Sj P (Rb [] X.env))):=by rfl):
  PE X (.Call (.Attribute o m s) [] [] P) (tV X.K (rc C m mf fo aK p) E):=by
 obtain⟨ds,t,b,u,V⟩:=i;refine(FU (pl:=pl) l c M G g b u j q).imp λR H Q h=>?_;obtain⟨F,x,D,fr,y,h⟩:=vP (T:=λF _=>c4 _ F) (λ_ z=>z) V (λx D r B e=>by cases e;simpa using S) h;refine⟨F,x,D,fr,y,h.mono λv U ⟨a,Z,fs,I,ha,J,W,L,aa,d,N,O⟩=>⟨a,Z,fs,I,ha,J,?_⟩⟩;exact run.ret d O bb.nil
structure ToX (F:Fx) (x:OS) (H H':Hp) (β':Bg):Prop where
 kp:∀a o,a≠x->H a=on o->(∀b l,F.bg=on (b,l)->a≠b/\a≠l)->H' a=on o
 fr:Fr F H' β'
def spI(K:Pk)(C:OS)(k:a0i)(n:Nat)(d:a0c->M a0c):Sp:=λs H Q E=>∃x e F m o p,s= .ref x::e/\e.length=n/\Fr F H o/\F.A x/\(∀b l,F.bg=on (b,l)->x≠b/\x≠l)/\H x=on (.ins C p [])/\bb K F H m e/\
 ∃r a,d m o=on (r,a)/\match r with
  | .ok es=>∀c f,ToX F x H c a->c x=on (.ins C p (k.zip f))->k.length=f.length->bb K F c es f->Q .non c
  | .error Ce=>∀c,ToX F x H c a->E (.ref Ce) OO c
variable{m:a0i}
theorem Ge{K:Pk}{k:a0k}(fr:Fr F H2 β2)(O:k.length=n)(w:bb K F H2 ds k)(r:run (c4 K F) F E σ (M.bind (mi ds) λs=>M.ret (.obj C m s)) H2 Q β2):
  ∀x e,H2 x=OO->H2 e=OO->e≠x->spI K C m n mi (.ref x::k) (upd (upd H2 e (.own x)) x (.ins C e [])) (λv R=>v= .non/\Q (.ref x) R) (E σ):=by
 intro x e B H G;have I:¬F.A x:=fr.fresh B;have f:bP H2 (upd (upd H2 e (.own x)) x (.ins C e [])):=λa o h=>by
  rw[bt (b_ h B),bt (b_ h H)];exact h
 have t:=fr.same f;have J:Fr (F.but x) (upd (upd H2 e (.own x)) x (.ins C e [])) β2:=⟨λa ha z=>(by
  rcases ha with ha|ha
  .exact t.fr.occ a ha z
  .subst ha;rw[am]at z;cases z),λb l q=>let ⟨z1,z2,z3⟩:=fr.bgA b l q;⟨.inl z1,.inl z2,z3⟩,t.fr.bag⟩
 have T:∀b l,F.bg=on (b,l)->x≠b/\x≠l:=λb l q=>⟨λz=>I (z▸(fr.bgA b l q).1),λz=>I (z▸(fr.bgA b l q).2.1)⟩;have L:Tr F H2 (F.but x) (upd (upd H2 e (.own x)) x (.ins C e [])):=⟨λa U W z=>by
  rcases z with z|z
  .exact U z
  .subst z;exact W B,λa o _ h=>f a o h,rfl⟩
 obtain⟨Y,c,d,h⟩:=r;refine⟨x,k,F.but x,ds,β2,e,rfl,O,J,.inr rfl,T,am,bb.tr L _ _ w,?_⟩;have j:∀{g:Hp} {c:Bg},ToX (F.but x) x (upd (upd H2 e (.own x)) x (.ins C e [])) g c->To F H2 g c:=λ{g c} i=>⟨λa o ha n=>i.kp a o (b_ ha B) (f a o ha) n,⟨λa ha=>i.fr.occ a (.inl ha),fr.bgA,i.fr.bag⟩⟩;cases q:mi ds β2 with
 |none=>unfold M.bind at d;rw[q]at d;cases d
 |some z=>
  obtain⟨r1,p⟩:=z;refine⟨r1,p,rfl,?_⟩;cases r1 with
  |error Z=>
   rw[M.bind_err q]at d;cases d;exact λg i=>h g (j i)
  |ok s=>
   rw[M.bind_ok q]at d;cases d;refine λg D i N u y=>⟨rfl,h (.ref x) g (j i) ⟨x,e,D,rfl,I,N,u,bb.tr Fx.tr_of _ _ y⟩⟩
def DV(C:OS)(m:a0i)(a:a0c->M a0c)(g b:FL)(c:List (Sr D)):FD:=λe=>M.bind (g e) λf=>M.bind (b e) λks=>M.bind (a (f++c.map (Sr.pick .non ks))) λk=>M.ret (.obj C m k)
def Kv(C:OS)(f:Sp)(c:a0k->a0k->a0k)(E:a0r)(t d:TA):TE:=λa H Q=>t a H λk g=>d a g λh b=>∀x e,b x=OO->b e=OO->e≠x->
 f (c (.ref x::k) h) (upd (upd b e (.own x)) x (.ins C e [])) (λv i=>v= .non/\Q (.ref x) i) (E a)
theorem FV(M:Mk X.K C f)(F:et X.prog X.w X.K X.mg X.base CX k f fd ps sp)(U:ej (k+1) X.A)(Y:Gl X x)(n:X.mg x=on (.ref C))(O:Ic X.K fd ps ks g gV)(Z:bV CX X E)
  (o:PA X (e::es) t) (B:PK X aa tk) (i:(Sj P (Rb aa X.env)).all (·.1.isSome)=OT:=by rfl) (J:(Sj P (Rb aa X.env)).filterMap (·.1)=ks:=by rfl)
  (L:b0c x:=by decide) (D:b0a X e es:=by rfl)
  (N:((Ri P (Pd (e::es) X.env)).any (·.1)||(Sj P (Rb aa X.env)).any (·.1.isNone))=OW:=by rfl):
  PE X (.Call (.Name x p) (e::es) aa P) (Kv C sp gV E t tk):=by
 intro a s l H Q I h;refine TY (iU I Y n ?_ L);refine PySem.W.callWith_KW (h₀:=X.base) I.ok.mod.kin M.kp i (eg (o P a s l H _ I h) λm G ⟨vs,S,z,r,q⟩=>?_) N D;refine eg (B P a G l S _ z q) λd c ⟨zs,H2,j,rz,q2⟩=>⟨j.kIn,?_⟩;rw[J];have R:=q2 (c.heap.objs.size+1) c.heap.objs.size (j.hok.fresh (Uf _)) (j.hok.fresh (O5 _)) (P4 (T9 _));have y:=cp.made (C:=C) j;have T:=O.rel (.cons (show aO (V.ref (c.heap.objs.size+1)) (Pi (c.heap.objs.size+1))from rfl) r) rz;have hl:(g (Pi (c.heap.objs.size+1)::m) d).length=ps.length:=by rw[<-T.length];exact F.len _ _ _ _ R
 refine U8 (Gf (f:=f) j.kIn M.makes M.init (beq_iff_eq.mp M.fn) (Ti (F.run _ X.stack _ _ ⟨Pi (c.heap.objs.size+1)::m,ks.zip d⟩ (g (Pi (c.heap.objs.size+1)::m) d) _ _ (E l) (U.make C m (ks.zip d))
  (y.env0.make C m (ks.zip d)) (O.to _ (Pi (c.heap.objs.size+1)::m) d y.kIn hl) T R) λr s' b=>?_))
 cases r with
 |error e=>exact Z a l _ _ e s' y b
 |ok fl=>
  cases fl with
  |ret u=>
   obtain⟨v,H',I4,rv,ev,q4⟩:=y.after b;subst ev;exact⟨rv,⟨V.ref (c.heap.objs.size+1),H',I4,rfl,q4⟩⟩
  |next=>exact Rk b
  |brk=>exact Rk b
  |cont=>exact Rk b
theorem IG{o:List (Sr D)}(Mm:Mk X.K C f)(G:et X.prog X.w X.K X.mg X.base (gs X.prog X.w) k f fd ps (spI X.K C m n mi))(hr:ej (k+1) X.A)(hg:Gl X x)(hm:X.mg x=on (.ref C))(hb:H_ X.K fd ps ks (n1+1) o)(hx:bV (gs X.prog X.w) X E)
  (ha:PA X (e::es) (i4 X.K g E)) (c:PK X aa (i4 X.K gk E)) (hn:∀s M r a,g s M=on (.ok r,a)->r.length=n1) (d:∀s M r a,gk s M=on (.ok r,a)->r.length=ks.length) (h3:n1+o.length=n)
  (b:(Sj P (Rb aa X.env)).all (·.1.isSome)=OT:=by rfl) (h:(Sj P (Rb aa X.env)).filterMap (·.1)=ks:=by rfl)
  (i:b0c x:=by decide) (he:b0a X e es:=by rfl)
  (j:((Ri P (Pd (e::es) X.env)).any (·.1)||(Sj P (Rb aa X.env)).any (·.1.isNone))=OW:=by rfl):
  PE X (.Call (.Name x p) (e::es) aa P) (tV X.K (DV C m mi g gk o) E):=by
 obtain⟨sv,J,rd,kb⟩:=hb.kb;refine(FV Mm G hr hg hm kb hx ha c b h i he j).imp λσ H Q h_=>lm h_ λF s M fr L r=>⟨F,s,M,fr,L,?_⟩;obtain⟨r0,l,N,O⟩:=run.bind (R:=bb X.K F) r;refine⟨r0,l,N,?_⟩;cases r0 with
 |error C=>exact O
 |ok as=>
  intro S H1 t z;obtain⟨d',ab,q,u,r1⟩:=O S H1 t z;refine⟨F,s,ab,q.fr,L.tr (q.tr fr),?_⟩;obtain⟨T,ac,U,W⟩:=run.bind (R:=bb X.K F) r1;refine⟨T,ac,U,?_⟩;cases T with
  |error C=>exact W
  |ok bs=>
   intro v Y t2 Z;obtain⟨d2,ad,t3,B,r3⟩:=W v Y t2 Z;have l1:=hn _ _ _ _ N;have l2:=d _ _ _ _ U;have I:bb X.K F Y d' S:=bb.tr (t3.tr q.fr) _ _ u;intro y dx;have g1:gK V.non (n1+1) ks.length J (.ref y::S) v= .ref y::(S++J.map (Sr.pick .non v)):=O0 ⟨by rw[Pg,<-z.length,l1],by rw[<-Z.length,l2]⟩;rw[g1];exact Ge t3.fr (by rw[Pl,ON,<-z.length,l1,<-rd.len,h3]) (bb.append I (lK.den B rd)) r3 y dx
abbrev IP:=Ds->a0c->Bg->Option (Except OS a0c×Bg)
noncomputable def HY:IP:=λ_ c e=>on (.ok c,e)
noncomputable def oF(g:G)(a:IP):IP:=λe c f=>match g e f with
 |some (.nx δ1,β1)=>match e[0]?,δ1[0]? with
  |some (on (Sl.sh (D.adr x))),on (on (Sl.sh (D.adr y)))=>if x=y then a δ1 c β1 else OO
  |_,_=>OO
 |some (.ex C _,β1)=>on (.error C,β1)
 |_=>OO
def jZ(f:FD)(a:IP):IP:=λe c k=>match f (vw e) k with
 |some (.ok d,β1)=>a e (c++[d]) β1
 |some (.error C,β1)=>on (.error C,β1)
 |none=>OO
structure o0 (x:OS) (B:Ow) (H:Hp) (B':Ow) (H':Hp):Prop where
 kp:∀a o,a≠x->H a=on o->(B a=OO\/B a=on 0)->H' a=on o
 tg:∀a,B a=on 0\/B a=on 1->B' a=B a
 nn:∀a o,a≠x->H a=on o->B a=OO->B' a=OO
 al:∀a,H a≠OO->H' a≠OO
end
theorem hL.x{x:OS}{B b:Ow}{H c:Hp}(s:hL B H b c):o0 x B H b c:=⟨λa o _=>s.kp a o,s.tg,λa o _=>s.nn a o,s.al⟩
theorem o0.trans(a:o0 x B H B1 H1)(b:o0 x B1 H1 B2 H2):o0 x B H B2 H2:=by
 refine⟨λc o w h n=>b.kp c o w (a.kp c o w h n) ?_,λc h=>?_,λc o w h n=>b.nn c o w (a.kp c o w h (.inl n)) (a.nn c o w h n),λc h=>b.al c (a.al c h)⟩
 .rcases n with n|n
  .exact .inl (a.nn c o w h n)
  .exact .inr ((a.tg c (.inl n)).trans n)
 .have e:=a.tg c h
  rw[<-e]at h;exact(b.tg c h).trans e
def kX(K:Pk)(D:a0s)(E:a0r)(Dn:ni)(B:Ow)(H:Hp)(x C M:OS)(w:a0i)(r:Except OS a0c)(d:Bg):Prop:=match r with
 | .ok ds=>∀b c a G,o0 x B H c a->Fr (en c D) a d->a x=on (.ins C M (w.zip G))->w.length=G.length->bb K (en c D) a ds G->Dn.nx b a
 | .error Ce=>∀b c a,o0 x B H c a->Fr (en c D) a d->E b (.ref Ce) OO a
theorem kX.pre{K:Pk}{E:a0r}{Dn:ni}(s:o0 x B H B1 H1)(h:kX K f E Dn B H x C g all r e):kX K f E Dn B1 H1 x C g all r e:=by
 cases r with
 |ok D=>exact λa b c w t=>h a b c w (s.trans t)
 |error d=>exact λa b c t=>h a b c (s.trans t)
def tI(K:Pk)(D:Hp)(C:OS)(a w:a0i)(e:IP)(E:a0r):TS:=λDn f H=>∃B G M P x S b c r d,fw K D B G H M P f/\M[0]?=on (on (.sh (.adr x)))/\B x=on 0/\H x=on (.ins C S (a.zip b))/\a.length=b.length/\bb K (en B G) H c b/\e M c P=on (r,d)/\kX K G E Dn B H x C S (a++w) r d
theorem tw:∀{w:a0i} {D:a0k},w.length=D.length->f∉w->dN f y (w.zip D)=(w++[f]).zip (D++[y])
 |[],[],_,_=>rfl
 |n::w,v::D,h,hf=>by
  have a:¬n=f:=λz=>hf (by rw[z];exact OZ);show(if n=f then(n,y)::w.zip D else(n,v)::dN f y (w.zip D))=_;rw[O1 a,tw (by simpa using h) λz=>hf (OR _ z)];rfl
 |[],_::_,h,_=>by simp at h
 |_::_,[],h,_=>by simp at h
theorem fw.upd0{K:Pk}(w:fw K H₀ B A H C F I)(a:B x=on 0):fw K H₀ B A (upd H x o) C F I/\o0 x B H B (upd H x o):=by
 have D:∀c,H c≠OO->upd H x o c≠OO:=λc hc=>by
  by_cases z:c=x
  .subst z;rw[am];simp
  .rw[bt z];exact hc
 have g:∀b l,A=on (b,l)->b≠x/\l≠x:=λb l e=>by
  obtain⟨E,f⟩:=w.bgt b l e;exact⟨λz=>(by rw[z,a]at E;cases E),λz=>(by rw[z,a]at f;cases f)⟩
 have G:Tr (en B A) H (en B A) (upd H x o):=⟨λ_ h _=>h,λc u hc e=>by
  rw[bt]
  .exact e
  .intro z;subst z;exact hc (by show B c≠OO;rw[a];simp),rfl⟩
 refine⟨⟨⟨λc hc=>D c (w.fr.occ c hc),w.fr.bgA,λb l e=>?_⟩,w.bgt,w.len,λc hc=>D c (w.cov c hc),w.new,λc k hc=>?_,λi s e=>?_⟩,λc u M h _=>by rw[bt M];exact h,λ_ _=>rfl,λ_ _ _ _ n=>n,D⟩
 .obtain⟨j,m⟩:=w.fr.bag b l e
  obtain⟨p,q⟩:=g b l e;exact⟨by rw[bt p];exact j,by rw[bt q];exact m⟩
 .exact(w.lst c k hc).imp λo h=>by rw[bt];exact h;intro z;subst z;rw[a]at hc;cases hc
 .obtain⟨v,r,t⟩:=w.tell i s e
  exact⟨v,r,t.tr G λc d=>⟨d,λo z=>(bt λy=>by subst y;rw[a]at d;cases d).trans z⟩⟩
section
variable{X:Cx}{E:a0r}{st:Qk}{aa:a0Q}{C:OS}{w P:a0i}{ip:IP}
theorem Oq:PSs X [] (tI X.K X.H₀ C w [] HY E):=rY.imp λDn b H c=>by
 obtain⟨B,G,M,P,x,S,a,d,r,f,ok,i,j,g,h,D,e,k⟩:=c;cases e;rw[PU]at k;exact k b B H a (hL.refl B H).x ok.fr g h D
theorem Ib(m:PS X st (tG X.K X.H₀ g E))(n:PSs X aa (tI X.K X.H₀ C w P ip E)):PSs X (st::aa) (tI X.K X.H₀ C w P (oF g ip) E):=(cI m n).imp λDn v H o=>by
 obtain⟨B,D,G,M,x,S,c,d,r,f,ok,p,h,q,t,V,e,k⟩:=o;unfold oF at e;split at e
 .rename_i δ1 β1 i
  split at e
  .rename_i y A q1 q2
   split at e
   .rename_i z
    subst z;rw[p]at q1;cases q1;refine⟨B,D,G,M,.nx δ1,β1,ok,i,λb j l s a=>?_⟩;exact⟨j,D,δ1,β1,x,S,c,d,r,f,a,q2,(s.tg x (.inl h)).trans h,s.kp x _ q (.inr h),t,bb.tr s.tr _ _ V,e,kX.pre s.x k⟩
   .cases e
  .cases e
 .rename_i u δ1 β1 i
  cases e;exact⟨B,D,G,M,.ex u δ1,_,ok,i,λb j l s a=>k b j l s.x a.fr⟩
 .cases e
theorem uI(c:t7 X.K C)(n:ef X.K C f)(O:f∉w)(J:w.length<1000)(Q:PS X st (KY X.K (pk 0) (tV X.K fv E) f))(R:PSs X aa (tI X.K X.H₀ C (w++[f]) P ip E)):PSs X (st::aa) (tI X.K X.H₀ C w (f::P) (jZ fv ip) E):=(cI Q R).imp λDn T H U=>by
 obtain⟨B,D,M,S,x,G,g,p,r,q,ok,L,l,W,N,V,e,k⟩:=U;refine⟨en B D,vw M,S,ok.fr,ok.view,?_⟩;unfold jZ at e;split at e
 .rename_i d β1 t
  refine⟨.ok d,β1,t,λy m A Y=>?_⟩;obtain⟨b,i⟩:=ok.to rfl A;obtain⟨v,Z,s⟩:=b.tell 0 _ L;have hv:v= .ref x:=s;subst hv;have F:=i.kp x _ W (.inr l);refine⟨_,Z,x,C,G,_,rfl,F,c,n,?_,?_⟩
  .rw[Tf];lia
  obtain⟨I,s2⟩:=b.upd0 (o:= .ins C G (dN f y (w.zip g))) l;have j:Tr (en B D) m (en B D) (upd m x (.ins C G (dN f y (w.zip g)))):=⟨λ_ h _=>h,λa u ha e=>by
   rw[bt]
   .exact e
   .intro z;subst z;exact ha (by show B a≠OO;rw[l];simp),rfl⟩
  refine⟨B,D,M,β1,x,G,g++[y],p++[d],r,q,I,L,l,by rw[am,tw N O],by simp[N],bb.append (bb.tr j _ _ (bb.tr i.tr _ _ V)) (bb.cons (c4.tr j _ _ Y) bb.nil),e,?_⟩;rw[Qs];exact kX.pre (i.x.trans s2) k
 .rename_i Ce β1 t
  cases e;refine⟨.error Ce,_,t,λm A=>?_⟩;obtain⟨b,i⟩:=ok.to rfl A;exact k T B m i.x b.fr
 .cases e
end
open Classical in
def oG(m:Nat)(a:IP):a0c->M a0c:=λw D=>if h:∃r,∀x,a (o1 m (.adr x::w)) [] D=on r then on h.choose else OO
theorem GF(h:∀x,b (o1 m (.adr x::c)) [] d=on r):oG m b c d=on r:=by
 have a:∃r,∀x,b (o1 m (.adr x::c)) [] d=on r:=⟨r,h⟩;unfold oG;rw[dif_pos a];have:=a.choose_spec 0;rw[h 0]at this;exact this.symm
theorem DN(h:oG m b c d=on r):∀x,b (o1 m (.adr x::c)) [] d=on r:=by
 unfold oG at h;split at h
 .rename_i a
  have:=a.choose_spec;cases h;exact this
 .cases h
section
variable{P:PN}{w:PV}{K:Pk}{mg:a0j}{aa:Qg}
theorem JY{st:Qk}{N ps G:a0i}(n m:Nat)(ip:IP)(F:hV K x qual st f fd)(S:b5 N ps (ae st))(O:ps.length=n+1)(R:N.length=m)
  (p:∀(i:OX) (A:Qn) (D:a0B) (s:O3) (H:Hp) (E:XK),ej k (A.deeper (TV qual (ae st) s.heap.objs.size f i))->
   PSs (c9 (gs P w) P w K mg aa N qual (ae st) f i A D s H E) (cz st) (tI K H C [] G ip (λ_=>E))):et P w K mg aa (gs P w) (k+1) f fd ps (spI K C G n (oG m ip)):=by
 subst R;refine F.okE S (λvs H Q E h=>?_) λi A D s H vs Q E hr h=>?_
 .obtain⟨y,M,j,ds,β,dx,rfl,hl,_⟩:=h
  rw[Pg,hl,O]
 obtain⟨y,M,j,ds,β,dx,rfl,hl,fr,T,nb,hH,hd,r,d,e,h⟩:=h;refine⟨_,p i A D s H E hr,?_⟩;have U:bb K j H (.adr y::ds) (.ref y::M):=bb.cons rfl hd;obtain⟨B,ok,L,h1,hn⟩:=u5 (N:=N) fr U;have hy:B y=on 0:=by
  rcases L y T with z|z
  .exact z
  .obtain⟨b,l,q,w⟩:=h1 y z
   obtain⟨W,X⟩:=nb b l q;rcases w with w|w
   .exact Px w W
   .exact Px w X
 have v:∀{u:Ow} {g:Hp} {d:Bg},o0 y B H u g->Fr (en u j.bg) g d->ToX j y H g d/\Tr (en u j.bg) g j g:=λ{u g d} s c=>by
  have hs:∀a,j.A a->u a≠OO:=λa V=>by
   rw[s.tg a (L a V)];rcases L a V with z|z<;>rw[z]<;>simp
  refine⟨⟨λa o ne V n=>s.kp a o ne V ?_,λa V=>c.occ a (hs a V),λb l e=>fr.bgA b l e,c.bag⟩,λa V _ z=>V (hs a z),λ_ _ _ h=>h,rfl⟩;cases q:B a with
  |none=>exact .inl rfl
  |some t=>
   have:=L a (hn a (by rw[q];simp));rcases this with z|z
   .rw[q]at z;exact .inr z
   .obtain⟨b,l,e,w⟩:=h1 a z
    obtain⟨W,X⟩:=n b l e;rcases w with w|w
    .exact Px w W
    .exact Px w X
 refine⟨B,j.bg,o1 N.length (.adr y::ds),β,y,dx,[],[],r,d,ok,rfl,hy,hH,rfl,bb.nil,DN e y,?_⟩;cases r with
 |ok es=>
  intro Y u g vs s c Z I J;obtain⟨t1,t2⟩:=v s c;exact h g vs t1 Z I (bb.tr t2 _ _ J)
 |error Ce=>
  intro Y u g s c;exact h g (v s c).1
variable{X:Cx}{E:a0r}{d:Qk}
variable{h:G}{b:Ds}{c a:Bg}{Q:a0z}{i:Nat}{f:FD}
end
section
variable{C t:OS}{m:PX}{e:a0i}{l:a0c->M D}{q:a0c->M a0c}{n:FD}{g s:FL}{o k as ks:a0c}{p:List (Sr D)}{δ:Dn}{β β1 β2 b:Bg}{r:Except OS D×Bg}{d:D}{f:PX}{h:G}{Q:a0z}{i:Nat}{a:Ds}
theorem f7{d:Type}{l:a0c->M d}{r:Except OS d×Bg}(a:n δ β=on (.ok (.obj C e k),β1))(b:g δ β1=on (.ok as,β2))(c:l (.obj C e k::(as++o)) β2=on r)(f:m∉e:=by decide):rc C m l n g o δ β=on r:=by
 unfold rc;rw[M.bind_ok a];simp only[f,not_false_eq_true,and_self,Qm];rw[M.bind_ok b];exact c
theorem kZ(a:x δ β=on (.ok (.obj C e k),β1))(b:(e.zip k).lookup f=on d):f1 (zu C f) x δ β=on (.ok d,β1):=by
 refine x_1 a ?_;unfold zu;simp only[Qm];exact b
theorem DJ{g:G}{δ δ1:Ds}{r:Except OS a0c×Bg}(e:g δ β=on (.nx δ1,β1))(a:δ[0]?=on (on (.sh (.adr x))))(b:δ1[0]?=on (on (.sh (.adr x))))(k:c δ1 done β1=on r):oF g c δ done β=on r:=by
 unfold oF;simp only[e,a,b,Qm];exact k
theorem qW{f:FD}{δ:Ds}{d:D}{r:Except OS a0c×Bg}(e:f (vw δ) β=on (.ok d,β1))(k:c δ (done++[d]) β1=on r):jZ f c δ done β=on r:=by
 unfold jZ;rw[e];exact k
noncomputable def y0{a:Type}(d:a)(c:Nat)(ba:List (List a)):List (List a):=(O6 c).map λj=>ba.map λb=>b.getD j d
abbrev tp(c:Nat)(ba:LI):LI:=y0 0 c ba
theorem rJ{b:Type}{d:b}{r c:Nat}{e:List (List b)}(h:e.length=r):jn c r (y0 d c e):=⟨by simp[y0],λf a=>by
 obtain⟨j,_,rfl⟩:=Pe.mp a;rw[ON,h]⟩
theorem Kr{b:Type}{d:b}{e:List (List b)}(h:j<c):(y0 d c e)[j]?=on (e.map λa=>a.getD j d):=by
 unfold y0;rw[OY,Qr h];rfl
theorem yA{d:Int}:∀(a:a0e),(O6 a.length).map (λj=>a.getD j d)=a:=λa=>by
 refine Zq λi=>?_;rw[OY];by_cases h:i<a.length
 .rw[Qr h]
  show on (a.getD i d)=_;rw[OU,OV h];rfl
 .rw[Ru (by simpa using h),Ru (by lia)];rfl
theorem rL{a:Type}(f g:a->Int):∀l:List a,(l.map λx=>f x+g x).sum=(l.map f).sum+(l.map g).sum
 |[]=>by simp
 |x::l=>by
  simp only[O9,PD,rL f g l];lia
theorem pw{a:Type}:∀l:List a,(l.map λ_=>(0:Int)).sum=0
 |[]=>rfl
 |x::l=>by simp only[O9,PD,pw l];rfl
theorem AE:∀{ba:LI},(∀row∈ba,row.length=c)->tot (tp c ba)=tot ba
 |[],_=>by
  show((y0 0 c []).map QZ).sum=0;unfold y0;rw[O7];exact pw (O6 c)
 |row::ba,h=>by
  have d:=AE (c:=c) (ba:=ba) λx b=>h x (OR _ b);have a:=h row OZ;unfold tot tp y0 at d⊢;rw[O7]at d⊢;have e:(λj=>(QZ ((row::ba).map λrow=>row.getD j 0)))=λj=>row.getD j 0+(ba.map λrow=>row.getD j 0).sum:=by
   funext j;rw[O9,PD]
  show((O6 c).map λj=>(QZ ((row::ba).map λrow=>row.getD j 0))).sum=_;rw[e,rL,<-a,yA,a,O9,PD];congr 1
theorem Hg(h:∀row∈ba,∀x∈row,0<=x):∀row∈tp c ba,∀x∈row,0<=x:=λrow a x b=>by
 obtain⟨j,_,rfl⟩:=Pe.mp a;obtain⟨q,k,rfl⟩:=Pe.mp b;rw[OU];cases e:q[j]? with
 |none=>exact WE 0
 |some y=>exact h q k y (Pj e)
end
end L2.Pu
namespace L2.Pu
def iA(ns:a0e):Int:=ns.foldl RT (ns.headD 0)
theorem m_:∀(w:a0e) (z:Int),w.foldl RT z<=z/\(∀a∈w,w.foldl RT z<=a)/\(w.foldl RT z=z\/w.foldl RT z∈w)
 |[],z=>⟨WE _,λ_ h=>(by cases h),.inl rfl⟩
 |x::w,z=>by
  obtain⟨c,b,h3⟩:=m_ w (RT z x);show w.foldl RT (RT z x)<=z/\_/\(w.foldl RT (RT z x)=z\/_);refine⟨by lia,λa ha=>?_,?_⟩
  .rcases Pb.mp ha with rfl|ha
   .show w.foldl RT (RT z a)<=a
    lia
   .exact b a ha
  .rcases h3 with h3|h3
   .by_cases q:z<=x
    .exact .inl (by rw[h3];lia)
    .exact .inr (by rw[Pb];left;rw[show Vi RT z (x::w)=w.foldl RT (RT z x)from rfl,h3];lia)
   .exact .inr (OR _ h3)
theorem Gm(h:ns≠[]):iA ns∈ns:=by
 cases ns with
 |nil=>exact Px rfl h
 |cons x ns=>
  rcases(m_ (x::ns) x).2.2 with h|h
  .unfold iA
   show(x::ns).foldl RT x∈_;rw[h];exact OZ
  .exact h
theorem JF(h:a∈ns):iA ns<=a:=(m_ ns _).2.1 a h
theorem vT{ns:a0e}{m:Int}(b:m∈ns)(c:∀a∈ns,m<=a):m=iA ns:=by
 have:=c _ (Gm (ns:=ns) λz=>by rw[z]at b;cases b);have:=JF b;lia
section
variable{X:Cx}
theorem wE{w:Array (Int×Tok)}(E:0<w.size)(e:w.toList.map (·.1)=ns):WW w (argBest (λi j=>decide (WW w i<WW w j)) (w.size-1))=iA ns:=by
 obtain⟨d,b⟩:=argBest_lt (WW w) (w.size-1);refine vT ?_ λa D=>?_
 .rw[numAt_eq,e];exact getD_mem (by rw[<-e,ON,PP];lia)
 .obtain⟨j,c,rfl⟩:=mem_getD D
  rw[<-e,ON,PP]at c;rw[<-e,<-numAt_eq];exact b j (by lia)
variable{p:PN}{w:PV}{A:Qn}{E:a0d}{s:O3}{l:OS}{x:Array (Int×Tok)}
theorem Gd(g:A.handled=OO)(c:s.heap.IsTuple l (Tz x))(d:0<x.size)
  (h:∀v D f,(Tz x)[argBest (λi j=>decide (WW x i<WW x j)) (x.size-1)]?=on v->(∀b o,s.heap.get? b=on o->D.get? b=on o)->Q v {s with heap:=D,toks:=f}):
  Pc (Pt p w) A (Vg (.builtin "min") [.ref l]) Q E s:=by
 have a:l<s.heap.objs.size:=by obtain⟨_,e,_⟩:=c;exact Ps e
 refine call_min_walk (U9 c ⟨_,_,_,_,_,_,_,rfl,Walks.tuple (A:=A.in1) g _ l (P4 a) (Tz x),⟨⟨_,Ph _ rfl,rfl,rfl⟩,c.at λo e=>OQ _ e⟩,λb hb=>?_,by simpa[Tz]using d,CmpOf.ints_lt (WW x) (λ_ _=>Xu),λv D f k m=>?_⟩)
 .show b<(s.heap.push _).objs.size
  rw[Qw];rcases Pb.mp hb with rfl|hb
  .exact T9 _
  .rcases Pb.mp hb with rfl|hb
   .exact TN a
   .cases hb
 .exact h v D f (by simpa[Tz]using k) λb o e=>m b o (λhm=>by
   rcases Pb.mp hm with n|hm
   .exact Px (n▸Ps e) (Qh _)
   .cases hm) (OQ _ e)
variable{K:Pk}
abbrev Ht(K:Pk):a0k->Hp->VK->Prop:=λx H Q=>∃(p:OS) (l:a0e),x=[.ref p]/\(fx K H p (l.map V.int)\/io K H p (l.map V.int))/\l≠[]/\Q (.int (iA l)) H
theorem EL(hc:X.calm=OT):cM X (.builtin "min") (Ht X.K):=by
 intro f s o H x M Q I r h;obtain⟨p,w,rfl,hq,c,q⟩:=h;obtain⟨u,rfl,j⟩:=gG r;cases j;have E:∀{l:a0g},aw (w.map V.int) l->∃x:Array (Int×Tok),l.toArray=Tz x/\x.toList.map (·.1)=w/\0<x.size:=λ{l} b=>by
  have g:=lL b;obtain⟨x,A⟩:=g.allInts.items;have a:=g.numsOf;have k:l=(Tz x).toList:=by rw[<-A]
  rw[k,YV]at a;refine⟨x,A,a,?_⟩;have:(x.toList.map (·.1)).length=w.length:=by rw[a]
  rw[ON,PP]at this;cases w with
  |nil=>exact Px rfl c
  |cons=>rw[this];exact Nat.succ_pos _
 rcases hq with hq|hq
 .obtain⟨l,b,pl,m⟩:=I.list hq
  obtain⟨x,A,a,D⟩:=E b;have i:=pl.isList;rw[A]at i;refine min_intList (I.ok.hd hc) i D λv G n d e=>?_;obtain⟨t,rfl⟩:=Xu d;rw[wE D a];exact⟨.int (iA w),H,I.kept e,⟨_,rfl⟩,q⟩
 .obtain⟨l,b,pl,m⟩:=I.tuple hq
  obtain⟨x,A,a,D⟩:=E b;rw[A]at pl;refine Gd (I.ok.hd hc) pl D λv G n d e=>?_;obtain⟨t,rfl⟩:=Xu d;rw[wE D a];exact⟨.int (iA w),H,I.kept e,⟨_,rfl⟩,q⟩
def yP:Option a0e->a0l
 |some (n::ns)=>on (.int (iA (n::ns)))
 |_=>OO
def HH:a0c->a0l
 |[.lst x]=>yP (dS x)
 |[.tup x]=>yP (dS x)
 |_=>OO
theorem tE(e:yP o=on d):∃l,o=on l/\l≠[]/\d= .int (iA l):=by
 match o,e with
 |some (n::l),e=>cases e;exact⟨_,rfl,(λz=>by cases z),rfl⟩
theorem L5:dB K (Ht K) HH:=λF H s Q w d A fr h e k=>by
 unfold HH at e;split at e
 .rename_i x
  obtain⟨l,q,b,rfl⟩:=tE e;obtain⟨v,rfl,g⟩:=bb.one h;obtain⟨a,p,rfl,r,c⟩:=c4.sqL g;rw[g_ q]at c;have f:=bb.ints l c;subst f;exact⟨a,l,rfl,.inl r,b,k _ H (To.refl fr) rfl⟩
 .rename_i x
  obtain⟨l,q,b,rfl⟩:=tE e;obtain⟨v,rfl,g⟩:=bb.one h;obtain⟨a,p,rfl,r,c⟩:=c4.sqT g;rw[g_ q]at c;have f:=bb.ints l c;subst f;exact⟨a,l,rfl,.inr r,b,k _ H (To.refl fr) rfl⟩
 .cases e
end
end L2.Pu
namespace L2
end L2
namespace L2.Pu
section
variable{X:Cx}{E:a0r}{K:Pk}{f k c:Expr}{e:List Expr}{b:a0O}{a:Scope}{d:Uh}{m l:a0i}{j:a0a}{g:TG}{i:a0W}
variable{f:Qk}{a:Hp}{B:Ow}{g:a0s}{H h:Hp}{d:Ds}{e b:Bg}{c:St}
theorem lU1{us:a0g}(h:us.length=1):∃a,us=[a]:=XO.mp h
theorem lU2{us:a0g}(h:us.length=2):∃c d,us=[c,d]:=by
 obtain⟨a,l,rfl⟩:=RI h;obtain⟨b,rfl⟩:=lU1 (us:=l) (by simpa using h);exact⟨_,_,rfl⟩
theorem lU3{us:a0g}(h:us.length=3):∃d e f,us=[d,e,f]:=by
 obtain⟨a,l,rfl⟩:=RI h;obtain⟨b,c,rfl⟩:=lU2 (us:=l) (by simpa using h);exact⟨_,_,_,rfl⟩
theorem lU4{us:a0g}(h:us.length=4):∃e f g i,us=[e,f,g,i]:=by
 obtain⟨a,l,rfl⟩:=RI h;obtain⟨b,c,d,rfl⟩:=lU3 (us:=l) (by simpa using h);exact⟨_,_,_,_,rfl⟩
theorem lU5{us:a0g}(h:us.length=5):∃f g i j k,us=[f,g,i,j,k]:=by
 obtain⟨a,l,rfl⟩:=RI h;obtain⟨b,c,d,e,rfl⟩:=lU4 (us:=l) (by simpa using h);exact⟨_,_,_,_,_,rfl⟩
end
section
variable{X:Cx}{E:a0r}{e q o z B i:Expr}{u:List Expr}{t p:Uh}{f1 f2 I J d:FD}{g:FL}{k j n:Nat}{f:OS}{y:Pp}{v:a0i}{x:PX}{a:a0c->a0l}{r:a0M}{c T:String}
theorem vv(i:Nat){x:PX}(b:X.N[i]?=on x:=by rfl)(c:Vis X.env.scope x:=by first|exact RH rfl|exact Tc (RH rfl)|exact Tc (Tc rfl))(d:b0c x:=by decide)
  (a:(x==("__classdict__":PX))=OW:=by decide):PE X (.Name x t) (tV X.K (ao i) E):=M8 i (pv i b c d a)
theorem d4(a:PE X q (tV X.K f1 E))(b:b0a X q []:=by rfl):PA X [q] (i4 X.K (aj f1 aK) E):=eZ a f9 b
theorem ee(a:PE X q (tV X.K f1 E))(b:PE X o (tV X.K f2 E))(c:b0a X q [o]:=by rfl)(d:b0a X o []:=by rfl):PA X [q,o] (i4 X.K (aj f1 (aj f2 aK)) E):=eZ a (d4 b d) c
theorem lp(a:PE X q (tV X.K f1 E))(b:PE X o (tV X.K f2 E))(c:PE X z (tV X.K I E))(d:b0a X q [o,z]:=by rfl)(h:b0a X o [z]:=by rfl)(i:b0a X z []:=by rfl):PA X [q,o,z] (i4 X.K (aj f1 (aj f2 (aj I aK))) E):=eZ a (ee b c h i) d
theorem t_(a:PE X q (tV X.K f1 E))(b:PE X o (tV X.K f2 E))(c:PE X z (tV X.K I E))(d:PE X B (tV X.K J E))(h:b0a X q [o,z,B]:=by rfl)(i:b0a X o [z,B]:=by rfl)(l:b0a X z [B]:=by rfl)(m:b0a X B []:=by rfl):PA X [q,o,z,B] (i4 X.K (aj f1 (aj f2 (aj I (aj J aK)))) E):=eZ a (lp b c d i l m) h
theorem T_(c:Dn)(d:Bg)(r:a0c)(a:Bg)(h:aK c d=on (.ok r,a)):r.length=0:=GY h
structure FB (P:PN) (w:PV) (K:Pk) (mg:a0j) (base:Qg) (k:Nat) (x:PX) (f:OS) (y:Pp) (v:a0i) (n:Nat) (m:a0c->M D):Prop where
 ok:et P w K mg base (gs P w) k f y v (Im K n m)
 m:mg x=on (.ref f)
 kp:U7 K (.ref f)=OT
 b:cA K y v []
theorem vc(G:FB X.prog X.w X.K X.mg X.base j x f y v n m)(h:ej k X.A)(z:PA X (e::u) (i4 X.K g E))(i:j<=k:=by decide)(l:bV (gs X.prog X.w) X E:=by first|exact gQ|exact oj|assumption)(o:Gl X x:=by rfl)
  (B:∀D I r d,g D I=on (.ok r,d)->r.length=n:=by repeat (first|exact T_|apply bJ)) (a:b0c x:=by decide) (q:b0a X e u:=by rfl) (c:b0b X t u:=by rfl):
  PE X (.Call (.Name x p) (e::u) [] t) (tV X.K (d7 m g) E):=z5 G.ok (h.mono i) o G.m G.kp G.b l z B a q c
theorem ck(d:X.mg "len"=OO)(f:PA X (e::u) (i4 X.K g E))(b:Gl X "len":=by rfl)(c:b0a X e u:=by rfl)(a:b0b X t u:=by rfl):PE X (.Call (.Name "len" p) (e::u) [] t) (tV X.K (aT fA g) E):=bO ny NV b d PySem.boot_len f (by decide) (by decide) c a
theorem gb(d:X.mg "sum"=OO)(f:PA X (e::u) (i4 X.K g E))(b:Gl X "sum":=by rfl)(hc:X.calm=OT:=by rfl)(c:b0a X e u:=by rfl)(a:b0b X t u:=by rfl):PE X (.Call (.Name "sum" p) (e::u) [] t) (tV X.K (aT gc g) E):=bO (EK hc) L0 b d Boot.«sum» f (by decide) (by decide) c a
theorem ma(d:X.mg "isinstance"=OO)(f:PA X (e::u) (i4 X.K g E))(b:Gl X "isinstance":=by rfl)(c:b0a X e u:=by rfl)(a:b0b X t u:=by rfl):PE X (.Call (.Name "isinstance" p) (e::u) [] t) (tV X.K (aT jv g) E):=bO EM NW b d Boot.«isinstance» f (by decide) (by decide) c a
theorem iv{c:Scope}(a e:a0i)(d:a0a)(k:c.kind= .function:=by rfl)(f:(c.names.map (·.1)).Nodup:=by decide +kernel)
  (fr:(c.names.all λy=>y.2 != .free||(X.env.scope.names.lookup y.1==on .cell||X.env.scope.names.lookup y.1==on .free))=OT:=by rfl) (g:a=e++d.map (λj=>X.N.getD j SK):=by rfl)
  (b:(d.all λj=>decide (j<X.N.length)&&c.names.lookup (X.N.getD j SK)==on .free)=OT:=by rfl):dc X c a e d:=dc.ofB k f fr g b
theorem f_{a:a0i}(h:a.Nodup:=by decide +kernel):(aL X a b cl C l s H).N.Nodup:=h
theorem d_(i:Nat){x:PX}(a:X.N.Nodup)(b:X.N[i]?=on x:=by rfl)(c:E_ X.env.scope x:=by first|exact RH rfl|exact Tc rfl)(d:b0d X x:=by first|exact .inl rfl|exact .inr rfl|assumption):PG X (.Name x t) (fj i):=xx a b c d
theorem eo(i:Nat){x:PX}{e:Expr}{t a:Uh}(b:X.N.Nodup)(c:PE X e m)(d:X.N[i]?=on x:=by rfl)(h:E_ X.env.scope x:=by first|exact RH rfl|exact Tc rfl)(f:T0 e (on (.Name x a)) t.line X.env=Rh OW:=by rfl)(l:b0d X x:=by first|exact .inl rfl|exact .inr rfl|assumption):PS X (.Assign [.Name x a] e t) (iq m (fj i)):=qI b d h c f l
theorem tx{Q:a0g->Prop}(h:∀a,Q [a])(us:a0g)(b:us.length=1):Q us:=by obtain⟨_,rfl⟩:=lU1 b;exact h _
theorem ri{Q:a0g->Prop}(h:∀a b,Q [a,b])(us:a0g)(c:us.length=2):Q us:=by obtain⟨_,_,rfl⟩:=lU2 c;exact h _ _
theorem pj{Q:a0g->Prop}(h:∀a b c,Q [a,b,c])(us:a0g)(d:us.length=3):Q us:=by obtain⟨_,_,_,rfl⟩:=lU3 d;exact h _ _ _
theorem Z_{Q:a0g->Prop}(h:∀a b c d,Q [a,b,c,d])(us:a0g)(i:us.length=4):Q us:=by obtain⟨_,_,_,_,rfl⟩:=lU4 i;exact h _ _ _ _
theorem fh{N Q:a0i}{c:Scope}(a:c.kind= .function:=by rfl)(b:c.isCoroutine=OW:=by rfl)(g:c.isGenerator=OW:=by rfl)(d:N.Nodup:=by decide +kernel)(e:N.take Q.length=Q:=by rfl)(f:∀x∈Q,c.names.lookup x=on .local\/c.names.lookup x=on .cell:=by decide +kernel)(h:∀y∈c.names,y.2≠ .free:=by decide +kernel):b5 N Q c:=⟨a,b,g,d,e,f,h⟩
structure f0 (K:Pk) (mg:a0j) (x:PX) (st:Qk) (f:OS) (y:Pp) (v:a0i):Prop where
 F:hV K x x st f y
 m:mg x=on (.ref f)
 b:cA K y v []
theorem g0{P:PN}{w:PV}{K:Pk}{mg:a0j}{base:Qg}{x:PX}{e:Qk}{f:OS}{y:Pp}{N v:a0i}{k n:Nat}{g:G}(m:Nat)(F:f0 K mg x e f y v)(S:b5 N v (ae e))(a:∀(c:OX) (A:Qn) (d:a0B) (s:O3) (H:Hp) (E:XK),ej k (A.deeper (TV x (ae e) s.heap.objs.size f c))->PSs (c9 (gs P w) P w K mg base N x (ae e) f c A d s H E) (cz e) (tG K H g (λ_=>E)))(i:v.length=n:=by rfl)(j:N.length=m:=by rfl):FB P w K mg base (k+1) x f y v n (fq m g):=⟨m7 n m g F.F S i j a,F.m,F.F.kp,F.b⟩
def Al:List Prop->Prop
 |[]=>True
 |p::l=>p/\Al l
theorem az{p:Prop}(h:p)(t:Al l):Al (p::l):=⟨h,t⟩
theorem MP:∀{l:List Prop},Al l->∀i,l.getD i True
 |[],_,_=>trivial
 |_::_,h,0=>h.1
 |_::_,h,i+1=>MP h.2 i
end
end L2.Pu
namespace L2
section
variable{a:PN}{w:PV}{A:Qn}{E:a0d}{s:O3}{K:Pk}
variable{X:Cx}
end
namespace Pu
section
variable{X:Cx}{E:a0r}
end
end Pu
end L2
namespace L2.Pu
section
variable{X:Cx}{E:a0r}{a b:Expr}{l:Uh}{k:Nat}{f C:OS}{m:Pp}{ps:a0i}{K:Pk}
structure IsC (K:Pk) (C:OS):Prop where
 cl:t7 K C
 ha:RX K (.ref C) "__class__"=on (on (.builtin "object.__class__"))
 hn:specialIn K (.builtin "object.__class__") "__get__"=on (on (.builtin "getset_descriptor.__get__"))
 htk:Zb K (.builtin "object.__class__")=on OT
 hm:mroIn K C (.type "object")=on OT
theorem Na{r c:Nat}{a:LI}(b:jn r c a):tp r (tp c a)=a:=by
 obtain⟨e,g⟩:=b;refine Rx (by simp[y0,e]) λi n d=>?_;have h:a[i].length=c:=g _ (P3 d);refine Rx (by simp[y0,h]) λj o l=>?_;have m:j<c:=by lia
 simp[y0,OU,m,d,l]
theorem LV:iM [x,y]=on (.lst [x,y]):=by
 unfold iM;rw[O0 (show[x,y].length<=Pf by rw[Pg,Qa];decide)]
variable{k f e b:Uh}
noncomputable def S(n:Nat)(f:a0K):Int:=((O6 n).map f).sum
theorem MU(f:a0K):S 0 f=0:=rfl
theorem gr(n:Nat)(f:a0K):S (n+1) f=S n f+f n:=by
 unfold S;rw[SH,PR,WJ];simp
theorem dU{f g:a0K}(h:∀i<n,f i=g i):S n f=S n g:=by
 unfold S;rw[PF λi c=>h i (Pw.mp c)]
theorem uR(n:Nat)(f g:a0K):S n (λi=>f i+g i)=S n f+S n g:=rL f g _
theorem nM(n:Nat):S n (λ_=>0)=0:=pw _
theorem OM(n:Nat)(f:a0K):S n (λi=>-f i)=-S n f:=by
 induction n with
 |zero=>rfl
 |succ n a=>rw[gr,gr,a];lia
theorem EZ(n m:Nat)(h:Nat->Nat->Int):S n (λi=>S m (λj=>h i j))=S m (λj=>S n (λi=>h i j)):=by
 induction n with
 |zero=>rw[MU];exact(nM m).symm
 |succ n a=>
  rw[gr,a,<-uR];exact dU λj _=>(gr n _).symm
theorem pz{g:a0K}:∀{l L:a0a},l.Sublist L->L.Nodup->(l.map g).sum=(L.map λx=>if x∈l then g x else 0).sum
 |_,_,.slnil,_=>rfl
 |l,_,.cons a (l₂:=L) h,nd=>by
  have c:=(P7.mp nd);have b:a∉l:=λz=>c.1 (h.subset z);rw[O9,PD,O1 b,pz h c.2,TH]
 |_,_,.cons₂ a (l₁:=l) (l₂:=L) h,nd=>by
  have c:=(P7.mp nd);rw[O9,O9,PD,PD,O0 OZ,pz h c.2];congr 2;refine PF λx e=>?_;have d:x≠a:=λz=>c.1 (z▸e);by_cases q:x∈l
  .rw[O0 q,O0 (OR _ q)]
  .rw[O1 q,O1 λz=>(Pb.mp z).elim d q]
theorem nV{l:a0a}(h:l.Sublist (O6 n)):(l.map g).sum=S n λx=>if x∈l then g x else 0:=pz h Wp
theorem xT{p:Nat->Bool}{g:a0K}:∀l:a0a,((l.filter p).map g).sum=(l.map λx=>if p x=OT then g x else 0).sum
 |[]=>rfl
 |x::l=>by
  rw[Va,O9,PD,<-xT l];by_cases q:p x=OT
  .rw[O0 q,O0 q,O9,PD]
  .rw[O1 q,O1 q,TH]
noncomputable abbrev nI(l:a0a):a0e:=l.map λ(i:Nat)=>(i:Int)
noncomputable abbrev nL(l:a0a):D:= .lst ((nI l).map D.int)
theorem xM:∀a:a0e,Z5 (.int i) (a.map D.int)=decide (i∈a)
 |[]=>rfl
 |x::a=>by
  have b:=xM (i:=i) a;unfold Z5 at b⊢;rw[O9,UW,b];show(decide (x=i)||_)=_;rw[Vn];simp only[WB,P9,Pb];constructor
  .rintro(h|h)
   .exact .inl h.symm
   .exact .inr h
  .rintro(h|h)
   .exact .inl h.symm
   .exact .inr h
theorem tR:∀a:a0e,(a.map D.int).all gn=OT
 |[]=>rfl
 |_::a=>tR a
theorem Ms{b:a0e}{a:Bool}:ZS a (.int i) (.lst (b.map D.int))=on (.bl (if a then !decide (i∈b)else decide (i∈b))):=by
 show(if(gn (.int i)&&(b.map D.int).all gn)=OT then _ else _)=_;rw[tR,Bool.and_true,O0 (show gn (.int i)=OT from rfl),xM]
theorem LS{i:Nat}{l:a0a}:((i:Int)∈nI l)↔i∈l:=by
 constructor
 .intro h
  obtain⟨j,c,e⟩:=Pe.mp h;exact(Int.ofNat.inj e)▸c
 .intro h
  exact Pe.mpr ⟨i,h,rfl⟩
theorem v8{i:Nat}{l:a0a}{a:Bool}:ZS a (.int (i:Int)) (nL l)=on (.bl (if a then !decide (i∈l)else decide (i∈l))):=by
 rw[Ms];simp only[LS]
theorem jz{k:Type}{f:FD}(b:List k)(u v:k->D)(p:k->Bool)(g:it δ β=on (.ok (b.map u),β))
  (i:∀x∈b,∃a,tg (u x) (lg nv cx δ)=on a/\tt a β=on (.ok (p x),β)/\(p x=OT->f a β=on (.ok (v x),β))) (j:b.length<=Pf):c7 nv cx it tg tt (lk f) δ β=on (.ok (.lst ((b.filter p).map v)),β):=by
 refine sD g ?_ (by rw[ON];exact O4 (List.length_filter_le _ _) j);have w:∀b:List k,(∀x∈b,∃a,tg (u x) (lg nv cx δ)=on a/\tt a β=on (.ok (p x),β)/\(p x=OT->f a β=on (.ok (v x),β)))->oa tg tt (lk f) (b.map u) (lg nv cx δ) β=on (.ok ((b.filter p).map v),β):=by
  intro b
  induction b with
  |nil=>intro _;rfl
  |cons x b C=>
   intro h;obtain⟨a,d,c,l⟩:=h x OZ;have e:=C λy m=>h y (OR _ m);rw[O9,oa,Va];cases q:p x with
   |true=>
    rw[q]at c;simp only[d,M.bind,M.ret,c,lk,l q,e,O0,O9,SX,RM]
   |false=>
    rw[q]at c;simp only[d,M.bind,M.ret,c,e,Pq,Qq,RM]
 exact w b i
theorem pe:∀(n:Nat) (a:a0c),cL n a=(O6 a.length).map λ(i:Nat)=>D.tup [.int ((n+i:Nat):Int),a.getD i .non]
 |n,[]=>rfl
 |n,x::a=>by
  rw[cL,pe (n+1) a,Pg,XR,O9,O7];congr 1;refine PF λi _=>?_;simp only[Ux];rw[show n+1+i=n+(i+1) by lia];rfl
noncomputable abbrev bI(b:LP)(i j:Nat):Int×Int:=(b.getD i []).getD j (0,0)
theorem jn.getD{α:Type}{m:List (List α)}(h:jn r c m)(d:i<r):m[i]?=on (m.getD i [])/\(m.getD i []).length=c:=by
 obtain⟨a,e,l⟩:=h.at d;have:m.getD i []=a:=by rw[OU,e];rfl
 rw[this];exact⟨e,l⟩
theorem oQ{a:Type}{l:List a}{i:Nat}{d:a}(h:i<l.length):l[i]?=on (l.getD i d):=by
 rw[OU,OV h];rfl
theorem HW{a:a0e}(h:i<a.length):j0 (.lst (a.map D.int)) (.int (i:Int))=on (.int (a.getD i 0)):=cT (by rw[OY,oQ h];rfl)
theorem v4{b:LP}(a:jn r c b)(g:i<r)(h:j<c):j0 (dE b) (.int (i:Int))=on (.lst ((b.getD i []).map pD))/\j0 (.lst ((b.getD i []).map pD)) (.int (j:Int))=on (pD (bI b i j)):=by
 obtain⟨e,l⟩:=a.getD g;refine⟨oB (by rw[OY,e];rfl),cT ?_⟩;rw[OY,oQ (d:=(0,0)) (by lia)];rfl
noncomputable def qN(a:a0e)(c:a0a):Int:=(c.map λi=>a.getD i 0).sum
def fi(a:a0e)(b:LP)(r:Nat)(c:a0a)(j:Nat):Int:=a.getD j 0-S r λi=>if i∈c then 0 else(bI b i j).1
def f6(b:LP)(c:a0a)(j:Nat):Int:=(c.map λi=>(bI b i j).2).sum
def uw(a:a0e)(b:LP)(r c:Nat)(d e:a0a):Int:=S c λj=>if j∈e then fi a b r d j else f6 b d j
def hF(b:LP)(c d:a0a)(i j:Nat):Int:=(if i∈c/\j∉d then(bI b i j).2 else 0)-(if i∉c/\j∈d then(bI b i j).1 else 0)
theorem Jd{b:LP}{d e:a0a}(h:d.Sublist (O6 r))(g:e.Sublist (O6 c)):
  uw cs b r c d e=qN cs e+S r λi=>S c λj=>hF b d e i j:=by
 unfold uw qN;rw[nV g,EZ,<-uR];refine dU λj l=>?_;by_cases q:j∈e
 .rw[O0 q,O0 q]
  unfold fi;rw[Int.sub_eq_add_neg,<-OM];congr 1;refine dU λi g=>?_;unfold hF;by_cases z:i∈d
  .simp[z,q]
  .simp[z,q]
 .rw[O1 q,O1 q,TH]
  unfold f6;rw[nV h];refine dU λi g=>?_;unfold hF;by_cases z:i∈d
  .simp[z,q]
  .simp[z,q]
end
end L2.Pu
namespace L2.Pu
section
variable{X:Cx}{K:Pk}
variable{E:a0r}{o e:Expr}{b a:Uh}
theorem wU(c:Nat->Ds->Bg->Prop)
  (K:∀n w D,c n w D->(∃β1,t (hE w) D=on (.ok OW,β1)/\Gw h w β1 Q)\/∃β1,t (hE w) D=on (.ok OT,β1)/\Gw g w β1 (λo G=>∃E,o= .nx E/\∃m,m<n/\c m E G)):
  ∀(n:Nat) (w:Ds) (D:Bg),c n w D->Gw (aJ (Z6 t g) h) w D Q:=by
 have M:∀(n:Nat) (w:Ds) (D:Bg),c n w D->∃k a b,b6 t g k w D=on (.nx a,b)/\Gw h a b Q:=by
  intro n
  induction n using WQ with
  |_ n ih=>
   intro w D hI;rcases K n w D hI with⟨β1,e,k⟩|⟨β1,e,k⟩
   .exact⟨1,w,β1,by unfold b6;simp only[e],k⟩
   .obtain⟨o,G,f,E,rfl,m,hm,d⟩:=k
    obtain⟨k,a,b,i,j⟩:=ih m hm E G d;exact⟨k+1,a,b,by unfold b6;simp only[e,f,i],j⟩
 intro n w D hI;obtain⟨k,a,b,e,l⟩:=M n w D hI;exact dF (MA e) l
end
end L2.Pu
namespace L2.Pu
noncomputable def MB:G:=λ_ _=>OO
theorem dL{w:Qk}{K:Pk}{E:a0r}:PS X w (tG K H MB E):=λ_ _ _ _ _ _ h=>by
 obtain⟨_,_,_,_,_,_,_,e,_⟩:=h;cases e
section
variable{j:PN}{w:PV}{A:Qn}{E:a0d}{s:O3}{l:OS}{n:Array (Int×Tok)}
theorem Fo(f:A.handled=OO)(c:s.heap.IsTuple l (Tz n))
  (h:∀D d G,(∀b o,s.heap.get? b=on o->D.get? b=on o)->Q (.int (preSum (WW n) n.size) G) {s with heap:=D,toks:=d}):
  Pc (Pt j w) A (Vg (.builtin "sum") [.ref l]) Q E s:=by
 have a:l<s.heap.objs.size:=by obtain⟨_,e,_⟩:=c;exact Ps e
 refine call_sum_walkG (U9 c ⟨_,_,_,_,_,_,WW n,rfl,Walks.tuple (A:=A.in1) f _ l (P4 a) (Tz n),⟨⟨_,Ph _ rfl,rfl,rfl⟩,c.at λo e=>OQ _ e⟩,λb hb=>?_,(λ_ _=>Xu),λD d G g=>?_⟩)
 .show b<(s.heap.push _).objs.size
  rw[Qw];rcases Pb.mp hb with rfl|hb
  .exact T9 _
  .rcases Pb.mp hb with rfl|hb
   .exact TN a
   .cases hb
 .have:=h D d G λb o e=>g b o (λhm=>by
   rcases Pb.mp hm with i|hm
   .exact Px (i▸Ps e) (Qh _)
   .cases hm) (OQ _ e)
  simpa[Tz]using this
variable{X:Cx}{K:Pk}
abbrev Ho(K:Pk):a0k->Hp->VK->Prop:=λn H Q=>∃(p:OS) (j:a0e),n=[.ref p]/\(fx K H p (j.map V.int)\/io K H p (j.map V.int))/\Q (.int j.sum) H
theorem EJ(hc:X.calm=OT):cM X (.builtin "sum") (Ho X.K):=by
 intro a s d H n E Q I r h;obtain⟨p,l,rfl,hq|hq,q⟩:=h
 .exact tY hc a s d H _ E Q I r ⟨p,l,rfl,hq,q⟩
 .obtain⟨u,rfl,f⟩:=gG r
  cases f;obtain⟨w,g,A,k⟩:=I.tuple hq;have b:=lL g;obtain⟨n,D⟩:=b.allInts.items;have c:=b.numsOf;have i:w=(Tz n).toList:=by rw[<-D]
  rw[i,YV]at c;rw[D]at A;refine Fo (I.ok.hd hc) A λG m M j=>?_;have e:preSum (WW n) n.size=l.sum:=by rw[preSum_eq,RQ (by simp),c]
  rw[e];exact⟨.int l.sum,H,I.kept j,⟨_,rfl⟩,q⟩
def qj:a0c->a0l
 |[.lst n]=>(dS n).map λj=> .int j.sum
 |[.tup n]=>(dS n).map λj=> .int j.sum
 |_=>OO
theorem LZ:dB K (Ho K) qj:=λF H s Q w d A fr h e k=>by
 unfold qj at e;split at e
 .rename_i n
  obtain⟨j,q,rfl⟩:=Vc.mp e;obtain⟨v,rfl,g⟩:=bb.one h;obtain⟨a,l,rfl,r,b⟩:=c4.sqL g;rw[g_ q]at b;have c:=bb.ints j b;subst c;exact⟨a,j,rfl,.inl r,k _ H (To.refl fr) rfl⟩
 .rename_i n
  obtain⟨j,q,rfl⟩:=Vc.mp e;obtain⟨v,rfl,g⟩:=bb.one h;obtain⟨a,l,rfl,r,b⟩:=c4.sqT g;rw[g_ q]at b;have c:=bb.ints j b;subst c;exact⟨a,j,rfl,.inr r,k _ H (To.refl fr) rfl⟩
 .cases e
theorem KD(j:a0e):qj [.lst (j.map D.int)]=on (.int j.sum):=e9 j
theorem KC(j:a0e):qj [.tup (j.map D.int)]=on (.int j.sum):=e9 j
end
end L2.Pu
namespace L2.Hs
open PySem.SetTable
def Rs(w:a0y):Prop:=∀i k x y:Nat,i<k->w[i]?=on x->w[k]?=on y->x<y
theorem pZ{E:a0y}(r:Rs E):∀(fuel D c:Nat),D<=c->c<=E.size->c-D<=fuel->(∀i x,i<D->E[i]?=on x->x<j)->(∀i x,c<=i->E[i]?=on x->j<=x)->
  below.go E j fuel D c<=E.size/\(∀i x,i<below.go E j fuel D c->E[i]?=on x->x<j)/\∀i x,below.go E j fuel D c<=i->E[i]?=on x->j<=x
 |0,D,c,h1,h2,h3,a,b=>by
  have:D=c:=by lia
  subst this;exact⟨h2,a,b⟩
 |fuel+1,D,c,h1,h2,h3,a,b=>by
  unfold below.go;by_cases q:D<c
  .rw[O0 q]
   simp only;have G:(D+c)/2<E.size:=by lia
   have e:E[(D+c)/2]?=on (E.getD ((D+c)/2) j):=by simp[Sc,G]
   by_cases z:E.getD ((D+c)/2) j<j
   .rw[O0 z]
    refine pZ r fuel _ _ (by lia) h2 (by lia) (λi x f d=>?_) b;by_cases w:i=(D+c)/2
    .subst w
     rw[e]at d;cases d;exact z
    .exact Uu (r i ((D+c)/2) x _ (by lia) d e) z
   .rw[O1 z]
    refine pZ r fuel _ _ (by lia) (by lia) (by lia) a (λi x f d=>?_);by_cases w:i=(D+c)/2
    .subst w
     rw[e]at d;cases d;lia
    .have:=r ((D+c)/2) i _ x (by lia) e d
     lia
  .rw[O1 q]
   have:D=c:=by lia
   subst this;exact⟨h2,a,b⟩
theorem jA{w:a0y}(r:Rs w):below w j<=w.size/\(∀i x,i<below w j->w[i]?=on x->x<j)/\∀i x,below w j<=i->w[i]?=on x->j<=x:=
 pZ r w.size 0 w.size (Qi _) (O5 _) (by lia) (λi x h=>Px h (RN i)) (λi x h e=>by
  have:=(Qb.mp e).1;lia)
theorem GX(r:Rs f)(h:f[i]?=on j):below f j=i:=by
 obtain⟨c,a,b⟩:=jA (j:=j) r;rcases SO (below f j) i with q|q|q
 .have d:=(Qb.mp h).1
  have e:f[below f j]?=on f[below f j]:=getElem?_pos f _ (by lia);have:=b _ _ (O5 _) e;have:=r _ _ _ _ q e h;lia
 .exact q
 .have:=a _ _ q h
  lia
theorem sV{t:Ql}(r:Rs t.place)(h:t.place[i]?=on j):t.slot j= .live i:=by
 unfold slot;simp only[GX r h,h,Wn,Qm]
theorem yt{t:Ql}(d:t.dummies=#[])(h:∀i:Nat,t.place[i]?≠on j):t.slot j= .empty:=by
 unfold slot;have a:(t.place[below t.place j]?==on j)=OW:=by
  rw[Xz];exact h _
 have b:has t.dummies j=OW:=by unfold has;rw[d];rfl
 simp only[a,b,Pq,Qq]
noncomputable def e_(t:Ql):Nat->Probe->Probe
 |0,p=>p
 |n+1,p=>e_ t n (t.advance p)
theorem pP(t:Ql):∀(n:Nat) (p:Probe),e_ t (n+1) p=t.advance (e_ t n p)
 |0,p=>rfl
 |n+1,p=>by
  show e_ t (n+1) (t.advance p)=t.advance (e_ t n (t.advance p));exact pP t n (t.advance p)
theorem oC(t:Ql):∀(n m:Nat) (p:Probe),e_ t (n+m) p=e_ t m (e_ t n p)
 |0,m,p=>by rw[QR];rfl
 |n+1,m,p=>by
  rw[show n+1+m=(n+m)+1 by lia];exact oC t n m (t.advance p)
structure Pv (t:Ql) (p:Probe):Prop where
 j:p.j+p.more<=t.mask
 more:p.more<=9
 i:p.i<=t.mask
 pt:p.perturb<2^64
 du:p.dummy=OO
theorem tu{w i:Nat}(h:i<=w):i<=runEnd w i/\runEnd w i<=w/\runEnd w i-i<=9:=by
 unfold runEnd;by_cases q:i+9<=w
 .rw[O0 q];lia
 .rw[O1 q];lia
noncomputable def s_(t:Ql)(i w:Nat):Probe:={j:=i,more:=runEnd t.mask i-i,i,perturb:=w,dummy:=OO}
theorem rq{t:Ql}(h:i<=t.mask)(a:pt<2^64):Pv t (s_ t i pt):=by
 obtain⟨c,d,b⟩:=tu h;refine⟨?_,b,h,a,rfl⟩;show i+(runEnd t.mask i-i)<=t.mask;lia
theorem sR(t:Ql)(h:Int):t.probeStart h=s_ t (bits h % (t.mask+1)) (bits h):=rfl
theorem oP(h:Int):bits h<2^64:=by
 unfold bits;have:=UC h (show(0:Int)<2^64 by decide);have:=Uj h (show(2^64:Int)≠0 by decide);lia
theorem pA(t:Ql)(h:Int):Pv t (t.probeStart h):=by
 rw[sR];exact rq (by have:=Vq (bits h) (show t.mask+1>0 by lia);lia) (oP h)
noncomputable abbrev Q_(w i D:Nat):Nat:=(i*5+1+D/32) % (w+1)
theorem EX{t:Ql}{p:Probe}(h:0<p.more):t.advance p={p with j:=p.j+1,more:=p.more-1}:=by
 unfold advance;rw[O0 h]
theorem ya{t:Ql}{p:Probe}(h:p.more=0)(w:p.dummy=OO):t.advance p=s_ t (Q_ t.mask p.i p.perturb) (p.perturb/32):=by
 unfold advance;rw[O1 (by lia)];unfold leap s_;simp only[w]
theorem yX(w i D:Nat):Q_ w i D<=w:=by
 have:=Vq (i*5+1+D/32) (show w+1>0 by lia);unfold Q_;lia
theorem EW{t:Ql}(v:Pv t p):Pv t (t.advance p):=by
 by_cases q:0<p.more
 .rw[EX q]
  exact⟨by have:=v.j;show p.j+1+(p.more-1)<=t.mask;lia,by have:=v.more;show p.more-1<=9;lia,v.i,v.pt,v.du⟩
 .rw[ya (by lia) v.du]
  exact rq (yX _ _ _) (Q1 (WP _ _) v.pt)
theorem mY:∀(n:Nat) {p:Probe},Pv t p->Pv t (e_ t n p)
 |0,_,v=>v
 |n+1,_,v=>mY n (EW v)
theorem sk:∀(k:Nat) {p:Probe},Pv t p->k<=p.more->e_ t k p={p with j:=p.j+k,more:=p.more-k}
 |0,p,v,h=>by cases p;rfl
 |k+1,p,v,h=>by
  rw[pP,sk k v (by lia)];rw[EX (show 0<p.more-k by lia)];simp only[Probe.mk.injEq,and_true,true_and];lia
theorem pQ{t:Ql}{p:Probe}(v:Pv t p):e_ t (p.more+1) p=s_ t (Q_ t.mask p.i p.perturb) (p.perturb/32):=by
 rw[pP,sk _ v (O5 _)];exact ya (TU _) v.du
def cw(w:Nat):Nat->Nat×Nat->Nat×Nat
 |0,x=>x
 |k+1,x=>cw w k (Q_ w x.1 x.2,x.2/32)
theorem jN(w:Nat):∀(k:Nat) (x:Nat×Nat),cw w (k+1) x=(Q_ w (cw w k x).1 (cw w k x).2,(cw w k x).2/32)
 |0,x=>rfl
 |k+1,x=>jN w k _
theorem v5{t:Ql}:∀(k:Nat) {p:Probe},Pv t p->∃n,n<=10*(k+1)/\e_ t n p=s_ t (cw t.mask (k+1) (p.i,p.perturb)).1 (cw t.mask (k+1) (p.i,p.perturb)).2
 |0,p,v=>⟨p.more+1,by have:=v.more;lia,pQ v⟩
 |k+1,p,v=>by
  obtain⟨n,w,e⟩:=v5 k v;have a:=mY n v;rw[e]at a;refine⟨n+((s_ t (cw t.mask (k+1) (p.i,p.perturb)).1 (cw t.mask (k+1) (p.i,p.perturb)).2).more+1),by have:=a.more;lia,?_⟩;rw[oC,e,pQ a,jN t.mask (k+1)];rfl
def Mk(w:Nat):Prop:=w=7\/w=31\/w=127
noncomputable def P_(w:Nat):Nat->Nat->Nat
 |0,i=>i
 |k+1,i=>P_ w k ((i*5+1) % (w+1))
theorem oo(w:Nat):∀(a b i:Nat),P_ w (a+b) i=P_ w b (P_ w a i)
 |0,b,i=>by rw[QR];rfl
 |a+1,b,i=>by
  rw[show a+1+b=(a+b)+1 by lia];exact oo w a b _
def HB(w:Nat):Bool:=(P_ w (w+1) 0==0)&&(O6 (w+1)).all λj=>(O6 (w+1)).any λk=>P_ w k 0==j
theorem Ly{w:Nat}(h:Mk w):HB w=OT:=by
 rcases h with rfl|rfl|rfl<;>decide +kernel
theorem xy{w i j:Nat}(h:Mk w)(l:i<=w)(m:j<=w):∃k,k<=w/\P_ w k i=j:=by
 have o:=Ly h;unfold HB at o;rw[PL,R8,SW]at o;obtain⟨g,D⟩:=o;obtain⟨a,e,c⟩:=List.any_eq_true.mp (D i (Pw.mpr (by lia)));obtain⟨b,f,d⟩:=List.any_eq_true.mp (D j (Pw.mpr (by lia)));rw[R8]at c d;have:=Pw.mp e;have:=Pw.mp f;by_cases q:a<=b
 .refine⟨b-a,by lia,?_⟩
  rw[<-c,<-oo,show a+(b-a)=b by lia,d]
 .refine⟨b+(w+1)-a,by lia,?_⟩
  rw[<-c,<-oo,show a+(b+(w+1)-a)=(w+1)+b by lia,oo,g,d]
theorem mC(w:Nat):∀(k i:Nat),cw w k (i,0)=(P_ w k i,0)
 |0,i=>rfl
 |k+1,i=>by
  show cw w k (Q_ w i 0,0/32)=_;rw[show(0/32:Nat)=0 from rfl,mC w k];rfl
theorem pE(w:Nat):∀(a b:Nat) (x:Nat×Nat),cw w (a+b) x=cw w b (cw w a x)
 |0,b,x=>by rw[QR];rfl
 |a+1,b,x=>by
  rw[show a+1+b=(a+b)+1 by lia];exact pE w a b _
theorem pC(w:Nat):∀(k:Nat) (x:Nat×Nat),(cw w k x).2=x.2/32^k
 |0,x=>by simp[cw]
 |k+1,x=>by
  rw[jN,pC w k x,XW,X0]
theorem xj(w:Nat):∀(k:Nat) (x:Nat×Nat),x.1<=w->(cw w k x).1<=w
 |0,x,h=>h
 |k+1,x,h=>by rw[jN];exact yX _ _ _
theorem OI{t:Ql}(h:Mk t.mask)(v:Pv t p)(a:j<=t.mask):∃n,n<10*turns t.mask/\(e_ t n p).j=j:=by
 have z:(cw t.mask 13 (p.i,p.perturb)).2=0:=by
  rw[pC];exact Nat.div_eq_of_lt (Pz v.pt (by decide))
 have l:=xj t.mask 13 (p.i,p.perturb) v.i;obtain⟨k,c,e⟩:=xy h l a;obtain⟨n,w,b⟩:=v5 (12+k) v;refine⟨n,by unfold turns;lia,?_⟩;rw[b];show(cw t.mask (12+k+1) (p.i,p.perturb)).1=j;rw[show 12+k+1=13+k by lia,pE,show cw t.mask 13 (p.i,p.perturb)=((cw t.mask 13 (p.i,p.perturb)).1,0)from QI rfl z,mC];exact e
abbrev Lv(t:Ql)(j:Nat):Prop:=∃k:Nat,t.place[k]?=on j
structure Tb (t:Ql) (hs:a0e):Prop where
 km:Mk t.mask
 sz:t.place.size=hs.length
 rs:Rs t.place
 le:∀i j:Nat,t.place[i]?=on j->j<=t.mask
 du:t.dummies=#[]
 nf:t.place.size*5<t.mask*3
 rch:∀(i:Nat) (h:Int) (j:Nat),hs[i]?=on h->t.place[i]?=on j->∃n,(e_ t n (t.probeStart h)).j=j/\∀m<n,Lv t (e_ t m (t.probeStart h)).j
theorem Mk.odd(h:Mk m):m % 2=1/\7<=m/\m<=127:=by
 rcases h with rfl|rfl|rfl<;>decide
theorem gap{D:a0y}(r:Rs D):∀n,n<=D.size->(∀i:Nat,i<n->D[i]?=on i)\/∃j,j<n/\∀i:Nat,D[i]?≠on j
 |0,_=> .inl λi h=>Px h (RN i)
 |n+1,h=>by
  rcases gap r n (by lia)with q|⟨j,c,b⟩
  .have e:D[n]?=on D[n]:=getElem?_pos D n (by lia)
   by_cases z:D[n]=n
   .refine .inl λi d=>?_
    by_cases w:i=n
    .subst w;rw[e,z]
    .exact q i (by lia)
   .have lt:n<=D[n]:=by
     cases n with
     |zero=>lia
     |succ m=>
      have:=r m (m+1) _ _ (by lia) (q m (by lia)) e;lia
    refine .inr ⟨n,by lia,λi a=>?_⟩;rcases SO i n with w|w|w
    .rw[q i w]at a;cases a;lia
    .subst w;rw[e]at a;exact z (PH a)
    .have:=r n i _ _ w e a
     lia
  .exact .inr ⟨j,by lia,b⟩
theorem Mw{w:a0y}(r:Rs w):∃j,j<=w.size/\∀i:Nat,w[i]?≠on j:=by
 rcases gap r w.size (O5 _)with q|⟨j,c,a⟩
 .refine⟨w.size,O5 _,λi e=>?_⟩
  have b:=(Qb.mp e).1;rw[q i b]at e;cases e;lia
 .exact⟨j,by lia,a⟩
theorem Ig{t:Ql}(r:Rs t.place)(d:t.dummies=#[]):∀(fuel:Nat) (p:Probe) (e:Nat),Pv t p->e<fuel->¬Lv t (e_ t e p).j->
  ∃m,m<=e/\(∀a<m,∃i,t.place[i]?=on (e_ t a p).j/\hashAt i≠h)/\
   ((¬Lv t (e_ t m p).j/\probe.go t hashAt h fuel p=on (.empty (e_ t m p).j OO))\/∃i,t.place[i]?=on (e_ t m p).j/\hashAt i=h/\probe.go t hashAt h fuel p=on (.candidate (e_ t m p).j i (e_ t (m+1) p)))
 |0,_,_,_,h,_=>Px h (RN _)
 |fuel+1,p,e,v,hf,he=>by
  unfold probe.go;by_cases q:Lv t p.j
  .obtain⟨i,b⟩:=q
   rw[sV r b];simp only;by_cases z:hashAt i=h
   .refine⟨0,Qi _,λa w=>Px w (RN _),.inr ⟨i,b,z,?_⟩⟩
    rw[O0 (by rw[R8];exact z)];rfl
   .rw[O1 (by rw[R8];exact z)]
    cases e with
    |zero=>exact Px ⟨i,b⟩ he
    |succ e=>
     obtain⟨m,w,D,c⟩:=Ig r d fuel (t.advance p) e (EW v) (by lia) he;refine⟨m+1,by lia,λa f=>?_,c⟩;cases a with
     |zero=>exact⟨i,b,z⟩
     |succ a=>exact D a (by lia)
  .rw[yt d (λi b=>q ⟨i,b⟩)]
   refine⟨0,Qi _,λa w=>Px w (RN _),.inl ⟨q,?_⟩⟩;simp only[v.du];rfl
theorem Tb.free{t:Ql}(T:Tb t hs)(v:Pv t p):∃e,e<10*turns t.mask/\¬Lv t (e_ t e p).j:=by
 obtain⟨j,f,a⟩:=Mw T.rs;have:=T.nf;have:=T.km.odd;obtain⟨e,b,c⟩:=OI T.km v (show j<=t.mask by lia);exact⟨e,b,λ⟨k,d⟩=>a k (by rw[<-c];exact d)⟩
theorem DM{E:Type}{D:Array E}{p:Nat}{x:E}(b:p<=D.size)(i:Nat):(insertAt D p x)[i]?=if i<p then D[i]? else if i=p then on x else D[i-1]?:=by
 unfold insertAt;rw[Array.getElem?_append];have a:((D.extract 0 p).push x).size=p+1:=by simp;lia
 rw[a];by_cases q:i<p
 .rw[O0 (by lia),O0 q,Yl,Yz]
  rw[O1 (by lia),Xw];simp;lia
 .by_cases z:i=p
  .subst z
   rw[O0 (by lia),O1 (by lia),O0 rfl,Yl,Yz];rw[O0 (by lia)]
  .rw[O1 (by lia),O1 q,O1 z,Xw]
   by_cases w:i-1<D.size
   .rw[O0 (by lia)]
    congr 1;lia
   .rw[O1 (by lia),Sw (by lia)]
theorem gm{D:Type}{w:Array D}{p:Nat}{x:D}(a:p<=w.size):(insertAt w p x).size=w.size+1:=by
 unfold insertAt;simp;lia
theorem Tb.put{t:Ql}{hs:a0e}(T:Tb t hs)(B:¬Lv t j)(V:(e_ t n (t.probeStart h)).j=j)(s:∀m<n,Lv t (e_ t m (t.probeStart h)).j)(O:(t.place.size+1)*5<t.mask*3):
  (t.put j).1.dummies=#[]/\(t.put j).1.mask=t.mask/\(t.put j).1.place.size=t.place.size+1/\(t.put j).2<=t.place.size/\Tb (t.put j).1 (hs.take (t.put j).2++h::hs.drop (t.put j).2):=by
 obtain⟨G,C,b3⟩:=jA (j:=j) T.rs;have Q:has t.dummies j=OW:=by unfold has;rw[T.du];rfl
 have A:(t.put j).1.dummies=#[]:=by
  show(if has t.dummies j=OT then _ else t.dummies)=#[];rw[Q,O1 O8,T.du]
 have E:(t.put j).1.place=insertAt t.place (below t.place j) j:=rfl;have g:=λi=>DM (x:=j) G i;have P:∀x,Lv t x->Lv (t.put j).1 x:=λx ⟨k,l⟩=>by
  by_cases q:k<below t.place j
  .exact⟨k,by rw[E,g,O0 q];exact l⟩
  .exact⟨k+1,by rw[E,g,O1 (by lia),O1 (by lia)];exact l⟩
 have K:∀m p,e_ (t.put j).1 m p=e_ t m p:=λm=>by
  induction m with
  |zero=>intro p;rfl
  |succ m R=>intro p;exact R (t.advance p)
 refine⟨A,rfl,by rw[E,gm G],G,⟨T.km,?_,?_,?_,A,?_,?_⟩⟩
 .rw[E,gm G,T.sz]
  have:(t.put j).2<=hs.length:=by rw[<-T.sz];exact G
  simp;lia
 .intro i k x y r c e
  rw[E,g]at c e;have F:∀k,t.place[k]?≠on j:=λk l=>B ⟨k,l⟩;by_cases D:i<below t.place j
  .rw[O0 D]at c
   by_cases S:k<below t.place j
   .rw[O0 S]at e
    exact T.rs i k x y r c e
   .rw[O1 S]at e
    by_cases w:k=below t.place j
    .rw[O0 w]at e;cases e
     exact C i x D c
    .rw[O1 w]at e
     exact T.rs i (k-1) x y (by lia) c e
  .rw[O1 D]at c
   rw[O1 (by lia),O1 (by lia)]at e;by_cases w:i=below t.place j
   .rw[O0 w]at c;cases c
    have L:=b3 (k-1) y (by lia) e;have:y≠j:=λz=>F (k-1) (by rw[e,z]);lia
   .rw[O1 w]at c
    exact T.rs (i-1) (k-1) x y (by lia) c e
 .intro i x c
  rw[E,g]at c;by_cases D:i<below t.place j
  .rw[O0 D]at c;exact T.le i x c
  .rw[O1 D]at c
   by_cases w:i=below t.place j
   .rw[O0 w]at c;cases c
    have v:=mY n (pA t h);have:=v.j;show j<=t.mask;lia
   .rw[O1 w]at c;exact T.le _ x c
 .rw[E,gm G];exact O
 .intro i h' x H c
  have N:(t.put j).2<=hs.length:=by rw[<-T.sz];exact G
  have u:(t.put j).2=below t.place j:=rfl;rw[E,g]at c;have d:(if i<below t.place j then hs[i]? else if i=below t.place j then on h else hs[i-1]?)=on h':=by
   rw[<-H,u];by_cases D:i<below t.place j
   .rw[O0 D,S3 (by rw[Q2];lia),Xo D]
   .rw[O1 D,Rm (by rw[Q2];lia),Q2,Nat.min_eq_left (by lia)]
    by_cases w:i=below t.place j
    .rw[O0 w,w,TU];rfl
    .rw[O1 w,show i-below t.place j=(i-1-below t.place j)+1 by lia,Xy,Y2]
     congr 1;lia
  have f:∀o,hs[o]?=on h'->t.place[o]?=on x->∃n,(e_ (t.put j).1 n ((t.put j).1.probeStart h')).j=x/\∀m<n,Lv (t.put j).1 (e_ (t.put j).1 m ((t.put j).1.probeStart h')).j:=λo a b=>by
   obtain⟨I,J,u⟩:=T.rch o h' x a b;refine⟨I,by rw[K];exact J,λm M=>?_⟩;rw[K];exact P _ (u m M)
  by_cases D:i<below t.place j
  .rw[O0 D]at c d
   exact f i d c
  .rw[O1 D]at c d
   by_cases w:i=below t.place j
   .rw[O0 w]at c d
    cases c;cases d;refine⟨n,by rw[K];exact V,λm M=>?_⟩;rw[K];exact P _ (s m M)
   .rw[O1 w]at c d
    exact f (i-1) d c
theorem v6{t u:Ql}(h:t.mask=u.mask):∀(n:Nat) (p:Probe),e_ t n p=e_ u n p
 |0,p=>rfl
 |n+1,p=>by
  show e_ t n (t.advance p)=e_ u n (u.advance p);have:t.advance p=u.advance p:=by unfold advance;rw[h]
  rw[this];exact v6 h n _
theorem yq{t u:Ql}(h:t.mask=u.mask)(x:Int):t.probeStart x=u.probeStart x:=by unfold probeStart;rw[h]
noncomputable abbrev tm(mask:Nat):Ql:={mask,place:=#[],dummies:=#[],finger:=0,led:=OT,moves:=0,plain:=OT}
noncomputable abbrev fr(owner:a0w)(j:Nat):Bool:=(owner.getD j (on 0)).isNone
theorem xS{w:Nat}{owner:a0w}:∀(fuel i D:Nat),i<=w->D<2^64->(∃b,b<fuel/\fr owner (cw w b (i,D)).1=OT)->
  ∃n,layClean.free w owner fuel i D=on (e_ (tm w) n (s_ (tm w) i D)).j/\fr owner (e_ (tm w) n (s_ (tm w) i D)).j=OT/\∀m<n,fr owner (e_ (tm w) m (s_ (tm w) i D)).j=OW
 |0,_,_,_,_,⟨b,h,_⟩=>Px h (RN b)
 |fuel+1,i,D,hi,hp,⟨b,hb,hf⟩=>by
  have v:=rq (t:=tm w) hi hp;obtain⟨r1,B,C⟩:=tu hi;have f:(s_ (tm w) i D).more=runEnd w i-i:=rfl;have d:∀k,k<=runEnd w i-i->(e_ (tm w) k (s_ (tm w) i D)).j=i+k:=λk c=>by
   rw[sk k v c];rfl
  unfold layClean.free;split
  .rename_i k c
   obtain⟨g,l,o⟩:=List.find?_range_eq_some.mp c;have:=Pw.mp l;refine⟨k,by rw[d k (by lia)],by rw[d k (by lia)];exact g,λm E=>?_⟩;rw[d m (by lia)];have:=o m E;simpa using this
  .rename_i c
   have G:∀k,k<=runEnd w i-i->fr owner (i+k)=OW:=λk p=>by
    have:=List.find?_range_eq_none.mp c k (by lia);simpa using this
   cases b with
   |zero=>
    have r:=G 0 (by lia);exact Px hf (by rw[show(cw w 0 (i,D)).1=i+0 from rfl,r];exact O8)
   |succ b=>
    obtain⟨n,u,y,A⟩:=xS fuel (Q_ w i D) (D/32) (yX _ _ _) (Q1 (WP _ _) hp) ⟨b,by lia,hf⟩;have a:∀m,e_ (tm w) (runEnd w i-i+1+m) (s_ (tm w) i D)=e_ (tm w) m (s_ (tm w) (Q_ w i D) (D/32)):=λm=>by
     rw[oC,<-f,pQ v];rfl
    refine⟨runEnd w i-i+1+n,by rw[a];exact u,by rw[a];exact y,λm E=>?_⟩;by_cases q:m<=runEnd w i-i
    .rw[d m q];exact G m q
    .obtain⟨e,rfl⟩:∃e,m=runEnd w i-i+1+e:=⟨m-(runEnd w i-i+1),by lia⟩
     rw[a];exact A e (by lia)
structure Ow (mask:Nat) (owner:a0w) (hs:a0e):Prop where
 sz:owner.size=mask+1
 lt:∀j k:Nat,owner[j]?=on (on k)->k<hs.length
 un:∀j j' k:Nat,owner[j]?=on (on k)->owner[j']?=on (on k)->j=j'
 cn:owner.toList.countP (·.isSome)=hs.length
 ex:∀(k:Nat) (h:Int),hs[k]?=on h->∃j n:Nat,owner[j]?=on (on k)/\(e_ (tm mask) n ((tm mask).probeStart h)).j=j/\∀m<n,∃k':Nat,owner[(e_ (tm mask) m ((tm mask).probeStart h)).j]?=on (on k')
theorem zt{w:Nat}{owner:a0w}(D:owner.size=w+1){j:Nat}(b:j<=w):(fr owner j=OT↔owner[j]?=on OO)/\(fr owner j=OW↔∃k:Nat,owner[j]?=on (on k)):=by
 have e:owner[j]?=on owner[j]:=getElem?_pos owner j (by lia);have a:owner.getD j (on 0)=owner[j]:=by simp[Sc,show j<owner.size by lia]
 unfold fr;rw[a,e];cases owner[j]<;>simp
theorem Ow.step{D:Nat}{owner:a0w}{E:a0e}(O:Ow D owner E)(h:Int)(G:Mk D)(W:E.length<=D):
  ∃j,layClean.free D owner (turns D) (bits h % (D+1)) (bits h)=on j/\Ow D (owner.setIfInBounds j (on E.length)) (E++[h]):=by
 have u:bits h % (D+1)<=D:=by have:=Vq (bits h) (show D+1>0 by lia);lia
 have⟨v,h1,h2⟩:∃v,v<=D/\fr owner v=OT:=by
  refine RZ λz=>?_;have K:∀a∈owner.toList,Option.isSome a=OT:=λa P=>by
   obtain⟨i,g,e⟩:=VM P;have L:i<owner.size:=by simpa using g
   have N:fr owner i=OW:=by
    cases q:fr owner i with
    |false=>rfl
    |true=>exact Px ⟨i,by have:=O.sz;lia,q⟩ z
   obtain⟨k,A⟩:=(zt O.sz (show i<=D by have:=O.sz;lia)).2.mp N;have:owner[i]?=on a:=by rw[<-SI,OV g,e]
   rw[this]at A;cases A;rfl
  have:=List.countP_eq_length.mpr K;rw[O.cn]at this;have:=O.sz;simp at*;lia
 have z:(cw D 13 (bits h % (D+1),bits h)).2=0:=by
  rw[pC];exact Nat.div_eq_of_lt (Pz (oP h) (by decide))
 have l:=xj D 13 (bits h % (D+1),bits h) u;obtain⟨k,A,e⟩:=xy G l h1;have Q:fr owner (cw D (13+k) (bits h % (D+1),bits h)).1=OT:=by
  rw[pE,show cw D 13 (bits h % (D+1),bits h)=((cw D 13 (bits h % (D+1),bits h)).1,0)from QI rfl z,mC];show fr owner (P_ D k _)=OT;rw[e];exact h2
 obtain⟨n,F,H,R⟩:=xS (owner:=owner) (turns D) (bits h % (D+1)) (bits h) u (oP h) ⟨13+k,by unfold turns;lia,Q⟩;have I:∀m,(e_ (tm D) m (s_ (tm D) (bits h % (D+1)) (bits h))).j<=D:=λm=>by
  have:=(mY m (rq (t:=tm D) u (oP h))).j;show _<=(tm D).mask;lia
 generalize J:(e_ (tm D) n (s_ (tm D) (bits h % (D+1)) (bits h))).j=j at F H;have T:j<=D:=by rw[<-J];exact I n
 have o:owner[j]?=on OO:=(zt O.sz T).1.mp H;have p:j<owner.size:=by have:=O.sz;lia
 have set:∀x:Nat,(owner.setIfInBounds j (on E.length))[x]?=if j=x then on (on E.length)else owner[x]?:=λx=>by
  rw[Array.getElem?_setIfInBounds];by_cases q:j=x
  .rw[O0 q,O0 q,O0 p]
  .rw[O1 q,O1 q]
 refine⟨j,F,⟨by rw[Array.size_setIfInBounds];exact O.sz,λx k c=>?_,λx y k c f=>?_,?_,λk S d=>?_⟩⟩
 .rw[set]at c
  rw[Pl];by_cases q:j=x
  .rw[O0 q]at c;cases c;simp
  .rw[O1 q]at c
   have:=O.lt x k c;lia
 .rw[set]at c f
  by_cases q:j=x
  .rw[O0 q]at c;cases c
   by_cases r:j=y
   .lia
   .rw[O1 r]at f
    exact Px (O.lt y _ f) (Qh _)
  .rw[O1 q]at c
   by_cases r:j=y
   .rw[O0 r]at f;cases f
    exact Px (O.lt x _ c) (Qh _)
   .rw[O1 r]at f
    exact O.un x y k c f
 .rw[Array.toList_setIfInBounds,List.countP_set (by simpa using p),O.cn]
  have:owner.toList[j]'(by simpa using p)=OO:=by
   have e:=getElem?_pos owner j p;rw[o]at e;rw[T4];exact(PH e).symm
  rw[this];simp
 .by_cases q:k<E.length
  .rw[S3 q]at d
   obtain⟨x,U,M,V,s⟩:=O.ex k S d;refine⟨x,U,?_,V,λm G=>?_⟩
   .rw[set,O1 (λw=>by subst w;rw[o]at M;cases M)];exact M
   .obtain⟨B,b⟩:=s m G
    exact⟨B,by rw[set,O1 (λw=>by rw[<-w,o]at b;cases b)];exact b⟩
  .have C:=(Pa.mp d).1
   rw[Pl,Qa]at C;have:k=E.length:=by lia
   subst this;rw[Rm (O5 _),TU]at d;cases d;refine⟨j,n,by rw[set,O0 rfl],J,λm G=>?_⟩;obtain⟨B,b⟩:=(zt O.sz (I m)).2.mp (R m G);exact⟨B,by rw[sR,set,O1 (λw=>by rw[<-w,o]at b;cases b)];exact b⟩
theorem Ow.nil(w:Nat):Ow w (Array.replicate (w+1) OO) []:=by
 have g:∀x:Nat,(Array.replicate (w+1) (OO:a0G))[x]?=if x<w+1 then on OO else OO:=λx=>Array.getElem?_replicate;refine⟨by simp,λj k h=>?_,λj b k h=>?_,by simp,λk h a=>by simp at a⟩
 .rw[g]at h
  split at h<;>cases h
 .rw[g]at h
  split at h<;>cases h
theorem vY{D:Nat}(K:Mk D):∀(l:a0e) (w:a0w) (E:a0e),Ow D w E->E.length+l.length<=D+1->∃a,l.foldl (λ(G:Option (a0w×Nat)) h=>do
   let (w,k) <-G
   let j <-layClean.free D w (turns D) (bits h % (D+1)) (bits h)
   Rh (w.setIfInBounds j (on k),k+1)) (on (w,E.length))=on (a,E.length+l.length)/\Ow D a (E++l)
 |[],w,E,O,_=>⟨w,rfl,by rw[PU];exact O⟩
 |h::l,w,E,O,hl=>by
  rw[Pg]at hl;obtain⟨j,e,d⟩:=O.step h K (by lia);obtain⟨f,b,c⟩:=vY K l _ (E++[h]) d (by rw[Pl,Qa];lia);refine⟨f,?_,by rw[Qs]at c;exact c⟩;rw[List.foldl_cons];simp only[Option.bind_eq_bind,Sg,e];rw[Pl,Qa]at b;rw[Pg,show E.length+(l.length+1)=E.length+1+l.length by lia];exact b
theorem LY{w:Nat}(G:Mk w)(E:Array Int)(b:E.size<=w+1):∃D,layClean w E=on D/\Ow w D E.toList:=by
 obtain⟨o,e,O⟩:=vY G E.toList _ [] (Ow.nil w) (by simpa using b);refine⟨o,?_,O⟩;unfold layClean;rw[<-Array.foldl_toList];have a:=e;simp only[WG]at a;exact(Qo (Option.map (·.1)) a).trans rfl
theorem wc{w D:Type}{f:w->Option D}{g:w->D}:∀{l:List w},(∀a∈l,f a=on (g a))->l.filterMap f=l.map g
 |[],_=>rfl
 |a::l,h=>by
  rw[QV,h a OZ,O9,wc λb c=>h b (OR a c)]
noncomputable def ci(D:Nat)(w:a0w):a0h:=(O6 (D+1)).filterMap λj=>(w.getD j OO).map (j,·)
theorem Gq{D:Nat}{w:a0w}(E:w.size=D+1){j k:Nat}:(j,k)∈ci D w↔w[j]?=on (on k):=by
 unfold ci;rw[Uy];constructor
 .rintro⟨x,c,e⟩
  have d:=Pw.mp c;have a:w.getD x OO=w[x]:=by simp[Sc,show x<w.size by lia]
  rw[a]at e;cases q:w[x]with
  |none=>rw[q]at e;cases e
  |some f=>
   rw[q]at e;simp only[Ra,Xq,Prod.mk.injEq]at e;obtain⟨rfl,rfl⟩:=e;rw[getElem?_pos w x (by lia),q]
 .intro e
  have b:=(Qb.mp e).1;refine⟨j,Pw.mpr (by lia),?_⟩;have a:w.getD j OO=w[j]:=by simp[Sc,b]
  rw[getElem?_pos w j b]at e;rw[a,PH e];rfl
theorem DA(D:Nat)(w:a0w):(ci D w).Pairwise λa b=>a.1<b.1:=by
 unfold ci;refine List.Pairwise.filterMap _ (λa f h b d g c=>?_) List.pairwise_lt_range;cases q:w.getD a OO with
 |none=>rw[q]at d;cases d
 |some k=>
  rw[q]at d;cases e:w.getD f OO with
  |none=>rw[e]at c;cases c
  |some i=>
   rw[e]at c;cases d;cases c;exact h
theorem BL{t:Ql}{hs:Array Int}(M:Mk (sizeAbove wanted-1))(nf:hs.size*5<(sizeAbove wanted-1)*3):
  ∃(G:Ql) (c:a0y),t.relaid hs wanted=on (G,c)/\c.toList.Perm (O6 hs.size)/\Tb G (c.toList.map λk=>hs.getD k 0)/\G.led=t.led/\G.plain=t.plain:=by
 have ho:=M.odd;obtain⟨w,e,O⟩:=LY M hs (by lia);generalize T:sizeAbove wanted-1=mask at*;have d:hs.toList.length=hs.size:=by simp
 have f:=DA mask w;have g:∀{j k:Nat},(j,k)∈ci mask w↔w[j]?=on (on k):=Gq O.sz;have U:t.relaid hs wanted=on ({mask,place:=((ci mask w).map (·.1)).toArray,dummies:=#[],finger:=t.finger,led:=t.led,moves:=t.movedTo mask,plain:=t.plain},((ci mask w).map (·.2)).toArray):=by
  unfold relaid laid;rw[T,e];rfl
 have D:((ci mask w).map (·.2)).Perm (O6 hs.size):=by
  refine(List.perm_ext_iff_of_nodup ?_ Wp).mpr λk=>?_
  .unfold List.Nodup
   rw[UP];refine List.Pairwise.imp_of_mem (R:=λa b=>a.1<b.1) (λ{a b} E B h z=>?_) f;obtain⟨j,k⟩:=a;obtain⟨r,v⟩:=b;have W:k=v:=z;subst W;have:=O.un j r k (g.mp E) (g.mp B);have h':j<r:=h;lia
  .rw[Pe,Pw]
   constructor
   .rintro⟨⟨j,v⟩,h,rfl⟩
    have:=O.lt j v (g.mp h);rwa[d]at this
   .intro A
    obtain⟨j,n,C,_⟩:=O.ex k _ (OV (by rw[d];exact A));exact⟨(j,k),g.mpr C,rfl⟩
 have l:(ci mask w).length=hs.size:=by
  have:=D.length_eq;rwa[ON,Py]at this
 refine⟨_,_,U,by simpa using D,?_,rfl,rfl⟩;have K:∀{i:Nat} {x:Nat},(((ci mask w).map (·.1)).toArray)[i]?=on x->∃k,(ci mask w)[i]?=on (x,k):=λ{i x} h=>by
  rw[Vu,OY]at h;cases q:(ci mask w)[i]? with
  |none=>rw[q]at h;cases h
  |some a=>
   rw[q]at h;cases h;exact⟨a.2,rfl⟩
 have F:∀{j k:Nat},w[j]?=on (on k)->∃i:Nat,(((ci mask w).map (·.1)).toArray)[i]?=on j:=λ{j k} h=>by
  obtain⟨i,X,Y⟩:=VM (g.mpr h);exact⟨i,by rw[Vu,OY,OV X,Y];rfl⟩
 refine⟨M,?_,?_,?_,rfl,?_,?_⟩
 .show(((ci mask w).map (·.1)).toArray).size=_
  simp
 .intro i k x y H Z hy
  obtain⟨a,E⟩:=K Z;obtain⟨b,B⟩:=K hy;obtain⟨C,I⟩:=Pa.mp E;obtain⟨S,V⟩:=Pa.mp B;have:=R5.mp f i k C S H;rw[I,V]at this;exact this
 .intro i j h
  obtain⟨a,E⟩:=K h;have:=(Qb.mp (g.mp (Pj E))).1;have:=O.sz;show j<=mask;lia
 .show(((ci mask w).map (·.1)).toArray).size*5<mask*3
  have:(((ci mask w).map (·.1)).toArray).size=hs.size:=by simp[l]
  lia
 .intro i h j J hj
  obtain⟨k,A⟩:=K hj;have o:=g.mp (Pj A);have s:hs.toList[k]?=on h:=by
   rw[OY]at J;have I:((ci mask w).map (·.2)).toArray.toList[i]?=on k:=by
    show((ci mask w).map (·.2))[i]?=_;rw[OY,A];rfl
   rw[I]at J;have N:k<hs.size:=by have:=O.lt j k o;rwa[d]at this
   have:hs.getD k 0=h:=PH J;rw[SI,getElem?_pos hs k N,<-this];simp[Sc,N]
  obtain⟨r,n,a1,a2,a3⟩:=O.ex k h s;have:=O.un j r k o a1;subst this;have P:∀(u:Ql),u.mask=mask->∀m,e_ u m (u.probeStart h)=e_ (tm mask) m ((tm mask).probeStart h):=λu Q m=>by
   rw[yq (u:=tm mask) Q,v6 (u:=tm mask) Q]
  refine⟨n,by rw[P _ rfl];exact a2,λm L=>?_⟩;rw[P _ rfl];obtain⟨v,p⟩:=a3 m L;exact F p
theorem tz{t:Ql}(a:t.probe f h p=r)(T:Tb t g)(v:Pv t p)(b:e<10*turns t.mask)(c:¬Lv t (e_ t e p).j):
  ∃m,m<=e/\(∀d<m,∃i,t.place[i]?=on (e_ t d p).j/\f i≠h)/\
   ((¬Lv t (e_ t m p).j/\r=on (.empty (e_ t m p).j OO))\/∃i,t.place[i]?=on (e_ t m p).j/\f i=h/\r=on (.candidate (e_ t m p).j i (e_ t (m+1) p))):=by
 subst a;exact Ig T.rs T.du _ p e v b c
section
variable{prog:PN}{w:PV}{A:Qn}{E:a0d}{s:O3}
noncomputable abbrev i_(prog:PN)(w:PV):HeapKind prog w a0e:=tupleKind (VH prog w)
noncomputable abbrev hsh(prog:PN)(w:PV)(k:a0e):Int:=(i_ prog w).hash k
theorem Tb.fits{t:Ql}{hs:a0e}(T:Tb t hs)(s:hs.length=n):t.fits n=OT:=by
 have:=T.nf;have:=T.sz;have:=T.km.odd;unfold WM SetTable.fill;rw[T.du];simp;lia
theorem items_int(h:ItemsAre (VH prog w) b a):∀v∈a,∃n t,v=SS n t:=by
 induction h with
 |nil=>intro v hv;cases hv
 |@cons k v' b a h1 _ ih=>
  intro v hv;rcases Pb.mp hv with rfl|hv
  .obtain⟨t,e⟩:=V1 h1
   exact⟨_,t,e⟩
  .exact ih v hv
theorem z7{M:Wq}{o:Qx}(b:s.heap.get? a=on o)(h:Q o.cls s):Pc M A (ZD (.ref a)) Q E s:=by
 show Pc M A (loadPart a _>>=_) Q E s;exact My (Yk b (OP h))
theorem vH(e:(i_ prog w).is s.heap k x)(h:Q OW s):Pc (Pt prog w) A (WX 8 (.ref x)) Q E s:=by
 obtain⟨o,G,n,d,hc,M,f⟩:=e;unfold WX;refine My (z7 d ?_);rw[hc];simp only[Wn,Qm];refine My (OP ?_);simp only[RV,Pq,Qq];refine My (Rf d M ?_);refine My ?_;show Pc _ _ (Yb G _ _) _ _ s;rw[<-Te];refine Vx _ (λD r K=>r.1=OO/\K=s/\∀v∈D,∃n t,v=SS n t) _ ?_ ?_ _ _ ⟨rfl,rfl,items_int f⟩
 .rintro v D r K ⟨b,rfl,a⟩
  obtain⟨n,t,rfl⟩:=a v OZ;unfold WX;refine My (OP ?_);simp only[Pq,Qq];exact OP ⟨rfl,rfl,λu c=>a u (OR _ c)⟩
 .rintro⟨r1,g⟩ K ⟨b,rfl,_⟩
  simp only at b;subst b;exact OP h
theorem GU(d:(i_ prog w).is s.heap k x)(h:Q OT s):Pc (Pt prog w) A (hashByValue 8 (.ref x)) Q E s:=by
 have e:=Xx (s:=s) d;obtain⟨o,G,n,f,hc,M,g⟩:=d;unfold hashByValue;refine My (Sh e F.slot_tuple_hash.lookup ?_);simp only;refine My (Rf f M ?_);refine My ?_;show Pc _ _ (Yb G _ _) _ _ s;rw[<-Te];refine Vx _ (λD r K=>r.1=OO/\K=s/\∀v∈D,∃n t,v=SS n t) _ ?_ ?_ _ _ ⟨rfl,rfl,items_int g⟩
 .rintro v D r K ⟨b,rfl,a⟩
  obtain⟨n,t,rfl⟩:=a v OZ;unfold hashByValue;refine My (OP ?_);simp only[RV,Pq,Qq];exact OP ⟨rfl,rfl,λu c=>a u (OR _ c)⟩
 .rintro⟨r1,i⟩ K ⟨b,rfl,_⟩
  simp only at b;subst b;exact OP h
theorem JA(f:(i_ prog w).is s.heap k x):∀(l:a0t) {Q:Bool->O3->Prop},(∀y∈l,(i_ prog w).is s.heap y.1 y.2)->Q OW s->Pc (Pt prog w) A (WZ (.ref x) (l.map λy=>Pi y.2)) Q E s:=by
 intro l Q h i;unfold WZ;refine My ?_;refine Vx _ (λD r G=>r.1=OO/\G=s/\∃b:a0t,D=b.map (λy=>Pi y.2)/\∀y∈b,(i_ prog w).is s.heap y.1 y.2) _ ?_ ?_ _ _ ⟨rfl,rfl,l,rfl,h⟩
 .rintro v D r G ⟨d,rfl,b,e,a⟩
  cases b with
  |nil=>cases e
  |cons y b=>
   cases e;have g:=a y OZ;have K:(OO:a0N)=OO/\G=G/\∃c:a0t,b.map (λy=>Pi y.2)=c.map (λy=>Pi y.2)/\∀y∈c,(i_ prog w).is G.heap y.1 y.2:=⟨rfl,rfl,b,rfl,λu j=>a u (OR y j)⟩;by_cases q:x==y.2
   .simp only[q,Bool.true_or,Qm]
    exact OP K
   .simp only[q,Bool.false_or,carriedByValue,TD,Pq,Qq]
    refine My ((i_ prog w).quiet f ?_);simp only[RV,Pq,Qq];refine My ((i_ prog w).quiet g ?_);simp only[RV,Pq,Qq];refine My (vH f ?_);simp only[Pq,Qq];refine My (vH g ?_);simp only[Pq,Qq];exact OP K
 .rintro⟨r1,m⟩ G ⟨d,rfl,_⟩
  simp only at d;subst d;exact OP i
theorem AV{o:Qx}{K:a0x}{t:Ql}{D:a0t}(hu:A.units<Ui)(ho:s.heap.get? a=on o)(hd:o.data= .set K ep t)
  (H:K.toList=D.map λx=>(hsh prog w x.1,Pi x.2)) (hx:∀x∈D,(i_ prog w).is s.heap x.1 x.2) (T:Tb t (D.map λx=>hsh prog w x.1)) (hk:(i_ prog w).is s.heap k b)
  (he:e<10*turns t.mask) (U:¬Lv t (e_ t e (t.probeStart (hsh prog w k))).j) (ha:∀m<e,Lv t (e_ t m (t.probeStart (hsh prog w k))).j)
  (q1:k∈D.map (·.1)->Q (.there OO) s) (q2:k∉D.map (·.1)->Q (.free (e_ t e (t.probeStart (hsh prog w k))).j OW) s):
  ∀(n c m:Nat) (st:Option Probe),e=m+n->n<c->st.getD (t.probeStart (hsh prog w k))=e_ t m (t.probeStart (hsh prog w k))->(∀g<m,∀(i:Nat) x,t.place[i]?=on (e_ t g (t.probeStart (hsh prog w k))).j->D[i]?=on x->x.1≠k)->
   Pc (Pt prog w) A (setSearchFrom a (.ref b) (hsh prog w k) OT c st) Q E s:=by
 have ac:K.size=D.length:=by rw[<-PP,H,ON]
 have W:t.fits K.size=OT:=T.fits (by rw[ON,ac]);have l:∀i:Nat,K[i]?=(D[i]?).map λx=>(hsh prog w x.1,Pi x.2):=λi=>by rw[<-SI,H,OY]
 have gw:t.gaveWay=OW:=by
  have:=T.km.odd;unfold SetTable.gaveWay;rw[Xz];lia
 intro n
 induction n using WQ with
 |_ n ih=>
  intro c m st em al ad p;cases c with
  |zero=>lia
  |succ c=>
   unfold setSearchFrom;refine My (Rc ho hd W ?_)
   dsimp only
   rw[ad,gw];simp only[Pq,Qq];have v:=mY m (pA t (hsh prog w k));have M:∀n',e_ t n' (e_ t m (t.probeStart (hsh prog w k)))=e_ t (m+n') (t.probeStart (hsh prog w k)):=λn'=>(oC t m n' _).symm;have G:∀{i O j:Nat},t.place[i]?=on j->t.place[O]?=on j->i=O:=λ{i O j} u C=>by
    rcases SO i O with q|q|q
    .exact Px (T.rs i O j j q u C) (Qh j)
    .exact q
    .exact Px (T.rs O i j j q C u) (Qh j)
   split
   .rename_i X heq
    obtain⟨g,ae,r,d⟩:=tz heq T v (e:=n) (by lia) (by rw[M,<-em];exact U);rcases d with⟨Y,I⟩|⟨i,R,am,I⟩
    .cases I
     have Z:g=n:=by
      rcases TM g n with q|q
      .rw[M]at Y
       exact Px (ha (m+g) (by lia)) Y
      .lia
     subst Z;refine OP ?_;rw[M,<-em];refine q2 λS=>?_;obtain⟨x,af,J⟩:=Pe.mp S;obtain⟨B,ag,ah⟩:=VM af;have h:D[B]?=on x:=by rw[OV ag,ah]
     have L:B<t.place.size:=by have:=T.sz;rw[ON]at this;lia
     obtain⟨F,a1,a2⟩:=T.rch B (hsh prog w k) t.place[B] (by rw[OY,h,<-J];rfl) (getElem?_pos t.place B L);have an:F<e:=by
      rcases SO F e with q|q|q
      .exact q
      .subst q
       exact Px ⟨B,by rw[a1];exact getElem?_pos t.place B L⟩ U
      .exact Px (a2 e q) U
     have V:t.place[B]?=on (e_ t F (t.probeStart (hsh prog w k))).j:=by rw[a1];exact getElem?_pos t.place B L
     by_cases q:F<m
     .exact p F q B x V h J
     .obtain⟨i,u,C⟩:=r (F-m) (by lia)
      rw[M,show m+(F-m)=F by lia]at u;have:=G u V;subst this;refine C ?_;show(K[i]?.map (·.1)).getD 0=_;rw[l,h,<-J];rfl
    .cases I
     have N:i<D.length:=by
      have u:=(Qb.mp R).1;have:=T.sz;rw[ON]at this;lia
     have h:D[i]?=on D[i]:=OV N;have aa:K[i]?=on (hsh prog w D[i].1,Pi D[i].2):=by rw[l,h];rfl
     have ai:=hx D[i] (P3 N);rw[M]at R;simp only;have el:(QA (λx=>x.snd) (Array.filter (λx=>x.fst==hsh prog w k) K).toList)=(D.filter λy=>hsh prog w y.1==hsh prog w k).map λy=>Pi y.2:=by
      rw[Array.toList_filter,H,WF,O7];rfl
     rw[el];have ab:∀{Q':Bool->O3->Prop},Q' OW s->Pc (Pt prog w) A (WZ (.ref b) ((D.filter λy=>hsh prog w y.1==hsh prog w k).map λy=>Pi y.2)) Q' E s:=λhq=>JA hk _ (λy hy=>hx y (SG.mp hy).1) hq;have sm:t.sameMemory t.moves t.mask=on OT:=by unfold sameMemory;simp
     have sl:t.slot (e_ t (m+g) (t.probeStart (hsh prog w k))).j= .live i:=sV T.rs R;cases ak:t.led
     all_goals simp only[Vy,RV,Pq,Qm,Qq,M,aa]
     all_goals try refine My (ab ?_)
     all_goals try simp only[Pq,Qq]
     all_goals
      refine My (Qv ((i_ prog w).eqBool hu ai hk (My (Rc ho hd W ?_))));simp only[T6];by_cases q:D[i].1=k
      .rw[O0 (Po q)]
       exact OP (q1 (Pe.mpr ⟨D[i],P3 N,q⟩))
      .rw[O1 (by simpa using q)]
       simp only[sm,Qm,sl,aa];refine My ?_;unfold isSame;simp only[Wn,Qm];refine OP (My (OP ?_));simp only[Qm];rw[O1 (by simpa using q)];have Z:g<n:=by
        rcases TM g n with z|z
        .exact z
        .obtain rfl:g=n:=by lia
         rw[<-em]at R;exact Px ⟨i,R⟩ U
       refine ih (n-(g+1)) (by lia) c (m+g+1) _ (by lia) (by lia) rfl λP ao i2 x2 u C z=>?_;by_cases q1:P<m
       .exact p P q1 i2 x2 u C z
       .by_cases q2:P=m+g
        .subst q2
         have:=G R u;subst this;rw[h]at C;cases C;exact q z
        .obtain⟨i3,h3,h4⟩:=r (P-m) (by lia)
         rw[M,show m+(P-m)=P by lia]at h3;have:=G h3 u;subst this;refine h4 ?_;show(K[i3]?.map (·.1)).getD 0=_;rw[l,C,<-z];rfl
   .rename_i hno
    have aj:∀f:Nat->Int,(∀X,t.probe f (hsh prog w k) (e_ t m (t.probeStart (hsh prog w k)))=on X->False)->False:=λf W=>by
     obtain⟨g,ae,r,d⟩:=tz (f:=f) rfl T v (e:=n) (by lia) (by rw[M,<-em];exact U);rcases d with⟨_,I⟩|⟨i,_,_,I⟩
     .exact W _ I
     .exact W _ I
    exact(aj _ hno).elim
theorem NR{P:Nat->Prop}:∀n,P n->∃m,m<=n/\P m/\∀k<m,¬P k:=by
 intro n
 induction n using WQ with
 |_ n ih=>
  intro h;by_cases q:∃k,k<n/\P k
  .obtain⟨k,a,b⟩:=q
   obtain⟨m,d,c⟩:=ih k a b;exact⟨m,by lia,c⟩
  .exact⟨n,O5 n,h,λk a b=>q ⟨k,a,b⟩⟩
def sH(prog:PN)(w:PV)(h:Qg)(a:OS)(s:a0t):Prop:=
 ∃o A D t,h.get? a=on o/\o.ExactSet/\o.data= .set A D t/\(A.toList=s.map λx=>(hsh prog w x.1,Pi x.2))/\(s.map (·.1)).Nodup/\(∀x∈s,(i_ prog w).is h x.1 x.2)/\(Tb t (s.map λx=>hsh prog w x.1))/\t.plain=OT/\t.led=!(w.params.followText "set-order")
theorem p8{h A:Qg}{o:Qx}{j l t}(x:(i_ prog w).is h k b)(g:h.get? a=on o)(D:o.data= .set j l t)(hs:PQ a h A):(i_ prog w).is A k b:=by
 obtain⟨f,s,n,d,hc,c,i⟩:=x;have e:b≠a:=by
  rintro rfl;obtain rfl:f=o:=PH (d.symm.trans g);rw[D]at c;exact nomatch c
 exact⟨f,s,n,(hs.2 b e).trans d,hc,c,i⟩
theorem sQ{h:Qg}{o:Qx}(c:h.get? a=on o)(w:o.data= .set e d t)(b:a0x)(s:Ql):(h.update a (Vr b s)).get? a=on {o with data:= .set b (d+1) s}:=by
 have:=QX (Vr b s) c (by rw[putSet_of b s w];rfl);rw[putSet_of b s w]at this;exact this
theorem Lb{t:Ql}(T:Tb t hs)(j:Nat):(t.put j).1.dummies=#[]/\(t.put j).1.place.size=t.place.size+1/\(t.put j).2<=t.place.size:=by
 obtain⟨s,a,b3⟩:=jA (j:=j) T.rs;have w:has t.dummies j=OW:=by unfold has;rw[T.du];rfl
 refine⟨?_,gm s,s⟩;show(if has t.dummies j=OT then _ else t.dummies)=#[];rw[w,O1 O8,T.du]
theorem JT{w D:Type}{A:List w}{s:Array D}{f:w->D}(e:s.toList=A.map f){p:Nat}(c:p<=s.size)(x:w):(insertAt s p (f x)).toList=(A.take p++x::A.drop p).map f:=by
 unfold insertAt;simp only[Array.toList_append,Y0,Array.toList_extract];have a:(s.toList.extract 0 p)=s.toList.take p:=by simp[List.extract]
 have b:(s.toList.extract p s.size)=s.toList.drop p:=by
  simp only[List.extract];rw[RQ (by simp)]
 rw[a,b,e,PR,O9,VR,T8,Qs];rfl
theorem MQ{D:a0t}(hu:A.units<Ui)(S:sH prog w s.heap a D)(hk:(i_ prog w).is s.heap k b)(hn:D.length<63)
  (h:∀K q,PQ a s.heap K->sH prog w K a q->(k∈D.map (·.1)->q=D)->(k∉D.map (·.1)->q.Perm ((k,b)::D))->Q (decide (k∉D.map (·.1))) {s with heap:=K}):
  Pc (Pt prog w) A (setAddHashed a (.ref b) (hsh prog w k)) Q E s:=by
 have S0:=S;obtain⟨o,G,ep,t,U,X,V,W,af,hx,T,hp,J⟩:=S;have F:G.size=D.length:=by rw[<-PP,W,ON]
 have hf:t.fits G.size=OT:=T.fits (by rw[ON,F]);have Y:t.place.size=D.length:=by rw[T.sz,ON]
 obtain⟨e0,ag,ah⟩:=T.free (pA t (hsh prog w k));obtain⟨e,aj,hl,Z⟩:=NR (P:=λe=>¬Lv t (e_ t e (t.probeStart (hsh prog w k))).j) e0 ah;have ha:∀m<e,Lv t (e_ t m (t.probeStart (hsh prog w k))).j:=λm M=>Classical.not_not.mp (Z m M);have ak:=T.km.odd;unfold setAddHashed setAddHashedIn;refine Qv (My (Rc U V hf ?_));have hb:byScan (Pi b) G=OW:=rfl;simp only[hb,Pq,Qq];refine My ?_;unfold setSearch;refine AV (e:=e) hu U V W hx T hk (by lia) hl ha (λM=>?_) (λM=>?_) e 100000 0 OO (by lia) (by unfold turns at ag;lia) rfl (λm' ai=>Px ai (RN _))
 .refine OP ?_
  have:=h s.heap D (PQ.refl a s.heap) S0 (λ_=>rfl) (λz=>Px M z);rw[PZ (λz=>z M)]at this;exact this
 .have hQ:∀K q,PQ a s.heap K->sH prog w K a q->q.Perm ((k,b)::D)->Q OT {s with heap:=K}:=λK q h1 h2 h3=>by
   have:=h K q h1 h2 (λz=>Px z M) (λ_=>h3);rwa[Po M]at this
  simp only;refine My (Rc U V hf ?_);generalize hj:(e_ t e (t.probeStart (hsh prog w k))).j=j at hl;obtain⟨pd,ps,pl⟩:=Lb T j;generalize y:t.put j=tp at pd ps pl;obtain⟨u,p⟩:=tp;simp only at pd ps pl⊢;have l:u.plain=OT:=by
   have:(t.put j).1.plain=t.plain:=rfl;rw[y]at this;rw[this,hp]
  have L:u.led=t.led:=by
   have:(t.put j).1.led=t.led:=rfl;rw[y]at this;exact this
  have v:u.mask=t.mask:=by
   have:(t.put j).1.mask=t.mask:=rfl;rw[y]at this;exact this
  rw[l];simp only[Qm];refine My (GU hk ?_);simp only[Qm];have N:=JT (f:=λx:a0e×OS=>(hsh prog w x.1,Pi x.2)) W (p:=p) (by lia) (k,b);have B:(insertAt G p (hsh prog w k,Pi b)).size=G.size+1:=gm (by lia);have d:(D.take p++(k,b)::D.drop p).Perm ((k,b)::D):=by
   have:=List.perm_middle (a:=(k,b)) (l₁:=D.take p) (l₂:=D.drop p);rwa[R1]at this
  have nd1:((D.take p++(k,b)::D.drop p).map (·.1)).Nodup:=by
   refine(d.map (·.1)).nodup_iff.mpr ?_;rw[O9,P7];exact⟨M,af⟩
  refine My (wpAny_storeSet_of U V ?_ (by rw[B,RC];lia));have H:=QO s.heap a (Vr (insertAt G p (hsh prog w k,Pi b)) u);have g1:=sQ U V (insertAt G p (hsh prog w k,Pi b)) u;have aa:∀x∈D.take p++(k,b)::D.drop p,(i_ prog w).is (s.heap.update a (Vr (insertAt G p (hsh prog w k,Pi b)) u)) x.1 x.2:=λx hx'=>by
   rcases Pb.mp (d.mem_iff.mp hx')with rfl|hx'
   .exact p8 hk U V H
   .exact p8 (hx x hx') U V H
  by_cases r:u.tooFull=OT
  .simp only[r,Vy,VO,Qm]
   have fu:u.fill*5≥u.mask*3:=by unfold tooFull at r;exact RG r
   have fe:u.fill=D.length+1:=by unfold SetTable.fill;rw[pd,ps,Y];rfl
   have al:=T.nf;have f1:u.fits (insertAt G p (hsh prog w k,Pi b)).size=OT:=by
    unfold WM;rw[B,fe,ps,Y,F,v];simp;lia
   have wm:Mk (sizeAbove (grown (G.size+1))-1)/\(G.size+1)*5<(sizeAbove (grown (G.size+1))-1)*3/\sizeAbove (grown (G.size+1))<=128:=by
    rw[fe,v]at fu;rw[F];rcases T.km with z|z|z
    .have:D.length=4:=by lia
     rw[this];exact⟨.inr (.inl (by decide)),by decide,by decide⟩
    .have:D.length=18:=by lia
     rw[this];exact⟨.inr (.inr (by decide)),by decide,by decide⟩
    .lia
   have C:(Array.map (λx=>x.fst) (insertAt G p (hsh prog w k,Pi b))).size=G.size+1:=by rw[Array.size_map,B]
   obtain⟨t2,c,er,op,T2,ab,I⟩:=BL (t:=u) (hs:=(insertAt G p (hsh prog w k,Pi b)).map (·.1)) (wanted:=grown (G.size+1)) wm.1 (by rw[C];exact wm.2.1);refine My ?_;unfold setRelay;refine My (Rc g1 rfl f1 ?_);simp only;rw[O1 (by rw[RC];lia)];rw[er];generalize am:insertAt G p (hsh prog w k,Pi b)=es1 at*;generalize an:D.take p++(k,b)::D.drop p=xs1 at*;have l1:xs1.length=G.size+1:=by rw[d.length_eq,Pg,F]
   have O:∀i,i<xs1.length->es1[i]?=on (hsh prog w (xs1.getD i (k,b)).1,Pi (xs1.getD i (k,b)).2):=λi R=>by
    rw[<-SI,N,OY,OV R,OU,OV R];rfl
   have om:∀i∈c.toList,i<xs1.length:=λi R=>by
    have:=Pw.mp (op.mem_iff.mp R);rw[C]at this;lia
   have ac:(c.filterMap λx=>es1[x]?).toList=(c.toList.map λi=>xs1.getD i (k,b)).map λx=>(hsh prog w x.1,Pi x.2):=by
    rw[Array.toList_filterMap,wc (g:=λi=>(hsh prog w (xs1.getD i (k,b)).1,Pi (xs1.getD i (k,b)).2)) λi R=>O i (om i R),O7];rfl
   have n:(c.toList.map λi=>xs1.getD i (k,b)).Perm xs1:=by
    refine(op.map _).trans (VZ ?_);rw[C,<-l1];refine Rx (by simp) λi h1 h2=>?_;rw[RY,Sy,OU,OV h2];rfl
   have ad:(c.filterMap λx=>es1[x]?).size=es1.size:=by
    rw[<-PP,ac,ON,n.length_eq,l1,B]
   refine My ?_;show Pc _ _ (if((c.filterMap λx=>es1[x]?).size !=es1.size)=OT then _ else _) _ _ _;rw[O1 (by rw[ad];simp)];refine OP ?_;refine wpAny_storeSet_of g1 rfl ?_ (by rw[ad,B,RC];lia);have ae:=QO (s.heap.update a (Vr es1 u)) a (Vr (c.filterMap λx=>es1[x]?) t2);have g2:=sQ g1 rfl (c.filterMap λx=>es1[x]?) t2;refine OP (hQ _ (c.toList.map λi=>xs1.getD i (k,b)) (H.trans ae) ⟨_,_,_,t2,g2,X,rfl,ac,?_,λx hx'=>?_,?_,by rw[I,l],by rw[ab,L,J]⟩ (n.trans d))
   .exact(n.map (·.1)).nodup_iff.mpr nd1
   .exact p8 (aa x (n.mem_iff.mp hx')) g1 rfl ae
   .have eh:(c.toList.map λi=>xs1.getD i (k,b)).map (λx=>hsh prog w x.1)=c.toList.map λi=>(es1.map (·.1)).getD i 0:=by
     rw[O7];refine PF λi R=>?_;have h1:=O i (om i R);have h2:(es1.map (·.1))[i]?=on (hsh prog w (xs1.getD i (k,b)).1):=by rw[Array.getElem?_map,h1];rfl
     have h3:=(Qb.mp h2);obtain⟨h4,h5⟩:=h3;simp only[Ux];rw[<-h5];simp[Sc,h4];lia
    rw[eh];exact T2
  .simp only[r,Vy,Bool.and_false,Qq,T6,Pq]
   refine OP (hQ _ (D.take p++(k,b)::D.drop p) H ⟨_,_,_,u,g1,X,rfl,N,nd1,aa,?_,l,by rw[L,J]⟩ d);have nf:(t.place.size+1)*5<t.mask*3:=by
    have:¬(u.fill*5≥u.mask*3):=by
     intro z;exact r (by unfold tooFull;exact Po z)
    unfold SetTable.fill at this;rw[pd,ps,v]at this;simp at this;lia
   have:=(T.put (h:=hsh prog w k) hl hj (by exact ha) nf).2.2.2.2;rw[y]at this;rw[PR,O9,VR,T8];exact this
end
namespace F2
theorem si_next:Slot "set_iterator" "__next__" "set_iterator.__next__":= .of (owner:="set_iterator") (n:="__next__") (by rw[XD,VT];kernel_rfl) (by decide +kernel) (by decide +kernel) (by decide +kernel)
  (by first|exact .inl (by decide +kernel)|exact .inr (by decide +kernel)) (by rw[U6];kernel_rfl)
theorem si_iter:Slot "set_iterator" "__iter__" "set_iterator.__iter__":= .of (owner:="set_iterator") (n:="__iter__") (by rw[XD,VT];kernel_rfl) (by decide +kernel) (by decide +kernel) (by decide +kernel)
  (by first|exact .inl (by decide +kernel)|exact .inr (by decide +kernel)) (by rw[U6];kernel_rfl)
theorem ent_next:entryFor table "set_iterator.__next__"=on Builtin.«set_iterator.__next__»:=entryFor_of_tree (by kernel_rfl)
theorem ent_iter:entryFor table "set_iterator.__iter__"=on Builtin.«dict_keyiterator.__iter__»:=X8 (id':="dict_keyiterator.__iter__") (by kernel_rfl) rfl (by decide +kernel) (by kernel_rfl)
theorem ent_set_iter:entryFor table "set.__iter__"=on Builtin.«frozenset.__iter__»:=X8 (id':="frozenset.__iter__") (by kernel_rfl) rfl (by decide +kernel) (by kernel_rfl)
theorem args_next(a:OX):argsOk "set_iterator.__next__" ⟨[a],[]⟩:=by unfold argsOk;kernel_rfl
theorem args_iter(a:OX):argsOk "set_iterator.__iter__" ⟨[a],[]⟩:=by unfold argsOk;kernel_rfl
end F2
theorem re{w:Type}:∀{l:List w} {i:Nat} (h:i<l.length),(l[i]::l.eraseIdx i).Perm l
 |[],i,h=>Px h (RN i)
 |a::l,0,h=> .refl _
 |a::l,i+1,h=>by
  show(l[i]'(by simpa using h)::a::l.eraseIdx i).Perm (a::l);exact(List.Perm.swap _ _ _).trans ((re (by simpa using h)).cons a)
theorem xw{w:Type}(next:a0S):∀(fuel k:Nat) (left:List w) (a:Array w),left.length<=fuel->(WY next fuel k left a).toList.Perm (a.toList++left)
 |0,k,left,a,h=>by
  have:left=[]:=Ts.mp (by lia);subst this;unfold WY;rw[PU]
 |fuel+1,k,left,a,h=>by
  unfold WY;cases left with
  |nil=>simp
  |cons c d=>
   have b:next k % (c::d).length<(c::d).length:=Vq _ (by simp)
   rw[OV b];simp only;refine(xw next fuel (k+1) _ _ (by rw[List.length_eraseIdx_of_lt b];lia)).trans ?_
   rw[Y0,Qs];exact List.Perm.append_left _ (re b)
theorem BW{w:Type}(next:a0S)(xs:Array w):(Xk next xs).toList.Perm xs.toList:=by
 unfold Xk;refine(xw next xs.size 0 xs.toList #[] (by simp)).trans ?_
 simp
section
variable{prog:PN}{w:PV}{A:Qn}{E:a0d}{s:O3}
noncomputable def dZ(w:PV)(a:OS)(ep:Nat)(s:a0x):a0x:=if w.params.followText "set-order"=OT then Xk (w.params.setOrder a ep) s else s
theorem lF(w:PV)(a:OS)(ep:Nat)(s:a0x):(dZ w a ep s).toList.Perm s.toList:=by
 unfold dZ;split
 .exact BW _ _
 .exact .refl _
structure ZL (w:PV) (h:Qg) (I a:OS) (es:a0x) (ep:Nat) (t:Ql) (i:Nat):Prop where
 st:∃o,h.get? a=on o/\o.data= .set es ep t
 it:∃(o:Qx) (sl:Nat),h.get? I=on o/\o.cls= .type "set_iterator"/\o.data= .fields #[.int sl 0,.int i 0,.ref a,.int es.size 0,.int ep 0]/\(w.params.followText "set-order"=OW->below t.place sl=i)
theorem nA{M:Wq}(h:Q (M.w.params.followText "set-order") s):Pc M A setsByText Q E s:=by
 unfold setsByText;exact My (Ur (OP h))
theorem CL{D:a0x}{t:Ql}{e:Int×OX}(T:Tb t Z)(h:t.fits D.size=OT)(F:t.plain=OT)(H:t.led=!(w.params.followText "set-order"))(x:ZL w s.heap I a D Y t i)(k:I≠a)(l:(dZ w a Y D)[i]?=on e)
  (J:∀M,ZL w M I a D Y t (i+1)->PQ I s.heap M->Q (on e.2) {s with heap:=M}):Pc (Pt prog w) A (Uc (.ref I)) Q E s:=by
 obtain⟨⟨L,b,c⟩,o,S,n,hc,G,p⟩:=id x;have u:s.TypeIs (.ref I) "set_iterator":=⟨o,n,hc⟩;unfold Uc;refine My (TC (wpAny_callSpecial?_slot (name:=Q4 "__next__") u F2.si_next (Qf F2.si_next u F2.ent_next ?_ (F2.args_next _))));unfold Builtin.«set_iterator.__next__»;refine My (OP ?_);refine My (V4 n G ?_);simp only;refine My (Wo b c h ?_);simp only[SJ,Pq,Qq];refine My ?_;simp only[QN]
 have d:∀K:Nat,(w.params.followText "set-order"=OW->below t.place K=i+1)->Pc (Pt prog w) A.in1 (do
    Yi (Pi I) 0 (SU K)
    Yi (Pi I) 1 (SU (i+1))
    ret e.2) (λd P=>∃v,d=Fin.done (Flow.ret v)/\Pc (Pt prog w) A (Rh (on v)) Q E P) (λe P=>Pc (Pt prog w) A (do
     if(<-U5 e (Sf "StopIteration"))=OT then Rh OO else throw e) Q E P) s:=λK r=>by
  refine My (Sa n G (by simp) ?_);have y:(s.heap.update I (U1 (·.setIfInBounds 0 (SU K)))).get? I=on _:=QX _ n (SL (QH G _));refine My (Sa y (QH G _) (by simp) ?_);refine OP ⟨_,rfl,OP (J _ ⟨⟨L,?_,c⟩,⟨_,K,QX _ y (SL (QH (QH G _) _)),?_,?_,r⟩⟩ ((QO ..).trans (QO ..)))⟩
  .rw[Si _ _ _ _ (Ne.symm k),Si _ _ _ _ (Ne.symm k)];exact b
  .rw[Wm,Wm];exact hc
  .rw[QH (QH G _)];simp[SU]
 unfold setNext;refine My (Rc b c h (My (nA ?_)));have B:(Pt prog w).w=w:=rfl;rw[B];cases q:w.params.followText "set-order"
 .have f:dZ w a Y D=D:=by unfold dZ;rw[q];rfl
  rw[f]at l;have N:=p q;have U:=(Qb.mp l).1;simp only[Pq,Qq];have O:t.place.size=D.size:=by
   unfold WM at h;simp only[PL,R8,P9]at h;exact h.1
  rw[O1 (λz=>by
   have C:(!t.plain&&decide (D.size>1))=OT:=z;rw[F]at C;cases C)]
  refine My ?_;show Pc _ _ (if(!t.led&&!D.isEmpty)=OT then _ else _) _ _ _;rw[O1 (by rw[H,q];exact O8)];refine OP (OP ?_);have g:t.place[i]?=on t.place[i]:=getElem?_pos t.place i (by lia);rw[N,l,g];simp only;refine d _ λ_=>?_;obtain⟨V,R,b3⟩:=jA (j:=t.place[i]+1) T.rs;rcases SO (below t.place (t.place[i]+1)) (i+1)with z|z|z
  .have:=b3 i _ (by lia) g
   lia
  .exact z
  .have m:t.place[i+1]?=on t.place[i+1]:=getElem?_pos t.place (i+1) (by lia)
   have W:=R (i+1) _ z m;have X:=T.rs i (i+1) _ _ (by lia) g m;lia
 .have f:dZ w a Y D=Xk (w.params.setOrder a Y) D:=by unfold dZ;rw[q];rfl
  rw[f]at l;simp only[Qm,SJ,Pq,Qq];refine My ?_;unfold setWalk;refine My (Rc b c h (My (nA ?_)));rw[B,q];simp only[Qm];refine My (Ur (OP ?_));refine OP ?_;rw[show((Pt prog w).w.params.setOrder a Y)=w.params.setOrder a Y from rfl,l];simp only[Ra];exact d _ λz=>by rw[q]at z;cases z
theorem Ga{D:a0x}{t:Ql}(r:A.handled=OO)(T:Tb t H)(g:t.fits D.size=OT)(u:t.plain=OT)(y:t.led=!(w.params.followText "set-order"))(x:ZL w s.heap I a D F t D.size)
  (B:∀K,Wv I s.heap K->Q OO {s with heap:=K}):Pc (Pt prog w) A (Uc (.ref I)) Q E s:=by
 obtain⟨⟨C,d,f⟩,o,P,h,hc,M,i⟩:=id x;have l:s.TypeIs (.ref I) "set_iterator":=⟨o,h,hc⟩;unfold Uc;refine My (TC (wpAny_callSpecial?_slot (name:=Q4 "__next__") l F2.si_next (Qf F2.si_next l F2.ent_next ?_ (F2.args_next _))));unfold Builtin.«set_iterator.__next__»;refine My (OP ?_);refine My (V4 h M ?_);simp only;refine My (Wo d f g ?_);simp only[SJ,Pq,Qq];refine My ?_;simp only[QN]
 have c:Pc (Pt prog w) A.in1 (do
    Yi (Pi I) 2 P8
    let e <-ZB (Sf "StopIteration") []
    (raiseNew e:Sem Fin)) (λc G=>∃v,c=Fin.done (Flow.ret v)/\Pc (Pt prog w) A (Rh (on v)) Q E G) (λe G=>Pc (Pt prog w) A (do
     if(<-U5 e (Sf "StopIteration"))=OT then Rh OO else throw e) Q E G) s:=by
  refine My (Sa h M (by simp) ?_);refine My ?_;simp only[ZB,newTuple];refine My (Qy ?_ (by size_fits));refine My (m:=Ub _ _) (S9 (a:=P8) (by first|rfl|(simp only[Ub];rfl)) ?_)
  refine Qy ?_ (by size_fits);simp only[raiseNew];refine My (YZ ?_);rw[show A.in1.handled=OO from r];refine My (OP (wpAny_throw ?_));refine My (R3 (T:="StopIteration") (b:=OT) ⟨_,Ph _ rfl,rfl⟩ Yc ?_);exact OP (B _ (((QO ..).extBut.push _).push _))
 unfold setNext;refine My (Rc d f g (My (nA ?_)));have n:(Pt prog w).w=w:=rfl;rw[n];have j:(dZ w a F D).size=D.size:=by rw[<-PP,(lF w a F D).length_eq,PP]
 cases q:w.params.followText "set-order"
 .simp only[Pq,Qq]
  rw[O1 (λz=>by
   have p:(!t.plain&&decide (D.size>1))=OT:=z;rw[u]at p;cases p)]
  refine My ?_;show Pc _ _ (if(!t.led&&!D.isEmpty)=OT then _ else _) _ _ _;rw[O1 (by rw[y,q];exact O8)];refine OP (OP ?_);rw[i q,Sw (O5 _)];exact c
 .have k:dZ w a F D=Xk (w.params.setOrder a F) D:=by unfold dZ;rw[q];rfl
  simp only[Qm,SJ,Pq,Qq];refine My ?_;unfold setWalk;refine My (Rc d f g (My (nA ?_)));rw[n,q];simp only[Qm];refine My (Ur (OP ?_));refine OP ?_;rw[show((Pt prog w).w.params.setOrder a F)=w.params.setOrder a F from rfl,<-k,Sw (by rw[j];exact O5 _)];exact c
theorem ZL.at{h h':Qg}(x:ZL w h I a es ep t i)(k:∀b,b=I\/b=a->∀o,h.get? b=on o->h'.get? b=on o):ZL w h' I a es ep t i:=by
 obtain⟨⟨e,c,d⟩,o,s,f,r⟩:=x;exact⟨⟨e,k a (.inr rfl) e c,d⟩,o,s,k I (.inl rfl) o f,r⟩
theorem Fc(q:A.handled=OO){D:a0x}{t:Ql}(T:Tb t x)(l:t.fits D.size=OT)(m:t.plain=OT)(n:t.led=!(w.params.followText "set-order"))(f:I≠a):
  Walks prog w A I [I,a] [I] D.size (λi v=>∃e,(dZ w a ep D)[i]?=on e/\v=e.2) (λi h=>ZL w h I a D ep t i) where
 sub:=λb c=>by simp at c;simp[c]
 frame:=λ_ _ _ G r=>G.at λb c o e=>r b (by simpa using c) o e
 item:=λi s Q E J G d=>by
  have u:(dZ w a ep D).size=D.size:=by rw[<-PP,(lF w a ep D).length_eq,PP]
  have p:(dZ w a ep D)[i]?=on (dZ w a ep D)[i]:=getElem?_pos _ i (by lia);exact CL T l m n G f p λK g y=>d _ K s.toks ⟨_,p,rfl⟩ g λb o c e=>y.extBut b o (λh=>c (by simp[h])) e
 done:=λs Q E G d=>Ga q T l m n G λK j=>d K s.toks λb o c e=>j b o (λh=>c (by simp[h])) e
 self:=λi s Q E G d=>by
  obtain⟨⟨L,B,C⟩,o,M,F,hc,P,H⟩:=G;have k:s.TypeIs (.ref I) "set_iterator":=⟨o,F,hc⟩;refine Vm k F2.si_iter (Qf F2.si_iter k F2.ent_iter ?_ (F2.args_iter _));show Pc _ _ (ret (.ref I)) _ _ s;exact OP ⟨_,rfl,"set_iterator",_,k,F2.si_next.lookup,d⟩
end
end L2.Hs
namespace L2.Hs
open PySem.SetTable
section
variable{prog:PN}{w:PV}{A:Qn}{E:a0d}{s:O3}
theorem GA{o:Qx}{D:a0x}{t:Ql}(b:s.heap.get? a=on o)(hc:o.cls= .type "set")(G:o.data= .set D ep t)(c:t.fits D.size=OT)(f:t.plain=OT)
  (g:Q (.ref s.heap.objs.size) {s with heap:=s.heap.push {cls:= .type "set_iterator",data:= .fields #[.int (0:Nat) 0,.int (0:Nat) 0,.ref a,.int D.size 0,.int ep 0]}}):Pc (Pt prog w) A (V3 (.ref a)) Q E s:=by
 have d:s.TypeIs (.ref a) "set":=⟨o,b,hc⟩;refine Vm d F.slot_set_iter (Qf F.slot_set_iter d F2.ent_set_iter ?_ (F.args_set_iter_1 _));unfold Builtin.«frozenset.__iter__»;refine My (S9 (a:=a) rfl ?_);refine My (My (Wo b G c (OP ?_)));refine My ?_;unfold setDrawn;refine My (Rc b G c (My (nA (OP ?_))));rw[O1 (λz=>by
  have e:(!((Pt prog w).w.params.followText "set-order")&&(!t.plain&&decide (D.size>1)))=OT:=z;rw[f]at e;simp at e)]
 refine My (OP ?_);refine My (wpAny_setEpoch_of b G c ?_);unfold newFields;refine My (Qy (OP ⟨_,rfl,"set_iterator",_,⟨_,Ph _ rfl,rfl⟩,F2.si_next.lookup,?_⟩));exact g
theorem wN{o:Qx}{G:a0x}{t:Ql}(hh:A.handled=OO)(R:s.heap.get? a=on o)(hc:o.cls= .type "set")(S:o.data= .set G ep t)(T:Tb t hs)(U:t.fits G.size=OT)(X:t.plain=OT)(hl:t.led=!(w.params.followText "set-order"))
  (aa:G.size<=1000)
  (hQ:∀P Y V,(∀b o,s.heap.get? b=on o->P.get? b=on o)->s.heap.objs.size<=P.objs.size->s.toks<=Y->V.Perm (G.toList.map (·.2))->Q V {s with heap:=P,toks:=Y}):Pc (Pt prog w) A (collect (.ref a)) Q E s:=by
 unfold collect;refine My (wpAny_runValue (XA F.entry_proto_collect ?_));rw[XG F.plain_proto_collect _];show Pc _ A.in1 (newList []>>=λl=>Xs (.builtin "list.__iadd__" ⟨[l,.ref a],[]⟩)) _ _ s;refine My (Qy ?_);refine OP ⟨plainId_quiet F.plain_list_iadd _,XA F.entry_list_iadd ?_⟩;rw[XG F.plain_list_iadd _];have x:=Ps R;have g:(s.heap.push {cls:= .type "list",data:= .seq ([]:a0g).toArray}).get? a=on o:=OQ _ R;have B:(s.heap.push {cls:= .type "list",data:= .seq ([]:a0g).toArray}).get? s.heap.objs.size=on {cls:= .type "list",data:= .seq ([]:a0g).toArray}:=Ph _ rfl;have r:s.heap.objs.size≠a:=RW x;have y:Wa (.ref s.heap.objs.size) (.ref a)=OW:=by simp[Wa,r]
 have C:(⟨s.heap.push {cls:= .type "list",data:= .seq ([]:a0g).toArray},s.gens,s.drawn,s.toks,s.os⟩:O3).TypeIs (.ref a) "set":=⟨o,g,hc⟩;show Pc _ A.in1 (VP (.ref s.heap.objs.size) (.ref a) (.ref s.heap.objs.size)) _ _ _;unfold VP;refine My (wpAny_typeOf C ?_);rw[O1 (by rw[y];decide)];refine My (GA g hc S U X ?_);refine My (Qv ?_);unfold Builtin.List.listLengthHint;have n:(⟨(s.heap.push {cls:= .type "list",data:= .seq ([]:a0g).toArray}).push {cls:= .type "set_iterator",data:= .fields #[.int (0:Nat) 0,.int (0:Nat) 0,.ref a,.int G.size 0,.int ep 0]},s.gens,s.drawn,s.toks,s.os⟩:O3).TypeIs (.ref a) "set":=⟨o,OQ _ g,hc⟩;refine My (Sh n F.slot_set_len.lookup ?_)
 (generalize u:("set.__len__":String)=id0;wp_delta;rw[show splitId id0=on ("set","__len__")from by subst u;decide +kernel];subst u)
 refine My (R3 (b:=OT) n (by rw[U6];kernel_rfl) ?_);rw[O1 (by decide)];show Pc _ _ (if _ then _ else _) _ _ _;rw[O0 (by decide)];refine My (wpAny_typeOf n ?_);refine OP ?_;rw[O0 (by decide)];refine My (SN ?_);have Z:(s.heap.push {cls:= .type "list",data:= .seq ([]:a0g).toArray}).objs.size=s.heap.objs.size+1:=by rw[size_push']
 generalize h:(s.heap.push {cls:= .type "list",data:= .seq ([]:a0g).toArray}).push {cls:= .type "set_iterator",data:= .fields #[.int (0:Nat) 0,.int (0:Nat) 0,.ref a,.int G.size 0,.int ep 0]}=d;have gS:d.get? s.heap.objs.size=on (SV "list" #[] 0):=by rw[<-h];exact OQ _ B
 have gI:d.get? (s.heap.objs.size+1)=on {cls:= .type "set_iterator",data:= .fields #[.int (0:Nat) 0,.int (0:Nat) 0,.ref a,.int G.size 0,.int ep 0]}:=by rw[<-h,<-Z];exact Ph _ rfl
 have ga:d.get? a=on o:=by rw[<-h];exact OQ _ g
 have p:∀b f,s.heap.get? b=on f->d.get? b=on f:=λb f e=>by rw[<-h];exact OQ _ (OQ _ e)
 unfold Builtin.List.listTouch;refine My (My (Vs gS rfl ?_ (by show 0<=_;lia) (by show 1<=_;lia)));obtain⟨e1,g1⟩:∃e1,(d.update s.heap.objs.size (Q6 λD=>D.push P8)).get? s.heap.objs.size=on (SV "list" #[P8] e1):=⟨_,get?_update_seq gS λD=>D.push P8⟩;refine Vs g1 rfl ?_ (by show 1<=Pf;decide) (by show 0<=_;lia);obtain⟨H,g2⟩:∃H,((d.update s.heap.objs.size (Q6 λD=>D.push P8)).update s.heap.objs.size (Q6 λD=>D.pop)).get? s.heap.objs.size=on (SV "list" #[] H):=⟨_,get?_update_seq g1 λD=>D.pop⟩;have c:∀b f,b≠s.heap.objs.size->d.get? b=on f->((d.update s.heap.objs.size (Q6 λD=>D.push P8)).update s.heap.objs.size (Q6 λD=>D.pop)).get? b=on f:=λb f q e=>by
  rw[Si _ _ _ _ q,Si _ _ _ _ q];exact e
 generalize (d.update s.heap.objs.size (Q6 λD=>D.push P8)).update s.heap.objs.size (Q6 λD=>D.pop)=h4 at g2 c;have J:s.heap.objs.size+1≠a:=RW (TN x);have st:ZL w h4 (s.heap.objs.size+1) a G ep t 0:=⟨⟨o,c a o (Ne.symm r) ga,S⟩,_,0,c _ _ (by lia) gI,rfl,rfl,λ_=>by
  have:=jA (j:=0) T.rs;rcases Nat.eq_zero_or_pos (below t.place 0)with z|z
  .exact z
  .have e:=getElem?_pos t.place 0 (by lia)
   have:=this.2.1 0 _ z e;lia⟩
 have W:=Fc (prog:=prog) (w:=w) (A:=A.in1) (I:=s.heap.objs.size+1) (a:=a) (ep:=ep) hh T U X hl J;show Pc _ _ (Xs _) _ _ _;rw[Z];refine OP ⟨plainId_quiet F.plain_extend_loop _,codeAny_extend_loopS W.toS (by rw[RC];lia) s.heap.objs.size (by simp;lia) _ G.size 0 _ #[] H rfl (Qi _) st g2 (ItemsOf.nil _) λK k c' M v m=>?_⟩;show Pc _ A (load s.heap.objs.size>>=_) _ _ K;refine My (wpAny_load v ?_);refine OP ?_;have L:K={s with heap:=K.heap,toks:=K.toks}:=by
  have y:=M.gens;have d:=M.drawn;have h3:=M.os;obtain⟨a1,a2,a3,a4,a5⟩:=K;simp only at y d h3;subst y d h3;rfl
 rw[L];refine hQ _ _ _ (λb f e=>?_) (Vp (Ps v)) M.toks ?_
 .have q:=Ps e
  exact M.heap b f (by simp only[Pb,QL,TX,not_or];exact⟨P4 q,P4 (TN q)⟩) (c b f (P4 q) (p b f e))
 .refine List.Perm.trans (VZ ?_) ((lF w a ep G).map (·.2))
  have N:(dZ w a ep G).size=G.size:=by rw[<-PP,(lF w a ep G).length_eq,PP]
  refine Rx (by rw[PP,ON,PP,N,m.1]) λi q1 q2=>?_;have O:i<k.size:=by simpa using q1
  obtain⟨e,he,hv⟩:=m.2 i _ (getElem?_pos k i O);rw[T4,hv,RY,T4];have:=Qb.mp he;obtain⟨z1,z2⟩:=this;rw[z2]
end
end L2.Hs
namespace L2.Hs
open PySem.W
section
variable{c β:Type}{lt:Nat->Nat->Bool}{n:Nat}
def Rn(lt:Nat->Nat->Bool)(n:Nat):KasT c->(c->Prop)->Prop
 | .ret a,Φ=>Φ a
 | .ask i j k,Φ=>i<n/\j<n/\Rn lt n (k (lt i j)) Φ
theorem Rn.bind{Φ:β->Prop}:∀{t:KasT c},Rn lt n t (λa=>Rn lt n (f a) Φ)->Rn lt n (t.bind f) Φ
 | .ret a,h=>h
 | .ask i j k,⟨h1,h2,h3⟩=>⟨h1,h2,Rn.bind h3⟩
theorem Rn.mono{Φ Ψ:c->Prop}(b:∀a,Φ a->Ψ a):∀{t:KasT c},Rn lt n t Φ->Rn lt n t Ψ
 | .ret a,h=>b a h
 | .ask i j k,⟨h1,h2,h3⟩=>⟨h1,h2,Rn.mono b h3⟩
theorem Rn.wp{Φ:c->Prop}(hc:∀i j,i<n->j<n->∀C:Bool->O3->Prop,C (lt i j) s->cmp i j C s)(b:∀a,Φ a->Q a s):∀{t:KasT c},Rn lt n t Φ->t.kasWp cmp Q s
 | .ret a,h=>b a h
 | .ask i j k,⟨h1,h2,h3⟩=>hc i j h1 h2 _ (Rn.wp hc b h3)
end
section
variable{B:a0S}{n:Nat}
noncomputable abbrev s0(B:a0S)(i j:Nat):Bool:=decide (B i<B j)
noncomputable abbrev ky(B:a0S)(p:a0y)(i:Nat):Nat:=B (p.getD i 0)
structure Pm (B:a0S) (n:Nat) (p:a0y):Prop where
 perm:p.toList.Perm (O6 n)
 inj:∀i j,i<n->j<n->B i=B j->i=j
theorem Pm.sz{p:a0y}(h:Pm B n p):p.size=n:=by have:=h.perm.length_eq;simpa using this
theorem Pm.lt{p:a0y}(h:Pm B n p)(a:i<n):p.getD i 0<n:=by
 have w:=h.sz;have e:p.getD i 0=p[i]:=by simp[Sc,show i<p.size by lia]
 rw[e];exact Pw.mp (h.perm.mem_iff.mp (by simp))
theorem Pm.ne(h:Pm B n p)(a:i<j)(b:j<n):ky B p i≠ky B p j:=λz=>by
 have D:=h.sz;have:=h.inj _ _ (h.lt (show i<n by lia)) (h.lt b) z;have w:p.toList.Nodup:=h.perm.nodup_iff.mpr Wp;have c:p.getD i 0=p.toList[i]'(by simp;lia):=by simp[Sc,show i<p.size by lia]
 have d:p.getD j 0=p.toList[j]'(by simp;lia):=by simp[Sc,show j<p.size by lia]
 rw[c,d]at this;exact Px this (R5.mp w i j (by simp;lia) (by simp;lia) a)
theorem Pm.of{p q:a0y}(h:Pm B n p)(a:q.Perm p):Pm B n q:=⟨(Array.perm_iff_toList_perm.mp a).trans h.perm,h.inj⟩
def So(B:a0S)(p:a0y)(k:Nat):Prop:=∀i j,i<j->j<k->ky B p i<ky B p j
def De(B:a0S)(p:a0y)(k:Nat):Prop:=∀i j,i<j->j<k->ky B p j<ky B p i
theorem So.succ(h:So B p k)(c:1<=k)(b:ky B p (k-1)<ky B p k):So B p (k+1):=λi j a d=>by
 by_cases q:j=k
 .subst q
  by_cases z:i=j-1
  .subst z;exact b
  .exact Uu (h i (j-1) (by lia) (by lia)) b
 .exact h i j a (by lia)
theorem De.succ(h:De B p k)(c:1<=k)(b:ky B p k<ky B p (k-1)):De B p (k+1):=λi j a d=>by
 by_cases q:j=k
 .subst q
  by_cases z:i=j-1
  .subst z;exact b
  .exact Uu b (h i (j-1) (by lia) (by lia))
 .exact h i j a (by lia)
theorem wF(P:Pm B n p):∀(f k:Nat),1<=k->k+f<=n->So B p k->Rn (s0 B) n (kas_asc p f k) λm=>k<=m/\m<=k+f/\So B p m/\(m=k+f\/ky B p m<ky B p (m-1))
 |0,k,_,_,h=>⟨O5 k,O5 _,h,.inl rfl⟩
 |f+1,k,h1,h2,h=>by
  refine⟨P.lt (by lia),P.lt (by lia),?_⟩;by_cases q:ky B p k<ky B p (k-1)
  .rw[show s0 B (p.getD k 0) (p.getD (k-1) 0)=OT from Po q];dsimp only;rw[O0 rfl]
   exact⟨O5 k,by lia,h,.inr q⟩
  .rw[show s0 B (p.getD k 0) (p.getD (k-1) 0)=OW from PZ q];dsimp only;rw[O1 O8]
   have:=P.ne (show k-1<k by lia) (show k<n by lia);refine Rn.mono (λm w=>?_) (wF P f (k+1) (by lia) (by lia) (h.succ h1 (by lia)));exact⟨by lia,by lia,w.2.2.1,by rcases w.2.2.2 with z|z;exact .inl (by lia);exact .inr z⟩
theorem xY(P:Pm B n p):∀(f k:Nat),1<=k->k+f<=n->De B p k->Rn (s0 B) n (kas_desc f p k 0) λr=>r.1=p/\r.2.2=0/\k<=r.2.1/\r.2.1<=k+f/\De B p r.2.1
 |0,k,_,_,h=>⟨rfl,rfl,O5 k,O5 _,h⟩
 |f+1,k,h1,h2,h=>by
  refine⟨P.lt (by lia),P.lt (by lia),?_⟩;by_cases q:ky B p k<ky B p (k-1)
  .rw[show s0 B (p.getD k 0) (p.getD (k-1) 0)=OT from Po q];dsimp only;rw[O0 rfl,O1 (Qh 0)]
   refine Rn.mono (λm w=>?_) (xY P f (k+1) (by lia) (by lia) (h.succ h1 q));exact⟨w.1,w.2.1,by have:=w.2.2.1;lia,by have:=w.2.2.2.1;lia,w.2.2.2.2⟩
  .rw[show s0 B (p.getD k 0) (p.getD (k-1) 0)=OW from PZ q];dsimp only;rw[O1 O8]
   have:=P.ne (show k-1<k by lia) (show k<n by lia);refine⟨P.lt (by lia),P.lt (by lia),?_⟩;rw[show s0 B (p.getD (k-1) 0) (p.getD k 0)=OT from Po (show ky B p (k-1)<ky B p k by lia)];dsimp only;rw[O0 rfl];exact⟨rfl,rfl,O5 k,by show k<=_;lia,h⟩
theorem xR{p q:a0y}(h:p[i]?=q[j]?):p.getD i 0=q.getD j 0:=by
 have a:∀(r:a0y) (x:Nat),r.getD x 0=(r[x]?).getD 0:=λr x=>by
  by_cases b:x<r.size
  .simp[Sc,b]
  .simp[Sc,b]
 rw[a,a,h]
theorem K3{p:a0y}(a:k<=p.size)(h:De B p k):So B (kas_rev p 0 k) k:=λi j b c=>by
 have g:∀x,x<k->(kas_rev p 0 k).getD x 0=p.getD (k-1-x) 0:=λx d=>by
  refine xR ?_;unfold kas_rev;rw[getElem?_mirror_all a,O0 (by lia)];congr 1;lia
 show B _<B _;rw[g i (by lia),g j c];exact h (k-1-j) (k-1-i) (by lia) (by lia)
theorem Fj(P:Pm B n p)(b:1<=k)(c:k<=n)(h:De B p k):Rn (s0 B) n (kas_tail3 k n p) λr=>Pm B n r.2/\1<=r.1/\r.1<=n/\So B r.2 r.1:=by
 have a:Pm B n (kas_rev p 0 k):=P.of (mirror_perm _ _ _ _);unfold kas_tail3;refine Rn.bind (Rn.mono (λm w=>?_) (wF a (n-k) k b (by lia) (K3 (by rw[P.sz];exact c) h)));exact⟨a,by lia,by lia,w.2.2.1⟩
theorem GR(P:Pm B n p)(e:1<=n):Rn (s0 B) n (kas_count n p) λr=>Pm B n r.2/\1<=r.1/\r.1<=n/\So B r.2 r.1:=by
 unfold kas_count;refine Rn.bind (Rn.mono (λm E=>?_) (wF P (n-1) 1 (O5 1) (by lia) λi j a b=>by lia));obtain⟨M,S,w,G⟩:=E;by_cases q:m=n
 .rw[O0 (by rw[R8];exact q)]
  exact⟨P,by lia,by lia,w⟩
 .rw[O1 (by rw[R8];exact q)]
  have K:ky B p m<ky B p (m-1):=by
   rcases G with z|z
   .lia
   .exact z
  by_cases D:m>1
  .rw[O0 D]
   refine⟨P.lt (by lia),P.lt (by lia),?_⟩;rw[show s0 B (p.getD 0 0) (p.getD (m-1) 0)=OT from Po (w 0 (m-1) (by lia) (by lia))];dsimp only;rw[O0 rfl];exact⟨P,by lia,by lia,w⟩
  .rw[O1 D]
   obtain rfl:m=1:=by lia
   unfold kas_descPart;refine Rn.bind (Rn.mono (λr c=>?_) (xY P (n-(1+1)) (1+1) (by lia) (by lia) λi j a b=>by
    obtain rfl:j=1:=by lia
    obtain rfl:i=0:=by lia
    exact K))
   obtain⟨rfl,f,b3,g,d⟩:=c;rw[O1 (by lia)];exact Fj P (by lia) (by lia) d
theorem gC{p:a0y}{k:Nat}(P:Pm B n p)(a:k<n):∀(f l r:Nat),l<=r->r<=k->r-l<=f->(∀i,i<l->ky B p i<ky B p k)->(∀i,r<=i->i<k->ky B p k<ky B p i)->So B p k->
  Rn (s0 B) n (kas_place p k f l r) λm=>m<=k/\(∀i,i<m->ky B p i<ky B p k)/\∀i,m<=i->i<k->ky B p k<ky B p i
 |0,l,r,h1,h2,h3,ha,hb,_=>by
  obtain rfl:l=r:=by lia
  exact⟨h2,ha,hb⟩
 |f+1,l,r,h1,h2,h3,ha,hb,so=>by
  unfold kas_place;by_cases q:l≥r
  .rw[O0 q]
   obtain rfl:l=r:=by lia
   exact⟨h2,ha,hb⟩
  .rw[O1 q]
   refine⟨P.lt (by lia),P.lt (by lia),?_⟩;by_cases z:ky B p k<ky B p ((l+r)/2)
   .rw[show s0 B (p.getD k 0) (p.getD ((l+r)/2) 0)=OT from Po z];dsimp only;rw[O0 rfl]
    refine gC P a f l ((l+r)/2) (by lia) (by lia) (by lia) ha (λi c b=>?_) so;by_cases w:i=(l+r)/2
    .subst w;exact z
    .exact Uu z (so _ i (by lia) b)
   .rw[show s0 B (p.getD k 0) (p.getD ((l+r)/2) 0)=OW from PZ z];dsimp only;rw[O1 O8]
    have d:=P.ne (show(l+r)/2<k by lia) a;refine gC P a f ((l+r)/2+1) r (by lia) h2 (by lia) (λi c=>?_) hb so;by_cases w:i=(l+r)/2
    .subst w;lia
    .exact Uu (so i ((l+r)/2) (by lia) (by lia)) (by lia)
theorem ET:∀(f:Nat) {p:a0y} {k:Nat},Pm B n p->k+f=n->So B p k->Rn (s0 B) n (kas_bin f p k) λb=>Pm B n b/\So B b n
 |0,p,k,P,hk,so=>⟨P,by rw[<-hk];exact so⟩
 |f+1,p,k,P,hk,so=>by
  unfold kas_bin;refine Rn.bind (Rn.mono (λm E=>?_) (gC P (by lia) k 0 k (Qi _) (O5 _) (by lia) (λi h=>Px h (RN i)) (λi l c=>by lia) so));obtain⟨l,c,o⟩:=E;have r:Pm B n (bubble p k (k-m)):=P.of (bubble_perm _ _ _);refine ET f r (by lia) λi j a t=>?_;have G:k<p.size:=by rw[P.sz];lia
  have g:∀x:Nat,(bubble p k (k-m)).getD x 0=p.getD (if x=m then k else if m<x/\x<=k then x-1 else x) 0:=λx=>by
   refine xR ?_;rw[getElem?_bubble G (k-m) (by lia)];by_cases q:x=m
   .rw[O0 (by lia),O0 q]
   .rw[O1 (by lia),O1 q]
    by_cases w:m<x/\x<=k
    .rw[O0 (by lia),O0 w]
    .rw[O1 (by lia),O1 w]
  show B _<B _;rw[g i,g j];by_cases D:i=m
  .rw[O0 D,O1 (by lia),O0 (by lia)]
   exact o (j-1) (by lia) (by lia)
  .rw[O1 D]
   by_cases w:j=m
   .rw[O0 w,O1 (by lia)]
    exact c i (by lia)
   .rw[O1 w]
    by_cases d:m<i/\i<=k
    .rw[O0 d,O0 (by lia)]
     exact so (i-1) (j-1) (by lia) (by lia)
    .rw[O1 d]
     by_cases e:m<j/\j<=k
     .rw[O0 e]
      exact so i (j-1) (by lia) (by lia)
     .rw[O1 e]
      exact so i j a (by lia)
theorem IU(a:1<=n)(w:∀i j,i<n->j<n->B i=B j->i=j):Rn (s0 B) n (kas_sort n) λp=>Pm B n p/\So B p n:=by
 unfold kas_sort;have P:Pm B n (List.toArray (O6 n)):=⟨.refl _,w⟩;refine Rn.bind (Rn.mono (λr b=>?_) (GR P a));obtain⟨D,G,K,E⟩:=b;by_cases q:r.1<n
 .rw[O0 q,Nat.max_eq_left G]
  exact ET _ D (by lia) E
 .rw[O1 q]
  obtain rfl:r.1=n:=by lia
  exact⟨D,E⟩
noncomputable def cJ:a0e->a0e->Bool
 |[],[]=>OW
 |[],_::_=>OT
 |_::_,[]=>OW
 |a::as,b::bs=>if a=b then cJ as bs else decide (a<b)
theorem iT:∀x,cJ x x=OW
 |[]=>rfl
 |a::as=>by unfold cJ;rw[O0 rfl];exact iT as
theorem qS:∀{x y z},cJ x y=OT->cJ y z=OT->cJ x z=OT
 |[],[],_,h,_=>by cases h
 |[],_::_,[],_,h=>by cases h
 |[],_::_,_::_,_,_=>rfl
 |_::_,[],_,h,_=>by cases h
 |_::_,_::_,[],_,h=>by cases h
 |a::as,b::bs,c::cs,h1,h2=>by
  unfold cJ at h1 h2⊢;by_cases w:a=b
  .rw[O0 w]at h1
   by_cases n:b=c
   .rw[O0 n]at h2
    rw[O0 (w.trans n)];exact qS h1 h2
   .rw[O1 n]at h2
    rw[O1 (by rw[w];exact n),w];exact h2
  .rw[O1 w]at h1
   have d:=RG h1;by_cases n:b=c
   .rw[O1 (by rw[<-n];exact w),<-n];exact h1
   .rw[O1 n]at h2
    have e:=RG h2;rw[O1 (by lia)];exact Po (by lia)
theorem ow:∀{x y},cJ x y=OW->cJ y x=OW->x=y
 |[],[],_,_=>rfl
 |[],_::_,h,_=>by cases h
 |_::_,[],_,h=>by cases h
 |a::as,b::bs,h1,h2=>by
  unfold cJ at h1 h2;by_cases q:a=b
  .rw[O0 q]at h1
   rw[O0 q.symm]at h2;rw[q,ow h1 h2]
  .rw[O1 q]at h1
   rw[O1 (Ne.symm q)]at h2;have:=Yg h1;have:=Yg h2;lia
theorem wy:∀{L:a0a},(∀l∈L,p l=OT->q l=OT)->∀{i},i∈L->p i=OW->q i=OT->L.countP p<L.countP q
 |[],_,i,h,_,_=>by cases h
 |a::L,hpq,i,hi,h1,h2=>by
  have n:L.countP p<=L.countP q:=List.countP_mono_left λl b=>hpq l (OR a b);rcases Pb.mp hi with rfl|hi
  .rw[List.countP_cons_of_neg (by rw[h1];exact O8),List.countP_cons_of_pos h2]
   lia
  .have ih:=wy (λl b=>hpq l (OR a b)) hi h1 h2
   rw[List.countP_cons,List.countP_cons];have:(if p a=OT then 1 else 0)<=(if q a=OT then 1 else 0):=by
    by_cases z:p a=OT
    .rw[O0 z,O0 (hpq a OZ z)];exact O5 1
    .rw[O1 z];exact Qi _
   lia
def iu(ks:LI)(i:Nat):Nat:=(O6 ks.length).countP λj=>cJ (ks.getD j []) (ks.getD i [])
theorem ux{n:LI}(a:i<n.length)(h:cJ (n.getD i []) (n.getD j [])=OT):iu n i<iu n j:=
 wy (λl _ b=>qS b h) (Pw.mpr a) (iT _) h
theorem BI{ks:LI}(b:i<ks.length)(c:j<ks.length):decide (iu ks i<iu ks j)=cJ (ks.getD i []) (ks.getD j []):=by
 cases h:cJ (ks.getD i []) (ks.getD j [])with
 |true=>exact Po (ux b h)
 |false=>
  refine PZ λz=>?_;cases a:cJ (ks.getD j []) (ks.getD i [])with
  |true=>have:=ux c a;lia
  |false=>
   have e:=ow h a;unfold iu at z;rw[e]at z;exact Qh _ z
theorem K1{ks:LI}(n:ks.Nodup)(a:i<ks.length)(b:j<ks.length)(h:iu ks i=iu ks j):i=j:=by
 have e:ks.getD i []=ks.getD j []:=by
  refine ow ?_ ?_
  .cases z:cJ (ks.getD i []) (ks.getD j [])with
   |false=>rfl
   |true=>have:=ux a z;lia
  .cases z:cJ (ks.getD j []) (ks.getD i [])with
   |false=>rfl
   |true=>have:=ux b z;lia
 rw[OU,OU,OV a,OV b]at e;have c:ks[i]=ks[j]:=e;rcases SO i j with z|z|z
 .exact Px c (R5.mp n i j a b z)
 .exact z
 .exact Px c.symm (R5.mp n j i b a z)
abbrev Up(l:LI):Prop:=l.Pairwise λa b=>cJ a b=OT
theorem yg:∀{l m:LI},Up l->Up m->(∀x,x∈l↔x∈m)->l=m
 |[],[],_,_,_=>rfl
 |[],b::m,_,_,h=>by have:=(h b).mpr OZ;cases this
 |a::l,[],_,_,h=>by have:=(h a).mp OZ;cases this
 |a::l,b::m,h1,h2,h=>by
  obtain⟨d,f⟩:=Tk.mp h1;obtain⟨n,B⟩:=Tk.mp h2;have e:a=b:=by
   rcases Pb.mp ((h a).mp OZ)with z|z
   .exact z
   .rcases Pb.mp ((h b).mpr OZ)with w|w
    .exact w.symm
    .have:=qS (n a z) (d b w)
     rw[iT]at this;cases this
  subst e;congr 1;refine yg f B λx=>⟨λc=>?_,λc=>?_⟩
  .rcases Pb.mp ((h x).mp (OR a c))with rfl|z
   .have:=d x c;rw[iT]at this;cases this
   .exact z
  .rcases Pb.mp ((h x).mpr (OR a c))with rfl|z
   .have:=n x c;rw[iT]at this;cases this
   .exact z
variable{aa:PN}{w:PV}{A:Qn}{E:a0d}{s:O3}
theorem xG{b:Bool}:∀{G E:a0e} {B D:a0g} (i:Nat),ItemsAre (VH aa w) G B->ItemsAre (VH aa w) E D->∀n m:Nat,(decide (n+B.length<m+D.length)=decide (G.length<E.length))->Q (cJ G E) s->KatLex aa w A OT (decide (n+B.length<m+D.length)) Q (B.zip D) i s
 |[],E,B,D,i,hx,hy,n,m,e,q=>by
  cases hx;cases hy with
  |nil=>rw[Wd];exact kat_nil (by rw[e];exact q)
  |cons c d=>rw[Wd];exact kat_nil (by rw[e];exact q)
 |x::G,E,B,D,i,hx,hy,n,m,e,q=>by
  cases hx with
  |@cons _ u _ us' c d=>
   cases hy with
   |nil=>rw[List.zip_nil_right];exact kat_nil (by rw[e];exact q)
   |@cons y v ys' vs' h3 h4=>
    obtain⟨g,rfl⟩:=V1 c;obtain⟨h,rfl⟩:=V1 h3;rw[Q0];refine kat_cons (wpAny_eqBool_int ?_);unfold cJ at q;by_cases z:x=y
    .rw[O0 z]at q
     rw[show(x==y)=OT by rw[R8];exact z];refine kat_yes ?_;have f:∀k l:Nat,decide (k+(us'.length+1)<l+(vs'.length+1))=decide (k+1+us'.length<l+1+vs'.length):=λk l=>decide_eq_decide.mpr (by lia);rw[Pg,Pg,f];refine xG (b:=b) (i+1) d h4 (n+1) (m+1) ?_ q;rw[<-f,<-Pg (a:=SS x g),<-Pg (a:=SS y h),e,Pg,Pg];exact decide_eq_decide.mpr (by lia)
    .rw[O1 z]at q
     rw[show(x==y)=OW by rw[Xz];exact z];refine kat_no ?_;cases j:(OT&&i==0)with
     |true=>exact oneLt_int q
     |false=>exact kat_one _ _ (lt_int (show PySem.W.BoolBack Q (.bool _) s from q))
theorem LU(i:(i_ aa w).is s.heap t x)(j:(i_ aa w).is s.heap u y)(h:Q (cJ t u) s):Pc (Pt aa w) A (keyLt' (tuples' OT) (.ref x) (.ref y)) Q E s:=by
 obtain⟨m,o,p,d,k,e,a⟩:=i;obtain⟨o2,q,r,f,l,g,c⟩:=j;refine kat_lt d e f g ?_;have:=xG (A:=A) (b:=OT) (Q:=Q) (s:=s) 0 a c 0 0 (by rw[QR,QR,a.length,c.length]) h;rw[QR,QR,PP,PP]at this;exact this
structure Srb (aa:PN) (w:PV) (A:Qn) (is:Qg->a0e->OS->Prop):Prop where
 fr:∀{h h':Qg} {k:a0e} {x:OS},is h k x->(∀b o,o.cls= .type "tuple"->h.get? b=on o->h'.get? b=on o)->is h' k x
 tup:∀{h:Qg} {k:a0e} {x:OS},is h k x->∃o its n i t,h.get? x=on o/\o.cls= .type "tuple"/\o.data= .seq its n/\its[0]?=on (.int i t)
 lt:∀{E:a0d} {s:O3} {Q:Bool->O3->Prop} {x y:OS} {xs ys:a0e},is s.heap xs x->is s.heap ys y->Q (cJ xs ys) s->Pc (Pt aa w) A (keyLt' (tuples' OT) (.ref x) (.ref y)) Q E s
theorem wX(S:Srb aa w A is):∀{ks:a0t},(∀k∈ks,is s.heap k.1 k.2)->∃B:a0g,KatTups s.heap (ks.map λk=>Pi k.2) B/\B.length=ks.length/\∀v∈B,∃n t,v=SS n t
 |[],_=>⟨[],trivial,rfl,λv hv=>by cases hv⟩
 |k::ks,h=>by
  obtain⟨B,a,b,c⟩:=wX S λd f=>h d (OR k f);obtain⟨o,D,n,i,t,g,hc,E,e⟩:=S.tup (h k OZ);refine⟨_::B,KatTups.cons g hc E e a,by rw[Pg,Pg,b],λv hv=>?_⟩;rcases Pb.mp hv with rfl|hv
  .exact⟨i,t,rfl⟩
  .exact c v hv
abbrev isI(aa:PN)(w:PV)(h:Qg)(k:a0e)(x:OS):Prop:=(i_ aa w).is h k x/\1<=k.length
theorem Nk:Srb aa w A (isI aa w) where
 fr:=λ⟨⟨o,s,n,d,b,f,c⟩,l⟩ k=>⟨⟨o,s,n,k _ _ b d,b,f,c⟩,l⟩
 tup:=λ⟨⟨o,s,n,d,b,f,c⟩,l⟩=>by
  have a:=c.length;have g:0<s.size:=by rw[<-PP,<-a];lia
  obtain⟨i,t,e⟩:=items_int c s[0] (by rw[<-T4];exact P3 _);exact⟨o,s,n,i,t,d,b,f,by rw[getElem?_pos s 0 g,e]⟩
 lt:=λj m h=>LU j.1 m.1 h
theorem AQ(S:Srb aa w A is){ks:a0t}{n:Nat}{P:U4->O3->Prop}(L:s.heap.get? a=on (SV "list" (ks.map λk=>Pi k.2).toArray n))(hk:∀k∈ks,is s.heap k.1 k.2)(nd:(ks.map (·.1)).Nodup)(ae:ks.length<64)
  (h:∀(V:Qg) (l:a0t) (n':Nat),l.Perm ks->Up (l.map (·.1))->V.get? a=on (SV "list" (l.map λk=>Pi k.2).toArray n')->(∀b o,b≠a->s.heap.get? b=on o->V.get? b=on o)->P (.done (.ret .none)) {s with heap:=V}):
  Pc (Pt aa w) A (Builtin.«list.sort» ⟨[.ref a],[]⟩) P E s:=by
 have ha:a<s.heap.objs.size:=Ps L;rw[list_sort_plain];refine My (listItems_at L rfl ?_);refine My (Vs L rfl ?_ (by simp[RC];lia) (by simp));obtain⟨B,N⟩:∃B,(s.heap.update a (Q6 λ_=>#[])).get? a=on (SV "list" #[] B):=⟨_,get?_update_seq L (λ_=>#[])⟩;refine My (seqEpoch_at N rfl ?_);refine My (V6 ?_ (by simp[RC];lia));refine My (wpAny_newList ?_ (Qi _));refine Qv ?_;generalize m:(ks.map λk=>Pi k.2)=vs at*;have q:vs.length=ks.length:=by rw[<-m,ON]
 have d:(((s.heap.update a (Q6 λ_=>#[])).push (SV "tuple" vs.toArray 0)).push (SV "list" #[] 0)).get? a=on (SV "list" #[] B):=by
  rw[Zn _ _ _ (by rw[size_push',Heap.size_update];exact P4 (TN ha)),Zn _ _ _ (by rw[Heap.size_update];exact P4 ha)];exact N
 have D:∀b o,b≠a->s.heap.get? b=on o->(((s.heap.update a (Q6 λ_=>#[])).push (SV "tuple" vs.toArray 0)).push (SV "list" #[] 0)).get? b=on o:=λb o F e=>by
  refine OQ _ (OQ _ ?_);rw[Si _ _ _ _ F];exact e
 show Pc (Pt aa w) A _ P E {s with heap:=((s.heap.update a (Q6 λ_=>#[])).push (SV "tuple" vs.toArray 0)).push (SV "list" #[] 0)};generalize af:((s.heap.update a (Q6 λ_=>#[])).push (SV "tuple" vs.toArray 0)).push (SV "list" #[] 0)=h6 at d D
 dsimp only
 have O:∀(l:a0t) (u:a0H),l.Perm ks->Up (l.map (·.1))->u=(l.map λk=>Pi k.2).toArray->P (.done (.ret .none)) {s with heap:=h6.update a (Q6 λ_=>u)}:=λl u p1 p2 e=>by
  refine h _ l _ p1 p2 (by rw[<-e];exact get?_update_seq d λ_=>u) λb o F U=>?_;rw[Si _ _ _ _ F];exact D b o F U
 by_cases I:vs.toArray.size<2
 .rw[O0 I,O0 I]
  refine My (OP ?_);rw[StateT.run_pure];refine My (OP ?_)
  dsimp only
  refine My (seqEpoch_at d rfl ?_);have W:((arrOf (SortSt.mk' general' (vs.toArray.zip vs.toArray) #[] 7 OO)).map (·.2))=vs.toArray:=by
   show(vs.toArray.zip vs.toArray).map (·.2)=_;apply Array.toList_inj.mp;rw[Array.toList_map,Array.toList_zip];exact List.map_snd_zip (O5 _)
  rw[W];refine My (Vs d rfl ?_ (by simp) (by simp[RC];lia));simp only[SJ,Pq,Qq];refine OP (O ks _ (.refl _) ?_ (by rw[m]));have X:ks.length<2:=by rw[<-q];simpa using I
  match ks,X with
  |[],_=>exact Vo
  |[k],_=>exact Sn _ _
  |_::_::_,X=>simp at X;lia
 .rw[O1 I,O1 I]
  have ag:2<=ks.length:=by rw[<-q];simp at I;lia
  have H:∀k∈ks,is h6 k.1 k.2:=λk Y=>S.fr (hk k Y) λb o hc F=>D b o (λz=>by
   subst z;rw[L]at F;cases F;exact Px (Sf.inj hc) (by decide)) F
  obtain⟨fs,t1,t2,t3⟩:=wX S (s:={s with heap:=h6}) H;rw[m]at t1;refine My (kat_kind (T:= .type "int") t1 (by lia) (λv hv=>?_) rfl ?_)
  .obtain⟨x,t,rfl⟩:=t3 v hv
   exact Looks.of_pure rfl
  show Pc _ _ (StateT.run sortRuns' (SortSt.mk' (tuples' OT) (vs.toArray.zip vs.toArray) #[] 7 OO)>>=_) _ _ _;have J:(ks.map (·.1)).length=vs.length:=by rw[ON,q]
  have at_:∀i,i<vs.length->∃k∈ks,vs.getD i P8= .ref k.2/\(ks.map (·.1)).getD i []=k.1/\ks[i]?=on k:=λi c=>by
   have f:i<ks.length:=by lia
   refine⟨ks[i],P3 f,?_,?_,OV f⟩
   .rw[<-m,OU,OY,OV f];rfl
   .rw[OU,OY,OV f];rfl
  refine My (P5 (kat_run (κ:=tuples' OT) (ks:=vs) (vs:=vs) (Q:=λg K=>K={s with heap:=h6}/\failedOf g=OO/\∃p:a0y,Pm (iu (ks.map (·.1))) vs.length p/\So (iu (ks.map (·.1))) p vs.length/\arrOf g=p.map (kas_item (vs.toArray.zip vs.toArray)))
   (G:=λp K=>K={s with heap:=h6}/\Pm (iu (ks.map (·.1))) vs.length p/\So (iu (ks.map (·.1))) p vs.length) rfl (by lia) (by lia) (λp g K a1 a2 a3 a4=>⟨a4.1,a3,p,a4.2.1,a4.2.2,a2⟩)
   (Rn.wp (lt:=s0 (iu (ks.map (·.1)))) (n:=vs.length) (λi j c y C hC=>?_) (λp hp=>⟨rfl,hp⟩) (IU (by lia) λi j c y Z=>K1 nd (by rw[J];exact c) (by rw[J];exact y) Z))) (λr K Z=>?_) λ_ _ e=>e)
  .obtain⟨k1,m1,B,f1,_⟩:=at_ i c
   obtain⟨k2,m2,e2,f2,_⟩:=at_ j y;unfold kas_ask;rw[B,e2];refine S.lt (H k1 m1) (H k2 m2) ?_;have:=BI (ks:=ks.map (·.1)) (i:=i) (j:=j) (by rw[J];exact c) (by rw[J];exact y);rw[f1,f2]at this;rw[<-this];exact hC
  .obtain⟨⟨⟩,g⟩:=r
   obtain⟨rfl,hf,p,P1,so,ab⟩:=Z
   dsimp only
   have W:(arrOf g).map (·.2)=(p.toList.map λi=>vs.getD i P8).toArray:=kat_snds rfl ab;have R:=P1.sz;rw[W];refine My (seqEpoch_at d rfl ?_);refine My (Vs d rfl ?_ (by simp) (by simp[RC];lia));rw[hf];simp only[SJ,Pq,Qq];have M:∀i∈p.toList,i<vs.length:=λi c=>Pw.mp (P1.perm.mem_iff.mp c);refine OP (O (p.toList.map λi=>ks.getD i ([],0)) _ ?_ ?_ ?_)
   .refine(P1.perm.map _).trans (VZ ?_)
    rw[q];refine Rx (by simp) λi q1 q2=>?_;rw[RY,Sy,OU,OV q2];rfl
   .rw[O7]
    unfold Up;rw[UP];refine R5.mpr λi j c y ac=>?_;have f:i<vs.length:=by simpa[R]using c
    have ad:j<vs.length:=by simpa[R]using y
    have gd:∀x (hx:x<p.toList.length),p.getD x 0=p.toList[x]:=λx hx=>by
     have:x<p.size:=by simpa using hx
     simp[Sc,this]
    have z:=so i j ac ad;unfold ky at z;rw[gd i c,gd j y]at z;obtain⟨k1,m1,B,f1,g1⟩:=at_ p.toList[i] (M _ (P3 c));obtain⟨k2,m2,e2,f2,g2⟩:=at_ p.toList[j] (M _ (P3 y));have:=BI (ks:=ks.map (·.1)) (i:=p.toList[i]) (j:=p.toList[j]) (by rw[J];exact M _ (P3 c)) (by rw[J];exact M _ (P3 y));rw[Po z,f1,f2]at this;simp only[Ux];rw[OU,OU,g1,g2];exact this.symm
   .rw[O7]
    congr 1;refine PF λi c=>?_;obtain⟨k1,m1,B,f1,g1⟩:=at_ i (M i c);rw[B];simp only[Ux];rw[OU,g1];rfl
theorem FS{w A:Type}{f:w->A}{B g:List A}(p:B.Perm g):∀{n:List w},g=n.map f->∃s:List w,s.Perm n/\B=s.map f:=by
 induction p with
 |nil=>
  intro n e;cases n with
  |nil=>exact⟨[],.refl _,rfl⟩
  |cons _ _=>cases e
 |cons x _ D=>
  intro n e;cases n with
  |nil=>cases e
  |cons a n=>
   cases e;obtain⟨s,c,d⟩:=D rfl;exact⟨a::s,c.cons a,by rw[d];rfl⟩
 |swap x y l=>
  intro n e
  match n,e with
  |[],e=>cases e
  |[_],e=>cases e
  |a::b::n,e=>
   cases e;exact⟨b::a::n,.swap _ _ _,rfl⟩
 |trans _ _ ih1 ih2=>
  intro n e;obtain⟨s,c,d⟩:=ih2 e;obtain⟨h,i,j⟩:=ih1 d;exact⟨h,i.trans c,j⟩
theorem yr{n:a0t}(H:A.handled=OO)(S:sH aa w s.heap a n)(I:∀x∈n,1<=x.1.length)(J:n.length<64)
  (h:∀(l:OS) (D:Qg) (f v:Nat) (g:a0t),g.Perm n->Up (g.map (·.1))->D.get? l=on (SV "list" (g.map λk=>Pi k.2).toArray v)->s.heap.objs.size<=l->(∀b o,s.heap.get? b=on o->D.get? b=on o)->s.toks<=f->Q (.ref l) {s with heap:=D,toks:=f}):
  Pc (Pt aa w) A (Vg (.builtin "sorted") [.ref a]) Q E s:=by
 obtain⟨o,P,ep,t,L,y,V,i,B,N,T,O,j⟩:=S;have C:P.size=n.length:=by rw[<-PP,i,ON]
 have R:t.fits P.size=OT:=T.fits (by rw[ON,C]);refine Calls.call_function_entry kind_sorted plain_sorted entry_sorted (args_sorted1 _) ?_;unfold Builtin.«sorted»;refine My (m:=checkCount "sorted" 1 1 _) (OP ?_);refine My (wN H L y.1 V T R O j (by lia) λp f vs G q M pv=>?_);rw[i,O7]at pv;obtain⟨K,r,rfl⟩:=FS pv rfl;have U:K.length=n.length:=r.length_eq;refine My (wpAny_newList ?_ (by rw[ON,RC];lia));have c:∀b d,s.heap.get? b=on d->(p.push (SV "list" (K.map λk=>Pi k.2).toArray 0)).get? b=on d:=λb d e=>OQ _ (G b d e);have u:(p.push (SV "list" (K.map λk=>Pi k.2).toArray 0)).get? p.objs.size=on (SV "list" (K.map λk=>Pi k.2).toArray 0):=Ph _ rfl;show Pc _ _ _ _ _ {s with heap:=p.push (SV "list" (K.map λk=>Pi k.2).toArray 0),toks:=f};refine My (Qv (Qf slot_list_sort ⟨_,u,rfl⟩ entry_list_sort (AQ Nk u (λk F=>⟨?_,I k (r.mem_iff.mp F)⟩) ((r.map (·.1)).nodup_iff.mpr B) (by lia) λD g v q1 q2 q3 q4=>⟨_,rfl,?_⟩) (args_list_sort _)))
 .obtain⟨W,its,m,X,Y,Z,z4⟩:=N k (r.mem_iff.mp F)
  exact⟨W,its,m,c _ _ X,Y,Z,z4⟩
 .refine OP ⟨_,rfl,h p.objs.size D f v g (q1.trans r) q2 q3 q (λb d e=>q4 b d (λz=>?_) (c b d e)) M⟩
  have:=Ps e;exact Px (z▸this) (Nat.not_lt.mpr q)
end
end L2.Hs
namespace L2.Hs
section
variable{j:PN}{w:PV}
def sI(j:PN)(w:PV)(a:OS)(D:a0t)(h:Qg):Prop:=
 ∃o E G t,h.get? a=on o/\o.ExactSet/\o.data= .set E G t/\(E.toList=D.map λx=>(hsh j w x.1,Pi x.2))/\(D.map (·.1)).Nodup/\(Tb t (D.map λx=>hsh j w x.1))/\t.plain=OT/\t.led=!(w.params.followText "set-order")
noncomputable def nK(j:PN)(w:PV)(a:OS)(D:a0t):HO:= .ext (sI j w a D)
theorem sI.to(S:sI j w a xs h)(b:∀x∈xs,(i_ j w).is h x.1 x.2):sH j w h a xs:=by
 obtain⟨o,D,E,t,c,d,e,f,h5,g⟩:=S;exact⟨o,D,E,t,c,d,e,f,h5,b,g⟩
theorem w9(S:sI j w a d h):bF j w H h a (nK j w a d):=by
 refine⟨S,?_,λb c z k=>?_⟩
 .obtain⟨o,_,_,_,e,_⟩:=S
  exact⟨o,e⟩
 .obtain⟨o,es,ep,t,e,r⟩:=z
  exact⟨o,es,ep,t,k _ e,r⟩
theorem GB{k:a0e}:∀{D:a0g},aw (k.map V.int) D->ItemsAre (VH j w) k D:=by
 induction k with
 |nil=>intro D h;cases h;exact .nil
 |cons i k E=>
  intro D h;cases h with
  |cons a b=>
   obtain⟨t,rfl⟩:=a;exact .cons (by simp[VH,X2]) (E b)
variable{X:Cx}
theorem oE{s:O3}{k:a0e}(I:cp X c d H s)(h:io X.K H b (k.map V.int)):(i_ X.prog X.w).is s.heap k b:=by
 obtain⟨j,a,⟨o,e,hc,n,D⟩,_⟩:=I.tuple h;exact⟨o,j.toArray,n,e,hc,D,GB a⟩
theorem tb0{b:Bool}:Tb (.fresh 0 0 b) []:=⟨.inl rfl,rfl,λi j a b h=>by simp[Ze]at*,λi j h=>by simp[Ze]at h,rfl,by show 0*5<7*3;decide,λi h j c=>by simp at c⟩
theorem sL:∀a:a0t,aw (a.map λz=>V.ref z.2) (a.map λk=>Pi k.2)
 |[]=> .nil
 |_::a=> .cons rfl (sL a)
theorem JC:Mks X (newSet (.type "set")) λD=>nK X.prog X.w D []:=λa s c H E Q I h=>by
 unfold newSet setsByText;refine My (My (Ur (OP ?_)))
 dsimp only
 simp only[newObj];refine My (Xv (OP (h _ (I.laid (t':=s.toks) (λ_ _ q=>OQ _ q) (O5 _) (w9 ?_)) λb o e=>OQ _ e)));exact⟨_,#[],0,_,Ph _ rfl,⟨rfl,rfl,rfl⟩,rfl,rfl,.nil,tb0,rfl,rfl⟩
def EO(P:PN)(w:PV)(K:Pk)(D:OS)(e:TE):TB:=λd H Q=>e d H λv c=>∃j k b,c D=on (nK P w D j)/\v= .ref b/\io K c b (k.map V.int)/\(∀x∈j,io K c x.2 (x.1.map V.int))/\j.length<63/\
 ∀a,(k∈j.map (·.1)->a=j)->(k∉j.map (·.1)->a.Perm ((k,b)::j))->Q d (upd c D (nK P w D a))
theorem vE{D:OS}(p:X.A.units+1<Ui)(L:z[d+1]?=OO)(N:PE X elt te)(j:X.xe=λ_ _=>False):PB X (.S elt) z scope pos d D (EO X.prog X.w X.K D te):=by
 intro a s y H Q I h k Q' E' O;unfold ik;rw[L];show Pc _ _ ((do let v <-Qp elt X.env;Sk elt.pos;let _ <-Vg (.builtin "set.add") [.ref D,v])>>=λ_=>k) _ _ _
 have c:=N a s y H _ I h;rw[j]at c;refine My (My (P5 c (λu g l=>?_) λ_ _ f=>f.elim));obtain⟨v,H1,i,r,E,R,b,B,rfl,C,J,P,q⟩:=l;cases r;have S:sI X.prog X.w D E g.heap:=(i.hok D _ B).1;have T:sH X.prog X.w g.heap D E:=S.to λx h=>oE i (J x h);obtain⟨o,G,M,t,U,W,_⟩:=S;refine My (QK (My (Qf F.slot_set_add ⟨o,U,W.1⟩ F.entry_set_add ?_ (F.args_set_add_2 _ _))));unfold Builtin.«set.add» Builtin.Frozenset.oneOther;simp only[List.isEmpty_nil,bind_assoc];unfold Builtin.Frozenset.addrOf setAdd;refine My (OP ?_)
 try dsimp only
 refine My (OP ?_)
 try dsimp only
 refine My (Qv (My ((i_ X.prog X.w).pyHash p (oE i C) ?_)));refine MQ (s:={g with toks:=g.toks+(i_ X.prog X.w).draws R}) p T (oE (s:=g) i C) P λh' m Y Z V c2=>?_;show Pc _ _ (ret P8) _ _ _;refine OP ⟨_,rfl,OP (O _ y _ (i.write (by rw[B];trivial) (.inl rfl) (λb u n e=>(Y.2 b n).trans e) ?_ (w9 ?_)) (q m V c2))⟩
 all_goals obtain⟨o,G,M,t,c,l,h3,h4,h5,J,h6⟩:=Z
 .exact⟨o,c⟩
 .exact⟨o,G,M,t,c,l,h3,h4,h5,h6⟩
def mh(c:OS->HO)(j:a0i)(w:a0a)(d:TI)(e:OS->It->TB):TE:=λa H Q=>d a H λJ b=>∀D,b D=OO->e D J (kT j w a) (upd b D (c D)) λ_ f=>Q (.ref D) f
theorem Jm{d a b:Expr}{f:List Expr}{G:a0O}{E:Scope}{K:Uh}{j V:a0i}{z:a0a}{g:TG}{tt:TT}{o:a0W}{p:TI}(hc:X.calm=OT)(S:dc X E j V z)(r:PI X a b p)
  (t:∀(M:a0m) (C:OS) (k:a0p) (s:O3) (H:Hp),PG (aL X j E M C k s H) a g/\dW (aL X j E M C k s H) f tt/\∀D,PB (aL X j E M C k s H) (.S d) (⟨a,b,f,0⟩::G) E K 0 D (o D))
  (hs:∀x,Qe b X.env x=Rh x:=by intro _;rfl):PE X (.SetComp d (⟨a,b,f,0⟩::G) E K) (mh (λD=>nK X.prog X.w D []) V z p λD J=>c8 J g tt (o D)):=by
 intro i s u H Q I h;refine Sv (use:=OO) rfl hs (S.clo I.ok) S.kind S.loc (P5 (r i s u H _ I h) (λv W y=>P5 y (λB Y F=>?_) λ_ _ x=>x) λ_ _ x=>x);obtain⟨it,k,Z,J,H2,e,L,T,l,f2,q⟩:=F;subst e;refine ij (c:= .S d) JC (RR:=λP C=>X7 (Pt X.prog X.w) X.A X.xe OO _ P C) hc S t L T l f2 q λD C s' N m O ns R U=>?_;exact⟨m,ns,λh' n=>⟨.ref D,N,O.letgo R n,rfl,U⟩⟩
def xk(P:PN)(w:PV)(K:Pk):a0k->Hp->VK->Prop:=λD H Q=>∃a j,D=[.ref a]/\H a=on (nK P w a j)/\(∀x∈j,io K H x.2 (x.1.map V.int)/\1<=x.1.length)/\j.length<64/\
 ∀(l:OS) (b:a0t),H l=OO->b.Perm j->Up (b.map (·.1))->Q (.ref l) (upd H l (.lst (b.map λz=>V.ref z.2)))
theorem wO(hc:X.calm=OT):cM X (.builtin "sorted") (xk X.prog X.w X.K):=by
 intro c s j H n t Q I r h;obtain⟨a,G,rfl,M,d,P,q⟩:=h;obtain⟨u,rfl,rfl⟩:=gG r;have S:sI X.prog X.w a G s.heap:=(I.hok a _ M).1;refine yr (I.ok.hd hc) (S.to λx h=>oE I (d x h).1) (λx h=>(d x h).2) P λl v e f b p g i E D m=>?_;refine⟨.ref l,_,I.laid (t':=e) (o:= .lst (b.map λz=>V.ref z.2)) D E ⟨?_,b.map λk=>Pi k.2,f,?_,i⟩,rfl,q l b (I.hok.fresh E) p g⟩
 .rw[ON,p.length_eq,RC];lia
 .exact sL b
end
end L2.Hs
namespace L2.Pu
open L2.Hs
def ig(D:Nat)(E:a0a)(G:FL)(K:na)(M:a0q)(b:FL)(a:a0c->a0l):FD:=λw P=>match G w P with
 |none=>OO
 |some (.error C,β1)=>on (.error C,β1)
 |some (.ok ds,β1)=>match oa K M b ds (lg D E w) β1 with
  |some (.ok os,β2)=>(a os).map λd=>(.ok d,β2)
  |_=>OO
section
variable{K:Pk}{E:a0r}
theorem sO{R:AR}{p:OS->HO}{c:a0c->a0l}{P:a0i}{S:a0a}{V:FL}{g:TG}{M:na}{s:a0q}{T:a0W}{b:FL}(hg:cF K g M)(sg:dT M)(hb:∀D,eV K R D (T D) b)
  (r0:∀F H D,R.R F (upd H D (p D)) D []) (hp:∀os d,c os=on d->R.Z os) {U:St} {H:Hp} {Q W:VK} (h:tV K (ig P.length S V M s b c) E U H W)
  (k:∀F B f D os d,Fr F B f->¬F.A D->R.R F B D os->c os=on d->(∀v j,To F B j f->c4 K F j d v->W v j)->Q (.ref D) B):
  mh p P S (iV K V E) (λD J=>c8 J g (hY K s E0) (T D)) U H Q:=by
 obtain⟨F,δ,β,fr,X,r,f,e,h⟩:=h;unfold ig at e;refine⟨F,δ,β,fr,X,?_⟩;split at e
 .cases e
 .rename_i C β1 q
  cases e;exact⟨.error C,_,q,h⟩
 .rename_i ds β1 q
  split at e
  .rename_i os β2 q2
   cases G:c os with
   |none=>rw[G]at e;cases e
   |some d=>
    rw[G]at e;cases e;refine⟨.ok ds,β1,q,λJ I t hJ D m=>?_⟩;have i:¬F.A D:=t.fr.fresh m;have nb:∀b l,F.bg=on (b,l)->D≠b/\D≠l:=λb l z=>⟨λw=>i (w▸(fr.bgA b l z).1),λw=>i (w▸(fr.bgA b l z).2.1)⟩;have Y:=t.fr.upd (p D) m;have L:Fr ⟨λa=>F.A a\/a=D,F.bg⟩ (upd I D (p D)) β1:=by
     refine⟨λa ha z=>?_,λb l z=>let ⟨x,y,w⟩:=fr.bgA b l z;⟨.inl x,.inl y,w⟩,Y.fr.bag⟩
     rcases ha with ha|ha
     .exact Y.fr.occ a ha z
     .subst ha;rw[am]at z;cases z
    have u:Tr F I ⟨λa=>F.A a\/a=D,F.bg⟩ (upd I D (p D)):=⟨λa ha hs z=>by
     rcases z with z|z
     .exact ha z
     .subst z;exact hs m,λa o ha z=>by rw[bt (b_ z m)];exact z,rfl⟩
    refine ox (R:=R) (D:=D) (as:=[]) (os:=os) hg sg (hb D) L (.inr rfl) nb (rp (X.tr ((t.tr fr).trans u))) (r0 _ _ _) (hJ.tr u) q2 (hp os d G) λaa j N ab O=>?_;have tf:To F I j f:=by
     refine⟨λa o z n=>N.kp a o (by rw[bt (b_ z m)];exact z) (b_ z m) n,λa ha z=>N.fr.occ a (RH ha) z,fr.bgA,N.fr.bag⟩
    exact k F j f D os d tf.fr i (R.tr (F:=⟨λa=>F.A a\/a=D,F.bg⟩) O (λ_ z=>z) ⟨λa ha _ z=>ha (RH z),λa o _ z=>z,rfl⟩) G λv H3 t4 hv=>h v H3 ((t.trans tf).trans t4) hv
  .cases e
noncomputable abbrev l9(k:a0e):D:= .tup (k.map .int)
theorem sC{k:a0e}(h:c4 K F H (l9 k) v):∃b,v= .ref b/\io K H b (k.map V.int):=by
 obtain⟨a,D,rfl,w,c⟩:=c4.sqT h;cases bb.ints k c;exact⟨a,rfl,w⟩
theorem gx(h:l9 k=l9 l):k=l:=by
 injection h with h
 exact VX (λa b z=>by injection z)|>.mp h
theorem ia{w:Type} [BEq w] [LawfulBEq w]:∀{l m:List w},l.Nodup->(∀x∈l,x∈m)->l.length<=m.length
 |[],_,_,_=>Qi _
 |a::l,m,nd,h=>by
  obtain⟨c,d⟩:=P7.mp nd;have:=ia (m:=m.erase a) d λx b=>(Yr (λ(z:x=a)=>c (z▸b))).mpr (h x (OR a b));rw[Xp (h a OZ)]at this;have:=XQ (h a OZ);rw[Pg];lia
noncomputable def RS(P:PN)(w:PV)(K:Pk):AR where
 R:=λF H D M=>∃E,H D=on (nK P w D E)/\(E.map (·.1)).Nodup/\(∀x∈E,c4 K F H (l9 x.1) (.ref x.2)/\l9 x.1∈M)/\∀d∈M,∃k∈E.map (·.1),d=l9 k
 Z:=λl=>∃G:LI,G.length<63/\∀d∈l,∃k∈G,d=l9 k
 tr:=λh k t=>by
  obtain⟨E,a,b,c,f⟩:=h;exact⟨E,k _ a,b,λx e=>⟨c4.tr t _ _ (c x e).1,(c x e).2⟩,f⟩
 zp:=λh=>by
  obtain⟨G,a,b⟩:=h;exact⟨G,a,λd S=>b d (RF _ S)⟩
theorem Gs{P:PN}{w:PV}{D:OS}:eV K (RS P w K) D (EO P w K D (tV K f E0)) (lk f):=λF H δ β u R as os Q fr T A J U e W k=>by
 obtain⟨E,X,V,j,s⟩:=U;obtain⟨d,aa,Y,Z⟩:=M.bind_inv e;cases Z;refine⟨F,δ,β,fr,J,E0.run Y λv B t L=>?_⟩;have C:=t.kp D _ X A;obtain⟨ks,z1,N⟩:=W;obtain⟨r,ab,rfl⟩:=N d (P0 _ OZ);obtain⟨b,rfl,sq⟩:=sC L;have c:∀x∈E,c4 K F B (l9 x.1) (.ref x.2):=λx h=>c4.tr (t.tr fr) _ _ (j x h).1;have g:E.length<63:=by
  have:=ia (m:=ks) V λx I=>by
   obtain⟨y,hy,rfl⟩:=Pe.mp I;obtain⟨l,hl,e⟩:=N _ (RF _ (j y hy).2);rw[gx e];exact hl
  rw[ON]at this;lia
 refine⟨E,r,b,C,rfl,sq,λx h=>?_,g,λi c1 c2=>?_⟩
 .obtain⟨b',e,q⟩:=sC (c x h)
  cases e;exact q
 have O:nq F D B (upd B D (nK P w D i)) u:=by
  refine⟨λa o h n _=>by rw[bt n];exact h,λa h q=>?_,fr.bgA,λb l q=>?_⟩
  .by_cases z:a=D
   .subst z;rw[am]at q;cases q
   .rw[bt z]at q;exact t.fr.occ a h q
  .rw[bt (A b l q).1.symm,bt (A b l q).2.symm]
   exact t.fr.bag b l q
 have G:=O.tr t.fr T;refine k R _ ((t.toD D).trans O) (J.tr ((t.tr fr).trans G)) ⟨i,am,?_⟩;by_cases S:r∈E.map (·.1)
 .cases c1 S
  refine⟨V,λx h=>⟨c4.tr G _ _ (c x h),RF _ (j x h).2⟩,λd hd=>?_⟩;rcases Qt.mp hd with hd|hd
  .exact s d hd
  .exact⟨r,S,PM.mp hd⟩
 .have p:=c2 S
  refine⟨(p.map (·.1)).nodup_iff.mpr (P7.mpr ⟨S,V⟩),λx h=>?_,λd hd=>?_⟩
  .rcases Pb.mp (p.mem_iff.mp h)with rfl|h
   .exact⟨c4.tr G _ _ L,P0 _ OZ⟩
   .exact⟨c4.tr G _ _ (c x h),RF _ (j x h).2⟩
  .rcases Qt.mp hd with hd|hd
   .obtain⟨k2,h2,e⟩:=s d hd
    exact⟨k2,(p.map (·.1)).mem_iff.mpr (OR _ h2),e⟩
   .exact⟨r,(p.map (·.1)).mem_iff.mpr OZ,PM.mp hd⟩
def ZX(w:LI)(D:a0c):Prop:=Up w/\w.length<63/\(∀k∈w,1<=k.length/\l9 k∈D)/\∀d∈D,∃k∈w,d=l9 k
theorem ZX.eq{w:a0c}(a:ZX d w)(b:ZX ls w):d=ls:=yg a.1 b.1 λx=>⟨λh=>by
 obtain⟨l,c,e⟩:=b.2.2.2 _ (a.2.2.1 x h).2;rw[gx e];exact c,λh=>by
 obtain⟨l,c,e⟩:=a.2.2.2 _ (b.2.2.1 x h).2;rw[gx e];exact c⟩
open Classical in
def lh(w:a0c):a0l:=if h:∃D,ZX D w then on (.lst (h.choose.map l9))else OO
theorem Fu{w:LI}{D:a0c}(h:ZX w D):lh D=on (.lst (w.map l9)):=by
 have q:∃w,ZX w D:=⟨w,h⟩;unfold lh;rw[dif_pos q,q.choose_spec.eq h]
theorem sS{w:a0c}(h:lh w=on d):∃D,ZX D w/\d= .lst (D.map l9):=by
 unfold lh at h;split at h
 .rename_i q
  cases h;exact⟨_,q.choose_spec,rfl⟩
 .cases h
theorem tT:∀{a:a0t},(∀z∈a,c4 K F H (l9 z.1) (.ref z.2))->bb K F H ((a.map (·.1)).map l9) (a.map λz=>V.ref z.2)
 |[],_=>bb.nil
 |z::a,h=>bb.cons (h z OZ) (tT λx b=>h x (OR z b))
end
section
variable{X:Cx}{E:a0r}{af cb aa:Expr}{ac:List Expr}{ab:a0O}{P:Scope}{ae p ad:Uh}{Nc c_:a0i}{cx:a0a}{g:TG}{tb:a0W}
theorem Ff(i:Gl X "sorted")(hm:X.mg "sorted"=OO)(hc:X.calm=OT)(S:dc X P Nc c_ cx)(n:PI X cb aa (iV X.K it E))
  (o:∀(G:a0m) (C:OS) (j:a0p) (s:O3) (H:Hp),PG (aL X Nc P G C j s H) cb g/\dW (aL X Nc P G C j s H) ac (hY X.K tt E0)/\∀D,PB (aL X Nc P G C j s H) (.S af) (⟨cb,aa,ac,0⟩::ab) P ae 0 D (tb D))
  (r:cF X.K g tg) (t:dT tg) (u:∀D,eV X.K (RS X.prog X.w X.K) D (tb D) b) (hs:∀x,Qe aa X.env x=Rh x:=by intro _;rfl):
  PE X (.Call (.Name "sorted" p) [.SetComp af (⟨cb,aa,ac,0⟩::ab) P ae] [] ad) (tV X.K (ig c_.length cx it tg tt b lh) E):=
 (lC (wO hc) i hm (by kernel_rfl) (cE (Jm hc S n o hs) gj)).imp λW H Q h=>by
  refine sO (Q:=λv A=>xk X.prog X.w X.K [v] A Q) r t u (λF H D=>⟨[],am,.nil,λx a=>Px a (by simp),λd hd=>Px hd (by simp)⟩) (λos d e=>?_) h λF Y B D os d fr I J e q=>?_
  .obtain⟨ks,s,_⟩:=sS e
   exact⟨ks,s.2.1,s.2.2.2⟩
  .obtain⟨ks,s,rfl⟩:=sS e
   obtain⟨M,L,nd,a,ha⟩:=J;have k:∀x∈M,x.1∈ks:=λx h=>by
    obtain⟨l,f,e⟩:=s.2.2.2 _ (a x h).2;rw[gx e];exact f
   have hn:M.length<64:=by
    have:=ia (m:=ks) nd λy c=>by
     obtain⟨x,h,rfl⟩:=Pe.mp c;exact k x h
    rw[ON]at this;have:=s.2.1;lia
   refine⟨D,M,rfl,L,λx h=>?_,hn,λl N f V O=>?_⟩
   .obtain⟨Z,e,q⟩:=sC (a x h).1
    cases e;exact⟨q,(s.2.2.1 _ (k x h)).1⟩
   .have R:ks=N.map (·.1):=yg s.1 O λy=>by
     refine⟨λc=>?_,λc=>?_⟩
     .obtain⟨k2,T,e⟩:=ha _ (s.2.2.1 y c).2
      rw[gx e];exact(V.map (·.1)).mem_iff.mpr T
     .obtain⟨x,h,rfl⟩:=Pe.mp ((V.map (·.1)).mem_iff.mp c)
      exact k x h
    rw[R]at q;exact q _ _ (fr.upd _ f) (c4.newL fr f (tT λz U=>(a z (V.mem_iff.mp U)).1))
end
end L2.Pu
namespace L2.Hs
section
variable{J:PN}{w:PV}{A:Qn}{E:a0d}{s:O3}
def M_(J:PN)(w:PV)(h:Qg)(k:eX)(a:OS):Prop:=∃o n t b,h.get? a=on o/\o.cls= .type "tuple"/\o.data= .seq #[.int k.1 t,.ref b] n/\(i_ J w).is h k.2 b
theorem M_.ty(x:M_ J w s.heap k a):s.TypeIs (.ref a) "tuple":=let ⟨o,_,_,_,ho,hc,_⟩:=x;⟨o,ho,hc⟩
theorem M_.inj(f:M_ J w h x a)(g:M_ J w h y a):x=y:=by
 obtain⟨o,n,t,b,i,_,s,j⟩:=f;obtain⟨k,p,A,q,d,_,c,e⟩:=g;obtain rfl:o=k:=PH (i.symm.trans d);rw[s]at c;simp only[Data.seq.injEq,Array.mk.injEq,Su,SS.injEq,Pi.injEq]at c;obtain⟨⟨⟨l,_⟩,m,_⟩,_⟩:=c;subst m;exact QI l ((i_ J w).inj j e)
theorem Mt(k:a0e):hsh J w k=hI k:=by unfold hsh hI;show tupleKeyHash _ _=_;unfold tupleKeyHash;rfl
theorem Mu{k:eX}(g:A.units+1<Ui)(f:M_ J w s.heap k a)(h:Q (hB OT k) {s with toks:=s.toks+(k.2.length+3)}):Pc (Pt J w) A (pyHash (.ref a)) Q E s:=by
 have c:=f.ty;obtain⟨o,n,t,b,i,_,G,j⟩:=f;unfold pyHash
 first|unfold pyHashByItsType|skip
 refine My (wpAny_cRoomFor_or (.inr (by lia)) ?_);refine My (Sh c F.slot_tuple_hash.lookup ?_);show Pc _ _ (if(on (Value.builtin "tuple.__hash__")==on P8)=OT then _ else _) Q E s;rw[O1 (by rw[beq_builtin_none];exact O8)];refine My (Sh c F.slot_tuple_hash.lookup ?_);show Pc _ _ (callSpecialIfBoundUnlessNone? (.ref a) "__hash__" _>>=_) Q E s;refine My (wpAny_callSpecialIfBoundUnlessNone?_slot c F.slot_tuple_hash (Qf F.slot_tuple_hash c F.entry_tuple_hash ?_ (F.args_tuple_hash_1 _)));show Pc _ _ (Builtin.Tuple.tupleItemsOf (.ref a)>>=_) _ _ s;refine My (WA i G ?_);refine My ?_;rw[<-Te];simp only[R7,Sm];refine My (My (wpAny_pyHash_int ?_));refine OP (My (My ((i_ J w).pyHash g j ?_)));refine OP (OP ?_);have D:Q (hB OT k) {s with toks:=s.toks+1+(k.2.length+1)+1}:=by
  have e:s.toks+1+(k.2.length+1)+1=s.toks+(k.2.length+3):=by lia
  rw[e];exact h
 refine wpAny_ret_mkInt ?_;generalize l:T7 _=z;have m:hB OT k=reduceHash z:=by rw[<-l,show(i_ J w).hash k.2=hI k.2 from Mt k.2];rfl
 rw[m]at D;show Pc _ _ (if(decide (-(2:Int)^63<=z)&&decide (z<2^63))=OT then _ else _) Q E _;unfold reduceHash at D;by_cases d:(decide (-(2:Int)^63<=z)&&decide (z<2^63))=OT
 .rw[O0 d]
  rw[O0 d]at D;exact OP D
 .rw[O1 d]
  rw[O1 d]at D;exact My (SN (OP D))
theorem eq_p(q:A.units+1<Ui)(d:M_ J w s.heap x a)(f:M_ J w s.heap y b)(h:Q (decide (x=y)) s):Pc (Pt J w) A (eqBool (.ref a) (.ref b)) Q E s:=by
 unfold eqBool
 try with_reducible refine Qv ?_
 show Pc _ _ (if(Pi a==Pi b)=OT then _ else _) Q E s;by_cases c:(Pi a==Pi b)=OT
 .rw[O0 c]
  have e:a=b:=by have:=eq_of_beq c;injection this
  subst e;obtain rfl:=d.inj f;exact My (SN (OP (by simpa using h)))
 .rw[O1 c]
  refine My (wpAny_richCompare_same_room (op:= .Eq) d.ty f.ty F.slot_tuple_eq
   (Qf F.slot_tuple_eq d.ty F.entry_tuple_eq ?_ (F.args_tuple_eq_2 _ _)) (by lia))
  have j:=f.ty;obtain⟨r,t,u,v,k,_,l,m⟩:=d;obtain⟨B,C,H,I,n,_,o,p⟩:=f;show Pc _ _ (U5 (.ref b) (.type "tuple")>>=_) _ _ s;refine My (R3 j VU ?_);simp only[RV,Pq,Qq];refine My (WA k l ?_);refine My (WA n o ?_);refine My ?_;simp only[Q0,Wd,R7,Sm];refine My (My ((VH J w).eqBool (a:=x.1) (b:=y.1) (by simp[VH,X2]) (by simp[VH,X2]) ?_));by_cases g:x.1=y.1
  .rw[Po g]
   refine OP (My (My ((i_ J w).eqBool q m p ?_)));by_cases i:x.2=y.2
   .rw[Po i]
    rw[Po (QI g i)]at h;exact OP (OP (OP ⟨_,rfl,(λe=>nomatch e),Qz h⟩))
   .rw[PZ i]
    rw[PZ (λe=>i (Qo _ e))]at h;exact My (OP (OP (OP (OP ⟨_,rfl,(λe=>nomatch e),Qz h⟩))))
  .rw[PZ g]
   rw[PZ (λe=>g (Qo _ e))]at h;exact My (OP (OP (OP (OP ⟨_,rfl,(λe=>nomatch e),Qz h⟩))))
theorem Jf(e:(i_ J w).is s.heap k a)(h:Q OT s):Pc (Pt J w) A (Zh (m+1) (.ref a)) Q E s:=by
 have f:=Xx e;obtain⟨o,G,n,g,_,M,i⟩:=e;unfold Zh;refine My (Sh f F.slot_tuple_eq.lookup ?_);show Pc _ _ (U5 (.ref a) (.type "tuple")>>=_) _ _ s;refine My (R3 f VU ?_);simp only[RV,Pq,Qq];refine My (Rf g M ?_);refine My ?_;show Pc _ _ (Yb G _ _) _ _ s;rw[<-Te];refine Vx _ (λD r K=>r.1=OO/\K=s/\∀v∈D,carriedByValue v=OT) _ ?_ ?_ _ _ ⟨rfl,rfl,i.byValue⟩
 .rintro v D r K ⟨c,rfl,b⟩
  rw[eqIsQuiet_byValue _ (b v OZ)];refine My (OP ?_);simp only[RV,Pq,Qq];exact OP ⟨rfl,rfl,λu d=>b u (OR _ d)⟩
 .rintro⟨r1,j⟩ K ⟨c,rfl,_⟩
  simp only at c;subst c;exact OP h
theorem Jg(c:M_ J w s.heap k a)(h:Q OT s):Pc (Pt J w) A (Zh 8 (.ref a)) Q E s:=by
 have d:=c.ty;obtain⟨o,n,t,b,e,_,D,f⟩:=c;unfold Zh;refine My (Sh d F.slot_tuple_eq.lookup ?_);show Pc _ _ (U5 (.ref a) (.type "tuple")>>=_) _ _ s;refine My (R3 d VU ?_);simp only[RV,Pq,Qq];refine My (Rf e D ?_);refine My ?_;show Pc _ _ (Yb #[SS k.1 t,Pi b] _ _) _ _ s;rw[<-Te];simp only[R7,Sm];rw[eqIsQuiet_byValue _ (v:= .int k.1 t) rfl];exact My (My (OP (OP (My (My (Jf (m:=6) f (OP (OP (OP h)))))))))
def PKd(J:PN)(w:PV):HeapKind J w eX where
 is:=M_ J w
 hash:=hB OT
 draws:=λk=>k.2.length+3
 room:=λA=>A.units+1<Ui
 inj:=λd e=>d.inj e
 keeps:=λx i s D=>by
  obtain⟨j,n,t,b,c,hc,a,l⟩:=x;refine⟨j,n,t,b,(D.2 _ ?_).trans c,hc,a,(i_ J w).keeps l i s D⟩;rintro rfl;obtain rfl:=PH (c.symm.trans i);rw[s]at a;exact nomatch a
 pyHash:=λf g h=>Mu f g h
 eqBool:=λf d e h=>eq_p f d e h
 quiet:=λg h=>Jg g h
def FKd(J:PN)(w:PV):HeapKind J w eX where
 is:=λh k a=>k.1=0/\(i_ J w).is h k.2 a
 hash:=hB OW
 draws:=λk=>k.2.length+1
 room:=λA=>A.units+1<Ui
 inj:=λc d=>QI (c.1.trans d.1.symm) ((i_ J w).inj c.2 d.2)
 keeps:=λx i D G=>⟨x.1,(i_ J w).keeps x.2 i D G⟩
 pyHash:=λf g h=>(i_ J w).pyHash (Wg f) g.2 h
 eqBool:=λ{A E s x y a b Q} f c d h=>(i_ J w).eqBool (Wg f) c.2 d.2 (by
  have e:decide (x.2=y.2)=decide (x=y):=by
   by_cases q:x.2=y.2
   .rw[Po q,Po (QI (c.1.trans d.1.symm) q)]
   .rw[PZ q,PZ (λz=>q (Qo _ z))]
  rw[e];exact h)
 quiet:=λg h=>(i_ J w).quiet g.2 h
def KB(J:PN)(w:PV):Bool->HeapKind J w eX
 |true=>PKd J w
 |false=>FKd J w
theorem oA{b:Bool}:(KB J w b).hash=hB b:=by cases b<;>rfl
theorem iW{b:Bool}{A:Qn}(h:A.units+1<Ui):(KB J w b).room A:=by cases b<;>exact h
def w_(K:Pk)(H:Hp):Bool->eX->OS->Prop
 |true,k,c=>∃e,io K H c [.int k.1,.ref e]/\io K H e (k.2.map V.int)
 |false,k,c=>k.1=0/\io K H c (k.2.map V.int)
abbrev XY(x:eX×OS×V)(y:eX×OS×OX):Prop:=x.1=y.1/\x.2.1=y.2.1/\aO x.2.2 y.2.2
theorem nQ:∀{s:a0o} {w:a0C},U2 XY s w->s.map (·.1)=w.map (·.1)
 |_,_,.nil=>rfl
 |_,_,.cons h t=>by rw[O9,O9,h.1,nQ t]
theorem zS:∀{s:a0o} {w:a0C},U2 XY s w->∀y∈w,∃x∈s,XY x y
 |_,_,.nil,y,h=>by cases h
 |_,_,.cons (a:=a) h t,y,hy=>by
  rcases Pb.mp hy with rfl|hy
  .exact⟨a,OZ,h⟩
  .obtain⟨x,b,e⟩:=zS t y hy
   exact⟨x,OR _ b,e⟩
noncomputable def n6(xs:a0o)(k:eX):Option V:=(xs.find? λx=>decide (x.1=k)).map (·.2.2)
theorem ku:∀{s:a0o} {w:a0C},U2 XY s w->iD (n6 s k) ((Wr w k).map (·.2))
 |_,_,.nil=>by simp[n6,Wr,iD]
 |_,_,.cons (a:=a) (b:=b) h t=>by
  have A:=ku (k:=k) t;unfold n6 Wr at A⊢;rw[Rr,Rr,<-h.1];by_cases q:a.1=k
  .rw[Po q];exact h.2.2
  .rw[PZ q];exact A
theorem rF(h:XY x y):∀{s:a0o} {w:a0C},U2 XY s w->U2 XY (s++[x]) (w++[y])
 |_,_,.nil=> .cons h .nil
 |_,_,.cons h' t=> .cons h' (rF h t)
variable{X:Cx}{P:a0b}{z:St}{H:Hp}
theorem lI{b:Bool}(I:cp X P z H s)(h:w_ X.K H b k c):(KB X.prog X.w b).is s.heap k c:=by
 cases b with
 |true=>
  obtain⟨e,a,d⟩:=h;obtain⟨A,f,⟨o,g,hc,n,D⟩,_⟩:=I.tuple a;obtain⟨i,j,rfl,⟨t,rfl⟩,rfl⟩:=uq f;exact⟨o,n,t,e,g,hc,D,oE I d⟩
 |false=>exact⟨h.1,oE I h.2⟩
theorem C_{P:a0b}{z:St}{H:Hp}{s:O3}(I:cp X P z H s):Wz<s.heap.objs.size:=Uu (by decide) (show RB<s.heap.objs.size from(I.mod.glob.keeps I.bk).lt)
theorem jy{b:Bool}(I:cp X P z H s)(d:H a=on (bB a b r q))(e:∀x∈q,w_ X.K H b x.1 x.2.1):∃A,s.heap.DictOfH (KB X.prog X.w b) a A/\U2 XY q A/\A.length<=Pf/\(a==Wz)=OW:=by
 obtain⟨o,D,A,f,g,h,i,h5,j,k,c⟩:zP a b r q s.heap:=(I.hok a _ d).1;refine⟨A,⟨o,D,r,f,g,h,?_,λy l=>?_,h5⟩,c,k,j⟩
 .rw[i];unfold X9;rw[oA]
 .obtain⟨x,m,n,p,_⟩:=zS c y l
  rw[<-n,<-p];exact lI I (e x m)
def K8(K:Pk):R2:=λx y H Q=>∃a b w s k c v,x= .ref a/\y= .ref c/\H a=on (bB a b w s)/\(∀x∈s,w_ K H b x.1 x.2.1)/\w_ K H b k c/\n6 s k=on v/\Q v H
theorem v3(l:X.A.units+2<Ui):L_ X (K8 X.K):=by
 intro g i P s z H x y v u Q I m n h w;obtain⟨a,b,G,J,k,c,o,rfl,rfl,t,B,hc,C,q⟩:=h;cases m;cases n;obtain⟨D,d,p,_,_⟩:=jy I t B;have f:=ku (k:=k) p;rw[C]at f;cases e:Wr D k with
 |none=>rw[e]at f;exact f.elim
 |some r=>
  rw[e]at f;exact VI (x:=r.2) d.typeIs PySem.F.slot_dict_getitem.lookup (wpAny_getItem_heap (Q:=λj E=>j=r.2/\EP X P z Q j E) (iW l) (lI I hc) d e ⟨rfl,o,H,I.tok _,f,q⟩) w
theorem pL{b:Bool}:Mks X newDict λD=>bB D b 0 []:=λP s z H E Q I h=>Qy (h _ (I.laid (t':=s.toks) (λ_ _ q=>OQ _ q) (O5 _) (kS ⟨_,#[],[],Ph _ rfl,⟨rfl,rfl,rfl⟩,rfl,rfl,.nil,beq_eq_false_iff_ne.mpr (Ne.symm (P4 (C_ I))),Qi _,.nil⟩)) λb o e=>OQ _ e)
def EQ(K:Pk)(b:Bool)(D:OS)(e f:TE):TB:=λz H Q=>e z H λx g=>f z g λy a=>∃w s k c,x= .ref c/\a D=on (bB D b w s)/\(∀x∈s,w_ K a b x.1 x.2.1)/\w_ K a b k c/\k∉s.map (·.1)/\s.length<Pf/\∀d,Q z (upd a D (bB D b d (s++[(k,c,y)])))
theorem lD{D:OS}{b:Bool}(L:X.A.units+1<Ui)(N:gens[d+1]?=OO)(O:PE X ke tk)(R:PE X ve tv)(a:X.xe=λ_ _=>False):PB X (.D ke ve) gens scope pos d D (EQ X.K b D tk tv):=by
 intro P s z H Q I h k Q' E' T;unfold ik;rw[N];show Pc _ _ (emC (.D ke ve) (.ref D) X.env>>=λ_=>k) _ _ _;unfold emC;have t:=O P s z H _ I h;rw[a]at t;refine My (My (P5 t (λu U W=>?_) λ_ _ f=>f.elim));obtain⟨v,Y,Z,r,G⟩:=W;have B:=R P U z Y _ Z G;rw[a]at B;refine My (Qv (P5 B (λu2 s2 M=>?_) λ_ _ f=>f.elim));obtain⟨v2,H2,i,S,V,xs,j,c,rfl,C,hx,hc,hn,hl,q⟩:=M;cases r;obtain⟨w,dd,p,hz,l⟩:=jy i C hx;have F:=nQ p;have e0:Wr w j=OO:=by
  cases e:Wr w j with
  |none=>rfl
  |some r=>
   exfalso
   unfold Wr at e;cases m:w.find? (λx=>decide (x.1=j))with
   |none=>rw[m]at e;cases e
   |some y=>
    have:=List.find?_some m;exact hn (by rw[F];exact Pe.mpr ⟨y,List.mem_of_find?_eq_some m,RG this⟩)
 refine My (QK (Qv (wpAny_dictSet_heap (iW L) (lI i hc) dd (λh' E sb=>?_) hz)));rw[storedH_new e0]at E;obtain⟨o,es,ep,J,g2,g3,g4,g5,g6⟩:=E;have g:w.length=xs.length:=by rw[<-ON (f:=(·.1)),<-F,ON]
 refine T _ z _ (i.write (by rw[C];trivial) (.inl rfl) (λb u n e=>(sb.2 b n).trans e) ⟨o,J⟩ (kS ⟨o,es,_,J,g2,g3,?_,g6,l,?_,rF ⟨rfl,rfl,S⟩ p⟩)) (q ep)
 .rw[g4];unfold X9;rw[oA]
 .rw[Pl,g,Qa];lia
theorem FX{b:Bool}{k l a d:Expr}{f:List Expr}{G:a0O}{E:Scope}{K:Uh}{i c_:a0i}{cx:a0a}{g:TG}{tt:TT}{p:a0W}{r:TI}(hc:X.calm=OT)(S:dc X E i c_ cx)(t:PI X a d r)
  (u:∀(M:a0m) (C:OS) (j:a0p) (s:O3) (H:Hp),PG (aL X i E M C j s H) a g/\dW (aL X i E M C j s H) f tt/\∀D,PB (aL X i E M C j s H) (.D k l) (⟨a,d,f,0⟩::G) E K 0 D (p D))
  (hs:∀x,Qe d X.env x=Rh x:=by intro _;rfl):PE X (.DictComp k l (⟨a,d,f,0⟩::G) E K) (mh (λD=>bB D b 0 []) c_ cx r λD J=>c8 J g tt (p D)):=by
 intro P s z H Q I h;refine Sv (use:=OO) rfl hs (S.clo I.ok) S.kind S.loc (P5 (t P s z H _ I h) (λv W y=>P5 y (λB Y F=>?_) λ_ _ x=>x) λ_ _ x=>x);obtain⟨it,j,Z,J,H2,e,L,T,n,f2,q⟩:=F;subst e;refine ij (c:= .D k l) pL (RR:=λV C=>X7 (Pt X.prog X.w) X.A X.xe OO _ V C) hc S u L T n f2 q λD C s' N m O ns R U=>?_;exact⟨m,ns,λh' o=>⟨.ref D,N,O.letgo R o,rfl,U⟩⟩
end
end L2.Hs
namespace L2.Pu
open L2.Hs
def dK:Bool->eX->D
 |true,k=> .tup [.int k.1,l9 k.2]
 |false,k=>l9 k.2
def Fv(b:Bool)(k:eX):Prop:=b=OW->k.1=0
theorem ML{b:Bool}(a:Fv b k)(c:Fv b l)(h:dK b k=dK b l):k=l:=by
 cases b with
 |true=>
  simp only[dK,D.tup.injEq,Su,D.int.injEq,and_true]at h;exact QI h.1 (gx (Qo D.tup h.2))
 |false=>exact QI ((a rfl).trans (c rfl).symm) (gx h)
section
variable{K:Pk}{F:Fx}{H:Hp}{E:a0r}
theorem wu(h:c4 K F H (.tup b) v):∃a w,v= .ref a/\TQ K F H a w/\bb K F H b w:=by
 unfold c4 at h;exact h
theorem qe(h:TQ K F H a b)(w:bb K F H c b):c4 K F H (.tup c) (.ref a):=by
 unfold c4;exact⟨a,b,rfl,h,w⟩
theorem TQ.sq(h:TQ K F H c a):io K H c a:=h.imp (·.2) id
theorem fE.s{b:Bool}(h:fE K F H b k c):w_ K H b k c:=by
 cases b with
 |true=>
  obtain⟨e,a,d⟩:=h;exact⟨e,a.sq,d.sq⟩
 |false=>exact⟨h.1,h.2.sq⟩
theorem fE.z{b:Bool}(h:fE K F H b k c):Fv b k:=λe=>by subst e;exact h.1
theorem oy{b:Bool}(g:Fv b k)(h:c4 K F H (dK b k) v):∃c,v= .ref c/\fE K F H b k c:=by
 cases b with
 |true=>
  obtain⟨a,w,rfl,q,d⟩:=wu h;obtain⟨i,j,rfl,D,E⟩:=bb.two d;cases D.int;obtain⟨e,M,rfl,G,f⟩:=wu E;cases bb.ints k.2 f;exact⟨a,rfl,e,q,G⟩
 |false=>
  obtain⟨a,w,rfl,q,d⟩:=wu h;cases bb.ints k.2 d;exact⟨a,rfl,g rfl,q⟩
theorem NI{b:Bool}(h:fE K F H b k c):c4 K F H (dK b k) (.ref c):=by
 cases b with
 |true=>
  obtain⟨e,a,d⟩:=h;exact qe a (bb.cons rfl (bb.cons (qe d (bb.ofInts k.2)) bb.nil))
 |false=>exact qe h.2 (bb.ofInts k.2)
abbrev B4(b:Bool)(p:eX×D):D:= .tup [dK b p.1,p.2]
def Dk(b:Bool)(w:List (eX×D))(E:a0c):Prop:=E=w.map (B4 b)/\(w.map (·.1)).Nodup/\w.length<=Pf/\∀p∈w,Fv b p.1
theorem Js{b:Bool}{p q:eX×D}(a:Fv b p.1)(c:Fv b q.1)(h:B4 b p=B4 b q):p=q:=by
 simp only[B4,D.tup.injEq,Su,and_true]at h;exact QI (ML a c h.1) h.2
theorem lE{b:Bool}:∀{l m:List (eX×D)},(∀p∈l,Fv b p.1)->(∀p∈m,Fv b p.1)->l.map (B4 b)=m.map (B4 b)->l=m
 |[],[],_,_,_=>rfl
 |[],_::_,_,_,h=>by cases h
 |_::_,[],_,_,h=>by cases h
 |p::l,q::m,hl,hm,h=>by
  rw[O9,O9,Su]at h;rw[Js (hl p OZ) (hm q OZ) h.1,lE (λx a=>hl x (OR _ a)) (λx a=>hm x (OR _ a)) h.2]
theorem Dk.eq{b:Bool}{w:a0c}(x:Dk b l w)(y:Dk b m w):l=m:=lE x.2.2.2 y.2.2.2 (x.1.symm.trans y.1)
open Classical in
def lU(b:Bool)(D:a0c):a0l:=if h:∃w,Dk b w D then on (.dct b (h.choose.map (·.1)) (h.choose.map (·.2)))else OO
theorem x4{b:Bool}{kvs:List (eX×D)}{w:a0c}(h:Dk b kvs w):lU b w=on (.dct b (kvs.map (·.1)) (kvs.map (·.2))):=by
 have q:∃kvs,Dk b kvs w:=⟨kvs,h⟩;unfold lU;rw[dif_pos q,q.choose_spec.eq h]
theorem ww{b:Bool}{D:a0c}(h:lU b D=on d):∃w,Dk b w D/\d= .dct b (w.map (·.1)) (w.map (·.2)):=by
 unfold lU at h;split at h
 .rename_i q
  cases h;exact⟨_,q.choose_spec,rfl⟩
 .cases h
noncomputable def RD(K:Pk)(b:Bool):AR where
 R:=λF H D M=>∃G,∃a:List ((eX×Pu.D)×OS×V),M=a.map (λz=>B4 b z.1)/\H D=on (bB D b G (a.map λz=>(z.1.1,z.2)))/\∀z∈a,fE K F H b z.1.1 z.2.1/\c4 K F H z.1.2 z.2.2
 Z:=λl=>∃E w,Dk b E (l++w)
 tr:=λh k t=>by
  obtain⟨G,a,e,f,c⟩:=h;exact⟨G,a,e,k _ f,λz d=>⟨(c z d).1.tr t,c4.tr t _ _ (c z d).2⟩⟩
 zp:=λh=>by
  obtain⟨E,w,h⟩:=h;exact⟨E,_,by rw[<-Qs];exact h⟩
def GT(f g:FD):FL:=λw=>M.bind (f w) λk=>M.bind (g w) λv=>M.ret [.tup [k,v]]
theorem pO{b:Bool}{D:OS}:eV K (RD K b) D (EQ K b D (tV K f E0) (tV K g E0)) (GT f g):=λF H P β I σ as os Q fr hA B J hR e hz k=>by
 obtain⟨ep,d,rfl,hD,C⟩:=hR;obtain⟨W,G,e1,e2⟩:=M.bind_inv e;obtain⟨X,aa,e3,e4⟩:=M.bind_inv e2;cases e4;obtain⟨w,S,L,Y,z3,Z⟩:=hz;have N:∀p∈d.map (·.1),Fv b p.1:=λp r=>by
  obtain⟨z,h,rfl⟩:=Pe.mp r;exact(C z h).1.z
 have O:d.length<w.length:=by
  have:=Qo UM L;simp at this;lia
 have ez:(d.map (·.1)).map (B4 b)=(w.take d.length).map (B4 b):=by
  rw[VR,<-L,Qs,List.take_append_of_le_length (by simp),RQ (by simp),O7];rfl
 have ek:=lE N (λp r=>Z p (SR r)) ez;have R:B4 b w[d.length]= .tup [W,X]:=by
  have V:(w.map (B4 b))[d.length]?=on (.tup [W,X]):=by
   rw[<-L,Qs,Rm (by simp)];simp
  rw[OY,OV O]at V;exact PH V
 have u:=Z _ (P3 O);generalize r:w[d.length]=p at R u;obtain⟨j,vv⟩:=p;simp only[B4,Pu.D.tup.injEq,Su,and_true]at R;obtain⟨rfl,rfl⟩:=R;have y:j∉d.map (·.1.1):=λhm=>by
  have h2:w.take d.length++(j,vv)::w.drop (d.length+1)=w:=by
   rw[<-r,<-QC O,R1]
  rw[<-h2,<-ek,PR,O9,UO]at Y;refine Y.2.2 j ?_ j OZ rfl;rw[O7];exact hm
 refine⟨F,P,β,fr,J,E0.run e1 λv H1 t hv=>⟨F,P,G,t.fr,J.tr (t.tr fr),E0.run e3 λv2 H2 m T=>?_⟩⟩;have U:=c4.tr (m.tr t.fr) _ _ hv;obtain⟨c,rfl,kc⟩:=oy u U;have i:=(t.tr fr).trans (m.tr t.fr);refine⟨ep,_,j,c,rfl,m.kp D _ (t.kp D _ hD B) B,λx h=>?_,kc.s,?_,?_,λA=>?_⟩
 .obtain⟨z,h',rfl⟩:=Pe.mp h
  exact((C z h').1.tr i).s
 .rw[O7];exact y
 .rw[ON];lia
 have tD:nq F D H2 (upd H2 D (bB D b A ((d.map λz=>(z.1.1,z.2))++[(j,c,v2)]))) I:=by
  refine⟨λa o h n _=>by rw[bt n];exact h,λa h q=>?_,fr.bgA,λb l q=>?_⟩
  .by_cases z:a=D
   .subst z;rw[am]at q;cases q
   .rw[bt z]at q;exact m.fr.occ a h q
  .rw[bt (B b l q).1.symm,bt (B b l q).2.symm]
   exact m.fr.bag b l q
 have E:=tD.tr m.fr hA;refine k σ _ (((t.trans m).toD D).trans tD) (J.tr (i.trans E)) ⟨A,d++[((j,vv),c,v2)],by rw[PR];rfl,by rw[PR];exact am,λz h=>?_⟩;rcases Qt.mp h with h|h
 .exact⟨(C z h).1.tr (i.trans E),c4.tr (i.trans E) _ _ (C z h).2⟩
 .cases PM.mp h
  exact⟨kc.tr E,c4.tr E _ _ T⟩
theorem wv{F:Fx}{H:Hp}{w:Type}{f:w->D}{g:w->V}:∀{a:List w},(∀z∈a,c4 K F H (f z) (g z))->bb K F H (a.map f) (a.map g)
 |[],_=>bb.nil
 |z::a,h=>bb.cons (h z OZ) (wv λx b=>h x (OR z b))
end
theorem wr{K:Pk}{E:a0r}{kb:Bool}{G:a0i}{M:a0a}{g:TG}{f:a0W}{P:FL}{w:na}{S:a0q}{b:FL}(j:cF K g w)(k:dT w)(l:∀D,eV K (RD K kb) D (f D) b){i:St}{H:Hp}{Q:VK}(h:tV K (ig G.length M P w S b (lU kb)) E i H Q):
  mh (λD=>bB D kb 0 []) G M (iV K P E) (λD J=>c8 J g (hY K S E0) (f D)) i H Q:=by
 refine sO j k l (λF H D=>⟨0,[],rfl,am,λx a=>Px a (by simp)⟩) (λV d e=>?_) h λF v m D V d fr c n e q=>?_
 .obtain⟨kvs,s,_⟩:=ww e
  exact⟨kvs,[],by rw[PU];exact s⟩
 .obtain⟨kvs,s,rfl⟩:=ww e
  obtain⟨y,o,rfl,r,a⟩:=n;have t:kvs=o.map (·.1):=lE s.2.2.2 (λp u=>by
   obtain⟨z,h,rfl⟩:=Pe.mp u;exact(a z h).1.z) (by rw[<-s.1,O7];rfl)
  refine q _ _ (To.refl fr) ?_;unfold c4;subst t;refine⟨D,y,_,rfl,⟨c,r⟩,by simp,λx h=>?_,?_⟩
  .obtain⟨z,h',rfl⟩:=Pe.mp h
   exact(a z h').1
  .rw[O7,O7]
   exact wv λz h=>(a z h).2
section
variable{X:Cx}{E:a0r}{J B t m:Expr}{p:List Expr}{n:a0O}{l:Scope}{q:Uh}{u L:a0i}{cx:a0a}{g:TG}{I:a0W}
theorem IH{kb:Bool}(hc:X.calm=OT)(S:dc X l u L cx)(c:PI X t m (iV X.K o E))
  (d:∀(w:a0m) (C:OS) (a:a0p) (s:O3) (H:Hp),PG (aL X u l w C a s H) t g/\dW (aL X u l w C a s H) p (hY X.K r E0)/\∀D,PB (aL X u l w C a s H) (.D J B) (⟨t,m,p,0⟩::n) l q 0 D (I D))
  (e:cF X.K g k) (f:dT k) (i:∀D,eV X.K (RD X.K kb) D (I D) b) (G:∀x,Qe m X.env x=Rh x:=by intro _;rfl):
  PE X (.DictComp J B (⟨t,m,p,0⟩::n) l q) (tV X.K (ig L.length cx o k r b (lU kb)) E):=
 (FX (b:=kb) hc S c d G).imp λj H Q h=>wr e f i h
noncomputable def im:a0c->Option a0e
 |[]=>on []
 | .int i::r=>(im r).map (i::·)
 |_=>OO
def dR:Bool->D->Option eX
 |false,.tup ds=>(im ds).map λl=>(0,l)
 |true,.tup [.int i,.tup ds]=>(im ds).map λl=>(i,l)
 |_,_=>OO
theorem rH:∀(l:a0e),im (l.map .int)=on l
 |[]=>rfl
 |i::l=>by show(im (l.map .int)).map _=_;rw[rH l];rfl
theorem lQ:∀{n:a0c} {l:a0e},im n=on l->n=l.map .int
 |[],l,h=>by cases h;rfl
 | .int i::r,l,h=>by
  have g:(im r).map (i::·)=on l:=h;cases q:im r with
  |none=>rw[q]at g;cases g
  |some m=>rw[q]at g;cases g;rw[lQ q];rfl
 | .non::_,_,h=>by cases h
 | .bl _::_,_,h=>by cases h
 | .str _::_,_,h=>by cases h
 | .ty _::_,_,h=>by cases h
 | .txt::_,_,h=>by cases h
 | .lst _::_,_,h=>by cases h
 | .tup _::_,_,h=>by cases h
 | .scr _::_,_,h=>by cases h
 | .obj _ _ _::_,_,h=>by cases h
 | .bag::_,_,h=>by cases h
 | .adr _::_,_,h=>by cases h
 | .dct _ _ _::_,_,h=>by cases h
theorem gE{b:Bool}(h:Fv b k):dR b (dK b k)=on k:=by
 cases b with
 |true=>show(im _).map _=_;rw[rH];rfl
 |false=>show(im _).map _=_;rw[rH];exact Qo on (QI (h rfl).symm rfl)
theorem ju{b:Bool}(h:dR b d=on k):Fv b k/\d=dK b k:=by
 unfold dR at h;split at h
 .rename_i ds
  cases q:im ds with
  |none=>rw[q]at h;cases h
  |some l=>rw[q]at h;cases h;exact⟨λ_=>rfl,by rw[lQ q];rfl⟩
 .rename_i i ds
  cases q:im ds with
  |none=>rw[q]at h;cases h
  |some l=>rw[q]at h;cases h;exact⟨λz=>(by cases z),by rw[lQ q];rfl⟩
 .cases h
noncomputable def la(g:a0V)(l:a0c)(k:eX):a0l:=((g.zip l).find? λp=>decide (p.1=k)).map (·.2)
variable{K:Pk}{F:Fx}{H:Hp}
def RelD(K:Pk)(F:Fx)(H:Hp):a0l->Option V->Prop
 |none,v=>v=OO
 |some d,v=>∃u,v=on u/\c4 K F H d u
theorem qR:∀{l:a0o} {g:a0c},bb K F H g (l.map (·.2.2))->RelD K F H (la (l.map (·.1)) g k) (n6 l k)
 |[],g,_=>by unfold la n6;rfl
 |x::l,g,h=>by
  cases g with
  |nil=>cases h
  |cons d g=>
   obtain⟨u,r,e,a,b⟩:=h;rw[O9,Su]at e;obtain⟨rfl,rfl⟩:=e;have m:=qR (k:=k) b;unfold la n6 at m⊢;rw[O9,Q0,Rr,Rr];by_cases q:x.1=k
   .rw[Po q];exact⟨_,rfl,a⟩
   .rw[PZ q];exact m
def GQ:D->D->a0l
 | .dct b ks vs,y=>(dR b y).bind (la ks vs)
 |_,_=>OO
theorem HQ:aY K (K8 K) GQ:=λF H D Q E g d y A fr h i e k=>by
 unfold GQ at e;split at e
 .rename_i b ks vs
  cases q:dR b g with
  |none=>rw[q]at e;cases e
  |some f=>
   rw[q]at e;have j:la ks vs f=on d:=e;obtain⟨l,rfl⟩:=ju q;obtain⟨c,rfl,m⟩:=oy l i;unfold c4 at h;obtain⟨a,w,B,rfl,n,rfl,o,p⟩:=h;have:=qR (k:=f) p;rw[j]at this;obtain⟨u,r,t⟩:=this;exact⟨a,b,w,B,f,c,u,rfl,rfl,n.2,λx v=>(o x v).s,m.s,r,k u H (To.refl fr) t⟩
 .cases e
def Nz(K:Pk):V->a0k->Hp->VK->Prop:=λx l H Q=>∃a b m g k c z,x= .ref a/\l=[.ref c,z]/\H a=on (bB a b m g)/\(∀x∈g,w_ K H b x.1 x.2.1)/\w_ K H b k c/\Q ((n6 g k).getD z) H
variable{o e:Expr}{es:List Expr}{P w:Uh}
theorem JB(n:X.A.units+2<Ui):MtR X "dict.get" (Nz X.K):=by
 intro l s L H x o v D Q I r t h;obtain⟨a,b,E,e,k,c,z,rfl,rfl,u,B,hc,q⟩:=h;cases r;obtain⟨N,C,rfl,r1,J⟩:=uq t;cases r1;obtain⟨j,d,p,_,g⟩:=jy I u B;have f:=ku (k:=k) p;refine call_meetsIn Xr d.typeIs PySem.F.entry_dict_get (PySem.F.args_dict_get_3 _ _ _) (meetsH_dict_get_default (KB X.prog X.w b) a c g C) ⟨iW n,k,j,lI I hc,d,_,H,I.tok _,?_,q⟩;cases m:n6 e k with
 |none=>
  rw[m]at f;cases i:(Wr j k).map (·.2)with
  |none=>exact J
  |some w=>rw[i]at f;exact f.elim
 |some y=>
  rw[m]at f;cases i:(Wr j k).map (·.2)with
  |none=>rw[i]at f;exact f.elim
  |some w=>rw[i]at f;exact f
def wn(f:FD)(g:FL):FD:=λe=>M.bind (f e) λd=>match d with
 | .dct b ks vs=>M.bind (g e) λl=>M.ofO (match l with
  |[k,z]=>(dR b k).map λk=>(la ks vs k).getD z
  |_=>OO)
 |_=>M.fail
theorem Hd{g:FL}(hu:X.A.units+2<Ui)(ho:PE X o (tV X.K f E))(ha:PA X (e::es) (i4 X.K g E))
  (n:Tx o "get" X.env (Qp o X.env)=Qp o X.env:=by rfl)
  (B:((Ri w (Pd (e::es) X.env)).all (λx=>!x.1)&&(Sj w (Rb [] X.env)).all (λx=>x.1.isSome)
   &&decide ((e::es).length+([]:List Wc).length+(if([]:List Wc).isEmpty then 0 else 1)<30))=OT:=by rfl)
  (p:(P.endLine==w.line)=OT:=by rfl) (hs:b0a X e es:=by rfl) (m:b0b X w es:=by rfl):
  PE X (.Call (.Attribute o "get" P) (e::es) [] w) (tV X.K (wn f g) E):=by
 intro j s J H Q I h;obtain⟨F,δ,β,fr,vk,h⟩:=h;refine ZE n B p rfl (eg (ho j s J H _ I ⟨F,δ,β,fr,vk,(run.bind (R:=c4 X.K F) h)⟩) λv s1 h1=>?_);obtain⟨x,H1,I1,r1,d,S,t,hd,q1⟩:=h1;have V:∀{N:M D},N=M.fail->run (c4 X.K F) F E J N H1 Q S->False:=λ{N} e r=>by
  obtain⟨r,ae,e',_⟩:=r;rw[e]at e';cases e'
 cases d<;>first|exact(V rfl q1).elim|skip
 rename_i b ks vs;have C:=hd;unfold c4 at C;obtain⟨a,ep,G,rfl,O,rfl,hk,dl⟩:=C;cases r1;obtain⟨ys,dd,_,_,_⟩:=jy I1 O.2 λx T=>(hk x T).s;refine⟨"dict","dict.get",W8,Xr,PySem.F.type_dict_get,dd.typeIs,λb e=>?_,?_⟩
 .cases e
  obtain⟨ob,_,_,g1,g2,_⟩:=dd;exact⟨ob,g1,g2.2.1⟩
 have hA:=ha w j s1 J H1 _ I1 ⟨F,δ,S,t.fr,vk.tr (t.tr fr),run.bind (R:=bb X.K F) q1⟩;rw[hs]at hA⊢;refine Vd (by show(OW||(Ri w (Pd es X.env)).any (·.1))=OW;rw[m]<;>rfl) (XS (eg hA λus s2 h2=>?_))
 obtain⟨ws,L,I2,r2,as,af,t2,U,q2⟩:=h2;obtain⟨z,y,kf⟩:=run.ofO q2;have tt:=t2.tr t.fr;split at y
 .rename_i k zz
  cases W:dR b k with
  |none=>rw[W]at y;cases y
  |some i=>
   rw[W]at y;cases y;obtain⟨hz,rfl⟩:=ju W;obtain⟨w1,Y,rfl,Z,aa⟩:=bb.two U;obtain⟨c,rfl,kc⟩:=oy hz Z;have ab:=bb.tr tt _ _ dl;have ac:∀x∈G,w_ X.K L b x.1 x.2.1:=λx T=>((hk x T).tr tt).s;refine JB hu j s2 J L (.ref a) [.ref c,Y] (.ref a) us Q I2 rfl r2 ⟨a,b,ep,G,i,c,Y,rfl,rfl,tt.kp a _ O.1 O.2,ac,kc.s,?_⟩;refine kf _ L (To.refl t2.fr) ?_;show c4 X.K F L ((la (G.map (·.1)) vs i).getD zz) ((n6 G i).getD Y);have l:=qR (k:=i) ab;cases q:la (G.map (·.1)) vs i with
   |none=>
    rw[q]at l;have l':n6 G i=OO:=l;rw[l'];exact aa
   |some d=>
    rw[q]at l;obtain⟨u,l',ad⟩:=l;rw[l'];exact ad
 .cases y
end
end L2.Pu
namespace L2.Hs
section
variable{P:PN}{w:PV}{A:Qn}{E:a0d}{s:O3}{d z v:OS}{od:Qx}{es:Array TZ}{ep i:Nat}{ok ov:OX}
theorem zI(a:s.TypeIs (.ref d) "dict")(i:(d==Wz)=OW)(h:Q (.ref s.heap.objs.size) {s with heap:=s.heap.push {cls:= .type "dict_items",data:= .fields #[.ref d]}}):Pc (Pt P w) A (Vg (.builtin "dict.items") [.ref d]) Q E s:=by
 refine Qf F.slot_dict_items a F.entry_dict_items ?_ (F.args_dict_items_1 _);unfold Builtin.«dict.items»;refine My ?_;unfold Builtin.Dict.noArgs;refine My (wpAny_notOrdered_dict a ?_);show Pc _ _ (Rh d) _ _ s;refine OP ?_;show Pc _ _ (Wt d>>=_) _ _ s;unfold Wt;rw[O1 (by rw[i];exact O8)];exact My (OP (My (Qy (OP ⟨_,rfl,h⟩))))
theorem ze(a:s.heap.IsItemsView v d)(e:s.heap.get? d=on od)(i:od.data= .dict es ep)
  (h:Q (.ref s.heap.objs.size) {s with heap:=s.heap.push {cls:= .type "dict_itemiterator",data:= .fields #[.none,.bool OW,.ref d,.int 0 0,.int es.size 0,.int ep 0,.none,.none]}}):Pc (Pt P w) A (V3 (.ref v)) Q E s:=by
 obtain⟨o,b,f,c⟩:=id a;refine Vm a.typeIs YE (Qf YE a.typeIs F.entry_dict_items_iter ?_ (F.args_dict_items_iter_1 _));unfold Builtin.«dict_items.__iter__»;refine My (OP (My ?_));unfold Builtin.Dict_items.dictOf;refine My (QE b c (x:= .ref d) rfl (OP (My ?_)));unfold Builtin.Dict_items.newIterator;refine My (W1 e i (My (XE e i ?_)));simp only[show Ta "dict_itemiterator"=OT from by decide,Qm];refine Qy (OP ⟨_,rfl,"dict_itemiterator",_,⟨_,Ph _ rfl,rfl⟩,Q9.lookup,?_⟩)
  (by simp only[sizeOk,UA,Pr,Pl,Pg,WG,RC];lia)
 simpa[SU,UA]using h
theorem zc(a:UZ s.heap z d i es.size ep ok ov)(h:Q (.ref z) s):Pc (Pt P w) A (V3 (.ref z)) Q E s:=by
 have c:s.TypeIs (.ref z) "dict_itemiterator":=⟨_,a,rfl⟩;refine Vm c W3 (Qf W3 c (b:=Builtin.«dict_keyiterator.__iter__») (X8 (id':="dict_keyiterator.__iter__") (by kernel_rfl) rfl (by decide +kernel) (by kernel_rfl)) ?_ (F.args_dict_itemiterator_iter_1 _));show Pc _ _ (ret (.ref z)) _ _ s;exact OP ⟨_,rfl,"dict_itemiterator",_,c,Q9.lookup,h⟩
theorem zd{e:TZ}(m:UZ s.heap z d i es.size ep ok ov)(K:s.heap.get? d=on od)(M:od.data= .dict es ep)(Y:es[i]?=on e)
  (S:∀v,IsItemIterOut v z d (i+1) es.size ep e.key e.val s.heap.objs.size->v.get? s.heap.objs.size=on {cls:= .type "tuple",data:= .seq #[e.key,e.val]}->v.objs.size=s.heap.objs.size+1->
   (∀b o,b≠z->s.heap.get? b=on o->v.get? b=on o)->Q (on (.ref s.heap.objs.size)) {s with heap:=v}):Pc (Pt P w) A (Uc (.ref z)) Q E s:=by
 obtain⟨n,g,T,U,D⟩:=s;have u:Shared.TypeIs ⟨n,g,T,U,D⟩ (.ref z) "dict_itemiterator":=⟨_,m,rfl⟩;have W:i<es.size:=by
  rcases TM i es.size with h|h
  .exact h
  .simp[Sw h]at Y
 obtain rfl:es[i]=e:=by rw[Uz W]at Y;exact PH Y
 unfold Uc;refine My (TC (wpAny_callSpecial?_slot (name:=Q4 "__next__") u Q9
  (Qf Q9 u WO ?_ (WC _))))
 refine My (OP (My (My ?_)))
 first|refine My (SE u (OP ?_))|refine My (Tp u (OP ?_))
 refine My (V4 m rfl ?_);simp only[show Ta "dict_itemiterator"=OT from by decide,Qm];show Pc _ _ (if(Pi d==P8)=OT then _ else _) _ _ _;rw[O1 (show ¬((Pi d==P8)=OT)from O8)];refine My (OP (My (W1 K M ?_)));rw[O1 (by simp)];refine My (OP (My (XE K M ?_)));rw[O1 (by simp)];refine OP ?_;simp only[show ¬((i:Int)<0)from by lia,Qq,QN,Uz W];refine My ?_
 first|refine My (SE u (OP ?_))|refine My (Tp u (OP ?_))
 refine My (VJ u ?_);show Pc _ _ (Yi (.ref z) 3 (SU ((i:Int)+1))>>=_) _ _ ⟨n,g,T,U,D⟩;refine My (QT m (by simp) λa c f=>?_)
 replace f:PQ z n a:=f
 replace c:UZ a z d (i+1) es.size ep ok ov:=by
  have e:((i+1:Nat):Int)=(i:Int)+1:=by lia
  unfold UZ;rw[e];simpa[SU]using c
 have l:Shared.TypeIs ⟨a,g,T,U,D⟩ (.ref z) "dict_itemiterator":=⟨_,c,rfl⟩;refine My (Qv (My (VJ l (My (VJ l ?_)))));show Pc _ _ (UU (.ref z) 6 es[i].key es[i].val) _ _ ⟨a,g,T,U,D⟩;unfold UU;refine My (V6 ?_);have j:UZ (a.push {cls:= .type "tuple",data:= .seq #[es[i].key,es[i].val]}) z d (i+1) es.size ep ok ov:=OQ _ c;have k:a.objs.size=n.objs.size:=f.1;have Z:z≠n.objs.size:=P4 (Ps m);have y:(a.push {cls:= .type "tuple",data:= .seq #[es[i].key,es[i].val]}).get? n.objs.size=on {cls:= .type "tuple",data:= .seq #[es[i].key,es[i].val]}:=by rw[<-k];exact Ph _ rfl
 have B:(a.push {cls:= .type "tuple",data:= .seq #[es[i].key,es[i].val]}).objs.size=n.objs.size+1:=by rw[Qw,k]
 have C:∀b o,b≠z->n.get? b=on o->(a.push {cls:= .type "tuple",data:= .seq #[es[i].key,es[i].val]}).get? b=on o:=λb o X e=>OQ _ (f.extBut b o X e);generalize a.push {cls:= .type "tuple",data:= .seq #[es[i].key,es[i].val]}=h₂ at*;show Pc _ _ (UB (.ref z)>>=_) _ _ ⟨h₂,g,T,U,D⟩;rw[k];refine My ?_;unfold UB;refine My (QE j rfl (x:= .none) rfl (OP ?_));simp only[Qm];refine My (QE j rfl (x:=ok) rfl (My (QE j rfl (x:=ov) rfl ?_)));refine My (QT j (by simp) λp F H=>?_);refine My (QT F (by simp) λq I J=>?_);refine My (QT I (by simp) λr L N=>?_);refine My (QT L (by simp) λt O R=>?_);have G:=((show PQ z h₂ p from H).trans (show PQ z p q from J)).trans ((show PQ z q r from N).trans (show PQ z r t from R));exact My (V5 (OP (OP ⟨_,rfl,OP (S t O (G.extBut _ _ Z.symm y) (by rw[G.1,B]) λb o X e=>G.extBut b o X (C b o X e))⟩)))
theorem DG(g:A.handled=OO)(c:UZ s.heap z d i es.size ep ok ov)(f:s.heap.get? d=on od)(v:od.data= .dict es ep)(h:es.size<=i)
  (j:∀D,Wv z s.heap D->Q OO {s with heap:=D}):Pc (Pt P w) A (Uc (.ref z)) Q E s:=by
 have e:s.TypeIs (.ref z) "dict_itemiterator":=⟨_,c,rfl⟩;unfold Uc;refine My (TC (wpAny_callSpecial?_slot (name:=Q4 "__next__") e Q9
  (Qf Q9 e WO ?_ (WC _))))
 refine My (OP (My (My ?_)))
 first|refine My (SE e (OP ?_))|refine My (Tp e (OP ?_))
 refine My (V4 c rfl ?_);simp only[show Ta "dict_itemiterator"=OT from by decide,Qm];show Pc _ _ (if(Pi d==P8)=OT then _ else _) _ _ s;rw[O1 (show ¬((Pi d==P8)=OT)from O8)];refine My (OP (My (W1 f v ?_)));rw[O1 (by simp)];refine My (OP (My (XE f v ?_)));rw[O1 (by simp)];refine OP ?_;simp only[show ¬((i:Int)<0)from by lia,Qq,QN,Sw h];refine My ?_
 first|refine My (SE e (OP ?_))|refine My (Tp e (OP ?_))
 show Pc _ _ (Yi (.ref z) 2 .none>>=_) _ _ s;refine My (Sa c rfl (by simp) ?_);show Pc _ _ (ZB (.type "StopIteration") []>>=_) _ _ _;refine My ?_;simp only[ZB,newTuple];refine My (Qy ?_ (by size_fits));refine My (m:=Ub _ _) (S9 (a:=P8) (by first|rfl|(simp only[Ub];rfl)) ?_)
 refine Qy ?_ (by size_fits);simp only[raiseNew];refine My (YZ ?_);rw[show A.in1.handled=OO from g];refine My (OP (wpAny_throw ?_));refine My (R3 (T:="StopIteration") (b:=OT) ⟨_,Ph _ rfl,rfl⟩ Yc ?_);exact OP (j _ (((QO ..).extBut.push _).push _))
end
end L2.Hs
namespace L2.Pu
open L2.Hs
noncomputable def Iti(a:OS)(D n:Nat):It:=
 ⟨λi H=>∃b w,H a=on (bB a b D w)/\w.length=n/\i<n,
  λi H v c=>∃p x,H p=OO/\v= .ref p/\c=upd H p (.tup [.ref x.1,x.2])/\∀b w,H a=on (bB a b D w)->(w[i]?).map (·.2)=on x,
  λi H=>∃b w,H a=on (bB a b D w)/\w.length=n/\i=n⟩
theorem G5:∀{w:a0o} {D:a0C} {i:Nat} {y:eX×OS×OX},U2 XY w D->D[i]?=on y->∃x,w[i]?=on x/\XY x y
 |_,_,0,_,.cons h t,e=>by cases e;exact⟨_,rfl,h⟩
 |_,_,i+1,_,.cons h t,e=>G5 (i:=i) t e
 |_,_,0,_,.nil,e=>by cases e
 |_,_,_+1,_,.nil,e=>by cases e
section
variable{X:Cx}{a_:a0b}{σ:St}{H:Hp}{s:O3}{a:OS}{b:Bool}{ep i:Nat}{xs:a0o}
theorem rh(I:cp X a_ σ H s)(h:H a=on (bB a b ep xs)):∃(o:Qx) (es:Array TZ),s.heap.get? a=on o/\o.data= .dict es ep/\es.size=xs.length/\o.ExactDict/\(a==Wz)=OW/\∀(i:Nat) (e:TZ),es[i]?=on e->∃x,xs[i]?=on x/\e.key= .ref x.2.1/\aO x.2.2 e.val:=by
 obtain⟨o,es,w,j,k,l,d,h5,m,u,g⟩:zP a b ep xs s.heap:=(I.hok a _ h).1;have n:w.length=xs.length:=by rw[<-ON (f:=(·.1)),<-nQ g,ON]
 refine⟨o,es,j,l,by rw[<-PP,d,ON,n],k,m,λi e c=>?_⟩;rw[<-SI,d,OY]at c;cases q:w[i]? with
 |none=>rw[q]at c;cases c
 |some y=>
  rw[q]at c;cases c;obtain⟨x,p,_,r,t⟩:=G5 g q;exact⟨x,p,by rw[r],t⟩
theorem yj{P:PN}{w:PV}{K:Pk}{x1}(a M:OS)(n ep:Nat):
  oD P w K (.Tuple elts x1 pos) (Iti a ep n) [M] M (λi h=>∃G d,UZ h M a i n ep G d) where
 mem:=by simp
 obj:=λi h D b c=>by
  obtain⟨G,d,e⟩:=D;cases PM.mp c;exact⟨_,e,λv q=>by cases q⟩
 keep:=λi h S D k=>by
  obtain⟨G,d,e⟩:=D;exact⟨G,d,k M (by simp) _ e⟩
 item:=by
  intro X l m p hc i a_ s σ H E I f D r;subst l m p;obtain⟨G,d,e⟩:=D;obtain⟨b,xs,t,T,F⟩:=r;obtain⟨o,es,g,j,U,h4,h5,W⟩:=rh I t;have V:n=es.size:=by lia
  subst V;have A:es[i]?=on es[i]:=Uz F;refine zd e g j A λS Y Z sz kp=>⟨_,rfl,wpAny_letOwnedTupleGo_items (s:={s with heap:=S}) Y λB ei J=>?_⟩;obtain⟨x,ex,L,N⟩:=W i _ A;have O:s.heap.objs.size≠M:=RW (Ps e);have I2:cp X a_ σ (upd H s.heap.objs.size (.tup [.ref x.2.1,x.2.2])) {s with heap:=B,toks:=s.toks}:=
   cp.turnNew I f (λb u c q=>J.extBut b u (λz=>c (by rw[z];simp)) (kp b u (λz=>c (by rw[z];simp)) q)) (O5 _) ⟨by show 2<=Pf;decide,[es[i].key,es[i].val],.cons L (.cons N .nil),_,J.extBut _ _ O Z,rfl,_,rfl⟩
  refine⟨.ref s.heap.objs.size,_,I2,rfl,⟨s.heap.objs.size,x.2,I.hok.fresh (O5 _),rfl,rfl,λb' aa C=>?_⟩,⟨_,_,ei⟩,λb c=>?_⟩
  .obtain⟨o',es',Q,R,_,_,_,g6⟩:=rh I C
   rw[g]at Q;cases Q;rw[j]at R;cases R;obtain⟨y,ey,fk,fv⟩:=g6 i _ A;rw[ey];rw[L]at fk
   injection fk with fk
   exact Qo on (QI fk.symm (aO.inj fv N))
  .cases PM.mp c
   rw[bt O.symm];exact(f _ c).1
 done:=by
  intro X l m p hc i a_ s σ H E I f D r;subst l m p;obtain⟨G,d,e⟩:=D;obtain⟨b,xs,t,T,F⟩:=r;obtain⟨o,es,g,j,U,_⟩:=rh I t;have V:n=es.size:=by lia
  subst V;refine DG (I.ok.hd hc) e g j (by lia) λS kp=>⟨rfl,cp.turnL (t':=s.toks) I f λb o c q=>kp b o (λz=>c (by rw[z];simp)) q⟩
 self:=λ_ _ _ _ _ D h=>by
  obtain⟨G,d,e⟩:=D;exact zc (es:=(Pn n (⟨0,.none,.none⟩:TZ)).toArray) (by rw[Pr,Q8];exact e) h
variable{E:a0r}{K:Pk}{o:Expr}{w i z:Uh}{B:List Expr}{C:Nat}
def iItm(i:TE):TI:=λσ H R=>i σ H λx c=>∃a b ep xs,x= .ref a/\c a=on (bB a b ep xs)/\R (Iti a ep xs.length) c
theorem FQ(p:PE X o to)(c:Tx o "items" X.env (Qp o X.env)=Qp o X.env:=by rfl)(d:(w.endLine==i.line)=OT:=by rfl):PI X (.Tuple B C z) (.Call (.Attribute o "items" w) [] [] i) (iItm to):=by
 intro a_ s σ H R I h;refine wpAny_Call_method0_late c d (eg (p a_ s σ H _ I h) λv f g=>?_);obtain⟨x,m,n,r1,a,b,ep,xs,rfl,r,q⟩:=g;cases r1;obtain⟨j,D,g,t,u,k,h5,_⟩:=rh n r;refine⟨"dict","dict.items",W8,PySem.F.slot_dict_items,PySem.F.type_dict_items,⟨j,g,k.1⟩,λb e=>?_,?_⟩
 .cases e;exact⟨j,g,k.2.1⟩
 refine Vd rfl (PySem.evalArgs_none (zI ⟨j,g,k.1⟩ h5 ?_));have l:cp X a_ σ m {f with heap:=f.heap.push {cls:= .type "dict_items",data:= .fields #[.ref a]},toks:=f.toks}:=n.kept λb o e=>OQ _ e;refine ze (s:={f with heap:=f.heap.push {cls:= .type "dict_items",data:= .fields #[.ref a]}}) ⟨_,Ph _ rfl,rfl,rfl⟩ (OQ _ g) t ?_;rw[u];exact⟨_,[_],_,_,m,rfl,l.kept (t':=f.toks) λb o e=>OQ _ e,yj a _ _ ep,⟨_,_,Ph _ rfl⟩,λb y=>by
  cases PM.mp y;exact l.fpOk (O5 _) (l.hok.fresh (O5 _)),q⟩
def itmD:D->a0F
 | .dct b ks vs=>on (TF (λk v=> .tup [dK b k,v]) ks vs)
 |_=>OO
theorem DH{F:Fx}{H:Hp}{b:Bool}{a:OS}{ep:Nat}{xs:a0o}(C:¬F.A a)(I:H a=on (bB a b ep xs))(g:U=xs.map (·.1))(J:∀x∈xs,fE K F H b x.1 x.2.1)(h:bb K F H W (xs.map (·.2.2))):y4 K (Iti a ep xs.length) F H (TF (λk v=> .tup [dK b k,v]) U W):=λR j s t fr i=>by
 have w:W.length=xs.length:=by rw[h.length,ON]
 have L:U.length=xs.length:=by rw[g,ON]
 have c:=t.kp a _ C I;refine⟨λd o=>?_,λe=>⟨b,xs,c,rfl,by rw[e,VN,L,w,XZ]⟩⟩;have e:i<xs.length:=by
  have:=(Pa.mp o).1;rw[VN]at this;lia
 refine⟨⟨b,xs,c,rfl,e⟩,λy T N=>?_⟩;obtain⟨p,x,l,rfl,rfl,O⟩:=N;have m:=O b xs c;rw[OV e]at m;have f:xs[i].2=x:=PH m;subst f;have n:bP j (upd j p (.tup [.ref xs[i].2.1,xs[i].2.2])):=bP.upd l;obtain⟨v,q⟩:∃v,W[i]?=on v:=⟨_,OV (by lia)⟩;have Q:U[i]?=on xs[i].1:=by rw[g,OY,OV e];rfl
 rw[XU,Q,q]at o;cases o;have z:=bb.tr t _ _ h;obtain⟨u,r,D⟩:=z.get q;rw[OY,OV e]at r;cases r;have B:=(fr.same n).tr fr;exact⟨n,qe (.inl ⟨fr.fresh l,.inl am⟩) (bb.cons (c4.tr B _ _ (NI ((J _ (P3 e)).tr t))) (bb.cons (c4.tr B _ _ D) bb.nil))⟩
def Gb(f:FD):FL:=λa=>M.bind (f a) λd=>M.ofO (itmD d)
theorem xN(m:PE X o (tV X.K f E))(c:Tx o "items" X.env (Qp o X.env)=Qp o X.env:=by rfl)(g:(w.endLine==i.line)=OT:=by rfl):PI X (.Tuple B C z) (.Call (.Attribute o "items" w) [] [] i) (iV X.K (Gb f) E):=
 (FQ m c g).imp λσ H R j=>lm j λF s D fr n h=>⟨F,s,D,fr,n,(run.bind (R:=c4 X.K F) h).mono λv p j=>by
  obtain⟨d,G,t,b,r1⟩:=j;obtain⟨M,e,k⟩:=run.ofO r1;cases d<;>first|(cases e;done)|skip
  cases e;unfold c4 at b;obtain⟨a,ep,xs,rfl,l,q,r,u⟩:=b;exact⟨a,_,ep,xs,rfl,l.2,k _ p (To.refl t.fr) (DH l.1 l.2 q r u)⟩⟩
end
end L2.Pu
namespace L2.Hs
theorem xC:mroOf (.type "reversed")=Rh [.type "reversed",.type "object"]:=by rw[mroOf_type];kernel_rfl
theorem Go:typeLookup (.type "reversed") "__new__"=Rh (on (.builtin "reversed.__new__")):=by rw[XD,VT];kernel_rfl
theorem Gg:Bind.madeBy (.type "reversed")=Rh (on "reversed.__new__"):=madeBy_type xC Go (by decide +kernel)
theorem IQ:isSubtype (.type "reversed") (.type "reversed")=Rh OT:=by rw[U6];kernel_rfl
theorem Fq:isSubtype (.type "range_iterator") (.type "reversed")=Rh OW:=by rw[U6];kernel_rfl
theorem J1:entryFor table "reversed.__new__"=on Builtin.«reversed.__new__»:=entryFor_of_tree (by kernel_rfl)
section
variable{l:PN}{w:PV}{A:Qn}{E:a0d}{s:O3}
theorem GS(a:IsRange s.heap r 0 n 1 t u v)(j:0<=n)(g:n<2^62)
  (h:Q (.ref s.heap.objs.size) {s with heap:=s.heap.push {cls:= .type "range_iterator",data:= .fields #[SU (n-1),SU n,SU (-1)]}}):Pc (Pt l w) A (Vg (.type "reversed") [.ref r]) Q E s:=by
 refine U8 (XB ?_);show Pc _ _ (callAny (.type "reversed") _) _ _ _;refine OP ⟨VW _ (by decide +kernel),XA F.entry_type_call ?_⟩;rw[Around.under_plain (weight_type_call_type "reversed" [.ref r] []) (units_type_call_type "reversed" [.ref r] [])];have g:(Sf "reversed"==Sf "type")=OW:=by decide +kernel
 have k:((Y3 "reversed").bind (·.mro.findSome? λt=>(Y3 t).bind λb=>if b.noNew then on OT else if b.attrs.any (·.1=="__new__")then on OW else OO)).getD OW=OW:=by decide +kernel
 have e:=xC;have c:=Gg;have i:checkTypeCall "reversed" ⟨[.ref r],[]⟩=Rh ():=by kernel_rfl
 repeat (any_goals (first|assumption|wp_step))
 refine Uv (by decide +kernel) J1 (S9 (show Xi "reversed.__new__" ⟨[.type "reversed",.ref r],[]⟩=Rh () by kernel_rfl) ?_);have f:s.TypeIs (.ref r) "range":=⟨_,a,rfl⟩;unfold Builtin.«reversed.__new__»
 repeat (any_goals (first|assumption|wp_step))
 refine S9 IQ (OP ?_);refine My (m:=UL _ _ _) ?_;refine S9 (show UL "reversed" (Sf "reversed") ⟨[.type "reversed",.ref r],[]⟩=Rh ()from rfl) ?_;refine My (m:=checkCount "reversed" 1 1 _) (OP ?_);show Pc _ _ (specialOf (.ref r) (Q4 "__reversed__")>>=_) _ _ s;refine My (Sh f F.slot_range_reversed.lookup ?_);show Pc _ _ (bindSpecial (.builtin "range.__reversed__") (.ref r)>>=_) _ _ s;refine My (S9 (F.slot_range_reversed.bind _) ?_);show Pc _ _ (rule "reversed.__new__.own-method">>=_) _ _ s;refine My (SN (My (wpAny_runValue (Uv F.slot_range_reversed.plain F.entry_range_reversed (F.slot_range_reversed.check _ _ _ _ _ _ _ _ f (F.args_range_reversed_1 _) ?_)))));unfold Builtin.«range.__reversed__»;refine My (m:=selfOnly "range.__reversed__" _) (OP (My ?_));unfold Builtin.Range.rangeFields;refine My (QE a rfl (x:= .int 0 t) rfl (My (m:=asInt? _) (OP ?_)));refine My (QE a rfl (x:= .int n u) rfl (My (m:=asInt? _) (OP ?_)));refine My (QE a rfl (x:= .int 1 v) rfl (My (m:=asInt? _) (OP (OP ?_))));have D:Wb 0 n 1=n:=by rw[rangeSize_one];split<;>lia
 simp only[D];have d:(QB 0&&QB n&&QB 1&&QB (-1)&&QB (0-1)&&QB n)=OT:=by
  have:QB n=OT:=by unfold QB;simp;lia
  rw[this];decide
 simp only[d,Qm,RV,Pq,Qq];rw[show(0:Int)+(n-1)*1=n-1 by lia];refine My (Qy (OP (OP ?_)));exact My (R3 (T:="range_iterator") (b:=OW) ⟨_,Ph _ rfl,rfl⟩ Fq (My (SN (OP h))))
end
end L2.Hs
namespace L2.Pu
open L2.Hs
noncomputable def Itd(n:Nat):It:=⟨λi _=>i<n,λi H v a=>v= .int ((n:Int)-1-i)/\a=H,λi _=>n<=i⟩
theorem wH{P:PN}{w:PV}{K:Pk}(G:OS)(n:Nat):oD P w K x (Itd n) [G] G (λi h=>Xn h G ((n:Int)-1+(i:Nat)*-1) ((n:Int)-(i:Nat)) (-1)) where
 mem:=by simp
 obj:=λi h D b c=>by
  cases PM.mp c;exact⟨_,D,λv z=>by
   have B:Data.fields _=Data.cell v:=z;cases B⟩
 keep:=λi h M D k=>k G (by simp) _ D
 item:=by
  intro X g j l hc i a s y H E I f D m;subst g j l;obtain⟨p,f1,f2,q,r,u⟩:=f G (by simp);refine(Walks.range (prog:=X.prog) (w:=X.w) (I.ok.hd hc) G ((n:Int)-1) (-1) n).item i s _ _ m D λv M A C d F=>?_;obtain⟨t,rfl⟩:=C;have J:cp X a y H {s with heap:=M,toks:=A}:=I.turned (λb o c e=>F b o (by simpa using c) e) p f1 q r u;exact⟨_,rfl,uK (s:={s with heap:=M,toks:=A}) (n:="range_iterator") d rfl rfl (by decide) ⟨.int ((n:Int)-1-i),H,J,⟨t,by rw[show(n:Int)-1+(i:Int)*-1=(n:Int)-1-i by lia]⟩,⟨rfl,rfl⟩,d,λb c=>(f b c).1⟩⟩
 done:=by
  intro X g j l hc i a s y H E I f D m;subst g j l;obtain⟨p,f1,f2,q,r,u⟩:=f G (by simp);exact ZF (I.ok.hd hc) D (by have:n<=i:=m;lia) λM L=>⟨rfl,I.turned (t':=s.toks) (λb o c e=>L b o c e) p f1 q r u⟩
 self:=λ_ _ _ _ _ D h=>VL D h
section
variable{X:Cx}{E:a0r}{K:Pk}{B:Expr}
def Ou(a:TA):TI:=λb H R=>a b H λw c=>∃j:Int,w=[.int j]/\0<=j/\j<2^62/\R (Itd j.toNat) c
theorem BX(f:Gl X "reversed")(g:X.mg "reversed"=OO)(n:Gl X "range")(w:X.mg "range"=OO)(D:PA X [a] A)(E:Pd [a] X.env=[(OW,Qp a X.env)]:=by rfl)
  (i:Pd [.Call (.Name "range" p) [a] [] z] X.env=[(OW,Qp (.Call (.Name "range" p) [a] [] z) X.env)]:=by rfl):PI X B (.Call (.Name "reversed" p2) [.Call (.Name "range" p) [a] [] z] [] pos2) (Ou A):=by
 intro c s l H R I h;refine Call_ (fK I f g Boot.«reversed» (QS ?_ i rfl));refine YC (Call_ (fK I n w boot_range (QS (eg (D z c s l H _ I h) λM d r=>?_) E rfl)));obtain⟨P,m,v,r1,j,rfl,G,K,q⟩:=r;obtain⟨u,rfl,t,rfl⟩:=gG r1;refine call_range_1 (Y1 (GS (IsRange.new ..) G K (VL (x:=j-1) (left:=j) (step:=-1) (Ph _ rfl) ?_)));have k:cp X c l m {d with heap:=d.heap.push {cls:= .type "range",data:= .fields #[.int 0 d.toks,.int j t,.int 1 (d.toks+1)]},toks:=d.toks+1+1}:=v.kept λb o e=>OQ _ e;refine⟨_,[_],_,_,m,rfl,k.kept (t':=d.toks+1+1) λb o e=>OQ _ e,wH _ j.toNat,?_,λb y=>?_,q⟩
 .show Xn _ _ (((j.toNat:Nat):Int)-1+((0:Nat):Int)*-1) (((j.toNat:Nat):Int)-((0:Nat):Int)) (-1)
  rw[show((j.toNat:Nat):Int)-1+((0:Nat):Int)*-1=j-1 by lia,show((j.toNat:Nat):Int)-((0:Nat):Int)=j by lia];exact Ph _ rfl
 .cases PM.mp y
  exact k.fpOk (O5 _) (k.hok.fresh (O5 _))
noncomputable def iI(n:Nat):a0c:=(O6 n).map λ(i:Nat)=> .int ((n:Int)-1-i)
theorem zf:y4 K (Itd n) F H (iI n):=λe f B t fr i=>by
 refine⟨λd w=>?_,λa=>?_⟩
 .unfold iI at w
  have a:i<n:=by
   have:=(Pa.mp w).1;simpa using this
  rw[OY,Qr a]at w;cases w;exact⟨a,λx g ⟨b,c⟩=>by subst b c;exact⟨bP.refl _,rfl⟩⟩
 .show n<=i
  rw[a];simp[iI]
def uv:a0c->a0F
 |[.int j]=>if(decide (0<=j)&&decide (j<2^62))=OT then on (iI j.toNat)else OO
 |_=>OO
theorem GG(b:Gl X "reversed")(c:X.mg "reversed"=OO)(j:Gl X "range")(w:X.mg "range"=OO)(D:PA X [a] (i4 X.K g E))(G:Pd [a] X.env=[(OW,Qp a X.env)]:=by rfl)
  (d:Pd [.Call (.Name "range" p) [a] [] r] X.env=[(OW,Qp (.Call (.Name "range" p) [a] [] r) X.env)]:=by rfl):PI X B (.Call (.Name "reversed" p2) [.Call (.Name "range" p) [a] [] r] [] pos2) (iV X.K (dz uv g) E):=
 (BX b c j w D G d).imp λq H R f=>lm f λF M P fr m h=>⟨F,M,P,fr,m,(run.bind (R:=bb X.K F) h).mono λs n f=>by
  obtain⟨u,S,t,V,r1⟩:=f;obtain⟨l,e,k⟩:=run.ofO r1;unfold uv at e;split at e
  .split at e
   .rename_i i
    cases e;simp only[PL,P9]at i;obtain⟨v,rfl,o⟩:=bb.one V;cases o.int;exact⟨_,rfl,i.1,i.2,k _ n (To.refl t.fr) zf⟩
   .cases e
  .cases e⟩
variable{e m:Expr}{z tm:TE}{L N:Uh}
theorem FP(e:a0g):Zl e.toArray OO OO (on (-1))=e.reverse.toArray:=by
 have a:S8 OO OO (on (-1)) e.toArray.size=((e.length:Int)-1,-1,-1):=by simp[S8]
 unfold Zl;rw[a];refine Qo _ ?_;have b:sliceRange ((e.length:Int)-1) (-1) (-1)=(O6 e.length).map λk=>e.length-1-k:=by
  unfold sliceRange;have hc:(if(-1:Int)>0 then(if(e.length:Int)-1< -1 then(-1-((e.length:Int)-1)+-1-1)/ -1 else 0)else(if(e.length:Int)-1>-1 then((e.length:Int)-1- -1- -1-1)/(- -1)else 0)).toNat=e.length:=by
   rw[O1 (by decide)];split
   .rw[show(- -1:Int)=1 by decide,Int.ediv_one];lia
   .lia
  simp only[hc];exact PF λk _=>by lia
 show(sliceRange ((e.length:Int)-1) (-1) (-1)).filterMap _=_;rw[b,List.filterMap_map];rcases e with _|⟨x,r⟩
 .rfl
 generalize f:x::r=e;rw[wc (g:=λk=>e.getD (e.length-1-k) x) λk c=>by
  have:k<e.length:=Pw.mp c;simp only[Ux,Vu];rw[OU,OV (by lia)];rfl]
 refine Rx (by simp) λi d h=>?_;have j:i<e.length:=by simpa using d
 rw[RY,Sy,Yq,OU,OV (by lia)];rfl
def tRev(K:Pk)(z tm:TE):TE:=λc H Q=>z c H λx d=>tm c d λy b=>∃a e,x= .ref a/\y= .int (-1)/\fx K b a e/\∀p,b p=OO->Q (.ref p) (upd b p (.lst e.reverse))
theorem Lq(l:PE X e z)(E:PE X m tm):PE X (.Subscript e (.Slice OO OO (on m) N) L) (tRev X.K z tm):=by
 intro c s f H Q I h;refine Subscript_ (eg (l c s f H _ I h) λv n o=>?_);obtain⟨x,p,r,r1,G⟩:=o;refine wpAny_Slice ?_;rw[YU];refine OP (OP ?_);rw[evalPart_some];refine eg (E c n f p _ r G) λu d B=>?_;obtain⟨y,C,g,F,a,M,rfl,rfl,P,q⟩:=B;cases r1;obtain⟨t,rfl⟩:=F;obtain⟨its,i,D,j⟩:=g.list P;have k:cp X c f C {d with heap:=d.heap.push {cls:= .type "slice",data:= .fields #[.none,.none,.int (-1) t]}}:=g.kept (t':=d.toks) λb J q=>OQ _ q;show Pc (Pt X.prog X.w) X.A (YX e (.Slice OO OO (on m) N) (.ref a) (.ref d.heap.objs.size)) (EP X c f Q) X.xe {d with heap:=d.heap.push {cls:= .type "slice",data:= .fields #[.none,.none,.int (-1) t]}};refine tail_any (ops:=[.ref a,.ref d.heap.objs.size]) (D.isList.push _).typeIs slot_list_getitem.lookup (YY (D.isList.push _) (WD ..) .none .none (.int (-1) t) (by simp) ?_ (by rw[Pr,<-i.length];exact j)) (by with_unfolding_all rfl)
 rw[FP];exact⟨.ref _,_,k.lnew (t':=d.toks) (its:=its.reverse) (ys:=M.reverse) i.reverse (by rw[YH];exact j),rfl,q _ (k.hok.fresh (O5 _))⟩
noncomputable def K4:D->D->a0l
 | .lst ds,.int (-1)=>on (.lst ds.reverse)
 |_,_=>OO
theorem bb.reverse:∀{m:a0c} {e:a0k},bb K F H m e->bb K F H m.reverse e.reverse
 |[],e,h=>by have q:e=[]:=h;subst q;exact bb.nil
 |d::m,e,h=>by
  obtain⟨x,r,rfl,a,b⟩:=h;rw[UQ,UQ];exact bb.append (bb.reverse b) (bb.cons a bb.nil)
theorem M9(o:PE X e (tV X.K f E))(G:PE X m (tV X.K g E)):PE X (.Subscript e (.Slice OO OO (on m) N) L) (tV X.K (f2 K4 f g) E):=
 (Lq o G).imp λu H Q b=>lm b λF D M fr l h=>⟨F,D,M,fr,l,(run.bind (R:=c4 X.K F) h).mono λv y b=>pa b λd w t P r1=>⟨F,D,w,t.fr,l.tr (t.tr fr),(run.bind (R:=c4 X.K F) r1).mono λA B b=>pa b λx S i j q=>by
  obtain⟨z,c,k⟩:=run.ofO q;unfold K4 at c;split at c
  .cases c
   obtain⟨a,V,rfl,s,r⟩:=c4.sqL (c4.tr (i.tr t.fr) _ _ P);cases j.int;exact⟨a,V,rfl,rfl,s,λp n=>k _ _ (i.fr.upd _ n) (c4.newL i.fr n (bb.reverse r))⟩
  .cases c⟩⟩
end
end L2.Pu
namespace L2.Pu
theorem ZT{A:Qn}(a:ej k A):A.units+2<Ui:=Q1 (Y4 (by decide:2<=64) _) a.units
open L2.Hs
section
variable{X:Cx}{E:a0r}{ke ve cb aa:Expr}{ac:List Expr}{ab:a0O}{P:Scope}{ad:Uh}{Nc c_:a0i}{cx:a0a}{g:TG}{tb:a0W}
theorem Jh{kb:Bool}{b d:Uh}(y:X.N.Nodup)(k:X.N[i]?=on x)(B:E_ X.env.scope x)(hc:X.calm=OT)(S:dc X P Nc c_ cx)(F:PI X cb aa wi)
  (L:∀(E:a0m) (C:OS) (j:a0p) (s:O3) (H:Hp),PG (aL X Nc P E C j s H) cb g/\dW (aL X Nc P E C j s H) ac tt/\∀D,PB (aL X Nc P E C j s H) (.D ke ve) (⟨cb,aa,ac,0⟩::ab) P ad 0 D (tb D))
  (l:T0 (.DictComp ke ve (⟨cb,aa,ac,0⟩::ab) P ad) (on (.Name x b)) d.line X.env=Rh OT:=by rfl)
  (K:∀x,Qe aa X.env x=Rh x:=by intro _;rfl) (O:b0d X x:=by first|exact .inl rfl|exact .inr rfl|assumption):
  PS X (.Assign [.Name x b] (.DictComp ke ve (⟨cb,aa,ac,0⟩::ab) P ad) d) (iq (mh (λD=>bB D kb 0 []) c_ cx wi λD J=>c8 J g tt (tb D)) (fj i)):=by
 intro f s R H D I h;rw[exec_Assign_Name_used _ _ _ _ l];refine My (QK (My ?_));show Pc _ X.A (do let _ <-comprehension (.DictComp ke ve (⟨cb,aa,ac,0⟩::ab) P ad) P X.env _ newDict OW (Qp aa X.env) (on (UF (.Name x b) X.env))) _ _ s
 refine My (P5 (Sv (use:=on (UF (.Name x b) X.env)) (Q:=λ_ s'=>SP X f D .next s') rfl K (S.clo I.ok) S.kind S.loc
  (P5 (F f s R H _ I h) (λv s1 U=>P5 U (λW Y n=>?_) λ_ _ e=>e) λ_ _ e=>e)) (λ_ s' Z=>OP (OP Z)) λ_ _ e=>e)
 obtain⟨it,j,tn,J,H2,e,o,T,p,f2,q⟩:=n;subst e;refine ij (c:= .D ke ve) pL (RR:=λG C=>X7 (Pt X.prog X.w) X.A X.xe (on (UF (.Name x b) X.env)) _ G C) hc S L o T p f2 q λA C s' M m V ns r q'=>?_;show Pc _ X.A (UF (.Name x b) X.env (.ref A)) _ _ s';refine W0 (mo V y k B (v:= .ref A) rfl (λY o n=>?_) O);obtain⟨a,sb,ha⟩:=n;have t:C≠a:=by
  rcases ha with rfl|ha
  .exact r.2.1
  .exact λz=>r.2.2.2.1 x a ha z.symm
 exact⟨m,ns.sameBut sb t,λh' u=>⟨_,M,o.letgo r u,q'⟩⟩
theorem BB{kb:Bool}{a c:Uh}(j:X.N.Nodup)(d:X.N[i]?=on x)(k:E_ X.env.scope x)(hc:X.calm=OT)(S:dc X P Nc c_ cx)(l:PI X cb aa (iV X.K u E))
  (m:∀(w:a0m) (C:OS) (f:a0p) (s:O3) (H:Hp),PG (aL X Nc P w C f s H) cb g/\dW (aL X Nc P w C f s H) ac (hY X.K v E0)/\∀D,PB (aL X Nc P w C f s H) (.D ke ve) (⟨cb,aa,ac,0⟩::ab) P ad 0 D (tb D))
  (n:cF X.K g t) (o:dT t) (p:∀D,eV X.K (RD X.K kb) D (tb D) b)
  (e:T0 (.DictComp ke ve (⟨cb,aa,ac,0⟩::ab) P ad) (on (.Name x a)) c.line X.env=Rh OT:=by rfl)
  (G:∀x,Qe aa X.env x=Rh x:=by intro _;rfl) (q:b0d X x:=by first|exact .inl rfl|exact .inr rfl|assumption):
  PS X (.Assign [.Name x a] (.DictComp ke ve (⟨cb,aa,ac,0⟩::ab) P ad) c) (tG X.K X.H₀ (iB i (ig c_.length cx u t v b (lU kb))) E):=
 aC ((Jh (kb:=kb) j d k hc S l m e G q).imp λD r H h=>wr n o p h)
end
end L2.Pu
namespace L2.Hs
section
variable{X:Cx}
def K7(K:Pk):R2:=λx y H Q=>∃a b D w k c,x= .ref c/\y= .ref a/\H a=on (bB a b D w)/\(∀x∈w,w_ K H b x.1 x.2.1)/\w_ K H b k c/\Q (.bl (n6 w k).isNone) H
theorem xz(i:X.A.units+2<Ui):gt X (QD .NotIn) (K7 X.K):=by
 intro c s o H x y v u Q I j l h;obtain⟨d,b,M,D,k,a,rfl,rfl,m,n,hc,q⟩:=h;cases j;cases l;obtain⟨E,w,p,_,G⟩:=jy I m n;have f:=ku (k:=k) p;show Pc _ _ (do return VS (!(<-contains (.ref d) (.ref a)))) _ _ s
 refine My ?_;unfold contains
 try with_reducible refine Qv ?_
 refine My (Sh w.typeIs slot_dict_contains.lookup ?_);show Pc _ _ (if(on (Value.builtin "dict.__contains__")==on P8)=OT then _ else _) _ _ s;rw[O1 (by rw[beq_builtin_none];exact O8)];refine My (wpAny_callSpecialUnlessNone?_slot (name:=Q4 "__contains__") w.typeIs slot_dict_contains
  (Qf slot_dict_contains w.typeIs entry_dict_contains ?_ (args_dict_contains _ _)))
 show Pc _ _ (dictGet d (.ref a)>>=_) _ _ s;refine My (wpAny_dictGet_heap (iW i) (lI I hc) w ?_);cases g:Wr E k with
 |some r=>
  rw[g]at f;cases e:n6 D k with
  |none=>rw[e]at f;exact f.elim
  |some z=>
   rw[e]at q;show Pc _ _ (ret (.bool OT)) _ _ _;exact OP ⟨_,rfl,Qz (OP ⟨.bl _,H,I.tok _,rfl,q⟩)⟩
 |none=>
  rw[g]at f;cases e:n6 D k with
  |some z=>rw[e]at f;exact f.elim
  |none=>
   rw[e]at q;show Pc _ _ (Builtin.Dict.pendingKey? d (.ref a)>>=_) _ _ _;exact My (wpAny_pendingKey_other G (OP ⟨_,rfl,Qz (OP ⟨.bl _,H,I.tok _,rfl,q⟩)⟩))
end
end L2.Hs
namespace L2.Pu
open L2.Hs
section
variable{K:Pk}
def F9:D->D->a0l
 |y,.dct b ks vs=>(dR b y).map λk=> .bl (la ks vs k).isNone
 |_,_=>OO
theorem NT:aY K (K7 K) F9:=λF H M Q E P d p r fr h g e k=>by
 unfold F9 at e;split at e
 .rename_i b ks vs
  cases q:dR b E with
  |none=>rw[q]at e;cases e
  |some f=>
   rw[q]at e;cases e;obtain⟨i,rfl⟩:=ju q;obtain⟨c,rfl,j⟩:=oy i h;unfold c4 at g;obtain⟨a,G,w,rfl,l,rfl,m,n⟩:=g;refine⟨a,b,G,w,f,c,rfl,rfl,l.2,λx o=>(m x o).s,j.s,?_⟩;have:=qR (k:=f) n
   dsimp only at k
   cases D:la (w.map (·.1)) vs f with
   |none=>
    rw[D]at this k;have t:n6 w f=OO:=this;rw[t];exact k _ H (To.refl fr) rfl
   |some z=>
    rw[D]at this k;obtain⟨u,t,_⟩:=this;rw[t];exact k _ H (To.refl fr) rfl
 .cases e
end
end L2.Pu
namespace L2.Pu
section
variable{X:Cx}{E:a0r}{K:Pk}{f:Qk}{a:Hp}{B:Ow}{g:a0s}{H h:Hp}{d:Ds}{e b:Bg}{c:St}
end
end L2.Pu
namespace L2.Pu
open PySem.SeqAt
open PySem.AutoSeq1 (wpAny_loadPart')
open PySem.MeetsSeq PySem.MeetsSeq2 PySem.MeetsSeq3
end L2.Pu
namespace L2.Hs
section
variable{X:Cx}
def Kz(b:Bool):TE:=λ_ H Q=>∀D,H D=OO->Q (.ref D) (upd H D (bB D b 0 []))
theorem vD{b:Bool}:PE X (.Dict [] [] f) (Kz b):=by
 intro a s c H Q I h;rw[arm_eval_Dict];refine My (QK ?_);show Pc _ _ newDict _ _ _;exact pL a s c H _ _ I λe d _=>⟨.ref _,_,d,rfl,h _ (I.hok.fresh (O5 _))⟩
def B3(xs:a0o)(k:eX)(c:OS)(v:V):a0o:=if(n6 xs k).isSome then xs.map (λx=>if x.1=k then(x.1,x.2.1,v)else x)else xs++[(k,c,v)]
theorem zU(h:∀x y,XY x y->XY (f x) (g y)):∀{w:a0o} {D:a0C},U2 XY w D->U2 XY (w.map f) (D.map g)
 |_,_,.nil=> .nil
 |_,_,.cons a t=> .cons (h _ _ a) (zU h t)
theorem Fa(p:U2 XY b d)(r:aO v u):U2 XY (B3 b k c v) (storedH d k c u):=by
 have f:=ku (k:=k) p;unfold B3;cases e:Wr d k with
 |none=>
  rw[e]at f;cases q:n6 b k with
  |some w=>rw[q]at f;exact f.elim
  |none=>
   rw[storedH_new e];exact rF ⟨rfl,rfl,r⟩ p
 |some w=>
  rw[e]at f;cases q:n6 b k with
  |none=>rw[q]at f;exact f.elim
  |some a=>
   rw[storedH_old e];refine zU (λx y h=>?_) p;unfold putAt;rw[<-h.1];by_cases z:x.1=k
   .rw[O0 z,O0 z];exact⟨rfl,h.2.1,r⟩
   .rw[O1 z,O1 z];exact h
theorem IR(w:a0o)(k:eX)(c:OS)(v:V):(B3 w k c v).length<=w.length+1:=by
 unfold B3;split
 .rw[ON];lia
 .simp
def Hr(K:Pk):V->V->V->Hp->(Hp->Prop)->Prop:=λo i v H Q=>∃a b D w k c,o= .ref a/\i= .ref c/\H a=on (bB a b D w)/\(∀x∈w,w_ K H b x.1 x.2.1)/\w_ K H b k c/\w.length<Pf/\∀d,Q (upd H a (bB a b d (B3 w k c v)))
theorem u8(t:X.A.units+2<Ui):G1 X (Hr X.K):=by
 intro j s U H o i v W Y u Q I y B C h;obtain⟨a,b,M,w,k,c,rfl,rfl,l,F,hc,Z,q⟩:=h;cases y;cases B;obtain⟨P,D,p,J,f⟩:=jy I l F;refine wpAny_setItem_heap (iW t) (lI I hc) D (λS E L=>?_) J;have m:=Fa (k:=k) (c:=c) p C;obtain⟨o,G,g,r,N,O,R,V,T⟩:=E;have d:=Qo UM (nQ m);rw[ON,ON]at d;have:=IR w k c v;exact⟨_,I.write (by rw[l];trivial) (.inl rfl) (λb u n e=>(L.2 b n).trans e) ⟨o,r⟩ (kS ⟨o,G,_,r,N,O,by rw[R];unfold X9;rw[oA],T,f,by lia,m⟩),q g⟩
end
end L2.Hs
namespace L2.Pu
open L2.Hs
def ZQ(w:a0V)(k:eX):a0V:=if k∈w then w else w++[k]
def ZP(w:a0V)(E:a0c)(k:eX)(d:D):a0c:=if k∈w then(w.zip E).map (λp=>if p.1=k then d else p.2)else E++[d]
section
variable{K:Pk}{F:Fx}{H:Hp}
theorem sf:∀{xs:a0o},(n6 xs k).isSome=decide (k∈xs.map (·.1))
 |[]=>by simp[n6]
 |x::xs=>by
  have w:=sf (k:=k) (xs:=xs);unfold n6 at w⊢;rw[Rr];by_cases q:x.1=k
  .rw[Po q];simp[q]
  .rw[PZ q]
   dsimp only
   rw[w];exact decide_eq_decide.mpr (by rw[O9,Pb];exact⟨.inr,λz=>z.resolve_left λy=>q y.symm⟩)
theorem Ft{w:a0o}:(B3 w k c v).map (·.1)=ZQ (w.map (·.1)) k:=by
 unfold B3 ZQ;rw[sf];by_cases q:k∈w.map (·.1)
 .rw[O0 (Po q),O0 q,O7]
  refine PF λx _=>?_;show(if x.1=k then(x.1,x.2.1,v)else x).1=x.1;split<;>rfl
 .rw[O1 (λz=>q (RG z)),O1 q,PR];rfl
theorem IS{xs:a0o}(D:c4 K F H d v)(h:bb K F H f (xs.map (·.2.2))):bb K F H (ZP (xs.map (·.1)) f k d) ((B3 xs k c v).map (·.2.2)):=by
 unfold B3 ZP;rw[sf];by_cases q:k∈xs.map (·.1)
 .rw[O0 (Po q),O0 q]
  clear q
  induction xs generalizing f with
  |nil=>exact bb.nil
  |cons x xs E=>
   cases f with
   |nil=>cases h
   |cons w f=>
    obtain⟨u,r,e,a,b⟩:=h;rw[O9,Su]at e;obtain⟨rfl,rfl⟩:=e;refine bb.cons (xs:=((xs.map λx=>if x.1=k then(x.1,x.2.1,v)else x).map (·.2.2))) ?_ (E b);show c4 K F H (if x.1=k then d else w) (if x.1=k then(x.1,x.2.1,v)else x).2.2;by_cases z:x.1=k
    .rw[O0 z,O0 z];exact D
    .rw[O1 z,O1 z];exact a
 .rw[O1 (λz=>q (RG z)),O1 q,PR]
  exact bb.append h (bb.cons D bb.nil)
theorem KI{b:Bool}(d:∀x∈f,fE K F H b x.1 x.2.1)(hc:fE K F H b k c):∀x∈B3 f k c v,fE K F H b x.1 x.2.1:=λx a=>by
 unfold B3 at a;split at a
 .obtain⟨y,e,rfl⟩:=Pe.mp a
  split
  .exact d y e
  .exact d y e
 .rcases Qt.mp a with h|h
  .exact d x h
  .cases PM.mp h
   exact hc
variable{X:Cx}{E:a0r}{z:Qk}
def MC(i:Nat)(b:Bool):G:=λw z=>on (.nx (w.set i (on (.odc b [] []))),z)
theorem Nq{b:Bool}(h:PS X z (iq (Kz b) (fj i))):PS X z (tG X.K X.H₀ (MC i b) E):=h.imp λD k H c=>by
 obtain⟨B,w,F,G,o,d,ok,e,q⟩:=c;cases e;intro p f;obtain⟨l,a,g⟩:=ok.newAt (i:=i) (sl:= .odc b [] []) (u:=bB p b 0 []) f (.inr ⟨_,am⟩) λe _=>⟨p,rfl,e,0,[],am,rfl,(λx j=>by cases j),bb.nil⟩;exact q _ _ _ g a
def uL(i:Nat)(fk a:FD):G:=λw z=>match a (hE w) z with
 |some (.ok d,β1)=>match fk (hE w) β1 with
  |some (.ok kd,β2)=>match w.getD i OO with
   |some (.odc b ks vs)=>match dR b kd with
    |some k=>if(noL d&&decide (ks.length<Pf))=OT then on (.nx (w.set i (on (.odc b (ZQ ks k) (ZP ks vs k d)))),β2)else OO
    |none=>OO
   |_=>OO
  |_=>OO
 |some (.error C,β1)=>on (.ex C w,β1)
 |none=>OO
theorem KV{fk N:FD}(h:PS X z (iq (tV X.K N E) (GL (pk i) (tV X.K fk E) (Hr X.K)))):PS X z (tG X.K X.H₀ (uL i fk N) E):=h.imp λD σ H T=>by
 obtain⟨B,G,M,P,o,U,ok,e,q⟩:=T;refine⟨p_ B G,hE M,P,ok.frA,ok.viewA,?_⟩;unfold uL at e;split at e
 .rename_i d β1 p
  refine⟨.ok d,_,p,λv H1 t S=>?_⟩;obtain⟨g,W⟩:=ok.to rfl t;split at e
  .rename_i kd β2 Y
   split at e
   .rename_i b ks vs O
    split at e
    .rename_i k Z
     split at e
     .rename_i hn
      cases e;rw[PL,P9]at hn;obtain⟨w,r,a,rfl,hB,h2⟩:=g.tell i _ (getD_some O);refine⟨_,r,p_ B G,hE M,β1,g.frA,g.viewA,.ok kd,_,Y,λkv H2 V y=>?_⟩;obtain⟨j,n⟩:=g.to rfl V;obtain⟨_,l,a',e',aa,ep,F,hD,A,Q,dl⟩:=j.tell i _ (getD_some O);rw[r]at l;cases l;cases e';obtain⟨hz,rfl⟩:=ju Z;have nk:noL (dK b k)=OT:=by
       cases b with
       |true=>show(OT&&(noLs (k.2.map Pu.D.int)&&OT))=OT;rw[jT];rfl
       |false=>exact jT k.2
      obtain⟨c,rfl,R⟩:=oy hz (j.noB nk y);have I:=c4.tr n.tr _ _ (g.noB hn.1 S);subst A;refine⟨a,b,ep,F,k,c,rfl,rfl,hD,λx J=>(Q x J).s,R.s,by rw[<-ON (f:=(·.1))];exact hn.2,λm=>?_⟩;obtain⟨L,s3⟩:=j.writeAt (sl:= .odc b (ZQ (F.map (·.1)) k) (ZP (F.map (·.1)) vs k d)) (u:=bB a b m (B3 F k c v)) r hB (.inr ⟨_,am⟩) λt=>⟨a,rfl,hB,m,_,am,Ft.symm,KI (λx J=>(Q x J).tr t) (R.tr t),IS (c4.tr t _ _ I) (bb.tr t _ _ dl)⟩;exact q _ B _ ((W.trans n).trans s3) L
     .cases e
    .cases e
   .cases e
  .cases e
 .rename_i C β1 p
  cases e;refine⟨.error C,_,p,λH' t=>?_⟩;obtain⟨j,n⟩:=ok.to rfl t;exact q _ B H' n j
 .cases e
end
end L2.Pu
namespace L2.Hs
def Ni(K:Pk)(b:Bool)(f g:TE):TE:=λe H Q=>∀D,H D=OO->f e (upd H D (bB D b 0 [])) λx h=>g e h λy a=>∃w k c,x= .ref c/\a D=on (bB D b w [])/\w_ K a b k c/\∀d,Q (.ref D) (upd a D (bB D b d [(k,c,y)]))
theorem FY{X:Cx}{b:Bool}(m:X.A.units+2<Ui)(r:PE X ke tk)(t:PE X ve tv):PE X (.Dict [on ke] [ve] z) (Ni X.K b tk tv):=by
 intro a s d H Q I h;rw[arm_eval_Dict];refine My (QK ?_);have D:(evalEachOpt [on ke] X.env).zip ((Ua [ve] X.env).map λv=>do let x <-v;Sk z;Rh x)=[(Qp ke X.env,(do let x <-Qp ve X.env;Sk z;Rh x))].map λp=>(on p.1,p.2):=by
  simp[evalEachOpt,Ua,evalOpt]
 rw[D,dictDisplay_pairs _ (by simp) (by simp)];refine My ?_;unfold subDict;refine My (Xv ?_);refine My (Qv ?_);rw[O0 (by simp)];have B:H s.heap.objs.size=OO:=I.hok.fresh (O5 _);have C:cp X a d (upd H s.heap.objs.size (bB s.heap.objs.size b 0 [])) {s with heap:=s.heap.push {cls:= .type "dict",data:= .dict #[]}}:=I.laid (t':=s.toks) (λ_ _ q=>OQ _ q) (O5 _) (kS ⟨_,#[],[],Ph _ rfl,⟨rfl,rfl,rfl⟩,rfl,rfl,.nil,beq_eq_false_iff_ne.mpr (Ne.symm (P4 (C_ I))),Qi _,.nil⟩);refine My (evalPairs_cons (eg (r a _ d _ _ C (h _ B)) λV F J=>?_));obtain⟨x,L,N,r1,E⟩:=J;refine My (eg (t a F d L _ N E) λvv s2 O=>My (QK (OP ?_)));obtain⟨y,H2,f,R,ep,k,c,rfl,j,hc,q⟩:=O;cases r1;refine evalPairs_nil ?_;refine Qv ?_;obtain⟨ys,G,p,T,g⟩:=jy f j (λx U=>by cases U);cases p;show Pc _ _ (Yb [(Pi c,vv)] PUnit.unit _>>=_) _ _ _;rw[R7];refine My (My (My (wpAny_dictSet_heap (iW (A:=X.A) (Wg m)) (lI f hc) G (λh' w W=>OP ?_) T)));show Pc _ _ (Yb [] PUnit.unit _) _ _ _;rw[Sm];refine OP (OP (OP (OP ?_)));rw[storedH_new (show Wr [] k=OO from rfl)]at w;obtain⟨o,M,i,l,Y,Z,P,g5,S⟩:=w;exact⟨.ref _,_,f.write (by rw[j];trivial) (.inl rfl) (λb u n e=>(W.2 b n).trans e) ⟨o,l⟩ (kS ⟨o,M,_,l,Y,Z,by rw[P];unfold X9;rw[oA],S,g,(by show 1<=Pf;decide),.cons ⟨rfl,rfl,R⟩ .nil⟩),rfl,q i⟩
end L2.Hs
namespace L2.Pu
open L2.Hs
def zB(b:Bool)(k v:D):a0l:=(dR b k).map λy=> .dct b [y] [v]
def OC(b:Bool)(fk a:FD):FD:=f2 (zB b) fk a
theorem II{X:Cx}{E:a0r}{b:Bool}{fk p:FD}(hu:X.A.units+2<Ui)(hk:PE X ke (tV X.K fk E))(hv:PE X ve (tV X.K p E)):PE X (.Dict [on ke] [ve] pos) (tV X.K (OC b fk p) E):=
 (FY (b:=b) hu hk hv).imp λσ H Q h_ D g=>by
  obtain⟨F,w,S,fr,vk,r⟩:=h_;have t0:=fr.upd (bB D b 0 []) g;have u:∀b l,F.bg=on (b,l)->D≠b/\D≠l:=λb l e=>by
   obtain⟨T,U⟩:=fr.bag b l e;exact⟨λz=>(by rw[<-z,g]at T;cases T),λz=>(by rw[<-z,g]at U;cases U)⟩
  have W:Fr (F.but D) (upd H D (bB D b 0 [])) S:=⟨λa P=>by
   rcases P with P|rfl
   .exact t0.fr.occ a P
   .rw[am];simp,λb l e=>⟨.inl (fr.bgA b l e).1,.inl (fr.bgA b l e).2.1,(fr.bgA b l e).2.2⟩,t0.fr.bag⟩
  have Y:i0 X.K (F.but D) (upd H D (bB D b 0 [])) w σ:=vk.tr (Fx.tr_but fr g λa o e=>by rw[bt (b_ e g)];exact e);have d:∀{i:Hp} {f:Bg},To (F.but D) (upd H D (bB D b 0 [])) i f->To F H i f:=λ{i f} t=>⟨λa o h n=>t.kp a o (t0.kp a o h n) n,⟨λa P=>t.fr.occ a (.inl P),fr.bgA,t.fr.bag⟩⟩;obtain⟨rr,f,e,v⟩:=r;have e:M.bind (fk w) (λa=>M.bind (p w) λz=>M.ofO (zB b a z)) S=on (rr,f):=e;refine⟨F.but D,w,S,W,Y,?_⟩;cases V:fk w S with
  |none=>unfold M.bind at e;rw[V]at e;cases e
  |some z=>
   obtain⟨r1,G⟩:=z;refine⟨r1,G,V,?_⟩;cases r1 with
   |error C=>
    rw[M.bind_err V]at e;cases e;exact λi t=>v i (d t)
   |ok dk=>
    rw[M.bind_ok V]at e;intro x H1 k B;refine⟨F.but D,w,G,k.fr,Y.tr (k.tr W),?_⟩;cases q2:p w G with
    |none=>unfold M.bind at e;rw[q2]at e;cases e
    |some z=>
     obtain⟨Z,aa⟩:=z;refine⟨Z,aa,q2,?_⟩;cases Z with
     |error C=>
      rw[M.bind_err q2]at e;cases e;exact λi t=>v i (d (k.trans t))
     |ok dv=>
      rw[M.bind_ok q2]at e;intro y I J L;cases N:dR b dk with
      |none=>unfold zB M.ofO at e;rw[N]at e;cases e
      |some j=>
       unfold zB M.ofO at e;rw[N]at e;cases e;obtain⟨hz,rfl⟩:=ju N;obtain⟨c,rfl,kc⟩:=oy hz (c4.tr (J.tr k.fr) _ _ B);have O:I D=on (bB D b 0 []):=J.kp D _ (k.kp D _ am u) u;have hA:¬F.A D:=fr.fresh g;refine⟨0,j,c,rfl,O,kc.s,λm=>?_⟩;have tt:Tr (F.but D) I F (upd I D (bB D b m [(j,c,y)])):=⟨λa h _ z=>h (.inl z),λa o h e=>by rw[bt λz=>h (.inr z)];exact e,rfl⟩;have R:=d (k.trans J);refine v _ _ ⟨λa o h n=>?_,λa h q=>?_,fr.bgA,λb l q=>?_⟩ ?_
       .have:a≠D:=λz=>by rw[z,g]at h;cases h
        rw[bt this];exact R.kp a o h n
       .by_cases z:a=D
        .subst z;exact hA h
        .rw[bt z]at q;exact R.fr.occ a h q
       .rw[bt (u b l q).1.symm,bt (u b l q).2.symm]
        exact R.fr.bag b l q
       .unfold c4
        exact⟨D,m,[(j,c,y)],rfl,⟨hA,am⟩,rfl,λx hx=>by cases PM.mp hx;exact kc.tr tt,bb.cons (c4.tr tt _ _ L) bb.nil⟩
def HZ:a0c->a0l
 |[.bl k]=>on (.int (if k then 1 else 0))
 |_=>OO
theorem L6{K:Pk}:dB K (λw H Q=>(∃i,w=[.int i]/\Q (.int i) H)\/∃k,w=[.bl k]/\Q (.int (if k then 1 else 0)) H) HZ:=λF H D Q E d G fr h e k=>by
 unfold HZ at e;split at e
 .rename_i b
  cases e;obtain⟨v,rfl,a⟩:=bb.one h;cases(show v=V.bl b from a);exact .inr ⟨b,rfl,k _ _ (To.refl fr) rfl⟩
 .cases e
end L2.Pu
namespace Law
open L2 L2.Pu
open L2.Hs (vE v3 lD xz vD u8)
noncomputable def dr(i:Nat):Qk:=PySem.Challenge.pw_edgetally_k49_means_small.main.body.getD i (.Pass ⟨0,0,0,0⟩)
abbrev nZ:Qk:=dr 77
set_option genSizeOf false in
set_option genInjectivity false in
structure Ad where
 Aa:OS
 Ab:OS
 Ac:Pp
 Ae:OS
 Af:OS
 Ag:Pp
 Ah:OS
 Ai:OS
 Aj:Pp
 Ak:OS
 Am:Pp
 An:OS
 Ao:Pp
 Aq:OS
 Ar:Pp
 As:OS
 At:Pp
 Au:OS
 Av:Pp
 Aw:OS
 Ax:Pp
 Ay:OS
 Az:Pp
 A0:OS
 A1:Pp
 A3:OS
 A4:Pp
 A5:OS
 A6:Pp
 A7:OS
 A8:Pp
 A9:OS
 Ba:Pp
 Bb:OS
 Bc:Pp
 Bd:OS
 Be:Pp
 Bf:OS
 Bh:Pp
 Bi:OS
 Bj:Pp
 Bk:OS
 Bl:Pp
 Bm:OS
 Bn:Pp
 Bo:OS
 Bp:Pp
 Bq:OS
 Br:Pp
 Bs:OS
 Bt:Pp
 Bu:OS
 Bv:Pp
 Bw:OS
 Bx:Pp
 By:OS
 Bz:Pp
 B0:OS
 B5:Pp
 B7:OS
 B8:Pp
 Ca:OS
 Cb:Pp
 Cc:OS
 Cd:Pp
 Cf:OS
 Cg:Pp
 Ch:OS
 Ci:Pp
 Cj:OS
 Ck:Pp
 Cl:OS
 Cm:Pp
 Cn:OS
 Co:Pp
 Cp:OS
 Cq:Pp
 Cr:OS
 Cs:Pp
 Ct:OS
 Cu:Pp
 Cv:OS
 Cw:Pp
 Cy:OS
 Cz:Pp
 C0:OS
 C2:Pp
 C3:OS
 C4:Pp
 C5:OS
 C6:Pp
 C7:OS
 C8:Pp
 C9:OS
 Da:Pp
 Db:OS
 Dd:Pp
 Df:OS
 Dg:Pp
 Dh:OS
 Di:Pp
 Dj:OS
 Dl:Pp
 Dm:OS
 Do:Pp
 Dp:OS
 Dq:Pp
 Dr:OS
 Dt:Pp
 Du:OS
 Dv:Pp
 Dw:OS
 Dx:Pp
 Dy:OS
 Dz:Pp
 D0:OS
 D3:Pp
 D4:OS
 D5:Pp
 D6:OS
 D7:Pp
 D8:OS
 D9:Pp
 Ea:OS
 Eb:Pp
 Ec:OS
 Ed:Pp
 Ee:OS
 Ef:Pp
 Eg:OS
 Eh:Pp
def FnL(K:Pk)(mg:a0j)(a:Ad):List Prop:=[
 oV K mg "MOST" (.int 40),
 oV K mg "MOST_COLUMNS" (.int 6),
 oV K mg "MOST_ROWS" (.int 4),
 oV K mg "WIDE" (.int 500),
 hV K "free" "free" (dr 14) a.Ai a.Aj,
 mg "free"=on (.ref a.Ai),
 eK K a.Aj ["rows","columns","pair"] [.tup [.int 0,.int 40]],
 f0 K mg "check_sums" (dr 15) a.Ak a.Am ["rowsums","columnsums"],
 f0 K mg "check_there" (dr 16) a.An a.Ao ["place","many"],
 f0 K mg "check_cell" (dr 17) a.Aq a.Ar ["row","column","rows","columns"],
 f0 K mg "check_pair" (dr 18) a.As a.At ["pair"],
 f0 K mg "settled_bounds" (dr 19) a.Au a.Av ["bounds","rows","columns"],
 f0 K mg "factorial" (dr 21) a.Aw a.Ax ["number"],
 f0 K mg "ways" (dr 22) a.Ay a.Az ["parts"],
 f0 K mg "common_factor" (dr 23) a.A0 a.A1 ["one","other"],
 f0 K mg "lowest" (dr 24) a.A3 a.A4 ["top","under"],
 f0 K mg "fillings" (dr 25) a.A5 a.A6 ["rests","many","pairs"],
 f0 K mg "need_of" (dr 27) a.A7 a.A8 ["rowsums","over"],
 f0 K mg "room_inside" (dr 28) a.A9 a.Ba ["columnsums","bounds","over","column"],
 f0 K mg "room_beside" (dr 29) a.Bb a.Bc ["bounds","over","column"],
 f0 K mg "room_of" (dr 30) a.Bd a.Be ["columnsums","bounds","over","into"],
 f0 K mg "narrowest" (dr 31) a.Bf a.Bh ["columnsums","bounds","over"],
 f0 K mg "choices" (dr 32) a.Bi a.Bj ["many"],
 f0 K mg "check_fit" (dr 33) a.Bk a.Bl ["rowsums","columnsums","bounds"],
 f0 K mg "check_wide" (dr 36) a.Bm a.Bn ["rowsums"],
 f0 K mg "settled_for_net" (dr 37) a.Bo a.Bp ["rowsums","columnsums","bounds"],
 f0 K mg "column_fillings" (dr 38) a.Bq a.Br ["rests","columnsums","bounds","column"],
 f0 K mg "rests_behind" (dr 39) a.Bs a.Bt ["rests","counts"],
 f0 K mg "nodes_by_level" (dr 40) a.Bu a.Bv ["rowsums","columnsums","bounds"],
 f0 K mg "node_counts" (dr 41) a.Bw a.Bx ["rests","filled","behind"],
 f0 K mg "counted_nodes" (dr 42) a.By a.Bz ["rowsums","columnsums","bounds"],
 f0 K mg "check_cell_of" (dr 45) a.B0 a.B5 ["net","cell"],
 f0 K mg "count_in" (dr 46) a.B7 a.B8 ["cell","level","counts"],
 f0 K mg "put_to" (dr 47) a.Ca a.Cb ["found","here","there","many"],
 f0 K mg "sums_added" (dr 48) a.Cc a.Cd ["found","more"],
 f0 K mg "sums_behind" (dr 49) a.Cf a.Cg ["net","one","other","level","sums"],
 f0 K mg "sums_over_tables" (dr 50) a.Ch a.Ci ["net","one","other"],
 f0 K mg "mean" (dr 51) a.Cj a.Ck ["net","row","column"],
 f0 K mg "pair_mean" (dr 52) a.Cl a.Cm ["net","one","other"],
 f0 K mg "_law_bag" (dr 54) a.Cn a.Co ["_law_script"],
 f0 K mg "_law_pull" (dr 55) a.Cp a.Cq ["_law_bag_here","_law_lot"],
 f0 K mg "_law_same" (dr 56) a.Cr a.Cs ["_law_found","_law_due"],
 f0 K mg "_law_grid" (dr 57) a.Ct a.Cu ["_law_bag_here","_law_block","_law_columns","_law_things"],
 f0 K mg "_law_small" (dr 58) a.Cv a.Cw ["_law_bag_here"],
 f0 K mg "_law_turned" (dr 59) a.Cy a.Cz ["_law_block"],
 f0 K mg "_law_rowsums" (dr 60) a.C0 a.C2 ["_law_grid_here"],
 f0 K mg "_law_columnsums" (dr 61) a.C3 a.C4 ["_law_grid_here"],
 f0 K mg "_law_free" (dr 62) a.C5 a.C6 ["_law_block","_law_columns"],
 f0 K mg "_law_bounds" (dr 63) a.C7 a.C8 ["_law_bag_here","_law_grid_here"],
 f0 K mg "_law_copied" (dr 64) a.C9 a.Da ["_law_block"],
 f0 K mg "_law_fit" (dr 65) a.Db a.Dd ["_law_rests","_law_lot","_law_pairs"],
 f0 K mg "_law_less" (dr 66) a.Df a.Dg ["_law_rests","_law_column"],
 f0 K mg "_law_listing" (dr 67) a.Dh a.Di ["_law_rowsums_here","_law_columnsums_here","_law_limits"],
 f0 K mg "_law_all" (dr 68) a.Dj a.Dl ["_law_grid_here","_law_limits"],
 f0 K mg "_law_factorial" (dr 69) a.Dm a.Do ["_law_lot"],
 f0 K mg "_law_ways" (dr 70) a.Dp a.Dq ["_law_parts"],
 f0 K mg "_law_weight" (dr 71) a.Dr a.Dt ["_law_columns"],
 f0 K mg "_law_gcd" (dr 72) a.Du a.Dv ["_law_one","_law_other"],
 f0 K mg "_law_lowest" (dr 73) a.Dw a.Dx ["_law_top","_law_under"],
 f0 K mg "_law_place" (dr 74) a.Dy a.Dz ["_law_bag_here","_law_grid_here"],
 f0 K mg "_law_net" (dr 75) a.D0 a.D3 ["_law_grid_here","_law_limits"],
 f0 K mg "_law_refused" (dr 76) a.D4 a.D5 ["_law_net_here","_law_cell","_law_other"],
 hV K "__init__" "Net.__init__" (di (dr 43) 0) a.D6 a.D7,
 Mk K a.Ah a.D6,
 H_ K a.D7 ["self","rowsums","columnsums","bounds"] ["bounds"] 3 [.kw 0],
 hV K "rowsums" "Net.rowsums" (di (dr 43) 3) a.D8 a.D9,
 p3 K a.Ah "rowsums" a.D8,
 cA K a.D9 ["self"] [],
 hV K "columnsums" "Net.columnsums" (di (dr 43) 4) a.Ea a.Eb,
 p3 K a.Ah "columnsums" a.Ea,
 cA K a.Eb ["self"] [],
 hV K "steps" "Net.steps" (di (dr 43) 9) a.Ec a.Ed,
 p3 K a.Ah "steps" a.Ec,
 cA K a.Ed ["self","level","rests"] [],
 hV K "counts_at" "Net.counts_at" (di (dr 43) 6) a.Ee a.Ef,
 p3 K a.Ah "counts_at" a.Ee,
 cA K a.Ef ["self","level","rests"] [],
 t7 K a.Ah,
 mg "Net"=on (.ref a.Ah),
 ef K a.Ah "column_list",
 ef K a.Ah "counted",
 ef K a.Ah "pairs",
 ef K a.Ah "row_list",
 hV K "__init__" "EdgeError.__init__" (di (dr 2) 0) a.Ab a.Ac,
 cA K a.Ac ["self","word","why"] [],
 mg "EdgeError"=on (.ref a.Aa),
 hV K "__init__" "BadCell.__init__" (di (dr 7) 0) a.Af a.Ag,
 cA K a.Ag ["self","why"] [],
 mg "BadCell"=on (.ref a.Ae),
 XMk K a.Ae a.Af,
 RX K (.ref a.Ae) "word"=on OO,
 ZM K a.Aa "__init__" a.Ab]
structure xr (K:Pk) (mg:a0j) (a:Ad):Prop where
 Ei:∀i,(FnL K mg a).getD i True
 Ej:mg "ValueError"=OO
 Ek:mg "abs"=OO
 El:mg "any"=OO
 Em:mg "bool"=OO
 En:mg "enumerate"=OO
 Eo:mg "int"=OO
 Ep:mg "isinstance"=OO
 Er:mg "len"=OO
 Es:mg "list"=OO
 Et:mg "max"=OO
 Eu:mg "min"=OO
 Ev:mg "range"=OO
 Ew:mg "reversed"=OO
 Ex:mg "sorted"=OO
 Ey:mg "str"=OO
 Ez:mg "sum"=OO
 E3:mg "tuple"=OO
 E4:mg "zip"=OO
section
variable{P:PN}{w:PV}{K:Pk}{mg:a0j}{aa:Qg}{a:Ad}
def KK(K:Pk):Sp:=λa H Q _=>∃(x C:OS) (w y:V),a=[.ref x,w,y]/\H x=on (d8 C x OO)/\XC K C/\RX K (.ref C) "word"=on OO/\∀(d:OS) (c:Hp),c x=on (d8 C x (on d))->(∀b o,H b=on o->b≠x->c b=on o)->Q .non c
theorem uh:b5 ["self","word","why"] ["self","word","why"] (ae (di (dr 2) 0)):=fh
theorem Jx(N:xr K mg a):et P w K mg aa (gs P w) 1 a.Ab a.Ac ["self","word","why"] (KK K):=by
 refine(N.1 83).ok uh (λM H Q E h=>?_) (λj A D s H M Q E n h=>?_)
 .obtain⟨x,C,wd,y,rfl,_⟩:=h
  rfl
 .obtain⟨x,C,wd,y,rfl,l,c,m,k⟩:=h
  refine⟨_,cI (bL (FT rfl N.Ej (cE (pv 0) (cE (pv 2) gj)))) (iR (FM (pv 0) (pv 1) rfl)),?_⟩;refine⟨_,rfl,_,rfl,x,C,OO,_,rfl,(by show 1<=Pf;decide),l,c,?_⟩;refine⟨_,rfl,_,rfl,x,C,rfl,am,c,m,λd G f=>?_⟩;refine k d _ am λb o e i=>?_;have g:H d=OO:=by rw[bt f]at G;exact G
  rw[bt i,bt (b_ e g),bt i];exact e
theorem wI:b5 ["self","why"] ["self","why"] (ae (di (dr 7) 0)):=fh
theorem wL(N:xr K mg a):et P w K mg aa (gs P w) 2 a.Af a.Ag ["self","why"] (Hk a.Ae 1):=by
 refine(N.1 86).ok wI (λG H Q E h=>?_) (λc A D s H G Q E e h=>?_)
 .obtain⟨x,rest,rfl,b,_⟩:=h
  show rest.length+1=2;rw[b]
 .obtain⟨x,rest,rfl,b,f,k⟩:=h
  obtain⟨y,rfl⟩:∃y,rest=[y]:=XO.mp b;refine⟨_,iR (bL (yI (N.1 91) (Jx N) e rfl (N.1 85) (N.1 84) .nil oj (cE (pv 0) (cE Lp (cE (pv 1) gj))))),?_⟩;exact⟨_,rfl,_,rfl,x,a.Ae,_,y,rfl,f,(N.1 89).xc,(N.1 90),λd g i j=>k _ g i j⟩
theorem jH:b5 ["_law_bag_here","_law_lot","_law_cells","_law_at","_law_cell"] ["_law_bag_here","_law_lot"] (ae (dr 55)):=fh
theorem CD(N:xr K mg a):et P w K mg aa (gs P w) 2 a.Cp a.Cq ["_law_bag_here","_law_lot"] (Im K 2 jX):=by
 refine(N.1 40).F.ok (k:=1) jH (λvs H Q E h=>h.1) (λX A x s H vs Q E hr h=>?_);obtain⟨_,F,ds,D,fr,hd,r,Y,e,k⟩:=h;obtain⟨G,rfl,ok,C,Z,rfl,rfl⟩:=CQ e;obtain⟨v,w',rfl,d1,d2⟩:=bb.two hd;unfold c4 at d1;obtain⟨b,l,d,rfl⟩:=d1;cases d2.int;obtain⟨t,I⟩:=fr.bag b l d;obtain⟨ab,al,m⟩:=fr.bgA b l d;obtain⟨U,J,ac,W⟩:=ok.at;obtain⟨_,_,ad,_⟩:=xo ok C;have M:((D.cells.map V.int).length:Int)=(D.cells.length:Int):=by rw[ON]
 have L:v_ (D.cells.map V.int) (D.pos:Int)=on (.int D.cell):=Kc (by rw[OY,J];rfl);refine⟨_,cI (qI (i:=2) jH.nd rfl (RH rfl) (gN eD (pv 0) bT (λ_ _=>rfl)))
  (cI (qI (i:=3) jH.nd rfl (RH rfl) (dY jk (gN eD (pv 0) bT (λ_ _=>rfl)) (lC ny (by rfl) N.Er PySem.boot_len (cE (pv 2) gj))))
  (cI (qI (i:=4) jH.nd rfl (RH rfl) (gN eD (pv 2) (pv 3) (λ_ _=>rfl)))
  (cI (Hz (xq HC (pv 4) (dY LA bT bT) (vI _))
   (cI (dy (dY xA (pv 4) (pv 1)) (jj (pv 2) (pv 3) gy)) (iR (au (dY jk (pv 4) (pv 1))))) rY)
  (cI (dy (dY qK (gN eD (pv 0) bT (λ_ _=>rfl)) bT) (jj (pv 0) bT gy))
  (cI (dy (dY jk (dY LC (dY qK (dY qK (gN eD (pv 0) bT (λ_ _=>rfl)) (dY jk (pv 4) bT)) bT) bT) bT) (jj (pv 0) bT gy))
  (iR (au (dY jk (dY xA (gN eD (pv 0) bT (λ_ _=>rfl)) bT) (pv 1))))))))),?_⟩
 refine⟨_,rfl,b,_,_,_,rfl,rfl,fx.of t,rfl,?_⟩;refine⟨_,rfl,b,_,_,_,rfl,rfl,fx.of t,rfl,_,rfl,l,_,rfl,.inl (fx.of I),_,_,rfl,rfl,?_,?_⟩
 .have:=U
  rw[M];lia
 refine⟨_,rfl,_,rfl,l,_,_,_,rfl,rfl,fx.of I,by rw[M,W];exact L,?_⟩;refine⟨_,rfl,_,_,rfl,rfl,⟨by decide,by decide,by decide⟩,_,_,rfl,rfl,_,rfl,?_⟩;have S:∀{O:Hp} {p:OS} {o:HO},(∀c,F.A c->O c≠OO)->∀c,F.A c->upd O p o c≠OO:=λ{O p o} f c hc z=>by
  by_cases q:c=p
  .subst q;rw[am]at z;cases z
  .rw[bt q]at z;exact f c hc z
 refine ite2 (λg=>?_) (λg=>?_)
 .have C_:(10:Int)^18<=D.cell:=RG g
  refine⟨_,rfl,_,rfl,_,_,rfl,rfl,⟨C,Z⟩,_,rfl,_,rfl,l,_,_,D.pos,rfl,rfl,I,?_,?_⟩
  .rw[M,W,ON]
   exact JP U
  refine⟨_,rfl,_,rfl,_,_,rfl,rfl,C,?_⟩;have R:jQ D G=D.cell % G:=O0 C_;have T:lB D G=⟨D.cells.set D.pos (D.cell/G),D.i,D.j⟩:=O0 C_;rw[R,T]at k;refine k _ _ ⟨λc o hc n=>by rw[bt (n b l d).2];exact hc,S fr.occ,fr.bgA,λb' l' u=>?_⟩ rfl;rw[d]at u;cases u;exact⟨by rw[bt m];exact t,by rw[am,Us]⟩
 .have C_:¬(10:Int)^18<=D.cell:=λq=>g (Po q)
  refine⟨_,rfl,b,_,_,_,rfl,rfl,fx.of t,rfl,_,_,rfl,rfl,_,rfl,b,_,_,1,rfl,rfl,t,rfl,?_⟩;have y:(upd H b (.lst [.ref l,.int (D.i+1),.int D.j])) b=on (.lst [.ref l,.int (D.i+1),.int D.j]):=am;refine⟨_,rfl,b,_,_,_,rfl,rfl,fx.of y,rfl,_,rfl,_,_,rfl,rfl,(by show(0:Int)<2147483629;decide),_,_,rfl,rfl,_,_,rfl,rfl,_,_,rfl,rfl,.inr ⟨by decide,by decide⟩,_,_,rfl,rfl,(by show(0:Int)<2147483629;decide),_,rfl,b,_,_,2,rfl,rfl,y,rfl,?_⟩;have B:(upd (upd H b (.lst [.ref l,.int (D.i+1),.int D.j])) b (.lst [.ref l,.int (D.i+1),.int D.nxt])) b=on (.lst [.ref l,.int (D.i+1),.int D.nxt]):=am;refine⟨_,rfl,b,_,_,_,rfl,rfl,fx.of B,rfl,_,_,rfl,rfl,⟨by decide,by decide⟩,_,rfl,_,_,rfl,rfl,C,?_⟩;have R:jQ D G=D.nxt/64 % G:=O1 C_;have T:lB D G=⟨D.cells,D.i+1,D.nxt⟩:=O1 C_;rw[R,T]at k;refine k _ _ ⟨λc o hc n=>by rw[bt (n b l d).1,bt (n b l d).1];exact hc,S (S fr.occ),fr.bgA,λb' l' u=>?_⟩ rfl;rw[d]at u;cases u;exact⟨B,by rw[bt m.symm,bt m.symm];exact I⟩
theorem FA:b5 ["_law_script"] ["_law_script"] (ae (dr 54)):=fh
theorem nd1:(["_law_cell"]:a0i).Nodup:=by decide +kernel
theorem F5(N:xr K mg a):et P w K mg aa (gs P w) 1 a.Cn a.Co ["_law_script"] (Nl K):=by
 refine(N.1 39).F.ok FA (λS H Q E h=>?_) (λY A M s H S Q E hr h=>?_)
 .obtain⟨a,ns,rfl,_⟩:=h
  rfl
 .obtain⟨a,ns,rfl,Z,k⟩:=h
  refine⟨_,iR (au (hZ (cE (dY LE (oh rfl (c_:=["_law_cell"]) (dc.plain rfl (by decide +kernel) (by decide +kernel)) (Jj (vC w8 (pv 0) xv (xu bT)))
   (λcl C fp s H=>⟨xx (i:=0) nd1 rfl (RH rfl),vA,λD=>aP rfl (lC pX (by rfl) N.Ek Boot.«abs» (cE (pv 0) gj)) rfl⟩)) (hZ (cE bT gj))) (cE bT (cE bT gj))))),?_⟩
  obtain⟨q,J,ab⟩:=OH ns;refine⟨_,rfl,63,rfl,a,_,rfl,Z,λp hp=>?_⟩;rw[J];have O:bP H (upd H p (.lst (q.map V.int))):=bP.upd hp;refine⟨p,rfl,⟨_,fx.of am⟩,λD B=>?_⟩;have r:D≠p:=λz=>by subst z;rw[am]at B;cases B
  refine zF (xs:=q.map V.int) (λi I g=>∃G:a0e,(∃v,I=[v])/\G.length=i/\(∀c∈G,0<=c)/\g D=on (.lst (G.map V.int))/\g p=on (.lst (q.map V.int))/\bP H g) ⟨[],⟨_,rfl⟩,rfl,(λ_ h=>nomatch h),am,by rw[bt r.symm,am],O.trans (bP.upd B)⟩
   (λi I g _ ⟨_,_,_,_,_,e,_⟩=>fx.of e) ?_ ?_
  .rintro i x I g n ⟨G,⟨v,rfl⟩,l,m,d,t,u⟩
   have ac:i<q.length:=by have:=(Pa.mp n).1;rwa[ON]at this
   obtain⟨z,rfl⟩:∃z,x=V.int z:=by
    rw[OY]at n;cases e:q[i]? with
    |none=>rw[e]at n;cases n
    |some z=>rw[e]at n;exact⟨z,(PH n).symm⟩
   unfold fj Kx;refine iteT ?_;refine⟨_,rfl,_,rfl,G.map V.int,d,by rw[ON];exact sU (by lia),G++[if z<0 then -z else z],⟨_,rfl⟩,by rw[Pl,l];rfl,λc hc=>?_,by rw[am,PR];rfl,by rw[bt r.symm];exact t,λb o e=>?_⟩
   .rcases Qt.mp hc with hc|hc
    .exact m c hc
    .obtain rfl:c=_:=by simpa using hc
     split<;>lia
   .rw[bt (b_ e (O.free B))]
    exact u b o e
  .rintro I g ⟨G,⟨v,rfl⟩,l,m,d,t,u⟩
   rw[ON]at l;refine⟨by decide,λR j=>⟨D,R,_,_,rfl,rfl,by rw[bt (b_ d j)];exact d,am,by rw[ON];exact Vp (sU (by simp;lia)),λT y=>⟨(by show 3<=Pf;decide),λU f=>?_⟩⟩⟩;have W:bP g (upd g R (.lst [V.int 1])):=bP.upd j;have X:=W.trans (bP.upd (o:= .lst (G.map V.int++[V.int 1])) y);have L:T≠U:=λz=>by subst z;rw[am]at f;cases f
   refine k U T _ ((u.trans X).free f) ((u.trans W).free y) ⟨G++[1],0,0,am,by rw[bt L,am,PR];rfl,by simp,by rw[Pl];simp;lia,λc hc=>?_,by decide⟩ ((u.trans X).trans (bP.upd f));rcases Qt.mp hc with hc|hc
   .exact m c hc
   .obtain rfl:c=1:=by simpa using hc
    decide
theorem bc(N:xr K mg a):FB P w K mg aa 2 "_law_pull" a.Cp a.Cq ["_law_bag_here","_law_lot"] 2 jX:=⟨CD N,(N.1 40).m,(N.1 40).F.kp,(N.1 40).b⟩
abbrev QF(K:Pk)(a:Ad)(k:Nat)(x:PX)(f:OS)(d:Pp)(E:a0i)(n:Nat):={m:a0c->M D//∀{P:PN} {w:PV} {mg:a0j} {aa:Qg} (N:xr K mg a),FB P w K mg aa k x f d E n m}
abbrev QM(K:Pk)(a:Ad)(k:Nat)(f:OS)(d:Pp)(E:a0i)(n:Nat):={m:a0c->M D//∀{P:PN} {w:PV} {mg:a0j} {aa:Qg} (N:xr K mg a),et P w K mg aa (gs P w) k f d E (Im K n m)}
theorem I9:b5 ["rows","columns","pair"] ["rows","columns","pair"] (ae (dr 14)):=fh
def K9(K:Pk)(a:Ad):QM K a 2 a.Ai a.Aj ["rows","columns","pair"] 3:=⟨_,λN=>by
 exact m7 (k:=1) 3 3 _ (N.1 4) I9 rfl rfl λb A w s H E d=>ah (aE (au (bh rfl (iv ["row","pair","columns"] ["row"] [2,1]) (cy (by rfl) N.Ev (d4 (vv 0))) (λG C c s H=>⟨(d_ 0 f_),aS,λD=>aP rfl (bh rfl (iv ["column","pair"] ["column"] [1]) (cy (by rfl) N.Ev (d4 (vv 2))) (λG C c s H=>⟨(d_ 0 f_),aS,λD=>aP rfl (vv 1) rfl⟩) ar ax (λD=>aQ)) rfl⟩) ar ax (λD=>aQ))))⟩
theorem uj:b5 ["rowsums","columnsums"] ["rowsums","columnsums"] (ae (dr 15)):=fh
def jh(K:Pk)(a:Ad):QF K a 2 "check_sums" a.Ak a.Am ["rowsums","columnsums"] 2:=⟨_,λN=>by
 exact g0 2 (N.1 7) uj λb A w s H E c=>ac (bZ (lf (rK jS jS mT mT (ak) (ck N.Er (d4 (vv 0))) (l8 (N.1 2)))) (ah (dL)) (bA))
   (ac (bZ (lf (rK jS jS mT mT (ak) (ck N.Er (d4 (vv 1))) (l8 (N.1 1)))) (ah (dL)) (bA))
   (ac (bZ (md (uX (k9 (bO (nz rfl) y7 (by rfl) N.El Boot.«any» (d4 (bh rfl (iv ["many"] ["many"] []) (aX (vv 0)) (λG C d s H=>⟨(d_ 0 f_),aS,λD=>aP rfl (gH jR mS (vv 0) (ak)) rfl⟩) ar ax (λD=>aQ))))) (qc (k9 (bO (nz rfl) y7 (by rfl) N.El Boot.«any» (d4 (bh rfl (iv ["many"] ["many"] []) (aX (vv 1)) (λG C d s H=>⟨(d_ 0 f_),aS,λD=>aP rfl (gH jR mS (vv 0) (ak)) rfl⟩) ar ax (λD=>aQ)))))))) (ah (dL)) (bA))
   (ac (bZ (bu (h9 c) jY (gb N.Ez (d4 (vv 0))) (gb N.Ez (d4 (vv 1)))) (ah (dL)) (bA))
   (ah (bZ (bu oq sj (gb N.Ez (d4 (vv 0))) (l8 (N.1 0))) (ah (dL)) (bA))))))⟩
theorem rO:b5 ["place","many"] ["place","many"] (ae (dr 16)):=fh
def cG(K:Pk)(a:Ad):QF K a 4 "check_there" a.An a.Ao ["place","many"] 2:=⟨_,λN=>by
 exact g0 2 (N.1 8) rO λd A w s H E b=>ah (bZ (lf (rK jS jR mT mS (ak) (vv 0) (vv 1))) (ah (Jb (N.1 89).xc (bJ T_) (by decide) (FK b.hd (Lw (N.1 89) (wL N) (b.mono (by decide)) rfl (N.1 88) (N.1 87) .nil oj (d4 (Kk (c:=((Q4 "there is no number ").length+(1921+((Q4 " among ").length+(1921+0))))) (HS (HU (vv 0) (HS (HU (vv 1) (On))))) (by decide +kernel))))))) (bA))⟩
theorem uk:b5 ["row","column","rows","columns"] ["row","column","rows","columns"] (ae (dr 17)):=fh
def eU(K:Pk)(a:Ad):QF K a 5 "check_cell" a.Aq a.Ar ["row","column","rows","columns"] 4:=⟨_,λN=>by
 exact g0 4 (N.1 9) uk λc A w s H E b=>ac (dM (bL (vc ((cG K a).2 N) b (ee (vv 0) (vv 2)))))
   (ah (dM (bL (vc ((cG K a).2 N) b (ee (vv 1) (vv 3))))))⟩
theorem ir:b5 ["pair","low","high"] ["pair"] (ae (dr 18)):=fh
def ji(K:Pk)(a:Ad):QF K a 2 "check_pair" a.As a.At ["pair"] 1:=⟨_,λN=>by
 exact g0 3 (N.1 10) ir λb A w s H E c=>ac (lx (dP (aN ay (aN ay cR)) (aM (aM cq))) (dy (vv 0) (bv rfl (aq (d_ 1 ir.nd) (aq (d_ 2 ir.nd) bf)))))
   (ah (bZ (lf (Fk jS jS jS mT mT mT (ak) (vv 1) (vv 2) (l8 (N.1 0)))) (ah (dL)) (bA)))⟩
theorem ft:b5 ["bounds","rows","columns","pairs","pair"] ["bounds","rows","columns"] (ae (dr 19)):=fh
def cV(K:Pk)(a:Ad):QF K a 3 "settled_bounds" a.Au a.Av ["bounds","rows","columns"] 3:=⟨_,λN=>by
 exact g0 5 (N.1 11) ft λd A w s H E b=>ac (bZ (bu vF y6 (vv 0) (ye)) (ah (aE (au (IJ ((K9 K a).2 N) (b.mono (by decide)) (by rfl) (N.1 5) (N.1 4).kp (N.1 6) gQ (ee (vv 1) (vv 2)) (λG M r c h=>by rw[(bJ (bJ T_)) G M r c h];rfl))))) (bA))
   (ac (bZ (md (uX (bu (h9 b) jY (ck N.Er (d4 (vv 0))) (vv 1)) (qc (k9 (bO (nz rfl) y7 (by rfl) N.El Boot.«any» (d4 (bh rfl (iv ["pairs","columns"] ["pairs"] [2]) (aX (vv 0)) (λP C e s H=>⟨(d_ 0 f_),aS,λD=>aP rfl (gH (h9 b) jY (ck N.Er (d4 (vv 0))) (vv 1)) rfl⟩) ar ax (λD=>aQ)))))))) (ah (dL)) (bA))
   (ac (bE ay (bp bW rfl (aX (vv 0)) (d_ 3 ft.nd) (ah (bE ay (bp bW rfl (aX (vv 3)) (d_ 4 ft.nd) (ah (dM (bL (vc ((ji K a).2 N) b (d4 (vv 4)))))))))))
   (ah (aE (au (bh rfl (iv ["pairs"] ["pairs"] []) (aX (vv 0)) (λP C e s H=>⟨(d_ 0 f_),aS,λD=>aP rfl (cj cZ jt (by rfl) N.Es Boot.«list» (d4 (vv 0))) rfl⟩) ar ax (λD=>aQ)))))))⟩
theorem ge:b5 ["number","product","factor"] ["number"] (ae (dr 21)):=fh
def gL(K:Pk)(a:Ad):QF K a 2 "factorial" a.Aw a.Ax ["number"] 1:=⟨_,λN=>by
 exact g0 3 (N.1 12) ge λb A w s H E c=>ac (aC (eo 1 ge.nd (ak)))
   (ac (bE ay (bp bW rfl (lN (by rfl) N.Ev (ee (ak) (aD aF bq (vv 0) (ak)))) (d_ 2 ge.nd) (ah (qx xH (mH (i:=1) ge.nd rfl (by first|exact RH rfl|exact Tc rfl) (vv 2) xK)))))
   (ah (aE (au (vv 1)))))⟩
theorem kD:b5 ["parts","part","told"] ["parts"] (ae (dr 22)):=fh
def qC(K:Pk)(a:Ad):QF K a 3 "ways" a.Ay a.Az ["parts"] 1:=⟨_,λN=>by
 exact g0 3 (N.1 13) kD λc A w s H E b=>ac (bE ay (bp bW rfl (aX (vv 0)) (d_ 1 kD.nd) (ah (bZ (bu jR mS (vv 1) (ak)) (ah (dL)) (bA)))))
   (ac (aC (eo 2 kD.nd (vc ((gL K a).2 N) b (d4 (bO (EJ rfl) LZ (by rfl) N.Ez Boot.«sum» (d4 (vv 0)))))))
   (ac (bE ay (bp bW rfl (aX (vv 0)) (d_ 1 kD.nd) (ah (qx Gy (mH (i:=2) kD.nd rfl (by first|exact RH rfl|exact Tc rfl) (vc ((gL K a).2 N) b (d4 (vv 1))) JS)))))
   (ah (aE (au (vv 2))))))⟩
theorem i8:b5 ["one","other"] ["one","other"] (ae (dr 23)):=fh
def gi(K:Pk)(a:Ad):QF K a 2 "common_factor" a.A0 a.A1 ["one","other"] 2:=⟨_,λN=>by
 exact g0 2 (N.1 14) i8 λb A w s H E c=>ac (xa bW (bu oq sj (vv 1) (ak)) (ah (Np (Lf (i:=0) (j:=1) rfl i8.nd rfl rfl (by decide) rfl rfl (ee (vv 1) (aD jk HM (vv 0) (vv 1))) rfl))))
   (ah (aE (au (vv 0))))⟩
theorem sW:b5 ["top","under","factor"] ["top","under"] (ae (dr 24)):=fh
def ly(K:Pk)(a:Ad):QF K a 3 "lowest" a.A3 a.A4 ["top","under"] 2:=⟨_,λN=>by
 exact g0 3 (N.1 15) sW λb A w s H E c=>ac (bZ (bu jR mS (vv 1) (ak)) (ah (dL)) (bA))
   (ac (aC (eo 2 sW.nd (vc ((gi K a).2 N) c (ee (bO pX HR (by rfl) N.Ek Boot.«abs» (d4 (vv 0))) (vv 1)))))
   (ah (aE (au (bQ (ee (aD jl mU (vv 0) (vv 2)) (aD jl mU (vv 1) (vv 2))))))))⟩
theorem cN:b5 ["rests","many","pairs","lows","tops","begun","row","fewest_behind","most_behind"] ["rests","many","pairs"] (ae (dr 25)):=fh
def lA(K:Pk)(a:Ad):QF K a 2 "fillings" a.A5 a.A6 ["rests","many","pairs"] 3:=⟨_,λN=>by
 exact g0 9 (N.1 16) cN λc A w s H E d=>ac (aC (eo 3 cN.nd (bh rfl (iv ["low","high"] ["low","high"] []) (aX (vv 2)) (λG C b s H=>⟨(bv rfl (aq (d_ 0 f_) (aq (d_ 1 f_) bf))),aS,λD=>aP rfl (vv 0) rfl⟩) (dQ (aW ar (aW ar cS)) (aU (aU cm))) (dJ (aV ax (aV ax cP))) (λD=>aQ))))
   (ac (aC (eo 4 cN.nd (bh rfl (iv ["rest","low","high"] ["rest","low","high"] []) (oH (by rfl) N.E4 (ee (vv 0) (vv 2))) (λG C b s H=>⟨(bv rfl (aq (d_ 0 f_) (aq (bv rfl (aq (d_ 1 f_) (aq (d_ 2 f_) bf))) bf))),aS,λD=>aP rfl (bO (j3 rfl) uG (by rfl) N.Eu Boot.«min» (ee (vv 0) (vv 2))) rfl⟩) (dQ (aW ar (aW (dQ (aW ar (aW ar cS)) (aU (aU cm))) cS)) (aU (aU cm))) (dJ (aV ax (aV (dJ (aV ax (aV ax cP))) cP))) (λD=>aQ))))
   (ac (aC (eo 5 cN.nd (e8 (d4 (bQ (ee (bQ (f9)) (vv 1)))))))
   (ac (bE ay (bp bW rfl (cy (by rfl) N.Ev (d4 (ck N.Er (d4 (vv 0))))) (d_ 6 cN.nd) (ac (aC (eo 7 cN.nd (gb N.Ez (d4 (wW (vv 3) (CH (aD aF bq (vv 6) (ak))) (CI))))))
   (ac (aC (eo 8 cN.nd (gb N.Ez (d4 (wW (vv 4) (CH (aD aF bq (vv 6) (ak))) (CI))))))
   (ah (BC (i:=5) cN.nd rfl (by first|exact RH rfl|exact Tc rfl) rfl (iv ["counts","left","count","lows","row","most_behind","tops","fewest_behind"] ["counts","left","count"] [3,6,8,4,7]) (aX (vv 5)) (λG C b s H=>⟨(bv rfl (aq (d_ 0 f_) (aq (d_ 1 f_) bf))),aS,λD=>sd rfl rfl rfl (lN (by rfl) N.Ev (ee (bO (tZ rfl) HN (by rfl) N.Et Boot.«max» (ee (bn aG br (vv 3) (vv 4)) (aD gl iP (vv 1) (vv 5)))) (aD aF bq (bO (j3 rfl) uG (by rfl) N.Eu Boot.«min» (ee (bn aG br (vv 6) (vv 4)) (aD gl iP (vv 1) (vv 7)))) (ak)))) (d_ 2 f_) (aS) (aP rfl (bQ (ee (aD aF bq (vv 0) (bQ (d4 (vv 2)))) (aD gl iP (vv 1) (vv 2)))) rfl)⟩) (dQ (aW ar (aW ar cS)) (aU (aU cm))) (dJ (aV ax (aV ax cP))) (λD=>JL ar ax (aQ))))))))
   (ah (aE (au (bh rfl (iv ["counts","left"] ["counts","left"] []) (aX (vv 5)) (λG C b s H=>⟨(bv rfl (aq (d_ 0 f_) (aq (d_ 1 f_) bf))),rb (bu (dO d) ff (vv 1) (ak)),λD=>aP rfl (vv 0) rfl⟩) (dQ (aW ar (aW ar cS)) (aU (aU cm))) (dJ (aV ax (aV ax cP))) (λD=>aQ))))))))⟩
theorem yw:b5 ["rowsums","over"] ["rowsums","over"] (ae (dr 27)):=fh
def mE(K:Pk)(a:Ad):QF K a 2 "need_of" a.A7 a.A8 ["rowsums","over"] 2:=⟨_,λN=>by
 exact g0 2 (N.1 17) yw λb A w s H E c=>ah (aE (au (gb N.Ez (d4 (bh rfl (iv ["row","rowsums"] ["row"] [0]) (aX (vv 1)) (λG C d s H=>⟨(d_ 0 f_),aS,λD=>aP rfl (bn aG br (vv 1) (vv 0)) rfl⟩) ar ax (λD=>aQ))))))⟩
theorem kE:b5 ["columnsums","bounds","over","column","lows"] ["columnsums","bounds","over","column"] (ae (dr 28)):=fh
def db(K:Pk)(a:Ad):QF K a 2 "room_inside" a.A9 a.Ba ["columnsums","bounds","over","column"] 4:=⟨_,λN=>by
 exact g0 5 (N.1 18) kE λb A w s H E c=>ac (BC (i:=4) kE.nd rfl (by first|exact RH rfl|exact Tc rfl) rfl (iv ["row","pairs","over","column"] ["row","pairs"] [2,3]) (mZ (by rfl) N.En (d4 (vv 1))) (λG C d s H=>⟨(bv rfl (aq (d_ 0 f_) (aq (d_ 1 f_) bf))),rb (bu mJ (Gz (neg:=OT)) (vv 0) (vv 2)),λD=>aP rfl (bn aG br (bn aG br (vv 1) (vv 3)) (ak)) rfl⟩) (dQ (aW ar (aW ar cS)) (aU (aU cm))) (dJ (aV ax (aV ax cP))) (λD=>aQ))
   (ah (aE (au (aD gl iP (bn aG br (vv 0) (vv 3)) (gb N.Ez (d4 (vv 4)))))))⟩
theorem rN:b5 ["bounds","over","column"] ["bounds","over","column"] (ae (dr 29)):=fh
def de(K:Pk)(a:Ad):QF K a 2 "room_beside" a.Bb a.Bc ["bounds","over","column"] 3:=⟨_,λN=>by
 exact g0 3 (N.1 19) rN λb A w s H E c=>ah (aE (au (gb N.Ez (d4 (bh rfl (iv ["row","bounds","column"] ["row"] [0,2]) (aX (vv 1)) (λG C d s H=>⟨(d_ 0 f_),aS,λD=>aP rfl (bn aG br (bn aG br (bn aG br (vv 1) (vv 0)) (vv 2)) (ak)) rfl⟩) ar ax (λD=>aQ))))))⟩
theorem yv:b5 ["columnsums","bounds","over","into"] ["columnsums","bounds","over","into"] (ae (dr 30)):=fh
def mD(K:Pk)(a:Ad):QF K a 3 "room_of" a.Bd a.Be ["columnsums","bounds","over","into"] 4:=⟨_,λN=>by
 exact g0 4 (N.1 20) yv λc A w s H E b=>ah (aE (au (gb N.Ez (d4 (bh rfl (iv ["column","into","columnsums","bounds","over"] ["column"] [3,0,1,2]) (cy (by rfl) N.Ev (d4 (ck N.Er (d4 (vv 0))))) (λG C d s H=>⟨(d_ 0 f_),aS,λD=>aP rfl (Kj (bu CC (Gz (neg:=OW)) (vv 0) (vv 1)) (vc ((db K a).2 N) b (t_ (vv 2) (vv 3) (vv 4) (vv 0))) (vc ((de K a).2 N) b (lp (vv 3) (vv 4) (vv 0)))) rfl⟩) ar ax (λD=>aQ))))))⟩
theorem u9:b5 ["columnsums","bounds","over"] ["columnsums","bounds","over"] (ae (dr 31)):=fh
def j9(K:Pk)(a:Ad):QF K a 3 "narrowest" a.Bf a.Bh ["columnsums","bounds","over"] 3:=⟨_,λN=>by
 exact g0 3 (N.1 21) u9 λc A w s H E b=>ah (aE (au (bh rfl (iv ["column","columnsums","bounds","over"] ["column"] [0,1,2]) (cy (by rfl) N.Ev (d4 (ck N.Er (d4 (vv 0))))) (λG C d s H=>⟨(d_ 0 f_),rb (bu jR mS (vc ((db K a).2 N) b (t_ (vv 1) (vv 2) (vv 3) (vv 0))) (vc ((de K a).2 N) b (lp (vv 2) (vv 3) (vv 0)))),λD=>aP rfl (vv 0) rfl⟩) ar ax (λD=>aQ))))⟩
theorem iH:b5 ["many","told","number"] ["many"] (ae (dr 32)):=fh
def mF(K:Pk)(a:Ad):QF K a 2 "choices" a.Bi a.Bj ["many"] 1:=⟨_,λN=>by
 exact g0 3 (N.1 22) iH λb A w s H E c=>ac (aC (eo 1 iH.nd (e8 (d4 (e8 (f9))))))
   (ac (bE ay (bp bW rfl (cy (by rfl) N.Ev (d4 (vv 0))) (d_ 2 iH.nd) (ah (aC (eo 1 iH.nd (aD aF bq (vv 1) (bh rfl (iv ["chosen","number"] ["chosen"] [2]) (aX (vv 1)) (λG C d s H=>⟨(d_ 0 f_),aS,λD=>aP rfl (aD aF bq (vv 0) (e8 (d4 (vv 1)))) rfl⟩) ar ax (λD=>aQ))))))))
   (ah (aE (au (vv 1)))))⟩
theorem i9:b5 ["rowsums","columnsums","bounds","over","into"] ["rowsums","columnsums","bounds"] (ae (dr 33)):=fh
def fG(K:Pk)(a:Ad):QF K a 4 "check_fit" a.Bk a.Bl ["rowsums","columnsums","bounds"] 3:=⟨_,λN=>by
 exact g0 5 (N.1 23) i9 λc A w s H E b=>ah (bE ay (bp bW rfl (aX (vc ((mF K a).2 N) b (d4 (ck N.Er (d4 (vv 0)))))) (d_ 3 i9.nd) (ac (aC (eo 4 i9.nd (vc ((j9 K a).2 N) b (lp (vv 1) (vv 2) (vv 3)))))
   (ah (bZ (bu oq sj (vc ((mE K a).2 N) b (ee (vv 0) (vv 3))) (vc ((mD K a).2 N) b (t_ (vv 1) (vv 2) (vv 3) (vv 4)))) (ah (dL)) (bA))))))⟩
theorem fN:b5 ["rowsums","wide","many"] ["rowsums"] (ae (dr 36)):=fh
def jg(K:Pk)(a:Ad):QF K a 2 "check_wide" a.Bm a.Bn ["rowsums"] 1:=⟨_,λN=>by
 exact g0 3 (N.1 24) fN λb A w s H E c=>ac (aC (eo 1 fN.nd (ak)))
   (ac (bE ay (bp bW rfl (aX (vv 0)) (d_ 2 fN.nd) (ah (qx xH (mH (i:=1) fN.nd rfl (by first|exact RH rfl|exact Tc rfl) (aD aF bq (vv 2) (ak)) xK)))))
   (ah (bZ (bu oq sj (vv 1) (l8 (N.1 3))) (ah (dL)) (bA))))⟩
theorem gX:b5 ["rowsums","columnsums","bounds","settled"] ["rowsums","columnsums","bounds"] (ae (dr 37)):=fh
def dG(K:Pk)(a:Ad):QF K a 4 "settled_for_net" a.Bo a.Bp ["rowsums","columnsums","bounds"] 3:=⟨_,λN=>by
 exact g0 4 (N.1 25) gX λc A w s H E b=>ac (dM (bL (vc ((jh K a).2 N) b (ee (vv 0) (vv 1)))))
   (ac (aC (eo 3 gX.nd (vc ((cV K a).2 N) b (lp (vv 2) (ck N.Er (d4 (vv 0))) (ck N.Er (d4 (vv 1)))))))
   (ac (dM (bL (vc ((jg K a).2 N) b (d4 (vv 0)))))
   (ah (aE (au (vv 3))))))⟩
theorem mv:b5 ["rests","columnsums","bounds","column"] ["rests","columnsums","bounds","column"] (ae (dr 38)):=fh
def b9(K:Pk)(a:Ad):QF K a 3 "column_fillings" a.Bq a.Br ["rests","columnsums","bounds","column"] 4:=⟨_,λN=>by
 exact g0 4 (N.1 26) mv λb A w s H E c=>ah (aE (au (vc ((lA K a).2 N) c (lp (vv 0) (bn aG br (vv 1) (vv 3)) (bh rfl (iv ["pairs","column"] ["pairs"] [3]) (aX (vv 2)) (λG C d s H=>⟨(d_ 0 f_),aS,λD=>aP rfl (bn aG br (vv 0) (vv 1)) rfl⟩) ar ax (λD=>aQ))))))⟩
theorem qm:b5 ["rests","counts"] ["rests","counts"] (ae (dr 39)):=fh
def cQ(K:Pk)(a:Ad):QF K a 2 "rests_behind" a.Bs a.Bt ["rests","counts"] 2:=⟨_,λN=>by
 exact g0 2 (N.1 27) qm λb A w s H E c=>ah (aE (au (cj d9 kN (by rfl) N.E3 Boot.«tuple» (d4 (bh rfl (iv ["rest","count"] ["rest","count"] []) (oH (by rfl) N.E4 (ee (vv 0) (vv 1))) (λG C d s H=>⟨(bv rfl (aq (d_ 0 f_) (aq (d_ 1 f_) bf))),aS,λD=>aP rfl (aD gl iP (vv 0) (vv 1)) rfl⟩) (dQ (aW ar (aW ar cS)) (aU (aU cm))) (dJ (aV ax (aV ax cP))) (λD=>aQ))))))⟩
theorem b8:b5 ["rowsums","columnsums","bounds","here","told","column","behind"] ["rowsums","columnsums","bounds"] (ae (dr 40)):=fh
def fV(K:Pk)(a:Ad):QF K a 4 "nodes_by_level" a.Bu a.Bv ["rowsums","columnsums","bounds"] 3:=⟨_,λN=>by
 exact g0 7 (N.1 28) b8 λc A w s H E b=>ac (aC (eo 3 b8.nd (e8 (d4 (cj d9 kN (by rfl) N.E3 Boot.«tuple» (d4 (vv 0)))))))
   (ac (ut (eo 4 b8.nd (hZ (d4 (vv 3)))))
   (ac (bE ay (bp bW rfl (cy (by rfl) N.Ev (d4 (ck N.Er (d4 (vv 1))))) (d_ 5 b8.nd) (ac (aC (eo 6 b8.nd (Ff (by rfl) N.Ex rfl (iv ["rests","counts","columnsums","bounds","column"] ["rests","counts"] [1,2,5]) (aX (vv 3)) (λG C d s H=>⟨(d_ 0 f_),aS,λD=>sd rfl rfl rfl (aX (vc ((b9 K a).2 N) b (t_ (vv 0) (vv 2) (vv 3) (vv 4)))) (d_ 1 f_) (aS) (vE (uJ b) rfl (vc ((cQ K a).2 N) b (ee (vv 0) (vv 1))) rfl)⟩) ar ax (λD=>pM ar ax (Gs)))))
   (ac (uu (bL (uA Td S5 S6 jU (pv 4) (d4 (vv 6)))))
   (ah (aC (eo 3 b8.nd (vv 6))))))))
   (ah (aE (au (vv 4))))))⟩
theorem bR:b5 ["rests","filled","behind","tables","dealings","counts","tables_behind","dealings_behind"] ["rests","filled","behind"] (ae (dr 41)):=fh
def ix(K:Pk)(a:Ad):QF K a 4 "node_counts" a.Bw a.Bx ["rests","filled","behind"] 3:=⟨_,λN=>by
 exact g0 8 (N.1 29) bR λc A w s H E b=>ac (aC (eo 3 bR.nd (ak)))
   (ac (aC (eo 4 bR.nd (ak)))
   (ac (bE ay (bp bW rfl (aX (vv 1)) (d_ 5 bR.nd) (ac (lx (dP (aN ay (aN ay cR)) (aM (aM cq))) (dy (bn (v3 (ZT b)) HQ (vv 2) (vc ((cQ K a).2 N) b (ee (vv 0) (vv 5)))) (bv rfl (aq (d_ 6 bR.nd) (aq (d_ 7 bR.nd) bf)))))
   (ac (qx xI (mH (i:=3) bR.nd rfl (by first|exact RH rfl|exact Tc rfl) (vv 6) DK))
   (ah (qx xI (mH (i:=4) bR.nd rfl (by first|exact RH rfl|exact Tc rfl) (aD cc dH (vc ((qC K a).2 N) b (d4 (vv 5))) (vv 7)) DK)))))))
   (ah (aE (au (bQ (ee (vv 3) (vv 4))))))))⟩
theorem bG:b5 ["rowsums","columnsums","bounds","levels","last","here","told","level","behind"] ["rowsums","columnsums","bounds"] (ae (dr 42)):=fh
def eJ(K:Pk)(a:Ad):QF K a 5 "counted_nodes" a.By a.Bz ["rowsums","columnsums","bounds"] 3:=⟨_,λN=>by
 exact g0 9 (N.1 30) bG λe A w s H E c=>ac (aC (eo 3 bG.nd (vc ((fV K a).2 N) c (lp (vv 0) (vv 1) (vv 2)))))
   (ac (aC (eo 4 bG.nd (ck N.Er (d4 (vv 1)))))
   (ac (BB (kb:=OW) (i:=5) bG.nd rfl (by first|exact RH rfl|exact Tc rfl) rfl (iv ["rests"] ["rests"] []) (aX (bn aG br (vv 3) (vv 4))) (λG C d s H=>⟨(d_ 0 f_),aS,λD=>lD (b:=OW) (uJ c) rfl (vv 0) (bQ (ee (ak) (ak))) rfl⟩) ar ax (λD=>pO))
   (ac (ut (eo 6 bG.nd (hZ (d4 (vv 5)))))
   (ac (bE ay (bp bW rfl (GG (by rfl) N.Ew (by rfl) N.Ev (d4 (vv 4))) (d_ 7 bG.nd) (ac (aC (eo 8 bG.nd (vv 5)))
   (ac (BB (kb:=OW) (i:=5) bG.nd rfl (by first|exact RH rfl|exact Tc rfl) rfl (iv ["rests","columnsums","bounds","level","behind"] ["rests"] [1,2,7,8]) (aX (bn aG br (vv 3) (vv 7))) (λG C d s H=>⟨(d_ 0 f_),aS,λD=>lD (b:=OW) (uJ c) rfl (vv 0) (vc ((ix K a).2 N) c (lp (vv 0) (vc ((b9 K a).2 N) c (t_ (vv 0) (vv 1) (vv 2) (vv 3))) (vv 4))) rfl⟩) ar ax (λD=>pO))
   (ah (uu (bL (uA Td S5 S6 jU (pv 6) (d4 (vv 5))))))))))
   (ah (aE (au (IH (kb:=OT) rfl (iv ["level","nodes","rests","counts"] ["level","nodes","rests","counts"] []) (mZ (by rfl) N.En (d4 (M9 (vv 6) (v_un Kn NU (ak))))) (λG C d s H=>⟨(bv rfl (aq (d_ 0 f_) (aq (d_ 1 f_) bf))),aS,λD=>sd rfl rfl rfl (xN (vv 1)) (bv rfl (aq (d_ 2 f_) (aq (d_ 3 f_) bf))) (aS) (lD (b:=OT) (uJ c) rfl (bQ (ee (vv 0) (vv 2))) (vv 3) rfl)⟩) (dQ (aW ar (aW ar cS)) (aU (aU cm))) (dJ (aV ax (aV ax cP))) (λD=>pM (dQ (aW ar (aW ar cS)) (aU (aU cm))) (dJ (aV ax (aV ax cP))) (pO))))))))))⟩
theorem rP:b5 ["self"] ["self"] (ae (di (dr 43) 3)):=fh
def fQ(K:Pk)(a:Ad):QM K a 2 a.D8 a.D9 ["self"] 1:=⟨_,λN=>by
 exact m7 (k:=1) 1 1 _ (N.1 65) rP rfl rfl λb A w s H E c=>ah (aE (au (cj cZ jt (by rfl) N.Es Boot.«list» (d4 (k7 (N.1 77) (N.1 82) (vv 0))))))⟩
theorem oW:b5 ["self"] ["self"] (ae (di (dr 43) 4)):=fh
def fX(K:Pk)(a:Ad):QM K a 2 a.Ea a.Eb ["self"] 1:=⟨_,λN=>by
 exact m7 (k:=1) 1 1 _ (N.1 68) oW rfl rfl λb A w s H E c=>ah (aE (au (cj cZ jt (by rfl) N.Es Boot.«list» (d4 (k7 (N.1 77) (N.1 79) (vv 0))))))⟩
theorem fU:b5 ["net","cell","row","column"] ["net","cell"] (ae (dr 45)):=fh
def bM(K:Pk)(a:Ad):QF K a 6 "check_cell_of" a.B0 a.B5 ["net","cell"] 2:=⟨_,λN=>by
 exact g0 4 (N.1 31) fU λc A w s H E b=>ac (lx (dP (aN ay (aN ay cR)) (aM (aM cq))) (dy (vv 1) (bv rfl (aq (d_ 2 fU.nd) (aq (d_ 3 fU.nd) bf)))))
   (ah (dM (bL (vc ((eU K a).2 N) b (t_ (vv 2) (vv 3) (ck N.Er (d4 (kz (N.1 77) (N.1 66) ((fQ K a).2 N) (b.mono (by decide)) (eK.nil (N.1 67)) gQ (vv 0) rfl))) (ck N.Er (d4 (kz (N.1 77) (N.1 69) ((fX K a).2 N) (b.mono (by decide)) (eK.nil (N.1 70)) gQ (vv 0) rfl))))))))⟩
theorem j8:b5 ["cell","level","counts","row","column"] ["cell","level","counts"] (ae (dr 46)):=fh
def iK(K:Pk)(a:Ad):QF K a 2 "count_in" a.B7 a.B8 ["cell","level","counts"] 3:=⟨_,λN=>by
 exact g0 5 (N.1 32) j8 λb A w s H E c=>ac (lx (dP (aN ay (aN ay cR)) (aM (aM cq))) (dy (vv 0) (bv rfl (aq (d_ 3 j8.nd) (aq (d_ 4 j8.nd) bf)))))
   (ah (aE (au (Kj (bu (dO c) ff (vv 4) (vv 1)) (bn aG br (vv 2) (vv 3)) (ak)))))⟩
theorem gY:b5 ["found","here","there","many","dealings","ones","others","products"] ["found","here","there","many"] (ae (dr 47)):=fh
def pI(K:Pk)(a:Ad):QF K a 2 "put_to" a.Ca a.Cb ["found","here","there","many"] 4:=⟨_,λN=>by
 exact g0 8 (N.1 33) gY λb A w s H E c=>ac (lx (dP (aN ay (aN ay (aN ay (aN ay cR)))) (aM (aM (aM (aM cq))))) (dy (vv 0) (bv rfl (aq (d_ 4 gY.nd) (aq (d_ 5 gY.nd) (aq (d_ 6 gY.nd) (aq (d_ 7 gY.nd) bf)))))))
   (ah (aE (au (bQ (t_ (aD cc dH (vv 3) (vv 4)) (aD cc dH (vv 3) (aD aF bq (vv 5) (aD cc dH (vv 1) (vv 4)))) (aD cc dH (vv 3) (aD aF bq (vv 6) (aD cc dH (vv 2) (vv 4)))) (aD cc dH (vv 3) (aD aF bq (aD aF bq (aD aF bq (vv 7) (aD cc dH (vv 1) (vv 6))) (aD cc dH (vv 2) (vv 5))) (aD cc dH (aD cc dH (vv 1) (vv 2)) (vv 4)))))))))⟩
theorem ui:b5 ["found","more"] ["found","more"] (ae (dr 48)):=fh
def jf(K:Pk)(a:Ad):QF K a 2 "sums_added" a.Cc a.Cd ["found","more"] 2:=⟨_,λN=>by
 exact g0 2 (N.1 34) ui λb A w s H E c=>ah (aE (au (cj d9 kN (by rfl) N.E3 Boot.«tuple» (d4 (bh rfl (iv ["one","other"] ["one","other"] []) (oH (by rfl) N.E4 (ee (vv 0) (vv 1))) (λG C d s H=>⟨(bv rfl (aq (d_ 0 f_) (aq (d_ 1 f_) bf))),aS,λD=>aP rfl (aD aF bq (vv 0) (vv 1)) rfl⟩) (dQ (aW ar (aW ar cS)) (aU (aU cm))) (dJ (aV ax (aV ax cP))) (λD=>aQ))))))⟩
theorem pB:b5 ["self","level","rests"] ["self","level","rests"] (ae (di (dr 43) 6)):=fh
def jP(K:Pk)(a:Ad):QM K a 2 a.Ee a.Ef ["self","level","rests"] 3:=⟨_,λN=>by
 exact m7 (k:=1) 3 3 _ (N.1 74) pB rfl rfl λb A w s H E c=>ah (aE (au (Hd (ZT c) (k7 (N.1 77) (N.1 80) (vv 0)) (ee (bQ (ee (vv 1) (vv 2))) (bQ (ee (ak) (ak)))))))⟩
theorem vb:b5 ["self","level","rests"] ["self","level","rests"] (ae (di (dr 43) 9)):=fh
def ki(K:Pk)(a:Ad):QM K a 4 a.Ec a.Ed ["self","level","rests"] 3:=⟨_,λN=>by
 exact m7 (k:=3) 3 3 _ (N.1 71) vb rfl rfl λd A w s H E b=>ac (bZ (md (uX (bu (xz (ZT b)) NT (bQ (ee (vv 1) (vv 2))) (k7 (N.1 77) (N.1 80) (vv 0))) (qc (bu (dO b) ff (vv 1) (ck N.Er (d4 (k7 (N.1 77) (N.1 79) (vv 0)))))))) (ah (aE (au (e8 (f9))))) (bA))
   (ah (aE (au (bh rfl (iv ["counts","self","level","rests"] ["counts"] [0,1,2]) (aX (vc ((b9 K a).2 N) b (t_ (vv 2) (k7 (N.1 77) (N.1 79) (vv 0)) (k7 (N.1 77) (N.1 81) (vv 0)) (vv 1)))) (λP C e s H=>⟨(d_ 0 f_),rb (bu oq sj (bn aG br (z0 (N.1 77) (N.1 75) ((jP K a).2 N) (b.mono (by decide)) (eK.nil (N.1 76)) oj (vv 1) (ee (aD aF bq (vv 2) (ak)) (vc ((cQ K a).2 N) b (ee (vv 3) (vv 0)))) (λG M r c h=>by rw[(bJ (bJ T_)) G M r c h];rfl)) (ak)) (ak)),λD=>aP rfl (vv 0) rfl⟩) ar ax (λD=>aQ)))))⟩
theorem cr:b5 ["net","one","other","level","sums","behind","rests","found","counts","node","more"] ["net","one","other","level","sums"] (ae (dr 49)):=fh
def iw(K:Pk)(a:Ad):QF K a 5 "sums_behind" a.Cf a.Cg ["net","one","other","level","sums"] 5:=⟨_,λN=>by
 exact g0 11 (N.1 35) cr λe A w s H E c=>ac (Nq (eo 5 cr.nd (vD (b:=OW))))
   (ac (bE (dP (aN ay (aN ay cR)) (aM (aM cq))) (bp bW rfl (xN (vv 4)) (bv rfl (aq (d_ 6 cr.nd) (aq (d_ 7 cr.nd) bf))) (ah (bE ay (bp bW rfl (aX (z0 (N.1 77) (N.1 72) ((ki K a).2 N) (c.mono (by decide)) (eK.nil (N.1 73)) gQ (vv 0) (ee (vv 3) (vv 6)) (λD G r d h=>by rw[(bJ (bJ T_)) D G r d h];rfl))) (d_ 8 cr.nd) (ac (aC (eo 9 cr.nd (vc ((cQ K a).2 N) c (ee (vv 6) (vv 8)))))
   (ac (aC (eo 10 cr.nd (vc ((pI K a).2 N) c (t_ (vv 7) (vc ((iK K a).2 N) c (lp (vv 1) (vv 3) (vv 8))) (vc ((iK K a).2 N) c (lp (vv 2) (vv 3) (vv 8))) (vc ((qC K a).2 N) c (d4 (vv 8)))))))
   (ah (KV (dy (vc ((jf K a).2 N) c (ee (Hd (ZT c) (vv 5) (ee (vv 9) (bQ (t_ (ak) (ak) (ak) (ak))))) (vv 10))) (jj (pv 5) (vv 9) (u8 (ZT c)))))))))))))
   (ah (aE (au (vv 5)))))⟩
theorem c5:b5 ["net","one","other","sums","level"] ["net","one","other"] (ae (dr 50)):=fh
def dn(K:Pk)(a:Ad):QF K a 6 "sums_over_tables" a.Ch a.Ci ["net","one","other"] 3:=⟨_,λN=>by
 exact g0 5 (N.1 36) c5 λd A w s H E c=>ac (aC (eo 3 c5.nd (II (b:=OW) (ZT c) (cj d9 kN (by rfl) N.E3 Boot.«tuple» (d4 (kz (N.1 77) (N.1 66) ((fQ K a).2 N) (c.mono (by decide)) (eK.nil (N.1 67)) gQ (vv 0) rfl))) (bQ (t_ (ak) (ak) (ak) (ak))))))
   (ac (bE ay (bp bW rfl (cy (by rfl) N.Ev (d4 (ck N.Er (d4 (kz (N.1 77) (N.1 69) ((fX K a).2 N) (c.mono (by decide)) (eK.nil (N.1 70)) gQ (vv 0) rfl))))) (d_ 4 c5.nd) (ah (aC (eo 3 c5.nd (vc ((iw K a).2 N) c (eZ (vv 0) (eZ (vv 1) (eZ (vv 2) (eZ (vv 4) (eZ (vv 3) (f9))))))))))))
   (ah (aE (au (bn (v3 (ZT c)) HQ (vv 3) (cj d9 kN (by rfl) N.E3 Boot.«tuple» (d4 (bh rfl (iv ["row"] ["row"] []) (aX (kz (N.1 77) (N.1 66) ((fQ K a).2 N) (c.mono (by decide)) (eK.nil (N.1 67)) gQ (vv 0) rfl)) (λG C e s H=>⟨(d_ 0 f_),aS,λD=>aP rfl (ak) rfl⟩) ar ax (λD=>aQ)))))))))⟩
theorem iQ:b5 ["net","row","column","cell","dealings","ones","others","products"] ["net","row","column"] (ae (dr 51)):=fh
def hG(K:Pk)(a:Ad):QF K a 7 "mean" a.Cj a.Ck ["net","row","column"] 3:=⟨_,λN=>by
 exact g0 8 (N.1 37) iQ λc A w s H E b=>ac (aC (eo 3 iQ.nd (bQ (ee (vv 1) (vv 2)))))
   (ac (dM (bL (vc ((bM K a).2 N) b (ee (vv 0) (vv 3)))))
   (ac (lx (dP (aN ay (aN ay (aN ay (aN ay cR)))) (aM (aM (aM (aM cq))))) (dy (vc ((dn K a).2 N) b (lp (vv 0) (vv 3) (vv 3))) (bv rfl (aq (d_ 4 iQ.nd) (aq (d_ 5 iQ.nd) (aq (d_ 6 iQ.nd) (aq (d_ 7 iQ.nd) bf)))))))
   (ah (aE (au (vc ((ly K a).2 N) b (ee (vv 5) (vv 4))))))))⟩
theorem eM:b5 ["net","one","other","dealings","ones","others","products"] ["net","one","other"] (ae (dr 52)):=fh
def bx(K:Pk)(a:Ad):QF K a 7 "pair_mean" a.Cl a.Cm ["net","one","other"] 3:=⟨_,λN=>by
 exact g0 7 (N.1 38) eM λc A w s H E b=>ac (dM (bL (vc ((bM K a).2 N) b (ee (vv 0) (vv 1)))))
   (ac (dM (bL (vc ((bM K a).2 N) b (ee (vv 0) (vv 2)))))
   (ac (lx (dP (aN ay (aN ay (aN ay (aN ay cR)))) (aM (aM (aM (aM cq))))) (dy (vc ((dn K a).2 N) b (lp (vv 0) (vv 1) (vv 2))) (bv rfl (aq (d_ 3 eM.nd) (aq (d_ 4 eM.nd) (aq (d_ 5 eM.nd) (aq (d_ 6 eM.nd) bf)))))))
   (ah (aE (au (vc ((ly K a).2 N) b (ee (vv 6) (vv 3))))))))⟩
theorem AX:b5 ["_law_found","_law_due"] ["_law_found","_law_due"] (ae (dr 56)):=fh
def gF(K:Pk)(a:Ad)(b:a0c->M D):G:=
  aJ (B_ (wk (aT uH (aj (ao 1) (aj (aT fR (aj (fC (.ty "list")) (aj (fC (.ty "tuple")) (aK)))) (aK))))) (aJ (B_ (su (fB (f2 (kj) (aT jv (aj (ao 1) (aj (fC (.ty "list")) (aK)))) (aT jv (aj (ao 0) (aj (fC (.ty "list")) (aK)))))) (fB (f2 (kj) (aT jv (aj (ao 1) (aj (fC (.ty "tuple")) (aK)))) (aT jv (aj (ao 0) (aj (fC (.ty "tuple")) (aK))))))) (jw (fC (.bl OW))) (gNil))
  (aJ (B_ (fB (f2 (kj) (aT fA (aj (ao 0) (aK))) (aT fA (aj (ao 1) (aK))))) (jw (fC (.bl OW))) (gNil))
  (jw (f2 (ZS OT) (fC (.bl OW)) (c7 2 [] (yO (aj (ao 0) (aj (ao 1) (aK)))) (X_ (fS (hU 0) (fS (hU 1) k8))) (λ_=>M.ret OT) (lk (d7 b (aj (ao 0) (aj (ao 1) (aK)))))))))) (gNil))
  (aJ (B_ (fB (f2 (zg) (ao 1) (fC .non))) (jw (f2 (zg) (ao 0) (fC .non))) (gNil))
  (aJ (B_ (su (fB (f2 (kj) (aT jv (aj (ao 1) (aj (fC (.ty "str")) (aK)))) (aT jv (aj (ao 0) (aj (fC (.ty "str")) (aK)))))) (fB (f2 (kj) (aT jv (aj (ao 1) (aj (fC (.ty "bool")) (aK)))) (aT jv (aj (ao 0) (aj (fC (.ty "bool")) (aK))))))) (jw (fC (.bl OW))) (gNil))
  (jw (lS (aT uH (aj (ao 0) (aj (aT fR (aj (fC (.ty "int")) (aj (fC (.ty "str")) (aK)))) (aK)))) (f2 (pS) (ao 0) (ao 1))))))
def dD(K:Pk)(a:Ad):Nat->a0c->M D
 |0=>λ_=>M.fail
 |n+1=>fq 2 (gF K a (dD K a n))
theorem qL(N:xr K mg a):∀n,et P w K mg aa (gs P w) (n+1) a.Cr a.Cs ["_law_found","_law_due"] (Im K 2 (dD K a n))
 |0=>⟨λS H Q E h=>h.1,λA G s H M p S Q E c i j r h=>by
  obtain⟨_,F,q,t,_,_,l,V,e,_⟩:=h;cases e⟩
 |n+1=>by
  have f:=qL N n;unfold dD;exact m7 (k:=n+1) 2 2 (gF K a (dD K a n)) (N.1 41).F AX rfl rfl λg A G s H E c=>ac (bZ (k9 (bO rn DD (by rfl) N.Ep Boot.«isinstance» (ee (vv 1) (bQ (ee (ss (d:= .ty "list") (dg (v:= .ty "list") (by rfl) N.Es Boot.«list» rfl) (λ_ _=>rfl)) (ss (d:= .ty "tuple") (dg (v:= .ty "tuple") (by rfl) N.E3 Boot.«tuple» rfl) (λ_ _=>rfl))))))) (ac (bZ (md (uX (bu (h9 c) jY (ma N.Ep (ee (vv 1) (ss (d:= .ty "list") (dg (v:= .ty "list") (by rfl) N.Es Boot.«list» rfl) (λ_ _=>rfl)))) (ma N.Ep (ee (vv 0) (ss (d:= .ty "list") (dg (v:= .ty "list") (by rfl) N.Es Boot.«list» rfl) (λ_ _=>rfl))))) (qc (bu (h9 c) jY (ma N.Ep (ee (vv 1) (ss (d:= .ty "tuple") (dg (v:= .ty "tuple") (by rfl) N.E3 Boot.«tuple» rfl) (λ_ _=>rfl)))) (ma N.Ep (ee (vv 0) (ss (d:= .ty "tuple") (dg (v:= .ty "tuple") (by rfl) N.E3 Boot.«tuple» rfl) (λ_ _=>rfl)))))))) (ah (aE (au (ph)))) (bA))
   (ac (bZ (bu (h9 c) jY (ck N.Er (d4 (vv 0))) (ck N.Er (d4 (vv 1)))) (ah (aE (au (ph)))) (bA))
   (ah (aE (au (gH mJ (Gz (neg:=OT)) (ph) (bh rfl (iv ["_law_one","_law_other"] ["_law_one","_law_other"] []) (oH (by rfl) N.E4 (ee (vv 0) (vv 1))) (λu C o s H=>⟨(bv rfl (aq (d_ 0 f_) (aq (d_ 1 f_) bf))),aS,λD=>aP rfl (z5 f (c.mono (O5 _)) (by rfl) (N.1 41).m (N.1 41).F.kp (N.1 41).b oj (ee (vv 0) (vv 1)) (bJ (bJ T_))) rfl⟩) (dQ (aW ar (aW ar cS)) (aU (aU cm))) (dJ (aV ax (aV ax cP))) (λD=>aQ)))))))) (bA))
   (ac (bZ (bu vF y6 (vv 1) (ye)) (ah (aE (au (gH vF y6 (vv 0) (ye))))) (bA))
   (ac (bZ (md (uX (bu (h9 c) jY (ma N.Ep (ee (vv 1) (ss (d:= .ty "str") (dg (v:= .ty "str") (by rfl) N.Ey Boot.«str» rfl) (λ_ _=>rfl)))) (ma N.Ep (ee (vv 0) (ss (d:= .ty "str") (dg (v:= .ty "str") (by rfl) N.Ey Boot.«str» rfl) (λ_ _=>rfl))))) (qc (bu (h9 c) jY (ma N.Ep (ee (vv 1) (ss (d:= .ty "bool") (dg (v:= .ty "bool") (by rfl) N.Em Boot.«bool» rfl) (λ_ _=>rfl)))) (ma N.Ep (ee (vv 0) (ss (d:= .ty "bool") (dg (v:= .ty "bool") (by rfl) N.Em Boot.«bool» rfl) (λ_ _=>rfl)))))))) (ah (aE (au (ph)))) (bA))
   (ah (aE (au (yf (bO rn DD (by rfl) N.Ep Boot.«isinstance» (ee (vv 0) (bQ (ee (ss (d:= .ty "int") (dg (v:= .ty "int") (by rfl) N.Eo Boot.«int» rfl) (λ_ _=>rfl)) (ss (d:= .ty "str") (dg (v:= .ty "str") (by rfl) N.Ey Boot.«str» rfl) (λ_ _=>rfl)))))) (Hc (gH (dO c) ff (vv 0) (vv 1)))))))))
theorem mK(N:xr K mg a):FB P w K mg aa 7 "_law_same" a.Cr a.Cs ["_law_found","_law_due"] 2 (dD K a 5):=⟨(qL N 5).mono (by decide),(N.1 41).m,(N.1 41).F.kp,(N.1 41).b⟩
theorem gZ:b5 ["_law_bag_here","_law_block","_law_columns","_law_things","_law_grid_here","_law_thing","_law_at","_law_to"] ["_law_bag_here","_law_block","_law_columns","_law_things"] (ae (dr 57)):=fh
def fW(K:Pk)(a:Ad):QF K a 3 "_law_grid" a.Ct a.Cu ["_law_bag_here","_law_block","_law_columns","_law_things"] 4:=⟨_,λN=>by
 exact g0 8 (N.1 42) gZ λc A w s H E b=>ac (KR (i:=4) gZ.nd rfl (by first|exact RH rfl|exact Tc rfl) rfl (iv ["_law_row","_law_columns"] ["_law_row"] [2]) (cy (by rfl) N.Ev (d4 (vv 1))) (λG C d s H=>⟨(d_ 0 f_),aS,λD=>aP rfl (NJ (d4 (ak)) (vv 1)) rfl⟩) ar ax (λD=>xF))
   (ac (bE ay (bp bW rfl (cy (by rfl) N.Ev (d4 (vv 3))) (d_ 5 gZ.nd) (ac (aC (eo 6 gZ.nd (vc (bc N) b (ee (vv 0) (vv 1)))))
   (ac (aC (eo 7 gZ.nd (vc (bc N) b (ee (vv 0) (vv 2)))))
   (ah (vo (dy (aD aF bq (bn aG br (bn aG br (vv 4) (vv 6)) (vv 7)) (ak)) (jj (gN eD (pv 4) (vv 6) (λ_ _=>rfl)) (vv 7) gy))))))))
   (ah (aE (au (vv 4)))))⟩
theorem iG:b5 ["_law_bag_here","_law_way","_law_block","_law_columns"] ["_law_bag_here"] (ae (dr 58)):=fh
def jO(K:Pk)(a:Ad):QF K a 4 "_law_small" a.Cv a.Cw ["_law_bag_here"] 1:=⟨_,λN=>by
 exact g0 4 (N.1 43) iG λc A w s H E b=>ac (aC (eo 1 iG.nd (vc (bc N) b (ee (vv 0) (ak)))))
   (ac (bZ (bu (dO b) ff (vv 1) (ak)) (ah (aE (au (vc ((fW K a).2 N) b (t_ (vv 0) (ak) (ak) (vc (bc N) b (ee (vv 0) (ak)))))))) (bA))
   (ac (bZ (bu (dO b) ff (vv 1) (ak)) (ah (aE (au (vc ((fW K a).2 N) b (t_ (vv 0) (ak) (aD aF bq (ak) (vc (bc N) b (ee (vv 0) (ak)))) (vc (bc N) b (ee (vv 0) (ak)))))))) (bA))
   (ac (bZ (bu (dO b) ff (vv 1) (ak)) (ah (aE (au (vc ((fW K a).2 N) b (t_ (vv 0) (aD aF bq (ak) (vc (bc N) b (ee (vv 0) (ak)))) (ak) (vc (bc N) b (ee (vv 0) (ak)))))))) (bA))
   (ac (aC (eo 2 iG.nd (aD aF bq (ak) (vc (bc N) b (ee (vv 0) (ak))))))
   (ac (aC (eo 3 iG.nd (aD aF bq (ak) (vc (bc N) b (ee (vv 0) (ak))))))
   (ah (aE (au (vc ((fW K a).2 N) b (t_ (vv 0) (vv 2) (vv 3) (vc (bc N) b (ee (vv 0) (ak)))))))))))))⟩
theorem wJ:b5 ["_law_block"] ["_law_block"] (ae (dr 59)):=fh
def qE(K:Pk)(a:Ad):QF K a 2 "_law_turned" a.Cy a.Cz ["_law_block"] 1:=⟨_,λN=>by
 exact g0 1 (N.1 44) wJ λb A w s H E d=>ah (aE (au (bh rfl (iv ["_law_to","_law_block"] ["_law_to"] [0]) (cy (by rfl) N.Ev (d4 (ck N.Er (d4 (bn aG br (vv 0) (ak)))))) (λG C c s H=>⟨(d_ 0 f_),aS,λD=>aP rfl (bh rfl (iv ["_law_row","_law_to"] ["_law_row"] [0]) (aX (vv 1)) (λG C c s H=>⟨(d_ 0 f_),aS,λD=>aP rfl (bn aG br (vv 0) (vv 1)) rfl⟩) ar ax (λD=>aQ)) rfl⟩) ar ax (λD=>aQ))))⟩
theorem va:b5 ["_law_grid_here"] ["_law_grid_here"] (ae (dr 60)):=fh
def kg(K:Pk)(a:Ad):QF K a 2 "_law_rowsums" a.C0 a.C2 ["_law_grid_here"] 1:=⟨_,λN=>by
 exact g0 1 (N.1 45) va λb A w s H E c=>ah (aE (au (bh rfl (iv ["_law_row"] ["_law_row"] []) (aX (vv 0)) (λG C d s H=>⟨(d_ 0 f_),aS,λD=>aP rfl (gb N.Ez (d4 (vv 0))) rfl⟩) ar ax (λD=>aQ))))⟩
theorem qp:b5 ["_law_grid_here"] ["_law_grid_here"] (ae (dr 61)):=fh
def gB(K:Pk)(a:Ad):QF K a 3 "_law_columnsums" a.C3 a.C4 ["_law_grid_here"] 1:=⟨_,λN=>by
 exact g0 1 (N.1 46) qp λb A w s H E c=>ah (aE (au (bh rfl (iv ["_law_column"] ["_law_column"] []) (aX (vc ((qE K a).2 N) c (d4 (vv 0)))) (λG C d s H=>⟨(d_ 0 f_),aS,λD=>aP rfl (gb N.Ez (d4 (vv 0))) rfl⟩) ar ax (λD=>aQ))))⟩
theorem AZ:b5 ["_law_block","_law_columns"] ["_law_block","_law_columns"] (ae (dr 62)):=fh
def tM(K:Pk)(a:Ad):G:=
  m5 (jx 1 [1] (dz gz (aj (ao 0) (aK))) (hU 0) (λ_=>M.ret OT) (wD (ii 1 [] (dz gz (aj (ao 1) (aK))) (hU 0) (λ_=>M.ret OT) (lk (aT fR (aj (fC (.int 0)) (aj (fC (.int 40)) (aK))))))))
def mM(K:Pk)(a:Ad):a0c->M a0u:=oO 2 (tM K a)
theorem yK(N:xr K mg a):et P w K mg aa (gs P w) 2 a.C5 a.C6 ["_law_block","_law_columns"] (spG K 2 (mM K a)):=by
 unfold mM;exact JZ (k:=1) 2 2 (tM K a) (N.1 47).F AZ rfl rfl λb A G s H E d=>ah (Ja (au (Mx rfl (iv ["_law_at","_law_columns"] ["_law_at"] [1]) (cy (by rfl) N.Ev (d4 (vv 0))) (λM C c s H=>⟨(d_ 0 f_),aS,λD=>aP rfl (LH rfl (iv ["_law_to"] ["_law_to"] []) (cy (by rfl) N.Ev (d4 (vv 1))) (λM C c s H=>⟨(d_ 0 f_),aS,λD=>aP rfl (bQ (ee (ak) (ak))) rfl⟩) ar ax (λD=>aQ)) rfl⟩) ar ax (λD=>xF))))
theorem dC:b5 ["_law_bag_here","_law_grid_here","_law_told","_law_at","_law_row","_law_to","_law_count","_law_way"] ["_law_bag_here","_law_grid_here"] (ae (dr 63)):=fh
def iJ(K:Pk)(a:Ad):QF K a 3 "_law_bounds" a.C7 a.C8 ["_law_bag_here","_law_grid_here"] 2:=⟨_,λN=>by
 exact g0 8 (N.1 48) dC λd A w s H E c=>ac (Hn (eo 2 dC.nd (Mz (yK N) (c.mono (by decide)) (by rfl) (N.1 47).m (N.1 47).F.kp (N.1 47).b gQ (ee (ck N.Er (d4 (vv 1))) (ck N.Er (d4 (bn aG br (vv 1) (ak))))) (bJ (bJ T_)))))
   (ac (bZ (bu (dO c) ff (vc (bc N) c (ee (vv 0) (ak))) (ak)) (ah (aE (au (vv 2)))) (bA))
   (ac (bE (dP (aN ay (aN ay cR)) (aM (aM cq))) (bp bW rfl (mZ (by rfl) N.En (d4 (vv 1))) (bv rfl (aq (d_ 3 dC.nd) (aq (d_ 4 dC.nd) bf))) (ah (bE (dP (aN ay (aN ay cR)) (aM (aM cq))) (bp bW rfl (mZ (by rfl) N.En (d4 (vv 4))) (bv rfl (aq (d_ 5 dC.nd) (aq (d_ 6 dC.nd) bf))) (ac (aC (eo 7 dC.nd (vc (bc N) c (ee (vv 0) (ak)))))
   (ac (bZ (bu (dO c) ff (vv 7) (ak)) (ah (vo (dy (bQ (ee (aD gl iP (vv 6) (vc (bc N) c (ee (vv 0) (aD aF bq (vv 6) (ak))))) (bO (j3 rfl) uG (by rfl) N.Eu Boot.«min» (ee (ak) (aD aF bq (vv 6) (vc (bc N) c (ee (vv 0) (ak)))))))) (jj (gN eD (pv 2) (vv 3) (λ_ _=>rfl)) (vv 5) gy)))) (bA))
   (ah (bZ (bu (dO c) ff (vv 7) (ak)) (ah (vo (dy (bQ (ee (ak) (bO (tZ rfl) HN (by rfl) N.Et Boot.«max» (ee (vv 6) (vc (bc N) c (ee (vv 0) (ak))))))) (jj (gN eD (pv 2) (vv 3) (λ_ _=>rfl)) (vv 5) gy)))) (bA))))))))))
   (ah (aE (au (vv 2))))))⟩
theorem wK:b5 ["_law_block"] ["_law_block"] (ae (dr 64)):=fh
def qF(K:Pk)(a:Ad):QF K a 2 "_law_copied" a.C9 a.Da ["_law_block"] 1:=⟨_,λN=>by
 exact g0 1 (N.1 49) wK λb A w s H E c=>ah (aE (au (bh rfl (iv ["_law_row"] ["_law_row"] []) (aX (vv 0)) (λG C d s H=>⟨(d_ 0 f_),aS,λD=>aP rfl (cj cZ jt (by rfl) N.Es Boot.«list» (d4 (vv 0))) rfl⟩) ar ax (λD=>aQ))))⟩
theorem eS:b5 ["_law_rests","_law_lot","_law_pairs","_law_found","_law_rest","_law_duo","_law_longer","_law_one","_law_count"] ["_law_rests","_law_lot","_law_pairs"] (ae (dr 65)):=fh
def rV(K:Pk)(a:Ad):QF K a 2 "_law_fit" a.Db a.Dd ["_law_rests","_law_lot","_law_pairs"] 3:=⟨_,λN=>by
 exact g0 9 (N.1 50) eS λb A w s H E c=>ac (aC (eo 3 eS.nd (e8 (d4 (e8 (f9))))))
   (ac (bE (dP (aN ay (aN ay cR)) (aM (aM cq))) (bp bW rfl (oH (by rfl) N.E4 (ee (vv 0) (vv 2))) (bv rfl (aq (d_ 4 eS.nd) (aq (d_ 5 eS.nd) bf))) (ac (ut (eo 6 eS.nd (hZ (f9))))
   (ac (bE ay (bp bW rfl (aX (vv 3)) (d_ 7 eS.nd) (ah (bE ay (bp bW rfl (lN (by rfl) N.Ev (ee (bn aG br (vv 5) (ak)) (aD aF bq (bO (j3 rfl) uG (by rfl) N.Eu Boot.«min» (ee (bn aG br (vv 5) (ak)) (vv 4))) (ak)))) (d_ 8 eS.nd) (ah (uu (bL (uA Td S5 S6 jU (pv 6) (d4 (aD aF bq (vv 7) (e8 (d4 (vv 8))))))))))))))
   (KS 6 (ah (aC (eo 3 eS.nd (vv 6)))))))))
   (ah (aE (au (bh rfl (iv ["_law_one","_law_lot"] ["_law_one"] [1]) (aX (vv 3)) (λG C d s H=>⟨(d_ 0 f_),rb (bu (dO c) ff (gb N.Ez (d4 (vv 0))) (vv 1)),λD=>aP rfl (vv 0) rfl⟩) ar ax (λD=>aQ))))))⟩
theorem AY:b5 ["_law_rests","_law_column"] ["_law_rests","_law_column"] (ae (dr 66)):=fh
def pK(K:Pk)(a:Ad):QF K a 2 "_law_less" a.Df a.Dg ["_law_rests","_law_column"] 2:=⟨_,λN=>by
 exact g0 2 (N.1 51) AY λb A w s H E c=>ah (aE (au (bh rfl (iv ["_law_rest","_law_count"] ["_law_rest","_law_count"] []) (oH (by rfl) N.E4 (ee (vv 0) (vv 1))) (λG C d s H=>⟨(bv rfl (aq (d_ 0 f_) (aq (d_ 1 f_) bf))),aS,λD=>aP rfl (aD gl iP (vv 0) (vv 1)) rfl⟩) (dQ (aW ar (aW ar cS)) (aU (aU cm))) (dJ (aV ax (aV ax cP))) (λD=>aQ))))⟩
theorem bY:b5 ["_law_rowsums_here","_law_columnsums_here","_law_limits","_law_found","_law_to","_law_lot","_law_longer","_law_told","_law_rests","_law_column"] ["_law_rowsums_here","_law_columnsums_here","_law_limits"] (ae (dr 67)):=fh
def kh(K:Pk)(a:Ad):QF K a 3 "_law_listing" a.Dh a.Di ["_law_rowsums_here","_law_columnsums_here","_law_limits"] 3:=⟨_,λN=>by
 exact g0 10 (N.1 52) bY λc A w s H E b=>ac (aC (eo 3 bY.nd (e8 (d4 (bQ (ee (e8 (f9)) (cj cZ jt (by rfl) N.Es Boot.«list» (d4 (vv 0)))))))))
   (ac (bE (dP (aN ay (aN ay cR)) (aM (aM cq))) (bp bW rfl (mZ (by rfl) N.En (d4 (vv 1))) (bv rfl (aq (d_ 4 bY.nd) (aq (d_ 5 bY.nd) bf))) (ac (ut (eo 6 bY.nd (hZ (f9))))
   (ac (bE (dP (aN ay (aN ay cR)) (aM (aM cq))) (bp bW rfl (aX (vv 3)) (bv rfl (aq (d_ 7 bY.nd) (aq (d_ 8 bY.nd) bf))) (ah (bE ay (bp bW rfl (aX (vc ((rV K a).2 N) b (lp (vv 8) (vv 5) (bh rfl (iv ["_law_row","_law_to"] ["_law_row"] [4]) (aX (vv 2)) (λG C d s H=>⟨(d_ 0 f_),aS,λD=>aP rfl (bn aG br (vv 0) (vv 1)) rfl⟩) ar ax (λD=>aQ))))) (d_ 9 bY.nd) (ah (uu (bL (uA Td S5 S6 jU (pv 6) (d4 (bQ (ee (aD aF bq (vv 7) (e8 (d4 (vv 9)))) (vc ((pK K a).2 N) b (ee (vv 8) (vv 9)))))))))))))))
   (KS 6 (ah (aC (eo 3 bY.nd (vv 6)))))))))
   (ah (aE (au (bh rfl (iv ["_law_told","_law_rests"] ["_law_told","_law_rests"] []) (aX (vv 3)) (λG C d s H=>⟨(bv rfl (aq (d_ 0 f_) (aq (d_ 1 f_) bf))),aS,λD=>aP rfl (vv 0) rfl⟩) (dQ (aW ar (aW ar cS)) (aU (aU cm))) (dJ (aV ax (aV ax cP))) (λD=>aQ))))))⟩
theorem FC:b5 ["_law_grid_here","_law_limits"] ["_law_grid_here","_law_limits"] (ae (dr 68)):=fh
def rW(K:Pk)(a:Ad):QF K a 4 "_law_all" a.Dj a.Dl ["_law_grid_here","_law_limits"] 2:=⟨_,λN=>by
 exact g0 2 (N.1 53) FC λc A w s H E b=>ah (aE (au (vc ((kh K a).2 N) b (lp (vc ((kg K a).2 N) b (d4 (vv 0))) (vc ((gB K a).2 N) b (d4 (vv 0))) (vv 1)))))⟩
theorem fc:b5 ["_law_lot","_law_found","_law_k"] ["_law_lot"] (ae (dr 69)):=fh
def fP(K:Pk)(a:Ad):QF K a 2 "_law_factorial" a.Dm a.Do ["_law_lot"] 1:=⟨_,λN=>by
 exact g0 3 (N.1 54) fc λb A w s H E c=>ac (aC (eo 1 fc.nd (ak)))
   (ac (bE ay (bp bW rfl (lN (by rfl) N.Ev (ee (ak) (aD aF bq (vv 0) (ak)))) (d_ 2 fc.nd) (ah (aC (eo 1 fc.nd (aD cc dH (vv 1) (vv 2)))))))
   (ah (aE (au (vv 1)))))⟩
theorem jG:b5 ["_law_parts","_law_under","_law_part"] ["_law_parts"] (ae (dr 70)):=fh
def pJ(K:Pk)(a:Ad):QF K a 3 "_law_ways" a.Dp a.Dq ["_law_parts"] 1:=⟨_,λN=>by
 exact g0 3 (N.1 55) jG λc A w s H E b=>ac (aC (eo 1 jG.nd (ak)))
   (ac (bE ay (bp bW rfl (aX (vv 0)) (d_ 2 jG.nd) (ah (aC (eo 1 jG.nd (aD cc dH (vv 1) (vc ((fP K a).2 N) b (d4 (vv 2)))))))))
   (ah (aE (au (aD jl mU (vc ((fP K a).2 N) b (d4 (gb N.Ez (d4 (vv 0))))) (vv 1))))))⟩
theorem gJ:b5 ["_law_columns","_law_found","_law_column"] ["_law_columns"] (ae (dr 71)):=fh
def gf(K:Pk)(a:Ad):QF K a 4 "_law_weight" a.Dr a.Dt ["_law_columns"] 1:=⟨_,λN=>by
 exact g0 3 (N.1 56) gJ λb A w s H E c=>ac (aC (eo 1 gJ.nd (ak)))
   (ac (bE ay (bp bW rfl (aX (vv 0)) (d_ 2 gJ.nd) (ah (aC (eo 1 gJ.nd (aD cc dH (vv 1) (vc ((pJ K a).2 N) c (d4 (vv 2)))))))))
   (ah (aE (au (vv 1)))))⟩
theorem li:b5 ["_law_one","_law_other","_law_kept"] ["_law_one","_law_other"] (ae (dr 72)):=fh
def rT(K:Pk)(a:Ad):QF K a 2 "_law_gcd" a.Du a.Dv ["_law_one","_law_other"] 2:=⟨_,λN=>by
 exact g0 3 (N.1 57) li λb A w s H E c=>ac (xa bW (bu oq sj (vv 1) (ak)) (ac (aC (eo 2 li.nd (aD jk HM (vv 0) (vv 1))))
   (ac (aC (eo 0 li.nd (vv 1)))
   (ah (aC (eo 1 li.nd (vv 2)))))))
   (ah (aE (au (vv 0))))⟩
theorem oX:b5 ["_law_top","_law_under","_law_both"] ["_law_top","_law_under"] (ae (dr 73)):=fh
def gh(K:Pk)(a:Ad):QF K a 3 "_law_lowest" a.Dw a.Dx ["_law_top","_law_under"] 2:=⟨_,λN=>by
 exact g0 3 (N.1 58) oX λb A w s H E c=>ac (aC (eo 2 oX.nd (vc ((rT K a).2 N) c (ee (bO pX HR (by rfl) N.Ek Boot.«abs» (d4 (vv 0))) (vv 1)))))
   (ah (aE (au (bQ (ee (aD jl mU (vv 0) (vv 2)) (aD jl mU (vv 1) (vv 2)))))))⟩
theorem qo:b5 ["_law_bag_here","_law_grid_here","_law_at"] ["_law_bag_here","_law_grid_here"] (ae (dr 74)):=fh
def hX(K:Pk)(a:Ad):QF K a 3 "_law_place" a.Dy a.Dz ["_law_bag_here","_law_grid_here"] 2:=⟨_,λN=>by
 exact g0 3 (N.1 59) qo λc A w s H E b=>ac (aC (eo 2 qo.nd (vc (bc N) b (ee (vv 0) (ck N.Er (d4 (vv 1)))))))
   (ah (aE (au (bQ (ee (vv 2) (vc (bc N) b (ee (vv 0) (ck N.Er (d4 (bn aG br (vv 1) (ak)))))))))))⟩
theorem jI:b5 ["self","rowsums","columnsums","bounds","settled"] ["self","rowsums","columnsums","bounds"] (ae (di (dr 43) 0)):=fh
def v7(K:Pk)(a:Ad):IP:=
  oF (iB 4 (d7 (dG K a).1 (aj (ao 1) (aj (ao 2) (aj (ao 3) (aK))))))
  (oF (gR (d7 (fG K a).1 (aj (ao 1) (aj (ao 2) (aj (ao 4) (aK))))))
  (jZ (aT uD (aj (ao 1) (aK)))
  (jZ (aT uD (aj (ao 2) (aK)))
  (jZ (ao 4)
  (jZ (d7 (eJ K a).1 (aj (ao 1) (aj (ao 2) (aj (ao 4) (aK)))))
  (HY))))))
def qP(K:Pk)(a:Ad):a0c->M a0c:=oG 5 (v7 K a)
theorem Jw(N:xr K mg a):et P w K mg aa (gs P w) 6 a.D6 a.D7 ["self","rowsums","columnsums","bounds"] (spI K a.Ah ["row_list","column_list","pairs","counted"] 3 (qP K a)):=by
 unfold qP
 exact JY (k:=5) 3 5 (v7 K a) (N.1 62) jI rfl rfl λc A D s H E b=>Ib (aC (eo 4 jI.nd (vc ((dG K a).2 N) b (lp (vv 1) (vv 2) (vv 3)))))
   (Ib (dM (bL (vc ((fG K a).2 N) b (lp (vv 1) (vv 2) (vv 4)))))
   (uI (N.1 77) (N.1 82) (by decide) (by decide) (qJ (pv 0) (cj cZ jt (by rfl) N.Es Boot.«list» (d4 (vv 1))) rfl)
   (uI (N.1 77) (N.1 79) (by decide) (by decide) (qJ (pv 0) (cj cZ jt (by rfl) N.Es Boot.«list» (d4 (vv 2))) rfl)
   (uI (N.1 77) (N.1 81) (by decide) (by decide) (qJ (pv 0) (vv 4) rfl)
   (uI (N.1 77) (N.1 80) (by decide) (by decide) (qJ (pv 0) (vc ((eJ K a).2 N) b (lp (vv 1) (vv 2) (vv 4))) rfl)
   (Oq))))))
theorem Fz:b5 ["_law_grid_here","_law_limits"] ["_law_grid_here","_law_limits"] (ae (dr 75)):=fh
def rR(K:Pk)(a:Ad):QF K a 8 "_law_net" a.D0 a.D3 ["_law_grid_here","_law_limits"] 2:=⟨_,λN=>by
 exact g0 2 (N.1 60) Fz λc A w s H E b=>ah (aE (au (IG (N.1 63) (Jw N) (b.mono (by decide)) (by rfl) (N.1 78) (N.1 64) gQ (ee (vc ((kg K a).2 N) b (d4 (vv 0))) (vc ((gB K a).2 N) b (d4 (vv 0)))) (IB (vc ((qF K a).2 N) b (d4 (vv 1))) (Ki)) (bJ (bJ T_)) (bJ T_) rfl)))⟩
theorem eP:b5 ["_law_net_here","_law_cell","_law_other","_law_refused_here"] ["_law_net_here","_law_cell","_law_other"] (ae (dr 76)):=fh
def kr(K:Pk)(a:Ad):G:=
  aJ (iB 3 (fC (.int 0)))
  (aJ (lP (gR (d7 (hG K a).1 (aj (ao 0) (aj (f2 j0 (ao 1) (fC (.int 0))) (aj (f2 j0 (ao 1) (fC (.int 1))) (aK)))))) (pR K a.Ae (iB 3 (f2 iC (ao 3) (fC (.int 1)))) (hNo)))
  (aJ (lP (gR (d7 (bx K a).1 (aj (ao 0) (aj (ao 1) (aj (ao 2) (aK)))))) (pR K a.Ae (iB 3 (f2 iC (ao 3) (fC (.int 1)))) (hNo)))
  (aJ (lP (gR (d7 (bx K a).1 (aj (ao 0) (aj (ao 2) (aj (ao 1) (aK)))))) (pR K a.Ae (iB 3 (f2 iC (ao 3) (fC (.int 1)))) (hNo)))
  (jw (ao 3)))))
def kn(K:Pk)(a:Ad):a0c->M D:=fq 4 (kr K a)
theorem vG(N:xr K mg a):FB P w K mg aa 8 "_law_refused" a.D4 a.D5 ["_law_net_here","_law_cell","_law_other"] 3 (kn K a):=⟨by
 unfold kn
 exact m7 (k:=7) 3 4 (kr K a) (N.1 61).F eP rfl rfl λe A D s H E c=>ac (aC (eo 3 eP.nd (ak)))
   (ac (yy rfl rfl (λE G M d=>ah (dM (bL (vc ((hG K a).2 N) c (lp (vv 0) (bn aG br (vv 1) (ak)) (bn aG br (vv 1) (ak))))))) (wa (by rfl) (N.1 88) (λA=>ah (aC (eo 3 eP.nd (aD aF bq (vv 3) (ak))))) (zi)))
   (ac (yy rfl rfl (λE G M d=>ah (dM (bL (vc ((bx K a).2 N) c (lp (vv 0) (vv 1) (vv 2)))))) (wa (by rfl) (N.1 88) (λA=>ah (aC (eo 3 eP.nd (aD aF bq (vv 3) (ak))))) (zi)))
   (ac (yy rfl rfl (λE G M d=>ah (dM (bL (vc ((bx K a).2 N) c (lp (vv 0) (vv 2) (vv 1)))))) (wa (by rfl) (N.1 88) (λA=>ah (aC (eo 3 eP.nd (aD aF bq (vv 3) (ak))))) (zi)))
   (ah (aE (au (vv 3))))))),(N.1 61).m,(N.1 61).F.kp,(N.1 61).b⟩
theorem cg:b5 ["_law_script","_law_bag_here","_law_grid_here","_law_limits","_law_net_here","_law_one","_law_other","_law_told","_law_whole","_law_first","_law_both","_law_table","_law_heavy","_law_cell","_law_there"] ["_law_script"] (ae nZ):=fh
def qD(K:Pk)(a:Ad):{g:G//∀(P:PN) (w:PV) {mg:a0j} (aa:Qg) (N:xr K mg a) (f:OS) (c:OX) (A:Qn) (M:a0B) (s:O3) (H:Hp) (E:XK),ej 8 (A.deeper (Rows.envOfC "law" (ae nZ) s.heap.objs.size f c))->PSs (c9 (gs P w) P w K mg aa ["_law_script","_law_bag_here","_law_grid_here","_law_limits","_law_net_here","_law_one","_law_other","_law_told","_law_whole","_law_first","_law_both","_law_table","_law_heavy","_law_cell","_law_there"] "law" (ae nZ) f c A M s H E) (cz nZ).tail (tG K H g (λ_=>E))}:=⟨_,λP w mg aa N f c A M s H E b=>by
 exact ac (aC (eo 2 cg.nd (vc ((jO K a).2 N) b (d4 (vv 1)))))
   (ac (aC (eo 3 cg.nd (vc ((iJ K a).2 N) b (ee (vv 1) (vv 2)))))
   (ac (aC (eo 4 cg.nd (vc ((rR K a).2 N) b (ee (vv 2) (vv 3)))))
   (ac (aC (eo 5 cg.nd (vc ((hX K a).2 N) b (ee (vv 1) (vv 2)))))
   (ac (aC (eo 6 cg.nd (vc ((hX K a).2 N) b (ee (vv 1) (vv 2)))))
   (ac (bZ (bu (dO b) ff (vc (bc N) b (ee (vv 1) (ak))) (ak)) (ah (aC (eo 6 cg.nd (vv 5)))) (bA))
   (ac (aC (eo 7 cg.nd (vc ((rW K a).2 N) b (ee (vv 2) (vv 3)))))
   (ac (aC (eo 8 cg.nd (gb N.Ez (d4 (bh rfl (iv ["_law_table"] ["_law_table"] []) (aX (vv 7)) (λS C d s H=>⟨(d_ 0 f_),aS,λD=>aP rfl (vc ((gf K a).2 N) b (d4 (vv 0))) rfl⟩) ar ax (λD=>aQ))))))
   (ac (aC (eo 9 cg.nd (ak)))
   (ac (aC (eo 10 cg.nd (ak)))
   (ac (bE ay (bp bW rfl (aX (vv 7)) (d_ 11 cg.nd) (ac (aC (eo 12 cg.nd (aD cc dH (bn aG br (bn aG br (vv 11) (bn aG br (vv 5) (ak))) (bn aG br (vv 5) (ak))) (vc ((gf K a).2 N) b (d4 (vv 11))))))
   (ac (aC (eo 9 cg.nd (aD aF bq (vv 9) (vv 12))))
   (ah (aC (eo 10 cg.nd (aD aF bq (vv 10) (aD cc dH (vv 12) (bn aG br (bn aG br (vv 11) (bn aG br (vv 6) (ak))) (bn aG br (vv 6) (ak))))))))))))
   (ac (bZ (lf (k9 (vc (mK N) b (ee (vc ((hG K a).2 N) b (lp (vv 4) (bn aG br (vv 5) (ak)) (bn aG br (vv 5) (ak)))) (vc ((gh K a).2 N) b (ee (vv 9) (vv 8))))))) (ah (aE (au (ph)))) (bA))
   (ac (bZ (lf (k9 (vc (mK N) b (ee (vc ((bx K a).2 N) b (lp (vv 4) (vv 5) (vv 6))) (vc ((gh K a).2 N) b (ee (vv 10) (vv 8))))))) (ah (aE (au (ph)))) (bA))
   (ac (bZ (lf (k9 (vc (mK N) b (ee (vc ((bx K a).2 N) b (lp (vv 4) (vv 6) (vv 5))) (vc ((gh K a).2 N) b (ee (vv 10) (vv 8))))))) (ah (aE (au (ph)))) (bA))
   (ac (aC (eo 13 cg.nd (bQ (ee (aD gl iP (vc (bc N) b (ee (vv 1) (aD aF bq (ck N.Er (d4 (vv 2))) (ak)))) (ak)) (aD gl iP (vc (bc N) b (ee (vv 1) (aD aF bq (ck N.Er (d4 (bn aG br (vv 2) (ak)))) (ak)))) (ak))))))
   (ac (aC (eo 14 cg.nd (yf (gH HC l_ge (bO (EL rfl) L5 (by rfl) N.Eu Boot.«min» (d4 (vv 13))) (ak)) (yf (gH jR mS (bn aG br (vv 13) (ak)) (ck N.Er (d4 (vv 2)))) (Hc (gH jR mS (bn aG br (vv 13) (ak)) (ck N.Er (d4 (bn aG br (vv 2) (ak))))))))))
   (ah (aE (au (gH (dO b) ff (vc (vG N) b (lp (vv 4) (vv 13) (vv 5))) (bn aG br (e8 (ee (ak) (ak))) (cj EN L6 (by rfl) N.Eo Boot.«int» (d4 (vv 14)))))))))))))))))))))))⟩
theorem LG{f:OS}{o:Pp}(F:hV K "law" "law" nZ f o)(N:xr K mg a)(T:∀G:Bg,G.ok->∃c,(qD K a).1 [OO,on (.sh .bag),OO,OO,OO,OO,OO,OO,OO,OO,OO,OO,OO,OO,OO] G=on (.rt (.bl OT),c)):
  et P w K mg aa (gs P w) 9 f o ["_law_script"] (Hj K):=by
 refine F.okE (k:=8) cg (λM H Q E h=>?_) (λd A D s H M Q E p h=>?_)
 .obtain⟨a,ns,rfl,_⟩:=h
  rfl
 .obtain⟨a1,ns,rfl,r,q,k⟩:=h
  have rest:=(qD K a).2 P w aa N f d A D s H E p;refine⟨_,cI (rest:=(cz nZ).tail) (eo 1 cg.nd (oi (F5 N) (p.mono (by decide)) rfl (N.1 39).m (N.1 39).F.kp (N.1 39).b .nil oj (cE (pv 0) gj))) rest,?_⟩;refine⟨_,rfl,a1,ns,rfl,r,λb l C g i t u=>?_⟩;obtain⟨G,ok,j⟩:=Ka (K:=K) (a:=a1) (n:=["_law_script","_law_bag_here","_law_grid_here","_law_limits","_law_net_here","_law_one","_law_other","_law_told","_law_whole","_law_first","_law_both","_law_table","_law_heavy","_law_cell","_law_there"].length-2) u g i t;obtain⟨c,e⟩:=T G ok;exact⟨_,_,_,G,_,c,j,e,λv I y s fr B=>by cases B.bl;exact k y⟩
end
end Law
namespace L2.Pu
noncomputable def d5:Nat->Nat
 |0=>1
 |n+1=>d5 n*(n+1)
noncomputable def pr(l:a0a):Nat:=l.foldr (·*·) 1
theorem Lg:pr []=1:=rfl
theorem BU(l m:a0a):pr (l++m)=pr l*pr m:=by
 induction l with
 |nil=>simp[pr]
 |cons x l w=>
  show x*pr (l++m)=x*pr l*pr m;rw[w,Ro]
theorem IM{w:Type}{l:List w}{i:Nat}{x:w}(h:l[i]?=on x):l.take (i+1)=l.take i++[x]:=by
 rw[List.take_succ,h];rfl
theorem iS{w:Type}{f:w->Nat}{l:List w}{i:Nat}{x:w}(h:l[i]?=on x):pr ((l.take (i+1)).map f)=pr ((l.take i).map f)*f x:=by
 rw[IM h,PR,BU];simp[pr]
theorem kP:∀n,0<d5 n
 |0=>by decide
 |n+1=>WL (kP n) (by lia)
theorem wj:∀{n m:Nat},n<=m->d5 n<=d5 m:=by
 intro n m h
 induction h with
 |refl=>exact O5 _
 |step h w=>exact O4 w (Tv _ (by lia))
theorem OB:d5 40<=2^160:=by decide +kernel
theorem kQ{n:Nat}(h:n<=40):d5 n<=2^160:=O4 (wj h) OB
theorem vy{l:a0a}(h:∀x∈l,0<x):0<pr l:=by
 induction l with
 |nil=>decide
 |cons x l w=>exact WL (h x OZ) (w λy a=>h y (OR _ a))
theorem HA{l:a0a}{m:Nat}(h:∀x∈l,x<=2^m):pr l<=2^(m*l.length):=by
 induction l with
 |nil=>exact Nat.one_le_two_pow
 |cons x l w=>
  show x*pr l<=_;rw[Pg,Nat.mul_succ,Sd,VE];exact TR (h x OZ) (w λy a=>h y (OR _ a))
theorem eA{l:a0a}{x:Nat}(h:x∈l):x<=l.sum:=by
 induction l with
 |nil=>cases h
 |cons y l w=>
  rw[PD];rcases Pb.mp h with rfl|h
  .lia
  .have:=w h;lia
theorem bU{t m:Nat}(h:t<=2^m)(w:m<=999):t<2^1000:=Q1 (O4 h (Rg (by decide) w)) (Nat.pow_lt_pow_right (by decide) (by decide))
theorem eG{t n:Nat}(a:t<2^1000)(b:n<2^1000):Gc (.int (t:Int)) (.int (n:Int))=on (.int ((t*n:Nat):Int)):=by
 have c:gW (t:Int)=OT:=Po (by rw[VY];exact a);have d:gW (n:Int)=OT:=Po (by rw[VY];exact b);show(if(gW (t:Int)&&gW (n:Int))=OT then _ else _)=_;simp only[c,d,VO,Qm];rfl
theorem oK{t g:Nat}(d:0<g)(a:g<2^1000):zw (.int (t:Int)) (.int (g:Int))=on (.int ((t/g:Nat):Int)):=by
 have b:decide ((0:Int)<(g:Int))=OT:=Po (by lia);have c:decide (((g:Int)).natAbs.log2<9000)=OT:=Po (by
  rw[VY];have:=(YI (n:=g) (k:=1000) (by lia)).mpr a;lia)
 show(if(decide ((0:Int)<(g:Int))&&decide (((g:Int)).natAbs.log2<9000))=OT then _ else _)=_;simp only[b,c,VO,Qm];rfl
theorem p7{t n:Nat}:iC (.int (t:Int)) (.int (n:Int))=on (.int ((t+n:Nat):Int)):=by
 rw[Uk];rfl
theorem ib(l:a0a):(nI l).sum=((l.sum:Nat):Int):=by
 induction l with
 |nil=>rfl
 |cons x l w=>
  show(x:Int)+(nI l).sum=_;rw[w,PD,Uk]
theorem qO{l:a0a}{i:Nat}{d:D}(h:((nI l).map D.int)[i]?=on d):∃n,l[i]?=on n/\d= .int (n:Int):=by
 obtain⟨x,a,rfl⟩:=bH h;obtain⟨n,w,rfl⟩:=bH a;exact⟨n,w,rfl⟩
theorem vL(l:a0a):((nI l).map D.int).length=l.length:=by rw[ON,ON]
def Sq(l:a0a)(d:D):Prop:=d=nL l\/d= .tup ((nI l).map D.int)
theorem Sq.seq{l:a0a}{d:D}(h:Sq l d):fM d=on ((nI l).map D.int):=by rcases h with rfl|rfl<;>rfl
theorem rg2'{i j:Int}(a:0<=i)(b:i<=10^9)(c:0<=j)(d:j<=10^9):pF [.int i,.int j]=on (aZ i (j-i).toNat):=by
 have q:(decide (-(2^62)<=i)&&decide (i<2^62)&&decide (-(2^62)<=j)&&decide (j<2^62))=OT:=by
  simp only[PL,P9];lia
 show(if(decide (-(2^62)<=i)&&decide (i<2^62)&&decide (-(2^62)<=j)&&decide (j<2^62))=OT then on (aZ i (j-i).toNat)else OO)=_;rw[O0 q]
theorem rg2{n:Nat}(h:n<=1000):pF [.int 2,.int ((n:Int)+1)]=on (aZ 2 (n-1)):=by
 rw[rg2' (by decide) (by decide) (by lia) (by lia),show((n:Int)+1-2).toNat=n-1 by lia]
end L2.Pu
namespace L2.Pu
open L2.Hs
def lM(k:a0e):LI->LI
 |[]=>[k]
 |x::l=>if cJ k x=OT then k::x::l else if k=x then x::l else x::lM k l
theorem mm{k y:a0e}:∀{l:LI},y∈lM k l↔y=k\/y∈l
 |[]=>by simp[lM]
 |x::l=>by
  unfold lM;split
  .simp
  .split
   .rename_i h
    subst h;simp
   .rw[Pb,mm,Pb]
    exact or_left_comm
theorem xL{k:a0e}:∀{l:LI},Up l->Up (lM k l)
 |[],_=>by unfold lM;exact Sn _ _
 |x::l,h=>by
  obtain⟨a,b⟩:=Tk.mp h;unfold lM;split
  .rename_i q
   refine Tk.mpr ⟨λy hy=>?_,h⟩;rcases Pb.mp hy with rfl|hy
   .exact q
   .exact qS q (a y hy)
  .split
   .exact h
   .rename_i q1 q2
    refine Tk.mpr ⟨λy hy=>?_,xL b⟩;rcases mm.mp hy with rfl|hy
    .cases q:cJ x y with
     |true=>rfl
     |false=>exact Px (ow (by simpa using q1) q) q2
    .exact a y hy
def mq(w:LI):LI:=w.foldr lM []
theorem nW:∀w,Up (mq w)
 |[]=> .nil
 |k::w=>xL (nW w)
theorem eL{y:a0e}:∀{w:LI},y∈mq w↔y∈w
 |[]=>by simp[mq]
 |k::w=>by
  show y∈lM k (mq w)↔_;rw[mm,eL,Pb]
theorem Hf{l:LI}(h:Up l):l.Nodup:=h.imp λ{a b} q e=>by
 subst e;rw[iT]at q;cases q
theorem KJ{w:LI}(b:∀k∈w,1<=k.length){m:LI}(D:m.length<63)(c:∀k∈w,k∈m):lh (w.map l9)=on (.lst ((mq w).map l9)):=by
 refine Fu ⟨nW w,Q1 (ia (Hf (nW w)) λx e=>c x (eL.mp e)) D,λk a=>⟨b k (eL.mp a),Pe.mpr ⟨k,eL.mp a,rfl⟩⟩,λd E=>?_⟩;obtain⟨k,a,rfl⟩:=Pe.mp E;exact⟨k,eL.mpr a,rfl⟩
end L2.Pu
namespace L2.Nt
noncomputable def sm{w:Type}(l:List w)(f:w->Nat):Nat:=(l.map f).sum
section
variable{d β:Type}
theorem AT{f:d->Nat}:sm [] f=0:=rfl
theorem bC{a:d}{l:List d}{f:d->Nat}:sm (a::l) f=f a+sm l f:=by unfold sm;rw[O9,PD]
theorem u6{l m:List d}{f:d->Nat}:sm (l++m) f=sm l f+sm m f:=by unfold sm;rw[PR,WJ]
theorem bX{f g:d->Nat}:∀{l:List d},(∀a∈l,f a=g a)->sm l f=sm l g
 |[],_=>rfl
 |a::l,h=>by rw[bC,bC,h a OZ,bX λb c=>h b (OR a c)]
theorem ql{g:β->d}{f:d->Nat}{l:List β}:sm (l.map g) f=sm l λb=>f (g b):=by unfold sm;rw[O7];rfl
theorem nY{g:β->List d}{f:d->Nat}:∀{l:List β},sm (l.flatMap g) f=sm l λb=>sm (g b) f
 |[]=>rfl
 |b::l=>by rw[Qd,u6,bC,nY]
theorem w6:∀{l:List d},(sm l λ_=>0)=0
 |[]=>rfl
 |a::l=>by rw[bC,w6]
theorem AU{f g:d->Nat}:∀{l:List d},(sm l λa=>f a+g a)=sm l f+sm l g
 |[]=>rfl
 |a::l=>by rw[bC,bC,bC,AU];lia
theorem kC{c:Nat}{f:d->Nat}:∀{l:List d},(sm l λa=>c*f a)=c*sm l f
 |[]=>rfl
 |a::l=>by rw[bC,bC,kC,VD]
theorem Hm{f:a0S}{m:Nat}:∀{n:Nat},m<=n->sm (O6 (m+1)) f=sm (O6 (n+1)) λa=>if a<=m then f a else 0
 |0,h=>by
  obtain rfl:m=0:=by lia
  exact bX λa d=>by
   have:=Pw.mp d;rw[O0 (by lia)]
 |n+1,h=>by
  rcases TM m (n+1)with q|q
  .rw[SH (n:=n+1),u6,<-Hm (by lia:m<=n),bC,AT,O1 (by lia)]
   lia
  .obtain rfl:m=n+1:=by lia
   exact bX λa d=>by
    have:=Pw.mp d;rw[O0 (by lia)]
noncomputable def cB:a0a->Nat->a0n
 |[],0=>[[]]
 |[],_+1=>[]
 |x::r,c=>(O6 (RT x c+1)).flatMap λa=>(cB r (c-a)).map (a::·)
noncomputable def less(r v:a0a):a0a:=TF (·-·) r v
theorem zZ{x c:Nat}{r:a0a}{f:a0a->Nat}:sm (cB (x::r) c) f=sm (O6 (RT x c+1)) λa=>sm (cB r (c-a)) λv=>f (a::v):=by
 show sm ((O6 (RT x c+1)).flatMap λa=>(cB r (c-a)).map (a::·)) f=_;rw[nY];exact bX λa _=>ql
end
end L2.Nt
namespace L2.Nt
open L2.Pu
noncomputable def ch:Nat->Nat->Nat
 |_,0=>1
 |0,_+1=>0
 |n+1,k+1=>ch n k+ch n (k+1)
theorem rm:∀{n k:Nat},n<k->ch n k=0
 |0,k+1,_=>by simp[ch]
 |n+1,k+1,h=>by
  show ch n k+ch n (k+1)=0;rw[rm (by lia),rm (by lia)]
theorem sG(n:Nat):ch n 0=1:=by cases n<;>rfl
theorem x5:∀n,ch n n=1
 |0=>rfl
 |n+1=>by
  show ch n n+ch n (n+1)=1;rw[x5 n,rm (by lia)]
theorem zx(n:Nat):d5 (n+1)=(n+1)*d5 n:=QP (d5 n) (n+1)
theorem nu:∀n a b:Nat,a+b=n->ch (a+b) a*(d5 a*d5 b)=d5 (a+b)
 |n,0,b,_=>by rw[sG];simp[d5]
 |n,a+1,0,_=>by rw[XV,x5];simp[d5]
 |0,a+1,b+1,h=>by lia
 |n+1,a+1,b+1,h=>by
  have c:=nu n a (b+1) (by lia);have d:=nu n (a+1) b (by lia);have e:a+1+(b+1)=(a+b+1)+1:=by lia
  have f:a+(b+1)=a+b+1:=by lia
  have g:a+1+b=a+b+1:=by lia
  rw[f]at c;rw[g]at d;rw[e];show(ch (a+b+1) a+ch (a+b+1) (a+1))*(d5 (a+1)*d5 (b+1))=d5 (a+b+1+1);rw[zx (a+b+1),UX];have i:ch (a+b+1) a*(d5 (a+1)*d5 (b+1))=(a+1)*d5 (a+b+1):=by
   rw[<-c,zx a];simp only[Ro,Rq,QP]
  have j:ch (a+b+1) (a+1)*(d5 (a+1)*d5 (b+1))=(b+1)*d5 (a+b+1):=by
   rw[<-d,zx b];simp only[Ro,Rq,QP]
  rw[i,j,<-UX,show a+1+(b+1)=a+b+1+1 by lia]
theorem nX{f:a0S}{n:Nat}:sm (O6 (n+1)) f=f 0+sm (O6 n) λa=>f (a+1):=by
 rw[XR,bC,ql]
theorem Fe:∀(x y c:Nat),(sm (O6 (c+1)) λa=>ch x a*ch y (c-a))=ch (x+y) c
 |0,y,c=>by
  rw[nX,sG,YJ,Wj,QR];have:(sm (O6 c) λa=>ch 0 (a+1)*ch y (c-(a+1)))=0:=(bX λa _=>by rw[rm (by lia),Wl]).trans w6;rw[this];rfl
 |x+1,y,0=>by rw[nX];simp[sG,AT]
 |x+1,y,c+1=>by
  have b:=Fe x y (c+1);have d:=Fe x y c;rw[nX]at b;rw[nX];have e:(sm (O6 (c+1)) λa=>ch (x+1) (a+1)*ch y (c+1-(a+1)))=(sm (O6 (c+1)) λa=>ch x a*ch y (c-a))+sm (O6 (c+1)) λa=>ch x (a+1)*ch y (c+1-(a+1)):=by
   rw[<-AU];refine bX λa _=>?_;show(ch x a+ch x (a+1))*_=_;rw[UX,Nat.add_sub_add_right]
  rw[e,d];have f:x+1+y=x+y+1:=by lia
  rw[f];show _=ch (x+y) c+ch (x+y) (c+1);rw[<-b,sG,sG];lia
theorem vdm(x y c:Nat):(sm (O6 (RT x c+1)) λa=>ch x a*ch y (c-a))=ch (x+y) c:=by
 rw[Hm (Vf x c),<-Fe];refine bX λa w=>?_;have:=Pw.mp w;by_cases q:a<=x
 .rw[O0 (by lia)]
 .rw[O1 (by lia),rm (by lia),Wl]
def pc:a0a->a0a->Nat
 |x::r,a::v=>ch x a*pc r v
 |_,_=>1
theorem CB:∀(r:a0a) (c:Nat),sm (cB r c) (pc r)=ch r.sum c
 |[],0=>rfl
 |[],c+1=>rfl
 |x::r,c=>by
  rw[zZ,PD,<-vdm];exact bX λa _=>by rw[<-CB r (c-a),<-kC];rfl
theorem gv:∀{r:a0a} {c:Nat} {v:a0a},v∈cB r c->v.sum=c/\(less r v).sum+c=r.sum/\v.length=r.length/\pr (r.map d5)=pc r v*(pr (v.map d5)*pr ((less r v).map d5))
 |[],0,v,h=>by cases PM.mp h;exact⟨rfl,rfl,rfl,rfl⟩
 |[],c+1,v,h=>by cases h
 |x::r,c,v,h=>by
  have w:v∈(O6 (RT x c+1)).flatMap λa=>(cB r (c-a)).map (a::·):=h;obtain⟨a,D,d⟩:=Q3.mp w;obtain⟨u,e,rfl⟩:=Pe.mp d;have f:=Pw.mp D;obtain⟨g,i,j,k⟩:=gv e;refine⟨by rw[PD,g];lia,?_,by rw[Pg,j,Pg],?_⟩
  .show((x-a)::less r u).sum+c=_
   rw[PD,PD,<-i];lia
  .show d5 x*pr (r.map d5)=(ch x a*pc r u)*((d5 a*pr (u.map d5))*(d5 (x-a)*pr ((less r u).map d5)))
   have b:=nu x a (x-a) (by lia);rw[show a+(x-a)=x by lia]at b;rw[k,<-b];simp only[Ro,Rq,QP]
def mu:a0a->Nat
 |[]=>1
 |x::r=>ch (x+r.sum) x*mu r
theorem jp:∀r:a0a,mu r*pr (r.map d5)=d5 r.sum
 |[]=>rfl
 |x::r=>by
  show(ch (x+r.sum) x*mu r)*(d5 x*pr (r.map d5))=d5 (x::r).sum;rw[PD,<-nu _ x r.sum rfl,<-jp r];simp only[Ro,Rq,QP]
theorem rZ(r:a0a):0<pr (r.map d5):=vy λx a=>by
 obtain⟨n,_,rfl⟩:=Pe.mp a;exact kP n
theorem LO(r:a0a):d5 r.sum/pr (r.map d5)=mu r:=by rw[<-jp,Nat.mul_div_cancel _ (rZ r)]
def ZV:a0a->a0a->Nat
 |_,[]=>1
 |r,c::cs=>sm (cB r c) λv=>mu v*ZV (less r v) cs
theorem G4:∀{r:a0a},r.sum=0->mu r=1
 |[],_=>rfl
 |x::r,h=>by
  rw[PD]at h;obtain rfl:x=0:=by lia
  show ch _ 0*mu r=1;rw[sG,G4 (by lia)]
theorem ng:∀(w r:a0a),r.sum=w.sum->ZV r w=mu r
 |[],r,h=>(G4 h).symm
 |c::w,r,h=>by
  rw[PD]at h;refine Xd (rZ r) ?_;rw[jp];show sm (cB r c) (λv=>mu v*ZV (less r v) w)*_=_;rw[QP,<-kC];have e:(sm (cB r c) λv=>pr (r.map d5)*(mu v*ZV (less r v) w))=sm (cB r c) λv=>(d5 c*d5 (r.sum-c))*pc r v:=by
   refine bX λv a=>?_;obtain⟨b,f,g,d⟩:=gv a;rw[ng w (less r v) (by lia),d];have D:=jp v;have E:=jp (less r v);rw[b]at D;rw[show(less r v).sum=r.sum-c by lia]at E;rw[<-D,<-E];simp only[Ro,Rq,QP]
  rw[e,kC,CB,QP];have:=nu r.sum c (r.sum-c) (by lia);rw[show c+(r.sum-c)=r.sum by lia]at this;exact this
def ko:a0a->a0a->Prop
 |[],[]=>True
 |a::v,x::r=>a<=x/\ko v r
 |_,_=>False
theorem ko.refl:∀r,ko r r
 |[]=>trivial
 |_::r=>⟨O5 _,ko.refl r⟩
theorem ko.tr:∀{u v r:a0a},ko u v->ko v r->ko u r
 |[],[],[],_,_=>trivial
 |_::_,_::_,_::_,h,q=>⟨O4 h.1 q.1,h.2.tr q.2⟩
 |[],_::_,_,h,_=>h.elim
 |_::_,[],_,h,_=>h.elim
 |[],[],_::_,_,q=>q.elim
 |_::_,_::_,[],_,q=>q.elim
theorem ko.len:∀{v r:a0a},ko v r->v.length=r.length
 |[],[],_=>rfl
 |_::_,_::_,h=>Qo (·+1) h.2.len
 |[],_::_,h=>h.elim
 |_::_,[],h=>h.elim
theorem ko.less:∀{v r:a0a},ko v r->ko (less r v) r
 |[],[],_=>trivial
 |a::v,x::r,h=>⟨Zw x a,h.2.less⟩
 |[],_::_,h=>h.elim
 |_::_,[],h=>h.elim
theorem ko.pr:∀{v r:a0a},ko v r->L2.Pu.pr (v.map (·+1))<=L2.Pu.pr (r.map (·+1))
 |[],[],_=>O5 _
 |_::_,_::_,h=>TR (Ww h.1) h.2.pr
 |[],_::_,h=>h.elim
 |_::_,[],h=>h.elim
theorem ko.sum:∀{v r:a0a},ko v r->v.sum<=r.sum
 |[],[],_=>O5 _
 |_::_,_::_,h=>by rw[PD,PD];exact Xc h.1 h.2.sum
 |[],_::_,h=>h.elim
 |_::_,[],h=>h.elim
theorem dI:∀{r:a0a} {c:Nat} {v:a0a},v∈cB r c->ko v r
 |[],0,v,h=>by cases PM.mp h;exact trivial
 |[],c+1,v,h=>by cases h
 |x::r,c,v,h=>by
  have w:v∈(O6 (RT x c+1)).flatMap λa=>(cB r (c-a)).map (a::·):=h;obtain⟨a,D,b⟩:=Q3.mp w;obtain⟨u,d,rfl⟩:=Pe.mp b;have e:=Pw.mp D;exact⟨by lia,dI d⟩
theorem lH:∀{r v:a0a},ko v r->v∈cB r v.sum
 |[],[],_=>PM.mpr rfl
 |x::r,a::v,h=>by
  refine Q3.mpr ⟨a,Pw.mpr (by rw[PD];have:=h.1;lia),Pe.mpr ⟨v,?_,rfl⟩⟩;rw[PD,Ve];exact lH h.2
 |[],_::_,h=>h.elim
 |_::_,[],h=>h.elim
theorem iX{w a:Type}{f:w->List a}{n:Nat}:∀{l:List w},(∀x∈l,(f x).length<=n)->(l.flatMap f).length<=l.length*n
 |[],_=>by simp
 |x::l,h=>by
  rw[Qd,Pl,Pg,Nat.succ_mul,Sd];exact Xc (iX λy b=>h y (OR _ b)) (h x OZ)
theorem k6:∀(r:a0a) (c:Nat),(cB r c).length<=pr (r.dropLast.map (·+1))
 |[],0=>O5 _
 |[],_+1=>Qi _
 |[x],c=>by
  have h:cB [x] c=(O6 (RT x c+1)).flatMap λa=>(cB [] (c-a)).map (a::·):=rfl;rw[h,SH,Rp,Pl];have e:((O6 (RT x c)).flatMap λa=>(cB [] (c-a)).map (a::·))=[]:=by
   refine Tq.mpr λa w=>?_;have:=Pw.mp w;obtain⟨n,D⟩:∃n,c-a=n+1:=⟨c-a-1,by lia⟩;rw[D];rfl
  rw[e];cases q:c-RT x c<;>simp[cB,q,pr]
 |x::y::r,c=>by
  have h:=iX (l:=O6 (RT x c+1)) (f:=λa=>(cB (y::r) (c-a)).map (a::·)) (n:=pr ((y::r).dropLast.map (·+1))) λa _=>by rw[ON];exact k6 (y::r) (c-a)
  rw[Py]at h;refine O4 h ?_;show _<=(x+1)*pr ((y::r).dropLast.map (·+1));exact Se _ (by lia)
theorem lR{w D a:Type}{f:w->List D}{g:D->List a}(l:List w):(l.flatMap f).flatMap g=l.flatMap λx=>(f x).flatMap g:=List.flatMap_assoc
theorem uz(r:a0a)(k:Nat):pr ((r.take k).map (·+1))<=pr (r.map (·+1)):=by
 conv=>rhs;rw[<-R1 k r,PR,BU]
 exact Tv _ (vy λx a=>by
  obtain⟨n,_,rfl⟩:=Pe.mp a;lia)
theorem uB(l:a0a):(nI l).map Int.toNat=l:=by
 rw[O7];exact(PF λx _=>rfl).trans (UN l)
theorem fJ{l m:a0a}(h:nI l=nI m):l=m:=by rw[<-uB l,h,uB]
theorem CN{w a:Type}{f:w->a}{l:List w}(h:(l.map f).Nodup):l.Nodup:=(UP.mp h).imp λq e=>q (Qo f e)
theorem CO{D c:Type}{f:D->c}(w:∀a b,f a=f b->a=b){l:List D}(h:l.Nodup):(l.map f).Nodup:=UP.mpr (h.imp λq e=>q (w _ _ e))
theorem fZ{w:a0a}{k:Nat}(h:k<w.length):w.drop k=w.getD k 0::w.drop (k+1):=by
 rw[QC h,OU,OV h];rfl
noncomputable def Iv:a0h->a0a->Bool
 |p::ps,a::v=>decide (p.1<=a)&&decide (a<=p.2)&&Iv ps v
 |_,_=>OT
def vB(w:a0h)(r:a0a)(c:Nat):a0n:=(cB r c).filter (Iv w)
theorem Km{w:a0h}{r v:a0a}{c:Nat}(h:v∈vB w r c):v∈cB r c:=(SG.mp h).1
theorem rG{p:Nat×Nat}{w:a0h}{x:Nat}{r:a0a}{c:Nat}:vB (p::w) (x::r) c=(O6 (RT x c+1)).flatMap λa=>if p.1<=a/\a<=p.2 then(vB w r (c-a)).map (a::·)else[]:=by
 show((O6 (RT x c+1)).flatMap λa=>(cB r (c-a)).map (a::·)).filter (Iv (p::w))=_;rw[YF];refine Qo (XM · _) (funext λa=>?_);rw[WF];by_cases q:p.1<=a/\a<=p.2
 .rw[O0 q]
  refine Qo (QA (a::·)) (Zr λv _=>?_);show(decide (p.1<=a)&&decide (a<=p.2)&&Iv w v)=Iv w v;rw[Po q.1,Po q.2];rfl
 .rw[O1 q,XJ.mpr,Sz]
  intro v _ h;have h:(decide (p.1<=a)&&decide (a<=p.2)&&Iv w v)=OT:=h;simp only[PL,P9]at h;exact q h.1
noncomputable def lq:a0h->a0a->a0a
 |p::ps,x::r=>RT x p.2::lq ps r
 |_,_=>[]
noncomputable def lj(w:a0h):a0a:=w.map (·.1)
theorem He:∀{w:a0h} {r:a0a} {c:Nat} {v:a0a},w.length=r.length->v∈vB w r c->(lj w).sum<=c/\c<=(lq w r).sum
 |[],[],c,v,_,h=>by
  have:=gv (Km h);simp at this;simp[lj,lq];lia
 |p::w,x::r,c,v,e,h=>by
  rw[rG]at h;obtain⟨a,D,h⟩:=Q3.mp h;by_cases q:p.1<=a/\a<=p.2
  .rw[O0 q]at h
   obtain⟨u,b,rfl⟩:=Pe.mp h;have i:=He (by simpa using e) b;have:=Pw.mp D;simp only[lj,lq,O9,PD]at i⊢;lia
  .rw[O1 q]at h;cases h
noncomputable def nxB(x:Nat)(p:Nat×Nat)(few a:Nat)(b:a0a×Nat):List (a0a×Nat):=(O6 (RT (RT x p.2+few) b.2+1-few-Yx p.1 (b.2-a))).map λi=>(b.1++[Yx p.1 (b.2-a)+i],b.2-(Yx p.1 (b.2-a)+i))
def nB(w:a0h)(r:a0a)(c:Nat):Nat->List (a0a×Nat)
 |0=>[([],c)]
 |k+1=>(nB w r c k).flatMap (nxB (r.getD k 0) (w.getD k (0,0)) ((lj w).drop (k+1)).sum ((lq w r).drop (k+1)).sum)
theorem m8{b:Type}{f:Nat->List b}{lo n N:Nat}(h:∀a<N,f a≠[]->lo<=a/\a<n)(D:n<=N):(O6 N).flatMap f=(O6 (n-lo)).flatMap λi=>f (lo+i):=by
 have e:∀{a},a<N->¬(lo<=a/\a<n)->f a=[]:=λ{a} w q=>RZ λz=>q (h a w z);obtain⟨d,rfl⟩:∃d,N=n+d:=⟨N-n,by lia⟩;have z:(O6 d).flatMap (λa=>f (n+a))=[]:=Tq.mpr λa w=>e (by have:=Pw.mp w;lia) (by lia);rw[List.range_add,Rp,T3,z,PU];rcases Nat.le_total lo n with q|q
 .obtain⟨m,rfl⟩:∃m,n=lo+m:=⟨n-lo,by lia⟩
  rw[List.range_add,Rp,Tq.mpr λa w=>e (by have:=Pw.mp w;lia) (by have:=Pw.mp w;lia),RM,T3,Ve]
 .rw[show n-lo=0 by lia,Tq.mpr λa w=>e (by have:=Pw.mp w;lia) (by have:=Pw.mp w;lia)];rfl
theorem uZ:∀{w:a0h} {r:a0a} (k:Nat),lq (w.drop k) (r.drop k)=(lq w r).drop k
 |_,_,0=>rfl
 |[],r,k+1=>by simp[lq]
 |p::w,[],k+1=>by cases h:(w.drop k)<;>simp[lq,h]
 |p::w,x::r,k+1=>uZ k
theorem cK{w:Type}{l:List w}{k:Nat}{d:w}(h:k<l.length):l.getD k d=l[k]:=by rw[OU,OV h];rfl
theorem dA{w a:Type}{f g:w->List a}:∀{l:List w},(∀x∈l,f x=g x)->l.flatMap f=l.flatMap g
 |[],_=>rfl
 |x::l,h=>by rw[Qd,Qd,h x OZ,dA λy b=>h y (OR _ b)]
theorem w5{D:a0h}{r:a0a}(j:D.length=r.length)(c:Nat):∀k,k<=r.length->((nB D r c k).flatMap λb=>(vB (D.drop k) (r.drop k) b.2).map (b.1++·))=vB D r c
 |0,_=>by simp[nB]
 |k+1,h=>by
  rw[<-w5 j c k (by lia)];show((nB D r c k).flatMap _).flatMap _=_;rw[lR];refine Qo (XM · (nB D r c k)) (funext λb=>?_);have o:k<r.length:=by lia
  have p:k<D.length:=by lia
  rw[QC o,QC p,cK o,cK p,rG,Ry];rw[m8 (f:=λa=>(if D[k].1<=a/\a<=D[k].2 then(vB (D.drop (k+1)) (r.drop (k+1)) (b.2-a)).map (a::·)else[]).map (b.1++·)) (N:=RT r[k] b.2+1) (lo:=Yx D[k].1 (b.2-((lq D r).drop (k+1)).sum)) (n:=RT (RT r[k] b.2+1) (RT (RT r[k] D[k].2+((lj D).drop (k+1)).sum) b.2+1-((lj D).drop (k+1)).sum)) (λa d E=>?_) (Tl _ _)]
  .unfold nxB
   rw[T3,show RT (RT r[k] b.2+1) (RT (RT r[k] D[k].2+((lj D).drop (k+1)).sum) b.2+1-((lj D).drop (k+1)).sum)=RT (RT r[k] D[k].2+((lj D).drop (k+1)).sum) b.2+1-((lj D).drop (k+1)).sum from Nat.min_eq_right (by have:=Tl r[k] D[k].2;generalize RT r[k] D[k].2=m at*;lia)];refine dA λi t=>?_;have:=Pw.mp t;have g:=O4 (Tl (RT r[k] D[k].2+((lj D).drop (k+1)).sum) b.2) (VC (Vf _ _) _);rw[O0 ⟨O4 (Nat.le_max_left _ _) (Qu _ _),by generalize RT (_+_) b.2=x at*;generalize Yx D[k].1 _=y at*;lia⟩,O7];exact PF λv _=>by simp
  .by_cases q:D[k].1<=a/\a<=D[k].2
   .rw[O0 q]at E
    obtain⟨w,e⟩:=List.exists_mem_of_ne_nil _ E;obtain⟨w,e,_⟩:=Pe.mp e;obtain⟨v,u,_⟩:=Pe.mp e;have:=He (by simp[j]) u;rw[uZ]at this;unfold lj at this⊢;rw[T8]at this;have l:=Tt.mp (TL d);have m:=Tt.mpr ⟨l.1,q.2⟩;have l:=l.2;refine⟨Nat.max_le.mpr ⟨q.1,?_⟩,Xe.mpr ⟨d,Nat.lt_sub_of_add_lt (Wh (Tt.mpr ⟨VC m _,?_⟩))⟩⟩<;>clear d m<;>lia
   .rw[O1 q]at E;exact Px rfl E
theorem Kl(c:Nat):vB [] [] c=if(c:Int)=0 then[[]]else[]:=by
 cases c with
 |zero=>rfl
 |succ n=>rw[O1 (by lia)];rfl
theorem IT{w:a0h}{r:a0a}(a:w.length=r.length)(c:Nat):((nB w r c r.length).filter λb=>decide ((b.2:Int)=0)).map (·.1)=vB w r c:=by
 rw[<-w5 a c r.length (O5 _),T1,<-a,T1,a];generalize nB w r c r.length=l
 induction l with
 |nil=>rfl
 |cons b l D=>
  rw[Qd,Va,<-D,Kl];by_cases q:(b.2:Int)=0
  .rw[O0 q,O0 (Po q)];simp
  .rw[O1 q,O1 (by simp;lia)];rfl
theorem w4{w:a0h}{r:a0a}(c:Nat):∀k,k<=r.length->(nB w r c k).length<=pr ((r.take k).map (·+1))
 |0,_=>O5 _
 |k+1,h=>by
  have e:r[k]?=on r[k]:=OV (by lia);rw[iS e];refine O4 (iX (n:=r[k]+1) λb _=>?_) (Se _ (w4 c k (by lia)));unfold nxB;rw[ON,Py,cK (show k<r.length by lia)];refine O4 (Zw _ _) (Nat.sub_le_of_le_add ?_);rw[Nat.add_right_comm];exact Ww (O4 (Tl _ _) (VC (Tl _ _) _))
theorem AO(w:a0h)(r:a0a)(c:Nat):∀k,∀b∈nB w r c k,b.2<=c/\b.1.length=k
 |0,b,h=>by cases PM.mp h;exact⟨O5 _,rfl⟩
 |k+1,b,h=>by
  obtain⟨d,D,a⟩:=Q3.mp (show b∈(nB w r c k).flatMap _ from h);obtain⟨i,_,rfl⟩:=Pe.mp a;obtain⟨G,E⟩:=AO w r c k d D;exact⟨by show d.2-_<=c;lia,by rw[Pl,E];rfl⟩
theorem AC:∀{ps:a0h} {r:a0a},(lq ps r).sum<=r.sum
 |[],r=>Qi _
 |_::_,[]=>O5 _
 |p::ps,x::r=>by
  have:=AC (ps:=ps) (r:=r);simp only[lq,PD];lia
abbrev Wy:=Nat->a0a->a0n
def I_(w:a0a)(W:Wy):Prop:=∀k r,(W k r).Sublist (cB r (w.getD k 0))
def ZR(W:Wy)(L:a0n)(k:Nat):LI:=L.flatMap λr=>(W k r).map λv=>nI (less r v)
def Z2(W:Wy)(L:a0n)(k:Nat):a0n:=(mq (ZR W L k)).map λk=>k.map Int.toNat
section
variable{W:Wy}{cs rs:a0a}
theorem kK{L:a0n}{k:Nat}{y:a0e}:y∈ZR W L k↔∃r∈L,∃v∈W k r,y=nI (less r v):=by
 unfold ZR;constructor
 .intro h
  obtain⟨r,a,h⟩:=Q3.mp h;obtain⟨v,b,rfl⟩:=Pe.mp h;exact⟨r,a,v,b,rfl⟩
 .rintro⟨r,a,v,b,rfl⟩
  exact Q3.mpr ⟨r,a,Pe.mpr ⟨v,b,rfl⟩⟩
theorem yM(L:a0n)(k:Nat):(Z2 W L k).map nI=mq (ZR W L k):=by
 unfold Z2;rw[O7];refine(PF λy a=>?_).trans (UN _);obtain⟨r,_,v,_,rfl⟩:=kK.mp (eL.mp a);show nI ((nI _).map Int.toNat)=_;rw[uB];rfl
theorem kJ{L:a0n}{k:Nat}{u:a0a}:u∈Z2 W L k↔∃r∈L,∃v∈W k r,u=less r v:=by
 constructor
 .intro h
  have:nI u∈mq (ZR W L k):=by rw[<-yM];exact Pe.mpr ⟨u,h,rfl⟩
  obtain⟨r,a,v,b,e⟩:=kK.mp (eL.mp this);exact⟨r,a,v,b,fJ e⟩
 .rintro⟨r,a,v,b,rfl⟩
  exact Pe.mpr ⟨nI (less r v),eL.mpr (kK.mpr ⟨r,a,v,b,rfl⟩),uB _⟩
def h8(W:Wy)(rs:a0a):Nat->a0n
 |0=>[rs]
 |k+1=>Z2 W (h8 W rs k) k
theorem vR:∀k,(h8 W rs k).Nodup
 |0=>Sn _ _
 |k+1=>CN (f:=nI) (by show(QA nI (Z2 _ _ _)).Nodup;rw[yM];exact Hf (nW _))
theorem ic(b:I_ cs W)(w:rs.sum=cs.sum):∀k,k<=cs.length->∀r∈h8 W rs k,ko r rs/\r.sum=(cs.drop k).sum
 |0,_,r,h=>by cases PM.mp h;exact⟨ko.refl _,w⟩
 |k+1,hk,u,h=>by
  obtain⟨r,c,v,a,rfl⟩:=kJ.mp (show u∈Z2 W (h8 W rs k) k from h);have a:=(b k r).subset a;obtain⟨D,E⟩:=ic b w k (by lia) r c;have G:=(gv a).2.1;rw[E,fZ (by lia),PD]at G;exact⟨(dI a).less.tr D,by lia⟩
theorem JD(a:I_ cs W)(w:rs.sum=cs.sum){k:Nat}(b:k<=cs.length):(h8 W rs k).length<=pr (rs.dropLast.map (·+1)):=
 O4 (ia (vR k) (m:=cB rs (cs.drop k).sum) λr c=>by
  obtain⟨d,e⟩:=ic a w k b r c;rw[<-e];exact lH d) (k6 _ _)
theorem Jz(a:I_ cs W)(w:rs.sum=cs.sum)(e:1<=rs.length)(f:pr (rs.dropLast.map (·+1))<63){k:Nat}(g:k<cs.length):lh ((ZR W (h8 W rs k) k).map l9)=on (.lst ((h8 W rs (k+1)).map λr=>l9 (nI r))):=by
 refine(KJ (m:=(cB rs (cs.drop (k+1)).sum).map nI) ?_ (by rw[ON];exact Q1 (k6 _ _) f) ?_).trans ?_
 .intro x b
  obtain⟨r,c,v,d,rfl⟩:=kK.mp b;rw[ON,((dI ((a k r).subset d)).less.tr (ic a w k (by lia) r c).1).len];exact e
 .intro x b
  obtain⟨r,c,v,d,rfl⟩:=kK.mp b;obtain⟨D,E⟩:=ic a w (k+1) g (less r v) (kJ.mpr ⟨r,c,v,d,rfl⟩);exact Pe.mpr ⟨less r v,by rw[<-E];exact lH D,rfl⟩
 .rw[<-yM,O7];rfl
def Z4(W:Wy)(rs:a0a)(n:Nat):List (Int×a0e):=(O6 n).flatMap λk=>(h8 W rs k).map λr=>((k:Int),nI r)
theorem DE:∀n,(Z4 W rs n).Nodup
 |0=>W4
 |n+1=>by
  unfold Z4;rw[SH,Rp,Qd,Vb,PU];refine UO.mpr ⟨DE n,CO (λr s e=>fJ (SA.mp e).2) (vR n),λx a y b e=>?_⟩;subst e;obtain⟨k,c,h⟩:=Q3.mp a;obtain⟨r,_,rfl⟩:=Pe.mp h;obtain⟨s,_,e⟩:=Pe.mp b;have:=(SA.mp e).1;have d:=Pw.mp c;simp only at this;lia
def qk(W:Wy):Nat->Nat->a0a->Nat
 |0,_,_=>1
 |j+1,k,r=>sm (W k r) λv=>qk W j (k+1) (less r v)
def ZJ(W:Wy):Nat->Nat->a0a->Nat
 |0,_,_=>1
 |j+1,k,r=>sm (W k r) λv=>mu v*ZJ W j (k+1) (less r v)
theorem mr{D:Type}{f g:D->Nat}{l m:List D}(h:l.Sublist m)(q:∀a∈m,f a<=g a):sm l f<=sm m g:=by
 induction h with
 |slnil=>exact O5 _
 |cons a _ w=>rw[bC];exact O4 (w λx b=>q x (OR _ b)) (Ul _ _)
 |cons_cons a _ w=>rw[bC,bC];exact Xc (q a OZ) (w λx b=>q x (OR _ b))
theorem wq(a:I_ cs W):∀(j k:Nat) (r:a0a),k+j=cs.length->ZJ W j k r<=ZV r (cs.drop k)
 |0,k,r,h=>by rw[show k=cs.length by lia,T1];exact O5 _
 |j+1,k,r,h=>by
  rw[fZ (by lia)];exact mr (a k r) λv _=>Nat.mul_le_mul_left _ (wq a j (k+1) (less r v) (by lia))
noncomputable def I0:a0h->a0a->a0n
 |p::ps,x::r=>(O6 (RT p.2 x+1-p.1)).flatMap λi=>(I0 ps r).map ((p.1+i)::·)
 |_,_=>[[]]
theorem ER:∀{w:a0h} {r:a0a} {c:Nat},w.length=r.length->(I0 w r).filter (λv=>decide (v.sum=c))=vB w r c
 |[],[],c,_=>by cases c<;>rfl
 |p::w,x::r,c,h=>by
  have E:w.length=r.length:=by simpa using h
  rw[rG,m8 (lo:=p.1) (n:=RT (RT x c+1) (RT p.2 x+1)) (N:=RT x c+1) (λa b D=>?_) (Tl _ _)]
  .show((O6 (RT p.2 x+1-p.1)).flatMap λi=>(I0 w r).map ((p.1+i)::·)).filter _=_
   rw[YF];have e:∀i,List.filter (λv=>decide (v.sum=c)) ((I0 w r).map ((p.1+i)::·))=if p.1+i<=c then(vB w r (c-(p.1+i))).map ((p.1+i)::·)else[]:=λi=>by
    rw[WF];by_cases q:p.1+i<=c
    .rw[O0 q,<-ER E]
     refine Qo (QA _) (Zr λv _=>?_);show decide (((p.1+i)::v).sum=c)=_;rw[PD];exact decide_eq_decide.mpr (by lia)
    .rw[O1 q,XJ.mpr,Sz]
     intro v _ z;have z:decide (((p.1+i)::v).sum=c)=OT:=z;rw[PD,P9]at z;lia
   rw[dA λi _=>e i];rw[m8 (f:=λi=>if p.1+i<=c then(vB w r (c-(p.1+i))).map ((p.1+i)::·)else[]) (lo:=0) (n:=RT (RT x c+1) (RT p.2 x+1)-p.1) (N:=RT p.2 x+1-p.1) (λa D q=>⟨Qi _,?_⟩) (Nat.sub_le_sub_right (Vf _ _) _),Wj]
   .refine dA λi d=>?_
    have g:=Xe.mp (Ys (Pw.mp d));rw[QR,O0 (Tt.mp (TL g.1)).2,O0 ⟨Qu _ _,(Tt.mp (TL g.2)).1⟩]
   .by_cases z:p.1+a<=c
    .have g:=Ys D
     exact Nat.lt_sub_iff_add_lt'.mpr (Xe.mpr ⟨Wh (Tt.mpr ⟨(Tt.mp (TL g)).2,z⟩),g⟩)
    .rw[O1 z]at q;exact Px rfl q
  .by_cases q:p.1<=a/\a<=p.2
   .exact⟨q.1,Xe.mpr ⟨b,Wh (Tt.mpr ⟨q.2,(Tt.mp (TL b)).1⟩)⟩⟩
   .rw[O1 q]at D;exact Px rfl D
noncomputable def ms(w:a0h)(r:a0a):Nat->a0n
 |0=>[[]]
 |k+1=>(ms w r k).flatMap λu=>(O6 (RT (w.getD k (0,0)).2 (r.getD k 0)+1-(w.getD k (0,0)).1)).map λi=>u++[(w.getD k (0,0)).1+i]
theorem xQ{w:a0h}{r:a0a}(c:w.length=r.length):∀k,k<=r.length->((ms w r k).flatMap λu=>(I0 (w.drop k) (r.drop k)).map (u++·))=I0 w r
 |0,_=>by simp[ms]
 |k+1,h=>by
  rw[<-xQ c k (by lia)];show((ms w r k).flatMap _).flatMap _=_;rw[lR];refine dA λu _=>?_;have a:k<r.length:=by lia
  have b:k<w.length:=by lia
  rw[QC a,QC b,cK a,cK b];show _=((O6 (RT w[k].2 r[k]+1-w[k].1)).flatMap λi=>(I0 (w.drop (k+1)) (r.drop (k+1))).map ((w[k].1+i)::·)).map (u++·);rw[Ry,T3];refine dA λi _=>?_;rw[O7];exact PF λv _=>by simp
theorem xP{w:a0h}{r:a0a}(a:w.length=r.length):ms w r r.length=I0 w r:=by
 rw[<-xQ a r.length (O5 _),T1,<-a,T1];show _=(ms w r w.length).flatMap λu=>[u++[]];generalize ms w r w.length=l
 induction l with
 |nil=>rfl
 |cons x l D=>rw[Qd,<-D,PU];rfl
theorem xO{w:a0h}{r:a0a}:∀k,k<=r.length->(ms w r k).length<=pr ((r.take k).map (·+1))
 |0,_=>O5 _
 |k+1,h=>by
  have e:r[k]?=on r[k]:=OV (by lia);rw[iS e];refine O4 (iX (n:=r[k]+1) λb _=>?_) (Se _ (xO k (by lia)));rw[ON,Py,cK (show k<r.length by lia)];exact O4 (Zw _ _) (Ww (Vf _ _))
theorem DQ{w:a0h}{r:a0a}:∀k,∀u∈ms w r k,u.length=k
 |0,b,h=>by cases PM.mp h;rfl
 |k+1,b,h=>by
  obtain⟨d,D,a⟩:=Q3.mp (show b∈(ms w r k).flatMap _ from h);obtain⟨i,_,rfl⟩:=Pe.mp a;rw[Pl,DQ k d D];rfl
def lst(W:Wy)(rs:a0a):Nat->List (a0n×a0a)
 |0=>[([],rs)]
 |k+1=>(lst W rs k).flatMap λq=>(W k q.2).map λv=>(q.1++[v],less q.2 v)
theorem AS{w:Type}:∀l:List w,(sm l λ_=>1)=l.length
 |[]=>rfl
 |x::l=>by rw[bC,AS l,Pg,Sd]
theorem vM(r:a0a):0<mu r:=Zv λz=>by
 have:=jp r;rw[z,Wl]at this;have:=kP r.sum;lia
theorem vS(b:I_ cs W)(w:rs.sum=cs.sum):∀k,k<=cs.length->∀q∈lst W rs k,ko q.2 rs/\q.2.sum=(cs.drop k).sum/\q.1.length=k
 |0,_,q,h=>by cases PM.mp h;exact⟨ko.refl _,w,rfl⟩
 |k+1,hk,u,h=>by
  obtain⟨q,c,d⟩:=Q3.mp (show u∈(lst W rs k).flatMap _ from h);obtain⟨v,a,rfl⟩:=Pe.mp d;have a:=(b k q.2).subset a;obtain⟨D,E,G⟩:=vS b w k (by lia) q c;have K:=(gv a).2.1;rw[E,fZ (by lia),PD]at K;exact⟨(dI a).less.tr D,by show(less q.2 v).sum=_;lia,by rw[Pl,G];rfl⟩
theorem CS(a:I_ cs W):∀k,k<=cs.length->(sm (lst W rs k) λq=>ZV q.2 (cs.drop k))<=ZV rs cs
 |0,_=>O5 _
 |k+1,h=>by
  refine O4 ?_ (CS a k (by lia));show sm ((lst W rs k).flatMap _) _<=_;rw[nY];refine mr (Ss _) λq _=>?_;rw[ql,fZ (k:=k) (by lia)];exact mr (a k q.2) λv _=>Nat.le_mul_of_pos_left _ (vM v)
theorem xE(a:I_ cs W)(w:rs.sum=cs.sum){k:Nat}(b:k<=cs.length):(lst W rs k).length<=mu rs:=by
 rw[<-ng cs rs w,<-AS];refine O4 (mr (Ss _) λq c=>?_) (CS a k b);rw[ng _ _ (vS a w k b q c).2.1];exact vM _
end
end L2.Nt
namespace L2.Pu
theorem E5{n:Nat}{f g:a0K}(h:∀i<n,f i<=g i):S n f<=S n g:=by
 induction n with
 |zero=>exact WE _
 |succ n w=>
  rw[gr,gr];have a:=w λi b=>h i (by lia);have c:=h n (by lia);lia
theorem Iq(n:Nat)(f g:a0K):S n (λi=>f i-g i)=S n f-S n g:=by
 induction n with
 |zero=>rfl
 |succ n w=>rw[gr,gr,gr,w];lia
noncomputable def fl(x y:Bool)(l h:Int):Int:=(if x=OT/\y=OW then h else 0)-(if x=OW/\y=OT then l else 0)
def slk(w D:a0K)(E a:Nat->Nat->Int)(r c:Nat)(X Y:Nat->Bool):Int:=
 S c (λj=>if Y j=OT then D j else 0)-S r (λi=>if X i=OT then w i else 0)+S r λi=>S c λj=>fl (X i) (Y j) (E i j) (a i j)
section
variable{l m:a0K}{o k:Nat->Nat->Int}{r c:Nat}
theorem IV{g:Nat->Nat->Int}(h:∀i<r,∀j<c,o i j<=g i j/\g i j<=k i j)(d:∀i<r,l i=S c (g i))(hc:∀j<c,m j=S r λi=>g i j)(X Y:Nat->Bool):0<=slk l m o k r c X Y:=by
 have e:S c (λj=>if Y j=OT then m j else 0)=S r λi=>S c λj=>if Y j=OT then g i j else 0:=by
  rw[EZ];refine dU λj a=>?_;cases q:Y j with
  |true=>simp only[O0];exact hc j a
  |false=>simp only[Pq,Qq];exact(nM r).symm
 have f:S r (λi=>if X i=OT then l i else 0)=S r λi=>S c λj=>if X i=OT then g i j else 0:=by
  refine dU λi k=>?_;cases q:X i with
  |true=>simp only[O0];exact d i k
  |false=>simp only[Pq,Qq];exact(nM c).symm
 unfold slk;rw[e,f,<-Iq,<-uR];refine Int.le_trans (Int.le_of_eq (nM r).symm) (E5 λi b=>?_);rw[<-Iq,<-uR];refine Int.le_trans (Int.le_of_eq (nM c).symm) (E5 λj a=>?_);have:=h i b j a;unfold fl;cases X i<;>cases Y j<;>simp<;>lia
noncomputable def vu:Nat->a0n
 |0=>[[]]
 |n+1=>vu n++(vu n).map (·++[n])
theorem i5:∀(n:Nat) (l:a0a),l∈vu n->l.Sublist (O6 n)
 |0,l,h=>by rw[PM.mp h];exact .slnil
 |n+1,l,h=>by
  rw[SH];rcases Qt.mp h with h|h
  .exact(i5 n l h).trans (List.sublist_append_left _ _)
  .obtain⟨a,h',rfl⟩:=Pe.mp h
   exact(i5 n a h').append (Ss _)
theorem x6:∀n:Nat,(vu n).length=2^n
 |0=>rfl
 |n+1=>by
  rw[vu,Pl,ON,x6 n,X0];lia
end
section
variable{o m:a0e}{b:LP}{r c:Nat}
abbrev slB(o m:a0e)(b:LP)(r c:Nat)(X Y:Nat->Bool):Int:=slk (λi=>o.getD i 0) (λj=>m.getD j 0) (λi j=>(bI b i j).1) (λi j=>(bI b i j).2) r c X Y
theorem KN{a d:a0a}(e:a.Sublist (O6 r))(f:d.Sublist (O6 c)):uw m b r c a d-qN o a=slB o m b r c (λi=>decide (i∈a)) (λj=>decide (j∈d)):=by
 rw[Jd e f];unfold qN slB slk;rw[nV f,nV e];have h:∀(n:Nat) (l:a0a) (g:a0K),S n (λj=>if decide (j∈l)=OT then g j else 0)=S n (λj=>if j∈l then g j else 0):=λn l g=>dU λj _=>by simp
 rw[h,h];have k:(S r λi=>S c λj=>hF b a d i j)=S r λi=>S c λj=>fl (decide (i∈a)) (decide (j∈d)) (bI b i j).1 (bI b i j).2:=by
  refine dU λi _=>dU λj _=>?_;unfold hF fl;simp
 simp only[k];lia
def vK(m:a0e)(b:LP)(r c:Nat)(a:a0a):a0a:=(O6 c).filter λj=>decide (fi m b r a j<f6 b a j)
end
end L2.Pu
namespace L2.Nt
open L2.Pu
def Y_(W:Wy)(j k:Nat)(r:a0a):a0n:=(W k r).filter λv=>decide ((0:Int)<((qk W j (k+1) (less r v):Nat):Int))
def Wk(W:Wy):Nat->a0a->a0n->Prop
 |_,_,[]=>True
 |k,r,v::vs=>v∈W k r/\Wk W (k+1) (less r v) vs
section
variable{W:Wy}{l:a0a}
theorem uF{w:Type}{f:w->Nat}{a:w}:∀{l:List w},a∈l->f a<=sm l f
 |b::l,h=>by
  rw[bC];rcases Pb.mp h with rfl|h
  .lia
  .have:=uF (f:=f) h;lia
theorem zV:∀{j k:Nat} {r:a0a} {vs:a0n},Wk W k r vs->vs.length=j->0<qk W j k r
 |_,_,_,[],_,rfl=>Nat.one_pos
 |_,k,r,v::vs,h,rfl=>Pz (zV h.2 rfl) (uF (f:=λv=>qk W vs.length (k+1) (less r v)) h.1)
def jC(u v:a0a):a0a:=TF (·+·) u v
def vl(n:Nat):a0n->a0a
 |[]=>Pn n 0
 |v::vs=>jC v (vl n vs)
theorem vW:∀{v r:a0a},v.length=r.length->less (jC v r) v=r/\ko v (jC v r)
 |[],[],_=>⟨rfl,trivial⟩
 |x::v,y::r,h=>by
  obtain⟨a,b⟩:=vW (v:=v) (r:=r) (by simpa using h);refine⟨?_,Qu _ _,b⟩;show(x+y-x)::less (jC v r) v=_;rw[a,Ve]
theorem wG:∀{v r:a0a},ko v r->jC v (less r v)=r
 |[],[],_=>rfl
 |x::v,y::r,h=>by
  show(x+(y-x))::jC v (less r v)=_;rw[wG h.2,Nat.add_sub_cancel' h.1]
 |[],_::_,h=>h.elim
 |_::_,[],h=>h.elim
theorem n5{n:Nat}:∀{l:a0n},(∀v∈l,v.length=n)->(vl n l).length=n
 |[],_=>Q8
 |v::l,h=>by
  show(TF _ _ _).length=n;rw[VN,h v OZ,n5 λu a=>h u (OR _ a),XZ]
theorem KE:∀{r:a0a},r.sum=0->r=Pn r.length 0
 |[],_=>rfl
 |x::r,h=>by
  rw[PD]at h;obtain rfl:x=0:=by lia
  rw[Pg,QW,<-KE (r:=r) (by lia)]
theorem wS(a:I_ l W):∀{w:a0n} {k:Nat} {r:a0a},Wk W k r w->k+w.length=l.length->r.sum=(l.drop k).sum->w.map QZ=l.drop k/\r=vl r.length w/\∀v∈w,v.length=r.length
 |[],k,r,_,e,s=>by
  have f:l.drop k=[]:=Rl (by simpa using e▸O5 _);rw[f]at s⊢;exact⟨rfl,KE s,λ_ h=>by cases h⟩
 |v::w,k,r,h,e,s=>by
  rw[Pg]at e;have b:=(a k r).subset h.1;obtain⟨E,K,G,_⟩:=gv b;have D:=dI b;rw[fZ (by lia),PD]at s;obtain⟨g,c,d⟩:=wS a h.2 (by lia) (by lia);have i:=D.less.len;rw[i]at c d;refine⟨by rw[fZ (by lia),O9,g,E],?_,λu hu=>?_⟩
  .show r=jC v (vl r.length w)
   rw[<-c,wG D]
  .rcases Pb.mp hu with rfl|hu
   .exact G
   .exact d u hu
theorem G8{n:Nat}:∀{vs:a0n} {k:Nat},(∀v∈vs,v.length=n)->(∀i r v,vs[i]?=on v->ko v r->v∈W (k+i) r)->Wk W k (vl n vs) vs
 |[],_,_,_=>trivial
 |v::vs,k,h,hw=>by
  have b:∀u∈vs,u.length=n:=λu a=>h u (OR _ a);obtain⟨c,d⟩:=vW (v:=v) (r:=vl n vs) (by rw[h v OZ,n5 b]);refine⟨hw 0 _ v rfl d,?_⟩;show Wk W (k+1) (less (jC v (vl n vs)) v) vs;rw[c];exact G8 b λi r u a l=>by
   have:=hw (i+1) r u a l;rwa[show k+(i+1)=k+1+i by lia]at this
theorem kB:∀{l:a0a} {i x y:Nat},l[i]?=on x->(l.set i y).sum+x=l.sum+y
 |a::l,0,x,y,h=>by
  cases h;show(y::l).sum+a=(a::l).sum+y;rw[PD,PD];lia
 |a::l,i+1,x,y,h=>by
  have:=kB (l:=l) (i:=i) (x:=x) (y:=y) h;show(a::l.set i y).sum+x=(a::l).sum+y;rw[PD,PD];lia
theorem MR{u v:a0a}{i x y:Nat}(a:u[i]?=on x)(b:v[i]?=on y):(jC u v)[i]?=on (x+y):=by
 unfold jC;rw[XU,a,b]
theorem BF{n i:Nat}:∀{l:a0n},(∀v∈l,v.length=n)->i<n->(vl n l).getD i 0=(l.map λv=>v.getD i 0).sum
 |[],_,hi=>by
  show(Pn n 0).getD i 0=0;rw[OU,RJ,O0 hi];rfl
 |v::l,h,hi=>by
  have a:∀w∈l,w.length=n:=λw b=>h w (OR _ b);have D:=h v OZ;have c:=n5 a;rw[O9,PD,<-BF a hi];show(jC v (vl n l)).getD i 0=_;rw[OU,MR (OV (by lia)) (OV (by lia)),cK (by lia),cK (by lia)];rfl
theorem vT{p q d c:Nat}(k:0<q)(l:0<c)(h:p*c=d*q):p/Rv p q=d/Rv d c/\q/Rv p q=c/Rv d c:=by
 have i:0<Rv p q:=Tg _ k;have j:0<Rv d c:=Tg _ l;have w:=W6 i;have D:=W6 j;obtain⟨b,r⟩:=Nat.gcd_dvd_right p q;obtain⟨a,t⟩:=Nat.gcd_dvd_left p q;obtain⟨f,m⟩:=Nat.gcd_dvd_right d c;obtain⟨n,o⟩:=Nat.gcd_dvd_left d c;generalize Rv p q=g at*;generalize Rv d c=g' at*;subst t r o m;rw[Tw _ i,Tw _ i]at*;rw[Tw _ j,Tw _ j]at*;have x:a*f=n*b:=by
  refine Nat.eq_of_mul_eq_mul_left (WL i j) ?_
  calc g*g'*(a*f)=g*a*(g'*f):=by simp only[Ro,Rq,QP]
   _=g'*n*(g*b):=h
   _=g*g'*(n*b):=by simp only[Ro,Rq,QP]
 have E:b∣f:=(w.symm).dvd_of_dvd_mul_left (by rw[x];exact Nat.dvd_mul_left _ _);have G:f∣b:=(D.symm).dvd_of_dvd_mul_left (by rw[<-x];exact Nat.dvd_mul_left _ _);have e:=Nat.dvd_antisymm E G;subst e;have u:0<b:=Zv λz=>by rw[z]at k;simp at k
 exact⟨Xd u x,rfl⟩
def js(W:Wy):Nat->Nat->a0a->List a0n
 |0,_,_=>[[]]
 |j+1,k,r=>(W k r).flatMap λv=>(js W j (k+1) (less r v)).map (v::·)
def wt(l:a0n):Nat:=pr (l.map mu)
variable{a:a0a}
theorem xD(m:Nat):∀k,k<=m->((lst W a k).flatMap λq=>(js W (m-k) k q.2).map (q.1++·))=js W m 0 a
 |0,_=>by
  show(js W (m-0) 0 a).map ([]++·)++[]=_;rw[PU,Wj];exact(PF λx _=>RM x).trans (UN _)
 |k+1,h=>by
  rw[<-xD m k (by lia)];show((lst W a k).flatMap _).flatMap _=_;rw[lR];refine dA λq _=>?_;rw[show m-k=m-(k+1)+1 by lia,T3];show _=((W k q.2).flatMap λv=>(js W (m-(k+1)) (k+1) (less q.2 v)).map (v::·)).map (q.1++·);rw[Ry];refine dA λv _=>?_;rw[O7];exact PF λu _=>by simp
theorem HI(m:Nat):(lst W a m).map (·.1)=js W m 0 a:=by
 rw[<-xD m m (O5 _),TU];generalize lst W a m=l
 induction l with
 |nil=>rfl
 |cons q l w=>rw[O9,Qd,w];simp[js]
theorem rX:∀(j k:Nat) (r:a0a),(js W j k r).length=qk W j k r
 |0,_,_=>rfl
 |j+1,k,r=>by
  show((W k r).flatMap _).length=_;rw[List.length_flatMap];show _=((W k r).map _).sum;congr 1;exact PF λv _=>by rw[ON,rX]
theorem xp:∀(j k:Nat) (r:a0a),sm (js W j k r) wt=ZJ W j k r
 |0,_,_=>rfl
 |j+1,k,r=>by
  show sm ((W k r).flatMap _) wt=_;rw[nY];refine bX λv _=>?_;rw[ql,<-xp j (k+1) (less r v),<-kC];rfl
theorem BS:∀{j k:Nat} {r:a0a} {l:a0n},l∈js W j k r->Wk W k r l/\l.length=j
 |0,_,_,l,h=>by cases PM.mp h;exact⟨trivial,rfl⟩
 |j+1,k,r,l,h=>by
  obtain⟨v,a,b⟩:=Q3.mp (show l∈(W k r).flatMap _ from h);obtain⟨w,c,rfl⟩:=Pe.mp b;obtain⟨d,e⟩:=BS c;exact⟨⟨a,d⟩,by rw[Pg,e]⟩
end
end L2.Nt
namespace Law
open L2 L2.Pu L2.Nt
section
variable{K:Pk}{a:Ad}{β:Bg}
abbrev tN(l:a0a):D:=l9 (nI l)
abbrev eN(b:a0a×Nat):D:= .tup [tN b.1,.int (b.2:Int)]
abbrev pN(p:Nat×Nat):D:=pD ((p.1:Int),(p.2:Int))
def KX(r:a0a):Prop:=1<=r.length/\r.length<=4/\r.sum<=40/\pr (r.map (·+1))<=500
theorem kx{f g:FD}{δ:Dn}{x y:D}{ds a:a0c}(b:f δ β=on (.ok x,β))(c:g δ β=on (.ok y,β))(d:fM x=on ds)(e:fM y=on a):yO (aj f (aj g aK)) δ β=on (.ok (eF ds a),β):=bK (aa b (aa c rfl)) (by
 unfold E9;simp only[d,e,Sg,Ra])
theorem K2{a:Nat}{h:Int}(b:-1000<=h)(c:h<=1000)(d:a<=1000):pF [.int (a:Int),.int h]=on ((O6 (h-a).toNat).map λi=>D.int ((a+i:Nat):Int)):=by
 have e:pF [.int (a:Int),.int h]=on (aZ a (h-a).toNat):=by
  simp only[pF];rw[O0 (by simp only[PL,P9];lia)]
 rw[e];exact Qo on (PF λi _=>by congr 1)
theorem addT{l:a0a}{c:Nat}(h:l.length<=100):iC (tN l) (.tup [.int (c:Int)])=on (tN (l++[c])):=by
 cases l with
 |nil=>rfl
 |cons x l=>
  show(if _ then _ else _)=_;rw[O0 (bo (by simp at h⊢;lia))];simp[l9]
theorem AM(l:a0a)(k:Nat):gc [.lst (((nI l).map D.int).drop k)]=on (.int (((l.drop k).sum:Nat):Int)):=by
 rw[<-T8,<-T8];exact(e9 _).trans (by rw[<-ib])
theorem AF:∀{r:a0a} {ps:a0h},(r.zip ps).map (λq=>D.int (RT (q.1:Int) (q.2.2:Int)))=(nI (lq ps r)).map D.int
 |[],_=>by cases ‹a0h›<;>rfl
 |_::_,[]=>rfl
 |x::r,p::ps=>by
  have e:=AF (r:=r) (ps:=ps);show _::_=D.int ((RT x p.2:Nat):Int)::(nI (lq ps r)).map D.int;rw[<-e];show D.int (RT (x:Int) (p.2:Int))::_=_;rw[show RT (x:Int) (p.2:Int)=((RT x p.2:Nat):Int) by lia];rfl
theorem AD:∀{a:a0h} {r:a0a} {k:Nat} (b:k<a.length) (c:k<r.length),(lq a r)[k]?=on (RT r[k] a[k].2)
 |p::a,x::r,0,_,_=>rfl
 |p::a,x::r,k+1,b,c=>AD (k:=k) (by simpa using b) (by simpa using c)
abbrev wg(a:a0h)(r:a0a)(c:Nat)(w:D)(b d e:a0R):Ds:=[on (.sh (tN r)),on (.sh (.int (c:Int))),on (.sh (.lst (a.map pN))),on (.sh (.lst ((nI (lj a)).map .int))),on (.sh (.lst ((nI (lq a r)).map .int))),on (.sh w),b,d,e]
theorem ME{w:a0h}{r:a0a}{c:Nat}(H:KX r)(v:w.length=r.length)(A:∀p∈w,p.1<=40/\p.2<=40)(hc:c<=40):(lA K a).1 [tN r,.int (c:Int),.lst (w.map pN)] β=on (.ok (.lst ((vB w r c).map tN)),β):=by
 obtain⟨_,R,G,T⟩:=H;have I:r.length<=Pf:=bo (by lia);have o:∀k,k<=r.length->(nB w r c k).length<=Pf:=λk m=>bo (O4 (w4 c k m) (O4 (uz r k) (by lia)));unfold lA
 dsimp only
 refine aB ?_;refine aA (d:= .lst ((nI (lj w)).map .int)) (β1:=β) ?_ ?_
 .have:=bi (nv:=2) (cx:=[]) (it:=d6 (ao 2)) (tg:=X_ (fS (hU 0) (fS (hU 1) k8))) (f:=ao 0) (δ:=vw (wg w r c .non OO OO OO)) (β:=β) w pN (λp=> .int (p.1:Int)) rfl (λx _=>⟨[on (.int (x.1:Int)),on (.int (x.2:Int))],rfl,rfl⟩) (by rw[v];exact I)
  refine Eq.trans this ?_;unfold lj;rw[O7,O7];rfl
 refine aA (d:= .lst ((nI (lq w r)).map .int)) (β1:=β) ?_ ?_
 .rw[<-AF]
  exact bi (nv:=3) (cx:=[]) (it:=yO (aj (ao 0) (aj (ao 2) (aK)))) (tg:=X_ (fS (hU 0) (fS (X_ (fS (hU 1) (fS (hU 2) k8))) k8))) (f:=aT vO (aj (ao 0) (aj (ao 2) (aK)))) (δ:=vw (wg w r c .non OO OO OO)) (β:=β) (r.zip w) (λq=>D.tup [.int (q.1:Int),pN q.2]) _ (by
   rw[<-i6 (λx:Nat=>D.int (x:Int)) pN];refine kx (x:=tN r) (y:= .lst (w.map pN)) rfl rfl ?_ rfl;show on _=on _;rw[O7];rfl) (λq _=>⟨[on (.int (q.1:Int)),on (.int (q.2.1:Int)),on (.int (q.2.2:Int))],rfl,ag rfl yQ⟩) (bo (by rw[Tf];lia))
 refine aA (d:= .lst ((nB w r c 0).map eN)) (β1:=β) (ag (aa (ag (aa (ag rfl rfl) (aa rfl rfl)) dX) rfl) mP) ?_;refine bD (ds:=aZ 0 r.length) (β1:=β) (bK (aa (ag (z:= .int (r.length:Int)) rfl (by show on (D.int _)=_;rw[ON,ON])) rfl) (F0 (by lia) (by lia))) (λk δ C=>β=C/\∃B t u,δ=wg w r c (.lst ((nB w r c k).map eN)) B t u) ⟨rfl,OO,OO,OO,rfl⟩ ?_ ?_
 .rintro k d δ _ hd ⟨rfl,B,t,u,rfl⟩
  obtain⟨m,rfl⟩:=yz hd;have j:k<w.length:=by lia
  have J:w[k]?=on w[k]:=OV j;have b40:=A _ (P3 j);have U:(lj w).sum<=160:=by
   have g:∀l:a0h,(∀p∈l,p.1<=40/\p.2<=40)->(lj l).sum<=40*l.length:=λl=>by
    induction l with
    |nil=>intro _;exact O5 _
    |cons p l E=>
     intro h;have:=E λq v=>h q (OR _ v);have:=(h p OZ).1;simp only[lj,O9,PD,Pg]at*;lia
   have:=g w A;lia
  have F:∀(l:a0a) (n:Nat),(l.drop n).sum<=l.sum:=λl n=>by
   conv=>rhs;rw[<-R1 n l,WJ]
   lia
  have L:=F (lj w) (k+1);have N:=O4 (F (lq w r) (k+1)) AC;refine⟨wg w r c (.lst ((nB w r c k).map eN)) (on (.sh (.int (k:Int)))) t u,rfl,?_⟩;refine aA (d:= .int ((((lj w).drop (k+1)).sum:Nat):Int)) (β1:=β) (ag (aa (sJ rfl (dq rfl rfl rfl)) rfl) ((Qo (λl=>gc [.lst l]) (wx (k:=k+1))).trans (AM _ _))) ?_;refine aA (d:= .int ((((lq w r).drop (k+1)).sum:Nat):Int)) (β1:=β) (ag (aa (sJ rfl (dq rfl rfl rfl)) rfl) ((Qo (λl=>gc [.lst l]) (wx (k:=k+1))).trans (AM _ _))) ?_;refine ai (aA (d:= .lst ((nB w r c (k+1)).map eN)) (β1:=β) ?_ (aR ⟨rfl,_,_,_,rfl⟩));have e:(nB w r c (k+1)).map eN=(nB w r c k).flatMap λb=>(nxB r[k] w[k] ((lj w).drop (k+1)).sum ((lq w r).drop (k+1)).sum b).map eN:=by
   show((nB w r c k).flatMap _).map eN=_;rw[Ry,cK m,cK j]
  rw[e];refine J4 (nB w r c k) eN _ rfl (λb A=>⟨[on (tN b.1),on (.int (b.2:Int)),OO,on (.lst ((nI (lj w)).map .int)),on (.int (k:Int)),on (.int ((((lq w r).drop (k+1)).sum:Nat):Int)),on (.lst ((nI (lq w r)).map .int)),on (.int ((((lj w).drop (k+1)).sum:Nat):Int))],rfl,?_⟩) (by
   rw[<-e,ON];exact o (k+1) m)
  obtain⟨W,M⟩:=AO w r c k b A;have X:=eA (P3 m);unfold nxB;generalize ((lj w).drop (k+1)).sum=few at*;generalize ((lq w r).drop (k+1)).sum=most at*;refine(CJ (O6 (RT (RT r[k] w[k].2+few) b.2+1-few-Yx w[k].1 (b.2-most))) (λi=>D.int ((Yx w[k].1 (b.2-most)+i:Nat):Int)) (λi=>eN (b.1++[Yx w[k].1 (b.2-most)+i],b.2-(Yx w[k].1 (b.2-most)+i))) ?_ ?_).trans (by rw[O7];rfl)
  .refine bK (as:=[.int ((Yx w[k].1 (b.2-most):Nat):Int),.int (RT ((RT r[k] w[k].2:Nat):Int) ((b.2:Int)-few)+1)]) (aa (ag (aa (dq rfl rfl (cT (d:= .int (w[k].1:Int)) ?_)) (aa (dq rfl rfl rfl) rfl)) (LT.trans ?_)) (aa (dq (ag (aa (dq rfl rfl (cT (d:= .int ((RT r[k] w[k].2:Nat):Int)) ?_)) (aa (dq rfl rfl rfl) rfl)) yQ) rfl rfl) rfl)) ((K2 (by lia) (by lia) (by lia)).trans ?_)
   .unfold lj
    rw[OY,OY,OY,J];rfl
   .rw[show Yx (w[k].1:Int) ((b.2:Int)-(most:Int))=((Yx w[k].1 (b.2-most):Nat):Int) by lia]
   .rw[OY,OY,AD j m];rfl
   .rw[show(RT ((RT r[k] w[k].2:Nat):Int) ((b.2:Int)-few)+1-((Yx w[k].1 (b.2-most):Nat):Int)).toNat=RT (RT r[k] w[k].2+few) b.2+1-few-Yx w[k].1 (b.2-most) by generalize RT r[k] w[k].2=x;generalize Yx w[k].1 (b.2-most)=y;lia]
  .refine λi O=>⟨[on (tN b.1),on (.int (b.2:Int)),on (.int ((Yx w[k].1 (b.2-most)+i:Nat):Int)),on (.lst ((nI (lj w)).map .int)),on (.int (k:Int)),on (.int (most:Int)),on (.lst ((nI (lq w r)).map .int)),on (.int (few:Int))],rfl,ag (aa (dq rfl (ag rfl rfl) (addT (l:=b.1) (c:=Yx w[k].1 (b.2-most)+i) (by lia))) (aa (dq rfl rfl rfl) rfl)) (dX.trans ?_)⟩
   have Q:=Pw.mp O;show on (D.tup [_,.int _])=on (D.tup [_,.int _]);rw[show(b.2:Int)-((Yx w[k].1 (b.2-most)+i:Nat):Int)=((b.2-(Yx w[k].1 (b.2-most)+i):Nat):Int) by lia]
 .rintro δ _ ⟨rfl,B,t,u,rfl⟩
  rw[qA];have h:=jz (nv:=2) (cx:=[]) (it:=d6 (ao 5)) (tg:=X_ (fS (hU 0) (fS (hU 1) k8))) (tt:=fB (f2 (pS) (ao 1) (fC (.int 0)))) (f:=ao 0) (δ:=hE (wg w r c (.lst ((nB w r c r.length).map eN)) B t u)) (β:=β) (nB w r c r.length) eN (λb=>tN b.1) (λb=>decide ((b.2:Int)=0)) rfl (λb _=>⟨[on (tN b.1),on (.int (b.2:Int))],rfl,hO (dq rfl rfl eq_int),λ_=>rfl⟩) (o _ (O5 _));refine ai (aI h ⟨rfl,?_⟩);rw[<-IT v,O7];rfl
theorem wC{E:Type}{G:na}{b:FL}{K:Dn}{β:Bg}(u:E->D)(o:E->a0c):∀(w:List E),(∀x∈w,∃a,G (u x) K=on a/\b a β=on (.ok (o x),β))->oa G (λ_=>M.ret OT) b (w.map u) K β=on (.ok (w.flatMap o),β)
 |[],_=>rfl
 |x::w,h=>by
  obtain⟨a,c,d⟩:=h x OZ;have e:=wC u o w λy f=>h y (OR _ f);rw[O9,oa];simp only[c,M.bind,M.ret,reduceIte,d,e,Qd]
theorem lV{E:Type}{K:Nat}{P:a0a}{S:FL}{V:na}{b:FL}{c:a0c->a0l}{G:Dn}{β:Bg}{d:D}(w:List E)(u:E->D)(o:E->a0c)(e:S G β=on (.ok (w.map u),β))
  (f:∀x∈w,∃a,V (u x) (lg K P G)=on a/\b a β=on (.ok (o x),β)) (g:c (w.flatMap o)=on d):ig K P S V (λ_=>M.ret OT) b c G β=on (.ok d,β):=by
 unfold ig;rw[e];simp only[wC u o w f,g,Ra]
theorem NM{E:Type}{K:FL}{P:na}{b:FL}{G:Dn}{β:Bg}(w:List E)(u:E->D)(o:E->a0c)(c:K G β=on (.ok (w.map u),β))(d:∀x∈w,∃a,P (u x) G=on a/\b a β=on (.ok (o x),β)):Z8 K P (λ_=>M.ret OT) b G β=on (.ok (w.flatMap o),β):=by
 unfold Z8 M.bind;rw[c];exact wC u o w d
noncomputable abbrev gU(B:a0f):LP:=B.map λa=>a.map λp=>((p.1:Int),(p.2:Int))
abbrev lu(B:a0f):D:=dE (gU B)
noncomputable def nl(B:a0f)(k:Nat):a0h:=B.map λa=>a.getD k (0,0)
def Wi(r c:Nat)(B:a0f):Prop:=jn r c B/\∀a∈B,∀p∈a,p.1<=p.2/\p.2<=40
def wB(B:a0f)(a:a0a):Wy:=λk r=>vB (nl B k) r (a.getD k 0)
theorem yd(B:a0f)(a:a0a):I_ a (wB B a):=λk r=>YG
theorem Wi.col{r c k:Nat}{B:a0f}(h:Wi r c B)(e:k<c):(nl B k).length=r/\∀p∈nl B k,p.1<=40/\p.2<=40:=by
 refine⟨by unfold nl;rw[ON,h.1.1],λp d=>?_⟩;obtain⟨a,b,rfl⟩:=Pe.mp d;have l:=h.1.2 a b;rw[cK (by lia)];have:=h.2 a b _ (P3 (show k<a.length by lia));lia
theorem J6{r E:a0a}{B:a0f}{k:Nat}(c:KX r)(hB:Wi r.length E.length B)(hc:E.sum<=40)(e:k<E.length):(b9 K a).1 [tN r,nL E,lu B,.int (k:Int)] β=on (.ok (.lst ((wB B E k r).map tN)),β):=by
 have g:E[k]?=on (E.getD k 0):=by rw[OU,OV e];rfl
 obtain⟨l,q⟩:=hB.col e;unfold b9
 dsimp only
 refine aB (ai (aI (af (aa rfl (aa (dq rfl rfl (cT (d:= .int (E.getD k 0:Int)) (by rw[OY,OY,g];rfl))) (aa ?_ rfl))) (ME c l q (O4 (eA (Pj g)) hc))) ⟨rfl,rfl⟩));have h:=bi (nv:=1) (cx:=[3]) (it:=d6 (ao 2)) (tg:=hU 0) (f:=f2 j0 (ao 0) (ao 1)) (δ:=[on (tN r),on (nL E),on (lu B),on (.int (k:Int))]) (β:=β) B (λw=>D.lst (w.map pN)) (λw=>pN (w.getD k (0,0))) (dm rfl (by
  show on _=on _;rw[O7,O7];exact Qo on (PF λw _=>Qo D.lst (by show QA pD (QA _ w)=_;rw[O7];rfl)))) (λw b=>⟨[on (D.lst (w.map pN)),on (.int (k:Int))],rfl,dq rfl rfl (cT (by
   have l:=hB.1.2 w b;rw[OY,cK (by lia),OV (by lia)];rfl))⟩) (bo (by rw[hB.1.1];have:=c.2.1;lia))
 refine h.trans ?_;unfold nl;rw[O7];rfl
theorem vV:∀{r v:a0a},ko v r->(r.zip v).map (λp=>D.int ((p.1:Int)-(p.2:Int)))=(nI (less r v)).map D.int
 |[],[],_=>rfl
 |x::r,y::v,h=>by
  have e:=vV h.2;have b:=h.1;show _::_=D.int ((x-y:Nat):Int)::(nI (less r v)).map D.int;rw[<-e];show D.int ((x:Int)-(y:Int))::_=_;rw[show(x:Int)-(y:Int)=((x-y:Nat):Int) by lia];rfl
 |[],_::_,h=>h.elim
 |_::_,[],h=>h.elim
theorem uy{r v:a0a}(h:ko v r)(b:r.length<=4):(cQ K a).1 [tN r,tN v] β=on (.ok (tN (less r v)),β):=by
 unfold cQ
 dsimp only
 refine aB (ai (aI (ag (aa (x:= .lst ((nI (less r v)).map D.int)) ?_ rfl) rfl) ⟨rfl,rfl⟩));rw[<-vV h];refine bi (r.zip v) (λp=>D.tup [.int (p.1:Int),.int (p.2:Int)]) _ ?_ (λp _=>⟨[on (.int (p.1:Int)),on (.int (p.2:Int))],rfl,rfl⟩) (bo (by rw[Tf];lia));rw[<-i6 (λx:Nat=>D.int (x:Int)) (λx:Nat=>D.int (x:Int))];refine kx (x:=tN r) (y:=tN v) rfl rfl ?_ ?_
 .show on _=on _
  rw[O7];rfl
 .show on _=on _
  rw[O7];rfl
structure Nt0 (rs cs:a0a):Prop where
 nr:KX rs
 wd:pr (rs.dropLast.map (·+1))<63
 sm:rs.sum=cs.sum
 c1:1<=cs.length
 c6:cs.length<=6
structure p0 (K:Pk) (a:Ad) (rs cs:a0a) (W:Wy) (bd:D):Prop extends Nt0 rs cs where
 ok:I_ cs W
 fl:∀{β:Bg} {k:Nat} {r:a0a},k<cs.length->KX r->r.length=rs.length->(b9 K a).1 [tN r,nL cs,bd,.int (k:Int)] β=on (.ok (.lst ((W k r).map tN)),β)
theorem p0.at{rs cs r:a0a}{k:Nat}{W:Wy}{b:D}(h:p0 K a rs cs W b)(c:k<=cs.length)(d:r∈h8 W rs k):KX r/\r.length=rs.length/\r.sum<=40:=by
 have q:=(ic h.ok h.sm k c r d).1;obtain⟨e,f,g,i⟩:=h.nr;have w:=q.len;have E:=q.sum;have G:=q.pr;exact⟨⟨by lia,by lia,by lia,by lia⟩,w,by lia⟩
abbrev B9(W:Wy)(a:a0a)(k:Nat):D:= .lst ((h8 W a k).map tN)
theorem F8{w cs:a0a}{W:Wy}{b:D}(h:p0 K a w cs W b):(fV K a).1 [nL w,nL cs,b] β=on (.ok (.lst ((O6 (cs.length+1)).map (B9 W w))),β):=by
 have G:=h.c6;unfold fV
 dsimp only
 refine aB ?_;refine aA (d:=B9 W w 0) (β1:=β) (ag (aa (ag rfl rfl) rfl) mP) ?_;refine um (ds:=[B9 W w 0]) (β1:=β) rfl (show 1<=Pf by decide) ?_;refine bD (ds:=aZ 0 cs.length) (β1:=β) (bK (aa (ag rfl (dh (r:=cs.length) (by rw[ON,ON]))) rfl) (F0 (by lia) (by lia))) (λk E c=>β=c/\∃e f,E=[on (.sh (nL w)),on (.sh (nL cs)),on (.sh (b)),on (.sh (B9 W w k)),on (.own ((O6 (k+1)).map (B9 W w))),e,f]) ⟨rfl,OO,OO,rfl⟩ ?_ ?_
 .rintro k d E _ hd ⟨rfl,e,f,rfl⟩
  obtain⟨g,rfl⟩:=yz hd;refine⟨_,rfl,aA (d:=B9 W w (k+1)) (β1:=β) ?_ (uo (cs:=(O6 (k+1)).map (B9 W w)) (d:=B9 W w (k+1)) rfl rfl (Pz (show _<1000 by rw[ON,Py];lia) (by decide)) (ai (aA (d:=B9 W w (k+1)) (β1:=β) rfl (aR ⟨rfl,on (.sh (.int (k:Int))),on (.sh (B9 W w (k+1))),?_⟩))))⟩
  .refine lV (h8 W w k) tN (λr=>(W k r).map λv=>tN (less r v)) rfl (λr j=>⟨[on (tN r),OO,on (nL cs),on (b),on (.int (k:Int))],rfl,?_⟩) ?_
   .obtain⟨i,l,_⟩:=h.at (by lia) j
    exact CJ _ tN _ (dm (af rfl (h.fl g i l)) rfl) (λv m=>⟨[on (tN r),on (tN v),on (nL cs),on (b),on (.int (k:Int))],rfl,af rfl (uy (dI ((h.ok k r).subset m)) i.2.1)⟩)
   .rw[<-Jz h.ok h.sm h.nr.1 h.wd g]
    unfold ZR;rw[Ry];simp only[O7];rfl
  .rw[SH (n:=k+1),PR];rfl
 .rintro E _ ⟨rfl,e,f,rfl⟩
  rw[qA];exact ai (aI rfl ⟨rfl,rfl⟩)
theorem qd{i:Nat}{w:a0X}{f:FD}{c d z:D}{h:G}{a:Ds}{β β1:Bg}{Q:a0z}(b:(vw a).getD i OO=on c)(e:f (vw a) β=on (.ok d,β1))(g:w c d=on z)(k:Gw h (a.set i (on (.sh z))) β1 Q):Gw (aJ (zo i w f) h) a β Q:=dF (by unfold zo;simp only[b,e,g,Ra]) k
theorem BK{m i:Nat}{d:D}(h:(aZ 2 m)[i]?=on d):i<m/\d= .int ((i+2:Nat):Int):=by
 obtain⟨x,b,rfl⟩:=bH (f:=λ(i:Nat)=>D.int (2+(i:Int))) (xs:=O6 m) h;have c:=(Pa.mp b).1;rw[Py]at c;rw[Qr c]at b;cases b;exact⟨c,by congr 1;lia⟩
theorem BH(a:Int)(m:Nat):(aZ a m).length=m:=by unfold aZ;rw[ON,Py]
theorem smN{n:Nat}(h:n<=2^11):n<2^1000:=bU h (by decide)
theorem xW(n:Nat):d5 (n-1+1)=d5 n:=by cases n<;>rfl
theorem xU{n:Nat}(h:n<=40):(gL K a).1 [.int (n:Int)] β=on (.ok (.int ((d5 n:Nat):Int)),β):=by
 unfold gL
 dsimp only
 refine aB ?_;refine aA (d:= .int 1) (β1:=β) rfl ?_;refine bD (ds:=aZ 2 (n-1)) (β1:=β) (bK (aa rfl (aa (dq rfl rfl rfl) rfl)) (rg2 (by lia))) (λi w b=>β=b/\∃c,w=[on (.sh (.int (n:Int))),on (.sh (.int ((d5 (i+1):Nat):Int))),c]) ⟨rfl,OO,rfl⟩ ?_ ?_
 .rintro i d w _ hd ⟨rfl,c,rfl⟩
  obtain⟨e,rfl⟩:=BK hd;exact⟨_,rfl,ai (qd rfl rfl (eG (bU (kQ (by lia)) (by decide)) (smN (by lia))) (aR ⟨rfl,_,rfl⟩))⟩
 .rintro w _ ⟨rfl,c,rfl⟩
  rw[BH,xW];exact ai (aI rfl ⟨rfl,rfl⟩)
theorem vU{n:Nat}(h:n<=40):(fP K a).1 [.int (n:Int)] β=on (.ok (.int ((d5 n:Nat):Int)),β):=by
 unfold fP
 dsimp only
 refine aB ?_;refine aA (d:= .int 1) (β1:=β) rfl ?_;refine bD (ds:=aZ 2 (n-1)) (β1:=β) (bK (aa rfl (aa (dq rfl rfl rfl) rfl)) (rg2 (by lia))) (λi w b=>β=b/\∃c,w=[on (.sh (.int (n:Int))),on (.sh (.int ((d5 (i+1):Nat):Int))),c]) ⟨rfl,OO,rfl⟩ ?_ ?_
 .rintro i d w _ hd ⟨rfl,c,rfl⟩
  obtain⟨e,rfl⟩:=BK hd;exact⟨_,rfl,ai (aA (dq rfl rfl (eG (bU (kQ (by lia)) (by decide)) (smN (by lia)))) (aR ⟨rfl,_,rfl⟩))⟩
 .rintro w _ ⟨rfl,c,rfl⟩
  rw[BH,xW];exact ai (aI rfl ⟨rfl,rfl⟩)
def O2(l:a0a):Nat:=d5 l.sum/pr (l.map d5)
theorem MT{l:a0a}{d:D}(h:Sq l d):qj [d]=on (.int ((l.sum:Nat):Int)):=by
 rw[<-ib];rcases h with rfl|rfl
 .exact KD _
 .exact KC _
theorem kM(l:a0a):gc [nL l]=on (.int ((l.sum:Nat):Int)):=by rw[<-ib];exact e9 _
theorem uP{l:a0a}{i n:Nat}(h:l.sum<=40)(a:l[i]?=on n):n<=40:=O4 (eA (Pj a)) h
theorem wT{l:a0a}{cd:D}(G:Sq l cd)(h:l.sum<=40):(qC K a).1 [cd] β=on (.ok (.int ((O2 l:Nat):Int)),β):=by
 unfold qC
 dsimp only
 refine aB ?_;refine bD (ds:=(nI l).map D.int) (β1:=β) (dm rfl G.seq) (λi w c=>β=c/\∃b,w=[on (.sh cd),b,OO]) ⟨rfl,OO,rfl⟩ ?_ ?_
 .rintro i d w _ hd ⟨rfl,b,rfl⟩
  obtain⟨n,E,rfl⟩:=qO hd;exact⟨_,rfl,ai (f8 (β1:=β) (hO (dq rfl rfl (by show on (D.bl (decide ((n:Int)<0)))=_;rw[PZ (by lia)]))) (bw (aR ⟨rfl,_,rfl⟩)))⟩
 rintro w _ ⟨rfl,b,rfl⟩;refine aA (d:= .int ((d5 l.sum:Nat):Int)) (β1:=β) (af (aa (ag rfl (MT G)) rfl) (xU h)) ?_;refine bD (ds:=(nI l).map D.int) (β1:=β) (dm rfl G.seq) (λi w c=>β=c/\∃b,w=[on (.sh cd),b,on (.sh (.int ((d5 l.sum/pr ((l.take i).map d5):Nat):Int)))]) ⟨rfl,b,by rw[W5,Sz,Lg,Nat.div_one];rfl⟩ ?_ ?_
 .rintro i d w _ hd ⟨rfl,b,rfl⟩
  obtain⟨n,E,rfl⟩:=qO hd;refine⟨_,rfl,ai (qd rfl (af rfl (xU (uP h E))) (oK (kP n) (bU (kQ (uP h E)) (by decide))) (aR ⟨rfl,on (.sh (.int (n:Int))),?_⟩))⟩;rw[iS E,XW];rfl
 .rintro w _ ⟨rfl,b,rfl⟩
  rw[vL,QU];exact ai (aI rfl ⟨rfl,rfl⟩)
theorem xV{l:a0a}{i:Nat}(h:l.sum<=40)(c:l.length<=4):pr ((l.take i).map d5)<=2^640:=by
 refine O4 (HA (m:=160) λx b=>?_) (Rg (by decide) ?_)
 .obtain⟨n,hn,rfl⟩:=Pe.mp b
  exact kQ (O4 (eA (SR hn)) h)
 .rw[ON,Q2];lia
theorem Gj{l:a0a}(h:l.sum<=40)(e:l.length<=4):(pJ K a).1 [nL l] β=on (.ok (.int ((O2 l:Nat):Int)),β):=by
 unfold pJ
 dsimp only
 refine aB ?_;refine aA (d:= .int 1) (β1:=β) rfl ?_;refine bD (ds:=(nI l).map D.int) (β1:=β) rfl (λi w b=>β=b/\∃c,w=[on (.sh (nL l)),on (.sh (.int ((pr ((l.take i).map d5):Nat):Int))),c]) ⟨rfl,OO,rfl⟩ ?_ ?_
 .rintro i d w _ hd ⟨rfl,c,rfl⟩
  obtain⟨n,E,rfl⟩:=qO hd;refine⟨_,rfl,ai (aA (dq rfl (af rfl (vU (uP h E))) (eG (bU (xV h e) (by decide)) (bU (kQ (uP h E)) (by decide)))) (aR ⟨rfl,on (.sh (.int (n:Int))),?_⟩))⟩;rw[iS E];rfl
 .rintro w _ ⟨rfl,c,rfl⟩
  rw[vL,QU];have f:=xV (i:=l.length) h e;rw[QU]at f;exact ai (aI (dq (af (aa (ag rfl (kM l)) rfl) (vU h)) rfl (oK (vy λx g=>by obtain⟨n,_,rfl⟩:=Pe.mp g;exact kP n) (bU f (by decide)))) ⟨rfl,rfl⟩)
theorem uW{l:a0a}(h:l.sum<=40):O2 l<=2^160:=O4 (WP _ _) (kQ h)
theorem qb(l:a0a):O2 l=mu l:=LO l
theorem uC{l:a0a}(h:l.sum<=40):mu l<=2^160:=by rw[<-qb];exact uW h
theorem ur{a:Type}{l:List a}{i:Nat}{x:a}(f:a->Nat)(h:l[i]?=on x):L2.Nt.sm (l.take (i+1)) f=L2.Nt.sm (l.take i) f+f x:=by
 rw[UR,h,u6];rfl
abbrev cv(W:Wy)(m k:Nat)(r:a0a):D:= .tup [.int ((qk W (m-k) k r:Nat):Int),.int ((ZJ W (m-k) k r:Nat):Int)]
abbrev ra(W:Wy)(a:a0a)(m k:Nat):D:= .dct OW ((h8 W a k).map λr=>((0:Int),nI r)) ((h8 W a k).map (cv W m k))
theorem CY{f:a0a->D}{u:a0a}:∀{L:a0n},u∈L->la (L.map λr=>((0:Int),nI r)) (L.map f) (0,nI u)=on (f u)
 |r::L,h=>by
  unfold la;rw[O9,O9,Q0,Rr];by_cases q:r=u
  .rw[q,Po rfl];rfl
  .rw[PZ λe=>q (fJ (SA.mp e).2)]
   exact CY ((Pb.mp h).resolve_left λe=>q e.symm)
theorem MJ{W:Wy}{a u:a0a}{m k:Nat}(h:u∈h8 W a k):GQ (ra W a m k) (tN u)=on (cv W m k u):=by
 show(dR OW (dK OW (0,nI u))).bind _=_;rw[gE λ_=>rfl];exact CY h
theorem yN{w cs r:a0a}{W:Wy}{q:D}{k:Nat}(h:p0 K a w cs W q)(o:k<cs.length)(p:r∈h8 W w k):(ix K a).1 [tN r,.lst ((W k r).map tN),ra W w cs.length (k+1)] β=on (.ok (cv W cs.length k r),β):=by
 obtain⟨t,y,u⟩:=h.at (by lia) p;unfold ix
 dsimp only
 refine aB ?_;refine aA (d:= .int 0) (β1:=β) rfl (aA (d:= .int 0) (β1:=β) rfl ?_);refine bD (ds:=(W k r).map tN) (β1:=β) rfl (λi E e=>β=e/\∃f g j,E=[on (.sh (tN r)),on (.sh (.lst ((W k r).map tN))),on (.sh (ra W w cs.length (k+1))),on (.sh (.int ((L2.Nt.sm ((W k r).take i) λv=>qk W (cs.length-(k+1)) (k+1) (less r v):Nat):Int))),on (.sh (.int ((L2.Nt.sm ((W k r).take i) λv=>mu v*ZJ W (cs.length-(k+1)) (k+1) (less r v):Nat):Int))),f,g,j]) ⟨rfl,OO,OO,OO,rfl⟩ ?_ ?_
 .rintro i d E _ hd ⟨rfl,f,g,j,rfl⟩
  obtain⟨v,l,rfl⟩:=bH hd;have G:=Pj l;have m:less r v∈h8 W w (k+1):=kJ.mpr ⟨r,p,v,G,rfl⟩;have b:=(h.ok k r).subset G;have M:=(ic h.ok h.sm (k+1) o _ m).2;have c:v.sum<=40:=O4 (dI b).sum u;have n:=(h.at o m).2.2;refine⟨_,rfl,jF (d:=cv W cs.length (k+1) (less r v)) (β1:=β) (dq rfl (af rfl (uy (dI b) t.2.1)) (MJ m)) rfl (qd rfl rfl rfl (ai (qd rfl (dq (af rfl (wT (.inr rfl) c)) rfl (eG (bU (uW c) (by decide)) (bU (O4 (wq h.ok _ _ _ (by lia)) (by rw[ng _ _ M];exact uC n)) (by decide)))) rfl (aR ⟨rfl,on (.sh (tN v)),on (.sh (.int ((qk W (cs.length-(k+1)) (k+1) (less r v):Nat):Int))),on (.sh (.int ((ZJ W (cs.length-(k+1)) (k+1) (less r v):Nat):Int))),?_⟩))))⟩;rw[ur _ l,ur _ l,qb,Uk,Uk];rfl
 .rintro E _ ⟨rfl,f,g,j,rfl⟩
  rw[ON,QU];refine ai (aI (ag rfl dX) ⟨rfl,?_⟩);show Rj (D.tup [.int ((qk W (cs.length-k) k r:Nat):Int),.int ((ZJ W (cs.length-k) k r:Nat):Int)])=_;rw[show cs.length-k=cs.length-(k+1)+1 by lia];rfl
theorem yc{f g:FD}{a:Dn}{k v:D}(b:f a β=on (.ok k,β))(c:g a β=on (.ok v,β)):GT f g a β=on (.ok [.tup [k,v]],β):=by
 unfold GT M.bind;rw[b];simp only[c,M.ret]
theorem we{a b:Type}(f:a->b)(l:List a):(l.flatMap λx=>[f x])=l.map f:=by
 induction l with
 |nil=>rfl
 |cons x l w=>rw[Qd,w];rfl
theorem vQ{rs w:a0a}{W:Wy}{b:D}(h:p0 K a rs w W b){k:Nat}(c:k<=w.length):(h8 W rs k).length<=62:=by
 have:=JD h.ok h.sm c;have:=h.wd;lia
theorem dk0{w cs:a0a}{W:Wy}{b:D}(h:p0 K a w cs W b){k:Nat}(c:k<=cs.length){E:a0c}(e:E=(h8 W w k).map λr=> .tup [tN r,cv W cs.length k r]):lU OW E=on (ra W w cs.length k):=by
 refine(x4 (kvs:=(h8 W w k).map λr=>(((0:Int),nI r),cv W cs.length k r)) ⟨?_,?_,?_,?_⟩).trans ?_
 .rw[e,O7];rfl
 .rw[O7];exact CO (λx y q=>fJ (SA.mp q).2) (vR k)
 .rw[ON];exact bo (by have:=vQ h c;lia)
 .rintro p d _
  obtain⟨r,_,rfl⟩:=Pe.mp d;rfl
 .rw[O7,O7];rfl
theorem Nr{n:Nat}(h:n<=1000):uv [.int (n:Int)]=on (iI n):=by
 simp only[uv];rw[O0 (by simp only[PL,P9];lia),QN]
theorem Nu{n i:Nat}{d:D}(h:(iI n)[i]?=on d):i<n/\d= .int ((n-1-i:Nat):Int):=by
 obtain⟨x,b,rfl⟩:=bH (f:=λ(i:Nat)=>D.int ((n:Int)-1-i)) (xs:=O6 n) h;have c:=(Pa.mp b).1;rw[Py]at c;rw[Qr c]at b;cases b;exact⟨c,by congr 1;lia⟩
theorem BJ{f:Nat->D}{n k:Nat}(h:k<n):((O6 n).map f)[k]?=on (f k):=by rw[OY,Qr h];rfl
theorem EC{f:Nat->D}:∀n j,cL j ((List.range' j n).map f)=(List.range' j n).map λk=> .tup [.int (k:Int),f k]
 |0,_=>rfl
 |n+1,j=>by
  rw[List.range'_succ,O9,O9,<-EC n (j+1)];rfl
theorem Je{f:Nat->D}(m:Nat):((O6 (m+1)).map λj=>f (m-j)).reverse=(O6 (m+1)).map f:=Rx (by simp) λi b c=>by
 simp only[YH,ON,Py]at b;simp only[Yq,RY,Sy,ON,Py];congr 1;lia
abbrev MO(W:Wy)(a:a0a)(m:Nat):a0c:=(O6 (m+1)).flatMap λk=>(h8 W a k).map (cv W m k)
abbrev sE(W:Wy)(rs:a0a)(m:Nat):D:= .dct OT (Z4 W rs (m+1)) (MO W rs m)
theorem dk1{rs cs:a0a}{W:Wy}{b:D}(h:p0 K a rs cs W b){w:a0c}(e:w=(O6 (cs.length+1)).flatMap λ(k:Nat)=>(h8 W rs k).map λr=> .tup [.tup [.int (k:Int),tN r],cv W cs.length k r]):lU OT w=on (sE W rs cs.length):=by
 refine(x4 (kvs:=(O6 (cs.length+1)).flatMap λ(k:Nat)=>(h8 W rs k).map λr=>(((k:Int),nI r),cv W cs.length k r)) ⟨?_,?_,?_,?_⟩).trans ?_
 .rw[e,Ry];simp only[O7];rfl
 .have:=DE (W:=W) (rs:=rs) (cs.length+1)
  unfold Z4 at this;rw[Ry];simp only[O7];exact this
 .refine bo (O4 (iX (n:=62) λk c=>?_) (by have:=h.c6;rw[Py];lia))
  have:=Pw.mp c;rw[ON];exact vQ h (by lia)
 .rintro p _ q
  cases q
 .unfold sE Z4
  rw[Ry,Ry];simp only[O7];rfl
theorem zC{w cs:a0a}{W:Wy}{b:D}(h:p0 K a w cs W b):(eJ K a).1 [nL w,nL cs,b] β=on (.ok (sE W w cs.length),β):=by
 have G:=h.c6;unfold eJ
 dsimp only
 refine aB ?_;refine aA (d:= .lst ((O6 (cs.length+1)).map (B9 W w))) (β1:=β) (af rfl (F8 h)) ?_;refine aA (d:= .int (cs.length:Int)) (β1:=β) (ag rfl (dh (by rw[ON,ON]))) ?_;refine aA (d:=ra W w cs.length cs.length) (β1:=β) (lV (h8 W w cs.length) tN (λr=>[.tup [tN r,.tup [.int 1,.int 1]]]) (dm (dq rfl rfl (cT (BJ (by lia)))) rfl) (λr _=>⟨[on (tN r)],rfl,yc rfl (ag rfl dX)⟩) (dk0 h (O5 _) (by rw[we];simp only[cv,TU];rfl))) ?_;refine um (ds:=[ra W w cs.length cs.length]) (β1:=β) rfl (show 1<=Pf by decide) ?_;refine bD (ds:=iI cs.length) (β1:=β) (bK rfl (Nr (by lia))) (λi E c=>β=c/\∃e f,E=[on (.sh (nL w)),on (.sh (nL cs)),on (.sh (b)),on (.sh (.lst ((O6 (cs.length+1)).map (B9 W w)))),on (.sh (.int (cs.length:Int))),on (.sh (ra W w cs.length (cs.length-i))),on (.own ((O6 (i+1)).map λj=>ra W w cs.length (cs.length-j))),e,f]) ⟨rfl,OO,OO,rfl⟩ ?_ ?_
 .rintro i d E _ hd ⟨rfl,e,f,rfl⟩
  obtain⟨p,rfl⟩:=Nu hd;have l:cs.length-1-i<cs.length:=by lia
  have o:cs.length-i=(cs.length-1-i)+1:=by lia
  have m:cs.length-(i+1)=cs.length-1-i:=by lia
  rw[o];refine⟨_,rfl,aA (d:=ra W w cs.length (cs.length-1-i+1)) (β1:=β) rfl (aA (d:=ra W w cs.length (cs.length-1-i)) (β1:=β) (lV (h8 W w (cs.length-1-i)) tN (λr=>[.tup [tN r,cv W cs.length (cs.length-1-i) r]]) (dm (dq rfl rfl (cT (BJ (by lia)))) rfl) (λr g=>⟨[on (tN r),on (nL cs),on (b),on (.int ((cs.length-1-i:Nat):Int)),on (ra W w cs.length (cs.length-1-i+1))],rfl,yc rfl (af (aa rfl (aa (af rfl (h.fl l (h.at (by lia) g).1 (h.at (by lia) g).2.1)) rfl)) (yN h l g))⟩) (dk0 h (by lia) (we _ _))) (ai (uo (cs:=(O6 (i+1)).map λj=>ra W w cs.length (cs.length-j)) (d:=ra W w cs.length (cs.length-1-i)) rfl rfl (Pz (show _<1000 by rw[ON,Py];lia) (by decide)) (aR ⟨rfl,on (.sh (.int ((cs.length-1-i:Nat):Int))),on (.sh (ra W w cs.length (cs.length-1-i+1))),?_⟩))))⟩;rw[SH (n:=i+1),PR,m];show _=[_,_,_,_,_,_,on (Sl.own (_++[ra W w cs.length (cs.length-(i+1))])),_,_];rw[m];rfl
 .rintro E _ ⟨rfl,e,f,rfl⟩
  rw[show(iI cs.length).length=cs.length by unfold iI;rw[ON,Py]];refine ai (aI (lV (O6 (cs.length+1)) (λk=> .tup [.int (k:Int),ra W w cs.length k]) (λ(k:Nat)=>(h8 W w k).map λr=> .tup [.tup [.int (k:Int),tN r],cv W cs.length k r]) (bK (aa (dq (y:= .int (-1)) rfl rfl rfl) rfl) ?_) (λk _=>⟨[on (.int (k:Int)),on (ra W w cs.length k),OO,OO],rfl,?_⟩) (dk1 h rfl)) ⟨rfl,rfl⟩)
  .show on (cL 0 _)=_
   rw[Je,List.range_eq_range',EC]
  .refine(NM (h8 W w k) (λr=> .tup [tN r,cv W cs.length k r]) (λr=>[.tup [.tup [.int (k:Int),tN r],cv W cs.length k r]]) ?_ (λr _=>⟨[on (.int (k:Int)),on (ra W w cs.length k),on (tN r),on (cv W cs.length k r)],rfl,yc (ag rfl dX) rfl⟩)).trans (by rw[we])
   show on (Rj (TF _ _ _),β)=_;rw[List.zipWith_map_left,List.zipWith_map_right,Zt];rfl
theorem DT{r c:Nat}{a:LI}(h:jn r c a):(gI a).length=r:=by rw[ON,h.1]
theorem tp_e{r c:Nat}{w:LI}(E:jn r c w)(r0:1<=r)(r1:r<=30)(K:c<=30){δ:Dn}(h:δ.getD 0 OO=on (bN w)):c7 1 [0] (dz gz (aj (aT fA (aj (f2 j0 (ao 0) (fC (.int 0))) (aK))) (aK))) (hU 0) (λ_=>M.ret OT) (lk (c7 1 [0] (d6 (ao 1)) (hU 0) (λ_=>M.ret OT) (lk (f2 j0 (ao 0) (ao 1))))) δ β=on (.ok (bN (tp c w)),β):=by
 obtain⟨b,d,g⟩:=E.at (i:=0) (by lia);have k:(gI w)[0]?=on (b.map D.int):=by rw[OY,d];rfl
 have o:aT fA (aj (f2 j0 (ao 0) (fC (.int 0))) (aK)) δ β=on (.ok (.int (c:Int)),β):=ag (aa (x:= .lst (b.map D.int)) (dq (x:=bN w) (p9 h) rfl (oB k)) rfl) (dh (by rw[ON,g]));have e:=bi (nv:=1) (cx:=[0]) (it:=dz gz (aj (aT fA (aj (f2 j0 (ao 0) (fC (.int 0))) (aK))) (aK))) (tg:=hU 0) (f:=c7 1 [0] (d6 (ao 1)) (hU 0) (λ_=>M.ret OT) (lk (f2 j0 (ao 0) (ao 1)))) (δ:=δ) (β:=β) (O6 c) (λi=>D.int (0+(i:Int))) (λj=>D.lst (w.map λa=>D.int (a.getD j 0))) (bK (ds:=aZ 0 c) (aa o rfl) (F0 (by lia) (by lia))) ?_ (bo (by rw[Py];lia))
 .rw[e]
  unfold tp y0;show _=on (Rj (D.lst (QA D.lst (QA _ (QA _ _)))),β);rw[O7,O7];congr 4;refine PF λj _=>?_;show _=D.lst ((w.map λa=>a.getD j 0).map D.int);rw[O7];rfl
 .intro j p
  have q:=Pw.mp p;have m:lg 1 [0] δ=[OO,on (bN w)]:=by
   unfold lg;simp only[O9,Sz,h];rfl
  refine⟨[on (.int (0+(j:Int))),on (bN w)],by rw[m];rfl,?_⟩;have G:(gI w).map D.lst=w.map λa=>D.lst (a.map D.int):=by rw[O7];rfl
  refine bi (nv:=1) (cx:=[0]) w (λa=>D.lst (a.map D.int)) _ (by show on (Rj ((gI w).map D.lst),β)=_;rw[G]) (λa t=>⟨_,rfl,dq (x:= .lst (a.map D.int)) (y:= .int (0+(j:Int))) rfl rfl ?_⟩) (bo (by rw[E.1];lia));have u:=E.2 a t;obtain⟨x,n⟩:=Io (l:=a) (i:=j) (by lia);rw[TH];refine cT ?_;rw[OY,n,OU,n];rfl
theorem yW{r c:Nat}{w:LI}(D:jn r c w)(r0:1<=r)(r1:r<=30)(E:c<=30):(qE K a).1 [bN w] β=on (.ok (bN (tp c w)),β):=
 aB (ai (aI (tp_e D r0 r1 E rfl) ⟨rfl,rfl⟩))
noncomputable abbrev iL(a:a0e):D:= .lst (a.map D.int)
theorem AL{w:LI}(h:w.length<=1000){f:FD}{δ:Dn}(e:f δ β=on (.ok (bN w),β)):c7 1 [] (d6 f) (hU 0) (λ_=>M.ret OT) (lk (aT gc (aj (ao 0) (aK)))) δ β=on (.ok (iL (w.map QZ)),β):=by
 have E:(gI w).map D.lst=w.map λa=>D.lst (a.map D.int):=by rw[O7];rfl
 have:=bi (nv:=1) (cx:=[]) (it:=d6 f) (tg:=hU 0) (f:=aT gc (aj (ao 0) (aK))) (δ:=δ) (β:=β) w (λa=>D.lst (a.map D.int)) (λa=>D.int a.sum) (by rw[<-E];exact dm e rfl) (λa _=>⟨_,rfl,ag rfl (e9 a)⟩) (bo h);rw[this];show _=on (Rj (D.lst ((w.map QZ).map D.int)),β);rw[O7];rfl
theorem qz{ba:LI}(h:ba.length<=1000):(kg K a).1 [bN ba] β=on (.ok (iL (ba.map QZ)),β):=
 aB (ai (aI (AL h rfl) ⟨rfl,rfl⟩))
theorem l7{r c:Nat}{ba:LI}(w:jn r c ba)(r0:1<=r)(r1:r<=30)(D:c<=30):(gB K a).1 [bN ba] β=on (.ok (iL ((tp c ba).map QZ)),β):=
 aB (ai (aI (AL (by rw[(rJ (d:=(0:Int)) (c:=c) w.1).1];lia) (af rfl (yW w r0 r1 D))) ⟨rfl,rfl⟩))
noncomputable def gp(G:LI)(i j:Nat):Int:=(G.getD i []).getD j 0
theorem Oz{G:LI}{i j:Nat}{a:a0e}{x:Int}(b:G[i]?=on a)(c:a[j]?=on x):gp G i j=x:=by
 unfold gp;simp only[OU,b,c,Y6]
theorem DR{G:LI}{i j:Nat}{a:a0e}(b:G[i]?=on a):a.getD j 0=gp G i j:=by
 unfold gp;rw[OU (l:=G),b];rfl
theorem E6:∀(a:a0e),S a.length (λj=>a.getD j 0)=a.sum:=λa=>by
 unfold S;congr 1;refine Rx (by simp) λi c b=>?_;rw[RY,Sy,OU,OV b];rfl
theorem MV{r c i:Nat}{A:LI}(d:jn r c A)(e:i<r):S c (gp A i)=(A.map QZ).getD i 0:=by
 obtain⟨f,b,g⟩:=d.at e;rw[OU,OY,b];show _=f.sum;rw[<-E6,g];exact dU λj _=>(DR b).symm
theorem MW{r c j:Nat}{A:LI}(b:jn r c A)(f:j<c):S r (λp=>gp A p j)=((tp c A).map QZ).getD j 0:=by
 have e:(tp c A)[j]?=on (A.map λa=>a.getD j 0):=by
  show((O6 c).map λj=>A.map λa=>a.getD j 0)[j]?=_;rw[OY,Qr f];rfl
 rw[OU,OY,e];show _=(A.map λa=>a.getD j 0).sum;rw[<-E6,ON,b.1];refine dU λp g=>?_;obtain⟨h,d,i⟩:=b.at g;rw[OU (l:=A.map _),OY,d];exact(DR d).symm
theorem CM{w:a0e}{b:a0a}(c:∀i∈b,i<w.length)(d:b.length<=1000):(mE K a).1 [iL w,nL b] β=on (.ok (.int (qN w b)),β):=by
 unfold mE
 dsimp only
 refine aB (ai (aI (ag (aa (x:=iL (b.map λi=>w.getD i 0)) ?_ rfl) (e9 _)) ⟨rfl,rfl⟩));have:=bi (nv:=1) (cx:=[0]) (it:=d6 (ao 1)) (tg:=hU 0) (f:=f2 j0 (ao 1) (ao 0)) (δ:=[on (iL w),on (nL b)]) (β:=β) b (λi=>D.int (i:Int)) (λi=>D.int (w.getD i 0)) (by show on (Rj ((nI b).map D.int),β)=_;rw[O7];rfl) (λi e=>⟨_,rfl,dq rfl rfl (HW (c i e))⟩) (bo d);refine this.trans ?_;show _=on (Rj (D.lst ((b.map λi=>w.getD i 0).map D.int)),β);rw[O7];rfl
theorem tL{r c j:Nat}{w:a0e}{b:LP}{g:a0a}(E:jn r c b)(hc:w.length=c)(k:r<=1000)(l:j<c):(db K a).1 [iL w,dE b,nL g,.int (j:Int)] β=on (.ok (.int (fi w b r g j)),β):=by
 unfold db
 dsimp only
 refine aB ?_;refine aA (d:=iL (((O6 r).filter λi=>!decide (i∈g)).map λi=>(bI b i j).1)) (β1:=β) ?_ ?_
 .have m:((gP b).map D.lst).length=r:=by rw[ON,ON,E.1]
  have:=jz (nv:=2) (cx:=[2,3]) (it:=HF (aj (ao 1) aK)) (tg:=X_ (fS (hU 0) (fS (hU 1) k8))) (tt:=fB (f2 (ZS OT) (ao 0) (ao 2))) (f:=f2 j0 (f2 j0 (ao 1) (ao 3)) (fC (.int 0))) (δ:=[on (iL w),on (dE b),on (nL g),on (.int (j:Int)),OO]) (β:=β) (O6 r) (λi=>D.tup [.int (i:Int),.lst ((b.getD i []).map pD)]) (λi=>D.int (bI b i j).1) (λi=>!decide (i∈g)) ?_ (λi h=>⟨_,rfl,hO (dq rfl rfl v8),λ_=>dq (dq rfl rfl (v4 E (Pw.mp h) l).2) rfl lJ⟩) (bo (by rw[Py];exact k))
  .refine this.trans ?_
   show _=on (Rj (D.lst ((((O6 r).filter λi=>!decide (i∈g)).map λi=>(bI b i j).1).map D.int)),β);rw[O7];rfl
  .show on (Rj (cL 0 ((gP b).map D.lst)),β)=_
   rw[pe,m];congr 3;refine PF λi h=>?_;rw[QR];congr 3;obtain⟨e,_⟩:=E.getD (Pw.mp h);rw[OU,OY,OY,e];rfl
 refine ai (aI (dq (x:= .int (w.getD j 0)) (dq rfl rfl (HW (by lia))) (ag rfl (e9 _)) rfl) ⟨rfl,?_⟩);have e:(O6 r).map (λi=>if i∈g then(0:Int)else(bI b i j).1)=(O6 r).map (λx=>if(!decide (x∈g))=OT then(bI b x j).1 else 0):=PF λi _=>by by_cases q:i∈g<;>simp[q]
 unfold fi S;rw[xT,e]
theorem ue{r c j:Nat}{b:LP}{d:a0a}(w:jn r c b)(e:∀i∈d,i<r)(k:d.length<=1000)(g:j<c):(de K a).1 [dE b,nL d,.int (j:Int)] β=on (.ok (.int (f6 b d j)),β):=by
 unfold de
 dsimp only
 refine aB (ai (aI (ag (aa (x:=iL (d.map λi=>(bI b i j).2)) ?_ rfl) (e9 _)) ⟨rfl,rfl⟩));have:=bi (nv:=1) (cx:=[0,2]) (it:=d6 (ao 1)) (tg:=hU 0) (f:=f2 j0 (f2 j0 (f2 j0 (ao 1) (ao 0)) (ao 2)) (fC (.int 1))) (δ:=[on (dE b),on (nL d),on (.int (j:Int))]) (β:=β) d (λi=>D.int (i:Int)) (λi=>D.int (bI b i j).2) (by show on (Rj ((nI d).map D.int),β)=_;rw[O7];rfl) (λi h=>⟨_,rfl,dq (dq (dq rfl rfl (v4 w (e i h) g).1) rfl (v4 w (e i h) g).2) rfl mW⟩) (bo k);refine this.trans ?_;show _=on (Rj (D.lst ((d.map λi=>(bI b i j).2).map D.int)),β);rw[O7];rfl
theorem BG{r c:Nat}{w:a0e}{b:LP}{d e:a0a}(E:jn r c b)(hc:w.length=c)(k:r<=1000)(h:c<=1000)(l:∀i∈d,i<r)(m:d.length<=1000):(mD K a).1 [iL w,dE b,nL d,nL e] β=on (.ok (.int (uw w b r c d e)),β):=by
 unfold mD
 dsimp only
 refine aB (ai (aI (ag (aa (x:=iL ((O6 c).map λj=>if j∈e then fi w b r d j else f6 b d j)) ?_ rfl) (e9 _)) ⟨rfl,rfl⟩));have:=bi (nv:=1) (cx:=[3,0,1,2]) (it:=dz gz (aj (aT fA (aj (ao 0) (aK))) (aK))) (tg:=hU 0) (f:=Z7 (fB (f2 (ZS OW) (ao 0) (ao 1))) (d7 (db K a).1 (aj (ao 2) (aj (ao 3) (aj (ao 4) (aj (ao 0) (aK)))))) (d7 (de K a).1 (aj (ao 3) (aj (ao 4) (aj (ao 0) (aK)))))) (δ:=[on (iL w),on (dE b),on (nL d),on (nL e)]) (β:=β) (O6 c) (λj=>D.int (0+(j:Int))) (λj=>D.int (if j∈e then fi w b r d j else f6 b d j)) (bK (ds:=aZ 0 c) (aa (ag rfl (dh (by rw[ON,hc]))) rfl) (F0 (by lia) (by lia))) (λj n=>⟨[on (.int (j:Int)),on (nL e),on (iL w),on (dE b),on (nL d)],by rw[TH];rfl,?_⟩) (bo (by rw[Py];exact h))
 .refine this.trans ?_
  show _=on (Rj (D.lst (((O6 c).map λj=>if j∈e then fi w b r d j else f6 b d j).map D.int)),β);rw[O7];rfl
 .have g:=Pw.mp n
  by_cases q:j∈e
  .rw[O0 q]
   exact G6 (hO (dq rfl rfl (by rw[v8];simp[q]))) (af rfl (tL E hc k g))
  .rw[O1 q]
   exact G7 (hO (dq rfl rfl (by rw[v8];simp[q]))) (af rfl (ue E l m g))
theorem CP{r c:Nat}{w:a0e}{b:LP}{d:a0a}(E:jn r c b)(hc:w.length=c)(k:r<=1000)(e:c<=1000)(l:∀i∈d,i<r)(m:d.length<=1000):(j9 K a).1 [iL w,dE b,nL d] β=on (.ok (nL (vK w b r c d)),β):=by
 unfold j9
 dsimp only
 refine aB ?_;have h:=jz (nv:=1) (cx:=[0,1,2]) (it:=dz gz (aj (aT fA (aj (ao 0) (aK))) (aK))) (tg:=hU 0) (tt:=fB (f2 (Z3) (d7 (db K a).1 (aj (ao 1) (aj (ao 2) (aj (ao 3) (aj (ao 0) (aK)))))) (d7 (de K a).1 (aj (ao 2) (aj (ao 3) (aj (ao 0) (aK))))))) (f:=ao 0) (δ:=[on (iL w),on (dE b),on (nL d)]) (β:=β) (O6 c) (λj=>D.int (0+(j:Int))) (λj=>D.int (j:Int)) (λj=>decide (fi w b r d j<f6 b d j))
  (bK (ds:=aZ 0 c) (aa (ag rfl (dh (by rw[ON,hc]))) rfl) (F0 (by lia) (by lia)))
  (λj g=>⟨[on (.int (j:Int)),on (iL w),on (dE b),on (nL d)],by rw[TH];rfl,hO (dq (af rfl (tL E hc k (Pw.mp g))) (af rfl (ue E l m (Pw.mp g))) rfl),λ_=>rfl⟩) (bo (by rw[Py];exact e))
 refine ai (aI h ⟨rfl,?_⟩);show Rj (D.lst ((nI (vK w b r c d)).map D.int))=_;rw[O7];rfl
theorem K0{n i:Nat}{d:D}(h:(aZ 0 n)[i]?=on d):i<n/\d= .int (i:Int):=by
 obtain⟨x,b,rfl⟩:=bH (f:=λ(i:Nat)=>D.int (0+(i:Int))) (xs:=O6 n) h;have c:=(Pa.mp b).1;rw[Py]at c;rw[Qr c]at b;cases b;exact⟨c,by rw[TH]⟩
theorem zG{n:Nat}(w:n<=6):(mF K a).1 [.int (n:Int)] β=on (.ok (.lst ((vu n).map nL)),β):=by
 unfold mF
 dsimp only
 refine aB ?_;refine aA (d:= .lst [.lst []]) (β1:=β) (ag (aa (ag rfl Gk) rfl) mP) ?_;refine bD (ds:=aZ 0 n) (β1:=β) (bK rfl (F0 (by lia) (by lia))) (λi δ b=>β=b/\∃c,δ=[on (.sh (.int (n:Int))),on (.sh (.lst ((vu i).map nL))),c]) ⟨rfl,OO,rfl⟩ ?_ ?_
 .rintro i d δ _ hd ⟨rfl,c,rfl⟩
  obtain⟨g,rfl⟩:=K0 hd;have j:(vu i).length<=64:=by rw[x6];exact O4 (Rg (by decide) (show i<=6 by lia)) (by decide)
  refine⟨[on (.sh (.int (n:Int))),on (.sh (.lst ((vu i).map nL))),on (.sh (.int (i:Int)))],rfl,ai (aA (d:= .lst ((vu (i+1)).map nL)) (β1:=β) ?_ (aR ⟨rfl,_,rfl⟩))⟩;have h:=bi (nv:=1) (cx:=[2]) (it:=d6 (ao 1)) (tg:=hU 0) (f:=f2 iC (ao 0) (aT iM (aj (ao 1) (aK)))) (δ:=vw [on (.sh (.int (n:Int))),on (.sh (.lst ((vu i).map nL))),on (.sh (.int (i:Int)))]) (β:=β) (vu i) nL (λl=>nL (l++[i])) rfl (λl e=>⟨[on (nL l),on (.int (i:Int))],rfl,by
   have k:l.length<=i:=by have:=(i5 i l e).length_le;rwa[Py]at this
   refine dq rfl (ag rfl mP) ((oR ?_).trans ?_)
   .rw[ON,ON,Qa];lia
   .simp only[nL,nI,PR,O9,Sz]⟩) (bo (by lia))
  refine dq rfl h ((oR ?_).trans ?_)
  .rw[ON,ON];lia
  .rw[vu,PR,O7];rfl
 .rintro δ _ ⟨rfl,c,rfl⟩
  rw[show(aZ 0 n).length=n by unfold aZ;rw[ON,Py]];exact ai (aI rfl ⟨rfl,rfl⟩)
theorem MM{r:Nat}{b:a0a}(h:b∈vu r):(∀i∈b,i<r)/\b.length<=r:=⟨λi c=>Pw.mp ((i5 r b h).subset c),by have:=(i5 r b h).length_le;rwa[Py]at this⟩
theorem MD{r c:Nat}{E w:a0e}{b:LP}(P:jn r c b)(l:E.length=r)(hc:w.length=c)(m:r<=6)(n:c<=6)(V:∀X Y,0<=slB E w b r c X Y):(fG K a).1 [iL E,iL w,dE b] β=on (.ok .non,β):=by
 unfold fG
 dsimp only
 refine aB (ai (bD (ds:=(vu r).map nL) (β1:=β) (dm (af (aa (ag rfl (dh (r:=r) (by rw[ON,l]))) rfl) (zG m)) rfl) (λi G f=>β=f/\∃g h,G=[on (.sh (iL E)),on (.sh (iL w)),on (.sh (dE b)),g,h]) ⟨rfl,OO,OO,rfl⟩ ?_ ?_))
 .rintro i d G _ hd ⟨rfl,g,h,rfl⟩
  obtain⟨e,p,rfl⟩:=bH hd;have S:=Pj p;obtain⟨k,q⟩:=MM S;refine⟨_,rfl,aA (d:=nL (vK w b r c e)) (β1:=β) (af rfl (CP P hc (by lia) (by lia) k (by lia))) ?_⟩;refine ai (f8 (hO (dq (af rfl (CM (by rw[l];exact k) (by lia))) (af rfl (BG P hc (by lia) (by lia) k (by lia))) ?_)) (bw (aR ⟨rfl,_,_,rfl⟩)));have o:=V (λi=>decide (i∈e)) (λj=>decide (j∈vK w b r c e));have M:(vK w b r c e).Sublist (O6 c):=YG;rw[<-KN (i5 r e S) M]at o;show on (D.bl (decide _))=_;rw[PZ (by lia)]
 .rintro G _ ⟨rfl,g,h,rfl⟩
  exact aR ⟨rfl,rfl⟩
theorem IN{r c:Nat}{a:LI}{b:LP}(w:jn r c a)(m:jn r c b)(G:Kp a b)(X Y:Nat->Bool):0<=slB (a.map QZ) ((tp c a).map QZ) b r c X Y:=by
 refine IV (g:=gp a) (λi f j h=>?_) (λi f=>(MV w f).symm) (λj h=>(MW w h).symm) X Y;obtain⟨D,k,n⟩:=w.at f;have E:=oQ (l:=D) (i:=j) (d:=0) (by lia);obtain⟨e,l⟩:=m.getD f;have K:=oQ (l:=b.getD i []) (i:=j) (d:=((0,0):Int×Int)) (by lia);rw[Oz k E];exact G i j _ _ (nF k E) (nF e K)
variable{m i:a0a}
theorem Ie{g:G}{a:Ds}{o:si}(h:Gw g a β (λc b=>c=o/\b=β)):g a β=on (o,β):=by
 obtain⟨c,b,e,rfl,rfl⟩:=h;exact e
theorem eW{t:a0q}{d b h:G}{a:Ds}{β1:Bg}{c:Bool}{Q:a0z}(e:t (hE a) β=on (.ok c,β1))(hc:c=OW)(k:Gw (aJ b h) a β1 Q):Gw (aJ (B_ t d b) h) a β Q:=by
 subst hc;exact f8 e k
theorem NF{p:Int×Int}(h:pq p):(ji K a).1 [pD p] β=on (.ok .non,β):=by
 obtain⟨b,c,e⟩:=h;unfold ji
 dsimp only
 refine aB ?_;exact jF (d:=pD p) (β1:=β) rfl rfl (ai (eW (jE (hO (Fb rfl rfl rfl rfl))) (by simp;lia) (bw (aR ⟨rfl,rfl⟩))))
theorem IX{r c:Nat}{b:LP}(g:x_ r c b)(n:r<=1000):(cV K a).1 [dE b,.int (r:Int),.int (c:Int)] β=on (.ok (dE b),β):=by
 unfold cV
 dsimp only
 refine aB ?_;refine f8 (β1:=β) (hO (dq rfl rfl rfl)) (bw ?_);have o:c7 1 [2] (d6 (ao 0)) (hU 0) (λ_=>M.ret OT) (lk (f2 (kj) (aT fA (aj (ao 0) (aK))) (ao 1))) [on (dE b),on (.int (r:Int)),on (.int (c:Int)),OO,OO] β=on (.ok (.lst (b.map λ_=>D.bl OW)),β):=
  bi (nv:=1) (cx:=[2]) b (λw=>D.lst (w.map pD)) _ (by show on _=_;rw[O7];rfl) (λw h=>⟨_,rfl,dq (ag rfl (dh (r:=c) (by rw[ON];exact g.shp.2 w h))) rfl (ne_int.trans (by rw[Po rfl];rfl))⟩) (bo (by rw[g.shp.1];exact n))
 refine eW (qa (hO (dq (ag rfl (qT (r:=r) (by rw[ON];exact g.shp.1))) rfl (ne_int.trans (by rw[Po rfl];rfl)))) (kY (ag (aa o rfl) (any_map b λ_=>OW)) rfl)) (by simp) (bw ?_);refine bD (ds:=(gP b).map D.lst) (β1:=β) rfl (λi E e=>β=e/\∃l f,E=[on (.sh (dE b)),on (.sh (.int (r:Int))),on (.sh (.int (c:Int))),l,f]) ⟨rfl,OO,OO,rfl⟩ ?_ ?_
 .rintro i d E _ hd ⟨rfl,l,f,rfl⟩
  obtain⟨y,q,rfl⟩:=bH hd;obtain⟨w,k,rfl⟩:=bH q;refine⟨_,rfl,ai (bD (ds:=w.map pD) (β1:=β) rfl (λj E e=>β=e/\∃f,E=[on (.sh (dE b)),on (.sh (.int (r:Int))),on (.sh (.int (c:Int))),on (.sh (.lst (w.map pD))),f]) ⟨rfl,_,rfl⟩ ?_ ?_)⟩
  .rintro j d E _ hd ⟨rfl,f,rfl⟩
   obtain⟨p,m,rfl⟩:=bH hd;exact⟨_,rfl,ai (cU (af rfl (NF (g.ok w (Pj k) p (Pj m)))) (aR ⟨rfl,_,rfl⟩))⟩
  .rintro E _ ⟨rfl,f,rfl⟩
   exact aR ⟨rfl,_,_,rfl⟩
 .rintro E _ ⟨rfl,l,f,rfl⟩
  exact ai (aI (bi (nv:=1) (cx:=[]) (gP b) D.lst D.lst rfl (λx _=>⟨_,rfl,rfl⟩) (bo (by rw[ON,g.shp.1];exact n))) ⟨rfl,rfl⟩)
theorem CK(l:a0a){n:Nat}{δ:Dn}(b:l.length<=1000)(e:δ.getD n OO=on (nL l)):wk (aT zL (aj (c7 1 [] (d6 (ao n)) (hU 0) (λ_=>M.ret OT) (lk (f2 (Z3) (ao 0) (fC (.int 0))))) (aK))) δ β=on (.ok OW,β):=by
 have c:=bi (nv:=1) (cx:=[]) (it:=d6 (ao n)) (tg:=hU 0) (f:=f2 (Z3) (ao 0) (fC (.int 0))) (δ:=δ) (β:=β) (nI l) D.int (λx=>D.bl (decide (x<0))) (dm (p9 e) rfl) (λx _=>⟨_,rfl,rfl⟩) (bo (by rw[ON];exact b));refine kY (ag (aa c rfl) (any_map _ _)) (Qo on (Zp.mpr λx d=>?_));obtain⟨n,_,rfl⟩:=Pe.mp d;simp
theorem kq(l:a0a):fA [nL l]=on (.int (l.length:Int)):=dh (by rw[ON,ON])
theorem J3(h:Nt0 m i):(jh K a).1 [nL m,nL i] β=on (.ok .non,β):=by
 obtain⟨b,c,d,e⟩:=h.nr;have w:=h.c1;have D:=h.c6;unfold jh
 dsimp only
 refine aB ?_;refine eW (jE (hO (wR rfl (ag rfl (kq m)) rfl))) (by simp;lia) (bw ?_);refine eW (jE (hO (wR rfl (ag rfl (kq i)) rfl))) (by simp;lia) (bw ?_);refine f8 (qa (CK m (by lia) rfl) (CK i (by lia) rfl)) (bw ?_);refine eW (hO (dq (ag rfl (kM m)) (ag rfl (kM i)) ne_int)) (by rw[h.sm];simp) (bw ?_);exact ai (eW (hO (dq (ag rfl (kM m)) rfl gt_int)) (by simp;lia) (bw (aR ⟨rfl,rfl⟩)))
theorem Iy(h:KX m):(jg K a).1 [nL m] β=on (.ok .non,β):=by
 obtain⟨g,j,k,e⟩:=h;unfold jg
 dsimp only
 refine aB ?_;refine aA (d:= .int 1) (β1:=β) rfl ?_;refine bD (ds:=(nI m).map D.int) (β1:=β) rfl (λi w b=>β=b/\∃c,w=[on (.sh (nL m)),on (.sh (.int ((pr ((m.take i).map (·+1)):Nat):Int))),c]) ⟨rfl,OO,rfl⟩ ?_ ?_
 .rintro i d w _ hd ⟨rfl,c,rfl⟩
  obtain⟨n,E,rfl⟩:=qO hd;have f:=eA (Pj E);have l:=O4 (uz m i) e;refine⟨_,rfl,ai (qd rfl (dq (z:= .int ((n+1:Nat):Int)) rfl rfl rfl) (eG (smN (by lia)) (smN (by lia))) (aR ⟨rfl,on (.sh (.int (n:Int))),?_⟩))⟩;rw[iS E];rfl
 .rintro w _ ⟨rfl,c,rfl⟩
  rw[vL,QU];exact ai (eW (hO (dq rfl rfl gt_int)) (by simp;lia) (bw (aR ⟨rfl,rfl⟩)))
structure D_ (ba:LI) (B:a0f) (m i:a0a):Prop extends Nt0 m i where
 shp:jn m.length i.length ba
 rw1:ba.map QZ=nI m
 cl1:(tp i.length ba).map QZ=nI i
 bok:Wi m.length i.length B
 kp:Kp ba (gU B)
theorem j5{r c:Nat}{B:a0f}(h:jn r c B):jn r c (gU B):=h.map
theorem Wi.bnd{r c:Nat}{B:a0f}(h:Wi r c B):x_ r c (gU B):=⟨j5 h.1,λa e p f=>by
 obtain⟨b,g,rfl⟩:=Pe.mp e;obtain⟨d,i,rfl⟩:=Pe.mp f;have:=h.2 b g d i;exact⟨by show(0:Int)<=(d.1:Int);lia,by show(d.1:Int)<=(d.2:Int);lia,by show(d.2:Int)<=40;lia⟩⟩
theorem D_.nt{w:LI}{B:a0f}(h:D_ w B m i):p0 K a m i (wB B i) (lu B):=⟨h.toNt0,yd B i,λ{β k r} b c e=>J6 c (by rw[e];exact h.bok) (by rw[<-h.sm];exact h.nr.2.2.1) b⟩
theorem D_.fit{w:LI}{B:a0f}(h:D_ w B m i):(fG K a).1 [nL m,nL i,lu B] β=on (.ok .non,β):=by
 have b:=h.nr.2.1;have D:=h.c6;refine MD (j5 h.bok.1) (ON _) (ON _) (by lia) (by lia) λX Y=>?_;rw[<-h.rw1,<-h.cl1];exact IN h.shp (j5 h.bok.1) h.kp X Y
theorem IY{w:LI}{B:a0f}(h:D_ w B m i):(cV K a).1 [lu B,.int (m.length:Int),.int (i.length:Int)] β=on (.ok (lu B),β):=IX h.bok.bnd (by have:=h.nr.2.1;lia)
abbrev nFs(B:a0f)(m i:a0a):a0c:=[nL m,nL i,lu B,sE (wB B i) m i.length]
abbrev LN(a:Ad)(B:a0f)(m i:a0a):D:= .obj a.Ah ["row_list","column_list","pairs","counted"] (nFs B m i)
theorem NP{w:LI}{B:a0f}{d:D}(h:D_ w B m i)(E:∀{β:Bg},(cV K a).1 [d,.int (m.length:Int),.int (i.length:Int)] β=on (.ok (lu B),β)):qP K a [nL m,nL i,d] β=on (.ok (nFs B m i),β):=GF λx=>by
 have G:(dG K a).1 [nL m,nL i,d] β=on (.ok (lu B),β):=by
  unfold dG
  dsimp only
  refine aB ?_;exact cU (af rfl (J3 h.toNt0)) (aA (af (aa rfl (aa (ag rfl (kq m)) (aa (ag rfl (kq i)) rfl))) E) (cU (af rfl (Iy h.nr)) (ai (aI rfl ⟨rfl,rfl⟩))))
 unfold v7;refine DJ (g:=iB 4 _) (δ1:=[on (.sh (.adr x)),on (.sh (nL m)),on (.sh (nL i)),on (.sh d),on (.sh (lu B))]) (β1:=β) (Ie (ai (aA (af rfl G) (aR ⟨rfl,rfl⟩)))) rfl rfl ?_;refine DJ (δ1:=[on (.sh (.adr x)),on (.sh (nL m)),on (.sh (nL i)),on (.sh d),on (.sh (lu B))]) (β1:=β) (Ie (ai (cU (af rfl h.fit) (aR ⟨rfl,rfl⟩)))) rfl rfl ?_;exact qW (ag rfl rfl) (qW (ag rfl rfl) (qW rfl (qW (af rfl (zC h.nt)) rfl)))
theorem LM{ba:LI}{B:a0f}(h:D_ ba B m i):qP K a [nL m,nL i,lu B] β=on (.ok (nFs B m i),β):=NP h (IY h)
theorem M1{f:FD}{g:FL}{a:Dn}{b:Bool}{m:a0V}{w:a0c}{k z d:D}{y:eX}(c:f a β=on (.ok (.dct b m w),β))(e:g a β=on (.ok [k,z],β))(h:dR b k=on y)(i:la m w y=on d):wn f g a β=on (.ok d,β):=by
 unfold wn;rw[M.bind_ok c];simp only;rw[M.bind_ok e];simp only[h,i,Ra,Y6,M.ofO]
end
end Law
namespace L2.Nt
open L2.Pu
section
variable{c:Type}{f:c->c->c}{d a b:c}{i j n:Nat}{l u:List c}
end
section
variable{i j n:Nat}{v r u:a0a}
variable{rs cs:a0a}{vs us:a0n}
theorem Ih{k:Nat}(a:k<vs.length):vs.getD k []∈vs:=by rw[cK a];exact P3 a
structure Gv (n:Nat) (rs cs:a0a) (vs:a0n):Prop where
 ln:∀v∈vs,v.length=n
 cl:vs.map QZ=cs
 rw:vl n vs=rs
theorem Gv.at(h:Gv n rs cs vs){k:Nat}(a:k<vs.length):(vs.getD k []).sum=cs.getD k 0:=by
 rw[<-h.cl,cK a,cK (by rw[ON];exact a),RY]
abbrev R4:=Nat×Nat×Nat×Nat
def rA(p q:R4):R4:=(p.1+q.1,p.2.1+q.2.1,p.2.2.1+q.2.2.1,p.2.2.2+q.2.2.2)
def rM(p q:R4):R4:=(p.1*q.1,p.2.1*q.1+p.1*q.2.1,p.2.2.1*q.1+p.1*q.2.2.1,p.2.2.2*q.1+p.2.1*q.2.2.1+p.2.2.1*q.2.1+p.1*q.2.2.2)
noncomputable def r0:R4:=(0,0,0,0)
noncomputable def r1:R4:=(1,0,0,0)
theorem yG(p:R4):rA p r0=p:=rfl
theorem yH(p:R4):rA r0 p=p:=by simp only[rA,r0,QR]
theorem n9(p q t:R4):rA (rA p q) t=rA p (rA q t):=by simp only[rA,Ue]
theorem rM_1(p:R4):rM p r1=p:=by simp only[rM,r1,Nat.mul_one,Nat.mul_zero,XV]
theorem FF(p:R4):rM p r0=r0:=by simp only[rM,r0,Nat.mul_zero,XV]
theorem Nw(p q t:R4):rM (rM p q) t=rM p (rM q t):=by
 simp only[rM,VD,UX,Ro];refine QI rfl (QI ?_ (QI ?_ ?_))<;>simp only[Ue,TK,Sd]
theorem Nx(p q t:R4):rM (rA p q) t=rA (rM p t) (rM q t):=by
 simp only[rM,rA,UX];refine QI rfl (QI ?_ (QI ?_ ?_))<;>simp only[Ue,TK,Sd]
theorem Hu(p q t:R4):rM t (rA p q)=rA (rM t p) (rM t q):=by
 simp only[rM,rA,VD];refine QI rfl (QI ?_ (QI ?_ ?_))<;>simp only[Ue,TK,Sd]
def rS{i:Type}(f:i->R4):List i->R4
 |[]=>r0
 |a::l=>rA (f a) (rS f l)
variable{i j:Type}{f g:i->R4}
theorem BQ:∀{l m:List i},rS f (l++m)=rA (rS f l) (rS f m)
 |[],m=>(yH _).symm
 |a::l,m=>by show rA (f a) (rS f (l++m))=rA (rA (f a) (rS f l)) (rS f m);rw[BQ,n9]
theorem pG:∀{l:List i},(∀a∈l,f a=g a)->rS f l=rS g l
 |[],_=>rfl
 |a::l,h=>by show rA (f a) (rS f l)=rA (g a) (rS g l);rw[h a OZ,pG λb c=>h b (OR _ c)]
theorem BO(c:R4):∀{l:List i},(rS (λa=>rM c (f a)) l)=rM c (rS f l)
 |[]=>(FF c).symm
 |a::l=>by show rA (rM c (f a)) (rS _ l)=rM c (rA (f a) (rS f l));rw[BO c,Hu]
theorem xl{h:j->List i}:∀{l:List j},rS f (l.flatMap h)=rS (λb=>rS f (h b)) l
 |[]=>rfl
 |b::l=>by rw[Qd,BQ,xl];rfl
theorem BP{h:j->i}:∀{l:List j},rS f (l.map h)=rS (λb=>f (h b)) l
 |[]=>rfl
 |b::l=>by show rA _ (rS f (l.map h))=rA _ _;rw[BP]
theorem vx{p:i->Bool}:∀{l:List i},(∀a,p a=OW->f a=r0)->rS f (l.filter p)=rS f l
 |[],_=>rfl
 |a::l,h=>by
  rw[Va];cases q:p a with
  |true=>rw[O0 rfl];show rA _ (rS f (l.filter p))=rA _ _;rw[vx h]
  |false=>
   rw[O1 O8,vx h];show _=rA (f a) (rS f l);rw[h a q,yH]
theorem yB:∀{l:List i},rS f l=(sm l λa=>(f a).1,sm l λa=>(f a).2.1,sm l λa=>(f a).2.2.1,sm l λa=>(f a).2.2.2)
 |[]=>rfl
 |a::l=>by
  show rA (f a) (rS f l)=_;rw[yB,bC,bC,bC,bC];rfl
def rLe(p q:R4):Prop:=p.1<=q.1/\p.2.1<=q.2.1/\p.2.2.1<=q.2.2.1/\p.2.2.2<=q.2.2.2
theorem Hv{a:i}:∀{l:List i},a∈l->rLe (f a) (rS f l)
 |b::l,h=>by
  show rLe (f a) (rA (f b) (rS f l));rcases Pb.mp h with rfl|h
  .exact⟨Qu _ _,Qu _ _,Qu _ _,Qu _ _⟩
  .obtain⟨c,d,e,k⟩:=Hv h
   exact⟨O4 c (Ul _ _),O4 d (Ul _ _),O4 e (Ul _ _),O4 k (Ul _ _)⟩
theorem Ny{p t q:R4}(h:rLe (rM p t) q)(a:0<t.1):rLe p q:=by
 have e:∀x:Nat,x<=x*t.1:=λx=>Tv x a;obtain⟨f,g,i,j⟩:=h;refine⟨O4 (e _) f,O4 (e _) (O4 (Qu _ _) g),O4 (e _) (O4 (Qu _ _) i),O4 (e _) (O4 ?_ j)⟩;show _<=_+_+_+_;lia
abbrev hc(i j k:Nat)(v:a0a):Nat:=if j=k then v.getD i 0 else 0
def cf(c d:Nat×Nat)(k:Nat)(v:a0a):R4:=(mu v,mu v*hc c.1 c.2 k v,mu v*hc d.1 d.2 k v,mu v*(hc c.1 c.2 k v*hc d.1 d.2 k v))
def TW(W:Wy)(c d:Nat×Nat):Nat->Nat->a0a->R4
 |0,_,_=>r1
 |m+1,k,r=>rS (λv=>rM (cf c d k v) (TW W c d m (k+1) (less r v))) (Y_ W m k r)
def cn(i j:Nat):Nat->a0n->Nat
 |_,[]=>0
 |k,v::vs=>hc i j k v+cn i j (k+1) vs
theorem Il{i j:Nat}:∀{vs:a0n} {k:Nat},cn i j k vs=if k<=j then(vs.getD (j-k) []).getD i 0 else 0
 |[],k=>by
  show 0=_;split<;>simp
 |v::vs,k=>by
  show(if j=k then v.getD i 0 else 0)+cn i j (k+1) vs=_;rw[Il];by_cases q:j=k
  .subst q
   rw[O0 rfl,O1 (by lia),O0 (O5 _),TU];rfl
  .rw[O1 q,QR]
   by_cases z:k<=j
   .rw[O0 (by lia),O0 z,show j-k=j-(k+1)+1 by lia];rfl
   .rw[O1 (by lia),O1 z]
def tb4(c d:Nat×Nat)(k:Nat)(vs:a0n):R4:=(wt vs,wt vs*cn c.1 c.2 k vs,wt vs*cn d.1 d.2 k vs,wt vs*(cn c.1 c.2 k vs*cn d.1 d.2 k vs))
theorem Nb{c d:Nat×Nat}{k:Nat}{v:a0a}{vs:a0n}:tb4 c d k (v::vs)=rM (cf c d k v) (tb4 c d (k+1) vs):=by
 have h:wt (v::vs)=mu v*wt vs:=rfl;have e:∀i j,cn i j k (v::vs)=hc i j k v+cn i j (k+1) vs:=λ_ _=>rfl;unfold tb4 cf rM;rw[h,e,e];generalize cn c.1 c.2 (k+1) vs=x;generalize cn d.1 d.2 (k+1) vs=y;generalize hc c.1 c.2 k v=a;generalize hc d.1 d.2 k v=b;refine QI rfl (QI ?_ (QI ?_ ?_))<;>simp only[VD,UX,Ro,Rq,QP,Ue,TK,Sd]
theorem rB{W:Wy}{c d:Nat×Nat}:∀{m k:Nat} {r:a0a},TW W c d m k r=rS (tb4 c d k) (js W m k r)
 |0,_,_=>rfl
 |m+1,k,r=>by
  show rS _ (Y_ W m k r)=rS _ ((W k r).flatMap _);rw[xl];unfold Y_;rw[vx]
  .refine pG λv _=>?_
   rw[BP,rB,<-BO];exact pG λvs _=>Nb.symm
  .intro v a
   have:=Yg a;have e:qk W m (k+1) (less r v)=0:=by lia
   rw[<-rX]at e;rw[rB,Ts.mp e];exact FF _
abbrev NL:=List (a0a×R4)
def ro:NL->a0a->R4->NL
 |[],u,q=>[(u,q)]
 |p::L,u,q=>if p.1=u then(p.1,rA p.2 q)::L else p::ro L u q
def r8(W:Wy)(c d:Nat×Nat)(m k:Nat)(L:NL):R4:=rS (λp=>rM p.2 (TW W c d m k p.1)) L
variable{W:Wy}{c d:Nat×Nat}{m k:Nat}
theorem Hx(p q:R4):rA p q=rA q p:=by simp only[rA,Sd]
theorem Hy{u:a0a}{q:R4}:∀{L:NL},r8 W c d m k (ro L u q)=rA (r8 W c d m k L) (rM q (TW W c d m k u))
 |[]=>Hx _ _
 |p::L=>by
  have e:∀p L,r8 W c d m k (p::L)=rA (rM p.2 (TW W c d m k p.1)) (r8 W c d m k L):=λ_ _=>rfl;unfold ro;by_cases z:p.1=u
  .rw[O0 z,e,e,<-z]
   show rA (rM (rA p.2 q) _) _=_;rw[Nx,n9,n9,Hx (rM q _)]
  .rw[O1 z,e,e,Hy,n9]
theorem oS{u:a0a}{q:R4}:∀{L:NL},(ro L u q).map (·.1)=if u∈L.map (·.1)then L.map (·.1)else L.map (·.1)++[u]
 |[]=>rfl
 |p::L=>by
  unfold ro;by_cases z:p.1=u
  .rw[O0 z,O0 (by rw[O9,z];exact OZ)];rfl
  .rw[O1 z,O9,O9,oS]
   by_cases y:u∈L.map (·.1)
   .rw[O0 y,O0 (OR _ y)]
   .rw[O1 y,O1 (λw=>(Pb.mp w).elim (λw=>z w.symm) y)];rfl
theorem OL{u:a0a}{q:R4}{L:NL}(h:(L.map (·.1)).Nodup):((ro L u q).map (·.1)).Nodup:=by
 rw[oS];split
 .exact h
 .rename_i z
  exact UO.mpr ⟨h,Sn _ _,λx a y b e=>z (by rw[<-PM.mp b,<-e];exact a)⟩
theorem G_{u:a0a}{q:R4}{L:NL}{x:a0a}(h:x∈(ro L u q).map (·.1)):x=u\/x∈L.map (·.1):=by
 rw[oS]at h;split at h
 .exact .inr h
 .rcases Qt.mp h with h|h
  .exact .inr h
  .exact .inl (PM.mp h)
abbrev at_(c:Nat×Nat)(vs:a0n):Nat:=(vs.getD c.2 []).getD c.1 0
def R_:NL->a0a->R4
 |[],_=>r0
 |p::L,u=>if p.1=u then p.2 else R_ L u
theorem EY{u:a0a}{q:R4}:∀{L:NL},u∉L.map (·.1)->ro L u q=L++[(u,q)]/\R_ L u=r0
 |[],_=>⟨rfl,rfl⟩
 |p::L,h=>by
  rw[O9]at h;have a:¬p.1=u:=λe=>h (by rw[e];exact OZ);obtain⟨b,l⟩:=EY (u:=u) (q:=q) (L:=L) λw=>h (OR _ w);refine⟨?_,?_⟩
  .unfold ro
   rw[O1 a,b];rfl
  .unfold R_
   rw[O1 a,l]
theorem Ip{u:a0a}{q:R4}:∀{L:NL},(L.map (·.1)).Nodup->u∈L.map (·.1)->ro L u q=L.map λp=>if p.1=u then(p.1,rA (R_ L u) q)else p
 |p::L,nd,h=>by
  rw[O9,P7]at nd;unfold ro R_;rw[O9];by_cases z:p.1=u
  .rw[O0 z,O0 z,O0 z]
   congr 1;refine(UN L).symm.trans (PF λx a=>?_);rw[O1 λe=>nd.1 (Pe.mpr ⟨x,a,e.trans z.symm⟩)];rfl
  .rw[O1 z,O1 z,O1 z]
   congr 1;exact Ip nd.2 ((Pb.mp h).resolve_left λe=>z e.symm)
theorem ia{i:Type} [BEq i] [LawfulBEq i]:∀{l m:List i},l.Nodup->(∀x∈l,x∈m)->l.length<=m.length
 |[],_,_,_=>Qi _
 |x::l,m,h,s=>by
  rw[P7]at h;have b:=s x OZ;have e:=Xp b;have:=XQ b;have:=ia (m:=m.erase x) h.2 λy o=>(Yr (a:=y) λe=>h.1 (by rw[<-e];exact o)).mpr (s y (OR _ o));rw[Pg];lia
structure z_ (W:Wy) (rs:a0a) (m k:Nat) (L:NL):Prop where
 nd:(L.map (·.1)).Nodup
 lv:∀u∈L.map (·.1),u∈h8 W rs k
 ps:∀u∈L.map (·.1),0<qk W m k u
theorem z_.len{L:NL}(h:z_ W rs m k L):L.length<=(h8 W rs k).length:=by
 have:=ia h.nd h.lv;rw[ON]at this;exact this
def y_(W:Wy)(c d:Nat×Nat)(k:Nat)(p:a0a×R4)(B:NL)(l:a0n):NL:=l.foldl (λB v=>ro B (less p.1 v) (rM p.2 (cf c d k v))) B
def B6(W:Wy)(c d:Nat×Nat)(m k:Nat)(B L:NL):NL:=L.foldl (λB p=>y_ W c d k p B (Y_ W m k p.1)) B
theorem zh{p:a0a×R4}(a:p.1∈h8 W rs k):∀{l:a0n} {B:NL},(∀v∈l,v∈Y_ W m k p.1)->z_ W rs m (k+1) B->z_ W rs m (k+1) (y_ W c d k p B l)
 |[],B,_,h=>h
 |v::l,B,hl,h=>by
  obtain⟨g,f⟩:=SG.mp (hl v OZ);have f:=RG f;refine zh a (l:=l) (B:=ro B (less p.1 v) (rM p.2 (cf c d k v))) (λw b=>hl w (OR _ b)) ⟨OL h.nd,λu hu=>?_,λu hu=>?_⟩
  .rcases G_ hu with rfl|hu
   .exact kJ.mpr ⟨_,a,v,g,rfl⟩
   .exact h.lv u hu
  .rcases G_ hu with rfl|hu
   .lia
   .exact h.ps u hu
theorem yL:∀{L B:NL},(∀p∈L,p.1∈h8 W rs k)->z_ W rs m (k+1) B->z_ W rs m (k+1) (B6 W c d m k B L)
 |[],_,_,h=>h
 |p::L,B,hl,h=>yL (L:=L) (B:=y_ W c d k p B (Y_ W m k p.1)) (λq a=>hl q (OR _ a)) (zh (hl p OZ) (λ_ h=>h) h)
theorem Ia{p:a0a×R4}:∀{l:a0n} {B:NL},r8 W c d m (k+1) (y_ W c d k p B l)=rA (r8 W c d m (k+1) B) (rM p.2 (rS (λv=>rM (cf c d k v) (TW W c d m (k+1) (less p.1 v))) l))
 |[],B=>by
  show r8 W c d m (k+1) B=rA _ (rM p.2 r0);rw[FF,yG]
 |v::l,B=>by
  show r8 W c d m (k+1) (y_ W c d k p (ro B (less p.1 v) (rM p.2 (cf c d k v))) l)=rA _ (rM p.2 (rA _ _));rw[Ia,Hy,n9,Hu,Nw]
theorem HD:∀{L B:NL},r8 W c d m (k+1) (B6 W c d m k B L)=rA (r8 W c d m (k+1) B) (r8 W c d (m+1) k L)
 |[],B=>(yG _).symm
 |p::L,B=>by
  show r8 W c d m (k+1) (B6 W c d m k (y_ W c d k p B (Y_ W m k p.1)) L)=rA _ (rA (rM p.2 (TW W c d (m+1) k p.1)) (r8 W c d (m+1) k L));rw[HD,Ia,n9];rfl
theorem r1_M(q:R4):rM r1 q=q:=by simp only[rM,r1,YJ,Wl,QR]
theorem nJ{r:a0a}(h:0<qk W m k r):0<(TW W c d m k r).1:=by
 rw[rB,yB];show 0<sm (js W m k r) wt;rw[<-rX]at h;obtain⟨vs,a⟩:=List.exists_mem_of_length_pos h;have b:0<wt vs:=by
  show 0<pr (vs.map mu)
  clear a
  induction vs with
  |nil=>decide
  |cons v vs g=>exact WL (vM v) g
 exact Pz b (uF (f:=wt) a)
theorem NB{L:NL}{S:R4}(h:z_ W rs m k L)(e:r8 W c d m k L=S){p:a0a×R4}(a:p∈L):rLe p.2 S:=by
 have:=Hv (f:=λp=>rM p.2 (TW W c d m k p.1)) a;rw[show rS (λp=>rM p.2 (TW W c d m k p.1)) L=S from e]at this;exact Ny this (nJ (h.ps _ (Pe.mpr ⟨p,a,rfl⟩)))
theorem F4{L:NL}{S:R4}{z:a0a}(f:(L.map (·.1)).Nodup)(e:r8 W c d 0 k L=S)(b:0<S.1)(a:∀u∈L.map (·.1),u=z):L=[(z,S)]:=by
 match L,f,e,a with
 |[],_,e,_=>rw[<-e]at b;cases b
 |[p],_,e,a=>
  have h:rA (rM p.2 r1) r0=S:=e;rw[yG,rM_1]at h;rw[<-h,<-a p.1 (by simp)]
 |p::q::L,f,_,a=>
  rw[O9,P7]at f;exact(f.1 (by rw[a p.1 (by simp),<-a q.1 (by simp)];simp)).elim
end
end L2.Nt
namespace Law
open L2 L2.Pu L2.Nt
section
variable{K:Pk}{a:Ad}{β:Bg}{rs cs:a0a}{W:Wy}{s:D}
abbrev cW(a:Ad)(W:Wy)(s:D)(rs cs:a0a):D:= .obj a.Ah ["row_list","column_list","pairs","counted"] [nL rs,nL cs,s,sE W rs cs.length]
theorem JI{a s:a0V}{b c:a0c}{y:eX}(h:a.length=b.length):la (a++s) (b++c) y=(la a b y).or (la s c y):=by
 unfold la;rw[List.zip_append h,List.find?_append];cases(a.zip b).find? λp=>decide (p.1=y)<;>rfl
theorem HK{f:a0a->D}{u:a0a}{k:Int}:∀{L:a0n},u∈L->la (L.map λr=>(k,nI r)) (L.map f) (k,nI u)=on (f u)
 |r::L,h=>by
  unfold la;rw[O9,O9,Q0,Rr];by_cases q:r=u
  .rw[q,Po rfl];rfl
  .rw[PZ λe=>q (fJ (SA.mp e).2)]
   exact HK ((Pb.mp h).resolve_left λe=>q e.symm)
theorem CW{f:a0a->D}{y:eX}{k:Int}(h:k≠y.1):∀{L:a0n},la (L.map λr=>(k,nI r)) (L.map f) y=OO
 |[]=>rfl
 |r::L=>by
  have a:=CW (f:=f) h (L:=L);unfold la at a⊢;rw[O9,O9,Q0,Rr,PZ λe=>h (SA.mp e).1];exact a
theorem CZ{m k:Nat}{u:a0a}(b:u∈h8 W rs k):∀{L:a0a},k∈L->la (L.flatMap λk=>(h8 W rs k).map λr=>((k:Int),nI r)) (L.flatMap λk=>(h8 W rs k).map (cv W m k)) ((k:Int),nI u)=on (cv W m k u)
 |j::L,h=>by
  rw[Qd,Qd,JI (by rw[ON,ON])];by_cases q:j=k
  .subst q
   rw[HK b];rfl
  .rw[CW (by show(j:Int)≠(k:Int);lia),Option.none_or]
   exact CZ b ((Pb.mp h).resolve_left λe=>q e.symm)
theorem F3{k:Nat}{u:a0a}(c:k<=cs.length)(b:u∈h8 W rs k):la (Z4 W rs (cs.length+1)) (MO W rs cs.length) ((k:Int),nI u)=on (cv W cs.length k u):=CZ b (Pw.mpr (by lia))
theorem MN{k:Nat}{u:a0a}(c:k<=cs.length)(d:u∈h8 W rs k):(jP K a).1 [cW a W s rs cs,.int (k:Int),tN u] β=on (.ok (cv W cs.length k u),β):=
 aB (ai (aI (M1 (kZ rfl rfl) (aa (ag rfl dX) (aa (ag rfl dX) rfl)) (gE (b:=OT) (k:=((k:Int),nI u)) λe=>(by cases e)) (F3 c d)) ⟨rfl,rfl⟩))
theorem LL{k:Nat}{u:a0a}(b:k<=cs.length)(c:u∈h8 W rs k):F9 (.tup [.int (k:Int),tN u]) (sE W rs cs.length)=on (.bl OW):=by
 show(dR OT (dK OT ((k:Int),nI u))).map _=_;rw[gE λe=>(by cases e),Ra,F3 b c];rfl
theorem p0.nx{k:Nat}{r v:a0a}(h:p0 K a rs cs W s)(b:r∈h8 W rs k)(c:v∈W k r):less r v∈h8 W rs (k+1):=kJ.mpr ⟨r,b,v,c,rfl⟩
theorem M2{k:Nat}{r:a0a}(h:p0 K a rs cs W s)(b:KX r):(W k r).length<=500:=by
 have:=(h.ok k r).length_le;have:=k6 r (cs.getD k 0);have:=uz r (r.length-1);rw[<-List.dropLast_eq_take]at this;have:=b.2.2.2;lia
abbrev sT(W:Wy)(cs:a0a)(k:Nat)(r:a0a):a0n:=Y_ W (cs.length-(k+1)) k r
abbrev tB(W:Wy)(cs:a0a)(k:Nat)(r v:a0a):Nat:=qk W (cs.length-(k+1)) (k+1) (less r v)
theorem Fs{k:Nat}{r:a0a}(h:p0 K a rs cs W s)(d:k<cs.length)(b:r∈h8 W rs k):(ki K a).1 [cW a W s rs cs,.int (k:Int),tN r] β=on (.ok (.lst ((sT W cs k r).map tN)),β):=by
 obtain⟨c,f,g⟩:=h.at (by lia) b;unfold ki
 dsimp only
 refine aB ?_;refine eW (qa (hO (dq (ag rfl dX) (kZ rfl rfl) (LL (by lia) b))) (hO (dq rfl (ag (aa (kZ rfl rfl) rfl) (kq cs)) eq_int))) (by simp;lia) (bw ?_);refine ai (aI (jz (W k r) tN tN (λv=>decide ((0:Int)<((tB W cs k r v:Nat):Int))) (dm (af (aa rfl (aa (kZ rfl rfl) (aa (kZ rfl rfl) (aa rfl rfl)))) (h.fl d c f)) rfl) (λv e=>⟨[on (tN v),on (cW a W s rs cs),on (.int (k:Int)),on (tN r)],rfl,?_,λ_=>rfl⟩) (bo ?_)) ⟨rfl,rfl⟩)
 .exact hO (dq (dq (f7 rfl (aa (x:= .int ((k+1:Nat):Int)) (dq rfl rfl rfl) (aa (af rfl (uy (dI ((h.ok k r).subset e)) c.2.1)) rfl)) (MN d (h.nx b e))) rfl lJ) rfl gt_int)
 .have:=M2 (k:=k) h c
  lia
theorem OG{k:Nat}{r:a0a}(h:p0 K a rs cs W s)(b:k<=cs.length)(c:r∈h8 W rs k):ZJ W (cs.length-k) k r<=2^160:=by
 refine O4 (wq h.ok _ _ _ (by lia)) ?_;rw[ng _ _ (ic h.ok h.sm k b r c).2];exact uC (h.at b c).2.2
theorem ou:(fQ K a).1 [cW a W s rs cs] β=on (.ok (nL rs),β):=aB (ai (aI (ag (aa (kZ rfl rfl) rfl) rfl) ⟨rfl,rfl⟩))
theorem se:(fX K a).1 [cW a W s rs cs] β=on (.ok (nL cs),β):=aB (ai (aI (ag (aa (kZ rfl rfl) rfl) rfl) ⟨rfl,rfl⟩))
theorem AB(l:a0a):uY [nL l]=on (tN l):=rfl
abbrev nC(q:R4):D:= .tup [.int ((q.1:Nat):Int),.int ((q.2.1:Nat):Int),.int ((q.2.2.1:Nat):Int),.int ((q.2.2.2:Nat):Int)]
abbrev lb(c:Nat×Nat):D:= .tup [.int (c.1:Int),.int (c.2:Int)]
theorem HV{v:a0a}{i:Nat}(h:i<v.length):j0 (tN v) (.int (i:Int))=on (.int ((v.getD i 0:Nat):Int)):=by
 refine cT (xs:=(nI v).map D.int) ?_;rw[OY,OY,cK h,OV h];rfl
theorem EH{c:Nat×Nat}{k:Nat}{v:a0a}(b:c.1<v.length):(iK K a).1 [lb c,.int (k:Int),tN v] β=on (.ok (.int ((hc c.1 c.2 k v:Nat):Int)),β):=by
 unfold iK
 dsimp only
 refine aB ?_;refine jF (β1:=β) rfl rfl (ai (aI (d:= .int ((hc c.1 c.2 k v:Nat):Int)) (β1:=β) ?_ ⟨rfl,rfl⟩));by_cases q:c.2=k
 .rw[show hc c.1 c.2 k v=v.getD c.1 0 from O0 q]
  exact G6 (β1:=β) (hO (dq rfl rfl (eq_int.trans (by rw[Po (by rw[q])])))) (dq rfl rfl (HV b))
 .rw[show hc c.1 c.2 k v=0 from O1 q]
  exact G7 (β1:=β) (hO (dq rfl rfl (eq_int.trans (by rw[PZ (by lia)])))) rfl
theorem Id{i j k:Nat}{v:a0a}(h:v.sum<=40):hc i j k v<=40:=by
 show(if j=k then _ else _)<=_;split
 .rcases TM i v.length with z|z
  .rw[cK z];exact O4 (eA (P3 z)) h
  .rw[OU,Ru z];exact Qi _
 .exact Qi _
theorem Fh{x y z u:D}:fR [x,y,z,u]=on (.tup [x,y,z,u]):=by
 unfold fR;rw[O0 (bo (by show 4<=1000;decide))]
theorem Lc{c d:Nat×Nat}{k:Nat}{v:a0a}{q:R4}(o:v.sum<=40)(g:q.1<=2^200)(l:q.2.1<=2^200)(n:q.2.2.1<=2^200)(F:q.2.2.2<=2^200):(pI K a).1 [nC q,.int ((hc c.1 c.2 k v:Nat):Int),.int ((hc d.1 d.2 k v:Nat):Int),.int ((mu v:Nat):Int)] β=on (.ok (nC (rM q (cf c d k v))),β):=by
 have s:mu v<=2^200:=O4 (uC o) (Rg (by decide) (by decide));have w:hc c.1 c.2 k v<=40:=Id o;have H:hc d.1 d.2 k v<=40:=Id o;unfold cf;generalize hc c.1 c.2 k v=h at w⊢;generalize hc d.1 d.2 k v=t at H⊢;generalize mu v=m at s⊢;obtain⟨x,y,z,u⟩:=q;simp only at g l n F;have j:∀{p q A B:Nat},p<=2^A->q<=2^B->p*q<=2^(A+B):=λr C=>by rw[VE];exact TR r C
 have D:∀{p q A:Nat},p<=2^A->q<=2^A->p+q<=2^(A+1):=λr C=>by rw[X0];lia
 have i:∀{p A:Nat} (B:Nat),p<=2^A->A<=B->p<=2^B:=λB e h=>O4 e (Rg (by decide) h);have b:h<=2^6:=O4 w (by decide);have f:t<=2^6:=O4 H (by decide);have L:∀{p A:Nat},p<=2^A->A<=999->p<2^1000:=λe h=>bU e h;have I:=D (i 206 l (by decide)) (i 206 (j b g) (by decide));have J:=D (i 206 n (by decide)) (i 206 (j f g) (by decide));have N:=j (j b f) g;have O:u+h*z+t*y+h*t*x<=2^215:=by
  have r:=i 212 F (by decide);have C:=i 212 (j b n) (by decide);have Q:=i 212 (j f l) (by decide);have R:=i 212 N (by decide);have:(2:Nat)^215=2^212*8:=by rw[show(215:Nat)=212+3 from rfl,VE]
  lia
 unfold pI
 dsimp only
 refine aB (jF (β1:=β) rfl rfl (ai (aI (β1:=β) (ag (aa (dq rfl rfl (eG (L s (by decide)) (L g (by decide)))) (aa (dq rfl (dq rfl (dq rfl rfl (eG (L b (by decide)) (L g (by decide)))) p7) (eG (L s (by decide)) (L I (by decide)))) (aa (dq rfl (dq rfl (dq rfl rfl (eG (L f (by decide)) (L g (by decide)))) p7) (eG (L s (by decide)) (L J (by decide)))) (aa (dq rfl (dq (dq (dq rfl (dq rfl rfl (eG (L b (by decide)) (L n (by decide)))) p7) (dq rfl rfl (eG (L f (by decide)) (L l (by decide)))) p7) (dq (dq rfl rfl (eG (L b (by decide)) (L f (by decide)))) rfl (eG (L (j b f) (by decide)) (L g (by decide)))) p7) (eG (L s (by decide)) (L O (by decide)))) rfl)))) Fh) ⟨rfl,?_⟩)));have e:(m*x,m*(y+h*x),m*(z+t*x),m*(u+h*z+t*y+h*t*x))=rM (x,y,z,u) (m,m*h,m*t,m*(h*t)):=by
  unfold rM;refine QI ?_ (QI ?_ (QI ?_ ?_))<;>simp only[VD,Ro,Rq,QP,Ue,TK,Sd]
 rw[<-e]
theorem KQ{p q:R4}:(jf K a).1 [nC p,nC q] β=on (.ok (nC (rA p q)),β):=by
 unfold jf
 dsimp only
 refine aB (ai (aI (β1:=β) (ag (as:=[.lst [.int ((p.1+q.1:Nat):Int),.int ((p.2.1+q.2.1:Nat):Int),.int ((p.2.2.1+q.2.2.1:Nat):Int),.int ((p.2.2.2+q.2.2.2:Nat):Int)]]) (aa ?_ rfl) rfl) ⟨rfl,rfl⟩));exact bi [(p.1,q.1),(p.2.1,q.2.1),(p.2.2.1,q.2.2.1),(p.2.2.2,q.2.2.2)] (λp=>D.tup [.int (p.1:Int),.int (p.2:Int)]) (λp=>D.int ((p.1+p.2:Nat):Int)) (kx (x:=nC p) (y:=nC q) rfl rfl rfl rfl) (λp _=>⟨[on (.int (p.1:Int)),on (.int (p.2:Int))],rfl,rfl⟩) (bo (by show 4<=1000;decide))
abbrev y2(L:NL):a0V:=L.map λp=>((0:Int),nI p.1)
abbrev A_(L:NL):a0c:=L.map λp=>nC p.2
abbrev ZW(L:NL):D:= .dct OW (y2 L) (A_ L)
theorem HL{u:a0a}:∀{L:NL},(la (y2 L) (A_ L) (0,nI u)).getD (nC r0)=nC (R_ L u)
 |[]=>rfl
 |p::L=>by
  have a:=HL (u:=u) (L:=L);unfold la at a⊢;unfold R_ y2 A_;rw[O9,O9,Q0,Rr];by_cases q:p.1=u
  .rw[O0 q,Po (by rw[q])];rfl
  .rw[O1 q,PZ λe=>q (fJ (SA.mp e).2)]
   exact a
theorem oz{u:a0a}{L:NL}:((0:Int),nI u)∈y2 L↔u∈L.map (·.1):=by
 constructor
 .intro h
  obtain⟨p,b,e⟩:=Pe.mp h;exact Pe.mpr ⟨p,b,fJ (SA.mp e).2⟩
 .intro h
  obtain⟨p,b,rfl⟩:=Pe.mp h;exact Pe.mpr ⟨p,b,rfl⟩
theorem y8(L:NL):y2 L=(L.map (·.1)).map λu=>((0:Int),nI u):=by rw[O7];rfl
theorem KG{u:a0a}{q:R4}{L:NL}:ZQ (y2 L) (0,nI u)=y2 (ro L u q):=by
 unfold ZQ;rw[y8 (ro L u q),oS];by_cases z:u∈L.map (·.1)
 .rw[O0 (oz.mpr z),O0 z,y8]
 .rw[O1 λw=>z (oz.mp w),O1 z,PR,y8];rfl
theorem KF{u:a0a}{q:R4}{L:NL}(a:(L.map (·.1)).Nodup):ZP (y2 L) (A_ L) (0,nI u) (nC (rA (R_ L u) q))=A_ (ro L u q):=by
 unfold ZP;by_cases z:u∈L.map (·.1)
 .rw[O0 (oz.mpr z),Ip a z]
  unfold y2 A_;rw[List.zip_map',O7,O7];refine PF λp _=>?_;show(if((0:Int),nI p.1)=(0,nI u)then _ else _)=nC (if p.1=u then _ else p).2;by_cases y:p.1=u
  .rw[O0 (by rw[y]),O0 y]
  .rw[O1 λe=>y (fJ (SA.mp e).2),O1 y]
 .obtain⟨b,c⟩:=EY (q:=q) z
  rw[O1 λw=>z (oz.mp w),b,c,yH];unfold A_;rw[PR];rfl
theorem Ke{f:FD}{g:FL}{a:Dn}{b:Bool}{ks:a0V}{vs:a0c}{k z d:D}{y:eX}(c:f a β=on (.ok (.dct b ks vs),β))(e:g a β=on (.ok [k,z],β))(h:dR b k=on y)(i:(la ks vs y).getD z=d):wn f g a β=on (.ok d,β):=by
 unfold wn;rw[M.bind_ok c];show M.bind (g a) _ β=_;rw[M.bind_ok e];show M.ofO ((dR b k).map _) β=_;rw[h,Ra,i];rfl
theorem M6{i:Nat}{b:Bool}{h:G}{a:Ds}{Q:a0z}(k:Gw h (a.set i (on (.odc b [] []))) β Q):Gw (aJ (MC i b) h) a β Q:=dF rfl k
theorem Kh{i:Nat}{fk c:FD}{h:G}{a:Ds}{Q:a0z}{d kd:D}{b:Bool}{ks:a0V}{vs:a0c}{k:eX}{β1 β2:Bg}(e:c (hE a) β=on (.ok d,β1))(f:fk (hE a) β1=on (.ok kd,β2))(g:a.getD i OO=on (.odc b ks vs))(j:dR b kd=on k)(s:noL d=OT)(l:ks.length<Pf)(m:Gw h (a.set i (on (.odc b (ZQ ks k) (ZP ks vs k d)))) β2 Q):Gw (aJ (uL i fk c) h) a β Q:=
 dF (by unfold uL;simp only[e,f,g,j,s,Po l,VO,Qm]) m
theorem M0{f:FD}{a:Dn}{L:NL}(e:f a β=on (.ok (ZW L),β)):Gb f a β=on (.ok (L.map λp=> .tup [tN p.1,nC p.2]),β):=by
 unfold Gb;rw[M.bind_ok e];show on (Rj (TF _ (y2 L) (A_ L)),β)=_;unfold y2 A_;rw[List.zipWith_map,Zt];rfl
abbrev sbS(a:Ad)(W:Wy)(s:D)(rs cs:a0a)(c d:Nat×Nat)(k:Nat)(L B:NL)(e f g h b:a0R):Ds:=[on (.sh (cW a W s rs cs)),on (.sh (lb c)),on (.sh (lb d)),on (.sh (.int (k:Int))),on (.sh (ZW L)),on (.odc OW (y2 B) (A_ B)),e,f,g,h,b]
theorem Nm{c d:Nat×Nat}{k:Nat}{L:NL}{S:R4}(h:p0 K a rs cs W s)(X:k<cs.length)(hc:c.1<rs.length)(hd:d.1<rs.length)(n:z_ W rs (cs.length-k) k L)(e:r8 W c d (cs.length-k) k L=S)(Y:S.1<=2^200)(Z:S.2.1<=2^200)(G:S.2.2.1<=2^200)(M:S.2.2.2<=2^200):(iw K a).1 [cW a W s rs cs,lb c,lb d,.int (k:Int),ZW L] β=on (.ok (ZW (B6 W c d (cs.length-(k+1)) k [] L)),β):=by
 have H:∀{B:NL},z_ W rs (cs.length-(k+1)) (k+1) B->B.length<1000:=λ{B} F=>by
  have:=F.len;have:=vQ h (k:=k+1) (by lia);lia
 have P:z_ W rs (cs.length-(k+1)) (k+1) []:=⟨W4,λ_ h=>(by cases h),λ_ h=>(by cases h)⟩;unfold iw
 dsimp only
 refine aB (M6 ?_);show Gw _ (sbS a W s rs cs c d k L [] OO OO OO OO OO) β _;refine bD (ds:=L.map λp=> .tup [tN p.1,nC p.2]) (β1:=β) (M0 rfl) (λi D o=>β=o/\∃I J g m f,D=sbS a W s rs cs c d k L (B6 W c d (cs.length-(k+1)) k [] (L.take i)) I J g m f) ⟨rfl,OO,OO,OO,OO,OO,rfl⟩ ?_ ?_
 .rintro i dd D _ r ⟨rfl,I,J,g,m,f,rfl⟩
  obtain⟨p,R,rfl⟩:=bH r;have u:=Pj R;have t:=n.lv p.1 (Pe.mpr ⟨p,u,rfl⟩);obtain⟨V,x,n3⟩:=h.at (by lia) t;obtain⟨b1,b2,b3,b4⟩:=NB n e u;have F:z_ W rs (cs.length-(k+1)) (k+1) (B6 W c d (cs.length-(k+1)) k [] (L.take i)):=yL (λq hq=>n.lv q.1 (Pe.mpr ⟨q,SR hq,rfl⟩)) P;have eB:B6 W c d (cs.length-(k+1)) k [] (L.take (i+1))=y_ W c d k p (B6 W c d (cs.length-(k+1)) k [] (L.take i)) (sT W cs k p.1):=by
   unfold B6;rw[UR,R];show Vi _ _ (_++[p])=_;rw[Zs];rfl
  rw[eB];generalize B6 W c d (cs.length-(k+1)) k [] (L.take i)=B at F;refine⟨sbS a W s rs cs c d k L B (on (.sh (tN p.1))) (on (.sh (nC p.2))) g m f,rfl,?_⟩;refine ai (bD (ds:=(sT W cs k p.1).map tN) (β1:=β) (dm (f7 rfl rfl (Fs h X t)) rfl) (λj D o=>β=o/\∃g m f,D=sbS a W s rs cs c d k L (y_ W c d k p B ((sT W cs k p.1).take j)) (on (.sh (tN p.1))) (on (.sh (nC p.2))) g m f) ⟨rfl,g,m,f,rfl⟩ ?_ ?_)
  .rintro j dd D _ r ⟨rfl,g,m,f,rfl⟩
   obtain⟨v,T,rfl⟩:=bH r;have N:=Pj T;have O:=(SG.mp N).1;have E:=dI ((h.ok k p.1).subset O);have A:v.sum<=40:=O4 E.sum n3;have lv:v.length=rs.length:=by rw[E.len];exact x
   have Q:z_ W rs (cs.length-(k+1)) (k+1) (y_ W c d k p B ((sT W cs k p.1).take j)):=zh t (λw O=>SR O) F;have eC:y_ W c d k p B ((sT W cs k p.1).take (j+1))=ro (y_ W c d k p B ((sT W cs k p.1).take j)) (less p.1 v) (rM p.2 (cf c d k v)):=by
    unfold y_;rw[UR,T];show Vi _ _ (_++[v])=_;rw[Zs];rfl
   rw[eC];generalize y_ W c d k p B ((sT W cs k p.1).take j)=C at Q;have U:=wT (K:=K) (a:=a) (β:=β) (l:=v) (cd:=tN v) (.inr rfl) A;rw[qb]at U;refine⟨_,rfl,aA (d:=tN (less p.1 v)) (β1:=β) (af rfl (uy E V.2.1)) (aA (d:=nC (rM p.2 (cf c d k v))) (β1:=β) (af (aa rfl (aa (af rfl (EH (by lia))) (aa (af rfl (EH (by lia))) (aa (af rfl U) rfl)))) (Lc A (O4 b1 Y) (O4 b2 Z) (O4 b3 G) (O4 b4 M))) (ai (Kh (d:=nC (rA (R_ C (less p.1 v)) (rM p.2 (cf c d k v)))) (kd:=tN (less p.1 v)) (β1:=β) (β2:=β) (b:=OW) (ks:=y2 C) (vs:=A_ C) (k:=(0,nI (less p.1 v))) (af (aa (Ke (b:=OW) (ks:=y2 C) (vs:=A_ C) (y:=(0,nI (less p.1 v))) (z:=nC r0) rfl (aa rfl (aa (ag rfl Fh) rfl)) (gE (b:=OW) (k:=(0,nI (less p.1 v))) λ_=>rfl) HL) (aa rfl rfl)) KQ) rfl rfl (gE (b:=OW) (k:=(0,nI (less p.1 v))) λ_=>rfl) rfl (Pz (show _<1000 by rw[ON];exact H Q) (by decide)) (aR ⟨rfl,on (.sh (tN v)),on (.sh (tN (less p.1 v))),on (.sh (nC (rM p.2 (cf c d k v)))),?_⟩))))⟩;rw[KG (q:=rM p.2 (cf c d k v)),KF Q.nd];rfl
  .rintro D _ ⟨rfl,g,m,f,rfl⟩
   rw[ON,QU];exact aR ⟨rfl,_,_,_,_,_,rfl⟩
 .rintro D _ ⟨rfl,I,J,g,m,f,rfl⟩
  rw[ON,QU];exact ai (aI rfl ⟨rfl,rfl⟩)
theorem MY{u:a0a}(h:u.sum=0):u=Pn u.length 0:=List.eq_replicate_iff.mpr ⟨rfl,λx b=>by have:=eA b;lia⟩
theorem Hl{c d:Nat×Nat}{S:R4}(h:p0 K a rs cs W s)(hc:c.1<rs.length)(G:d.1<rs.length)(p:0<qk W cs.length 0 rs)(e:TW W c d cs.length 0 rs=S)(r:S.1<=2^200)(t:S.2.1<=2^200)(v:S.2.2.1<=2^200)(l:S.2.2.2<=2^200):(dn K a).1 [cW a W s rs cs,lb c,lb d] β=on (.ok (nC S),β):=by
 have V:=h.c6;have H:=h.nr.2.1;have y:0<S.1:=by rw[<-e];exact nJ p
 unfold dn
 dsimp only
 refine aB (aA (d:=ZW [(rs,r1)]) (β1:=β) (dq (ag (aa (f7 rfl rfl ou) rfl) (AB rs)) (ag rfl Fh) ?_) ?_)
 .show(dR OW (dK OW (0,nI rs))).map _=_
  rw[gE λ_=>rfl];rfl
 refine bD (ds:=aZ 0 cs.length) (β1:=β) (bK (aa (ag (aa (f7 rfl rfl se) rfl) (kq cs)) rfl) (F0 (by lia) (by lia))) (λk δ m=>β=m/\∃L l,δ=[on (.sh (cW a W s rs cs)),on (.sh (lb c)),on (.sh (lb d)),on (.sh (ZW L)),l]/\(k<=cs.length->z_ W rs (cs.length-k) k L/\r8 W c d (cs.length-k) k L=S)) ⟨rfl,[(rs,r1)],OO,rfl,λ_=>⟨⟨Sn _ _,λu g=>?_,λu g=>?_⟩,?_⟩⟩ ?_ ?_
 .rw[PM.mp g];exact PM.mpr rfl
 .rw[PM.mp g];exact p
 .show rA (rM r1 (TW W c d cs.length 0 rs)) r0=S
  rw[yG,r1_M,e]
 .rintro k dd δ _ n ⟨rfl,L,o,rfl,j⟩
  obtain⟨A,rfl⟩:=yz n;obtain⟨b,i⟩:=j (by lia);refine⟨_,rfl,ai (aA (d:=ZW (B6 W c d (cs.length-(k+1)) k [] L)) (β1:=β) (af rfl (Nm h A hc G b i r t v l)) (aR ⟨rfl,B6 W c d (cs.length-(k+1)) k [] L,on (.sh (.int (k:Int))),rfl,λ_=>⟨yL (λq B=>b.lv q.1 (Pe.mpr ⟨q,B,rfl⟩)) ⟨W4,λ_ h=>(by cases h),λ_ h=>(by cases h)⟩,?_⟩⟩))⟩;rw[HD,show cs.length-(k+1)+1=cs.length-k by lia,i];exact yH S
 .rintro δ _ ⟨rfl,L,o,rfl,j⟩
  rw[qA]at j;obtain⟨b,i⟩:=j (O5 _);rw[TU]at b i;have w:=F4 (z:=Pn rs.length 0) b.nd i y λu g=>by
   obtain⟨P,E⟩:=ic h.ok h.sm cs.length (O5 _) u (b.lv u g);rw[Rl (O5 _)]at E;rw[MY E,P.len]
  subst w;have C:∀{δ:Dn} {f:FL},f δ β=on (.ok ((nI rs).map D.int),β)->c7 1 [] f (hU 0) (λ_=>M.ret OT) (lk (fC (.int 0))) δ β=on (.ok (nL (Pn rs.length 0)),β):=λ{δ f} F=>by
   have:=bi (nv:=1) (cx:=[]) (tg:=hU 0) (f:=fC (.int 0)) (δ:=δ) (β:=β) (nI rs) D.int (λ_=> .int 0) F (λx _=>⟨_,rfl,rfl⟩) (bo (by rw[ON];lia));refine this.trans ?_;rw[WH,ON];show _=on (Rj (D.lst (QA D.int (QA _ (Pn _ 0)))),β);rw[Rz,Rz];rfl
  refine ai (aI (β1:=β) (dq rfl (ag (aa (C (dm (f7 rfl rfl ou) rfl)) rfl) (AB _)) ?_) ⟨rfl,rfl⟩);show(dR OW (dK OW (0,nI (Pn rs.length 0)))).bind _=_;rw[gE λ_=>rfl];show la [_] [_] _=_;unfold la;rw[Q0,Rr,Po rfl];rfl
theorem M3{i j:Nat}{f:FL}{c d:D}{h:G}{a:Ds}{β1:Bg}{Q:a0z}(e:f (vw a) β=on (.ok [c,d],β1))(k:Gw h ((a.set i (on (.sh c))).set j (on (.sh d))) β1 Q):Gw (aJ (zk i j f) h) a β Q:=dF (by unfold zk;rw[e]) k
theorem HG{x y:Nat}(h:0<y):LR (.int (x:Int)) (.int (y:Int))=on (.int ((x % y:Nat):Int)):=by
 show(if decide ((0:Int)<(y:Int))=OT then _ else _)=_;rw[O0 (Po (by lia))];rfl
theorem DS{x y:Nat}:Rv y (x % y)=Rv x y:=by rw[Nat.gcd_comm x y,Nat.gcd_rec y x,Nat.gcd_comm]
theorem J7(x y:Nat):(gi K a).1 [.int (x:Int),.int (y:Int)] β=on (.ok (.int ((Rv x y:Nat):Int)),β):=by
 unfold gi
 dsimp only
 refine aB ?_;refine wU (λq s d=>β=d/\∃c b:Nat,s=[on (.sh (.int (c:Int))),on (.sh (.int (b:Int)))]/\b=q/\Rv c b=Rv x y) ?_ y _ β ⟨rfl,x,y,rfl,rfl,rfl⟩;rintro q s _ ⟨rfl,c,b,rfl,rfl,e⟩;by_cases z:b=0
 .subst z
  exact .inl ⟨β,(hO (dq rfl rfl gt_int)).trans (by rw[PZ (by lia)]),ai (aI rfl ⟨rfl,by rw[<-e,Zu]⟩)⟩
 .exact .inr ⟨β,(hO (dq rfl rfl gt_int)).trans (by rw[Po (by lia)]),ai (M3 (β1:=β) (aa rfl (aa (dq rfl rfl (HG (by lia))) rfl)) (aR ⟨_,rfl,c % b,Vq _ (by lia),rfl,b,c % b,rfl,rfl,DS.trans e⟩))⟩
theorem Mv(x y:Nat):(rT K a).1 [.int (x:Int),.int (y:Int)] β=on (.ok (.int ((Rv x y:Nat):Int)),β):=by
 unfold rT
 dsimp only
 refine aB ?_;refine wU (λq s d=>β=d/\∃c b:Nat,∃f,s=[on (.sh (.int (c:Int))),on (.sh (.int (b:Int))),f]/\b=q/\Rv c b=Rv x y) ?_ y _ β ⟨rfl,x,y,OO,rfl,rfl,rfl⟩;rintro q s _ ⟨rfl,c,b,f,rfl,rfl,e⟩;by_cases z:b=0
 .subst z
  exact .inl ⟨β,(hO (dq rfl rfl gt_int)).trans (by rw[PZ (by lia)]),ai (aI rfl ⟨rfl,by rw[<-e,Zu]⟩)⟩
 .exact .inr ⟨β,(hO (dq rfl rfl gt_int)).trans (by rw[Po (by lia)]),aA (β1:=β) (dq rfl rfl (HG (by lia))) (aA (β1:=β) rfl (ai (aA (β1:=β) rfl (aR ⟨_,rfl,c % b,Vq _ (by lia),rfl,b,c % b,on (.sh (.int ((c % b:Nat):Int))),rfl,rfl,DS.trans e⟩))))⟩
abbrev jr(p q:Nat):D:= .tup [.int ((p/Rv p q:Nat):Int),.int ((q/Rv p q:Nat):Int)]
theorem HJ{p q:Nat}(b:0<q)(h:q<2^1000):(ly K a).1 [.int (p:Int),.int (q:Int)] β=on (.ok (jr p q),β):=by
 have c:0<Rv p q:=Tg _ b;have e:Rv p q<2^1000:=Q1 (Nat.gcd_le_right _ b) h;unfold ly
 dsimp only
 refine aB (eW (hO (dq rfl rfl lt_int)) (by simp;lia) (bw ?_));exact aA (d:= .int ((Rv p q:Nat):Int)) (β1:=β) (af (aa (ag (z:= .int (p:Int)) rfl rfl) (aa rfl rfl)) (J7 p q)) (ai (aI (ag (aa (dq rfl rfl (oK c e)) (aa (dq rfl rfl (oK c e)) rfl)) dX) ⟨rfl,rfl⟩))
theorem CT{p q:Nat}(b:0<q)(h:q<2^1000):(gh K a).1 [.int (p:Int),.int (q:Int)] β=on (.ok (jr p q),β):=by
 have c:0<Rv p q:=Tg _ b;have e:Rv p q<2^1000:=Q1 (Nat.gcd_le_right _ b) h;unfold gh
 dsimp only
 exact aB (aA (d:= .int ((Rv p q:Nat):Int)) (β1:=β) (af (aa (ag (z:= .int (p:Int)) rfl rfl) (aa rfl rfl)) (Mv p q)) (ai (aI (ag (aa (dq rfl rfl (oK c e)) (aa (dq rfl rfl (oK c e)) rfl)) dX) ⟨rfl,rfl⟩)))
theorem pi{n m:Nat}(h:n<m):(cG K a).1 [.int (n:Int),.int (m:Int)] β=on (.ok .non,β):=by
 unfold cG
 dsimp only
 exact aB (ai (eW (jE (hO (sK rfl rfl rfl))) (by simp;lia) (bw (aR ⟨rfl,rfl⟩))))
theorem oN{c:Nat×Nat}(b:c.1<rs.length)(d:c.2<cs.length):(bM K a).1 [cW a W s rs cs,lb c] β=on (.ok .non,β):=by
 have e:∀{β:Bg},(eU K a).1 [.int (c.1:Int),.int (c.2:Int),.int (rs.length:Int),.int (cs.length:Int)] β=on (.ok .non,β):=λ{β}=>by
  unfold eU
  dsimp only
  exact aB (cU (β1:=β) (af rfl (pi b)) (ai (cU (β1:=β) (af rfl (pi d)) (aR ⟨rfl,rfl⟩))))
 unfold bM
 dsimp only
 exact aB (jF (β1:=β) rfl rfl (ai (cU (β1:=β) (af (aa rfl (aa rfl (aa (ag (aa (f7 rfl rfl ou) rfl) (kq rs)) (aa (ag (aa (f7 rfl rfl se) rfl) (kq cs)) rfl)))) e) (aR ⟨rfl,rfl⟩))))
theorem NC{c d:Nat×Nat}{S:R4}(h:p0 K a rs cs W s)(hc:c.1<rs.length)(b:c.2<cs.length)(w:d.1<rs.length)(f:d.2<cs.length)(g:0<qk W cs.length 0 rs)(e:TW W c d cs.length 0 rs=S)(i:S.1<=2^200)(j:S.2.1<=2^200)(k:S.2.2.1<=2^200)(l:S.2.2.2<=2^200):(bx K a).1 [cW a W s rs cs,lb c,lb d] β=on (.ok (jr S.2.2.2 S.1),β):=by
 have m:0<S.1:=by rw[<-e];exact nJ g
 unfold bx
 dsimp only
 exact aB (cU (β1:=β) (af rfl (oN hc b)) (cU (β1:=β) (af rfl (oN w f)) (jF (β1:=β) (af rfl (Hl h hc w g e i j k l)) rfl (ai (aI (af rfl (HJ m (bU i (by decide)))) ⟨rfl,rfl⟩)))))
theorem NQ{c:Nat×Nat}{S:R4}(h:p0 K a rs cs W s)(hc:c.1<rs.length)(b:c.2<cs.length)(f:0<qk W cs.length 0 rs)(e:TW W c c cs.length 0 rs=S)(g:S.1<=2^200)(i:S.2.1<=2^200)(j:S.2.2.1<=2^200)(k:S.2.2.2<=2^200):(hG K a).1 [cW a W s rs cs,.int (c.1:Int),.int (c.2:Int)] β=on (.ok (jr S.2.1 S.1),β):=by
 have l:0<S.1:=by rw[<-e];exact nJ f
 unfold hG
 dsimp only
 exact aB (aA (d:=lb c) (β1:=β) (ag rfl dX) (cU (β1:=β) (af rfl (oN hc b)) (jF (β1:=β) (af rfl (Hl h hc hc f e g i j k)) rfl (ai (aI (af rfl (HJ l (bU g (by decide)))) ⟨rfl,rfl⟩)))))
theorem OK{l:a0a}{c:Nat}(h:l.length<=100):iC (nL l) (.lst [.int (c:Int)])=on (nL (l++[c])):=by
 refine(oR (by rw[ON,ON,Qa];lia)).trans ?_;show _=on (D.lst (QA D.int (QA _ (l++[c]))));rw[PR,PR];rfl
abbrev fiS(a:a0h)(r:a0a)(c:Nat)(f:D)(b d e g h:a0R):Ds:=[on (.sh (nL r)),on (.sh (.int (c:Int))),on (.sh (.lst (a.map pN))),on (.sh f),b,d,e,g,h]
theorem Nv{a:Nat}{n i:Nat}{d:D}(h:((O6 n).map λi=>D.int ((a+i:Nat):Int))[i]?=on d):i<n/\d= .int ((a+i:Nat):Int):=by
 obtain⟨x,b,rfl⟩:=bH h;have c:=(Pa.mp b).1;rw[Py]at c;rw[Qr c]at b;cases b;exact⟨c,rfl⟩
theorem kA{a:Type}{l:List a}{i:Nat}{x:a}(h:l[i]?=on x):l.take (i+1)=l.take i++[x]:=by rw[UR,h];rfl
theorem JJ{s:a0h}{r:a0a}{c:Nat}(J:KX r)(A:s.length=r.length)(L:∀p∈s,p.1<=40/\p.2<=40):(rV K a).1 [nL r,.int (c:Int),.lst (s.map pN)] β=on (.ok (.lst ((vB s r c).map nL)),β):=by
 obtain⟨_,T,E,N⟩:=J;have n:∀k,k<=r.length->(ms s r k).length<=500:=λk B=>O4 (xO k B) (O4 (uz r k) N);unfold rV
 dsimp only
 refine aB ?_;refine aA (d:= .lst ((ms s r 0).map nL)) (β1:=β) (ag (aa (ag rfl Gk) rfl) mP) ?_;refine bD (ds:=(r.zip s).map λq=> .tup [.int (q.1:Int),pN q.2]) (β1:=β) ?_ (λk δ g=>β=g/\∃C F o m b,δ=fiS s r c (.lst ((ms s r k).map nL)) C F o m b) ⟨rfl,OO,OO,OO,OO,OO,rfl⟩ ?_ ?_
 .rw[<-i6 (λx:Nat=>D.int (x:Int)) pN]
  refine kx (x:=nL r) (y:= .lst (s.map pN)) rfl rfl ?_ rfl;show on _=on _;rw[O7];rfl
 .rintro k d δ _ hd ⟨rfl,C,F,o,m,b,rfl⟩
  obtain⟨q,I,rfl⟩:=bH hd;have B:k<r.length:=by
   have:=(Pa.mp I).1;rw[Tf]at this;lia
  have t:k<s.length:=by lia
  obtain rfl:q=(r[k],s[k]):=by
   have:=(Pa.mp I).2;rw[List.getElem_zip]at this;exact this.symm
  have b40:=L _ (P3 t);have O:=eA (P3 B);refine⟨fiS s r c (.lst ((ms s r k).map nL)) (on (.sh (.int (r[k]:Int)))) (on (.sh (pN s[k]))) o m b,rfl,?_⟩;refine um (ds:=[]) (β1:=β) rfl (Qi _) ?_;have w:∀u:a0a,((O6 (RT s[k].2 r[k]+1-s[k].1)).map λi=>u++[s[k].1+i]).length<=41:=λu=>by rw[ON,Py];lia
  refine bD (ds:=(ms s r k).map nL) (β1:=β) rfl (λi δ g=>β=g/\∃m b,δ=fiS s r c (.lst ((ms s r k).map nL)) (on (.sh (.int (r[k]:Int)))) (on (.sh (pN s[k]))) (on (.own ((((ms s r k).take i).flatMap λu=>(O6 (RT s[k].2 r[k]+1-s[k].1)).map λj=>u++[s[k].1+j]).map nL))) m b) ⟨rfl,m,b,rfl⟩ ?_ ?_
  .rintro i d δ _ hd ⟨rfl,m,b,rfl⟩
   obtain⟨u,H,rfl⟩:=bH hd;have U:=DQ k u (Pj H);have X:=(Pa.mp H).1;have Y:=n k (by lia);have Z:(((ms s r k).take i).flatMap λu=>(O6 (RT s[k].2 r[k]+1-s[k].1)).map λj=>u++[s[k].1+j]).length<=500*41:=O4 (iX λu _=>w u) (Se _ (by rw[Q2];lia));refine⟨_,rfl,ai (bD (ds:=(O6 (RT s[k].2 r[k]+1-s[k].1)).map λj=>D.int ((s[k].1+j:Nat):Int)) (β1:=β) (bK (as:=[.int (s[k].1:Int),.int ((RT s[k].2 r[k]:Nat)+1)]) (aa (dq rfl rfl lJ) (aa (dq (x:= .int ((RT s[k].2 r[k]:Nat):Int)) (ag (aa (dq rfl rfl mW) (aa rfl rfl)) (yQ.trans ?_)) rfl rfl) rfl)) ((K2 (by lia) (by lia) (by lia)).trans ?_)) (λj δ g=>β=g/\∃b,δ=fiS s r c (.lst ((ms s r k).map nL)) (on (.sh (.int (r[k]:Int)))) (on (.sh (pN s[k]))) (on (.own ((((ms s r k).take i).flatMap λu=>(O6 (RT s[k].2 r[k]+1-s[k].1)).map λj=>u++[s[k].1+j]).map nL++((O6 (RT s[k].2 r[k]+1-s[k].1)).take j).map λj=>nL (u++[s[k].1+j])))) (on (.sh (nL u))) b) ⟨rfl,b,by rw[W5,Sz,PU];rfl⟩ ?_ ?_)⟩
   .rw[show RT (s[k].2:Int) (r[k]:Int)=((RT s[k].2 r[k]:Nat):Int) by lia]
   .rw[show((RT s[k].2 r[k]:Nat)+1-(s[k].1:Int):Int).toNat=RT s[k].2 r[k]+1-s[k].1 by lia]
   .rintro j d δ _ hd ⟨rfl,b,rfl⟩
    obtain⟨Q,rfl⟩:=Nv hd;have e:(O6 (RT s[k].2 r[k]+1-s[k].1))[j]?=on j:=Qr Q;refine⟨_,rfl,ai (uo (d:=nL (u++[s[k].1+j])) rfl (aa (dq rfl (ag rfl mP) (OK (by lia))) rfl) (Pz (show _<50000 by rw[Pl,ON,ON,Q2,Py];lia) (by decide)) (aR ⟨rfl,on (.sh (.int ((s[k].1+j:Nat):Int))),?_⟩))⟩;rw[kA e,PR];show[_,_,_,_,_,_,on (Sl.own (_++_++[_])),_,_]=[_,_,_,_,_,_,on (Sl.own (_++(_++[_]))),_,_];rw[Qs]
   .rintro δ _ ⟨rfl,b,rfl⟩
    rw[ON,Py];refine aR ⟨rfl,on (.sh (nL u)),b,?_⟩;rw[kA H,Rp,PR,Qd,Vb,PU,O7,RQ (l:=O6 (RT s[k].2 r[k]+1-s[k].1)) (by rw[Py];exact O5 _)];rfl
  .rintro δ _ ⟨rfl,m,b,rfl⟩
   rw[ON,QU];refine Hb (ai (aA (d:= .lst ((ms s r (k+1)).map nL)) (β1:=β) ?_ (aR ⟨rfl,_,_,_,_,_,rfl⟩)));have R:ms s r (k+1)=(ms s r k).flatMap λu=>(O6 (RT s[k].2 r[k]+1-s[k].1)).map λi=>u++[s[k].1+i]:=by
    show XM _ _=_;rw[cK B,cK t]
   rw[R];rfl
 .rintro δ _ ⟨rfl,C,F,o,m,b,rfl⟩
  rw[ON,Tf,A,XZ,xP A];have h:=jz (nv:=1) (cx:=[1]) (it:=d6 (ao 3)) (tg:=hU 0) (tt:=fB (f2 (pS) (aT gc (aj (ao 0) (aK))) (ao 1))) (f:=ao 0) (δ:=hE (fiS s r c (.lst ((I0 s r).map nL)) C F o m b)) (β:=β) (I0 s r) nL nL (λv=>decide (v.sum=c)) rfl (λv _=>⟨[on (nL v),on (.int (c:Int))],rfl,hO (dq (ag rfl (kM v)) rfl (eq_int.trans (by rw[decide_eq_decide.mpr (show((v.sum:Nat):Int)=(c:Int)↔v.sum=c by lia)]))),λ_=>rfl⟩) (bo (by rw[<-xP A];have:=n r.length (O5 _);lia));refine ai (aI h ⟨rfl,?_⟩);rw[ER A]
theorem Gp{r v:a0a}(h:ko v r)(b:r.length<=4):(pK K a).1 [nL r,nL v] β=on (.ok (nL (less r v)),β):=by
 unfold pK
 dsimp only
 refine aB (ai (aI ?_ ⟨rfl,rfl⟩));unfold nL;rw[<-vV h];refine bi (r.zip v) (λp=>D.tup [.int (p.1:Int),.int (p.2:Int)]) _ ?_ (λp _=>⟨[on (.int (p.1:Int)),on (.int (p.2:Int))],rfl,rfl⟩) (bo (by rw[Tf];lia));rw[<-i6 (λx:Nat=>D.int (x:Int)) (λx:Nat=>D.int (x:Int))];refine kx (x:=nL r) (y:=nL v) rfl rfl ?_ ?_
 .show on _=on _
  rw[O7];rfl
 .show on _=on _
  rw[O7];rfl
theorem J5{r c k n:Nat}{B:a0f}(hB:Wi r c B)(g:r<=4)(i:k<c){δ:Dn}(d:δ.getD 2 OO=on (lu B))(e:lg 1 [n] δ=[OO,on (.int (k:Int))]):c7 1 [n] (d6 (ao 2)) (hU 0) (λ_=>M.ret OT) (lk (f2 j0 (ao 0) (ao 1))) δ β=on (.ok (.lst ((nl B k).map pN)),β):=by
 have h:=bi (nv:=1) (cx:=[n]) (it:=d6 (ao 2)) (tg:=hU 0) (f:=f2 j0 (ao 0) (ao 1)) (δ:=δ) (β:=β) B (λa=>D.lst (a.map pN)) (λa=>pN (a.getD k (0,0))) (dm (p9 d) (by
  show on _=on _;rw[O7,O7];exact Qo on (PF λa _=>Qo D.lst (by show QA pD (QA _ a)=_;rw[O7];rfl)))) (λa b=>⟨[on (D.lst (a.map pN)),on (.int (k:Int))],by rw[e];rfl,dq rfl rfl (cT (by
   have l:=hB.1.2 a b;rw[OY,cK (by lia),OV (by lia)];rfl))⟩) (bo (by rw[hB.1.1];lia))
 refine h.trans ?_;unfold nl;rw[O7];rfl
theorem LQ{rs:a0a}(h:rs.sum<=8):mu rs<=40320:=by
 have b:mu rs<=d5 rs.sum:=by
  rw[<-jp];exact Tv _ (rZ rs)
 exact O4 b (O4 (wj h) (by decide))
noncomputable abbrev eQ(q:a0n×a0a):D:= .tup [.lst (q.1.map nL),nL q.2]
abbrev liS(rs cs:a0a)(B:a0f)(f:D)(b c d e g h:a0R):Ds:=[on (.sh (nL rs)),on (.sh (nL cs)),on (.sh (lu B)),on (.sh f),b,c,d,e,g,h]
abbrev nxQ(W:Wy)(k:Nat)(q:a0n×a0a):List (a0n×a0a):=(W k q.2).map λv=>(q.1++[v],less q.2 v)
theorem yY{rs cs:a0a}{B:a0f}(h:Nt0 rs cs)(F:rs.sum<=8)(hB:Wi rs.length cs.length B):(kh K a).1 [nL rs,nL cs,lu B] β=on (.ok (.lst ((lst (wB B cs) rs cs.length).map λq=> .lst (q.1.map nL))),β):=by
 have S:=h.c6;obtain⟨O,H,Q,R⟩:=h.nr;have o:=yd B cs;have l:∀k,k<=cs.length->(lst (wB B cs) rs k).length<=40320:=λk m=>O4 (xE o h.sm m) (LQ F);unfold kh
 dsimp only
 refine aB ?_;refine aA (d:= .lst ((lst (wB B cs) rs 0).map eQ)) (β1:=β) (ag (aa (ag (aa (ag rfl Gk) (aa (ag rfl rfl) rfl)) dX) rfl) mP) ?_;refine bD (ds:=cL 0 ((nI cs).map D.int)) (β1:=β) (bK rfl rfl) (λk s e=>β=e/\∃p r t f g b,s=liS rs cs B (.lst ((lst (wB B cs) rs k).map eQ)) p r t f g b) ⟨rfl,OO,OO,OO,OO,OO,OO,rfl⟩ ?_ ?_
 .rintro k d s _ hd ⟨rfl,p,r,t,f,g,b,rfl⟩
  obtain⟨x,I,rfl⟩:=sB hd;obtain⟨n,E,rfl⟩:=qO I;have m:=(Pa.mp E).1;have J:cs.getD k 0=n:=by rw[OU,E];rfl
  obtain⟨G,L⟩:=hB.col m;refine⟨_,rfl,um (ds:=[]) (β1:=β) rfl (Qi _) ?_⟩;have A:∀i,(((lst (wB B cs) rs k).take i).flatMap (nxQ (wB B cs) k)).length<=40320:=λi=>by
   refine O4 ?_ (l (k+1) m);show _<=((lst (wB B cs) rs k).flatMap (nxQ (wB B cs) k)).length
   conv=>rhs;rw[<-R1 i (lst (wB B cs) rs k),Rp,Pl]
   exact Qu _ _
  refine bD (ds:=(lst (wB B cs) rs k).map eQ) (β1:=β) rfl (λi s e=>β=e/\∃f g b,s=liS rs cs B (.lst ((lst (wB B cs) rs k).map eQ)) (on (.sh (.int (k:Int)))) (on (.sh (.int (n:Int)))) (on (.own ((((lst (wB B cs) rs k).take i).flatMap (nxQ (wB B cs) k)).map eQ))) f g b) ⟨rfl,f,g,b,rfl⟩ ?_ ?_
  .rintro i d s _ hd ⟨rfl,f,g,b,rfl⟩
   obtain⟨q,u,rfl⟩:=bH hd;have M:=Pj u;obtain⟨w,V,W⟩:=vS o h.sm k (by lia) q M;have P:=w.len;have z:=w.sum;have T:=w.pr;have N:KX q.2:=⟨by lia,by lia,by lia,by lia⟩;have U:(wB B cs k q.2).length<=40320:=by
    have:=A (i+1);rw[kA u,Rp,Qd,Vb,PU,Pl,ON]at this;lia
   refine⟨_,rfl,ai (bD (ds:=(wB B cs k q.2).map nL) (β1:=β) (dm (af (aa rfl (aa rfl (aa (J5 hB H m rfl rfl) rfl))) (JJ (c:=n) N (by rw[G,P]) L)) (by unfold wB;rw[J];rfl)) (λj s e=>β=e/\∃b,s=liS rs cs B (.lst ((lst (wB B cs) rs k).map eQ)) (on (.sh (.int (k:Int)))) (on (.sh (.int (n:Int)))) (on (.own ((((lst (wB B cs) rs k).take i).flatMap (nxQ (wB B cs) k)).map eQ++((wB B cs k q.2).take j).map λv=>eQ (q.1++[v],less q.2 v)))) (on (.sh (.lst (q.1.map nL)))) (on (.sh (nL q.2))) b) ⟨rfl,b,by rw[W5,Sz,PU];rfl⟩ ?_ ?_)⟩
   .rintro j d s _ hd ⟨rfl,b,rfl⟩
    obtain⟨v,C,rfl⟩:=bH hd;have y:=(o k q.2).subset (Pj C);have X:=A i;refine⟨_,rfl,ai (uo (d:=eQ (q.1++[v],less q.2 v)) rfl (aa (ag (aa (dq rfl (ag rfl mP) ((oR (by rw[ON,Qa];lia)).trans ?_)) (aa (af rfl (Gp (dI y) (by lia))) rfl)) dX) rfl) (Pz (show _<100000 by rw[Pl,ON,ON,Q2];lia) (by decide)) (aR ⟨rfl,on (.sh (nL v)),?_⟩))⟩
    .rw[PR];rfl
    .rw[kA C,PR]
     show[_,_,_,_,_,_,on (Sl.own (_++_++[_])),_,_,_]=[_,_,_,_,_,_,on (Sl.own (_++(_++[_]))),_,_,_];rw[Qs]
   .rintro s _ ⟨rfl,b,rfl⟩
    rw[ON,QU];refine aR ⟨rfl,on (.sh (.lst (q.1.map nL))),on (.sh (nL q.2)),b,?_⟩;rw[kA u,Rp,PR,Qd,Vb,PU,O7];rfl
  .rintro s _ ⟨rfl,f,g,b,rfl⟩
   rw[ON,QU];exact Hb (ai (aA (d:= .lst ((lst (wB B cs) rs (k+1)).map eQ)) (β1:=β) rfl (aR ⟨rfl,_,_,_,_,_,_,rfl⟩)))
 .rintro s _ ⟨rfl,p,r,t,f,g,b,rfl⟩
  rw[m9,ON,ON];exact ai (aI (bi (lst (wB B cs) rs cs.length) eQ (λq=> .lst (q.1.map nL)) rfl (λq _=>⟨[on (.lst (q.1.map nL)),on (nL q.2)],rfl,rfl⟩) (O4 (l _ (O5 _)) (by decide))) ⟨rfl,rfl⟩)
theorem EF{ba:a0u}(h:ba.length<=1000):(qF K a).1 [lG ba] β=on (.ok (lG ba),β):=
 aB (ai (aI (bi ba D.lst D.lst rfl (λx _=>⟨_,rfl,rfl⟩) (bo h)) ⟨rfl,rfl⟩))
theorem DC{r c:Nat}(d:r<=1000)(hc:c<=1000):mM K a [.int (r:Int),.int (c:Int)] β=on (.ok (gP (oJ r c)),β):=by
 have b:∀x:Nat,ii 1 [] (dz gz (aj (ao 1) (aK))) (hU 0) (λ_=>M.ret OT) (lk (aT fR (aj (fC (.int 0)) (aj (fC (.int 40)) (aK))))) [on (.int (0+(x:Int))),on (.int (c:Int))] β=on (.ok ((Pn c ((0:Int),(40:Int))).map pD),β):=λx=>by
  have h:=EG (nv:=1) (cx:=[]) (it:=dz gz (aj (ao 1) (aK))) (tg:=hU 0) (f:=aT fR (aj (fC (.int 0)) (aj (fC (.int 40)) (aK)))) (δ:=[on (.int (0+(x:Int))),on (.int (c:Int))]) (β:=β) (O6 c) (λi=>D.int (0+(i:Int))) (λ_=>pD (0,40))
   (bK rfl (F0 (by lia) (by lia))) (λx _=>⟨_,rfl,ag rfl dX⟩) (bo (by rw[Py];lia))
  rw[jW]at h;rw[Rz];exact h
 have h:=tW (nv:=1) (cx:=[1]) (it:=dz gz (aj (ao 0) (aK))) (tg:=hU 0) (f:=ii 1 [] (dz gz (aj (ao 1) (aK))) (hU 0) (λ_=>M.ret OT) (lk (aT fR (aj (fC (.int 0)) (aj (fC (.int 40)) (aK)))))) (δ:=[on (.int (r:Int)),on (.int (c:Int))]) (β:=β) (O6 r) (λi=>D.int (0+(i:Int))) (λ_=>(Pn c ((0:Int),(40:Int))).map pD)
  (bK rfl (F0 (by lia) (by lia))) (λx _=>⟨_,rfl,b x⟩) (bo (by rw[Py];lia))
 rw[jW]at h;refine J9 (ai (Iz h ⟨rfl,?_⟩));show gP (oJ r c)=_;show QA _ _=_;rw[Rz]
abbrev Z9(ba:LI)(b:LP)(c d e f g:a0R):Ds:=[on (.sh .bag),on (.sh (bN ba)),on (.grd (gP b)),c,d,e,f,g]
def BdI(r c:Nat)(ba:LI)(d e:a0R)(a:Ds)(β:Bg):Prop:=β.ok/\∃(b:LP) (f g h:a0R),a=Z9 ba b d e f g h/\x_ r c b/\Kp ba b
theorem yZ{r c:Nat}{ba:LI}(t:ZK r c ba)(ok:β.ok):∃(b:LP) (f:Bg),(iJ K a).1 [.bag,bN ba] β=on (.ok (dE b),f)/\x_ r c b/\Kp ba b/\f.ok:=by
 suffices h:∃g f,(iJ K a).1 [.bag,bN ba] β=on (g,f)/\(∃(b:LP),g= .ok (dE b)/\x_ r c b/\Kp ba b/\f.ok) by
  obtain⟨g,f,e,b,rfl,P,S⟩:=h;exact⟨b,f,e,P,S⟩
 have r1:=t.r1;have c1:=t.c1;have c0:=t.c0;have r0:=t.r0;obtain⟨F,H,I⟩:=t.shp.at (i:=0) (by lia);have V:(gI ba)[0]?=on (F.map D.int):=by rw[OY,H];rfl
 unfold iJ
 dsimp only
 refine nE ?_;refine Ha (β1:=β) (Ix (as:=[.int (r:Int),.int (c:Int)]) (β1:=β) (aa (ag rfl (qT (by rw[ON,t.shp.1]))) (aa (ag (aa (x:= .lst (F.map D.int)) (dq rfl rfl (oB V)) rfl) (dh (by rw[ON,I]))) rfl)) (DC (by lia) (by lia))) (LJ _) ?_;obtain⟨W,β1,p1,a0,a1,R⟩:=bS ok (lot:=3) (by decide) (by decide);refine j7 (c:=decide (W=0)) (β1:=β1) (hO (dq (af rfl p1) rfl eq_int)) ?_;by_cases hw:W=0
 .rw[O0 (by simpa using hw)]
  exact aI rfl ⟨_,rfl,x_.free r c,Kp.free t,R⟩
 rw[O1 (by simpa using hw)];refine bw ?_;refine bD (ds:=cL 0 ((gI ba).map D.lst)) (β1:=β1) rfl (λ_ E β=>∃z s4,BdI r c ba z s4 E β) ⟨OO,OO,R,oJ r c,OO,OO,OO,rfl,x_.free r c,Kp.free t⟩ ?_ ?_
 .rintro i d E β2 hd ⟨z,s4,J,b,Y,Z,T,rfl,o,B⟩
  obtain⟨x,hx,rfl⟩:=sB hd;obtain⟨y,hy,rfl⟩:=bH hx;obtain⟨s,m,rfl⟩:=bH hy;have hi:i<r:=by rw[<-t.shp.1];exact(Pa.mp m).1
  have U:s.length=c:=t.shp.2 s (Pj m);refine⟨Z9 ba b (on (.sh (.int i))) (on (.sh (.lst (s.map D.int)))) Y Z T,rfl,ai ?_⟩;refine bD (ds:=cL 0 (s.map D.int)) (β1:=β2) rfl (λ_=>BdI r c ba (on (.sh (.int i))) (on (.sh (.lst (s.map D.int))))) ⟨J,b,Y,Z,T,rfl,o,B⟩ ?_ (λE β h=>aR ⟨_,_,h⟩);rintro j d E ae hd ⟨ab,b,Y,Z,T,rfl,o,B⟩;obtain⟨x,hx,rfl⟩:=sB hd;obtain⟨n,hn,rfl⟩:=bH hx;have hj:j<c:=by rw[<-U];exact(Pa.mp hn).1
  have ad:=t.le40 s (Pj m) n (Pj hn);obtain⟨q,l,L⟩:=o.shp.at hi;refine⟨Z9 ba b (on (.sh (.int i))) (on (.sh (.lst (s.map D.int)))) (on (.sh (.int j))) (on (.sh (.int n))) T,rfl,?_⟩;obtain⟨w,A,p4,W,w1,N⟩:=bS ab (lot:=4) (by decide) (by decide);refine aA (d:= .int w) (β1:=A) (af rfl p4) ?_
  have M:∀(p:Int×Int) (E:Ds),pq p->p.1<=n->n<=p.2->∀{β5:Bg} {fv:FD} {h:G} {Q:a0z},fv (hE (Z9 ba b (on (.sh (.int i))) (on (.sh (.lst (s.map D.int)))) (on (.sh (.int j))) (on (.sh (.int n))) (on (.sh (.int w))))) A=on (.ok (pD p),β5)->
    (∀b,x_ r c b->Kp ba b->Gw h (Z9 ba b (on (.sh (.int i))) (on (.sh (.lst (s.map D.int)))) (on (.sh (.int j))) (on (.sh (.int n))) (on (.sh (.int w)))) β5 Q)->
    Gw (aJ (q8 2 (ao 3) (ao 5) fv) h) (Z9 ba b (on (.sh (.int i))) (on (.sh (.lst (s.map D.int)))) (on (.sh (.int j))) (on (.sh (.int n))) (on (.sh (.int w)))) A Q:=λp E hp P S β5 fv h Q e k=>by
   refine G9 (d:=pD p) (ba:=gP b) (ds:=q.map pD) (ka:=i) (kb:=j) (ja:=i) (jb:=j) e rfl rfl rfl ?_ ?_ ?_ rfl ?_
   .rw[ON,o.shp.1];exact mX (by lia) (by lia)
   .rw[OY,l];rfl
   .rw[ON,L];exact mX (by lia) (by lia)
   .have X:(gP b).set i ((q.map pD).set j (pD p))=gP (b.set i (q.set j p)):=by
     show _=QA _ _;rw[Us,Us]
    rw[X];exact k _ (o.set l hp) (B.set l (nF m hn) P S)
  refine j7 (c:=decide (w=0)) (β1:=A) (hO (dq rfl rfl eq_int)) ?_;by_cases q0:w=0
  .rw[O0 (by simpa using q0)]
   obtain⟨u,β5,p5,u0,u1,ac⟩:=bS N (lot:=n+1) (by lia) (by lia);obtain⟨v,C,p6,v0,v1,O⟩:=bS ac (lot:=3) (by decide) (by decide);refine M (n-u,RT 40 (n+v)) [] ⟨by show 0<=n-u;lia,by show n-u<=RT 40 (n+v);lia,by show RT 40 (n+v)<=40;lia⟩ (by show n-u<=n;lia) (by show n<=RT 40 (n+v);lia) (β5:=C) ?_ λb o B=>?_
   .exact ag (aa (dq rfl (af (aa rfl (aa (dq rfl rfl rfl) rfl)) p5) rfl) (aa (ag (aa rfl (aa (dq rfl (af rfl p6) rfl) rfl)) yQ) rfl)) dX
   .refine ai (f8 (β1:=C) ?_ (bw (aR ⟨O,b,_,_,_,rfl,o,B⟩)))
    rw[show(OW:Bool)=decide (w=1) by rw[q0];rfl];exact hO (dq rfl rfl eq_int)
  .rw[O1 (by simpa using q0)]
   refine bw (ai (j7 (c:=decide (w=1)) (β1:=A) (hO (dq rfl rfl eq_int)) ?_));by_cases q1:w=1
   .rw[O0 (by simpa using q1)]
    obtain⟨v,C,p6,v0,v1,O⟩:=bS N (lot:=3) (by decide) (by decide);refine M (0,Yx n v) [] ⟨by show(0:Int)<=0;lia,by show 0<=Yx n v;lia,by show Yx n v<=40;lia⟩ (by show 0<=n;lia) (by show n<=Yx n v;lia) (β5:=C) ?_ λb o B=>aR ⟨O,b,_,_,_,rfl,o,B⟩;exact ag (aa rfl (aa (ag (aa rfl (aa (af rfl p6) rfl)) LT) rfl)) dX
   .rw[O1 (by simpa using q1)]
    exact bw (aR ⟨N,b,_,_,_,rfl,o,B⟩)
 .rintro E β2 ⟨z,s4,J,b,Y,Z,T,rfl,o,B⟩
  exact ai (aI rfl ⟨b,rfl,o,B,J⟩)
theorem qf:∀{xs:a0e},(∀x∈xs,0<=x)->∃l:a0a,xs=nI l
 |[],_=>⟨[],rfl⟩
 |x::xs,h=>by
  obtain⟨l,e⟩:=qf λy b=>h y (OR _ b);have:=h x OZ;exact⟨x.toNat::l,by rw[e];show _=((x.toNat:Nat):Int)::_;rw[Int.toNat_of_nonneg this]⟩
abbrev gdS(r c t:Nat)(ba:LI)(b d e:a0R):Ds:=[on (.sh .bag),on (.sh (.int (r:Int))),on (.sh (.int (c:Int))),on (.sh (.int (t:Int))),on (.grd (gI ba)),b,d,e]
theorem oI{r c t:Nat}(w:β.ok)(r0:1<=r)(r1:r<=4)(E:1<=c)(G:c<=6)(F:t<=40):∃(ba:LI) (j:Bg),(fW K a).1 [.bag,.int (r:Int),.int (c:Int),.int (t:Int)] β=on (.ok (bN ba),j)/\(ZK r c ba/\tot ba=(t:Int))/\j.ok:=by
 suffices h:∃g j,(fW K a).1 [.bag,.int (r:Int),.int (c:Int),.int (t:Int)] β=on (g,j)/\(∃(ba:LI),g= .ok (bN ba)/\(ZK r c ba/\tot ba=(t:Int))/\j.ok) by
  obtain⟨g,j,e,ba,rfl,H,I⟩:=h;exact⟨ba,j,e,H,I⟩
 unfold fW
 dsimp only
 refine nE ?_;refine Ha (ba:=(O6 r).map λ_=>Pn c (D.int 0)) (β1:=β) (tW (O6 r) (λi=>D.int (0+(i:Int))) _ (bK (ds:=aZ 0 r) rfl (F0 (by lia) (by lia))) (λx _=>⟨_,rfl,NK (x:= .int 0) (c:=c) rfl rfl (by lia)⟩) (bo (by rw[Py];lia))) ?_ ?_
 .rw[SW]
  intro x k;obtain⟨_,_,rfl⟩:=Pe.mp k;rw[<-Rz (f:=D.int)];exact jT _
 have J:(O6 r).map (λ_=>Pn c (D.int 0))=gI (Pn r (Pn c 0)):=by
  show _=QA _ _;rw[Rz,WH,Rz,Py]
 rw[J];refine bD (ds:=aZ 0 t) (β1:=β) (bK rfl (F0 (by lia) (by lia))) (λi s β=>β.ok/\∃ba p q y,s=gdS r c t ba p q y/\jn r c ba/\(∀row∈ba,∀x∈row,0<=x)/\tot ba=(i:Int)) ⟨w,Pn r (Pn c 0),OO,OO,OO,rfl,⟨by simp,λrow h=>?_⟩,λrow h x k=>?_,?_⟩ ?_ ?_
 .rw[(RA.mp h).2];simp
 .rw[(RA.mp h).2]at k
  rw[(RA.mp k).2];exact WE _
 .unfold tot
  rw[Rz];have z:∀n:Nat,(Pn n (0:Int)).sum=0:=λn=>by
   induction n with
   |zero=>rfl
   |succ n M=>rw[QW,PD,M];rfl
  rw[z,z];rfl
 .rintro i d s j hd ⟨m,ba,p,q,y,rfl,sh,nn,F⟩
  obtain⟨v,β1,L,O,Q,A⟩:=bS m (lot:=(r:Int)) (by lia) (by lia);obtain⟨u,β2,N,R,T,B⟩:=bS A (lot:=(c:Int)) (by lia) (by lia);obtain⟨v,rfl⟩:∃n:Nat,v=(n:Int):=⟨v.toNat,by lia⟩;obtain⟨u,rfl⟩:∃n:Nat,u=(n:Int):=⟨u.toNat,by lia⟩;obtain⟨row,b,o⟩:=sh.at (i:=v) (by lia);obtain⟨x,k⟩:=Io (l:=row) (i:=u) (by lia);refine⟨_,rfl,aA (af rfl L) (aA (af rfl N) (ai (G9 (d:= .int (x+1)) (β1:=β2) (β2:=β2) (β3:=β2) (ba:=gI ba) (ds:=row.map D.int) (ka:=v) (kb:=u) (ja:=v) (jb:=u) (dq (dq (dq rfl rfl (oB (row:=row.map D.int) ?_)) rfl (cT (d:= .int x) ?_)) rfl rfl) rfl rfl rfl ?_ ?_ ?_ rfl (aR ⟨B,ba.set v (row.set u (x+1)),on (.sh d),on (.sh (.int (v:Int))),on (.sh (.int (u:Int))),?_,sh.set b,LK nn b ?_,?_⟩))))⟩
  .rw[OY,b];rfl
  .rw[OY,k];rfl
  .rw[ON,sh.1];exact mX (by lia) (by lia)
  .rw[OY,b];rfl
  .rw[ON,o];exact mX (by lia) (by lia)
  .show[_,_,_,_,on (Sl.grd ((gI ba).set v ((row.map D.int).set u (.int (x+1))))),_,_,_]=_
   rw[show(gI ba).set v ((row.map D.int).set u (.int (x+1)))=gI (ba.set v (row.set u (x+1))) by show _=QA _ _;rw[Us,Us]]
  .have:=nn row (Pj b) x (Pj k)
   lia
  .have:=IL (v:=x+1) b k
   lia
 .rintro s j ⟨m,ba,p,q,y,rfl,sh,nn,C⟩
  rw[qA]at C;exact ai (aI rfl ⟨ba,rfl,⟨⟨sh,nn,by lia,r0,r1,E,G⟩,C⟩,m⟩)
def Sml(r c:Nat)(a:LI):Prop:=ZK r c a/\tot a<=7
theorem Fw(x:β.ok):∃(s:LI) (r c:Nat) (b:Bg),(jO K a).1 [.bag] β=on (.ok (bN s),b)/\Sml r c s/\b.ok:=by
 suffices h:∃g b,(jO K a).1 [.bag] β=on (g,b)/\(∃(s:LI) (r c:Nat),g= .ok (bN s)/\Sml r c s/\b.ok) by
  obtain⟨g,b,e,s,r,c,rfl,v,A⟩:=h;exact⟨s,r,c,b,e,v,A⟩
 unfold jO
 dsimp only
 refine nE ?_;have p:∀(k n:Nat),iC (.int (k:Int)) (.int (n:Int))=on (.int ((k+n:Nat):Int)):=λk n=>by show on (D.int _)=_;rw[Uk]
 obtain⟨y,β1,B,H,I,j⟩:=bS x (lot:=8) (by decide) (by decide);refine aA (af rfl B) ?_;refine j7 (β1:=β1) (hO (dq rfl rfl eq_int)) ?_;by_cases M:y=0
 .rw[O0 (Po M)]
  obtain⟨t,w,l,q,G,d⟩:=bS j (lot:=5) (by decide) (by decide);obtain⟨t,rfl⟩:∃n:Nat,t=(n:Int):=⟨t.toNat,by lia⟩;obtain⟨s,E,e,g,f⟩:=oI (K:=K) (a:=a) (r:=4) (c:=6) (t:=t) d (by decide) (by decide) (by decide) (by decide) (by lia);exact aI (af (aa rfl (aa rfl (aa rfl (aa (af rfl l) rfl)))) e) ⟨s,4,6,rfl,⟨g.1,by lia⟩,f⟩
 rw[O1 (by simp[M])];refine bw ?_;refine j7 (β1:=β1) (hO (dq rfl rfl eq_int)) ?_;by_cases P:y=1
 .rw[O0 (Po P)]
  obtain⟨c,w,l,q,G,d⟩:=bS j (lot:=6) (by decide) (by decide);obtain⟨t,E,m,S,V,f⟩:=bS d (lot:=8) (by decide) (by decide);obtain⟨c,rfl⟩:∃n:Nat,c=(n:Int):=⟨c.toNat,by lia⟩;obtain⟨t,rfl⟩:∃n:Nat,t=(n:Int):=⟨t.toNat,by lia⟩;obtain⟨s,o,e,g,i⟩:=oI (K:=K) (a:=a) (r:=1) (c:=1+c) (t:=t) f (by decide) (by decide) (by lia) (by lia) (by lia);exact aI (af (aa rfl (aa rfl (aa (dq rfl (af rfl l) (p 1 c)) (aa (af rfl m) rfl)))) e) ⟨s,1,1+c,rfl,⟨g.1,by lia⟩,i⟩
 rw[O1 (by simp[P])];refine bw ?_;refine j7 (β1:=β1) (hO (dq rfl rfl eq_int)) ?_;by_cases W:y=2
 .rw[O0 (Po W)]
  obtain⟨c,w,l,q,G,d⟩:=bS j (lot:=4) (by decide) (by decide);obtain⟨t,E,m,S,V,f⟩:=bS d (lot:=8) (by decide) (by decide);obtain⟨c,rfl⟩:∃n:Nat,c=(n:Int):=⟨c.toNat,by lia⟩;obtain⟨t,rfl⟩:∃n:Nat,t=(n:Int):=⟨t.toNat,by lia⟩;obtain⟨s,o,e,g,i⟩:=oI (K:=K) (a:=a) (r:=1+c) (c:=1) (t:=t) f (by lia) (by lia) (by decide) (by decide) (by lia);exact aI (af (aa rfl (aa (dq rfl (af rfl l) (p 1 c)) (aa rfl (aa (af rfl m) rfl)))) e) ⟨s,1+c,1,rfl,⟨g.1,by lia⟩,i⟩
 rw[O1 (by simp[W])];refine bw ?_;obtain⟨r,w,l,q,G,d⟩:=bS j (lot:=2) (by decide) (by decide);obtain⟨c,E,m,S,V,f⟩:=bS d (lot:=3) (by decide) (by decide);obtain⟨t,o,C,F,J,i⟩:=bS f (lot:=8) (by decide) (by decide);obtain⟨r,rfl⟩:∃n:Nat,r=(n:Int):=⟨r.toNat,by lia⟩;obtain⟨c,rfl⟩:∃n:Nat,c=(n:Int):=⟨c.toNat,by lia⟩;obtain⟨t,rfl⟩:∃n:Nat,t=(n:Int):=⟨t.toNat,by lia⟩;obtain⟨s,z,e,g,u⟩:=oI (K:=K) (a:=a) (r:=2+r) (c:=2+c) (t:=t) i (by lia) (by lia) (by lia) (by lia) (by lia);refine aA (dq rfl (af rfl l) (p 2 r)) (aA (dq rfl (af rfl m) (p 2 c)) ?_);exact ai (aI (af (aa rfl (aa rfl (aa rfl (aa (af rfl C) rfl)))) e) ⟨s,2+r,2+c,rfl,⟨g.1,by lia⟩,u⟩)
theorem few1:∀x<9,(x+1)*1<=500/\1<63:=by decide
theorem few2:∀x<9,∀y<9-x,(x+1)*((y+1)*1)<=500/\(x+1)*1<63:=by decide
theorem few3:∀x<9,∀y<9-x,∀z<9-x-y,(x+1)*((y+1)*((z+1)*1))<=500/\(x+1)*((y+1)*1)<63:=by decide
theorem few4:∀x<9,∀y<9-x,∀z<9-x-y,∀w<9-x-y-z,(x+1)*((y+1)*((z+1)*((w+1)*1)))<=500/\(x+1)*((y+1)*((z+1)*1))<63:=by decide
theorem few:∀{rs:a0a},1<=rs.length->rs.length<=4->rs.sum<=8->KX rs/\pr (rs.dropLast.map (·+1))<63
 |[x],_,l,h=>by
  have q:=few1 x (by simp at h;lia);exact⟨⟨by show 1<=1;decide,l,by lia,q.1⟩,q.2⟩
 |[x,y],_,l,h=>by
  have q:=few2 x (by simp at h;lia) y (by simp at h;lia);exact⟨⟨by show 1<=2;decide,l,by lia,q.1⟩,q.2⟩
 |[x,y,z],_,l,h=>by
  have q:=few3 x (by simp at h;lia) y (by simp at h;lia) z (by simp at h;lia);exact⟨⟨by show 1<=3;decide,l,by lia,q.1⟩,q.2⟩
 |[x,y,z,w],_,l,h=>by
  have q:=few4 x (by simp at h;lia) y (by simp at h;lia) z (by simp at h;lia) w (by simp at h;lia);exact⟨⟨by show 1<=4;decide,l,by lia,q.1⟩,q.2⟩
 |[],h,_,_=>by simp at h
 |_::_::_::_::_::_,_,h,_=>by simp at h
theorem toB{r c:Nat}{b:LP}(h:x_ r c b):∃B,b=gU B/\Wi r c B:=by
 have e:b=gU (b.map λa=>a.map λp=>(p.1.toNat,p.2.toNat)):=by
  unfold gU;rw[O7];refine(UN b).symm.trans (PF λa g=>?_);show a=QA _ (QA _ a);rw[O7];refine(UN a).symm.trans (PF λp i=>?_);obtain⟨s,w,D⟩:=h.ok a g p i;exact QI (show p.1=((p.1.toNat:Nat):Int) by lia) (show p.2=((p.2.toNat:Nat):Int) by lia)
 refine⟨_,e,h.shp.map,λa g p i=>?_⟩;obtain⟨d,j,rfl⟩:=Pe.mp g;obtain⟨f,k,rfl⟩:=Pe.mp i;obtain⟨s,w,D⟩:=h.ok d j f k;show f.1.toNat<=f.2.toNat/\f.2.toNat<=40;lia
theorem KM{r c:Nat}{a:LI}{b:LP}(s:Sml r c a)(k:x_ r c b)(D:Kp a b):∃B rs cs,b=gU B/\D_ a B rs cs/\rs.length=r/\cs.length=c/\rs.sum<=8:=by
 obtain⟨t,l⟩:=s;obtain⟨B,rfl,ok⟩:=toB k;obtain⟨rs,e⟩:=qf (xs:=a.map QZ) λx f=>by
  obtain⟨w,g,rfl⟩:=Pe.mp f;exact ml (t.nn w g)
 obtain⟨cs,i⟩:=qf (xs:=(tp c a).map QZ) λx f=>by
  obtain⟨w,g,rfl⟩:=Pe.mp f;exact ml (Hg t.nn w g)
 have m:rs.length=r:=by rw[<-t.shp.1,<-ON (as:=a) QZ,e,ON]
 have n:cs.length=c:=by rw[<-(rJ (d:=(0:Int)) (c:=c) t.shp.1).1,<-ON (as:=y0 0 c a) QZ];exact(Qo UM i).symm▸(ON _).symm
 have j:rs.sum<=8:=by
  have h:(a.map QZ).sum<=7:=l;rw[e,ib]at h;lia
 have o:rs.sum=cs.sum:=by
  have h:tot (tp c a)=tot a:=AE t.shp.2;unfold tot at h;rw[i,e,ib,ib]at h;lia
 have r0:=t.r0;have r1:=t.r1;have E:=t.c0;have G:=t.c1;obtain⟨K,M⟩:=few (rs:=rs) (by lia) (by lia) j;subst m n;exact⟨B,rs,cs,rfl,⟨⟨K,M,o,E,G⟩,t.shp,e,i,ok,D⟩,rfl,rfl,j⟩
theorem JH{ba:LI}{B:a0f}{rs cs:a0a}(h:D_ ba B rs cs):(rR K a).1 [bN ba,lu B] β=on (.ok (LN a B rs cs),β):=by
 obtain⟨e,g,_,_⟩:=h.nr;have s:=h.c6;have b:=qz (K:=K) (a:=a) (β:=β) (ba:=ba) (by rw[h.shp.1];lia);have c:=l7 (K:=K) (a:=a) (β:=β) h.shp e (by lia) (by lia);rw[h.rw1]at b;rw[h.cl1]at c;have f:=EF (K:=K) (a:=a) (β:=β) (ba:=gP (gU B)) (by rw[ON,(j5 h.bok.1).1];lia);unfold rR
 dsimp only
 refine aB (ai (aI (d:=LN a B rs cs) (β1:=β) ?_ ⟨rfl,rfl⟩));unfold DV;rw[M.bind_ok (aa (af rfl b) (aa (af rfl c) rfl)),M.bind_ok (aa (af rfl f) rfl)];exact(M.bind_ok (LM h)).trans rfl
variable{n:Nat}{vs:a0n}
abbrev csC(vs:a0n):a0a:=vs.map QZ
abbrev rwC(n:Nat)(vs:a0n):LI:=tp n (vs.map nI)
theorem HE(v:a0a)(j:Nat):(nI v).getD j 0=((v.getD j 0:Nat):Int):=by
 rw[OU,OU,OY];cases v[j]?<;>rfl
theorem FE(c:∀v∈vs,v.length=n):(rwC n vs).map QZ=nI (vl n vs):=by
 have e:vl n vs=(O6 n).map λj=>(vl n vs).getD j 0:=Rx (by rw[n5 c,ON,Py]) λi d f=>by
  rw[RY,Sy,cK d]
 rw[e];unfold rwC tp y0;show QA _ (QA _ _)=QA _ (QA _ _);rw[O7,O7];refine PF λj b=>?_;have b:=Pw.mp b;show((vs.map nI).map λa=>a.getD j 0).sum=(((vl n vs).getD j 0:Nat):Int);rw[BF c b,<-ib,O7];show _=(QA _ (QA _ _)).sum;rw[O7];exact Qo QZ (PF λv _=>HE v j)
theorem NO(vs:a0n):(vs.map nI).map QZ=nI (csC vs):=by
 show _=QA _ (QA _ _);rw[O7,O7];exact PF λv _=>ib v
theorem KZ{i:Nat}(b:i<n):(rwC n vs)[i]?=on (nI (vs.map λv=>v.getD i 0)):=by
 rw[Kr b];congr 1;show _=QA _ (QA _ _);rw[O7,O7];exact PF λv _=>HE v i
abbrev cD(vs:a0n):D:= .lst (vs.map nL)
theorem Kg{vs:a0n}(a:∀v∈vs,v.sum<=40)(d:vs.length<=6)(i:Nat):pr ((vs.take i).map mu)<2^1000:=bU (m:=160*6) (O4 (HA (m:=160) λx b=>by
 obtain⟨v,c,rfl⟩:=Pe.mp b;exact uC (a v (SR c))) (Rg (by decide) (by rw[ON,Q2];lia))) (by decide)
theorem zW{vs:a0n}(n:∀v∈vs,v.sum<=40)(D:∀v∈vs,v.length<=4)(f:vs.length<=6):(gf K a).1 [cD vs] β=on (.ok (.int ((wt vs:Nat):Int)),β):=by
 unfold gf
 dsimp only
 refine aB ?_;refine aA (d:= .int 1) (β1:=β) rfl ?_;refine bD (ds:=vs.map nL) (β1:=β) rfl (λi s b=>β=b/\∃c,s=[on (.sh (cD vs)),on (.sh (.int ((pr ((vs.take i).map mu):Nat):Int))),c]) ⟨rfl,OO,rfl⟩ ?_ ?_
 .rintro i d s _ hd ⟨rfl,c,rfl⟩
  obtain⟨v,e,rfl⟩:=bH hd;have w:=Pj e;refine⟨_,rfl,ai (aA (dq rfl (af rfl (Gj (n v w) (D v w))) (eG (Kg n f i) (bU (uW (n v w)) (by decide)))) (aR ⟨rfl,on (.sh (nL v)),?_⟩))⟩;rw[iS e,qb];rfl
 .rintro s _ ⟨rfl,c,rfl⟩
  rw[ON,QU];exact ai (aI rfl ⟨rfl,rfl⟩)
theorem JM{ba:LI}{B:a0f}{rs cs:a0a}(h:D_ ba B rs cs)(d:rs.sum<=8):(rW K a).1 [bN ba,lu B] β=on (.ok (.lst ((js (wB B cs) cs.length 0 rs).map cD)),β):=by
 have r1:=h.nr.1;have e:=h.nr.2.1;have n:=h.c6;have b:=qz (K:=K) (a:=a) (β:=β) (ba:=ba) (by rw[h.shp.1];lia);have c:=l7 (K:=K) (a:=a) (β:=β) h.shp r1 (by lia) (by lia);rw[h.rw1]at b;rw[h.cl1]at c;unfold rW
 dsimp only
 refine aB (ai (aI (af (aa (af rfl b) (aa (af rfl c) (aa rfl rfl))) (yY h.toNt0 d h.bok)) ⟨rfl,?_⟩));rw[<-HI,O7];rfl
theorem CF:∀{a:a0h} {v:a0a},(∀(i:Nat) (p:Nat×Nat) (x:Nat),a[i]?=on p->v[i]?=on x->p.1<=x/\x<=p.2)->Iv a v=OT
 |[],_,_=>by unfold Iv;rfl
 |_::_,[],_=>by unfold Iv;rfl
 |p::a,x::v,h=>by
  have:=h 0 p x rfl rfl;show(decide (p.1<=x)&&decide (x<=p.2)&&Iv a v)=OT;rw[CF λi p x b c=>h (i+1) p x b c,Po this.1,Po this.2];rfl
theorem wY:∀{a:LI},(∀row∈a,∀x∈row,0<=x)->∃l:a0n,a=l.map nI
 |[],_=>⟨[],rfl⟩
 |x::a,h=>by
  obtain⟨l,e⟩:=wY λy b=>h y (OR _ b);obtain⟨m,c⟩:=qf (h x OZ);exact⟨m::l,by rw[e,c];rfl⟩
theorem D_.pos{a:LI}{B:a0f}{rs cs:a0a}(h:D_ a B rs cs)(w:∀row∈a,∀x∈row,0<=x):0<qk (wB B cs) cs.length 0 rs:=by
 obtain⟨vs,e⟩:=wY (Hg (c:=cs.length) w);have s:=rJ (d:=(0:Int)) (c:=cs.length) h.shp.1;have o:vs.length=cs.length:=by rw[<-ON (f:=nI),<-e];exact s.1
 have n:∀v∈vs,v.length=rs.length:=λv g=>by
  rw[<-ON (f:=λ(i:Nat)=>(i:Int))];refine s.2 (nI v) ?_;show nI v∈tp cs.length a;rw[e];exact Pe.mpr ⟨v,g,rfl⟩
 have k:a=rwC rs.length vs:=by rw[<-Na h.shp,e]
 have D:rs=vl rs.length vs:=fJ (by rw[<-FE n,<-k,h.rw1]);have t:cs=csC vs:=fJ (by rw[<-NO,<-e,h.cl1]);refine zV (vs:=vs) ?_ o;rw[D];refine G8 n λi r v g E=>?_;rw[QR];have y:=(Pa.mp g).1;refine SG.mpr ⟨?_,CF λj p x l m=>?_⟩
 .have q:cs.getD i 0=v.sum:=by rw[t,OU,OY,g];rfl
  rw[q];exact lH E
 .unfold nl at l
  obtain⟨row,b,rfl⟩:=bH l;have A:=h.bok.1.2 row (Pj b);have u:j<rs.length:=by rw[<-n v (Pj g)];exact(Pa.mp m).1
  have G:D1 a j i=on (x:Int):=nF (by rw[k];exact KZ u) (by rw[OY,OY,g];show on ((v.getD j 0:Nat):Int)=_;rw[OU,m];rfl);have K:D1 (gU B) j i=on (((row.getD i (0,0)).1:Int),((row.getD i (0,0)).2:Int)):=nF (row:=row.map λp=>((p.1:Int),(p.2:Int))) (by rw[OY,b];rfl) (by rw[OY,cK (by lia),OV (by lia)];rfl);have:=h.kp j i _ _ G K;simp only at this;lia
theorem JG{p q d b:Nat}(e:0<q)(c:0<b)(h:p*b=d*q):jr p q=jr d b:=by
 obtain⟨f,g⟩:=vT e c h;unfold jr;rw[f,g]
theorem No(n:Nat){i:Int}:dD K a (n+1) [.int i,.int i] β=on (.ok (.bl OT),β):=by
 show fq 2 (gF K a (dD K a n)) _ _=_;refine aB ?_;unfold gF;refine f8 (β1:=β) (kY (x:= .bl OW) (ag rfl rfl) rfl) (bw ?_);refine f8 (β1:=β) (hO (dq rfl rfl rfl)) (bw ?_);refine f8 (β1:=β) (qa (hO (dq (ag rfl rfl) (ag rfl rfl) rfl)) (hO (dq (ag rfl rfl) (ag rfl rfl) rfl))) (bw ?_);exact ai (aI (wP (ag rfl rfl) (dq rfl rfl (by rw[Pu.eq_int,Po rfl]))) ⟨rfl,rfl⟩)
theorem Nn{x y:Int}:dD K a 5 [.tup [.int x,.int y],.tup [.int x,.int y]] β=on (.ok (.bl OT),β):=by
 show fq 2 (gF K a (dD K a 4)) _ _=_;refine aB ?_;unfold gF;refine M5 (β1:=β) (kY (x:= .bl OT) (ag rfl rfl) rfl) (wV ?_);refine f8 (β1:=β) (qa (hO (dq (ag rfl rfl) (ag rfl rfl) rfl)) (hO (dq (ag rfl rfl) (ag rfl rfl) rfl))) (bw (wV ?_));refine f8 (β1:=β) (hO (dq (ag rfl rfl) (ag rfl rfl) rfl)) (bw ?_);exact aI (β1:=β) (dq (z:= .bl OT) rfl (bi [x,y] (λi=>D.tup [.int i,.int i]) (λ_=> .bl OT) (kx (x:= .tup [.int x,.int y]) (y:= .tup [.int x,.int y]) rfl rfl rfl rfl) (λi _=>⟨[on (.int i),on (.int i)],rfl,af rfl (No 3)⟩) (bo (by show 2<=1000;decide))) rfl) ⟨rfl,rfl⟩
theorem thX{i:Int}{m:Nat}(h:¬(0<=i/\i<(m:Int)))(b:-1000<=i)(d:i<=1000)(f:m<=1000):(cG K a).1 [.int i,.int (m:Int)] β=on (.error a.Ae,β):=by
 unfold cG
 dsimp only
 refine aB (ai (j7 (c:=!(decide (0<=i)&&decide (i<(m:Int)))) (β1:=β) (jE (hO (sK rfl rfl rfl))) ?_));have e:(decide (0<=i)&&decide (i<(m:Int)))=OW:=by
  rw[Bool.eq_false_iff];simpa using h
 rw[e,Vy,O0 rfl];exact IA (aa (Kf (Kd rfl (by lia) (by lia) (Kd rfl (by lia) (by lia) rfl))) rfl) ⟨rfl,rfl⟩
theorem thI{i:Int}{m:Nat}(h:0<=i/\i<(m:Int)):(cG K a).1 [.int i,.int (m:Int)] β=on (.ok .non,β):=by
 obtain⟨i,rfl⟩:∃n:Nat,i=(n:Int):=⟨i.toNat,by lia⟩;exact pi (by lia)
theorem OJ{x y:Int}(h:¬((0<=x/\x<(rs.length:Int))/\0<=y/\y<(cs.length:Int)))(b:-1000<=x)(c:x<=1000)(d:-1000<=y)(f:y<=1000)(g:rs.length<=1000)(hc:cs.length<=1000):(bM K a).1 [cW a W s rs cs,.tup [.int x,.int y]] β=on (.error a.Ae,β):=by
 have e:∀{β:Bg},(eU K a).1 [.int x,.int y,.int (rs.length:Int),.int (cs.length:Int)] β=on (.error a.Ae,β):=λ{β}=>by
  unfold eU
  dsimp only
  refine aB ?_;by_cases q:0<=x/\x<(rs.length:Int)
  .exact cU (β1:=β) (af rfl (thI q)) (ai (eY (af rfl (thX (λz=>h ⟨q,z⟩) d f hc)) ⟨rfl,rfl⟩))
  .exact eY (af rfl (thX q b c g)) ⟨rfl,rfl⟩
 unfold bM
 dsimp only
 exact aB (jF (β1:=β) rfl rfl (ai (eY (af (aa rfl (aa rfl (aa (ag (aa (f7 rfl rfl ou) rfl) (kq rs)) (aa (ag (aa (f7 rfl rfl se) rfl) (kq cs)) rfl)))) e) ⟨rfl,rfl⟩)))
abbrev S4(P:List a0n)(c d:Nat×Nat):R4:=(L2.Nt.sm P wt,L2.Nt.sm P λb=>wt b*at_ c b,L2.Nt.sm P λb=>wt b*at_ d b,L2.Nt.sm P λb=>wt b*(at_ c b*at_ d b))
theorem zD(i j:Nat)(b:a0n):cn i j 0 b=at_ (i,j) b:=by rw[Il,O0 (Qi _),Wj]
theorem zM{c d:Nat×Nat}{m:Nat}:TW W c d m 0 rs=S4 (js W m 0 rs) c d:=by
 rw[rB,yB];refine QI rfl (QI ?_ (QI ?_ ?_))
 .exact bX λb _=>by show wt b*cn c.1 c.2 0 b=_;rw[zD]
 .exact bX λb _=>by show wt b*cn d.1 d.2 0 b=_;rw[zD]
 .exact bX λb _=>by show wt b*(cn c.1 c.2 0 b*cn d.1 d.2 0 b)=_;rw[zD,zD]
structure Mn (K:Pk) (a:Ad) (W:Wy) (s:D) (rs cs:a0a):Prop where
 nt:p0 K a rs cs W s
 ps:0<qk W cs.length 0 rs
 le:∀{c d:Nat×Nat},(S4 (js W cs.length 0 rs) c d).1<=2^200/\(S4 (js W cs.length 0 rs) c d).2.1<=2^200/\(S4 (js W cs.length 0 rs) c d).2.2.1<=2^200/\(S4 (js W cs.length 0 rs) c d).2.2.2<=2^200
theorem Mn.pm{c d:Nat×Nat}(h:Mn K a W s rs cs)(n:c.1<rs.length)(w:c.2<cs.length)(D:d.1<rs.length)(E:d.2<cs.length):(bx K a).1 [cW a W s rs cs,lb c,lb d] β=on (.ok (jr (S4 (js W cs.length 0 rs) c d).2.2.2 (S4 (js W cs.length 0 rs) c d).1),β):=
 NC h.nt n w D E h.ps zM h.le.1 h.le.2.1 h.le.2.2.1 h.le.2.2.2
theorem Mn.me{c:Nat×Nat}(h:Mn K a W s rs cs)(n:c.1<rs.length)(w:c.2<cs.length):(hG K a).1 [cW a W s rs cs,.int (c.1:Int),.int (c.2:Int)] β=on (.ok (jr (S4 (js W cs.length 0 rs) c c).2.1 (S4 (js W cs.length 0 rs) c c).1),β):=
 NQ h.nt n w h.ps zM h.le.1 h.le.2.1 h.le.2.2.1 h.le.2.2.2
theorem K6(b:ZA K (.ref a.Ae) (.ref a.Ae)=on OT){x y:Int}{c:Nat×Nat}(h:Mn K a W s rs cs)(w:c.1<rs.length)(D:c.2<cs.length)(i:-1000<=x)(j:x<=1000)(k:-1000<=y)(l:y<=1000):kn K a [cW a W s rs cs,.tup [.int x,.int y],lb c] β=on (.ok (.int (if(0<=x/\x<(rs.length:Int))/\0<=y/\y<(cs.length:Int)then 0 else 3)),β):=by
 refine aB ?_;unfold kr;refine aA (d:= .int 0) (β1:=β) rfl ?_;by_cases q:(0<=x/\x<(rs.length:Int))/\0<=y/\y<(cs.length:Int)
 .rw[O0 q]
  obtain⟨x,rfl⟩:∃n:Nat,x=(n:Int):=⟨x.toNat,by lia⟩;obtain⟨y,rfl⟩:∃n:Nat,y=(n:Int):=⟨y.toNat,by lia⟩;have e:(x,y).1<rs.length:=by show x<_;lia
  have f:(x,y).2<cs.length:=by show y<_;lia
  refine nR (ai (cU (β1:=β) (af (aa rfl (aa (dq rfl rfl lJ) (aa (dq rfl rfl mW) rfl))) (h.me (c:=(x,y)) e f)) (aR ?_)));refine nR (ai (cU (β1:=β) (af rfl (h.pm (c:=(x,y)) e f w D)) (aR ?_)));refine nR (ai (cU (β1:=β) (af rfl (h.pm (d:=(x,y)) w D e f)) (aR ?_)));exact ai (aI rfl ⟨rfl,rfl⟩)
 .rw[O1 q]
  have r:=h.nt.nr.2.1;have t:=h.nt.c6;have g:∀{β:Bg},(bM K a).1 [cW a W s rs cs,.tup [.int x,.int y]] β=on (.error a.Ae,β):=OJ q i j k l (by lia) (by lia);have m:∀{β:Bg},(hG K a).1 [cW a W s rs cs,.int x,.int y] β=on (.error a.Ae,β):=λ{β}=>by
   unfold hG
   dsimp only
   exact aB (aA (d:= .tup [.int x,.int y]) (β1:=β) (ag rfl dX) (eY (af rfl g) ⟨rfl,rfl⟩))
  have o:∀{β:Bg},(bx K a).1 [cW a W s rs cs,.tup [.int x,.int y],lb c] β=on (.error a.Ae,β):=λ{β}=>by
   unfold bx
   dsimp only
   exact aB (eY (af rfl g) ⟨rfl,rfl⟩)
  have p:∀{β:Bg},(bx K a).1 [cW a W s rs cs,lb c,.tup [.int x,.int y]] β=on (.error a.Ae,β):=λ{β}=>by
   unfold bx
   dsimp only
   exact aB (cU (β1:=β) (af rfl (oN w D)) (eY (af rfl g) ⟨rfl,rfl⟩))
  refine nR (ai (eY (af (aa rfl (aa (dq rfl rfl lJ) (aa (dq rfl rfl mW) rfl))) m) ?_));refine Fd b (aA (d:= .int 1) (β1:=β) rfl ?_);refine nR (ai (eY (af rfl o) ?_));refine Fd b (aA (d:= .int 2) (β1:=β) rfl ?_);refine nR (ai (eY (af rfl p) ?_));refine Fd b (aA (d:= .int 3) (β1:=β) rfl ?_);exact ai (aI rfl ⟨rfl,rfl⟩)
theorem yx{p q d b:Nat}(f:0<q)(c:0<b)(e:p*b=d*q):dD K a 5 [jr p q,jr d b] β=on (.ok (.bl OT),β):=by
 rw[JG f c e];exact Nn
theorem mG(a:β.ok){lot:Nat}(d:0<lot)(e:lot<1073741824):∃(v:Nat) (b:Bg),jX [.bag,.int (lot:Int)] β=on (.ok (.int (v:Int)),b)/\v<lot/\b.ok:=by
 obtain⟨v,b,p,f,g,c⟩:=bS a (lot:=(lot:Int)) (by lia) (by lia);obtain⟨v,rfl⟩:∃n:Nat,v=(n:Int):=⟨v.toNat,by lia⟩;exact⟨v,b,p,by lia,c⟩
theorem gC{r c:Nat}{s:LI}(t:ZK r c s)(G:β.ok):∃(p:Nat×Nat) (b:Bg),(hX K a).1 [.bag,bN s] β=on (.ok (lb p),b)/\p.1<r/\p.2<c/\b.ok:=by
 have v:=t.r1;have y:=t.r0;have M:=t.c0;have P:=t.c1;obtain⟨E,h,l⟩:=t.shp.at (i:=0) (by lia);obtain⟨i,β1,m,o,f⟩:=mG G (lot:=r) (by lia) (by lia);obtain⟨j,n,q,u,g⟩:=mG f (lot:=c) (by lia) (by lia)
 suffices w:∃z b,(hX K a).1 [.bag,bN s] β=on (z,b)/\z= .ok (lb (i,j))/\b=n by
  obtain⟨z,b,e,rfl,rfl⟩:=w;exact⟨(i,j),b,e,o,u,g⟩
 unfold hX
 dsimp only
 refine nE (aA (d:= .int (i:Int)) (β1:=β1) (af (aa rfl (aa (ag rfl (qT (r:=r) (DT t.shp))) rfl)) m) (ai (aI (d:=lb (i,j)) (β1:=n) (ag (aa rfl (aa (af (aa rfl (aa (ag (aa (x:= .lst (E.map D.int)) (dq rfl rfl (oB (k:=0) (by rw[OY,h];rfl))) rfl) (dh (r:=c) (by rw[ON,l]))) rfl)) q) rfl)) dX) ?_)));exact⟨rfl,rfl⟩
abbrev l49(g l n o p t w:D)(f b:Nat)(c d e h:a0R):Ds:=[OO,on (.sh .bag),on (.sh g),on (.sh l),on (.sh n),on (.sh o),on (.sh p),on (.sh t),on (.sh w),on (.sh (.int (f:Int))),on (.sh (.int (b:Int))),c,d,e,h]
theorem OA{l:a0a}{i:Nat}(h:l.sum<=40):l.getD i 0<=40:=by
 rcases TM i l.length with z|z
 .rw[cK z];exact O4 (eA (P3 z)) h
 .rw[OU,Ru z];exact Qi _
theorem Op{b:a0n}{j:Nat}(h:j<b.length):j0 (cD b) (.int (j:Int))=on (nL (b.getD j [])):=cT (by rw[OY,cK h,OV h];rfl)
theorem Oo{l:a0a}{i:Nat}(h:i<l.length):j0 (nL l) (.int (i:Int))=on (.int ((l.getD i 0:Nat):Int)):=HV h
theorem Gu(ak:ZA K (.ref a.Ae) (.ref a.Ae)=on OT)(β:Bg)(ok:β.ok):∃H,(qD K a).1 [OO,on (.sh .bag),OO,OO,OO,OO,OO,OO,OO,OO,OO,OO,OO,OO,OO] β=on (.rt (.bl OT),H):=by
 suffices h:Gw (qD K a).1 [OO,on (.sh .bag),OO,OO,OO,OO,OO,OO,OO,OO,OO,OO,OO,OO,OO] β (λo _=>o= .rt (.bl OT)) by
  obtain⟨o,H,e,rfl⟩:=h;exact⟨H,e⟩
 obtain⟨g,r,c,β1,e1,Y,al⟩:=Fw (K:=K) (a:=a) ok;obtain⟨l,au,e2,bl,kl,am⟩:=yZ (K:=K) (a:=a) Y.1 al;obtain⟨B,rs,cs,rfl,w,lr,lc,s8⟩:=KM Y bl kl;obtain⟨p,an,e3,p1,p2,Z⟩:=gC (K:=K) (a:=a) Y.1 am;obtain⟨q,j,e4,q1,q2,L⟩:=gC (K:=K) (a:=a) Y.1 Z;have M:=w.pos Y.1.nn;have hW:=yd B cs;have c6:=w.c6;have r4:=w.nr.2.1;have pc:∀b∈js (wB B cs) cs.length 0 rs,b.length=cs.length/\(∀v∈b,v.length=rs.length)/\∀v∈b,v.sum<=40:=λb C=>by
  obtain⟨k1,E⟩:=BS C;obtain⟨k3,_,k4⟩:=wS hW k1 (by rw[E,QR]) w.sm;refine⟨E,k4,λv hv=>?_⟩;have S:v.sum∈cs.drop 0:=by rw[<-k3];exact Pe.mpr ⟨v,hv,rfl⟩
  rw[List.drop_zero]at S;have:=eA S;have:=w.sm;lia
 have I:∀b∈js (wB B cs) cs.length 0 rs,∀c,at_ c b<=40:=λb C c=>by
  show(b.getD c.2 []).getD c.1 0<=40;rcases TM c.2 b.length with z|z
  .exact OA ((pc b C).2.2 _ (Ih z))
  .rw[OU (l:=b),Ru z];exact Qi _
 have F:L2.Nt.sm (js (wB B cs) cs.length 0 rs) wt<=2^160:=by
  rw[xp];exact OG (K:=K) (a:=a) (k:=0) w.nt (Qi _) (PM.mpr rfl)
 have up:∀{l:List a0n} {f:a0n->Nat},l.Sublist (js (wB B cs) cs.length 0 rs)->(∀b∈js (wB B cs) cs.length 0 rs,f b<=1600*wt b)->L2.Nt.sm l f<=2^171:=λ{l f} sl hf=>by
  refine O4 (mr (f:=f) (g:=λb=>1600*wt b) sl hf) ?_;rw[kC,show(171:Nat)=11+160 from rfl,VE];exact TR (by decide) F
 have V:∀c,∀b∈js (wB B cs) cs.length 0 rs,wt b*at_ c b<=1600*wt b:=λc b C=>by
  rw[QP];exact Se _ (O4 (I b C c) (by decide))
 have ap:∀c d,∀b∈js (wB B cs) cs.length 0 rs,wt b*(at_ c b*at_ d b)<=1600*wt b:=λc d b C=>by
  rw[QP];exact Se _ (TR (I b C c) (I b C d))
 have C_:∀{n:Nat},n<=2^171->n<=2^200:=λh=>O4 h (Rg (by decide) (by decide));have mn:Mn K a (wB B cs) (lu B) rs cs:=⟨w.nt,M,λ{c d}=>⟨O4 F (Rg (by decide) (by decide)),C_ (up (Ss _) (V c)),C_ (up (Ss _) (V d)),C_ (up (Ss _) (ap c d))⟩⟩;unfold qD
 dsimp only
 refine aA (af rfl e1) (aA (af rfl e2) (aA (af rfl (JH w)) (aA (af rfl e3) (aA (af rfl e4) ?_))));refine M4 (λs β=>β.ok/\∃q:Nat×Nat,s=[OO,on (.sh .bag),on (.sh (bN g)),on (.sh (lu B)),on (.sh (cW a (wB B cs) (lu B) rs cs)),on (.sh (lb p)),on (.sh (lb q)),OO,OO,OO,OO,OO,OO,OO,OO]/\q.1<r/\q.2<c) ?_ ?_
 .obtain⟨u,ae,p5,u1,N⟩:=mG L (lot:=3) (by decide) (by decide)
  refine ai (j7 (β1:=ae) (hO (dq (af rfl p5) rfl eq_int)) ?_);split
  .exact aA rfl (zY ⟨N,p,rfl,p1,p2⟩)
  .exact bw (zY ⟨N,q,rfl,q1,q2⟩)
 clear e3 e4 q1 q2 Z L q an j
 rintro s j ⟨L,q,rfl,q1,q2⟩;have W:∀{β:Bg},∀b∈js (wB B cs) cs.length 0 rs,(gf K a).1 [cD b] β=on (.ok (.int ((wt b:Nat):Int)),β):=λ{β} b C=>by
  obtain⟨k1,E,k3⟩:=pc b C;exact zW k3 (λv hv=>by rw[E v hv];exact r4) (by lia)
 have aq:∀b∈js (wB B cs) cs.length 0 rs,wt b<=2^160:=λb C=>O4 (uF (f:=wt) C) F;have ab:∀{c:Nat×Nat},c.1<r->c.2<cs.length->∀b∈js (wB B cs) cs.length 0 rs,j0 (cD b) (.int (c.2:Int))=on (nL (b.getD c.2 []))/\j0 (nL (b.getD c.2 [])) (.int (c.1:Int))=on (.int ((at_ c b:Nat):Int)):=λ{c} h1 h2 b C=>by
  obtain⟨k1,E,k3⟩:=pc b C;have lw:c.2<b.length:=by lia
  exact⟨Op lw,Oo (by rw[E _ (Ih lw)];lia)⟩
 have J:p.2<cs.length:=by lia
 have T:q.2<cs.length:=by lia
 refine aA (af rfl (JM w s8)) ?_;generalize hP:js (wB B cs) cs.length 0 rs=P at*;have t8:P.length<=40320:=by
  rw[<-hP,<-ON (f:=λ_=>0),<-HI,ON,ON];exact O4 (xE hW w.sm (O5 _)) (LQ s8)
 have ac:gc [.lst (P.map λb=> .int ((wt b:Nat):Int))]=on (.int ((L2.Nt.sm P wt:Nat):Int)):=by
  have:=kM (P.map wt);unfold nL at this;rw[O7,O7]at this;exact this
 refine aA (d:= .int ((L2.Nt.sm P wt:Nat):Int)) (β1:=j) (ag (aa (bi P cD (λb=> .int ((wt b:Nat):Int)) rfl (λb C=>⟨[on (cD b)],rfl,af rfl (W b C)⟩) (O4 t8 (by decide))) rfl) ac) ?_;refine aA (d:= .int 0) (β1:=j) rfl (aA (d:= .int 0) (β1:=j) rfl ?_);show Gw _ (l49 (bN g) (lu B) (cW a (wB B cs) (lu B) rs cs) (lb p) (lb q) (.lst (P.map cD)) (.int ((L2.Nt.sm P wt:Nat):Int)) 0 0 OO OO OO OO) j _;refine bD (ds:=P.map cD) (β1:=j) rfl (λi s H=>j=H/\∃U X,s=l49 (bN g) (lu B) (cW a (wB B cs) (lu B) rs cs) (lb p) (lb q) (.lst (P.map cD)) (.int ((L2.Nt.sm P wt:Nat):Int)) (L2.Nt.sm (P.take i) λb=>wt b*at_ p b) (L2.Nt.sm (P.take i) λb=>wt b*(at_ p b*at_ q b)) U X OO OO) ⟨rfl,OO,OO,rfl⟩ ?_ ?_
 .rintro i dd s _ hd ⟨rfl,U,X,rfl⟩
  obtain⟨b,C,rfl⟩:=bH hd;have G:=Pj C;obtain⟨i1,i2⟩:=ab p1 J b G;obtain⟨j1,j2⟩:=ab q1 T b G;have b1:=I b G p;have b2:=I b G q;have b3:=aq b G;have b4:at_ p b*wt b<=2^166:=by
   rw[show(166:Nat)=6+160 from rfl,VE];exact TR (O4 b1 (by decide)) b3
  rw[ur (λb=>wt b*at_ p b) C,ur (λb=>wt b*(at_ p b*at_ q b)) C];refine⟨_,rfl,aA (d:= .int ((at_ p b*wt b:Nat):Int)) (β1:=j) (dq (dq (dq rfl (dq rfl rfl mW) i1) (dq rfl rfl lJ) i2) (af rfl (W b G)) (eG (bU (m:=6) (O4 b1 (by decide)) (by decide)) (bU b3 (by decide)))) (aA (β1:=j) (dq rfl rfl p7) (ai (aA (β1:=j) (dq rfl (dq rfl (dq (dq rfl (dq rfl rfl mW) j1) (dq rfl rfl lJ) j2) (eG (bU b4 (by decide)) (bU (m:=6) (O4 b2 (by decide)) (by decide)))) p7) (aR ⟨rfl,on (.sh (cD b)),on (.sh (.int ((at_ p b*wt b:Nat):Int))),?_⟩))))⟩;rw[QP (at_ p b) (wt b),Ro];rfl
 rintro s _ ⟨rfl,U,X,rfl⟩;rw[ON,QU];have S:=mn.me (β:=j) (c:=p) (by lia) J;have m2:=mn.pm (β:=j) (c:=p) (d:=q) (by lia) J (by lia) T;have m3:=mn.pm (β:=j) (c:=q) (d:=p) (by lia) T (by lia) J;rw[hP]at S m2 m3;have O:0<L2.Nt.sm P wt:=by
  have:=nJ (c:=p) (d:=p) M;rw[zM,hP]at this;exact this
 have lw:=CT (K:=K) (a:=a) (β:=j) (p:=L2.Nt.sm P λb=>wt b*at_ p b) O (bU F (by decide));have lz:=CT (K:=K) (a:=a) (β:=j) (p:=L2.Nt.sm P λb=>wt b*(at_ p b*at_ q b)) O (bU F (by decide));have zz:(L2.Nt.sm P λb=>wt b*(at_ q b*at_ p b))=L2.Nt.sm P λb=>wt b*(at_ p b*at_ q b):=bX λb _=>by rw[QP (at_ q b)]
 refine eW (jE (kY (af (aa (af (aa rfl (aa (dq rfl rfl lJ) (aa (dq rfl rfl mW) rfl))) S) (aa (af rfl lw) rfl)) (yx O O rfl)) rfl)) rfl (bw ?_);refine eW (jE (kY (af (aa (af rfl m2) (aa (af rfl lz) rfl)) (yx O O rfl)) rfl)) rfl (bw ?_);refine eW (jE (kY (af (aa (af rfl m3) (aa (af rfl lz) rfl)) (yx O O (by rw[<-zz]))) rfl)) rfl (bw ?_);have t:=Y.1;have l1:=t.r1;have l0:=t.r0;have c0:=t.c0;have c1:=t.c1;obtain⟨ar,hr,ad⟩:=t.shp.at (i:=0) (by lia);obtain⟨x,ae,e5,x1,N⟩:=mG L (lot:=r+2) (by lia) (by lia);obtain⟨y,A,e6,y1,av⟩:=mG N (lot:=c+2) (by lia) (by lia);have Q:∀{s:Dn} {β:Bg},s.getD 2 OO=on (bN g)->aT fA (aj (ao 2) aK) s β=on (.ok (.int (r:Int)),β):=λe=>ag (aa (p9 e) rfl) (qT (r:=r) (DT t.shp));have R:∀{s:Dn} {β:Bg},s.getD 2 OO=on (bN g)->aT fA (aj (f2 j0 (ao 2) (fC (.int 0))) aK) s β=on (.ok (.int (c:Int)),β):=λe=>ag (aa (x:= .lst (ar.map D.int)) (dq (p9 e) rfl (oB (k:=0) (by rw[OY,hr];rfl))) rfl) (dh (r:=c) (by rw[ON,ad]));refine aA (d:= .tup [.int ((x:Int)-1),.int ((y:Int)-1)]) (β1:=A) (ag (aa (dq (af (aa rfl (aa (dq (Q rfl) rfl rfl) rfl)) e5) rfl rfl) (aa (dq (af (aa rfl (aa (dq (R rfl) rfl rfl) rfl)) e6) rfl rfl) rfl)) dX) ?_;have rf:=K6 (β:=A) ak (x:=(x:Int)-1) (y:=(y:Int)-1) (c:=p) mn (by lia) J (by lia) (by lia) (by lia) (by lia);have ah:∀u v:Int,iA [u,v]=RT u v:=λu v=>by
  show RT (RT u u) v=_;lia
 have ev:∀{f1 f2 f3:FD} {s:Dn},f1 s A=on (.ok (.bl (decide (0<=RT ((x:Int)-1) ((y:Int)-1)))),A)->f2 s A=on (.ok (.bl (decide ((x:Int)-1<(r:Int)))),A)->f3 s A=on (.ok (.bl (decide ((y:Int)-1<(c:Int)))),A)->lS f1 (lS f2 f3) s A=on (.ok (.bl (decide (0<=RT ((x:Int)-1) ((y:Int)-1)/\(x:Int)-1<(r:Int)/\(y:Int)-1<(c:Int)))),A):=λg1 g2 g3=>by
  rw[wQ g1 (wQ g2 g3),Bool.decide_and,Bool.decide_and]
 refine aA (β1:=A) (ev (dq (ag rfl (by show on (D.int (iA _))=_;rw[ah])) rfl ge_int) (dq (dq rfl rfl lJ) (Q rfl) lt_int) (dq (dq rfl rfl mW) (R rfl) lt_int)) ?_;by_cases z:(0<=(x:Int)-1/\(x:Int)-1<(rs.length:Int))/\0<=(y:Int)-1/\(y:Int)-1<(cs.length:Int)
 .rw[O0 z]at rf
  rw[Po (show 0<=RT ((x:Int)-1) ((y:Int)-1)/\(x:Int)-1<(r:Int)/\(y:Int)-1<(c:Int) by lia)];exact ai (aI (d:= .bl OT) (β1:=A) (dq (af rfl rf) (dq (z:= .int 0) (ag rfl LV) (ag (z:= .int 1) rfl rfl) rfl) (eq_int.trans rfl)) rfl)
 .rw[O1 z]at rf
  rw[PZ (show ¬(0<=RT ((x:Int)-1) ((y:Int)-1)/\(x:Int)-1<(r:Int)/\(y:Int)-1<(c:Int)) by lia)];exact ai (aI (d:= .bl OT) (β1:=A) (dq (af rfl rf) (dq (z:= .int 3) (ag rfl LV) (ag (z:= .int 0) rfl rfl) rfl) (eq_int.trans rfl)) rfl)
end
end Law
namespace L2.Pu
open PySem.W
section
variable{j:String->Option Builtin}{p:PN}{w:PV}{f:Nat}{g:Option OX}{i:Wu}{q:Uh}
theorem bz(k:Nat){n N:Nat}{s E r:O3}{b:a0Q}{c:Code}{D a:Uh}(h:segRun j p w f g 1 n s (piecesOf (b.take k) i c D [Yj q])=on (.next,E,c,a))
  (d:topRun j p w f g N E (restOf (b.drop k) i c a [Yj q])=on r):topRun j p w f g (n+N) s (restOf b i c D [Yj q])=on r:=by
 have:=piece_app h d;rwa[R1]at this
theorem GI{N:Nat}{s r:O3}{b:a0Q}{c:Code}{D:Uh}(e:b=[])(k:topRun j p w f g N s ⟨doneF .next,c,D,[Yj q]⟩=on r):topRun j p w f g N s (restOf b i c D [Yj q])=on r:=by
 subst e;exact piece_nil k
end
end L2.Pu
namespace Law
open L2 L2.Pu
noncomputable abbrev E(P:Xf)(n:PX)(t:Nat)(v:OX):TZ:=⟨PyData.keyHash P (n),.str (n) t,v⟩
noncomputable abbrev FN(x q:PX)(s:Qk)(b c a w:OX)(d:a0A)(D E:OX):Pp:=Tu x q (iZ s) (cz s) (ae s) b c a w d D E
noncomputable abbrev fO(f:Pp):Qx:=⟨.type "function",OO,.func f,#[]⟩
noncomputable abbrev tO(l:a0g):Qx:=⟨.type "tuple",OO,.seq l.toArray 0,#[]⟩
noncomputable abbrev cO(l:a0g):Qx:=⟨.type "code",OO,.fields l.toArray,#[]⟩
noncomputable abbrev eR(P:Xf)(n:PX)(t r:Nat):TZ:=E P n t (.ref r)
noncomputable abbrev nO(l:a0g):Qx:=⟨.none,OO,.fields l.toArray,#[]⟩
noncomputable abbrev fB(x q:PX)(s:Qk):Qx:=⟨.none,OO,.func ⟨x,q,iZ s,.stmts (cz s),ae s,0,[],.none,.none,.none,.none,OO,.none,.none,0⟩,#[]⟩
noncomputable abbrev cC(n q:PX)(t l a D c fl r:Nat)(b:Bool)(d e:Nat)(x y z w:OX)(u f v:Nat):Qx:=cO [.str n t,.str q (t+1),.str "/claim/cut.py" (t+2),.int l 0,.int a 0,.int D 0,.int c 0,.int fl 0,.ref r,.bool b,.int d 0,.ref e,x,y,z,w,.int u 0,.int f 0,.str "/claim/cut.py" v]
abbrev eTt:a0g:=[(.ref 38),(.type "ValueError"),(.type "Exception"),(.type "BaseException"),(.type "object")]
noncomputable abbrev xOo(x:PX)(a d b t u:Nat):Qx:=⟨(.type "type"),OO,(.cls ⟨x,[(.ref 38)],(.ref a)::eTt,d,x,OT,[],[],OW,OO,OW⟩),#[(on (.ref b)),OO,(on (.str x t)),(on (.str x u)),(on (.builtin "ValueError.__new__")),(on (.bool OT))]⟩
noncomputable abbrev iSs(n:Nat):Qx:=⟨(.type "builtin_function_or_method"),OO,(.fields #[(.builtin "object.__init_subclass__"),(.ref n)]),#[]⟩
noncomputable abbrev sA:OX:= .str "edgetally.errors" 194
noncomputable abbrev O_:OX:= .str "edgetally.net" 524
noncomputable abbrev W_:OX:= .str "EdgeError" 204
noncomputable abbrev ZO:OX:= .str "EdgeError" 196
noncomputable abbrev tx4:OX:= .str "__main__" 164
noncomputable def trL:a0a->a0g
 |a::b::c::l=> .int a 0:: .int b 0:: .ref c::trL l
 |_=>[]
noncomputable abbrev nT(l:a0a):Qx:=nO (trL l)
noncomputable def stL:Nat->a0i->a0g
 |_,[]=>[]
 |t,x::l=> .str x t::stL (t+1) l
noncomputable abbrev tS(t:Nat)(l:a0i):Qx:=tO (stL t l)
noncomputable def fD(o:Qx):Pp:=match o.data with
 | .func f=>f
 |_=>FN "" "" (dr 0) .none .none .none .none OO .none .none
abbrev T5:=PX×PX×Nat×Nat×a0i
noncomputable abbrev h5(x:PX)(l a:Nat)(n:a0i):T5:=(x,x,l,a,n)
def zN:a0i->Nat
 |[]=>4
 |_=>6
def uN(d k:OX)(b:Nat)(v:OX)(s:Qk)(x q:PX)(r t l a:Nat)(n:a0i):a0L:=[tO [],nO []]++(match n with|[]=>[]|_=>[tS (t+3) n,tO []])++[fB x q s,match n with|[]=>cC x q t l a 0 b 3 r OT 181 (r+1) .none .none .none (.ref (r+2)) (t+3) l (t+4)|_=>cC x q t l a 0 b 3 r OT 181 (r+1) .none (.ref (r+2)) (.ref (r+3)) (.ref (r+4)) (t+3+n.length) l (t+4+n.length),fO (FN x q s d k .none v OO (.ref (r+zN n-1)) .none)]
def gO(v:OX)(s:Nat->Qk):Nat->Nat->Nat->List T5->a0L
 |i,r,t,(x,q,l,a,n)::L=>uN .none .none 0 v (s i) x q r t l a n++gO v s (i+1) (r+zN n+1) (t+n.length+6) L
 |_,_,_,_=>[]
def gM(P:Xf):Nat->Nat->List T5->List TZ
 |r,t,(x,_,_,_,n)::L=>E P x (t+n.length+5) (.ref (r+zN n))::gM P (r+zN n+1) (t+n.length+6) L
 |_,_,_=>[]
def gA:Nat->List T5->a0p
 |r,(_,_,_,_,n)::L=>(r+zN n-1)::(r+zN n)::gA (r+zN n+1) L
 |_,_=>[]
noncomputable def fk(L:a0L)(i:Nat):Pp:=fD (L.getD i (tO []))
noncomputable abbrev frO(a b:Nat)(v:OX):Qx:=⟨(.type "frame"),OO,.plain,#[(on (.ref a)),(on (.ref 3)),(on (.ref b)),OO,(on v),OO,(on (.ref 0))]⟩
noncomputable abbrev suO(a:Nat):Qx:=⟨(.type "super"),OO,(.fields #[(.ref a),(.ref a),(.ref a)]),#[]⟩
noncomputable def b23:Qx:=⟨(.type "builtin_function_or_method"),OO,(.fields #[(.builtin "type.__prepare__"),(.type "type")]),#[]⟩
def uE(P:Xf)(i R T l:Nat)(x q:PX)(d n c:a0i):a0L:=let M:=R+7+d.length;let t:=T+12+d.length;let u:=t+5+n.length;let y:=E P "__module__" (T+7) sA;let z:=[E P "__firstlineno__" (T+11) (.int l (T+10)),eR P "__init__" u (M+6),eR P "__static_attributes__" (u+1+c.length) (M+7)];[tO [.ref 38],b23,⟨.type "dict",OO,.dict (y::E P "__qualname__" (T+9) (.str x (T+8))::z).toArray 5,#[]⟩,tO [],nT [l+2,4,M+5],cC x x (T+2) l 0 0 0 0 (R+3) OW 181 (R+4) .none .none .none .none (T+5) l (T+6),frO (R+5) (R+2) sA]++(match d with|[]=>[]|_=>[tS (T+12) d])++uN (match d with|[]=> .none|_=> .ref (R+7)) .none 0 sA (di (dr i) 0) "__init__" q M t (l+2) n.length n++[tS (u+1) c,⟨.type "dict",OO,.dict (y::z++[E P "__doc__" (u+2+c.length) .none]).toArray 2,#[]⟩,xOo x (M+9) (M+8) R T (T+8),suO (M+9),iSs (M+9)]
section
variable(P:Xf)
def llA:List T5:=[h5 "_wall" 1 1 ["k"]]
def rrA:a0L:=gO tx4 dr 0 15 187 llA
def llB:List T5:=[("__init__","EdgeError.__init__",7,3,["self","word","why"])]
def rrB:a0L:=gO sA (di (dr 2)) 0 29 208 llB
def llD:List T5:=[h5 "check_sums" 44 2 [],h5 "check_there" 55 2 ["place","many"],h5 "check_cell" 58 4 ["row","column","rows","columns"],h5 "check_pair" 61 1 ["pair","low","high"],h5 "settled_bounds" 65 3 []]
def Z1:a0L:=gO (.str "edgetally.bounds" 376) dr 15 167 393 llD
def llE:List T5:=[h5 "factorial" 75 1 ["number","product","factor"],h5 "ways" 80 1 ["parts","part","told"],h5 "common_factor" 88 2 ["one","other"],h5 "lowest" 92 2 ["top","under","factor"],h5 "fillings" 97 3 []]
def Z0:a0L:=gO (.str "edgetally.counts" 432) dr 21 198 434 llE
def llF:List T5:=[h5 "need_of" 107 2 [],h5 "room_inside" 109 4 [],h5 "room_beside" 112 3 [],h5 "room_of" 114 4 [],h5 "narrowest" 116 3 [],h5 "choices" 118 1 [],h5 "check_fit" 123 3 ["rowsums","columnsums","bounds","over","into"]]
def ZH:a0L:=gO (.str "edgetally.fits" 475) dr 27 231 477 llF
def llG:List T5:=[h5 "check_wide" 130 1 ["rowsums","wide","many"],h5 "settled_for_net" 136 3 ["rowsums","columnsums","bounds","settled"],h5 "column_fillings" 141 4 [],h5 "rests_behind" 143 2 [],h5 "nodes_by_level" 145 3 [],h5 "node_counts" 153 3 ["rests","filled","behind","tables","dealings","counts","tables_behind","dealings_behind"],h5 "counted_nodes" 161 3 []]
def ZG:a0L:=gO O_ dr 36 268 528 llG
def llI:List T5:=[("__eq__","Net.__eq__",181,2,["self","other"]),("__len__","Net.__len__",184,1,["self"]),("rowsums","Net.rowsums",187,1,["self"]),("columnsums","Net.columnsums",190,1,["self"]),("bounds","Net.bounds",193,1,[]),("counts_at","Net.counts_at",196,3,["self","level","rests"]),("tables","Net.tables",199,1,["self"]),("dealings","Net.dealings",202,1,["self"]),("steps","Net.steps",205,3,[]),("paper","Net.paper",210,1,["self"])]
def rrI:a0L:=gO O_ (di (dr 43)) 1 324 609 llI
def llJ:List T5:=[h5 "check_cell_of" 213 2 ["net","cell","row","column"],h5 "count_in" 216 3 ["cell","level","counts","row","column"],h5 "put_to" 219 4 ["found","here","there","many","dealings","ones","others","products"],h5 "sums_added" 222 2 [],h5 "sums_behind" 224 5 ["net","one","other","level","sums","behind","rests","found","counts","node","more"],h5 "sums_over_tables" 232 3 [],h5 "mean" 237 3 ["net","row","column","cell","dealings","ones","others","products"],h5 "pair_mean" 242 3 ["net","one","other","dealings","ones","others","products"]]
def PC:a0L:=gO (.str "edgetally.means" 693) dr 45 397 695 llJ
def llK:List T5:=[h5 "_law_bag" 248 1 [],h5 "_law_pull" 250 2 ["_law_bag_here","_law_lot","_law_cells","_law_at","_law_cell"],h5 "_law_same" 260 2 [],h5 "_law_grid" 272 4 [],h5 "_law_small" 279 1 ["_law_bag_here","_law_way","_law_block","_law_columns"],h5 "_law_turned" 290 1 [],h5 "_law_rowsums" 292 1 [],h5 "_law_columnsums" 294 1 [],h5 "_law_free" 296 2 [],h5 "_law_bounds" 298 2 ["_law_bag_here","_law_grid_here","_law_told","_law_at","_law_row","_law_to","_law_count","_law_way"],h5 "_law_copied" 310 1 [],h5 "_law_fit" 312 3 [],h5 "_law_less" 321 2 [],h5 "_law_listing" 323 3 [],h5 "_law_all" 332 2 ["_law_grid_here","_law_limits"],h5 "_law_factorial" 334 1 ["_law_lot","_law_found","_law_k"],h5 "_law_ways" 339 1 ["_law_parts","_law_under","_law_part"],h5 "_law_weight" 344 1 ["_law_columns","_law_found","_law_column"],h5 "_law_gcd" 349 2 ["_law_one","_law_other","_law_kept"],h5 "_law_lowest" 355 2 ["_law_top","_law_under","_law_both"],h5 "_law_place" 358 2 ["_law_bag_here","_law_grid_here","_law_at"],h5 "_law_net" 361 2 ["_law_grid_here","_law_limits"],h5 "_law_refused" 363 3 ["_law_net_here","_law_cell","_law_other","_law_refused_here"],h5 "law" 378 1 []]
def ll:a0L:=gO (.str "law_edgetally_k49_means_small" 786) dr 54 449 788 llK
def rrC:a0L:=uN .none (.ref 161) 1 (.str "edgetally.bounds" 376) (dr 14) "free" "free" 162 387 42 2 []
def rrH:a0L:=uN .none (.ref 316) 1 O_ (di (dr 43) 0) "__init__" "Net.__init__" 317 598 173 3 ["self","rowsums","columnsums","bounds","settled"]
def mL:List TZ:=(E P "__name__" 165 (.str "law_edgetally_k49_means_small" 786))::((match(YL P).data with| .dict e _=>e.toList|_=>[]).drop 1)++gM P 15 187 llA++[(eR P "EdgeError" 223 38),(eR P "BadSums" 248 59),(eR P "BadBounds" 273 79),(eR P "TooWide" 298 98),(eR P "Barred" 325 117),(eR P "BadCell" 350 137),(eR P "BadNumber" 375 157),(E P "MOST" 379 (.int 40 378)),(E P "MOST_ROWS" 381 (.int 4 380)),(E P "MOST_COLUMNS" 383 (.int 6 382)),(eR P "FREE" 385 160),(eR P "free" 392 166)]++gM P 167 393 llD++gM P 198 434 llE++gM P 231 477 llF++[(E P "WIDE" 527 (.int 500 526))]++gM P 268 528 llG++[(eR P "Net" 692 392)]++gM P 397 695 llJ++gM P 449 788 llK
def y3(n:Nat)(v:OX):Qx:=⟨.type "dict",OO,.dict (((mL P).take n).set 0 (E P "__name__" 165 v)).toArray n,#[]⟩
noncomputable def b3:Qx:=⟨(.type "dict"),OO,(.dict (mL P).toArray 80),#[]⟩
def b7:Qx:=tO []
def q_:a0a:=[1,0,20,5,0,27,10,0,47,14,0,67,18,0,87,23,0,106,29,0,125,33,0,145,42,0,165,44,0,170,55,0,177,58,0,184,61,0,191,65,0,196,75,0,203,80,0,210,88,0,217,92,0,224,97,0,229,107,0,234,109,0,239,112,0,244,114,0,249,116,0,254,118,0,259,123,0,266,130,0,273,136,0,280,141,0,285,143,0,290,145,0,295,153,0,302,161,0,307,171,0,314,213,0,402,216,0,409,219,0,416,222,0,421,224,0,428,232,0,433,237,0,440,242,0,447,248,0,452,250,0,459,260,0,464,272,0,469,279,0,476,290,0,481,292,0,486,294,0,491,296,0,496,298,0,503,310,0,508,312,0,513,321,0,518,323,0,523,332,0,530,334,0,537,339,0,544,344,0,551,349,0,558,355,0,565,358,0,572,361,0,579,363,0,586,378,0,591]
def b12:Qx:=nT q_
def b13:Qx:=cC "<module>" "<module>" 182 1 0 0 0 0 11 OW 181 12 .none .none .none .none 185 1 186
def b14:Qx:=frO 13 3 tx4
def b22:Qx:=tO [(.type "ValueError")]
def b24:Qx:=⟨(.type "dict"),OO,(.dict ([(E P "__module__" 203 sA),(E P "__qualname__" 205 W_),(E P "__firstlineno__" 207 (.int 5 206))]++gM P 29 208 llB++[(eR P "__static_attributes__" 218 36)]).toArray 5),#[]⟩
def b26:Qx:=nT [7,4,34]
def b27:Qx:=cC "EdgeError" "EdgeError" 198 5 0 0 0 0 25 OW 181 26 .none .none .none .none 201 5 202
def b28:Qx:=frO 27 24 sA
def b36:Qx:=tS 217 ["word"]
def b37:Qx:=⟨(.type "dict"),OO,(.dict ([(E P "__module__" 203 sA),(E P "__firstlineno__" 207 (.int 5 206))]++gM P 29 208 llB++[(eR P "__static_attributes__" 218 36),(eR P "__weakref__" 220 39),(E P "__doc__" 221 .none)]).toArray 3),#[]⟩
def b38:Qx:=⟨(.type "type"),OO,(.cls ⟨"EdgeError",[(.type "ValueError")],[(.ref 38),(.type "ValueError"),(.type "Exception"),(.type "BaseException"),(.type "object")],37,"EdgeError",OT,[],[(.ref 59),(.ref 79),(.ref 98),(.ref 117),(.ref 137),(.ref 157)],OW,OO,OW⟩),#[(on (.ref 22)),OO,(on ZO),(on W_),(on (.builtin "ValueError.__new__")),(on (.bool OT))]⟩
noncomputable def b39:Qx:=⟨(.type "getset_descriptor"),OO,(.fields #[(.str "__weakref__" 219),(.ref 38),(.builtin "ExceptionGroup.__weakref__"),.none]),#[]⟩
def b40:Qx:=suO 38
def b41:Qx:=iSs 38
def b160:Qx:=tO [(.int 0 384),(.int 40 378)]
def b161:Qx:=⟨(.type "dict"),OO,(.dict #[(eR P "pair" 386 160)] 1),#[]⟩
def b311:Qx:=⟨(.type "dict"),OO,(.dict ([(E P "__module__" 592 O_),(E P "__qualname__" 594 (.str "Net" 593)),(E P "__firstlineno__" 596 (.int 171 595)),(eR P "__init__" 608 323)]++gM P 324 609 llI++[(eR P "__static_attributes__" 684 390)]).toArray 15),#[]⟩
def b313:Qx:=nT [173,4,322,181,4,329,184,4,336,187,4,343,190,4,350,193,4,355,196,4,362,199,4,369,202,4,376,205,4,381,210,4,388]
def b314:Qx:=cC "Net" "Net" 587 171 0 0 0 0 312 OW 181 313 .none .none .none .none 590 171 591
def b315:Qx:=frO 314 311 O_
def b316:Qx:=⟨(.type "dict"),OO,(.dict #[(E P "bounds" 597 .none)] 1),#[]⟩
def b390:Qx:=tS 680 ["column_list","counted","pairs","row_list"]
def b391:Qx:=⟨(.type "dict"),OO,(.dict ([(E P "__module__" 592 O_),(E P "__firstlineno__" 596 (.int 171 595)),(eR P "__init__" 608 323)]++gM P 324 609 llI++[(eR P "__static_attributes__" 684 390),(eR P "__dict__" 686 393),(eR P "__weakref__" 688 394),(E P "__doc__" 689 .none),(E P "__hash__" 690 .none)]).toArray 5),#[]⟩
noncomputable def b392:Qx:=⟨(.type "type"),OO,(.cls ⟨"Net",[(.type "object")],[(.ref 392),(.type "object")],391,"Net",OT,[],[],OW,OO,OW⟩),#[OO,OO,(on (.str "Net" 585)),(on (.str "Net" 593)),(on (.builtin "object.__new__")),(on (.bool OT))]⟩
noncomputable def b393:Qx:=⟨(.type "getset_descriptor"),OO,(.fields #[(.str "__dict__" 685),(.ref 392),(.builtin "function.__dict__"),(.builtin "function.__dict__#set")]),#[]⟩
noncomputable def b394:Qx:=⟨(.type "getset_descriptor"),OO,(.fields #[(.str "__weakref__" 687),(.ref 392),(.builtin "ExceptionGroup.__weakref__"),.none]),#[]⟩
def b395:Qx:=suO 392
def b396:Qx:=iSs 392
def Oc:Qx:=nT (q_.take 3)
def k1_3:Qx:=y3 P 10 sA
def Ob:Qx:=nT (q_.take 6)
def k2_3:Qx:=y3 P 11 sA
def Oa:Qx:=⟨(.type "type"),OO,(.cls ⟨"EdgeError",[(.type "ValueError")],[(.ref 38),(.type "ValueError"),(.type "Exception"),(.type "BaseException"),(.type "object")],37,"EdgeError",OT,[],[],OW,OO,OW⟩),#[(on (.ref 22)),OO,(on ZO),(on W_),(on (.builtin "ValueError.__new__")),(on (.bool OT))]⟩
def N9:Qx:=nT (q_.take 9)
def k3_3:Qx:=y3 P 12 sA
def N8:Qx:=⟨(.type "type"),OO,(.cls ⟨"EdgeError",[(.type "ValueError")],[(.ref 38),(.type "ValueError"),(.type "Exception"),(.type "BaseException"),(.type "object")],37,"EdgeError",OT,[],[(.ref 59)],OW,OO,OW⟩),#[(on (.ref 22)),OO,(on ZO),(on W_),(on (.builtin "ValueError.__new__")),(on (.bool OT))]⟩
def N7:Qx:=nT (q_.take 12)
def k4_3:Qx:=y3 P 13 sA
def N6:Qx:=⟨(.type "type"),OO,(.cls ⟨"EdgeError",[(.type "ValueError")],[(.ref 38),(.type "ValueError"),(.type "Exception"),(.type "BaseException"),(.type "object")],37,"EdgeError",OT,[],[(.ref 59),(.ref 79)],OW,OO,OW⟩),#[(on (.ref 22)),OO,(on ZO),(on W_),(on (.builtin "ValueError.__new__")),(on (.bool OT))]⟩
def N5:Qx:=nT (q_.take 15)
def k5_3:Qx:=y3 P 14 sA
def N4:Qx:=⟨(.type "type"),OO,(.cls ⟨"EdgeError",[(.type "ValueError")],[(.ref 38),(.type "ValueError"),(.type "Exception"),(.type "BaseException"),(.type "object")],37,"EdgeError",OT,[],[(.ref 59),(.ref 79),(.ref 98)],OW,OO,OW⟩),#[(on (.ref 22)),OO,(on ZO),(on W_),(on (.builtin "ValueError.__new__")),(on (.bool OT))]⟩
def N3:Qx:=nT (q_.take 18)
def k6_3:Qx:=y3 P 15 sA
def N2:Qx:=⟨(.type "type"),OO,(.cls ⟨"EdgeError",[(.type "ValueError")],[(.ref 38),(.type "ValueError"),(.type "Exception"),(.type "BaseException"),(.type "object")],37,"EdgeError",OT,[],[(.ref 59),(.ref 79),(.ref 98),(.ref 117)],OW,OO,OW⟩),#[(on (.ref 22)),OO,(on ZO),(on W_),(on (.builtin "ValueError.__new__")),(on (.bool OT))]⟩
def N1:Qx:=nT (q_.take 21)
def k7_3:Qx:=y3 P 16 sA
def N0:Qx:=⟨(.type "type"),OO,(.cls ⟨"EdgeError",[(.type "ValueError")],[(.ref 38),(.type "ValueError"),(.type "Exception"),(.type "BaseException"),(.type "object")],37,"EdgeError",OT,[],[(.ref 59),(.ref 79),(.ref 98),(.ref 117),(.ref 137)],OW,OO,OW⟩),#[(on (.ref 22)),OO,(on ZO),(on W_),(on (.builtin "ValueError.__new__")),(on (.bool OT))]⟩
def NZ:Qx:=nT (q_.take 24)
def k8_3:Qx:=y3 P 17 sA
def NY:Qx:=nT (q_.take 42)
noncomputable def k9_3:Qx:=y3 P 27 (.str "edgetally.counts" 432)
def Mo:Qx:=nT (q_.take 66)
noncomputable def Ol:Qx:=y3 P 35 (.str "edgetally.fits" 475)
def Mj:Qx:=nT (q_.take 90)
def Oj:Qx:=y3 P 44 O_
def Mh:Qx:=nT (q_.take 99)
def Oi:Qx:=y3 P 47 O_
def Mf:Qx:=nT (q_.take 102)
def Oh:Qx:=y3 P 48 O_
def Md:Qx:=nT (q_.take 123)
noncomputable def Og:Qx:=y3 P 55 (.str "edgetally.means" 693)
def Mb:Qx:=nT (q_.take 147)
noncomputable def Of:Qx:=⟨(.type "dict"),OO,(.dict ((mL P).take 63).toArray 63),#[]⟩
def L9:Qx:=nT (q_.take 171)
noncomputable def Oe:Qx:=⟨(.type "dict"),OO,(.dict ((mL P).take 71).toArray 71),#[]⟩
def L7:Qx:=nT (q_.take 195)
noncomputable def Od:Qx:=⟨(.type "dict"),OO,(.dict ((mL P).take 79).toArray 79),#[]⟩
def kL:a0L:=((Yt P).objs.toList.set 3 (b3 P))++[b7,b12,b13,b14]++rrA++[b22,b23,b24 P,b7,b26,b27,b28]++rrB++[b36,b37 P,b38,b39,b40,b41]++uE P 3 42 224 10 "BadSums" "BadSums.__init__" ["these sums are no table's"] ["self","why"] []++uE P 4 62 249 14 "BadBounds" "BadBounds.__init__" ["these bounds are no table's"] ["self","why"] []++uE P 5 82 274 18 "TooWide" "TooWide.__init__" [] ["self","wide"] ["wide"]++uE P 6 101 299 23 "Barred" "Barred.__init__" [] ["self","over","into"] ["into","over"]++uE P 7 120 326 29 "BadCell" "BadCell.__init__" ["there is no such cell"] ["self","why"] []++uE P 8 140 351 33 "BadNumber" "BadNumber.__init__" ["this number is out of its bounds"] ["self","why"] []++[b160,b161 P]++rrC++Z1++Z0++ZH++ZG++[b7,b23,b311 P,b7,b313,b314,b315,b316 P]++rrH++rrI++[b390,b391 P,b392,b393,b394,b395,b396]++PC++ll
abbrev ZU:Qg:=Yt P
def h1H:Qg:=⟨⟨(((kL P).take 15).set 3 (YL P)).set 12 (nO [])⟩,{}⟩
def k1H:Qg:=⟨⟨(((kL P).take 22).set 3 (k1_3 P)).set 12 (Oc)⟩,{}⟩
def k2H:Qg:=⟨⟨((((kL P).take 42).set 3 (k2_3 P)).set 12 (Ob)).set 38 (Oa)⟩,{}⟩
def k3H:Qg:=⟨⟨((((kL P).take 62).set 3 (k3_3 P)).set 12 (N9)).set 38 (N8)⟩,{}⟩
def k4H:Qg:=⟨⟨((((kL P).take 82).set 3 (k4_3 P)).set 12 (N7)).set 38 (N6)⟩,{}⟩
def k5H:Qg:=⟨⟨((((kL P).take 101).set 3 (k5_3 P)).set 12 (N5)).set 38 (N4)⟩,{}⟩
def k6H:Qg:=⟨⟨((((kL P).take 120).set 3 (k6_3 P)).set 12 (N3)).set 38 (N2)⟩,{}⟩
def k7H:Qg:=⟨⟨((((kL P).take 140).set 3 (k7_3 P)).set 12 (N1)).set 38 (N0)⟩,{}⟩
def k8H:Qg:=⟨⟨(((kL P).take 160).set 3 (k8_3 P)).set 12 (NZ)⟩,{}⟩
def k9H:Qg:=⟨⟨(((kL P).take 198).set 3 (k9_3 P)).set 12 (NY)⟩,{}⟩
def Mp:Qg:=⟨⟨(((kL P).take 246).set 3 (Ol P)).set 12 (Mo)⟩,{}⟩
def Ml:Qg:=⟨⟨(((kL P).take 292).set 3 (Oj P)).set 12 (Mj)⟩,{}⟩
def Mi:Qg:=⟨⟨(((kL P).take 309).set 3 (Oi P)).set 12 (Mh)⟩,{}⟩
def Mg:Qg:=⟨⟨(((kL P).take 397).set 3 (Oh P)).set 12 (Mf)⟩,{}⟩
def Me:Qg:=⟨⟨(((kL P).take 442).set 3 (Og P)).set 12 (Md)⟩,{}⟩
def Mc:Qg:=⟨⟨(((kL P).take 488).set 3 (Of P)).set 12 (Mb)⟩,{}⟩
def Ma:Qg:=⟨⟨(((kL P).take 532).set 3 (Oe P)).set 12 (L9)⟩,{}⟩
def L8:Qg:=⟨⟨(((kL P).take 588).set 3 (Od P)).set 12 (L7)⟩,{}⟩
noncomputable def vZ:Qg:=⟨⟨kL P⟩,{}⟩
end
noncomputable def aH:a0p:=[2,3]++gA 29 llB++[37,38,127,133,134,136,137,160,161,165,166]++gA 167 llD++gA 198 llE++gA 231 llF++gA 268 llG++[316,322,323,343,344,350,351,362,363,381,382,391,392]++gA 397 llJ++gA 449 llK
def KH(P:Xf):Pk:=aH.map λi=>(i,(kL P).getD i (tO []))
theorem eH:∀P,aH=(KH P).map (·.1):=λ_=>by kernel_rfl
noncomputable def qH:PN:={PySem.Challenge.pw_edgetally_k49_means_small with main:={PySem.Challenge.pw_edgetally_k49_means_small.main with body:=[dr 0,dr 2,dr 3,dr 4,dr 5,dr 6,dr 7,dr 8,dr 10,dr 11,dr 12,dr 13,dr 15,dr 16,dr 17,dr 18,dr 19,dr 21,dr 22,dr 23,dr 24,dr 25,dr 27,dr 28,dr 29,dr 30,dr 31,dr 32,dr 33,dr 35,dr 36,dr 37,dr 38,dr 39,dr 40,dr 41,dr 42,dr 43,dr 45,dr 46,dr 47,dr 48,dr 49,dr 50,dr 51,dr 52,dr 54,dr 55,dr 56,dr 57,dr 58,dr 59,dr 60,dr 61,dr 62,dr 63,dr 64,dr 65,dr 66,dr 67,dr 68,dr 69,dr 70,dr 71,dr 72,dr 73,dr 74,dr 75,dr 76,dr 77]}}
noncomputable abbrev lvH:List (PX×PySem.W.WData):=[("FREE",PySem.W.WData.tuple [W9 0,W9 40])]
noncomputable abbrev loH:a0i:=["BadSums","BadBounds","BadCell","BadNumber","FREE","free","Net"]
abbrev hkH:=PySem.W.kHook KH aH eH
def xtH(s:O3):Bool:=PySem.W.xlAt qH lvH s&&PySem.W.recOk (PySem.W.RowW.records (RE (R0 P6))) s
noncomputable abbrev pH:PN:=Xg (RE (R0 P6))
noncomputable def nj:a0Q:=PySem.W.behindTheImports pH
noncomputable def n_:Wu:={scope:=pH.main.scope,locals:=mainNs,globals:=mainNs,cells:=[],code:=(.ref 13),frame:=(on 14)}
def cH:Code:= .body nj n_
noncomputable abbrev nw:List Frame:=[PySem.W.topFrame ⟨0,0,0,0⟩]
theorem opH(w:PV):(PySem.W.fencedOpening PY pH w 8236).map (λs=>(s.heap,s.gens,s.drawn,s.toks))=on (ZU w.params,#[],{},181):=by kernel_rfl
theorem szH(w:PV):((ZU w.params).isNs RB&&(#[]:Array GenState).size==0,(ZU w.params).objs.size,(ZU w.params).nsMap RB "__annotations__")=(OT,11,(on (.ref 6))):=by kernel_rfl
theorem r1H(w:PV)(D:RK):PySem.W.topGo PY pH w 11 (on (.ref 6)) 12 ⟨ZU w.params,#[],{},181,D⟩ (Zc pH)=on (⟨h1H w.params,#[],{},187,D⟩,⟨denote PY (.body nj n_),cH,⟨0,0,0,0⟩,nw⟩):=by kernel_rfl
theorem r2H(w:PV)(D:RK):Qj PY pH w 11 (on (.ref 6)) 1 1 ⟨h1H w.params,#[],{},187,D⟩ (PySem.W.blockOf nj n_ cH ⟨0,0,0,0⟩ nw)=on (.next,⟨h1H w.params,#[],{},187,D⟩,cH,⟨0,0,0,0⟩):=by kernel_rfl
theorem c1H(w:PV)(D:RK):Qj PY pH w 11 (on (.ref 6)) 1 39 ⟨h1H w.params,#[],{},187,D⟩ (Qc (nj.take 2) n_ cH ⟨0,0,0,0⟩ nw)=on (.next,⟨k1H w.params,#[],{},196,D⟩,cH,⟨4,0,4,8⟩):=by kernel_rfl
theorem c2H(w:PV)(D:RK):Qj PY pH w 11 (on (.ref 6)) 1 220 ⟨k1H w.params,#[],{},196,D⟩ (Qc ((nj.drop 2).take 1) n_ cH ⟨4,0,4,8⟩ nw)=on (.next,⟨k2H w.params,#[],{},224,D⟩,cH,⟨5,0,9,24⟩):=by kernel_rfl
theorem c3H(w:PV)(D:RK):Qj PY pH w 11 (on (.ref 6)) 1 247 ⟨k2H w.params,#[],{},224,D⟩ (Qc (((nj.drop 2).drop 1).take 1) n_ cH ⟨5,0,9,24⟩ nw)=on (.next,⟨k3H w.params,#[],{},249,D⟩,cH,⟨10,0,13,45⟩):=by kernel_rfl
theorem c4H(w:PV)(D:RK):Qj PY pH w 11 (on (.ref 6)) 1 247 ⟨k3H w.params,#[],{},249,D⟩ (Qc ((((nj.drop 2).drop 1).drop 1).take 1) n_ cH ⟨10,0,13,45⟩ nw)=on (.next,⟨k4H w.params,#[],{},274,D⟩,cH,⟨14,0,17,47⟩):=by kernel_rfl
theorem c5H(w:PV)(D:RK):Qj PY pH w 11 (on (.ref 6)) 1 246 ⟨k4H w.params,#[],{},274,D⟩ (Qc (((((nj.drop 2).drop 1).drop 1).drop 1).take 1) n_ cH ⟨14,0,17,47⟩ nw)=on (.next,⟨k5H w.params,#[],{},299,D⟩,cH,⟨18,0,22,24⟩):=by kernel_rfl
theorem c6H(w:PV)(D:RK):Qj PY pH w 11 (on (.ref 6)) 1 248 ⟨k5H w.params,#[],{},299,D⟩ (Qc ((((((nj.drop 2).drop 1).drop 1).drop 1).drop 1).take 1) n_ cH ⟨18,0,22,24⟩ nw)=on (.next,⟨k6H w.params,#[],{},326,D⟩,cH,⟨23,0,28,30⟩):=by kernel_rfl
theorem c7H(w:PV)(D:RK):Qj PY pH w 11 (on (.ref 6)) 1 247 ⟨k6H w.params,#[],{},326,D⟩ (Qc (((((((nj.drop 2).drop 1).drop 1).drop 1).drop 1).drop 1).take 1) n_ cH ⟨23,0,28,30⟩ nw)=on (.next,⟨k7H w.params,#[],{},351,D⟩,cH,⟨29,0,32,45⟩):=by kernel_rfl
theorem c8H(w:PV)(D:RK):Qj PY pH w 11 (on (.ref 6)) 1 247 ⟨k7H w.params,#[],{},351,D⟩ (Qc ((((((((nj.drop 2).drop 1).drop 1).drop 1).drop 1).drop 1).drop 1).take 1) n_ cH ⟨29,0,32,45⟩ nw)=on (.next,⟨k8H w.params,#[],{},376,D⟩,cH,⟨33,0,36,47⟩):=by kernel_rfl
theorem c9H(w:PV)(D:RK):Qj PY pH w 11 (on (.ref 6)) 1 237 ⟨k8H w.params,#[],{},376,D⟩ (Qc (((((((((nj.drop 2).drop 1).drop 1).drop 1).drop 1).drop 1).drop 1).drop 1).take 12) n_ cH ⟨33,0,36,47⟩ nw)=on (.next,⟨k9H w.params,#[],{},434,D⟩,cH,⟨74,0,74,8⟩):=by kernel_rfl
theorem c10H(w:PV)(D:RK):Qj PY pH w 11 (on (.ref 6)) 1 237 ⟨k9H w.params,#[],{},434,D⟩ (Qc ((((((((((nj.drop 2).drop 1).drop 1).drop 1).drop 1).drop 1).drop 1).drop 1).drop 12).take 9) n_ cH ⟨74,0,74,8⟩ nw)=on (.next,⟨Mp w.params,#[],{},495,D⟩,cH,⟨112,0,113,56⟩):=by kernel_rfl
theorem c11H(w:PV)(D:RK):Qj PY pH w 11 (on (.ref 6)) 1 245 ⟨Mp w.params,#[],{},495,D⟩ (Qc (((((((((((nj.drop 2).drop 1).drop 1).drop 1).drop 1).drop 1).drop 1).drop 1).drop 12).drop 9).take 10) n_ cH ⟨112,0,113,56⟩ nw)=on (.next,⟨Ml w.params,#[],{},559,D⟩,cH,⟨143,0,144,70⟩):=by kernel_rfl
theorem c12H(w:PV)(D:RK):Qj PY pH w 11 (on (.ref 6)) 1 89 ⟨Ml w.params,#[],{},559,D⟩ (Qc ((((((((((((nj.drop 2).drop 1).drop 1).drop 1).drop 1).drop 1).drop 1).drop 1).drop 12).drop 9).drop 10).take 3) n_ cH ⟨143,0,144,70⟩ nw)=on (.next,⟨Mi w.params,#[],{},585,D⟩,cH,⟨161,0,170,112⟩):=by kernel_rfl
theorem c13H(w:PV)(D:RK):Qj PY pH w 11 (on (.ref 6)) 1 547 ⟨Mi w.params,#[],{},585,D⟩ (Qc (((((((((((((nj.drop 2).drop 1).drop 1).drop 1).drop 1).drop 1).drop 1).drop 1).drop 12).drop 9).drop 10).drop 3).take 1) n_ cH ⟨161,0,170,112⟩ nw)=on (.next,⟨Mg w.params,#[],{},693,D⟩,cH,⟨171,0,211,16⟩):=by kernel_rfl
theorem c14H(w:PV)(D:RK):Qj PY pH w 11 (on (.ref 6)) 1 238 ⟨Mg w.params,#[],{},693,D⟩ (Qc ((((((((((((((nj.drop 2).drop 1).drop 1).drop 1).drop 1).drop 1).drop 1).drop 1).drop 12).drop 9).drop 10).drop 3).drop 1).take 8) n_ cH ⟨171,0,211,16⟩ nw)=on (.next,⟨Me w.params,#[],{},773,D⟩,cH,⟨237,0,241,33⟩):=by kernel_rfl
theorem c15H(w:PV)(D:RK):Qj PY pH w 11 (on (.ref 6)) 1 240 ⟨Me w.params,#[],{},773,D⟩ (Qc (((((((((((((((nj.drop 2).drop 1).drop 1).drop 1).drop 1).drop 1).drop 1).drop 1).drop 12).drop 9).drop 10).drop 3).drop 1).drop 8).take 9) n_ cH ⟨237,0,241,33⟩ nw)=on (.next,⟨Mc w.params,#[],{},839,D⟩,cH,⟨292,0,293,57⟩):=by kernel_rfl
theorem c16H(w:PV)(D:RK):Qj PY pH w 11 (on (.ref 6)) 1 223 ⟨Mc w.params,#[],{},839,D⟩ (Qc ((((((((((((((((nj.drop 2).drop 1).drop 1).drop 1).drop 1).drop 1).drop 1).drop 1).drop 12).drop 9).drop 10).drop 3).drop 1).drop 8).drop 9).take 8) n_ cH ⟨292,0,293,57⟩ nw)=on (.next,⟨Ma w.params,#[],{},897,D⟩,cH,⟨332,0,333,99⟩):=by kernel_rfl
theorem c17H(w:PV)(D:RK):Qj PY pH w 11 (on (.ref 6)) 1 249 ⟨Ma w.params,#[],{},897,D⟩ (Qc (((((((((((((((((nj.drop 2).drop 1).drop 1).drop 1).drop 1).drop 1).drop 1).drop 1).drop 12).drop 9).drop 10).drop 3).drop 1).drop 8).drop 9).drop 8).take 8) n_ cH ⟨332,0,333,99⟩ nw)=on (.next,⟨L8 w.params,#[],{},969,D⟩,cH,⟨363,0,377,28⟩):=by kernel_rfl
theorem c18H(w:PV)(D:RK):Qj PY pH w 11 (on (.ref 6)) 1 27 ⟨L8 w.params,#[],{},969,D⟩ (Qc ((((((((((((((((((nj.drop 2).drop 1).drop 1).drop 1).drop 1).drop 1).drop 1).drop 1).drop 12).drop 9).drop 10).drop 3).drop 1).drop 8).drop 9).drop 8).drop 8).take 1) n_ cH ⟨363,0,377,28⟩ nw)=on (.next,⟨vZ w.params,#[],{},975,D⟩,cH,⟨378,0,403,86⟩):=by kernel_rfl
theorem e0H:((((((((((((((((((nj.drop 2).drop 1).drop 1).drop 1).drop 1).drop 1).drop 1).drop 1).drop 12).drop 9).drop 10).drop 3).drop 1).drop 8).drop 9).drop 8).drop 8).drop 1)=[]:=by kernel_rfl
theorem r9H(w:PV)(D:RK):Zy PY pH w 11 (on (.ref 6)) 2 ⟨vZ w.params,#[],{},975,D⟩ ⟨PySem.W.doneF .next,cH,⟨378,0,403,86⟩,nw⟩=on ⟨vZ w.params,#[],{},975,D⟩:=by kernel_rfl
theorem rnH(w:PV)(D:RK):Zy PY pH w 11 (on (.ref 6)) (12+(1+(39+(220+(247+(247+(246+(248+(247+(247+(237+(237+(245+(89+(547+(238+(240+(223+(249+(27+2)))))))))))))))))))) ⟨ZU w.params,#[],{},181,D⟩ (Zc pH)=on ⟨vZ w.params,#[],{},975,D⟩:=PySem.W.go_top (r1H w D) (PySem.W.piece_block (r2H w D) (bz 2 (c1H w D) (bz 1 (c2H w D) (bz 1 (c3H w D) (bz 1 (c4H w D) (bz 1 (c5H w D) (bz 1 (c6H w D) (bz 1 (c7H w D) (bz 1 (c8H w D) (bz 12 (c9H w D) (bz 9 (c10H w D) (bz 10 (c11H w D) (bz 3 (c12H w D) (bz 1 (c13H w D) (bz 8 (c14H w D) (bz 9 (c15H w D) (bz 8 (c16H w D) (bz 8 (c17H w D) (bz 1 (c18H w D) (GI e0H (r9H w D)))))))))))))))))))))
theorem hlH:PySem.W.LeftO pH qH loH xtH (PySem.W.Hook.obs hkH) (PySem.W.Hook.val hkH) 8236:=PySem.W.LeftO.of_pieces (H₀:=ZU) (H₁:=vZ) opH szH rnH (by decide +kernel) λw=>by kernel_rfl
theorem wsH:PySem.W.OpenLaw.wellSaid P6=OT:=by decide +kernel
theorem okH:(PySem.W.chainsOk qH&&PySem.W.opensWell (Xg (RE (R0 P6)))&&(PySem.W.frees (RE (R0 P6))&&(PySem.W.RowW.within (RE (R0 P6))).isEmpty))=OT:=by decide +kernel
abbrev adH:Ad:=⟨38,35,fk rrB 6,137,134,fk (uN (.ref 127) .none 0 sA (di (dr 7) 0) "__init__" "BadCell.__init__" 128 339 31 2 ["self","why"]) 6,392,166,fk rrC 4,171,fk Z1 4,178,fk Z1 11,185,fk Z1 18,192,fk Z1 25,197,fk Z1 30,204,fk Z0 6,211,fk Z0 13,218,fk Z0 20,225,fk Z0 27,230,fk Z0 32,235,fk ZH 4,240,fk ZH 9,245,fk ZH 14,250,fk ZH 19,255,fk ZH 24,260,fk ZH 29,267,fk ZH 36,274,fk ZG 6,281,fk ZG 13,286,fk ZG 18,291,fk ZG 23,296,fk ZG 28,303,fk ZG 35,308,fk ZG 40,403,fk PC 6,410,fk PC 13,417,fk PC 20,422,fk PC 25,429,fk PC 32,434,fk PC 37,441,fk PC 44,448,fk PC 51,453,fk ll 4,460,fk ll 11,465,fk ll 16,470,fk ll 21,477,fk ll 28,482,fk ll 33,487,fk ll 38,492,fk ll 43,497,fk ll 48,504,fk ll 55,509,fk ll 60,514,fk ll 65,519,fk ll 70,524,fk ll 75,531,fk ll 82,538,fk ll 89,545,fk ll 96,552,fk ll 103,559,fk ll 110,566,fk ll 117,573,fk ll 124,580,fk ll 131,587,fk ll 138,323,fk rrH 6,344,fk rrI 20,351,fk rrI 27,382,fk rrI 58,363,fk rrI 39,592,fk ll 143⟩
section
variable{P:Xf}{h:Qg}{l:a0j}
theorem fH{x q:PX}{s:Qk}{f:OS}{a b d h cd w:OX}{e:a0A}(l:(KH P).lookup f=on (fO (FN x q s a b d h e cd w)):=by kernel_rfl)(c:Um (KH P) cd q=OT:=by kernel_rfl)(k:U7 (KH P) (.ref f)=OT:=by kernel_rfl):hV (KH P) x q s f (FN x q s a b d h e cd w):=JW l c k
theorem mO(X:(KH P).In h)(G:h.Ns RB l){n:PX}{v:OX}(e:PySem.W.nsIn (KH P) RB n=on (on v):=by kernel_rfl):l n=on v:=mg_of X G e
theorem mN(X:(KH P).In h)(G:h.Ns RB l){n:PX}(e:PySem.W.nsIn (KH P) RB n=on OO:=by kernel_rfl):l n=OO:=PySem.W.mg_none_of X G e
theorem nH(X:(KH P).In h)(G:h.Ns RB l):xr (KH P) l adH where
 Ei:=MP (az (rj (u:=(.int 40 378)) (mO X G) nU) (az (rj (u:=(.int 6 382)) (mO X G) nU) (az (rj (u:=(.int 4 380)) (mO X G) nU) (az (rj (u:=(.int 500 526)) (mO X G) nU) (az (fH) (az (mO X G) (az (MK (us:=[(.ref 160)]) 2 rfl (λs us b a=>by obtain⟨c,d,rfl⟩:=lU2 a;exact PySem.W.kp_binds b λS=>by kernel_rfl) (J2 (IC (p:=160) (q1:=(.type "tuple")) (q2:=OO) (q3:=#[(.int 0 384),(.int 40 378)]) (q4:=0) (q5:=#[]) (by kernel_rfl) rfl (by decide) (by repeat (first|exact trivial|refine⟨rfl,?_⟩))) MI)) (az (⟨fH,mO X G,.all (ri λ_ _=>rfl)⟩) (az (⟨fH,mO X G,.all (ri λ_ _=>rfl)⟩) (az (⟨fH,mO X G,.all (Z_ λ_ _ _ _=>rfl)⟩) (az (⟨fH,mO X G,.all (tx λ_=>rfl)⟩) (az (⟨fH,mO X G,.all (pj λ_ _ _=>rfl)⟩) (az (⟨fH,mO X G,.all (tx λ_=>rfl)⟩) (az (⟨fH,mO X G,.all (tx λ_=>rfl)⟩) (az (⟨fH,mO X G,.all (ri λ_ _=>rfl)⟩) (az (⟨fH,mO X G,.all (ri λ_ _=>rfl)⟩) (az (⟨fH,mO X G,.all (pj λ_ _ _=>rfl)⟩) (az (⟨fH,mO X G,.all (ri λ_ _=>rfl)⟩) (az (⟨fH,mO X G,.all (Z_ λ_ _ _ _=>rfl)⟩) (az (⟨fH,mO X G,.all (pj λ_ _ _=>rfl)⟩) (az (⟨fH,mO X G,.all (Z_ λ_ _ _ _=>rfl)⟩) (az (⟨fH,mO X G,.all (pj λ_ _ _=>rfl)⟩) (az (⟨fH,mO X G,.all (tx λ_=>rfl)⟩) (az (⟨fH,mO X G,.all (pj λ_ _ _=>rfl)⟩) (az (⟨fH,mO X G,.all (tx λ_=>rfl)⟩) (az (⟨fH,mO X G,.all (pj λ_ _ _=>rfl)⟩) (az (⟨fH,mO X G,.all (Z_ λ_ _ _ _=>rfl)⟩) (az (⟨fH,mO X G,.all (ri λ_ _=>rfl)⟩) (az (⟨fH,mO X G,.all (pj λ_ _ _=>rfl)⟩) (az (⟨fH,mO X G,.all (pj λ_ _ _=>rfl)⟩) (az (⟨fH,mO X G,.all (pj λ_ _ _=>rfl)⟩) (az (⟨fH,mO X G,.all (ri λ_ _=>rfl)⟩) (az (⟨fH,mO X G,.all (pj λ_ _ _=>rfl)⟩) (az (⟨fH,mO X G,.all (Z_ λ_ _ _ _=>rfl)⟩) (az (⟨fH,mO X G,.all (ri λ_ _=>rfl)⟩) (az (⟨fH,mO X G,.all λus a=>by obtain⟨_,_,_,_,_,rfl⟩:=lU5 a;rfl⟩) (az (⟨fH,mO X G,.all (pj λ_ _ _=>rfl)⟩) (az (⟨fH,mO X G,.all (pj λ_ _ _=>rfl)⟩) (az (⟨fH,mO X G,.all (pj λ_ _ _=>rfl)⟩) (az (⟨fH,mO X G,.all (tx λ_=>rfl)⟩) (az (⟨fH,mO X G,.all (ri λ_ _=>rfl)⟩) (az (⟨fH,mO X G,.all (ri λ_ _=>rfl)⟩) (az (⟨fH,mO X G,.all (Z_ λ_ _ _ _=>rfl)⟩) (az (⟨fH,mO X G,.all (tx λ_=>rfl)⟩) (az (⟨fH,mO X G,.all (tx λ_=>rfl)⟩) (az (⟨fH,mO X G,.all (tx λ_=>rfl)⟩) (az (⟨fH,mO X G,.all (tx λ_=>rfl)⟩) (az (⟨fH,mO X G,.all (ri λ_ _=>rfl)⟩) (az (⟨fH,mO X G,.all (ri λ_ _=>rfl)⟩) (az (⟨fH,mO X G,.all (tx λ_=>rfl)⟩) (az (⟨fH,mO X G,.all (pj λ_ _ _=>rfl)⟩) (az (⟨fH,mO X G,.all (ri λ_ _=>rfl)⟩) (az (⟨fH,mO X G,.all (pj λ_ _ _=>rfl)⟩) (az (⟨fH,mO X G,.all (ri λ_ _=>rfl)⟩) (az (⟨fH,mO X G,.all (tx λ_=>rfl)⟩) (az (⟨fH,mO X G,.all (tx λ_=>rfl)⟩) (az (⟨fH,mO X G,.all (tx λ_=>rfl)⟩) (az (⟨fH,mO X G,.all (ri λ_ _=>rfl)⟩) (az (⟨fH,mO X G,.all (ri λ_ _=>rfl)⟩) (az (⟨fH,mO X G,.all (ri λ_ _=>rfl)⟩) (az (⟨fH,mO X G,.all (ri λ_ _=>rfl)⟩) (az (⟨fH,mO X G,.all (pj λ_ _ _=>rfl)⟩) (az (fH) (az (⟨by kernel_rfl,by kernel_rfl,by kernel_rfl,by kernel_rfl⟩) (az (NX (sv:=[.kw 0]) (.kw .nil) rfl (by decide) λs us g b e f=>by obtain⟨c,d,i,rfl⟩:=lU3 e;obtain⟨j,rfl⟩:=lU1 f;exact .of_eq rfl) (az (fH) (az (⟨by kernel_rfl,by kernel_rfl,by kernel_rfl⟩) (az (.all (tx λ_=>rfl)) (az (fH) (az (⟨by kernel_rfl,by kernel_rfl,by kernel_rfl⟩) (az (.all (tx λ_=>rfl)) (az (fH) (az (⟨by kernel_rfl,by kernel_rfl,by kernel_rfl⟩) (az (.all (pj λ_ _ _=>rfl)) (az (fH) (az (⟨by kernel_rfl,by kernel_rfl,by kernel_rfl⟩) (az (.all (pj λ_ _ _=>rfl)) (az (⟨by kernel_rfl,by kernel_rfl,by kernel_rfl,by kernel_rfl⟩) (az (mO X G) (az (show RX (KH P) _ _=_ by kernel_rfl) (az (show RX (KH P) _ _=_ by kernel_rfl) (az (show RX (KH P) _ _=_ by kernel_rfl) (az (show RX (KH P) _ _=_ by kernel_rfl) (az (fH) (az (.all (pj λ_ _ _=>rfl)) (az (mO X G) (az (fH) (az (λs us b a=>by rw[PU]at a;obtain⟨_,_,rfl⟩:=lU2 a;exact BindsTo.of_defaults (T:=127) rfl (b _ _ (show(KH P).lookup 127=on (tS 338 ["there is no such cell"]) by kernel_rfl)) rfl rfl rfl) (az (mO X G) (az (⟨MZ (N:=136) (nm:="BadCell") (q:="BadCell") (bs:=[(.ref 38)]) (bm:=eTt) (hdct:=OT) (sn:=[]) (sub:=[]) (ab:=OW) (col:=OO) (dd:=OO) (k0:=(on (.ref 120))) (k1:=OO) (k2:=(on (.str "BadCell" 326))) (k3:=(on (.str "BadCell" 334))) (k5:=(on (.bool OT))) (cd:=⟨"BadCell",[(.ref 38)],[(.ref 137),(.ref 38),(.type "ValueError"),(.type "Exception"),(.type "BaseException"),(.type "object")],136,"BadCell",OT,[],[],OW,OO,OW⟩) (by kernel_rfl) (by kernel_rfl) (by kernel_rfl) (by kernel_rfl),by kernel_rfl,by kernel_rfl,by kernel_rfl⟩) (az (by kernel_rfl) (az (⟨by kernel_rfl,by kernel_rfl,by kernel_rfl,by kernel_rfl⟩) trivial))))))))))))))))))))))))))))))))))))))))))))))))))))))))))))))))))))))))))))))))))))))))))))
 Ej:=mN X G
 Ek:=mN X G
 El:=mN X G
 Em:=mN X G
 En:=mN X G
 Eo:=mN X G
 Ep:=mN X G
 Er:=mN X G
 Es:=mN X G
 Et:=mN X G
 Eu:=mN X G
 Ev:=mN X G
 Ew:=mN X G
 Ex:=mN X G
 Ey:=mN X G
 Ez:=mN X G
 E3:=mN X G
 E4:=mN X G
theorem wlkH:PySem.W.WalkO qH loH (PySem.W.XL qH lvH) (PySem.W.Hook.says hkH) (RE (R0 P6)) (Option.get (PySem.W.defOf qH "law") rfl).1 [] (λf D=>YR f D):=
 L2.walk_of (n:=63) (k:=9) (x:="_law_script") (CX:=λw=>gs _ w) (sp:=λw=>Hj (KH w.params)) rfl (by decide) rfl ⟨rfl,by decide,by decide,rfl⟩ (λw h Y=>PySem.W.kIn_of Y) (λw l i h c G b=>by
  have e:=b.symm.trans (mg_of c G (v:= .ref 592) (by kernel_rfl));cases e;exact⟨FN "law" "law" (dr 77) .none .none .none (.str "law_edgetally_k49_means_small" 786) OO (.ref 591) .none,λs v=> .of_eq rfl,λbase _ _=>LG (a:=adH) (fH (by kernel_rfl) (by kernel_rfl) (by kernel_rfl)) (nH c G) λE M=>Gu (K:=KH w.params) (a:=adH) (by kernel_rfl) E M⟩) (λ_ _ a P d _ g=>⟨a,P,rfl,g,d,λ_=>rfl⟩) λ_ _ _ _ _ h=>by obtain⟨x,C,j,_,fl⟩:=h;obtain⟨_,_,z⟩:=fl.wish;all_goals exact z
end
end Law
open PySem.W
set_option maxHeartbeats 0 in
theorem PySem.Challenge.cw_edgetally_k49_means_small_holds : PySem.Challenge.rw_edgetally_k49_means_small.Holds := by
 w_on
 refine holds_law Law.wsH λsaid=>?_;refine holds_open (q:=Law.qH) (loose:=Law.loH) (Xt:=Law.xtH) (XP:=XL Law.qH Law.lvH) (Yf:=Hook.obs Law.hkH) (Ya:=Hook.val Law.hkH) (YP:=Hook.says Law.hkH) (N:=8236) Law.hlH (Hook.of Law.hkH) (Hook.keeps Law.hkH) (λs e=>xl_of s (Ym.mp e).1) XL.keeps (by rfl) (by rfl) (by rfl) (λs e=>recFacts_of (Ym.mp e).2) (by rfl) said Law.okH ⟨rfl,rfl,rfl,rfl,rfl,by decide +kernel⟩ ?hw ?hc
 case hw=>w_witness2
 exact Law.wlkH
